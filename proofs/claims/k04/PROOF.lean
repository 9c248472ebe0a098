import PyProof.Rows.All
import Wide.All
import OpenK.AllK
import Wide.FinOn
import Lean
import PyProof.EqAt
import PyProof.EqKinds
import PyProof.TupleCall
import PyProof.NeKinds
import PyProof.SliceStr2
import PyProof.ConsumeWalk
import KE.KDictSum
import PyProof.DictWalks
import PyProof.AttrMissSeq
import KE.KDictOf
import PyProof.WalksS
import PyProof.Walks
import PyProof.DictList
import PyProof.MeetsDict
import PyProof.FactsAll.dict_3
import PyProof.MinMaxWalk
import PyProof.WalkInts
import PyProof.Rows.CallKwBuiltin
import PyProof.MaxThree
import PyProof.Rows.SortRunsK
import KE.KSortAsk
import PyProof.Rows.SortShellK
import KE.KSortTup
import PyProof.DictRoadsH
import PyProof.DictIter
import KE.KDictList
import PyProof.ZipIter
import PyProof.TupleIter
import PyProof.WalksMore
import PyProof.SumWalkG
import PyProof.DictValues
import PyProof.FactsAll.dict_4
import PySem.SetOps
import OpenK.KMore
import PyProof.ListRange
import PyProof.DictItems
import PyProof.CallStr
import KE.KIntText
import PyProof.StrCalls2
import PyProof.Rows.StrItems
import PyProof.FactsAll.NoneType
import KE.KTryOn
import PyProof.Draws
import PyProof.EnumMake
import PyProof.Rows.Range3
import KE.KRevIter
import PyProof.ListStr
import PyProof.NsDelKeeps
import PyProof.RulesAs
import KE.KIsAll
import PyProof.ExcArgsOwn
import KE.KFind
import PyProof.ExcInit
import KE.KTryMore
import PySem.Challenge.RW_wirechannel_k04_not_texts
set_option hygiene false
set_option compiler.extract_closed false
noncomputable section
local macro_rules | `(tactic| omega) => `(tactic| lia)
set_option Elab.async false
set_option linter.all false
set_option maxRecDepth 100000
def aa:=@List.length_map
def ae:=@PySem.wpAny_bind
def af:=@List.mem_cons
def ag:=@List.getElem?_eq_getElem
def ah:=@List.mem_of_getElem?
def ai:=@List.size_toArray
def aj:=@List.map_cons
def ao:=@List.getElem?_eq_some_iff
def aq:=@List.map_append
def ar:=@PySem.wpAny_pure
def au:=@List.mem_append
def av:=@PySem.Heap.get?_push_of_some
def aw:=@List.length_append
def ax:=@PySem.Heap.lt_size
def ay:=@List.length_take
def az:=@Nat.le_refl
def aA:=@List.mem_cons_of_mem
def aB:=@List.length_cons
def aD:=@List.mem_map
def aE:=@List.getD_eq_getElem?_getD
def aF:=@List.mem_singleton
def aG:=@Bool.false_ne_true
def aH:=@List.not_mem_nil
def aI:=@Nat.ne_of_lt
def aJ:=@Nat.lt_of_lt_of_le
def aK:=@Int.emod_nonneg
def aL:=@List.length_drop
def aM:=@Int.emod_lt_of_pos
def aN:=@List.nodup_cons
def aO:=@Array.length_toList
def aP:=@PySem.Heap.get?_push_size
def aQ:=@List.map_map
def aR:=@Bool.false_eq_true
def aS:=@List.mem_append_right
def aT:=@List.getElem?_map
def aU:=@PySem.W.mg_none_of
def aV:=@List.filterMap_cons
def aW:=@decide_eq_false
def aX:=@Int.eq_ofNat_of_zero_le
def aY:=@Nat.le_trans
def aZ:=@PySem.W.mg_of
def a9:=@decide_eq_true
def ba:=@PySem.wpAny_holding
def bb:=@List.map_congr_left
def bc:=@List.mem_or_eq_of_mem_set
def bf:=@List.forall_mem_cons
def bg:=@List.map_nil
def bh:=@List.mem_map_of_mem
namespace L2
open PySem PySem.Spec PyProof.Rows
noncomputable abbrev Key:=Sum Int Str
noncomputable def Gs:Key->Value->Bool
 | .inl k,v=>Value.isInt k v
 | .inr x,v=>Value.isStrOf x v
noncomputable def Lz(w:World):Key->Int
 | .inl k=>hashInt k
 | .inr x=>hashStr w x
theorem r8:∀{k:Key} {v:Value},Gs k v=true->(∃i t,k=Sum.inl i/\v=Value.int i t)\/(∃x t,k=Sum.inr x/\v=Value.str x t)
 | .inl i,v,h=>by
  obtain⟨t,e⟩:=Value.isInt_shape (k:=i) (v:=v) h;exact .inl ⟨i,t,rfl,e⟩
 | .inr x,v,h=>by
  obtain⟨t,e⟩:=Value.isStrOf_shape (x:=x) (v:=v) h;exact .inr ⟨x,t,rfl,e⟩
theorem ND(a b:Int):decide ((Sum.inl a:Key)=Sum.inl b)=(a==b):=by
 by_cases e:a=b
 ·subst e;simp
 ·have h:¬(Sum.inl a:Key)=Sum.inl b:=fun q=>e (Sum.inl.inj q)
  rw[aW h];exact(beq_eq_false_iff_ne.mpr e).symm
theorem NC(a b:Str):decide ((Sum.inr a:Key)=Sum.inr b)=decide (a=b):=by
 by_cases e:a=b
 ·subst e;simp
 ·have h:¬(Sum.inr a:Key)=Sum.inr b:=fun q=>e (Sum.inr.inj q)
  rw[aW h,aW e]
theorem NB(a:Int)(b:Str):decide ((Sum.inl a:Key)=Sum.inr b)=false:=aW (fun q=>nomatch q)
theorem Nz(a:Str)(b:Int):decide ((Sum.inr a:Key)=Sum.inl b)=false:=aW (fun q=>nomatch q)
noncomputable def HS(prog:Program)(w:World):PySem.KeyKind prog w Key where
 is:=Gs
 hash:=Lz w
 inj:=fun v a b ha hb=>by
  rcases r8 ha with⟨i,t,rfl,rfl⟩ | ⟨x,t,rfl,rfl⟩
  ·rcases r8 hb with⟨j,u,rfl,e⟩ | ⟨y,u,rfl,e⟩
   ·injection e with e1 _;rw[e1]
   ·exact nomatch e
  ·rcases r8 hb with⟨j,u,rfl,e⟩ | ⟨y,u,rfl,e⟩
   ·exact nomatch e
   ·injection e with e1 _;rw[e1]
 byValue:=fun k v h=>by
  rcases r8 h with⟨i,t,rfl,rfl⟩ | ⟨x,t,rfl,rfl⟩<;>rfl
 pyHash:=fun hv h=>by
  rcases r8 hv with⟨i,t,rfl,rfl⟩ | ⟨x,t,rfl,rfl⟩
  ·exact wpAny_pyHash_int h
  ·exact wpAny_pyHash_str h
 eqBool:=fun hu hv h=>by
  rcases r8 hu with⟨i,t,rfl,rfl⟩ | ⟨x,t,rfl,rfl⟩
  ·rcases r8 hv with⟨j,u,rfl,rfl⟩ | ⟨y,u,rfl,rfl⟩
   ·rw[ND] at h;exact wpAny_eqBool_int h
   ·rw[NB] at h;exact SeqAt.EqAt.int_str i t y u _ _ _ _ h
  ·rcases r8 hv with⟨j,u,rfl,rfl⟩ | ⟨y,u,rfl,rfl⟩
   ·rw[Nz] at h;exact SeqAt.EqAt.str_int x t j u _ _ _ _ h
   ·rw[NC] at h;exact wpAny_eqBool_str h
 «strs»:=fun k x t v h=>by
  rcases r8 h with⟨i,u,rfl,e⟩ | ⟨y,u,rfl,e⟩
  ·exact nomatch e
  ·injection e with e1 _
   subst e1;cases v<;>rfl
end L2
namespace L2
open PySem PySem.Spec PyProof.Rows
inductive V where
 | non | bl (b:Bool) | int (i:Int) | str (x:Str) | BN (b:Array UInt8) | BK (b:UInt64) | ref (a:Addr) | ty (n:String)
 deriving DecidableEq
def RelV:V->Value->Prop
 | .non,u=>u=Value.none
 | .bl b,u=>u=Value.bool b
 | .int i,u=>∃t,u=Value.int i t
 | .str x,u=>∃t,u=Value.str x t
 | .BN b,u=>∃t,u=Value.bytes b t
 | .BK b,u=>∃t,u=Value.float b t
 | .ref a,u=>u=Value.ref a
 | .ty n,u=>u=Value.type n
abbrev Vals:List V->List Value->Prop:=Paired RelV
theorem Vals.length{xs:List V}{us:List Value}(r:Vals xs us):xs.length=us.length:=Paired.length r
theorem Vals.get:∀{xs:List V} {us:List Value} {i:Nat} {x:V},Vals xs us->xs[i]?=some x->∃u,us[i]?=some u/\RelV x u
 | _,_,_,_,.nil,e=>by simp at e
 | _,_,0,_,.cons r _,e=>by simp at e;subst e;exact⟨_,rfl,r⟩
 | _,_,i+1,x,.cons _ t,e=>by
  obtain⟨u,h1,h2⟩:=Vals.get (i:=i) (x:=x) t (by simpa using e);exact⟨u,by simpa using h1,h2⟩
theorem Vals.set{x:V}{u:Value}(r:RelV x u):∀{xs:List V} {us:List Value} (i:Nat),Vals xs us->Vals (xs.set i x) (us.set i u)
 | _,_,_,.nil=>.nil
 | _,_,0,.cons _ t=>.cons r t
 | _,_,i+1,.cons q t=>.cons q (Vals.set r i t)
theorem Vals.append{xs ys:List V}{us ws:List Value}(h:Vals xs us)(s:Vals ys ws):Vals (xs++ys) (us++ws):=by
 induction h with
 | nil=>exact s
 | cons r t ih=>exact .cons r ih
theorem Vals.take:∀{xs:List V} {us:List Value} (n:Nat),Vals xs us->Vals (xs.take n) (us.take n)
 | _,_,0,_=>.nil
 | _,_,_+1,.nil=>.nil
 | _,_,n+1,.cons r t=>.cons r (Vals.take n t)
theorem Vals.drop:∀{xs:List V} {us:List Value} (n:Nat),Vals xs us->Vals (xs.drop n) (us.drop n)
 | _,_,0,r=>r
 | _,_,_+1,.nil=>.nil
 | _,_,n+1,.cons _ t=>Vals.drop n t
def nC:Option V->Option Value->Prop
 | some v,some u=>RelV v u
 | none,none=>True
 | _,_=>False
def KV{κ:Type}:List (κ×V)->List (κ×Value)->Prop:=Paired fun(p:κ×V) (q:κ×Value)=>p.1=q.1/\RelV p.2 q.2
noncomputable def kV:Key->V
 | .inl i=>.int i
 | .inr x=>.str x
inductive HO where
 /-- a list -/
 | lst (xs:List V)
 /-- a tuple (never changes) -/
 | tup (xs:List V)
 /-- a dict yC keys are ints and texts;one yC keys are tuples of ints and texts (pF empty one is both) -/
 | dK (cq:List (Key×V)) (ep:Nat) | dT (cq:List (List Key×V)) (bs:List Addr×Nat)
 /-- a set of ints: its members,its size -/
 | set (S:Int->Bool) (n:Nat)
 /-- an instance of pF class at C,its dict at dx,its attributes -/
 | ins (C dx:Addr) (fs:List (Str×V))
 /-- pF dict of pF instance at x -/
 | own (x:Addr)
 /-- pF dict of an exception -/
 | xd (fs:List (Str×V))
 /-- a bound method,f of x -/
 | met (f x:Addr)
 /-- a range object lo,lo+1,.. below hi -/
 | Bt (lo hi:Int)
 /-- a yH T4 is known to pF object (pF qr;a dict while a loop walks it): read,never written while it is so -/
 | ja (o:Obj) (u:HO)
 /-- a code yU table -/
 | tT (ps:Array Value)
 /-- any other yH,by uJ is true of its one object (a def of JT own: V0 a S n:=HO.ext fun h=>..) -/
 | ext (φ:Heap->Prop)
noncomputable abbrev Hp:=Addr->Option HO
noncomputable def upd(H:Hp)(a:Addr)(o:HO):Hp:=fun b=>if b=a then some o else H b
theorem gP{H:Hp}{a:Addr}{o:HO}:upd H a o a=some o:=by unfold upd;rw[if_pos rfl]
theorem cR{H:Hp}{a b:Addr}{o:HO}(h:b≠a):upd H a o b=H b:=by unfold upd;rw[if_neg h]
theorem Mg{H:Hp}{a b:Addr}{o u:HO}(h:H a=some o)(h':H b=some u)(d:o≠u):a≠b:=by
 intro e;subst e;rw[h] at h';exact d (Option.some.inj h')
theorem iM{H:Hp}{a b:Addr}{o:HO}(h:H a=some o)(h':H b=none):a≠b:=by
 intro e;subst e;rw[h] at h';cases h'
section
variable (P:Program) (w:World)
def dG(H:Hp)(h:Heap)(a:Addr):HO->Prop
 | .lst xs=>xs.length<=sizeLine/\∃(its:List Value) (n:Nat),Vals xs its/\h.get? a=some { cls:=.type "list",data:=.seq its.toArray n }
 | .tup xs=>xs.length<=sizeLine/\∃its:List Value,Vals xs its/\IsTup h a its.toArray
 | .dK cq ep=>cq.length<=sizeLine/\(a==sysModules)=false/\∃vs,KV cq vs/\h.DictAt (HS P w) a vs ep
 | .dT cq bs=>cq.length<=sizeLine/\(a==sysModules)=false/\∃xs:List (List Key×Addr×Value),xs.map (fun x=>x.2.1)=bs.1/\
   Paired (fun(p:List Key×V) (q:List Key×Addr×Value)=>p.1=q.1/\H q.2.1=some (.tup (p.1.map kV))/\RelV p.2 q.2.2) cq xs/\
   ∃o es ep,h.get? a=some o/\o.ExactDict/\o.data=.dict es ep/\es.toList=xs.map (entryOfKey (tupleKind (HS P w)))/\(xs.map (·.1)).Nodup/\ep=bs.2
 | .set S n=>h.SetOf (intKind P w) a S n
 | .ins C dx fs=>H dx=some (.own a)/\fs.length<=1000/\dx≠a/\h.get? a=some (PySem.W.instObj C dx)/\
   ∃mA,h.Ns1 dx mA/\(∀f,nC (fs.lookup f) (mA f))/\PySem.Within mA (fs.map (·.1))
 | .own _=>∃o,h.get? a=some o
 | .xd fs=>∃mA,h.Ns1 a mA/\∀f,nC (fs.lookup f) (mA f)
 | .Bt lo hi=>∃t u v,h.get? a=some { cls:=.type "range",data:=.fields #[.int lo t,.int hi u,.int 1 v] }
 | .ja o u=>h.get? a=some o/\dG H h a u
 | .tT ps=>h.get? a=some { cls:=.none,data:=.fields ps }
 | .met f x=>h.get? a=some (PySem.W.methodObj (.ref f) (.ref x))
 | .ext φ=>φ h/\(∃o,h.get? a=some o)/\∀h1 h2:Heap,φ h1->(∀o,h1.get? a=some o->h2.get? a=some o)->φ h2
def jh(H:Hp)(h:Heap):Prop:=∀a o,H a=some o->dG P w H h a o
end
section
variable {P:Program} {w:World} {H H':Hp} {h h':Heap} {a:Addr} {o:HO}
theorem dG.lt(x:dG P w H h a o):a<h.objs.size:=by
 cases o with
 | lst xs=>obtain⟨_,_,_,_,e⟩:=x;exact ax e
 | tup xs=>obtain⟨_,_,_,p⟩:=x;exact p.lt
 | dK cq ep=>obtain⟨_,_,_,_,o,_,e,_⟩:=x;exact ax e
 | dT cq bs=>obtain⟨_,_,_,_,_,o,_,_,e,_⟩:=x;exact ax e
 | set S n=>obtain⟨o,_,_,_,e,_⟩:=x;exact ax e
 | ins C dx fs=>obtain⟨_,_,_,e,_⟩:=x;exact ax e
 | own y=>obtain⟨_,e⟩:=x;exact ax e
 | xd fs=>obtain⟨_,⟨_,_,_,e,_⟩,_⟩:=x;exact ax e
 | Bt lo hi=>obtain⟨_,_,_,e⟩:=x;exact ax e
 | ja ob u=>obtain⟨e,_⟩:=x;exact ax e
 | tT ps=>exact ax (show h.get? a=some _ from x)
 | met f y=>exact ax (show h.get? a=some _ from x)
 | ext φ=>obtain⟨_,⟨_,e⟩,_⟩:=x;exact ax e
theorem Paired.Er{α β:Type}{F G:α->β->Prop}{y7:List α}{y0:List β}(h:Paired F y7 y0)(f:∀a b,F a b->G a b):Paired G y7 y0:=by
 induction h with
 | nil=>exact .nil
 | cons r t ih=>exact .cons (f _ _ r) ih
theorem dG.jX(x:dG P w H h a o)(k:∀b u,(b=a\/H b=some (.own a))->h.get? b=some u->h'.get? b=some u)
  (ho:∀b,H b=some (.own a)->H' b=some (.own a)) (ht:∀b xs,H b=some (.tup xs)->H' b=some (.tup xs)):dG P w H' h' a o:=by
 induction o with
 | lst xs=>obtain⟨z,its,n,r,e⟩:=x;exact⟨z,its,n,r,k _ _ (.inl rfl) e⟩
 | tup xs=>obtain⟨z,its,r,ob,e,c⟩:=x;exact⟨z,its,r,ob,k _ _ (.inl rfl) e,c⟩
 | dK cq ep=>obtain⟨z,y,vs,r,ob,es,e,c⟩:=x;exact⟨z,y,vs,r,ob,es,k _ _ (.inl rfl) e,c⟩
 | dT cq bs=>
  obtain⟨z,y,xs,bq,r,ob,es,ep,e,c⟩:=x;exact⟨z,y,xs,bq,Paired.Er r fun p q z=>⟨z.1,ht _ _ z.2.1,z.2.2⟩,ob,es,ep,k _ _ (.inl rfl) e,c⟩
 | set S n=>obtain⟨ob,es,ep,t,e,c⟩:=x;exact⟨ob,es,ep,t,k _ _ (.inl rfl) e,c⟩
 | ins C dx fs=>
  obtain⟨d,z,ne,e,mA,⟨od,es,ep,e2,c⟩,r⟩:=x;exact⟨ho _ d,z,ne,k _ _ (.inl rfl) e,mA,⟨od,es,ep,k _ _ (.inr d) e2,c⟩,r⟩
 | own y=>obtain⟨ob,e⟩:=x;exact⟨ob,k _ _ (.inl rfl) e⟩
 | xd fs=>obtain⟨mA,⟨od,es,ep,e,c⟩,r⟩:=x;exact⟨mA,⟨od,es,ep,k _ _ (.inl rfl) e,c⟩,r⟩
 | Bt lo hi=>obtain⟨t,u,v,e⟩:=x;exact⟨t,u,v,k _ _ (.inl rfl) e⟩
 | ja ob u ih=>obtain⟨e,q⟩:=x;exact⟨k _ _ (.inl rfl) e,ih q⟩
 | tT ps=>
  have e:h.get? a=some { cls:=.none,data:=.fields ps }:=x;show h'.get? a=some { cls:=.none,data:=.fields ps };exact k a _ (.inl rfl) e
 | met f y=>
  have e:h.get? a=some (PySem.W.methodObj (.ref f) (.ref y)):=x;show h'.get? a=some (PySem.W.methodObj (.ref f) (.ref y));exact k a _ (.inl rfl) e
 | ext φ=>obtain⟨p,⟨o,e⟩,st⟩:=x;exact⟨st _ _ p fun o q=>k _ _ (.inl rfl) q,⟨o,k _ _ (.inl rfl) e⟩,st⟩
theorem jh.lt(x:jh P w H h)(e:H a=some o):a<h.objs.size:=(x a o e).lt
theorem jh.fresh(x:jh P w H h)(e:h.objs.size<=a):H a=none:=by
 cases q:H a with
 | none=>rfl
 | some u=>exact absurd (aJ (x.lt q) e) (Nat.lt_irrefl _)
theorem jh.kept(x:jh P w H h)(k:∀b u,h.get? b=some u->h'.get? b=some u):jh P w H h':=fun a o e=>
 (x a o e).jX (fun b u _ q=>k b u q) (fun _ q=>q) fun _ _ q=>q
theorem jh.laid(x:jh P w H h)(k:∀b u,h.get? b=some u->h'.get? b=some u)(hp:h.objs.size<=a)(new:dG P w (upd H a o) h' a o):jh P w (upd H a o) h':=fun b u e=>by
 have hn:=x.fresh hp;by_cases hb:b=a
 ·subst hb;rw[gP] at e;cases e;exact new
 ·rw[cR hb] at e;exact(x b u e).jX (fun c v _ q=>k c v q) (fun c q=>by rw[cR (iM q hn)];exact q) fun c xs q=>by rw[cR (iM q hn)];exact q
end
def Rd(H:Hp)(a:Addr)(u:HO):Prop:=H a=some u\/∃o,H a=some (.ja o u)
theorem Rd.ok{P:Program}{w:World}{H:Hp}{h:Heap}{a:Addr}{u:HO}(r:Rd H a u)(x:jh P w H h):dG P w H h a u:=by
 rcases r with r | ⟨o,r⟩
 ·exact x a u r
 ·obtain⟨_,q⟩:=x a _ r;exact q
def BS:Option HO->Prop
 | some (.lst _)=>True
 | some (.dK _ _)=>True
 | some (.dT _ _)=>True
 | some (.set _ _)=>True
 | some (.ins _ _ _)=>True
 | some (.ext _)=>True
 | _=>False
section
variable {P:Program} {w:World} {H:Hp} {h h':Heap} {x e:Addr} {o':HO}
theorem jh.write(ok:jh P w H h)(mu:BS (H x))(he:e=x\/H e=some (.own x))(k:∀b u,b≠e->h.get? b=some u->h'.get? b=some u)(wG:∃u,h'.get? e=some u)
  (new:dG P w (upd H x o') h' x o'):jh P w (upd H x o') h':=fun b u q=>by
 have yV:∀c y,H c=some (.own y)->c≠x:=fun c y r z=>by subst z;rw[r] at mu;exact mu
 have Em:∀c xs,H c=some (.tup xs)->c≠x:=fun c xs r z=>by subst z;rw[r] at mu;exact mu
 by_cases hb:b=x
 ·subst hb;rw[gP] at q;cases q;exact new
 ·rw[cR hb] at q;by_cases vj:b=e
  ·have q':H b=some (.own x):=by
    rcases he with z | z
    ·exact absurd (vj.trans z) hb
    ·rw[vj];exact z
   rw[q] at q';cases q';obtain⟨v,hv⟩:=wG;exact⟨v,by rw[vj];exact hv⟩
  ·refine(ok b u q).jX (fun c v hc r=>k c v ?_ r) (fun c r=>by rw[cR (yV c b r)];exact r) fun c xs r=>by rw[cR (Em c xs r)];exact r
   rcases hc with rfl | hc
   ·exact vj
   ·rintro rfl;rcases he with z | z
    ·exact yV c b hc z
    ·rw[hc] at z;cases z;exact hb rfl
end
structure Un (fs ex:List Addr) (H H':Hp) (h h':Heap):Prop where
 keep:∀b o,h.get? b=some o->H b=none->b∉fs->b∉ex->h'.get? b=some o
 slot:∀b o,h.get? b=some o->H b=none->b∈fs->b∉ex->∃sl,h'.get? b=some { o with slots:=sl }
 free:∀b o,h.get? b=some o->H b=none->b∉ex->H' b=none
 there:∀b o,h.get? b=some o->b∉ex->∃o',h'.get? b=some o'
 jG:∀b xs,H b=some (.tup xs)->H' b=some (.tup xs)
 jo:∀b o u,H b=some (.ja o u)->H' b=some (.ja o u)
 jH:∀b ps,H b=some (.tT ps)->∃more,H' b=some (.tT (ps++more))
section
variable {fs BJ ex WJ:List Addr} {H H1 H2:Hp} {h h1 h2 h':Heap} {a x e:Addr} {o:HO}
theorem Un.any(u:Un fs ex H H1 h h1){b:Addr}{ob:Obj}(q:h.get? b=some ob)(n:H b=none)(hx:b∉ex):∃sl,h1.get? b=some { ob with slots:=sl }:=by
 by_cases hb:b∈fs
 ·exact u.slot b ob q n hb hx
 ·exact⟨ob.slots,u.keep b ob q n hb hx⟩
theorem Un.kept(k:∀b u,h.get? b=some u->h'.get? b=some u):Un fs ex H H h h':=
 ⟨fun b ob q _ _ _=>k b ob q,fun b ob q _ _ _=>⟨ob.slots,k b ob q⟩,fun _ _ _ n _=>n,fun b ob q _=>⟨ob,k b ob q⟩,fun _ _ q=>q,fun _ _ _ q=>q,fun _ ps q=>⟨#[],by rw[q];simp⟩⟩
theorem Un.refl:Un fs ex H H h h:=Un.kept fun _ _ q=>q
theorem Un.laid(k:∀b u,h.get? b=some u->h'.get? b=some u)(hp:h.objs.size<=a)(hn:H a=none):Un fs ex H (upd H a o) h h' where
 keep:=fun b u q _ _ _=>k b u q
 slot:=fun b u q _ _ _=>⟨u.slots,k b u q⟩
 free:=fun b u q n _=>by rw[cR (aI (aJ (ax q) hp))];exact n
 there:=fun b u q _=>⟨u,k b u q⟩
 jG:=fun b xs q=>by rw[cR (iM q hn)];exact q
 jo:=fun b u xs q=>by rw[cR (iM q hn)];exact q
 jH:=fun b ps q=>⟨#[],by rw[cR (iM q hn),q];simp⟩
theorem Un.write(mu:BS (H x))(he:e=x\/H e=some (.own x))(k:∀b u,b≠e->h.get? b=some u->h'.get? b=some u)(wG:∃u,h'.get? e=some u):Un fs ex H (upd H x o) h h':=by
 have hx:∀b,H b=none->b≠x:=fun b n z=>by subst z;rw[n] at mu;exact mu
 have hb:∀b,H b=none->b≠e:=fun b n z=>by
  subst z;rcases he with r | r
  ·exact hx b n r
  ·rw[n] at r;cases r
 have hm:∀b u,H b=some u->¬BS (some u)->b≠x:=fun b u q nm z=>by subst z;rw[q] at mu;exact nm mu
 refine⟨fun b u q n _ _=>k b u (hb b n) q,fun b u q n _ _=>⟨u.slots,k b u (hb b n) q⟩,fun b u q n _=>by rw[cR (hx b n)];exact n,fun b u q _=>?_,
  fun b xs q=>by rw[cR (hm b _ q fun z=>z)];exact q,fun b u xs q=>by rw[cR (hm b _ q fun z=>z)];exact q,fun b ps q=>⟨#[],by rw[cR (hm b _ q fun z=>z),q];simp⟩⟩
 by_cases vj:b=e
 ·subst vj;exact wG
 ·exact⟨u,k b u vj q⟩
end
noncomputable def Bo(h:Heap)(H:Hp):List Addr:=(List.range h.objs.size).filter fun a=>(H a).isSome
noncomputable def rQ(h:Heap)(H:Hp):Heap:=PySem.W.hideAll h (Bo h H)
theorem Qj(h:Heap)(H:Hp):(rQ h H).objs.size=h.objs.size:=PySem.W.hideAll_size _ _
theorem P2{h:Heap}{H:Hp}{b:Addr}{o:Obj}(e:h.get? b=some o)(n:H b=none):(rQ h H).get? b=some o:=
 PySem.W.hideAll_get _ e fun hm=>by
  have q:(H b).isSome=true:=(List.mem_filter.mp hm).2;rw[n] at q;simp at q
theorem Om{h:Heap}{H:Hp}{b:Addr}{o:Obj}(e:(rQ h H).get? b=some o):h.get? b=some o/\H b=none:=by
 have e':h.get? b=some o:=PySem.W.of_hideAll (Bo h H) e;refine⟨e',?_⟩;cases q:H b with
 | none=>rfl
 | some x=>
  have hm:b∈Bo h H:=List.mem_filter.mpr ⟨List.mem_range.mpr (ax e'),by simp[q]⟩;have z:(rQ h H).get? b=none:=PySem.W.hideAll_none (Bo h H) hm;rw[z] at e;cases e
noncomputable def Ol(g h:Heap)(L:Addr):List (Addr×Obj):=(List.range h.objs.size).filterMap fun a=>if a=L\/(g.get? a).isSome=true then none else(h.get? a).map fun o=>(a,o)
noncomputable def kz(g h:Heap)(L d:Addr):List (Addr×Obj):=(Ol g h L).filter fun p=>decide (p.1≠d)
end L2
namespace L2
open PySem PySem.Spec PyProof.Rows
structure Mod (K:PySem.W.Frag) (mg:Str->Option Value) (base:Heap):Prop where
 sA:K.In base
 glob:base.Ns mainGlobals mg
 blt:∃mb,base.Ns builtinsNs mb/\∀x:Str,x≠"__name__"->mb x=bootBuiltins x
 nolimit:base.NoLimit
structure Cx where
 prog:Program
 w:World
 K:PySem.W.Frag
 mg:Str->Option Value
 base:Heap
 A:Around
 N:List Str
 cK:Shared
 pe:Hp
 env:Env
 outer:List Env
 stack:List Env
 ex:List Addr
 fn:Str->Bool
 calm:Bool
 pn:List (Addr×Obj)
 xe:Value->Shared->Prop
noncomputable def ir(l:List Env):List Addr:=l.filterMap (·.frame)
noncomputable abbrev Cx.fs(X:Cx):List Addr:=ir X.outer
def kO(sc:Scope)(x:Str):Prop:=sc.names.lookup x=some .local\/sc.names.lookup x=some .cell\/sc.names.lookup x=some .free
def Loc(sc:Scope)(x:Str):Prop:=sc.names.lookup x=some .local\/sc.names.lookup x=some .cell
def Look(env:Env)(h:Heap)(m:Str->Option Value)(x:Str)(u:Value):Prop:=
 (env.kindOf x=some .local/\m x=some u)\/((env.kindOf x=some .cell\/env.kindOf x=some .free)/\∃c,env.cells.lookup x=some c/\h.IsCell c (some u))
structure Cx.Ok (X:Cx):Prop where
 mod:Mod X.K X.mg X.base
 kind:X.env.scope.kind=.function
 glob:X.env.globals=mainGlobals
 blt:X.env.builtins=builtinsNs
 above:X.cK.heap.objs.size<=X.env.locals
 inj:∀x y c,X.env.cells.lookup x=some c->X.env.cells.lookup y=some c->x=y
 has:∀x,(X.env.kindOf x=some .cell\/X.env.kindOf x=some .free)->∃c,X.env.cells.lookup x=some c
 cab:∀x c,X.fn x=true->X.env.cells.lookup x=some c->X.cK.heap.objs.size<=c
 hd:X.calm=true->X.A.handled=none
 frames:X.A.frames=some X.stack
 yO:X.stack=X.outer\/(X.stack=X.env::X.outer/\X.env.frame=some X.env.locals)
 exf:∀b∈X.ex,b≠X.env.locals/\∀x c,X.env.cells.lookup x=some c->c≠b
 bs:∀b o,X.base.get? b=some o->X.cK.heap.get? b=some o/\X.pe b=none
 sS:X.base.objs.size<=X.cK.heap.objs.size
 oW:∀b o,X.base.get? b=some o->b∉X.ex
 o8:∀b∈X.ex,b∉X.fs
 gn:X.cK.heap.FunFrames X.base X.outer
 qG:∀b∈X.fs,X.pe b=none
structure Inv (X:Cx) (pins:List (Addr×Obj)) (σ:List (Option V)) (H:Hp) (s:Shared):Prop where
 ok:X.Ok
 os:s.os=X.cK.os
 bare:AllBare s.gens
 base:Un X.fs X.ex X.pe H X.cK.heap s.heap
 loc:∃m,s.heap.Ns X.env.locals m/\∀(i:Nat) (x:Str) (v:V),X.N[i]?=some x->σ[i]?=some (some v)->kO X.env.scope x->∃u,RelV v u/\Look X.env s.heap m x u
 cell:∀x c,X.env.cells.lookup x=some c->∃v,s.heap.IsCell c v
 free:H X.env.locals=none
 fJ:∀x c,X.env.cells.lookup x=some c->H c=none
 pin:∀p∈X.pn++pins,s.heap.get? p.1=some p.2/\H p.1=none/\p.1≠X.env.locals/\p.1∉X.fs/\∀v,p.2.data≠.cell v
 cz:jh X.prog X.w H s.heap
 len:σ.length=X.N.length
section
variable {X:Cx} {pins:List (Addr×Obj)} {σ:List (Option V)} {H H':Hp} {s:Shared} {h':Heap}
theorem Cx.Ok.Eo(ok:X.Ok){b:Addr}{o:Obj}(e:X.base.get? b=some o):b∉X.fs:=fun hb=>by
 have:=(ok.gn.mem hb).1;rw[e] at this;cases this
theorem Inv.bs(I:Inv X pins σ H s):∀b o,X.base.get? b=some o->s.heap.get? b=some o/\H b=none:=fun b o e=>
 ⟨I.base.keep b o (I.ok.bs b o e).1 (I.ok.bs b o e).2 (I.ok.Eo e) (I.ok.oW b o e),I.base.free b o (I.ok.bs b o e).1 (I.ok.bs b o e).2 (I.ok.oW b o e)⟩
theorem Inv.bk(I:Inv X pins σ H s):∀b o,X.base.get? b=some o->s.heap.get? b=some o:=fun b o e=>(I.bs b o e).1
theorem Inv.mod(I:Inv X pins σ H s):Mod X.K X.mg X.base:=I.ok.mod
theorem Inv.mT(I:Inv X pins σ H s):X.K.In s.heap:=I.ok.mod.sA.keeps I.bk
theorem Inv.lt(I:Inv X pins σ H s):X.env.locals<s.heap.objs.size:=let⟨_,hn,_⟩:=I.loc;hn.lt
theorem Inv.sz(I:Inv X pins σ H s):X.cK.heap.objs.size<=s.heap.objs.size:=aY I.ok.above (Nat.le_of_lt I.lt)
theorem Inv.En(I:Inv X pins σ H s){a:Addr}(h:s.heap.objs.size<=a):a∉X.fs:=fun hb=>by
 obtain⟨_,o,ho,_⟩:=I.ok.gn.mem hb;exact absurd (aJ (ax ho) (aY I.sz h)) (Nat.lt_irrefl _)
theorem Inv.qI(I:Inv X pins σ H s):∀x c,X.env.cells.lookup x=some c->c≠X.env.locals:=fun x c e z=>by
 obtain⟨v,o,ho,hd⟩:=I.cell x c e;obtain⟨m,⟨o',es,ep,kM,rC,_⟩,_⟩:=I.loc;rw[z,kM] at ho;cases ho;rw[rC] at hd;cases hd
theorem Inv.gn(I:Inv X pins σ H s):s.heap.FunFrames X.base X.outer:=by
 have all:∀(l:List Env),(∀b∈ir l,b∈X.fs)->X.cK.heap.FunFrames X.base l->s.heap.FunFrames X.base l:=by
  intro l;induction l with
  | nil=>intro _ _;trivial
  | cons env r ih=>
   intro hs hl;obtain⟨hk,⟨L,o,hf,hn,ho,hd⟩,hr⟩:=hl;have hL:L∈X.fs:=hs L (by unfold ir;rw[aV,hf];exact List.mem_cons_self);obtain⟨sl,e⟩:=I.base.slot L o ho (I.ok.qG L hL) hL fun z=>I.ok.o8 L z hL
   exact⟨hk,⟨L,_,hf,hn,e,hd⟩,ih (fun b hb=>hs b (by unfold ir;rw[aV,hf];exact aA _ hb)) hr⟩
 exact all X.outer (fun _ hb=>hb) I.ok.gn
theorem Inv.stack(I:Inv X pins σ H s):s.heap.FunFrames X.base X.stack:=by
 rcases I.ok.yO with e | ⟨e,hf⟩
 ·rw[e];exact I.gn
 ·rw[e];obtain⟨m,hn,_⟩:=I.loc;refine .cons (by rw[I.ok.kind];decide) hf hn ?_ I.gn;exact Heap.get?_none_of_le (aY I.ok.sS I.ok.above)
theorem Inv.m7(I:Inv X pins σ H s):∀b∈ir X.stack,b∈X.env.locals::X.fs:=fun b hb=>by
 rcases I.ok.yO with e | ⟨e,hf⟩
 ·rw[e] at hb;exact aA _ hb
 ·rw[e] at hb;unfold ir at hb;rw[aV,hf] at hb;exact hb
theorem Inv.nR(I:Inv X pins σ H s):∀b∈ir X.stack,H b=none:=fun b hb=>by
 rcases af.mp (I.m7 b hb) with e | hb
 ·rw[e];exact I.free
 ·obtain⟨_,o,ho,_⟩:=I.ok.gn.mem hb;exact I.base.free b o ho (I.ok.qG b hb) fun z=>I.ok.o8 b z hb
theorem Inv.step{g':Array GenState}{t':Nat}{d':Drawn}{ch:List Addr}(I:Inv X pins σ H s)
  (nr:∀b∈ch,(b∈X.ex\/X.cK.heap.objs.size<=b)/\b≠X.env.locals/\(∀x c,X.env.cells.lookup x=some c->c≠b)/\∀p∈X.pn++pins,p.1≠b)
  (keep:∀b o,b≠X.env.locals->b∉X.fs->b∉ch->s.heap.get? b=some o->H b=none->h'.get? b=some o)
  (slot:∀b o,b≠X.env.locals->b∈X.fs->b∉ch->s.heap.get? b=some o->H b=none->∃sl,h'.get? b=some { o with slots:=sl }) (free:∀b o,b∉ch->s.heap.get? b=some o->H b=none->H' b=none)
  (there:∀b o,b∉ch->s.heap.get? b=some o->∃o',h'.get? b=some o')
  (jG:∀b xs,H b=some (.tup xs)->H' b=some (.tup xs)) (jo:∀b o u,H b=some (.ja o u)->H' b=some (.ja o u)) (jH:∀b ps,H b=some (.tT ps)->∃more,H' b=some (.tT (ps++more)))
  (ns:∀m,s.heap.Ns X.env.locals m->h'.Ns X.env.locals m) (cz:jh X.prog X.w H' h') (hg:AllBare g') :
  Inv X pins σ H' { s with heap:=h',gens:=g',drawn:=d',toks:=t' }:=by
 have JX:∀b o,X.cK.heap.get? b=some o->b≠X.env.locals:=fun b o e=>aI (aJ (ax e) I.ok.above)
 have Bx:∀b o,X.cK.heap.get? b=some o->b∉X.ex->b∉ch:=fun b o e hx hb=>by
  rcases(nr b hb).1 with z | z
  ·exact hx z
  ·exact absurd (aJ (ax e) z) (Nat.lt_irrefl _)
 have cellK:∀x c,X.env.cells.lookup x=some c->∀v,s.heap.IsCell c v->h'.IsCell c v:=fun x c e v ⟨o,ho,hd⟩=>by
  have yY:c∉ch:=fun z=>(nr c z).2.2.1 x c e rfl
  by_cases hc:c∈X.fs
  ·obtain⟨sl,q⟩:=slot c o (I.qI x c e) hc yY ho (I.fJ x c e);exact⟨_,q,hd⟩
  ·exact⟨o,keep c o (I.qI x c e) hc yY ho (I.fJ x c e),hd⟩
 refine⟨I.ok,I.os,hg,⟨fun b o e n hb hx=>?_,fun b o e n hb hx=>?_,fun b o e n hx=>?_,fun b o e hx=>?_,fun b xs e=>jG b xs (I.base.jG b xs e),fun b o xs e=>jo b o xs (I.base.jo b o xs e),fun b ps e=>?_⟩,?_,fun x c e=>?_,?_,fun x c e=>?_,fun p hp=>?_,cz,I.len⟩
 ·exact keep b o (JX b o e) hb (Bx b o e hx) (I.base.keep b o e n hb hx) (I.base.free b o e n hx)
 ·obtain⟨sl,e1⟩:=I.base.slot b o e n hb hx;obtain⟨Ee,e2⟩:=slot b _ (JX b o e) hb (Bx b o e hx) e1 (I.base.free b o e n hx);exact⟨Ee,e2⟩
 ·obtain⟨o',e1⟩:=I.base.there b o e hx;exact free b o' (Bx b o e hx) e1 (I.base.free b o e n hx)
 ·obtain⟨o',e1⟩:=I.base.there b o e hx;exact there b o' (Bx b o e hx) e1
 ·obtain⟨m1,e1⟩:=I.base.jH b ps e;obtain⟨m2,e2⟩:=jH b _ e1;exact⟨m1++m2,by rw[e2,Array.append_assoc]⟩
 ·obtain⟨m,hn,hl⟩:=I.loc;refine⟨m,ns m hn,fun i x v e1 e2 e3=>?_⟩;obtain⟨u,r,l⟩:=hl i x v e1 e2 e3;refine⟨u,r,?_⟩;rcases l with l | ⟨k,c,e,z⟩
  ·exact .inl l
  ·exact .inr ⟨k,c,e,cellK x c e _ z⟩
 ·obtain⟨v,z⟩:=I.cell x c e;exact⟨v,cellK x c e v z⟩
 ·obtain⟨m,⟨o,_,_,ho,_⟩,_⟩:=I.loc;exact free _ o (fun z=>(nr _ z).2.1 rfl) ho I.free
 ·obtain⟨v,o,ho,hd⟩:=I.cell x c e;exact free c o (fun z=>(nr c z).2.2.1 x c e rfl) ho (I.fJ x c e)
 ·obtain⟨e,n,ne,nf,d⟩:=I.pin p hp;have yY:p.1∉ch:=fun z=>(nr p.1 z).2.2.2 p hp rfl
  exact⟨keep p.1 p.2 ne nf yY e n,free p.1 p.2 yY e n,ne,nf,d⟩
theorem Inv.un{t':Nat}(I:Inv X pins σ H s)(u:Un X.fs [] H H' s.heap h')(cz:jh X.prog X.w H' h'):Inv X pins σ H' { s with heap:=h',toks:=t' }:=by
 obtain⟨m,⟨o,es,ep,ho,r⟩,_⟩:=id I.loc;obtain⟨sl,hL⟩:=u.any ho I.free (by simp)
 exact I.step (g':=s.gens) (d':=s.drawn) (ch:=[]) (fun _ z=>nomatch z) (fun b o _ hb _ e n=>u.keep b o e n hb (by simp)) (fun b o _ hb _ e n=>u.slot b o e n hb (by simp)) (fun b o _ e n=>u.free b o e n (by simp)) (fun b o _ e=>u.there b o e (by simp)) u.jG u.jo u.jH (fun m' hm=>by
  obtain⟨o',ie,sN,kM,r'⟩:=hm;rw[ho] at kM;cases kM;exact⟨_,ie,sN,hL,r'⟩) cz I.bare
theorem Inv.call{g':Array GenState}{t':Nat}{d':Drawn}{ch:List Addr}(I:Inv X pins σ H s)(u:Un (ir X.stack) ch H H' s.heap h')(cz:jh X.prog X.w H' h')(hg:AllBare g')
  (nr:∀b∈ch,(b∈X.ex\/X.cK.heap.objs.size<=b)/\b≠X.env.locals/\(∀x c,X.env.cells.lookup x=some c->c≠b)/\∀p∈X.pn++pins,p.1≠b) :
  Inv X pins σ H' { s with heap:=h',gens:=g',drawn:=d',toks:=t' }:=by
 obtain⟨m,⟨o,es,ep,ho,r⟩,_⟩:=id I.loc;obtain⟨sl,hL⟩:=u.any ho I.free fun z=>(nr _ z).2.1 rfl
 exact I.step (ch:=ch) nr (fun b o hL hb hc e n=>u.keep b o e n (fun z=>(af.mp (I.m7 b z)).elim hL hb) hc) (fun b o _ _ hc e n=>u.any e n hc) (fun b o hc e n=>u.free b o e n hc) (fun b o hc e=>u.there b o e hc) u.jG u.jo u.jH (fun m' hm=>by
  obtain⟨o',ie,sN,kM,r'⟩:=hm;rw[ho] at kM;cases kM;exact⟨_,ie,sN,hL,r'⟩) cz hg
theorem Inv.turned{t':Nat}{it:Addr}(I:Inv X pins σ H s)(k:∀b o,b≠it->s.heap.get? b=some o->h'.get? b=some o)(hn:H it=none)(hL:it≠X.env.locals)
  (h1:it∈X.ex\/X.cK.heap.objs.size<=it) (h2:∀x c,X.env.cells.lookup x=some c->c≠it) (h3:∀p∈X.pn++pins,p.1≠it):Inv X pins σ H { s with heap:=h',toks:=t' }:=by
 have tY:∀b u,H b=some u->b≠it:=fun b u e z=>by rw[z,hn] at e;cases e
 refine I.step (g':=s.gens) (d':=s.drawn) (ch:=[it]) (fun b hb=>?_) (fun b o _ _ hc e _=>k b o (fun z=>hc (by simp[z])) e) (fun b o _ _ hc e _=>⟨o.slots,k b o (fun z=>hc (by simp[z])) e⟩) (fun _ _ _ _ n=>n)
  (fun b o hc e=>⟨o,k b o (fun z=>hc (by simp[z])) e⟩) (fun _ _ e=>e) (fun _ _ _ e=>e) (fun b ps e=>⟨#[],by rw[e];simp⟩) (fun m hm=>?_) (fun b u e=>?_) I.bare
 ·have e:b=it:=by simpa using hb
  subst e;exact⟨h1,hL,h2,h3⟩
 ·obtain⟨o,es,ep,ho,r⟩:=hm;exact⟨o,es,ep,k _ o (Ne.symm hL) ho,r⟩
 ·refine(I.cz b u e).jX (fun c v hc q=>k c v ?_ q) (fun _ q=>q) fun _ _ q=>q
  rcases hc with z | z
  ·rw[z];exact tY b u e
  ·exact tY c _ z
theorem Inv.tok(I:Inv X pins σ H s)(t:Nat):Inv X pins σ H { s with toks:=t }:=I.un (h':=s.heap) (t':=t) Un.refl I.cz
theorem Inv.kept{t':Nat}(I:Inv X pins σ H s)(k:∀b u,s.heap.get? b=some u->h'.get? b=some u):Inv X pins σ H { s with heap:=h',toks:=t' }:=I.un (Un.kept k) (I.cz.kept k)
theorem Inv.laid{a:Addr}{o:HO}{t':Nat}(I:Inv X pins σ H s)(k:∀b u,s.heap.get? b=some u->h'.get? b=some u)(hp:s.heap.objs.size<=a)(new:dG X.prog X.w (upd H a o) h' a o) :
  Inv X pins σ (upd H a o) { s with heap:=h',toks:=t' }:=I.un (Un.laid k hp (I.cz.fresh hp)) (I.cz.laid k hp new)
theorem Inv.write{x e:Addr}{o:HO}{t':Nat}(I:Inv X pins σ H s)(mu:BS (H x))(he:e=x\/H e=some (.own x))(k:∀b u,b≠e->s.heap.get? b=some u->h'.get? b=some u)(wG:∃u,h'.get? e=some u)
  (new:dG X.prog X.w (upd H x o) h' x o):Inv X pins σ (upd H x o) { s with heap:=h',toks:=t' }:=I.un (Un.write mu he k wG) (I.cz.write mu he k wG new)
theorem Inv.nS{tW:List (Addr×Obj)}(I:Inv X pins σ H s)(h:∀p∈tW,s.heap.get? p.1=some p.2/\H p.1=none/\p.1≠X.env.locals/\p.1∉X.fs/\∀v,p.2.data≠.cell v):Inv X tW σ H s:=
 ⟨I.ok,I.os,I.bare,I.base,I.loc,I.cell,I.free,I.fJ,fun p hp=>(au.mp hp).elim (fun z=>I.pin p (List.mem_append_left _ z)) (h p),I.cz,I.len⟩
theorem Dq{N:List Str}(hN:N.Nodup){i j:Nat}{x:Str}(a:N[i]?=some x)(b:N[j]?=some x):i=j:=by
 obtain⟨h1,e1⟩:=ao.mp a;obtain⟨h2,e2⟩:=ao.mp b;exact(List.getElem_inj hN).mp (e1.trans e2.symm)
theorem Ja{M:Model}{A:Around}{E:Value->Shared->Prop}{i:Nat}{x:Str}{v:V}{u:Value}{Q:Unit->Shared->Prop}(I:Inv X pins σ H s)(hN:X.N.Nodup)(hi:X.N[i]?=some x)(hx:Loc X.env.scope x)(r:RelV v u)
  (h:∀s',Inv X pins (σ.set i (some v)) H s'->(∃a,Heap.SameBut a s.heap s'.heap/\(a=X.env.locals\/X.env.cells.lookup x=some a))->Q () s') (hf:X.fn x=true\/X.env.scope.names.lookup x=some .local:=by first | exact .inl rfl | exact .inr rfl | assumption):wpAny M A (storeName X.env x u) Q E s:=by
 obtain⟨m,hn,hl⟩:=id I.loc;have qE:(X.env.scope.kind==.class||(X.env.scope.kind==.module&&X.env.locals != X.env.globals))=false:=by rw[I.ok.kind];rfl
 have zo:i<σ.length:=by rw[I.len];exact(ao.mp hi).1
 have qI:=I.qI;have tracked:∀{a:Addr} {h':Heap},(∃o,s.heap.get? a=some o/\H a=none)->Heap.SameBut a s.heap h'->jh X.prog X.w H h':=fun{a h'} ha hs b ob e=>by
  obtain⟨_,_,eC⟩:=ha;refine(I.cz b ob e).jX (fun c w' hc q=>(hs.2 c ?_).trans q) (fun _ q=>q) fun _ _ q=>q
  rintro rfl;rcases hc with rfl | hc
  ·rw[eC] at e;cases e
  ·rw[eC] at hc;cases hc
 rcases hx with hk | hk
 ·refine wpAny_storeName_local hk hn (fun h' vd hs=>?_) qE;obtain⟨oL,_,_,vb,_⟩:=id hn;refine h _ ⟨I.ok,I.os,I.bare,⟨fun b o e n hb hx=>?_,fun b o e n hb hx=>?_,I.base.free,fun b o e hx=>?_,I.base.jG,I.base.jo,I.base.jH⟩,⟨_,vd,fun j y v' e1 e2 e3=>?_⟩,fun y c e=>?_,I.free,I.fJ,fun p hp=>?_,tracked ⟨oL,vb,I.free⟩ hs,by simpa using I.len⟩ ⟨_,hs,.inl rfl⟩
  ·exact(hs.2 b (aI (aJ (ax e) I.ok.above))).trans (I.base.keep b o e n hb hx)
  ·obtain⟨sl,e1⟩:=I.base.slot b o e n hb hx;exact⟨sl,(hs.2 b (aI (aJ (ax e) I.ok.above))).trans e1⟩
  ·obtain⟨o',e1⟩:=I.base.there b o e hx;exact⟨o',(hs.2 b (aI (aJ (ax e) I.ok.above))).trans e1⟩
  ·by_cases hj:j=i
   ·subst hj;rw[hi] at e1;cases e1;rw[List.getElem?_set_self zo] at e2;cases e2;exact⟨u,r,.inl ⟨hk,by simp⟩⟩
   ·rw[List.getElem?_set_ne (Ne.symm hj)] at e2;obtain⟨u',r',q⟩:=hl j y v' e1 e2 e3;refine⟨u',r',?_⟩;rcases q with⟨k,e⟩ | ⟨k,c,e,z⟩
    ·refine .inl ⟨k,?_⟩;have:y≠x:=fun e=>hj (Dq hN e1 (e▸hi))
     simp[this,e]
    ·exact .inr ⟨k,c,e,z.sameBut hs (qI y c e)⟩
  ·obtain⟨w',z⟩:=I.cell y c e;exact⟨w',z.sameBut hs (qI y c e)⟩
  ·obtain⟨e,n,ne,nf,d⟩:=I.pin p hp;exact⟨(hs.2 p.1 ne).trans e,n,ne,nf,d⟩
 ·have E9:X.fn x=true:=by
   rcases hf with z | z
   ·exact z
   ·rw[z] at hk;cases hk
  obtain⟨c,hc⟩:=I.ok.has x (.inl hk);obtain⟨w',z⟩:=I.cell x c hc;refine wpAny_storeName_cell I.ok.kind hk hc z (fun h' o6 hs=>?_);obtain⟨oc,sD,EO⟩:=id z;refine h { s with heap:=h' } ⟨I.ok,I.os,I.bare,⟨fun b o e n hb hx=>?_,fun b o e n hb hx=>?_,I.base.free,fun b o e hx=>?_,I.base.jG,I.base.jo,I.base.jH⟩,⟨m,hn.sameBut hs (Ne.symm (qI x c hc)),fun j y v' e1 e2 e3=>?_⟩,fun y c' e=>?_,I.free,I.fJ,fun p hp=>?_,tracked ⟨oc,sD,I.fJ x c hc⟩ hs,by simpa using I.len⟩ ⟨c,hs,.inr hc⟩
  ·exact(hs.2 b (aI (aJ (ax e) (I.ok.cab x c E9 hc)))).trans (I.base.keep b o e n hb hx)
  ·obtain⟨sl,e1⟩:=I.base.slot b o e n hb hx;exact⟨sl,(hs.2 b (aI (aJ (ax e) (I.ok.cab x c E9 hc)))).trans e1⟩
  ·obtain⟨o',e1⟩:=I.base.there b o e hx;exact⟨o',(hs.2 b (aI (aJ (ax e) (I.ok.cab x c E9 hc)))).trans e1⟩
  ·by_cases hj:j=i
   ·subst hj;rw[hi] at e1;cases e1;rw[List.getElem?_set_self zo] at e2;cases e2;exact⟨u,r,.inr ⟨.inl hk,c,hc,o6⟩⟩
   ·rw[List.getElem?_set_ne (Ne.symm hj)] at e2;obtain⟨u',r',q⟩:=hl j y v' e1 e2 e3;refine⟨u',r',?_⟩;rcases q with q | ⟨k,c',e,z'⟩
    ·exact .inl q
    ·refine .inr ⟨k,c',e,z'.sameBut hs ?_⟩;rintro rfl;exact hj (Dq hN e1 (I.ok.inj _ _ _ e hc▸hi))
  ·by_cases Kp:c'=c
   ·subst Kp;exact⟨_,o6⟩
   ·obtain⟨w2,z2⟩:=I.cell y c' e;exact⟨w2,z2.sameBut hs Kp⟩
  ·obtain⟨e,n,ne,nf,d⟩:=I.pin p hp;refine⟨(hs.2 p.1 ?_).trans e,n,ne,nf,d⟩;intro q;rw[q,sD] at e;have q':oc=p.2:=Option.some.inj e;exact d w' (by rw[<-q'];exact EO)
theorem Dj{M:Model}{A:Around}{E:Value->Shared->Prop}{i:Nat}{x:Str}{v:V}{u:Value}{Q:Unit->Shared->Prop}(I:Inv X pins σ H s)(hN:X.N.Nodup)(hi:X.N[i]?=some x)(hx:Loc X.env.scope x)(r:RelV v u)
  (h:∀s',Inv X pins (σ.set i (some v)) H s'->Q () s') (hf:X.fn x=true\/X.env.scope.names.lookup x=some .local:=by first | exact .inl rfl | exact .inr rfl | assumption):wpAny M A (storeName X.env x u) Q E s:=
 Ja I hN hi hx r (fun s' I' _=>h s' I') hf
theorem Inv.qJ{s':Shared}{ch:List Addr}(I:Inv X pins σ H s)(ho:s'.os=s.os)(u:Un (ir X.stack) ch H H' s.heap s'.heap)(cz:jh X.prog X.w H' s'.heap)(hg:AllBare s'.gens)
  (nr:∀b∈ch,(b∈X.ex\/X.cK.heap.objs.size<=b)/\b≠X.env.locals/\(∀x c,X.env.cells.lookup x=some c->c≠b)/\∀p∈X.pn++pins,p.1≠b):Inv X pins σ H' s':=by
 obtain⟨h',g',d',t',o'⟩:=s';have e:o'=s.os:=ho;subst e;exact I.call (g':=g') (t':=t') (d':=d') u cz hg nr
end
noncomputable abbrev XK:=Value->Option Addr->Hp->Prop
noncomputable abbrev St:=List (Option V)
noncomputable abbrev VK:=V->Hp->Prop
noncomputable abbrev TE:=St->Hp->VK->Prop
noncomputable abbrev TT:=St->Hp->(Bool->Hp->Prop)->Prop
noncomputable abbrev TA:=St->Hp->(List V->Hp->Prop)->Prop
structure Ends where
 nx:St->Hp->Prop
 rt:VK
 bk:St->Hp->Prop:=fun _ _=>False
 ct:St->Hp->Prop:=fun _ _=>False
noncomputable abbrev TS:=Ends->St->Hp->Prop
def EP(X:Cx)(pins:List (Addr×Obj))(σ:St)(Q:VK)(u:Value)(s':Shared):Prop:=∃v H',Inv X pins σ H' s'/\RelV v u/\Q v H'
def TP(X:Cx)(pins:List (Addr×Obj))(σ:St)(Q:Bool->Hp->Prop)(b:Bool)(s':Shared):Prop:=∃H',Inv X pins σ H' s'/\Q b H'
def AP(X:Cx)(pins:List (Addr×Obj))(σ:St)(Q:List V->Hp->Prop)(us:List Value)(s':Shared):Prop:=∃vs H',Inv X pins σ H' s'/\Vals vs us/\Q vs H'
def SP(X:Cx)(pins:List (Addr×Obj))(D:Ends)(f:Flow)(s':Shared):Prop:=
 match f with
 | .next=>∃cj H',Inv X pins cj H' s'/\D.nx cj H'
 | .brk=>∃cj H',Inv X pins cj H' s'/\D.bk cj H'
 | .cont=>∃cj H',Inv X pins cj H' s'/\D.ct cj H'
 | .ret u=>∃v cj H',Inv X pins cj H' s'/\RelV v u/\D.rt v H'
def PE(X:Cx)(e:Expr)(t:TE):Prop:=
 ∀(pins:List (Addr×Obj)) (s:Shared) (σ:St) (H:Hp) (Q:VK),Inv X pins σ H s->t σ H Q->wpAny (model X.prog X.w) X.A (eval e X.env) (EP X pins σ Q) X.xe s
def PT(X:Cx)(e:Expr)(t:TT):Prop:=
 ∀(pins:List (Addr×Obj)) (s:Shared) (σ:St) (H:Hp) (Q:Bool->Hp->Prop),Inv X pins σ H s->t σ H Q->wpAny (model X.prog X.w) X.A (isTrue e X.env (eval e X.env)) (TP X pins σ Q) X.xe s
def PW(X:Cx)(e:Expr)(t:TT):Prop:=
 ∀(whole:Sem Value) (pins:List (Addr×Obj)) (s:Shared) (σ:St) (H:Hp) (Q:Bool->Hp->Prop),Inv X pins σ H s->t σ H Q->wpAny (model X.prog X.w) X.A (isTrue e X.env whole) (TP X pins σ Q) X.xe s
theorem PW.pt{X:Cx}{e:Expr}{t:TT}(h:PW X e t):PT X e t:=h _
def PA(X:Cx)(es:List Expr)(t:TA):Prop:=
 ∀(pos:Pos) (pins:List (Addr×Obj)) (s:Shared) (σ:St) (H:Hp) (Q:List V->Hp->Prop),Inv X pins σ H s->t σ H Q->wpAny (model X.prog X.w) X.A (spliced (backTo pos (starEach es X.env))) (AP X pins σ Q) X.xe s
def PS(X:Cx)(st:Stmt)(t:TS):Prop:=
 ∀(pins:List (Addr×Obj)) (s:Shared) (σ:St) (H:Hp) (D:Ends),Inv X pins σ H s->t D σ H->wpAny (model X.prog X.w) X.A (exec st X.env) (SP X pins D) X.xe s
def mD(X:Cx)(st:List Stmt)(t:TS):Prop:=
 ∀(pins:List (Addr×Obj)) (s:Shared) (σ:St) (H:Hp) (D:Ends),Inv X pins σ H s->t D σ H->wpAny (model X.prog X.w) X.A (execs st X.env) (SP X pins D) X.xe s
theorem cJ{α:Type}{t:Sem α}{Q Q':α->Shared->Prop}{M:Model}{A:Around}{E:Value->Shared->Prop}{s:Shared}(h:wpAny M A t Q E s)(hQ:∀a s,Q a s->Q' a s):wpAny M A t Q' E s:=wpAny_mono h hQ fun _ _ x=>x
end L2
namespace L2
open PySem PySem.Spec PyProof.Rows
section
variable {X:Cx}
theorem bin{a b:Expr}{ta tb:TE}(ha:PE X a ta)(hb:PE X b tb){pins:List (Addr×Obj)}{s:Shared}{σ:St}{H:Hp}{R:V->V->Hp->Prop}(I:Inv X pins σ H s)(h:ta σ H fun x H1=>tb σ H1 fun y H2=>R x y H2)
  {α:Type} {Q:α->Shared->Prop} {f:Value->Value->Sem α}
  (hf:∀v u s2 x y H2,Inv X pins σ H2 s2->RelV x v->RelV y u->R x y H2->wpAny (model X.prog X.w) X.A (f v u) Q X.xe s2) :
  wpAny (model X.prog X.w) X.A (eval a X.env) (fun v cc=>wpAny (model X.prog X.w) X.A (eval b X.env) (fun u jI=>wpAny (model X.prog X.w) X.A (f v u) Q X.xe jI) X.xe cc) X.xe s:=by
 refine cJ (ha pins s σ H _ I h) fun v s1 bR=>?_
 obtain⟨x,H1,I1,r1,q1⟩:=bR;refine cJ (hb pins s1 σ H1 _ I1 q1) fun u s2 bR=>?_
 obtain⟨y,H2,I2,r2,q2⟩:=bR;exact hf v u s2 x y H2 I2 r1 r2 q2
def B8(i:Nat):TE:=fun σ H Q=>∃v,σ[i]?=some (some v)/\Q v H
def tC(v:V):TE:=fun _ H Q=>Q v H
theorem mf{i:Nat}{x:Str}{pos:Pos}(hN:X.N[i]?=some x)(hv:kO X.env.scope x)(hd:(x==("__debug__":Str))=false:=by decide)(fS:(x==("__classdict__":Str))=false:=by decide):PE X (.Name x pos) (B8 i):=by
 intro pins s σ H Q I h;obtain⟨v,e,h⟩:=h;obtain⟨m,hn,hl⟩:=I.loc;obtain⟨u,r,l⟩:=hl i x v hN e hv;have fin:EP X pins σ Q u s:=⟨v,H,I,r,h⟩
 rcases l with⟨hk,hm⟩ | ⟨hk,c,hc,ue⟩
 ·exact wpAny_Name (wpAny_loadName_local I.ok.kind hk hn hm fin) hd
 ·rcases hk with hk | hk
  ·exact wpAny_Name (wpAny_loadName_cell I.ok.kind hk hc ue fin) hd
  ·exact wpAny_Name (wpAny_loadName_free I.ok.kind hk hc ue fin fS) hd
theorem N1{i j pos}:PE X (.Constant (.int i) j pos) (tC (.int i)):=fun _ _ _ H _ I h=>wpAny_Constant_int ⟨.int i,H,I.tok _,⟨_,rfl⟩,h⟩
theorem Mf{b j pos}:PE X (.Constant (.bool b) j pos) (tC (.bl b)):=fun _ _ _ H _ I h=>Constant_bool ⟨.bl b,H,I,rfl,h⟩
theorem N0{j pos}:PE X (.Constant .none j pos) (tC .non):=fun _ _ _ H _ I h=>Constant_none ⟨.non,H,I,rfl,h⟩
theorem NZ{x j pos}:PE X (.Constant (.str x) j pos) (tC (.str x)):=fun _ _ _ H _ I h=>Calls.Constant_str ⟨.str x,H,I.tok _,⟨_,rfl⟩,h⟩
def Gl(X:Cx)(x:Str):Prop:=X.env.kindOf x=some .globalImplicit
theorem vU{E:Value->Shared->Prop}{pins:List (Addr×Obj)}{s:Shared}{σ:St}{H:Hp}{x:Str}{u:Value}{pos:Pos}{Q:Value->Shared->Prop}(I:Inv X pins σ H s)(hg:Gl X x)(hm:X.mg x=some u)(h:Q u s)
  (hd:(x==("__debug__":Str))=false:=by decide):wpAny (model X.prog X.w) X.A (eval (.Name x pos) X.env) Q E s:=
 Calls.Name_function_global I.ok.kind hg (Calls.loadGlobal_global (by rw[I.ok.glob];exact I.mod.glob.keeps I.bk) hm h) hd
theorem tL{E:Value->Shared->Prop}{pins:List (Addr×Obj)}{s:Shared}{σ:St}{H:Hp}{x:Str}{u:Value}{pos:Pos}{Q:Value->Shared->Prop}(I:Inv X pins σ H s)(hg:Gl X x)(hm:X.mg x=none)(hv:bootBuiltins x=some u)(h:Q u s)
  (hn:x≠"__name__":=by decide) (hd:(x==("__debug__":Str))=false:=by decide):wpAny (model X.prog X.w) X.A (eval (.Name x pos) X.env) Q E s:=by
 obtain⟨mb,h1,h2⟩:=I.mod.blt;exact Calls.Name_function_global I.ok.kind hg (Calls.loadGlobal_builtin (by rw[I.ok.glob];exact I.mod.glob.keeps I.bk) hm (by rw[I.ok.blt];exact h1.keeps I.bk) ((h2 x hn).trans hv) h) hd
theorem xJ{x:Str}{v:V}{u:Value}{pos:Pos}(hg:Gl X x)(hm:X.mg x=some u)(r:RelV v u)(hd:(x==("__debug__":Str))=false:=by decide):PE X (.Name x pos) (tC v):=
 fun _ _ _ H _ I h=>vU I hg hm ⟨v,H,I,r,h⟩ hd
theorem Oj{x:Str}{v:V}{u:Value}{pos:Pos}(hg:Gl X x)(hm:X.mg x=none)(hv:bootBuiltins x=some u)(r:RelV v u)(hn:x≠"__name__":=by decide)(hd:(x==("__debug__":Str))=false:=by decide):PE X (.Name x pos) (tC v):=
 fun _ _ _ H _ I h=>tL I hg hm hv ⟨v,H,I,r,h⟩ hn hd
variable {a b:Expr} {ta tb:TE} {pos:Pos}
def PC(X:Cx)(op:CmpOp)(a b:Expr)(t:TE):Prop:=
 ∀(pins:List (Addr×Obj)) (s:Shared) (σ:St) (H:Hp) (Q:VK),Inv X pins σ H s->t σ H Q->
  wpAny (model X.prog X.w) X.A (eval a X.env) (fun v cc=>wpAny (model X.prog X.w) X.A (eval b X.env) (fun u jI=>wpAny (model X.prog X.w) X.A (compareOp op v u) (EP X pins σ Q) X.xe jI) X.xe cc) X.xe s
theorem P1(b:Expr){op:CmpOp}(h:op≠.In)(h2:op≠.NotIn):behindInMarks op b=false:=by
 have e1:(op==CmpOp.In)=false:=by cases op<;>first | rfl | exact absurd rfl h
 have e2:(op==CmpOp.NotIn)=false:=by cases op<;>first | rfl | exact absurd rfl h2
 cases b<;>simp[behindInMarks,e1,e2]
def tB(t:TE):TT:=fun σ H Q=>t σ H fun x H1=>∃c,x=.bl c/\Q c H1
theorem Wa{op:CmpOp}{t:TE}(h:PC X op a b t)(h1:behindInMarks op b=false:=by first | exact P1 _ (by decide) (by decide) | rfl):PT X (.Compare a [op] [b] pos) (tB t):=by
 intro pins s σ H Q I hw;refine wpAny_isTrue_Compare1 (cJ (h pins s σ H _ I hw) fun v s1 h1=>cJ h1 fun u s2 h2=>cJ h2 fun c s3 bR=>?_) h1;obtain⟨x,H1,I1,r1,q1⟩:=bR;obtain⟨d,rfl,q⟩:=q1;cases r1;exact wpAny_truthy_bool ⟨H1,I1,q⟩
theorem NY{e:Expr}{t:TE}(h:PE X e t)(he:∀whole,isTrue e X.env whole=(do let v <-whole;standAt e.pos;holding [v] (truthy v)):=by intro _;rfl):PT X e (tB t):=by
 intro pins s σ H Q I hw;refine isTrue_plain (cJ (h pins s σ H _ I hw) fun v s1 bR=>?_) (he _);obtain⟨x,H1,I1,r1,q1⟩:=bR;obtain⟨d,rfl,q⟩:=q1;cases r1;exact wpAny_truthy_bool ⟨H1,I1,q⟩
variable {tA Bq:TT} {kz:List Expr}
def Ly(t u:TT):TT:=fun σ H Q=>t σ H fun c H1=>if c=true then u σ H1 Q else Q false H1
def T8(t u:TT):TT:=fun σ H Q=>t σ H fun c H1=>if c=true then Q true H1 else u σ H1 Q
def Lx(t:TT):TT:=fun σ H Q=>t σ H fun c H1=>Q (!c) H1
theorem Oi(ha:PT X a tA):PW X (.BoolOp .And [a] pos) tA:=by
 intro wh pins s σ H Q I h;refine isTrue_and (cJ (ha pins s σ H Q I h) fun c s1 e=>?_);cases c with
 | true=>exact isTrue_and_nil e
 | false=>exact e
theorem NX(ha:PT X a tA):PW X (.BoolOp .Or [a] pos) tA:=by
 intro wh pins s σ H Q I h;refine isTrue_or (cJ (ha pins s σ H Q I h) fun c s1 e=>?_);cases c with
 | false=>exact isTrue_or_nil e
 | true=>exact e
theorem NW(ha:PT X a tA)(hb:PW X (.BoolOp .And (b::kz) pos) Bq):PW X (.BoolOp .And (a::b::kz) pos) (Ly tA Bq):=by
 intro wh pins s σ H Q I h;refine isTrue_and (cJ (ha pins s σ H _ I h) fun c s1 bR=>?_);obtain⟨H1,I1,q1⟩:=bR;cases c with
 | true=>exact hb wh pins s1 σ H1 Q I1 q1
 | false=>exact⟨H1,I1,q1⟩
theorem Me(ha:PT X a tA)(hb:PW X (.BoolOp .Or (b::kz) pos) Bq):PW X (.BoolOp .Or (a::b::kz) pos) (T8 tA Bq):=by
 intro wh pins s σ H Q I h;refine isTrue_or (cJ (ha pins s σ H _ I h) fun c s1 bR=>?_);obtain⟨H1,I1,q1⟩:=bR;cases c with
 | true=>exact⟨H1,I1,q1⟩
 | false=>exact hb wh pins s1 σ H1 Q I1 q1
theorem NV(ha:PT X a tA):PT X (.UnaryOp .Not a pos) (Lx tA):=by
 intro pins s σ H Q I h;exact isTrue_not (ha pins s σ H (fun c H1=>Q (!c) H1) I h)
def Md(ta tb:TE):TE:=fun σ H Q=>ta σ H fun x H1=>∃c,x=.bl c/\if c=true then tb σ H1 Q else Q (.bl false) H1
def Lw(ta tb:TE):TE:=fun σ H Q=>ta σ H fun x H1=>∃c,x=.bl c/\if c=true then Q (.bl true) H1 else tb σ H1 Q
def Mc(ta:TE):TE:=fun σ H Q=>ta σ H fun x H1=>∃c,x=.bl c/\Q (.bl (!c)) H1
theorem NU{op}{t:TE}(h:PE X a t):PE X (.BoolOp op [a] pos) t:=fun pins s σ H Q I hw=>BoolOp_one (h pins s σ H Q I hw)
theorem NT(ha:PE X a ta)(hb:PE X (.BoolOp .And (b::kz) pos) tb):PE X (.BoolOp .And (a::b::kz) pos) (Md ta tb):=by
 intro pins s σ H Q I h;refine BoolOp_and (cJ (ha pins s σ H _ I h) fun v s1 bR=>?_);obtain⟨x,H1,I1,r1,q1⟩:=bR;obtain⟨c,rfl,q1⟩:=q1;cases r1;refine wpAny_truthy_bool ?_;cases c with
 | true=>exact hb pins s1 σ H1 Q I1 q1
 | false=>exact⟨.bl false,H1,I1,rfl,q1⟩
theorem Mb(ha:PE X a ta)(hb:PE X (.BoolOp .Or (b::kz) pos) tb):PE X (.BoolOp .Or (a::b::kz) pos) (Lw ta tb):=by
 intro pins s σ H Q I h;refine BoolOp_or (cJ (ha pins s σ H _ I h) fun v s1 bR=>?_);obtain⟨x,H1,I1,r1,q1⟩:=bR;obtain⟨c,rfl,q1⟩:=q1;cases r1;refine wpAny_truthy_bool ?_;cases c with
 | false=>exact hb pins s1 σ H1 Q I1 q1
 | true=>exact⟨.bl true,H1,I1,rfl,q1⟩
theorem NS(ha:PE X a ta):PE X (.UnaryOp .Not a pos) (Mc ta):=by
 intro pins s σ H Q I h;refine UnaryOp_ (cJ (ha pins s σ H _ I h) fun v s1 bR=>?_);obtain⟨x,H1,I1,r1,q1⟩:=bR;obtain⟨c,rfl,q1⟩:=q1;cases r1;exact not_of (wpAny_truthy_bool ⟨.bl (!c),H1,I1,rfl,q1⟩)
def T9(t:TT)(ta tb:TE):TE:=fun σ H Q=>t σ H fun c H1=>if c=true then ta σ H1 Q else tb σ H1 Q
theorem HU{c:Expr}(hc:PT X c tA)(ha:PE X a ta)(hb:PE X b tb):PE X (.IfExp c a b pos) (T9 tA ta tb):=by
 intro pins s σ H Q I h;refine wpAny_IfExp (cJ (hc pins s σ H _ I h) fun d s1 bR=>?_);obtain⟨H1,I1,q1⟩:=bR;cases d with
 | true=>exact ha pins s1 σ H1 Q I1 q1
 | false=>exact hb pins s1 σ H1 Q I1 q1
end
end L2
namespace L2
open PySem PySem.Spec PyProof.Rows
def eI(K:PySem.W.Frag)(H:Hp)(a:Addr)(xs:List V):Prop:=
 Rd H a (.lst xs)\/
  ∃(o:Obj) (its:Array Value) (n:Nat),K.lookup a=some o/\o.cls=.type "list"/\o.dict=none/\o.data=.seq its n/\its.size<=sizeLine/\Vals xs its.toList
def fW(K:PySem.W.Frag)(H:Hp)(a:Addr)(xs:List V):Prop:=
 Rd H a (.tup xs)\/
  ∃(o:Obj) (its:Array Value) (n:Nat),K.lookup a=some o/\o.cls=.type "tuple"/\o.data=.seq its n/\its.size<=sizeLine/\Vals xs its.toList
noncomputable def Lv:Value->Option V
 | .none=>some .non
 | .bool b=>some (.bl b)
 | .int i _=>some (.int i)
 | .str x _=>some (.str x)
 | .bytes b _=>some (.BN b)
 | .float b _=>some (.BK b)
 | .ref a=>some (.ref a)
 | .type n=>some (.ty n)
 | _=>none
theorem RelV.abs{x:V}{u:Value}(r:RelV x u):Lv u=some x:=by
 cases x with
 | non=>cases r;rfl
 | bl _=>cases r;rfl
 | int _=>obtain⟨t,rfl⟩:=r;rfl
 | str _=>obtain⟨t,rfl⟩:=r;rfl
 | BN _=>obtain⟨t,rfl⟩:=r;rfl
 | BK _=>obtain⟨t,rfl⟩:=r;rfl
 | ref _=>cases r;rfl
 | ty _=>cases r;rfl
theorem RelV.inj{x y:V}{u:Value}(r:RelV x u)(q:RelV y u):x=y:=Option.some.inj (r.abs.symm.trans q.abs)
theorem Vals.inj{xs ys:List V}{us:List Value}(h:Vals xs us)(k:Vals ys us):xs=ys:=by
 induction h generalizing ys with
 | nil=>cases k;rfl
 | cons r t ih=>
  cases k with
  | cons r' t'=>rw[r.inj r',ih t']
section
variable {X:Cx} {pins:List (Addr×Obj)} {σ:St} {H:Hp} {s:Shared} {a:Addr} {xs ys:List V}
theorem eI.of{K:PySem.W.Frag}(h:H a=some (.lst xs)):eI K H a xs:=.inl (.inl h)
theorem fW.of{K:PySem.W.Frag}(h:H a=some (.tup xs)):fW K H a xs:=.inl (.inl h)
theorem Inv.list(I:Inv X pins σ H s)(h:eI X.K H a xs):∃its:List Value,Vals xs its/\PlainL s.heap a its.toArray/\xs.length<=sizeLine:=by
 rcases h with h | ⟨o,its,n,hk,hc,hd,hs,hz,r⟩
 ·obtain⟨z,its,n,r,e⟩:=h.ok I.cz;exact⟨its,r,⟨_,n,e,rfl,rfl,rfl⟩,z⟩
 ·refine⟨its.toList,r,⟨o,n,I.mT a o hk,hc,hd,by simpa using hs⟩,?_⟩;have e:=r.length;simp only[aO] at e;omega
theorem Inv.tuple(I:Inv X pins σ H s)(h:fW X.K H a xs):∃its:List Value,Vals xs its/\IsTup s.heap a its.toArray/\xs.length<=sizeLine:=by
 rcases h with h | ⟨o,its,n,hk,hc,hs,hz,r⟩
 ·obtain⟨z,its,r,p⟩:=h.ok I.cz;exact⟨its,r,p,z⟩
 ·refine⟨its.toList,r,⟨o,I.mT a o hk,hc,n,by simpa using hs⟩,?_⟩;have e:=r.length;simp only[aO] at e;omega
theorem Inv.gX(I:Inv X pins σ H s)(h:eI X.K H a xs)(h':eI X.K H a ys):xs=ys:=by
 obtain⟨its,r,⟨o,n,e,_,_,d⟩,_⟩:=I.list h;obtain⟨its',r',⟨o',n',e',_,_,d'⟩,_⟩:=I.list h';rw[e] at e';cases e';rw[d] at d';injection d' with d1 _
 have:its=its':=by simpa using congrArg Array.toList d1
 subst this;exact r.inj r'
theorem Inv.kX(I:Inv X pins σ H s)(h:fW X.K H a xs)(h':fW X.K H a ys):xs=ys:=by
 obtain⟨its,r,⟨o,e,_,n,d⟩,_⟩:=I.tuple h;obtain⟨its',r',⟨o',e',_,n',d'⟩,_⟩:=I.tuple h';rw[e] at e';cases e';rw[d] at d';injection d' with d1 _
 have:its=its':=by simpa using congrArg Array.toList d1
 subst this;exact r.inj r'
end
noncomputable abbrev Cx.kG(X:Cx)(E:Value->Shared->Prop):Cx:={ X with xe:=E }
noncomputable abbrev Cx.sv(X:Cx):Cx:=X.kG fun _ _=>False
theorem Cx.Ok.kG{X:Cx}(ok:X.Ok)(E:Value->Shared->Prop):(X.kG E).Ok:=
 ⟨ok.mod,ok.kind,ok.glob,ok.blt,ok.above,ok.inj,ok.has,ok.cab,ok.hd,ok.frames,ok.yO,ok.exf,ok.bs,ok.sS,ok.oW,ok.o8,ok.gn,ok.qG⟩
theorem Cx.Ok.gU{X:Cx}{E:Value->Shared->Prop}(ok:(X.kG E).Ok):X.Ok:=
 ⟨ok.mod,ok.kind,ok.glob,ok.blt,ok.above,ok.inj,ok.has,ok.cab,ok.hd,ok.frames,ok.yO,ok.exf,ok.bs,ok.sS,ok.oW,ok.o8,ok.gn,ok.qG⟩
section
variable {X:Cx} {pins:List (Addr×Obj)} {σ:St} {H:Hp} {s:Shared} {E:Value->Shared->Prop}
theorem Inv.kG(I:Inv X pins σ H s)(E:Value->Shared->Prop):Inv (X.kG E) pins σ H s:=⟨I.ok.kG E,I.os,I.bare,I.base,I.loc,I.cell,I.free,I.fJ,I.pin,I.cz,I.len⟩
theorem Inv.gU(I:Inv (X.kG E) pins σ H s):Inv X pins σ H s:=⟨I.ok.gU,I.os,I.bare,I.base,I.loc,I.cell,I.free,I.fJ,I.pin,I.cz,I.len⟩
theorem SP.gU{D:Ends}{f:Flow}{s':Shared}(h:SP (X.kG E) pins D f s'):SP X pins D f s':=by
 cases f with
 | next=>obtain⟨cj,H',I,q⟩:=h;exact⟨cj,H',I.gU,q⟩
 | brk=>obtain⟨cj,H',I,q⟩:=h;exact⟨cj,H',I.gU,q⟩
 | cont=>obtain⟨cj,H',I,q⟩:=h;exact⟨cj,H',I.gU,q⟩
 | ret u=>obtain⟨v,cj,H',I,r,q⟩:=h;exact⟨v,cj,H',I.gU,r,q⟩
theorem mD.sv{st:List Stmt}{t:TS}(h:mD X.sv st t):mD X st t:=fun pins s σ H D I hw=>
 wpAny_mono (h pins s σ H D (I.kG _) hw) (fun _ _ q=>q.gU) fun _ _ z=>False.elim z
end
section
variable {X:Cx} {st:Stmt} {kz:List Stmt} {t u:TS} {e:Expr} {te:TE} {pos:Pos}
def Ma:TS:=fun D σ H=>D.nx σ H
def Lu(t u:TS):TS:=fun D σ H=>t { D with nx:=u D } σ H
theorem Hu:mD X [] Ma:=fun _ _ σ H _ I h=>wpAny_execs_nil ⟨σ,H,I,h⟩
theorem Di(h1:PS X st t)(h2:mD X kz u):mD X (st::kz) (Lu t u):=by
 intro pins s σ H D I h;refine wpAny_execs_cons (cJ (h1 pins s σ H { D with nx:=u D } I h) fun f s1 q=>?_);cases f with
 | next=>
  obtain⟨cj,H',I',q⟩:=q;exact h2 pins s1 cj H' D I' q
 | ret v=>exact q
 | brk=>exact q
 | cont=>exact q
theorem C5(h1:PS X st t):mD X [st] t:=by
 intro pins s σ H D I h;refine wpAny_execs_cons (cJ (h1 pins s σ H D I h) fun f s1 q=>?_);cases f with
 | next=>exact wpAny_execs_nil q
 | ret v=>exact q
 | brk=>exact q
 | cont=>exact q
theorem Inv.quiet{pins:List (Addr×Obj)}{σ:St}{H:Hp}{s:Shared}(I:Inv X pins σ H s):interactive X.env=false:=by simp[interactive,I.ok.kind]
def L9(te:TE):TS:=fun D σ H=>te σ H fun _ H1=>D.nx σ H1
theorem vT(he:PE X e te)(hs:swapsWith e none pos.line X.env=pure false:=by rfl):PS X (.Expr e pos) (L9 te):=by
 intro pins s σ H D I h;exact wpAny_Expr_any (cJ (he pins s σ H _ I h) fun v s1 bR=>by obtain⟨x,H1,I1,r1,q1⟩:=bR;exact⟨σ,H1,I1,q1⟩) I.quiet hs
def Ls(te:TE):TS:=fun D σ H=>te σ H D.rt
theorem xA(he:PE X e te):PS X (.Return (some e) pos) (Ls te):=by
 intro pins s σ H D I h;exact wpAny_Return_some (cJ (he pins s σ H _ I h) fun v s1 bR=>by obtain⟨x,H1,I1,r1,q1⟩:=bR;exact⟨x,σ,H1,I1,r1,q1⟩)
def Lr(c:TT)(t u:TS):TS:=fun D σ H=>c σ H fun b H1=>if b=true then t D σ H1 else u D σ H1
theorem Gj{c:Expr}{a b:List Stmt}{tc:TT}(hc:PT X c tc)(ha:mD X a t)(hb:mD X b u):PS X (.If c a b pos) (Lr tc t u):=by
 intro pins s σ H D I h;refine wpAny_If (cJ (hc pins s σ H _ I h) fun d s1 bR=>?_);obtain⟨H1,I1,q1⟩:=bR;cases d with
 | true=>exact ha pins s1 σ H1 D I1 q1
 | false=>exact hb pins s1 σ H1 D I1 q1
end
noncomputable abbrev TG:=V->St->Hp->(St->Hp->Prop)->Prop
noncomputable abbrev sT:=List V->St->Hp->(St->Hp->Prop)->Prop
def PG(X:Cx)(target:Expr)(t:TG):Prop:=
 ∀(pins:List (Addr×Obj)) (s:Shared) (σ:St) (H:Hp) (v:V) (u:Value) (Q:St->Hp->Prop),Inv X pins σ H s->RelV v u->t v σ H Q->
  wpAny (model X.prog X.w) X.A (assign target X.env u) (fun _ s'=>∃cj H',Inv X pins cj H' s'/\Q cj H') X.xe s
def wO(X:Cx)(ts:List Expr)(t:sT):Prop:=
 ∀(pins:List (Addr×Obj)) (s:Shared) (σ:St) (H:Hp) (vs:List V) (us:List Value) (Q:St->Hp->Prop),Inv X pins σ H s->Vals vs us->t vs σ H Q->
  wpAny (model X.prog X.w) X.A (assignInOrder ((assignEach ts X.env).map (·.2)) us) (fun _ s'=>∃cj H',Inv X pins cj H' s'/\Q cj H') X.xe s
noncomputable abbrev B7:=V->V->V->Hp->(Hp->Prop)->Prop
def F2(X:Cx)(t:B7):Prop:=
 ∀(pins:List (Addr×Obj)) (s:Shared) (σ:St) (H:Hp) (o i v:V) (ov iv u:Value) (Q:Hp->Prop),Inv X pins σ H s->RelV o ov->RelV i iv->RelV v u->t o i v H Q->
  wpAny (model X.prog X.w) X.A (setItem ov iv u) (fun _ s'=>∃H',Inv X pins σ H' s'/\Q H') X.xe s
section
variable {X:Cx} {pos:Pos}
def xk(i:Nat):TG:=fun v σ H Q=>Q (σ.set i (some v)) H
theorem Oh{i:Nat}{x:Str}(hN:X.N.Nodup)(hi:X.N[i]?=some x)(hx:Loc X.env.scope x)(hf:X.fn x=true\/X.env.scope.names.lookup x=some .local:=by first | exact .inl rfl | exact .inr rfl | assumption):PG X (.Name x pos) (xk i):=by
 intro pins s σ H v u Q I r h;exact wpAny_assign_Name (Dj I hN hi hx r (fun s' I'=>⟨_,H,I',h⟩) hf)
noncomputable def Lq:sT:=fun vs σ H Q=>vs=[]/\Q σ H
noncomputable def L8(t:TG)(u:sT):sT:=fun vs σ H Q=>∃v r,vs=v::r/\t v σ H fun cj H'=>u r cj H' Q
theorem Ht:wO X [] Lq:=by
 intro pins s σ H vs us Q I r h;obtain⟨e,h⟩:=h;subst e;cases r;exact assignInOrder_nil ⟨σ,H,I,h⟩
theorem Dh{e:Expr}{es:List Expr}{t:TG}{u:sT}(h1:PG X e t)(h2:wO X es u)
  (hs:(assignEach (e::es) X.env).map (·.2)=assign e X.env::(assignEach es X.env).map (·.2):=by rfl):wO X (e::es) (L8 t u):=by
 intro pins s σ H vs us Q I r h;obtain⟨v,vr,e1,h⟩:=h;subst e1;cases r with
 | cons r rr=>
  rw[hs];refine assignInOrder_cons (cJ (h1 pins s σ H _ _ _ I r h) fun _ s1 bR=>?_);obtain⟨KW,H1,I1,q1⟩:=bR;exact h2 pins s1 KW H1 _ _ Q I1 rr q1
def Lp(K:PySem.W.Frag)(n:Nat)(t:sT):TG:=fun v σ H Q=>∃a xs,v=.ref a/\fW K H a xs/\xs.length=n/\t xs σ H Q
theorem GS{es:List Expr}{k:Nat}{t:sT}{n:Nat}(hc:X.calm=true)(h:wO X es t)
  (hn:(assignEach es X.env).length=n:=by rfl) (fA:(assignEach es X.env).findIdx? (·.1)=none:=by rfl):PG X (.Tuple es k pos) (Lp X.K n t):=by
 intro pins s σ H v u Q I r hw;obtain⟨a,xs,e1,hq,hl,hw⟩:=hw;subst e1;cases r;obtain⟨its,rv,ht,hz⟩:=I.tuple hq;refine assign_Tuple_tuple (I.ok.hd hc) ht (by simp[hn,<-hl,rv.length]) fA fun h' hx=>?_
 have I1:Inv X pins σ H { s with heap:=h' }:=I.kept (t':=s.toks) fun b o e=>hx b o (aI (ax e)) e
 exact h pins _ σ H xs _ Q I1 (by simpa using rv) hw
def Lo(to ti:TE)(t:B7):TG:=fun v σ H Q=>to σ H fun o H1=>ti σ H1 fun i H2=>t o i v H2 fun H3=>Q σ H3
theorem Ai{o i:Expr}{to ti:TE}{t:B7}(ho:PE X o to)(hi:PE X i ti)(hs:F2 X t)
  (ha:∀v,assign (.Subscript o i pos) X.env v=(do
   let ov <-holding [v] (eval o X.env)
   let iv <-holding [v,ov] (eval i X.env)
   standAt pos
   holding [v,ov,iv] (setItem ov iv v)
   release [v,ov,iv] []):=by intro _;rfl):PG X (.Subscript o i pos) (Lo to ti t):=by
 intro pins s σ H v u Q I r h;rw[ha];refine ae (ba (cJ (ho pins s σ H _ I h) fun ov s1 bR=>?_));obtain⟨x,H1,I1,r1,q1⟩:=bR;refine ae (ba (cJ (hi pins s1 σ H1 _ I1 q1) fun iv s2 bR=>?_));obtain⟨y,H2,I2,r2,q2⟩:=bR;refine ae (wpAny_standAt (ae (ba (cJ (hs pins s2 σ H2 x y v ov iv u _ I2 r1 r2 r q2) fun _ s3 bR=>?_))));obtain⟨H3,I3,q3⟩:=bR;exact wpAny_release ⟨σ,H3,I3,q3⟩
def wX(te:TE)(g:TG):TS:=fun D σ H=>te σ H fun x H1=>g x σ H1 D.nx
theorem Ah{tg e:Expr}{te:TE}{g:TG}(he:PE X e te)(hg:PG X tg g)(hs:swapsWithSole [tg] e pos.line X.env=pure false:=by rfl)(hw:swappedStores [tg] e X.env=pure none:=by rfl)
  (h1:(assignEach [tg] X.env).map (·.2)=[assign tg X.env]:=by rfl):PS X (.Assign [tg] e pos) (wX te g):=by
 intro pins s σ H D I h;refine wpAny_Assign_stores (cJ (he pins s σ H _ I h) fun v s1 bR=>?_) hs hw;obtain⟨x,H1,I1,r1,q1⟩:=bR;rw[h1];exact cJ (hg pins s1 σ H1 x v _ I1 r1 q1) fun _ s2 q=>q
theorem Aq{i:Nat}{x:Str}{e:Expr}{te:TE}{pos':Pos}(hN:X.N.Nodup)(hi:X.N[i]?=some x)(hx:Loc X.env.scope x)(he:PE X e te)(hs:swapsWith e (some (.Name x pos')) pos.line X.env=pure false:=by rfl)(hf:X.fn x=true\/X.env.scope.names.lookup x=some .local:=by first | exact .inl rfl | exact .inr rfl | assumption) :
  PS X (.Assign [.Name x pos'] e pos) (wX te (xk i)):=by
 intro pins s σ H D I h;refine wpAny_Assign_Name (cJ (he pins s σ H _ I h) fun v s1 bR=>?_) hs;obtain⟨y,H1,I1,r1,q1⟩:=bR;exact Dj I1 hN hi hx r1 (fun s2 I2=>⟨_,H1,I2,q1⟩) hf
end
structure It where
 go:Nat->Hp->Prop
 Bm:Nat->Hp->V->Hp->Prop
 stop:Nat->Hp->Prop
def js(X:Cx)(pins:List (Addr×Obj))(H:Hp)(b:Addr):Prop:=
 H b=none/\b≠X.env.locals/\b∉X.fs/\(b∈X.ex\/X.cK.heap.objs.size<=b)/\(∀x c,X.env.cells.lookup x=some c->c≠b)/\∀p∈X.pn++pins,p.1≠b
theorem Inv.nt{X:Cx}{pins:List (Addr×Obj)}{σ:St}{H H':Hp}{s:Shared}{b:Addr}(I:Inv X pins σ H s)(hb:s.heap.objs.size<=b)(hn:H' b=none):js X pins H' b:=by
 refine⟨hn,Nat.ne_of_gt (aJ I.lt hb),I.En hb,.inr (aY I.sz hb),fun x c e z=>?_,fun p hp z=>?_⟩
 ·obtain⟨v,q⟩:=I.cell x c e;exact absurd (aJ q.lt (by rw[z];exact hb)) (Nat.lt_irrefl _)
 ·exact absurd (aJ (ax (I.pin p hp).1) (by rw[z];exact hb)) (Nat.lt_irrefl _)
structure Turn (P:Program) (w:World) (K:PySem.W.Frag) (tg:Expr) (J:It) (fp:List Addr) (it:Addr) (tn:Nat->Heap->Prop):Prop where
 mem:it∈fp
 obj:∀i h,tn i h->∀b∈fp,∃o,h.get? b=some o/\∀v,o.data≠.cell v
 keep:∀i h h',tn i h->(∀b∈fp,∀o,h.get? b=some o->h'.get? b=some o)->tn i h'
 item:∀(X:Cx),X.prog=P->X.w=w->X.K=K->X.calm=true->∀(i:Nat) (pins:List (Addr×Obj)) (s:Shared) (σ:St) (H:Hp) (E:Value->Shared->Prop),Inv X pins σ H s->(∀b∈fp,js X pins H b)->tn i s.heap->J.go i H->
  wpAny (model P w) X.A (pyNext (.ref it)) (fun r s1=>∃u,r=some u/\
   wpAny (model P w) X.A (letOwnedTupleGo tg (.ref it) u) (fun _ s2=>∃x H',Inv X pins σ H' s2/\RelV x u/\J.Bm i H x H'/\tn (i+1) s2.heap/\∀b∈fp,H' b=none) E s1) E s
 done:∀(X:Cx),X.prog=P->X.w=w->X.K=K->X.calm=true->∀(i:Nat) (pins:List (Addr×Obj)) (s:Shared) (σ:St) (H:Hp) (E:Value->Shared->Prop),Inv X pins σ H s->(∀b∈fp,js X pins H b)->tn i s.heap->J.stop i H->
  wpAny (model P w) X.A (pyNext (.ref it)) (fun r s1=>r=none/\Inv X pins σ H s1) E s
 self:∀(A:Around) (i:Nat) (s:Shared) (Q:Value->Shared->Prop) (E:Value->Shared->Prop),tn i s.heap->Q (.ref it) s->wpAny (model P w) A (pyIter (.ref it)) Q E s
noncomputable abbrev TI:=St->Hp->(It->Hp->Prop)->Prop
def BR(X:Cx)(pins:List (Addr×Obj))(σ:St)(tg:Expr)(R:It->Hp->Prop)(Et:Value)(s2:Shared):Prop:=
 ∃(it:Addr) (fp:List Addr) (tn:Nat->Heap->Prop) (J:It) (H':Hp),Et=.ref it/\Inv X pins σ H' s2/\Turn X.prog X.w X.K tg J fp it tn/\tn 0 s2.heap/\(∀b∈fp,js X pins H' b)/\R J H'
def PI(X:Cx)(tg iter:Expr)(wi:TI):Prop:=
 ∀(pins:List (Addr×Obj)) (s:Shared) (σ:St) (H:Hp) (R:It->Hp->Prop),Inv X pins σ H s->wi σ H R->
  wpAny (model X.prog X.w) X.A (eval iter X.env) (fun v s1=>wpAny (model X.prog X.w) X.A (pyIter v) (BR X pins σ tg R) X.xe s1) X.xe s
theorem Ad{M:Model}{A:Around}{E:Value->Shared->Prop}{s:Shared}{tg:Expr}{it:Addr}{u:Value}{o:Obj}{n:String}{vs:Array Value}{Q:Unit->Shared->Prop}(ho:s.heap.get? it=some o)(hc:o.cls=.type n)(hd:o.data=.fields vs)
  (hn:["enumerate","zip","dict_itemiterator","dict_reverseitemiterator","odict_iterator","itertools.zip_longest","itertools.pairwise"].contains n=false) (hQ:Q () s):wpAny M A (letOwnedTupleGo tg (.ref it) u) Q E s:=by
 unfold letOwnedTupleGo;cases tg<;>first
  | exact ar hQ
  | (cases u<;>first
    | exact ar hQ
    | (refine ae (wpAny_load ho ?_)
       rw[hc,hd];show wpAny M A (if (["enumerate","zip","dict_itemiterator","dict_reverseitemiterator","odict_iterator","itertools.zip_longest","itertools.pairwise"].contains n&&vs[0]?==some (rawInt _))=true then _ else _) Q E s;rw[if_neg (by intro h;rw[hn,Bool.false_and] at h;cases h)];exact ar hQ))
noncomputable def FN(K:PySem.W.Frag)(a:Addr):It:=
 ⟨fun i H=>∃xs x,eI K H a xs/\xs[i]?=some x,fun i H x H'=>H'=H/\∀xs,eI K H a xs->xs[i]?=some x,fun i H=>∃xs,eI K H a xs/\xs.length<=i⟩
noncomputable def FL(K:PySem.W.Frag)(a:Addr):It:=
 ⟨fun i H=>∃xs x,fW K H a xs/\xs[i]?=some x,fun i H x H'=>H'=H/\∀xs,fW K H a xs->xs[i]?=some x,fun i H=>∃xs,fW K H a xs/\xs.length<=i⟩
noncomputable def BY(lo:Int)(n:Nat):It:=⟨fun i _=>i<n,fun i H x H'=>H'=H/\x=.int (lo+i),fun i _=>n<=i⟩
theorem Qi{P:Program}{w:World}{K:PySem.W.Frag}{tg:Expr}(a it:Addr):Turn P w K tg (FN K a) [it] it (fun i h=>h.IsListIter it a i) where
 mem:=by simp
 obj:=fun i h st b hb=>by
  have e:b=it:=by simpa using hb
  subst e;obtain⟨o,e,c,d⟩:=st;exact⟨o,e,fun v z=>by rw[d] at z;cases z⟩
 keep:=fun i h h' st k=>st.at fun o e=>k it (by simp) o e
 item:=by
  intro X hP hw hK hc i pins s σ H E I hf st hg;subst hP hw hK;obtain⟨xs,x,hq,hx⟩:=hg;obtain⟨its,rv,p,hz⟩:=I.list hq;obtain⟨u,hu,ru⟩:=rv.get hx;obtain⟨f0,f1,f2,f3,f4,f5⟩:=hf it (by simp);refine wpAny_pyNext_list_item st p.isList (x:=u) (by simpa using hu) fun h' gm sb=>?_
  have I1:Inv X pins σ H { s with heap:=h' }:=I.turned (t':=s.toks) (fun b o hb e=>(sb.2 b hb).trans e) f0 f1 f3 f4 f5;obtain⟨o,e,c,d⟩:=id gm;exact⟨u,rfl,Ad (s:={ s with heap:=h' }) e c d (by decide) ⟨x,H,I1,ru,⟨rfl,fun ys hy=>by rw[I.gX hy hq];exact hx⟩,gm,fun b hb=>(hf b hb).1⟩⟩
 done:=by
  intro X hP hw hK hc i pins s σ H E I hf st hg;subst hP hw hK;obtain⟨xs,hq,hx⟩:=hg;obtain⟨its,rv,p,hz⟩:=I.list hq;obtain⟨f0,f1,f2,f3,f4,f5⟩:=hf it (by simp);have hl:=rv.length;exact wpAny_pyNext_list_end (I.ok.hd hc) st p.isList (by simp;omega) fun h' eb=>⟨rfl,I.turned (t':=s.toks) (fun b o hb e=>eb b o hb e) f0 f1 f3 f4 f5⟩
 self:=fun _ _ _ _ _ st h=>wpAny_pyIter_listiter st h
theorem QO{P:Program}{w:World}{K:PySem.W.Frag}{tg:Expr}(a it:Addr):Turn P w K tg (FL K a) [it] it (fun i h=>h.IsTupleIter it a i) where
 mem:=by simp
 obj:=fun i h st b hb=>by
  have e:b=it:=by simpa using hb
  subst e;obtain⟨o,e,c,d⟩:=st;exact⟨o,e,fun v z=>by rw[d] at z;cases z⟩
 keep:=fun i h h' st k=>st.at fun o e=>k it (by simp) o e
 item:=by
  intro X hP hw hK hc i pins s σ H E I hf st hg;subst hP hw hK;obtain⟨xs,x,hq,hx⟩:=hg;obtain⟨its,rv,p,hz⟩:=I.tuple hq;obtain⟨u,hu,ru⟩:=rv.get hx;obtain⟨f0,f1,f2,f3,f4,f5⟩:=hf it (by simp);refine wpAny_pyNext_tuple_item st (show s.heap.IsTuple a its.toArray from p) (x:=u) (by simpa using hu) fun h' gm sb=>?_
  have I1:Inv X pins σ H { s with heap:=h' }:=I.turned (t':=s.toks) (fun b o hb e=>(sb.2 b hb).trans e) f0 f1 f3 f4 f5;obtain⟨o,e,c,d⟩:=id gm;exact⟨u,rfl,Ad (s:={ s with heap:=h' }) e c d (by decide) ⟨x,H,I1,ru,⟨rfl,fun ys hy=>by rw[I.kX hy hq];exact hx⟩,gm,fun b hb=>(hf b hb).1⟩⟩
 done:=by
  intro X hP hw hK hc i pins s σ H E I hf st hg;subst hP hw hK;obtain⟨xs,hq,hx⟩:=hg;obtain⟨its,rv,p,hz⟩:=I.tuple hq;obtain⟨f0,f1,f2,f3,f4,f5⟩:=hf it (by simp);have hl:=rv.length;exact wpAny_pyNext_tuple_end (I.ok.hd hc) st (show s.heap.IsTuple a its.toArray from p) (by simp;omega) fun h' eb=>⟨rfl,I.turned (t':=s.toks) (fun b o hb e=>eb b o hb e) f0 f1 f3 f4 f5⟩
 self:=fun _ _ _ _ _ st h=>wpAny_pyIter_tupleiter st h
theorem QN{P:Program}{w:World}{K:PySem.W.Frag}{tg:Expr}(it:Addr)(lo:Int)(n:Nat):Turn P w K tg (BY lo n) [it] it (fun i h=>IsRangeIter h it (lo+(i:Nat)*1) ((n:Int)-(i:Nat)) 1) where
 mem:=by simp
 obj:=fun i h st b hb=>by
  have e:b=it:=by simpa using hb
  subst e
  exact⟨_,st,fun v z=>by
   have z':Data.fields _=Data.cell v:=z;cases z'⟩
 keep:=fun i h h' st k=>k it (by simp) _ st
 item:=by
  intro X hP hw hK hc i pins s σ H E I hf st hg;subst hP hw hK;obtain⟨f0,f1,f2,f3,f4,f5⟩:=hf it (by simp);have W:=Walks.range (prog:=X.prog) (w:=X.w) (I.ok.hd hc) it lo 1 n;refine W.item i s _ _ hg st fun v h' tk hv gm kk=>?_
  obtain⟨t,rfl⟩:=hv;have I1:Inv X pins σ H { s with heap:=h',toks:=tk }:=I.turned (fun b o hb e=>kk b o (by simpa using hb) e) f0 f1 f3 f4 f5;refine⟨_,rfl,Ad (s:={ s with heap:=h',toks:=tk }) (n:="range_iterator") gm rfl rfl (by decide) ⟨.int (lo+i),H,I1,⟨t,?_⟩,⟨rfl,rfl⟩,gm,fun b hb=>(hf b hb).1⟩⟩;rw[Int.mul_one]
 done:=by
  intro X hP hw hK hc i pins s σ H E I hf st hg;subst hP hw hK;obtain⟨f0,f1,f2,f3,f4,f5⟩:=hf it (by simp);exact wpAny_pyNext_range_end (I.ok.hd hc) st (by have:n<=i:=hg;omega) fun h' eb=>⟨rfl,I.turned (t':=s.toks) (fun b o hb e=>eb b o hb e) f0 f1 f3 f4 f5⟩
 self:=fun _ _ _ _ _ st h=>wpAny_pyIter_rangeiter st h
end L2
namespace L2
open PySem PySem.Spec PyProof.Rows
section
variable {X:Cx} {tg:Expr}
theorem P0{pins:List (Addr×Obj)}{σ:St}{H:Hp}{s:Shared}{R:It->Hp->Prop}{E:Value->Shared->Prop}{lo hi:Int}{t u v:Tok}{tk:Nat}(I:Inv X pins σ H s)(h1:-(2 ^ 62)<=lo)(h2:lo<2 ^ 62)(h3:-(2 ^ 62)<=hi)(h4:hi<2 ^ 62)
  (q:R (BY lo (hi-lo).toNat) H):wpAny (model X.prog X.w) X.A (pyIter (.ref s.heap.objs.size)) (BR X pins σ tg R) E { s with heap:=s.heap.push { cls:=.type "range",data:=.fields #[.int lo t,.int hi u,.int 1 v] },toks:=tk }:=by
 refine wpAny_pyIter_range (IsRange.new ..) (small_one h1 h2 h3 h4) ?_;have I1:Inv X pins σ H { s with heap:=s.heap.push { cls:=.type "range",data:=.fields #[.int lo t,.int hi u,.int 1 v] },toks:=tk }:=I.kept fun b o e=>av _ e
 refine⟨(s.heap.push { cls:=.type "range",data:=.fields #[.int lo t,.int hi u,.int 1 v] }).objs.size,[(s.heap.push { cls:=.type "range",data:=.fields #[.int lo t,.int hi u,.int 1 v] }).objs.size],_,_,H,rfl,
  I1.kept (t':=tk) fun b o e=>av _ e,QN _ lo (hi-lo).toNat,?_,fun b hb=>?_,q⟩
 ·have e1:lo+((0:Nat):Int)*1=lo:=by simp
  have e2:(((hi-lo).toNat:Nat):Int)-((0:Nat):Int)=Builtin.Range.rangeSize lo hi 1:=by rw[rangeSize_one];split<;>omega
  show IsRangeIter _ _ (lo+((0:Nat):Int)*1) ((((hi-lo).toNat:Nat):Int)-((0:Nat):Int)) 1;rw[e1,e2];exact aP _ rfl
 ·have e:b=(s.heap.push { cls:=.type "range",data:=.fields #[.int lo t,.int hi u,.int 1 v] }).objs.size:=by simpa using hb
  subst e;exact I1.nt (az _) (I1.cz.fresh (az _))
def L7(ta:TA):TI:=fun σ H R=>ta σ H fun vs H1=>∃j:Int,vs=[.int j]/\-(2 ^ 62)<=j/\j<2 ^ 62/\R (BY 0 j.toNat) H1
theorem Qh{a:Expr}{ta:TA}{p pos:Pos}(hg:Gl X "range")(hm:X.mg "range"=none)(ha:PA X [a] ta)(hs:starEach [a] X.env=[(false,eval a X.env)]:=by rfl):PI X tg (.Call (.Name "range" p) [a] [] pos) (L7 ta):=by
 intro pins s σ H R I h;refine Call_ (tL I hg hm boot_range (PyProof.Rows.callWith_type1 (cJ (ha pos pins s σ H _ I h) fun us s1 bR=>?_) hs rfl));obtain⟨vs,H1,I1,r1,q1⟩:=bR;obtain⟨j,e,q1,q2,q⟩:=q1;subst e;cases r1 with
 | cons r rr=>
  cases rr;obtain⟨t,rfl⟩:=r;exact call_range_1 (P0 I1 (by omega) (by omega) q1 q2 (by simpa using q))
def Ln(wi:TI)(g:TG)(tb:TS):TS:=fun D σ H=>wi σ H fun J H1=>∃W:Nat->Nat->St->Hp->Prop,(∃m,W 0 m σ H1)/\∀i m σ H,W i m σ H->
 (J.stop i H/\D.nx σ H)\/(J.go i H/\∃N:St->Hp->Prop,(∀cj H',N cj H'->∃m',m'<m/\W (i+1) m' cj H')/\∀x H',J.Bm i H x H'->g x σ H' fun nJ H2=>tb { D with nx:=N,ct:=N,bk:=D.nx } nJ H2)
noncomputable def xy(fp:List Addr)(h:Heap):List (Addr×Obj):=fp.filterMap fun b=>(h.get? b).map fun o=>(b,o)
theorem A3{fp:List Addr}{h:Heap}{b:Addr}{o:Obj}(hb:b∈fp)(e:h.get? b=some o):(b,o)∈xy fp h:=List.mem_filterMap.mpr ⟨b,hb,by rw[e];rfl⟩
theorem Qg{fp:List Addr}{h:Heap}{p:Addr×Obj}(hp:p∈xy fp h):p.1∈fp/\h.get? p.1=some p.2:=by
 obtain⟨b,hb,e⟩:=List.mem_filterMap.mp hp;cases q:h.get? b with
 | none=>rw[q] at e;cases e
 | some o=>
  rw[q] at e;have e':(b,o)=p:=Option.some.inj e;subst e';exact⟨hb,q⟩
theorem Inv.pinned{pins:List (Addr×Obj)}{σ:St}{H:Hp}{s:Shared}{fp:List Addr}(I:Inv X pins σ H s)(hf:∀b∈fp,js X pins H b)(ho:∀b∈fp,∃o,s.heap.get? b=some o/\∀v,o.data≠.cell v):Inv X (pins++xy fp s.heap) σ H s:=
 I.nS fun p hp=>(au.mp hp).elim (fun z=>I.pin p (aS _ z)) fun z=>by
  obtain⟨hb,e⟩:=Qg z;obtain⟨f0,f1,f2,_⟩:=hf p.1 hb;obtain⟨o,e',d⟩:=ho p.1 hb;rw[e] at e';cases e';exact⟨e,f0,f1,f2,d⟩
theorem Inv.iV{pins pl:List (Addr×Obj)}{σ:St}{H:Hp}{s:Shared}(I:Inv X (pins++pl) σ H s):Inv X pins σ H s:=I.nS fun p hp=>I.pin p (aS _ (List.mem_append_left _ hp))
theorem MI{iter:Expr}{body:List Stmt}{wi:TI}{g:TG}{tb:TS}{pos:Pos}(hp:PassesOwn (model X.prog X.w) X.A X.env X.xe)(hc:X.calm=true)(hi:PI X tg iter wi)(hg:PG X tg g)(hb:mD X body tb)
  (hs:∀x,foldedSetIterable iter X.env x=pure x:=by intro _;rfl):PS X (.For tg iter body [] pos) (Ln wi g tb):=by
 intro pins s σ H D I h;refine wpAny_For (cJ (hi pins s σ H _ I h) fun v s1 h1=>cJ h1 fun Et s2 h2=>?_) hs;obtain⟨it,fp,tn,J,H2,e,I2,T,rf,f2,W,⟨m0,w0⟩,turn⟩:=h2;subst e
 -- uJ stays true of pF uX objects through pF loop
 have uK:∀{H':Hp},(∀b∈fp,H' b=none)->∀b∈fp,js X pins H' b:=fun hn b hb=>⟨hn b hb,(f2 b hb).2⟩
 refine codeAny_forLoop_any (fun n s'=>∃i cj H',Inv X pins cj H' s'/\tn i s'.heap/\(∀b∈fp,H' b=none)/\W i n cj H') ?_ m0 ⟨0,σ,H2,I2,rf,fun b hb=>(f2 b hb).1,w0⟩;rintro n s3 ⟨i,qN,H3,I3,JM,KD,w3⟩;rcases turn i n qN H3 w3 with⟨stop,qn⟩ | ⟨go,N,hN,step⟩
 ·refine wpAny_passesOwn hp (cJ (T.done X rfl rfl rfl hc i pins s3 qN H3 X.xe I3 (uK KD) JM stop) fun r s4 bR=>?_);obtain⟨hr,I4⟩:=bR;subst hr;exact wpAny_execs_nil ⟨qN,H3,I4,qn⟩
 ·refine wpAny_passesOwn hp (cJ (T.item X rfl rfl rfl hc i pins s3 qN H3 X.xe I3 (uK KD) JM go) fun r s4 bR=>?_);obtain⟨u,hr,h4⟩:=bR;subst hr;refine wpAny_passesOwn hp (cJ h4 fun _ s5 bR=>?_);obtain⟨x,H5,I5,r5,y5,Ed,VM⟩:=bR;have V4:=I5.pinned (uK VM) (T.obj _ _ Ed);refine wpAny_passesOwn hp (cJ (hg _ s5 qN H5 x u _ V4 r5 (step x H5 y5)) fun _ s6 bR=>?_);obtain⟨KU,H6,I6,q6⟩:=bR;refine wpAny_passesOwn hp (cJ (hb _ s6 KU H6 _ I6 q6) fun f s7 q7=>?_);have again:∀{mO:St} {H7:Hp},Inv X (pins++xy fp s5.heap) mO H7 s7->N mO H7->∃m,m<n/\∃i cj H',Inv X pins cj H' s7/\tn i s7.heap/\(∀b∈fp,H' b=none)/\W i m cj H':=fun{mO H7} I7 n7=>by
   obtain⟨m',hm,w7⟩:=hN mO H7 n7;refine⟨m',hm,i+1,mO,H7,I7.iV,T.keep _ _ _ Ed fun b hb o e=>(I7.pin (b,o) (aS _ (aS _ (A3 hb e)))).1,fun b hb=>?_,w7⟩;obtain⟨o,e,d⟩:=T.obj _ _ Ed b hb;exact(I7.pin (b,o) (aS _ (aS _ (A3 hb e)))).2.1
  cases f with
  | next=>obtain⟨mO,H7,I7,n7⟩:=q7;exact again I7 n7
  | cont=>obtain⟨mO,H7,I7,n7⟩:=q7;exact again I7 n7
  | brk=>obtain⟨mO,H7,I7,q7⟩:=q7;exact⟨mO,H7,I7.iV,q7⟩
  | ret v=>obtain⟨x7,mO,H7,I7,r7,q7⟩:=q7;exact⟨x7,mO,H7,I7.iV,r7,q7⟩
end
end L2
namespace L2
open PySem PySem.Spec PyProof.Rows
noncomputable abbrev R2:=V->V->Hp->VK->Prop
def gf(X:Cx)(f:Value->Value->Sem Value)(r:R2):Prop:=
 ∀(pins:List (Addr×Obj)) (s:Shared) (σ:St) (H:Hp) (x y:V) (v u:Value) (Q:VK),Inv X pins σ H s->RelV x v->RelV y u->r x y H Q->
  wpAny (model X.prog X.w) X.A (f v u) (EP X pins σ Q) X.xe s
def FG(X:Cx)(f:Value->Sem Value)(r:V->Hp->VK->Prop):Prop:=
 ∀(pins:List (Addr×Obj)) (s:Shared) (σ:St) (H:Hp) (x:V) (v:Value) (Q:VK),Inv X pins σ H s->RelV x v->r x H Q->
  wpAny (model X.prog X.w) X.A (f v) (EP X pins σ Q) X.xe s
def df(X:Cx)(f:Value)(r:List V->Hp->VK->Prop):Prop:=
 ∀(pins:List (Addr×Obj)) (s:Shared) (σ:St) (H:Hp) (xs:List V) (us:List Value) (Q:VK),Inv X pins σ H s->Vals xs us->r xs H Q->
  wpAny (model X.prog X.w) X.A (call f us) (EP X pins σ Q) X.xe s
def yK(r:R2)(ta tb:TE):TE:=fun σ H Q=>ta σ H fun x H1=>tb σ H1 fun y H2=>r x y H2 Q
def T6(r:V->Hp->VK->Prop)(ta:TE):TE:=fun σ H Q=>ta σ H fun x H1=>r x H1 Q
def rI(C:Int->Int->Prop)(g:Int->Int->V):R2:=fun x y H Q=>∃i j,x=.int i/\y=.int j/\C i j/\Q (g i j) H
def m9(g:Int->Int->V):R2:=fun x y H Q=>∃i j,x=.int i/\y=.int j/\Q (g i j) H
def rU(g:Int->V):V->Hp->VK->Prop:=fun x H Q=>∃i,x=.int i/\Q (g i) H
section
variable {X:Cx} {a b c:Expr} {ta tb tc:TE} {pos:Pos}
theorem B6(ha:PE X a ta)(hb:PE X b tb){pins:List (Addr×Obj)}{s:Shared}{σ:St}{H:Hp}{R:V->V->Hp->Prop}(I:Inv X pins σ H s)
  (h:ta σ H fun x H1=>tb σ H1 fun y H2=>R x y H2) {Q:Value->Shared->Prop} {f:Value->Value->Sem Value}
  (hf:∀v u s2 x y H2,Inv X pins σ H2 s2->RelV x v->RelV y u->R x y H2->wpAny (model X.prog X.w) X.A (f v u) Q X.xe s2) :
  wpAny (model X.prog X.w) X.A (eval a X.env) (fun v cc=>wpAny (model X.prog X.w) X.A (eval b X.env) (fun u jI=>wpAny (model X.prog X.w) X.A (f v u) Q X.xe jI) X.xe cc) X.xe s:=by
 refine cJ (ha pins s σ H _ I h) fun v s1 bR=>?_
 obtain⟨x,H1,I1,r1,q1⟩:=bR;refine cJ (hb pins s1 σ H1 _ I1 q1) fun u s2 bR=>?_
 obtain⟨y,H2,I2,r2,q2⟩:=bR;exact hf v u s2 x y H2 I2 r1 r2 q2
theorem Gi{op:Operator}{r:R2}(ho:gf X (binaryOp op) r)(ha:PE X a ta)(hb:PE X b tb):PE X (.BinOp a op b pos) (yK r ta tb):=by
 intro pins s σ H Q I h;exact wpAny_BinOp (B6 ha hb I h fun v u s2 x y H2 I2 rx ry q=>ho pins s2 σ H2 x y v u Q I2 rx ry q)
theorem L6{op:UnaryOp}{r:V->Hp->VK->Prop}(ho:FG X (unaryOp op) r)(ha:PE X a ta):PE X (.UnaryOp op a pos) (T6 r ta):=by
 intro pins s σ H Q I h;exact UnaryOp_ (cJ (ha pins s σ H _ I h) fun v s1 bR=>by obtain⟨x,H1,I1,r1,q1⟩:=bR;exact ho pins s1 σ H1 x v Q I1 r1 q1)
theorem Bu{f:Value->Value->Sem Value}{C:Int->Int->Prop}{g:Int->Int->Int}
  (rule:∀(i j:Int) (t u:Tok) (s:Shared) (Q:Value->Shared->Prop) (E:Value->Shared->Prop),C i j->Q (.int (g i j) s.toks) { s with toks:=s.toks+1 }->wpAny (model X.prog X.w) X.A (f (.int i t) (.int j u)) Q E s) :
  gf X f (rI C fun i j=>.int (g i j)):=by
 intro pins s σ H x y v u Q I rx ry h;obtain⟨i,j,rfl,rfl,hc,q⟩:=h;obtain⟨t,rfl⟩:=rx;obtain⟨t',rfl⟩:=ry;exact rule i j t t' s _ _ hc ⟨.int (g i j),H,I.tok _,⟨_,rfl⟩,q⟩
theorem F1{f:Value->Value->Sem Value}{g:Int->Int->Int}
  (rule:∀(i j:Int) (t u:Tok) (s:Shared) (Q:Value->Shared->Prop) (E:Value->Shared->Prop),Q (.int (g i j) s.toks) { s with toks:=s.toks+1 }->wpAny (model X.prog X.w) X.A (f (.int i t) (.int j u)) Q E s) :
  gf X f (m9 fun i j=>.int (g i j)):=by
 intro pins s σ H x y v u Q I rx ry h;obtain⟨i,j,rfl,rfl,q⟩:=h;obtain⟨t,rfl⟩:=rx;obtain⟨t',rfl⟩:=ry;exact rule i j t t' s _ _ ⟨.int (g i j),H,I.tok _,⟨_,rfl⟩,q⟩
theorem zX{f:Value->Value->Sem Value}{g:Int->Int->Bool}
  (rule:∀(i j:Int) (t u:Tok) (s:Shared) (Q:Value->Shared->Prop) (E:Value->Shared->Prop),Q (.bool (g i j)) s->wpAny (model X.prog X.w) X.A (f (.int i t) (.int j u)) Q E s) :
  gf X f (m9 fun i j=>.bl (g i j)):=by
 intro pins s σ H x y v u Q I rx ry h;obtain⟨i,j,rfl,rfl,q⟩:=h;obtain⟨t,rfl⟩:=rx;obtain⟨t',rfl⟩:=ry;exact rule i j t t' s _ _ ⟨.bl (g i j),H,I,rfl,q⟩
def gS(i j:Int):Prop:=0<j/\j<1073741824
def oA(i j:Int):Prop:=0<=j/\j<=1000000/\i.natAbs<2 ^ 64
def iK(i j:Int):Prop:=(-(2 ^ 64)<i/\i<2 ^ 64)\/(-(2 ^ 64)<j/\j<2 ^ 64)
theorem iK.ok{i j:Int}(h:iK i j):IntMulOk i j:=by
 rcases h with⟨h1,h2⟩ | ⟨h1,h2⟩
 ·exact .of_left (intBits_le_64 h1 h2)
 ·exact .of_right (intBits_le_64 h1 h2)
theorem uQ:gf X (binaryOp .Add) (m9 fun i j=>.int (i+j)):=F1 fun _ _ _ _ _ _ _ q=>add_int q
theorem MH:gf X (binaryOp .Sub) (m9 fun i j=>.int (i-j)):=F1 fun _ _ _ _ _ _ _ q=>sub_int q
theorem MG:gf X (binaryOp .Mult) (rI iK fun i j=>.int (i*j)):=Bu fun _ _ _ _ _ _ _ hc q=>mul_int q hc.ok
theorem Og:gf X (binaryOp .FloorDiv) (rI gS fun i j=>.int (i/j)):=Bu fun i j _ _ _ _ _ hc q=>by
 have h1:(0:Int)<j:=hc.1;have h2:j<1073741824:=hc.2;exact floordiv_int (by omega) (by rw[Int.fdiv_eq_ediv_of_nonneg i (by omega)];exact q) (.inl (PyProof.noPylong_small (by omega)))
theorem MF:gf X (binaryOp .Mod) (rI (fun _ j=>0<j) fun i j=>.int (i%j)):=Bu fun i j _ _ _ _ _ hc q=>by
 have h1:(0:Int)<j:=hc;exact mod_int' (by omega) (by rw[Int.fmod_eq_emod_of_nonneg i (by omega)];exact q)
theorem ME:gf X (binaryOp .Pow) (rI oA fun i j=>.int (i ^ j.toNat)):=Bu fun _ _ _ _ _ _ _ hc q=>pow_int_small hc.1 hc.2.1 hc.2.2 q
theorem TV{f:Value->Sem Value}{g:Int->Int}
  (rule:∀(i:Int) (t:Tok) (s:Shared) (Q:Value->Shared->Prop) (E:Value->Shared->Prop),Q (.int (g i) s.toks) { s with toks:=s.toks+1 }->wpAny (model X.prog X.w) X.A (f (.int i t)) Q E s) :
  FG X f (rU fun i=>.int (g i)):=by
 intro pins s σ H x v Q I rx h;obtain⟨i,rfl,q⟩:=h;obtain⟨t,rfl⟩:=rx;exact rule i t s _ _ ⟨.int (g i),H,I.tok _,⟨_,rfl⟩,q⟩
theorem MD:FG X (unaryOp .USub) (rU fun i=>.int (-i)):=TV fun _ _ _ _ _ q=>neg_int q
end
section
variable {X:Cx} {a b c:Expr} {ta tb tc:TE} {pos:Pos}
theorem Ap{pins:List (Addr×Obj)}{σ:St}{H:Hp}{s:Shared}{Q:VK}{k k':Bool}(I:Inv X pins σ H s)(q:Q (.bl k) H)(e:k=k'):EP X pins σ Q (.bool k') s:=by
 subst e;exact⟨.bl k,H,I,rfl,q⟩
theorem tX:gf X (compareOp .Lt) (m9 fun i j=>.bl (decide (i<j))):=zX fun _ _ _ _ _ _ _ q=>lt_int q
theorem uy:gf X (compareOp .LtE) (m9 fun i j=>.bl (decide (i<=j))):=zX fun _ _ _ _ _ _ _ q=>le_int q
theorem L5:gf X (compareOp .Gt) (m9 fun i j=>.bl (decide (j<i))):=zX fun _ _ _ _ _ _ _ q=>gt_int q
theorem L4:gf X (compareOp .GtE) (m9 fun i j=>.bl (decide (j<=i))):=zX fun _ _ _ _ _ _ _ q=>ge_int q
theorem Qf:gf X (compareOp .Lt) (fun x y H Q=>∃i j,x=.str i/\y=.str j/\Q (.bl (decide (i.cps.toList<j.cps.toList))) H):=by
 intro pins s σ H x y v u Q I rx ry h;obtain⟨i,j,rfl,rfl,q⟩:=h;obtain⟨t,rfl⟩:=rx;obtain⟨t',rfl⟩:=ry;exact lt_str (Ap I q rfl)
theorem oU:gf X (compareOp .In) (fun x y H Q=>∃i j,x=.str i/\y=.str j/\Q (.bl (!(Builtin.Str.occurrences j i 0 j.length 1).isEmpty)) H):=by
 intro pins s σ H x y v u Q I rx ry h;obtain⟨i,j,rfl,rfl,q⟩:=h;obtain⟨t,rfl⟩:=rx;obtain⟨t',rfl⟩:=ry;exact in_str (Ap I q rfl)
theorem MC:gf X (compareOp .Is) (fun x y H Q=>y=.non/\Q (.bl (decide (x=.non))) H):=by
 intro pins s σ H x y v u Q I rx ry h;obtain⟨rfl,q⟩:=h;cases ry;refine is_none_gen (Ap I q ?_);cases x<;>first
  | (cases rx;rfl)
  | (obtain⟨t,rfl⟩:=rx;rfl)
theorem Of:gf X (compareOp .IsNot) (fun x y H Q=>y=.non/\Q (.bl (!decide (x=.non))) H):=by
 intro pins s σ H x y v u Q I rx ry h;obtain⟨rfl,q⟩:=h;cases ry;refine isnot_none_gen (Ap I q ?_);cases x<;>first
  | (cases rx;rfl)
  | (obtain⟨t,rfl⟩:=rx;rfl)
theorem gf.or{f:Value->Value->Sem Value}{r r':R2}(h:gf X f r)(h':gf X f r'):gf X f (fun x y H Q=>r x y H Q\/r' x y H Q):=by
 intro pins s σ H x y v u Q I rx ry q;rcases q with q | q
 ·exact h pins s σ H x y v u Q I rx ry q
 ·exact h' pins s σ H x y v u Q I rx ry q
theorem GR(b:Expr){op:CmpOp}(h:op≠.In:=by decide)(h2:op≠.NotIn:=by decide):behindInMarks op b=false:=by
 have e1:(op==CmpOp.In)=false:=by cases op<;>first | rfl | exact absurd rfl h
 have e2:(op==CmpOp.NotIn)=false:=by cases op<;>first | rfl | exact absurd rfl h2
 cases b<;>simp[behindInMarks,e1,e2]
theorem Oe{op:CmpOp}{r:R2}(ho:gf X (compareOp op) r)(ha:PE X a ta)(hb:PE X b tb)(hm:behindInMarks op b=false):PE X (.Compare a [op] [b] pos) (yK r ta tb):=by
 intro pins s σ H Q I h;exact wpAny_Compare1 (B6 ha hb I h fun v u s2 x y H2 I2 rx ry q=>ho pins s2 σ H2 x y v u Q I2 rx ry q) hm
def Cp(t:TE):TT:=fun σ H Q=>t σ H fun x H'=>∃k,x=.bl k/\Q k H'
theorem Od{op:CmpOp}{r:R2}(ho:gf X (compareOp op) r)(ha:PE X a ta)(hb:PE X b tb)(hm:behindInMarks op b=false):PT X (.Compare a [op] [b] pos) (Cp (yK r ta tb)):=by
 intro pins s σ H Q I h;refine wpAny_isTrue_Compare1 (cJ (ha pins s σ H _ I h) fun v s1 bR=>?_) hm;obtain⟨x,H1,I1,r1,q1⟩:=bR;refine cJ (hb pins s1 σ H1 _ I1 q1) fun u s2 bR=>?_
 obtain⟨y,H2,I2,r2,q2⟩:=bR;refine cJ (ho pins s2 σ H2 x y v u _ I2 r1 r2 q2) fun c s3 bR=>?_
 obtain⟨z,H3,I3,r3,k,e,q3⟩:=bR;subst e;cases r3;exact wpAny_truthy_bool ⟨H3,I3,q3⟩
def CH(r r':R2)(ta tb tc:TE):TE:=fun σ H Q=>ta σ H fun x H1=>tb σ H1 fun y H2=>r x y H2 fun z H3=>∃k,z=.bl k/\
 (if k=true then tc σ H3 fun w' H4=>r' y w' H4 Q else Q (.bl false) H3)
theorem OQ{op ng:CmpOp}{r r':R2}(ho:gf X (compareOp op) r)(kM:gf X (compareOp ng) r')(ha:PE X a ta)(hb:PE X b tb)(hc:PE X c tc)
  (hm:lastMarks [op,ng] [b,c]=false:=by with_unfolding_all rfl):PE X (.Compare a [op,ng] [b,c] pos) (CH r r' ta tb tc):=by
 intro pins s σ H Q I h;refine Compare_chain (cJ (ha pins s σ H _ I h) fun v s1 bR=>?_) hm;obtain⟨x,H1,I1,r1,q1⟩:=bR;refine chain_link (cJ (hb pins s1 σ H1 _ I1 q1) fun u s2 bR=>?_);obtain⟨y,H2,I2,r2,q2⟩:=bR;refine cJ (ho pins s2 σ H2 x y v u _ I2 r1 r2 q2) fun d s3 bR=>?_
 obtain⟨z,H3,I3,r3,k,e,q3⟩:=bR;subst e;cases r3;refine wpAny_truthy_bool ?_;cases k with
 | false=>exact ite_ff ⟨.bl false,H3,I3,rfl,q3⟩
 | true=>exact ite_tt (chain_last (cJ (hc pins s3 σ H3 _ I3 q3) fun w' s4 bR=>by obtain⟨z',H4,I4,r4,q4⟩:=bR;exact kM pins s4 σ H4 y z' u w' Q I4 r2 r4 q4))
theorem OP{op ng:CmpOp}{r r':R2}(ho:gf X (compareOp op) r)(kM:gf X (compareOp ng) r')(ha:PE X a ta)(hb:PE X b tb)(hc:PE X c tc)
  (hm:lastMarks [op,ng] [b,c]=false:=by with_unfolding_all rfl):PT X (.Compare a [op,ng] [b,c] pos) (Cp (CH r r' ta tb tc)):=by
 intro pins s σ H Q I h;refine isTrue_chain (cJ (ha pins s σ H _ I h) fun v s1 bR=>?_) hm;obtain⟨x,H1,I1,r1,q1⟩:=bR;refine test_link (cJ (hb pins s1 σ H1 _ I1 q1) fun u s2 bR=>?_);obtain⟨y,H2,I2,r2,q2⟩:=bR;refine cJ (ho pins s2 σ H2 x y v u _ I2 r1 r2 q2) fun d s3 bR=>?_
 obtain⟨z,H3,I3,r3,k,e,q3⟩:=bR;subst e;cases r3;refine wpAny_truthy_bool ?_;cases k with
 | false=>
  obtain⟨k',e',q'⟩:=q3;cases e';exact ite_ff ⟨H3,I3,q'⟩
 | true=>
  refine ite_tt (test_last (cJ (hc pins s3 σ H3 _ I3 q3) fun w' s4 bR=>?_));obtain⟨z',H4,I4,r4,q4⟩:=bR;refine cJ (kM pins s4 σ H4 y z' u w' _ I4 r2 r4 q4) fun d' s5 bR=>?_
  obtain⟨z2,H5,I5,r5,k2,e2,q5⟩:=bR;subst e2;cases r5;exact wpAny_truthy_bool ⟨H5,I5,q5⟩
theorem vO:(sizeLine:Nat)<2 ^ 63:=by rw[sizeLine_eq];decide
theorem nc:gf X (binaryOp .Add) (fun x y H Q=>∃i j,x=.str i/\y=.str j/\i.length+j.length<=sizeLine/\Q (.str (i++j)) H):=by
 intro pins s σ H x y v u Q I rx ry h;obtain⟨i,j,rfl,rfl,hz,q⟩:=h;obtain⟨t,rfl⟩:=rx;obtain⟨t',rfl⟩:=ry;exact add_str (fun t' tk=>⟨.str (i++j),H,I.tok _,⟨_,rfl⟩,q⟩) hz
theorem lh{x:V}{us:List Value}(r:Vals [x] us):∃u,us=[u]/\RelV x u:=by
 cases r with
 | cons r1 r2=>cases r2;exact⟨_,rfl,r1⟩
theorem vE{x y:V}{us:List Value}(r:Vals [x,y] us):∃u w',us=[u,w']/\RelV x u/\RelV y w':=by
 cases r with
 | cons r1 r2=>
  cases r2 with
  | cons r3 r4=>cases r4;exact⟨_,_,rfl,r1,r3⟩
theorem Qe(hc:X.calm=true):df X (.builtin "max") (fun xs H Q=>∃i j,xs=[.int i,.int j]/\Q (.int (if j>i then j else i)) H):=by
 intro pins s σ H xs us Q I r h;obtain⟨i,j,rfl,q⟩:=h;obtain⟨u,w',rfl,⟨t,rfl⟩,⟨t',rfl⟩⟩:=vE r;refine max_two_ints (I.ok.hd hc) fun h' tk k=>⟨_,H,I.kept k,?_,q⟩
 by_cases hj:j>i
 ·rw[if_pos hj,if_pos hj];exact⟨_,rfl⟩
 ·rw[if_neg hj,if_neg hj];exact⟨_,rfl⟩
theorem Qd(hc:X.calm=true):df X (.builtin "min") (fun xs H Q=>∃i j,xs=[.int i,.int j]/\Q (.int (if j<i then j else i)) H):=by
 intro pins s σ H xs us Q I r h;obtain⟨i,j,rfl,q⟩:=h;obtain⟨u,w',rfl,⟨t,rfl⟩,⟨t',rfl⟩⟩:=vE r;refine min_two_ints (I.ok.hd hc) fun h' tk k=>⟨_,H,I.kept k,?_,q⟩
 by_cases hj:j<i
 ·rw[if_pos hj,if_pos hj];exact⟨_,rfl⟩
 ·rw[if_neg hj,if_neg hj];exact⟨_,rfl⟩
theorem Qc:df X (.type "int") (fun xs H Q=>(∃i,xs=[.int i]/\Q (.int i) H)\/∃k,xs=[.bl k]/\Q (.int (if k then 1 else 0)) H):=by
 intro pins s σ H xs us Q I r h;rcases h with⟨i,rfl,q⟩ | ⟨k,rfl,q⟩
 ·obtain⟨u,rfl,t,rfl⟩:=lh r;exact call_int_int ⟨.int i,H,I,⟨_,rfl⟩,q⟩
 ·obtain⟨u,rfl,r1⟩:=lh r;cases r1;exact call_int_bool ⟨.int (if k then 1 else 0),H,I.tok _,⟨_,rfl⟩,q⟩
end
end L2
namespace L2
open PySem PySem.Spec PyProof.Rows
structure pd (h:Heap) (x dx C:Addr) (mA:Str->Option Value):Prop where
 obj:h.get? x=some (PySem.W.instObj C dx)
 ns:h.Ns1 dx mA
 ne:dx≠x
theorem Qb{h:Heap}{dx:Addr}{mA:Str->Option Value}(n:h.Ns1 dx mA):∃od,h.get? dx=some od/\∀name,PySem.W.lookIn name od=some (mA name):=by
 obtain⟨o,es,ep,ho,hd,hk,_,hm⟩:=n;refine⟨o,ho,fun name=>?_⟩;have e:=hm name;unfold nsFind findBy at e;rw[<-Array.find?_toList] at e;unfold PySem.W.lookIn;rw[hd];dsimp only;split
 ·rename_i y q;rw[q] at e;exact congrArg some e
 ·rename_i q;rw[q] at e;have a:es.toList.any (·.refKey)=false:=by
   rw[List.any_eq_false];intro y hy;obtain⟨z,t,sJ⟩:=hk y (Array.mem_toList_iff.mp hy);simp[DictEntry.refKey,sJ]
  have a':¬es.toList.any (·.refKey)=true:=by rw[a];exact aG
  rw[if_neg a'];exact congrArg some e
theorem pd.look{h:Heap}{x dx C:Addr}{mA:Str->Option Value}(I:pd h x dx C mA):∃od,PySem.W.InstAt h x (PySem.W.instObj C dx) C (some od)/\∀name,PySem.W.lookIn name od=some (mA name):=
 let⟨od,ho,hl⟩:=Qb I.ns
 ⟨od,⟨I.obj,rfl,rfl,ho⟩,hl⟩
section
variable {prog:Program} {w:World} {A:Around} {E:Value->Shared->Prop} {s:Shared} {K:PySem.W.Frag} {x dx C f:Addr} {mA:Str->Option Value} {name:Str} {v:Value}
theorem Ob{expr:Bool}{Q:Value->Shared->Prop}(X:K.In s.heap)(I:pd s.heap x dx C mA)(hg:PySem.W.plainGet K C name=true)(hh:PySem.W.hasDictIn K C=true)
  (ha:PySem.W.findIn K (.ref C) name=some none) (hv:mA name=some v) (u5:PySem.W.handedIn v=true) (h:Q v { s with toks:=s.toks+1 }) :
  wpAny (model prog w) A (getAttr (.ref x) name expr) Q E s:=by
 obtain⟨od,J,hl⟩:=I.look;exact PySem.W.get_value X J (PySem.W.plainGet_of hg).1 (PySem.W.findObj_own hh ha rfl (by rw[hl,hv])) u5 h
theorem Oa{ns:List Str}{Q:Unit->Shared->Prop}(X:K.In s.heap)(I:pd s.heap x dx C mA)
  (hs:PySem.W.findIn K (.ref C) "__setattr__"=some (some (.builtin "object.__setattr__"))) (hp:PySem.W.plainOver K C=true) (ht:PySem.W.takerIn K C name=some none) (hh:PySem.W.hasDictIn K C=true)
  (hw:PySem.Within mA ns) (kL:ns.length<=sizeLine)
  (h:∀h',pd h' x dx C (fun y=>if y=name then some v else mA y)->Heap.SameBut dx s.heap h'->Q () { s with heap:=h',toks:=s.toks+2 }) :
  wpAny (model prog w) A (setAttr (.ref x) name v) Q E s:=by
 obtain⟨od,J,hl⟩:=I.look;refine PySem.W.set_plain X J hs (PySem.W.osa_open (s:={ s with toks:=s.toks+1 }) (r:=none) X J hp ht fun b=>?_);obtain⟨cd,hc,rC⟩:=PySem.W.any_some hh;have hx:s.heap.get? x=some ⟨.ref C,some dx,.plain,#[]⟩:=I.obj;refine ae (ar (ae (ae (wpAny_loadPart hx (ae (PySem.W.Looks.here (s:={ s with toks:=s.toks+1 }) (PySem.W.looks_clsIn X hc) ?_))))));rw[rC];refine ar (a:=some dx) (ae (ar (ae ?_)));refine wpAny_nsSet1 (s:={ s with toks:=s.toks+1 }) I.ns fun h' zk pJ=>?_
 obtain⟨oD,WK,WL,U4,Vo,sM⟩:=zk.count (PySem.Within.cons name v hw);refine ae (wpAny_lookBehind U4 (by rw[Vo];exact pastItsLine_dict (aY sM (by rw[aB];omega))) ?_);exact ar (h _ ⟨(pJ.2 _ (Ne.symm I.ne)).trans I.obj,zk,I.ne⟩ pJ)
theorem OO{R:Result->Shared->Prop}{vs:List Value}{kw:List (Str×Value)}(X:K.In s.heap)(hm:PySem.W.makesIn K C=true)
  (hi:PySem.W.findIn K (.ref C) "__init__"=some (some (.ref f))) (hf:PySem.W.typeIn K (.ref f)=some (.type "function"))
  (h:codeAny (model prog w) (A.under (.builtin "type.__call__" ⟨.ref C::vs,kw⟩)) (.call (.ref f) ⟨.ref (s.heap.objs.size+1)::vs,kw⟩) (PySem.W.InitBack (s.heap.objs.size+1) R)
   { s with heap:=(s.heap.push PySem.W.emptyDict).push (PySem.W.instObj C s.heap.objs.size) }) :
  codeAny (model prog w) A (.call (.ref C) ⟨vs,kw⟩) R s:=by
 obtain⟨hh,g,d,t,os⟩:=s;exact PySem.W.make_core (PySem.W.makes_of X hm) (PySem.W.looks_findIn X hi) (fun self=>PySem.W.bind_fn X self hf) (.inl rfl) h
end
noncomputable def kR(f:Str)(v:V):List (Str×V)->List (Str×V)
 | []=>[(f,v)]
 | (g,x)::r=>if g=f then(g,v)::r else(g,x)::kR f v r
theorem Jy(f g:Str)(v:V):∀fs:List (Str×V),(kR f v fs).lookup g=if g=f then some v else fs.lookup g
 | []=>by
  show List.lookup g [(f,v)]=_;by_cases h:g=f
  ·have hb:(g==f)=true:=beq_iff_eq.mpr h;simp only[List.lookup,hb,if_pos h]
  ·have hb:(g==f)=false:=beq_eq_false_iff_ne.mpr h;simp only[List.lookup,hb,if_neg h]
 | (k,x)::r=>by
  have ih:=Jy f g v r;rw[show kR f v ((k,x)::r)=(if k=f then(k,v)::r else(k,x)::kR f v r) from rfl];by_cases hk:k=f
  ·rw[if_pos hk];by_cases h:g=k
   ·have hb:(g==k)=true:=beq_iff_eq.mpr h;simp only[List.lookup,hb,if_pos (h.trans hk)]
   ·have hb:(g==k)=false:=beq_eq_false_iff_ne.mpr h;simp only[List.lookup,hb,if_neg (fun e:g=f=>h (e.trans hk.symm))]
  ·rw[if_neg hk];by_cases h:g=k
   ·have hb:(g==k)=true:=beq_iff_eq.mpr h;simp only[List.lookup,hb,if_neg (fun e:g=f=>hk (h.symm.trans e))]
   ·have hb:(g==k)=false:=beq_eq_false_iff_ne.mpr h;simp only[List.lookup,hb];exact ih
theorem Dx(f:Str)(v:V):∀fs:List (Str×V),f∈(kR f v fs).map (·.1)/\∀g,g∈fs.map (·.1)->g∈(kR f v fs).map (·.1)
 | []=>⟨by simp[kR],fun g h=>by simp at h⟩
 | (k,x)::r=>by
  obtain⟨i1,i2⟩:=Dx f v r;rw[show kR f v ((k,x)::r)=(if k=f then(k,v)::r else(k,x)::kR f v r) from rfl];by_cases hk:k=f
  ·rw[if_pos hk];subst hk;exact⟨by simp,fun g h=>by simpa using h⟩
  ·rw[if_neg hk];refine⟨?_,fun g h=>?_⟩
   ·rw[aj];exact aA _ i1
   ·rw[aj] at h ⊢;rcases af.mp h with e | e
    ·exact af.mpr (.inl e)
    ·exact aA _ (i2 g e)
theorem Jx(f:Str)(v:V):∀fs:List (Str×V),(kR f v fs).length<=fs.length+1
 | []=>by simp[kR]
 | (k,x)::r=>by
  have ih:=Jx f v r;rw[show kR f v ((k,x)::r)=(if k=f then(k,v)::r else(k,x)::kR f v r) from rfl];by_cases hk:k=f
  ·rw[if_pos hk,aB,aB];omega
  ·rw[if_neg hk,aB,aB];omega
theorem nC.some_of{v:V}{o:Option Value}(r:nC (some v) o):∃u,o=some u/\RelV v u:=by
 cases o with
 | none=>exact(show False from r).elim
 | some u=>exact⟨u,rfl,r⟩
theorem Qa{v:V}{u:Value}(r:RelV v u):PySem.W.handedIn u=true:=by
 cases v with
 | non=>cases (show u=Value.none from r);rfl
 | bl b=>cases (show u=Value.bool b from r);rfl
 | int i=>obtain⟨t,e⟩:=(show ∃t,u=Value.int i t from r);cases e;rfl
 | str x=>obtain⟨t,e⟩:=(show ∃t,u=Value.str x t from r);cases e;rfl
 | BN b=>obtain⟨t,e⟩:=(show ∃t,u=Value.bytes b t from r);cases e;rfl
 | BK b=>obtain⟨t,e⟩:=(show ∃t,u=Value.float b t from r);cases e;rfl
 | ref a=>cases (show u=Value.ref a from r);rfl
 | ty n=>cases (show u=Value.type n from r);rfl
section
variable {P:Program} {w:World} {H H':Hp} {h h':Heap} {a C dx:Addr} {fs BJ:List (Str×V)}
theorem Hs(cz:jh P w H h)(e:H a=some (.ins C dx fs)):∃mA,pd h a dx C mA/\(∀f,nC (fs.lookup f) (mA f))/\PySem.Within mA (fs.map (·.1))/\fs.length<=1000/\H dx=some (.own a):=by
 obtain⟨d,z,ne,ob,mA,n,r,q⟩:=(show dG P w H h a (.ins C dx fs) from cz a _ e)
 exact⟨mA,⟨ob,n,ne⟩,r,q,z,d⟩
end
structure uo (K:PySem.W.Frag) (C:Addr):Prop where
 pg:PySem.W.plainGet K C Str.empty=true
 hd:PySem.W.hasDictIn K C=true
 po:PySem.W.plainOver K C=true
 sa:PySem.W.findIn K (.ref C) "__setattr__"=some (some (.builtin "object.__setattr__"))
theorem uo.get{K:PySem.W.Frag}{C:Addr}(c:uo K C)(f:Str):PySem.W.plainGet K C f=true:=c.pg
def cO(K:PySem.W.Frag)(C:Addr)(f:Str):Prop:=PySem.W.findIn K (.ref C) f=some none
theorem cO.yJ{K:PySem.W.Frag}{C:Addr}{f:Str}(n:cO K C f):PySem.W.takerIn K C f=some none:=by
 unfold PySem.W.takerIn;rw[show PySem.W.findIn K (.ref C) f=some none from n];rfl
section
variable {X:Cx} {pins:List (Addr×Obj)} {σ:St} {H:Hp} {s:Shared} {a C dx:Addr} {fs:List (Str×V)} {f:Str} {v:V} {A:Around} {E:Value->Shared->Prop}
theorem QM{b:Bool}{Q:Value->Shared->Prop}(I:Inv X pins σ H s)(e:H a=some (.ins C dx fs))(c:uo X.K C)(n:cO X.K C f)(l:fs.lookup f=some v)
  (h:∀u s',Inv X pins σ H s'->RelV v u->Q u s'):wpAny (model X.prog X.w) A (getAttr (.ref a) f b) Q E s:=by
 obtain⟨mA,O,r,_,_,_⟩:=Hs I.cz e;obtain⟨u,hu,ru⟩:=nC.some_of (v:=v) (o:=mA f) (by rw[<-l];exact r f);exact Ob I.mT O (c.get f) c.hd n hu (Qa ru) (h u _ (I.tok _) ru)
theorem QL{y:V}{u:Value}{Q:Unit->Shared->Prop}(I:Inv X pins σ H s)(e:H a=some (.ins C dx fs))(c:uo X.K C)(n:cO X.K C f)(hl:fs.length<1000)(ry:RelV y u)
  (h:∀s',Inv X pins σ (upd H a (.ins C dx (kR f y fs))) s'->Q () s'):wpAny (model X.prog X.w) A (setAttr (.ref a) f u) Q E s:=by
 obtain⟨mA,O,r,wi,_,ho⟩:=Hs I.cz e;have hz:(fs.map (·.1)).length<=sizeLine:=by rw[aa,sizeLine_eq];omega
 refine Oa I.mT O c.sa c.po n.yJ c.hd wi hz fun h' O' sb=>h _ ?_
 have hd:∃o,h'.get? dx=some o:=let⟨o,_,_,e',_⟩:=O'.ns;⟨o,e'⟩
 refine I.write (x:=a) (e:=dx) (by rw[e];exact True.intro) (.inr ho) (fun b q hb z=>(sb.2 b hb).trans z) hd ?_;refine⟨by rw[cR O.ne];exact ho,?_,O.ne,O'.obj,_,O'.ns,fun g=>?_,fun g hg=>?_⟩
 ·have:=Jx f y fs;omega
 ·show nC ((kR f y fs).lookup g) (if g=f then some u else mA g);rw[Jy];by_cases q:g=f
  ·rw[if_pos q,if_pos q];exact ry
  ·rw[if_neg q,if_neg q];exact r g
 ·by_cases q:g=f
  ·rw[q];exact(Dx f y fs).1
  ·refine(Dx f y fs).2 g (wi g fun z=>hg ?_);show(if g=f then some u else mA g)=none;rw[if_neg q];exact z
theorem Inv.made(I:Inv X pins σ H s):Inv X pins σ (upd (upd H s.heap.objs.size (.own (s.heap.objs.size+1))) (s.heap.objs.size+1) (.ins C s.heap.objs.size []))
  { s with heap:=(s.heap.push PySem.W.emptyDict).push (PySem.W.instObj C s.heap.objs.size) }:=by
 have e1:(s.heap.push PySem.W.emptyDict).get? s.heap.objs.size=some PySem.W.emptyDict:=aP s.heap rfl;have e2:((s.heap.push PySem.W.emptyDict).push (PySem.W.instObj C s.heap.objs.size)).get? (s.heap.objs.size+1)=some (PySem.W.instObj C s.heap.objs.size):=by
  have:=aP (s.heap.push PySem.W.emptyDict) (o:=PySem.W.instObj C s.heap.objs.size) rfl;rwa [Heap.size_push] at this
 have e3:(s.heap.push PySem.W.emptyDict).Ns s.heap.objs.size (fun _=>none):=⟨PySem.W.emptyDict,#[],_,e1,rfl,(fun e he=>absurd he (by simp)),fun _=>rfl⟩
 have I1:=I.laid (a:=s.heap.objs.size) (o:=.own (s.heap.objs.size+1)) (h':=s.heap.push PySem.W.emptyDict) (t':=s.toks) (fun b u q=>av _ q) (az _) ⟨_,e1⟩;refine I1.laid (a:=s.heap.objs.size+1) (o:=.ins C s.heap.objs.size []) (t':=s.toks) (fun b u q=>av _ q) (Nat.le_of_eq (Heap.size_push _ _)) ?_;have ne:s.heap.objs.size≠s.heap.objs.size+1:=aI (Nat.lt_succ_self _);refine⟨by rw[cR ne,gP],Nat.zero_le _,ne,e2,fun _=>none,(Heap.Ns1.of_empty e3).at fun o q=>av _ q,fun _=>True.intro,fun y hy=>absurd rfl hy⟩
theorem N9{prog:Program}{w:World}{env:Env}{e:Expr}{f:Str}{pos:Pos}{s:Shared}{Q:Value->Shared->Prop}(hb:attributeBase e f env (eval e env)=eval e env)
  (h:wpAny (model prog w) A (eval e env) (fun o cc=>wpAny (model prog w) A (getAttr o f true) Q E cc) E s):wpAny (model prog w) A (eval (.Attribute e f pos) env) Q E s:=
 Attribute_any_ h (by rw[arm_eval_Attribute,hb])
end
def Lm(K:PySem.W.Frag)(ta:TE)(f:Str):TE:=fun σ H Q=>ta σ H fun x H1=>∃a C dx fs v,x=.ref a/\H1 a=some (.ins C dx fs)/\uo K C/\cO K C f/\fs.lookup f=some v/\Q v H1
def Ll(K:PySem.W.Frag)(ta tv:TE)(f:Str):TS:=fun D σ H=>tv σ H fun y H1=>ta σ H1 fun x H2=>∃a C dx fs,x=.ref a/\H2 a=some (.ins C dx fs)/\uo K C/\cO K C f/\fs.length<1000/\
 D.nx σ (upd H2 a (.ins C dx (kR f y fs)))
section
variable {X:Cx} {o e value:Expr} {f:Str} {pos pos' sg:Pos} {ta tv:TE}
theorem MB(he:PE X e ta)(hb:attributeBase e f X.env (eval e X.env)=eval e X.env):PE X (.Attribute e f pos) (Lm X.K ta f):=by
 intro pins s σ H Q I h;refine N9 hb (cJ (he pins s σ H _ I h) fun u s1 bR=>?_);obtain⟨x,H1,I1,rx,a,C,dx,fs,v,ex,ea,c,n,l,q⟩:=bR;subst ex;obtain rfl:u=Value.ref a:=rx;exact QM I1 ea c n l fun u' s2 I2 ru=>⟨v,H1,I2,ru,q⟩
theorem MA(ha:PE X o ta)(hv:PE X value tv)(hs:swapsWith value (some (.Attribute o f pos')) pos.line X.env=pure false):PS X (.Assign [.Attribute o f pos'] value pos) (Ll X.K ta tv f):=by
 intro pins s σ H D I h;refine plainObj_wpAny_Assign_Attribute (cJ (hv pins s σ H _ I h) fun u s1 bR=>?_) hs;obtain⟨y,H1,I1,ry,q⟩:=bR;refine cJ (ha pins s1 σ H1 _ I1 q) fun ov s2 bR=>?_
 obtain⟨x,H2,I2,rx,a,C,dx,fs,ex,ea,c,n,l,q2⟩:=bR;subst ex;obtain rfl:ov=Value.ref a:=rx;exact QL I2 ea c n l ry fun s3 I3=>⟨σ,_,I3,q2⟩
end
end L2
namespace L2
open PySem PySem.Spec PyProof.Rows
structure cV (k:Nat) (A:Around):Prop where
 hd:A.handled=none
 dp:A.depth+3*k+5<recursionLimit
 un:A.units+16*k+200<cLine
theorem cV.mono{j k:Nat}{A:Around}(r:cV k A)(h:j<=k):cV j A:=⟨r.hd,by have:=r.dp;omega,by have:=r.un;omega⟩
theorem cV.deeper{k:Nat}{A:Around}(r:cV (k+1) A)(env:Env):cV k (A.deeper env):=
 ⟨r.hd,by have:=r.dp;show A.depth+1+3*k+5<_;omega,by have:=r.un;show A.units+3+16*k+200<_;omega⟩
theorem QK{A:Around}{C:Addr}{us:List Value}{kw:List (Str×Value)}:(A.under (.builtin "type.__call__" ⟨.ref C::us,kw⟩)).depth=A.depth+1:=by
 first | rfl | simp[Around.under,Code.weight,Code.isCreation,Code.isGuard,Code.isCaller,Code.frames,Code.isFrame,guardIds]
theorem QJ{A:Around}{C:Addr}{us:List Value}{kw:List (Str×Value)}:(A.under (.builtin "type.__call__" ⟨.ref C::us,kw⟩)).units=A.units+1:=by
 first | rfl | simp[Around.under,Code.cUnits,Code.frames,Code.isFrame]
theorem cV.make{k:Nat}{A:Around}(r:cV (k+1) A)(C:Addr)(us:List Value)(kw:List (Str×Value)):cV k (A.under (.builtin "type.__call__" ⟨.ref C::us,kw⟩)):=
 ⟨r.hd,by have:=r.dp;rw[QK];omega,by have:=r.un;rw[QJ];omega⟩
theorem cV.depth{k:Nat}{A:Around}(r:cV k A):A.depth<recursionLimit:=by have:=r.dp;omega
theorem cV.units{k:Nat}{A:Around}(r:cV k A):A.units+64<cLine:=by have:=r.un;omega
noncomputable def B5:TA:=fun _ H Q=>Q [] H
noncomputable def Co(ta:TE)(tr:TA):TA:=fun σ H Q=>ta σ H fun x H1=>tr σ H1 fun xs H2=>Q (x::xs) H2
section
variable {X:Cx} {e:Expr} {es:List Expr} {te:TE} {t:TA} {pos:Pos}
theorem nN:PA X [] B5:=fun _ _ _ _ H Q I h=>Calls.spliced_nil ⟨[],H,I,.nil,h⟩
theorem lp(ha:PE X e te)(hr:PA X es t)(hs:starEach (e::es) X.env=(false,eval e X.env)::starEach es X.env:=by rfl):PA X (e::es) (Co te t):=by
 intro pos pins s σ H Q I h;rw[hs];show wpAny _ _ (spliced ((false,eval e X.env)::backTo pos (starEach es X.env))) _ _ s;refine Calls.spliced_cons (cJ (ha pins s σ H _ I h) fun u s1 bR=>?_);obtain⟨x,H1,I1,r1,q1⟩:=bR;exact cJ (hr pos pins s1 σ H1 _ I1 q1) fun us s2 bR=>by obtain⟨xs,H2,I2,r2,q2⟩:=bR;exact⟨x::xs,H2,I2,.cons r1 r2,q2⟩
def Lk(t:TA):TE:=fun σ H Q=>t σ H fun xs H1=>xs.length<=sizeLine/\∀p,H1 p=none->Q (.ref p) (upd H1 p (.tup xs))
def Lj(t:TA):TE:=fun σ H Q=>t σ H fun xs H1=>xs.length<=sizeLine/\∀p,H1 p=none->Q (.ref p) (upd H1 p (.lst xs))
theorem CF{x1}(h:PA X es t):PE X (.Tuple es x1 pos) (Lk t):=by
 intro pins s σ H Q I hq;refine wpAny_Tuple_spliced (cJ (h pos pins s σ H _ I hq) fun us s1 ⟨xs,H1,I1,r,z,q⟩=>⟨by rw[<-r.length];exact z,?_⟩);have hf:H1 s1.heap.objs.size=none:=I1.cz.fresh (az _);refine⟨.ref s1.heap.objs.size,upd H1 s1.heap.objs.size (.tup xs),I1.laid (t':=s1.toks) (fun b u e=>av _ e) (az _) ?_,rfl,q _ hf⟩;exact⟨z,us,r,⟨_,aP _ rfl,rfl,_,rfl⟩⟩
theorem CD(h:PA X es t):PE X (.List es pos) (Lj t):=by
 intro pins s σ H Q I hq;refine wpAny_List_spliced (cJ (h pos pins s σ H _ I hq) fun us s1 ⟨xs,H1,I1,r,z,q⟩=>⟨by rw[<-r.length];exact z,?_⟩);have hf:H1 s1.heap.objs.size=none:=I1.cz.fresh (az _);refine⟨.ref s1.heap.objs.size,upd H1 s1.heap.objs.size (.lst xs),I1.laid (t':=s1.toks) (fun b u e=>av _ e) (az _) ?_,rfl,q _ hf⟩;exact⟨z,us,0,r,aP _ rfl⟩
end
noncomputable abbrev Sp:=List V->Hp->VK->XK->Prop
noncomputable abbrev rH:=List Env->Hp->Shared->XK->Value->Shared->Prop
structure nD (P:Program) (w:World) (K:PySem.W.Frag) (mg:Str->Option Value) (base:Heap) (A:Around) (outer:List Env) (s:Shared) (H:Hp):Prop where
 frames:A.frames=some outer
 mod:Mod K mg base
 bs:∀b o,base.get? b=some o->s.heap.get? b=some o/\H b=none
 sS:base.objs.size<=s.heap.objs.size
 gn:s.heap.FunFrames base outer
 qG:∀b∈ir outer,H b=none
 cz:jh P w H s.heap
 bare:AllBare s.gens
def CE(outer:List Env)(P:Program)(w:World)(H:Hp)(s:Shared)(Q:VK)(u:Value)(s':Shared):Prop:=
 ∃v H',s'.os=s.os/\AllBare s'.gens/\Un (ir outer) [] H H' s.heap s'.heap/\jh P w H' s'.heap/\RelV v u/\Q v H'
def CR(CX:rH)(outer:List Env)(P:Program)(w:World)(H:Hp)(s:Shared)(Q:VK)(E:XK)(r:Result)(s':Shared):Prop:=
 match r with
 | .ok (.ret u)=>CE outer P w H s Q u s'
 | .ok _=>False
 | .error e=>CX outer H s E e s'
structure g8 (P:Program) (w:World) (K:PySem.W.Frag) (mg:Str->Option Value) (base:Heap) (CX:rH) (k:Nat) (f:Addr) (fd:FuncData) (ps:List Str) (sp:Sp):Prop where
 len:∀vs H Q E,sp vs H Q E->vs.length=ps.length
 run:∀(A:Around) (outer:List Env) (s:Shared) (H:Hp) (args:Args) (us:List Value) (vs:List V) (Q:VK) (E:XK),cV k A->nD P w K mg base A outer s H->BindsTo s fd args (ps.zip us)->Vals vs us->sp vs H Q E->
  codeAny (model P w) A (.call (.ref f) args) (CR CX outer P w H s Q E) s
theorem nD.make{P:Program}{w:World}{K:PySem.W.Frag}{mg:Str->Option Value}{base:Heap}{A:Around}{outer:List Env}{s:Shared}{H:Hp}(e:nD P w K mg base A outer s H)(C:Addr)(us:List Value)(kw:List (Str×Value)) :
  nD P w K mg base (A.under (.builtin "type.__call__" ⟨.ref C::us,kw⟩)) outer s H:=⟨by first | exact e.frames | (simpa[Around.under,Code.envs,Code.isFrame,pushEnvs] using e.frames),e.mod,e.bs,e.sS,e.gn,e.qG,e.cz,e.bare⟩
section
variable {X:Cx} {pins:List (Addr×Obj)} {σ:St} {H:Hp} {s s':Shared}
theorem Inv.ny(I:Inv X pins σ H s):nD X.prog X.w X.K X.mg X.base X.A X.stack s H:=
 ⟨I.ok.frames,I.ok.mod,I.bs,aY I.ok.sS I.sz,I.stack,I.nR,I.cz,I.bare⟩
theorem Inv.after{Q:VK}{u:Value}(I:Inv X pins σ H s)(h:CE X.stack X.prog X.w H s Q u s'):EP X pins σ Q u s':=by
 obtain⟨v,H',os,bare,un,cz,r,q⟩:=h;obtain⟨hh,g,d,t,su⟩:=s';obtain rfl:su=s.os:=os;exact⟨v,H',I.call (h':=hh) (g':=g) (d':=d) (t':=t) (ch:=[]) un cz bare (fun b z=>absurd z (by simp)),r,q⟩
end
def LZ(sp:Sp)(kZ:List V)(E:XK)(t:TA):TE:=fun σ H Q=>t σ H fun vs H1=>sp (vs++kZ) H1 Q E
def LY(C:Addr)(sp:Sp)(kZ:List V)(E:XK)(t:TA):TE:=fun σ H Q=>t σ H fun vs H1=>∀x dx,H1 x=none->H1 dx=none->dx≠x->
 sp (.ref x::(vs++kZ)) (upd (upd H1 dx (.own x)) x (.ins C dx [])) (fun v H2=>v=.non/\Q (.ref x) H2) E
def Binds(K:PySem.W.Frag)(fd:FuncData)(ps:List Str)(ds:List Value):Prop:=
 ∀(s:Shared) (us:List Value),K.In s.heap->(us++ds).length=ps.length->BindsTo s fd ⟨us,[]⟩ (ps.zip (us++ds))
theorem Binds.all{K:PySem.W.Frag}{fd:FuncData}{ps:List Str}(h:∀us:List Value,us.length=ps.length->bindArgs fd ⟨us,[]⟩=pure (ps.zip us)):Binds K fd ps []:=fun s us _ hl=>by
 rw[List.append_nil] at hl ⊢;exact .of_eq (h us hl)
def tK(CX:rH)(X:Cx)(E:XK):Prop:=∀(pins:List (Addr×Obj)) (σ:St) (H:Hp) (s:Shared) (e:Value) (s':Shared),Inv X pins σ H s->CX X.stack H s E e s'->X.xe e s'
section
variable {X:Cx} {CX:rH} {k:Nat} {f C:Addr} {fd:FuncData} {ps:List Str} {sp:Sp} {kZ:List V} {ds:List Value} {E:XK} {x m:Str} {p pos apos:Pos} {e o:Expr} {es:List Expr} {ta:TE} {t:TA}
theorem Mz{pins:List (Addr×Obj)}{σ:St}{H:Hp}{s:Shared}{Q:VK}{us:List Value}{vs:List V}(F:g8 X.prog X.w X.K X.mg X.base CX k f fd ps sp)(hr:cV k X.A)(hb:Binds X.K fd ps ds)(hd:Vals kZ ds)(hx:tK CX X E)
  (I:Inv X pins σ H s) (r:Vals vs us) (h:sp (vs++kZ) H Q E):wpAny (model X.prog X.w) X.A (call (.ref f) us) (EP X pins σ Q) X.xe s:=by
 have r2:Vals (vs++kZ) (us++ds):=r.append hd;have hl:(us++ds).length=ps.length:=by rw[<-r2.length];exact F.len _ _ _ _ h
 refine wpAny_call (codeAny_mono (F.run X.A X.stack s H ⟨us,[]⟩ (us++ds) (vs++kZ) Q E hr I.ny (hb s us I.mT hl) r2 h) fun r s' hq=>?_);cases r with
 | error e=>exact hx pins σ H s e s' I hq
 | ok fl=>
  cases fl with
  | ret u=>exact I.after hq
  | next=>exact False.elim hq
  | brk=>exact False.elim hq
  | cont=>exact False.elim hq
theorem Hr(F:g8 X.prog X.w X.K X.mg X.base CX k f fd ps sp)(hr:cV k X.A)(hg:Gl X x)(hm:X.mg x=some (.ref f))(hk:PySem.W.keepIn X.K (.ref f)=true)(hb:Binds X.K fd ps ds)(hd:Vals kZ ds)(hx:tK CX X E)
  (ha:PA X (e::es) t) (jJ:(x==("__debug__":Str))=false:=by decide) (he:starEach (e::es) X.env=(false,eval e X.env)::starEach es X.env:=by rfl) (gH:(backTo pos (starEach es X.env)).any (·.1)=false:=by rfl) :
  PE X (.Call (.Name x p) (e::es) [] pos) (LZ sp kZ E t):=by
 intro pins s σ H Q I h;refine wpAny_Call_Name_kw (vU I hg hm ?_ jJ);refine PySem.W.callWith_K (h₀:=X.base) I.ok.mod.sA hk (cJ (ha pos pins s σ H _ I h) fun us s1 bR=>?_) he gH;obtain⟨vs,H1,I1,r,q⟩:=bR;refine⟨I1.mT,?_⟩;exact Mz F hr hb hd hx I1 r q
structure Mk (K:PySem.W.Frag) (C f:Addr):Prop where
 makes:PySem.W.makesIn K C=true
 init:PySem.W.findIn K (.ref C) "__init__"=some (some (.ref f))
 fn:PySem.W.isFn K (.ref f)=true
 kp:PySem.W.keepIn K (.ref C)=true
theorem ON{pins:List (Addr×Obj)}{σ:St}{H:Hp}{s:Shared}{Q:VK}{us:List Value}{vs:List V}(M:Mk X.K C f)(F:g8 X.prog X.w X.K X.mg X.base CX k f fd ps sp)(hr:cV (k+1) X.A)(hb:Binds X.K fd ps ds)(hd:Vals kZ ds)
  (hx:tK CX X E) (I:Inv X pins σ H s) (r:Vals vs us)
  (h:∀x dx,H x=none->H dx=none->dx≠x->sp (.ref x::(vs++kZ)) (upd (upd H dx (.own x)) x (.ins C dx [])) (fun v H2=>v=.non/\Q (.ref x) H2) E) :
  wpAny (model X.prog X.w) X.A (call (.ref C) us) (EP X pins σ Q) X.xe s:=by
 have hq:=h (s.heap.objs.size+1) s.heap.objs.size (I.cz.fresh (Nat.le_succ _)) (I.cz.fresh (az _)) (aI (Nat.lt_succ_self _));have I2:=Inv.made (C:=C) I;have r2:Vals (V.ref (s.heap.objs.size+1)::(vs++kZ)) (Value.ref (s.heap.objs.size+1)::(us++ds)):=.cons rfl (r.append hd);have hl:(Value.ref (s.heap.objs.size+1)::us++ds).length=ps.length:=by
  have e:=r2.length;rw[F.len _ _ _ _ hq] at e;exact e.symm
 refine wpAny_call (OO (f:=f) I.mT M.makes M.init (beq_iff_eq.mp M.fn) (codeAny_mono (F.run _ X.stack _ _ ⟨Value.ref (s.heap.objs.size+1)::us,[]⟩ (Value.ref (s.heap.objs.size+1)::(us++ds)) _ _ E (hr.make C us [])
  (I2.ny.make C us []) (hb _ (Value.ref (s.heap.objs.size+1)::us) I2.mT hl) r2 hq) fun r s' rq=>?_))
 cases r with
 | error e=>exact hx pins σ _ _ e s' I2 rq
 | ok fl=>
  cases fl with
  | ret u=>
   obtain⟨v,H',I3,rv,ev,q3⟩:=I2.after rq;subst ev;exact⟨rv,⟨V.ref (s.heap.objs.size+1),H',I3,rfl,q3⟩⟩
  | next=>exact False.elim rq
  | brk=>exact False.elim rq
  | cont=>exact False.elim rq
theorem N8(M:Mk X.K C f)(F:g8 X.prog X.w X.K X.mg X.base CX k f fd ps sp)(hr:cV (k+1) X.A)(hg:Gl X x)(hm:X.mg x=some (.ref C))(hb:Binds X.K fd ps ds)(hd:Vals kZ ds)(hx:tK CX X E)
  (ha:PA X (e::es) t) (jJ:(x==("__debug__":Str))=false:=by decide) (he:starEach (e::es) X.env=(false,eval e X.env)::starEach es X.env:=by rfl) (gH:(backTo pos (starEach es X.env)).any (·.1)=false:=by rfl) :
  PE X (.Call (.Name x p) (e::es) [] pos) (LY C sp kZ E t):=by
 intro pins s σ H Q I h;refine wpAny_Call_Name_kw (vU I hg hm ?_ jJ);refine PySem.W.callWith_K (h₀:=X.base) I.ok.mod.sA M.kp (cJ (ha pos pins s σ H _ I h) fun us s1 bR=>?_) he gH;obtain⟨vs,H1,I1,r,q⟩:=bR;refine⟨I1.mT,?_⟩;exact ON M F hr hb hd hx I1 r q
end
structure bF (N P:List Str) (sc:Scope):Prop where
 kind:sc.kind=.function
 co:sc.isCoroutine=false
 gen:sc.isGenerator=false
 nd:N.Nodup
 pre:N.take P.length=P
 par:∀x∈P,sc.names.lookup x=some .local\/sc.names.lookup x=some .cell
 uS:∀y∈sc.names,y.2≠.free
theorem Jh{kindOf:Str->Option NameKind}{x:Str}:∀{binds:List (Str×Value)} {m:Str->Option Value},(∀v,(x,v)∉binds)->bindL kindOf binds m x=m x
 | [],_,_=>rfl
 | (n,v)::r,m,h=>by
  unfold bindL;rw[Jh fun w hw=>h w (aA _ hw)];split
  ·have:x≠n:=by rintro rfl;exact h v List.mem_cons_self
   simp[this]
  ·rfl
theorem Jg{kindOf:Str->Option NameKind}{x:Str}:∀{binds:List (Str×Value)} {m:Str->Option Value},(∀v,(x,v)∉binds)->bindC kindOf binds m x=m x
 | [],_,_=>rfl
 | (n,v)::r,m,h=>by
  unfold bindC;rw[Jg fun w hw=>h w (aA _ hw)];split
  ·rfl
  ·have:x≠n:=by rintro rfl;exact h v List.mem_cons_self
   simp[this]
theorem Jf{kindOf:Str->Option NameKind}{x:Str}{v:Value}:∀{P:List Str} {vs:List Value} {i:Nat} {m:Str->Option Value},P.Nodup->P[i]?=some x->vs[i]?=some v->kindOf x=some .local->
  bindL kindOf (P.zip vs) m x=some v
 | [],_,_,_,_,h,_,_=>by simp at h
 | _::_,[],_,_,_,_,h,_=>by simp at h
 | p::P,w::vs,0,m,nd,h1,h2,hk=>by
  simp at h1 h2;subst h1;subst h2;show bindL kindOf ((p,w)::P.zip vs) m p=_;unfold bindL;rw[Jh fun v hv=>(aN.mp nd).1 (List.of_mem_zip hv).1,if_pos hk];simp
 | p::P,w::vs,i+1,m,nd,h1,h2,hk=>by
  show bindL kindOf ((p,w)::P.zip vs) m x=_;unfold bindL;exact Jf (i:=i) (aN.mp nd).2 (by simpa using h1) (by simpa using h2) hk
theorem Je{kindOf:Str->Option NameKind}{x:Str}{v:Value}:∀{P:List Str} {vs:List Value} {i:Nat} {m:Str->Option Value},P.Nodup->P[i]?=some x->vs[i]?=some v->kindOf x≠some .local->
  bindC kindOf (P.zip vs) m x=some v
 | [],_,_,_,_,h,_,_=>by simp at h
 | _::_,[],_,_,_,_,h,_=>by simp at h
 | p::P,w::vs,0,m,nd,h1,h2,hk=>by
  simp at h1 h2;subst h1;subst h2;show bindC kindOf ((p,w)::P.zip vs) m p=_;unfold bindC;rw[Jg fun v hv=>(aN.mp nd).1 (List.of_mem_zip hv).1,if_neg hk];simp
 | p::P,w::vs,i+1,m,nd,h1,h2,hk=>by
  show bindC kindOf ((p,w)::P.zip vs) m x=_;unfold bindC;exact Je (i:=i) (aN.mp nd).2 (by simpa using h1) (by simpa using h2) hk
noncomputable def lg(N:List Str)(vs:List V):St:=vs.map some++List.replicate (N.length-vs.length) none
noncomputable def mR(CX:rH)(P:Program)(w:World)(K:PySem.W.Frag)(mg:Str->Option Value)(base:Heap)(N:List Str)(qual:Str)(scope:Scope)(f:Addr)(cd:Value)(A:Around)(outer:List Env)(s:Shared)(H:Hp)(E:XK):Cx where
 prog:=P
 w:=w
 K:=K
 mg:=mg
 base:=base
 A:=A.deeper (envOfC qual scope s.heap.objs.size f cd)
 N:=N
 cK:=s
 pe:=H
 env:=envOfC qual scope s.heap.objs.size f cd
 outer:=outer
 stack:=envOfC qual scope s.heap.objs.size f cd::outer
 ex:=[]
 calm:=true
 fn:=fun _=>true
 pn:=[]
 xe:=fun e s'=>wpAny (model P w) (A.deeper (envOfC qual scope s.heap.objs.size f cd)) (leaving (envOfC qual scope s.heap.objs.size f cd) e) (fun _ wz=>CX outer H s E e wz) (fun e' wz=>CX outer H s E e' wz) s'
theorem Ip{sc:Scope}{n:Nat}{x:Str}(h:sc.names.lookup x=some .cell):∃c,(cellsFrom n sc.names []).lookup x=some c:=by
 have q:=PySem.W.cellsFrom_some sc.names n [] (.inl h);exact Option.isSome_iff_exists.mp q
theorem P9{CX:rH}{P:Program}{w:World}{K:PySem.W.Frag}{mg:Str->Option Value}{base:Heap}{N ps:List Str}{qual:Str}{scope:Scope}{f:Addr}{cd:Value}{A:Around}{outer:List Env}{s s1:Shared}{H:Hp}{E:XK}{us:List Value}{vs:List V}
  (S:bF N ps scope) (hd:A.handled=none) (e0:nD P w K mg base A outer s H) (hl:vs.length=ps.length) (r:Vals vs us)
  (x:InCallC s s.heap.objs.size (bindL (envOfC qual scope s.heap.objs.size f cd).kindOf (ps.zip us) fun _=>none) (cellsFrom (s.heap.objs.size+1) scope.names []) (bindC (envOfC qual scope s.heap.objs.size f cd).kindOf (ps.zip us) fun _=>none) s1) :
  Inv (mR CX P w K mg base N qual scope f cd A outer s H E) [] (lg N vs) H s1:=by
 have gH:ps.length<=N.length:=by have:=congrArg List.length S.pre;rw[ay] at this;omega
 obtain⟨h1,tk,rfl,hk⟩:=x.done;have yX:∀b:Addr,b∉(mR CX P w K mg base N qual scope f cd A outer s H E).ex:=fun b z=>absurd (show b∈([]:List Addr) from z) (by simp)
 refine⟨⟨e0.mod,S.kind,rfl,rfl,az _,fun y z c h1 h2=>?_,fun y hy=>?_,fun y c _ h=>?_,fun _=>hd,Around.frames_deeper e0.frames,.inr ⟨rfl,rfl⟩,fun b z=>absurd z (yX b),e0.bs,e0.sS,fun b _ _=>yX b,fun b z=>absurd z (yX b),e0.gn,e0.qG⟩,
  rfl,e0.bare,Un.kept hk,⟨_,x.toInCall.ns,fun i y v h1 h2 h3=>?_⟩,fun y c h=>⟨_,x.cell y c h⟩,e0.cz.fresh (az _),fun y c h=>?_,fun p hp=>absurd (show p∈([]:List (Addr×Obj)) from hp) (by simp),e0.cz.kept hk,?_⟩
 ·exact name_of_addr x.apart (PySem.mem_of_lookup h1) (PySem.mem_of_lookup h2)
 ·have hy:scope.names.lookup y=some .cell\/scope.names.lookup y=some .free:=hy;rcases hy with hy | hy
  ·exact Ip hy
  ·exact absurd rfl (S.uS _ (PySem.mem_of_lookup hy))
 ·exact Nat.le_of_lt (x.above y c (PySem.mem_of_lookup h))
 ·have hi:i<vs.length:=by
   unfold lg at h2;by_cases hi:i<vs.length
   ·exact hi
   ·rw[List.getElem?_append_right (by simpa using hi)] at h2;rw[List.getElem?_replicate] at h2;split at h2<;>cases h2
  have ha:vs[i]?=some v:=by
   unfold lg at h2;rw[List.getElem?_append_left (by simpa using hi),aT] at h2;cases e:vs[i]? with
   | none=>rw[e] at h2;cases h2
   | some a=>rw[e] at h2;cases h2;rfl
  obtain⟨u,hu,rv⟩:=r.get ha;have hp:ps[i]?=some y:=by
   rw[<-S.pre,List.getElem?_take_of_lt (by omega)];exact h1
  have JY:ps.Nodup:=by rw[<-S.pre];exact S.nd.sublist (List.take_sublist _ _)
  refine⟨u,rv,?_⟩;rcases S.par y (ah hp) with k | k
  ·exact .inl ⟨k,Jf JY hp hu k⟩
  ·obtain⟨c,e⟩:=Ip (n:=s.heap.objs.size+1) k;refine .inr ⟨.inl k,c,e,?_⟩;have q:=x.cell y c e;rw[Je JY hp hu (by show scope.names.lookup y≠_;rw[k];decide)] at q;exact q
 ·exact e0.cz.fresh (Nat.le_of_lt (x.above y c (PySem.mem_of_lookup h)))
 ·unfold lg;show _=N.length;rw[aw,aa,List.length_replicate];omega
theorem Gh{CX:rH}{P:Program}{w:World}{K:PySem.W.Frag}{mg:Str->Option Value}{base:Heap}{k:Nat}{f:Addr}{name qual:Str}{params:Arguments}{body:List Stmt}{scope:Scope}{dV kV doc pm cg ct oc:Value}{an od:Option Addr}
  {nT:Array (Option Value)} {N ps:List Str} {sp:Sp} (lk:K.lookup f=some ⟨oc,od,.func (PySem.W.fnOf name qual params body scope dV kV doc pm an cg ct),nT⟩) (fS:PySem.W.codeIn K cg qual=true) (S:bF N ps scope)
  (len:∀vs H Q E,sp vs H Q E->vs.length=ps.length)
  (qF:∀(A:Around) (outer:List Env) (s:Shared) (H:Hp) (vs:List V) (Q:VK) (E:XK),cV k (A.deeper (envOfC qual scope s.heap.objs.size f cg))->sp vs H Q E->
   ∃t,mD (mR CX P w K mg base N qual scope f cg A outer s H E) body t/\t { nx:=fun _ H'=>Q .non H',rt:=Q } (lg N vs) H) :
  g8 P w K mg base CX (k+1) f (PySem.W.fnOf name qual params body scope dV kV doc pm an cg ct) ps sp:=by
 refine⟨len,fun A outer s H args us vs Q E hr e0 hb r wF=>?_⟩;have hl:=len _ _ _ _ wF;have KX:K.In s.heap:=e0.mod.sA.keeps fun b o e=>(e0.bs b o e).1
 have lim:s.heap.NoLimit:=e0.mod.nolimit.keeps fun b o e=>(e0.bs b o e).1
 have n8:∀y∈ps.zip us,scope.names.lookup y.1=some .local\/(scope.names.lookup y.1=some .cell/\((cellsFrom (s.heap.objs.size+1) scope.names []).lookup y.1).isSome=true):=fun⟨n,v⟩ hy=>by
  rcases S.par n (List.of_mem_zip hy).1 with q | q
  ·exact .inl q
  ·exact .inr ⟨q,PySem.W.cellsFrom_some _ _ _ (.inl q)⟩
 refine codeAny_call_function hr.depth (KX _ _ lk) rfl S.co S.gen rfl (PySem.W.codeRec_of KX fS) (hb _ _ _ _ ?_);refine wpAny_newFunctionEnv_cells S.kind n8 fun env he s1 x=>?_
 subst he;refine⟨lim.keeps x.toInCall.keep,codeAny_func ?_⟩;obtain⟨t,ht,hq⟩:=qF A outer s H vs Q E (hr.deeper _) wF;have I:Inv (mR CX P w K mg base N qual scope f cg A outer s H E) [] (lg N vs) H s1:=P9 S hr.hd e0 hl r x;refine wpAny_mono (ht [] s1 (lg N vs) H _ I hq) (fun fl s' hs=>?_) fun e s' hs=>hs
 have fin:∀{cj:St} {H':Hp} {v:V} {u:Value},Inv (mR CX P w K mg base N qual scope f cg A outer s H E) [] cj H' s'->RelV v u->Q v H'->CE outer P w H s Q u s':=
  fun{cj H' v u} J rv q=>⟨v,H',J.os,J.bare,J.base,J.cz,rv,q⟩
 cases fl with
 | ret u=>
  obtain⟨v,cj,H',J,rv,q⟩:=hs;exact fin J rv q
 | next=>
  obtain⟨cj,H',J,q⟩:=hs;exact fin (v:=V.non) (u:=Value.none) J rfl q
 | brk=>
  obtain⟨_,_,_,q⟩:=hs;exact False.elim q
 | cont=>
  obtain⟨_,_,_,q⟩:=hs;exact False.elim q
end L2
namespace L2
open PySem PySem.Spec PyProof.Rows
section
variable {X:Cx} {x:Str} {p pos:Pos} {e:Expr} {es:List Expr} {t:TA} {id T:String} {r:List V->Hp->VK->Prop}
def Eb(r:List V->Hp->VK->Prop)(t:TA):TE:=fun σ H Q=>t σ H fun vs H1=>r vs H1 Q
theorem xS(hc:df X (.builtin id) r)(hg:Gl X x)(hm:X.mg x=none)(hv:bootBuiltins x=some (.builtin id))(ha:PA X (e::es) t)(hn:x≠"__name__":=by decide)(jJ:(x==("__debug__":Str))=false:=by decide)
  (he:starEach (e::es) X.env=(false,eval e X.env)::starEach es X.env:=by rfl) (gH:(backTo pos (starEach es X.env)).any (·.1)=false:=by rfl):PE X (.Call (.Name x p) (e::es) [] pos) (Eb r t):=by
 intro pins s σ H Q I h;refine wpAny_Call_Name_kw (tL I hg hm hv ?_ hn jJ);exact PyProof.Rows.callWith_builtin1 (cJ (ha pos pins s σ H _ I h) fun us s1 bR=>by obtain⟨vs,H1,I1,r1,q1⟩:=bR;exact hc pins s1 σ H1 vs us Q I1 r1 q1) he gH
theorem Jd(hc:df X (.type T) r)(hg:Gl X x)(hm:X.mg x=none)(hv:bootBuiltins x=some (.type T))(ha:PA X (e::es) t)(hn:x≠"__name__":=by decide)(jJ:(x==("__debug__":Str))=false:=by decide)
  (he:starEach (e::es) X.env=(false,eval e X.env)::starEach es X.env:=by rfl) (gH:(backTo pos (starEach es X.env)).any (·.1)=false:=by rfl):PE X (.Call (.Name x p) (e::es) [] pos) (Eb r t):=by
 intro pins s σ H Q I h;refine wpAny_Call_Name_kw (tL I hg hm hv ?_ hn jJ);exact PyProof.Rows.callWith_type1 (cJ (ha pos pins s σ H _ I h) fun us s1 bR=>by obtain⟨vs,H1,I1,r1,q1⟩:=bR;exact hc pins s1 σ H1 vs us Q I1 r1 q1) he gH
end
end L2
namespace HT
open PySem PyProof.Rows
section
variable {prog:Program} {w:World} {A:Around} {E:Value->Shared->Prop} {s:Shared}
noncomputable def dn(n d:Nat):Option Int->Nat
 | none=>d
 | some v=>if v<0 then(v+(n:Int)).toNat else min v.toNat n
theorem jk(n d:Nat)(hd:d<=n)(o:Option Int):dn n d o<=n:=by
 cases o with
 | none=>exact hd
 | some v=>
  show(if v<0 then(v+(n:Int)).toNat else min v.toNat n)<=n;by_cases hv:v<0
  ·rw[if_pos hv];omega
  ·rw[if_neg hv];exact Nat.min_le_right _ _
theorem lG(v:Int)(n d:Nat):(if v<0 then max (v+(n:Int)) 0 else min v (n:Int))=((dn n d (some v):Nat):Int):=by
 show(if v<0 then max (v+(n:Int)) 0 else min v (n:Int))=(((if v<0 then(v+(n:Int)).toNat else min v.toNat n):Nat):Int)
 by_cases hv:v<0
 ·simp only[if_pos hv];omega
 ·simp only[if_neg hv];omega
theorem QI(lo hi:Option Int)(n:Nat):Builtin.Slice.sliceAdjust lo hi 1 (n:Int)=(((dn n 0 lo:Nat):Int),((dn n n hi:Nat):Int)):=by
 have h1:¬((1:Int)<0):=by omega
 unfold Builtin.Slice.sliceAdjust;simp only[h1,if_false];refine Prod.ext ?_ ?_
 ·cases lo with
  | none=>rfl
  | some v=>exact lG v n 0
 ·cases hi with
  | none=>rfl
  | some v=>exact lG v n n
theorem QH(i j:Nat):Builtin.Slice.slicePlaces (i:Int) (j:Int) 1=j-i:=by
 unfold Builtin.Slice.slicePlaces;have h1:(1:Int)>0:=by omega
 simp only[h1,if_true,Int.ediv_one];split<;>omega
theorem Jm{v:Value}{o:Option Int}{Q:Option Int->Shared->Prop}(p:IsPart v o)(h:Q o s):wpAny (model prog w) A (Builtin.Slice.slicePartIndex v) Q E s:=by
 cases p with
 | none=>exact slicePart_none h
 | int i t=>exact slicePart_int h
theorem SK{sl:Addr}{vl vu:Value}{lo hi:Option Int}{n:Nat}{Q:Int×Int×Nat->Shared->Prop}(hs:s.heap.IsSliceOf sl vl vu .none)(pl:IsPart vl lo)(pu:IsPart vu hi)
  (h:Q (((dn n 0 lo:Nat):Int),1,dn n n hi-dn n 0 lo) s):wpAny (model prog w) A (Builtin.Slice.sliceApplied (.ref sl) (pure (n:Int))) Q E s:=by
 obtain⟨os,zf,Ko,ub⟩:=id hs;unfold Builtin.Slice.sliceApplied Builtin.Slice.sliceFields;refine ae (ae (wpAny_field zf ub (x:=vl) rfl (ae (wpAny_field zf ub (x:=vu) rfl (ae (wpAny_field zf ub (x:=.none) rfl (ar ?_)))))));refine ae (slicePart_none ?_);show wpAny _ _ (if ((1:Int)==0)=true then _ else _) _ _ s;rw[if_neg (by decide)];refine ae (Jm pl (ae (Jm pu (ae (ar ?_)))));show wpAny _ _ (match Builtin.Slice.sliceAdjust lo hi 1 (n:Int) with | (lo,hi)=>pure (lo,(1:Int),Builtin.Slice.slicePlaces lo hi 1)) _ _ s;rw[QI lo hi n];show wpAny _ _ (pure (((dn n 0 lo:Nat):Int),(1:Int),Builtin.Slice.slicePlaces ((dn n 0 lo:Nat):Int) ((dn n n hi:Nat):Int) 1)) _ _ s;rw[QH];exact ar h
theorem OM(xs:Array Value)(i k:Nat):((List.range k).filterMap fun(m:Nat)=>xs[((i:Int)+(m:Int)*1).toNat]?).toArray=((xs.toList.drop i).take k).toArray:=by
 have e:(fun(m:Nat)=>xs[((i:Int)+(m:Int)*1).toNat]?)=fun m=>xs[i+m]?:=by
  funext m
  have:((i:Int)+(m:Int)*1).toNat=i+m:=by omega
  rw[this]
 rw[e];have:=pick_run xs i k;rw[List.filterMap_map] at this;have e2:((fun x=>xs[x]?)∘fun x=>i+x)=fun m=>xs[i+m]?:=rfl
 rw[e2] at this;rw[this]
theorem i9{t sl:Addr}{items:Array Value}{vl vu:Value}{lo hi:Option Int}{Q:Value->Shared->Prop}(ht:IsTup s.heap t items)(hs:s.heap.IsSliceOf sl vl vu .none)(pl:IsPart vl lo)(pu:IsPart vu hi)
  (hw:¬(dn items.size 0 lo=0/\dn items.size items.size hi=items.size))
  (h:Q (.ref s.heap.objs.size) { s with heap:=s.heap.push { cls:=.type "tuple",data:=.seq ((items.toList.drop (dn items.size 0 lo)).take (dn items.size items.size hi-dn items.size 0 lo)).toArray } })
  (kL:items.size<=sizeLine):wpAny (model prog w) A (getItem (.ref t) (.ref sl)) Q E s:=by
 have nW:sizeOk (.seq ((items.toList.drop (dn items.size 0 lo)).take (dn items.size items.size hi-dn items.size 0 lo)).toArray):=by
  show((items.toList.drop (dn items.size 0 lo)).take (dn items.size items.size hi-dn items.size 0 lo)).toArray.size<=sizeLine;rw[ai,ay,aL,aO];omega
 have hj:dn items.size items.size hi<=items.size:=jk _ _ (az _) hi;obtain⟨os,zf,Ko,ub⟩:=id hs;have Vu:s.TypeIs (.ref sl) "slice":=⟨os,zf,Ko⟩
 unfold getItem;try with_reducible refine ba ?_
 first | refine ae (ar ?_) | skip
 refine ae (wpAny_sequenceKey ht.typeIs (by decide) ?_);refine ae (wpAny_callSpecial?_slot (name:=Str.ofString "__getitem__") ht.typeIs PyProof.Rows.slot_tuple_getitem
  (wpAny_call_entry PyProof.Rows.slot_tuple_getitem ht.typeIs entry_tuple_getitem ?_ (args_tuple_getitem _ _)))
 show wpAny _ _ (Builtin.Tuple.tupleItemsOf (.ref t) >>= _) _ _ s;refine ae (tupleItemsOf_ ht ?_);refine ae (wpAny_typeOf Vu ?_);rw[if_pos (by decide)];refine ae (SK hs pl pu ?_);have vc:¬((((dn items.size 0 lo:Nat):Int)==0&&(1:Int)==1&&(dn items.size items.size hi-dn items.size 0 lo)==items.size)=true):=by
  intro q;rw[Bool.and_eq_true,Bool.and_eq_true] at q;have q1:((dn items.size 0 lo:Nat):Int)=0:=eq_of_beq q.1.1;have q2:dn items.size items.size hi-dn items.size 0 lo=items.size:=eq_of_beq q.2;exact hw ⟨by omega,by omega⟩
 show wpAny _ _ (if (((dn items.size 0 lo:Nat):Int)==0&&(1:Int)==1&&(dn items.size items.size hi-dn items.size 0 lo)==items.size)=true then _ else _) _ _ s;rw[if_neg vc,OM];first
  | exact ae (m:=Builtin.Tuple.tupleExact _) (wpAny_newObj_type (ar ⟨_,rfl,ar h⟩) nW)
  | exact ae (m:=Builtin.Tuple.tupleExact _) (wpAny_newObj_type (ae (ar (ar ⟨_,rfl,ar h⟩))) nW)
  | exact ae (ae (m:=Builtin.Tuple.tupleExact _) (wpAny_newObj_type (ar (ar ⟨_,rfl,ar h⟩)) nW))
  | exact ae (ae (m:=Builtin.Tuple.tupleExact _) (wpAny_newObj_type (ar ⟨_,rfl,ar h⟩) nW))
end
end HT
namespace L2
open PySem PySem.Spec PyProof.Rows
noncomputable abbrev TO:=St->Hp->(Option Int->Hp->Prop)->Prop
def PO(X:Cx)(e:Option Expr)(t:TO):Prop:=
 ∀(pins:List (Addr×Obj)) (s:Shared) (σ:St) (H:Hp) (Q:Option Int->Hp->Prop),Inv X pins σ H s->t σ H Q->
  wpAny (model X.prog X.w) X.A (evalPart e X.env) (fun u s'=>∃o H',Inv X pins σ H' s'/\IsPart u o/\Q o H') X.xe s
noncomputable def N7:TO:=fun _ H Q=>Q none H
noncomputable def LX(t:TE):TO:=fun σ H Q=>t σ H fun x H1=>∃i,x=.int i/\Q (some i) H1
theorem A2{ns:List Int}:∀{us:List Value},Vals (ns.map V.int) us->IntsAre us ns:=by
 induction ns with
 | nil=>intro us r;rw[bg] at r;cases r;exact .nil
 | cons n ns ih=>
  intro us r;rw[aj] at r;cases r with
  | cons r1 r2=>
   obtain⟨t,e⟩:=r1;subst e;exact .cons n t (ih r2)
section
variable {X:Cx} {e:Expr} {te:TE} {lo hi:Option Expr} {tl th:TO} {pos p2:Pos}
theorem N6:PO X none N7:=by
 intro pins s σ H Q I h;rw[evalPart_none];exact ar ⟨none,H,I,.none,h⟩
theorem N5(h:PE X e te):PO X (some e) (LX te):=by
 intro pins s σ H Q I hw;rw[evalPart_some];refine cJ (h pins s σ H _ I hw) fun u s1 bR=>?_
 obtain⟨x,H1,I1,r1,q1⟩:=bR;obtain⟨i,rfl,q⟩:=q1;obtain⟨t,rfl⟩:=r1;exact⟨some i,H1,I1,.int i t,q⟩
def ug(X:Cx)(r:V->Option Int->Option Int->Hp->VK->Prop):Prop:=
 ∀(pins:List (Addr×Obj)) (s:Shared) (σ:St) (H:Hp) (x:V) (v vl vu:Value) (lo hi:Option Int) (sl:Addr) (Q:VK),Inv X pins σ H s->RelV x v->s.heap.IsSliceOf sl vl vu .none->IsPart vl lo->IsPart vu hi->r x lo hi H Q->
  ∃T id,typeLookup (.type T) "__getitem__"=pure (some (.builtin id))/\s.TypeIs v T/\wpAny (model X.prog X.w) X.A (getItem v (.ref sl)) (EP X pins σ Q) X.xe s
theorem ug.or{r r':V->Option Int->Option Int->Hp->VK->Prop}(h:ug X r)(h':ug X r'):ug X (fun x lo hi H Q=>r x lo hi H Q\/r' x lo hi H Q):=by
 intro pins s σ H x v vl vu lo hi sl Q I rx hs pl pu q;rcases q with q | q
 ·exact h pins s σ H x v vl vu lo hi sl Q I rx hs pl pu q
 ·exact h' pins s σ H x v vl vu lo hi sl Q I rx hs pl pu q
def T7(r:V->Option Int->Option Int->Hp->VK->Prop)(te:TE)(tl th:TO):TE:=fun σ H Q=>te σ H fun x H1=>tl σ H1 fun l H2=>th σ H2 fun u H3=>r x l u H3 Q
theorem OL{r:V->Option Int->Option Int->Hp->VK->Prop}(hr:ug X r)(he:PE X e te)(hl:PO X lo tl)(hu:PO X hi th):PE X (.Subscript e (.Slice lo hi none p2) pos) (T7 r te tl th):=by
 intro pins s σ H Q I h;refine Subscript_ (cJ (he pins s σ H _ I h) fun v s1 bR=>?_);obtain⟨x,H1,I1,r1,q1⟩:=bR;refine wpAny_Slice (cJ (hl pins s1 σ H1 _ I1 q1) fun vl s2 bR=>?_);obtain⟨l,H2,I2,pl,q2⟩:=bR;refine cJ (hu pins s2 σ H2 _ I2 q2) fun vu s3 bR=>?_
 obtain⟨u,H3,I3,pu,q3⟩:=bR;rw[evalPart_none];refine ar ?_;have I4:Inv X pins σ H3 { s3 with heap:=s3.heap.push { cls:=.type "slice",data:=.fields #[vl,vu,.none] } }:=I3.kept (t':=s3.toks) fun b ob q=>av _ q
 obtain⟨T,id,hT,ht,hg⟩:=hr pins { s3 with heap:=s3.heap.push { cls:=.type "slice",data:=.fields #[vl,vu,.none] } } σ H3 x v vl vu l u s3.heap.objs.size Q I4 r1 (Heap.IsSliceOf.new ..) pl pu q3;show wpAny (model X.prog X.w) X.A (subscriptTail e (.Slice lo hi none p2) v (.ref s3.heap.objs.size)) (EP X pins σ Q) X.xe { s3 with heap:=s3.heap.push { cls:=.type "slice",data:=.fields #[vl,vu,.none] } };exact tail_any (ops:=[.ref s3.heap.objs.size,v]) ht hT hg (by with_unfolding_all rfl)
noncomputable def qR(xs:List V)(lo hi:Option Int):List V:=(xs.drop (HT.dn xs.length 0 lo)).take (HT.dn xs.length xs.length hi-HT.dn xs.length 0 lo)
theorem Jw(xs:List V)(lo hi:Option Int):(qR xs lo hi).length<=xs.length:=by
 unfold qR;rw[ay,aL];omega
def Li(K:PySem.W.Frag):V->Option Int->Option Int->Hp->VK->Prop:=fun x lo hi H Q=>∃a xs,x=.ref a/\fW K H a xs/\
 ¬(HT.dn xs.length 0 lo=0/\HT.dn xs.length xs.length hi=xs.length)/\∀p,H p=none->Q (.ref p) (upd H p (.tup (qR xs lo hi)))
theorem My:ug X (Li X.K):=by
 intro pins s σ H x v vl vu lo hi sl Q I rx hs pl pu h;obtain⟨a,xs,rfl,hx,hw,q⟩:=h;cases rx;obtain⟨its,r,ht,hz⟩:=I.tuple hx;have hlen:its.toArray.size=xs.length:=by rw[ai];exact r.length.symm
 refine⟨"tuple",_,PyProof.Rows.slot_tuple_getitem.lookup,ht.typeIs,?_⟩;refine HT.i9 ht hs pl pu (by rw[hlen];exact hw) ?_ (by rw[hlen];exact hz);rw[hlen];refine⟨.ref s.heap.objs.size,_,I.laid (t':=s.toks) (o:=.tup (qR xs lo hi)) (fun b ob q=>av _ q) (az _) ?_,rfl,q _ (I.cz.fresh (az _))⟩;exact⟨aY (Jw xs lo hi) hz,_,(r.drop (HT.dn xs.length 0 lo)).take (HT.dn xs.length xs.length hi-HT.dn xs.length 0 lo),IsTup.new _ _⟩
end
end L2
namespace L2
open PySem PySem.Spec PyProof.Rows
noncomputable def kY(n:Nat)(i:Int):Option Nat:=if 0<=i then(if i<n then some i.toNat else none) else if -(n:Int)<=i then some (i+n).toNat else none
noncomputable def du{α:Type}(xs:List α)(i:Int):Option α:=(kY xs.length i).bind fun j=>xs[j]?
theorem Hq{n:Nat}{i:Int}{j:Nat}(h:kY n i=some j):seqIndex? i n=some j/\j<n/\-(n:Int)<=i/\i<n:=by
 unfold kY at h;by_cases h0:0<=i
 ·rw[if_pos h0] at h;by_cases h1:i<n
  ·rw[if_pos h1] at h;have e:i.toNat=j:=Option.some.inj h;exact⟨by rw[seqIndex_of h0 h1,e],by omega,by omega,h1⟩
  ·rw[if_neg h1] at h;cases h
 ·rw[if_neg h0] at h;by_cases h1:-(n:Int)<=i
  ·rw[if_pos h1] at h;have e:(i+n).toNat=j:=Option.some.inj h;exact⟨by rw[seqIndex_neg (by omega) h1,e],by omega,h1,by omega⟩
  ·rw[if_neg h1] at h;cases h
theorem vS{α:Type}{xs:List α}{i:Int}{v:α}(h:du xs i=some v):∃j,seqIndex? i xs.length=some j/\xs[j]?=some v/\j<xs.length/\-(xs.length:Int)<=i/\i<xs.length:=by
 unfold du at h;cases e:kY xs.length i with
 | none=>rw[e] at h;cases h
 | some j=>
  rw[e] at h;obtain⟨h1,h2,h3,h4⟩:=Hq e;exact⟨j,h1,h,h2,h3,h4⟩
def AG(b:Expr):Prop:=∀o i,subscripted b false o i=operate [o,i] (getItem o i)
def sV(X:Cx)(r:R2):Prop:=
 ∀(value slice:Expr) (pins:List (Addr×Obj)) (s:Shared) (σ:St) (H:Hp) (x y:V) (v u:Value) (Q:VK),Inv X pins σ H s->RelV x v->RelV y u->r x y H Q->
  subscripted slice false v u=operate [v,u] (getItem v u)->wpAny (model X.prog X.w) X.A (subscriptTail value slice v u) (EP X pins σ Q) X.xe s
def FI(X:Cx)(id:String)(r:V->List V->Hp->VK->Prop):Prop:=
 ∀(pins:List (Addr×Obj)) (s:Shared) (σ:St) (H:Hp) (x:V) (xs:List V) (v:Value) (us:List Value) (Q:VK),Inv X pins σ H s->RelV x v->Vals xs us->r x xs H Q->
  wpAny (model X.prog X.w) X.A (call (.builtin id) (v::us)) (EP X pins σ Q) X.xe s
section
variable {X:Cx} {a b:Expr} {ta tb:TE} {pos:Pos}
theorem sV.or{r r':R2}(h:sV X r)(h':sV X r'):sV X (fun x y H Q=>r x y H Q\/r' x y H Q):=by
 intro value slice pins s σ H x y v u Q I rx ry q hs;rcases q with q | q
 ·exact h value slice pins s σ H x y v u Q I rx ry q hs
 ·exact h' value slice pins s σ H x y v u Q I rx ry q hs
theorem Cn{r:R2}(hr:sV X r)(ha:PE X a ta)(hb:PE X b tb)(hs:AG b):PE X (.Subscript a b pos) (yK r ta tb):=by
 intro pins s σ H Q I h;exact Subscript_ (B6 ha hb I h fun v u s2 x y H2 I2 rx ry q=>hr a b pins s2 σ H2 x y v u Q I2 rx ry q (hs _ _))
def F0(K:PySem.W.Frag):R2:=fun x y H Q=>∃p xs i v,x=.ref p/\y=.int i/\eI K H p xs/\du xs i=some v/\Q v H
def FZ(K:PySem.W.Frag):R2:=fun x y H Q=>∃p xs i v,x=.ref p/\y=.int i/\fW K H p xs/\du xs i=some v/\Q v H
def FY:R2:=fun x y H Q=>∃z i c,x=.str z/\y=.int i/\z.length<=sizeLine/\du z.cps.toList i=some c/\Q (.str ⟨#[c]⟩) H
theorem nV:sV X (F0 X.K):=by
 intro value slice pins s σ H x y v u Q I rx ry h hs;obtain⟨p,xs,i,z,rfl,rfl,hq,he,q⟩:=h;cases rx;obtain⟨t,rfl⟩:=ry;obtain⟨its,r,pl,hz⟩:=I.list hq;obtain⟨j,h1,h2,h3,h4,h5⟩:=vS he;obtain⟨w,ew,rh⟩:=r.get h2;have hl:=r.length;have hn:=vO;have fin:EP X pins σ Q w s:=⟨z,H,I,rh,q⟩
 by_cases h0:0<=i
 ·have hj:i.toNat=j:=by
   rw[seqIndex_of h0 h5] at h1;exact Option.some.inj h1
  exact item_listR pl.isList h0 (by omega) (by rw[hj];simpa using ew) fin hs
 ·have hj:(i+(its.toArray.size:Int)).toNat=j:=by
   rw[seqIndex_neg (by omega) h4] at h1;rw[ai,<-hl];exact Option.some.inj h1
  exact subscriptTail_builtinR (x:=w) pl.isList.typeIs slot_list_getitem.lookup
   (wpAny_getItem_list_neg (Q:=fun r s'=>r=w/\EP X pins σ Q r s') pl.isList (by omega) (by rw[ai]<;>omega) (by omega) (by rw[hj];simpa using ew) ⟨rfl,fin⟩) hs
theorem uW:sV X (FZ X.K):=by
 intro value slice pins s σ H x y v u Q I rx ry h hs;obtain⟨p,xs,i,z,rfl,rfl,hq,he,q⟩:=h;cases rx;obtain⟨t,rfl⟩:=ry;obtain⟨its,r,pl,hz⟩:=I.tuple hq;obtain⟨j,h1,h2,h3,h4,h5⟩:=vS he;obtain⟨w,ew,rh⟩:=r.get h2;have hl:=r.length;have hn:=vO;have fin:EP X pins σ Q w s:=⟨z,H,I,rh,q⟩
 exact subscriptTail_builtinR (x:=w) pl.typeIs slot_tuple_getitem.lookup
  (getItem_tuple (j:=j) (Q:=fun r s'=>r=w/\EP X pins σ Q r s') pl (by omega) (by omega) (by rw[ai,<-hl];exact h1) (by simpa using ew) ⟨rfl,fin⟩) hs
theorem Mx:sV X FY:=by
 intro value slice pins s σ H x y v u Q I rx ry h hs;obtain⟨z,i,c,rfl,rfl,hz,he,q⟩:=h;obtain⟨t,rfl⟩:=rx;obtain⟨t',rfl⟩:=ry;obtain⟨j,h1,h2,h3,h4,h5⟩:=vS he;have hl:z.cps.toList.length=z.length:=by simp[Str.length]
 rw[hl] at h1 h4 h5;have hn:=vO
 exact tail_any (typeIs_str s z t) slot_str_getitem.lookup (getItem_str (c:=c) (by
  have e1:decide (i < -(2 ^ 63:Int))=false:=aW (by omega);have e2:decide (i>=2 ^ 63)=false:=aW (by omega)
  rw[e1,e2,Bool.or_false]) (by rw[h1];simpa using h2) ⟨.str ⟨#[c]⟩,H,I.tok _,⟨_,rfl⟩,q⟩) hs
def JR(K:PySem.W.Frag):R2:=fun x y H Q=>F0 K x y H Q\/FZ K x y H Q\/FY x y H Q
theorem GQ:sV X (JR X.K):=nV.or (uW.or Mx)
theorem QG(its:List Value)(n j:Nat)(u:Value):Obj.mapSeq (·.setIfInBounds j u) { cls:=.type "list",data:=.seq its.toArray n }={ cls:=.type "list",data:=.seq (its.set j u).toArray n }:=by
 simp[Obj.mapSeq]
theorem Inv.lst{pins:List (Addr×Obj)}{σ:St}{H:Hp}{s:Shared}{p:Addr}{xs:List V}(I:Inv X pins σ H s)(h:H p=some (.lst xs)) :
  ∃(its:List Value) (n:Nat),Vals xs its/\s.heap.get? p=some { cls:=.type "list",data:=.seq its.toArray n }/\xs.length<=sizeLine:=by
 obtain⟨z,its,n,r,e⟩:=I.cz p _ h;exact⟨its,n,r,e,z⟩
theorem Inv.uT{pins:List (Addr×Obj)}{σ:St}{H:Hp}{s:Shared}{p:Addr}{xs ys:List V}{its its':List Value}{n n':Nat}{f:Obj->Obj}(I:Inv X pins σ H s)(h:H p=some (.lst xs))
  (ho:s.heap.get? p=some { cls:=.type "list",data:=.seq its.toArray n }) (hf:f { cls:=.type "list",data:=.seq its.toArray n }={ cls:=.type "list",data:=.seq its'.toArray n' }) (r:Vals ys its') (hz:ys.length<=sizeLine) (t:Nat) :
  Inv X pins σ (upd H p (.lst ys)) { s with heap:=s.heap.update p f,toks:=t }:=by
 have e:(s.heap.update p f).get? p=some { cls:=.type "list",data:=.seq its'.toArray n' }:=by
  rw[Heap.get?_update_self f ho (by rw[hf]<;>rfl),hf]
 refine I.write (x:=p) (e:=p) (by rw[h];trivial) (.inl rfl) (fun b u hb q=>(Heap.get?_update_other _ _ (Ne.symm hb)).trans q) ⟨_,e⟩ ?_;exact⟨hz,its',n',r,e⟩
def LW:V->V->V->Hp->(Hp->Prop)->Prop:=fun o i v H Q=>∃p xs k j,o=.ref p/\i=.int k/\H p=some (.lst xs)/\kY xs.length k=some j/\Q (upd H p (.lst (xs.set j v)))
theorem AR:F2 X LW:=by
 intro pins s σ H o i v ov iv u Q I ro ri rv h;obtain⟨p,xs,k,j,rfl,rfl,hp,hj,q⟩:=h;cases ro;obtain⟨t,rfl⟩:=ri;obtain⟨its,n,r,ho,hz⟩:=I.lst hp;obtain⟨h1,h2,h3,h4⟩:=Hq hj;have hl:=r.length;have hn:=vO;have I':Inv X pins σ (upd H p (.lst (xs.set j v))) { s with heap:=s.heap.update p (Obj.mapSeq (·.setIfInBounds j u)) }:=
  I.uT hp ho (QG its n j u) (r.set rv j) (by rw[List.length_set];exact hz) s.toks
 by_cases h0:0<=k
 ·have hk:k.toNat=j:=by
   rw[seqIndex_of h0 h4] at h1;exact Option.some.inj h1
  exact PySem.W.ki_setAt ho h0 (by omega) (by rw[ai,<-hl];exact h4) (by rw[hk];exact⟨_,I',q⟩)
 ·have hk:(k+(its.toArray.size:Int)).toNat=j:=by
   rw[seqIndex_neg (by omega) h3] at h1;rw[ai,<-hl];exact Option.some.inj h1
  exact PySem.W.ki_setBack ho (by omega) (by rw[ai,<-hl];exact h3) (by omega) (by rw[hk];exact⟨_,I',q⟩)
theorem RN(lo hi:Option Int)(n:Nat):(sliceBounds lo hi none n).1=((HT.dn n 0 lo:Nat):Int)/\(sliceBounds lo hi none n).2.1=((HT.dn n n hi:Nat):Int)/\(sliceBounds lo hi none n).2.2=1:=by
 refine⟨?_,?_,rfl⟩
 ·cases lo with
  | none=>simp[sliceBounds,HT.dn]
  | some i=>
   simp only[sliceBounds,HT.dn,Option.getD_none,show(1:Int)>0 by decide,if_true];by_cases h:i<0
   ·simp only[h,if_true]<;>omega
   ·simp only[h,if_false]<;>omega
 ·cases hi with
  | none=>simp[sliceBounds,HT.dn]
  | some i=>
   simp only[sliceBounds,HT.dn,Option.getD_none,show(1:Int)>0 by decide,if_true];by_cases h:i<0
   ·simp only[h,if_true]<;>omega
   ·simp only[h,if_false]<;>omega
theorem Rz(its:List Value)(lo hi:Option Int):slicePick its.toArray lo hi none=((its.drop (HT.dn its.length 0 lo)).take (HT.dn its.length its.length hi-HT.dn its.length 0 lo)).toArray:=by
 obtain⟨h1,h2,h3⟩:=RN lo hi its.toArray.size;unfold slicePick;rw[h1,h2,h3];simp only[sliceRange_one,pick_run,ai]<;>rfl
def Lh(K:PySem.W.Frag):V->Option Int->Option Int->Hp->VK->Prop:=fun x lo hi H Q=>∃a xs,x=.ref a/\eI K H a xs/\∀p,H p=none->Q (.ref p) (upd H p (.lst (qR xs lo hi)))
theorem sm:ug X (Lh X.K):=by
 intro pins s σ H x v vl vu lo hi sl Q I rx hs pl pu h;obtain⟨a,xs,rfl,hx,q⟩:=h;cases rx;obtain⟨its,r,ht,hz⟩:=I.list hx;have hlen:=r.length;refine⟨"list",_,slot_list_getitem.lookup,ht.isList.typeIs,?_⟩;refine wpAny_getItem_list_slice ht.isList hs pl pu .none (by simp) ?_ (by rw[ai]<;>omega);rw[Rz,<-hlen];refine⟨.ref s.heap.objs.size,_,I.laid (t':=s.toks) (o:=.lst (qR xs lo hi)) (fun b ob q=>av _ q) (az _) ?_,rfl,q _ (I.cz.fresh (az _))⟩;exact⟨aY (Jw xs lo hi) hz,_,0,(r.drop (HT.dn xs.length 0 lo)).take (HT.dn xs.length xs.length hi-HT.dn xs.length 0 lo),aP _ rfl⟩
noncomputable def Ab:V->Bool
 | .non=>true
 | .bl _=>true
 | .int _=>true
 | .str _=>true
 | _=>false
noncomputable def Fz:V->V->Bool
 | .non,.non=>true
 | .bl a,.bl b=>a==b
 | .bl a,.int b=>(if a then 1 else 0)==b
 | .int a,.bl b=>a==(if b then 1 else 0)
 | .int a,.int b=>a==b
 | .str a,.str b=>a==b
 | _,_=>false
theorem GP{A:Around}{s:Shared}{y x:V}{u v:Value}(ry:RelV y u)(rx:RelV x v)(fy:Ab y=true)(fx:Ab x=true):SeqAt.EqAt A s u v (Fz y x):=by
 cases y with
 | non=>
  cases ry;cases x with
  | non=>cases rx;exact SeqAt.EqAt.same _
  | bl b=>cases rx;exact SeqAt.EqAt.none_bool b
  | int b=>obtain⟨t,rfl⟩:=rx;exact SeqAt.EqAt.none_int b t
  | str b=>obtain⟨t,rfl⟩:=rx;exact SeqAt.EqAt.none_str b t
  | _=>exact absurd (show false=true from fx) aG
 | bl a=>
  cases ry;cases x with
  | non=>cases rx;exact SeqAt.EqAt.bool_none a
  | bl b=>cases rx;exact SeqAt.EqAt.bool_bool a b
  | int b=>obtain⟨t,rfl⟩:=rx;exact SeqAt.EqAt.bool_int a b t
  | str b=>obtain⟨t,rfl⟩:=rx;exact SeqAt.EqAt.bool_str a b t
  | _=>exact absurd (show false=true from fx) aG
 | int a=>
  obtain⟨t',rfl⟩:=ry;cases x with
  | non=>cases rx;exact SeqAt.EqAt.int_none a t'
  | bl b=>cases rx;exact SeqAt.EqAt.int_bool a t' b
  | int b=>obtain⟨t,rfl⟩:=rx;exact SeqAt.EqAt.int_int a t' b t
  | str b=>obtain⟨t,rfl⟩:=rx;exact SeqAt.EqAt.int_str a t' b t
  | _=>exact absurd (show false=true from fx) aG
 | str a=>
  obtain⟨t',rfl⟩:=ry;cases x with
  | non=>cases rx;exact SeqAt.EqAt.str_none a t'
  | bl b=>cases rx;exact SeqAt.EqAt.str_bool a t' b
  | int b=>obtain⟨t,rfl⟩:=rx;exact SeqAt.EqAt.str_int a t' b t
  | str b=>obtain⟨t,rfl⟩:=rx;exact SeqAt.EqAt.str_str a t' b t
  | _=>exact absurd (show false=true from fx) aG
 | _=>exact absurd (show false=true from fy) aG
theorem lB:gf X (compareOp .NotIn) (fun x y H Q=>∃i j,x=.str i/\y=.str j/\Q (.bl (!(!(Builtin.Str.occurrences j i 0 j.length 1).isEmpty))) H):=by
 intro pins s σ H x y v u Q I rx ry h;obtain⟨i,j,rfl,rfl,q⟩:=h;obtain⟨t,rfl⟩:=rx;obtain⟨t',rfl⟩:=ry;exact notIn_str ⟨.bl _,H,I,rfl,q⟩
theorem jb:df X (.builtin "len") (fun xs H Q=>∃p ys,xs=[.ref p]/\(eI X.K H p ys\/fW X.K H p ys)/\Q (.int ys.length) H):=by
 intro pins s σ H xs us Q I r h;obtain⟨p,ys,rfl,hq,q⟩:=h;obtain⟨u,rfl,rx⟩:=lh r;cases rx;have hn:=vO;rcases hq with hq | hq
 ·obtain⟨its,r',pl,hz⟩:=I.list hq;have hlen:=r'.length;exact Calls.call_len_list pl.isList (by simp only[ai]<;>omega) ⟨.int ys.length,H,I.tok _,⟨s.toks+1,by rw[ai,hlen]⟩,q⟩
 ·obtain⟨its,r',pl,hz⟩:=I.tuple hq;have hlen:=r'.length;exact len_tuple pl (by simp only[ai]<;>omega) ⟨.int ys.length,H,I.tok _,⟨s.toks+1,by rw[ai,hlen]⟩,q⟩
theorem RM:df X (.builtin "len") (fun xs H Q=>∃z,xs=[.str z]/\z.length<=sizeLine/\Q (.int z.length) H):=by
 intro pins s σ H xs us Q I r h;obtain⟨z,rfl,hz,q⟩:=h;obtain⟨u,rfl,t,rfl⟩:=lh r;have hn:=vO;exact len_str (by omega) ⟨.int z.length,H,I.tok _,⟨_,rfl⟩,q⟩
theorem df.or{f:Value}{r r':List V->Hp->VK->Prop}(h:df X f r)(h':df X f r'):df X f (fun xs H Q=>r xs H Q\/r' xs H Q):=by
 intro pins s σ H xs us Q I rs q;rcases q with q | q
 ·exact h pins s σ H xs us Q I rs q
 ·exact h' pins s σ H xs us Q I rs q
theorem JC:df X (.type "list") (fun xs H Q=>∃p ys,xs=[.ref p]/\(eI X.K H p ys\/fW X.K H p ys)/\∀l,H l=none->Q (.ref l) (upd H l (.lst ys))):=by
 intro pins s σ H xs us Q I r h;obtain⟨p,ys,rfl,hq,q⟩:=h;obtain⟨u,rfl,rx⟩:=lh r;cases rx;have fin:∀(its:List Value),Vals ys its->ys.length<=sizeLine->∀(h':Heap) (c':Nat),(∀b o',s.heap.get? b=some o'->h'.get? b=some o')->
   h'.get? s.heap.objs.size=some { cls:=.type "list",dict:=none,data:=.seq its.toArray c',slots:=#[] }->EP X pins σ Q (.ref s.heap.objs.size) { s with heap:=h' }:=fun its r' hz h' c' kp e=>
  ⟨.ref s.heap.objs.size,_,I.laid (t':=s.toks) kp (az _) (show dG X.prog X.w _ h' _ (.lst ys) from⟨hz,its,c',r',e⟩),rfl,q _ (I.cz.fresh (az _))⟩
 rcases hq with hq | hq
 ·obtain⟨its,r',pl,hz⟩:=I.list hq;have hlen:=r'.length;obtain⟨o,ho,hc,n,hd⟩:=pl.isList;exact call_list_seq p (.inl rfl) ho hc hd (fun h' c' kp e=>fin its r' hz h' c' kp e) (by simp only[ai]<;>omega)
 ·obtain⟨its,r',pl,hz⟩:=I.tuple hq;have hlen:=r'.length;obtain⟨o,ho,hc,n,hd⟩:=pl;exact call_list_seq p (.inr rfl) ho hc hd (fun h' c' kp e=>fin its r' hz h' c' kp e) (by simp only[ai]<;>omega)
def Bn(K:PySem.W.Frag)(T:String)(x:V)(H:Hp):Prop:=match x with
 | .str _=>T="str"
 | .int _=>T="int"
 | .ref p=>(T="list"/\∃xs,eI K H p xs)\/(T="tuple"/\∃o,K.lookup p=some o/\o.cls=.type "tuple"/\o.dict=none)\/
   (T="dict"/\((∃cq ep,H p=some (.dK cq ep))\/∃cq bs,H p=some (.dT cq bs)))\/(T="set"/\∃S n,H p=some (.set S n))
 | _=>False
theorem GO{pins:List (Addr×Obj)}{σ:St}{H:Hp}{s:Shared}{T:String}{x:V}{v:Value}(I:Inv X pins σ H s)(r:RelV x v)(ty:Bn X.K T x H) :
  s.TypeIs v T/\∀a,v=.ref a->∃ob,s.heap.get? a=some ob/\ob.dict=none:=by
 cases x with
 | str z=>
  obtain⟨t,rfl⟩:=r;cases (show T="str" from ty);exact⟨typeIs_str s z t,fun _ e=>nomatch e⟩
 | int i=>
  obtain⟨t,rfl⟩:=r;cases (show T="int" from ty);exact⟨typeIs_int s i t,fun _ e=>nomatch e⟩
 | ref p=>
  cases r;rcases ty with⟨rfl,xs,hq⟩ | ⟨rfl,o,hk,hc,hd⟩ | ⟨rfl,hk⟩ | ⟨rfl,S,n,hk⟩
  ·obtain⟨its,_,pl,_⟩:=I.list hq;refine⟨pl.isList.typeIs,fun a e=>?_⟩;cases e;obtain⟨o,n,e,c,hd,_⟩:=pl;exact⟨o,e,hd⟩
  ·refine⟨⟨o,I.mT p o hk,hc⟩,fun a e=>?_⟩;cases e;exact⟨o,I.mT _ o hk,hd⟩
  ·have z:∃o,s.heap.get? p=some o/\o.ExactDict:=by
    rcases hk with⟨cq,ep,hk⟩ | ⟨cq,bs,hk⟩
    ·obtain⟨_,_,_,_,o,_,e,ex,_⟩:=I.cz p _ hk;exact⟨o,e,ex⟩
    ·obtain⟨_,_,_,_,_,o,_,_,e,ex,_⟩:=I.cz p _ hk;exact⟨o,e,ex⟩
   obtain⟨o,e,ex⟩:=z;refine⟨⟨o,e,ex.1⟩,fun a e2=>?_⟩;cases e2;exact⟨o,e,ex.2.1⟩
  ·obtain⟨o,_,_,_,e,ex,_⟩:=I.cz p _ hk;refine⟨⟨o,e,ex.1⟩,fun a e2=>?_⟩;cases e2;exact⟨o,e,ex.2.1⟩
 | _=>exact False.elim ty
def FX(K:PySem.W.Frag)(T:String)(r:V->List V->Hp->VK->Prop)(to:TE):TE:=fun σ H Q=>to σ H fun x H1=>Bn K T x H1/\r x [] H1 Q
def yL(K:PySem.W.Frag)(T:String)(r:V->List V->Hp->VK->Prop)(to:TE)(t:TA):TE:=fun σ H Q=>to σ H fun x H1=>Bn K T x H1/\t σ H1 fun xs H2=>r x xs H2 Q
variable {o e:Expr} {es:List Expr} {to:TE} {t:TA} {name:Str} {apos fT:Pos} {T id:String} {r:V->List V->Hp->VK->Prop}
theorem Mw(pa:PlainAttrs T)(slot:Slot T name id)(ze:typeOf (.builtin id)=pure (.type "method_descriptor"))(hm:FI X id r)(ho:PE X o to)
  (j5:attributeBase o name X.env (eval o X.env)=eval o X.env:=by rfl) (mx:(apos.endLine==fT.line)=true:=by rfl):PE X (.Call (.Attribute o name apos) [] [] fT) (FX X.K T r to):=by
 intro pins s σ H Q I h;refine wpAny_Call_method0_late j5 mx (cJ (ho pins s σ H _ I h) fun v s1 bR=>?_);obtain⟨x,H1,I1,r1,ty,q1⟩:=bR;obtain⟨h1,h2⟩:=GO I1 r1 ty;exact⟨T,id,pa,slot,ze,h1,h2,Calls.callWith_builtin rfl (PySem.evalArgs_none (hm pins s1 σ H1 x [] v [] Q I1 r1 .nil q1))⟩
theorem xj(pa:PlainAttrs T)(slot:Slot T name id)(ze:typeOf (.builtin id)=pure (.type "method_descriptor"))(hm:FI X id r)(ho:PE X o to)(ha:PA X (e::es) t)
  (j5:attributeBase o name X.env (eval o X.env)=eval o X.env:=by rfl)
  (vi:((backTo fT (starEach (e::es) X.env)).all (fun x=>!x.1)&&(backToKw fT (keywordEach [] X.env)).all (fun x=>x.1.isSome)
   && decide ((e::es).length+([]:List Keyword).length+(if ([]:List Keyword).isEmpty then 0 else 1)<30))=true:=by rfl)
  (mx:(apos.endLine==fT.line)=true:=by rfl) (hs:starEach (e::es) X.env=(false,eval e X.env)::starEach es X.env:=by rfl) (nk:(backTo fT (starEach es X.env)).any (·.1)=false:=by rfl) :
  PE X (.Call (.Attribute o name apos) (e::es) [] fT) (yL X.K T r to t):=by
 intro pins s σ H Q I h;refine wpAny_Call_method_late j5 vi mx rfl (cJ (ho pins s σ H _ I h) fun v s1 bR=>?_);obtain⟨x,H1,I1,r1,ty,q1⟩:=bR;obtain⟨h1,h2⟩:=GO I1 r1 ty;refine⟨T,id,pa,slot,ze,h1,h2,?_⟩;have hA:=ha fT pins s1 σ H1 _ I1 q1;rw[hs] at hA ⊢;refine Calls.callWith_builtin (by show(false||(backTo fT (starEach es X.env)).any (·.1))=false;rw[nk]<;>rfl) (Calls.evalArgs_plain ?_);exact cJ hA fun us s2 bR=>by obtain⟨vs,H2,I2,r2,q2⟩:=bR;exact hm pins s2 σ H2 x vs v us Q I2 r1 r2 q2
end
end L2
namespace L2
open PySem PySem.Spec PyProof.Rows
def FJ(X:Cx)(id:String)(r:V->List V->Hp->VK->Prop):Prop:=
 ∀(pins:List (Addr×Obj)) (s:Shared) (σ:St) (H:Hp) (x:V) (xs:List V) (v:Value) (us:List Value) (Q:VK),Inv X pins σ H s->RelV x v->Vals xs us->r x xs H Q->
  wpAny (model X.prog X.w) X.A (call (.builtin id) (v::us)) (EP X pins σ Q) X.xe s
theorem Vals.one{x:V}{us:List Value}(h:Vals [x] us):∃u,us=[u]/\RelV x u:=by
 cases h with
 | cons r t=>cases t;exact⟨_,rfl,r⟩
theorem Vals.zero:∀{us:List Value},Vals [] us->us=[]
 | _,.nil=>rfl
theorem Vals.dropLast{xs:List V}{us:List Value}(h:Vals xs us):Vals xs.dropLast us.dropLast:=by
 induction h with
 | nil=>exact .nil
 | cons r t ih=>
  cases t with
  | nil=>exact .nil
  | cons q t'=>exact .cons r ih
theorem Vals.rep{xs:List V}{us:List Value}(h:Vals xs us):∀k:Nat,Vals (List.replicate k xs).flatten (List.replicate k us).flatten
 | 0=>.nil
 | k+1=>by
  rw[List.replicate_succ,List.replicate_succ,List.flatten_cons,List.flatten_cons];exact Vals.append h (Vals.rep h k)
theorem Q4{α:Type}(l:List α):l.eraseIdx (l.length-1)=l.dropLast:=by
 induction l with
 | nil=>rfl
 | cons a r ih=>
  cases r with
  | nil=>rfl
  | cons b r=>
   have e:(a::b::r).length-1=((b::r).length-1)+1:=by
    have h1:(a::b::r).length=r.length+2:=rfl;have h2:(b::r).length=r.length+1:=rfl;omega
   rw[e,List.eraseIdx_cons_succ,ih];all_goals rfl
theorem Jc(its:List Value):∀(k:Nat) (acc:List Value),
  List.foldl (fun x1 x2=>x1++x2) acc.toArray (List.replicate k its.toArray)=(acc++(List.replicate k its).flatten).toArray
 | 0,acc=>by simp
 | k+1,acc=>by
  have e:acc.toArray++its.toArray=(acc++its).toArray:=by simp
  have e2:(acc++its)++(List.replicate k its).flatten=acc++(List.replicate (k+1) its).flatten:=by
   rw[List.replicate_succ,List.flatten_cons,List.append_assoc]
  rw[<-e2,<-Jc its k (acc++its),<-e,List.replicate_succ,List.foldl_cons]
section
variable {X:Cx} {pins:List (Addr×Obj)} {σ:St} {H:Hp} {s:Shared} {l b:Addr} {xs ys zs:List V}
theorem Inv.uU{its its':List Value}{n:Nat}{f:Array Value->Array Value}{t':Nat}(I:Inv X pins σ H s)(hH:H l=some (.lst xs))
  (e:s.heap.get? l=some { cls:=.type "list",data:=.seq its.toArray n }) (hf:f its.toArray=its'.toArray) (hv:Vals ys its') (hz:ys.length<=sizeLine) :
  Inv X pins σ (upd H l (.lst ys)) { s with heap:=s.heap.update l (Obj.mapSeq f),toks:=t' }:=by
 have q:=PySem.IsL.update e f;rw[hf] at q;refine I.write (x:=l) (e:=l) (by rw[hH];exact trivial) (.inl rfl) (fun b' u hb hu=>(Heap.get?_update_other s.heap (Obj.mapSeq f) (Ne.symm hb)).trans hu) ⟨_,q⟩ ?_;exact⟨hz,its',_,hv,q⟩
theorem Inv.sy{its:List Value}{t':Nat}(I:Inv X pins σ H s)(hv:Vals ys its)(hz:ys.length<=sizeLine) :
  Inv X pins σ (upd H s.heap.objs.size (.lst ys)) { s with heap:=s.heap.push { cls:=.type "list",data:=.seq its.toArray },toks:=t' }:=
 I.laid (fun _ _ q=>av _ q) (az _) ⟨hz,its,0,hv,aP _ rfl⟩
theorem Inv.fresh(I:Inv X pins σ H s):H s.heap.objs.size=none:=I.cz.fresh (az _)
theorem Inv.qz(I:Inv X pins σ H s)(hH:H l=some (.lst xs)):xs.length<=sizeLine/\∃(its:List Value) (n:Nat),Vals xs its/\xs.length=its.length/\s.heap.get? l=some { cls:=.type "list",data:=.seq its.toArray n }:=by
 obtain⟨z,its,n,r,e⟩:=I.cz l _ hH;exact⟨z,its,n,r,r.length,e⟩
theorem Io{n:Nat}(h:n<=sizeLine):Builtin.List.listTooLong n=false:=by
 unfold Builtin.List.listTooLong;exact aW (by omega)
end
section
variable {X:Cx}
def AF:V->List V->Hp->VK->Prop:=fun x vs H Q=>∃l xs y,x=.ref l/\vs=[y]/\H l=some (.lst xs)/\xs.length<sizeLine/\Q .non (upd H l (.lst (xs++[y])))
theorem A7:FJ X "list.append" AF:=by
 intro pins s σ H x vs v us Q I rx rv h;obtain⟨l,xs,y,rfl,rfl,hH,hz,q⟩:=h;cases rx;obtain⟨u,rfl,ru⟩:=rv.one;obtain⟨z,its,n,r,hl,e⟩:=I.qz hH;refine call_meets F.slot_list_append ⟨_,e,rfl⟩ F.entry_list_append (F.args_list_append_2 _ _) (PySem.list_append l its.toArray n u (by rw[ai];omega)) ⟨e,?_⟩;refine⟨.non,_,I.uU (its':=its++[u]) hH e (by simp) (r.append (.cons ru .nil)) ?_,rfl,q⟩;rw[aw,List.length_singleton];omega
def Ho:V->List V->Hp->VK->Prop:=fun x vs H Q=>∃l b xs zs,x=.ref l/\vs=[.ref b]/\H l=some (.lst xs)/\H b=some (.lst zs)/\xs.length+zs.length<=sizeLine/\Q .non (upd H l (.lst (xs++zs)))
theorem P8:FJ X "list.extend" Ho:=by
 intro pins s σ H x vs v us Q I rx rv h;obtain⟨l,b,xs,zs,rfl,rfl,hH,hB,hz,q⟩:=h;cases rx;obtain⟨u,rfl,ru⟩:=rv.one;cases ru;obtain⟨z,its,n,r,hl,e⟩:=I.qz hH;obtain⟨z2,kK,n2,r2,vf,e2⟩:=I.qz hB;have kL:its.toArray.size+kK.toArray.size<=sizeLine:=by rw[ai,ai];omega
 have qB:¬(!its.toArray.isEmpty&&Builtin.List.listTooLong (its.toArray.size+kK.toArray.size))=true:=by
  rw[Io kL,Bool.and_false];exact aG
 refine call_meets F.slot_list_extend ⟨_,e,rfl⟩ F.entry_list_extend (F.args_list_extend_2 _ _)
  (AutoSeq1.list_extend_list_list_0 l its.toArray n b kK.toArray n2 qB (by rw[ai];omega) (by omega)) ⟨e,e2,?_⟩
 refine⟨.non,_,I.uU (its':=its++kK) hH e (by simp) (r.append r2) ?_,rfl,q⟩;rw[aw];omega
def FW:V->List V->Hp->VK->Prop:=fun x vs H Q=>∃l xs y,x=.ref l/\vs=[]/\H l=some (.lst xs)/\xs[xs.length-1]?=some y/\Q y (upd H l (.lst xs.dropLast))
theorem Mv:FJ X "list.pop" FW:=by
 intro pins s σ H x vs v us Q I rx rv h;obtain⟨l,xs,y,rfl,rfl,hH,hy,q⟩:=h;cases rx;have UO:=rv.zero;subst UO;obtain⟨z,its,n,r,hl,e⟩:=I.qz hH;obtain⟨u,hu,ru⟩:=r.get hy;have By:its.toArray[its.toArray.size-1]?=some u:=by
  show its.toArray[its.length-1]?=some u;rw[<-Array.getElem?_toList,<-hl];exact hu
 refine call_meets F.slot_list_pop ⟨_,e,rfl⟩ F.entry_list_pop (F.args_list_pop_1 _) (MeetsSeq.list_pop_last l its.toArray n u By (by rw[ai];omega)) ⟨e,?_⟩;refine⟨y,_,I.uU (its':=its.dropLast) hH e ?_ r.dropLast ?_,ru,q⟩
 ·show its.toArray.eraseIdxIfInBounds (its.toArray.size-1)=its.dropLast.toArray;rw[ai,List.eraseIdxIfInBounds_toArray,Q4]
 ·rw[List.length_dropLast];omega
def LI:R2:=fun x y H Q=>∃l k xs,x=.ref l/\y=.int k/\H l=some (.lst xs)/\-(2 ^ 63)<=k/\k<2 ^ 63/\xs.length*k.toNat<=sizeLine/\
 ∀p,H p=none->Q (.ref p) (upd H p (.lst (List.replicate k.toNat xs).flatten))
theorem N4{α:Type}(xs:List α)(k:Nat):(List.replicate k xs).flatten.length=k*xs.length:=by
 induction k with
 | zero=>simp
 | succ k ih=>rw[List.replicate_succ,List.flatten_cons,aw,ih,Nat.succ_mul,Nat.add_comm]
theorem Mu:gf X (binaryOp .Mult) LI:=by
 intro pins s σ H x y v u Q I rx ry h;obtain⟨l,k,xs,rfl,rfl,hH,h1,h2,hz,q⟩:=h;cases rx;obtain⟨t,rfl⟩:=ry;obtain⟨z,its,n,r,hl,e⟩:=I.qz hH;have hlen:its.toArray.size*k.toNat<=sizeLine:=by rw[ai,<-hl];exact hz
 have Fn:¬its.toArray.size*k.toNat>(2 ^ 63-1)/8:=by
  have:(sizeLine:Nat)<=(2 ^ 63-1)/8:=by decide
  omega
 have Fb:¬(!Builtin.List.listFitsIndex k)=true:=by
  rw[fitsIndex_both h1 h2];exact aG
 have qB:¬Builtin.List.listTooLong (its.toArray.size*k.toNat)=true:=by
  rw[Io hlen];exact aG
 have ET:List.foldl (fun x1 x2=>x1++x2) #[] (List.replicate (if its.toArray.isEmpty=true then 0 else k.toNat) its.toArray)=(List.replicate k.toNat its).flatten.toArray:=by
  have f0:∀m:Nat,List.foldl (fun x1 x2=>x1++x2) #[] (List.replicate m its.toArray)=(List.replicate m its).flatten.toArray:=fun m=>by
   have:=Jc its m [];rw[List.nil_append] at this;exact this
  rw[f0];cases its with
  | nil=>simp
  | cons a r'=>rw[if_neg (by simp)]
 refine wpAny_binaryOp_repeat_ref (T:="list") (U:="int") (by decide) ⟨_,e,rfl⟩ (fun s'=>typeIs_int s' k t) noFill_list_mul F.fills_int_mul F.slot_int_rmul repeat_list F.slot_int_index.lookup
  (call_meets F.slot_int_rmul (typeIs_int s k t) F.entry_int_rmul (F.args_int_rmul_2 _ _) (int___rmul___int_list k t l its.toArray n)
   ⟨e,rfl,⟨_,e,rfl⟩,call_meets F.slot_list_mul ⟨_,e,rfl⟩ F.entry_list_mul (F.args_list_mul_2 _ _) (AutoListH.list___mul___list_int_3 l its.toArray n k t Fb Fn qB) ⟨e,?_⟩⟩)
 rw[ET];exact⟨.ref _,_,I.sy (t':=s.toks) (r.rep k.toNat) (by rw[N4,Nat.mul_comm];exact hz),rfl,q _ I.fresh⟩
end
section
variable {prog:Program} {w:World} {A:Around} {E:Value->Shared->Prop} {s:Shared}
end
end L2
namespace KS
open PySem PySem.W PySem.Calls PyProof.Rows
theorem SM{P:Params}{h:Heap}:∀(ns:List Int) (vs:List Value),WellAll P h vs (ns.map WData.int)->IntsAre vs ns:=by
 intro ns;induction ns with
 | nil=>
  intro vs w;rw[bg] at w;cases w;exact .nil
 | cons n ns ih=>
  intro vs w;rw[aj] at w;cases w with
  | cons a b=>
   cases a;exact .cons _ _ (ih _ b)
theorem P7{l:OpenLaw}{n:Nat}(hn:l.most=some n){P:Params}{h:Heap}{args:List WData}{vals:List Value}
  (sC:l.row.toRowW.claim.pre args=true) (wD:WellAll P h vals args) :
  ∃a vs ns,vals=[Value.ref a]/\args=[WData.list (ns.map WData.int)]/\h.get? a=some { cls:=.type "list",data:=.seq vs.toArray }/\IntsAre vs ns/\ns.length<=n:=by
 have UU:WShape.hasAll [] args [.list .int]=true:=(pre_splitW sC).1;have hc:l.pre.holds [] { args:=args }=true:=(pre_splitW sC).2;obtain⟨d,r,rfl,h1,h2⟩:=hasAllW_cons UU;obtain rfl:=hasAllW_nil h2;obtain⟨xs,rfl,h3⟩:=hasW_list h1;obtain⟨ns,rfl⟩:=items_int h3;have hlen:ns.length<=n:=by
  unfold OpenLaw.pre at hc;have h4:(WTm.not (.lt (.lit (.int (n:Int))) (.len (.arg 0)))).holds [] { args:=[.list (ns.map .int)] }=true:=by
   have h4:=(holds_andW hc).1;rw[hn] at h4;exact h4
  have h5:=condW_of h4 (w_not (w_lt w_lit (w_len_list (w_arg rfl))));rw[aa] at h5;refine Nat.le_of_not_lt fun q=>?_
  have q':(n:Int)<((ns.length:Nat):Int):=by omega
  first
   | (rw[a9 q'] at h5;exact absurd h5 (by decide))
   | (simp at h5;omega)
 cases wD with
 | cons w1 w2=>
  cases w2;cases w1 with
  | list ho Fp=>exact⟨_,_,ns,rfl,rfl,ho,SM ns _ Fp,hlen⟩
theorem P6(l:OpenLaw)(args:List WData):l.row.toRowW.claim.post args (.bool true) args=true:=
 postW_of (r:=l.row.toRowW) (X:=(true==true))
  (show WShape.has [] (.bool true) .bool=true by first | rfl | decide | simp[WShape.has,WShape.arms,WShape.armsAll])
  (show(WTm.eq .res (.lit (.bool true))).value [] { args:=args,res:=some (.bool true),after:=args }=some (.bool (true==true)) from w_eq_bool (w_res rfl) w_lit) rfl
theorem mB{l:OpenLaw}{n:Nat}{q:Program}{loose:List Str}{XP:(Str->Option Value)->Heap->Prop}{YP:World->Heap->Prop}{d:DefRec}
  (hn:l.most=some n) (Fi:d.params.defaults=[])
  (call:∀(w:World) (cK cc:Shared) (mg mb:Str->Option Value) (fa:Addr) (o:Obj) (pm cd doc:Value) (a:Addr) (vs:List Value) (ns:List Int),
   Ground q loose [] XP w cK mg mb cc.heap->YP w cc.heap->
   cc.heap.get? fa=some o->o.data=.func (docDef d.name d.params d.body d.scope pm cd doc)->cc.heap.CodeRec cd d.name->mg d.name=some (.ref fa)->
   cc.heap.get? a=some { cls:=.type "list",data:=.seq vs.toArray }->IntsAre vs ns->ns.length<=n->cc.gens=#[]->
   codeAny (model l.prog w) callerA (.call (.ref fa) ⟨[.ref a],[]⟩) (fun r s'=>r=.ok (.ret (.bool true))/\OldK cc.heap s'.heap/\s'.os=cc.os/\AllBare s'.gens) cc) :
  WalkO q loose XP YP l.row.toRowW d [] (fun f vs=>PySem.call f vs):=by
 intro w cK cc mg mb G Y fa o pm cd doc dV kV ho hd fS hD sF hg args vals as sC U9 Wt wD Wv;obtain rfl:dV=.none:=Dflts.none hD Fi;obtain rfl:kV=.none:=Dflts.noKw hD;obtain⟨a,vs,ns,rfl,rfl,sE,hints,hlen⟩:=P7 hn sC wD;refine enter_call (codeAny_mono (call w cK cc mg mb fa o pm cd doc a vs ns G Y ho (fd_plain hd) fS sF sE hints hlen hg) fun r s' hq=>?_);obtain⟨rfl,h2,h3,h4⟩:=hq;exact⟨.inl ⟨.bool true,.bool true,[],rfl,fun _=>rfl,.bool true,P6 l _,fun _=>⟨List.Pairwise.nil,fun _ hm=>(nomatch hm)⟩⟩,h2,h3,h4⟩
end KS
namespace L2
open PySem PySem.Spec PyProof.Rows
theorem Dw:∀{vs:List Value} {ns:List Int},IntsAre vs ns->Vals (ns.map V.int) vs
 | _,_,.nil=>.nil
 | _,_,.cons n t h=>.cons ⟨t,rfl⟩ (Dw h)
def FV(H:Hp):Prop:=∀b,H b=none\/∃o xs,H b=some (.ja o (.lst xs))
theorem OK{P:Program}{w:World}{K:PySem.W.Frag}{mg mb:Str->Option Value}{CX:rH}{k:Nat}{fa a:Addr}{fd:FuncData}{x:Str}{sp:Sp}{cc:Shared}{vs:List Value}{ns:List Int}
  (KX:K.In cc.heap) (nY:cc.heap.Ns mainGlobals mg) (hb:cc.heap.Ns builtinsNs mb) (Vq:∀x:Str,x≠"__name__"->mb x=bootBuiltins x) (EX:cc.heap.NoLimit) (hg:cc.gens=#[])
  (ha:cc.heap.get? a=some { cls:=.type "list",data:=.seq vs.toArray }) (hi:IntsAre vs ns) (hl:ns.length<=sizeLine) (hr:cV k callerA)
  (F:∀base:Heap,K.In base->base.Ns mainGlobals mg->g8 P w K mg base CX k fa fd [x] sp) (zx:∀(s:Shared) (u:Value),BindsTo s fd ⟨[u],[]⟩ [(x,u)])
  (wF:∀H:Hp,FV H->eI K H a (ns.map V.int)->sp [.ref a] H (fun v _=>v=.bl true) fun _ _ _=>False)
  (VC:∀H e s',CX [] H cc (fun _ _ _=>False) e s'->False) :
  codeAny (model P w) callerA (.call (.ref fa) ⟨[.ref a],[]⟩) (fun r s'=>r=.ok (.ret (.bool true))/\OldK cc.heap s'.heap/\s'.os=cc.os/\AllBare s'.gens) cc:=by
 have rv:=Dw hi;have Es:=hi.length
 -- from an abstract heap in JG nothing but pF qr may be tracked
 have core:∀H:Hp,FV H->eI K H a (ns.map V.int)->jh P w H cc.heap->(∀b,H b≠none->b=a)->(H a≠none->K.lookup a=none)->
   codeAny (model P w) callerA (.call (.ref fa) ⟨[.ref a],[]⟩) (fun r s'=>r=.ok (.ret (.bool true))/\OldK cc.heap s'.heap/\s'.os=cc.os/\AllBare s'.gens) cc:=by
  intro H hO hS cz hA hK;have oq:∀{b:Addr} {o:Obj},cc.heap.get? b=some o->H b=none->(rQ cc.heap H).get? b=some o:=fun e n=>P2 e n
  have yX:∀{b:Addr} {o:Obj} {es:Array DictEntry} {ep:Nat},cc.heap.get? b=some o->o.data=.dict es ep->H b=none:=fun{b o es ep} e d=>by
   cases q:H b with
   | none=>rfl
   | some u=>
    have e':b=a:=hA b (by rw[q];simp);subst e';rw[ha] at e;cases e;have d':Data.seq vs.toArray _=Data.dict es ep:=d;cases d'
  have Bv:∀{b:Addr} {m:Str->Option Value},cc.heap.Ns b m->(rQ cc.heap H).Ns b m:=fun{b m} ⟨o,es,ep,e,d,r⟩=>⟨o,es,ep,oq e (yX e d),d,r⟩
  have Kv:K.In (rQ cc.heap H):=fun b o e=>oq (KX b o e) (by
   cases q:H b with
   | none=>rfl
   | some u=>
    have e':b=a:=hA b (by rw[q];simp);subst e'
    rw[hK (by rw[q];simp)] at e;cases e)
  have hM:Mod K mg (rQ cc.heap H):=⟨Kv,Bv nY,⟨mb,Bv hb,Vq⟩,let⟨mc,h1,h2⟩:=EX;⟨mc,Bv h1,h2⟩⟩
  have e0:nD P w K mg (rQ cc.heap H) callerA [] cc H:=⟨rfl,hM,fun b o e=>Om e,Nat.le_of_eq (Qj _ _),trivial,fun b hb=>absurd (show b∈([]:List Addr) from hb) (by simp),cz,.of_eq hg⟩
  refine codeAny_mono ((F _ Kv (Bv nY)).run callerA [] cc H ⟨[.ref a],[]⟩ [.ref a] [.ref a] _ _ hr e0 (zx cc (.ref a)) (.cons rfl .nil) (wF H hO hS)) fun r s' h=>?_
  cases r with
  | error e=>exact(VC H e s' h).elim
  | ok fl=>
   cases fl with
   | next=>exact False.elim h
   | brk=>exact False.elim h
   | cont=>exact False.elim h
   | ret u=>
    obtain⟨v,H',os,bare,un,EN,r',q⟩:=h;have q':v=.bl true:=q;subst q';obtain rfl:u=Value.bool true:=r';refine⟨rfl,OldK.of_keep fun b o e=>?_,os,bare⟩;cases q:H b with
    | none=>exact un.keep b o e q (by intro z;exact absurd (show b∈([]:List Addr) from z) (by simp)) (by simp)
    | some u=>
     rcases hO b with z | ⟨ob,xs,z⟩
     ·rw[q] at z;cases z
     ·have z2:=un.jo b ob _ z;obtain⟨e1,_⟩:=cz b _ z;obtain⟨e2,_⟩:=EN b _ z2;rw[e] at e1;cases e1;exact e2
 cases hk:K.lookup a with
 | some o=>
  -- pF qr is one of pF yZ own objects
  have e:=KX a o hk;rw[ha] at e;cases e;refine core (fun _=>none) (fun _=>.inl rfl) (.inr ⟨_,vs.toArray,_,hk,rfl,rfl,rfl,by rw[ai,Es];exact hl,by simpa using rv⟩) (fun b u z=>by have z':(none:Option HO)=some u:=z;cases z') (fun b z=>absurd rfl z) fun z=>absurd rfl z
 | none=>
  refine core (fun b=>if b=a then some (.ja { cls:=.type "list",data:=.seq vs.toArray } (.lst (ns.map V.int))) else none) (fun b=>?_) (.inl (.inr ⟨{ cls:=.type "list",data:=.seq vs.toArray },if_pos rfl⟩)) (fun b u z=>?_) (fun b z=>?_) fun _=>hk
  ·by_cases hb:b=a
   ·exact .inr ⟨_,_,if_pos hb⟩
   ·exact .inl (if_neg hb)
  ·by_cases hb:b=a
   ·have z':=(if_pos hb).symm.trans z;cases z';subst hb;exact⟨ha,by rw[aa];exact hl,vs,_,rv,ha⟩
   ·have z':=(if_neg hb).symm.trans z;cases z'
  ·by_cases hb:b=a
   ·exact hb
   ·exact absurd (if_neg hb) z
end L2
namespace L2
open PySem PySem.Spec PyProof.Rows
noncomputable abbrev gr{K:PySem.W.Frag}{h:Heap}(_:K.In h):PySem.W.Frag:=K
end L2
namespace L2
open PySem PySem.Spec PyProof.Rows
def N3(s:Stmt)(j:Nat):Stmt:=match s with
 | .ClassDef _ _ _ body _ _ _ _ _ _ _=>body.getD j (.Pass ⟨0,0,0,0⟩)
 | _=>.Pass ⟨0,0,0,0⟩
noncomputable def eR(s:Stmt):Arguments:=match s with
 | .FunctionDef _ a _ _ _ _ _ _ _ _=>a
 | _=>{ posonlyargs:=[],args:=[],vararg:=none,kwonlyargs:=[],kw_defaults:=[],kwarg:=none,defaults:=[] }
noncomputable def cC(s:Stmt):List Stmt:=match s with
 | .FunctionDef _ _ b _ _ _ _ _ _ _=>b
 | _=>[]
noncomputable def bz(s:Stmt):Scope:=match s with
 | .FunctionDef _ _ _ _ _ _ sc _ _ _=>sc
 | _=>{ kind:=.function,names:=[],isGenerator:=false,isCoroutine:=false }
abbrev mV:rH:=fun _ _ _ _ _ _=>False
abbrev E0:XK:=fun _ _ _=>False
theorem Gg{X:Cx}:tK mV X E0:=fun _ _ _ _ _ _ _ h=>h.elim
structure pf (dV:Value) (K:PySem.W.Frag) (x qual:Str) (st:Stmt) (f:Addr) (fd:FuncData):Prop where
 ex:∃(oc:Value) (od:Option Addr) (kV doc pm:Value) (an:Option Addr) (cg ct:Value) (nT:Array (Option Value)),
  fd=PySem.W.fnOf x qual (eR st) (cC st) (bz st) dV kV doc pm an cg ct/\K.lookup f=some ⟨oc,od,.func fd,nT⟩/\PySem.W.codeIn K cg qual=true
 kp:PySem.W.keepIn K (.ref f)=true
noncomputable abbrev B0:=pf .none
section
variable {P:Program} {w:World} {K:PySem.W.Frag} {mg:Str->Option Value} {base:Heap}
theorem pf.ok{dV:Value}{x qual:Str}{st:Stmt}{f:Addr}{fd:FuncData}{N ps:List Str}{k:Nat}{sp:Sp}(F:pf dV K x qual st f fd)(S:bF N ps (bz st))(len:∀vs H Q E,sp vs H Q E->vs.length=ps.length)
  (qF:∀(cg:Value) (A:Around) (outer:List Env) (s:Shared) (H:Hp) (vs:List V) (Q:VK) (E:XK),cV k (A.deeper (envOfC qual (bz st) s.heap.objs.size f cg))->sp vs H Q E->
   ∃t,mD (mR mV P w K mg base N qual (bz st) f cg A outer s H E).sv (cC st) t/\t { nx:=fun _ H'=>Q .non H',rt:=Q } (lg N vs) H):g8 P w K mg base mV (k+1) f fd ps sp:=by
 obtain⟨oc,od,kV,doc,pm,an,cg,ct,nT,rfl,lk,fS⟩:=F.ex;refine Gh lk fS S len fun A outer s H vs Q E hr wF=>?_
 obtain⟨t,h,q⟩:=qF cg A outer s H vs Q E hr wF;exact⟨t,h.sv,q⟩
theorem pf.binds{x qual:Str}{st:Stmt}{f:Addr}{fd:FuncData}{ps:List Str}(F:B0 K x qual st f fd)
  (h:∀(kV doc pm:Value) (an:Option Addr) (cg ct:Value) (us:List Value),us.length=ps.length->bindArgs (PySem.W.fnOf x qual (eR st) (cC st) (bz st) .none kV doc pm an cg ct) ⟨us,[]⟩=pure (ps.zip us)):Binds K fd ps []:=by
 obtain⟨oc,od,kV,doc,pm,an,cg,ct,nT,rfl,lk,fS⟩:=F.ex;exact .all (h kV doc pm an cg ct)
theorem GN{x qual:Str}{st:Stmt}{f:Addr}{oc:Value}{od an:Option Addr}{nT:Array (Option Value)}{dV kV doc pm cg ct:Value}(l:K.lookup f=some ⟨oc,od,.func (PySem.W.fnOf x qual (eR st) (cC st) (bz st) dV kV doc pm an cg ct),nT⟩)
  (c:PySem.W.codeIn K cg qual=true) (k:PySem.W.keepIn K (.ref f)=true):pf dV K x qual st f (PySem.W.fnOf x qual (eR st) (cC st) (bz st) dV kV doc pm an cg ct):=⟨⟨oc,od,kV,doc,pm,an,cg,ct,nT,rfl,l,c⟩,k⟩
end
def bL(H H':Hp):Prop:=∀b o,H b=some o->H' b=some o
theorem bL.refl(H:Hp):bL H H:=fun _ _ h=>h
theorem bL.trans{H H1 H2:Hp}(a:bL H H1)(b:bL H1 H2):bL H H2:=fun c o h=>b c o (a c o h)
theorem bL.free{H H':Hp}(e:bL H H'){l:Addr}(h:H' l=Option.none):H l=Option.none:=by
 cases q:H l with
 | none=>rfl
 | some o=>
  rw[e l o q] at h;cases h
end L2
set_option maxHeartbeats 0
namespace L2
open PySem PySem.Spec PyProof.Rows
def j7(K:PySem.W.Frag)(H:Hp)(a:Addr)(xs:List V):Prop:=
 Rd H a (.lst xs)\/∃(its:Array Value) (n:Nat),K.lookup a=some { cls:=.type "list",data:=.seq its n }/\its.size<=sizeLine/\Vals xs its.toList
theorem j7.of{K:PySem.W.Frag}{H:Hp}{a:Addr}{xs:List V}(h:H a=some (.lst xs)):j7 K H a xs:=.inl (.inl h)
theorem j7.sq{K:PySem.W.Frag}{H:Hp}{a:Addr}{xs:List V}(h:j7 K H a xs):eI K H a xs:=by
 rcases h with h | ⟨its,n,h1,h2,h3⟩
 ·exact .inl h
 ·exact .inr ⟨_,its,n,h1,rfl,rfl,rfl,h2,h3⟩
theorem bL.fw{K:PySem.W.Frag}{H H':Hp}{a:Addr}{xs:List V}(e:bL H H')(h:j7 K H a xs):j7 K H' a xs:=by
 rcases h with(h | ⟨o,h⟩) | h
 ·exact .inl (.inl (e _ _ h))
 ·exact .inl (.inr ⟨o,e _ _ h⟩)
 ·exact .inr h
theorem Inv.fw{X:Cx}{pins:List (Addr×Obj)}{σ:St}{H:Hp}{s:Shared}{a:Addr}{xs:List V}(I:Inv X pins σ H s)(h:j7 X.K H a xs):xs.length<=sizeLine/\∃(its:List Value) (n:Nat),Vals xs its/\s.heap.get? a=some { cls:=.type "list",data:=.seq its.toArray n }:=by
 rcases h with h | ⟨its,n,h1,h2,h3⟩
 ·obtain⟨z,its,n,r,e⟩:=h.ok I.cz;exact⟨z,its,n,r,e⟩
 ·refine⟨by rw[h3.length];simpa using h2,its.toList,n,h3,?_⟩;rw[Array.toArray_toList];exact I.mT a _ h1
noncomputable def jT(cells:List (Str×Addr)):List (Str×NameKind)->List (Str×Addr)->List (Str×Addr)
 | [],acc=>acc
 | (n,k)::r,acc=>jT cells r (if k==.free then(n,(cells.lookup n).getD 0)::acc else acc)
theorem Jl{env:Env}:∀(names:List (Str×NameKind)) (acc:List (Str×Addr)),(∀x∈names,x.2=.free->∃c,env.cells.lookup x.1=some c)->
  (forIn names acc fun(x:Str×NameKind) (r:List (Str×Addr))=>
   (if (x.2==NameKind.free)=true then do let a <-cellOf env x.1;pure (ForInStep.yield ((x.1,a)::r)) else pure (ForInStep.yield r):Sem (ForInStep (List (Str×Addr)))))=pure (jT env.cells names acc)
 | [],acc,_=>by simp[jT]
 | (n,k)::r,acc,h=>by
  have ih:=fun nB=>Jl (env:=env) r nB fun x hx=>h x (aA _ hx)
  rw[List.forIn_cons];by_cases hk:k=.free
  ·subst hk;obtain⟨c,hc⟩:=h (n,.free) (by simp) rfl;have e1:cellOf env n=pure c:=by unfold cellOf;rw[hc]
   simp only[beq_self_eq_true,if_true,e1,pure_bind];rw[ih];simp[jT,hc]
  ·have t9:(k==NameKind.free)=false:=by simpa using hk
   simp only[t9,aR,if_false,pure_bind];rw[ih];simp[jT,t9]
theorem Jk{env:Env}{scope:Scope}(h:∀x∈scope.names,x.2=.free->∃c,env.cells.lookup x.1=some c):closureFor scope env=pure (jT env.cells scope.names []):=by
 have e:closureFor scope env=(forIn scope.names ([]:List (Str×Addr)) fun(x:Str×NameKind) (r:List (Str×Addr))=>
   (if (x.2==NameKind.free)=true then do let a <-cellOf env x.1;pure (ForInStep.yield ((x.1,a)::r)) else pure (ForInStep.yield r):Sem (ForInStep (List (Str×Addr))))) >>= fun r=>pure r:=rfl
 rw[e,Jl _ _ h];rfl
theorem Im{cells:List (Str×Addr)}:∀{names:List (Str×NameKind)} {acc:List (Str×Addr)} {x:Str} {c:Addr},(x,c)∈jT cells names acc->(x,c)∈acc\/((x,.free)∈names/\c=(cells.lookup x).getD 0)
 | [],acc,x,c,h=>.inl h
 | (n,k)::r,acc,x,c,h=>by
  rcases Im (names:=r) h with h | ⟨h,e⟩
  ·by_cases hk:k=.free
   ·subst hk;simp only[beq_self_eq_true,if_true] at h;rcases af.mp h with h | h
    ·cases h;exact .inr ⟨by simp,rfl⟩
    ·exact .inl h
   ·have t9:(k==NameKind.free)=false:=by simpa using hk
    simp only[t9,aR,if_false] at h;exact .inl h
  ·exact .inr ⟨aA _ h,e⟩
theorem Il{cells:List (Str×Addr)}:∀{names:List (Str×NameKind)} {acc:List (Str×Addr)} {p:Str×Addr},p∈acc->p∈jT cells names acc
 | [],acc,p,h=>h
 | (n,k)::r,acc,p,h=>Il (names:=r) (by split<;>simp[h])
theorem Dg{cells:List (Str×Addr)}:∀{names:List (Str×NameKind)} {acc:List (Str×Addr)} {x:Str},(x,.free)∈names->∃c,(x,c)∈jT cells names acc
 | (n,k)::r,acc,x,h=>by
  rcases af.mp h with h | h
  ·have e1:x=n:=congrArg Prod.fst h;have e2:NameKind.free=k:=congrArg Prod.snd h;subst e1 e2;refine⟨(cells.lookup x).getD 0,?_⟩;show(x,(cells.lookup x).getD 0)∈jT cells r (if (NameKind.free==NameKind.free)=true then(x,(cells.lookup x).getD 0)::acc else acc);exact Il (by simp)
  ·exact Dg (names:=r) h
theorem Bg{α:Type}:∀{l:List (Str×α)} {x:Str} {c:α},(x,c)∈l->∃c',l.lookup x=some c'
 | (n,k)::r,x,c,h=>by
  by_cases e:x=n
  ·subst e;exact⟨k,by simp[List.lookup_cons]⟩
  ·have e':(x==n)=false:=by simpa using e
   rcases af.mp h with h | h
   ·cases h;exact absurd rfl e
   ·obtain⟨c',q⟩:=Bg h;exact⟨c',by simp[List.lookup_cons,e',q]⟩
theorem D5{env:Env}:∀{names:List (Str×NameKind)} {x:Str},
  (names.map fun(n,k)=>if (k==NameKind.free&&env.scope.kind==.function&&env.kindOf n==some .cell) then(n,NameKind.cell) else(n,k)).lookup x
   = (names.lookup x).map fun k=>if (k==NameKind.free&&env.scope.kind==.function&&env.kindOf x==some .cell) then NameKind.cell else k
 | [],x=>rfl
 | (n,k)::r,x=>by
  have ih:=@D5 env r x;rw[aj];have e0:(if (k==NameKind.free&&env.scope.kind==.function&&env.kindOf n==some .cell)=true then(n,NameKind.cell) else(n,k))=(n,if (k==NameKind.free&&env.scope.kind==.function&&env.kindOf n==some .cell)=true then NameKind.cell else k):=by split<;>rfl
  show List.lookup x ((if (k==NameKind.free&&env.scope.kind==.function&&env.kindOf n==some .cell)=true then(n,NameKind.cell) else(n,k))::_)=_;rw[e0];by_cases e:x=n
  ·subst e;rw[List.lookup_cons,List.lookup_cons,beq_self_eq_true];rfl
  ·have e':(x==n)=false:=by simpa using e
   rw[List.lookup_cons,List.lookup_cons,e'];exact ih
theorem D0:∀(names:List (Str×NameKind)) (n:Nat) (acc nB:List (Str×Addr)),cellsFrom n names (acc++nB)=cellsFrom n names acc++nB
 | [],_,_,_=>rfl
 | (x,k)::r,n,acc,nB=>by
  unfold cellsFrom;split
  ·exact D0 r (n+1) ((x,n)::acc) nB
  ·exact D0 r n acc nB
theorem DZ:∀{names:List (Str×NameKind)} {n:Nat} {acc:List (Str×Addr)} {p:Str×Addr},p∈cellsFrom n names acc->p∈acc\/(p.1,.cell)∈names
 | [],_,_,_,h=>.inl h
 | (x,k)::r,n,acc,p,h=>by
  unfold cellsFrom at h;split at h
  ·rename_i hk;rcases DZ h with h | h
   ·rcases af.mp h with rfl | h
    ·rw[eq_of_beq hk];exact .inr (by simp)
    ·exact .inl h
   ·exact .inr (aA _ h)
  ·exact(DZ h).imp id (aA _)
theorem yx:∀{names:List (Str×NameKind)} {n:Nat} {acc:List (Str×Addr)} {p:Str×Addr},p∈acc->p∈cellsFrom n names acc
 | [],_,_,_,h=>h
 | (x,k)::r,n,acc,p,h=>by
  unfold cellsFrom;split
  ·exact yx (aA _ h)
  ·exact yx h
theorem DY:∀{names:List (Str×NameKind)} {n:Nat} {acc:List (Str×Addr)} {x:Str},(x,.cell)∈names->∃c,(x,c)∈cellsFrom n names acc
 | (y,k)::r,n,acc,x,h=>by
  unfold cellsFrom;rcases af.mp h with h | h
  ·cases h;exact⟨n,yx (by simp)⟩
  ·split
   ·exact DY h
   ·exact DY h
theorem OJ{M:Model}{A:Around}{E:Value->Shared->Prop}{s:Shared}{scope:Scope}{globals:Addr}{closure:List (Str×Addr)}{qual:Str}{func:Option Addr}{code:Value}{out:Env}{Q:Env->Shared->Prop}
  (hQ:∀h',h'=pushCells (s.heap.push { cls:=.type "dict",data:=.dict #[] }) scope.names->Q (newEnv scope s.heap.objs.size globals (cellsFrom (s.heap.objs.size+1) scope.names closure) qual func code (some out) builtinsNs) { s with heap:=h' }) :
  wpAny M A (newFunctionEnv scope globals closure [] qual func code (some out)) Q E s:=by
 simp only[newFunctionEnv,Option.isSome_some,if_true];refine ae (wpAny_alloc ?_);refine ae (wpAny_layCells _ (fun name kind cells=>by cases Vb:kind==NameKind.cell<;>simp[Vb]) _ _ _ _ ?_);rw[show({ s with heap:=s.heap.push { cls:=.type "dict",data:=.dict #[] } }:Shared).heap.objs.size=s.heap.objs.size+1 from Heap.size_push ..];rw[List.forIn_nil];exact ae (ar (ar (hQ _ rfl)))
noncomputable abbrev ku(X:Cx)(N':List Str)(scope:Scope)(s3:Shared)(H3:Hp)(ex:List Addr)(XE:Value->Shared->Prop):Cx:=
 { X with N:=N',cK:=s3,pe:=H3,env:=compEnvC scope (cellsFrom (s3.heap.objs.size+1) scope.names (jT X.env.cells scope.names [])) s3.heap.objs.size X.env,outer:=X.stack,stack:=X.stack,ex:=ex,fn:=fun x=>scope.names.lookup x==some .cell,pn:=[],xe:=XE }
noncomputable abbrev lY(X:Cx)(N':List Str)(scope:Scope)(s3:Shared)(H3:Hp)(ex:List Addr):Cx:=ku X N' scope s3 H3 ex fun _ _=>False
def B1(X:Cx)(C:Addr)(x:Value)(s':Shared):Prop:=
 ∃m,s'.heap.Ns C m/\∀h',Heap.SameBut C s'.heap h'->∀jK:Env,jK.locals=C->wpAny (model X.prog X.w) X.A (passOn "comprehension.variables-let-go" x jK:Sem Value) (fun _ _=>False) X.xe { s' with heap:=h' }
noncomputable def t5(m:List (Option Nat))(σ:St):St:=m.map fun o=>match o with
 | none=>none
 | some j=>(σ[j]?).join
structure bZ (X:Cx) (N':List Str) (m:List (Option Nat)) (scope:Scope):Prop where
 kind:scope.kind=.function
 len:m.length=N'.length
 uniq:∀y∈scope.names,scope.names.lookup y.1=some y.2
 free:∀y∈scope.names,y.2=.free->X.env.kindOf y.1=some .cell\/X.env.kindOf y.1=some .free
 VX:∀(i j:Nat) (x:Str),m[i]?=some (some j)->N'[i]?=some x->X.N[j]?=some x/\scope.names.lookup x=some .free
def ui(X:Cx)(ifs:List Expr)(t:TT):Prop:=
 ∀(pins:List (Addr×Obj)) (s:Shared) (σ:St) (H:Hp) (Q:Bool->Hp->Prop),Inv X pins σ H s->t σ H Q->
  wpAny (model X.prog X.w) X.A (forIn ifs true fun c r=>if r=true then do let ok <-isTrue c X.env (eval c X.env);pure (ForInStep.yield ok) else pure (ForInStep.yield r)) (TP X pins σ Q) X.xe s
def LH:TT:=fun _ H Q=>Q true H
theorem N2{X:Cx}:ui X [] LH:=fun _ _ σ H _ I h=>wpAny_tests_nil ⟨H,I,h⟩
theorem Oy{X:Cx}{c:Expr}{t:TT}(h:PT X c t):ui X [c] t:=fun pins s σ H Q I q=>wpAny_tests_one (h pins s σ H Q I q)
section
variable {prog:Program} {w:World} {A:Around} {R:Result->Shared->Prop} {s:Shared}
theorem Ru{elt target iter:Expr}{ifs:List Expr}{scope:Scope}{pos:Pos}{it acc:Value}{env:Env}{EI:Value->Shared->Prop}(nv:∀x s,EI x s->notedBy (model prog w) A env (fun x s'=>R (.error x) s') x s)(I:Nat->Shared->Prop)
  (turn:∀n s,I n s->wpAny (model prog w) A (pyNext it) (fun r cc=>match r with
   | none=>R (.ok .next) cc
   | some v=>wpAny (model prog w) A (letOwnedTupleGo target it v) (fun _ tU=>wpAny (model prog w) A (assign target env v) (fun _ jI=>
     wpAny (model prog w) A (forIn ifs true fun c r=>if r=true then do let ok <-isTrue c env (eval c env);pure (ForInStep.yield ok) else pure (ForInStep.yield r)) (fun ok m4=>
      if ok=true then wpAny (model prog w) A (eval elt env) (fun x sj=>
       wpAny (model prog w) A (call (.builtin "list.append") [acc,x]) (fun _ yM=>∃m,m<n/\I m yM) EI sj) EI m4
      else ∃m,m<n/\I m m4) EI jI) EI tU) EI cc) EI s)
  (n:Nat) (h:I n s) :
  codeAny (model prog w) A (.compLoop (.ListComp elt [⟨target,iter,ifs,0⟩] scope pos) 0 it acc env) R s:=by
 refine codeAny_loop rfl I (fun n s hI=>?_) n h;show wpAny _ A ((compTurn (.ListComp elt [⟨target,iter,ifs,0⟩] scope pos) 0 it acc env).onRaise (fun x=>do noteFrame x env;theTreesLotGoes x)) _ _ s;refine wpAny_noted ?_;rw[compTurn_list];refine ae (wpAny_standAt (ae (wpAny_mono (turn n s hI) (fun r cc j3=>?_) nv)));cases r with
 | none=>exact ar j3
 | some v=>
  refine ae (wpAny_mono j3 (fun _ tU zb=>?_) nv);refine ae (wpAny_mono zb (fun _ jI Ey=>ae (wpAny_mono Ey (fun ok m4 za=>?_) nv)) nv);cases ok with
  | false=>exact ar ⟨rfl,za⟩
  | true=>
   exact ae (ae (wpAny_mono za (fun x sj Ew=>ae (wpAny_mono Ew (fun _ yM Eu=>ar (ar ⟨rfl,Eu⟩)) nv)) nv))
end
end L2
namespace L2
open PySem PySem.Spec PyProof.Rows
noncomputable abbrev pQ(α:Type):=Shared->Hp->List Addr->α
def ux(wi:TI)(m:List (Option Nat))(g:pQ TG)(tc:pQ TT)(te:pQ TE):TE:=fun σ H Q=>wi σ H fun J H1=>∀D,H1 D=none->∀s3 ex,
 ∃W:Nat->Nat->St->Hp->Prop,(∃k,W 0 k (t5 m σ) (upd H1 D (.lst [])))/\∀i k cj H',W i k cj H'->
  (J.stop i H'/\Q (.ref D) H')\/(J.go i H'/\∃N:St->Hp->Prop,(∀cj H',N cj H'->∃k',k'<k/\W (i+1) k' cj H')/\
   ∀x H2,J.Bm i H' x H2->g s3 (upd H1 D (.lst [])) ex x cj H2 fun nJ H3=>tc s3 (upd H1 D (.lst [])) ex nJ H3 fun b H4=>
    if b=true then te s3 (upd H1 D (.lst [])) ex nJ H4 fun v H5=>∃xs,H5 D=some (.lst xs)/\xs.length<sizeLine/\N nJ (upd H5 D (.lst (xs++[v]))) else N nJ H4)
section
variable {X:Cx} {elt iter tg:Expr} {ifs:List Expr} {scope:Scope} {pos:Pos} {N':List Str} {m:List (Option Nat)} {wi:TI} {g:pQ TG} {tc:pQ TT} {te:pQ TE}
theorem OI{XE:Value->Shared->Prop}{pins:List (Addr×Obj)}{σ:St}{H:Hp}{s:Shared}{fp:List Addr}{j3:Heap}{tk:Nat}(cs:bZ X N' m scope)(I:Inv X pins σ H s)(f:∀b∈fp,js X pins H b)(fo:∀b∈fp,b<s.heap.objs.size)
  (hh:j3=pushCells (s.heap.push { cls:=.type "dict",data:=.dict #[] }) scope.names) :
  Inv (ku X N' scope s H fp XE) [] (t5 m σ) H { s with heap:=j3,toks:=tk }:=by
 have hk:∀b o,s.heap.get? b=some o->j3.get? b=some o:=fun b o e=>by rw[hh];exact pushCells_keeps _ _ b o (av _ e)
 have nY:j3.Ns s.heap.objs.size (fun _=>none):=by rw[hh];exact(Heap.Ns.new s.heap (.type "dict")).keeps (pushCells_keeps _ _)
 have ok:=cellsFrom_ok scope.names (s.heap.push { cls:=.type "dict",data:=.dict #[] }) (s.heap.objs.size+1) [] ⟨fun _ _ hm=>(nomatch hm),List.Pairwise.nil⟩ (by rw[Heap.size_push];exact az _);rw[Heap.size_push,<-hh] at ok;have eC:∀y∈scope.names,y.2=.free->∃c,X.env.cells.lookup y.1=some c:=fun y hy hf=>I.ok.has y.1 (cs.free y hy hf)
 have app:cellsFrom (s.heap.objs.size+1) scope.names (jT X.env.cells scope.names [])=cellsFrom (s.heap.objs.size+1) scope.names []++jT X.env.cells scope.names []:=D0 _ _ [] _
 /- a cell: of its own,or one from around -/
 have vo:∀x c,(cellsFrom (s.heap.objs.size+1) scope.names (jT X.env.cells scope.names [])).lookup x=some c->((x,c)∈cellsFrom (s.heap.objs.size+1) scope.names []/\scope.names.lookup x=some .cell)\/(X.env.cells.lookup x=some c/\scope.names.lookup x=some .free):=fun x c e=>by
  have hm:=PySem.mem_of_lookup e;rw[app] at hm;rcases au.mp hm with hm | hm
  ·refine .inl ⟨hm,?_⟩;rcases DZ hm with z | z
   ·cases z
   ·exact cs.uniq _ z
  ·rcases Im hm with z | ⟨z,e'⟩
   ·cases z
   ·obtain⟨c',q⟩:=eC _ z rfl;rw[q] at e';exact .inr ⟨by rw[q,e'];rfl,cs.uniq _ z⟩
 have old:∀x c,X.env.cells.lookup x=some c->c<s.heap.objs.size:=fun x c e=>by obtain⟨v,z⟩:=I.cell x c e;exact z.lt
 refine⟨⟨I.ok.mod,cs.kind,I.ok.glob,I.ok.blt,az _,fun x y c e1 e2=>?inj,fun x hx=>?_,fun x c hx e=>?cab,I.ok.hd,I.ok.frames,.inl rfl,fun b hb=>⟨aI (fo b hb),fun x c e=>?exf⟩,
  fun b o e=>I.bs b o e,aY I.ok.sS I.sz,fun b o e hb=>?_,fun b hb z=>?_,I.stack,I.nR⟩,
  rfl,I.bare,Un.kept hk,⟨_,nY,fun i x v h1 h2 h3=>?_⟩,fun x c e=>?_,I.cz.fresh (az _),fun x c e=>?frc,fun p hp=>(by cases hp),I.cz.kept hk,?_⟩
 case inj=>
  rcases vo x c e1 with⟨m1,_⟩ | ⟨o1,_⟩<;>rcases vo y c e2 with⟨m2,_⟩ | ⟨o2,_⟩
  ·exact PySem.name_of_addr ok.apart m1 m2
  ·exact absurd (old y c o2) (Nat.not_lt.mpr (aY (Nat.le_succ _) (ok.empty x c m1).2))
  ·exact absurd (old x c o1) (Nat.not_lt.mpr (aY (Nat.le_succ _) (ok.empty y c m2).2))
  ·exact I.ok.inj x y c o1 o2
 case cab=>
  rcases vo x c e with⟨m1,_⟩ | ⟨_,z⟩
  ·exact aY (Nat.le_succ _) (ok.empty x c m1).2
  ·have pH:(scope.names.lookup x==some .cell)=true:=hx;rw[z] at pH;cases pH
 case exf=>
  rcases vo x c e with⟨m1,_⟩ | ⟨o1,_⟩
  ·exact Nat.ne_of_gt (aJ (Nat.lt_succ_of_lt (fo b hb)) (ok.empty x c m1).2)
  ·exact(f b hb).2.2.2.2.1 x c o1
 case frc=>
  rcases vo x c e with⟨m1,_⟩ | ⟨o1,_⟩
  ·exact I.cz.fresh (aY (Nat.le_succ _) (ok.empty x c m1).2)
  ·exact I.fJ x c o1
 ·have pH:(relabel scope X.env).names.lookup x=some .cell\/(relabel scope X.env).names.lookup x=some .free:=hx;have e:(relabel scope X.env).names.lookup x=(scope.names.lookup x).map fun k=>if (k==NameKind.free&&X.env.scope.kind==.function&&X.env.kindOf x==some .cell) then NameKind.cell else k:=D5
  rw[e] at pH;have hf:(x,NameKind.free)∈scope.names\/(x,NameKind.cell)∈scope.names:=by
   cases q:scope.names.lookup x with
   | none=>rw[q] at pH;simp at pH
   | some k=>
    rw[q] at pH;have hm:=PySem.mem_of_lookup q;by_cases EY:k=.free
    ·subst EY;exact .inl hm
    ·have t9:(k==NameKind.free)=false:=by simpa using EY
     simp only[t9,Option.map_some,Bool.false_and,aR,if_false,Option.some.injEq] at pH;rcases pH with z | z
     ·subst z;exact .inr hm
     ·exact absurd z EY
  show ∃c,(cellsFrom (s.heap.objs.size+1) scope.names (jT X.env.cells scope.names [])).lookup x=some c
  rcases hf with hf | hf
  ·obtain⟨c,hc⟩:=Dg (cells:=X.env.cells) (acc:=[]) hf;exact Bg (yx hc)
  ·obtain⟨c,hc⟩:=DY (n:=s.heap.objs.size+1) (acc:=jT X.env.cells scope.names []) hf;exact Bg hc
 ·rcases(f b hb).2.2.2.1 with z | z
  ·exact I.ok.oW b o e z
  ·exact absurd (aJ (ax (I.ok.bs b o e).1) z) (Nat.lt_irrefl _)
 ·rcases af.mp (I.m7 b z) with q | q
  ·exact(f b hb).2.1 q
  ·exact(f b hb).2.2.1 q
 ·unfold t5 at h2;rw[aT] at h2;cases q:m[i]? with
  | none=>rw[q] at h2;cases h2
  | some o=>
   rw[q] at h2;cases o with
   | none=>cases h2
   | some j=>
    simp only[Option.map_some,Option.some.injEq] at h2;have Kz:σ[j]?=some (some v):=by
     cases z:σ[j]? with
     | none=>rw[z] at h2;cases h2
     | some a=>rw[z] at h2;simp at h2;rw[h2]
    obtain⟨hN,lE⟩:=cs.VX i j x q h1;have Kk:=PySem.mem_of_lookup lE;obtain⟨m0,Wu,hl⟩:=I.loc;have n8:=cs.free _ Kk rfl;have EC:kO X.env.scope x:=n8.elim (fun z=>.inr (.inl z)) (fun z=>.inr (.inr z));obtain⟨u,ru,lu⟩:=hl j x v hN Kz EC;refine⟨u,ru,.inr ⟨?_,?_⟩⟩
    ·show(relabel scope X.env).names.lookup x=some .cell\/(relabel scope X.env).names.lookup x=some .free;have e:(relabel scope X.env).names.lookup x=(scope.names.lookup x).map fun k=>if (k==NameKind.free&&X.env.scope.kind==.function&&X.env.kindOf x==some .cell) then NameKind.cell else k:=D5
     rw[e,lE];simp only[Option.map_some];split
     ·exact .inl rfl
     ·exact .inr rfl
    ·rcases lu with⟨k,_⟩ | ⟨_,c,e,z⟩
     ·rcases n8 with z | z<;>· rw[k] at z;cases z
     ·obtain⟨c',o6⟩:=Bg (yx (names:=scope.names) (n:=s.heap.objs.size+1) (Dg (cells:=X.env.cells) (acc:=[]) Kk).choose_spec);have:X.env.cells.lookup x=some c':=by
       rcases vo x c' o6 with⟨_,z⟩ | ⟨z,_⟩
       ·rw[lE] at z;cases z
       ·exact z
      rw[e] at this;cases this;obtain⟨oc,sD,hd⟩:=z;exact⟨c,o6,oc,hk c oc sD,hd⟩
 ·rcases vo x c e with⟨m1,_⟩ | ⟨o1,_⟩
  ·exact⟨none,(ok.empty x c m1).1⟩
  ·obtain⟨v,oc,sD,hd⟩:=I.cell x c o1;exact⟨v,oc,hk c oc sD,hd⟩
 ·show(t5 m σ).length=N'.length;unfold t5;rw[aa,cs.len]
def zL(X:Cx)(s3:Shared)(H3:Hp)(ex:List Addr):Prop:=∃pins σ,Inv X pins σ H3 s3/\∀b∈ex,js X pins H3 b/\b<s3.heap.objs.size
theorem Jb{use:Option (Value->Sem Unit)}{Q':Value->Shared->Prop}{pins:List (Addr×Obj)}{s:Shared}{σ:St}{H:Hp}{Q:VK}
  {XE:Shared->Value->Shared->Prop} (zy:∀s3 x s',XE s3 x s'->notedBy (model X.prog X.w) X.A (compEnvC scope (cellsFrom (s3.heap.objs.size+1) scope.names (jT X.env.cells scope.names [])) s3.heap.objs.size X.env) (B1 X s3.heap.objs.size) x s')
  (hc:X.calm=true) (cs:bZ X N' m scope) (hi:PI X tg iter wi) (hg:∀s3 H3 ex,PG (ku X N' scope s3 H3 ex (XE s3)) tg (g s3 H3 ex)) (ht:∀s3 H3 ex,ui (ku X N' scope s3 H3 ex (XE s3)) ifs (tc s3 H3 ex))
  (he:∀s3 H3 ex,zL X s3 H3 ex->PE (ku X N' scope s3 H3 ex (XE s3)) elt (te s3 H3 ex)) (I:Inv X pins σ H s) (h:ux wi m g tc te σ H Q)
  (fin:∀D C s' H',Inv X pins σ H' s'->js X pins H' C->(∃m,s'.heap.Ns C m)->Q (.ref D) H'->compPost (model X.prog X.w) X.A X.xe use Q' (.ref D) C (.ok .next) s') :
  wpAny (model X.prog X.w) X.A (eval iter X.env) (fun x cc=>wpAny (model X.prog X.w) X.A (pyIter x) (fun it jI=>wpAny (model X.prog X.w) X.A (newList []) (fun acc m4=>
   wpAny (model X.prog X.w) X.A (newFunctionEnv scope X.env.globals (jT X.env.cells scope.names []) [] X.env.qual none .none (some X.env)) (fun jK sj=>
    codeAny (model X.prog X.w) X.A (.compStart (.ListComp elt [⟨tg,iter,ifs,0⟩] scope pos) 0 it acc { jK with scope:=relabel scope X.env }) (compPost (model X.prog X.w) X.A X.xe use Q' acc jK.locals) sj) X.xe m4) X.xe jI) X.xe cc) X.xe s:=by
 refine cJ (hi pins s σ H _ I h) fun v s1 h1=>cJ h1 fun Et s2 h2=>?_
 obtain⟨it,fp,tn,J,H2,e,I2,T,rf,f2,h⟩:=h2;subst e;refine wpAny_newObj_type (OJ fun j3 ua=>?_);have hf:H2 s2.heap.objs.size=none:=I2.cz.fresh (az _);obtain⟨W,⟨k0,w0⟩,turn⟩:=h s2.heap.objs.size hf { s2 with heap:=s2.heap.push { cls:=.type "list",data:=.seq ([]:List Value).toArray } } fp;have I3:Inv X pins σ (upd H2 s2.heap.objs.size (.lst [])) { s2 with heap:=s2.heap.push { cls:=.type "list",data:=.seq ([]:List Value).toArray } }:=I2.sy (its:=[]) (t':=s2.toks) .nil (by simp);have KG:∀b∈fp,b<s2.heap.objs.size:=fun b hb=>by
  obtain⟨o,e,_⟩:=T.obj _ _ rf b hb;exact ax e
 have f3:∀b∈fp,js X pins (upd H2 s2.heap.objs.size (.lst [])) b:=fun b hb=>⟨by rw[cR (aI (KG b hb))];exact(f2 b hb).1,(f2 b hb).2⟩
 generalize J9:({ s2 with heap:=s2.heap.push { cls:=.type "list",data:=.seq ([]:List Value).toArray } }:Shared)=s3 at *;have hC:s3.heap.objs.size=s2.heap.objs.size+1:=by rw[<-J9];exact Heap.size_push ..
 have Fw:∀b∈fp,b<s3.heap.objs.size:=fun b hb=>by rw[hC];exact Nat.lt_succ_of_lt (KG b hb)
 have k3:∀b o,s2.heap.get? b=some o->s3.heap.get? b=some o:=fun b o e=>by rw[<-J9];exact av _ e
 have k1:∀b o,s3.heap.get? b=some o->j3.get? b=some o:=fun b o e=>by rw[ua];exact pushCells_keeps _ _ b o (av _ e)
 have J0:=OI (XE:=XE s3) (tk:=s3.toks) cs I3 f3 Fw ua;have Bs:tn 0 j3:=T.keep _ _ _ rf fun b _ o e=>k1 b o (k3 b o e)
 have Fv:∀{H':Hp},(∀b∈fp,H' b=none)->∀b∈fp,js (ku X N' scope s3 (upd H2 s2.heap.objs.size (.lst [])) fp (XE s3)) [] H' b:=fun hn b hb=>
  ⟨hn b hb,aI (Fw b hb),J0.ok.o8 b hb,.inl hb,(J0.ok.exf b hb).2,fun p hp=>by cases hp⟩
 have lE:∀b∈fp,(upd H2 s2.heap.objs.size (.lst [])) b=none:=fun b hb=>(f3 b hb).1
 have loop:codeAny (model X.prog X.w) X.A (.compLoop (.ListComp elt [⟨tg,iter,ifs,0⟩] scope pos) 0 (.ref it) (.ref s2.heap.objs.size) (compEnvC scope (cellsFrom (s3.heap.objs.size+1) scope.names (jT X.env.cells scope.names [])) s3.heap.objs.size X.env))
   (compPost (model X.prog X.w) X.A X.xe use Q' (.ref s2.heap.objs.size) s3.heap.objs.size) { s3 with heap:=j3 }:=by
  refine Ru (zy s3) (fun n s'=>∃i cj H',Inv (ku X N' scope s3 (upd H2 s2.heap.objs.size (.lst [])) fp (XE s3)) [] cj H' s'/\tn i s'.heap/\(∀b∈fp,H' b=none)/\W i n cj H') ?_ k0 ⟨0,_,_,J0,Bs,lE,w0⟩;rintro n s4 ⟨i,td,H4,I4,Br,KC,w4⟩;rcases turn i n td H4 w4 with⟨stop,qn⟩ | ⟨go,N,hN,step⟩
  ·refine cJ (T.done (ku X N' scope s3 (upd H2 s2.heap.objs.size (.lst [])) fp (XE s3)) rfl rfl rfl hc i [] s4 td H4 _ I4 (Fv KC) Br stop) fun r s5 bR=>?_
   obtain⟨hr,I5⟩:=bR;subst hr;have nr:∀b∈fp,(b∈X.ex\/X.cK.heap.objs.size<=b)/\b≠X.env.locals/\(∀x c,X.env.cells.lookup x=some c->c≠b)/\∀p∈X.pn++pins,p.1≠b:=fun b hb=>⟨(f2 b hb).2.2.2.1,(f2 b hb).2.1,(f2 b hb).2.2.2.2.1,(f2 b hb).2.2.2.2.2⟩
   have I6:Inv X pins σ H4 s5:=I3.qJ (ch:=fp) I5.os I5.base I5.cz I5.bare nr;obtain⟨m5,EV,_⟩:=id I5.loc;exact fin _ _ s5 H4 I6 (I3.nt (az _) I5.free) ⟨m5,EV⟩ qn
  ·refine cJ (T.item (ku X N' scope s3 (upd H2 s2.heap.objs.size (.lst [])) fp (XE s3)) rfl rfl rfl hc i [] s4 td H4 _ I4 (Fv KC) Br go) fun r s5 bR=>?_
   obtain⟨u,hr,h5⟩:=bR;subst hr;refine cJ h5 fun _ s6 bR=>?_
   obtain⟨x,H6,I6,r6,y6,Ec,VL⟩:=bR;have V3:=I6.pinned (Fv VL) (T.obj _ _ Ec);refine cJ (hg _ _ _ _ s6 td H6 x u _ V3 r6 (step x H6 y6)) fun _ s7 bR=>?_
   obtain⟨mO,H7,I7,q7⟩:=bR;refine cJ (ht _ _ _ _ s7 mO H7 _ I7 q7) fun b s8 bR=>?_
   obtain⟨H8,I8,q8⟩:=bR;have again:∀{s9:Shared} {wQ:St} {H9:Hp},Inv (ku X N' scope s3 (upd H2 s2.heap.objs.size (.lst [])) fp (XE s3)) ([]++xy fp s6.heap) wQ H9 s9->N wQ H9->∃m,m<n/\∃i cj H',Inv (ku X N' scope s3 (upd H2 s2.heap.objs.size (.lst [])) fp (XE s3)) [] cj H' s9/\tn i s9.heap/\(∀b∈fp,H' b=none)/\W i m cj H':=fun{s9 wQ H9} I9 n9=>by
    obtain⟨m',hm,w9⟩:=hN wQ H9 n9;refine⟨m',hm,i+1,wQ,H9,I9.iV,T.keep _ _ _ Ec fun b hb o e=>(I9.pin (b,o) (aS _ (aS _ (A3 hb e)))).1,fun b hb=>?_,w9⟩;obtain⟨o,e,d⟩:=T.obj _ _ Ec b hb;exact(I9.pin (b,o) (aS _ (aS _ (A3 hb e)))).2.1
   cases b with
   | false=>exact again I8 q8
   | true=>
    rw[if_pos rfl];refine cJ (he _ _ _ ⟨pins,σ,I3,fun b hb=>⟨f3 b hb,Fw b hb⟩⟩ _ s8 mO H8 _ I8 q8) fun y s9 bR=>?_
    obtain⟨v9,H9,I9,r9,xs,hD,hz,q9⟩:=bR;refine cJ (A7 _ s9 mO H9 (.ref s2.heap.objs.size) [v9] (.ref s2.heap.objs.size) [y] (fun _ H'=>N mO H') I9 rfl (.cons r9 .nil) ⟨_,xs,v9,rfl,rfl,hD,hz,q9⟩) fun _ Wk bR=>?_
    obtain⟨_,WN,V5,_,Ul⟩:=bR;exact again V5 Ul
 exact codeAny_compStart_list loop (T.self _ 0 _ _ _ Bs loop)
theorem Ik{XE:Shared->Value->Shared->Prop}(zy:∀s3 x s',XE s3 x s'->notedBy (model X.prog X.w) X.A (compEnvC scope (cellsFrom (s3.heap.objs.size+1) scope.names (jT X.env.cells scope.names [])) s3.heap.objs.size X.env) (B1 X s3.heap.objs.size) x s')(hc:X.calm=true)(cs:bZ X N' m scope)(hi:PI X tg iter wi)(hg:∀s3 H3 ex,PG (ku X N' scope s3 H3 ex (XE s3)) tg (g s3 H3 ex))(ht:∀s3 H3 ex,ui (ku X N' scope s3 H3 ex (XE s3)) ifs (tc s3 H3 ex))
  (he:∀s3 H3 ex,zL X s3 H3 ex->PE (ku X N' scope s3 H3 ex (XE s3)) elt (te s3 H3 ex)) (hs:∀x,foldedSetIterable iter X.env x=pure x:=by intro _;rfl):PE X (.ListComp elt [⟨tg,iter,ifs,0⟩] scope pos) (ux wi m g tc te):=by
 intro pins s σ H Q I h;rw[eval_ListComp];have eC:∀y∈scope.names,y.2=.free->∃c,X.env.cells.lookup y.1=some c:=fun y hy hf=>I.ok.has y.1 (cs.free y hy hf)
 refine wpAny_comprehension_free (use:=none) rfl hs (Jk eC) cs.kind (fun y hy hl=>by rw[cs.uniq y hy,hl]) (Jb zy hc cs hi hg ht he I h fun D C s' H' I' fC ⟨mC,hn⟩ q=>?_);refine⟨mC,hn,fun h' sb=>⟨.ref D,H',I'.turned (t':=s'.toks) (fun b o hb e=>(sb.2 b hb).trans e) fC.1 fC.2.1 fC.2.2.2.1 fC.2.2.2.2.1 fC.2.2.2.2.2,rfl,q⟩⟩
theorem Ox(hc:X.calm=true)(cs:bZ X N' m scope)(hi:PI X tg iter wi)(hg:∀s3 H3 ex,PG (lY X N' scope s3 H3 ex) tg (g s3 H3 ex))(ht:∀s3 H3 ex,ui (lY X N' scope s3 H3 ex) ifs (tc s3 H3 ex))
  (he:∀s3 H3 ex,PE (lY X N' scope s3 H3 ex) elt (te s3 H3 ex)) (hs:∀x,foldedSetIterable iter X.env x=pure x:=by intro _;rfl):PE X (.ListComp elt [⟨tg,iter,ifs,0⟩] scope pos) (ux wi m g tc te):=Ik (XE:=fun _ _ _=>False) (fun _ _ _ z=>z.elim) hc cs hi hg ht (fun s3 H3 ex _=>he s3 H3 ex) hs
theorem OH{XE:Shared->Value->Shared->Prop}(zy:∀s3 x s',XE s3 x s'->notedBy (model X.prog X.w) X.A (compEnvC scope (cellsFrom (s3.heap.objs.size+1) scope.names (jT X.env.cells scope.names [])) s3.heap.objs.size X.env) (B1 X s3.heap.objs.size) x s'){i:Nat}{x:Str}{pos' i7:Pos}(hN:X.N.Nodup)(sL:X.N[i]?=some x)(hx:Loc X.env.scope x)
  (hc:X.calm=true) (cs:bZ X N' m scope) (hi:PI X tg iter wi) (hg:∀s3 H3 ex,PG (ku X N' scope s3 H3 ex (XE s3)) tg (g s3 H3 ex)) (ht:∀s3 H3 ex,ui (ku X N' scope s3 H3 ex (XE s3)) ifs (tc s3 H3 ex))
  (he:∀s3 H3 ex,zL X s3 H3 ex->PE (ku X N' scope s3 H3 ex (XE s3)) elt (te s3 H3 ex)) (hs:∀x,foldedSetIterable iter X.env x=pure x:=by intro _;rfl)
  (pI:swapsWith (.ListComp elt [⟨tg,iter,ifs,0⟩] scope pos) (some (.Name x pos')) i7.line X.env=pure true:=by rfl)
  (hf:X.fn x=true\/X.env.scope.names.lookup x=some .local:=by first | exact .inl rfl | exact .inr rfl | assumption) :
  PS X (.Assign [.Name x pos'] (.ListComp elt [⟨tg,iter,ifs,0⟩] scope pos) i7) (wX (ux wi m g tc te) (xk i)):=by
 intro pins s σ H D I h;have eC:∀y∈scope.names,y.2=.free->∃c,X.env.cells.lookup y.1=some c:=fun y hy hf=>I.ok.has y.1 (cs.free y hy hf)
 rw[exec_Assign_Name_used _ _ _ _ pI];refine ae (wpAny_standAt (ae ?_));show wpAny _ _ (do let _ <-comprehension (.ListComp elt [⟨tg,iter,ifs,0⟩] scope pos) scope X.env _ (newList []) false (eval iter X.env) (some (assign (.Name x pos') X.env))) _ _ s;refine ae (wpAny_mono (wpAny_comprehension_free (use:=some (assign (.Name x pos') X.env)) (Q:=fun _ s'=>SP X pins D .next s') rfl hs (Jk eC) cs.kind (fun y hy hl=>by rw[cs.uniq y hy,hl]) (Jb zy hc cs hi hg ht he I h fun A C s' H' I' fC ⟨mC,hn⟩ q=>?_)) (fun _ s' hq=>ar (ar hq)) fun _ _ e=>e);show wpAny _ _ (assign (.Name x pos') X.env (.ref A)) _ _ _;refine wpAny_assign_Name (Ja I' hN sL hx (show RelV (.ref A) (.ref A) from rfl) (fun s2 I2 UW=>?_) hf);obtain⟨a,Ub,ha⟩:=UW;have VB:C≠a:=by
  rcases ha with rfl | ha
  ·exact fC.2.1
  ·exact fun z=>fC.2.2.2.2.1 x a ha z.symm
 refine⟨mC,hn.sameBut Ub VB,fun h' sb=>⟨_,H',I2.turned (t':=s2.toks) (fun b o hb e=>(sb.2 b hb).trans e) fC.1 fC.2.1 fC.2.2.2.1 fC.2.2.2.2.1 fC.2.2.2.2.2,q⟩⟩
theorem C4{i:Nat}{x:Str}{pos' i7:Pos}(hN:X.N.Nodup)(sL:X.N[i]?=some x)(hx:Loc X.env.scope x)
  (hc:X.calm=true) (cs:bZ X N' m scope) (hi:PI X tg iter wi) (hg:∀s3 H3 ex,PG (lY X N' scope s3 H3 ex) tg (g s3 H3 ex)) (ht:∀s3 H3 ex,ui (lY X N' scope s3 H3 ex) ifs (tc s3 H3 ex))
  (he:∀s3 H3 ex,PE (lY X N' scope s3 H3 ex) elt (te s3 H3 ex)) (hs:∀x,foldedSetIterable iter X.env x=pure x:=by intro _;rfl)
  (pI:swapsWith (.ListComp elt [⟨tg,iter,ifs,0⟩] scope pos) (some (.Name x pos')) i7.line X.env=pure true:=by rfl)
  (hf:X.fn x=true\/X.env.scope.names.lookup x=some .local:=by first | exact .inl rfl | exact .inr rfl | assumption) :
  PS X (.Assign [.Name x pos'] (.ListComp elt [⟨tg,iter,ifs,0⟩] scope pos) i7) (wX (ux wi m g tc te) (xk i)):=OH (XE:=fun _ _ _=>False) (fun _ _ _ z=>z.elim) hN sL hx hc cs hi hg ht (fun s3 H3 ex _=>he s3 H3 ex) hs pI hf
end
end L2
namespace L2
open PySem PySem.Spec PyProof.Rows
theorem GL:2<=sizeLine:=by decide
theorem Inv.jQ{X:Cx}{pins:List (Addr×Obj)}{σ:St}{H:Hp}{s:Shared}{h':Heap}{t':Nat}{fp:List Addr}(I:Inv X pins σ H s)(k:∀b o,b∉fp->s.heap.get? b=some o->h'.get? b=some o)(f:∀b∈fp,js X pins H b) :
  Inv X pins σ H { s with heap:=h',toks:=t' }:=by
 have tY:∀b u,H b=some u->b∉fp:=fun b u e z=>by rw[(f b z).1] at e;cases e
 refine I.step (g':=s.gens) (d':=s.drawn) (ch:=fp) (fun b hb=>⟨(f b hb).2.2.2.1,(f b hb).2.1,(f b hb).2.2.2.2.1,(f b hb).2.2.2.2.2⟩) (fun b o _ _ hc e _=>k b o hc e) (fun b o _ _ hc e _=>⟨o.slots,k b o hc e⟩) (fun _ _ _ _ n=>n)
  (fun b o hc e=>⟨o,k b o hc e⟩) (fun _ _ e=>e) (fun _ _ _ e=>e) (fun b ps e=>⟨#[],by rw[e];simp⟩) (fun m hm=>?_) (fun b u e=>?_) I.bare
 ·obtain⟨o,es,ep,ho,r⟩:=hm;exact⟨o,es,ep,k _ o (fun z=>(f _ z).2.1 rfl) ho,r⟩
 ·refine(I.cz b u e).jX (fun c v hc q=>k c v ?_ q) (fun _ q=>q) fun _ _ q=>q
  rcases hc with z | z
  ·rw[z];exact tY b u e
  ·exact tY c _ z
theorem Inv.kW{X:Cx}{pins:List (Addr×Obj)}{σ:St}{H:Hp}{s:Shared}{h':Heap}{t':Nat}{fp:List Addr}{a:Addr}{o:HO}(I:Inv X pins σ H s)(k:∀b o,b∉fp->s.heap.get? b=some o->h'.get? b=some o)(f:∀b∈fp,js X pins H b)
  (hp:s.heap.objs.size<=a) (new:dG X.prog X.w (upd H a o) h' a o):Inv X pins σ (upd H a o) { s with heap:=h',toks:=t' }:=by
 have eC:H a=none:=I.cz.fresh hp;have tY:∀b u,H b=some u->b∉fp:=fun b u e z=>by rw[(f b z).1] at e;cases e
 refine I.step (g':=s.gens) (d':=s.drawn) (ch:=fp) (fun b hb=>⟨(f b hb).2.2.2.1,(f b hb).2.1,(f b hb).2.2.2.2.1,(f b hb).2.2.2.2.2⟩) (fun b o _ _ hc e _=>k b o hc e) (fun b o _ _ hc e _=>⟨o.slots,k b o hc e⟩)
  (fun b o _ q n=>by rw[cR (aI (aJ (ax q) hp))];exact n)
  (fun b o hc e=>⟨o,k b o hc e⟩) (fun b zs q=>by rw[cR (iM q eC)];exact q) (fun b ob zs q=>by rw[cR (iM q eC)];exact q) (fun b ps q=>⟨#[],by rw[cR (iM q eC),q];simp⟩) (fun m hm=>?_) (fun b u q=>?_) I.bare
 ·obtain⟨o,es,ep,ho,r⟩:=hm;exact⟨o,es,ep,k _ o (fun z=>(f _ z).2.1 rfl) ho,r⟩
 ·by_cases hb:b=a
  ·subst hb;rw[gP] at q;cases q;exact new
  ·rw[cR hb] at q;refine(I.cz b u q).jX (fun c v hc z=>k c v ?_ z) (fun c z=>by rw[cR (iM z eC)];exact z) fun c zs z=>by rw[cR (iM z eC)];exact z
   rcases hc with rfl | hc
   ·exact tY _ _ q
   ·exact tY _ _ hc
noncomputable def BX(x:Str):It:=⟨fun i _=>i<x.cps.size,fun i H v H'=>H'=H/\∃c,x.cps[i]?=some c/\v=.str ⟨#[c]⟩,fun i _=>i=x.cps.size⟩
theorem OG{P:Program}{w:World}{K:PySem.W.Frag}{tg:Expr}{x:Str}{it:Addr}{n:String}{t:Tok}(hn:["enumerate","zip","dict_itemiterator","dict_reverseitemiterator","odict_iterator","itertools.zip_longest","itertools.pairwise"].contains n=false)
  (W:∀A':Around,A'.handled=none->Walks P w A' it [it] [it] x.cps.size (SignAt x) (fun i h=>h.IsStrIter it n x t i))
  (hs:∀(A:Around) (i:Nat) (s:Shared) (Q:Value->Shared->Prop) (E:Value->Shared->Prop),s.heap.IsStrIter it n x t i->Q (.ref it) s->wpAny (model P w) A (pyIter (.ref it)) Q E s):Turn P w K tg (BX x) [it] it (fun i h=>h.IsStrIter it n x t i) where
 mem:=by simp
 obj:=fun i h st b hb=>by
  have e:b=it:=by simpa using hb
  subst e;obtain⟨o,e,c,d⟩:=st;exact⟨o,e,fun v z=>by rw[d] at z;cases z⟩
 keep:=fun i h h' st k=>by
  obtain⟨o,e,r⟩:=st;exact⟨o,k it (by simp) o e,r⟩
 item:=by
  intro X hP hw hK hc i pins s σ H E I hf st hg;subst hP hw hK;refine(W X.A (I.ok.hd hc)).item i s _ _ hg st fun v h' tk hv gm kk=>?_
  obtain⟨c,u,hx,rfl⟩:=hv;have I1:Inv X pins σ H { s with heap:=h',toks:=tk }:=I.jQ kk hf;obtain⟨o,e,c',d⟩:=id gm;exact⟨_,rfl,Ad (s:={ s with heap:=h',toks:=tk }) e c' d hn ⟨.str ⟨#[c]⟩,H,I1,⟨u,rfl⟩,⟨rfl,c,hx,rfl⟩,gm,fun b hb=>(hf b hb).1⟩⟩
 done:=by
  intro X hP hw hK hc i pins s σ H E I hf st hg;subst hP hw hK;have e:i=x.cps.size:=hg;subst e;exact(W X.A (I.ok.hd hc)).done s _ _ st fun h' tk kk=>⟨rfl,I.jQ kk hf⟩
 self:=hs
section
variable {X:Cx} {tg:Expr}
theorem Mt{pins:List (Addr×Obj)}{σ:St}{H:Hp}{s:Shared}{R:It->Hp->Prop}{E:Value->Shared->Prop}{x:Str}{t:Tok}(I:Inv X pins σ H s)(q:R (BX x) H) :
  wpAny (model X.prog X.w) X.A (pyIter (.str x t)) (BR X pins σ tg R) E s:=by
 have fin:∀(o:Obj) (n:String),(hn:["enumerate","zip","dict_itemiterator","dict_reverseitemiterator","odict_iterator","itertools.zip_longest","itertools.pairwise"].contains n=false)->
   (W:∀A':Around,A'.handled=none->Walks X.prog X.w A' s.heap.objs.size [s.heap.objs.size] [s.heap.objs.size] x.cps.size (SignAt x) (fun i h=>h.IsStrIter s.heap.objs.size n x t i))->
   (hs:∀(A:Around) (i:Nat) (s':Shared) (Q:Value->Shared->Prop) (E:Value->Shared->Prop),s'.heap.IsStrIter s.heap.objs.size n x t i->Q (.ref s.heap.objs.size) s'->wpAny (model X.prog X.w) A (pyIter (.ref s.heap.objs.size)) Q E s')->
   (s.heap.push o).IsStrIter s.heap.objs.size n x t 0->BR X pins σ tg R (.ref s.heap.objs.size) { s with heap:=s.heap.push o }:=fun o n hn W hs st=>by
  refine⟨s.heap.objs.size,[s.heap.objs.size],_,_,H,rfl,I.kept (t':=s.toks) fun b o e=>av _ e,OG hn W hs,st,fun b hb=>?_,q⟩;have e:b=s.heap.objs.size:=by simpa using hb
  subst e;exact I.nt (az _) (I.cz.fresh (az _))
 cases ha:x.cps.all (·<128)
 ·exact wpAny_pyIter_wide ha (fin _ _ (by decide) (fun A' hA=>Walks.strWide hA _ x t) (fun _ _ _ _ _ st q=>wpAny_pyIter_striter_wide st q) ⟨_,aP _ rfl,rfl,rfl⟩)
 ·exact wpAny_pyIter_ascii ha (fin _ _ (by decide) (fun A' hA=>Walks.strAscii hA _ x t) (fun _ _ _ _ _ st q=>wpAny_pyIter_striter_ascii st q) ⟨_,aP _ rfl,rfl,rfl⟩)
def LG(K:PySem.W.Frag)(tl:TE):TI:=fun σ H R=>tl σ H fun x H1=>(∃a,x=.ref a/\(∃xs,eI K H1 a xs)/\R (FN K a) H1)\/(∃a,x=.ref a/\(∃xs,fW K H1 a xs)/\R (FL K a) H1)\/(∃z,x=.str z/\R (BX z) H1)
theorem Ms{l:Expr}{tl:TE}(hl:PE X l tl):PI X tg l (LG X.K tl):=by
 intro pins s σ H R I h;refine cJ (hl pins s σ H _ I h) fun v s1 bR=>?_
 obtain⟨x,H1,I1,r1,q1⟩:=bR;rcases q1 with⟨a,e,⟨xs,hq⟩,q⟩ | ⟨a,e,⟨xs,hq⟩,q⟩ | ⟨z,e,q⟩
 ·subst e;cases r1;obtain⟨its,rv,p,hz⟩:=I1.list hq;refine wpAny_pyIter_list p.isList ?_;refine⟨s1.heap.objs.size,[s1.heap.objs.size],_,_,H1,rfl,I1.kept (t':=s1.toks) fun b o e=>av _ e,Qi a _,⟨_,aP _ rfl,rfl,rfl⟩,fun b hb=>?_,q⟩;have e:b=s1.heap.objs.size:=by simpa using hb
  subst e;exact I1.nt (az _) (I1.cz.fresh (az _))
 ·subst e;cases r1;obtain⟨its,rv,p,hz⟩:=I1.tuple hq;refine wpAny_pyIter_tuple (show s1.heap.IsTuple a its.toArray from p) ?_;refine⟨s1.heap.objs.size,[s1.heap.objs.size],_,_,H1,rfl,I1.kept (t':=s1.toks) fun b o e=>av _ e,QO a _,⟨_,aP _ rfl,rfl,rfl⟩,fun b hb=>?_,q⟩;have e:b=s1.heap.objs.size:=by simpa using hb
  subst e;exact I1.nt (az _) (I1.cz.fresh (az _))
 ·subst e;obtain⟨t,rfl⟩:=r1;exact Mt I1 q
end
noncomputable def FO(K:PySem.W.Frag)(a:Addr):It:=
 ⟨fun i H=>∃xs x,eI K H a xs/\xs[i]?=some x,fun i H v H'=>∃t,v=.ref t/\H t=none/\∀xs,eI K H a xs->∃x,xs[i]?=some x/\H'=upd H t (.tup [.int i,x]),fun i H=>∃xs,eI K H a xs/\xs.length<=i⟩
noncomputable def FK(K:PySem.W.Frag)(a b:Addr):It:=
 ⟨fun i H=>∃xs ys x y,eI K H a xs/\eI K H b ys/\xs[i]?=some x/\ys[i]?=some y,fun i H v H'=>∃t,v=.ref t/\H t=none/\∀xs ys,eI K H a xs->eI K H b ys->∃x y,xs[i]?=some x/\ys[i]?=some y/\H'=upd H t (.tup [x,y]),
  fun i H=>∃xs ys,eI K H a xs/\eI K H b ys/\(xs.length<=i\/ys.length<=i)⟩
theorem GK{H:Hp}{t:Addr}{o:HO}{fp:List Addr}(h:∀b∈fp,H b=none)(ht:∀b∈fp,b≠t):∀b∈fp,upd H t o b=none:=fun b hb=>by rw[cR (ht b hb)];exact h b hb
theorem Q3{prog:Program}{w:World}{A:Around}{E:Value->Shared->Prop}{s:Shared}{elts:List Expr}{x1}{pos:Pos}{e it T:Addr}{i:Int}{old:Value}{Q:Unit->Shared->Prop}(he:IsEnumOut s.heap e it i old T)
  (hQ:∀h',IsEnum h' e it i old->Heap.SameBut e s.heap h'->Q () { s with heap:=h' }) :
  wpAny (model prog w) A (letOwnedTupleGo (.Tuple elts x1 pos) (.ref e) (.ref T)) Q E s:=by
 unfold letOwnedTupleGo;refine ae (wpAny_load he ?_);show wpAny _ _ (if (["enumerate","zip","dict_itemiterator","dict_reverseitemiterator","odict_iterator","itertools.zip_longest","itertools.pairwise"].contains "enumerate" &&
   (#[rawInt T,.bool false,.ref it,rawInt i,.none,old]:Array Value)[0]?==some (rawInt T))=true then _ else _) Q E s
 rw[if_pos (by simp)];refine ae (wpAny_rule ?_);show wpAny _ _ (setField (.ref e) 0 .none) Q E s;exact wpAny_setField_rec he (by simp) fun h' UI t6=>hQ h' UI t6
theorem P5{P:Program}{w:World}{K:PySem.W.Frag}{elts:List Expr}{x1}{pos:Pos}(a e it:Addr)(jf:e≠it):Turn P w K (.Tuple elts x1 pos) (FO K a) [e,it] e (fun i h=>(∃old,IsEnum h e it i old)/\h.IsListIter it a i) where
 mem:=by simp
 obj:=fun i h st b hb=>by
  obtain⟨⟨old,h1⟩,o,h2,c,d⟩:=st;rcases af.mp hb with rfl | hb
  ·exact⟨_,h1,fun v z=>by have z':Data.fields _=Data.cell v:=z;cases z'⟩
  ·have e:b=it:=by simpa using hb
   subst e;exact⟨o,h2,fun v z=>by rw[d] at z;cases z⟩
 keep:=fun i h h' st k=>by
  obtain⟨⟨old,h1⟩,h2⟩:=st;exact⟨⟨old,k e (by simp) _ h1⟩,h2.at fun o q=>k it (by simp) o q⟩
 item:=by
  intro X hP hw hK hc i pins s σ H E I hf st hg;subst hP hw hK;obtain⟨xs,x,hq,hx⟩:=hg;obtain⟨its,rv,p,hz⟩:=I.list hq;obtain⟨u,hu,ru⟩:=rv.get hx;obtain⟨⟨old,h1⟩,h2⟩:=st;refine wpAny_pyNext_enum_item h1 h2 p.isList (x:=u) (by simpa using hu) jf fun h' e1 e2 e3 e4 kk=>?_
  refine⟨_,rfl,Q3 e1 fun vm e5 sb=>?_⟩;have J8:s.heap.objs.size≠e:=Nat.ne_of_gt (ax h1);have UR:s.heap.objs.size≠it:=by obtain⟨o,q,_⟩:=h2;exact Nat.ne_of_gt (ax q)
  have hT:vm.get? s.heap.objs.size=some { cls:=.type "tuple",data:=.seq #[.int i s.toks,u] }:=sb.extBut _ _ J8 e3;have eC:H s.heap.objs.size=none:=I.cz.fresh (az _);have new:dG X.prog X.w (upd H s.heap.objs.size (.tup [.int i,x])) vm s.heap.objs.size (.tup [.int i,x]):=⟨GL,[.int i s.toks,u],.cons ⟨_,rfl⟩ (.cons ru .nil),⟨_,hT,rfl,_,rfl⟩⟩
  refine⟨.ref s.heap.objs.size,upd H s.heap.objs.size (.tup [.int i,x]),I.kW (fp:=[e,it]) (fun b o hb q=>sb.extBut b o (fun z=>hb (by simp[z])) (kk b o (fun z=>hb (by simp[z])) (fun z=>hb (by simp[z])) q)) hf (az _) new,rfl,
   ⟨_,rfl,eC,fun ys hy=>⟨x,by rw[I.gX hy hq];exact hx,rfl⟩⟩,⟨⟨u,e5⟩,e2.extBut sb.extBut (Ne.symm jf)⟩,GK (fun b hb=>(hf b hb).1) fun b hb=>?_⟩
  rcases af.mp hb with rfl | hb
  ·exact J8.symm
  ·have z:b=it:=by simpa using hb
   rw[z];exact UR.symm
 done:=by
  intro X hP hw hK hc i pins s σ H E I hf st hg;subst hP hw hK;obtain⟨xs,hq,hx⟩:=hg;obtain⟨its,rv,p,hz⟩:=I.list hq;obtain⟨⟨old,h1⟩,h2⟩:=st;have hl:=rv.length;exact wpAny_pyNext_enum_end (I.ok.hd hc) h1 h2 p.isList (by simp;omega) fun h' eb=>⟨rfl,I.jQ (fp:=[e,it]) (t':=s.toks) (fun b o hb q=>eb b o (fun z=>hb (by simp[z])) q) hf⟩
 self:=fun _ _ _ _ _ st h=>by
  obtain⟨⟨old,h1⟩,_⟩:=st;exact wpAny_pyIter_enum h1 h
end L2
namespace L2
open PySem PySem.Spec PyProof.Rows
section
variable {X:Cx} {elts:List Expr} {x1:Nat} {sg:Pos}
def LV(K:PySem.W.Frag)(ta:TA):TI:=fun σ H R=>ta σ H fun vs H1=>∃a xs,vs=[.ref a]/\j7 K H1 a xs/\R (FO K a) H1
theorem Ow{a:Expr}{ta:TA}{p pos:Pos}(hg:Gl X "enumerate")(hm:X.mg "enumerate"=none)(ha:PA X [a] ta)(hs:starEach [a] X.env=[(false,eval a X.env)]:=by rfl):PI X (.Tuple elts x1 sg) (.Call (.Name "enumerate" p) [a] [] pos) (LV X.K ta):=by
 intro pins s σ H R I h;refine Call_ (tL I hg hm boot_enumerate (PyProof.Rows.callWith_type1 (cJ (ha pos pins s σ H _ I h) fun us s1 bR=>?_) hs rfl));obtain⟨vs,H1,I1,r1,q1⟩:=bR;obtain⟨l,xs,e,hl,q⟩:=q1;subst e;obtain⟨u,rfl,ru⟩:=lh r1;cases ru;obtain⟨z,its,n,r,e⟩:=I1.fw hl;refine call_enumerate_1 e fun h' e1 e2 e3 kk=>?_
 refine wpAny_pyIter_enum e1 ?_;have jf:s1.heap.objs.size+1≠s1.heap.objs.size:=by omega
 refine⟨s1.heap.objs.size+1,[s1.heap.objs.size+1,s1.heap.objs.size],_,_,H1,rfl,I1.kept (t':=s1.toks) kk,P5 l _ _ jf,⟨⟨_,e1⟩,e2⟩,fun b hb=>?_,q⟩;have wH:s1.heap.objs.size<=b:=by
  rcases af.mp hb with rfl | hb
  ·exact Nat.le_succ _
  ·have e:b=s1.heap.objs.size:=by simpa using hb
   exact Nat.le_of_eq e.symm
 exact I1.nt wH (I1.cz.fresh wH)
theorem OF{P:Program}{w:World}{K:PySem.W.Frag}(a b z TI TO i1 i2:Addr)(D1:TI≠z/\TO≠z/\i1≠z/\i2≠z/\TI≠TO/\TI≠i1/\TI≠i2/\TO≠i1/\TO≠i2/\i1≠i2):Turn P w K (.Tuple elts x1 sg) (FK K a b) [z,TI,TO,i1,i2] z
  (fun i h=>IsZip h z TI TO .none/\IsPair h TI (.ref i1) (.ref i2)/\(∃a b,IsPair h TO a b)/\h.IsListIter i1 a i/\h.IsListIter i2 b i) where
 mem:=by simp
 obj:=fun i h st c hc=>by
  obtain⟨h1,h2,⟨u,v,h3⟩,⟨o1,g1,_,d1⟩,⟨o2,g2,_,d2⟩⟩:=st;simp only[af,aH,or_false] at hc;rcases hc with rfl | rfl | rfl | rfl | rfl
  ·exact⟨_,h1,fun v z=>by have z':Data.fields _=Data.cell v:=z;cases z'⟩
  ·exact⟨_,h2,fun v z=>by have z':Data.seq _ _=Data.cell v:=z;cases z'⟩
  ·exact⟨_,h3,fun v z=>by have z':Data.seq _ _=Data.cell v:=z;cases z'⟩
  ·exact⟨_,g1,fun v z=>by rw[d1] at z;cases z⟩
  ·exact⟨_,g2,fun v z=>by rw[d2] at z;cases z⟩
 keep:=fun i h h' st k=>by
  obtain⟨h1,h2,⟨u,v,h3⟩,h4,h5⟩:=st;exact⟨k z (by simp) _ h1,k TI (by simp) _ h2,⟨u,v,k TO (by simp) _ h3⟩,h4.at fun o q=>k i1 (by simp) o q,h5.at fun o q=>k i2 (by simp) o q⟩
 item:=by
  intro X hP hw hK hc i pins s σ H E I hf st hg;subst hP hw hK;obtain⟨xs,ys,x,y,hq,iP,hx,hy⟩:=hg;obtain⟨its,rv,p,hz⟩:=I.list hq;obtain⟨kK,pG,p2,Ez⟩:=I.list iP;obtain⟨u,hu,ru⟩:=rv.get hx;obtain⟨v,hv,Uc⟩:=pG.get hy;obtain⟨h1,h2,⟨c,d,h3⟩,h4,h5⟩:=st;obtain⟨d1,d2,d3,d4,d5,d6,d7,d8,d9,FC⟩:=D1;have y8:∀{l:Addr} {its:List Value},PlainL s.heap l its.toArray->l≠z/\l≠TO/\l≠i1/\l≠i2:=fun{l its} pl=>by
   obtain⟨o,n,e,c1,_,dd⟩:=pl;obtain⟨o1,g1,c4,_⟩:=h4;obtain⟨o2,g2,c5,_⟩:=h5;refine⟨?_,?_,?_,?_⟩
   ·rintro rfl;rw[h1] at e;cases e;simp at c1
   ·rintro rfl;rw[h3] at e;cases e;simp at c1
   ·rintro rfl;rw[g1] at e;cases e;rw[c4] at c1;simp at c1
   ·rintro rfl;rw[g2] at e;cases e;rw[c5] at c1;simp at c1
  obtain⟨e1,e2,e3,e4⟩:=y8 p;obtain⟨f1,f2,f3,f4⟩:=y8 p2;have D:ZipApart z TI TO i1 i2 a b:=⟨d1,d2,d3,d4,d5,d6,d7,d8,d9,FC,e1,e2,e3,e4,f1,f2,f3,f4⟩
  refine wpAny_pyNext_zip_item D h1 h2 h3 h4 h5 p.isList p2.isList (x:=u) (y:=v) (by simpa using hu) (by simpa using hv) fun h' a1 a2 a3 a4 a5 a6 kk=>?_
  refine⟨_,rfl,wpAny_letOwnedTupleGo_zip a1 fun vm b1 sb=>?_⟩;have Vt:s.heap.objs.size≠z:=Nat.ne_of_gt (ax h1);have eC:H s.heap.objs.size=none:=I.cz.fresh (az _);have hT:vm.get? s.heap.objs.size=some { cls:=.type "tuple",data:=.seq #[u,v] }:=sb.extBut _ _ Vt a5;have new:dG X.prog X.w (upd H s.heap.objs.size (.tup [x,y])) vm s.heap.objs.size (.tup [x,y]):=⟨GL,[u,v],.cons ru (.cons Uc .nil),⟨_,hT,rfl,_,rfl⟩⟩
  have lt:∀{c o},s.heap.get? c=some o->c≠s.heap.objs.size:=fun e=>aI (ax e)
  refine⟨.ref s.heap.objs.size,upd H s.heap.objs.size (.tup [x,y]),I.kW (fp:=[z,TI,TO,i1,i2]) (t':=s.toks) (fun c o hc q=>sb.extBut c o (fun e=>hc (by simp[e])) (kk c o (fun e=>hc (by simp[e])) (fun e=>hc (by simp[e])) (fun e=>hc (by simp[e])) (fun e=>hc (by simp[e])) q)) hf (az _) new,rfl,
   ⟨_,rfl,eC,fun zs ws h6 h7=>⟨x,y,by rw[I.gX h6 hq];exact hx,by rw[I.gX h7 iP];exact hy,rfl⟩⟩,
   ⟨b1,sb.extBut _ _ d1 (kk _ _ d1 d5 d6 d7 h2),⟨_,_,sb.extBut _ _ d2 a2⟩,a3.extBut sb.extBut d3,a4.extBut sb.extBut d4⟩,GK (fun b hb=>(hf b hb).1) fun c hc=>?_⟩
  simp only[af,aH,or_false] at hc;rcases hc with rfl | rfl | rfl | rfl | rfl
  ·exact lt h1
  ·exact lt h2
  ·exact lt h3
  ·obtain⟨_,g,_⟩:=h4;exact lt g
  ·obtain⟨_,g,_⟩:=h5;exact lt g
 done:=by
  intro X hP hw hK hc i pins s σ H E I hf st hg;subst hP hw hK;obtain⟨xs,ys,hq,iP,hx⟩:=hg;obtain⟨its,rv,p,hz⟩:=I.list hq;obtain⟨kK,pG,p2,Ez⟩:=I.list iP;obtain⟨h1,h2,⟨c,d,h3⟩,h4,h5⟩:=st;obtain⟨d1,d2,d3,d4,d5,d6,d7,d8,d9,FC⟩:=D1;have y8:∀{l:Addr} {its:List Value},PlainL s.heap l its.toArray->l≠z/\l≠TO/\l≠i1/\l≠i2:=fun{l its} pl=>by
   obtain⟨o,n,e,c1,_,dd⟩:=pl;obtain⟨o1,g1,c4,_⟩:=h4;obtain⟨o2,g2,c5,_⟩:=h5;refine⟨?_,?_,?_,?_⟩
   ·rintro rfl;rw[h1] at e;cases e;simp at c1
   ·rintro rfl;rw[h3] at e;cases e;simp at c1
   ·rintro rfl;rw[g1] at e;cases e;rw[c4] at c1;simp at c1
   ·rintro rfl;rw[g2] at e;cases e;rw[c5] at c1;simp at c1
  obtain⟨e1,e2,e3,e4⟩:=y8 p;obtain⟨f1,f2,f3,f4⟩:=y8 p2;have D:ZipApart z TI TO i1 i2 a b:=⟨d1,d2,d3,d4,d5,d6,d7,d8,d9,FC,e1,e2,e3,e4,f1,f2,f3,f4⟩
  have l1:=rv.length;have l2:=pG.length;have Fd:its.toArray[i]?=none\/kK.toArray[i]?=none:=by
   rcases hx with hx | hx
   ·exact .inl (by simp;omega)
   ·exact .inr (by simp;omega)
  exact wpAny_pyNext_zip_end (I.ok.hd hc) D h1 h2 h3 h4 h5 p.isList p2.isList Fd fun h' kk=>⟨rfl,I.jQ (fp:=[z,TI,TO,i1,i2]) (t':=s.toks) (fun c o hc q=>kk c o (fun e=>hc (by simp[e])) (fun e=>hc (by simp[e])) (fun e=>hc (by simp[e])) (fun e=>hc (by simp[e])) q) hf⟩
 self:=fun _ _ _ _ _ st h=>wpAny_pyIter_zip st.1 h
theorem Qy(n:Nat):(n+2:Nat)≠n+4/\(n+3:Nat)≠n+4/\n≠n+4/\(n+1:Nat)≠n+4/\(n+2:Nat)≠n+3/\(n+2:Nat)≠n/\(n+2:Nat)≠n+1/\(n+3:Nat)≠n/\(n+3:Nat)≠n+1/\n≠n+1:=by omega
def LF(K:PySem.W.Frag)(ta:TA):TI:=fun σ H R=>ta σ H fun vs H1=>∃a b,vs=[.ref a,.ref b]/\(∃xs,eI K H1 a xs)/\(∃ys,eI K H1 b ys)/\R (FK K a b) H1
theorem Mr{a b:Expr}{ta:TA}{p pos:Pos}(hg:Gl X "zip")(hm:X.mg "zip"=none)(ha:PA X [a,b] ta)(hs:starEach [a,b] X.env=[(false,eval a X.env),(false,eval b X.env)]:=by rfl)(pJ:starEach [b] X.env=[(false,eval b X.env)]:=by rfl) :
  PI X (.Tuple elts x1 sg) (.Call (.Name "zip" p) [a,b] [] pos) (LF X.K ta):=by
 intro pins s σ H R I h;refine Call_ (tL I hg hm boot_zip (PyProof.Rows.callWith_type1 (cJ (ha pos pins s σ H _ I h) fun us s1 ⟨vs,H1,I1,r1,q1⟩=>?_) (by rw[hs,pJ]) (by rw[pJ];rfl)));obtain⟨l,l',e,⟨xs,hl⟩,⟨ys,vg⟩,q⟩:=q1;subst e;obtain⟨u,v,rfl,ru,rv⟩:=vE r1;cases ru;cases rv;obtain⟨its,_,p1,_⟩:=I1.list hl;obtain⟨its',_,p2,_⟩:=I1.list vg;refine call_zip_2 p1.isList p2.isList fun h' e1 e2 e3 e4 e5 e6 kk=>?_
 refine wpAny_pyIter_zip e1 ?_;refine⟨s1.heap.objs.size+4,[s1.heap.objs.size+4,s1.heap.objs.size+2,s1.heap.objs.size+3,s1.heap.objs.size,s1.heap.objs.size+1],_,_,H1,rfl,I1.kept (t':=s1.toks) kk,OF l l' _ _ _ _ _ (Qy _),
  ⟨e1,e2,⟨_,_,e3⟩,e4,e5⟩,fun b hb=>?_,q⟩
 have wH:s1.heap.objs.size<=b:=by
  simp only[af,aH,or_false] at hb;rcases hb with rfl | rfl | rfl | rfl | rfl<;>first | exact Nat.le_add_right _ _ | exact az _
 exact I1.nt wH (I1.cz.fresh wH)
end
end L2
namespace L2
open PySem PySem.Spec PyProof.Rows
inductive D where
 | non | bl (b:Bool) | int (i:Int) | str (x:Str) | tup (ds:List D) | lst (ds:List D) | obj (cn:Str) (fs:List (Str×D)) | dic (cq:List (Key×D)) | dit (cq:List (List Key×D)) | exc (cn:Str) (fs:List (Str×D))
structure ClsAt (K:PySem.W.Frag) (cn:Str) (C:Addr):Prop where
 at_:PySem.W.nsIn K mainGlobals cn=some (some (.ref C))
 cls:uo K C
def jC(H:Hp):List (List Key×V)->List Addr->Prop
 | [],[]=>True
 | p::ps,b::bs=>H b=some (.tup (p.1.map kV))/\jC H ps bs
 | _,_=>False
theorem jC.mono{H H':Hp}(e:bL H H'):∀{ps:List (List Key×V)} {bs:List Addr},jC H ps bs->jC H' ps bs
 | [],[],h=>h
 | p::ps,b::bs,h=>⟨e _ _ h.1,jC.mono e h.2⟩
 | [],_::_,h=>h.elim
 | _::_,[],h=>h.elim
def sX(H:Hp):Option Addr->List (Str×V)->Prop
 | none,gs=>gs=[]
 | some dx,gs=>∃ψ,H dx=some (.ext ψ)/\∀h:Heap,ψ h->∃mA,h.Ns1 dx mA/\∀f v,gs.lookup f=some v->∃u,mA f=some u/\RelV v u
theorem sX.mono{H H':Hp}(e:bL H H'){dd:Option Addr}{gs:List (Str×V)}(h:sX H dd gs):sX H' dd gs:=by
 cases dd with
 | none=>exact h
 | some dx=>exact let⟨ψ,a,b⟩:=h;⟨ψ,e _ _ a,b⟩
mutual
def Rep(K:PySem.W.Frag)(H:Hp):V->D->Prop
 | v,.non=>v=.non
 | v,.bl b=>v=.bl b
 | v,.int i=>v=.int i
 | v,.str x=>v=.str x
 | v,.tup ds=>∃a xs,v=.ref a/\H a=some (.tup xs)/\bw K H xs ds
 | v,.lst ds=>∃a xs,v=.ref a/\j7 K H a xs/\bw K H xs ds
 | v,.obj cn fs=>∃a C dx gs,v=.ref a/\H a=some (.ins C dx gs)/\ClsAt K cn C/\(∀p∈fs,cO K C p.1)/\cy K H gs fs
 | v,.dic cq=>∃a ks ep,v=.ref a/\H a=some (.dK ks ep)/\dz K H ks cq
 | v,.dit cq=>∃a ks bs,v=.ref a/\H a=some (.dT ks bs)/\jC H ks bs.1/\f9 K H ks cq
 | v,.exc cn fs=>∃a φ C dd gs,v=.ref a/\H a=some (.ext φ)/\PySem.W.nsIn K mainGlobals cn=some (some (.ref C))/\(∀h:Heap,φ h->∃o,h.get? a=some o/\o.cls=.ref C/\(fs=[]\/o.dict=dd/\∃vs,o.data=.fields vs))/\(fs=[]\/sX H dd gs)/\cy K H gs fs
def bw(K:PySem.W.Frag)(H:Hp):List V->List D->Prop
 | [],[]=>True
 | v::vs,d::ds=>Rep K H v d/\bw K H vs ds
 | _,_=>False
def cy(K:PySem.W.Frag)(H:Hp):List (Str×V)->List (Str×D)->Prop
 | [],[]=>True
 | v::vs,d::ds=>(v.1=d.1/\Rep K H v.2 d.2)/\cy K H vs ds
 | _,_=>False
def dz(K:PySem.W.Frag)(H:Hp):List (Key×V)->List (Key×D)->Prop
 | [],[]=>True
 | v::vs,d::ds=>(v.1=d.1/\Rep K H v.2 d.2)/\dz K H vs ds
 | _,_=>False
def f9(K:PySem.W.Frag)(H:Hp):List (List Key×V)->List (List Key×D)->Prop
 | [],[]=>True
 | v::vs,d::ds=>(v.1=d.1/\Rep K H v.2 d.2)/\f9 K H vs ds
 | _,_=>False
end
theorem bL.lz{K:PySem.W.Frag}{H H':Hp}{a:Addr}{xs:List V}(e:bL H H')(h:H a=some (.tup xs)):fW K H' a xs:=fW.of (e _ _ h)
theorem bL.qp{K:PySem.W.Frag}{H H':Hp}{a:Addr}{xs:List V}(e:bL H H')(h:fW K H a xs):fW K H' a xs:=by
 rcases h with(h | ⟨o,h⟩) | h
 ·exact .inl (.inl (e _ _ h))
 ·exact .inl (.inr ⟨o,e _ _ h⟩)
 ·exact .inr h
mutual
theorem Rep.mono{K:PySem.W.Frag}{H H':Hp}(e:bL H H'):∀(v:V) (d:D),Rep K H v d->Rep K H' v d
 | v,.non,h=>by simpa only[Rep] using h
 | v,.bl b,h=>by simpa only[Rep] using h
 | v,.int i,h=>by simpa only[Rep] using h
 | v,.str x,h=>by simpa only[Rep] using h
 | v,.tup ds,h=>by
  simp only[Rep] at h ⊢;obtain⟨a,xs,h1,h2,h3⟩:=h;exact⟨a,xs,h1,e _ _ h2,bw.mono e xs ds h3⟩
 | v,.lst ds,h=>by
  simp only[Rep] at h ⊢;obtain⟨a,xs,h1,h2,h3⟩:=h;exact⟨a,xs,h1,e.fw h2,bw.mono e xs ds h3⟩
 | v,.obj cn fs,h=>by
  simp only[Rep] at h ⊢;obtain⟨a,C,dx,gs,h1,h2,h3,h4,h5⟩:=h;exact⟨a,C,dx,gs,h1,e _ _ h2,h3,h4,cy.mono e gs fs h5⟩
 | v,.dic cq,h=>by
  simp only[Rep] at h ⊢;obtain⟨a,ks,ep,h1,h2,h3⟩:=h;exact⟨a,ks,ep,h1,e _ _ h2,dz.mono e ks cq h3⟩
 | v,.dit cq,h=>by
  simp only[Rep] at h ⊢;obtain⟨a,ks,bs,h1,h2,h3,h4⟩:=h;exact⟨a,ks,bs,h1,e _ _ h2,h3.mono e,f9.mono e ks cq h4⟩
 | v,.exc cn fs,h=>by
  simp only[Rep] at h ⊢;obtain⟨a,φ,C,dd,gs,h1,h2,h3,h4,h5,h6⟩:=h;exact⟨a,φ,C,dd,gs,h1,e _ _ h2,h3,h4,h5.imp id fun z=>z.mono e,cy.mono e gs fs h6⟩
theorem bw.mono{K:PySem.W.Frag}{H H':Hp}(e:bL H H'):∀(vs:List V) (ds:List D),bw K H vs ds->bw K H' vs ds
 | [],[],h=>by simp only[bw]
 | v::vs,d::ds,h=>by
  simp only[bw] at h ⊢;exact⟨Rep.mono e v d h.1,bw.mono e vs ds h.2⟩
 | [],_::_,h=>by simp only[bw] at h
 | _::_,[],h=>by simp only[bw] at h
theorem cy.mono{K:PySem.W.Frag}{H H':Hp}(e:bL H H'):∀(vs:List (Str×V)) (ds:List (Str×D)),cy K H vs ds->cy K H' vs ds
 | [],[],h=>by simp only[cy]
 | (x,v)::vs,(y,d)::ds,h=>by
  simp only[cy] at h ⊢;exact⟨⟨h.1.1,Rep.mono e v d h.1.2⟩,cy.mono e vs ds h.2⟩
 | [],_::_,h=>by simp only[cy] at h
 | _::_,[],h=>by simp only[cy] at h
theorem dz.mono{K:PySem.W.Frag}{H H':Hp}(e:bL H H'):∀(vs:List (Key×V)) (ds:List (Key×D)),dz K H vs ds->dz K H' vs ds
 | [],[],h=>by simp only[dz]
 | (x,v)::vs,(y,d)::ds,h=>by
  simp only[dz] at h ⊢;exact⟨⟨h.1.1,Rep.mono e v d h.1.2⟩,dz.mono e vs ds h.2⟩
 | [],_::_,h=>by simp only[dz] at h
 | _::_,[],h=>by simp only[dz] at h
theorem f9.mono{K:PySem.W.Frag}{H H':Hp}(e:bL H H'):∀(vs:List (List Key×V)) (ds:List (List Key×D)),f9 K H vs ds->f9 K H' vs ds
 | [],[],h=>by simp only[f9]
 | (x,v)::vs,(y,d)::ds,h=>by
  simp only[f9] at h ⊢;exact⟨⟨h.1.1,Rep.mono e v d h.1.2⟩,f9.mono e vs ds h.2⟩
 | [],_::_,h=>by simp only[f9] at h
 | _::_,[],h=>by simp only[f9] at h
end
section
variable {K:PySem.W.Frag} {H H':Hp}
theorem bw.length:∀{vs:List V} {ds:List D},bw K H vs ds->vs.length=ds.length
 | [],[],_=>rfl
 | v::vs,d::ds,h=>by
  simp only[bw] at h;simp only[aB,bw.length h.2]
 | [],_::_,h=>by simp only[bw] at h
 | _::_,[],h=>by simp only[bw] at h
theorem bw.get:∀{vs:List V} {ds:List D} {i:Nat} {d:D},bw K H vs ds->ds[i]?=some d->∃v,vs[i]?=some v/\Rep K H v d
 | [],[],i,d,_,e=>by simp at e
 | v::vs,d'::ds,0,d,h,e=>by
  simp only[bw] at h;simp only[List.getElem?_cons_zero,Option.some.injEq] at e;subst e;exact⟨v,rfl,h.1⟩
 | v::vs,d'::ds,i+1,d,h,e=>by
  simp only[bw] at h;simp only[List.getElem?_cons_succ] at e ⊢;exact bw.get h.2 e
 | [],_::_,_,_,h,_=>by simp only[bw] at h
 | _::_,[],_,_,h,_=>by simp only[bw] at h
theorem bw.zA:∀{vs:List V} {ds:List D} {i:Nat} {v:V},bw K H vs ds->vs[i]?=some v->∃d,ds[i]?=some d/\Rep K H v d
 | [],[],i,d,_,e=>by simp at e
 | v'::vs,d::ds,0,v,h,e=>by
  simp only[bw] at h;simp only[List.getElem?_cons_zero,Option.some.injEq] at e;subst e;exact⟨d,rfl,h.1⟩
 | v'::vs,d::ds,i+1,v,h,e=>by
  simp only[bw] at h;simp only[List.getElem?_cons_succ] at e ⊢;exact bw.zA h.2 e
 | [],_::_,_,_,h,_=>by simp only[bw] at h
 | _::_,[],_,_,h,_=>by simp only[bw] at h
theorem bw.nil:bw K H [] []:=by simp only[bw]
theorem bw.cons{v:V}{vs:List V}{d:D}{ds:List D}(h:Rep K H v d)(hs:bw K H vs ds):bw K H (v::vs) (d::ds):=by simp only[bw];exact⟨h,hs⟩
theorem bw.append:∀{vs:List V} {ds:List D} {us:List V} {es:List D},bw K H vs ds->bw K H us es->bw K H (vs++us) (ds++es)
 | [],[],_,_,_,h=>h
 | v::vs,d::ds,_,_,h,h'=>by
  simp only[bw] at h;exact bw.cons h.1 (bw.append h.2 h')
 | [],_::_,_,_,h,_=>by simp only[bw] at h
 | _::_,[],_,_,h,_=>by simp only[bw] at h
theorem bw.take:∀{vs:List V} {ds:List D} (n:Nat),bw K H vs ds->bw K H (vs.take n) (ds.take n)
 | _,_,0,_=>bw.nil
 | [],[],_+1,_=>bw.nil
 | v::vs,d::ds,n+1,h=>by
  simp only[bw] at h;exact bw.cons h.1 (bw.take n h.2)
 | [],_::_,_+1,h=>by simp only[bw] at h
 | _::_,[],_+1,h=>by simp only[bw] at h
theorem bw.drop:∀{vs:List V} {ds:List D} (n:Nat),bw K H vs ds->bw K H (vs.drop n) (ds.drop n)
 | _,_,0,h=>h
 | [],[],_+1,_=>bw.nil
 | v::vs,d::ds,n+1,h=>by
  simp only[bw] at h;exact bw.drop n h.2
 | [],_::_,_+1,h=>by simp only[bw] at h
 | _::_,[],_+1,h=>by simp only[bw] at h
theorem bw.set:∀{vs:List V} {ds:List D} {v:V} {d:D} (n:Nat),bw K H vs ds->Rep K H v d->bw K H (vs.set n v) (ds.set n d)
 | [],[],_,_,_,_,_=>bw.nil
 | v'::vs,d'::ds,v,d,0,h,q=>by
  simp only[bw] at h;exact bw.cons q h.2
 | v'::vs,d'::ds,v,d,n+1,h,q=>by
  simp only[bw] at h;exact bw.cons h.1 (bw.set n h.2 q)
 | [],_::_,_,_,_,h,_=>by simp only[bw] at h
 | _::_,[],_,_,_,h,_=>by simp only[bw] at h
end
structure Ext (G H G' H':Hp):Prop where
 g:bL G G'
 h:bL H H'
 s:bL G' H'
 n:∀p,G p=none->H p≠none->G' p=none
theorem Ext.refl{G H:Hp}(s:bL G H):Ext G H G H:=⟨bL.refl _,bL.refl _,s,fun _ h _=>h⟩
theorem Ext.trans{G H G1 H1 G2 H2:Hp}(a:Ext G H G1 H1)(b:Ext G1 H1 G2 H2):Ext G H G2 H2:=
 ⟨a.g.trans b.g,a.h.trans b.h,b.s,fun p h1 h2=>b.n p (a.n p h1 h2) fun z=>h2 (a.h.free z)⟩
theorem tN{H:Hp}{p:Addr}{o:HO}(h:H p=none):bL H (upd H p o):=fun b u e=>by rw[cR (iM e h)];exact e
theorem Qw{G H:Hp}{p:Addr}{o:HO}(s:bL G H):bL (upd G p o) (upd H p o):=fun b u e=>by
 by_cases hb:b=p
 ·subst hb;rw[gP] at e ⊢;exact e
 ·rw[cR hb] at e ⊢;exact s b u e
theorem Ext.new{G H:Hp}{p:Addr}{o:HO}(s:bL G H)(h:H p=none):Ext G H (upd G p o) (upd H p o):=
 ⟨tN (s.free h),tN h,Qw s,fun q h1 h2=>by rw[cR (fun z=>h2 (by rw[z];exact h))];exact h1⟩
theorem Ext.own{G H:Hp}{p:Addr}{o:HO}(s:bL G H)(h:H p=none):Ext G H G (upd H p o):=
 ⟨bL.refl _,tN h,s.trans (tN h),fun q h1 _=>h1⟩
inductive OV where
 | ll (cf:List (List D))
 | dc (cq:List (Key×D))
 | dl (cq:List (Key×List D))
 | tl (d:D) (ds:List D)
 | ld (vn:List (List (Key×D)))
 | dt (cq:List (List Key×List D))
 | tp (ds:List D)
 | ob (cn:Str) (fs:List (Str×List D))
 | dq (cq:List (List Key×D))
noncomputable def OV.val:OV->D
 | .ll cf=>.lst (cf.map .lst)
 | .dc cq=>.dic cq
 | .dl cq=>.dic (cq.map fun p=>(p.1,.lst p.2))
 | .tl d ds=>.tup [d,.lst ds]
 | .ld vn=>.lst (vn.map .dic)
 | .dt cq=>.dit (cq.map fun p=>(p.1,.lst p.2))
 | .tp ds=>.tup ds
 | .ob cn fs=>.obj cn (fs.map fun p=>(p.1,.lst p.2))
 | .dq cq=>.dit cq
inductive R where
 | fz (d:D)
 | ow (ds:List D)
 | ov (o:OV)
noncomputable def R.val:R->D
 | .fz d=>d
 | .ow ds=>.lst ds
 | .ov o=>o.val
inductive Sl where
 | un
 | fz (d:D)
 | ow (ds:List D)
 | ov (o:OV)
noncomputable def R.sl:R->Sl
 | .fz d=>.fz d
 | .ow ds=>.ow ds
 | .ov o=>.ov o
def bM(K:PySem.W.Frag)(G H:Hp):List Addr->List (List D)->Prop
 | [],[]=>True
 | q::qs,ds::cf=>(∃xs,H q=some (.lst xs)/\bw K G xs ds)/\bM K G H qs cf
 | _,_=>False
theorem bM.mono{K:PySem.W.Frag}{G H G' H':Hp}(g:bL G G'):∀{qs:List Addr} {cf:List (List D)},(∀q∈qs,∀xs,H q=some (.lst xs)->H' q=some (.lst xs))->bM K G H qs cf->bM K G' H' qs cf
 | [],[],_,_=>by simp only[bM]
 | q::qs,ds::cf,hh,h=>by
  simp only[bM] at h ⊢;obtain⟨⟨xs,h1,h2⟩,h3⟩:=h;exact⟨⟨xs,hh q (by simp) xs h1,h2.mono g⟩,bM.mono g (fun r hr=>hh r (by simp[hr])) h3⟩
 | [],_::_,_,h=>by simp only[bM] at h
 | _::_,[],_,h=>by simp only[bM] at h
theorem bM.here{K:PySem.W.Frag}{G H:Hp}:∀{qs:List Addr} {cf:List (List D)},bM K G H qs cf->∀q∈qs,H q≠none
 | [],[],_,q,hq=>by cases hq
 | q::qs,ds::cf,h,r,hr=>by
  simp only[bM] at h;obtain⟨⟨xs,h1,h2⟩,h3⟩:=h;rcases af.mp hr with rfl | hr
  ·rw[h1];exact nofun
  ·exact bM.here h3 r hr
 | [],_::_,h,_,_=>by simp only[bM] at h
 | _::_,[],h,_,_=>by simp only[bM] at h
theorem bM.mm{K:PySem.W.Frag}{G H G':Hp}(g:bL G G'):∀{qs:List Addr} {cf:List (List D)},(∀q∈qs,∀xs,H q=some (.lst xs)->G' q=some (.lst xs))->bM K G H qs cf->bw K G' (qs.map V.ref) (cf.map D.lst)
 | [],[],_,_=>bw.nil
 | q::qs,ds::cf,hh,h=>by
  simp only[bM] at h;obtain⟨⟨xs,h1,h2⟩,h3⟩:=h;refine bw.cons ?_ (bM.mm g (fun r hr=>hh r (by simp[hr])) h3);simp only[Rep];exact⟨q,xs,rfl,j7.of (hh q (by simp) xs h1),h2.mono g⟩
 | [],_::_,_,h=>by simp only[bM] at h
 | _::_,[],_,h=>by simp only[bM] at h
def eT(K:PySem.W.Frag)(G H:Hp):List Addr->List (List (Key×D))->Prop
 | [],[]=>True
 | q::qs,ds::cf=>(∃ks ep,H q=some (.dK ks ep)/\dz K G ks ds)/\eT K G H qs cf
 | _,_=>False
theorem eT.mono{K:PySem.W.Frag}{G H G' H':Hp}(g:bL G G'):∀{qs:List Addr} {cf:List (List (Key×D))},(∀q∈qs,∀u,H q=some u->H' q=some u)->eT K G H qs cf->eT K G' H' qs cf
 | [],[],_,_=>by simp only[eT]
 | q::qs,ds::cf,hh,h=>by
  simp only[eT] at h ⊢;obtain⟨⟨ks,ep,h1,h2⟩,h3⟩:=h;exact⟨⟨ks,ep,hh q (by simp) _ h1,dz.mono g _ _ h2⟩,eT.mono g (fun r hr=>hh r (by simp[hr])) h3⟩
 | [],_::_,_,h=>by simp only[eT] at h
 | _::_,[],_,h=>by simp only[eT] at h
theorem eT.kind{K:PySem.W.Frag}{G H:Hp}:∀{qs:List Addr} {cf:List (List (Key×D))},eT K G H qs cf->∀q∈qs,∃ks ep,H q=some (.dK ks ep)
 | [],[],_,q,hq=>by cases hq
 | q::qs,ds::cf,h,r,hr=>by
  simp only[eT] at h;obtain⟨⟨ks,ep,h1,h2⟩,h3⟩:=h;rcases af.mp hr with rfl | hr
  ·exact⟨ks,ep,h1⟩
  ·exact eT.kind h3 r hr
 | [],_::_,h,_,_=>by simp only[eT] at h
 | _::_,[],h,_,_=>by simp only[eT] at h
theorem eT.here{K:PySem.W.Frag}{G H:Hp}{qs:List Addr}{cf:List (List (Key×D))}(h:eT K G H qs cf):∀q∈qs,H q≠none:=fun q hq=>by
 obtain⟨ks,ep,e⟩:=h.kind q hq;rw[e];exact nofun
theorem eT.mm{K:PySem.W.Frag}{G H G':Hp}(g:bL G G'):∀{qs:List Addr} {cf:List (List (Key×D))},(∀q∈qs,∀u,H q=some u->G' q=some u)->eT K G H qs cf->bw K G' (qs.map V.ref) (cf.map D.dic)
 | [],[],_,_=>bw.nil
 | q::qs,ds::cf,hh,h=>by
  simp only[eT] at h;obtain⟨⟨ks,ep,h1,h2⟩,h3⟩:=h;refine bw.cons ?_ (eT.mm g (fun r hr=>hh r (by simp[hr])) h3);simp only[Rep];exact⟨q,ks,ep,rfl,hh q (by simp) _ h1,dz.mono g _ _ h2⟩
 | [],_::_,_,h=>by simp only[eT] at h
 | _::_,[],_,h=>by simp only[eT] at h
def jq(K:PySem.W.Frag)(G H:Hp)(p:Addr)(fp:List Addr):OV->Prop
 | .ll cf=>H p=some (.lst (fp.map V.ref))/\bM K G H fp cf
 | .dc cq=>fp=[]/\∃ks ep,H p=some (.dK ks ep)/\dz K G ks cq
 | .dl cq=>∃ks ep,H p=some (.dK ks ep)/\ks.map (·.1)=cq.map (·.1)/\ks.map (·.2)=fp.map V.ref/\bM K G H fp (cq.map (·.2))
 | .tl d ds=>∃q v xs,fp=[q]/\H p=some (.tup [v,.ref q])/\Rep K G v d/\H q=some (.lst xs)/\bw K G xs ds
 | .ld vn=>H p=some (.lst (fp.map V.ref))/\eT K G H fp vn
 | .dt cq=>∃ks bs,H p=some (.dT ks bs)/\jC G ks bs.1/\ks.map (·.1)=cq.map (·.1)/\ks.map (·.2)=fp.map V.ref/\bM K G H fp (cq.map (·.2))
 | .tp ds=>fp=[]/\∃xs,H p=some (.tup xs)/\bw K G xs ds
 | .ob cn fs=>∃C dx gs,H p=some (.ins C dx gs)/\ClsAt K cn C/\(∀p∈fs,cO K C p.1)/\gs.map (·.1)=fs.map (·.1)/\gs.map (·.2)=fp.map V.ref/\bM K G H fp (fs.map (·.2))
 | .dq cq=>fp=[]/\∃ks bs,H p=some (.dT ks bs)/\jC G ks bs.1/\f9 K G ks cq
theorem jq.here{K:PySem.W.Frag}{G H:Hp}{p:Addr}{fp:List Addr}{o:OV}(h:jq K G H p fp o):∀q∈p::fp,H q≠none:=by
 intro q hq;cases o with
 | ll cf=>
  rcases af.mp hq with rfl | hq
  ·rw[h.1];exact nofun
  ·exact h.2.here q hq
 | dc cq=>
  obtain⟨rfl,ks,ep,h1,_⟩:=h;simp only[aF] at hq;subst hq;rw[h1];exact nofun
 | dl cq=>
  obtain⟨ks,ep,h1,_,_,h4⟩:=h;rcases af.mp hq with rfl | hq
  ·rw[h1];exact nofun
  ·exact h4.here q hq
 | tl d ds=>
  obtain⟨r,v,xs,rfl,h1,_,h2,_⟩:=h;simp only[af,aH,or_false] at hq;rcases hq with rfl | rfl
  ·rw[h1];exact nofun
  ·rw[h2];exact nofun
 | ld vn=>
  rcases af.mp hq with rfl | hq
  ·rw[h.1];exact nofun
  ·exact h.2.here q hq
 | dt cq=>
  obtain⟨ks,bs,h1,_,_,_,h4⟩:=h;rcases af.mp hq with rfl | hq
  ·rw[h1];exact nofun
  ·exact h4.here q hq
 | tp ds=>
  obtain⟨rfl,xs,h1,_⟩:=h;simp only[aF] at hq;subst hq;rw[h1];exact nofun
 | ob cn fs=>
  obtain⟨C,dx,gs,h1,_,_,_,_,h4⟩:=h;rcases af.mp hq with rfl | hq
  ·rw[h1];exact nofun
  ·exact h4.here q hq
 | dq cq=>
  obtain⟨rfl,ks,bs,h1,_⟩:=h;simp only[aF] at hq;subst hq;rw[h1];exact nofun
theorem jq.mono{K:PySem.W.Frag}{G H G' H':Hp}{p:Addr}{fp:List Addr}{o:OV}(g:bL G G')(hh:∀q∈p::fp,∀u,H q=some u->H' q=some u)(h:jq K G H p fp o):jq K G' H' p fp o:=by
 cases o with
 | ll cf=>exact⟨hh p (by simp) _ h.1,h.2.mono g fun q hq xs=>hh q (by simp[hq]) _⟩
 | dc cq=>
  obtain⟨rfl,ks,ep,h1,h2⟩:=h;exact⟨rfl,ks,ep,hh p (by simp) _ h1,dz.mono g _ _ h2⟩
 | dl cq=>
  obtain⟨ks,ep,h1,h2,h3,h4⟩:=h;exact⟨ks,ep,hh p (by simp) _ h1,h2,h3,h4.mono g fun q hq xs=>hh q (by simp[hq]) _⟩
 | tl d ds=>
  obtain⟨r,v,xs,rfl,h1,h2,h3,h4⟩:=h;exact⟨r,v,xs,rfl,hh p (by simp) _ h1,h2.mono g,hh r (by simp) _ h3,h4.mono g⟩
 | ld vn=>exact⟨hh p (by simp) _ h.1,h.2.mono g fun q hq=>hh q (by simp[hq])⟩
 | dt cq=>
  obtain⟨ks,bs,h1,hk,h2,h3,h4⟩:=h;exact⟨ks,bs,hh p (by simp) _ h1,hk.mono g,h2,h3,h4.mono g fun q hq xs=>hh q (by simp[hq]) _⟩
 | tp ds=>
  obtain⟨rfl,xs,h1,h2⟩:=h;exact⟨rfl,xs,hh p (by simp) _ h1,h2.mono g⟩
 | ob cn fs=>
  obtain⟨C,dx,gs,h1,hc,hn,h2,h3,h4⟩:=h;exact⟨C,dx,gs,hh p (by simp) _ h1,hc,hn,h2,h3,h4.mono g fun q hq xs=>hh q (by simp[hq]) _⟩
 | dq cq=>
  obtain⟨rfl,ks,bs,h1,hk,h2⟩:=h;exact⟨rfl,ks,bs,hh p (by simp) _ h1,hk.mono g,f9.mono g _ _ h2⟩
theorem dz.eH{K:PySem.W.Frag}{G:Hp}:∀{ks:List (Key×V)} {cq:List (Key×List D)} {fp:List Addr},ks.map (·.1)=cq.map (·.1)->ks.map (·.2)=fp.map V.ref->bw K G (fp.map V.ref) ((cq.map (·.2)).map D.lst)->dz K G ks (cq.map fun p=>(p.1,.lst p.2))
 | [],[],_,_,_,_=>by simp only[bg,dz]
 | a::ks,b::cq,fp,h1,h2,h3=>by
  simp only[aj,List.cons.injEq] at h1;cases fp with
  | nil=>simp at h2
  | cons q fp=>
   simp only[aj,List.cons.injEq] at h2;simp only[aj,bw] at h3;simp only[aj,dz];exact⟨⟨h1.1,by rw[h2.1];exact h3.1⟩,dz.eH h1.2 h2.2 h3.2⟩
 | [],_::_,_,h,_,_=>by simp at h
 | _::_,[],_,h,_,_=>by simp at h
theorem f9.eH{K:PySem.W.Frag}{G:Hp}:∀{ks:List (List Key×V)} {cq:List (List Key×List D)} {fp:List Addr},ks.map (·.1)=cq.map (·.1)->ks.map (·.2)=fp.map V.ref->bw K G (fp.map V.ref) ((cq.map (·.2)).map D.lst)->f9 K G ks (cq.map fun p=>(p.1,.lst p.2))
 | [],[],_,_,_,_=>by simp only[bg,f9]
 | a::ks,b::cq,fp,h1,h2,h3=>by
  simp only[aj,List.cons.injEq] at h1;cases fp with
  | nil=>simp at h2
  | cons q fp=>
   simp only[aj,List.cons.injEq] at h2;simp only[aj,bw] at h3;simp only[aj,f9];exact⟨⟨h1.1,by rw[h2.1];exact h3.1⟩,f9.eH h1.2 h2.2 h3.2⟩
 | [],_::_,_,h,_,_=>by simp at h
 | _::_,[],_,h,_,_=>by simp at h
theorem cy.eH{K:PySem.W.Frag}{G:Hp}:∀{ks:List (Str×V)} {cq:List (Str×List D)} {fp:List Addr},ks.map (·.1)=cq.map (·.1)->ks.map (·.2)=fp.map V.ref->bw K G (fp.map V.ref) ((cq.map (·.2)).map D.lst)->cy K G ks (cq.map fun p=>(p.1,.lst p.2))
 | [],[],_,_,_,_=>by simp only[bg,cy]
 | a::ks,b::cq,fp,h1,h2,h3=>by
  simp only[aj,List.cons.injEq] at h1;cases fp with
  | nil=>simp at h2
  | cons q fp=>
   simp only[aj,List.cons.injEq] at h2;simp only[aj,bw] at h3;simp only[aj,cy];exact⟨⟨h1.1,by rw[h2.1];exact h3.1⟩,cy.eH h1.2 h2.2 h3.2⟩
 | [],_::_,_,h,_,_=>by simp at h
 | _::_,[],_,h,_,_=>by simp at h
noncomputable def oF(G H:Hp)(l:List Addr):Hp:=fun a=>if a∈l then H a else G a
theorem qV{G H:Hp}{l:List Addr}{a:Addr}(h:a∈l):oF G H l a=H a:=if_pos h
theorem qe{G H:Hp}{l:List Addr}{a:Addr}(h:a∉l):oF G H l a=G a:=if_neg h
theorem yg{G H:Hp}{l:List Addr}(h:∀q∈l,G q=none):bL G (oF G H l):=fun b u e=>by
 rw[qe (fun z=>by rw[h b z] at e;cases e)];exact e
theorem jq.freeze{K:PySem.W.Frag}{G H:Hp}{p:Addr}{fp:List Addr}{o:OV}(h:jq K G H p fp o)(hn:∀q∈p::fp,G q=none):Rep K (oF G H (p::fp)) (.ref p) o.val:=by
 have hs:=yg (H:=H) hn;have hp:oF G H (p::fp) p=H p:=qV (by simp);cases o with
 | ll cf=>
  simp only[OV.val,Rep];exact⟨p,_,rfl,j7.of (by rw[hp];exact h.1),h.2.mm hs fun q hq xs e=>by rw[qV (by simp[hq])];exact e⟩
 | dc cq=>
  obtain⟨rfl,ks,ep,h1,h2⟩:=h;simp only[OV.val,Rep];exact⟨p,ks,ep,rfl,by rw[hp];exact h1,dz.mono hs _ _ h2⟩
 | dl cq=>
  obtain⟨ks,ep,h1,h2,h3,h4⟩:=h;simp only[OV.val,Rep];exact⟨p,ks,ep,rfl,by rw[hp];exact h1,dz.eH h2 h3 (h4.mm hs fun q hq xs e=>by rw[qV (by simp[hq])];exact e)⟩
 | tl d ds=>
  obtain⟨r,v,xs,rfl,h1,h2,h3,h4⟩:=h;simp only[OV.val,Rep];refine⟨p,_,rfl,(by rw[hp];exact h1),bw.cons (h2.mono hs) (bw.cons ?_ bw.nil)⟩;simp only[Rep];exact⟨r,xs,rfl,j7.of (by rw[qV (by simp)];exact h3),h4.mono hs⟩
 | dt cq=>
  obtain⟨ks,bs,h1,hk,h2,h3,h4⟩:=h;simp only[OV.val,Rep];exact⟨p,ks,bs,rfl,by rw[hp];exact h1,hk.mono hs,f9.eH h2 h3 (h4.mm hs fun q hq xs e=>by rw[qV (by simp[hq])];exact e)⟩
 | tp ds=>
  obtain⟨rfl,xs,h1,h2⟩:=h;simp only[OV.val,Rep];exact⟨p,xs,rfl,(by rw[hp];exact h1),h2.mono hs⟩
 | ob cn fs=>
  obtain⟨C,dx,gs,h1,hc,hn,h2,h3,h4⟩:=h;simp only[OV.val,Rep];refine⟨p,C,dx,gs,rfl,by rw[hp];exact h1,hc,fun u hu=>?_,cy.eH h2 h3 (h4.mm hs fun q hq xs e=>by rw[qV (by simp[hq])];exact e)⟩;obtain⟨v,hv,rfl⟩:=aD.mp hu;exact hn v hv
 | ld vn=>
  simp only[OV.val,Rep];exact⟨p,_,rfl,j7.of (by rw[hp];exact h.1),h.2.mm hs fun q hq u e=>by rw[qV (by simp[hq])];exact e⟩
 | dq cq=>
  obtain⟨rfl,ks,bs,h1,hk,h2⟩:=h;simp only[OV.val,Rep];exact⟨p,ks,bs,rfl,by rw[hp];exact h1,hk.mono hs,f9.mono hs _ _ h2⟩
noncomputable abbrev Ev:=List Sl
noncomputable def gt:Ev->Nat->Sl
 | [],_=>.un
 | a::_,0=>a
 | _::r,n+1=>gt r n
theorem tJ{ρ:Ev}{i j:Nat}{s:Sl}:gt (ρ.set i s) j=if i=j/\j<ρ.length then s else gt ρ j:=by
 induction ρ generalizing i j with
 | nil=>simp[gt]
 | cons a r ih=>
  cases i with
  | zero=>
   cases j with
   | zero=>simp[gt]
   | succ j=>simp[gt]
  | succ i=>
   cases j with
   | zero=>simp[gt]
   | succ j=>simp[gt,ih]
def dv(K:PySem.W.Frag)(G' H' H:Hp)(v:V):R->Prop
 | .fz d=>Rep K G' v d
 | .ow ds=>∃p xs,v=.ref p/\H p=none/\G' p=none/\H' p=some (.lst xs)/\bw K G' xs ds
 | .ov o=>∃p fp,v=.ref p/\(p::fp).Nodup/\jq K G' H' p fp o/\∀q∈p::fp,H q=none/\G' q=none
structure cP (K:PySem.W.Frag) (G0 H0:Hp) (ρ:Ev) (σ:St) (G H:Hp):Prop where
 e:Ext G0 H0 G H
 len:σ.length=ρ.length
 fz:∀i d,gt ρ i=.fz d->∃v,σ[i]?=some (some v)/\Rep K G v d
 ow:∀i ds,gt ρ i=.ow ds->∃p xs,σ[i]?=some (some (.ref p))/\H p=some (.lst xs)/\G p=none/\H0 p=none/\bw K G xs ds
 dj:∀i j ds es,i≠j->gt ρ i=.ow ds->gt ρ j=.ow es->σ[i]?≠σ[j]?
 on:∃own:Addr->Option Nat,(∀i ds p,gt ρ i=.ow ds->σ[i]?=some (some (.ref p))->own p=some i)/\∀i o,gt ρ i=.ov o->∃p fp,σ[i]?=some (some (.ref p))/\(p::fp).Nodup/\jq K G H p fp o/\∀q∈p::fp,G q=none/\H0 q=none/\own q=some i
section
variable {K:PySem.W.Frag} {G0 H0 G H G' H' G2 H2:Hp} {ρ:Ev} {σ:St} {v:V}
theorem cP.ext(E:cP K G0 H0 ρ σ G H)(x:Ext G H G' H'):cP K G0 H0 ρ σ G' H' where
 e:=E.e.trans x
 len:=E.len
 fz:=fun i d h=>let⟨v,h1,h2⟩:=E.fz i d h;⟨v,h1,h2.mono x.g⟩
 ow:=fun i ds h=>let⟨p,xs,h1,h2,h3,h4,h5⟩:=E.ow i ds h;⟨p,xs,h1,x.h _ _ h2,x.n p h3 (by rw[h2];exact nofun),h4,h5.mono x.g⟩
 dj:=E.dj
 on:=by
  obtain⟨own,h1,h2⟩:=E.on;refine⟨own,h1,fun i o h=>?_⟩;obtain⟨p,fp,b1,b2,b3,b4⟩:=h2 i o h;exact⟨p,fp,b1,b2,b3.mono x.g fun q _ u e=>x.h q u e,fun q hq=>⟨x.n q (b4 q hq).1 (b3.here q hq),(b4 q hq).2⟩⟩
theorem dv.freeze{r:R}(x:Ext G H G' H')(h:dv K G' H' H v r):∃G2,Ext G H G2 H'/\Rep K G2 v r.val/\bL G' G2:=by
 cases r with
 | fz d=>exact⟨G',x,h,bL.refl _⟩
 | ow ds=>
  obtain⟨p,xs,h1,h2,h3,h4,h5⟩:=h;refine⟨upd G' p (.lst xs),⟨x.g.trans (tN h3),x.h,fun b o e=>?_,fun q mw iP=>?_⟩,?_,tN h3⟩
  ·by_cases hb:b=p
   ·subst hb;rw[gP] at e;rw[h4];exact e
   ·rw[cR hb] at e;exact x.s b o e
  ·rw[cR (fun z=>iP (by rw[z];exact h2))];exact x.n q mw iP
  ·show Rep K (upd G' p (.lst xs)) v (.lst ds);simp only[Rep];exact⟨p,xs,h1,j7.of gP,h5.mono (tN h3)⟩
 | ov o=>
  obtain⟨p,fp,rfl,h1,h2,h3⟩:=h;have hn:∀q∈p::fp,G' q=none:=fun q hq=>(h3 q hq).2
  refine⟨oF G' H' (p::fp),⟨x.g.trans (yg hn),x.h,fun b u e=>?_,fun q mw iP=>?_⟩,h2.freeze hn,yg hn⟩
  ·by_cases hb:b∈p::fp
   ·rw[qV hb] at e;exact e
   ·rw[qe hb] at e;exact x.s b u e
  ·rw[qe (fun z=>iP (h3 q z).1)];exact x.n q mw iP
theorem dv.fI{r:R}{H1 H3:Hp}(s:bL H3 H1)(h:dv K G' H' H1 v r):dv K G' H' H3 v r:=by
 cases r with
 | fz d=>exact h
 | ow ds=>
  obtain⟨p,xs,h1,h2,h3,h4,h5⟩:=h;exact⟨p,xs,h1,s.free h2,h3,h4,h5⟩
 | ov o=>
  obtain⟨p,fp,rfl,h1,h2,h3⟩:=h;exact⟨p,fp,rfl,h1,h2,fun q hq=>⟨s.free (h3 q hq).1,(h3 q hq).2⟩⟩
end
noncomputable abbrev TD:=Ev->(R->Prop)->Prop
noncomputable abbrev iR:=Ev->(Bool->Prop)->Prop
noncomputable abbrev iT:=Ev->(List D->Prop)->Prop
structure DE where
 nx:Ev->Prop
 rt:R->Prop
 bk:Ev->Prop:=fun _=>False
 ct:Ev->Prop:=fun _=>False
noncomputable abbrev TX:=DE->Ev->Prop
def PD(X:Cx)(e:Expr)(t:TD):Prop:=∃tt,PE X e tt/\∀(ρ:Ev) (σ:St) (G0 H0 G H:Hp) (Q:R->Prop) (P:VK),cP X.K G0 H0 ρ σ G H->t ρ Q->
 (∀v H' r G',Ext G H G' H'->dv X.K G' H' H v r->Q r->P v H')->tt σ H P
def PB(X:Cx)(e:Expr)(t:iR):Prop:=∃tt,PT X e tt/\∀(ρ:Ev) (σ:St) (G0 H0 G H:Hp) (Q:Bool->Prop) (P:Bool->Hp->Prop),cP X.K G0 H0 ρ σ G H->t ρ Q->
 (∀b H' G',Ext G H G' H'->Q b->P b H')->tt σ H P
def mE(X:Cx)(es:List Expr)(t:iT):Prop:=∃tt,PA X es tt/\∀(ρ:Ev) (σ:St) (G0 H0 G H:Hp) (Q:List D->Prop) (P:List V->Hp->Prop),cP X.K G0 H0 ρ σ G H->t ρ Q->
 (∀vs H' ds G',Ext G H G' H'->bw X.K G' vs ds->Q ds->P vs H')->tt σ H P
structure Goes (K:PySem.W.Frag) (G0 H0 G:Hp) (D:DE) (E:Ends):Prop where
 nx:∀ρ σ G' H',bL G G'->cP K G0 H0 ρ σ G' H'->D.nx ρ->E.nx σ H'
 rt:∀v H' r G',Ext G0 H0 G' H'->dv K G' H' H0 v r->D.rt r->E.rt v H'
 bk:∀ρ σ G' H',bL G G'->cP K G0 H0 ρ σ G' H'->D.bk ρ->E.bk σ H'
 ct:∀ρ σ G' H',bL G G'->cP K G0 H0 ρ σ G' H'->D.ct ρ->E.ct σ H'
theorem Goes.shift{K:PySem.W.Frag}{G0 H0 G G':Hp}{D:DE}{E:Ends}(g:Goes K G0 H0 G D E)(s:bL G G'):Goes K G0 H0 G' D E:=
 ⟨fun ρ σ G2 H2 s2=>g.nx ρ σ G2 H2 (s.trans s2),g.rt,fun ρ σ G2 H2 s2=>g.bk ρ σ G2 H2 (s.trans s2),fun ρ σ G2 H2 s2=>g.ct ρ σ G2 H2 (s.trans s2)⟩
def PX(X:Cx)(st:Stmt)(t:TX):Prop:=∃tt,PS X st tt/\∀(ρ:Ev) (σ:St) (G0 H0 G H:Hp) (D:DE) (E:Ends),cP X.K G0 H0 ρ σ G H->t D ρ->Goes X.K G0 H0 G D E->tt E σ H
def ou(X:Cx)(st:List Stmt)(t:TX):Prop:=∃tt,mD X st tt/\∀(ρ:Ev) (σ:St) (G0 H0 G H:Hp) (D:DE) (E:Ends),cP X.K G0 H0 ρ σ G H->t D ρ->Goes X.K G0 H0 G D E->tt E σ H
end L2
namespace L2
open PySem PySem.Spec PyProof.Rows
section
variable {X:Cx} {pos:Pos} {a b c:Expr} {ta tb tc:TD}
theorem eN{K:PySem.W.Frag}{G' H' H:Hp}{v:V}{d:D}(h:Rep K G' v d):dv K G' H' H v (.fz d):=h
def br(i:Nat):TD:=fun ρ Q=>match gt ρ i with
 | .fz d=>Q (.fz d)
 | _=>False
theorem bu(i:Nat){x:Str}(hN:X.N[i]?=some x:=by rfl)(hv:kO X.env.scope x:=by first | exact Or.inl rfl | exact Or.inr (Or.inl rfl) | exact Or.inr (Or.inr rfl))(hd:(x==("__debug__":Str))=false:=by decide)
  (fS:(x==("__classdict__":Str))=false:=by decide):PD X (.Name x pos) (br i):=by
 refine⟨_,mf hN hv hd fS,fun ρ σ G0 H0 G H Q P E h k=>?_⟩;unfold br at h;split at h
 ·rename_i d e;obtain⟨v,h1,h2⟩:=E.fz i d e;exact⟨v,h1,k v H (.fz d) G (.refl E.e.s) h2 h⟩
 ·exact h.elim
def dC(d:D):TD:=fun _ Q=>Q (.fz d)
theorem vZ{e:Expr}{v:V}{d:D}(h:PE X e (tC v))(r:∀K G,Rep K G v d):PD X e (dC d):=
 ⟨_,h,fun ρ σ G0 H0 G H Q P E h k=>k v H (.fz d) G (.refl E.e.s) (r _ _) h⟩
theorem ji(K:PySem.W.Frag)(G:Hp)(i:Int):Rep K G (.int i) (.int i):=by simp only[Rep]
theorem jw(K:PySem.W.Frag)(G:Hp)(i:Bool):Rep K G (.bl i) (.bl i):=by simp only[Rep]
theorem r0(K:PySem.W.Frag)(G:Hp)(i:Str):Rep K G (.str i) (.str i):=by simp only[Rep]
theorem C3(K:PySem.W.Frag)(G:Hp):Rep K G .non .non:=by simp only[Rep]
theorem bC{i j}:PD X (.Constant (.int i) j pos) (dC (.int i)):=vZ N1 fun K G=>ji K G i
theorem Aa{i j}:PD X (.Constant (.bool i) j pos) (dC (.bl i)):=vZ Mf fun K G=>jw K G i
theorem bY{i j}:PD X (.Constant (.str i) j pos) (dC (.str i)):=vZ NZ fun K G=>r0 K G i
theorem rT{j}:PD X (.Constant .none j pos) (dC .non):=vZ N0 fun K G=>C3 K G
theorem AQ{x:Str}{i:Int}{t:Tok}(hm:X.mg x=some (.int i t))(hg:Gl X x:=by rfl)(hd:(x==("__debug__":Str))=false:=by decide):PD X (.Name x pos) (dC (.int i)):=vZ (xJ hg hm (v:=.int i) ⟨t,rfl⟩ hd) fun K G=>ji K G i
theorem Ij{x:Str}{i:Str}{t:Tok}(hm:X.mg x=some (.str i t))(hg:Gl X x:=by rfl)(hd:(x==("__debug__":Str))=false:=by decide):PD X (.Name x pos) (dC (.str i)):=vZ (xJ hg hm (v:=.str i) ⟨t,rfl⟩ hd) fun K G=>r0 K G i
noncomputable abbrev O2:=D->D->(R->Prop)->Prop
def ky(X:Cx)(f:Value->Value->Sem Value)(o:O2):Prop:=∃r:R2,gf X f r/\∀(G H:Hp) (x y:V) (d e:D) (Q:R->Prop) (P:VK),bL G H->Rep X.K G x d->Rep X.K G y e->o d e Q->
 (∀v H' r' G',Ext G H G' H'->dv X.K G' H' H v r'->Q r'->P v H')->r x y H P
def bB(o:O2)(ta tb:TD):TD:=fun ρ Q=>ta ρ fun ra=>tb ρ fun rb=>o ra.val rb.val Q
theorem Ao{r:R2}{o:O2}{yG yF:TE}
  (hr:∀(G H:Hp) (x y:V) (d e:D) (Q:R->Prop) (P:VK),bL G H->Rep X.K G x d->Rep X.K G y e->o d e Q->(∀v H' r' G',Ext G H G' H'->dv X.K G' H' H v r'->Q r'->P v H')->r x y H P)
  (ha:∀(ρ:Ev) (σ:St) (G0 H0 G H:Hp) (Q:R->Prop) (P:VK),cP X.K G0 H0 ρ σ G H->ta ρ Q->(∀v H' r G',Ext G H G' H'->dv X.K G' H' H v r->Q r->P v H')->yG σ H P)
  (hb:∀(ρ:Ev) (σ:St) (G0 H0 G H:Hp) (Q:R->Prop) (P:VK),cP X.K G0 H0 ρ σ G H->tb ρ Q->(∀v H' r G',Ext G H G' H'->dv X.K G' H' H v r->Q r->P v H')->yF σ H P)
  (ρ:Ev) (σ:St) (G0 H0 G H:Hp) (Q:R->Prop) (P:VK) (E:cP X.K G0 H0 ρ σ G H) (h:bB o ta tb ρ Q) (k:∀v H' r G',Ext G H G' H'->dv X.K G' H' H v r->Q r->P v H'):yK r yG yF σ H P:=by
 refine ha ρ σ G0 H0 G H _ _ E h fun v H1 ra G1 x1 r1 h1=>?_
 obtain⟨FP,tS,q1,_⟩:=r1.freeze x1;refine hb ρ σ G0 H0 FP H1 _ _ (E.ext tS) h1 fun u H2 rb G2 x2 r2 h2=>?_
 obtain⟨BZ,tQ,q2,_⟩:=r2.freeze x2;refine hr BZ H2 v u _ _ Q P tQ.s (q1.mono tQ.g) q2 h2 fun v' H' r' G' x3 r3 h3=>?_
 have x4:=(tS.trans tQ).trans x3;exact k v' H' r' G' x4 (r3.fI (tS.trans tQ).h) h3
theorem bK{op:Operator}{o:O2}(ho:ky X (binaryOp op) o)(ha:PD X a ta)(hb:PD X b tb):PD X (.BinOp a op b pos) (bB o ta tb):=by
 obtain⟨r,hr,nj⟩:=ho;obtain⟨yG,pa,qa⟩:=ha;obtain⟨yF,pb,qb⟩:=hb;exact⟨_,Gi hr pa pb,Ao nj qa qb⟩
theorem mY{op:CmpOp}{o:O2}(ho:ky X (compareOp op) o)(ha:PD X a ta)(hb:PD X b tb)(hm:behindInMarks op b=false:=by first | exact GR _ | rfl):PD X (.Compare a [op] [b] pos) (bB o ta tb):=by
 obtain⟨r,hr,nj⟩:=ho;obtain⟨yG,pa,qa⟩:=ha;obtain⟨yF,pb,qb⟩:=hb;exact⟨_,Oe hr pa pb hm,Ao nj qa qb⟩
def dh(t:TD):iR:=fun ρ Q=>t ρ fun r=>match r with
 | .fz (.bl k)=>Q k
 | _=>False
theorem eA{op:CmpOp}{o:O2}(ho:ky X (compareOp op) o)(ha:PD X a ta)(hb:PD X b tb)(hm:behindInMarks op b=false:=by first | exact GR _ | rfl):PB X (.Compare a [op] [b] pos) (dh (bB o ta tb)):=by
 obtain⟨r,hr,nj⟩:=ho;obtain⟨yG,pa,qa⟩:=ha;obtain⟨yF,pb,qb⟩:=hb;refine⟨_,Od hr pa pb hm,fun ρ σ G0 H0 G H Q P E h k=>?_⟩;refine Ao nj qa qb ρ σ G0 H0 G H _ _ E h fun v H' r G' x1 r1 h1=>?_
 split at h1
 ·rename_i kk;have e:v=.bl kk:=by simpa only[dv,Rep] using r1
  exact⟨kk,e,k kk H' G' x1 h1⟩
 ·exact h1.elim
theorem An{e:Expr}{t:TD}(h:PD X e t)(he:∀whole,isTrue e X.env whole=(do let v <-whole;standAt e.pos;holding [v] (truthy v)):=by intro _;rfl):PB X e (dh t):=by
 obtain⟨tt,p,q⟩:=h;refine⟨_,NY p he,fun ρ σ G0 H0 G H Q P E h k=>?_⟩;refine q ρ σ G0 H0 G H _ _ E h fun v H' r G' x1 r1 h1=>?_
 split at h1
 ·rename_i kk;have e:v=.bl kk:=by simpa only[dv,Rep] using r1
  exact⟨kk,e,k kk H' G' x1 h1⟩
 ·exact h1.elim
def cT:O2:=fun d e Q=>match d,e with
 | .int i,.int j=>Q (.fz (.int (i+j)))
 | .str x,.str y=>x.length+y.length<=sizeLine/\Q (.fz (.str (x++y)))
 | .lst xs,.lst ys=>xs.length+ys.length<=sizeLine/\Q (.ow (xs++ys))
 | _,_=>False
def LU(K:PySem.W.Frag):R2:=fun x y H Q=>∃l b xs zs,x=.ref l/\y=.ref b/\j7 K H l xs/\j7 K H b zs/\xs.length+zs.length<=sizeLine/\∀p,H p=none->Q (.ref p) (upd H p (.lst (xs++zs)))
theorem Ov:gf X (binaryOp .Add) (LU X.K):=by
 intro pins s σ H x y v u Q I rx ry h;obtain⟨l,b,xs,zs,rfl,rfl,hH,hB,hz,q⟩:=h;cases rx;cases ry;obtain⟨z,its,n,r,e⟩:=I.fw hH;obtain⟨z2,kK,n2,r2,e2⟩:=I.fw hB;have hl:=r.length;have vf:=r2.length;refine PySem.P.add_list e e2 ?_ (by rw[ai,ai];omega);have ea:its.toArray++kK.toArray=(its++kK).toArray:=by simp
 rw[ea];exact⟨.ref _,_,I.sy (t':=s.toks) (r.append r2) (by rw[aw];omega),rfl,q _ I.fresh⟩
theorem tP{G H:Hp}{xs:List V}{ds:List D}{Q:R->Prop}{P:VK}(s:bL G H)(r:bw X.K G xs ds)(q:Q (.ow ds))
  (k:∀v H' r' G',Ext G H G' H'->dv X.K G' H' H v r'->Q r'->P v H'):∀p,H p=none->P (.ref p) (upd H p (.lst xs)):=fun p hp=>
 k _ _ (.ow ds) G (.own s hp) ⟨p,xs,rfl,hp,s.free hp,gP,r⟩ q
theorem cW:ky X (binaryOp .Add) cT:=by
 refine⟨_,uQ.or (nc.or Ov),fun G H x y d e Q P s rx ry h k=>?_⟩;unfold cT at h;split at h
 ·simp only[Rep] at rx ry;exact .inl ⟨_,_,rx,ry,k _ _ _ G (.refl s) (eN (ji _ _ _)) h⟩
 ·simp only[Rep] at rx ry;exact .inr (.inl ⟨_,_,rx,ry,h.1,k _ _ _ G (.refl s) (eN (r0 _ _ _)) h.2⟩)
 ·simp only[Rep] at rx ry;obtain⟨a,xs,rfl,hx,JP⟩:=rx;obtain⟨b,ys,rfl,hy,rg⟩:=ry;refine .inr (.inr ⟨_,_,_,_,rfl,rfl,s.fw hx,s.fw hy,by rw[JP.length,rg.length];exact h.1,tP s (JP.append rg) h.2 k⟩)
 ·exact h.elim
def oI(C:Int->Int->Prop)(g:Int->Int->D):O2:=fun d e Q=>match d,e with
 | .int i,.int j=>C i j/\Q (.fz (g i j))
 | _,_=>False
def gO(g:Int->Int->D):O2:=fun d e Q=>match d,e with
 | .int i,.int j=>Q (.fz (g i j))
 | _,_=>False
theorem z9{f:Value->Value->Sem Value}{C:Int->Int->Prop}{g:Int->Int->V}{g':Int->Int->D}(h:gf X f (rI C g))(hg:∀K G i j,Rep K G (g i j) (g' i j)):ky X f (oI C g'):=by
 refine⟨_,h,fun G H x y d e Q P s rx ry h k=>?_⟩;unfold oI at h;split at h
 ·simp only[Rep] at rx ry;exact⟨_,_,rx,ry,h.1,k _ _ _ G (.refl s) (eN (hg _ _ _ _)) h.2⟩
 ·exact h.elim
theorem xB{f:Value->Value->Sem Value}{g:Int->Int->V}{g':Int->Int->D}(h:gf X f (m9 g))(hg:∀K G i j,Rep K G (g i j) (g' i j)):ky X f (gO g'):=by
 refine⟨_,h,fun G H x y d e Q P s rx ry h k=>?_⟩;unfold gO at h;split at h
 ·simp only[Rep] at rx ry;exact⟨_,_,rx,ry,k _ _ _ G (.refl s) (eN (hg _ _ _ _)) h⟩
 ·exact h.elim
theorem xm:ky X (binaryOp .Sub) (gO fun i j=>.int (i-j)):=xB MH fun K G i j=>ji K G _
theorem qS:ky X (binaryOp .Mult) (oI iK fun i j=>.int (i*j)):=z9 MG fun K G i j=>ji K G _
theorem iw:ky X (binaryOp .FloorDiv) (oI gS fun i j=>.int (i/j)):=z9 Og fun K G i j=>ji K G _
theorem dY:ky X (binaryOp .Mod) (oI (fun _ j=>0<j) fun i j=>.int (i%j)):=z9 MF fun K G i j=>ji K G _
theorem vM:ky X (binaryOp .Pow) (oI oA fun i j=>.int (i ^ j.toNat)):=z9 ME fun K G i j=>ji K G _
theorem zW:ky X (compareOp .Lt) (gO fun i j=>.bl (decide (i<j))):=xB tX fun K G i j=>jw K G _
theorem FU:ky X (compareOp .LtE) (gO fun i j=>.bl (decide (i<=j))):=xB uy fun K G i j=>jw K G _
theorem zV:ky X (compareOp .Gt) (gO fun i j=>.bl (decide (j<i))):=xB L5 fun K G i j=>jw K G _
theorem LD:ky X (compareOp .GtE) (gO fun i j=>.bl (decide (j<=i))):=xB L4 fun K G i j=>jw K G _
end
end L2
namespace L2
open PySem PySem.Spec PyProof.Rows PySem.SeqAt
mutual
noncomputable def cX:D->D->Bool
 | .non,.non=>true
 | .bl a,.bl b=>a==b
 | .bl a,.int b=>(if a then 1 else 0)==b
 | .int a,.bl b=>a==(if b then 1 else 0)
 | .int a,.int b=>a==b
 | .str a,.str b=>a==b
 | .tup xs,.tup ys=>kn xs ys
 | .lst xs,.lst ys=>kn xs ys
 | _,_=>false
noncomputable def kn:List D->List D->Bool
 | [],[]=>true
 | x::xs,y::ys=>cX x y&&kn xs ys
 | _,_=>false
end
def dZ:Nat->D->Prop
 | _,.non=>True
 | _,.bl _=>True
 | _,.int _=>True
 | _,.str _=>True
 | n+1,.tup ds=>∀d∈ds,dZ n d
 | n+1,.lst ds=>∀d∈ds,dZ n d
 | _,_=>False
theorem dZ.mono:∀{n m:Nat} {d:D},n<=m->dZ n d->dZ m d
 | n,m,.non,_,_=>by cases m<;>exact trivial
 | n,m,.bl _,_,_=>by cases m<;>exact trivial
 | n,m,.int _,_,_=>by cases m<;>exact trivial
 | n,m,.str _,_,_=>by cases m<;>exact trivial
 | 0,m,.tup ds,_,h=>by cases h
 | 0,m,.lst ds,_,h=>by cases h
 | n+1,0,.tup ds,l,h=>by omega
 | n+1,0,.lst ds,l,h=>by omega
 | n+1,m+1,.tup ds,l,h=>fun d hd=>dZ.mono (by omega) (h d hd)
 | n+1,m+1,.lst ds,l,h=>fun d hd=>dZ.mono (by omega) (h d hd)
 | 0,m,.obj _ _,_,h=>by cases h
 | n+1,m,.obj _ _,_,h=>by cases h
 | 0,m,.dic _,_,h=>by cases h
 | 0,m,.dit _,_,h=>by cases h
 | 0,m,.exc _ _,_,h=>by cases h
 | n+1,m,.dic _,_,h=>by cases h
 | n+1,m,.dit _,_,h=>by cases h
 | n+1,m,.exc _ _,_,h=>by cases h
mutual
theorem xR:∀(n:Nat) (d:D),dZ n d->cX d d=true
 | n,.non,_=>by simp only[cX]
 | n,.bl _,_=>by simp only[cX,beq_self_eq_true]
 | n,.int _,_=>by simp only[cX,beq_self_eq_true]
 | n,.str _,_=>by simp only[cX,beq_self_eq_true]
 | 0,.tup ds,h=>by cases h
 | 0,.lst ds,h=>by cases h
 | n+1,.tup ds,h=>by simp only[cX];exact Dv n ds h
 | n+1,.lst ds,h=>by simp only[cX];exact Dv n ds h
 | 0,.obj _ _,h=>by cases h
 | n+1,.obj _ _,h=>by cases h
 | 0,.dic _,h=>by cases h
 | 0,.dit _,h=>by cases h
 | 0,.exc _ _,h=>by cases h
 | n+1,.dic _,h=>by cases h
 | n+1,.dit _,h=>by cases h
 | n+1,.exc _ _,h=>by cases h
theorem Dv:∀(n:Nat) (ds:List D),(∀d∈ds,dZ n d)->kn ds ds=true
 | n,[],_=>by simp only[kn]
 | n,d::ds,h=>by simp only[kn,xR n d (h d (by simp)),Dv n ds (fun e he=>h e (by simp[he])),Bool.and_self]
end
theorem xQ:∀{xs ys:List D},xs.length≠ys.length->kn xs ys=false
 | [],[],h=>absurd rfl h
 | x::xs,y::ys,h=>by
  rw[kn,xQ (xs:=xs) (ys:=ys) (by simpa using h),Bool.and_false]
 | [],_::_,_=>by simp only[kn]
 | _::_,[],_=>by simp only[kn]
theorem xP:∀(xs ys:List D),xs.length=ys.length->kn xs ys=(List.range xs.length).all fun j=>cX (xs.getD j .non) (ys.getD j .non)
 | [],[],_=>by simp[kn]
 | x::xs,y::ys,h=>by
  rw[kn,xP xs ys (by simpa using h),aB,List.range_succ_eq_map,List.all_cons,List.all_map];congr 1
 | [],_::_,h=>by simp at h
 | _::_,[],h=>by simp at h
theorem Df(xs ys:List D):((List.range (min xs.length ys.length)).all (fun j=>cX (xs.getD j .non) (ys.getD j .non))&&xs.length==ys.length)=kn xs ys:=by
 by_cases h:xs.length=ys.length
 ·rw[xP xs ys h,h];simp
 ·rw[xQ h];simp[h]
section
variable {X:Cx} {pins:List (Addr×Obj)} {σ:St} {H:Hp} {s:Shared}
mutual
theorem AE(I:Inv X pins σ H s):∀(n:Nat) (d e:D) (v:V),dZ n d->dZ n e->Rep X.K H v d->Rep X.K H v e->d=e
 | n,.non,e,v,h,h',r,r'=>by
  cases e<;>simp only[Rep] at r r'<;>subst r<;>first | rfl | (simp at r';done) | (simp only[V.bl.injEq,V.int.injEq,V.str.injEq] at r';rw[r'])
 | n,.bl b,e,v,h,h',r,r'=>by
  cases e<;>simp only[Rep] at r r'<;>subst r<;>first | rfl | (simp at r';done) | (simp only[V.bl.injEq,V.int.injEq,V.str.injEq] at r';rw[r'])
 | n,.int b,e,v,h,h',r,r'=>by
  cases e<;>simp only[Rep] at r r'<;>subst r<;>first | rfl | (simp at r';done) | (simp only[V.bl.injEq,V.int.injEq,V.str.injEq] at r';rw[r'])
 | n,.str b,e,v,h,h',r,r'=>by
  cases e<;>simp only[Rep] at r r'<;>subst r<;>first | rfl | (simp at r';done) | (simp only[V.bl.injEq,V.int.injEq,V.str.injEq] at r';rw[r'])
 | 0,.tup ds,e,v,h,h',r,r'=>by cases h
 | 0,.lst ds,e,v,h,h',r,r'=>by cases h
 | n+1,.tup ds,e,v,h,h',r,r'=>by
  simp only[Rep] at r;obtain⟨a,xs,rfl,q,rs⟩:=r;cases e<;>simp only[Rep] at r'
  case tup es=>
   obtain⟨b,ys,e1,q',jl⟩:=r';cases e1;rw[I.kX (fW.of q') (fW.of q)] at jl;rw[De I n ds es xs h h' rs jl]
  case lst es=>
   obtain⟨b,ys,e1,q',jl⟩:=r';cases e1;obtain⟨its,_,ht,_⟩:=I.tuple (fW.of q);obtain⟨its',_,hl,_⟩:=I.list q'.sq;exact absurd rfl (ne_of_list_tuple hl.isList (show s.heap.IsTuple a its.toArray from ht))
  case obj=>cases h'
  case dic=>cases h'
  case dit=>cases h'
  case exc=>cases h'
  all_goals cases r'
 | n+1,.lst ds,e,v,h,h',r,r'=>by
  simp only[Rep] at r;obtain⟨a,xs,rfl,q,rs⟩:=r;cases e<;>simp only[Rep] at r'
  case lst es=>
   obtain⟨b,ys,e1,q',jl⟩:=r';cases e1;rw[I.gX q'.sq q.sq] at jl;rw[De I n ds es xs h h' rs jl]
  case tup es=>
   obtain⟨b,ys,e1,q',jl⟩:=r';cases e1;obtain⟨its,_,ht,_⟩:=I.tuple (fW.of q');obtain⟨its',_,hl,_⟩:=I.list q.sq;exact absurd rfl (ne_of_list_tuple hl.isList (show s.heap.IsTuple a its.toArray from ht))
  case obj=>cases h'
  case dic=>cases h'
  case dit=>cases h'
  case exc=>cases h'
  all_goals cases r'
 | 0,.obj _ _,_,_,h,_,_,_=>by cases h
 | n+1,.obj _ _,_,_,h,_,_,_=>by cases h
 | 0,.dic _,_,_,h,_,_,_=>by cases h
 | 0,.dit _,_,_,h,_,_,_=>by cases h
 | 0,.exc _ _,_,_,h,_,_,_=>by cases h
 | n+1,.dic _,_,_,h,_,_,_=>by cases h
 | n+1,.dit _,_,_,h,_,_,_=>by cases h
 | n+1,.exc _ _,_,_,h,_,_,_=>by cases h
theorem De(I:Inv X pins σ H s):∀(n:Nat) (ds es:List D) (vs:List V),(∀d∈ds,dZ n d)->(∀d∈es,dZ n d)->bw X.K H vs ds->bw X.K H vs es->ds=es
 | n,[],[],_,_,_,_,_=>rfl
 | n,d::ds,e::es,v::vs,h,h',r,r'=>by
  simp only[bw] at r r';rw[AE I n d e v (h d (by simp)) (h' e (by simp)) r.1 r'.1,De I n ds es vs (fun x hx=>h x (by simp[hx])) (fun x hx=>h' x (by simp[hx])) r.2 r'.2]
 | n,[],_::_,[],_,_,_,r=>by simp only[bw] at r
 | n,[],_::_,_::_,_,_,r,_=>by simp only[bw] at r
 | n,_::_,[],[],_,_,r,_=>by simp only[bw] at r
 | n,_::_,[],_::_,_,_,_,r=>by simp only[bw] at r
 | n,_::_,_::_,[],_,_,r,_=>by simp only[bw] at r
end
theorem oQ{vs:List V}{ds:List D}{us:List Value}{j:Nat}(rv:Vals vs us)(rd:bw X.K H vs ds)(hj:j<us.toArray.size):∃v,RelV v us.toArray[j]/\Rep X.K H v (ds.getD j .non)/\ds.getD j .non∈ds:=by
 have h1:j<us.length:=by simpa using hj
 have h2:j<vs.length:=by rw[rv.length];exact h1
 have h3:j<ds.length:=by rw[<-rd.length];exact h2
 obtain⟨u,hu,ru⟩:=rv.get (ag h2);obtain⟨d,hd,Uk⟩:=rd.zA (ag h2);rw[ag h1] at hu;rw[ag h3] at hd;cases hu;cases hd;refine⟨vs[j],?_,?_,?_⟩
 ·simpa using ru
 ·simpa[List.getD,h3] using Uk
 ·simp[List.getD,h3]
noncomputable def vL:D->Bool
 | .non=>true
 | .bl _=>true
 | .int _=>true
 | .str _=>true
 | _=>false
theorem HB{d e:D}{x y:V}(hd:vL d=true)(he:vL e=true)(rx:Rep X.K H x d)(ry:Rep X.K H y e):Ab x=true/\Ab y=true/\Fz x y=cX d e:=by
 cases d<;>first | cases hd | skip
 all_goals (cases e<;>first | cases he | skip)
 all_goals
  simp only[Rep] at rx ry;subst rx ry;exact⟨rfl,rfl,by simp[Fz,cX]⟩
theorem xv(I:Inv X pins σ H s):∀(n:Nat) (A:Around) (d e:D) (x y:V) (v u:Value),dZ n d->dZ n e->A.units+n<cLine->Rep X.K H x d->Rep X.K H y e->RelV x v->RelV y u->EqAt A s v u (cX d e):=by
 intro n;induction n with
 | zero=>
  intro A d e x y v u hd he hu rx ry qx qy;have fd:vL d=true:=by cases d<;>first | rfl | cases hd
  have fe:vL e=true:=by cases e<;>first | rfl | cases he
  obtain⟨h1,h2,h3⟩:=HB fd fe rx ry;rw[<-h3];exact GP qx qy h1 h2
 | succ n ih=>
  intro A d e x y v u hd he hu rx ry qx qy;have dy:A.units<cLine:=by omega
  have rn:A.in1.units+n<cLine:=by show A.units+1+n<cLine;omega
  by_cases fd:vL d=true
  ·by_cases fe:vL e=true
   ·obtain⟨h1,h2,h3⟩:=HB fd fe rx ry;rw[<-h3];exact GP qx qy h1 h2
   ·cases e<;>first | exact absurd rfl fe | skip
    case tup es=>
     simp only[Rep] at ry;obtain⟨b,ys,rfl,q,rs⟩:=ry;cases qy;obtain⟨its,rv,ht,_⟩:=I.tuple (fW.of q);have eB:s.heap.IsTuple b its.toArray:=ht;cases d<;>first | cases fd | skip
     ·simp only[Rep] at rx;subst rx;cases qx;simpa only[cX] using EqAt.none_tuple eB dy
     ·simp only[Rep] at rx;subst rx;cases qx;simpa only[cX] using EqAt.bool_tuple _ eB dy
     ·simp only[Rep] at rx;subst rx;obtain⟨t,rfl⟩:=qx;simpa only[cX] using EqAt.int_tuple _ t eB dy
     ·simp only[Rep] at rx;subst rx;obtain⟨t,rfl⟩:=qx;simpa only[cX] using EqAt.str_tuple _ t eB dy
    case lst es=>
     simp only[Rep] at ry;obtain⟨b,ys,rfl,q,rs⟩:=ry;cases qy;obtain⟨its,rv,ht,_⟩:=I.list q.sq;have eB:=ht.isList;cases d<;>first | cases fd | skip
     ·simp only[Rep] at rx;subst rx;cases qx;simpa only[cX] using EqAt.none_list eB dy
     ·simp only[Rep] at rx;subst rx;cases qx;simpa only[cX] using EqAt.bool_list _ eB dy
     ·simp only[Rep] at rx;subst rx;obtain⟨t,rfl⟩:=qx;simpa only[cX] using EqAt.int_list _ t eB dy
     ·simp only[Rep] at rx;subst rx;obtain⟨t,rfl⟩:=qx;simpa only[cX] using EqAt.str_list _ t eB dy
    case obj=>cases he
    case dic=>cases he
    case dit=>cases he
    case exc=>cases he
  ·cases d<;>first | exact absurd rfl fd | skip
   case tup ds=>
    have Eg:=rx;simp only[Rep] at rx;obtain⟨a,xs,rfl,q,rs⟩:=rx;cases qx;obtain⟨its,rv,ht,_⟩:=I.tuple (fW.of q);have eB:s.heap.IsTuple a its.toArray:=ht;cases e
    case non=>simp only[Rep] at ry;subst ry;cases qy;simpa only[cX] using EqAt.tuple_none eB dy
    case bl=>simp only[Rep] at ry;subst ry;cases qy;simpa only[cX] using EqAt.tuple_bool _ eB dy
    case int=>simp only[Rep] at ry;subst ry;obtain⟨t,rfl⟩:=qy;simpa only[cX] using EqAt.tuple_int _ t eB dy
    case str=>simp only[Rep] at ry;subst ry;obtain⟨t,rfl⟩:=qy;simpa only[cX] using EqAt.tuple_str _ t eB dy
    case lst es=>
     simp only[Rep] at ry;obtain⟨b,ys,rfl,q',jl⟩:=ry;cases qy;obtain⟨its',kJ,hl,_⟩:=I.list q'.sq;simpa only[cX] using EqAt.tuple_list eB hl.isList dy
    case tup es=>
     have Ef:=ry;simp only[Rep] at ry;obtain⟨b,ys,rfl,q',jl⟩:=ry;cases qy;obtain⟨its',kJ,nX,_⟩:=I.tuple (fW.of q');by_cases oi:a=b
     ·subst oi;have e0:=AE I (n+1) _ _ _ hd he Eg Ef;rw[<-e0,xR (n+1) _ hd];exact EqAt.same _
     ·refine EqAt.of_refs oi ?_;have h:=RcAt.tuples (e:=fun j=>cX (ds.getD j .non) (es.getD j .non)) eB (show s.heap.IsTuple b its'.toArray from nX) dy fun j h1 h2=>by
       obtain⟨v1,a1,b1,c1⟩:=oQ rv rs h1;obtain⟨v2,a2,b2,c2⟩:=oQ kJ jl h2;exact ih A.in1 _ _ v1 v2 _ _ (hd _ c1) (he _ c2) rn b1 b2 a1 a2
      have l1:its.toArray.size=ds.length:=by rw[ai,<-rv.length,rs.length]
      have l2:its'.toArray.size=es.length:=by rw[ai,<-kJ.length,jl.length]
      rw[l1,l2,Df] at h;simpa only[cX] using h
    case obj=>cases he
    case dic=>cases he
    case dit=>cases he
    case exc=>cases he
   case lst ds=>
    have Eg:=rx;simp only[Rep] at rx;obtain⟨a,xs,rfl,q,rs⟩:=rx;cases qx;obtain⟨its,rv,ht,_⟩:=I.list q.sq;have eB:=ht.isList;cases e
    case non=>simp only[Rep] at ry;subst ry;cases qy;simpa only[cX] using EqAt.list_none eB dy
    case bl=>simp only[Rep] at ry;subst ry;cases qy;simpa only[cX] using EqAt.list_bool _ eB dy
    case int=>simp only[Rep] at ry;subst ry;obtain⟨t,rfl⟩:=qy;simpa only[cX] using EqAt.list_int _ t eB dy
    case str=>simp only[Rep] at ry;subst ry;obtain⟨t,rfl⟩:=qy;simpa only[cX] using EqAt.list_str _ t eB dy
    case tup es=>
     simp only[Rep] at ry;obtain⟨b,ys,rfl,q',jl⟩:=ry;cases qy;obtain⟨its',kJ,hl,_⟩:=I.tuple (fW.of q');simpa only[cX] using EqAt.list_tuple eB (show s.heap.IsTuple b its'.toArray from hl) dy
    case lst es=>
     have Ef:=ry;simp only[Rep] at ry;obtain⟨b,ys,rfl,q',jl⟩:=ry;cases qy;obtain⟨its',kJ,nX,_⟩:=I.list q'.sq;by_cases oi:a=b
     ·subst oi;have e0:=AE I (n+1) _ _ _ hd he Eg Ef;rw[<-e0,xR (n+1) _ hd];exact EqAt.same _
     ·refine EqAt.of_refs oi ?_;have l1:its.toArray.size=ds.length:=by rw[ai,<-rv.length,rs.length]
      have l2:its'.toArray.size=es.length:=by rw[ai,<-kJ.length,jl.length]
      by_cases hl:ds.length=es.length
      ·have h:=RcAt.lists (e:=fun j=>cX (ds.getD j .non) (es.getD j .non)) eB nX.isList (by rw[l1,l2,hl]) dy fun j h1 h2=>by
        obtain⟨v1,a1,b1,c1⟩:=oQ rv rs h1;obtain⟨v2,a2,b2,c2⟩:=oQ kJ jl h2;exact ih A.in1 _ _ v1 v2 _ _ (hd _ c1) (he _ c2) rn b1 b2 a1 a2
       rw[l1,<-xP ds es hl] at h;simpa only[cX] using h
      ·have h:=RcAt.lists_lengths (A:=A) eB nX.isList (by rw[l1,l2];simpa using hl) dy;simp only[cX,xQ hl];exact h
    case obj=>cases he
    case dic=>cases he
    case dit=>cases he
    case exc=>cases he
   case obj=>cases hd
   case dic=>cases hd
   case dit=>cases hd
   case exc=>cases hd
end
end L2
namespace L2
open PySem PySem.Spec PyProof.Rows PySem.SeqAt
section
variable {X:Cx} {pins:List (Addr×Obj)} {σ:St} {H:Hp} {s:Shared}
theorem pN{y:V}{u:Value}(r:Rep X.K H y .non)(q:RelV y u):u=.none:=by simp only[Rep] at r;subst r;cases q;rfl
theorem pP{y:V}{u:Value}{c:Bool}(r:Rep X.K H y (.bl c))(q:RelV y u):u=.bool c:=by simp only[Rep] at r;subst r;cases q;rfl
theorem pO{y:V}{u:Value}{i:Int}(r:Rep X.K H y (.int i))(q:RelV y u):∃t,u=.int i t:=by simp only[Rep] at r;subst r;exact q
theorem pM{y:V}{u:Value}{x:Str}(r:Rep X.K H y (.str x))(q:RelV y u):∃t,u=.str x t:=by simp only[Rep] at r;subst r;exact q
theorem rE{y:V}{u:Value}{es:List D}(I:Inv X pins σ H s)(r:Rep X.K H y (.tup es))(q:RelV y u):∃b it,u=.ref b/\s.heap.IsTuple b (List.toArray it):=by
 simp only[Rep] at r;obtain⟨b,ys,rfl,h,_⟩:=r;cases q;obtain⟨it,_,ht,_⟩:=I.tuple (fW.of h);exact⟨b,it,rfl,ht⟩
theorem rF{y:V}{u:Value}{es:List D}(I:Inv X pins σ H s)(r:Rep X.K H y (.lst es))(q:RelV y u):∃b it,u=.ref b/\s.heap.IsList b (List.toArray it):=by
 simp only[Rep] at r;obtain⟨b,ys,rfl,h,_⟩:=r;cases q;obtain⟨it,_,ht,_⟩:=I.list h.sq;exact⟨b,it,rfl,ht.isList⟩
theorem Mq(I:Inv X pins σ H s):∀(n:Nat) (A:Around) (d e:D) (x y:V) (v u:Value),dZ n d->dZ n e->A.units+n<cLine->Rep X.K H x d->Rep X.K H y e->RelV x v->RelV y u->RcAt A s v u (cX d e):=by
 intro n A d e x y v u hd he hu rx ry qx qy;have dy:A.units<cLine:=by omega
 cases d
 case non=>
  simp only[Rep] at rx;subst rx;cases qx;cases e
  case non=>cases pN ry qy;exact RcAt.none_none
  case bl=>cases pP ry qy;exact RcAt.none_bool _
  case int=>obtain⟨t,rfl⟩:=pO ry qy;exact RcAt.none_int _ t
  case str=>obtain⟨t,rfl⟩:=pM ry qy;exact RcAt.none_str _ t
  case tup=>obtain⟨b,it,rfl,h2⟩:=rE I ry qy;exact RcAt.none_tuple h2 dy
  case lst=>obtain⟨b,it,rfl,h2⟩:=rF I ry qy;exact RcAt.none_list h2 dy
  all_goals (cases n<;>cases he)
 case bl a=>
  simp only[Rep] at rx;subst rx;cases qx;cases e
  case non=>cases pN ry qy;exact RcAt.bool_none _
  case bl=>cases pP ry qy;exact RcAt.bool_bool _ _
  case int=>obtain⟨t,rfl⟩:=pO ry qy;exact RcAt.bool_int _ _ t
  case str=>obtain⟨t,rfl⟩:=pM ry qy;exact RcAt.bool_str _ _ t
  case tup=>obtain⟨b,it,rfl,h2⟩:=rE I ry qy;exact RcAt.bool_tuple _ h2 dy
  case lst=>obtain⟨b,it,rfl,h2⟩:=rF I ry qy;exact RcAt.bool_list _ h2 dy
  all_goals (cases n<;>cases he)
 case int a=>
  simp only[Rep] at rx;subst rx;obtain⟨t0,rfl⟩:=qx;cases e
  case non=>cases pN ry qy;exact RcAt.int_none _ t0
  case bl=>cases pP ry qy;exact RcAt.int_bool _ t0 _
  case int=>obtain⟨t,rfl⟩:=pO ry qy;exact RcAt.int_int _ t0 _ t
  case str=>obtain⟨t,rfl⟩:=pM ry qy;exact RcAt.int_str _ t0 _ t
  case tup=>obtain⟨b,it,rfl,h2⟩:=rE I ry qy;exact RcAt.int_tuple _ t0 h2 dy
  case lst=>obtain⟨b,it,rfl,h2⟩:=rF I ry qy;exact RcAt.int_list _ t0 h2 dy
  all_goals (cases n<;>cases he)
 case str a=>
  simp only[Rep] at rx;subst rx;obtain⟨t0,rfl⟩:=qx;cases e
  case non=>cases pN ry qy;exact RcAt.str_none _ t0
  case bl=>cases pP ry qy;exact RcAt.str_bool _ t0 _
  case int=>obtain⟨t,rfl⟩:=pO ry qy;exact RcAt.str_int _ t0 _ t
  case str=>obtain⟨t,rfl⟩:=pM ry qy;exact RcAt.str_str _ t0 _ t
  case tup=>obtain⟨b,it,rfl,h2⟩:=rE I ry qy;exact RcAt.str_tuple _ t0 h2 dy
  case lst=>obtain⟨b,it,rfl,h2⟩:=rF I ry qy;exact RcAt.str_list _ t0 h2 dy
  all_goals (cases n<;>cases he)
 case tup ds=>
  cases n with
  | zero=>cases hd
  | succ n=>
  have rn:A.in1.units+n<cLine:=by show A.units+1+n<cLine;omega
  simp only[Rep] at rx;obtain⟨a,xs,rfl,q,rs⟩:=rx;cases qx;obtain⟨its,rv,ht,_⟩:=I.tuple (fW.of q);have eB:s.heap.IsTuple a its.toArray:=ht;cases e
  case non=>cases pN ry qy;exact RcAt.tuple_none eB dy
  case bl=>cases pP ry qy;exact RcAt.tuple_bool _ eB dy
  case int=>obtain⟨t,rfl⟩:=pO ry qy;exact RcAt.tuple_int _ t eB dy
  case str=>obtain⟨t,rfl⟩:=pM ry qy;exact RcAt.tuple_str _ t eB dy
  case lst es=>obtain⟨b,it,rfl,h2⟩:=rF I ry qy;exact RcAt.tuple_list eB h2 dy
  case tup es=>
   simp only[Rep] at ry;obtain⟨b,ys,rfl,q',jl⟩:=ry;cases qy;obtain⟨its',kJ,nX,_⟩:=I.tuple (fW.of q');have h:=RcAt.tuples (e:=fun j=>cX (ds.getD j .non) (es.getD j .non)) eB (show s.heap.IsTuple b its'.toArray from nX) dy fun j h1 h2=>by
    obtain⟨v1,a1,b1,c1⟩:=oQ rv rs h1;obtain⟨v2,a2,b2,c2⟩:=oQ kJ jl h2;exact xv I n A.in1 _ _ v1 v2 _ _ (hd _ c1) (he _ c2) rn b1 b2 a1 a2
   have l1:its.toArray.size=ds.length:=by rw[ai,<-rv.length,rs.length]
   have l2:its'.toArray.size=es.length:=by rw[ai,<-kJ.length,jl.length]
   rw[l1,l2,Df] at h;simpa only[cX] using h
  all_goals cases he
 case lst ds=>
  cases n with
  | zero=>cases hd
  | succ n=>
  have rn:A.in1.units+n<cLine:=by show A.units+1+n<cLine;omega
  simp only[Rep] at rx;obtain⟨a,xs,rfl,q,rs⟩:=rx;cases qx;obtain⟨its,rv,ht,_⟩:=I.list q.sq;have eB:=ht.isList;cases e
  case non=>cases pN ry qy;exact RcAt.list_none eB dy
  case bl=>cases pP ry qy;exact RcAt.list_bool _ eB dy
  case int=>obtain⟨t,rfl⟩:=pO ry qy;exact RcAt.list_int _ t eB dy
  case str=>obtain⟨t,rfl⟩:=pM ry qy;exact RcAt.list_str _ t eB dy
  case tup es=>obtain⟨b,it,rfl,h2⟩:=rE I ry qy;exact RcAt.list_tuple eB h2 dy
  case lst es=>
   simp only[Rep] at ry;obtain⟨b,ys,rfl,q',jl⟩:=ry;cases qy;obtain⟨its',kJ,nX,_⟩:=I.list q'.sq;have l1:its.toArray.size=ds.length:=by rw[ai,<-rv.length,rs.length]
   have l2:its'.toArray.size=es.length:=by rw[ai,<-kJ.length,jl.length]
   by_cases hl:ds.length=es.length
   ·have h:=RcAt.lists (e:=fun j=>cX (ds.getD j .non) (es.getD j .non)) eB nX.isList (by rw[l1,l2,hl]) dy fun j h1 h2=>by
     obtain⟨v1,a1,b1,c1⟩:=oQ rv rs h1;obtain⟨v2,a2,b2,c2⟩:=oQ kJ jl h2;exact xv I n A.in1 _ _ v1 v2 _ _ (hd _ c1) (he _ c2) rn b1 b2 a1 a2
    rw[l1,<-xP ds es hl] at h;simpa only[cX] using h
   ·have h:=RcAt.lists_lengths (A:=A) eB nX.isList (by rw[l1,l2];simpa using hl) dy;simp only[cX,xQ hl];exact h
  all_goals cases he
 all_goals (cases n<;>cases hd)
theorem OE(I:Inv X pins σ H s):∀(n:Nat) (A:Around) (d e:D) (x y:V) (v u:Value),dZ n d->dZ n e->A.units+n<cLine->Rep X.K H x d->Rep X.K H y e->RelV x v->RelV y u->RcNeAt A s v u (!cX d e):=by
 intro n A d e x y v u hd he hu rx ry qx qy;have dy:A.units<cLine:=by omega
 cases d
 case non=>
  simp only[Rep] at rx;subst rx;cases qx;cases e
  case non=>cases pN ry qy;exact RcNeAt.none_none
  case bl=>cases pP ry qy;exact RcNeAt.none_bool _
  case int=>obtain⟨t,rfl⟩:=pO ry qy;exact RcNeAt.none_int _ t
  case str=>obtain⟨t,rfl⟩:=pM ry qy;exact RcNeAt.none_str _ t
  case tup=>obtain⟨b,it,rfl,h2⟩:=rE I ry qy;exact RcNeAt.none_tuple h2 dy
  case lst=>obtain⟨b,it,rfl,h2⟩:=rF I ry qy;exact RcNeAt.none_list h2 dy
  all_goals (cases n<;>cases he)
 case bl a=>
  simp only[Rep] at rx;subst rx;cases qx;cases e
  case non=>cases pN ry qy;exact RcNeAt.bool_none _
  case bl=>cases pP ry qy;exact RcNeAt.bool_bool _ _
  case int=>obtain⟨t,rfl⟩:=pO ry qy;exact RcNeAt.bool_int _ _ t
  case str=>obtain⟨t,rfl⟩:=pM ry qy;exact RcNeAt.bool_str _ _ t
  case tup=>obtain⟨b,it,rfl,h2⟩:=rE I ry qy;exact RcNeAt.bool_tuple _ h2 dy
  case lst=>obtain⟨b,it,rfl,h2⟩:=rF I ry qy;exact RcNeAt.bool_list _ h2 dy
  all_goals (cases n<;>cases he)
 case int a=>
  simp only[Rep] at rx;subst rx;obtain⟨t0,rfl⟩:=qx;cases e
  case non=>cases pN ry qy;exact RcNeAt.int_none _ t0
  case bl=>cases pP ry qy;exact RcNeAt.int_bool _ t0 _
  case int=>obtain⟨t,rfl⟩:=pO ry qy;exact RcNeAt.int_int _ t0 _ t
  case str=>obtain⟨t,rfl⟩:=pM ry qy;exact RcNeAt.int_str _ t0 _ t
  case tup=>obtain⟨b,it,rfl,h2⟩:=rE I ry qy;exact RcNeAt.int_tuple _ t0 h2 dy
  case lst=>obtain⟨b,it,rfl,h2⟩:=rF I ry qy;exact RcNeAt.int_list _ t0 h2 dy
  all_goals (cases n<;>cases he)
 case str a=>
  simp only[Rep] at rx;subst rx;obtain⟨t0,rfl⟩:=qx;cases e
  case non=>cases pN ry qy;exact RcNeAt.str_none _ t0
  case bl=>cases pP ry qy;exact RcNeAt.str_bool _ t0 _
  case int=>obtain⟨t,rfl⟩:=pO ry qy;exact RcNeAt.str_int _ t0 _ t
  case str=>obtain⟨t,rfl⟩:=pM ry qy;exact RcNeAt.str_str _ t0 _ t
  case tup=>obtain⟨b,it,rfl,h2⟩:=rE I ry qy;exact RcNeAt.str_tuple _ t0 h2 dy
  case lst=>obtain⟨b,it,rfl,h2⟩:=rF I ry qy;exact RcNeAt.str_list _ t0 h2 dy
  all_goals (cases n<;>cases he)
 case tup ds=>
  cases n with
  | zero=>cases hd
  | succ n=>
  have rn:A.in1.units+n<cLine:=by show A.units+1+n<cLine;omega
  simp only[Rep] at rx;obtain⟨a,xs,rfl,q,rs⟩:=rx;cases qx;obtain⟨its,rv,ht,_⟩:=I.tuple (fW.of q);have eB:s.heap.IsTuple a its.toArray:=ht;cases e
  case non=>cases pN ry qy;exact RcNeAt.tuple_none eB dy
  case bl=>cases pP ry qy;exact RcNeAt.tuple_bool _ eB dy
  case int=>obtain⟨t,rfl⟩:=pO ry qy;exact RcNeAt.tuple_int _ t eB dy
  case str=>obtain⟨t,rfl⟩:=pM ry qy;exact RcNeAt.tuple_str _ t eB dy
  case lst es=>obtain⟨b,it,rfl,h2⟩:=rF I ry qy;exact RcNeAt.tuple_list eB h2 dy
  case tup es=>
   simp only[Rep] at ry;obtain⟨b,ys,rfl,q',jl⟩:=ry;cases qy;obtain⟨its',kJ,nX,_⟩:=I.tuple (fW.of q');have h:=RcNeAt.tuples (e:=fun j=>cX (ds.getD j .non) (es.getD j .non)) eB (show s.heap.IsTuple b its'.toArray from nX) dy fun j h1 h2=>by
    obtain⟨v1,a1,b1,c1⟩:=oQ rv rs h1;obtain⟨v2,a2,b2,c2⟩:=oQ kJ jl h2;exact xv I n A.in1 _ _ v1 v2 _ _ (hd _ c1) (he _ c2) rn b1 b2 a1 a2
   have l1:its.toArray.size=ds.length:=by rw[ai,<-rv.length,rs.length]
   have l2:its'.toArray.size=es.length:=by rw[ai,<-kJ.length,jl.length]
   rw[l1,l2,Df] at h;simpa only[cX] using h
  all_goals cases he
 case lst ds=>
  cases n with
  | zero=>cases hd
  | succ n=>
  have rn:A.in1.units+n<cLine:=by show A.units+1+n<cLine;omega
  simp only[Rep] at rx;obtain⟨a,xs,rfl,q,rs⟩:=rx;cases qx;obtain⟨its,rv,ht,_⟩:=I.list q.sq;have eB:=ht.isList;cases e
  case non=>cases pN ry qy;exact RcNeAt.list_none eB dy
  case bl=>cases pP ry qy;exact RcNeAt.list_bool _ eB dy
  case int=>obtain⟨t,rfl⟩:=pO ry qy;exact RcNeAt.list_int _ t eB dy
  case str=>obtain⟨t,rfl⟩:=pM ry qy;exact RcNeAt.list_str _ t eB dy
  case tup es=>obtain⟨b,it,rfl,h2⟩:=rE I ry qy;exact RcNeAt.list_tuple eB h2 dy
  case lst es=>
   simp only[Rep] at ry;obtain⟨b,ys,rfl,q',jl⟩:=ry;cases qy;obtain⟨its',kJ,nX,_⟩:=I.list q'.sq;have l1:its.toArray.size=ds.length:=by rw[ai,<-rv.length,rs.length]
   have l2:its'.toArray.size=es.length:=by rw[ai,<-kJ.length,jl.length]
   by_cases hl:ds.length=es.length
   ·have h:=RcNeAt.lists (e:=fun j=>cX (ds.getD j .non) (es.getD j .non)) eB nX.isList (by rw[l1,l2,hl]) dy fun j h1 h2=>by
     obtain⟨v1,a1,b1,c1⟩:=oQ rv rs h1;obtain⟨v2,a2,b2,c2⟩:=oQ kJ jl h2;exact xv I n A.in1 _ _ v1 v2 _ _ (hd _ c1) (he _ c2) rn b1 b2 a1 a2
    rw[l1,<-xP ds es hl] at h;simpa only[cX] using h
   ·have h:=RcNeAt.lists_lengths (A:=A) eB nX.isList (by rw[l1,l2];simpa using hl) dy;simp only[cX,xQ hl];exact h
  all_goals cases he
 all_goals (cases n<;>cases hd)
end
section
variable {X:Cx}
def oEq:O2:=fun d e Q=>dZ 9 d/\dZ 9 e/\Q (.fz (.bl (cX d e)))
def wB:O2:=fun d e Q=>dZ 9 d/\dZ 9 e/\Q (.fz (.bl (!cX d e)))
theorem gJ(hu:X.A.units+64<cLine):ky X (compareOp .Eq) oEq:=by
 refine⟨fun x y H Q=>∃d e,dZ 9 d/\dZ 9 e/\Rep X.K H x d/\Rep X.K H y e/\Q (.bl (cX d e)) H,fun pins s σ H x y v u Q I rx ry h=>?_,fun G H x y d e Q P s rx ry h k=>?_⟩
 ·obtain⟨d,e,hd,he,rd,re,q⟩:=h;exact Mq I 9 X.A d e x y v u hd he (by omega) rd re rx ry _ _ _ _ ⟨.bl _,H,I,rfl,q⟩
 ·exact⟨d,e,h.1,h.2.1,rx.mono s,ry.mono s,k _ _ _ G (.refl s) (eN (jw _ _ _)) h.2.2⟩
theorem zU(hu:X.A.units+64<cLine):ky X (compareOp .NotEq) wB:=by
 refine⟨fun x y H Q=>∃d e,dZ 9 d/\dZ 9 e/\Rep X.K H x d/\Rep X.K H y e/\Q (.bl (!cX d e)) H,fun pins s σ H x y v u Q I rx ry h=>?_,fun G H x y d e Q P s rx ry h k=>?_⟩
 ·obtain⟨d,e,hd,he,rd,re,q⟩:=h;exact OE I 9 X.A d e x y v u hd he (by omega) rd re rx ry _ _ _ _ ⟨.bl _,H,I,rfl,q⟩
 ·exact⟨d,e,h.1,h.2.1,rx.mono s,ry.mono s,k _ _ _ G (.refl s) (eN (jw _ _ _)) h.2.2⟩
noncomputable def inD(d:D)(ds:List D):Bool:=ds.any fun e=>cX e d
def jO(neg:Bool):O2:=fun d e Q=>match d,e with
 | .str x,.str y=>Q (.fz (.bl (if neg then !(!(Builtin.Str.occurrences y x 0 y.length 1).isEmpty) else !(Builtin.Str.occurrences y x 0 y.length 1).isEmpty)))
 | d,.lst es=>dZ 8 d/\(∀e∈es,dZ 8 e)/\Q (.fz (.bl (if neg then !inD d es else inD d es)))
 | d,.tup es=>dZ 8 d/\(∀e∈es,dZ 8 e)/\Q (.fz (.bl (if neg then !inD d es else inD d es)))
 | _,_=>False
noncomputable def lX(X:Cx)(H:Hp)(d:D)(u:Value):Bool:=open Classical in if h:∃(v:V) (e:D),dZ 8 e/\RelV v u/\Rep X.K H v e then cX h.choose_spec.choose d else false
theorem CL{pins:List (Addr×Obj)}{σ:St}{H:Hp}{s:Shared}(I:Inv X pins σ H s){d e:D}{v:V}{u:Value}(he:dZ 8 e)(rv:RelV v u)(re:Rep X.K H v e):lX X H d u=cX e d:=by
 have h:∃(v:V) (e:D),dZ 8 e/\RelV v u/\Rep X.K H v e:=⟨v,e,he,rv,re⟩
 unfold lX;rw[dif_pos h];obtain⟨h1,h2,h3⟩:=h.choose_spec.choose_spec;have e1:h.choose=v:=RelV.inj h2 rv;have h4:∀v',v'=v->∀e',dZ 8 e'->Rep X.K H v' e'->e'=e:=fun v' hv e' o r=>by subst hv;exact AE I 8 _ e _ o he r re
 rw[h4 _ e1 _ h1 h3]
theorem xu{pins:List (Addr×Obj)}{σ:St}{H:Hp}{s:Shared}(I:Inv X pins σ H s){d:D}:∀{es:List D} {vs:List V} {us:List Value},(∀e∈es,dZ 8 e)->Vals vs us->bw X.K H vs es->us.any (lX X H d)=inD d es
 | [],_,_,_,rv,re=>by
  cases rv
  ·rfl
  ·simp only[bw] at re
 | e::es,_,_,h,rv,re=>by
  cases rv with
  | nil=>simp only[bw] at re
  | cons r t=>
   simp only[bw] at re;rw[List.any_cons,CL I (h e (by simp)) r re.1,xu I (fun x hx=>h x (by simp[hx])) t re.2];rfl
theorem xO{pins:List (Addr×Obj)}{σ:St}{H:Hp}{s:Shared}{A:Around}(I:Inv X pins σ H s){d:D}{x:V}{v:Value}(hd:dZ 8 d)(hu:A.units+8<cLine)(rx:Rep X.K H x d)(qx:RelV x v){es:List D}{vs:List V}{us:List Value}
  (he:∀e∈es,dZ 8 e) (rv:Vals vs us) (re:bw X.K H vs es):∀u∈us.toArray,EqAt A s u v (lX X H d u):=fun u UP=>by
 obtain⟨j,hj,e⟩:=Array.mem_iff_getElem.mp UP;obtain⟨w,a1,b1,c1⟩:=oQ rv re hj;rw[e] at a1;rw[CL I (he _ c1) a1 b1];exact xv I 8 A _ _ w x _ _ (he _ c1) hd hu b1 rx a1 qx
theorem Mp(hu:X.A.units+64<cLine):gf X (compareOp .In) (fun x y H Q=>∃p d es vs,y=.ref p/\(eI X.K H p vs\/fW X.K H p vs)/\dZ 8 d/\(∀e∈es,dZ 8 e)/\Rep X.K H x d/\bw X.K H vs es/\Q (.bl (inD d es)) H):=by
 intro pins s σ H x y v u Q I rx ry h;obtain⟨p,d,es,vs,rfl,hq,hd,he,rd,re,q⟩:=h;cases ry;rcases hq with hq | hq
 ·obtain⟨its,r,pl,hz⟩:=I.list hq;refine SeqAt.in_listAt (lX X H d) pl.isList (xO I hd (by show X.A.units+1+8<cLine;omega) rd rx he r re) ⟨.bl _,H,I,rfl,?_⟩;rw[show its.toArray.any (lX X H d)=its.any (lX X H d) by simp,xu I he r re];exact q
 ·obtain⟨its,r,pl,hz⟩:=I.tuple hq;refine SeqAt.in_tupleAt (lX X H d) pl (xO I hd (by show X.A.units+1+8<cLine;omega) rd rx he r re) ⟨.bl _,H,I,rfl,?_⟩;rw[show its.toArray.any (lX X H d)=its.any (lX X H d) by simp,xu I he r re];exact q
theorem Qv(hu:X.A.units+64<cLine):gf X (compareOp .NotIn) (fun x y H Q=>∃p d es vs,y=.ref p/\(eI X.K H p vs\/fW X.K H p vs)/\dZ 8 d/\(∀e∈es,dZ 8 e)/\Rep X.K H x d/\bw X.K H vs es/\Q (.bl (!inD d es)) H):=by
 intro pins s σ H x y v u Q I rx ry h;obtain⟨p,d,es,vs,rfl,hq,hd,he,rd,re,q⟩:=h;cases ry;rcases hq with hq | hq
 ·obtain⟨its,r,pl,hz⟩:=I.list hq;refine SeqAt.notIn_listAt (lX X H d) pl.isList (xO I hd (by show X.A.units+1+8<cLine;omega) rd rx he r re) ⟨.bl _,H,I,rfl,?_⟩;rw[show its.toArray.any (lX X H d)=its.any (lX X H d) by simp,xu I he r re];exact q
 ·obtain⟨its,r,pl,hz⟩:=I.tuple hq;refine SeqAt.notIn_tupleAt (lX X H d) pl (xO I hd (by show X.A.units+1+8<cLine;omega) rd rx he r re) ⟨.bl _,H,I,rfl,?_⟩;rw[show its.toArray.any (lX X H d)=its.any (lX X H d) by simp,xu I he r re];exact q
theorem oE(hu:X.A.units+64<cLine):ky X (compareOp .In) (jO false):=by
 refine⟨_,oU.or (Mp hu),fun G H x y d e Q P s rx ry h k=>?_⟩;unfold jO at h;split at h
 ·simp only[Rep] at rx ry;exact .inl ⟨_,_,rx,ry,k _ _ _ G (.refl s) (eN (jw _ _ _)) h⟩
 ·simp only[Rep] at ry;obtain⟨a,ys,rfl,hy,rg⟩:=ry;exact .inr ⟨a,_,_,ys,rfl,.inl ((s.fw hy).sq),h.1,h.2.1,rx.mono s,rg.mono s,k _ _ _ G (.refl s) (eN (jw _ _ _)) h.2.2⟩
 ·simp only[Rep] at ry;obtain⟨a,ys,rfl,hy,rg⟩:=ry;exact .inr ⟨a,_,_,ys,rfl,.inr (s.lz hy),h.1,h.2.1,rx.mono s,rg.mono s,k _ _ _ G (.refl s) (eN (jw _ _ _)) h.2.2⟩
 ·exact h.elim
theorem C1(hu:X.A.units+64<cLine):ky X (compareOp .NotIn) (jO true):=by
 refine⟨_,lB.or (Qv hu),fun G H x y d e Q P s rx ry h k=>?_⟩;unfold jO at h;split at h
 ·simp only[Rep] at rx ry;exact .inl ⟨_,_,rx,ry,k _ _ _ G (.refl s) (eN (jw _ _ _)) h⟩
 ·simp only[Rep] at ry;obtain⟨a,ys,rfl,hy,rg⟩:=ry;exact .inr ⟨a,_,_,ys,rfl,.inl ((s.fw hy).sq),h.1,h.2.1,rx.mono s,rg.mono s,k _ _ _ G (.refl s) (eN (jw _ _ _)) h.2.2⟩
 ·simp only[Rep] at ry;obtain⟨a,ys,rfl,hy,rg⟩:=ry;exact .inr ⟨a,_,_,ys,rfl,.inr (s.lz hy),h.1,h.2.1,rx.mono s,rg.mono s,k _ _ _ G (.refl s) (eN (jw _ _ _)) h.2.2⟩
 ·exact h.elim
noncomputable def oK:D->Bool
 | .non=>true
 | _=>false
def rM(neg:Bool):O2:=fun d e Q=>match e with
 | .non=>Q (.fz (.bl (if neg then !oK d else oK d)))
 | _=>False
theorem Ii{K:PySem.W.Frag}{G:Hp}{x:V}{d:D}(r:Rep K G x d):decide (x=.non)=oK d:=by
 cases d<;>simp only[Rep] at r
 case non=>subst r;rfl
 case bl=>subst r;rfl
 case int=>subst r;rfl
 case str=>subst r;rfl
 case tup=>obtain⟨_,_,rfl,_⟩:=r;rfl
 case lst=>obtain⟨_,_,rfl,_⟩:=r;rfl
 case obj=>obtain⟨_,_,_,_,rfl,_⟩:=r;rfl
 case dic=>obtain⟨_,_,_,rfl,_⟩:=r;rfl
 case dit=>obtain⟨_,_,_,rfl,_⟩:=r;rfl
 case exc=>obtain⟨_,_,_,_,_,rfl,_⟩:=r;rfl
theorem LC:ky X (compareOp .Is) (rM false):=by
 refine⟨_,MC,fun G H x y d e Q P s rx ry h k=>?_⟩;unfold rM at h;split at h
 ·simp only[Rep] at ry;refine⟨ry,?_⟩;rw[Ii rx];exact k _ _ _ G (.refl s) (eN (jw _ _ _)) h
 ·exact h.elim
theorem C0:ky X (compareOp .IsNot) (rM true):=by
 refine⟨_,Of,fun G H x y d e Q P s rx ry h k=>?_⟩;unfold rM at h;split at h
 ·simp only[Rep] at ry;refine⟨ry,?_⟩;rw[Ii rx];exact k _ _ _ G (.refl s) (eN (jw _ _ _)) h
 ·exact h.elim
end
end L2
namespace L2
open PySem PySem.Spec PyProof.Rows
section
variable {X:Cx} {pos:Pos} {a b c:Expr} {ta tb tc:TD} {pa wA:iR} {kz:List Expr}
def vD(t:iR):iR:=fun ρ Q=>t ρ fun k=>Q (!k)
def qQ(t u:iR):iR:=fun ρ Q=>t ρ fun k=>if k=true then u ρ Q else Q false
def zH(t u:iR):iR:=fun ρ Q=>t ρ fun k=>if k=true then Q true else u ρ Q
theorem Am(h:PB X a pa):PB X (.UnaryOp .Not a pos) (vD pa):=by
 obtain⟨t,p,q⟩:=h;exact⟨_,NV p,fun ρ σ G0 H0 G H Q P E h k=>q ρ σ G0 H0 G H _ _ E h fun b H' G' x hq=>k _ H' G' x hq⟩
def uh(X:Cx)(e:Expr)(t:iR):Prop:=∃tt,PW X e tt/\∀(ρ:Ev) (σ:St) (G0 H0 G H:Hp) (Q:Bool->Prop) (P:Bool->Hp->Prop),cP X.K G0 H0 ρ σ G H->t ρ Q->
 (∀b H' G',Ext G H G' H'->Q b->P b H')->tt σ H P
theorem uh.pb{e:Expr}{t:iR}(h:uh X e t):PB X e t:=let⟨tt,p,q⟩:=h;⟨tt,p.pt,q⟩
theorem xN(h:PB X a pa):uh X (.BoolOp .And [a] pos) pa:=let⟨tt,p,q⟩:=h;⟨tt,Oi p,q⟩
theorem CZ(h:PB X a pa):uh X (.BoolOp .Or [a] pos) pa:=let⟨tt,p,q⟩:=h;⟨tt,NX p,q⟩
theorem tO(h:PB X a pa)(h':uh X (.BoolOp .And (b::kz) pos) wA):uh X (.BoolOp .And (a::b::kz) pos) (qQ pa wA):=by
 obtain⟨t,p,q⟩:=h;obtain⟨t',p',q'⟩:=h';refine⟨_,NW p p',fun ρ σ G0 H0 G H Q P E h k=>q ρ σ G0 H0 G H _ _ E h fun b H' G' x hq=>?_⟩;cases b with
 | true=>rw[if_pos rfl] at hq ⊢;exact q' ρ σ G0 H0 G' H' Q P (E.ext x) hq fun b2 H2 G2 x2 h2=>k b2 H2 G2 (x.trans x2) h2
 | false=>rw[if_neg aG] at hq ⊢;exact k false H' G' x hq
theorem CK(h:PB X a pa)(h':uh X (.BoolOp .Or (b::kz) pos) wA):uh X (.BoolOp .Or (a::b::kz) pos) (zH pa wA):=by
 obtain⟨t,p,q⟩:=h;obtain⟨t',p',q'⟩:=h';refine⟨_,Me p p',fun ρ σ G0 H0 G H Q P E h k=>q ρ σ G0 H0 G H _ _ E h fun b H' G' x hq=>?_⟩;cases b with
 | true=>rw[if_pos rfl] at hq ⊢;exact k true H' G' x hq
 | false=>rw[if_neg aG] at hq ⊢;exact q' ρ σ G0 H0 G' H' Q P (E.ext x) hq fun b2 H2 G2 x2 h2=>k b2 H2 G2 (x.trans x2) h2
def Cb(t:TD):TD:=fun ρ Q=>t ρ fun r=>match r with
 | .fz (.bl k)=>Q (.fz (.bl (!k)))
 | _=>False
def zT(t u:TD):TD:=fun ρ Q=>t ρ fun r=>match r with
 | .fz (.bl k)=>if k=true then u ρ Q else Q (.fz (.bl false))
 | _=>False
def FA(t u:TD):TD:=fun ρ Q=>t ρ fun r=>match r with
 | .fz (.bl k)=>if k=true then Q (.fz (.bl true)) else u ρ Q
 | _=>False
theorem Mo(h:PD X a ta):PD X (.UnaryOp .Not a pos) (Cb ta):=by
 obtain⟨t,p,q⟩:=h;refine⟨_,NS p,fun ρ σ G0 H0 G H Q P E h k=>q ρ σ G0 H0 G H _ _ E h fun v H' r G' x rr hq=>?_⟩;split at hq
 ·rename_i kk;have e:v=.bl kk:=by simpa only[dv,Rep] using rr
  exact⟨kk,e,k _ H' _ G' x (eN (jw _ _ _)) hq⟩
 ·exact hq.elim
theorem GJ{op}(h:PD X a ta):PD X (.BoolOp op [a] pos) ta:=let⟨t,p,q⟩:=h;⟨t,NU p,q⟩
theorem M3(h:PD X a ta)(h':PD X (.BoolOp .And (b::kz) pos) tb):PD X (.BoolOp .And (a::b::kz) pos) (zT ta tb):=by
 obtain⟨t,p,q⟩:=h;obtain⟨t',p',q'⟩:=h';refine⟨_,NT p p',fun ρ σ G0 H0 G H Q P E h k=>q ρ σ G0 H0 G H _ _ E h fun v H' r G' x rr hq=>?_⟩;split at hq
 ·rename_i kk;have e:v=.bl kk:=by simpa only[dv,Rep] using rr
  refine⟨kk,e,?_⟩;cases kk with
  | true=>rw[if_pos rfl] at hq ⊢;exact q' ρ σ G0 H0 G' H' Q P (E.ext x) hq fun b2 H2 r2 G2 x2 m8 h2=>k b2 H2 r2 G2 (x.trans x2) (m8.fI x.h) h2
  | false=>rw[if_neg aG] at hq ⊢;exact k _ H' _ G' x (eN (jw _ _ _)) hq
 ·exact hq.elim
theorem Mn(h:PD X a ta)(h':PD X (.BoolOp .Or (b::kz) pos) tb):PD X (.BoolOp .Or (a::b::kz) pos) (FA ta tb):=by
 obtain⟨t,p,q⟩:=h;obtain⟨t',p',q'⟩:=h';refine⟨_,Mb p p',fun ρ σ G0 H0 G H Q P E h k=>q ρ σ G0 H0 G H _ _ E h fun v H' r G' x rr hq=>?_⟩;split at hq
 ·rename_i kk;have e:v=.bl kk:=by simpa only[dv,Rep] using rr
  refine⟨kk,e,?_⟩;cases kk with
  | true=>rw[if_pos rfl] at hq ⊢;exact k _ H' _ G' x (eN (jw _ _ _)) hq
  | false=>rw[if_neg aG] at hq ⊢;exact q' ρ σ G0 H0 G' H' Q P (E.ext x) hq fun b2 H2 r2 G2 x2 m8 h2=>k b2 H2 r2 G2 (x.trans x2) (m8.fI x.h) h2
 ·exact hq.elim
def sP(t:iR)(ta tb:TD):TD:=fun ρ Q=>t ρ fun k=>if k=true then ta ρ Q else tb ρ Q
theorem AO(h:PB X c pa)(h1:PD X a ta)(h2:PD X b tb):PD X (.IfExp c a b pos) (sP pa ta tb):=by
 obtain⟨t,p,q⟩:=h;obtain⟨t1,p1,q1⟩:=h1;obtain⟨t2,p2,q2⟩:=h2;refine⟨_,HU p p1 p2,fun ρ σ G0 H0 G H Q P E h k=>q ρ σ G0 H0 G H _ _ E h fun b H' G' x hq=>?_⟩;cases b with
 | true=>rw[if_pos rfl] at hq ⊢;exact q1 ρ σ G0 H0 G' H' Q P (E.ext x) hq fun b2 H2 r2 G2 x2 m8 h2=>k b2 H2 r2 G2 (x.trans x2) (m8.fI x.h) h2
 | false=>rw[if_neg aG] at hq ⊢;exact q2 ρ σ G0 H0 G' H' Q P (E.ext x) hq fun b2 H2 r2 G2 x2 m8 h2=>k b2 H2 r2 G2 (x.trans x2) (m8.fI x.h) h2
def uB(o o':O2)(ta tb tc:TD):TD:=fun ρ Q=>ta ρ fun ra=>tb ρ fun rb=>o ra.val rb.val fun r=>match r with
 | .fz (.bl k)=>if k=true then tc ρ fun rc=>o' rb.val rc.val Q else Q (.fz (.bl false))
 | _=>False
abbrev rG(K:PySem.W.Frag)(t:TD)(tt:TE):Prop:=∀(ρ:Ev) (σ:St) (G0 H0 G H:Hp) (Q:R->Prop) (P:VK),cP K G0 H0 ρ σ G H->t ρ Q->(∀v H' r G',Ext G H G' H'->dv K G' H' H v r->Q r->P v H')->tt σ H P
theorem Ih{K:PySem.W.Frag}{g g':Int->Int->Bool}{t1 t2 t3:TE}(q1:rG K ta t1)(q2:rG K tb t2)(q3:rG K tc t3) :
  rG K (uB (gO fun i j=>.bl (g i j)) (gO fun i j=>.bl (g' i j)) ta tb tc) (CH (m9 fun i j=>.bl (g i j)) (m9 fun i j=>.bl (g' i j)) t1 t2 t3):=by
 refine fun ρ σ G0 H0 G H Q P E h k=>q1 ρ σ G0 H0 G H _ _ E h fun v1 H1 r1 G1 x1 uN mw=>?_
 obtain⟨FP,tS,Eh,_⟩:=uN.freeze x1;refine q2 ρ σ G0 H0 FP H1 _ _ (E.ext tS) mw fun v2 H2 r2 G2 x2 m8 iP=>?_
 obtain⟨BZ,tQ,pG,_⟩:=m8.freeze x2;unfold gO at iP;split at iP
 ·rename_i i j e1 e2;rw[e1] at Eh;rw[e2] at pG;simp only[Rep] at Eh pG;refine⟨i,j,Eh,pG,_,rfl,?_⟩;dsimp only at iP;cases hk:g i j with
  | false=>
   rw[hk,if_neg aG] at iP;rw[if_neg aG];exact k _ _ _ BZ (tS.trans tQ) (eN (jw _ _ _)) iP
  | true=>
   rw[hk,if_pos rfl] at iP;rw[if_pos rfl];refine q3 ρ σ G0 H0 BZ H2 _ _ (E.ext (tS.trans tQ)) iP fun v3 H3 r3 G3 x3 qu eQ=>?_
   obtain⟨V6,TJ,mj,_⟩:=qu.freeze x3;rw[e2] at eQ;split at eQ
   ·rename_i i' j' e3 e4;cases e3;rw[e4] at mj;simp only[Rep] at mj;exact⟨j,j',pG,mj,k _ _ _ V6 ((tS.trans tQ).trans TJ) (eN (jw _ _ _)) eQ⟩
   ·exact eQ.elim
 ·exact iP.elim
theorem M1{K:PySem.W.Frag}{t:TD}{tt:TE}(q:rG K t tt)(ρ:Ev)(σ:St)(G0 H0 G H:Hp)(Q:Bool->Prop)(P:Bool->Hp->Prop)(E:cP K G0 H0 ρ σ G H)(h:dh t ρ Q)(k:∀b H' G',Ext G H G' H'->Q b->P b H'):Cp tt σ H P:=by
 refine q ρ σ G0 H0 G H _ _ E h fun v H' r G' x1 r1 h1=>?_
 split at h1
 ·rename_i kk;have e:v=.bl kk:=by simpa only[dv,Rep] using r1
  exact⟨kk,e,k kk H' G' x1 h1⟩
 ·exact h1.elim
theorem Ig{op ng:CmpOp}{g g':Int->Int->Bool}(ho:gf X (compareOp op) (m9 fun i j=>.bl (g i j)))(kM:gf X (compareOp ng) (m9 fun i j=>.bl (g' i j)))(h1:PD X a ta)(h2:PD X b tb)(h3:PD X c tc)(hm:lastMarks [op,ng] [b,c]=false:=by with_unfolding_all rfl) :
  PD X (.Compare a [op,ng] [b,c] pos) (uB (gO fun i j=>.bl (g i j)) (gO fun i j=>.bl (g' i j)) ta tb tc):=by
 obtain⟨t1,p1,q1⟩:=h1;obtain⟨t2,p2,q2⟩:=h2;obtain⟨t3,p3,q3⟩:=h3;exact⟨_,OQ ho kM p1 p2 p3 hm,Ih q1 q2 q3⟩
theorem OD{op ng:CmpOp}{g g':Int->Int->Bool}(ho:gf X (compareOp op) (m9 fun i j=>.bl (g i j)))(kM:gf X (compareOp ng) (m9 fun i j=>.bl (g' i j)))(h1:PD X a ta)(h2:PD X b tb)(h3:PD X c tc)(hm:lastMarks [op,ng] [b,c]=false:=by with_unfolding_all rfl) :
  PB X (.Compare a [op,ng] [b,c] pos) (dh (uB (gO fun i j=>.bl (g i j)) (gO fun i j=>.bl (g' i j)) ta tb tc)):=by
 obtain⟨t1,p1,q1⟩:=h1;obtain⟨t2,p2,q2⟩:=h2;obtain⟨t3,p3,q3⟩:=h3;exact⟨_,OP ho kM p1 p2 p3 hm,M1 (Ih q1 q2 q3)⟩
def cD:O2:=fun d e Q=>match d,e with
 | .lst ds,.int i=>∃d,du ds i=some d/\Q (.fz d)
 | .tup ds,.int i=>∃d,du ds i=some d/\Q (.fz d)
 | .str z,.int i=>z.length<=sizeLine/\∃c,du z.cps.toList i=some c/\Q (.fz (.str ⟨#[c]⟩))
 | _,_=>False
theorem CY{K:PySem.W.Frag}{G:Hp}{xs:List V}{ds:List D}{i:Int}{d:D}(r:bw K G xs ds)(h:du ds i=some d):∃v,du xs i=some v/\Rep K G v d:=by
 unfold du at h ⊢;rw[r.length];cases e:kY ds.length i with
 | none=>rw[e] at h;cases h
 | some j=>
  rw[e] at h;simp only[Option.bind_some] at h ⊢;exact r.get h
theorem cN(h1:PD X a ta)(h2:PD X b tb)(hs:AG b:=by intro _ _;rfl):PD X (.Subscript a b pos) (bB cD ta tb):=by
 obtain⟨t1,p1,q1⟩:=h1;obtain⟨t2,p2,q2⟩:=h2;refine⟨_,Cn GQ p1 p2 hs,Ao (r:=JR X.K) (fun G H x y d e Q P s rx ry h k=>?_) q1 q2⟩;unfold cD at h;split at h
 ·simp only[Rep] at rx ry;obtain⟨p,xs,rfl,hq,rs⟩:=rx;obtain⟨d,hd,q⟩:=h;obtain⟨v,hv,rv⟩:=CY rs hd;exact .inl ⟨p,xs,_,v,rfl,ry,(s.fw hq).sq,hv,k _ _ _ G (.refl s) (eN rv) q⟩
 ·simp only[Rep] at rx ry;obtain⟨p,xs,rfl,hq,rs⟩:=rx;obtain⟨d,hd,q⟩:=h;obtain⟨v,hv,rv⟩:=CY rs hd;exact .inr (.inl ⟨p,xs,_,v,rfl,ry,s.lz hq,hv,k _ _ _ G (.refl s) (eN rv) q⟩)
 ·simp only[Rep] at rx ry;obtain⟨hz,c,hc,q⟩:=h;exact .inr (.inr ⟨_,_,c,rx,ry,hz,hc,k _ _ _ G (.refl s) (eN (r0 _ _ _)) q⟩)
 ·exact h.elim
def pq(i:Nat)(tb:TD):TD:=fun ρ Q=>match gt ρ i with
 | .ow ds=>tb ρ fun rb=>match rb.val with
  | .int j=>∃d,du ds j=some d/\Q (.fz d)
  | _=>False
 | _=>False
theorem tI(i:Nat){x:Str}{p':Pos}(h2:PD X b tb)(hN:X.N[i]?=some x:=by rfl)(hv:kO X.env.scope x:=by first | exact Or.inl rfl | exact Or.inr (Or.inl rfl) | exact Or.inr (Or.inr rfl))(hs:AG b:=by intro _ _;rfl)(hd:(x==("__debug__":Str))=false:=by decide)
  (fS:(x==("__classdict__":Str))=false:=by decide):PD X (.Subscript (.Name x p') b pos) (pq i tb):=by
 obtain⟨t2,p2,q2⟩:=h2;refine⟨_,Cn GQ (mf hN hv hd fS) p2 hs,fun ρ σ G0 H0 G H Q P E h k=>?_⟩;unfold pq at h;split at h
 ·rename_i ds hg;obtain⟨p,xs,h1,h2,h3,h4,h5⟩:=E.ow i ds hg;refine⟨_,h1,q2 ρ σ G0 H0 G H _ _ E h fun v H' r G' x1 rr hq=>?_⟩;obtain⟨G2,x2,rv,_⟩:=rr.freeze x1;split at hq
  ·rename_i j e2;obtain⟨d,rC,q⟩:=hq;obtain⟨w',hw,rh⟩:=CY (h5.mono x2.g) rC;rw[e2] at rv;simp only[Rep] at rv;exact .inl ⟨p,xs,_,w',rfl,rv,eI.of (x2.h _ _ h2),hw,k _ _ _ G2 x2 (eN rh) q⟩
  ·exact hq.elim
 ·exact h.elim
variable {e:Expr} {es:List Expr} {te:TD} {ts:iT}
def bD:iT:=fun _ Q=>Q []
def bx(te:TD)(ts:iT):iT:=fun ρ Q=>te ρ fun r=>ts ρ fun ds=>Q (r.val::ds)
theorem bE:mE X [] bD:=⟨_,nN,fun ρ σ G0 H0 G H Q P E h k=>k [] H [] G (.refl E.e.s) bw.nil h⟩
theorem bA(h:PD X e te)(hr:mE X es ts)(hs:starEach (e::es) X.env=(false,eval e X.env)::starEach es X.env:=by rfl):mE X (e::es) (bx te ts):=by
 obtain⟨t1,p1,q1⟩:=h;obtain⟨t2,p2,q2⟩:=hr;refine⟨_,lp p1 p2 hs,fun ρ σ G0 H0 G H Q P E h k=>q1 ρ σ G0 H0 G H _ _ E h fun v H' r G' x1 rr hq=>?_⟩;obtain⟨G2,x2,rv,_⟩:=rr.freeze x1;refine q2 ρ σ G0 H0 G2 H' _ _ (E.ext x2) hq fun vs H3 ds G3 x3 rs eQ=>?_
 exact k _ H3 _ G3 (x2.trans x3) (bw.cons (rv.mono x3.g) rs) eQ
def mQ(ts:iT):TD:=fun ρ Q=>ts ρ fun ds=>ds.length<=sizeLine/\Q (.fz (.tup ds))
def cZ(ts:iT):TD:=fun ρ Q=>ts ρ fun ds=>ds.length<=sizeLine/\Q (.ow ds)
theorem qU{x1}(h:mE X es ts):PD X (.Tuple es x1 pos) (mQ ts):=by
 obtain⟨t,p,q⟩:=h;refine⟨_,CF p,fun ρ σ G0 H0 G H Q P E h k=>q ρ σ G0 H0 G H _ _ E h fun vs H' ds G' x rs hq=>⟨by rw[rs.length];exact hq.1,fun p hp=>?_⟩⟩;have x2:Ext G' H' (upd G' p (.tup vs)) (upd H' p (.tup vs)):=.new x.s hp;refine k _ _ (.fz (.tup ds)) _ (x.trans x2) ?_ hq.2;show Rep X.K _ _ (.tup ds);simp only[Rep];exact⟨p,vs,rfl,gP,rs.mono x2.g⟩
theorem di(h:mE X es ts):PD X (.List es pos) (cZ ts):=by
 obtain⟨t,p,q⟩:=h;refine⟨_,CD p,fun ρ σ G0 H0 G H Q P E h k=>q ρ σ G0 H0 G H _ _ E h fun vs H' ds G' x rs hq=>⟨by rw[rs.length];exact hq.1,fun p hp=>?_⟩⟩;exact k _ _ (.ow ds) G' (x.trans (.own x.s hp)) ⟨p,vs,rfl,x.h.free hp,x.s.free hp,gP,rs⟩ hq.2
def oJ(X:Cx)(f:Value)(o:List D->(R->Prop)->Prop):Prop:=∃r,df X f r/\∀(G H:Hp) (vs:List V) (ds:List D) (Q:R->Prop) (P:VK),bL G H->bw X.K G vs ds->o ds Q->
 (∀v H' r' G',Ext G H G' H'->dv X.K G' H' H v r'->Q r'->P v H')->r vs H P
def dF(o:List D->(R->Prop)->Prop)(ts:iT):TD:=fun ρ Q=>ts ρ fun ds=>o ds Q
theorem Gp{o:List D->(R->Prop)->Prop}{r:List V->Hp->VK->Prop}{t:TA}
  (hr:∀(G H:Hp) (vs:List V) (ds:List D) (Q:R->Prop) (P:VK),bL G H->bw X.K G vs ds->o ds Q->(∀v H' r' G',Ext G H G' H'->dv X.K G' H' H v r'->Q r'->P v H')->r vs H P)
  (q:∀(ρ:Ev) (σ:St) (G0 H0 G H:Hp) (Q:List D->Prop) (P:List V->Hp->Prop),cP X.K G0 H0 ρ σ G H->ts ρ Q->(∀vs H' ds G',Ext G H G' H'->bw X.K G' vs ds->Q ds->P vs H')->t σ H P):rG X.K (dF o ts) (Eb r t):=
 fun ρ σ G0 H0 G H Q P E h k=>q ρ σ G0 H0 G H _ _ E h fun vs H' ds G' x rs hq=>hr G' H' vs ds Q P x.s rs hq fun v H2 r' G2 x2 rr q2=>k v H2 r' G2 (x.trans x2) (rr.fI x.h) q2
theorem gD{id:String}{x:Str}{p:Pos}{o:List D->(R->Prop)->Prop}(hc:oJ X (.builtin id) o)(hm:X.mg x=none)(hv:bootBuiltins x=some (.builtin id))(ha:mE X (e::es) ts)(hg:Gl X x:=by rfl)(hn:x≠"__name__":=by decide)(jJ:(x==("__debug__":Str))=false:=by decide)
  (he:starEach (e::es) X.env=(false,eval e X.env)::starEach es X.env:=by rfl) (gH:(backTo pos (starEach es X.env)).any (·.1)=false:=by rfl):PD X (.Call (.Name x p) (e::es) [] pos) (dF o ts):=by
 obtain⟨r,hr,nj⟩:=hc;obtain⟨t,pp,q⟩:=ha;exact⟨_,xS hr hg hm hv pp hn jJ he gH,Gp nj q⟩
theorem mS{T:String}{x:Str}{p:Pos}{o:List D->(R->Prop)->Prop}(hc:oJ X (.type T) o)(hm:X.mg x=none)(hv:bootBuiltins x=some (.type T))(ha:mE X (e::es) ts)(hg:Gl X x:=by rfl)(hn:x≠"__name__":=by decide)(jJ:(x==("__debug__":Str))=false:=by decide)
  (he:starEach (e::es) X.env=(false,eval e X.env)::starEach es X.env:=by rfl) (gH:(backTo pos (starEach es X.env)).any (·.1)=false:=by rfl):PD X (.Call (.Name x p) (e::es) [] pos) (dF o ts):=by
 obtain⟨r,hr,nj⟩:=hc;obtain⟨t,pp,q⟩:=ha;exact⟨_,Jd hr hg hm hv pp hn jJ he gH,Gp nj q⟩
end
end L2
namespace L2
open PySem PySem.Spec PyProof.Rows
theorem oH{σ:St}{i j:Nat}{x:Option V}:(σ.set i x)[j]?=if i=j/\j<σ.length then some x else σ[j]?:=by
 by_cases h:i=j
 ·subst h;by_cases hl:i<σ.length
  ·simp[hl]
  ·simp[hl]
 ·simp[h]
section
variable {K:PySem.W.Frag} {G0 H0 G H G' H':Hp} {ρ:Ev} {σ:St}
theorem cP.put{i:Nat}{v:V}{r:R}(E:cP K G0 H0 ρ σ G H)(x:Ext G H G' H')(rr:dv K G' H' H v r):cP K G0 H0 (ρ.set i r.sl) (σ.set i (some v)) G' H':=by
 have E':=E.ext x;have hl:=E.len;have gs:∀j s,gt (ρ.set i r.sl) j=s->(i=j/\j<ρ.length/\s=r.sl)\/(¬(i=j/\j<ρ.length)/\gt ρ j=s):=fun j s e=>by
  rw[tJ] at e;by_cases h:i=j/\j<ρ.length
  ·rw[if_pos h] at e;exact .inl ⟨h.1,h.2,e.symm⟩
  ·rw[if_neg h] at e;exact .inr ⟨h,e⟩
 refine⟨E'.e,by simp[E.len],fun j d h=>?_,fun j ds h=>?_,fun j k ds es nq h1 h2=>?_,?_⟩
 ·rcases gs j _ h with⟨h1,h2,h3⟩ | ⟨h1,h2⟩
  ·cases r with
   | ow=>cases h3
   | ov=>cases h3
   | fz d'=>
    cases h3;exact⟨v,by rw[oH,if_pos ⟨h1,by omega⟩],rr⟩
  ·obtain⟨u,hu,ru⟩:=E'.fz j d h2;exact⟨u,by rw[oH,if_neg (by rw[hl];exact h1)];exact hu,ru⟩
 ·rcases gs j _ h with⟨h1,h2,h3⟩ | ⟨h1,h2⟩
  ·cases r with
   | fz=>cases h3
   | ov=>cases h3
   | ow wK=>
    cases h3;obtain⟨p,xs,rfl,a1,a2,a3,a4⟩:=rr;exact⟨p,xs,by rw[oH,if_pos ⟨h1,by omega⟩],a3,a2,E.e.h.free a1,a4⟩
  ·obtain⟨p,xs,b1,b2,b3,b4,b5⟩:=E'.ow j ds h2;exact⟨p,xs,by rw[oH,if_neg (by rw[hl];exact h1)];exact b1,b2,b3,b4,b5⟩
 ·have old:∀{j:Nat} {ds:List D},gt ρ j=.ow ds->∀es,r=.ow es->σ[j]?≠some (some v):=fun{j ds} h es e z=>by
   subst e;obtain⟨p,xs,rfl,a1,a2,a3,a4⟩:=rr;obtain⟨p',mZ,b1,b2,b3,b4,b5⟩:=E.ow j ds h;rw[b1] at z;cases z;rw[a1] at b2;cases b2
  rcases gs j _ h1 with⟨c1,c2,c3⟩ | ⟨c1,c2⟩
  ·rcases gs k _ h2 with⟨d1,d2,d3⟩ | ⟨d1,d2⟩
   ·exact absurd (c1.symm.trans d1) nq
   ·rw[oH,if_pos ⟨c1,by omega⟩,oH,if_neg (by rw[hl];exact d1)];cases r with
    | fz=>cases c3
    | ov=>cases c3
    | ow ie=>exact fun z=>old d2 ie rfl z.symm
  ·rcases gs k _ h2 with⟨d1,d2,d3⟩ | ⟨d1,d2⟩
   ·rw[oH,if_neg (by rw[hl];exact c1),oH,if_pos ⟨d1,by omega⟩];cases r with
    | fz=>cases d3
    | ov=>cases d3
    | ow ie=>exact old c2 ie rfl
   ·rw[oH,if_neg (by rw[hl];exact c1),oH,if_neg (by rw[hl];exact d1)];exact E.dj j k ds es nq c2 d2
 ·obtain⟨own,o1,o2⟩:=E.on;have J5:∀j,¬(i=j/\j<ρ.length)->(σ.set i (some v))[j]?=σ[j]?:=fun j h=>by rw[oH,if_neg (by rw[hl];exact h)]
  have gen:∀L:List Addr,(∀q∈L,H q=none)->(∀j ds p,i=j->j<ρ.length->r.sl=.ow ds->v=.ref p->p∈L)->
    (∀j o,i=j->j<ρ.length->r.sl=.ov o->∃p fp,v=.ref p/\(p::fp).Nodup/\jq K G' H' p fp o/\∀q∈p::fp,G' q=none/\q∈L)->
    ∃own:Addr->Option Nat,(∀j ds p,gt (ρ.set i r.sl) j=.ow ds->(σ.set i (some v))[j]?=some (some (.ref p))->own p=some j)/\∀j o,gt (ρ.set i r.sl) j=.ov o->∃p fp,(σ.set i (some v))[j]?=some (some (.ref p))/\(p::fp).Nodup/\jq K G' H' p fp o/\∀q∈p::fp,G' q=none/\H0 q=none/\own q=some j:=by
   intro L hL hw ho;refine⟨fun q=>if q∈L then some i else own q,fun j ds p h hp=>?_,fun j o h=>?_⟩
   ·rcases gs j _ h with⟨h1,h2,h3⟩ | ⟨h1,h2⟩
    ·rw[oH,if_pos ⟨h1,by omega⟩] at hp;have hv:v=.ref p:=by injection hp with hp;injection hp
     dsimp only;rw[if_pos (hw j ds p h1 h2 h3.symm hv),h1]
    ·rw[J5 j h1] at hp;obtain⟨p',mZ,b1,b2,_⟩:=E.ow j ds h2;have jf:p∉L:=fun z=>by
      rw[hp] at b1;cases b1;rw[hL p z] at b2;cases b2
     dsimp only;rw[if_neg jf];exact o1 j ds p h2 hp
   ·rcases gs j _ h with⟨h1,h2,h3⟩ | ⟨h1,h2⟩
    ·obtain⟨p,fp,rfl,c1,c2,c3⟩:=ho j o h1 h2 h3.symm;refine⟨p,fp,by rw[oH,if_pos ⟨h1,by omega⟩],c1,c2,fun q hq=>⟨(c3 q hq).1,E.e.h.free (hL q (c3 q hq).2),?_⟩⟩;dsimp only;rw[if_pos (c3 q hq).2,h1]
    ·obtain⟨p,fp,b1,b2,b3,b4⟩:=o2 j o h2;refine⟨p,fp,by rw[J5 j h1];exact b1,b2,b3.mono x.g fun q _ u e=>x.h q u e,fun q hq=>⟨x.n q (b4 q hq).1 (b3.here q hq),(b4 q hq).2.1,?_⟩⟩;dsimp only;rw[if_neg (fun z=>b3.here q hq (hL q z))];exact(b4 q hq).2.2
  cases r with
  | fz d=>exact gen [] (fun q hq=>by cases hq) (fun j ds p _ _ e=>by cases e) (fun j o _ _ e=>by cases e)
  | ow wK=>
   obtain⟨p,xs,rfl,a1,a2,a3,a4⟩:=rr;refine gen [p] (fun q hq=>?_) (fun j ds p' _ _ e e2=>?_) (fun j o _ _ e=>by cases e)
   ·simp only[aF] at hq;subst hq;exact a1
   ·cases e2;simp
  | ov o'=>
   obtain⟨p,fp,rfl,a1,a2,a3⟩:=rr;refine gen (p::fp) (fun q hq=>(a3 q hq).1) (fun j ds p' _ _ e=>by cases e) (fun j o _ _ e=>?_);cases e;exact⟨p,fp,rfl,a1,a2,fun q hq=>⟨(a3 q hq).2,hq⟩⟩
noncomputable def ja(i:Nat)(ρ:Ev):Ev:=match gt ρ i with
 | .ow ds=>ρ.set i (.fz (.lst ds))
 | .ov o=>ρ.set i (.fz o.val)
 | _=>ρ
theorem vK{ρ:Ev}{i:Nat}{s:Sl}(h:gt ρ i=s)(hs:s≠.un):i<ρ.length:=by
 induction ρ generalizing i with
 | nil=>simp[gt] at h;exact absurd h.symm hs
 | cons a r ih=>
  cases i with
  | zero=>simp
  | succ i=>simp only[gt] at h;have:=ih h;simp;omega
theorem bM.J3{K:PySem.W.Frag}{G H:Hp}:∀{qs:List Addr} {cf:List (List D)},bM K G H qs cf->∀q∈qs,∃zs,H q=some (.lst zs)
 | [],[],_,q,hq=>by cases hq
 | p::qs,ds::cf,h,q,hq=>by
  simp only[bM] at h;rcases af.mp hq with rfl | hq
  ·exact⟨_,h.1.choose_spec.1⟩
  ·exact bM.J3 h.2 q hq
 | [],_::_,h,_,_=>by simp only[bM] at h
 | _::_,[],h,_,_=>by simp only[bM] at h
theorem cP.qH(i:Nat)(E:cP K G0 H0 ρ σ G H):∃L:List Addr,(∀q∈L,G q=none)/\cP K G0 H0 (ja i ρ) σ (oF G H L) H/\(((∀o,gt ρ i=.ov o->(∃cq,o=.dc cq)\/∃cf,o=.ll cf)->∀q∈L,H q≠none/\∀xs,¬Rd H q (.tup xs)))/\∀o p,gt ρ i=.ov o->σ[i]?=some (some (.ref p))->p∈L:=by
 unfold ja;split
 ·rename_i ds hg;obtain⟨p,xs,h1,h2,h3,h4,h5⟩:=E.ow i ds hg;have iQ:i<ρ.length:=vK hg (by simp);have hs:bL G (upd G p (.lst xs)):=tN h3;have gs:∀j s,gt (ρ.set i (.fz (.lst ds))) j=s->(i=j/\s=.fz (.lst ds))\/(i≠j/\gt ρ j=s):=fun j s e=>by
   rw[tJ] at e;by_cases h:i=j
   ·subst h;rw[if_pos ⟨rfl,iQ⟩] at e;exact .inl ⟨rfl,e.symm⟩
   ·rw[if_neg (fun z=>h z.1)] at e;exact .inr ⟨h,e⟩
  have ep:oF G H [p]=upd G p (.lst xs):=by
   funext a
   by_cases ha:a=p
   ·subst ha;rw[gP,qV (by simp)];exact h2
   ·rw[cR ha,qe (by simpa using ha)]
  refine⟨[p],fun q hq=>?_,?_,fun _ q hq=>by
   simp only[aF] at hq;rw[hq]
   exact⟨(by rw[h2];exact nofun),fun mZ e=>by rcases e with e | ⟨_,e⟩<;>(rw[h2] at e;cases e)⟩,fun o p z=>by rw[hg] at z;cases z⟩
  ·simp only[aF] at hq;subst hq;exact h3
  rw[ep];refine⟨⟨E.e.g.trans hs,E.e.h,fun b o e=>?_,fun q q1 q2=>?_⟩,by simp[E.len],fun j d h=>?_,fun j es h=>?_,fun j k es fs nq a1 a2=>?_,?_⟩
  ·by_cases hb:b=p
   ·subst hb;rw[gP] at e;rw[h2];exact e
   ·rw[cR hb] at e;exact E.e.s b o e
  ·rw[cR (fun z=>q2 (by rw[z];exact h4))];exact E.e.n q q1 q2
  ·rcases gs j _ h with⟨e,e2⟩ | ⟨e,e2⟩
   ·subst e;cases e2;exact⟨_,h1,by simp only[Rep];exact⟨p,xs,rfl,j7.of gP,h5.mono hs⟩⟩
   ·obtain⟨u,u1,u2⟩:=E.fz j d e2;exact⟨u,u1,u2.mono hs⟩
  ·rcases gs j _ h with⟨e,e2⟩ | ⟨e,e2⟩
   ·cases e2
   ·obtain⟨p',mZ,b1,b2,b3,b4,b5⟩:=E.ow j es e2;have jf:p'≠p:=fun z=>by
     subst z;exact E.dj i j ds es e hg e2 (by rw[h1,b1])
    exact⟨p',mZ,b1,b2,by rw[cR jf];exact b3,b4,b5.mono hs⟩
  ·rcases gs j _ a1 with⟨_,e2⟩ | ⟨e,e2⟩
   ·cases e2
   ·rcases gs k _ a2 with⟨_,e4⟩ | ⟨e3,e4⟩
    ·cases e4
    ·exact E.dj j k es fs nq e2 e4
  ·obtain⟨own,o1,o2⟩:=E.on;refine⟨own,fun j es p' h hp=>?_,fun j o h=>?_⟩
   ·rcases gs j _ h with⟨_,e2⟩ | ⟨_,e2⟩
    ·cases e2
    ·exact o1 j es p' e2 hp
   ·rcases gs j _ h with⟨_,e2⟩ | ⟨e,e2⟩
    ·cases e2
    ·obtain⟨p',fp,b1,b2,b3,b4⟩:=o2 j o e2;refine⟨p',fp,b1,b2,b3.mono hs fun q _ u e=>e,fun q hq=>⟨?_,(b4 q hq).2⟩⟩;rw[cR fun z=>?_]
     ·exact(b4 q hq).1
     ·have z1:=(b4 q hq).2.2;rw[z,o1 i ds p hg h1] at z1;injection z1 with z1
      exact e z1
 ·rename_i o hg;obtain⟨own,o1,o2⟩:=E.on;obtain⟨p,fp,h1,h2,h3,h4⟩:=o2 i o hg;have iQ:i<ρ.length:=vK hg (by simp);have hn:∀q∈p::fp,G q=none:=fun q hq=>(h4 q hq).1
  have hs:bL G (oF G H (p::fp)):=yg hn;have gs:∀j s,gt (ρ.set i (.fz o.val)) j=s->(i=j/\s=.fz o.val)\/(i≠j/\gt ρ j=s):=fun j s e=>by
   rw[tJ] at e;by_cases h:i=j
   ·subst h;rw[if_pos ⟨rfl,iQ⟩] at e;exact .inl ⟨rfl,e.symm⟩
   ·rw[if_neg (fun z=>h z.1)] at e;exact .inr ⟨h,e⟩
  suffices zm:cP K G0 H0 (ρ.set i (.fz o.val)) σ (oF G H (p::fp)) H from⟨p::fp,hn,zm,fun hd q hq=>by
   rcases hd o hg with⟨cq,rfl⟩ | ⟨cf,rfl⟩
   ·obtain⟨rfl,ks,ep,h5,_⟩:=h3;simp only[aF] at hq;rw[hq];exact⟨(by rw[h5];exact nofun),fun mZ e=>by rcases e with e | ⟨_,e⟩<;>(rw[h5] at e;cases e)⟩
   ·obtain⟨zs,h5⟩:∃zs,H q=some (.lst zs):=by
     rcases af.mp hq with rfl | hq
     ·exact⟨_,h3.1⟩
     ·exact bM.J3 h3.2 q hq
    exact⟨(by rw[h5];exact nofun),fun mZ e=>by rcases e with e | ⟨_,e⟩<;>(rw[h5] at e;cases e)⟩,fun o' p' _ e=>by rw[h1] at e;cases e;simp⟩
  refine⟨⟨E.e.g.trans hs,E.e.h,fun b u e=>?_,fun q q1 q2=>?_⟩,by simp[E.len],fun j d h=>?_,fun j es h=>?_,fun j k es fs nq a1 a2=>?_,own,fun j es p' h hp=>?_,fun j o' h=>?_⟩
  ·by_cases hb:b∈p::fp
   ·rw[qV hb] at e;exact e
   ·rw[qe hb] at e;exact E.e.s b u e
  ·rw[qe (fun z=>q2 (h4 q z).2.1)];exact E.e.n q q1 q2
  ·rcases gs j _ h with⟨e,e2⟩ | ⟨e,e2⟩
   ·subst e;cases e2;exact⟨_,h1,h3.freeze hn⟩
   ·obtain⟨u,u1,u2⟩:=E.fz j d e2;exact⟨u,u1,u2.mono hs⟩
  ·rcases gs j _ h with⟨e,e2⟩ | ⟨e,e2⟩
   ·cases e2
   ·obtain⟨p',mZ,b1,b2,b3,b4,b5⟩:=E.ow j es e2;refine⟨p',mZ,b1,b2,?_,b4,b5.mono hs⟩;rw[qe fun z=>?_]
    ·exact b3
    ·have z1:=(h4 p' z).2.2;rw[o1 j es p' e2 b1] at z1;injection z1 with z1
     exact e z1.symm
  ·rcases gs j _ a1 with⟨_,e2⟩ | ⟨e,e2⟩
   ·cases e2
   ·rcases gs k _ a2 with⟨_,e4⟩ | ⟨e3,e4⟩
    ·cases e4
    ·exact E.dj j k es fs nq e2 e4
  ·rcases gs j _ h with⟨_,e2⟩ | ⟨_,e2⟩
   ·cases e2
   ·exact o1 j es p' e2 hp
  ·rcases gs j _ h with⟨_,e2⟩ | ⟨e,e2⟩
   ·cases e2
   ·obtain⟨p',lF,b1,b2,b3,b4⟩:=o2 j o' e2;refine⟨p',lF,b1,b2,b3.mono hs fun q _ u e=>e,fun q hq=>⟨?_,(b4 q hq).2⟩⟩;rw[qe fun z=>?_]
    ·exact(b4 q hq).1
    ·have z1:=(b4 q hq).2.2;rw[(h4 q z).2.2] at z1;injection z1 with z1
     exact e z1
 ·rename_i Wm Uu;have ep:oF G H []=G:=by funext a;exact qe (by simp)
  exact⟨[],fun q hq=>(by cases hq),by rw[ep];exact E,fun _ q hq=>(by cases hq),fun o p z=>(Uu o z).elim⟩
theorem cP.jR(i:Nat)(E:cP K G0 H0 ρ σ G H):∃L:List Addr,(∀q∈L,G q=none)/\cP K G0 H0 (ja i ρ) σ (oF G H L) H/\((∀o,gt ρ i=.ov o->(∃cq,o=.dc cq)\/∃cf,o=.ll cf)->∀q∈L,H q≠none/\∀xs,¬Rd H q (.tup xs)):=
 let⟨L,a,b,c,_⟩:=E.qH i
 ⟨L,a,b,c⟩
theorem cP.freeze(i:Nat)(E:cP K G0 H0 ρ σ G H):∃G',cP K G0 H0 (ja i ρ) σ G' H/\bL G G':=
 let⟨L,hL,E',_⟩:=E.jR i
 ⟨_,E',yg hL⟩
theorem cP.change{i:Nat}{ds wK:List D}{p:Addr}{mZ:List V}(E:cP K G0 H0 ρ σ G H)(hg:gt ρ i=.ow ds)(h1:σ[i]?=some (some (.ref p)))(hr:bw K G mZ wK) :
  cP K G0 H0 (ρ.set i (.ow wK)) σ G (upd H p (.lst mZ)):=by
 obtain⟨p',Wh,b1,b2,b3,b4,b5⟩:=E.ow i ds hg;rw[h1] at b1;cases b1;have iQ:i<ρ.length:=vK hg (by simp);have gs:∀j s,gt (ρ.set i (.ow wK)) j=s->(i=j/\s=.ow wK)\/(i≠j/\gt ρ j=s):=fun j s e=>by
  rw[tJ] at e;by_cases h:i=j
  ·subst h;rw[if_pos ⟨rfl,iQ⟩] at e;exact .inl ⟨rfl,e.symm⟩
  ·rw[if_neg (fun z=>h z.1)] at e;exact .inr ⟨h,e⟩
 have hG:bL G (upd H p (.lst mZ)):=fun b o e=>by rw[cR (iM e b3)];exact E.e.s b o e
 refine⟨⟨E.e.g,fun b o e=>by rw[cR (iM e b4)];exact E.e.h b o e,hG,E.e.n⟩,by simp[E.len],fun j d h=>?_,fun j es h=>?_,fun j k es fs nq a1 a2=>?_,?_⟩
 ·rcases gs j _ h with⟨_,e2⟩ | ⟨e,e2⟩
  ·cases e2
  ·exact E.fz j d e2
 ·rcases gs j _ h with⟨e,e2⟩ | ⟨e,e2⟩
  ·subst e;cases e2;exact⟨p,mZ,h1,gP,b3,b4,hr⟩
  ·obtain⟨p',TH,c1,c2,c3,c4,c5⟩:=E.ow j es e2;have jf:p'≠p:=fun z=>by
    subst z;exact E.dj i j ds es e hg e2 (by rw[h1,c1])
   exact⟨p',TH,c1,by rw[cR jf];exact c2,c3,c4,c5⟩
 ·rcases gs j _ a1 with⟨e,e2⟩ | ⟨e,e2⟩
  ·subst e;rcases gs k _ a2 with⟨e3,e4⟩ | ⟨e3,e4⟩
   ·exact absurd e3 nq
   ·exact E.dj i k ds fs nq hg e4
  ·rcases gs k _ a2 with⟨e3,e4⟩ | ⟨e3,e4⟩
   ·subst e3;exact E.dj j i es ds nq e2 hg
   ·exact E.dj j k es fs nq e2 e4
 ·obtain⟨own,o1,o2⟩:=E.on;refine⟨own,fun j es p' h hp=>?_,fun j o h=>?_⟩
  ·rcases gs j _ h with⟨e,e2⟩ | ⟨_,e2⟩
   ·subst e;exact o1 i ds p' hg hp
   ·exact o1 j es p' e2 hp
  ·rcases gs j _ h with⟨_,e2⟩ | ⟨e,e2⟩
   ·cases e2
   ·obtain⟨p',fp,c1,c2,c3,c4⟩:=o2 j o e2;refine⟨p',fp,c1,c2,c3.mono (bL.refl _) fun q hq u e3=>?_,c4⟩;rw[cR fun z=>?_]
    ·exact e3
    ·have z1:=(c4 q hq).2.2;rw[z,o1 i ds p hg h1] at z1;injection z1 with z1
     exact e z1
theorem cP.lH{i:Nat}{o o':OV}{p:Addr}(E:cP K G0 H0 ρ σ G H)(hg:gt ρ i=.ov o)(h1:σ[i]?=some (some (.ref p)))
  (hc:∀fp,(p::fp).Nodup->jq K G H p fp o->∃lF,(p::lF).Nodup/\jq K G H' p lF o'/\(∀q∈p::lF,q∈p::fp\/H q=none)/\∀b,b∉p::fp->H b≠none->H' b=H b) :
  cP K G0 H0 (ρ.set i (.ov o')) σ G H':=by
 obtain⟨own,o1,o2⟩:=E.on;obtain⟨p',fp,b1,b2,b3,b4⟩:=o2 i o hg;rw[h1] at b1;cases b1;obtain⟨lF,c1,c2,c3,c4⟩:=hc fp b2 b3;have iQ:i<ρ.length:=vK hg (by simp);have gs:∀j s,gt (ρ.set i (.ov o')) j=s->(i=j/\s=.ov o')\/(i≠j/\gt ρ j=s):=fun j s e=>by
  rw[tJ] at e;by_cases h:i=j
  ·subst h;rw[if_pos ⟨rfl,iQ⟩] at e;exact .inl ⟨rfl,e.symm⟩
  ·rw[if_neg (fun z=>h z.1)] at e;exact .inr ⟨h,e⟩
 have hk:∀(F:Hp),(∀q∈p::fp,F q=none)->bL F H->bL F H':=fun F hF s b u e=>by
  have hb:b∉p::fp:=fun z=>by rw[hF b z] at e;cases e
  rw[c4 b hb (by rw[s b u e];exact nofun)];exact s b u e
 refine⟨⟨E.e.g,hk H0 (fun q hq=>(b4 q hq).2.1) E.e.h,hk G (fun q hq=>(b4 q hq).1) E.e.s,E.e.n⟩,by simp[E.len],fun j d h=>?_,fun j es h=>?_,fun j k es fs nq a1 a2=>?_,fun q=>if q∈p::lF then some i else own q,fun j es p' h hp=>?_,fun j Ut h=>?_⟩
 ·rcases gs j _ h with⟨_,e2⟩ | ⟨e,e2⟩
  ·cases e2
  ·exact E.fz j d e2
 ·rcases gs j _ h with⟨_,e2⟩ | ⟨e,e2⟩
  ·cases e2
  ·obtain⟨p',xs,d1,d2,d3,d4,d5⟩:=E.ow j es e2;refine⟨p',xs,d1,?_,d3,d4,d5⟩;rw[c4 p' (fun z=>?_) (by rw[d2];exact nofun)]
   ·exact d2
   ·have z1:=(b4 p' z).2.2;rw[o1 j es p' e2 d1] at z1;injection z1 with z1
    exact e z1.symm
 ·rcases gs j _ a1 with⟨_,e2⟩ | ⟨e,e2⟩
  ·cases e2
  ·rcases gs k _ a2 with⟨_,e4⟩ | ⟨e3,e4⟩
   ·cases e4
   ·exact E.dj j k es fs nq e2 e4
 ·rcases gs j _ h with⟨_,e2⟩ | ⟨e,e2⟩
  ·cases e2
  ·have w:=o1 j es p' e2 hp;obtain⟨p2,xs,d1,d2,_⟩:=E.ow j es e2;rw[hp] at d1;cases d1;dsimp only;rw[if_neg fun z=>?_]
   ·exact w
   ·rcases c3 p' z with z | z
    ·have z1:=(b4 p' z).2.2;rw[w] at z1;injection z1 with z1
     exact e z1.symm
    ·rw[z] at d2;cases d2
 ·rcases gs j _ h with⟨e,e2⟩ | ⟨e,e2⟩
  ·subst e;cases e2;refine⟨p,lF,h1,c1,c2,fun q hq=>?_⟩;dsimp only;rw[if_pos hq];rcases c3 q hq with z | z
   ·exact⟨(b4 q z).1,(b4 q z).2.1,rfl⟩
   ·exact⟨E.e.s.free z,E.e.h.free z,rfl⟩
  ·obtain⟨p2,KH,d1,d2,d3,d4⟩:=o2 j Ut e2;have vc:∀q∈p2::KH,q∉p::fp:=fun q hq z=>by
    have z1:=(b4 q z).2.2;rw[(d4 q hq).2.2] at z1;injection z1 with z1
    exact e z1.symm
   refine⟨p2,KH,d1,d2,d3.mono (bL.refl _) fun q hq u e3=>?_,fun q hq=>⟨(d4 q hq).1,(d4 q hq).2.1,?_⟩⟩
   ·rw[c4 q (vc q hq) (by rw[e3];exact nofun)];exact e3
   ·dsimp only;rw[if_neg fun z=>?_]
    ·exact(d4 q hq).2.2
    ·rcases c3 q z with z | z
     ·exact vc q hq z
     ·exact d3.here q hq z
theorem cP.weak{ρ':Ev}(E:cP K G0 H0 ρ σ G H)(hl:ρ'.length=ρ.length)(w:∀i,gt ρ' i=.un\/gt ρ' i=gt ρ i):cP K G0 H0 ρ' σ G H:=by
 have g:∀i s,gt ρ' i=s->s≠.un->gt ρ i=s:=fun i s e n=>by
  rcases w i with h | h
  ·exact absurd (e.symm.trans h) n
  ·rw[<-h];exact e
 exact⟨E.e,by rw[hl];exact E.len,fun i d h=>E.fz i d (g i _ h (by simp)),fun i d h=>E.ow i d (g i _ h (by simp)),fun i j ds es qC h1 h2=>E.dj i j ds es qC (g i _ h1 (by simp)) (g j _ h2 (by simp)),let⟨own,o1,o2⟩:=E.on;⟨own,fun i ds p h=>o1 i ds p (g i _ h (by simp)),fun i o h=>o2 i o (g i _ h (by simp))⟩⟩
end
section
variable {X:Cx} {pos:Pos} {e:Expr} {te:TD}
def bQ(t u:TX):TX:=fun D ρ=>t { D with nx:=u D } ρ
def hZ:TX:=fun D ρ=>D.nx ρ
theorem iH:ou X [] hZ:=⟨_,Hu,fun ρ σ G0 H0 G H D E k h g=>g.nx ρ σ G H (bL.refl _) k h⟩
theorem bU{st:Stmt}{ly:List Stmt}{t u:TX}(h1:PX X st t)(h2:ou X ly u):ou X (st::ly) (bQ t u):=by
 obtain⟨t1,p1,q1⟩:=h1;obtain⟨t2,p2,q2⟩:=h2;refine⟨_,Di p1 p2,fun ρ σ G0 H0 G H D E k h g=>q1 ρ σ G0 H0 G H _ _ k h ⟨fun ρ' cj G' H' s' k' h'=>q2 ρ' cj G0 H0 G' H' D E k' h' (g.shift s'),g.rt,g.bk,g.ct⟩⟩
theorem dm{st:Stmt}{t:TX}(h1:PX X st t):ou X [st] t:=by
 obtain⟨t1,p1,q1⟩:=h1;exact⟨_,C5 p1,q1⟩
theorem lj(i:Nat){ly:List Stmt}{t:TX}(h:ou X ly t):ou X ly (fun D ρ=>t D (ja i ρ)):=by
 obtain⟨t1,p1,q1⟩:=h;refine⟨_,p1,fun ρ σ G0 H0 G H D E k h g=>?_⟩;obtain⟨G',k',s'⟩:=k.freeze i;exact q1 _ σ G0 H0 G' H D E k' h (g.shift s')
def eX(te:TD):TX:=fun D ρ=>te ρ D.rt
theorem gM(h:PD X e te):PX X (.Return (some e) pos) (eX te):=by
 obtain⟨t,p,q⟩:=h;exact⟨_,xA p,fun ρ σ G0 H0 G H D E k h g=>q ρ σ G0 H0 G H _ _ k h fun v H' r G' x rr hq=>g.rt v H' r G' (k.e.trans x) (rr.fI k.e.h) hq⟩
def vJ(i:Nat):TX:=fun D ρ=>match gt ρ i with
 | .ow ds=>D.rt (.ow ds)
 | _=>False
theorem CW(i:Nat){x:Str}{p':Pos}(hN:X.N[i]?=some x:=by rfl)(hv:kO X.env.scope x:=by first | exact Or.inl rfl | exact Or.inr (Or.inl rfl) | exact Or.inr (Or.inr rfl))(hd:(x==("__debug__":Str))=false:=by decide)
  (fS:(x==("__classdict__":Str))=false:=by decide):PX X (.Return (some (.Name x p')) pos) (vJ i):=by
 refine⟨_,xA (mf hN hv hd fS),fun ρ σ G0 H0 G H D E k h g=>?_⟩;unfold vJ at h;split at h
 ·rename_i ds hg;obtain⟨p,xs,h1,h2,h3,h4,h5⟩:=k.ow i ds hg;exact⟨_,h1,g.rt _ H (.ow ds) G k.e ⟨p,xs,rfl,h4,h3,h2,h5⟩ h⟩
 ·exact h.elim
def kB(te:TD):TX:=fun D ρ=>te ρ fun _=>D.nx ρ
def gR(c:iR)(t u:TX):TX:=fun D ρ=>c ρ fun b=>if b=true then t D ρ else u D ρ
theorem iu{c:Expr}{a b:List Stmt}{tc:iR}{t u:TX}(hc:PB X c tc)(ha:ou X a t)(hb:ou X b u):PX X (.If c a b pos) (gR tc t u):=by
 obtain⟨t0,p0,q0⟩:=hc;obtain⟨t1,p1,q1⟩:=ha;obtain⟨t2,p2,q2⟩:=hb;refine⟨_,Gj p0 p1 p2,fun ρ σ G0 H0 G H D E k h g=>q0 ρ σ G0 H0 G H _ _ k h fun b H' G' x hq=>?_⟩;cases b with
 | true=>rw[if_pos rfl] at hq ⊢;exact q1 ρ σ G0 H0 G' H' D E (k.ext x) hq (g.shift x.g)
 | false=>rw[if_neg aG] at hq ⊢;exact q2 ρ σ G0 H0 G' H' D E (k.ext x) hq (g.shift x.g)
def je(i:Nat)(te:TD):TX:=fun D ρ=>te ρ fun r=>D.nx (ρ.set i r.sl)
theorem kE(i:Nat){x:Str}{pos':Pos}(he:PD X e te)(hN:X.N.Nodup:=by assumption)(hi:X.N[i]?=some x:=by rfl)(hx:Loc X.env.scope x:=by first | exact Or.inl rfl | exact Or.inr rfl)(hs:swapsWith e (some (.Name x pos')) pos.line X.env=pure false:=by rfl)(hf:X.fn x=true\/X.env.scope.names.lookup x=some .local:=by first | exact .inl rfl | exact .inr rfl | assumption) :
  PX X (.Assign [.Name x pos'] e pos) (je i te):=by
 obtain⟨t,p,q⟩:=he;exact⟨_,Aq hN hi hx p hs hf,fun ρ σ G0 H0 G H D E k h g=>q ρ σ G0 H0 G H _ _ k h fun v H' r G' x rr hq=>g.nx _ _ G' H' x.g (k.put x rr) hq⟩
def dX(i:Nat)(te:TD):TX:=fun D ρ=>te ρ fun r=>D.nx (ρ.set i (.fz r.val))
theorem eF(i:Nat){x:Str}{pos':Pos}(he:PD X e te)(hN:X.N.Nodup:=by assumption)(hi:X.N[i]?=some x:=by rfl)(hx:Loc X.env.scope x:=by first | exact Or.inl rfl | exact Or.inr rfl)(hs:swapsWith e (some (.Name x pos')) pos.line X.env=pure false:=by rfl)(hf:X.fn x=true\/X.env.scope.names.lookup x=some .local:=by first | exact .inl rfl | exact .inr rfl | assumption) :
  PX X (.Assign [.Name x pos'] e pos) (dX i te):=by
 obtain⟨t,p,q⟩:=he;refine⟨_,Aq hN hi hx p hs hf,fun ρ σ G0 H0 G H D E k h g=>q ρ σ G0 H0 G H _ _ k h fun v H' r G' x rr hq=>?_⟩;obtain⟨G2,x2,rv,_⟩:=rr.freeze x;exact g.nx _ _ G2 H' x2.g (k.put x2 (r:=.fz r.val) rv) hq
def mW(i:Nat)(te:TD):TX:=fun D ρ=>match gt ρ i with
 | .ow ds=>te ρ fun r=>ds.length<sizeLine/\D.nx (ρ.set i (.ow (ds++[r.val])))
 | _=>False
theorem pz(i:Nat){x:Str}{p1 p2 pos':Pos}(he:PD X e te)(hN:X.N[i]?=some x:=by rfl)(hv:kO X.env.scope x:=by first | exact Or.inl rfl | exact Or.inr (Or.inl rfl) | exact Or.inr (Or.inr rfl))(hd:(x==("__debug__":Str))=false:=by decide)
  (fS:(x==("__classdict__":Str))=false:=by decide) (fA:starEach [e] X.env=(false,eval e X.env)::starEach [] X.env:=by rfl)
  (hb:∀{ta:TE} {t:TA},PE X (.Name x p1) ta->PA X [e] t->PE X (.Call (.Attribute (.Name x p1) "append" p2) [e] [] pos') (yL X.K "list" AF ta t):=by intro ta t h1 h2;exact xj PySem.F.plainAttrs_list PySem.F.slot_list_append PySem.F.type_list_append A7 h1 h2) :
  PX X (.Expr (.Call (.Attribute (.Name x p1) "append" p2) [e] [] pos') pos) (mW i te):=by
 obtain⟨t,p,q⟩:=he;refine⟨_,vT (hb (mf hN hv hd fS) (lp p nN fA)),fun ρ σ G0 H0 G H D E k h g=>?_⟩;unfold mW at h;split at h
 ·rename_i ds hg;obtain⟨a,xs,h1,h2,h3,h4,h5⟩:=k.ow i ds hg;refine⟨_,h1,.inl ⟨rfl,xs,eI.of h2⟩,?_⟩;refine q ρ σ G0 H0 G H _ _ k h fun v H' r G' x1 rr hq=>?_
  obtain⟨G2,x2,rv,_⟩:=rr.freeze x1;have k2:=k.ext x2;refine⟨a,xs,v,rfl,rfl,x2.h _ _ h2,by rw[h5.length];exact hq.1,?_⟩;exact g.nx _ _ G2 _ x2.g (k2.change hg h1 ((h5.mono x2.g).append (bw.cons rv bw.nil))) hq.2
 ·exact h.elim
end
end L2
namespace L2
open PySem PySem.Spec PyProof.Rows
section
variable {X:Cx} {pos:Pos} {tg:Expr}
noncomputable abbrev jc:=D->Ev->(Ev->Prop)->Prop
noncomputable abbrev oC:=List D->Ev->(Ev->Prop)->Prop
def qL(X:Cx)(tg:Expr)(g:jc):Prop:=∃gg,PG X tg gg/\∀(ρ:Ev) (σ:St) (G0 H0 G H:Hp) (d:D) (v:V) (Q:Ev->Prop) (P:St->Hp->Prop),cP X.K G0 H0 ρ σ G H->Rep X.K G v d->g d ρ Q->
 (∀ρ' cj G' H',cP X.K G0 H0 ρ' cj G' H'->Ext G H G' H'->Q ρ'->P cj H')->gg v σ H P
def w8(X:Cx)(T5:List Expr)(g:oC):Prop:=∃gg,wO X T5 gg/\∀(ρ:Ev) (σ:St) (G0 H0 G H:Hp) (ds:List D) (vs:List V) (Q:Ev->Prop) (P:St->Hp->Prop),cP X.K G0 H0 ρ σ G H->bw X.K G vs ds->g ds ρ Q->
 (∀ρ' cj G' H',cP X.K G0 H0 ρ' cj G' H'->Ext G H G' H'->Q ρ'->P cj H')->gg vs σ H P
def cM(i:Nat):jc:=fun d ρ Q=>Q (ρ.set i (.fz d))
theorem dw(i:Nat){x:Str}(hN:X.N.Nodup:=by assumption)(hi:X.N[i]?=some x:=by rfl)(hx:Loc X.env.scope x:=by first | exact Or.inl rfl | exact Or.inr rfl)(hf:X.fn x=true\/X.env.scope.names.lookup x=some .local:=by first | exact .inl rfl | exact .inr rfl | assumption):qL X (.Name x pos) (cM i):=
 ⟨_,Oh hN hi hx hf,fun ρ σ G0 H0 G H d v Q P E r h k=>k _ _ G H (E.put (.refl E.e.s) (r:=.fz d) r) (.refl E.e.s) h⟩
noncomputable def kj:oC:=fun ds ρ Q=>match ds with
 | []=>Q ρ
 | _=>False
noncomputable def gi(t:jc)(u:oC):oC:=fun ds ρ Q=>match ds with
 | d::r=>t d ρ fun ρ'=>u r ρ' Q
 | []=>False
theorem pC:w8 X [] kj:=by
 refine⟨_,Ht,fun ρ σ G0 H0 G H ds vs Q P E r h k=>?_⟩;unfold kj at h;split at h
 ·cases vs with
  | nil=>exact⟨rfl,k _ _ G H E (.refl E.e.s) h⟩
  | cons=>simp only[bw] at r
 ·exact h.elim
theorem jj{e:Expr}{es:List Expr}{t:jc}{u:oC}(h1:qL X e t)(h2:w8 X es u)(hs:(assignEach (e::es) X.env).map (·.2)=assign e X.env::(assignEach es X.env).map (·.2):=by rfl):w8 X (e::es) (gi t u):=by
 obtain⟨t1,p1,q1⟩:=h1;obtain⟨t2,p2,q2⟩:=h2;refine⟨_,Dh p1 p2 hs,fun ρ σ G0 H0 G H ds vs Q P E r h k=>?_⟩;unfold gi at h;split at h
 ·cases vs with
  | nil=>simp only[bw] at r
  | cons v vs=>
   simp only[bw] at r;refine⟨v,vs,rfl,q1 ρ σ G0 H0 G H _ v _ _ E r.1 h fun ρ' cj G' H' E' x hq=>?_⟩;exact q2 ρ' cj G0 H0 G' H' _ vs Q P E' (r.2.mono x.g) hq fun ft nJ G2 H2 E2 x2 iP=>k ft nJ G2 H2 E2 (x.trans x2) iP
 ·exact h.elim
def lS(n:Nat)(t:oC):jc:=fun d ρ Q=>match d with
 | .tup ds=>ds.length=n/\t ds ρ Q
 | _=>False
theorem pY{es:List Expr}{k:Nat}{t:oC}{n:Nat}(hc:X.calm=true)(h:w8 X es t)(hn:(assignEach es X.env).length=n:=by rfl)(fA:(assignEach es X.env).findIdx? (·.1)=none:=by rfl):qL X (.Tuple es k pos) (lS n t):=by
 obtain⟨t1,p1,q1⟩:=h;refine⟨_,GS hc p1 hn fA,fun ρ σ G0 H0 G H d v Q P E r h k=>?_⟩;unfold lS at h;split at h
 ·simp only[Rep] at r;obtain⟨a,xs,rfl,hq,rs⟩:=r;exact⟨a,xs,rfl,E.e.s.lz hq,by rw[rs.length];exact h.1,q1 ρ σ G0 H0 G H _ xs Q P E rs h.2 k⟩
 ·exact h.elim
def wZ(te:TD)(g:jc):TX:=fun D ρ=>te ρ fun r=>g r.val ρ D.nx
theorem CJ{e:Expr}{te:TD}{g:jc}(he:PD X e te)(hg:qL X tg g)(hs:swapsWithSole [tg] e pos.line X.env=pure false:=by rfl)(hw:swappedStores [tg] e X.env=pure none:=by rfl)(h1:(assignEach [tg] X.env).map (·.2)=[assign tg X.env]:=by rfl):PX X (.Assign [tg] e pos) (wZ te g):=by
 obtain⟨t,p,q⟩:=he;obtain⟨t2,p2,q2⟩:=hg;refine⟨_,Ah p p2 hs hw h1,fun ρ σ G0 H0 G H D E k h g=>q ρ σ G0 H0 G H _ _ k h fun v H' r G' x rr hq=>?_⟩;obtain⟨G2,x2,rv,_⟩:=rr.freeze x;exact q2 ρ σ G0 H0 G2 H' _ v _ _ (k.ext x2) rv hq fun ρ' cj G' H' E' x' rq=>g.nx ρ' cj G' H' (x2.g.trans x'.g) E' rq
def rL(K:PySem.W.Frag)(J:It)(G:Hp)(ds:List D):Prop:=
 (∀i d G' H',ds[i]?=some d->bL G G'->bL G' H'->J.go i H'/\∀v H2,J.Bm i H' v H2->∃G2,Ext G' H' G2 H2/\Rep K G2 v d)/\∀G' H',bL G G'->bL G' H'->J.stop ds.length H'
noncomputable abbrev kP:=Ev->(List D->Prop)->Prop
def PId(X:Cx)(tg iter:Expr)(wi:kP):Prop:=∃ww,PI X tg iter ww/\∀(ρ:Ev) (σ:St) (G0 H0 G H:Hp) (Q:List D->Prop) (P:It->Hp->Prop),cP X.K G0 H0 ρ σ G H->wi ρ Q->
 (∀J H' ds G',Ext G H G' H'->rL X.K J G' ds->Q ds->P J H')->ww σ H P
def Al(d:D)(Q:List D->Prop):Prop:=match d with
 | .lst ds=>Q ds
 | .tup ds=>Q ds
 | .str z=>Q (z.cps.toList.map fun c=>.str ⟨#[c]⟩)
 | _=>False
def gh(te:TD):kP:=fun ρ Q=>te ρ fun r=>Al r.val Q
theorem Qu{K:PySem.W.Frag}{G:Hp}{a:Addr}{xs:List V}{ds:List D}(h:j7 K G a xs)(r:bw K G xs ds):rL K (FN K a) G ds:=by
 refine⟨fun i d G' H' hd s1 s2=>?_,fun G' H' s1 s2=>⟨xs,(s2.fw (s1.fw h)).sq,by rw[r.length];exact az _⟩⟩;obtain⟨v,hv,rv⟩:=r.get hd;have hs:eI K H' a xs:=(s2.fw (s1.fw h)).sq;refine⟨⟨xs,v,hs,hv⟩,fun u H2 hy=>?_⟩;obtain⟨e,y⟩:=hy;subst e;have:=y xs hs;rw[hv] at this;cases this;exact⟨G',.refl s2,rv.mono s1⟩
theorem OC{K:PySem.W.Frag}{G:Hp}{a:Addr}{xs:List V}{ds:List D}(h:fW K G a xs)(r:bw K G xs ds):rL K (FL K a) G ds:=by
 refine⟨fun i d G' H' hd s1 s2=>?_,fun G' H' s1 s2=>⟨xs,s2.qp (s1.qp h),by rw[r.length];exact az _⟩⟩;obtain⟨v,hv,rv⟩:=r.get hd;have hs:fW K H' a xs:=s2.qp (s1.qp h);refine⟨⟨xs,v,hs,hv⟩,fun u H2 hy=>?_⟩;obtain⟨e,y⟩:=hy;subst e;have:=y xs hs;rw[hv] at this;cases this;exact⟨G',.refl s2,rv.mono s1⟩
theorem OB{K:PySem.W.Frag}{G:Hp}(z:Str):rL K (BX z) G (z.cps.toList.map fun c=>.str ⟨#[c]⟩):=by
 refine⟨fun i d G' H' hd s1 s2=>?_,fun G' H' s1 s2=>?_⟩
 ·rw[aT] at hd;cases e:z.cps.toList[i]? with
  | none=>rw[e] at hd;cases hd
  | some c=>
   rw[e] at hd;cases hd;have hc:z.cps[i]?=some c:=by simpa using e
   refine⟨(Array.getElem?_eq_some_iff.mp hc).1,fun v H2 hy=>?_⟩;obtain⟨e2,c',o6,rfl⟩:=hy;subst e2;rw[hc] at o6;cases o6;exact⟨G',.refl s2,r0 _ _ _⟩
 ·show _=_;simp
theorem Q2{K:PySem.W.Frag}{G:Hp}(lo:Int)(n:Nat):rL K (BY lo n) G ((List.range n).map fun(i:Nat)=>.int (lo+i)):=by
 refine⟨fun i d G' H' hd s1 s2=>?_,fun G' H' s1 s2=>?_⟩
 ·rw[aT] at hd;cases e:(List.range n)[i]? with
  | none=>rw[e] at hd;cases hd
  | some c=>
   rw[e] at hd;cases hd;obtain⟨h1,h2⟩:=ao.mp e;have h3:i<n:=by simpa using h1
   have h4:c=i:=by rw[<-h2];simp
   subst h4;refine⟨h3,fun v H2 hy=>?_⟩;obtain⟨e2,rfl⟩:=hy;subst e2;exact⟨G',.refl s2,ji _ _ _⟩
 ·show n<=_;simp
noncomputable def pv(ds:List D):List D:=ds.mapIdx fun i d=>.tup [.int (i:Nat),d]
theorem Ie{K:PySem.W.Frag}{G:Hp}{t:Addr}{x y:V}{d e:D}(s1:G t=some (.tup [x,y]))(r1:Rep K G x d)(r2:Rep K G y e):Rep K G (.ref t) (.tup [d,e]):=by
 simp only[Rep];exact⟨t,[x,y],rfl,s1,bw.cons r1 (bw.cons r2 bw.nil)⟩
theorem Qt{K:PySem.W.Frag}{G:Hp}{a:Addr}{xs:List V}{ds:List D}(h:j7 K G a xs)(r:bw K G xs ds):rL K (FO K a) G (pv ds):=by
 refine⟨fun i d G' H' hd s1 s2=>?_,fun G' H' s1 s2=>⟨xs,(s2.fw (s1.fw h)).sq,by rw[r.length];simp[pv]⟩⟩;unfold pv at hd;rw[List.getElem?_mapIdx] at hd;cases e:ds[i]? with
 | none=>rw[e] at hd;cases hd
 | some d'=>
  rw[e] at hd;cases hd;obtain⟨v,hv,rv⟩:=r.get e;have hs:eI K H' a xs:=(s2.fw (s1.fw h)).sq;refine⟨⟨xs,v,hs,hv⟩,fun u H2 hy=>?_⟩;obtain⟨t,rfl,ht,y⟩:=hy;obtain⟨x,hx,rfl⟩:=y xs hs;rw[hv] at hx;cases hx;have x2:Ext G' H' (upd G' t (.tup [.int i,v])) (upd H' t (.tup [.int i,v])):=.new s2 ht;exact⟨_,x2,Ie gP (ji _ _ _) ((rv.mono s1).mono x2.g)⟩
noncomputable def vC(ds es:List D):List D:=List.zipWith (fun d e=>.tup [d,e]) ds es
theorem OA{K:PySem.W.Frag}{G:Hp}{a b:Addr}{xs ys:List V}{ds es:List D}(h:j7 K G a xs)(r:bw K G xs ds)(h':j7 K G b ys)(r':bw K G ys es):rL K (FK K a b) G (vC ds es):=by
 refine⟨fun i d G' H' hd s1 s2=>?_,fun G' H' s1 s2=>⟨xs,ys,(s2.fw (s1.fw h)).sq,(s2.fw (s1.fw h')).sq,?_⟩⟩
 ·unfold vC at hd;rw[List.getElem?_zipWith] at hd;cases e:ds[i]? with
  | none=>rw[e] at hd;cases hd
  | some d'=>
   cases e2:es[i]? with
   | none=>rw[e,e2] at hd;cases hd
   | some d2=>
    rw[e,e2] at hd;cases hd;obtain⟨v,hv,rv⟩:=r.get e;obtain⟨v',u5,kJ⟩:=r'.get e2;have hs:eI K H' a xs:=(s2.fw (s1.fw h)).sq;have t6:eI K H' b ys:=(s2.fw (s1.fw h')).sq;refine⟨⟨xs,ys,v,v',hs,t6,hv,u5⟩,fun u H2 hy=>?_⟩;obtain⟨t,rfl,ht,y⟩:=hy;obtain⟨x,x',hx,pH,rfl⟩:=y xs ys hs t6;rw[hv] at hx;rw[u5] at pH;cases hx;cases pH;have x2:Ext G' H' (upd G' t (.tup [v,v'])) (upd H' t (.tup [v,v'])):=.new s2 ht;exact⟨_,x2,Ie gP ((rv.mono s1).mono x2.g) ((kJ.mono s1).mono x2.g)⟩
 ·rw[r.length,r'.length];unfold vC;rw[List.length_zipWith];omega
theorem iG{l:Expr}{te:TD}(h:PD X l te):PId X tg l (gh te):=by
 obtain⟨t,p,q⟩:=h;refine⟨_,Ms p,fun ρ σ G0 H0 G H Q P E h k=>q ρ σ G0 H0 G H _ _ E h fun v H' r G' x rr hq=>?_⟩;obtain⟨G2,x2,rv,_⟩:=rr.freeze x;unfold Al at hq;split at hq
 ·rename_i ds e;rw[e] at rv;simp only[Rep] at rv;obtain⟨a,xs,rfl,h1,h2⟩:=rv;exact .inl ⟨a,rfl,⟨xs,(x2.s.fw h1).sq⟩,k _ H' _ G2 x2 (Qu h1 h2) hq⟩
 ·rename_i ds e;rw[e] at rv;simp only[Rep] at rv;obtain⟨a,xs,rfl,h1,h2⟩:=rv;exact .inr (.inl ⟨a,rfl,⟨xs,x2.s.lz h1⟩,k _ H' _ G2 x2 (OC (fW.of h1) h2) hq⟩)
 ·rename_i z e;rw[e] at rv;simp only[Rep] at rv;exact .inr (.inr ⟨z,rv,k _ H' _ G2 x2 (OB z) hq⟩)
 ·exact hq.elim
def oG(ts:iT):kP:=fun ρ Q=>ts ρ fun ds=>match ds with
 | [.int j]=>-(2 ^ 62)<=j/\j<2 ^ 62/\Q ((List.range j.toNat).map fun(i:Nat)=>.int (0+i))
 | _=>False
theorem jV{K:PySem.W.Frag}{G:Hp}{vs:List V}{d:D}(h:bw K G vs [d]):∃v,vs=[v]/\Rep K G v d:=by
 match vs,h with
 | [],h=>simp only[bw] at h
 | [v],h=>simp only[bw] at h;exact⟨v,rfl,h.1⟩
 | v::w::r,h=>simp only[bw] at h;exact absurd h.2 (by simp)
theorem xl{K:PySem.W.Frag}{G:Hp}{vs:List V}{d e:D}(h:bw K G vs [d,e]):∃v w,vs=[v,w]/\Rep K G v d/\Rep K G w e:=by
 match vs,h with
 | [],h=>simp only[bw] at h
 | v::r,h=>
  simp only[bw] at h;obtain⟨w,rfl,hw⟩:=jV h.2;exact⟨v,w,rfl,h.1,hw⟩
theorem qd{a:Expr}{ts:iT}{p:Pos}(hm:X.mg "range"=none)(ha:mE X [a] ts)(hg:Gl X "range":=by rfl)(hs:starEach [a] X.env=[(false,eval a X.env)]:=by rfl):PId X tg (.Call (.Name "range" p) [a] [] pos) (oG ts):=by
 obtain⟨t,pp,q⟩:=ha;refine⟨_,Qh hg hm pp hs,fun ρ σ G0 H0 G H Q P E h k=>q ρ σ G0 H0 G H _ _ E h fun vs H' ds G' x rs hq=>?_⟩;split at hq
 ·obtain⟨v,rfl,rv⟩:=jV rs;simp only[Rep] at rv;subst rv;exact⟨_,rfl,hq.1,hq.2.1,k _ H' _ G' x (Q2 0 _) hq.2.2⟩
 ·exact hq.elim
def vI(ts:iT):kP:=fun ρ Q=>ts ρ fun ds=>match ds with
 | [.lst es]=>Q (pv es)
 | _=>False
theorem AN{a:Expr}{ts:iT}{p tp:Pos}{elts:List Expr}{x1:Nat}(hm:X.mg "enumerate"=none)(ha:mE X [a] ts)(hg:Gl X "enumerate":=by rfl)(hs:starEach [a] X.env=[(false,eval a X.env)]:=by rfl):PId X (.Tuple elts x1 tp) (.Call (.Name "enumerate" p) [a] [] pos) (vI ts):=by
 obtain⟨t,pp,q⟩:=ha;refine⟨_,Ow hg hm pp hs,fun ρ σ G0 H0 G H Q P E h k=>q ρ σ G0 H0 G H _ _ E h fun vs H' ds G' x rs hq=>?_⟩;split at hq
 ·obtain⟨v,rfl,rv⟩:=jV rs;simp only[Rep] at rv;obtain⟨a,xs,rfl,h1,h2⟩:=rv;exact⟨a,xs,rfl,x.s.fw h1,k _ H' _ G' x (Qt h1 h2) hq⟩
 ·exact hq.elim
def Ca(ts:iT):kP:=fun ρ Q=>ts ρ fun ds=>match ds with
 | [.lst es,.lst fs]=>Q (vC es fs)
 | _=>False
theorem Ou{a b:Expr}{ts:iT}{p tp:Pos}{elts:List Expr}{x1:Nat}(hm:X.mg "zip"=none)(ha:mE X [a,b] ts)(hg:Gl X "zip":=by rfl)(hs:starEach [a,b] X.env=[(false,eval a X.env),(false,eval b X.env)]:=by rfl)(pJ:starEach [b] X.env=[(false,eval b X.env)]:=by rfl) :
  PId X (.Tuple elts x1 tp) (.Call (.Name "zip" p) [a,b] [] pos) (Ca ts):=by
 obtain⟨t,pp,q⟩:=ha;refine⟨_,Mr hg hm pp hs pJ,fun ρ σ G0 H0 G H Q P E h k=>q ρ σ G0 H0 G H _ _ E h fun vs H' ds G' x rs hq=>?_⟩;split at hq
 ·obtain⟨v,w',rfl,rv,rh⟩:=xl rs;simp only[Rep] at rv rh;obtain⟨a,xs,rfl,h1,h2⟩:=rv;obtain⟨b,ys,rfl,h3,h4⟩:=rh;exact⟨a,b,rfl,⟨xs,(x.s.fw h1).sq⟩,⟨ys,(x.s.fw h3).sq⟩,k _ H' _ G' x (OA h1 h2 h3 h4) hq⟩
 ·exact hq.elim
def lZ(wi:kP)(g:jc)(tb:TX):TX:=fun D ρ=>wi ρ fun ds=>∃Iv:Nat->Ev->Prop,Iv 0 ρ/\
 (∀i d ρ',ds[i]?=some d->Iv i ρ'->g d ρ' fun ft=>tb { D with nx:=Iv (i+1),ct:=Iv (i+1),bk:=D.nx } ft)/\∀ρ',Iv ds.length ρ'->D.nx ρ'
theorem pZ{iter:Expr}{body:List Stmt}{wi:kP}{g:jc}{tb:TX}(hp:PassesOwn (model X.prog X.w) X.A X.env X.xe)(hc:X.calm=true)(hi:PId X tg iter wi)(hg:qL X tg g)(hb:ou X body tb)
  (hs:∀x,foldedSetIterable iter X.env x=pure x:=by intro _;rfl):PX X (.For tg iter body [] pos) (lZ wi g tb):=by
 obtain⟨t1,p1,q1⟩:=hi;obtain⟨t2,p2,q2⟩:=hg;obtain⟨t3,p3,q3⟩:=hb;refine⟨_,MI hp hc p1 p2 p3 hs,fun ρ σ G0 H0 G H D E k h gg=>q1 ρ σ G0 H0 G H _ _ k h fun J H1 ds G1 x1 wk hq=>?_⟩;obtain⟨Iv,i0,turn,fin⟩:=hq;refine⟨fun i m cj H'=>m=ds.length-i/\i<=ds.length/\∃ρ' G',cP X.K G0 H0 ρ' cj G' H'/\bL G1 G'/\Iv i ρ',⟨ds.length,by simp,Nat.zero_le _,ρ,G1,k.ext x1,bL.refl _,i0⟩,?_⟩;rintro i m cj H' ⟨rfl,hi,ρ',G',k',s',iv⟩;by_cases iQ:i<ds.length
 ·obtain⟨w1,w2⟩:=wk;obtain⟨go,yl⟩:=w1 i ds[i] G' H' (ag iQ) s' k'.e.s;refine .inr ⟨go,fun nJ H2=>∃ft G2,cP X.K G0 H0 ft nJ G2 H2/\bL G1 G2/\Iv (i+1) ft,fun nJ H2 ⟨ft,G2,k2,s2,UC⟩=>⟨ds.length-(i+1),by omega,rfl,iQ,ft,G2,k2,s2,UC⟩,fun v H2 hy=>?_⟩;obtain⟨G2,x2,rv⟩:=yl v H2 hy;refine q2 ρ' cj G0 H0 G2 H2 ds[i] v _ _ (k'.ext x2) rv (turn i ds[i] ρ' (ag iQ) iv) fun wU qN G3 H3 k3 x3 eQ=>?_
  have s3:bL G1 G3:=(s'.trans x2.g).trans x3.g;refine q3 wU qN G0 H0 G3 H3 _ _ k3 eQ ⟨fun wR td G4 H4 s4 k4 h4=>⟨wR,G4,k4,s3.trans s4,h4⟩,gg.rt,fun wR td G4 H4 s4 k4 h4=>gg.nx wR td G4 H4 ((x1.g.trans s3).trans s4) k4 h4,fun wR td G4 H4 s4 k4 h4=>⟨wR,G4,k4,s3.trans s4,h4⟩⟩
 ·have e:i=ds.length:=by omega
  subst e;exact .inl ⟨wk.2 G' H' s' k'.e.s,gg.nx ρ' cj G' H' (x1.g.trans s') k' (fin ρ' iv)⟩
end
end L2
namespace L2
open PySem PySem.Spec PyProof.Rows
noncomputable def rK(ρ:Ev):Option Nat->Sl
 | none=>.un
 | some j=>match gt ρ j with
  | .fz d=>.fz d
  | _=>.un
noncomputable def jD(m:List (Option Nat))(ρ:Ev):Ev:=m.map (rK ρ)
theorem xt{m:List (Option Nat)}{ρ:Ev}{i:Nat}:gt (m.map (rK ρ)) i=match m[i]? with
  | some o=>rK ρ o
  | none=>.un:=by
 induction m generalizing i with
 | nil=>simp[gt]
 | cons a r ih=>
  cases i with
  | zero=>simp[gt]
  | succ i=>simp only[aj,gt,List.getElem?_cons_succ];exact ih
def px(m:List (Option Nat))(g:jc):Prop:=∀d ρ Q,g d ρ Q->g d ρ fun ft=>Q ft/\ft.length=ρ.length/\∀j c,m[j]?=some (some c)->gt ft j=gt ρ j
def AD(m:List (Option Nat))(g:oC):Prop:=∀ds ρ Q,g ds ρ Q->g ds ρ fun ft=>Q ft/\ft.length=ρ.length/\∀j c,m[j]?=some (some c)->gt ft j=gt ρ j
theorem gQ{m:List (Option Nat)}{i:Nat}(h:m[i]?=some none:=by rfl):px m (cM i):=fun d ρ Q q=>by
 refine⟨q,by simp,fun j c hj=>?_⟩;rw[tJ,if_neg];rintro⟨e,_⟩;subst e;rw[h] at hj;cases hj
theorem Ic{m:List (Option Nat)}:AD m kj:=fun ds ρ Q q=>by
 unfold kj at q ⊢;split at q
 ·exact⟨q,rfl,fun _ _ _=>rfl⟩
 ·exact q.elim
theorem yf{m:List (Option Nat)}{t:jc}{u:oC}(mono:∀d ρ (Q Q':Ev->Prop),(∀ρ',Q ρ'->Q' ρ')->t d ρ Q->t d ρ Q')(qw:∀d ρ (Q Q':Ev->Prop),(∀ρ',Q ρ'->Q' ρ')->u d ρ Q->u d ρ Q')(h1:px m t)(h2:AD m u):AD m (gi t u):=fun ds ρ Q q=>by
 unfold gi at q ⊢;split at q
 ·refine mono _ _ _ _ (fun ρ' bR=>?_) (h1 _ _ _ q);obtain⟨q',l',k'⟩:=bR;exact qw _ _ _ _ (fun ft bR=>by obtain⟨q2,l2,k2⟩:=bR;exact⟨q2,l2.trans l',fun j c hj=>(k2 j c hj).trans (k' j c hj)⟩) (h2 _ _ _ q')
 ·exact q.elim
theorem Ib{m:List (Option Nat)}{n:Nat}{u:oC}(h2:AD m u):px m (lS n u):=fun d ρ Q q=>by
 unfold lS at q ⊢;split at q
 ·exact⟨q.1,h2 _ _ _ q.2⟩
 ·exact q.elim
theorem sd{i:Nat}:∀d ρ (Q Q':Ev->Prop),(∀ρ',Q ρ'->Q' ρ')->cM i d ρ Q->cM i d ρ Q':=fun _ _ _ _ h q=>h _ q
theorem xM:∀d ρ (Q Q':Ev->Prop),(∀ρ',Q ρ'->Q' ρ')->kj d ρ Q->kj d ρ Q':=fun _ _ _ _ h q=>by
 unfold kj at q ⊢;split at q
 ·exact h _ q
 ·exact q.elim
theorem A6{t:jc}{u:oC}(mono:∀d ρ (Q Q':Ev->Prop),(∀ρ',Q ρ'->Q' ρ')->t d ρ Q->t d ρ Q')(qw:∀d ρ (Q Q':Ev->Prop),(∀ρ',Q ρ'->Q' ρ')->u d ρ Q->u d ρ Q'):∀d ρ (Q Q':Ev->Prop),(∀ρ',Q ρ'->Q' ρ')->gi t u d ρ Q->gi t u d ρ Q':=fun _ _ _ _ h q=>by
 unfold gi at q ⊢;split at q
 ·exact mono _ _ _ _ (fun ρ' q'=>qw _ _ _ _ h q') q
 ·exact q.elim
theorem A5{m:List (Option Nat)}{i j n:Nat}(h:m[i]?=some none:=by rfl)(h':m[j]?=some none:=by rfl):px m (lS n (gi (cM i) (gi (cM j) kj))):=
 Ib (yf sd (A6 sd xM) (gQ h) (yf sd xM (gQ h') Ic))
theorem Rh{m:List (Option Nat)}{i j k n:Nat}(h:m[i]?=some none:=by rfl)(h':m[j]?=some none:=by rfl)(vm:m[k]?=some none:=by rfl):px m (lS n (gi (cM i) (gi (cM j) (gi (cM k) kj)))):=
 Ib (yf sd (A6 sd (A6 sd xM)) (gQ h) (yf sd (A6 sd xM) (gQ h') (yf sd xM (gQ vm) Ic)))
def vw(X:Cx)(ifs:List Expr)(t:iR):Prop:=∃tt,ui X ifs tt/\∀(ρ:Ev) (σ:St) (G0 H0 G H:Hp) (Q:Bool->Prop) (P:Bool->Hp->Prop),cP X.K G0 H0 ρ σ G H->t ρ Q->
 (∀b H' G',Ext G H G' H'->Q b->P b H')->tt σ H P
def iE:iR:=fun _ Q=>Q true
theorem kq{X:Cx}:vw X [] iE:=⟨_,N2,fun ρ σ G0 H0 G H Q P E h k=>k true H G (.refl E.e.s) h⟩
theorem nO{X:Cx}{c:Expr}{t:iR}(h:PB X c t):vw X [c] t:=let⟨tt,p,q⟩:=h;⟨tt,Oy p,q⟩
def eG(wi:kP)(m:List (Option Nat))(g:jc)(tc:iR)(te:TD):TD:=fun ρ Q=>wi ρ fun ds=>∃Iv:Nat->List D->Prop,Iv 0 []/\
 (∀i d acc,ds[i]?=some d->Iv i acc->g d (jD m ρ) fun ft=>tc ft fun b=>if b=true then te ft fun r=>acc.length<sizeLine/\Iv (i+1) (acc++[r.val]) else Iv (i+1) acc)/\∀acc,Iv ds.length acc->Q (.ow acc)
section
variable {X:Cx} {elt iter tg:Expr} {ifs:List Expr} {scope:Scope} {pos:Pos} {N':List Str} {m:List (Option Nat)} {wi:kP} {g:jc} {tc:iR} {te:TD}
theorem Ia{ρ:Ev}{σ:St}{G0 H0 G H:Hp}{Q:R->Prop}{P:VK}(cs:bZ X N' m scope)(hk:px m g){ww:TI}{gg:pQ TG}{yI:pQ TT}{tee:pQ TE}
  (q1:∀(ρ:Ev) (σ:St) (G0 H0 G H:Hp) (Q:List D->Prop) (P:It->Hp->Prop),cP X.K G0 H0 ρ σ G H->wi ρ Q->(∀J H' ds G',Ext G H G' H'->rL X.K J G' ds->Q ds->P J H')->ww σ H P)
  (q2:∀s3 H3 ex (ρ:Ev) (σ:St) (G0 H0 G H:Hp) (d:D) (v:V) (Q:Ev->Prop) (P:St->Hp->Prop),cP X.K G0 H0 ρ σ G H->Rep X.K G v d->g d ρ Q->(∀ρ' cj G' H',cP X.K G0 H0 ρ' cj G' H'->Ext G H G' H'->Q ρ'->P cj H')->gg s3 H3 ex v σ H P)
  (q3:∀s3 H3 ex (ρ:Ev) (σ:St) (G0 H0 G H:Hp) (Q:Bool->Prop) (P:Bool->Hp->Prop),cP X.K G0 H0 ρ σ G H->tc ρ Q->(∀b H' G',Ext G H G' H'->Q b->P b H')->yI s3 H3 ex σ H P)
  (q4:∀s3 H3 ex (ρ':Ev) (cj:St) (G1 H1 G' H':Hp) (Q':R->Prop) (P':VK),Ext G H G1 H1->cP X.K G1 H1 ρ' cj G' H'->te ρ' Q'->(∀v H2 r G2,Ext G' H' G2 H2->dv X.K G2 H2 H' v r->Q' r->P' v H2)->tee s3 H3 ex cj H' P')
  (E:cP X.K G0 H0 ρ σ G H) (h:eG wi m g tc te ρ Q) (k:∀v H' r G',Ext G H G' H'->dv X.K G' H' H v r->Q r->P v H'):ux ww m gg yI tee σ H P:=by
 refine q1 ρ σ G0 H0 G H _ _ E h fun J H1 ds G1 x1 wk hq=>?_
 obtain⟨Iv,i0,turn,fin⟩:=hq;intro D hD s3 ex;have E1:=E.ext x1;have VA:G1 D=none:=x1.s.free hD;have oV:∀{i:Nat} {es:List L2.D},gt (jD m ρ) i=.ow es->False:=fun{i es} h=>by
  unfold jD at h;rw[xt] at h;split at h
  ·rename_i o _;unfold rK at h;split at h
   ·cases h
   ·split at h<;>cases h
  ·cases h
 have yW:∀{i:Nat} {o:OV},gt (jD m ρ) i=.ov o->False:=fun{i o} h=>by
  unfold jD at h;rw[xt] at h;split at h
  ·rename_i o _;unfold rK at h;split at h
   ·cases h
   ·split at h<;>cases h
  ·cases h
 have lg:cP X.K G1 H1 (jD m ρ) (t5 m σ) G1 (upd H1 D (.lst [])):=by
  refine⟨.own x1.s hD,by simp[t5,jD],fun i d h=>?_,fun i es h=>(oV h).elim,fun i j es fs _ h=>(oV h).elim,fun _=>none,fun i es _ h=>(oV h).elim,fun i o h=>(yW h).elim⟩;unfold jD at h;rw[xt] at h;split at h
  ·rename_i o ho;unfold rK at h;split at h
   ·cases h
   ·rename_i j;split at h
    ·rename_i d' rC;cases h;obtain⟨v,hv,rv⟩:=E1.fz j d rC;refine⟨v,?_,rv⟩;unfold t5;rw[aT,ho];simp[hv]
    ·cases h
  ·cases h
 refine⟨fun i n cj H'=>n=ds.length-i/\i<=ds.length/\∃acc xs G',cP X.K G1 H1 (jD m ρ) cj G' H'/\H' D=some (.lst xs)/\G' D=none/\bw X.K G' xs acc/\Iv i acc,
  ⟨ds.length,by simp,Nat.zero_le _,[],[],G1,lg,gP,VA,bw.nil,i0⟩,?_⟩
 rintro i n cj H' ⟨rfl,hi,acc,xs,G',E',hx,Kj,rx,iv⟩;by_cases iQ:i<ds.length
 ·obtain⟨w1,w2⟩:=wk;obtain⟨go,yl⟩:=w1 i ds[i] G' H' (ag iQ) E'.e.g E'.e.s;refine .inr ⟨go,fun nJ H2=>∃acc xs G',cP X.K G1 H1 (jD m ρ) nJ G' H2/\H2 D=some (.lst xs)/\G' D=none/\bw X.K G' xs acc/\Iv (i+1) acc,fun nJ H2 h2=>⟨ds.length-(i+1),by omega,rfl,iQ,h2⟩,fun v H2 hy=>?_⟩;obtain⟨G2,x2,rv⟩:=yl v H2 hy;refine q2 _ _ _ (jD m ρ) cj G1 H1 G2 H2 ds[i] v _ _ (E'.ext x2) rv (hk _ _ _ (turn i ds[i] acc (ag iQ) iv)) fun wU qN G3 H3 E3 x3 eQ=>?_
  obtain⟨eQ,Va,Vc⟩:=eQ;have weak:∀j,gt (jD m ρ) j=.un\/gt (jD m ρ) j=gt wU j:=fun j=>by
   cases hm:m[j]? with
   | none=>left;unfold jD;rw[xt,hm]
   | some o=>
    cases o with
    | none=>left;unfold jD;rw[xt,hm];rfl
    | some c=>right;exact(Vc j c hm).symm
  have wt:=x2.trans x3;refine q3 _ _ _ wU qN G1 H1 G3 H3 _ _ E3 eQ fun b H4 G4 x4 BC=>?_
  have kU:=wt.trans x4;have E4:=(E3.ext x4).weak (ρ':=jD m ρ) (Va.symm) weak;have EB:H4 D=some (.lst xs):=kU.h _ _ hx;have zq:G4 D=none:=kU.n D Kj (by rw[hx];exact nofun);cases b with
  | false=>
   rw[if_neg aG] at BC ⊢;exact⟨acc,xs,G4,E4,EB,zq,rx.mono kU.g,BC⟩
  | true=>
   rw[if_pos rfl] at BC ⊢;refine q4 _ _ _ wU qN G1 H1 G4 H4 _ _ x1 (E3.ext x4) BC fun v5 H5 r5 G5 x5 Ei t7=>?_
   obtain⟨G6,x6,yQ,_⟩:=Ei.freeze x5;have E6:=E4.ext x6;have UM:H5 D=some (.lst xs):=x6.h _ _ EB;have Ki:G6 D=none:=x6.n D zq (by rw[EB];exact nofun);have r6:bw X.K G6 xs acc:=(rx.mono kU.g).mono x6.g;refine⟨xs,UM,by rw[r6.length];exact t7.1,acc++[r5.val],xs++[v5],G6,?_,gP,Ki,r6.append (bw.cons yQ bw.nil),t7.2⟩;refine⟨⟨E6.e.g,fun b o e=>by rw[cR (iM e hD)];exact E6.e.h b o e,fun b o e=>by rw[cR (iM e Ki)];exact E6.e.s b o e,E6.e.n⟩,E6.len,E6.fz,fun i es h=>(oV h).elim,fun i j es fs _ h=>(oV h).elim,fun _=>none,fun i es _ h=>(oV h).elim,fun i o h=>(yW h).elim⟩
 ·have e:i=ds.length:=by omega
  subst e;refine .inl ⟨wk.2 G' H' E'.e.g E'.e.s,k _ H' (.ow acc) G' (x1.trans E'.e) ⟨D,xs,rfl,x1.h.free hD,Kj,hx,rx⟩ (fin acc iv)⟩
theorem AB(cs:bZ X N' m scope)(hk:px m g){ww:TI}{gg:pQ TG}{yI:pQ TT}{tee:pQ TE}
  (q1:∀(ρ:Ev) (σ:St) (G0 H0 G H:Hp) (Q:List D->Prop) (P:It->Hp->Prop),cP X.K G0 H0 ρ σ G H->wi ρ Q->(∀J H' ds G',Ext G H G' H'->rL X.K J G' ds->Q ds->P J H')->ww σ H P)
  (q2:∀s3 H3 ex (ρ:Ev) (σ:St) (G0 H0 G H:Hp) (d:D) (v:V) (Q:Ev->Prop) (P:St->Hp->Prop),cP X.K G0 H0 ρ σ G H->Rep X.K G v d->g d ρ Q->(∀ρ' cj G' H',cP X.K G0 H0 ρ' cj G' H'->Ext G H G' H'->Q ρ'->P cj H')->gg s3 H3 ex v σ H P)
  (q3:∀s3 H3 ex (ρ:Ev) (σ:St) (G0 H0 G H:Hp) (Q:Bool->Prop) (P:Bool->Hp->Prop),cP X.K G0 H0 ρ σ G H->tc ρ Q->(∀b H' G',Ext G H G' H'->Q b->P b H')->yI s3 H3 ex σ H P)
  (q4:∀s3 H3 ex,rG X.K te (tee s3 H3 ex)):rG X.K (eG wi m g tc te) (ux ww m gg yI tee):=fun ρ σ G0 H0 G H Q P E h k=>Ia cs hk q1 q2 q3 (fun s3 H3 ex ρ' cj G1 H1 G' H' Q' P' _=>q4 s3 H3 ex ρ' cj G1 H1 G' H' Q' P') E h k
theorem jF(hc:X.calm=true)(cs:bZ X N' m scope)(hk:px m g)(hi:PId X tg iter wi)(hg:∀s3 H3 ex,qL (lY X N' scope s3 H3 ex) tg g)(ht:∀s3 H3 ex,vw (lY X N' scope s3 H3 ex) ifs tc)
  (he:∀s3 H3 ex,PD (lY X N' scope s3 H3 ex) elt te) (hs:∀x,foldedSetIterable iter X.env x=pure x:=by intro _;rfl):PD X (.ListComp elt [⟨tg,iter,ifs,0⟩] scope pos) (eG wi m g tc te):=by
 obtain⟨ww,p1,q1⟩:=hi;exact⟨_,Ox (g:=fun s3 H3 ex=>(hg s3 H3 ex).choose) (tc:=fun s3 H3 ex=>(ht s3 H3 ex).choose) (te:=fun s3 H3 ex=>(he s3 H3 ex).choose) hc cs p1 (fun s3 H3 ex=>(hg s3 H3 ex).choose_spec.1) (fun s3 H3 ex=>(ht s3 H3 ex).choose_spec.1) (fun s3 H3 ex=>(he s3 H3 ex).choose_spec.1) hs,
  AB cs hk q1 (fun s3 H3 ex=>(hg s3 H3 ex).choose_spec.2) (fun s3 H3 ex=>(ht s3 H3 ex).choose_spec.2) (fun s3 H3 ex=>(he s3 H3 ex).choose_spec.2)⟩
theorem HA(i:Nat){x:Str}{pos' i7:Pos}(hc:X.calm=true)(cs:bZ X N' m scope)(hk:px m g)(hi:PId X tg iter wi)(hg:∀s3 H3 ex,qL (lY X N' scope s3 H3 ex) tg g)(ht:∀s3 H3 ex,vw (lY X N' scope s3 H3 ex) ifs tc)
  (he:∀s3 H3 ex,PD (lY X N' scope s3 H3 ex) elt te) (hN:X.N.Nodup:=by assumption) (sL:X.N[i]?=some x:=by rfl) (hx:Loc X.env.scope x:=by first | exact Or.inl rfl | exact Or.inr rfl) (hs:∀x,foldedSetIterable iter X.env x=pure x:=by intro _;rfl)
  (pI:swapsWith (.ListComp elt [⟨tg,iter,ifs,0⟩] scope pos) (some (.Name x pos')) i7.line X.env=pure true:=by rfl)
  (hf:X.fn x=true\/X.env.scope.names.lookup x=some .local:=by first | exact .inl rfl | exact .inr rfl | assumption) :
  PX X (.Assign [.Name x pos'] (.ListComp elt [⟨tg,iter,ifs,0⟩] scope pos) i7) (je i (eG wi m g tc te)):=by
 obtain⟨ww,p1,q1⟩:=hi;refine⟨_,C4 (g:=fun s3 H3 ex=>(hg s3 H3 ex).choose) (tc:=fun s3 H3 ex=>(ht s3 H3 ex).choose) (te:=fun s3 H3 ex=>(he s3 H3 ex).choose) hN sL hx hc cs p1 (fun s3 H3 ex=>(hg s3 H3 ex).choose_spec.1) (fun s3 H3 ex=>(ht s3 H3 ex).choose_spec.1) (fun s3 H3 ex=>(he s3 H3 ex).choose_spec.1) hs pI hf,fun ρ σ G0 H0 G H D E k h gg=>?_⟩;exact AB cs hk q1 (fun s3 H3 ex=>(hg s3 H3 ex).choose_spec.2) (fun s3 H3 ex=>(ht s3 H3 ex).choose_spec.2) (fun s3 H3 ex=>(he s3 H3 ex).choose_spec.2) ρ σ G0 H0 G H _ _ k h fun v H' r G' x rr hq=>gg.nx _ _ G' H' x.g (k.put x rr) hq
theorem Dd(i:Nat){x:Str}{pos' i7:Pos}(hc:X.calm=true)(cs:bZ X N' m scope)(hk:px m g)(hi:PId X tg iter wi)(hg:∀s3 H3 ex,qL (lY X N' scope s3 H3 ex) tg g)(ht:∀s3 H3 ex,vw (lY X N' scope s3 H3 ex) ifs tc)
  (he:∀s3 H3 ex,PD (lY X N' scope s3 H3 ex) elt te) (hN:X.N.Nodup:=by assumption) (sL:X.N[i]?=some x:=by rfl) (hx:Loc X.env.scope x:=by first | exact Or.inl rfl | exact Or.inr rfl) (hs:∀x,foldedSetIterable iter X.env x=pure x:=by intro _;rfl)
  (pI:swapsWith (.ListComp elt [⟨tg,iter,ifs,0⟩] scope pos) (some (.Name x pos')) i7.line X.env=pure true:=by rfl)
  (hf:X.fn x=true\/X.env.scope.names.lookup x=some .local:=by first | exact .inl rfl | exact .inr rfl | assumption) :
  PX X (.Assign [.Name x pos'] (.ListComp elt [⟨tg,iter,ifs,0⟩] scope pos) i7) (dX i (eG wi m g tc te)):=by
 obtain⟨ww,p1,q1⟩:=hi;refine⟨_,C4 (g:=fun s3 H3 ex=>(hg s3 H3 ex).choose) (tc:=fun s3 H3 ex=>(ht s3 H3 ex).choose) (te:=fun s3 H3 ex=>(he s3 H3 ex).choose) hN sL hx hc cs p1 (fun s3 H3 ex=>(hg s3 H3 ex).choose_spec.1) (fun s3 H3 ex=>(ht s3 H3 ex).choose_spec.1) (fun s3 H3 ex=>(he s3 H3 ex).choose_spec.1) hs pI hf,fun ρ σ G0 H0 G H D E k h gg=>?_⟩;refine AB cs hk q1 (fun s3 H3 ex=>(hg s3 H3 ex).choose_spec.2) (fun s3 H3 ex=>(ht s3 H3 ex).choose_spec.2) (fun s3 H3 ex=>(he s3 H3 ex).choose_spec.2) ρ σ G0 H0 G H _ _ k h fun v H' r G' x rr hq=>?_
 obtain⟨G2,x2,rv,_⟩:=rr.freeze x;exact gg.nx _ _ G2 H' x2.g (k.put x2 (r:=.fz r.val) rv) hq
end
noncomputable abbrev eO:=List D->(R->Prop)->Prop
def wN(K:PySem.W.Frag)(n:Nat)(t:eO):Sp:=fun vs H Q _=>∃G ds Qr,bL G H/\bw K G vs ds/\ds.length=n/\t ds Qr/\∀v H' r G',Ext G H G' H'->dv K G' H' H v r->Qr r->Q v H'
noncomputable def kD(N:List Str)(ds:List D):Ev:=ds.map Sl.fz++List.replicate (N.length-ds.length) .un
theorem Rk{ds:List D}{l:List Sl}{i:Nat}{s:Sl}(h:gt (ds.map Sl.fz++l) i=s):(∃d,ds[i]?=some d/\s=.fz d)\/(ds.length<=i/\gt l (i-ds.length)=s):=by
 induction ds generalizing i with
 | nil=>exact .inr ⟨Nat.zero_le _,by simpa using h⟩
 | cons d ds ih=>
  cases i with
  | zero=>simp only[aj,List.cons_append,gt] at h;exact .inl ⟨d,rfl,h.symm⟩
  | succ i=>
   simp only[aj,List.cons_append,gt] at h;rcases ih h with⟨e,h1,h2⟩ | ⟨h1,h2⟩
   ·exact .inl ⟨e,by simpa using h1,h2⟩
   ·refine .inr ⟨by simp;omega,?_⟩;rw[aB];rw[show i+1-(ds.length+1)=i-ds.length by omega];exact h2
theorem Qs{n i:Nat}:gt (List.replicate n Sl.un) i=.un:=by
 induction n generalizing i with
 | zero=>simp[gt]
 | succ n ih=>
  cases i with
  | zero=>rfl
  | succ i=>exact ih
theorem Dc{K:PySem.W.Frag}{G H:Hp}{N:List Str}{vs:List V}{ds:List D}(s:bL G H)(r:bw K G vs ds):cP K G H (kD N ds) (lg N vs) G H:=by
 have hl:=r.length;have c:∀{i:Nat} {t:Sl},gt (kD N ds) i=t->t≠.un->∃d,ds[i]?=some d/\t=.fz d:=fun{i t} h n=>by
  rcases Rk h with h | ⟨_,h⟩
  ·exact h
  ·rw[Qs] at h;exact absurd h.symm n
 refine⟨.refl s,by simp[lg,kD,hl],fun i d h=>?_,fun i es h=>?_,fun i j es fs _ h=>?_,fun _=>none,fun i es _ h=>?_,fun i o h=>?_⟩
 ·obtain⟨d',h1,h2⟩:=c h (by simp);cases h2;obtain⟨v,hv,rv⟩:=r.get h1;have hi:i<vs.length:=(ao.mp hv).1;refine⟨v,?_,rv⟩;unfold lg;rw[List.getElem?_append_left (by simpa using hi),aT,hv];rfl
 ·obtain⟨d',h1,h2⟩:=c h (by simp);cases h2
 ·obtain⟨d',h1,h2⟩:=c h (by simp);cases h2
 ·obtain⟨d',h1,h2⟩:=c h (by simp);cases h2
 ·obtain⟨d',h1,h2⟩:=c h (by simp);cases h2
section
variable {P:Program} {w:World} {K:PySem.W.Frag} {mg:Str->Option Value} {base:Heap}
theorem Hz{x qual:Str}{st:Stmt}{f:Addr}{fd:FuncData}{N ps:List Str}{k:Nat}{t:eO}{T:TX}{dV:Value}(F:pf dV K x qual st f fd)(S:bF N ps (bz st))
  (body:∀(cg:Value) (A:Around) (outer:List Env) (s:Shared) (H:Hp) (E:XK),cV k (A.deeper (envOfC qual (bz st) s.heap.objs.size f cg))->ou (mR mV P w K mg base N qual (bz st) f cg A outer s H E).sv (cC st) T)
  (spec:∀(ds:List D) (Qr:R->Prop),ds.length=ps.length->t ds Qr->T { nx:=fun _=>Qr (.fz .non),rt:=Qr } (kD N ds)):g8 P w K mg base mV (k+1) f fd ps (wN K ps.length t):=by
 refine F.ok S (fun vs H Q E h=>?_) (fun cg A outer s H vs Q E hr h=>?_)
 ·obtain⟨G,ds,Qr,_,r,hl,_⟩:=h;rw[r.length,hl]
 ·obtain⟨G,ds,Qr,s0,r,hl,ht,k0⟩:=h;obtain⟨tt,p,q⟩:=body cg A outer s H E hr;exact⟨tt,p,q _ _ G H G H _ _ (Dc s0 r) (spec ds Qr hl ht) ⟨fun ρ σ G' H' _ e h=>k0 _ H' _ G' e.e (eN (C3 _ _)) h,k0,fun _ _ _ _ _ _ h=>h.elim,fun _ _ _ _ _ _ h=>h.elim⟩⟩
end
section
variable {X:Cx} {k n:Nat} {f:Addr} {fd:FuncData} {ps:List Str} {t:eO} {x:Str} {p pos:Pos} {e:Expr} {es:List Expr} {ts:iT}
def fq(n:Nat)(t:eO)(ts:iT):TD:=fun ρ Q=>ts ρ fun ds=>ds.length=n/\t ds Q
theorem Ot(F:g8 X.prog X.w X.K X.mg X.base mV k f fd ps (wN X.K n t))(hr:cV k X.A)(hm:X.mg x=some (.ref f))(hk:PySem.W.keepIn X.K (.ref f)=true)(hb:Binds X.K fd ps [])(ha:mE X (e::es) ts)(hg:Gl X x:=by rfl)(jJ:(x==("__debug__":Str))=false:=by decide)
  (he:starEach (e::es) X.env=(false,eval e X.env)::starEach es X.env:=by rfl) (gH:(backTo pos (starEach es X.env)).any (·.1)=false:=by rfl):PD X (.Call (.Name x p) (e::es) [] pos) (fq n t ts):=by
 obtain⟨tt,pp,q⟩:=ha;refine⟨_,Hr F hr hg hm hk hb .nil Gg pp jJ he gH,fun ρ σ G0 H0 G H Q P E h k=>q ρ σ G0 H0 G H _ _ E h fun vs H' ds G' x rs hq=>?_⟩;rw[List.append_nil];exact⟨G',ds,Q,x.s,rs,hq.1,hq.2,fun v H2 r G2 x2 rr q2=>k v H2 r G2 (x.trans x2) (rr.fI x.h) q2⟩
end
end L2
namespace L2
open PySem PySem.Spec PyProof.Rows PySem.StrLaws
noncomputable def gL{α:Type}(xs:List α)(lo hi:Option Int):List α:=(xs.drop (HT.dn xs.length 0 lo)).take (HT.dn xs.length xs.length hi-HT.dn xs.length 0 lo)
noncomputable def pT(z:Str)(lo hi:Option Int):Str:=⟨(gL z.cps.toList lo hi).toArray⟩
theorem tx(v:Int)(n d:Nat):max 0 (min (if v<0 then v+(n:Int) else v) (n:Int))=((HT.dn n d (some v):Nat):Int):=by
 rw[<-HT.lG];by_cases h:v<0
 ·rw[if_pos h,if_pos h];omega
 ·rw[if_neg h,if_neg h];omega
theorem Jj(z:Str)(lo hi:Option Int):(Builtin.Str.strSliceIndices lo hi 1 z.length).filterMap (z.cps[·]?)=gL z.cps.toList lo hi:=by
 have hl:z.cps.toList.length=z.length:=by simp[Str.length]
 have e:Builtin.Str.strSliceIndices lo hi 1 z.length=sliceRange ((HT.dn z.length 0 lo:Nat):Int) ((HT.dn z.length z.length hi:Nat):Int) 1:=by
  unfold Builtin.Str.strSliceIndices;cases lo with
  | none=>
   cases hi with
   | none=>rfl
   | some v=>simp only[show((1:Int)>0) from by decide,if_true,tx v z.length z.length];rfl
  | some u=>
   cases hi with
   | none=>simp only[show((1:Int)>0) from by decide,if_true,tx u z.length 0];rfl
   | some v=>simp only[show((1:Int)>0) from by decide,if_true,tx v z.length z.length,tx u z.length 0]
 rw[e];unfold gL;rw[hl];generalize ha:HT.dn z.length 0 lo=a;generalize hb:HT.dn z.length z.length hi=b;have Kr:b<=z.length:=by rw[<-hb];exact HT.jk _ _ (az _) _
 have WE:a<=z.length:=by rw[<-ha];exact HT.jk _ _ (Nat.zero_le _) _
 by_cases oi:a<=b
 ·have:=sliced_plain z oi Kr;rw[strSliceIndices_plain oi Kr] at this;rw[<-this];unfold sliceRange;simp only[show((1:Int)>0) from by decide,if_true];congr 1
  by_cases h:a<b
  ·rw[if_pos (by omega)];rw[show(((b:Int)-(a:Int)+1-1)/1).toNat=b-a by omega];apply bb;intro k _;show((a:Int)+1*(k:Int)).toNat=a+k;omega
  ·rw[if_neg (by omega),show b-a=0 by omega];rfl
 ·rw[show b-a=0 by omega,List.take_zero];unfold sliceRange;simp only[show((1:Int)>0) from by decide,if_true];rw[if_neg (by omega)];rfl
theorem Qq(z:Str)(lo hi:Option Int):Txt.slice z lo hi=pT z lo hi:=by
 unfold Txt.slice pT;split
 ·rename_i h;have h':(Builtin.Str.strSliceIndices lo hi 1 z.length).length=z.length:=by simpa using h
  have hl:z.cps.toList.length=z.length:=by simp[Str.length]
  have e:=Jj z lo hi;have h2:(gL z.cps.toList lo hi).length=z.length:=by
   unfold gL;rw[ay,aL,hl];have e1:Builtin.Str.strSliceIndices lo hi 1 z.length=sliceRange ((HT.dn z.length 0 lo:Nat):Int) ((HT.dn z.length z.length hi:Nat):Int) 1:=by
    unfold Builtin.Str.strSliceIndices;cases lo with
    | none=>
     cases hi with
     | none=>rfl
     | some v=>simp only[show((1:Int)>0) from by decide,if_true,tx v z.length z.length];rfl
    | some u=>
     cases hi with
     | none=>simp only[show((1:Int)>0) from by decide,if_true,tx u z.length 0];rfl
     | some v=>simp only[show((1:Int)>0) from by decide,if_true,tx v z.length z.length,tx u z.length 0]
   rw[e1] at h';unfold sliceRange at h';simp only[show((1:Int)>0) from by decide,if_true,aa,List.length_range] at h';have b1:=HT.jk z.length z.length (az _) hi;have b2:=HT.jk z.length 0 (Nat.zero_le _) lo;by_cases h3:((HT.dn z.length 0 lo:Nat):Int)<((HT.dn z.length z.length hi:Nat):Int)
   ·rw[if_pos h3] at h';omega
   ·rw[if_neg h3] at h';simp at h';omega
  apply Str.ext';show z.cps=(gL z.cps.toList lo hi).toArray;have h3:gL z.cps.toList lo hi=z.cps.toList:=by
   unfold gL at h2 ⊢;rw[ay,aL,hl] at h2;rw[hl];have b1:=HT.jk z.length z.length (az _) hi;have a0:HT.dn z.length 0 lo=0\/z.length=0:=by omega
   rcases a0 with a0 | a0
   ·rw[a0,List.drop_zero,Nat.sub_zero];exact List.take_of_length_le (by omega)
   ·have:z.cps.toList=[]:=List.eq_nil_of_length_eq_zero (by omega);rw[this];simp
  rw[h3]
 ·rw[Jj]
section
variable {X:Cx} {pos:Pos} {e:Expr} {te:TD}
theorem uL:ug X (fun x lo hi H Q=>∃z,x=.str z/\z.length<=sizeLine/\Q (.str (pT z lo hi)) H):=by
 intro pins s σ H x v vl vu lo hi sl Q I rx hs pl pu h;obtain⟨z,rfl,hz,q⟩:=h;obtain⟨t,rfl⟩:=rx;refine⟨"str",_,F.slot_str_getitem.lookup,typeIs_str _ _ _,?_⟩;have part:∀{u:Value} {o:Option Int},IsPart u o->∃p:Option (Int×Tok),u=partValue p/\p.map (·.1)=o:=fun h=>by
  cases h with
  | none=>exact⟨none,rfl,rfl⟩
  | int i t=>exact⟨some (i,t),rfl,rfl⟩
 obtain⟨p1,rfl,e1⟩:=part pl;obtain⟨p2,rfl,e2⟩:=part pu;obtain⟨o,ho,hc,hd⟩:=hs;refine wpAny_getItem_str_slice (l:=p1) (u:=p2) (st:=none) ⟨o,ho,hc,hd⟩ rfl ?_;have fin:∀t' k,EP X pins σ Q (.str (Txt.slice z lo hi) t') { s with toks:=k }:=fun t' k=>⟨.str (pT z lo hi),H,I.tok k,⟨t',by rw[Qq]⟩,q⟩
 have hle:=aY (Txt.slice_le z lo hi) hz;subst e1 e2;exact post_val_or_str ⟨hle,fin⟩
noncomputable abbrev zI:=Ev->(Option Int->Prop)->Prop
def BP(X:Cx)(e:Option Expr)(t:zI):Prop:=∃tt,PO X e tt/\∀(ρ:Ev) (σ:St) (G0 H0 G H:Hp) (Q:Option Int->Prop) (P:Option Int->Hp->Prop),cP X.K G0 H0 ρ σ G H->t ρ Q->(∀o H' G',Ext G H G' H'->Q o->P o H')->tt σ H P
def gN:zI:=fun _ Q=>Q none
def fv(te:TD):zI:=fun ρ Q=>te ρ fun r=>match r.val with
 | .int i=>Q (some i)
 | _=>False
theorem gT:BP X none gN:=⟨_,N6,fun ρ σ G0 H0 G H Q P E h k=>k none H G (.refl E.e.s) h⟩
theorem fQ(h:PD X e te):BP X (some e) (fv te):=by
 obtain⟨t,p,q⟩:=h;refine⟨_,N5 p,fun ρ σ G0 H0 G H Q P E h k=>q ρ σ G0 H0 G H _ _ E h fun v H' r G' x rr hq=>?_⟩;obtain⟨G2,x2,rv,_⟩:=rr.freeze x;split at hq
 ·rename_i i e1;rw[e1] at rv;simp only[Rep] at rv;exact⟨i,rv,k _ H' G2 x2 hq⟩
 ·exact hq.elim
def fZ(te:TD)(tl th:zI):TD:=fun ρ Q=>te ρ fun r=>tl ρ fun lo=>th ρ fun hi=>match r.val with
 | .lst ds=>Q (.ow (gL ds lo hi))
 | .str z=>z.length<=sizeLine/\Q (.fz (.str (pT z lo hi)))
 | .tup ds=>¬(HT.dn ds.length 0 lo=0/\HT.dn ds.length ds.length hi=ds.length)/\Q (.fz (.tup (gL ds lo hi)))
 | _=>False
theorem Hy{K:PySem.W.Frag}{G:Hp}{xs:List V}{ds:List D}(r:bw K G xs ds)(lo hi:Option Int):bw K G (qR xs lo hi) (gL ds lo hi):=by
 unfold qR gL;rw[r.length];exact(r.drop _).take _
theorem gk{lo hi:Option Expr}{tl th:zI}{p2:Pos}(he:PD X e te)(hl:BP X lo tl)(hh:BP X hi th):PD X (.Subscript e (.Slice lo hi none p2) pos) (fZ te tl th):=by
 obtain⟨t1,p1,q1⟩:=he;obtain⟨t2,p2,q2⟩:=hl;obtain⟨t3,p3,q3⟩:=hh;refine⟨_,OL (sm.or (uL.or My)) p1 p2 p3,fun ρ σ G0 H0 G H Q P E h k=>q1 ρ σ G0 H0 G H _ _ E h fun v H' r G' x rr hq=>?_⟩;obtain⟨G1,x1,rv,_⟩:=rr.freeze x;refine q2 ρ σ G0 H0 G1 H' _ _ (E.ext x1) hq fun lo H2 G2 x2 iP=>?_
 refine q3 ρ σ G0 H0 G2 H2 _ _ ((E.ext x1).ext x2) iP fun hi H3 G3 x3 eQ=>?_
 have nQ:=(x1.trans x2).trans x3;have mj:=(rv.mono x2.g).mono x3.g;split at eQ
 ·rename_i ds e1;rw[e1] at mj;simp only[Rep] at mj;obtain⟨a,xs,rfl,h1,h2⟩:=mj;refine .inl ⟨a,xs,rfl,(nQ.s.fw h1).sq,fun p hp=>?_⟩;exact k _ _ (.ow _) G3 (nQ.trans (.own nQ.s hp)) ⟨p,_,rfl,nQ.h.free hp,nQ.s.free hp,gP,Hy h2 lo hi⟩ eQ
 ·rename_i z e1;rw[e1] at mj;simp only[Rep] at mj;exact .inr (.inl ⟨z,mj,eQ.1,k _ _ _ G3 nQ (eN (r0 _ _ _)) eQ.2⟩)
 ·rename_i ds e1;rw[e1] at mj;simp only[Rep] at mj;obtain⟨a,xs,rfl,h1,h2⟩:=mj;refine .inr (.inr ⟨a,xs,rfl,nQ.s.lz h1,by rw[h2.length];exact eQ.1,fun p hp=>?_⟩);have x4:Ext G3 H3 (upd G3 p (.tup (qR xs lo hi))) (upd H3 p (.tup (qR xs lo hi))):=.new nQ.s hp;refine k _ _ (.fz _) _ (nQ.trans x4) ?_ eQ.2;show Rep X.K _ _ (.tup _);simp only[Rep];exact⟨p,_,rfl,gP,(Hy h2 lo hi).mono x4.g⟩
 ·exact eQ.elim
def jv:eO:=fun ds Q=>match ds with
 | [.lst es]=>Q (.fz (.int es.length))
 | [.tup es]=>Q (.fz (.int es.length))
 | [.str z]=>z.length<=sizeLine/\Q (.fz (.int z.length))
 | _=>False
theorem jU:oJ X (.builtin "len") jv:=by
 refine⟨_,jb.or RM,fun G H vs ds Q P s rs h k=>?_⟩;unfold jv at h;split at h
 ·obtain⟨v,rfl,rv⟩:=jV rs;simp only[Rep] at rv;obtain⟨a,xs,rfl,h1,h2⟩:=rv;refine .inl ⟨a,xs,rfl,.inl ((s.fw h1).sq),?_⟩;rw[h2.length];exact k _ _ _ G (.refl s) (eN (ji _ _ _)) h
 ·obtain⟨v,rfl,rv⟩:=jV rs;simp only[Rep] at rv;obtain⟨a,xs,rfl,h1,h2⟩:=rv;refine .inl ⟨a,xs,rfl,.inr (s.lz h1),?_⟩;rw[h2.length];exact k _ _ _ G (.refl s) (eN (ji _ _ _)) h
 ·obtain⟨v,rfl,rv⟩:=jV rs;simp only[Rep] at rv;subst rv;exact .inr ⟨_,rfl,h.1,k _ _ _ G (.refl s) (eN (ji _ _ _)) h.2⟩
 ·exact h.elim
def uw(i:Nat):TD:=fun ρ Q=>match gt ρ i with
 | .ow ds=>Q (.fz (.int ds.length))
 | _=>False
theorem CV(i:Nat){x:Str}{p p':Pos}(hm:X.mg "len"=none)(hN:X.N[i]?=some x:=by rfl)(hv:kO X.env.scope x:=by first | exact Or.inl rfl | exact Or.inr (Or.inl rfl) | exact Or.inr (Or.inr rfl))(hg:Gl X "len":=by rfl)(hd:(x==("__debug__":Str))=false:=by decide)
  (fS:(x==("__classdict__":Str))=false:=by decide) (fA:starEach [Expr.Name x p'] X.env=(false,eval (.Name x p') X.env)::starEach [] X.env:=by rfl):PD X (.Call (.Name "len" p) [.Name x p'] [] pos) (uw i):=by
 refine⟨_,xS jb hg hm boot_len (lp (mf hN hv hd fS) nN fA),fun ρ σ G0 H0 G H Q P E h k=>?_⟩;unfold uw at h;split at h
 ·rename_i ds hg;obtain⟨a,xs,h1,h2,h3,h4,h5⟩:=E.ow i ds hg;refine⟨_,h1,a,xs,rfl,.inl (eI.of h2),?_⟩;rw[h5.length];exact k _ _ _ G (.refl E.e.s) (eN (ji _ _ _)) h
 ·exact h.elim
noncomputable def lU:List D->Option (List Bool)
 | []=>some []
 | .bl b::r=>(lU r).map (b::·)
 | _=>none
theorem II:∀{ds:List D} {bs:List Bool},lU ds=some bs->ds=bs.map D.bl
 | [],bs,h=>by simp[lU] at h;subst h;rfl
 | .bl b::r,bs,h=>by
  simp only[lU,Option.map_eq_some_iff] at h;obtain⟨zF,h1,rfl⟩:=h;rw[II h1];rfl
 | .non::r,bs,h=>by simp[lU] at h
 | .int _::r,bs,h=>by simp[lU] at h
 | .str _::r,bs,h=>by simp[lU] at h
 | .tup _::r,bs,h=>by simp[lU] at h
 | .lst _::r,bs,h=>by simp[lU] at h
 | .obj _ _::r,bs,h=>by simp[lU] at h
 | .dic _::r,bs,h=>by simp[lU] at h
 | .dit _::r,bs,h=>by simp[lU] at h
 | .exc _ _::r,bs,h=>by simp[lU] at h
theorem IH(bs:List Bool):lU (bs.map D.bl)=some bs:=by
 induction bs with
 | nil=>rfl
 | cons b r ih=>simp[lU,ih]
theorem Hx{K:PySem.W.Frag}{G:Hp}:∀{bs:List Bool} {vs:List V},bw K G vs (bs.map D.bl)->vs=bs.map V.bl
 | [],[],_=>rfl
 | b::bs,v::vs,h=>by
  simp only[aj,bw,Rep] at h;rw[h.1,Hx h.2];rfl
 | [],_::_,h=>by simp only[bg,bw] at h
 | _::_,[],h=>by simp only[aj,bw] at h
theorem Oz{bs:List Bool}{us:List Value}(h:Vals (bs.map V.bl) us){i:Nat}{v:Value}(hv:us[i]?=some v):∃b,bs[i]?=some b/\v=.bool b:=by
 have hl:=h.length;have hi:i<us.length:=(ao.mp hv).1;have oZ:i<bs.length:=by rw[aa] at hl;omega
 obtain⟨u,hu,ru⟩:=h.get (i:=i) (x:=V.bl bs[i]) (by simp[oZ]);rw[hv] at hu;cases hu;exact⟨bs[i],by simp[oZ],ru⟩
theorem Oq{s:Shared}{h':Heap}{o:Obj}(hk:∀b x,b∉[s.heap.objs.size]->(s.heap.push o).get? b=some x->h'.get? b=some x):∀b x,s.heap.get? b=some x->h'.get? b=some x:=
 fun b x e=>hk b x (fun hm=>by rw[aF.mp hm] at e;exact Nat.lt_irrefl _ (ax e)) (av _ e)
theorem Oo(bs:List Bool):((List.range bs.length).all fun i=>(bs[i]?).getD true)=bs.all id:=by
 rw[Bool.eq_iff_iff];simp only[List.all_eq_true,List.mem_range,id];constructor
 ·intro h b hb;obtain⟨i,hi,rfl⟩:=List.mem_iff_getElem.mp hb;simpa[hi] using h i hi
 ·intro h i hi;simpa[hi] using h _ (List.getElem_mem hi)
theorem Qp(hc:X.calm=true):df X (.builtin "all") (fun xs H Q=>∃(p:Addr) (bs:List Bool),xs=[.ref p]/\eI X.K H p (bs.map V.bl)/\Q (.bl (bs.all id)) H):=by
 intro pins s σ H xs us Q I r h;obtain⟨p,bs,rfl,hq,q⟩:=h;obtain⟨u,rfl,ru⟩:=lh r;cases ru;obtain⟨its,rv,pl,hz⟩:=I.list hq;have iQ:p<s.heap.objs.size:=by obtain⟨_,_,e,_⟩:=pl;exact ax e
 have hl:its.length=bs.length:=by rw[<-rv.length,aa]
 refine call_all_walk (wpAny_pyIter_list pl.isList ?_);refine⟨s.heap.objs.size,[s.heap.objs.size,p],[s.heap.objs.size],its.toArray.size,_,_,fun i=>(bs[i]?).getD true,rfl,Walks.list (A:=X.A.in1) (I.ok.hd hc) _ p (aI iQ) its.toArray,
  ⟨⟨_,aP _ rfl,rfl,rfl⟩,pl.isList.push _⟩,fun i v s' Q' E' hP hQ=>?_,fun h' tk hk=>?_⟩
 ·obtain⟨b,e,rfl⟩:=Oz rv (i:=i) (v:=v) (by simpa using hP);simp only[e,Option.getD_some] at hQ;exact wpAny_truthy_bool hQ
 ·rw[ai,hl,Oo];exact⟨.bl _,H,I.kept (Oq hk),rfl,q⟩
def tm:eO:=fun ds Q=>match ds with
 | [.lst es]=>match lU es with
  | some bs=>Q (.fz (.bl (bs.all id)))
  | none=>False
 | _=>False
theorem z8(hc:X.calm=true):oJ X (.builtin "all") tm:=by
 refine⟨_,Qp hc,fun G H vs ds Q P s rs h k=>?_⟩;unfold tm at h;split at h
 ·split at h
  ·rename_i es bs hb;obtain⟨v,rfl,rv⟩:=jV rs;simp only[Rep] at rv;obtain⟨a,xs,rfl,h1,h2⟩:=rv;rw[II hb] at h2;rw[Hx h2] at h1;exact⟨a,bs,rfl,(s.fw h1).sq,k _ _ _ G (.refl s) (eN (jw _ _ _)) h⟩
  ·exact h.elim
 ·exact h.elim
end
end L2
namespace L2
open PySem PySem.Spec PyProof.Rows
section
variable {X:Cx} {pos:Pos} {e:Expr} {te:TD}
noncomputable def qZ:D->String
 | .non=>"NoneType"
 | .bl _=>"bool"
 | .int _=>"int"
 | .str _=>"str"
 | .tup _=>"tuple"
 | .lst _=>"list"
 | .obj _ _=>"object"
 | .dic _=>"dict"
 | .dit _=>"dict"
 | .exc _ _=>"object"
end
end L2
namespace L2
open PySem PySem.Spec PyProof.Rows
section
variable {P:Program} {w:World} {K:PySem.W.Frag} {mg:Str->Option Value} {base:Heap}
structure Known (P:Program) (w:World) (K:PySem.W.Frag) (mg:Str->Option Value) (base:Heap) (k:Nat) (x:Str) (n:Nat) (t:eO):Prop where
 ex:∃(f:Addr) (fd:FuncData) (ps:List Str),g8 P w K mg base mV k f fd ps (wN K n t)/\mg x=some (.ref f)/\PySem.W.keepIn K (.ref f)=true/\Binds K fd ps []
structure At (K:PySem.W.Frag) (mg:Str->Option Value) (x:Str) (st:Stmt):Prop where
 ex:∃(f:Addr) (fd:FuncData),B0 K x x st f fd/\mg x=some (.ref f)
theorem gI{h:Heap}{x:Str}{st:Stmt}{f:Addr}{oc:Value}{od an:Option Addr}{nT:Array (Option Value)}{kV doc pm cg ct:Value}(X:K.In h)(G:h.Ns mainGlobals mg)(a:PySem.W.nsIn K mainGlobals x=some (some (.ref f)))
  (l:K.lookup f=some ⟨oc,od,.func (PySem.W.fnOf x x (eR st) (cC st) (bz st) .none kV doc pm an cg ct),nT⟩) (c:PySem.W.codeIn K cg x=true) (k:PySem.W.keepIn K (.ref f)=true):At K mg x st:=
 ⟨f,_,GN l c k,aZ X G a⟩
theorem oj{h:Heap}{x:Str}{u:Value}{z:Str}{t:Tok}(X:K.In h)(G:h.Ns mainGlobals mg)(c:PySem.W.nsIn K mainGlobals x=some (some u))(e:u=.str z t):∃t,mg x=some (.str z t):=⟨t,by rw[aZ X G c,e]⟩
theorem jS{h:Heap}{x:Str}{u:Value}{z:Int}{t:Tok}(X:K.In h)(G:h.Ns mainGlobals mg)(c:PySem.W.nsIn K mainGlobals x=some (some u))(e:u=.int z t):∃t,mg x=some (.int z t):=⟨t,by rw[aZ X G c,e]⟩
end
section
variable {X:Cx} {k k' n:Nat} {t:eO} {x:Str} {p pos:Pos} {e:Expr} {es:List Expr} {ts:iT}
theorem gC(C:Known X.prog X.w X.K X.mg X.base k x n t)(hr:cV k' X.A)(ha:mE X (e::es) ts)(hk:k<=k':=by decide)(hg:Gl X x:=by rfl)(jJ:(x==("__debug__":Str))=false:=by decide)
  (he:starEach (e::es) X.env=(false,eval e X.env)::starEach es X.env:=by rfl) (gH:(backTo pos (starEach es X.env)).any (·.1)=false:=by rfl):PD X (.Call (.Name x p) (e::es) [] pos) (fq n t ts):=by
 obtain⟨f,fd,ps,F,hm,kp,hb⟩:=C.ex;exact Ot F (hr.mono hk) hm kp hb ha hg jJ he gH
end
noncomputable def Hw(kindOf:Str->Option NameKind)(N N':List Str)(m:List (Option Nat))(scope:Scope):Bool:=
 (scope.kind==.function)&&(m.length==N'.length)&&(scope.names.all fun y=>scope.names.lookup y.1==some y.2) &&
 (scope.names.all fun y=>y.2 != .free||kindOf y.1==some .cell||kindOf y.1==some .free) &&
 ((m.zip N').all fun p=>match p.1 with
   | none=>true
   | some j=>N[j]?==some p.2&&scope.names.lookup p.2==some .free)
theorem bZ.of{X:Cx}{N':List Str}{m:List (Option Nat)}{scope:Scope}(h:Hw X.env.kindOf X.N N' m scope=true):bZ X N' m scope:=by
 unfold Hw at h;simp only[Bool.and_eq_true,beq_iff_eq,List.all_eq_true,Bool.or_eq_true,bne_iff_ne,ne_eq] at h;obtain⟨⟨⟨⟨h1,h2⟩,h3⟩,h5⟩,h6⟩:=h;refine⟨h1,h2,fun y hy=>h3 y hy,fun y hy e=>?_,fun i j x hm hN=>?_⟩
 ·rcases h5 y hy with(z | z) | z
  ·exact absurd e z
  ·exact .inl z
  ·exact .inr z
 ·have hz:(some j,x)∈m.zip N':=by
   apply ah (i:=i);rw[List.getElem?_zip_eq_some];exact⟨hm,hN⟩
  have:=h6 _ hz;simpa using this
theorem Q0{K:PySem.W.Frag}{G:Hp}{a:Addr}{ns:List Int}(h:j7 K G a (ns.map V.int)):Rep K G (.ref a) (.lst (ns.map D.int)):=by
 simp only[Rep];refine⟨a,_,rfl,h,?_⟩;clear h;induction ns with
 | nil=>exact bw.nil
 | cons n r ih=>exact bw.cons (ji _ _ _) ih
def Cq(n:Nat):eO:=fun ds Q=>∃ns:List Int,ds=[.lst (ns.map .int)]/\ns.length<=n/\Q (.fz (.bl true))
theorem oR{l:PySem.W.OpenLaw}{n k:Nat}{q:Program}{loose:List Str}{XP:(Str->Option Value)->Heap->Prop}{YP:World->Heap->Prop}{d:DefRec}{K:Params->PySem.W.Frag}{x:Str}
  (hn:l.most=some n) (zk:n<=sizeLine) (Fi:d.params.defaults=[]) (hr:cV k callerA) (hY:∀(w:World) (h:Heap),YP w h->(K w.params).In h)
  (F:∀(w:World) (mg:Str->Option Value) (fa:Addr) (h:Heap),(K w.params).In h->h.Ns mainGlobals mg->mg d.name=some (.ref fa)->
   ∃fd:FuncData,(∀(s:Shared) (u:Value),BindsTo s fd ⟨[u],[]⟩ [(x,u)])/\∀base:Heap,g8 l.prog w (K w.params) mg base mV k fa fd [x] (wN (K w.params) 1 (Cq n))) :
  PySem.W.WalkO q loose XP YP l.row.toRowW d [] (fun f vs=>PySem.call f vs):=by
 refine KS.mB hn Fi fun w cK cc mg mb fa o pm cd doc a vs ns G Y ho hd fS sF sE hints hlen hg=>?_
 have KX:=hY w _ Y;obtain⟨fd,hb,hF⟩:=F w mg fa _ KX G.T.g sF;refine OK KX G.T.g G.T.b G.T.builtins G.T.nolimit hg sE hints (aY hlen zk) hr (fun base _ _=>hF base) hb (fun H hO hS=>?_) fun H e s' z=>z
 have hL:j7 (K w.params) H a (ns.map V.int):=by
  rcases hS with hS | ⟨o,its,m,h1,h2,h3,h4,h5,h6⟩
  ·exact .inl hS
  ·have e:=KX a o h1;rw[sE] at e;cases e;have VF:Data.seq vs.toArray _=Data.seq its m:=h4;injection VF with e1 e2
   subst e1;exact .inr ⟨_,_,h1,h5,h6⟩
 refine⟨H,[.lst (ns.map .int)],fun r=>r=.fz (.bl true),bL.refl _,bw.cons (Q0 hL) bw.nil,rfl,⟨ns,rfl,hlen,rfl⟩,fun v H' r G' _ rr e=>?_⟩;subst e;simpa only[dv,Rep] using rr
theorem MZ{P:Program}{w:World}{K:PySem.W.Frag}{mg:Str->Option Value}{st:Stmt}{N:List Str}{x:Str}{k:Nat}{t:eO}{T:Heap->TX}{fa:Addr}(DA:At K mg "law" st)(sF:mg "law"=some (.ref fa))(S:bF N [x] (bz st))
  (hb:∀(kV doc pm:Value) (an:Option Addr) (cg ct:Value) (us:List Value),us.length=1->bindArgs (PySem.W.fnOf "law" "law" (eR st) (cC st) (bz st) .none kV doc pm an cg ct) ⟨us,[]⟩=pure ([x].zip us))
  (body:∀(base:Heap) (f:Addr) (cg:Value) (A:Around) (outer:List Env) (s:Shared) (H:Hp) (E:XK),cV k (A.deeper (envOfC "law" (bz st) s.heap.objs.size f cg))->ou (mR mV P w K mg base N "law" (bz st) f cg A outer s H E).sv (cC st) (T base))
  (spec:∀(base:Heap) (ds:List D) (Qr:R->Prop),ds.length=1->t ds Qr->T base { nx:=fun _=>Qr (.fz .non),rt:=Qr } (kD N ds)) :
  ∃fd:FuncData,(∀(s:Shared) (u:Value),BindsTo s fd ⟨[u],[]⟩ [(x,u)])/\∀base:Heap,g8 P w K mg base mV (k+1) fa fd [x] (wN K 1 t):=by
 obtain⟨f,fd,F,hm⟩:=DA.ex;rw[sF] at hm;cases hm;refine⟨fd,fun s u=>?_,fun base=>Hz F S (body base fa) (spec base)⟩;obtain⟨oc,od,kV,doc,pm,an,cg,ct,nT,rfl,lk,fS⟩:=F.ex;exact .of_eq (hb kV doc pm an cg ct [u] rfl)
end L2
namespace L2
open PySem PySem.Spec PyProof.Rows
def ju(i:Nat)(t:TX):TX:=fun D ρ=>t D (ja i ρ)
theorem xr(d:D):(R.fz d).val=d:=rfl
theorem CI(ds:List D):(R.ow ds).val=.lst ds:=rfl
theorem Mm(d:D):(R.fz d).sl=.fz d:=rfl
theorem Ml(ds:List D):(R.ow ds).sl=.ow ds:=rfl
theorem Hv{α:Type}{wi:kP}{m:List (Option Nat)}{g:jc}{tc:iR}{te:TD}{ρ:Ev}{Q:R->Prop}(L:List α)(φ:α->D)(f:α->Option D)(hw:∀Q':List D->Prop,Q' (L.map φ)->wi ρ Q')(hl:L.length<=sizeLine)
  (h:∀x∈L,∀(K1:D->Prop) (K0:Prop),(∀e,f x=some e->K1 e)->(f x=none->K0)->g (φ x) (jD m ρ) fun ft=>tc ft fun b=>if b=true then te ft fun r=>K1 r.val else K0)
  (q:Q (.ow (L.filterMap f))):eG wi m g tc te ρ Q:=by
 refine hw _ ⟨fun i acc=>acc=(L.take i).filterMap f,rfl,fun i d acc hd ha=>?_,fun acc ha=>?_⟩
 ·rw[aT] at hd;cases hx:L[i]? with
  | none=>rw[hx] at hd;cases hd
  | some x=>
   rw[hx] at hd;cases hd;have hi:i<L.length:=(ao.mp hx).1;have e:L.take (i+1)=L.take i++[x]:=by rw[List.take_add_one,hx];rfl
   have hlen:acc.length<sizeLine:=by
    rw[ha];refine Nat.lt_of_le_of_lt (List.length_filterMap_le _ _) ?_;rw[ay];omega
   exact h x (ah hx) (fun e=>acc.length<sizeLine/\acc++[e]=(L.take (i+1)).filterMap f) (acc=(L.take (i+1)).filterMap f)
    (fun z hz=>⟨hlen,by rw[e,List.filterMap_append,ha];simp[hz]⟩) (fun hz=>by rw[e,List.filterMap_append,ha];simp[hz])
 ·dsimp only at ha;rw[aa,List.take_length] at ha;rw[ha];exact q
theorem lx{α:Type}{wi:kP}{m:List (Option Nat)}{g:jc}{te:TD}{ρ:Ev}{Q:R->Prop}(L:List α)(φ f:α->D)(hw:∀Q':List D->Prop,Q' (L.map φ)->wi ρ Q')(hl:L.length<=sizeLine)
  (h:∀x∈L,∀(K1:D->Prop),K1 (f x)->g (φ x) (jD m ρ) fun ft=>te ft fun r=>K1 r.val) (q:Q (.ow (L.map f))):eG wi m g iE te ρ Q:=by
 refine Hv L φ (fun x=>some (f x)) hw hl (fun x hx K1 K0 h1 _=>?_) ?_
 ·have:=h x hx K1 (h1 _ rfl);simpa[iE] using this
 ·have e:L.filterMap (fun x=>some (f x))=L.map f:=by
   induction L with
   | nil=>rfl
   | cons a r ih=>simp
  rw[e];exact q
theorem qW{α:Type}{wi:kP}{m:List (Option Nat)}{g:jc}{tc:iR}{te:TD}{ρ:Ev}{Q:R->Prop}(L:List α)(φ f:α->D)(p:α->Bool)(hw:∀Q':List D->Prop,Q' (L.map φ)->wi ρ Q')(hl:L.length<=sizeLine)
  (h:∀x∈L,∀(K1:D->Prop) (K0:Prop),(p x=true->K1 (f x))->(p x=false->K0)->g (φ x) (jD m ρ) fun ft=>tc ft fun b=>if b=true then te ft fun r=>K1 r.val else K0)
  (q:Q (.ow ((L.filter p).map f))):eG wi m g tc te ρ Q:=by
 refine Hv L φ (fun x=>if p x=true then some (f x) else none) hw hl (fun x hx K1 K0 h1 h0=>h x hx K1 K0 (fun z=>h1 _ (by simp[z])) (fun z=>h0 (by simp[z]))) ?_;have e:L.filterMap (fun x=>if p x=true then some (f x) else none)=(L.filter p).map f:=by
  clear h hl hw q;induction L with
  | nil=>rfl
  | cons a r ih=>by_cases z:p a=true<;>simp[z,ih]
 rw[e];exact q
theorem HZ{wi:kP}{g:jc}{tb:TX}{D:DE}{ρ:Ev}(ds:List L2.D)(hw:∀Q':List L2.D->Prop,Q' ds->wi ρ Q')(Iv:Nat->Ev->Prop)(h0:Iv 0 ρ)
  (turn:∀i d ρ',ds[i]?=some d->Iv i ρ'->g d ρ' fun ft=>tb { D with nx:=Iv (i+1),ct:=Iv (i+1),bk:=D.nx } ft) (fin:∀ρ',Iv ds.length ρ'->D.nx ρ'):lZ wi g tb D ρ:=hw _ ⟨Iv,h0,turn,fin⟩
theorem A4{α:Type}{wi:kP}{g:jc}{tb:TX}{D:DE}{ρ:Ev}(L:List α)(φ:α->L2.D)(hw:∀Q':List L2.D->Prop,Q' (L.map φ)->wi ρ Q')(Iv:Nat->Ev->Prop)(h0:Iv 0 ρ)
  (turn:∀i x ρ',L[i]?=some x->Iv i ρ'->g (φ x) ρ' fun ft=>tb { D with nx:=Iv (i+1),ct:=Iv (i+1),bk:=D.nx } ft) (fin:∀ρ',Iv L.length ρ'->D.nx ρ'):lZ wi g tb D ρ:=by
 refine HZ (L.map φ) hw Iv h0 (fun i d ρ' hd iv=>?_) (fun ρ' iv=>fin ρ' (by simpa using iv));rw[aT] at hd;cases hx:L[i]? with
 | none=>rw[hx] at hd;cases hd
 | some x=>rw[hx] at hd;cases hd;exact turn i x ρ' hx iv
theorem ye{g:jc}{tb:TX}{D:DE}{ρ:Ev}{wi:kP}(n:Nat)(hw:∀Q':List L2.D->Prop,Q' ((List.range n).map fun(i:Nat)=>.int (0+i))->wi ρ Q')(Iv:Nat->Ev->Prop)(h0:Iv 0 ρ)
  (turn:∀(i:Nat) ρ',i<n->Iv i ρ'->g (.int i) ρ' fun ft=>tb { D with nx:=Iv (i+1),ct:=Iv (i+1),bk:=D.nx } ft) (fin:∀ρ',Iv n ρ'->D.nx ρ'):lZ wi g tb D ρ:=by
 refine A4 (List.range n) (fun(i:Nat)=>.int (0+i)) hw Iv h0 (fun i x ρ' hx iv=>?_) (fun ρ' iv=>fin ρ' (by simpa using iv));obtain⟨h1,h2⟩:=ao.mp hx;have h3:i<n:=by simpa using h1
 have h4:x=i:=by rw[<-h2];simp
 subst h4;rw[Int.zero_add];exact turn x ρ' h3 iv
theorem Ur:(10:Int) ^ Int.toNat 24=1000000000000000000000000:=by decide
theorem Uq:(10:Int) ^ Int.toNat 30=1000000000000000000000000000000:=by decide
theorem MY:oA 10 24=True:=by simp only[oA,eq_iff_iff,iff_true];decide
theorem MX:oA 10 30=True:=by simp only[oA,eq_iff_iff,iff_true];decide
theorem HY:100000<=sizeLine:=by decide
end L2
namespace L2
open PySem PySem.Spec PyProof.Rows
section
variable {X:Cx} {pos:Pos} {e:Expr} {te:TD} {es:List Expr} {ts:iT}
def uu(t:TD):TD:=fun ρ Q=>t ρ fun r=>match r.val with
 | .int i=>Q (.fz (.int (-i)))
 | _=>False
theorem xq(h:PD X e te):PD X (.UnaryOp .USub e pos) (uu te):=by
 obtain⟨t,p,q⟩:=h;refine⟨_,L6 MD p,fun ρ σ G0 H0 G H Q P E h k=>q ρ σ G0 H0 G H _ _ E h fun v H' r G' x rr hq=>?_⟩;obtain⟨G2,x2,rv,_⟩:=rr.freeze x;split at hq
 ·rename_i i e1;rw[e1] at rv;simp only[Rep] at rv;exact⟨i,rv,k _ _ _ G2 x2 (eN (ji _ _ _)) hq⟩
 ·exact hq.elim
def lT:eO:=fun ds Q=>match ds with
 | [.lst es]=>Q (.ow es)
 | [.tup es]=>Q (.ow es)
 | _=>False
theorem rX:oJ X (.type "list") lT:=by
 refine⟨_,JC,fun G H vs ds Q P s rs h k=>?_⟩;unfold lT at h;split at h
 ·obtain⟨v,rfl,rv⟩:=jV rs;simp only[Rep] at rv;obtain⟨a,xs,rfl,h1,h2⟩:=rv;exact⟨a,xs,rfl,.inl (s.fw h1).sq,tP s h2 h k⟩
 ·obtain⟨v,rfl,rv⟩:=jV rs;simp only[Rep] at rv;obtain⟨a,xs,rfl,h1,h2⟩:=rv;exact⟨a,xs,rfl,.inr (s.lz h1),tP s h2 h k⟩
 ·exact h.elim
def zS:eO:=fun ds Q=>match ds with
 | [.int i]=>Q (.fz (.int i))
 | [.bl b]=>Q (.fz (.int (if b then 1 else 0)))
 | _=>False
theorem Mj:oJ X (.type "int") zS:=by
 refine⟨_,Qc,fun G H vs ds Q P s rs h k=>?_⟩;unfold zS at h;split at h
 ·obtain⟨v,rfl,rv⟩:=jV rs;simp only[Rep] at rv;subst rv;exact .inl ⟨_,rfl,k _ _ _ G (.refl s) (eN (ji _ _ _)) h⟩
 ·obtain⟨v,rfl,rv⟩:=jV rs;simp only[Rep] at rv;subst rv;exact .inr ⟨_,rfl,k _ _ _ G (.refl s) (eN (ji _ _ _)) h⟩
 ·exact h.elim
noncomputable def lq:List D->Option (List Int)
 | []=>some []
 | .int b::r=>(lq r).map (b::·)
 | _=>none
theorem yd:∀{ds:List D} {bs:List Int},lq ds=some bs->ds=bs.map D.int
 | [],bs,h=>by simp[lq] at h;subst h;rfl
 | .int b::r,bs,h=>by
  simp only[lq,Option.map_eq_some_iff] at h;obtain⟨zF,h1,rfl⟩:=h;rw[yd h1];rfl
 | .non::r,bs,h=>by simp[lq] at h
 | .bl _::r,bs,h=>by simp[lq] at h
 | .str _::r,bs,h=>by simp[lq] at h
 | .tup _::r,bs,h=>by simp[lq] at h
 | .lst _::r,bs,h=>by simp[lq] at h
 | .obj _ _::r,bs,h=>by simp[lq] at h
 | .dic _::r,bs,h=>by simp[lq] at h
 | .dit _::r,bs,h=>by simp[lq] at h
 | .exc _ _::r,bs,h=>by simp[lq] at h
theorem zev(bs:List Int):lq (bs.map D.int)=some bs:=by
 induction bs with
 | nil=>rfl
 | cons b r ih=>simp[lq,ih]
theorem xY{K:PySem.W.Frag}{G:Hp}:∀{bs:List Int} {vs:List V},bw K G vs (bs.map D.int)->vs=bs.map V.int
 | [],[],_=>rfl
 | b::bs,v::vs,h=>by
  simp only[aj,bw,Rep] at h;rw[h.1,xY h.2];rfl
 | [],_::_,h=>by simp only[bg,bw] at h
 | _::_,[],h=>by simp only[aj,bw] at h
theorem DD{vs:List Value}{ns:List Int}(hi:IntsAre vs ns):∃xs:Array (Int×Tok),vs.toArray=intItems xs/\ns=xs.toList.map (·.1):=by
 obtain⟨xs,e⟩:=hi.allInts.items;exact⟨xs,e,by rw[<-hi.numsOf,<-nums_intItems,<-e]⟩
theorem Qo(hc:X.calm=true):df X (.builtin "sum") (fun xs H Q=>∃(p:Addr) (ns:List Int),xs=[.ref p]/\eI X.K H p (ns.map V.int)/\Q (.int ns.sum) H):=by
 intro pins s σ H xs us Q I r h;obtain⟨p,ns,rfl,hq,q⟩:=h;obtain⟨u,rfl,ru⟩:=lh r;cases ru;obtain⟨its,rv,pl,hz⟩:=I.list hq;obtain⟨ys,e,nY⟩:=DD (A2 rv);have hl:=pl.isList;rw[e] at hl;refine sum_intListG (I.ok.hd hc) hl fun h' tk t' hk=>?_
 have e2:preSum (numAt ys) ys.size=ns.sum:=by
  rw[preSum_eq,List.take_of_length_le (by simp),nY]
 rw[e2];exact⟨.int _,H,I.kept hk,⟨_,rfl⟩,q⟩
theorem Qn(hc:X.calm=true):df X (.builtin "min") (fun xs H Q=>∃(p:Addr) (ns:List Int),xs=[.ref p]/\eI X.K H p (ns.map V.int)/\ns≠[]/\∀M,M∈ns->(∀a∈ns,M<=a)->Q (.int M) H):=by
 intro pins s σ H xs us Q I r h;obtain⟨p,ns,rfl,hq,jf,q⟩:=h;obtain⟨u,rfl,ru⟩:=lh r;cases ru;obtain⟨its,rv,pl,hz⟩:=I.list hq;obtain⟨ys,e,nY⟩:=DD (A2 rv);have hl:=pl.isList;rw[e] at hl;have kL:0<ys.size:=by
  cases zc:ys.toList with
  | nil=>rw[nY,zc] at jf;exact absurd rfl jf
  | cons a b=>have:ys.toList.length=b.length+1:=by rw[zc];rfl
              rw[aO] at this;omega
 refine min_intList (I.ok.hd hc) hl kL fun v h' tk hv hk=>?_
 obtain⟨t,rfl⟩:=intItems_at hv;obtain⟨h1,h2⟩:=argBest_lt (numAt ys) (ys.size-1);refine⟨.int _,H,I.kept hk,⟨_,rfl⟩,q _ ?_ fun a ha=>?_⟩
 ·rw[nY,numAt_eq];exact getD_mem (by rw[aa,aO];omega)
 ·rw[nY] at ha;obtain⟨j,hj,rfl⟩:=mem_getD ha;rw[aa,aO] at hj;rw[<-numAt_eq];exact h2 j (by omega)
theorem Qm(hc:X.calm=true):df X (.builtin "max") (fun xs H Q=>∃(p:Addr) (ns:List Int),xs=[.ref p]/\eI X.K H p (ns.map V.int)/\ns≠[]/\∀M,M∈ns->(∀a∈ns,a<=M)->Q (.int M) H):=by
 intro pins s σ H xs us Q I r h;obtain⟨p,ns,rfl,hq,jf,q⟩:=h;obtain⟨u,rfl,ru⟩:=lh r;cases ru;obtain⟨its,rv,pl,hz⟩:=I.list hq;obtain⟨ys,e,nY⟩:=DD (A2 rv);have hl:=pl.isList;rw[e] at hl;have kL:0<ys.size:=by
  cases zc:ys.toList with
  | nil=>rw[nY,zc] at jf;exact absurd rfl jf
  | cons a b=>have:ys.toList.length=b.length+1:=by rw[zc];rfl
              rw[aO] at this;omega
 refine max_intList (I.ok.hd hc) hl kL fun v h' tk hv hk=>?_
 obtain⟨t,rfl⟩:=intItems_at hv;obtain⟨h1,h2⟩:=argBest_gt (numAt ys) (ys.size-1);refine⟨.int _,H,I.kept hk,⟨_,rfl⟩,q _ ?_ fun a ha=>?_⟩
 ·rw[nY,numAt_eq];exact getD_mem (by rw[aa,aO];omega)
 ·rw[nY] at ha;obtain⟨j,hj,rfl⟩:=mem_getD ha;rw[aa,aO] at hj;rw[<-numAt_eq];exact h2 j (by omega)
def rJ:eO:=fun ds Q=>match ds with
 | [.lst es]=>match lq es with
  | some ns=>Q (.fz (.int ns.sum))
  | none=>False
 | _=>False
theorem vH(hc:X.calm=true):oJ X (.builtin "sum") rJ:=by
 refine⟨_,Qo hc,fun G H vs ds Q P s rs h k=>?_⟩;unfold rJ at h;split at h
 ·split at h
  ·rename_i es bs hb;obtain⟨v,rfl,rv⟩:=jV rs;simp only[Rep] at rv;obtain⟨a,xs,rfl,h1,h2⟩:=rv;rw[yd hb] at h2;rw[xY h2] at h1;exact⟨a,bs,rfl,(s.fw h1).sq,k _ _ _ G (.refl s) (eN (ji _ _ _)) h⟩
  ·exact h.elim
 ·exact h.elim
def zR:eO:=fun ds Q=>match ds with
 | [.lst es]=>match lq es with
  | some ns=>ns≠[]/\∀M,M∈ns->(∀a∈ns,M<=a)->Q (.fz (.int M))
  | none=>False
 | [.int i,.int j]=>Q (.fz (.int (if j<i then j else i)))
 | _=>False
def zQ:eO:=fun ds Q=>match ds with
 | [.lst es]=>match lq es with
  | some ns=>ns≠[]/\∀M,M∈ns->(∀a∈ns,a<=M)->Q (.fz (.int M))
  | none=>False
 | [.int i,.int j]=>Q (.fz (.int (if j>i then j else i)))
 | _=>False
theorem Mi(hc:X.calm=true):oJ X (.builtin "min") zR:=by
 refine⟨_,(Qn hc).or (Qd hc),fun G H vs ds Q P s rs h k=>?_⟩;unfold zR at h;split at h
 ·split at h
  ·rename_i es bs hb;obtain⟨v,rfl,rv⟩:=jV rs;simp only[Rep] at rv;obtain⟨a,xs,rfl,h1,h2⟩:=rv;rw[yd hb] at h2;rw[xY h2] at h1;exact .inl ⟨a,bs,rfl,(s.fw h1).sq,h.1,fun M h3 h4=>k _ _ _ G (.refl s) (eN (ji _ _ _)) (h.2 M h3 h4)⟩
  ·exact h.elim
 ·obtain⟨v,u,rfl,rv,ru⟩:=xl rs;simp only[Rep] at rv ru;subst rv ru;exact .inr ⟨_,_,rfl,k _ _ _ G (.refl s) (eN (ji _ _ _)) h⟩
 ·exact h.elim
theorem Mh(hc:X.calm=true):oJ X (.builtin "max") zQ:=by
 refine⟨_,(Qm hc).or (Qe hc),fun G H vs ds Q P s rs h k=>?_⟩;unfold zQ at h;split at h
 ·split at h
  ·rename_i es bs hb;obtain⟨v,rfl,rv⟩:=jV rs;simp only[Rep] at rv;obtain⟨a,xs,rfl,h1,h2⟩:=rv;rw[yd hb] at h2;rw[xY h2] at h1;exact .inl ⟨a,bs,rfl,(s.fw h1).sq,h.1,fun M h3 h4=>k _ _ _ G (.refl s) (eN (ji _ _ _)) (h.2 M h3 h4)⟩
  ·exact h.elim
 ·obtain⟨v,u,rfl,rv,ru⟩:=xl rs;simp only[Rep] at rv ru;subst rv ru;exact .inr ⟨_,_,rfl,k _ _ _ G (.refl s) (eN (ji _ _ _)) h⟩
 ·exact h.elim
noncomputable def lV:List D->Option (List Str)
 | []=>some []
 | .str b::r=>(lV r).map (b::·)
 | _=>none
theorem A1:∀{ds:List D} {bs:List Str},lV ds=some bs->ds=bs.map D.str
 | [],bs,h=>by simp[lV] at h;subst h;rfl
 | .str b::r,bs,h=>by
  simp only[lV,Option.map_eq_some_iff] at h;obtain⟨zF,h1,rfl⟩:=h;rw[A1 h1];rfl
 | .non::r,bs,h=>by simp[lV] at h
 | .bl _::r,bs,h=>by simp[lV] at h
 | .int _::r,bs,h=>by simp[lV] at h
 | .tup _::r,bs,h=>by simp[lV] at h
 | .lst _::r,bs,h=>by simp[lV] at h
 | .obj _ _::r,bs,h=>by simp[lV] at h
 | .dic _::r,bs,h=>by simp[lV] at h
 | .dit _::r,bs,h=>by simp[lV] at h
 | .exc _ _::r,bs,h=>by simp[lV] at h
theorem A0(bs:List Str):lV (bs.map D.str)=some bs:=by
 induction bs with
 | nil=>rfl
 | cons b r ih=>simp[lV,ih]
theorem AM{K:PySem.W.Frag}{G:Hp}:∀{bs:List Str} {vs:List V},bw K G vs (bs.map D.str)->vs=bs.map V.str
 | [],[],_=>rfl
 | b::bs,v::vs,h=>by
  simp only[aj,bw,Rep] at h;rw[h.1,AM h.2];rfl
 | [],_::_,h=>by simp only[bg,bw] at h
 | _::_,[],h=>by simp only[aj,bw] at h
theorem Ql{K:PySem.W.Frag}{G:Hp}(bs:List Str):bw K G (bs.map V.str) (bs.map D.str):=by
 induction bs with
 | nil=>exact bw.nil
 | cons b r ih=>exact bw.cons (r0 _ _ _) ih
theorem DC{ss:List Str}:∀{us:List Value},Vals (ss.map V.str) us->StrsAre us ss:=by
 induction ss with
 | nil=>
  intro us h;cases h;exact .nil
 | cons n r ih=>
  intro us h;cases h with
  | cons a b=>
   obtain⟨t,rfl⟩:=a;exact .cons _ _ (ih b)
theorem IG:∀{vs:List Value} {ss:List Str},StrsAre vs ss->Vals (ss.map V.str) vs
 | _,_,.nil=>.nil
 | _,_,.cons _ _ h=>.cons ⟨_,rfl⟩ (IG h)
theorem nA:df X (.builtin "sorted") (fun xs H Q=>∃(p:Addr) (ss:List Str),xs=[.ref p]/\eI X.K H p (ss.map V.str)/\ss.length<64/\∀kI:List Str,kI.Perm ss->sortedS kI=true->∀l,H l=none->Q (.ref l) (upd H l (.lst (kI.map V.str)))):=by
 intro pins s σ H xs us Q I r h;obtain⟨p,ss,rfl,hq,Ft,q⟩:=h;obtain⟨u,rfl,ru⟩:=lh r;cases ru;obtain⟨its,rv,pl,hz⟩:=I.list hq;have hl:its.length=ss.length:=by rw[<-rv.length,aa]
 refine sorted_strs pl.isList (DC rv) (by omega) fun out kI a1 a2 a3=>?_
 obtain⟨en,he⟩:=sortedAll_at s.heap its out;have hf:H (s.heap.objs.size+1)=none:=I.cz.fresh (Nat.le_succ _);refine⟨.ref (s.heap.objs.size+1),_,I.laid (a:=s.heap.objs.size+1) (o:=.lst (kI.map V.str)) (t':=s.toks) (fun b o e=>sortedAll_old e) (Nat.le_succ _) ?_,rfl,q kI a2 a3 _ hf⟩;refine⟨by rw[aa,a2.length_eq];have:=HY;omega,out.toList,en,IG a1,?_⟩;rw[Array.toArray_toList];exact he
theorem QZ:df X (.builtin "sorted") (fun xs H Q=>∃(p:Addr) (ns:List Int),xs=[.ref p]/\eI X.K H p (ns.map V.int)/\ns.length<64/\∀uR:List Int,uR.Perm ns->uR.Pairwise (·<=·)->∀l,H l=none->Q (.ref l) (upd H l (.lst (uR.map V.int)))):=by
 intro pins s σ H xs us Q I r h;obtain⟨p,ss,rfl,hq,Ft,q⟩:=h;obtain⟨u,rfl,ru⟩:=lh r;cases ru;obtain⟨its,rv,pl,hz⟩:=I.list hq;have hl:its.length=ss.length:=by rw[<-rv.length,aa]
 refine sorted_ints pl.isList (A2 rv) (by omega) fun out kI a1 a2 a3=>?_
 obtain⟨en,he⟩:=sortedAll_at s.heap its out;have hf:H (s.heap.objs.size+1)=none:=I.cz.fresh (Nat.le_succ _);refine⟨.ref (s.heap.objs.size+1),_,I.laid (a:=s.heap.objs.size+1) (o:=.lst (kI.map V.int)) (t':=s.toks) (fun b o e=>sortedAll_old e) (Nat.le_succ _) ?_,rfl,q kI a2 a3 _ hf⟩;refine⟨by rw[aa,a2.length_eq];have:=HY;omega,out.toList,en,Dw a1,?_⟩;rw[Array.toArray_toList];exact he
def uD:eO:=fun ds Q=>match ds with
 | [.lst es]=>match lV es with
  | some ss=>ss.length<64/\∀kI:List Str,kI.Perm ss->sortedS kI=true->Q (.ow (kI.map D.str))
  | none=>match lq es with
   | some ns=>ns.length<64/\∀uR:List Int,uR.Perm ns->uR.Pairwise (·<=·)->Q (.ow (uR.map D.int))
   | none=>False
 | _=>False
theorem QF{K:PySem.W.Frag}{G:Hp}(bs:List Int):bw K G (bs.map V.int) (bs.map D.int):=by
 induction bs with
 | nil=>exact bw.nil
 | cons b r ih=>exact bw.cons (ji _ _ _) ih
theorem HX(_:X.calm=true):oJ X (.builtin "sorted") uD:=by
 refine⟨_,nA.or QZ,fun G H vs ds Q P s rs h k=>?_⟩;unfold uD at h;split at h
 ·split at h
  ·rename_i es bs hb;obtain⟨v,rfl,rv⟩:=jV rs;simp only[Rep] at rv;obtain⟨a,xs,rfl,h1,h2⟩:=rv;rw[A1 hb] at h2;rw[AM h2] at h1;exact .inl ⟨a,bs,rfl,(s.fw h1).sq,h.1,fun kI p1 p2=>tP s (Ql kI) (h.2 kI p1 p2) k⟩
  ·split at h
   ·rename_i es _ bs hb;obtain⟨v,rfl,rv⟩:=jV rs;simp only[Rep] at rv;obtain⟨a,xs,rfl,h1,h2⟩:=rv;rw[yd hb] at h2;rw[xY h2] at h1;exact .inr ⟨a,bs,rfl,(s.fw h1).sq,h.1,fun kI p1 p2=>tP s (QF kI) (h.2 kI p1 p2) k⟩
   ·exact h.elim
 ·exact h.elim
def BU(X:Cx)(id:String)(o:D->List D->(R->Prop)->Prop):Prop:=∃r,FI X id r/\∀(G H:Hp) (x:V) (d:D) (vs:List V) (ds:List D) (Q:R->Prop) (P:VK),bL G H->Rep X.K G x d->bw X.K G vs ds->o d ds Q->
 (∀v H' r' G',Ext G H G' H'->dv X.K G' H' H v r'->Q r'->P v H')->r x vs H P
def dM(T:String)(o:D->List D->(R->Prop)->Prop)(te:TD)(ts:iT):TD:=fun ρ Q=>te ρ fun r=>qZ r.val=T/\ts ρ fun ds=>o r.val ds Q
theorem Ny{K:PySem.W.Frag}{G H:Hp}{x:V}{d:D}{T:String}(s:bL G H)(r:Rep K G x d)(h:qZ d=T)(hT:T="list"\/T="str"):Bn K T x H:=by
 cases d with
 | str z=>simp only[Rep] at r;subst r;exact h.symm
 | lst ds=>
  simp only[Rep] at r;obtain⟨a,xs,rfl,h1,_⟩:=r;exact .inl ⟨h.symm,xs,(s.fw h1).sq⟩
 | non=>subst h;rcases hT with h | h<;>simp[qZ] at h
 | bl=>subst h;rcases hT with h | h<;>simp[qZ] at h
 | int=>subst h;rcases hT with h | h<;>simp[qZ] at h
 | tup=>subst h;rcases hT with h | h<;>simp[qZ] at h
 | obj=>subst h;rcases hT with h | h<;>simp[qZ] at h
 | dic=>subst h;rcases hT with h | h<;>simp[qZ] at h
 | dit=>subst h;rcases hT with h | h<;>simp[qZ] at h
 | exc=>subst h;rcases hT with h | h<;>simp[qZ] at h
theorem vR{T id:String}{name:Str}{p':Pos}{e1:Expr}{o:D->List D->(R->Prop)->Prop}(hm:BU X id o)(hT:T="list"\/T="str")(pa:PlainAttrs T)(slot:Slot T name id)(ze:typeOf (.builtin id)=pure (.type "method_descriptor"))
  (he:PD X e te) (ha:mE X (e1::es) ts) (j5:attributeBase e name X.env (eval e X.env)=eval e X.env:=by rfl)
  (vi:((backTo pos (starEach (e1::es) X.env)).all (fun x=>!x.1)&&(backToKw pos (keywordEach [] X.env)).all (fun x=>x.1.isSome)
   && decide ((e1::es).length+([]:List Keyword).length+(if ([]:List Keyword).isEmpty then 0 else 1)<30))=true:=by rfl)
  (mx:(p'.endLine==pos.line)=true:=by rfl) (hs:starEach (e1::es) X.env=(false,eval e1 X.env)::starEach es X.env:=by rfl) (nk:(backTo pos (starEach es X.env)).any (·.1)=false:=by rfl) :
  PD X (.Call (.Attribute e name p') (e1::es) [] pos) (dM T o te ts):=by
 obtain⟨r,hr,nj⟩:=hm;obtain⟨t1,p1,q1⟩:=he;obtain⟨t2,p2,q2⟩:=ha;refine⟨_,xj pa slot ze hr p1 p2 j5 vi mx hs nk,fun ρ σ G0 H0 G H Q P E h k=>q1 ρ σ G0 H0 G H _ _ E h fun v H' r1 G' x rr hq=>?_⟩;obtain⟨G2,x2,rv,_⟩:=rr.freeze x;refine⟨Ny x2.s rv hq.1 hT,q2 ρ σ G0 H0 G2 H' _ _ (E.ext x2) hq.2 fun vs H3 ds G3 x3 rs eQ=>?_⟩;exact nj G3 H3 v r1.val vs ds Q P x3.s (rv.mono x3.g) rs eQ fun w' H4 r4 G4 x4 Uh q4=>k w' H4 r4 G4 ((x2.trans x3).trans x4) (Uh.fI (x2.trans x3).h) q4
noncomputable def pk(d:D)(ds:List D):Nat:=ds.countP fun e=>cX e d
def xp:D->List D->(R->Prop)->Prop:=fun d ds Q=>match d,ds with
 | .lst es,[x]=>dZ 8 x/\(∀e∈es,dZ 8 e)/\Q (.fz (.int (pk x es)))
 | _,_=>False
theorem HE{pins:List (Addr×Obj)}{σ:St}{H:Hp}{s:Shared}(I:Inv X pins σ H s){d:D}:∀{es:List D} {vs:List V} {us:List Value},(∀e∈es,dZ 8 e)->Vals vs us->bw X.K H vs es->us.countP (lX X H d)=pk d es
 | [],_,_,_,rv,re=>by
  cases rv
  ·rfl
  ·simp only[bw] at re
 | e::es,_,_,h,rv,re=>by
  cases rv with
  | nil=>simp only[bw] at re
  | cons r t=>
   simp only[bw] at re;unfold pk;rw[List.countP_cons,List.countP_cons,CL I (h e (by simp)) r re.1,HE I (fun x hx=>h x (by simp[hx])) t re.2];rfl
theorem HD(hu:X.A.units+64<cLine):BU X "list.count" xp:=by
 refine⟨fun x vs H Q=>∃p d es ws y,x=.ref p/\vs=[y]/\eI X.K H p ws/\dZ 8 d/\(∀e∈es,dZ 8 e)/\Rep X.K H y d/\bw X.K H ws es/\Q (.int (pk d es)) H,fun pins s σ H x xs v us Q I rx rs h=>?_,fun G H x d vs ds Q P s rx rs h k=>?_⟩
 ·obtain⟨p,d,es,ws,y,rfl,rfl,hq,hd,he,rd,re,q⟩:=h;cases rx;obtain⟨u,rfl,ru⟩:=lh rs;obtain⟨its,rv,pl,hz⟩:=I.list hq;obtain⟨⟨cls,dd,data,sl⟩,n,ho,hc,WA,Km⟩:=id pl;simp only at hc Km;subst hc Km;refine call_meets PySem.F.slot_list_count ⟨_,ho,rfl⟩ PySem.F.entry_list_count (PySem.F.args_list_count_2 _ _) (SeqAt.list_countAt p its.toArray n dd sl u (lX X H d)) ⟨ho,xO (A:=X.A.in1) I hd (by show X.A.units+1+8<cLine;omega) rd ru he rv re,?_⟩;rw[show its.toArray.toList=its from rfl,HE I he rv re];exact⟨.int _,H,I.tok _,⟨_,rfl⟩,q⟩
 ·unfold xp at h;split at h
  ·obtain⟨y,rfl,ry⟩:=jV rs;simp only[Rep] at rx;obtain⟨a,xs,rfl,h1,h2⟩:=rx;exact⟨a,_,_,xs,y,rfl,rfl,(s.fw h1).sq,h.1,h.2.1,ry.mono s,h2.mono s,k _ _ _ G (.refl s) (eN (ji _ _ _)) h.2.2⟩
  ·exact h.elim
def tw:D->List D->(R->Prop)->Prop:=fun d ds Q=>match d,ds with
 | .str x,[.lst es]=>match lV es with
  | some ys=>(ys.map (·.length)).sum+ys.length*x.length<=16777216/\Q (.fz (.str (Txt.join x ys)))
  | none=>False
 | _,_=>False
theorem GI:BU X "str.join" tw:=by
 refine⟨fun x vs H Q=>∃(z:Str) (p:Addr) (ys:List Str),x=.str z/\vs=[.ref p]/\eI X.K H p (ys.map V.str)/\(ys.map (·.length)).sum+ys.length*z.length<=16777216/\Q (.str (Txt.join z ys)) H,fun pins s σ H x xs v us Q I rx rs h=>?_,fun G H x d vs ds Q P s rx rs h k=>?_⟩
 ·obtain⟨z,p,ys,rfl,rfl,hq,hz,q⟩:=h;obtain⟨t,rfl⟩:=rx;obtain⟨u,rfl,ru⟩:=lh rs;cases ru;obtain⟨its,rv,pl,_⟩:=I.list hq;exact join_list pl.isList (by simpa using DC rv) hz fun t' k=>⟨.str _,H,I.tok _,⟨_,rfl⟩,q⟩
 ·unfold tw at h;split at h
  ·split at h
   ·rename_i z es ys hy;obtain⟨v,rfl,rv⟩:=jV rs;simp only[Rep] at rv rx;obtain⟨a,xs,rfl,h1,h2⟩:=rv;rw[A1 hy] at h2;rw[AM h2] at h1;exact⟨_,a,ys,rx,rfl,(s.fw h1).sq,h.1,k _ _ _ G (.refl s) (eN (r0 _ _ _)) h.2⟩
   ·exact h.elim
  ·exact h.elim
end
end L2
namespace L2
open PySem PySem.Spec PyProof.Rows
theorem Ji{prog:Program}{w:World}{A:Around}{E:Value->Shared->Prop}{it l:Addr}{items:Array Value}(jf:l≠it) :
  ∀(n i:Nat) (s:Shared) (Q:List Value->Shared->Prop),s.heap.IsListIter it l i->s.heap.IsList l items->i+n<=items.size->
   (∀h':Heap,h'.IsListIter it l (i+n)->Heap.SameBut it s.heap h'->Q ((items.toList.drop i).take n) { s with heap:=h' })->wpAny (model prog w) A (draw (.ref it) n) Q E s
 | 0,i,s,Q,st,hl,hn,q=>by
  rw[draw.eq_1];exact ar (by have:=q s.heap st ⟨rfl,fun _ _=>rfl⟩;simpa using this)
 | n+1,i,s,Q,st,hl,hn,q=>by
  rw[draw.eq_2];have hi:i<items.size:=by omega
  refine ae (wpAny_pyNext_list_item st hl (x:=items[i]) (by simp[hi]) fun h1 Bs sb=>?_);dsimp only;have rA:h1.IsList l items:=by
   obtain⟨o,e,c⟩:=hl;exact⟨o,(sb.2 l jf).trans e,c⟩
  refine ae (ba (Ji jf n (i+1) { s with heap:=h1 } _ Bs rA (by omega) fun h2 rf uM=>ar ?_));have:=q h2 (by rw[show i+(n+1)=i+1+n by omega];exact rf) ⟨uM.1.trans sb.1,fun b hb=>(uM.2 b hb).trans (sb.2 b hb)⟩;have e:(items.toList.drop i).take (n+1)=items[i]::(items.toList.drop (i+1)).take n:=by
   rw[List.drop_eq_getElem_cons (by simpa using hi)];simp
  rw[e] at this;exact this
theorem SV{prog:Program}{w:World}{A:Around}{E:Value->Shared->Prop}{s:Shared}{l:Addr}{items:Array Value}{Q:List Value->Shared->Prop}(hd:A.handled=none)(hl:s.heap.IsList l items)
  (q:∀h':Heap,Heap.ExtBut s.heap.objs.size s.heap h'->Q items.toList { s with heap:=h' }):wpAny (model prog w) A (unpackItems (.ref l) items.size none) Q E s:=by
 unfold unpackItems;have iQ:l<s.heap.objs.size:=by obtain⟨o,e,_⟩:=hl;exact ax e
 have ty:s.TypeIs (.ref l) "list":=by obtain⟨o,e,c,_⟩:=hl;exact⟨o,e,c⟩
 refine ae ?_;unfold notIterableAtAll;refine ae (wpAny_specialOf ty F.slot_list_iter.lookup ?_);rw[if_pos (show((some (Value.builtin "list.__iter__")).isSome=true) from rfl)];refine ar ?_;rw[if_neg aG];refine ae (ba (wpAny_pyIter_list hl ?_));dsimp only;have rA:(s.heap.push { cls:=Value.type "list_iterator",data:=Data.fields #[Value.ref l,Value.int 0 0] }).IsList l items:=by
  obtain⟨o,e,c⟩:=hl;exact⟨o,av _ e,c⟩
 refine ae (ba (Ji (aI iQ) items.size 0 _ _ ⟨_,aP _ rfl,rfl,rfl⟩ rA (by omega) fun h2 rf uM=>?_));have vf:h2.IsList l items:=by
  obtain⟨o,e,c⟩:=rA;exact⟨o,(uM.2 l (aI iQ)).trans e,c⟩
 have el:List.take items.size (List.drop 0 items.toList)=items.toList:=by rw[List.drop_zero,show items.size=items.toList.length by simp,List.take_length]
 rw[el,if_neg (by simp)];refine ae (ba (wpAny_pyNext_list_end hd rf vf (by simp) fun h3 eb=>?_));rw[if_neg (by simp)];refine ar (q h3 fun b o hb e=>eb b o hb ?_);rw[uM.2 b hb];exact av _ e
section
variable {X:Cx} {pos:Pos}
def LB(K:PySem.W.Frag)(n:Nat)(t:sT):TG:=fun v σ H Q=>∃a xs,v=.ref a/\eI K H a xs/\xs.length=n/\t xs σ H Q
theorem Nx{es:List Expr}{k:Nat}{t:sT}{n:Nat}(hc:X.calm=true)(h:wO X es t)
  (hn:(assignEach es X.env).length=n:=by rfl) (fA:(assignEach es X.env).findIdx? (·.1)=none:=by rfl):PG X (.Tuple es k pos) (LB X.K n t):=by
 intro pins s σ H v u Q I r hw;obtain⟨a,xs,e1,hq,hl,hw⟩:=hw;subst e1;cases r;obtain⟨its,rv,pl,hz⟩:=I.list hq;rw[assign_Tuple];refine ae (wpAny_standAt ?_);unfold unpack;have hlen:(assignEach es X.env).length=its.toArray.size:=by rw[hn,<-hl,rv.length];simp
 rw[hlen,fA];refine ae (ba (SV (I.ok.hd hc) pl.isList fun h' hx=>?_));have I1:Inv X pins σ H { s with heap:=h' }:=I.kept (t':=s.toks) fun b o e=>hx b o (aI (ax e)) e
 exact h pins _ σ H xs _ Q I1 (by simpa using rv) hw
def zP(n:Nat)(t:oC):jc:=fun d ρ Q=>match d with
 | .lst ds=>ds.length=n/\t ds ρ Q
 | _=>False
theorem Nw{es:List Expr}{k:Nat}{t:oC}{n:Nat}(hc:X.calm=true)(h:w8 X es t)(hn:(assignEach es X.env).length=n:=by rfl)(fA:(assignEach es X.env).findIdx? (·.1)=none:=by rfl):qL X (.Tuple es k pos) (zP n t):=by
 obtain⟨t1,p1,q1⟩:=h;refine⟨_,Nx hc p1 hn fA,fun ρ σ G0 H0 G H d v Q P E r h k=>?_⟩;unfold zP at h;split at h
 ·simp only[Rep] at r;obtain⟨a,xs,rfl,hq,rs⟩:=r;exact⟨a,xs,rfl,(E.e.s.fw hq).sq,by rw[rs.length];exact h.1,q1 ρ σ G0 H0 G H _ xs Q P E rs h.2 k⟩
 ·exact h.elim
end
section
variable {X:Cx} {pos:Pos} {e:Expr} {te:TD} {es:List Expr} {ts:iT}
theorem QE:bootBuiltins "set"=some (.type "set"):=by rfl
theorem cy.look{K:PySem.W.Frag}{H:Hp}{f:Str}:∀{gs:List (Str×V)} {fs:List (Str×D)} {d:D},cy K H gs fs->fs.lookup f=some d->∃v,gs.lookup f=some v/\Rep K H v d
 | [],[],d,_,h=>by simp at h
 | (x,v)::gs,(y,d')::fs,d,r,h=>by
  simp only[cy] at r;obtain⟨⟨rfl,r1⟩,r2⟩:=r;rw[List.lookup_cons] at h ⊢;cases hb:f==x with
  | true=>rw[hb] at h;cases h;exact⟨v,rfl,r1⟩
  | false=>rw[hb] at h;exact cy.look r2 h
 | [],_::_,_,r,_=>by simp only[cy] at r
 | _::_,[],_,r,_=>by simp only[cy] at r
theorem HW{f:Str}:∀{fs:List (Str×D)} {d:D},fs.lookup f=some d->∃p∈fs,p.1=f
 | [],d,h=>by simp at h
 | (y,d')::fs,d,h=>by
  rw[List.lookup_cons] at h;cases hb:f==y with
  | true=>exact⟨(y,d'),by simp,(beq_iff_eq.mp hb).symm⟩
  | false=>
   rw[hb] at h;obtain⟨p,h1,h2⟩:=HW h;exact⟨p,by simp[h1],h2⟩
def kS(f:Str)(te:TD):TD:=fun ρ Q=>te ρ fun r=>match r.val with
 | .obj _ fs=>∃d,fs.lookup f=some d/\Q (.fz d)
 | _=>False
theorem me{f:Str}(he:PD X e te)(hb:attributeBase e f X.env (eval e X.env)=eval e X.env:=by rfl):PD X (.Attribute e f pos) (kS f te):=by
 obtain⟨t,p,q⟩:=he;refine⟨_,MB p hb,fun ρ σ G0 H0 G H Q P E h k=>q ρ σ G0 H0 G H _ _ E h fun v H' r G' x rr hq=>?_⟩;obtain⟨G2,x2,rv,_⟩:=rr.freeze x;split at hq
 ·rename_i cn fs e1;rw[e1] at rv;simp only[Rep] at rv;obtain⟨a,C,dx,gs,rfl,h1,h2,h3,h4⟩:=rv;obtain⟨d,hd,hq⟩:=hq;obtain⟨v,hv,rv⟩:=h4.look hd;obtain⟨pr,hp,rfl⟩:=HW hd;exact⟨a,C,dx,gs,v,rfl,x2.s _ _ h1,h2.cls,h3 pr hp,hv,k _ _ _ G2 x2 (eN rv) hq⟩
 ·exact hq.elim
noncomputable def vB(f:Str)(v:D):List (Str×D)->List (Str×D)
 | []=>[(f,v)]
 | (g,x)::r=>if g=f then(g,v)::r else(g,x)::vB f v r
theorem cy.put{K:PySem.W.Frag}{H:Hp}{f:Str}{v:V}{d:D}(rv:Rep K H v d):∀{gs:List (Str×V)} {fs:List (Str×D)},cy K H gs fs->cy K H (kR f v gs) (vB f d fs)
 | [],[],_=>by simp only[kR,vB,cy,and_true,true_and];exact rv
 | (x,u)::gs,(y,d')::fs,r=>by
  simp only[cy] at r;obtain⟨⟨rfl,r1⟩,r2⟩:=r;simp only[kR,vB];split
  ·simp only[cy,true_and];exact⟨rv,r2⟩
  ·simp only[cy,true_and];exact⟨r1,cy.put rv r2⟩
 | [],_::_,r=>by simp only[cy] at r
 | _::_,[],r=>by simp only[cy] at r
theorem cy.length{K:PySem.W.Frag}{H:Hp}:∀{gs:List (Str×V)} {fs:List (Str×D)},cy K H gs fs->gs.length=fs.length
 | [],[],_=>rfl
 | (x,u)::gs,(y,d')::fs,r=>by
  simp only[cy] at r;simp[cy.length r.2]
 | [],_::_,r=>by simp only[cy] at r
 | _::_,[],r=>by simp only[cy] at r
structure Making (K:PySem.W.Frag) (C:Addr) (x dx:Addr) (G0 H0:Hp) (ρ:Ev) (σ:St) (G H:Hp) (fs:List (Str×D)) (gs:List (Str×V)):Prop where
 e:cP K G0 H0 ρ σ G H
 sl:σ[0]?=some (some (.ref x))
 hx:H x=some (.ins C dx gs)
 o4:H dx=some (.own x)
 gx:G x=none
 zB:G dx=none
 r:cy K G gs fs
theorem Making.ext{K:PySem.W.Frag}{C x dx:Addr}{G0 H0:Hp}{ρ:Ev}{σ:St}{G H G' H':Hp}{fs:List (Str×D)}{gs:List (Str×V)}(M:Making K C x dx G0 H0 ρ σ G H fs gs)(y:Ext G H G' H'):Making K C x dx G0 H0 ρ σ G' H' fs gs:=
 ⟨M.e.ext y,M.sl,y.h _ _ M.hx,y.h _ _ M.o4,y.n _ M.gx (by rw[M.hx];exact nofun),y.n _ M.zB (by rw[M.o4];exact nofun),cy.mono y.g _ _ M.r⟩
noncomputable abbrev vq:=Ev->List (Str×D)->(List (Str×D)->Prop)->Prop
def BQ(X:Cx)(C:Addr)(ly:List Stmt)(t:vq):Prop:=∃tt,mD X ly tt/\∀(x dx:Addr) (ρ:Ev) (σ:St) (G0 H0 G H:Hp) (fs:List (Str×D)) (gs:List (Str×V)) (Q:List (Str×D)->Prop) (E:Ends),H0 x=none->H0 dx=none->dx≠x->(∀i o,gt ρ i≠.ov o)->
 Making X.K C x dx G0 H0 ρ σ G H fs gs->t ρ fs Q->(∀cj G' H' BJ VI,Making X.K C x dx G0 H0 ρ cj G' H' BJ VI->Q BJ->E.nx cj H')->tt E σ H
def B9:vq:=fun _ fs Q=>Q fs
def rP(f:Str)(te:TD)(u:vq):vq:=fun ρ fs Q=>te ρ fun r=>fs.length<1000/\u ρ (vB f r.val fs) Q
theorem Nv{C:Addr}:BQ X C [] B9:=⟨_,Hu,fun x dx ρ σ G0 H0 G H fs gs Q E _ _ _ _ M h k=>k σ G H fs gs M h⟩
theorem uC{C:Addr}{f x:Str}{p1 p2:Pos}{ly:List Stmt}{u:vq}(c:uo X.K C)(n:cO X.K C f)(he:PD X e te)(hr:BQ X C ly u)(hN:X.N[0]?=some x:=by rfl)(hv:kO X.env.scope x:=by first | exact Or.inl rfl | exact Or.inr (Or.inl rfl) | exact Or.inr (Or.inr rfl))
  (hs:swapsWith e (some (.Attribute (.Name x p1) f p2)) pos.line X.env=pure false:=by rfl) (hd:(x==("__debug__":Str))=false:=by decide) (fS:(x==("__classdict__":Str))=false:=by decide) :
  BQ X C (.Assign [.Attribute (.Name x p1) f p2] e pos::ly) (rP f te u):=by
 obtain⟨t1,h1,q1⟩:=he;obtain⟨t2,h2,q2⟩:=hr;refine⟨_,Di (MA (mf hN hv hd fS) h1 hs) h2,fun x dx ρ σ G0 H0 G H fs gs Q E z1 z2 z3 z4 M h k=>?_⟩;refine q1 ρ σ G0 H0 G H _ _ M.e h fun v H' r G' y rr hq=>?_
 obtain⟨G2,y2,rv,_⟩:=rr.freeze y;have M2:=M.ext y2;refine⟨_,M.sl,x,C,dx,gs,rfl,M2.hx,c,n,by rw[M.r.length];exact hq.1,?_⟩;refine q2 x dx ρ σ G0 H0 G2 _ (vB f r.val fs) (kR f v gs) Q E z1 z2 z3 z4 ?_ hq.2 k;refine⟨⟨⟨M2.e.e.g,fun b o e=>by rw[cR (iM e z1)];exact M2.e.e.h b o e,fun b o e=>by rw[cR (iM e M2.gx)];exact M2.e.e.s b o e,M2.e.e.n⟩,M2.e.len,M2.e.fz,fun i ds h=>?_,M2.e.dj,?_⟩,M2.sl,gP,by rw[cR z3];exact M2.o4,M2.gx,M2.zB,M2.r.put rv⟩
 ·obtain⟨p,xs,b1,b2,b3,b4,b5⟩:=M2.e.ow i ds h;exact⟨p,xs,b1,by rw[cR (Mg b2 M2.hx (by simp))];exact b2,b3,b4,b5⟩
 ·obtain⟨own,o1,o2⟩:=M2.e.on;exact⟨own,o1,fun i o h=>(z4 i o h).elim⟩
end
def KQ(K:PySem.W.Frag)(C:Addr)(n:Nat)(t:eO):Sp:=fun vs H Q _=>∃x dx H1 G ds yD Qr,vs=.ref x::yD/\H=upd (upd H1 dx (.own x)) x (.ins C dx [])/\H1 x=none/\H1 dx=none/\dx≠x/\bL G H1/\bw K G yD ds/\ds.length=n/\t ds Qr/\
 ∀H' r G',Ext G H1 G' H'->dv K G' H' H1 (.ref x) r->Qr r->Q .non H'
section
variable {P:Program} {w:World} {K:PySem.W.Frag} {mg:Str->Option Value} {base:Heap}
noncomputable def tH(N:List Str)(ds:List D):Ev:=.un::(ds.map Sl.fz++List.replicate (N.length-1-ds.length) .un)
theorem QD{G H:Hp}{N:List Str}{x:V}{vs:List V}{ds:List D}(s:bL G H)(r:bw K G vs ds):cP K G H (tH N ds) (lg N (x::vs)) G H:=by
 have E:=Dc (N:=N.drop 1) s r;have hl:=r.length;have e1:tH N ds=.un::kD (N.drop 1) ds:=by simp[tH,kD]
 have e2:lg N (x::vs)=some x::lg (N.drop 1) vs:=by simp[lg,Nat.sub_sub,Nat.add_comm]
 rw[e1,e2];refine⟨E.e,congrArg (·+1) E.len,fun i d h=>?_,fun i d h=>?_,fun i j d d' qC h h'=>?_,?_⟩
 ·cases i with
  | zero=>cases h
  | succ i=>exact E.fz i d h
 ·cases i with
  | zero=>cases h
  | succ i=>exact E.ow i d h
 ·cases i with
  | zero=>cases h
  | succ i=>
   cases j with
   | zero=>cases h'
   | succ j=>exact E.dj i j d d' (fun z=>qC (by rw[z])) h h'
 ·obtain⟨own,o1,o2⟩:=E.on;refine⟨fun q=>(own q).map (·+1),fun i ds p h hp=>?_,fun i o h=>?_⟩
  ·cases i with
   | zero=>cases h
   | succ i=>
    dsimp only;rw[o1 i ds p h hp];rfl
  ·cases i with
   | zero=>cases h
   | succ i=>
    obtain⟨p,fp,b1,b2,b3,b4⟩:=o2 i o h;refine⟨p,fp,b1,b2,b3,fun q hq=>⟨(b4 q hq).1,(b4 q hq).2.1,?_⟩⟩;dsimp only;rw[(b4 q hq).2.2];rfl
theorem Rg(N:List Str)(ds:List D):∀i o,gt (tH N ds) i≠.ov o:=by
 have key:∀(l:List Sl),(∀s∈l,∀o,s≠.ov o)->∀i o,gt l i≠.ov o:=by
  intro l;induction l with
  | nil=>intro _ i o h;cases h
  | cons a r ih=>
   intro h i o;cases i with
   | zero=>exact h a (by simp) o
   | succ i=>exact ih (fun s hs=>h s (by simp[hs])) i o
 refine key _ fun s hs o e=>?_
 subst e;unfold tH at hs;simp at hs
theorem QC{x qual cn:Str}{st:Stmt}{f C:Addr}{fd:FuncData}{N ps:List Str}{k:Nat}{t:eO}{T:vq}(F:B0 K x qual st f fd)(S:bF N ("self"::ps) (bz st))(hC:ClsAt K cn C)
  (body:∀(cg:Value) (A:Around) (outer:List Env) (s:Shared) (H:Hp) (E:XK),cV k (A.deeper (envOfC qual (bz st) s.heap.objs.size f cg))->BQ (mR mV P w K mg base N qual (bz st) f cg A outer s H E).sv C (cC st) T)
  (spec:∀(ds:List D) (Qr:R->Prop),ds.length=ps.length->t ds Qr->T (tH N ds) [] fun fs=>(∀p∈fs,cO K C p.1)/\Qr (.fz (.obj cn fs))):g8 P w K mg base mV (k+1) f fd ("self"::ps) (KQ K C ps.length t):=by
 refine F.ok S (fun vs H Q E h=>?_) (fun cg A outer s H vs Q E hr h=>?_)
 ·obtain⟨x,dx,H1,G,ds,yD,Qr,rfl,_,_,_,_,_,r,hl,_⟩:=h;simp[r.length,hl]
 ·obtain⟨x,dx,H1,G,ds,yD,Qr,rfl,rfl,hx,o4,jf,s0,r,hl,ht,k0⟩:=h;obtain⟨tt,p,q⟩:=body cg A outer s _ E hr;have E0:=QD (N:=N) (x:=.ref x) s0 r;have gx:=s0.free hx;have zB:=s0.free o4;have sH:bL H1 (upd (upd H1 dx (.own x)) x (.ins C dx [])):=fun b o e=>by rw[cR (iM e hx),cR (iM e o4)];exact e
  have M0:Making K C x dx G H1 (tH N ds) (lg N (.ref x::yD)) G (upd (upd H1 dx (.own x)) x (.ins C dx [])) [] []:=
   ⟨⟨⟨bL.refl _,sH,s0.trans sH,fun _ h _=>h⟩,E0.len,E0.fz,fun i ds h=>let⟨p,xs,b1,b2,b3,b4,b5⟩:=E0.ow i ds h;⟨p,xs,b1,sH _ _ b2,b3,b4,b5⟩,E0.dj,let⟨own,o1,o2⟩:=E0.on;⟨own,o1,fun i o h=>let⟨p,fp,b1,b2,b3,b4⟩:=o2 i o h;⟨p,fp,b1,b2,b3.mono (bL.refl _) fun q _ u e=>sH q u e,b4⟩⟩⟩,by simp[lg],gP,by rw[cR jf];exact gP,gx,zB,by simp only[cy]⟩
  refine⟨tt,p,q x dx _ _ G H1 G _ [] [] _ _ hx o4 jf (Rg _ _) M0 (spec ds Qr hl ht) fun cj G' H' fs gs M hq=>?_⟩;have y:=M.e.e;have ne':dx≠x:=jf;have sG:bL G' (upd (upd G' dx (.own x)) x (.ins C dx gs)):=fun b o e=>by rw[cR (iM e M.gx),cR (iM e M.zB)];exact e
  refine k0 H' (.fz (.obj cn fs)) (upd (upd G' dx (.own x)) x (.ins C dx gs)) ⟨y.g.trans sG,y.h,fun b o e=>?_,fun b h1 h2=>?_⟩ ?_ hq.2
  ·by_cases hb:b=x
   ·subst hb;rw[gP] at e;rw[M.hx];exact e
   ·rw[cR hb] at e;by_cases uf:b=dx
    ·subst uf;rw[gP] at e;rw[M.o4];exact e
    ·rw[cR uf] at e;exact y.s b o e
  ·rw[cR (fun z=>h2 (by rw[z];exact hx)),cR (fun z=>h2 (by rw[z];exact o4))];exact y.n b h1 h2
  ·show Rep K _ _ (.obj cn fs);simp only[Rep];exact⟨x,C,dx,gs,rfl,gP,hC,hq.1,cy.mono sG _ _ M.r⟩
structure j8 (P:Program) (w:World) (K:PySem.W.Frag) (mg:Str->Option Value) (base:Heap) (k:Nat) (x:Str) (n:Nat) (t:eO):Prop where
 ex:∃(C f:Addr) (fd:FuncData) (ps:List Str),Mk K C f/\g8 P w K mg base mV k f fd ps (KQ K C n t)/\mg x=some (.ref C)/\Binds K fd ps []
end
end L2
namespace L2
open PySem PySem.Spec PyProof.Rows
def ig(K:PySem.W.Frag)(C:Addr):List Str->Prop
 | []=>True
 | x::r=>cO K C x/\ig K C r
theorem ig.all{K:PySem.W.Frag}{C:Addr}:∀{l:List Str},ig K C l->∀x∈l,cO K C x
 | [],_,x,h=>by cases h
 | y::r,n,x,h=>by
  rcases af.mp h with rfl | h
  ·exact n.1
  ·exact ig.all n.2 x h
structure B2 (K:PySem.W.Frag) (mg:Str->Option Value) (cn qual:Str) (st:Stmt) (fields:List Str):Prop where
 ex:∃(C f:Addr) (fd:FuncData),ClsAt K cn C/\Mk K C f/\B0 K "__init__" qual st f fd/\mg cn=some (.ref C)/\ig K C fields
theorem vp{K:PySem.W.Frag}{mg:Str->Option Value}{h:Heap}{cn qual:Str}{st:Stmt}{fields:List Str}{C f:Addr}{oc:Value}{od an:Option Addr}{nT:Array (Option Value)}{kV doc pm cg ct:Value}(X:K.In h)(G:h.Ns mainGlobals mg)
  (aC:PySem.W.nsIn K mainGlobals cn=some (some (.ref C))) (a1:PySem.W.findIn K (.ref C) "__init__"=some (some (.ref f))) (i1:PySem.W.isFn K (.ref f)=true)
  (l1:K.lookup f=some ⟨oc,od,.func (PySem.W.fnOf "__init__" qual (eR st) (cC st) (bz st) .none kV doc pm an cg ct),nT⟩) (c1:PySem.W.codeIn K cg qual=true) (k1:PySem.W.keepIn K (.ref f)=true)
  (pg:PySem.W.plainGet K C Str.empty=true) (hd:PySem.W.hasDictIn K C=true) (po:PySem.W.plainOver K C=true) (sa:PySem.W.findIn K (.ref C) "__setattr__"=some (some (.builtin "object.__setattr__"))) (mk:PySem.W.makesIn K C=true) (kc:PySem.W.keepIn K (.ref C)=true)
  (nf:ig K C fields):B2 K mg cn qual st fields:=
 ⟨C,f,_,⟨aC,⟨pg,hd,po,sa⟩⟩,⟨mk,a1,i1,kc⟩,GN l1 c1 k1,aZ X G aC,nf⟩
end L2
namespace L2
open PySem PySem.Spec PyProof.Rows
noncomputable def mX:D->Bool
 | .non=>true
 | .bl _=>true
 | .int _=>true
 | .str _=>true
 | _=>false
def vG(i:Nat)(te:TD):TD:=fun ρ Q=>te (ja i ρ) fun r=>match r with
 | .fz d=>mX d=true/\Q (.fz d)
 | _=>False
def Cg(i:Nat)(t:iR):iR:=fun ρ Q=>t (ja i ρ) Q
theorem xX{K:PySem.W.Frag}{G G':Hp}{v:V}{d:D}(h:mX d=true)(r:Rep K G v d):Rep K G' v d:=by
 cases d<;>first | (simp only[Rep] at r ⊢;exact r) | cases h
noncomputable def oB(G:Hp)(L:List Addr):Hp:=fun a=>if a∈L then none else G a
theorem C9{G H G' H':Hp}{L:List Addr}(gp:∀q∈L,G q=none)(x:Ext (oF G H L) H G' H'):Ext G H (oB G' L) H':=by
 refine⟨fun b u e=>?_,x.h,fun b u e=>?_,fun q h1 h2=>?_⟩
 ·have hb:b∉L:=fun z=>by rw[gp b z] at e;cases e
  unfold oB;rw[if_neg hb];exact x.g b u (by rw[qe hb];exact e)
 ·unfold oB at e;split at e
  ·cases e
  ·exact x.s b u e
 ·unfold oB;split
  ·rfl
  ·rename_i hq;exact x.n q (by rw[qe hq];exact h1) h2
section
variable {X:Cx} {e:Expr} {te:TD} {t:iR}
theorem cP.y9{K:PySem.W.Frag}{G0 H0 G H:Hp}{ρ:Ev}{σ:St}(i:Nat)(E:cP K G0 H0 ρ σ G H):∃G1,cP K G0 H0 (ja i ρ) σ G1 H/\∀G' H',Ext G1 H G' H'->∃G2,Ext G H G2 H':=
 let⟨L,hL,E',_⟩:=E.jR i
 ⟨_,E',fun G' H' x=>⟨_,C9 hL x⟩⟩
theorem Az(i:Nat)(h:PD X e te):PD X e (vG i te):=by
 obtain⟨tt,p,q⟩:=h;refine⟨tt,p,fun ρ σ G0 H0 G H Q P E h k=>?_⟩;obtain⟨G1,E1,back⟩:=E.y9 i;refine q _ σ G0 H0 G1 H _ _ E1 h fun v H' r G' x rr hq=>?_
 split at hq
 ·rename_i d;obtain⟨G2,x2⟩:=back G' H' x;exact k v H' (.fz d) G2 x2 (xX hq.1 rr) hq.2
 ·exact hq.elim
theorem Nu(i:Nat)(h:PB X e t):PB X e (Cg i t):=by
 obtain⟨tt,p,q⟩:=h;refine⟨tt,p,fun ρ σ G0 H0 G H Q P E h k=>?_⟩;obtain⟨G1,E1,back⟩:=E.y9 i;refine q _ σ G0 H0 G1 H _ _ E1 h fun b H' G' x hq=>?_
 obtain⟨G2,x2⟩:=back G' H' x;exact k b H' G2 x2 hq
end
end L2
namespace L2
open PySem PySem.Spec PyProof.Rows
theorem Ry(t:SetTable)(n:Nat):(t.orStandIn n).led=t.led:=by
 unfold SetTable.orStandIn;split<;>rfl
theorem QY(t:SetTable)(es:Array (Int×Value))(h:Int)(x:Value):(layNew t es h x).2.1.led=t.led:=by
 unfold layNew;split
 ·exact Ry _ _
 ·rfl
theorem Rj{t t':SetTable}{hs:Array Int}{wanted:Nat}{order:Array Nat}(h:t.relaid hs wanted=some (t',order)):t'.led=t.led/\t'.plain=t.plain:=by
 unfold SetTable.relaid SetTable.laid at h;cases hc:SetTable.layClean (SetTable.sizeAbove wanted-1) hs with
 | none=>rw[hc] at h;cases h
 | some owner=>
  rw[hc] at h;cases h;exact⟨rfl,rfl⟩
theorem RQ(t:SetTable)(es:Array (Int×Value))(wanted:Nat)(hp:t.plain=false):(relayAll t es wanted).2.1.led=t.led/\(relayAll t es wanted).2.1.plain=false:=by
 unfold relayAll;split
 ·rename_i t' order hr;obtain⟨h1,h2⟩:=Rj hr;dsimp only;split
  ·exact⟨h1,h2.trans hp⟩
  ·exact⟨rfl,rfl⟩
 ·exact⟨rfl,rfl⟩
section
variable {prog:Program} {w:World} {A:Around} {E:Value->Shared->Prop} {s:Shared}
structure zK (w:World) (es:Array (Int×Value)) (t:SetTable):Prop where
 led:t.led=!(w.params.followText "set-order")
 plain:es.size=0\/t.plain=false
structure g6 (prog:Program) (w:World) (h:Heap) (a:Addr) (es:Array (Int×Value)) (ep:Nat) (t:SetTable):Prop where
 at_:h.get? a=some { cls:=.type "set",dict:=none,data:=.set es ep t,slots:=#[] }
 el:ElemsOf (strKind prog w) es.toList
 small:es.size<scanBound
 fits:t.fits es.size=true
 marks:zK w es t
def Mem(prog:Program)(w:World)(es:Array (Int×Value))(k:Str):Prop:=∃e∈es.toList,(strKind prog w).is k e.2=true
theorem IF{a:Addr}{es ie:Array (Int×Value)}{ep:Nat}{t t':SetTable}{Q:Unit->Shared->Prop}(ho:s.heap.get? a=some { cls:=.type "set",dict:=none,data:=.set es ep t,slots:=#[] })(hb:ie.size<scanBound)
  (h:∀h',Heap.SameBut a s.heap h'->h'.get? a=some { cls:=.type "set",dict:=none,data:=.set ie (ep+1) t',slots:=#[] }->Q () { s with heap:=h' }):wpAny (model prog w) A (storeSet a ie t') Q E s:=by
 refine wpAny_storeSet_of ho rfl ?_ (fits_of_scanBound hb);refine h _ (Heap.SameBut.update s.heap a (Obj.putSet ie t')) ?_;have:=Heap.get?_update_self (Obj.putSet ie t') ho (by rw[putSet_of ie t' (ep:=ep) (t:=t) (es:=es) rfl];rfl);rw[putSet_of ie t' (ep:=ep) (t:=t) (es:=es) rfl] at this;exact this
theorem Nt{a:Addr}{es:Array (Int×Value)}{ep:Nat}{t:SetTable}{x:Str}{tk:Tok}{Q:Bool->Shared->Prop}(S:g6 prog w s.heap a es ep t)(room:es.size+1<scanBound)
  (h:∀h' ie sN t',Heap.SameBut a s.heap h'->g6 prog w h' a ie sN t'->((ie=es/\Mem prog w es x)\/(¬Mem prog w es x/\List.Perm ie.toList (es.toList++[(hashStr w x,.str x tk)])))->∀b,Q b { s with heap:=h' }) :
  wpAny (model prog w) A (setAddHashed a (.str x tk) ((strKind prog w).hash x)) Q E s:=by
 have sJ:(strKind prog w).is x (.str x tk)=true:=by show Value.isStrOf x (.str x tk)=true;simp[Value.isStrOf]
 have EF:(Value.str x tk).scannable=true:=rfl;have ho:=S.at_;unfold setAddHashed setAddHashedIn;refine ba (ae (wpAny_setState_of ho rfl S.fits ?_));dsimp only;rw[byScan_of EF S.small S.el];simp only[↓reduceIte];unfold setAddByScan;refine ae (ae (wpAny_rule (ae (wpAny_setScan_of sJ ho rfl S.fits S.el ?_))));cases hr:List.findIdx? (fun e=>(strKind prog w).is x e.2) es.toList with
 | some j=>
  dsimp only;obtain⟨hj,UZ,_⟩:=List.findIdx?_eq_some_iff_getElem.mp hr;refine ar (ar ?_);exact h s.heap es ep t (Heap.SameBut.refl a s.heap) S (.inl ⟨rfl,es.toList[j],List.getElem_mem hj,UZ⟩) _
 | none=>
  dsimp only;have vc:¬Mem prog w es x:=fun⟨e,he,hp⟩=>by
   have:=List.findIdx?_eq_none_iff.mp hr e he;rw[hp] at this;cases this
  have way:∀(b:Bool) {s1:Shared} {Q':Unit->Shared->Prop},Q' () s1->wpAny (model prog w) A (match b with | true=>rule "set.scan.the-table-gave-way" | false=>pure ()) Q' E s1:=fun b s1 Q' q=>by
   cases b
   ·exact ar q
   ·exact wpAny_rule q
  have j4:=layNew_perm t es ((strKind prog w).hash x) (.str x tk);have oh:=layNew_fits t es ((strKind prog w).hash x) (.str x tk);have sI:=QY t es ((strKind prog w).hash x) (.str x tk);generalize layNew t es ((strKind prog w).hash x) (.str x tk)=L at j4 oh sI ⊢;obtain⟨kN,t1,VU,VJ⟩:=L;dsimp only at j4 oh sI ⊢;rw[Array.toList_push] at j4;have zt:ElemsOf (strKind prog w) kN.toList:=(S.el.push sJ EF).perm j4;have kL:kN.size=es.size+1:=by rw[<-aO,j4.length_eq,aw,aO];rfl
  have BH:kN.size<scanBound:=by omega
  refine ae (way _ ?_)
  -- pF table,not plain any more
  have tail:∀(g:Bool->Sem Unit),(∀(b:Bool) (s1:Shared) (Q':Unit->Shared->Prop),Q' () s1->wpAny (model prog w) A (g b) Q' E s1)->∀t2:SetTable,t2.fits kN.size=true->t2.led=t.led->t2.plain=false->wpAny (model prog w) A (do
    storeSet a kN t2
    if (!VU&&t2.tooFull)=true then do
        g (relayAll t2 kN (SetTable.grown kN.size)).2.2
        storeSet a (relayAll t2 kN (SetTable.grown kN.size)).1 (relayAll t2 kN (SetTable.grown kN.size)).2.1
        pure (some true)
     else pure (some true)) (fun r s'=>wpAny (model prog w) A (match r with | some added=>pure added | none=>setAddHashedIn a (Value.str x tk) ((strKind prog w).hash x) 99999) Q E s') E s:=by
   intro g hg t2 f2 l2 p2;refine ae (IF ho BH fun h1 JO g1=>?_);have Fy:∀b,Q b { s with heap:=h1 }:=h h1 kN _ t2 JO ⟨g1,zt,BH,f2,⟨l2.trans S.marks.led,.inr p2⟩⟩ (.inr ⟨vc,j4⟩)
   split
   ·have hp:=relayAll_perm t2 kN (SetTable.grown kN.size);have lE:=relayAll_fits t2 kN (SetTable.grown kN.size);have BF:=RQ t2 kN (SetTable.grown kN.size) p2;generalize relayAll t2 kN (SetTable.grown kN.size)=Rl at hp lE BF ⊢;obtain⟨BM,t3,KA⟩:=Rl;dsimp only at hp lE BF ⊢;have pJ:BM.size=kN.size:=by rw[<-aO,hp.length_eq,aO]
    refine ae (hg _ _ _ ?_);refine ae (IF (s:={ s with heap:=h1 }) g1 (by rw[pJ];exact BH) fun h2 uM g2=>ar (ar ?_));exact h h2 BM _ t3 (JO.trans uM) ⟨g2,zt.perm hp,by rw[pJ];exact BH,lE,⟨(BF.1.trans l2).trans S.marks.led,.inr BF.2⟩⟩ (.inr ⟨vc,hp.trans j4⟩) _
   ·exact ar (ar (Fy _))
  by_cases gH:t1.plain=true
  ·rw[if_pos gH];refine ae ?_;rw[hashByValue_scannable 8 EF];refine ar ?_;have hk:plainKind (.str x tk)=false:=rfl;rw[hk];simp only[aR,if_false];exact tail _ (fun b s1 Q' q=>by cases b<;>first | exact ar q | exact wpAny_rule q) { t1 with plain:=false } (SetTable.fits_plain_off oh) sI rfl
  ·rw[if_neg gH];refine ae (ar ?_);simp only[if_true];exact tail _ (fun b s1 Q' q=>by cases b<;>first | exact ar q | exact wpAny_rule q) t1 oh sI (by simpa using gH)
noncomputable def keysOf(es:Array (Int×Value)):List Str:=es.toList.map fun e=>strOf e.2
theorem HV{es:Array (Int×Value)}(el:ElemsOf (strKind prog w) es.toList)(k:Str):Mem prog w es k↔k∈keysOf es:=by
 unfold Mem keysOf;rw[aD];constructor
 ·rintro⟨e,he,hk⟩;obtain⟨t,ht⟩:=Value.isStrOf_shape hk;exact⟨e,he,by rw[ht];rfl⟩
 ·rintro⟨e,he,rfl⟩;obtain⟨⟨k,hk,_⟩,_⟩:=el e he;obtain⟨t,ht⟩:=Value.isStrOf_shape hk;refine⟨e,he,?_⟩;rw[ht];show Value.isStrOf k (.str k t)=true;simp[Value.isStrOf]
theorem QB{es ie:Array (Int×Value)}{x:Str}{tk:Tok}{hs:Int}(p:List.Perm ie.toList (es.toList++[(hs,.str x tk)])):List.Perm (keysOf ie) (keysOf es++[x]):=by
 have:=p.map fun e=>strOf e.2
 rw[aq] at this;exact this
structure Holds (es:Array (Int×Value)) (xs:List Str):Prop where
 nd:(keysOf es).Nodup
 mem:∀x,x∈keysOf es↔x∈xs
 len:es.size<=xs.length
theorem Holds.put{es ie:Array (Int×Value)}{xs:List Str}{x:Str}{tk:Tok}(H:Holds es xs)(el:ElemsOf (strKind prog w) es.toList)
  (h:(ie=es/\Mem prog w es x)\/(¬Mem prog w es x/\List.Perm ie.toList (es.toList++[(hashStr w x,.str x tk)]))):Holds ie (xs++[x]):=by
 rcases h with⟨rfl,hm⟩ | ⟨hm,hp⟩
 ·refine⟨H.nd,fun y=>?_,by simp;have:=H.len;omega⟩;rw[au,<-H.mem,aF];constructor
  ·exact .inl
  ·rintro(h | rfl)
   ·exact h
   ·exact(HV el _).mp hm
 ·have hk:=QB hp;refine⟨hk.nodup_iff.mpr ?_,fun y=>?_,?_⟩
  ·rw[List.nodup_append];refine⟨H.nd,by simp,fun a ha b hb=>?_⟩;rw[aF.mp hb];rintro rfl;exact hm ((HV el _).mpr ha)
  ·rw[hk.mem_iff,au,au,H.mem]
  ·have e1:=hk.length_eq;have e2:(keysOf ie).length=ie.size:=by simp[keysOf]
   have e3:(keysOf es).length=es.size:=by simp[keysOf]
   have:=H.len;simp only[aw,aB,List.length_nil] at e1 ⊢;omega
theorem g6.kept{h h':Heap}{a:Addr}{es:Array (Int×Value)}{ep:Nat}{t:SetTable}(S:g6 prog w h a es ep t)(k:∀o,h.get? a=some o->h'.get? a=some o):g6 prog w h' a es ep t:=⟨k _ S.at_,S.el,S.small,S.fits,S.marks⟩
end
section
variable {prog:Program} {w:World} {A:Around} {R:Result->Shared->Prop} {I:Addr} {fp wr:List Addr} {G:Array GenState->Array GenState->Prop} {n:Nat} {P:Nat->Value->Prop} {St:Nat->Shared->Prop}
theorem QA(W:WalksS prog w A.in1 I fp wr G n P St)(S:Addr)(BI:S∉fp)(xs:List Str)(hx:xs.length=n)(u4:∀i v,P i v->∃x t,xs[i]?=some x/\v=.str x t)(hb:n+1<scanBound) :
  ∀(k i:Nat) (s:Shared) (es:Array (Int×Value)) (ep:Nat) (t:SetTable),n-i=k->i<=n->St i s->g6 prog w s.heap S es ep t->Holds es (xs.take i)->
   (∀s' ie sN t',Moved (S::wr) G s s'->g6 prog w s'.heap S ie sN t'->Holds ie xs->R (.ok (.ret .none)) s')->codeAny (model prog w) A (.builtin "set.update.loop" ⟨[.ref S,.ref I],[]⟩) R s:=by
 have yS:S∉wr:=fun h=>BI (W.sub _ h)
 have more:∀b∈wr,b∈S::wr:=fun b hb=>aA _ hb
 intro k;induction k with
 | zero=>
  intro i s es ep t hk hi st T H q;have e:i=n:=by omega
  subst e;refine codeAny_builtin PyProof.Rows.F.entry_set_update_loop ?_;rw[Around.under_plainId PyProof.Rows.F.plain_set_update_loop _];show wpAny _ A.in1 (pyNext (.ref I) >>= _) _ _ s;refine ae (W.done s _ _ st fun s' hm=>?_);show wpAny _ A.in1 (ret Value.none) _ _ s';rw[<-hx,List.take_length] at H;exact ar (q s' es ep t (hm.mono more) (T.kept fun o e=>hm.heap S _ yS e) H)
 | succ k ih=>
  intro i s es ep t hk hi st T H q;have iQ:i<n:=by omega
  refine codeAny_builtin PyProof.Rows.F.entry_set_update_loop ?_;rw[Around.under_plainId PyProof.Rows.F.plain_set_update_loop _];show wpAny _ A.in1 (pyNext (.ref I) >>= _) _ _ s;refine ae (W.item i s _ _ iQ st fun v s' hP gm hm=>?_);obtain⟨x,tk,UL,rfl⟩:=u4 i v hP;have T':g6 prog w s'.heap S es ep t:=T.kept fun o e=>hm.heap S _ yS e
  show wpAny _ A.in1 (holding [Value.str x tk] (setAdd S (.str x tk)) >>= _) _ _ s';refine ae (ba ?_);unfold setAdd;refine ba (ae ((strKind prog w).pyHash (k:=x) (by show Value.isStrOf x (.str x tk)=true;simp[Value.isStrOf]) ?_));have hl:=H.len;rw[ay] at hl;refine Nt (s:={ s' with toks:=s'.toks+1 }) T' (by omega) fun h' ie sN t' sb T2 EJ b=>?_
  have Bp:xs.take (i+1)=xs.take i++[x]:=by rw[List.take_add_one,UL];rfl
  have H2:Holds ie (xs.take (i+1)):=by rw[Bp];exact H.put T.el EJ
  refine ar ⟨plainId_quiet PyProof.Rows.F.plain_set_update_loop _,ih (i+1) _ ie sN t' (by omega) iQ (W.frame _ s' _ _ gm (Nat.le_succ _) fun b hb o e=>?_) T2 H2 fun s2 BM VT t2 nZ T3 H3=>?_⟩
  ·rw[sb.2 b (fun z:b=S=>BI (by rw[<-z];exact hb))];exact e
  ·refine q s2 BM VT t2 (Moved.trans W.gtrans ((hm.mono more).then_heap (Nat.le_succ _) fun b o hb e=>?_) nZ) T3 H3;rw[sb.2 b (fun z:b=S=>hb (by rw[z];exact List.mem_cons_self))];exact e
end
end L2
namespace L2
open PySem PySem.Spec PyProof.Rows
section
variable {prog:Program} {w:World} {A:Around} {E:Value->Shared->Prop} {s:Shared}
noncomputable abbrev pX(w:World):Obj:={ cls:=.type "set",dict:=none,data:=.set #[] 0 (.fresh 0 0 (!(w.params.followText "set-order"))) }
theorem Ph(a:Value){Q1:Value->Shared->Prop}(h:Q1 (.ref s.heap.objs.size) { s with heap:=s.heap.push (pX w) }) :
  codeAny (model prog w) A (.call (.builtin "set.__new__") ⟨[.type "set",a],[]⟩) (wants Q1 E) s:=by
 refine codeAny_of_tree ?_;show wpAny _ A.in1 (do checkBuiltinCall "set.__new__" ⟨[.type "set",a],[]⟩;again (.builtin "set.__new__" ⟨[.type "set",a],[]⟩)) _ _ s;refine ae (wpAny_of_eq (PySem.F.newCall_set_1 a) (ar ⟨plainId_quiet PySem.F.plain_set_new _,codeAny_builtin PySem.F.entry_set_new ?_⟩));rw[Around.under_plainId PySem.F.plain_set_new _];unfold Builtin.«set.__new__» Builtin.Frozenset.newClass;have mq:=PySem.sub_set_self;obtain⟨hp,g,d,tk,os⟩:=s;dsimp only;wp_walk
 refine wpAny_askSetting (ar ?_);dsimp only;simp only[newObj];refine ae (wpAny_alloc (ar ?_));exact ar h
theorem Nr{h:Heap}{a:Addr}(e:h.get? a=some (pX w)):g6 prog w h a #[] 0 (.fresh 0 0 (!(w.params.followText "set-order"))):=
 ⟨e,fun x hx=>by simp at hx,by show 0<4096;decide,by simp[SetTable.fits,SetTable.fresh,SetTable.fill],⟨rfl,.inl rfl⟩⟩
theorem Qz{l:Addr}{items:List Value}{xs:List Str}{Q:Value->Shared->Prop}(hh:A.handled=none)(hl:s.heap.IsList l items.toArray)(hi:StrsAre items xs)(hb:xs.length+1<scanBound)
  (h:∀(h':Heap) (tk:Nat) es ep t,g6 prog w h' s.heap.objs.size es ep t->L2.Holds es xs->(∀b o,b<s.heap.objs.size->s.heap.get? b=some o->h'.get? b=some o)->Q (.ref s.heap.objs.size) { s with heap:=h',toks:=tk }) :
  wpAny (model prog w) A (call (.type "set") [.ref l]) Q E s:=by
 obtain⟨c,tl,U7⟩:=PySem.F.called_set.mro;have Kf:=PySem.F.called_set.made;have mq:=PySem.F.called_set.sub;refine wpAny_call (codeAny_of_tree ?_);show wpAny _ _ (callAny (.type "set") _) _ _ _;refine ar ⟨Code.quiet_builtin _ (by decide +kernel),codeAny_builtin PySem.F.entry_type_call ?_⟩;rw[Around.under_plain (weight_type_call_type "set" [.ref l] []) rfl];have h1:=PySem.F.called_set.notType;have h2:=PySem.F.called_set.canCreate;have WC:=PySem.F.typeCall_set_1 (.ref l);repeat(any_goals (first | assumption | wp_step))
 refine codeAny_mono (Ph (.ref l) (E:=E) (Q1:=fun obj s1=>obj=.ref s.heap.objs.size/\s1={ s with heap:=s.heap.push (pX w) }) ⟨rfl,rfl⟩) fun r s1 hr=>?_
 cases r with
 | error e=>exact hr
 | ok fl=>
  cases fl with
  | ret obj=>
   obtain⟨rfl,rfl⟩:=hr;have hS:(s.heap.push (pX w)).get? s.heap.objs.size=some (pX w):=aP _ rfl;have hT:Shared.TypeIs { s with heap:=s.heap.push (pX w) } (.ref s.heap.objs.size) "set":=⟨_,hS,rfl⟩
   have Wx:=PySem.F.called_set.init.lookup;have WD:=PySem.F.called_set.init.bind (.ref s.heap.objs.size);repeat(any_goals (first | assumption | wp_step))
   refine codeAny_mono (codeAny_call_builtin (R:=wants (fun r s2=>r=.none/\∃h' tk es ep t,s2={ s with heap:=h',toks:=tk }/\g6 prog w h' s.heap.objs.size es ep t/\L2.Holds es xs/\
     (∀b o,b<s.heap.objs.size->s.heap.get? b=some o->h'.get? b=some o)) E) PySem.F.called_set.init.plain PySem.F.entry_set_init (check_set_init_1 hT ?_)) fun r2 s2 EH=>?_
   ·obtain⟨ol,BD,Fm,nl,Kn⟩:=hl;obtain⟨Us,yT,JU,uP⟩:=ol;simp only at Fm Kn;subst Fm Kn;have va:(s.heap.push (pX w)).get? l=some { cls:=.type "list",dict:=yT,data:=.seq items.toArray nl,slots:=uP }:=av _ BD;have US:=PySem.F.sub_list_set;have UT:=PySem.F.sub_list_frozenset;have jf:(Value.type "list"==Value.type "dict")=false:=by decide
    have rA:(s.heap.push (pX w)).IsList l items.toArray:=⟨_,va,rfl,nl,rfl⟩
    unfold Builtin.«set.__init__» noKeywords Builtin.Frozenset.updateFrom;generalize Vw:pyIter=PI;wp_walk
    subst Vw;refine wpAny_pyIter_list rA (ae (wpAny_runValue ?_));have Kh:l<s.heap.objs.size:=ax BD;have Vg:A.in1.in1.in1.handled=none:=by simp[hh]
    have kL:(s.heap.push (pX w)).objs.size=s.heap.objs.size+1:=Heap.size_push ..;have EU:l≠(s.heap.push (pX w)).objs.size:=by rw[kL];exact aI (Nat.lt_succ_of_lt Kh)
    have BI:s.heap.objs.size∉[(s.heap.push (pX w)).objs.size,l]:=by
     rw[kL];simp only[af,aH,or_false,not_or];exact⟨aI (Nat.lt_succ_self _),Nat.ne_of_gt Kh⟩
    have J6:xs.length=items.toArray.size:=by
     rw[ai];clear BD va rA h hb;induction hi with
     | nil=>rfl
     | cons _ _ _ ih=>simp[ih]
    have u4:∀(i:Nat) (v:Value),items.toArray[i]?=some v->∃x t,xs[i]?=some x/\v=.str x t:=fun i v hv=>by
     rw[List.getElem?_toArray] at hv;clear BD va rA h hb J6;induction hi generalizing i with
     | nil=>simp at hv
     | cons x t hr ih=>
      cases i with
      | zero=>simp at hv;exact⟨x,t,rfl,hv.symm⟩
      | succ i=>simp only[List.getElem?_cons_succ] at hv ⊢;exact ih i hv
    refine QA ((Walks.list Vg _ l EU items.toArray).toS) s.heap.objs.size BI xs J6 u4 (by omega) (items.toArray.size-0) 0 _ #[] 0 _ (by omega) (Nat.zero_le _)
     ⟨⟨_,aP _ rfl,rfl,rfl⟩,(rA.push _)⟩ (Nr (av _ hS)) ⟨by simp[keysOf],by simp[keysOf],by simp⟩ ?hR
    case hR=>
     intro s' es ep t hm T H;obtain⟨h',g',d',T1,su⟩:=s';have eg:g'=s.gens:=hm.gens;have ed:d'=s.drawn:=hm.drawn;have eo:su=s.os:=hm.os;subst eg ed eo;show wpAny _ _ _ _ _ _;refine ar ?_;show wpAny _ _ (ret Value.none) _ _ _;refine ar ⟨rfl,h',T1,es,ep,t,rfl,T,H,fun b o hb e=>?_⟩;refine hm.heap b o ?_ (av _ (av _ e));rw[kL];simp only[af,aH,or_false,not_or];exact⟨aI hb,aI (Nat.lt_succ_of_lt hb)⟩
   ·cases r2 with
    | error e=>exact EH
    | ok VO=>
     cases VO with
     | ret r=>
      obtain⟨rfl,h',tk,es,ep,t,rfl,T,H,t9⟩:=EH;repeat(any_goals (first | assumption | wp_step))
      exact h _ _ es ep t T H t9
     | _=>exact EH.elim
  | _=>exact hr.elim
end
end L2
namespace L2
open PySem PySem.Spec PyProof.Rows
end L2
namespace L2
open PySem PySem.Spec PyProof.Rows
section
variable {prog:Program} {w:World} {A:Around} {E:Value->Shared->Prop} {s:Shared}
theorem Wg{α:Type}{a:Array α}(h:a.size=1):∃e,a=#[e]:=⟨a[0]'(by omega),Array.ext (by simpa using h) fun i hi _=>by
 have:i=0:=by omega
 subst this;rfl⟩
end
end L2
namespace L2
open PySem PySem.Spec PyProof.Rows
end L2
namespace L2
open PySem PySem.Spec PyProof.Rows
end L2
namespace L2
open PySem PySem.Spec PyProof.Rows
section
variable {X:Cx} {pos:Pos} {e i':Expr} {te ti:TD}
def V9(i:Nat):TX:=fun D ρ=>match gt ρ i with
 | .ow _=>D.nx (ρ.set i (.ow []))
 | _=>False
def qP(i:Nat)(te:TD):TX:=fun D ρ=>match gt ρ i with
 | .ow ds=>te ρ fun r=>match r with
  | .ow es=>ds.length+es.length<=sizeLine/\D.nx (ρ.set i (.ow (ds++es)))
  | _=>False
 | _=>False
theorem Ak(i:Nat){x:Str}{p1 p2 pos':Pos}(he:PD X e te)(hN:X.N[i]?=some x:=by rfl)(hv:kO X.env.scope x:=by first | exact Or.inl rfl | exact Or.inr (Or.inl rfl) | exact Or.inr (Or.inr rfl))(hd:(x==("__debug__":Str))=false:=by decide)(fS:(x==("__classdict__":Str))=false:=by decide)
  (fA:starEach [e] X.env=(false,eval e X.env)::starEach [] X.env:=by rfl)
  (hb:∀{ta:TE} {t:TA},PE X (.Name x p1) ta->PA X [e] t->PE X (.Call (.Attribute (.Name x p1) "extend" p2) [e] [] pos') (yL X.K "list" Ho ta t):=by intro ta t h1 h2;exact xj PySem.F.plainAttrs_list PySem.F.slot_list_extend PySem.F.type_list_extend P8 h1 h2) :
  PX X (.Expr (.Call (.Attribute (.Name x p1) "extend" p2) [e] [] pos') pos) (qP i te):=by
 obtain⟨t,p,q⟩:=he;refine⟨_,vT (hb (mf hN hv hd fS) (lp p nN fA)),fun ρ σ G0 H0 G H D E k h g=>?_⟩;unfold qP at h;split at h
 ·rename_i ds hg;obtain⟨a,xs,h1,h2,h3,h4,h5⟩:=k.ow i ds hg;refine⟨_,h1,.inl ⟨rfl,xs,eI.of h2⟩,q ρ σ G0 H0 G H _ _ k h fun v H' r G' x1 rr hq=>?_⟩;split at hq
  ·rename_i es;obtain⟨b,zs,rfl,b1,b2,b3,b4⟩:=rr;have k2:=k.ext x1;refine⟨a,b,xs,zs,rfl,rfl,x1.h _ _ h2,b3,by rw[h5.length,b4.length];exact hq.1,?_⟩;exact g.nx _ _ G' _ x1.g (k2.change hg h1 ((h5.mono x1.g).append b4)) hq.2
  ·exact hq.elim
 ·exact h.elim
def uA(i:Nat)(ti te:TD):TX:=fun D ρ=>match gt ρ i with
 | .ow ds=>te ρ fun r=>ti ρ fun rk=>match rk.val with
  | .int k=>∃j,kY ds.length k=some j/\D.nx (ρ.set i (.ow (ds.set j r.val)))
  | _=>False
 | _=>False
theorem AL(i:Nat){x:Str}{p1 p2:Pos}(hi:PD X i' ti)(he:PD X e te)(hN:X.N[i]?=some x:=by rfl)(hv:kO X.env.scope x:=by first | exact Or.inl rfl | exact Or.inr (Or.inl rfl) | exact Or.inr (Or.inr rfl))(hd:(x==("__debug__":Str))=false:=by decide)(fS:(x==("__classdict__":Str))=false:=by decide)
  (ha:∀v,assign (.Subscript (.Name x p1) i' p2) X.env v=(do
   let ov <-holding [v] (eval (.Name x p1) X.env)
   let iv <-holding [v,ov] (eval i' X.env)
   standAt p2
   holding [v,ov,iv] (setItem ov iv v)
   release [v,ov,iv] []):=by intro _;rfl)
  (hs:swapsWithSole [.Subscript (.Name x p1) i' p2] e pos.line X.env=pure false:=by rfl) (hw:swappedStores [.Subscript (.Name x p1) i' p2] e X.env=pure none:=by rfl)
  (h1:(assignEach [.Subscript (.Name x p1) i' p2] X.env).map (·.2)=[assign (.Subscript (.Name x p1) i' p2) X.env]:=by rfl) :
  PX X (.Assign [.Subscript (.Name x p1) i' p2] e pos) (uA i ti te):=by
 obtain⟨t,p,q⟩:=he;obtain⟨t2,yR,q2⟩:=hi;refine⟨_,Ah p (Ai (mf hN hv hd fS) yR AR ha) hs hw h1,fun ρ σ G0 H0 G H D E k h g=>?_⟩;unfold uA at h;split at h
 ·rename_i ds hg;obtain⟨a,xs,h1,h2,h3,h4,h5⟩:=k.ow i ds hg;refine q ρ σ G0 H0 G H _ _ k h fun v H' r G' x1 rr hq=>?_
  obtain⟨G2,x2,rv,_⟩:=rr.freeze x1;refine⟨_,h1,q2 ρ σ G0 H0 G2 H' _ _ (k.ext x2) hq fun u H3 rk G3 x3 qu eQ=>?_⟩;obtain⟨G4,x4,oS,_⟩:=qu.freeze x3;split at eQ
  ·rename_i kk e1;obtain⟨j,hj,eQ⟩:=eQ;rw[e1] at oS;simp only[Rep] at oS;have kU:=x2.trans x4;refine⟨a,xs,kk,j,rfl,oS,kU.h _ _ h2,by rw[h5.length];exact hj,?_⟩;exact g.nx _ _ G4 _ kU.g ((k.ext kU).change hg h1 ((h5.mono kU.g).set j (rv.mono x4.g))) eQ
  ·exact eQ.elim
 ·exact h.elim
def zO(i:Nat):TX:=fun D ρ=>match gt ρ i with
 | .ow ds=>ds≠[]/\D.nx (ρ.set i (.ow ds.dropLast))
 | _=>False
theorem bw.dropLast{K:PySem.W.Frag}{H:Hp}{vs:List V}{ds:List D}(h:bw K H vs ds):bw K H vs.dropLast ds.dropLast:=by
 rw[List.dropLast_eq_take,List.dropLast_eq_take,h.length];exact h.take _
theorem MW(i:Nat){x:Str}{p1 p2 pos':Pos}(hN:X.N[i]?=some x:=by rfl)(hv:kO X.env.scope x:=by first | exact Or.inl rfl | exact Or.inr (Or.inl rfl) | exact Or.inr (Or.inr rfl))(hd:(x==("__debug__":Str))=false:=by decide)(fS:(x==("__classdict__":Str))=false:=by decide)
  (hb:∀{ta:TE},PE X (.Name x p1) ta->PE X (.Call (.Attribute (.Name x p1) "pop" p2) [] [] pos') (FX X.K "list" FW ta):=by intro ta h1;exact Mw PySem.F.plainAttrs_list PySem.F.slot_list_pop PySem.F.type_list_pop Mv h1) :
  PX X (.Expr (.Call (.Attribute (.Name x p1) "pop" p2) [] [] pos') pos) (zO i):=by
 refine⟨_,vT (hb (mf hN hv hd fS)),fun ρ σ G0 H0 G H D E k h g=>?_⟩;unfold zO at h;split at h
 ·rename_i ds hg;obtain⟨a,xs,h1,h2,h3,h4,h5⟩:=k.ow i ds hg;have hl:=h5.length;have hp:0<ds.length:=List.length_pos_iff.mpr h.1;refine⟨_,h1,.inl ⟨rfl,xs,eI.of h2⟩,a,xs,xs[xs.length-1],rfl,rfl,h2,ag (by omega),?_⟩;exact g.nx _ _ G _ (bL.refl _) (k.change hg h1 h5.dropLast) h.2
 ·exact h.elim
end
end L2
namespace L2
open PySem PySem.Spec PyProof.Rows
structure M2 (X:Cx) (o:Expr) (m:Str) (apos:Pos) (e f:Expr) (fT:Pos):Prop where
 base:attributeBase o m X.env (eval o X.env)=eval o X.env
 WI:((backTo fT (starEach [e,f] X.env)).all (fun x=>!x.1)&&(backToKw fT (keywordEach [] X.env)).all (fun x=>x.1.isSome)
  && decide (([e,f]:List Expr).length+([]:List Keyword).length+(if ([]:List Keyword).isEmpty then 0 else 1)<30))=true
 line:(apos.endLine==fT.line)=true
 trees:backTo fT (starEach [e,f] X.env)=[(false,eval e X.env),(false,eval f X.env)]
end L2
namespace PySem
open Sem (wp)
end PySem
namespace PySem
open Sem (wp)
end PySem
namespace PySem
open Sem (wp)
end PySem
namespace L2
open PySem PySem.Spec PyProof.Rows
noncomputable def FT:D->Option Key
 | .int i=>some (.inl i)
 | .str x=>some (.inr x)
 | _=>none
noncomputable def look(cq:List (Key×D))(k:Key):Option D:=(cq.find? fun kv=>decide (kv.1=k)).map (·.2)
section
variable {K:PySem.W.Frag} {G:Hp}
theorem dz.nil:dz K G [] []:=by simp only[dz]
end
section
variable {X:Cx} {pos:Pos} {e i':Expr} {te ti tv:TD}
def Wf(i:Nat)(ti:TD):TD:=fun ρ Q=>match gt ρ i with
 | .ov (.dc cq)=>ti ρ fun rk=>∃k d,FT rk.val=some k/\look cq k=some d/\Q (.fz d)
 | _=>False
def Ac(i:Nat):TX:=fun D ρ=>match gt ρ i with
 | .ov o=>D.rt (.ov o)
 | _=>False
theorem Nq(i:Nat){x:Str}{p':Pos}(hN:X.N[i]?=some x:=by rfl)(hv:kO X.env.scope x:=by first | exact Or.inl rfl | exact Or.inr (Or.inl rfl) | exact Or.inr (Or.inr rfl))(hd:(x==("__debug__":Str))=false:=by decide)
  (fS:(x==("__classdict__":Str))=false:=by decide):PX X (.Return (some (.Name x p')) pos) (Ac i):=by
 refine⟨_,xA (mf hN hv hd fS),fun ρ σ G0 H0 G H D E k h g=>?_⟩;unfold Ac at h;split at h
 ·rename_i o hg;obtain⟨own,o1,o2⟩:=k.on;obtain⟨a,fp,b1,b2,b3,b4⟩:=o2 i _ hg;exact⟨_,b1,g.rt _ H (.ov o) G k.e ⟨a,fp,rfl,b2,b3,fun q hq=>⟨(b4 q hq).2.1,(b4 q hq).1⟩⟩ h⟩
 ·exact h.elim
end
end L2
namespace L2
open PySem PySem.Spec PyProof.Rows
section
variable {K:PySem.W.Frag} {G H:Hp}
theorem bM.length:∀{qs:List Addr} {cf:List (List D)},bM K G H qs cf->qs.length=cf.length
 | [],[],_=>rfl
 | q::qs,ds::cf,h=>by
  simp only[bM] at h;simp only[aB,bM.length h.2]
 | [],_::_,h=>by simp only[bM] at h
 | _::_,[],h=>by simp only[bM] at h
theorem bM.snoc{p:Addr}{ds:List D}{zs:List V}:∀{qs:List Addr} {cf:List (List D)},bM K G H qs cf->H p=some (.lst zs)->bw K G zs ds->bM K G H (qs++[p]) (cf++[ds])
 | [],[],_,h1,h2=>by simp only[List.nil_append,bM];exact⟨⟨zs,h1,h2⟩,trivial⟩
 | q::qs,es::cf,h,h1,h2=>by
  simp only[bM] at h;simp only[List.cons_append,bM];exact⟨h.1,bM.snoc h.2 h1 h2⟩
 | [],_::_,h,_,_=>by simp only[bM] at h
 | _::_,[],h,_,_=>by simp only[bM] at h
theorem bM.get:∀{qs:List Addr} {cf:List (List D)} {j:Nat} {ds:List D},bM K G H qs cf->cf[j]?=some ds->∃q xs,qs[j]?=some q/\H q=some (.lst xs)/\bw K G xs ds
 | [],[],j,ds,_,e=>by simp at e
 | q::qs,es::cf,0,ds,h,e=>by
  simp only[bM] at h;simp only[List.getElem?_cons_zero,Option.some.injEq] at e;subst e;obtain⟨⟨xs,h1,h2⟩,_⟩:=h;exact⟨q,xs,rfl,h1,h2⟩
 | q::qs,es::cf,j+1,ds,h,e=>by
  simp only[bM] at h;simp only[List.getElem?_cons_succ] at e ⊢;exact bM.get h.2 e
 | [],_::_,_,_,h,_=>by simp only[bM] at h
 | _::_,[],_,_,h,_=>by simp only[bM] at h
theorem bM.set{q:Addr}{ys:List V}{es:List D}(hy:bw K G ys es):∀{qs:List Addr} {cf:List (List D)} {j:Nat},bM K G H qs cf->qs.Nodup->qs[j]?=some q->bM K G (upd H q (.lst ys)) qs (cf.set j es)
 | [],[],j,_,_,e=>by simp at e
 | r::qs,ds::cf,0,h,nd,e=>by
  simp only[bM] at h;simp only[List.getElem?_cons_zero,Option.some.injEq] at e;subst e;simp only[List.set_cons_zero,bM];refine⟨⟨ys,gP,hy⟩,h.2.mono (bL.refl _) fun p hp xs e=>?_⟩;rw[cR (fun z:p=r=>(aN.mp nd).1 (z▸hp))];exact e
 | r::qs,ds::cf,j+1,h,nd,e=>by
  simp only[bM] at h;simp only[List.getElem?_cons_succ] at e;simp only[List.set_cons_succ,bM];refine⟨?_,bM.set hy h.2 (aN.mp nd).2 e⟩;obtain⟨⟨xs,h1,h2⟩,_⟩:=h;refine⟨xs,?_,h2⟩;rw[cR (fun z:r=q=>(aN.mp nd).1 (z▸ah e))];exact h1
 | [],_::_,_,h,_,_=>by simp only[bM] at h
 | _::_,[],_,h,_,_=>by simp only[bM] at h
end
section
variable {X:Cx} {pos:Pos} {e i':Expr} {te ti:TD}
def vF(i:Nat)(ti te:TD):TX:=fun D ρ=>match gt ρ i with
 | .ov (.ll cf)=>ti ρ fun rk=>match rk.val with
  | .int k=>∃j ds,kY cf.length k=some j/\cf[j]?=some ds/\te ρ fun r=>ds.length<sizeLine/\D.nx (ρ.set i (.ov (.ll (cf.set j (ds++[r.val])))))
  | _=>False
 | _=>False
theorem HC(i:Nat){x:Str}{p1 p2 p3 pos':Pos}(hi:PD X i' ti)(he:PD X e te)(hN:X.N[i]?=some x:=by rfl)(hv:kO X.env.scope x:=by first | exact Or.inl rfl | exact Or.inr (Or.inl rfl) | exact Or.inr (Or.inr rfl))(hd:(x==("__debug__":Str))=false:=by decide)
  (fS:(x==("__classdict__":Str))=false:=by decide) (U0:AG i':=by intro _ _;rfl) (fA:starEach [e] X.env=(false,eval e X.env)::starEach [] X.env:=by rfl)
  (hb:∀{ta:TE} {t:TA},PE X (.Subscript (.Name x p1) i' p2) ta->PA X [e] t->PE X (.Call (.Attribute (.Subscript (.Name x p1) i' p2) "append" p3) [e] [] pos') (yL X.K "list" AF ta t):=by intro ta t h1 h2;exact xj PySem.F.plainAttrs_list PySem.F.slot_list_append PySem.F.type_list_append A7 h1 h2) :
  PX X (.Expr (.Call (.Attribute (.Subscript (.Name x p1) i' p2) "append" p3) [e] [] pos') pos) (vF i ti te):=by
 obtain⟨t,p,q⟩:=he;obtain⟨t2,yR,q2⟩:=hi;refine⟨_,vT (hb (Cn nV (mf hN hv hd fS) yR U0) (lp p nN fA)),fun ρ σ G0 H0 G H D E k h g=>?_⟩;unfold vF at h;split at h
 ·rename_i cf hg;obtain⟨own,o1,o2⟩:=k.on;obtain⟨a,fp,b1,b2,⟨ha,hr⟩,b4⟩:=o2 i _ hg;refine⟨_,b1,q2 ρ σ G0 H0 G H _ _ k h fun u H1 rk G1 x1 uN mw=>?_⟩;obtain⟨G2,x2,pG,_⟩:=uN.freeze x1;split at mw
  ·rename_i kk e1;obtain⟨j,ds,hj,ub,mw⟩:=mw;rw[e1] at pG;simp only[Rep] at pG;obtain⟨qa,xs,c1,c2,c3⟩:=hr.get ub;have rD:du (fp.map V.ref) kk=some (.ref qa):=by
    unfold du;rw[aa,hr.length,hj];simp[c1]
   refine⟨a,fp.map V.ref,kk,_,rfl,pG,eI.of (x2.h _ _ ha),rD,.inl ⟨rfl,xs,eI.of (x2.h _ _ c2)⟩,?_⟩;refine q ρ σ G0 H0 G2 H1 _ _ (k.ext x2) mw fun v H3 r G3 x3 qu eQ=>?_
   obtain⟨G4,x4,oS,_⟩:=qu.freeze x3;have kU:=x2.trans x4;refine⟨qa,xs,v,rfl,rfl,kU.h _ _ c2,by rw[c3.length];exact eQ.1,?_⟩;refine g.nx _ _ G4 _ kU.g ((k.ext kU).lH hg b1 fun lF nd ow=>?_) eQ.2;obtain⟨wI,nj⟩:=ow;have e3:lF=fp:=by
    have:=(kU.h _ _ ha).symm.trans wI;injection this with this
    injection this with this
    exact((List.map_inj_right fun a b h=>by cases h;rfl).mp this).symm
   subst e3;have oY:=aN.mp nd;refine⟨lF,nd,⟨?_,nj.set ((c3.mono kU.g).append (bw.cons oS bw.nil)) oY.2 c1⟩,fun q hq=>.inl hq,fun b hb _=>cR fun z=>hb (by rw[z];exact aA _ (ah c1))⟩;rw[cR (fun z:a=qa=>oY.1 (z▸ah c1))];exact wI
  ·exact mw.elim
 ·exact h.elim
end
end L2
namespace L2
open PySem PySem.Spec PyProof.Rows
noncomputable def Gn:R->Bool
 | .fz d=>mX d
 | .ow ds=>ds.all mX
 | .ov (.dc cq)=>cq.all fun p=>mX p.2
 | _=>false
def Aj(i:Nat)(te:TD):TD:=fun ρ Q=>te (ja i ρ) fun r=>Gn r=true/\Q r
theorem Du{K:PySem.W.Frag}{G G':Hp}:∀{vs:List V} {ds:List D},ds.all mX=true->bw K G vs ds->bw K G' vs ds
 | [],[],_,_=>bw.nil
 | v::vs,d::ds,h,r=>by
  simp only[bw] at r;rw[List.all_cons,Bool.and_eq_true] at h;exact bw.cons (xX h.1 r.1) (Du h.2 r.2)
 | [],_::_,_,r=>by simp only[bw] at r
 | _::_,[],_,r=>by simp only[bw] at r
theorem IE{K:PySem.W.Frag}{G G':Hp}:∀{ks:List (Key×V)} {cq:List (Key×D)},(cq.all fun p=>mX p.2)=true->dz K G ks cq->dz K G' ks cq
 | [],[],_,_=>dz.nil
 | v::vs,d::ds,h,r=>by
  simp only[dz] at r ⊢;rw[List.all_cons,Bool.and_eq_true] at h;exact⟨⟨r.1.1,xX h.1 r.1.2⟩,IE h.2 r.2⟩
 | [],_::_,_,r=>by simp only[dz] at r
 | _::_,[],_,r=>by simp only[dz] at r
theorem Np{K:PySem.W.Frag}{te:TD}{tt:TE}(i:Nat)(q:rG K te tt):rG K (Aj i te) tt:=by
 intro ρ σ G0 H0 G H Q P E h k;obtain⟨L,hL,E1,_⟩:=E.jR i;refine q _ σ G0 H0 _ H _ _ E1 h fun v H' r G' x rr hq=>?_
 have x2:=C9 hL x;refine k v H' r (oB G' L) x2 ?_ hq.2;have hs:=hq.1;cases r with
 | fz d=>exact xX hs rr
 | ow ds=>
  obtain⟨p,xs,rfl,c1,c2,c3,c4⟩:=rr;refine⟨p,xs,rfl,c1,?_,c3,Du hs c4⟩;unfold oB;split
  ·rfl
  ·exact c2
 | ov o=>
  cases o with
  | dc cq=>
   obtain⟨p,fp,rfl,c1,⟨rfl,ks,ep,c2,c3⟩,c4⟩:=rr;refine⟨p,[],rfl,c1,⟨rfl,ks,ep,c2,IE hs c3⟩,fun q hq=>⟨(c4 q hq).1,?_⟩⟩;unfold oB;split
   ·rfl
   ·exact(c4 q hq).2
  | ll=>cases hs
  | dl=>cases hs
  | tl=>cases hs
  | ld=>cases hs
  | dt=>cases hs
  | tp=>cases hs
  | ob=>cases hs
  | dq=>cases hs
section
variable {X:Cx} {elt iter tg:Expr} {ifs:List Expr} {scope:Scope} {pos:Pos} {N':List Str} {m:List (Option Nat)} {wi:kP} {g:jc} {tc:iR} {te:TD}
theorem Pg(j i:Nat){x:Str}{pos' i7:Pos}(hc:X.calm=true)(cs:bZ X N' m scope)(hk:px m g)(hi:PId X tg iter wi)(hg:∀s3 H3 ex,qL (lY X N' scope s3 H3 ex) tg g)(ht:∀s3 H3 ex,vw (lY X N' scope s3 H3 ex) ifs tc)
  (he:∀s3 H3 ex,PD (lY X N' scope s3 H3 ex) elt te) (hN:X.N.Nodup:=by assumption) (sL:X.N[i]?=some x:=by rfl) (hx:Loc X.env.scope x:=by first | exact Or.inl rfl | exact Or.inr rfl) (hs:∀x,foldedSetIterable iter X.env x=pure x:=by intro _;rfl)
  (pI:swapsWith (.ListComp elt [⟨tg,iter,ifs,0⟩] scope pos) (some (.Name x pos')) i7.line X.env=pure true:=by rfl)
  (hf:X.fn x=true\/X.env.scope.names.lookup x=some .local:=by first | exact .inl rfl | exact .inr rfl | assumption) :
  PX X (.Assign [.Name x pos'] (.ListComp elt [⟨tg,iter,ifs,0⟩] scope pos) i7) (je i (Aj j (eG wi m g tc te))):=by
 obtain⟨ww,p1,q1⟩:=hi;refine⟨_,C4 (g:=fun s3 H3 ex=>(hg s3 H3 ex).choose) (tc:=fun s3 H3 ex=>(ht s3 H3 ex).choose) (te:=fun s3 H3 ex=>(he s3 H3 ex).choose) hN sL hx hc cs p1 (fun s3 H3 ex=>(hg s3 H3 ex).choose_spec.1) (fun s3 H3 ex=>(ht s3 H3 ex).choose_spec.1) (fun s3 H3 ex=>(he s3 H3 ex).choose_spec.1) hs pI hf,fun ρ σ G0 H0 G H D E k h gg=>?_⟩;exact Np j (AB cs hk q1 (fun s3 H3 ex=>(hg s3 H3 ex).choose_spec.2) (fun s3 H3 ex=>(ht s3 H3 ex).choose_spec.2) (fun s3 H3 ex=>(he s3 H3 ex).choose_spec.2)) ρ σ G0 H0 G H _ _ k h fun v H' r G' x rr hq=>gg.nx _ _ G' H' x.g (k.put x rr) hq
end
end L2
namespace L2
open PySem PySem.Spec PyProof.Rows
section
variable {X:Cx} {pos:Pos} {e i':Expr} {te ti:TD}
noncomputable def pairsOf:List D->Option (List (Key×D))
 | []=>some []
 | .tup [k,v]::r=>match FT k with
  | some key=>(pairsOf r).map ((key,v)::·)
  | none=>none
 | _=>none
def Wb(j i:Nat)(ti:TD):TX:=fun D ρ=>match gt ρ i with
 | .ow ds=>ti ρ fun rk=>match rk.val with
  | .int k=>∃n d,-(2 ^ 63)<=k/\k<2 ^ 63/\kY ds.length k=some n/\ds[n]?=some d/\D.nx ((ρ.set i (.ow (ds.eraseIdx n))).set j (.fz d))
  | _=>False
 | _=>False
def zN(ta tb:TD):TD:=fun ρ Q=>ta ρ fun ra=>tb ρ fun rb=>match ra,rb.val with
 | .ow ds,.int k=>-(2 ^ 63)<=k/\k<2 ^ 63/\ds.length*k.toNat<=sizeLine/\Q (.ow (List.replicate k.toNat ds).flatten)
 | _,_=>False
theorem bw.rep{K:PySem.W.Frag}{H:Hp}{vs:List V}{ds:List D}(h:bw K H vs ds):∀k:Nat,bw K H (List.replicate k vs).flatten (List.replicate k ds).flatten
 | 0=>bw.nil
 | k+1=>by
  rw[List.replicate_succ,List.replicate_succ,List.flatten_cons,List.flatten_cons];exact h.append (bw.rep h k)
theorem MV{a b:Expr}{ta tb:TD}(ha:PD X a ta)(hb:PD X b tb):PD X (.BinOp a .Mult b pos) (zN ta tb):=by
 obtain⟨t1,p1,q1⟩:=ha;obtain⟨t2,p2,q2⟩:=hb;refine⟨_,Gi Mu p1 p2,fun ρ σ G0 H0 G H Q P E h k=>?_⟩;refine q1 ρ σ G0 H0 G H _ _ E h fun v H1 ra G1 x1 uN mw=>?_
 refine q2 ρ σ G0 H0 G1 H1 _ _ (E.ext x1) mw fun u H2 rb G2 x2 m8 iP=>?_
 obtain⟨G3,x3,mj,_⟩:=m8.freeze x2;split at iP
 ·rename_i ds kk e1;obtain⟨p,xs,rfl,c1,c2,c3,c4⟩:=uN;rw[e1] at mj;simp only[Rep] at mj;have nQ:=x1.trans x3;refine⟨p,kk,xs,rfl,mj,x3.h _ _ c3,iP.1,iP.2.1,by rw[c4.length];exact iP.2.2.1,fun l hl=>?_⟩;exact k _ _ (.ow _) G3 (nQ.trans (.own nQ.s hl)) ⟨l,_,rfl,nQ.h.free hl,nQ.s.free hl,gP,(c4.mono x3.g).rep kk.toNat⟩ iP.2.2.2
 ·exact iP.elim
end
end L2
namespace L2
open PySem PySem.Spec PyProof.Rows
end L2
namespace HT
open PySem PyProof.Rows
end HT
namespace L2
open PySem PySem.Spec PyProof.Rows
end L2
namespace HT
end HT
namespace L2
open PySem PySem.Spec PyProof.Rows
end L2
namespace L2
open PySem PySem.Spec PyProof.Rows
theorem Pf{G H0 H:Hp}{L:List Addr}{p:Addr}{xs:List V}(hs:bL G H)(hH:bL H0 H)(h0:∀q∈L,H0 q≠none)(hL:∀q∈L,∀xs,¬Rd H0 q (.tup xs))(h:G p=some (.tup xs)):oB G L p=some (.tup xs):=by
 have hp:p∉L:=fun hp=>by
  cases e:H0 p with
  | none=>exact h0 p hp e
  | some u=>
   have e2:=hH p u e;refine hL p hp xs ?_;left;have:=hs _ _ h;rw[e2] at this;rw[e,this]
 unfold oB;rw[if_neg hp];exact h
end L2
namespace L2
open PySem PySem.Spec PyProof.Rows
end L2
namespace Ts
open PySem PyProof.Rows
variable {M:Model} {A:Around} {E:Value->Shared->Prop} {s:Shared}
end Ts
namespace Ts
open PySem PyProof.Rows
variable {α:Type} (rk:α->Int)
variable {rk}
end Ts
namespace Ts
open PySem PyProof.Rows
variable {M:Model} {A:Around} {E:Value->Shared->Prop} {s:Shared}
def vt(rk:Keyed->Int)(l:List Keyed):Prop:=l.Pairwise fun x y=>rk x<=rk y
noncomputable abbrev dk:Keyed:=(Value.none,Value.none)
end Ts
namespace Ts
open PySem PyProof.Rows
end Ts
namespace Ts
open PySem PyProof.Rows
variable {M:Model} {A:Around} {E:Value->Shared->Prop} {s:Shared}
end Ts
namespace Ts
open PySem PyProof.Rows
variable {M:Model} {A:Around} {E:Value->Shared->Prop} {s:Shared}
end Ts
namespace Ts
open PySem PyProof.Rows
noncomputable def kr(rk:Keyed->Int)(xs:Array Keyed)(i:Nat):Int:=rk (xs.getD i dk)
variable {M:Model} {A:Around} {E:Value->Shared->Prop} {s:Shared}
end Ts
namespace Ts
open PySem PyProof.Rows
variable {M:Model} {A:Around} {E:Value->Shared->Prop} {s:Shared}
end Ts
namespace Ts
open PySem PyProof.Rows
variable {M:Model} {A:Around} {E:Value->Shared->Prop} {s:Shared}
end Ts
namespace Ts
open PySem PyProof.Rows
variable {M:Model} {A:Around} {E:Value->Shared->Prop} {s:Shared}
end Ts
namespace Ts
open PySem PySem.W PyProof.Rows
section
variable {n N:Nat} {r:Nat->Int} {cmp:Nat->Nat->(Bool->Shared->Prop)->Shared->Prop} {s:Shared} {p:Array Nat} {i j k m:Nat}
noncomputable def kp(r:Nat->Int)(p:Array Nat)(i:Nat):Int:=r (p.getD i 0)
def Pm(n:Nat)(p:Array Nat):Prop:=p.toList.Perm (List.range n)
def Up(r:Nat->Int)(p:Array Nat)(m:Nat):Prop:=∀i j,i<=j->j<m->kp r p i<=kp r p j
abbrev Dn(r:Nat->Int):Array Nat->Nat->Prop:=Up fun x=>-r x
abbrev Cm(n:Nat)(r:Nat->Int)(cmp:Nat->Nat->(Bool->Shared->Prop)->Shared->Prop)(s:Shared):Prop:=∀i j (C:Bool->Shared->Prop),i<n->j<n->C (decide (r i<r j)) s->cmp i j C s
theorem Pm.size(h:Pm n p):p.size=n:=by have:=h.length_eq;simpa using this
theorem Pm.lt(h:Pm n p)(hn:0<n)(i:Nat):p.getD i 0<n:=by
 by_cases hi:i<p.size
 ·have e:p.getD i 0=p[i]:=by simp[Array.getD,hi]
  rw[e];exact List.mem_range.mp (h.mem_iff.mp (by simp))
 ·have e:p.getD i 0=0:=by simp[Array.getD,hi]
  rw[e];exact hn
theorem Pm.to{q:Array Nat}(h:Pm n p)(k:q.Perm p):Pm n q:=(Array.perm_iff_toList_perm.mp k).trans h
theorem xW{q:Array Nat}(h:p[i]?=q[j]?):kp r p i=kp r q j:=by
 unfold kp;rw[Array.getD_eq_getD_getElem?,Array.getD_eq_getD_getElem?,h]
theorem lW:kp (fun x=>-r x) p i=-kp r p i:=rfl
theorem Up.more(u:Up r p m)(h1:1<=m)(h:kp r p (m-1)<=kp r p m):Up r p (m+1):=fun i j qC hj=>by
 by_cases e:j<m
 ·exact u i j qC e
 ·obtain rfl:j=m:=by omega
  by_cases e2:i=j
  ·subst e2;exact Int.le_refl _
  ·exact Int.le_trans (u i (j-1) (by omega) (by omega)) h
theorem Up.same{q:Array Nat}(u:Up r p m)(h:∀i,kp r q i=kp r p i):Up r q m:=fun i j a b=>by rw[h,h];exact u i j a b
theorem Cw(hj:j<=p.size)(k:Nat):kp r (kas_rev p i j) k=if i<=k/\k<j then kp r p (i+j-1-k) else kp r p k:=by
 have e:=getElem?_mirror_all (i:=i) hj k;by_cases h1:i<=k/\k<j
 ·rw[if_pos h1] at e ⊢;exact xW e
 ·rw[if_neg h1] at e ⊢;exact xW e
theorem Cv(hj:j<=p.size)(heq:∀k,i<=k->k<j->kp r p k=kp r p (j-1))(k:Nat):kp r (kas_rev p i j) k=kp r p k:=by
 rw[Cw hj];by_cases h:i<=k/\k<j
 ·rw[if_pos h,heq _ (by omega) (by omega),heq k h.1 h.2]
 ·rw[if_neg h]
theorem Up.turn(u:Dn r p m)(hm:m<=p.size):Up r (kas_rev p 0 m) m:=fun i j qC hj=>by
 rw[Cw hm,Cw hm,if_pos ⟨Nat.zero_le _,by omega⟩,if_pos ⟨Nat.zero_le _,hj⟩];have:=u (0+m-1-j) (0+m-1-i) (by omega) (by omega);rw[lW,lW] at this;omega
theorem Pm.rev(h:Pm n p):Pm n (kas_rev p i j):=h.to (mirror_perm _ _ _ _)
theorem Cu(hc:Cm n r cmp s)(hn:0<n)(hp:Pm n p){G:Nat->Shared->Prop}:∀k m,1<=m->m+k=N->Up r p m->(∀m',1<=m'->m'<=N->Up r p m'->(m'<N->kp r p m'<kp r p (m'-1))->G m' s)->(kas_asc p k m).kasWp cmp G s
 | 0,m,h1,e,u,g=>g m h1 (by omega) u (by omega)
 | k+1,m,h1,e,u,g=>by
  refine hc _ _ _ (hp.lt hn _) (hp.lt hn _) ?_;by_cases h:kp r p m<kp r p (m-1)
  ·rw[show decide (r (p.getD m 0)<r (p.getD (m-1) 0))=true from a9 h];exact g m h1 (by omega) u fun _=>h
  ·rw[show decide (r (p.getD m 0)<r (p.getD (m-1) 0))=false from aW h];exact Cu hc hn hp k (m+1) (by omega) (by omega) (u.more h1 (by omega)) g
theorem Ay(hc:Cm n r cmp s)(hn:0<n)(hN:N<=n){G:Array Nat×Nat×Nat->Shared->Prop}(g:∀p m q,Pm n p->1<=m->m<=N->Dn r p m->q<m->(∀t,t<=q->kp r p (m-1-t)=kp r p (m-1))->G (p,m,q) s) :
  ∀k p m q,Pm n p->1<=m->m+k=N->Dn r p m->q<m->(∀t,t<=q->kp r p (m-1-t)=kp r p (m-1))->(kas_desc k p m q).kasWp cmp G s
 | 0,p,m,q,hp,h1,e,d,hq,eq=>g p m q hp h1 (by omega) d hq eq
 | k+1,p,m,q,hp,h1,e,d,hq,eq=>by
  have kL:=hp.size;refine hc _ _ _ (hp.lt hn _) (hp.lt hn _) ?_;by_cases h:kp r p m<kp r p (m-1)
  ·rw[show decide (r (p.getD m 0)<r (p.getD (m-1) 0))=true from a9 h];simp only[if_true];by_cases c:q>0
   ·rw[if_pos c];have km:=Cv (r:=r) (p:=p) (i:=m-(q+1)) (j:=m) (by omega) fun x a b=>by
     have:=eq (m-1-x) (by omega);rwa [show m-1-(m-1-x)=x by omega] at this
    refine Ay hc hn hN g k _ (m+1) 0 hp.rev (by omega) (by omega) (Up.more (d.same fun x=>by rw[lW,lW,km]) h1 ?_) (by omega) fun t ht=>by rw[show t=0 by omega];rfl
    rw[lW,lW,km,km];omega
   ·rw[if_neg c];refine Ay hc hn hN g k _ (m+1) 0 hp (by omega) (by omega) (Up.more d h1 ?_) (by omega) fun t ht=>by rw[show t=0 by omega];rfl
    rw[lW,lW];omega
  ·rw[show decide (r (p.getD m 0)<r (p.getD (m-1) 0))=false from aW h];simp only[aR,if_false];refine hc _ _ _ (hp.lt hn _) (hp.lt hn _) ?_;by_cases h2:kp r p (m-1)<kp r p m
   ·rw[show decide (r (p.getD (m-1) 0)<r (p.getD m 0))=true from a9 h2];exact g p m q hp h1 (by omega) d hq eq
   ·rw[show decide (r (p.getD (m-1) 0)<r (p.getD m 0))=false from aW h2];refine Ay hc hn hN g k _ (m+1) (q+1) hp (by omega) (by omega) (Up.more d h1 ?_) (by omega) fun t ht=>?_
    ·rw[lW,lW];omega
    ·by_cases t0:t=0
     ·subst t0;rfl
     ·have:=eq (t-1) (by omega);rw[show m+1-1-t=m-1-(t-1) by omega,this,show m+1-1=m by omega];omega
section
variable {G:Nat×Array Nat->Shared->Prop} (g:∀m p,Pm n p->1<=m->m<=N->Up r p m->G (m,p) s)
include g
theorem Iz(hc:Cm n r cmp s)(hn:0<n)(hN:N<=n)(hp:Pm n p)(h1:1<=m)(hm:m<=N)(d:Dn r p m):(kas_tail3 m N p).kasWp cmp G s:=by
 unfold kas_tail3;rw[KasT.kasWp_bind];exact Cu (N:=N) hc hn hp.rev (N-m) m h1 (by omega) (Up.turn d (by rw[hp.size];omega)) fun m' a b u _=>g m' _ hp.rev a b u
theorem Jv(hc:Cm n r cmp s)(hn:0<n)(hN:N<=n)(hp:Pm n p)(hm:m+1<=N)(d:Dn r p (m+1)):(kas_descPart m N p).kasWp cmp G s:=by
 unfold kas_descPart;rw[KasT.kasWp_bind];refine Ay hc hn hN (fun p m q hp h1 hm d hq eq=>?_) (N-(m+1)) p (m+1) 0 hp (by omega) (by omega) d (by omega) fun t ht=>by rw[show t=0 by omega];rfl
 have kL:=hp.size;dsimp only;by_cases c:q>0
 ·rw[if_pos c];have km:=Cv (r:=r) (p:=p) (i:=m-(q+1)) (j:=m) (by omega) fun x a b=>by
   have:=eq (m-1-x) (by omega);rwa [show m-1-(m-1-x)=x by omega] at this
  exact Iz g hc hn hN hp.rev h1 hm (d.same fun x=>by rw[lW,lW,km])
 ·rw[if_neg c];exact Iz g hc hn hN hp h1 hm d
theorem Pe(hc:Cm n r cmp s)(hn:0<n)(hN:N<=n)(h1:1<=N)(hp:Pm n p):(kas_count N p).kasWp cmp G s:=by
 unfold kas_count;rw[KasT.kasWp_bind];refine Cu (N:=N) hc hn hp (N-1) 1 (az _) (by omega) (fun i j a b=>by rw[show i=j by omega];exact Int.le_refl _) fun m a b u hd=>?_
 by_cases e:m=N
 ·rw[if_pos (by simpa using e)];exact g m p hp a b u
 rw[if_neg (by simpa using e)];have WB:=hd (by omega);have kL:=hp.size;by_cases c:m>1
 ·rw[if_pos c];refine hc _ _ _ (hp.lt hn _) (hp.lt hn _) ?_;by_cases h:kp r p 0<kp r p (m-1)
  ·rw[show decide (r (p.getD 0 0)<r (p.getD (m-1) 0))=true from a9 h];exact g m p hp a b u
  ·rw[show decide (r (p.getD 0 0)<r (p.getD (m-1) 0))=false from aW h];have same:∀x,0<=x->x<m->kp r p x=kp r p (m-1):=fun x _ hx=>by
    have:=u 0 x (Nat.zero_le _) hx;have:=u x (m-1) (by omega) (by omega);omega
   have km:=Cv (r:=r) (p:=p) (i:=0) (j:=m) (by omega) same;refine Jv g hc hn hN hp.rev (by omega) (Up.more (fun i j qC hj=>?_) a ?_)
   ·rw[lW,lW,km,km,same i (Nat.zero_le _) (by omega),same j (Nat.zero_le _) hj];exact Int.le_refl _
   ·rw[lW,lW,km,km];omega
 ·rw[if_neg c];obtain rfl:m=1:=by omega
  refine Jv g hc hn hN hp (by omega) (Up.more (fun i j qC hj=>by rw[show i=j by omega];exact Int.le_refl _) (az _) ?_);rw[lW,lW];omega
end
theorem C8(hc:Cm n r cmp s)(hn:0<n)(hp:Pm n p)(u:Up r p k){G:Nat->Shared->Prop}(g:∀l,l<=k->(∀i,i<l->kp r p i<=kp r p k)->(∀i,l<=i->i<k->kp r p k<kp r p i)->G l s) :
  ∀f l h,l<=h->h<=k->h-l<=f->(∀i,i<l->kp r p i<=kp r p k)->(∀i,h<=i->i<k->kp r p k<kp r p i)->(kas_place p k f l h).kasWp cmp G s
 | 0,l,h,a,b,c,lo,hi=>g l (by omega) lo fun i x y=>hi i (by omega) y
 | f+1,l,h,a,b,c,lo,hi=>by
  unfold kas_place;by_cases e:l>=h
  ·rw[if_pos e];exact g l (by omega) lo fun i x y=>hi i (by omega) y
  ·rw[if_neg e];refine hc _ _ _ (hp.lt hn _) (hp.lt hn _) ?_;by_cases q:kp r p k<kp r p ((l+h)/2)
   ·rw[show decide (r (p.getD k 0)<r (p.getD ((l+h)/2) 0))=true from a9 q];exact C8 hc hn hp u g f l _ (by omega) (by omega) (by omega) lo fun i x y=>Int.lt_of_lt_of_le q (u _ i x y)
   ·rw[show decide (r (p.getD k 0)<r (p.getD ((l+h)/2) 0))=false from aW q];exact C8 hc hn hp u g f _ h (by omega) b (by omega) (fun i x=>Int.le_trans (u i _ (by omega) (by omega)) (Int.not_lt.mp q)) hi
theorem GH(hc:Cm n r cmp s)(hn:0<n){G:Array Nat->Shared->Prop}(g:∀p,Pm n p->Up r p n->G p s):∀f p k,Pm n p->k+f=n->Up r p k->(kas_bin f p k).kasWp cmp G s
 | 0,p,k,hp,e,u=>g p hp (by rwa [show n=k by omega])
 | f+1,p,k,hp,e,u=>by
  unfold kas_bin;rw[KasT.kasWp_bind];refine C8 hc hn hp u (fun l hl lo hi=>?_) k 0 k (Nat.zero_le _) (az _) (by omega) (fun i h=>by omega) fun i h h'=>by omega
  have hb:∀i,kp r (bubble p k (k-l)) i=if i=l then kp r p k else if l<i/\i<=k then kp r p (i-1) else kp r p i:=fun i=>by
   have e:=getElem?_bubble (xs:=p) (src:=k) (by rw[hp.size];omega) (k-l) (by omega) i;rw[show k-(k-l)=l by omega] at e;by_cases c1:i=l
   ·rw[if_pos c1] at e ⊢;exact xW e
   ·rw[if_neg c1] at e ⊢;by_cases c2:l<i/\i<=k
    ·rw[if_pos c2] at e ⊢;exact xW e
    ·rw[if_neg c2] at e ⊢;exact xW e
  refine GH hc hn g f _ (k+1) (hp.to (bubble_perm _ _ _)) (by omega) fun i j qC hj=>?_
  rw[hb,hb];by_cases c1:i=l
  ·rw[if_pos c1];by_cases c2:j=l
   ·rw[if_pos c2];exact Int.le_refl _
   ·rw[if_neg c2,if_pos (by omega)];exact Int.le_of_lt (hi _ (by omega) (by omega))
  ·rw[if_neg c1];by_cases c3:l<i/\i<=k
   ·rw[if_pos c3,if_neg (by omega),if_pos (by omega)];exact u _ _ (by omega) (by omega)
   ·rw[if_neg c3];by_cases c2:j=l
    ·rw[if_pos c2];exact lo i (by omega)
    ·rw[if_neg c2];by_cases c4:l<j/\j<=k
     ·rw[if_pos c4];exact u _ _ (by omega) (by omega)
     ·rw[if_neg c4];exact u _ _ qC (by omega)
theorem Nm(hc:Cm n r cmp s)(hn:0<n){G:Array Nat->Shared->Prop}(g:∀p,Pm n p->Up r p n->G p s):(kas_sort n).kasWp cmp G s:=by
 unfold kas_sort;rw[KasT.kasWp_bind];refine Pe (fun m p hp a b u=>?_) hc hn (az n) hn (show Pm n _ by unfold Pm;simp);dsimp only;by_cases e:m<n
 ·rw[if_pos e,show max m 1=m by omega];exact GH hc hn g _ p m hp (by omega) u
 ·rw[if_neg e];exact g p hp (by rwa [show n=m by omega])
end
end Ts
namespace Ts
open PySem PyProof.Rows
section
variable {prog:Program} {w:World} {A:Around} {E:Value->Shared->Prop} {s:Shared}
structure Ky (prog:Program) (w:World) (A:Around) (s:Shared) (κ:SortKind) (ok:Keyed->Prop) (rk:Keyed->Int):Prop where
 key:∀x y (C:Bool->Shared->Prop),ok x->ok y->C (decide (rk x<rk y)) s->wpAny (model prog w) A (keyLt' κ x.1 y.1) C (fun _ _=>False) s
def Ct(n:Nat):Prop:=∀{prog:Program} {w:World} {A:Around} {E:Value->Shared->Prop} {s:Shared} {κ:SortKind} {rk:Keyed->Int} {it:Array Keyed} (R:Ky prog w A s κ (fun x=>x∈it) rk) {Q:Unit->SortSt->Prop},it.size=n->
 (∀gm,(arrOf gm).toList.Perm it.toList->vt rk (arrOf gm).toList->failedOf gm=none->Q () gm)->wpS (model prog w) A E s sortRuns' Q (SortSt.mk' κ it #[] 7 none)
structure Ask (prog:Program) (w:World) (A:Around) (E:Value->Shared->Prop) (vs:List Value) (rk:Keyed->Int) (s:Shared):Prop where
 ask:2<=vs.length->∃κ,(∀Q':SortKind->Shared->Prop,Q' κ s->wpAny (model prog w) A (keyKind' vs.toArray) Q' E s)/\Ky prog w A s κ (fun x=>x∈pairsOf vs) rk
theorem PJ{rk:Keyed->Int}{l:List Keyed}(h:l.length<2):vt rk l:=by
 cases l with
 | nil=>exact .nil
 | cons a r=>
  cases r with
  | nil=>exact List.pairwise_singleton _ _
  | cons b t=>
   simp only[aB] at h;omega
theorem Rf{a:Addr}{vs:List Value}{n:Nat}{P:Fin->Shared->Prop}{rk:Keyed->Int}(ho:s.heap.get? a=some (seqObj "list" vs.toArray n))(hl:vs.length<=sizeLine)(hr:2<=vs.length->Ct vs.length)
  (R:∀h',(∀b o,b≠a->s.heap.get? b=some o->h'.get? b=some o)->Ask prog w A E vs rk { s with heap:=h' })
  (h:∀gm:SortSt,(arrOf gm).toList.Perm (pairsOf vs).toList->vt rk (arrOf gm).toList->P (.done (.ret .none)) { s with heap:=sortedHeap s.heap a vs ((arrOf gm).map (·.2)) }) :
  wpAny (model prog w) A (Builtin.«list.sort» ⟨[.ref a],[]⟩) P E s:=by
 rw[list_sort_plain];have ha:a<s.heap.objs.size:=ax ho;refine ae (listItems_at ho rfl ?_);refine ae (listUpdate_at ho rfl ?_ (by simpa using hl) (Nat.zero_le _));obtain⟨e1,Kc⟩:∃e1,(s.heap.update a (Obj.mapSeq fun _=>#[])).get? a=some (seqObj "list" #[] e1):=⟨_,get?_update_seq ho (fun _=>#[])⟩
 refine ae (seqEpoch_at Kc rfl ?_);refine ae (wpAny_newTuple ?_ (by show vs.length<=_;exact hl));refine ae (wpAny_newList ?_ (Nat.zero_le _));refine ba ?_;have BE:(((s.heap.update a (Obj.mapSeq fun _=>#[])).push (seqObj "tuple" vs.toArray 0)).push (seqObj "list" #[] 0)).get? a=some (seqObj "list" #[] e1):=by
  rw[Heap.get?_push_ne _ _ _ (by rw[size_push',Heap.size_update];exact aI (Nat.lt_succ_of_lt ha)),Heap.get?_push_ne _ _ _ (by rw[Heap.size_update];exact aI ha)];exact Kc
 have ak:=R (((s.heap.update a (Obj.mapSeq fun _=>#[])).push (seqObj "tuple" vs.toArray 0)).push (seqObj "list" #[] 0)) (fun b o hb e=>av _ (av _ ((Heap.get?_update_other _ _ (Ne.symm hb)).trans e)));show wpAny (model prog w) A _ P E { s with heap:=((s.heap.update a (Obj.mapSeq fun _=>#[])).push (seqObj "tuple" vs.toArray 0)).push (seqObj "list" #[] 0) };dsimp only;have kL:vs.toArray.size=vs.length:=by simp
 have fin:=h;by_cases h2:vs.toArray.size<2
 ·rw[if_pos h2,if_pos h2];refine ae (ar ?_);rw[StateT.run_pure];refine ae (ar ?_);dsimp only;refine ae (seqEpoch_at BE rfl ?_);refine ae (listUpdate_at BE rfl ?_ (Nat.zero_le _) (by rw[Array.size_map];show(pairsOf vs).size<=_;rw[pairsOf_size];exact Nat.le_succ_of_le hl));simp only[bne_self_eq_false,aR,if_false];refine ar (fin (SortSt.mk' general' (vs.toArray.zip vs.toArray) #[] 7 none) (List.Perm.refl _) ?_);show vt rk (pairsOf vs).toList;exact PJ (by rw[aO,pairsOf_size];omega)
 ·rw[if_neg h2,if_neg h2];obtain⟨κ,ka,kr⟩:=ak.ask (by omega);refine ae (ka _ ?_)
  refine ae (wpAny_mono (hr (by omega) kr
   (Q:=fun _ gm=>(arrOf gm).toList.Perm (pairsOf vs).toList/\vt rk (arrOf gm).toList/\failedOf gm=none) (pairsOf_size vs) fun gm a1 a2 a3=>⟨a1,a2,a3⟩) ?_ fun _ _ e=>e)
  rintro⟨⟨⟩,gm⟩ s' ⟨rfl,hp,hs,hf⟩;dsimp only;refine ae (seqEpoch_at BE rfl ?_)
  refine ae (listUpdate_at BE rfl ?_ (Nat.zero_le _) (by
   rw[Array.size_map,<-aO,hp.length_eq,aO,pairsOf_size];exact Nat.le_succ_of_le hl))
  rw[hf];simp only[bne_self_eq_false,aR,if_false];exact ar (fin gm hp hs)
theorem qo{l:Addr}{vs:List Value}{Q:Value->Shared->Prop}{rk:Keyed->Int}(hl:s.heap.IsList l vs.toArray)(hz:vs.length<=sizeLine)(hr:2<=vs.length->Ct vs.length)
  (R:∀h',(∀b o,s.heap.get? b=some o->h'.get? b=some o)->Ask prog w A.in1.in1 E vs rk { s with heap:=h' })
  (h:∀gm:SortSt,(arrOf gm).toList.Perm (pairsOf vs).toList->vt rk (arrOf gm).toList->Q (.ref (s.heap.objs.size+1)) { s with heap:=sortedAll s.heap vs ((arrOf gm).map (·.2)) }) :
  wpAny (model prog w) A (call (.builtin "sorted") [.ref l]) Q E s:=by
 refine Calls.call_function_entry kind_sorted plain_sorted entry_sorted (args_sorted1 _) ?_;unfold Builtin.«sorted»;refine ae (m:=checkCount "sorted" 1 1 _) (ar ?_);refine ae (collect_list hl ?_ hz);refine ae (wpAny_newList ?_ hz);have kL:((s.heap.push (seqObj "list" #[] 0)).update s.heap.objs.size (Obj.mapSeq (·++vs.toArray))).objs.size=s.heap.objs.size+1:=by
  rw[Heap.size_update,size_push']
 have vb:(((s.heap.push (seqObj "list" #[] 0)).update s.heap.objs.size (Obj.mapSeq (·++vs.toArray))).push (seqObj "list" vs.toArray 0)).get? (s.heap.objs.size+1)=some (seqObj "list" vs.toArray 0):=by
  rw[<-kL];exact aP _ rfl
 have keep:∀b o,s.heap.get? b=some o->(((s.heap.push (seqObj "list" #[] 0)).update s.heap.objs.size (Obj.mapSeq (·++vs.toArray))).push (seqObj "list" vs.toArray 0)).get? b=some o:=fun b o q=>by
  have iQ:b<s.heap.objs.size:=ax q;rw[Heap.get?_push_ne _ _ _ (by rw[kL];exact aI (Nat.lt_succ_of_lt iQ)),Heap.get?_update_ne _ _ _ _ (aI iQ),Heap.get?_push_ne _ _ _ (aI iQ)];exact q
 show wpAny _ _ _ _ _ { s with heap:=((s.heap.push (seqObj "list" #[] 0)).update s.heap.objs.size (Obj.mapSeq (·++vs.toArray))).push (seqObj "list" vs.toArray 0) };rw[kL];refine ae (ba (wpAny_call_entry slot_list_sort ⟨_,vb,rfl⟩ entry_list_sort (Rf (rk:=rk) vb hz hr (fun h' k=>R h' fun b o e=>k b o (aI (Nat.lt_succ_of_lt (ax e))) (keep b o e)) fun gm a1 a2=>⟨_,rfl,?_⟩) (args_list_sort _)));exact ar ⟨_,rfl,h gm a1 a2⟩
end
end Ts
namespace HT
end HT
namespace Ts
open PySem PySem.W PyProof.Rows
end Ts
namespace Ts
open PySem PySem.W PyProof.Rows
theorem sr{n:Nat}(h1:2<=n)(Ft:n<64):Ct n:=by
 intro prog w A E s κ rk it R Q hn q;have mem:∀i,i<n->kas_item it i∈it:=fun i hi=>by
  have e:kas_item it i=it[i]:=by unfold kas_item;simp[Array.getD,hn,hi]
  rw[e];exact Array.getElem_mem _
 have hit:(List.toArray (List.range n)).map (kas_item it)=it:=by rw[<-hn];exact kas_range it
 have hl:(List.range n).map (kas_item it)=it.toList:=by
  have:=congrArg Array.toList hit;simpa using this
 have:=kas_runs (prog:=prog) (w:=w) (A:=A) (E:=E) (κ:=κ) (it:=it) (Q:=fun u st s'=>s'=s/\Q u st) (G:=fun p s'=>s'=s/\Pm n p/\Up (fun i=>rk (kas_item it i)) p n) (s:=s) h1 Ft (fun p st s' hz ha hf ⟨e,hp,hu⟩=>⟨e,?_⟩)
  (Nm (r:=fun i=>rk (kas_item it i)) (fun i j C hi hj hC=>R.key _ _ C (mem i hi) (mem j hj) hC) (by omega) fun p hp hu=>⟨rfl,hp,hu⟩)
 ·unfold kas_st at this;rw[hit] at this;exact this
 ·refine q st ?_ ?_ hf
  ·rw[ha,Array.toList_map,<-hl];exact hp.map _
  ·rw[ha,Array.toList_map];refine List.pairwise_iff_getElem.mpr fun i j hi hj qC=>?_
   have oZ:i<p.size:=by simpa using hi
   have EZ:j<p.size:=by simpa using hj
   have:=hu i j (by omega) (by omega);unfold kp at this;simp only[Array.getD,oZ,EZ,dif_pos] at this;simpa using this
end Ts
namespace L2
open PySem PySem.Spec PyProof.Rows
theorem PH{α β:Type}{f:α->β}{a b:List β}(h:a.Perm b):∀{L:List α},b=L.map f->∃L':List α,L'.Perm L/\a=L'.map f:=by
 induction h with
 | nil=>intro L e;exact⟨[],by rw[show L=[] from by simpa using e.symm],rfl⟩
 | cons x h ih=>
  intro L e;cases L with
  | nil=>cases e
  | cons y L=>
   rw[aj] at e;injection e with e1 e2
   obtain⟨L',h1,h2⟩:=ih e2;exact⟨y::L',h1.cons y,by rw[aj,e1,h2]⟩
 | swap x y l=>
  intro L e;match L,e with
  | [],e=>cases e
  | [_],e=>cases e
  | u::v::L,e=>
   simp only[aj,List.cons.injEq] at e;exact⟨v::u::L,List.Perm.swap u v L,by simp[e]⟩
 | trans h1 h2 UG UE=>
  intro L e;obtain⟨L2,a1,a2⟩:=UE e;obtain⟨L3,b1,b2⟩:=UG a2;exact⟨L3,b1.trans a1,b2⟩
section
variable {X:Cx} {pos:Pos} {e:Expr} {te:TD}
theorem He{α:Type}{f:α->V}{g:α->Value}:∀{L:List α},(∀q∈L,RelV (f q) (g q))->Vals (L.map f) (L.map g)
 | [],_=>.nil
 | q::L,h=>.cons (h q List.mem_cons_self) (He fun x hx=>h x (aA _ hx))
theorem Hc{α:Type}{K:PySem.W.Frag}{G:Hp}{f:α->V}{g:α->D}:∀{L:List α},(∀q∈L,Rep K G (f q) (g q))->bw K G (L.map f) (L.map g)
 | [],_=>bw.nil
 | q::L,h=>bw.cons (h q List.mem_cons_self) (Hc fun x hx=>h x (aA _ hx))
end
end L2
namespace L2
open PySem PySem.Spec PyProof.Rows
end L2
namespace L2
open PySem PySem.Spec PyProof.Rows
end L2
namespace L2
open PySem PySem.Spec PyProof.Rows
end L2
namespace PySem
open Sem (wp)
end PySem
namespace PySem
open Sem (wp)
end PySem
namespace L2
open PySem PySem.Spec PyProof.Rows
end L2
namespace L2
open PySem PySem.Spec PyProof.Rows
end L2
namespace L2
open PySem PySem.Spec PyProof.Rows
section
variable {K:PySem.W.Frag} {G0 H0 G H G' H' G2 H2:Hp} {ρ:Ev} {σ:St} {v:V}
theorem cP.unset{i:Nat}{u:Option V}(E:cP K G0 H0 ρ σ G H):cP K G0 H0 (ρ.set i .un) (σ.set i u) G H:=by
 have gs:∀j s,gt (ρ.set i .un) j=s->s≠.un->i≠j/\gt ρ j=s:=fun j s e hs=>by
  rw[tJ] at e;by_cases h:i=j/\j<ρ.length
  ·rw[if_pos h] at e;exact absurd e.symm hs
  ·rw[if_neg h] at e;exact⟨fun z=>h ⟨z,vK e hs⟩,e⟩
 have ss:∀j,i≠j->(σ.set i u)[j]?=σ[j]?:=fun j h=>by rw[List.getElem?_set,if_neg h]
 obtain⟨own,o1,o2⟩:=E.on;refine⟨E.e,by simp[E.len],fun j d h=>?_,fun j ds h=>?_,fun j k ds es nq h1 h2=>?_,own,fun j ds p h hp=>?_,fun j o h=>?_⟩
 ·obtain⟨n,h⟩:=gs j _ h (by simp);rw[ss j n];exact E.fz j d h
 ·obtain⟨n,h⟩:=gs j _ h (by simp);rw[ss j n];exact E.ow j ds h
 ·obtain⟨n,h1⟩:=gs j _ h1 (by simp);obtain⟨n2,h2⟩:=gs k _ h2 (by simp);rw[ss j n,ss k n2];exact E.dj j k ds es nq h1 h2
 ·obtain⟨n,h⟩:=gs j _ h (by simp);rw[ss j n] at hp;exact o1 j ds p h hp
 ·obtain⟨n,h⟩:=gs j _ h (by simp);rw[ss j n];exact o2 j o h
end
section
variable {X:Cx} {pos:Pos} {scope:Scope} {N':List Str} {m:List (Option Nat)}
def V8(iF iS iN:Nat)(m:List (Option Nat))(tc Ea:iR)(ta:TX):TX:=fun D ρ=>iF<ρ.length/\iF≠iS/\iF≠iN/\match gt ρ iS,gt ρ iN with
 | .ov (.ll cf),.fz d=>cf.length<=sizeLine/\∃f:List L2.D->Bool,(∀ds∈cf,tc ((jD m (ρ.set iS (.fz (.lst (cf.map .lst))))).set 0 (.fz (.lst ds))) fun b=>b=f ds)/\
   Ea ((ρ.set iS (.fz (.lst (cf.map .lst)))).set iF (.ow ((cf.filter f).map .lst))) (fun b=>b=true↔cf.filter f=[])/\
   (cf.findIdx? f=none->ta D (ρ.set iF .un))/\
   ∀j ds,cf.findIdx? f=some j->cf[j]?=some ds->ds.length<sizeLine/\D.nx ((ρ.set iF .un).set iS (.ov (.ll (cf.set j (ds++[d])))))
 | _,_=>False
def xf(i:Nat)(te:TD):TX:=fun D ρ=>match gt ρ i with
 | .ov (.ll cf)=>te ρ fun r=>match r with
  | .ow ds=>cf.length<sizeLine/\D.nx (ρ.set i (.ov (.ll (cf++[ds]))))
  | _=>False
 | _=>False
theorem Hb(i:Nat){x:Str}{e:Expr}{te:TD}{p1 p2 pos':Pos}(he:PD X e te)(hN:X.N[i]?=some x:=by rfl)(hv:kO X.env.scope x:=by first | exact Or.inl rfl | exact Or.inr (Or.inl rfl) | exact Or.inr (Or.inr rfl))(hd:(x==("__debug__":Str))=false:=by decide)
  (fS:(x==("__classdict__":Str))=false:=by decide) (fA:starEach [e] X.env=(false,eval e X.env)::starEach [] X.env:=by rfl)
  (hb:∀{ta:TE} {t:TA},PE X (.Name x p1) ta->PA X [e] t->PE X (.Call (.Attribute (.Name x p1) "append" p2) [e] [] pos') (yL X.K "list" AF ta t):=by intro ta t h1 h2;exact xj PySem.F.plainAttrs_list PySem.F.slot_list_append PySem.F.type_list_append A7 h1 h2) :
  PX X (.Expr (.Call (.Attribute (.Name x p1) "append" p2) [e] [] pos') pos) (xf i te):=by
 obtain⟨t,p,q⟩:=he;refine⟨_,vT (hb (mf hN hv hd fS) (lp p nN fA)),fun ρ σ G0 H0 G H D E k h g=>?_⟩;unfold xf at h;split at h
 ·rename_i cf hg;obtain⟨own,o1,o2⟩:=k.on;obtain⟨a,fp,b1,b2,⟨ha,hr⟩,b4⟩:=o2 i _ hg;refine⟨_,b1,.inl ⟨rfl,_,eI.of ha⟩,?_⟩;refine q ρ σ G0 H0 G H _ _ k h fun v H' r G' x1 rr hq=>?_
  split at hq
  ·rename_i ds;obtain⟨qn,xs,rfl,c1,c2,c3,c4⟩:=rr;have zj:qn≠a:=fun z=>by rw[z,ha] at c1;cases c1
   refine⟨a,fp.map V.ref,.ref qn,rfl,rfl,x1.h _ _ ha,by rw[aa,hr.length];exact hq.1,?_⟩;let H2:Hp:=fun b=>if b=qn then none else H' b
   have vk:∀b,b≠qn->H2 b=H' b:=fun b h=>if_neg h
   have x2:Ext G H G' H2:=⟨x1.g,fun b u e=>by rw[vk b (iM e c1)];exact x1.h b u e,fun b u e=>by rw[vk b (iM e c2)];exact x1.s b u e,x1.n⟩
   refine g.nx _ _ G' _ x1.g ((k.ext x2).lH hg b1 fun lF nd ow=>?_) hq.2;obtain⟨wI,nj⟩:=ow;have e3:lF=fp:=by
    have:=(x2.h _ _ ha).symm.trans wI;injection this with this
    injection this with this
    exact((List.map_inj_right fun a b h=>by cases h;rfl).mp this).symm
   subst e3;have oY:=aN.mp nd;have ES:qn∉lF:=fun z=>hr.here qn z c1
   refine⟨lF++[qn],?_,⟨by rw[gP];simp,bM.snoc (hr.mono x1.g fun q hq zs e=>?_) (by rw[cR zj];exact c3) c4⟩,fun q hq=>?_,fun b hb uf=>?_⟩
   ·rw[aN,List.nodup_append];refine⟨fun z=>?_,oY.2,by simp,fun u hu w hw=>?_⟩
    ·rcases au.mp z with z | z
     ·exact oY.1 z
     ·simp at z;exact zj z.symm
    ·simp at hw;subst hw;exact fun z=>ES (z▸hu)
   ·rw[cR (fun z:q=a=>oY.1 (z▸hq))];exact x1.h _ _ e
   ·rcases af.mp hq with rfl | hq
    ·exact .inl (by simp)
    ·rcases au.mp hq with hq | hq
     ·exact .inl (by simp[hq])
     ·simp at hq;subst hq;exact .inr (if_pos rfl)
   ·have Fo:b≠qn:=fun z=>uf (by rw[z];exact if_pos rfl)
    rw[cR (fun z=>hb (by simp[z])),vk b Fo]
  ·exact hq.elim
 ·exact h.elim
end
end L2
namespace PySem
open Sem (wp)
end PySem
namespace L2
open PySem PySem.Spec PyProof.Rows
end L2
namespace L2
open PySem PySem.Spec PyProof.Rows
end L2
namespace PySem
open Sem (wp)
end PySem
namespace L2
open PySem PySem.Spec PyProof.Rows
end L2
namespace L2
open PySem
end L2
namespace L2
namespace SI
open PySem PySem.Spec PyProof.Rows
end SI
end L2
namespace L2
open PySem PySem.Spec PyProof.Rows
namespace SI
end SI
end L2
namespace L2
open PySem PySem.Spec PyProof.Rows
end L2
namespace L2
open PySem PySem.Spec PyProof.Rows
section
variable {P:Program} {w:World} {K:PySem.W.Frag} {mg:Str->Option Value} {base:Heap}
theorem jW{x:Str}{st:Stmt}{N ps:List Str}{t:eO}{T:TX}{n d:Nat}(k:Nat)(A:At K mg x st)(S:bF N ps (bz st))
  (body:∀(f:Addr) (cg:Value) (A:Around) (outer:List Env) (s:Shared) (H:Hp) (E:XK),cV k (A.deeper (envOfC x (bz st) s.heap.objs.size f cg))->ou (mR mV P w K mg base N x (bz st) f cg A outer s H E).sv (cC st) T)
  (spec:∀(ds:List D) (Qr:R->Prop),ds.length=n->t ds Qr->T { nx:=fun _=>Qr (.fz .non),rt:=Qr } (kD N ds))
  (b:∀(kV doc pm:Value) (an:Option Addr) (cg ct:Value) (us:List Value),us.length=n->bindArgs (PySem.W.fnOf x x (eR st) (cC st) (bz st) .none kV doc pm an cg ct) ⟨us,[]⟩=pure (ps.zip us)) (hn:ps.length=n:=by rfl) (hd:k+1=d:=by rfl):Known P w K mg base d x n t:=by
 subst hn hd;obtain⟨f,fd,F,hm⟩:=A.ex;exact⟨f,fd,ps,Hz F S (body f) spec,hm,F.kp,F.binds b⟩
end
end L2
namespace L2
open PySem PySem.Spec PyProof.Rows
end L2
namespace L2
open PySem PySem.Spec PyProof.Rows
section
variable {X:Cx}
noncomputable def cY(i:Int):Str:=Str.ofString (toString i)
theorem PF:df X (.type "str") (fun xs H Q=>∃i:Int,xs=[.int i]/\i.natAbs<1000000000/\Q (.str (cY i)) H):=by
 intro pins s σ H xs us Q I r h;obtain⟨i,rfl,hi,q⟩:=h;obtain⟨u,rfl,t,rfl⟩:=lh r;refine PySem.P.str_of_int ?_ ⟨.str (cY i),H,I.tok _,⟨_,rfl⟩,q⟩;by_cases h0:i.natAbs=0
 ·rw[h0];decide
 ·have:i.natAbs.log2<30:=by rw[Nat.log2_lt h0];omega
  omega
def tu:eO:=fun ds Q=>match ds with
 | [.int i]=>i.natAbs<1000000000/\Q (.fz (.str (cY i)))
 | _=>False
theorem xo:oJ X (.type "str") tu:=by
 refine⟨_,PF,fun G H vs ds Q P s rs h k=>?_⟩;unfold tu at h;split at h
 ·obtain⟨v,rfl,rv⟩:=jV rs;simp only[Rep] at rv;subst rv;exact⟨_,rfl,h.1,k _ _ _ G (.refl s) (eN (by simp only[Rep])) h.2⟩
 ·exact h.elim
end
end L2
namespace Ts
open PySem PySem.W PyProof.Rows
section
variable {prog:Program} {w:World} {A:Around} {E:Value->Shared->Prop} {s:Shared}
noncomputable def jm(h:Heap)(v:Value):Int×Str:=match v with
 | .ref a=>match h.get? a with
  | some o=>match o.data with
   | .seq xs _=>match xs.toList with
    | [.int i _,.str x _]=>(i,x)
    | _=>(0,"")
   | _=>(0,"")
  | none=>(0,"")
 | _=>(0,"")
def lJ(h:Heap)(v:Value):Prop:=∃a o t u n,v=.ref a/\h.get? a=some o/\o.cls=.type "tuple"/\o.data=.seq #[.int (jm h v).1 t,.str (jm h v).2 u] n
theorem Ju{h h':Heap}(k:∀b o,h.get? b=some o->h'.get? b=some o):∀{its:List Value},(∀v∈its,lJ h v)->∃fs,KatTups h' its fs/\fs.length=its.length/\∀v∈fs,∃n t,v=Value.int n t
 | [],_=>⟨[],.nil,rfl,fun v hv=>by cases hv⟩
 | v::r,hv=>by
  obtain⟨fs,h1,h2,h3⟩:=Ju k (its:=r) fun x hx=>hv x (aA _ hx)
  obtain⟨a,o,t,u,n,rfl,ho,hc,hd⟩:=hv v List.mem_cons_self
  exact⟨_,KatTups.cons (k _ _ ho) hc hd rfl h1,by simp[h2],fun x hx=>by
   rcases af.mp hx with rfl | hx
   ·exact⟨_,_,rfl⟩
   ·exact h3 x hx⟩
theorem o9{h h':Heap}{its:List Value}(k:∀b o,h.get? b=some o->h'.get? b=some o)(hv:∀v∈its,lJ h v)(hd:∀v∈its,∀u∈its,(jm h v).1=(jm h u).1->(jm h v).2=(jm h u).2):Ask prog w A E its (fun x=>(jm h x.1).1) { s with heap:=h' }:=by
 refine⟨fun h2=>⟨tuples' (Value.type "int" != Value.type "tuple"),fun Q' q=>?_,⟨fun x y Q ox oy q=>?_⟩⟩⟩
 ·obtain⟨fs,h1,Kz,h3⟩:=Ju k hv;refine kat_kind (s:={ s with heap:=h' }) (T:=.type "int") h1 (by omega) (fun v hv=>?_) (by decide +kernel) q;obtain⟨n,t,rfl⟩:=h3 v hv;exact Looks.of_pure rfl
 ·have mem:∀z,z∈pairsOf its->lJ h z.1/\z.1∈its:=fun z hz=>by
   have:z.1∈its:=by
    unfold pairsOf at hz;have Ez:z∈its.zip its:=by simpa using hz
    exact(List.of_mem_zip Ez).1
   exact⟨hv _ this,this⟩
  obtain⟨⟨a,oa,t,u,n,ea,ga,ca,da⟩,ma⟩:=mem x ox;obtain⟨⟨b,ob,t',u',m,eb,gb,cb,db⟩,mb⟩:=mem y oy;have hs:=hd _ ma _ mb;generalize jm h x.1=p at *;generalize jm h y.1=p' at *;rw[ea,eb];have e2:(Value.type "int" != Value.type "tuple")=true:=by decide +kernel
  rw[e2];refine kat_lt (k _ _ ga) da (k _ _ gb) db ?_;refine kat_cons (wpAny_eqBool_int ?_);by_cases e:p.1=p'.1
  ·rw[e];simp only[BEq.rfl];refine kat_yes (kat_cons (wpAny_eqBool_str ?_));rw[hs e];simp only[decide_true];refine kat_yes (kat_nil ?_);rw[e,aW (Int.lt_irrefl _)] at q;exact q
  ·simp only[beq_eq_false_iff_ne.mpr e];exact kat_no (oneLt_int q)
end
end Ts
namespace L2
open PySem PySem.Spec PyProof.Rows
noncomputable def wL(p:Int×Str):D:=.tup [.int p.1,.str p.2]
section
variable {X:Cx}
theorem QX:df X (.builtin "sorted") (fun xs H Q=>∃(p:Addr) (ps:List (V×Int×Str)),xs=[.ref p]/\eI X.K H p (ps.map (·.1))/\(∀q∈ps,∃b,q.1=.ref b/\fW X.K H b [.int q.2.1,.str q.2.2])/\ps.length<64/\(∀a∈ps,∀b∈ps,a.2.1=b.2.1->a.2.2=b.2.2)/\
  ∀rj:List (V×Int×Str),rj.Perm ps->rj.Pairwise (fun x y=>x.2.1<=y.2.1)->∀l,H l=none->Q (.ref l) (upd H l (.lst (rj.map (·.1))))):=by
 intro pins s σ H xs us Q I r h;obtain⟨p,ps,rfl,hq,hk,hr,Vn,q⟩:=h;obtain⟨u,rfl,ru⟩:=lh r;cases ru;obtain⟨its,rv,pl,hz⟩:=I.list hq;have hl:ps.length=its.length:=by rw[<-rv.length,aa]
 obtain⟨LL,e1,e2⟩:∃LL:List ((V×Int×Str)×Value),ps=LL.map (·.1)/\its=LL.map (·.2):=
  ⟨ps.zip its,(List.map_fst_zip (by omega)).symm,(List.map_snd_zip (by omega)).symm⟩
 have rel:∀z∈LL,RelV z.1.1 z.2:=fun z hz=>by
  obtain⟨i,hi⟩:=List.getElem?_of_mem hz;have h1:(ps.map (·.1))[i]?=some z.1.1:=by rw[e1];simp[hi]
  obtain⟨v',u5,rx⟩:=rv.get h1;have h2:its[i]?=some z.2:=by rw[e2];simp[hi]
  rw[h2] at u5;cases u5;exact rx
 have tup:∀z∈LL,Ts.lJ s.heap z.2/\Ts.jm s.heap z.2=z.1.2:=fun z hz=>by
  obtain⟨b,eb,sq⟩:=hk z.1 (by rw[e1];exact bh hz);have rz:=rel z hz;obtain⟨i1,v1,p1,_⟩:=I.tuple sq;obtain⟨o1,g1,c1,n1,d1⟩:=p1;obtain⟨⟨zv,zi,zs⟩,zw⟩:=z;simp only at eb rz v1 ⊢;subst eb;cases rz;obtain⟨u1,u2,rfl,⟨t1,rfl⟩,⟨t2,rfl⟩⟩:=vE v1;have e:Ts.jm s.heap (.ref b)=(zi,zs):=by
   unfold Ts.jm;simp only[g1,d1]
  exact⟨⟨b,o1,t1,t2,n1,rfl,g1,c1,by rw[e];exact d1⟩,e⟩
 refine Ts.qo (rk:=fun x=>(Ts.jm s.heap x.1).1) pl.isList (by rw[<-hl,<-aa (f:=(·.1))];exact hz) (fun h2=>Ts.sr (by omega) (by omega)) (fun h' k=>Ts.o9 k (fun v hv=>?_) fun v hv u hu=>?_) fun gm hp hs=>?_
 ·rw[e2] at hv;obtain⟨z,hz,rfl⟩:=aD.mp hv;exact(tup z hz).1
 ·rw[e2] at hv hu;obtain⟨z,hz,rfl⟩:=aD.mp hv;obtain⟨y,hy,rfl⟩:=aD.mp hu;rw[(tup z hz).2,(tup y hy).2];exact Vn _ (by rw[e1];exact bh hz) _ (by rw[e1];exact bh hy)
 ·have ep:(PyProof.Rows.pairsOf its).toList=LL.map fun z=>((z.2,z.2):Keyed):=by
   unfold PyProof.Rows.pairsOf;rw[e2];simp only[List.zip_toArray];clear e1 e2 rel tup hp hs;induction LL with
   | nil=>rfl
   | cons a r ih=>simp at ih ⊢;exact ih
  obtain⟨L',h1,h2⟩:=PH (hp.trans (List.Perm.of_eq ep)) rfl;have Ej:∀z∈L',RelV z.1.1 z.2:=fun z hz=>rel z (h1.subset hz)
  have out:((arrOf gm).map (·.2)).toList=L'.map (·.2):=by
   rw[Array.toList_map,h2,aQ];rfl
  obtain⟨en,he⟩:=sortedAll_at s.heap its ((arrOf gm).map (·.2));have hf:H (s.heap.objs.size+1)=none:=I.cz.fresh (Nat.le_succ _)
  have q':=q (L'.map (·.1)) (by rw[e1];exact h1.map _) (by
   rw[List.pairwise_map];unfold Ts.vt at hs;rw[h2,List.pairwise_map] at hs;refine hs.imp_of_mem fun{a b} ha hb oi=>?_
   have ta:=(tup a (h1.subset ha)).2;have tb:=(tup b (h1.subset hb)).2;simp only[ta,tb] at oi;omega) _ hf
  rw[aQ] at q';refine⟨.ref (s.heap.objs.size+1),_,I.laid (a:=s.heap.objs.size+1) (o:=.lst (L'.map ((·.1)∘(·.1)))) (t':=s.toks) (fun b o e=>sortedAll_old e) (Nat.le_succ _) ?_,rfl,q'⟩
  refine⟨by
   rw[aa,h1.length_eq];have:LL.length=its.length:=by rw[e2,aa]
   rw[this,<-hl,<-aa (f:=(·.1))];exact hz,((arrOf gm).map (·.2)).toList,en,?_,?_⟩
  ·rw[out];exact He Ej
  ·rw[Array.toArray_toList];exact he
def C7:eO:=fun ds Q=>∃ps:List (Int×Str),ds=[.lst (ps.map wL)]/\ps.length<64/\(∀a∈ps,∀b∈ps,a.1=b.1->a.2=b.2)/\∀rj:List (Int×Str),rj.Perm ps->rj.Pairwise (fun x y=>x.1<=y.1)->Q (.ow (rj.map wL))
theorem Js{K:PySem.W.Frag}{G:Hp}:∀{xs:List V} {ps:List (Int×Str)},bw K G xs (ps.map wL)->xs.length=ps.length/\∀q∈xs.zip ps,Rep K G q.1 (wL q.2)/\∃b,q.1=.ref b/\fW K G b [.int q.2.1,.str q.2.2]
 | [],[],_=>⟨rfl,fun q hq=>by cases hq⟩
 | v::xs,p::ps,r=>by
  rw[aj] at r;simp only[bw] at r;obtain⟨h1,h2⟩:=Js r.2;refine⟨by simp[h1],fun q hq=>?_⟩;rw[List.zip_cons_cons] at hq;rcases af.mp hq with rfl | hq
  ·refine⟨r.1,?_⟩;have rr:=r.1;unfold wL at rr;simp only[Rep] at rr;obtain⟨a,ys,rfl,sq,ry⟩:=rr;obtain⟨y,z,rfl,r1,r2⟩:=xl ry;simp only[Rep] at r1 r2;subst r1 r2;exact⟨a,rfl,fW.of sq⟩
  ·exact h2 q hq
 | [],_::_,r=>by rw[aj] at r;simp only[bw] at r
 | _::_,[],r=>by rw[bg] at r;simp only[bw] at r
theorem Pz(_:X.calm=true):oJ X (.builtin "sorted") C7:=by
 refine⟨_,QX,fun G H vs ds Q P s rs h k=>?_⟩;obtain⟨ps,rfl,hl,hd,q⟩:=h;obtain⟨v,rfl,rv⟩:=jV rs;simp only[Rep] at rv;obtain⟨a,xs,rfl,h1,h2⟩:=rv;obtain⟨h3,hz⟩:=Js h2;have e1:(xs.zip ps).map (·.1)=xs:=List.map_fst_zip (by omega);have e2:(xs.zip ps).map (·.2)=ps:=List.map_snd_zip (by omega);have el:(xs.zip ps).length=ps.length:=by rw[List.length_zip];omega
 have J4:∀z∈xs.zip ps,z.2∈ps:=fun z hq=>by
  have:=bh (f:=(·.2)) hq;rw[e2] at this;exact this
 refine⟨a,xs.zip ps,rfl,by rw[e1];exact(s.fw h1).sq,fun z hq=>?_,by omega,fun y hy z hq=>hd _ (J4 y hy) _ (J4 z hq),fun rj p1 p2=>?_⟩
 ·obtain⟨_,b,e,sq⟩:=hz z hq;exact⟨b,e,s.qp sq⟩
 ·refine tP s (ds:=(rj.map (·.2)).map wL) ?_ (q (rj.map (·.2)) ((p1.map _).trans (List.Perm.of_eq e2)) (by rw[List.pairwise_map];exact p2)) k;rw[aQ];exact Hc fun q hq=>(hz q (p1.subset hq)).1
end
end L2
namespace L2
open PySem PySem.Spec PyProof.Rows
noncomputable def rR:D->Bool
 | .tup ds=>ds.all mX
 | d=>mX d
def Cf:Sl->Prop
 | .ov (.dc _)=>True
 | .ov (.ll _)=>True
 | .ov _=>False
 | _=>True
def rW(i:Nat)(te:TD):TD:=fun ρ Q=>Cf (gt ρ i)/\te (ja i ρ) fun r=>match r with
 | .ow ds=>ds.all rR=true/\Q (.ow ds)
 | _=>False
theorem Pd{K:PySem.W.Frag}{G H0 H:Hp}{L:List Addr}{v:V}{d:D}(hs:bL G H)(hH:bL H0 H)(hT:∀q∈L,H0 q≠none/\∀xs,¬Rd H0 q (.tup xs))(hf:rR d=true)(r:Rep K G v d):Rep K (oB G L) v d:=by
 cases d with
 | tup ds=>
  simp only[Rep] at r ⊢;obtain⟨a,xs,rfl,h1,h2⟩:=r;exact⟨a,xs,rfl,Pf hs hH (fun q hq=>(hT q hq).1) (fun q hq=>(hT q hq).2) h1,Du hf h2⟩
 | _=>exact xX hf r
theorem ID{K:PySem.W.Frag}{G H0 H:Hp}{L:List Addr}(hs:bL G H)(hH:bL H0 H)(hT:∀q∈L,H0 q≠none/\∀xs,¬Rd H0 q (.tup xs)):∀{vs:List V} {ds:List D},ds.all rR=true->bw K G vs ds->bw K (oB G L) vs ds
 | [],[],_,_=>bw.nil
 | v::vs,d::ds,h,r=>by
  simp only[bw] at r;rw[List.all_cons,Bool.and_eq_true] at h;exact bw.cons (Pd hs hH hT h.1 r.1) (ID hs hH hT h.2 r.2)
 | [],_::_,_,r=>by simp only[bw] at r
 | _::_,[],_,r=>by simp only[bw] at r
section
variable {X:Cx} {pos:Pos} {e i':Expr} {te ti:TD}
theorem vY(i:Nat)(h:PD X e te):PD X e (rW i te):=by
 obtain⟨tt,p,q⟩:=h;refine⟨tt,p,fun ρ σ G0 H0 G H Q P E h k=>?_⟩;obtain⟨L,hL,E1,hT⟩:=E.jR i;have Vv:=hT fun o ho=>by
  have:=h.1;rw[ho] at this;cases o with
  | dc cq=>exact .inl ⟨cq,rfl⟩
  | ll cf=>exact .inr ⟨cf,rfl⟩
  | dl=>exact this.elim
  | tl=>exact this.elim
  | ld=>exact this.elim
  | dt=>exact this.elim
  | tp=>exact this.elim
  | ob=>exact this.elim
  | dq=>exact this.elim
 refine q _ σ G0 H0 _ H _ _ E1 h.2 fun v H' r G' x rr hq=>?_
 have x2:=C9 hL x;split at hq
 ·rename_i ds;obtain⟨p,xs,rfl,c1,c2,c3,c4⟩:=rr;refine k _ H' (.ow ds) (oB G' L) x2 ⟨p,xs,rfl,c1,?_,c3,ID x.s x.h Vv hq.1 c4⟩ hq.2;unfold oB;split
  ·rfl
  ·exact c2
 ·exact hq.elim
def Ce(ta tb:TD):TD:=fun ρ Q=>ta ρ fun ra=>match ra with
 | .ow ds=>tb ρ fun rb=>match rb with
  | .ow es=>Q (.ov (.ll [ds,es]))
  | _=>False
 | _=>False
theorem Nl{a b:Expr}{ta tb:TD}(ha:PD X a ta)(hb:PD X b tb)(fA:starEach [a,b] X.env=(false,eval a X.env)::starEach [b] X.env:=by rfl)(ni:starEach [b] X.env=(false,eval b X.env)::starEach [] X.env:=by rfl):PD X (.List [a,b] pos) (Ce ta tb):=by
 obtain⟨t1,p1,q1⟩:=ha;obtain⟨t2,p2,q2⟩:=hb;refine⟨_,CD (lp p1 (lp p2 nN ni) fA),fun ρ σ G0 H0 G H Q P E h k=>?_⟩;refine q1 ρ σ G0 H0 G H _ _ E h fun v H1 ra G1 x1 uN mw=>?_
 split at mw
 ·rename_i ds;obtain⟨p,xs,rfl,b1,b2,b3,b4⟩:=uN;refine q2 ρ σ G0 H0 G1 H1 _ _ (E.ext x1) mw fun u H3 rb G3 x3 qu eQ=>?_
  split at eQ
  ·rename_i es;obtain⟨q,ys,rfl,c1,c2,c3,c4⟩:=qu;refine⟨by show 2<=sizeLine;decide,fun a ha=>?_⟩;have wt:=x1.trans x3;have Ks:a≠q:=fun z=>by rw[z,c3] at ha;cases ha
   have Kw:H3 p=some (.lst xs):=x3.h _ _ b3;have Kt:a≠p:=fun z=>by rw[z,Kw] at ha;cases ha
   have UY:p≠q:=fun z=>by rw[z,c1] at b3;cases b3
   refine k _ _ (.ov (.ll [ds,es])) G3 (wt.trans (.own wt.s ha)) ⟨a,[p,q],rfl,by simp[Ks,Kt,UY],⟨gP,?_⟩,fun r hr=>?_⟩ eQ
   ·simp only[bM];exact⟨⟨xs,by rw[cR Kt.symm];exact Kw,b4.mono x3.g⟩,⟨ys,by rw[cR Ks.symm];exact c3,c4⟩,trivial⟩
   ·simp only[af,aH,or_false] at hr;rcases hr with rfl | rfl | rfl
    ·exact⟨wt.h.free ha,wt.s.free ha⟩
    ·exact⟨b1,x3.n _ b2 (by rw[b3];exact nofun)⟩
    ·exact⟨x1.h.free c1,c2⟩
  ·exact eQ.elim
 ·exact mw.elim
noncomputable def Cd:List Nat->TA
 | []=>B5
 | i::r=>Co (B8 i) (Cd r)
def PV(X:Cx)(es:List Expr)(is:List Nat):Prop:=PA X es (Cd is)
theorem MU:PV X [] []:=nN
theorem uG(i:Nat){is:List Nat}{es:List Expr}{x:Str}{p':Pos}(h:PV X es is)(hN:X.N[i]?=some x:=by rfl)(hv:kO X.env.scope x:=by first | exact Or.inl rfl | exact Or.inr (Or.inl rfl) | exact Or.inr (Or.inr rfl))(hd:(x==("__debug__":Str))=false:=by decide)
  (fS:(x==("__classdict__":Str))=false:=by decide) (hs:starEach (.Name x p'::es) X.env=(false,eval (.Name x p') X.env)::starEach es X.env:=by rfl):PV X (.Name x p'::es) (i::is):=lp (mf hN hv hd fS) h hs
def xc(ρ:Ev):List Nat->(List (List D)->Prop)->Prop
 | [],Q=>Q []
 | i::r,Q=>match gt ρ i with
  | .ow ds=>xc ρ r fun cf=>Q (ds::cf)
  | _=>False
theorem GG{K:PySem.W.Frag}{G0 H0 G H:Hp}{ρ:Ev}{σ:St}(E:cP K G0 H0 ρ σ G H):∀{is:List Nat} {Q:List (List D)->Prop},is.Nodup->xc ρ is Q->∃(ps:List Addr) (cf:List (List D)),Q cf/\bM K G H ps cf/\ps.Nodup/\ps.length=is.length/\(∀q∈ps,G q=none/\H0 q=none/\H q≠none/\∃j∈is,∃ds,gt ρ j=.ow ds/\σ[j]?=some (some (.ref q)))/\∀P,P (ps.map V.ref) H->Cd is σ H P
 | [],Q,_,h=>⟨[],[],h,by simp only[bM],by simp,rfl,fun q hq=>(by cases hq),fun P h=>h⟩
 | i::r,Q,nd,h=>by
  unfold xc at h;split at h
  ·rename_i ds hg;rw[aN] at nd;obtain⟨ps,cf,h1,h2,h3,h4,h5,h6⟩:=GG E nd.2 h;obtain⟨p,xs,a1,a2,a3,a4,a5⟩:=E.ow i ds hg;refine⟨p::ps,ds::cf,h1,?_,?_,by simp[h4],fun q hq=>?_,fun P hP=>⟨_,a1,h6 _ hP⟩⟩
   ·simp only[bM];exact⟨⟨xs,a2,a5⟩,h2⟩
   ·rw[aN];refine⟨fun z=>?_,h3⟩;obtain⟨_,_,_,j,hj,es,g1,g2⟩:=h5 p z;exact E.dj i j ds es (fun z=>nd.1 (z▸hj)) hg g1 (by rw[a1,g2])
   ·rcases af.mp hq with rfl | hq
    ·exact⟨a3,a4,by rw[a2];exact nofun,i,by simp,ds,hg,a1⟩
    ·obtain⟨b1,b2,b3,j,hj,b4⟩:=h5 q hq;exact⟨b1,b2,b3,j,aA _ hj,b4⟩
  ·exact h.elim
def Cs(is:List Nat):TX:=fun D ρ=>xc ρ is fun cf=>D.rt (.ov (.ll cf))
theorem Pc(is:List Nat){es:List Expr}{p':Pos}(h:PV X es is)(nd:is.Nodup:=by decide)(hl:is.length<=sizeLine:=by decide):PX X (.Return (some (.List es p')) pos) (Cs is):=by
 refine⟨_,xA (CD h),fun ρ σ G0 H0 G H D E k h g=>?_⟩;obtain⟨ps,cf,h1,h2,h3,h4,h5,h6⟩:=GG k nd h;refine h6 _ ⟨by rw[aa,h4];exact hl,fun a ha=>?_⟩;have hn:a∉ps:=fun z=>(h5 a z).2.2.1 ha
 refine g.rt _ _ (.ov (.ll cf)) G (k.e.trans (.own k.e.s ha)) ⟨a,ps,rfl,aN.mpr ⟨hn,h3⟩,⟨gP,h2.mono (bL.refl _) fun q hq xs e=>?_⟩,fun q hq=>?_⟩ h1
 ·rw[cR (fun z:q=a=>hn (z▸hq))];exact e
 ·rcases af.mp hq with rfl | hq
  ·exact⟨k.e.h.free ha,k.e.s.free ha⟩
  ·exact⟨(h5 q hq).2.1,(h5 q hq).1⟩
theorem bM.put{K:PySem.W.Frag}{G H:Hp}{q:Addr}{xs:List V}{es:List D}(hq:H q=some (.lst xs))(hr:bw K G xs es):∀{qs:List Addr} {cf:List (List D)} (j:Nat),bM K G H qs cf->bM K G H (qs.set j q) (cf.set j es)
 | [],[],j,h=>by simpa using h
 | p::qs,ds::cf,0,h=>by
  simp only[bM] at h;simp only[List.set_cons_zero,bM];exact⟨⟨xs,hq,hr⟩,h.2⟩
 | p::qs,ds::cf,j+1,h=>by
  simp only[bM] at h;simp only[List.set_cons_succ,bM];exact⟨h.1,bM.put hq hr j h.2⟩
 | [],_::_,_,h=>by simp only[bM] at h
 | _::_,[],_,h=>by simp only[bM] at h
theorem IC{α:Type}{q:α}:∀{l:List α} (j:Nat),l.Nodup->q∉l->(l.set j q).Nodup
 | [],_,_,_=>by simp
 | a::l,0,h,hn=>by
  rw[aN] at h;rw[List.set_cons_zero,aN];exact⟨fun z=>hn (aA _ z),h.2⟩
 | a::l,j+1,h,hn=>by
  rw[aN] at h;rw[List.set_cons_succ,aN];refine⟨fun z=>?_,IC j h.2 fun z=>hn (aA _ z)⟩;rcases bc z with z | z
  ·exact h.1 z
  ·exact hn (by rw[z];simp)
def xI(i:Nat)(ti te:TD):TX:=fun D ρ=>match gt ρ i with
 | .ov (.ll cf)=>te ρ fun r=>match r with
  | .ow es=>ti ρ fun rk=>match rk.val with
   | .int k=>∃j,kY cf.length k=some j/\D.nx (ρ.set i (.ov (.ll (cf.set j es))))
   | _=>False
  | _=>False
 | _=>False
theorem IB(i:Nat){x:Str}{p1 p2:Pos}(hi:PD X i' ti)(he:PD X e te)(hN:X.N[i]?=some x:=by rfl)(hv:kO X.env.scope x:=by first | exact Or.inl rfl | exact Or.inr (Or.inl rfl) | exact Or.inr (Or.inr rfl))(hd:(x==("__debug__":Str))=false:=by decide)(fS:(x==("__classdict__":Str))=false:=by decide)
  (ha:∀v,assign (.Subscript (.Name x p1) i' p2) X.env v=(do
   let ov <-holding [v] (eval (.Name x p1) X.env)
   let iv <-holding [v,ov] (eval i' X.env)
   standAt p2
   holding [v,ov,iv] (setItem ov iv v)
   release [v,ov,iv] []):=by intro _;rfl)
  (hs:swapsWithSole [.Subscript (.Name x p1) i' p2] e pos.line X.env=pure false:=by rfl) (hw:swappedStores [.Subscript (.Name x p1) i' p2] e X.env=pure none:=by rfl)
  (h1:(assignEach [.Subscript (.Name x p1) i' p2] X.env).map (·.2)=[assign (.Subscript (.Name x p1) i' p2) X.env]:=by rfl) :
  PX X (.Assign [.Subscript (.Name x p1) i' p2] e pos) (xI i ti te):=by
 obtain⟨t,p,q⟩:=he;obtain⟨t2,yR,q2⟩:=hi;refine⟨_,Ah p (Ai (mf hN hv hd fS) yR AR ha) hs hw h1,fun ρ σ G0 H0 G H D E k h g=>?_⟩;unfold xI at h;split at h
 ·rename_i cf hg;obtain⟨own,o1,o2⟩:=k.on;obtain⟨a,fp,b1,b2,⟨ha,hr⟩,b4⟩:=o2 i _ hg;refine q ρ σ G0 H0 G H _ _ k h fun v H' r G' x1 rr hq=>?_
  split at hq
  ·rename_i es;obtain⟨qn,xs,rfl,c1,c2,c3,c4⟩:=rr;refine⟨_,b1,q2 ρ σ G0 H0 G' H' _ _ (k.ext x1) hq fun u H3 rk G3 x3 qu eQ=>?_⟩;obtain⟨G4,x4,oS,_⟩:=qu.freeze x3;split at eQ
   ·rename_i kk e1;obtain⟨j,hj,eQ⟩:=eQ;rw[e1] at oS;simp only[Rep] at oS;have tR:=x1.trans x4;have d3:H3 qn=some (.lst xs):=x4.h _ _ c3;have d2:G4 qn=none:=x4.n _ c2 (by rw[c3];exact nofun);refine⟨a,fp.map V.ref,kk,j,rfl,oS,tR.h _ _ ha,by rw[aa,hr.length];exact hj,?_⟩;have zj:qn≠a:=fun z=>by rw[z,ha] at c1;cases c1
    let H2:Hp:=fun b=>if b=qn then none else H3 b
    have vk:∀b,b≠qn->H2 b=H3 b:=fun b h=>if_neg h
    have x2:Ext G H G4 H2:=⟨tR.g,fun b u e=>by rw[vk b (iM e c1)];exact tR.h b u e,fun b u e=>by rw[vk b (iM e d2)];exact tR.s b u e,tR.n⟩
    refine g.nx _ _ G4 _ tR.g ((k.ext x2).lH hg b1 fun lF nd ow=>?_) eQ;obtain⟨wI,nj⟩:=ow;have e3:lF=fp:=by
     have:=(x2.h _ _ ha).symm.trans wI;injection this with this
     injection this with this
     exact((List.map_inj_right fun a b h=>by cases h;rfl).mp this).symm
    subst e3;have oY:=aN.mp nd;have ES:qn∉lF:=fun z=>hr.here qn z c1
    refine⟨lF.set j qn,?_,⟨by rw[gP,List.map_set],bM.put (xs:=xs) (by rw[cR zj];exact d3) (c4.mono x4.g) j (hr.mono tR.g fun q hq zs e=>?_)⟩,fun q hq=>?_,fun b hb uf=>?_⟩
    ·rw[aN];refine⟨fun z=>?_,IC j oY.2 ES⟩;rcases bc z with z | z
     ·exact oY.1 z
     ·exact zj z.symm
    ·rw[cR (fun z:q=a=>oY.1 (z▸hq))];exact tR.h _ _ e
    ·rcases af.mp hq with rfl | hq
     ·exact .inl (by simp)
     ·rcases bc hq with hq | rfl
      ·exact .inl (by simp[hq])
      ·exact .inr (if_pos rfl)
    ·have Fo:b≠qn:=fun z=>uf (by rw[z];exact if_pos rfl)
     rw[cR (fun z=>hb (by simp[z])),vk b Fo]
   ·exact eQ.elim
  ·exact hq.elim
 ·exact h.elim
end
end L2
namespace L2
open PySem PySem.Spec PyProof.Rows
theorem rO{α:Type}{l:List α}{n:Nat}(h:l.length=n+1):∃a r,l=a::r/\r.length=n:=by
 cases l with
 | nil=>cases h
 | cons a r=>exact⟨a,r,rfl,Nat.succ.inj h⟩
theorem LA{α:Type}{l:List α}(h:l.length=0):l=[]:=List.eq_nil_of_length_eq_zero h
theorem pj{α:Type}{l:List α}(h:l.length=1):∃a0,l=[a0]:=by
 obtain⟨a,r,e,h⟩:=rO h;exact⟨a,by rw[e,LA h]⟩
theorem B4{α:Type}{l:List α}(h:l.length=2):∃a0 a1,l=[a0,a1]:=by
 obtain⟨a,r,e,h⟩:=rO h;obtain⟨b0,e2⟩:=pj h;exact⟨a,b0,by rw[e,e2]⟩
theorem Ga{α:Type}{l:List α}(h:l.length=3):∃a0 a1 a2,l=[a0,a1,a2]:=by
 obtain⟨a,r,e,h⟩:=rO h;obtain⟨b0,b1,e2⟩:=B4 h;exact⟨a,b0,b1,by rw[e,e2]⟩
theorem F9{α:Type}{l:List α}(h:l.length=4):∃a0 a1 a2 a3,l=[a0,a1,a2,a3]:=by
 obtain⟨a,r,e,h⟩:=rO h;obtain⟨b0,b1,b2,e2⟩:=Ga h;exact⟨a,b0,b1,b2,by rw[e,e2]⟩
theorem F8{α:Type}{l:List α}(h:l.length=5):∃a0 a1 a2 a3 a4,l=[a0,a1,a2,a3,a4]:=by
 obtain⟨a,r,e,h⟩:=rO h;obtain⟨b0,b1,b2,b3,e2⟩:=F9 h;exact⟨a,b0,b1,b2,b3,by rw[e,e2]⟩
theorem F7{α:Type}{l:List α}(h:l.length=6):∃a0 a1 a2 a3 a4 a5,l=[a0,a1,a2,a3,a4,a5]:=by
 obtain⟨a,r,e,h⟩:=rO h;obtain⟨b0,b1,b2,b3,b4,e2⟩:=F8 h;exact⟨a,b0,b1,b2,b3,b4,by rw[e,e2]⟩
theorem F6{α:Type}{l:List α}(h:l.length=7):∃a0 a1 a2 a3 a4 a5 a6,l=[a0,a1,a2,a3,a4,a5,a6]:=by
 obtain⟨a,r,e,h⟩:=rO h;obtain⟨b0,b1,b2,b3,b4,b5,e2⟩:=F7 h;exact⟨a,b0,b1,b2,b3,b4,b5,by rw[e,e2]⟩
theorem F5{α:Type}{l:List α}(h:l.length=8):∃a0 a1 a2 a3 a4 a5 a6 a7,l=[a0,a1,a2,a3,a4,a5,a6,a7]:=by
 obtain⟨a,r,e,h⟩:=rO h;obtain⟨b0,b1,b2,b3,b4,b5,b6,e2⟩:=F6 h;exact⟨a,b0,b1,b2,b3,b4,b5,b6,by rw[e,e2]⟩
theorem V7{α:Type}{l:List α}(h:l.length=9):∃a0 a1 a2 a3 a4 a5 a6 a7 a8,l=[a0,a1,a2,a3,a4,a5,a6,a7,a8]:=by
 obtain⟨a,r,e,h⟩:=rO h;obtain⟨b0,b1,b2,b3,b4,b5,b6,b7,e2⟩:=F5 h;exact⟨a,b0,b1,b2,b3,b4,b5,b6,b7,by rw[e,e2]⟩
end L2
namespace L2
open PySem PySem.Spec PyProof.Rows PySem.Builtin PySem.Builtin.Str
section
variable {X:Cx}
theorem QW{A:Around}{E:Value->Shared->Prop}{prog:Program}{w:World}{s:Shared}{Q:Value->Shared->Prop}{x y:Str}{t u:Tok}(hy:(y.length==0)=false)
  (hq:∀l tk,l.map (·.1)=Txt.split x y->Q (.ref s.heap.objs.size) { s with heap:=s.heap.push { cls:=.type "list",data:=.seq (strValues l).toArray },toks:=tk })
  (kL:x.length+2<=sizeLine):wpAny (model prog w) A (call (.builtin "str.split") [.str x t,.str y u]) Q E s:=by
 have ED:(partsBetween x (occurrences x y 0 x.length (x.length+1)) y.length).length<=sizeLine:=by
  rw[len_partsBetween];have:=StrLaws.occ_length_le x y 0 x.length (x.length+1);omega
 cases h1:(decide (x.length<y.length)||decide (strKind x<strKind y))
 ·cases hf:(occurrences x y 0 x.length (x.length+1)).isEmpty
  ·refine call_meets PySem.F.slot_str_split (typeIs_str _ _ _) PySem.F.entry_str_split (PySem.F.args_str_split_2 _ _) (meets_str_split_sep x y t u h1 hy hf (by omega) ED) ?_;show wants Q E _ { s with toks:=_,heap:=s.heap.push { cls:=.type "list",data:=.seq (strsFrom s.toks (partsBetween x (occurrences x y 0 x.length (x.length+1)) y.length)).toArray } };rw[strsFrom_eq];exact hq (numbered s.toks _) _ ((numbered_texts _ _).trans ((if_neg (ne_true_of_eq_false h1)).trans (if_neg (ne_true_of_eq_false hf))).symm)
  ·exact call_meets PySem.F.slot_str_split (typeIs_str _ _ _) PySem.F.entry_str_split (PySem.F.args_str_split_2 _ _) (meets_str_split_not_found x y t u h1 hy hf)
    (hq [(x,t)] s.toks ((if_neg (ne_true_of_eq_false h1)).trans (if_pos hf)).symm)
 ·exact call_meets PySem.F.slot_str_split (typeIs_str _ _ _) PySem.F.entry_str_split (PySem.F.args_str_split_2 _ _) (meets_str_split_cannot_occur x y t u h1)
   (hq [(x,t)] s.toks (if_pos h1).symm)
theorem Iy:∀(l:List (Str×Tok)),Vals ((l.map (·.1)).map V.str) (strValues l)
 | []=>.nil
 | (x,t)::r=>.cons ⟨t,rfl⟩ (Iy r)
theorem Dt{K:PySem.W.Frag}{G:Hp}:∀(l:List Str),bw K G (l.map V.str) (l.map D.str)
 | []=>bw.nil
 | x::r=>bw.cons (r0 _ _ _) (Dt r)
def xn:D->List D->(R->Prop)->Prop:=fun d ds Q=>match d,ds with
 | .str x,[.str y]=>y.length≠0/\x.length+2<=sizeLine/\Q (.ow ((Txt.split x y).map D.str))
 | _,_=>False
theorem Ha:BU X "str.split" xn:=by
 refine⟨fun x vs H Q=>∃(z y:Str),x=.str z/\vs=[.str y]/\y.length≠0/\z.length+2<=sizeLine/\∀p,H p=none->Q (.ref p) (upd H p (.lst ((Txt.split z y).map V.str))),fun pins s σ H x xs v us Q I rx rs h=>?_,fun G H x d vs ds Q P s rx rs h k=>?_⟩
 ·obtain⟨z,y,rfl,rfl,hy,hz,q⟩:=h;obtain⟨t,rfl⟩:=rx;obtain⟨u,rfl,ru⟩:=lh rs;obtain⟨t2,rfl⟩:=ru;refine QW (by simpa using hy) (fun l tk hl=>?_) hz;have hv:=Iy l;rw[hl] at hv;exact⟨.ref _,_,I.sy (t':=tk) hv (by rw[aa];exact aY (split_le z y) hz),rfl,q _ I.fresh⟩
 ·unfold xn at h;split at h
  ·obtain⟨y,rfl,ry⟩:=jV rs;simp only[Rep] at rx ry;subst rx ry;exact⟨_,_,rfl,rfl,h.1,h.2.1,tP s (Dt _) h.2.2 k⟩
  ·exact h.elim
def xb:eO:=fun ds Q=>match ds with
 | [.str x]=>∃n,PySem.intText? x=some n/\x.length<=640/\Q (.fz (.int n))
 | _=>False
theorem MT:oJ X (.type "int") xb:=by
 refine⟨fun vs H Q=>∃x n,vs=[.str x]/\PySem.intText? x=some n/\x.length<=640/\Q (.int n) H,fun pins s σ H xs us Q I r h=>?_,fun G H vs ds Q P s rs h k=>?_⟩
 ·obtain⟨x,n,rfl,hn,hl,q⟩:=h;obtain⟨u,rfl,t,rfl⟩:=lh r;exact PySem.W.KIN.call_text hn hl ⟨.int n,H,I.tok _,⟨_,rfl⟩,q⟩
 ·unfold xb at h;split at h
  ·obtain⟨n,h1,h2,h3⟩:=h;obtain⟨v,rfl,rv⟩:=jV rs;simp only[Rep] at rv;subst rv;exact⟨_,n,rfl,h1,h2,k _ _ _ G (.refl s) (eN (ji _ _ _)) h3⟩
  ·exact h.elim
def We:O2:=fun d e Q=>match d,e with
 | .str x,.int n=>x.length=1/\0<=n/\n<1000/\Q (.fz (.str (Txt.mul x n)))
 | _,_=>False
def wY:O2:=fun d e Q=>match d,e with
 | .int i,.int j=>Q (.fz (.bl (decide (i<j))))
 | .str x,.str y=>Q (.fz (.bl (decide (x.cps.toList<y.cps.toList))))
 | _,_=>False
theorem Lg:ky X (compareOp .Lt) wY:=by
 refine⟨_,tX.or Qf,fun G H x y d e Q P s rx ry h k=>?_⟩;unfold wY at h;split at h
 ·simp only[Rep] at rx ry;exact .inl ⟨_,_,rx,ry,k _ _ _ G (.refl s) (eN (jw _ _ _)) h⟩
 ·simp only[Rep] at rx ry;exact .inr ⟨_,_,rx,ry,k _ _ _ G (.refl s) (eN (jw _ _ _)) h⟩
 ·exact h.elim
end
end L2
namespace L2
open PySem PySem.Spec PyProof.Rows
section
variable {X:Cx} {pos:Pos} {e:Expr} {ts:iT} {t:TA}
def Pb(K:PySem.W.Frag)(t:TA):TE:=fun σ H Q=>t σ H fun vs H1=>∃(p:Addr) (ss:List Str),vs=[.ref p]/\eI K H1 p (ss.map V.str)/\ss.length<4000/\∀l:List Str,l.Nodup->(∀x,x∈l↔x∈ss)->Q (.int l.length) H1
theorem QV{p1 p2 lA:Pos}(hc:X.calm=true)(ve:X.mg "len"=none)(nZ:X.mg "set"=none)(ha:PA X [e] t)(E8:Gl X "len":=by rfl)(vh:Gl X "set":=by rfl)
  (he:starEach [e] X.env=(false,eval e X.env)::starEach [] X.env:=by rfl) (BG:starEach [.Call (.Name "set" p2) [e] [] lA] X.env=(false,eval (.Call (.Name "set" p2) [e] [] lA) X.env)::starEach [] X.env:=by rfl) :
  PE X (.Call (.Name "len" p1) [.Call (.Name "set" p2) [e] [] lA] [] pos) (Pb X.K t):=by
 intro pins s σ H Q I h;refine wpAny_Call_Name_kw (tL I E8 ve boot_len ?_ (by decide) (by decide));refine PyProof.Rows.callWith_builtin1 ?_ BG rfl;rw[BG];show wpAny _ _ (spliced ((false,eval (.Call (.Name "set" p2) [e] [] lA) X.env)::backTo pos (starEach [] X.env))) _ _ s;refine Calls.spliced_cons ?_;refine wpAny_Call_Name_kw (tL I vh nZ QE ?_ (by decide) (by decide));refine PyProof.Rows.callWith_type1 (cJ (ha lA pins s σ H _ I h) fun us s1 bR=>?_) he rfl;obtain⟨vs,H1,I1,r1,q1⟩:=bR;obtain⟨p,ss,rfl,hq,hn,q⟩:=q1;obtain⟨u,rfl,ru⟩:=lh r1;cases ru;obtain⟨its,rv,pl,hz⟩:=I1.list hq;have hS:=DC rv;refine Qz (I1.ok.hd hc) pl.isList hS (by have:scanBound=4096:=rfl;omega) fun h1 Bp es ep tb T Hd Vd=>?_
 have I2:Inv X pins σ H1 { s1 with heap:=h1,toks:=Bp }:=I1.kept fun b o e=>Vd b o (ax e) e
 refine Calls.spliced_nil ?_;have hlen:(keysOf es).length=es.size:=by simp[keysOf]
 refine call_len_set (s:={ s1 with heap:=h1,toks:=Bp }) T.at_ ⟨rfl,rfl,rfl⟩ rfl T.fits ?_ ?_
 ·have h8:=T.small;have:scanBound=4096:=rfl;omega
 ·refine⟨.int _,H1,I2.tok _,⟨_,rfl⟩,?_⟩;have:=q (keysOf es) Hd.nd fun x=>Hd.mem x
  rw[hlen] at this;exact this
def AW:eO:=fun ds Q=>match ds with
 | [.lst es]=>match lV es with
  | some ss=>ss.length<4000/\∀l:List Str,l.Nodup->(∀w,w∈l↔w∈ss)->Q (.fz (.int l.length))
  | none=>False
 | _=>False
theorem QU{p1 p2 lA:Pos}(hc:X.calm=true)(ve:X.mg "len"=none)(nZ:X.mg "set"=none)(ha:mE X [e] ts)(E8:Gl X "len":=by rfl)(vh:Gl X "set":=by rfl)
  (he:starEach [e] X.env=(false,eval e X.env)::starEach [] X.env:=by rfl) (BG:starEach [.Call (.Name "set" p2) [e] [] lA] X.env=(false,eval (.Call (.Name "set" p2) [e] [] lA) X.env)::starEach [] X.env:=by rfl) :
  PD X (.Call (.Name "len" p1) [.Call (.Name "set" p2) [e] [] lA] [] pos) (dF AW ts):=by
 obtain⟨t,pp,q⟩:=ha;refine⟨_,QV hc ve nZ pp E8 vh he BG,fun ρ σ G0 H0 G H Q P E h k=>q ρ σ G0 H0 G H _ _ E h fun vs H' ds G' x rs hq=>?_⟩;unfold AW at hq;split at hq
 ·split at hq
  ·rename_i es ss hs;obtain⟨v,rfl,rv⟩:=jV rs;simp only[Rep] at rv;obtain⟨a,xs,rfl,h1,h2⟩:=rv;rw[A1 hs] at h2;rw[AM h2] at h1;exact⟨a,ss,rfl,(x.s.fw h1).sq,hq.1,fun l nd hm=>k _ _ _ G' x (eN (ji _ _ _)) (hq.2 l nd hm)⟩
  ·exact hq.elim
 ·exact hq.elim
end
end L2
namespace L2
open PySem PySem.Spec PyProof.Rows
end L2
namespace L2.SO
open PySem PySem.Spec PyProof.Rows L2
end L2.SO
namespace L2.SO
open PySem PySem.Spec PyProof.Rows L2
end L2.SO
namespace L2.SO
open PySem PySem.Spec PyProof.Rows L2
end L2.SO
namespace L2.SO
open PySem PySem.Spec PyProof.Rows L2
end L2.SO
namespace L2.SO
open PySem PySem.Spec PyProof.Rows L2
end L2.SO
namespace L2.SO
open PySem PySem.Spec PyProof.Rows L2
end L2.SO
namespace L2.SO
open PySem PySem.Spec PyProof.Rows L2
end L2.SO
namespace L2.SO
open PySem PySem.Spec PyProof.Rows L2
end L2.SO
namespace L2.SO
open PySem PySem.Spec PyProof.Rows L2
end L2.SO
namespace L2
open PySem PySem.Spec PyProof.Rows
section
variable {X:Cx} {pos:Pos} {e:Expr} {te:TD} {ts:iT} {t:TA}
noncomputable def oD:Option Str->D
 | none=>.non
 | some x=>.str x
end
end L2
namespace L2
open PySem PySem.Spec PyProof.Rows
def qM(s0:Shared)(H:Hp)(b:Addr):Prop:=(∃o,s0.heap.get? b=some o)\/H b≠none
def KR(l:List Env)(C a:Addr)(P:Addr->Prop)(h:Heap):Prop:=∃B a0,Heap.FlyingW B l a (.ref C) a0 h/\∀b o,P b->h.get? b=some o->b∉ir l->B.get? b=some o
def pS(P:Program)(w:World)(C:Addr):rH:=fun outer H s E e s'=>∃a H',e=.ref a/\s'.os=s.os/\AllBare s'.gens/\Un (ir outer) [] H H' s.heap s'.heap/\jh P w H' s'.heap/\H' a=none/\s.heap.get? a=none/\KR outer C a (qM s H') s'.heap/\E (.ref a) none H'
section
variable {X:Cx} {pins:List (Addr×Obj)} {σ:St} {H:Hp} {s:Shared}
theorem dG.some{P:Program}{w:World}{H:Hp}{h:Heap}{a:Addr}{o:HO}(x:dG P w H h a o):∃ob,h.get? a=some ob:=by
 cases o with
 | lst xs=>exact⟨_,x.2.choose_spec.choose_spec.2⟩
 | tup xs=>
  obtain⟨_,its,_,ob,e,_⟩:=x;exact⟨ob,e⟩
 | dK cq ep=>
  obtain⟨_,_,_,_,ob,_,e,_⟩:=x;exact⟨ob,e⟩
 | dT cq bs=>
  obtain⟨_,_,_,_,_,ob,_,_,e,_⟩:=x;exact⟨ob,e⟩
 | set S n=>
  obtain⟨ob,_,_,_,e,_⟩:=x;exact⟨ob,e⟩
 | ins C dx fs=>exact⟨_,x.2.2.2.1⟩
 | own y=>exact x
 | xd fs=>
  obtain⟨_,⟨ob,_,_,e,_⟩,_⟩:=x;exact⟨ob,e⟩
 | Bt lo hi=>
  obtain⟨_,_,_,e⟩:=x;exact⟨_,e⟩
 | ja ob u=>exact⟨ob,x.1⟩
 | tT ps=>exact⟨_,x⟩
 | met f y=>exact⟨_,x⟩
 | ext φ=>exact x.2.1
theorem Inv.there(I:Inv X pins σ H s)(hex:X.ex=[]){b:Addr}(h:qM X.cK H b):∃o,s.heap.get? b=some o:=by
 rcases h with⟨o,e⟩ | h
 ·exact I.base.there b o e (by rw[hex];simp)
 ·cases e:H b with
  | none=>exact absurd e h
  | some u=>exact(I.cz b u e).some
theorem Inv.gone(I:Inv X pins σ H s)(hex:X.ex=[])(fA:X.stack=X.env::X.outer)(hf:X.env.frame=some X.env.locals){B h':Heap}(st:B.StaysIn h')(mU:∀b o,qM X.cK H b->s.heap.get? b=some o->b∉ir X.stack->B.get? b=some o)(up:∀b∈ir X.outer,∀o,s.heap.get? b=some o->(∀vs,o.data≠.fields vs)->∃sl,h'.get? b=some { o with slots:=sl }) :
  Un (ir X.outer) [] X.pe H X.cK.heap h'/\jh X.prog X.w H h'/\∀b o,qM X.cK H b->h'.get? b=some o->b∉ir X.outer->B.get? b=some o:=by
 have lE:ir X.stack=X.env.locals::ir X.outer:=by rw[fA];simp[ir,hf]
 have nL:∀b,qM X.cK H b->b≠X.env.locals:=fun b h z=>by
  subst z;rcases h with⟨o,e⟩ | h
  ·exact absurd (ax e) (Nat.not_lt.mpr I.ok.above)
  ·exact h I.free
 have out:∀b,qM X.cK H b->b∉ir X.outer->b∉ir X.stack:=fun b h n=>by
  rw[lE];simp only[af,not_or];exact⟨nL b h,n⟩
 have same:∀b o,qM X.cK H b->b∉ir X.outer->s.heap.get? b=some o->h'.get? b=some o:=fun b o h n e=>st b o (mU b o h e (out b h n))
 have VN:∀b,H b≠none->b∉ir X.outer:=fun b h m=>by
  obtain⟨_,o,ho,_⟩:=I.ok.gn.mem m;exact h (I.base.free b o ho (I.ok.qG b m) (by rw[hex];simp))
 refine⟨⟨fun b o e n hb _=>?_,fun b o e n hb _=>?_,fun b o e n _=>?_,fun b o e _=>?_,I.base.jG,I.base.jo,I.base.jH⟩,fun a u e=>?_,fun b o h e n=>?_⟩
 ·exact same b o (.inl ⟨o,e⟩) hb (I.base.keep b o e n hb (by rw[hex];simp))
 ·obtain⟨sl,e1⟩:=I.base.slot b o e n hb (by rw[hex];simp);obtain⟨_,o',kM,hd⟩:=I.ok.gn.mem hb;rw[e] at kM;cases kM;obtain⟨tV,e2⟩:=up b hb _ e1 hd;exact⟨tV,e2⟩
 ·exact I.base.free b o e n (by rw[hex];simp)
 ·by_cases hb:b∈ir X.outer
  ·obtain⟨sl,e1⟩:=I.base.slot b o e (I.ok.qG b hb) hb (by rw[hex];simp);obtain⟨_,o',kM,hd⟩:=I.ok.gn.mem hb;rw[e] at kM;cases kM;obtain⟨tV,e2⟩:=up b hb _ e1 hd;exact⟨_,e2⟩
  ·obtain⟨o',e1⟩:=I.base.there b o e (by rw[hex];simp);exact⟨o',same b o' (.inl ⟨o,e⟩) hb e1⟩
 ·refine(I.cz a u e).jX (fun b v hb hv=>?_) (fun _ h=>h) fun _ _ h=>h
  have hn:H b≠none:=by
   rcases hb with rfl | hb
   ·rw[e];exact nofun
   ·rw[hb];exact nofun
  exact same b v (.inr hn) (VN b hn) hv
 ·obtain⟨o',e1⟩:=I.there hex h;have e2:=same b o' h n e1;rw[e] at e2;cases e2;exact mU b o h e1 (out b h n)
def FH(X:Cx)(C:Addr)(W:Hp->Prop):Prop:=∀(pins:List (Addr×Obj)) (σ:St) (H:Hp) (s:Shared) (a:Addr),Inv X pins σ H s->H a=none->X.cK.heap.get? a=none->KR X.stack C a (qM X.cK H) s.heap->W H->X.xe (.ref a) s
def B3(X:Cx)(C:Addr)(W:Hp->Prop):Prop:=∀(pins:List (Addr×Obj)) (σ:St) (H:Hp) (s:Shared) (h':Heap) (a:Addr) (vs:List Value),Inv X pins σ H s->Heap.MadeExcOf s.heap h' a (.ref C) vs->W H->X.xe (.ref a) { s with heap:=h' }
theorem Lf{C:Addr}{W:Hp->Prop}(hex:X.ex=[])(T:FH X C W):tK (pS X.prog X.w C) X fun _ _ H'=>W H':=by
 intro pins σ H s e s' I ⟨a,H',he,os,bare,un,cz,hn,hs,⟨B,a0,fl,mU⟩,w⟩;subst he;obtain⟨hh,g,d,t,su⟩:=s';obtain rfl:su=s.os:=os;have back:∀b o,X.cK.heap.get? b=some o->∃o',s.heap.get? b=some o':=fun b o e=>I.base.there b o e (by rw[hex];simp)
 refine T pins σ H' _ a (I.call (h':=hh) (g':=g) (d':=d) (t':=t) (ch:=[]) un cz bare fun b z=>absurd z (by simp)) hn ?_ ⟨B,a0,fl,fun b o hb e n=>mU b o (hb.imp (fun bR=>by obtain⟨o',e'⟩:=bR;exact back b o' e') id) e n⟩ w;cases q:X.cK.heap.get? a with
 | none=>rfl
 | some o=>
  obtain⟨o',e'⟩:=back a o q;rw[hs] at e';cases e'
end
section
variable {P:Program} {w:World} {K:PySem.W.Frag} {mg:Str->Option Value} {base:Heap} {N:List Str} {qual:Str} {scope:Scope} {f C:Addr} {cd:Value} {A:Around} {outer:List Env} {s0:Shared} {H0:Hp} {E:XK}
theorem iO:FH (mR (pS P w C) P w K mg base N qual scope f cd A outer s0 H0 E) C fun H'=>∀a,E (.ref a) none H':=by
 intro pins σ H s a I hn h0 ⟨B,a0,fl,mU⟩ hw;refine wpAny_leaves_onW (base:=B) (outer:=outer) (cls:=.ref C) (a0:=a0) I.ok.frames rfl fl fun h' o7 up=>?_
 obtain⟨un,cz,cv⟩:=I.gone rfl rfl rfl o7.1 mU fun b _=>up b
 exact⟨a,H,rfl,I.os,I.bare,un,cz,hn,h0,⟨B,a0,o7,cv⟩,hw a⟩
theorem Nk:B3 (mR (pS P w C) P w K mg base N qual scope f cd A outer s0 H0 E) C fun H'=>∀a,E (.ref a) none H':=by
 intro pins σ H s h' a vs I hx hw;have I':Inv (mR (pS P w C) P w K mg base N qual scope f cd A outer s0 H0 E) pins σ H { s with heap:=h' }:=I.kept (t':=s.toks) hx.keeps;have fu:=I.ny.gn;have no:∀b,qM s0 H b->b≠a:=fun b hb z=>by
  obtain⟨o,e⟩:=I.there rfl hb;rw[z,hx.new] at e;cases e
 refine wpAny_leaves_madeW (base:=PySem.W.hideAll s.heap (ir (envOfC qual scope s0.heap.objs.size f cd::outer))) (h:=s.heap) (cls:=.ref C) (args:=vs) I.ok.frames rfl (fun b o q=>PySem.W.of_hideAll _ q) (PySem.W.funFrames_hide fu fun env he b hb=>List.mem_filterMap.mpr ⟨env,he,hb⟩) hx fun h2 t o7 tup bt up=>?_
 have mU:∀b o,qM s0 H b->h'.get? b=some o->b∉ir (envOfC qual scope s0.heap.objs.size f cd::outer)->(PySem.W.hideAll s.heap (ir (envOfC qual scope s0.heap.objs.size f cd::outer))).get? b=some o:=fun b o hb e n=>by
  obtain⟨o1,e1⟩:=I.there rfl hb;have:=hx.keeps b o1 e1;rw[e] at this;cases this;exact PySem.W.hideAll_get _ e1 n
 obtain⟨un,cz,cv⟩:=I'.gone rfl rfl rfl o7.1 mU fun b _=>up b
 refine⟨a,H,rfl,I.os,I.bare,un,cz,?_,?_,⟨_,_,o7,cv⟩,hw a⟩
 ·cases q:H a with
  | none=>rfl
  | some u=>exact absurd rfl (no a (.inr (by rw[q];exact nofun)))
 ·cases q:s0.heap.get? a with
  | none=>rfl
  | some u=>exact absurd rfl (no a (.inl ⟨u,q⟩))
end
section
variable {X:Cx} {pos:Pos} {te:TE} {e0:Expr} {W:Hp->Prop}
def MS(W:Hp->Prop)(te:TE):TS:=fun _ σ H=>te σ H fun x H1=>[x].length=1/\W H1
structure cS (K:PySem.W.Frag) (mg:Str->Option Value) (x:Str) (C:Addr) (oo:List Value) (newId:String):Prop where
 bound:mg x=some (.ref C)
 exc:PySem.W.excIn K C oo newId=true
theorem cS.at{K:PySem.W.Frag}{mg:Str->Option Value}{x:Str}{C:Addr}{oo:List Value}{newId:String}{h:Heap}(o:cS K mg x C oo newId)(ki:K.In h):OwnCls x C oo newId mg h:=by
 obtain⟨hb,z⟩:=o;unfold PySem.W.excIn at z;split at z
 ·rename_i d1 c1 s1 look;split at z
  ·rename_i c2 mr e0 e1 e2 e3 nn e5 he hz;simp only[Bool.and_eq_true,beq_iff_eq,Bool.not_eq_true'] at z;obtain⟨⟨⟨⟨⟨z1,z2⟩,z3⟩,z4⟩,z5⟩,z6⟩:=z;subst z1 z2;cases c1;dsimp only at he z3 z5 z6;subst he z3;obtain rfl:s1=#[e0,e1,e2,e3,some (.builtin nn),e5]:=by
    cases s1;simp only at hz;rw[hz]
   exact⟨hb,_,_,_,_,_,_,_,_,_,_,_,_,_,_,_,_,_,ki _ _ look,.of_isNs (PySem.W.isNs_of_in ki z5),PySem.W.nsMap_none_of_in ki z5 z6,PySem.W.tail_of_in ki z4⟩
  ·cases z
 ·cases z
theorem Pa{C:Addr}{x:Str}{oo:List Value}{newId B nh:String}{np fT:Pos}(O:cS X.K X.mg x C oo newId)(FB:ExcBaseFacts B newId nh oo)(hc:X.calm=true)(T:B3 X C W)(he:PE X e0 te)(hg:Gl X x:=by rfl)(hd:(x==("__debug__":Str))=false:=by decide)
  (hs:starEach [e0] X.env=(false,eval e0 X.env)::starEach [] X.env:=by rfl) (hp:(backTo fT (starEach [] X.env)).any (·.1)=false:=by rfl):PS X (.Raise (some (.Call (.Name x np) [e0] [] fT)) none pos) (MS W te):=by
 intro pins s σ H D I h;have O:=O.at I.ok.mod.sA;obtain⟨tl,Nn,nm,q,bs,hdct,sn,sub,ab,col,dd,k0,k1,k2,k3,k5,mN,hC,hN,Kd,OT⟩:=O.obj;refine wpAny_Raise_call_subT (C:=C) (nm:=nm) (q:=q) (N:=Nn) (bs:=bs) (bm:=tl) (hdct:=hdct) (sn:=sn) (sub:=sub) (ab:=ab) (col:=col) (dd:=dd) (k0:=k0) (k1:=k1) (k2:=k2) (k3:=k3) (k5:=k5) FB (mN:=mN) (OT.hasType FB.hasBase) (I.ok.hd hc) ?_ Kd (vU I hg O.bound ⟨rfl,?_⟩ hd)
 ·rw[hs];exact hp
 ·have U1:PA X [e0] (Co te B5):=lp he nN hs;have run:=U1 fT pins s σ H (fun vs H1=>vs.length=1/\W H1) I h;rw[hs] at run ⊢;refine Calls.evalArgs_plain (cJ run fun us s2 bR=>?_);obtain⟨vs,H1,I1,r,hl,hw⟩:=bR;refine⟨rfl,?_,I1.bk _ _ hC,hN.keeps I1.bk,OT.keeps I1.bk,fun h' a hm=>T pins σ H1 s2 h' a us I1 hm hw⟩;show us.length<=sizeLine;rw[<-r.length,hl];decide
end
end L2
namespace L2
open PySem PySem.Spec PyProof.Rows
noncomputable abbrev k9:=List D->(R->Prop)->Prop->Prop
def zJ(K:PySem.W.Frag)(n:Nat)(t:k9):Sp:=fun vs H Q E=>∃G ds Qr Qx,bL G H/\bw K G vs ds/\ds.length=n/\t ds Qr Qx/\(∀v H' r G',Ext G H G' H'->dv K G' H' H v r->Qr r->Q v H')/\∀G' H',Ext G H G' H'->Qx->∀a,E (.ref a) none H'
structure bI (P:Program) (w:World) (K:PySem.W.Frag) (mg:Str->Option Value) (base:Heap) (C:Addr) (k:Nat) (x:Str) (n:Nat) (t:k9):Prop where
 ex:∃(f:Addr) (fd:FuncData) (ps:List Str),g8 P w K mg base (pS P w C) k f fd ps (zJ K n t)/\mg x=some (.ref f)/\PySem.W.keepIn K (.ref f)=true/\Binds K fd ps []
section
variable {X:Cx} {W:Hp->Prop} {Qx:Prop} {pos:Pos} {e:Expr} {es:List Expr} {te:TD} {ts:iT}
def V1(X:Cx)(W:Hp->Prop)(Qx:Prop)(st:Stmt)(t:TX):Prop:=∃tt,PS X st tt/\∀(ρ:Ev) (σ:St) (G0 H0 G H:Hp) (D:DE) (E:Ends),cP X.K G0 H0 ρ σ G H->t D ρ->Goes X.K G0 H0 G D E->(∀G' H',Ext G0 H0 G' H'->Qx->W H')->tt E σ H
def K4(X:Cx)(W:Hp->Prop)(Qx:Prop)(st:List Stmt)(t:TX):Prop:=∃tt,mD X st tt/\∀(ρ:Ev) (σ:St) (G0 H0 G H:Hp) (D:DE) (E:Ends),cP X.K G0 H0 ρ σ G H->t D ρ->Goes X.K G0 H0 G D E->(∀G' H',Ext G0 H0 G' H'->Qx->W H')->tt E σ H
def uz(Qx:Prop)(te:TD):TX:=fun _ ρ=>te ρ fun _=>Qx
theorem O9{C:Addr}{x:Str}{oo:List Value}{newId B nh:String}{np fT:Pos}(O:cS X.K X.mg x C oo newId)(FB:ExcBaseFacts B newId nh oo)(hc:X.calm=true)(T:B3 X C W)(he:PD X e te)(hg:Gl X x:=by rfl)(hd:(x==("__debug__":Str))=false:=by decide)
  (hs:starEach [e] X.env=(false,eval e X.env)::starEach [] X.env:=by rfl) (hp:(backTo fT (starEach [] X.env)).any (·.1)=false:=by rfl):V1 X W Qx (.Raise (some (.Call (.Name x np) [e] [] fT)) none pos) (uz Qx te):=by
 obtain⟨tt,p,q⟩:=he;exact⟨_,Pa O FB hc T p hg hd hs hp,fun ρ σ G0 H0 G H D E k h g hw=>q ρ σ G0 H0 G H _ _ k h fun v H' r G' x rr hq=>⟨rfl,hw G' H' (k.e.trans x) hq⟩⟩
def eY(n:Nat)(t:k9)(Qx:Prop)(ts:iT):TD:=fun ρ Q=>ts ρ fun ds=>ds.length=n/\t ds Q Qx
end
section
variable {P:Program} {w:World} {K:PySem.W.Frag} {mg:Str->Option Value} {base:Heap}
theorem qc{C:Addr}{x:Str}{st:Stmt}{N ps:List Str}{t:k9}{T:Prop->TX}{n d:Nat}(k:Nat)(A:At K mg x st)(S:bF N ps (bz st))
  (body:∀(Qx:Prop) (f:Addr) (cg:Value) (A:Around) (outer:List Env) (s:Shared) (H:Hp) (E:XK),cV k (A.deeper (envOfC x (bz st) s.heap.objs.size f cg))->K4 (mR (pS P w C) P w K mg base N x (bz st) f cg A outer s H E) (fun H'=>∀a,E (.ref a) none H') Qx (cC st) (T Qx))
  (spec:∀(ds:List D) (Qr:R->Prop) (Qx:Prop),ds.length=n->t ds Qr Qx->T Qx { nx:=fun _=>Qr (.fz .non),rt:=Qr } (kD N ds))
  (b:∀(kV doc pm:Value) (an:Option Addr) (cg ct:Value) (us:List Value),us.length=n->bindArgs (PySem.W.fnOf x x (eR st) (cC st) (bz st) .none kV doc pm an cg ct) ⟨us,[]⟩=pure (ps.zip us)) (hn:ps.length=n:=by rfl) (hd:k+1=d:=by rfl):bI P w K mg base C d x n t:=by
 subst hn hd;obtain⟨f,fd,F,hm⟩:=A.ex;refine⟨f,fd,ps,?_,hm,F.kp,F.binds b⟩;obtain⟨oc,od,kV,doc,pm,an,cg,ct,nT,rfl,lk,fS⟩:=F.ex;refine Gh lk fS S (fun vs H Q E h=>?_) fun A outer s H vs Q E hr h=>?_
 ·obtain⟨G,ds,Qr,Qx,_,r,hl,_⟩:=h;rw[r.length,hl]
 ·obtain⟨G,ds,Qr,Qx,s0,r,hl,ht,k0,kx⟩:=h;obtain⟨tt,p,q⟩:=body Qx f cg A outer s H E hr;exact⟨tt,p,q _ _ G H G H _ _ (Dc s0 r) (spec ds Qr Qx hl ht) ⟨fun ρ σ G' H' _ e h=>k0 _ H' _ G' e.e (eN (C3 _ _)) h,k0,fun _ _ _ _ _ _ h=>h.elim,fun _ _ _ _ _ _ h=>h.elim⟩ kx⟩
end
end L2
namespace L2
open PySem PySem.Spec PyProof.Rows
theorem MR{P:Program}{w:World}{fs:List Addr}{H H':Hp}{h h1 h2 B:Heap}(u:Un fs [] H H' h h1)(fr:∀b∈fs,H b=none/\∃o,h.get? b=some o/\∀vs,o.data≠.fields vs)(st:B.StaysIn h2)
  (mU:∀b o,((∃o,h.get? b=some o)\/H' b≠none)->h1.get? b=some o->b∉fs->B.get? b=some o) (up:h1.UpToSlots h2) (cz:jh P w H' h1):Un fs [] H H' h h2/\jh P w H' h2:=by
 have same:∀b o,((∃o,h.get? b=some o)\/H' b≠none)->b∉fs->h1.get? b=some o->h2.get? b=some o:=fun b o hb n e=>st b o (mU b o hb e n)
 have slot:∀b∈fs,∀o,h.get? b=some o->∃sl,h2.get? b=some { o with slots:=sl }:=fun b hb o e=>by
  obtain⟨n,o',e',hd⟩:=fr b hb;rw[e] at e';cases e';obtain⟨sl,e1⟩:=u.slot b o e n hb (by simp);obtain⟨tV,e2⟩:=up b _ e1 hd;exact⟨tV,e2⟩
 have nf:∀b,H' b≠none->b∉fs:=fun b hb m=>by
  obtain⟨n,o,e,_⟩:=fr b m;exact hb (u.free b o e n (by simp))
 refine⟨⟨fun b o e n hb _=>same b o (.inl ⟨o,e⟩) hb (u.keep b o e n hb (by simp)),fun b o e n hb _=>slot b hb o e,fun b o e n _=>u.free b o e n (by simp),fun b o e _=>?_,u.jG,u.jo,u.jH⟩,fun a v e=>?_⟩
 ·by_cases hb:b∈fs
  ·obtain⟨sl,e2⟩:=slot b hb o e;exact⟨_,e2⟩
  ·obtain⟨o',e1⟩:=u.there b o e (by simp);exact⟨o',same b o' (.inl ⟨o,e⟩) hb e1⟩
 ·refine(cz a v e).jX (fun b q hb hq=>?_) (fun _ z=>z) fun _ _ z=>z
  have hn:H' b≠none:=by
   rcases hb with rfl | hb
   ·rw[e];exact nofun
   ·rw[hb];exact nofun
  exact same b q (.inr hn) (nf b hn) hq
section
variable {X:Cx}
noncomputable abbrev Cx.i8(X:Cx)(a:Addr):Cx:={ X with A:=X.A.mark (some (.ref a)),calm:=false }
theorem Inv.i8{pins:List (Addr×Obj)}{σ:St}{H:Hp}{s:Shared}(I:Inv X pins σ H s)(a:Addr):Inv (X.i8 a) pins σ H s:=
 ⟨⟨I.ok.mod,I.ok.kind,I.ok.glob,I.ok.blt,I.ok.above,I.ok.inj,I.ok.has,I.ok.cab,fun z=>(by cases z),I.ok.frames,I.ok.yO,I.ok.exf,I.ok.bs,I.ok.sS,I.ok.oW,I.ok.o8,I.ok.gn,I.ok.qG⟩,I.os,I.bare,I.base,I.loc,I.cell,I.free,I.fJ,I.pin,I.cz,I.len⟩
theorem Inv.uO{pins:List (Addr×Obj)}{σ:St}{H:Hp}{s:Shared}{a:Addr}(ok:X.Ok)(I:Inv (X.i8 a) pins σ H s):Inv X pins σ H s:=
 ⟨ok,I.os,I.bare,I.base,I.loc,I.cell,I.free,I.fJ,I.pin,I.cz,I.len⟩
theorem Nj{pins:List (Addr×Obj)}{σ:St}{H:Hp}{s:Shared}{Q:VK}{E:XK}{Ex:Value->Shared->Prop}{us ds:List Value}{vs kZ:List V}{k:Nat}{f C:Addr}{fd:FuncData}{ps:List Str}{sp:Sp}(F:g8 X.prog X.w X.K X.mg X.base (pS X.prog X.w C) k f fd ps sp)(hr:cV k X.A)(hb:Binds X.K fd ps ds)(hd:Vals kZ ds)
  (I:Inv X pins σ H s) (r:Vals vs us) (h:sp (vs++kZ) H Q E) (hx:∀e s',pS X.prog X.w C X.stack H s E e s'->Ex e s'):wpAny (model X.prog X.w) X.A (call (.ref f) us) (EP X pins σ Q) Ex s:=by
 have r2:Vals (vs++kZ) (us++ds):=r.append hd;have hl:(us++ds).length=ps.length:=by rw[<-r2.length];exact F.len _ _ _ _ h
 refine wpAny_call (codeAny_mono (F.run X.A X.stack s H ⟨us,[]⟩ (us++ds) (vs++kZ) Q E hr I.ny (hb s us I.mT hl) r2 h) fun r s' hq=>?_);cases r with
 | error e=>exact hx e s' hq
 | ok fl=>
  cases fl with
  | ret u=>exact I.after hq
  | next=>exact False.elim hq
  | brk=>exact False.elim hq
  | cont=>exact False.elim hq
end
end L2
namespace L2
open PySem PySem.Spec PyProof.Rows
end L2
namespace L2
open PySem PySem.Spec PyProof.Rows
end L2
namespace L2
open PySem PySem.Spec PyProof.Rows
end L2
namespace L2
open PySem PySem.Spec PyProof.Rows
end L2
namespace L2
open PySem PySem.Spec PyProof.Rows
end L2
namespace L2
open PySem PySem.Spec PyProof.Rows
end L2
namespace PySem
open Sem (wp)
end PySem
namespace L2
open PySem PySem.Spec PyProof.Rows
end L2
namespace Ts
open PySem PySem.W PyProof.Rows
end Ts
namespace L2
open PySem PySem.Spec PyProof.Rows
end L2
namespace Ts
open PySem PySem.W PyProof.Rows
end Ts
namespace Ts
open PySem PySem.W PyProof.Rows PySem.SeqAt
end Ts
namespace L2
open PySem PySem.Spec PyProof.Rows
end L2
namespace L2
open PySem PySem.Spec PyProof.Rows
end L2
namespace L2
open PySem PySem.Spec PyProof.Rows
end L2
namespace L2
open PySem PySem.Spec PyProof.Rows
end L2
namespace L2
open PySem PySem.Spec PyProof.Rows
end L2
namespace L2
open PySem PySem.Spec PyProof.Rows
end L2
namespace L2
open PySem PySem.Spec PyProof.Rows
end L2
namespace L2
open PySem PySem.Spec PyProof.Rows
section
variable {M:Model} {A:Around} {E:Value->Shared->Prop}
variable {nm q Bw q':Str} {C N C' N':Addr} {bs bm zF FE:List Value} {hdct ud:Bool} {sn JN:List Str} {sub yN:List Value} {ab KP:Bool} {col zE:Option Bool} {dd KO:Option Addr} {k0 k1 k2 k3 k5 l0 l1 l2 l3 l5:Option Value} {newId j0:String}
theorem RP{h:Heap}{g:Array GenState}{d:Drawn}{t:Nat}{os:OsState}{e:Addr}{oe:Obj}{Q:Bool->Shared->Prop}
  (hC:h.get? C=some (excClassObj nm q C N bs bm hdct sn sub ab col dd k0 k1 k2 k3 k5 newId)) (hW:h.get? C'=some (excClassObj Bw q' C' N' zF FE ud JN yN KP zE KO l0 l1 l2 l3 l5 j0)) (he:h.get? e=some oe) (qE:oe.cls=.ref C) (j5:FE.contains (.type "BaseException")=true)
  (zp:(Value.ref C::bm).contains (.ref C')=true) (hq:Q true ⟨h,g,d,t,os⟩):wpAny M A (excMatches (.ref e) (.ref C')) Q E ⟨h,g,d,t,os⟩:=by
 have Vp:(Value.ref C'::FE).contains (.type "BaseException")=true:=by rw[List.contains_cons,j5,Bool.or_true]
 have f:=tc_notTuple;unfold excMatches;repeat(first | (with_reducible refine wpAny_loadPart_at he ?_;rw[qE]) | with_reducible refine wpAny_loadPart_at hW ?_ | (with_reducible refine wpAny_isSubtype_exc hW ?_;rw[Vp]) | (with_reducible refine wpAny_isSubtype_exc hC ?_;rw[zp]) | wp_step)
 exact hq
end
section
variable {X:Cx} {pins:List (Addr×Obj)} {σ:St} {H H0:Hp} {s s0:Shared}
theorem Inv.tell{a:Addr}{o:HO}(I:Inv X pins σ H s)(I0:Inv X pins σ H0 s0)(hn:H a=none)(h0:s0.heap.get? a=none)(new:dG X.prog X.w (upd H a o) s.heap a o):Inv X pins σ (upd H a o) s:=by
 have nl:a≠X.env.locals:=fun z=>by
  obtain⟨m,⟨oL,_,_,vb,_⟩,_⟩:=I0.loc;rw[z,vb] at h0;cases h0
 refine⟨I.ok,I.os,I.bare,⟨I.base.keep,I.base.slot,fun b ob e n hx=>?_,I.base.there,fun b xs e=>?_,fun b o' u e=>?_,fun b ps e=>?_⟩,I.loc,I.cell,by rw[cR (Ne.symm nl)];exact I.free,fun x c e=>?_,fun p hp=>?_,fun b u e=>?_,I.len⟩
 ·have:b≠a:=fun z=>by
   obtain⟨o',e1⟩:=I0.base.there b ob e hx;rw[z,h0] at e1;cases e1
  rw[cR this];exact I.base.free b ob e n hx
 ·have z:=I.base.jG b xs e;rw[cR (iM z hn)];exact z
 ·have z:=I.base.jo b o' u e;rw[cR (iM z hn)];exact z
 ·obtain⟨more,z⟩:=I.base.jH b ps e;exact⟨more,by rw[cR (iM z hn)];exact z⟩
 ·have:c≠a:=fun z=>by
   obtain⟨v,oc,sD,_⟩:=I0.cell x c e;rw[z,h0] at sD;cases sD
  rw[cR this];exact I.fJ x c e
 ·obtain⟨e,n,ne,nf,d⟩:=I.pin p hp;have:p.1≠a:=fun z=>by
   have:=(I0.pin p hp).1;rw[z,h0] at this;cases this
  exact⟨e,by rw[cR this];exact n,ne,nf,d⟩
 ·by_cases hb:b=a
  ·subst hb;rw[gP] at e;cases e;exact new
  ·rw[cR hb] at e;exact(I.cz b u e).jX (fun c v _ q=>q) (fun c q=>by rw[cR (iM q hn)];exact q) fun c xs q=>by rw[cR (iM q hn)];exact q
theorem Inv.zz{m:Str->Option Value}{v:Option Value}{h':Heap}{x:Str}{i t':Nat}(I:Inv X pins σ H s)(hN:X.N.Nodup)(hi:X.N[i]?=some x)(hm:∀(j:Nat) (y:Str) (v:V),X.N[j]?=some y->σ[j]?=some (some v)->kO X.env.scope y->∃u,RelV v u/\Look X.env s.heap m y u)
  (hn:h'.Ns X.env.locals (fun y=>if y=x then v else m y)) (hs:Heap.SameBut X.env.locals s.heap h'):Inv X pins (σ.set i none) H { s with heap:=h',toks:=t' }:=by
 obtain⟨m0,⟨oL,es,ep,vb,Ka⟩,_⟩:=id I.loc;have qI:=I.qI;refine⟨I.ok,I.os,I.bare,⟨fun b o e n hb hx=>?_,fun b o e n hb hx=>?_,I.base.free,fun b o e hx=>?_,I.base.jG,I.base.jo,I.base.jH⟩,⟨_,hn,fun j y v' e1 e2 e3=>?_⟩,fun y c e=>?_,I.free,I.fJ,fun p hp=>?_,fun b ob e=>?_,by simpa using I.len⟩
 ·exact(hs.2 b (aI (aJ (ax e) I.ok.above))).trans (I.base.keep b o e n hb hx)
 ·obtain⟨sl,e1⟩:=I.base.slot b o e n hb hx;exact⟨sl,(hs.2 b (aI (aJ (ax e) I.ok.above))).trans e1⟩
 ·obtain⟨o',e1⟩:=I.base.there b o e hx;exact⟨o',(hs.2 b (aI (aJ (ax e) I.ok.above))).trans e1⟩
 ·have hj:j≠i:=fun z=>by
   subst z;rw[List.getElem?_set] at e2;split at e2
   ·split at e2<;>cases e2
   ·exact absurd rfl (by assumption)
  rw[List.getElem?_set_ne (Ne.symm hj)] at e2;obtain⟨u',r',q⟩:=hm j y v' e1 e2 e3;refine⟨u',r',?_⟩;rcases q with⟨k,e⟩ | ⟨k,c,e,z⟩
  ·refine .inl ⟨k,?_⟩;have:y≠x:=fun e=>hj (Dq hN e1 (e▸hi))
   simp[this,e]
  ·exact .inr ⟨k,c,e,z.sameBut hs (qI y c e)⟩
 ·obtain⟨w',z⟩:=I.cell y c e;exact⟨w',z.sameBut hs (qI y c e)⟩
 ·obtain⟨e,n,ne,nf,d⟩:=I.pin p hp;exact⟨(hs.2 p.1 ne).trans e,n,ne,nf,d⟩
 ·refine(I.cz b ob e).jX (fun c w' hc q=>(hs.2 c ?_).trans q) (fun _ q=>q) fun _ _ q=>q
  rintro rfl;rcases hc with rfl | hc
  ·rw[I.free] at e;cases e
  ·rw[I.free] at hc;cases hc
noncomputable def subIn(K:PySem.W.Frag)(C C':Addr):Bool:=match K.lookup C with
 | some ⟨_,_,.cls cd,_⟩=>cd.mro.contains (.ref C')
 | _=>false
def ur(a C:Addr):Heap->Prop:=fun h=>∃o,h.get? a=some o/\o.cls=.ref C
theorem O8{s':Shared}{E:XK}{e:Value}{C C':Addr}{x x0 er y:Str}{np pos p6 p7 p8:Pos}{i j:Nat}{Q:Flow->Shared->Prop}{oo qK:List Value}{newId j0:String}(I:Inv X pins σ H s)(hx:pS X.prog X.w C X.stack H s E e s')(O:OwnCls x0 C oo newId X.mg X.base)(O':OwnCls x C' qK j0 X.mg X.base)(Fq:qK.contains (.type "BaseException")=true)
  (mq:subIn X.K C C'=true) (fA:X.stack=X.env::X.outer) (hf:X.env.frame=some X.env.locals) (hg:Gl X x) (hd:(x==("__debug__":Str))=false) (zd:X.xe=fun _ _=>False) (hN:X.N.Nodup)
  (hi:X.N[i]?=some er) (Vm:X.env.kindOf er=some .local) (Fc:kO X.env.scope er) (Fe:Loc X.env.scope er) (Fg:(er==("__debug__":Str))=false) (Fh:(er==("__classdict__":Str))=false) (Ff:X.fn er=true\/X.env.scope.names.lookup er=some .local)
  (hj:X.N[j]?=some y) (UJ:Loc X.env.scope y) (EE:∀a,swapsWith (.Name er p7) (some (.Name y p6)) p8.line (X.i8 a).env=pure false) (UK:X.fn y=true\/X.env.scope.names.lookup y=some .local)
  (k:∀a H' s2,E (.ref a) none H'->H' a=none->Inv X pins (((σ.set i (some (.ref a))).set j (some (.ref a))).set i none) (upd H' a (.ext (ur a C))) s2->Q .next s2) :
  wpAny (model X.prog X.w) X.A (noteFrame e X.env) (fun _ jI=>wpAny (model X.prog X.w) X.A (setFlight e none) (fun _ m4=>wpAny (model X.prog X.w) X.A (handleBy e X.env [.ExceptHandler (some (.Name x np)) (some er) [.Assign [.Name y p6] (.Name er p7) p8] pos]) Q (fun _ _=>False) m4) (fun _ _=>False) jI) (fun _ _=>False) s':=by
 obtain⟨a,H',rfl,os,bare,un,cz,hn,hs,⟨B,a0,fl,mU⟩,hE⟩:=hx;obtain⟨tl,Nn,nm,q,bs,hdct,sn,sub,ab,col,dd,k0,k1,k2,k3,k5,mN,hC,WH,Kd,OT⟩:=O.obj;obtain⟨Wi,WM,Bw,q',zF,ud,JN,yN,KP,zE,KO,l0,l1,l2,l3,l5,Wq,VD,Vx,U5,V2⟩:=O'.obj;have zp:(Value.ref C::tl).contains (.ref C')=true:=by
  unfold subIn at mq;split at mq
  ·rename_i cd _ look;have:=I.ok.mod.sA _ _ look;rw[hC] at this;cases this;exact mq
  ·cases mq
 have fr:∀b∈ir X.stack,H b=none/\∃o,s.heap.get? b=some o/\∀vs,o.data≠.fields vs:=fun b hb=>⟨I.ny.qG b hb,(I.ny.gn.mem hb).2⟩
 have after:∀h2,B.StaysIn h2->s'.heap.UpToSlots h2->Inv X pins σ H' { s' with heap:=h2 }:=fun h2 st up=>by
  obtain⟨yE,EM⟩:=MR un fr st mU up cz;obtain⟨hh,g,d,t,su⟩:=s';obtain rfl:su=s.os:=os;have J:Inv X pins σ H' { s with heap:=h2,gens:=g,drawn:=d,toks:=t }:=I.call (ch:=[]) yE EM bare fun b z=>absurd z (by simp)
  exact J
 have o7:=fl;rw[fA] at o7;refine wpAny_looks_onW (by rw[<-fA];exact I.ok.frames) hf o7 fun h2 held JK=>?_
 refine wpAny_landsW held fun h3 Fx JJ=>?_
 have I3:=after h3 Fx.1 (JK.trans JJ);obtain⟨ob,U3,ER⟩:=Fx.there;refine wpAny_handleBy_cons (codeAny_handlers_test (vU (I3.i8 a) hg O'.bound ?_ hd)) (by intro q;cases q);refine RP (I3.bk _ _ hC) (I3.bk _ _ VD) U3 ER (V2.hasType Fq) zp (codeAny_handlers_suite_as ?_);refine lands_againW Fx fun h4 BL D9=>?_
 have I4:=after h4 BL.1 ((JK.trans JJ).trans D9);obtain⟨JV,zh,zg⟩:=BL.there;have I5:=I4.tell (a:=a) (o:=.ext (ur a C)) I hn hs ⟨⟨JV,zh,zg⟩,⟨JV,zh⟩,fun h1 h2 ⟨o,e1,e2⟩ kk=>⟨o,kk o e1,e2⟩⟩;refine Dj (v:=.ref a) I5 hN hi Fe rfl (fun s5 I6=>?_) Ff;have Ve:i<σ.length:=by rw[I.len];exact(ao.mp hi).1
 have st:mD (X.i8 a) [.Assign [.Name y p6] (.Name er p7) p8] (wX (B8 i) (xk j)):=C5 (Aq hN hj UJ (mf hi Fc Fg Fh) (EE a) UK);have run:=st pins s5 _ _ { nx:=fun cj H2=>cj=(σ.set i (some (.ref a))).set j (some (.ref a))/\H2=upd H' a (.ext (ur a C)),rt:=fun _ _=>False } (I6.i8 a) ⟨.ref a,by rw[List.getElem?_set_self Ve],rfl,rfl⟩;refine wpAny_mono run (fun f s6 z=>?_) fun _ _ z=>?_
 ·cases f with
  | next=>
   obtain⟨cj,H2,I7,rfl,rfl⟩:=z;have I8:=I7.uO I.ok;obtain⟨m,ve,nZ⟩:=I8.loc;have qE:(X.env.scope.kind==.class||(X.env.scope.kind==.module&&X.env.locals != X.env.globals))=false:=by rw[I.ok.kind];rfl
   refine wpAny_nameGoes_keeps Vm ve qE fun h' v vd t6=>?_
   exact k a H' _ hE hn (I8.zz hN hi nZ vd t6)
  | brk=>obtain⟨_,_,_,z⟩:=z;exact z.elim
  | cont=>obtain⟨_,_,_,z⟩:=z;exact z.elim
  | ret u=>obtain⟨_,_,_,_,_,z⟩:=z;exact z.elim
 ·rw[show(X.i8 a).xe=X.xe from rfl,zd] at z;exact z.elim
end
end L2
namespace PySem.W
open PySem PySem.Spec PySem.Calls PyProof.Rows Builtin Builtin.ObjectAttr Builtin.Getset_descriptor
section
variable {prog:Program} {w:World} {A:Around} {E:Value->Shared->Prop} {s:Shared} {K:Frag} {x C D:Addr} {name:Str}
def lM(h:Heap)(x C:Addr):Prop:=∃o,h.get? x=some o/\o.cls=.ref C
theorem lM.type{M:Model}{h:Heap}(I:lM h x C):Looks M h (typeOf (.ref x)) (.ref C):=by
 obtain⟨o,e,c⟩:=I;exact c▸(Looks.ld e).andThen .now
theorem Ni{M:Model}{h:Heap}{g a:Value}(X:K.In h)(ha:findIn K (.ref C) name=some (some a))(hg:specialIn K a "__get__"=some (some g))(ht:takesIn K a=some true):Looks M h (find (.ref x) (.ref C) name) (.bind g a):=by
 have L1:=looks_findIn (M:=M) X ha;have L2:Looks M h (getOf (some a)) (some g):=looks_specialIn X hg;have L3:=looks_takesIn (M:=M) X ht;exact L1.andThen (L2.andThen ((show Looks M h (dataDescriptor? (some a) (some g)) (some (g,a)) from L3.andThen .now).andThen (Looks.tag .now)))
theorem Ri{tp:Value}{R:Result->Shared->Prop}(X:K.In s.heap)(I:lM s.heap x C)(hm:mroIn K C (.type "object")=some true)
  (h:R (.ok (.ret (.ref C))) s):codeAny (model prog w) A (.call (.builtin "getset_descriptor.__get__") ⟨[.builtin "object.__class__",.ref x,tp],[]⟩) R s:=by
 obtain⟨hh,g,dr,t,os⟩:=s;have L0:=I.type (M:=model prog w);have L1:=looks_mroIn (M:=model prog w) X hm;refine codeAny_call_builtin KF.slot_gs.plain KF.entry_gs (KF.slot_gs.check _ _ _ _ _ _ _ _ KF.type_class (KF.args_gs _ _ _) ?_);unfold Builtin.«getset_descriptor.__get__» descrGet;rw[dga_obj];refine ae (ar ?_);unfold descrGetter descrCheckInstance descrNameAndClass isInstance;simp only[KF.owner_class];repeat lk
 refine⟨Code.quiet_builtin _ (by decide +kernel),codeAny_builtin KF.entry_class ?_⟩;unfold Builtin.«object.__class__» shownTypeOf;repeat lk
 exact h
theorem O7{M:Model}{tZ:Value}{Q:Unit->Shared->Prop}(X:K.In s.heap)(I:lM s.heap x D)(hb:mroIn K D (.type "BaseException")=some true)(hq:Q () s):wpAny M A (checkBuiltinCall "BaseException.__getattribute__" ⟨[.ref x,tZ],[]⟩) Q E s:=by
 obtain⟨hh,g,d,t,os⟩:=s;have hk:builtinKind "BaseException.__getattribute__"=some .slot:=by decide +kernel
 have u6:splitId "BaseException.__getattribute__"=some ("BaseException","__getattribute__"):=by decide +kernel
 have ha:=F.args_bexc_ga (.ref x) tZ;have L0:=I.type (M:=M);have L1:=looks_mroIn (M:=M) X hb;simp only[checkBuiltinCall,hk,u6];refine ae ?_;unfold isInstance;refine ae (L0.at (L1.at ?_));repeat(any_goals (first | assumption | wp_step))
theorem O6{g a:Value}{tk:Tok}{R:Fin->Shared->Prop}(X:K.In s.heap)(I:lM s.heap x D)(ha:findIn K (.ref D) name=some (some a))(hg:specialIn K a "__get__"=some (some g))(ht:takesIn K a=some true)
  (h:wpAny (model prog w) A (call g [a,.ref x,.ref D]) (fun v s'=>R (.done (.ret v)) s') E s) :
  wpAny (model prog w) A (Builtin.«object.__getattribute__» ⟨[.ref x,.str name tk],[]⟩) R E s:=by
 obtain⟨hh,gg,d,t,os⟩:=s;have L0:=I.type (M:=model prog w);have L1:=Ni (M:=model prog w) (x:=x) X ha hg ht;unfold Builtin.«object.__getattribute__»;refine ae (ar (ae (ar (ae (L0.at (ae (L1.at ?_)))))));show wpAny _ _ (holding [a] (call g [a,.ref x,.ref D]) >>= ret) _ _ _;exact ae (ba (wpAny_mono h (fun v s' z=>ar z) fun _ _ z=>z))
theorem O5{Q:Option Value->Shared->Prop}{g a:Value}(X:K.In s.heap)(I:lM s.heap x D)(Vj:findIn K (.ref D) "__getattribute__"=some (some (.builtin "BaseException.__getattribute__")))(Vi:findIn K (.ref D) "__getattr__"=some none)
  (hb:mroIn K D (.type "BaseException")=some true) (ha:findIn K (.ref D) name=some (some a)) (hg:specialIn K a "__get__"=some (some g)) (ht:takesIn K a=some true)
  (h:wpAny (model prog w) A.in1 (call g [a,.ref x,.ref D]) (fun v s'=>wpAny (model prog w) A (handedOut v) (fun v wz=>Q (some v) wz) (fun _ _=>False) s') (fun _ _=>False) { s with toks:=s.toks+1 }) :
  wpAny (model prog w) A (getAttr? (.ref x) name) Q E s:=by
 obtain⟨hh,gg,d,t,os⟩:=s;have L0:=I.type (M:=model prog w);have L1:=looks_findIn (M:=model prog w) X Vj;have L2:=looks_findIn (M:=model prog w) X Vi;have f3:=F.excAttr_ValueError.ga.bind (.ref x);unfold getAttr? getAttrBy? getAttrBy;refine ae (wpAny_mkText (ae (wpAny_attempt (ba (ae (L0.at (ae (L1.at ?_))))))));show wpAny _ _ (getAttrByItsOwn _ _ _ _ _ _) _ _ _;unfold getAttrByItsOwn;refine ae (L2.at (ae (wpAny_attempt (ba ?_))));show wpAny _ _ (boundAndCalled _ _ _) _ _ _;unfold boundAndCalled;rw[f3];refine ae (ar (wpAny_call (codeAny_call_builtin F.excAttr_ValueError.ga.plain F.entry_bexc_ga (O7 (s:=⟨hh,gg,d,t+1,os⟩) X I hb (O6 (s:=⟨hh,gg,d,t+1,os⟩) X I ha hg ht (wpAny_mono h (fun v s' z=>?_) fun _ _ z=>z.elim))))));exact wpAny_mono z (fun v wz hv=>ar hv) (fun _ _ z=>z.elim)
structure FQ (K:Frag) (D:Addr):Prop where
 hg:findIn K (.ref D) "__getattribute__"=some (some (.builtin "BaseException.__getattribute__"))
 hh:findIn K (.ref D) "__getattr__"=some none
 hd:hasDictIn K D=true
 ha:findIn K (.ref D) "__class__"=some (some (.builtin "object.__class__"))
 hn:specialIn K (.builtin "object.__class__") "__get__"=some (some (.builtin "getset_descriptor.__get__"))
 ht:takesIn K (.builtin "object.__class__")=some true
 hm:mroIn K D (.type "object")=some true
 hb:mroIn K D (.type "BaseException")=some true
theorem O4{Q:Option Value->Shared->Prop}(B:FQ K D)(X:K.In s.heap)(I:lM s.heap x D)(h:Q (some (.ref D)) { s with toks:=s.toks+1 }):wpAny (model prog w) A (getAttr? (.ref x) "__class__") Q E s:=
 O5 X I B.hg B.hh B.hb B.ha B.hn B.ht (wpAny_call (Ri (s:={ s with toks:=s.toks+1 }) X I B.hm (handed_on rfl h)))
theorem nU(B:FQ K D):KitX K (.ref x) (.ref D) (fun h=>lM h x D) where
 ty:=fun _ _ _ I=>I.type
 it:=fun _ _ X _=>by
  obtain⟨VV,sM,_⟩:=any_some B.hd;unfold clsIn at sM;split at sM
  ·rename_i c' d' VW Ee ho;intro A' Q' E' s' k q;unfold isType loadHead;exact ae (wpAny_loadPart (k _ _ (X _ _ ho)) (ar q))
  ·cases sM
 ne:=fun h tp dd its n sl X UQ=>by
  obtain⟨VV,sM,_⟩:=any_some B.hd;refine Bool.eq_false_iff.mpr fun q=>?_
  have e:D=tp:=Value.ref.inj (beq_iff_eq.mp q);subst e;unfold clsIn at sM;split at sM
  ·rename_i c' d' VW Ee ho;have:=X _ _ ho;rw[UQ] at this;cases this
  ·cases sM
 ca:=fun X I k=>O4 B X I k
end
end PySem.W
namespace L2
open PySem PySem.Spec PyProof.Rows
noncomputable abbrev sY:=PySem.W.FQ
section
variable {X:Cx} {pos:Pos} {e:Expr} {te:TD} {D:Addr} {b:Bool}
theorem Inv.zC{pins:List (Addr×Obj)}{σ:St}{H:Hp}{s:Shared}{v:V}{cn:Str}{fs:List (Str×L2.D)}(I:Inv X pins σ H s)(o5:PySem.W.nsIn X.K mainGlobals cn=some (some (.ref D)))(r:Rep X.K H v (.exc cn fs)):∃a,v=.ref a/\PySem.W.lM s.heap a D:=by
 simp only[Rep] at r;obtain⟨a,φ,C,dd,gs,rfl,e,hc,UH,_⟩:=r;rw[o5] at hc;cases hc;obtain⟨o,h1,h2,_⟩:=UH _ (I.cz a _ e).1;exact⟨a,rfl,o,h1,h2⟩
theorem IA{c:V}{uc:Value}{cn:Str}(hK:sY X.K D)(o5:PySem.W.nsIn X.K mainGlobals cn=some (some (.ref D)))(hu:∀u,RelV c u->u=uc)(hb:PySem.W.kitOne X.K (.ref D) uc=some b) :
  df X (.builtin "isinstance") (fun xs H Q=>∃x fs,xs=[x,c]/\Rep X.K H x (.exc cn fs)/\Q (.bl b) H):=by
 intro pins s σ H xs us Q I r h;obtain⟨x,fs,rfl,rx,q⟩:=h;obtain⟨u,u2,rfl,ru,rc⟩:=vE r;obtain⟨a,rfl,ex⟩:=I.zC o5 rx;cases (show u=Value.ref a from ru);rw[hu _ rc];exact PySem.W.kia_one (PySem.W.nU hK) I.mT ex hb (by intro z;cases z) fun tk=>⟨.bl b,H,I.tok tk,rfl,q⟩
theorem QT{cs:List Addr}{cn:Str}(hK:sY X.K D)(o5:PySem.W.nsIn X.K mainGlobals cn=some (some (.ref D)))(hb:PySem.W.kitAny X.K (.ref D) (cs.map Value.ref)=some b) :
  df X (.builtin "isinstance") (fun xs H Q=>∃x p fs,xs=[x,.ref p]/\fW X.K H p (cs.map V.ref)/\Rep X.K H x (.exc cn fs)/\Q (.bl b) H):=by
 intro pins s σ H xs us Q I r h;obtain⟨x,p,fs,rfl,hp,rx,q⟩:=h;obtain⟨u,u2,rfl,ru,rc⟩:=vE r;obtain⟨a,rfl,ex⟩:=I.zC o5 rx;cases (show u=Value.ref a from ru);cases (show u2=Value.ref p from rc);obtain⟨its,rv,ht,hz⟩:=I.tuple hp;have ei:its=cs.map Value.ref:=by
  clear ht hb hp hz;induction cs generalizing its with
  | nil=>cases rv;rfl
  | cons c r ih=>
   cases rv with
   | cons h1 h2=>rw[aj,<-ih _ h2];cases (show _=Value.ref c from h1);rfl
 subst ei;obtain⟨⟨cls,dd,data,sl⟩,g1,g2,n,g3⟩:=ht;simp only at g2 g3;subst g2 g3;exact PySem.W.kia_tup (PySem.W.nU hK) I.mT ex g1 hb (by intro z;cases z) fun tk=>⟨.bl b,H,I.tok tk,rfl,q⟩
def tq(cn:Str)(b:Bool)(te:TD):TD:=fun ρ Q=>te ρ fun r=>match r.val with
 | .exc c _=>c=cn/\Q (.fz (.bl b))
 | _=>False
theorem Nh{C:Addr}{cn CN:Str}{p p':Pos}(he:PD X e te)(hK:sY X.K D)(o5:PySem.W.nsIn X.K mainGlobals cn=some (some (.ref D)))(hm:X.mg "isinstance"=none)(nZ:X.mg CN=some (.ref C))(hb:PySem.W.kitOne X.K (.ref D) (.ref C)=some b)
  (hg:Gl X "isinstance":=by rfl) (vh:Gl X CN:=by rfl) (hd:(CN==("__debug__":Str))=false:=by decide) (fA:starEach [e,Expr.Name CN p'] X.env=(false,eval e X.env)::starEach [Expr.Name CN p'] X.env:=by rfl) (ni:starEach [Expr.Name CN p'] X.env=(false,eval (.Name CN p') X.env)::starEach [] X.env:=by rfl)
  (gH:(backTo pos (starEach [Expr.Name CN p'] X.env)).any (·.1)=false:=by rfl):PD X (.Call (.Name "isinstance" p) [e,.Name CN p'] [] pos) (tq cn b te):=by
 obtain⟨t,pp,q⟩:=he;refine⟨_,xS (IA (c:=.ref C) (uc:=.ref C) (b:=b) hK o5 (fun u h=>h) hb) hg hm boot_isinstance (lp pp (lp (xJ (v:=.ref C) vh nZ rfl hd) nN ni) fA) (by decide) (by decide) fA gH,fun ρ σ G0 H0 G H Q P E h k=>q ρ σ G0 H0 G H _ _ E h fun v H' r G' x rr hq=>?_⟩;obtain⟨G2,x2,rv,_⟩:=rr.freeze x;split at hq
 ·rename_i c fs e1;obtain⟨rfl,hq⟩:=hq;rw[e1] at rv;exact⟨v,fs,rfl,rv.mono x2.s,k _ _ _ G2 x2 (eN (jw _ _ _)) hq⟩
 ·exact hq.elim
theorem Ng{T:String}{cn TN:Str}{p p':Pos}(he:PD X e te)(hK:sY X.K D)(o5:PySem.W.nsIn X.K mainGlobals cn=some (some (.ref D)))(hm:X.mg "isinstance"=none)(nZ:X.mg TN=none)(hv:bootBuiltins TN=some (.type T))(hb:PySem.W.kitOne X.K (.ref D) (.type T)=some b)
  (hg:Gl X "isinstance":=by rfl) (vh:Gl X TN:=by rfl) (hn:TN≠"__name__":=by decide) (hd:(TN==("__debug__":Str))=false:=by decide) (fA:starEach [e,Expr.Name TN p'] X.env=(false,eval e X.env)::starEach [Expr.Name TN p'] X.env:=by rfl) (ni:starEach [Expr.Name TN p'] X.env=(false,eval (.Name TN p') X.env)::starEach [] X.env:=by rfl)
  (gH:(backTo pos (starEach [Expr.Name TN p'] X.env)).any (·.1)=false:=by rfl):PD X (.Call (.Name "isinstance" p) [e,.Name TN p'] [] pos) (tq cn b te):=by
 obtain⟨t,pp,q⟩:=he;refine⟨_,xS (IA (c:=.ty T) (uc:=.type T) (b:=b) hK o5 (fun u h=>h) hb) hg hm boot_isinstance (lp pp (lp (Oj (v:=.ty T) vh nZ hv rfl hn hd) nN ni) fA) (by decide) (by decide) fA gH,fun ρ σ G0 H0 G H Q P E h k=>q ρ σ G0 H0 G H _ _ E h fun v H' r G' x rr hq=>?_⟩;obtain⟨G2,x2,rv,_⟩:=rr.freeze x;split at hq
 ·rename_i c fs e1;obtain⟨rfl,hq⟩:=hq;rw[e1] at rv;exact⟨v,fs,rfl,rv.mono x2.s,k _ _ _ G2 x2 (eN (jw _ _ _)) hq⟩
 ·exact hq.elim
theorem Iw:∀(cs:List (Str×Addr×Pos)),(∀c∈cs,X.mg c.1=some (.ref c.2.1)/\Gl X c.1/\(c.1==("__debug__":Str))=false)->(∀es,(∃l,es=(cs.drop l).map fun c=>Expr.Name c.1 c.2.2)->starEach es X.env=match es with | []=>starEach [] X.env | e::r=>(false,eval e X.env)::starEach r X.env)->
  ∃t,PA X (cs.map fun c=>Expr.Name c.1 c.2.2) t/\∀(σ:St) (H:Hp) (Q:List V->Hp->Prop),Q (cs.map fun c=>V.ref c.2.1) H->t σ H Q
 | [],_,_=>⟨_,nN,fun _ _ _ q=>q⟩
 | c::cs,h,hs=>by
  obtain⟨t,p,q⟩:=Iw cs (fun d hd=>h d (aA _ hd)) (fun es bR=>by obtain⟨l,e⟩:=bR;exact hs es ⟨l+1,e⟩);obtain⟨h1,h2,h3⟩:=h c List.mem_cons_self;exact⟨_,lp (xJ (v:=.ref c.2.1) h2 h1 rfl h3) p (hs _ ⟨0,rfl⟩),fun σ H Q z=>q σ H _ z⟩
theorem Iu{cs:List (Str×Addr×Pos)}{cn:Str}{p p3:Pos}{x1:Nat}(he:PD X e te)(hK:sY X.K D)(o5:PySem.W.nsIn X.K mainGlobals cn=some (some (.ref D)))(hm:X.mg "isinstance"=none)(hc:∀c∈cs,X.mg c.1=some (.ref c.2.1)/\Gl X c.1/\(c.1==("__debug__":Str))=false)
  (hb:PySem.W.kitAny X.K (.ref D) ((cs.map fun c=>c.2.1).map Value.ref)=some b) (hl:cs.length<=sizeLine) (hs:∀es,(∃l,es=(cs.drop l).map fun c=>Expr.Name c.1 c.2.2)->starEach es X.env=match es with | []=>starEach [] X.env | e::r=>(false,eval e X.env)::starEach r X.env)
  (hg:Gl X "isinstance":=by rfl) (fA:starEach [e,Expr.Tuple (cs.map fun c=>Expr.Name c.1 c.2.2) x1 p3] X.env=(false,eval e X.env)::starEach [Expr.Tuple (cs.map fun c=>Expr.Name c.1 c.2.2) x1 p3] X.env:=by rfl)
  (ni:starEach [Expr.Tuple (cs.map fun c=>Expr.Name c.1 c.2.2) x1 p3] X.env=(false,eval (Expr.Tuple (cs.map fun c=>Expr.Name c.1 c.2.2) x1 p3) X.env)::starEach [] X.env:=by rfl)
  (gH:(backTo pos (starEach [Expr.Tuple (cs.map fun c=>Expr.Name c.1 c.2.2) x1 p3] X.env)).any (·.1)=false:=by rfl):PD X (.Call (.Name "isinstance" p) [e,.Tuple (cs.map fun c=>Expr.Name c.1 c.2.2) x1 p3] [] pos) (tq cn b te):=by
 obtain⟨t,pp,q⟩:=he;obtain⟨tg,pg,qg⟩:=Iw (X:=X) cs hc hs;refine⟨_,xS (QT (cs:=cs.map fun c=>c.2.1) (b:=b) hK o5 hb) hg hm boot_isinstance (lp pp (lp (CF pg) nN ni) fA) (by decide) (by decide) fA gH,fun ρ σ G0 H0 G H Q P E h k=>q ρ σ G0 H0 G H _ _ E h fun v H' r G' x rr hq=>?_⟩;obtain⟨G2,x2,rv,_⟩:=rr.freeze x;split at hq
 ·rename_i c fs e1;obtain⟨rfl,hq⟩:=hq;rw[e1] at rv;refine qg _ _ _ ⟨by simpa using hl,fun p hp=>?_⟩;have x3:=x2.trans (Ext.own (o:=.tup (cs.map fun c=>V.ref c.2.1)) x2.s hp);refine⟨v,p,fs,rfl,?_,rv.mono x3.s,k _ _ _ G2 x3 (eN (jw _ _ _)) hq⟩;rw[aQ];exact fW.of gP
 ·exact hq.elim
end
end L2
namespace L2
open PySem PySem.Spec PyProof.Rows
end L2
namespace L2
open PySem PySem.Spec PyProof.Rows
end L2
namespace L2
open PySem PySem.Spec PyProof.Rows
end L2
namespace L2
open PySem PySem.Spec PyProof.Rows
end L2
namespace L2
open PySem PySem.Spec PyProof.Rows
end L2
namespace L2
open PySem PySem.Spec PyProof.Rows
section
variable {M:Model} {A:Around} {E:Value->Shared->Prop} {s:Shared} {B:Heap} {env:Env} {outer l:List Env} {L e T:Addr} {oe oT:Obj} {vs ts:Array Value} {cls fl head x:Value} {dd:Option Addr} {Q:Unit->Shared->Prop}
theorem G9{h:Heap}(ho:h.get? e=some oe)(hd:oe.data=.fields vs)(k:Nat)(x:Value) :
  (h.update e (Obj.mapFields (·.setIfInBounds k x))).get? e=some (oe.mapFields (·.setIfInBounds k x))/\(∀b,b≠e->(h.update e (Obj.mapFields (·.setIfInBounds k x))).get? b=h.get? b)/\h.UpToSlots (h.update e (Obj.mapFields (·.setIfInBounds k x))):=by
 have o1:∀b,b≠e->(h.update e (Obj.mapFields (·.setIfInBounds k x))).get? b=h.get? b:=fun b hb=>Heap.get?_update_other _ _ (Ne.symm hb)
 refine⟨Heap.get?_update_self _ ho (Obj.isFreed_of_fields (Obj.data_mapFields hd _)),o1,fun b o q hn=>⟨o.slots,?_⟩⟩;rw[o1 b fun z=>by rw[z,ho] at q;cases q;exact hn vs hd];exact q
theorem Gm{h h':Heap}(u:h.UpToSlots h')(f:h.FunFrames B l):h'.FunFrames B l:=f.of_keeps fun b o q hn=>let⟨_,z⟩:=u b o q hn;⟨_,z,rfl⟩
end
end L2
namespace L2
open PySem PySem.Spec PyProof.Rows
end L2
namespace L2
open PySem PySem.Spec PyProof.Rows
end L2
namespace L2
open PySem PySem.Spec PyProof.Rows Builtin Builtin.ObjectAttr
end L2
namespace L2
open PySem PySem.Spec PyProof.Rows
end L2
namespace L2
open PySem PySem.Spec PyProof.Rows
end L2
namespace L2
open PySem PySem.Spec PyProof.Rows
noncomputable abbrev XQ:=Str->Str->R->Prop
section
variable {X:Cx} {c:Hp->Hp->Prop} {pos:Pos} {e:Expr} {es:List Expr} {te:TD} {ts:iT}
def sU(X:Cx)(c:Hp->Hp->Prop)(e:Expr)(t:TD):Prop:=∃tt,PE X e tt/\∀(ρ:Ev) (σ:St) (G0 H0 G H:Hp) (Q:R->Prop) (P:VK),cP X.K G0 H0 ρ σ G H->t ρ Q->(∀v H' r G',Ext G H G' H'->dv X.K G' H' H v r->Q r->P v H')->c G0 H0->tt σ H P
def uq(X:Cx)(c:Hp->Hp->Prop)(es:List Expr)(t:iT):Prop:=∃tt,PA X es tt/\∀(ρ:Ev) (σ:St) (G0 H0 G H:Hp) (Q:List D->Prop) (P:List V->Hp->Prop),cP X.K G0 H0 ρ σ G H->t ρ Q->(∀vs H' ds G',Ext G H G' H'->bw X.K G' vs ds->Q ds->P vs H')->c G0 H0->tt σ H P
def vv(X:Cx)(c:Hp->Hp->Prop)(st:Stmt)(t:TX):Prop:=∃tt,PS X st tt/\∀(ρ:Ev) (σ:St) (G0 H0 G H:Hp) (D:DE) (E:Ends),cP X.K G0 H0 ρ σ G H->t D ρ->Goes X.K G0 H0 G D E->c G0 H0->tt E σ H
def tj(X:Cx)(c:Hp->Hp->Prop)(st:List Stmt)(t:TX):Prop:=∃tt,mD X st tt/\∀(ρ:Ev) (σ:St) (G0 H0 G H:Hp) (D:DE) (E:Ends),cP X.K G0 H0 ρ σ G H->t D ρ->Goes X.K G0 H0 G D E->c G0 H0->tt E σ H
theorem gj(h:mE X es ts):uq X c es ts:=let⟨tt,p,q⟩:=h;⟨tt,p,fun ρ σ G0 H0 G H Q P E h k _=>q ρ σ G0 H0 G H Q P E h k⟩
theorem vQ{st:Stmt}{t:TX}(h:PX X st t):vv X c st t:=let⟨tt,p,q⟩:=h;⟨tt,p,fun ρ σ G0 H0 G H D E k h g _=>q ρ σ G0 H0 G H D E k h g⟩
theorem Nf{ly:List Stmt}{t:TX}(h:ou X ly t):tj X c ly t:=let⟨tt,p,q⟩:=h;⟨tt,p,fun ρ σ G0 H0 G H D E k h g _=>q ρ σ G0 H0 G H D E k h g⟩
theorem nP(h:sU X c e te)(hr:uq X c es ts)(hs:starEach (e::es) X.env=(false,eval e X.env)::starEach es X.env:=by rfl):uq X c (e::es) (bx te ts):=by
 obtain⟨t1,p1,q1⟩:=h;obtain⟨t2,p2,q2⟩:=hr;refine⟨_,lp p1 p2 hs,fun ρ σ G0 H0 G H Q P E h k hc=>q1 ρ σ G0 H0 G H _ _ E h (fun v H' r G' x1 rr hq=>?_) hc⟩;obtain⟨G2,x2,rv,_⟩:=rr.freeze x1;exact q2 ρ σ G0 H0 G2 H' _ _ (E.ext x2) hq (fun vs H3 ds G3 x3 rs eQ=>k _ H3 _ G3 (x2.trans x3) (bw.cons (rv.mono x3.g) rs) eQ) hc
theorem kF{st:Stmt}{ly:List Stmt}{t u:TX}(h1:vv X c st t)(h2:tj X c ly u):tj X c (st::ly) (bQ t u):=by
 obtain⟨t1,p1,q1⟩:=h1;obtain⟨t2,p2,q2⟩:=h2;exact⟨_,Di p1 p2,fun ρ σ G0 H0 G H D E k h g hw=>q1 ρ σ G0 H0 G H _ _ k h ⟨fun ρ' cj G' H' s' k' h'=>q2 ρ' cj G0 H0 G' H' D E k' h' (g.shift s') hw,g.rt,g.bk,g.ct⟩ hw⟩
theorem pA{st:Stmt}{t:TX}(h1:vv X c st t):tj X c [st] t:=let⟨t1,p1,q1⟩:=h1;⟨_,C5 p1,q1⟩
theorem O3(i:Nat){ly:List Stmt}{t:TX}(h:tj X c ly t):tj X c ly (fun D ρ=>t D (ja i ρ)):=by
 obtain⟨t1,p1,q1⟩:=h;refine⟨_,p1,fun ρ σ G0 H0 G H D E k h g hw=>?_⟩;obtain⟨G',k',s'⟩:=k.freeze i;exact q1 _ σ G0 H0 G' H D E k' h (g.shift s') hw
theorem MQ{cd:Expr}{a b:List Stmt}{tc:iR}{t u:TX}(hc:PB X cd tc)(ha:tj X c a t)(hb:tj X c b u):vv X c (.If cd a b pos) (gR tc t u):=by
 obtain⟨t0,p0,q0⟩:=hc;obtain⟨t1,p1,q1⟩:=ha;obtain⟨t2,p2,q2⟩:=hb;refine⟨_,Gj p0 p1 p2,fun ρ σ G0 H0 G H D E k h g hw=>q0 ρ σ G0 H0 G H _ _ k h fun b H' G' x hq=>?_⟩;cases b with
 | true=>
  rw[if_pos rfl] at hq ⊢;exact q1 ρ σ G0 H0 G' H' D E (k.ext x) hq (g.shift x.g) hw
 | false=>
  rw[if_neg aG] at hq ⊢;exact q2 ρ σ G0 H0 G' H' D E (k.ext x) hq (g.shift x.g) hw
theorem lr(h:sU X c e te)(hs:swapsWith e none pos.line X.env=pure false:=by rfl):vv X c (.Expr e pos) (kB te):=by
 obtain⟨t,p,q⟩:=h;exact⟨_,vT p hs,fun ρ σ G0 H0 G H D E k h g hw=>q ρ σ G0 H0 G H _ _ k h (fun v H' r G' x rr hq=>g.nx ρ σ G' H' x.g (k.ext x) hq) hw⟩
theorem xH(h:sU X c e te):vv X c (.Return (some e) pos) (eX te):=by
 obtain⟨t,p,q⟩:=h;exact⟨_,xA p,fun ρ σ G0 H0 G H D E k h g hw=>q ρ σ G0 H0 G H _ _ k h (fun v H' r G' x rr hq=>g.rt v H' r G' (k.e.trans x) (rr.fI k.e.h) hq) hw⟩
end
end L2
namespace PySem.W
open PySem PySem.Spec PySem.Calls PyProof.Rows Builtin Builtin.ObjectAttr Builtin.Getset_descriptor
end PySem.W
namespace L2
open PySem PySem.Spec PyProof.Rows
end L2
namespace L2
open PySem PySem.Spec PyProof.Rows
end L2
namespace L2
open PySem PySem.Spec PyProof.Rows
end L2
namespace L2
open PySem PySem.Spec PyProof.Rows
end L2
namespace Ts
open PySem PySem.W PyProof.Rows
noncomputable abbrev Kx:=Sum Int Str
noncomputable def kv:Value->Kx
 | .str x _=>.inr x
 | .int i _=>.inl i
 | _=>.inl 0
end Ts
namespace Ts
open PySem PySem.W PyProof.Rows
end Ts
namespace L2
open PySem PySem.Spec PyProof.Rows
noncomputable abbrev EK:=List Key
end L2
namespace L2
open PySem PySem.Spec PyProof.Rows
end L2
namespace L2
open PySem PySem.Spec PyProof.Rows
end L2
namespace PySem
open Sem (wp)
end PySem
namespace L2
open PySem PySem.Spec PyProof.Rows
end L2
namespace L2
open PySem PySem.Spec PyProof.Rows
end L2
namespace L2
open PySem PySem.Spec PyProof.Rows
end L2
namespace L2
open PySem PySem.Spec PyProof.Rows
section
variable {M:Model} {A:Around} {E:Value->Shared->Prop} {s:Shared} {B:Heap} {env:Env} {outer l:List Env} {L e:Addr} {cls a0 fl:Value} {Q:Unit->Shared->Prop}
theorem Py{x:Value}(zD env:Env)(h:zD.frame=env.frame):noteFrame x zD=noteFrame x env:=by
 unfold noteFrame PySem.frameOf;rw[h]
theorem Ir(lE:A.frames=some (env::outer))(hf:env.frame=some L)(st:B.StaysIn s.heap)(new:B.get? e=none)(ff:s.heap.FunFrames B (env::outer))(tr:s.heap.TracedAtW B e cls a0 fl)
  (k:∀h',Heap.HeldW B (env::outer) e cls a0 L h'->s.heap.UpToSlots h'->Q () { s with heap:=h' }):wpAny M A (noteFrame (.ref e) env) Q E s:=by
 by_cases Kl:fl=rawInt L
 ·subst Kl;exact wpAny_noteFrame_againW hf tr (k s.heap ⟨st,new,ff,tr⟩ (Heap.UpToSlots.refl _))
 obtain⟨oe,vs,T,oT,ts,he,⟨rfl,h0⟩,hd,h1,hn,wJ,hT,rB,h3⟩:=tr;unfold noteFrame;simp only[hf];refine ae (wpAny_field he hd h1 ?_);rw[if_pos (show(Value.ref T != Value.none)=true from by simp)];refine ae (wpAny_field hT rB h3 ?_);rw[if_neg (show ¬((fl==rawInt L)=true) from by simpa using Kl)];obtain⟨r1,r2,r3⟩:=G9 hT rB 3 .none;refine ae (wpAny_setField hT rB (Array.getElem?_eq_some_iff.mp h3).1 ?_);refine wpAny_entryW lE (Gm r3 ff) hf ((r2 e (Ne.symm wJ)).trans he) (fun b o q=>?_) new hd (Array.getElem?_eq_some_iff.mp h1).1 h0 fun h' hN=>?_
 ·exact(r2 b fun z=>by rw[z,hn] at q;cases q).trans (st b o q)
 ·obtain⟨k1,k2,k3,k4⟩:=hN;exact k h' ⟨k1,new,k2,k3⟩ (r3.trans k4)
theorem QS(lE:A.frames=some (env::outer))(hf:env.frame=some L)(st:B.StaysIn s.heap)(new:B.get? e=none)(ff:s.heap.FunFrames B (env::outer))(tr:s.heap.TracedAtW B e cls a0 fl)
  (k:∀h',Heap.FlyingW B outer e cls a0 h'->s.heap.UpToSlots h'->Q () { s with heap:=h' }):wpAny M A (leaving env (.ref e)) Q E s:=
 ae (Ir lE hf st new ff tr fun h' hh u=>wpAny_landsW hh fun h2 f2 u2=>k h2 ⟨f2.1,f2.2.1,f2.2.2.1.2.2,f2.2.2.2⟩ (u.trans u2))
theorem O0{α:Type}{QQ:α->Shared->Prop}{uJ:String}{jK:Env}(st:B.StaysIn s.heap)(ff:s.heap.FunFrames B l)(tr:s.heap.TracedAtW B e cls a0 fl)
  (k:∀h' o7,B.StaysIn h'->h'.FunFrames B l->h'.TracedAtW B e cls a0 o7->s.heap.UpToSlots h'->E (.ref e) { s with heap:=h' }):wpAny M A (PySem.passOn uJ (.ref e) jK:Sem α) QQ E s:=by
 obtain⟨oe,vs,T,oT,ts,he,hc,hd,h1,hn,wJ,hT,rB,h3⟩:=tr;have z3:3<ts.size:=(Array.getElem?_eq_some_iff.mp h3).1;unfold PySem.passOn;refine ae (wpAny_field he hd h1 ?_);rw[if_neg (show ¬((Value.ref T==Value.none)=true) from by simp)];obtain⟨r1,r2,r3⟩:=G9 hT rB 3 (jK.frame.elim Value.none fun f=>rawInt f);have fin:E (.ref e) { s with heap:=s.heap.update T (Obj.mapFields (·.setIfInBounds 3 (jK.frame.elim Value.none fun f=>rawInt f))) }:=
  k _ (jK.frame.elim Value.none fun f=>rawInt f) (fun b o q=>(r2 b fun z=>by rw[z,hn] at q;cases q).trans (st b o q)) (Gm r3 ff) ⟨oe,vs,T,_,_,(r2 e (Ne.symm wJ)).trans he,hc,hd,h1,hn,wJ,r1,Obj.data_mapFields rB _,by simp[z3]⟩ r3
 have step:wpAny M A (setFlight (.ref e) jK.frame >>= fun _=>(throw (.ref e):Sem α)) QQ E s:=by
  unfold setFlight;refine ae (ae (wpAny_field he hd h1 ?_));rw[if_pos (show(Value.ref T != Value.none)=true from by simp)];exact wpAny_setField hT rB z3 (wpAny_throw fin)
 exact step
end
theorem G8{h h' B B':Heap}(kb:∀b,B.get? b=none->B'.get? b=none):∀{l:List Env},(∀b∈ir l,h'.get? b=h.get? b)->h.FunFrames B l->h'.FunFrames B' l
 | [],_,_=>trivial
 | env::l,kh,x=>by
  obtain⟨x0,⟨L,o,x1,x2,x3,x4⟩,x5⟩:=x;refine⟨x0,⟨L,o,x1,kb _ x2,(kh L (List.mem_filterMap.mpr ⟨env,List.mem_cons_self,x1⟩)).trans x3,x4⟩,G8 kb (fun b hb=>kh b ?_) x5⟩;obtain⟨z,z1,z2⟩:=List.mem_filterMap.mp hb;exact List.mem_filterMap.mpr ⟨z,aA _ z1,z2⟩
def F3(X:Cx)(C:Addr)(W:Hp->Prop):Prop:=∀(pins:List (Addr×Obj)) (σ:St) (H:Hp) (s:Shared) (a:Addr) (h2 B:Heap) (a0 fl:Value),Inv X pins σ H s->H a=none->X.cK.heap.get? a=none->
 B.StaysIn h2->B.get? a=none->h2.FunFrames B X.stack->h2.TracedAtW B a (.ref C) a0 fl->(∀b o,qM X.cK H b->s.heap.get? b=some o->b∉ir X.stack->B.get? b=some o)->
 (∀b∈ir X.stack,∀o,s.heap.get? b=some o->(∀vs,o.data≠.fields vs)->∃sl,h2.get? b=some { o with slots:=sl })->W H->X.xe (.ref a) { s with heap:=h2 }
section
variable {P:Program} {w:World} {K:PySem.W.Frag} {mg:Str->Option Value} {base:Heap} {N:List Str} {qual:Str} {scope:Scope} {f C:Addr} {cd:Value} {A:Around} {outer:List Env} {s0:Shared} {H0:Hp} {E:XK}
theorem xG:F3 (mR (pS P w C) P w K mg base N qual scope f cd A outer s0 H0 E) C fun H'=>∀a,E (.ref a) none H':=by
 intro pins σ H s a h2 B a0 fl I hn h0 st new ff tr mU TU hw;refine QS (outer:=outer) I.ok.frames rfl st new ff tr fun h' o7 up=>?_
 obtain⟨un,cz,cv⟩:=I.gone rfl rfl rfl o7.1 mU fun b hb o q hd=>by
  obtain⟨sl,q2⟩:=TU b (aA _ hb) o q hd;obtain⟨tV,q3⟩:=up b _ q2 hd;exact⟨tV,q3⟩
 exact⟨a,H,rfl,I.os,I.bare,un,cz,hn,h0,⟨B,a0,o7,cv⟩,hw a⟩
end
section
variable {X:Cx} {C:Addr} {W:Hp->Prop} {N':List Str} {scope:Scope} {s3:Shared} {H3:Hp} {fp:List Addr}
abbrev yB(X:Cx)(scope:Scope)(s3:Shared):Value->Shared->Prop:=notedBy (model X.prog X.w) X.A (compEnvC scope (cellsFrom (s3.heap.objs.size+1) scope.names (jT X.env.cells scope.names [])) s3.heap.objs.size X.env) (B1 X s3.heap.objs.size)
theorem xa(hex:X.ex=[])(fA:X.stack=X.env::X.outer)(hf:X.env.frame=some X.env.locals)(T:F3 X C W)(gc:zL X s3 H3 fp):tK (pS X.prog X.w C) (ku X N' scope s3 H3 fp (yB X scope s3)) fun _ _ H'=>W H':=by
 obtain⟨qv,FR,I3,f3⟩:=gc;intro pins σ H s e s' I ⟨a,H',he,os,bare,un,cz,hn,hs,⟨B,a0,fl,mU⟩,w⟩;subst he;obtain⟨hh,g,d,t,su⟩:=s';obtain rfl:su=s.os:=os;have I1:=I.call (h':=hh) (g':=g) (d':=d) (t':=t) (ch:=[]) un cz bare fun b z=>absurd z (by simp)
 have nr:∀b∈fp,(b∈X.ex\/X.cK.heap.objs.size<=b)/\b≠X.env.locals/\(∀x c,X.env.cells.lookup x=some c->c≠b)/\∀p∈X.pn++qv,p.1≠b:=fun b hb=>⟨(f3 b hb).1.2.2.2.1,(f3 b hb).1.2.1,(f3 b hb).1.2.2.2.2.1,(f3 b hb).1.2.2.2.2.2⟩
 have Oc:Inv X qv FR H s:=I3.qJ (ch:=fp) I.os I.base I.cz I.bare nr;have O1:=I3.qJ (ch:=fp) I1.os I1.base I1.cz I1.bare nr;have old:∀b o,X.cK.heap.get? b=some o->∃o',s.heap.get? b=some o':=fun b o q=>Oc.base.there b o q (by rw[hex];simp)
 have lE:X.A.frames=some (X.env::X.outer):=by rw[<-fA];exact I3.ok.frames
 obtain⟨f1,f2,f4,f5⟩:=fl;have VS:hh.FunFrames B (X.env::X.outer):=by rw[<-fA];exact f4
 show wpAny _ _ (noteFrame (.ref a) (compEnvC _ _ _ X.env)) _ _ _;rw[Py (compEnvC scope (cellsFrom (s3.heap.objs.size+1) scope.names (jT X.env.cells scope.names [])) s3.heap.objs.size X.env) X.env rfl];refine Ir (outer:=X.outer) (L:=X.env.locals) lE hf f1 f2 VS f5 fun h1 Vh up1=>?_
 obtain⟨k1,_,k3,k4⟩:=Vh;obtain⟨m5,EV,_⟩:=id I1.loc;have JW:=up1.ns EV;refine⟨m5,JW,fun h2 sb jK _=>?_⟩;have c0:∀{b o vs},h1.get? b=some o->o.data=.fields vs->b≠s3.heap.objs.size:=fun{b o vs} q hd z=>by
  obtain⟨o',es,ep,q',rC,_⟩:=JW;rw[z] at q;rw[show(ku X N' scope s3 H3 fp (yB X scope s3)).env.locals=s3.heap.objs.size from rfl,q] at q';cases q';rw[hd] at rC;cases rC
 have cF:∀b∈ir X.stack,b≠s3.heap.objs.size:=fun b hb z=>by
  obtain⟨_,o,ho,_⟩:=I3.ny.gn.mem hb;exact absurd (z▸ax ho) (Nat.lt_irrefl _)
 have TZ:h2.TracedAtW (PySem.W.hideAll B [s3.heap.objs.size]) a (.ref C) a0 (rawInt X.env.locals):=by
  obtain⟨oe,vs,T',oT,ts,he,hc,hd,VH,Ke,wJ,hT,rB,h3⟩:=k4;refine⟨oe,vs,T',oT,ts,(sb.2 _ (c0 he hd)).trans he,hc,hd,VH,?_,wJ,(sb.2 _ (c0 hT rB)).trans hT,rB,h3⟩;cases q:(PySem.W.hideAll B [s3.heap.objs.size]).get? T' with
  | none=>rfl
  | some o=>rw[PySem.W.of_hideAll _ q] at Ke;cases Ke
 have no:∀b,B.get? b=none->(PySem.W.hideAll B [s3.heap.objs.size]).get? b=none:=fun b hb=>by
  cases q:(PySem.W.hideAll B [s3.heap.objs.size]).get? b with
  | none=>rfl
  | some o=>rw[PySem.W.of_hideAll _ q] at hb;cases hb
 have rf:(PySem.W.hideAll B [s3.heap.objs.size]).StaysIn h2:=fun b o q=>by
  by_cases hb:b=s3.heap.objs.size
  ·rw[PySem.W.hideAll_none _ (by rw[hb];simp)] at q;cases q
  ·exact(sb.2 b hb).trans (k1 b o (PySem.W.of_hideAll _ q))
 have VR:h2.FunFrames (PySem.W.hideAll B [s3.heap.objs.size]) X.stack:=G8 no (fun b hb=>sb.2 b (cF b hb)) (by rw[fA];exact k3);refine O0 (l:=X.stack) rf VR TZ fun h4 BL Br VQ TY D9=>?_
 refine T qv FR H' ⟨hh,g,d,t,s.os⟩ a h4 _ a0 BL O1 hn ?_ Br (no _ f2) VQ TY (fun b o hb q n=>?_) (fun b hb o q hd=>?_) w
 ·cases q:X.cK.heap.get? a with
  | none=>rfl
  | some o=>
   obtain⟨o',q'⟩:=old a o q;rw[hs] at q';cases q'
 ·refine PySem.W.hideAll_get _ (mU b o (hb.imp (fun⟨o',q'⟩=>old b o' q') id) q n) fun z=>?_
  have z':b=s3.heap.objs.size:=by simpa using z
  subst z';rcases hb with⟨o',q'⟩ | hb
  ·obtain⟨o2,q2⟩:=I3.base.there _ o' q' (by rw[hex];simp);exact absurd (ax q2) (Nat.lt_irrefl _)
  ·exact hb I1.free
 ·obtain⟨sl,q1⟩:=up1 b o q hd;obtain⟨tV,q2⟩:=D9 b _ ((sb.2 b (cF b hb)).trans q1) hd;exact⟨tV,q2⟩
end
def Wo(W:Hp->Prop)(Qx:Prop)(G0 H0:Hp):Prop:=∀G' H',Ext G0 H0 G' H'->Qx->W H'
theorem Wo.mono{W:Hp->Prop}{Qx:Prop}{G0 H0 G1 H1:Hp}(h:Wo W Qx G0 H0)(x:Ext G0 H0 G1 H1):Wo W Qx G1 H1:=fun G' H' y=>h G' H' (x.trans y)
def vx(X:Cx)(c:Hp->Hp->Prop)(CG:Prop)(e:Expr)(t:TD):Prop:=∃tt,(CG->PE X e tt)/\∀(ρ:Ev) (σ:St) (G0 H0 G H:Hp) (Q:R->Prop) (P:VK),cP X.K G0 H0 ρ σ G H->t ρ Q->(∀v H' r G',Ext G H G' H'->dv X.K G' H' H v r->Q r->P v H')->c G0 H0->tt σ H P
section
variable {X:Cx} {c:Hp->Hp->Prop} {CG:Prop} {W:Hp->Prop} {Qx:Prop} {pos:Pos} {e a b:Expr} {es:List Expr} {te ta tb:TD} {ts:iT} {pa:iR}
theorem MP(h:PD X e te):vx X c CG e te:=let⟨tt,p,q⟩:=h;⟨tt,fun _=>p,fun ρ σ G0 H0 G H Q P E h k _=>q ρ σ G0 H0 G H Q P E h k⟩
theorem Le(h:vx X c True e te):sU X c e te:=let⟨tt,p,q⟩:=h;⟨tt,p trivial,q⟩
theorem MO(h:PB X e pa)(h1:vx X c CG a ta)(h2:vx X c CG b tb):vx X c CG (.IfExp e a b pos) (sP pa ta tb):=by
 obtain⟨t,p,q⟩:=h;obtain⟨t1,p1,q1⟩:=h1;obtain⟨t2,p2,q2⟩:=h2;refine⟨_,fun g=>HU p (p1 g) (p2 g),fun ρ σ G0 H0 G H Q P E h k hw=>q ρ σ G0 H0 G H _ _ E h fun b H' G' x hq=>?_⟩;cases b with
 | true=>rw[if_pos rfl] at hq ⊢;exact q1 ρ σ G0 H0 G' H' Q P (E.ext x) hq (fun b2 H2 r2 G2 x2 m8 h2=>k b2 H2 r2 G2 (x.trans x2) (m8.fI x.h) h2) hw
 | false=>rw[if_neg aG] at hq ⊢;exact q2 ρ σ G0 H0 G' H' Q P (E.ext x) hq (fun b2 H2 r2 G2 x2 m8 h2=>k b2 H2 r2 G2 (x.trans x2) (m8.fI x.h) h2) hw
theorem uH{C:Addr}{k k' n:Nat}{t:k9}{x:Str}{p:Pos}(F:bI X.prog X.w X.K X.mg X.base C k x n t)(hr:cV k' X.A)(T:CG->tK (pS X.prog X.w C) X fun _ _ H'=>W H')(ha:uq X (Wo W Qx) (e::es) ts)(hk:k<=k':=by decide)(hg:Gl X x:=by rfl)(jJ:(x==("__debug__":Str))=false:=by decide)
  (he:starEach (e::es) X.env=(false,eval e X.env)::starEach es X.env:=by rfl) (gH:(backTo pos (starEach es X.env)).any (·.1)=false:=by rfl):vx X (Wo W Qx) CG (.Call (.Name x p) (e::es) [] pos) (eY n t Qx ts):=by
 obtain⟨f,fd,ps,F,hm,kp,hb⟩:=F.ex;obtain⟨tt,pp,q⟩:=ha;refine⟨_,fun g=>Hr F (hr.mono hk) hg hm kp hb .nil (T g) pp jJ he gH,fun ρ σ G0 H0 G H Q P E h k hw=>q ρ σ G0 H0 G H _ _ E h (fun vs H' ds G' y rs hq=>?_) hw⟩;rw[List.append_nil];exact⟨G',ds,Q,Qx,y.s,rs,hq.1,hq.2,fun v H2 r G2 x2 rr q2=>k v H2 r G2 (y.trans x2) (rr.fI y.h) q2,fun G2 H2 x2 qx _=>hw G2 H2 ((E.e.trans y).trans x2) qx⟩
theorem iL{C:Addr}{k k' n:Nat}{t:k9}{x:Str}{p:Pos}(F:bI X.prog X.w X.K X.mg X.base C k x n t)(hr:cV k' X.A)(hex:X.ex=[])(T:FH X C W)(ha:uq X (Wo W Qx) (e::es) ts)(hk:k<=k':=by decide)(hg:Gl X x:=by rfl)(jJ:(x==("__debug__":Str))=false:=by decide)
  (he:starEach (e::es) X.env=(false,eval e X.env)::starEach es X.env:=by rfl) (gH:(backTo pos (starEach es X.env)).any (·.1)=false:=by rfl):sU X (Wo W Qx) (.Call (.Name x p) (e::es) [] pos) (eY n t Qx ts):=
 Le (uH F hr (fun _=>Lf hex T) ha hk hg jJ he gH)
end
section
variable {X:Cx} {elt iter tg:Expr} {ifs:List Expr} {scope:Scope} {pos:Pos} {N':List Str} {m:List (Option Nat)} {wi:kP} {g:jc} {tc:iR} {te:TD} {W:Hp->Prop} {Qx:Prop}
theorem xV(hc:X.calm=true)(cs:bZ X N' m scope)(hk:px m g)(hi:PId X tg iter wi)(hg:∀s3 H3 ex,qL (ku X N' scope s3 H3 ex (yB X scope s3)) tg g)(ht:∀s3 H3 ex,vw (ku X N' scope s3 H3 ex (yB X scope s3)) ifs tc)
  (he:∀s3 H3 ex,vx (ku X N' scope s3 H3 ex (yB X scope s3)) (Wo W Qx) (zL X s3 H3 ex) elt te) (hs:∀x,foldedSetIterable iter X.env x=pure x:=by intro _;rfl):sU X (Wo W Qx) (.ListComp elt [⟨tg,iter,ifs,0⟩] scope pos) (eG wi m g tc te):=by
 obtain⟨ww,p1,q1⟩:=hi;exact⟨_,Ik (g:=fun s3 H3 ex=>(hg s3 H3 ex).choose) (tc:=fun s3 H3 ex=>(ht s3 H3 ex).choose) (te:=fun s3 H3 ex=>(he s3 H3 ex).choose) (fun _ _ _ h=>h) hc cs p1 (fun s3 H3 ex=>(hg s3 H3 ex).choose_spec.1) (fun s3 H3 ex=>(ht s3 H3 ex).choose_spec.1) (fun s3 H3 ex=>(he s3 H3 ex).choose_spec.1) hs,
  fun ρ σ G0 H0 G H Q P E h k hw=>Ia cs hk q1 (fun s3 H3 ex=>(hg s3 H3 ex).choose_spec.2) (fun s3 H3 ex=>(ht s3 H3 ex).choose_spec.2) (fun s3 H3 ex ρ' cj G1 H1 G' H' Q' P' x1 E' h' k'=>(he s3 H3 ex).choose_spec.2 ρ' cj G1 H1 G' H' Q' P' E' h' k' (hw.mono (E.e.trans x1))) E h k⟩
end
end L2
namespace L2
open PySem PySem.Spec PyProof.Rows
section
variable {X:Cx} {pos:Pos} {e:Expr} {es:List Expr} {ts:iT}
def Cc(q j n:Nat)(t:k9)(ts:iT)(cn:Str):TX:=fun D ρ=>ts ρ fun ds=>ds.length=n/\t ds (fun _=>D.nx ρ) (D.nx (((ρ.set q .un).set j (.fz (.exc cn []))).set q .un))
theorem Nd(q j:Nat){C C':Addr}{k k' n:Nat}{t:k9}{f y ex er cn:Str}{p2 p3 p4 p5 p6 p7 p8 p9:Pos}{oo qK:List Value}{newId j0:String}(F:bI X.prog X.w X.K X.mg X.base C k f n t)(hr:cV k' X.A)(O:cS X.K X.mg cn C oo newId)(O':cS X.K X.mg ex C' qK j0)(Fq:qK.contains (.type "BaseException")=true)
  (o5:PySem.W.nsIn X.K mainGlobals cn=some (some (.ref C))) (mq:subIn X.K C C'=true) (zd:X.xe=fun _ _=>False) (hN:X.N.Nodup) (ha:mE X (e::es) ts)
  (fA:X.stack=X.env::X.outer:=by rfl) (lE:X.env.frame=some X.env.locals:=by rfl) (hk:k<=k':=by decide) (hg:Gl X f:=by rfl) (jJ:(f==("__debug__":Str))=false:=by decide) (E7:Gl X ex:=by rfl) (o4:(ex==("__debug__":Str))=false:=by decide)
  (he:starEach (e::es) X.env=(false,eval e X.env)::starEach es X.env:=by rfl) (gH:(backTo p3 (starEach es X.env)).any (·.1)=false:=by rfl)
  (hs:swapsWith (.Call (.Name f p2) (e::es) [] p3) none p4.line X.env=pure false:=by rfl)
  (hq:X.N[q]?=some er:=by rfl) (Vl:X.env.kindOf er=some .local:=by rfl) (Fc:kO X.env.scope er:=by first | exact Or.inl rfl | exact Or.inr (Or.inl rfl) | exact Or.inr (Or.inr rfl)) (Fe:Loc X.env.scope er:=by first | exact Or.inl rfl | exact Or.inr rfl) (Fg:(er==("__debug__":Str))=false:=by decide) (Fh:(er==("__classdict__":Str))=false:=by decide) (Ff:X.fn er=true\/X.env.scope.names.lookup er=some .local:=by first | exact .inl rfl | exact .inr rfl)
  (hj:X.N[j]?=some y:=by rfl) (hy:Loc X.env.scope y:=by first | exact Or.inl rfl | exact Or.inr rfl) (EE:∀a,swapsWith (.Name er p7) (some (.Name y p6)) p8.line (X.i8 a).env=pure false:=by intro _;rfl) (Vk:X.fn y=true\/X.env.scope.names.lookup y=some .local:=by first | exact .inl rfl | exact .inr rfl) :
  PX X (.Try [.Expr (.Call (.Name f p2) (e::es) [] p3) p4] [.ExceptHandler (some (.Name ex p5)) (some er) [.Assign [.Name y p6] (.Name er p7) p8] p9] [] [] pos) (Cc q j n t ts cn):=by
 obtain⟨fa,fd,ps,F,hm,kp,hb⟩:=F.ex;obtain⟨tt,pp,qq⟩:=ha;refine⟨fun D σ H=>tt σ H fun vs H1=>zJ X.K n t vs H1 (fun _ H2=>D.nx σ H2) (fun u _ H2=>∀a,u=.ref a->H2 a=none->D.nx (((σ.set q (some (.ref a))).set j (some (.ref a))).set q none) (upd H2 a (.ext (ur a C)))),fun pins s σ H D I h=>?_,fun ρ σ G0 H0 G H D E k h g=>?_⟩
 ·refine wpAny_Try_except ?_;rw[zd];have args:=pp p3 pins s σ H _ I h;rw[zd] at args;refine wpAny_execs_cons (wpAny_mono (Q:=fun f s1=>f=.next/\∃H2,Inv X pins σ H2 s1/\D.nx σ H2) (wpAny_Expr_any (wpAny_mono (Q:=EP X pins σ fun _ H2=>D.nx σ H2) (wpAny_Call_Name_kw (vU I hg hm ?_ jJ)) (fun v s1 z=>?_) fun _ _ z=>z) I.quiet hs) (fun f s1 z=>?_) fun _ _ z=>z)
  ·refine PySem.W.callWith_K (h₀:=X.base) I.ok.mod.sA kp (wpAny_mono args (fun us s1 z=>?_) fun _ _ z=>z.elim) he gH;obtain⟨vs,H1,I1,r,z⟩:=z;refine⟨I1.mT,Nj F (hr.mono hk) hb .nil I1 r (by rw[List.append_nil];exact z) fun e' s' hc=>?_⟩;refine O8 I1 hc (O.at I1.ok.mod.sA) (O'.at I1.ok.mod.sA) Fq mq fA lE E7 o4 zd hN hq Vl Fc Fe Fg Fh Ff hj hy EE Vk fun a H' s2 hE hn I2=>?_
   exact⟨_,_,I2,hE a rfl hn⟩
  ·obtain⟨u,H2,I2,r2,z2⟩:=z;exact⟨rfl,H2,I2,z2⟩
  ·obtain⟨rfl,H2,I2,z2⟩:=z;exact wpAny_execs_nil (wpAny_execs_nil ⟨_,H2,I2,z2⟩)
 ·refine qq ρ σ G0 H0 G H _ _ k h fun vs H' ds G' x1 rs rq=>?_
  refine⟨G',ds,_,_,x1.s,rs,rq.1,rq.2,fun v H2 r G2 x2 rr z=>g.nx _ _ G2 H2 (x1.g.trans x2.g) (k.ext (x1.trans x2)) z,fun G2 H2 x2 z a=>?_⟩;intro a' ea hn;cases ea;have k2:=k.ext (x1.trans x2);have x3:Ext G2 H2 (upd G2 a (.ext (ur a C))) (upd H2 a (.ext (ur a C))):=.new x2.s hn;have rep:Rep X.K (upd G2 a (.ext (ur a C))) (.ref a) (.exc cn []):=by
   simp only[Rep,cy];exact⟨a,_,C,none,[],rfl,gP,o5,fun h bR=>by obtain⟨o,z1,z2⟩:=bR;exact⟨o,z1,z2,.inl trivial⟩,.inl trivial,trivial⟩
  exact g.nx _ _ _ _ ((x1.g.trans x2.g).trans x3.g) (((k2.unset (i:=q) (u:=some (.ref a))).put x3 (r:=.fz (.exc cn [])) (eN rep)).unset (i:=q) (u:=none)) z
theorem IZ{C:Addr}{k k' n:Nat}{t:k9}{x:Str}{p:Pos}(F:bI X.prog X.w X.K X.mg X.base C k x n t)(hr:cV k' X.A)(ha:mE X (e::es) ts)(hk:k<=k':=by decide)(hg:Gl X x:=by rfl)(jJ:(x==("__debug__":Str))=false:=by decide)
  (he:starEach (e::es) X.env=(false,eval e X.env)::starEach es X.env:=by rfl) (gH:(backTo pos (starEach es X.env)).any (·.1)=false:=by rfl):PD X (.Call (.Name x p) (e::es) [] pos) (eY n t False ts):=by
 obtain⟨tt,pp,q⟩:=uH (CG:=True) (W:=fun _=>False) (Qx:=False) (pos:=pos) F hr (fun _ pins σ H s e s' I ⟨_,_,_,_,_,_,_,_,_,_,w⟩=>w.elim) (gj ha) hk hg jJ he gH;exact⟨tt,pp trivial,fun ρ σ G0 H0 G H Q P E h k=>q ρ σ G0 H0 G H Q P E h k fun _ _ _ z=>z⟩
end
section
variable {X:Cx} {c:Hp->Hp->Prop} {k k' n:Nat} {t:eO} {x:Str} {p pos:Pos} {e:Expr} {es:List Expr} {ts:iT}
theorem CU{x1}(h:uq X c es ts):sU X c (.Tuple es x1 pos) (mQ ts):=by
 obtain⟨t,p,q⟩:=h;refine⟨_,CF p,fun ρ σ G0 H0 G H Q P E h k hw=>q ρ σ G0 H0 G H _ _ E h (fun vs H' ds G' x rs hq=>⟨by rw[rs.length];exact hq.1,fun p hp=>?_⟩) hw⟩;have x2:Ext G' H' (upd G' p (.tup vs)) (upd H' p (.tup vs)):=.new x.s hp;refine k _ _ (.fz (.tup ds)) _ (x.trans x2) ?_ hq.2;show Rep X.K _ _ (.tup ds);simp only[Rep];exact⟨p,vs,rfl,gP,rs.mono x2.g⟩
theorem Px(C:j8 X.prog X.w X.K X.mg X.base k x n t)(hr:cV k' X.A)(ha:uq X c (e::es) ts)(hk:k+1<=k':=by decide)(hg:Gl X x:=by rfl)(jJ:(x==("__debug__":Str))=false:=by decide)
  (he:starEach (e::es) X.env=(false,eval e X.env)::starEach es X.env:=by rfl) (gH:(backTo pos (starEach es X.env)).any (·.1)=false:=by rfl):sU X c (.Call (.Name x p) (e::es) [] pos) (fq n t ts):=by
 obtain⟨C,f,fd,ps,M,F,hm,hb⟩:=C.ex;obtain⟨tt,pp,q⟩:=ha;refine⟨_,N8 M F (hr.mono hk) hg hm hb .nil Gg pp jJ he gH,fun ρ σ G0 H0 G H Q P E h k hw=>q ρ σ G0 H0 G H _ _ E h (fun vs H' ds G' y rs hq=>?_) hw⟩;intro a dx ha o4 jf;rw[List.append_nil];exact⟨a,dx,H',G',ds,vs,Q,rfl,rfl,ha,o4,jf,y.s,rs,hq.1,hq.2,fun H2 r G2 x2 rr q2=>⟨rfl,k _ H2 r G2 (y.trans x2) (rr.fI y.h) q2⟩⟩
theorem OZ(i:Nat){y:Str}{te:TD}{pos':Pos}(he:sU X c e te)(hN:X.N.Nodup:=by assumption)(hi:X.N[i]?=some y:=by rfl)(hx:Loc X.env.scope y:=by first | exact Or.inl rfl | exact Or.inr rfl)(hs:swapsWith e (some (.Name y pos')) pos.line X.env=pure false:=by rfl)(hf:X.fn y=true\/X.env.scope.names.lookup y=some .local:=by first | exact .inl rfl | exact .inr rfl | assumption) :
  vv X c (.Assign [.Name y pos'] e pos) (dX i te):=by
 obtain⟨t,p,q⟩:=he;refine⟨_,Aq hN hi hx p hs hf,fun ρ σ G0 H0 G H D E k h g hw=>q ρ σ G0 H0 G H _ _ k h (fun v H' r G' x rr hq=>?_) hw⟩;obtain⟨G2,x2,rv,_⟩:=rr.freeze x;exact g.nx _ _ G2 H' x2.g (k.put x2 (r:=.fz r.val) rv) hq
end
end L2
namespace L2
open PySem PySem.Spec PyProof.Rows
section
variable {X:Cx} {pos:Pos}
def z7(i:Nat)(te t1 t2:TD):TX:=fun D ρ=>match gt ρ i with
 | .ow ds=>te ρ fun r=>match r.val with
  | .tup [d1,d2]=>t1 ρ fun r1=>match r1.val with
   | .int k1=>∃j1,kY ds.length k1=some j1/\t2 (ρ.set i (.ow (ds.set j1 d1))) fun r2=>match r2.val with
    | .int k2=>∃j2,kY ds.length k2=some j2/\D.nx (ρ.set i (.ow ((ds.set j1 d1).set j2 d2)))
    | _=>False
   | _=>False
  | _=>False
 | _=>False
theorem MN(i:Nat){x:Str}{e i1 i2:Expr}{te t1 t2:TD}{p1 p2 p3 p4 pt:Pos}{kt}(hc:X.calm=true)(he:PD X e te)(Vf:PD X i1 t1)(oZ:PD X i2 t2)(hN:X.N[i]?=some x:=by rfl)(hv:kO X.env.scope x:=by first | exact Or.inl rfl | exact Or.inr (Or.inl rfl) | exact Or.inr (Or.inr rfl))(hd:(x==("__debug__":Str))=false:=by decide)(fS:(x==("__classdict__":Str))=false:=by decide)
  (Vs:∀v,assign (.Subscript (.Name x p1) i1 p2) X.env v=(do
   let ov <-holding [v] (eval (.Name x p1) X.env)
   let iv <-holding [v,ov] (eval i1 X.env)
   standAt p2
   holding [v,ov,iv] (setItem ov iv v)
   release [v,ov,iv] []):=by intro _;rfl)
  (Vr:∀v,assign (.Subscript (.Name x p3) i2 p4) X.env v=(do
   let ov <-holding [v] (eval (.Name x p3) X.env)
   let iv <-holding [v,ov] (eval i2 X.env)
   standAt p4
   holding [v,ov,iv] (setItem ov iv v)
   release [v,ov,iv] []):=by intro _;rfl)
  (hs:swapsWithSole [.Tuple [.Subscript (.Name x p1) i1 p2,.Subscript (.Name x p3) i2 p4] kt pt] e pos.line X.env=pure false:=by rfl) (hw:swappedStores [.Tuple [.Subscript (.Name x p1) i1 p2,.Subscript (.Name x p3) i2 p4] kt pt] e X.env=pure none:=by rfl)
  (h1:(assignEach [.Tuple [.Subscript (.Name x p1) i1 p2,.Subscript (.Name x p3) i2 p4] kt pt] X.env).map (·.2)=[assign (.Tuple [.Subscript (.Name x p1) i1 p2,.Subscript (.Name x p3) i2 p4] kt pt) X.env]:=by rfl)
  (hn:(assignEach [.Subscript (.Name x p1) i1 p2,.Subscript (.Name x p3) i2 p4] X.env).length=2:=by rfl) (fA:(assignEach [.Subscript (.Name x p1) i1 p2,.Subscript (.Name x p3) i2 p4] X.env).findIdx? (·.1)=none:=by rfl)
  (UX:(assignEach [.Subscript (.Name x p1) i1 p2,.Subscript (.Name x p3) i2 p4] X.env).map (·.2)=assign (.Subscript (.Name x p1) i1 p2) X.env::(assignEach [.Subscript (.Name x p3) i2 p4] X.env).map (·.2):=by rfl)
  (pJ:(assignEach [.Subscript (.Name x p3) i2 p4] X.env).map (·.2)=assign (.Subscript (.Name x p3) i2 p4) X.env::(assignEach [] X.env).map (·.2):=by rfl) :
  PX X (.Assign [.Tuple [.Subscript (.Name x p1) i1 p2,.Subscript (.Name x p3) i2 p4] kt pt] e pos) (z7 i te t1 t2):=by
 obtain⟨t,p,q⟩:=he;obtain⟨u1,Uo,q1⟩:=Vf;obtain⟨u2,Um,q2⟩:=oZ;refine⟨_,Ah p (GS hc (Dh (Ai (mf hN hv hd fS) Uo AR Vs) (Dh (Ai (mf hN hv hd fS) Um AR Vr) Ht pJ) UX) hn fA) hs hw h1,fun ρ σ G0 H0 G H D E k h g=>?_⟩;unfold z7 at h;split at h
 ·rename_i ds hg;obtain⟨a,xs,h1,h2,h3,h4,h5⟩:=k.ow i ds hg;refine q ρ σ G0 H0 G H _ _ k h fun v H' r G' x1 rr hq=>?_
  obtain⟨G2,x2,rv,_⟩:=rr.freeze x1;split at hq
  ·rename_i d1 d2 er;rw[er] at rv;simp only[Rep] at rv;obtain⟨b,vs,rfl,hb,rs⟩:=rv;obtain⟨v1,v2,rfl,r1,r2⟩:=xl rs;refine⟨b,_,rfl,(k.ext x2).e.s.lz hb,rfl,v1,_,rfl,_,h1,q1 ρ σ G0 H0 G2 H' _ _ (k.ext x2) hq fun w H3 rk G3 x3 qu eQ=>?_⟩;obtain⟨G4,x4,oS,_⟩:=qu.freeze x3;split at eQ
   ·rename_i kk e1;obtain⟨j,hj,eQ⟩:=eQ;rw[e1] at oS;simp only[Rep] at oS;have kU:=x2.trans x4;refine⟨a,xs,kk,j,rfl,oS,kU.h _ _ h2,by rw[h5.length];exact hj,?_⟩;have E4:=(k.ext kU).change hg h1 ((h5.mono kU.g).set j (r1.mono x4.g));have zq:gt (ρ.set i (.ow (ds.set j d1))) i=.ow (ds.set j d1):=by
     rw[tJ,if_pos ⟨rfl,vK hg (by simp)⟩]
    obtain⟨a',mZ,y1,y2,y3,y4,y5⟩:=E4.ow i _ zq;refine⟨v2,[],rfl,_,y1,q2 _ σ G0 H0 G4 _ _ _ E4 eQ fun w5 H5 Wl G5 x5 Ei t7=>?_⟩;obtain⟨G6,x6,yQ,_⟩:=Ei.freeze x5;split at t7
    ·rename_i UB e2;obtain⟨j2,EZ,t7⟩:=t7;rw[e2] at yQ;simp only[Rep] at yQ;refine⟨a',mZ,UB,j2,rfl,yQ,x6.h _ _ y2,by rw[y5.length,List.length_set];exact EZ,rfl,?_⟩;have:=(E4.ext x6).change zq y1 ((y5.mono x6.g).set j2 ((r2.mono x4.g).mono x6.g));rw[List.set_set] at this;exact g.nx _ _ G6 _ (kU.g.trans x6.g) this t7
    ·exact t7.elim
   ·exact eQ.elim
  ·exact hq.elim
 ·exact h.elim
end
end L2
namespace L2
open PySem PySem.Spec PyProof.Rows
section
variable {X:Cx} {pos:Pos}
def sZ(K:PySem.W.Frag)(mg:Str->Option Value)(x:Str)(ss:List Str):Prop:=∃a,mg x=some (.ref a)/\∀H,fW K H a (ss.map V.str)
def Ld(o:Obj)(ss:List Str):Prop:=o.cls=.type "tuple"/\∃(its:Array Value) (n:Nat),o.data=.seq its n/\its.size<=sizeLine/\Vals (ss.map V.str) its.toList
theorem sR{K:PySem.W.Frag}{mg:Str->Option Value}{h:Heap}{x:Str}{a:Addr}{o:Obj}{ss:List Str}(X:K.In h)(G:h.Ns mainGlobals mg)(c:PySem.W.nsIn K mainGlobals x=some (some (.ref a)))(l:K.lookup a=some o)(hs:Ld o ss):sZ K mg x ss:=by
 obtain⟨h1,its,n,h2,h3,h4⟩:=hs;exact⟨a,aZ X G c,fun H=>.inr ⟨o,its,n,l,h1,h2,h3,h4⟩⟩
theorem OY{x:Str}{ss:List Str}{ds:List D}{p p2:Pos}(hm:X.mg "list"=none)(hc:sZ X.K X.mg x ss)(ub:ss.map D.str=ds:=by rfl)(hg:Gl X "list":=by rfl)(E7:Gl X x:=by rfl)(hd:(x==("__debug__":Str))=false:=by decide)
  (he:starEach [.Name x p2] X.env=(false,eval (.Name x p2) X.env)::starEach [] X.env:=by rfl) (gH:(backTo pos (starEach [] X.env)).any (·.1)=false:=by rfl):PD X (.Call (.Name "list" p) [.Name x p2] [] pos) (dF lT (bx (dC (.tup ds)) bD)):=by
 subst ub;obtain⟨a,h1,h2⟩:=hc;refine⟨_,Jd JC hg hm boot_list (lp (xJ E7 h1 (v:=.ref a) rfl hd) nN he) (by decide) (by decide) he gH,fun ρ σ G0 H0 G H Q P E h k=>?_⟩;exact⟨a,_,rfl,.inr (h2 _),tP E.e.s (Dt ss) h fun v H' r G' x rr q=>k v H' r G' x rr q⟩
end
end L2
section
namespace Wc
open PySem L2
noncomputable def ic(l:List Nat):Str:=⟨l.toArray⟩
theorem xF(l:List Nat):(ic l).cps.toList=l:=by simp[ic]
theorem l9(l:List Nat):(ic l).length=l.length:=by simp[ic,Str.length]
theorem uF(a b:List Nat):ic a++ic b=ic (a++b):=by
 show(⟨(ic a).cps++(ic b).cps⟩:Str)=_;simp[ic]
theorem sx{a b:List Nat}:ic a=ic b↔a=b:=by
 constructor
 ·intro h;have:(ic a).cps.toList=(ic b).cps.toList:=by rw[h]
  simpa[ic] using this
 ·rintro rfl;rfl
theorem Au(w:Str):ic w.cps.toList=w:=by cases w;simp[ic]
theorem t4(c:Nat):(⟨#[c]⟩:Str)=ic [c]:=rfl
theorem vX{α β:Type}(f:α->β)(l:List α)(i:Int):du (l.map f) i=(du l i).map f:=by
 unfold du;rw[aa];cases kY l.length i with
 | none=>rfl
 | some j=>simp
theorem MM{α β:Type}{f:α->β}{o:Option α}{p:β->Prop}:(∃d,o.map f=some d/\p d)↔∃x,o=some x/\p (f x):=by
 cases o with
 | none=>simp
 | some x=>simp
theorem GF{α β:Type}{f:α->β}{l:List α}{i:Int}{p:β->Prop}:(∃d,du (l.map f) i=some d/\p d)↔∃x,du l i=some x/\p (f x):=by rw[vX];exact MM
theorem vS{α:Type}{l:List α}{i:Int}(h0:0<=i)(h1:i<l.length):∃h:i.toNat<l.length,du l i=some (l[i.toNat]'h):=by
 refine⟨by omega,?_⟩;unfold du kY;rw[if_pos h0,if_pos h1];simp only[Option.bind_some];exact ag _
theorem CT{α:Type}{l:List α}{i:Int}(h0:0<=i)(h1:i<l.length):∃z,du l i=some z/\z∈l:=by
 obtain⟨h,e⟩:=vS h0 h1;exact⟨_,e,List.getElem_mem h⟩
theorem As{α:Type}{l:List α}{n:Nat}(i:Int)(hl:n<=l.length)(h:0<n):∃z,du l (i%(n:Int))=some z/\z∈l:=
 CT (aK _ (by omega)) (by have:=aM i (show(0:Int)<n by omega);omega)
theorem FF{α:Type}{l:List α}(i:Int)(hl:l.length=8):∃z,du l (i%8)=some z/\z∈l:=As (n:=8) i (by omega) (by omega)
theorem VY{α:Type}{l:List α}(i:Int)(hl:l.length=8):∃z,du l (i%5)=some z/\z∈l:=As (n:=5) i (by omega) (by omega)
theorem VZ{α:Type}{l:List α}(i:Int)(hl:l.length=8):∃z,du l (i%3)=some z/\z∈l:=As (n:=3) i (by omega) (by omega)
theorem mh{α:Type}{l:List α}{j:Nat}(h:j<l.length):du l (j:Int)=some l[j]:=by
 obtain⟨h',e⟩:=vS (l:=l) (i:=(j:Int)) (by omega) (by omega);simpa using e
theorem Ax{n d:Nat}{j:Int}(h:0<=j):HT.dn n d (some j)=min j.toNat n:=by show(if j<0 then _ else _)=_;rw[if_neg (by omega)]
theorem pV{α:Type}(l:List α){j:Int}(h:0<=j):gL l none (some j)=l.take j.toNat:=by
 unfold gL;rw[Ax h];show((l.drop 0).take (min j.toNat l.length-0))=_;rw[List.drop_zero,Nat.sub_zero,Nat.min_comm];by_cases hl:l.length<=j.toNat
 ·rw[Nat.min_eq_left hl,List.take_of_length_le hl,List.take_of_length_le (az _)]
 ·rw[Nat.min_eq_right (by omega)]
theorem oP{α:Type}(l:List α){j:Int}(h:0<=j):gL l (some j) none=l.drop j.toNat:=by
 unfold gL;rw[Ax h];show((l.drop (min j.toNat l.length)).take (l.length-_))=_;by_cases hl:l.length<=j.toNat
 ·rw[Nat.min_eq_right hl,List.drop_of_length_le hl,List.drop_of_length_le (az _)];simp
 ·rw[Nat.min_eq_left (by omega),List.take_of_length_le (by simp)]
theorem xU{α:Type}(l:List α){i j:Int}(hi:0<=i)(h:0<=j):gL l (some i) (some j)=(l.drop i.toNat).take (j.toNat-i.toNat):=by
 unfold gL;rw[Ax h,Ax hi];by_cases hl:l.length<=i.toNat
 ·rw[Nat.min_eq_right hl,List.drop_of_length_le hl,List.drop_of_length_le (az _)];simp
 ·rw[Nat.min_eq_left (a:=i.toNat) (by omega)];by_cases hj:l.length<=j.toNat
  ·rw[Nat.min_eq_right hj,List.take_of_length_le (by simp),List.take_of_length_le (by simp;omega)]
  ·rw[Nat.min_eq_left (by omega)]
theorem xE(l:List Nat){j:Int}(h:0<=j):pT (ic l) none (some j)=ic (l.take j.toNat):=by unfold pT;rw[xF,pV _ h];rfl
theorem Pw(l:List Nat){j:Int}(h:0<=j):pT (ic l) (some j) none=ic (l.drop j.toNat):=by unfold pT;rw[xF,oP _ h];rfl
theorem OX(l:List Nat){i j:Int}(hi:0<=i)(h:0<=j):pT (ic l) (some i) (some j)=ic ((l.drop i.toNat).take (j.toNat-i.toNat)):=by unfold pT;rw[xF,xU _ hi h];rfl
theorem Iq{α β:Type}(f:α->β)(l:List α)(lo hi:Option Int):gL (l.map f) lo hi=(gL l lo hi).map f:=by unfold gL;rw[aa,List.map_take,List.map_drop]
theorem Aw(n:Nat)(i:Int):dZ n (.int i)=True:=by cases n<;>exact eq_true trivial
theorem rZ(n:Nat)(i:Str):dZ n (.str i)=True:=by cases n<;>exact eq_true trivial
theorem ML(n:Nat)(i:Bool):dZ n (.bl i)=True:=by cases n<;>exact eq_true trivial
theorem G7(n:Nat):dZ n .non=True:=by cases n<;>exact eq_true trivial
theorem vW{α:Type}[BEq α][LawfulBEq α][DecidableEq α](a b:α):(a==b)=decide (a=b):=by rw[Bool.eq_iff_iff];simp
theorem Av(a b:Str):cX (.str a) (.str b)=decide (a=b):=by simp only[cX,vW]
theorem GZ(a b:Int):cX (.int a) (.int b)=decide (a=b):=by simp only[cX,vW]
theorem iq:sizeLine=16777216:=by decide
@[irreducible] def nK(u:TX)(D:DE):Ev->Prop:=u D
theorem MK(t u:TX)(D:DE)(ρ:Ev):bQ t u D ρ=t { nx:=nK u D,rt:=D.rt,bk:=D.bk,ct:=D.ct } ρ:=by unfold nK;rfl
end Wc
open PySem L2 Wc
local macro_rules | `(tactic| walk_at "b")=>`(tactic| simp only[MK,gR,vD,qQ,zH,dh,uB,dC,xr,CI,Mm,Ml,dF,bx,bD,br,aj,bg,List.cons_append,List.nil_append,List.set,gt,jv,gO,oI,bB,cT,eX,hZ,je,dX,cZ,mQ,jD,rK,cM,kj,gi,lS,zP,jO,oEq,wB,cD,fZ,gN,fv,fq,zT,FA,Cb,sP,pq,uw,uu,dM,xp,mW,vJ,kB,wZ,ju,ja,kS,rM,oK,iE,gh,Al,oG,vI,rJ,zS,lT,MY,MX,Ur,Uq,gS,iK,Int.reduceLT,Int.reduceLE,Int.reduceAdd,Int.reduceSub,Int.reduceMul,Int.reduceNeg,Int.reducePow,Int.reduceToNat,decide_true,decide_false,true_and,and_true,and_self,or_true,true_or,Aw,rZ,ML,G7,GF,aR,if_false,if_true,Bool.not_true,Bool.not_false,aB,List.length_nil,Nat.reduceAdd,decide_eq_true_eq,GZ,Av,Iq,zev,A0,vG,Cg])
local macro_rules | `(tactic| walk_at "all")=>`(tactic| ((try walk_at "px");repeat(simp only[nK];try walk_at "px")))
local macro_rules | `(tactic| walk_at "px")=>`(tactic| walk_at "b")
local macro_rules | `(tactic| walk_at "go")=>`(tactic| (simp only[nK];walk_at "px"))
namespace Wc
open PySem L2
noncomputable def rN(c k:Int):Int:=(c%1000000000000000000000000000000*(k*k+48271)+7919*k*k*k+11)%2147483647/7
theorem Cr(c k:Int):0<=rN c k:=Int.ediv_nonneg (aK _ (by decide)) (by decide)
def pD:eO:=fun ds Q=>∃c k:Int,ds=[.int c,.int k]/\0<=k/\k<=1000000/\Q (.fz (.int (rN c k)))
def DL:TX:=(eX (bB (oI gS fun i j=>.int (i/j)) (bB (oI (fun _ j=>0<j) fun i j=>.int (i%j)) (bB cT (bB cT (bB (oI iK fun i j=>.int (i*j)) (bB (oI (fun _ j=>0<j) fun i j=>.int (i%j)) (br 0) (bB (oI oA fun i j=>.int (i ^ j.toNat)) (dC (.int 10)) (dC (.int 30)))) (bB cT (bB (oI iK fun i j=>.int (i*j)) (br 1) (br 1)) (dC (.int 48271)))) (bB (oI iK fun i j=>.int (i*j)) (bB (oI iK fun i j=>.int (i*j)) (bB (oI iK fun i j=>.int (i*j)) (dC (.int 7919)) (br 1)) (br 1)) (br 1))) (dC (.int 11))) (dC (.int 2147483647))) (dC (.int 7))))
abbrev jP(n:Nat)(sp:eO)(T:TX)(N:List Str):Prop:=∀(ds:List D) (Qr:R->Prop),ds.length=n->sp ds Qr->T { nx:=fun _=>Qr (.fz .non),rt:=Qr } (kD N ds)
theorem Rx:jP 2 pD DL ["_law_cell","_law_k"]:=by
 intro ds Qr hl h;obtain⟨c,k,rfl,h0,h1,q⟩:=h;show DL _ [.fz (.int c),.fz (.int k)];unfold DL;walk_at "all";have hk:k*k<=1000000*1000000:=Int.mul_le_mul h1 h1 h0 (by decide);have Wz:0<=k*k:=Int.mul_nonneg h0 h0;refine⟨.inl ⟨by omega,by omega⟩,.inr ⟨by omega,by omega⟩,.inr ⟨by omega,by omega⟩,.inr ⟨by omega,by omega⟩,?_⟩;exact q
end Wc
namespace Wc
open PySem L2 PyProof.Rows
noncomputable def dO:Option Str->D
 | none=>.non
 | some s=>.str s
noncomputable def dP(l:List (Option Str)):D:=.lst (l.map dO)
noncomputable def dS(l:List Str):D:=.lst (l.map .str)
noncomputable def dI(l:List Int):D:=.lst (l.map .int)
noncomputable def k6(p:Str×Int):D:=.tup [.str p.1,.int p.2]
noncomputable def jg(p:Int×Str):D:=.tup [.int p.1,.str p.2]
noncomputable def my(p:Int×Int×Int):D:=.tup [.int p.1,.int p.2.1,.int p.2.2]
noncomputable def dW(l:List (Str×Int)):D:=.lst (l.map k6)
noncomputable def dB(l:List (Int×Str)):D:=.lst (l.map jg)
noncomputable def dK(l:List (Int×Int×Int)):D:=.lst (l.map my)
structure de where
 top:List (Option Str)
 bp:List (Option Str)
 left:List Str
 right:List Str
 wide:List (Str×Int)
 bH:List (Int×Str)
 keeps:List (Int×Int×Int)
noncomputable def de.parts(c:de):List D:=[dP c.top,dP c.bp,dS c.left,dS c.right,dW c.wide,dB c.bH,dK c.keeps]
noncomputable def de.obj(c:de):D:=.obj "Channel" [("top",dP c.top),("bottom",dP c.bp),("left",dS c.left),("right",dS c.right),("wide",dW c.wide),("bends",dB c.bH),("keeps",dK c.keeps)]
theorem Ar(n:Nat)(o:Option Str):dZ n (dO o)=True:=by
 cases o with
 | none=>exact G7 n
 | some s=>exact rZ n s
theorem MJ(a b:Option Str):cX (dO a) (dO b)=decide (a=b):=by
 cases a<;>cases b<;>simp only[dO,cX,vW,Option.some.injEq,reduceCtorEq,decide_true,decide_false]
theorem DK(a:Option Str)(b:Str):cX (dO a) (.str b)=decide (a=some b):=MJ a (some b)
theorem uv(w:Str)(l:List Str):inD (.str w) (l.map .str)=decide (w∈l):=by
 unfold inD;rw[List.any_map];induction l with
 | nil=>rfl
 | cons a r ih=>
  rw[List.any_cons,ih,Function.comp_apply,Av];by_cases h:a=w
  ·subst h;simp
  ·simp[h,Ne.symm h]
theorem Lc(w:Str)(l:List (Option Str)):inD (.str w) (l.map dO)=decide (some w∈l):=by
 unfold inD;rw[List.any_map];induction l with
 | nil=>rfl
 | cons a r ih=>
  rw[List.any_cons,ih,Function.comp_apply,DK];by_cases h:a=some w
  ·subst h;simp
  ·simp[h,Ne.symm h]
theorem rY(n:Nat)(l:List Str):∀e∈l.map D.str,dZ n e:=by
 intro e he;rw[aD] at he;obtain⟨x,_,rfl⟩:=he;rw[rZ];trivial
theorem AV(n:Nat)(l:List (Option Str)):∀e∈l.map dO,dZ n e:=by
 intro e he;rw[aD] at he;obtain⟨x,_,rfl⟩:=he;rw[Ar];trivial
def fh(ws:List Str)(l:List (Option Str)):Prop:=∀w,some w∈l->w∈ws
theorem Ds{α:Type}{wi:kP}{g:jc}{tb:TX}{D:DE}{ρ:Ev}(L:List α)(φ:α->L2.D)(hw:∀Q':List L2.D->Prop,Q' (pv (L.map φ))->wi ρ Q')(Iv:Nat->Ev->Prop)(h0:Iv 0 ρ)
  (turn:∀(i:Nat) x ρ',L[i]?=some x->Iv i ρ'->g (.tup [.int i,φ x]) ρ' fun ft=>tb { D with nx:=Iv (i+1),ct:=Iv (i+1),bk:=D.nx } ft) (fin:∀ρ',Iv L.length ρ'->D.nx ρ'):lZ wi g tb D ρ:=by
 refine HZ (pv (L.map φ)) hw Iv h0 (fun i d ρ' hd iv=>?_) (fun ρ' iv=>fin ρ' (by simpa[pv] using iv));unfold pv at hd;rw[List.getElem?_mapIdx,aT] at hd;cases hx:L[i]? with
 | none=>rw[hx] at hd;cases hd
 | some x=>rw[hx] at hd;cases hd;exact turn i x ρ' hx iv
theorem IY:∀{a b c:List Nat},Spec.ltCps a b=true->Spec.ltCps b c=true->Spec.ltCps a c=true
 | [],[],c,h,_=>by simp[Spec.ltCps] at h
 | [],b::bs,[],_,h=>by simp[Spec.ltCps] at h
 | [],b::bs,c::cs,_,_=>by simp[Spec.ltCps]
 | a::as,[],c,h,_=>by simp[Spec.ltCps] at h
 | a::as,b::bs,[],_,h=>by simp[Spec.ltCps] at h
 | a::as,b::bs,c::cs,h,h'=>by
  simp only[Spec.ltCps,Bool.or_eq_true,decide_eq_true_eq,Bool.and_eq_true,beq_iff_eq] at h h' ⊢;rcases h with h | ⟨rfl,h⟩
  ·rcases h' with h' | ⟨rfl,h'⟩
   ·left;omega
   ·left;omega
  ·rcases h' with h' | ⟨rfl,h'⟩
   ·left;omega
   ·right;exact⟨rfl,IY h h'⟩
theorem GY:∀{a b:List Nat},Spec.ltCps a b=false->Spec.ltCps b a=false->a=b
 | [],[],_,_=>rfl
 | [],b::bs,h,_=>by simp[Spec.ltCps] at h
 | a::as,[],_,h=>by simp[Spec.ltCps] at h
 | a::as,b::bs,h,h'=>by
  simp only[Spec.ltCps,Bool.or_eq_false_iff,decide_eq_false_iff_not,Bool.and_eq_false_iff,beq_eq_false_iff_ne] at h h';have e:a=b:=by omega
  subst e;rw[GY (h.2.resolve_left fun z=>z rfl) (h'.2.resolve_left fun z=>z rfl)]
def iC(a b:Str):Prop:=Spec.ltCps a.cps.toList b.cps.toList=true
theorem PZ{a b c:Str}(h:iC a b)(h':iC b c):iC a c:=IY h h'
theorem Hn{a b:Str}(h:a.cps.toList=b.cps.toList):a=b:=by rw[<-Au a,<-Au b,h]
theorem IX:∀{p:Str} {l:List Str},risingS p l=true->(p::l).Nodup->(p::l).Pairwise iC
 | p,[],_,_=>by simp
 | p,x::r,h,nd=>by
  simp only[risingS,Bool.and_eq_true,Bool.not_eq_true'] at h;have oY:=nd;rw[aN] at nd;have ih:=IX h.2 nd.2;have jf:p≠x:=fun z=>nd.1 (by simp[z])
  have Kb:iC p x:=by
   unfold iC;cases e:Spec.ltCps p.cps.toList x.cps.toList with
   | true=>rfl
   | false=>exact absurd (Hn (GY e h.1)) jf
  rw[List.pairwise_cons];refine⟨fun b hb=>?_,ih⟩;rcases af.mp hb with rfl | hb
  ·exact Kb
  ·exact PZ Kb ((List.pairwise_cons.mp ih).1 b hb)
theorem Dr{l:List Str}(h:sortedS l=true)(nd:l.Nodup):l.Pairwise iC:=by
 cases l with
 | nil=>exact .nil
 | cons x r=>exact IX h nd
def Gk(g:jc)(tb:TX)(D:DE)(ρ:Ev)(ds:List L2.D):Prop:=∃Iv:Nat->Ev->Prop,Iv 0 ρ/\
 (∀i d ρ',ds[i]?=some d->Iv i ρ'->g d ρ' fun ft=>tb { D with nx:=Iv (i+1),ct:=Iv (i+1),bk:=D.nx } ft)/\∀ρ',Iv ds.length ρ'->D.nx ρ'
theorem OU{wi:kP}{g:jc}{tb:TX}{D:DE}{ρ:Ev}(P:List L2.D->Prop)(hw:∀Q':List L2.D->Prop,(∀ds,P ds->Q' ds)->wi ρ Q')(h:∀ds,P ds->Gk g tb D ρ ds):lZ wi g tb D ρ:=hw _ h
theorem QR{α:Type}{g:jc}{tb:TX}{D:DE}{ρ:Ev}(L:List α)(φ:α->L2.D)(Iv:Nat->Ev->Prop)(h0:Iv 0 ρ)
  (turn:∀(i:Nat) x ρ',L[i]?=some x->Iv i ρ'->g (.tup [.int i,φ x]) ρ' fun ft=>tb { D with nx:=Iv (i+1),ct:=Iv (i+1),bk:=D.nx } ft) (fin:∀ρ',Iv L.length ρ'->D.nx ρ'):Gk g tb D ρ (pv (L.map φ)):=by
 refine⟨Iv,h0,fun i d ρ' hd iv=>?_,fun ρ' iv=>fin ρ' (by simpa[pv] using iv)⟩;unfold pv at hd;rw[List.getElem?_mapIdx,aT] at hd;cases hx:L[i]? with
 | none=>rw[hx] at hd;cases hd
 | some x=>rw[hx] at hd;cases hd;exact turn i x ρ' hx iv
theorem Nc{n:Nat}{α:Type}(f:α->D)(l:List α)(h:∀x∈l,dZ n (f x)):dZ (n+1) (.lst (l.map f)):=by
 intro d hd;rw[aD] at hd;obtain⟨x,hx,rfl⟩:=hd;exact h x hx
theorem GD(n:Nat)(l:List (Option Str)):dZ (n+1) (dP l):=Nc dO l fun x _=>by rw[Ar];trivial
noncomputable def Fj(ns:List Int):Int:=(ns.take 1).sum
theorem HR{α:Type}(a:α)(r:List α):du (a::r) 0=some a:=by
 unfold du kY;rw[if_pos (by decide),if_pos (by simp only[aB];omega)];rfl
theorem Gr(o:OV):(R.ov o).sl=.ov o:=rfl
theorem HQ{α β:Type}(f:α->D)(g:β->D)(a:List α)(b:List β):vC (a.map f) (b.map g)=(a.zip b).map fun p=>.tup [f p.1,g p.2]:=by
 unfold vC;rw[List.zipWith_map,List.zip,List.map_zipWith]
end Wc
namespace Wc
open PySem L2
noncomputable def jE:Nat->Int->List Nat
 | 0,_=>[]
 | n+1,c=>(97+(c%26).toNat)::jE n (c/26)
theorem IW(n:Nat)(c:Int):(jE n c).length=n:=by
 induction n generalizing c with
 | zero=>rfl
 | succ n ih=>simp[jE,ih]
theorem HP(n:Nat)(c:Int):∀x∈jE n c,97<=x/\x<=122:=by
 induction n generalizing c with
 | zero=>intro x hx;cases hx
 | succ n ih=>
  intro x hx;rcases af.mp hx with rfl | h
  ·have h0:=aK c (show(26:Int)≠0 by decide);have h1:=aM c (show(0:Int)<26 by decide);omega
  ·exact ih _ x h
noncomputable def wM:Str:="abcdefghijklmnopqrstuvwxyz"
theorem Nb:∀k:Fin 26,du wM.cps.toList (k.val:Int)=some (97+k.val):=by decide +kernel
theorem NR(c:Int):du wM.cps.toList (c%26)=some (97+(c%26).toNat):=by
 have h0:=aK c (show(26:Int)≠0 by decide);have h1:=aM c (show(0:Int)<26 by decide);have:=Nb ⟨(c%26).toNat,by omega⟩;simp only at this;rwa [Int.toNat_of_nonneg h0] at this
def yz:eO:=fun ds Q=>∃(c:Int) (n:Nat),ds=[.int c,.int n]/\n<=1000/\Q (.fz (.str (ic (jE n c))))
def DU:TX:=(bQ (dX 2 (dC (.str "abcdefghijklmnopqrstuvwxyz")))
 (bQ (dX 3 (dC (.str "")))
 (bQ (lZ (oG (bx (br 1) bD)) (cM 4) (bQ (dX 3 (bB cT (br 3) (bB cD (br 2) (bB (oI (fun _ j=>0<j) fun i j=>.int (i%j)) (br 0) (dC (.int 26))))))
 (dX 0 (bB (oI gS fun i j=>.int (i/j)) (br 0) (dC (.int 26))))))
 (eX (br 3)))))
theorem RO:jP 2 yz DU ["_law_cell","_law_size","_law_signs","_law_stem_here","_law_k"]:=by
 intro ds Qr hl h;obtain⟨c,n,rfl,hn,q⟩:=h;show DU _ [.fz (.int c),.fz (.int n),.un,.un,.un];unfold DU;walk_at "all";refine ye n (fun Q' h=>?_) (fun i ρ=>∃(c':Int) (acc:List Nat) (k:Sl),ρ=[.fz (.int c'),.fz (.int n),.fz (.str wM),.fz (.str (ic acc)),k]/\acc.length=i/\acc++jE (n-i) c'=jE n c) ⟨_,[],_,rfl,rfl,rfl⟩ ?_ ?_
 ·walk_at "all";exact⟨by omega,by omega,by simpa using h⟩
 ·rintro i ρ hi ⟨c',acc,k,rfl,Ku,he⟩;walk_at "all";refine⟨by decide,_,NR c',?_,_,acc++[97+(c'%26).toNat],_,by rw[t4,uF],by simp[Ku],?_⟩
  ·rw[l9,t4,l9,iq];simp;omega
  ·rw[<-he,show n-i=(n-(i+1))+1 by omega,jE];simp
 ·rintro ρ ⟨c',acc,k,rfl,Ku,he⟩;walk_at "all";rw[Nat.sub_self] at he;simp only[jE,List.append_nil] at he;rw[he];exact q
end Wc
namespace Wc
open PySem L2
noncomputable def vP(c:Int):List (List Nat):=
 if c/64%3=0 then [104,103,102,101,100,99,98,97].map fun s=>(jE 6 (c/512)).take (c/8%(c%6+1)).toNat++[s]++((jE 6 (c/512)).drop (c/8%(c%6+1)).toNat).take ((c%6).toNat-(c/8%(c%6+1)).toNat)
 else if c/64%3=1 then(List.range 8).map fun k=>(jE 6 (c/512)).take (c%6%4).toNat++[if k/4=0 then 109 else 116]++[if k/2%2=0 then 110 else 117]++[if k%2=0 then 111 else 118]
 else(List.range 6).map (fun k=>(jE 6 (c/512)).take (k+1))++[([if (jE 6 (c/512)).headD 0=97 then 98 else 97]++(jE 6 (c/512)).drop 1).take 1,([if (jE 6 (c/512)).headD 0=97 then 98 else 97]++(jE 6 (c/512)).drop 1).take 3]
noncomputable def Ck(i:Int):Int:=(i%1000000000000000000000000+5)*7046029254386353131%1000000000000000000000007
noncomputable def rV(i:Int):List Str:=(vP (Ck i)).map ic
structure Words (ws:List Str):Prop where
 len:ws.length=8
 sz:∀w∈ws,1<=w.length/\w.length<=6
 wM:∀w∈ws,∀x∈w.cps.toList,97<=x/\x<=122
 nd:ws.Nodup
theorem Gq(x:Int):∃a b c d e f:Nat,jE 6 x=[a,b,c,d,e,f]/\(97<=a/\a<=122)/\(97<=b/\b<=122)/\(97<=c/\c<=122)/\(97<=d/\d<=122)/\(97<=e/\e<=122)/\(97<=f/\f<=122):=by
 have h:=HP 6 x;simp only[jE,af,aH,or_false,forall_eq_or_imp,forall_eq] at h;exact⟨_,_,_,_,_,_,by simp only[jE],h.1,h.2.1,h.2.2.1,h.2.2.2.1,h.2.2.2.2.1,h.2.2.2.2.2⟩
theorem OS{l:List (List Nat)}(h:l.Nodup):(l.map ic).Nodup:=by
 unfold List.Nodup at *;rw[List.pairwise_map];exact h.imp fun oi e=>oi (sx.mp e)
theorem PY(c:Int):(vP c).length=8/\(∀w∈vP c,(1<=w.length/\w.length<=6)/\∀x∈w,97<=x/\x<=122)/\(vP c).Nodup:=by
 have fA:=HP 6 (c/512);have EW:=IW 6 (c/512);have s0:0<=c%6:=aK _ (by decide);have s1:c%6<6:=aM _ (by decide);unfold vP;by_cases h0:c/64%3=0
 ·rw[if_pos h0];have t0:0<=c/8%(c%6+1):=aK _ (by omega);have t1:c/8%(c%6+1)<c%6+1:=aM _ (by omega);generalize c/8%(c%6+1)=at' at *;generalize jE 6 (c/512)=st at *;refine⟨rfl,fun w hw=>?_,?_⟩
  ·rw[aD] at hw;obtain⟨s,hs,rfl⟩:=hw;have t6:97<=s/\s<=122:=by
    simp only[af,aH,or_false] at hs;omega
   refine⟨?_,fun x hx=>?_⟩
   ·simp only[aw,ay,aL,aB,List.length_nil,EW];omega
   ·simp only[au,aF] at hx;rcases hx with(hx | rfl) | hx
    ·exact fA x (List.mem_of_mem_take hx)
    ·exact t6
    ·exact fA x (List.mem_of_mem_drop (List.mem_of_mem_take hx))
  ·simp[List.append_assoc]
 ·rw[if_neg h0];by_cases h1:c/64%3=1
  ·rw[if_pos h1];have u0:0<=c%6%4:=aK _ (by decide);have u1:c%6%4<4:=aM _ (by decide);generalize c%6%4=m at *;generalize jE 6 (c/512)=st at *;refine⟨by simp,fun w hw=>?_,?_⟩
   ·rw[aD] at hw;obtain⟨s,hs,rfl⟩:=hw;refine⟨?_,fun x hx=>?_⟩
    ·simp only[aw,ay,aL,aB,List.length_nil,EW];omega
    ·simp only[au,aF] at hx;rcases hx with((hx | rfl) | rfl) | rfl
     ·exact fA x (List.mem_of_mem_take hx)
     ·split<;>omega
     ·split<;>omega
     ·split<;>omega
   ·simp[List.range,List.range.loop,List.append_assoc]
  ·rw[if_neg h1];obtain⟨a,b,c',d,e,f,hs,ha,hb,hc,hd,he,hf⟩:=Gq (c/512);rw[hs];have ho:97<=(if a=97 then 98 else 97)/\(if a=97 then 98 else 97)<=122/\(if a=97 then 98 else 97)≠a:=by split<;>omega
   generalize (if a=97 then 98 else 97)=o at ho;refine⟨by simp,?_,?_⟩
   ·intro w hw;simp[List.range,List.range.loop] at hw;rcases hw with rfl | rfl | rfl | rfl | rfl | rfl | rfl | rfl<;>(refine⟨by simp,fun x hx=>?_⟩)<;>simp at hx<;>(try split at hx)<;>omega
   ·have:¬a=o:=fun z=>ho.2.2 z.symm
    simp[List.range,List.range.loop];split<;>omega
theorem IV(i:Int):Words (rV i):=by
 obtain⟨h1,h2,h3⟩:=PY (Ck i);refine⟨by simp[rV,h1],fun w hw=>?_,fun w hw=>?_,OS h3⟩
 ·unfold rV at hw;rw[aD] at hw;obtain⟨l,hl,rfl⟩:=hw;rw[l9];exact(h2 l hl).1
 ·unfold rV at hw;rw[aD] at hw;obtain⟨l,hl,rfl⟩:=hw;rw[xF];exact(h2 l hl).2
def wa:eO:=fun ds Q=>∃i:Int,ds=[.int i]/\Q (.ow ((rV i).map .str))
def D6:TX:=(bQ (dX 0 (bB (oI (fun _ j=>0<j) fun i j=>.int (i%j)) (bB (oI iK fun i j=>.int (i*j)) (bB cT (bB (oI (fun _ j=>0<j) fun i j=>.int (i%j)) (br 0) (bB (oI oA fun i j=>.int (i ^ j.toNat)) (dC (.int 10)) (dC (.int 24)))) (dC (.int 5))) (dC (.int 7046029254386353131))) (bB cT (bB (oI oA fun i j=>.int (i ^ j.toNat)) (dC (.int 10)) (dC (.int 24))) (dC (.int 7)))))
 (bQ (dX 1 (bB (oI (fun _ j=>0<j) fun i j=>.int (i%j)) (br 0) (dC (.int 6))))
 (bQ (dX 2 (fq 2 yz (bx (bB (oI gS fun i j=>.int (i/j)) (br 0) (dC (.int 512))) (bx (dC (.int 6)) bD))))
 (bQ (dX 3 (bB (oI (fun _ j=>0<j) fun i j=>.int (i%j)) (bB (oI gS fun i j=>.int (i/j)) (br 0) (dC (.int 8))) (bB cT (br 1) (dC (.int 1)))))
 (bQ (gR (dh (bB oEq (bB (oI (fun _ j=>0<j) fun i j=>.int (i%j)) (bB (oI gS fun i j=>.int (i/j)) (br 0) (dC (.int 64))) (dC (.int 3))) (dC (.int 0)))) (eX (eG (gh (dC (.str "hgfedcba"))) [none,some 2,some 3,some 1] (cM 0) iE (bB cT (bB cT (fZ (br 1) gN (fv (br 2))) (br 0)) (fZ (br 1) (fv (br 2)) (fv (br 3)))))) hZ)
 (bQ (gR (dh (bB oEq (bB (oI (fun _ j=>0<j) fun i j=>.int (i%j)) (bB (oI gS fun i j=>.int (i/j)) (br 0) (dC (.int 64))) (dC (.int 3))) (dC (.int 1)))) (eX (eG (oG (bx (dC (.int 8)) bD)) [none,some 2,some 1] (cM 0) iE (bB cT (bB cT (bB cT (fZ (br 1) gN (fv (bB (oI (fun _ j=>0<j) fun i j=>.int (i%j)) (br 2) (dC (.int 4))))) (bB cD (dC (.str "mt")) (bB (oI gS fun i j=>.int (i/j)) (br 0) (dC (.int 4))))) (bB cD (dC (.str "nu")) (bB (oI (fun _ j=>0<j) fun i j=>.int (i%j)) (bB (oI gS fun i j=>.int (i/j)) (br 0) (dC (.int 2))) (dC (.int 2))))) (bB cD (dC (.str "ov")) (bB (oI (fun _ j=>0<j) fun i j=>.int (i%j)) (br 0) (dC (.int 2))))))) hZ)
 (bQ (dX 4 (bB cT (bB cD (dC (.str "ab")) (dF zS (bx (bB oEq (bB cD (br 2) (dC (.int 0))) (dC (.str "a"))) bD))) (fZ (br 2) (fv (dC (.int 1))) gN)))
 (eX (bB cT (eG (oG (bx (dC (.int 6)) bD)) [none,some 2] (cM 0) iE (fZ (br 1) gN (fv (bB cT (br 0) (dC (.int 1)))))) (cZ (bx (fZ (br 4) gN (fv (dC (.int 1)))) (bx (fZ (br 4) gN (fv (dC (.int 3)))) bD))))))))))))
theorem Na:(Str.ofString "hgfedcba").cps.toList=[104,103,102,101,100,99,98,97]:=by decide +kernel
theorem Lb(k:Nat)(h:k<8):du (Str.ofString "mt").cps.toList ((k:Int)/4)=some (if k/4=0 then 109 else 116):=by
 have:∀k:Fin 8,du (Str.ofString "mt").cps.toList ((k.val:Int)/4)=some (if k.val/4=0 then 109 else 116):=by decide +kernel
 exact this ⟨k,h⟩
theorem La(k:Nat)(h:k<8):du (Str.ofString "nu").cps.toList ((k:Int)/2%2)=some (if k/2%2=0 then 110 else 117):=by
 have:∀k:Fin 8,du (Str.ofString "nu").cps.toList ((k.val:Int)/2%2)=some (if k.val/2%2=0 then 110 else 117):=by decide +kernel
 exact this ⟨k,h⟩
theorem K9(k:Nat)(h:k<8):du (Str.ofString "ov").cps.toList ((k:Int)%2)=some (if k%2=0 then 111 else 118):=by
 have:∀k:Fin 8,du (Str.ofString "ov").cps.toList ((k.val:Int)%2)=some (if k.val%2=0 then 111 else 118):=by decide +kernel
 exact this ⟨k,h⟩
theorem SU:jP 1 wa D6 ["_law_cell","_law_size","_law_stem_here","_law_at","_law_other"]:=by
 intro ds Qr hl h;obtain⟨i,rfl,q⟩:=h;show D6 _ [.fz (.int i),.un,.un,.un,.un];unfold D6;walk_at "all";unfold rV vP Ck at q;generalize (i%1000000000000000000000000+5)*7046029254386353131%1000000000000000000000007=c at q ⊢;have s0:0<=c%6:=aK _ (by decide);have s1:c%6<6:=aM _ (by decide);refine⟨c/512,6,rfl,by decide,by omega,?_⟩;have t0:0<=c/8%(c%6+1):=aK _ (by omega);have t1:c/8%(c%6+1)<c%6+1:=aM _ (by omega);have EW:=IW 6 (c/512);have big:=iq;by_cases h0:c/64%3=0
 ·rw[if_pos h0] at q;rw[if_pos h0];refine lx [104,103,102,101,100,99,98,97] (fun c=>.str ⟨#[c]⟩) (fun s=>.str (ic ((jE 6 (c/512)).take (c/8%(c%6+1)).toNat++[s]++((jE 6 (c/512)).drop (c/8%(c%6+1)).toNat).take ((c%6).toNat-(c/8%(c%6+1)).toNat)))) (fun Q' h=>?_) (by decide) (fun s hs K1 k=>?_) ?_
  ·walk_at "all";rw[Na];exact h
  ·walk_at "all";rw[xE _ t0,OX _ t0 s0,t4,uF,uF];refine⟨by rw[l9];omega,?_,by rw[l9];omega,?_,k⟩
   ·simp only[l9,ay,aB,List.length_nil];omega
   ·simp only[l9,aw,ay,aL,aB,List.length_nil];omega
  ·exact q
 ·rw[if_neg h0] at q;rw[if_neg h0];by_cases h1:c/64%3=1
  ·rw[if_pos h1] at q;rw[if_pos h1];have u0:0<=c%6%4:=aK _ (by decide);refine lx (List.range 8) (fun(i:Nat)=>.int (0+i)) (fun k=>.str (ic ((jE 6 (c/512)).take (c%6%4).toNat++[if k/4=0 then 109 else 116]++[if k/2%2=0 then 110 else 117]++[if k%2=0 then 111 else 118]))) (fun Q' h=>?_) (by decide) (fun s hs K1 k=>?_) ?_
   ·walk_at "all";exact h
   ·have EG:s<8:=by simpa using hs
    rw[Int.zero_add];walk_at "all";rw[xE _ u0];refine⟨by rw[l9];omega,by decide,_,Lb s EG,?_,by decide,_,La s EG,?_,by decide,_,K9 s EG,?_,?_⟩
    ·simp only[l9,t4,ay,aB,List.length_nil];omega
    ·simp only[l9,t4,uF,aw,ay,aB,List.length_nil];omega
    ·simp only[l9,t4,uF,aw,ay,aB,List.length_nil];omega
    ·simp only[t4,uF];exact k
   ·rw[aQ] at q;exact q
  ·rw[if_neg h1] at q;rw[if_neg h1];obtain⟨a,b,c',d,e,f,hs,ha,hb,hc,hd,he,hf⟩:=Gq (c/512);rw[hs] at q ⊢;have rD:du (ic [a,b,c',d,e,f]).cps.toList 0=some a:=by rw[xF];rfl
   refine⟨by rw[l9];simp;omega,a,rD,?_⟩;have ho:du (Str.ofString "ab").cps.toList (if (⟨#[a]⟩:Str)=Str.ofString "a" then 1 else 0)=some (if a=97 then 98 else 97):=by
    by_cases Fs:a=97
    ·subst Fs;decide +kernel
    ·have:¬((⟨#[a]⟩:Str)=Str.ofString "a"):=by
      intro z;have z2:(⟨#[a]⟩:Str).cps.toList=(Str.ofString "a").cps.toList:=by rw[z]
      have z3:(Str.ofString "a").cps.toList=[97]:=by decide +kernel
      rw[z3] at z2;simp at z2;exact Fs z2
     rw[if_neg this,if_neg Fs];decide +kernel
   refine⟨by decide,_,ho,?_⟩;walk_at "all";rw[Pw _ (by decide),t4,uF];refine⟨by rw[l9];simp;omega,by simp only[l9];simp;omega,?_⟩;refine lx (List.range 6) (fun(i:Nat)=>.int (0+i)) (fun k=>.str (ic ([a,b,c',d,e,f].take (k+1)))) (fun Q' h=>?_) (by decide) (fun s hs K1 k=>?_) ?_
   ·walk_at "all";exact h
   ·walk_at "all";rw[xE _ (by omega),show(0+(s:Int)+1).toNat=s+1 by omega];exact⟨by rw[l9];simp;omega,k⟩
   ·walk_at "all";rw[xE _ (by decide),xE _ (by decide)];refine⟨by rw[l9];simp;omega,by rw[l9];simp;omega,by decide,by simp;omega,?_⟩;simp only[aq,aQ,aj,bg] at q;exact q
end Wc
namespace Wc
open PySem L2
def yy:eO:=fun ds Q=>∃(ws:List Str) (cells:List Int) (ck:Int) (W:Nat),ds=[dS ws,dI cells,.int ck,.int W]/\ws.length=8/\W<=40/\
 ∀top bp:List (Option Str),top.length=W->bp.length=W->fh ws top->fh ws bp->Q (.fz (.tup [dP top,dP bp]))
def DT:TX:=(bQ (je 4 (cZ bD))
 (bQ (je 5 (cZ bD))
 (bQ (lZ (oG (bx (br 3) bD)) (cM 6) (bQ (je 7 (cZ bD))
 (bQ (lZ (oG (bx (dC (.int 2)) bD)) (cM 8) (bQ (dX 9 (bB cT (bB (oI iK fun i j=>.int (i*j)) (dC (.int 2)) (br 6)) (br 8)))
 (bQ (dX 10 (fq 2 pD (bx (br 2) (bx (br 9) bD))))
 (bQ (gR (dh (bB (gO fun i j=>.bl (decide (i<j))) (br 9) (dF jv (bx (br 1) bD)))) (dX 10 (fq 2 pD (bx (bB cD (br 1) (br 9)) (bx (br 9) bD)))) hZ)
 (mW 7 (bB cD (cZ (bx (bB cD (br 0) (bB (oI (fun _ j=>0<j) fun i j=>.int (i%j)) (br 10) (dC (.int 8)))) (bx (bB cD (br 0) (bB (oI (fun _ j=>0<j) fun i j=>.int (i%j)) (bB (oI gS fun i j=>.int (i/j)) (br 10) (dC (.int 8))) (dC (.int 3)))) (bx (bB cD (br 0) (bB (oI (fun _ j=>0<j) fun i j=>.int (i%j)) (bB (oI gS fun i j=>.int (i/j)) (br 10) (dC (.int 8))) (dC (.int 5)))) (bx (dC .non) bD))))) (bB (oI (fun _ j=>0<j) fun i j=>.int (i%j)) (bB (oI gS fun i j=>.int (i/j)) (br 10) (dC (.int 64))) (dC (.int 4)))))))))
 (bQ (mW 4 (pq 7 (dC (.int 0))))
 (mW 5 (pq 7 (dC (.int 1))))))))
 (ju 5 (ju 4 (eX (mQ (bx (br 4) (bx (br 5) bD)))))))))
theorem C6(ws:List Str):fh ws []:=fun w h=>by cases h
theorem DB{ws:List Str}{l:List (Option Str)}{x:Option Str}(h:fh ws l)(hx:∀w,x=some w->w∈ws):fh ws (l++[x]):=fun w hw=>by
 rcases au.mp hw with h1 | h1
 ·exact h w h1
 ·exact hx w (aF.mp h1).symm
theorem Su:jP 4 yy DT ["_law_words","_law_cells","_law_seed","_law_width","_law_top","_law_bottom","_law_c","_law_row","_law_side","_law_k","_law_one"]:=by
 intro ds Qr hl h;obtain⟨ws,cells,ck,W,rfl,qA,hW,q⟩:=h;show DT _ [.fz (dS ws),.fz (dI cells),.fz (.int ck),.fz (.int W),.un,.un,.un,.un,.un,.un,.un];unfold DT;have big:=iq;walk_at "px";refine⟨by omega,?_⟩;walk_at "go";refine⟨by omega,?_⟩;walk_at "go";refine ye W (fun Q' h=>?_) (fun i ρ=>∃(top bp:List (Option Str)) (a b c d e:Sl),ρ=[.fz (dS ws),.fz (dI cells),.fz (.int ck),.fz (.int W),.ow (top.map dO),.ow (bp.map dO),a,b,c,d,e]/\top.length=i/\bp.length=i/\fh ws top/\fh ws bp) ⟨[],[],_,_,_,_,_,rfl,rfl,rfl,C6 _,C6 _⟩ ?_ ?_
 ·walk_at "px";exact⟨by omega,by omega,by simpa using h⟩
 ·rintro i ρ hi ⟨top,bp,a,b,c,d,e,rfl,ht,hb,pt,pb⟩;walk_at "px";refine⟨by omega,?_⟩;walk_at "go";refine ye 2 (fun Q' h=>?_) (fun j ρ=>∃(row:List (Option Str)) (c d e:Sl),ρ=[.fz (dS ws),.fz (dI cells),.fz (.int ck),.fz (.int W),.ow (top.map dO),.ow (bp.map dO),.fz (.int i),.ow (row.map dO),c,d,e]/\row.length=j/\fh ws row) ⟨[],_,_,_,rfl,rfl,C6 _⟩ ?_ ?_
  ·walk_at "px";exact h
  ·rintro j ρ hj ⟨row,c,d,e,rfl,hr,pr⟩;walk_at "px";walk_at "go";have k0:(0:Int)<=2*(i:Int)+j:=by omega
   have k1:2*(i:Int)+j<=1000000:=by omega
   refine⟨ck,_,rfl,k0,k1,?_⟩;walk_at "go";unfold dI;walk_at "px";split
   focus
    rename_i hc;rw[aa] at hc;obtain⟨z,hz,_⟩:=CT (l:=cells) k0 hc;refine⟨z,hz,z,_,rfl,k0,k1,?_⟩
   all_goals
    generalize rN _ _=one;walk_at "go";unfold dS;walk_at "px";obtain⟨z1,h1,m1⟩:=FF one qA;obtain⟨z2,h2,m2⟩:=VZ (one/8) qA;obtain⟨z3,h3,m3⟩:=VY (one/8) qA;refine⟨z1,h1,z2,h2,z3,h3,by omega,?_⟩;have h4:=As (l:=[some z1,some z2,some z3,none]) (n:=4) (one/64) (by simp) (by decide);obtain⟨z,hz,mz⟩:=h4;refine⟨dO z,?_,by simp;omega,row++[z],_,_,_,by rw[aq];rfl,by simp[hr],DB pr ?_⟩
    ·have:=congrArg (Option.map dO) hz;rw[<-vX] at this;exact this
    ·intro w hw;subst hw;simp only[af,Option.some.injEq,aH,or_false,reduceCtorEq] at mz;rcases mz with rfl | rfl | rfl
     ·exact m1
     ·exact m2
     ·exact m3
  ·rintro ρ ⟨row,c,d,e,rfl,hr,pr⟩;obtain⟨x,y,rfl⟩:∃x y,row=[x,y]:=by
    match row,hr with
    | [x,y],_=>exact⟨x,y,rfl⟩
   walk_at "go";refine⟨dO x,rfl,by simp;omega,?_⟩;walk_at "go";refine⟨dO y,rfl,by simp;omega,top++[x],bp++[y],_,_,_,_,_,by rw[aq,aq];rfl,by simp[ht],by simp[hb],DB pt fun w hw=>pr w (by simp[hw]),DB pb fun w hw=>pr w (by simp[hw])⟩
 ·rintro ρ ⟨top,bp,a,b,c,d,e,rfl,ht,hb,pt,pb⟩;walk_at "go";exact⟨by omega,q top bp ht hb pt pb⟩
noncomputable def gY(top bp:List (Option Str))(left right:List Str)(w:Str):Nat:=top.count (some w)+bp.count (some w)+left.count w+right.count w
def wj:eO:=fun ds Q=>∃(top bp:List (Option Str)) (left right:List Str) (w:Str),ds=[dP top,dP bp,dS left,dS right,.str w]/\top.length+bp.length+left.length+right.length<=100000/\Q (.fz (.int (gY top bp left right w)))
def DS:TX:=(bQ (dX 5 (bB cT (bB cT (bB cT (br 0) (br 1)) (br 2)) (br 3)))
 (eX (dM "list" xp (br 5) (bx (br 4) bD))))
theorem GC(w:Str)(l:List (Option Str)):pk (.str w) (l.map dO)=l.count (some w):=by
 unfold pk;rw[List.countP_map,List.count];congr 1
 funext x
 simp only[Function.comp_apply,DK];rw[vW]
theorem CC(w:Str)(l:List Str):pk (.str w) (l.map D.str)=l.count w:=by
 unfold pk;rw[List.countP_map,List.count];congr 1
theorem Dp(d:D)(a b:List D):pk d (a++b)=pk d a+pk d b:=by unfold pk;exact List.countP_append
theorem Ss:jP 5 wj DS ["_law_top","_law_bottom","_law_left","_law_right","_law_word","_law_some"]:=by
 intro ds Qr hl h;obtain⟨top,bp,left,right,w,rfl,hz,q⟩:=h;show DS _ [.fz (dP top),.fz (dP bp),.fz (dS left),.fz (dS right),.fz (.str w),.un];unfold DS;have big:=iq;unfold dP dS;walk_at "px";refine⟨by simp;omega,by simp;omega,by simp;omega,?_⟩;walk_at "go";refine⟨rfl,?_,?_⟩
 ·intro e he;simp only[au] at he;rcases he with((he | he) | he) | he
  ·exact AV 8 top e he
  ·exact AV 8 bp e he
  ·exact rY 8 left e he
  ·exact rY 8 right e he
 ·rw[Dp,Dp,Dp,GC,GC,CC,CC];exact q
theorem zZ(l:List Int)(a:Int):l.map D.int++[D.int a]=(l++[a]).map D.int:=by simp
noncomputable def places(top bp:List (Option Str))(left right:List Str)(w:Str):List Int:=
 (((List.range top.length).filter fun c=>top[c]?==some (some w)||bp[c]?==some (some w)).map fun(c:Nat)=>(c:Int))++(if w∈left then [-1] else [])++(if w∈right then [(top.length:Int)] else [])
def uk(m:Int)(l:List Int):Prop:=m∈l/\∀a∈l,m<=a
def um(m:Int)(l:List Int):Prop:=m∈l/\∀a∈l,a<=m
def yi:eO:=fun ds Q=>∃(top bp:List (Option Str)) (left right:List Str) (w:Str),ds=[dP top,dP bp,dS left,dS right,.str w]/\bp.length=top.length/\top.length<=100/\left.length<=100/\right.length<=100/\
 ∀m M,uk m (places top bp left right w++[99])->um M (places top bp left right w++[-9])->Q (.fz (.tup [.int m,.int M]))
def D4:TX:=(bQ (je 5 (eG (oG (bx (dF jv (bx (br 0) bD)) bD)) [none,some 4,some 0,some 1] (cM 0) (dh (bB (jO false) (br 1) (cZ (bx (bB cD (br 2) (br 0)) (bx (bB cD (br 3) (br 0)) bD))))) (br 0)))
 (bQ (gR (dh (bB (jO false) (br 4) (br 2))) (mW 5 (uu (dC (.int 1)))) hZ)
 (bQ (gR (dh (bB (jO false) (br 4) (br 3))) (mW 5 (dF jv (bx (br 0) bD))) hZ)
 (ju 5 (eX (mQ (bx (dF zR (bx (bB cT (br 5) (cZ (bx (dC (.int 99)) bD))) bD)) (bx (dF zQ (bx (bB cT (br 5) (cZ (bx (uu (dC (.int 9))) bD))) bD)) bD))))))))
theorem Tn:jP 5 yi D4 ["_law_top","_law_bottom","_law_left","_law_right","_law_word","_law_places"]:=by
 intro ds Qr hl h;obtain⟨top,bp,left,right,w,rfl,hb,ht,Kg,hr,q⟩:=h;show D4 _ [.fz (dP top),.fz (dP bp),.fz (dS left),.fz (dS right),.fz (.str w),.un];unfold D4;have big:=iq;unfold dP dS;walk_at "px";refine qW (List.range top.length) (fun(i:Nat)=>.int (0+i)) (fun(i:Nat)=>.int i) (fun c=>top[c]?==some (some w)||bp[c]?==some (some w)) (fun Q' h=>?_) (by simp;omega) (fun c hc K1 K0 k1 k0=>?_) ?_
 ·walk_at "px";rw[aa];exact⟨by omega,by omega,by simpa using h⟩
 ·have o6:c<top.length:=by simpa using hc
  rw[Int.zero_add];walk_at "px";refine⟨_,mh o6,_,mh (l:=bp) (by omega),by omega,?_,?_⟩
  ·intro e he;simp only[af,aH,or_false] at he;rcases he with rfl | rfl<;>(rw[Ar];trivial)
  ·have e1:inD (.str w) [dO top[c],dO bp[c]]=(top[c]?==some (some w)||bp[c]?==some (some w)):=by
    unfold inD;simp only[List.any_cons,List.any_nil,Bool.or_false,DK];rw[ag o6,ag (l:=bp) (by omega),vW,vW];simp
   rw[e1];cases hb:(top[c]?==some (some w)||bp[c]?==some (some w)) with
   | true=>exact k1 hb
   | false=>exact k0 hb
 ·have e:∀L:List Nat,(L.map fun(i:Nat)=>D.int i)=(L.map (fun(c:Nat)=>(c:Int))).map D.int:=fun L=>by simp
  rw[e];have hlen:(((List.range top.length).filter fun c=>top[c]?==some (some w)||bp[c]?==some (some w)).map fun(c:Nat)=>(c:Int)).length<=100:=by
   rw[aa];refine aY (List.length_filter_le _ _) ?_;simp;omega
  unfold places at q;generalize (((List.range top.length).filter fun c=>top[c]?==some (some w)||bp[c]?==some (some w)).map fun(c:Nat)=>(c:Int))=base at q hlen ⊢;walk_at "go";refine⟨rY 8 left,?_⟩;rw[uv];by_cases h1:w∈left<;>by_cases h2:w∈right
  all_goals
   simp only[h1,h2,if_true,if_false,List.append_nil] at q;simp only[h1,decide_true,decide_false,if_true,aR,if_false];try(refine⟨by simp;omega,?_⟩)
   walk_at "go";refine⟨rY 8 right,?_⟩;rw[uv];simp only[h2,decide_true,decide_false,if_true,aR,if_false];try(refine⟨by simp;omega,?_⟩)
   try simp only[zZ,aa]
   walk_at "go";refine⟨by omega,by simp;omega,?_⟩;try simp only[zZ,zR,zQ,zev]
   refine⟨by simp,fun m ve nZ=>?_⟩;refine⟨by omega,by simp;omega,?_⟩;try simp only[zZ,zev]
   refine⟨by simp,fun M Vz Vy=>?_⟩;exact⟨by omega,q m M ⟨by simpa using ve,by simpa using nZ⟩ ⟨by simpa using Vz,by simpa using Vy⟩⟩
end Wc
namespace Wc
open PySem L2 PyProof.Rows
structure ip (top bp:List (Option Str)) (left right ws:List Str) (bH:List (Int×Str)):Prop where
 len:bH.length<=top.length
 up:bH.Pairwise fun a b=>a.1<b.1
 at_:∀p∈bH,∃n:Nat,p.1=n/\n<top.length/\p.2∈ws/\(∃m M,uk m (places top bp left right p.2++[99])/\um M (places top bp left right p.2++[-9])/\m<p.1/\p.1<M)/\((top[n]?=some none/\bp[n]?=some none)\/top[n]?=some (some p.2)\/bp[n]?=some (some p.2))
def yv:eO:=fun ds Q=>∃(top bp:List (Option Str)) (left right ws:List Str) (cells:List Int) (ck:Int),ds=[.lst [dP top,dP bp,dS left,dS right],dS ws,dI cells,.int ck]/\bp.length=top.length/\top.length<=40/\left.length<=100/\right.length<=100/\ws.length=8/\fh ws top/\cells.length<=1000/\
 ∀bH,ip top bp left right ws bH->Q (.ow (bH.map jg))
def DO:TX:=(bQ (wZ (br 0) (zP 4 (gi (cM 4) (gi (cM 5) (gi (cM 6) (gi (cM 7) kj))))))
 (bQ (je 8 (cZ bD))
 (bQ (lZ (oG (bx (dF jv (bx (br 4) bD)) bD)) (cM 9) (bQ (dX 10 (fq 2 pD (bx (bB cD (bB cT (br 2) (cZ (bx (br 3) bD))) (bB (oI (fun _ j=>0<j) fun i j=>.int (i%j)) (br 9) (bB cT (dF jv (bx (br 2) bD)) (dC (.int 1))))) (bx (bB cT (br 9) (dC (.int 200))) bD))))
 (bQ (dX 11 (bB cD (br 1) (bB (oI (fun _ j=>0<j) fun i j=>.int (i%j)) (br 10) (dC (.int 8)))))
 (bQ (gR (qQ (dh (bB oEq (bB (oI (fun _ j=>0<j) fun i j=>.int (i%j)) (bB (oI gS fun i j=>.int (i/j)) (br 10) (dC (.int 8))) (dC (.int 3))) (dC (.int 0)))) (dh (bB (rM true) (bB cD (br 4) (br 9)) (dC .non)))) (dX 11 (bB cD (br 4) (br 9))) hZ)
 (bQ (wZ (fq 5 yi (bx (br 4) (bx (br 5) (bx (br 6) (bx (br 7) (bx (br 11) bD)))))) (lS 2 (gi (cM 12) (gi (cM 13) kj))))
 (bQ (dX 14 (eG (gh (cZ (bx (bB cD (br 4) (br 9)) (bx (bB cD (br 5) (br 9)) bD)))) [none] (cM 0) (dh (bB (rM true) (br 0) (dC .non))) (br 0)))
 (gR (qQ (dh (bB (gO fun i j=>.bl (decide (i<j))) (br 12) (br 9))) (qQ (dh (bB (gO fun i j=>.bl (decide (i<j))) (br 9) (br 13))) (qQ (zH (dh (bB oEq (br 14) (cZ bD))) (dh (bB (jO false) (br 11) (br 14)))) (dh (bB (gO fun i j=>.bl (decide (j<i))) (bB (oI (fun _ j=>0<j) fun i j=>.int (i%j)) (bB (oI gS fun i j=>.int (i/j)) (br 10) (dC (.int 24))) (dC (.int 3))) (dC (.int 0))))))) (mW 8 (mQ (bx (br 9) (bx (br 11) bD)))) hZ)))))))
 (vJ 8))))
theorem OR(l:List D):kn l []=l.isEmpty:=by cases l<;>simp[kn]
theorem SS:jP 4 yv DO ["_law_lists","_law_words","_law_cells","_law_seed","_law_top","_law_bottom","_law_left","_law_right","_law_bends_here","_law_c","_law_one","_law_word","_law_l","_law_r","_law_here"]:=by
 intro ds Qr hl h;obtain⟨top,bp,left,right,ws,cells,ck,rfl,hb,ht,Kg,hr,qA,pt,Fm,q⟩:=h;show DO _ [.fz (.lst [dP top,dP bp,dS left,dS right]),.fz (dS ws),.fz (dI cells),.fz (.int ck),.un,.un,.un,.un,.un,.un,.un,.un,.un,.un,.un];unfold DO;have big:=iq;walk_at "px";walk_at "go";refine⟨by omega,?_⟩;walk_at "go";refine ye top.length (fun Q' h=>?_) (fun i ρ=>∃(bH:List (Int×Str)) (a b c d e f:Sl),ρ=[.fz (.lst [dP top,dP bp,dS left,dS right]),.fz (dS ws),.fz (dI cells),.fz (.int ck),.fz (dP top),.fz (dP bp),.fz (dS left),.fz (dS right),.ow (bH.map jg),a,b,c,d,e,f]/\ip top bp left right ws bH/\(∀p∈bH,p.1<i)/\bH.length<=i) ⟨[],_,_,_,_,_,_,rfl,⟨by simp,by simp,by simp⟩,by simp,by simp⟩ ?_ ?_
 ·unfold dP;walk_at "px";rw[aa];exact⟨by omega,by omega,by simpa using h⟩
 ·rintro i ρ hi ⟨bH,a,b,c,d,e,f,rfl,bo,lt,ln⟩;unfold dI;walk_at "px";rw[aa];refine⟨by omega,by omega,by omega,?_⟩;have m0:0<=(i:Int)%((cells.length:Int)+1):=aK _ (by omega);have m1:(i:Int)%((cells.length:Int)+1)<(cells.length:Int)+1:=aM _ (by omega);rw[zZ];obtain⟨z,hz,_⟩:=CT (l:=cells++[ck]) m0 (by simp;omega);rw[GF];refine⟨z,hz,z,_,rfl,by omega,by omega,?_⟩;generalize rN _ _=one;unfold dS;walk_at "go";obtain⟨z1,h1,JZ⟩:=FF one qA;refine⟨z1,h1,?_⟩;unfold dP;walk_at "go";have rD:top[i]?=some top[i]:=ag hi;have oi:bp[i]?=some bp[i]:=ag (by omega);have key:∃w:Str,w∈ws/\∀K:D->Prop,K (.str w)->(if one/8%3=0 then ∃x,du top (i:Int)=some x/\(if (!oK (dO x))=true then ∃x,du top (i:Int)=some x/\K (dO x) else K (.str z1)) else K (.str z1)):=by
   by_cases hc:one/8%3=0
   ·cases hx:top[i] with
    | none=>exact⟨z1,JZ,fun K k=>by rw[if_pos hc];exact⟨none,by rw[mh hi,hx],by simpa[dO,oK] using k⟩⟩
    | some w=>
     refine⟨w,pt w (by rw[<-hx];exact List.getElem_mem hi),fun K k=>?_⟩;rw[if_pos hc];exact⟨some w,by rw[mh hi,hx],by simp only[dO,oK,Bool.not_false,if_true];exact⟨some w,by rw[mh hi,hx],k⟩⟩
   ·exact⟨z1,JZ,fun K k=>by rw[if_neg hc];exact k⟩
  obtain⟨w,hw,kw⟩:=key;refine kw (fun d=>nK _ _ [_,_,_,_,_,_,_,_,_,_,_,.fz d,_,_,_]) ?_;walk_at "go";refine⟨top,bp,left,right,w,rfl,hb,by omega,Kg,hr,fun m M hm hM=>?_⟩;walk_at "go";refine qW [top[i],bp[i]] dO dO (fun x=>x.isSome) (fun Q' h=>?_) (by simp;omega) (fun c hc K1 K0 k1 k0=>?_) ?_
  ·walk_at "px";exact⟨_,mh hi,_,mh (l:=bp) (by omega),by omega,h⟩
  ·walk_at "px";cases c with
   | none=>exact k0 rfl
   | some x=>exact k1 rfl
  ·walk_at "go";have skip:∀(a b c d e f:Sl) (X Y Z:D),∃(gq:List (Int×Str)) (a' b' c' d' e' f':Sl),[Sl.fz (D.lst [D.lst (List.map dO top),D.lst (List.map dO bp),D.lst (List.map D.str left),D.lst (List.map D.str right)]),Sl.fz (D.lst (List.map D.str ws)),Sl.fz (D.lst (List.map D.int cells)),Sl.fz (D.int ck),Sl.fz (D.lst (List.map dO top)),Sl.fz (D.lst (List.map dO bp)),Sl.fz (D.lst (List.map D.str left)),Sl.fz (D.lst (List.map D.str right)),Sl.ow (List.map jg bH),a,b,c,d,e,f]=[Sl.fz (D.lst [D.lst (List.map dO top),D.lst (List.map dO bp),D.lst (List.map D.str left),D.lst (List.map D.str right)]),Sl.fz (D.lst (List.map D.str ws)),Sl.fz (D.lst (List.map D.int cells)),Sl.fz (D.int ck),Sl.fz (D.lst (List.map dO top)),Sl.fz (D.lst (List.map dO bp)),Sl.fz (D.lst (List.map D.str left)),Sl.fz (D.lst (List.map D.str right)),Sl.ow (List.map jg gq),a',b',c',d',e',f']/\ip top bp left right ws gq/\(∀p∈gq,p.1<((i+1:Nat):Int))/\gq.length<=i+1:=
    fun a b c d e f _ _ _=>⟨bH,a,b,c,d,e,f,rfl,bo,fun p hp=>by have:=lt p hp;omega,by omega⟩
   have zl:some w∈[top[i],bp[i]].filter (fun x=>x.isSome)↔top[i]=some w\/bp[i]=some w:=by
    simp only[List.mem_filter,af,aH,or_false,Option.isSome_some,and_true];constructor
    ·rintro(h | h)
     ·exact .inl h.symm
     ·exact .inr h.symm
    ·rintro(h | h)
     ·exact .inl h.symm
     ·exact .inr h.symm
   have zr:([top[i],bp[i]].filter (fun x=>x.isSome)=[])->top[i]=none/\bp[i]=none:=by
    intro h;rw[List.filter_eq_nil_iff] at h;exact⟨by simpa using h top[i] (by simp),by simpa using h bp[i] (by simp)⟩
   generalize [top[i],bp[i]].filter (fun x=>x.isSome)=here at zl zr ⊢;split
   ·rename_i c1;split
    ·rename_i c2;refine⟨by omega,dZ.mono (n:=1) (by omega) (by intro d hd;exact AV 0 here d hd),dZ.mono (n:=1) (by omega) (by intro d hd;cases hd),?_⟩;have fin:(top[i]=none/\bp[i]=none)\/top[i]=some w\/bp[i]=some w->ip top bp left right ws (bH++[((i:Int),w)]):=fun hp=>by
      refine⟨by simp;omega,?_,?_⟩
      ·rw[List.pairwise_append];refine⟨bo.up,by simp,fun a ha b hb=>?_⟩;have:b=((i:Int),w):=by simpa using hb
       subst this;exact lt a ha
      ·intro p EL;rcases au.mp EL with h | h
       ·exact bo.at_ p h
       ·have:p=((i:Int),w):=by simpa using h
        subst this;refine⟨i,rfl,hi,hw,⟨m,M,hm,hM,c1,c2⟩,?_⟩;rw[rD,oi];simpa using hp
     have put:(top[i]=none/\bp[i]=none)\/top[i]=some w\/bp[i]=some w->2<=sizeLine/\(List.map jg bH).length<sizeLine/\∃(gq:List (Int×Str)) (a' b' c' d' e' f':Sl),[Sl.fz (D.lst [D.lst (List.map dO top),D.lst (List.map dO bp),D.lst (List.map D.str left),D.lst (List.map D.str right)]),Sl.fz (D.lst (List.map D.str ws)),Sl.fz (D.lst (List.map D.int cells)),Sl.fz (D.int ck),Sl.fz (D.lst (List.map dO top)),Sl.fz (D.lst (List.map dO bp)),Sl.fz (D.lst (List.map D.str left)),Sl.fz (D.lst (List.map D.str right)),Sl.ow (List.map jg bH++[D.tup [D.int i,D.str w]]),Sl.fz (D.int i),Sl.fz (D.int one),Sl.fz (D.str w),Sl.fz (D.int m),Sl.fz (D.int M),Sl.fz (D.lst (here.map dO))]=[Sl.fz (D.lst [D.lst (List.map dO top),D.lst (List.map dO bp),D.lst (List.map D.str left),D.lst (List.map D.str right)]),Sl.fz (D.lst (List.map D.str ws)),Sl.fz (D.lst (List.map D.int cells)),Sl.fz (D.int ck),Sl.fz (D.lst (List.map dO top)),Sl.fz (D.lst (List.map dO bp)),Sl.fz (D.lst (List.map D.str left)),Sl.fz (D.lst (List.map D.str right)),Sl.ow (List.map jg gq),a',b',c',d',e',f']/\ip top bp left right ws gq/\(∀p∈gq,p.1<((i+1:Nat):Int))/\gq.length<=i+1:=fun hp=>by
      refine⟨by omega,by simp;omega,bH++[((i:Int),w)],_,_,_,_,_,_,by rw[aq];rfl,fin hp,?_,by simp;omega⟩;intro p EL;rcases au.mp EL with h | h
      ·have:=lt p h;omega
      ·have:p=((i:Int),w):=by simpa using h
       subst this;show(i:Int)<_;omega
     by_cases ce:here=[]
     ·simp only[ce,bg,cX,kn,if_true];split
      ·have:=put (.inl (zr ce));rw[ce] at this;exact this
      ·have:=skip (.fz (D.int i)) (.fz (D.int one)) (.fz (D.str w)) (.fz (D.int m)) (.fz (D.int M)) (.fz (D.lst [])) .non .non .non;exact this
     ·have e1:cX (D.lst (here.map dO)) (D.lst [])=false:=by
       simp only[cX,OR];cases here with
       | nil=>exact absurd rfl ce
       | cons=>rfl
      simp only[e1,aR,if_false];refine⟨AV 8 here,?_⟩;rw[Lc];simp only[decide_eq_true_eq];split
      ·rename_i zp;split
       ·exact put (.inr (zl.mp zp))
       ·exact skip _ _ _ _ _ _ .non .non .non
      ·exact skip _ _ _ _ _ _ .non .non .non
    ·exact skip _ _ _ _ _ _ .non .non .non
   ·exact skip _ _ _ _ _ _ .non .non .non
 ·rintro ρ ⟨bH,a,b,c,d,e,f,rfl,bo,lt,ln⟩;walk_at "go";exact q bH bo
def lL(W:Nat)(keeps:List (Int×Int×Int)):Prop:=keeps.length<=6/\∀p∈keeps,0<=p.1/\p.1<=p.2.1/\p.2.1<W/\1<=p.2.2/\p.2.2<=3
def yu:eO:=fun ds Q=>∃(W:Nat) (cells:List Int) (ck:Int),ds=[.int W,dI cells,.int ck]/\1<=W/\W<=40/\∀keeps,lL W keeps->Q (.ow (keeps.map my))
def DN:TX:=(bQ (je 3 (cZ bD))
 (bQ (lZ (vI (bx (fZ (br 1) gN (fv (dC (.int 6)))) bD)) (lS 2 (gi (cM 4) (gi (cM 5) kj))) (bQ (dX 6 (fq 2 pD (bx (bB cT (br 5) (br 2)) (bx (bB cT (br 4) (dC (.int 300))) bD))))
 (bQ (dX 7 (bB (oI (fun _ j=>0<j) fun i j=>.int (i%j)) (br 6) (br 0)))
 (gR (dh (bB oEq (bB (oI (fun _ j=>0<j) fun i j=>.int (i%j)) (bB (oI gS fun i j=>.int (i/j)) (br 6) (dC (.int 64))) (dC (.int 4))) (dC (.int 0)))) (mW 3 (mQ (bx (br 7) (bx (bB cT (br 7) (bB (oI (fun _ j=>0<j) fun i j=>.int (i%j)) (bB (oI gS fun i j=>.int (i/j)) (br 6) (dC (.int 256))) (bB (gO fun i j=>.int (i-j)) (br 0) (br 7)))) (bx (bB cT (dC (.int 1)) (bB (oI (fun _ j=>0<j) fun i j=>.int (i%j)) (bB (oI gS fun i j=>.int (i/j)) (br 6) (dC (.int 1024))) (dC (.int 3)))) bD))))) hZ))))
 (vJ 3)))
theorem SR:jP 3 yu DN ["_law_width","_law_cells","_law_seed","_law_keeps_here","_law_k","_law_cell","_law_one","_law_first"]:=by
 intro ds Qr hl h;obtain⟨W,cells,ck,rfl,hW,WG,q⟩:=h;show DN _ [.fz (.int W),.fz (dI cells),.fz (.int ck),.un,.un,.un,.un,.un];unfold DN dI;have big:=iq;walk_at "px";refine⟨by omega,?_⟩;walk_at "go";refine Ds (cells.take 6) D.int (fun Q' h=>?_) (fun i ρ=>∃(keeps:List (Int×Int×Int)) (a b c d:Sl),ρ=[.fz (.int W),.fz (D.lst (List.map D.int cells)),.fz (.int ck),.ow (keeps.map my),a,b,c,d]/\keeps.length<=i/\∀p∈keeps,0<=p.1/\p.1<=p.2.1/\p.2.1<W/\1<=p.2.2/\p.2.2<=3) ⟨[],_,_,_,_,rfl,by simp,by simp⟩ ?_ ?_
 ·walk_at "px";rw[pV _ (by decide)];exact h
 ·rintro i x ρ hx ⟨keeps,a,b,c,d,rfl,kl,ko⟩;have hi:i<6:=by
   have:=(ao.mp hx).1;simp at this;omega
  walk_at "px";refine⟨x+ck,(i:Int)+300,rfl,by omega,by omega,?_⟩;have n0:=Cr (x+ck) ((i:Int)+300);generalize rN _ _=one at n0 ⊢;walk_at "go";have f0:0<=one%(W:Int):=aK _ (by omega);have f1:one%(W:Int)<W:=aM _ (by omega);refine⟨by omega,?_⟩;generalize one%(W:Int)=fst at f0 f1 ⊢;walk_at "go";have g0:0<=one/256%((W:Int)-fst):=aK _ (by omega);have g1:one/256%((W:Int)-fst)<(W:Int)-fst:=aM _ (by omega);have k0:0<=one/1024%3:=aK _ (by omega);have k1:one/1024%3<3:=aM _ (by omega);generalize one/256%((W:Int)-fst)=sp at g0 g1 ⊢;generalize one/1024%3=kk at k0 k1 ⊢;split
  ·refine⟨by omega,by omega,by simp;omega,keeps++[(fst,fst+sp,1+kk)],_,_,_,_,by rw[aq];rfl,by simp;omega,fun p hp=>?_⟩;rcases au.mp hp with h | h
   ·exact ko p h
   ·have:p=(fst,fst+sp,1+kk):=by simpa using h
    subst this;refine⟨f0,?_,?_,?_,?_⟩<;>dsimp only<;>omega
  ·exact⟨keeps,_,_,_,_,rfl,by omega,ko⟩
 ·rintro ρ ⟨keeps,a,b,c,d,rfl,kl,ko⟩;walk_at "go";refine q keeps ⟨?_,ko⟩;rw[ay] at kl;omega
def wg:eO:=fun ds Q=>∃(ws:List Str) (bits:Int),ds=[dS ws,.int bits]/\ws.length=8/\ws.Nodup/\∀l:List Str,l.length<=8->l.Nodup->(∀w∈l,w∈ws)->sortedS l=true->Q (.ow (l.map .str))
def DR:TX:=(bQ (gR (dh (bB oEq (bB (oI (fun _ j=>0<j) fun i j=>.int (i%j)) (bB (oI gS fun i j=>.int (i/j)) (br 1) (dC (.int 256))) (dC (.int 2))) (dC (.int 0)))) (eX (cZ bD)) hZ)
 (eX (dF uD (bx (eG (oG (bx (dC (.int 8)) bD)) [none,some 0,some 1] (cM 0) (dh (bB oEq (bB (oI (fun _ j=>0<j) fun i j=>.int (i%j)) (bB (oI gS fun i j=>.int (i/j)) (br 2) (bB cD (cZ (bx (dC (.int 1)) (bx (dC (.int 2)) (bx (dC (.int 4)) (bx (dC (.int 8)) (bx (dC (.int 16)) (bx (dC (.int 32)) (bx (dC (.int 64)) (bx (dC (.int 128)) bD))))))))) (br 0))) (dC (.int 2))) (dC (.int 1)))) (bB cD (br 1) (br 0))) bD))))
theorem NQ(k:Nat)(h:k<8):du ([1,2,4,8,16,32,64,128]:List Int) (k:Int)=some ((2:Int) ^ k):=by
 have:∀k:Fin 8,du ([1,2,4,8,16,32,64,128]:List Int) (k.val:Int)=some ((2:Int) ^ k.val):=by decide +kernel
 exact this ⟨k,h⟩
theorem M9(k:Nat)(h:k<8):0<(2:Int) ^ k/\(2:Int) ^ k<1073741824:=by
 have:∀k:Fin 8,0<(2:Int) ^ k.val/\(2:Int) ^ k.val<1073741824:=by decide +kernel
 exact this ⟨k,h⟩
theorem QP{α:Type}(ws:List α)(d:α):(List.range ws.length).map (fun k=>ws.getD k d)=ws:=by
 apply List.ext_getElem
 ·simp
 ·intro i h1 h2;simp[h2]
theorem Sr:jP 2 wg DR ["_law_words","_law_bits"]:=by
 intro ds Qr hl h;obtain⟨ws,bits,rfl,qA,nd,q⟩:=h;show DR _ [.fz (dS ws),.fz (.int bits)];unfold DR dS;have big:=iq;walk_at "px";split
 ·exact⟨by omega,q [] (by simp) (by simp) (by simp) rfl⟩
 ·walk_at "go";refine qW (List.range 8) (fun(i:Nat)=>.int (0+i)) (fun k=>.str (ws.getD k "")) (fun k=>decide (bits/2 ^ k%2=1)) (fun Q' h=>?_) (by simp;omega) (fun c hc K1 K0 k1 k0=>?_) ?_
  ·walk_at "px";exact h
  ·have Kq:c<8:=by simpa using hc
   rw[Int.zero_add];walk_at "px";refine⟨by omega,D.int (2 ^ c),?_,?_⟩
   ·have:=congrArg (Option.map D.int) (NQ c Kq);rw[<-vX] at this;exact this
   ·walk_at "px";refine⟨M9 c Kq,?_⟩;by_cases hb:bits/2 ^ c%2=1
    ·simp only[hb,cX,beq_self_eq_true,if_true];refine⟨ws[c],mh (by omega),?_⟩;have:=k1 (by simpa using hb);rwa [show ws.getD c ""=ws[c] by simp[show c<ws.length by omega]] at this
    ·rw[if_neg hb];exact k0 (by simpa using hb)
  ·have e:∀L:List Nat,(L.map fun k=>D.str (ws.getD k ""))=(L.map fun k=>ws.getD k "").map D.str:=fun L=>by simp
   show uD [D.lst _] _;rw[e];have sub:List.Sublist (((List.range 8).filter fun k=>decide (bits/2 ^ k%2=1)).map fun k=>ws.getD k "") ws:=by
    have:=List.Sublist.map (fun k=>ws.getD k "") (List.filter_sublist (p:=fun k=>decide (bits/2 ^ k%2=1)) (l:=List.range 8));rwa [<-qA,QP,qA] at this
   generalize (((List.range 8).filter fun k=>decide (bits/2 ^ k%2=1)).map fun k=>ws.getD k "")=ss at sub ⊢;unfold uD;simp only[A0];have hle:=sub.length_le;refine⟨by omega,fun kI hp hs=>q kI (by rw[hp.length_eq];omega) (hp.nodup_iff.mpr (sub.nodup nd)) (fun w hw=>sub.subset (hp.subset hw)) hs⟩
end Wc
namespace Wc
open PySem L2 PyProof.Rows
end Wc
open PySem L2 PyProof.Rows Wc
local macro_rules | `(tactic| walk_at "px")=>`(tactic| (repeat(first | walk_at "b" | simp only[mX,Cf,rW,Cs,xc])))
namespace Wc
open PySem L2 PyProof.Rows
noncomputable def kC(bW:List Str):Option Str->Option Str
 | none=>none
 | some w=>if w∈bW then none else some w
theorem K8(x:Option Str)(l:List Str):inD (dO x) (l.map .str)=(match x with | none=>false | some w=>decide (w∈l)):=by
 cases x with
 | none=>
  unfold inD;rw[List.any_map];induction l with
  | nil=>rfl
  | cons a r ih=>rw[List.any_cons,ih];simp[dO,cX]
 | some w=>exact uv w l
theorem Jt(bW:List Str)(w:Str)(l:List (Option Str)):(l.map (kC bW)).count (some w)=if w∈bW then 0 else l.count (some w):=by
 induction l with
 | nil=>simp
 | cons a r ih=>
  rw[aj,List.count_cons,ih,List.count_cons];cases a with
  | none=>simp[kC]
  | some v=>
   unfold kC;by_cases h:v∈bW
   ·by_cases hw:w∈bW
    ·simp[h,hw]
    ·have:v≠w:=fun z=>hw (z▸h)
     simp[h,hw,this]
   ·by_cases hw:w∈bW
    ·have:v≠w:=fun z=>h (z▸hw)
     simp[h,hw,this]
    ·simp[h,hw]
theorem Jr(bW:List Str)(w:Str)(l:List Str):(l.filter fun x=>decide (x∉bW)).count w=if w∈bW then 0 else l.count w:=by
 by_cases hw:w∈bW
 ·rw[if_pos hw,List.count_eq_zero];intro h;rw[List.mem_filter] at h;simpa[hw] using h.2
 ·rw[if_neg hw,List.count_filter];simpa using hw
theorem JA{ws bW:List Str}{l:List (Option Str)}(h:fh ws l):fh ws (l.map (kC bW)):=fun w hw=>by
 rw[aD] at hw;obtain⟨x,hx,e⟩:=hw;cases x with
 | none=>cases e
 | some v=>
  by_cases hv:v∈bW
  ·simp[kC,hv] at e
  ·simp[kC,hv] at e;subst e;exact h _ hx
theorem NP{ws:List Str}{top bp:List (Option Str)}{left right:List Str}(pt:fh ws top)(pb:fh ws bp)(lf:∀w∈left,w∈ws)(rt:∀w∈right,w∈ws){w:Str}(h:w∉ws):gY top bp left right w=0:=by
 unfold gY;rw[List.count_eq_zero.mpr fun z=>h (pt w z),List.count_eq_zero.mpr fun z=>h (pb w z),List.count_eq_zero.mpr fun z=>h (lf w z),List.count_eq_zero.mpr fun z=>h (rt w z)]
theorem Q9{ws:List Str}{top bp:List (Option Str)}{left right:List Str}(pt:fh ws top)(pb:fh ws bp)(lf:∀w∈left,w∈ws)(rt:∀w∈right,w∈ws)(bW:List Str)(hl:bW=ws.filter fun w=>decide (gY top bp left right w=1))(w:Str) :
  gY (top.map (kC bW)) (bp.map (kC bW)) (left.filter fun x=>decide (x∉bW)) (right.filter fun x=>decide (x∉bW)) w≠1:=by
 have e:gY (top.map (kC bW)) (bp.map (kC bW)) (left.filter fun x=>decide (x∉bW)) (right.filter fun x=>decide (x∉bW)) w=if w∈bW then 0 else gY top bp left right w:=by
  unfold gY;rw[Jt,Jt,Jr,Jr];split<;>simp
 rw[e];by_cases h:w∈bW
 ·rw[if_pos h];decide
 ·rw[if_neg h];by_cases qA:w∈ws
  ·intro z;apply h;rw[hl,List.mem_filter];exact⟨qA,by simpa using z⟩
  ·rw[NP pt pb lf rt qA];decide
structure vy (ws:List Str) (most:Nat) (c:de):Prop where
 w1:1<=c.top.length
 w2:c.top.length<=most
 bl:c.bp.length=c.top.length
 pt:fh ws c.top
 pb:fh ws c.bp
 ll:c.left.length<=8
 lw:∀w∈c.left,w∈ws
 lo:c.left.Pairwise iC
 rl:c.right.length<=8
 rw_:∀w∈c.right,w∈ws
 ro:c.right.Pairwise iC
 cnt:∀w,gY c.top c.bp c.left c.right w≠1
 wl:c.wide.length<=8
 wo:(c.wide.map (·.1)).Pairwise iC
 ww:∀p∈c.wide,p.1∈ws/\(p.2=2\/p.2=3)/\1<gY c.top c.bp c.left c.right p.1
 be:ip c.top c.bp c.left c.right ws c.bH
 ke:lL c.top.length c.keeps
noncomputable def de.rows(c:de):List (List D):=[c.top.map dO,c.bp.map dO,c.left.map .str,c.right.map .str,c.wide.map k6,c.bH.map jg,c.keeps.map my]
def yh:eO:=fun ds Q=>∃(ns:List Int) (most:Nat),ds=[dI ns,.int most]/\ns.length<=1000/\1<=most/\most<=40/\∀ws c,Words ws->vy ws most c->Q (.ov (.ll c.rows))
def D3:TX:=(bQ (dX 2 (bB (oI (fun _ j=>0<j) fun i j=>.int (i%j)) (bB (oI iK fun i j=>.int (i*j)) (bB (oI (fun _ j=>0<j) fun i j=>.int (i%j)) (dF rJ (bx (fZ (br 0) gN (fv (dC (.int 1)))) bD)) (bB (oI oA fun i j=>.int (i ^ j.toNat)) (dC (.int 10)) (dC (.int 30)))) (dC (.int 40014))) (dC (.int 2147483563))))
 (bQ (dX 3 (fq 1 wa (bx (dF rJ (bx (fZ (br 0) gN (fv (dC (.int 1)))) bD)) bD)))
 (bQ (dX 4 (bB cT (dC (.int 1)) (bB (oI (fun _ j=>0<j) fun i j=>.int (i%j)) (br 2) (br 1))))
 (bQ (dX 5 (fZ (br 0) (fv (dC (.int 1))) gN))
 (bQ (wZ (fq 4 yy (bx (br 3) (bx (br 5) (bx (br 2) (bx (br 4) bD))))) (lS 2 (gi (cM 6) (gi (cM 7) kj))))
 (bQ (dX 8 (fq 2 pD (bx (dF rJ (bx (fZ (br 0) (fv (dC (.int 1))) (fv (dC (.int 2)))) bD)) (bx (bB cT (dC (.int 400)) (bB (oI (fun _ j=>0<j) fun i j=>.int (i%j)) (br 2) (dC (.int 7)))) bD))))
 (bQ (dX 9 (fq 2 wg (bx (br 3) (bx (br 8) bD))))
 (bQ (dX 10 (fq 2 wg (bx (br 3) (bx (bB (oI gS fun i j=>.int (i/j)) (br 8) (dC (.int 512))) bD))))
 (bQ (dX 11 (eG (gh (br 3)) [none,some 6,some 7,some 9,some 10] (cM 0) (dh (bB oEq (fq 5 wj (bx (br 1) (bx (br 2) (bx (br 3) (bx (br 4) (bx (br 0) bD)))))) (dC (.int 1)))) (br 0)))
 (bQ (je 6 (eG (gh (br 6)) [none,some 11] (cM 0) iE (sP (dh (bB (jO false) (br 0) (br 1))) (dC .non) (br 0))))
 (bQ (je 7 (eG (gh (br 7)) [none,some 11] (cM 0) iE (sP (dh (bB (jO false) (br 0) (br 1))) (dC .non) (br 0))))
 (bQ (je 9 (eG (gh (br 9)) [none,some 11] (cM 0) (dh (bB (jO true) (br 0) (br 1))) (br 0)))
 (bQ (je 10 (eG (gh (br 10)) [none,some 11] (cM 0) (dh (bB (jO true) (br 0) (br 1))) (br 0)))
 (bQ (je 12 (cZ bD))
 (bQ (lZ (vI (bx (dF uD (bx (br 3) bD)) bD)) (lS 2 (gi (cM 13) (gi (cM 14) kj))) (bQ (dX 15 (fq 2 pD (bx (bB cT (br 2) (br 13)) (bx (dC (.int 500)) bD))))
 (gR (qQ (dh (bB oEq (bB (oI (fun _ j=>0<j) fun i j=>.int (i%j)) (br 15) (dC (.int 4))) (dC (.int 0)))) (dh (bB (gO fun i j=>.bl (decide (j<i))) (vG 10 (vG 9 (vG 7 (vG 6 (fq 5 wj (bx (br 6) (bx (br 7) (bx (br 9) (bx (br 10) (bx (br 14) bD)))))))))) (dC (.int 1))))) (mW 12 (mQ (bx (br 14) (bx (bB cT (dC (.int 2)) (bB (oI (fun _ j=>0<j) fun i j=>.int (i%j)) (bB (oI gS fun i j=>.int (i/j)) (br 15) (dC (.int 4))) (dC (.int 2)))) bD)))) hZ)))
 (bQ (je 16 (rW 10 (rW 9 (rW 7 (rW 6 (fq 4 yv (bx (cZ (bx (br 6) (bx (br 7) (bx (br 9) (bx (br 10) bD))))) (bx (br 3) (bx (br 5) (bx (br 2) bD))))))))))
 (bQ (je 17 (cZ bD))
 (bQ (gR (dh (bB oEq (bB (oI (fun _ j=>0<j) fun i j=>.int (i%j)) (bB (oI gS fun i j=>.int (i/j)) (br 2) (dC (.int 97))) (dC (.int 3))) (dC (.int 0)))) (je 17 (fq 3 yu (bx (br 4) (bx (br 5) (bx (br 2) bD))))) hZ)
 (Cs [6,7,9,10,12,16,17])))))))))))))))))))
theorem Tj:jP 2 yh D3 ["_law_script","_law_most","_law_seed","_law_words","_law_width","_law_cells","_law_top","_law_bottom","_law_bits","_law_left","_law_right","_law_lone","_law_wide","_law_k","_law_word","_law_one","_law_bends_here","_law_keeps_here"]:=by
 intro ds Qr hl h;obtain⟨ns,most,rfl,hn,hm,nZ,q⟩:=h;show D3 _ [.fz (dI ns),.fz (.int most),.un,.un,.un,.un,.un,.un,.un,.un,.un,.un,.un,.un,.un,.un,.un,.un];unfold D3 dI;have big:=iq;walk_at "px";generalize mv:((gL ns none (some 1)).sum%1000000000000000000000000000000*40014)%2147483563=ck;have s0:0<=ck:=by rw[<-mv];exact aK _ (by decide)
 clear mv;walk_at "go";refine⟨_,rfl,?_⟩;rw[pV _ (by decide)];have hw:=IV (Fj ns);change nK _ _ [_,_,_,.fz (.lst ((rV (Fj ns)).map .str)),_,_,_,_,_,_,_,_,_,_,_,_,_,_];generalize rV (Fj ns)=ws at hw ⊢;walk_at "go";refine⟨by omega,?_⟩;have m0:0<=ck%(most:Int):=aK _ (by omega);have m1:ck%(most:Int)<most:=aM _ (by omega);obtain⟨W,hW⟩:∃W:Nat,1+ck%(most:Int)=W:=⟨(1+ck%(most:Int)).toNat,by omega⟩
 rw[hW];walk_at "go";rw[oP _ (by decide)];walk_at "go";refine⟨ws,ns.drop 1,ck,W,rfl,hw.len,by omega,fun top bp ht hb pt pb=>?_⟩;walk_at "px";walk_at "go";refine⟨_,_,rfl,by have:=aK ck (show(7:Int)≠0 by decide);omega,by have:=aM ck (show(0:Int)<7 by decide);omega,?_⟩;generalize rN _ _=bits;walk_at "go";refine⟨ws,bits,rfl,hw.len,hw.nd,fun left UA Uz J1 Uy=>?_⟩;walk_at "go";refine⟨ws,_,rfl,hw.len,hw.nd,fun right Ug Ue JQ Ud=>?_⟩;walk_at "go";refine qW ws D.str D.str (fun w=>decide (gY top bp left right w=1)) (fun Q' h=>?_) (by have:=hw.len;omega) (fun w _ K1 K0 k1 k0=>?_) ?_
 ·walk_at "px";exact h
 ·walk_at "px";refine⟨top,bp,left,right,w,rfl,by omega,?_⟩;walk_at "px";by_cases hc:gY top bp left right w=1
  ·rw[if_pos (by omega)];exact k1 (by simpa using hc)
  ·rw[if_neg (by omega)];exact k0 (by simpa using hc)
 generalize t8:ws.filter (fun w=>decide (gY top bp left right w=1))=bW;have FD:=Q9 pt pb J1 JQ bW t8.symm;have Ww:bW.length<=8:=by rw[<-t8];have:=List.length_filter_le (fun w=>decide (gY top bp left right w=1)) ws;have:=hw.len;omega
 have un:∀(l:List (Option Str)) (j:Nat) (ρ:Ev) (Q:R->Prop),l.length<=100->gt ρ j=.fz (dP l)->gt ρ 11=.fz (.lst (bW.map .str))->Q (.ow ((l.map (kC bW)).map dO))->eG (gh (br j)) [none,some 11] (cM 0) iE (sP (dh (bB (jO false) (br 0) (br 1))) (dC D.non) (br 0)) ρ Q:=by
  intro l j ρ Q hl hj Fu hq;refine lx l dO (fun x=>dO (kC bW x)) (fun Q' h=>?_) (by omega) (fun x hx K1 k=>?_) ?_
  ·simp only[gh,br,hj];exact h
  ·simp only[jD,aj,bg,rK,Fu];walk_at "px";have h2:dZ 8 (dO x)/\(∀e∈bW.map D.str,dZ 8 e):=⟨by rw[Ar];trivial,rY 8 bW⟩
   have h3:if inD (dO x) (bW.map D.str)=true then K1 D.non else K1 (dO x):=by
    rw[K8];cases x with
    | none=>simpa[kC] using k
    | some v=>
     by_cases hv:v∈bW
     ·simpa[kC,hv,dO] using k
     ·simpa[kC,hv,dO] using k
   cases x with
   | none=>exact⟨h2.1,h2.2,h3⟩
   | some v=>exact⟨h2.1,h2.2,h3⟩
  ·rw[aQ] at hq;exact hq
 have yE:∀(l:List Str) (j:Nat) (ρ:Ev) (Q:R->Prop),l.length<=100->gt ρ j=.fz (dS l)->gt ρ 11=.fz (.lst (bW.map .str))->Q (.ow ((l.filter fun x=>decide (x∉bW)).map D.str))->eG (gh (br j)) [none,some 11] (cM 0) (dh (bB (jO true) (br 0) (br 1))) (br 0) ρ Q:=by
  intro l j ρ Q hl hj Fu hq;refine qW l D.str D.str (fun x=>decide (x∉bW)) (fun Q' h=>?_) (by omega) (fun x hx K1 K0 k1 k0=>?_) hq
  ·simp only[gh,br,hj];exact h
  ·simp only[jD,aj,bg,rK,Fu];walk_at "px";refine⟨rY 8 bW,?_⟩;rw[uv];by_cases hv:x∈bW
   ·simpa[hv] using k0 (by simpa using hv)
   ·simpa[hv] using k1 (by simpa using hv)
 walk_at "go";refine un top 6 _ _ (by omega) rfl rfl ?_;walk_at "go";refine un bp 7 _ _ (by omega) rfl rfl ?_;walk_at "go";refine yE left 9 _ _ (by omega) rfl rfl ?_;walk_at "go";refine yE right 10 _ _ (by omega) rfl rfl ?_;clear un yE;have JS:fh ws (top.map (kC bW)):=JA pt;have wA:fh ws (bp.map (kC bW)):=JA pb;have eB:(top.map (kC bW)).length=W:=by simpa using ht
 have wH:(bp.map (kC bW)).length=W:=by simpa using hb
 have Uw:(left.filter fun x=>decide (x∉bW)).Pairwise iC:=(Dr Uy Uz).sublist List.filter_sublist;have Ui:(right.filter fun x=>decide (x∉bW)).Pairwise iC:=(Dr Ud Ue).sublist List.filter_sublist;have Uv:∀w∈(left.filter fun x=>decide (x∉bW)),w∈ws:=fun w h=>J1 w (List.mem_filter.mp h).1
 have rh:∀w∈(right.filter fun x=>decide (x∉bW)),w∈ws:=fun w h=>JQ w (List.mem_filter.mp h).1
 have Ux:(left.filter fun x=>decide (x∉bW)).length<=8:=aY (List.length_filter_le _ _) UA;have Uj:(right.filter fun x=>decide (x∉bW)).length<=8:=aY (List.length_filter_le _ _) Ug;generalize top.map (kC bW)=kH at *;generalize bp.map (kC bW)=eE at *;generalize (left.filter fun x=>decide (x∉bW))=iD at *;generalize (right.filter fun x=>decide (x∉bW))=right' at *;walk_at "go";refine⟨by omega,?_⟩;walk_at "go";refine OU (fun ds=>∃ss:List Str,ss.Perm ws/\sortedS ss=true/\ds=pv (ss.map .str)) (fun Q' h=>?_) ?_
 ·walk_at "px";simp only[uD,A0];refine⟨by have:=hw.len;omega,fun ss hp hs=>?_⟩;walk_at "px";exact h _ ⟨ss,hp,hs,rfl⟩
 rintro _ ⟨ss,hp,hs,rfl⟩;have Wj:ss.length=8:=by rw[hp.length_eq];exact hw.len
 have Ua:ss.Pairwise iC:=Dr hs (hp.nodup_iff.mpr hw.nd);refine QR ss D.str (fun i ρ=>∃(wide:List (Str×Int)) (a b c:Sl),ρ=[.fz (D.lst (List.map D.int ns)),.fz (D.int most),.fz (D.int ck),.fz (D.lst (List.map D.str ws)),.fz (D.int W),.fz (D.lst (List.map D.int (List.drop 1 ns))),.ow (kH.map dO),.ow (eE.map dO),.fz (D.int bits),.ow (iD.map D.str),.ow (right'.map D.str),.fz (D.lst (bW.map D.str)),.ow (wide.map k6),a,b,c,.un,.un]/\List.Sublist (wide.map (·.1)) (ss.take i)/\(∀p∈wide,(p.2=2\/p.2=3)/\1<gY kH eE iD right' p.1)) ⟨[],_,_,_,rfl,by simp,by simp⟩ ?_ ?_
 ·rintro i x ρ hx ⟨wide,a,b,c,rfl,sub,wo⟩;have hi:i<8:=by have:=(ao.mp hx).1;omega
  have tk:ss.take (i+1)=ss.take i++[x]:=by rw[List.take_add_one,hx];rfl
  have wD:wide.length<=8:=by have:=sub.length_le;simp at this;omega
  walk_at "px";refine⟨_,_,rfl,by omega,by omega,?_⟩;generalize rN _ _=one;walk_at "go";have skip:∃(qj:List (Str×Int)) (a' b' c':Sl),[Sl.fz (D.lst (List.map D.int ns)),.fz (D.int most),.fz (D.int ck),.fz (D.lst (List.map D.str ws)),.fz (D.int W),.fz (D.lst (List.map D.int (List.drop 1 ns))),.ow (kH.map dO),.ow (eE.map dO),.fz (D.int bits),.ow (iD.map D.str),.ow (right'.map D.str),.fz (D.lst (bW.map D.str)),.ow (wide.map k6),.fz (D.int i),.fz (D.str x),.fz (D.int one),.un,.un]=[Sl.fz (D.lst (List.map D.int ns)),.fz (D.int most),.fz (D.int ck),.fz (D.lst (List.map D.str ws)),.fz (D.int W),.fz (D.lst (List.map D.int (List.drop 1 ns))),.ow (kH.map dO),.ow (eE.map dO),.fz (D.int bits),.ow (iD.map D.str),.ow (right'.map D.str),.fz (D.lst (bW.map D.str)),.ow (qj.map k6),a',b',c',.un,.un]/\List.Sublist (qj.map (·.1)) (ss.take (i+1))/\(∀p∈qj,(p.2=2\/p.2=3)/\1<gY kH eE iD right' p.1):=
   ⟨wide,_,_,_,rfl,by rw[tk];exact sub.trans (List.sublist_append_left _ _),wo⟩
  split
  ·refine⟨kH,eE,iD,right',x,rfl,by omega,?_⟩;walk_at "px";split
   ·rename_i hc;have e2:one/4%2=0\/one/4%2=1:=by omega
    refine⟨by omega,by simp;omega,wide++[(x,2+one/4%2)],_,_,_,by rw[aq];rfl,?_,fun p hp=>?_⟩
    ·rw[tk,aq];exact sub.append (List.Sublist.refl _)
    ·rcases au.mp hp with h | h
     ·exact wo p h
     ·have:p=(x,2+one/4%2):=by simpa using h
      subst this;exact⟨by dsimp only;omega,by dsimp only;omega⟩
   ·exact skip
  ·exact skip
 rintro ρ ⟨wide,a,b,c,rfl,sub,wo⟩;rw[List.take_length] at sub;have wD:wide.length<=8:=by have:=sub.length_le;simp at this;omega
 have TK:(wide.map (·.1)).Pairwise iC:=Ua.sublist sub;have ww:∀p∈wide,p.1∈ws/\(p.2=2\/p.2=3)/\1<gY kH eE iD right' p.1:=fun p h=>⟨hp.subset (sub.subset (bh h)),wo p h⟩
 walk_at "go";refine⟨by omega,kH,eE,iD,right',ws,ns.drop 1,ck,rfl,by omega,by omega,by omega,by omega,hw.len,JS,by simp;omega,fun bH bo=>?_⟩;have fl:(List.map jg bH).all rR=true:=by simp[List.all_eq_true,jg,rR,mX]
 walk_at "px";refine⟨fl,fl,fl,fl,?_⟩;walk_at "go";refine⟨by omega,?_⟩;have fin:∀keeps,lL W keeps->Qr (R.ov (.ll [kH.map dO,eE.map dO,iD.map .str,right'.map .str,wide.map k6,bH.map jg,keeps.map my])):=fun keeps ko=>q ws ⟨kH,eE,iD,right',wide,bH,keeps⟩ hw ⟨by dsimp only;omega,by dsimp only;omega,by dsimp only;omega,JS,wA,Ux,Uv,Uw,Uj,rh,Ui,FD,wD,TK,ww,bo,by dsimp only;rw[eB];exact ko⟩
 walk_at "go";split
 ·refine⟨W,ns.drop 1,ck,rfl,by omega,by omega,fun keeps ko=>?_⟩;walk_at "go";exact fin keeps ko
 ·walk_at "go";exact fin [] ⟨by simp,by simp⟩
end Wc
namespace Wc
open PySem L2 PyProof.Rows
noncomputable def lb(c:Nat):List Nat->List (List Nat)
 | []=>[[]]
 | x::r=>if x=c then []::lb c r else match lb c r with
  | []=>[[x]]
  | h::t=>(x::h)::t
theorem NO(c:Nat):∀l,lb c l≠[]
 | []=>by simp[lb]
 | x::r=>by
  unfold lb;split
  ·simp
  ·split<;>simp
theorem AU(c:Nat)(b:List Nat):∀a:List Nat,lb c (a++c::b)=lb c a++lb c b
 | []=>by simp[lb]
 | x::r=>by
  rw[List.cons_append,lb,AU c b r];conv=>rhs;rw[lb]
  by_cases h:x=c
  ·simp[h]
  ·simp only[h,if_false];cases e:lb c r with
   | nil=>exact absurd e (NO c r)
   | cons u v=>simp
theorem xK(c:Nat):∀a:List Nat,c∉a->lb c a=[a]
 | [],_=>rfl
 | x::r,h=>by
  simp only[af,not_or] at h;rw[lb,if_neg (fun z=>h.1 z.symm),xK c r h.2]
noncomputable def oN(c:Nat):List (List Nat)->List Nat
 | []=>[]
 | [a]=>a
 | a::b::r=>a++c::oN c (b::r)
theorem IU(c:Nat):∀l:List (List Nat),l≠[]->(∀a∈l,c∉a)->lb c (oN c l)=l
 | [],h,_=>absurd rfl h
 | [a],_,h=>xK c a (h a (by simp))
 | a::b::r,_,h=>by
  rw[oN,AU,xK c a (h a (by simp)),IU c (b::r) (by simp) fun z hz=>h z (by simp[hz])];rfl
theorem IT(z:Array Nat):∀(l:List Str) (a:Array Nat),(l.foldl (fun acc p=>acc++z++p.cps) a).toList=a.toList++(l.map fun p=>z.toList++p.cps.toList).flatten
 | [],a=>by simp
 | x::l,a=>by
  rw[List.foldl_cons,IT z l];simp
theorem Dm(x:Str)(a:Str)(l:List Str):(Txt.join x (a::l)).cps.toList=a.cps.toList++(l.map fun p=>x.cps.toList++p.cps.toList).flatten:=by
 unfold Txt.join Builtin.Str.glued;exact IT _ l a.cps
theorem Dz(c:Nat):∀(l:List Str),(Txt.join ⟨#[c]⟩ l).cps.toList=oN c (l.map fun s=>s.cps.toList)
 | []=>rfl
 | [a]=>by rw[Dm];simp[oN]
 | a::b::r=>by
  have ih:=Dz c (b::r);rw[Dm] at ih ⊢;simp only[aj,oN];simp only[aj] at ih;rw[<-ih];simp
theorem IS(x:Str)(c:Nat):(Txt.split x ⟨#[c]⟩).map (fun s=>s.cps.toList)=lb c x.cps.toList:=by
 have h1:Txt.join ⟨#[c]⟩ (Txt.split x ⟨#[c]⟩)=x:=(StrLaws.glued_eq_join _ _).trans (StrLaws.join_split x ⟨#[c]⟩);have h2:=StrLaws.split_free x c;have h3:Txt.split x ⟨#[c]⟩≠[]:=fun z=>by
  have:=PyProof.Rows.split_pos x ⟨#[c]⟩;rw[z] at this;simp at this
 have e:x.cps.toList=oN c ((Txt.split x ⟨#[c]⟩).map fun s=>s.cps.toList):=by
  rw[<-Dz];exact congrArg (fun s:Str=>s.cps.toList) h1.symm
 rw[e,IU]
 ·simpa using h3
 ·intro a ha;obtain⟨s,hs,rfl⟩:=aD.mp ha;exact h2 s hs
noncomputable def nM(l:List Nat):List (List Nat):=(lb 32 l).filter fun w=>!w.isEmpty
noncomputable def pU(t:List Nat):List (List (List Nat)):=((lb 10 t).map nM).filter fun w=>!w.isEmpty
theorem Q8(a b:List Nat):nM (a++32::b)=nM a++nM b:=by unfold nM;rw[AU,List.filter_append]
theorem Q7(a b:List Nat):pU (a++10::b)=pU a++pU b:=by unfold pU;rw[AU,aq,List.filter_append]
theorem Jq{w:List Nat}(h:32∉w)(hn:w≠[]):nM w=[w]:=by
 unfold nM;rw[xK 32 w h];cases w with
 | nil=>exact absurd rfl hn
 | cons a r=>rfl
theorem Rc{l:List Nat}(h:10∉l)(hn:nM l≠[]):pU l=[nM l]:=by
 unfold pU;rw[xK 10 l h];cases e:nM l with
 | nil=>exact absurd e hn
 | cons a r=>simp[e]
def Wd(w:List Nat):Prop:=w≠[]/\32∉w/\10∉w
theorem DJ:∀l:List (List Nat),(∀w∈l,Wd w)->nM (oN 32 l)=l
 | [],_=>rfl
 | [a],h=>Jq (h a (by simp)).2.1 (h a (by simp)).1
 | a::b::r,h=>by
  rw[oN,Q8,Jq (h a (by simp)).2.1 (h a (by simp)).1,DJ (b::r) fun w hw=>h w (by simp[hw])];rfl
theorem IQ:∀l:List (List Nat),(∀w∈l,Wd w)->10∉oN 32 l
 | [],_=>by simp[oN]
 | [a],h=>(h a (by simp)).2.2
 | a::b::r,h=>by
  rw[oN];simp only[au,af,not_or];exact⟨(h a (by simp)).2.2,by decide,IQ (b::r) fun w hw=>h w (by simp[hw])⟩
noncomputable def cp(s:Str):List Nat:=s.cps.toList
def lI(w:Str):Prop:=Wd (cp w)
theorem GB(x y:Str):cp (x++y)=cp x++cp y:=by
 show(x.cps++y.cps).toList=_;simp[cp]
theorem Ag(x:Str):(cp x).length=x.length:=by simp[cp,Str.length]
theorem Dl:(Str.ofString " ")=⟨#[32]⟩:=by decide +kernel
theorem Hm:(Str.ofString "\n")=⟨#[10]⟩:=by decide +kernel
theorem M8:cp (Str.ofString "\n")=[10]:=by decide +kernel
noncomputable def qT(l:Str):List Str:=(Txt.split l " ").filter fun w=>decide (w≠"")
noncomputable def oO(t:Str):List (List Str):=((Txt.split t "\n").map qT).filter fun ws=>decide (ws≠[])
theorem GA{a b:Str}(h:cp a=cp b):a=b:=Hn h
theorem M7{w:Str}:(cp w).isEmpty=decide (w=""):=by
 by_cases h:w=""
 ·subst h;decide +kernel
 ·have:cp w≠[]:=fun z=>h (GA (by rw[z];decide +kernel))
  simp[h,this]
theorem PU(l:Str):(qT l).map cp=nM (cp l):=by
 unfold qT nM;rw[Dl];have:=IS l 32;unfold cp;rw[<-this,List.filter_map];congr 1
 refine List.filter_congr fun w _=>?_
 have:=M7 (w:=w);unfold cp at this;simp[this]
theorem PR(t:Str):(oO t).map (fun ws=>ws.map cp)=pU (cp t):=by
 unfold oO pU;rw[Hm];have h:=IS t 10;have e:(lb 10 (cp t)).map nM=((Txt.split t ⟨#[10]⟩).map qT).map fun ws=>ws.map cp:=by
  unfold cp;rw[<-h,aQ,aQ];refine bb fun s _=>?_
  exact(PU s).symm
 rw[e];generalize (Txt.split t ⟨#[10]⟩).map qT=L;rw[List.filter_map];congr 1
 refine List.filter_congr fun w _=>?_
 cases w with
 | nil=>rfl
 | cons a r=>simp
theorem Jp:∀{a b:List Str},a.map cp=b.map cp->a=b
 | [],[],_=>rfl
 | x::a,y::b,h=>by
  simp only[aj,List.cons.injEq] at h;rw[GA h.1,Jp h.2]
 | [],_::_,h=>by simp at h
 | _::_,[],h=>by simp at h
theorem Jz:∀{a b:List (List Str)},a.map (fun ws=>ws.map cp)=b.map (fun ws=>ws.map cp)->a=b
 | [],[],_=>rfl
 | x::a,y::b,h=>by
  simp only[aj,List.cons.injEq] at h;rw[Jp h.1,Jz h.2]
 | [],_::_,h=>by simp at h
 | _::_,[],h=>by simp at h
end Wc
namespace Wc
open PySem L2 PyProof.Rows
noncomputable def fR:Option Str->Str
 | none=>"."
 | some w=>w
noncomputable def iI(c:de):List (List Str):=("top"::c.top.map fR)::("bottom"::c.bp.map fR)::("left"::c.left)::("right"::c.right)::(c.wide.map (fun p=>(["wide",p.1,cY p.2]:List Str))++c.bH.map (fun p=>(["bend",cY p.1,p.2]:List Str))++c.keeps.map (fun p=>(["keep",cY p.1,cY p.2.1,cY p.2.2]:List Str)))
noncomputable def tF(ls:List (List Str)):Str:=Txt.join "" (ls.map fun ws=>Txt.join " " ws++"\n")
def bT(i:Int):Prop:=0<=i/\i<100
structure oz (c:de):Prop where
 tl:c.top.length<=40
 bl:c.bp.length<=40
 ll:c.left.length<=8
 rl:c.right.length<=8
 wl:c.wide.length<=8
 el:c.bH.length<=51
 kl:c.keeps.length<=14
 ts:∀x∈c.top,(fR x).length<=6
 bs:∀x∈c.bp,(fR x).length<=6
 ls:∀w∈c.left,w.length<=6
 rs:∀w∈c.right,w.length<=6
 ws:∀p∈c.wide,p.1.length<=6/\bT p.2
 es:∀p∈c.bH,bT p.1/\p.2.length<=6
 ks:∀p∈c.keeps,bT p.1/\bT p.2.1/\bT p.2.2
theorem xT{i:Int}(h:bT i):(cY i).length<=6:=by
 have:∀k:Fin 100,(cY (k.val:Int)).length<=6:=by decide +kernel
 obtain⟨h0,h1⟩:=h;have e:=this ⟨i.toNat,by omega⟩;simpa[Int.toNat_of_nonneg h0] using e
theorem AK(x y:Str):(x++y).length=x.length+y.length:=by
 show(x.cps++y.cps).size=_;rw[Array.size_append];rfl
theorem IP(z:Array Nat):∀(l:List Str) (a:Array Nat),(l.foldl (fun acc p=>acc++z++p.cps) a).size=a.size+(l.map (·.length)).sum+l.length*z.size
 | [],a=>by simp
 | x::l,a=>by
  rw[List.foldl_cons,IP z l];simp only[Array.size_append,aj,List.sum_cons,aB,Nat.succ_mul,Str.length];omega
theorem HN(x:Str)(l:List Str):(Txt.join x l).length<=(l.map (·.length)).sum+l.length*x.length:=by
 unfold Txt.join Builtin.Str.glued;cases l with
 | nil=>simp[Str.length,Str.empty]
 | cons a l=>
  show(List.foldl _ a.cps l).size<=_;rw[IP];simp only[aj,List.sum_cons,aB,Nat.succ_mul,Str.length];omega
theorem CS{l:List Str}{B:Nat}(h:∀w∈l,w.length<=B):(l.map (·.length)).sum<=l.length*B:=by
 induction l with
 | nil=>simp
 | cons a r ih=>
  rw[aj,List.sum_cons,aB,Nat.succ_mul];have:=ih fun w hw=>h w (aA _ hw)
  have:=h a List.mem_cons_self;omega
def tG(l:List Str):Prop:=l.length<=50/\∀w∈l,w.length<=7
theorem HM{l:List Str}(h:tG l):(l.map (·.length)).sum+l.length*(Str.ofString " ").length<=400:=by
 have h1:=CS h.2;have h2:=h.1;have e:(Str.ofString " ").length=1:=by decide +kernel
 rw[e];omega
theorem Dk{l:List Str}(h:tG l):(Txt.join " " l++"\n").length<=401:=by
 rw[AK];have h1:=HN " " l;have h2:=HM h;have e:(Str.ofString "\n").length=1:=by decide +kernel
 rw[e];omega
theorem IM{c:de}(h:oz c):(iI c).length<=77/\∀l∈iI c,l.length<=41/\∀w∈l,w.length<=6:=by
 have s3:(Str.ofString "top").length<=6:=by decide +kernel
 have s6:(Str.ofString "bottom").length<=6:=by decide +kernel
 have s4:(Str.ofString "left").length<=6:=by decide +kernel
 have s5:(Str.ofString "right").length<=6:=by decide +kernel
 have sw:(Str.ofString "wide").length<=6:=by decide +kernel
 have sb:(Str.ofString "bend").length<=6:=by decide +kernel
 have sk:(Str.ofString "keep").length<=6:=by decide +kernel
 constructor
 ·have:=h.wl;have:=h.el;have:=h.kl;simp only[iI,aB,aw,aa];omega
 ·intro l hl;simp only[iI,af,au,aD] at hl;rcases hl with rfl | rfl | rfl | rfl | (⟨p,hp,rfl⟩ | ⟨p,hp,rfl⟩) | ⟨p,hp,rfl⟩
  ·refine⟨by have:=h.tl;simp;omega,fun w hw=>?_⟩;rcases af.mp hw with rfl | hw
   ·exact s3
   ·obtain⟨x,hx,rfl⟩:=aD.mp hw;exact h.ts x hx
  ·refine⟨by have:=h.bl;simp;omega,fun w hw=>?_⟩;rcases af.mp hw with rfl | hw
   ·exact s6
   ·obtain⟨x,hx,rfl⟩:=aD.mp hw;exact h.bs x hx
  ·refine⟨by have:=h.ll;simp;omega,fun w hw=>?_⟩;rcases af.mp hw with rfl | hw
   ·exact s4
   ·exact h.ls w hw
  ·refine⟨by have:=h.rl;simp;omega,fun w hw=>?_⟩;rcases af.mp hw with rfl | hw
   ·exact s5
   ·exact h.rs w hw
  ·have:=h.ws p hp;refine⟨by simp,fun w hw=>?_⟩;simp only[af,aH,or_false] at hw;rcases hw with rfl | rfl | rfl
   ·exact sw
   ·exact this.1
   ·exact xT this.2
  ·have:=h.es p hp;refine⟨by simp,fun w hw=>?_⟩;simp only[af,aH,or_false] at hw;rcases hw with rfl | rfl | rfl
   ·exact sb
   ·exact xT this.1
   ·exact this.2
  ·have:=h.ks p hp;refine⟨by simp,fun w hw=>?_⟩;simp only[af,aH,or_false] at hw;rcases hw with rfl | rfl | rfl | rfl
   ·exact sk
   ·exact xT this.1
   ·exact xT this.2.1
   ·exact xT this.2.2
theorem HL{c:de}(h:oz c):(iI c).length<=100/\∀l∈iI c,tG l:=by
 obtain⟨h1,h2⟩:=IM h;exact⟨by omega,fun l hl=>⟨by have:=(h2 l hl).1;omega,fun w hw=>by have:=(h2 l hl).2 w hw;omega⟩⟩
theorem Pu{ls:List (List Str)}(h1:ls.length<=100)(h:∀l∈ls,tG l):((ls.map fun ws=>Txt.join " " ws++"\n").map (·.length)).sum+(ls.map fun ws=>Txt.join " " ws++"\n").length*(Str.ofString "").length<=16777216:=by
 have e:(Str.ofString "").length=0:=by decide +kernel
 rw[e];have:=CS (l:=ls.map fun ws=>Txt.join " " ws++"\n") (B:=401) fun w hw=>by
  obtain⟨l,hl,rfl⟩:=aD.mp hw;exact Dk (h l hl)
 rw[aa] at this ⊢;omega
end Wc
namespace Wc
open PySem L2 PyProof.Rows
end Wc
open PySem L2 PyProof.Rows Wc
local macro_rules | `(tactic| walk_at "px")=>`(tactic| (repeat(first | walk_at "b" | simp only[tu,tw,qP,xf,vF,Ce,Gr])))
namespace Wc
open PySem L2 PyProof.Rows
theorem PQ{ls:List (List Str)}(h1:ls.length<=100)(h:∀l∈ls,tG l){j:Nat}{ρ:Ev}{Q:R->Prop}(hj:gt ρ j=.fz (.lst (ls.map dS)))(q:Q (.fz (.str (tF ls)))) :
  dM "str" tw (dC (.str "")) (bx (eG (gh (br j)) [none] (cM 0) iE (bB cT (dM "str" tw (dC (.str " ")) (bx (br 0) bD)) (dC (.str "\n")))) bD) ρ Q:=by
 have big:=iq;simp only[dM,dC,xr,bx];refine⟨rfl,?_⟩;refine lx ls dS (fun ws=>.str (Txt.join " " ws++"\n")) (fun Q' h=>?_) (by omega) (fun ws hw K1 k=>?_) ?_
 ·simp only[gh,br,hj,xr,Al];exact h
 ·unfold dS;walk_at "px";have h3:=HM (h ws hw);have h4:=Dk (h ws hw);rw[AK] at h4;exact⟨rfl,by omega,by omega,k⟩
 ·simp only[bD,CI,tw];rw[show(ls.map fun ws=>D.str (Txt.join " " ws++"\n"))=(ls.map fun ws=>Txt.join " " ws++"\n").map D.str by rw[aQ];rfl,A0];exact⟨Pu h1 h,q⟩
noncomputable def Fl(c:de):List (List Str):=["top"::c.top.map fR,"bottom"::c.bp.map fR,"left"::c.left,"right"::c.right]
def sf:eO:=fun ds Q=>∃ls:List (List Str),ds=[.lst (ls.map dS)]/\ls.length<=100/\(∀l∈ls,tG l)/\Q (.fz (.str (tF ls)))
def Rb:TX:=(eX (dM "str" tw (dC (.str "")) (bx (eG (gh (br 0)) [none] (cM 0) iE (bB cT (dM "str" tw (dC (.str " ")) (bx (br 0) bD)) (dC (.str "\n")))) bD)))
theorem Sq:jP 1 sf Rb ["_law_lines_here"]:=by
 intro ds Qr hl h;obtain⟨ls,rfl,h1,h2,q⟩:=h;exact PQ h1 h2 rfl q
def yt:eO:=fun ds Q=>∃c:de,ds=[.lst c.parts]/\oz c/\Q (.ow ((iI c).map dS))
def DM:TX:=(bQ (je 1 (Ce (cZ (bx (dC (.str "top")) bD)) (cZ (bx (dC (.str "bottom")) bD))))
 (bQ (lZ (oG (bx (dC (.int 2)) bD)) (cM 2) (lZ (gh (bB cD (br 0) (br 2))) (cM 3) (vF 1 (br 2) (sP (dh (bB (rM false) (br 3) (dC .non))) (dC (.str ".")) (br 3)))))
 (bQ (xf 1 (bB cT (cZ (bx (dC (.str "left")) bD)) (bB cD (br 0) (dC (.int 2)))))
 (bQ (xf 1 (bB cT (cZ (bx (dC (.str "right")) bD)) (bB cD (br 0) (dC (.int 3)))))
 (ju 1 (bQ (je 1 (bB cT (br 1) (eG (gh (bB cD (br 0) (dC (.int 4)))) [none,none] (lS 2 (gi (cM 0) (gi (cM 1) kj))) iE (cZ (bx (dC (.str "wide")) (bx (br 0) (bx (dF tu (bx (br 1) bD)) bD)))))))
 (ju 1 (bQ (je 1 (bB cT (br 1) (eG (gh (bB cD (br 0) (dC (.int 5)))) [none,none] (lS 2 (gi (cM 0) (gi (cM 1) kj))) iE (cZ (bx (dC (.str "bend")) (bx (dF tu (bx (br 0) bD)) (bx (br 1) bD)))))))
 (ju 1 (eX (bB cT (br 1) (eG (gh (bB cD (br 0) (dC (.int 6)))) [none,none,none] (lS 3 (gi (cM 0) (gi (cM 1) (gi (cM 2) kj)))) iE (cZ (bx (dC (.str "keep")) (bx (dF tu (bx (br 0) bD)) (bx (dF tu (bx (br 1) bD)) (bx (dF tu (bx (br 2) bD)) bD)))))))))))))))))
theorem SQ:jP 1 yt DM ["_law_lists","_law_lines_here","_law_side","_law_word"]:=by
 intro ds Qr hl h;obtain⟨c,rfl,hc,q⟩:=h;show DM _ [.fz (.lst c.parts),.un,.un,.un];unfold DM de.parts;have big:=iq;have l1:=hc.tl;have l2:=hc.bl;have l3:=hc.ll;have l4:=hc.rl;have l5:=hc.wl;have l6:=hc.el;have l7:=hc.kl;walk_at "px";refine⟨by omega,by omega,?_⟩;walk_at "go";refine ye 2 (fun Q' h=>?_) (fun i ρ=>∃a b:Sl,ρ=[.fz (D.lst [dP c.top,dP c.bp,dS c.left,dS c.right,dW c.wide,dB c.bH,dK c.keeps]),.ov (.ll [D.str "top"::(if 1<=i then c.top else []).map (fun x=>D.str (fR x)),D.str "bottom"::(if 2<=i then c.bp else []).map (fun x=>D.str (fR x))]),a,b]) ⟨_,_,rfl⟩ ?_ ?_
 ·walk_at "px";exact h
 ·rintro i ρ hi ⟨a,b,rfl⟩;obtain rfl | rfl:i=0\/i=1:=by omega
  ·walk_at "px";refine A4 c.top dO (fun Q' h=>?_) (fun i ρ=>∃b:Sl,ρ=[.fz (D.lst [dP c.top,dP c.bp,dS c.left,dS c.right,dW c.wide,dB c.bH,dK c.keeps]),.ov (.ll [D.str "top"::(c.top.take i).map (fun x=>D.str (fR x)),[D.str "bottom"]]),.fz (.int 0),b]) ⟨_,rfl⟩ ?_ ?_
   ·walk_at "px";exact⟨_,rfl,h⟩
   ·rintro i x ρ hx ⟨b,rfl⟩;have iQ:=(ao.mp hx).1;have tk:c.top.take (i+1)=c.top.take i++[x]:=by rw[List.take_add_one,hx];rfl
    walk_at "px";refine⟨0,_,rfl,rfl,?_⟩;cases x with
    | none=>
     simp only[dO,oK,if_true];refine⟨by simp;omega,_,by rw[tk,aq];rfl⟩
    | some w=>
     simp only[dO,oK,aR,if_false];refine⟨by simp;omega,_,by rw[tk,aq];rfl⟩
   ·rintro ρ ⟨b,rfl⟩;rw[List.take_length];exact⟨_,_,rfl⟩
  ·walk_at "px";refine A4 c.bp dO (fun Q' h=>?_) (fun i ρ=>∃b:Sl,ρ=[.fz (D.lst [dP c.top,dP c.bp,dS c.left,dS c.right,dW c.wide,dB c.bH,dK c.keeps]),.ov (.ll [D.str "top"::c.top.map (fun x=>D.str (fR x)),D.str "bottom"::(c.bp.take i).map (fun x=>D.str (fR x))]),.fz (.int 1),b]) ⟨_,rfl⟩ ?_ ?_
   ·walk_at "px";exact⟨_,rfl,h⟩
   ·rintro i x ρ hx ⟨b,rfl⟩;have iQ:=(ao.mp hx).1;have tk:c.bp.take (i+1)=c.bp.take i++[x]:=by rw[List.take_add_one,hx];rfl
    walk_at "px";refine⟨1,_,rfl,rfl,?_⟩;cases x with
    | none=>
     simp only[dO,oK,if_true];refine⟨by simp;omega,_,by rw[tk,aq];rfl⟩
    | some w=>
     simp only[dO,oK,aR,if_false];refine⟨by simp;omega,_,by rw[tk,aq];rfl⟩
   ·rintro ρ ⟨b,rfl⟩;rw[List.take_length];exact⟨_,_,rfl⟩
 rintro ρ ⟨a,b,rfl⟩;simp only[Nat.reduceLeDiff,if_true,az];walk_at "go";refine⟨by omega,_,rfl,?_⟩;unfold dS;dsimp only;refine⟨by simp;omega,by omega,?_⟩;walk_at "go";refine⟨by omega,_,rfl,?_⟩;dsimp only;refine⟨by simp;omega,by omega,?_⟩;have h4:OV.val (.ll [D.str (Str.ofString "top")::List.map (fun x=>D.str (fR x)) c.top,D.str (Str.ofString "bottom")::List.map (fun x=>D.str (fR x)) c.bp,[D.str (Str.ofString "left")]++List.map D.str c.left,[D.str (Str.ofString "right")]++List.map D.str c.right])=.lst ((Fl c).map dS):=by
  simp[Fl,dS,OV.val]
 have Wy:(Fl c).length=4:=rfl;simp only[nK,ju,ja,gt];simp only[h4,List.set];walk_at "px";refine lx c.wide k6 (fun p=>dS ["wide",p.1,cY p.2]) (fun Q' h=>?_) (by omega) (fun p hp K1 k=>?_) ?_
 ·walk_at "px";exact⟨_,rfl,h⟩
 ·obtain⟨_,h0,h1⟩:=hc.ws p hp;unfold k6;walk_at "px";exact⟨by omega,by omega,k⟩
 walk_at "px";refine⟨by simp;omega,?_⟩;simp only[nK,ju,ja,gt,List.set];walk_at "px";refine lx c.bH jg (fun p=>dS ["bend",cY p.1,p.2]) (fun Q' h=>?_) (by omega) (fun p hp K1 k=>?_) ?_
 ·walk_at "px";exact⟨_,rfl,h⟩
 ·obtain⟨⟨h0,h1⟩,_⟩:=hc.es p hp;unfold jg;walk_at "px";exact⟨by omega,by omega,k⟩
 walk_at "px";refine⟨by simp;omega,?_⟩;simp only[nK,ju,ja,gt,List.set];walk_at "px";refine lx c.keeps my (fun p=>dS ["keep",cY p.1,cY p.2.1,cY p.2.2]) (fun Q' h=>?_) (by omega) (fun p hp K1 k=>?_) ?_
 ·walk_at "px";exact⟨_,rfl,h⟩
 ·obtain⟨⟨h0,h1⟩,⟨h2,h3⟩,⟨h5,h6⟩⟩:=hc.ks p hp;unfold my;walk_at "px";exact⟨by omega,by omega,by omega,by omega,k⟩
 walk_at "px";refine⟨by simp;omega,?_⟩;simpa[iI,dS,Function.comp_def] using q
end Wc
namespace Wc
open PySem L2 PyProof.Rows
end Wc
open PySem L2 PyProof.Rows Wc
local macro_rules | `(tactic| walk_at "px")=>`(tactic| (repeat(first | walk_at "b" | simp only[vF,xI,rW,Aj,Cf,mX,C7,Ac,Gr,OV.val])))
namespace Wc
open PySem L2 PyProof.Rows
def dA(w:Str):Prop:=(1<=w.length/\w.length<=6)/\∀x∈w.cps.toList,97<=x/\x<=122
structure mF (ps:List Str) (c:de):Prop where
 any:oz c
 t1:1<=c.top.length
 tb:c.bp.length=c.top.length
 lo:c.left.Pairwise iC
 ro:c.right.Pairwise iC
 wo:(c.wide.map (·.1)).Pairwise iC
 wu:∀p∈c.wide,p.2=2\/p.2=3
 eo:(c.bH.map (·.1)).Pairwise (·<·)
 k8:c.keeps.length<=8
 pl:ps.length<=24
 pn:∀w∈ps,dA w
 pt:fh ps c.top
 pb:fh ps c.bp
 pL:∀w∈c.left,w∈ps
 pR:∀w∈c.right,w∈ps
 pW:∀p∈c.wide,p.1∈ps
 pE:∀p∈c.bH,p.2∈ps
def ya:eO:=fun ds Q=>∃ns:List Int,ds=[dI ns]/\ns.length<=1000/\∀ps c,mF ps c->Q (.ov (.ll c.rows))
theorem K7(x:Int)(l:List Int):inD (.int x) (l.map .int)=decide (x∈l):=by
 unfold inD;rw[List.any_map];induction l with
 | nil=>rfl
 | cons a r ih=>
  rw[List.any_cons,ih,Function.comp_apply,GZ];by_cases h:a=x
  ·subst h;simp
  ·simp[h,Ne.symm h]
theorem M6(l:List (Int×Int×Int)):(l.map my).all rR=true:=by simp[List.all_eq_true,my,rR,mX]
theorem M5(l:List (Int×Str)):(l.map jg).all rR=true:=by simp[List.all_eq_true,jg,rR,mX]
def DI:TX:=(bQ (je 1 (fq 2 yh (bx (br 0) (bx (dC (.int 40)) bD))))
 (bQ (dX 2 (bB (oI (fun _ j=>0<j) fun i j=>.int (i%j)) (bB (oI iK fun i j=>.int (i*j)) (bB cT (bB (oI (fun _ j=>0<j) fun i j=>.int (i%j)) (dF rJ (bx (fZ (br 0) gN (fv (dC (.int 1)))) bD)) (bB (oI oA fun i j=>.int (i ^ j.toNat)) (dC (.int 10)) (dC (.int 30)))) (dC (.int 17))) (dC (.int 40692))) (dC (.int 2147483399))))
 (bQ (je 3 (cZ bD))
 (bQ (lZ (vI (bx (fZ (br 0) (fv (dC (.int 1))) (fv (dC (.int 9)))) bD)) (lS 2 (gi (cM 4) (gi (cM 5) kj))) (bQ (dX 6 (fq 2 pD (bx (bB cT (br 5) (br 2)) (bx (bB cT (br 4) (dC (.int 700))) bD))))
 (mW 3 (mQ (bx (bB (oI (fun _ j=>0<j) fun i j=>.int (i%j)) (br 6) (dC (.int 100))) (bx (bB (oI (fun _ j=>0<j) fun i j=>.int (i%j)) (bB (oI gS fun i j=>.int (i/j)) (br 6) (dC (.int 128))) (dC (.int 100))) (bx (bB (oI (fun _ j=>0<j) fun i j=>.int (i%j)) (bB (oI gS fun i j=>.int (i/j)) (br 6) (dC (.int 16384))) (dC (.int 100))) bD)))))))
 (ju 3 (bQ (xI 1 (dC (.int 6)) (rW 1 (fZ (bB cT (bB cD (br 1) (dC (.int 6))) (br 3)) gN (fv (bB (oI (fun _ j=>0<j) fun i j=>.int (i%j)) (br 2) (dC (.int 9)))))))
 (bQ (je 7 (Aj 1 (eG (gh (bB cD (br 1) (dC (.int 5)))) [none,none] (lS 2 (gi (cM 0) (gi (cM 1) kj))) iE (br 0))))
 (bQ (dX 8 (fq 1 wa (bx (dF rJ (bx (fZ (br 0) gN (fv (dC (.int 1)))) bD)) bD)))
 (bQ (lZ (vI (bx (fZ (br 0) (fv (dC (.int 9))) (fv (dC (.int 20)))) bD)) (lS 2 (gi (cM 4) (gi (cM 5) kj))) (bQ (dX 6 (fq 2 pD (bx (bB cT (br 5) (br 2)) (bx (bB cT (br 4) (dC (.int 800))) bD))))
 (gR (Cg 7 (dh (bB (jO true) (bB (oI (fun _ j=>0<j) fun i j=>.int (i%j)) (br 6) (dC (.int 100))) (br 7)))) (bQ (vF 1 (dC (.int 5)) (mQ (bx (bB (oI (fun _ j=>0<j) fun i j=>.int (i%j)) (br 6) (dC (.int 100))) (bx (bB cD (br 8) (bB (oI (fun _ j=>0<j) fun i j=>.int (i%j)) (bB (oI gS fun i j=>.int (i/j)) (br 6) (dC (.int 128))) (dC (.int 8)))) bD))))
 (mW 7 (bB (oI (fun _ j=>0<j) fun i j=>.int (i%j)) (br 6) (dC (.int 100))))) hZ)))
 (bQ (xI 1 (dC (.int 5)) (rW 1 (dF C7 (bx (bB cD (br 1) (dC (.int 5))) bD))))
 (Ac 1)))))))))))
theorem Gz{ws:List Str}(hw:Words ws){l:List (Option Str)}(h:fh ws l):∀x∈l,(fR x).length<=6:=by
 intro x hx;cases x with
 | none=>exact(by decide +kernel:(Str.ofString ".").length<=6)
 | some w=>exact(hw.sz w (h w hx)).2
theorem RL:jP 1 ya DI ["_law_script","_law_lists","_law_seed","_law_more","_law_k","_law_cell","_law_one","_law_columns","_law_names"]:=by
 intro ds Qr hl h;obtain⟨ns,rfl,hn,q⟩:=h;show DI _ [.fz (dI ns),.un,.un,.un,.un,.un,.un,.un,.un];unfold DI dI;have big:=iq;walk_at "px";refine⟨ns,40,rfl,hn,by omega,by omega,fun ws c hw gc=>?_⟩;walk_at "px";walk_at "go";generalize mv:((gL ns none (some 1)).sum%1000000000000000000000000000000+17)*40692%2147483399=ck;have s0:0<=ck:=by rw[<-mv];exact aK _ (by decide)
 clear mv;walk_at "go";refine⟨by omega,?_⟩;walk_at "go";unfold de.rows;refine Ds (gL ns (some 1) (some 9)) D.int (fun Q' h=>?_) (fun i ρ=>∃(more:List (Int×Int×Int)) (a b d:Sl),ρ=[.fz (D.lst (List.map D.int ns)),.ov (.ll [c.top.map dO,c.bp.map dO,c.left.map .str,c.right.map .str,c.wide.map k6,c.bH.map jg,c.keeps.map my]),.fz (.int ck),.ow (more.map my),a,b,d,.un,.un]/\more.length<=i/\∀p∈more,bT p.1/\bT p.2.1/\bT p.2.2) ⟨[],_,_,_,rfl,by simp,by simp⟩ ?_ ?_
 ·walk_at "px";exact h
 ·rintro i x ρ hx ⟨more,a,b,d,rfl,ml,mo⟩;have hi:i<8:=by
   have:=(ao.mp hx).1;rw[xU _ (by decide) (by decide)] at this;simp at this;omega
  walk_at "px";refine⟨x+ck,(i:Int)+700,rfl,by omega,by omega,?_⟩;have n0:=Cr (x+ck) ((i:Int)+700);generalize rN _ _=one at n0 ⊢;walk_at "go";refine⟨by omega,by simp;omega,more++[(one%100,one/128%100,one/16384%100)],_,_,_,by rw[aq];rfl,by simp;omega,fun p hp=>?_⟩;rcases au.mp hp with h | h
  ·exact mo p h
  ·have:p=(one%100,one/128%100,one/16384%100):=by simpa using h
   subst this;unfold bT;dsimp only;omega
 rintro ρ ⟨more,a,b,d,rfl,ml,mo⟩;have Wn:more.length<=8:=by
  rw[xU _ (by decide) (by decide)] at ml;simp at ml;omega
 simp only[nK,ju,ja,gt,List.set];walk_at "px";refine⟨_,rfl,?_⟩;dsimp only;rw[<-aq,Iq,pV _ (aK _ (by decide))];have kl:=gc.ke.1;have w2:=gc.w2;have k1:((c.keeps++more).take (ck%9).toNat).length<=8:=by simp;omega
 have k2:∀p∈(c.keeps++more).take (ck%9).toNat,bT p.1/\bT p.2.1/\bT p.2.2:=fun p hp=>by
  rcases au.mp (List.mem_of_mem_take hp) with h | h
  ·have:=gc.ke.2 p h;unfold bT;omega
  ·exact mo p h
 refine⟨by simp;omega,M6 _,6,rfl,?_⟩;generalize (c.keeps++more).take (ck%9).toNat=keeps at k1 k2 ⊢;walk_at "go";refine lx c.bH jg (fun p=>.int p.1) (fun Q' h=>?_) (by have:=gc.be.len;omega) (fun p hp K1 k=>?_) ?_
 ·walk_at "px";exact⟨_,rfl,h⟩
 ·unfold jg;walk_at "px";exact k
 rw[show(c.bH.map fun p=>D.int p.1)=(c.bH.map (·.1)).map D.int by rw[aQ];rfl];refine⟨by simp[Gn,mX],?_⟩;walk_at "go";refine⟨_,rfl,?_⟩;have hv:=IV (gL ns none (some 1)).sum;generalize rV (gL ns none (some 1)).sum=vs at hv ⊢;walk_at "go";have b0:∀p∈c.bH,bT p.1/\p.2∈ws++vs:=fun p hp=>by
  obtain⟨n,e,zk,U2,_⟩:=gc.be.at_ p hp;exact⟨by unfold bT;omega,List.mem_append_left _ U2⟩
 have bl:=gc.be.len;have bn:(c.bH.map (·.1)).Nodup:=by
  unfold List.Nodup;rw[List.pairwise_map];exact gc.be.up.imp fun h=>Int.ne_of_lt h
 refine Ds (gL ns (some 9) (some 20)) D.int (fun Q' h=>?_) (fun i ρ=>∃(bH:List (Int×Str)) (a b d:Sl),ρ=[.fz (D.lst (List.map D.int ns)),.ov (.ll [c.top.map dO,c.bp.map dO,c.left.map .str,c.right.map .str,c.wide.map k6,bH.map jg,keeps.map my]),.fz (.int ck),.fz (D.lst (more.map my)),a,b,d,.ow ((bH.map (·.1)).map D.int),.fz (D.lst (vs.map D.str))]/\bH.length<=40+i/\(bH.map (·.1)).Nodup/\∀p∈bH,bT p.1/\p.2∈ws++vs) ⟨c.bH,_,_,_,rfl,by omega,bn,b0⟩ ?_ ?_
 ·walk_at "px";exact h
 ·rintro i x ρ hx ⟨bH,a,b,d,rfl,ml,mn,mo⟩;have hi:i<11:=by
   have:=(ao.mp hx).1;rw[xU _ (by decide) (by decide)] at this;simp at this;omega
  walk_at "px";refine⟨x+ck,(i:Int)+800,rfl,by omega,by omega,?_⟩;have n0:=Cr (x+ck) ((i:Int)+800);generalize rN _ _=one at n0 ⊢;walk_at "go";refine⟨fun e he=>?_,?_⟩
  ·obtain⟨z,_,rfl⟩:=aD.mp he;rw[Aw];trivial
  rw[K7];by_cases hm:one%100∈bH.map (·.1)
  ·simp only[hm,decide_true,Bool.not_true,aR,if_false];exact⟨bH,_,_,_,rfl,by omega,mn,mo⟩
  ·simp only[hm,decide_false,Bool.not_false,if_true];walk_at "px";obtain⟨w,BA,Bz⟩:=FF (one/128) hv.len;refine⟨5,_,rfl,rfl,w,BA,by omega,by simp;omega,?_⟩;walk_at "go";refine⟨by simp;omega,bH++[(one%100,w)],_,_,_,by rw[aq,aq,aq];rfl,by simp;omega,?_,fun p hp=>?_⟩
   ·rw[aq,List.nodup_append]
    exact⟨mn,by simp,fun u hu v J7=>by
     simp only[aj,bg,aF] at J7;subst J7;exact fun z=>hm (z▸hu)⟩
   ·rcases au.mp hp with h | h
    ·exact mo p h
    ·have:p=(one%100,w):=by simpa using h
     subst this;exact⟨by unfold bT;dsimp only;omega,aS _ Bz⟩
 rintro ρ ⟨bH,a,b,d,rfl,ml,mn,mo⟩;have Ep:bH.length<=51:=by
  rw[xU _ (by decide) (by decide)] at ml;simp at ml;omega
 walk_at "go";refine⟨_,rfl,bH,rfl,by omega,fun x hx y hy e=>?_,fun ps hp hs=>?_⟩
 ·have key:∀(l:List (Int×Str)),(l.map (·.1)).Nodup->∀x∈l,∀y∈l,x.1=y.1->x=y:=fun l hl x hx y hy e=>by
   induction l with
   | nil=>cases hx
   | cons z l ih=>
    rw[aj,aN] at hl;rcases af.mp hx with h1 | h1
    ·rcases af.mp hy with h2 | h2
     ·rw[h1,h2]
     ·have:=bh (f:=Prod.fst) h2;rw[<-e,h1] at this;exact absurd this hl.1
    ·rcases af.mp hy with h2 | h2
     ·have:=bh (f:=Prod.fst) h1;rw[e,h2] at this;exact absurd this hl.1
     ·exact ih hl.2 h1 h2
  rw[key bH mn x hx y hy e]
 have pb:∀p∈ps,bT p.1/\p.2∈ws++vs:=fun p h=>mo p (hp.subset h)
 have pl:ps.length<=51:=by rw[hp.length_eq];exact Ep
 refine⟨M5 ps,5,rfl,?_⟩;walk_at "go";have so:(ps.map (·.1)).Pairwise (·<·):=by
  have h1:(ps.map (·.1)).Pairwise (·<=·):=by rw[List.pairwise_map];exact hs
  have h2:(ps.map (·.1)).Nodup:=(hp.map _).nodup_iff.mpr mn;exact(h1.and h2).imp fun h=>Int.lt_iff_le_and_ne.mpr h
 have JL:∀w∈ws++vs,dA w:=fun w h=>by
  rcases au.mp h with h | h
  ·exact⟨hw.sz w h,hw.wM w h⟩
  ·exact⟨hv.sz w h,hv.wM w h⟩
 have al:∀w∈ws,w∈ws++vs:=fun w h=>List.mem_append_left _ h
 exact q (ws++vs) ⟨c.top,c.bp,c.left,c.right,c.wide,ps,keeps⟩ ⟨⟨by dsimp only;omega,by have:=gc.bl;dsimp only;omega,gc.ll,gc.rl,gc.wl,pl,by dsimp only;omega,Gz hw gc.pt,Gz hw gc.pb,fun w h=>(hw.sz w (gc.lw w h)).2,fun w h=>(hw.sz w (gc.rw_ w h)).2,fun p h=>⟨(hw.sz _ (gc.ww p h).1).2,by have:=(gc.ww p h).2.1;unfold bT;omega⟩,fun p h=>⟨(pb p h).1,(JL _ (pb p h).2).1.2⟩,k2⟩,gc.w1,gc.bl,gc.lo,gc.ro,gc.wo,fun p h=>(gc.ww p h).2.1,so,k1,by rw[aw,hw.len,hv.len];decide,JL,fun w h=>al w (gc.pt w h),fun w h=>al w (gc.pb w h),fun w h=>al w (gc.lw w h),fun w h=>al w (gc.rw_ w h),fun p h=>al _ (gc.ww p h).1,fun p h=>(pb p h).2⟩
end Wc
namespace Wc
open PySem L2 PyProof.Rows
end Wc
open PySem L2 PyProof.Rows Wc
local macro_rules | `(tactic| walk_at "px")=>`(tactic| (repeat(first | walk_at "b" | simp only[xn,xb,wY])))
namespace Wc
open PySem L2 PyProof.Rows
def x9:eO:=fun ds Q=>∃l:Str,ds=[.str l]/\l.length<=1000000/\Q (.ow ((qT l).map .str))
def DH:TX:=(eX (eG (gh (dM "str" xn (br 0) (bx (dC (.str " ")) bD))) [none] (cM 0) (dh (bB wB (br 0) (dC (.str "")))) (br 0)))
theorem IL(l:Str)(c:Str)(h:l.length<=1000000):(Txt.split l c).length<=1000002:=by
 have:=PyProof.Rows.split_le l c;omega
theorem RK:jP 1 x9 DH ["line"]:=by
 intro ds Qr hl h;obtain⟨l,rfl,vf,q⟩:=h;show DH _ [.fz (.str l)];unfold DH;have big:=iq;walk_at "px";refine qW (Txt.split l " ") D.str D.str (fun w=>decide (w≠"")) (fun Q' h=>?_) (by have:=IL l " " vf;omega) (fun w _ K1 K0 k1 k0=>?_) q
 ·walk_at "px";exact⟨rfl,by rw[Dl];decide,by omega,h⟩
 ·walk_at "px";by_cases hw:w=""
  ·subst hw;simpa using k0 (by simp)
  ·simpa[hw] using k1 (by simpa using hw)
def wq:eO:=fun ds Q=>∃t:Str,ds=[.str t]/\t.length<=1000000/\Q (.ow ((oO t).map dS))
def DG:TX:=(bQ (dX 1 (eG (gh (dM "str" xn (br 0) (bx (dC (.str "\n")) bD))) [none] (cM 0) iE (fq 1 x9 (bx (br 0) bD))))
 (eX (eG (gh (br 1)) [none] (cM 0) (dh (bB (gO fun i j=>.bl (decide (j<i))) (dF jv (bx (br 0) bD)) (dC (.int 0)))) (br 0))))
theorem RJ:jP 1 wq DG ["text","lines"]:=by
 intro ds Qr hl h;obtain⟨t,rfl,vf,q⟩:=h;show DG _ [.fz (.str t),.un];unfold DG;have big:=iq;have sl:=IL t "\n" vf;walk_at "px";refine lx (Txt.split t "\n") D.str (fun l=>dS (qT l)) (fun Q' h=>?_) (by omega) (fun l hm K1 k=>?_) ?_
 ·walk_at "px";exact⟨rfl,by rw[Hm];decide,by omega,h⟩
 ·walk_at "px";refine⟨l,rfl,?_,k⟩;have:=PyProof.Rows.part_short hm;omega
 walk_at "go";rw[show((Txt.split t (Str.ofString "\n")).map fun l=>dS (qT l))=((Txt.split t (Str.ofString "\n")).map qT).map dS by rw[aQ];rfl];refine qW ((Txt.split t (Str.ofString "\n")).map qT) dS dS (fun ws=>decide (ws≠[])) (fun Q' h=>?_) (by rw[aa];omega) (fun ws _ K1 K0 k1 k0=>?_) q
 ·walk_at "px";exact h
 ·unfold dS at *;walk_at "px";cases ws with
  | nil=>simpa using k0 (by simp)
  | cons a r=>simpa using k1 (by simp)
end Wc
namespace Wc
open PySem L2 PyProof.Rows
end Wc
open PySem L2 PyProof.Rows Wc
local macro_rules | `(tactic| walk_at "px")=>`(tactic| (repeat(first | walk_at "b" | simp only[xb,eY,uz])))
namespace Wc
open PySem L2 PyProof.Rows
theorem AS{α:Type}{wi:kP}{m:List (Option Nat)}{g:jc}{tc:iR}{te:TD}{ρ:Ev}{Q:R->Prop}(L:List α)(φ:α->D)(f:α->Option D)(good:α->Prop)(hw:∀Q':List D->Prop,Q' (L.map φ)->wi ρ Q')(hl:L.length<=sizeLine)
  (h:∀x∈L,∀(K1:D->Prop) (K0:Prop),(good x->∀d,f x=some d->K1 d)->(good x->f x=none->K0)->g (φ x) (jD m ρ) fun ft=>tc ft fun b=>if b=true then te ft fun r=>K1 r.val else K0) (q:(∀x∈L,good x)->Q (.ow (L.filterMap f))):eG wi m g tc te ρ Q:=by
 unfold eG;refine hw _ ⟨fun i acc=>(∀x∈L.take i,good x)/\acc=(L.take i).filterMap f,⟨by simp,by simp⟩,fun i d acc hd ha=>?_,fun acc ha=>?_⟩
 ·obtain⟨ha,rfl⟩:=ha;rw[aT] at hd;cases hx:L[i]? with
  | none=>rw[hx] at hd;cases hd
  | some x=>
   rw[hx] at hd;cases hd;have iQ:i<L.length:=(ao.mp hx).1;have tk:L.take (i+1)=L.take i++[x]:=by rw[List.take_add_one,hx];rfl
   have ln:((L.take i).filterMap f).length<sizeLine:=by
    have:=List.length_filterMap_le f (L.take i);rw[ay] at this;omega
   have gd:good x->∀y∈L.take (i+1),good y:=fun g1 y hy=>by
    rw[tk] at hy;rcases au.mp hy with z | z
    ·exact ha y z
    ·rw[aF.mp z];exact g1
   exact h x (ah hx) (fun d=>((L.take i).filterMap f).length<sizeLine/\(∀y∈L.take (i+1),good y)/\(L.take i).filterMap f++[d]=(L.take (i+1)).filterMap f) ((∀y∈L.take (i+1),good y)/\(L.take i).filterMap f=(L.take (i+1)).filterMap f)
    (fun g1 d hd=>⟨ln,gd g1,by rw[tk,List.filterMap_append,aV,hd];rfl⟩) (fun g1 hd=>⟨gd g1,by rw[tk,List.filterMap_append,aV,hd];simp⟩)
 ·obtain⟨ha,rfl⟩:=ha;rw[aa,List.take_length] at ha ⊢;exact q ha
theorem IK{α:Type}{wi:kP}{m:List (Option Nat)}{g:jc}{te:TD}{ρ:Ev}{Q:R->Prop}(L:List α)(φ f:α->D)(good:α->Prop)(hw:∀Q':List D->Prop,Q' (L.map φ)->wi ρ Q')(hl:L.length<=sizeLine)
  (h:∀x∈L,∀K1:D->Prop,(good x->K1 (f x))->g (φ x) (jD m ρ) fun ft=>te ft fun r=>K1 r.val) (q:(∀x∈L,good x)->Q (.ow (L.map f))):eG wi m g iE te ρ Q:=by
 refine AS L φ (fun x=>some (f x)) good hw hl (fun x hx K1 K0 k1 _=>?_) fun ha=>?_
 ·have:=h x hx K1 fun g1=>k1 g1 _ rfl
  simpa[iE] using this
 ·have e:L.filterMap (fun x=>some (f x))=L.map f:=by
   clear q h hl hw ha;induction L with
   | nil=>rfl
   | cons a r ih=>rw[aV,aj,ih]
  rw[e];exact q ha
noncomputable def lD(S:Str)(c:Nat):Bool:=!(Builtin.Str.occurrences S ⟨#[c]⟩ 0 S.length 1).isEmpty
theorem Gy(S w:Str){Q:R->Prop}(h:w.length<=1000)(q:Q (.fz (.bl (w.cps.toList.all (lD S))))):eG (gh (br 0)) [none] (cM 0) iE (bB (jO false) (br 0) (dC (.str S))) [.fz (.str w)] fun r=>tm [r.val] Q:=by
 have big:=iq;refine lx w.cps.toList (fun c=>.str ⟨#[c]⟩) (fun c=>.bl (lD S c)) (fun Q' h=>h) (by have:=Ag w;unfold cp at this;omega) (fun c hm K1 k=>k) ?_;show match lU _ with | some bs=>Q (.fz (.bl (bs.all id))) | none=>False
 rw[show(w.cps.toList.map fun c=>D.bl (lD S c))=(w.cps.toList.map (lD S)).map D.bl by rw[aQ];rfl,IH];dsimp only;rw[List.all_map];exact q
theorem M4(c:Nat):lD "abcdefghijklmnopqrstuvwxyz" c=true↔97<=c/\c<=122:=by
 unfold lD;rw[StrLaws.found_one,decide_eq_true_eq,show(Str.ofString "abcdefghijklmnopqrstuvwxyz").cps.toList=List.range' 97 26 by decide +kernel,List.mem_range'_1];omega
theorem Gx(c:Nat):lD "0123456789" c=true↔48<=c/\c<=57:=by
 unfold lD;rw[StrLaws.found_one,decide_eq_true_eq,show(Str.ofString "0123456789").cps.toList=List.range' 48 10 by decide +kernel,List.mem_range'_1];omega
theorem LS(w:Str):dA w↔(1<=w.length/\w.length<=6)/\w.cps.toList.all (lD "abcdefghijklmnopqrstuvwxyz")=true:=by
 unfold dA;rw[List.all_eq_true];exact and_congr_right fun _=>forall₂_congr fun c _=>(M4 c).symm
def iU:k9:=fun ds Q Qx=>∃(b:Bool) (w:Str),ds=[.bl b,.str w]/\(b=true->Q (.fz .non))/\(b=false->Qx)
def A8(Qx:Prop):TX:=(gR (vD (dh (br 0))) (uz Qx (br 1)) hZ)
theorem Rt(ds:List D)(Qr:R->Prop)(Qx:Prop)(hl:ds.length=2)(h:iU ds Qr Qx):A8 Qx { nx:=fun _=>Qr (.fz .non),rt:=Qr } (kD ["holds","words"] ds):=by
 obtain⟨b,w,rfl,q,qx⟩:=h;show A8 Qx _ [.fz (.bl b),.fz (.str w)];unfold A8;cases b with
 | true=>
  walk_at "px";exact q rfl
 | false=>
  walk_at "px";exact qx rfl
def v8:eO:=fun ds Q=>∃w:Str,ds=[.str w]/\w.length<=1000/\(dA w->Q (.fz (.bl true)))/\(¬dA w->Q (.fz (.bl false)))
def Dy:TX:=(bQ (gR (vD (dh (uB (gO fun i j=>.bl (decide (i<=j))) (gO fun i j=>.bl (decide (i<=j))) (dC (.int 1)) (dF jv (bx (br 0) bD)) (dC (.int 6))))) (eX (dC (.bl false))) hZ)
 (eX (dF tm (bx (eG (gh (br 0)) [none] (cM 0) iE (bB (jO false) (br 0) (dC (.str "abcdefghijklmnopqrstuvwxyz")))) bD))))
theorem Rr:jP 1 v8 Dy ["word"]:=by
 intro ds Qr hl h;obtain⟨w,rfl,hw,q,qn⟩:=h;show Dy _ [.fz (.str w)];unfold Dy;have big:=iq;walk_at "px";refine⟨by omega,?_⟩;have no:¬(1<=w.length/\w.length<=6)->Qr (.fz (.bl false)):=fun z=>qn fun y=>z y.1
 split
 ·by_cases h6:w.length<=6
  ·rw[if_neg (by simp;omega)];walk_at "go";refine Gy _ w hw ?_;have:=LS w;cases hc:w.cps.toList.all (lD "abcdefghijklmnopqrstuvwxyz") with
   | true=>exact q (this.mpr ⟨⟨by omega,h6⟩,hc⟩)
   | false=>exact qn fun y=>by rw[(this.mp y).2] at hc;cases hc
  ·rw[if_pos (by simp;omega)];exact no fun y=>h6 y.2
 ·exact no fun y=>by omega
def qf:k9:=fun ds Q Qx=>∃w:Str,ds=[.str w]/\w.length<=1000/\(dA w->Q (.fz (.str w)))/\(¬dA w->Qx)
def Bb(Qx:Prop):TX:=(bQ (kB (eY 2 iU Qx (bx (fq 1 v8 (bx (br 0) bD)) (bx (dC (.str "a word is no NAME where one is due")) bD))))
 (eX (br 0)))
theorem SN(ds:List D)(Qr:R->Prop)(Qx:Prop)(hl:ds.length=1)(h:qf ds Qr Qx):Bb Qx { nx:=fun _=>Qr (.fz .non),rt:=Qr } (kD ["word"] ds):=by
 obtain⟨w,rfl,hw,q,qx⟩:=h;show Bb Qx _ [.fz (.str w)];unfold Bb;walk_at "px";refine⟨w,rfl,hw,fun hn=>?_,fun hn=>?_⟩
 ·refine⟨true,_,rfl,fun _=>?_,nofun⟩;walk_at "go";exact q hn
 ·exact⟨false,_,rfl,nofun,fun _=>qx hn⟩
def vA(w:Str):Prop:=∃i:Int,bT i/\w=cY i
theorem qX(i:Int)(h:bT i):1<=(cY i).length/\(cY i).length<=2/\(cY i).cps.toList.all (lD "0123456789")=true/\(∃c,du (cY i).cps.toList 0=some c/\((cY i).length=1\/c≠48))/\lI (cY i):=by
 have key:∀k:Fin 100,(1<=(cY (k.val:Int)).length/\(cY (k.val:Int)).length<=2)/\((cY (k.val:Int)).cps.toList.all (lD "0123456789"))=true/\((du (cY (k.val:Int)).cps.toList 0).any fun c=>decide ((cY (k.val:Int)).length=1)||decide (c≠48))=true/\((cY (k.val:Int)).cps.toList≠[]/\32∉(cY (k.val:Int)).cps.toList/\10∉(cY (k.val:Int)).cps.toList):=by decide +kernel
 obtain⟨h0,h1⟩:=h;have e:=key ⟨i.toNat,by omega⟩;simp only[Int.toNat_of_nonneg h0] at e;obtain⟨⟨e1,e2⟩,e3,e4,e5⟩:=e;refine⟨e1,e2,e3,?_,e5⟩;cases hc:du (cY i).cps.toList 0 with
 | none=>rw[hc] at e4;cases e4
 | some c=>
  rw[hc] at e4;exact⟨c,rfl,by simpa using e4⟩
theorem LR{w:Str}(h1:1<=w.length)(h2:w.length<=2)(h3:w.cps.toList.all (lD "0123456789")=true){c:Nat}(h4:du w.cps.toList 0=some c)(h5:w.length=1\/c≠48):vA w:=by
 have hf:∀x∈w.cps.toList,48<=x/\x<=57:=fun x hx=>(Gx x).mp (List.all_eq_true.mp h3 x hx)
 have k1:∀k:Fin 10,(cY (k.val:Int)).cps=#[48+k.val]:=by decide +kernel
 have k2:∀(j:Fin 9) (k:Fin 10),(cY ((10*(j.val+1)+k.val:Nat):Int)).cps=#[49+j.val,48+k.val]:=by decide +kernel
 obtain⟨⟨l⟩⟩:=w;simp only[Str.length,ai] at h1 h2 h5;simp only at hf h4;match l,h1,h2 with
 | [a],_,_=>
  obtain⟨a1,a2⟩:=hf a (by simp);refine⟨((a-48:Nat):Int),⟨by omega,by omega⟩,?_⟩;have:=k1 ⟨a-48,by omega⟩;simp only[show 48+(a-48)=a by omega] at this;rw[<-Au (cY _)];unfold ic;simp only[this]
 | [a,b],_,_=>
  obtain⟨a1,a2⟩:=hf a (by simp);obtain⟨b1,b2⟩:=hf b (by simp);have hc:a≠48:=by
   have:c=a:=by
    have:du [a,b] (0:Int)=some a:=mh (l:=[a,b]) (j:=0) (by simp);exact(Option.some.inj (h4.symm.trans this))
   rcases h5 with z | z
   ·simp at z
   ·rw[<-this];exact z
  refine⟨((10*(a-49+1)+(b-48):Nat):Int),⟨by omega,by omega⟩,?_⟩;have:=k2 ⟨a-49,by omega⟩ ⟨b-48,by omega⟩;simp only[show 49+(a-49)=a by omega,show 48+(b-48)=b by omega] at this;rw[<-Au (cY _)];unfold ic;simp only[this]
theorem Hl(i:Int)(h:bT i):PySem.intText? (cY i)=some i:=PySem.W.KIN.num_reads h.1 (by have:=h.2;omega)
def qh:k9:=fun ds Q Qx=>∃w:Str,ds=[.str w]/\w.length<=1000/\(∀i,bT i->w=cY i->Q (.fz (.int i)))/\(¬vA w->Qx)
def Bk(Qx:Prop):TX:=(bQ (kB (eY 2 iU Qx (bx (uB (gO fun i j=>.bl (decide (i<=j))) (gO fun i j=>.bl (decide (i<=j))) (dC (.int 1)) (dF jv (bx (br 0) bD)) (dC (.int 2))) (bx (dC (.str "a number has not one or two figures")) bD))))
 (bQ (kB (eY 2 iU Qx (bx (dF tm (bx (eG (gh (br 0)) [none] (cM 0) iE (bB (jO false) (br 0) (dC (.str "0123456789")))) bD)) (bx (dC (.str "a number has a sign that is no figure")) bD))))
 (bQ (kB (eY 2 iU Qx (bx (FA (bB oEq (dF jv (bx (br 0) bD)) (dC (.int 1))) (bB wB (bB cD (br 0) (dC (.int 0))) (dC (.str "0")))) (bx (dC (.str "a number of two figures begins with a nought")) bD))))
 (eX (dF xb (bx (br 0) bD))))))
theorem Ti(ds:List D)(Qr:R->Prop)(Qx:Prop)(hl:ds.length=1)(h:qh ds Qr Qx):Bk Qx { nx:=fun _=>Qr (.fz .non),rt:=Qr } (kD ["word"] ds):=by
 obtain⟨w,rfl,hw,q,qx⟩:=h;show Bk Qx _ [.fz (.str w)];unfold Bk;have big:=iq;walk_at "px";refine⟨by omega,?_⟩;have bad:∀{Qk:R->Prop} {t:Str},¬vA w->iU [.bl false,.str t] Qk Qx:=fun z=>⟨false,_,rfl,nofun,fun _=>qx z⟩
 by_cases h1:1<=w.length
 ·rw[if_pos (by omega)];by_cases h2:w.length<=2
  ·refine⟨_,_,rfl,fun _=>?_,fun z=>by simp at z;omega⟩;walk_at "go";refine Gy _ w hw ?_;have h0:0<w.cps.toList.length:=by have:=Ag w;unfold cp at this;omega
   have rD:du w.cps.toList 0=some w.cps.toList[0]:=mh (j:=0) h0;generalize w.cps.toList[0]=c at rD;refine⟨_,_,rfl,fun h3=>?_,fun h3=>qx fun⟨i,hi,e⟩=>?_⟩
   ·walk_at "go";refine⟨by omega,?_⟩;have ok:(w.length=1\/c≠48)->∃i,PySem.intText? w=some i/\w.length<=640/\Qr (.fz (.int i)):=fun h5=>by
     obtain⟨i,hi,e⟩:=LR h1 h2 h3 rD h5;exact⟨i,by rw[e];exact Hl i hi,by omega,q i hi e⟩
    split
    ·refine⟨_,_,rfl,fun _=>?_,nofun⟩;walk_at "go";exact ok (.inl (by omega))
    ·rename_i rA;refine⟨by omega,c,rD,_,_,rfl,fun z=>?_,fun z=>qx fun⟨i,hi,e⟩=>?_⟩
     ·walk_at "go";refine ok (.inr fun y=>?_);subst y;revert z
      decide +kernel
     ·obtain⟨_,_,_,⟨c',a1,a2⟩,_⟩:=qX i hi;rw[<-e,rD] at a1;cases a1;have:=a2.resolve_left (by rw[<-e];omega);have z':(⟨#[c]⟩:Str)=Str.ofString "0":=by simpa using z
      have:c=48:=by
       have:=congrArg (fun s:Str=>s.cps.toList) z';rw[show(Str.ofString "0").cps.toList=[48] by decide +kernel] at this;simpa using this
      contradiction
   ·rw[e,(qX i hi).2.2.1] at h3;cases h3
  ·rw[show decide ((w.length:Int)<=2)=false by simp;omega];exact bad fun⟨i,hi,e⟩=>h2 (by rw[e];exact(qX i hi).2.1)
 ·rw[if_neg (by omega)];exact bad fun⟨i,hi,e⟩=>h1 (by rw[e];exact(qX i hi).1)
def wb:k9:=fun ds Q Qx=>∃l:List Str,ds=[dS l]/\l.length<=100/\(∀w∈l,w.length<=1000)/\((∀w∈l,dA w)->Q (.ow (l.map .str)))/\(¬(∀w∈l,dA w)->Qx)
def Bc(Qx:Prop):TX:=(eX (eG (gh (br 0)) [none] (cM 0) iE (eY 1 qf Qx (bx (br 0) bD))))
theorem SJ(ds:List D)(Qr:R->Prop)(Qx:Prop)(hl:ds.length=1)(h:wb ds Qr Qx):Bc Qx { nx:=fun _=>Qr (.fz .non),rt:=Qr } (kD ["words"] ds):=by
 obtain⟨l,rfl,h1,hw,q,qx⟩:=h;show Bc Qx _ [.fz (dS l)];unfold Bc dS;have big:=iq;walk_at "px";refine IK l D.str D.str dA (fun Q' h=>?_) (by omega) (fun w hm K1 k=>?_) q
 ·walk_at "px";exact h
 ·walk_at "px";exact⟨w,rfl,hw w hm,k,fun z=>qx fun y=>z (y w hm)⟩
def jL(w:Str):Prop:=w="."\/dA w
noncomputable def vN(w:Str):D:=if w="." then .non else .str w
def wm:k9:=fun ds Q Qx=>∃l:List Str,ds=[dS l]/\l.length<=100/\(∀w∈l,w.length<=1000)/\((∀w∈l,jL w)->Q (.ow (l.map vN)))/\(¬(∀w∈l,jL w)->Qx)
def Ba(Qx:Prop):TX:=(eX (eG (gh (br 0)) [none] (cM 0) iE (sP (dh (bB oEq (br 0) (dC (.str ".")))) (dC .non) (eY 1 qf Qx (bx (br 0) bD)))))
theorem R8(ds:List D)(Qr:R->Prop)(Qx:Prop)(hl:ds.length=1)(h:wm ds Qr Qx):Ba Qx { nx:=fun _=>Qr (.fz .non),rt:=Qr } (kD ["words"] ds):=by
 obtain⟨l,rfl,h1,hw,q,qx⟩:=h;show Ba Qx _ [.fz (dS l)];unfold Ba dS;have big:=iq;walk_at "px";refine IK l D.str vN jL (fun Q' h=>?_) (by omega) (fun w hm K1 k=>?_) q
 ·walk_at "px";exact h
 ·walk_at "px";unfold vN at k;split
  ·rename_i e;rw[if_pos e] at k;exact k (.inl e)
  ·rename_i e;rw[if_neg e] at k;exact⟨w,rfl,hw w hm,fun y=>k (.inr y),fun z=>qx fun y=>(y w hm).elim e z⟩
end Wc
namespace Wc
open PySem L2 PyProof.Rows
end Wc
open PySem L2 PyProof.Rows Wc
local macro_rules | `(tactic| walk_at "px")=>`(tactic| (repeat(first | walk_at "b" | simp only[qP,zN,eY,uz])))
namespace Wc
open PySem L2 PyProof.Rows
theorem Gw:∀a b:List Str,kn (a.map D.str) (b.map D.str)=decide (a=b)
 | [],[]=>by simp[kn]
 | [],y::b=>by simp[kn]
 | x::a,[]=>by simp[kn]
 | x::a,y::b=>by
  rw[aj,aj];unfold kn;rw[Av,Gw a b];by_cases h:x=y<;>simp[h]
theorem Gf(a b:List Str):cX (.lst (a.map D.str)) (.lst (b.map D.str))=decide (a=b):=by
 unfold cX;exact Gw a b
def BW(l:List Str):Prop:=l.length<=100/\∀w∈l,w.length<=1000
def uY(l:List Str)(p:Str×Int):Prop:=(∃h,l=[h,p.1,cY p.2])/\dA p.1/\bT p.2
def yr:k9:=fun ds Q Qx=>∃l:List Str,ds=[dS l]/\BW l/\(∀p,uY l p->Q (.fz (k6 p)))/\((∀p,¬uY l p)->Qx)
theorem Ge{l:List Str}(h:l.length=3):∃a b c,l=[a,b,c]:=by
 match l,h with
 | [a,b,c],_=>exact⟨a,b,c,rfl⟩
theorem K3{l:List Str}(h:l.length=4):∃a b c d,l=[a,b,c,d]:=by
 match l,h with
 | [a,b,c,d],_=>exact⟨a,b,c,d,rfl⟩
def A9(Qx:Prop):TX:=(bQ (kB (eY 2 iU Qx (bx (bB oEq (dF jv (bx (br 0) bD)) (dC (.int 3))) (bx (dC (.str "a wide line has not three words")) bD))))
 (eX (mQ (bx (eY 1 qf Qx (bx (bB cD (br 0) (dC (.int 1))) bD)) (bx (eY 1 qh Qx (bx (bB cD (br 0) (dC (.int 2))) bD)) bD)))))
theorem R7(ds:List D)(Qr:R->Prop)(Qx:Prop)(hl:ds.length=1)(h:yr ds Qr Qx):A9 Qx { nx:=fun _=>Qr (.fz .non),rt:=Qr } (kD ["words"] ds):=by
 obtain⟨l,rfl,⟨h1,hw⟩,q,qx⟩:=h;show A9 Qx _ [.fz (dS l)];unfold A9 dS;have big:=iq;walk_at "px";refine⟨_,_,rfl,fun e=>?_,fun e=>qx fun p ⟨⟨h,z⟩,_⟩=>?_⟩
 ·obtain⟨a,b,c,rfl⟩:=Ge (l:=l) (by simp at e;omega);walk_at "go";exact⟨_,rfl,b,rfl,hw b (by simp),fun hb=>⟨_,rfl,c,rfl,hw c (by simp),fun i hi ec=>⟨by omega,q (b,i) ⟨⟨a,by rw[<-ec]⟩,hb,hi⟩⟩,fun z=>qx fun p ⟨⟨h,y⟩,_,y2⟩=>by cases y;exact z ⟨_,y2,rfl⟩⟩,fun z=>qx fun p ⟨⟨h,y⟩,y1,_⟩=>by cases y;exact z y1⟩
 ·subst z;simp at e
def u3(l:List Str)(p:Int×Str):Prop:=(∃h,l=[h,cY p.1,p.2])/\bT p.1/\dA p.2
def yq:k9:=fun ds Q Qx=>∃l:List Str,ds=[dS l]/\BW l/\(∀p,u3 l p->Q (.fz (jg p)))/\((∀p,¬u3 l p)->Qx)
def Bf(Qx:Prop):TX:=(bQ (kB (eY 2 iU Qx (bx (bB oEq (dF jv (bx (br 0) bD)) (dC (.int 3))) (bx (dC (.str "a bend line has not three words")) bD))))
 (eX (mQ (bx (eY 1 qh Qx (bx (bB cD (br 0) (dC (.int 1))) bD)) (bx (eY 1 qf Qx (bx (bB cD (br 0) (dC (.int 2))) bD)) bD)))))
theorem R6(ds:List D)(Qr:R->Prop)(Qx:Prop)(hl:ds.length=1)(h:yq ds Qr Qx):Bf Qx { nx:=fun _=>Qr (.fz .non),rt:=Qr } (kD ["words"] ds):=by
 obtain⟨l,rfl,⟨h1,hw⟩,q,qx⟩:=h;show Bf Qx _ [.fz (dS l)];unfold Bf dS;have big:=iq;walk_at "px";refine⟨_,_,rfl,fun e=>?_,fun e=>qx fun p ⟨⟨h,z⟩,_⟩=>?_⟩
 ·obtain⟨a,b,c,rfl⟩:=Ge (l:=l) (by simp at e;omega);walk_at "go";exact⟨_,rfl,b,rfl,hw b (by simp),fun i hi eb=>⟨_,rfl,c,rfl,hw c (by simp),fun hc=>⟨by omega,q (i,c) ⟨⟨a,by rw[<-eb]⟩,hi,hc⟩⟩,fun z=>qx fun p ⟨⟨h,y⟩,_,y2⟩=>by cases y;exact z y2⟩,fun z=>qx fun p ⟨⟨h,y⟩,y1,_⟩=>by cases y;exact z ⟨_,y1,rfl⟩⟩
 ·subst z;simp at e
def uZ(l:List Str)(p:Int×Int×Int):Prop:=(∃h,l=[h,cY p.1,cY p.2.1,cY p.2.2])/\bT p.1/\bT p.2.1/\bT p.2.2
def yp:k9:=fun ds Q Qx=>∃l:List Str,ds=[dS l]/\BW l/\(∀p,uZ l p->Q (.fz (my p)))/\((∀p,¬uZ l p)->Qx)
def Be(Qx:Prop):TX:=(bQ (kB (eY 2 iU Qx (bx (bB oEq (dF jv (bx (br 0) bD)) (dC (.int 4))) (bx (dC (.str "a keep line has not four words")) bD))))
 (eX (mQ (bx (eY 1 qh Qx (bx (bB cD (br 0) (dC (.int 1))) bD)) (bx (eY 1 qh Qx (bx (bB cD (br 0) (dC (.int 2))) bD)) (bx (eY 1 qh Qx (bx (bB cD (br 0) (dC (.int 3))) bD)) bD))))))
theorem R5(ds:List D)(Qr:R->Prop)(Qx:Prop)(hl:ds.length=1)(h:yp ds Qr Qx):Be Qx { nx:=fun _=>Qr (.fz .non),rt:=Qr } (kD ["words"] ds):=by
 obtain⟨l,rfl,⟨h1,hw⟩,q,qx⟩:=h;show Be Qx _ [.fz (dS l)];unfold Be dS;have big:=iq;walk_at "px";refine⟨_,_,rfl,fun e=>?_,fun e=>qx fun p ⟨⟨h,z⟩,_⟩=>?_⟩
 ·obtain⟨a,b,c,d,rfl⟩:=K3 (l:=l) (by simp at e;omega);walk_at "go";exact⟨_,rfl,b,rfl,hw b (by simp),fun i hi eb=>⟨_,rfl,c,rfl,hw c (by simp),fun j hj ec=>⟨_,rfl,d,rfl,hw d (by simp),fun k hk ed=>⟨by omega,q (i,j,k) ⟨⟨a,by rw[<-eb,<-ec,<-ed]⟩,hi,hj,hk⟩⟩,fun z=>qx fun p ⟨⟨h,y⟩,_,_,y2⟩=>by cases y;exact z ⟨_,y2,rfl⟩⟩,fun z=>qx fun p ⟨⟨h,y⟩,_,y2,_⟩=>by cases y;exact z ⟨_,y2,rfl⟩⟩,fun z=>qx fun p ⟨⟨h,y⟩,y1,_⟩=>by cases y;exact z ⟨_,y1,rfl⟩⟩
 ·subst z;simp at e
noncomputable def md(a b c:Nat):List Str:=(["top","bottom","left","right"]:List Str)++List.replicate a (Str.ofString "wide")++List.replicate b (Str.ofString "bend")++List.replicate c (Str.ofString "keep")
noncomputable def j6(l:List Str):List Str:=md (l.count (Str.ofString "wide")) (l.count (Str.ofString "bend")) (l.count (Str.ofString "keep"))
def yo:k9:=fun ds Q Qx=>∃l:List Str,ds=[dS l]/\l.length<=1000/\(l=j6 l->Q (.fz .non))/\(l≠j6 l->Qx)
def Bj(Qx:Prop):TX:=(bQ (je 1 (dF lT (bx (dC (.tup [.str "top",.str "bottom",.str "left",.str "right"])) bD)))
 (bQ (lZ (gh (mQ (bx (dC (.str "wide")) (bx (dC (.str "bend")) (bx (dC (.str "keep")) bD))))) (cM 2) (qP 1 (zN (cZ (bx (br 2) bD)) (dM "list" xp (br 0) (bx (br 2) bD)))))
 (ju 1 (kB (eY 2 iU Qx (bx (bB oEq (br 0) (br 1)) (bx (dC (.str "the lines are not those of a channel, in their order")) bD)))))))
theorem S6(ds:List D)(Qr:R->Prop)(Qx:Prop)(hl:ds.length=1)(h:yo ds Qr Qx):Bj Qx { nx:=fun _=>Qr (.fz .non),rt:=Qr } (kD ["heads","due","head"] ds):=by
 obtain⟨l,rfl,hw,q,qx⟩:=h;show Bj Qx _ [.fz (dS l),.un,.un];unfold Bj dS;have big:=iq;walk_at "px";walk_at "go";refine A4 (["wide","bend","keep"]:List Str) D.str (fun Q' h=>?_) (fun i ρ=>∃s:Sl,ρ=[.fz (.lst (l.map .str)),.ow ((md (if 1<=i then l.count (Str.ofString "wide") else 0) (if 2<=i then l.count (Str.ofString "bend") else 0) (if 3<=i then l.count (Str.ofString "keep") else 0)).map .str),s]) ⟨_,rfl⟩ ?_ ?_
 ·walk_at "px";exact⟨by omega,h⟩
 ·rintro i x ρ hx ⟨s,rfl⟩;walk_at "px";rw[CC];have rp:∀n:Nat,(List.replicate n [D.str x]).flatten=(List.replicate n x).map D.str:=fun n=>by
   induction n with
   | zero=>rfl
   | succ n ih=>rw[List.replicate_succ,List.flatten_cons,ih,List.replicate_succ,aj];rfl
  have cx:∀y:Str,l.count y<=1000:=fun y=>aY List.count_le_length hw
  have c0:=cx x;have c1:=cx (Str.ofString "wide");have c2:=cx (Str.ofString "bend");have c3:=cx (Str.ofString "keep");have hL:∀a' b' c':Nat,(md a' b' c').length=4+a'+b'+c':=fun a' b' c'=>by unfold md;simp;omega
  rw[show(l.count x:Int).toNat=l.count x by omega,rp];refine⟨by omega,rfl,rY 8 _,by omega,by omega,by omega,?_,?_⟩
  ·rw[aa,aa,hL,List.length_replicate];split<;>split<;>split<;>omega
  ·refine⟨.fz (.str x),?_⟩;rw[<-aq];match i,hx with
   | 0,hx=>cases hx;simp[md]
   | 1,hx=>cases hx;simp[md]
   | 2,hx=>cases hx;simp[md]
   | n+3,hx=>simp at hx
 ·rintro ρ ⟨s,rfl⟩;walk_at "go";refine⟨rY 8 _,rY 8 _,_,_,rfl,fun e=>?_,fun e=>?_⟩
  ·rw[Gf] at e;exact q (of_decide_eq_true e)
  ·rw[Gf] at e;exact qx (of_decide_eq_false e)
end Wc
namespace Wc
open PySem L2 PyProof.Rows
end Wc
open PySem L2 PyProof.Rows Wc
local macro_rules | `(tactic| walk_at "px")=>`(tactic| (repeat(first | walk_at "b" | simp only[wY,qP,AW,lT,Ca,eY,uz])))
namespace Wc
open PySem L2 PyProof.Rows
theorem jn:∀{a b:List Nat},Spec.ltCps a b=true↔a<b
 | [],[]=>by simp[Spec.ltCps]
 | [],b::bs=>by simp[Spec.ltCps]
 | a::as,[]=>by simp[Spec.ltCps]
 | a::as,b::bs=>by
  unfold Spec.ltCps;rw[List.cons_lt_cons_iff,<-jn];by_cases h1:a<b
  ·simp[h1]
  ·by_cases h2:a=b
   ·subst h2;simp
   ·simp[h1,h2]
theorem CB{α:Type}{r:α->α->Prop}(tr:∀a b c,r a b->r b c->r a c):∀{l:List α},(∀p∈l.zip (l.drop 1),r p.1 p.2)↔l.Pairwise r
 | []=>by simp
 | [a]=>by simp
 | a::b::t=>by
  have ih:=CB tr (l:=b::t);rw[List.pairwise_cons,<-ih];simp only[List.drop_one,List.tail_cons,List.zip_cons_cons,af,forall_eq_or_imp] at ih ⊢;refine⟨fun bR=>by obtain⟨h1,h2⟩:=bR;exact⟨⟨h1,fun x hx=>tr _ _ _ h1 ((List.pairwise_cons.mp (ih.mp h2)).1 x hx)⟩,h2⟩,fun⟨h1,h2⟩=>⟨h1.1,h2⟩⟩
def se:eO:=fun ds Q=>(∃l:List Str,ds=[dS l]/\l.length<=1000/\(l.Pairwise iC->Q (.fz (.bl true)))/\(¬l.Pairwise iC->Q (.fz (.bl false))))\/∃l:List Int,ds=[dI l]/\l.length<=1000/\(l.Pairwise (·<·)->Q (.fz (.bl true)))/\(¬l.Pairwise (·<·)->Q (.fz (.bl false)))
theorem Cj{α:Type}(l:List α)(f:α->Bool){Q:R->Prop}(q:(∀x∈l,f x=true)->Q (.fz (.bl true)))(q0:(¬∀x∈l,f x=true)->Q (.fz (.bl false))):tm [.lst (l.map fun x=>D.bl (f x))] Q:=by
 show match lU _ with | some bs=>Q (.fz (.bl (bs.all id))) | none=>False
 rw[show(l.map fun x=>D.bl (f x))=(l.map f).map D.bl by rw[aQ];rfl,IH];dsimp only;rw[List.all_map];by_cases h:∀x∈l,f x=true
 ·rw[show l.all (id∘f)=true by simpa[List.all_eq_true] using h];exact q h
 ·rw[show l.all (id∘f)=false by rw[List.all_eq_false];simpa using h];exact q0 h
theorem CA{a b c:Str}(h:iC a b)(h2:iC b c):iC a c:=jn.mpr (List.lt_trans (jn.mp h) (jn.mp h2))
def x8:TX:=(eX (dF tm (bx (eG (Ca (bx (br 0) (bx (fZ (br 0) (fv (dC (.int 1))) gN) bD))) [none,none] (lS 2 (gi (cM 0) (gi (cM 1) kj))) iE (bB wY (br 0) (br 1))) bD)))
theorem So:jP 1 se x8 ["members"]:=by
 intro ds Qr hl h;have big:=iq;rcases h with⟨l,rfl,h1,q,q0⟩ | ⟨l,rfl,h1,q,q0⟩
 ·show x8 _ [.fz (dS l)];unfold x8 dS;rw[<-CB (r:=iC) (fun _ _ _=>CA)] at q q0;walk_at "px";refine lx (l.zip (l.drop 1)) (fun p=>.tup [.str p.1,.str p.2]) (fun p=>.bl (Spec.ltCps p.1.cps.toList p.2.cps.toList)) (fun Q' h=>?_) (by rw[List.length_zip];omega) (fun p hm K1 k=>?_) ?_
  ·walk_at "px";rw[oP _ (by decide),HQ];exact h
  ·walk_at "px";rw[show decide (p.1.cps.toList<p.2.cps.toList)=Spec.ltCps p.1.cps.toList p.2.cps.toList by rw[Bool.eq_iff_iff,decide_eq_true_iff];exact jn.symm];exact k
  ·exact Cj _ _ q q0
 ·show x8 _ [.fz (dI l)];unfold x8 dI;rw[<-CB (r:=fun a b:Int=>a<b) (fun _ _ _=>Int.lt_trans)] at q q0;walk_at "px";refine lx (l.zip (l.drop 1)) (fun p=>.tup [.int p.1,.int p.2]) (fun p=>.bl (decide (p.1<p.2))) (fun Q' h=>?_) (by rw[List.length_zip];omega) (fun p hm K1 k=>?_) ?_
  ·walk_at "px";rw[oP _ (by decide),HQ];exact h
  ·walk_at "px";exact k
  ·exact Cj _ _ (fun h=>q fun p hp=>of_decide_eq_true (h p hp)) fun h=>q0 fun z=>h fun p hp=>a9 (z p hp)
def Sz(c:de):Prop:=c.top.length<=200/\c.bp.length<=200/\c.left.length<=200/\c.right.length<=200/\c.wide.length<=200/\c.bH.length<=200/\c.keeps.length<=200
noncomputable def gV(c:de):List Str:=((c.top++c.bp).filterMap id)++(c.left++c.right)++c.wide.map (·.1)++c.bH.map (·.2)
def we:eO:=fun ds Q=>∃c:de,ds=[c.obj]/\Sz c/\Q (.ow ((gV c).map .str))
theorem K6(l:List (Option Str)):(l.filter fun x=>x.isSome).map dO=(l.filterMap id).map D.str:=by
 induction l with
 | nil=>rfl
 | cons a r ih=>
  cases a with
  | none=>simpa using ih
  | some w=>simp[dO,ih]
def DQ:TX:=(bQ (je 1 (eG (gh (bB cT (kS "top" (br 0)) (kS "bottom" (br 0)))) [none] (cM 0) (dh (bB (rM true) (br 0) (dC .non))) (br 0)))
 (bQ (qP 1 (bB cT (kS "left" (br 0)) (kS "right" (br 0))))
 (bQ (qP 1 (eG (gh (kS "wide" (br 0))) [none] (cM 0) iE (bB cD (br 0) (dC (.int 0)))))
 (bQ (qP 1 (eG (gh (kS "bends" (br 0))) [none] (cM 0) iE (bB cD (br 0) (dC (.int 1)))))
 (vJ 1)))))
theorem Sn:jP 1 we DQ ["channel","names"]:=by
 intro ds Qr hl h;obtain⟨c,rfl,hc,q⟩:=h;show DQ _ [.fz c.obj,.un];unfold DQ de.obj;have big:=iq;obtain⟨l1,l2,l3,l4,l5,l6,_⟩:=hc;have fl:((c.top++c.bp).filterMap id).length<=400:=by have:=List.length_filterMap_le id (c.top++c.bp);rw[aw] at this;omega
 walk_at "px";refine qW (c.top++c.bp) dO dO (fun x=>x.isSome) (fun Q' h=>?_) (by rw[aw];omega) (fun x _ K1 K0 k1 k0=>?_) ?_
 ·walk_at "px";unfold dP;walk_at "px";rw[aq] at h;exact⟨_,rfl,_,rfl,by simp only[aw,aa];omega,h⟩
 ·walk_at "px";cases x with
  | none=>simpa[dO,oK] using k0 rfl
  | some w=>simpa[dO,oK] using k1 rfl
 rw[K6];walk_at "go";unfold dS;refine⟨_,rfl,_,rfl,?_⟩;dsimp only;refine⟨by simp only[aw,aa];omega,by simp only[aw,aa];omega,?_⟩;walk_at "go";refine lx c.wide k6 (fun p=>.str p.1) (fun Q' h=>?_) (by omega) (fun p hp K1 k=>?_) ?_
 ·walk_at "px";exact⟨_,rfl,h⟩
 ·unfold k6;walk_at "px";exact⟨_,rfl,k⟩
 walk_at "px";refine⟨by simp only[aw,aa];omega,?_⟩;walk_at "go";refine lx c.bH jg (fun p=>.str p.2) (fun Q' h=>?_) (by omega) (fun p hp K1 k=>?_) ?_
 ·walk_at "px";exact⟨_,rfl,h⟩
 ·unfold jg;walk_at "px";exact⟨_,rfl,k⟩
 walk_at "px";refine⟨by simp only[aw,aa];omega,?_⟩;walk_at "go";have e:((((c.top++c.bp).filterMap id).map D.str++(c.left.map D.str++c.right.map D.str))++c.wide.map fun p=>D.str p.1)++(c.bH.map fun p=>D.str p.2)=(gV c).map .str:=by
  simp[gV,Function.comp_def]
 rw[e];exact q
theorem PN{c:de}(hc:Sz c):(gV c).length<4000:=by
 obtain⟨l1,l2,l3,l4,l5,l6,_⟩:=hc;have fl:=List.length_filterMap_le id (c.top++c.bp);simp only[gV,aw,aa] at fl ⊢;omega
structure kQ (c:de):Prop where
 tb:c.top.length=c.bp.length
 t1:1<=c.top.length/\c.top.length<=40
 lo:c.left.Pairwise iC
 ro:c.right.Pairwise iC
 wo:(c.wide.map (·.1)).Pairwise iC
 wu:∀p∈c.wide,p.2=2\/p.2=3
 eo:(c.bH.map (·.1)).Pairwise (·<·)
 k8:c.keeps.length<=8
 nn:∀l:List Str,l.Nodup->(∀w,w∈l↔w∈gV c)->l.length<=24
def yn:k9:=fun ds Q Qx=>∃c:de,ds=[c.obj]/\Sz c/\(kQ c->Q (.fz .non))/\(¬kQ c->Qx)
theorem LQ(k:Int):inD (.int k) [.int 2,.int 3]=decide (k=2\/k=3):=by
 simp[inD,cX];rw[Bool.eq_iff_iff];simp;omega
theorem CQ{α:Type}[BEq α][LawfulBEq α]:∀{l m:List α},l.Nodup->(∀x∈l,x∈m)->l.length<=m.length
 | [],m,_,_=>by simp
 | a::l,m,nd,h=>by
  rw[aN] at nd;have ha:a∈m:=h a (by simp);have:=CQ (l:=l) (m:=m.erase a) nd.2 fun x hx=>(List.mem_erase_of_ne (fun z:x=a=>nd.1 (by rw[<-z];exact hx))).mpr (h x (by simp[hx]))
  rw[List.length_erase_of_mem ha] at this;have:=List.length_pos_of_mem ha;simp only[aB];omega
theorem nz{b:Bool}{w:Str}{Q:R->Prop}{Qx:Prop}(q:b=true->Q (.fz .non))(qx:b=false->Qx):iU [.bl b,.str w] Q Qx:=⟨b,w,rfl,q,qx⟩
def Bi(Qx:Prop):TX:=(bQ (kB (eY 2 iU Qx (bx (bB oEq (dF jv (bx (kS "top" (br 0)) bD)) (dF jv (bx (kS "bottom" (br 0)) bD))) (bx (dC (.str "top and bottom have not as many words")) bD))))
 (bQ (kB (eY 2 iU Qx (bx (uB (gO fun i j=>.bl (decide (i<=j))) (gO fun i j=>.bl (decide (i<=j))) (dC (.int 1)) (dF jv (bx (kS "top" (br 0)) bD)) (dC (.int 40))) (bx (dC (.str "the columns are too few or too many")) bD))))
 (bQ (kB (eY 2 iU Qx (bx (fq 1 se (bx (kS "left" (br 0)) bD)) (bx (dC (.str "the NAMEs of left are not rising")) bD))))
 (bQ (kB (eY 2 iU Qx (bx (fq 1 se (bx (kS "right" (br 0)) bD)) (bx (dC (.str "the NAMEs of right are not rising")) bD))))
 (bQ (kB (eY 2 iU Qx (bx (fq 1 se (bx (eG (gh (kS "wide" (br 0))) [none] (cM 0) iE (bB cD (br 0) (dC (.int 0)))) bD)) (bx (dC (.str "the NAMEs of wide are not rising")) bD))))
 (bQ (kB (eY 2 iU Qx (bx (dF tm (bx (eG (gh (kS "wide" (br 0))) [none] (cM 0) iE (bB (jO false) (bB cD (br 0) (dC (.int 1))) (mQ (bx (dC (.int 2)) (bx (dC (.int 3)) bD))))) bD)) (bx (dC (.str "a width is not 2 or 3")) bD))))
 (bQ (kB (eY 2 iU Qx (bx (fq 1 se (bx (eG (gh (kS "bends" (br 0))) [none] (cM 0) iE (bB cD (br 0) (dC (.int 0)))) bD)) (bx (dC (.str "the columns of bends are not rising")) bD))))
 (bQ (kB (eY 2 iU Qx (bx (bB (gO fun i j=>.bl (decide (i<=j))) (dF jv (bx (kS "keeps" (br 0)) bD)) (dC (.int 8))) (bx (dC (.str "the keeps are too many")) bD))))
 (kB (eY 2 iU Qx (bx (bB (gO fun i j=>.bl (decide (i<=j))) (dF AW (bx (fq 1 we (bx (br 0) bD)) bD)) (dC (.int 24))) (bx (dC (.str "the NAMEs are too many")) bD))))))))))))
theorem S5(ds:List D)(Qr:R->Prop)(Qx:Prop)(hl:ds.length=1)(h:yn ds Qr Qx):Bi Qx { nx:=fun _=>Qr (.fz .non),rt:=Qr } (kD ["channel"] ds):=by
 obtain⟨c,rfl,hc,q,qx⟩:=h;show Bi Qx _ [.fz c.obj];unfold Bi;have big:=iq;have nl:=PN hc;have o6:=hc;obtain⟨l1,l2,l3,l4,l5,l6,l7⟩:=o6;unfold de.obj dP dS dW dB dK;walk_at "px";refine⟨_,rfl,?_⟩;dsimp only;refine⟨_,rfl,?_⟩;dsimp only;simp only[aa];refine nz (fun h=>?_) fun h=>qx fun z=>by simp[z.tb] at h
 have tb:c.top.length=c.bp.length:=by simp at h;omega
 walk_at "go";refine⟨_,rfl,?_⟩;dsimp only;simp only[aa];by_cases h1:1<=c.top.length
 rotate_left
 ·rw[if_neg (by omega)];exact nz nofun fun _=>qx fun z=>h1 z.t1.1
 rw[if_pos (by omega)];refine nz (fun h=>?_) fun h=>qx fun z=>by have:=z.t1.2;simp at h;omega
 have h2:c.top.length<=40:=by simp at h;omega
 walk_at "go";refine⟨_,rfl,.inl ⟨c.left,rfl,by omega,fun lo=>nz (fun _=>?_) nofun,fun z=>nz nofun fun _=>qx fun y=>z y.lo⟩⟩;walk_at "go";refine⟨_,rfl,.inl ⟨c.right,rfl,by omega,fun ro=>nz (fun _=>?_) nofun,fun z=>nz nofun fun _=>qx fun y=>z y.ro⟩⟩;walk_at "go";refine lx c.wide k6 (fun p=>.str p.1) (fun Q' h=>?_) (by omega) (fun p hp K1 k=>?_) ?_
 ·walk_at "px";exact⟨_,rfl,h⟩
 ·unfold k6;walk_at "px";exact⟨_,rfl,k⟩
 refine .inl ⟨c.wide.map (·.1),by unfold dS;rw[aQ];rfl,by rw[aa];omega,fun wo=>nz (fun _=>?_) nofun,fun z=>nz nofun fun _=>qx fun y=>z y.wo⟩;walk_at "go";refine lx c.wide k6 (fun p=>.bl (decide (p.2=2\/p.2=3))) (fun Q' h=>?_) (by omega) (fun p hp K1 k=>?_) ?_
 ·walk_at "px";exact⟨_,rfl,h⟩
 ·unfold k6;walk_at "px";refine⟨_,rfl,by omega,?_⟩;rw[LQ];refine⟨by rw[Aw];trivial,fun e he=>?_,k⟩;simp only[af,aH,or_false] at he;rcases he with rfl | rfl<;>(rw[Aw];trivial)
 refine Cj _ _ (fun wu=>nz (fun _=>?_) nofun) fun z=>nz nofun fun _=>qx fun y=>z fun p hp=>a9 (y.wu p hp)
 walk_at "go";refine lx c.bH jg (fun p=>.int p.1) (fun Q' h=>?_) (by omega) (fun p hp K1 k=>?_) ?_
 ·walk_at "px";exact⟨_,rfl,h⟩
 ·unfold jg;walk_at "px";exact⟨_,rfl,k⟩
 refine .inr ⟨c.bH.map (·.1),by unfold dI;rw[aQ];rfl,by rw[aa];omega,fun eo=>nz (fun _=>?_) nofun,fun z=>nz nofun fun _=>qx fun y=>z y.eo⟩;walk_at "go";refine⟨_,rfl,?_⟩;dsimp only;simp only[aa];refine nz (fun h=>?_) fun h=>qx fun z=>by have:=z.k8;simp at h;omega
 have k8:c.keeps.length<=8:=by simp at h;omega
 walk_at "go";refine⟨c,rfl,hc,?_⟩;walk_at "px";refine⟨nl,fun l nd hm=>nz (fun h=>?_) fun h=>qx fun z=>?_⟩
 ·refine q ⟨tb,⟨h1,h2⟩,lo,ro,wo,fun p hp=>of_decide_eq_true (wu p hp),eo,k8,fun l' oY U8=>?_⟩;have:=CQ oY fun x hx=>(hm x).mpr ((U8 x).mp hx)
  simp at h;omega
 ·have:=z.nn l nd hm;simp at h;omega
end Wc
namespace Wc
open PySem L2 PyProof.Rows
noncomputable def l8(w:Str):Option Str:=if w="." then none else some w
noncomputable def iJ(w:Str):Int:=(PySem.intText? w).getD 0
noncomputable def mi(ws:List Str):Str×Int:=(ws.getD 1 "",iJ (ws.getD 2 ""))
noncomputable def ot(ws:List Str):Int×Str:=(iJ (ws.getD 1 ""),ws.getD 2 "")
noncomputable def rm(ws:List Str):Int×Int×Int:=(iJ (ws.getD 1 ""),iJ (ws.getD 2 ""),iJ (ws.getD 3 ""))
noncomputable def hd(ws:List Str):Str:=ws.headD ""
noncomputable def fH{β:Type}(h:Str)(g:List Str->β)(ws:List Str):Option β:=if hd ws=h then some (g ws) else none
noncomputable def sW:Str:="wide"
noncomputable def sB:Str:="bend"
noncomputable def sK:Str:="keep"
noncomputable def bP(L:List (List Str)):de:=⟨((L.getD 0 []).drop 1).map l8,((L.getD 1 []).drop 1).map l8,(L.getD 2 []).drop 1,(L.getD 3 []).drop 1,L.filterMap (fH sW mi),L.filterMap (fH sB ot),L.filterMap (fH sK rm)⟩
structure lK (c:de):Prop where
 t:∀w,some w∈c.top->dA w
 b:∀w,some w∈c.bp->dA w
 l:∀w∈c.left,dA w
 r:∀w∈c.right,dA w
 w:∀p∈c.wide,dA p.1/\bT p.2
 e:∀p∈c.bH,bT p.1/\dA p.2
 k:∀p∈c.keeps,bT p.1/\bT p.2.1/\bT p.2.2
theorem Cz{α β:Type}(l:List α)(f:α->Option β)(g:α->β)(h:∀x∈l,f x=some (g x)):l.filterMap f=l.map g:=by
 induction l with
 | nil=>rfl
 | cons a r ih=>rw[aV,h a (by simp),ih fun x hx=>h x (by simp[hx])];rfl
theorem vV{α β:Type}(l:List α)(f:α->Option β)(h:∀x∈l,f x=none):l.filterMap f=[]:=by
 induction l with
 | nil=>rfl
 | cons a r ih=>rw[aV,h a (by simp),ih fun x hx=>h x (by simp[hx])]
theorem oM{β:Type}{h:Str}{g:List Str->β}{ws:List Str}(hn:hd ws≠h):fH h g ws=none:=if_neg hn
theorem rS{β:Type}{h:Str}{g:List Str->β}{ws:List Str}(e:hd ws=h):fH h g ws=some (g ws):=if_pos e
theorem KN:(sB≠sW/\sK≠sW/\sW≠sB)/\(sK≠sB/\sW≠sK/\sB≠sK)/\∀s:Str,s="top"\/s="bottom"\/s="left"\/s="right"->s≠sW/\s≠sB/\s≠sK:=by
 refine⟨by decide +kernel,by decide +kernel,fun s h=>?_⟩;rcases h with rfl | rfl | rfl | rfl<;>decide +kernel
theorem kT{i:Int}(h:bT i):iJ (cY i)=i:=by unfold iJ;rw[Hl i h];rfl
theorem DP{L:List (List Str)}{a b c:Nat}(h:L.map hd=md a b c):∃l0 l1 l2 l3 W B K,L=l0::l1::l2::l3::(W++B++K)/\hd l0="top"/\hd l1="bottom"/\hd l2="left"/\hd l3="right"/\(∀ws∈W,hd ws=sW)/\(∀ws∈B,hd ws=sB)/\(∀ws∈K,hd ws=sK):=by
 unfold md at h;rw[List.map_eq_append_iff] at h;obtain⟨L1,K,rfl,h1,hK⟩:=h;rw[List.map_eq_append_iff] at h1;obtain⟨L2,B,rfl,h2,hB⟩:=h1;rw[List.map_eq_append_iff] at h2;obtain⟨L3,W,rfl,h3,hW⟩:=h2;have rp:∀{n:Nat} {s:Str} {X:List (List Str)},X.map hd=List.replicate n s->∀ws∈X,hd ws=s:=fun{n s X} e ws hw=>List.eq_of_mem_replicate (e▸bh hw)
 have ln:L3.length=4:=by have:=congrArg List.length h3;simpa using this
 match L3,h3,ln with
 | [l0,l1,l2,l3],h3,_=>
  simp only[aj,bg,List.cons.injEq,and_true] at h3;obtain⟨e0,e1,e2,e3⟩:=h3;exact⟨l0,l1,l2,l3,W,B,K,by simp,e0,e1,e2,e3,rp hW,rp hB,rp hK⟩
theorem CP{β:Type}{l0 l1 l2 l3:List Str}{W B K:List (List Str)}{h:Str}(g:List Str->β)(hn:hd l0≠h/\hd l1≠h/\hd l2≠h/\hd l3≠h):(l0::l1::l2::l3::(W++B++K)).filterMap (fH h g)=W.filterMap (fH h g)++B.filterMap (fH h g)++K.filterMap (fH h g):=by
 rw[aV,oM hn.1,aV,oM hn.2.1,aV,oM hn.2.2.1,aV,oM hn.2.2.2];dsimp only;rw[List.filterMap_append,List.filterMap_append]
theorem Jo{l0 l1 l2 l3:List Str}{W B K:List (List Str)}(e0:hd l0="top")(e1:hd l1="bottom")(e2:hd l2="left")(e3:hd l3="right")(hW:∀ws∈W,hd ws=sW)(hB:∀ws∈B,hd ws=sB)(hK:∀ws∈K,hd ws=sK) :
  bP (l0::l1::l2::l3::(W++B++K))=⟨(l0.drop 1).map l8,(l1.drop 1).map l8,l2.drop 1,l3.drop 1,W.map mi,B.map ot,K.map rm⟩:=by
 obtain⟨⟨d1,d2,d3⟩,⟨d4,d5,d6⟩,d⟩:=KN;have a0:=d _ (.inl e0);have a1:=d _ (.inr (.inl e1));have a2:=d _ (.inr (.inr (.inl e2)));have a3:=d _ (.inr (.inr (.inr e3)));unfold bP;rw[CP mi (h:=sW) ⟨a0.1,a1.1,a2.1,a3.1⟩,CP ot (h:=sB) ⟨a0.2.1,a1.2.1,a2.2.1,a3.2.1⟩,CP rm (h:=sK) ⟨a0.2.2,a1.2.2,a2.2.2,a3.2.2⟩];rw[Cz W (fH sW mi) mi fun x hx=>rS (hW x hx),vV B (fH sW mi) fun x hx=>oM (by rw[hB x hx];exact d1),vV K (fH sW mi) fun x hx=>oM (by rw[hK x hx];exact d2)];rw[vV W (fH sB ot) fun x hx=>oM (by rw[hW x hx];exact d3),Cz B (fH sB ot) ot fun x hx=>rS (hB x hx),vV K (fH sB ot) fun x hx=>oM (by rw[hK x hx];exact d4)];rw[vV W (fH sK rm) fun x hx=>oM (by rw[hW x hx];exact d5),vV B (fH sK rm) fun x hx=>oM (by rw[hB x hx];exact d6),Cz K (fH sK rm) rm fun x hx=>rS (hK x hx)];simp
theorem CO(a:Str)(l:List Str):hd (a::l)=a:=rfl
theorem HK{l:List (Option Str)}(h:∀w,some w∈l->dA w):(l.map fR).map l8=l:=by
 rw[aQ,bb (g:=id) fun x hx=>?_,List.map_id];cases x with
 | none=>simp[fR,l8]
 | some w=>
  have:w≠".":=fun z=>by
   have:=(h w hx).2 46 (by rw[z];decide +kernel);omega
  simp[fR,l8,this]
theorem yc{c:de}(h:lK c):bP (iI c)=c:=by
 unfold iI;rw[Jo rfl rfl rfl rfl (fun ws hw=>by obtain⟨p,_,rfl⟩:=aD.mp hw;rfl) (fun ws hw=>by obtain⟨p,_,rfl⟩:=aD.mp hw;rfl) (fun ws hw=>by obtain⟨p,_,rfl⟩:=aD.mp hw;rfl)];simp only[List.drop_one,List.tail_cons];rw[HK h.t,HK h.b,aQ,aQ,aQ,bb (g:=id) fun p hp=>?_,bb (l:=c.bH) (g:=id) fun p hp=>?_,bb (l:=c.keeps) (g:=id) fun p hp=>?_,List.map_id,List.map_id,List.map_id]
 ·show(iJ (cY p.1),iJ (cY p.2.1),iJ (cY p.2.2))=p;rw[kT (h.k p hp).1,kT (h.k p hp).2.1,kT (h.k p hp).2.2]
 ·show(iJ (cY p.1),p.2)=p;rw[kT (h.e p hp).1]
 ·show(p.1,iJ (cY p.2))=p;rw[kT (h.w p hp).2]
theorem AY{l:List Str}{a:Str}(h:hd l=a)(n:a≠""):a::l.drop 1=l:=by
 cases l with
 | nil=>exact absurd h.symm n
 | cons b r=>subst h;rfl
theorem AJ{l:List Str}(h:∀w∈l,jL w):(l.map l8).map fR=l/\∀w,some w∈l.map l8->dA w:=by
 refine⟨?_,fun w hw=>?_⟩
 ·rw[aQ,bb (g:=id) fun x hx=>?_,List.map_id];show fR (l8 x)=x;unfold l8;split
  ·rename_i e;exact e.symm
  ·rfl
 ·obtain⟨x,hx,e⟩:=aD.mp hw;unfold l8 at e;split at e
  ·cases e
  ·cases e;exact(h w hx).resolve_left (by assumption)
theorem Q6{l0 l1 l2 l3:List Str}{W B K:List (List Str)}(e0:hd l0="top")(e1:hd l1="bottom")(e2:hd l2="left")(e3:hd l3="right")(hW:∀ws∈W,hd ws=sW)(hB:∀ws∈B,hd ws=sB)(hK:∀ws∈K,hd ws=sK)
  (p0:∀w∈l0.drop 1,jL w) (p1:∀w∈l1.drop 1,jL w) (p2:∀w∈l2.drop 1,dA w) (p3:∀w∈l3.drop 1,dA w) (pW:∀ws∈W,∃p,uY ws p) (pB:∀ws∈B,∃p,u3 ws p) (pK:∀ws∈K,∃p,uZ ws p) :
  iI (bP (l0::l1::l2::l3::(W++B++K)))=l0::l1::l2::l3::(W++B++K)/\lK (bP (l0::l1::l2::l3::(W++B++K))):=by
 rw[Jo e0 e1 e2 e3 hW hB hK];refine⟨?_,(AJ p0).2,(AJ p1).2,p2,p3,fun p hp=>?_,fun p hp=>?_,fun p hp=>?_⟩
 ·unfold iI;dsimp only;rw[(AJ p0).1,(AJ p1).1,AY e0 (by decide +kernel),AY e1 (by decide +kernel),AY e2 (by decide +kernel),AY e3 (by decide +kernel),aQ,aQ,aQ,bb (g:=id) fun ws hw=>?_,bb (l:=B) (g:=id) fun ws hw=>?_,bb (l:=K) (g:=id) fun ws hw=>?_,List.map_id,List.map_id,List.map_id]
  ·obtain⟨p,⟨a,rfl⟩,q1,q2,q3⟩:=pK ws hw;have:=hK _ hw;rw[CO] at this;subst this;show [sK,cY (iJ (cY p.1)),cY (iJ (cY p.2.1)),cY (iJ (cY p.2.2))]=_;rw[kT q1,kT q2,kT q3];rfl
  ·obtain⟨p,⟨a,rfl⟩,q1,q2⟩:=pB ws hw;have:=hB _ hw;rw[CO] at this;subst this;show [sB,cY (iJ (cY p.1)),p.2]=_;rw[kT q1];rfl
  ·obtain⟨p,⟨a,rfl⟩,q1,q2⟩:=pW ws hw;have:=hW _ hw;rw[CO] at this;subst this;show [sW,p.1,cY (iJ (cY p.2))]=_;rw[kT q2];rfl
 ·obtain⟨ws,hw,rfl⟩:=aD.mp hp;obtain⟨p,⟨a,rfl⟩,q1,q2⟩:=pW ws hw;exact⟨q1,show bT (iJ (cY p.2)) by rw[kT q2];exact q2⟩
 ·obtain⟨ws,hw,rfl⟩:=aD.mp hp;obtain⟨p,⟨a,rfl⟩,q1,q2⟩:=pB ws hw;exact⟨show bT (iJ (cY p.1)) by rw[kT q1];exact q1,q2⟩
 ·obtain⟨ws,hw,rfl⟩:=aD.mp hp;obtain⟨p,⟨a,rfl⟩,q1,q2,q3⟩:=pK ws hw;exact⟨show bT (iJ (cY p.1)) by rw[kT q1];exact q1,show bT (iJ (cY p.2.1)) by rw[kT q2];exact q2,show bT (iJ (cY p.2.2)) by rw[kT q3];exact q3⟩
end Wc
namespace Wc
open PySem L2 PyProof.Rows
end Wc
open PySem L2 PyProof.Rows Wc
local macro_rules | `(tactic| walk_at "px")=>`(tactic| (repeat(first | walk_at "b" | simp only[qP,zN,eY,uz,lT])))
namespace Wc
open PySem L2 PyProof.Rows
theorem PM(a b c:Nat):j6 (md a b c)=md a b c:=by
 have e1:(Str.ofString "bend"==Str.ofString "wide")=false:=by decide +kernel
 have e2:(Str.ofString "keep"==Str.ofString "wide")=false:=by decide +kernel
 have e3:(Str.ofString "wide"==Str.ofString "bend")=false:=by decide +kernel
 have e4:(Str.ofString "keep"==Str.ofString "bend")=false:=by decide +kernel
 have e5:(Str.ofString "wide"==Str.ofString "keep")=false:=by decide +kernel
 have e6:(Str.ofString "bend"==Str.ofString "keep")=false:=by decide +kernel
 have f1:(["top","bottom","left","right"]:List Str).count (Str.ofString "wide")=0:=by decide +kernel
 have f2:(["top","bottom","left","right"]:List Str).count (Str.ofString "bend")=0:=by decide +kernel
 have f3:(["top","bottom","left","right"]:List Str).count (Str.ofString "keep")=0:=by decide +kernel
 have h:∀x:Str,(md a b c).count x=(["top","bottom","left","right"]:List Str).count x+(if Str.ofString "wide"==x then a else 0)+(if Str.ofString "bend"==x then b else 0)+(if Str.ofString "keep"==x then c else 0):=fun x=>by
  unfold md;simp only[List.count_append,List.count_replicate]
 unfold j6;rw[h,h,h,f1,f2,f3];simp only[e1,e2,e3,e4,e5,e6,beq_self_eq_true,if_true,aR,if_false,Nat.zero_add,Nat.add_zero]
structure Good (L:List (List Str)):Prop where
 h:L.map hd=j6 (L.map hd)
 p0:∀w∈(L.getD 0 []).drop 1,jL w
 p1:∀w∈(L.getD 1 []).drop 1,jL w
 p2:∀w∈(L.getD 2 []).drop 1,dA w
 p3:∀w∈(L.getD 3 []).drop 1,dA w
 pW:∀ws∈L,hd ws=sW->∃p,uY ws p
 pB:∀ws∈L,hd ws=sB->∃p,u3 ws p
 pK:∀ws∈L,hd ws=sK->∃p,uZ ws p
theorem Pt(c:de):(iI c).map hd=md c.wide.length c.bH.length c.keeps.length:=by
 simp[iI,md,List.map_const',Function.comp_def,hd]
theorem AZ{c:de}(h:lK c):Good (iI c):=by
 obtain⟨⟨d1,d2,d3⟩,⟨d4,d5,d6⟩,d⟩:=KN;have pw:∀{l:List (Option Str)},(∀w,some w∈l->dA w)->∀w∈l.map fR,jL w:=fun{l} hl w hw=>by
  obtain⟨x,hx,rfl⟩:=aD.mp hw;cases x with
  | none=>exact .inl rfl
  | some v=>exact .inr (hl v hx)
 refine⟨by rw[Pt,PM],pw h.t,pw h.b,h.l,h.r,fun ws hw e=>?_,fun ws hw e=>?_,fun ws hw e=>?_⟩ <;>
 ·simp only[iI,af,au,aD] at hw;rcases hw with rfl | rfl | rfl | rfl | (⟨p,hp,rfl⟩ | ⟨p,hp,rfl⟩) | ⟨p,hp,rfl⟩<;>first
  | exact⟨p,⟨_,rfl⟩,h.w p hp⟩
  | exact⟨p,⟨_,rfl⟩,h.e p hp⟩
  | exact⟨p,⟨_,rfl⟩,h.k p hp⟩
  | exact absurd e (d _ (.inl rfl)).1
  | exact absurd e (d _ (.inl rfl)).2.1
  | exact absurd e (d _ (.inl rfl)).2.2
  | exact absurd e (d _ (.inr (.inl rfl))).1
  | exact absurd e (d _ (.inr (.inl rfl))).2.1
  | exact absurd e (d _ (.inr (.inl rfl))).2.2
  | exact absurd e (d _ (.inr (.inr (.inl rfl)))).1
  | exact absurd e (d _ (.inr (.inr (.inl rfl)))).2.1
  | exact absurd e (d _ (.inr (.inr (.inl rfl)))).2.2
  | exact absurd e (d _ (.inr (.inr (.inr rfl)))).1
  | exact absurd e (d _ (.inr (.inr (.inr rfl)))).2.1
  | exact absurd e (d _ (.inr (.inr (.inr rfl)))).2.2
  | exact absurd e d1 | exact absurd e d2 | exact absurd e d3 | exact absurd e d4 | exact absurd e d5 | exact absurd e d6
theorem PL{L:List (List Str)}(h:Good L):iI (bP L)=L/\lK (bP L):=by
 obtain⟨l0,l1,l2,l3,W,B,K,rfl,e0,e1,e2,e3,hW,hB,hK⟩:=DP h.h;exact Q6 e0 e1 e2 e3 hW hB hK h.p0 h.p1 h.p2 h.p3 (fun ws hw=>h.pW ws (by simp[hw]) (hW ws hw)) (fun ws hw=>h.pB ws (by simp[hw]) (hB ws hw)) (fun ws hw=>h.pK ws (by simp[hw]) (hK ws hw))
theorem HJ{L:List (List Str)}(h:L.map hd=j6 (L.map hd)):∃l0 l1 l2 l3 r,L=l0::l1::l2::l3::r:=by
 obtain⟨l0,l1,l2,l3,W,B,K,rfl,_⟩:=DP h;exact⟨_,_,_,_,_,rfl⟩
end Wc
namespace Wc
open PySem L2 PyProof.Rows
def v7:eO:=fun ds Q=>∃a b c d e f g:List D,ds=[.lst a,.lst b,.lst c,.lst d,.lst e,.lst f,.lst g]/\Q (.fz (.obj "Channel" [("top",.lst a),("bottom",.lst b),("left",.lst c),("right",.lst d),("wide",.lst e),("bends",.lst f),("keeps",.lst g)]))
def AX:vq:=(rP "top" (dF lT (bx (br 1) bD)) (rP "bottom" (dF lT (bx (br 2) bD)) (rP "left" (dF lT (bx (br 3) bD)) (rP "right" (dF lT (bx (br 4) bD)) (rP "wide" (dF lT (bx (br 5) bD)) (rP "bends" (dF lT (bx (br 6) bD)) (rP "keeps" (dF lT (bx (br 7) bD)) B9)))))))
theorem Rq(ds:List D)(Qr:R->Prop)(NA:List (Str×D)->Prop)(na:∀fs:List (Str×D),fs.map (·.1)=(["top","bottom","left","right","wide","bends","keeps"]:List Str)->NA fs)(h:v7 ds Qr) :
  AX (tH ["self","top","bottom","left","right","wide","bends","keeps"] ds) [] fun fs=>NA fs/\Qr (.fz (.obj "Channel" fs)):=by
 obtain⟨a,b,c,d,e,f,g,rfl,q⟩:=h;show AX [.un,.fz (.lst a),.fz (.lst b),.fz (.lst c),.fz (.lst d),.fz (.lst e),.fz (.lst f),.fz (.lst g)] [] _;unfold AX;simp only[rP,B9,dF,bx,bD,br,gt,lT,xr,CI];exact⟨by decide,show 1<1000 by decide,show 2<1000 by decide,show 3<1000 by decide,show 4<1000 by decide,show 5<1000 by decide,show 6<1000 by decide,na _ rfl,q⟩
def BV(L:List (List Str)):Prop:=L.length<=200/\∀l∈L,BW l
def qY:k9:=fun ds Q Qx=>∃t:Str,ds=[.str t]/\t.length<=1000000/\BV (oO t)/\(∀c,oO t=iI c->lK c->kQ c->Q (.fz c.obj))/\((∀c,oO t=iI c->lK c->¬kQ c)->Qx)
theorem Pr{t:Str}:∀ws∈oO t,ws≠[]:=fun ws h=>by
 unfold oO at h;rw[List.mem_filter] at h;simpa using h.2
theorem tE{ws:List Str}(h:ws≠[]):du ws 0=some (hd ws):=by
 cases ws with
 | nil=>exact absurd rfl h
 | cons a r=>simp[HR,hd]
theorem BO(a b c' d:List Str)(r:List (List Str)):du (a::b::c'::d::r) 0=some a/\du (a::b::c'::d::r) 1=some b/\du (a::b::c'::d::r) 2=some c'/\du (a::b::c'::d::r) 3=some d:=
 ⟨mh (j:=0) (by simp),mh (j:=1) (by simp),mh (j:=2) (by simp),mh (j:=3) (by simp)⟩
theorem NN{L:List (List Str)}(h:BV L):Sz (bP L):=by
 have g:∀k,(L.getD k []).length<=100:=fun k=>by
  rw[aE];cases e:L[k]? with
  | none=>simp
  | some l=>exact(h.2 l (ah e)).1
 have f:∀{β:Type} (f:List Str->Option β),(L.filterMap f).length<=200:=fun f=>aY (List.length_filterMap_le f L) h.1
 refine⟨?_,?_,?_,?_,f _,f _,f _⟩<;>simp only[bP,aa,aL]
 ·have:=g 0;omega
 ·have:=g 1;omega
 ·have:=g 2;omega
 ·have:=g 3;omega
theorem K2{ws:List Str}{p:Str×Int}(h:uY ws p):mi ws=p:=by
 obtain⟨⟨a,rfl⟩,_,h2⟩:=h;show(p.1,iJ (cY p.2))=p;rw[kT h2]
theorem KZ{ws:List Str}{p:Int×Str}(h:u3 ws p):ot ws=p:=by
 obtain⟨⟨a,rfl⟩,h2,_⟩:=h;show(iJ (cY p.1),p.2)=p;rw[kT h2]
theorem LP{ws:List Str}{p:Int×Int×Int}(h:uZ ws p):rm ws=p:=by
 obtain⟨⟨a,rfl⟩,h1,h2,h3⟩:=h;show(iJ (cY p.1),iJ (cY p.2.1),iJ (cY p.2.2))=p;rw[kT h1,kT h2,kT h3]
def Bh(Qx:Prop):TX:=(bQ (dX 1 (fq 1 wq (bx (br 0) bD)))
 (bQ (kB (eY 1 yo Qx (bx (eG (gh (br 1)) [none] (cM 0) iE (bB cD (br 0) (dC (.int 0)))) bD)))
 (bQ (dX 2 (fq 7 v7 (bx (eY 1 wm Qx (bx (fZ (bB cD (br 1) (dC (.int 0))) (fv (dC (.int 1))) gN) bD)) (bx (eY 1 wm Qx (bx (fZ (bB cD (br 1) (dC (.int 1))) (fv (dC (.int 1))) gN) bD)) (bx (eY 1 wb Qx (bx (fZ (bB cD (br 1) (dC (.int 2))) (fv (dC (.int 1))) gN) bD)) (bx (eY 1 wb Qx (bx (fZ (bB cD (br 1) (dC (.int 3))) (fv (dC (.int 1))) gN) bD)) (bx (eG (gh (br 1)) [none] (cM 0) (dh (bB oEq (bB cD (br 0) (dC (.int 0))) (dC (.str "wide")))) (eY 1 yr Qx (bx (br 0) bD))) (bx (eG (gh (br 1)) [none] (cM 0) (dh (bB oEq (bB cD (br 0) (dC (.int 0))) (dC (.str "bend")))) (eY 1 yq Qx (bx (br 0) bD))) (bx (eG (gh (br 1)) [none] (cM 0) (dh (bB oEq (bB cD (br 0) (dC (.int 0))) (dC (.str "keep")))) (eY 1 yp Qx (bx (br 0) bD))) bD)))))))))
 (bQ (kB (eY 1 yn Qx (bx (br 2) bD)))
 (eX (br 2))))))
theorem S4(ds:List D)(Qr:R->Prop)(Qx:Prop)(hl:ds.length=1)(h:qY ds Qr Qx):Bh Qx { nx:=fun _=>Qr (.fz .non),rt:=Qr } (kD ["text","lines","channel"] ds):=by
 obtain⟨t,rfl,ht,hs,q,qx⟩:=h;show Bh Qx _ [.fz (.str t),.un,.un];unfold Bh;have big:=iq;have ne:=Pr (t:=t);walk_at "px";refine⟨t,rfl,ht,?_⟩;walk_at "go";generalize oO t=L at hs q qx ne ⊢;have sz:=NN hs;obtain⟨ll,hs⟩:=hs;have bad:¬Good L->Qx:=fun z=>qx fun c e nm=>absurd (by rw[e];exact AZ nm) z
 refine lx L dS (fun ws=>.str (hd ws)) (fun Q' h=>?_) (by omega) (fun ws hw K1 k=>?_) ?_
 ·walk_at "px";exact h
 ·unfold dS;walk_at "px";exact⟨_,tE (ne ws hw),k⟩
 refine⟨L.map hd,by unfold dS;rw[aQ];rfl,by rw[aa];omega,fun hh=>?_,fun z=>bad fun y=>z y.h⟩;walk_at "go";obtain⟨l0,l1,l2,l3,r,hL⟩:=HJ hh;obtain⟨a0,a1,a2,a3⟩:=BO l0 l1 l2 l3 r;rw[<-hL] at a0 a1 a2 a3;have sQ:∀l:List Str,D.lst (gL (l.map D.str) (some 1) none)=dS (l.drop 1):=fun l=>by rw[oP _ (by decide),<-List.map_drop];rfl
 have dl:∀l∈L,(l.drop 1).length<=100/\∀w∈l.drop 1,w.length<=1000:=fun l hl=>⟨by have:=(hs l hl).1;rw[aL];omega,fun w hw=>(hs l hl).2 w (List.mem_of_mem_drop hw)⟩
 have g0:L.getD 0 []=l0:=by rw[hL];rfl
 have g1:L.getD 1 []=l1:=by rw[hL];rfl
 have g2:L.getD 2 []=l2:=by rw[hL];rfl
 have g3:L.getD 3 []=l3:=by rw[hL];rfl
 have pn:∀l:List Str,l.map vN=(l.map l8).map dO:=fun l=>by
  rw[aQ];refine bb fun w _=>?_
  show vN w=dO (l8 w);unfold vN l8;split<;>rfl
 refine⟨_,a0,?_⟩;unfold dS;dsimp only;rw[sQ];refine⟨_,rfl,(dl l0 (by rw[hL];simp)).1,(dl l0 (by rw[hL];simp)).2,fun p0=>?_,fun z=>bad fun y=>z (by rw[<-g0];exact y.p0)⟩;refine⟨_,a1,?_⟩;rw[sQ];refine⟨_,rfl,(dl l1 (by rw[hL];simp)).1,(dl l1 (by rw[hL];simp)).2,fun p1=>?_,fun z=>bad fun y=>z (by rw[<-g1];exact y.p1)⟩;refine⟨_,a2,?_⟩;rw[sQ];refine⟨_,rfl,(dl l2 (by rw[hL];simp)).1,(dl l2 (by rw[hL];simp)).2,fun p2=>?_,fun z=>bad fun y=>z (by rw[<-g2];exact y.p2)⟩;refine⟨_,a3,?_⟩;rw[sQ];refine⟨_,rfl,(dl l3 (by rw[hL];simp)).1,(dl l3 (by rw[hL];simp)).2,fun p3=>?_,fun z=>bad fun y=>z (by rw[<-g3];exact y.p3)⟩;refine AS L dS (fun ws=>(fH sW mi ws).map k6) (fun ws=>hd ws=sW->∃p,uY ws p) (fun Q' h=>?_) (by omega) (fun ws hw K1 K0 k1 k0=>?_) fun gW=>?_
 ·walk_at "px";exact h
 ·have zu:=tE (ne ws hw);have ln:=hs ws hw;unfold dS;walk_at "px";refine⟨_,zu,?_⟩;by_cases hh:hd ws=sW
  ·rw[if_pos (show hd ws=Str.ofString "wide" from hh)];refine⟨ws,rfl,ln,fun p hp=>k1 (fun _=>⟨p,hp⟩) _ ?_,fun z=>bad fun y=>?_⟩
   ·rw[rS hh,K2 hp];rfl
   ·obtain⟨p,hp⟩:=y.pW ws hw hh;exact z p hp
  ·rw[if_neg (show ¬hd ws=Str.ofString "wide" from hh)];exact k0 (fun z=>absurd z hh) (by rw[oM hh];rfl)
 rw[show L.filterMap (fun ws=>(fH sW mi ws).map k6)=(bP L).wide.map k6 by unfold bP;rw[List.map_filterMap]];refine AS L dS (fun ws=>(fH sB ot ws).map jg) (fun ws=>hd ws=sB->∃p,u3 ws p) (fun Q' h=>?_) (by omega) (fun ws hw K1 K0 k1 k0=>?_) fun gB=>?_
 ·walk_at "px";exact h
 ·have zu:=tE (ne ws hw);have ln:=hs ws hw;unfold dS;walk_at "px";refine⟨_,zu,?_⟩;by_cases hh:hd ws=sB
  ·rw[if_pos (show hd ws=Str.ofString "bend" from hh)];refine⟨ws,rfl,ln,fun p hp=>k1 (fun _=>⟨p,hp⟩) _ ?_,fun z=>bad fun y=>?_⟩
   ·rw[rS hh,KZ hp];rfl
   ·obtain⟨p,hp⟩:=y.pB ws hw hh;exact z p hp
  ·rw[if_neg (show ¬hd ws=Str.ofString "bend" from hh)];exact k0 (fun z=>absurd z hh) (by rw[oM hh];rfl)
 rw[show L.filterMap (fun ws=>(fH sB ot ws).map jg)=(bP L).bH.map jg by unfold bP;rw[List.map_filterMap]];refine AS L dS (fun ws=>(fH sK rm ws).map my) (fun ws=>hd ws=sK->∃p,uZ ws p) (fun Q' h=>?_) (by omega) (fun ws hw K1 K0 k1 k0=>?_) fun gK=>?_
 ·walk_at "px";exact h
 ·have zu:=tE (ne ws hw);have ln:=hs ws hw;unfold dS;walk_at "px";refine⟨_,zu,?_⟩;by_cases hh:hd ws=sK
  ·rw[if_pos (show hd ws=Str.ofString "keep" from hh)];refine⟨ws,rfl,ln,fun p hp=>k1 (fun _=>⟨p,hp⟩) _ ?_,fun z=>bad fun y=>?_⟩
   ·rw[rS hh,LP hp];rfl
   ·obtain⟨p,hp⟩:=y.pK ws hw hh;exact z p hp
  ·rw[if_neg (show ¬hd ws=Str.ofString "keep" from hh)];exact k0 (fun z=>absurd z hh) (by rw[oM hh];rfl)
 rw[show L.filterMap (fun ws=>(fH sK rm ws).map my)=(bP L).keeps.map my by unfold bP;rw[List.map_filterMap]];have gd:Good L:=⟨hh,by rw[g0];exact p0,by rw[g1];exact p1,by rw[g2];exact p2,by rw[g3];exact p3,gW,gB,gK⟩
 obtain⟨lc,nm⟩:=PL gd;rw[pn,pn];refine⟨_,_,_,_,_,_,_,rfl,?_⟩;walk_at "go";have eo:bP L=⟨(l0.drop 1).map l8,(l1.drop 1).map l8,l2.drop 1,l3.drop 1,(bP L).wide,(bP L).bH,(bP L).keeps⟩:=by
  rw[<-g0,<-g1,<-g2,<-g3];rfl
 refine⟨bP L,?_,sz,fun ok=>?_,fun z=>qx fun c e n ok=>?_⟩
 ·rw[eo];rfl
 ·walk_at "go";have:=q (bP L) lc.symm nm ok;rw[eo] at this;exact this
 ·subst e;rw[yc n] at z;exact z ok
end Wc
namespace Wc
open PySem L2 PyProof.Rows
def lN(L:List (List Str)):Prop:=∀c,L=iI c->lK c->¬kQ c
theorem uI{L:List (List Str)}(h:¬Good L):lN L:=fun c e nm _=>h (by rw[e];exact AZ nm)
theorem xx{L:List (List Str)}(h:Good L->lK (bP L)->¬kQ (bP L)):lN L:=fun c e nm ls=>by
 have:=h (by rw[e];exact AZ nm);rw[e,yc nm] at this;exact this nm ls
noncomputable def F4:List Str:=["top","bottom","left","right"]
theorem wW{L:List (List Str)}(h:Good L){s:Str}(hs:s∈F4):(L.map hd).count s=1:=by
 rw[h.h];unfold j6 md;have key:∀s∈F4,F4.count s=1/\(Str.ofString "wide"==s)=false/\(Str.ofString "bend"==s)=false/\(Str.ofString "keep"==s)=false:=by decide +kernel
 obtain⟨k1,k2,k3,k4⟩:=key s hs;rw[List.count_append,List.count_append,List.count_append,List.count_replicate,List.count_replicate,List.count_replicate,k2,k3,k4];exact k1
theorem UD{L:List (List Str)}(h:Good L){ws:List Str}(hw:ws∈L):hd ws∈F4\/hd ws=sW\/hd ws=sB\/hd ws=sK:=by
 have:hd ws∈L.map hd:=bh hw;rw[h.h] at this;unfold j6 md at this;rw[au,au,au] at this;rcases this with((z | z) | z) | z
 ·exact .inl z
 ·exact .inr (.inl (List.eq_of_mem_replicate z))
 ·exact .inr (.inr (.inl (List.eq_of_mem_replicate z)))
 ·exact .inr (.inr (.inr (List.eq_of_mem_replicate z)))
def Gd(x:List Str):Prop:=(hd x∉F4/\hd x≠sW/\hd x≠sB/\hd x≠sK)\/(hd x=sW/\∀p,¬uY x p)\/(hd x=sB/\∀p,¬u3 x p)\/(hd x=sK/\∀p,¬uZ x p)
theorem CM{L:List (List Str)}{x:List Str}(hx:x∈L)(h:Gd x):lN L:=uI fun g=>by
 rcases h with⟨h1,h2,h3,h4⟩ | ⟨h1,h2⟩ | ⟨h1,h2⟩ | ⟨h1,h2⟩
 ·rcases UD g hx with z | z | z | z
  ·exact h1 z
  ·exact h2 z
  ·exact h3 z
  ·exact h4 z
 ·obtain⟨p,hp⟩:=g.pW x hx h1;exact h2 p hp
 ·obtain⟨p,hp⟩:=g.pB x hx h1;exact h2 p hp
 ·obtain⟨p,hp⟩:=g.pK x hx h1;exact h2 p hp
theorem HI{L:List (List Str)}(h:Good L){x:List Str}(hx:hd x∈F4)(k:Nat):lN (L.take k++[x]++L.drop k):=uI fun g=>by
 have e1:=wW h hx;have e2:=wW g hx;rw[<-List.take_append_drop k L] at e1;simp only[aq,List.count_append,aj,bg,List.count_cons_self,List.count_nil] at e1 e2;omega
theorem Pq{A B:List (List Str)}{x:List Str}(h:Good (A++x::B))(hx:hd x∈F4):lN (A++B):=uI fun g=>by
 have e1:=wW h hx;have e2:=wW g hx;simp only[aq,List.count_append,aj,List.count_cons_self] at e1 e2;omega
theorem yP{α:Type}{L:List α}{k:Nat}{x:α}(h:L[k]?=some x):L.drop k=x::L.drop (k+1)/\L=L.take k++x::L.drop (k+1):=by
 obtain⟨hk,rfl⟩:=ao.mp h;have e:=List.drop_eq_getElem_cons hk;exact⟨e,by rw[<-e,List.take_append_drop]⟩
theorem NM:lN []:=uI fun g=>by
 have:=wW g (s:="top") (by decide +kernel);simp at this
theorem Af{β:Type}{A B:List (List Str)}{x y:List Str}{s:Str}(g:List Str->β)(hx:hd x=s)(hy:hd y=s):(A++x::y::B).filterMap (fH s g)=A.filterMap (fH s g)++g x::g y::B.filterMap (fH s g):=by
 rw[List.filterMap_append,aV,rS hx,aV,rS hy]
theorem Ae{α β:Type}{r:β->β->Prop}{f:α->β}{A B:List α}{x y:α}(h:((A++x::y::B).map f).Pairwise r):r (f x) (f y):=by
 rw[aq,List.pairwise_append] at h;exact(List.pairwise_cons.mp h.2.1).1 _ (by simp)
theorem AI{a:Str}(h:iC a a):False:=List.lt_irrefl _ (jn.mp h)
theorem HH{A B:List (List Str)}{x y:List Str}(hx:hd x=sW)(hy:hd y=sW)(h:¬iC (mi x).1 (mi y).1):lN (A++x::y::B):=xx fun _ _ ls=>h (by
 have:=ls.wo;unfold bP at this;dsimp only at this;rw[Af mi hx hy] at this;exact Ae this)
theorem HG{A B:List (List Str)}{x y:List Str}(hx:hd x=sB)(hy:hd y=sB)(h:¬(ot x).1<(ot y).1):lN (A++x::y::B):=xx fun _ _ ls=>h (by
 have:=ls.eo;unfold bP at this;dsimp only at this;rw[Af ot hx hy] at this;exact Ae this)
theorem NL{L:List (List Str)}{x:List Str}(hm:x∈L)(hx:hd x=sW)(h:(mi x).2≠2/\(mi x).2≠3):lN L:=xx fun _ _ ls=>by
 have:mi x∈(bP L).wide:=List.mem_filterMap.mpr ⟨x,hm,rS hx⟩;rcases ls.wu _ this with z | z
 ·exact h.1 z
 ·exact h.2 z
theorem Pp{l m:List Str}(h:l.Perm m):j6 l=j6 m:=by
 unfold j6;rw[h.count_eq,h.count_eq,h.count_eq]
theorem Po{A B:List (List Str)}{x y:List Str}(g:Good (A++x::y::B))(ls:kQ (bP (A++x::y::B)))(h:hd x≠hd y\/hd x=sW\/hd x=sB):lN (A++y::x::B):=by
 by_cases e:hd x=hd y
 ·rcases h with z | z | z
  ·exact absurd e z
  ·refine HH (e▸z) z fun lt=>?_
   have:=ls.wo;unfold bP at this;dsimp only at this;rw[Af mi z (e▸z)] at this;exact AI (CA lt (Ae this))
  ·refine HG (e▸z) z fun lt=>?_
   have:=ls.eo;unfold bP at this;dsimp only at this;rw[Af ot z (e▸z)] at this;have:=Ae this;omega
 ·refine uI fun g2=>e ?_
  have p:((A++y::x::B).map hd).Perm ((A++x::y::B).map hd):=((List.Perm.swap x y B).append_left A).map hd;have:=g2.h;rw[Pp p,<-g.h] at this;simp only[aq,aj,List.append_cancel_left_eq,List.cons.injEq] at this;exact this.2.1
end Wc
namespace Wc
open PySem L2 PyProof.Rows
theorem vz{L:List (List Str)}{k:Nat}{x:List Str}(g:Good L)(h:L[k]?=some x):(k<4/\hd x=F4.getD k "")\/(4<=k/\(hd x=sW\/hd x=sB\/hd x=sK)):=by
 obtain⟨l0,l1,l2,l3,W,B,K,rfl,e0,e1,e2,e3,hW,hB,hK⟩:=DP g.h;match k,h with
 | 0,h=>cases h;exact .inl ⟨by omega,e0⟩
 | 1,h=>cases h;exact .inl ⟨by omega,e1⟩
 | 2,h=>cases h;exact .inl ⟨by omega,e2⟩
 | 3,h=>cases h;exact .inl ⟨by omega,e3⟩
 | k+4,h=>
  simp only[List.getElem?_cons_succ] at h;refine .inr ⟨by omega,?_⟩;rcases au.mp (ah h) with z | z
  ·rcases au.mp z with z | z
   ·exact .inl (hW x z)
   ·exact .inr (.inl (hB x z))
  ·exact .inr (.inr (hK x z))
theorem NK{α:Type}{L:List α}{k:Nat}{x:α}(h:L[k]?=some x)(y:α):L.take k++[y]++L.drop (k+1)=L.set k y:=by
 rw[List.set_eq_take_append_cons_drop,if_pos (ao.mp h).1,List.append_assoc];rfl
theorem tM{L:List (List Str)}{k j:Nat}{x y:List Str}(h:L[k]?=some x):(L.set k y).getD j []=if k=j then y else L.getD j []:=by
 have hk:=(ao.mp h).1;rw[aE,List.getElem?_set];split
 ·rename_i e;subst e;rfl
 ·rw[aE]
theorem Hk{L:List (List Str)}{k:Nat}{x y:List Str}(ls:kQ (bP L))(h:L[k]?=some x)(hk:k=0\/k=1)(hn:y.length-1≠x.length-1):lN (L.set k y):=xx fun _ _ l2=>by
 have e1:=ls.tb;have e2:=l2.tb;have gx:L.getD k []=x:=by rw[aE,h];rfl
 simp only[bP,aa,aL] at e1 e2;rw[tM h,tM h] at e2;rcases hk with rfl | rfl
 ·rw[gx] at e1;rw[if_pos rfl,if_neg (by decide)] at e2;omega
 ·rw[gx] at e1;rw[if_neg (by decide),if_pos rfl] at e2;omega
theorem Hj{L:List (List Str)}{k:Nat}{x y:List Str}(h:L[k]?=some x)(hk:k=2\/k=3)(hn:¬(y.drop 1).Pairwise iC):lN (L.set k y):=xx fun _ _ l2=>by
 rcases hk with rfl | rfl
 ·have e:=l2.lo;simp only[bP] at e;rw[tM h,if_pos rfl] at e;exact hn e
 ·have e:=l2.ro;simp only[bP] at e;rw[tM h,if_pos rfl] at e;exact hn e
theorem Hi{L:List (List Str)}{k:Nat}{x y:List Str}{w:Str}(h:L[k]?=some x)(hk:k=0\/k=1)(hw:w∈y.drop 1)(hn:¬jL w):lN (L.set k y):=uI fun g=>by
 rcases hk with rfl | rfl
 ·exact hn (g.p0 w (by rw[tM h,if_pos rfl];exact hw))
 ·exact hn (g.p1 w (by rw[tM h,if_pos rfl];exact hw))
theorem Gv{L:List (List Str)}{k:Nat}{x y:List Str}{w:Str}(h:L[k]?=some x)(hk:k=2\/k=3)(hw:w∈y.drop 1)(hn:¬dA w):lN (L.set k y):=uI fun g=>by
 rcases hk with rfl | rfl
 ·exact hn (g.p2 w (by rw[tM h,if_pos rfl];exact hw))
 ·exact hn (g.p3 w (by rw[tM h,if_pos rfl];exact hw))
noncomputable def tf:List Str:=["A","abcdefg","a1","..","a-b","7","."]
theorem xi:∀w∈tf,¬dA w:=by
 unfold dA;decide +kernel
theorem Gu{w:Str}(h:w∈tf)(h2:w≠"."):¬jL w:=fun z=>z.elim h2 (xi w h)
theorem LO:∀w∈(["100","-1","x","1x","+2"]:List Str),¬vA w:=by
 have key:∀w∈(["100","-1","x","1x","+2"]:List Str),¬(w.length<=2/\w.cps.toList.all (lD "0123456789")=true):=by decide +kernel
 exact fun w hw ⟨i,hi,e⟩=>key w hw (by rw[e];exact⟨(qX i hi).2.1,(qX i hi).2.2.1⟩)
theorem NJ{w:Str}(hw:1<=w.length):¬vA ("0"++w):=fun⟨i,hi,e⟩=>by
 obtain⟨_,f2,_,⟨c,a1,a2⟩,_⟩:=qX i hi;rw[<-e] at a1 a2;have e1:(Str.ofString "0"++w).length=1+w.length:=by rw[AK];rfl
 have c0:c=48:=by
  have:∃t,(Str.ofString "0"++w).cps.toList=48::t:=⟨w.cps.toList,by show((Str.ofString "0").cps++w.cps).toList=_;rw[Array.toList_append];rfl⟩
  obtain⟨t,ht⟩:=this;rw[ht,HR] at a1;simpa using a1.symm
 exact(a2.resolve_left (by omega)) c0
end Wc
namespace Wc
open PySem L2 PyProof.Rows
end Wc
open PySem L2 PyProof.Rows Wc
local macro_rules | `(tactic| walk_at "px")=>`(tactic| (repeat(first | walk_at "b" | simp only[eY,uz])))
namespace Wc
open PySem L2 PyProof.Rows
def mP(l:List Str):Prop:=tG l/\l≠[]/\∀w∈l,lI w
theorem PK(c:de):∀ws∈iI c,ws≠[]:=by
 intro ws h;simp only[iI,af,au,aD] at h;rcases h with rfl | rfl | rfl | rfl | (⟨p,_,rfl⟩ | ⟨p,_,rfl⟩) | ⟨p,_,rfl⟩<;>simp
theorem xh{w:Str}(h:dA w):lI w:=by
 refine⟨fun z=>?_,fun z=>?_,fun z=>?_⟩
 ·have:=Ag w;rw[z] at this;have:=h.1.1;simp at *;omega
 ·have:=h.2 32 z;omega
 ·have:=h.2 10 z;omega
theorem HF{ps:List Str}{c:de}(hc:mF ps c):∀l∈iI c,mP l:=by
 intro l hl;refine⟨(HL hc.any).2 l hl,PK c l hl,?_⟩;have hp:∀(m:List (Option Str)),fh ps m->∀x∈m,lI (fR x):=fun m hm x hx=>by
  cases x with
  | none=>exact(by decide +kernel:(Str.ofString ".").cps.toList≠[]/\32∉(Str.ofString ".").cps.toList/\10∉(Str.ofString ".").cps.toList)
  | some w=>exact xh (hc.pn w (hm w hx))
 have hh:∀s:String,((Str.ofString s).cps.toList≠[]/\32∉(Str.ofString s).cps.toList/\10∉(Str.ofString s).cps.toList)->lI (Str.ofString s):=fun s h=>h
 have w1:=hh "top" (by decide +kernel);have w2:=hh "bottom" (by decide +kernel);have w3:=hh "left" (by decide +kernel);have w4:=hh "right" (by decide +kernel);have w5:=hh "wide" (by decide +kernel);have w6:=hh "bend" (by decide +kernel);have w7:=hh "keep" (by decide +kernel);have nn:∀i,bT i->lI (cY i):=fun i h=>(qX i h).2.2.2.2
 simp only[iI,af,au,aD] at hl;rcases hl with rfl | rfl | rfl | rfl | (⟨p,u9,rfl⟩ | ⟨p,u9,rfl⟩) | ⟨p,u9,rfl⟩<;>intro w hw
 ·rcases af.mp hw with rfl | hw
  ·exact w1
  ·obtain⟨x,hx,rfl⟩:=aD.mp hw;exact hp _ hc.pt x hx
 ·rcases af.mp hw with rfl | hw
  ·exact w2
  ·obtain⟨x,hx,rfl⟩:=aD.mp hw;exact hp _ hc.pb x hx
 ·rcases af.mp hw with rfl | hw
  ·exact w3
  ·exact xh (hc.pn w (hc.pL w hw))
 ·rcases af.mp hw with rfl | hw
  ·exact w4
  ·exact xh (hc.pn w (hc.pR w hw))
 ·simp only[af,aH,or_false] at hw;rcases hw with rfl | rfl | rfl
  ·exact w5
  ·exact xh (hc.pn _ (hc.pW p u9))
  ·exact nn _ (hc.any.ws p u9).2
 ·simp only[af,aH,or_false] at hw;rcases hw with rfl | rfl | rfl
  ·exact w6
  ·exact nn _ (hc.any.es p u9).1
  ·exact xh (hc.pn _ (hc.pE p u9))
 ·simp only[af,aH,or_false] at hw;have:=hc.any.ks p u9;rcases hw with rfl | rfl | rfl | rfl
  ·exact w7
  ·exact nn _ this.1
  ·exact nn _ this.2.1
  ·exact nn _ this.2.2
theorem Pn(l:List Str):cp (Txt.join (Str.ofString "") l)=(l.map cp).flatten:=by
 cases l with
 | nil=>decide +kernel
 | cons a r=>
  have e:(Str.ofString "").cps.toList=[]:=by decide +kernel
  unfold cp;rw[Dm,e];simp
theorem Jn:∀(ls:List (List Str)),(∀l∈ls,mP l)->pU ((ls.map fun ws=>cp (Txt.join " " ws++"\n")).flatten)=ls.map (·.map cp)
 | [],_=>rfl
 | l::r,h=>by
  have hl:=h l (by simp);have hw:∀w∈l.map cp,Wd w:=fun w hw=>by
   obtain⟨s,hs,rfl⟩:=aD.mp hw;exact hl.2.2 s hs
  have e:cp (Txt.join (Str.ofString " ") l)=oN 32 (l.map cp):=by rw[Dl];exact Dz 32 l
  rw[aj,List.flatten_cons,GB,M8,e,List.append_assoc,List.singleton_append,Q7,Rc (IQ _ hw) (by rw[DJ _ hw];simpa using hl.2.1),DJ _ hw,Jn r fun x hx=>h x (by simp[hx])];rfl
theorem Ra{ls:List (List Str)}(h:∀l∈ls,mP l):pU (cp (tF ls))=ls.map (·.map cp):=by
 unfold tF;rw[Pn,aQ];exact Jn ls h
theorem IJ{ls:List (List Str)}(h1:ls.length<=100)(h:∀l∈ls,mP l):(tF ls).length<=400000:=by
 have h2:=HN (Str.ofString "") (ls.map fun ws=>Txt.join " " ws++"\n");have h3:=CS (l:=ls.map fun ws=>Txt.join " " ws++"\n") (B:=401) fun w hw=>by
  obtain⟨l,hl,rfl⟩:=aD.mp hw;exact Dk (h l hl).1
 have e:(Str.ofString "").length=0:=by decide +kernel
 rw[e] at h2;rw[aa] at h3;unfold tF;omega
theorem Pl{t:Str}{ls:List (List Str)}(h:pU (cp t)=ls.map (·.map cp)):oO t=ls:=Jz (by rw[PR,h])
theorem Pk{ps:List Str}{c:de}(hc:mF ps c):∀w∈gV c,w∈ps:=fun w hw=>by
 simp only[gV,au,List.mem_filterMap,aD,id] at hw;rcases hw with((⟨x,hx | hx,rfl⟩ | hx | hx) | ⟨p,hp,rfl⟩) | ⟨p,hp,rfl⟩
 ·exact hc.pt w hx
 ·exact hc.pb w hx
 ·exact hc.pL w hx
 ·exact hc.pR w hx
 ·exact hc.pW p hp
 ·exact hc.pE p hp
theorem GX{ps:List Str}{c:de}(hc:mF ps c):lK c/\kQ c:=by
 refine⟨⟨fun w hw=>hc.pn w (hc.pt w hw),fun w hw=>hc.pn w (hc.pb w hw),fun w hw=>hc.pn w (hc.pL w hw),fun w hw=>hc.pn w (hc.pR w hw),fun p hp=>⟨hc.pn _ (hc.pW p hp),(hc.any.ws p hp).2⟩,fun p hp=>⟨(hc.any.es p hp).1,hc.pn _ (hc.pE p hp)⟩,hc.any.ks⟩,⟨hc.tb.symm,⟨hc.t1,hc.any.tl⟩,hc.lo,hc.ro,hc.wo,hc.wu,hc.eo,hc.k8,fun l nd hm=>?_⟩⟩;have:=CQ nd fun x hx=>Pk hc x ((hm x).mp hx)
 have:=hc.pl;omega
structure jr (L:List (List Str)):Prop where
 g:Good L
 ls:kQ (bP L)
 n:L.length<=77
 ln:∀l∈L,l.length<=41/\(∀w∈l,w.length<=6)/\l≠[]/\∀w∈l,lI w
theorem NI{ps:List Str}{c:de}(hc:mF ps c):jr (iI c):=by
 obtain⟨nm,ls⟩:=GX hc;obtain⟨h1,h2⟩:=IM hc.any;exact⟨AZ nm,by rw[yc nm];exact ls,h1,fun l hl=>⟨(h2 l hl).1,(h2 l hl).2,(HF hc l hl).2⟩⟩
def k7(L:List (List Str)):Prop:=lN L/\L.length<=100/\∀l∈L,mP l
theorem jr.ok{L:List (List Str)}(h:jr L){l:List Str}(hl:l∈L):mP l:=by
 obtain⟨h1,h2,h3,h4⟩:=h.ln l hl;exact⟨⟨by omega,fun w hw=>by have:=h2 w hw;omega⟩,h3,h4⟩
theorem jr.tk{L:List (List Str)}(h:jr L){k:Nat}{l:List Str}(hl:l∈L.take k):mP l:=h.ok (List.mem_of_mem_take hl)
theorem jr.dp{L:List (List Str)}(h:jr L){k:Nat}{l:List Str}(hl:l∈L.drop k):mP l:=h.ok (List.mem_of_mem_drop hl)
theorem AH{L:List (List Str)}(h:jr L){x:List Str}(hx:mP x)(k:Nat)(hb:lN (L.take k++[x]++L.drop k)):k7 (L.take k++[x]++L.drop k):=by
 refine⟨hb,by have:=h.n;simp only[aw,ay,aL,List.length_singleton];omega,fun l hl=>?_⟩;rcases au.mp hl with z | z
 ·rcases au.mp z with z | z
  ·exact h.tk z
  ·rw[aF.mp z];exact hx
 ·exact h.dp z
theorem NH{L:List (List Str)}(h:jr L)(k:Nat)(hb:lN (L.take k++L.drop (k+1))):k7 (L.take k++L.drop (k+1)):=by
 refine⟨hb,by have:=h.n;simp only[aw,ay,aL];omega,fun l hl=>?_⟩;rcases au.mp hl with z | z
 ·exact h.tk z
 ·exact h.dp z
theorem uE{L:List (List Str)}(h:jr L){x:List Str}(hx:mP x)(k:Nat)(hb:lN (L.set k x)):k7 (L.set k x):=by
 refine⟨hb,by have:=h.n;rw[List.length_set];omega,fun l hl=>?_⟩;rcases bc hl with z | z
 ·exact h.ok z
 ·rw[z];exact hx
end Wc
namespace Wc
open PySem L2 PyProof.Rows
end Wc
open PySem L2 PyProof.Rows Wc
local macro_rules | `(tactic| walk_at "px")=>`(tactic| walk_at "b")
namespace Wc
open PySem L2 PyProof.Rows
noncomputable def sO(L:List (List Str)):D:=.lst (L.map dS)
theorem kA{α:Type}{l:List α}{k:Nat}{y:α}(h:l[k]?=some y):du l (k:Int)=some y:=by
 obtain⟨hk,rfl⟩:=ao.mp h;exact mh hk
theorem GW{x:List Str}(h:(hd x∉F4/\hd x≠sW/\hd x≠sB/\hd x≠sK)\/((hd x=sW\/hd x=sB)/\x.length≠3)\/(hd x=sK/\x.length≠4)):Gd x:=by
 rcases h with h | ⟨h | h,n⟩ | ⟨h,n⟩
 ·exact .inl h
 ·exact .inr (.inl ⟨h,fun p ⟨⟨a,e⟩,_⟩=>n (by rw[e];rfl)⟩)
 ·exact .inr (.inr (.inl ⟨h,fun p ⟨⟨a,e⟩,_⟩=>n (by rw[e];rfl)⟩))
 ·exact .inr (.inr (.inr ⟨h,fun p ⟨⟨a,e⟩,_⟩=>n (by rw[e];rfl)⟩))
noncomputable def jZ:List (List Str):=[["wires"],["Top"],["keep","1","2"],["wide","a"],["bend","3"],["left"],["."]]
noncomputable def lC:List (List Str):=[["left"],["bend","1"],["next"],["top","."]]
theorem LN:∀o∈jZ++lC,mP o/\(hd o∈F4\/((hd o∉F4/\hd o≠sW/\hd o≠sB/\hd o≠sK)\/((hd o=sW\/hd o=sB)/\o.length≠3)\/(hd o=sK/\o.length≠4))):=by
 unfold mP tG lI Wd;decide +kernel
theorem Hh{L:List (List Str)}(og:jr L){o:List Str}(ho:o∈jZ++lC)(k:Nat):k7 (L.take k++[o]++L.drop k):=by
 obtain⟨h1,h2⟩:=LN o ho;refine AH og h1 k ?_;rcases h2 with h2 | h2
 ·exact HI og.g h2 k
 ·exact CM (by simp) (GW h2)
theorem NG:k7 []:=⟨NM,by simp,by simp⟩
theorem Hg{L:List (List Str)}(og:jr L){o:List Str}(ho:o∈jZ++lC):k7 (L++[o]):=by
 have:=Hh og ho L.length;rwa [List.take_length,List.drop_length,List.append_nil] at this
def yk:eO:=fun ds Q=>∃(L:List (List Str)) (m x:Int),ds=[sO L,.int m,.int x]/\jr L/\0<=m/\m<6/\0<=x/\x<2147483647/\∀L',k7 L'->Q (.ow (L'.map dS))
def DX:TX:=(bQ (dX 3 (bB (oI (fun _ j=>0<j) fun i j=>.int (i%j)) (br 2) (dF jv (bx (br 0) bD))))
 (bQ (gR (dh (bB oEq (br 1) (dC (.int 0)))) (bQ (dX 3 (bB (oI (fun _ j=>0<j) fun i j=>.int (i%j)) (br 2) (dC (.int 4))))
 (eX (bB cT (fZ (br 0) gN (fv (br 3))) (fZ (br 0) (fv (bB cT (br 3) (dC (.int 1)))) gN)))) hZ)
 (bQ (gR (dh (bB oEq (br 1) (dC (.int 1)))) (bQ (dX 3 (bB (oI (fun _ j=>0<j) fun i j=>.int (i%j)) (br 2) (dC (.int 4))))
 (eX (bB cT (bB cT (fZ (br 0) gN (fv (br 3))) (cZ (bx (bB cD (br 0) (br 3)) bD))) (fZ (br 0) (fv (br 3)) gN)))) hZ)
 (bQ (gR (dh (bB oEq (br 1) (dC (.int 2)))) (bQ (dX 4 (eG (oG (bx (bB (gO fun i j=>.int (i-j)) (dF jv (bx (br 0) bD)) (dC (.int 1))) bD)) [none,some 0] (cM 0) (zH (dh (bB wB (bB cD (bB cD (br 1) (br 0)) (dC (.int 0))) (bB cD (bB cD (br 1) (bB cT (br 0) (dC (.int 1)))) (dC (.int 0))))) (dh (bB (jO false) (bB cD (bB cD (br 1) (br 0)) (dC (.int 0))) (cZ (bx (dC (.str "wide")) (bx (dC (.str "bend")) bD)))))) (br 0)))
 (bQ (dX 3 (bB cD (br 4) (bB (oI (fun _ j=>0<j) fun i j=>.int (i%j)) (br 2) (dF jv (bx (br 4) bD)))))
 (eX (bB cT (bB cT (fZ (br 0) gN (fv (br 3))) (cZ (bx (bB cD (br 0) (bB cT (br 3) (dC (.int 1)))) (bx (bB cD (br 0) (br 3)) bD)))) (fZ (br 0) (fv (bB cT (br 3) (dC (.int 2)))) gN))))) hZ)
 (bQ (gR (dh (bB oEq (br 1) (dC (.int 3)))) (bQ (dX 5 (bB cD (cZ (bx (cZ (bx (dC (.str "wires")) bD)) (bx (cZ (bx (dC (.str "Top")) bD)) (bx (cZ (bx (dC (.str "keep")) (bx (dC (.str "1")) (bx (dC (.str "2")) bD)))) (bx (cZ (bx (dC (.str "wide")) (bx (dC (.str "a")) bD))) (bx (cZ (bx (dC (.str "bend")) (bx (dC (.str "3")) bD))) (bx (cZ (bx (dC (.str "left")) bD)) (bx (cZ (bx (dC (.str ".")) bD)) bD)))))))) (bB (oI (fun _ j=>0<j) fun i j=>.int (i%j)) (bB (oI gS fun i j=>.int (i/j)) (br 2) (dC (.int 64))) (dC (.int 7)))))
 (eX (bB cT (bB cT (fZ (br 0) gN (fv (br 3))) (cZ (bx (br 5) bD))) (fZ (br 0) (fv (br 3)) gN)))) hZ)
 (bQ (gR (dh (bB oEq (br 1) (dC (.int 4)))) (eX (cZ bD)) hZ)
 (eX (bB cT (br 0) (cZ (bx (bB cD (cZ (bx (cZ (bx (dC (.str "left")) bD)) (bx (cZ (bx (dC (.str "bend")) (bx (dC (.str "1")) bD))) (bx (cZ (bx (dC (.str "next")) bD)) (bx (cZ (bx (dC (.str "top")) (bx (dC (.str ".")) bD))) bD))))) (bB (oI (fun _ j=>0<j) fun i j=>.int (i%j)) (bB (oI gS fun i j=>.int (i/j)) (br 2) (dC (.int 64))) (dC (.int 4)))) bD))))))))))
theorem S3:jP 3 yk DX ["_law_lines_here","_law_manner","_law_mix_here","_law_at","_law_some","_law_odd"]:=by
 intro ds Qr hl h;obtain⟨L,m,x,rfl,og,m0,m6,x0,x1,q⟩:=h;show DX _ [.fz (sO L),.fz (.int m),.fz (.int x),.un,.un,.un];unfold DX sO;have big:=iq;have hn:=og.n;obtain⟨l0,l1,l2,l3,r,hL⟩:=HJ og.g.h;have h4:4<=L.length:=by rw[hL];simp
 walk_at "px";refine⟨by rw[aa];omega,?_⟩;walk_at "go";have BO:∀k:Nat,k<4->∃y,L[k]?=some y/\hd y∈F4:=fun k hk=>by
  obtain⟨y,hy⟩:∃y,L[k]?=some y:=⟨_,ag (by omega)⟩
  rcases vz og.g hy with⟨_,e⟩ | ⟨z,_⟩
  ·refine⟨y,hy,?_⟩;rw[e];match k,hk with
   | 0,_=>decide +kernel
   | 1,_=>decide +kernel
   | 2,_=>decide +kernel
   | 3,_=>decide +kernel
  ·omega
 by_cases e0:m=0
 ·rw[if_pos e0];walk_at "go";obtain⟨k,hk⟩:=aX (show 0<=x%4 by omega);obtain⟨y,hy,EA⟩:=BO k (by omega);rw[hk,pV _ (by omega),oP _ (by omega),<-aq,show((k:Int)+1).toNat=k+1 by omega,Int.toNat_natCast];refine⟨by simp only[aa,ay,aL];omega,q _ (NH og k ?_)⟩;have g:=og.g;rw[(yP hy).2] at g;exact Pq g EA
 rw[if_neg e0];walk_at "go";by_cases e1:m=1
 ·rw[if_pos e1];walk_at "go";obtain⟨k,hk⟩:=aX (show 0<=x%4 by omega);obtain⟨y,hy,EA⟩:=BO k (by omega);rw[hk];refine⟨y,kA hy,by omega,?_⟩;rw[pV _ (by omega),oP _ (by omega),Int.toNat_natCast];refine⟨by simp only[aa,ay,aL];omega,by simp only[aa,ay,aL,aw,List.length_singleton];omega,?_⟩;have:=q _ (AH og (og.ok (ah hy)) k (HI og.g EA k));rwa [aq,aq] at this
 rw[if_neg e1];walk_at "go";by_cases e2:m=2
 ·rw[if_pos e2];refine qW (List.range (L.length-1)) (fun(k:Nat)=>.int (0+k)) (fun(k:Nat)=>.int k) (fun k=>decide (hd (L.getD k [])≠hd (L.getD (k+1) [])\/hd (L.getD k [])=sW\/hd (L.getD k [])=sB)) (fun Q' h=>?_) (by simp;omega) (fun k hm K1 K0 k1 k0=>?_) ?_
  ·walk_at "px";rw[show(((L.map dS).length:Int)-1).toNat=L.length-1 by rw[aa];omega];exact⟨by omega,by rw[aa];omega,h⟩
  ·have hk:k<L.length-1:=by simpa using hm
   obtain⟨a,ha⟩:∃y,L[k]?=some y:=⟨_,ag (by omega)⟩
   obtain⟨b,hb⟩:∃y,L[k+1]?=some y:=⟨_,ag (by omega)⟩
   have ga:L.getD k []=a:=by rw[aE,ha];rfl
   have gb:L.getD (k+1) []=b:=by rw[aE,hb];rfl
   rw[ga,gb] at k1 k0;have ia:=tE (og.ln a (ah ha)).2.2.1;have ib:=tE (og.ln b (ah hb)).2.2.1;have da:du (a.map D.str) 0=some (.str (hd a)):=by rw[vX,ia];rfl
   have db:du (b.map D.str) 0=some (.str (hd b)):=by rw[vX,ib];rfl
   walk_at "px";rw[show(0:Int)+(k:Int)=(k:Int) by omega];refine⟨a,kA ha,?_⟩;unfold dS;dsimp only;refine⟨_,da,b,by exact_mod_cast kA hb,_,db,by rw[rZ];trivial,by rw[rZ];trivial,?_⟩;rw[Av];by_cases e:hd a=hd b
   ·rw[a9 e,Bool.not_true,if_neg (by decide)];refine⟨a,kA ha,_,da,by omega,by rw[rZ];trivial,fun e he=>?_,?_⟩
    ·simp only[af,aH,or_false] at he;rcases he with rfl | rfl<;>(rw[rZ];trivial)
    rw[show inD (.str (hd a)) [.str (Str.ofString "wide"),.str (Str.ofString "bend")]=decide (hd a∈([sW,sB]:List Str)) from uv _ [sW,sB]];by_cases w:hd a=sW\/hd a=sB
    ·rw[if_pos (a9 (by simpa using w))];exact k1 (a9 (.inr w))
    ·rw[if_neg (by simpa using w)];exact k0 (aW fun z=>z.elim (fun y=>y e) w)
   ·rw[aW e,Bool.not_false,if_pos rfl];exact k1 (a9 (.inl e))
  ·walk_at "go";generalize hF:(List.range (L.length-1)).filter (fun k=>decide (hd (L.getD k [])≠hd (L.getD (k+1) [])\/hd (L.getD k [])=sW\/hd (L.getD k [])=sB))=F;have h0:0∈F:=by
    rw[<-hF,List.mem_filter];refine⟨by simp;omega,a9 (.inl ?_)⟩;rw[hL];have p0:=vz og.g (k:=0) (x:=l0) (by rw[hL];rfl);have p1:=vz og.g (k:=1) (x:=l1) (by rw[hL];rfl);have a0:=(p0.resolve_right (by omega)).2;have a1:=(p1.resolve_right (by omega)).2;show hd l0≠hd l1;rw[a0,a1];decide +kernel
   have fl:=List.length_pos_of_mem h0;rw[aa];obtain⟨i,hi⟩:=aX (aK x (b:=(F.length:Int)) (by omega));have oZ:i<F.length:=by have:=aM x (b:=(F.length:Int)) (by omega);omega
   rw[hi];refine⟨by omega,F[i],kA (ag oZ),?_⟩;have hm:F[i]∈F:=List.getElem_mem oZ;generalize F[i]=k at hm;rw[<-hF,List.mem_filter,decide_eq_true_iff] at hm;obtain⟨hk,pI⟩:=hm;have hk:k<L.length-1:=by simpa using hk
   obtain⟨a,ha⟩:∃y,L[k]?=some y:=⟨_,ag (by omega)⟩
   obtain⟨b,hb⟩:∃y,L[k+1]?=some y:=⟨_,ag (by omega)⟩
   have ga:L.getD k []=a:=by rw[aE,ha];rfl
   have gb:L.getD (k+1) []=b:=by rw[aE,hb];rfl
   rw[ga,gb] at pI;walk_at "go";refine⟨b,by exact_mod_cast kA hb,a,kA ha,by omega,?_⟩;rw[pV _ (by omega),oP _ (by omega),Int.toNat_natCast,show((k:Int)+2).toNat=k+2 by omega];refine⟨by simp only[aa,ay];omega,by simp only[aa,ay,aL,aw,aB,List.length_nil];omega,?_⟩;have e1:=(yP ha).2;rw[(yP hb).1] at e1;have g:=og.g;have ls:=og.ls;have ln:=og.n;rw[e1] at g ls;have:=q (L.take k++[b,a]++L.drop (k+2)) ⟨by rw[List.append_assoc];exact Po g ls pI,by simp only[ay,aL,aw,aB,List.length_nil];omega,fun l hl=>?_⟩
   ·rwa [aq,aq] at this
   ·rcases au.mp hl with z | z
    ·rcases au.mp z with z | z
     ·exact og.tk z
     ·simp only[af,aH,or_false] at z;rcases z with rfl | rfl
      ·exact og.ok (ah hb)
      ·exact og.ok (ah ha)
    ·exact og.dp z
 rw[if_neg e2];walk_at "go";by_cases e3:m=3
 ·rw[if_pos e3];obtain⟨k,hk⟩:=aX (show 0<=x/64%7 by omega);obtain⟨j,hj⟩:=aX (aK x (b:=((L.map dS).length:Int)) (by rw[aa];omega));have ho:jZ[k]?=some (jZ.getD k []):=by
   have:k<jZ.length:=by show k<7;omega
   rw[aE,ag this];rfl
  have om:jZ.getD k []∈jZ++lC:=List.mem_append_left _ (ah ho);rw[hk,hj];refine⟨by omega,by omega,by omega,by omega,by omega,by omega,by omega,by omega,dS (jZ.getD k []),?_,?_⟩
  ·exact kA (l:=jZ.map dS) (by rw[aT,ho];rfl)
  walk_at "go";rw[pV _ (by omega),oP _ (by omega),Int.toNat_natCast];refine⟨by omega,by simp only[aa,ay];omega,by simp only[aa,ay,aL,aw,List.length_singleton];omega,?_⟩;have:=q _ (Hh og om j);rwa [aq,aq] at this
 rw[if_neg e3];walk_at "go";by_cases e4:m=4
 ·rw[if_pos e4];exact⟨by omega,q [] NG⟩
 rw[if_neg e4];walk_at "go";obtain⟨k,hk⟩:=aX (show 0<=x/64%4 by omega);have ho:lC[k]?=some (lC.getD k []):=by
  have:k<lC.length:=by show k<4;omega
  rw[aE,ag this];rfl
 rw[hk];refine⟨by omega,by omega,by omega,by omega,by omega,dS (lC.getD k []),kA (l:=lC.map dS) (by rw[aT,ho];rfl),by omega,by rw[aa];omega,?_⟩;have:=q _ (Hg og (aS jZ (ah ho)));rwa [aq] at this
end Wc
namespace Wc
open PySem L2 PyProof.Rows
end Wc
open PySem L2 PyProof.Rows Wc
local macro_rules | `(tactic| walk_at "px")=>`(tactic| (repeat(first | walk_at "b" | simp only[lT,uw,pq,uA,z7,zO])))
namespace Wc
open PySem L2 PyProof.Rows
noncomputable def qO(L:List (List Str))(hs:List Str):List Nat:=(List.range L.length).filter fun k=>decide (hd (L.getD k [])∈hs/\2<=(L.getD k []).length)
def xZ:eO:=fun ds Q=>∃(L:List (List Str)) (hs:List Str),ds=[sO L,dS hs,.int 2]/\jr L/\hs.length<=10/\Q (.ow ((qO L hs).map fun(k:Nat)=>.int k))
def DF:TX:=(eX (eG (oG (bx (dF jv (bx (br 0) bD)) bD)) [none,some 1,some 2,some 0] (cM 0) (qQ (dh (bB (jO false) (bB cD (bB cD (br 3) (br 0)) (dC (.int 0))) (br 1))) (dh (bB (gO fun i j=>.bl (decide (j<=i))) (dF jv (bx (bB cD (br 3) (br 0)) bD)) (br 2)))) (br 0)))
theorem RI:jP 3 xZ DF ["_law_lines_here","_law_heads","_law_least"]:=by
 intro ds Qr hl h;obtain⟨L,hs,rfl,og,h1,q⟩:=h;show DF _ [.fz (sO L),.fz (dS hs),.fz (.int 2)];unfold DF sO dS;have big:=iq;have hn:=og.n;walk_at "px";refine qW (List.range L.length) (fun(k:Nat)=>.int (0+k)) (fun(k:Nat)=>.int k) (fun k=>decide (hd (L.getD k [])∈hs/\2<=(L.getD k []).length)) (fun Q' h=>?_) (by simp;omega) (fun k hm K1 K0 k1 k0=>?_) q
 ·walk_at "px";rw[show((L.map fun l=>D.lst (l.map D.str)).length:Int).toNat=L.length by rw[aa];omega];exact⟨by omega,by rw[aa];omega,h⟩
 ·have hk:k<L.length:=by simpa using hm
  obtain⟨a,ha⟩:∃y,L[k]?=some y:=⟨_,ag (by omega)⟩
  have ga:L.getD k []=a:=by rw[aE,ha];rfl
  rw[ga] at k1 k0;have ia:=tE (og.ln a (ah ha)).2.2.1;have la:=(og.ln a (ah ha)).1;have da:du (a.map D.str) 0=some (.str (hd a)):=by rw[vX,ia];rfl
  walk_at "px";rw[show(0:Int)+(k:Int)=(k:Int) by omega];refine⟨a,kA ha,_,ia,fun e he=>?_,?_⟩
  ·obtain⟨w,_,rfl⟩:=aD.mp he;rw[rZ];trivial
  rw[uv];by_cases e:hd a∈hs
  ·rw[if_pos (a9 e)];refine⟨a,kA ha,?_⟩;rw[aa];by_cases e2:2<=a.length
   ·rw[if_pos (by omega)];exact k1 (a9 ⟨e,e2⟩)
   ·rw[if_neg (by omega)];exact k0 (aW fun z=>e2 z.2)
  ·rw[if_neg (by simpa using e)];exact k0 (aW fun z=>e z.1)
theorem Cy{n k:Nat}(h:k<n):kY n (k:Int)=some k:=by
 unfold kY;rw[if_pos (by omega),if_pos (by omega),Int.toNat_natCast]
theorem zY(ws:List Str){i:Int}(h0:0<=i)(h1:i<ws.length):∃w∈ws,du (ws.map D.str) i=some (.str w):=by
 obtain⟨k,rfl⟩:=aX h0;have hk:k<ws.length:=by omega
 exact⟨ws[k],List.getElem_mem hk,kA (by rw[aT,ag hk];rfl)⟩
noncomputable def nu(w:Str):Bool:=(du w.cps.toList 0).any fun c=>lD "0123456789" c
noncomputable def wV:List Str:=["100","-1","x","1x","+2"]
def OW(l y:List Str):Prop:=∃(a:Nat) (o w:Str),1<=a/\l[a]?=some o/\y=l.set a w/\((nu o=true/\(w=Str.ofString "0"++o\/w∈wV))\/(nu o=false/\w∈tf/\(hd l="top"\/hd l="bottom"->w≠".")))
def yA:eO:=fun ds Q=>∃(l:List Str) (x:Int),ds=[dS l,.int x]/\2<=l.length/\l.length<=50/\(∀w∈l,w.length<=6/\lI w)/\0<=x/\x<2147483647/\∀y,OW l y->Q (.fz (dS y))
def D7:TX:=(bQ (je 0 (dF lT (bx (br 0) bD)))
 (bQ (dX 2 (bB cT (dC (.int 1)) (bB (oI (fun _ j=>0<j) fun i j=>.int (i%j)) (br 1) (bB (gO fun i j=>.int (i-j)) (uw 0) (dC (.int 1))))))
 (bQ (gR (dh (bB (jO false) (bB cD (pq 0 (br 2)) (dC (.int 0))) (dC (.str "0123456789")))) (bQ (uA 0 (br 2) (bB cD (cZ (bx (bB cT (dC (.str "0")) (pq 0 (br 2))) (bx (dC (.str "100")) (bx (dC (.str "-1")) (bx (dC (.str "x")) (bx (dC (.str "1x")) (bx (dC (.str "+2")) bD))))))) (bB (oI (fun _ j=>0<j) fun i j=>.int (i%j)) (bB (oI gS fun i j=>.int (i/j)) (br 1) (dC (.int 64))) (dC (.int 6))))) (ju 0 hZ)) (gR (dh (bB (jO false) (pq 0 (dC (.int 0))) (cZ (bx (dC (.str "top")) (bx (dC (.str "bottom")) bD))))) (bQ (uA 0 (br 2) (bB cD (cZ (bx (dC (.str "A")) (bx (dC (.str "abcdefg")) (bx (dC (.str "a1")) (bx (dC (.str "..")) (bx (dC (.str "a-b")) (bx (dC (.str "7")) bD))))))) (bB (oI (fun _ j=>0<j) fun i j=>.int (i%j)) (bB (oI gS fun i j=>.int (i/j)) (br 1) (dC (.int 64))) (dC (.int 6))))) (ju 0 hZ)) (bQ (uA 0 (br 2) (bB cD (cZ (bx (dC (.str "A")) (bx (dC (.str "abcdefg")) (bx (dC (.str "a1")) (bx (dC (.str "..")) (bx (dC (.str "a-b")) (bx (dC (.str "7")) (bx (dC (.str ".")) bD)))))))) (bB (oI (fun _ j=>0<j) fun i j=>.int (i%j)) (bB (oI gS fun i j=>.int (i/j)) (br 1) (dC (.int 64))) (dC (.int 7))))) (ju 0 hZ))))
 (eX (br 0)))))
theorem Tt:jP 2 yA D7 ["_law_line","_law_mix_here","_law_at"]:=by
 intro ds Qr hl h;obtain⟨l,x,rfl,l2,Ws,hw,x0,x1,q⟩:=h;show D7 _ [.fz (dS l),.fz (.int x),.un];unfold D7 dS;have big:=iq;walk_at "px";walk_at "go";refine⟨by rw[aa];omega,?_⟩;rw[aa];obtain⟨b,hb⟩:=aX (aK x (b:=(l.length:Int)-1) (by omega));have uf:b<l.length-1:=by have:=aM x (b:=(l.length:Int)-1) (by omega);omega
 rw[hb,show(1:Int)+(b:Int)=((b+1:Nat):Int) by omega];obtain⟨o,ho⟩:∃y,l[b+1]?=some y:=⟨_,ag (by omega)⟩
 have om:=ah ho;have oD:du (l.map D.str) ((b+1:Nat):Int)=some (.str o):=kA (by rw[aT,ho];rfl);have ix:kY (l.map D.str).length ((b+1:Nat):Int)=some (b+1):=Cy (by rw[aa];omega);have ol:=(hw o om).1;have o1:0<o.cps.toList.length:=List.length_pos_iff.mpr (hw o om).2.1;have oc:du o.cps.toList 0=some o.cps.toList[0]:=mh (j:=0) o1;generalize o.cps.toList[0]=c at oc;have fg:nu o=lD "0123456789" c:=by unfold nu;rw[oc];rfl
 have l0:du l 0=some (hd l):=tE fun z=>by rw[z] at l2;simp at l2
 walk_at "go";refine⟨o,kA ho,by omega,c,oc,?_⟩;have fin:∀w:Str,((nu o=true/\(w=Str.ofString "0"++o\/w∈wV))\/(nu o=false/\w∈tf/\(hd l="top"\/hd l="bottom"->w≠".")))->nK (ju 0 hZ) { nx:=nK (eX (br 0)) { nx:=fun x=>Qr (R.fz D.non),rt:=Qr },rt:=Qr } [Sl.ow ((List.map D.str l).set (b+1) (.str w)),Sl.fz (D.int x),Sl.fz (D.int ((b+1:Nat):Int))]:=fun w UN=>by
  have:=q (l.set (b+1) w) ⟨b+1,o,w,by omega,ho,rfl,UN⟩;unfold dS at this;rw[List.map_set] at this;walk_at "go";exact this
 show if lD "0123456789" c=true then _ else _
 rw[<-fg];by_cases hf:nu o=true
 ·rw[if_pos hf];obtain⟨w,hm,hp⟩:=zY [Str.ofString "0"++o,"100","-1","x","1x","+2"] (i:=x/64%6) (by omega) (by show _<(6:Int);omega);refine⟨o,kA ho,by have:(Str.ofString "0").length=1:=rfl;omega,by omega,_,hp,b+1,ix,fin w (.inl ⟨hf,?_⟩)⟩;rcases af.mp hm with z | z
  ·exact .inl z
  ·exact .inr z
 ·rw[if_neg hf];have hf:nu o=false:=by simpa using hf
  refine⟨_,l0,by omega,fun e he=>?_,?_⟩
  ·simp only[af,aH,or_false] at he;rcases he with rfl | rfl<;>(rw[rZ];trivial)
  rw[show inD (.str (hd l)) [.str (Str.ofString "top"),.str (Str.ofString "bottom")]=decide (hd l∈(["top","bottom"]:List Str)) from uv _ ["top","bottom"]];by_cases e:hd l∈(["top","bottom"]:List Str)
  ·rw[if_pos (a9 e)];obtain⟨w,hm,hp⟩:=zY ["A","abcdefg","a1","..","a-b","7"] (i:=x/64%6) (by omega) (by show _<(6:Int);omega);have key:∀w∈(["A","abcdefg","a1","..","a-b","7"]:List Str),w∈tf/\w≠".":=by decide +kernel
   exact⟨by omega,_,hp,b+1,ix,fin w (.inr ⟨hf,(key w hm).1,fun _=>(key w hm).2⟩)⟩
  ·rw[if_neg (by simpa using e)];obtain⟨w,hm,hp⟩:=zY tf (i:=x/64%7) (by omega) (by show _<(7:Int);omega);exact⟨by omega,_,hp,b+1,ix,fin w (.inr ⟨hf,hm,fun z=>absurd (by simpa using z) e⟩)⟩
end Wc
namespace Wc
open PySem L2 PyProof.Rows
theorem Gb{L:List (List Str)}{k:Nat}{y:List Str}(g:Good L)(h:L[k]?=some y)(e:hd y∈(["top","bottom"]:List Str)):k=0\/k=1:=by
 have d:∀s∈(["top","bottom"]:List Str),s≠"left"/\s≠"right"/\s≠sW/\s≠sB/\s≠sK:=by decide +kernel
 obtain⟨d1,d2,d3,d4,d5⟩:=d _ e;rcases vz g h with⟨hk,z⟩ | ⟨_,z⟩
 ·match k,hk with
  | 0,_=>exact .inl rfl
  | 1,_=>exact .inr rfl
  | 2,_=>exact absurd z d1
  | 3,_=>exact absurd z d2
 ·rcases z with z | z | z
  ·exact absurd z d3
  ·exact absurd z d4
  ·exact absurd z d5
theorem Ci{L:List (List Str)}{k:Nat}{y:List Str}(g:Good L)(h:L[k]?=some y)(e:hd y∈(["left","right"]:List Str)):k=2\/k=3:=by
 have d:∀s∈(["left","right"]:List Str),s≠"top"/\s≠"bottom"/\s≠sW/\s≠sB/\s≠sK:=by decide +kernel
 obtain⟨d1,d2,d3,d4,d5⟩:=d _ e;rcases vz g h with⟨hk,z⟩ | ⟨_,z⟩
 ·match k,hk with
  | 0,_=>exact absurd z d1
  | 1,_=>exact absurd z d2
  | 2,_=>exact .inl rfl
  | 3,_=>exact .inr rfl
 ·rcases z with z | z | z
  ·exact absurd z d3
  ·exact absurd z d4
  ·exact absurd z d5
theorem KY{L:List (List Str)}{k:Nat}{y:List Str}(og:jr L)(h:L[k]?=some y)(e:k=2\/k=3):(y.drop 1).Pairwise iC:=by
 have gy:L.getD k []=y:=by rw[aE,h];rfl
 rcases e with rfl | rfl
 ·have:=og.ls.lo;simp only[bP] at this;rwa [gy] at this
 ·have:=og.ls.ro;simp only[bP] at this;rwa [gy] at this
section
variable {L:List (List Str)} {k:Nat} {y:List Str}
theorem tD(og:jr L)(h:L[k]?=some y){y':List Str}(n:y'≠[])(hl:y'.length<=42)(hw:∀w∈y',w∈y\/(w.length<=7/\lI w)):mP y':=by
 obtain⟨_,y6,_,yw⟩:=og.ln y (ah h);refine⟨⟨by omega,fun w hm=>?_⟩,n,fun w hm=>?_⟩
 ·rcases hw w hm with z | z
  ·have:=y6 w z;omega
  ·exact z.1
 ·rcases hw w hm with z | z
  ·exact yw w z
  ·exact z.2
theorem w6(og:jr L)(h:L[k]?=some y)(e:hd y∈(["top","bottom"]:List Str))(h2:2<=y.length):k7 (L.set k y.dropLast):=
 uE og (tD og h (fun z=>by have:=congrArg List.length z;simp at this;omega) (by have:=(og.ln y (ah h)).1;simp;omega) fun w hw=>.inl (List.dropLast_subset _ hw)) k
  (Hk og.ls h (Gb og.g h e) (by simp;omega))
theorem w7(og:jr L)(h:L[k]?=some y)(e:hd y∈(["top","bottom"]:List Str))(h2:2<=y.length):k7 (L.set k (y++[Str.ofString "."])):=
 uE og (tD og h (by simp) (by have:=(og.ln y (ah h)).1;simp;omega) fun w hw=>by
  rcases au.mp hw with z | z
  ·exact .inl z
  ·rw[aF.mp z]
   exact .inr (by unfold lI Wd;decide +kernel)) k
  (Hk og.ls h (Gb og.g h e) (by simp;omega))
theorem JH(og:jr L)(h:L[k]?=some y)(e:hd y∈(["left","right"]:List Str)){w:Str}(hw:w∈y.drop 1):k7 (L.set k (y++[w])):=
 uE og (tD og h (by simp) (by have:=(og.ln y (ah h)).1;simp;omega) fun v hv=>by
  rcases au.mp hv with z | z
  ·exact .inl z
  ·rw[aF.mp z];exact .inl (List.mem_of_mem_drop hw)) k
  (Hj h (Ci og.g h e) fun z=>by
   have hn:1<=y.length:=by
    cases y with
    | nil=>simp at hw
    | cons a r=>simp
   rw[List.drop_append_of_le_length hn,List.pairwise_append] at z
   exact AI (z.2.2 w hw w (by simp)))
theorem w9(og:jr L)(h:L[k]?=some y)(e:hd y=sW):k7 (L.take k++[y]++L.drop k):=
 AH og (og.ok (ah h)) k (by
  rw[(yP h).1,List.append_assoc];exact HH e e AI)
theorem TR(og:jr L)(h:L[k]?=some y)(e:hd y=sB){o:Str}(ho:y[1]?=some o):k7 (L.take k++[([Str.ofString "bend",o,Str.ofString "zz"]:List Str)]++L.drop k):=by
 have wd:∀w∈(["bend","zz"]:List Str),w.length<=7/\lI w:=by unfold lI Wd;decide +kernel
 refine AH og (tD og h (by simp) (by simp) fun w hw=>?_) k ?_
 ·simp only[af,aH,or_false] at hw;rcases hw with rfl | rfl | rfl
  ·exact .inr (wd _ (by simp))
  ·exact .inl (ah ho)
  ·exact .inr (wd _ (by simp))
 ·rw[(yP h).1,List.append_assoc];refine HG rfl e ?_;show ¬iJ o<iJ (y.getD 1 "");rw[aE,ho];exact Int.lt_irrefl _
theorem TQ(og:jr L)(h:L[k]?=some y)(e:hd y=sW){w:Str}(hw:w∈(["1","4","0"]:List Str)):k7 (L.set k (y.set 2 w)):=by
 obtain⟨p,⟨a,rfl⟩,_⟩:=og.g.pW y (ah h) e;have wd:∀w∈(["1","4","0"]:List Str),(w.length<=7/\lI w)/\iJ w≠2/\iJ w≠3:=by unfold lI Wd;decide +kernel
 have hk:=(ao.mp h).1;refine uE og (tD og h (by simp) (by simp) fun v hv=>?_) k (NL (List.mem_iff_getElem.mpr ⟨k,by rw[List.length_set];exact hk,List.getElem_set_self _⟩) e (wd w hw).2);rcases bc hv with z | z
 ·exact .inl z
 ·exact .inr (z▸(wd w hw).1)
theorem LM{y:List Str}(h:2<=y.length):∃a b r,y=a::b::r:=by
 match y,h with
 | a::b::r,_=>exact⟨a,b,r,rfl⟩
theorem JI(og:jr L)(h:L[k]?=some y)(e:hd y∈(["wide","bend","keep"]:List Str))(h2:2<=y.length){y':List Str}(By:y'=y.dropLast\/y'=y++[Str.ofString "1"]):k7 (L.set k y'):=by
 have ym:=ah h;have hk:=(ao.mp h).1;obtain⟨a,b,r,rfl⟩:=LM h2;have e3:hd (a::b::r)=sW\/hd (a::b::r)=sB\/hd (a::b::r)=sK:=by
  simp only[af,aH,or_false] at e;exact e
 have hh:hd y'=hd (a::b::r)/\(y'.length=(a::b::r).length-1\/y'.length=(a::b::r).length+1):=by
  rcases By with rfl | rfl
  ·exact⟨rfl,.inl (by simp)⟩
  ·exact⟨rfl,.inr (by simp)⟩
 refine uE og (tD og h (fun z=>?_) (by have:=(og.ln _ ym).1;omega) fun v hv=>?_) k (CM (x:=y') (List.mem_iff_getElem.mpr ⟨k,by rw[List.length_set];exact hk,List.getElem_set_self _⟩) (GW (.inr ?_)))
 ·rw[z] at hh;simp at hh
 ·rcases By with rfl | rfl
  ·exact .inl (List.dropLast_subset _ hv)
  ·rcases au.mp hv with z | z
   ·exact .inl z
   ·rw[aF.mp z];exact .inr (by unfold lI Wd;decide +kernel)
 ·rcases e3 with z | z | z
  ·obtain⟨p,⟨c,hc⟩,_⟩:=og.g.pW _ ym z;rw[hc] at hh;exact .inl ⟨.inl (hh.1.trans (hc▸z)),by simp at hh;omega⟩
  ·obtain⟨p,⟨c,hc⟩,_⟩:=og.g.pB _ ym z;rw[hc] at hh;exact .inl ⟨.inr (hh.1.trans (hc▸z)),by simp at hh;omega⟩
  ·obtain⟨p,⟨c,hc⟩,_⟩:=og.g.pK _ ym z;rw[hc] at hh;exact .inr ⟨hh.1.trans (hc▸z),by simp at hh;omega⟩
theorem GV{r:Str->Str->Prop}{l:List Str}(h:l.Pairwise r){i j:Nat}{a b:Str}(ha:l[i]?=some a)(hb:l[j]?=some b)(ij:i<j):r a b:=by
 obtain⟨hi,rfl⟩:=ao.mp ha;obtain⟨hj,rfl⟩:=ao.mp hb;exact List.pairwise_iff_getElem.mp h i j hi hj ij
theorem TL(og:jr L)(h:L[k]?=some y)(e:hd y∈(["left","right"]:List Str))(h3:2<y.length){a b:Str}(ha:y[y.length-1]?=some a)(hb:y[1]?=some b):k7 (L.set k ((y.set 1 a).set (y.length-1) b)):=
 uE og (tD og h (fun z=>by have:=congrArg List.length z;simp at this;rw[this] at h3;simp at h3) (by have:=(og.ln y (ah h)).1;simp;omega) fun v hv=>by
  rcases bc hv with z | z
  ·rcases bc z with z | z
   ·exact .inl z
   ·exact .inl (z▸ah ha)
  ·exact .inl (z▸ah hb)) k
  (Hj h (Ci og.g h e) fun z=>by
   have p:=KY og h (Ci og.g h e);have q1:iC b a:=GV p (i:=0) (j:=y.length-2) (by rw[List.getElem?_drop];exact hb) (by rw[List.getElem?_drop,show 1+(y.length-2)=y.length-1 by omega];exact ha) (by omega);have q2:iC a b:=GV z (i:=0) (j:=y.length-2) (by rw[List.getElem?_drop,List.getElem?_set_ne (by omega),List.getElem?_set_self (by omega)]) (by rw[List.getElem?_drop,show 1+(y.length-2)=y.length-1 by omega,List.getElem?_set_self (by simp;omega)]) (by omega);exact AI (CA q1 q2))
theorem xw{o:Str}(h:dA o):nu o=false:=by
 unfold nu;have h0:0<o.cps.toList.length:=by have:=Ag o;have:=h.1.1;unfold cp at *;omega
 rw[show du o.cps.toList 0=some o.cps.toList[0] from mh (j:=0) h0];have hc:=h.2 _ (List.getElem_mem h0);generalize o.cps.toList[0]=c at hc;show lD "0123456789" c=false;cases e:lD "0123456789" c with
 | false=>rfl
 | true=>
  have:=(Gx c).mp e;omega
theorem Hf{o:Str}(h:jL o):nu o=false:=by
 rcases h with rfl | h
 ·decide +kernel
 ·exact xw h
theorem xD{i:Int}(h:bT i):nu (cY i)=true:=by
 obtain⟨_,_,f3,⟨c,a1,_⟩,_⟩:=qX i h;unfold nu;rw[a1];refine List.all_eq_true.mp f3 c ?_;obtain⟨_,z⟩:=(Option.bind_eq_some_iff.mp a1)
 exact ah z.2
theorem xC{i:Int}(h:bT i){w:Str}(hw:w=Str.ofString "0"++cY i\/w∈wV):¬vA w:=by
 rcases hw with rfl | hw
 ·exact NJ (qX i h).1
 ·exact LO w hw
theorem Bd{y:List Str}{a:Nat}{o w:Str}(h1:1<=a)(h:y[a]?=some o):w∈(y.set a w).drop 1:=by
 have ha:=(ao.mp h).1;refine ah (i:=a-1) ?_;rw[List.getElem?_drop,show 1+(a-1)=a by omega,List.getElem?_set_self ha]
theorem K5(og:jr L)(h:L[k]?=some y){y':List Str}(ow:OW y y'):mP y':=by
 obtain⟨a,o,w,a1,ho,rfl,hw⟩:=ow;have ym:=ah h;obtain⟨TC,y6,Bl,D8⟩:=og.ln y ym;have om:=ah ho;have key:∀w∈wV++tf,w.length<=7/\lI w:=by unfold lI Wd;decide +kernel
 refine tD og h (fun z=>Bl (by simpa using congrArg List.length z)) (by simp;omega) fun v hv=>?_
 rcases bc hv with z | rfl
 ·exact .inl z
 ·refine .inr ?_;rcases hw with⟨_,rfl | hw⟩ | ⟨_,hw,_⟩
  ·refine⟨by rw[AK];have:=y6 o om;have:(Str.ofString "0").length=1:=rfl;omega,?_⟩;obtain⟨o1,o2,o3⟩:=D8 o om;have e:cp (Str.ofString "0"++o)=48::cp o:=by rw[GB];rfl
   unfold lI Wd;rw[e];exact⟨by simp,by simpa using o2,by simpa using o3⟩
  ·exact key _ (List.mem_append_left _ hw)
  ·exact key _ (aS _ hw)
theorem TM(og:jr L)(h:L[k]?=some y){y':List Str}(ow:OW y y'):k7 (L.set k y'):=by
 refine uE og (K5 og h ow) k ?_;obtain⟨a,o,w,a1,ho,rfl,hw⟩:=ow;have ym:=ah h;have hk:=(ao.mp h).1;have gy:L.getD k []=y:=by rw[aE,h];rfl
 have od:o∈y.drop 1:=ah (i:=a-1) (by rw[List.getElem?_drop,show 1+(a-1)=a by omega];exact ho);have oX:nu o=false->w∈tf/\(hd y="top"\/hd y="bottom"->w≠"."):=fun z=>by
  rcases hw with⟨f,_⟩ | ⟨_,g⟩
  ·rw[z] at f;cases f
  ·exact g
 have qi:nu o=true->w=Str.ofString "0"++o\/w∈wV:=fun z=>by
  rcases hw with⟨_,g⟩ | ⟨f,_⟩
  ·exact g
  ·rw[z] at f;cases f
 have ms:y.set a w∈L.set k (y.set a w):=List.mem_iff_getElem.mpr ⟨k,by rw[List.length_set];exact hk,List.getElem_set_self _⟩;rcases vz og.g h with⟨k4,e⟩ | ⟨_,e⟩
 ·match k,k4 with
  | 0,_=>
   have:=oX (Hf (og.g.p0 o (by rw[gy];exact od)));exact Hi h (.inl rfl) (Bd a1 ho) (Gu this.1 (this.2 (.inl e)))
  | 1,_=>
   have:=oX (Hf (og.g.p1 o (by rw[gy];exact od)));exact Hi h (.inr rfl) (Bd a1 ho) (Gu this.1 (this.2 (.inr e)))
  | 2,_=>
   have:=oX (xw (og.g.p2 o (by rw[gy];exact od)));exact Gv h (.inl rfl) (Bd a1 ho) (xi w this.1)
  | 3,_=>
   have:=oX (xw (og.g.p3 o (by rw[gy];exact od)));exact Gv h (.inr rfl) (Bd a1 ho) (xi w this.1)
 ·refine CM ms ?_;rcases e with e | e | e
  ·obtain⟨p,⟨c,rfl⟩,q1,q2⟩:=og.g.pW y ym e;refine .inr (.inl ?_);match a,a1,ho with
   | 1,_,ho=>
    cases ho;exact⟨e,fun p' ⟨⟨c',z⟩,z1,_⟩=>by simp at z;exact xi _ (oX (xw q1)).1 (z.2.1▸z1)⟩
   | 2,_,ho=>
    cases ho;exact⟨e,fun p' ⟨⟨c',z⟩,_,z1⟩=>xC q2 (qi (xD q2)) ⟨p'.2,z1,by simp at z;exact z.2.2⟩⟩
  ·obtain⟨p,⟨c,rfl⟩,q1,q2⟩:=og.g.pB y ym e;refine .inr (.inr (.inl ?_));match a,a1,ho with
   | 1,_,ho=>
    cases ho;exact⟨e,fun p' ⟨⟨c',z⟩,z1,_⟩=>xC q1 (qi (xD q1)) ⟨p'.1,z1,by simp at z;exact z.2.1⟩⟩
   | 2,_,ho=>
    cases ho;exact⟨e,fun p' ⟨⟨c',z⟩,_,z1⟩=>by simp at z;exact xi _ (oX (xw q2)).1 (z.2.2▸z1)⟩
  ·obtain⟨p,⟨c,rfl⟩,q1,q2,q3⟩:=og.g.pK y ym e;refine .inr (.inr (.inr ?_));match a,a1,ho with
   | 1,_,ho=>
    cases ho;exact⟨e,fun p' ⟨⟨c',z⟩,z1,_⟩=>xC q1 (qi (xD q1)) ⟨p'.1,z1,by simp at z;exact z.2.1⟩⟩
   | 2,_,ho=>
    cases ho;exact⟨e,fun p' ⟨⟨c',z⟩,_,z1,_⟩=>xC q2 (qi (xD q2)) ⟨p'.2.1,z1,by simp at z;exact z.2.2.1⟩⟩
   | 3,_,ho=>
    cases ho;exact⟨e,fun p' ⟨⟨c',z⟩,_,_,z1⟩=>xC q3 (qi (xD q3)) ⟨p'.2.2,z1,by simp at z;exact z.2.2.2⟩⟩
end
theorem LK(n:Nat)(h:1<=n):HT.dn n n (some (-1))=n-1:=by
 unfold HT.dn;simp;omega
theorem NF{α:Type}(l:List α)(h:l≠[]):gL l none (some (-1))=l.dropLast:=by
 have h1:1<=l.length:=List.length_pos_iff.mpr h;unfold gL;rw[LK _ h1];show(l.drop 0).take (l.length-1-0)=_;rw[List.drop_zero,Nat.sub_zero,List.dropLast_eq_take]
noncomputable def BB:List (List Str):=[["top","bottom"],["top","bottom"],["left","right"],["wide"],["bend"],["wide"],["wide","bend","keep"],["top","bottom","left","right","wide","bend","keep"]]
def yj:eO:=fun ds Q=>∃(L:List (List Str)) (m x:Int),ds=[sO L,.int m,.int x]/\jr L/\6<=m/\m<14/\0<=x/\x<2147483647/\∀L',k7 L'->Q (.ow (L'.map dS))
def DW:TX:=(bQ (dX 3 (cZ (bx (cZ (bx (dC (.str "top")) (bx (dC (.str "bottom")) bD))) (bx (cZ (bx (dC (.str "top")) (bx (dC (.str "bottom")) bD))) (bx (cZ (bx (dC (.str "left")) (bx (dC (.str "right")) bD))) (bx (cZ (bx (dC (.str "wide")) bD)) (bx (cZ (bx (dC (.str "bend")) bD)) (bx (cZ (bx (dC (.str "wide")) bD)) bD))))))))
 (bQ (dX 3 (bB cT (br 3) (cZ (bx (cZ (bx (dC (.str "wide")) (bx (dC (.str "bend")) (bx (dC (.str "keep")) bD)))) (bx (cZ (bx (dC (.str "top")) (bx (dC (.str "bottom")) (bx (dC (.str "left")) (bx (dC (.str "right")) (bx (dC (.str "wide")) (bx (dC (.str "bend")) (bx (dC (.str "keep")) bD)))))))) bD)))))
 (bQ (dX 3 (bB cD (br 3) (bB (gO fun i j=>.int (i-j)) (br 1) (dC (.int 6)))))
 (bQ (dX 4 (fq 3 xZ (bx (br 0) (bx (br 3) (bx (dC (.int 2)) bD)))))
 (bQ (gR (dh (bB oEq (dF jv (bx (br 4) bD)) (dC (.int 0)))) (eX (bB cT (br 0) (cZ (bx (cZ (bx (dC (.str "left")) bD)) bD)))) hZ)
 (bQ (dX 5 (bB cD (br 4) (bB (oI (fun _ j=>0<j) fun i j=>.int (i%j)) (br 2) (dF jv (bx (br 4) bD)))))
 (bQ (je 6 (dF lT (bx (bB cD (br 0) (br 5)) bD)))
 (bQ (dX 2 (bB (oI gS fun i j=>.int (i/j)) (br 2) (dC (.int 16))))
 (bQ (gR (dh (bB oEq (br 1) (dC (.int 6)))) (bQ (zO 6) (ju 6 hZ)) (gR (dh (bB oEq (br 1) (dC (.int 7)))) (bQ (mW 6 (dC (.str "."))) (ju 6 hZ)) (gR (qQ (dh (bB oEq (br 1) (dC (.int 8)))) (qQ (dh (bB oEq (bB (oI (fun _ j=>0<j) fun i j=>.int (i%j)) (br 2) (dC (.int 2))) (dC (.int 1)))) (dh (bB (gO fun i j=>.bl (decide (j<i))) (uw 6) (dC (.int 2)))))) (bQ (z7 6 (mQ (bx (pq 6 (uu (dC (.int 1)))) (bx (pq 6 (dC (.int 1))) bD))) (dC (.int 1)) (uu (dC (.int 1)))) (ju 6 hZ)) (gR (dh (bB oEq (br 1) (dC (.int 8)))) (bQ (mW 6 (pq 6 (bB cT (dC (.int 1)) (bB (oI (fun _ j=>0<j) fun i j=>.int (i%j)) (bB (oI gS fun i j=>.int (i/j)) (br 2) (dC (.int 2))) (bB (gO fun i j=>.int (i-j)) (uw 6) (dC (.int 1))))))) (ju 6 hZ)) (gR (dh (bB oEq (br 1) (dC (.int 9)))) (ju 6 (eX (bB cT (bB cT (fZ (br 0) gN (fv (br 5))) (cZ (bx (br 6) bD))) (fZ (br 0) (fv (br 5)) gN)))) (gR (dh (bB oEq (br 1) (dC (.int 10)))) (ju 6 (eX (bB cT (bB cT (fZ (br 0) gN (fv (br 5))) (cZ (bx (cZ (bx (dC (.str "bend")) (bx (bB cD (br 6) (dC (.int 1))) (bx (dC (.str "zz")) bD)))) bD))) (fZ (br 0) (fv (br 5)) gN)))) (gR (dh (bB oEq (br 1) (dC (.int 11)))) (bQ (uA 6 (dC (.int 2)) (bB cD (cZ (bx (dC (.str "1")) (bx (dC (.str "4")) (bx (dC (.str "0")) bD)))) (bB (oI (fun _ j=>0<j) fun i j=>.int (i%j)) (br 2) (dC (.int 3))))) (ju 6 hZ)) (gR (dh (bB oEq (br 1) (dC (.int 12)))) (ju 6 (dX 6 (bB cD (cZ (bx (fZ (br 6) gN (fv (uu (dC (.int 1))))) (bx (bB cT (br 6) (cZ (bx (dC (.str "1")) bD))) bD))) (bB (oI (fun _ j=>0<j) fun i j=>.int (i%j)) (br 2) (dC (.int 2)))))) (ju 6 (dX 6 (fq 2 yA (bx (br 6) (bx (br 2) bD)))))))))))))
 (eX (bB cT (bB cT (fZ (br 0) gN (fv (br 5))) (cZ (bx (br 6) bD))) (fZ (br 0) (fv (bB cT (br 5) (dC (.int 1)))) gN))))))))))))
theorem S2:jP 3 yj DW ["_law_lines_here","_law_manner","_law_mix_here","_law_heads","_law_some","_law_at","_law_line"]:=by
 intro ds Qr hl h;obtain⟨L,m,x,rfl,og,m0,m6,x0,x1,q⟩:=h;show DW _ [.fz (sO L),.fz (.int m),.fz (.int x),.un,.un,.un,.un];unfold DW sO;have big:=iq;have hn:=og.n;obtain⟨n,U6⟩:=aX (show 0<=m-6 by omega);obtain⟨hs,E5⟩:∃y,BB[n]?=some y:=⟨_,ag (show n<8 by omega)⟩
 have hh:du (BB.map dS) (m-6)=some (dS hs):=by rw[U6];exact kA (by rw[aT,E5];rfl)
 have VG:hs.length<=10:=by
  have:∀y∈BB,y.length<=10:=by decide +kernel
  exact this hs (ah E5)
 walk_at "px";refine⟨by omega,by omega,by omega,by omega,by omega,by omega,by omega,?_⟩;walk_at "go";refine⟨by omega,by omega,by omega,by omega,?_⟩;walk_at "go";refine⟨_,hh,?_⟩;walk_at "go";refine⟨L,hs,rfl,og,VG,?_⟩;walk_at "go";rw[aa];by_cases f0:(qO L hs).length=0
 ·rw[if_pos (by omega)];have:=q _ (Hg og (o:=["left"]) (by decide +kernel));rw[aq] at this;exact⟨by omega,by omega,by rw[aa];omega,this⟩
 rw[if_neg (by omega)];walk_at "go";rw[aa];obtain⟨i,hi⟩:=aX (aK x (b:=((qO L hs).length:Int)) (by omega));have oZ:i<(qO L hs).length:=by have:=aM x (b:=((qO L hs).length:Int)) (by omega);omega
 rw[hi];refine⟨by omega,(qO L hs)[i],kA (ag oZ),?_⟩;have hm:(qO L hs)[i]∈qO L hs:=List.getElem_mem oZ;generalize (qO L hs)[i]=k at hm;unfold qO at hm;rw[List.mem_filter,decide_eq_true_iff] at hm;obtain⟨hk,qD,wC⟩:=hm;have hk:k<L.length:=by simpa using hk
 obtain⟨y,hy⟩:∃y,L[k]?=some y:=⟨_,ag (by omega)⟩
 have gy:L.getD k []=y:=by rw[aE,hy];rfl
 rw[gy] at qD wC;have ym:=ah hy;obtain⟨TC,y6,Bl,D8⟩:=og.ln y ym;clear hi oZ f0 hh;have fin:∀y':List Str,k7 (L.set k y')->1<=sizeLine/\((gL L none (some (k:Int))).map dS).length+1<=sizeLine/\(((gL L none (some (k:Int))).map dS)++[dS y']).length+((gL L (some ((k:Int)+1)) none).map dS).length<=sizeLine/\Qr (.ow (((gL L none (some (k:Int))).map dS)++[dS y']++(gL L (some ((k:Int)+1)) none).map dS)):=fun y' sp=>by
  rw[pV _ (by omega),oP _ (by omega),Int.toNat_natCast,show((k:Int)+1).toNat=k+1 by omega];have:=q _ sp;rw[<-NK hy,aq,aq] at this;exact⟨by omega,by simp only[aa,ay];omega,by simp only[aa,ay,aL,aw,List.length_singleton];omega,this⟩
 walk_at "go";refine⟨y,kA hy,?_⟩;unfold dS;dsimp only;walk_at "go";walk_at "go";have u7:∀n',n'=n->BB[n']?=some hs:=fun n' z=>by rw[z];exact E5
 have VP:∀y':List Str,k7 (L.set k y')->_:=fun y' sp=>fin y' sp
 have TF:(y.map D.str).length=y.length:=aa _;by_cases e6:m=6
 ·rw[if_pos e6];have:=u7 0 (by omega);cases this;refine⟨fun z=>Bl (by simpa using z),?_⟩;rw[show(y.map D.str).dropLast=y.dropLast.map D.str by rw[List.map_dropLast]];walk_at "go";exact fin _ (w6 og hy qD wC)
 rw[if_neg e6];by_cases e7:m=7
 ·rw[if_pos e7];have:=u7 1 (by omega);cases this;refine⟨by omega,?_⟩;rw[show y.map D.str++[D.str (Str.ofString ".")]=(y++[Str.ofString "."]).map D.str by rw[aq];rfl];walk_at "go";exact fin _ (w7 og hy qD wC)
 rw[if_neg e7];by_cases e8:m=8
 ·have:=u7 2 (by omega);cases this;have VE:∃w,du y (1+x/16/2%((y.length:Int)-1))=some w/\w∈y.drop 1:=by
   obtain⟨b,hb⟩:=aX (aK (x/16/2) (b:=(y.length:Int)-1) (by omega));have uf:b<y.length-1:=by have:=aM (x/16/2) (b:=(y.length:Int)-1) (by omega);omega
   obtain⟨o,ho⟩:∃o,y[b+1]?=some o:=⟨_,ag (by omega)⟩
   refine⟨o,?_,ah (i:=b) (by rw[List.getElem?_drop,show 1+b=b+1 by omega];exact ho)⟩;rw[hb,show(1:Int)+(b:Int)=((b+1:Nat):Int) by omega];exact kA ho
  obtain⟨w,BA,Bz⟩:=VE;rw[TF];rw[if_pos e8];by_cases o1:x/16%2=1
  ·rw[if_pos o1];by_cases o2:2<y.length
   ·rw[if_pos (by omega)];obtain⟨a,ha⟩:∃o,y[y.length-1]?=some o:=⟨_,ag (by omega)⟩
    obtain⟨b,hb⟩:∃o,y[1]?=some o:=⟨_,ag (by omega)⟩
    have J2:kY y.length (-1)=some (y.length-1):=by
     unfold kY;rw[if_neg (by omega),if_pos (by omega)];congr 1
     omega
    refine⟨a,by unfold du;rw[J2];exact ha,b,kA (k:=1) hb,by omega,1,Cy (k:=1) (by omega),y.length-1,J2,?_⟩;rw[show((y.map D.str).set 1 (.str a)).set (y.length-1) (.str b)=((y.set 1 a).set (y.length-1) b).map D.str by rw[List.map_set,List.map_set]];walk_at "go";exact fin _ (TL og hy qD o2 ha hb)
   ·rw[if_neg (by omega),if_pos e8];refine⟨by omega,w,BA,by omega,?_⟩;rw[show y.map D.str++[D.str w]=(y++[w]).map D.str by rw[aq];rfl];walk_at "go";exact fin _ (JH og hy qD Bz)
  ·rw[if_neg o1,if_pos e8];refine⟨by omega,w,BA,by omega,?_⟩;rw[show y.map D.str++[D.str w]=(y++[w]).map D.str by rw[aq];rfl];walk_at "go";exact fin _ (JH og hy qD Bz)
 rw[if_neg e8,if_neg e8];by_cases e9:m=9
 ·rw[if_pos e9];have:=u7 3 (by omega);cases this;have hW:hd y=sW:=aF.mp qD;rw[pV _ (by omega),oP _ (by omega),Int.toNat_natCast];have:=q _ (w9 og hy hW);rw[aq,aq] at this;exact⟨by omega,by simp only[aa,ay];omega,by simp only[aa,ay,aL,aw,List.length_singleton];omega,this⟩
 rw[if_neg e9];by_cases KL:m=10
 ·rw[if_pos KL];have:=u7 4 (by omega);cases this;have hB:hd y=sB:=aF.mp qD;obtain⟨o,ho⟩:∃o,y[1]?=some o:=⟨_,ag (by omega)⟩
  rw[pV _ (by omega),oP _ (by omega),Int.toNat_natCast];have:=q _ (TR og hy hB ho);rw[aq,aq] at this;exact⟨o,kA (k:=1) ho,by omega,by omega,by simp only[aa,ay];omega,by simp only[aa,ay,aL,aw,List.length_singleton];omega,this⟩
 rw[if_neg KL];by_cases KJ:m=11
 ·rw[if_pos KJ];have:=u7 5 (by omega);cases this;have hW:hd y=sW:=aF.mp qD;obtain⟨p,⟨c,hc⟩,_⟩:=og.g.pW y ym hW;have y3:y.length=3:=by rw[hc];rfl
  obtain⟨w,hm,hp⟩:=zY ["1","4","0"] (i:=x/16%3) (by omega) (by show _<(3:Int);omega);refine⟨by omega,_,hp,2,Cy (k:=2) (by omega),?_⟩;rw[show(y.map D.str).set 2 (.str w)=(y.set 2 w).map D.str by rw[List.map_set]];walk_at "go";exact fin _ (TQ og hy hW hm)
 rw[if_neg KJ];by_cases KI:m=12
 ·rw[if_pos KI];have:=u7 6 (by omega);cases this;refine⟨by omega,by omega,by omega,?_⟩;have cm:gL y none (some (-1))=y.dropLast:=NF y Bl;rw[cm];rcases(show x/16%2=0\/x/16%2=1 by omega) with z | z
  ·rw[z];refine⟨dS y.dropLast,rfl,?_⟩;walk_at "go";exact fin _ (JI og hy qD wC (.inl rfl))
  ·rw[z];refine⟨dS (y++[Str.ofString "1"]),by unfold dS;rw[aq];rfl,?_⟩;walk_at "go";exact fin _ (JI og hy qD wC (.inr rfl))
 rw[if_neg KI];refine⟨y,_,rfl,wC,by omega,fun w hw=>⟨y6 w hw,D8 w hw⟩,by omega,by omega,fun y' ow=>?_⟩;walk_at "go";exact fin _ (TM og hy ow)
end Wc
namespace Wc
open PySem L2 PyProof.Rows
end Wc
open PySem L2 PyProof.Rows Wc
local macro_rules | `(tactic| walk_at "px")=>`(tactic| (repeat(first | walk_at "b" | simp only[Cc,tq,eY])))
namespace Wc
open PySem L2 PyProof.Rows
def wc:eO:=fun ds Q=>∃t:Str,ds=[.str t]/\t.length<=1000000/\BV (oO t)/\lN (oO t)/\Q (.fz (.bl true))
def D2:TX:=(bQ (dX 1 (dC .non))
 (bQ (Cc 2 1 1 qY (bx (br 0) bD) "BadText")
 (bQ (gR (zH (vD (dh (tq "BadText" true (br 1)))) (vD (dh (tq "BadText" true (br 1))))) (eX (dC (.bl false))) hZ)
 (bQ (gR (dh (tq "BadText" false (br 1))) (eX (dC (.bl false))) hZ)
 (eX (Cb (tq "BadText" false (br 1))))))))
theorem Th:jP 1 wc D2 ["_law_text_here","_law_caught","error"]:=by
 intro ds Qr hl h;obtain⟨t,rfl,ht,hs,hb,q⟩:=h;show D2 _ [.fz (.str t),.un,.un];unfold D2;have big:=iq;walk_at "px";walk_at "go";refine⟨t,rfl,ht,hs,fun c e nm ls=>absurd ls (hb c e nm),fun _=>?_⟩;walk_at "go";walk_at "go";walk_at "go";exact q
theorem yb{ls:List (List Str)}(h:∀l∈ls,mP l):oO (tF ls)=ls:=Pl (Ra h)
theorem GU{ls:List (List Str)}(h1:ls.length<=100)(h:∀l∈ls,mP l):BV ls:=⟨by omega,fun l hl=>⟨by have:=(h l hl).1.1;omega,fun w hw=>by have:=(h l hl).1.2 w hw;omega⟩⟩
def xg:TX:=(bQ (dX 1 (fq 1 ya (bx (fZ (br 0) (fv (dC (.int 1))) gN) bD)))
 (bQ (dX 2 (fq 1 yt (bx (br 1) bD)))
 (bQ (dX 3 (bB (oI (fun _ j=>0<j) fun i j=>.int (i%j)) (bB (oI iK fun i j=>.int (i*j)) (bB cT (bB (oI (fun _ j=>0<j) fun i j=>.int (i%j)) (dF rJ (bx (fZ (br 0) gN (fv (dC (.int 1)))) bD)) (bB (oI oA fun i j=>.int (i ^ j.toNat)) (dC (.int 10)) (dC (.int 20)))) (dC (.int 17))) (dC (.int 48271))) (dC (.int 2147483647))))
 (bQ (dX 4 (bB (oI (fun _ j=>0<j) fun i j=>.int (i%j)) (br 3) (dC (.int 14))))
 (bQ (dX 3 (bB (oI gS fun i j=>.int (i/j)) (br 3) (dC (.int 14))))
 (bQ (gR (dh (bB wB (kS "top" (eY 1 qY False (bx (fq 1 sf (bx (br 2) bD)) bD))) (bB cD (br 1) (dC (.int 0))))) (eX (dC (.bl false))) hZ)
 (bQ (dX 5 (sP (dh (bB (gO fun i j=>.bl (decide (i<j))) (br 4) (dC (.int 6)))) (fq 3 yk (bx (br 2) (bx (br 4) (bx (br 3) bD)))) (fq 3 yj (bx (br 2) (bx (br 4) (bx (br 3) bD))))))
 (eX (zT (fq 1 wc (bx (fq 1 sf (bx (br 5) bD)) bD)) (bB oEq (kS "bottom" (eY 1 qY False (bx (fq 1 sf (bx (br 2) bD)) bD))) (bB cD (br 1) (dC (.int 1)))))))))))))
theorem Pj:jP 1 (Cq 63) xg ["_law_script","_law_lists","_law_lines_here","_law_mix_here","_law_manner","_law_bad"]:=by
 intro ds Qr hl h;obtain⟨ns,rfl,hn,q⟩:=h;show xg _ [.fz (dI ns),.un,.un,.un,.un,.un];unfold xg;have big:=iq;unfold dI;walk_at "px";refine⟨ns.drop 1,by unfold dI;rw[oP _ (by decide)];rfl,by rw[aL];omega,fun ps c hc=>?_⟩;change nK _ _ [.fz (.lst (ns.map .int)),.fz (.lst c.parts),.un,.un,.un,.un];have ok:=HL hc.any;have lo:=HF hc;have og:=NI hc;have nl:=GX hc;walk_at "go";refine⟨c,rfl,hc.any,?_⟩;walk_at "go";refine⟨by unfold oA;decide,?_⟩;generalize hz:((gL ns none (some 1)).sum%100000000000000000000+17)*48271%2147483647=z;have z0:0<=z:=by omega
 have z1:z<2147483647:=by omega
 clear hz;walk_at "go";walk_at "go"
 have rd:∀Q:R->Prop,Q (.fz c.obj)->qY [.str (tF (iI c))] Q False:=fun Q hq=>⟨_,rfl,by have:=IJ ok.1 lo;omega,by rw[yb lo];exact GU ok.1 lo,fun c' e Bw Wr=>by
  rw[yb lo] at e;have:=yc nl.1;rw[e,yc Bw] at this;subst this;exact hq,fun h=>h c (yb lo) nl.1 nl.2⟩
 walk_at "go";refine⟨iI c,rfl,ok.1,ok.2,rd _ ?_⟩;unfold de.parts;walk_at "px";have Ek:=GD 8 c.top;have El:=GD 8 c.bp;refine⟨_,rfl,dP c.top,rfl,Ek,Ek,?_⟩;have er:=xR 9 _ Ek;have eb:=xR 9 _ El;simp only[xr,er,Bool.not_true,aR,if_false]
 have sp:∀L',k7 L'->nK (eX
            (zT (fq 1 wc (bx (fq 1 sf (bx (br 5) bD)) bD))
             (bB oEq
              (kS (Str.ofString "bottom")
               (eY 1 qY False
                (bx (fq 1 sf (bx (br 2) bD)) bD)))
              (bB cD (br 1) (dC (D.int 1))))))
          { nx:=fun x=>Qr (R.fz D.non),rt:=Qr }
          [Sl.fz (D.lst (List.map D.int ns)),
           Sl.fz (D.lst [dP c.top,dP c.bp,dS c.left,dS c.right,dW c.wide,dB c.bH,dK c.keeps]),
           Sl.fz (D.lst (List.map dS (iI c))),Sl.fz (D.int (z/14)),Sl.fz (D.int (z%14)),Sl.fz (.lst (L'.map dS))]:=fun L' sp=>by
  obtain⟨hb,vd,vg⟩:=sp;walk_at "go";refine⟨L',rfl,vd,fun l hl=>(vg l hl).1,_,rfl,by have:=IJ vd vg;omega,by rw[yb vg];exact GU vd vg,by rw[yb vg];exact hb,?_⟩;walk_at "px";refine⟨iI c,rfl,ok.1,ok.2,rd _ ⟨_,rfl,dP c.bp,rfl,El,El,?_⟩⟩;show Qr (.fz (.bl (cX (dP c.bp) (dP c.bp))));rw[eb];exact q
 walk_at "go";by_cases m6:z%14<6
 ·rw[if_pos m6];exact⟨iI c,_,_,rfl,og,by omega,m6,by omega,by omega,sp⟩
 ·rw[if_neg m6];exact⟨iI c,_,_,rfl,og,by omega,by omega,by omega,by omega,sp⟩
end Wc
end
namespace Wc
open PySem PySem.Spec PyProof.Rows L2
local macro_rules | `(tactic| walk_at "sc")=>`(tactic| exact⟨rfl,rfl,rfl,by decide +kernel,rfl,by decide +kernel,by decide +kernel⟩)
local macro_rules | `(tactic| walk_at "bn")=>`(tactic| (intro _ _ _ _ _ _ us hl;first | (obtain⟨_,rfl⟩:=pj hl;exact rfl) | (obtain⟨_,_,rfl⟩:=B4 hl;exact rfl) | (obtain⟨_,_,_,rfl⟩:=Ga hl;exact rfl) | (obtain⟨_,_,_,_,rfl⟩:=F9 hl;exact rfl) | (obtain⟨_,_,_,_,_,rfl⟩:=F8 hl;exact rfl) | (obtain⟨_,_,_,_,_,_,rfl⟩:=F7 hl;exact rfl) | (obtain⟨_,_,_,_,_,_,_,rfl⟩:=F6 hl;exact rfl)))
def top(i:Nat):Stmt:=PySem.Challenge.pw_wirechannel_k04_not_texts.main.body.getD i (.Pass ⟨0,0,0,0⟩)
structure Txt (K:PySem.W.Frag) (mg:Str->Option Value):Prop where
 b_ValueError:mg "ValueError"=none
 b_all:mg "all"=none
 b_enumerate:mg "enumerate"=none
 b_int:mg "int"=none
 b_isinstance:mg "isinstance"=none
 b_len:mg "len"=none
 b_list:mg "list"=none
 b_max:mg "max"=none
 b_min:mg "min"=none
 b_range:mg "range"=none
 b_set:mg "set"=none
 b_sorted:mg "sorted"=none
 b_str:mg "str"=none
 b_sum:mg "sum"=none
 b_zip:mg "zip"=none
 f7:∃t,mg "FIGURES"=some (.str "0123456789" t)
 fU:sZ K mg "FIRST_HEADS" ["top","bottom","left","right"]
 f6:∃t,mg "LETTERS"=some (.str "abcdefghijklmnopqrstuvwxyz" t)
 c7:∃t,mg "LONGEST_NAME"=some (.int 6 t)
 c6:∃t,mg "MOST_COLUMNS"=some (.int 40 t)
 ej:∃t,mg "MOST_KEEPS"=some (.int 8 t)
 eh:∃t,mg "MOST_NAMES"=some (.int 24 t)
theorem qm{K:PySem.W.Frag}{C C2:Addr}(h:PySem.W.mroIn K C (.ref C2)=some true):subIn K C C2=true:=by
 unfold PySem.W.mroIn PySem.W.clsIn at h;unfold subIn;split at h
 ·rename_i e;rw[e];simp only[Option.bind_some] at h;split at h
  ·cases h
  ·simpa using h
 ·cases h
section
variable {P:Program} {w:World} {K:PySem.W.Frag} {mg:Str->Option Value} {base:Heap} {bj b9 cI bV cH cG fi cw ez cE cu ey:Addr}
abbrev h9:Stmt:=N3 (top 3) 0
theorem Q5:bF ["self","top","bottom","left","right","wide","bends","keeps"] ("self"::["top","bottom","left","right","wide","bends","keeps"]) (bz h9):=by walk_at "sc"
theorem RH(A:B2 K mg "Channel" "Channel.__init__" h9 ["top","bottom","left","right","wide","bends","keeps"])(T:Txt K mg) :j8 P w K mg base 1 "Channel" 7 v7:=by
 obtain⟨C,f,fd,hC,M,F,hm,na⟩:=A.ex;refine⟨C,f,fd,_,M,QC (T:=AX) F Q5 hC (fun cg A outer s H E hr=>?_) (fun ds Qr _ h=>Rq ds Qr _ (fun fs e p hp=>na.all _ (by rw[<-e];exact bh hp)) h),hm,F.binds fun _ _ _ _ _ _ us hl=>by obtain⟨_,_,_,_,_,_,_,_,rfl⟩:=F5 hl;exact rfl⟩;have hu:=hr.units;exact(uC hC.cls na.1 (mS rX T.b_list boot_list (bA (bu 1) bE))
  (uC hC.cls na.2.1 (mS rX T.b_list boot_list (bA (bu 2) bE))
  (uC hC.cls na.2.2.1 (mS rX T.b_list boot_list (bA (bu 3) bE))
  (uC hC.cls na.2.2.2.1 (mS rX T.b_list boot_list (bA (bu 4) bE))
  (uC hC.cls na.2.2.2.2.1 (mS rX T.b_list boot_list (bA (bu 5) bE))
  (uC hC.cls na.2.2.2.2.2.1 (mS rX T.b_list boot_list (bA (bu 6) bE))
  (uC hC.cls na.2.2.2.2.2.2.1 (mS rX T.b_list boot_list (bA (bu 7) bE))
  Nv)))))))
theorem jY:bF ["word"] ["word"] (bz (top 4)):=by walk_at "sc"
theorem Rp:(["sign"]:List Str).Nodup:=by decide +kernel
theorem iW:bF ["members"] ["members"] (bz (top 37)):=by walk_at "sc"
theorem JD:(["one","other"]:List Str).Nodup:=by decide +kernel
theorem iX:bF ["channel","names"] ["channel"] (bz (top 38)):=by walk_at "sc"
theorem Sm:(["name"]:List Str).Nodup:=by decide +kernel
theorem Sk:(["pair"]:List Str).Nodup:=by decide +kernel
theorem Sj:(["pair"]:List Str).Nodup:=by decide +kernel
theorem jx:bF ["line"] ["line"] (bz (top 26)):=by walk_at "sc"
theorem RG:(["word"]:List Str).Nodup:=by decide +kernel
theorem jy:bF ["text","lines"] ["text"] (bz (top 25)):=by walk_at "sc"
theorem RF:(["line"]:List Str).Nodup:=by decide +kernel
theorem RE:(["words"]:List Str).Nodup:=by decide +kernel
theorem iZ:bF ["_law_cell","_law_size","_law_signs","_law_stem_here","_law_k"] ["_law_cell","_law_size"] (bz (top 40)):=by walk_at "sc"
theorem iy:bF ["_law_cell","_law_size","_law_stem_here","_law_at","_law_other"] ["_law_cell"] (bz (top 41)):=by walk_at "sc"
theorem R4:(["_law_sign","_law_stem_here","_law_at","_law_size"]:List Str).Nodup:=by decide +kernel
theorem R3:(["_law_k","_law_stem_here","_law_size"]:List Str).Nodup:=by decide +kernel
theorem R1:(["_law_k","_law_stem_here"]:List Str).Nodup:=by decide +kernel
theorem jz:bF ["_law_cell","_law_k"] ["_law_cell","_law_k"] (bz (top 42)):=by walk_at "sc"
theorem i3:bF ["_law_words","_law_cells","_law_seed","_law_width","_law_top","_law_bottom","_law_c","_law_row","_law_side","_law_k","_law_one"] ["_law_words","_law_cells","_law_seed","_law_width"] (bz (top 43)):=by walk_at "sc"
theorem i4:bF ["_law_words","_law_bits"] ["_law_words","_law_bits"] (bz (top 48)):=by walk_at "sc"
theorem Si:(["_law_k","_law_words","_law_bits"]:List Str).Nodup:=by decide +kernel
theorem i5:bF ["_law_top","_law_bottom","_law_left","_law_right","_law_word","_law_some"] ["_law_top","_law_bottom","_law_left","_law_right","_law_word"] (bz (top 44)):=by walk_at "sc"
theorem gE:bF ["_law_top","_law_bottom","_law_left","_law_right","_law_word","_law_places"] ["_law_top","_law_bottom","_law_left","_law_right","_law_word"] (bz (top 45)):=by walk_at "sc"
theorem Tg:(["_law_c","_law_word","_law_top","_law_bottom"]:List Str).Nodup:=by decide +kernel
theorem iB:bF ["_law_lists","_law_words","_law_cells","_law_seed","_law_top","_law_bottom","_law_left","_law_right","_law_bends_here","_law_c","_law_one","_law_word","_law_l","_law_r","_law_here"] ["_law_lists","_law_words","_law_cells","_law_seed"] (bz (top 46)):=by walk_at "sc"
theorem R0:(["_law_x"]:List Str).Nodup:=by decide +kernel
theorem iA:bF ["_law_width","_law_cells","_law_seed","_law_keeps_here","_law_k","_law_cell","_law_one","_law_first"] ["_law_width","_law_cells","_law_seed"] (bz (top 47)):=by walk_at "sc"
theorem gG:bF ["_law_script","_law_most","_law_seed","_law_words","_law_width","_law_cells","_law_top","_law_bottom","_law_bits","_law_left","_law_right","_law_lone","_law_wide","_law_k","_law_word","_law_one","_law_bends_here","_law_keeps_here"] ["_law_script","_law_most"] (bz (top 49)):=by walk_at "sc"
theorem Tf:(["_law_word","_law_top","_law_bottom","_law_left","_law_right"]:List Str).Nodup:=by decide +kernel
theorem Te:(["_law_word","_law_lone"]:List Str).Nodup:=by decide +kernel
theorem Td:(["_law_word","_law_lone"]:List Str).Nodup:=by decide +kernel
theorem Tc:(["_law_word","_law_lone"]:List Str).Nodup:=by decide +kernel
theorem Tb:(["_law_word","_law_lone"]:List Str).Nodup:=by decide +kernel
theorem jB:bF ["_law_script","_law_lists","_law_seed","_law_more","_law_k","_law_cell","_law_one","_law_columns","_law_names"] ["_law_script"] (bz (top 50)):=by walk_at "sc"
theorem JB:(["_law_c","_law_word"]:List Str).Nodup:=by decide +kernel
theorem iz:bF ["_law_lists","_law_lines_here","_law_side","_law_word"] ["_law_lists"] (bz (top 51)):=by walk_at "sc"
theorem JF:(["_law_word","_law_k"]:List Str).Nodup:=by decide +kernel
theorem JE:(["_law_c","_law_word"]:List Str).Nodup:=by decide +kernel
theorem DV:(["_law_l","_law_r","_law_k"]:List Str).Nodup:=by decide +kernel
theorem iY:bF ["_law_lines_here"] ["_law_lines_here"] (bz (top 52)):=by walk_at "sc"
theorem Sh:(["_law_line"]:List Str).Nodup:=by decide +kernel
theorem fY:bF ["_law_lines_here","_law_manner","_law_mix_here","_law_at","_law_some","_law_odd"] ["_law_lines_here","_law_manner","_law_mix_here"] (bz (top 55)):=by walk_at "sc"
theorem S1:(["_law_k","_law_lines_here"]:List Str).Nodup:=by decide +kernel
theorem jA:bF ["_law_lines_here","_law_heads","_law_least"] ["_law_lines_here","_law_heads","_law_least"] (bz (top 54)):=by walk_at "sc"
theorem RD:(["_law_k","_law_heads","_law_least","_law_lines_here"]:List Str).Nodup:=by decide +kernel
theorem eZ:bF ["_law_line","_law_mix_here","_law_at"] ["_law_line","_law_mix_here"] (bz (top 53)):=by walk_at "sc"
theorem fX:bF ["_law_lines_here","_law_manner","_law_mix_here","_law_heads","_law_some","_law_at","_law_line"] ["_law_lines_here","_law_manner","_law_mix_here"] (bz (top 56)):=by walk_at "sc"
theorem gF:bF ["_law_text_here","_law_caught","error"] ["_law_text_here"] (bz (top 57)):=by walk_at "sc"
theorem qt:bF ["_law_script","_law_lists","_law_lines_here","_law_mix_here","_law_manner","_law_bad"] ["_law_script"] (bz (top 58)):=by walk_at "sc"
variable (T:Txt K mg)
variable (il:j8 P w K mg base 1 "Channel" 7 v7)
include T in
theorem RC(A:At K mg "is_name" (top 4)):Known P w K mg base 1 "is_name" 1 v8:=jW 0 A jY (fun f cg A outer s H E hr=>have hu:=hr.units;have nd:=jY.nd
 have ⟨wx,f6⟩:=T.f6;have ⟨ql,c7⟩:=T.c7
 (bU (iu (Am (OD uy uy bC (gD jU T.b_len boot_len (bA (bu 0) bE)) (AQ c7))) (dm (gM Aa)) iH)
   (dm (gM (gD (z8 rfl) T.b_all boot_all (bA (jF rfl (.of (N':=["sign"]) (m:=[none]) (by kernel_rfl)) gQ (iG (bu 0)) (fun s3 H3 ex=>(dw 0 Rp)) (fun s3 H3 ex=>kq) (fun s3 H3 ex=>(mY (oE hu) (bu 0) (Ij f6)))) bE)))))) Rr (by walk_at "bn")
variable (ik:Known P w K mg base 1 "is_name" 1 v8)
include T in
theorem RZ(A:At K mg "is_rising" (top 37)):Known P w K mg base 1 "is_rising" 1 se:=jW 0 A iW (fun f cg A outer s H E hr=>have hu:=hr.units;have nd:=iW.nd
 (dm (gM (gD (z8 rfl) T.b_all boot_all (bA (jF rfl (.of (N':=["one","other"]) (m:=[none,none]) (by kernel_rfl)) A5 (Ou T.b_zip (bA (bu 0) (bA (gk (bu 0) (fQ bC) gT) bE))) (fun s3 H3 ex=>(pY rfl (jj (dw 0 JD) (jj (dw 1 JD) pC)))) (fun s3 H3 ex=>kq) (fun s3 H3 ex=>(mY Lg (bu 0) (bu 1)))) bE))))) So (by walk_at "bn")
variable (dg:Known P w K mg base 1 "is_rising" 1 se)
include T in
theorem RY(A:At K mg "all_names" (top 38)):Known P w K mg base 1 "all_names" 1 we:=jW 0 A iX (fun f cg A outer s H E hr=>have hu:=hr.units;have nd:=iX.nd
 (bU (HA 1 rfl (.of (N':=["name"]) (m:=[none]) (by kernel_rfl)) gQ (iG (bK cW (me (bu 0)) (me (bu 0)))) (fun s3 H3 ex=>(dw 0 Sm)) (fun s3 H3 ex=>(nO (eA C0 (bu 0) rT))) (fun s3 H3 ex=>(bu 0)) nd)
   (bU (Ak 1 (bK cW (me (bu 0)) (me (bu 0))))
   (bU (Ak 1 (jF rfl (.of (N':=["pair"]) (m:=[none]) (by kernel_rfl)) gQ (iG (me (bu 0))) (fun s3 H3 ex=>(dw 0 Sk)) (fun s3 H3 ex=>kq) (fun s3 H3 ex=>(cN (bu 0) bC))))
   (bU (Ak 1 (jF rfl (.of (N':=["pair"]) (m:=[none]) (by kernel_rfl)) gQ (iG (me (bu 0))) (fun s3 H3 ex=>(dw 0 Sj)) (fun s3 H3 ex=>kq) (fun s3 H3 ex=>(cN (bu 0) bC))))
   (dm (CW 1))))))) Sn (by walk_at "bn")
variable (fN:Known P w K mg base 1 "all_names" 1 we)
include T in
theorem Sg(A:At K mg "words_of" (top 26)):Known P w K mg base 1 "words_of" 1 x9:=jW 0 A jx (fun f cg A outer s H E hr=>have hu:=hr.units;have nd:=jx.nd
 (dm (gM (jF rfl (.of (N':=["word"]) (m:=[none]) (by kernel_rfl)) gQ (iG (vR Ha (.inr rfl) PySem.F.plainAttrs_str PySem.F.slot_str_split PySem.F.type_str_split (bu 0) (bA bY bE))) (fun s3 H3 ex=>(dw 0 RG)) (fun s3 H3 ex=>(nO (eA (zU hu) (bu 0) bY))) (fun s3 H3 ex=>(bu 0)))))) RK (by walk_at "bn")
variable (gu:Known P w K mg base 1 "words_of" 1 x9)
include T gu in
theorem Sf(A:At K mg "lines_of" (top 25)):Known P w K mg base 2 "lines_of" 1 wq:=jW 1 A jy (fun f cg A outer s H E hr=>have hu:=hr.units;have nd:=jy.nd
 (bU (Dd 1 rfl (.of (N':=["line"]) (m:=[none]) (by kernel_rfl)) gQ (iG (vR Ha (.inr rfl) PySem.F.plainAttrs_str PySem.F.slot_str_split PySem.F.type_str_split (bu 0) (bA bY bE))) (fun s3 H3 ex=>(dw 0 RF)) (fun s3 H3 ex=>kq) (fun s3 H3 ex=>(gC gu hr (bA (bu 0) bE))) nd)
   (dm (gM (jF rfl (.of (N':=["words"]) (m:=[none]) (by kernel_rfl)) gQ (iG (bu 1)) (fun s3 H3 ex=>(dw 0 RE)) (fun s3 H3 ex=>(nO (eA zV (gD jU T.b_len boot_len (bA (bu 0) bE)) bC))) (fun s3 H3 ex=>(bu 0))))))) RJ (by walk_at "bn")
variable (gv:Known P w K mg base 2 "lines_of" 1 wq)
include T in
theorem RX(A:At K mg "_law_stem" (top 40)):Known P w K mg base 1 "_law_stem" 2 yz:=jW 0 A iZ (fun f cg A outer s H E hr=>have hu:=hr.units;have nd:=iZ.nd
 (bU (eF 2 bY nd)
   (bU (eF 3 bY nd)
   (bU (pZ PassesOwn.never rfl (qd T.b_range (bA (bu 1) bE)) (dw 4 nd)
    (bU (eF 3 (bK cW (bu 3) (cN (bu 2) (bK dY (bu 0) bC))) nd)
   (dm (eF 0 (bK iw (bu 0) bC) nd))))
   (dm (gM (bu 3))))))) RO (by walk_at "bn")
variable (fO:Known P w K mg base 1 "_law_stem" 2 yz)
include T fO in
theorem SH(A:At K mg "_law_named" (top 41)):Known P w K mg base 2 "_law_named" 1 wa:=jW 1 A iy (fun f cg A outer s H E hr=>have hu:=hr.units;have nd:=iy.nd
 (bU (eF 0 (bK dY (bK qS (bK cW (bK dY (bu 0) (bK vM bC bC)) bC) bC) (bK cW (bK vM bC bC) bC)) nd)
   (bU (eF 1 (bK dY (bu 0) bC) nd)
   (bU (eF 2 (gC fO hr (bA (bK iw (bu 0) bC) (bA bC bE))) nd)
   (bU (eF 3 (bK dY (bK iw (bu 0) bC) (bK cW (bu 1) bC)) nd)
   (bU (iu (eA (gJ hu) (bK dY (bK iw (bu 0) bC) bC) bC) (dm (gM (jF rfl (.of (N':=["_law_sign","_law_stem_here","_law_at","_law_size"]) (m:=[none,some 2,some 3,some 1]) (by kernel_rfl)) gQ (iG bY) (fun s3 H3 ex=>(dw 0 R4)) (fun s3 H3 ex=>kq) (fun s3 H3 ex=>(bK cW (bK cW (gk (bu 1) gT (fQ (bu 2))) (bu 0)) (gk (bu 1) (fQ (bu 2)) (fQ (bu 3)))))))) iH)
   (bU (iu (eA (gJ hu) (bK dY (bK iw (bu 0) bC) bC) bC) (dm (gM (jF rfl (.of (N':=["_law_k","_law_stem_here","_law_size"]) (m:=[none,some 2,some 1]) (by kernel_rfl)) gQ (qd T.b_range (bA bC bE)) (fun s3 H3 ex=>(dw 0 R3)) (fun s3 H3 ex=>kq) (fun s3 H3 ex=>(bK cW (bK cW (bK cW (gk (bu 1) gT (fQ (bK dY (bu 2) bC))) (cN bY (bK iw (bu 0) bC))) (cN bY (bK dY (bK iw (bu 0) bC) bC))) (cN bY (bK dY (bu 0) bC))))))) iH)
   (bU (eF 4 (bK cW (cN bY (mS Mj T.b_int boot_int (bA (mY (gJ hu) (cN (bu 2) bC) bY) bE))) (gk (bu 2) (fQ bC) gT)) nd)
   (dm (gM (bK cW (jF rfl (.of (N':=["_law_k","_law_stem_here"]) (m:=[none,some 2]) (by kernel_rfl)) gQ (qd T.b_range (bA bC bE)) (fun s3 H3 ex=>(dw 0 R1)) (fun s3 H3 ex=>kq) (fun s3 H3 ex=>(gk (bu 1) gT (fQ (bK cW (bu 0) bC))))) (di (bA (gk (bu 4) gT (fQ bC)) (bA (gk (bu 4) gT (fQ bC)) bE)))))))))))))) SU (by walk_at "bn")
variable (cQ:Known P w K mg base 2 "_law_named" 1 wa)
include T in
theorem Se(A:At K mg "_law_mix" (top 42)):Known P w K mg base 1 "_law_mix" 2 pD:=jW 0 A jz (fun f cg A outer s H E hr=>have hu:=hr.units;have nd:=jz.nd
 (dm (gM (bK iw (bK dY (bK cW (bK cW (bK qS (bK dY (bu 0) (bK vM bC bC)) (bK cW (bK qS (bu 1) (bu 1)) bC)) (bK qS (bK qS (bK qS bC (bu 1)) (bu 1)) (bu 1))) bC) bC) bC)))) Rx (by walk_at "bn")
variable (bN:Known P w K mg base 1 "_law_mix" 2 pD)
include T bN in
theorem RW(A:At K mg "_law_pins" (top 43)):Known P w K mg base 2 "_law_pins" 4 yy:=jW 1 A i3 (fun f cg A outer s H E hr=>have hu:=hr.units;have nd:=i3.nd
 (bU (kE 4 (di bE) nd)
   (bU (kE 5 (di bE) nd)
   (bU (pZ PassesOwn.never rfl (qd T.b_range (bA (bu 3) bE)) (dw 6 nd)
    (bU (kE 7 (di bE) nd)
   (bU (pZ PassesOwn.never rfl (qd T.b_range (bA bC bE)) (dw 8 nd)
    (bU (eF 9 (bK cW (bK qS bC (bu 6)) (bu 8)) nd)
   (bU (eF 10 (gC bN hr (bA (bu 2) (bA (bu 9) bE))) nd)
   (bU (iu (eA zW (bu 9) (gD jU T.b_len boot_len (bA (bu 1) bE))) (dm (eF 10 (gC bN hr (bA (cN (bu 1) (bu 9)) (bA (bu 9) bE))) nd)) iH)
   (dm (pz 7 (cN (di (bA (cN (bu 0) (bK dY (bu 10) bC)) (bA (cN (bu 0) (bK dY (bK iw (bu 10) bC) bC)) (bA (cN (bu 0) (bK dY (bK iw (bu 10) bC) bC)) (bA rT bE))))) (bK dY (bK iw (bu 10) bC) bC))))))))
   (bU (pz 4 (tI 7 bC))
   (dm (pz 5 (tI 7 bC)))))))
   (lj 5 (lj 4 (dm (gM (qU (bA (bu 4) (bA (bu 5) bE))))))))))) Su (by walk_at "bn")
variable (fP:Known P w K mg base 2 "_law_pins" 4 yy)
include T in
theorem RV(A:At K mg "_law_open" (top 48)):Known P w K mg base 1 "_law_open" 2 wg:=jW 0 A i4 (fun f cg A outer s H E hr=>have hu:=hr.units;have nd:=i4.nd
 (bU (iu (eA (gJ hu) (bK dY (bK iw (bu 1) bC) bC) bC) (dm (gM (di bE))) iH)
   (dm (gM (gD (HX rfl) T.b_sorted boot_sorted (bA (jF rfl (.of (N':=["_law_k","_law_words","_law_bits"]) (m:=[none,some 0,some 1]) (by kernel_rfl)) gQ (qd T.b_range (bA bC bE)) (fun s3 H3 ex=>(dw 0 Si)) (fun s3 H3 ex=>(nO (eA (gJ hu) (bK dY (bK iw (bu 2) (cN (di (bA bC (bA bC (bA bC (bA bC (bA bC (bA bC (bA bC (bA bC bE))))))))) (bu 0))) bC) bC))) (fun s3 H3 ex=>(cN (bu 1) (bu 0)))) bE)))))) Sr (by walk_at "bn")
variable (eJ:Known P w K mg base 1 "_law_open" 2 wg)
include T in
theorem RU(A:At K mg "_law_many" (top 44)):Known P w K mg base 1 "_law_many" 5 wj:=jW 0 A i5 (fun f cg A outer s H E hr=>have hu:=hr.units;have nd:=i5.nd
 (bU (eF 5 (bK cW (bK cW (bK cW (bu 0) (bu 1)) (bu 2)) (bu 3)) nd)
   (dm (gM (vR (HD hu) (.inl rfl) PySem.F.plainAttrs_list PySem.F.slot_list_count PySem.F.type_list_count (bu 5) (bA (bu 4) bE)))))) Ss (by walk_at "bn")
variable (eK:Known P w K mg base 1 "_law_many" 5 wj)
include T in
theorem S0(A:At K mg "_law_stretch" (top 45)):Known P w K mg base 1 "_law_stretch" 5 yi:=jW 0 A gE (fun f cg A outer s H E hr=>have hu:=hr.units;have nd:=gE.nd
 (bU (HA 5 rfl (.of (N':=["_law_c","_law_word","_law_top","_law_bottom"]) (m:=[none,some 4,some 0,some 1]) (by kernel_rfl)) gQ (qd T.b_range (bA (gD jU T.b_len boot_len (bA (bu 0) bE)) bE)) (fun s3 H3 ex=>(dw 0 Tg)) (fun s3 H3 ex=>(nO (eA (oE hu) (bu 1) (di (bA (cN (bu 2) (bu 0)) (bA (cN (bu 3) (bu 0)) bE)))))) (fun s3 H3 ex=>(bu 0)) nd)
   (bU (iu (eA (oE hu) (bu 4) (bu 2)) (dm (pz 5 (xq bC))) iH)
   (bU (iu (eA (oE hu) (bu 4) (bu 3)) (dm (pz 5 (gD jU T.b_len boot_len (bA (bu 0) bE)))) iH)
   (lj 5 (dm (gM (qU (bA (gD (Mi rfl) T.b_min boot_min (bA (bK cW (bu 5) (di (bA bC bE))) bE)) (bA (gD (Mh rfl) T.b_max boot_max (bA (bK cW (bu 5) (di (bA (xq bC) bE))) bE)) bE)))))))))) Tn (by walk_at "bn")
variable (ek:Known P w K mg base 1 "_law_stretch" 5 yi)
include T bN ek in
theorem SG(A:At K mg "_law_bends" (top 46)):Known P w K mg base 2 "_law_bends" 4 yv:=jW 1 A iB (fun f cg A outer s H E hr=>have hu:=hr.units;have nd:=iB.nd
 (bU (CJ (bu 0) (Nw rfl (jj (dw 4 nd) (jj (dw 5 nd) (jj (dw 6 nd) (jj (dw 7 nd) pC))))))
   (bU (kE 8 (di bE) nd)
   (bU (pZ PassesOwn.never rfl (qd T.b_range (bA (gD jU T.b_len boot_len (bA (bu 4) bE)) bE)) (dw 9 nd)
    (bU (eF 10 (gC bN hr (bA (cN (bK cW (bu 2) (di (bA (bu 3) bE))) (bK dY (bu 9) (bK cW (gD jU T.b_len boot_len (bA (bu 2) bE)) bC))) (bA (bK cW (bu 9) bC) bE))) nd)
   (bU (eF 11 (cN (bu 1) (bK dY (bu 10) bC)) nd)
   (bU (iu (tO (eA (gJ hu) (bK dY (bK iw (bu 10) bC) bC) bC) (xN (eA C0 (cN (bu 4) (bu 9)) rT))).pb (dm (eF 11 (cN (bu 4) (bu 9)) nd)) iH)
   (bU (CJ (gC ek hr (bA (bu 4) (bA (bu 5) (bA (bu 6) (bA (bu 7) (bA (bu 11) bE)))))) (pY rfl (jj (dw 12 nd) (jj (dw 13 nd) pC))))
   (bU (Dd 14 rfl (.of (N':=["_law_x"]) (m:=[none]) (by kernel_rfl)) gQ (iG (di (bA (cN (bu 4) (bu 9)) (bA (cN (bu 5) (bu 9)) bE)))) (fun s3 H3 ex=>(dw 0 R0)) (fun s3 H3 ex=>(nO (eA C0 (bu 0) rT))) (fun s3 H3 ex=>(bu 0)) nd)
   (dm (iu (tO (eA zW (bu 12) (bu 9)) (tO (eA zW (bu 9) (bu 13)) (tO (CK (eA (gJ hu) (bu 14) (di bE)) (CZ (eA (oE hu) (bu 11) (bu 14)))).pb (xN (eA zV (bK dY (bK iw (bu 10) bC) bC) bC))))).pb (dm (pz 8 (qU (bA (bu 9) (bA (bu 11) bE))))) iH))))))))
   (dm (CW 8)))))) SS (by walk_at "bn")
variable (eW:Known P w K mg base 2 "_law_bends" 4 yv)
include T bN in
theorem SF(A:At K mg "_law_keeps" (top 47)):Known P w K mg base 2 "_law_keeps" 3 yu:=jW 1 A iA (fun f cg A outer s H E hr=>have hu:=hr.units;have nd:=iA.nd
 (bU (kE 3 (di bE) nd)
   (bU (pZ PassesOwn.never rfl (AN T.b_enumerate (bA (gk (bu 1) gT (fQ bC)) bE)) (pY rfl (jj (dw 4 nd) (jj (dw 5 nd) pC)))
    (bU (eF 6 (gC bN hr (bA (bK cW (bu 5) (bu 2)) (bA (bK cW (bu 4) bC) bE))) nd)
   (bU (eF 7 (bK dY (bu 6) (bu 0)) nd)
   (dm (iu (eA (gJ hu) (bK dY (bK iw (bu 6) bC) bC) bC) (dm (pz 3 (qU (bA (bu 7) (bA (bK cW (bu 7) (bK dY (bK iw (bu 6) bC) (bK xm (bu 0) (bu 7)))) (bA (bK cW bC (bK dY (bK iw (bu 6) bC) bC)) bE)))))) iH)))))
   (dm (CW 3))))) SR (by walk_at "bn")
variable (eV:Known P w K mg base 2 "_law_keeps" 3 yu)
include T cQ bN fP eJ eK eW eV in
theorem SY(A:At K mg "_law_channel" (top 49)):Known P w K mg base 3 "_law_channel" 2 yh:=jW 2 A gG (fun f cg A outer s H E hr=>have hu:=hr.units;have nd:=gG.nd
 (bU (eF 2 (bK dY (bK qS (bK dY (gD (vH rfl) T.b_sum boot_sum (bA (gk (bu 0) gT (fQ bC)) bE)) (bK vM bC bC)) bC) bC) nd)
   (bU (eF 3 (gC cQ hr (bA (gD (vH rfl) T.b_sum boot_sum (bA (gk (bu 0) gT (fQ bC)) bE)) bE)) nd)
   (bU (eF 4 (bK cW bC (bK dY (bu 2) (bu 1))) nd)
   (bU (eF 5 (gk (bu 0) (fQ bC) gT) nd)
   (bU (CJ (gC fP hr (bA (bu 3) (bA (bu 5) (bA (bu 2) (bA (bu 4) bE))))) (pY rfl (jj (dw 6 nd) (jj (dw 7 nd) pC))))
   (bU (eF 8 (gC bN hr (bA (gD (vH rfl) T.b_sum boot_sum (bA (gk (bu 0) (fQ bC) (fQ bC)) bE)) (bA (bK cW bC (bK dY (bu 2) bC)) bE))) nd)
   (bU (eF 9 (gC eJ hr (bA (bu 3) (bA (bu 8) bE))) nd)
   (bU (eF 10 (gC eJ hr (bA (bu 3) (bA (bK iw (bu 8) bC) bE))) nd)
   (bU (eF 11 (jF rfl (.of (N':=["_law_word","_law_top","_law_bottom","_law_left","_law_right"]) (m:=[none,some 6,some 7,some 9,some 10]) (by kernel_rfl)) gQ (iG (bu 3)) (fun s3 H3 ex=>(dw 0 Tf)) (fun s3 H3 ex=>(nO (eA (gJ hu) (gC eK hr (bA (bu 1) (bA (bu 2) (bA (bu 3) (bA (bu 4) (bA (bu 0) bE)))))) bC))) (fun s3 H3 ex=>(bu 0))) nd)
   (bU (kE 6 (jF rfl (.of (N':=["_law_word","_law_lone"]) (m:=[none,some 11]) (by kernel_rfl)) gQ (iG (bu 6)) (fun s3 H3 ex=>(dw 0 Te)) (fun s3 H3 ex=>kq) (fun s3 H3 ex=>(AO (eA (oE hu) (bu 0) (bu 1)) rT (bu 0)))) nd)
   (bU (kE 7 (jF rfl (.of (N':=["_law_word","_law_lone"]) (m:=[none,some 11]) (by kernel_rfl)) gQ (iG (bu 7)) (fun s3 H3 ex=>(dw 0 Td)) (fun s3 H3 ex=>kq) (fun s3 H3 ex=>(AO (eA (oE hu) (bu 0) (bu 1)) rT (bu 0)))) nd)
   (bU (kE 9 (jF rfl (.of (N':=["_law_word","_law_lone"]) (m:=[none,some 11]) (by kernel_rfl)) gQ (iG (bu 9)) (fun s3 H3 ex=>(dw 0 Tc)) (fun s3 H3 ex=>(nO (eA (C1 hu) (bu 0) (bu 1)))) (fun s3 H3 ex=>(bu 0))) nd)
   (bU (kE 10 (jF rfl (.of (N':=["_law_word","_law_lone"]) (m:=[none,some 11]) (by kernel_rfl)) gQ (iG (bu 10)) (fun s3 H3 ex=>(dw 0 Tb)) (fun s3 H3 ex=>(nO (eA (C1 hu) (bu 0) (bu 1)))) (fun s3 H3 ex=>(bu 0))) nd)
   (bU (kE 12 (di bE) nd)
   (bU (pZ PassesOwn.never rfl (AN T.b_enumerate (bA (gD (HX rfl) T.b_sorted boot_sorted (bA (bu 3) bE)) bE)) (pY rfl (jj (dw 13 nd) (jj (dw 14 nd) pC)))
    (bU (eF 15 (gC bN hr (bA (bK cW (bu 2) (bu 13)) (bA bC bE))) nd)
   (dm (iu (tO (eA (gJ hu) (bK dY (bu 15) bC) bC) (xN (eA zV (Az 10 (Az 9 (Az 7 (Az 6 (gC eK hr (bA (bu 6) (bA (bu 7) (bA (bu 9) (bA (bu 10) (bA (bu 14) bE)))))))))) bC))).pb (dm (pz 12 (qU (bA (bu 14) (bA (bK cW bC (bK dY (bK iw (bu 15) bC) bC)) bE))))) iH))))
   (bU (kE 16 (vY 10 (vY 9 (vY 7 (vY 6 (gC eW hr (bA (di (bA (bu 6) (bA (bu 7) (bA (bu 9) (bA (bu 10) bE))))) (bA (bu 3) (bA (bu 5) (bA (bu 2) bE))))))))) nd)
   (bU (kE 17 (di bE) nd)
   (bU (iu (eA (gJ hu) (bK dY (bK iw (bu 2) bC) bC) bC) (dm (kE 17 (gC eV hr (bA (bu 4) (bA (bu 5) (bA (bu 2) bE)))) nd)) iH)
   (dm (Pc [6,7,9,10,12,16,17] (uG 6 (uG 7 (uG 9 (uG 10 (uG 12 (uG 16 (uG 17 MU)))))))))))))))))))))))))))) Tj (by walk_at "bn")
variable (eu:Known P w K mg base 3 "_law_channel" 2 yh)
include T cQ bN eu in
theorem Sd(A:At K mg "_law_any" (top 50)):Known P w K mg base 4 "_law_any" 1 ya:=jW 3 A jB (fun f cg A outer s H E hr=>have hu:=hr.units;have nd:=jB.nd
 (bU (kE 1 (gC eu hr (bA (bu 0) (bA bC bE))) nd)
   (bU (eF 2 (bK dY (bK qS (bK cW (bK dY (gD (vH rfl) T.b_sum boot_sum (bA (gk (bu 0) gT (fQ bC)) bE)) (bK vM bC bC)) bC) bC) bC) nd)
   (bU (kE 3 (di bE) nd)
   (bU (pZ PassesOwn.never rfl (AN T.b_enumerate (bA (gk (bu 0) (fQ bC) (fQ bC)) bE)) (pY rfl (jj (dw 4 nd) (jj (dw 5 nd) pC)))
    (bU (eF 6 (gC bN hr (bA (bK cW (bu 5) (bu 2)) (bA (bK cW (bu 4) bC) bE))) nd)
   (dm (pz 3 (qU (bA (bK dY (bu 6) bC) (bA (bK dY (bK iw (bu 6) bC) bC) (bA (bK dY (bK iw (bu 6) bC) bC) bE))))))))
   (lj 3 (bU (IB 1 bC (vY 1 (gk (bK cW (cN (bu 1) bC) (bu 3)) gT (fQ (bK dY (bu 2) bC)))))
   (bU (Pg 1 7 rfl (.of (N':=["_law_c","_law_word"]) (m:=[none,none]) (by kernel_rfl)) A5 (iG (cN (bu 1) bC)) (fun s3 H3 ex=>(pY rfl (jj (dw 0 JB) (jj (dw 1 JB) pC)))) (fun s3 H3 ex=>kq) (fun s3 H3 ex=>(bu 0)) nd)
   (bU (eF 8 (gC cQ hr (bA (gD (vH rfl) T.b_sum boot_sum (bA (gk (bu 0) gT (fQ bC)) bE)) bE)) nd)
   (bU (pZ PassesOwn.never rfl (AN T.b_enumerate (bA (gk (bu 0) (fQ bC) (fQ bC)) bE)) (pY rfl (jj (dw 4 nd) (jj (dw 5 nd) pC)))
    (bU (eF 6 (gC bN hr (bA (bK cW (bu 5) (bu 2)) (bA (bK cW (bu 4) bC) bE))) nd)
   (dm (iu (Nu 7 (eA (C1 hu) (bK dY (bu 6) bC) (bu 7))) (bU (HC 1 bC (qU (bA (bK dY (bu 6) bC) (bA (cN (bu 8) (bK dY (bK iw (bu 6) bC) bC)) bE))))
   (dm (pz 7 (bK dY (bu 6) bC)))) iH))))
   (bU (IB 1 bC (vY 1 (gD (Pz rfl) T.b_sorted boot_sorted (bA (cN (bu 1) bC) bE))))
   (dm (Nq 1))))))))))))) RL (by walk_at "bn")
variable (gz:Known P w K mg base 4 "_law_any" 1 ya)
include T in
theorem SE(A:At K mg "_law_lines" (top 51)):Known P w K mg base 1 "_law_lines" 1 yt:=jW 0 A iz (fun f cg A outer s H E hr=>have hu:=hr.units;have nd:=iz.nd
 (bU (kE 1 (Nl (di (bA bY bE)) (di (bA bY bE))) nd)
   (bU (pZ PassesOwn.never rfl (qd T.b_range (bA bC bE)) (dw 2 nd)
    (dm (pZ PassesOwn.never rfl (iG (cN (bu 0) (bu 2))) (dw 3 nd)
    (dm (HC 1 (bu 2) (AO (eA LC (bu 3) rT) bY (bu 3)))))))
   (bU (Hb 1 (bK cW (di (bA bY bE)) (cN (bu 0) bC)))
   (bU (Hb 1 (bK cW (di (bA bY bE)) (cN (bu 0) bC)))
   (lj 1 (bU (kE 1 (bK cW (bu 1) (jF rfl (.of (N':=["_law_word","_law_k"]) (m:=[none,none]) (by kernel_rfl)) A5 (iG (cN (bu 0) bC)) (fun s3 H3 ex=>(pY rfl (jj (dw 0 JF) (jj (dw 1 JF) pC)))) (fun s3 H3 ex=>kq) (fun s3 H3 ex=>(di (bA bY (bA (bu 0) (bA (mS xo T.b_str boot_str (bA (bu 1) bE)) bE))))))) nd)
   (lj 1 (bU (kE 1 (bK cW (bu 1) (jF rfl (.of (N':=["_law_c","_law_word"]) (m:=[none,none]) (by kernel_rfl)) A5 (iG (cN (bu 0) bC)) (fun s3 H3 ex=>(pY rfl (jj (dw 0 JE) (jj (dw 1 JE) pC)))) (fun s3 H3 ex=>kq) (fun s3 H3 ex=>(di (bA bY (bA (mS xo T.b_str boot_str (bA (bu 0) bE)) (bA (bu 1) bE))))))) nd)
   (lj 1 (dm (gM (bK cW (bu 1) (jF rfl (.of (N':=["_law_l","_law_r","_law_k"]) (m:=[none,none,none]) (by kernel_rfl)) Rh (iG (cN (bu 0) bC)) (fun s3 H3 ex=>(pY rfl (jj (dw 0 DV) (jj (dw 1 DV) (jj (dw 2 DV) pC))))) (fun s3 H3 ex=>kq) (fun s3 H3 ex=>(di (bA bY (bA (mS xo T.b_str boot_str (bA (bu 0) bE)) (bA (mS xo T.b_str boot_str (bA (bu 1) bE)) (bA (mS xo T.b_str boot_str (bA (bu 2) bE)) bE)))))))))))))))))))) SQ (by walk_at "bn")
variable (eU:Known P w K mg base 1 "_law_lines" 1 yt)
include T in
theorem RT(A:At K mg "_law_text" (top 52)):Known P w K mg base 1 "_law_text" 1 sf:=jW 0 A iY (fun f cg A outer s H E hr=>have hu:=hr.units;have nd:=iY.nd
 (dm (gM (vR GI (.inr rfl) PySem.F.plainAttrs_str PySem.F.slot_str_join PySem.F.type_str_join bY (bA (jF rfl (.of (N':=["_law_line"]) (m:=[none]) (by kernel_rfl)) gQ (iG (bu 0)) (fun s3 H3 ex=>(dw 0 Sh)) (fun s3 H3 ex=>kq) (fun s3 H3 ex=>(bK cW (vR GI (.inr rfl) PySem.F.plainAttrs_str PySem.F.slot_str_join PySem.F.type_str_join bY (bA (bu 0) bE)) bY))) bE))))) Sq (by walk_at "bn")
variable (dU:Known P w K mg base 1 "_law_text" 1 sf)
include T in
theorem TB(A:At K mg "_law_by_lines" (top 55)):Known P w K mg base 1 "_law_by_lines" 3 yk:=jW 0 A fY (fun f cg A outer s H E hr=>have hu:=hr.units;have nd:=fY.nd
 (bU (eF 3 (bK dY (bu 2) (gD jU T.b_len boot_len (bA (bu 0) bE))) nd)
   (bU (iu (eA (gJ hu) (bu 1) bC) (bU (eF 3 (bK dY (bu 2) bC) nd)
   (dm (gM (bK cW (gk (bu 0) gT (fQ (bu 3))) (gk (bu 0) (fQ (bK cW (bu 3) bC)) gT))))) iH)
   (bU (iu (eA (gJ hu) (bu 1) bC) (bU (eF 3 (bK dY (bu 2) bC) nd)
   (dm (gM (bK cW (bK cW (gk (bu 0) gT (fQ (bu 3))) (di (bA (cN (bu 0) (bu 3)) bE))) (gk (bu 0) (fQ (bu 3)) gT))))) iH)
   (bU (iu (eA (gJ hu) (bu 1) bC) (bU (Dd 4 rfl (.of (N':=["_law_k","_law_lines_here"]) (m:=[none,some 0]) (by kernel_rfl)) gQ (qd T.b_range (bA (bK xm (gD jU T.b_len boot_len (bA (bu 0) bE)) bC) bE)) (fun s3 H3 ex=>(dw 0 S1)) (fun s3 H3 ex=>(nO (CK (eA (zU hu) (cN (cN (bu 1) (bu 0)) bC) (cN (cN (bu 1) (bK cW (bu 0) bC)) bC)) (CZ (eA (oE hu) (cN (cN (bu 1) (bu 0)) bC) (di (bA bY (bA bY bE)))))).pb)) (fun s3 H3 ex=>(bu 0)) nd)
   (bU (eF 3 (cN (bu 4) (bK dY (bu 2) (gD jU T.b_len boot_len (bA (bu 4) bE)))) nd)
   (dm (gM (bK cW (bK cW (gk (bu 0) gT (fQ (bu 3))) (di (bA (cN (bu 0) (bK cW (bu 3) bC)) (bA (cN (bu 0) (bu 3)) bE)))) (gk (bu 0) (fQ (bK cW (bu 3) bC)) gT)))))) iH)
   (bU (iu (eA (gJ hu) (bu 1) bC) (bU (eF 5 (cN (di (bA (di (bA bY bE)) (bA (di (bA bY bE)) (bA (di (bA bY (bA bY (bA bY bE)))) (bA (di (bA bY (bA bY bE))) (bA (di (bA bY (bA bY bE))) (bA (di (bA bY bE)) (bA (di (bA bY bE)) bE)))))))) (bK dY (bK iw (bu 2) bC) bC)) nd)
   (dm (gM (bK cW (bK cW (gk (bu 0) gT (fQ (bu 3))) (di (bA (bu 5) bE))) (gk (bu 0) (fQ (bu 3)) gT))))) iH)
   (bU (iu (eA (gJ hu) (bu 1) bC) (dm (gM (di bE))) iH)
   (dm (gM (bK cW (bu 0) (di (bA (cN (di (bA (di (bA bY bE)) (bA (di (bA bY (bA bY bE))) (bA (di (bA bY bE)) (bA (di (bA bY (bA bY bE))) bE))))) (bK dY (bK iw (bu 2) bC) bC)) bE)))))))))))) S3 (by walk_at "bn")
variable (dE:Known P w K mg base 1 "_law_by_lines" 3 yk)
include T in
theorem Sb(A:At K mg "_law_fit" (top 54)):Known P w K mg base 1 "_law_fit" 3 xZ:=jW 0 A jA (fun f cg A outer s H E hr=>have hu:=hr.units;have nd:=jA.nd
 (dm (gM (jF rfl (.of (N':=["_law_k","_law_heads","_law_least","_law_lines_here"]) (m:=[none,some 1,some 2,some 0]) (by kernel_rfl)) gQ (qd T.b_range (bA (gD jU T.b_len boot_len (bA (bu 0) bE)) bE)) (fun s3 H3 ex=>(dw 0 RD)) (fun s3 H3 ex=>(nO (tO (eA (oE hu) (cN (cN (bu 3) (bu 0)) bC) (bu 1)) (xN (eA LD (gD jU T.b_len boot_len (bA (cN (bu 3) (bu 0)) bE)) (bu 2)))).pb)) (fun s3 H3 ex=>(bu 0)))))) RI (by walk_at "bn")
variable (gw:Known P w K mg base 1 "_law_fit" 3 xZ)
include T in
theorem Tu(A:At K mg "_law_other_word" (top 53)):Known P w K mg base 1 "_law_other_word" 2 yA:=jW 0 A eZ (fun f cg A outer s H E hr=>have hu:=hr.units;have nd:=eZ.nd
 (bU (kE 0 (mS rX T.b_list boot_list (bA (bu 0) bE)) nd)
   (bU (eF 2 (bK cW bC (bK dY (bu 1) (bK xm (CV 0 T.b_len) bC))) nd)
   (bU (iu (eA (oE hu) (cN (tI 0 (bu 2)) bC) bY) (bU (AL 0 (bu 2) (cN (di (bA (bK cW bY (tI 0 (bu 2))) (bA bY (bA bY (bA bY (bA bY (bA bY bE))))))) (bK dY (bK iw (bu 1) bC) bC))) (lj 0 iH)) (dm (iu (eA (oE hu) (tI 0 bC) (di (bA bY (bA bY bE)))) (bU (AL 0 (bu 2) (cN (di (bA bY (bA bY (bA bY (bA bY (bA bY (bA bY bE))))))) (bK dY (bK iw (bu 1) bC) bC))) (lj 0 iH)) (bU (AL 0 (bu 2) (cN (di (bA bY (bA bY (bA bY (bA bY (bA bY (bA bY (bA bY bE)))))))) (bK dY (bK iw (bu 1) bC) bC))) (lj 0 iH)))))
   (dm (gM (bu 0))))))) Tt (by walk_at "bn")
variable (cU:Known P w K mg base 1 "_law_other_word" 2 yA)
include T gw cU in
theorem Tz(A:At K mg "_law_by_words" (top 56)):Known P w K mg base 2 "_law_by_words" 3 yj:=jW 1 A fX (fun f cg A outer s H E hr=>have hu:=hr.units;have nd:=fX.nd
 (bU (eF 3 (di (bA (di (bA bY (bA bY bE))) (bA (di (bA bY (bA bY bE))) (bA (di (bA bY (bA bY bE))) (bA (di (bA bY bE)) (bA (di (bA bY bE)) (bA (di (bA bY bE)) bE))))))) nd)
   (bU (eF 3 (bK cW (bu 3) (di (bA (di (bA bY (bA bY (bA bY bE)))) (bA (di (bA bY (bA bY (bA bY (bA bY (bA bY (bA bY (bA bY bE)))))))) bE)))) nd)
   (bU (eF 3 (cN (bu 3) (bK xm (bu 1) bC)) nd)
   (bU (eF 4 (gC gw hr (bA (bu 0) (bA (bu 3) (bA bC bE)))) nd)
   (bU (iu (eA (gJ hu) (gD jU T.b_len boot_len (bA (bu 4) bE)) bC) (dm (gM (bK cW (bu 0) (di (bA (di (bA bY bE)) bE))))) iH)
   (bU (eF 5 (cN (bu 4) (bK dY (bu 2) (gD jU T.b_len boot_len (bA (bu 4) bE)))) nd)
   (bU (kE 6 (mS rX T.b_list boot_list (bA (cN (bu 0) (bu 5)) bE)) nd)
   (bU (eF 2 (bK iw (bu 2) bC) nd)
   (bU (iu (eA (gJ hu) (bu 1) bC) (bU (MW 6) (lj 6 iH)) (dm (iu (eA (gJ hu) (bu 1) bC) (bU (pz 6 bY) (lj 6 iH)) (dm (iu (tO (eA (gJ hu) (bu 1) bC) (tO (eA (gJ hu) (bK dY (bu 2) bC) bC) (xN (eA zV (CV 6 T.b_len) bC)))).pb (bU (MN 6 rfl (qU (bA (tI 6 (xq bC)) (bA (tI 6 bC) bE))) bC (xq bC)) (lj 6 iH)) (dm (iu (eA (gJ hu) (bu 1) bC) (bU (pz 6 (tI 6 (bK cW bC (bK dY (bK iw (bu 2) bC) (bK xm (CV 6 T.b_len) bC))))) (lj 6 iH)) (dm (iu (eA (gJ hu) (bu 1) bC) (lj 6 (dm (gM (bK cW (bK cW (gk (bu 0) gT (fQ (bu 5))) (di (bA (bu 6) bE))) (gk (bu 0) (fQ (bu 5)) gT))))) (dm (iu (eA (gJ hu) (bu 1) bC) (lj 6 (dm (gM (bK cW (bK cW (gk (bu 0) gT (fQ (bu 5))) (di (bA (di (bA bY (bA (cN (bu 6) bC) (bA bY bE)))) bE))) (gk (bu 0) (fQ (bu 5)) gT))))) (dm (iu (eA (gJ hu) (bu 1) bC) (bU (AL 6 bC (cN (di (bA bY (bA bY (bA bY bE)))) (bK dY (bu 2) bC))) (lj 6 iH)) (dm (iu (eA (gJ hu) (bu 1) bC) (lj 6 (dm (eF 6 (cN (di (bA (gk (bu 6) gT (fQ (xq bC))) (bA (bK cW (bu 6) (di (bA bY bE))) bE))) (bK dY (bu 2) bC)) nd))) (lj 6 (dm (eF 6 (gC cU hr (bA (bu 6) (bA (bu 2) bE))) nd))))))))))))))))))
   (dm (gM (bK cW (bK cW (gk (bu 0) gT (fQ (bu 5))) (di (bA (bu 6) bE))) (gk (bu 0) (fQ (bK cW (bu 5) bC)) gT)))))))))))))) S2 (by walk_at "bn")
variable (dD:Known P w K mg base 2 "_law_by_words" 3 yj)
variable (b8:bI P w K mg base bj 4 "read_channel" 1 qY)
variable (bG:cS K mg "BadText" bj [.type "ValueError",.type "Exception",.type "BaseException",.type "object"] "ValueError.__new__") (cL:cS K mg "WireError" b9 [.type "ValueError",.type "Exception",.type "BaseException",.type "object"] "ValueError.__new__") (cA:PySem.W.nsIn K mainGlobals "BadText"=some (some (.ref bj))) (bO:subIn K bj b9=true) (EK:sY K bj) (dJ:mg "BadText"=some (.ref bj)) (dR:mg "BadBend"=some (.ref cI)) (cB:mg "BadDrawing"=some (.ref bV)) (dQ:mg "BadKeep"=some (.ref cH)) (dN:mg "BadPile"=some (.ref cG)) (g7:mg "Lone"=some (.ref fi)) (c9:mg "NoLayout"=some (.ref cw)) (fM:mg "NoNet"=some (.ref ez)) (dH:mg "NoOrder"=some (.ref cE)) (c8:mg "PinTaken"=some (.ref cu)) (fL:mg "Taken"=some (.ref ey)) (I1:PySem.W.kitOne K (.ref bj) (.ref bj)=some true) (I2:PySem.W.kitOne K (.ref bj) (.type "ValueError")=some true) (I3:PySem.W.kitAny K (.ref bj) [.ref cI,.ref bV,.ref cH,.ref cG,.ref fi]=some false) (I4:PySem.W.kitAny K (.ref bj) [.ref cw,.ref ez,.ref cE,.ref cu,.ref ey]=some false)
include T b8 bG cL cA bO EK dJ dR cB dQ dN g7 c9 fM dH c8 fL I1 I2 I3 I4 in
theorem SX(A:At K mg "_law_refused" (top 57)):Known P w K mg base 5 "_law_refused" 1 wc:=jW 4 A gF (fun f cg A outer s H E hr=>have hu:=hr.units;have nd:=gF.nd
 (bU (eF 1 rT nd)
   (bU (Nd 2 1 b8 hr bG cL rfl cA bO rfl nd (bA (bu 0) bE))
   (bU (iu (CK (Am (An (Nh (b:=true) (bu 1) EK cA T.b_isinstance dJ I1))) (CZ (Am (An (Ng (b:=true) (bu 1) EK cA T.b_isinstance T.b_ValueError (by decide +kernel) I2))))).pb (dm (gM Aa)) iH)
   (bU (iu (An (Iu (cs:=[("BadBend",cI,_),("BadDrawing",bV,_),("BadKeep",cH,_),("BadPile",cG,_),("Lone",fi,_)]) (b:=false) (bu 1) EK cA T.b_isinstance (bf.mpr ⟨⟨dR,rfl,show(("BadBend":Str)==("__debug__":Str))=false by decide⟩,(bf.mpr ⟨⟨cB,rfl,show(("BadDrawing":Str)==("__debug__":Str))=false by decide⟩,(bf.mpr ⟨⟨dQ,rfl,show(("BadKeep":Str)==("__debug__":Str))=false by decide⟩,(bf.mpr ⟨⟨dN,rfl,show(("BadPile":Str)==("__debug__":Str))=false by decide⟩,(bf.mpr ⟨⟨g7,rfl,show(("Lone":Str)==("__debug__":Str))=false by decide⟩,(fun _ h=>nomatch h)⟩)⟩)⟩)⟩)⟩) I3 (show 5<=sizeLine by decide +kernel) (by intro es h;obtain⟨l,e⟩:=h;subst e;rcases l with _ | _ | _ | _ | _ | _ | _<;>rfl))) (dm (gM Aa)) iH)
   (dm (gM (Mo (Iu (cs:=[("NoLayout",cw,_),("NoNet",ez,_),("NoOrder",cE,_),("PinTaken",cu,_),("Taken",ey,_)]) (b:=false) (bu 1) EK cA T.b_isinstance (bf.mpr ⟨⟨c9,rfl,show(("NoLayout":Str)==("__debug__":Str))=false by decide⟩,(bf.mpr ⟨⟨fM,rfl,show(("NoNet":Str)==("__debug__":Str))=false by decide⟩,(bf.mpr ⟨⟨dH,rfl,show(("NoOrder":Str)==("__debug__":Str))=false by decide⟩,(bf.mpr ⟨⟨c8,rfl,show(("PinTaken":Str)==("__debug__":Str))=false by decide⟩,(bf.mpr ⟨⟨fL,rfl,show(("Taken":Str)==("__debug__":Str))=false by decide⟩,(fun _ h=>nomatch h)⟩)⟩)⟩)⟩)⟩) I4 (show 5<=sizeLine by decide +kernel) (by intro es h;obtain⟨l,e⟩:=h;subst e;rcases l with _ | _ | _ | _ | _ | _ | _<;>rfl)))))))))) Th (by walk_at "bn")
variable (et:Known P w K mg base 5 "_law_refused" 1 wc)
abbrev i6:Stmt:=top 27
theorem P4:bF ["holds","words"] ["holds","words"] (bz i6):=by walk_at "sc"
theorem RB(A:At K mg "demand" i6)(T:Txt K mg)   (bG:cS K mg "BadText" bj [.type "ValueError",.type "Exception",.type "BaseException",.type "object"] "ValueError.__new__"):bI P w K mg base bj 1 "demand" 2 iU:=qc (T:=A8) 0 A P4 (fun Qx f cg A outer s H E hr=>have hu:=hr.units
 (pA (MQ (Am (An (bu 0))) (pA (O9 bG PySem.F.excBase_ValueError rfl Nk (bu 1))) (Nf iH)))) Rt fun _ _ _ _ _ _ us hl=>by obtain⟨_,_,rfl⟩:=B4 hl;exact rfl
abbrev ef:Stmt:=top 28
theorem eM:bF ["heads","due","head"] ["heads"] (bz ef):=by walk_at "sc"
theorem Tx(A:At K mg "demand_heads" ef)(T:Txt K mg)  (bJ:bI P w K mg base bj 1 "demand" 2 iU) (bG:cS K mg "BadText" bj [.type "ValueError",.type "Exception",.type "BaseException",.type "object"] "ValueError.__new__"):bI P w K mg base bj 2 "demand_heads" 1 yo:=qc (T:=Bj) 1 A eM (fun Qx f cg A outer s H E hr=>have hu:=hr.units
 (kF (vQ (kE 1 (OY T.b_list T.fU) eM.nd))
   (kF (vQ (pZ PassesOwn.leaving rfl (iG (qU (bA bY (bA bY (bA bY bE))))) (dw 2 eM.nd)
    (dm (Ak 1 (MV (di (bA (bu 2) bE)) (vR (HD hu) (.inl rfl) PySem.F.plainAttrs_list PySem.F.slot_list_count PySem.F.type_list_count (bu 0) (bA (bu 2) bE)))))))
   (O3 1 (pA (lr (iL bJ hr rfl iO (gj (bA (mY (gJ hu) (bu 0) (bu 1)) (bA bY bE)))))))))) S6 fun _ _ _ _ _ _ us hl=>by obtain⟨_,rfl⟩:=pj hl;exact rfl
abbrev fE:Stmt:=top 34
theorem Ro:bF ["word"] ["word"] (bz fE):=by walk_at "sc"
theorem SD(A:At K mg "read_name" fE)(T:Txt K mg)(ik:Known P w K mg base 1 "is_name" 1 v8)(bJ:bI P w K mg base bj 1 "demand" 2 iU)(bG:cS K mg "BadText" bj [.type "ValueError",.type "Exception",.type "BaseException",.type "object"] "ValueError.__new__"):bI P w K mg base bj 2 "read_name" 1 qf:=qc (T:=Bb) 1 A Ro (fun Qx f cg A outer s H E hr=>have hu:=hr.units
 (kF (lr (iL bJ hr rfl iO (gj (bA (gC ik hr (bA (bu 0) bE)) (bA bY bE)))))
   (pA (vQ (gM (bu 0)))))) SN fun _ _ _ _ _ _ us hl=>by obtain⟨_,rfl⟩:=pj hl;exact rfl
abbrev fD:Stmt:=top 29
theorem Rn:bF ["words"] ["words"] (bz fD):=by walk_at "sc"
theorem Sa:(["word"]:List Str).Nodup:=by decide +kernel
theorem SA(A:At K mg "read_pins" fD)(T:Txt K mg)  (bX:bI P w K mg base bj 2 "read_name" 1 qf) (bG:cS K mg "BadText" bj [.type "ValueError",.type "Exception",.type "BaseException",.type "object"] "ValueError.__new__"):bI P w K mg base bj 3 "read_pins" 1 wm:=qc (T:=Ba) 2 A Rn (fun Qx f cg A outer s H E hr=>have hu:=hr.units
 (pA (xH (xV rfl (.of (N':=["word"]) (m:=[none]) (by kernel_rfl)) gQ (iG (bu 0)) (fun s3 H3 ex=>(dw 0 Sa)) (fun s3 H3 ex=>kq) (fun s3 H3 ex=>(MO (eA (gJ hu) (bu 0) bY) (MP rT) (uH bX hr (xa rfl rfl rfl xG) (gj (bA (bu 0) bE))))))))) R8 fun _ _ _ _ _ _ us hl=>by obtain⟨_,rfl⟩:=pj hl;exact rfl
abbrev eP:Stmt:=top 30
theorem RA:bF ["words"] ["words"] (bz eP):=by walk_at "sc"
theorem RS:(["word"]:List Str).Nodup:=by decide +kernel
theorem Ta(A:At K mg "read_names" eP)(T:Txt K mg)  (bX:bI P w K mg base bj 2 "read_name" 1 qf) (bG:cS K mg "BadText" bj [.type "ValueError",.type "Exception",.type "BaseException",.type "object"] "ValueError.__new__"):bI P w K mg base bj 3 "read_names" 1 wb:=qc (T:=Bc) 2 A RA (fun Qx f cg A outer s H E hr=>have hu:=hr.units
 (pA (xH (xV rfl (.of (N':=["word"]) (m:=[none]) (by kernel_rfl)) gQ (iG (bu 0)) (fun s3 H3 ex=>(dw 0 RS)) (fun s3 H3 ex=>kq) (fun s3 H3 ex=>(uH bX hr (xa rfl rfl rfl xG) (gj (bA (bu 0) bE)))))))) SJ fun _ _ _ _ _ _ us hl=>by obtain⟨_,rfl⟩:=pj hl;exact rfl
abbrev eD:Stmt:=top 35
theorem R9:bF ["word"] ["word"] (bz eD):=by walk_at "sc"
theorem Sy:(["sign"]:List Str).Nodup:=by decide +kernel
theorem SW(A:At K mg "read_number" eD)(T:Txt K mg)  (bJ:bI P w K mg base bj 1 "demand" 2 iU) (bG:cS K mg "BadText" bj [.type "ValueError",.type "Exception",.type "BaseException",.type "object"] "ValueError.__new__"):bI P w K mg base bj 2 "read_number" 1 qh:=qc (T:=Bk) 1 A R9 (fun Qx f cg A outer s H E hr=>have hu:=hr.units
 have ⟨wy,f7⟩:=T.f7
 (kF (lr (iL bJ hr rfl iO (gj (bA (Ig uy uy bC (gD jU T.b_len boot_len (bA (bu 0) bE)) bC) (bA bY bE)))))
   (kF (lr (iL bJ hr rfl iO (gj (bA (gD (z8 rfl) T.b_all boot_all (bA (jF rfl (.of (N':=["sign"]) (m:=[none]) (by kernel_rfl)) gQ (iG (bu 0)) (fun s3 H3 ex=>(dw 0 Sy)) (fun s3 H3 ex=>kq) (fun s3 H3 ex=>(mY (oE hu) (bu 0) (Ij f7)))) bE)) (bA bY bE)))))
   (kF (lr (iL bJ hr rfl iO (gj (bA (Mn (mY (gJ hu) (gD jU T.b_len boot_len (bA (bu 0) bE)) bC) (GJ (mY (zU hu) (cN (bu 0) bC) bY))) (bA bY bE)))))
   (pA (vQ (gM (mS MT T.b_int boot_int (bA (bu 0) bE))))))))) Ti fun _ _ _ _ _ _ us hl=>by obtain⟨_,rfl⟩:=pj hl;exact rfl
abbrev fB:Stmt:=top 31
theorem Rm:bF ["words"] ["words"] (bz fB):=by walk_at "sc"
theorem Sx(A:At K mg "read_wide" fB)(T:Txt K mg)  (bJ:bI P w K mg base bj 1 "demand" 2 iU) (bX:bI P w K mg base bj 2 "read_name" 1 qf) (bS:bI P w K mg base bj 2 "read_number" 1 qh) (bG:cS K mg "BadText" bj [.type "ValueError",.type "Exception",.type "BaseException",.type "object"] "ValueError.__new__"):bI P w K mg base bj 3 "read_wide" 1 yr:=qc (T:=A9) 2 A Rm (fun Qx f cg A outer s H E hr=>have hu:=hr.units
 (kF (lr (iL bJ hr rfl iO (gj (bA (mY (gJ hu) (gD jU T.b_len boot_len (bA (bu 0) bE)) bC) (bA bY bE)))))
   (pA (xH (CU (nP (iL bX hr rfl iO (gj (bA (cN (bu 0) bC) bE))) (nP (iL bS hr rfl iO (gj (bA (cN (bu 0) bC) bE))) (gj bE)))))))) R7 fun _ _ _ _ _ _ us hl=>by obtain⟨_,rfl⟩:=pj hl;exact rfl
abbrev fG:Stmt:=top 32
theorem Rw:bF ["words"] ["words"] (bz fG):=by walk_at "sc"
theorem Sw(A:At K mg "read_bend" fG)(T:Txt K mg)  (bJ:bI P w K mg base bj 1 "demand" 2 iU) (bS:bI P w K mg base bj 2 "read_number" 1 qh) (bX:bI P w K mg base bj 2 "read_name" 1 qf) (bG:cS K mg "BadText" bj [.type "ValueError",.type "Exception",.type "BaseException",.type "object"] "ValueError.__new__"):bI P w K mg base bj 3 "read_bend" 1 yq:=qc (T:=Bf) 2 A Rw (fun Qx f cg A outer s H E hr=>have hu:=hr.units
 (kF (lr (iL bJ hr rfl iO (gj (bA (mY (gJ hu) (gD jU T.b_len boot_len (bA (bu 0) bE)) bC) (bA bY bE)))))
   (pA (xH (CU (nP (iL bS hr rfl iO (gj (bA (cN (bu 0) bC) bE))) (nP (iL bX hr rfl iO (gj (bA (cN (bu 0) bC) bE))) (gj bE)))))))) R6 fun _ _ _ _ _ _ us hl=>by obtain⟨_,rfl⟩:=pj hl;exact rfl
abbrev fF:Stmt:=top 33
theorem Rv:bF ["words"] ["words"] (bz fF):=by walk_at "sc"
theorem Sv(A:At K mg "read_keep" fF)(T:Txt K mg)  (bJ:bI P w K mg base bj 1 "demand" 2 iU) (bS:bI P w K mg base bj 2 "read_number" 1 qh) (bG:cS K mg "BadText" bj [.type "ValueError",.type "Exception",.type "BaseException",.type "object"] "ValueError.__new__"):bI P w K mg base bj 3 "read_keep" 1 yp:=qc (T:=Be) 2 A Rv (fun Qx f cg A outer s H E hr=>have hu:=hr.units
 (kF (lr (iL bJ hr rfl iO (gj (bA (mY (gJ hu) (gD jU T.b_len boot_len (bA (bu 0) bE)) bC) (bA bY bE)))))
   (pA (xH (CU (nP (iL bS hr rfl iO (gj (bA (cN (bu 0) bC) bE))) (nP (iL bS hr rfl iO (gj (bA (cN (bu 0) bC) bE))) (nP (iL bS hr rfl iO (gj (bA (cN (bu 0) bC) bE))) (gj bE))))))))) R5 fun _ _ _ _ _ _ us hl=>by obtain⟨_,rfl⟩:=pj hl;exact rfl
abbrev ee:Stmt:=top 36
theorem RR:bF ["channel"] ["channel"] (bz ee):=by walk_at "sc"
theorem S9:(["pair"]:List Str).Nodup:=by decide +kernel
theorem S8:(["pair"]:List Str).Nodup:=by decide +kernel
theorem S7:(["pair"]:List Str).Nodup:=by decide +kernel
theorem Tw(A:At K mg "demand_lists" ee)(T:Txt K mg)(dg:Known P w K mg base 1 "is_rising" 1 se)(fN:Known P w K mg base 1 "all_names" 1 we)(bJ:bI P w K mg base bj 1 "demand" 2 iU)(bG:cS K mg "BadText" bj [.type "ValueError",.type "Exception",.type "BaseException",.type "object"] "ValueError.__new__"):bI P w K mg base bj 2 "demand_lists" 1 yn:=qc (T:=Bi) 1 A RR (fun Qx f cg A outer s H E hr=>have hu:=hr.units
 have ⟨qk,c6⟩:=T.c6;have ⟨si,ej⟩:=T.ej;have ⟨sh,eh⟩:=T.eh
 (kF (lr (iL bJ hr rfl iO (gj (bA (mY (gJ hu) (gD jU T.b_len boot_len (bA (me (bu 0)) bE)) (gD jU T.b_len boot_len (bA (me (bu 0)) bE))) (bA bY bE)))))
   (kF (lr (iL bJ hr rfl iO (gj (bA (Ig uy uy bC (gD jU T.b_len boot_len (bA (me (bu 0)) bE)) (AQ c6)) (bA bY bE)))))
   (kF (lr (iL bJ hr rfl iO (gj (bA (gC dg hr (bA (me (bu 0)) bE)) (bA bY bE)))))
   (kF (lr (iL bJ hr rfl iO (gj (bA (gC dg hr (bA (me (bu 0)) bE)) (bA bY bE)))))
   (kF (lr (iL bJ hr rfl iO (gj (bA (gC dg hr (bA (jF rfl (.of (N':=["pair"]) (m:=[none]) (by kernel_rfl)) gQ (iG (me (bu 0))) (fun s3 H3 ex=>(dw 0 S9)) (fun s3 H3 ex=>kq) (fun s3 H3 ex=>(cN (bu 0) bC))) bE)) (bA bY bE)))))
   (kF (lr (iL bJ hr rfl iO (gj (bA (gD (z8 rfl) T.b_all boot_all (bA (jF rfl (.of (N':=["pair"]) (m:=[none]) (by kernel_rfl)) gQ (iG (me (bu 0))) (fun s3 H3 ex=>(dw 0 S8)) (fun s3 H3 ex=>kq) (fun s3 H3 ex=>(mY (oE hu) (cN (bu 0) bC) (qU (bA bC (bA bC bE)))))) bE)) (bA bY bE)))))
   (kF (lr (iL bJ hr rfl iO (gj (bA (gC dg hr (bA (jF rfl (.of (N':=["pair"]) (m:=[none]) (by kernel_rfl)) gQ (iG (me (bu 0))) (fun s3 H3 ex=>(dw 0 S7)) (fun s3 H3 ex=>kq) (fun s3 H3 ex=>(cN (bu 0) bC))) bE)) (bA bY bE)))))
   (kF (lr (iL bJ hr rfl iO (gj (bA (mY FU (gD jU T.b_len boot_len (bA (me (bu 0)) bE)) (AQ ej)) (bA bY bE)))))
   (pA (lr (iL bJ hr rfl iO (gj (bA (mY FU (QU rfl T.b_len T.b_set (bA (gC fN hr (bA (bu 0) bE)) bE)) (AQ eh)) (bA bY bE))))))))))))))) S5 fun _ _ _ _ _ _ us hl=>by obtain⟨_,rfl⟩:=pj hl;exact rfl
abbrev d0:Stmt:=top 24
theorem eL:bF ["text","lines","channel"] ["text"] (bz d0):=by walk_at "sc"
theorem Tr:(["words"]:List Str).Nodup:=by decide +kernel
theorem Tq:(["words"]:List Str).Nodup:=by decide +kernel
theorem Tp:(["words"]:List Str).Nodup:=by decide +kernel
theorem To:(["words"]:List Str).Nodup:=by decide +kernel
theorem Tv(A:At K mg "read_channel" d0)(T:Txt K mg)(gv:Known P w K mg base 2 "lines_of" 1 wq)(il:j8 P w K mg base 1 "Channel" 7 v7)(fc:bI P w K mg base bj 2 "demand_heads" 1 yo)(fK:bI P w K mg base bj 3 "read_pins" 1 wm)(eS:bI P w K mg base bj 3 "read_names" 1 wb)(gZ:bI P w K mg base bj 3 "read_wide" 1 yr)(g5:bI P w K mg base bj 3 "read_bend" 1 yq)(g4:bI P w K mg base bj 3 "read_keep" 1 yp)(fb:bI P w K mg base bj 2 "demand_lists" 1 yn)(bG:cS K mg "BadText" bj [.type "ValueError",.type "Exception",.type "BaseException",.type "object"] "ValueError.__new__"):bI P w K mg base bj 4 "read_channel" 1 qY:=qc (T:=Bh) 3 A eL (fun Qx f cg A outer s H E hr=>have hu:=hr.units
 (kF (vQ (eF 1 (gC gv hr (bA (bu 0) bE)) eL.nd))
   (kF (lr (iL fc hr rfl iO (gj (bA (jF rfl (.of (N':=["words"]) (m:=[none]) (by kernel_rfl)) gQ (iG (bu 1)) (fun s3 H3 ex=>(dw 0 Tr)) (fun s3 H3 ex=>kq) (fun s3 H3 ex=>(cN (bu 0) bC))) bE))))
   (kF (OZ 2 (Px il hr (nP (iL fK hr rfl iO (gj (bA (gk (cN (bu 1) bC) (fQ bC) gT) bE))) (nP (iL fK hr rfl iO (gj (bA (gk (cN (bu 1) bC) (fQ bC) gT) bE))) (nP (iL eS hr rfl iO (gj (bA (gk (cN (bu 1) bC) (fQ bC) gT) bE))) (nP (iL eS hr rfl iO (gj (bA (gk (cN (bu 1) bC) (fQ bC) gT) bE))) (nP (xV rfl (.of (N':=["words"]) (m:=[none]) (by kernel_rfl)) gQ (iG (bu 1)) (fun s3 H3 ex=>(dw 0 Tq)) (fun s3 H3 ex=>(nO (eA (gJ hu) (cN (bu 0) bC) bY))) (fun s3 H3 ex=>(uH gZ hr (xa rfl rfl rfl xG) (gj (bA (bu 0) bE))))) (nP (xV rfl (.of (N':=["words"]) (m:=[none]) (by kernel_rfl)) gQ (iG (bu 1)) (fun s3 H3 ex=>(dw 0 Tp)) (fun s3 H3 ex=>(nO (eA (gJ hu) (cN (bu 0) bC) bY))) (fun s3 H3 ex=>(uH g5 hr (xa rfl rfl rfl xG) (gj (bA (bu 0) bE))))) (nP (xV rfl (.of (N':=["words"]) (m:=[none]) (by kernel_rfl)) gQ (iG (bu 1)) (fun s3 H3 ex=>(dw 0 To)) (fun s3 H3 ex=>(nO (eA (gJ hu) (cN (bu 0) bC) bY))) (fun s3 H3 ex=>(uH g4 hr (xa rfl rfl rfl xG) (gj (bA (bu 0) bE))))) (gj bE))))))))) eL.nd)
   (kF (lr (iL fb hr rfl iO (gj (bA (bu 2) bE))))
   (pA (vQ (gM (bu 2))))))))) S4 fun _ _ _ _ _ _ us hl=>by obtain⟨_,rfl⟩:=pj hl;exact rfl
include T gz eU dU dE dD et in
theorem LJ  (b8:bI P w K mg base bj 4 "read_channel" 1 qY) (bG:cS K mg "BadText" bj [.type "ValueError",.type "Exception",.type "BaseException",.type "object"] "ValueError.__new__") (cL:cS K mg "WireError" b9 [.type "ValueError",.type "Exception",.type "BaseException",.type "object"] "ValueError.__new__") (cA:PySem.W.nsIn K mainGlobals "BadText"=some (some (.ref bj))) (bO:subIn K bj b9=true) (EK:sY K bj) (dJ:mg "BadText"=some (.ref bj)) (dR:mg "BadBend"=some (.ref cI)) (cB:mg "BadDrawing"=some (.ref bV)) (dQ:mg "BadKeep"=some (.ref cH)) (dN:mg "BadPile"=some (.ref cG)) (g7:mg "Lone"=some (.ref fi)) (c9:mg "NoLayout"=some (.ref cw)) (fM:mg "NoNet"=some (.ref ez)) (dH:mg "NoOrder"=some (.ref cE)) (c8:mg "PinTaken"=some (.ref cu)) (fL:mg "Taken"=some (.ref ey)) (I1:PySem.W.kitOne K (.ref bj) (.ref bj)=some true) (I2:PySem.W.kitOne K (.ref bj) (.type "ValueError")=some true) (I3:PySem.W.kitAny K (.ref bj) [.ref cI,.ref bV,.ref cH,.ref cG,.ref fi]=some false) (I4:PySem.W.kitAny K (.ref bj) [.ref cw,.ref ez,.ref cE,.ref cu,.ref ey]=some false) {f:Addr} (cg:Value) (A:Around) (outer:List Env) (s:Shared) (H:Hp) (E:XK) (hr:cV 5 (A.deeper (envOfC "law" (bz (top 58)) s.heap.objs.size f cg))) :
  ou (mR mV P w K mg base ["_law_script","_law_lists","_law_lines_here","_law_mix_here","_law_manner","_law_bad"] "law" (bz (top 58)) f cg A outer s H E).sv (cC (top 58)) xg:=
 have hu:=hr.units;have nd:=qt.nd
 (bU (eF 1 (gC gz hr (bA (gk (bu 0) (fQ bC) gT) bE)) nd)
   (bU (eF 2 (gC eU hr (bA (bu 1) bE)) nd)
   (bU (eF 3 (bK dY (bK qS (bK cW (bK dY (gD (vH rfl) T.b_sum boot_sum (bA (gk (bu 0) gT (fQ bC)) bE)) (bK vM bC bC)) bC) bC) bC) nd)
   (bU (eF 4 (bK dY (bu 3) bC) nd)
   (bU (eF 3 (bK iw (bu 3) bC) nd)
   (bU (iu (eA (zU hu) (me (IZ b8 hr (bA (gC dU hr (bA (bu 2) bE)) bE))) (cN (bu 1) bC)) (dm (gM Aa)) iH)
   (bU (eF 5 (AO (eA zW (bu 4) bC) (gC dE hr (bA (bu 2) (bA (bu 4) (bA (bu 3) bE)))) (gC dD hr (bA (bu 2) (bA (bu 4) (bA (bu 3) bE))))) nd)
   (dm (gM (M3 (gC et hr (bA (gC dU hr (bA (bu 5) bE)) bE)) (GJ (mY (gJ hu) (me (IZ b8 hr (bA (gC dU hr (bA (bu 2) bE)) bE))) (cN (bu 1) bC)))))))))))))
theorem uV{fa:Addr}(T:Txt K mg)(jt:B2 K mg "Channel" "Channel.__init__" h9 ["top","bottom","left","right","wide","bends","keeps"])(AA:At K mg "is_name" (top 4)/\At K mg "is_rising" (top 37)/\At K mg "all_names" (top 38)/\At K mg "words_of" (top 26)/\At K mg "lines_of" (top 25)/\At K mg "_law_stem" (top 40)/\At K mg "_law_named" (top 41)/\At K mg "_law_mix" (top 42)/\At K mg "_law_pins" (top 43)/\At K mg "_law_open" (top 48)/\At K mg "_law_many" (top 44)/\At K mg "_law_stretch" (top 45)/\At K mg "_law_bends" (top 46)/\At K mg "_law_keeps" (top 47)/\At K mg "_law_channel" (top 49)/\At K mg "_law_any" (top 50)/\At K mg "_law_lines" (top 51)/\At K mg "_law_text" (top 52)/\At K mg "_law_by_lines" (top 55)/\At K mg "_law_fit" (top 54)/\At K mg "_law_other_word" (top 53)/\At K mg "_law_by_words" (top 56)/\At K mg "_law_refused" (top 57)/\At K mg "law" (top 58)/\True)(j9:At K mg "demand" i6)(fm:At K mg "demand_heads" ef)(hU:At K mg "read_name" fE)(hJ:At K mg "read_pins" fD)(gA:At K mg "read_names" eP)(fV:At K mg "read_number" eD)(g9:At K mg "read_wide" fB)(hX:At K mg "read_bend" fG)(hV:At K mg "read_keep" fF)(fk:At K mg "demand_lists" ee)(fj:At K mg "read_channel" d0)(bG:cS K mg "BadText" bj [.type "ValueError",.type "Exception",.type "BaseException",.type "object"] "ValueError.__new__")(cL:cS K mg "WireError" b9 [.type "ValueError",.type "Exception",.type "BaseException",.type "object"] "ValueError.__new__")(cA:PySem.W.nsIn K mainGlobals "BadText"=some (some (.ref bj)))(bO:subIn K bj b9=true)(EK:sY K bj)(dJ:mg "BadText"=some (.ref bj))(dR:mg "BadBend"=some (.ref cI))(cB:mg "BadDrawing"=some (.ref bV))(dQ:mg "BadKeep"=some (.ref cH))(dN:mg "BadPile"=some (.ref cG))(g7:mg "Lone"=some (.ref fi))(c9:mg "NoLayout"=some (.ref cw))(fM:mg "NoNet"=some (.ref ez))(dH:mg "NoOrder"=some (.ref cE))(c8:mg "PinTaken"=some (.ref cu))(fL:mg "Taken"=some (.ref ey))(I1:PySem.W.kitOne K (.ref bj) (.ref bj)=some true)(I2:PySem.W.kitOne K (.ref bj) (.type "ValueError")=some true)(I3:PySem.W.kitAny K (.ref bj) [.ref cI,.ref bV,.ref cH,.ref cG,.ref fi]=some false)(I4:PySem.W.kitAny K (.ref bj) [.ref cw,.ref ez,.ref cE,.ref cu,.ref ey]=some false)(sF:mg "law"=some (.ref fa)):∃fd:FuncData,(∀(s:Shared) (u:Value),BindsTo s fd ⟨[u],[]⟩ [("_law_script",u)])/\∀base:Heap,g8 P w K mg base mV 6 fa fd ["_law_script"] (wN K 1 (Cq 63)):=by
 obtain⟨ph,mG,mH,nE,nF,mJ,lO,nG,mK,mL,mM,kd,lR,lQ,kg,nI,lP,mI,jN,nH,jd,jM,kf,zM,_⟩:=AA;refine MZ (T:=fun _=>xg) zM sF qt (by walk_at "bn") (fun base f cg A outer s H E hr=>?_) (fun _=>Pj);have il:j8 P w K mg base 1 "Channel" 7 v7:=RH jt T;have ik:Known P w K mg base 1 "is_name" 1 v8:=RC T ph;have dg:Known P w K mg base 1 "is_rising" 1 se:=RZ T mG;have fN:Known P w K mg base 1 "all_names" 1 we:=RY T mH;have gu:Known P w K mg base 1 "words_of" 1 x9:=Sg T nE;have gv:Known P w K mg base 2 "lines_of" 1 wq:=Sf T gu nF;have fO:Known P w K mg base 1 "_law_stem" 2 yz:=RX T mJ;have cQ:Known P w K mg base 2 "_law_named" 1 wa:=SH T fO lO;have bN:Known P w K mg base 1 "_law_mix" 2 pD:=Se T nG;have fP:Known P w K mg base 2 "_law_pins" 4 yy:=RW T bN mK;have eJ:Known P w K mg base 1 "_law_open" 2 wg:=RV T mL;have eK:Known P w K mg base 1 "_law_many" 5 wj:=RU T mM;have ek:Known P w K mg base 1 "_law_stretch" 5 yi:=S0 T kd;have eW:Known P w K mg base 2 "_law_bends" 4 yv:=SG T bN ek lR;have eV:Known P w K mg base 2 "_law_keeps" 3 yu:=SF T bN lQ;have eu:Known P w K mg base 3 "_law_channel" 2 yh:=SY T cQ bN fP eJ eK eW eV kg;have gz:Known P w K mg base 4 "_law_any" 1 ya:=Sd T cQ bN eu nI;have eU:Known P w K mg base 1 "_law_lines" 1 yt:=SE T lP;have dU:Known P w K mg base 1 "_law_text" 1 sf:=RT T mI;have dE:Known P w K mg base 1 "_law_by_lines" 3 yk:=TB T jN;have gw:Known P w K mg base 1 "_law_fit" 3 xZ:=Sb T nH;have cU:Known P w K mg base 1 "_law_other_word" 2 yA:=Tu T jd;have dD:Known P w K mg base 2 "_law_by_words" 3 yj:=Tz T gw cU jM;have bJ:bI P w K mg base bj 1 "demand" 2 iU:=RB j9 T  bG;have fc:bI P w K mg base bj 2 "demand_heads" 1 yo:=Tx fm T bJ bG;have bX:bI P w K mg base bj 2 "read_name" 1 qf:=SD hU T ik bJ bG;have fK:bI P w K mg base bj 3 "read_pins" 1 wm:=SA hJ T bX bG;have eS:bI P w K mg base bj 3 "read_names" 1 wb:=Ta gA T bX bG;have bS:bI P w K mg base bj 2 "read_number" 1 qh:=SW fV T bJ bG;have gZ:bI P w K mg base bj 3 "read_wide" 1 yr:=Sx g9 T bJ bX bS bG;have g5:bI P w K mg base bj 3 "read_bend" 1 yq:=Sw hX T bJ bS bX bG;have g4:bI P w K mg base bj 3 "read_keep" 1 yp:=Sv hV T bJ bS bG;have fb:bI P w K mg base bj 2 "demand_lists" 1 yn:=Tw fk T dg fN bJ bG;have b8:bI P w K mg base bj 4 "read_channel" 1 qY:=Tv fj T gv il fc fK eS gZ g5 g4 fb bG;have et:Known P w K mg base 5 "_law_refused" 1 wc:=SX T b8 bG cL cA bO EK dJ dR cB dQ dN g7 c9 fM dH c8 fL I1 I2 I3 I4 kf;exact LJ T gz eU dU dE dD et b8 bG cL cA bO EK dJ dR cB dQ dN g7 c9 fM dH c8 fL I1 I2 I3 I4 cg A outer s H E hr
end
end Wc
open PySem PySem.W PyProof.Rows
theorem PySem.W.Fast.te5193488401198681949:True:=trivial
noncomputable def PySem.W.Fast.tw11244392845320384344:PySem.Program:=PySem.Challenge.pw_wirechannel_k04_not_texts
theorem PySem.W.Fast.te11244392845320384344:PySem.Challenge.pw_wirechannel_k04_not_texts=PySem.W.Fast.tw11244392845320384344:=rfl
noncomputable def PySem.W.Fast.tw12519866133971477788:List PySem.Stmt:=(PySem.Challenge.pw_wirechannel_k04_not_texts.main.body.drop 0).take 6
theorem PySem.W.Fast.te12519866133971477788:(PySem.Challenge.pw_wirechannel_k04_not_texts.main.body.drop 0).take 6=PySem.W.Fast.tw12519866133971477788:=rfl
noncomputable def PySem.W.Fast.tw279280830502011161:List PySem.Stmt:=(PySem.Challenge.pw_wirechannel_k04_not_texts.main.body.drop 6).take 2
theorem PySem.W.Fast.te279280830502011161:(PySem.Challenge.pw_wirechannel_k04_not_texts.main.body.drop 6).take 2=PySem.W.Fast.tw279280830502011161:=rfl
noncomputable def PySem.W.Fast.tw10902540110583890393:List PySem.Stmt:=(PySem.Challenge.pw_wirechannel_k04_not_texts.main.body.drop 8).take 1
theorem PySem.W.Fast.te10902540110583890393:(PySem.Challenge.pw_wirechannel_k04_not_texts.main.body.drop 8).take 1=PySem.W.Fast.tw10902540110583890393:=rfl
noncomputable def PySem.W.Fast.tw11874754172409275240:List PySem.Stmt:=(PySem.Challenge.pw_wirechannel_k04_not_texts.main.body.drop 9).take 1
theorem PySem.W.Fast.te11874754172409275240:(PySem.Challenge.pw_wirechannel_k04_not_texts.main.body.drop 9).take 1=PySem.W.Fast.tw11874754172409275240:=rfl
noncomputable def PySem.W.Fast.tw28758929283142013:List PySem.Stmt:=(PySem.Challenge.pw_wirechannel_k04_not_texts.main.body.drop 10).take 1
theorem PySem.W.Fast.te28758929283142013:(PySem.Challenge.pw_wirechannel_k04_not_texts.main.body.drop 10).take 1=PySem.W.Fast.tw28758929283142013:=rfl
noncomputable def PySem.W.Fast.tw16744762110277313110:List PySem.Stmt:=(PySem.Challenge.pw_wirechannel_k04_not_texts.main.body.drop 11).take 1
theorem PySem.W.Fast.te16744762110277313110:(PySem.Challenge.pw_wirechannel_k04_not_texts.main.body.drop 11).take 1=PySem.W.Fast.tw16744762110277313110:=rfl
noncomputable def PySem.W.Fast.tw12278084830189066624:List PySem.Stmt:=(PySem.Challenge.pw_wirechannel_k04_not_texts.main.body.drop 12).take 1
theorem PySem.W.Fast.te12278084830189066624:(PySem.Challenge.pw_wirechannel_k04_not_texts.main.body.drop 12).take 1=PySem.W.Fast.tw12278084830189066624:=rfl
noncomputable def PySem.W.Fast.tw4489636159225322290:List PySem.Stmt:=(PySem.Challenge.pw_wirechannel_k04_not_texts.main.body.drop 13).take 1
theorem PySem.W.Fast.te4489636159225322290:(PySem.Challenge.pw_wirechannel_k04_not_texts.main.body.drop 13).take 1=PySem.W.Fast.tw4489636159225322290:=rfl
noncomputable def PySem.W.Fast.tw14209410357990536263:List PySem.Stmt:=(PySem.Challenge.pw_wirechannel_k04_not_texts.main.body.drop 14).take 1
theorem PySem.W.Fast.te14209410357990536263:(PySem.Challenge.pw_wirechannel_k04_not_texts.main.body.drop 14).take 1=PySem.W.Fast.tw14209410357990536263:=rfl
noncomputable def PySem.W.Fast.tw5542272131024018104:List PySem.Stmt:=(PySem.Challenge.pw_wirechannel_k04_not_texts.main.body.drop 15).take 1
theorem PySem.W.Fast.te5542272131024018104:(PySem.Challenge.pw_wirechannel_k04_not_texts.main.body.drop 15).take 1=PySem.W.Fast.tw5542272131024018104:=rfl
noncomputable def PySem.W.Fast.tw16092014339531591378:List PySem.Stmt:=(PySem.Challenge.pw_wirechannel_k04_not_texts.main.body.drop 16).take 1
theorem PySem.W.Fast.te16092014339531591378:(PySem.Challenge.pw_wirechannel_k04_not_texts.main.body.drop 16).take 1=PySem.W.Fast.tw16092014339531591378:=rfl
noncomputable def PySem.W.Fast.tw16701170567832816112:List PySem.Stmt:=(PySem.Challenge.pw_wirechannel_k04_not_texts.main.body.drop 17).take 11
theorem PySem.W.Fast.te16701170567832816112:(PySem.Challenge.pw_wirechannel_k04_not_texts.main.body.drop 17).take 11=PySem.W.Fast.tw16701170567832816112:=rfl
noncomputable def PySem.W.Fast.tw1878141914530090437:List PySem.Stmt:=(PySem.Challenge.pw_wirechannel_k04_not_texts.main.body.drop 28).take 14
theorem PySem.W.Fast.te1878141914530090437:(PySem.Challenge.pw_wirechannel_k04_not_texts.main.body.drop 28).take 14=PySem.W.Fast.tw1878141914530090437:=rfl
noncomputable def PySem.W.Fast.tw17330124165557453250:List PySem.Stmt:=(PySem.Challenge.pw_wirechannel_k04_not_texts.main.body.drop 42).take 13
theorem PySem.W.Fast.te17330124165557453250:(PySem.Challenge.pw_wirechannel_k04_not_texts.main.body.drop 42).take 13=PySem.W.Fast.tw17330124165557453250:=rfl
noncomputable def PySem.W.Fast.tw3668105640950490589:List PySem.Stmt:=(PySem.Challenge.pw_wirechannel_k04_not_texts.main.body.drop 55).take 4
theorem PySem.W.Fast.te3668105640950490589:(PySem.Challenge.pw_wirechannel_k04_not_texts.main.body.drop 55).take 4=PySem.W.Fast.tw3668105640950490589:=rfl
theorem PySem.W.Fast.tw5215804239239981134:True:=trivial
theorem PySem.W.Fast.tw14138073133346708731:True:=trivial
theorem PySem.W.Fast.tw16358531645368290998:True:=trivial
theorem PySem.W.Fast.tw11160936088505025705:True:=trivial
theorem PySem.W.Fast.tw5193321110941908669:True:=trivial
theorem PySem.W.Fast.tw9857344014389026962:True:=trivial
theorem PySem.W.Fast.tw1770357434135998207:True:=trivial
theorem PySem.W.Fast.tw15850827335919086485:True:=trivial
theorem PySem.W.Fast.tw7915702701156999889:True:=trivial
theorem PySem.W.Fast.tw12287077610830737945:True:=trivial
theorem PySem.W.Fast.tw500480013128772892:True:=trivial
theorem PySem.W.Fast.tw16244886358689297352:True:=trivial
theorem PySem.W.Fast.tw2612577913462351869:True:=trivial
theorem PySem.W.Fast.tw5886237843554125837:True:=trivial
theorem PySem.W.Fast.tw16390402444444086678:True:=trivial
theorem PySem.W.Fast.tw15533531074172029050:True:=trivial
theorem PySem.W.Fast.tw10167747073202248119:True:=trivial
theorem PySem.W.Fast.tw401278369355549565:True:=trivial
theorem PySem.W.Fast.tw16879450097314788025:True:=trivial
theorem PySem.W.Fast.tw11456724918370242406:True:=trivial
theorem PySem.W.Fast.tw14408500548635215584:True:=trivial
theorem PySem.W.Fast.tw10404952245072562852:True:=trivial
theorem PySem.W.Fast.tw4484657094095561491:True:=trivial
theorem PySem.W.Fast.tw5564144870919065754:True:=trivial
theorem PySem.W.Fast.tw8943111447921553857:True:=trivial
theorem PySem.W.Fast.tw1248656047822483677:True:=trivial
theorem PySem.W.Fast.tw8551468545103914663:True:=trivial
theorem PySem.W.Fast.tw6124015320412836097:True:=trivial
theorem PySem.W.Fast.tw1727159176448651200:True:=trivial
theorem PySem.W.Fast.tw10291397133972638479:True:=trivial
theorem PySem.W.Fast.tw2978923949679337271:True:=trivial
theorem PySem.W.Fast.tw6595698516091443258:True:=trivial
theorem PySem.W.Fast.tw192237082517738348:True:=trivial
theorem PySem.W.Fast.tw6866178260349739953:True:=trivial
theorem PySem.W.Fast.tw14311189914047057018:True:=trivial
theorem PySem.W.Fast.tw4495989461429849030:True:=trivial
theorem PySem.W.Fast.tw10473741518733582015:True:=trivial
theorem PySem.W.Fast.tw10156511507291449507:True:=trivial
theorem PySem.W.Fast.tw17715410471795654720:True:=trivial
theorem PySem.W.Fast.tw4018589815443523537:True:=trivial
theorem PySem.W.Fast.tw9053660343346812934:True:=trivial
theorem PySem.W.Fast.tw17355303967180571437:True:=trivial
theorem PySem.W.Fast.tw2258609740671985649:True:=trivial
theorem PySem.W.Fast.tw6377660509963024525:True:=trivial
theorem PySem.W.Fast.tw4250310003500745093:True:=trivial
theorem PySem.W.Fast.tw11228737512803405640:True:=trivial
theorem PySem.W.Fast.tw4720972455613106831:True:=trivial
theorem PySem.W.Fast.tw898657898234832102:True:=trivial
theorem PySem.W.Fast.tw170681750344249814:True:=trivial
theorem PySem.W.Fast.tw1422558920905489668:True:=trivial
theorem PySem.W.Fast.tw13504945232208962376:True:=trivial
theorem PySem.W.Fast.tw2576241976577873541:True:=trivial
theorem PySem.W.Fast.tw15848241708307314873:True:=trivial
theorem PySem.W.Fast.tw4146404004810810774:True:=trivial
theorem PySem.W.Fast.tw4817104525340986148:True:=trivial
theorem PySem.W.Fast.tw12641873444323572932:True:=trivial
theorem PySem.W.Fast.tw15140220078787460909:True:=trivial
theorem PySem.W.Fast.tw1942564230648983240:True:=trivial
theorem PySem.W.Fast.tw7338472074264737239:True:=trivial
theorem PySem.W.Fast.tw7147226698145279288:True:=trivial
theorem PySem.W.Fast.tw15039174385413530440:True:=trivial
theorem PySem.W.Fast.tw8320997829663891955:True:=trivial
theorem PySem.W.Fast.tw2879603539630136881:True:=trivial
theorem PySem.W.Fast.tw10759582496891094331:True:=trivial
theorem PySem.W.Fast.tw13358861500474084601:True:=trivial
theorem PySem.W.Fast.tw11390492567928107305:True:=trivial
theorem PySem.W.Fast.tw12475353225401938447:True:=trivial
theorem PySem.W.Fast.tw16842863197348796149:True:=trivial
theorem PySem.W.Fast.tw7246356820493691719:True:=trivial
theorem PySem.W.Fast.tw8679915047771300689:True:=trivial
theorem PySem.W.Fast.tw11897076940633822593:True:=trivial
theorem PySem.W.Fast.tw16393403567192541311:True:=trivial
theorem PySem.W.Fast.tw15149616701919888977:True:=trivial
theorem PySem.W.Fast.tw465660032842766993:True:=trivial
theorem PySem.W.Fast.tw4612886133605371545:True:=trivial
theorem PySem.W.Fast.tw2929307621036921634:True:=trivial
theorem PySem.W.Fast.tw6513237754379071880:True:=trivial
theorem PySem.W.Fast.tw7203844236947948433:True:=trivial
theorem PySem.W.Fast.tw9044963854830150580:True:=trivial
theorem PySem.W.Fast.tw5909984231023977719:True:=trivial
theorem PySem.W.Fast.tw2494255075185102932:True:=trivial
theorem PySem.W.Fast.tw6175902534478323153:True:=trivial
theorem PySem.W.Fast.tw1380037003288369217:True:=trivial
theorem PySem.W.Fast.tw9868434771364021640:True:=trivial
theorem PySem.W.Fast.tw7234876593174116568:True:=trivial
theorem PySem.W.Fast.tw14111255298946569116:True:=trivial
theorem PySem.W.Fast.tw1962618578225809008:True:=trivial
theorem PySem.W.Fast.tw1417702460703234664:True:=trivial
theorem PySem.W.Fast.tw16746370832474401244:True:=trivial
theorem PySem.W.Fast.tw10563495194029035465:True:=trivial
theorem PySem.W.Fast.tw12038480816933803558:True:=trivial
theorem PySem.W.Fast.tw17384847967959710336:True:=trivial
theorem PySem.W.Fast.tw9972243184202694479:True:=trivial
theorem PySem.W.Fast.tw12478317465835768225:True:=trivial
theorem PySem.W.Fast.tw15839507126581670755:True:=trivial
theorem PySem.W.Fast.tw13614703118903047475:True:=trivial
theorem PySem.W.Fast.tw12147851531369822497:True:=trivial
theorem PySem.W.Fast.tw6247184937916428665:True:=trivial
theorem PySem.W.Fast.tw3753466085142671270:True:=trivial
theorem PySem.W.Fast.tw14992202949323413561:True:=trivial
theorem PySem.W.Fast.tw12421937614225205877:True:=trivial
theorem PySem.W.Fast.tw4477469040900068331:True:=trivial
theorem PySem.W.Fast.tw4388607930544974522:True:=trivial
theorem PySem.W.Fast.tw2205419568824091935:True:=trivial
theorem PySem.W.Fast.tw1867247925440522292:True:=trivial
theorem PySem.W.Fast.tw4108023441629291099:True:=trivial
theorem PySem.W.Fast.tw10915590946035630517:True:=trivial
theorem PySem.W.Fast.tw11676292451119826820:True:=trivial
theorem PySem.W.Fast.tw17980199325333307873:True:=trivial
theorem PySem.W.Fast.tw11708081481109648819:True:=trivial
theorem PySem.W.Fast.tw15444819695816888916:True:=trivial
theorem PySem.W.Fast.tw12370875783226578592:True:=trivial
theorem PySem.W.Fast.tw16340234662050504576:True:=trivial
theorem PySem.W.Fast.tw12479557656746905718:True:=trivial
theorem PySem.W.Fast.tw3151119365261470079:True:=trivial
theorem PySem.W.Fast.tw8404734525723125128:True:=trivial
theorem PySem.W.Fast.tw9176471693384577607:True:=trivial
theorem PySem.W.Fast.tw18142169042192731456:True:=trivial
theorem PySem.W.Fast.tw5988001093856772773:True:=trivial
theorem PySem.W.Fast.tw12888940161497367165:True:=trivial
theorem PySem.W.Fast.tw3412587201022110188:True:=trivial
theorem PySem.W.Fast.tw6324774043476741593:True:=trivial
theorem PySem.W.Fast.tw5763607771555567600:True:=trivial
theorem PySem.W.Fast.tw8585484821222363554:True:=trivial
theorem PySem.W.Fast.tw902235128344083921:True:=trivial
theorem PySem.W.Fast.tw7845478442982460649:True:=trivial
theorem PySem.W.Fast.tw3469971734778128245:True:=trivial
theorem PySem.W.Fast.tw657621096513680349:True:=trivial
theorem PySem.W.Fast.tw8080561857813194218:True:=trivial
theorem PySem.W.Fast.tw14940386668016172148:True:=trivial
theorem PySem.W.Fast.tw8248772461844749293:True:=trivial
theorem PySem.W.Fast.tw4391790641907276137:True:=trivial
theorem PySem.W.Fast.tw6947019088684307707:True:=trivial
theorem PySem.W.Fast.tw15002450004417641145:True:=trivial
theorem PySem.W.Fast.tw9762007693785592336:True:=trivial
theorem PySem.W.Fast.tw13292897793909977529:True:=trivial
theorem PySem.W.Fast.tw12631336109132525381:True:=trivial
theorem PySem.W.Fast.tw1363470775392545872:True:=trivial
theorem PySem.W.Fast.tw3511047249992790737:True:=trivial
theorem PySem.W.Fast.tw8256728229425567670:True:=trivial
theorem PySem.W.Fast.tw7067879718906113848:True:=trivial
theorem PySem.W.Fast.tw8981700610688746859:True:=trivial
theorem PySem.W.Fast.tw1551008927243100571:True:=trivial
theorem PySem.W.Fast.tw4993599508299364374:True:=trivial
theorem PySem.W.Fast.tw18050136494047712860:True:=trivial
theorem PySem.W.Fast.tw13660056834975401612:True:=trivial
theorem PySem.W.Fast.tw10985773364608931657:True:=trivial
theorem PySem.W.Fast.tw17022732761451284822:True:=trivial
theorem PySem.W.Fast.tw14371274625481454968:True:=trivial
theorem PySem.W.Fast.tw8323129496687687481:True:=trivial
theorem PySem.W.Fast.tw1295117695316822225:True:=trivial
theorem PySem.W.Fast.tw4375067004857258332:True:=trivial
theorem PySem.W.Fast.tw2984724757657206389:True:=trivial
theorem PySem.W.Fast.tw15494326046525555787:True:=trivial
theorem PySem.W.Fast.tw12938358816178525707:True:=trivial
theorem PySem.W.Fast.tw818129858038501144:True:=trivial
theorem PySem.W.Fast.tw14228657320467741208:True:=trivial
theorem PySem.W.Fast.tw14382928013612341578:True:=trivial
theorem PySem.W.Fast.tw16372956063165299287:True:=trivial
theorem PySem.W.Fast.tw3891913083728113891:True:=trivial
theorem PySem.W.Fast.tw168647320994753194:True:=trivial
theorem PySem.W.Fast.tw10092276952044747384:True:=trivial
theorem PySem.W.Fast.tw1158604617095804763:True:=trivial
theorem PySem.W.Fast.tw5466258379699564667:True:=trivial
theorem PySem.W.Fast.tw10621018302983463099:True:=trivial
theorem PySem.W.Fast.tw16598124504134782473:True:=trivial
theorem PySem.W.Fast.tw14618819910618037005:True:=trivial
theorem PySem.W.Fast.tw6923631270315073234:True:=trivial
theorem PySem.W.Fast.tw10229678305544864222:True:=trivial
theorem PySem.W.Fast.tw13623417175621974462:True:=trivial
theorem PySem.W.Fast.tw5983843082745193360:True:=trivial
theorem PySem.W.Fast.tw11441608254290172093:True:=trivial
theorem PySem.W.Fast.tw7166309181894578921:True:=trivial
theorem PySem.W.Fast.tw12441796217035118576:True:=trivial
theorem PySem.W.Fast.tw8312872955123026935:True:=trivial
theorem PySem.W.Fast.tw7451158853499134588:True:=trivial
theorem PySem.W.Fast.tw7487342827504077155:True:=trivial
theorem PySem.W.Fast.tw17542516237388180013:True:=trivial
theorem PySem.W.Fast.tw6277206028511114009:True:=trivial
theorem PySem.W.Fast.tw11007863971008748158:True:=trivial
theorem PySem.W.Fast.tw2693403383845438318:True:=trivial
theorem PySem.W.Fast.tw17561644257005760945:True:=trivial
theorem PySem.W.Fast.tw17978206331572808796:True:=trivial
theorem PySem.W.Fast.tw8424151730080348134:True:=trivial
theorem PySem.W.Fast.tw7129524014825538665:True:=trivial
theorem PySem.W.Fast.tw14088376526962088636:True:=trivial
theorem PySem.W.Fast.tw2416076273165887899:True:=trivial
theorem PySem.W.Fast.tw13961100431304929156:True:=trivial
theorem PySem.W.Fast.tw2065215112291147368:True:=trivial
theorem PySem.W.Fast.tw384368713017592449:True:=trivial
theorem PySem.W.Fast.tw730872945091396416:True:=trivial
theorem PySem.W.Fast.tw11185069343365673540:True:=trivial
theorem PySem.W.Fast.tw15225500765748939807:True:=trivial
theorem PySem.W.Fast.tw15390096322959766832:True:=trivial
theorem PySem.W.Fast.tw443377199911425538:True:=trivial
theorem PySem.W.Fast.tw8381734488830497134:True:=trivial
theorem PySem.W.Fast.tw4630679814030305167:True:=trivial
theorem PySem.W.Fast.tw1895409821252233947:True:=trivial
theorem PySem.W.Fast.tw1015958963017598985:True:=trivial
theorem PySem.W.Fast.tw12719563169944597389:True:=trivial
theorem PySem.W.Fast.tw11384807823143024975:True:=trivial
theorem PySem.W.Fast.tw198621189999300211:True:=trivial
theorem PySem.W.Fast.tw14480180794189519834:True:=trivial
theorem PySem.W.Fast.tw12432644678799828896:True:=trivial
theorem PySem.W.Fast.tw171649371229392262:True:=trivial
theorem PySem.W.Fast.tw8626018485107287134:True:=trivial
theorem PySem.W.Fast.tw12951506961016699535:True:=trivial
theorem PySem.W.Fast.tw4619617702241311438:True:=trivial
theorem PySem.W.Fast.tw15280141261323192205:True:=trivial
theorem PySem.W.Fast.tw7123583221081755964:True:=trivial
theorem PySem.W.Fast.tw17498460297587143584:True:=trivial
theorem PySem.W.Fast.tw4552795292233134512:True:=trivial
theorem PySem.W.Fast.tw13148923030924337919:True:=trivial
theorem PySem.W.Fast.tw400057169378122879:True:=trivial
theorem PySem.W.Fast.tw18015634749349106285:True:=trivial
theorem PySem.W.Fast.tw6842044873946791063:True:=trivial
theorem PySem.W.Fast.tw9919407106813872698:True:=trivial
theorem PySem.W.Fast.tw15212495948702248366:True:=trivial
theorem PySem.W.Fast.tw7511748488083889222:True:=trivial
theorem PySem.W.Fast.tw2826417142334651265:True:=trivial
theorem PySem.W.Fast.tw4153360449487554164:True:=trivial
theorem PySem.W.Fast.tw9812822265315661821:True:=trivial
theorem PySem.W.Fast.tw2271442843291828973:True:=trivial
theorem PySem.W.Fast.tw12085719843833004503:True:=trivial
theorem PySem.W.Fast.tw15108118259354140579:True:=trivial
theorem PySem.W.Fast.tw4845236012263884827:True:=trivial
theorem PySem.W.Fast.tw16188925671532641486:True:=trivial
theorem PySem.W.Fast.tw18166654743156289414:True:=trivial
theorem PySem.W.Fast.tw8037138691390004083:True:=trivial
theorem PySem.W.Fast.tw11082244246503151929:True:=trivial
theorem PySem.W.Fast.tw7380990017781369714:True:=trivial
theorem PySem.W.Fast.tw11881349599406808211:True:=trivial
theorem PySem.W.Fast.tw2950753655967297340:True:=trivial
theorem PySem.W.Fast.tw15757522432433920509:True:=trivial
theorem PySem.W.Fast.tw8294694935577911486:True:=trivial
theorem PySem.W.Fast.tw4359709374553106088:True:=trivial
theorem PySem.W.Fast.tw8380659166631218989:True:=trivial
theorem PySem.W.Fast.tw4466127785408777305:True:=trivial
theorem PySem.W.Fast.tw17367745644273187691:True:=trivial
theorem PySem.W.Fast.tw1384702001165350252:True:=trivial
theorem PySem.W.Fast.tw16021814246059653072:True:=trivial
theorem PySem.W.Fast.tw14597291306969945180:True:=trivial
theorem PySem.W.Fast.tw6069092068767182550:True:=trivial
theorem PySem.W.Fast.tw12114153431564645309:True:=trivial
theorem PySem.W.Fast.tw15251451003879686252:True:=trivial
theorem PySem.W.Fast.tw6269796743446461742:True:=trivial
theorem PySem.W.Fast.tw6705679869974415302:True:=trivial
theorem PySem.W.Fast.tw12471301121948169950:True:=trivial
theorem PySem.W.Fast.tw4039741983248452930:True:=trivial
theorem PySem.W.Fast.tw7767052309519489544:True:=trivial
theorem PySem.W.Fast.tw12349492450846904818:True:=trivial
theorem PySem.W.Fast.tw11259121108822129528:True:=trivial
theorem PySem.W.Fast.tw14543339764838133905:True:=trivial
theorem PySem.W.Fast.tw4972288469772156217:True:=trivial
theorem PySem.W.Fast.tw18317781668648895923:True:=trivial
theorem PySem.W.Fast.tw14808728966821918381:True:=trivial
theorem PySem.W.Fast.tw487175524558557270:True:=trivial
theorem PySem.W.Fast.tw16622638057723418581:True:=trivial
noncomputable def PySem.W.Fast.tw7355412682646411128:PySem.Program:={ PySem.Challenge.pw_wirechannel_k04_not_texts with main:={ PySem.Challenge.pw_wirechannel_k04_not_texts.main with body:=[1,2,3,4,6,7,8,9,10,11,12,13,14,15,16,17,19,20,21,22,23,24,25,26,27,28,29,30,31,32,33,34,35,36,37,38,40,41,42,43,44,45,46,47,48,49,50,51,52,53,54,55,56,57,58].map fun i=>PySem.Challenge.pw_wirechannel_k04_not_texts.main.body.getD i (.Pass ⟨0,0,0,0⟩) } }
theorem PySem.W.Fast.te7355412682646411128:({ PySem.Challenge.pw_wirechannel_k04_not_texts with main:={ PySem.Challenge.pw_wirechannel_k04_not_texts.main with body:=[1,2,3,4,6,7,8,9,10,11,12,13,14,15,16,17,19,20,21,22,23,24,25,26,27,28,29,30,31,32,33,34,35,36,37,38,40,41,42,43,44,45,46,47,48,49,50,51,52,53,54,55,56,57,58].map fun i=>PySem.Challenge.pw_wirechannel_k04_not_texts.main.body.getD i (.Pass ⟨0,0,0,0⟩) } }:PySem.Program)=PySem.W.Fast.tw7355412682646411128:=rfl
local macro_rules | `(tactic| walk_at "A")=>`(tactic| ((try dsimp only[L2.gr]);refine' L2.gI KX G ?a ?l ?c ?k;(case a=>k_is);(case l=>k_is);(case c=>k_is);(case k=>k_is)))
theorem PySem.Challenge.cw_wirechannel_k04_not_texts_holds : PySem.Challenge.rw_wirechannel_k04_not_texts.Holds := by
 w_on;o_law;k_head;(case hw=>w_witness2)
 k_fill
 refine L2.oR (l:=PySem.Challenge.rw_wirechannel_k04_not_texts) (n:=63) (k:=6) (x:="_law_script") rfl (by decide) rfl ⟨rfl,by decide,by decide⟩ (fun w h Y=>PySem.W.kIn_of Y) ?F
 case F=>
  intro w mg fa h KX G sF;have jt:L2.B2 (L2.gr KX) mg "Channel" "Channel.__init__" Wc.h9 ["top","bottom","left","right","wide","bends","keeps"]:=by
   dsimp only[L2.gr];refine' L2.vp KX G ?aC ?a1 ?i1 ?l1 ?c1 ?k1 ?pg ?hd ?po ?sa ?mk ?kc ⟨?n0,?n1,?n2,?n3,?n4,?n5,?n6,trivial⟩
   (case aC=>k_is)
   (case a1=>k_is)
   (case i1=>k_is)
   (case l1=>k_is)
   (case c1=>k_is)
   (case k1=>k_is)
   (case pg=>k_is)
   (case hd=>k_is)
   (case po=>k_is)
   (case sa=>k_is)
   (case mk=>k_is)
   (case kc=>k_is)
   (case n0=>unfold L2.cO;k_is)
   (case n1=>unfold L2.cO;k_is)
   (case n2=>unfold L2.cO;k_is)
   (case n3=>unfold L2.cO;k_is)
   (case n4=>unfold L2.cO;k_is)
   (case n5=>unfold L2.cO;k_is)
   (case n6=>unfold L2.cO;k_is)
  have j9:L2.At (L2.gr KX) mg "demand" Wc.i6:=by
   dsimp only[L2.gr];refine' L2.gI KX G ?a ?l ?c ?k
   (case a=>k_is);(case l=>k_is);(case c=>k_is);(case k=>k_is)
  have fm:L2.At (L2.gr KX) mg "demand_heads" Wc.ef:=by
   dsimp only[L2.gr];refine' L2.gI KX G ?a ?l ?c ?k
   (case a=>k_is);(case l=>k_is);(case c=>k_is);(case k=>k_is)
  have hU:L2.At (L2.gr KX) mg "read_name" Wc.fE:=by
   dsimp only[L2.gr];refine' L2.gI KX G ?a ?l ?c ?k
   (case a=>k_is);(case l=>k_is);(case c=>k_is);(case k=>k_is)
  have hJ:L2.At (L2.gr KX) mg "read_pins" Wc.fD:=by
   dsimp only[L2.gr];refine' L2.gI KX G ?a ?l ?c ?k
   (case a=>k_is);(case l=>k_is);(case c=>k_is);(case k=>k_is)
  have gA:L2.At (L2.gr KX) mg "read_names" Wc.eP:=by
   dsimp only[L2.gr];refine' L2.gI KX G ?a ?l ?c ?k
   (case a=>k_is);(case l=>k_is);(case c=>k_is);(case k=>k_is)
  have fV:L2.At (L2.gr KX) mg "read_number" Wc.eD:=by
   dsimp only[L2.gr];refine' L2.gI KX G ?a ?l ?c ?k
   (case a=>k_is);(case l=>k_is);(case c=>k_is);(case k=>k_is)
  have g9:L2.At (L2.gr KX) mg "read_wide" Wc.fB:=by
   dsimp only[L2.gr];refine' L2.gI KX G ?a ?l ?c ?k
   (case a=>k_is);(case l=>k_is);(case c=>k_is);(case k=>k_is)
  have hX:L2.At (L2.gr KX) mg "read_bend" Wc.fG:=by
   dsimp only[L2.gr];refine' L2.gI KX G ?a ?l ?c ?k
   (case a=>k_is);(case l=>k_is);(case c=>k_is);(case k=>k_is)
  have hV:L2.At (L2.gr KX) mg "read_keep" Wc.fF:=by
   dsimp only[L2.gr];refine' L2.gI KX G ?a ?l ?c ?k
   (case a=>k_is);(case l=>k_is);(case c=>k_is);(case k=>k_is)
  have fk:L2.At (L2.gr KX) mg "demand_lists" Wc.ee:=by
   dsimp only[L2.gr];refine' L2.gI KX G ?a ?l ?c ?k
   (case a=>k_is);(case l=>k_is);(case c=>k_is);(case k=>k_is)
  have fj:L2.At (L2.gr KX) mg "read_channel" Wc.d0:=by
   dsimp only[L2.gr];refine' L2.gI KX G ?a ?l ?c ?k
   (case a=>k_is);(case l=>k_is);(case c=>k_is);(case k=>k_is)
  have f7:∃t,mg "FIGURES"=some (.str "0123456789" t):=by
   refine' L2.oj KX G ?c ?e
   (case c=>k_is)
   (case e=>exact rfl)
  have fU:L2.sZ (L2.gr KX) mg "FIRST_HEADS" ["top","bottom","left","right"]:=by
   dsimp only[L2.gr];refine' L2.sR KX G ?c ?l ?h
   (case c=>k_is)
   (case l=>k_is)
   (case h=>exact⟨rfl,_,_,rfl,by decide,(.cons ⟨_,rfl⟩ (.cons ⟨_,rfl⟩ (.cons ⟨_,rfl⟩ (.cons ⟨_,rfl⟩ .nil))))⟩)
  have f6:∃t,mg "LETTERS"=some (.str "abcdefghijklmnopqrstuvwxyz" t):=by
   refine' L2.oj KX G ?c ?e
   (case c=>k_is)
   (case e=>exact rfl)
  have c7:∃t,mg "LONGEST_NAME"=some (.int 6 t):=by
   refine' L2.jS KX G ?c ?e
   (case c=>k_is)
   (case e=>exact rfl)
  have c6:∃t,mg "MOST_COLUMNS"=some (.int 40 t):=by
   refine' L2.jS KX G ?c ?e
   (case c=>k_is)
   (case e=>exact rfl)
  have ej:∃t,mg "MOST_KEEPS"=some (.int 8 t):=by
   refine' L2.jS KX G ?c ?e
   (case c=>k_is)
   (case e=>exact rfl)
  have eh:∃t,mg "MOST_NAMES"=some (.int 24 t):=by
   refine' L2.jS KX G ?c ?e
   (case c=>k_is)
   (case e=>exact rfl)
  have T:Wc.Txt (L2.gr KX) mg:=by
   dsimp only[L2.gr];refine' ⟨aU KX G ?b_ValueError,aU KX G ?b_all,aU KX G ?b_enumerate,aU KX G ?b_int,aU KX G ?b_isinstance,aU KX G ?b_len,aU KX G ?b_list,aU KX G ?b_max,aU KX G ?b_min,aU KX G ?b_range,aU KX G ?b_set,aU KX G ?b_sorted,aU KX G ?b_str,aU KX G ?b_sum,aU KX G ?b_zip,f7,fU,f6,c7,c6,ej,eh⟩
   (case b_ValueError=>k_is)
   (case b_all=>k_is)
   (case b_enumerate=>k_is)
   (case b_int=>k_is)
   (case b_isinstance=>k_is)
   (case b_len=>k_is)
   (case b_list=>k_is)
   (case b_max=>k_is)
   (case b_min=>k_is)
   (case b_range=>k_is)
   (case b_set=>k_is)
   (case b_sorted=>k_is)
   (case b_str=>k_is)
   (case b_sum=>k_is)
   (case b_zip=>k_is)
  have zG:∃bj:Addr,mg "BadText"=some (.ref bj)/\∃b9:Addr,mg "WireError"=some (.ref b9)/\∃cI:Addr,mg "BadBend"=some (.ref cI)/\∃bV:Addr,mg "BadDrawing"=some (.ref bV)/\∃cH:Addr,mg "BadKeep"=some (.ref cH)/\∃cG:Addr,mg "BadPile"=some (.ref cG)/\∃fi:Addr,mg "Lone"=some (.ref fi)/\∃cw:Addr,mg "NoLayout"=some (.ref cw)/\∃ez:Addr,mg "NoNet"=some (.ref ez)/\∃cE:Addr,mg "NoOrder"=some (.ref cE)/\∃cu:Addr,mg "PinTaken"=some (.ref cu)/\∃ey:Addr,mg "Taken"=some (.ref ey)/\(L2.cS (L2.gr KX) mg "BadText" bj [.type "ValueError",.type "Exception",.type "BaseException",.type "object"] "ValueError.__new__")/\(L2.cS (L2.gr KX) mg "WireError" b9 [.type "ValueError",.type "Exception",.type "BaseException",.type "object"] "ValueError.__new__")/\(PySem.W.nsIn (L2.gr KX) mainGlobals "BadText"=some (some (.ref bj)))/\(L2.subIn (L2.gr KX) bj b9=true)/\(L2.sY (L2.gr KX) bj)/\(PySem.W.kitOne (L2.gr KX) (.ref bj) (.ref bj)=some true)/\(PySem.W.kitOne (L2.gr KX) (.ref bj) (.type "ValueError")=some true)/\(PySem.W.kitAny (L2.gr KX) (.ref bj) [.ref cI,.ref bV,.ref cH,.ref cG,.ref fi]=some false)/\(PySem.W.kitAny (L2.gr KX) (.ref bj) [.ref cw,.ref ez,.ref cE,.ref cu,.ref ey]=some false):=by
   dsimp only[L2.gr];exact⟨_,aZ KX G (by k_is),_,aZ KX G (by k_is),_,aZ KX G (by k_is),_,aZ KX G (by k_is),_,aZ KX G (by k_is),_,aZ KX G (by k_is),_,aZ KX G (by k_is),_,aZ KX G (by k_is),_,aZ KX G (by k_is),_,aZ KX G (by k_is),_,aZ KX G (by k_is),_,aZ KX G (by k_is),⟨aZ KX G (by k_is),by k_exc⟩,⟨aZ KX G (by k_is),by k_exc⟩,by k_is,Wc.qm (by k_is),⟨by k_is,by k_is,by k_is,by k_is,by k_is,by k_is,by k_is,by k_is⟩,by kit_is,by kit_is,by kit_is,by kit_is⟩
  obtain⟨bj,dJ,b9,uj,cI,dR,bV,cB,cH,dQ,cG,dN,fi,g7,cw,c9,ez,fM,cE,dH,cu,c8,ey,fL,bG,cL,cA,bO,EK,I1,I2,I3,I4⟩:=zG;exact Wc.uV T jt ⟨by walk_at "A",by walk_at "A",by walk_at "A",by walk_at "A",by walk_at "A",by walk_at "A",by walk_at "A",by walk_at "A",by walk_at "A",by walk_at "A",by walk_at "A",by walk_at "A",by walk_at "A",by walk_at "A",by walk_at "A",by walk_at "A",by walk_at "A",by walk_at "A",by walk_at "A",by walk_at "A",by walk_at "A",by walk_at "A",by walk_at "A",by walk_at "A",trivial⟩ j9 fm hU hJ gA fV g9 hX hV fk fj bG cL cA bO EK dJ dR cB dQ dN g7 c9 fM dH c8 fL I1 I2 I3 I4 sF
#print axioms PySem.Challenge.cw_wirechannel_k04_not_texts_holds
