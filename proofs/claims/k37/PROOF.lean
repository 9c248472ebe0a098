import PyProof.Rows.All
import Wide.All
import OpenK.AllK
import Wide.FinOn
import Lean
import PyProof.EqAt
import PyProof.EqKinds
import PyProof.TupleCall
import PyProof.NeKinds
import PyProof.SliceStr2
import PyProof.ConsumeWalk
import KE.KDictSum
import PyProof.DictWalks
import PyProof.AttrMissSeq
import KE.KDictOf
import PyProof.WalksS
import PyProof.Walks
import PyProof.DictList
import PyProof.MeetsDict
import PyProof.FactsAll.dict_3
import PyProof.MinMaxWalk
import PyProof.WalkInts
import PyProof.Rows.CallKwBuiltin
import PyProof.MaxThree
import PyProof.Rows.SortRunsK
import KE.KSortAsk
import PyProof.Rows.SortShellK
import KE.KSortTup
import PyProof.DictRoadsH
import PyProof.DictIter
import KE.KDictList
import PyProof.ZipIter
import PyProof.TupleIter
import PyProof.WalksMore
import PyProof.SumWalkG
import PyProof.DictValues
import PyProof.FactsAll.dict_4
import PySem.SetOps
import OpenK.KMore
import PyProof.ListRange
import PyProof.DictItems
import PyProof.CallStr
import PySem.Challenge.RW_wirechannel_k37_none_below_the_floor
set_option hygiene false
set_option compiler.extract_closed false
noncomputable section
local macro_rules | `(tactic| omega) => `(tactic| lia)
set_option Elab.async false
set_option linter.all false
set_option maxRecDepth 100000
def aa:=@PySem.wpAny_bind
def ae:=@PySem.Heap.get?_push_of_some
def af:=@List.length_map
def ag:=@List.getElem?_eq_getElem
def ai:=@PySem.wpAny_pure
def aj:=@List.getElem?_eq_some_iff
def ao:=@List.getElem?_map
def aq:=@List.mem_cons
def ar:=@Bool.not_false
def au:=@List.map_cons
def av:=@PySem.Heap.get?_push_size
def aw:=@List.mem_append
def ax:=@PySem.Heap.lt_size
def ay:=@List.mem_of_getElem?
def az:=@Nat.le_refl
def aA:=@Nat.ne_of_lt
def aB:=@List.mem_cons_of_mem
def aC:=@List.size_toArray
def aD:=@Option.some.injEq
def aE:=@List.map_map
def aF:=@Bool.false_eq_true
def aG:=@Bool.false_ne_true
def aH:=@List.mem_map
def aI:=@List.mem_filter
def aJ:=@List.map_append
def aK:=@List.take_add_one
def aL:=@List.nodup_cons
def aM:=@Option.map_some
def aN:=@List.length_cons
def aO:=@List.mem_append_left
def aP:=@List.mem_range
def aQ:=@decide_eq_true_eq
def aR:=@List.mem_singleton
def aS:=@List.take_length
def aT:=@Array.length_toList
def aU:=@PySem.Heap.get?_update_other
def aV:=@List.length_take
def aW:=@List.getElem?_cons_zero
def aX:=@List.getElem?_cons_succ
def aY:=@List.mem_map_of_mem
def aZ:=@Nat.lt_of_lt_of_le
def a9:=@List.length_append
def ba:=@Nat.zero_le
def bc:=@PySem.PassesOwn.never
def bg:=@PySem.Around.under_plainId
def bh:=@List.find?_cons
def bj:=@List.mem_cons_self
def bp:=@PySem.W.mg_none_of
def br:=@List.not_mem_nil
def bu:=@List.mem_append_right
def bw:=@List.foldl_cons
def bx:=@Option.map_eq_some_iff
def bz:=@decide_eq_false
def bA:=@PySem.wpAny_holding
def bB:=@Array.getElem?_eq_getElem
def bC:=@List.pairwise_map
def bD:=@List.take_of_length_le
def bE:=@if_false
def bF:=@Bool.and_eq_true
def bG:=@PySem.wpAny_newObj_type
def bH:=@Nat.lt_succ_of_lt
def bI:=@List.getElem_mem
def bJ:=@List.nodup_append
def bL:=@List.length_filter_le
def bM:=@PySem.codeAny_builtin
def bN:=@List.pairwise_iff_getElem
def bO:=@if_true
def bP:=@List.length_range
def bQ:=@List.getElem?_set
def bR:=@Int.emod_nonneg
def bS:=@PySem.Heap.get?_update_self
def bT:=@PySem.plainId_quiet
def bU:=@Int.le_refl
namespace L2
open PySem PySem.Spec PyProof.Rows
noncomputable abbrev Key:=Sum Int Str
noncomputable def tu:Key->Value->Bool
 | .inl k,v=>Value.isInt k v
 | .inr x,v=>Value.isStrOf x v
noncomputable def L8(w:World):Key->Int
 | .inl k=>hashInt k
 | .inr x=>hashStr w x
theorem qk:∀{k:Key} {v:Value},tu k v=true->(∃i t,k=Sum.inl i/\v=Value.int i t)\/(∃x t,k=Sum.inr x/\v=Value.str x t)
 | .inl i,v,h=>by
  obtain⟨t,e⟩:=Value.isInt_shape (k:=i) (v:=v) h;exact .inl ⟨i,t,rfl,e⟩
 | .inr x,v,h=>by
  obtain⟨t,e⟩:=Value.isStrOf_shape (x:=x) (v:=v) h;exact .inr ⟨x,t,rfl,e⟩
theorem RX(i:Int)(t:Tok):tu (.inl i) (.int i t)=true:=by simp[tu,Value.isInt]
theorem RW(x:Str)(t:Tok):tu (.inr x) (.str x t)=true:=by simp[tu,Value.isStrOf]
theorem Nh(a b:Int):decide ((Sum.inl a:Key)=Sum.inl b)=(a==b):=by
 by_cases e:a=b
 ·subst e;simp
 ·have h:¬(Sum.inl a:Key)=Sum.inl b:=fun q=>e (Sum.inl.inj q)
  rw[bz h];exact(beq_eq_false_iff_ne.mpr e).symm
theorem Ng(a b:Str):decide ((Sum.inr a:Key)=Sum.inr b)=decide (a=b):=by
 by_cases e:a=b
 ·subst e;simp
 ·have h:¬(Sum.inr a:Key)=Sum.inr b:=fun q=>e (Sum.inr.inj q)
  rw[bz h,bz e]
theorem Nf(a:Int)(b:Str):decide ((Sum.inl a:Key)=Sum.inr b)=false:=bz (fun q=>nomatch q)
theorem Nd(a:Str)(b:Int):decide ((Sum.inr a:Key)=Sum.inl b)=false:=bz (fun q=>nomatch q)
noncomputable def gZ(prog:Program)(w:World):PySem.KeyKind prog w Key where
 is:=tu
 hash:=L8 w
 inj:=fun v a b ha hb=>by
  rcases qk ha with⟨i,t,rfl,rfl⟩ | ⟨x,t,rfl,rfl⟩
  ·rcases qk hb with⟨j,u,rfl,e⟩ | ⟨y,u,rfl,e⟩
   ·injection e with e1 _;rw[e1]
   ·exact nomatch e
  ·rcases qk hb with⟨j,u,rfl,e⟩ | ⟨y,u,rfl,e⟩
   ·exact nomatch e
   ·injection e with e1 _;rw[e1]
 byValue:=fun k v h=>by
  rcases qk h with⟨i,t,rfl,rfl⟩ | ⟨x,t,rfl,rfl⟩<;>rfl
 pyHash:=fun hv h=>by
  rcases qk hv with⟨i,t,rfl,rfl⟩ | ⟨x,t,rfl,rfl⟩
  ·exact wpAny_pyHash_int h
  ·exact wpAny_pyHash_str h
 eqBool:=fun hu hv h=>by
  rcases qk hu with⟨i,t,rfl,rfl⟩ | ⟨x,t,rfl,rfl⟩
  ·rcases qk hv with⟨j,u,rfl,rfl⟩ | ⟨y,u,rfl,rfl⟩
   ·rw[Nh] at h;exact wpAny_eqBool_int h
   ·rw[Nf] at h;exact SeqAt.EqAt.int_str i t y u _ _ _ _ h
  ·rcases qk hv with⟨j,u,rfl,rfl⟩ | ⟨y,u,rfl,rfl⟩
   ·rw[Nd] at h;exact SeqAt.EqAt.str_int x t j u _ _ _ _ h
   ·rw[Ng] at h;exact wpAny_eqBool_str h
 «strs»:=fun k x t v h=>by
  rcases qk h with⟨i,u,rfl,e⟩ | ⟨y,u,rfl,e⟩
  ·exact nomatch e
  ·injection e with e1 _
   subst e1;cases v<;>rfl
theorem Sn(prog:Program)(w:World)(i:Int)(t:Tok):(gZ prog w).is (.inl i) (.int i t)=true:=RX i t
theorem Sm(prog:Program)(w:World)(x:Str)(t:Tok):(gZ prog w).is (.inr x) (.str x t)=true:=RW x t
end L2
namespace L2
open PySem PySem.Spec PyProof.Rows
inductive V where
 | non | bl (b:Bool) | int (i:Int) | str (x:Str) | FR (b:Array UInt8) | FE (b:UInt64) | ref (a:Addr) | ty (n:String)
 deriving DecidableEq
def RelV:V->Value->Prop
 | .non,u=>u=Value.none
 | .bl b,u=>u=Value.bool b
 | .int i,u=>∃t,u=Value.int i t
 | .str x,u=>∃t,u=Value.str x t
 | .FR b,u=>∃t,u=Value.bytes b t
 | .FE b,u=>∃t,u=Value.float b t
 | .ref a,u=>u=Value.ref a
 | .ty n,u=>u=Value.type n
abbrev Vals:List V->List Value->Prop:=Paired RelV
theorem Vals.length{xs:List V}{us:List Value}(r:Vals xs us):xs.length=us.length:=Paired.length r
theorem Vals.get:∀{xs:List V} {us:List Value} {i:Nat} {x:V},Vals xs us->xs[i]?=some x->∃u,us[i]?=some u/\RelV x u
 | _,_,_,_,.nil,e=>by simp at e
 | _,_,0,_,.cons r _,e=>by simp at e;subst e;exact⟨_,rfl,r⟩
 | _,_,i+1,x,.cons _ t,e=>by
  obtain⟨u,h1,h2⟩:=Vals.get (i:=i) (x:=x) t (by simpa using e);exact⟨u,by simpa using h1,h2⟩
theorem Vals.set{x:V}{u:Value}(r:RelV x u):∀{xs:List V} {us:List Value} (i:Nat),Vals xs us->Vals (xs.set i x) (us.set i u)
 | _,_,_,.nil=>.nil
 | _,_,0,.cons _ t=>.cons r t
 | _,_,i+1,.cons q t=>.cons q (Vals.set r i t)
theorem Vals.append:∀{xs ys:List V} {us ws:List Value},Vals xs us->Vals ys ws->Vals (xs++ys) (us++ws)
 | _,_,_,_,.nil,s=>s
 | _,_,_,_,.cons r t,s=>.cons r (Vals.append t s)
theorem Vals.take:∀{xs:List V} {us:List Value} (n:Nat),Vals xs us->Vals (xs.take n) (us.take n)
 | _,_,0,_=>.nil
 | _,_,_+1,.nil=>.nil
 | _,_,n+1,.cons r t=>.cons r (Vals.take n t)
theorem Vals.drop:∀{xs:List V} {us:List Value} (n:Nat),Vals xs us->Vals (xs.drop n) (us.drop n)
 | _,_,0,r=>r
 | _,_,_+1,.nil=>.nil
 | _,_,n+1,.cons _ t=>Vals.drop n t
def jR:Option V->Option Value->Prop
 | some v,some u=>RelV v u
 | none,none=>True
 | _,_=>False
def KV{κ:Type}:List (κ×V)->List (κ×Value)->Prop:=Paired fun(p:κ×V) (q:κ×Value)=>p.1=q.1/\RelV p.2 q.2
noncomputable def kV:Key->V
 | .inl i=>.int i
 | .inr x=>.str x
inductive HO where
 /-- a list -/
 | lst (xs:List V)
 /-- a tuple (never changes) -/
 | tup (xs:List V)
 /-- a dict xK keys are ints and texts;one xK keys are tuples of ints and texts (oF empty one is both) -/
 | dK (kvs:List (Key×V)) (ep:Nat) | dT (kvs:List (List Key×V)) (bs:List Addr)
 /-- a set of ints: its members,its size -/
 | set (S:Int->Bool) (n:Nat)
 /-- an instance of oF class at C,its dict at dx,its attributes -/
 | ins (C dx:Addr) (fs:List (Str×V))
 /-- oF dict of oF instance at x -/
 | own (x:Addr)
 /-- oF dict of an exception -/
 | xd (fs:List (Str×V))
 /-- a bound method,f of x -/
 | met (f x:Addr)
 /-- a range object lo,lo+1,.. below hi -/
 | D3 (lo hi:Int)
 /-- a xR U1 is known to oF object (oF o9;a dict while a loop walks it): read,never written while it is so -/
 | iC (o:Obj) (u:HO)
 /-- a code xY table -/
 | tP (ps:Array Value)
 /-- any other xR,by DQ is true of its one object (a def of J3 own: Xr a S n:=HO.ext fun h=>..) -/
 | ext (φ:Heap->Prop)
noncomputable abbrev Hp:=Addr->Option HO
noncomputable def upd(H:Hp)(a:Addr)(o:HO):Hp:=fun b=>if b=a then some o else H b
theorem fk{H:Hp}{a:Addr}{o:HO}:upd H a o a=some o:=by unfold upd;rw[if_pos rfl]
theorem cX{H:Hp}{a b:Addr}{o:HO}(h:b≠a):upd H a o b=H b:=by unfold upd;rw[if_neg h]
theorem ML{H:Hp}{a b:Addr}{o u:HO}(h:H a=some o)(h':H b=some u)(d:o≠u):a≠b:=by
 intro e;subst e;rw[h] at h';exact d (Option.some.inj h')
theorem jf{H:Hp}{a b:Addr}{o:HO}(h:H a=some o)(h':H b=none):a≠b:=by
 intro e;subst e;rw[h] at h';cases h'
section
variable (P:Program) (w:World)
def cU(H:Hp)(h:Heap)(a:Addr):HO->Prop
 | .lst xs=>xs.length<=sizeLine/\∃(its:List Value) (n:Nat),Vals xs its/\h.get? a=some { cls:=.type "list",data:=.seq its.toArray n }
 | .tup xs=>xs.length<=sizeLine/\∃its:List Value,Vals xs its/\IsTup h a its.toArray
 | .dK kvs ep=>kvs.length<=sizeLine/\(a==sysModules)=false/\∃vs,KV kvs vs/\h.DictAt (gZ P w) a vs ep
 | .dT kvs bs=>kvs.length<=sizeLine/\(a==sysModules)=false/\∃xs:List (List Key×Addr×Value),xs.map (fun x=>x.2.1)=bs/\
   Paired (fun(p:List Key×V) (q:List Key×Addr×Value)=>p.1=q.1/\H q.2.1=some (.tup (p.1.map kV))/\RelV p.2 q.2.2) kvs xs/\
   ∃o es ep,h.get? a=some o/\o.ExactDict/\o.data=.dict es ep/\es.toList=xs.map (entryOfKey (tupleKind (gZ P w)))/\(xs.map (·.1)).Nodup
 | .set S n=>h.SetOf (intKind P w) a S n
 | .ins C dx fs=>H dx=some (.own a)/\fs.length<=1000/\dx≠a/\h.get? a=some (PySem.W.instObj C dx)/\
   ∃mA,h.Ns1 dx mA/\(∀f,jR (fs.lookup f) (mA f))/\PySem.Within mA (fs.map (·.1))
 | .own _=>∃o,h.get? a=some o
 | .xd fs=>∃mA,h.Ns1 a mA/\∀f,jR (fs.lookup f) (mA f)
 | .D3 lo hi=>∃t u v,h.get? a=some { cls:=.type "range",data:=.fields #[.int lo t,.int hi u,.int 1 v] }
 | .iC o u=>h.get? a=some o/\cU H h a u
 | .tP ps=>h.get? a=some { cls:=.none,data:=.fields ps }
 | .met f x=>h.get? a=some (PySem.W.methodObj (.ref f) (.ref x))
 | .ext φ=>φ h/\(∃o,h.get? a=some o)/\∀h1 h2:Heap,φ h1->(∀o,h1.get? a=some o->h2.get? a=some o)->φ h2
def ip(H:Hp)(h:Heap):Prop:=∀a o,H a=some o->cU P w H h a o
end
section
variable {P:Program} {w:World} {H H':Hp} {h h':Heap} {a:Addr} {o:HO}
theorem cU.lt(x:cU P w H h a o):a<h.objs.size:=by
 cases o with
 | lst xs=>obtain⟨_,_,_,_,e⟩:=x;exact ax e
 | tup xs=>obtain⟨_,_,_,p⟩:=x;exact p.lt
 | dK kvs ep=>obtain⟨_,_,_,_,o,_,e,_⟩:=x;exact ax e
 | dT kvs bs=>obtain⟨_,_,_,_,_,o,_,_,e,_⟩:=x;exact ax e
 | set S n=>obtain⟨o,_,_,_,e,_⟩:=x;exact ax e
 | ins C dx fs=>obtain⟨_,_,_,e,_⟩:=x;exact ax e
 | own y=>obtain⟨_,e⟩:=x;exact ax e
 | xd fs=>obtain⟨_,⟨_,_,_,e,_⟩,_⟩:=x;exact ax e
 | D3 lo hi=>obtain⟨_,_,_,e⟩:=x;exact ax e
 | iC ob u=>obtain⟨e,_⟩:=x;exact ax e
 | tP ps=>exact ax (show h.get? a=some _ from x)
 | met f y=>exact ax (show h.get? a=some _ from x)
 | ext φ=>obtain⟨_,⟨_,e⟩,_⟩:=x;exact ax e
theorem Paired.t9{α β:Type}{F G:α->β->Prop}:∀{pB:List α} {pA:List β},Paired F pB pA->(∀a b,F a b->G a b)->Paired G pB pA
 | _,_,.nil,_=>.nil
 | _,_,.cons r t,f=>.cons (f _ _ r) (Paired.t9 t f)
theorem cU.fS(x:cU P w H h a o)(k:∀b u,(b=a\/H b=some (.own a))->h.get? b=some u->h'.get? b=some u)
  (ho:∀b,H b=some (.own a)->H' b=some (.own a)) (ht:∀b xs,H b=some (.tup xs)->H' b=some (.tup xs)):cU P w H' h' a o:=by
 induction o with
 | lst xs=>obtain⟨z,its,n,r,e⟩:=x;exact⟨z,its,n,r,k _ _ (.inl rfl) e⟩
 | tup xs=>obtain⟨z,its,r,ob,e,c⟩:=x;exact⟨z,its,r,ob,k _ _ (.inl rfl) e,c⟩
 | dK kvs ep=>obtain⟨z,y,vs,r,ob,es,e,c⟩:=x;exact⟨z,y,vs,r,ob,es,k _ _ (.inl rfl) e,c⟩
 | dT kvs bs=>
  obtain⟨z,y,xs,bq,r,ob,es,ep,e,c⟩:=x;exact⟨z,y,xs,bq,Paired.t9 r fun p q z=>⟨z.1,ht _ _ z.2.1,z.2.2⟩,ob,es,ep,k _ _ (.inl rfl) e,c⟩
 | set S n=>obtain⟨ob,es,ep,t,e,c⟩:=x;exact⟨ob,es,ep,t,k _ _ (.inl rfl) e,c⟩
 | ins C dx fs=>
  obtain⟨d,z,ne,e,mA,⟨od,es,ep,e2,c⟩,r⟩:=x;exact⟨ho _ d,z,ne,k _ _ (.inl rfl) e,mA,⟨od,es,ep,k _ _ (.inr d) e2,c⟩,r⟩
 | own y=>obtain⟨ob,e⟩:=x;exact⟨ob,k _ _ (.inl rfl) e⟩
 | xd fs=>obtain⟨mA,⟨od,es,ep,e,c⟩,r⟩:=x;exact⟨mA,⟨od,es,ep,k _ _ (.inl rfl) e,c⟩,r⟩
 | D3 lo hi=>obtain⟨t,u,v,e⟩:=x;exact⟨t,u,v,k _ _ (.inl rfl) e⟩
 | iC ob u ih=>obtain⟨e,q⟩:=x;exact⟨k _ _ (.inl rfl) e,ih q⟩
 | tP ps=>
  have e:h.get? a=some { cls:=.none,data:=.fields ps }:=x;show h'.get? a=some { cls:=.none,data:=.fields ps };exact k a _ (.inl rfl) e
 | met f y=>
  have e:h.get? a=some (PySem.W.methodObj (.ref f) (.ref y)):=x;show h'.get? a=some (PySem.W.methodObj (.ref f) (.ref y));exact k a _ (.inl rfl) e
 | ext φ=>obtain⟨p,⟨o,e⟩,st⟩:=x;exact⟨st _ _ p fun o q=>k _ _ (.inl rfl) q,⟨o,k _ _ (.inl rfl) e⟩,st⟩
theorem ip.lt(x:ip P w H h)(e:H a=some o):a<h.objs.size:=(x a o e).lt
theorem ip.fresh(x:ip P w H h)(e:h.objs.size<=a):H a=none:=by
 cases q:H a with
 | none=>rfl
 | some u=>exact absurd (aZ (x.lt q) e) (Nat.lt_irrefl _)
theorem ip.kept(x:ip P w H h)(k:∀b u,h.get? b=some u->h'.get? b=some u):ip P w H h':=fun a o e=>
 (x a o e).fS (fun b u _ q=>k b u q) (fun _ q=>q) fun _ _ q=>q
theorem ip.laid(x:ip P w H h)(k:∀b u,h.get? b=some u->h'.get? b=some u)(hp:h.objs.size<=a)(new:cU P w (upd H a o) h' a o):ip P w (upd H a o) h':=fun b u e=>by
 have hn:=x.fresh hp;by_cases hb:b=a
 ·subst hb;rw[fk] at e;cases e;exact new
 ·rw[cX hb] at e;exact(x b u e).fS (fun c v _ q=>k c v q) (fun c q=>by rw[cX (jf q hn)];exact q) fun c xs q=>by rw[cX (jf q hn)];exact q
end
def Rd(H:Hp)(a:Addr)(u:HO):Prop:=H a=some u\/∃o,H a=some (.iC o u)
theorem Rd.ok{P:Program}{w:World}{H:Hp}{h:Heap}{a:Addr}{u:HO}(r:Rd H a u)(x:ip P w H h):cU P w H h a u:=by
 rcases r with r | ⟨o,r⟩
 ·exact x a u r
 ·obtain⟨_,q⟩:=x a _ r;exact q
def zz:Option HO->Prop
 | some (.lst _)=>True
 | some (.dK _ _)=>True
 | some (.dT _ _)=>True
 | some (.set _ _)=>True
 | some (.ins _ _ _)=>True
 | some (.ext _)=>True
 | _=>False
section
variable {P:Program} {w:World} {H:Hp} {h h':Heap} {x e:Addr} {o':HO}
theorem ip.write(ok:ip P w H h)(mu:zz (H x))(he:e=x\/H e=some (.own x))(k:∀b u,b≠e->h.get? b=some u->h'.get? b=some u)(vN:∃u,h'.get? e=some u)
  (new:cU P w (upd H x o') h' x o'):ip P w (upd H x o') h':=fun b u q=>by
 have xZ:∀c y,H c=some (.own y)->c≠x:=fun c y r z=>by subst z;rw[r] at mu;exact mu
 have Ec:∀c xs,H c=some (.tup xs)->c≠x:=fun c xs r z=>by subst z;rw[r] at mu;exact mu
 by_cases hb:b=x
 ·subst hb;rw[fk] at q;cases q;exact new
 ·rw[cX hb] at q;by_cases uy:b=e
  ·have q':H b=some (.own x):=by
    rcases he with z | z
    ·exact absurd (uy.trans z) hb
    ·rw[uy];exact z
   rw[q] at q';cases q';obtain⟨v,hv⟩:=vN;exact⟨v,by rw[uy];exact hv⟩
  ·refine(ok b u q).fS (fun c v hc r=>k c v ?_ r) (fun c r=>by rw[cX (xZ c b r)];exact r) fun c xs r=>by rw[cX (Ec c xs r)];exact r
   rcases hc with rfl | hc
   ·exact uy
   ·rintro rfl;rcases he with z | z
    ·exact xZ c b hc z
    ·rw[hc] at z;cases z;exact hb rfl
end
structure Un (fs ex:List Addr) (H H':Hp) (h h':Heap):Prop where
 keep:∀b o,h.get? b=some o->H b=none->b∉fs->b∉ex->h'.get? b=some o
 slot:∀b o,h.get? b=some o->H b=none->b∈fs->b∉ex->∃sl,h'.get? b=some { o with slots:=sl }
 free:∀b o,h.get? b=some o->H b=none->b∉ex->H' b=none
 there:∀b o,h.get? b=some o->b∉ex->∃o',h'.get? b=some o'
 kX:∀b xs,H b=some (.tup xs)->H' b=some (.tup xs)
 kj:∀b o u,H b=some (.iC o u)->H' b=some (.iC o u)
 kY:∀b ps,H b=some (.tP ps)->∃more,H' b=some (.tP (ps++more))
section
variable {fs X4 ex X7:List Addr} {H H1 H2:Hp} {h h1 h2 h':Heap} {a x e:Addr} {o:HO}
theorem Un.any(u:Un fs ex H H1 h h1){b:Addr}{ob:Obj}(q:h.get? b=some ob)(n:H b=none)(hx:b∉ex):∃sl,h1.get? b=some { ob with slots:=sl }:=by
 by_cases hb:b∈fs
 ·exact u.slot b ob q n hb hx
 ·exact⟨ob.slots,u.keep b ob q n hb hx⟩
theorem Un.kept(k:∀b u,h.get? b=some u->h'.get? b=some u):Un fs ex H H h h':=
 ⟨fun b ob q _ _ _=>k b ob q,fun b ob q _ _ _=>⟨ob.slots,k b ob q⟩,fun _ _ _ n _=>n,fun b ob q _=>⟨ob,k b ob q⟩,fun _ _ q=>q,fun _ _ _ q=>q,fun _ ps q=>⟨#[],by rw[q];simp⟩⟩
theorem Un.refl:Un fs ex H H h h:=Un.kept fun _ _ q=>q
theorem Un.laid(k:∀b u,h.get? b=some u->h'.get? b=some u)(hp:h.objs.size<=a)(hn:H a=none):Un fs ex H (upd H a o) h h' where
 keep:=fun b u q _ _ _=>k b u q
 slot:=fun b u q _ _ _=>⟨u.slots,k b u q⟩
 free:=fun b u q n _=>by rw[cX (aA (aZ (ax q) hp))];exact n
 there:=fun b u q _=>⟨u,k b u q⟩
 kX:=fun b xs q=>by rw[cX (jf q hn)];exact q
 kj:=fun b u xs q=>by rw[cX (jf q hn)];exact q
 kY:=fun b ps q=>⟨#[],by rw[cX (jf q hn),q];simp⟩
theorem Un.write(mu:zz (H x))(he:e=x\/H e=some (.own x))(k:∀b u,b≠e->h.get? b=some u->h'.get? b=some u)(vN:∃u,h'.get? e=some u):Un fs ex H (upd H x o) h h':=by
 have hx:∀b,H b=none->b≠x:=fun b n z=>by subst z;rw[n] at mu;exact mu
 have hb:∀b,H b=none->b≠e:=fun b n z=>by
  subst z;rcases he with r | r
  ·exact hx b n r
  ·rw[n] at r;cases r
 have hm:∀b u,H b=some u->¬zz (some u)->b≠x:=fun b u q nm z=>by subst z;rw[q] at mu;exact nm mu
 refine⟨fun b u q n _ _=>k b u (hb b n) q,fun b u q n _ _=>⟨u.slots,k b u (hb b n) q⟩,fun b u q n _=>by rw[cX (hx b n)];exact n,fun b u q _=>?_,
  fun b xs q=>by rw[cX (hm b _ q fun z=>z)];exact q,fun b u xs q=>by rw[cX (hm b _ q fun z=>z)];exact q,fun b ps q=>⟨#[],by rw[cX (hm b _ q fun z=>z),q];simp⟩⟩
 by_cases uy:b=e
 ·subst uy;exact vN
 ·exact⟨u,k b u uy q⟩
end
noncomputable def AX(h:Heap)(H:Hp):List Addr:=(List.range h.objs.size).filter fun a=>(H a).isSome
noncomputable def qI(h:Heap)(H:Hp):Heap:=PySem.W.hideAll h (AX h H)
theorem RV(h:Heap)(H:Hp):(qI h H).objs.size=h.objs.size:=PySem.W.hideAll_size _ _
theorem QH{h:Heap}{H:Hp}{b:Addr}{o:Obj}(e:h.get? b=some o)(n:H b=none):(qI h H).get? b=some o:=
 PySem.W.hideAll_get _ e fun hm=>by
  have q:(H b).isSome=true:=(aI.mp hm).2;rw[n] at q;simp at q
theorem OW{h:Heap}{H:Hp}{b:Addr}{o:Obj}(e:(qI h H).get? b=some o):h.get? b=some o/\H b=none:=by
 have e':h.get? b=some o:=PySem.W.of_hideAll (AX h H) e;refine⟨e',?_⟩;cases q:H b with
 | none=>rfl
 | some x=>
  have hm:b∈AX h H:=aI.mpr ⟨aP.mpr (ax e'),by simp[q]⟩;have z:(qI h H).get? b=none:=PySem.W.hideAll_none (AX h H) hm;rw[z] at e;cases e
noncomputable def OU(g h:Heap)(L:Addr):List (Addr×Obj):=(List.range h.objs.size).filterMap fun a=>if a=L\/(g.get? a).isSome=true then none else(h.get? a).map fun o=>(a,o)
noncomputable def rest(g h:Heap)(L d:Addr):List (Addr×Obj):=(OU g h L).filter fun p=>decide (p.1≠d)
end L2
namespace L2
open PySem PySem.Spec PyProof.Rows
structure Mod (K:PySem.W.Frag) (mg:Str->Option Value) (base:Heap):Prop where
 Ek:K.In base
 glob:base.Ns mainGlobals mg
 blt:∃mb,base.Ns builtinsNs mb/\∀x:Str,x≠"__name__"->mb x=bootBuiltins x
 nolimit:base.NoLimit
structure Cx where
 prog:Program
 w:World
 K:PySem.W.Frag
 mg:Str->Option Value
 base:Heap
 A:Around
 N:List Str
 eF:Shared
 pU:Hp
 env:Env
 outer:List Env
 stack:List Env
 ex:List Addr
 fn:Str->Bool
 calm:Bool
 pn:List (Addr×Obj)
 xe:Value->Shared->Prop
noncomputable def pQ(l:List Env):List Addr:=l.filterMap (·.frame)
noncomputable abbrev Cx.fs(X:Cx):List Addr:=pQ X.outer
def js(sc:Scope)(x:Str):Prop:=sc.names.lookup x=some .local\/sc.names.lookup x=some .cell\/sc.names.lookup x=some .free
def Loc(sc:Scope)(x:Str):Prop:=sc.names.lookup x=some .local\/sc.names.lookup x=some .cell
def Look(env:Env)(h:Heap)(m:Str->Option Value)(x:Str)(u:Value):Prop:=
 (env.kindOf x=some .local/\m x=some u)\/((env.kindOf x=some .cell\/env.kindOf x=some .free)/\∃c,env.cells.lookup x=some c/\h.IsCell c (some u))
structure Cx.Ok (X:Cx):Prop where
 mod:Mod X.K X.mg X.base
 kind:X.env.scope.kind=.function
 glob:X.env.globals=mainGlobals
 blt:X.env.builtins=builtinsNs
 above:X.eF.heap.objs.size<=X.env.locals
 inj:∀x y c,X.env.cells.lookup x=some c->X.env.cells.lookup y=some c->x=y
 has:∀x,(X.env.kindOf x=some .cell\/X.env.kindOf x=some .free)->∃c,X.env.cells.lookup x=some c
 zk:∀x c,X.fn x=true->X.env.cells.lookup x=some c->X.eF.heap.objs.size<=c
 hd:X.calm=true->X.A.handled=none
 frames:X.A.frames=some X.stack
 A0:X.stack=X.outer\/(X.stack=X.env::X.outer/\X.env.frame=some X.env.locals)
 FG:∀b∈X.ex,b≠X.env.locals/\∀x c,X.env.cells.lookup x=some c->c≠b
 bs:∀b o,X.base.get? b=some o->X.eF.heap.get? b=some o/\X.pU b=none
 uF:X.base.objs.size<=X.eF.heap.objs.size
 pq:∀b o,X.base.get? b=some o->b∉X.ex
 pR:∀b∈X.ex,b∉X.fs
 jq:X.eF.heap.FunFrames X.base X.outer
 vR:∀b∈X.fs,X.pU b=none
structure Inv (X:Cx) (pins:List (Addr×Obj)) (σ:List (Option V)) (H:Hp) (s:Shared):Prop where
 ok:X.Ok
 os:s.os=X.eF.os
 bare:AllBare s.gens
 base:Un X.fs X.ex X.pU H X.eF.heap s.heap
 loc:∃m,s.heap.Ns X.env.locals m/\∀(i:Nat) (x:Str) (v:V),X.N[i]?=some x->σ[i]?=some (some v)->js X.env.scope x->∃u,RelV v u/\Look X.env s.heap m x u
 cell:∀x c,X.env.cells.lookup x=some c->∃v,s.heap.IsCell c v
 free:H X.env.locals=none
 gd:∀x c,X.env.cells.lookup x=some c->H c=none
 pin:∀p∈X.pn++pins,s.heap.get? p.1=some p.2/\H p.1=none/\p.1≠X.env.locals/\p.1∉X.fs/\∀v,p.2.data≠.cell v
 cN:ip X.prog X.w H s.heap
 len:σ.length=X.N.length
section
variable {X:Cx} {pins:List (Addr×Obj)} {σ:List (Option V)} {H H':Hp} {s:Shared} {h':Heap}
theorem Cx.Ok.Ee(ok:X.Ok){b:Addr}{o:Obj}(e:X.base.get? b=some o):b∉X.fs:=fun hb=>by
 have:=(ok.jq.mem hb).1;rw[e] at this;cases this
theorem Inv.bs(I:Inv X pins σ H s):∀b o,X.base.get? b=some o->s.heap.get? b=some o/\H b=none:=fun b o e=>
 ⟨I.base.keep b o (I.ok.bs b o e).1 (I.ok.bs b o e).2 (I.ok.Ee e) (I.ok.pq b o e),I.base.free b o (I.ok.bs b o e).1 (I.ok.bs b o e).2 (I.ok.pq b o e)⟩
theorem Inv.bk(I:Inv X pins σ H s):∀b o,X.base.get? b=some o->s.heap.get? b=some o:=fun b o e=>(I.bs b o e).1
theorem Inv.mod(I:Inv X pins σ H s):Mod X.K X.mg X.base:=I.ok.mod
theorem Inv.nT(I:Inv X pins σ H s):X.K.In s.heap:=I.ok.mod.Ek.keeps I.bk
theorem Inv.lt(I:Inv X pins σ H s):X.env.locals<s.heap.objs.size:=let⟨_,hn,_⟩:=I.loc;hn.lt
theorem Inv.sz(I:Inv X pins σ H s):X.eF.heap.objs.size<=s.heap.objs.size:=Nat.le_trans I.ok.above (Nat.le_of_lt I.lt)
theorem Inv.Ed(I:Inv X pins σ H s){a:Addr}(h:s.heap.objs.size<=a):a∉X.fs:=fun hb=>by
 obtain⟨_,o,ho,_⟩:=I.ok.jq.mem hb;exact absurd (aZ (ax ho) (Nat.le_trans I.sz h)) (Nat.lt_irrefl _)
theorem Inv.uE(I:Inv X pins σ H s):∀x c,X.env.cells.lookup x=some c->c≠X.env.locals:=fun x c e z=>by
 obtain⟨v,o,ho,hd⟩:=I.cell x c e;obtain⟨m,⟨o',es,ep,i4,n4,_⟩,_⟩:=I.loc;rw[z,i4] at ho;cases ho;rw[n4] at hd;cases hd
theorem Inv.jq(I:Inv X pins σ H s):s.heap.FunFrames X.base X.outer:=by
 have all:∀(l:List Env),(∀b∈pQ l,b∈X.fs)->X.eF.heap.FunFrames X.base l->s.heap.FunFrames X.base l:=by
  intro l;induction l with
  | nil=>intro _ _;trivial
  | cons env r ih=>
   intro hs hl;obtain⟨hk,⟨L,o,hf,hn,ho,hd⟩,hr⟩:=hl;have hL:L∈X.fs:=hs L (by unfold pQ;rw[List.filterMap_cons,hf];exact bj);obtain⟨sl,e⟩:=I.base.slot L o ho (I.ok.vR L hL) hL fun z=>I.ok.pR L z hL
   exact⟨hk,⟨L,_,hf,hn,e,hd⟩,ih (fun b hb=>hs b (by unfold pQ;rw[List.filterMap_cons,hf];exact aB _ hb)) hr⟩
 exact all X.outer (fun _ hb=>hb) I.ok.jq
theorem Inv.stack(I:Inv X pins σ H s):s.heap.FunFrames X.base X.stack:=by
 rcases I.ok.A0 with e | ⟨e,hf⟩
 ·rw[e];exact I.jq
 ·rw[e];obtain⟨m,hn,_⟩:=I.loc;refine .cons (by rw[I.ok.kind];decide) hf hn ?_ I.jq;exact Heap.get?_none_of_le (Nat.le_trans I.ok.uF I.ok.above)
theorem Inv.mq(I:Inv X pins σ H s):∀b∈pQ X.stack,b∈X.env.locals::X.fs:=fun b hb=>by
 rcases I.ok.A0 with e | ⟨e,hf⟩
 ·rw[e] at hb;exact aB _ hb
 ·rw[e] at hb;unfold pQ at hb;rw[List.filterMap_cons,hf] at hb;exact hb
theorem Inv.mZ(I:Inv X pins σ H s):∀b∈pQ X.stack,H b=none:=fun b hb=>by
 rcases aq.mp (I.mq b hb) with e | hb
 ·rw[e];exact I.free
 ·obtain⟨_,o,ho,_⟩:=I.ok.jq.mem hb;exact I.base.free b o ho (I.ok.vR b hb) fun z=>I.ok.pR b z hb
theorem Inv.step{g':Array GenState}{t':Nat}{d':Drawn}{ch:List Addr}(I:Inv X pins σ H s)
  (oK:∀b∈ch,(b∈X.ex\/X.eF.heap.objs.size<=b)/\b≠X.env.locals/\(∀x c,X.env.cells.lookup x=some c->c≠b)/\∀p∈X.pn++pins,p.1≠b)
  (keep:∀b o,b≠X.env.locals->b∉X.fs->b∉ch->s.heap.get? b=some o->H b=none->h'.get? b=some o)
  (slot:∀b o,b≠X.env.locals->b∈X.fs->b∉ch->s.heap.get? b=some o->H b=none->∃sl,h'.get? b=some { o with slots:=sl }) (free:∀b o,b∉ch->s.heap.get? b=some o->H b=none->H' b=none)
  (there:∀b o,b∉ch->s.heap.get? b=some o->∃o',h'.get? b=some o')
  (kX:∀b xs,H b=some (.tup xs)->H' b=some (.tup xs)) (kj:∀b o u,H b=some (.iC o u)->H' b=some (.iC o u)) (kY:∀b ps,H b=some (.tP ps)->∃more,H' b=some (.tP (ps++more)))
  (ns:∀m,s.heap.Ns X.env.locals m->h'.Ns X.env.locals m) (cN:ip X.prog X.w H' h') (hg:AllBare g') :
  Inv X pins σ H' { s with heap:=h',gens:=g',drawn:=d',toks:=t' }:=by
 have J8:∀b o,X.eF.heap.get? b=some o->b≠X.env.locals:=fun b o e=>aA (aZ (ax e) I.ok.above)
 have A8:∀b o,X.eF.heap.get? b=some o->b∉X.ex->b∉ch:=fun b o e hx hb=>by
  rcases(oK b hb).1 with z | z
  ·exact hx z
  ·exact absurd (aZ (ax e) z) (Nat.lt_irrefl _)
 have cellK:∀x c,X.env.cells.lookup x=some c->∀v,s.heap.IsCell c v->h'.IsCell c v:=fun x c e v ⟨o,ho,hd⟩=>by
  have yb:c∉ch:=fun z=>(oK c z).2.2.1 x c e rfl
  by_cases hc:c∈X.fs
  ·obtain⟨sl,q⟩:=slot c o (I.uE x c e) hc yb ho (I.gd x c e);exact⟨_,q,hd⟩
  ·exact⟨o,keep c o (I.uE x c e) hc yb ho (I.gd x c e),hd⟩
 refine⟨I.ok,I.os,hg,⟨fun b o e n hb hx=>?_,fun b o e n hb hx=>?_,fun b o e n hx=>?_,fun b o e hx=>?_,fun b xs e=>kX b xs (I.base.kX b xs e),fun b o xs e=>kj b o xs (I.base.kj b o xs e),fun b ps e=>?_⟩,?_,fun x c e=>?_,?_,fun x c e=>?_,fun p hp=>?_,cN,I.len⟩
 ·exact keep b o (J8 b o e) hb (A8 b o e hx) (I.base.keep b o e n hb hx) (I.base.free b o e n hx)
 ·obtain⟨sl,e1⟩:=I.base.slot b o e n hb hx;obtain⟨U6,e2⟩:=slot b _ (J8 b o e) hb (A8 b o e hx) e1 (I.base.free b o e n hx);exact⟨U6,e2⟩
 ·obtain⟨o',e1⟩:=I.base.there b o e hx;exact free b o' (A8 b o e hx) e1 (I.base.free b o e n hx)
 ·obtain⟨o',e1⟩:=I.base.there b o e hx;exact there b o' (A8 b o e hx) e1
 ·obtain⟨m1,e1⟩:=I.base.kY b ps e;obtain⟨m2,e2⟩:=kY b _ e1;exact⟨m1++m2,by rw[e2,Array.append_assoc]⟩
 ·obtain⟨m,hn,hl⟩:=I.loc;refine⟨m,ns m hn,fun i x v e1 e2 e3=>?_⟩;obtain⟨u,r,l⟩:=hl i x v e1 e2 e3;refine⟨u,r,?_⟩;rcases l with l | ⟨k,c,e,z⟩
  ·exact .inl l
  ·exact .inr ⟨k,c,e,cellK x c e _ z⟩
 ·obtain⟨v,z⟩:=I.cell x c e;exact⟨v,cellK x c e v z⟩
 ·obtain⟨m,⟨o,_,_,ho,_⟩,_⟩:=I.loc;exact free _ o (fun z=>(oK _ z).2.1 rfl) ho I.free
 ·obtain⟨v,o,ho,hd⟩:=I.cell x c e;exact free c o (fun z=>(oK c z).2.2.1 x c e rfl) ho (I.gd x c e)
 ·obtain⟨e,n,ne,nf,d⟩:=I.pin p hp;have yb:p.1∉ch:=fun z=>(oK p.1 z).2.2.2 p hp rfl
  exact⟨keep p.1 p.2 ne nf yb e n,free p.1 p.2 yb e n,ne,nf,d⟩
theorem Inv.un{t':Nat}(I:Inv X pins σ H s)(u:Un X.fs [] H H' s.heap h')(cN:ip X.prog X.w H' h'):Inv X pins σ H' { s with heap:=h',toks:=t' }:=by
 obtain⟨m,⟨o,es,ep,ho,r⟩,_⟩:=id I.loc;obtain⟨sl,hL⟩:=u.any ho I.free (by simp)
 exact I.step (g':=s.gens) (d':=s.drawn) (ch:=[]) (fun _ z=>nomatch z) (fun b o _ hb _ e n=>u.keep b o e n hb (by simp)) (fun b o _ hb _ e n=>u.slot b o e n hb (by simp)) (fun b o _ e n=>u.free b o e n (by simp)) (fun b o _ e=>u.there b o e (by simp)) u.kX u.kj u.kY (fun m' hm=>by
  obtain⟨o',gw,j4,i4,r'⟩:=hm;rw[ho] at i4;cases i4;exact⟨_,gw,j4,hL,r'⟩) cN I.bare
theorem Inv.call{g':Array GenState}{t':Nat}{d':Drawn}{ch:List Addr}(I:Inv X pins σ H s)(u:Un (pQ X.stack) ch H H' s.heap h')(cN:ip X.prog X.w H' h')(hg:AllBare g')
  (oK:∀b∈ch,(b∈X.ex\/X.eF.heap.objs.size<=b)/\b≠X.env.locals/\(∀x c,X.env.cells.lookup x=some c->c≠b)/\∀p∈X.pn++pins,p.1≠b) :
  Inv X pins σ H' { s with heap:=h',gens:=g',drawn:=d',toks:=t' }:=by
 obtain⟨m,⟨o,es,ep,ho,r⟩,_⟩:=id I.loc;obtain⟨sl,hL⟩:=u.any ho I.free fun z=>(oK _ z).2.1 rfl
 exact I.step (ch:=ch) oK (fun b o hL hb hc e n=>u.keep b o e n (fun z=>(aq.mp (I.mq b z)).elim hL hb) hc) (fun b o _ _ hc e n=>u.any e n hc) (fun b o hc e n=>u.free b o e n hc) (fun b o hc e=>u.there b o e hc) u.kX u.kj u.kY (fun m' hm=>by
  obtain⟨o',gw,j4,i4,r'⟩:=hm;rw[ho] at i4;cases i4;exact⟨_,gw,j4,hL,r'⟩) cN hg
theorem Inv.turned{t':Nat}{it:Addr}(I:Inv X pins σ H s)(k:∀b o,b≠it->s.heap.get? b=some o->h'.get? b=some o)(hn:H it=none)(hL:it≠X.env.locals)
  (h1:it∈X.ex\/X.eF.heap.objs.size<=it) (h2:∀x c,X.env.cells.lookup x=some c->c≠it) (h3:∀p∈X.pn++pins,p.1≠it):Inv X pins σ H { s with heap:=h',toks:=t' }:=by
 have sC:∀b u,H b=some u->b≠it:=fun b u e z=>by rw[z,hn] at e;cases e
 refine I.step (g':=s.gens) (d':=s.drawn) (ch:=[it]) (fun b hb=>?_) (fun b o _ _ hc e _=>k b o (fun z=>hc (by simp[z])) e) (fun b o _ _ hc e _=>⟨o.slots,k b o (fun z=>hc (by simp[z])) e⟩) (fun _ _ _ _ n=>n)
  (fun b o hc e=>⟨o,k b o (fun z=>hc (by simp[z])) e⟩) (fun _ _ e=>e) (fun _ _ _ e=>e) (fun b ps e=>⟨#[],by rw[e];simp⟩) (fun m hm=>?_) (fun b u e=>?_) I.bare
 ·have e:b=it:=by simpa using hb
  subst e;exact⟨h1,hL,h2,h3⟩
 ·obtain⟨o,es,ep,ho,r⟩:=hm;exact⟨o,es,ep,k _ o (Ne.symm hL) ho,r⟩
 ·refine(I.cN b u e).fS (fun c v hc q=>k c v ?_ q) (fun _ q=>q) fun _ _ q=>q
  rcases hc with z | z
  ·rw[z];exact sC b u e
  ·exact sC c _ z
theorem Inv.tok(I:Inv X pins σ H s)(t:Nat):Inv X pins σ H { s with toks:=t }:=I.un (h':=s.heap) (t':=t) Un.refl I.cN
theorem Inv.kept{t':Nat}(I:Inv X pins σ H s)(k:∀b u,s.heap.get? b=some u->h'.get? b=some u):Inv X pins σ H { s with heap:=h',toks:=t' }:=I.un (Un.kept k) (I.cN.kept k)
theorem Inv.laid{a:Addr}{o:HO}{t':Nat}(I:Inv X pins σ H s)(k:∀b u,s.heap.get? b=some u->h'.get? b=some u)(hp:s.heap.objs.size<=a)(new:cU X.prog X.w (upd H a o) h' a o) :
  Inv X pins σ (upd H a o) { s with heap:=h',toks:=t' }:=I.un (Un.laid k hp (I.cN.fresh hp)) (I.cN.laid k hp new)
theorem Inv.write{x e:Addr}{o:HO}{t':Nat}(I:Inv X pins σ H s)(mu:zz (H x))(he:e=x\/H e=some (.own x))(k:∀b u,b≠e->s.heap.get? b=some u->h'.get? b=some u)(vN:∃u,h'.get? e=some u)
  (new:cU X.prog X.w (upd H x o) h' x o):Inv X pins σ (upd H x o) { s with heap:=h',toks:=t' }:=I.un (Un.write mu he k vN) (I.cN.write mu he k vN new)
theorem Inv.m4{sv:List (Addr×Obj)}(I:Inv X pins σ H s)(h:∀p∈sv,s.heap.get? p.1=some p.2/\H p.1=none/\p.1≠X.env.locals/\p.1∉X.fs/\∀v,p.2.data≠.cell v):Inv X sv σ H s:=
 ⟨I.ok,I.os,I.bare,I.base,I.loc,I.cell,I.free,I.gd,fun p hp=>(aw.mp hp).elim (fun z=>I.pin p (aO _ z)) (h p),I.cN,I.len⟩
theorem IJ{N:List Str}(hN:N.Nodup){i j:Nat}{x:Str}(a:N[i]?=some x)(b:N[j]?=some x):i=j:=by
 obtain⟨h1,e1⟩:=aj.mp a;obtain⟨h2,e2⟩:=aj.mp b;exact(List.getElem_inj hN).mp (e1.trans e2.symm)
theorem Jq{M:Model}{A:Around}{E:Value->Shared->Prop}{i:Nat}{x:Str}{v:V}{u:Value}{Q:Unit->Shared->Prop}(I:Inv X pins σ H s)(hN:X.N.Nodup)(hi:X.N[i]?=some x)(hx:Loc X.env.scope x)(r:RelV v u)
  (h:∀s',Inv X pins (σ.set i (some v)) H s'->(∃a,Heap.SameBut a s.heap s'.heap/\(a=X.env.locals\/X.env.cells.lookup x=some a))->Q () s') (hf:X.fn x=true\/X.env.scope.names.lookup x=some .local:=by first | exact .inl rfl | exact .inr rfl | assumption):wpAny M A (storeName X.env x u) Q E s:=by
 obtain⟨m,hn,hl⟩:=id I.loc;have Fm:(X.env.scope.kind==.class||(X.env.scope.kind==.module&&X.env.locals != X.env.globals))=false:=by rw[I.ok.kind];rfl
 have yT:i<σ.length:=by rw[I.len];exact(aj.mp hi).1
 have uE:=I.uE;have tracked:∀{a:Addr} {h':Heap},(∃o,s.heap.get? a=some o/\H a=none)->Heap.SameBut a s.heap h'->ip X.prog X.w H h':=fun{a h'} ha hs b ob e=>by
  obtain⟨_,_,dD⟩:=ha;refine(I.cN b ob e).fS (fun c w' hc q=>(hs.2 c ?_).trans q) (fun _ q=>q) fun _ _ q=>q
  rintro rfl;rcases hc with rfl | hc
  ·rw[dD] at e;cases e
  ·rw[dD] at hc;cases hc
 rcases hx with hk | hk
 ·refine wpAny_storeName_local hk hn (fun h' Wd hs=>?_) Fm;obtain⟨oL,_,_,oH,_⟩:=id hn;refine h _ ⟨I.ok,I.os,I.bare,⟨fun b o e n hb hx=>?_,fun b o e n hb hx=>?_,I.base.free,fun b o e hx=>?_,I.base.kX,I.base.kj,I.base.kY⟩,⟨_,Wd,fun j y v' e1 e2 e3=>?_⟩,fun y c e=>?_,I.free,I.gd,fun p hp=>?_,tracked ⟨oL,oH,I.free⟩ hs,by simpa using I.len⟩ ⟨_,hs,.inl rfl⟩
  ·exact(hs.2 b (aA (aZ (ax e) I.ok.above))).trans (I.base.keep b o e n hb hx)
  ·obtain⟨sl,e1⟩:=I.base.slot b o e n hb hx;exact⟨sl,(hs.2 b (aA (aZ (ax e) I.ok.above))).trans e1⟩
  ·obtain⟨o',e1⟩:=I.base.there b o e hx;exact⟨o',(hs.2 b (aA (aZ (ax e) I.ok.above))).trans e1⟩
  ·by_cases hj:j=i
   ·subst hj;rw[hi] at e1;cases e1;rw[List.getElem?_set_self yT] at e2;cases e2;exact⟨u,r,.inl ⟨hk,by simp⟩⟩
   ·rw[List.getElem?_set_ne (Ne.symm hj)] at e2;obtain⟨u',r',q⟩:=hl j y v' e1 e2 e3;refine⟨u',r',?_⟩;rcases q with⟨k,e⟩ | ⟨k,c,e,z⟩
    ·refine .inl ⟨k,?_⟩;have:y≠x:=fun e=>hj (IJ hN e1 (e▸hi))
     simp[this,e]
    ·exact .inr ⟨k,c,e,z.sameBut hs (uE y c e)⟩
  ·obtain⟨w',z⟩:=I.cell y c e;exact⟨w',z.sameBut hs (uE y c e)⟩
  ·obtain⟨e,n,ne,nf,d⟩:=I.pin p hp;exact⟨(hs.2 p.1 ne).trans e,n,ne,nf,d⟩
 ·have Fg:X.fn x=true:=by
   rcases hf with z | z
   ·exact z
   ·rw[z] at hk;cases hk
  obtain⟨c,hc⟩:=I.ok.has x (.inl hk);obtain⟨w',z⟩:=I.cell x c hc;refine wpAny_storeName_cell I.ok.kind hk hc z (fun h' sO hs=>?_);obtain⟨oc,vI,ET⟩:=id z;refine h { s with heap:=h' } ⟨I.ok,I.os,I.bare,⟨fun b o e n hb hx=>?_,fun b o e n hb hx=>?_,I.base.free,fun b o e hx=>?_,I.base.kX,I.base.kj,I.base.kY⟩,⟨m,hn.sameBut hs (Ne.symm (uE x c hc)),fun j y v' e1 e2 e3=>?_⟩,fun y c' e=>?_,I.free,I.gd,fun p hp=>?_,tracked ⟨oc,vI,I.gd x c hc⟩ hs,by simpa using I.len⟩ ⟨c,hs,.inr hc⟩
  ·exact(hs.2 b (aA (aZ (ax e) (I.ok.zk x c Fg hc)))).trans (I.base.keep b o e n hb hx)
  ·obtain⟨sl,e1⟩:=I.base.slot b o e n hb hx;exact⟨sl,(hs.2 b (aA (aZ (ax e) (I.ok.zk x c Fg hc)))).trans e1⟩
  ·obtain⟨o',e1⟩:=I.base.there b o e hx;exact⟨o',(hs.2 b (aA (aZ (ax e) (I.ok.zk x c Fg hc)))).trans e1⟩
  ·by_cases hj:j=i
   ·subst hj;rw[hi] at e1;cases e1;rw[List.getElem?_set_self yT] at e2;cases e2;exact⟨u,r,.inr ⟨.inl hk,c,hc,sO⟩⟩
   ·rw[List.getElem?_set_ne (Ne.symm hj)] at e2;obtain⟨u',r',q⟩:=hl j y v' e1 e2 e3;refine⟨u',r',?_⟩;rcases q with q | ⟨k,c',e,z'⟩
    ·exact .inl q
    ·refine .inr ⟨k,c',e,z'.sameBut hs ?_⟩;rintro rfl;exact hj (IJ hN e1 (I.ok.inj _ _ _ e hc▸hi))
  ·by_cases KW:c'=c
   ·subst KW;exact⟨_,sO⟩
   ·obtain⟨w2,z2⟩:=I.cell y c' e;exact⟨w2,z2.sameBut hs KW⟩
  ·obtain⟨e,n,ne,nf,d⟩:=I.pin p hp;refine⟨(hs.2 p.1 ?_).trans e,n,ne,nf,d⟩;intro q;rw[q,vI] at e;have q':oc=p.2:=Option.some.inj e;exact d w' (by rw[<-q'];exact ET)
theorem IS{M:Model}{A:Around}{E:Value->Shared->Prop}{i:Nat}{x:Str}{v:V}{u:Value}{Q:Unit->Shared->Prop}(I:Inv X pins σ H s)(hN:X.N.Nodup)(hi:X.N[i]?=some x)(hx:Loc X.env.scope x)(r:RelV v u)
  (h:∀s',Inv X pins (σ.set i (some v)) H s'->Q () s') (hf:X.fn x=true\/X.env.scope.names.lookup x=some .local:=by first | exact .inl rfl | exact .inr rfl | assumption):wpAny M A (storeName X.env x u) Q E s:=
 Jq I hN hi hx r (fun s' I' _=>h s' I') hf
theorem Inv.zj{s':Shared}{ch:List Addr}(I:Inv X pins σ H s)(ho:s'.os=s.os)(u:Un (pQ X.stack) ch H H' s.heap s'.heap)(cN:ip X.prog X.w H' s'.heap)(hg:AllBare s'.gens)
  (oK:∀b∈ch,(b∈X.ex\/X.eF.heap.objs.size<=b)/\b≠X.env.locals/\(∀x c,X.env.cells.lookup x=some c->c≠b)/\∀p∈X.pn++pins,p.1≠b):Inv X pins σ H' s':=by
 obtain⟨h',g',d',t',o'⟩:=s';have e:o'=s.os:=ho;subst e;exact I.call (g':=g') (t':=t') (d':=d') u cN hg oK
end
noncomputable abbrev XK:=Value->Option Addr->Hp->Prop
noncomputable abbrev St:=List (Option V)
noncomputable abbrev VK:=V->Hp->Prop
noncomputable abbrev TE:=St->Hp->VK->Prop
noncomputable abbrev TT:=St->Hp->(Bool->Hp->Prop)->Prop
noncomputable abbrev TA:=St->Hp->(List V->Hp->Prop)->Prop
structure Ends where
 nx:St->Hp->Prop
 rt:VK
 bk:St->Hp->Prop:=fun _ _=>False
 ct:St->Hp->Prop:=fun _ _=>False
noncomputable abbrev TS:=Ends->St->Hp->Prop
def EP(X:Cx)(pins:List (Addr×Obj))(σ:St)(Q:VK)(u:Value)(s':Shared):Prop:=∃v H',Inv X pins σ H' s'/\RelV v u/\Q v H'
def TP(X:Cx)(pins:List (Addr×Obj))(σ:St)(Q:Bool->Hp->Prop)(b:Bool)(s':Shared):Prop:=∃H',Inv X pins σ H' s'/\Q b H'
def AP(X:Cx)(pins:List (Addr×Obj))(σ:St)(Q:List V->Hp->Prop)(us:List Value)(s':Shared):Prop:=∃vs H',Inv X pins σ H' s'/\Vals vs us/\Q vs H'
def SP(X:Cx)(pins:List (Addr×Obj))(D:Ends)(f:Flow)(s':Shared):Prop:=
 match f with
 | .next=>∃cF H',Inv X pins cF H' s'/\D.nx cF H'
 | .brk=>∃cF H',Inv X pins cF H' s'/\D.bk cF H'
 | .cont=>∃cF H',Inv X pins cF H' s'/\D.ct cF H'
 | .ret u=>∃v cF H',Inv X pins cF H' s'/\RelV v u/\D.rt v H'
def PE(X:Cx)(e:Expr)(t:TE):Prop:=
 ∀(pins:List (Addr×Obj)) (s:Shared) (σ:St) (H:Hp) (Q:VK),Inv X pins σ H s->t σ H Q->wpAny (model X.prog X.w) X.A (eval e X.env) (EP X pins σ Q) X.xe s
def PT(X:Cx)(e:Expr)(t:TT):Prop:=
 ∀(pins:List (Addr×Obj)) (s:Shared) (σ:St) (H:Hp) (Q:Bool->Hp->Prop),Inv X pins σ H s->t σ H Q->wpAny (model X.prog X.w) X.A (isTrue e X.env (eval e X.env)) (TP X pins σ Q) X.xe s
def PW(X:Cx)(e:Expr)(t:TT):Prop:=
 ∀(whole:Sem Value) (pins:List (Addr×Obj)) (s:Shared) (σ:St) (H:Hp) (Q:Bool->Hp->Prop),Inv X pins σ H s->t σ H Q->wpAny (model X.prog X.w) X.A (isTrue e X.env whole) (TP X pins σ Q) X.xe s
theorem PW.pt{X:Cx}{e:Expr}{t:TT}(h:PW X e t):PT X e t:=h _
def PA(X:Cx)(es:List Expr)(t:TA):Prop:=
 ∀(pos:Pos) (pins:List (Addr×Obj)) (s:Shared) (σ:St) (H:Hp) (Q:List V->Hp->Prop),Inv X pins σ H s->t σ H Q->wpAny (model X.prog X.w) X.A (spliced (backTo pos (starEach es X.env))) (AP X pins σ Q) X.xe s
def PS(X:Cx)(st:Stmt)(t:TS):Prop:=
 ∀(pins:List (Addr×Obj)) (s:Shared) (σ:St) (H:Hp) (D:Ends),Inv X pins σ H s->t D σ H->wpAny (model X.prog X.w) X.A (exec st X.env) (SP X pins D) X.xe s
def ny(X:Cx)(st:List Stmt)(t:TS):Prop:=
 ∀(pins:List (Addr×Obj)) (s:Shared) (σ:St) (H:Hp) (D:Ends),Inv X pins σ H s->t D σ H->wpAny (model X.prog X.w) X.A (execs st X.env) (SP X pins D) X.xe s
theorem cL{α:Type}{t:Sem α}{Q Q':α->Shared->Prop}{M:Model}{A:Around}{E:Value->Shared->Prop}{s:Shared}(h:wpAny M A t Q E s)(hQ:∀a s,Q a s->Q' a s):wpAny M A t Q' E s:=wpAny_mono h hQ fun _ _ x=>x
end L2
namespace L2
open PySem PySem.Spec PyProof.Rows
section
variable {X:Cx}
theorem bin{a b:Expr}{ta tb:TE}(ha:PE X a ta)(hb:PE X b tb){pins:List (Addr×Obj)}{s:Shared}{σ:St}{H:Hp}{R:V->V->Hp->Prop}(I:Inv X pins σ H s)(h:ta σ H fun x H1=>tb σ H1 fun y H2=>R x y H2)
  {α:Type} {Q:α->Shared->Prop} {f:Value->Value->Sem α}
  (hf:∀v u s2 x y H2,Inv X pins σ H2 s2->RelV x v->RelV y u->R x y H2->wpAny (model X.prog X.w) X.A (f v u) Q X.xe s2) :
  wpAny (model X.prog X.w) X.A (eval a X.env) (fun v cB=>wpAny (model X.prog X.w) X.A (eval b X.env) (fun u gO=>wpAny (model X.prog X.w) X.A (f v u) Q X.xe gO) X.xe cB) X.xe s:=by
 refine cL (ha pins s σ H _ I h) fun v s1 cq=>?_
 obtain⟨x,H1,I1,r1,q1⟩:=cq;refine cL (hb pins s1 σ H1 _ I1 q1) fun u s2 cq=>?_
 obtain⟨y,H2,I2,r2,q2⟩:=cq;exact hf v u s2 x y H2 I2 r1 r2 q2
def uR(i:Nat):TE:=fun σ H Q=>∃v,σ[i]?=some (some v)/\Q v H
def tC(v:V):TE:=fun _ H Q=>Q v H
theorem jL{i:Nat}{x:Str}{pos:Pos}(hN:X.N[i]?=some x)(hv:js X.env.scope x)(hd:(x==("__debug__":Str))=false:=by decide)(fi:(x==("__classdict__":Str))=false:=by decide):PE X (.Name x pos) (uR i):=by
 intro pins s σ H Q I h;obtain⟨v,e,h⟩:=h;obtain⟨m,hn,hl⟩:=I.loc;obtain⟨u,r,l⟩:=hl i x v hN e hv;have fin:EP X pins σ Q u s:=⟨v,H,I,r,h⟩
 rcases l with⟨hk,hm⟩ | ⟨hk,c,hc,sN⟩
 ·exact wpAny_Name (wpAny_loadName_local I.ok.kind hk hn hm fin) hd
 ·rcases hk with hk | hk
  ·exact wpAny_Name (wpAny_loadName_cell I.ok.kind hk hc sN fin) hd
  ·exact wpAny_Name (wpAny_loadName_free I.ok.kind hk hc sN fin fi) hd
theorem GW{i j pos}:PE X (.Constant (.int i) j pos) (tC (.int i)):=fun _ _ _ H _ I h=>wpAny_Constant_int ⟨.int i,H,I.tok _,⟨_,rfl⟩,h⟩
theorem MK{b j pos}:PE X (.Constant (.bool b) j pos) (tC (.bl b)):=fun _ _ _ H _ I h=>Constant_bool ⟨.bl b,H,I,rfl,h⟩
theorem Nc{j pos}:PE X (.Constant .none j pos) (tC .non):=fun _ _ _ H _ I h=>Constant_none ⟨.non,H,I,rfl,h⟩
theorem Nb{x j pos}:PE X (.Constant (.str x) j pos) (tC (.str x)):=fun _ _ _ H _ I h=>Calls.Constant_str ⟨.str x,H,I.tok _,⟨_,rfl⟩,h⟩
def Gl(X:Cx)(x:Str):Prop:=X.env.kindOf x=some .globalImplicit
theorem OT{E:Value->Shared->Prop}{pins:List (Addr×Obj)}{s:Shared}{σ:St}{H:Hp}{x:Str}{u:Value}{pos:Pos}{Q:Value->Shared->Prop}(I:Inv X pins σ H s)(hg:Gl X x)(hm:X.mg x=some u)(h:Q u s)
  (hd:(x==("__debug__":Str))=false:=by decide):wpAny (model X.prog X.w) X.A (eval (.Name x pos) X.env) Q E s:=
 Calls.Name_function_global I.ok.kind hg (Calls.loadGlobal_global (by rw[I.ok.glob];exact I.mod.glob.keeps I.bk) hm h) hd
theorem qh{E:Value->Shared->Prop}{pins:List (Addr×Obj)}{s:Shared}{σ:St}{H:Hp}{x:Str}{u:Value}{pos:Pos}{Q:Value->Shared->Prop}(I:Inv X pins σ H s)(hg:Gl X x)(hm:X.mg x=none)(hv:bootBuiltins x=some u)(h:Q u s)
  (hn:x≠"__name__":=by decide) (hd:(x==("__debug__":Str))=false:=by decide):wpAny (model X.prog X.w) X.A (eval (.Name x pos) X.env) Q E s:=by
 obtain⟨mb,h1,h2⟩:=I.mod.blt;exact Calls.Name_function_global I.ok.kind hg (Calls.loadGlobal_builtin (by rw[I.ok.glob];exact I.mod.glob.keeps I.bk) hm (by rw[I.ok.blt];exact h1.keeps I.bk) ((h2 x hn).trans hv) h) hd
theorem OS{x:Str}{v:V}{u:Value}{pos:Pos}(hg:Gl X x)(hm:X.mg x=none)(hv:bootBuiltins x=some u)(r:RelV v u)(hn:x≠"__name__":=by decide)(hd:(x==("__debug__":Str))=false:=by decide):PE X (.Name x pos) (tC v):=
 fun _ _ _ H _ I h=>qh I hg hm hv ⟨v,H,I,r,h⟩ hn hd
variable {a b:Expr} {ta tb:TE} {pos:Pos}
def PC(X:Cx)(op:CmpOp)(a b:Expr)(t:TE):Prop:=
 ∀(pins:List (Addr×Obj)) (s:Shared) (σ:St) (H:Hp) (Q:VK),Inv X pins σ H s->t σ H Q->
  wpAny (model X.prog X.w) X.A (eval a X.env) (fun v cB=>wpAny (model X.prog X.w) X.A (eval b X.env) (fun u gO=>wpAny (model X.prog X.w) X.A (compareOp op v u) (EP X pins σ Q) X.xe gO) X.xe cB) X.xe s
theorem QG(b:Expr){op:CmpOp}(h:op≠.In)(h2:op≠.NotIn):behindInMarks op b=false:=by
 have e1:(op==CmpOp.In)=false:=by cases op<;>first | rfl | exact absurd rfl h
 have e2:(op==CmpOp.NotIn)=false:=by cases op<;>first | rfl | exact absurd rfl h2
 cases b<;>simp[behindInMarks,e1,e2]
def tB(t:TE):TT:=fun σ H Q=>t σ H fun x H1=>∃c,x=.bl c/\Q c H1
theorem XC{op:CmpOp}{t:TE}(h:PC X op a b t)(h1:behindInMarks op b=false:=by first | exact QG _ (by decide) (by decide) | rfl):PT X (.Compare a [op] [b] pos) (tB t):=by
 intro pins s σ H Q I hw;refine wpAny_isTrue_Compare1 (cL (h pins s σ H _ I hw) fun v s1 h1=>cL h1 fun u s2 h2=>cL h2 fun c s3 cq=>?_) h1;obtain⟨x,H1,I1,r1,q1⟩:=cq;obtain⟨d,rfl,q⟩:=q1;cases r1;exact wpAny_truthy_bool ⟨H1,I1,q⟩
theorem Na{e:Expr}{t:TE}(h:PE X e t)(he:∀whole,isTrue e X.env whole=(do let v <-whole;standAt e.pos;holding [v] (truthy v)):=by intro _;rfl):PT X e (tB t):=by
 intro pins s σ H Q I hw;refine isTrue_plain (cL (h pins s σ H _ I hw) fun v s1 cq=>?_) (he _);obtain⟨x,H1,I1,r1,q1⟩:=cq;obtain⟨d,rfl,q⟩:=q1;cases r1;exact wpAny_truthy_bool ⟨H1,I1,q⟩
variable {tA AZ:TT} {rest:List Expr}
def L7(t u:TT):TT:=fun σ H Q=>t σ H fun c H1=>if c=true then u σ H1 Q else Q false H1
def U5(t u:TT):TT:=fun σ H Q=>t σ H fun c H1=>if c=true then Q true H1 else u σ H1 Q
def Mk(t:TT):TT:=fun σ H Q=>t σ H fun c H1=>Q (!c) H1
theorem OR(ha:PT X a tA):PW X (.BoolOp .And [a] pos) tA:=by
 intro wh pins s σ H Q I h;refine isTrue_and (cL (ha pins s σ H Q I h) fun c s1 e=>?_);cases c with
 | true=>exact isTrue_and_nil e
 | false=>exact e
theorem M9(ha:PT X a tA):PW X (.BoolOp .Or [a] pos) tA:=by
 intro wh pins s σ H Q I h;refine isTrue_or (cL (ha pins s σ H Q I h) fun c s1 e=>?_);cases c with
 | false=>exact isTrue_or_nil e
 | true=>exact e
theorem M8(ha:PT X a tA)(hb:PW X (.BoolOp .And (b::rest) pos) AZ):PW X (.BoolOp .And (a::b::rest) pos) (L7 tA AZ):=by
 intro wh pins s σ H Q I h;refine isTrue_and (cL (ha pins s σ H _ I h) fun c s1 cq=>?_);obtain⟨H1,I1,q1⟩:=cq;cases c with
 | true=>exact hb wh pins s1 σ H1 Q I1 q1
 | false=>exact⟨H1,I1,q1⟩
theorem MJ(ha:PT X a tA)(hb:PW X (.BoolOp .Or (b::rest) pos) AZ):PW X (.BoolOp .Or (a::b::rest) pos) (U5 tA AZ):=by
 intro wh pins s σ H Q I h;refine isTrue_or (cL (ha pins s σ H _ I h) fun c s1 cq=>?_);obtain⟨H1,I1,q1⟩:=cq;cases c with
 | true=>exact⟨H1,I1,q1⟩
 | false=>exact hb wh pins s1 σ H1 Q I1 q1
theorem M7(ha:PT X a tA):PT X (.UnaryOp .Not a pos) (Mk tA):=by
 intro pins s σ H Q I h;exact isTrue_not (ha pins s σ H (fun c H1=>Q (!c) H1) I h)
def MI(ta tb:TE):TE:=fun σ H Q=>ta σ H fun x H1=>∃c,x=.bl c/\if c=true then tb σ H1 Q else Q (.bl false) H1
def Mj(ta tb:TE):TE:=fun σ H Q=>ta σ H fun x H1=>∃c,x=.bl c/\if c=true then Q (.bl true) H1 else tb σ H1 Q
def MH(ta:TE):TE:=fun σ H Q=>ta σ H fun x H1=>∃c,x=.bl c/\Q (.bl (!c)) H1
theorem M6{op}{t:TE}(h:PE X a t):PE X (.BoolOp op [a] pos) t:=fun pins s σ H Q I hw=>BoolOp_one (h pins s σ H Q I hw)
theorem M5(ha:PE X a ta)(hb:PE X (.BoolOp .And (b::rest) pos) tb):PE X (.BoolOp .And (a::b::rest) pos) (MI ta tb):=by
 intro pins s σ H Q I h;refine BoolOp_and (cL (ha pins s σ H _ I h) fun v s1 cq=>?_);obtain⟨x,H1,I1,r1,q1⟩:=cq;obtain⟨c,rfl,q1⟩:=q1;cases r1;refine wpAny_truthy_bool ?_;cases c with
 | true=>exact hb pins s1 σ H1 Q I1 q1
 | false=>exact⟨.bl false,H1,I1,rfl,q1⟩
theorem MG(ha:PE X a ta)(hb:PE X (.BoolOp .Or (b::rest) pos) tb):PE X (.BoolOp .Or (a::b::rest) pos) (Mj ta tb):=by
 intro pins s σ H Q I h;refine BoolOp_or (cL (ha pins s σ H _ I h) fun v s1 cq=>?_);obtain⟨x,H1,I1,r1,q1⟩:=cq;obtain⟨c,rfl,q1⟩:=q1;cases r1;refine wpAny_truthy_bool ?_;cases c with
 | false=>exact hb pins s1 σ H1 Q I1 q1
 | true=>exact⟨.bl true,H1,I1,rfl,q1⟩
theorem M4(ha:PE X a ta):PE X (.UnaryOp .Not a pos) (MH ta):=by
 intro pins s σ H Q I h;refine UnaryOp_ (cL (ha pins s σ H _ I h) fun v s1 cq=>?_);obtain⟨x,H1,I1,r1,q1⟩:=cq;obtain⟨c,rfl,q1⟩:=q1;cases r1;exact not_of (wpAny_truthy_bool ⟨.bl (!c),H1,I1,rfl,q1⟩)
end
end L2
namespace L2
open PySem PySem.Spec PyProof.Rows
def dY(K:PySem.W.Frag)(H:Hp)(a:Addr)(xs:List V):Prop:=
 Rd H a (.lst xs)\/
  ∃(o:Obj) (its:Array Value) (n:Nat),K.lookup a=some o/\o.cls=.type "list"/\o.dict=none/\o.data=.seq its n/\its.size<=sizeLine/\Vals xs its.toList
def fQ(K:PySem.W.Frag)(H:Hp)(a:Addr)(xs:List V):Prop:=
 Rd H a (.tup xs)\/
  ∃(o:Obj) (its:Array Value) (n:Nat),K.lookup a=some o/\o.cls=.type "tuple"/\o.data=.seq its n/\its.size<=sizeLine/\Vals xs its.toList
noncomputable def Mi:Value->Option V
 | .none=>some .non
 | .bool b=>some (.bl b)
 | .int i _=>some (.int i)
 | .str x _=>some (.str x)
 | .bytes b _=>some (.FR b)
 | .float b _=>some (.FE b)
 | .ref a=>some (.ref a)
 | .type n=>some (.ty n)
 | _=>none
theorem RelV.abs{x:V}{u:Value}(r:RelV x u):Mi u=some x:=by
 cases x with
 | non=>cases r;rfl
 | bl _=>cases r;rfl
 | int _=>obtain⟨t,rfl⟩:=r;rfl
 | str _=>obtain⟨t,rfl⟩:=r;rfl
 | FR _=>obtain⟨t,rfl⟩:=r;rfl
 | FE _=>obtain⟨t,rfl⟩:=r;rfl
 | ref _=>cases r;rfl
 | ty _=>cases r;rfl
theorem RelV.inj{x y:V}{u:Value}(r:RelV x u)(q:RelV y u):x=y:=Option.some.inj (r.abs.symm.trans q.abs)
theorem Vals.inj:∀{xs ys:List V} {us:List Value},Vals xs us->Vals ys us->xs=ys
 | _,_,_,.nil,.nil=>rfl
 | _,_,_,.cons r t,.cons r' t'=>by rw[r.inj r',Vals.inj t t']
section
variable {X:Cx} {pins:List (Addr×Obj)} {σ:St} {H:Hp} {s:Shared} {a:Addr} {xs ys:List V}
theorem dY.of{K:PySem.W.Frag}(h:H a=some (.lst xs)):dY K H a xs:=.inl (.inl h)
theorem fQ.of{K:PySem.W.Frag}(h:H a=some (.tup xs)):fQ K H a xs:=.inl (.inl h)
theorem Inv.list(I:Inv X pins σ H s)(h:dY X.K H a xs):∃its:List Value,Vals xs its/\PlainL s.heap a its.toArray/\xs.length<=sizeLine:=by
 rcases h with h | ⟨o,its,n,hk,hc,hd,hs,hz,r⟩
 ·obtain⟨z,its,n,r,e⟩:=h.ok I.cN;exact⟨its,r,⟨_,n,e,rfl,rfl,rfl⟩,z⟩
 ·refine⟨its.toList,r,⟨o,n,I.nT a o hk,hc,hd,by simpa using hs⟩,?_⟩;have e:=r.length;simp only[aT] at e;omega
theorem Inv.tuple(I:Inv X pins σ H s)(h:fQ X.K H a xs):∃its:List Value,Vals xs its/\IsTup s.heap a its.toArray/\xs.length<=sizeLine:=by
 rcases h with h | ⟨o,its,n,hk,hc,hs,hz,r⟩
 ·obtain⟨z,its,r,p⟩:=h.ok I.cN;exact⟨its,r,p,z⟩
 ·refine⟨its.toList,r,⟨o,I.nT a o hk,hc,n,by simpa using hs⟩,?_⟩;have e:=r.length;simp only[aT] at e;omega
theorem Inv.fZ(I:Inv X pins σ H s)(h:dY X.K H a xs)(h':dY X.K H a ys):xs=ys:=by
 obtain⟨its,r,⟨o,n,e,_,_,d⟩,_⟩:=I.list h;obtain⟨its',r',⟨o',n',e',_,_,d'⟩,_⟩:=I.list h';rw[e] at e';cases e';rw[d] at d';injection d' with d1 _
 have:its=its':=by simpa using congrArg Array.toList d1
 subst this;exact r.inj r'
theorem Inv.jZ(I:Inv X pins σ H s)(h:fQ X.K H a xs)(h':fQ X.K H a ys):xs=ys:=by
 obtain⟨its,r,⟨o,e,_,n,d⟩,_⟩:=I.tuple h;obtain⟨its',r',⟨o',e',_,n',d'⟩,_⟩:=I.tuple h';rw[e] at e';cases e';rw[d] at d';injection d' with d1 _
 have:its=its':=by simpa using congrArg Array.toList d1
 subst this;exact r.inj r'
end
noncomputable abbrev Cx.jM(X:Cx)(E:Value->Shared->Prop):Cx:={ X with xe:=E }
noncomputable abbrev Cx.sy(X:Cx):Cx:=X.jM fun _ _=>False
theorem Cx.Ok.jM{X:Cx}(ok:X.Ok)(E:Value->Shared->Prop):(X.jM E).Ok:=
 ⟨ok.mod,ok.kind,ok.glob,ok.blt,ok.above,ok.inj,ok.has,ok.zk,ok.hd,ok.frames,ok.A0,ok.FG,ok.bs,ok.uF,ok.pq,ok.pR,ok.jq,ok.vR⟩
theorem Cx.Ok.fY{X:Cx}{E:Value->Shared->Prop}(ok:(X.jM E).Ok):X.Ok:=
 ⟨ok.mod,ok.kind,ok.glob,ok.blt,ok.above,ok.inj,ok.has,ok.zk,ok.hd,ok.frames,ok.A0,ok.FG,ok.bs,ok.uF,ok.pq,ok.pR,ok.jq,ok.vR⟩
section
variable {X:Cx} {pins:List (Addr×Obj)} {σ:St} {H:Hp} {s:Shared} {E:Value->Shared->Prop}
theorem Inv.jM(I:Inv X pins σ H s)(E:Value->Shared->Prop):Inv (X.jM E) pins σ H s:=⟨I.ok.jM E,I.os,I.bare,I.base,I.loc,I.cell,I.free,I.gd,I.pin,I.cN,I.len⟩
theorem Inv.fY(I:Inv (X.jM E) pins σ H s):Inv X pins σ H s:=⟨I.ok.fY,I.os,I.bare,I.base,I.loc,I.cell,I.free,I.gd,I.pin,I.cN,I.len⟩
theorem SP.fY{D:Ends}{f:Flow}{s':Shared}(h:SP (X.jM E) pins D f s'):SP X pins D f s':=by
 cases f with
 | next=>obtain⟨cF,H',I,q⟩:=h;exact⟨cF,H',I.fY,q⟩
 | brk=>obtain⟨cF,H',I,q⟩:=h;exact⟨cF,H',I.fY,q⟩
 | cont=>obtain⟨cF,H',I,q⟩:=h;exact⟨cF,H',I.fY,q⟩
 | ret u=>obtain⟨v,cF,H',I,r,q⟩:=h;exact⟨v,cF,H',I.fY,r,q⟩
theorem ny.sy{st:List Stmt}{t:TS}(h:ny X.sy st t):ny X st t:=fun pins s σ H D I hw=>
 wpAny_mono (h pins s σ H D (I.jM _) hw) (fun _ _ q=>q.fY) fun _ _ z=>False.elim z
end
section
variable {X:Cx} {st:Stmt} {rest:List Stmt} {t u:TS} {e:Expr} {te:TE} {pos:Pos}
def MF:TS:=fun D σ H=>D.nx σ H
def Gn(t u:TS):TS:=fun D σ H=>t { D with nx:=u D } σ H
theorem OQ:ny X [] MF:=fun _ _ σ H _ I h=>wpAny_execs_nil ⟨σ,H,I,h⟩
theorem IQ(h1:PS X st t)(h2:ny X rest u):ny X (st::rest) (Gn t u):=by
 intro pins s σ H D I h;refine wpAny_execs_cons (cL (h1 pins s σ H { D with nx:=u D } I h) fun f s1 q=>?_);cases f with
 | next=>
  obtain⟨cF,H',I',q⟩:=q;exact h2 pins s1 cF H' D I' q
 | ret v=>exact q
 | brk=>exact q
 | cont=>exact q
theorem Cf(h1:PS X st t):ny X [st] t:=by
 intro pins s σ H D I h;refine wpAny_execs_cons (cL (h1 pins s σ H D I h) fun f s1 q=>?_);cases f with
 | next=>exact wpAny_execs_nil q
 | ret v=>exact q
 | brk=>exact q
 | cont=>exact q
theorem Inv.quiet{pins:List (Addr×Obj)}{σ:St}{H:Hp}{s:Shared}(I:Inv X pins σ H s):interactive X.env=false:=by simp[interactive,I.ok.kind]
def MZ(te:TE):TS:=fun D σ H=>te σ H fun _ H1=>D.nx σ H1
theorem tK(he:PE X e te)(hs:swapsWith e none pos.line X.env=pure false:=by rfl):PS X (.Expr e pos) (MZ te):=by
 intro pins s σ H D I h;exact wpAny_Expr_any (cL (he pins s σ H _ I h) fun v s1 cq=>by obtain⟨x,H1,I1,r1,q1⟩:=cq;exact⟨σ,H1,I1,q1⟩) I.quiet hs
def Mh(te:TE):TS:=fun D σ H=>te σ H D.rt
theorem Ah(he:PE X e te):PS X (.Return (some e) pos) (Mh te):=by
 intro pins s σ H D I h;exact wpAny_Return_some (cL (he pins s σ H _ I h) fun v s1 cq=>by obtain⟨x,H1,I1,r1,q1⟩:=cq;exact⟨x,σ,H1,I1,r1,q1⟩)
def Mg(c:TT)(t u:TS):TS:=fun D σ H=>c σ H fun b H1=>if b=true then t D σ H1 else u D σ H1
theorem Gv{c:Expr}{a b:List Stmt}{tc:TT}(hc:PT X c tc)(ha:ny X a t)(hb:ny X b u):PS X (.If c a b pos) (Mg tc t u):=by
 intro pins s σ H D I h;refine wpAny_If (cL (hc pins s σ H _ I h) fun d s1 cq=>?_);obtain⟨H1,I1,q1⟩:=cq;cases d with
 | true=>exact ha pins s1 σ H1 D I1 q1
 | false=>exact hb pins s1 σ H1 D I1 q1
def M3:TS:=fun _ _ _=>False
theorem QF:PS X st M3:=fun _ _ _ _ _ _ h=>h.elim
end
noncomputable abbrev TG:=V->St->Hp->(St->Hp->Prop)->Prop
noncomputable abbrev uG:=List V->St->Hp->(St->Hp->Prop)->Prop
def PG(X:Cx)(target:Expr)(t:TG):Prop:=
 ∀(pins:List (Addr×Obj)) (s:Shared) (σ:St) (H:Hp) (v:V) (u:Value) (Q:St->Hp->Prop),Inv X pins σ H s->RelV v u->t v σ H Q->
  wpAny (model X.prog X.w) X.A (assign target X.env u) (fun _ s'=>∃cF H',Inv X pins cF H' s'/\Q cF H') X.xe s
def zy(X:Cx)(ts:List Expr)(t:uG):Prop:=
 ∀(pins:List (Addr×Obj)) (s:Shared) (σ:St) (H:Hp) (vs:List V) (us:List Value) (Q:St->Hp->Prop),Inv X pins σ H s->Vals vs us->t vs σ H Q->
  wpAny (model X.prog X.w) X.A (assignInOrder ((assignEach ts X.env).map (·.2)) us) (fun _ s'=>∃cF H',Inv X pins cF H' s'/\Q cF H') X.xe s
noncomputable abbrev BB:=V->V->V->Hp->(Hp->Prop)->Prop
def Gm(X:Cx)(t:BB):Prop:=
 ∀(pins:List (Addr×Obj)) (s:Shared) (σ:St) (H:Hp) (o i v:V) (ov iv u:Value) (Q:Hp->Prop),Inv X pins σ H s->RelV o ov->RelV i iv->RelV v u->t o i v H Q->
  wpAny (model X.prog X.w) X.A (setItem ov iv u) (fun _ s'=>∃H',Inv X pins σ H' s'/\Q H') X.xe s
section
variable {X:Cx} {pos:Pos}
def uX(i:Nat):TG:=fun v σ H Q=>Q (σ.set i (some v)) H
theorem HP{i:Nat}{x:Str}(hN:X.N.Nodup)(hi:X.N[i]?=some x)(hx:Loc X.env.scope x)(hf:X.fn x=true\/X.env.scope.names.lookup x=some .local:=by first | exact .inl rfl | exact .inr rfl | assumption):PG X (.Name x pos) (uX i):=by
 intro pins s σ H v u Q I r h;exact wpAny_assign_Name (IS I hN hi hx r (fun s' I'=>⟨_,H,I',h⟩) hf)
noncomputable def Mf:uG:=fun vs σ H Q=>vs=[]/\Q σ H
noncomputable def MY(t:TG)(u:uG):uG:=fun vs σ H Q=>∃v r,vs=v::r/\t v σ H fun cF H'=>u r cF H' Q
theorem OP:zy X [] Mf:=by
 intro pins s σ H vs us Q I r h;obtain⟨e,h⟩:=h;subst e;cases r;exact assignInOrder_nil ⟨σ,H,I,h⟩
theorem QE{e:Expr}{es:List Expr}{t:TG}{u:uG}(h1:PG X e t)(h2:zy X es u)
  (hs:(assignEach (e::es) X.env).map (·.2)=assign e X.env::(assignEach es X.env).map (·.2):=by rfl):zy X (e::es) (MY t u):=by
 intro pins s σ H vs us Q I r h;obtain⟨v,vr,e1,h⟩:=h;subst e1;cases r with
 | cons r rr=>
  rw[hs];refine assignInOrder_cons (cL (h1 pins s σ H _ _ _ I r h) fun _ s1 cq=>?_);obtain⟨uH,H1,I1,q1⟩:=cq;exact h2 pins s1 uH H1 _ _ Q I1 rr q1
def Me(K:PySem.W.Frag)(n:Nat)(t:uG):TG:=fun v σ H Q=>∃a xs,v=.ref a/\fQ K H a xs/\xs.length=n/\t xs σ H Q
theorem M1{es:List Expr}{k:Nat}{t:uG}{n:Nat}(hc:X.calm=true)(h:zy X es t)
  (hn:(assignEach es X.env).length=n:=by rfl) (gv:(assignEach es X.env).findIdx? (·.1)=none:=by rfl):PG X (.Tuple es k pos) (Me X.K n t):=by
 intro pins s σ H v u Q I r hw;obtain⟨a,xs,e1,hq,hl,hw⟩:=hw;subst e1;cases r;obtain⟨its,rv,ht,hz⟩:=I.tuple hq;refine assign_Tuple_tuple (I.ok.hd hc) ht (by simp[hn,<-hl,rv.length]) gv fun h' hx=>?_
 have I1:Inv X pins σ H { s with heap:=h' }:=I.kept (t':=s.toks) fun b o e=>hx b o (aA (ax e)) e
 exact h pins _ σ H xs _ Q I1 (by simpa using rv) hw
def Md(to ti:TE)(t:BB):TG:=fun v σ H Q=>to σ H fun o H1=>ti σ H1 fun i H2=>t o i v H2 fun H3=>Q σ H3
theorem M0{o i:Expr}{to ti:TE}{t:BB}(ho:PE X o to)(hi:PE X i ti)(hs:Gm X t)
  (ha:∀v,assign (.Subscript o i pos) X.env v=(do
   let ov <-holding [v] (eval o X.env)
   let iv <-holding [v,ov] (eval i X.env)
   standAt pos
   holding [v,ov,iv] (setItem ov iv v)
   release [v,ov,iv] []):=by intro _;rfl):PG X (.Subscript o i pos) (Md to ti t):=by
 intro pins s σ H v u Q I r h;rw[ha];refine aa (bA (cL (ho pins s σ H _ I h) fun ov s1 cq=>?_));obtain⟨x,H1,I1,r1,q1⟩:=cq;refine aa (bA (cL (hi pins s1 σ H1 _ I1 q1) fun iv s2 cq=>?_));obtain⟨y,H2,I2,r2,q2⟩:=cq;refine aa (wpAny_standAt (aa (bA (cL (hs pins s2 σ H2 x y v ov iv u _ I2 r1 r2 r q2) fun _ s3 cq=>?_))));obtain⟨H3,I3,q3⟩:=cq;exact wpAny_release ⟨σ,H3,I3,q3⟩
def zP(te:TE)(g:TG):TS:=fun D σ H=>te σ H fun x H1=>g x σ H1 D.nx
theorem NG{tg e:Expr}{te:TE}{g:TG}(he:PE X e te)(hg:PG X tg g)(hs:swapsWithSole [tg] e pos.line X.env=pure false:=by rfl)(hw:swappedStores [tg] e X.env=pure none:=by rfl)
  (h1:(assignEach [tg] X.env).map (·.2)=[assign tg X.env]:=by rfl):PS X (.Assign [tg] e pos) (zP te g):=by
 intro pins s σ H D I h;refine wpAny_Assign_stores (cL (he pins s σ H _ I h) fun v s1 cq=>?_) hs hw;obtain⟨x,H1,I1,r1,q1⟩:=cq;rw[h1];exact cL (hg pins s1 σ H1 x v _ I1 r1 q1) fun _ s2 q=>q
theorem GV{i:Nat}{x:Str}{e:Expr}{te:TE}{pos':Pos}(hN:X.N.Nodup)(hi:X.N[i]?=some x)(hx:Loc X.env.scope x)(he:PE X e te)(hs:swapsWith e (some (.Name x pos')) pos.line X.env=pure false:=by rfl)(hf:X.fn x=true\/X.env.scope.names.lookup x=some .local:=by first | exact .inl rfl | exact .inr rfl | assumption) :
  PS X (.Assign [.Name x pos'] e pos) (zP te (uX i)):=by
 intro pins s σ H D I h;refine wpAny_Assign_Name (cL (he pins s σ H _ I h) fun v s1 cq=>?_) hs;obtain⟨y,H1,I1,r1,q1⟩:=cq;exact IS I1 hN hi hx r1 (fun s2 I2=>⟨_,H1,I2,q1⟩) hf
end
section
variable {X:Cx} {pos:Pos}
def NF(c:TT)(tb:TS):TS:=fun D σ H=>∃W:Nat->St->Hp->Prop,(∃m,W m σ H)/\∀m σ H,W m σ H->
 c σ H fun b H1=>if b=true then ∃N:St->Hp->Prop,(∀cF H',N cF H'->∃m',m'<m/\W m' cF H')/\tb { D with nx:=N,ct:=N,bk:=D.nx } σ H1 else D.nx σ H1
theorem QD{c:Expr}{body:List Stmt}{tc:TT}{tb:TS}(hp:PassesOwn (model X.prog X.w) X.A X.env X.xe)(hc:PT X c tc)(hb:ny X body tb):PS X (.While c body [] pos) (NF tc tb):=by
 intro pins s σ H D I h;obtain⟨W,⟨m0,w0⟩,turn⟩:=h;refine wpAny_While (codeAny_whileLoop (fun n s'=>∃cF H',Inv X pins cF H' s'/\W n cF H') ?_ m0 ⟨σ,H,I,w0⟩);rintro n s1 ⟨uH,H1,I1,w1⟩;refine wpAny_passesOwn hp (cL (hc pins s1 uH H1 _ I1 (turn n uH H1 w1)) fun b s2 cq=>?_);obtain⟨H2,I2,q2⟩:=cq;cases b with
 | true=>
  obtain⟨N,hN,q2⟩:=q2;rw[if_pos rfl];refine wpAny_passesOwn hp (cL (hb pins s2 uH H2 _ I2 q2) fun f s3 q3=>?_);cases f with
  | next=>
   obtain⟨jz,H3,I3,n3⟩:=q3;obtain⟨m',hm,w3⟩:=hN jz H3 n3;exact⟨m',hm,jz,H3,I3,w3⟩
  | cont=>
   obtain⟨jz,H3,I3,n3⟩:=q3;obtain⟨m',hm,w3⟩:=hN jz H3 n3;exact⟨m',hm,jz,H3,I3,w3⟩
  | brk=>exact q3
  | ret v=>exact q3
 | false=>
  rw[if_neg aG];exact wpAny_execs_nil ⟨uH,H2,I2,q2⟩
end
structure It where
 go:Nat->Hp->Prop
 AV:Nat->Hp->V->Hp->Prop
 stop:Nat->Hp->Prop
def i7(X:Cx)(pins:List (Addr×Obj))(H:Hp)(b:Addr):Prop:=
 H b=none/\b≠X.env.locals/\b∉X.fs/\(b∈X.ex\/X.eF.heap.objs.size<=b)/\(∀x c,X.env.cells.lookup x=some c->c≠b)/\∀p∈X.pn++pins,p.1≠b
theorem Inv.kl{X:Cx}{pins:List (Addr×Obj)}{σ:St}{H H':Hp}{s:Shared}{b:Addr}(I:Inv X pins σ H s)(hb:s.heap.objs.size<=b)(hn:H' b=none):i7 X pins H' b:=by
 refine⟨hn,Nat.ne_of_gt (aZ I.lt hb),I.Ed hb,.inr (Nat.le_trans I.sz hb),fun x c e z=>?_,fun p hp z=>?_⟩
 ·obtain⟨v,q⟩:=I.cell x c e;exact absurd (aZ q.lt (by rw[z];exact hb)) (Nat.lt_irrefl _)
 ·exact absurd (aZ (ax (I.pin p hp).1) (by rw[z];exact hb)) (Nat.lt_irrefl _)
structure Turn (P:Program) (w:World) (K:PySem.W.Frag) (tg:Expr) (J:It) (fp:List Addr) (it:Addr) (tn:Nat->Heap->Prop):Prop where
 mem:it∈fp
 obj:∀i h,tn i h->∀b∈fp,∃o,h.get? b=some o/\∀v,o.data≠.cell v
 keep:∀i h h',tn i h->(∀b∈fp,∀o,h.get? b=some o->h'.get? b=some o)->tn i h'
 item:∀(X:Cx),X.prog=P->X.w=w->X.K=K->X.calm=true->∀(i:Nat) (pins:List (Addr×Obj)) (s:Shared) (σ:St) (H:Hp) (E:Value->Shared->Prop),Inv X pins σ H s->(∀b∈fp,i7 X pins H b)->tn i s.heap->J.go i H->
  wpAny (model P w) X.A (pyNext (.ref it)) (fun r s1=>∃u,r=some u/\
   wpAny (model P w) X.A (letOwnedTupleGo tg (.ref it) u) (fun _ s2=>∃x H',Inv X pins σ H' s2/\RelV x u/\J.AV i H x H'/\tn (i+1) s2.heap/\∀b∈fp,H' b=none) E s1) E s
 done:∀(X:Cx),X.prog=P->X.w=w->X.K=K->X.calm=true->∀(i:Nat) (pins:List (Addr×Obj)) (s:Shared) (σ:St) (H:Hp) (E:Value->Shared->Prop),Inv X pins σ H s->(∀b∈fp,i7 X pins H b)->tn i s.heap->J.stop i H->
  wpAny (model P w) X.A (pyNext (.ref it)) (fun r s1=>r=none/\Inv X pins σ H s1) E s
 self:∀(A:Around) (i:Nat) (s:Shared) (Q:Value->Shared->Prop) (E:Value->Shared->Prop),tn i s.heap->Q (.ref it) s->wpAny (model P w) A (pyIter (.ref it)) Q E s
noncomputable abbrev TI:=St->Hp->(It->Hp->Prop)->Prop
def Bq(X:Cx)(pins:List (Addr×Obj))(σ:St)(tg:Expr)(R:It->Hp->Prop)(El:Value)(s2:Shared):Prop:=
 ∃(it:Addr) (fp:List Addr) (tn:Nat->Heap->Prop) (J:It) (H':Hp),El=.ref it/\Inv X pins σ H' s2/\Turn X.prog X.w X.K tg J fp it tn/\tn 0 s2.heap/\(∀b∈fp,i7 X pins H' b)/\R J H'
def PI(X:Cx)(tg iter:Expr)(wi:TI):Prop:=
 ∀(pins:List (Addr×Obj)) (s:Shared) (σ:St) (H:Hp) (R:It->Hp->Prop),Inv X pins σ H s->wi σ H R->
  wpAny (model X.prog X.w) X.A (eval iter X.env) (fun v s1=>wpAny (model X.prog X.w) X.A (pyIter v) (Bq X pins σ tg R) X.xe s1) X.xe s
theorem wA{M:Model}{A:Around}{E:Value->Shared->Prop}{s:Shared}{tg:Expr}{it:Addr}{u:Value}{o:Obj}{n:String}{vs:Array Value}{Q:Unit->Shared->Prop}(ho:s.heap.get? it=some o)(hc:o.cls=.type n)(hd:o.data=.fields vs)
  (hn:["enumerate","zip","dict_itemiterator","dict_reverseitemiterator","odict_iterator","itertools.zip_longest","itertools.pairwise"].contains n=false) (hQ:Q () s):wpAny M A (letOwnedTupleGo tg (.ref it) u) Q E s:=by
 unfold letOwnedTupleGo;cases tg<;>first
  | exact ai hQ
  | (cases u<;>first
    | exact ai hQ
    | (refine aa (wpAny_load ho ?_)
       rw[hc,hd];show wpAny M A (if (["enumerate","zip","dict_itemiterator","dict_reverseitemiterator","odict_iterator","itertools.zip_longest","itertools.pairwise"].contains n&&vs[0]?==some (rawInt _))=true then _ else _) Q E s;rw[if_neg (by intro h;rw[hn,Bool.false_and] at h;cases h)];exact ai hQ))
noncomputable def F0(K:PySem.W.Frag)(a:Addr):It:=
 ⟨fun i H=>∃xs x,dY K H a xs/\xs[i]?=some x,fun i H x H'=>H'=H/\∀xs,dY K H a xs->xs[i]?=some x,fun i H=>∃xs,dY K H a xs/\xs.length<=i⟩
noncomputable def FZ(K:PySem.W.Frag)(a:Addr):It:=
 ⟨fun i H=>∃xs x,fQ K H a xs/\xs[i]?=some x,fun i H x H'=>H'=H/\∀xs,fQ K H a xs->xs[i]?=some x,fun i H=>∃xs,fQ K H a xs/\xs.length<=i⟩
noncomputable def Bs(lo:Int)(n:Nat):It:=⟨fun i _=>i<n,fun i H x H'=>H'=H/\x=.int (lo+i),fun i _=>n<=i⟩
theorem RU{P:Program}{w:World}{K:PySem.W.Frag}{tg:Expr}(a it:Addr):Turn P w K tg (F0 K a) [it] it (fun i h=>h.IsListIter it a i) where
 mem:=by simp
 obj:=fun i h st b hb=>by
  have e:b=it:=by simpa using hb
  subst e;obtain⟨o,e,c,d⟩:=st;exact⟨o,e,fun v z=>by rw[d] at z;cases z⟩
 keep:=fun i h h' st k=>st.at fun o e=>k it (by simp) o e
 item:=by
  intro X hP hw hK hc i pins s σ H E I hf st hg;subst hP hw hK;obtain⟨xs,x,hq,hx⟩:=hg;obtain⟨its,rv,p,hz⟩:=I.list hq;obtain⟨u,hu,ru⟩:=rv.get hx;obtain⟨f0,f1,f2,f3,f4,f5⟩:=hf it (by simp);refine wpAny_pyNext_list_item st p.isList (x:=u) (by simpa using hu) fun h' eG sb=>?_
  have I1:Inv X pins σ H { s with heap:=h' }:=I.turned (t':=s.toks) (fun b o hb e=>(sb.2 b hb).trans e) f0 f1 f3 f4 f5;obtain⟨o,e,c,d⟩:=id eG;exact⟨u,rfl,wA (s:={ s with heap:=h' }) e c d (by decide) ⟨x,H,I1,ru,⟨rfl,fun ys hy=>by rw[I.fZ hy hq];exact hx⟩,eG,fun b hb=>(hf b hb).1⟩⟩
 done:=by
  intro X hP hw hK hc i pins s σ H E I hf st hg;subst hP hw hK;obtain⟨xs,hq,hx⟩:=hg;obtain⟨its,rv,p,hz⟩:=I.list hq;obtain⟨f0,f1,f2,f3,f4,f5⟩:=hf it (by simp);have hl:=rv.length;exact wpAny_pyNext_list_end (I.ok.hd hc) st p.isList (by simp;omega) fun h' eb=>⟨rfl,I.turned (t':=s.toks) (fun b o hb e=>eb b o hb e) f0 f1 f3 f4 f5⟩
 self:=fun _ _ _ _ _ st h=>wpAny_pyIter_listiter st h
theorem R7{P:Program}{w:World}{K:PySem.W.Frag}{tg:Expr}(a it:Addr):Turn P w K tg (FZ K a) [it] it (fun i h=>h.IsTupleIter it a i) where
 mem:=by simp
 obj:=fun i h st b hb=>by
  have e:b=it:=by simpa using hb
  subst e;obtain⟨o,e,c,d⟩:=st;exact⟨o,e,fun v z=>by rw[d] at z;cases z⟩
 keep:=fun i h h' st k=>st.at fun o e=>k it (by simp) o e
 item:=by
  intro X hP hw hK hc i pins s σ H E I hf st hg;subst hP hw hK;obtain⟨xs,x,hq,hx⟩:=hg;obtain⟨its,rv,p,hz⟩:=I.tuple hq;obtain⟨u,hu,ru⟩:=rv.get hx;obtain⟨f0,f1,f2,f3,f4,f5⟩:=hf it (by simp);refine wpAny_pyNext_tuple_item st (show s.heap.IsTuple a its.toArray from p) (x:=u) (by simpa using hu) fun h' eG sb=>?_
  have I1:Inv X pins σ H { s with heap:=h' }:=I.turned (t':=s.toks) (fun b o hb e=>(sb.2 b hb).trans e) f0 f1 f3 f4 f5;obtain⟨o,e,c,d⟩:=id eG;exact⟨u,rfl,wA (s:={ s with heap:=h' }) e c d (by decide) ⟨x,H,I1,ru,⟨rfl,fun ys hy=>by rw[I.jZ hy hq];exact hx⟩,eG,fun b hb=>(hf b hb).1⟩⟩
 done:=by
  intro X hP hw hK hc i pins s σ H E I hf st hg;subst hP hw hK;obtain⟨xs,hq,hx⟩:=hg;obtain⟨its,rv,p,hz⟩:=I.tuple hq;obtain⟨f0,f1,f2,f3,f4,f5⟩:=hf it (by simp);have hl:=rv.length;exact wpAny_pyNext_tuple_end (I.ok.hd hc) st (show s.heap.IsTuple a its.toArray from p) (by simp;omega) fun h' eb=>⟨rfl,I.turned (t':=s.toks) (fun b o hb e=>eb b o hb e) f0 f1 f3 f4 f5⟩
 self:=fun _ _ _ _ _ st h=>wpAny_pyIter_tupleiter st h
theorem R6{P:Program}{w:World}{K:PySem.W.Frag}{tg:Expr}(it:Addr)(lo:Int)(n:Nat):Turn P w K tg (Bs lo n) [it] it (fun i h=>IsRangeIter h it (lo+(i:Nat)*1) ((n:Int)-(i:Nat)) 1) where
 mem:=by simp
 obj:=fun i h st b hb=>by
  have e:b=it:=by simpa using hb
  subst e
  exact⟨_,st,fun v z=>by
   have z':Data.fields _=Data.cell v:=z;cases z'⟩
 keep:=fun i h h' st k=>k it (by simp) _ st
 item:=by
  intro X hP hw hK hc i pins s σ H E I hf st hg;subst hP hw hK;obtain⟨f0,f1,f2,f3,f4,f5⟩:=hf it (by simp);have W:=Walks.range (prog:=X.prog) (w:=X.w) (I.ok.hd hc) it lo 1 n;refine W.item i s _ _ hg st fun v h' tk hv eG kk=>?_
  obtain⟨t,rfl⟩:=hv;have I1:Inv X pins σ H { s with heap:=h',toks:=tk }:=I.turned (fun b o hb e=>kk b o (by simpa using hb) e) f0 f1 f3 f4 f5;refine⟨_,rfl,wA (s:={ s with heap:=h',toks:=tk }) (n:="range_iterator") eG rfl rfl (by decide) ⟨.int (lo+i),H,I1,⟨t,?_⟩,⟨rfl,rfl⟩,eG,fun b hb=>(hf b hb).1⟩⟩;rw[Int.mul_one]
 done:=by
  intro X hP hw hK hc i pins s σ H E I hf st hg;subst hP hw hK;obtain⟨f0,f1,f2,f3,f4,f5⟩:=hf it (by simp);exact wpAny_pyNext_range_end (I.ok.hd hc) st (by have:n<=i:=hg;omega) fun h' eb=>⟨rfl,I.turned (t':=s.toks) (fun b o hb e=>eb b o hb e) f0 f1 f3 f4 f5⟩
 self:=fun _ _ _ _ _ st h=>wpAny_pyIter_rangeiter st h
end L2
namespace L2
open PySem PySem.Spec PyProof.Rows
section
variable {X:Cx} {tg:Expr}
theorem QC{pins:List (Addr×Obj)}{σ:St}{H:Hp}{s:Shared}{R:It->Hp->Prop}{E:Value->Shared->Prop}{lo hi:Int}{t u v:Tok}{tk:Nat}(I:Inv X pins σ H s)(h1:-(2 ^ 62)<=lo)(h2:lo<2 ^ 62)(h3:-(2 ^ 62)<=hi)(h4:hi<2 ^ 62)
  (q:R (Bs lo (hi-lo).toNat) H):wpAny (model X.prog X.w) X.A (pyIter (.ref s.heap.objs.size)) (Bq X pins σ tg R) E { s with heap:=s.heap.push { cls:=.type "range",data:=.fields #[.int lo t,.int hi u,.int 1 v] },toks:=tk }:=by
 refine wpAny_pyIter_range (IsRange.new ..) (small_one h1 h2 h3 h4) ?_;have I1:Inv X pins σ H { s with heap:=s.heap.push { cls:=.type "range",data:=.fields #[.int lo t,.int hi u,.int 1 v] },toks:=tk }:=I.kept fun b o e=>ae _ e
 refine⟨(s.heap.push { cls:=.type "range",data:=.fields #[.int lo t,.int hi u,.int 1 v] }).objs.size,[(s.heap.push { cls:=.type "range",data:=.fields #[.int lo t,.int hi u,.int 1 v] }).objs.size],_,_,H,rfl,
  I1.kept (t':=tk) fun b o e=>ae _ e,R6 _ lo (hi-lo).toNat,?_,fun b hb=>?_,q⟩
 ·have e1:lo+((0:Nat):Int)*1=lo:=by simp
  have e2:(((hi-lo).toNat:Nat):Int)-((0:Nat):Int)=Builtin.Range.rangeSize lo hi 1:=by rw[rangeSize_one];split<;>omega
  show IsRangeIter _ _ (lo+((0:Nat):Int)*1) ((((hi-lo).toNat:Nat):Int)-((0:Nat):Int)) 1;rw[e1,e2];exact av _ rfl
 ·have e:b=(s.heap.push { cls:=.type "range",data:=.fields #[.int lo t,.int hi u,.int 1 v] }).objs.size:=by simpa using hb
  subst e;exact I1.kl (az _) (I1.cN.fresh (az _))
def MX(ta:TA):TI:=fun σ H R=>ta σ H fun vs H1=>∃j:Int,vs=[.int j]/\-(2 ^ 62)<=j/\j<2 ^ 62/\R (Bs 0 j.toNat) H1
theorem RT{a:Expr}{ta:TA}{p pos:Pos}(hg:Gl X "range")(hm:X.mg "range"=none)(ha:PA X [a] ta)(hs:starEach [a] X.env=[(false,eval a X.env)]:=by rfl):PI X tg (.Call (.Name "range" p) [a] [] pos) (MX ta):=by
 intro pins s σ H R I h;refine Call_ (qh I hg hm boot_range (PyProof.Rows.callWith_type1 (cL (ha pos pins s σ H _ I h) fun us s1 cq=>?_) hs rfl));obtain⟨vs,H1,I1,r1,q1⟩:=cq;obtain⟨j,e,q1,q2,q⟩:=q1;subst e;cases r1 with
 | cons r rr=>
  cases rr;obtain⟨t,rfl⟩:=r;exact call_range_1 (QC I1 (by omega) (by omega) q1 q2 (by simpa using q))
def Mc(wi:TI)(g:TG)(tb:TS):TS:=fun D σ H=>wi σ H fun J H1=>∃W:Nat->Nat->St->Hp->Prop,(∃m,W 0 m σ H1)/\∀i m σ H,W i m σ H->
 (J.stop i H/\D.nx σ H)\/(J.go i H/\∃N:St->Hp->Prop,(∀cF H',N cF H'->∃m',m'<m/\W (i+1) m' cF H')/\∀x H',J.AV i H x H'->g x σ H' fun iH H2=>tb { D with nx:=N,ct:=N,bk:=D.nx } iH H2)
noncomputable def wM(fp:List Addr)(h:Heap):List (Addr×Obj):=fp.filterMap fun b=>(h.get? b).map fun o=>(b,o)
theorem AO{fp:List Addr}{h:Heap}{b:Addr}{o:Obj}(hb:b∈fp)(e:h.get? b=some o):(b,o)∈wM fp h:=List.mem_filterMap.mpr ⟨b,hb,by rw[e];rfl⟩
theorem RS{fp:List Addr}{h:Heap}{p:Addr×Obj}(hp:p∈wM fp h):p.1∈fp/\h.get? p.1=some p.2:=by
 obtain⟨b,hb,e⟩:=List.mem_filterMap.mp hp;cases q:h.get? b with
 | none=>rw[q] at e;cases e
 | some o=>
  rw[q] at e;have e':(b,o)=p:=Option.some.inj e;subst e';exact⟨hb,q⟩
theorem Inv.pinned{pins:List (Addr×Obj)}{σ:St}{H:Hp}{s:Shared}{fp:List Addr}(I:Inv X pins σ H s)(hf:∀b∈fp,i7 X pins H b)(ho:∀b∈fp,∃o,s.heap.get? b=some o/\∀v,o.data≠.cell v):Inv X (pins++wM fp s.heap) σ H s:=
 I.m4 fun p hp=>(aw.mp hp).elim (fun z=>I.pin p (bu _ z)) fun z=>by
  obtain⟨hb,e⟩:=RS z;obtain⟨f0,f1,f2,_⟩:=hf p.1 hb;obtain⟨o,e',d⟩:=ho p.1 hb;rw[e] at e';cases e';exact⟨e,f0,f1,f2,d⟩
theorem Inv.g6{pins pl:List (Addr×Obj)}{σ:St}{H:Hp}{s:Shared}(I:Inv X (pins++pl) σ H s):Inv X pins σ H s:=I.m4 fun p hp=>I.pin p (bu _ (aO _ hp))
theorem ND{iter:Expr}{body:List Stmt}{wi:TI}{g:TG}{tb:TS}{pos:Pos}(hp:PassesOwn (model X.prog X.w) X.A X.env X.xe)(hc:X.calm=true)(hi:PI X tg iter wi)(hg:PG X tg g)(hb:ny X body tb)
  (hs:∀x,foldedSetIterable iter X.env x=pure x:=by intro _;rfl):PS X (.For tg iter body [] pos) (Mc wi g tb):=by
 intro pins s σ H D I h;refine wpAny_For (cL (hi pins s σ H _ I h) fun v s1 h1=>cL h1 fun El s2 h2=>?_) hs;obtain⟨it,fp,tn,J,H2,e,I2,T,A1,f2,W,⟨m0,w0⟩,turn⟩:=h2;subst e
 -- DQ stays true of oF uh objects through oF loop
 have tR:∀{H':Hp},(∀b∈fp,H' b=none)->∀b∈fp,i7 X pins H' b:=fun hn b hb=>⟨hn b hb,(f2 b hb).2⟩
 refine codeAny_forLoop_any (fun n s'=>∃i cF H',Inv X pins cF H' s'/\tn i s'.heap/\(∀b∈fp,H' b=none)/\W i n cF H') ?_ m0 ⟨0,σ,H2,I2,A1,fun b hb=>(f2 b hb).1,w0⟩;rintro n s3 ⟨i,jz,H3,I3,JV,Lc,w3⟩;rcases turn i n jz H3 w3 with⟨stop,qn⟩ | ⟨go,N,hN,step⟩
 ·refine wpAny_passesOwn hp (cL (T.done X rfl rfl rfl hc i pins s3 jz H3 X.xe I3 (tR Lc) JV stop) fun r s4 cq=>?_);obtain⟨hr,I4⟩:=cq;subst hr;exact wpAny_execs_nil ⟨jz,H3,I4,qn⟩
 ·refine wpAny_passesOwn hp (cL (T.item X rfl rfl rfl hc i pins s3 jz H3 X.xe I3 (tR Lc) JV go) fun r s4 cq=>?_);obtain⟨u,hr,h4⟩:=cq;subst hr;refine wpAny_passesOwn hp (cL h4 fun _ s5 cq=>?_);obtain⟨x,H5,I5,r5,y5,DT,Xa⟩:=cq;have Xv:=I5.pinned (tR Xa) (T.obj _ _ DT);refine wpAny_passesOwn hp (cL (hg _ s5 jz H5 x u _ Xv r5 (step x H5 y5)) fun _ s6 cq=>?_);obtain⟨Lo,H6,I6,q6⟩:=cq;refine wpAny_passesOwn hp (cL (hb _ s6 Lo H6 _ I6 q6) fun f s7 q7=>?_);have again:∀{lN:St} {H7:Hp},Inv X (pins++wM fp s5.heap) lN H7 s7->N lN H7->∃m,m<n/\∃i cF H',Inv X pins cF H' s7/\tn i s7.heap/\(∀b∈fp,H' b=none)/\W i m cF H':=fun{lN H7} I7 n7=>by
   obtain⟨m',hm,w7⟩:=hN lN H7 n7;refine⟨m',hm,i+1,lN,H7,I7.g6,T.keep _ _ _ DT fun b hb o e=>(I7.pin (b,o) (bu _ (bu _ (AO hb e)))).1,fun b hb=>?_,w7⟩;obtain⟨o,e,d⟩:=T.obj _ _ DT b hb;exact(I7.pin (b,o) (bu _ (bu _ (AO hb e)))).2.1
  cases f with
  | next=>obtain⟨lN,H7,I7,n7⟩:=q7;exact again I7 n7
  | cont=>obtain⟨lN,H7,I7,n7⟩:=q7;exact again I7 n7
  | brk=>obtain⟨lN,H7,I7,q7⟩:=q7;exact⟨lN,H7,I7.g6,q7⟩
  | ret v=>obtain⟨x7,lN,H7,I7,r7,q7⟩:=q7;exact⟨x7,lN,H7,I7.g6,r7,q7⟩
end
end L2
namespace L2
open PySem PySem.Spec PyProof.Rows
noncomputable abbrev R2:=V->V->Hp->VK->Prop
def gB(X:Cx)(f:Value->Value->Sem Value)(r:R2):Prop:=
 ∀(pins:List (Addr×Obj)) (s:Shared) (σ:St) (H:Hp) (x y:V) (v u:Value) (Q:VK),Inv X pins σ H s->RelV x v->RelV y u->r x y H Q->
  wpAny (model X.prog X.w) X.A (f v u) (EP X pins σ Q) X.xe s
def FV(X:Cx)(f:Value->Sem Value)(r:V->Hp->VK->Prop):Prop:=
 ∀(pins:List (Addr×Obj)) (s:Shared) (σ:St) (H:Hp) (x:V) (v:Value) (Q:VK),Inv X pins σ H s->RelV x v->r x H Q->
  wpAny (model X.prog X.w) X.A (f v) (EP X pins σ Q) X.xe s
def c8(X:Cx)(f:Value)(r:List V->Hp->VK->Prop):Prop:=
 ∀(pins:List (Addr×Obj)) (s:Shared) (σ:St) (H:Hp) (xs:List V) (us:List Value) (Q:VK),Inv X pins σ H s->Vals xs us->r xs H Q->
  wpAny (model X.prog X.w) X.A (call f us) (EP X pins σ Q) X.xe s
def xS(r:R2)(ta tb:TE):TE:=fun σ H Q=>ta σ H fun x H1=>tb σ H1 fun y H2=>r x y H2 Q
def U3(r:V->Hp->VK->Prop)(ta:TE):TE:=fun σ H Q=>ta σ H fun x H1=>r x H1 Q
def rI(C:Int->Int->Prop)(g:Int->Int->V):R2:=fun x y H Q=>∃i j,x=.int i/\y=.int j/\C i j/\Q (g i j) H
def nP(g:Int->Int->V):R2:=fun x y H Q=>∃i j,x=.int i/\y=.int j/\Q (g i j) H
def rU(g:Int->V):V->Hp->VK->Prop:=fun x H Q=>∃i,x=.int i/\Q (g i) H
section
variable {X:Cx} {a b c:Expr} {ta tb tc:TE} {pos:Pos}
theorem BA(ha:PE X a ta)(hb:PE X b tb){pins:List (Addr×Obj)}{s:Shared}{σ:St}{H:Hp}{R:V->V->Hp->Prop}(I:Inv X pins σ H s)
  (h:ta σ H fun x H1=>tb σ H1 fun y H2=>R x y H2) {Q:Value->Shared->Prop} {f:Value->Value->Sem Value}
  (hf:∀v u s2 x y H2,Inv X pins σ H2 s2->RelV x v->RelV y u->R x y H2->wpAny (model X.prog X.w) X.A (f v u) Q X.xe s2) :
  wpAny (model X.prog X.w) X.A (eval a X.env) (fun v cB=>wpAny (model X.prog X.w) X.A (eval b X.env) (fun u gO=>wpAny (model X.prog X.w) X.A (f v u) Q X.xe gO) X.xe cB) X.xe s:=by
 refine cL (ha pins s σ H _ I h) fun v s1 cq=>?_
 obtain⟨x,H1,I1,r1,q1⟩:=cq;refine cL (hb pins s1 σ H1 _ I1 q1) fun u s2 cq=>?_
 obtain⟨y,H2,I2,r2,q2⟩:=cq;exact hf v u s2 x y H2 I2 r1 r2 q2
theorem Gz{op:Operator}{r:R2}(ho:gB X (binaryOp op) r)(ha:PE X a ta)(hb:PE X b tb):PE X (.BinOp a op b pos) (xS r ta tb):=by
 intro pins s σ H Q I h;exact wpAny_BinOp (BA ha hb I h fun v u s2 x y H2 I2 rx ry q=>ho pins s2 σ H2 x y v u Q I2 rx ry q)
theorem MW{op:UnaryOp}{r:V->Hp->VK->Prop}(ho:FV X (unaryOp op) r)(ha:PE X a ta):PE X (.UnaryOp op a pos) (U3 r ta):=by
 intro pins s σ H Q I h;exact UnaryOp_ (cL (ha pins s σ H _ I h) fun v s1 cq=>by obtain⟨x,H1,I1,r1,q1⟩:=cq;exact ho pins s1 σ H1 x v Q I1 r1 q1)
theorem A5{f:Value->Value->Sem Value}{C:Int->Int->Prop}{g:Int->Int->Int}
  (rule:∀(i j:Int) (t u:Tok) (s:Shared) (Q:Value->Shared->Prop) (E:Value->Shared->Prop),C i j->Q (.int (g i j) s.toks) { s with toks:=s.toks+1 }->wpAny (model X.prog X.w) X.A (f (.int i t) (.int j u)) Q E s) :
  gB X f (rI C fun i j=>.int (g i j)):=by
 intro pins s σ H x y v u Q I rx ry h;obtain⟨i,j,rfl,rfl,hc,q⟩:=h;obtain⟨t,rfl⟩:=rx;obtain⟨t',rfl⟩:=ry;exact rule i j t t' s _ _ hc ⟨.int (g i j),H,I.tok _,⟨_,rfl⟩,q⟩
theorem Gk{f:Value->Value->Sem Value}{g:Int->Int->Int}
  (rule:∀(i j:Int) (t u:Tok) (s:Shared) (Q:Value->Shared->Prop) (E:Value->Shared->Prop),Q (.int (g i j) s.toks) { s with toks:=s.toks+1 }->wpAny (model X.prog X.w) X.A (f (.int i t) (.int j u)) Q E s) :
  gB X f (nP fun i j=>.int (g i j)):=by
 intro pins s σ H x y v u Q I rx ry h;obtain⟨i,j,rfl,rfl,q⟩:=h;obtain⟨t,rfl⟩:=rx;obtain⟨t',rfl⟩:=ry;exact rule i j t t' s _ _ ⟨.int (g i j),H,I.tok _,⟨_,rfl⟩,q⟩
theorem zO{f:Value->Value->Sem Value}{g:Int->Int->Bool}
  (rule:∀(i j:Int) (t u:Tok) (s:Shared) (Q:Value->Shared->Prop) (E:Value->Shared->Prop),Q (.bool (g i j)) s->wpAny (model X.prog X.w) X.A (f (.int i t) (.int j u)) Q E s) :
  gB X f (nP fun i j=>.bl (g i j)):=by
 intro pins s σ H x y v u Q I rx ry h;obtain⟨i,j,rfl,rfl,q⟩:=h;obtain⟨t,rfl⟩:=rx;obtain⟨t',rfl⟩:=ry;exact rule i j t t' s _ _ ⟨.bl (g i j),H,I,rfl,q⟩
def jH(i j:Int):Prop:=0<j/\j<1073741824
def qd(i j:Int):Prop:=0<=j/\j<=1000000/\i.natAbs<2 ^ 64
def iG(i j:Int):Prop:=(-(2 ^ 64)<i/\i<2 ^ 64)\/(-(2 ^ 64)<j/\j<2 ^ 64)
theorem iG.ok{i j:Int}(h:iG i j):IntMulOk i j:=by
 rcases h with⟨h1,h2⟩ | ⟨h1,h2⟩
 ·exact .of_left (intBits_le_64 h1 h2)
 ·exact .of_right (intBits_le_64 h1 h2)
theorem t5:gB X (binaryOp .Add) (nP fun i j=>.int (i+j)):=Gk fun _ _ _ _ _ _ _ q=>add_int q
theorem NC:gB X (binaryOp .Sub) (nP fun i j=>.int (i-j)):=Gk fun _ _ _ _ _ _ _ q=>sub_int q
theorem NB:gB X (binaryOp .Mult) (rI iG fun i j=>.int (i*j)):=A5 fun _ _ _ _ _ _ _ hc q=>mul_int q hc.ok
theorem OO:gB X (binaryOp .FloorDiv) (rI jH fun i j=>.int (i/j)):=A5 fun i j _ _ _ _ _ hc q=>by
 have h1:(0:Int)<j:=hc.1;have h2:j<1073741824:=hc.2;exact floordiv_int (by omega) (by rw[Int.fdiv_eq_ediv_of_nonneg i (by omega)];exact q) (.inl (PyProof.noPylong_small (by omega)))
theorem NA:gB X (binaryOp .Mod) (rI (fun _ j=>0<j) fun i j=>.int (i%j)):=A5 fun i j _ _ _ _ _ hc q=>by
 have h1:(0:Int)<j:=hc;exact mod_int' (by omega) (by rw[Int.fmod_eq_emod_of_nonneg i (by omega)];exact q)
theorem Nz:gB X (binaryOp .Pow) (rI qd fun i j=>.int (i ^ j.toNat)):=A5 fun _ _ _ _ _ _ _ hc q=>pow_int_small hc.1 hc.2.1 hc.2.2 q
theorem UX{f:Value->Sem Value}{g:Int->Int}
  (rule:∀(i:Int) (t:Tok) (s:Shared) (Q:Value->Shared->Prop) (E:Value->Shared->Prop),Q (.int (g i) s.toks) { s with toks:=s.toks+1 }->wpAny (model X.prog X.w) X.A (f (.int i t)) Q E s) :
  FV X f (rU fun i=>.int (g i)):=by
 intro pins s σ H x v Q I rx h;obtain⟨i,rfl,q⟩:=h;obtain⟨t,rfl⟩:=rx;exact rule i t s _ _ ⟨.int (g i),H,I.tok _,⟨_,rfl⟩,q⟩
theorem Ny:FV X (unaryOp .USub) (rU fun i=>.int (-i)):=UX fun _ _ _ _ _ q=>neg_int q
end
section
variable {X:Cx} {a b c:Expr} {ta tb tc:TE} {pos:Pos}
theorem GU{pins:List (Addr×Obj)}{σ:St}{H:Hp}{s:Shared}{Q:VK}{k k':Bool}(I:Inv X pins σ H s)(q:Q (.bl k) H)(e:k=k'):EP X pins σ Q (.bool k') s:=by
 subst e;exact⟨.bl k,H,I,rfl,q⟩
theorem MV:gB X (compareOp .Lt) (nP fun i j=>.bl (decide (i<j))):=zO fun _ _ _ _ _ _ _ q=>lt_int q
theorem BQ:gB X (compareOp .LtE) (nP fun i j=>.bl (decide (i<=j))):=zO fun _ _ _ _ _ _ _ q=>le_int q
theorem MU:gB X (compareOp .Gt) (nP fun i j=>.bl (decide (j<i))):=zO fun _ _ _ _ _ _ _ q=>gt_int q
theorem MT:gB X (compareOp .GtE) (nP fun i j=>.bl (decide (j<=i))):=zO fun _ _ _ _ _ _ _ q=>ge_int q
theorem Nx:gB X (compareOp .Is) (fun x y H Q=>y=.non/\Q (.bl (decide (x=.non))) H):=by
 intro pins s σ H x y v u Q I rx ry h;obtain⟨rfl,q⟩:=h;cases ry;refine is_none_gen (GU I q ?_);cases x<;>first
  | (cases rx;rfl)
  | (obtain⟨t,rfl⟩:=rx;rfl)
theorem ON:gB X (compareOp .IsNot) (fun x y H Q=>y=.non/\Q (.bl (!decide (x=.non))) H):=by
 intro pins s σ H x y v u Q I rx ry h;obtain⟨rfl,q⟩:=h;cases ry;refine isnot_none_gen (GU I q ?_);cases x<;>first
  | (cases rx;rfl)
  | (obtain⟨t,rfl⟩:=rx;rfl)
theorem gB.or{f:Value->Value->Sem Value}{r r':R2}(h:gB X f r)(h':gB X f r'):gB X f (fun x y H Q=>r x y H Q\/r' x y H Q):=by
 intro pins s σ H x y v u Q I rx ry q;rcases q with q | q
 ·exact h pins s σ H x y v u Q I rx ry q
 ·exact h' pins s σ H x y v u Q I rx ry q
theorem GS(b:Expr){op:CmpOp}(h:op≠.In:=by decide)(h2:op≠.NotIn:=by decide):behindInMarks op b=false:=by
 have e1:(op==CmpOp.In)=false:=by cases op<;>first | rfl | exact absurd rfl h
 have e2:(op==CmpOp.NotIn)=false:=by cases op<;>first | rfl | exact absurd rfl h2
 cases b<;>simp[behindInMarks,e1,e2]
theorem OM{op:CmpOp}{r:R2}(ho:gB X (compareOp op) r)(ha:PE X a ta)(hb:PE X b tb)(hm:behindInMarks op b=false):PE X (.Compare a [op] [b] pos) (xS r ta tb):=by
 intro pins s σ H Q I h;exact wpAny_Compare1 (BA ha hb I h fun v u s2 x y H2 I2 rx ry q=>ho pins s2 σ H2 x y v u Q I2 rx ry q) hm
def BP(t:TE):TT:=fun σ H Q=>t σ H fun x H'=>∃k,x=.bl k/\Q k H'
theorem OL{op:CmpOp}{r:R2}(ho:gB X (compareOp op) r)(ha:PE X a ta)(hb:PE X b tb)(hm:behindInMarks op b=false):PT X (.Compare a [op] [b] pos) (BP (xS r ta tb)):=by
 intro pins s σ H Q I h;refine wpAny_isTrue_Compare1 (cL (ha pins s σ H _ I h) fun v s1 cq=>?_) hm;obtain⟨x,H1,I1,r1,q1⟩:=cq;refine cL (hb pins s1 σ H1 _ I1 q1) fun u s2 cq=>?_
 obtain⟨y,H2,I2,r2,q2⟩:=cq;refine cL (ho pins s2 σ H2 x y v u _ I2 r1 r2 q2) fun c s3 cq=>?_
 obtain⟨z,H3,I3,r3,k,e,q3⟩:=cq;subst e;cases r3;exact wpAny_truthy_bool ⟨H3,I3,q3⟩
def GR(r r':R2)(ta tb tc:TE):TE:=fun σ H Q=>ta σ H fun x H1=>tb σ H1 fun y H2=>r x y H2 fun z H3=>∃k,z=.bl k/\
 (if k=true then tc σ H3 fun w' H4=>r' y w' H4 Q else Q (.bl false) H3)
theorem QB{op t6:CmpOp}{r r':R2}(ho:gB X (compareOp op) r)(i4:gB X (compareOp t6) r')(ha:PE X a ta)(hb:PE X b tb)(hc:PE X c tc)
  (hm:lastMarks [op,t6] [b,c]=false:=by with_unfolding_all rfl):PT X (.Compare a [op,t6] [b,c] pos) (BP (GR r r' ta tb tc)):=by
 intro pins s σ H Q I h;refine isTrue_chain (cL (ha pins s σ H _ I h) fun v s1 cq=>?_) hm;obtain⟨x,H1,I1,r1,q1⟩:=cq;refine test_link (cL (hb pins s1 σ H1 _ I1 q1) fun u s2 cq=>?_);obtain⟨y,H2,I2,r2,q2⟩:=cq;refine cL (ho pins s2 σ H2 x y v u _ I2 r1 r2 q2) fun d s3 cq=>?_
 obtain⟨z,H3,I3,r3,k,e,q3⟩:=cq;subst e;cases r3;refine wpAny_truthy_bool ?_;cases k with
 | false=>
  obtain⟨k',e',q'⟩:=q3;cases e';exact ite_ff ⟨H3,I3,q'⟩
 | true=>
  refine ite_tt (test_last (cL (hc pins s3 σ H3 _ I3 q3) fun w' s4 cq=>?_));obtain⟨z',H4,I4,r4,q4⟩:=cq;refine cL (i4 pins s4 σ H4 y z' u w' _ I4 r2 r4 q4) fun d' s5 cq=>?_
  obtain⟨z2,H5,I5,r5,k2,e2,q5⟩:=cq;subst e2;cases r5;exact wpAny_truthy_bool ⟨H5,I5,q5⟩
theorem u9:(sizeLine:Nat)<2 ^ 63:=by rw[sizeLine_eq];decide
theorem mv:gB X (binaryOp .Add) (fun x y H Q=>∃i j,x=.str i/\y=.str j/\i.length+j.length<=sizeLine/\Q (.str (i++j)) H):=by
 intro pins s σ H x y v u Q I rx ry h;obtain⟨i,j,rfl,rfl,hz,q⟩:=h;obtain⟨t,rfl⟩:=rx;obtain⟨t',rfl⟩:=ry;exact add_str (fun t' tk=>⟨.str (i++j),H,I.tok _,⟨_,rfl⟩,q⟩) hz
theorem j8{x:V}{us:List Value}(r:Vals [x] us):∃u,us=[u]/\RelV x u:=by
 cases r with
 | cons r1 r2=>cases r2;exact⟨_,rfl,r1⟩
theorem wy{x y:V}{us:List Value}(r:Vals [x,y] us):∃u w',us=[u,w']/\RelV x u/\RelV y w':=by
 cases r with
 | cons r1 r2=>
  cases r2 with
  | cons r3 r4=>cases r4;exact⟨_,_,rfl,r1,r3⟩
theorem RR(hc:X.calm=true):c8 X (.builtin "max") (fun xs H Q=>∃i j,xs=[.int i,.int j]/\Q (.int (if j>i then j else i)) H):=by
 intro pins s σ H xs us Q I r h;obtain⟨i,j,rfl,q⟩:=h;obtain⟨u,w',rfl,⟨t,rfl⟩,⟨t',rfl⟩⟩:=wy r;refine max_two_ints (I.ok.hd hc) fun h' tk k=>⟨_,H,I.kept k,?_,q⟩
 by_cases hj:j>i
 ·rw[if_pos hj,if_pos hj];exact⟨_,rfl⟩
 ·rw[if_neg hj,if_neg hj];exact⟨_,rfl⟩
theorem RQ(hc:X.calm=true):c8 X (.builtin "min") (fun xs H Q=>∃i j,xs=[.int i,.int j]/\Q (.int (if j<i then j else i)) H):=by
 intro pins s σ H xs us Q I r h;obtain⟨i,j,rfl,q⟩:=h;obtain⟨u,w',rfl,⟨t,rfl⟩,⟨t',rfl⟩⟩:=wy r;refine min_two_ints (I.ok.hd hc) fun h' tk k=>⟨_,H,I.kept k,?_,q⟩
 by_cases hj:j<i
 ·rw[if_pos hj,if_pos hj];exact⟨_,rfl⟩
 ·rw[if_neg hj,if_neg hj];exact⟨_,rfl⟩
theorem RP:c8 X (.type "int") (fun xs H Q=>(∃i,xs=[.int i]/\Q (.int i) H)\/∃k,xs=[.bl k]/\Q (.int (if k then 1 else 0)) H):=by
 intro pins s σ H xs us Q I r h;rcases h with⟨i,rfl,q⟩ | ⟨k,rfl,q⟩
 ·obtain⟨u,rfl,t,rfl⟩:=j8 r;exact call_int_int ⟨.int i,H,I,⟨_,rfl⟩,q⟩
 ·obtain⟨u,rfl,r1⟩:=j8 r;cases r1;exact call_int_bool ⟨.int (if k then 1 else 0),H,I.tok _,⟨_,rfl⟩,q⟩
end
end L2
namespace L2
open PySem PySem.Spec PyProof.Rows
theorem jR.some_of{v:V}{o:Option Value}(r:jR (some v) o):∃u,o=some u/\RelV v u:=by
 cases o with
 | none=>exact(show False from r).elim
 | some u=>exact⟨u,rfl,r⟩
structure Xy (K:PySem.W.Frag) (C:Addr):Prop where
 pg:PySem.W.plainGet K C Str.empty=true
 hd:PySem.W.hasDictIn K C=true
 po:PySem.W.plainOver K C=true
 sa:PySem.W.findIn K (.ref C) "__setattr__"=some (some (.builtin "object.__setattr__"))
def GQ(K:PySem.W.Frag)(C:Addr)(f:Str):Prop:=PySem.W.findIn K (.ref C) f=some none
end L2
namespace L2
open PySem PySem.Spec PyProof.Rows
structure eQ (k:Nat) (A:Around):Prop where
 hd:A.handled=none
 dp:A.depth+3*k+5<recursionLimit
 un:A.units+16*k+200<cLine
theorem eQ.mono{j k:Nat}{A:Around}(r:eQ k A)(h:j<=k):eQ j A:=⟨r.hd,by have:=r.dp;omega,by have:=r.un;omega⟩
theorem eQ.deeper{k:Nat}{A:Around}(r:eQ (k+1) A)(env:Env):eQ k (A.deeper env):=
 ⟨r.hd,by have:=r.dp;show A.depth+1+3*k+5<_;omega,by have:=r.un;show A.units+3+16*k+200<_;omega⟩
theorem eQ.depth{k:Nat}{A:Around}(r:eQ k A):A.depth<recursionLimit:=by have:=r.dp;omega
theorem eQ.units{k:Nat}{A:Around}(r:eQ k A):A.units+64<cLine:=by have:=r.un;omega
noncomputable def Gj:TA:=fun _ H Q=>Q [] H
noncomputable def Gy(ta:TE)(tr:TA):TA:=fun σ H Q=>ta σ H fun x H1=>tr σ H1 fun xs H2=>Q (x::xs) H2
section
variable {X:Cx} {e:Expr} {es:List Expr} {te:TE} {t:TA} {pos:Pos}
theorem oB:PA X [] Gj:=fun _ _ _ _ H Q I h=>Calls.spliced_nil ⟨[],H,I,.nil,h⟩
theorem mX(ha:PE X e te)(hr:PA X es t)(hs:starEach (e::es) X.env=(false,eval e X.env)::starEach es X.env:=by rfl):PA X (e::es) (Gy te t):=by
 intro pos pins s σ H Q I h;rw[hs];show wpAny _ _ (spliced ((false,eval e X.env)::backTo pos (starEach es X.env))) _ _ s;refine Calls.spliced_cons (cL (ha pins s σ H _ I h) fun u s1 cq=>?_);obtain⟨x,H1,I1,r1,q1⟩:=cq;exact cL (hr pos pins s1 σ H1 _ I1 q1) fun us s2 cq=>by obtain⟨xs,H2,I2,r2,q2⟩:=cq;exact⟨x::xs,H2,I2,.cons r1 r2,q2⟩
def Mb(t:TA):TE:=fun σ H Q=>t σ H fun xs H1=>xs.length<=sizeLine/\∀p,H1 p=none->Q (.ref p) (upd H1 p (.tup xs))
def LD(t:TA):TE:=fun σ H Q=>t σ H fun xs H1=>xs.length<=sizeLine/\∀p,H1 p=none->Q (.ref p) (upd H1 p (.lst xs))
theorem Ag{x1}(h:PA X es t):PE X (.Tuple es x1 pos) (Mb t):=by
 intro pins s σ H Q I hq;refine wpAny_Tuple_spliced (cL (h pos pins s σ H _ I hq) fun us s1 ⟨xs,H1,I1,r,z,q⟩=>⟨by rw[<-r.length];exact z,?_⟩);have hf:H1 s1.heap.objs.size=none:=I1.cN.fresh (az _);refine⟨.ref s1.heap.objs.size,upd H1 s1.heap.objs.size (.tup xs),I1.laid (t':=s1.toks) (fun b u e=>ae _ e) (az _) ?_,rfl,q _ hf⟩;exact⟨z,us,r,⟨_,av _ rfl,rfl,_,rfl⟩⟩
theorem GP(h:PA X es t):PE X (.List es pos) (LD t):=by
 intro pins s σ H Q I hq;refine wpAny_List_spliced (cL (h pos pins s σ H _ I hq) fun us s1 ⟨xs,H1,I1,r,z,q⟩=>⟨by rw[<-r.length];exact z,?_⟩);have hf:H1 s1.heap.objs.size=none:=I1.cN.fresh (az _);refine⟨.ref s1.heap.objs.size,upd H1 s1.heap.objs.size (.lst xs),I1.laid (t':=s1.toks) (fun b u e=>ae _ e) (az _) ?_,rfl,q _ hf⟩;exact⟨z,us,0,r,av _ rfl⟩
end
noncomputable abbrev Sp:=List V->Hp->VK->XK->Prop
noncomputable abbrev qC:=List Env->Hp->Shared->XK->Value->Shared->Prop
structure rN (P:Program) (w:World) (K:PySem.W.Frag) (mg:Str->Option Value) (base:Heap) (A:Around) (outer:List Env) (s:Shared) (H:Hp):Prop where
 frames:A.frames=some outer
 mod:Mod K mg base
 bs:∀b o,base.get? b=some o->s.heap.get? b=some o/\H b=none
 uF:base.objs.size<=s.heap.objs.size
 jq:s.heap.FunFrames base outer
 vR:∀b∈pQ outer,H b=none
 cN:ip P w H s.heap
 bare:AllBare s.gens
def CE(outer:List Env)(P:Program)(w:World)(H:Hp)(s:Shared)(Q:VK)(u:Value)(s':Shared):Prop:=
 ∃v H',s'.os=s.os/\AllBare s'.gens/\Un (pQ outer) [] H H' s.heap s'.heap/\ip P w H' s'.heap/\RelV v u/\Q v H'
def CR(CX:qC)(outer:List Env)(P:Program)(w:World)(H:Hp)(s:Shared)(Q:VK)(E:XK)(r:Result)(s':Shared):Prop:=
 match r with
 | .ok (.ret u)=>CE outer P w H s Q u s'
 | .ok _=>False
 | .error e=>CX outer H s E e s'
structure ju (P:Program) (w:World) (K:PySem.W.Frag) (mg:Str->Option Value) (base:Heap) (CX:qC) (k:Nat) (f:Addr) (fd:FuncData) (ps:List Str) (sp:Sp):Prop where
 len:∀vs H Q E,sp vs H Q E->vs.length=ps.length
 run:∀(A:Around) (outer:List Env) (s:Shared) (H:Hp) (args:Args) (us:List Value) (vs:List V) (Q:VK) (E:XK),eQ k A->rN P w K mg base A outer s H->BindsTo s fd args (ps.zip us)->Vals vs us->sp vs H Q E->
  codeAny (model P w) A (.call (.ref f) args) (CR CX outer P w H s Q E) s
section
variable {X:Cx} {pins:List (Addr×Obj)} {σ:St} {H:Hp} {s s':Shared}
theorem Inv.FI(I:Inv X pins σ H s):rN X.prog X.w X.K X.mg X.base X.A X.stack s H:=
 ⟨I.ok.frames,I.ok.mod,I.bs,Nat.le_trans I.ok.uF I.sz,I.stack,I.mZ,I.cN,I.bare⟩
theorem Inv.after{Q:VK}{u:Value}(I:Inv X pins σ H s)(h:CE X.stack X.prog X.w H s Q u s'):EP X pins σ Q u s':=by
 obtain⟨v,H',os,bare,un,cN,r,q⟩:=h;obtain⟨hh,g,d,t,t4⟩:=s';obtain rfl:t4=s.os:=os;exact⟨v,H',I.call (h':=hh) (g':=g) (d':=d) (t':=t) (ch:=[]) un cN bare (fun b z=>absurd z (by simp)),r,q⟩
end
def MS(sp:Sp)(sT:List V)(E:XK)(t:TA):TE:=fun σ H Q=>t σ H fun vs H1=>sp (vs++sT) H1 Q E
def Binds(K:PySem.W.Frag)(fd:FuncData)(ps:List Str)(ds:List Value):Prop:=
 ∀(s:Shared) (us:List Value),K.In s.heap->(us++ds).length=ps.length->BindsTo s fd ⟨us,[]⟩ (ps.zip (us++ds))
theorem Binds.all{K:PySem.W.Frag}{fd:FuncData}{ps:List Str}(h:∀us:List Value,us.length=ps.length->bindArgs fd ⟨us,[]⟩=pure (ps.zip us)):Binds K fd ps []:=fun s us _ hl=>by
 rw[List.append_nil] at hl ⊢;exact .of_eq (h us hl)
def B4(CX:qC)(X:Cx)(E:XK):Prop:=∀(pins:List (Addr×Obj)) (σ:St) (H:Hp) (s:Shared) (e:Value) (s':Shared),Inv X pins σ H s->CX X.stack H s E e s'->X.xe e s'
section
variable {X:Cx} {CX:qC} {k:Nat} {f C:Addr} {fd:FuncData} {ps:List Str} {sp:Sp} {sT:List V} {ds:List Value} {E:XK} {x m:Str} {p pos apos:Pos} {e o:Expr} {es:List Expr} {ta:TE} {t:TA}
theorem Nw{pins:List (Addr×Obj)}{σ:St}{H:Hp}{s:Shared}{Q:VK}{us:List Value}{vs:List V}(F:ju X.prog X.w X.K X.mg X.base CX k f fd ps sp)(hr:eQ k X.A)(hb:Binds X.K fd ps ds)(hd:Vals sT ds)(hx:B4 CX X E)
  (I:Inv X pins σ H s) (r:Vals vs us) (h:sp (vs++sT) H Q E):wpAny (model X.prog X.w) X.A (call (.ref f) us) (EP X pins σ Q) X.xe s:=by
 have r2:Vals (vs++sT) (us++ds):=r.append hd;have hl:(us++ds).length=ps.length:=by rw[<-r2.length];exact F.len _ _ _ _ h
 refine wpAny_call (codeAny_mono (F.run X.A X.stack s H ⟨us,[]⟩ (us++ds) (vs++sT) Q E hr I.FI (hb s us I.nT hl) r2 h) fun r s' hq=>?_);cases r with
 | error e=>exact hx pins σ H s e s' I hq
 | ok fl=>
  cases fl with
  | ret u=>exact I.after hq
  | next=>exact False.elim hq
  | brk=>exact False.elim hq
  | cont=>exact False.elim hq
theorem OK(F:ju X.prog X.w X.K X.mg X.base CX k f fd ps sp)(hr:eQ k X.A)(hg:Gl X x)(hm:X.mg x=some (.ref f))(hk:PySem.W.keepIn X.K (.ref f)=true)(hb:Binds X.K fd ps ds)(hd:Vals sT ds)(hx:B4 CX X E)
  (ha:PA X (e::es) t) (nZ:(x==("__debug__":Str))=false:=by decide) (he:starEach (e::es) X.env=(false,eval e X.env)::starEach es X.env:=by rfl) (jc:(backTo pos (starEach es X.env)).any (·.1)=false:=by rfl) :
  PE X (.Call (.Name x p) (e::es) [] pos) (MS sp sT E t):=by
 intro pins s σ H Q I h;refine wpAny_Call_Name_kw (OT I hg hm ?_ nZ);refine PySem.W.callWith_K (h₀:=X.base) I.ok.mod.Ek hk (cL (ha pos pins s σ H _ I h) fun us s1 cq=>?_) he jc;obtain⟨vs,H1,I1,r,q⟩:=cq;refine⟨I1.nT,?_⟩;exact Nw F hr hb hd hx I1 r q
end
def PK(X:Cx)(yf:List Keyword)(t:TA):Prop:=
 ∀(pos:Pos) (pins:List (Addr×Obj)) (s:Shared) (σ:St) (H:Hp) (Q:List V->Hp->Prop),Inv X pins σ H s->t σ H Q->wpAny (model X.prog X.w) X.A (evalAll ((backToKw pos (keywordEach yf X.env)).map (·.2))) (AP X pins σ Q) X.xe s
section
variable {X:Cx} {CX:qC} {k:Nat} {f C:Addr} {fd:FuncData} {ps ks:List Str} {sp:Sp} {E:XK} {x m:Str} {p pos apos Ej:Pos} {e o:Expr} {es:List Expr} {yf:List Keyword} {te ta:TE} {t tk:TA} {nm:Option Str}
theorem Nv:PK X [] Gj:=fun _ _ _ _ H Q I h=>wpAny_evalAll_nil ⟨[],H,I,.nil,h⟩
theorem OJ(ha:PE X e te)(hr:PK X yf t):PK X (⟨nm,e,Ej⟩::yf) (Gy te t):=by
 intro pos pins s σ H Q I h;show wpAny _ _ (evalAll ((do let v <-eval e X.env;standAt pos;pure v)::(backToKw pos (keywordEach yf X.env)).map (·.2))) _ _ s;refine wpAny_evalAll_cons (aa (cL (ha pins s σ H _ I h) fun u s1 cq=>?_));obtain⟨x,H1,I1,r1,q1⟩:=cq;refine aa (wpAny_standAt (ai ?_));exact cL (hr pos pins s1 σ H1 _ I1 q1) fun us s2 cq=>by obtain⟨xs,H2,I2,r2,q2⟩:=cq;exact⟨x::xs,H2,I2,.cons r1 r2,q2⟩
variable {g:List Value->List Value->List Value} {gV:List V->List V->List V}
end
structure ck (N P:List Str) (sc:Scope):Prop where
 kind:sc.kind=.function
 co:sc.isCoroutine=false
 gen:sc.isGenerator=false
 nd:N.Nodup
 pre:N.take P.length=P
 par:∀x∈P,sc.names.lookup x=some .local\/sc.names.lookup x=some .cell
 t8:∀y∈sc.names,y.2≠.free
theorem Jw{kindOf:Str->Option NameKind}{x:Str}:∀{binds:List (Str×Value)} {m:Str->Option Value},(∀v,(x,v)∉binds)->bindL kindOf binds m x=m x
 | [],_,_=>rfl
 | (n,v)::r,m,h=>by
  unfold bindL;rw[Jw fun w hw=>h w (aB _ hw)];split
  ·have:x≠n:=by rintro rfl;exact h v bj
   simp[this]
  ·rfl
theorem Jv{kindOf:Str->Option NameKind}{x:Str}:∀{binds:List (Str×Value)} {m:Str->Option Value},(∀v,(x,v)∉binds)->bindC kindOf binds m x=m x
 | [],_,_=>rfl
 | (n,v)::r,m,h=>by
  unfold bindC;rw[Jv fun w hw=>h w (aB _ hw)];split
  ·rfl
  ·have:x≠n:=by rintro rfl;exact h v bj
   simp[this]
theorem Ju{kindOf:Str->Option NameKind}{x:Str}{v:Value}:∀{P:List Str} {vs:List Value} {i:Nat} {m:Str->Option Value},P.Nodup->P[i]?=some x->vs[i]?=some v->kindOf x=some .local->
  bindL kindOf (P.zip vs) m x=some v
 | [],_,_,_,_,h,_,_=>by simp at h
 | _::_,[],_,_,_,_,h,_=>by simp at h
 | p::P,w::vs,0,m,nd,h1,h2,hk=>by
  simp at h1 h2;subst h1;subst h2;show bindL kindOf ((p,w)::P.zip vs) m p=_;unfold bindL;rw[Jw fun v hv=>(aL.mp nd).1 (List.of_mem_zip hv).1,if_pos hk];simp
 | p::P,w::vs,i+1,m,nd,h1,h2,hk=>by
  show bindL kindOf ((p,w)::P.zip vs) m x=_;unfold bindL;exact Ju (i:=i) (aL.mp nd).2 (by simpa using h1) (by simpa using h2) hk
theorem Jt{kindOf:Str->Option NameKind}{x:Str}{v:Value}:∀{P:List Str} {vs:List Value} {i:Nat} {m:Str->Option Value},P.Nodup->P[i]?=some x->vs[i]?=some v->kindOf x≠some .local->
  bindC kindOf (P.zip vs) m x=some v
 | [],_,_,_,_,h,_,_=>by simp at h
 | _::_,[],_,_,_,_,h,_=>by simp at h
 | p::P,w::vs,0,m,nd,h1,h2,hk=>by
  simp at h1 h2;subst h1;subst h2;show bindC kindOf ((p,w)::P.zip vs) m p=_;unfold bindC;rw[Jv fun v hv=>(aL.mp nd).1 (List.of_mem_zip hv).1,if_neg hk];simp
 | p::P,w::vs,i+1,m,nd,h1,h2,hk=>by
  show bindC kindOf ((p,w)::P.zip vs) m x=_;unfold bindC;exact Jt (i:=i) (aL.mp nd).2 (by simpa using h1) (by simpa using h2) hk
noncomputable def j7(N:List Str)(vs:List V):St:=vs.map some++List.replicate (N.length-vs.length) none
noncomputable def qc(CX:qC)(P:Program)(w:World)(K:PySem.W.Frag)(mg:Str->Option Value)(base:Heap)(N:List Str)(qual:Str)(scope:Scope)(f:Addr)(cd:Value)(A:Around)(outer:List Env)(s:Shared)(H:Hp)(E:XK):Cx where
 prog:=P
 w:=w
 K:=K
 mg:=mg
 base:=base
 A:=A.deeper (envOfC qual scope s.heap.objs.size f cd)
 N:=N
 eF:=s
 pU:=H
 env:=envOfC qual scope s.heap.objs.size f cd
 outer:=outer
 stack:=envOfC qual scope s.heap.objs.size f cd::outer
 ex:=[]
 calm:=true
 fn:=fun _=>true
 pn:=[]
 xe:=fun e s'=>wpAny (model P w) (A.deeper (envOfC qual scope s.heap.objs.size f cd)) (leaving (envOfC qual scope s.heap.objs.size f cd) e) (fun _ DW=>CX outer H s E e DW) (fun e' DW=>CX outer H s E e' DW) s'
theorem IP{sc:Scope}{n:Nat}{x:Str}(h:sc.names.lookup x=some .cell):∃c,(cellsFrom n sc.names []).lookup x=some c:=by
 have q:=PySem.W.cellsFrom_some sc.names n [] (.inl h);exact Option.isSome_iff_exists.mp q
theorem RO{CX:qC}{P:Program}{w:World}{K:PySem.W.Frag}{mg:Str->Option Value}{base:Heap}{N ps:List Str}{qual:Str}{scope:Scope}{f:Addr}{cd:Value}{A:Around}{outer:List Env}{s s1:Shared}{H:Hp}{E:XK}{us:List Value}{vs:List V}
  (S:ck N ps scope) (hd:A.handled=none) (e0:rN P w K mg base A outer s H) (hl:vs.length=ps.length) (r:Vals vs us)
  (x:InCallC s s.heap.objs.size (bindL (envOfC qual scope s.heap.objs.size f cd).kindOf (ps.zip us) fun _=>none) (cellsFrom (s.heap.objs.size+1) scope.names []) (bindC (envOfC qual scope s.heap.objs.size f cd).kindOf (ps.zip us) fun _=>none) s1) :
  Inv (qc CX P w K mg base N qual scope f cd A outer s H E) [] (j7 N vs) H s1:=by
 have jc:ps.length<=N.length:=by have:=congrArg List.length S.pre;rw[aV] at this;omega
 obtain⟨h1,tk,rfl,hk⟩:=x.done;have ya:∀b:Addr,b∉(qc CX P w K mg base N qual scope f cd A outer s H E).ex:=fun b z=>absurd (show b∈([]:List Addr) from z) (by simp)
 refine⟨⟨e0.mod,S.kind,rfl,rfl,az _,fun y z c h1 h2=>?_,fun y hy=>?_,fun y c _ h=>?_,fun _=>hd,Around.frames_deeper e0.frames,.inr ⟨rfl,rfl⟩,fun b z=>absurd z (ya b),e0.bs,e0.uF,fun b _ _=>ya b,fun b z=>absurd z (ya b),e0.jq,e0.vR⟩,
  rfl,e0.bare,Un.kept hk,⟨_,x.toInCall.ns,fun i y v h1 h2 h3=>?_⟩,fun y c h=>⟨_,x.cell y c h⟩,e0.cN.fresh (az _),fun y c h=>?_,fun p hp=>absurd (show p∈([]:List (Addr×Obj)) from hp) (by simp),e0.cN.kept hk,?_⟩
 ·exact name_of_addr x.apart (PySem.mem_of_lookup h1) (PySem.mem_of_lookup h2)
 ·have hy:scope.names.lookup y=some .cell\/scope.names.lookup y=some .free:=hy;rcases hy with hy | hy
  ·exact IP hy
  ·exact absurd rfl (S.t8 _ (PySem.mem_of_lookup hy))
 ·exact Nat.le_of_lt (x.above y c (PySem.mem_of_lookup h))
 ·have hi:i<vs.length:=by
   unfold j7 at h2;by_cases hi:i<vs.length
   ·exact hi
   ·rw[List.getElem?_append_right (by simpa using hi)] at h2;rw[List.getElem?_replicate] at h2;split at h2<;>cases h2
  have ha:vs[i]?=some v:=by
   unfold j7 at h2;rw[List.getElem?_append_left (by simpa using hi),ao] at h2;cases e:vs[i]? with
   | none=>rw[e] at h2;cases h2
   | some a=>rw[e] at h2;cases h2;rfl
  obtain⟨u,hu,rv⟩:=r.get ha;have hp:ps[i]?=some y:=by
   rw[<-S.pre,List.getElem?_take_of_lt (by omega)];exact h1
  have J9:ps.Nodup:=by rw[<-S.pre];exact S.nd.sublist (List.take_sublist _ _)
  refine⟨u,rv,?_⟩;rcases S.par y (ay hp) with k | k
  ·exact .inl ⟨k,Ju J9 hp hu k⟩
  ·obtain⟨c,e⟩:=IP (n:=s.heap.objs.size+1) k;refine .inr ⟨.inl k,c,e,?_⟩;have q:=x.cell y c e;rw[Jt J9 hp hu (by show scope.names.lookup y≠_;rw[k];decide)] at q;exact q
 ·exact e0.cN.fresh (Nat.le_of_lt (x.above y c (PySem.mem_of_lookup h)))
 ·unfold j7;show _=N.length;rw[a9,af,List.length_replicate];omega
theorem L6{CX:qC}{P:Program}{w:World}{K:PySem.W.Frag}{mg:Str->Option Value}{base:Heap}{k:Nat}{f:Addr}{name qual:Str}{params:Arguments}{body:List Stmt}{scope:Scope}{dV kV doc pm cT ct oc:Value}{an od:Option Addr}
  {ph:Array (Option Value)} {N ps:List Str} {sp:Sp} (lk:K.lookup f=some ⟨oc,od,.func (PySem.W.fnOf name qual params body scope dV kV doc pm an cT ct),ph⟩) (fi:PySem.W.codeIn K cT qual=true) (S:ck N ps scope)
  (len:∀vs H Q E,sp vs H Q E->vs.length=ps.length)
  (pO:∀(A:Around) (outer:List Env) (s:Shared) (H:Hp) (vs:List V) (Q:VK) (E:XK),eQ k (A.deeper (envOfC qual scope s.heap.objs.size f cT))->sp vs H Q E->
   ∃t,ny (qc CX P w K mg base N qual scope f cT A outer s H E) body t/\t { nx:=fun _ H'=>Q .non H',rt:=Q } (j7 N vs) H) :
  ju P w K mg base CX (k+1) f (PySem.W.fnOf name qual params body scope dV kV doc pm an cT ct) ps sp:=by
 refine⟨len,fun A outer s H args us vs Q E hr e0 hb r vF=>?_⟩;have hl:=len _ _ _ _ vF;have KX:K.In s.heap:=e0.mod.Ek.keeps fun b o e=>(e0.bs b o e).1
 have lim:s.heap.NoLimit:=e0.mod.nolimit.keeps fun b o e=>(e0.bs b o e).1
 have nh:∀y∈ps.zip us,scope.names.lookup y.1=some .local\/(scope.names.lookup y.1=some .cell/\((cellsFrom (s.heap.objs.size+1) scope.names []).lookup y.1).isSome=true):=fun⟨n,v⟩ hy=>by
  rcases S.par n (List.of_mem_zip hy).1 with q | q
  ·exact .inl q
  ·exact .inr ⟨q,PySem.W.cellsFrom_some _ _ _ (.inl q)⟩
 refine codeAny_call_function hr.depth (KX _ _ lk) rfl S.co S.gen rfl (PySem.W.codeRec_of KX fi) (hb _ _ _ _ ?_);refine wpAny_newFunctionEnv_cells S.kind nh fun env he s1 x=>?_
 subst he;refine⟨lim.keeps x.toInCall.keep,codeAny_func ?_⟩;obtain⟨t,ht,hq⟩:=pO A outer s H vs Q E (hr.deeper _) vF;have I:Inv (qc CX P w K mg base N qual scope f cT A outer s H E) [] (j7 N vs) H s1:=RO S hr.hd e0 hl r x;refine wpAny_mono (ht [] s1 (j7 N vs) H _ I hq) (fun fl s' hs=>?_) fun e s' hs=>hs
 have fin:∀{cF:St} {H':Hp} {v:V} {u:Value},Inv (qc CX P w K mg base N qual scope f cT A outer s H E) [] cF H' s'->RelV v u->Q v H'->CE outer P w H s Q u s':=
  fun{cF H' v u} J rv q=>⟨v,H',J.os,J.bare,J.base,J.cN,rv,q⟩
 cases fl with
 | ret u=>
  obtain⟨v,cF,H',J,rv,q⟩:=hs;exact fin J rv q
 | next=>
  obtain⟨cF,H',J,q⟩:=hs;exact fin (v:=V.non) (u:=Value.none) J rfl q
 | brk=>
  obtain⟨_,_,_,q⟩:=hs;exact False.elim q
 | cont=>
  obtain⟨_,_,_,q⟩:=hs;exact False.elim q
end L2
namespace L2
open PySem PySem.Spec PyProof.Rows
section
variable {X:Cx} {x:Str} {p pos:Pos} {e:Expr} {es:List Expr} {t:TA} {id T:String} {r:List V->Hp->VK->Prop}
def DR(r:List V->Hp->VK->Prop)(t:TA):TE:=fun σ H Q=>t σ H fun vs H1=>r vs H1 Q
theorem CQ(hc:c8 X (.builtin id) r)(hg:Gl X x)(hm:X.mg x=none)(hv:bootBuiltins x=some (.builtin id))(ha:PA X (e::es) t)(hn:x≠"__name__":=by decide)(nZ:(x==("__debug__":Str))=false:=by decide)
  (he:starEach (e::es) X.env=(false,eval e X.env)::starEach es X.env:=by rfl) (jc:(backTo pos (starEach es X.env)).any (·.1)=false:=by rfl):PE X (.Call (.Name x p) (e::es) [] pos) (DR r t):=by
 intro pins s σ H Q I h;refine wpAny_Call_Name_kw (qh I hg hm hv ?_ hn nZ);exact PyProof.Rows.callWith_builtin1 (cL (ha pos pins s σ H _ I h) fun us s1 cq=>by obtain⟨vs,H1,I1,r1,q1⟩:=cq;exact hc pins s1 σ H1 vs us Q I1 r1 q1) he jc
theorem RN(hc:c8 X (.type T) r)(hg:Gl X x)(hm:X.mg x=none)(hv:bootBuiltins x=some (.type T))(ha:PA X (e::es) t)(hn:x≠"__name__":=by decide)(nZ:(x==("__debug__":Str))=false:=by decide)
  (he:starEach (e::es) X.env=(false,eval e X.env)::starEach es X.env:=by rfl) (jc:(backTo pos (starEach es X.env)).any (·.1)=false:=by rfl):PE X (.Call (.Name x p) (e::es) [] pos) (DR r t):=by
 intro pins s σ H Q I h;refine wpAny_Call_Name_kw (qh I hg hm hv ?_ hn nZ);exact PyProof.Rows.callWith_type1 (cL (ha pos pins s σ H _ I h) fun us s1 cq=>by obtain⟨vs,H1,I1,r1,q1⟩:=cq;exact hc pins s1 σ H1 vs us Q I1 r1 q1) he jc
end
end L2
namespace HT
open PySem PyProof.Rows
noncomputable def lexLt:List Int->List Int->Bool
 | [],[]=>false
 | [],_::_=>true
 | _::_,[]=>false
 | x::xs,y::ys=>if x=y then lexLt xs ys else decide (x<y)
theorem mx(x y:Int)(xs ys:List Int):lexLt (x::xs) (y::ys)=if x=y then lexLt xs ys else decide (x<y):=rfl
theorem QA(A:Around)(s:Shared)(a:Int)(t:Tok)(c:Int)(u:Tok):∃e,SeqAt.EqAt A s (.int a t) (.int c u) e/\(e=true↔a=c):=
 ⟨(a==c),SeqAt.EqAt.int_int a t c u,by simp⟩
theorem pf(A:Around)(s:Shared)(a:Int)(t:Tok)(c:Int)(u:Tok)(prog:Program)(w:World)(E:Value->Shared->Prop)(Q:Value->Shared->Prop)(h:Q (.bool (decide (a<c))) s) :
  wpAny (model prog w) A (richCompare .Lt (.int a t) (.int c u)) Q E s:=
 (PyProof.Rows.lt_int h:wpAny (model prog w) A (compareOp .Lt (.int a t) (.int c u)) Q E s)
section
variable {prog:Program} {w:World} {A:Around} {E:Value->Shared->Prop} {s:Shared}
noncomputable def dq(n d:Nat):Option Int->Nat
 | none=>d
 | some v=>if v<0 then(v+(n:Int)).toNat else min v.toNat n
theorem iz(n d:Nat)(hd:d<=n)(o:Option Int):dq n d o<=n:=by
 cases o with
 | none=>exact hd
 | some v=>
  show(if v<0 then(v+(n:Int)).toNat else min v.toNat n)<=n;by_cases hv:v<0
  ·rw[if_pos hv];omega
  ·rw[if_neg hv];exact Nat.min_le_right _ _
theorem kn(v:Int)(n d:Nat):(if v<0 then max (v+(n:Int)) 0 else min v (n:Int))=((dq n d (some v):Nat):Int):=by
 show(if v<0 then max (v+(n:Int)) 0 else min v (n:Int))=(((if v<0 then(v+(n:Int)).toNat else min v.toNat n):Nat):Int)
 by_cases hv:v<0
 ·simp only[if_pos hv];omega
 ·simp only[if_neg hv];omega
theorem R5(lo hi:Option Int)(n:Nat):Builtin.Slice.sliceAdjust lo hi 1 (n:Int)=(((dq n 0 lo:Nat):Int),((dq n n hi:Nat):Int)):=by
 have h1:¬((1:Int)<0):=by omega
 unfold Builtin.Slice.sliceAdjust;simp only[h1,bE];refine Prod.ext ?_ ?_
 ·cases lo with
  | none=>rfl
  | some v=>exact kn v n 0
 ·cases hi with
  | none=>rfl
  | some v=>exact kn v n n
theorem R4(i j:Nat):Builtin.Slice.slicePlaces (i:Int) (j:Int) 1=j-i:=by
 unfold Builtin.Slice.slicePlaces;have h1:(1:Int)>0:=by omega
 simp only[h1,bO,Int.ediv_one];split<;>omega
theorem JF{v:Value}{o:Option Int}{Q:Option Int->Shared->Prop}(p:IsPart v o)(h:Q o s):wpAny (model prog w) A (Builtin.Slice.slicePartIndex v) Q E s:=by
 cases p with
 | none=>exact slicePart_none h
 | int i t=>exact slicePart_int h
theorem UN{sl:Addr}{vl vu:Value}{lo hi:Option Int}{n:Nat}{Q:Int×Int×Nat->Shared->Prop}(hs:s.heap.IsSliceOf sl vl vu .none)(pl:IsPart vl lo)(pu:IsPart vu hi)
  (h:Q (((dq n 0 lo:Nat):Int),1,dq n n hi-dq n 0 lo) s):wpAny (model prog w) A (Builtin.Slice.sliceApplied (.ref sl) (pure (n:Int))) Q E s:=by
 obtain⟨os,yE,Bl,kM⟩:=id hs;unfold Builtin.Slice.sliceApplied Builtin.Slice.sliceFields;refine aa (aa (wpAny_field yE kM (x:=vl) rfl (aa (wpAny_field yE kM (x:=vu) rfl (aa (wpAny_field yE kM (x:=.none) rfl (ai ?_)))))));refine aa (slicePart_none ?_);show wpAny _ _ (if ((1:Int)==0)=true then _ else _) _ _ s;rw[if_neg (by decide)];refine aa (JF pl (aa (JF pu (aa (ai ?_)))));show wpAny _ _ (match Builtin.Slice.sliceAdjust lo hi 1 (n:Int) with | (lo,hi)=>pure (lo,(1:Int),Builtin.Slice.slicePlaces lo hi 1)) _ _ s;rw[R5 lo hi n];show wpAny _ _ (pure (((dq n 0 lo:Nat):Int),(1:Int),Builtin.Slice.slicePlaces ((dq n 0 lo:Nat):Int) ((dq n n hi:Nat):Int) 1)) _ _ s;rw[R4];exact ai h
theorem Qz(xs:Array Value)(i k:Nat):((List.range k).filterMap fun(m:Nat)=>xs[((i:Int)+(m:Int)*1).toNat]?).toArray=((xs.toList.drop i).take k).toArray:=by
 have e:(fun(m:Nat)=>xs[((i:Int)+(m:Int)*1).toNat]?)=fun m=>xs[i+m]?:=by
  funext m
  have:((i:Int)+(m:Int)*1).toNat=i+m:=by omega
  rw[this]
 rw[e];have:=pick_run xs i k;rw[List.filterMap_map] at this;have e2:((fun x=>xs[x]?)∘fun x=>i+x)=fun m=>xs[i+m]?:=rfl
 rw[e2] at this;rw[this]
theorem ij{t sl:Addr}{items:Array Value}{vl vu:Value}{lo hi:Option Int}{Q:Value->Shared->Prop}(ht:IsTup s.heap t items)(hs:s.heap.IsSliceOf sl vl vu .none)(pl:IsPart vl lo)(pu:IsPart vu hi)
  (hw:¬(dq items.size 0 lo=0/\dq items.size items.size hi=items.size))
  (h:Q (.ref s.heap.objs.size) { s with heap:=s.heap.push { cls:=.type "tuple",data:=.seq ((items.toList.drop (dq items.size 0 lo)).take (dq items.size items.size hi-dq items.size 0 lo)).toArray } })
  (hsz:items.size<=sizeLine):wpAny (model prog w) A (getItem (.ref t) (.ref sl)) Q E s:=by
 have m7:sizeOk (.seq ((items.toList.drop (dq items.size 0 lo)).take (dq items.size items.size hi-dq items.size 0 lo)).toArray):=by
  show((items.toList.drop (dq items.size 0 lo)).take (dq items.size items.size hi-dq items.size 0 lo)).toArray.size<=sizeLine;rw[aC,aV,List.length_drop,aT];omega
 have hj:dq items.size items.size hi<=items.size:=iz _ _ (az _) hi;obtain⟨os,yE,Bl,kM⟩:=id hs;have WU:s.TypeIs (.ref sl) "slice":=⟨os,yE,Bl⟩
 unfold getItem;try with_reducible refine bA ?_
 first | refine aa (ai ?_) | skip
 refine aa (wpAny_sequenceKey ht.typeIs (by decide) ?_);refine aa (wpAny_callSpecial?_slot (name:=Str.ofString "__getitem__") ht.typeIs PyProof.Rows.slot_tuple_getitem
  (wpAny_call_entry PyProof.Rows.slot_tuple_getitem ht.typeIs entry_tuple_getitem ?_ (args_tuple_getitem _ _)))
 show wpAny _ _ (Builtin.Tuple.tupleItemsOf (.ref t) >>= _) _ _ s;refine aa (tupleItemsOf_ ht ?_);refine aa (wpAny_typeOf WU ?_);rw[if_pos (by decide)];refine aa (UN hs pl pu ?_);have jF:¬((((dq items.size 0 lo:Nat):Int)==0&&(1:Int)==1&&(dq items.size items.size hi-dq items.size 0 lo)==items.size)=true):=by
  intro q;rw[bF,bF] at q;have q1:((dq items.size 0 lo:Nat):Int)=0:=eq_of_beq q.1.1;have q2:dq items.size items.size hi-dq items.size 0 lo=items.size:=eq_of_beq q.2;exact hw ⟨by omega,by omega⟩
 show wpAny _ _ (if (((dq items.size 0 lo:Nat):Int)==0&&(1:Int)==1&&(dq items.size items.size hi-dq items.size 0 lo)==items.size)=true then _ else _) _ _ s;rw[if_neg jF,Qz];first
  | exact aa (m:=Builtin.Tuple.tupleExact _) (bG (ai ⟨_,rfl,ai h⟩) m7)
  | exact aa (m:=Builtin.Tuple.tupleExact _) (bG (aa (ai (ai ⟨_,rfl,ai h⟩))) m7)
  | exact aa (aa (m:=Builtin.Tuple.tupleExact _) (bG (ai (ai ⟨_,rfl,ai h⟩)) m7))
  | exact aa (aa (m:=Builtin.Tuple.tupleExact _) (bG (ai ⟨_,rfl,ai h⟩) m7))
end
end HT
namespace L2
open PySem PySem.Spec PyProof.Rows
noncomputable abbrev TO:=St->Hp->(Option Int->Hp->Prop)->Prop
def PO(X:Cx)(e:Option Expr)(t:TO):Prop:=
 ∀(pins:List (Addr×Obj)) (s:Shared) (σ:St) (H:Hp) (Q:Option Int->Hp->Prop),Inv X pins σ H s->t σ H Q->
  wpAny (model X.prog X.w) X.A (evalPart e X.env) (fun u s'=>∃o H',Inv X pins σ H' s'/\IsPart u o/\Q o H') X.xe s
noncomputable def OI:TO:=fun _ H Q=>Q none H
noncomputable def L5(t:TE):TO:=fun σ H Q=>t σ H fun x H1=>∃i,x=.int i/\Q (some i) H1
theorem sh{ns:List Int}:∀{us:List Value},Vals (ns.map V.int) us->IntsAre us ns:=by
 induction ns with
 | nil=>intro us r;rw[List.map_nil] at r;cases r;exact .nil
 | cons n ns ih=>
  intro us r;rw[au] at r;cases r with
  | cons r1 r2=>
   obtain⟨t,e⟩:=r1;subst e;exact .cons n t (ih r2)
section
variable {X:Cx} {e:Expr} {te:TE} {lo hi:Option Expr} {tl th:TO} {pos p2:Pos}
theorem O6:PO X none OI:=by
 intro pins s σ H Q I h;rw[evalPart_none];exact ai ⟨none,H,I,.none,h⟩
theorem O5(h:PE X e te):PO X (some e) (L5 te):=by
 intro pins s σ H Q I hw;rw[evalPart_some];refine cL (h pins s σ H _ I hw) fun u s1 cq=>?_
 obtain⟨x,H1,I1,r1,q1⟩:=cq;obtain⟨i,rfl,q⟩:=q1;obtain⟨t,rfl⟩:=r1;exact⟨some i,H1,I1,.int i t,q⟩
def sU(X:Cx)(r:V->Option Int->Option Int->Hp->VK->Prop):Prop:=
 ∀(pins:List (Addr×Obj)) (s:Shared) (σ:St) (H:Hp) (x:V) (v vl vu:Value) (lo hi:Option Int) (sl:Addr) (Q:VK),Inv X pins σ H s->RelV x v->s.heap.IsSliceOf sl vl vu .none->IsPart vl lo->IsPart vu hi->r x lo hi H Q->
  ∃T id,typeLookup (.type T) "__getitem__"=pure (some (.builtin id))/\s.TypeIs v T/\wpAny (model X.prog X.w) X.A (getItem v (.ref sl)) (EP X pins σ Q) X.xe s
theorem sU.or{r r':V->Option Int->Option Int->Hp->VK->Prop}(h:sU X r)(h':sU X r'):sU X (fun x lo hi H Q=>r x lo hi H Q\/r' x lo hi H Q):=by
 intro pins s σ H x v vl vu lo hi sl Q I rx hs pl pu q;rcases q with q | q
 ·exact h pins s σ H x v vl vu lo hi sl Q I rx hs pl pu q
 ·exact h' pins s σ H x v vl vu lo hi sl Q I rx hs pl pu q
def U4(r:V->Option Int->Option Int->Hp->VK->Prop)(te:TE)(tl th:TO):TE:=fun σ H Q=>te σ H fun x H1=>tl σ H1 fun l H2=>th σ H2 fun u H3=>r x l u H3 Q
theorem Qy{r:V->Option Int->Option Int->Hp->VK->Prop}(hr:sU X r)(he:PE X e te)(hl:PO X lo tl)(hu:PO X hi th):PE X (.Subscript e (.Slice lo hi none p2) pos) (U4 r te tl th):=by
 intro pins s σ H Q I h;refine Subscript_ (cL (he pins s σ H _ I h) fun v s1 cq=>?_);obtain⟨x,H1,I1,r1,q1⟩:=cq;refine wpAny_Slice (cL (hl pins s1 σ H1 _ I1 q1) fun vl s2 cq=>?_);obtain⟨l,H2,I2,pl,q2⟩:=cq;refine cL (hu pins s2 σ H2 _ I2 q2) fun vu s3 cq=>?_
 obtain⟨u,H3,I3,pu,q3⟩:=cq;rw[evalPart_none];refine ai ?_;have I4:Inv X pins σ H3 { s3 with heap:=s3.heap.push { cls:=.type "slice",data:=.fields #[vl,vu,.none] } }:=I3.kept (t':=s3.toks) fun b ob q=>ae _ q
 obtain⟨T,id,hT,ht,hg⟩:=hr pins { s3 with heap:=s3.heap.push { cls:=.type "slice",data:=.fields #[vl,vu,.none] } } σ H3 x v vl vu l u s3.heap.objs.size Q I4 r1 (Heap.IsSliceOf.new ..) pl pu q3;show wpAny (model X.prog X.w) X.A (subscriptTail e (.Slice lo hi none p2) v (.ref s3.heap.objs.size)) (EP X pins σ Q) X.xe { s3 with heap:=s3.heap.push { cls:=.type "slice",data:=.fields #[vl,vu,.none] } };exact tail_any (ops:=[.ref s3.heap.objs.size,v]) ht hT hg (by with_unfolding_all rfl)
noncomputable def pZ(xs:List V)(lo hi:Option Int):List V:=(xs.drop (HT.dq xs.length 0 lo)).take (HT.dq xs.length xs.length hi-HT.dq xs.length 0 lo)
theorem JG(xs:List V)(lo hi:Option Int):(pZ xs lo hi).length<=xs.length:=by
 unfold pZ;rw[aV,List.length_drop];omega
def LC(K:PySem.W.Frag):V->Option Int->Option Int->Hp->VK->Prop:=fun x lo hi H Q=>∃a xs,x=.ref a/\fQ K H a xs/\
 ¬(HT.dq xs.length 0 lo=0/\HT.dq xs.length xs.length hi=xs.length)/\∀p,H p=none->Q (.ref p) (upd H p (.tup (pZ xs lo hi)))
theorem Nu:sU X (LC X.K):=by
 intro pins s σ H x v vl vu lo hi sl Q I rx hs pl pu h;obtain⟨a,xs,rfl,hx,hw,q⟩:=h;cases rx;obtain⟨its,r,ht,hz⟩:=I.tuple hx;have hlen:its.toArray.size=xs.length:=by rw[aC];exact r.length.symm
 refine⟨"tuple",_,PyProof.Rows.slot_tuple_getitem.lookup,ht.typeIs,?_⟩;refine HT.ij ht hs pl pu (by rw[hlen];exact hw) ?_ (by rw[hlen];exact hz);rw[hlen];refine⟨.ref s.heap.objs.size,_,I.laid (t':=s.toks) (o:=.tup (pZ xs lo hi)) (fun b ob q=>ae _ q) (az _) ?_,rfl,q _ (I.cN.fresh (az _))⟩;exact⟨Nat.le_trans (JG xs lo hi) hz,_,(r.drop (HT.dq xs.length 0 lo)).take (HT.dq xs.length xs.length hi-HT.dq xs.length 0 lo),IsTup.new _ _⟩
end
end L2
namespace L2
open PySem PySem.Spec PyProof.Rows
noncomputable def kf(n:Nat)(i:Int):Option Nat:=if 0<=i then(if i<n then some i.toNat else none) else if -(n:Int)<=i then some (i+n).toNat else none
noncomputable def di{α:Type}(xs:List α)(i:Int):Option α:=(kf xs.length i).bind fun j=>xs[j]?
theorem HN{n:Nat}{i:Int}{j:Nat}(h:kf n i=some j):seqIndex? i n=some j/\j<n/\-(n:Int)<=i/\i<n:=by
 unfold kf at h;by_cases h0:0<=i
 ·rw[if_pos h0] at h;by_cases h1:i<n
  ·rw[if_pos h1] at h;have e:i.toNat=j:=Option.some.inj h;exact⟨by rw[seqIndex_of h0 h1,e],by omega,by omega,h1⟩
  ·rw[if_neg h1] at h;cases h
 ·rw[if_neg h0] at h;by_cases h1:-(n:Int)<=i
  ·rw[if_pos h1] at h;have e:(i+n).toNat=j:=Option.some.inj h;exact⟨by rw[seqIndex_neg (by omega) h1,e],by omega,h1,by omega⟩
  ·rw[if_neg h1] at h;cases h
theorem tJ{α:Type}{xs:List α}{i:Int}{v:α}(h:di xs i=some v):∃j,seqIndex? i xs.length=some j/\xs[j]?=some v/\j<xs.length/\-(xs.length:Int)<=i/\i<xs.length:=by
 unfold di at h;cases e:kf xs.length i with
 | none=>rw[e] at h;cases h
 | some j=>
  rw[e] at h;obtain⟨h1,h2,h3,h4⟩:=HN e;exact⟨j,h1,h,h2,h3,h4⟩
theorem O4{α:Type}{xs:List α}{j:Nat}{v:α}(h:xs[j]?=some v):di xs (j:Int)=some v:=by
 have hj:j<xs.length:=(aj.mp h).1;have e:kf xs.length (j:Int)=some j:=by
  unfold kf;rw[if_pos (by omega),if_pos (by omega)];simp
 unfold di;rw[e];exact h
def wQ(b:Expr):Prop:=∀o i,subscripted b false o i=operate [o,i] (getItem o i)
def rM(X:Cx)(r:R2):Prop:=
 ∀(value slice:Expr) (pins:List (Addr×Obj)) (s:Shared) (σ:St) (H:Hp) (x y:V) (v u:Value) (Q:VK),Inv X pins σ H s->RelV x v->RelV y u->r x y H Q->
  subscripted slice false v u=operate [v,u] (getItem v u)->wpAny (model X.prog X.w) X.A (subscriptTail value slice v u) (EP X pins σ Q) X.xe s
def Lk(X:Cx)(id:String)(r:V->List V->Hp->VK->Prop):Prop:=
 ∀(pins:List (Addr×Obj)) (s:Shared) (σ:St) (H:Hp) (x:V) (xs:List V) (v:Value) (us:List Value) (Q:VK),Inv X pins σ H s->RelV x v->Vals xs us->r x xs H Q->
  wpAny (model X.prog X.w) X.A (call (.builtin id) (v::us)) (EP X pins σ Q) X.xe s
section
variable {X:Cx} {a b:Expr} {ta tb:TE} {pos:Pos}
theorem rM.or{r r':R2}(h:rM X r)(h':rM X r'):rM X (fun x y H Q=>r x y H Q\/r' x y H Q):=by
 intro value slice pins s σ H x y v u Q I rx ry q hs;rcases q with q | q
 ·exact h value slice pins s σ H x y v u Q I rx ry q hs
 ·exact h' value slice pins s σ H x y v u Q I rx ry q hs
theorem wx{r:R2}(hr:rM X r)(ha:PE X a ta)(hb:PE X b tb)(hs:wQ b):PE X (.Subscript a b pos) (xS r ta tb):=by
 intro pins s σ H Q I h;exact Subscript_ (BA ha hb I h fun v u s2 x y H2 I2 rx ry q=>hr a b pins s2 σ H2 x y v u Q I2 rx ry q (hs _ _))
def Gi(K:PySem.W.Frag):R2:=fun x y H Q=>∃p xs i v,x=.ref p/\y=.int i/\dY K H p xs/\di xs i=some v/\Q v H
def Gh(K:PySem.W.Frag):R2:=fun x y H Q=>∃p xs i v,x=.ref p/\y=.int i/\fQ K H p xs/\di xs i=some v/\Q v H
def Gg:R2:=fun x y H Q=>∃z i c,x=.str z/\y=.int i/\z.length<=sizeLine/\di z.cps.toList i=some c/\Q (.str ⟨#[c]⟩) H
theorem ja:rM X (Gi X.K):=by
 intro value slice pins s σ H x y v u Q I rx ry h hs;obtain⟨p,xs,i,z,rfl,rfl,hq,he,q⟩:=h;cases rx;obtain⟨t,rfl⟩:=ry;obtain⟨its,r,pl,hz⟩:=I.list hq;obtain⟨j,h1,h2,h3,h4,h5⟩:=tJ he;obtain⟨w,ew,kK⟩:=r.get h2;have hl:=r.length;have hn:=u9;have fin:EP X pins σ Q w s:=⟨z,H,I,kK,q⟩
 by_cases h0:0<=i
 ·have hj:i.toNat=j:=by
   rw[seqIndex_of h0 h5] at h1;exact Option.some.inj h1
  exact item_listR pl.isList h0 (by omega) (by rw[hj];simpa using ew) fin hs
 ·have hj:(i+(its.toArray.size:Int)).toNat=j:=by
   rw[seqIndex_neg (by omega) h4] at h1;rw[aC,<-hl];exact Option.some.inj h1
  exact subscriptTail_builtinR (x:=w) pl.isList.typeIs slot_list_getitem.lookup
   (wpAny_getItem_list_neg (Q:=fun r s'=>r=w/\EP X pins σ Q r s') pl.isList (by omega) (by rw[aC]<;>omega) (by omega) (by rw[hj];simpa using ew) ⟨rfl,fin⟩) hs
theorem ug:rM X (Gh X.K):=by
 intro value slice pins s σ H x y v u Q I rx ry h hs;obtain⟨p,xs,i,z,rfl,rfl,hq,he,q⟩:=h;cases rx;obtain⟨t,rfl⟩:=ry;obtain⟨its,r,pl,hz⟩:=I.tuple hq;obtain⟨j,h1,h2,h3,h4,h5⟩:=tJ he;obtain⟨w,ew,kK⟩:=r.get h2;have hl:=r.length;have hn:=u9;have fin:EP X pins σ Q w s:=⟨z,H,I,kK,q⟩
 exact subscriptTail_builtinR (x:=w) pl.typeIs slot_tuple_getitem.lookup
  (getItem_tuple (j:=j) (Q:=fun r s'=>r=w/\EP X pins σ Q r s') pl (by omega) (by omega) (by rw[aC,<-hl];exact h1) (by simpa using ew) ⟨rfl,fin⟩) hs
theorem Nr:rM X Gg:=by
 intro value slice pins s σ H x y v u Q I rx ry h hs;obtain⟨z,i,c,rfl,rfl,hz,he,q⟩:=h;obtain⟨t,rfl⟩:=rx;obtain⟨t',rfl⟩:=ry;obtain⟨j,h1,h2,h3,h4,h5⟩:=tJ he;have hl:z.cps.toList.length=z.length:=by simp[Str.length]
 rw[hl] at h1 h4 h5;have hn:=u9
 exact tail_any (typeIs_str s z t) slot_str_getitem.lookup (getItem_str (c:=c) (by
  have e1:decide (i < -(2 ^ 63:Int))=false:=bz (by omega);have e2:decide (i>=2 ^ 63)=false:=bz (by omega)
  rw[e1,e2,Bool.or_false]) (by rw[h1];simpa using h2) ⟨.str ⟨#[c]⟩,H,I.tok _,⟨_,rfl⟩,q⟩) hs
def J1(K:PySem.W.Frag):R2:=fun x y H Q=>Gi K x y H Q\/Gh K x y H Q\/Gg x y H Q
theorem GO:rM X (J1 X.K):=ja.or (ug.or Nr)
theorem R3(its:List Value)(n j:Nat)(u:Value):Obj.mapSeq (·.setIfInBounds j u) { cls:=.type "list",data:=.seq its.toArray n }={ cls:=.type "list",data:=.seq (its.set j u).toArray n }:=by
 simp[Obj.mapSeq]
theorem Inv.lst{pins:List (Addr×Obj)}{σ:St}{H:Hp}{s:Shared}{p:Addr}{xs:List V}(I:Inv X pins σ H s)(h:H p=some (.lst xs)) :
  ∃(its:List Value) (n:Nat),Vals xs its/\s.heap.get? p=some { cls:=.type "list",data:=.seq its.toArray n }/\xs.length<=sizeLine:=by
 obtain⟨z,its,n,r,e⟩:=I.cN p _ h;exact⟨its,n,r,e,z⟩
theorem Inv.ua{pins:List (Addr×Obj)}{σ:St}{H:Hp}{s:Shared}{p:Addr}{xs ys:List V}{its its':List Value}{n n':Nat}{f:Obj->Obj}(I:Inv X pins σ H s)(h:H p=some (.lst xs))
  (ho:s.heap.get? p=some { cls:=.type "list",data:=.seq its.toArray n }) (hf:f { cls:=.type "list",data:=.seq its.toArray n }={ cls:=.type "list",data:=.seq its'.toArray n' }) (r:Vals ys its') (hz:ys.length<=sizeLine) (t:Nat) :
  Inv X pins σ (upd H p (.lst ys)) { s with heap:=s.heap.update p f,toks:=t }:=by
 have e:(s.heap.update p f).get? p=some { cls:=.type "list",data:=.seq its'.toArray n' }:=by
  rw[bS f ho (by rw[hf]<;>rfl),hf]
 refine I.write (x:=p) (e:=p) (by rw[h];trivial) (.inl rfl) (fun b u hb q=>(aU _ _ (Ne.symm hb)).trans q) ⟨_,e⟩ ?_;exact⟨hz,its',n',r,e⟩
def L4:V->V->V->Hp->(Hp->Prop)->Prop:=fun o i v H Q=>∃p xs k j,o=.ref p/\i=.int k/\H p=some (.lst xs)/\kf xs.length k=some j/\Q (upd H p (.lst (xs.set j v)))
theorem Qx:Gm X L4:=by
 intro pins s σ H o i v ov iv u Q I ro ri rv h;obtain⟨p,xs,k,j,rfl,rfl,hp,hj,q⟩:=h;cases ro;obtain⟨t,rfl⟩:=ri;obtain⟨its,n,r,ho,hz⟩:=I.lst hp;obtain⟨h1,h2,h3,h4⟩:=HN hj;have hl:=r.length;have hn:=u9;have I':Inv X pins σ (upd H p (.lst (xs.set j v))) { s with heap:=s.heap.update p (Obj.mapSeq (·.setIfInBounds j u)) }:=
  I.ua hp ho (R3 its n j u) (r.set rv j) (by rw[List.length_set];exact hz) s.toks
 by_cases h0:0<=k
 ·have hk:k.toNat=j:=by
   rw[seqIndex_of h0 h4] at h1;exact Option.some.inj h1
  exact PySem.W.ki_setAt ho h0 (by omega) (by rw[aC,<-hl];exact h4) (by rw[hk];exact⟨_,I',q⟩)
 ·have hk:(k+(its.toArray.size:Int)).toNat=j:=by
   rw[seqIndex_neg (by omega) h3] at h1;rw[aC,<-hl];exact Option.some.inj h1
  exact PySem.W.ki_setBack ho (by omega) (by rw[aC,<-hl];exact h3) (by omega) (by rw[hk];exact⟨_,I',q⟩)
theorem Tv(lo hi:Option Int)(n:Nat):(sliceBounds lo hi none n).1=((HT.dq n 0 lo:Nat):Int)/\(sliceBounds lo hi none n).2.1=((HT.dq n n hi:Nat):Int)/\(sliceBounds lo hi none n).2.2=1:=by
 refine⟨?_,?_,rfl⟩
 ·cases lo with
  | none=>simp[sliceBounds,HT.dq]
  | some i=>
   simp only[sliceBounds,HT.dq,Option.getD_none,show(1:Int)>0 by decide,bO];by_cases h:i<0
   ·simp only[h,bO]<;>omega
   ·simp only[h,bE]<;>omega
 ·cases hi with
  | none=>simp[sliceBounds,HT.dq]
  | some i=>
   simp only[sliceBounds,HT.dq,Option.getD_none,show(1:Int)>0 by decide,bO];by_cases h:i<0
   ·simp only[h,bO]<;>omega
   ·simp only[h,bE]<;>omega
theorem T9(its:List Value)(lo hi:Option Int):slicePick its.toArray lo hi none=((its.drop (HT.dq its.length 0 lo)).take (HT.dq its.length its.length hi-HT.dq its.length 0 lo)).toArray:=by
 obtain⟨h1,h2,h3⟩:=Tv lo hi its.toArray.size;unfold slicePick;rw[h1,h2,h3];simp only[sliceRange_one,pick_run,aC]<;>rfl
def LB(K:PySem.W.Frag):V->Option Int->Option Int->Hp->VK->Prop:=fun x lo hi H Q=>∃a xs,x=.ref a/\dY K H a xs/\∀p,H p=none->Q (.ref p) (upd H p (.lst (pZ xs lo hi)))
theorem qV:sU X (LB X.K):=by
 intro pins s σ H x v vl vu lo hi sl Q I rx hs pl pu h;obtain⟨a,xs,rfl,hx,q⟩:=h;cases rx;obtain⟨its,r,ht,hz⟩:=I.list hx;have hlen:=r.length;refine⟨"list",_,slot_list_getitem.lookup,ht.isList.typeIs,?_⟩;refine wpAny_getItem_list_slice ht.isList hs pl pu .none (by simp) ?_ (by rw[aC]<;>omega);rw[T9,<-hlen];refine⟨.ref s.heap.objs.size,_,I.laid (t':=s.toks) (o:=.lst (pZ xs lo hi)) (fun b ob q=>ae _ q) (az _) ?_,rfl,q _ (I.cN.fresh (az _))⟩;exact⟨Nat.le_trans (JG xs lo hi) hz,_,0,(r.drop (HT.dq xs.length 0 lo)).take (HT.dq xs.length xs.length hi-HT.dq xs.length 0 lo),av _ rfl⟩
noncomputable def zX:V->Bool
 | .non=>true
 | .bl _=>true
 | .int _=>true
 | .str _=>true
 | _=>false
noncomputable def FH:V->V->Bool
 | .non,.non=>true
 | .bl a,.bl b=>a==b
 | .bl a,.int b=>(if a then 1 else 0)==b
 | .int a,.bl b=>a==(if b then 1 else 0)
 | .int a,.int b=>a==b
 | .str a,.str b=>a==b
 | _,_=>false
theorem GN{A:Around}{s:Shared}{y x:V}{u v:Value}(ry:RelV y u)(rx:RelV x v)(fy:zX y=true)(fx:zX x=true):SeqAt.EqAt A s u v (FH y x):=by
 cases y with
 | non=>
  cases ry;cases x with
  | non=>cases rx;exact SeqAt.EqAt.same _
  | bl b=>cases rx;exact SeqAt.EqAt.none_bool b
  | int b=>obtain⟨t,rfl⟩:=rx;exact SeqAt.EqAt.none_int b t
  | str b=>obtain⟨t,rfl⟩:=rx;exact SeqAt.EqAt.none_str b t
  | _=>exact absurd (show false=true from fx) aG
 | bl a=>
  cases ry;cases x with
  | non=>cases rx;exact SeqAt.EqAt.bool_none a
  | bl b=>cases rx;exact SeqAt.EqAt.bool_bool a b
  | int b=>obtain⟨t,rfl⟩:=rx;exact SeqAt.EqAt.bool_int a b t
  | str b=>obtain⟨t,rfl⟩:=rx;exact SeqAt.EqAt.bool_str a b t
  | _=>exact absurd (show false=true from fx) aG
 | int a=>
  obtain⟨t',rfl⟩:=ry;cases x with
  | non=>cases rx;exact SeqAt.EqAt.int_none a t'
  | bl b=>cases rx;exact SeqAt.EqAt.int_bool a t' b
  | int b=>obtain⟨t,rfl⟩:=rx;exact SeqAt.EqAt.int_int a t' b t
  | str b=>obtain⟨t,rfl⟩:=rx;exact SeqAt.EqAt.int_str a t' b t
  | _=>exact absurd (show false=true from fx) aG
 | str a=>
  obtain⟨t',rfl⟩:=ry;cases x with
  | non=>cases rx;exact SeqAt.EqAt.str_none a t'
  | bl b=>cases rx;exact SeqAt.EqAt.str_bool a t' b
  | int b=>obtain⟨t,rfl⟩:=rx;exact SeqAt.EqAt.str_int a t' b t
  | str b=>obtain⟨t,rfl⟩:=rx;exact SeqAt.EqAt.str_str a t' b t
  | _=>exact absurd (show false=true from fx) aG
 | _=>exact absurd (show false=true from fy) aG
theorem il:c8 X (.builtin "len") (fun xs H Q=>∃p ys,xs=[.ref p]/\(dY X.K H p ys\/fQ X.K H p ys)/\Q (.int ys.length) H):=by
 intro pins s σ H xs us Q I r h;obtain⟨p,ys,rfl,hq,q⟩:=h;obtain⟨u,rfl,rx⟩:=j8 r;cases rx;have hn:=u9;rcases hq with hq | hq
 ·obtain⟨its,r',pl,hz⟩:=I.list hq;have hlen:=r'.length;exact Calls.call_len_list pl.isList (by simp only[aC]<;>omega) ⟨.int ys.length,H,I.tok _,⟨s.toks+1,by rw[aC,hlen]⟩,q⟩
 ·obtain⟨its,r',pl,hz⟩:=I.tuple hq;have hlen:=r'.length;exact len_tuple pl (by simp only[aC]<;>omega) ⟨.int ys.length,H,I.tok _,⟨s.toks+1,by rw[aC,hlen]⟩,q⟩
theorem Tu:c8 X (.builtin "len") (fun xs H Q=>∃z,xs=[.str z]/\z.length<=sizeLine/\Q (.int z.length) H):=by
 intro pins s σ H xs us Q I r h;obtain⟨z,rfl,hz,q⟩:=h;obtain⟨u,rfl,t,rfl⟩:=j8 r;have hn:=u9;exact len_str (by omega) ⟨.int z.length,H,I.tok _,⟨_,rfl⟩,q⟩
theorem c8.or{f:Value}{r r':List V->Hp->VK->Prop}(h:c8 X f r)(h':c8 X f r'):c8 X f (fun xs H Q=>r xs H Q\/r' xs H Q):=by
 intro pins s σ H xs us Q I rs q;rcases q with q | q
 ·exact h pins s σ H xs us Q I rs q
 ·exact h' pins s σ H xs us Q I rs q
theorem Tt:c8 X (.type "list") (fun xs H Q=>∃p ys,xs=[.ref p]/\(dY X.K H p ys\/fQ X.K H p ys)/\∀l,H l=none->Q (.ref l) (upd H l (.lst ys))):=by
 intro pins s σ H xs us Q I r h;obtain⟨p,ys,rfl,hq,q⟩:=h;obtain⟨u,rfl,rx⟩:=j8 r;cases rx;have fin:∀(its:List Value),Vals ys its->ys.length<=sizeLine->∀(h':Heap) (c':Nat),(∀b o',s.heap.get? b=some o'->h'.get? b=some o')->
   h'.get? s.heap.objs.size=some { cls:=.type "list",dict:=none,data:=.seq its.toArray c',slots:=#[] }->EP X pins σ Q (.ref s.heap.objs.size) { s with heap:=h' }:=fun its r' hz h' c' kp e=>
  ⟨.ref s.heap.objs.size,_,I.laid (t':=s.toks) kp (az _) (show cU X.prog X.w _ h' _ (.lst ys) from⟨hz,its,c',r',e⟩),rfl,q _ (I.cN.fresh (az _))⟩
 rcases hq with hq | hq
 ·obtain⟨its,r',pl,hz⟩:=I.list hq;have hlen:=r'.length;obtain⟨o,ho,hc,n,hd⟩:=pl.isList;exact call_list_seq p (.inl rfl) ho hc hd (fun h' c' kp e=>fin its r' hz h' c' kp e) (by simp only[aC]<;>omega)
 ·obtain⟨its,r',pl,hz⟩:=I.tuple hq;have hlen:=r'.length;obtain⟨o,ho,hc,n,hd⟩:=pl;exact call_list_seq p (.inr rfl) ho hc hd (fun h' c' kp e=>fin its r' hz h' c' kp e) (by simp only[aC]<;>omega)
def AW(K:PySem.W.Frag)(T:String)(x:V)(H:Hp):Prop:=match x with
 | .str _=>T="str"
 | .int _=>T="int"
 | .ref p=>(T="list"/\∃xs,dY K H p xs)\/(T="tuple"/\∃o,K.lookup p=some o/\o.cls=.type "tuple"/\o.dict=none)\/
   (T="dict"/\((∃kvs ep,H p=some (.dK kvs ep))\/∃kvs bs,H p=some (.dT kvs bs)))\/(T="set"/\∃S n,H p=some (.set S n))
 | _=>False
theorem Af{pins:List (Addr×Obj)}{σ:St}{H:Hp}{s:Shared}{T:String}{x:V}{v:Value}(I:Inv X pins σ H s)(r:RelV x v)(ty:AW X.K T x H) :
  s.TypeIs v T/\∀a,v=.ref a->∃ob,s.heap.get? a=some ob/\ob.dict=none:=by
 cases x with
 | str z=>
  obtain⟨t,rfl⟩:=r;cases (show T="str" from ty);exact⟨typeIs_str s z t,fun _ e=>nomatch e⟩
 | int i=>
  obtain⟨t,rfl⟩:=r;cases (show T="int" from ty);exact⟨typeIs_int s i t,fun _ e=>nomatch e⟩
 | ref p=>
  cases r;rcases ty with⟨rfl,xs,hq⟩ | ⟨rfl,o,hk,hc,hd⟩ | ⟨rfl,hk⟩ | ⟨rfl,S,n,hk⟩
  ·obtain⟨its,_,pl,_⟩:=I.list hq;refine⟨pl.isList.typeIs,fun a e=>?_⟩;cases e;obtain⟨o,n,e,c,hd,_⟩:=pl;exact⟨o,e,hd⟩
  ·refine⟨⟨o,I.nT p o hk,hc⟩,fun a e=>?_⟩;cases e;exact⟨o,I.nT _ o hk,hd⟩
  ·have z:∃o,s.heap.get? p=some o/\o.ExactDict:=by
    rcases hk with⟨kvs,ep,hk⟩ | ⟨kvs,bs,hk⟩
    ·obtain⟨_,_,_,_,o,_,e,ex,_⟩:=I.cN p _ hk;exact⟨o,e,ex⟩
    ·obtain⟨_,_,_,_,_,o,_,_,e,ex,_⟩:=I.cN p _ hk;exact⟨o,e,ex⟩
   obtain⟨o,e,ex⟩:=z;refine⟨⟨o,e,ex.1⟩,fun a e2=>?_⟩;cases e2;exact⟨o,e,ex.2.1⟩
  ·obtain⟨o,_,_,_,e,ex,_⟩:=I.cN p _ hk;refine⟨⟨o,e,ex.1⟩,fun a e2=>?_⟩;cases e2;exact⟨o,e,ex.2.1⟩
 | _=>exact False.elim ty
def Gf(K:PySem.W.Frag)(T:String)(r:V->List V->Hp->VK->Prop)(to:TE):TE:=fun σ H Q=>to σ H fun x H1=>AW K T x H1/\r x [] H1 Q
def vz(K:PySem.W.Frag)(T:String)(r:V->List V->Hp->VK->Prop)(to:TE)(t:TA):TE:=fun σ H Q=>to σ H fun x H1=>AW K T x H1/\t σ H1 fun xs H2=>r x xs H2 Q
variable {o e:Expr} {es:List Expr} {to:TE} {t:TA} {name:Str} {apos de:Pos} {T id:String} {r:V->List V->Hp->VK->Prop}
theorem Nq(pa:PlainAttrs T)(slot:Slot T name id)(ED:typeOf (.builtin id)=pure (.type "method_descriptor"))(hm:Lk X id r)(ho:PE X o to)
  (f9:attributeBase o name X.env (eval o X.env)=eval o X.env:=by rfl) (f7:(apos.endLine==de.line)=true:=by rfl):PE X (.Call (.Attribute o name apos) [] [] de) (Gf X.K T r to):=by
 intro pins s σ H Q I h;refine wpAny_Call_method0_late f9 f7 (cL (ho pins s σ H _ I h) fun v s1 cq=>?_);obtain⟨x,H1,I1,r1,ty,q1⟩:=cq;obtain⟨h1,h2⟩:=Af I1 r1 ty;exact⟨T,id,pa,slot,ED,h1,h2,Calls.callWith_builtin rfl (PySem.evalArgs_none (hm pins s1 σ H1 x [] v [] Q I1 r1 .nil q1))⟩
theorem wu(pa:PlainAttrs T)(slot:Slot T name id)(ED:typeOf (.builtin id)=pure (.type "method_descriptor"))(hm:Lk X id r)(ho:PE X o to)(ha:PA X (e::es) t)
  (f9:attributeBase o name X.env (eval o X.env)=eval o X.env:=by rfl)
  (Fh:((backTo de (starEach (e::es) X.env)).all (fun x=>!x.1)&&(backToKw de (keywordEach [] X.env)).all (fun x=>x.1.isSome)
   && decide ((e::es).length+([]:List Keyword).length+(if ([]:List Keyword).isEmpty then 0 else 1)<30))=true:=by rfl)
  (f7:(apos.endLine==de.line)=true:=by rfl) (hs:starEach (e::es) X.env=(false,eval e X.env)::starEach es X.env:=by rfl) (um:(backTo de (starEach es X.env)).any (·.1)=false:=by rfl) :
  PE X (.Call (.Attribute o name apos) (e::es) [] de) (vz X.K T r to t):=by
 intro pins s σ H Q I h;refine wpAny_Call_method_late f9 Fh f7 rfl (cL (ho pins s σ H _ I h) fun v s1 cq=>?_);obtain⟨x,H1,I1,r1,ty,q1⟩:=cq;obtain⟨h1,h2⟩:=Af I1 r1 ty;refine⟨T,id,pa,slot,ED,h1,h2,?_⟩;have hA:=ha de pins s1 σ H1 _ I1 q1;rw[hs] at hA ⊢;refine Calls.callWith_builtin (by show(false||(backTo de (starEach es X.env)).any (·.1))=false;rw[um]<;>rfl) (Calls.evalArgs_plain ?_);exact cL hA fun us s2 cq=>by obtain⟨vs,H2,I2,r2,q2⟩:=cq;exact hm pins s2 σ H2 x vs v us Q I2 r1 r2 q2
end
end L2
namespace L2
open PySem PySem.Spec PyProof.Rows
def Ll(X:Cx)(id:String)(r:V->List V->Hp->VK->Prop):Prop:=
 ∀(pins:List (Addr×Obj)) (s:Shared) (σ:St) (H:Hp) (x:V) (xs:List V) (v:Value) (us:List Value) (Q:VK),Inv X pins σ H s->RelV x v->Vals xs us->r x xs H Q->
  wpAny (model X.prog X.w) X.A (call (.builtin id) (v::us)) (EP X pins σ Q) X.xe s
theorem Vals.one:∀{x:V} {us:List Value},Vals [x] us->∃u,us=[u]/\RelV x u
 | _,_,.cons r .nil=>⟨_,rfl,r⟩
theorem Vals.zero:∀{us:List Value},Vals [] us->us=[]
 | _,.nil=>rfl
theorem Vals.reverse{xs:List V}{us:List Value}(h:Vals xs us):Vals xs.reverse us.reverse:=by
 induction h with
 | nil=>exact .nil
 | cons r t ih=>rw[List.reverse_cons,List.reverse_cons];exact Vals.append ih (.cons r .nil)
theorem Vals.rep{xs:List V}{us:List Value}(h:Vals xs us):∀k:Nat,Vals (List.replicate k xs).flatten (List.replicate k us).flatten
 | 0=>.nil
 | k+1=>by
  rw[List.replicate_succ,List.replicate_succ,List.flatten_cons,List.flatten_cons];exact Vals.append h (Vals.rep h k)
theorem XF{α:Type}(l:List α):l.eraseIdx (l.length-1)=l.dropLast:=by
 induction l with
 | nil=>rfl
 | cons a r ih=>
  cases r with
  | nil=>rfl
  | cons b r=>
   have e:(a::b::r).length-1=((b::r).length-1)+1:=by
    have h1:(a::b::r).length=r.length+2:=rfl;have h2:(b::r).length=r.length+1:=rfl;omega
   rw[e,List.eraseIdx_cons_succ,ih];all_goals rfl
theorem Js(its:List Value):∀(k:Nat) (acc:List Value),
  List.foldl (fun x1 x2=>x1++x2) acc.toArray (List.replicate k its.toArray)=(acc++(List.replicate k its).flatten).toArray
 | 0,acc=>by simp
 | k+1,acc=>by
  have e:acc.toArray++its.toArray=(acc++its).toArray:=by simp
  have e2:(acc++its)++(List.replicate k its).flatten=acc++(List.replicate (k+1) its).flatten:=by
   rw[List.replicate_succ,List.flatten_cons,List.append_assoc]
  rw[<-e2,<-Js its k (acc++its),<-e,List.replicate_succ,bw]
section
variable {X:Cx} {pins:List (Addr×Obj)} {σ:St} {H:Hp} {s:Shared} {l b:Addr} {xs ys zs:List V}
theorem Inv.yd{its its':List Value}{n:Nat}{f:Array Value->Array Value}{t':Nat}(I:Inv X pins σ H s)(hH:H l=some (.lst xs))
  (e:s.heap.get? l=some { cls:=.type "list",data:=.seq its.toArray n }) (hf:f its.toArray=its'.toArray) (hv:Vals ys its') (hz:ys.length<=sizeLine) :
  Inv X pins σ (upd H l (.lst ys)) { s with heap:=s.heap.update l (Obj.mapSeq f),toks:=t' }:=by
 have q:=PySem.IsL.update e f;rw[hf] at q;refine I.write (x:=l) (e:=l) (by rw[hH];exact trivial) (.inl rfl) (fun b' u hb hu=>(aU s.heap (Obj.mapSeq f) (Ne.symm hb)).trans hu) ⟨_,q⟩ ?_;exact⟨hz,its',_,hv,q⟩
theorem Inv.uc{its:List Value}{t':Nat}(I:Inv X pins σ H s)(hv:Vals ys its)(hz:ys.length<=sizeLine) :
  Inv X pins σ (upd H s.heap.objs.size (.lst ys)) { s with heap:=s.heap.push { cls:=.type "list",data:=.seq its.toArray },toks:=t' }:=
 I.laid (fun _ _ q=>ae _ q) (az _) ⟨hz,its,0,hv,av _ rfl⟩
theorem Inv.fresh(I:Inv X pins σ H s):H s.heap.objs.size=none:=I.cN.fresh (az _)
theorem Inv.ub(I:Inv X pins σ H s)(hH:H l=some (.lst xs)):xs.length<=sizeLine/\∃(its:List Value) (n:Nat),Vals xs its/\xs.length=its.length/\s.heap.get? l=some { cls:=.type "list",data:=.seq its.toArray n }:=by
 obtain⟨z,its,n,r,e⟩:=I.cN l _ hH;exact⟨z,its,n,r,r.length,e⟩
theorem QS{n:Nat}(h:n<=sizeLine):Builtin.List.listTooLong n=false:=by
 unfold Builtin.List.listTooLong;exact bz (by omega)
end
section
variable {X:Cx}
def tI:V->List V->Hp->VK->Prop:=fun x vs H Q=>∃l xs y,x=.ref l/\vs=[y]/\H l=some (.lst xs)/\xs.length<sizeLine/\Q .non (upd H l (.lst (xs++[y])))
theorem vv:Ll X "list.append" tI:=by
 intro pins s σ H x vs v us Q I rx rv h;obtain⟨l,xs,y,rfl,rfl,hH,hz,q⟩:=h;cases rx;obtain⟨u,rfl,ru⟩:=rv.one;obtain⟨z,its,n,r,hl,e⟩:=I.ub hH;refine call_meets F.slot_list_append ⟨_,e,rfl⟩ F.entry_list_append (F.args_list_append_2 _ _) (PySem.list_append l its.toArray n u (by rw[aC];omega)) ⟨e,?_⟩;refine⟨.non,_,I.yd (its':=its++[u]) hH e (by simp) (r.append (.cons ru .nil)) ?_,rfl,q⟩;rw[a9,List.length_singleton];omega
def IM:V->List V->Hp->VK->Prop:=fun x vs H Q=>∃l xs,x=.ref l/\vs=[]/\H l=some (.lst xs)/\Q .non (upd H l (.lst xs.reverse))
theorem R1:Ll X "list.reverse" IM:=by
 intro pins s σ H x vs v us Q I rx rv h;obtain⟨l,xs,rfl,rfl,hH,q⟩:=h;cases rx;have yr:=rv.zero;subst yr;obtain⟨z,its,n,r,hl,e⟩:=I.ub hH;refine call_meets F.slot_list_reverse ⟨_,e,rfl⟩ F.entry_list_reverse (F.args_list_reverse_1 _) (AutoSeq1.list_reverse_list_0 l its.toArray n (by rw[aC];omega)) ⟨e,?_⟩;refine⟨.non,_,I.yd (its':=its.reverse) hH e (by simp) r.reverse ?_,rfl,q⟩;rw[List.length_reverse];omega
def LA:R2:=fun x y H Q=>∃l k xs,x=.ref l/\y=.int k/\H l=some (.lst xs)/\-(2 ^ 63)<=k/\k<2 ^ 63/\xs.length*k.toNat<=sizeLine/\
 ∀p,H p=none->Q (.ref p) (upd H p (.lst (List.replicate k.toNat xs).flatten))
theorem O3{α:Type}(xs:List α)(k:Nat):(List.replicate k xs).flatten.length=k*xs.length:=by
 induction k with
 | zero=>simp
 | succ k ih=>rw[List.replicate_succ,List.flatten_cons,a9,ih,Nat.succ_mul,Nat.add_comm]
theorem Np:gB X (binaryOp .Mult) LA:=by
 intro pins s σ H x y v u Q I rx ry h;obtain⟨l,k,xs,rfl,rfl,hH,h1,h2,hz,q⟩:=h;cases rx;obtain⟨t,rfl⟩:=ry;obtain⟨z,its,n,r,hl,e⟩:=I.ub hH;have hlen:its.toArray.size*k.toNat<=sizeLine:=by rw[aC,<-hl];exact hz
 have Fs:¬its.toArray.size*k.toNat>(2 ^ 63-1)/8:=by
  have:(sizeLine:Nat)<=(2 ^ 63-1)/8:=by decide
  omega
 have rE:¬(!Builtin.List.listFitsIndex k)=true:=by
  rw[fitsIndex_both h1 h2];exact aG
 have yK:¬Builtin.List.listTooLong (its.toArray.size*k.toNat)=true:=by
  rw[QS hlen];exact aG
 have kg:List.foldl (fun x1 x2=>x1++x2) #[] (List.replicate (if its.toArray.isEmpty=true then 0 else k.toNat) its.toArray)=(List.replicate k.toNat its).flatten.toArray:=by
  have f0:∀m:Nat,List.foldl (fun x1 x2=>x1++x2) #[] (List.replicate m its.toArray)=(List.replicate m its).flatten.toArray:=fun m=>by
   have:=Js its m [];rw[List.nil_append] at this;exact this
  rw[f0];cases its with
  | nil=>simp
  | cons a r'=>rw[if_neg (by simp)]
 refine wpAny_binaryOp_repeat_ref (T:="list") (U:="int") (by decide) ⟨_,e,rfl⟩ (fun s'=>typeIs_int s' k t) noFill_list_mul F.fills_int_mul F.slot_int_rmul repeat_list F.slot_int_index.lookup
  (call_meets F.slot_int_rmul (typeIs_int s k t) F.entry_int_rmul (F.args_int_rmul_2 _ _) (int___rmul___int_list k t l its.toArray n)
   ⟨e,rfl,⟨_,e,rfl⟩,call_meets F.slot_list_mul ⟨_,e,rfl⟩ F.entry_list_mul (F.args_list_mul_2 _ _) (AutoListH.list___mul___list_int_3 l its.toArray n k t rE Fs yK) ⟨e,?_⟩⟩)
 rw[kg];exact⟨.ref _,_,I.uc (t':=s.toks) (r.rep k.toNat) (by rw[O3,Nat.mul_comm];exact hz),rfl,q _ I.fresh⟩
end
section
variable {prog:Program} {w:World} {A:Around} {E:Value->Shared->Prop} {s:Shared}
end
end L2
namespace Ln
open PySem PySem.W PySem.Calls PyProof.Rows
theorem Ud{P:Params}{h:Heap}:∀(ns:List Int) (vs:List Value),WellAll P h vs (ns.map WData.int)->IntsAre vs ns:=by
 intro ns;induction ns with
 | nil=>
  intro vs w;rw[List.map_nil] at w;cases w;exact .nil
 | cons n ns ih=>
  intro vs w;rw[au] at w;cases w with
  | cons a b=>
   cases a;exact .cons _ _ (ih _ b)
theorem RM{l:OpenLaw}{n:Nat}(hn:l.most=some n){P:Params}{h:Heap}{args:List WData}{vals:List Value}
  (rn:l.row.toRowW.claim.pre args=true) (Eu:WellAll P h vals args) :
  ∃a vs ns,vals=[Value.ref a]/\args=[WData.list (ns.map WData.int)]/\h.get? a=some { cls:=.type "list",data:=.seq vs.toArray }/\IntsAre vs ns/\ns.length<=n:=by
 have VZ:WShape.hasAll [] args [.list .int]=true:=(pre_splitW rn).1;have hc:l.pre.holds [] { args:=args }=true:=(pre_splitW rn).2;obtain⟨d,r,rfl,h1,h2⟩:=hasAllW_cons VZ;obtain rfl:=hasAllW_nil h2;obtain⟨xs,rfl,h3⟩:=hasW_list h1;obtain⟨ns,rfl⟩:=items_int h3;have hlen:ns.length<=n:=by
  unfold OpenLaw.pre at hc;have h4:(WTm.not (.lt (.lit (.int (n:Int))) (.len (.arg 0)))).holds [] { args:=[.list (ns.map .int)] }=true:=by
   have h4:=(holds_andW hc).1;rw[hn] at h4;exact h4
  have h5:=condW_of h4 (w_not (w_lt w_lit (w_len_list (w_arg rfl))));rw[af] at h5;refine Nat.le_of_not_lt fun q=>?_
  have q':(n:Int)<((ns.length:Nat):Int):=by omega
  first
   | (rw[decide_eq_true q'] at h5;exact absurd h5 (by decide))
   | (simp at h5;omega)
 cases Eu with
 | cons w1 w2=>
  cases w2;cases w1 with
  | list ho i5=>exact⟨_,_,ns,rfl,rfl,ho,Ud ns _ i5,hlen⟩
theorem RL(l:OpenLaw)(args:List WData):l.row.toRowW.claim.post args (.bool true) args=true:=
 postW_of (r:=l.row.toRowW) (X:=(true==true))
  (show WShape.has [] (.bool true) .bool=true by first | rfl | decide | simp[WShape.has,WShape.arms,WShape.armsAll])
  (show(WTm.eq .res (.lit (.bool true))).value [] { args:=args,res:=some (.bool true),after:=args }=some (.bool (true==true)) from w_eq_bool (w_res rfl) w_lit) rfl
theorem lz{l:OpenLaw}{n:Nat}{q:Program}{loose:List Str}{XP:(Str->Option Value)->Heap->Prop}{YP:World->Heap->Prop}{d:DefRec}
  (hn:l.most=some n) (Fl:d.params.defaults=[])
  (call:∀(w:World) (eF cB:Shared) (mg mb:Str->Option Value) (fa:Addr) (o:Obj) (pm cd doc:Value) (a:Addr) (vs:List Value) (ns:List Int),
   Ground q loose [] XP w eF mg mb cB.heap->YP w cB.heap->
   cB.heap.get? fa=some o->o.data=.func (docDef d.name d.params d.body d.scope pm cd doc)->cB.heap.CodeRec cd d.name->mg d.name=some (.ref fa)->
   cB.heap.get? a=some { cls:=.type "list",data:=.seq vs.toArray }->IntsAre vs ns->ns.length<=n->cB.gens=#[]->
   codeAny (model l.prog w) callerA (.call (.ref fa) ⟨[.ref a],[]⟩) (fun r s'=>r=.ok (.ret (.bool true))/\OldK cB.heap s'.heap/\s'.os=cB.os/\AllBare s'.gens) cB) :
  WalkO q loose XP YP l.row.toRowW d [] (fun f vs=>PySem.call f vs):=by
 intro w eF cB mg mb G Y fa o pm cd doc dV kV ho hd fi hD rA hg args vals as rn Wm EL Eu XX;obtain rfl:dV=.none:=Dflts.none hD Fl;obtain rfl:kV=.none:=Dflts.noKw hD;obtain⟨a,vs,ns,rfl,rfl,rq,hints,hlen⟩:=RM hn rn Eu;refine enter_call (codeAny_mono (call w eF cB mg mb fa o pm cd doc a vs ns G Y ho (fd_plain hd) fi rA rq hints hlen hg) fun r s' hq=>?_);obtain⟨rfl,h2,h3,h4⟩:=hq;exact⟨.inl ⟨.bool true,.bool true,[],rfl,fun _=>rfl,.bool true,RL l _,fun _=>⟨List.Pairwise.nil,fun _ hm=>(nomatch hm)⟩⟩,h2,h3,h4⟩
end Ln
namespace L2
open PySem PySem.Spec PyProof.Rows
theorem C0:∀{vs:List Value} {ns:List Int},IntsAre vs ns->Vals (ns.map V.int) vs
 | _,_,.nil=>.nil
 | _,_,.cons n t h=>.cons ⟨t,rfl⟩ (C0 h)
def Ge(H:Hp):Prop:=∀b,H b=none\/∃o xs,H b=some (.iC o (.lst xs))
theorem QR{P:Program}{w:World}{K:PySem.W.Frag}{mg mb:Str->Option Value}{CX:qC}{k:Nat}{fa a:Addr}{fd:FuncData}{x:Str}{sp:Sp}{cB:Shared}{vs:List Value}{ns:List Int}
  (KX:K.In cB.heap) (l8:cB.heap.Ns mainGlobals mg) (hb:cB.heap.Ns builtinsNs mb) (WR:∀x:Str,x≠"__name__"->mb x=bootBuiltins x) (Fc:cB.heap.NoLimit) (hg:cB.gens=#[])
  (ha:cB.heap.get? a=some { cls:=.type "list",data:=.seq vs.toArray }) (hi:IntsAre vs ns) (hl:ns.length<=sizeLine) (hr:eQ k callerA)
  (F:∀base:Heap,K.In base->base.Ns mainGlobals mg->ju P w K mg base CX k fa fd [x] sp) (y4:∀(s:Shared) (u:Value),BindsTo s fd ⟨[u],[]⟩ [(x,u)])
  (vF:∀H:Hp,Ge H->dY K H a (ns.map V.int)->sp [.ref a] H (fun v _=>v=.bl true) fun _ _ _=>False)
  (W4:∀H e s',CX [] H cB (fun _ _ _=>False) e s'->False) :
  codeAny (model P w) callerA (.call (.ref fa) ⟨[.ref a],[]⟩) (fun r s'=>r=.ok (.ret (.bool true))/\OldK cB.heap s'.heap/\s'.os=cB.os/\AllBare s'.gens) cB:=by
 have rv:=C0 hi;have Eh:=hi.length
 -- from an abstract heap in JQ nothing but oF o9 may be tracked
 have core:∀H:Hp,Ge H->dY K H a (ns.map V.int)->ip P w H cB.heap->(∀b,H b≠none->b=a)->(H a≠none->K.lookup a=none)->
   codeAny (model P w) callerA (.call (.ref fa) ⟨[.ref a],[]⟩) (fun r s'=>r=.ok (.ret (.bool true))/\OldK cB.heap s'.heap/\s'.os=cB.os/\AllBare s'.gens) cB:=by
  intro H hO hS cN hA hK;have nu:∀{b:Addr} {o:Obj},cB.heap.get? b=some o->H b=none->(qI cB.heap H).get? b=some o:=fun e n=>QH e n
  have ya:∀{b:Addr} {o:Obj} {es:Array DictEntry} {ep:Nat},cB.heap.get? b=some o->o.data=.dict es ep->H b=none:=fun{b o es ep} e d=>by
   cases q:H b with
   | none=>rfl
   | some u=>
    have e':b=a:=hA b (by rw[q];simp);subst e';rw[ha] at e;cases e;have d':Data.seq vs.toArray _=Data.dict es ep:=d;cases d'
  have A7:∀{b:Addr} {m:Str->Option Value},cB.heap.Ns b m->(qI cB.heap H).Ns b m:=fun{b m} ⟨o,es,ep,e,d,r⟩=>⟨o,es,ep,nu e (ya e d),d,r⟩
  have K5:K.In (qI cB.heap H):=fun b o e=>nu (KX b o e) (by
   cases q:H b with
   | none=>rfl
   | some u=>
    have e':b=a:=hA b (by rw[q];simp);subst e'
    rw[hK (by rw[q];simp)] at e;cases e)
  have hM:Mod K mg (qI cB.heap H):=⟨K5,A7 l8,⟨mb,A7 hb,WR⟩,let⟨mc,h1,h2⟩:=Fc;⟨mc,A7 h1,h2⟩⟩
  have e0:rN P w K mg (qI cB.heap H) callerA [] cB H:=⟨rfl,hM,fun b o e=>OW e,Nat.le_of_eq (RV _ _),trivial,fun b hb=>absurd (show b∈([]:List Addr) from hb) (by simp),cN,.of_eq hg⟩
  refine codeAny_mono ((F _ K5 (A7 l8)).run callerA [] cB H ⟨[.ref a],[]⟩ [.ref a] [.ref a] _ _ hr e0 (y4 cB (.ref a)) (.cons rfl .nil) (vF H hO hS)) fun r s' h=>?_
  cases r with
  | error e=>exact(W4 H e s' h).elim
  | ok fl=>
   cases fl with
   | next=>exact False.elim h
   | brk=>exact False.elim h
   | cont=>exact False.elim h
   | ret u=>
    obtain⟨v,H',os,bare,un,ES,r',q⟩:=h;have q':v=.bl true:=q;subst q';obtain rfl:u=Value.bool true:=r';refine⟨rfl,OldK.of_keep fun b o e=>?_,os,bare⟩;cases q:H b with
    | none=>exact un.keep b o e q (by intro z;exact absurd (show b∈([]:List Addr) from z) (by simp)) (by simp)
    | some u=>
     rcases hO b with z | ⟨ob,xs,z⟩
     ·rw[q] at z;cases z
     ·have z2:=un.kj b ob _ z;obtain⟨e1,_⟩:=cN b _ z;obtain⟨e2,_⟩:=ES b _ z2;rw[e] at e1;cases e1;exact e2
 cases hk:K.lookup a with
 | some o=>
  -- oF o9 is one of oF yc own objects
  have e:=KX a o hk;rw[ha] at e;cases e;refine core (fun _=>none) (fun _=>.inl rfl) (.inr ⟨_,vs.toArray,_,hk,rfl,rfl,rfl,by rw[aC,Eh];exact hl,by simpa using rv⟩) (fun b u z=>by have z':(none:Option HO)=some u:=z;cases z') (fun b z=>absurd rfl z) fun z=>absurd rfl z
 | none=>
  refine core (fun b=>if b=a then some (.iC { cls:=.type "list",data:=.seq vs.toArray } (.lst (ns.map V.int))) else none) (fun b=>?_) (.inl (.inr ⟨{ cls:=.type "list",data:=.seq vs.toArray },if_pos rfl⟩)) (fun b u z=>?_) (fun b z=>?_) fun _=>hk
  ·by_cases hb:b=a
   ·exact .inr ⟨_,_,if_pos hb⟩
   ·exact .inl (if_neg hb)
  ·by_cases hb:b=a
   ·have z':=(if_pos hb).symm.trans z;cases z';subst hb;exact⟨ha,by rw[af];exact hl,vs,_,rv,ha⟩
   ·have z':=(if_neg hb).symm.trans z;cases z'
  ·by_cases hb:b=a
   ·exact hb
   ·exact absurd (if_neg hb) z
end L2
namespace L2
open PySem PySem.Spec PyProof.Rows
noncomputable abbrev FX{K:PySem.W.Frag}{h:Heap}(_:K.In h):PySem.W.Frag:=K
end L2
namespace L2
open PySem PySem.Spec PyProof.Rows
noncomputable def fE(s:Stmt):Arguments:=match s with
 | .FunctionDef _ a _ _ _ _ _ _ _ _=>a
 | _=>{ posonlyargs:=[],args:=[],vararg:=none,kwonlyargs:=[],kw_defaults:=[],kwarg:=none,defaults:=[] }
noncomputable def dy(s:Stmt):List Stmt:=match s with
 | .FunctionDef _ _ b _ _ _ _ _ _ _=>b
 | _=>[]
noncomputable def bZ(s:Stmt):Scope:=match s with
 | .FunctionDef _ _ _ _ _ _ sc _ _ _=>sc
 | _=>{ kind:=.function,names:=[],isGenerator:=false,isCoroutine:=false }
abbrev oe:qC:=fun _ _ _ _ _ _=>False
abbrev E0:XK:=fun _ _ _=>False
theorem L0{X:Cx}:B4 oe X E0:=fun _ _ _ _ _ _ _ h=>h.elim
structure n8 (dV:Value) (K:PySem.W.Frag) (x qual:Str) (st:Stmt) (f:Addr) (fd:FuncData):Prop where
 ex:∃(oc:Value) (od:Option Addr) (kV doc pm:Value) (an:Option Addr) (cT ct:Value) (ph:Array (Option Value)),
  fd=PySem.W.fnOf x qual (fE st) (dy st) (bZ st) dV kV doc pm an cT ct/\K.lookup f=some ⟨oc,od,.func fd,ph⟩/\PySem.W.codeIn K cT qual=true
 kp:PySem.W.keepIn K (.ref f)=true
noncomputable abbrev Lm:=n8 .none
section
variable {P:Program} {w:World} {K:PySem.W.Frag} {mg:Str->Option Value} {base:Heap}
theorem n8.ok{dV:Value}{x qual:Str}{st:Stmt}{f:Addr}{fd:FuncData}{N ps:List Str}{k:Nat}{sp:Sp}(F:n8 dV K x qual st f fd)(S:ck N ps (bZ st))(len:∀vs H Q E,sp vs H Q E->vs.length=ps.length)
  (pO:∀(cT:Value) (A:Around) (outer:List Env) (s:Shared) (H:Hp) (vs:List V) (Q:VK) (E:XK),eQ k (A.deeper (envOfC qual (bZ st) s.heap.objs.size f cT))->sp vs H Q E->
   ∃t,ny (qc oe P w K mg base N qual (bZ st) f cT A outer s H E).sy (dy st) t/\t { nx:=fun _ H'=>Q .non H',rt:=Q } (j7 N vs) H):ju P w K mg base oe (k+1) f fd ps sp:=by
 obtain⟨oc,od,kV,doc,pm,an,cT,ct,ph,rfl,lk,fi⟩:=F.ex;refine L6 lk fi S len fun A outer s H vs Q E hr vF=>?_
 obtain⟨t,h,q⟩:=pO cT A outer s H vs Q E hr vF;exact⟨t,h.sy,q⟩
theorem n8.binds{x qual:Str}{st:Stmt}{f:Addr}{fd:FuncData}{ps:List Str}(F:Lm K x qual st f fd)
  (h:∀(kV doc pm:Value) (an:Option Addr) (cT ct:Value) (us:List Value),us.length=ps.length->bindArgs (PySem.W.fnOf x qual (fE st) (dy st) (bZ st) .none kV doc pm an cT ct) ⟨us,[]⟩=pure (ps.zip us)):Binds K fd ps []:=by
 obtain⟨oc,od,kV,doc,pm,an,cT,ct,ph,rfl,lk,fi⟩:=F.ex;exact .all (h kV doc pm an cT ct)
theorem Nn{x qual:Str}{st:Stmt}{f:Addr}{oc:Value}{od an:Option Addr}{ph:Array (Option Value)}{dV kV doc pm cT ct:Value}(l:K.lookup f=some ⟨oc,od,.func (PySem.W.fnOf x qual (fE st) (dy st) (bZ st) dV kV doc pm an cT ct),ph⟩)
  (c:PySem.W.codeIn K cT qual=true) (k:PySem.W.keepIn K (.ref f)=true):n8 dV K x qual st f (PySem.W.fnOf x qual (fE st) (dy st) (bZ st) dV kV doc pm an cT ct):=⟨⟨oc,od,kV,doc,pm,an,cT,ct,ph,rfl,l,c⟩,k⟩
end
section
variable {X:Cx}
theorem pv(i:Nat){x:Str}{pos:Pos}(hN:X.N[i]?=some x:=by rfl)(hv:js X.env.scope x:=by first | exact Or.inl rfl | exact Or.inr (Or.inl rfl) | exact Or.inr (Or.inr rfl))(hd:(x==("__debug__":Str))=false:=by decide)
  (fi:(x==("__classdict__":Str))=false:=by decide):PE X (.Name x pos) (uR i):=jL hN hv hd fi
end
def cm(H H':Hp):Prop:=∀b o,H b=some o->H' b=some o
theorem cm.refl(H:Hp):cm H H:=fun _ _ h=>h
theorem cm.trans{H H1 H2:Hp}(a:cm H H1)(b:cm H1 H2):cm H H2:=fun c o h=>b c o (a c o h)
theorem cm.free{H H':Hp}(e:cm H H'){l:Addr}(h:H' l=Option.none):H l=Option.none:=by
 cases q:H l with
 | none=>rfl
 | some o=>
  rw[e l o q] at h;cases h
end L2
set_option maxHeartbeats 0
namespace L2
open PySem PySem.Spec PyProof.Rows
def jt(K:PySem.W.Frag)(H:Hp)(a:Addr)(xs:List V):Prop:=
 Rd H a (.lst xs)\/∃(its:Array Value) (n:Nat),K.lookup a=some { cls:=.type "list",data:=.seq its n }/\its.size<=sizeLine/\Vals xs its.toList
theorem jt.of{K:PySem.W.Frag}{H:Hp}{a:Addr}{xs:List V}(h:H a=some (.lst xs)):jt K H a xs:=.inl (.inl h)
theorem jt.sq{K:PySem.W.Frag}{H:Hp}{a:Addr}{xs:List V}(h:jt K H a xs):dY K H a xs:=by
 rcases h with h | ⟨its,n,h1,h2,h3⟩
 ·exact .inl h
 ·exact .inr ⟨_,its,n,h1,rfl,rfl,rfl,h2,h3⟩
theorem cm.fb{K:PySem.W.Frag}{H H':Hp}{a:Addr}{xs:List V}(e:cm H H')(h:jt K H a xs):jt K H' a xs:=by
 rcases h with(h | ⟨o,h⟩) | h
 ·exact .inl (.inl (e _ _ h))
 ·exact .inl (.inr ⟨o,e _ _ h⟩)
 ·exact .inr h
theorem Inv.fb{X:Cx}{pins:List (Addr×Obj)}{σ:St}{H:Hp}{s:Shared}{a:Addr}{xs:List V}(I:Inv X pins σ H s)(h:jt X.K H a xs):xs.length<=sizeLine/\∃(its:List Value) (n:Nat),Vals xs its/\s.heap.get? a=some { cls:=.type "list",data:=.seq its.toArray n }:=by
 rcases h with h | ⟨its,n,h1,h2,h3⟩
 ·obtain⟨z,its,n,r,e⟩:=h.ok I.cN;exact⟨z,its,n,r,e⟩
 ·refine⟨by rw[h3.length];simpa using h2,its.toList,n,h3,?_⟩;rw[Array.toArray_toList];exact I.nT a _ h1
noncomputable def mh(cells:List (Str×Addr)):List (Str×NameKind)->List (Str×Addr)->List (Str×Addr)
 | [],acc=>acc
 | (n,k)::r,acc=>mh cells r (if k==.free then(n,(cells.lookup n).getD 0)::acc else acc)
theorem JE{env:Env}:∀(names:List (Str×NameKind)) (acc:List (Str×Addr)),(∀x∈names,x.2=.free->∃c,env.cells.lookup x.1=some c)->
  (forIn names acc fun(x:Str×NameKind) (r:List (Str×Addr))=>
   (if (x.2==NameKind.free)=true then do let a <-cellOf env x.1;pure (ForInStep.yield ((x.1,a)::r)) else pure (ForInStep.yield r):Sem (ForInStep (List (Str×Addr)))))=pure (mh env.cells names acc)
 | [],acc,_=>by simp[mh]
 | (n,k)::r,acc,h=>by
  have ih:=fun jQ=>JE (env:=env) r jQ fun x hx=>h x (aB _ hx)
  rw[List.forIn_cons];by_cases hk:k=.free
  ·subst hk;obtain⟨c,hc⟩:=h (n,.free) (by simp) rfl;have e1:cellOf env n=pure c:=by unfold cellOf;rw[hc]
   simp only[beq_self_eq_true,bO,e1,pure_bind];rw[ih];simp[mh,hc]
  ·have qv:(k==NameKind.free)=false:=by simpa using hk
   simp only[qv,aF,bE,pure_bind];rw[ih];simp[mh,qv]
theorem JD{env:Env}{scope:Scope}(h:∀x∈scope.names,x.2=.free->∃c,env.cells.lookup x.1=some c):closureFor scope env=pure (mh env.cells scope.names []):=by
 have e:closureFor scope env=(forIn scope.names ([]:List (Str×Addr)) fun(x:Str×NameKind) (r:List (Str×Addr))=>
   (if (x.2==NameKind.free)=true then do let a <-cellOf env x.1;pure (ForInStep.yield ((x.1,a)::r)) else pure (ForInStep.yield r):Sem (ForInStep (List (Str×Addr))))) >>= fun r=>pure r:=rfl
 rw[e,JE _ _ h];rfl
theorem IL{cells:List (Str×Addr)}:∀{names:List (Str×NameKind)} {acc:List (Str×Addr)} {x:Str} {c:Addr},(x,c)∈mh cells names acc->(x,c)∈acc\/((x,.free)∈names/\c=(cells.lookup x).getD 0)
 | [],acc,x,c,h=>.inl h
 | (n,k)::r,acc,x,c,h=>by
  rcases IL (names:=r) h with h | ⟨h,e⟩
  ·by_cases hk:k=.free
   ·subst hk;simp only[beq_self_eq_true,bO] at h;rcases aq.mp h with h | h
    ·cases h;exact .inr ⟨by simp,rfl⟩
    ·exact .inl h
   ·have qv:(k==NameKind.free)=false:=by simpa using hk
    simp only[qv,aF,bE] at h;exact .inl h
  ·exact .inr ⟨aB _ h,e⟩
theorem IK{cells:List (Str×Addr)}:∀{names:List (Str×NameKind)} {acc:List (Str×Addr)} {p:Str×Addr},p∈acc->p∈mh cells names acc
 | [],acc,p,h=>h
 | (n,k)::r,acc,p,h=>IK (names:=r) (by split<;>simp[h])
theorem CP{cells:List (Str×Addr)}:∀{names:List (Str×NameKind)} {acc:List (Str×Addr)} {x:Str},(x,.free)∈names->∃c,(x,c)∈mh cells names acc
 | (n,k)::r,acc,x,h=>by
  rcases aq.mp h with h | h
  ·have e1:x=n:=congrArg Prod.fst h;have e2:NameKind.free=k:=congrArg Prod.snd h;subst e1 e2;refine⟨(cells.lookup x).getD 0,?_⟩;show(x,(cells.lookup x).getD 0)∈mh cells r (if (NameKind.free==NameKind.free)=true then(x,(cells.lookup x).getD 0)::acc else acc);exact IK (by simp)
  ·exact CP (names:=r) h
theorem DL{α:Type}:∀{l:List (Str×α)} {x:Str} {c:α},(x,c)∈l->∃c',l.lookup x=some c'
 | (n,k)::r,x,c,h=>by
  by_cases e:x=n
  ·subst e;exact⟨k,by simp[List.lookup_cons]⟩
  ·have e':(x==n)=false:=by simpa using e
   rcases aq.mp h with h | h
   ·cases h;exact absurd rfl e
   ·obtain⟨c',q⟩:=DL h;exact⟨c',by simp[List.lookup_cons,e',q]⟩
theorem Sk{cells:List (Str×Addr)}{names:List (Str×NameKind)}{x:Str}{c:Addr}(h:(mh cells names []).lookup x=some c)(hh:∀y∈names,y.2=.free->∃c,cells.lookup y.1=some c):cells.lookup x=some c:=by
 rcases IL (PySem.mem_of_lookup h) with h | ⟨h,e⟩
 ·cases h
 ·obtain⟨c',q⟩:=hh _ h rfl;rw[q] at e;simp at e;rw[e];exact q
theorem DM{env:Env}:∀{names:List (Str×NameKind)} {x:Str},
  (names.map fun(n,k)=>if (k==NameKind.free&&env.scope.kind==.function&&env.kindOf n==some .cell) then(n,NameKind.cell) else(n,k)).lookup x
   = (names.lookup x).map fun k=>if (k==NameKind.free&&env.scope.kind==.function&&env.kindOf x==some .cell) then NameKind.cell else k
 | [],x=>rfl
 | (n,k)::r,x=>by
  have ih:=@DM env r x;rw[au];have e0:(if (k==NameKind.free&&env.scope.kind==.function&&env.kindOf n==some .cell)=true then(n,NameKind.cell) else(n,k))=(n,if (k==NameKind.free&&env.scope.kind==.function&&env.kindOf n==some .cell)=true then NameKind.cell else k):=by split<;>rfl
  show List.lookup x ((if (k==NameKind.free&&env.scope.kind==.function&&env.kindOf n==some .cell)=true then(n,NameKind.cell) else(n,k))::_)=_;rw[e0];by_cases e:x=n
  ·subst e;rw[List.lookup_cons,List.lookup_cons,beq_self_eq_true];rfl
  ·have e':(x==n)=false:=by simpa using e
   rw[List.lookup_cons,List.lookup_cons,e'];exact ih
noncomputable abbrev fV(X:Cx)(N':List Str)(scope:Scope)(s3:Shared)(H3:Hp)(ex:List Addr):Cx:=
 { X with N:=N',eF:=s3,pU:=H3,env:=compEnvC scope (mh X.env.cells scope.names []) s3.heap.objs.size X.env,outer:=X.stack,stack:=X.stack,ex:=ex,fn:=fun _=>false,pn:=[],xe:=fun _ _=>False }
noncomputable def lg(m:List (Option Nat))(σ:St):St:=m.map fun o=>match o with
 | none=>none
 | some j=>(σ[j]?).join
structure cC (X:Cx) (N':List Str) (m:List (Option Nat)) (scope:Scope):Prop where
 kind:scope.kind=.function
 len:m.length=N'.length
 px:∀y∈scope.names,y.2≠.cell
 names:∀y∈scope.names,y.2=.local->scope.names.lookup y.1=some .local
 free:∀y∈scope.names,y.2=.free->X.env.kindOf y.1=some .cell\/X.env.kindOf y.1=some .free
 Xq:∀(i j:Nat) (x:Str),m[i]?=some (some j)->N'[i]?=some x->X.N[j]?=some x/\scope.names.lookup x=some .free
def vU(X:Cx)(ifs:List Expr)(t:TT):Prop:=
 ∀(pins:List (Addr×Obj)) (s:Shared) (σ:St) (H:Hp) (Q:Bool->Hp->Prop),Inv X pins σ H s->t σ H Q->
  wpAny (model X.prog X.w) X.A (forIn ifs true fun c r=>if r=true then do let ok <-isTrue c X.env (eval c X.env);pure (ForInStep.yield ok) else pure (ForInStep.yield r)) (TP X pins σ Q) X.xe s
def Lz:TT:=fun _ H Q=>Q true H
theorem O1{X:Cx}:vU X [] Lz:=fun _ _ σ H _ I h=>wpAny_tests_nil ⟨H,I,h⟩
theorem O0{X:Cx}{c:Expr}{t:TT}(h:PT X c t):vU X [c] t:=fun pins s σ H Q I q=>wpAny_tests_one (h pins s σ H Q I q)
section
variable {prog:Program} {w:World} {A:Around} {R:Result->Shared->Prop} {s:Shared}
theorem Sj{elt target iter:Expr}{ifs:List Expr}{scope:Scope}{pos:Pos}{it acc:Value}{env:Env}(I:Nat->Shared->Prop)
  (turn:∀n s,I n s->wpAny (model prog w) A (pyNext it) (fun r cB=>match r with
   | none=>R (.ok .next) cB
   | some v=>wpAny (model prog w) A (letOwnedTupleGo target it v) (fun _ sr=>wpAny (model prog w) A (assign target env v) (fun _ gO=>
     wpAny (model prog w) A (forIn ifs true fun c r=>if r=true then do let ok <-isTrue c env (eval c env);pure (ForInStep.yield ok) else pure (ForInStep.yield r)) (fun ok kZ=>
      if ok=true then wpAny (model prog w) A (eval elt env) (fun x qU=>
       wpAny (model prog w) A (call (.builtin "list.append") [acc,x]) (fun _ xT=>∃m,m<n/\I m xT) (fun _ _=>False) qU) (fun _ _=>False) kZ
      else ∃m,m<n/\I m kZ) (fun _ _=>False) gO) (fun _ _=>False) sr) (fun _ _=>False) cB) (fun _ _=>False) s)
  (n:Nat) (h:I n s) :
  codeAny (model prog w) A (.compLoop (.ListComp elt [⟨target,iter,ifs,0⟩] scope pos) 0 it acc env) R s:=by
 refine codeAny_loop rfl I (fun n s hI=>?_) n h;show wpAny _ A ((compTurn (.ListComp elt [⟨target,iter,ifs,0⟩] scope pos) 0 it acc env).onRaise (fun x=>do noteFrame x env;theTreesLotGoes x)) _ _ s;refine wpAny_noted ?_;rw[compTurn_list];have nv:∀{E:Value->Shared->Prop} (x:Value) (s:Shared),(fun(_:Value) (_:Shared)=>False) x s->E x s:=fun _ _ f=>f.elim
 refine aa (wpAny_standAt (aa (wpAny_mono (turn n s hI) (fun r cB iZ=>?_) nv)));cases r with
 | none=>exact ai iZ
 | some v=>
  refine aa (wpAny_mono iZ (fun _ sr yj=>?_) nv);refine aa (wpAny_mono yj (fun _ gO pD=>aa (wpAny_mono pD (fun ok kZ rj=>?_) nv)) nv);cases ok with
  | false=>exact ai ⟨rfl,rj⟩
  | true=>
   exact aa (aa (wpAny_mono rj (fun x qU Ep=>aa (wpAny_mono Ep (fun _ xT Eo=>ai (ai ⟨rfl,Eo⟩)) nv)) nv))
end
end L2
namespace L2
open PySem PySem.Spec PyProof.Rows
noncomputable abbrev md(α:Type):=Shared->Hp->List Addr->α
def tq(wi:TI)(m:List (Option Nat))(g:md TG)(tc:md TT)(te:md TE):TE:=fun σ H Q=>wi σ H fun J H1=>∀D,H1 D=none->∀s3 ex,
 ∃W:Nat->Nat->St->Hp->Prop,(∃k,W 0 k (lg m σ) (upd H1 D (.lst [])))/\∀i k cF H',W i k cF H'->
  (J.stop i H'/\Q (.ref D) H')\/(J.go i H'/\∃N:St->Hp->Prop,(∀cF H',N cF H'->∃k',k'<k/\W (i+1) k' cF H')/\
   ∀x H2,J.AV i H' x H2->g s3 (upd H1 D (.lst [])) ex x cF H2 fun iH H3=>tc s3 (upd H1 D (.lst [])) ex iH H3 fun b H4=>
    if b=true then te s3 (upd H1 D (.lst [])) ex iH H4 fun v H5=>∃xs,H5 D=some (.lst xs)/\xs.length<sizeLine/\N iH (upd H5 D (.lst (xs++[v]))) else N iH H4)
section
variable {X:Cx} {elt iter tg:Expr} {ifs:List Expr} {scope:Scope} {pos:Pos} {N':List Str} {m:List (Option Nat)} {wi:TI} {g:md TG} {tc:md TT} {te:md TE}
theorem QQ{pins:List (Addr×Obj)}{σ:St}{H:Hp}{s:Shared}{fp:List Addr}{iZ:Heap}{tk:Nat}(cs:cC X N' m scope)(I:Inv X pins σ H s)(f:∀b∈fp,i7 X pins H b)(fo:∀b∈fp,b<s.heap.objs.size)
  (l8:iZ.Ns s.heap.objs.size (fun x=>(([]:List (Str×Value)).reverse.lookup x))) (hk:∀b o,s.heap.get? b=some o->iZ.get? b=some o) :
  Inv (fV X N' scope s H fp) [] (lg m σ) H { s with heap:=iZ,toks:=tk }:=by
 have dD:∀y∈scope.names,y.2=.free->∃c,X.env.cells.lookup y.1=some c:=fun y hy hf=>I.ok.has y.1 (cs.free y hy hf)
 have kh:∀x c,(mh X.env.cells scope.names []).lookup x=some c->X.env.cells.lookup x=some c:=fun x c e=>Sk e dD
 refine⟨⟨I.ok.mod,cs.kind,I.ok.glob,I.ok.blt,az _,fun x y c e1 e2=>I.ok.inj x y c (kh x c e1) (kh y c e2),fun x hx=>?_,fun x c hx=>(by cases hx),I.ok.hd,I.ok.frames,.inl rfl,fun b hb=>⟨aA (fo b hb),fun x c e=>(f b hb).2.2.2.2.1 x c (kh x c e)⟩,
  fun b o e=>I.bs b o e,Nat.le_trans I.ok.uF I.sz,fun b o e hb=>?_,fun b hb z=>?_,I.stack,I.mZ⟩,
  rfl,I.bare,Un.kept hk,⟨_,l8,fun i x v h1 h2 h3=>?_⟩,fun x c e=>?_,I.cN.fresh (az _),fun x c e=>I.gd x c (kh x c e),fun p hp=>(by cases hp),I.cN.kept hk,?_⟩
 ·have iU:(relabel scope X.env).names.lookup x=some .cell\/(relabel scope X.env).names.lookup x=some .free:=hx;have e:(relabel scope X.env).names.lookup x=(scope.names.lookup x).map fun k=>if (k==NameKind.free&&X.env.scope.kind==.function&&X.env.kindOf x==some .cell) then NameKind.cell else k:=DM
  rw[e] at iU;have hf:(x,NameKind.free)∈scope.names:=by
   cases q:scope.names.lookup x with
   | none=>rw[q] at iU;simp at iU
   | some k=>
    rw[q] at iU;have hm:=PySem.mem_of_lookup q;by_cases mz:k=.free
    ·subst mz;exact hm
    ·have qv:(k==NameKind.free)=false:=by simpa using mz
     simp only[qv,aM,Bool.false_and,aF,bE,aD] at iU;rcases iU with z | z
     ·exact absurd z (cs.px _ hm)
     ·exact absurd z mz
  obtain⟨c,hc⟩:=CP (cells:=X.env.cells) (acc:=[]) hf;exact DL hc
 ·rcases(f b hb).2.2.2.1 with z | z
  ·exact I.ok.pq b o e z
  ·exact absurd (aZ (ax (I.ok.bs b o e).1) z) (Nat.lt_irrefl _)
 ·rcases aq.mp (I.mq b z) with q | q
  ·exact(f b hb).2.1 q
  ·exact(f b hb).2.2.1 q
 ·unfold lg at h2;rw[ao] at h2;cases q:m[i]? with
  | none=>rw[q] at h2;cases h2
  | some o=>
   rw[q] at h2;cases o with
   | none=>cases h2
   | some j=>
    simp only[aM,aD] at h2;have K7:σ[j]?=some (some v):=by
     cases z:σ[j]? with
     | none=>rw[z] at h2;cases h2
     | some a=>rw[z] at h2;simp at h2;rw[h2]
    obtain⟨hN,pN⟩:=cs.Xq i j x q h1;have KS:=PySem.mem_of_lookup pN;obtain⟨m0,XW,hl⟩:=I.loc;have nh:=cs.free _ KS rfl;have Ez:js X.env.scope x:=nh.elim (fun z=>.inr (.inl z)) (fun z=>.inr (.inr z));obtain⟨u,ru,lu⟩:=hl j x v hN K7 Ez;refine⟨u,ru,.inr ⟨?_,?_⟩⟩
    ·show(relabel scope X.env).names.lookup x=some .cell\/(relabel scope X.env).names.lookup x=some .free;have e:(relabel scope X.env).names.lookup x=(scope.names.lookup x).map fun k=>if (k==NameKind.free&&X.env.scope.kind==.function&&X.env.kindOf x==some .cell) then NameKind.cell else k:=DM
     rw[e,pN];simp only[aM];split
     ·exact .inl rfl
     ·exact .inr rfl
    ·rcases lu with⟨k,_⟩ | ⟨_,c,e,z⟩
     ·rcases nh with z | z<;>· rw[k] at z;cases z
     ·obtain⟨c',sO⟩:=DL (CP (cells:=X.env.cells) (acc:=[]) KS).choose_spec;have:=kh x c' sO;rw[e] at this;cases this;obtain⟨oc,vI,hd⟩:=z;exact⟨c,sO,oc,hk c oc vI,hd⟩
 ·obtain⟨v,oc,vI,hd⟩:=I.cell x c (kh x c e);exact⟨v,oc,hk c oc vI,hd⟩
 ·show(lg m σ).length=N'.length;unfold lg;rw[af,cs.len]
theorem Jr{use:Option (Value->Sem Unit)}{Q':Value->Shared->Prop}{pins:List (Addr×Obj)}{s:Shared}{σ:St}{H:Hp}{Q:VK}
  (hc:X.calm=true) (cs:cC X N' m scope) (hi:PI X tg iter wi) (hg:∀s3 H3 ex,PG (fV X N' scope s3 H3 ex) tg (g s3 H3 ex)) (ht:∀s3 H3 ex,vU (fV X N' scope s3 H3 ex) ifs (tc s3 H3 ex))
  (he:∀s3 H3 ex,PE (fV X N' scope s3 H3 ex) elt (te s3 H3 ex)) (I:Inv X pins σ H s) (h:tq wi m g tc te σ H Q)
  (fin:∀D C s' H',Inv X pins σ H' s'->i7 X pins H' C->(∃m,s'.heap.Ns C m)->Q (.ref D) H'->compPost (model X.prog X.w) X.A X.xe use Q' (.ref D) C (.ok .next) s') :
  wpAny (model X.prog X.w) X.A (eval iter X.env) (fun x cB=>wpAny (model X.prog X.w) X.A (pyIter x) (fun it gO=>wpAny (model X.prog X.w) X.A (newList []) (fun acc kZ=>
   wpAny (model X.prog X.w) X.A (newFunctionEnv scope X.env.globals (mh X.env.cells scope.names []) [] X.env.qual none .none (some X.env)) (fun zi qU=>
    codeAny (model X.prog X.w) X.A (.compStart (.ListComp elt [⟨tg,iter,ifs,0⟩] scope pos) 0 it acc { zi with scope:=relabel scope X.env }) (compPost (model X.prog X.w) X.A X.xe use Q' acc zi.locals) qU) X.xe kZ) X.xe gO) X.xe cB) X.xe s:=by
 refine cL (hi pins s σ H _ I h) fun v s1 h1=>cL h1 fun El s2 h2=>?_
 obtain⟨it,fp,tn,J,H2,e,I2,T,A1,f2,h⟩:=h2;subst e;refine bG (wpAny_newFunctionEnv cs.px (by intro y hy;simp at hy) (fun iZ ur uk=>?_) cs.kind);have hf:H2 s2.heap.objs.size=none:=I2.cN.fresh (az _);obtain⟨W,⟨k0,w0⟩,turn⟩:=h s2.heap.objs.size hf { s2 with heap:=s2.heap.push { cls:=.type "list",data:=.seq ([]:List Value).toArray } } fp;have I3:Inv X pins σ (upd H2 s2.heap.objs.size (.lst [])) { s2 with heap:=s2.heap.push { cls:=.type "list",data:=.seq ([]:List Value).toArray } }:=I2.uc (its:=[]) (t':=s2.toks) .nil (by simp);have Le:∀b∈fp,b<s2.heap.objs.size:=fun b hb=>by
  obtain⟨o,e,_⟩:=T.obj _ _ A1 b hb;exact ax e
 have f3:∀b∈fp,i7 X pins (upd H2 s2.heap.objs.size (.lst [])) b:=fun b hb=>⟨by rw[cX (aA (Le b hb))];exact(f2 b hb).1,(f2 b hb).2⟩
 generalize Ko:({ s2 with heap:=s2.heap.push { cls:=.type "list",data:=.seq ([]:List Value).toArray } }:Shared)=s3 at *;have hC:s3.heap.objs.size=s2.heap.objs.size+1:=by rw[<-Ko];exact Heap.size_push ..
 have Lf:∀b∈fp,b<s3.heap.objs.size:=fun b hb=>by rw[hC];exact bH (Le b hb)
 have k3:∀b o,s2.heap.get? b=some o->s3.heap.get? b=some o:=fun b o e=>by rw[<-Ko];exact ae _ e
 have k1:∀b o,s3.heap.get? b=some o->iZ.get? b=some o:=fun b o e=>uk.extBut b o (aA (ax e)) (ae _ e)
 have J0:=QQ (tk:=s3.toks+([]:List (Str×Value)).length) cs I3 f3 Lf ur k1;have tS:tn 0 iZ:=T.keep _ _ _ A1 fun b _ o e=>k1 b o (k3 b o e)
 have FD:∀{H':Hp},(∀b∈fp,H' b=none)->∀b∈fp,i7 (fV X N' scope s3 (upd H2 s2.heap.objs.size (.lst [])) fp) [] H' b:=fun hn b hb=>
  ⟨hn b hb,aA (Lf b hb),J0.ok.pR b hb,.inl hb,(J0.ok.FG b hb).2,fun p hp=>by cases hp⟩
 have pN:∀b∈fp,(upd H2 s2.heap.objs.size (.lst [])) b=none:=fun b hb=>(f3 b hb).1
 have loop:codeAny (model X.prog X.w) X.A (.compLoop (.ListComp elt [⟨tg,iter,ifs,0⟩] scope pos) 0 (.ref it) (.ref s2.heap.objs.size) (compEnvC scope (mh X.env.cells scope.names []) s3.heap.objs.size X.env))
   (compPost (model X.prog X.w) X.A X.xe use Q' (.ref s2.heap.objs.size) s3.heap.objs.size) { s3 with heap:=iZ,toks:=s3.toks+([]:List (Str×Value)).length }:=by
  refine Sj (fun n s'=>∃i cF H',Inv (fV X N' scope s3 (upd H2 s2.heap.objs.size (.lst [])) fp) [] cF H' s'/\tn i s'.heap/\(∀b∈fp,H' b=none)/\W i n cF H') ?_ k0 ⟨0,_,_,J0,tS,pN,w0⟩;rintro n s4 ⟨i,om,H4,I4,JU,qw,w4⟩;rcases turn i n om H4 w4 with⟨stop,qn⟩ | ⟨go,N,hN,step⟩
  ·refine cL (T.done (fV X N' scope s3 (upd H2 s2.heap.objs.size (.lst [])) fp) rfl rfl rfl hc i [] s4 om H4 _ I4 (FD qw) JU stop) fun r s5 cq=>?_
   obtain⟨hr,I5⟩:=cq;subst hr;have oK:∀b∈fp,(b∈X.ex\/X.eF.heap.objs.size<=b)/\b≠X.env.locals/\(∀x c,X.env.cells.lookup x=some c->c≠b)/\∀p∈X.pn++pins,p.1≠b:=fun b hb=>⟨(f2 b hb).2.2.2.1,(f2 b hb).2.1,(f2 b hb).2.2.2.2.1,(f2 b hb).2.2.2.2.2⟩
   have I6:Inv X pins σ H4 s5:=I3.zj (ch:=fp) I5.os I5.base I5.cN I5.bare oK;obtain⟨m5,Wb,_⟩:=id I5.loc;exact fin _ _ s5 H4 I6 (I3.kl (az _) I5.free) ⟨m5,Wb⟩ qn
  ·refine cL (T.item (fV X N' scope s3 (upd H2 s2.heap.objs.size (.lst [])) fp) rfl rfl rfl hc i [] s4 om H4 _ I4 (FD qw) JU go) fun r s5 cq=>?_
   obtain⟨u,hr,h5⟩:=cq;subst hr;refine cL h5 fun _ s6 cq=>?_
   obtain⟨x,H6,I6,r6,y6,DS,W9⟩:=cq;have Xu:=I6.pinned (FD W9) (T.obj _ _ DS);refine cL (hg _ _ _ _ s6 om H6 x u _ Xu r6 (step x H6 y6)) fun _ s7 cq=>?_
   obtain⟨lN,H7,I7,q7⟩:=cq;refine cL (ht _ _ _ _ s7 lN H7 _ I7 q7) fun b s8 cq=>?_
   obtain⟨H8,I8,q8⟩:=cq;have again:∀{s9:Shared} {vW:St} {H9:Hp},Inv (fV X N' scope s3 (upd H2 s2.heap.objs.size (.lst [])) fp) ([]++wM fp s6.heap) vW H9 s9->N vW H9->∃m,m<n/\∃i cF H',Inv (fV X N' scope s3 (upd H2 s2.heap.objs.size (.lst [])) fp) [] cF H' s9/\tn i s9.heap/\(∀b∈fp,H' b=none)/\W i m cF H':=fun{s9 vW H9} I9 n9=>by
    obtain⟨m',hm,w9⟩:=hN vW H9 n9;refine⟨m',hm,i+1,vW,H9,I9.g6,T.keep _ _ _ DS fun b hb o e=>(I9.pin (b,o) (bu _ (bu _ (AO hb e)))).1,fun b hb=>?_,w9⟩;obtain⟨o,e,d⟩:=T.obj _ _ DS b hb;exact(I9.pin (b,o) (bu _ (bu _ (AO hb e)))).2.1
   cases b with
   | false=>exact again I8 q8
   | true=>
    rw[if_pos rfl];refine cL (he _ _ _ _ s8 lN H8 _ I8 q8) fun y s9 cq=>?_
    obtain⟨v9,H9,I9,r9,xs,hD,hz,q9⟩:=cq;refine cL (vv _ s9 lN H9 (.ref s2.heap.objs.size) [v9] (.ref s2.heap.objs.size) [y] (fun _ H'=>N lN H') I9 rfl (.cons r9 .nil) ⟨_,xs,v9,rfl,rfl,hD,hz,q9⟩) fun _ XM cq=>?_
    obtain⟨_,X9,Xw,_,Vg⟩:=cq;exact again Xw Vg
 exact codeAny_compStart_list loop (T.self _ 0 _ _ _ tS loop)
theorem OZ(hc:X.calm=true)(cs:cC X N' m scope)(hi:PI X tg iter wi)(hg:∀s3 H3 ex,PG (fV X N' scope s3 H3 ex) tg (g s3 H3 ex))(ht:∀s3 H3 ex,vU (fV X N' scope s3 H3 ex) ifs (tc s3 H3 ex))
  (he:∀s3 H3 ex,PE (fV X N' scope s3 H3 ex) elt (te s3 H3 ex)) (hs:∀x,foldedSetIterable iter X.env x=pure x:=by intro _;rfl):PE X (.ListComp elt [⟨tg,iter,ifs,0⟩] scope pos) (tq wi m g tc te):=by
 intro pins s σ H Q I h;rw[eval_ListComp];have dD:∀y∈scope.names,y.2=.free->∃c,X.env.cells.lookup y.1=some c:=fun y hy hf=>I.ok.has y.1 (cs.free y hy hf)
 refine wpAny_comprehension_free (use:=none) rfl hs (JD dD) cs.kind cs.names (Jr hc cs hi hg ht he I h fun D C s' H' I' fC ⟨mC,hn⟩ q=>?_);refine⟨mC,hn,fun h' sb=>⟨.ref D,H',I'.turned (t':=s'.toks) (fun b o hb e=>(sb.2 b hb).trans e) fC.1 fC.2.1 fC.2.2.2.1 fC.2.2.2.2.1 fC.2.2.2.2.2,rfl,q⟩⟩
theorem ve{i:Nat}{x:Str}{pos' ft:Pos}(hN:X.N.Nodup)(ni:X.N[i]?=some x)(hx:Loc X.env.scope x)
  (hc:X.calm=true) (cs:cC X N' m scope) (hi:PI X tg iter wi) (hg:∀s3 H3 ex,PG (fV X N' scope s3 H3 ex) tg (g s3 H3 ex)) (ht:∀s3 H3 ex,vU (fV X N' scope s3 H3 ex) ifs (tc s3 H3 ex))
  (he:∀s3 H3 ex,PE (fV X N' scope s3 H3 ex) elt (te s3 H3 ex)) (hs:∀x,foldedSetIterable iter X.env x=pure x:=by intro _;rfl)
  (nY:swapsWith (.ListComp elt [⟨tg,iter,ifs,0⟩] scope pos) (some (.Name x pos')) ft.line X.env=pure true:=by rfl)
  (hf:X.fn x=true\/X.env.scope.names.lookup x=some .local:=by first | exact .inl rfl | exact .inr rfl | assumption) :
  PS X (.Assign [.Name x pos'] (.ListComp elt [⟨tg,iter,ifs,0⟩] scope pos) ft) (zP (tq wi m g tc te) (uX i)):=by
 intro pins s σ H D I h;have dD:∀y∈scope.names,y.2=.free->∃c,X.env.cells.lookup y.1=some c:=fun y hy hf=>I.ok.has y.1 (cs.free y hy hf)
 rw[exec_Assign_Name_used _ _ _ _ nY];refine aa (wpAny_standAt (aa ?_));show wpAny _ _ (do let _ <-comprehension (.ListComp elt [⟨tg,iter,ifs,0⟩] scope pos) scope X.env _ (newList []) false (eval iter X.env) (some (assign (.Name x pos') X.env))) _ _ s;refine aa (wpAny_mono (wpAny_comprehension_free (use:=some (assign (.Name x pos') X.env)) (Q:=fun _ s'=>SP X pins D .next s') rfl hs (JD dD) cs.kind cs.names (Jr hc cs hi hg ht he I h fun A C s' H' I' fC ⟨mC,hn⟩ q=>?_)) (fun _ s' hq=>ai (ai hq)) fun _ _ e=>e);show wpAny _ _ (assign (.Name x pos') X.env (.ref A)) _ _ _;refine wpAny_assign_Name (Jq I' hN ni hx (show RelV (.ref A) (.ref A) from rfl) (fun s2 I2 V0=>?_) hf);obtain⟨a,U7,ha⟩:=V0;have W3:C≠a:=by
  rcases ha with rfl | ha
  ·exact fC.2.1
  ·exact fun z=>fC.2.2.2.2.1 x a ha z.symm
 refine⟨mC,hn.sameBut U7 W3,fun h' sb=>⟨_,H',I2.turned (t':=s2.toks) (fun b o hb e=>(sb.2 b hb).trans e) fC.1 fC.2.1 fC.2.2.2.1 fC.2.2.2.2.1 fC.2.2.2.2.2,q⟩⟩
end
end L2
namespace L2
open PySem PySem.Spec PyProof.Rows
theorem B3:2<=sizeLine:=by decide
theorem Inv.fw{X:Cx}{pins:List (Addr×Obj)}{σ:St}{H:Hp}{s:Shared}{h':Heap}{t':Nat}{fp:List Addr}(I:Inv X pins σ H s)(k:∀b o,b∉fp->s.heap.get? b=some o->h'.get? b=some o)(f:∀b∈fp,i7 X pins H b) :
  Inv X pins σ H { s with heap:=h',toks:=t' }:=by
 have sC:∀b u,H b=some u->b∉fp:=fun b u e z=>by rw[(f b z).1] at e;cases e
 refine I.step (g':=s.gens) (d':=s.drawn) (ch:=fp) (fun b hb=>⟨(f b hb).2.2.2.1,(f b hb).2.1,(f b hb).2.2.2.2.1,(f b hb).2.2.2.2.2⟩) (fun b o _ _ hc e _=>k b o hc e) (fun b o _ _ hc e _=>⟨o.slots,k b o hc e⟩) (fun _ _ _ _ n=>n)
  (fun b o hc e=>⟨o,k b o hc e⟩) (fun _ _ e=>e) (fun _ _ _ e=>e) (fun b ps e=>⟨#[],by rw[e];simp⟩) (fun m hm=>?_) (fun b u e=>?_) I.bare
 ·obtain⟨o,es,ep,ho,r⟩:=hm;exact⟨o,es,ep,k _ o (fun z=>(f _ z).2.1 rfl) ho,r⟩
 ·refine(I.cN b u e).fS (fun c v hc q=>k c v ?_ q) (fun _ q=>q) fun _ _ q=>q
  rcases hc with z | z
  ·rw[z];exact sC b u e
  ·exact sC c _ z
theorem Inv.iy{X:Cx}{pins:List (Addr×Obj)}{σ:St}{H:Hp}{s:Shared}{h':Heap}{t':Nat}{fp:List Addr}{a:Addr}{o:HO}(I:Inv X pins σ H s)(k:∀b o,b∉fp->s.heap.get? b=some o->h'.get? b=some o)(f:∀b∈fp,i7 X pins H b)
  (hp:s.heap.objs.size<=a) (new:cU X.prog X.w (upd H a o) h' a o):Inv X pins σ (upd H a o) { s with heap:=h',toks:=t' }:=by
 have dD:H a=none:=I.cN.fresh hp;have sC:∀b u,H b=some u->b∉fp:=fun b u e z=>by rw[(f b z).1] at e;cases e
 refine I.step (g':=s.gens) (d':=s.drawn) (ch:=fp) (fun b hb=>⟨(f b hb).2.2.2.1,(f b hb).2.1,(f b hb).2.2.2.2.1,(f b hb).2.2.2.2.2⟩) (fun b o _ _ hc e _=>k b o hc e) (fun b o _ _ hc e _=>⟨o.slots,k b o hc e⟩)
  (fun b o _ q n=>by rw[cX (aA (aZ (ax q) hp))];exact n)
  (fun b o hc e=>⟨o,k b o hc e⟩) (fun b zs q=>by rw[cX (jf q dD)];exact q) (fun b ob zs q=>by rw[cX (jf q dD)];exact q) (fun b ps q=>⟨#[],by rw[cX (jf q dD),q];simp⟩) (fun m hm=>?_) (fun b u q=>?_) I.bare
 ·obtain⟨o,es,ep,ho,r⟩:=hm;exact⟨o,es,ep,k _ o (fun z=>(f _ z).2.1 rfl) ho,r⟩
 ·by_cases hb:b=a
  ·subst hb;rw[fk] at q;cases q;exact new
  ·rw[cX hb] at q;refine(I.cN b u q).fS (fun c v hc z=>k c v ?_ z) (fun c z=>by rw[cX (jf z dD)];exact z) fun c zs z=>by rw[cX (jf z dD)];exact z
   rcases hc with rfl | hc
   ·exact sC _ _ q
   ·exact sC _ _ hc
noncomputable def Br(x:Str):It:=⟨fun i _=>i<x.cps.size,fun i H v H'=>H'=H/\∃c,x.cps[i]?=some c/\v=.str ⟨#[c]⟩,fun i _=>i=x.cps.size⟩
theorem QP{P:Program}{w:World}{K:PySem.W.Frag}{tg:Expr}{x:Str}{it:Addr}{n:String}{t:Tok}(hn:["enumerate","zip","dict_itemiterator","dict_reverseitemiterator","odict_iterator","itertools.zip_longest","itertools.pairwise"].contains n=false)
  (W:∀A':Around,A'.handled=none->Walks P w A' it [it] [it] x.cps.size (SignAt x) (fun i h=>h.IsStrIter it n x t i))
  (hs:∀(A:Around) (i:Nat) (s:Shared) (Q:Value->Shared->Prop) (E:Value->Shared->Prop),s.heap.IsStrIter it n x t i->Q (.ref it) s->wpAny (model P w) A (pyIter (.ref it)) Q E s):Turn P w K tg (Br x) [it] it (fun i h=>h.IsStrIter it n x t i) where
 mem:=by simp
 obj:=fun i h st b hb=>by
  have e:b=it:=by simpa using hb
  subst e;obtain⟨o,e,c,d⟩:=st;exact⟨o,e,fun v z=>by rw[d] at z;cases z⟩
 keep:=fun i h h' st k=>by
  obtain⟨o,e,r⟩:=st;exact⟨o,k it (by simp) o e,r⟩
 item:=by
  intro X hP hw hK hc i pins s σ H E I hf st hg;subst hP hw hK;refine(W X.A (I.ok.hd hc)).item i s _ _ hg st fun v h' tk hv eG kk=>?_
  obtain⟨c,u,hx,rfl⟩:=hv;have I1:Inv X pins σ H { s with heap:=h',toks:=tk }:=I.fw kk hf;obtain⟨o,e,c',d⟩:=id eG;exact⟨_,rfl,wA (s:={ s with heap:=h',toks:=tk }) e c' d hn ⟨.str ⟨#[c]⟩,H,I1,⟨u,rfl⟩,⟨rfl,c,hx,rfl⟩,eG,fun b hb=>(hf b hb).1⟩⟩
 done:=by
  intro X hP hw hK hc i pins s σ H E I hf st hg;subst hP hw hK;have e:i=x.cps.size:=hg;subst e;exact(W X.A (I.ok.hd hc)).done s _ _ st fun h' tk kk=>⟨rfl,I.fw kk hf⟩
 self:=hs
section
variable {X:Cx} {tg:Expr}
theorem Nm{pins:List (Addr×Obj)}{σ:St}{H:Hp}{s:Shared}{R:It->Hp->Prop}{E:Value->Shared->Prop}{x:Str}{t:Tok}(I:Inv X pins σ H s)(q:R (Br x) H) :
  wpAny (model X.prog X.w) X.A (pyIter (.str x t)) (Bq X pins σ tg R) E s:=by
 have fin:∀(o:Obj) (n:String),(hn:["enumerate","zip","dict_itemiterator","dict_reverseitemiterator","odict_iterator","itertools.zip_longest","itertools.pairwise"].contains n=false)->
   (W:∀A':Around,A'.handled=none->Walks X.prog X.w A' s.heap.objs.size [s.heap.objs.size] [s.heap.objs.size] x.cps.size (SignAt x) (fun i h=>h.IsStrIter s.heap.objs.size n x t i))->
   (hs:∀(A:Around) (i:Nat) (s':Shared) (Q:Value->Shared->Prop) (E:Value->Shared->Prop),s'.heap.IsStrIter s.heap.objs.size n x t i->Q (.ref s.heap.objs.size) s'->wpAny (model X.prog X.w) A (pyIter (.ref s.heap.objs.size)) Q E s')->
   (s.heap.push o).IsStrIter s.heap.objs.size n x t 0->Bq X pins σ tg R (.ref s.heap.objs.size) { s with heap:=s.heap.push o }:=fun o n hn W hs st=>by
  refine⟨s.heap.objs.size,[s.heap.objs.size],_,_,H,rfl,I.kept (t':=s.toks) fun b o e=>ae _ e,QP hn W hs,st,fun b hb=>?_,q⟩;have e:b=s.heap.objs.size:=by simpa using hb
  subst e;exact I.kl (az _) (I.cN.fresh (az _))
 cases ha:x.cps.all (·<128)
 ·exact wpAny_pyIter_wide ha (fin _ _ (by decide) (fun A' hA=>Walks.strWide hA _ x t) (fun _ _ _ _ _ st q=>wpAny_pyIter_striter_wide st q) ⟨_,av _ rfl,rfl,rfl⟩)
 ·exact wpAny_pyIter_ascii ha (fin _ _ (by decide) (fun A' hA=>Walks.strAscii hA _ x t) (fun _ _ _ _ _ st q=>wpAny_pyIter_striter_ascii st q) ⟨_,av _ rfl,rfl,rfl⟩)
def Gd(K:PySem.W.Frag)(tl:TE):TI:=fun σ H R=>tl σ H fun x H1=>(∃a,x=.ref a/\(∃xs,dY K H1 a xs)/\R (F0 K a) H1)\/(∃a,x=.ref a/\(∃xs,fQ K H1 a xs)/\R (FZ K a) H1)\/(∃z,x=.str z/\R (Br z) H1)
theorem GL{l:Expr}{tl:TE}(hl:PE X l tl):PI X tg l (Gd X.K tl):=by
 intro pins s σ H R I h;refine cL (hl pins s σ H _ I h) fun v s1 cq=>?_
 obtain⟨x,H1,I1,r1,q1⟩:=cq;rcases q1 with⟨a,e,⟨xs,hq⟩,q⟩ | ⟨a,e,⟨xs,hq⟩,q⟩ | ⟨z,e,q⟩
 ·subst e;cases r1;obtain⟨its,rv,p,hz⟩:=I1.list hq;refine wpAny_pyIter_list p.isList ?_;refine⟨s1.heap.objs.size,[s1.heap.objs.size],_,_,H1,rfl,I1.kept (t':=s1.toks) fun b o e=>ae _ e,RU a _,⟨_,av _ rfl,rfl,rfl⟩,fun b hb=>?_,q⟩;have e:b=s1.heap.objs.size:=by simpa using hb
  subst e;exact I1.kl (az _) (I1.cN.fresh (az _))
 ·subst e;cases r1;obtain⟨its,rv,p,hz⟩:=I1.tuple hq;refine wpAny_pyIter_tuple (show s1.heap.IsTuple a its.toArray from p) ?_;refine⟨s1.heap.objs.size,[s1.heap.objs.size],_,_,H1,rfl,I1.kept (t':=s1.toks) fun b o e=>ae _ e,R7 a _,⟨_,av _ rfl,rfl,rfl⟩,fun b hb=>?_,q⟩;have e:b=s1.heap.objs.size:=by simpa using hb
  subst e;exact I1.kl (az _) (I1.cN.fresh (az _))
 ·subst e;obtain⟨t,rfl⟩:=r1;exact Nm I1 q
end
noncomputable def F2(K:PySem.W.Frag)(a:Addr):It:=
 ⟨fun i H=>∃xs x,dY K H a xs/\xs[i]?=some x,fun i H v H'=>∃t,v=.ref t/\H t=none/\∀xs,dY K H a xs->∃x,xs[i]?=some x/\H'=upd H t (.tup [.int i,x]),fun i H=>∃xs,dY K H a xs/\xs.length<=i⟩
noncomputable def FY(K:PySem.W.Frag)(a b:Addr):It:=
 ⟨fun i H=>∃xs ys x y,dY K H a xs/\dY K H b ys/\xs[i]?=some x/\ys[i]?=some y,fun i H v H'=>∃t,v=.ref t/\H t=none/\∀xs ys,dY K H a xs->dY K H b ys->∃x y,xs[i]?=some x/\ys[i]?=some y/\H'=upd H t (.tup [x,y]),
  fun i H=>∃xs ys,dY K H a xs/\dY K H b ys/\(xs.length<=i\/ys.length<=i)⟩
theorem B2{H:Hp}{t:Addr}{o:HO}{fp:List Addr}(h:∀b∈fp,H b=none)(ht:∀b∈fp,b≠t):∀b∈fp,upd H t o b=none:=fun b hb=>by rw[cX (ht b hb)];exact h b hb
theorem R0{prog:Program}{w:World}{A:Around}{E:Value->Shared->Prop}{s:Shared}{elts:List Expr}{x1}{pos:Pos}{e it T:Addr}{i:Int}{old:Value}{Q:Unit->Shared->Prop}(he:IsEnumOut s.heap e it i old T)
  (hQ:∀h',IsEnum h' e it i old->Heap.SameBut e s.heap h'->Q () { s with heap:=h' }) :
  wpAny (model prog w) A (letOwnedTupleGo (.Tuple elts x1 pos) (.ref e) (.ref T)) Q E s:=by
 unfold letOwnedTupleGo;refine aa (wpAny_load he ?_);show wpAny _ _ (if (["enumerate","zip","dict_itemiterator","dict_reverseitemiterator","odict_iterator","itertools.zip_longest","itertools.pairwise"].contains "enumerate" &&
   (#[rawInt T,.bool false,.ref it,rawInt i,.none,old]:Array Value)[0]?==some (rawInt T))=true then _ else _) Q E s
 rw[if_pos (by simp)];refine aa (wpAny_rule ?_);show wpAny _ _ (setField (.ref e) 0 .none) Q E s;exact wpAny_setField_rec he (by simp) fun h' Ba l4=>hQ h' Ba l4
theorem RK{P:Program}{w:World}{K:PySem.W.Frag}{elts:List Expr}{x1}{pos:Pos}(a e it:Addr)(cE:e≠it):Turn P w K (.Tuple elts x1 pos) (F2 K a) [e,it] e (fun i h=>(∃old,IsEnum h e it i old)/\h.IsListIter it a i) where
 mem:=by simp
 obj:=fun i h st b hb=>by
  obtain⟨⟨old,h1⟩,o,h2,c,d⟩:=st;rcases aq.mp hb with rfl | hb
  ·exact⟨_,h1,fun v z=>by have z':Data.fields _=Data.cell v:=z;cases z'⟩
  ·have e:b=it:=by simpa using hb
   subst e;exact⟨o,h2,fun v z=>by rw[d] at z;cases z⟩
 keep:=fun i h h' st k=>by
  obtain⟨⟨old,h1⟩,h2⟩:=st;exact⟨⟨old,k e (by simp) _ h1⟩,h2.at fun o q=>k it (by simp) o q⟩
 item:=by
  intro X hP hw hK hc i pins s σ H E I hf st hg;subst hP hw hK;obtain⟨xs,x,hq,hx⟩:=hg;obtain⟨its,rv,p,hz⟩:=I.list hq;obtain⟨u,hu,ru⟩:=rv.get hx;obtain⟨⟨old,h1⟩,h2⟩:=st;refine wpAny_pyNext_enum_item h1 h2 p.isList (x:=u) (by simpa using hu) cE fun h' e1 e2 e3 e4 kk=>?_
  refine⟨_,rfl,R0 e1 fun rH e5 sb=>?_⟩;have yu:s.heap.objs.size≠e:=Nat.ne_of_gt (ax h1);have EE:s.heap.objs.size≠it:=by obtain⟨o,q,_⟩:=h2;exact Nat.ne_of_gt (ax q)
  have hT:rH.get? s.heap.objs.size=some { cls:=.type "tuple",data:=.seq #[.int i s.toks,u] }:=sb.extBut _ _ yu e3;have dD:H s.heap.objs.size=none:=I.cN.fresh (az _);have new:cU X.prog X.w (upd H s.heap.objs.size (.tup [.int i,x])) rH s.heap.objs.size (.tup [.int i,x]):=⟨B3,[.int i s.toks,u],.cons ⟨_,rfl⟩ (.cons ru .nil),⟨_,hT,rfl,_,rfl⟩⟩
  refine⟨.ref s.heap.objs.size,upd H s.heap.objs.size (.tup [.int i,x]),I.iy (fp:=[e,it]) (fun b o hb q=>sb.extBut b o (fun z=>hb (by simp[z])) (kk b o (fun z=>hb (by simp[z])) (fun z=>hb (by simp[z])) q)) hf (az _) new,rfl,
   ⟨_,rfl,dD,fun ys hy=>⟨x,by rw[I.fZ hy hq];exact hx,rfl⟩⟩,⟨⟨u,e5⟩,e2.extBut sb.extBut (Ne.symm cE)⟩,B2 (fun b hb=>(hf b hb).1) fun b hb=>?_⟩
  rcases aq.mp hb with rfl | hb
  ·exact yu.symm
  ·have z:b=it:=by simpa using hb
   rw[z];exact EE.symm
 done:=by
  intro X hP hw hK hc i pins s σ H E I hf st hg;subst hP hw hK;obtain⟨xs,hq,hx⟩:=hg;obtain⟨its,rv,p,hz⟩:=I.list hq;obtain⟨⟨old,h1⟩,h2⟩:=st;have hl:=rv.length;exact wpAny_pyNext_enum_end (I.ok.hd hc) h1 h2 p.isList (by simp;omega) fun h' eb=>⟨rfl,I.fw (fp:=[e,it]) (t':=s.toks) (fun b o hb q=>eb b o (fun z=>hb (by simp[z])) q) hf⟩
 self:=fun _ _ _ _ _ st h=>by
  obtain⟨⟨old,h1⟩,_⟩:=st;exact wpAny_pyIter_enum h1 h
end L2
namespace L2
open PySem PySem.Spec PyProof.Rows
section
variable {X:Cx} {elts:List Expr} {x1:Nat} {mn:Pos}
def LZ(K:PySem.W.Frag)(ta:TA):TI:=fun σ H R=>ta σ H fun vs H1=>∃a xs,vs=[.ref a]/\jt K H1 a xs/\R (F2 K a) H1
theorem OY{a:Expr}{ta:TA}{p pos:Pos}(hg:Gl X "enumerate")(hm:X.mg "enumerate"=none)(ha:PA X [a] ta)(hs:starEach [a] X.env=[(false,eval a X.env)]:=by rfl):PI X (.Tuple elts x1 mn) (.Call (.Name "enumerate" p) [a] [] pos) (LZ X.K ta):=by
 intro pins s σ H R I h;refine Call_ (qh I hg hm boot_enumerate (PyProof.Rows.callWith_type1 (cL (ha pos pins s σ H _ I h) fun us s1 cq=>?_) hs rfl));obtain⟨vs,H1,I1,r1,q1⟩:=cq;obtain⟨l,xs,e,hl,q⟩:=q1;subst e;obtain⟨u,rfl,ru⟩:=j8 r1;cases ru;obtain⟨z,its,n,r,e⟩:=I1.fb hl;refine call_enumerate_1 e fun h' e1 e2 e3 kk=>?_
 refine wpAny_pyIter_enum e1 ?_;have cE:s1.heap.objs.size+1≠s1.heap.objs.size:=by omega
 refine⟨s1.heap.objs.size+1,[s1.heap.objs.size+1,s1.heap.objs.size],_,_,H1,rfl,I1.kept (t':=s1.toks) kk,RK l _ _ cE,⟨⟨_,e1⟩,e2⟩,fun b hb=>?_,q⟩;have rF:s1.heap.objs.size<=b:=by
  rcases aq.mp hb with rfl | hb
  ·exact Nat.le_succ _
  ·have e:b=s1.heap.objs.size:=by simpa using hb
   exact Nat.le_of_eq e.symm
 exact I1.kl rF (I1.cN.fresh rF)
theorem QO{P:Program}{w:World}{K:PySem.W.Frag}(a b z TI TO i1 i2:Addr)(D1:TI≠z/\TO≠z/\i1≠z/\i2≠z/\TI≠TO/\TI≠i1/\TI≠i2/\TO≠i1/\TO≠i2/\i1≠i2):Turn P w K (.Tuple elts x1 mn) (FY K a b) [z,TI,TO,i1,i2] z
  (fun i h=>IsZip h z TI TO .none/\IsPair h TI (.ref i1) (.ref i2)/\(∃a b,IsPair h TO a b)/\h.IsListIter i1 a i/\h.IsListIter i2 b i) where
 mem:=by simp
 obj:=fun i h st c hc=>by
  obtain⟨h1,h2,⟨u,v,h3⟩,⟨o1,g1,_,d1⟩,⟨o2,g2,_,d2⟩⟩:=st;simp only[aq,br,or_false] at hc;rcases hc with rfl | rfl | rfl | rfl | rfl
  ·exact⟨_,h1,fun v z=>by have z':Data.fields _=Data.cell v:=z;cases z'⟩
  ·exact⟨_,h2,fun v z=>by have z':Data.seq _ _=Data.cell v:=z;cases z'⟩
  ·exact⟨_,h3,fun v z=>by have z':Data.seq _ _=Data.cell v:=z;cases z'⟩
  ·exact⟨_,g1,fun v z=>by rw[d1] at z;cases z⟩
  ·exact⟨_,g2,fun v z=>by rw[d2] at z;cases z⟩
 keep:=fun i h h' st k=>by
  obtain⟨h1,h2,⟨u,v,h3⟩,h4,h5⟩:=st;exact⟨k z (by simp) _ h1,k TI (by simp) _ h2,⟨u,v,k TO (by simp) _ h3⟩,h4.at fun o q=>k i1 (by simp) o q,h5.at fun o q=>k i2 (by simp) o q⟩
 item:=by
  intro X hP hw hK hc i pins s σ H E I hf st hg;subst hP hw hK;obtain⟨xs,ys,x,y,hq,f6,hx,hy⟩:=hg;obtain⟨its,rv,p,hz⟩:=I.list hq;obtain⟨pC,lY,p2,yk⟩:=I.list f6;obtain⟨u,hu,ru⟩:=rv.get hx;obtain⟨v,hv,U9⟩:=lY.get hy;obtain⟨h1,h2,⟨c,d,h3⟩,h4,h5⟩:=st;obtain⟨d1,d2,d3,d4,d5,d6,d7,d8,d9,FQ⟩:=D1;have ye:∀{l:Addr} {its:List Value},PlainL s.heap l its.toArray->l≠z/\l≠TO/\l≠i1/\l≠i2:=fun{l its} pl=>by
   obtain⟨o,n,e,c1,_,dd⟩:=pl;obtain⟨o1,g1,c4,_⟩:=h4;obtain⟨o2,g2,c5,_⟩:=h5;refine⟨?_,?_,?_,?_⟩
   ·rintro rfl;rw[h1] at e;cases e;simp at c1
   ·rintro rfl;rw[h3] at e;cases e;simp at c1
   ·rintro rfl;rw[g1] at e;cases e;rw[c4] at c1;simp at c1
   ·rintro rfl;rw[g2] at e;cases e;rw[c5] at c1;simp at c1
  obtain⟨e1,e2,e3,e4⟩:=ye p;obtain⟨f1,f2,f3,f4⟩:=ye p2;have D:ZipApart z TI TO i1 i2 a b:=⟨d1,d2,d3,d4,d5,d6,d7,d8,d9,FQ,e1,e2,e3,e4,f1,f2,f3,f4⟩
  refine wpAny_pyNext_zip_item D h1 h2 h3 h4 h5 p.isList p2.isList (x:=u) (y:=v) (by simpa using hu) (by simpa using hv) fun h' a1 a2 a3 a4 a5 a6 kk=>?_
  refine⟨_,rfl,wpAny_letOwnedTupleGo_zip a1 fun rH b1 sb=>?_⟩;have WT:s.heap.objs.size≠z:=Nat.ne_of_gt (ax h1);have dD:H s.heap.objs.size=none:=I.cN.fresh (az _);have hT:rH.get? s.heap.objs.size=some { cls:=.type "tuple",data:=.seq #[u,v] }:=sb.extBut _ _ WT a5;have new:cU X.prog X.w (upd H s.heap.objs.size (.tup [x,y])) rH s.heap.objs.size (.tup [x,y]):=⟨B3,[u,v],.cons ru (.cons U9 .nil),⟨_,hT,rfl,_,rfl⟩⟩
  have lt:∀{c o},s.heap.get? c=some o->c≠s.heap.objs.size:=fun e=>aA (ax e)
  refine⟨.ref s.heap.objs.size,upd H s.heap.objs.size (.tup [x,y]),I.iy (fp:=[z,TI,TO,i1,i2]) (t':=s.toks) (fun c o hc q=>sb.extBut c o (fun e=>hc (by simp[e])) (kk c o (fun e=>hc (by simp[e])) (fun e=>hc (by simp[e])) (fun e=>hc (by simp[e])) (fun e=>hc (by simp[e])) q)) hf (az _) new,rfl,
   ⟨_,rfl,dD,fun zs ws h6 h7=>⟨x,y,by rw[I.fZ h6 hq];exact hx,by rw[I.fZ h7 f6];exact hy,rfl⟩⟩,
   ⟨b1,sb.extBut _ _ d1 (kk _ _ d1 d5 d6 d7 h2),⟨_,_,sb.extBut _ _ d2 a2⟩,a3.extBut sb.extBut d3,a4.extBut sb.extBut d4⟩,B2 (fun b hb=>(hf b hb).1) fun c hc=>?_⟩
  simp only[aq,br,or_false] at hc;rcases hc with rfl | rfl | rfl | rfl | rfl
  ·exact lt h1
  ·exact lt h2
  ·exact lt h3
  ·obtain⟨_,g,_⟩:=h4;exact lt g
  ·obtain⟨_,g,_⟩:=h5;exact lt g
 done:=by
  intro X hP hw hK hc i pins s σ H E I hf st hg;subst hP hw hK;obtain⟨xs,ys,hq,f6,hx⟩:=hg;obtain⟨its,rv,p,hz⟩:=I.list hq;obtain⟨pC,lY,p2,yk⟩:=I.list f6;obtain⟨h1,h2,⟨c,d,h3⟩,h4,h5⟩:=st;obtain⟨d1,d2,d3,d4,d5,d6,d7,d8,d9,FQ⟩:=D1;have ye:∀{l:Addr} {its:List Value},PlainL s.heap l its.toArray->l≠z/\l≠TO/\l≠i1/\l≠i2:=fun{l its} pl=>by
   obtain⟨o,n,e,c1,_,dd⟩:=pl;obtain⟨o1,g1,c4,_⟩:=h4;obtain⟨o2,g2,c5,_⟩:=h5;refine⟨?_,?_,?_,?_⟩
   ·rintro rfl;rw[h1] at e;cases e;simp at c1
   ·rintro rfl;rw[h3] at e;cases e;simp at c1
   ·rintro rfl;rw[g1] at e;cases e;rw[c4] at c1;simp at c1
   ·rintro rfl;rw[g2] at e;cases e;rw[c5] at c1;simp at c1
  obtain⟨e1,e2,e3,e4⟩:=ye p;obtain⟨f1,f2,f3,f4⟩:=ye p2;have D:ZipApart z TI TO i1 i2 a b:=⟨d1,d2,d3,d4,d5,d6,d7,d8,d9,FQ,e1,e2,e3,e4,f1,f2,f3,f4⟩
  have l1:=rv.length;have l2:=lY.length;have Fi:its.toArray[i]?=none\/pC.toArray[i]?=none:=by
   rcases hx with hx | hx
   ·exact .inl (by simp;omega)
   ·exact .inr (by simp;omega)
  exact wpAny_pyNext_zip_end (I.ok.hd hc) D h1 h2 h3 h4 h5 p.isList p2.isList Fi fun h' kk=>⟨rfl,I.fw (fp:=[z,TI,TO,i1,i2]) (t':=s.toks) (fun c o hc q=>kk c o (fun e=>hc (by simp[e])) (fun e=>hc (by simp[e])) (fun e=>hc (by simp[e])) (fun e=>hc (by simp[e])) q) hf⟩
 self:=fun _ _ _ _ _ st h=>wpAny_pyIter_zip st.1 h
theorem RJ(n:Nat):(n+2:Nat)≠n+4/\(n+3:Nat)≠n+4/\n≠n+4/\(n+1:Nat)≠n+4/\(n+2:Nat)≠n+3/\(n+2:Nat)≠n/\(n+2:Nat)≠n+1/\(n+3:Nat)≠n/\(n+3:Nat)≠n+1/\n≠n+1:=by omega
def Ly(K:PySem.W.Frag)(ta:TA):TI:=fun σ H R=>ta σ H fun vs H1=>∃a b,vs=[.ref a,.ref b]/\(∃xs,dY K H1 a xs)/\(∃ys,dY K H1 b ys)/\R (FY K a b) H1
theorem Nl{a b:Expr}{ta:TA}{p pos:Pos}(hg:Gl X "zip")(hm:X.mg "zip"=none)(ha:PA X [a,b] ta)(hs:starEach [a,b] X.env=[(false,eval a X.env),(false,eval b X.env)]:=by rfl)(rl:starEach [b] X.env=[(false,eval b X.env)]:=by rfl) :
  PI X (.Tuple elts x1 mn) (.Call (.Name "zip" p) [a,b] [] pos) (Ly X.K ta):=by
 intro pins s σ H R I h;refine Call_ (qh I hg hm boot_zip (PyProof.Rows.callWith_type1 (cL (ha pos pins s σ H _ I h) fun us s1 ⟨vs,H1,I1,r1,q1⟩=>?_) (by rw[hs,rl]) (by rw[rl];rfl)));obtain⟨l,l',e,⟨xs,hl⟩,⟨ys,yN⟩,q⟩:=q1;subst e;obtain⟨u,v,rfl,ru,rv⟩:=wy r1;cases ru;cases rv;obtain⟨its,_,p1,_⟩:=I1.list hl;obtain⟨its',_,p2,_⟩:=I1.list yN;refine call_zip_2 p1.isList p2.isList fun h' e1 e2 e3 e4 e5 e6 kk=>?_
 refine wpAny_pyIter_zip e1 ?_;refine⟨s1.heap.objs.size+4,[s1.heap.objs.size+4,s1.heap.objs.size+2,s1.heap.objs.size+3,s1.heap.objs.size,s1.heap.objs.size+1],_,_,H1,rfl,I1.kept (t':=s1.toks) kk,QO l l' _ _ _ _ _ (RJ _),
  ⟨e1,e2,⟨_,_,e3⟩,e4,e5⟩,fun b hb=>?_,q⟩
 have rF:s1.heap.objs.size<=b:=by
  simp only[aq,br,or_false] at hb;rcases hb with rfl | rfl | rfl | rfl | rfl<;>first | exact Nat.le_add_right _ _ | exact az _
 exact I1.kl rF (I1.cN.fresh rF)
end
end L2
namespace L2
open PySem PySem.Spec PyProof.Rows
inductive D where
 | non | bl (b:Bool) | int (i:Int) | str (x:Str) | tup (ds:List D) | lst (ds:List D) | obj (cn:Str) (fs:List (Str×D)) | dic (kvs:List (Key×D)) | dit (kvs:List (List Key×D))
structure ClsAt (K:PySem.W.Frag) (cn:Str) (C:Addr):Prop where
 at_:PySem.W.nsIn K mainGlobals cn=some (some (.ref C))
 cls:Xy K C
def eC(H:Hp):List (List Key×V)->List Addr->Prop
 | [],[]=>True
 | p::ps,b::bs=>H b=some (.tup (p.1.map kV))/\eC H ps bs
 | _,_=>False
theorem eC.mono{H H':Hp}(e:cm H H'):∀{ps:List (List Key×V)} {bs:List Addr},eC H ps bs->eC H' ps bs
 | [],[],h=>h
 | p::ps,b::bs,h=>⟨e _ _ h.1,eC.mono e h.2⟩
 | [],_::_,h=>h.elim
 | _::_,[],h=>h.elim
mutual
def Rep(K:PySem.W.Frag)(H:Hp):V->D->Prop
 | v,.non=>v=.non
 | v,.bl b=>v=.bl b
 | v,.int i=>v=.int i
 | v,.str x=>v=.str x
 | v,.tup ds=>∃a xs,v=.ref a/\fQ K H a xs/\bV K H xs ds
 | v,.lst ds=>∃a xs,v=.ref a/\jt K H a xs/\bV K H xs ds
 | v,.obj cn fs=>∃a C dx gs,v=.ref a/\H a=some (.ins C dx gs)/\ClsAt K cn C/\(∀p∈fs,GQ K C p.1)/\gi K H gs fs
 | v,.dic kvs=>∃a ks ep,v=.ref a/\H a=some (.dK ks ep)/\cf K H ks kvs
 | v,.dit kvs=>∃a ks bs,v=.ref a/\H a=some (.dT ks bs)/\eC H ks bs/\dF K H ks kvs
def bV(K:PySem.W.Frag)(H:Hp):List V->List D->Prop
 | [],[]=>True
 | v::vs,d::ds=>Rep K H v d/\bV K H vs ds
 | _,_=>False
def gi(K:PySem.W.Frag)(H:Hp):List (Str×V)->List (Str×D)->Prop
 | [],[]=>True
 | v::vs,d::ds=>(v.1=d.1/\Rep K H v.2 d.2)/\gi K H vs ds
 | _,_=>False
def cf(K:PySem.W.Frag)(H:Hp):List (Key×V)->List (Key×D)->Prop
 | [],[]=>True
 | v::vs,d::ds=>(v.1=d.1/\Rep K H v.2 d.2)/\cf K H vs ds
 | _,_=>False
def dF(K:PySem.W.Frag)(H:Hp):List (List Key×V)->List (List Key×D)->Prop
 | [],[]=>True
 | v::vs,d::ds=>(v.1=d.1/\Rep K H v.2 d.2)/\dF K H vs ds
 | _,_=>False
end
theorem cm.gP{K:PySem.W.Frag}{H H':Hp}{a:Addr}{xs:List V}(e:cm H H')(h:fQ K H a xs):fQ K H' a xs:=by
 rcases h with(h | ⟨o,h⟩) | h
 ·exact .inl (.inl (e _ _ h))
 ·exact .inl (.inr ⟨o,e _ _ h⟩)
 ·exact .inr h
mutual
theorem Rep.mono{K:PySem.W.Frag}{H H':Hp}(e:cm H H'):∀(v:V) (d:D),Rep K H v d->Rep K H' v d
 | v,.non,h=>by simpa only[Rep] using h
 | v,.bl b,h=>by simpa only[Rep] using h
 | v,.int i,h=>by simpa only[Rep] using h
 | v,.str x,h=>by simpa only[Rep] using h
 | v,.tup ds,h=>by
  simp only[Rep] at h ⊢;obtain⟨a,xs,h1,h2,h3⟩:=h;exact⟨a,xs,h1,e.gP h2,bV.mono e xs ds h3⟩
 | v,.lst ds,h=>by
  simp only[Rep] at h ⊢;obtain⟨a,xs,h1,h2,h3⟩:=h;exact⟨a,xs,h1,e.fb h2,bV.mono e xs ds h3⟩
 | v,.obj cn fs,h=>by
  simp only[Rep] at h ⊢;obtain⟨a,C,dx,gs,h1,h2,h3,h4,h5⟩:=h;exact⟨a,C,dx,gs,h1,e _ _ h2,h3,h4,gi.mono e gs fs h5⟩
 | v,.dic kvs,h=>by
  simp only[Rep] at h ⊢;obtain⟨a,ks,ep,h1,h2,h3⟩:=h;exact⟨a,ks,ep,h1,e _ _ h2,cf.mono e ks kvs h3⟩
 | v,.dit kvs,h=>by
  simp only[Rep] at h ⊢;obtain⟨a,ks,bs,h1,h2,h3,h4⟩:=h;exact⟨a,ks,bs,h1,e _ _ h2,h3.mono e,dF.mono e ks kvs h4⟩
theorem bV.mono{K:PySem.W.Frag}{H H':Hp}(e:cm H H'):∀(vs:List V) (ds:List D),bV K H vs ds->bV K H' vs ds
 | [],[],h=>by simp only[bV]
 | v::vs,d::ds,h=>by
  simp only[bV] at h ⊢;exact⟨Rep.mono e v d h.1,bV.mono e vs ds h.2⟩
 | [],_::_,h=>by simp only[bV] at h
 | _::_,[],h=>by simp only[bV] at h
theorem gi.mono{K:PySem.W.Frag}{H H':Hp}(e:cm H H'):∀(vs:List (Str×V)) (ds:List (Str×D)),gi K H vs ds->gi K H' vs ds
 | [],[],h=>by simp only[gi]
 | (x,v)::vs,(y,d)::ds,h=>by
  simp only[gi] at h ⊢;exact⟨⟨h.1.1,Rep.mono e v d h.1.2⟩,gi.mono e vs ds h.2⟩
 | [],_::_,h=>by simp only[gi] at h
 | _::_,[],h=>by simp only[gi] at h
theorem cf.mono{K:PySem.W.Frag}{H H':Hp}(e:cm H H'):∀(vs:List (Key×V)) (ds:List (Key×D)),cf K H vs ds->cf K H' vs ds
 | [],[],h=>by simp only[cf]
 | (x,v)::vs,(y,d)::ds,h=>by
  simp only[cf] at h ⊢;exact⟨⟨h.1.1,Rep.mono e v d h.1.2⟩,cf.mono e vs ds h.2⟩
 | [],_::_,h=>by simp only[cf] at h
 | _::_,[],h=>by simp only[cf] at h
theorem dF.mono{K:PySem.W.Frag}{H H':Hp}(e:cm H H'):∀(vs:List (List Key×V)) (ds:List (List Key×D)),dF K H vs ds->dF K H' vs ds
 | [],[],h=>by simp only[dF]
 | (x,v)::vs,(y,d)::ds,h=>by
  simp only[dF] at h ⊢;exact⟨⟨h.1.1,Rep.mono e v d h.1.2⟩,dF.mono e vs ds h.2⟩
 | [],_::_,h=>by simp only[dF] at h
 | _::_,[],h=>by simp only[dF] at h
end
section
variable {K:PySem.W.Frag} {H H':Hp}
theorem bV.length:∀{vs:List V} {ds:List D},bV K H vs ds->vs.length=ds.length
 | [],[],_=>rfl
 | v::vs,d::ds,h=>by
  simp only[bV] at h;simp only[aN,bV.length h.2]
 | [],_::_,h=>by simp only[bV] at h
 | _::_,[],h=>by simp only[bV] at h
theorem bV.get:∀{vs:List V} {ds:List D} {i:Nat} {d:D},bV K H vs ds->ds[i]?=some d->∃v,vs[i]?=some v/\Rep K H v d
 | [],[],i,d,_,e=>by simp at e
 | v::vs,d'::ds,0,d,h,e=>by
  simp only[bV] at h;simp only[aW,aD] at e;subst e;exact⟨v,rfl,h.1⟩
 | v::vs,d'::ds,i+1,d,h,e=>by
  simp only[bV] at h;simp only[aX] at e ⊢;exact bV.get h.2 e
 | [],_::_,_,_,h,_=>by simp only[bV] at h
 | _::_,[],_,_,h,_=>by simp only[bV] at h
theorem bV.ze:∀{vs:List V} {ds:List D} {i:Nat} {v:V},bV K H vs ds->vs[i]?=some v->∃d,ds[i]?=some d/\Rep K H v d
 | [],[],i,d,_,e=>by simp at e
 | v'::vs,d::ds,0,v,h,e=>by
  simp only[bV] at h;simp only[aW,aD] at e;subst e;exact⟨d,rfl,h.1⟩
 | v'::vs,d::ds,i+1,v,h,e=>by
  simp only[bV] at h;simp only[aX] at e ⊢;exact bV.ze h.2 e
 | [],_::_,_,_,h,_=>by simp only[bV] at h
 | _::_,[],_,_,h,_=>by simp only[bV] at h
theorem bV.nil:bV K H [] []:=by simp only[bV]
theorem bV.cons{v:V}{vs:List V}{d:D}{ds:List D}(h:Rep K H v d)(hs:bV K H vs ds):bV K H (v::vs) (d::ds):=by simp only[bV];exact⟨h,hs⟩
theorem bV.append:∀{vs:List V} {ds:List D} {us:List V} {es:List D},bV K H vs ds->bV K H us es->bV K H (vs++us) (ds++es)
 | [],[],_,_,_,h=>h
 | v::vs,d::ds,_,_,h,h'=>by
  simp only[bV] at h;exact bV.cons h.1 (bV.append h.2 h')
 | [],_::_,_,_,h,_=>by simp only[bV] at h
 | _::_,[],_,_,h,_=>by simp only[bV] at h
theorem bV.take:∀{vs:List V} {ds:List D} (n:Nat),bV K H vs ds->bV K H (vs.take n) (ds.take n)
 | _,_,0,_=>bV.nil
 | [],[],_+1,_=>bV.nil
 | v::vs,d::ds,n+1,h=>by
  simp only[bV] at h;exact bV.cons h.1 (bV.take n h.2)
 | [],_::_,_+1,h=>by simp only[bV] at h
 | _::_,[],_+1,h=>by simp only[bV] at h
theorem bV.drop:∀{vs:List V} {ds:List D} (n:Nat),bV K H vs ds->bV K H (vs.drop n) (ds.drop n)
 | _,_,0,h=>h
 | [],[],_+1,_=>bV.nil
 | v::vs,d::ds,n+1,h=>by
  simp only[bV] at h;exact bV.drop n h.2
 | [],_::_,_+1,h=>by simp only[bV] at h
 | _::_,[],_+1,h=>by simp only[bV] at h
theorem bV.set:∀{vs:List V} {ds:List D} {v:V} {d:D} (n:Nat),bV K H vs ds->Rep K H v d->bV K H (vs.set n v) (ds.set n d)
 | [],[],_,_,_,_,_=>bV.nil
 | v'::vs,d'::ds,v,d,0,h,q=>by
  simp only[bV] at h;exact bV.cons q h.2
 | v'::vs,d'::ds,v,d,n+1,h,q=>by
  simp only[bV] at h;exact bV.cons h.1 (bV.set n h.2 q)
 | [],_::_,_,_,_,h,_=>by simp only[bV] at h
 | _::_,[],_,_,_,h,_=>by simp only[bV] at h
theorem bV.reverse{vs:List V}{ds:List D}(h:bV K H vs ds):bV K H vs.reverse ds.reverse:=by
 induction vs generalizing ds with
 | nil=>
  cases ds with
  | nil=>exact bV.nil
  | cons=>simp only[bV] at h
 | cons v vs ih=>
  cases ds with
  | nil=>simp only[bV] at h
  | cons d ds=>
   simp only[bV] at h;rw[List.reverse_cons,List.reverse_cons];exact bV.append (ih h.2) (bV.cons h.1 bV.nil)
end
structure Ext (G H G' H':Hp):Prop where
 g:cm G G'
 h:cm H H'
 s:cm G' H'
 n:∀p,G p=none->H p≠none->G' p=none
theorem Ext.refl{G H:Hp}(s:cm G H):Ext G H G H:=⟨cm.refl _,cm.refl _,s,fun _ h _=>h⟩
theorem Ext.trans{G H G1 H1 G2 H2:Hp}(a:Ext G H G1 H1)(b:Ext G1 H1 G2 H2):Ext G H G2 H2:=
 ⟨a.g.trans b.g,a.h.trans b.h,b.s,fun p h1 h2=>b.n p (a.n p h1 h2) fun z=>h2 (a.h.free z)⟩
theorem r8{H:Hp}{p:Addr}{o:HO}(h:H p=none):cm H (upd H p o):=fun b u e=>by rw[cX (jf e h)];exact e
theorem RI{G H:Hp}{p:Addr}{o:HO}(s:cm G H):cm (upd G p o) (upd H p o):=fun b u e=>by
 by_cases hb:b=p
 ·subst hb;rw[fk] at e ⊢;exact e
 ·rw[cX hb] at e ⊢;exact s b u e
theorem Ext.new{G H:Hp}{p:Addr}{o:HO}(s:cm G H)(h:H p=none):Ext G H (upd G p o) (upd H p o):=
 ⟨r8 (s.free h),r8 h,RI s,fun q h1 h2=>by rw[cX (fun z=>h2 (by rw[z];exact h))];exact h1⟩
theorem Ext.own{G H:Hp}{p:Addr}{o:HO}(s:cm G H)(h:H p=none):Ext G H G (upd H p o):=
 ⟨cm.refl _,r8 h,s.trans (r8 h),fun q h1 _=>h1⟩
inductive OV where
 | ll (dss:List (List D))
 | dc (kvs:List (Key×D))
 | dl (kvs:List (Key×List D))
 | tl (d:D) (ds:List D)
 | ld (oN:List (List (Key×D)))
 | dt (kvs:List (List Key×List D))
 | tp (ds:List D)
 | ob (cn:Str) (fs:List (Str×List D))
noncomputable def OV.val:OV->D
 | .ll dss=>.lst (dss.map .lst)
 | .dc kvs=>.dic kvs
 | .dl kvs=>.dic (kvs.map fun p=>(p.1,.lst p.2))
 | .tl d ds=>.tup [d,.lst ds]
 | .ld oN=>.lst (oN.map .dic)
 | .dt kvs=>.dit (kvs.map fun p=>(p.1,.lst p.2))
 | .tp ds=>.tup ds
 | .ob cn fs=>.obj cn (fs.map fun p=>(p.1,.lst p.2))
inductive R where
 | fz (d:D)
 | ow (ds:List D)
 | ov (o:OV)
noncomputable def R.val:R->D
 | .fz d=>d
 | .ow ds=>.lst ds
 | .ov o=>o.val
inductive Sl where
 | un
 | fz (d:D)
 | ow (ds:List D)
 | ov (o:OV)
noncomputable def R.sl:R->Sl
 | .fz d=>.fz d
 | .ow ds=>.ow ds
 | .ov o=>.ov o
def cu(K:PySem.W.Frag)(G H:Hp):List Addr->List (List D)->Prop
 | [],[]=>True
 | q::qs,ds::dss=>(∃xs,H q=some (.lst xs)/\bV K G xs ds)/\cu K G H qs dss
 | _,_=>False
theorem cu.mono{K:PySem.W.Frag}{G H G' H':Hp}(g:cm G G'):∀{qs:List Addr} {dss:List (List D)},(∀q∈qs,∀xs,H q=some (.lst xs)->H' q=some (.lst xs))->cu K G H qs dss->cu K G' H' qs dss
 | [],[],_,_=>by simp only[cu]
 | q::qs,ds::dss,hh,h=>by
  simp only[cu] at h ⊢;obtain⟨⟨xs,h1,h2⟩,h3⟩:=h;exact⟨⟨xs,hh q (by simp) xs h1,h2.mono g⟩,cu.mono g (fun r hr=>hh r (by simp[hr])) h3⟩
 | [],_::_,_,h=>by simp only[cu] at h
 | _::_,[],_,h=>by simp only[cu] at h
theorem cu.here{K:PySem.W.Frag}{G H:Hp}:∀{qs:List Addr} {dss:List (List D)},cu K G H qs dss->∀q∈qs,H q≠none
 | [],[],_,q,hq=>by cases hq
 | q::qs,ds::dss,h,r,hr=>by
  simp only[cu] at h;obtain⟨⟨xs,h1,h2⟩,h3⟩:=h;rcases aq.mp hr with rfl | hr
  ·rw[h1];exact nofun
  ·exact cu.here h3 r hr
 | [],_::_,h,_,_=>by simp only[cu] at h
 | _::_,[],h,_,_=>by simp only[cu] at h
theorem cu.k6{K:PySem.W.Frag}{G H G':Hp}(g:cm G G'):∀{qs:List Addr} {dss:List (List D)},(∀q∈qs,∀xs,H q=some (.lst xs)->G' q=some (.lst xs))->cu K G H qs dss->bV K G' (qs.map V.ref) (dss.map D.lst)
 | [],[],_,_=>bV.nil
 | q::qs,ds::dss,hh,h=>by
  simp only[cu] at h;obtain⟨⟨xs,h1,h2⟩,h3⟩:=h;refine bV.cons ?_ (cu.k6 g (fun r hr=>hh r (by simp[hr])) h3);simp only[Rep];exact⟨q,xs,rfl,jt.of (hh q (by simp) xs h1),h2.mono g⟩
 | [],_::_,_,h=>by simp only[cu] at h
 | _::_,[],_,h=>by simp only[cu] at h
def cz(K:PySem.W.Frag)(G H:Hp):List Addr->List (List (Key×D))->Prop
 | [],[]=>True
 | q::qs,ds::dss=>(∃ks ep,H q=some (.dK ks ep)/\cf K G ks ds)/\cz K G H qs dss
 | _,_=>False
theorem cz.mono{K:PySem.W.Frag}{G H G' H':Hp}(g:cm G G'):∀{qs:List Addr} {dss:List (List (Key×D))},(∀q∈qs,∀u,H q=some u->H' q=some u)->cz K G H qs dss->cz K G' H' qs dss
 | [],[],_,_=>by simp only[cz]
 | q::qs,ds::dss,hh,h=>by
  simp only[cz] at h ⊢;obtain⟨⟨ks,ep,h1,h2⟩,h3⟩:=h;exact⟨⟨ks,ep,hh q (by simp) _ h1,cf.mono g _ _ h2⟩,cz.mono g (fun r hr=>hh r (by simp[hr])) h3⟩
 | [],_::_,_,h=>by simp only[cz] at h
 | _::_,[],_,h=>by simp only[cz] at h
theorem cz.kind{K:PySem.W.Frag}{G H:Hp}:∀{qs:List Addr} {dss:List (List (Key×D))},cz K G H qs dss->∀q∈qs,∃ks ep,H q=some (.dK ks ep)
 | [],[],_,q,hq=>by cases hq
 | q::qs,ds::dss,h,r,hr=>by
  simp only[cz] at h;obtain⟨⟨ks,ep,h1,h2⟩,h3⟩:=h;rcases aq.mp hr with rfl | hr
  ·exact⟨ks,ep,h1⟩
  ·exact cz.kind h3 r hr
 | [],_::_,h,_,_=>by simp only[cz] at h
 | _::_,[],h,_,_=>by simp only[cz] at h
theorem cz.here{K:PySem.W.Frag}{G H:Hp}{qs:List Addr}{dss:List (List (Key×D))}(h:cz K G H qs dss):∀q∈qs,H q≠none:=fun q hq=>by
 obtain⟨ks,ep,e⟩:=h.kind q hq;rw[e];exact nofun
theorem cz.k6{K:PySem.W.Frag}{G H G':Hp}(g:cm G G'):∀{qs:List Addr} {dss:List (List (Key×D))},(∀q∈qs,∀u,H q=some u->G' q=some u)->cz K G H qs dss->bV K G' (qs.map V.ref) (dss.map D.dic)
 | [],[],_,_=>bV.nil
 | q::qs,ds::dss,hh,h=>by
  simp only[cz] at h;obtain⟨⟨ks,ep,h1,h2⟩,h3⟩:=h;refine bV.cons ?_ (cz.k6 g (fun r hr=>hh r (by simp[hr])) h3);simp only[Rep];exact⟨q,ks,ep,rfl,hh q (by simp) _ h1,cf.mono g _ _ h2⟩
 | [],_::_,_,h=>by simp only[cz] at h
 | _::_,[],_,h=>by simp only[cz] at h
def iE(K:PySem.W.Frag)(G H:Hp)(p:Addr)(fp:List Addr):OV->Prop
 | .ll dss=>H p=some (.lst (fp.map V.ref))/\cu K G H fp dss
 | .dc kvs=>fp=[]/\∃ks ep,H p=some (.dK ks ep)/\cf K G ks kvs
 | .dl kvs=>∃ks ep,H p=some (.dK ks ep)/\ks.map (·.1)=kvs.map (·.1)/\ks.map (·.2)=fp.map V.ref/\cu K G H fp (kvs.map (·.2))
 | .tl d ds=>∃q v xs,fp=[q]/\H p=some (.tup [v,.ref q])/\Rep K G v d/\H q=some (.lst xs)/\bV K G xs ds
 | .ld oN=>H p=some (.lst (fp.map V.ref))/\cz K G H fp oN
 | .dt kvs=>∃ks bs,H p=some (.dT ks bs)/\eC G ks bs/\ks.map (·.1)=kvs.map (·.1)/\ks.map (·.2)=fp.map V.ref/\cu K G H fp (kvs.map (·.2))
 | .tp ds=>fp=[]/\∃xs,H p=some (.tup xs)/\bV K G xs ds
 | .ob cn fs=>∃C dx gs,H p=some (.ins C dx gs)/\ClsAt K cn C/\(∀p∈fs,GQ K C p.1)/\gs.map (·.1)=fs.map (·.1)/\gs.map (·.2)=fp.map V.ref/\cu K G H fp (fs.map (·.2))
theorem iE.here{K:PySem.W.Frag}{G H:Hp}{p:Addr}{fp:List Addr}{o:OV}(h:iE K G H p fp o):∀q∈p::fp,H q≠none:=by
 intro q hq;cases o with
 | ll dss=>
  rcases aq.mp hq with rfl | hq
  ·rw[h.1];exact nofun
  ·exact h.2.here q hq
 | dc kvs=>
  obtain⟨rfl,ks,ep,h1,_⟩:=h;simp only[aR] at hq;subst hq;rw[h1];exact nofun
 | dl kvs=>
  obtain⟨ks,ep,h1,_,_,h4⟩:=h;rcases aq.mp hq with rfl | hq
  ·rw[h1];exact nofun
  ·exact h4.here q hq
 | tl d ds=>
  obtain⟨r,v,xs,rfl,h1,_,h2,_⟩:=h;simp only[aq,br,or_false] at hq;rcases hq with rfl | rfl
  ·rw[h1];exact nofun
  ·rw[h2];exact nofun
 | ld oN=>
  rcases aq.mp hq with rfl | hq
  ·rw[h.1];exact nofun
  ·exact h.2.here q hq
 | dt kvs=>
  obtain⟨ks,bs,h1,_,_,_,h4⟩:=h;rcases aq.mp hq with rfl | hq
  ·rw[h1];exact nofun
  ·exact h4.here q hq
 | tp ds=>
  obtain⟨rfl,xs,h1,_⟩:=h;simp only[aR] at hq;subst hq;rw[h1];exact nofun
 | ob cn fs=>
  obtain⟨C,dx,gs,h1,_,_,_,_,h4⟩:=h;rcases aq.mp hq with rfl | hq
  ·rw[h1];exact nofun
  ·exact h4.here q hq
theorem iE.mono{K:PySem.W.Frag}{G H G' H':Hp}{p:Addr}{fp:List Addr}{o:OV}(g:cm G G')(hh:∀q∈p::fp,∀u,H q=some u->H' q=some u)(h:iE K G H p fp o):iE K G' H' p fp o:=by
 cases o with
 | ll dss=>exact⟨hh p (by simp) _ h.1,h.2.mono g fun q hq xs=>hh q (by simp[hq]) _⟩
 | dc kvs=>
  obtain⟨rfl,ks,ep,h1,h2⟩:=h;exact⟨rfl,ks,ep,hh p (by simp) _ h1,cf.mono g _ _ h2⟩
 | dl kvs=>
  obtain⟨ks,ep,h1,h2,h3,h4⟩:=h;exact⟨ks,ep,hh p (by simp) _ h1,h2,h3,h4.mono g fun q hq xs=>hh q (by simp[hq]) _⟩
 | tl d ds=>
  obtain⟨r,v,xs,rfl,h1,h2,h3,h4⟩:=h;exact⟨r,v,xs,rfl,hh p (by simp) _ h1,h2.mono g,hh r (by simp) _ h3,h4.mono g⟩
 | ld oN=>exact⟨hh p (by simp) _ h.1,h.2.mono g fun q hq=>hh q (by simp[hq])⟩
 | dt kvs=>
  obtain⟨ks,bs,h1,hk,h2,h3,h4⟩:=h;exact⟨ks,bs,hh p (by simp) _ h1,hk.mono g,h2,h3,h4.mono g fun q hq xs=>hh q (by simp[hq]) _⟩
 | tp ds=>
  obtain⟨rfl,xs,h1,h2⟩:=h;exact⟨rfl,xs,hh p (by simp) _ h1,h2.mono g⟩
 | ob cn fs=>
  obtain⟨C,dx,gs,h1,hc,hn,h2,h3,h4⟩:=h;exact⟨C,dx,gs,hh p (by simp) _ h1,hc,hn,h2,h3,h4.mono g fun q hq xs=>hh q (by simp[hq]) _⟩
theorem cf.eh{K:PySem.W.Frag}{G:Hp}:∀{ks:List (Key×V)} {kvs:List (Key×List D)} {fp:List Addr},ks.map (·.1)=kvs.map (·.1)->ks.map (·.2)=fp.map V.ref->bV K G (fp.map V.ref) ((kvs.map (·.2)).map D.lst)->cf K G ks (kvs.map fun p=>(p.1,.lst p.2))
 | [],[],_,_,_,_=>by simp only[List.map_nil,cf]
 | a::ks,b::kvs,fp,h1,h2,h3=>by
  simp only[au,List.cons.injEq] at h1;cases fp with
  | nil=>simp at h2
  | cons q fp=>
   simp only[au,List.cons.injEq] at h2;simp only[au,bV] at h3;simp only[au,cf];exact⟨⟨h1.1,by rw[h2.1];exact h3.1⟩,cf.eh h1.2 h2.2 h3.2⟩
 | [],_::_,_,h,_,_=>by simp at h
 | _::_,[],_,h,_,_=>by simp at h
theorem dF.eh{K:PySem.W.Frag}{G:Hp}:∀{ks:List (List Key×V)} {kvs:List (List Key×List D)} {fp:List Addr},ks.map (·.1)=kvs.map (·.1)->ks.map (·.2)=fp.map V.ref->bV K G (fp.map V.ref) ((kvs.map (·.2)).map D.lst)->dF K G ks (kvs.map fun p=>(p.1,.lst p.2))
 | [],[],_,_,_,_=>by simp only[List.map_nil,dF]
 | a::ks,b::kvs,fp,h1,h2,h3=>by
  simp only[au,List.cons.injEq] at h1;cases fp with
  | nil=>simp at h2
  | cons q fp=>
   simp only[au,List.cons.injEq] at h2;simp only[au,bV] at h3;simp only[au,dF];exact⟨⟨h1.1,by rw[h2.1];exact h3.1⟩,dF.eh h1.2 h2.2 h3.2⟩
 | [],_::_,_,h,_,_=>by simp at h
 | _::_,[],_,h,_,_=>by simp at h
theorem gi.eh{K:PySem.W.Frag}{G:Hp}:∀{ks:List (Str×V)} {kvs:List (Str×List D)} {fp:List Addr},ks.map (·.1)=kvs.map (·.1)->ks.map (·.2)=fp.map V.ref->bV K G (fp.map V.ref) ((kvs.map (·.2)).map D.lst)->gi K G ks (kvs.map fun p=>(p.1,.lst p.2))
 | [],[],_,_,_,_=>by simp only[List.map_nil,gi]
 | a::ks,b::kvs,fp,h1,h2,h3=>by
  simp only[au,List.cons.injEq] at h1;cases fp with
  | nil=>simp at h2
  | cons q fp=>
   simp only[au,List.cons.injEq] at h2;simp only[au,bV] at h3;simp only[au,gi];exact⟨⟨h1.1,by rw[h2.1];exact h3.1⟩,gi.eh h1.2 h2.2 h3.2⟩
 | [],_::_,_,h,_,_=>by simp at h
 | _::_,[],_,h,_,_=>by simp at h
noncomputable def lS(G H:Hp)(l:List Addr):Hp:=fun a=>if a∈l then H a else G a
theorem o4{G H:Hp}{l:List Addr}{a:Addr}(h:a∈l):lS G H l a=H a:=if_pos h
theorem oZ{G H:Hp}{l:List Addr}{a:Addr}(h:a∉l):lS G H l a=G a:=if_neg h
theorem vq{G H:Hp}{l:List Addr}(h:∀q∈l,G q=none):cm G (lS G H l):=fun b u e=>by
 rw[oZ (fun z=>by rw[h b z] at e;cases e)];exact e
theorem iE.freeze{K:PySem.W.Frag}{G H:Hp}{p:Addr}{fp:List Addr}{o:OV}(h:iE K G H p fp o)(hn:∀q∈p::fp,G q=none):Rep K (lS G H (p::fp)) (.ref p) o.val:=by
 have hs:=vq (H:=H) hn;have hp:lS G H (p::fp) p=H p:=o4 (by simp);cases o with
 | ll dss=>
  simp only[OV.val,Rep];exact⟨p,_,rfl,jt.of (by rw[hp];exact h.1),h.2.k6 hs fun q hq xs e=>by rw[o4 (by simp[hq])];exact e⟩
 | dc kvs=>
  obtain⟨rfl,ks,ep,h1,h2⟩:=h;simp only[OV.val,Rep];exact⟨p,ks,ep,rfl,by rw[hp];exact h1,cf.mono hs _ _ h2⟩
 | dl kvs=>
  obtain⟨ks,ep,h1,h2,h3,h4⟩:=h;simp only[OV.val,Rep];exact⟨p,ks,ep,rfl,by rw[hp];exact h1,cf.eh h2 h3 (h4.k6 hs fun q hq xs e=>by rw[o4 (by simp[hq])];exact e)⟩
 | tl d ds=>
  obtain⟨r,v,xs,rfl,h1,h2,h3,h4⟩:=h;simp only[OV.val,Rep];refine⟨p,_,rfl,fQ.of (by rw[hp];exact h1),bV.cons (h2.mono hs) (bV.cons ?_ bV.nil)⟩;simp only[Rep];exact⟨r,xs,rfl,jt.of (by rw[o4 (by simp)];exact h3),h4.mono hs⟩
 | dt kvs=>
  obtain⟨ks,bs,h1,hk,h2,h3,h4⟩:=h;simp only[OV.val,Rep];exact⟨p,ks,bs,rfl,by rw[hp];exact h1,hk.mono hs,dF.eh h2 h3 (h4.k6 hs fun q hq xs e=>by rw[o4 (by simp[hq])];exact e)⟩
 | tp ds=>
  obtain⟨rfl,xs,h1,h2⟩:=h;simp only[OV.val,Rep];exact⟨p,xs,rfl,fQ.of (by rw[hp];exact h1),h2.mono hs⟩
 | ob cn fs=>
  obtain⟨C,dx,gs,h1,hc,hn,h2,h3,h4⟩:=h;simp only[OV.val,Rep];refine⟨p,C,dx,gs,rfl,by rw[hp];exact h1,hc,fun u hu=>?_,gi.eh h2 h3 (h4.k6 hs fun q hq xs e=>by rw[o4 (by simp[hq])];exact e)⟩;obtain⟨v,hv,rfl⟩:=aH.mp hu;exact hn v hv
 | ld oN=>
  simp only[OV.val,Rep];exact⟨p,_,rfl,jt.of (by rw[hp];exact h.1),h.2.k6 hs fun q hq u e=>by rw[o4 (by simp[hq])];exact e⟩
noncomputable abbrev Ev:=List Sl
noncomputable def gt:Ev->Nat->Sl
 | [],_=>.un
 | a::_,0=>a
 | _::r,n+1=>gt r n
theorem oA{ρ:Ev}{i j:Nat}{s:Sl}:gt (ρ.set i s) j=if i=j/\j<ρ.length then s else gt ρ j:=by
 induction ρ generalizing i j with
 | nil=>simp[gt]
 | cons a r ih=>
  cases i with
  | zero=>
   cases j with
   | zero=>simp[gt]
   | succ j=>simp[gt]
  | succ i=>
   cases j with
   | zero=>simp[gt]
   | succ j=>simp[gt,ih]
def d0(K:PySem.W.Frag)(G' H' H:Hp)(v:V):R->Prop
 | .fz d=>Rep K G' v d
 | .ow ds=>∃p xs,v=.ref p/\H p=none/\G' p=none/\H' p=some (.lst xs)/\bV K G' xs ds
 | .ov o=>∃p fp,v=.ref p/\(p::fp).Nodup/\iE K G' H' p fp o/\∀q∈p::fp,H q=none/\G' q=none
structure cM (K:PySem.W.Frag) (G0 H0:Hp) (ρ:Ev) (σ:St) (G H:Hp):Prop where
 e:Ext G0 H0 G H
 len:σ.length=ρ.length
 fz:∀i d,gt ρ i=.fz d->∃v,σ[i]?=some (some v)/\Rep K G v d
 ow:∀i ds,gt ρ i=.ow ds->∃p xs,σ[i]?=some (some (.ref p))/\H p=some (.lst xs)/\G p=none/\H0 p=none/\bV K G xs ds
 dj:∀i j ds es,i≠j->gt ρ i=.ow ds->gt ρ j=.ow es->σ[i]?≠σ[j]?
 on:∃own:Addr->Option Nat,(∀i ds p,gt ρ i=.ow ds->σ[i]?=some (some (.ref p))->own p=some i)/\∀i o,gt ρ i=.ov o->∃p fp,σ[i]?=some (some (.ref p))/\(p::fp).Nodup/\iE K G H p fp o/\∀q∈p::fp,G q=none/\H0 q=none/\own q=some i
section
variable {K:PySem.W.Frag} {G0 H0 G H G' H' G2 H2:Hp} {ρ:Ev} {σ:St} {v:V}
theorem cM.ext(E:cM K G0 H0 ρ σ G H)(x:Ext G H G' H'):cM K G0 H0 ρ σ G' H' where
 e:=E.e.trans x
 len:=E.len
 fz:=fun i d h=>let⟨v,h1,h2⟩:=E.fz i d h;⟨v,h1,h2.mono x.g⟩
 ow:=fun i ds h=>let⟨p,xs,h1,h2,h3,h4,h5⟩:=E.ow i ds h;⟨p,xs,h1,x.h _ _ h2,x.n p h3 (by rw[h2];exact nofun),h4,h5.mono x.g⟩
 dj:=E.dj
 on:=by
  obtain⟨own,h1,h2⟩:=E.on;refine⟨own,h1,fun i o h=>?_⟩;obtain⟨p,fp,b1,b2,b3,b4⟩:=h2 i o h;exact⟨p,fp,b1,b2,b3.mono x.g fun q _ u e=>x.h q u e,fun q hq=>⟨x.n q (b4 q hq).1 (b3.here q hq),(b4 q hq).2⟩⟩
theorem d0.freeze{r:R}(x:Ext G H G' H')(h:d0 K G' H' H v r):∃G2,Ext G H G2 H'/\Rep K G2 v r.val/\cm G' G2:=by
 cases r with
 | fz d=>exact⟨G',x,h,cm.refl _⟩
 | ow ds=>
  obtain⟨p,xs,h1,h2,h3,h4,h5⟩:=h;refine⟨upd G' p (.lst xs),⟨x.g.trans (r8 h3),x.h,fun b o e=>?_,fun q i3 f6=>?_⟩,?_,r8 h3⟩
  ·by_cases hb:b=p
   ·subst hb;rw[fk] at e;rw[h4];exact e
   ·rw[cX hb] at e;exact x.s b o e
  ·rw[cX (fun z=>f6 (by rw[z];exact h2))];exact x.n q i3 f6
  ·show Rep K (upd G' p (.lst xs)) v (.lst ds);simp only[Rep];exact⟨p,xs,h1,jt.of fk,h5.mono (r8 h3)⟩
 | ov o=>
  obtain⟨p,fp,rfl,h1,h2,h3⟩:=h;have hn:∀q∈p::fp,G' q=none:=fun q hq=>(h3 q hq).2
  refine⟨lS G' H' (p::fp),⟨x.g.trans (vq hn),x.h,fun b u e=>?_,fun q i3 f6=>?_⟩,h2.freeze hn,vq hn⟩
  ·by_cases hb:b∈p::fp
   ·rw[o4 hb] at e;exact e
   ·rw[oZ hb] at e;exact x.s b u e
  ·rw[oZ (fun z=>f6 (h3 q z).1)];exact x.n q i3 f6
theorem d0.jl{r:R}{H1 H3:Hp}(s:cm H3 H1)(h:d0 K G' H' H1 v r):d0 K G' H' H3 v r:=by
 cases r with
 | fz d=>exact h
 | ow ds=>
  obtain⟨p,xs,h1,h2,h3,h4,h5⟩:=h;exact⟨p,xs,h1,s.free h2,h3,h4,h5⟩
 | ov o=>
  obtain⟨p,fp,rfl,h1,h2,h3⟩:=h;exact⟨p,fp,rfl,h1,h2,fun q hq=>⟨s.free (h3 q hq).1,(h3 q hq).2⟩⟩
end
noncomputable abbrev TD:=Ev->(R->Prop)->Prop
noncomputable abbrev gK:=Ev->(Bool->Prop)->Prop
noncomputable abbrev jG:=Ev->(List D->Prop)->Prop
structure DE where
 nx:Ev->Prop
 rt:R->Prop
 bk:Ev->Prop:=fun _=>False
 ct:Ev->Prop:=fun _=>False
noncomputable abbrev TX:=DE->Ev->Prop
def PD(X:Cx)(e:Expr)(t:TD):Prop:=∃tt,PE X e tt/\∀(ρ:Ev) (σ:St) (G0 H0 G H:Hp) (Q:R->Prop) (P:VK),cM X.K G0 H0 ρ σ G H->t ρ Q->
 (∀v H' r G',Ext G H G' H'->d0 X.K G' H' H v r->Q r->P v H')->tt σ H P
def PB(X:Cx)(e:Expr)(t:gK):Prop:=∃tt,PT X e tt/\∀(ρ:Ev) (σ:St) (G0 H0 G H:Hp) (Q:Bool->Prop) (P:Bool->Hp->Prop),cM X.K G0 H0 ρ σ G H->t ρ Q->
 (∀b H' G',Ext G H G' H'->Q b->P b H')->tt σ H P
def nz(X:Cx)(es:List Expr)(t:jG):Prop:=∃tt,PA X es tt/\∀(ρ:Ev) (σ:St) (G0 H0 G H:Hp) (Q:List D->Prop) (P:List V->Hp->Prop),cM X.K G0 H0 ρ σ G H->t ρ Q->
 (∀vs H' ds G',Ext G H G' H'->bV X.K G' vs ds->Q ds->P vs H')->tt σ H P
structure Goes (K:PySem.W.Frag) (G0 H0 G:Hp) (D:DE) (E:Ends):Prop where
 nx:∀ρ σ G' H',cm G G'->cM K G0 H0 ρ σ G' H'->D.nx ρ->E.nx σ H'
 rt:∀v H' r G',Ext G0 H0 G' H'->d0 K G' H' H0 v r->D.rt r->E.rt v H'
 bk:∀ρ σ G' H',cm G G'->cM K G0 H0 ρ σ G' H'->D.bk ρ->E.bk σ H'
 ct:∀ρ σ G' H',cm G G'->cM K G0 H0 ρ σ G' H'->D.ct ρ->E.ct σ H'
theorem Goes.shift{K:PySem.W.Frag}{G0 H0 G G':Hp}{D:DE}{E:Ends}(g:Goes K G0 H0 G D E)(s:cm G G'):Goes K G0 H0 G' D E:=
 ⟨fun ρ σ G2 H2 s2=>g.nx ρ σ G2 H2 (s.trans s2),g.rt,fun ρ σ G2 H2 s2=>g.bk ρ σ G2 H2 (s.trans s2),fun ρ σ G2 H2 s2=>g.ct ρ σ G2 H2 (s.trans s2)⟩
def PX(X:Cx)(st:Stmt)(t:TX):Prop:=∃tt,PS X st tt/\∀(ρ:Ev) (σ:St) (G0 H0 G H:Hp) (D:DE) (E:Ends),cM X.K G0 H0 ρ σ G H->t D ρ->Goes X.K G0 H0 G D E->tt E σ H
def lC(X:Cx)(st:List Stmt)(t:TX):Prop:=∃tt,ny X st tt/\∀(ρ:Ev) (σ:St) (G0 H0 G H:Hp) (D:DE) (E:Ends),cM X.K G0 H0 ρ σ G H->t D ρ->Goes X.K G0 H0 G D E->tt E σ H
end L2
namespace L2
open PySem PySem.Spec PyProof.Rows
section
variable {X:Cx} {pos:Pos} {a b c:Expr} {ta tb tc:TD}
theorem fj{K:PySem.W.Frag}{G' H' H:Hp}{v:V}{d:D}(h:Rep K G' v d):d0 K G' H' H v (.fz d):=h
def bW(i:Nat):TD:=fun ρ Q=>match gt ρ i with
 | .fz d=>Q (.fz d)
 | _=>False
theorem bX(i:Nat){x:Str}(hN:X.N[i]?=some x:=by rfl)(hv:js X.env.scope x:=by first | exact Or.inl rfl | exact Or.inr (Or.inl rfl) | exact Or.inr (Or.inr rfl))(hd:(x==("__debug__":Str))=false:=by decide)
  (fi:(x==("__classdict__":Str))=false:=by decide):PD X (.Name x pos) (bW i):=by
 refine⟨_,jL hN hv hd fi,fun ρ σ G0 H0 G H Q P E h k=>?_⟩;unfold bW at h;split at h
 ·rename_i d e;obtain⟨v,h1,h2⟩:=E.fz i d e;exact⟨v,h1,k v H (.fz d) G (.refl E.e.s) h2 h⟩
 ·exact h.elim
def dC(d:D):TD:=fun _ Q=>Q (.fz d)
theorem AD{e:Expr}{v:V}{d:D}(h:PE X e (tC v))(r:∀K G,Rep K G v d):PD X e (dC d):=
 ⟨_,h,fun ρ σ G0 H0 G H Q P E h k=>k v H (.fz d) G (.refl E.e.s) (r _ _) h⟩
theorem iJ(K:PySem.W.Frag)(G:Hp)(i:Int):Rep K G (.int i) (.int i):=by simp only[Rep]
theorem kI(K:PySem.W.Frag)(G:Hp)(i:Bool):Rep K G (.bl i) (.bl i):=by simp only[Rep]
theorem wO(K:PySem.W.Frag)(G:Hp)(i:Str):Rep K G (.str i) (.str i):=by simp only[Rep]
theorem HV(K:PySem.W.Frag)(G:Hp):Rep K G .non .non:=by simp only[Rep]
theorem cp{i j}:PD X (.Constant (.int i) j pos) (dC (.int i)):=AD GW fun K G=>iJ K G i
theorem rW{i j}:PD X (.Constant (.bool i) j pos) (dC (.bl i)):=AD MK fun K G=>kI K G i
theorem nL{i j}:PD X (.Constant (.str i) j pos) (dC (.str i)):=AD Nb fun K G=>wO K G i
theorem nK{j}:PD X (.Constant .none j pos) (dC .non):=AD Nc fun K G=>HV K G
noncomputable abbrev O2:=D->D->(R->Prop)->Prop
def j5(X:Cx)(f:Value->Value->Sem Value)(o:O2):Prop:=∃r:R2,gB X f r/\∀(G H:Hp) (x y:V) (d e:D) (Q:R->Prop) (P:VK),cm G H->Rep X.K G x d->Rep X.K G y e->o d e Q->
 (∀v H' r' G',Ext G H G' H'->d0 X.K G' H' H v r'->Q r'->P v H')->r x y H P
def b9(o:O2)(ta tb:TD):TD:=fun ρ Q=>ta ρ fun ra=>tb ρ fun rb=>o ra.val rb.val Q
theorem Ae{r:R2}{o:O2}{xO xN:TE}
  (hr:∀(G H:Hp) (x y:V) (d e:D) (Q:R->Prop) (P:VK),cm G H->Rep X.K G x d->Rep X.K G y e->o d e Q->(∀v H' r' G',Ext G H G' H'->d0 X.K G' H' H v r'->Q r'->P v H')->r x y H P)
  (ha:∀(ρ:Ev) (σ:St) (G0 H0 G H:Hp) (Q:R->Prop) (P:VK),cM X.K G0 H0 ρ σ G H->ta ρ Q->(∀v H' r G',Ext G H G' H'->d0 X.K G' H' H v r->Q r->P v H')->xO σ H P)
  (hb:∀(ρ:Ev) (σ:St) (G0 H0 G H:Hp) (Q:R->Prop) (P:VK),cM X.K G0 H0 ρ σ G H->tb ρ Q->(∀v H' r G',Ext G H G' H'->d0 X.K G' H' H v r->Q r->P v H')->xN σ H P)
  (ρ:Ev) (σ:St) (G0 H0 G H:Hp) (Q:R->Prop) (P:VK) (E:cM X.K G0 H0 ρ σ G H) (h:b9 o ta tb ρ Q) (k:∀v H' r G',Ext G H G' H'->d0 X.K G' H' H v r->Q r->P v H'):xS r xO xN σ H P:=by
 refine ha ρ σ G0 H0 G H _ _ E h fun v H1 ra G1 x1 r1 h1=>?_
 obtain⟨F4,sj,q1,_⟩:=r1.freeze x1;refine hb ρ σ G0 H0 F4 H1 _ _ (E.ext sj) h1 fun u H2 rb G2 x2 r2 h2=>?_
 obtain⟨Bt,si,q2,_⟩:=r2.freeze x2;refine hr Bt H2 v u _ _ Q P si.s (q1.mono si.g) q2 h2 fun v' H' r' G' x3 r3 h3=>?_
 have x4:=(sj.trans si).trans x3;exact k v' H' r' G' x4 (r3.jl (sj.trans si).h) h3
theorem cI{op:Operator}{o:O2}(ho:j5 X (binaryOp op) o)(ha:PD X a ta)(hb:PD X b tb):PD X (.BinOp a op b pos) (b9 o ta tb):=by
 obtain⟨r,hr,l5⟩:=ho;obtain⟨xO,pa,qa⟩:=ha;obtain⟨xN,pb,qb⟩:=hb;exact⟨_,Gz hr pa pb,Ae l5 qa qb⟩
theorem rX{op:CmpOp}{o:O2}(ho:j5 X (compareOp op) o)(ha:PD X a ta)(hb:PD X b tb)(hm:behindInMarks op b=false:=by first | exact GS _ | rfl):PD X (.Compare a [op] [b] pos) (b9 o ta tb):=by
 obtain⟨r,hr,l5⟩:=ho;obtain⟨xO,pa,qa⟩:=ha;obtain⟨xN,pb,qb⟩:=hb;exact⟨_,OM hr pa pb hm,Ae l5 qa qb⟩
def eM(t:TD):gK:=fun ρ Q=>t ρ fun r=>match r with
 | .fz (.bl k)=>Q k
 | _=>False
theorem gM{op:CmpOp}{o:O2}(ho:j5 X (compareOp op) o)(ha:PD X a ta)(hb:PD X b tb)(hm:behindInMarks op b=false:=by first | exact GS _ | rfl):PB X (.Compare a [op] [b] pos) (eM (b9 o ta tb)):=by
 obtain⟨r,hr,l5⟩:=ho;obtain⟨xO,pa,qa⟩:=ha;obtain⟨xN,pb,qb⟩:=hb;refine⟨_,OL hr pa pb hm,fun ρ σ G0 H0 G H Q P E h k=>?_⟩;refine Ae l5 qa qb ρ σ G0 H0 G H _ _ E h fun v H' r G' x1 r1 h1=>?_
 split at h1
 ·rename_i kk;have e:v=.bl kk:=by simpa only[d0,Rep] using r1
  exact⟨kk,e,k kk H' G' x1 h1⟩
 ·exact h1.elim
theorem wG{e:Expr}{t:TD}(h:PD X e t)(he:∀whole,isTrue e X.env whole=(do let v <-whole;standAt e.pos;holding [v] (truthy v)):=by intro _;rfl):PB X e (eM t):=by
 obtain⟨tt,p,q⟩:=h;refine⟨_,Na p he,fun ρ σ G0 H0 G H Q P E h k=>?_⟩;refine q ρ σ G0 H0 G H _ _ E h fun v H' r G' x1 r1 h1=>?_
 split at h1
 ·rename_i kk;have e:v=.bl kk:=by simpa only[d0,Rep] using r1
  exact⟨kk,e,k kk H' G' x1 h1⟩
 ·exact h1.elim
def e9:O2:=fun d e Q=>match d,e with
 | .int i,.int j=>Q (.fz (.int (i+j)))
 | .str x,.str y=>x.length+y.length<=sizeLine/\Q (.fz (.str (x++y)))
 | .lst xs,.lst ys=>xs.length+ys.length<=sizeLine/\Q (.ow (xs++ys))
 | _,_=>False
def LY(K:PySem.W.Frag):R2:=fun x y H Q=>∃l b xs zs,x=.ref l/\y=.ref b/\jt K H l xs/\jt K H b zs/\xs.length+zs.length<=sizeLine/\∀p,H p=none->Q (.ref p) (upd H p (.lst (xs++zs)))
theorem OX:gB X (binaryOp .Add) (LY X.K):=by
 intro pins s σ H x y v u Q I rx ry h;obtain⟨l,b,xs,zs,rfl,rfl,hH,hB,hz,q⟩:=h;cases rx;cases ry;obtain⟨z,its,n,r,e⟩:=I.fb hH;obtain⟨z2,pC,n2,r2,e2⟩:=I.fb hB;have hl:=r.length;have Wn:=r2.length;refine PySem.P.add_list e e2 ?_ (by rw[aC,aC];omega);have ea:its.toArray++pC.toArray=(its++pC).toArray:=by simp
 rw[ea];exact⟨.ref _,_,I.uc (t':=s.toks) (r.append r2) (by rw[a9];omega),rfl,q _ I.fresh⟩
theorem vd{G H:Hp}{xs:List V}{ds:List D}{Q:R->Prop}{P:VK}(s:cm G H)(r:bV X.K G xs ds)(q:Q (.ow ds))
  (k:∀v H' r' G',Ext G H G' H'->d0 X.K G' H' H v r'->Q r'->P v H'):∀p,H p=none->P (.ref p) (upd H p (.lst xs)):=fun p hp=>
 k _ _ (.ow ds) G (.own s hp) ⟨p,xs,rfl,hp,s.free hp,fk,r⟩ q
theorem fL:j5 X (binaryOp .Add) e9:=by
 refine⟨_,t5.or (mv.or OX),fun G H x y d e Q P s rx ry h k=>?_⟩;unfold e9 at h;split at h
 ·simp only[Rep] at rx ry;exact .inl ⟨_,_,rx,ry,k _ _ _ G (.refl s) (fj (iJ _ _ _)) h⟩
 ·simp only[Rep] at rx ry;exact .inr (.inl ⟨_,_,rx,ry,h.1,k _ _ _ G (.refl s) (fj (wO _ _ _)) h.2⟩)
 ·simp only[Rep] at rx ry;obtain⟨a,xs,rfl,hx,JY⟩:=rx;obtain⟨b,ys,rfl,hy,A2⟩:=ry;refine .inr (.inr ⟨_,_,_,_,rfl,rfl,s.fb hx,s.fb hy,by rw[JY.length,A2.length];exact h.1,vd s (JY.append A2) h.2 k⟩)
 ·exact h.elim
def oI(C:Int->Int->Prop)(g:Int->Int->D):O2:=fun d e Q=>match d,e with
 | .int i,.int j=>C i j/\Q (.fz (g i j))
 | _,_=>False
def fB(g:Int->Int->D):O2:=fun d e Q=>match d,e with
 | .int i,.int j=>Q (.fz (g i j))
 | _,_=>False
theorem zZ{f:Value->Value->Sem Value}{C:Int->Int->Prop}{g:Int->Int->V}{g':Int->Int->D}(h:gB X f (rI C g))(hg:∀K G i j,Rep K G (g i j) (g' i j)):j5 X f (oI C g'):=by
 refine⟨_,h,fun G H x y d e Q P s rx ry h k=>?_⟩;unfold oI at h;split at h
 ·simp only[Rep] at rx ry;exact⟨_,_,rx,ry,h.1,k _ _ _ G (.refl s) (fj (hg _ _ _ _)) h.2⟩
 ·exact h.elim
theorem wF{f:Value->Value->Sem Value}{g:Int->Int->V}{g':Int->Int->D}(h:gB X f (nP g))(hg:∀K G i j,Rep K G (g i j) (g' i j)):j5 X f (fB g'):=by
 refine⟨_,h,fun G H x y d e Q P s rx ry h k=>?_⟩;unfold fB at h;split at h
 ·simp only[Rep] at rx ry;exact⟨_,_,rx,ry,k _ _ _ G (.refl s) (fj (hg _ _ _ _)) h⟩
 ·exact h.elim
theorem Gx:j5 X (binaryOp .Sub) (fB fun i j=>.int (i-j)):=wF NC fun K G i j=>iJ K G _
theorem rV:j5 X (binaryOp .Mult) (oI iG fun i j=>.int (i*j)):=zZ NB fun K G i j=>iJ K G _
theorem kW:j5 X (binaryOp .FloorDiv) (oI jH fun i j=>.int (i/j)):=zZ OO fun K G i j=>iJ K G _
theorem ix:j5 X (binaryOp .Mod) (oI (fun _ j=>0<j) fun i j=>.int (i%j)):=zZ NA fun K G i j=>iJ K G _
theorem zY:j5 X (binaryOp .Pow) (oI qd fun i j=>.int (i ^ j.toNat)):=zZ Nz fun K G i j=>iJ K G _
theorem uQ:j5 X (compareOp .Lt) (fB fun i j=>.bl (decide (i<j))):=wF MV fun K G i j=>kI K G _
theorem Lx:j5 X (compareOp .LtE) (fB fun i j=>.bl (decide (i<=j))):=wF BQ fun K G i j=>kI K G _
theorem qJ:j5 X (compareOp .Gt) (fB fun i j=>.bl (decide (j<i))):=wF MU fun K G i j=>kI K G _
theorem Lw:j5 X (compareOp .GtE) (fB fun i j=>.bl (decide (j<=i))):=wF MT fun K G i j=>kI K G _
end
end L2
namespace L2
open PySem PySem.Spec PyProof.Rows PySem.SeqAt
mutual
noncomputable def cw:D->D->Bool
 | .non,.non=>true
 | .bl a,.bl b=>a==b
 | .bl a,.int b=>(if a then 1 else 0)==b
 | .int a,.bl b=>a==(if b then 1 else 0)
 | .int a,.int b=>a==b
 | .str a,.str b=>a==b
 | .tup xs,.tup ys=>mS xs ys
 | .lst xs,.lst ys=>mS xs ys
 | _,_=>false
noncomputable def mS:List D->List D->Bool
 | [],[]=>true
 | x::xs,y::ys=>cw x y&&mS xs ys
 | _,_=>false
end
def iA:Nat->D->Prop
 | _,.non=>True
 | _,.bl _=>True
 | _,.int _=>True
 | _,.str _=>True
 | n+1,.tup ds=>∀d∈ds,iA n d
 | n+1,.lst ds=>∀d∈ds,iA n d
 | _,_=>False
mutual
theorem CO:∀(n:Nat) (d:D),iA n d->cw d d=true
 | n,.non,_=>by simp only[cw]
 | n,.bl _,_=>by simp only[cw,beq_self_eq_true]
 | n,.int _,_=>by simp only[cw,beq_self_eq_true]
 | n,.str _,_=>by simp only[cw,beq_self_eq_true]
 | 0,.tup ds,h=>by cases h
 | 0,.lst ds,h=>by cases h
 | n+1,.tup ds,h=>by simp only[cw];exact CZ n ds h
 | n+1,.lst ds,h=>by simp only[cw];exact CZ n ds h
 | 0,.obj _ _,h=>by cases h
 | n+1,.obj _ _,h=>by cases h
 | 0,.dic _,h=>by cases h
 | 0,.dit _,h=>by cases h
 | n+1,.dic _,h=>by cases h
 | n+1,.dit _,h=>by cases h
theorem CZ:∀(n:Nat) (ds:List D),(∀d∈ds,iA n d)->mS ds ds=true
 | n,[],_=>by simp only[mS]
 | n,d::ds,h=>by simp only[mS,CO n d (h d (by simp)),CZ n ds (fun e he=>h e (by simp[he])),Bool.and_self]
end
theorem xa:∀{xs ys:List D},xs.length≠ys.length->mS xs ys=false
 | [],[],h=>absurd rfl h
 | x::xs,y::ys,h=>by
  rw[mS,xa (xs:=xs) (ys:=ys) (by simpa using h),Bool.and_false]
 | [],_::_,_=>by simp only[mS]
 | _::_,[],_=>by simp only[mS]
theorem w8:∀(xs ys:List D),xs.length=ys.length->mS xs ys=(List.range xs.length).all fun j=>cw (xs.getD j .non) (ys.getD j .non)
 | [],[],_=>by simp[mS]
 | x::xs,y::ys,h=>by
  rw[mS,w8 xs ys (by simpa using h),aN,List.range_succ_eq_map,List.all_cons,List.all_map];congr 1
 | [],_::_,h=>by simp at h
 | _::_,[],h=>by simp at h
theorem CN(xs ys:List D):((List.range (min xs.length ys.length)).all (fun j=>cw (xs.getD j .non) (ys.getD j .non))&&xs.length==ys.length)=mS xs ys:=by
 by_cases h:xs.length=ys.length
 ·rw[w8 xs ys h,h];simp
 ·rw[xa h];simp[h]
section
variable {X:Cx} {pins:List (Addr×Obj)} {σ:St} {H:Hp} {s:Shared}
mutual
theorem Ce(I:Inv X pins σ H s):∀(n:Nat) (d e:D) (v:V),iA n d->iA n e->Rep X.K H v d->Rep X.K H v e->d=e
 | n,.non,e,v,h,h',r,r'=>by
  cases e<;>simp only[Rep] at r r'<;>subst r<;>first | rfl | (simp at r';done) | (simp only[V.bl.injEq,V.int.injEq,V.str.injEq] at r';rw[r'])
 | n,.bl b,e,v,h,h',r,r'=>by
  cases e<;>simp only[Rep] at r r'<;>subst r<;>first | rfl | (simp at r';done) | (simp only[V.bl.injEq,V.int.injEq,V.str.injEq] at r';rw[r'])
 | n,.int b,e,v,h,h',r,r'=>by
  cases e<;>simp only[Rep] at r r'<;>subst r<;>first | rfl | (simp at r';done) | (simp only[V.bl.injEq,V.int.injEq,V.str.injEq] at r';rw[r'])
 | n,.str b,e,v,h,h',r,r'=>by
  cases e<;>simp only[Rep] at r r'<;>subst r<;>first | rfl | (simp at r';done) | (simp only[V.bl.injEq,V.int.injEq,V.str.injEq] at r';rw[r'])
 | 0,.tup ds,e,v,h,h',r,r'=>by cases h
 | 0,.lst ds,e,v,h,h',r,r'=>by cases h
 | n+1,.tup ds,e,v,h,h',r,r'=>by
  simp only[Rep] at r;obtain⟨a,xs,rfl,q,rs⟩:=r;cases e<;>simp only[Rep] at r'
  case tup es=>
   obtain⟨b,ys,e1,q',gQ⟩:=r';cases e1;rw[I.jZ q' q] at gQ;rw[CM I n ds es xs h h' rs gQ]
  case lst es=>
   obtain⟨b,ys,e1,q',gQ⟩:=r';cases e1;obtain⟨its,_,ht,_⟩:=I.tuple q;obtain⟨its',_,hl,_⟩:=I.list q'.sq;exact absurd rfl (ne_of_list_tuple hl.isList (show s.heap.IsTuple a its.toArray from ht))
  case obj=>cases h'
  case dic=>cases h'
  case dit=>cases h'
  all_goals cases r'
 | n+1,.lst ds,e,v,h,h',r,r'=>by
  simp only[Rep] at r;obtain⟨a,xs,rfl,q,rs⟩:=r;cases e<;>simp only[Rep] at r'
  case lst es=>
   obtain⟨b,ys,e1,q',gQ⟩:=r';cases e1;rw[I.fZ q'.sq q.sq] at gQ;rw[CM I n ds es xs h h' rs gQ]
  case tup es=>
   obtain⟨b,ys,e1,q',gQ⟩:=r';cases e1;obtain⟨its,_,ht,_⟩:=I.tuple q';obtain⟨its',_,hl,_⟩:=I.list q.sq;exact absurd rfl (ne_of_list_tuple hl.isList (show s.heap.IsTuple a its.toArray from ht))
  case obj=>cases h'
  case dic=>cases h'
  case dit=>cases h'
  all_goals cases r'
 | 0,.obj _ _,_,_,h,_,_,_=>by cases h
 | n+1,.obj _ _,_,_,h,_,_,_=>by cases h
 | 0,.dic _,_,_,h,_,_,_=>by cases h
 | 0,.dit _,_,_,h,_,_,_=>by cases h
 | n+1,.dic _,_,_,h,_,_,_=>by cases h
 | n+1,.dit _,_,_,h,_,_,_=>by cases h
theorem CM(I:Inv X pins σ H s):∀(n:Nat) (ds es:List D) (vs:List V),(∀d∈ds,iA n d)->(∀d∈es,iA n d)->bV X.K H vs ds->bV X.K H vs es->ds=es
 | n,[],[],_,_,_,_,_=>rfl
 | n,d::ds,e::es,v::vs,h,h',r,r'=>by
  simp only[bV] at r r';rw[Ce I n d e v (h d (by simp)) (h' e (by simp)) r.1 r'.1,CM I n ds es vs (fun x hx=>h x (by simp[hx])) (fun x hx=>h' x (by simp[hx])) r.2 r'.2]
 | n,[],_::_,[],_,_,_,r=>by simp only[bV] at r
 | n,[],_::_,_::_,_,_,r,_=>by simp only[bV] at r
 | n,_::_,[],[],_,_,r,_=>by simp only[bV] at r
 | n,_::_,[],_::_,_,_,_,r=>by simp only[bV] at r
 | n,_::_,_::_,[],_,_,r,_=>by simp only[bV] at r
end
theorem oD{vs:List V}{ds:List D}{us:List Value}{j:Nat}(rv:Vals vs us)(rd:bV X.K H vs ds)(hj:j<us.toArray.size):∃v,RelV v us.toArray[j]/\Rep X.K H v (ds.getD j .non)/\ds.getD j .non∈ds:=by
 have h1:j<us.length:=by simpa using hj
 have h2:j<vs.length:=by rw[rv.length];exact h1
 have h3:j<ds.length:=by rw[<-rd.length];exact h2
 obtain⟨u,hu,ru⟩:=rv.get (ag h2);obtain⟨d,hd,Vf⟩:=rd.ze (ag h2);rw[ag h1] at hu;rw[ag h3] at hd;cases hu;cases hd;refine⟨vs[j],?_,?_,?_⟩
 ·simpa using ru
 ·simpa[List.getD,h3] using Vf
 ·simp[List.getD,h3]
noncomputable def uW:D->Bool
 | .non=>true
 | .bl _=>true
 | .int _=>true
 | .str _=>true
 | _=>false
theorem HU{d e:D}{x y:V}(hd:uW d=true)(he:uW e=true)(rx:Rep X.K H x d)(ry:Rep X.K H y e):zX x=true/\zX y=true/\FH x y=cw d e:=by
 cases d<;>first | cases hd | skip
 all_goals (cases e<;>first | cases he | skip)
 all_goals
  simp only[Rep] at rx ry;subst rx ry;exact⟨rfl,rfl,by simp[FH,cw]⟩
theorem Ab(I:Inv X pins σ H s):∀(n:Nat) (A:Around) (d e:D) (x y:V) (v u:Value),iA n d->iA n e->A.units+n<cLine->Rep X.K H x d->Rep X.K H y e->RelV x v->RelV y u->EqAt A s v u (cw d e):=by
 intro n;induction n with
 | zero=>
  intro A d e x y v u hd he hu rx ry qx qy;have fd:uW d=true:=by cases d<;>first | rfl | cases hd
  have fe:uW e=true:=by cases e<;>first | rfl | cases he
  obtain⟨h1,h2,h3⟩:=HU fd fe rx ry;rw[<-h3];exact GN qx qy h1 h2
 | succ n ih=>
  intro A d e x y v u hd he hu rx ry qx qy;have dv:A.units<cLine:=by omega
  have nX:A.in1.units+n<cLine:=by show A.units+1+n<cLine;omega
  by_cases fd:uW d=true
  ·by_cases fe:uW e=true
   ·obtain⟨h1,h2,h3⟩:=HU fd fe rx ry;rw[<-h3];exact GN qx qy h1 h2
   ·cases e<;>first | exact absurd rfl fe | skip
    case tup es=>
     simp only[Rep] at ry;obtain⟨b,ys,rfl,q,rs⟩:=ry;cases qy;obtain⟨its,rv,ht,_⟩:=I.tuple q;have dW:s.heap.IsTuple b its.toArray:=ht;cases d<;>first | cases fd | skip
     ·simp only[Rep] at rx;subst rx;cases qx;simpa only[cw] using EqAt.none_tuple dW dv
     ·simp only[Rep] at rx;subst rx;cases qx;simpa only[cw] using EqAt.bool_tuple _ dW dv
     ·simp only[Rep] at rx;subst rx;obtain⟨t,rfl⟩:=qx;simpa only[cw] using EqAt.int_tuple _ t dW dv
     ·simp only[Rep] at rx;subst rx;obtain⟨t,rfl⟩:=qx;simpa only[cw] using EqAt.str_tuple _ t dW dv
    case lst es=>
     simp only[Rep] at ry;obtain⟨b,ys,rfl,q,rs⟩:=ry;cases qy;obtain⟨its,rv,ht,_⟩:=I.list q.sq;have dW:=ht.isList;cases d<;>first | cases fd | skip
     ·simp only[Rep] at rx;subst rx;cases qx;simpa only[cw] using EqAt.none_list dW dv
     ·simp only[Rep] at rx;subst rx;cases qx;simpa only[cw] using EqAt.bool_list _ dW dv
     ·simp only[Rep] at rx;subst rx;obtain⟨t,rfl⟩:=qx;simpa only[cw] using EqAt.int_list _ t dW dv
     ·simp only[Rep] at rx;subst rx;obtain⟨t,rfl⟩:=qx;simpa only[cw] using EqAt.str_list _ t dW dv
    case obj=>cases he
    case dic=>cases he
    case dit=>cases he
  ·cases d<;>first | exact absurd rfl fd | skip
   case tup ds=>
    have DY:=rx;simp only[Rep] at rx;obtain⟨a,xs,rfl,q,rs⟩:=rx;cases qx;obtain⟨its,rv,ht,_⟩:=I.tuple q;have dW:s.heap.IsTuple a its.toArray:=ht;cases e
    case non=>simp only[Rep] at ry;subst ry;cases qy;simpa only[cw] using EqAt.tuple_none dW dv
    case bl=>simp only[Rep] at ry;subst ry;cases qy;simpa only[cw] using EqAt.tuple_bool _ dW dv
    case int=>simp only[Rep] at ry;subst ry;obtain⟨t,rfl⟩:=qy;simpa only[cw] using EqAt.tuple_int _ t dW dv
    case str=>simp only[Rep] at ry;subst ry;obtain⟨t,rfl⟩:=qy;simpa only[cw] using EqAt.tuple_str _ t dW dv
    case lst es=>
     simp only[Rep] at ry;obtain⟨b,ys,rfl,q',gQ⟩:=ry;cases qy;obtain⟨its',iw,hl,_⟩:=I.list q'.sq;simpa only[cw] using EqAt.tuple_list dW hl.isList dv
    case tup es=>
     have DX:=ry;simp only[Rep] at ry;obtain⟨b,ys,rfl,q',gQ⟩:=ry;cases qy;obtain⟨its',iw,m8,_⟩:=I.tuple q';by_cases iV:a=b
     ·subst iV;have e0:=Ce I (n+1) _ _ _ hd he DY DX;rw[<-e0,CO (n+1) _ hd];exact EqAt.same _
     ·refine EqAt.of_refs iV ?_;have h:=RcAt.tuples (e:=fun j=>cw (ds.getD j .non) (es.getD j .non)) dW (show s.heap.IsTuple b its'.toArray from m8) dv fun j h1 h2=>by
       obtain⟨v1,a1,b1,c1⟩:=oD rv rs h1;obtain⟨v2,a2,b2,c2⟩:=oD iw gQ h2;exact ih A.in1 _ _ v1 v2 _ _ (hd _ c1) (he _ c2) nX b1 b2 a1 a2
      have l1:its.toArray.size=ds.length:=by rw[aC,<-rv.length,rs.length]
      have l2:its'.toArray.size=es.length:=by rw[aC,<-iw.length,gQ.length]
      rw[l1,l2,CN] at h;simpa only[cw] using h
    case obj=>cases he
    case dic=>cases he
    case dit=>cases he
   case lst ds=>
    have DY:=rx;simp only[Rep] at rx;obtain⟨a,xs,rfl,q,rs⟩:=rx;cases qx;obtain⟨its,rv,ht,_⟩:=I.list q.sq;have dW:=ht.isList;cases e
    case non=>simp only[Rep] at ry;subst ry;cases qy;simpa only[cw] using EqAt.list_none dW dv
    case bl=>simp only[Rep] at ry;subst ry;cases qy;simpa only[cw] using EqAt.list_bool _ dW dv
    case int=>simp only[Rep] at ry;subst ry;obtain⟨t,rfl⟩:=qy;simpa only[cw] using EqAt.list_int _ t dW dv
    case str=>simp only[Rep] at ry;subst ry;obtain⟨t,rfl⟩:=qy;simpa only[cw] using EqAt.list_str _ t dW dv
    case tup es=>
     simp only[Rep] at ry;obtain⟨b,ys,rfl,q',gQ⟩:=ry;cases qy;obtain⟨its',iw,hl,_⟩:=I.tuple q';simpa only[cw] using EqAt.list_tuple dW (show s.heap.IsTuple b its'.toArray from hl) dv
    case lst es=>
     have DX:=ry;simp only[Rep] at ry;obtain⟨b,ys,rfl,q',gQ⟩:=ry;cases qy;obtain⟨its',iw,m8,_⟩:=I.list q'.sq;by_cases iV:a=b
     ·subst iV;have e0:=Ce I (n+1) _ _ _ hd he DY DX;rw[<-e0,CO (n+1) _ hd];exact EqAt.same _
     ·refine EqAt.of_refs iV ?_;have l1:its.toArray.size=ds.length:=by rw[aC,<-rv.length,rs.length]
      have l2:its'.toArray.size=es.length:=by rw[aC,<-iw.length,gQ.length]
      by_cases hl:ds.length=es.length
      ·have h:=RcAt.lists (e:=fun j=>cw (ds.getD j .non) (es.getD j .non)) dW m8.isList (by rw[l1,l2,hl]) dv fun j h1 h2=>by
        obtain⟨v1,a1,b1,c1⟩:=oD rv rs h1;obtain⟨v2,a2,b2,c2⟩:=oD iw gQ h2;exact ih A.in1 _ _ v1 v2 _ _ (hd _ c1) (he _ c2) nX b1 b2 a1 a2
       rw[l1,<-w8 ds es hl] at h;simpa only[cw] using h
      ·have h:=RcAt.lists_lengths (A:=A) dW m8.isList (by rw[l1,l2];simpa using hl) dv;simp only[cw,xa hl];exact h
    case obj=>cases he
    case dic=>cases he
    case dit=>cases he
   case obj=>cases hd
   case dic=>cases hd
   case dit=>cases hd
end
end L2
namespace L2
open PySem PySem.Spec PyProof.Rows PySem.SeqAt
section
variable {X:Cx} {pins:List (Addr×Obj)} {σ:St} {H:Hp} {s:Shared}
theorem Nk(I:Inv X pins σ H s):∀(n:Nat) (A:Around) (d e:D) (x y:V) (v u:Value),iA n d->iA n e->A.units+n<cLine->Rep X.K H x d->Rep X.K H y e->RelV x v->RelV y u->RcAt A s v u (cw d e):=by
 intro n A d e x y v u hd he hu rx ry qx qy;have dv:A.units<cLine:=by omega
 cases d
 case non=>
  simp only[Rep] at rx;subst rx;cases qx;cases e
  case non=>simp only[Rep] at ry;subst ry;cases qy;simpa only[cw,Bool.not_true] using RcAt.none_none
  case bl=>simp only[Rep] at ry;subst ry;cases qy;simpa only[cw,ar] using RcAt.none_bool _
  case int=>simp only[Rep] at ry;subst ry;obtain⟨t,rfl⟩:=qy;simpa only[cw,ar] using RcAt.none_int _ t
  case str=>simp only[Rep] at ry;subst ry;obtain⟨t,rfl⟩:=qy;simpa only[cw,ar] using RcAt.none_str _ t
  case tup=>
   simp only[Rep] at ry;obtain⟨b,ys,rfl,q,rs⟩:=ry;cases qy;obtain⟨its,rv,ht,_⟩:=I.tuple q;simpa only[cw,ar] using RcAt.none_tuple (show s.heap.IsTuple b its.toArray from ht) dv
  case lst=>
   simp only[Rep] at ry;obtain⟨b,ys,rfl,q,rs⟩:=ry;cases qy;obtain⟨its,rv,ht,_⟩:=I.list q.sq;simpa only[cw,ar] using RcAt.none_list ht.isList dv
  case obj=>cases n<;>cases he
  case dic=>cases n<;>cases he
  case dit=>cases n<;>cases he
 case bl a=>
  simp only[Rep] at rx;subst rx;cases qx;cases e
  case non=>simp only[Rep] at ry;subst ry;cases qy;simpa only[cw,ar] using RcAt.bool_none _
  case bl=>simp only[Rep] at ry;subst ry;cases qy;simpa only[cw] using RcAt.bool_bool _ _
  case int=>simp only[Rep] at ry;subst ry;obtain⟨t,rfl⟩:=qy;simpa only[cw] using RcAt.bool_int _ _ t
  case str=>simp only[Rep] at ry;subst ry;obtain⟨t,rfl⟩:=qy;simpa only[cw,ar] using RcAt.bool_str _ _ t
  case tup=>
   simp only[Rep] at ry;obtain⟨b,ys,rfl,q,rs⟩:=ry;cases qy;obtain⟨its,rv,ht,_⟩:=I.tuple q;simpa only[cw,ar] using RcAt.bool_tuple _ (show s.heap.IsTuple b its.toArray from ht) dv
  case lst=>
   simp only[Rep] at ry;obtain⟨b,ys,rfl,q,rs⟩:=ry;cases qy;obtain⟨its,rv,ht,_⟩:=I.list q.sq;simpa only[cw,ar] using RcAt.bool_list _ ht.isList dv
  case obj=>cases n<;>cases he
  case dic=>cases n<;>cases he
  case dit=>cases n<;>cases he
 case int a=>
  simp only[Rep] at rx;subst rx;obtain⟨t0,rfl⟩:=qx;cases e
  case non=>simp only[Rep] at ry;subst ry;cases qy;simpa only[cw,ar] using RcAt.int_none _ t0
  case bl=>simp only[Rep] at ry;subst ry;cases qy;simpa only[cw] using RcAt.int_bool _ t0 _
  case int=>simp only[Rep] at ry;subst ry;obtain⟨t,rfl⟩:=qy;simpa only[cw] using RcAt.int_int _ t0 _ t
  case str=>simp only[Rep] at ry;subst ry;obtain⟨t,rfl⟩:=qy;simpa only[cw,ar] using RcAt.int_str _ t0 _ t
  case tup=>
   simp only[Rep] at ry;obtain⟨b,ys,rfl,q,rs⟩:=ry;cases qy;obtain⟨its,rv,ht,_⟩:=I.tuple q;simpa only[cw,ar] using RcAt.int_tuple _ t0 (show s.heap.IsTuple b its.toArray from ht) dv
  case lst=>
   simp only[Rep] at ry;obtain⟨b,ys,rfl,q,rs⟩:=ry;cases qy;obtain⟨its,rv,ht,_⟩:=I.list q.sq;simpa only[cw,ar] using RcAt.int_list _ t0 ht.isList dv
  case obj=>cases n<;>cases he
  case dic=>cases n<;>cases he
  case dit=>cases n<;>cases he
 case str a=>
  simp only[Rep] at rx;subst rx;obtain⟨t0,rfl⟩:=qx;cases e
  case non=>simp only[Rep] at ry;subst ry;cases qy;simpa only[cw,ar] using RcAt.str_none _ t0
  case bl=>simp only[Rep] at ry;subst ry;cases qy;simpa only[cw,ar] using RcAt.str_bool _ t0 _
  case int=>simp only[Rep] at ry;subst ry;obtain⟨t,rfl⟩:=qy;simpa only[cw,ar] using RcAt.str_int _ t0 _ t
  case str=>simp only[Rep] at ry;subst ry;obtain⟨t,rfl⟩:=qy;simpa only[cw] using RcAt.str_str _ t0 _ t
  case tup=>
   simp only[Rep] at ry;obtain⟨b,ys,rfl,q,rs⟩:=ry;cases qy;obtain⟨its,rv,ht,_⟩:=I.tuple q;simpa only[cw,ar] using RcAt.str_tuple _ t0 (show s.heap.IsTuple b its.toArray from ht) dv
  case lst=>
   simp only[Rep] at ry;obtain⟨b,ys,rfl,q,rs⟩:=ry;cases qy;obtain⟨its,rv,ht,_⟩:=I.list q.sq;simpa only[cw,ar] using RcAt.str_list _ t0 ht.isList dv
  case obj=>cases n<;>cases he
  case dic=>cases n<;>cases he
  case dit=>cases n<;>cases he
 case tup ds=>
  cases n with
  | zero=>cases hd
  | succ n=>
  have nX:A.in1.units+n<cLine:=by show A.units+1+n<cLine;omega
  simp only[Rep] at rx;obtain⟨a,xs,rfl,q,rs⟩:=rx;cases qx;obtain⟨its,rv,ht,_⟩:=I.tuple q;have dW:s.heap.IsTuple a its.toArray:=ht;cases e
  case non=>simp only[Rep] at ry;subst ry;cases qy;simpa only[cw,ar] using RcAt.tuple_none dW dv
  case bl=>simp only[Rep] at ry;subst ry;cases qy;simpa only[cw,ar] using RcAt.tuple_bool _ dW dv
  case int=>simp only[Rep] at ry;subst ry;obtain⟨t,rfl⟩:=qy;simpa only[cw,ar] using RcAt.tuple_int _ t dW dv
  case str=>simp only[Rep] at ry;subst ry;obtain⟨t,rfl⟩:=qy;simpa only[cw,ar] using RcAt.tuple_str _ t dW dv
  case lst es=>
   simp only[Rep] at ry;obtain⟨b,ys,rfl,q',gQ⟩:=ry;cases qy;obtain⟨its',iw,hl,_⟩:=I.list q'.sq;simpa only[cw,ar] using RcAt.tuple_list dW hl.isList dv
  case tup es=>
   simp only[Rep] at ry;obtain⟨b,ys,rfl,q',gQ⟩:=ry;cases qy;obtain⟨its',iw,m8,_⟩:=I.tuple q';have h:=RcAt.tuples (e:=fun j=>cw (ds.getD j .non) (es.getD j .non)) dW (show s.heap.IsTuple b its'.toArray from m8) dv fun j h1 h2=>by
    obtain⟨v1,a1,b1,c1⟩:=oD rv rs h1;obtain⟨v2,a2,b2,c2⟩:=oD iw gQ h2;exact Ab I n A.in1 _ _ v1 v2 _ _ (hd _ c1) (he _ c2) nX b1 b2 a1 a2
   have l1:its.toArray.size=ds.length:=by rw[aC,<-rv.length,rs.length]
   have l2:its'.toArray.size=es.length:=by rw[aC,<-iw.length,gQ.length]
   rw[l1,l2,CN] at h;simpa only[cw] using h
  case obj=>cases he
  case dic=>cases he
  case dit=>cases he
 case lst ds=>
  cases n with
  | zero=>cases hd
  | succ n=>
  have nX:A.in1.units+n<cLine:=by show A.units+1+n<cLine;omega
  simp only[Rep] at rx;obtain⟨a,xs,rfl,q,rs⟩:=rx;cases qx;obtain⟨its,rv,ht,_⟩:=I.list q.sq;have dW:=ht.isList;cases e
  case non=>simp only[Rep] at ry;subst ry;cases qy;simpa only[cw,ar] using RcAt.list_none dW dv
  case bl=>simp only[Rep] at ry;subst ry;cases qy;simpa only[cw,ar] using RcAt.list_bool _ dW dv
  case int=>simp only[Rep] at ry;subst ry;obtain⟨t,rfl⟩:=qy;simpa only[cw,ar] using RcAt.list_int _ t dW dv
  case str=>simp only[Rep] at ry;subst ry;obtain⟨t,rfl⟩:=qy;simpa only[cw,ar] using RcAt.list_str _ t dW dv
  case tup es=>
   simp only[Rep] at ry;obtain⟨b,ys,rfl,q',gQ⟩:=ry;cases qy;obtain⟨its',iw,hl,_⟩:=I.tuple q';simpa only[cw,ar] using RcAt.list_tuple dW (show s.heap.IsTuple b its'.toArray from hl) dv
  case lst es=>
   simp only[Rep] at ry;obtain⟨b,ys,rfl,q',gQ⟩:=ry;cases qy;obtain⟨its',iw,m8,_⟩:=I.list q'.sq;have l1:its.toArray.size=ds.length:=by rw[aC,<-rv.length,rs.length]
   have l2:its'.toArray.size=es.length:=by rw[aC,<-iw.length,gQ.length]
   by_cases hl:ds.length=es.length
   ·have h:=RcAt.lists (e:=fun j=>cw (ds.getD j .non) (es.getD j .non)) dW m8.isList (by rw[l1,l2,hl]) dv fun j h1 h2=>by
     obtain⟨v1,a1,b1,c1⟩:=oD rv rs h1;obtain⟨v2,a2,b2,c2⟩:=oD iw gQ h2;exact Ab I n A.in1 _ _ v1 v2 _ _ (hd _ c1) (he _ c2) nX b1 b2 a1 a2
    rw[l1,<-w8 ds es hl] at h;simpa only[cw] using h
   ·have h:=RcAt.lists_lengths (A:=A) dW m8.isList (by rw[l1,l2];simpa using hl) dv;simp only[cw,xa hl];exact h
  case obj=>cases he
  case dic=>cases he
  case dit=>cases he
 case obj=>cases n<;>cases hd
 case dic=>cases n<;>cases hd
 case dit=>cases n<;>cases hd
theorem QN(I:Inv X pins σ H s):∀(n:Nat) (A:Around) (d e:D) (x y:V) (v u:Value),iA n d->iA n e->A.units+n<cLine->Rep X.K H x d->Rep X.K H y e->RelV x v->RelV y u->RcNeAt A s v u (!cw d e):=by
 intro n A d e x y v u hd he hu rx ry qx qy;have dv:A.units<cLine:=by omega
 cases d
 case non=>
  simp only[Rep] at rx;subst rx;cases qx;cases e
  case non=>simp only[Rep] at ry;subst ry;cases qy;simpa only[cw,Bool.not_true] using RcNeAt.none_none
  case bl=>simp only[Rep] at ry;subst ry;cases qy;simpa only[cw,ar] using RcNeAt.none_bool _
  case int=>simp only[Rep] at ry;subst ry;obtain⟨t,rfl⟩:=qy;simpa only[cw,ar] using RcNeAt.none_int _ t
  case str=>simp only[Rep] at ry;subst ry;obtain⟨t,rfl⟩:=qy;simpa only[cw,ar] using RcNeAt.none_str _ t
  case tup=>
   simp only[Rep] at ry;obtain⟨b,ys,rfl,q,rs⟩:=ry;cases qy;obtain⟨its,rv,ht,_⟩:=I.tuple q;simpa only[cw,ar] using RcNeAt.none_tuple (show s.heap.IsTuple b its.toArray from ht) dv
  case lst=>
   simp only[Rep] at ry;obtain⟨b,ys,rfl,q,rs⟩:=ry;cases qy;obtain⟨its,rv,ht,_⟩:=I.list q.sq;simpa only[cw,ar] using RcNeAt.none_list ht.isList dv
  case obj=>cases n<;>cases he
  case dic=>cases n<;>cases he
  case dit=>cases n<;>cases he
 case bl a=>
  simp only[Rep] at rx;subst rx;cases qx;cases e
  case non=>simp only[Rep] at ry;subst ry;cases qy;simpa only[cw,ar] using RcNeAt.bool_none _
  case bl=>simp only[Rep] at ry;subst ry;cases qy;simpa only[cw] using RcNeAt.bool_bool _ _
  case int=>simp only[Rep] at ry;subst ry;obtain⟨t,rfl⟩:=qy;simpa only[cw] using RcNeAt.bool_int _ _ t
  case str=>simp only[Rep] at ry;subst ry;obtain⟨t,rfl⟩:=qy;simpa only[cw,ar] using RcNeAt.bool_str _ _ t
  case tup=>
   simp only[Rep] at ry;obtain⟨b,ys,rfl,q,rs⟩:=ry;cases qy;obtain⟨its,rv,ht,_⟩:=I.tuple q;simpa only[cw,ar] using RcNeAt.bool_tuple _ (show s.heap.IsTuple b its.toArray from ht) dv
  case lst=>
   simp only[Rep] at ry;obtain⟨b,ys,rfl,q,rs⟩:=ry;cases qy;obtain⟨its,rv,ht,_⟩:=I.list q.sq;simpa only[cw,ar] using RcNeAt.bool_list _ ht.isList dv
  case obj=>cases n<;>cases he
  case dic=>cases n<;>cases he
  case dit=>cases n<;>cases he
 case int a=>
  simp only[Rep] at rx;subst rx;obtain⟨t0,rfl⟩:=qx;cases e
  case non=>simp only[Rep] at ry;subst ry;cases qy;simpa only[cw,ar] using RcNeAt.int_none _ t0
  case bl=>simp only[Rep] at ry;subst ry;cases qy;simpa only[cw] using RcNeAt.int_bool _ t0 _
  case int=>simp only[Rep] at ry;subst ry;obtain⟨t,rfl⟩:=qy;simpa only[cw] using RcNeAt.int_int _ t0 _ t
  case str=>simp only[Rep] at ry;subst ry;obtain⟨t,rfl⟩:=qy;simpa only[cw,ar] using RcNeAt.int_str _ t0 _ t
  case tup=>
   simp only[Rep] at ry;obtain⟨b,ys,rfl,q,rs⟩:=ry;cases qy;obtain⟨its,rv,ht,_⟩:=I.tuple q;simpa only[cw,ar] using RcNeAt.int_tuple _ t0 (show s.heap.IsTuple b its.toArray from ht) dv
  case lst=>
   simp only[Rep] at ry;obtain⟨b,ys,rfl,q,rs⟩:=ry;cases qy;obtain⟨its,rv,ht,_⟩:=I.list q.sq;simpa only[cw,ar] using RcNeAt.int_list _ t0 ht.isList dv
  case obj=>cases n<;>cases he
  case dic=>cases n<;>cases he
  case dit=>cases n<;>cases he
 case str a=>
  simp only[Rep] at rx;subst rx;obtain⟨t0,rfl⟩:=qx;cases e
  case non=>simp only[Rep] at ry;subst ry;cases qy;simpa only[cw,ar] using RcNeAt.str_none _ t0
  case bl=>simp only[Rep] at ry;subst ry;cases qy;simpa only[cw,ar] using RcNeAt.str_bool _ t0 _
  case int=>simp only[Rep] at ry;subst ry;obtain⟨t,rfl⟩:=qy;simpa only[cw,ar] using RcNeAt.str_int _ t0 _ t
  case str=>simp only[Rep] at ry;subst ry;obtain⟨t,rfl⟩:=qy;simpa only[cw] using RcNeAt.str_str _ t0 _ t
  case tup=>
   simp only[Rep] at ry;obtain⟨b,ys,rfl,q,rs⟩:=ry;cases qy;obtain⟨its,rv,ht,_⟩:=I.tuple q;simpa only[cw,ar] using RcNeAt.str_tuple _ t0 (show s.heap.IsTuple b its.toArray from ht) dv
  case lst=>
   simp only[Rep] at ry;obtain⟨b,ys,rfl,q,rs⟩:=ry;cases qy;obtain⟨its,rv,ht,_⟩:=I.list q.sq;simpa only[cw,ar] using RcNeAt.str_list _ t0 ht.isList dv
  case obj=>cases n<;>cases he
  case dic=>cases n<;>cases he
  case dit=>cases n<;>cases he
 case tup ds=>
  cases n with
  | zero=>cases hd
  | succ n=>
  have nX:A.in1.units+n<cLine:=by show A.units+1+n<cLine;omega
  simp only[Rep] at rx;obtain⟨a,xs,rfl,q,rs⟩:=rx;cases qx;obtain⟨its,rv,ht,_⟩:=I.tuple q;have dW:s.heap.IsTuple a its.toArray:=ht;cases e
  case non=>simp only[Rep] at ry;subst ry;cases qy;simpa only[cw,ar] using RcNeAt.tuple_none dW dv
  case bl=>simp only[Rep] at ry;subst ry;cases qy;simpa only[cw,ar] using RcNeAt.tuple_bool _ dW dv
  case int=>simp only[Rep] at ry;subst ry;obtain⟨t,rfl⟩:=qy;simpa only[cw,ar] using RcNeAt.tuple_int _ t dW dv
  case str=>simp only[Rep] at ry;subst ry;obtain⟨t,rfl⟩:=qy;simpa only[cw,ar] using RcNeAt.tuple_str _ t dW dv
  case lst es=>
   simp only[Rep] at ry;obtain⟨b,ys,rfl,q',gQ⟩:=ry;cases qy;obtain⟨its',iw,hl,_⟩:=I.list q'.sq;simpa only[cw,ar] using RcNeAt.tuple_list dW hl.isList dv
  case tup es=>
   simp only[Rep] at ry;obtain⟨b,ys,rfl,q',gQ⟩:=ry;cases qy;obtain⟨its',iw,m8,_⟩:=I.tuple q';have h:=RcNeAt.tuples (e:=fun j=>cw (ds.getD j .non) (es.getD j .non)) dW (show s.heap.IsTuple b its'.toArray from m8) dv fun j h1 h2=>by
    obtain⟨v1,a1,b1,c1⟩:=oD rv rs h1;obtain⟨v2,a2,b2,c2⟩:=oD iw gQ h2;exact Ab I n A.in1 _ _ v1 v2 _ _ (hd _ c1) (he _ c2) nX b1 b2 a1 a2
   have l1:its.toArray.size=ds.length:=by rw[aC,<-rv.length,rs.length]
   have l2:its'.toArray.size=es.length:=by rw[aC,<-iw.length,gQ.length]
   rw[l1,l2,CN] at h;simpa only[cw] using h
  case obj=>cases he
  case dic=>cases he
  case dit=>cases he
 case lst ds=>
  cases n with
  | zero=>cases hd
  | succ n=>
  have nX:A.in1.units+n<cLine:=by show A.units+1+n<cLine;omega
  simp only[Rep] at rx;obtain⟨a,xs,rfl,q,rs⟩:=rx;cases qx;obtain⟨its,rv,ht,_⟩:=I.list q.sq;have dW:=ht.isList;cases e
  case non=>simp only[Rep] at ry;subst ry;cases qy;simpa only[cw,ar] using RcNeAt.list_none dW dv
  case bl=>simp only[Rep] at ry;subst ry;cases qy;simpa only[cw,ar] using RcNeAt.list_bool _ dW dv
  case int=>simp only[Rep] at ry;subst ry;obtain⟨t,rfl⟩:=qy;simpa only[cw,ar] using RcNeAt.list_int _ t dW dv
  case str=>simp only[Rep] at ry;subst ry;obtain⟨t,rfl⟩:=qy;simpa only[cw,ar] using RcNeAt.list_str _ t dW dv
  case tup es=>
   simp only[Rep] at ry;obtain⟨b,ys,rfl,q',gQ⟩:=ry;cases qy;obtain⟨its',iw,hl,_⟩:=I.tuple q';simpa only[cw,ar] using RcNeAt.list_tuple dW (show s.heap.IsTuple b its'.toArray from hl) dv
  case lst es=>
   simp only[Rep] at ry;obtain⟨b,ys,rfl,q',gQ⟩:=ry;cases qy;obtain⟨its',iw,m8,_⟩:=I.list q'.sq;have l1:its.toArray.size=ds.length:=by rw[aC,<-rv.length,rs.length]
   have l2:its'.toArray.size=es.length:=by rw[aC,<-iw.length,gQ.length]
   by_cases hl:ds.length=es.length
   ·have h:=RcNeAt.lists (e:=fun j=>cw (ds.getD j .non) (es.getD j .non)) dW m8.isList (by rw[l1,l2,hl]) dv fun j h1 h2=>by
     obtain⟨v1,a1,b1,c1⟩:=oD rv rs h1;obtain⟨v2,a2,b2,c2⟩:=oD iw gQ h2;exact Ab I n A.in1 _ _ v1 v2 _ _ (hd _ c1) (he _ c2) nX b1 b2 a1 a2
    rw[l1,<-w8 ds es hl] at h;simpa only[cw] using h
   ·have h:=RcNeAt.lists_lengths (A:=A) dW m8.isList (by rw[l1,l2];simpa using hl) dv;simp only[cw,xa hl];exact h
  case obj=>cases he
  case dic=>cases he
  case dit=>cases he
 case obj=>cases n<;>cases hd
 case dic=>cases n<;>cases hd
 case dit=>cases n<;>cases hd
end
section
variable {X:Cx}
def oEq:O2:=fun d e Q=>iA 9 d/\iA 9 e/\Q (.fz (.bl (cw d e)))
def A6:O2:=fun d e Q=>iA 9 d/\iA 9 e/\Q (.fz (.bl (!cw d e)))
theorem ot(hu:X.A.units+64<cLine):j5 X (compareOp .Eq) oEq:=by
 refine⟨fun x y H Q=>∃d e,iA 9 d/\iA 9 e/\Rep X.K H x d/\Rep X.K H y e/\Q (.bl (cw d e)) H,fun pins s σ H x y v u Q I rx ry h=>?_,fun G H x y d e Q P s rx ry h k=>?_⟩
 ·obtain⟨d,e,hd,he,rd,re,q⟩:=h;exact Nk I 9 X.A d e x y v u hd he (by omega) rd re rx ry _ _ _ _ ⟨.bl _,H,I,rfl,q⟩
 ·exact⟨d,e,h.1,h.2.1,rx.mono s,ry.mono s,k _ _ _ G (.refl s) (fj (kI _ _ _)) h.2.2⟩
theorem Gb(hu:X.A.units+64<cLine):j5 X (compareOp .NotEq) A6:=by
 refine⟨fun x y H Q=>∃d e,iA 9 d/\iA 9 e/\Rep X.K H x d/\Rep X.K H y e/\Q (.bl (!cw d e)) H,fun pins s σ H x y v u Q I rx ry h=>?_,fun G H x y d e Q P s rx ry h k=>?_⟩
 ·obtain⟨d,e,hd,he,rd,re,q⟩:=h;exact QN I 9 X.A d e x y v u hd he (by omega) rd re rx ry _ _ _ _ ⟨.bl _,H,I,rfl,q⟩
 ·exact⟨d,e,h.1,h.2.1,rx.mono s,ry.mono s,k _ _ _ G (.refl s) (fj (kI _ _ _)) h.2.2⟩
noncomputable def rT:D->Bool
 | .non=>true
 | _=>false
def nC(neg:Bool):O2:=fun d e Q=>match e with
 | .non=>Q (.fz (.bl (if neg then !rT d else rT d)))
 | _=>False
theorem Ip{K:PySem.W.Frag}{G:Hp}{x:V}{d:D}(r:Rep K G x d):decide (x=.non)=rT d:=by
 cases d<;>simp only[Rep] at r
 case non=>subst r;rfl
 case bl=>subst r;rfl
 case int=>subst r;rfl
 case str=>subst r;rfl
 case tup=>obtain⟨_,_,rfl,_⟩:=r;rfl
 case lst=>obtain⟨_,_,rfl,_⟩:=r;rfl
 case obj=>obtain⟨_,_,_,_,rfl,_⟩:=r;rfl
 case dic=>obtain⟨_,_,_,rfl,_⟩:=r;rfl
 case dit=>obtain⟨_,_,_,rfl,_⟩:=r;rfl
theorem Bx:j5 X (compareOp .Is) (nC false):=by
 refine⟨_,Nx,fun G H x y d e Q P s rx ry h k=>?_⟩;unfold nC at h;split at h
 ·simp only[Rep] at ry;refine⟨ry,?_⟩;rw[Ip rx];exact k _ _ _ G (.refl s) (fj (kI _ _ _)) h
 ·exact h.elim
theorem Ax:j5 X (compareOp .IsNot) (nC true):=by
 refine⟨_,ON,fun G H x y d e Q P s rx ry h k=>?_⟩;unfold nC at h;split at h
 ·simp only[Rep] at ry;refine⟨ry,?_⟩;rw[Ip rx];exact k _ _ _ G (.refl s) (fj (kI _ _ _)) h
 ·exact h.elim
end
end L2
namespace L2
open PySem PySem.Spec PyProof.Rows
section
variable {X:Cx} {pos:Pos} {a b c:Expr} {ta tb tc:TD} {pa A4:gK} {rest:List Expr}
def zN(t:gK):gK:=fun ρ Q=>t ρ fun k=>Q (!k)
def vY(t u:gK):gK:=fun ρ Q=>t ρ fun k=>if k=true then u ρ Q else Q false
def zq(t u:gK):gK:=fun ρ Q=>t ρ fun k=>if k=true then Q true else u ρ Q
theorem GK(h:PB X a pa):PB X (.UnaryOp .Not a pos) (zN pa):=by
 obtain⟨t,p,q⟩:=h;exact⟨_,M7 p,fun ρ σ G0 H0 G H Q P E h k=>q ρ σ G0 H0 G H _ _ E h fun b H' G' x hq=>k _ H' G' x hq⟩
def sV(X:Cx)(e:Expr)(t:gK):Prop:=∃tt,PW X e tt/\∀(ρ:Ev) (σ:St) (G0 H0 G H:Hp) (Q:Bool->Prop) (P:Bool->Hp->Prop),cM X.K G0 H0 ρ σ G H->t ρ Q->
 (∀b H' G',Ext G H G' H'->Q b->P b H')->tt σ H P
theorem sV.pb{e:Expr}{t:gK}(h:sV X e t):PB X e t:=let⟨tt,p,q⟩:=h;⟨tt,p.pt,q⟩
theorem CV(h:PB X a pa):sV X (.BoolOp .And [a] pos) pa:=let⟨tt,p,q⟩:=h;⟨tt,OR p,q⟩
theorem HS(h:PB X a pa):sV X (.BoolOp .Or [a] pos) pa:=let⟨tt,p,q⟩:=h;⟨tt,M9 p,q⟩
theorem Cd(h:PB X a pa)(h':sV X (.BoolOp .And (b::rest) pos) A4):sV X (.BoolOp .And (a::b::rest) pos) (vY pa A4):=by
 obtain⟨t,p,q⟩:=h;obtain⟨t',p',q'⟩:=h';refine⟨_,M8 p p',fun ρ σ G0 H0 G H Q P E h k=>q ρ σ G0 H0 G H _ _ E h fun b H' G' x hq=>?_⟩;cases b with
 | true=>rw[if_pos rfl] at hq ⊢;exact q' ρ σ G0 H0 G' H' Q P (E.ext x) hq fun b2 H2 G2 x2 h2=>k b2 H2 G2 (x.trans x2) h2
 | false=>rw[if_neg aG] at hq ⊢;exact k false H' G' x hq
theorem GJ(h:PB X a pa)(h':sV X (.BoolOp .Or (b::rest) pos) A4):sV X (.BoolOp .Or (a::b::rest) pos) (zq pa A4):=by
 obtain⟨t,p,q⟩:=h;obtain⟨t',p',q'⟩:=h';refine⟨_,MJ p p',fun ρ σ G0 H0 G H Q P E h k=>q ρ σ G0 H0 G H _ _ E h fun b H' G' x hq=>?_⟩;cases b with
 | true=>rw[if_pos rfl] at hq ⊢;exact k true H' G' x hq
 | false=>rw[if_neg aG] at hq ⊢;exact q' ρ σ G0 H0 G' H' Q P (E.ext x) hq fun b2 H2 G2 x2 h2=>k b2 H2 G2 (x.trans x2) h2
def Bw(t:TD):TD:=fun ρ Q=>t ρ fun r=>match r with
 | .fz (.bl k)=>Q (.fz (.bl (!k)))
 | _=>False
def uP(t u:TD):TD:=fun ρ Q=>t ρ fun r=>match r with
 | .fz (.bl k)=>if k=true then u ρ Q else Q (.fz (.bl false))
 | _=>False
def FO(t u:TD):TD:=fun ρ Q=>t ρ fun r=>match r with
 | .fz (.bl k)=>if k=true then Q (.fz (.bl true)) else u ρ Q
 | _=>False
theorem Nj(h:PD X a ta):PD X (.UnaryOp .Not a pos) (Bw ta):=by
 obtain⟨t,p,q⟩:=h;refine⟨_,M4 p,fun ρ σ G0 H0 G H Q P E h k=>q ρ σ G0 H0 G H _ _ E h fun v H' r G' x rr hq=>?_⟩;split at hq
 ·rename_i kk;have e:v=.bl kk:=by simpa only[d0,Rep] using rr
  exact⟨kk,e,k _ H' _ G' x (fj (kI _ _ _)) hq⟩
 ·exact hq.elim
theorem Aa{op}(h:PD X a ta):PD X (.BoolOp op [a] pos) ta:=let⟨t,p,q⟩:=h;⟨t,M6 p,q⟩
theorem B5(h:PD X a ta)(h':PD X (.BoolOp .And (b::rest) pos) tb):PD X (.BoolOp .And (a::b::rest) pos) (uP ta tb):=by
 obtain⟨t,p,q⟩:=h;obtain⟨t',p',q'⟩:=h';refine⟨_,M5 p p',fun ρ σ G0 H0 G H Q P E h k=>q ρ σ G0 H0 G H _ _ E h fun v H' r G' x rr hq=>?_⟩;split at hq
 ·rename_i kk;have e:v=.bl kk:=by simpa only[d0,Rep] using rr
  refine⟨kk,e,?_⟩;cases kk with
  | true=>rw[if_pos rfl] at hq ⊢;exact q' ρ σ G0 H0 G' H' Q P (E.ext x) hq fun b2 H2 r2 G2 x2 tW h2=>k b2 H2 r2 G2 (x.trans x2) (tW.jl x.h) h2
  | false=>rw[if_neg aG] at hq ⊢;exact k _ H' _ G' x (fj (kI _ _ _)) hq
 ·exact hq.elim
theorem LX(h:PD X a ta)(h':PD X (.BoolOp .Or (b::rest) pos) tb):PD X (.BoolOp .Or (a::b::rest) pos) (FO ta tb):=by
 obtain⟨t,p,q⟩:=h;obtain⟨t',p',q'⟩:=h';refine⟨_,MG p p',fun ρ σ G0 H0 G H Q P E h k=>q ρ σ G0 H0 G H _ _ E h fun v H' r G' x rr hq=>?_⟩;split at hq
 ·rename_i kk;have e:v=.bl kk:=by simpa only[d0,Rep] using rr
  refine⟨kk,e,?_⟩;cases kk with
  | true=>rw[if_pos rfl] at hq ⊢;exact k _ H' _ G' x (fj (kI _ _ _)) hq
  | false=>rw[if_neg aG] at hq ⊢;exact q' ρ σ G0 H0 G' H' Q P (E.ext x) hq fun b2 H2 r2 G2 x2 tW h2=>k b2 H2 r2 G2 (x.trans x2) (tW.jl x.h) h2
 ·exact hq.elim
def z9(o o':O2)(ta tb tc:TD):TD:=fun ρ Q=>ta ρ fun ra=>tb ρ fun rb=>o ra.val rb.val fun r=>match r with
 | .fz (.bl k)=>if k=true then tc ρ fun rc=>o' rb.val rc.val Q else Q (.fz (.bl false))
 | _=>False
abbrev mf(K:PySem.W.Frag)(t:TD)(tt:TE):Prop:=∀(ρ:Ev) (σ:St) (G0 H0 G H:Hp) (Q:R->Prop) (P:VK),cM K G0 H0 ρ σ G H->t ρ Q->(∀v H' r G',Ext G H G' H'->d0 K G' H' H v r->Q r->P v H')->tt σ H P
theorem QM{K:PySem.W.Frag}{g g':Int->Int->Bool}{t1 t2 t3:TE}(q1:mf K ta t1)(q2:mf K tb t2)(q3:mf K tc t3) :
  mf K (z9 (fB fun i j=>.bl (g i j)) (fB fun i j=>.bl (g' i j)) ta tb tc) (GR (nP fun i j=>.bl (g i j)) (nP fun i j=>.bl (g' i j)) t1 t2 t3):=by
 refine fun ρ σ G0 H0 G H Q P E h k=>q1 ρ σ G0 H0 G H _ _ E h fun v1 H1 r1 G1 x1 qW i3=>?_
 obtain⟨F4,sj,D0,_⟩:=qW.freeze x1;refine q2 ρ σ G0 H0 F4 H1 _ _ (E.ext sj) i3 fun v2 H2 r2 G2 x2 tW f6=>?_
 obtain⟨Bt,si,lY,_⟩:=tW.freeze x2;unfold fB at f6;split at f6
 ·rename_i i j e1 e2;rw[e1] at D0;rw[e2] at lY;simp only[Rep] at D0 lY;refine⟨i,j,D0,lY,_,rfl,?_⟩;dsimp only at f6;cases hk:g i j with
  | false=>
   rw[hk,if_neg aG] at f6;rw[if_neg aG];exact k _ _ _ Bt (sj.trans si) (fj (kI _ _ _)) f6
  | true=>
   rw[hk,if_pos rfl] at f6;rw[if_pos rfl];refine q3 ρ σ G0 H0 Bt H2 _ _ (E.ext (sj.trans si)) f6 fun v3 H3 r3 G3 x3 kd cQ=>?_
   obtain⟨Xx,UU,k5,_⟩:=kd.freeze x3;rw[e2] at cQ;split at cQ
   ·rename_i i' j' e3 e4;cases e3;rw[e4] at k5;simp only[Rep] at k5;exact⟨j,j',lY,k5,k _ _ _ Xx ((sj.trans si).trans UU) (fj (kI _ _ _)) cQ⟩
   ·exact cQ.elim
 ·exact f6.elim
theorem Ni{K:PySem.W.Frag}{t:TD}{tt:TE}(q:mf K t tt)(ρ:Ev)(σ:St)(G0 H0 G H:Hp)(Q:Bool->Prop)(P:Bool->Hp->Prop)(E:cM K G0 H0 ρ σ G H)(h:eM t ρ Q)(k:∀b H' G',Ext G H G' H'->Q b->P b H'):BP tt σ H P:=by
 refine q ρ σ G0 H0 G H _ _ E h fun v H' r G' x1 r1 h1=>?_
 split at h1
 ·rename_i kk;have e:v=.bl kk:=by simpa only[d0,Rep] using r1
  exact⟨kk,e,k kk H' G' x1 h1⟩
 ·exact h1.elim
theorem Px{op t6:CmpOp}{g g':Int->Int->Bool}(ho:gB X (compareOp op) (nP fun i j=>.bl (g i j)))(i4:gB X (compareOp t6) (nP fun i j=>.bl (g' i j)))(h1:PD X a ta)(h2:PD X b tb)(h3:PD X c tc)(hm:lastMarks [op,t6] [b,c]=false:=by with_unfolding_all rfl) :
  PB X (.Compare a [op,t6] [b,c] pos) (eM (z9 (fB fun i j=>.bl (g i j)) (fB fun i j=>.bl (g' i j)) ta tb tc)):=by
 obtain⟨t1,p1,q1⟩:=h1;obtain⟨t2,p2,q2⟩:=h2;obtain⟨t3,p3,q3⟩:=h3;exact⟨_,QB ho i4 p1 p2 p3 hm,Ni (QM q1 q2 q3)⟩
def cJ:O2:=fun d e Q=>match d,e with
 | .lst ds,.int i=>∃d,di ds i=some d/\Q (.fz d)
 | .tup ds,.int i=>∃d,di ds i=some d/\Q (.fz d)
 | .str z,.int i=>z.length<=sizeLine/\∃c,di z.cps.toList i=some c/\Q (.fz (.str ⟨#[c]⟩))
 | _,_=>False
theorem Cc{K:PySem.W.Frag}{G:Hp}{xs:List V}{ds:List D}{i:Int}{d:D}(r:bV K G xs ds)(h:di ds i=some d):∃v,di xs i=some v/\Rep K G v d:=by
 unfold di at h ⊢;rw[r.length];cases e:kf ds.length i with
 | none=>rw[e] at h;cases h
 | some j=>
  rw[e] at h;simp only[Option.bind_some] at h ⊢;exact r.get h
theorem cP(h1:PD X a ta)(h2:PD X b tb)(hs:wQ b:=by intro _ _;rfl):PD X (.Subscript a b pos) (b9 cJ ta tb):=by
 obtain⟨t1,p1,q1⟩:=h1;obtain⟨t2,p2,q2⟩:=h2;refine⟨_,wx GO p1 p2 hs,Ae (r:=J1 X.K) (fun G H x y d e Q P s rx ry h k=>?_) q1 q2⟩;unfold cJ at h;split at h
 ·simp only[Rep] at rx ry;obtain⟨p,xs,rfl,hq,rs⟩:=rx;obtain⟨d,hd,q⟩:=h;obtain⟨v,hv,rv⟩:=Cc rs hd;exact .inl ⟨p,xs,_,v,rfl,ry,(s.fb hq).sq,hv,k _ _ _ G (.refl s) (fj rv) q⟩
 ·simp only[Rep] at rx ry;obtain⟨p,xs,rfl,hq,rs⟩:=rx;obtain⟨d,hd,q⟩:=h;obtain⟨v,hv,rv⟩:=Cc rs hd;exact .inr (.inl ⟨p,xs,_,v,rfl,ry,s.gP hq,hv,k _ _ _ G (.refl s) (fj rv) q⟩)
 ·simp only[Rep] at rx ry;obtain⟨hz,c,hc,q⟩:=h;exact .inr (.inr ⟨_,_,c,rx,ry,hz,hc,k _ _ _ G (.refl s) (fj (wO _ _ _)) q⟩)
 ·exact h.elim
def sZ(i:Nat)(tb:TD):TD:=fun ρ Q=>match gt ρ i with
 | .ow ds=>tb ρ fun rb=>match rb.val with
  | .int j=>∃d,di ds j=some d/\Q (.fz d)
  | _=>False
 | _=>False
theorem z8(i:Nat){x:Str}{p':Pos}(h2:PD X b tb)(hN:X.N[i]?=some x:=by rfl)(hv:js X.env.scope x:=by first | exact Or.inl rfl | exact Or.inr (Or.inl rfl) | exact Or.inr (Or.inr rfl))(hs:wQ b:=by intro _ _;rfl)(hd:(x==("__debug__":Str))=false:=by decide)
  (fi:(x==("__classdict__":Str))=false:=by decide):PD X (.Subscript (.Name x p') b pos) (sZ i tb):=by
 obtain⟨t2,p2,q2⟩:=h2;refine⟨_,wx GO (jL hN hv hd fi) p2 hs,fun ρ σ G0 H0 G H Q P E h k=>?_⟩;unfold sZ at h;split at h
 ·rename_i ds hg;obtain⟨p,xs,h1,h2,h3,h4,h5⟩:=E.ow i ds hg;refine⟨_,h1,q2 ρ σ G0 H0 G H _ _ E h fun v H' r G' x1 rr hq=>?_⟩;obtain⟨G2,x2,rv,_⟩:=rr.freeze x1;split at hq
  ·rename_i j e2;obtain⟨d,n4,q⟩:=hq;obtain⟨w',hw,kK⟩:=Cc (h5.mono x2.g) n4;rw[e2] at rv;simp only[Rep] at rv;exact .inl ⟨p,xs,_,w',rfl,rv,dY.of (x2.h _ _ h2),hw,k _ _ _ G2 x2 (fj kK) q⟩
  ·exact hq.elim
 ·exact h.elim
variable {e:Expr} {es:List Expr} {te:TD} {ts:jG}
def cx:jG:=fun _ Q=>Q []
def cg(te:TD)(ts:jG):jG:=fun ρ Q=>te ρ fun r=>ts ρ fun ds=>Q (r.val::ds)
theorem cA:nz X [] cx:=⟨_,oB,fun ρ σ G0 H0 G H Q P E h k=>k [] H [] G (.refl E.e.s) bV.nil h⟩
theorem cj(h:PD X e te)(hr:nz X es ts)(hs:starEach (e::es) X.env=(false,eval e X.env)::starEach es X.env:=by rfl):nz X (e::es) (cg te ts):=by
 obtain⟨t1,p1,q1⟩:=h;obtain⟨t2,p2,q2⟩:=hr;refine⟨_,mX p1 p2 hs,fun ρ σ G0 H0 G H Q P E h k=>q1 ρ σ G0 H0 G H _ _ E h fun v H' r G' x1 rr hq=>?_⟩;obtain⟨G2,x2,rv,_⟩:=rr.freeze x1;refine q2 ρ σ G0 H0 G2 H' _ _ (E.ext x2) hq fun vs H3 ds G3 x3 rs cQ=>?_
 exact k _ H3 _ G3 (x2.trans x3) (bV.cons (rv.mono x3.g) rs) cQ
def jU(ts:jG):TD:=fun ρ Q=>ts ρ fun ds=>ds.length<=sizeLine/\Q (.fz (.tup ds))
def lR(ts:jG):TD:=fun ρ Q=>ts ρ fun ds=>ds.length<=sizeLine/\Q (.ow ds)
theorem lV{x1}(h:nz X es ts):PD X (.Tuple es x1 pos) (jU ts):=by
 obtain⟨t,p,q⟩:=h;refine⟨_,Ag p,fun ρ σ G0 H0 G H Q P E h k=>q ρ σ G0 H0 G H _ _ E h fun vs H' ds G' x rs hq=>⟨by rw[rs.length];exact hq.1,fun p hp=>?_⟩⟩;have x2:Ext G' H' (upd G' p (.tup vs)) (upd H' p (.tup vs)):=.new x.s hp;refine k _ _ (.fz (.tup ds)) _ (x.trans x2) ?_ hq.2;show Rep X.K _ _ (.tup ds);simp only[Rep];exact⟨p,vs,rfl,fQ.of fk,rs.mono x2.g⟩
theorem nI(h:nz X es ts):PD X (.List es pos) (lR ts):=by
 obtain⟨t,p,q⟩:=h;refine⟨_,GP p,fun ρ σ G0 H0 G H Q P E h k=>q ρ σ G0 H0 G H _ _ E h fun vs H' ds G' x rs hq=>⟨by rw[rs.length];exact hq.1,fun p hp=>?_⟩⟩;exact k _ _ (.ow ds) G' (x.trans (.own x.s hp)) ⟨p,vs,rfl,x.h.free hp,x.s.free hp,fk,rs⟩ hq.2
def mi(X:Cx)(f:Value)(o:List D->(R->Prop)->Prop):Prop:=∃r,c8 X f r/\∀(G H:Hp) (vs:List V) (ds:List D) (Q:R->Prop) (P:VK),cm G H->bV X.K G vs ds->o ds Q->
 (∀v H' r' G',Ext G H G' H'->d0 X.K G' H' H v r'->Q r'->P v H')->r vs H P
def fU(o:List D->(R->Prop)->Prop)(ts:jG):TD:=fun ρ Q=>ts ρ fun ds=>o ds Q
theorem Gw{o:List D->(R->Prop)->Prop}{r:List V->Hp->VK->Prop}{t:TA}
  (hr:∀(G H:Hp) (vs:List V) (ds:List D) (Q:R->Prop) (P:VK),cm G H->bV X.K G vs ds->o ds Q->(∀v H' r' G',Ext G H G' H'->d0 X.K G' H' H v r'->Q r'->P v H')->r vs H P)
  (q:∀(ρ:Ev) (σ:St) (G0 H0 G H:Hp) (Q:List D->Prop) (P:List V->Hp->Prop),cM X.K G0 H0 ρ σ G H->ts ρ Q->(∀vs H' ds G',Ext G H G' H'->bV X.K G' vs ds->Q ds->P vs H')->t σ H P):mf X.K (fU o ts) (DR r t):=
 fun ρ σ G0 H0 G H Q P E h k=>q ρ σ G0 H0 G H _ _ E h fun vs H' ds G' x rs hq=>hr G' H' vs ds Q P x.s rs hq fun v H2 r' G2 x2 rr q2=>k v H2 r' G2 (x.trans x2) (rr.jl x.h) q2
theorem jB{id:String}{x:Str}{p:Pos}{o:List D->(R->Prop)->Prop}(hc:mi X (.builtin id) o)(hm:X.mg x=none)(hv:bootBuiltins x=some (.builtin id))(ha:nz X (e::es) ts)(hg:Gl X x:=by rfl)(hn:x≠"__name__":=by decide)(nZ:(x==("__debug__":Str))=false:=by decide)
  (he:starEach (e::es) X.env=(false,eval e X.env)::starEach es X.env:=by rfl) (jc:(backTo pos (starEach es X.env)).any (·.1)=false:=by rfl):PD X (.Call (.Name x p) (e::es) [] pos) (fU o ts):=by
 obtain⟨r,hr,l5⟩:=hc;obtain⟨t,pp,q⟩:=ha;exact⟨_,CQ hr hg hm hv pp hn nZ he jc,Gw l5 q⟩
theorem qQ{T:String}{x:Str}{p:Pos}{o:List D->(R->Prop)->Prop}(hc:mi X (.type T) o)(hm:X.mg x=none)(hv:bootBuiltins x=some (.type T))(ha:nz X (e::es) ts)(hg:Gl X x:=by rfl)(hn:x≠"__name__":=by decide)(nZ:(x==("__debug__":Str))=false:=by decide)
  (he:starEach (e::es) X.env=(false,eval e X.env)::starEach es X.env:=by rfl) (jc:(backTo pos (starEach es X.env)).any (·.1)=false:=by rfl):PD X (.Call (.Name x p) (e::es) [] pos) (fU o ts):=by
 obtain⟨r,hr,l5⟩:=hc;obtain⟨t,pp,q⟩:=ha;exact⟨_,RN hr hg hm hv pp hn nZ he jc,Gw l5 q⟩
end
end L2
namespace L2
open PySem PySem.Spec PyProof.Rows
theorem nF{σ:St}{i j:Nat}{x:Option V}:(σ.set i x)[j]?=if i=j/\j<σ.length then some x else σ[j]?:=by
 by_cases h:i=j
 ·subst h;by_cases hl:i<σ.length
  ·simp[hl]
  ·simp[hl]
 ·simp[h]
section
variable {K:PySem.W.Frag} {G0 H0 G H G' H':Hp} {ρ:Ev} {σ:St}
theorem cM.put{i:Nat}{v:V}{r:R}(E:cM K G0 H0 ρ σ G H)(x:Ext G H G' H')(rr:d0 K G' H' H v r):cM K G0 H0 (ρ.set i r.sl) (σ.set i (some v)) G' H':=by
 have E':=E.ext x;have hl:=E.len;have gs:∀j s,gt (ρ.set i r.sl) j=s->(i=j/\j<ρ.length/\s=r.sl)\/(¬(i=j/\j<ρ.length)/\gt ρ j=s):=fun j s e=>by
  rw[oA] at e;by_cases h:i=j/\j<ρ.length
  ·rw[if_pos h] at e;exact .inl ⟨h.1,h.2,e.symm⟩
  ·rw[if_neg h] at e;exact .inr ⟨h,e⟩
 refine⟨E'.e,by simp[E.len],fun j d h=>?_,fun j ds h=>?_,fun j k ds es mD h1 h2=>?_,?_⟩
 ·rcases gs j _ h with⟨h1,h2,h3⟩ | ⟨h1,h2⟩
  ·cases r with
   | ow=>cases h3
   | ov=>cases h3
   | fz d'=>
    cases h3;exact⟨v,by rw[nF,if_pos ⟨h1,by omega⟩],rr⟩
  ·obtain⟨u,hu,ru⟩:=E'.fz j d h2;exact⟨u,by rw[nF,if_neg (by rw[hl];exact h1)];exact hu,ru⟩
 ·rcases gs j _ h with⟨h1,h2,h3⟩ | ⟨h1,h2⟩
  ·cases r with
   | fz=>cases h3
   | ov=>cases h3
   | ow vS=>
    cases h3;obtain⟨p,xs,rfl,a1,a2,a3,a4⟩:=rr;exact⟨p,xs,by rw[nF,if_pos ⟨h1,by omega⟩],a3,a2,E.e.h.free a1,a4⟩
  ·obtain⟨p,xs,b1,b2,b3,b4,b5⟩:=E'.ow j ds h2;exact⟨p,xs,by rw[nF,if_neg (by rw[hl];exact h1)];exact b1,b2,b3,b4,b5⟩
 ·have old:∀{j:Nat} {ds:List D},gt ρ j=.ow ds->∀es,r=.ow es->σ[j]?≠some (some v):=fun{j ds} h es e z=>by
   subst e;obtain⟨p,xs,rfl,a1,a2,a3,a4⟩:=rr;obtain⟨p',nM,b1,b2,b3,b4,b5⟩:=E.ow j ds h;rw[b1] at z;cases z;rw[a1] at b2;cases b2
  rcases gs j _ h1 with⟨c1,c2,c3⟩ | ⟨c1,c2⟩
  ·rcases gs k _ h2 with⟨d1,d2,d3⟩ | ⟨d1,d2⟩
   ·exact absurd (c1.symm.trans d1) mD
   ·rw[nF,if_pos ⟨c1,by omega⟩,nF,if_neg (by rw[hl];exact d1)];cases r with
    | fz=>cases c3
    | ov=>cases c3
    | ow gw=>exact fun z=>old d2 gw rfl z.symm
  ·rcases gs k _ h2 with⟨d1,d2,d3⟩ | ⟨d1,d2⟩
   ·rw[nF,if_neg (by rw[hl];exact c1),nF,if_pos ⟨d1,by omega⟩];cases r with
    | fz=>cases d3
    | ov=>cases d3
    | ow gw=>exact old c2 gw rfl
   ·rw[nF,if_neg (by rw[hl];exact c1),nF,if_neg (by rw[hl];exact d1)];exact E.dj j k ds es mD c2 d2
 ·obtain⟨own,o1,o2⟩:=E.on;have A9:∀j,¬(i=j/\j<ρ.length)->(σ.set i (some v))[j]?=σ[j]?:=fun j h=>by rw[nF,if_neg (by rw[hl];exact h)]
  have gen:∀L:List Addr,(∀q∈L,H q=none)->(∀j ds p,i=j->j<ρ.length->r.sl=.ow ds->v=.ref p->p∈L)->
    (∀j o,i=j->j<ρ.length->r.sl=.ov o->∃p fp,v=.ref p/\(p::fp).Nodup/\iE K G' H' p fp o/\∀q∈p::fp,G' q=none/\q∈L)->
    ∃own:Addr->Option Nat,(∀j ds p,gt (ρ.set i r.sl) j=.ow ds->(σ.set i (some v))[j]?=some (some (.ref p))->own p=some j)/\∀j o,gt (ρ.set i r.sl) j=.ov o->∃p fp,(σ.set i (some v))[j]?=some (some (.ref p))/\(p::fp).Nodup/\iE K G' H' p fp o/\∀q∈p::fp,G' q=none/\H0 q=none/\own q=some j:=by
   intro L hL hw ho;refine⟨fun q=>if q∈L then some i else own q,fun j ds p h hp=>?_,fun j o h=>?_⟩
   ·rcases gs j _ h with⟨h1,h2,h3⟩ | ⟨h1,h2⟩
    ·rw[nF,if_pos ⟨h1,by omega⟩] at hp;have hv:v=.ref p:=by injection hp with hp;injection hp
     dsimp only;rw[if_pos (hw j ds p h1 h2 h3.symm hv),h1]
    ·rw[A9 j h1] at hp;obtain⟨p',nM,b1,b2,_⟩:=E.ow j ds h2;have cE:p∉L:=fun z=>by
      rw[hp] at b1;cases b1;rw[hL p z] at b2;cases b2
     dsimp only;rw[if_neg cE];exact o1 j ds p h2 hp
   ·rcases gs j _ h with⟨h1,h2,h3⟩ | ⟨h1,h2⟩
    ·obtain⟨p,fp,rfl,c1,c2,c3⟩:=ho j o h1 h2 h3.symm;refine⟨p,fp,by rw[nF,if_pos ⟨h1,by omega⟩],c1,c2,fun q hq=>⟨(c3 q hq).1,E.e.h.free (hL q (c3 q hq).2),?_⟩⟩;dsimp only;rw[if_pos (c3 q hq).2,h1]
    ·obtain⟨p,fp,b1,b2,b3,b4⟩:=o2 j o h2;refine⟨p,fp,by rw[A9 j h1];exact b1,b2,b3.mono x.g fun q _ u e=>x.h q u e,fun q hq=>⟨x.n q (b4 q hq).1 (b3.here q hq),(b4 q hq).2.1,?_⟩⟩;dsimp only;rw[if_neg (fun z=>b3.here q hq (hL q z))];exact(b4 q hq).2.2
  cases r with
  | fz d=>exact gen [] (fun q hq=>by cases hq) (fun j ds p _ _ e=>by cases e) (fun j o _ _ e=>by cases e)
  | ow vS=>
   obtain⟨p,xs,rfl,a1,a2,a3,a4⟩:=rr;refine gen [p] (fun q hq=>?_) (fun j ds p' _ _ e e2=>?_) (fun j o _ _ e=>by cases e)
   ·simp only[aR] at hq;subst hq;exact a1
   ·cases e2;simp
  | ov o'=>
   obtain⟨p,fp,rfl,a1,a2,a3⟩:=rr;refine gen (p::fp) (fun q hq=>(a3 q hq).1) (fun j ds p' _ _ e=>by cases e) (fun j o _ _ e=>?_);cases e;exact⟨p,fp,rfl,a1,a2,fun q hq=>⟨(a3 q hq).2,hq⟩⟩
noncomputable def iC(i:Nat)(ρ:Ev):Ev:=match gt ρ i with
 | .ow ds=>ρ.set i (.fz (.lst ds))
 | .ov o=>ρ.set i (.fz o.val)
 | _=>ρ
theorem tm{ρ:Ev}{i:Nat}{s:Sl}(h:gt ρ i=s)(hs:s≠.un):i<ρ.length:=by
 induction ρ generalizing i with
 | nil=>simp[gt] at h;exact absurd h.symm hs
 | cons a r ih=>
  cases i with
  | zero=>simp
  | succ i=>simp only[gt] at h;have:=ih h;simp;omega
theorem cu.Kg{K:PySem.W.Frag}{G H:Hp}:∀{qs:List Addr} {dss:List (List D)},cu K G H qs dss->∀q∈qs,∃zs,H q=some (.lst zs)
 | [],[],_,q,hq=>by cases hq
 | p::qs,ds::dss,h,q,hq=>by
  simp only[cu] at h;rcases aq.mp hq with rfl | hq
  ·exact⟨_,h.1.choose_spec.1⟩
  ·exact cu.Kg h.2 q hq
 | [],_::_,h,_,_=>by simp only[cu] at h
 | _::_,[],h,_,_=>by simp only[cu] at h
theorem cM.ly(i:Nat)(E:cM K G0 H0 ρ σ G H):∃L:List Addr,(∀q∈L,G q=none)/\cM K G0 H0 (iC i ρ) σ (lS G H L) H/\(((∀o,gt ρ i=.ov o->(∃kvs,o=.dc kvs)\/∃dss,o=.ll dss)->∀q∈L,H q≠none/\∀xs,¬Rd H q (.tup xs)))/\∀o p,gt ρ i=.ov o->σ[i]?=some (some (.ref p))->p∈L:=by
 unfold iC;split
 ·rename_i ds hg;obtain⟨p,xs,h1,h2,h3,h4,h5⟩:=E.ow i ds hg;have cS:i<ρ.length:=tm hg (by simp);have hs:cm G (upd G p (.lst xs)):=r8 h3;have gs:∀j s,gt (ρ.set i (.fz (.lst ds))) j=s->(i=j/\s=.fz (.lst ds))\/(i≠j/\gt ρ j=s):=fun j s e=>by
   rw[oA] at e;by_cases h:i=j
   ·subst h;rw[if_pos ⟨rfl,cS⟩] at e;exact .inl ⟨rfl,e.symm⟩
   ·rw[if_neg (fun z=>h z.1)] at e;exact .inr ⟨h,e⟩
  have ep:lS G H [p]=upd G p (.lst xs):=by
   funext a
   by_cases ha:a=p
   ·subst ha;rw[fk,o4 (by simp)];exact h2
   ·rw[cX ha,oZ (by simpa using ha)]
  refine⟨[p],fun q hq=>?_,?_,fun _ q hq=>by
   simp only[aR] at hq;rw[hq]
   exact⟨(by rw[h2];exact nofun),fun nM e=>by rcases e with e | ⟨_,e⟩<;>(rw[h2] at e;cases e)⟩,fun o p z=>by rw[hg] at z;cases z⟩
  ·simp only[aR] at hq;subst hq;exact h3
  rw[ep];refine⟨⟨E.e.g.trans hs,E.e.h,fun b o e=>?_,fun q q1 q2=>?_⟩,by simp[E.len],fun j d h=>?_,fun j es h=>?_,fun j k es fs mD a1 a2=>?_,?_⟩
  ·by_cases hb:b=p
   ·subst hb;rw[fk] at e;rw[h2];exact e
   ·rw[cX hb] at e;exact E.e.s b o e
  ·rw[cX (fun z=>q2 (by rw[z];exact h4))];exact E.e.n q q1 q2
  ·rcases gs j _ h with⟨e,e2⟩ | ⟨e,e2⟩
   ·subst e;cases e2;exact⟨_,h1,by simp only[Rep];exact⟨p,xs,rfl,jt.of fk,h5.mono hs⟩⟩
   ·obtain⟨u,u1,u2⟩:=E.fz j d e2;exact⟨u,u1,u2.mono hs⟩
  ·rcases gs j _ h with⟨e,e2⟩ | ⟨e,e2⟩
   ·cases e2
   ·obtain⟨p',nM,b1,b2,b3,b4,b5⟩:=E.ow j es e2;have cE:p'≠p:=fun z=>by
     subst z;exact E.dj i j ds es e hg e2 (by rw[h1,b1])
    exact⟨p',nM,b1,b2,by rw[cX cE];exact b3,b4,b5.mono hs⟩
  ·rcases gs j _ a1 with⟨_,e2⟩ | ⟨e,e2⟩
   ·cases e2
   ·rcases gs k _ a2 with⟨_,e4⟩ | ⟨e3,e4⟩
    ·cases e4
    ·exact E.dj j k es fs mD e2 e4
  ·obtain⟨own,o1,o2⟩:=E.on;refine⟨own,fun j es p' h hp=>?_,fun j o h=>?_⟩
   ·rcases gs j _ h with⟨_,e2⟩ | ⟨_,e2⟩
    ·cases e2
    ·exact o1 j es p' e2 hp
   ·rcases gs j _ h with⟨_,e2⟩ | ⟨e,e2⟩
    ·cases e2
    ·obtain⟨p',fp,b1,b2,b3,b4⟩:=o2 j o e2;refine⟨p',fp,b1,b2,b3.mono hs fun q _ u e=>e,fun q hq=>⟨?_,(b4 q hq).2⟩⟩;rw[cX fun z=>?_]
     ·exact(b4 q hq).1
     ·have z1:=(b4 q hq).2.2;rw[z,o1 i ds p hg h1] at z1;injection z1 with z1
      exact e z1
 ·rename_i o hg;obtain⟨own,o1,o2⟩:=E.on;obtain⟨p,fp,h1,h2,h3,h4⟩:=o2 i o hg;have cS:i<ρ.length:=tm hg (by simp);have hn:∀q∈p::fp,G q=none:=fun q hq=>(h4 q hq).1
  have hs:cm G (lS G H (p::fp)):=vq hn;have gs:∀j s,gt (ρ.set i (.fz o.val)) j=s->(i=j/\s=.fz o.val)\/(i≠j/\gt ρ j=s):=fun j s e=>by
   rw[oA] at e;by_cases h:i=j
   ·subst h;rw[if_pos ⟨rfl,cS⟩] at e;exact .inl ⟨rfl,e.symm⟩
   ·rw[if_neg (fun z=>h z.1)] at e;exact .inr ⟨h,e⟩
  suffices yI:cM K G0 H0 (ρ.set i (.fz o.val)) σ (lS G H (p::fp)) H from⟨p::fp,hn,yI,fun hd q hq=>by
   rcases hd o hg with⟨kvs,rfl⟩ | ⟨dss,rfl⟩
   ·obtain⟨rfl,ks,ep,h5,_⟩:=h3;simp only[aR] at hq;rw[hq];exact⟨(by rw[h5];exact nofun),fun nM e=>by rcases e with e | ⟨_,e⟩<;>(rw[h5] at e;cases e)⟩
   ·obtain⟨zs,h5⟩:∃zs,H q=some (.lst zs):=by
     rcases aq.mp hq with rfl | hq
     ·exact⟨_,h3.1⟩
     ·exact cu.Kg h3.2 q hq
    exact⟨(by rw[h5];exact nofun),fun nM e=>by rcases e with e | ⟨_,e⟩<;>(rw[h5] at e;cases e)⟩,fun o' p' _ e=>by rw[h1] at e;cases e;simp⟩
  refine⟨⟨E.e.g.trans hs,E.e.h,fun b u e=>?_,fun q q1 q2=>?_⟩,by simp[E.len],fun j d h=>?_,fun j es h=>?_,fun j k es fs mD a1 a2=>?_,own,fun j es p' h hp=>?_,fun j o' h=>?_⟩
  ·by_cases hb:b∈p::fp
   ·rw[o4 hb] at e;exact e
   ·rw[oZ hb] at e;exact E.e.s b u e
  ·rw[oZ (fun z=>q2 (h4 q z).2.1)];exact E.e.n q q1 q2
  ·rcases gs j _ h with⟨e,e2⟩ | ⟨e,e2⟩
   ·subst e;cases e2;exact⟨_,h1,h3.freeze hn⟩
   ·obtain⟨u,u1,u2⟩:=E.fz j d e2;exact⟨u,u1,u2.mono hs⟩
  ·rcases gs j _ h with⟨e,e2⟩ | ⟨e,e2⟩
   ·cases e2
   ·obtain⟨p',nM,b1,b2,b3,b4,b5⟩:=E.ow j es e2;refine⟨p',nM,b1,b2,?_,b4,b5.mono hs⟩;rw[oZ fun z=>?_]
    ·exact b3
    ·have z1:=(h4 p' z).2.2;rw[o1 j es p' e2 b1] at z1;injection z1 with z1
     exact e z1.symm
  ·rcases gs j _ a1 with⟨_,e2⟩ | ⟨e,e2⟩
   ·cases e2
   ·rcases gs k _ a2 with⟨_,e4⟩ | ⟨e3,e4⟩
    ·cases e4
    ·exact E.dj j k es fs mD e2 e4
  ·rcases gs j _ h with⟨_,e2⟩ | ⟨_,e2⟩
   ·cases e2
   ·exact o1 j es p' e2 hp
  ·rcases gs j _ h with⟨_,e2⟩ | ⟨e,e2⟩
   ·cases e2
   ·obtain⟨p',gT,b1,b2,b3,b4⟩:=o2 j o' e2;refine⟨p',gT,b1,b2,b3.mono hs fun q _ u e=>e,fun q hq=>⟨?_,(b4 q hq).2⟩⟩;rw[oZ fun z=>?_]
    ·exact(b4 q hq).1
    ·have z1:=(b4 q hq).2.2;rw[(h4 q z).2.2] at z1;injection z1 with z1
     exact e z1
 ·rename_i XN Vp;have ep:lS G H []=G:=by funext a;exact oZ (by simp)
  exact⟨[],fun q hq=>(by cases hq),by rw[ep];exact E,fun _ q hq=>(by cases hq),fun o p z=>(Vp o z).elim⟩
theorem cM.ik(i:Nat)(E:cM K G0 H0 ρ σ G H):∃L:List Addr,(∀q∈L,G q=none)/\cM K G0 H0 (iC i ρ) σ (lS G H L) H/\((∀o,gt ρ i=.ov o->(∃kvs,o=.dc kvs)\/∃dss,o=.ll dss)->∀q∈L,H q≠none/\∀xs,¬Rd H q (.tup xs)):=
 let⟨L,a,b,c,_⟩:=E.ly i
 ⟨L,a,b,c⟩
theorem cM.freeze(i:Nat)(E:cM K G0 H0 ρ σ G H):∃G',cM K G0 H0 (iC i ρ) σ G' H/\cm G G':=
 let⟨L,hL,E',_⟩:=E.ik i
 ⟨_,E',vq hL⟩
theorem cM.change{i:Nat}{ds vS:List D}{p:Addr}{nM:List V}(E:cM K G0 H0 ρ σ G H)(hg:gt ρ i=.ow ds)(h1:σ[i]?=some (some (.ref p)))(hr:bV K G nM vS) :
  cM K G0 H0 (ρ.set i (.ow vS)) σ G (upd H p (.lst nM)):=by
 obtain⟨p',XG,b1,b2,b3,b4,b5⟩:=E.ow i ds hg;rw[h1] at b1;cases b1;have cS:i<ρ.length:=tm hg (by simp);have gs:∀j s,gt (ρ.set i (.ow vS)) j=s->(i=j/\s=.ow vS)\/(i≠j/\gt ρ j=s):=fun j s e=>by
  rw[oA] at e;by_cases h:i=j
  ·subst h;rw[if_pos ⟨rfl,cS⟩] at e;exact .inl ⟨rfl,e.symm⟩
  ·rw[if_neg (fun z=>h z.1)] at e;exact .inr ⟨h,e⟩
 have hG:cm G (upd H p (.lst nM)):=fun b o e=>by rw[cX (jf e b3)];exact E.e.s b o e
 refine⟨⟨E.e.g,fun b o e=>by rw[cX (jf e b4)];exact E.e.h b o e,hG,E.e.n⟩,by simp[E.len],fun j d h=>?_,fun j es h=>?_,fun j k es fs mD a1 a2=>?_,?_⟩
 ·rcases gs j _ h with⟨_,e2⟩ | ⟨e,e2⟩
  ·cases e2
  ·exact E.fz j d e2
 ·rcases gs j _ h with⟨e,e2⟩ | ⟨e,e2⟩
  ·subst e;cases e2;exact⟨p,nM,h1,fk,b3,b4,hr⟩
  ·obtain⟨p',UT,c1,c2,c3,c4,c5⟩:=E.ow j es e2;have cE:p'≠p:=fun z=>by
    subst z;exact E.dj i j ds es e hg e2 (by rw[h1,c1])
   exact⟨p',UT,c1,by rw[cX cE];exact c2,c3,c4,c5⟩
 ·rcases gs j _ a1 with⟨e,e2⟩ | ⟨e,e2⟩
  ·subst e;rcases gs k _ a2 with⟨e3,e4⟩ | ⟨e3,e4⟩
   ·exact absurd e3 mD
   ·exact E.dj i k ds fs mD hg e4
  ·rcases gs k _ a2 with⟨e3,e4⟩ | ⟨e3,e4⟩
   ·subst e3;exact E.dj j i es ds mD e2 hg
   ·exact E.dj j k es fs mD e2 e4
 ·obtain⟨own,o1,o2⟩:=E.on;refine⟨own,fun j es p' h hp=>?_,fun j o h=>?_⟩
  ·rcases gs j _ h with⟨e,e2⟩ | ⟨_,e2⟩
   ·subst e;exact o1 i ds p' hg hp
   ·exact o1 j es p' e2 hp
  ·rcases gs j _ h with⟨_,e2⟩ | ⟨e,e2⟩
   ·cases e2
   ·obtain⟨p',fp,c1,c2,c3,c4⟩:=o2 j o e2;refine⟨p',fp,c1,c2,c3.mono (cm.refl _) fun q hq u e3=>?_,c4⟩;rw[cX fun z=>?_]
    ·exact e3
    ·have z1:=(c4 q hq).2.2;rw[z,o1 i ds p hg h1] at z1;injection z1 with z1
     exact e z1
theorem cM.eT{i:Nat}{o o':OV}{p:Addr}(E:cM K G0 H0 ρ σ G H)(hg:gt ρ i=.ov o)(h1:σ[i]?=some (some (.ref p)))
  (hc:∀fp,(p::fp).Nodup->iE K G H p fp o->∃gT,(p::gT).Nodup/\iE K G H' p gT o'/\(∀q∈p::gT,q∈p::fp\/H q=none)/\∀b,b∉p::fp->H b≠none->H' b=H b) :
  cM K G0 H0 (ρ.set i (.ov o')) σ G H':=by
 obtain⟨own,o1,o2⟩:=E.on;obtain⟨p',fp,b1,b2,b3,b4⟩:=o2 i o hg;rw[h1] at b1;cases b1;obtain⟨gT,c1,c2,c3,c4⟩:=hc fp b2 b3;have cS:i<ρ.length:=tm hg (by simp);have gs:∀j s,gt (ρ.set i (.ov o')) j=s->(i=j/\s=.ov o')\/(i≠j/\gt ρ j=s):=fun j s e=>by
  rw[oA] at e;by_cases h:i=j
  ·subst h;rw[if_pos ⟨rfl,cS⟩] at e;exact .inl ⟨rfl,e.symm⟩
  ·rw[if_neg (fun z=>h z.1)] at e;exact .inr ⟨h,e⟩
 have hk:∀(F:Hp),(∀q∈p::fp,F q=none)->cm F H->cm F H':=fun F hF s b u e=>by
  have hb:b∉p::fp:=fun z=>by rw[hF b z] at e;cases e
  rw[c4 b hb (by rw[s b u e];exact nofun)];exact s b u e
 refine⟨⟨E.e.g,hk H0 (fun q hq=>(b4 q hq).2.1) E.e.h,hk G (fun q hq=>(b4 q hq).1) E.e.s,E.e.n⟩,by simp[E.len],fun j d h=>?_,fun j es h=>?_,fun j k es fs mD a1 a2=>?_,fun q=>if q∈p::gT then some i else own q,fun j es p' h hp=>?_,fun j Vo h=>?_⟩
 ·rcases gs j _ h with⟨_,e2⟩ | ⟨e,e2⟩
  ·cases e2
  ·exact E.fz j d e2
 ·rcases gs j _ h with⟨_,e2⟩ | ⟨e,e2⟩
  ·cases e2
  ·obtain⟨p',xs,d1,d2,d3,d4,d5⟩:=E.ow j es e2;refine⟨p',xs,d1,?_,d3,d4,d5⟩;rw[c4 p' (fun z=>?_) (by rw[d2];exact nofun)]
   ·exact d2
   ·have z1:=(b4 p' z).2.2;rw[o1 j es p' e2 d1] at z1;injection z1 with z1
    exact e z1.symm
 ·rcases gs j _ a1 with⟨_,e2⟩ | ⟨e,e2⟩
  ·cases e2
  ·rcases gs k _ a2 with⟨_,e4⟩ | ⟨e3,e4⟩
   ·cases e4
   ·exact E.dj j k es fs mD e2 e4
 ·rcases gs j _ h with⟨_,e2⟩ | ⟨e,e2⟩
  ·cases e2
  ·have w:=o1 j es p' e2 hp;obtain⟨p2,xs,d1,d2,_⟩:=E.ow j es e2;rw[hp] at d1;cases d1;dsimp only;rw[if_neg fun z=>?_]
   ·exact w
   ·rcases c3 p' z with z | z
    ·have z1:=(b4 p' z).2.2;rw[w] at z1;injection z1 with z1
     exact e z1.symm
    ·rw[z] at d2;cases d2
 ·rcases gs j _ h with⟨e,e2⟩ | ⟨e,e2⟩
  ·subst e;cases e2;refine⟨p,gT,h1,c1,c2,fun q hq=>?_⟩;dsimp only;rw[if_pos hq];rcases c3 q hq with z | z
   ·exact⟨(b4 q z).1,(b4 q z).2.1,rfl⟩
   ·exact⟨E.e.s.free z,E.e.h.free z,rfl⟩
  ·obtain⟨p2,Lg,d1,d2,d3,d4⟩:=o2 j Vo e2;have jF:∀q∈p2::Lg,q∉p::fp:=fun q hq z=>by
    have z1:=(b4 q z).2.2;rw[(d4 q hq).2.2] at z1;injection z1 with z1
    exact e z1.symm
   refine⟨p2,Lg,d1,d2,d3.mono (cm.refl _) fun q hq u e3=>?_,fun q hq=>⟨(d4 q hq).1,(d4 q hq).2.1,?_⟩⟩
   ·rw[c4 q (jF q hq) (by rw[e3];exact nofun)];exact e3
   ·dsimp only;rw[if_neg fun z=>?_]
    ·exact(d4 q hq).2.2
    ·rcases c3 q z with z | z
     ·exact jF q hq z
     ·exact d3.here q hq z
theorem cM.weak{ρ':Ev}(E:cM K G0 H0 ρ σ G H)(hl:ρ'.length=ρ.length)(w:∀i,gt ρ' i=.un\/gt ρ' i=gt ρ i):cM K G0 H0 ρ' σ G H:=by
 have g:∀i s,gt ρ' i=s->s≠.un->gt ρ i=s:=fun i s e n=>by
  rcases w i with h | h
  ·exact absurd (e.symm.trans h) n
  ·rw[<-h];exact e
 exact⟨E.e,by rw[hl];exact E.len,fun i d h=>E.fz i d (g i _ h (by simp)),fun i d h=>E.ow i d (g i _ h (by simp)),fun i j ds es pK h1 h2=>E.dj i j ds es pK (g i _ h1 (by simp)) (g j _ h2 (by simp)),let⟨own,o1,o2⟩:=E.on;⟨own,fun i ds p h=>o1 i ds p (g i _ h (by simp)),fun i o h=>o2 i o (g i _ h (by simp))⟩⟩
end
section
variable {X:Cx} {pos:Pos} {e:Expr} {te:TD}
def cD(t u:TX):TX:=fun D ρ=>t { D with nx:=u D } ρ
def jd:TX:=fun D ρ=>D.nx ρ
theorem jX:lC X [] jd:=⟨_,OQ,fun ρ σ G0 H0 G H D E k h g=>g.nx ρ σ G H (cm.refl _) k h⟩
theorem cG{st:Stmt}{tQ:List Stmt}{t u:TX}(h1:PX X st t)(h2:lC X tQ u):lC X (st::tQ) (cD t u):=by
 obtain⟨t1,p1,q1⟩:=h1;obtain⟨t2,p2,q2⟩:=h2;refine⟨_,IQ p1 p2,fun ρ σ G0 H0 G H D E k h g=>q1 ρ σ G0 H0 G H _ _ k h ⟨fun ρ' cF G' H' s' k' h'=>q2 ρ' cF G0 H0 G' H' D E k' h' (g.shift s'),g.rt,g.bk,g.ct⟩⟩
theorem cZ{st:Stmt}{t:TX}(h1:PX X st t):lC X [st] t:=by
 obtain⟨t1,p1,q1⟩:=h1;exact⟨_,Cf p1,q1⟩
theorem wN(i:Nat){tQ:List Stmt}{t:TX}(h:lC X tQ t):lC X tQ (fun D ρ=>t D (iC i ρ)):=by
 obtain⟨t1,p1,q1⟩:=h;refine⟨_,p1,fun ρ σ G0 H0 G H D E k h g=>?_⟩;obtain⟨G',k',s'⟩:=k.freeze i;exact q1 _ σ G0 H0 G' H D E k' h (g.shift s')
def fJ(te:TD):TX:=fun D ρ=>te ρ D.rt
theorem gm(h:PD X e te):PX X (.Return (some e) pos) (fJ te):=by
 obtain⟨t,p,q⟩:=h;exact⟨_,Ah p,fun ρ σ G0 H0 G H D E k h g=>q ρ σ G0 H0 G H _ _ k h fun v H' r G' x rr hq=>g.rt v H' r G' (k.e.trans x) (rr.jl k.e.h) hq⟩
def nE(i:Nat):TX:=fun D ρ=>match gt ρ i with
 | .ow ds=>D.rt (.ow ds)
 | _=>False
theorem Aw(i:Nat){x:Str}{p':Pos}(hN:X.N[i]?=some x:=by rfl)(hv:js X.env.scope x:=by first | exact Or.inl rfl | exact Or.inr (Or.inl rfl) | exact Or.inr (Or.inr rfl))(hd:(x==("__debug__":Str))=false:=by decide)
  (fi:(x==("__classdict__":Str))=false:=by decide):PX X (.Return (some (.Name x p')) pos) (nE i):=by
 refine⟨_,Ah (jL hN hv hd fi),fun ρ σ G0 H0 G H D E k h g=>?_⟩;unfold nE at h;split at h
 ·rename_i ds hg;obtain⟨p,xs,h1,h2,h3,h4,h5⟩:=k.ow i ds hg;exact⟨_,h1,g.rt _ H (.ow ds) G k.e ⟨p,xs,rfl,h4,h3,h2,h5⟩ h⟩
 ·exact h.elim
def BI(te:TD):TX:=fun D ρ=>te ρ fun _=>D.nx ρ
theorem N5(h:PD X e te)(hs:swapsWith e none pos.line X.env=pure false:=by rfl):PX X (.Expr e pos) (BI te):=by
 obtain⟨t,p,q⟩:=h;exact⟨_,tK p hs,fun ρ σ G0 H0 G H D E k h g=>q ρ σ G0 H0 G H _ _ k h fun v H' r G' x rr hq=>g.nx ρ σ G' H' x.g (k.ext x) hq⟩
def iY(c:gK)(t u:TX):TX:=fun D ρ=>c ρ fun b=>if b=true then t D ρ else u D ρ
theorem jI{c:Expr}{a b:List Stmt}{tc:gK}{t u:TX}(hc:PB X c tc)(ha:lC X a t)(hb:lC X b u):PX X (.If c a b pos) (iY tc t u):=by
 obtain⟨t0,p0,q0⟩:=hc;obtain⟨t1,p1,q1⟩:=ha;obtain⟨t2,p2,q2⟩:=hb;refine⟨_,Gv p0 p1 p2,fun ρ σ G0 H0 G H D E k h g=>q0 ρ σ G0 H0 G H _ _ k h fun b H' G' x hq=>?_⟩;cases b with
 | true=>rw[if_pos rfl] at hq ⊢;exact q1 ρ σ G0 H0 G' H' D E (k.ext x) hq (g.shift x.g)
 | false=>rw[if_neg aG] at hq ⊢;exact q2 ρ σ G0 H0 G' H' D E (k.ext x) hq (g.shift x.g)
def iI(i:Nat)(te:TD):TX:=fun D ρ=>te ρ fun r=>D.nx (ρ.set i r.sl)
theorem oz(i:Nat){x:Str}{pos':Pos}(he:PD X e te)(hN:X.N.Nodup:=by assumption)(hi:X.N[i]?=some x:=by rfl)(hx:Loc X.env.scope x:=by first | exact Or.inl rfl | exact Or.inr rfl)(hs:swapsWith e (some (.Name x pos')) pos.line X.env=pure false:=by rfl)(hf:X.fn x=true\/X.env.scope.names.lookup x=some .local:=by first | exact .inl rfl | exact .inr rfl | assumption) :
  PX X (.Assign [.Name x pos'] e pos) (iI i te):=by
 obtain⟨t,p,q⟩:=he;exact⟨_,GV hN hi hx p hs hf,fun ρ σ G0 H0 G H D E k h g=>q ρ σ G0 H0 G H _ _ k h fun v H' r G' x rr hq=>g.nx _ _ G' H' x.g (k.put x rr) hq⟩
def dG(i:Nat)(te:TD):TX:=fun D ρ=>te ρ fun r=>D.nx (ρ.set i (.fz r.val))
theorem ee(i:Nat){x:Str}{pos':Pos}(he:PD X e te)(hN:X.N.Nodup:=by assumption)(hi:X.N[i]?=some x:=by rfl)(hx:Loc X.env.scope x:=by first | exact Or.inl rfl | exact Or.inr rfl)(hs:swapsWith e (some (.Name x pos')) pos.line X.env=pure false:=by rfl)(hf:X.fn x=true\/X.env.scope.names.lookup x=some .local:=by first | exact .inl rfl | exact .inr rfl | assumption) :
  PX X (.Assign [.Name x pos'] e pos) (dG i te):=by
 obtain⟨t,p,q⟩:=he;refine⟨_,GV hN hi hx p hs hf,fun ρ σ G0 H0 G H D E k h g=>q ρ σ G0 H0 G H _ _ k h fun v H' r G' x rr hq=>?_⟩;obtain⟨G2,x2,rv,_⟩:=rr.freeze x;exact g.nx _ _ G2 H' x2.g (k.put x2 (r:=.fz r.val) rv) hq
def nB(i:Nat)(te:TD):TX:=fun D ρ=>match gt ρ i with
 | .ow ds=>te ρ fun r=>ds.length<sizeLine/\D.nx (ρ.set i (.ow (ds++[r.val])))
 | _=>False
theorem tw(i:Nat){x:Str}{p1 p2 pos':Pos}(he:PD X e te)(hN:X.N[i]?=some x:=by rfl)(hv:js X.env.scope x:=by first | exact Or.inl rfl | exact Or.inr (Or.inl rfl) | exact Or.inr (Or.inr rfl))(hd:(x==("__debug__":Str))=false:=by decide)
  (fi:(x==("__classdict__":Str))=false:=by decide) (gv:starEach [e] X.env=(false,eval e X.env)::starEach [] X.env:=by rfl)
  (hb:∀{ta:TE} {t:TA},PE X (.Name x p1) ta->PA X [e] t->PE X (.Call (.Attribute (.Name x p1) "append" p2) [e] [] pos') (vz X.K "list" tI ta t):=by intro ta t h1 h2;exact wu PySem.F.plainAttrs_list PySem.F.slot_list_append PySem.F.type_list_append vv h1 h2) :
  PX X (.Expr (.Call (.Attribute (.Name x p1) "append" p2) [e] [] pos') pos) (nB i te):=by
 obtain⟨t,p,q⟩:=he;refine⟨_,tK (hb (jL hN hv hd fi) (mX p oB gv)),fun ρ σ G0 H0 G H D E k h g=>?_⟩;unfold nB at h;split at h
 ·rename_i ds hg;obtain⟨a,xs,h1,h2,h3,h4,h5⟩:=k.ow i ds hg;refine⟨_,h1,.inl ⟨rfl,xs,dY.of h2⟩,?_⟩;refine q ρ σ G0 H0 G H _ _ k h fun v H' r G' x1 rr hq=>?_
  obtain⟨G2,x2,rv,_⟩:=rr.freeze x1;have k2:=k.ext x2;refine⟨a,xs,v,rfl,rfl,x2.h _ _ h2,by rw[h5.length];exact hq.1,?_⟩;exact g.nx _ _ G2 _ x2.g (k2.change hg h1 ((h5.mono x2.g).append (bV.cons rv bV.nil))) hq.2
 ·exact h.elim
end
end L2
namespace L2
open PySem PySem.Spec PyProof.Rows
section
variable {X:Cx} {pos:Pos} {tg:Expr}
noncomputable abbrev gJ:=D->Ev->(Ev->Prop)->Prop
noncomputable abbrev oT:=List D->Ev->(Ev->Prop)->Prop
def qB(X:Cx)(tg:Expr)(g:gJ):Prop:=∃gg,PG X tg gg/\∀(ρ:Ev) (σ:St) (G0 H0 G H:Hp) (d:D) (v:V) (Q:Ev->Prop) (P:St->Hp->Prop),cM X.K G0 H0 ρ σ G H->Rep X.K G v d->g d ρ Q->
 (∀ρ' cF G' H',cM X.K G0 H0 ρ' cF G' H'->Ext G H G' H'->Q ρ'->P cF H')->gg v σ H P
def zM(X:Cx)(U2:List Expr)(g:oT):Prop:=∃gg,zy X U2 gg/\∀(ρ:Ev) (σ:St) (G0 H0 G H:Hp) (ds:List D) (vs:List V) (Q:Ev->Prop) (P:St->Hp->Prop),cM X.K G0 H0 ρ σ G H->bV X.K G vs ds->g ds ρ Q->
 (∀ρ' cF G' H',cM X.K G0 H0 ρ' cF G' H'->Ext G H G' H'->Q ρ'->P cF H')->gg vs σ H P
def cY(i:Nat):gJ:=fun d ρ Q=>Q (ρ.set i (.fz d))
theorem du(i:Nat){x:Str}(hN:X.N.Nodup:=by assumption)(hi:X.N[i]?=some x:=by rfl)(hx:Loc X.env.scope x:=by first | exact Or.inl rfl | exact Or.inr rfl)(hf:X.fn x=true\/X.env.scope.names.lookup x=some .local:=by first | exact .inl rfl | exact .inr rfl | assumption):qB X (.Name x pos) (cY i):=
 ⟨_,HP hN hi hx hf,fun ρ σ G0 H0 G H d v Q P E r h k=>k _ _ G H (E.put (.refl E.e.s) (r:=.fz d) r) (.refl E.e.s) h⟩
noncomputable def jA:oT:=fun ds ρ Q=>match ds with
 | []=>Q ρ
 | _=>False
noncomputable def fh(t:gJ)(u:oT):oT:=fun ds ρ Q=>match ds with
 | d::r=>t d ρ fun ρ'=>u r ρ' Q
 | []=>False
theorem oE:zM X [] jA:=by
 refine⟨_,OP,fun ρ σ G0 H0 G H ds vs Q P E r h k=>?_⟩;unfold jA at h;split at h
 ·cases vs with
  | nil=>exact⟨rfl,k _ _ G H E (.refl E.e.s) h⟩
  | cons=>simp only[bV] at r
 ·exact h.elim
theorem g5{e:Expr}{es:List Expr}{t:gJ}{u:oT}(h1:qB X e t)(h2:zM X es u)(hs:(assignEach (e::es) X.env).map (·.2)=assign e X.env::(assignEach es X.env).map (·.2):=by rfl):zM X (e::es) (fh t u):=by
 obtain⟨t1,p1,q1⟩:=h1;obtain⟨t2,p2,q2⟩:=h2;refine⟨_,QE p1 p2 hs,fun ρ σ G0 H0 G H ds vs Q P E r h k=>?_⟩;unfold fh at h;split at h
 ·cases vs with
  | nil=>simp only[bV] at r
  | cons v vs=>
   simp only[bV] at r;refine⟨v,vs,rfl,q1 ρ σ G0 H0 G H _ v _ _ E r.1 h fun ρ' cF G' H' E' x hq=>?_⟩;exact q2 ρ' cF G0 H0 G' H' _ vs Q P E' (r.2.mono x.g) hq fun dM iH G2 H2 E2 x2 f6=>k dM iH G2 H2 E2 (x.trans x2) f6
 ·exact h.elim
def j6(n:Nat)(t:oT):gJ:=fun d ρ Q=>match d with
 | .tup ds=>ds.length=n/\t ds ρ Q
 | _=>False
theorem oC{es:List Expr}{k:Nat}{t:oT}{n:Nat}(hc:X.calm=true)(h:zM X es t)(hn:(assignEach es X.env).length=n:=by rfl)(gv:(assignEach es X.env).findIdx? (·.1)=none:=by rfl):qB X (.Tuple es k pos) (j6 n t):=by
 obtain⟨t1,p1,q1⟩:=h;refine⟨_,M1 hc p1 hn gv,fun ρ σ G0 H0 G H d v Q P E r h k=>?_⟩;unfold j6 at h;split at h
 ·simp only[Rep] at r;obtain⟨a,xs,rfl,hq,rs⟩:=r;exact⟨a,xs,rfl,E.e.s.gP hq,by rw[rs.length];exact h.1,q1 ρ σ G0 H0 G H _ xs Q P E rs h.2 k⟩
 ·exact h.elim
def oq(K:PySem.W.Frag)(J:It)(G:Hp)(ds:List D):Prop:=
 (∀i d G' H',ds[i]?=some d->cm G G'->cm G' H'->J.go i H'/\∀v H2,J.AV i H' v H2->∃G2,Ext G' H' G2 H2/\Rep K G2 v d)/\∀G' H',cm G G'->cm G' H'->J.stop ds.length H'
noncomputable abbrev iW:=Ev->(List D->Prop)->Prop
def PId(X:Cx)(tg iter:Expr)(wi:iW):Prop:=∃ww,PI X tg iter ww/\∀(ρ:Ev) (σ:St) (G0 H0 G H:Hp) (Q:List D->Prop) (P:It->Hp->Prop),cM X.K G0 H0 ρ σ G H->wi ρ Q->
 (∀J H' ds G',Ext G H G' H'->oq X.K J G' ds->Q ds->P J H')->ww σ H P
def vb(d:D)(Q:List D->Prop):Prop:=match d with
 | .lst ds=>Q ds
 | .tup ds=>Q ds
 | .str z=>Q (z.cps.toList.map fun c=>.str ⟨#[c]⟩)
 | _=>False
def gj(te:TD):iW:=fun ρ Q=>te ρ fun r=>vb r.val Q
theorem Jc{K:PySem.W.Frag}{G:Hp}{a:Addr}{xs:List V}{ds:List D}(h:jt K G a xs)(r:bV K G xs ds):oq K (F0 K a) G ds:=by
 refine⟨fun i d G' H' hd s1 s2=>?_,fun G' H' s1 s2=>⟨xs,(s2.fb (s1.fb h)).sq,by rw[r.length];exact az _⟩⟩;obtain⟨v,hv,rv⟩:=r.get hd;have hs:dY K H' a xs:=(s2.fb (s1.fb h)).sq;refine⟨⟨xs,v,hs,hv⟩,fun u H2 hy=>?_⟩;obtain⟨e,y⟩:=hy;subst e;have:=y xs hs;rw[hv] at this;cases this;exact⟨G',.refl s2,rv.mono s1⟩
theorem Pw{K:PySem.W.Frag}{G:Hp}{a:Addr}{xs:List V}{ds:List D}(h:fQ K G a xs)(r:bV K G xs ds):oq K (FZ K a) G ds:=by
 refine⟨fun i d G' H' hd s1 s2=>?_,fun G' H' s1 s2=>⟨xs,s2.gP (s1.gP h),by rw[r.length];exact az _⟩⟩;obtain⟨v,hv,rv⟩:=r.get hd;have hs:fQ K H' a xs:=s2.gP (s1.gP h);refine⟨⟨xs,v,hs,hv⟩,fun u H2 hy=>?_⟩;obtain⟨e,y⟩:=hy;subst e;have:=y xs hs;rw[hv] at this;cases this;exact⟨G',.refl s2,rv.mono s1⟩
theorem Pu{K:PySem.W.Frag}{G:Hp}(z:Str):oq K (Br z) G (z.cps.toList.map fun c=>.str ⟨#[c]⟩):=by
 refine⟨fun i d G' H' hd s1 s2=>?_,fun G' H' s1 s2=>?_⟩
 ·rw[ao] at hd;cases e:z.cps.toList[i]? with
  | none=>rw[e] at hd;cases hd
  | some c=>
   rw[e] at hd;cases hd;have hc:z.cps[i]?=some c:=by simpa using e
   refine⟨(Array.getElem?_eq_some_iff.mp hc).1,fun v H2 hy=>?_⟩;obtain⟨e2,c',sO,rfl⟩:=hy;subst e2;rw[hc] at sO;cases sO;exact⟨G',.refl s2,wO _ _ _⟩
 ·show _=_;simp
theorem Sf{K:PySem.W.Frag}{G:Hp}(lo:Int)(n:Nat):oq K (Bs lo n) G ((List.range n).map fun(i:Nat)=>.int (lo+i)):=by
 refine⟨fun i d G' H' hd s1 s2=>?_,fun G' H' s1 s2=>?_⟩
 ·rw[ao] at hd;cases e:(List.range n)[i]? with
  | none=>rw[e] at hd;cases hd
  | some c=>
   rw[e] at hd;cases hd;obtain⟨h1,h2⟩:=aj.mp e;have h3:i<n:=by simpa using h1
   have h4:c=i:=by rw[<-h2];simp
   subst h4;refine⟨h3,fun v H2 hy=>?_⟩;obtain⟨e2,rfl⟩:=hy;subst e2;exact⟨G',.refl s2,iJ _ _ _⟩
 ·show n<=_;simp
noncomputable def qf(ds:List D):List D:=ds.mapIdx fun i d=>.tup [.int (i:Nat),d]
theorem CU{K:PySem.W.Frag}{G:Hp}{t:Addr}{x y:V}{d e:D}(s1:fQ K G t [x,y])(r1:Rep K G x d)(r2:Rep K G y e):Rep K G (.ref t) (.tup [d,e]):=by
 simp only[Rep];exact⟨t,[x,y],rfl,s1,bV.cons r1 (bV.cons r2 bV.nil)⟩
theorem RZ{K:PySem.W.Frag}{G:Hp}{a:Addr}{xs:List V}{ds:List D}(h:jt K G a xs)(r:bV K G xs ds):oq K (F2 K a) G (qf ds):=by
 refine⟨fun i d G' H' hd s1 s2=>?_,fun G' H' s1 s2=>⟨xs,(s2.fb (s1.fb h)).sq,by rw[r.length];simp[qf]⟩⟩;unfold qf at hd;rw[List.getElem?_mapIdx] at hd;cases e:ds[i]? with
 | none=>rw[e] at hd;cases hd
 | some d'=>
  rw[e] at hd;cases hd;obtain⟨v,hv,rv⟩:=r.get e;have hs:dY K H' a xs:=(s2.fb (s1.fb h)).sq;refine⟨⟨xs,v,hs,hv⟩,fun u H2 hy=>?_⟩;obtain⟨t,rfl,ht,y⟩:=hy;obtain⟨x,hx,rfl⟩:=y xs hs;rw[hv] at hx;cases hx;have x2:Ext G' H' (upd G' t (.tup [.int i,v])) (upd H' t (.tup [.int i,v])):=.new s2 ht;exact⟨_,x2,CU (fQ.of fk) (iJ _ _ _) ((rv.mono s1).mono x2.g)⟩
noncomputable def rP(ds es:List D):List D:=List.zipWith (fun d e=>.tup [d,e]) ds es
theorem Pt{K:PySem.W.Frag}{G:Hp}{a b:Addr}{xs ys:List V}{ds es:List D}(h:jt K G a xs)(r:bV K G xs ds)(h':jt K G b ys)(r':bV K G ys es):oq K (FY K a b) G (rP ds es):=by
 refine⟨fun i d G' H' hd s1 s2=>?_,fun G' H' s1 s2=>⟨xs,ys,(s2.fb (s1.fb h)).sq,(s2.fb (s1.fb h')).sq,?_⟩⟩
 ·unfold rP at hd;rw[List.getElem?_zipWith] at hd;cases e:ds[i]? with
  | none=>rw[e] at hd;cases hd
  | some d'=>
   cases e2:es[i]? with
   | none=>rw[e,e2] at hd;cases hd
   | some d2=>
    rw[e,e2] at hd;cases hd;obtain⟨v,hv,rv⟩:=r.get e;obtain⟨v',sF,iw⟩:=r'.get e2;have hs:dY K H' a xs:=(s2.fb (s1.fb h)).sq;have l4:dY K H' b ys:=(s2.fb (s1.fb h')).sq;refine⟨⟨xs,ys,v,v',hs,l4,hv,sF⟩,fun u H2 hy=>?_⟩;obtain⟨t,rfl,ht,y⟩:=hy;obtain⟨x,x',hx,iU,rfl⟩:=y xs ys hs l4;rw[hv] at hx;rw[sF] at iU;cases hx;cases iU;have x2:Ext G' H' (upd G' t (.tup [v,v'])) (upd H' t (.tup [v,v'])):=.new s2 ht;exact⟨_,x2,CU (fQ.of fk) ((rv.mono s1).mono x2.g) ((iw.mono s1).mono x2.g)⟩
 ·rw[r.length,r'.length];unfold rP;rw[List.length_zipWith];omega
theorem gY{l:Expr}{te:TD}(h:PD X l te):PId X tg l (gj te):=by
 obtain⟨t,p,q⟩:=h;refine⟨_,GL p,fun ρ σ G0 H0 G H Q P E h k=>q ρ σ G0 H0 G H _ _ E h fun v H' r G' x rr hq=>?_⟩;obtain⟨G2,x2,rv,_⟩:=rr.freeze x;unfold vb at hq;split at hq
 ·rename_i ds e;rw[e] at rv;simp only[Rep] at rv;obtain⟨a,xs,rfl,h1,h2⟩:=rv;exact .inl ⟨a,rfl,⟨xs,(x2.s.fb h1).sq⟩,k _ H' _ G2 x2 (Jc h1 h2) hq⟩
 ·rename_i ds e;rw[e] at rv;simp only[Rep] at rv;obtain⟨a,xs,rfl,h1,h2⟩:=rv;exact .inr (.inl ⟨a,rfl,⟨xs,x2.s.gP h1⟩,k _ H' _ G2 x2 (Pw h1 h2) hq⟩)
 ·rename_i z e;rw[e] at rv;simp only[Rep] at rv;exact .inr (.inr ⟨z,rv,k _ H' _ G2 x2 (Pu z) hq⟩)
 ·exact hq.elim
def oW(ts:jG):iW:=fun ρ Q=>ts ρ fun ds=>match ds with
 | [.int j]=>-(2 ^ 62)<=j/\j<2 ^ 62/\Q ((List.range j.toNat).map fun(i:Nat)=>.int (0+i))
 | _=>False
theorem kG{K:PySem.W.Frag}{G:Hp}{vs:List V}{d:D}(h:bV K G vs [d]):∃v,vs=[v]/\Rep K G v d:=by
 match vs,h with
 | [],h=>simp only[bV] at h
 | [v],h=>simp only[bV] at h;exact⟨v,rfl,h.1⟩
 | v::w::r,h=>simp only[bV] at h;exact absurd h.2 (by simp)
theorem BH{K:PySem.W.Frag}{G:Hp}{vs:List V}{d e:D}(h:bV K G vs [d,e]):∃v w,vs=[v,w]/\Rep K G v d/\Rep K G w e:=by
 match vs,h with
 | [],h=>simp only[bV] at h
 | v::r,h=>
  simp only[bV] at h;obtain⟨w,rfl,hw⟩:=kG h.2;exact⟨v,w,rfl,h.1,hw⟩
theorem qR{a:Expr}{ts:jG}{p:Pos}(hm:X.mg "range"=none)(ha:nz X [a] ts)(hg:Gl X "range":=by rfl)(hs:starEach [a] X.env=[(false,eval a X.env)]:=by rfl):PId X tg (.Call (.Name "range" p) [a] [] pos) (oW ts):=by
 obtain⟨t,pp,q⟩:=ha;refine⟨_,RT hg hm pp hs,fun ρ σ G0 H0 G H Q P E h k=>q ρ σ G0 H0 G H _ _ E h fun vs H' ds G' x rs hq=>?_⟩;split at hq
 ·obtain⟨v,rfl,rv⟩:=kG rs;simp only[Rep] at rv;subst rv;exact⟨_,rfl,hq.1,hq.2.1,k _ H' _ G' x (Sf 0 _) hq.2.2⟩
 ·exact hq.elim
def wB(ts:jG):iW:=fun ρ Q=>ts ρ fun ds=>match ds with
 | [.lst es]=>Q (qf es)
 | _=>False
theorem CT{a:Expr}{ts:jG}{p tp:Pos}{elts:List Expr}{x1:Nat}(hm:X.mg "enumerate"=none)(ha:nz X [a] ts)(hg:Gl X "enumerate":=by rfl)(hs:starEach [a] X.env=[(false,eval a X.env)]:=by rfl):PId X (.Tuple elts x1 tp) (.Call (.Name "enumerate" p) [a] [] pos) (wB ts):=by
 obtain⟨t,pp,q⟩:=ha;refine⟨_,OY hg hm pp hs,fun ρ σ G0 H0 G H Q P E h k=>q ρ σ G0 H0 G H _ _ E h fun vs H' ds G' x rs hq=>?_⟩;split at hq
 ·obtain⟨v,rfl,rv⟩:=kG rs;simp only[Rep] at rv;obtain⟨a,xs,rfl,h1,h2⟩:=rv;exact⟨a,xs,rfl,x.s.fb h1,k _ H' _ G' x (RZ h1 h2) hq⟩
 ·exact hq.elim
def uO(ts:jG):iW:=fun ρ Q=>ts ρ fun ds=>match ds with
 | [.lst es,.lst fs]=>Q (rP es fs)
 | _=>False
theorem HR{a b:Expr}{ts:jG}{p tp:Pos}{elts:List Expr}{x1:Nat}(hm:X.mg "zip"=none)(ha:nz X [a,b] ts)(hg:Gl X "zip":=by rfl)(hs:starEach [a,b] X.env=[(false,eval a X.env),(false,eval b X.env)]:=by rfl)(rl:starEach [b] X.env=[(false,eval b X.env)]:=by rfl) :
  PId X (.Tuple elts x1 tp) (.Call (.Name "zip" p) [a,b] [] pos) (uO ts):=by
 obtain⟨t,pp,q⟩:=ha;refine⟨_,Nl hg hm pp hs rl,fun ρ σ G0 H0 G H Q P E h k=>q ρ σ G0 H0 G H _ _ E h fun vs H' ds G' x rs hq=>?_⟩;split at hq
 ·obtain⟨v,w',rfl,rv,kK⟩:=BH rs;simp only[Rep] at rv kK;obtain⟨a,xs,rfl,h1,h2⟩:=rv;obtain⟨b,ys,rfl,h3,h4⟩:=kK;exact⟨a,b,rfl,⟨xs,(x.s.fb h1).sq⟩,⟨ys,(x.s.fb h3).sq⟩,k _ H' _ G' x (Pt h1 h2 h3 h4) hq⟩
 ·exact hq.elim
def ir(wi:iW)(g:gJ)(tb:TX):TX:=fun D ρ=>wi ρ fun ds=>∃Iv:Nat->Ev->Prop,Iv 0 ρ/\
 (∀i d ρ',ds[i]?=some d->Iv i ρ'->g d ρ' fun dM=>tb { D with nx:=Iv (i+1),ct:=Iv (i+1),bk:=D.nx } dM)/\∀ρ',Iv ds.length ρ'->D.nx ρ'
theorem kc{iter:Expr}{body:List Stmt}{wi:iW}{g:gJ}{tb:TX}(hp:PassesOwn (model X.prog X.w) X.A X.env X.xe)(hc:X.calm=true)(hi:PId X tg iter wi)(hg:qB X tg g)(hb:lC X body tb)
  (hs:∀x,foldedSetIterable iter X.env x=pure x:=by intro _;rfl):PX X (.For tg iter body [] pos) (ir wi g tb):=by
 obtain⟨t1,p1,q1⟩:=hi;obtain⟨t2,p2,q2⟩:=hg;obtain⟨t3,p3,q3⟩:=hb;refine⟨_,ND hp hc p1 p2 p3 hs,fun ρ σ G0 H0 G H D E k h gg=>q1 ρ σ G0 H0 G H _ _ k h fun J H1 ds G1 x1 wk hq=>?_⟩;obtain⟨Iv,i0,turn,fin⟩:=hq;refine⟨fun i m cF H'=>m=ds.length-i/\i<=ds.length/\∃ρ' G',cM X.K G0 H0 ρ' cF G' H'/\cm G1 G'/\Iv i ρ',⟨ds.length,by simp,ba _,ρ,G1,k.ext x1,cm.refl _,i0⟩,?_⟩;rintro i m cF H' ⟨rfl,hi,ρ',G',k',s',iv⟩;by_cases cS:i<ds.length
 ·obtain⟨w1,w2⟩:=wk;obtain⟨go,yl⟩:=w1 i ds[i] G' H' (ag cS) s' k'.e.s;refine .inr ⟨go,fun iH H2=>∃dM G2,cM X.K G0 H0 dM iH G2 H2/\cm G1 G2/\Iv (i+1) dM,fun iH H2 ⟨dM,G2,k2,s2,Vz⟩=>⟨ds.length-(i+1),by omega,rfl,cS,dM,G2,k2,s2,Vz⟩,fun v H2 hy=>?_⟩;obtain⟨G2,x2,rv⟩:=yl v H2 hy;refine q2 ρ' cF G0 H0 G2 H2 ds[i] v _ _ (k'.ext x2) rv (turn i ds[i] ρ' (ag cS) iv) fun nA jz G3 H3 k3 x3 cQ=>?_
  have s3:cm G1 G3:=(s'.trans x2.g).trans x3.g;refine q3 nA jz G0 H0 G3 H3 _ _ k3 cQ ⟨fun oO om G4 H4 s4 k4 h4=>⟨oO,G4,k4,s3.trans s4,h4⟩,gg.rt,fun oO om G4 H4 s4 k4 h4=>gg.nx oO om G4 H4 ((x1.g.trans s3).trans s4) k4 h4,fun oO om G4 H4 s4 k4 h4=>⟨oO,G4,k4,s3.trans s4,h4⟩⟩
 ·have e:i=ds.length:=by omega
  subst e;exact .inl ⟨wk.2 G' H' s' k'.e.s,gg.nx ρ' cF G' H' (x1.g.trans s') k' (fin ρ' iv)⟩
def wD(c:gK)(tb:TX):TX:=fun D ρ=>∃W:Nat->Ev->Prop,(∃m,W m ρ)/\∀m ρ',W m ρ'->c ρ' fun b=>if b=true then tb { D with nx:=fun dM=>∃m',m'<m/\W m' dM,ct:=fun dM=>∃m',m'<m/\W m' dM,bk:=D.nx } ρ' else D.nx ρ'
theorem CS{c:Expr}{body:List Stmt}{tc:gK}{tb:TX}(hp:PassesOwn (model X.prog X.w) X.A X.env X.xe)(hc:PB X c tc)(hb:lC X body tb):PX X (.While c body [] pos) (wD tc tb):=by
 obtain⟨t1,p1,q1⟩:=hc;obtain⟨t3,p3,q3⟩:=hb;refine⟨_,QD hp p1 p3,fun ρ σ G0 H0 G H D E k h gg=>?_⟩;obtain⟨W,⟨m0,w0⟩,turn⟩:=h;refine⟨fun m cF H'=>∃ρ' G',cM X.K G0 H0 ρ' cF G' H'/\cm G G'/\W m ρ',⟨m0,ρ,G,k,cm.refl _,w0⟩,?_⟩;rintro m cF H' ⟨ρ',G',k',s',wm⟩;refine q1 ρ' cF G0 H0 G' H' _ _ k' (turn m ρ' wm) fun b H2 G2 x2 hq=>?_
 cases b with
 | true=>
  rw[if_pos rfl] at hq ⊢;refine⟨fun iH H2=>∃m',m'<m/\∃dM G2,cM X.K G0 H0 dM iH G2 H2/\cm G G2/\W m' dM,fun iH H2 h2=>h2,?_⟩;have s2:cm G G2:=s'.trans x2.g;exact q3 ρ' cF G0 H0 G2 H2 _ _ (k'.ext x2) hq ⟨fun oO om G4 H4 s4 k4 cq=>by obtain⟨m',hm,h4⟩:=cq;exact⟨m',hm,oO,G4,k4,s2.trans s4,h4⟩,gg.rt,fun oO om G4 H4 s4 k4 h4=>gg.nx oO om G4 H4 (s2.trans s4) k4 h4,fun oO om G4 H4 s4 k4 cq=>by obtain⟨m',hm,h4⟩:=cq;exact⟨m',hm,oO,G4,k4,s2.trans s4,h4⟩⟩
 | false=>
  rw[if_neg aG] at hq ⊢;exact gg.nx ρ' cF G2 H2 (s'.trans x2.g) (k'.ext x2) hq
end
end L2
namespace L2
open PySem PySem.Spec PyProof.Rows
noncomputable def lQ(ρ:Ev):Option Nat->Sl
 | none=>.un
 | some j=>match gt ρ j with
  | .fz d=>.fz d
  | _=>.un
noncomputable def c9(m:List (Option Nat))(ρ:Ev):Ev:=m.map (lQ ρ)
theorem kb{m:List (Option Nat)}{ρ:Ev}{i:Nat}:gt (m.map (lQ ρ)) i=match m[i]? with
  | some o=>lQ ρ o
  | none=>.un:=by
 induction m generalizing i with
 | nil=>simp[gt]
 | cons a r ih=>
  cases i with
  | zero=>simp[gt]
  | succ i=>simp only[au,gt,aX];exact ih
def mV(m:List (Option Nat))(g:gJ):Prop:=∀d ρ Q,g d ρ Q->g d ρ fun dM=>Q dM/\dM.length=ρ.length/\∀j c,m[j]?=some (some c)->gt dM j=gt ρ j
def Av(m:List (Option Nat))(g:oT):Prop:=∀ds ρ Q,g ds ρ Q->g ds ρ fun dM=>Q dM/\dM.length=ρ.length/\∀j c,m[j]?=some (some c)->gt dM j=gt ρ j
theorem g4{m:List (Option Nat)}{i:Nat}(h:m[i]?=some none:=by rfl):mV m (cY i):=fun d ρ Q q=>by
 refine⟨q,by simp,fun j c hj=>?_⟩;rw[oA,if_neg];rintro⟨e,_⟩;subst e;rw[h] at hj;cases hj
theorem Io{m:List (Option Nat)}:Av m jA:=fun ds ρ Q q=>by
 unfold jA at q ⊢;split at q
 ·exact⟨q,rfl,fun _ _ _=>rfl⟩
 ·exact q.elim
theorem xo{m:List (Option Nat)}{t:gJ}{u:oT}(mono:∀d ρ (Q Q':Ev->Prop),(∀ρ',Q ρ'->Q' ρ')->t d ρ Q->t d ρ Q')(pz:∀d ρ (Q Q':Ev->Prop),(∀ρ',Q ρ'->Q' ρ')->u d ρ Q->u d ρ Q')(h1:mV m t)(h2:Av m u):Av m (fh t u):=fun ds ρ Q q=>by
 unfold fh at q ⊢;split at q
 ·refine mono _ _ _ _ (fun ρ' cq=>?_) (h1 _ _ _ q);obtain⟨q',l',k'⟩:=cq;exact pz _ _ _ _ (fun dM cq=>by obtain⟨q2,l2,k2⟩:=cq;exact⟨q2,l2.trans l',fun j c hj=>(k2 j c hj).trans (k' j c hj)⟩) (h2 _ _ _ q')
 ·exact q.elim
theorem Im{m:List (Option Nat)}{n:Nat}{u:oT}(h2:Av m u):mV m (j6 n u):=fun d ρ Q q=>by
 unfold j6 at q ⊢;split at q
 ·exact⟨q.1,h2 _ _ _ q.2⟩
 ·exact q.elim
theorem qP{i:Nat}:∀d ρ (Q Q':Ev->Prop),(∀ρ',Q ρ'->Q' ρ')->cY i d ρ Q->cY i d ρ Q':=fun _ _ _ _ h q=>h _ q
theorem w6:∀d ρ (Q Q':Ev->Prop),(∀ρ',Q ρ'->Q' ρ')->jA d ρ Q->jA d ρ Q':=fun _ _ _ _ h q=>by
 unfold jA at q ⊢;split at q
 ·exact h _ q
 ·exact q.elim
theorem AL{t:gJ}{u:oT}(mono:∀d ρ (Q Q':Ev->Prop),(∀ρ',Q ρ'->Q' ρ')->t d ρ Q->t d ρ Q')(pz:∀d ρ (Q Q':Ev->Prop),(∀ρ',Q ρ'->Q' ρ')->u d ρ Q->u d ρ Q'):∀d ρ (Q Q':Ev->Prop),(∀ρ',Q ρ'->Q' ρ')->fh t u d ρ Q->fh t u d ρ Q':=fun _ _ _ _ h q=>by
 unfold fh at q ⊢;split at q
 ·exact mono _ _ _ _ (fun ρ' q'=>pz _ _ _ _ h q') q
 ·exact q.elim
theorem AK{m:List (Option Nat)}{i j n:Nat}(h:m[i]?=some none:=by rfl)(h':m[j]?=some none:=by rfl):mV m (j6 n (fh (cY i) (fh (cY j) jA))):=
 Im (xo qP (AL qP w6) (g4 h) (xo qP w6 (g4 h') Io))
theorem Si{m:List (Option Nat)}{i j k n:Nat}(h:m[i]?=some none:=by rfl)(h':m[j]?=some none:=by rfl)(rH:m[k]?=some none:=by rfl):mV m (j6 n (fh (cY i) (fh (cY j) (fh (cY k) jA)))):=
 Im (xo qP (AL qP (AL qP w6)) (g4 h) (xo qP (AL qP w6) (g4 h') (xo qP w6 (g4 rH) Io)))
def rK(X:Cx)(ifs:List Expr)(t:gK):Prop:=∃tt,vU X ifs tt/\∀(ρ:Ev) (σ:St) (G0 H0 G H:Hp) (Q:Bool->Prop) (P:Bool->Hp->Prop),cM X.K G0 H0 ρ σ G H->t ρ Q->
 (∀b H' G',Ext G H G' H'->Q b->P b H')->tt σ H P
def gX:gK:=fun _ Q=>Q true
theorem jg{X:Cx}:rK X [] gX:=⟨_,O1,fun ρ σ G0 H0 G H Q P E h k=>k true H G (.refl E.e.s) h⟩
theorem tH{X:Cx}{c:Expr}{t:gK}(h:PB X c t):rK X [c] t:=let⟨tt,p,q⟩:=h;⟨tt,O0 p,q⟩
def fX(wi:iW)(m:List (Option Nat))(g:gJ)(tc:gK)(te:TD):TD:=fun ρ Q=>wi ρ fun ds=>∃Iv:Nat->List D->Prop,Iv 0 []/\
 (∀i d acc,ds[i]?=some d->Iv i acc->g d (c9 m ρ) fun dM=>tc dM fun b=>if b=true then te dM fun r=>acc.length<sizeLine/\Iv (i+1) (acc++[r.val]) else Iv (i+1) acc)/\∀acc,Iv ds.length acc->Q (.ow acc)
section
variable {X:Cx} {elt iter tg:Expr} {ifs:List Expr} {scope:Scope} {pos:Pos} {N':List Str} {m:List (Option Nat)} {wi:iW} {g:gJ} {tc:gK} {te:TD}
theorem Au(cs:cC X N' m scope)(hk:mV m g){ww:TI}{gg:md TG}{oG:md TT}{tee:md TE}
  (q1:∀(ρ:Ev) (σ:St) (G0 H0 G H:Hp) (Q:List D->Prop) (P:It->Hp->Prop),cM X.K G0 H0 ρ σ G H->wi ρ Q->(∀J H' ds G',Ext G H G' H'->oq X.K J G' ds->Q ds->P J H')->ww σ H P)
  (q2:∀s3 H3 ex (ρ:Ev) (σ:St) (G0 H0 G H:Hp) (d:D) (v:V) (Q:Ev->Prop) (P:St->Hp->Prop),cM X.K G0 H0 ρ σ G H->Rep X.K G v d->g d ρ Q->(∀ρ' cF G' H',cM X.K G0 H0 ρ' cF G' H'->Ext G H G' H'->Q ρ'->P cF H')->gg s3 H3 ex v σ H P)
  (q3:∀s3 H3 ex (ρ:Ev) (σ:St) (G0 H0 G H:Hp) (Q:Bool->Prop) (P:Bool->Hp->Prop),cM X.K G0 H0 ρ σ G H->tc ρ Q->(∀b H' G',Ext G H G' H'->Q b->P b H')->oG s3 H3 ex σ H P)
  (q4:∀s3 H3 ex,mf X.K te (tee s3 H3 ex)):mf X.K (fX wi m g tc te) (tq ww m gg oG tee):=by
 refine fun ρ σ G0 H0 G H Q P E h k=>q1 ρ σ G0 H0 G H _ _ E h fun J H1 ds G1 x1 wk hq=>?_
 obtain⟨Iv,i0,turn,fin⟩:=hq;intro D hD s3 ex;have E1:=E.ext x1;have uB:G1 D=none:=x1.s.free hD;have dX:∀{i:Nat} {es:List L2.D},gt (c9 m ρ) i=.ow es->False:=fun{i es} h=>by
  unfold c9 at h;rw[kb] at h;split at h
  ·rename_i o _;unfold lQ at h;split at h
   ·cases h
   ·split at h<;>cases h
  ·cases h
 have ic:∀{i:Nat} {o:OV},gt (c9 m ρ) i=.ov o->False:=fun{i o} h=>by
  unfold c9 at h;rw[kb] at h;split at h
  ·rename_i o _;unfold lQ at h;split at h
   ·cases h
   ·split at h<;>cases h
  ·cases h
 have j7:cM X.K G1 H1 (c9 m ρ) (lg m σ) G1 (upd H1 D (.lst [])):=by
  refine⟨.own x1.s hD,by simp[lg,c9],fun i d h=>?_,fun i es h=>(dX h).elim,fun i j es fs _ h=>(dX h).elim,fun _=>none,fun i es _ h=>(dX h).elim,fun i o h=>(ic h).elim⟩;unfold c9 at h;rw[kb] at h;split at h
  ·rename_i o ho;unfold lQ at h;split at h
   ·cases h
   ·rename_i j;split at h
    ·rename_i d' n4;cases h;obtain⟨v,hv,rv⟩:=E1.fz j d n4;refine⟨v,?_,rv⟩;unfold lg;rw[ao,ho];simp[hv]
    ·cases h
  ·cases h
 refine⟨fun i n cF H'=>n=ds.length-i/\i<=ds.length/\∃acc xs G',cM X.K G1 H1 (c9 m ρ) cF G' H'/\H' D=some (.lst xs)/\G' D=none/\bV X.K G' xs acc/\Iv i acc,
  ⟨ds.length,by simp,ba _,[],[],G1,j7,fk,uB,bV.nil,i0⟩,?_⟩
 rintro i n cF H' ⟨rfl,hi,acc,xs,G',E',hx,pM,rx,iv⟩;by_cases cS:i<ds.length
 ·obtain⟨w1,w2⟩:=wk;obtain⟨go,yl⟩:=w1 i ds[i] G' H' (ag cS) E'.e.g E'.e.s;refine .inr ⟨go,fun iH H2=>∃acc xs G',cM X.K G1 H1 (c9 m ρ) iH G' H2/\H2 D=some (.lst xs)/\G' D=none/\bV X.K G' xs acc/\Iv (i+1) acc,fun iH H2 h2=>⟨ds.length-(i+1),by omega,rfl,cS,h2⟩,fun v H2 hy=>?_⟩;obtain⟨G2,x2,rv⟩:=yl v H2 hy;refine q2 _ _ _ (c9 m ρ) cF G1 H1 G2 H2 ds[i] v _ _ (E'.ext x2) rv (hk _ _ _ (turn i ds[i] acc (ag cS) iv)) fun nA jz G3 H3 E3 x3 cQ=>?_
  obtain⟨cQ,yM,yR⟩:=cQ;have weak:∀j,gt (c9 m ρ) j=.un\/gt (c9 m ρ) j=gt nA j:=fun j=>by
   cases hm:m[j]? with
   | none=>left;unfold c9;rw[kb,hm]
   | some o=>
    cases o with
    | none=>left;unfold c9;rw[kb,hm];rfl
    | some c=>right;exact(yR j c hm).symm
  have ql:=x2.trans x3;refine q3 _ _ _ nA jz G1 H1 G3 H3 _ _ E3 cQ fun b H4 G4 x4 l7=>?_
  have fm:=ql.trans x4;have E4:=(E3.ext x4).weak (ρ':=c9 m ρ) (yM.symm) weak;have lZ:H4 D=some (.lst xs):=fm.h _ _ hx;have oJ:G4 D=none:=fm.n D pM (by rw[hx];exact nofun);cases b with
  | false=>
   rw[if_neg aG] at l7 ⊢;exact⟨acc,xs,G4,E4,lZ,oJ,rx.mono fm.g,l7⟩
  | true=>
   rw[if_pos rfl] at l7 ⊢;refine q4 _ _ _ nA jz G1 H1 G4 H4 _ _ (E3.ext x4) l7 fun v5 H5 r5 G5 x5 tV l6=>?_
   obtain⟨G6,x6,DZ,_⟩:=tV.freeze x5;have E6:=E4.ext x6;have yp:H5 D=some (.lst xs):=x6.h _ _ lZ;have sM:G6 D=none:=x6.n D oJ (by rw[lZ];exact nofun);have r6:bV X.K G6 xs acc:=(rx.mono fm.g).mono x6.g;refine⟨xs,yp,by rw[r6.length];exact l6.1,acc++[r5.val],xs++[v5],G6,?_,fk,sM,r6.append (bV.cons DZ bV.nil),l6.2⟩;refine⟨⟨E6.e.g,fun b o e=>by rw[cX (jf e hD)];exact E6.e.h b o e,fun b o e=>by rw[cX (jf e sM)];exact E6.e.s b o e,E6.e.n⟩,E6.len,E6.fz,fun i es h=>(dX h).elim,fun i j es fs _ h=>(dX h).elim,fun _=>none,fun i es _ h=>(dX h).elim,fun i o h=>(ic h).elim⟩
 ·have e:i=ds.length:=by omega
  subst e;refine .inl ⟨wk.2 G' H' E'.e.g E'.e.s,k _ H' (.ow acc) G' (x1.trans E'.e) ⟨D,xs,rfl,x1.h.free hD,pM,hx,rx⟩ (fin acc iv)⟩
theorem jJ(hc:X.calm=true)(cs:cC X N' m scope)(hk:mV m g)(hi:PId X tg iter wi)(hg:∀s3 H3 ex,qB (fV X N' scope s3 H3 ex) tg g)(ht:∀s3 H3 ex,rK (fV X N' scope s3 H3 ex) ifs tc)
  (he:∀s3 H3 ex,PD (fV X N' scope s3 H3 ex) elt te) (hs:∀x,foldedSetIterable iter X.env x=pure x:=by intro _;rfl):PD X (.ListComp elt [⟨tg,iter,ifs,0⟩] scope pos) (fX wi m g tc te):=by
 obtain⟨ww,p1,q1⟩:=hi;exact⟨_,OZ (g:=fun s3 H3 ex=>(hg s3 H3 ex).choose) (tc:=fun s3 H3 ex=>(ht s3 H3 ex).choose) (te:=fun s3 H3 ex=>(he s3 H3 ex).choose) hc cs p1 (fun s3 H3 ex=>(hg s3 H3 ex).choose_spec.1) (fun s3 H3 ex=>(ht s3 H3 ex).choose_spec.1) (fun s3 H3 ex=>(he s3 H3 ex).choose_spec.1) hs,
  Au cs hk q1 (fun s3 H3 ex=>(hg s3 H3 ex).choose_spec.2) (fun s3 H3 ex=>(ht s3 H3 ex).choose_spec.2) (fun s3 H3 ex=>(he s3 H3 ex).choose_spec.2)⟩
theorem N4(i:Nat){x:Str}{pos' ft:Pos}(hc:X.calm=true)(cs:cC X N' m scope)(hk:mV m g)(hi:PId X tg iter wi)(hg:∀s3 H3 ex,qB (fV X N' scope s3 H3 ex) tg g)(ht:∀s3 H3 ex,rK (fV X N' scope s3 H3 ex) ifs tc)
  (he:∀s3 H3 ex,PD (fV X N' scope s3 H3 ex) elt te) (hN:X.N.Nodup:=by assumption) (ni:X.N[i]?=some x:=by rfl) (hx:Loc X.env.scope x:=by first | exact Or.inl rfl | exact Or.inr rfl) (hs:∀x,foldedSetIterable iter X.env x=pure x:=by intro _;rfl)
  (nY:swapsWith (.ListComp elt [⟨tg,iter,ifs,0⟩] scope pos) (some (.Name x pos')) ft.line X.env=pure true:=by rfl)
  (hf:X.fn x=true\/X.env.scope.names.lookup x=some .local:=by first | exact .inl rfl | exact .inr rfl | assumption) :
  PX X (.Assign [.Name x pos'] (.ListComp elt [⟨tg,iter,ifs,0⟩] scope pos) ft) (iI i (fX wi m g tc te)):=by
 obtain⟨ww,p1,q1⟩:=hi;refine⟨_,ve (g:=fun s3 H3 ex=>(hg s3 H3 ex).choose) (tc:=fun s3 H3 ex=>(ht s3 H3 ex).choose) (te:=fun s3 H3 ex=>(he s3 H3 ex).choose) hN ni hx hc cs p1 (fun s3 H3 ex=>(hg s3 H3 ex).choose_spec.1) (fun s3 H3 ex=>(ht s3 H3 ex).choose_spec.1) (fun s3 H3 ex=>(he s3 H3 ex).choose_spec.1) hs nY hf,fun ρ σ G0 H0 G H D E k h gg=>?_⟩;exact Au cs hk q1 (fun s3 H3 ex=>(hg s3 H3 ex).choose_spec.2) (fun s3 H3 ex=>(ht s3 H3 ex).choose_spec.2) (fun s3 H3 ex=>(he s3 H3 ex).choose_spec.2) ρ σ G0 H0 G H _ _ k h fun v H' r G' x rr hq=>gg.nx _ _ G' H' x.g (k.put x rr) hq
theorem Pr(i:Nat){x:Str}{pos' ft:Pos}(hc:X.calm=true)(cs:cC X N' m scope)(hk:mV m g)(hi:PId X tg iter wi)(hg:∀s3 H3 ex,qB (fV X N' scope s3 H3 ex) tg g)(ht:∀s3 H3 ex,rK (fV X N' scope s3 H3 ex) ifs tc)
  (he:∀s3 H3 ex,PD (fV X N' scope s3 H3 ex) elt te) (hN:X.N.Nodup:=by assumption) (ni:X.N[i]?=some x:=by rfl) (hx:Loc X.env.scope x:=by first | exact Or.inl rfl | exact Or.inr rfl) (hs:∀x,foldedSetIterable iter X.env x=pure x:=by intro _;rfl)
  (nY:swapsWith (.ListComp elt [⟨tg,iter,ifs,0⟩] scope pos) (some (.Name x pos')) ft.line X.env=pure true:=by rfl)
  (hf:X.fn x=true\/X.env.scope.names.lookup x=some .local:=by first | exact .inl rfl | exact .inr rfl | assumption) :
  PX X (.Assign [.Name x pos'] (.ListComp elt [⟨tg,iter,ifs,0⟩] scope pos) ft) (dG i (fX wi m g tc te)):=by
 obtain⟨ww,p1,q1⟩:=hi;refine⟨_,ve (g:=fun s3 H3 ex=>(hg s3 H3 ex).choose) (tc:=fun s3 H3 ex=>(ht s3 H3 ex).choose) (te:=fun s3 H3 ex=>(he s3 H3 ex).choose) hN ni hx hc cs p1 (fun s3 H3 ex=>(hg s3 H3 ex).choose_spec.1) (fun s3 H3 ex=>(ht s3 H3 ex).choose_spec.1) (fun s3 H3 ex=>(he s3 H3 ex).choose_spec.1) hs nY hf,fun ρ σ G0 H0 G H D E k h gg=>?_⟩;refine Au cs hk q1 (fun s3 H3 ex=>(hg s3 H3 ex).choose_spec.2) (fun s3 H3 ex=>(ht s3 H3 ex).choose_spec.2) (fun s3 H3 ex=>(he s3 H3 ex).choose_spec.2) ρ σ G0 H0 G H _ _ k h fun v H' r G' x rr hq=>?_
 obtain⟨G2,x2,rv,_⟩:=rr.freeze x;exact gg.nx _ _ G2 H' x2.g (k.put x2 (r:=.fz r.val) rv) hq
end
noncomputable abbrev dZ:=List D->(R->Prop)->Prop
def vV(K:PySem.W.Frag)(n:Nat)(t:dZ):Sp:=fun vs H Q _=>∃G ds Qr,cm G H/\bV K G vs ds/\ds.length=n/\t ds Qr/\∀v H' r G',Ext G H G' H'->d0 K G' H' H v r->Qr r->Q v H'
noncomputable def fR(N:List Str)(ds:List D):Ev:=ds.map Sl.fz++List.replicate (N.length-ds.length) .un
theorem SK{ds:List D}{l:List Sl}{i:Nat}{s:Sl}(h:gt (ds.map Sl.fz++l) i=s):(∃d,ds[i]?=some d/\s=.fz d)\/(ds.length<=i/\gt l (i-ds.length)=s):=by
 induction ds generalizing i with
 | nil=>exact .inr ⟨ba _,by simpa using h⟩
 | cons d ds ih=>
  cases i with
  | zero=>simp only[au,List.cons_append,gt] at h;exact .inl ⟨d,rfl,h.symm⟩
  | succ i=>
   simp only[au,List.cons_append,gt] at h;rcases ih h with⟨e,h1,h2⟩ | ⟨h1,h2⟩
   ·exact .inl ⟨e,by simpa using h1,h2⟩
   ·refine .inr ⟨by simp;omega,?_⟩;rw[aN];rw[show i+1-(ds.length+1)=i-ds.length by omega];exact h2
theorem RY{n i:Nat}:gt (List.replicate n Sl.un) i=.un:=by
 induction n generalizing i with
 | zero=>simp[gt]
 | succ n ih=>
  cases i with
  | zero=>rfl
  | succ i=>exact ih
theorem Pq{K:PySem.W.Frag}{G H:Hp}{N:List Str}{vs:List V}{ds:List D}(s:cm G H)(r:bV K G vs ds):cM K G H (fR N ds) (j7 N vs) G H:=by
 have hl:=r.length;have c:∀{i:Nat} {t:Sl},gt (fR N ds) i=t->t≠.un->∃d,ds[i]?=some d/\t=.fz d:=fun{i t} h n=>by
  rcases SK h with h | ⟨_,h⟩
  ·exact h
  ·rw[RY] at h;exact absurd h.symm n
 refine⟨.refl s,by simp[j7,fR,hl],fun i d h=>?_,fun i es h=>?_,fun i j es fs _ h=>?_,fun _=>none,fun i es _ h=>?_,fun i o h=>?_⟩
 ·obtain⟨d',h1,h2⟩:=c h (by simp);cases h2;obtain⟨v,hv,rv⟩:=r.get h1;have hi:i<vs.length:=(aj.mp hv).1;refine⟨v,?_,rv⟩;unfold j7;rw[List.getElem?_append_left (by simpa using hi),ao,hv];rfl
 ·obtain⟨d',h1,h2⟩:=c h (by simp);cases h2
 ·obtain⟨d',h1,h2⟩:=c h (by simp);cases h2
 ·obtain⟨d',h1,h2⟩:=c h (by simp);cases h2
 ·obtain⟨d',h1,h2⟩:=c h (by simp);cases h2
section
variable {P:Program} {w:World} {K:PySem.W.Frag} {mg:Str->Option Value} {base:Heap}
theorem HQ{x qual:Str}{st:Stmt}{f:Addr}{fd:FuncData}{N ps:List Str}{k:Nat}{t:dZ}{T:TX}{dV:Value}(F:n8 dV K x qual st f fd)(S:ck N ps (bZ st))
  (body:∀(cT:Value) (A:Around) (outer:List Env) (s:Shared) (H:Hp) (E:XK),eQ k (A.deeper (envOfC qual (bZ st) s.heap.objs.size f cT))->lC (qc oe P w K mg base N qual (bZ st) f cT A outer s H E).sy (dy st) T)
  (spec:∀(ds:List D) (Qr:R->Prop),ds.length=ps.length->t ds Qr->T { nx:=fun _=>Qr (.fz .non),rt:=Qr } (fR N ds)):ju P w K mg base oe (k+1) f fd ps (vV K ps.length t):=by
 refine F.ok S (fun vs H Q E h=>?_) (fun cT A outer s H vs Q E hr h=>?_)
 ·obtain⟨G,ds,Qr,_,r,hl,_⟩:=h;rw[r.length,hl]
 ·obtain⟨G,ds,Qr,s0,r,hl,ht,k0⟩:=h;obtain⟨tt,p,q⟩:=body cT A outer s H E hr;exact⟨tt,p,q _ _ G H G H _ _ (Pq s0 r) (spec ds Qr hl ht) ⟨fun ρ σ G' H' _ e h=>k0 _ H' _ G' e.e (fj (HV _ _)) h,k0,fun _ _ _ _ _ _ h=>h.elim,fun _ _ _ _ _ _ h=>h.elim⟩⟩
end
section
variable {X:Cx} {k n:Nat} {f:Addr} {fd:FuncData} {ps:List Str} {t:dZ} {x:Str} {p pos:Pos} {e:Expr} {es:List Expr} {ts:jG}
def eD(n:Nat)(t:dZ)(ts:jG):TD:=fun ρ Q=>ts ρ fun ds=>ds.length=n/\t ds Q
theorem N3(F:ju X.prog X.w X.K X.mg X.base oe k f fd ps (vV X.K n t))(hr:eQ k X.A)(hm:X.mg x=some (.ref f))(hk:PySem.W.keepIn X.K (.ref f)=true)(hb:Binds X.K fd ps [])(ha:nz X (e::es) ts)(hg:Gl X x:=by rfl)(nZ:(x==("__debug__":Str))=false:=by decide)
  (he:starEach (e::es) X.env=(false,eval e X.env)::starEach es X.env:=by rfl) (jc:(backTo pos (starEach es X.env)).any (·.1)=false:=by rfl):PD X (.Call (.Name x p) (e::es) [] pos) (eD n t ts):=by
 obtain⟨tt,pp,q⟩:=ha;refine⟨_,OK F hr hg hm hk hb .nil L0 pp nZ he jc,fun ρ σ G0 H0 G H Q P E h k=>q ρ σ G0 H0 G H _ _ E h fun vs H' ds G' x rs hq=>?_⟩;rw[List.append_nil];exact⟨G',ds,Q,x.s,rs,hq.1,hq.2,fun v H2 r G2 x2 rr q2=>k v H2 r G2 (x.trans x2) (rr.jl x.h) q2⟩
end
end L2
namespace L2
open PySem PySem.Spec PyProof.Rows PySem.StrLaws
noncomputable def iX{α:Type}(xs:List α)(lo hi:Option Int):List α:=(xs.drop (HT.dq xs.length 0 lo)).take (HT.dq xs.length xs.length hi-HT.dq xs.length 0 lo)
noncomputable def oR(z:Str)(lo hi:Option Int):Str:=⟨(iX z.cps.toList lo hi).toArray⟩
theorem rS(v:Int)(n d:Nat):max 0 (min (if v<0 then v+(n:Int) else v) (n:Int))=((HT.dq n d (some v):Nat):Int):=by
 rw[<-HT.kn];by_cases h:v<0
 ·rw[if_pos h,if_pos h];omega
 ·rw[if_neg h,if_neg h];omega
theorem JC(z:Str)(lo hi:Option Int):(Builtin.Str.strSliceIndices lo hi 1 z.length).filterMap (z.cps[·]?)=iX z.cps.toList lo hi:=by
 have hl:z.cps.toList.length=z.length:=by simp[Str.length]
 have e:Builtin.Str.strSliceIndices lo hi 1 z.length=sliceRange ((HT.dq z.length 0 lo:Nat):Int) ((HT.dq z.length z.length hi:Nat):Int) 1:=by
  unfold Builtin.Str.strSliceIndices;cases lo with
  | none=>
   cases hi with
   | none=>rfl
   | some v=>simp only[show((1:Int)>0) from by decide,bO,rS v z.length z.length];rfl
  | some u=>
   cases hi with
   | none=>simp only[show((1:Int)>0) from by decide,bO,rS u z.length 0];rfl
   | some v=>simp only[show((1:Int)>0) from by decide,bO,rS v z.length z.length,rS u z.length 0]
 rw[e];unfold iX;rw[hl];generalize ha:HT.dq z.length 0 lo=a;generalize hb:HT.dq z.length z.length hi=b;have KY:b<=z.length:=by rw[<-hb];exact HT.iz _ _ (az _) _
 have y9:a<=z.length:=by rw[<-ha];exact HT.iz _ _ (ba _) _
 by_cases iV:a<=b
 ·have:=sliced_plain z iV KY;rw[strSliceIndices_plain iV KY] at this;rw[<-this];unfold sliceRange;simp only[show((1:Int)>0) from by decide,bO];congr 1
  by_cases h:a<b
  ·rw[if_pos (by omega)];rw[show(((b:Int)-(a:Int)+1-1)/1).toNat=b-a by omega];apply List.map_congr_left;intro k _;show((a:Int)+1*(k:Int)).toNat=a+k;omega
  ·rw[if_neg (by omega),show b-a=0 by omega];rfl
 ·rw[show b-a=0 by omega,List.take_zero];unfold sliceRange;simp only[show((1:Int)>0) from by decide,bO];rw[if_neg (by omega)];rfl
theorem Q0(z:Str)(lo hi:Option Int):Txt.slice z lo hi=oR z lo hi:=by
 unfold Txt.slice oR;split
 ·rename_i h;have h':(Builtin.Str.strSliceIndices lo hi 1 z.length).length=z.length:=by simpa using h
  have hl:z.cps.toList.length=z.length:=by simp[Str.length]
  have e:=JC z lo hi;have h2:(iX z.cps.toList lo hi).length=z.length:=by
   unfold iX;rw[aV,List.length_drop,hl];have e1:Builtin.Str.strSliceIndices lo hi 1 z.length=sliceRange ((HT.dq z.length 0 lo:Nat):Int) ((HT.dq z.length z.length hi:Nat):Int) 1:=by
    unfold Builtin.Str.strSliceIndices;cases lo with
    | none=>
     cases hi with
     | none=>rfl
     | some v=>simp only[show((1:Int)>0) from by decide,bO,rS v z.length z.length];rfl
    | some u=>
     cases hi with
     | none=>simp only[show((1:Int)>0) from by decide,bO,rS u z.length 0];rfl
     | some v=>simp only[show((1:Int)>0) from by decide,bO,rS v z.length z.length,rS u z.length 0]
   rw[e1] at h';unfold sliceRange at h';simp only[show((1:Int)>0) from by decide,bO,af,bP] at h';have b1:=HT.iz z.length z.length (az _) hi;have b2:=HT.iz z.length 0 (ba _) lo;by_cases h3:((HT.dq z.length 0 lo:Nat):Int)<((HT.dq z.length z.length hi:Nat):Int)
   ·rw[if_pos h3] at h';omega
   ·rw[if_neg h3] at h';simp at h';omega
  apply Str.ext';show z.cps=(iX z.cps.toList lo hi).toArray;have h3:iX z.cps.toList lo hi=z.cps.toList:=by
   unfold iX at h2 ⊢;rw[aV,List.length_drop,hl] at h2;rw[hl];have b1:=HT.iz z.length z.length (az _) hi;have a0:HT.dq z.length 0 lo=0\/z.length=0:=by omega
   rcases a0 with a0 | a0
   ·rw[a0,List.drop_zero,Nat.sub_zero];exact bD (by omega)
   ·have:z.cps.toList=[]:=List.eq_nil_of_length_eq_zero (by omega);rw[this];simp
  rw[h3]
 ·rw[JC]
section
variable {X:Cx} {pos:Pos} {e:Expr} {te:TD}
theorem tT:sU X (fun x lo hi H Q=>∃z,x=.str z/\z.length<=sizeLine/\Q (.str (oR z lo hi)) H):=by
 intro pins s σ H x v vl vu lo hi sl Q I rx hs pl pu h;obtain⟨z,rfl,hz,q⟩:=h;obtain⟨t,rfl⟩:=rx;refine⟨"str",_,F.slot_str_getitem.lookup,typeIs_str _ _ _,?_⟩;have part:∀{u:Value} {o:Option Int},IsPart u o->∃p:Option (Int×Tok),u=partValue p/\p.map (·.1)=o:=fun h=>by
  cases h with
  | none=>exact⟨none,rfl,rfl⟩
  | int i t=>exact⟨some (i,t),rfl,rfl⟩
 obtain⟨p1,rfl,e1⟩:=part pl;obtain⟨p2,rfl,e2⟩:=part pu;obtain⟨o,ho,hc,hd⟩:=hs;refine wpAny_getItem_str_slice (l:=p1) (u:=p2) (st:=none) ⟨o,ho,hc,hd⟩ rfl ?_;have fin:∀t' k,EP X pins σ Q (.str (Txt.slice z lo hi) t') { s with toks:=k }:=fun t' k=>⟨.str (oR z lo hi),H,I.tok k,⟨t',by rw[Q0]⟩,q⟩
 have hle:=Nat.le_trans (Txt.slice_le z lo hi) hz;subst e1 e2;exact post_val_or_str ⟨hle,fin⟩
noncomputable abbrev zx:=Ev->(Option Int->Prop)->Prop
def Bp(X:Cx)(e:Option Expr)(t:zx):Prop:=∃tt,PO X e tt/\∀(ρ:Ev) (σ:St) (G0 H0 G H:Hp) (Q:Option Int->Prop) (P:Option Int->Hp->Prop),cM X.K G0 H0 ρ σ G H->t ρ Q->(∀o H' G',Ext G H G' H'->Q o->P o H')->tt σ H P
def qo:zx:=fun _ Q=>Q none
def lU(te:TD):zx:=fun ρ Q=>te ρ fun r=>match r.val with
 | .int i=>Q (some i)
 | _=>False
theorem rZ:Bp X none qo:=⟨_,O6,fun ρ σ G0 H0 G H Q P E h k=>k none H G (.refl E.e.s) h⟩
theorem mW(h:PD X e te):Bp X (some e) (lU te):=by
 obtain⟨t,p,q⟩:=h;refine⟨_,O5 p,fun ρ σ G0 H0 G H Q P E h k=>q ρ σ G0 H0 G H _ _ E h fun v H' r G' x rr hq=>?_⟩;obtain⟨G2,x2,rv,_⟩:=rr.freeze x;split at hq
 ·rename_i i e1;rw[e1] at rv;simp only[Rep] at rv;exact⟨i,rv,k _ H' G2 x2 hq⟩
 ·exact hq.elim
def n5(te:TD)(tl th:zx):TD:=fun ρ Q=>te ρ fun r=>tl ρ fun lo=>th ρ fun hi=>match r.val with
 | .lst ds=>Q (.ow (iX ds lo hi))
 | .str z=>z.length<=sizeLine/\Q (.fz (.str (oR z lo hi)))
 | .tup ds=>¬(HT.dq ds.length 0 lo=0/\HT.dq ds.length ds.length hi=ds.length)/\Q (.fz (.tup (iX ds lo hi)))
 | _=>False
theorem HB{K:PySem.W.Frag}{G:Hp}{xs:List V}{ds:List D}(r:bV K G xs ds)(lo hi:Option Int):bV K G (pZ xs lo hi) (iX ds lo hi):=by
 unfold pZ iX;rw[r.length];exact(r.drop _).take _
theorem oY{lo hi:Option Expr}{tl th:zx}{p2:Pos}(he:PD X e te)(hl:Bp X lo tl)(hh:Bp X hi th):PD X (.Subscript e (.Slice lo hi none p2) pos) (n5 te tl th):=by
 obtain⟨t1,p1,q1⟩:=he;obtain⟨t2,p2,q2⟩:=hl;obtain⟨t3,p3,q3⟩:=hh;refine⟨_,Qy (qV.or (tT.or Nu)) p1 p2 p3,fun ρ σ G0 H0 G H Q P E h k=>q1 ρ σ G0 H0 G H _ _ E h fun v H' r G' x rr hq=>?_⟩;obtain⟨G1,x1,rv,_⟩:=rr.freeze x;refine q2 ρ σ G0 H0 G1 H' _ _ (E.ext x1) hq fun lo H2 G2 x2 f6=>?_
 refine q3 ρ σ G0 H0 G2 H2 _ _ ((E.ext x1).ext x2) f6 fun hi H3 G3 x3 cQ=>?_
 have lX:=(x1.trans x2).trans x3;have k5:=(rv.mono x2.g).mono x3.g;split at cQ
 ·rename_i ds e1;rw[e1] at k5;simp only[Rep] at k5;obtain⟨a,xs,rfl,h1,h2⟩:=k5;refine .inl ⟨a,xs,rfl,(lX.s.fb h1).sq,fun p hp=>?_⟩;exact k _ _ (.ow _) G3 (lX.trans (.own lX.s hp)) ⟨p,_,rfl,lX.h.free hp,lX.s.free hp,fk,HB h2 lo hi⟩ cQ
 ·rename_i z e1;rw[e1] at k5;simp only[Rep] at k5;exact .inr (.inl ⟨z,k5,cQ.1,k _ _ _ G3 lX (fj (wO _ _ _)) cQ.2⟩)
 ·rename_i ds e1;rw[e1] at k5;simp only[Rep] at k5;obtain⟨a,xs,rfl,h1,h2⟩:=k5;refine .inr (.inr ⟨a,xs,rfl,lX.s.gP h1,by rw[h2.length];exact cQ.1,fun p hp=>?_⟩);have x4:Ext G3 H3 (upd G3 p (.tup (pZ xs lo hi))) (upd H3 p (.tup (pZ xs lo hi))):=.new lX.s hp;refine k _ _ (.fz _) _ (lX.trans x4) ?_ cQ.2;show Rep X.K _ _ (.tup _);simp only[Rep];exact⟨p,_,rfl,fQ.of fk,(HB h2 lo hi).mono x4.g⟩
 ·exact cQ.elim
def qF:dZ:=fun ds Q=>match ds with
 | [.lst es]=>Q (.fz (.int es.length))
 | [.tup es]=>Q (.fz (.int es.length))
 | [.str z]=>z.length<=sizeLine/\Q (.fz (.int z.length))
 | _=>False
theorem uY:mi X (.builtin "len") qF:=by
 refine⟨_,il.or Tu,fun G H vs ds Q P s rs h k=>?_⟩;unfold qF at h;split at h
 ·obtain⟨v,rfl,rv⟩:=kG rs;simp only[Rep] at rv;obtain⟨a,xs,rfl,h1,h2⟩:=rv;refine .inl ⟨a,xs,rfl,.inl ((s.fb h1).sq),?_⟩;rw[h2.length];exact k _ _ _ G (.refl s) (fj (iJ _ _ _)) h
 ·obtain⟨v,rfl,rv⟩:=kG rs;simp only[Rep] at rv;obtain⟨a,xs,rfl,h1,h2⟩:=rv;refine .inl ⟨a,xs,rfl,.inr (s.gP h1),?_⟩;rw[h2.length];exact k _ _ _ G (.refl s) (fj (iJ _ _ _)) h
 ·obtain⟨v,rfl,rv⟩:=kG rs;simp only[Rep] at rv;subst rv;exact .inr ⟨_,rfl,h.1,k _ _ _ G (.refl s) (fj (iJ _ _ _)) h.2⟩
 ·exact h.elim
def we(i:Nat):TD:=fun ρ Q=>match gt ρ i with
 | .ow ds=>Q (.fz (.int ds.length))
 | _=>False
theorem HA(i:Nat){x:Str}{p p':Pos}(hm:X.mg "len"=none)(hN:X.N[i]?=some x:=by rfl)(hv:js X.env.scope x:=by first | exact Or.inl rfl | exact Or.inr (Or.inl rfl) | exact Or.inr (Or.inr rfl))(hg:Gl X "len":=by rfl)(hd:(x==("__debug__":Str))=false:=by decide)
  (fi:(x==("__classdict__":Str))=false:=by decide) (gv:starEach [Expr.Name x p'] X.env=(false,eval (.Name x p') X.env)::starEach [] X.env:=by rfl):PD X (.Call (.Name "len" p) [.Name x p'] [] pos) (we i):=by
 refine⟨_,CQ il hg hm boot_len (mX (jL hN hv hd fi) oB gv),fun ρ σ G0 H0 G H Q P E h k=>?_⟩;unfold we at h;split at h
 ·rename_i ds hg;obtain⟨a,xs,h1,h2,h3,h4,h5⟩:=E.ow i ds hg;refine⟨_,h1,a,xs,rfl,.inl (dY.of h2),?_⟩;rw[h5.length];exact k _ _ _ G (.refl E.e.s) (fj (iJ _ _ _)) h
 ·exact h.elim
noncomputable def lT:List D->Option (List Bool)
 | []=>some []
 | .bl b::r=>(lT r).map (b::·)
 | _=>none
theorem zev:∀{ds:List D} {bs:List Bool},lT ds=some bs->ds=bs.map D.bl
 | [],bs,h=>by simp[lT] at h;subst h;rfl
 | .bl b::r,bs,h=>by
  simp only[lT,bx] at h;obtain⟨zo,h1,rfl⟩:=h;rw[zev h1];rfl
 | .non::r,bs,h=>by simp[lT] at h
 | .int _::r,bs,h=>by simp[lT] at h
 | .str _::r,bs,h=>by simp[lT] at h
 | .tup _::r,bs,h=>by simp[lT] at h
 | .lst _::r,bs,h=>by simp[lT] at h
 | .obj _ _::r,bs,h=>by simp[lT] at h
 | .dic _::r,bs,h=>by simp[lT] at h
 | .dit _::r,bs,h=>by simp[lT] at h
theorem Jb(bs:List Bool):lT (bs.map D.bl)=some bs:=by
 induction bs with
 | nil=>rfl
 | cons b r ih=>simp[lT,ih]
theorem Cb{K:PySem.W.Frag}{G:Hp}:∀{bs:List Bool} {vs:List V},bV K G vs (bs.map D.bl)->vs=bs.map V.bl
 | [],[],_=>rfl
 | b::bs,v::vs,h=>by
  simp only[au,bV,Rep] at h;rw[h.1,Cb h.2];rfl
 | [],_::_,h=>by simp only[List.map_nil,bV] at h
 | _::_,[],h=>by simp only[au,bV] at h
theorem Il{bs:List Bool}{us:List Value}(h:Vals (bs.map V.bl) us){i:Nat}{v:Value}(hv:us[i]?=some v):∃b,bs[i]?=some b/\v=.bool b:=by
 have hl:=h.length;have hi:i<us.length:=(aj.mp hv).1;have rC:i<bs.length:=by rw[af] at hl;omega
 obtain⟨u,hu,ru⟩:=h.get (i:=i) (x:=V.bl bs[i]) (by simp[rC]);rw[hv] at hu;cases hu;exact⟨bs[i],by simp[rC],ru⟩
theorem Hz{s:Shared}{h':Heap}{o:Obj}(hk:∀b x,b∉[s.heap.objs.size]->(s.heap.push o).get? b=some x->h'.get? b=some x):∀b x,s.heap.get? b=some x->h'.get? b=some x:=
 fun b x e=>hk b x (fun hm=>by rw[aR.mp hm] at e;exact Nat.lt_irrefl _ (ax e)) (ae _ e)
theorem N2(bs:List Bool):((List.range bs.length).all fun i=>(bs[i]?).getD true)=bs.all id:=by
 rw[Bool.eq_iff_iff];simp only[List.all_eq_true,aP,id];constructor
 ·intro h b hb;obtain⟨i,hi,rfl⟩:=List.mem_iff_getElem.mp hb;simpa[hi] using h i hi
 ·intro h i hi;simpa[hi] using h _ (bI hi)
theorem N1(bs:List Bool):((List.range bs.length).any fun i=>(bs[i]?).getD false)=bs.any id:=by
 rw[Bool.eq_iff_iff];simp only[List.any_eq_true,aP,id];constructor
 ·rintro⟨i,hi,h⟩;exact⟨bs[i],bI hi,by simpa[hi] using h⟩
 ·rintro⟨b,hb,h⟩;obtain⟨i,hi,rfl⟩:=List.mem_iff_getElem.mp hb;exact⟨i,hi,by simpa[hi] using h⟩
theorem QZ(hc:X.calm=true):c8 X (.builtin "all") (fun xs H Q=>∃(p:Addr) (bs:List Bool),xs=[.ref p]/\dY X.K H p (bs.map V.bl)/\Q (.bl (bs.all id)) H):=by
 intro pins s σ H xs us Q I r h;obtain⟨p,bs,rfl,hq,q⟩:=h;obtain⟨u,rfl,ru⟩:=j8 r;cases ru;obtain⟨its,rv,pl,hz⟩:=I.list hq;have cS:p<s.heap.objs.size:=by obtain⟨_,_,e,_⟩:=pl;exact ax e
 have hl:its.length=bs.length:=by rw[<-rv.length,af]
 refine call_all_walk (wpAny_pyIter_list pl.isList ?_);refine⟨s.heap.objs.size,[s.heap.objs.size,p],[s.heap.objs.size],its.toArray.size,_,_,fun i=>(bs[i]?).getD true,rfl,Walks.list (A:=X.A.in1) (I.ok.hd hc) _ p (aA cS) its.toArray,
  ⟨⟨_,av _ rfl,rfl,rfl⟩,pl.isList.push _⟩,fun i v s' Q' E' hP hQ=>?_,fun h' tk hk=>?_⟩
 ·obtain⟨b,e,rfl⟩:=Il rv (i:=i) (v:=v) (by simpa using hP);simp only[e,Option.getD_some] at hQ;exact wpAny_truthy_bool hQ
 ·rw[aC,hl,N2];exact⟨.bl _,H,I.kept (Hz hk),rfl,q⟩
theorem QY(hc:X.calm=true):c8 X (.builtin "any") (fun xs H Q=>∃(p:Addr) (bs:List Bool),xs=[.ref p]/\dY X.K H p (bs.map V.bl)/\Q (.bl (bs.any id)) H):=by
 intro pins s σ H xs us Q I r h;obtain⟨p,bs,rfl,hq,q⟩:=h;obtain⟨u,rfl,ru⟩:=j8 r;cases ru;obtain⟨its,rv,pl,hz⟩:=I.list hq;have cS:p<s.heap.objs.size:=by obtain⟨_,_,e,_⟩:=pl;exact ax e
 have hl:its.length=bs.length:=by rw[<-rv.length,af]
 refine call_any_walk (wpAny_pyIter_list pl.isList ?_);refine⟨s.heap.objs.size,[s.heap.objs.size,p],[s.heap.objs.size],its.toArray.size,_,_,fun i=>(bs[i]?).getD false,rfl,Walks.list (A:=X.A.in1) (I.ok.hd hc) _ p (aA cS) its.toArray,
  ⟨⟨_,av _ rfl,rfl,rfl⟩,pl.isList.push _⟩,fun i v s' Q' E' hP hQ=>?_,fun h' tk hk=>?_⟩
 ·obtain⟨b,e,rfl⟩:=Il rv (i:=i) (v:=v) (by simpa using hP);simp only[e,Option.getD_some] at hQ;exact wpAny_truthy_bool hQ
 ·rw[aC,hl,N1];exact⟨.bl _,H,I.kept (Hz hk),rfl,q⟩
def zL:dZ:=fun ds Q=>match ds with
 | [.lst es]=>match lT es with
  | some bs=>Q (.fz (.bl (bs.all id)))
  | none=>False
 | _=>False
def zK:dZ:=fun ds Q=>match ds with
 | [.lst es]=>match lT es with
  | some bs=>Q (.fz (.bl (bs.any id)))
  | none=>False
 | _=>False
theorem LW(hc:X.calm=true):mi X (.builtin "all") zL:=by
 refine⟨_,QZ hc,fun G H vs ds Q P s rs h k=>?_⟩;unfold zL at h;split at h
 ·split at h
  ·rename_i es bs hb;obtain⟨v,rfl,rv⟩:=kG rs;simp only[Rep] at rv;obtain⟨a,xs,rfl,h1,h2⟩:=rv;rw[zev hb] at h2;rw[Cb h2] at h1;exact⟨a,bs,rfl,(s.fb h1).sq,k _ _ _ G (.refl s) (fj (kI _ _ _)) h⟩
  ·exact h.elim
 ·exact h.elim
theorem LV(hc:X.calm=true):mi X (.builtin "any") zK:=by
 refine⟨_,QY hc,fun G H vs ds Q P s rs h k=>?_⟩;unfold zK at h;split at h
 ·split at h
  ·rename_i es bs hb;obtain⟨v,rfl,rv⟩:=kG rs;simp only[Rep] at rv;obtain⟨a,xs,rfl,h1,h2⟩:=rv;rw[zev hb] at h2;rw[Cb h2] at h1;exact⟨a,bs,rfl,(s.fb h1).sq,k _ _ _ G (.refl s) (fj (kI _ _ _)) h⟩
  ·exact h.elim
 ·exact h.elim
end
end L2
namespace L2
open PySem PySem.Spec PyProof.Rows
section
variable {X:Cx} {pos:Pos} {e:Expr} {te:TD}
noncomputable def xM:D->String
 | .non=>"NoneType"
 | .bl _=>"bool"
 | .int _=>"int"
 | .str _=>"str"
 | .tup _=>"tuple"
 | .lst _=>"list"
 | .obj _ _=>"object"
 | .dic _=>"dict"
 | .dit _=>"dict"
noncomputable def rO(t T:String):Bool:=(t==T)||(t=="bool"&&T=="int")
theorem u7{K:PySem.W.Frag}{t T:String}(ht:t∈["NoneType","bool","int","str","tuple","list"])(hT:T∈["bool","int","str","tuple","list"]):PySem.W.kitOne K (.type t) (.type T)=some (rO t T):=by
 simp only[aq,br,or_false] at ht hT;rcases ht with rfl | rfl | rfl | rfl | rfl | rfl<;>rcases hT with rfl | rfl | rfl | rfl | rfl<;>(first | rfl | decide | (unfold PySem.W.kitOne PySem.W.kitCls;decide +kernel))
noncomputable def BG:D->Bool
 | .obj _ _=>false
 | .dic _=>false
 | .dit _=>false
 | _=>true
theorem Pp{T:String}(hT:T∈["bool","int","str","tuple","list"]):c8 X (.builtin "isinstance") (fun xs H Q=>∃x d,xs=[x,.ty T]/\Rep X.K H x d/\BG d=true/\Q (.bl (rO (xM d) T)) H):=by
 intro pins s σ H xs us Q I r h;obtain⟨x,d,rfl,rd,ho,q⟩:=h;obtain⟨u,c,rfl,ru,rc⟩:=wy r;cases (show c=Value.type T from rc);have fin:∀tk,EP X pins σ Q (.bool (rO (xM d) T)) { s with toks:=tk }:=fun tk=>⟨.bl _,H,I.tok tk,rfl,q⟩
 cases d with
 | non=>simp only[Rep] at rd;subst rd;cases (show u=Value.none from ru);exact PySem.W.kia_one PySem.W.kitx_none I.nT True.intro (u7 (by simp) hT) (fun z=>nomatch z) fin
 | bl y=>simp only[Rep] at rd;subst rd;cases (show u=Value.bool y from ru);exact PySem.W.kia_one PySem.W.kitx_bool I.nT True.intro (u7 (by simp) hT) (fun z=>nomatch z) fin
 | int i=>simp only[Rep] at rd;subst rd;obtain⟨t,q'⟩:=(show ∃t,u=Value.int i t from ru);cases q';exact PySem.W.kia_one PySem.W.kitx_int I.nT True.intro (u7 (by simp) hT) (fun z=>nomatch z) fin
 | str y=>simp only[Rep] at rd;subst rd;obtain⟨t,q'⟩:=(show ∃t,u=Value.str y t from ru);cases q';exact PySem.W.kia_one PySem.W.kitx_str I.nT True.intro (u7 (by simp) hT) (fun z=>nomatch z) fin
 | tup ds=>
  simp only[Rep] at rd;obtain⟨a,xs,rfl,hq,_⟩:=rd;cases (show u=Value.ref a from ru);obtain⟨its,_,ht,_⟩:=I.tuple hq;obtain⟨o,h1,h2,_⟩:=ht;exact PySem.W.kia_one PySem.W.kitx_tuple I.nT ⟨o,h1,h2⟩ (u7 (by simp) hT) (fun z=>nomatch z) fin
 | lst ds=>
  simp only[Rep] at rd;obtain⟨a,xs,rfl,hq,_⟩:=rd;cases (show u=Value.ref a from ru);obtain⟨its,_,ht,_⟩:=I.list hq.sq;obtain⟨o,n,h1,h2,_⟩:=ht;exact PySem.W.kia_one PySem.W.kitx_list I.nT ⟨o,h1,h2⟩ (u7 (by simp) hT) (fun z=>nomatch z) fin
 | obj=>cases ho
 | dic=>cases ho
 | dit=>cases ho
def zJ(T:String)(te:TD):TD:=fun ρ Q=>te ρ fun r=>BG r.val=true/\Q (.fz (.bl (rO (xM r.val) T)))
theorem GI{T:String}{TN:Str}{p p':Pos}(he:PD X e te)(hm:X.mg "isinstance"=none)(ng:X.mg TN=none)(hv:bootBuiltins TN=some (.type T))(hT:T∈["bool","int","str","tuple","list"]:=by decide)(hg:Gl X "isinstance":=by rfl)(rD:Gl X TN:=by rfl)(hn:TN≠"__name__":=by decide)
  (hd:(TN==("__debug__":Str))=false:=by decide) (gv:starEach [e,Expr.Name TN p'] X.env=(false,eval e X.env)::starEach [Expr.Name TN p'] X.env:=by rfl) (pE:starEach [Expr.Name TN p'] X.env=(false,eval (.Name TN p') X.env)::starEach [] X.env:=by rfl)
  (jc:(backTo pos (starEach [Expr.Name TN p'] X.env)).any (·.1)=false:=by rfl):PD X (.Call (.Name "isinstance" p) [e,.Name TN p'] [] pos) (zJ T te):=by
 obtain⟨t,pp,q⟩:=he;refine⟨_,CQ (Pp hT) hg hm boot_isinstance (mX pp (mX (OS (v:=.ty T) rD ng hv rfl hn hd) oB pE) gv) (by decide) (by decide) gv jc,fun ρ σ G0 H0 G H Q P E h k=>q ρ σ G0 H0 G H _ _ E h fun v H' r G' x rr hq=>?_⟩;obtain⟨G2,x2,rv,_⟩:=rr.freeze x;exact⟨v,r.val,rfl,rv.mono x2.s,hq.1,k _ _ _ G2 x2 (fj (kI _ _ _)) hq.2⟩
end
end L2
namespace L2
open PySem PySem.Spec PyProof.Rows
section
variable {P:Program} {w:World} {K:PySem.W.Frag} {mg:Str->Option Value} {base:Heap}
structure Known (P:Program) (w:World) (K:PySem.W.Frag) (mg:Str->Option Value) (base:Heap) (k:Nat) (x:Str) (n:Nat) (t:dZ):Prop where
 ex:∃(f:Addr) (fd:FuncData) (ps:List Str),ju P w K mg base oe k f fd ps (vV K n t)/\mg x=some (.ref f)/\PySem.W.keepIn K (.ref f)=true/\Binds K fd ps []
structure At (K:PySem.W.Frag) (mg:Str->Option Value) (x:Str) (st:Stmt):Prop where
 ex:∃(f:Addr) (fd:FuncData),Lm K x x st f fd/\mg x=some (.ref f)
theorem zr{h:Heap}{x:Str}{st:Stmt}{f:Addr}{oc:Value}{od an:Option Addr}{ph:Array (Option Value)}{kV doc pm cT ct:Value}(X:K.In h)(G:h.Ns mainGlobals mg)(a:PySem.W.nsIn K mainGlobals x=some (some (.ref f)))
  (l:K.lookup f=some ⟨oc,od,.func (PySem.W.fnOf x x (fE st) (dy st) (bZ st) .none kV doc pm an cT ct),ph⟩) (c:PySem.W.codeIn K cT x=true) (k:PySem.W.keepIn K (.ref f)=true):At K mg x st:=
 ⟨f,_,Nn l c k,PySem.W.mg_of X G a⟩
end
section
variable {X:Cx} {k k' n:Nat} {t:dZ} {x:Str} {p pos:Pos} {e:Expr} {es:List Expr} {ts:jG}
theorem eS(C:Known X.prog X.w X.K X.mg X.base k x n t)(hr:eQ k' X.A)(ha:nz X (e::es) ts)(hk:k<=k':=by decide)(hg:Gl X x:=by rfl)(nZ:(x==("__debug__":Str))=false:=by decide)
  (he:starEach (e::es) X.env=(false,eval e X.env)::starEach es X.env:=by rfl) (jc:(backTo pos (starEach es X.env)).any (·.1)=false:=by rfl):PD X (.Call (.Name x p) (e::es) [] pos) (eD n t ts):=by
 obtain⟨f,fd,ps,F,hm,kp,hb⟩:=C.ex;exact N3 F (hr.mono hk) hm kp hb ha hg nZ he jc
end
noncomputable def Hy(kindOf:Str->Option NameKind)(N N':List Str)(m:List (Option Nat))(scope:Scope):Bool:=
 (scope.kind==.function)&&(m.length==N'.length)&&(scope.names.all fun y=>y.2 != .cell)&&(scope.names.all fun y=>y.2 != .local||scope.names.lookup y.1==some .local) &&
 (scope.names.all fun y=>y.2 != .free||kindOf y.1==some .cell||kindOf y.1==some .free) &&
 ((m.zip N').all fun p=>match p.1 with
   | none=>true
   | some j=>N[j]?==some p.2&&scope.names.lookup p.2==some .free)
theorem cC.of{X:Cx}{N':List Str}{m:List (Option Nat)}{scope:Scope}(h:Hy X.env.kindOf X.N N' m scope=true):cC X N' m scope:=by
 unfold Hy at h;simp only[bF,beq_iff_eq,List.all_eq_true,Bool.or_eq_true,bne_iff_ne,ne_eq] at h;obtain⟨⟨⟨⟨⟨h1,h2⟩,h3⟩,h4⟩,h5⟩,h6⟩:=h;refine⟨h1,h2,fun y hy=>h3 y hy,fun y hy e=>(h4 y hy).resolve_left fun z=>z e,fun y hy e=>?_,fun i j x hm hN=>?_⟩
 ·rcases h5 y hy with(z | z) | z
  ·exact absurd e z
  ·exact .inl z
  ·exact .inr z
 ·have hz:(some j,x)∈m.zip N':=by
   apply ay (i:=i);rw[List.getElem?_zip_eq_some];exact⟨hm,hN⟩
  have:=h6 _ hz;simpa using this
theorem Se{K:PySem.W.Frag}{G:Hp}{a:Addr}{ns:List Int}(h:jt K G a (ns.map V.int)):Rep K G (.ref a) (.lst (ns.map D.int)):=by
 simp only[Rep];refine⟨a,_,rfl,h,?_⟩;clear h;induction ns with
 | nil=>exact bV.nil
 | cons n r ih=>exact bV.cons (iJ _ _ _) ih
def BF(n:Nat):dZ:=fun ds Q=>∃ns:List Int,ds=[.lst (ns.map .int)]/\ns.length<=n/\Q (.fz (.bl true))
theorem nN{l:PySem.W.OpenLaw}{n k:Nat}{q:Program}{loose:List Str}{XP:(Str->Option Value)->Heap->Prop}{YP:World->Heap->Prop}{d:DefRec}{K:Params->PySem.W.Frag}{x:Str}
  (hn:l.most=some n) (EX:n<=sizeLine) (Fl:d.params.defaults=[]) (hr:eQ k callerA) (hY:∀(w:World) (h:Heap),YP w h->(K w.params).In h)
  (F:∀(w:World) (mg:Str->Option Value) (fa:Addr) (h:Heap),(K w.params).In h->h.Ns mainGlobals mg->mg d.name=some (.ref fa)->
   ∃fd:FuncData,(∀(s:Shared) (u:Value),BindsTo s fd ⟨[u],[]⟩ [(x,u)])/\∀base:Heap,ju l.prog w (K w.params) mg base oe k fa fd [x] (vV (K w.params) 1 (BF n))) :
  PySem.W.WalkO q loose XP YP l.row.toRowW d [] (fun f vs=>PySem.call f vs):=by
 refine Ln.lz hn Fl fun w eF cB mg mb fa o pm cd doc a vs ns G Y ho hd fi rA rq hints hlen hg=>?_
 have KX:=hY w _ Y;obtain⟨fd,hb,hF⟩:=F w mg fa _ KX G.T.g rA;refine QR KX G.T.g G.T.b G.T.builtins G.T.nolimit hg rq hints (Nat.le_trans hlen EX) hr (fun base _ _=>hF base) hb (fun H hO hS=>?_) fun H e s' z=>z
 have hL:jt (K w.params) H a (ns.map V.int):=by
  rcases hS with hS | ⟨o,its,m,h1,h2,h3,h4,h5,h6⟩
  ·exact .inl hS
  ·have e:=KX a o h1;rw[rq] at e;cases e;have W5:Data.seq vs.toArray _=Data.seq its m:=h4;injection W5 with e1 e2
   subst e1;exact .inr ⟨_,_,h1,h5,h6⟩
 refine⟨H,[.lst (ns.map .int)],fun r=>r=.fz (.bl true),cm.refl _,bV.cons (Se hL) bV.nil,rfl,⟨ns,rfl,hlen,rfl⟩,fun v H' r G' _ rr e=>?_⟩;subst e;simpa only[d0,Rep] using rr
theorem NN{P:Program}{w:World}{K:PySem.W.Frag}{mg:Str->Option Value}{st:Stmt}{N:List Str}{x:Str}{k:Nat}{t:dZ}{T:Heap->TX}{fa:Addr}(DA:At K mg "law" st)(rA:mg "law"=some (.ref fa))(S:ck N [x] (bZ st))
  (hb:∀(kV doc pm:Value) (an:Option Addr) (cT ct:Value) (us:List Value),us.length=1->bindArgs (PySem.W.fnOf "law" "law" (fE st) (dy st) (bZ st) .none kV doc pm an cT ct) ⟨us,[]⟩=pure ([x].zip us))
  (body:∀(base:Heap) (f:Addr) (cT:Value) (A:Around) (outer:List Env) (s:Shared) (H:Hp) (E:XK),eQ k (A.deeper (envOfC "law" (bZ st) s.heap.objs.size f cT))->lC (qc oe P w K mg base N "law" (bZ st) f cT A outer s H E).sy (dy st) (T base))
  (spec:∀(base:Heap) (ds:List D) (Qr:R->Prop),ds.length=1->t ds Qr->T base { nx:=fun _=>Qr (.fz .non),rt:=Qr } (fR N ds)) :
  ∃fd:FuncData,(∀(s:Shared) (u:Value),BindsTo s fd ⟨[u],[]⟩ [(x,u)])/\∀base:Heap,ju P w K mg base oe (k+1) fa fd [x] (vV K 1 t):=by
 obtain⟨f,fd,F,hm⟩:=DA.ex;rw[rA] at hm;cases hm;refine⟨fd,fun s u=>?_,fun base=>HQ F S (body base fa) (spec base)⟩;obtain⟨oc,od,kV,doc,pm,an,cT,ct,ph,rfl,lk,fi⟩:=F.ex;exact .of_eq (hb kV doc pm an cT ct [u] rfl)
end L2
namespace L2
open PySem PySem.Spec PyProof.Rows
def uN(i:Nat)(t:TX):TX:=fun D ρ=>t D (iC i ρ)
theorem qg(d:D):(R.fz d).val=d:=rfl
theorem qO(ds:List D):(R.ow ds).val=.lst ds:=rfl
theorem GC(d:D):(R.fz d).sl=.fz d:=rfl
theorem LU(ds:List D):(R.ow ds).sl=.ow ds:=rfl
theorem Hx{α:Type}{wi:iW}{m:List (Option Nat)}{g:gJ}{tc:gK}{te:TD}{ρ:Ev}{Q:R->Prop}(L:List α)(φ:α->D)(f:α->Option D)(hw:∀Q':List D->Prop,Q' (L.map φ)->wi ρ Q')(hl:L.length<=sizeLine)
  (h:∀x∈L,∀(K1:D->Prop) (K0:Prop),(∀e,f x=some e->K1 e)->(f x=none->K0)->g (φ x) (c9 m ρ) fun dM=>tc dM fun b=>if b=true then te dM fun r=>K1 r.val else K0)
  (q:Q (.ow (L.filterMap f))):fX wi m g tc te ρ Q:=by
 refine hw _ ⟨fun i acc=>acc=(L.take i).filterMap f,rfl,fun i d acc hd ha=>?_,fun acc ha=>?_⟩
 ·rw[ao] at hd;cases hx:L[i]? with
  | none=>rw[hx] at hd;cases hd
  | some x=>
   rw[hx] at hd;cases hd;have hi:i<L.length:=(aj.mp hx).1;have e:L.take (i+1)=L.take i++[x]:=by rw[aK,hx];rfl
   have hlen:acc.length<sizeLine:=by
    rw[ha];refine Nat.lt_of_le_of_lt (List.length_filterMap_le _ _) ?_;rw[aV];omega
   exact h x (ay hx) (fun e=>acc.length<sizeLine/\acc++[e]=(L.take (i+1)).filterMap f) (acc=(L.take (i+1)).filterMap f)
    (fun z hz=>⟨hlen,by rw[e,List.filterMap_append,ha];simp[hz]⟩) (fun hz=>by rw[e,List.filterMap_append,ha];simp[hz])
 ·dsimp only at ha;rw[af,aS] at ha;rw[ha];exact q
theorem jY{α:Type}{wi:iW}{m:List (Option Nat)}{g:gJ}{te:TD}{ρ:Ev}{Q:R->Prop}(L:List α)(φ f:α->D)(hw:∀Q':List D->Prop,Q' (L.map φ)->wi ρ Q')(hl:L.length<=sizeLine)
  (h:∀x∈L,∀(K1:D->Prop),K1 (f x)->g (φ x) (c9 m ρ) fun dM=>te dM fun r=>K1 r.val) (q:Q (.ow (L.map f))):fX wi m g gX te ρ Q:=by
 refine Hx L φ (fun x=>some (f x)) hw hl (fun x hx K1 K0 h1 _=>?_) ?_
 ·have:=h x hx K1 (h1 _ rfl);simpa[gX] using this
 ·have e:L.filterMap (fun x=>some (f x))=L.map f:=by
   induction L with
   | nil=>rfl
   | cons a r ih=>simp
  rw[e];exact q
theorem vp{α:Type}{wi:iW}{m:List (Option Nat)}{g:gJ}{tc:gK}{te:TD}{ρ:Ev}{Q:R->Prop}(L:List α)(φ f:α->D)(p:α->Bool)(hw:∀Q':List D->Prop,Q' (L.map φ)->wi ρ Q')(hl:L.length<=sizeLine)
  (h:∀x∈L,∀(K1:D->Prop) (K0:Prop),(p x=true->K1 (f x))->(p x=false->K0)->g (φ x) (c9 m ρ) fun dM=>tc dM fun b=>if b=true then te dM fun r=>K1 r.val else K0)
  (q:Q (.ow ((L.filter p).map f))):fX wi m g tc te ρ Q:=by
 refine Hx L φ (fun x=>if p x=true then some (f x) else none) hw hl (fun x hx K1 K0 h1 h0=>h x hx K1 K0 (fun z=>h1 _ (by simp[z])) (fun z=>h0 (by simp[z]))) ?_;have e:L.filterMap (fun x=>if p x=true then some (f x) else none)=(L.filter p).map f:=by
  clear h hl hw q;induction L with
  | nil=>rfl
  | cons a r ih=>by_cases z:p a=true<;>simp[z,ih]
 rw[e];exact q
theorem Ik{wi:iW}{g:gJ}{tb:TX}{D:DE}{ρ:Ev}(ds:List L2.D)(hw:∀Q':List L2.D->Prop,Q' ds->wi ρ Q')(Iv:Nat->Ev->Prop)(h0:Iv 0 ρ)
  (turn:∀i d ρ',ds[i]?=some d->Iv i ρ'->g d ρ' fun dM=>tb { D with nx:=Iv (i+1),ct:=Iv (i+1),bk:=D.nx } dM) (fin:∀ρ',Iv ds.length ρ'->D.nx ρ'):ir wi g tb D ρ:=hw _ ⟨Iv,h0,turn,fin⟩
theorem o6{α:Type}{wi:iW}{g:gJ}{tb:TX}{D:DE}{ρ:Ev}(L:List α)(φ:α->L2.D)(hw:∀Q':List L2.D->Prop,Q' (L.map φ)->wi ρ Q')(Iv:Nat->Ev->Prop)(h0:Iv 0 ρ)
  (turn:∀i x ρ',L[i]?=some x->Iv i ρ'->g (φ x) ρ' fun dM=>tb { D with nx:=Iv (i+1),ct:=Iv (i+1),bk:=D.nx } dM) (fin:∀ρ',Iv L.length ρ'->D.nx ρ'):ir wi g tb D ρ:=by
 refine Ik (L.map φ) hw Iv h0 (fun i d ρ' hd iv=>?_) (fun ρ' iv=>fin ρ' (by simpa using iv));rw[ao] at hd;cases hx:L[i]? with
 | none=>rw[hx] at hd;cases hd
 | some x=>rw[hx] at hd;cases hd;exact turn i x ρ' hx iv
theorem Sd{g:gJ}{tb:TX}{D:DE}{ρ:Ev}{wi:iW}(n:Nat)(hw:∀Q':List L2.D->Prop,Q' ((List.range n).map fun(i:Nat)=>.int (0+i))->wi ρ Q')(Iv:Nat->Ev->Prop)(h0:Iv 0 ρ)
  (turn:∀(i:Nat) ρ',i<n->Iv i ρ'->g (.int i) ρ' fun dM=>tb { D with nx:=Iv (i+1),ct:=Iv (i+1),bk:=D.nx } dM) (fin:∀ρ',Iv n ρ'->D.nx ρ'):ir wi g tb D ρ:=by
 refine o6 (List.range n) (fun(i:Nat)=>.int (0+i)) hw Iv h0 (fun i x ρ' hx iv=>?_) (fun ρ' iv=>fin ρ' (by simpa using iv));obtain⟨h1,h2⟩:=aj.mp hx;have h3:i<n:=by simpa using h1
 have h4:x=i:=by rw[<-h2];simp
 subst h4;rw[Int.zero_add];exact turn x ρ' h3 iv
theorem Vk:(10:Int) ^ Int.toNat 24=1000000000000000000000000:=by decide
theorem Vi:(10:Int) ^ Int.toNat 30=1000000000000000000000000000000:=by decide
theorem NM:qd 10 24=True:=by simp only[qd,eq_iff_iff,iff_true];decide
theorem NL:qd 10 30=True:=by simp only[qd,eq_iff_iff,iff_true];decide
theorem Po:100000<=sizeLine:=by decide
end L2
namespace L2
open PySem PySem.Spec PyProof.Rows
section
variable {X:Cx} {pos:Pos} {e:Expr} {te:TD} {es:List Expr} {ts:jG}
def zI(t:TD):TD:=fun ρ Q=>t ρ fun r=>match r.val with
 | .int i=>Q (.fz (.int (-i)))
 | _=>False
theorem GH(h:PD X e te):PD X (.UnaryOp .USub e pos) (zI te):=by
 obtain⟨t,p,q⟩:=h;refine⟨_,MW Ny p,fun ρ σ G0 H0 G H Q P E h k=>q ρ σ G0 H0 G H _ _ E h fun v H' r G' x rr hq=>?_⟩;obtain⟨G2,x2,rv,_⟩:=rr.freeze x;split at hq
 ·rename_i i e1;rw[e1] at rv;simp only[Rep] at rv;exact⟨i,rv,k _ _ _ G2 x2 (fj (iJ _ _ _)) hq⟩
 ·exact hq.elim
def qM:dZ:=fun ds Q=>match ds with
 | [.lst es]=>Q (.ow es)
 | [.tup es]=>Q (.ow es)
 | _=>False
theorem u6:mi X (.type "list") qM:=by
 refine⟨_,Tt,fun G H vs ds Q P s rs h k=>?_⟩;unfold qM at h;split at h
 ·obtain⟨v,rfl,rv⟩:=kG rs;simp only[Rep] at rv;obtain⟨a,xs,rfl,h1,h2⟩:=rv;exact⟨a,xs,rfl,.inl (s.fb h1).sq,vd s h2 h k⟩
 ·obtain⟨v,rfl,rv⟩:=kG rs;simp only[Rep] at rv;obtain⟨a,xs,rfl,h1,h2⟩:=rv;exact⟨a,xs,rfl,.inr (s.gP h1),vd s h2 h k⟩
 ·exact h.elim
def zH:dZ:=fun ds Q=>match ds with
 | [.int i]=>Q (.fz (.int i))
 | [.bl b]=>Q (.fz (.int (if b then 1 else 0)))
 | _=>False
theorem LS:mi X (.type "int") zH:=by
 refine⟨_,RP,fun G H vs ds Q P s rs h k=>?_⟩;unfold zH at h;split at h
 ·obtain⟨v,rfl,rv⟩:=kG rs;simp only[Rep] at rv;subst rv;exact .inl ⟨_,rfl,k _ _ _ G (.refl s) (fj (iJ _ _ _)) h⟩
 ·obtain⟨v,rfl,rv⟩:=kG rs;simp only[Rep] at rv;subst rv;exact .inr ⟨_,rfl,k _ _ _ G (.refl s) (fj (iJ _ _ _)) h⟩
 ·exact h.elim
noncomputable def jK:List D->Option (List Int)
 | []=>some []
 | .int b::r=>(jK r).map (b::·)
 | _=>none
theorem tM:∀{ds:List D} {bs:List Int},jK ds=some bs->ds=bs.map D.int
 | [],bs,h=>by simp[jK] at h;subst h;rfl
 | .int b::r,bs,h=>by
  simp only[jK,bx] at h;obtain⟨zo,h1,rfl⟩:=h;rw[tM h1];rfl
 | .non::r,bs,h=>by simp[jK] at h
 | .bl _::r,bs,h=>by simp[jK] at h
 | .str _::r,bs,h=>by simp[jK] at h
 | .tup _::r,bs,h=>by simp[jK] at h
 | .lst _::r,bs,h=>by simp[jK] at h
 | .obj _ _::r,bs,h=>by simp[jK] at h
 | .dic _::r,bs,h=>by simp[jK] at h
 | .dit _::r,bs,h=>by simp[jK] at h
theorem xh(bs:List Int):jK (bs.map D.int)=some bs:=by
 induction bs with
 | nil=>rfl
 | cons b r ih=>simp[jK,ih]
theorem tF{K:PySem.W.Frag}{G:Hp}:∀{bs:List Int} {vs:List V},bV K G vs (bs.map D.int)->vs=bs.map V.int
 | [],[],_=>rfl
 | b::bs,v::vs,h=>by
  simp only[au,bV,Rep] at h;rw[h.1,tF h.2];rfl
 | [],_::_,h=>by simp only[List.map_nil,bV] at h
 | _::_,[],h=>by simp only[au,bV] at h
theorem Dt{vs:List Value}{ns:List Int}(hi:IntsAre vs ns):∃xs:Array (Int×Tok),vs.toArray=intItems xs/\ns=xs.toList.map (·.1):=by
 obtain⟨xs,e⟩:=hi.allInts.items;exact⟨xs,e,by rw[<-hi.numsOf,<-nums_intItems,<-e]⟩
theorem QX(hc:X.calm=true):c8 X (.builtin "sum") (fun xs H Q=>∃(p:Addr) (ns:List Int),xs=[.ref p]/\dY X.K H p (ns.map V.int)/\Q (.int ns.sum) H):=by
 intro pins s σ H xs us Q I r h;obtain⟨p,ns,rfl,hq,q⟩:=h;obtain⟨u,rfl,ru⟩:=j8 r;cases ru;obtain⟨its,rv,pl,hz⟩:=I.list hq;obtain⟨ys,e,l8⟩:=Dt (sh rv);have hl:=pl.isList;rw[e] at hl;refine sum_intListG (I.ok.hd hc) hl fun h' tk t' hk=>?_
 have e2:preSum (numAt ys) ys.size=ns.sum:=by
  rw[preSum_eq,bD (by simp),l8]
 rw[e2];exact⟨.int _,H,I.kept hk,⟨_,rfl⟩,q⟩
theorem QW(hc:X.calm=true):c8 X (.builtin "min") (fun xs H Q=>∃(p:Addr) (ns:List Int),xs=[.ref p]/\dY X.K H p (ns.map V.int)/\ns≠[]/\∀M,M∈ns->(∀a∈ns,M<=a)->Q (.int M) H):=by
 intro pins s σ H xs us Q I r h;obtain⟨p,ns,rfl,hq,cE,q⟩:=h;obtain⟨u,rfl,ru⟩:=j8 r;cases ru;obtain⟨its,rv,pl,hz⟩:=I.list hq;obtain⟨ys,e,l8⟩:=Dt (sh rv);have hl:=pl.isList;rw[e] at hl;have hsz:0<ys.size:=by
  cases ym:ys.toList with
  | nil=>rw[l8,ym] at cE;exact absurd rfl cE
  | cons a b=>have:ys.toList.length=b.length+1:=by rw[ym];rfl
              rw[aT] at this;omega
 refine min_intList (I.ok.hd hc) hl hsz fun v h' tk hv hk=>?_
 obtain⟨t,rfl⟩:=intItems_at hv;obtain⟨h1,h2⟩:=argBest_lt (numAt ys) (ys.size-1);refine⟨.int _,H,I.kept hk,⟨_,rfl⟩,q _ ?_ fun a ha=>?_⟩
 ·rw[l8,numAt_eq];exact getD_mem (by rw[af,aT];omega)
 ·rw[l8] at ha;obtain⟨j,hj,rfl⟩:=mem_getD ha;rw[af,aT] at hj;rw[<-numAt_eq];exact h2 j (by omega)
theorem QV(hc:X.calm=true):c8 X (.builtin "max") (fun xs H Q=>∃(p:Addr) (ns:List Int),xs=[.ref p]/\dY X.K H p (ns.map V.int)/\ns≠[]/\∀M,M∈ns->(∀a∈ns,a<=M)->Q (.int M) H):=by
 intro pins s σ H xs us Q I r h;obtain⟨p,ns,rfl,hq,cE,q⟩:=h;obtain⟨u,rfl,ru⟩:=j8 r;cases ru;obtain⟨its,rv,pl,hz⟩:=I.list hq;obtain⟨ys,e,l8⟩:=Dt (sh rv);have hl:=pl.isList;rw[e] at hl;have hsz:0<ys.size:=by
  cases ym:ys.toList with
  | nil=>rw[l8,ym] at cE;exact absurd rfl cE
  | cons a b=>have:ys.toList.length=b.length+1:=by rw[ym];rfl
              rw[aT] at this;omega
 refine max_intList (I.ok.hd hc) hl hsz fun v h' tk hv hk=>?_
 obtain⟨t,rfl⟩:=intItems_at hv;obtain⟨h1,h2⟩:=argBest_gt (numAt ys) (ys.size-1);refine⟨.int _,H,I.kept hk,⟨_,rfl⟩,q _ ?_ fun a ha=>?_⟩
 ·rw[l8,numAt_eq];exact getD_mem (by rw[af,aT];omega)
 ·rw[l8] at ha;obtain⟨j,hj,rfl⟩:=mem_getD ha;rw[af,aT] at hj;rw[<-numAt_eq];exact h2 j (by omega)
def uM:dZ:=fun ds Q=>match ds with
 | [.lst es]=>match jK es with
  | some ns=>Q (.fz (.int ns.sum))
  | none=>False
 | _=>False
theorem BE(hc:X.calm=true):mi X (.builtin "sum") uM:=by
 refine⟨_,QX hc,fun G H vs ds Q P s rs h k=>?_⟩;unfold uM at h;split at h
 ·split at h
  ·rename_i es bs hb;obtain⟨v,rfl,rv⟩:=kG rs;simp only[Rep] at rv;obtain⟨a,xs,rfl,h1,h2⟩:=rv;rw[tM hb] at h2;rw[tF h2] at h1;exact⟨a,bs,rfl,(s.fb h1).sq,k _ _ _ G (.refl s) (fj (iJ _ _ _)) h⟩
  ·exact h.elim
 ·exact h.elim
def uL:dZ:=fun ds Q=>match ds with
 | [.lst es]=>match jK es with
  | some ns=>ns≠[]/\∀M,M∈ns->(∀a∈ns,M<=a)->Q (.fz (.int M))
  | none=>False
 | [.int i,.int j]=>Q (.fz (.int (if j<i then j else i)))
 | _=>False
def oQ:dZ:=fun ds Q=>match ds with
 | [.lst es]=>match jK es with
  | some ns=>ns≠[]/\∀M,M∈ns->(∀a∈ns,a<=M)->Q (.fz (.int M))
  | none=>False
 | [.int i,.int j]=>Q (.fz (.int (if j>i then j else i)))
 | _=>False
theorem GB(hc:X.calm=true):mi X (.builtin "min") uL:=by
 refine⟨_,(QW hc).or (RQ hc),fun G H vs ds Q P s rs h k=>?_⟩;unfold uL at h;split at h
 ·split at h
  ·rename_i es bs hb;obtain⟨v,rfl,rv⟩:=kG rs;simp only[Rep] at rv;obtain⟨a,xs,rfl,h1,h2⟩:=rv;rw[tM hb] at h2;rw[tF h2] at h1;exact .inl ⟨a,bs,rfl,(s.fb h1).sq,h.1,fun M h3 h4=>k _ _ _ G (.refl s) (fj (iJ _ _ _)) (h.2 M h3 h4)⟩
  ·exact h.elim
 ·obtain⟨v,u,rfl,rv,ru⟩:=BH rs;simp only[Rep] at rv ru;subst rv ru;exact .inr ⟨_,_,rfl,k _ _ _ G (.refl s) (fj (iJ _ _ _)) h⟩
 ·exact h.elim
theorem wb(hc:X.calm=true):mi X (.builtin "max") oQ:=by
 refine⟨_,(QV hc).or (RR hc),fun G H vs ds Q P s rs h k=>?_⟩;unfold oQ at h;split at h
 ·split at h
  ·rename_i es bs hb;obtain⟨v,rfl,rv⟩:=kG rs;simp only[Rep] at rv;obtain⟨a,xs,rfl,h1,h2⟩:=rv;rw[tM hb] at h2;rw[tF h2] at h1;exact .inl ⟨a,bs,rfl,(s.fb h1).sq,h.1,fun M h3 h4=>k _ _ _ G (.refl s) (fj (iJ _ _ _)) (h.2 M h3 h4)⟩
  ·exact h.elim
 ·obtain⟨v,u,rfl,rv,ru⟩:=BH rs;simp only[Rep] at rv ru;subst rv ru;exact .inr ⟨_,_,rfl,k _ _ _ G (.refl s) (fj (iJ _ _ _)) h⟩
 ·exact h.elim
noncomputable def BX:List D->Option (List Str)
 | []=>some []
 | .str b::r=>(BX r).map (b::·)
 | _=>none
theorem Sb(bs:List Str):BX (bs.map D.str)=some bs:=by
 induction bs with
 | nil=>rfl
 | cons b r ih=>simp[BX,ih]
theorem Ja{K:PySem.W.Frag}{G:Hp}(bs:List Int):bV K G (bs.map V.int) (bs.map D.int):=by
 induction bs with
 | nil=>exact bV.nil
 | cons b r ih=>exact bV.cons (iJ _ _ _) ih
end
end L2
namespace L2
open PySem PySem.Spec PyProof.Rows
section
variable {X:Cx} {pos:Pos} {e:Expr} {te:TD} {es:List Expr} {ts:jG}
theorem QU:bootBuiltins "set"=some (.type "set"):=by rfl
end
end L2
namespace L2
open PySem PySem.Spec PyProof.Rows
end L2
namespace L2
open PySem PySem.Spec PyProof.Rows
noncomputable def mU:D->Bool
 | .non=>true
 | .bl _=>true
 | .int _=>true
 | .str _=>true
 | _=>false
def wa(i:Nat)(te:TD):TD:=fun ρ Q=>te (iC i ρ) fun r=>match r with
 | .fz d=>mU d=true/\Q (.fz d)
 | _=>False
theorem w5{K:PySem.W.Frag}{G G':Hp}{v:V}{d:D}(h:mU d=true)(r:Rep K G v d):Rep K G' v d:=by
 cases d<;>first | (simp only[Rep] at r ⊢;exact r) | cases h
noncomputable def less(G:Hp)(L:List Addr):Hp:=fun a=>if a∈L then none else G a
theorem AB{G H G' H':Hp}{L:List Addr}(gp:∀q∈L,G q=none)(x:Ext (lS G H L) H G' H'):Ext G H (less G' L) H':=by
 refine⟨fun b u e=>?_,x.h,fun b u e=>?_,fun q h1 h2=>?_⟩
 ·have hb:b∉L:=fun z=>by rw[gp b z] at e;cases e
  unfold less;rw[if_neg hb];exact x.g b u (by rw[oZ hb];exact e)
 ·unfold less at e;split at e
  ·cases e
  ·exact x.s b u e
 ·unfold less;split
  ·rfl
  ·rename_i hq;exact x.n q (by rw[oZ hq];exact h1) h2
section
variable {X:Cx} {e:Expr} {te:TD} {t:gK}
theorem cM.Eg{K:PySem.W.Frag}{G0 H0 G H:Hp}{ρ:Ev}{σ:St}(i:Nat)(E:cM K G0 H0 ρ σ G H):∃G1,cM K G0 H0 (iC i ρ) σ G1 H/\∀G' H',Ext G1 H G' H'->∃G2,Ext G H G2 H':=
 let⟨L,hL,E',_⟩:=E.ik i
 ⟨_,E',fun G' H' x=>⟨_,AB hL x⟩⟩
theorem Ca(i:Nat)(h:PD X e te):PD X e (wa i te):=by
 obtain⟨tt,p,q⟩:=h;refine⟨tt,p,fun ρ σ G0 H0 G H Q P E h k=>?_⟩;obtain⟨G1,E1,back⟩:=E.Eg i;refine q _ σ G0 H0 G1 H _ _ E1 h fun v H' r G' x rr hq=>?_
 split at hq
 ·rename_i d;obtain⟨G2,x2⟩:=back G' H' x;exact k v H' (.fz d) G2 x2 (w5 hq.1 rr) hq.2
 ·exact hq.elim
end
end L2
namespace L2
open PySem PySem.Spec PyProof.Rows
theorem S8(t:SetTable)(n:Nat):(t.orStandIn n).led=t.led:=by
 unfold SetTable.orStandIn;split<;>rfl
theorem Sa(t:SetTable)(es:Array (Int×Value))(h:Int)(x:Value):(layNew t es h x).2.1.led=t.led:=by
 unfold layNew;split
 ·exact S8 _ _
 ·rfl
theorem SJ{t t':SetTable}{hs:Array Int}{wanted:Nat}{order:Array Nat}(h:t.relaid hs wanted=some (t',order)):t'.led=t.led/\t'.plain=t.plain:=by
 unfold SetTable.relaid SetTable.laid at h;cases hc:SetTable.layClean (SetTable.sizeAbove wanted-1) hs with
 | none=>rw[hc] at h;cases h
 | some owner=>
  rw[hc] at h;cases h;exact⟨rfl,rfl⟩
section
variable {prog:Program} {w:World} {A:Around} {E:Value->Shared->Prop} {s:Shared}
theorem I0{a:Addr}{es gw:Array (Int×Value)}{ep:Nat}{t t':SetTable}{Q:Unit->Shared->Prop}(ho:s.heap.get? a=some { cls:=.type "set",dict:=none,data:=.set es ep t,slots:=#[] })(hb:gw.size<scanBound)
  (h:∀h',Heap.SameBut a s.heap h'->h'.get? a=some { cls:=.type "set",dict:=none,data:=.set gw (ep+1) t',slots:=#[] }->Q () { s with heap:=h' }):wpAny (model prog w) A (storeSet a gw t') Q E s:=by
 refine wpAny_storeSet_of ho rfl ?_ (fits_of_scanBound hb);refine h _ (Heap.SameBut.update s.heap a (Obj.putSet gw t')) ?_;have:=bS (Obj.putSet gw t') ho (by rw[putSet_of gw t' (ep:=ep) (t:=t) (es:=es) rfl];rfl);rw[putSet_of gw t' (ep:=ep) (t:=t) (es:=es) rfl] at this;exact this
end
end L2
namespace L2
open PySem PySem.Spec PyProof.Rows
section
variable {prog:Program} {w:World} {A:Around} {E:Value->Shared->Prop} {s:Shared}
noncomputable abbrev o3(w:World):Obj:={ cls:=.type "set",dict:=none,data:=.set #[] 0 (.fresh 0 0 (!(w.params.followText "set-order"))) }
theorem Pn(a:Value){Q1:Value->Shared->Prop}(h:Q1 (.ref s.heap.objs.size) { s with heap:=s.heap.push (o3 w) }) :
  codeAny (model prog w) A (.call (.builtin "set.__new__") ⟨[.type "set",a],[]⟩) (wants Q1 E) s:=by
 refine codeAny_of_tree ?_;show wpAny _ A.in1 (do checkBuiltinCall "set.__new__" ⟨[.type "set",a],[]⟩;again (.builtin "set.__new__" ⟨[.type "set",a],[]⟩)) _ _ s;refine aa (wpAny_of_eq (PySem.F.newCall_set_1 a) (ai ⟨bT PySem.F.plain_set_new _,bM PySem.F.entry_set_new ?_⟩));rw[bg PySem.F.plain_set_new _];unfold Builtin.«set.__new__» Builtin.Frozenset.newClass;have EF:=PySem.sub_set_self;obtain⟨hp,g,d,tk,os⟩:=s;dsimp only;wp_walk
 refine wpAny_askSetting (ai ?_);dsimp only;simp only[newObj];refine aa (wpAny_alloc (ai ?_));exact ai h
end
end L2
namespace L2
open PySem PySem.Spec PyProof.Rows
theorem fA:Slot "set_iterator" "__next__" "set_iterator.__next__":=
 .of (owner:="set_iterator") (n:="__next__") (by rw[typeLookup_type,builtinLookup_eq_fast];kernel_rfl) (by decide +kernel) (by decide +kernel) (by decide +kernel) (by first | exact .inl (by decide +kernel) | exact .inr (by decide +kernel)) (by rw[isSubtype_type];kernel_rfl)
theorem Hw:Slot "set_iterator" "__iter__" "set_iterator.__iter__":=
 .of (owner:="set_iterator") (n:="__iter__") (by rw[typeLookup_type,builtinLookup_eq_fast];kernel_rfl) (by decide +kernel) (by decide +kernel) (by decide +kernel) (by first | exact .inl (by decide +kernel) | exact .inr (by decide +kernel)) (by rw[isSubtype_type];kernel_rfl)
theorem Hv:entryFor table "set_iterator.__next__"=some Builtin.«set_iterator.__next__»:=entryFor_of_fast (by kernel_rfl)
theorem N0:entryFor table "set_iterator.__iter__"=some Builtin.«dict_keyiterator.__iter__»:=entryFor_alias (id':="dict_keyiterator.__iter__") (by kernel_rfl) rfl (by decide +kernel) (by kernel_rfl)
theorem Pk:entryFor table "set.__iter__"=some Builtin.«frozenset.__iter__»:=entryFor_alias (id':="frozenset.__iter__") (by kernel_rfl) rfl (by decide +kernel) (by kernel_rfl)
theorem Hu(a:Value):argsOk "set_iterator.__next__" ⟨[a],[]⟩:=by unfold argsOk;kernel_rfl
theorem NZ(a:Value):argsOk "set_iterator.__iter__" ⟨[a],[]⟩:=by unfold argsOk;kernel_rfl
section
variable {prog:Program} {w:World} {A:Around} {E:Value->Shared->Prop} {s:Shared}
theorem Ds{α:Type}:∀{l:List α} {i:Nat} (h:i<l.length),(l[i]::l.eraseIdx i).Perm l
 | a::r,0,_=>.refl _
 | a::r,i+1,h=>by
  simp only[List.getElem_cons_succ,List.eraseIdx_cons_succ];exact(List.Perm.swap _ _ _).trans ((Ds (by simpa using h)).cons a)
theorem R9{M:Model}{src:Source}{n:Nat}{Q:Nat->Shared->Prop}(hn:n≠0)(h:∀i d,i<n->Q i { s with drawn:=d }):wpAny M A (choose src n) Q E s:=fun Γ p _=>by
 show Sem.wp M Γ (.choose src n .pure) _ _ p s;rw[Sem.wp_choose];exact⟨hn,h _ _ (Nat.mod_lt _ (Nat.pos_of_ne_zero hn))⟩
theorem IZ{M:Model}{α:Type}:∀(n:Nat) (xs:List α) (s:Shared) (Q:List α->Shared->Prop),xs.length<=n->(∀ys d,ys.Perm xs->Q ys { s with drawn:=d })->wpAny M A (drawOrder n xs) Q E s
 | 0,xs,s,Q,hl,q=>by
  have:xs=[]:=List.eq_nil_of_length_eq_zero (by omega);subst this;unfold drawOrder;exact ai (q [] s.drawn (.refl _))
 | n+1,[],s,Q,hl,q=>by
  unfold drawOrder;exact ai (q [] s.drawn (.refl _))
 | n+1,x::r,s,Q,hl,q=>by
  unfold drawOrder;refine aa (R9 (by simp) fun i d hi=>?_);rw[ag hi];dsimp only;refine aa (IZ n _ _ _ (by rw[List.length_eraseIdx];split<;>simp at hl ⊢<;>omega) fun ys d' hp=>ai ?_);exact q _ d' ((hp.cons _).trans (Ds hi))
theorem Ht{α:Type}(f:Nat->Nat):∀(n k:Nat) (left:List α) (out:Array α),left.length=n->(pickOrder.go f n k left out).toList.Perm (out.toList++left)
 | 0,k,left,out,h=>by
  have:left=[]:=List.eq_nil_of_length_eq_zero h;subst this;simp[pickOrder.go]
 | n+1,k,left,out,h=>by
  unfold pickOrder.go;have cS:f k%left.length<left.length:=Nat.mod_lt _ (by omega);rw[ag cS];dsimp only;refine(Ht f n (k+1) _ _ (by rw[List.length_eraseIdx,if_pos cS];omega)).trans ?_;rw[Array.toList_push,List.append_assoc];exact(List.Perm.refl _).append (Ds cS)
theorem IY{α:Type}(f:Nat->Nat)(xs:Array α):(pickOrder f xs).toList.Perm xs.toList:=by
 have:=Ht f xs.size 0 xs.toList #[] (by simp);simpa[pickOrder] using this
noncomputable abbrev qe(first:Value)(i:Nat)(S:Addr)(n ep:Nat):Obj:={ cls:=.type "set_iterator",data:=.fields #[first,.int i 0,.ref S,.int n 0,.int ep 0] }
theorem Ij{I:Addr}{o:Obj}{vs:Array Value}{Q:Option Value->Shared->Prop}{K:Fin->Shared->Prop}(hh:A.handled=none)(ho:s.heap.get? I=some o)(hd:o.data=.fields vs)(hv:2<vs.size)
  (hQ:∀h',Heap.ExtBut I s.heap h'->Q none { s with heap:=h' }) :
  wpAny (model prog w) A.in1 (do setField (.ref I) 2 .none;raiseNew (<-newExc (.type "StopIteration") []):Sem Fin) K (fun e s'=>wpAny (model prog w) A (do if <-isInstance e (.type "StopIteration") then pure none else throw e:Sem (Option Value)) Q E s') s:=by
 refine aa (wpAny_setField ho hd hv ?_);show wpAny _ _ (newExc (.type "StopIteration") [] >>= _) _ _ _;refine aa ?_;simp only[newExc,newTuple];refine aa (bG ?_ (by size_fits));refine aa (m:=firstArgMember _ _) (wpAny_of_eq (a:=Value.none) (by first | rfl | (simp only[firstArgMember];rfl)) ?_);refine bG ?_ (by size_fits);simp only[raiseNew];refine aa (wpAny_handled ?_);rw[show A.in1.handled=none from hh];refine aa (ai (wpAny_throw ?_));refine aa (wpAny_isInstance (T:="StopIteration") (b:=true) ⟨_,av _ rfl,rfl⟩ isSubtype_stop ?_);exact ai (hQ _ (((Heap.SameBut.update ..).extBut.push _).push _))
end
end L2
namespace L2
open PySem PySem.Spec PyProof.Rows
section
variable {prog:Program} {w:World} {A:Around} {E:Value->Shared->Prop} {s:Shared}
abbrev Bu(vals:List Value):Nat->Value->Prop:=fun i v=>vals[i]?=some v
theorem B9{I S:Addr}{first:Value}{i n ep:Nat}{Q:Value->Shared->Prop}(hI:s.heap.get? I=some (qe first i S n ep))(q:Q (.ref I) s):wpAny (model prog w) A (pyIter (.ref I)) Q E s:=by
 have hT:s.TypeIs (.ref I) "set_iterator":=⟨_,hI,rfl⟩
 refine wpAny_pyIter_slot hT Hw (wpAny_call_entry Hw hT N0 ?_ (NZ _));show wpAny _ _ (ret (.ref I)) _ _ s;exact ai ⟨_,rfl,"set_iterator",_,hT,fA.lookup,q⟩
end
end L2
namespace L2
open PySem PySem.Spec PyProof.Rows
section
variable {prog:Program} {w:World} {A:Around} {E:Value->Shared->Prop} {s:Shared}
theorem QT{es:Array (Int×Value)}{ps:List Nat}(hp:ps.Perm (List.range es.size)):(ps.map fun p=>(es.getD p (0,.none)).2).Perm (es.toList.map (·.2)):=by
 refine(hp.map _).trans ?_;have e:(List.range es.size).map (fun p=>(es.getD p (0,.none)).2)=es.toList.map (·.2):=by
  apply List.ext_getElem
  ·simp
  ·intro i h1 h2;have hi:i<es.size:=by simpa using h1
   simp[Array.getD,hi]
 rw[e]
theorem Pj{a:Addr}{Q:Bool->Shared->Prop}(hT:s.TypeIs (.ref a) "set")(h:Q false s):wpAny (model prog w) A (Builtin.List.listLengthHint (.ref a)) Q E s:=by
 unfold Builtin.List.listLengthHint;refine aa (wpAny_specialOf hT PySem.F.slot_set_len.lookup ?_);generalize KN:("set.__len__":String)=VD;wp_delta
 rw[show splitId VD=some ("set","__len__") from by subst KN;decide +kernel];subst KN;refine aa (wpAny_isInstance (T:="set") (b:=true) hT (by rw[isSubtype_type];kernel_rfl) ?_);refine wpAny_ite_split (fun iV=>absurd iV (by decide)) (fun _=>wpAny_ite_split (fun _=>?_) (fun iV=>absurd (by decide +kernel) iV));exact aa (wpAny_typeOf hT (ai h))
end
end L2
namespace L2
open PySem PySem.Spec PyProof.Rows
section
variable {prog:Program} {w:World} {A:Around} {E:Value->Shared->Prop} {s:Shared}
theorem Inv.draw{X:Cx}{pins:List (Addr×Obj)}{σ:St}{H:Hp}{s:Shared}(I:Inv X pins σ H s)(d:Drawn):Inv X pins σ H { s with drawn:=d }:=
 ⟨I.ok,I.os,I.bare,I.base,I.loc,I.cell,I.free,I.gd,I.pin,I.cN,I.len⟩
end
end L2
namespace L2
open PySem PySem.Spec PyProof.Rows
section
variable {X:Cx} {pos:Pos} {e i':Expr} {te ti:TD}
def XB(i:Nat):TX:=fun D ρ=>match gt ρ i with
 | .ow _=>D.nx (ρ.set i (.ow []))
 | _=>False
def wZ(i:Nat):TX:=fun D ρ=>match gt ρ i with
 | .ow ds=>D.nx (ρ.set i (.ow ds.reverse))
 | _=>False
theorem R8(i:Nat){x:Str}{p1 p2 pos':Pos}(hN:X.N[i]?=some x:=by rfl)(hv:js X.env.scope x:=by first | exact Or.inl rfl | exact Or.inr (Or.inl rfl) | exact Or.inr (Or.inr rfl))(hd:(x==("__debug__":Str))=false:=by decide)(fi:(x==("__classdict__":Str))=false:=by decide)
  (hb:∀{ta:TE},PE X (.Name x p1) ta->PE X (.Call (.Attribute (.Name x p1) "reverse" p2) [] [] pos') (Gf X.K "list" IM ta):=by intro ta h1;exact Nq PySem.F.plainAttrs_list PySem.F.slot_list_reverse PySem.F.type_list_reverse R1 h1) :
  PX X (.Expr (.Call (.Attribute (.Name x p1) "reverse" p2) [] [] pos') pos) (wZ i):=by
 refine⟨_,tK (hb (jL hN hv hd fi)),fun ρ σ G0 H0 G H D E k h g=>?_⟩;unfold wZ at h;split at h
 ·rename_i ds hg;obtain⟨a,xs,h1,h2,h3,h4,h5⟩:=k.ow i ds hg;exact⟨_,h1,.inl ⟨rfl,xs,dY.of h2⟩,a,xs,rfl,rfl,h2,g.nx _ _ G _ (cm.refl _) (k.change hg h1 h5.reverse) h⟩
 ·exact h.elim
def oX(i:Nat)(ti te:TD):TX:=fun D ρ=>match gt ρ i with
 | .ow ds=>te ρ fun r=>ti ρ fun rk=>match rk.val with
  | .int k=>∃j,kf ds.length k=some j/\D.nx (ρ.set i (.ow (ds.set j r.val)))
  | _=>False
 | _=>False
theorem Az(i:Nat){x:Str}{p1 p2:Pos}(hi:PD X i' ti)(he:PD X e te)(hN:X.N[i]?=some x:=by rfl)(hv:js X.env.scope x:=by first | exact Or.inl rfl | exact Or.inr (Or.inl rfl) | exact Or.inr (Or.inr rfl))(hd:(x==("__debug__":Str))=false:=by decide)(fi:(x==("__classdict__":Str))=false:=by decide)
  (ha:∀v,assign (.Subscript (.Name x p1) i' p2) X.env v=(do
   let ov <-holding [v] (eval (.Name x p1) X.env)
   let iv <-holding [v,ov] (eval i' X.env)
   standAt p2
   holding [v,ov,iv] (setItem ov iv v)
   release [v,ov,iv] []):=by intro _;rfl)
  (hs:swapsWithSole [.Subscript (.Name x p1) i' p2] e pos.line X.env=pure false:=by rfl) (hw:swappedStores [.Subscript (.Name x p1) i' p2] e X.env=pure none:=by rfl)
  (h1:(assignEach [.Subscript (.Name x p1) i' p2] X.env).map (·.2)=[assign (.Subscript (.Name x p1) i' p2) X.env]:=by rfl) :
  PX X (.Assign [.Subscript (.Name x p1) i' p2] e pos) (oX i ti te):=by
 obtain⟨t,p,q⟩:=he;obtain⟨t2,tY,q2⟩:=hi;refine⟨_,NG p (M0 (jL hN hv hd fi) tY Qx ha) hs hw h1,fun ρ σ G0 H0 G H D E k h g=>?_⟩;unfold oX at h;split at h
 ·rename_i ds hg;obtain⟨a,xs,h1,h2,h3,h4,h5⟩:=k.ow i ds hg;refine q ρ σ G0 H0 G H _ _ k h fun v H' r G' x1 rr hq=>?_
  obtain⟨G2,x2,rv,_⟩:=rr.freeze x1;refine⟨_,h1,q2 ρ σ G0 H0 G2 H' _ _ (k.ext x2) hq fun u H3 rk G3 x3 kd cQ=>?_⟩;obtain⟨G4,x4,jD,_⟩:=kd.freeze x3;split at cQ
  ·rename_i kk e1;obtain⟨j,hj,cQ⟩:=cQ;rw[e1] at jD;simp only[Rep] at jD;have fm:=x2.trans x4;refine⟨a,xs,kk,j,rfl,jD,fm.h _ _ h2,by rw[h5.length];exact hj,?_⟩;exact g.nx _ _ G4 _ fm.g ((k.ext fm).change hg h1 ((h5.mono fm.g).set j (rv.mono x4.g))) cQ
  ·exact cQ.elim
 ·exact h.elim
def GG:TX:=fun _ _=>False
theorem Ph{st:Stmt}:PX X st GG:=⟨_,QF,fun _ _ _ _ _ _ _ _ _ h _=>h.elim⟩
end
end L2
namespace L2
open PySem PySem.Spec PyProof.Rows
section
variable {κ:Type} [DecidableEq κ]
noncomputable def iu(kvs:List (κ×V))(k:κ):Option V:=(kvs.find? fun kv=>decide (kv.1=k)).map (·.2)
noncomputable def oo(kvs:List (κ×V))(k:κ)(v:V):List (κ×V):=
 if (kvs.any fun kv=>decide (kv.1=k))=true then kvs.map (fun kv=>if kv.1=k then(kv.1,v) else kv) else kvs++[(k,v)]
theorem Ii{p:κ×V}{r:List (κ×V)}{k:κ}(e:p.1=k):iu (p::r) k=some p.2:=by simp[iu,bh,e]
theorem Ih{p:κ×V}{r:List (κ×V)}{k:κ}(e:¬p.1=k):iu (p::r) k=iu r k:=by simp[iu,bh,e]
theorem Sh(kvs:List (κ×V))(k:κ)(v:V):(oo kvs k v).length<=kvs.length+1:=by
 unfold oo;split
 ·rw[af];omega
 ·rw[a9,aN,List.length_nil];omega
theorem jR.nU{o:Option V}{u:Option Value}(r:jR o u):o.isSome=u.isSome:=by
 cases o with
 | none=>cases u with
  | none=>rfl
  | some _=>exact(show False from r).elim
 | some _=>cases u with
  | none=>exact(show False from r).elim
  | some _=>rfl
theorem KV.val{kvs:List (κ×V)}{vs:List (κ×Value)}(r:KV kvs vs)(k:κ):jR (iu kvs k) (valueAt vs k):=by
 unfold KV at r;induction r with
 | nil=>exact True.intro
 | @cons p q ps qs h t ih=>
  obtain⟨h1,h2⟩:=h;by_cases e:p.1=k
  ·have e':q.1=k:=h1.symm.trans e;have b:valueAt (q::qs) k=some q.2:=by simp[valueAt,bh,e']
   rw[Ii e,b];exact h2
  ·have e':¬q.1=k:=fun z=>e (h1.trans z)
   have b:valueAt (q::qs) k=valueAt qs k:=by simp[valueAt,bh,e']
   rw[Ih e,b];exact ih
theorem KV.any{kvs:List (κ×V)}{vs:List (κ×Value)}(r:KV kvs vs)(k:κ):(kvs.any fun kv=>decide (kv.1=k))=vs.any fun kv=>decide (kv.1=k):=by
 unfold KV at r;induction r with
 | nil=>rfl
 | cons h t ih=>rw[List.any_cons,List.any_cons,ih,h.1]
theorem KV.qY{kvs:List (κ×V)}{vs:List (κ×Value)}(r:KV kvs vs)(k:κ){y:V}{u:Value}(ry:RelV y u) :
  KV (kvs.map fun kv=>if kv.1=k then(kv.1,y) else kv) (vs.map fun kv=>if kv.1=k then(kv.1,u) else kv):=by
 unfold KV at r ⊢;induction r with
 | nil=>exact .nil
 | @cons p q ps qs h t ih=>
  rw[au,au];refine .cons ?_ ih;obtain⟨h1,h2⟩:=h;by_cases e:p.1=k
  ·rw[if_pos e,if_pos (h1.symm.trans e)];exact⟨h1,ry⟩
  ·rw[if_neg e,if_neg (fun z=>e (h1.trans z))];exact⟨h1,h2⟩
theorem KV.put{kvs:List (κ×V)}{vs:List (κ×Value)}(r:KV kvs vs)(k:κ){y:V}{u:Value}(ry:RelV y u):KV (oo kvs k y) (stored vs k u):=by
 unfold oo stored;rw[r.any k];by_cases e:(vs.any fun kv=>decide (kv.1=k))=true
 ·rw[if_pos e,if_pos e];exact r.qY k ry
 ·rw[if_neg e,if_neg e];exact Paired.snoc r ⟨rfl,ry⟩
theorem KV.keys{kvs:List (κ×V)}{vs:List (κ×Value)}(r:KV kvs vs):kvs.map (·.1)=vs.map (·.1):=by
 unfold KV at r;induction r with
 | nil=>rfl
 | cons h t ih=>rw[au,au,ih,h.1]
theorem KV.length{kvs:List (κ×V)}{vs:List (κ×Value)}(r:KV kvs vs):kvs.length=vs.length:=Paired.length r
end
theorem v8{P:Program}{w:World}{k:Key}{u:Value}(r:RelV (kV k) u):(gZ P w).is k u=true:=by
 cases k with
 | inl i=>obtain⟨t,e⟩:=(show ∃t,u=Value.int i t from r);subst e;exact Sn P w i t
 | inr x=>obtain⟨t,e⟩:=(show ∃t,u=Value.str x t from r);subst e;exact Sm P w x t
def uK(i:Expr):Prop:=∀ov iv,subscripted i false ov iv=operate [ov,iv] (getItem ov iv)
theorem Hs{prog:Program}{w:World}{A:Around}{E:Value->Shared->Prop}{s:Shared}{env:Env}{value slice:Expr}{pos:Pos}{T id:String}{Q:Value->Shared->Prop}
  (hl:typeLookup (.type T) "__getitem__"=pure (some (.builtin id))) (hs:uK slice)
  (h:wpAny (model prog w) A (eval value env) (fun o cB=>wpAny (model prog w) A (eval slice env) (fun i gO=>gO.TypeIs o T/\wpAny (model prog w) A (getItem o i) Q E gO) E cB) E s) :
  wpAny (model prog w) A (eval (.Subscript value slice pos) env) Q E s:=by
 refine Subscript_ (wpAny_mono h (fun o cB iZ=>wpAny_mono iZ (fun i gO pD=>?_) fun _ _ x=>x) fun _ _ x=>x);obtain⟨hT,pD⟩:=pD;unfold subscriptTail;refine aa ?_;rw[getitemInPython_of_ne hT.not_modules];refine aa (wpAny_specialOf hT hl ?_);have fin:wpAny (model prog w) A (subscripted slice false o i) (fun r kZ=>wpAny (model prog w) A (letTemporaryGo value o r >>= fun _=>pure r) Q E kZ) E gO:=by
  rw[hs o i];exact wpAny_operating (wpAny_mono pD (fun r kZ rj=>aa (wpAny_letTemporaryGo (ai rj))) fun _ _ x=>x)
 first
  | exact ai (aa fin)
  | exact aa (ai (aa fin))
  | exact aa fin
structure M2 (X:Cx) (o:Expr) (m:Str) (apos:Pos) (e f:Expr) (de:Pos):Prop where
 base:attributeBase o m X.env (eval o X.env)=eval o X.env
 Xd:((backTo de (starEach [e,f] X.env)).all (fun x=>!x.1)&&(backToKw de (keywordEach [] X.env)).all (fun x=>x.1.isSome)
  && decide (([e,f]:List Expr).length+([]:List Keyword).length+(if ([]:List Keyword).isEmpty then 0 else 1)<30))=true
 line:(apos.endLine==de.line)=true
 trees:backTo de (starEach [e,f] X.env)=[(false,eval e X.env),(false,eval f X.env)]
section
variable {P:Program} {w:World} {H:Hp} {h:Heap} {a:Addr}
theorem tj{kvs:List (Key×V)}{ep:Nat}(ok:ip P w H h)(e:Rd H a (.dK kvs ep)):kvs.length<=sizeLine/\(a==sysModules)=false/\∃vs,KV kvs vs/\h.DictAt (gZ P w) a vs ep:=
 show cU P w H h a (.dK kvs ep) from e.ok ok
theorem v7{kvs:List (Key×V)}{ep:Nat}(ok:ip P w H h)(e:Rd H a (.dK kvs ep)):kvs.length<=sizeLine/\(a==sysModules)=false/\∃vs,KV kvs vs/\h.DictOf (gZ P w) a vs:=
 let⟨z1,z2,vs,z3,z4⟩:=tj ok e
 ⟨z1,z2,vs,z3,z4.dictOf⟩
theorem GA{kvs:List (Key×V)}{ep:Nat}(ok:ip P w H h)(e:H a=some (.dK kvs ep)):kvs.length<=sizeLine/\(a==sysModules)=false/\∃vs,KV kvs vs/\h.DictOf (gZ P w) a vs:=v7 ok (.inl e)
end
def ku(H:Hp)(a:Addr)(y:V)(r:Option V):Prop:=∃kvs ep k,Rd H a (.dK kvs ep)/\y=kV k/\r=iu kvs k
theorem ku.k{H:Hp}{a:Addr}{kvs:List (Key×V)}{ep:Nat}{k:Key}(e:H a=some (.dK kvs ep)):ku H a (kV k) (iu kvs k):=⟨kvs,ep,k,.inl e,rfl,rfl⟩
section
variable {X:Cx} {pins:List (Addr×Obj)} {σ:St} {H:Hp} {s:Shared} {a:Addr} {y v:V} {u r:Value} {o:Option V} {A:Around} {E:Value->Shared->Prop}
theorem Inv.big(I:Inv X pins σ H s):sysModules<s.heap.objs.size:=by
 have h:mainGlobals<s.heap.objs.size:=(I.mod.glob.keeps I.bk).lt;exact Nat.lt_trans (by decide) h
theorem Ra{Q:Value->Shared->Prop}(I:Inv X pins σ H s)(g:ku H a y (some v))(ry:RelV y u)(h:∀w' s',Inv X pins σ H s'->RelV v w'->Q w' s'):wpAny (model X.prog X.w) A (getItem (.ref a) u) Q E s:=by
 obtain⟨kvs,ep,k,e,ey,l⟩:=g;subst ey;obtain⟨z,hd,vs,rel,dd⟩:=v7 I.cN e;obtain⟨w',hw,kK⟩:=jR.some_of (v:=v) (o:=valueAt vs k) (by rw[l];exact rel.val k);exact wpAny_getItem_of (v8 ry) dd.mapOf hw (h w' _ (I.tok _) kK)
theorem NY{Q:Value->Shared->Prop}(I:Inv X pins σ H s)(g:ku H a y o)(ry:RelV y u)(h:∀s',Inv X pins σ H s'->Q (.bool (!o.isSome)) s'):wpAny (model X.prog X.w) A (compareOp .NotIn u (.ref a)) Q E s:=by
 obtain⟨kvs,ep,k,e,ey,l⟩:=g;subst ey;obtain⟨z,hd,vs,rel,dd⟩:=v7 I.cN e;refine wpAny_notIn_of (v8 ry) hd dd.mapOf ?_;rw[<-(rel.val k).nU,<-l];exact h _ (I.tok _)
theorem HM{h':Heap}{t':Nat}{ob:HO}(I:Inv X pins σ H s)(mu:zz (H a))(hs:Heap.SameBut a s.heap h')(he:∃q,h'.get? a=some q)(new:cU X.prog X.w (upd H a ob) h' a ob) :
  Inv X pins σ (upd H a ob) { s with heap:=h',toks:=t' }:=
 I.write (x:=a) (e:=a) mu (.inl rfl) (fun b q hb z=>(hs.2 b hb).trans z) he new
theorem BD{P:Program}{w:World}{h':Heap}{vs:List (Key×Value)}(dd:h'.DictOf (gZ P w) a vs):∃ep,h'.DictAt (gZ P w) a vs ep:=let⟨o,es,ep,r⟩:=dd;⟨ep,o,es,r⟩
theorem B1{P:Program}{w:World}{H':Hp}{h':Heap}{kvs:List (Key×V)}{vs:List (Key×Value)}{ep:Nat}(z:kvs.length<=sizeLine)(hd:(a==sysModules)=false)(rel:KV kvs vs)(dd:h'.DictAt (gZ P w) a vs ep) :
  cU P w H' h' a (.dK kvs ep):=⟨z,hd,vs,rel,dd⟩
theorem Q9{kvs:List (Key×V)}{ep:Nat}{k:Key}{Q:Unit->Shared->Prop}(I:Inv X pins σ H s)(e:H a=some (.dK kvs ep))(l:kvs.length<sizeLine)(ry:RelV (kV k) u)(rv:RelV v r)(h:∀s' j4,Inv X pins σ (upd H a (.dK (oo kvs k v) j4)) s'->Q () s') :
  wpAny (model X.prog X.w) A (setItem (.ref a) u r) Q E s:=by
 obtain⟨z,hd,vs,rel,dd⟩:=GA I.cN e;have hz:vs.length<=sizeLine:=by rw[<-rel.length];exact z
 have hl:(oo kvs k v).length<=sizeLine:=by have:=Sh kvs k v;omega
 refine wpAny_setItem_pairs (hsz:=hz) (v8 ry) dd fun h' Bo hs=>?_
 have he:∃q,h'.get? a=some q:=let⟨q,_,_,hq,_⟩:=Bo;⟨q,hq⟩
 obtain⟨j4,da⟩:=BD Bo;exact h _ j4 (HM I (by rw[e];exact True.intro) hs he (B1 hl hd (rel.put k rv) da))
end
def LR(td ty:TE):TE:=fun σ H Q=>td σ H fun x H1=>ty σ H1 fun y H2=>∃a v,x=.ref a/\ku H2 a y (some v)/\Q v H2
def LQ(td ty tv:TE):TS:=fun D σ H=>tv σ H fun v H1=>td σ H1 fun x H2=>ty σ H2 fun y H3=>∃a kvs ep k,x=.ref a/\H3 a=some (.dK kvs ep)/\y=kV k/\kvs.length<sizeLine/\∀j4,D.nx σ (upd H3 a (.dK (oo kvs k v) j4))
def Xt(H:Hp)(a:Addr):Prop:=∃kvs ep,Rd H a (.dK kvs ep)
theorem NK{X:Cx}{pins:List (Addr×Obj)}{σ:St}{H:Hp}{s:Shared}{a:Addr}(I:Inv X pins σ H s)(d:Xt H a) :
  s.TypeIs (.ref a) "dict"/\(∀b,Value.ref a=.ref b->∃ob,s.heap.get? b=some ob/\ob.dict=none)/\(a==sysModules)=false:=by
 obtain⟨kvs,ep,e⟩:=d;obtain⟨_,hd,vs,_,dd⟩:=v7 I.cN e;refine⟨dd.typeIs,fun b q=>?_,hd⟩;cases q;obtain⟨ob,_,_,h1,h2,_⟩:=dd;exact⟨ob,h1,h2.2.1⟩
section
variable {X:Cx} {o i e value:Expr} {pos pos' mn:Pos} {td ty tv:TE}
theorem HL(ho:PE X o td)(hi:PE X i ty)(hs:uK i):PE X (.Subscript o i pos) (LR td ty):=by
 intro pins s σ H Q I h;refine Hs PySem.F.slot_dict_getitem.lookup hs (cL (ho pins s σ H _ I h) fun u s1 cq=>?_);obtain⟨x,H1,I1,rx,q1⟩:=cq;refine cL (hi pins s1 σ H1 _ I1 q1) fun iv s2 cq=>?_
 obtain⟨y,H2,I2,ry,a,v,ex,g,q2⟩:=cq;subst ex;obtain rfl:u=Value.ref a:=rx;obtain⟨kvs,ep,k,e,_⟩:=id g;exact⟨(NK I2 ⟨kvs,ep,e⟩).1,Ra I2 g ry fun w' s' I' r'=>⟨v,H2,I',r',q2⟩⟩
theorem HK(ho:PE X o td)(hi:PE X i ty)(hv:PE X value tv)(hs:swapsWith value (some (.Subscript o i pos')) pos.line X.env=pure false) :
  PS X (.Assign [.Subscript o i pos'] value pos) (LQ td ty tv):=by
 intro pins s σ H D I h;refine wpAny_Assign_Subscript (cL (hv pins s σ H _ I h) fun r s1 cq=>?_) hs;obtain⟨v,H1,I1,rv,q1⟩:=cq;refine cL (ho pins s1 σ H1 _ I1 q1) fun u s2 cq=>?_
 obtain⟨x,H2,I2,rx,q2⟩:=cq;refine cL (hi pins s2 σ H2 _ I2 q2) fun iv s3 cq=>?_
 obtain⟨y,H3,I3,ry,a,kvs,ep,k,ex,g,ey,l,q3⟩:=cq;subst ex ey;obtain rfl:u=Value.ref a:=rx;exact Q9 I3 g l ry rv fun s4 j4 I4=>⟨σ,_,I4,q3 j4⟩
theorem Pg{P:Program}{w:World}{H:Hp}(h:Heap)(hb:sysModules<h.objs.size):cU P w H (h.push { cls:=.type "dict",data:=.dict #[] }) h.objs.size (.dK [] 0):=
 ⟨ba _,beq_eq_false_iff_ne.mpr (Ne.symm (aA hb)),[],.nil,_,#[],av _ rfl,⟨rfl,rfl,rfl⟩,rfl,fun _ he=>by simp at he,Pairs.nil,List.nodup_nil⟩
def NJ:TE:=fun _ H Q=>∀p,H p=none->Q (.ref p) (upd H p (.dK [] 0))
theorem Pf:PE X (.Dict [] [] pos) NJ:=fun pins s σ H Q I h=>
 wpAny_Dict_empty ⟨.ref s.heap.objs.size,_,I.laid (a:=s.heap.objs.size) (o:=.dK [] 0) (t':=s.toks) (fun _ _ q=>ae _ q) (az _) (Pg s.heap I.big),rfl,h _ (I.cN.fresh (az _))⟩
end
section
variable {X:Cx} {o e f:Expr} {apos de:Pos} {td ty tx:TE}
theorem Q8:c8 X (.builtin "len") (fun xs H Q=>∃a kvs ep,xs=[V.ref a]/\H a=some (.dK kvs ep)/\Q (.int kvs.length) H):=by
 intro pins s σ H xs us Q I r h;obtain⟨a,kvs,ep,rfl,ha,q⟩:=h;obtain⟨u,rfl,ru⟩:=j8 r;cases ru;obtain⟨z,hd,vs,rel,dd⟩:=v7 I.cN (.inl ha);refine call_len_dict hd dd (by rw[<-rel.length];rw[sizeLine_eq] at z;omega) ?_;rw[<-rel.length];exact⟨.int kvs.length,H,I.tok _,⟨_,rfl⟩,q⟩
end
end L2
namespace PySem
open Sem (wp)
theorem JN:typeLookup (.type "list") "keys"=pure none:=by rw[typeLookup_type,builtinLookup_eq_fast];kernel_rfl
theorem JO{prog:Program}{w:World}{A:Around}{E:Value->Shared->Prop}{s:Shared}{a:Addr}{o:Obj}{xs:Array Value}{k:Nat}{name:Str}{Q:Option Value->Shared->Prop}
  (hx:s.heap.get? a=some o) (hc:o.cls=.type "list") (y1:o.data=.seq xs k) (hd:o.dict=none) (yH:typeLookup (.type "list") name=pure none) (yG:(["__module__","__name__","__qualname__","__doc__","__annotations__"]:List Str).contains name=false) (hA:A.handled=none)
  (h:∀h' tk e,Heap.NewExcOf s.heap h' e "AttributeError"->Q none { s with heap:=h',toks:=tk }) (hsz:name.length+100<=sizeLine:=by size_fits) :
  wpAny (model prog w) A (getAttr? (.ref a) name) Q E s:=by
 obtain⟨c,X8,dat,sl⟩:=o;simp only at hc y1 hd;subst hc y1 hd;obtain⟨hp,g,d,tk,os⟩:=s;have hT:∀mY,(⟨hp,g,d,mY,os⟩:Shared).TypeIs (.ref a) "list":=fun _=>⟨_,hx,rfl⟩
 have f1:=sub_AttributeError;have f3:=F.slot_list_getattribute.lookup;have f4:=F.slot_list_getattribute.bind (.ref a);have f5:=am_list_getattr_none;unfold getAttr? getAttrBy? getAttrBy;repeat(any_goals (first | assumption | exact hT _ | ((with_reducible show wpAny _ _ (call (Value.builtin "list.__getattribute__") _ _) _ _ _);refine call_meets F.slot_list_getattribute (hT _) am_entry_list_getattribute (F.args_list_getattribute_2 _ _) (meets_getattribute_miss_list a xs k sl name _ yH yG hsz) ⟨hx,hA,fun h' mY e iU=>?_⟩) | wp_step))
 obtain⟨t',u',he⟩:=iU.there;show wpAny _ _ (getattributeRaised _ _ _ _ _ _ _) _ _ _;unfold getattributeRaised;repeat(any_goals (first | assumption | wp_step))
 exact h _ _ _ iU.of
end PySem
namespace PySem
open Sem (wp)
theorem AQ:entryFor table "dict.update.loop"=some Builtin.«dict.update.loop»:=entryFor_of_tree (by kernel_rfl)
theorem sg:plainId "dict.update.loop"=true:=by decide +kernel
section
variable {prog:Program} {w:World} {K:Type} [DecidableEq K] {knd:KeyKind prog w K} {A:Around} {R:Result->Shared->Prop} {I:Addr} {fp wr:List Addr} {G:Array GenState->Array GenState->Prop} {n:Nat} {P:Nat->Value->Prop} {St:Nat->Shared->Prop}
theorem Sg{kvs:List (K×Value)}(hn:(kvs.map (·.1)).Nodup){i:Nat}{k:K}{y:Value}(e:kvs[i]?=some (k,y)):stored (kvs.take i) k y=kvs.take (i+1):=by
 have jF:(kvs.take i).any (fun kv=>kv.1=k)=false:=by
  rw[Bool.eq_false_iff];intro z;rw[List.any_eq_true] at z;obtain⟨p,hp,hk⟩:=z;obtain⟨j,hj,KJ⟩:=List.getElem_of_mem hp;rw[aV] at hj;have hi:i<kvs.length:=(aj.mp e).1;have e1:(kvs.map (·.1))[j]'(by rw[af];omega)=(kvs.map (·.1))[i]'(by rw[af];omega):=by
   rw[List.getElem_map,List.getElem_map];rw[List.getElem_take] at KJ;rw[KJ,(aj.mp e).2];simpa using hk
  exact bN.mp hn j i (by rw[af];omega) (by rw[af];omega) (by omega) e1
 unfold stored;rw[jF];simp only[aF,bE];rw[aK,e];rfl
theorem Pe(W:WalksS prog w A.in1 I fp wr G n P St)(S:Addr)(j3:S∉fp)(h0:Heap)(kvs:List (K×Value))(hx:kvs.length=n)(hn:(kvs.map (·.1)).Nodup)(hsz:kvs.length<=sizeLine)
  (gR:∀i v,P i v->∃k y key a,kvs[i]?=some (k,y)/\v=.ref a/\knd.is k key=true/\h0.IsTuple a #[key,y]/\a≠S/\a∉wr) :
  ∀(m i:Nat) (s:Shared),n-i=m->i<=n->St i s->s.heap.DictOf knd S (kvs.take i)->(∀b o,b≠S->b∉wr->h0.get? b=some o->s.heap.get? b=some o)->
   (∀s',Moved (S::wr) G s s'->s'.heap.DictOf knd S kvs->R (.ok (.ret .none)) s')->codeAny (model prog w) A (.builtin "dict.update.loop" ⟨[.ref S,.ref I,rawInt (i:Int),.none],[]⟩) R s:=by
 have k8:S∉wr:=fun h=>j3 (W.sub _ h)
 have more:∀b∈wr,b∈S::wr:=fun b hb=>aB _ hb
 intro m;induction m with
 | zero=>
  intro i s hk hi st T jT q;have e:i=n:=by omega
  subst e;refine bM AQ ?_;rw[bg sg _];show wpAny _ A.in1 (pyNext (.ref I) >>= _) _ _ s;refine aa (W.done s _ _ st fun s' hm=>?_);show wpAny _ A.in1 (Builtin.Dict.addKeywords S [] >>= _) _ _ s';rw[<-hx,aS] at T;refine aa (ai (ai (q s' (hm.mono more) ?_)));obtain⟨o,es,ep,h1,r⟩:=T;exact⟨o,es,ep,hm.heap S _ k8 h1,r⟩
 | succ m ih=>
  intro i s hk hi st T jT q;have cS:i<n:=by omega
  refine bM AQ ?_;rw[bg sg _];show wpAny _ A.in1 (pyNext (.ref I) >>= _) _ _ s;refine aa (W.item i s _ _ cS st fun v s' hP eG hm=>?_);obtain⟨k,y,key,a,sJ,rfl,jP,hT,Fw,y7⟩:=gR i v hP;have T':s'.heap.DictOf knd S (kvs.take i):=by
   obtain⟨o,es,ep,h1,r⟩:=T;exact⟨o,es,ep,hm.heap S _ k8 h1,r⟩
  obtain⟨o,ho,hc,nn,hd⟩:=hT;have i4:s'.heap.get? a=some o:=hm.heap a o y7 (jT a o Fw y7 ho);show wpAny _ A.in1 (holding [Value.ref a] _ >>= _) _ _ s';refine aa (bA ?_);refine aa (wpAny_tryCatch ?_);unfold Builtin.Dict.pairItems;refine aa (wpAny_typeOf (T:="tuple") ⟨o,i4,hc⟩ ?_);rw[if_pos (by decide)];refine aa (wpAny_seqItems i4 hd ?_);refine ai ?_;show wpAny _ A.in1 (holding [key,y] (dictSet S key y)) _ _ s';refine bA (wpAny_dictSet_pairs (hsz:=by rw[aV];omega) jP T' fun h' T2 sb=>?_);rw[Sg hn sJ] at T2;refine ai ⟨bT sg _,ih (i+1) _ (by omega) cS (W.frame _ s' _ _ eG (Nat.le_succ _) fun b hb o e=>?_) T2 (fun b o pP y3 e=>?_) fun s2 ng T3=>?_⟩
  ·rw[sb.2 b (fun z:b=S=>j3 (by rw[<-z];exact hb))];exact e
  ·show h'.get? b=some o;rw[sb.2 b pP];exact hm.heap b o y3 (jT b o pP y3 e)
  ·refine q s2 (Moved.trans W.gtrans ((hm.mono more).then_heap (Nat.le_succ _) fun b o hb e=>?_) ng) T3;rw[sb.2 b (fun z:b=S=>hb (by rw[z];exact bj))];exact e
end
section
variable {prog:Program} {w:World} {K:Type} [DecidableEq K] {knd:KeyKind prog w K} {A:Around} {E:Value->Shared->Prop} {s:Shared}
theorem RH{l:Addr}{items:List Value}{kvs:List (K×Value)}{Q:Value->Shared->Prop}(hh:A.handled=none)(hl:∃o n,s.heap.get? l=some o/\o.cls=.type "list"/\o.dict=none/\o.data=.seq items.toArray n)(hx:kvs.length=items.length)(hn:(kvs.map (·.1)).Nodup)(hsz:kvs.length<=sizeLine)
  (gR:∀(i:Nat) (v:Value),items[i]?=some v->∃k y key a,kvs[i]?=some (k,y)/\v=.ref a/\knd.is k key=true/\s.heap.IsTuple a #[key,y])
  (h:∀h' tk,h'.DictOf knd s.heap.objs.size kvs->(∀b o,s.heap.get? b=some o->h'.get? b=some o)->Q (.ref s.heap.objs.size) { s with heap:=h',toks:=tk }) :
  wpAny (model prog w) A (call (.type "dict") [.ref l]) Q E s:=by
 obtain⟨ol,nl,pG,kh,vO,sG⟩:=hl;refine callType_codes (Q₁:=fun obj cB=>obj=.ref s.heap.objs.size/\cB={ s with heap:=s.heap.push { cls:=.type "dict",data:=.dict #[] } }) F.kt_called_dict (F.kt_typeCall_dict_1 _) F.entry_dict_init (kt_code_dict_new _ ⟨rfl,rfl⟩) ?_;rintro obj cB ⟨rfl,rfl⟩;have kg:(s.heap.push { cls:=.type "dict",data:=.dict #[] }).DictOf knd s.heap.objs.size []:=Heap.DictOf.new s.heap;refine⟨kg.typeIs,F.args_dict_init_2 _ _,?_⟩;have jo:(s.heap.push { cls:=.type "dict",data:=.dict #[] }).get? l=some ol:=ae _ pG;unfold Builtin.«dict.__init__»;refine aa ?_;unfold Builtin.Dict.selfAndRest;refine aa (wpAny_notOrdered_dict kg.typeIs ?_);show wpAny _ _ (pure (s.heap.objs.size,[Value.ref l])) _ _ _;refine ai ?_;show wpAny _ _ (Builtin.Dict.updateFrom "dict.__init__" s.heap.objs.size (.ref l) [] .none) _ _ _;unfold Builtin.Dict.updateFrom;refine aa (wpAny_typeOf (T:="list") ⟨_,jo,kh⟩ ?_);rw[if_pos (by decide)];refine aa (JO jo kh sG vO JN (by decide) (by simpa using hh) ?_);intro h' tk e ne;simp only[Option.isNone_none,bO];refine aa (wpAny_rule ?_);have kp:∀b o,(s.heap.push { cls:=.type "dict",data:=.dict #[] }).get? b=some o->h'.get? b=some o:=ne.keeps
 have qu:h'.IsList l items.toArray:=⟨_,kp _ _ jo,kh,nl,sG⟩
 have zd:h'.DictOf knd s.heap.objs.size []:=by
  obtain⟨o,es,ep,h1,r⟩:=kg;exact⟨o,es,ep,kp _ _ h1,r⟩
 have qt:l<s.heap.objs.size:=ax pG;have rG:s.heap.objs.size<h'.objs.size:=by
  obtain⟨o,es,ep,h1,r⟩:=zd;exact ax h1
 refine aa (wpAny_pyIter_list qu (ai ⟨bT sg _,?_⟩));have pH:l≠h'.objs.size:=aA (Nat.lt_trans qt rG);have j3:s.heap.objs.size∉[h'.objs.size,l]:=by
  simp only[aq,br,or_false,not_or];exact⟨aA rG,Nat.ne_of_gt qt⟩
 have Ff:A.in1.in1.handled=none:=by simpa using hh
 refine Pe ((Walks.list Ff _ l pH items.toArray).toS) s.heap.objs.size j3 s.heap kvs (by simpa using hx) hn hsz (fun i v hv=>?_) (items.toArray.size-0) 0 _ rfl (ba _)
  ⟨⟨_,av _ rfl,rfl,rfl⟩,(qu.push _)⟩ (by
   obtain⟨o,es,ep,h1,r⟩:=zd;exact⟨o,es,ep,ae _ h1,r⟩) (fun b o sP Fv e=>ae _ (kp _ _ (ae _ e))) ?_
 ·rw[List.getElem?_toArray] at hv;obtain⟨k,y,key,a,h1,h2,h3,h4⟩:=gR i v hv;have ha:a<s.heap.objs.size:=by obtain⟨o,ho,_⟩:=h4;exact ax ho
  refine⟨k,y,key,a,h1,h2,h3,h4,aA ha,?_⟩;simp only[aR];exact aA (Nat.lt_trans ha rG)
 ·intro s' hm T;obtain⟨h2,g',d',mY,t4⟩:=s';have eg:g'=s.gens:=hm.gens;have ed:d'=s.drawn:=hm.drawn;have eo:t4=s.os:=hm.os;subst eg ed eo;refine⟨rfl,h h2 mY T fun b o e=>?_⟩;have hb:b<s.heap.objs.size:=ax e;refine hm.heap b o ?_ (ae _ (kp _ _ (ae _ e)));simp only[aq,br,or_false,not_or];exact⟨aA hb,aA (Nat.lt_trans hb rG)⟩
end
end PySem
namespace PySem
open Sem (wp)
end PySem
namespace L2
open PySem PySem.Spec PyProof.Rows
noncomputable def kQ:D->Option Key
 | .int i=>some (.inl i)
 | .str x=>some (.inr x)
 | _=>none
noncomputable def pY:Key->D
 | .inl i=>.int i
 | .inr x=>.str x
theorem tE{K:PySem.W.Frag}{G:Hp}{v:V}{d:D}{k:Key}(r:Rep K G v d)(h:kQ d=some k):v=kV k:=by
 cases d<;>simp only[kQ,aD,reduceCtorEq] at h<;>subst h<;>simp only[Rep] at r<;>subst r<;>rfl
noncomputable def look(kvs:List (Key×D))(k:Key):Option D:=(kvs.find? fun kv=>decide (kv.1=k)).map (·.2)
noncomputable def kP(kvs:List (Key×D))(k:Key)(d:D):List (Key×D):=
 if (kvs.any fun kv=>decide (kv.1=k))=true then kvs.map (fun kv=>if kv.1=k then(kv.1,d) else kv) else kvs++[(k,d)]
section
variable {K:PySem.W.Frag} {G:Hp}
theorem cf.length:∀{ks:List (Key×V)} {kvs:List (Key×D)},cf K G ks kvs->ks.length=kvs.length
 | [],[],_=>rfl
 | a::ks,b::kvs,h=>by
  simp only[cf] at h;simp only[aN,cf.length h.2]
 | [],_::_,h=>by simp only[cf] at h
 | _::_,[],h=>by simp only[cf] at h
theorem cf.nil:cf K G [] []:=by simp only[cf]
theorem cf.any(k:Key):∀{ks:List (Key×V)} {kvs:List (Key×D)},cf K G ks kvs->(ks.any fun kv=>decide (kv.1=k))=kvs.any fun kv=>decide (kv.1=k)
 | [],[],_=>rfl
 | a::ks,b::kvs,h=>by
  simp only[cf] at h;rw[List.any_cons,List.any_cons,h.1.1,cf.any k h.2]
 | [],_::_,h=>by simp only[cf] at h
 | _::_,[],h=>by simp only[cf] at h
theorem cf.snoc{k:Key}{v:V}{d:D}(r:Rep K G v d):∀{ks:List (Key×V)} {kvs:List (Key×D)},cf K G ks kvs->cf K G (ks++[(k,v)]) (kvs++[(k,d)])
 | [],[],_=>by simp only[List.nil_append,cf];exact⟨⟨trivial,r⟩,trivial⟩
 | a::ks,b::kvs,h=>by
  simp only[cf] at h;simp only[List.cons_append,cf];exact⟨h.1,cf.snoc r h.2⟩
 | [],_::_,h=>by simp only[cf] at h
 | _::_,[],h=>by simp only[cf] at h
theorem cf.qY{k:Key}{v:V}{d:D}(r:Rep K G v d):∀{ks:List (Key×V)} {kvs:List (Key×D)},cf K G ks kvs->cf K G (ks.map fun kv=>if kv.1=k then(kv.1,v) else kv) (kvs.map fun kv=>if kv.1=k then(kv.1,d) else kv)
 | [],[],_=>by simp only[List.map_nil,cf]
 | a::ks,b::kvs,h=>by
  simp only[cf] at h;simp only[au,cf];refine⟨?_,cf.qY r h.2⟩;rw[h.1.1];split
  ·exact⟨rfl,r⟩
  ·exact⟨h.1.1,h.1.2⟩
 | [],_::_,h=>by simp only[cf] at h
 | _::_,[],h=>by simp only[cf] at h
theorem cf.put{ks:List (Key×V)}{kvs:List (Key×D)}{k:Key}{v:V}{d:D}(h:cf K G ks kvs)(r:Rep K G v d):cf K G (oo ks k v) (kP kvs k d):=by
 unfold oo kP;rw[h.any k];split
 ·exact h.qY r
 ·exact h.snoc r
theorem cf.look{k:Key}{d:D}:∀{ks:List (Key×V)} {kvs:List (Key×D)},cf K G ks kvs->look kvs k=some d->∃v,iu ks k=some v/\Rep K G v d
 | [],[],_,e=>by simp[L2.look] at e
 | a::ks,b::kvs,h,e=>by
  simp only[cf] at h;unfold L2.look at e;unfold iu;rw[bh] at e ⊢;rw[h.1.1];by_cases hk:b.1=k
  ·simp only[hk,decide_true,aM,aD] at e ⊢;subst e;exact⟨_,rfl,h.1.2⟩
  ·simp only[hk,decide_false] at e ⊢;exact cf.look h.2 e
 | [],_::_,h,_=>by simp only[cf] at h
 | _::_,[],h,_=>by simp only[cf] at h
theorem cf.isSome(k:Key):∀{ks:List (Key×V)} {kvs:List (Key×D)},cf K G ks kvs->(iu ks k).isSome=(L2.look kvs k).isSome
 | [],[],_=>rfl
 | a::ks,b::kvs,h=>by
  simp only[cf] at h;unfold L2.look iu;rw[bh,bh,h.1.1];by_cases hk:b.1=k
  ·simp only[hk,decide_true,aM,Option.isSome_some]
  ·simp only[hk,decide_false];exact cf.isSome k h.2
 | [],_::_,h=>by simp only[cf] at h
 | _::_,[],h=>by simp only[cf] at h
end
section
variable {X:Cx} {pos:Pos} {e i':Expr} {te ti tv:TD}
def oV:TD:=fun _ Q=>Q (.ov (.dc []))
theorem Ap:PD X (.Dict [] [] pos) oV:=by
 refine⟨_,Pf,fun ρ σ G0 H0 G H Q P E h k=>fun d hd=>?_⟩;refine k _ _ (.ov (.dc [])) G (.own E.e.s hd) ⟨d,[],rfl,by simp,⟨rfl,[],0,fk,cf.nil⟩,fun q hq=>?_⟩ h;simp only[aR] at hq;subst hq;exact⟨hd,E.e.s.free hd⟩
def sX(neg:Bool):O2:=fun d e Q=>match e with
 | .dic kvs=>∃k,kQ d=some k/\Q (.fz (.bl (if neg then !(look kvs k).isSome else(look kvs k).isSome)))
 | _=>False
theorem Q7(hu:X.A.units+64<cLine):gB X (compareOp .NotIn) (fun x y H Q=>∃a o,y=.ref a/\ku H a x o/\Q (.bl (!o.isSome)) H):=by
 intro pins s σ H x y v u Q I rx ry h;obtain⟨a,o,rfl,g,q⟩:=h;cases ry;exact NY I g rx fun s' I'=>⟨.bl _,H,I',rfl,q⟩
theorem Pd(hu:X.A.units+64<cLine):j5 X (compareOp .NotIn) (sX true):=by
 refine⟨_,Q7 hu,fun G H x y d e Q P s rx ry h k=>?_⟩;unfold sX at h;split at h
 ·simp only[Rep] at ry;obtain⟨a,ks,ep,rfl,hy,rk⟩:=ry;obtain⟨key,hk,q⟩:=h;rw[tE rx hk];refine⟨a,_,rfl,ku.k (k:=key) (s _ _ hy),?_⟩;rw[rk.isSome key];exact k _ _ _ G (.refl s) (fj (kI _ _ _)) q
 ·exact h.elim
def mT(te ti:TD):TD:=fun ρ Q=>te ρ fun r=>ti ρ fun rk=>match r.val with
 | .dic kvs=>∃k d,kQ rk.val=some k/\look kvs k=some d/\Q (.fz d)
 | _=>False
theorem tG(hu:X.A.units+64<cLine)(he:PD X e te)(hi:PD X i' ti)(hs:uK i':=by intro _ _;rfl):PD X (.Subscript e i' pos) (mT te ti):=by
 obtain⟨t,p,q⟩:=he;obtain⟨t2,p2,q2⟩:=hi;refine⟨_,HL p p2 hs,fun ρ σ G0 H0 G H Q P E h k=>q ρ σ G0 H0 G H _ _ E h fun v H1 r G1 x1 rr hq=>?_⟩;obtain⟨G2,x2,rv,_⟩:=rr.freeze x1;refine q2 ρ σ G0 H0 G2 H1 _ _ (E.ext x2) hq fun u H3 rk G3 x3 kd cQ=>?_
 obtain⟨G4,x4,jD,_⟩:=kd.freeze x3;split at cQ
 ·rename_i kvs e1;obtain⟨key,d,hk,hl,cQ⟩:=cQ;rw[e1] at rv;simp only[Rep] at rv;obtain⟨a,ks,ep,rfl,ha,tX⟩:=rv;rw[tE jD hk];obtain⟨w,hw,kK⟩:=(cf.mono x4.g _ _ tX).look hl;refine⟨a,w,rfl,?_,k w H3 (.fz d) G4 (x2.trans x4) kK cQ⟩;rw[<-hw];exact ku.k (k:=key) (x4.s _ _ (x4.g _ _ ha))
 ·exact cQ.elim
def qL(i:Nat)(ti:TD):TD:=fun ρ Q=>match gt ρ i with
 | .ov (.dc kvs)=>ti ρ fun rk=>∃k d,kQ rk.val=some k/\look kvs k=some d/\Q (.fz d)
 | _=>False
theorem HJ(hu:X.A.units+64<cLine)(i:Nat){x:Str}{p':Pos}(hi:PD X i' ti)(hs:uK i':=by intro _ _;rfl)(hN:X.N[i]?=some x:=by rfl)(hv:js X.env.scope x:=by first | exact Or.inl rfl | exact Or.inr (Or.inl rfl) | exact Or.inr (Or.inr rfl))(hd:(x==("__debug__":Str))=false:=by decide)(fi:(x==("__classdict__":Str))=false:=by decide):PD X (.Subscript (.Name x p') i' pos) (qL i ti):=by
 obtain⟨t2,p2,q2⟩:=hi;refine⟨_,HL (jL hN hv hd fi) p2 hs,fun ρ σ G0 H0 G H Q P E h k=>?_⟩;unfold qL at h;split at h
 ·rename_i kvs hg;obtain⟨own,o1,o2⟩:=E.on;obtain⟨a,fp,b1,b2,⟨rfl,ks,ep,ha,tX⟩,b4⟩:=o2 i _ hg;refine⟨_,b1,q2 ρ σ G0 H0 G H _ _ E h fun u H3 rk G3 x3 kd cQ=>?_⟩;obtain⟨G4,x4,jD,_⟩:=kd.freeze x3;obtain⟨key,d,hk,hl,cQ⟩:=cQ;rw[tE jD hk];obtain⟨w,hw,kK⟩:=(cf.mono x4.g _ _ tX).look hl;refine⟨a,w,rfl,?_,k w H3 (.fz d) G4 x4 kK cQ⟩;rw[<-hw];exact ku.k (k:=key) (x4.h _ _ ha)
 ·exact h.elim
def oS(i:Nat)(ti tv:TD):TX:=fun D ρ=>match gt ρ i with
 | .ov (.dc kvs)=>tv ρ fun r=>ti ρ fun rk=>∃k,kQ rk.val=some k/\kvs.length<sizeLine/\D.nx (ρ.set i (.ov (.dc (kP kvs k r.val))))
 | _=>False
theorem z7(hu:X.A.units+64<cLine)(i:Nat){x:Str}{p1 p2:Pos}(hi:PD X i' ti)(he:PD X e tv)(hN:X.N[i]?=some x:=by rfl)(hv:js X.env.scope x:=by first | exact Or.inl rfl | exact Or.inr (Or.inl rfl) | exact Or.inr (Or.inr rfl))(hd:(x==("__debug__":Str))=false:=by decide)(fi:(x==("__classdict__":Str))=false:=by decide)
  (hs:swapsWith e (some (.Subscript (.Name x p1) i' p2)) pos.line X.env=pure false:=by rfl) :
  PX X (.Assign [.Subscript (.Name x p1) i' p2] e pos) (oS i ti tv):=by
 obtain⟨t,p,q⟩:=he;obtain⟨t2,tY,q2⟩:=hi;refine⟨_,HK (jL hN hv hd fi) tY p hs,fun ρ σ G0 H0 G H D E k h g=>?_⟩;unfold oS at h;split at h
 ·rename_i kvs hg;obtain⟨own,o1,o2⟩:=k.on;obtain⟨a,fp,b1,b2,⟨rfl,ks,ep,ha,tX⟩,b4⟩:=o2 i _ hg;refine q ρ σ G0 H0 G H _ _ k h fun v H' r G' x1 rr hq=>?_
  obtain⟨G2,x2,rv,_⟩:=rr.freeze x1;refine⟨_,b1,q2 ρ σ G0 H0 G2 H' _ _ (k.ext x2) hq fun u H3 rk G3 x3 kd cQ=>?_⟩;obtain⟨G4,x4,jD,_⟩:=kd.freeze x3;obtain⟨key,hk,hlen,cQ⟩:=cQ;have fm:=x2.trans x4;refine⟨a,ks,ep,key,rfl,fm.h _ _ ha,tE jD hk,by rw[tX.length];exact hlen,fun j4=>?_⟩;refine g.nx _ _ G4 _ fm.g ((k.ext fm).eT hg b1 fun fp nd ow=>?_) cQ;obtain⟨rfl,ue,Lh,oM,D4⟩:=ow;have e1:ue=ks:=by
   have:=(fm.h _ _ ha).symm.trans oM;injection this with this
   injection this with this
   exact this.symm
  subst e1;refine⟨[],by simp,⟨rfl,_,j4,fk,D4.put (rv.mono x4.g)⟩,fun q hq=>.inl hq,fun b hb _=>cX fun z=>hb (by simp[z])⟩
 ·exact h.elim
def tf:dZ:=fun ds Q=>match ds with
 | [.dic kvs]=>Q (.fz (.int kvs.length))
 | _=>False
theorem NI:mi X (.builtin "len") tf:=by
 refine⟨_,Q8,fun G H vs ds Q P s r h k=>?_⟩;unfold tf at h;split at h
 ·rename_i kvs;cases vs with
  | nil=>simp only[bV] at r
  | cons v vs=>
   cases vs with
   | cons=>simp only[bV] at r;exact r.2.elim
   | nil=>
    simp only[bV,Rep] at r;obtain⟨⟨a,ks,ep,rfl,ha,rk⟩,_⟩:=r;refine⟨a,ks,ep,rfl,s _ _ ha,?_⟩;rw[rk.length];exact k _ _ _ G (.refl s) (fj (iJ _ _ _)) h
 ·exact h.elim
def oU(i:Nat):TX:=fun D ρ=>match gt ρ i with
 | .ov o=>D.rt (.ov o)
 | _=>False
theorem Ao(i:Nat){x:Str}{p':Pos}(hN:X.N[i]?=some x:=by rfl)(hv:js X.env.scope x:=by first | exact Or.inl rfl | exact Or.inr (Or.inl rfl) | exact Or.inr (Or.inr rfl))(hd:(x==("__debug__":Str))=false:=by decide)
  (fi:(x==("__classdict__":Str))=false:=by decide):PX X (.Return (some (.Name x p')) pos) (oU i):=by
 refine⟨_,Ah (jL hN hv hd fi),fun ρ σ G0 H0 G H D E k h g=>?_⟩;unfold oU at h;split at h
 ·rename_i o hg;obtain⟨own,o1,o2⟩:=k.on;obtain⟨a,fp,b1,b2,b3,b4⟩:=o2 i _ hg;exact⟨_,b1,g.rt _ H (.ov o) G k.e ⟨a,fp,rfl,b2,b3,fun q hq=>⟨(b4 q hq).2.1,(b4 q hq).1⟩⟩ h⟩
 ·exact h.elim
end
end L2
namespace L2
open PySem PySem.Spec PyProof.Rows
section
variable {K:PySem.W.Frag} {G H:Hp}
theorem cu.length:∀{qs:List Addr} {dss:List (List D)},cu K G H qs dss->qs.length=dss.length
 | [],[],_=>rfl
 | q::qs,ds::dss,h=>by
  simp only[cu] at h;simp only[aN,cu.length h.2]
 | [],_::_,h=>by simp only[cu] at h
 | _::_,[],h=>by simp only[cu] at h
theorem cu.snoc{p:Addr}{ds:List D}{zs:List V}:∀{qs:List Addr} {dss:List (List D)},cu K G H qs dss->H p=some (.lst zs)->bV K G zs ds->cu K G H (qs++[p]) (dss++[ds])
 | [],[],_,h1,h2=>by simp only[List.nil_append,cu];exact⟨⟨zs,h1,h2⟩,trivial⟩
 | q::qs,es::dss,h,h1,h2=>by
  simp only[cu] at h;simp only[List.cons_append,cu];exact⟨h.1,cu.snoc h.2 h1 h2⟩
 | [],_::_,h,_,_=>by simp only[cu] at h
 | _::_,[],h,_,_=>by simp only[cu] at h
theorem cu.get:∀{qs:List Addr} {dss:List (List D)} {j:Nat} {ds:List D},cu K G H qs dss->dss[j]?=some ds->∃q xs,qs[j]?=some q/\H q=some (.lst xs)/\bV K G xs ds
 | [],[],j,ds,_,e=>by simp at e
 | q::qs,es::dss,0,ds,h,e=>by
  simp only[cu] at h;simp only[aW,aD] at e;subst e;obtain⟨⟨xs,h1,h2⟩,_⟩:=h;exact⟨q,xs,rfl,h1,h2⟩
 | q::qs,es::dss,j+1,ds,h,e=>by
  simp only[cu] at h;simp only[aX] at e ⊢;exact cu.get h.2 e
 | [],_::_,_,_,h,_=>by simp only[cu] at h
 | _::_,[],_,_,h,_=>by simp only[cu] at h
theorem cu.set{q:Addr}{ys:List V}{es:List D}(hy:bV K G ys es):∀{qs:List Addr} {dss:List (List D)} {j:Nat},cu K G H qs dss->qs.Nodup->qs[j]?=some q->cu K G (upd H q (.lst ys)) qs (dss.set j es)
 | [],[],j,_,_,e=>by simp at e
 | r::qs,ds::dss,0,h,nd,e=>by
  simp only[cu] at h;simp only[aW,aD] at e;subst e;simp only[List.set_cons_zero,cu];refine⟨⟨ys,fk,hy⟩,h.2.mono (cm.refl _) fun p hp xs e=>?_⟩;rw[cX (fun z:p=r=>(aL.mp nd).1 (z▸hp))];exact e
 | r::qs,ds::dss,j+1,h,nd,e=>by
  simp only[cu] at h;simp only[aX] at e;simp only[List.set_cons_succ,cu];refine⟨?_,cu.set hy h.2 (aL.mp nd).2 e⟩;obtain⟨⟨xs,h1,h2⟩,_⟩:=h;refine⟨xs,?_,h2⟩;rw[cX (fun z:r=q=>(aL.mp nd).1 (z▸ay e))];exact h1
 | [],_::_,_,h,_,_=>by simp only[cu] at h
 | _::_,[],_,h,_,_=>by simp only[cu] at h
end
def u4(wi:iW)(m:List (Option Nat))(g:gJ)(tc:gK)(te:TD):TD:=fun ρ Q=>wi ρ fun ds=>∃Iv:Nat->List (List D)->Prop,Iv 0 []/\
 (∀i d acc,ds[i]?=some d->Iv i acc->g d (c9 m ρ) fun dM=>tc dM fun b=>if b=true then te dM fun r=>match r with
  | .ow es=>acc.length<sizeLine/\Iv (i+1) (acc++[es])
  | _=>False
  else Iv (i+1) acc)/\∀acc,Iv ds.length acc->Q (.ov (.ll acc))
section
variable {X:Cx} {elt iter tg:Expr} {ifs:List Expr} {scope:Scope} {pos:Pos} {N':List Str} {m:List (Option Nat)} {wi:iW} {g:gJ} {tc:gK} {te:TD}
theorem Pb(cs:cC X N' m scope)(hk:mV m g){ww:TI}{gg:md TG}{oG:md TT}{tee:md TE}
  (q1:∀(ρ:Ev) (σ:St) (G0 H0 G H:Hp) (Q:List D->Prop) (P:It->Hp->Prop),cM X.K G0 H0 ρ σ G H->wi ρ Q->(∀J H' ds G',Ext G H G' H'->oq X.K J G' ds->Q ds->P J H')->ww σ H P)
  (q2:∀s3 H3 ex (ρ:Ev) (σ:St) (G0 H0 G H:Hp) (d:D) (v:V) (Q:Ev->Prop) (P:St->Hp->Prop),cM X.K G0 H0 ρ σ G H->Rep X.K G v d->g d ρ Q->(∀ρ' cF G' H',cM X.K G0 H0 ρ' cF G' H'->Ext G H G' H'->Q ρ'->P cF H')->gg s3 H3 ex v σ H P)
  (q3:∀s3 H3 ex (ρ:Ev) (σ:St) (G0 H0 G H:Hp) (Q:Bool->Prop) (P:Bool->Hp->Prop),cM X.K G0 H0 ρ σ G H->tc ρ Q->(∀b H' G',Ext G H G' H'->Q b->P b H')->oG s3 H3 ex σ H P)
  (q4:∀s3 H3 ex,mf X.K te (tee s3 H3 ex)):mf X.K (u4 wi m g tc te) (tq ww m gg oG tee):=by
 refine fun ρ σ G0 H0 G H Q P E h k=>q1 ρ σ G0 H0 G H _ _ E h fun J H1 ds G1 x1 wk hq=>?_
 obtain⟨Iv,i0,turn,fin⟩:=hq;intro D hD s3 ex;have E1:=E.ext x1;have uB:G1 D=none:=x1.s.free hD;have dX:∀{i:Nat} {es:List L2.D},gt (c9 m ρ) i=.ow es->False:=fun{i es} h=>by
  unfold c9 at h;rw[kb] at h;split at h
  ·rename_i o _;unfold lQ at h;split at h
   ·cases h
   ·split at h<;>cases h
  ·cases h
 have ic:∀{i:Nat} {o:OV},gt (c9 m ρ) i=.ov o->False:=fun{i o} h=>by
  unfold c9 at h;rw[kb] at h;split at h
  ·rename_i o _;unfold lQ at h;split at h
   ·cases h
   ·split at h<;>cases h
  ·cases h
 have j7:cM X.K G1 H1 (c9 m ρ) (lg m σ) G1 (upd H1 D (.lst [])):=by
  refine⟨.own x1.s hD,by simp[lg,c9],fun i d h=>?_,fun i es h=>(dX h).elim,fun i j es fs _ h=>(dX h).elim,fun _=>none,fun i es _ h=>(dX h).elim,fun i o h=>(ic h).elim⟩;unfold c9 at h;rw[kb] at h;split at h
  ·rename_i o ho;unfold lQ at h;split at h
   ·cases h
   ·rename_i j;split at h
    ·rename_i d' n4;cases h;obtain⟨v,hv,rv⟩:=E1.fz j d n4;refine⟨v,?_,rv⟩;unfold lg;rw[ao,ho];simp[hv]
    ·cases h
  ·cases h
 refine⟨fun i n cF H'=>n=ds.length-i/\i<=ds.length/\∃acc fp G',cM X.K G1 H1 (c9 m ρ) cF G' H'/\H' D=some (.lst (fp.map V.ref))/\G' D=none/\cu X.K G' H' fp acc/\(D::fp).Nodup/\(∀q∈fp,H1 q=none/\G' q=none)/\Iv i acc,
  ⟨ds.length,by simp,ba _,[],[],G1,j7,fk,uB,by simp only[cu],by simp,fun q hq=>(by cases hq),i0⟩,?_⟩
 rintro i n cF H' ⟨rfl,hi,acc,fp,G',E',hx,pM,rx,nd,fr,iv⟩;by_cases cS:i<ds.length
 ·obtain⟨w1,w2⟩:=wk;obtain⟨go,yl⟩:=w1 i ds[i] G' H' (ag cS) E'.e.g E'.e.s;refine .inr ⟨go,fun iH H2=>∃acc fp G',cM X.K G1 H1 (c9 m ρ) iH G' H2/\H2 D=some (.lst (fp.map V.ref))/\G' D=none/\cu X.K G' H2 fp acc/\(D::fp).Nodup/\(∀q∈fp,H1 q=none/\G' q=none)/\Iv (i+1) acc,fun iH H2 h2=>⟨ds.length-(i+1),by omega,rfl,cS,h2⟩,fun v H2 hy=>?_⟩;obtain⟨G2,x2,rv⟩:=yl v H2 hy;refine q2 _ _ _ (c9 m ρ) cF G1 H1 G2 H2 ds[i] v _ _ (E'.ext x2) rv (hk _ _ _ (turn i ds[i] acc (ag cS) iv)) fun nA jz G3 H3 E3 x3 cQ=>?_
  obtain⟨cQ,yM,yR⟩:=cQ;have weak:∀j,gt (c9 m ρ) j=.un\/gt (c9 m ρ) j=gt nA j:=fun j=>by
   cases hm:m[j]? with
   | none=>left;unfold c9;rw[kb,hm]
   | some o=>
    cases o with
    | none=>left;unfold c9;rw[kb,hm];rfl
    | some c=>right;exact(yR j c hm).symm
  have ql:=x2.trans x3;refine q3 _ _ _ nA jz G1 H1 G3 H3 _ _ E3 cQ fun b H4 G4 x4 l7=>?_
  have fm:=ql.trans x4;have E4:=(E3.ext x4).weak (ρ':=c9 m ρ) (yM.symm) weak;have lZ:H4 D=some (.lst (fp.map V.ref)):=fm.h _ _ hx;have oJ:G4 D=none:=fm.n D pM (by rw[hx];exact nofun);have r4:cu X.K G4 H4 fp acc:=rx.mono fm.g fun q _ zs e=>fm.h _ _ e
  have qw:∀q∈fp,H1 q=none/\G4 q=none:=fun q hq=>⟨(fr q hq).1,fm.n q (fr q hq).2 (rx.here q hq)⟩
  cases b with
  | false=>
   rw[if_neg aG] at l7 ⊢;exact⟨acc,fp,G4,E4,lZ,oJ,r4,nd,qw,l7⟩
  | true=>
   rw[if_pos rfl] at l7 ⊢;refine q4 _ _ _ nA jz G1 H1 G4 H4 _ _ (E3.ext x4) l7 fun v5 H5 r5 G5 x5 tV l6=>?_
   split at l6
   ·rename_i es;obtain⟨p,zs,rfl,c1,c2,c3,c4⟩:=tV;have E6:=E4.ext x5;have yp:H5 D=some (.lst (fp.map V.ref)):=x5.h _ _ lZ;have sM:G5 D=none:=x5.n D oJ (by rw[lZ];exact nofun);have yC:p≠D:=fun z=>by rw[z,lZ] at c1;cases c1
    have ER:p∉fp:=fun z=>r4.here p z c1
    have Fz:D∉fp:=fun z=>(aL.mp nd).1 z
    have r6:cu X.K G5 (upd H5 D (.lst ((fp++[p]).map V.ref))) (fp++[p]) (acc++[es]):=by
     refine cu.snoc (r4.mono x5.g fun q hq ys e=>?_) ?_ c4
     ·rw[cX (fun z:q=D=>Fz (z▸hq))];exact x5.h _ _ e
     ·rw[cX yC];exact c3
    refine⟨fp.map V.ref,yp,by rw[af,r4.length];exact l6.1,acc++[es],fp++[p],G5,?_,by rw[show fp.map V.ref++[V.ref p]=(fp++[p]).map V.ref by simp];exact fk,sM,by rw[show fp.map V.ref++[V.ref p]=(fp++[p]).map V.ref by simp];exact r6,?_,fun q hq=>?_,l6.2⟩
    ·refine⟨⟨E6.e.g,fun b o e=>by rw[cX (jf e hD)];exact E6.e.h b o e,fun b o e=>by rw[cX (jf e sM)];exact E6.e.s b o e,E6.e.n⟩,E6.len,E6.fz,fun i es h=>(dX h).elim,fun i j es fs _ h=>(dX h).elim,fun _=>none,fun i es _ h=>(dX h).elim,fun i o h=>(ic h).elim⟩
    ·rw[aL] at nd ⊢;refine⟨fun z=>?_,?_⟩
     ·rcases aw.mp z with z | z
      ·exact nd.1 z
      ·simp at z;exact yC z.symm
     ·rw[bJ];refine⟨nd.2,by simp,fun a ha b hb=>?_⟩;simp at hb;subst hb;exact fun z=>ER (z▸ha)
    ·rcases aw.mp hq with hq | hq
     ·exact⟨(qw q hq).1,x5.n q (qw q hq).2 (r4.here q hq)⟩
     ·simp at hq;subst hq;exact⟨E4.e.h.free c1,c2⟩
   ·exact l6.elim
 ·have e:i=ds.length:=by omega
  subst e;refine .inl ⟨wk.2 G' H' E'.e.g E'.e.s,k _ H' (.ov (.ll acc)) G' (x1.trans E'.e) ⟨D,fp,rfl,nd,⟨hx,rx⟩,fun q hq=>?_⟩ (fin acc iv)⟩;rcases aq.mp hq with rfl | hq
  ·exact⟨x1.h.free hD,pM⟩
  ·exact⟨x1.h.free (fr q hq).1,(fr q hq).2⟩
theorem Ig(i:Nat){x:Str}{pos' ft:Pos}(hc:X.calm=true)(cs:cC X N' m scope)(hk:mV m g)(hi:PId X tg iter wi)(hg:∀s3 H3 ex,qB (fV X N' scope s3 H3 ex) tg g)(ht:∀s3 H3 ex,rK (fV X N' scope s3 H3 ex) ifs tc)
  (he:∀s3 H3 ex,PD (fV X N' scope s3 H3 ex) elt te) (hN:X.N.Nodup:=by assumption) (ni:X.N[i]?=some x:=by rfl) (hx:Loc X.env.scope x:=by first | exact Or.inl rfl | exact Or.inr rfl) (hs:∀x,foldedSetIterable iter X.env x=pure x:=by intro _;rfl)
  (nY:swapsWith (.ListComp elt [⟨tg,iter,ifs,0⟩] scope pos) (some (.Name x pos')) ft.line X.env=pure true:=by rfl)
  (hf:X.fn x=true\/X.env.scope.names.lookup x=some .local:=by first | exact .inl rfl | exact .inr rfl | assumption) :
  PX X (.Assign [.Name x pos'] (.ListComp elt [⟨tg,iter,ifs,0⟩] scope pos) ft) (iI i (u4 wi m g tc te)):=by
 obtain⟨ww,p1,q1⟩:=hi;refine⟨_,ve (g:=fun s3 H3 ex=>(hg s3 H3 ex).choose) (tc:=fun s3 H3 ex=>(ht s3 H3 ex).choose) (te:=fun s3 H3 ex=>(he s3 H3 ex).choose) hN ni hx hc cs p1 (fun s3 H3 ex=>(hg s3 H3 ex).choose_spec.1) (fun s3 H3 ex=>(ht s3 H3 ex).choose_spec.1) (fun s3 H3 ex=>(he s3 H3 ex).choose_spec.1) hs nY hf,fun ρ σ G0 H0 G H D E k h gg=>?_⟩;exact Pb cs hk q1 (fun s3 H3 ex=>(hg s3 H3 ex).choose_spec.2) (fun s3 H3 ex=>(ht s3 H3 ex).choose_spec.2) (fun s3 H3 ex=>(he s3 H3 ex).choose_spec.2) ρ σ G0 H0 G H _ _ k h fun v H' r G' x rr hq=>gg.nx _ _ G' H' x.g (k.put x rr) hq
end
section
variable {X:Cx} {pos:Pos} {e i':Expr} {te ti:TD}
def rR(i:Nat)(ti te:TD):TX:=fun D ρ=>match gt ρ i with
 | .ov (.ll dss)=>ti ρ fun rk=>match rk.val with
  | .int k=>∃j ds,kf dss.length k=some j/\dss[j]?=some ds/\te ρ fun r=>ds.length<sizeLine/\D.nx (ρ.set i (.ov (.ll (dss.set j (ds++[r.val])))))
  | _=>False
 | _=>False
theorem HI(i:Nat){x:Str}{p1 p2 p3 pos':Pos}(hi:PD X i' ti)(he:PD X e te)(hN:X.N[i]?=some x:=by rfl)(hv:js X.env.scope x:=by first | exact Or.inl rfl | exact Or.inr (Or.inl rfl) | exact Or.inr (Or.inr rfl))(hd:(x==("__debug__":Str))=false:=by decide)
  (fi:(x==("__classdict__":Str))=false:=by decide) (EO:wQ i':=by intro _ _;rfl) (gv:starEach [e] X.env=(false,eval e X.env)::starEach [] X.env:=by rfl)
  (hb:∀{ta:TE} {t:TA},PE X (.Subscript (.Name x p1) i' p2) ta->PA X [e] t->PE X (.Call (.Attribute (.Subscript (.Name x p1) i' p2) "append" p3) [e] [] pos') (vz X.K "list" tI ta t):=by intro ta t h1 h2;exact wu PySem.F.plainAttrs_list PySem.F.slot_list_append PySem.F.type_list_append vv h1 h2) :
  PX X (.Expr (.Call (.Attribute (.Subscript (.Name x p1) i' p2) "append" p3) [e] [] pos') pos) (rR i ti te):=by
 obtain⟨t,p,q⟩:=he;obtain⟨t2,tY,q2⟩:=hi;refine⟨_,tK (hb (wx ja (jL hN hv hd fi) tY EO) (mX p oB gv)),fun ρ σ G0 H0 G H D E k h g=>?_⟩;unfold rR at h;split at h
 ·rename_i dss hg;obtain⟨own,o1,o2⟩:=k.on;obtain⟨a,fp,b1,b2,⟨ha,hr⟩,b4⟩:=o2 i _ hg;refine⟨_,b1,q2 ρ σ G0 H0 G H _ _ k h fun u H1 rk G1 x1 qW i3=>?_⟩;obtain⟨G2,x2,lY,_⟩:=qW.freeze x1;split at i3
  ·rename_i kk e1;obtain⟨j,ds,hj,kM,i3⟩:=i3;rw[e1] at lY;simp only[Rep] at lY;obtain⟨qa,xs,c1,c2,c3⟩:=hr.get kM;have mF:di (fp.map V.ref) kk=some (.ref qa):=by
    unfold di;rw[af,hr.length,hj];simp[c1]
   refine⟨a,fp.map V.ref,kk,_,rfl,lY,dY.of (x2.h _ _ ha),mF,.inl ⟨rfl,xs,dY.of (x2.h _ _ c2)⟩,?_⟩;refine q ρ σ G0 H0 G2 H1 _ _ (k.ext x2) i3 fun v H3 r G3 x3 kd cQ=>?_
   obtain⟨G4,x4,jD,_⟩:=kd.freeze x3;have fm:=x2.trans x4;refine⟨qa,xs,v,rfl,rfl,fm.h _ _ c2,by rw[c3.length];exact cQ.1,?_⟩;refine g.nx _ _ G4 _ fm.g ((k.ext fm).eT hg b1 fun gT nd ow=>?_) cQ.2;obtain⟨oM,l5⟩:=ow;have e3:gT=fp:=by
    have:=(fm.h _ _ ha).symm.trans oM;injection this with this
    injection this with this
    exact((List.map_inj_right fun a b h=>by cases h;rfl).mp this).symm
   subst e3;have iB:=aL.mp nd;refine⟨gT,nd,⟨?_,l5.set ((c3.mono fm.g).append (bV.cons jD bV.nil)) iB.2 c1⟩,fun q hq=>.inl hq,fun b hb _=>cX fun z=>hb (by rw[z];exact aB _ (ay c1))⟩;rw[cX (fun z:a=qa=>iB.1 (z▸ay c1))];exact oM
  ·exact i3.elim
 ·exact h.elim
def zS(ta tb:TD):TD:=fun ρ Q=>ta ρ fun ra=>tb ρ fun rb=>match rb with
 | .ow ds=>Q (.ov (.tl ra.val ds))
 | _=>False
theorem HH{a b:Expr}{x1:Nat}{ta tb:TD}(ha:PD X a ta)(hb:PD X b tb)(gv:starEach [a,b] X.env=(false,eval a X.env)::starEach [b] X.env:=by rfl)(pE:starEach [b] X.env=(false,eval b X.env)::starEach [] X.env:=by rfl):PD X (.Tuple [a,b] x1 pos) (zS ta tb):=by
 obtain⟨t1,p1,q1⟩:=ha;obtain⟨t2,p2,q2⟩:=hb;refine⟨_,Ag (mX p1 (mX p2 oB pE) gv),fun ρ σ G0 H0 G H Q P E h k=>?_⟩;refine q1 ρ σ G0 H0 G H _ _ E h fun v H1 ra G1 x1 qW i3=>?_
 obtain⟨G2,x2,lY,_⟩:=qW.freeze x1;refine q2 ρ σ G0 H0 G2 H1 _ _ (E.ext x2) i3 fun u H3 rb G3 x3 kd cQ=>?_
 split at cQ
 ·rename_i ds;obtain⟨q,xs,rfl,c1,c2,c3,c4⟩:=kd;refine⟨by show 2<=sizeLine;decide,fun p hp=>?_⟩;have ql:=x2.trans x3;have yB:p≠q:=fun z=>by rw[z,c3] at hp;cases hp
  refine k _ _ (.ov (.tl ra.val ds)) G3 (ql.trans (.own ql.s hp)) ⟨p,[q],rfl,by simp[yB],⟨q,v,xs,rfl,fk,lY.mono x3.g,by rw[cX yB.symm];exact c3,c4⟩,fun r hr=>?_⟩ cQ;simp only[aq,br,or_false] at hr;rcases hr with rfl | rfl
  ·exact⟨ql.h.free hp,ql.s.free hp⟩
  ·exact⟨x2.h.free c1,c2⟩
 ·exact cQ.elim
end
end L2
namespace L2
open PySem PySem.Spec PyProof.Rows
noncomputable def wj:R->Bool
 | .fz d=>mU d
 | .ow ds=>ds.all mU
 | .ov (.dc kvs)=>kvs.all fun p=>mU p.2
 | _=>false
def qN(i:Nat)(te:TD):TD:=fun ρ Q=>te (iC i ρ) fun r=>wj r=true/\Q r
theorem CY{K:PySem.W.Frag}{G G':Hp}:∀{vs:List V} {ds:List D},ds.all mU=true->bV K G vs ds->bV K G' vs ds
 | [],[],_,_=>bV.nil
 | v::vs,d::ds,h,r=>by
  simp only[bV] at r;rw[List.all_cons,bF] at h;exact bV.cons (w5 h.1 r.1) (CY h.2 r.2)
 | [],_::_,_,r=>by simp only[bV] at r
 | _::_,[],_,r=>by simp only[bV] at r
theorem IX{K:PySem.W.Frag}{G G':Hp}:∀{ks:List (Key×V)} {kvs:List (Key×D)},(kvs.all fun p=>mU p.2)=true->cf K G ks kvs->cf K G' ks kvs
 | [],[],_,_=>cf.nil
 | v::vs,d::ds,h,r=>by
  simp only[cf] at r ⊢;rw[List.all_cons,bF] at h;exact⟨⟨r.1.1,w5 h.1 r.1.2⟩,IX h.2 r.2⟩
 | [],_::_,_,r=>by simp only[cf] at r
 | _::_,[],_,r=>by simp only[cf] at r
theorem HG{K:PySem.W.Frag}{te:TD}{tt:TE}(i:Nat)(q:mf K te tt):mf K (qN i te) tt:=by
 intro ρ σ G0 H0 G H Q P E h k;obtain⟨L,hL,E1,_⟩:=E.ik i;refine q _ σ G0 H0 _ H _ _ E1 h fun v H' r G' x rr hq=>?_
 have x2:=AB hL x;refine k v H' r (less G' L) x2 ?_ hq.2;have hs:=hq.1;cases r with
 | fz d=>exact w5 hs rr
 | ow ds=>
  obtain⟨p,xs,rfl,c1,c2,c3,c4⟩:=rr;refine⟨p,xs,rfl,c1,?_,c3,CY hs c4⟩;unfold less;split
  ·rfl
  ·exact c2
 | ov o=>
  cases o with
  | dc kvs=>
   obtain⟨p,fp,rfl,c1,⟨rfl,ks,ep,c2,c3⟩,c4⟩:=rr;refine⟨p,[],rfl,c1,⟨rfl,ks,ep,c2,IX hs c3⟩,fun q hq=>⟨(c4 q hq).1,?_⟩⟩;unfold less;split
   ·rfl
   ·exact(c4 q hq).2
  | ll=>cases hs
  | dl=>cases hs
  | tl=>cases hs
  | ld=>cases hs
  | dt=>cases hs
  | tp=>cases hs
  | ob=>cases hs
section
variable {X:Cx} {pos:Pos} {e i':Expr} {te ti:TD}
theorem Pa(i:Nat)(h:PD X e te):PD X e (qN i te):=let⟨tt,p,q⟩:=h;⟨tt,p,HG i q⟩
end
section
variable {X:Cx} {elt iter tg:Expr} {ifs:List Expr} {scope:Scope} {pos:Pos} {N':List Str} {m:List (Option Nat)} {wi:iW} {g:gJ} {tc:gK} {te:TD}
theorem CB(j i:Nat){x:Str}{pos' ft:Pos}(hc:X.calm=true)(cs:cC X N' m scope)(hk:mV m g)(hi:PId X tg iter wi)(hg:∀s3 H3 ex,qB (fV X N' scope s3 H3 ex) tg g)(ht:∀s3 H3 ex,rK (fV X N' scope s3 H3 ex) ifs tc)
  (he:∀s3 H3 ex,PD (fV X N' scope s3 H3 ex) elt te) (hN:X.N.Nodup:=by assumption) (ni:X.N[i]?=some x:=by rfl) (hx:Loc X.env.scope x:=by first | exact Or.inl rfl | exact Or.inr rfl) (hs:∀x,foldedSetIterable iter X.env x=pure x:=by intro _;rfl)
  (nY:swapsWith (.ListComp elt [⟨tg,iter,ifs,0⟩] scope pos) (some (.Name x pos')) ft.line X.env=pure true:=by rfl)
  (hf:X.fn x=true\/X.env.scope.names.lookup x=some .local:=by first | exact .inl rfl | exact .inr rfl | assumption) :
  PX X (.Assign [.Name x pos'] (.ListComp elt [⟨tg,iter,ifs,0⟩] scope pos) ft) (iI i (qN j (fX wi m g tc te))):=by
 obtain⟨ww,p1,q1⟩:=hi;refine⟨_,ve (g:=fun s3 H3 ex=>(hg s3 H3 ex).choose) (tc:=fun s3 H3 ex=>(ht s3 H3 ex).choose) (te:=fun s3 H3 ex=>(he s3 H3 ex).choose) hN ni hx hc cs p1 (fun s3 H3 ex=>(hg s3 H3 ex).choose_spec.1) (fun s3 H3 ex=>(ht s3 H3 ex).choose_spec.1) (fun s3 H3 ex=>(he s3 H3 ex).choose_spec.1) hs nY hf,fun ρ σ G0 H0 G H D E k h gg=>?_⟩;exact HG j (Au cs hk q1 (fun s3 H3 ex=>(hg s3 H3 ex).choose_spec.2) (fun s3 H3 ex=>(ht s3 H3 ex).choose_spec.2) (fun s3 H3 ex=>(he s3 H3 ex).choose_spec.2)) ρ σ G0 H0 G H _ _ k h fun v H' r G' x rr hq=>gg.nx _ _ G' H' x.g (k.put x rr) hq
end
end L2
namespace L2
open PySem PySem.Spec PyProof.Rows
section
variable {X:Cx} {pos:Pos} {e i':Expr} {te ti:TD}
noncomputable def pairsOf:List D->Option (List (Key×D))
 | []=>some []
 | .tup [k,v]::r=>match kQ k with
  | some key=>(pairsOf r).map ((key,v)::·)
  | none=>none
 | _=>none
def c7(K:PySem.W.Frag)(H:Hp):List V->List (Key×V)->Prop
 | [],[]=>True
 | y::ys,p::ps=>(∃b,y=.ref b/\fQ K H b [kV p.1,p.2])/\c7 K H ys ps
 | _,_=>False
theorem c7.length{K:PySem.W.Frag}{H:Hp}:∀{ys:List V} {ps:List (Key×V)},c7 K H ys ps->ys.length=ps.length
 | [],[],_=>rfl
 | y::ys,p::ps,h=>by
  simp only[c7] at h;simp only[aN,c7.length h.2]
 | [],_::_,h=>by simp only[c7] at h
 | _::_,[],h=>by simp only[c7] at h
theorem c7.vals{pins:List (Addr×Obj)}{σ:St}{H:Hp}{s:Shared}(I:Inv X pins σ H s):∀{ys:List V} {ps:List (Key×V)} {us:List Value},c7 X.K H ys ps->Vals ys us->
  ∃vs:List (Key×Value),KV ps vs/\∀(i:Nat) (u:Value),us[i]?=some u->∃k y key a,vs[i]?=some (k,y)/\u=.ref a/\(gZ X.prog X.w).is k key=true/\s.heap.IsTuple a #[key,y]
 | [],[],us,_,r=>by
  cases r;exact⟨[],by unfold KV;exact .nil,fun i u e=>by simp at e⟩
 | y::ys,p::ps,us,h,r=>by
  simp only[c7] at h;obtain⟨⟨b,rfl,hb⟩,h2⟩:=h;cases r with
  | cons r0 rr=>
   rename_i u0 us;cases (show u0=Value.ref b from r0);obtain⟨vs,k1,k2⟩:=c7.vals I h2 rr;obtain⟨its,rv,ht,_⟩:=I.tuple hb;obtain⟨w1,w2,rfl,q1,q2⟩:=wy rv;refine⟨(p.1,w2)::vs,?_,fun i u e=>?_⟩
   ·unfold KV at k1 ⊢;exact .cons ⟨rfl,q2⟩ k1
   ·cases i with
    | zero=>
     simp only[aW,aD] at e;subst e;exact⟨p.1,w2,w1,b,rfl,rfl,v8 q1,by simpa using (show s.heap.IsTuple b [w1,w2].toArray from ht)⟩
    | succ i=>
     simp only[aX] at e ⊢;exact k2 i u e
 | [],_::_,_,h,_=>by simp only[c7] at h
 | _::_,[],_,h,_=>by simp only[c7] at h
theorem RG(hc:X.calm=true):c8 X (.type "dict") (fun xs H Q=>∃p ys ks,xs=[V.ref p]/\dY X.K H p ys/\c7 X.K H ys ks/\(ks.map (·.1)).Nodup/\∀l ep,H l=none->Q (.ref l) (upd H l (.dK ks ep))):=by
 intro pins s σ H xs us Q I r h;obtain⟨p,ys,ks,rfl,hq,hp,hn,q⟩:=h;obtain⟨u,rfl,ru⟩:=j8 r;cases ru;obtain⟨its,rv,pl,hz⟩:=I.list hq;obtain⟨vs,kv,gR⟩:=hp.vals I rv;have hlen:vs.length=its.length:=by rw[<-kv.length,<-hp.length,rv.length]
 have yQ:ks.map (·.1)=vs.map (·.1):=kv.keys;obtain⟨o,n,h1,h2,h3,h4⟩:=pl;have lh:vs.length<=sizeLine:=by rw[hlen,<-rv.length];exact hz
 refine RH (knd:=gZ X.prog X.w) (kvs:=vs) (items:=its) (I.ok.hd hc) ⟨o,n,h1,h2,h3,h4⟩ hlen (by rw[<-yQ];exact hn) lh gR fun h' tk dd kp=>?_
 have hf:H s.heap.objs.size=none:=I.cN.fresh (az _);obtain⟨ep,da⟩:=BD dd;refine⟨.ref s.heap.objs.size,_,I.laid (a:=s.heap.objs.size) (o:=.dK ks ep) (t':=tk) kp (az _) (B1 (by rw[kv.length];exact lh) ?_ kv da),rfl,q _ ep hf⟩;have hb:=I.big;simpa using Nat.ne_of_gt hb
def zR:dZ:=fun ds Q=>match ds with
 | [.lst es]=>match pairsOf es with
  | some kvs=>(kvs.map (·.1)).Nodup/\Q (.ov (.dc kvs))
  | none=>False
 | _=>False
theorem CW{K:PySem.W.Frag}{G H:Hp}(s:cm G H):∀{es:List D} {ys:List V} {kvs:List (Key×D)},pairsOf es=some kvs->bV K G ys es->∃ks,c7 K H ys ks/\cf K G ks kvs
 | [],ys,kvs,h,r=>by
  simp only[pairsOf,aD] at h;subst h;cases ys with
  | nil=>exact⟨[],by simp only[c7],cf.nil⟩
  | cons=>simp only[bV] at r
 | e::es,ys,kvs,h,r=>by
  cases ys with
  | nil=>simp only[bV] at r
  | cons y ys=>
   simp only[bV] at r;unfold pairsOf at h;split at h
   ·rename_i hh;cases hh
   ·rename_i k v r' heq;cases heq;cases hk:kQ k with
    | none=>rw[hk] at h;cases h
    | some key=>
     rw[hk] at h;simp only[bx] at h;obtain⟨Vv,h1,rfl⟩:=h;obtain⟨ks,p1,p2⟩:=CW s h1 r.2;have r1:=r.1;simp only[Rep] at r1;obtain⟨b,xs,rfl,hb,rx⟩:=r1;match xs,rx with
     | [a1,a2],rx=>
      simp only[bV] at rx;refine⟨(key,a2)::ks,?_,?_⟩
      ·simp only[c7];refine⟨⟨b,rfl,?_⟩,p1⟩;rw[<-tE rx.1 hk];exact s.gP hb
      ·simp only[cf];exact⟨⟨trivial,rx.2.1⟩,p2⟩
     | [],rx=>simp only[bV] at rx
     | [_],rx=>simp only[bV] at rx;exact rx.2.elim
     | _::_::_::_,rx=>simp only[bV] at rx;exact rx.2.2.elim
   ·cases h
theorem cf.keys{K:PySem.W.Frag}{G:Hp}:∀{ks:List (Key×V)} {kvs:List (Key×D)},cf K G ks kvs->ks.map (·.1)=kvs.map (·.1)
 | [],[],_=>rfl
 | a::ks,b::kvs,h=>by
  simp only[cf] at h;simp only[au,h.1.1,cf.keys h.2]
 | [],_::_,h=>by simp only[cf] at h
 | _::_,[],h=>by simp only[cf] at h
theorem NH(hc:X.calm=true):mi X (.type "dict") zR:=by
 refine⟨_,RG hc,fun G H vs ds Q P s r h k=>?_⟩;unfold zR at h;split at h
 ·rename_i es;split at h
  ·rename_i kvs hp;cases vs with
   | nil=>simp only[bV] at r
   | cons v vs=>
    cases vs with
    | cons=>simp only[bV] at r;exact r.2.elim
    | nil=>
     simp only[bV,Rep] at r;obtain⟨⟨a,ys,rfl,ha,ry⟩,_⟩:=r;obtain⟨ks,p1,p2⟩:=CW s hp ry;refine⟨a,ys,ks,rfl,(s.fb ha).sq,p1,by rw[p2.keys];exact h.1,fun l ep hl=>?_⟩;refine k _ _ (.ov (.dc kvs)) G (.own s hl) ⟨l,[],rfl,by simp,⟨rfl,ks,ep,fk,p2⟩,fun q hq=>?_⟩ h.2;simp only[aR] at hq;subst hq;exact⟨hl,s.free hl⟩
  ·exact h.elim
 ·exact h.elim
def XA(j i:Nat)(ti:TD):TX:=fun D ρ=>match gt ρ i with
 | .ow ds=>ti ρ fun rk=>match rk.val with
  | .int k=>∃n d,-(2 ^ 63)<=k/\k<2 ^ 63/\kf ds.length k=some n/\ds[n]?=some d/\D.nx ((ρ.set i (.ow (ds.eraseIdx n))).set j (.fz d))
  | _=>False
 | _=>False
def uJ(ta tb:TD):TD:=fun ρ Q=>ta ρ fun ra=>tb ρ fun rb=>match ra,rb.val with
 | .ow ds,.int k=>-(2 ^ 63)<=k/\k<2 ^ 63/\ds.length*k.toNat<=sizeLine/\Q (.ow (List.replicate k.toNat ds).flatten)
 | _,_=>False
theorem bV.rep{K:PySem.W.Frag}{H:Hp}{vs:List V}{ds:List D}(h:bV K H vs ds):∀k:Nat,bV K H (List.replicate k vs).flatten (List.replicate k ds).flatten
 | 0=>bV.nil
 | k+1=>by
  rw[List.replicate_succ,List.replicate_succ,List.flatten_cons,List.flatten_cons];exact h.append (bV.rep h k)
theorem ME{a b:Expr}{ta tb:TD}(ha:PD X a ta)(hb:PD X b tb):PD X (.BinOp a .Mult b pos) (uJ ta tb):=by
 obtain⟨t1,p1,q1⟩:=ha;obtain⟨t2,p2,q2⟩:=hb;refine⟨_,Gz Np p1 p2,fun ρ σ G0 H0 G H Q P E h k=>?_⟩;refine q1 ρ σ G0 H0 G H _ _ E h fun v H1 ra G1 x1 qW i3=>?_
 refine q2 ρ σ G0 H0 G1 H1 _ _ (E.ext x1) i3 fun u H2 rb G2 x2 tW f6=>?_
 obtain⟨G3,x3,k5,_⟩:=tW.freeze x2;split at f6
 ·rename_i ds kk e1;obtain⟨p,xs,rfl,c1,c2,c3,c4⟩:=qW;rw[e1] at k5;simp only[Rep] at k5;have lX:=x1.trans x3;refine⟨p,kk,xs,rfl,k5,x3.h _ _ c3,f6.1,f6.2.1,by rw[c4.length];exact f6.2.2.1,fun l hl=>?_⟩;exact k _ _ (.ow _) G3 (lX.trans (.own lX.s hl)) ⟨l,_,rfl,lX.h.free hl,lX.s.free hl,fk,(c4.mono x3.g).rep kk.toNat⟩ f6.2.2.2
 ·exact f6.elim
end
end L2
namespace L2
open PySem PySem.Spec PyProof.Rows
noncomputable def F3(a:Addr)(ks:List (Key×V))(ep:Nat):It:=⟨fun i H=>i<ks.length/\H a=some (.dK ks ep),fun i H v H'=>H'=H/\∃k x,ks[i]?=some (k,x)/\v=kV k,fun i H=>i=ks.length/\H a=some (.dK ks ep)⟩
theorem HF{P:Program}{w:World}{k:Key}{u:Value}(h:(gZ P w).is k u=true):RelV (kV k) u:=by
 rcases qk (show tu k u=true from h) with⟨i,t,rfl,rfl⟩ | ⟨i,t,rfl,rfl⟩
 ·exact⟨t,rfl⟩
 ·exact⟨t,rfl⟩
theorem Q6{P:Program}{w:World}{K:PySem.W.Frag}{tg:Expr}{a it:Addr}{ks:List (Key×V)}{ep:Nat}:Turn P w K tg (F3 a ks ep) [it] it (fun i h=>h.IsKeyIter it a i ks.length ep) where
 mem:=by simp
 obj:=fun i h st b hb=>by
  have e:b=it:=by simpa using hb
  subst e;obtain⟨o,e,c,d⟩:=st;exact⟨o,e,fun v z=>by rw[d] at z;cases z⟩
 keep:=fun i h h' st k=>by
  obtain⟨o,e,r⟩:=st;exact⟨o,k it (by simp) o e,r⟩
 item:=by
  intro X hP hw hK hc i pins s σ H E I hf st hg;subst hP hw hK;obtain⟨hi,ha⟩:=(show i<ks.length/\H a=some (.dK ks ep) from hg)
  obtain⟨z,hd,vs,rel,dat⟩:=tj I.cN (.inl ha);have hlen:ks.length=vs.length:=rel.length;have cE:a≠it:=fun z=>by rw[z,(hf it (by simp)).1] at ha;cases ha
  rw[hlen] at st;refine(Walks.dictKeys (knd:=gZ X.prog X.w) (A:=X.A) (I.ok.hd hc) it a cE vs ep).item i s _ _ (by omega) ⟨st,dat⟩ fun v h' tk hv eG kk=>?_
  obtain⟨k,x,hx,hk⟩:=hv;have I1:Inv X pins σ H { s with heap:=h',toks:=tk }:=I.fw kk hf;obtain⟨o,e,c',d⟩:=id eG.1;have Wo:∃x',ks[i]?=some (k,x'):=by
   have mz:ks.map (·.1)=vs.map (·.1):=rel.keys;have e2:=congrArg (fun l=>l[i]?) mz;simp only[ao,ag hi,hx,aM,aD] at e2;exact⟨ks[i].2,by rw[ag hi,<-e2]⟩
  obtain⟨x',iU⟩:=Wo;refine⟨_,rfl,wA (s:={ s with heap:=h',toks:=tk }) e c' d (by decide) ⟨kV k,H,I1,HF hk,⟨rfl,k,x',iU,rfl⟩,?_,fun b hb=>(hf b hb).1⟩⟩;rw[hlen];exact eG.1
 done:=by
  intro X hP hw hK hc i pins s σ H E I hf st hg;subst hP hw hK;obtain⟨hi,ha⟩:=(show i=ks.length/\H a=some (.dK ks ep) from hg)
  obtain⟨z,hd,vs,rel,dat⟩:=tj I.cN (.inl ha);have hlen:ks.length=vs.length:=rel.length;have cE:a≠it:=fun z=>by rw[z,(hf it (by simp)).1] at ha;cases ha
  subst hi;rw[hlen] at st;exact(Walks.dictKeys (knd:=gZ X.prog X.w) (A:=X.A) (I.ok.hd hc) it a cE vs ep).done s _ _ ⟨st,dat⟩ fun h' tk kk=>⟨rfl,I.fw kk hf⟩
 self:=fun A i s Q E st q=>wpAny_pyIter_keyiter st q
section
variable {X:Cx} {tg:Expr}
def LP(tl:TE):TI:=fun σ H R=>tl σ H fun x H1=>∃a ks ep,x=.ref a/\H1 a=some (.dK ks ep)/\R (F3 a ks ep) H1
theorem NX{l:Expr}{tl:TE}(hl:PE X l tl):PI X tg l (LP tl):=by
 intro pins s σ H R I h;refine cL (hl pins s σ H _ I h) fun v s1 cq=>?_
 obtain⟨x,H1,I1,r1,q1⟩:=cq;obtain⟨a,ks,ep,e,ha,q⟩:=q1;subst e;cases r1;obtain⟨z,hd,vs,rel,dat⟩:=tj I1.cN (.inl ha);have hlen:ks.length=vs.length:=rel.length;refine wpAny_pyIter_dict hd dat ?_;refine⟨s1.heap.objs.size,[s1.heap.objs.size],_,_,H1,rfl,I1.kept (t':=s1.toks) fun b o e=>ae _ e,Q6,⟨_,av _ rfl,rfl,by rw[hlen];rfl⟩,fun b hb=>?_,q⟩;have e:b=s1.heap.objs.size:=by simpa using hb
 subst e;exact I1.kl (az _) (I1.cN.fresh (az _))
theorem HE{K:PySem.W.Frag}{G:Hp}(k:Key):Rep K G (kV k) (pY k):=by
 cases k<;>simp only[pY,Rep]<;>rfl
theorem Q4{K:PySem.W.Frag}{G:Hp}{a:Addr}{ks:List (Key×V)}{ep:Nat}{kvs:List (Key×D)}(h:G a=some (.dK ks ep))(r:cf K G ks kvs):oq K (F3 a ks ep) G (kvs.map fun p=>pY p.1):=by
 have hl:=r.length;refine⟨fun i d G' H' hd s1 s2=>?_,fun G' H' s1 s2=>⟨by rw[af];exact hl.symm,s2 _ _ (s1 _ _ h)⟩⟩;rw[ao] at hd;have hi:i<kvs.length:=by
  cases e:kvs[i]? with
  | none=>rw[e] at hd;cases hd
  | some p=>exact(aj.mp e).1
 refine⟨⟨by omega,s2 _ _ (s1 _ _ h)⟩,fun v H2 hy=>?_⟩;obtain⟨rfl,k,x,hx,rfl⟩:=hy;refine⟨G',.refl s2,?_⟩;have hk:=congrArg (fun l=>l[i]?) r.keys;simp only[ao,hx,aM] at hk;rw[ag hi] at hk hd;simp only[aM,aD] at hk hd;rw[<-hd,<-hk];exact HE k
def qE(te:TD):iW:=fun ρ Q=>te ρ fun r=>match r.val with
 | .dic kvs=>Q (kvs.map fun p=>pY p.1)
 | _=>False
theorem An{l:Expr}{te:TD}(h:PD X l te):PId X tg l (qE te):=by
 obtain⟨t,p,q⟩:=h;refine⟨_,NX p,fun ρ σ G0 H0 G H Q P E h k=>q ρ σ G0 H0 G H _ _ E h fun v H' r G' x rr hq=>?_⟩;obtain⟨G2,x2,rv,_⟩:=rr.freeze x;split at hq
 ·rename_i kvs e;rw[e] at rv;simp only[Rep] at rv;obtain⟨a,ks,ep,rfl,h1,h2⟩:=rv;exact⟨a,ks,ep,rfl,x2.s _ _ h1,k _ H' _ G2 x2 (Q4 h1 h2) hq⟩
 ·exact hq.elim
end
end L2
namespace HT
open PySem PyProof.Rows
noncomputable def b8:List Int->List Int->Bool
 | [],[]=>false
 | [],_::_=>false
 | _::_,[]=>true
 | x::xs,y::ys=>if x=y then b8 xs ys else decide (y<x)
theorem jm(x y:Int)(xs ys:List Int):b8 (x::xs) (y::ys)=if x=y then b8 xs ys else decide (y<x):=rfl
theorem S7:b8 [] []=false:=rfl
theorem T6(y:Int)(ys:List Int):b8 [] (y::ys)=false:=rfl
theorem T5(x:Int)(xs:List Int):b8 (x::xs) []=true:=rfl
theorem O9(A:Around)(s:Shared)(a:Int)(t:Tok)(c:Int)(u:Tok)(prog:Program)(w:World)(E:Value->Shared->Prop)(Q:Value->Shared->Prop)(h:Q (.bool (decide (c<a))) s) :
  wpAny (model prog w) A (richCompare .Gt (.int a t) (.int c u)) Q E s:=
 (PyProof.Rows.gt_int h:wpAny (model prog w) A (compareOp .Gt (.int a t) (.int c u)) Q E s)
section
open PySem.SeqAt
open PySem.AutoSeq1 (wpAny_loadPart')
open PySem.MeetsSeq PySem.MeetsSeq2 PySem.MeetsSeq3
theorem S6(l b:Addr)(items ff:Array Value)(n n2:Nat)(dd FN:Option Addr)(sl DU:Array (Option Value))(ns ms:List Int)(hi:IntsAre items.toList ns)(hj:IntsAre ff.toList ms) :
  Meets (Builtin.«tuple.__gt__» ⟨[.ref l,.ref b],[]⟩)
   (fun _ R s=>s.heap.get? l=some { cls:=.type "tuple",dict:=dd,data:=.seq items n,slots:=sl }/\s.heap.get? b=some { cls:=.type "tuple",dict:=FN,data:=.seq ff n2,slots:=DU }/\
    R (.ok (.ret (.bool (b8 ns ms)))) s):=
 .of_wp fun prog w A R s h=>by
  obtain⟨hp,g,d,tk,os⟩:=s;obtain⟨hl,hb,h⟩:=h;have f2:=AutoSeq1.sub_tuple_tuple;have z1:items.size=ns.length:=by rw[<-hi.length];simp
  have z2:ff.size=ms.length:=by rw[<-hj.length];simp
  wp_walk using wpAny_loadPart' hl,wpAny_loadPart' hb,wpAny_forIn_list _ (fun rest b s'=>b.1=none/\s'=⟨hp,g,d,tk,os⟩/\∃(vs ws:List Value) (sx vC:List Int),rest=vs.zip ws/\
   IntsAre vs sx/\IntsAre ws vC/\sx.length+ff.size=vC.length+items.size/\R (.ok (.ret (.bool (b8 sx vC)))) ⟨hp,g,d,tk,os⟩) _
  case turn=>
   rintro⟨y,x⟩ rest b s' ⟨rF,rfl,vs,ws,sx,vC,hz,vD,Bc,hlen,hR⟩;cases vD with
   | nil=>rw[List.zip_nil_left] at hz;cases hz
   | cons a t EA=>
    cases Bc with
    | nil=>rw[List.zip_nil_right] at hz;cases hz
    | cons c u Ew=>
     rw[List.zip_cons_cons] at hz;injection hz with VG yy
     injection VG with hy hx
     subst hy hx;rw[jm] at hR;simp only[aN] at hlen;obtain⟨e,he,yU⟩:=QA A.in1 ⟨hp,g,d,tk,os⟩ a t c u;refine aa (he prog w _ _ ?_);cases e with
     | true=>
      rw[if_pos (yU.mp rfl)] at hR;wp_walk
      exact⟨rfl,rfl,_,_,_,_,yy,EA,Ew,by omega,hR⟩
     | false=>
      rw[if_neg (fun q=>absurd (yU.mpr q) aG)] at hR;have V3:=O9 A.in1 ⟨hp,g,d,tk,os⟩ a t c u prog w;wp_walk using V3
      exact⟨_,rfl,by simpa using hR⟩
  case fin=>
   rintro⟨b1,b2⟩ s' ⟨rF,rfl,vs,ws,sx,vC,hz,vD,Bc,hlen,hR⟩;simp only at rF;subst rF;have hv:b8 sx vC=decide (ff.size<items.size):=by
    cases vD with
    | nil=>
     cases Bc with
     | nil=>
      simp only[List.length_nil] at hlen;rw[S7];exact(bz (by omega)).symm
     | cons c u hw=>
      simp only[List.length_nil,aN] at hlen;rw[T6];exact(bz (by omega)).symm
    | cons a t hv=>
     cases Bc with
     | nil=>
      simp only[List.length_nil,aN] at hlen;rw[T5];exact(decide_eq_true (by omega)).symm
     | cons c u hw=>
      rw[List.zip_cons_cons] at hz;cases hz
   rw[hv] at hR;wp_walk
   exact⟨_,rfl,by simpa[Builtin.Tuple.tupleCompareSizes] using hR⟩
  case h=>
   exact⟨rfl,rfl,items.toList,ff.toList,ns,ms,rfl,hi,hj,by omega,h⟩
end
section
variable {prog:Program} {w:World} {A:Around} {E:Value->Shared->Prop} {s:Shared}
theorem mG{l b:Addr}{items ff:Array Value}{ns ms:List Int}{Q:Value->Shared->Prop}(hl:IsTup s.heap l items)(hb:IsTup s.heap b ff)(hi:IntsAre items.toList ns)(hj:IntsAre ff.toList ms)
  (hu:A.units<cLine) (h:Q (.bool (b8 ns ms)) s):wpAny (model prog w) A (compareOp .Gt (.ref l) (.ref b)) Q E s:=by
 obtain⟨⟨cls,dd,data,sl⟩,ho,hc,n,hd⟩:=id hl;obtain⟨⟨Xp,FN,data2,DU⟩,Ku,y2,n2,hd2⟩:=id hb;simp only at hc hd y2 hd2;subst hc hd y2 hd2;exact richCompare_meets_room (op:=.Gt) ⟨_,ho,rfl⟩ ⟨_,Ku,rfl⟩ PySem.F.slot_tuple_gt PySem.F.entry_tuple_gt (PySem.F.args_tuple_gt_2 _ _) (S6 l b items ff n n2 dd FN sl DU ns ms hi hj)
  ⟨ho,Ku,show Value.bool (b8 ns ms)≠Value.notImplemented/\Q (.bool (b8 ns ms)) s from⟨(fun x=>nomatch x),h⟩⟩ hu
end
end HT
namespace L2
open PySem PySem.Spec PyProof.Rows
def BC(prog:Program)(w:World)(A:Around)(op:CmpOp)(P:Nat->Value->Prop)(Hk:Heap->Prop)(bt:Nat->Nat->Bool):Prop:=
 ∀i j vi vj (z:Shared) (Q:Value->Shared->Prop) (E:Value->Shared->Prop),Hk z.heap->P i vi->P j vj->Q (.bool (bt i j)) z->wpAny (model prog w) A (richCompare op vi vj) Q E z
section
variable {prog:Program} {w:World} {A:Around} {Rz:Result->Shared->Prop} {I:Addr} {fp wr:List Addr} {n:Nat} {P:Nat->Value->Prop} {St:Nat->Heap->Prop} {Hk:Heap->Prop}
theorem Am:(toString "max"++toString ".loop":String)="max.loop":=by decide
theorem O8(W:Walks prog w A.in1 I fp wr n P St)(bt:Nat->Nat->Bool)(S:Addr)(cmp:BC prog w A.in1 .Gt P Hk bt)(off:S∉fp)(kw:List (Str×Value))(fS:∀h h',Hk h->(∀b o,b∉wr->b≠S->h.get? b=some o->h'.get? b=some o)->Hk h') :
  ∀(m j:Nat) (z:Shared) (best:Value) (c:Nat),n-(j+1)=m->j<n->St (j+1) z.heap->Hk z.heap->P (argBest bt j) best->z.heap.get? S=some { cls:=.type "list",dict:=none,data:=.seq #[best,best] c,slots:=#[] }->
   (∀v h' tk,P (argBest bt (n-1)) v->(∀b o,b∉wr->b≠S->z.heap.get? b=some o->h'.get? b=some o)->Rz (.ok (.ret v)) { z with heap:=h',toks:=tk })->
   codeAny (model prog w) A (.builtin "max.loop" ⟨[.ref I,.none,.ref S],kw⟩) Rz z:=by
 have qZ:S∉wr:=fun h=>off (W.sub _ h)
 intro m;induction m with
 | zero=>
  intro j z best c em lj st hk pb gS fin;have ej:j+1=n:=by omega
  refine bM F.entry_max_loop ?_;rw[bg F.plain_max_loop _];show wpAny _ A.in1 (seqItems? (.ref S) >>= _) _ _ z;refine aa (wpAny_seqItems gS rfl ?_);show wpAny _ A.in1 (tryCatch (pyNext (.ref I)) _ >>= _) _ _ z;refine aa (wpAny_tryCatch (W.done z _ _ (ej▸st) fun h1 tk kp=>?_));have sR:=kp S _ qZ gS;show wpAny _ A.in1 (updateSeq S (fun _=>#[]) >>= _) _ _ _;refine aa ?_;refine wpAny_updateSeq sR rfl (aa (wpAny_letGo (ai ?_)));exact fin best _ tk (by rw[<-ej];exact pb) fun b o b1 b2 e=>(aU _ _ (Ne.symm b2)).trans (kp b o b1 e)
 | succ m ih=>
  intro j z best c em lj st hk pb gS fin;have Ef:j+1<n:=by omega
  refine bM F.entry_max_loop ?_;rw[bg F.plain_max_loop _];show wpAny _ A.in1 (seqItems? (.ref S) >>= _) _ _ z;refine aa (wpAny_seqItems gS rfl ?_);show wpAny _ A.in1 (tryCatch (pyNext (.ref I)) _ >>= _) _ _ z;refine aa (wpAny_tryCatch (W.item (j+1) z _ _ Ef st fun v h1 tk pv tS kp=>?_));have sR:=kp S _ qZ gS;have mB:Hk h1:=fS _ _ hk fun b o b1 _ e=>kp b o b1 e
  show wpAny _ A.in1 (tryCatch (holding [v,v] (richCompare .Gt v best >>= _)) _ >>= _) _ _ _;refine aa (wpAny_tryCatch (bA (aa (cmp (j+1) (argBest bt j) v best _ _ _ mB pv pb ?_))));refine aa (bA (wpAny_truthy_bool ?_));refine aa (wpAny_letGo (ai ?_));cases hb:bt (j+1) (argBest bt j) with
  | true=>
   simp only[bO];refine aa ?_;refine wpAny_updateSeq sR rfl (aa (wpAny_letGo ?_));rw[Am];have yi:∀f b o,b∉wr->b≠S->z.heap.get? b=some o->(h1.update S f).get? b=some o:=fun f b o b1 b2 e=>(aU _ _ (Ne.symm b2)).trans (kp b o b1 e)
   refine ai ⟨bT F.plain_max_loop _,ih (j+1) _ v _ (by omega) Ef (W.frame _ _ _ tS fun b bf o e=>?_) (fS _ _ hk (yi _)) (by simp only[argBest,hb,bO];exact pv) (bS _ sR rfl) fun v' h2 tO xV yh=>?_⟩
   ·exact(aU _ _ (fun h:S=b=>off (by rw[h];exact bf))).trans e
   ·exact fin v' h2 tO xV fun b o b1 b2 e=>yh b o b1 b2 (yi _ b o b1 b2 e)
  | false=>
   simp only[aF,bE];refine aa (wpAny_letGo ?_);rw[Am];refine ai ⟨bT F.plain_max_loop _,ih (j+1) _ best c (by omega) Ef tS mB (by simp only[argBest,hb,aF,bE];exact pb) sR fun v' h2 tO xV yh=>?_⟩;exact fin v' h2 tO xV fun b o b1 b2 e=>yh b o b1 b2 (kp b o b1 e)
theorem O7(W:Walks prog w A.in1 I fp wr n P St)(bt:Nat->Nat->Bool)(S:Addr)(cmp:BC prog w A.in1 .Gt P Hk bt)(off:S∉fp)(kw:List (Str×Value))(fS:∀h h',Hk h->(∀b o,b∉wr->b≠S->h.get? b=some o->h'.get? b=some o)->Hk h')(pos:0<n){z:Shared}{c:Nat}(st:St 0 z.heap)(hk:Hk z.heap)
  (gS:z.heap.get? S=some { cls:=.type "list",dict:=none,data:=.seq #[] c,slots:=#[] })
  (fin:∀v h' tk,P (argBest bt (n-1)) v->(∀b o,b∉wr->b≠S->z.heap.get? b=some o->h'.get? b=some o)->Rz (.ok (.ret v)) { z with heap:=h',toks:=tk }) :
  codeAny (model prog w) A (.builtin "max.loop" ⟨[.ref I,.none,.ref S],kw⟩) Rz z:=by
 have qZ:S∉wr:=fun h=>off (W.sub _ h)
 refine bM F.entry_max_loop ?_;rw[bg F.plain_max_loop _];show wpAny _ A.in1 (seqItems? (.ref S) >>= _) _ _ z;refine aa (wpAny_seqItems gS rfl ?_);show wpAny _ A.in1 (tryCatch (pyNext (.ref I)) _ >>= _) _ _ z;refine aa (wpAny_tryCatch (W.item 0 z _ _ pos st fun v h1 tk pv tS kp=>?_));have sR:=kp S _ qZ gS;show wpAny _ A.in1 (updateSeq S (fun _=>#[v,v]) >>= _) _ _ _;refine aa ?_;refine wpAny_updateSeq sR rfl ?_;rw[Am];have yi:∀f b o,b∉wr->b≠S->z.heap.get? b=some o->(h1.update S f).get? b=some o:=fun f b o b1 b2 e=>(aU _ _ (Ne.symm b2)).trans (kp b o b1 e)
 refine ai ⟨bT F.plain_max_loop _,O8 W bt S cmp off kw fS _ 0 _ v _ rfl pos (W.frame _ _ _ tS fun b bf o e=>?_) (fS _ _ hk (yi _)) pv (bS _ sR rfl) fun v' h2 tO xV yh=>?_⟩
 ·exact(aU _ _ (fun h:S=b=>off (by rw[h];exact bf))).trans e
 ·exact fin v' h2 tO xV fun b o b1 b2 e=>yh b o b1 b2 (yi _ b o b1 b2 e)
theorem NW(W:Walks prog w A.in1 I fp wr 0 P St)(S:Addr)(off:S∉fp)(d:Value){z:Shared}{c:Nat}(st:St 0 z.heap)(gS:z.heap.get? S=some { cls:=.type "list",dict:=none,data:=.seq #[] c,slots:=#[] })
  (fin:∀h' tk,(∀b o,b∉wr->z.heap.get? b=some o->h'.get? b=some o)->Rz (.ok (.ret d)) { z with heap:=h',toks:=tk }) :
  codeAny (model prog w) A (.builtin "max.loop" ⟨[.ref I,.none,.ref S],[("default",d)]⟩) Rz z:=by
 refine bM F.entry_max_loop ?_;rw[bg F.plain_max_loop _];show wpAny _ A.in1 (seqItems? (.ref S) >>= _) _ _ z;refine aa (wpAny_seqItems gS rfl ?_);show wpAny _ A.in1 (tryCatch (pyNext (.ref I)) _ >>= _) _ _ z;refine aa (wpAny_tryCatch (W.done z _ _ st fun h1 tk kp=>?_));exact aa (wpAny_rule (ai (fin h1 tk kp)))
end
section
variable {prog:Program} {w:World} {A:Around} {E:Value->Shared->Prop} {s:Shared}
theorem SH{id:String}{b:Builtin}{args:List Value}{kw:List (Str×Value)}{Q:Value->Shared->Prop}(hk:builtinKind id=none)(hp:plainId id=true)(hb:entryFor table id=some b)(ha:argsOk id ⟨args,kw⟩)
  (hc:wpAny (model prog w) A.in1 (b ⟨args,kw⟩) (fun fin s'=>match fin with
   | .done f=>(match (Except.ok f:Result) with | .ok (.ret v)=>Q v s' | .ok _=>False | .error e=>E e s')
   | .again c'=>c'.quiet=true/\codeAny (model prog w) A c' (fun r s'=>match r with | .ok (.ret v)=>Q v s' | .ok _=>False | .error e=>E e s') s') E s) :
  wpAny (model prog w) A (call (.builtin id) args kw) Q E s:=by
 refine wpAny_call (codeAny_call_builtin hp hb ?_);simp only[checkBuiltinCall,hk];cases EI:Manifest.signature? id with
 | none=>exact ai hc
 | some sig=>
  have h2:Bind.checkArgs id sig ⟨args,kw⟩=pure ():=by simpa only[argsOk,EI] using ha
  simp only[h2];exact ai hc
theorem RF(x d:Value):argsOk "max" ⟨[x],[("default",d)]⟩:=by unfold argsOk;kernel_rfl
theorem NV{l:Addr}{items:List Value}{d:Value}{bt:Nat->Nat->Bool}{Q:Value->Shared->Prop}(hh:A.handled=none)(hl:s.heap.IsList l items.toArray)(cmp:BC prog w A.in1 .Gt (fun i v=>items.toArray[i]?=some v) (fun h=>∀b o,s.heap.get? b=some o->h.get? b=some o) bt)
  (h0:items=[]->∀h' tk,(∀b o,s.heap.get? b=some o->h'.get? b=some o)->Q d { s with heap:=h',toks:=tk })
  (h1:∀v h' tk,items[argBest bt (items.length-1)]?=some v->(∀b o,s.heap.get? b=some o->h'.get? b=some o)->Q v { s with heap:=h',toks:=tk }) :
  wpAny (model prog w) A (call (.builtin "max") [.ref l] [("default",d)]) Q E s:=by
 refine SH F.kind_max F.plain_max F.entry_max (RF _ _) ?_;show wpAny _ A.in1 (Builtin.Builtins.bindParams "max" ["key","default"] 0 ⟨[],[("default",d)]⟩ >>= _) _ _ s;refine aa (wpAny_of_eq (show Builtin.Builtins.bindParams "max" ["key","default"] 0 ⟨[],[("default",d)]⟩=pure [none,some d] from rfl) ?_);refine aa (ai ?_);refine aa (wpAny_pyIter_list hl ?_);refine aa (bG ?_);rw[Am];have cS:l<s.heap.objs.size:=by obtain⟨_,e,_⟩:=hl;exact ax e
 have W:=Walks.list (prog:=prog) (w:=w) (A:=A.in1) hh s.heap.objs.size l (aA cS) items.toArray;have nS:∀b o,s.heap.get? b=some o->b∉[s.heap.objs.size]/\b≠(s.heap.push { cls:=.type "list_iterator",data:=.fields #[.ref l,.int 0 0] }).objs.size:=fun b o e=>by
  have:=ax e;refine⟨fun hm=>?_,fun h=>?_⟩
  ·rcases aq.mp hm with e1 | hm
   ·exact Nat.lt_irrefl _ (e1▸this)
   ·cases hm
  ·rw[Heap.size_push] at h;exact aA (bH this) h
 refine ai ⟨bT F.plain_max_loop _,?_⟩;have JW:=W.frame 0 _ (((s.heap.push { cls:=.type "list_iterator",data:=.fields #[.ref l,.int 0 0] }).push { cls:=.type "list",dict:=none,data:=.seq #[] 0,slots:=#[] })) (⟨⟨_,av _ rfl,rfl,rfl⟩,hl.push _⟩) fun b _ o e=>ae _ e
 have off:(s.heap.push { cls:=.type "list_iterator",data:=.fields #[.ref l,.int 0 0] }).objs.size∉[s.heap.objs.size,l]:=fun hm=>by
  rw[Heap.size_push] at hm;rcases aq.mp hm with e1 | hm
  ·exact Nat.succ_ne_self _ e1
  ·rcases aq.mp hm with e1 | hm
   ·exact aA (bH cS) e1.symm
   ·cases hm
 cases he:items with
 | nil=>
  subst he;refine NW W _ off d JW (av _ rfl) fun h' tk kp=>?_
  exact h0 rfl h' tk fun b o e=>kp b o (nS b o e).1 (ae _ (ae _ e))
 | cons x xs=>
  refine O7 W bt _ cmp off _ (fun h h' a b b' o e=>b b' o (nS b' o e).1 (nS b' o e).2 (a b' o e)) (by rw[he];simp) JW (fun b o e=>ae _ (ae _ e)) (av _ rfl) fun v h' tk pv kp=>?_
  exact h1 v h' tk (by simpa using pv) fun b o e=>kp b o (nS b o e).1 (nS b o e).2 (ae _ (ae _ e))
end
end L2
namespace HT
theorem fu:∀t:List Int,b8 t t=false
 | []=>rfl
 | a::t=>by unfold b8;simp[fu t]
theorem ig:∀a b:List Int,b8 a b=true->b8 b a=false
 | [],[],h=>rfl
 | [],_::_,h=>by unfold b8 at h;cases h
 | _::_,[],h=>by unfold b8;rfl
 | x::xs,y::ys,h=>by
  unfold b8 at h ⊢;by_cases e:x=y
  ·subst e;simp only[bO] at h ⊢;simpa using ig xs ys (by simpa using h)
  ·have e2:¬y=x:=fun x=>e x.symm
   simp[e,e2] at h ⊢;omega
theorem ie:∀a b c:List Int,b8 a b=false->b8 b c=false->b8 a c=false
 | [],[],c,h,h2=>h2
 | [],_::_,[],h,h2=>by unfold b8;rfl
 | [],_::_,_::_,h,h2=>by unfold b8;rfl
 | _::_,[],_,h,_=>by unfold b8 at h;cases h
 | x::xs,y::ys,[],h,h2=>by unfold b8 at h2;cases h2
 | x::xs,y::ys,z::zs,h,h2=>by
  unfold b8 at h h2 ⊢;have ih:=ie xs ys zs;by_cases e:x=y
  ·subst e;by_cases e2:x=z
   ·subst e2;simp at h h2 ⊢;exact ih h h2
   ·simp[e2] at h h2 ⊢;omega
  ·by_cases e2:y=z
   ·subst e2;simp[e] at h h2 ⊢;omega
   ·simp[e,e2] at h h2;have e3:¬x=z:=by omega
    simp[e3];omega
end HT
namespace L2
open PySem PySem.Spec PyProof.Rows
theorem HD(bt:Nat->Nat->Bool)(Em:∀i,bt i i=false)(as:∀i j,bt i j=true->bt j i=false)(tr:∀i j k,bt i j=false->bt j k=false->bt i k=false):∀n,argBest bt n<=n/\∀j,j<=n->bt j (argBest bt n)=false
 | 0=>⟨az _,fun j hj=>by cases Nat.le_zero.mp hj;exact Em 0⟩
 | n+1=>by
  obtain⟨h1,h2⟩:=HD bt Em as tr n;cases hb:bt (n+1) (argBest bt n) with
  | true=>
   simp only[argBest,hb,bO];refine⟨az _,fun j hj=>?_⟩;rcases Nat.lt_or_ge n j with h | h
   ·rw[show j=n+1 by omega];exact Em _
   ·exact tr _ _ _ (h2 j h) (as _ _ hb)
  | false=>
   simp only[argBest,hb,aF,bE];refine⟨by omega,fun j hj=>?_⟩;rcases Nat.lt_or_ge n j with h | h
   ·rw[show j=n+1 by omega];exact hb
   ·exact h2 j h
def Ga(K:PySem.W.Frag)(H:Hp)(k:Bool)(x:V)(t:List Int):Prop:=(k=true/\∃n,x=.int n/\t=[n])\/(k=false/\∃b,x=.ref b/\fQ K H b (t.map V.int))
def zQ(K:PySem.W.Frag)(x y:V)(H:Hp)(Q:VK):Prop:=∃a xs cR k,x=.ref a/\dY K H a xs/\xs.length=cR.length/\(∀(i:Nat) x t,xs[i]?=some x->cR[i]?=some t->Ga K H k x t)/\(cR=[]->Q y H)/\
 ∀(i:Nat) t v,cR[i]?=some t->xs[i]?=some v->(∀u∈cR,HT.b8 u t=false)->Q v H
section
variable {X:Cx} {pos p kp:Pos} {e e2:Expr} {te te2:TD}
theorem Q3(hc:X.calm=true)(hu:X.A.units+64<cLine){pins:List (Addr×Obj)}{s:Shared}{σ:St}{H:Hp}{x y:V}{u d:Value}{Q:VK}(I:Inv X pins σ H s)(rx:RelV x u)(ry:RelV y d)(h:zQ X.K x y H Q) :
  wpAny (model X.prog X.w) X.A (call (.builtin "max") [u] [("default",d)]) (EP X pins σ Q) X.xe s:=by
 obtain⟨a,xs,cR,k,rfl,hq,hlen,hk,h0,h1⟩:=h;cases rx;obtain⟨its,rv,pl,hz⟩:=I.list hq;have hl:=pl.isList;have ln:xs.length=its.length:=rv.length;have at_:∀(i:Nat) v,its[i]?=some v->∃x t,xs[i]?=some x/\cR[i]?=some t/\RelV x v/\Ga X.K H k x t/\t=cR.getD i []:=fun i v hv=>by
  have hi:i<its.length:=(aj.mp hv).1;have hx:xs[i]?=some xs[i]:=ag (by omega);have ht:cR[i]?=some cR[i]:=ag (by omega);obtain⟨v',sF,rx⟩:=rv.get hx;rw[hv] at sF;cases sF;exact⟨_,_,hx,ht,rx,hk i _ _ hx ht,by rw[List.getD_eq_getElem?_getD,ht];rfl⟩
 refine NV (bt:=fun i j=>HT.b8 (cR.getD i []) (cR.getD j [])) (I.ok.hd hc) hl ?_ (fun he h' tk kp=>?_) fun v h' tk hv kp=>?_
 ·intro i j vi vj z Q' E' Ba hi hj q;obtain⟨x1,t1,_,_,r1,k1,e1⟩:=at_ i vi (by simpa using hi);obtain⟨x2,t2,_,_,r2,k2,e2⟩:=at_ j vj (by simpa using hj);replace q:Q' (.bool (HT.b8 (cR.getD i []) (cR.getD j []))) z:=q
  rw[<-e1,<-e2] at q;rcases k1 with⟨mB,n1,rfl,rfl⟩ | ⟨mB,b1,rfl,s1⟩
  ·rcases k2 with⟨mz,n2,rfl,rfl⟩ | ⟨mz,_⟩
   ·obtain⟨c1,rfl⟩:=r1;obtain⟨c2,rfl⟩:=r2;refine PyProof.Rows.gt_int ?_;have:HT.b8 [n1] [n2]=decide (n1>n2):=by
     unfold HT.b8;by_cases e:n1=n2
     ·subst e;simp[HT.fu]
     ·simp[e]
    rw[<-this];exact q
   ·rw[mB] at mz;cases mz
  ·rcases k2 with⟨mz,_⟩ | ⟨mz,b2,rfl,s2⟩
   ·rw[mB] at mz;cases mz
   ·cases r1;cases r2;obtain⟨i1,v1,p1,_⟩:=I.tuple s1;obtain⟨i2,v2,p2,_⟩:=I.tuple s2;obtain⟨o1,g1,p1⟩:=p1;obtain⟨o2,g2,p2⟩:=p2;exact HT.mG (A:=X.A.in1) ⟨o1,Ba _ _ g1,p1⟩ ⟨o2,Ba _ _ g2,p2⟩ (sh v1) (sh v2) (by show X.A.units+1<cLine;omega) q
 ·subst he;exact⟨y,H,I.kept kp,ry,h0 (List.length_eq_zero_iff.mp (by rw[<-hlen,ln];rfl))⟩
 ·obtain⟨x,t,hx,ht,r,_,e⟩:=at_ _ v hv;refine⟨x,H,I.kept kp,r,h1 _ t x ht hx fun u VT=>?_⟩;obtain⟨h3,h4⟩:=HD (fun i j=>HT.b8 (cR.getD i []) (cR.getD j [])) (fun i=>HT.fu _) (fun i j=>HT.ig _ _) (fun i j k=>HT.ie _ _ _) (its.length-1);obtain⟨j,hj,rfl⟩:=List.getElem_of_mem VT;have h5:=h4 j (by omega);rw[e];have e7:cR.getD j []=cR[j]:=by rw[List.getD_eq_getElem?_getD,ag hj];rfl
  rw[<-e7];exact h5
def zG(P:V->Hp->Prop):List V->Hp->Prop:=fun vs H=>match vs with
 | [x]=>P x H
 | _=>False
theorem HC{P:V->Hp->Prop}{vs:List V}{H:Hp}(h:zG P vs H):∃x,vs=[x]:=by
 unfold zG at h;split at h
 ·exact⟨_,rfl⟩
 ·exact h.elim
def LO(K:PySem.W.Frag)(ta tb:TE):TE:=fun σ H Q=>ta σ H fun x H1=>tb σ H1 fun y H2=>zQ K x y H2 Q
theorem NU{ta tb:TE}(hc:X.calm=true)(hu:X.A.units+64<cLine)(ha:PE X e ta)(hb:PE X e2 tb)(hm:X.mg "max"=none)(hg:Gl X "max":=by rfl)(hs:starEach [e] X.env=(false,eval e X.env)::starEach [] X.env:=by rfl) :
  PE X (.Call (.Name "max" p) [e] [⟨some "default",e2,kp⟩] pos) (LO X.K ta tb):=by
 intro pins s σ H Q I h;refine wpAny_Call_Name_kw (qh I hg hm (u:=.builtin "max") rfl ?_);refine callWith_kw ?_ (by rw[hs];rfl) (by rw[hs];rfl);refine cL (mX ha oB hs pos pins s σ H (zG fun x H1=>tb σ H1 fun y H2=>zQ X.K x y H2 Q) I h) fun us s1 cq=>?_
 obtain⟨vs,H1,I1,r,q⟩:=cq;obtain⟨x,rfl⟩:=HC q;obtain⟨u,rfl,ru⟩:=j8 r;refine cL (OJ hb Nv pos pins s1 σ H1 (zG fun y H2=>zQ X.K x y H2 Q) I1 q) fun ws s2 cq=>?_
 obtain⟨zs,H2,I2,rz,q2⟩:=cq;obtain⟨y,rfl⟩:=HC q2;obtain⟨d,rfl,rd⟩:=j8 rz;exact Q3 hc hu I2 ru rd q2
noncomputable def jW:List D->Option (List (List Int))
 | []=>some []
 | .tup es::r=>match jK es,jW r with
  | some a,some b=>some (a::b)
  | _,_=>none
 | _=>none
noncomputable def uV(es:List D):Option (Bool×List (List Int)):=match jK es with
 | some ns=>some (true,ns.map fun n=>[n])
 | none=>(jW es).map fun t=>(false,t)
noncomputable def kD:Bool->List Int->D
 | true,t=>.int (t.headD 0)
 | false,t=>.tup (t.map D.int)
def uU(v d:D)(Q:R->Prop):Prop:=match v with
 | .lst es=>match uV es with
  | some (k,cR)=>(cR=[]->Q (.fz d))/\∀t∈cR,(∀u∈cR,HT.b8 u t=false)->Q (.fz (kD k t))
  | none=>False
 | _=>False
def rQ(ta tb:TD):TD:=fun ρ Q=>ta ρ fun r=>tb ρ fun r2=>uU r.val r2.val Q
theorem CA{K:PySem.W.Frag}{G:Hp}:∀{es:List D} {cR:List (List Int)} {vs:List V},jW es=some cR->bV K G vs es->vs.length=cR.length/\∀(i:Nat) x t,vs[i]?=some x->cR[i]?=some t->Rep K G x (.tup (t.map D.int))/\∃b,x=.ref b/\fQ K G b (t.map V.int)
 | [],cR,[],h,_=>by simp only[jW,aD] at h;subst h;exact⟨rfl,fun i x t e=>by simp at e⟩
 | .tup es::r,cR,v::vs,h,rs=>by
  simp only[bV] at rs;simp only[jW] at h;split at h
  ·rename_i a b ha hb;simp only[aD] at h;subst h;obtain⟨h1,h2⟩:=CA hb rs.2;refine⟨by simp[h1],fun i x t e1 e2=>?_⟩;cases i with
   | zero=>
    simp only[aW,aD] at e1 e2;subst e1 e2;have r1:=rs.1;rw[tM ha] at r1;refine⟨r1,?_⟩;simp only[Rep] at r1;obtain⟨p,xs,rfl,q1,q2⟩:=r1;rw[tF q2] at q1;exact⟨p,rfl,q1⟩
   | succ i=>
    simp only[aX] at e1 e2;exact h2 i x t e1 e2
  ·cases h
 | [],_,_::_,_,rs=>by simp only[bV] at rs
 | _::_,_,[],_,rs=>by simp only[bV] at rs
 | .int _::_,_,_::_,h,_=>by simp[jW] at h
 | .str _::_,_,_::_,h,_=>by simp[jW] at h
 | .lst _::_,_,_::_,h,_=>by simp[jW] at h
 | .non::_,_,_::_,h,_=>by simp[jW] at h
 | .bl _::_,_,_::_,h,_=>by simp[jW] at h
 | .obj _ _::_,_,_::_,h,_=>by simp[jW] at h
 | .dic _::_,_,_::_,h,_=>by simp[jW] at h
 | .dit _::_,_,_::_,h,_=>by simp[jW] at h
theorem B8(hc:X.calm=true)(hu:X.A.units+64<cLine)(ha:PD X e te)(hb:PD X e2 te2)(hm:X.mg "max"=none)(hg:Gl X "max":=by rfl)(hs:starEach [e] X.env=(false,eval e X.env)::starEach [] X.env:=by rfl) :
  PD X (.Call (.Name "max" p) [e] [⟨some "default",e2,kp⟩] pos) (rQ te te2):=by
 obtain⟨t1,p1,q1⟩:=ha;obtain⟨t2,p2,q2⟩:=hb;refine⟨_,NU hc hu p1 p2 hm hg hs,fun ρ σ G0 H0 G H Q P E h k=>q1 ρ σ G0 H0 G H _ _ E h fun v H' r G' x1 rr hq=>?_⟩;obtain⟨G2,x2,rv,_⟩:=rr.freeze x1;refine q2 ρ σ G0 H0 G2 H' _ _ (E.ext x2) hq fun v3 H3 r3 G3 x3 kd cQ=>?_
 obtain⟨G4,x4,jD,_⟩:=kd.freeze x3;unfold uU at cQ;split at cQ
 ·rename_i es WG;split at cQ
  ·rename_i kk cR hk;rw[WG] at rv;have iw:=rv.mono x4.g;simp only[Rep] at iw;obtain⟨a,xs,rfl,h1,h2⟩:=iw;unfold uV at hk;split at hk
   ·rename_i ns l8;simp only[aD,Prod.mk.injEq] at hk;obtain⟨rfl,rfl⟩:=hk;rw[tM l8] at h2;rw[tF h2] at h1;refine⟨a,_,ns.map fun n=>[n],true,rfl,(x4.s.fb h1).sq,by simp,fun i x t e1 e2=>?_,fun e=>k _ _ _ G4 (x2.trans x4) (fj jD) (cQ.1 e),fun i t v e1 e2 i5=>?_⟩
    ·simp only[ao,bx] at e1 e2;obtain⟨n,e1,rfl⟩:=e1;obtain⟨m,e2,rfl⟩:=e2;rw[e1] at e2;cases e2;exact .inl ⟨rfl,n,rfl,rfl⟩
    ·have sL:=ay e1;simp only[ao,bx] at e1 e2;obtain⟨n,e1,rfl⟩:=e1;obtain⟨m,e2,rfl⟩:=e2;rw[e1] at e2;cases e2;exact k _ _ _ G4 (x2.trans x4) (fj (iJ _ _ _)) (cQ.2 _ sL i5)
   ·simp only[bx,Prod.mk.injEq] at hk;obtain⟨t',ht,rfl,rfl⟩:=hk;obtain⟨h3,h4⟩:=CA ht h2;refine⟨a,xs,t',false,rfl,(x4.s.fb h1).sq,h3,fun i x t e1 e2=>?_,fun e=>k _ _ _ G4 (x2.trans x4) (fj jD) (cQ.1 e),fun i t v e1 e2 i5=>?_⟩
    ·obtain⟨_,b,rfl,h5⟩:=h4 i x t e1 e2;exact .inr ⟨rfl,b,rfl,x4.s.gP h5⟩
    ·exact k _ _ _ G4 (x2.trans x4) (fj (h4 i v t e2 e1).1) (cQ.2 t (ay e1) i5)
  ·exact cQ.elim
 ·exact cQ.elim
end
end L2
namespace L2
open PySem PySem.Spec PyProof.Rows
def Ie:Sl->Prop
 | .ov (.dc _)=>True
 | .ov _=>False
 | _=>True
def z6(i:Nat)(te:TD):TD:=fun ρ Q=>Ie (gt ρ i)/\te (iC i ρ) fun r=>match r with
 | .fz (.tup ds)=>ds.all mU=true/\Q (.fz (.tup ds))
 | .fz d=>mU d=true/\Q (.fz d)
 | _=>False
theorem P7{K:PySem.W.Frag}{G H0 H:Hp}{L:List Addr}{p:Addr}{xs:List V}(hs:cm G H)(hH:cm H0 H)(h0:∀q∈L,H0 q≠none)(hL:∀q∈L,∀xs,¬Rd H0 q (.tup xs))(h:fQ K G p xs):fQ K (less G L) p xs:=by
 rcases h with h | h
 ·left
  have hp:p∉L:=fun hp=>by
   cases e:H0 p with
   | none=>exact h0 p hp e
   | some u=>
    have e2:=hH p u e;refine hL p hp xs ?_;rcases h with h | ⟨o,h⟩
    ·left;have:=hs _ _ h;rw[e2] at this;rw[e,this]
    ·right;have:=hs _ _ h;rw[e2] at this;exact⟨o,by rw[e,this]⟩
  rcases h with h | ⟨o,h⟩
  ·left;unfold less;rw[if_neg hp];exact h
  ·right;refine⟨o,?_⟩;unfold less;rw[if_neg hp];exact h
 ·exact .inr h
theorem P6{K:PySem.W.Frag}{te:TD}{tt:TE}(i:Nat)(q:mf K te tt):mf K (z6 i te) tt:=by
 intro ρ σ G0 H0 G H Q P E h k;obtain⟨L,hL,E1,hT⟩:=E.ik i;have K3:∀q∈L,H q≠none/\∀xs,¬Rd H q (.tup xs):=hT fun o ho=>by
  have:=h.1;rw[ho] at this;cases o with
  | dc kvs=>exact .inl ⟨kvs,rfl⟩
  | ll=>exact this.elim
  | dl=>exact this.elim
  | tl=>exact this.elim
  | ld=>exact this.elim
  | dt=>exact this.elim
  | tp=>exact this.elim
  | ob=>exact this.elim
 refine q _ σ G0 H0 _ H _ _ E1 h.2 fun v H' r G' x rr hq=>?_
 have x2:=AB hL x;split at hq
 ·rename_i ds;refine k v H' _ (less G' L) x2 ?_ hq.2;have JZ:Rep K G' v (.tup ds):=rr;simp only[Rep] at JZ;obtain⟨a,xs,rfl,h1,h2⟩:=JZ;show Rep K _ _ (.tup ds);simp only[Rep];exact⟨a,xs,rfl,P7 x.s x.h (fun q hq=>(K3 q hq).1) (fun q hq=>(K3 q hq).2) h1,CY hq.1 h2⟩
 ·rename_i d _;exact k v H' (.fz d) (less G' L) x2 (fj (w5 hq.1 rr)) hq.2
 ·exact hq.elim
section
variable {X:Cx} {pos:Pos} {e:Expr} {te:TD}
theorem P5(i:Nat)(h:PD X e te):PD X e (z6 i te):=let⟨tt,p,q⟩:=h;⟨tt,p,P6 i q⟩
def zW(i:Nat)(te:TD):TX:=fun D ρ=>te ρ fun r=>match gt ρ i with
 | .ow ds=>D.rt (.ov (.tl r.val ds))
 | _=>False
theorem NT(i:Nat){x:Str}{p' tp:Pos}{x1:Nat}(h:PD X e te)(hN:X.N[i]?=some x:=by rfl)(hv:js X.env.scope x:=by first | exact Or.inl rfl | exact Or.inr (Or.inl rfl) | exact Or.inr (Or.inr rfl))(hd:(x==("__debug__":Str))=false:=by decide)
  (fi:(x==("__classdict__":Str))=false:=by decide) (gv:starEach [e,.Name x p'] X.env=(false,eval e X.env)::starEach [.Name x p'] X.env:=by rfl) (pE:starEach [.Name x p'] X.env=(false,eval (.Name x p') X.env)::starEach [] X.env:=by rfl) :
  PX X (.Return (some (.Tuple [e,.Name x p'] x1 tp)) pos) (zW i te):=by
 obtain⟨t1,p1,q1⟩:=h;refine⟨_,Ah (Ag (mX p1 (mX (jL hN hv hd fi) oB pE) gv)),fun ρ σ G0 H0 G H D E k h g=>?_⟩;refine q1 ρ σ G0 H0 G H _ _ k h fun v H1 ra G1 x1 qW i3=>?_
 obtain⟨G2,x2,lY,_⟩:=qW.freeze x1;split at i3
 ·rename_i ds hg;have k2:=k.ext x2;obtain⟨q,xs,c0,c1,c2,c3,c4⟩:=k2.ow i ds hg;refine⟨_,c0,by show 2<=sizeLine;decide,fun p hp=>?_⟩;have yB:p≠q:=fun z=>by rw[z,c1] at hp;cases hp
  refine g.rt _ _ (.ov (.tl ra.val ds)) G2 (k2.e.trans (.own k2.e.s hp)) ⟨p,[q],rfl,by simp[yB],⟨q,v,xs,rfl,fk,lY,by rw[cX yB.symm];exact c1,c4⟩,fun r hr=>?_⟩ i3;simp only[aq,br,or_false] at hr;rcases hr with rfl | rfl
  ·exact⟨k2.e.h.free hp,k2.e.s.free hp⟩
  ·exact⟨c3,c2⟩
 ·exact i3.elim
end
end L2
namespace L2
open PySem PySem.Spec PyProof.Rows
end L2
namespace Ts
open PySem PyProof.Rows
variable {M:Model} {A:Around} {E:Value->Shared->Prop} {s:Shared}
end Ts
namespace Ts
open PySem PyProof.Rows
variable {α:Type} (rk:α->Int)
variable {rk}
end Ts
namespace Ts
open PySem PyProof.Rows
variable {M:Model} {A:Around} {E:Value->Shared->Prop} {s:Shared}
def qA(rk:Keyed->Int)(l:List Keyed):Prop:=l.Pairwise fun x y=>rk x<=rk y
noncomputable abbrev dk:Keyed:=(Value.none,Value.none)
end Ts
namespace Ts
open PySem PyProof.Rows
end Ts
namespace Ts
open PySem PyProof.Rows
variable {M:Model} {A:Around} {E:Value->Shared->Prop} {s:Shared}
end Ts
namespace Ts
open PySem PyProof.Rows
variable {M:Model} {A:Around} {E:Value->Shared->Prop} {s:Shared}
end Ts
namespace Ts
open PySem PyProof.Rows
noncomputable def kr(rk:Keyed->Int)(xs:Array Keyed)(i:Nat):Int:=rk (xs.getD i dk)
variable {M:Model} {A:Around} {E:Value->Shared->Prop} {s:Shared}
end Ts
namespace Ts
open PySem PyProof.Rows
variable {M:Model} {A:Around} {E:Value->Shared->Prop} {s:Shared}
end Ts
namespace Ts
open PySem PyProof.Rows
variable {M:Model} {A:Around} {E:Value->Shared->Prop} {s:Shared}
end Ts
namespace Ts
open PySem PyProof.Rows
variable {M:Model} {A:Around} {E:Value->Shared->Prop} {s:Shared}
end Ts
namespace Ts
open PySem PySem.W PyProof.Rows
section
variable {n N:Nat} {r:Nat->Int} {cmp:Nat->Nat->(Bool->Shared->Prop)->Shared->Prop} {s:Shared} {p:Array Nat} {i j k m:Nat}
noncomputable def kp(r:Nat->Int)(p:Array Nat)(i:Nat):Int:=r (p.getD i 0)
def Pm(n:Nat)(p:Array Nat):Prop:=p.toList.Perm (List.range n)
def Up(r:Nat->Int)(p:Array Nat)(m:Nat):Prop:=∀i j,i<=j->j<m->kp r p i<=kp r p j
abbrev Dn(r:Nat->Int):Array Nat->Nat->Prop:=Up fun x=>-r x
abbrev Cm(n:Nat)(r:Nat->Int)(cmp:Nat->Nat->(Bool->Shared->Prop)->Shared->Prop)(s:Shared):Prop:=∀i j (C:Bool->Shared->Prop),i<n->j<n->C (decide (r i<r j)) s->cmp i j C s
theorem Pm.size(h:Pm n p):p.size=n:=by have:=h.length_eq;simpa using this
theorem Pm.lt(h:Pm n p)(hn:0<n)(i:Nat):p.getD i 0<n:=by
 by_cases hi:i<p.size
 ·have e:p.getD i 0=p[i]:=by simp[Array.getD,hi]
  rw[e];exact aP.mp (h.mem_iff.mp (by simp))
 ·have e:p.getD i 0=0:=by simp[Array.getD,hi]
  rw[e];exact hn
theorem Pm.to{q:Array Nat}(h:Pm n p)(k:q.Perm p):Pm n q:=(Array.perm_iff_toList_perm.mp k).trans h
theorem wY{q:Array Nat}(h:p[i]?=q[j]?):kp r p i=kp r q j:=by
 unfold kp;rw[Array.getD_eq_getD_getElem?,Array.getD_eq_getD_getElem?,h]
theorem kH:kp (fun x=>-r x) p i=-kp r p i:=rfl
theorem Up.more(u:Up r p m)(h1:1<=m)(h:kp r p (m-1)<=kp r p m):Up r p (m+1):=fun i j pK hj=>by
 by_cases e:j<m
 ·exact u i j pK e
 ·obtain rfl:j=m:=by omega
  by_cases e2:i=j
  ·subst e2;exact bU _
  ·exact Int.le_trans (u i (j-1) (by omega) (by omega)) h
theorem Up.same{q:Array Nat}(u:Up r p m)(h:∀i,kp r q i=kp r p i):Up r q m:=fun i j a b=>by rw[h,h];exact u i j a b
theorem B0(hj:j<=p.size)(k:Nat):kp r (kas_rev p i j) k=if i<=k/\k<j then kp r p (i+j-1-k) else kp r p k:=by
 have e:=getElem?_mirror_all (i:=i) hj k;by_cases h1:i<=k/\k<j
 ·rw[if_pos h1] at e ⊢;exact wY e
 ·rw[if_neg h1] at e ⊢;exact wY e
theorem BZ(hj:j<=p.size)(heq:∀k,i<=k->k<j->kp r p k=kp r p (j-1))(k:Nat):kp r (kas_rev p i j) k=kp r p k:=by
 rw[B0 hj];by_cases h:i<=k/\k<j
 ·rw[if_pos h,heq _ (by omega) (by omega),heq k h.1 h.2]
 ·rw[if_neg h]
theorem Up.turn(u:Dn r p m)(hm:m<=p.size):Up r (kas_rev p 0 m) m:=fun i j pK hj=>by
 rw[B0 hm,B0 hm,if_pos ⟨ba _,by omega⟩,if_pos ⟨ba _,hj⟩];have:=u (0+m-1-j) (0+m-1-i) (by omega) (by omega);rw[kH,kH] at this;omega
theorem Pm.rev(h:Pm n p):Pm n (kas_rev p i j):=h.to (mirror_perm _ _ _ _)
theorem BY(hc:Cm n r cmp s)(hn:0<n)(hp:Pm n p){G:Nat->Shared->Prop}:∀k m,1<=m->m+k=N->Up r p m->(∀m',1<=m'->m'<=N->Up r p m'->(m'<N->kp r p m'<kp r p (m'-1))->G m' s)->(kas_asc p k m).kasWp cmp G s
 | 0,m,h1,e,u,g=>g m h1 (by omega) u (by omega)
 | k+1,m,h1,e,u,g=>by
  refine hc _ _ _ (hp.lt hn _) (hp.lt hn _) ?_;by_cases h:kp r p m<kp r p (m-1)
  ·rw[show decide (r (p.getD m 0)<r (p.getD (m-1) 0))=true from decide_eq_true h];exact g m h1 (by omega) u fun _=>h
  ·rw[show decide (r (p.getD m 0)<r (p.getD (m-1) 0))=false from bz h];exact BY hc hn hp k (m+1) (by omega) (by omega) (u.more h1 (by omega)) g
theorem Al(hc:Cm n r cmp s)(hn:0<n)(hN:N<=n){G:Array Nat×Nat×Nat->Shared->Prop}(g:∀p m q,Pm n p->1<=m->m<=N->Dn r p m->q<m->(∀t,t<=q->kp r p (m-1-t)=kp r p (m-1))->G (p,m,q) s) :
  ∀k p m q,Pm n p->1<=m->m+k=N->Dn r p m->q<m->(∀t,t<=q->kp r p (m-1-t)=kp r p (m-1))->(kas_desc k p m q).kasWp cmp G s
 | 0,p,m,q,hp,h1,e,d,hq,eq=>g p m q hp h1 (by omega) d hq eq
 | k+1,p,m,q,hp,h1,e,d,hq,eq=>by
  have hsz:=hp.size;refine hc _ _ _ (hp.lt hn _) (hp.lt hn _) ?_;by_cases h:kp r p m<kp r p (m-1)
  ·rw[show decide (r (p.getD m 0)<r (p.getD (m-1) 0))=true from decide_eq_true h];simp only[bO];by_cases c:q>0
   ·rw[if_pos c];have km:=BZ (r:=r) (p:=p) (i:=m-(q+1)) (j:=m) (by omega) fun x a b=>by
     have:=eq (m-1-x) (by omega);rwa [show m-1-(m-1-x)=x by omega] at this
    refine Al hc hn hN g k _ (m+1) 0 hp.rev (by omega) (by omega) (Up.more (d.same fun x=>by rw[kH,kH,km]) h1 ?_) (by omega) fun t ht=>by rw[show t=0 by omega];rfl
    rw[kH,kH,km,km];omega
   ·rw[if_neg c];refine Al hc hn hN g k _ (m+1) 0 hp (by omega) (by omega) (Up.more d h1 ?_) (by omega) fun t ht=>by rw[show t=0 by omega];rfl
    rw[kH,kH];omega
  ·rw[show decide (r (p.getD m 0)<r (p.getD (m-1) 0))=false from bz h];simp only[aF,bE];refine hc _ _ _ (hp.lt hn _) (hp.lt hn _) ?_;by_cases h2:kp r p (m-1)<kp r p m
   ·rw[show decide (r (p.getD (m-1) 0)<r (p.getD m 0))=true from decide_eq_true h2];exact g p m q hp h1 (by omega) d hq eq
   ·rw[show decide (r (p.getD (m-1) 0)<r (p.getD m 0))=false from bz h2];refine Al hc hn hN g k _ (m+1) (q+1) hp (by omega) (by omega) (Up.more d h1 ?_) (by omega) fun t ht=>?_
    ·rw[kH,kH];omega
    ·by_cases t0:t=0
     ·subst t0;rfl
     ·have:=eq (t-1) (by omega);rw[show m+1-1-t=m-1-(t-1) by omega,this,show m+1-1=m by omega];omega
section
variable {G:Nat×Array Nat->Shared->Prop} (g:∀m p,Pm n p->1<=m->m<=N->Up r p m->G (m,p) s)
include g
theorem Ic(hc:Cm n r cmp s)(hn:0<n)(hN:N<=n)(hp:Pm n p)(h1:1<=m)(hm:m<=N)(d:Dn r p m):(kas_tail3 m N p).kasWp cmp G s:=by
 unfold kas_tail3;rw[KasT.kasWp_bind];exact BY (N:=N) hc hn hp.rev (N-m) m h1 (by omega) (Up.turn d (by rw[hp.size];omega)) fun m' a b u _=>g m' _ hp.rev a b u
theorem JJ(hc:Cm n r cmp s)(hn:0<n)(hN:N<=n)(hp:Pm n p)(hm:m+1<=N)(d:Dn r p (m+1)):(kas_descPart m N p).kasWp cmp G s:=by
 unfold kas_descPart;rw[KasT.kasWp_bind];refine Al hc hn hN (fun p m q hp h1 hm d hq eq=>?_) (N-(m+1)) p (m+1) 0 hp (by omega) (by omega) d (by omega) fun t ht=>by rw[show t=0 by omega];rfl
 have hsz:=hp.size;dsimp only;by_cases c:q>0
 ·rw[if_pos c];have km:=BZ (r:=r) (p:=p) (i:=m-(q+1)) (j:=m) (by omega) fun x a b=>by
   have:=eq (m-1-x) (by omega);rwa [show m-1-(m-1-x)=x by omega] at this
  exact Ic g hc hn hN hp.rev h1 hm (d.same fun x=>by rw[kH,kH,km])
 ·rw[if_neg c];exact Ic g hc hn hN hp h1 hm d
theorem P4(hc:Cm n r cmp s)(hn:0<n)(hN:N<=n)(h1:1<=N)(hp:Pm n p):(kas_count N p).kasWp cmp G s:=by
 unfold kas_count;rw[KasT.kasWp_bind];refine BY (N:=N) hc hn hp (N-1) 1 (az _) (by omega) (fun i j a b=>by rw[show i=j by omega];exact bU _) fun m a b u hd=>?_
 by_cases e:m=N
 ·rw[if_pos (by simpa using e)];exact g m p hp a b u
 rw[if_neg (by simpa using e)];have XZ:=hd (by omega);have hsz:=hp.size;by_cases c:m>1
 ·rw[if_pos c];refine hc _ _ _ (hp.lt hn _) (hp.lt hn _) ?_;by_cases h:kp r p 0<kp r p (m-1)
  ·rw[show decide (r (p.getD 0 0)<r (p.getD (m-1) 0))=true from decide_eq_true h];exact g m p hp a b u
  ·rw[show decide (r (p.getD 0 0)<r (p.getD (m-1) 0))=false from bz h];have same:∀x,0<=x->x<m->kp r p x=kp r p (m-1):=fun x _ hx=>by
    have:=u 0 x (ba _) hx;have:=u x (m-1) (by omega) (by omega);omega
   have km:=BZ (r:=r) (p:=p) (i:=0) (j:=m) (by omega) same;refine JJ g hc hn hN hp.rev (by omega) (Up.more (fun i j pK hj=>?_) a ?_)
   ·rw[kH,kH,km,km,same i (ba _) (by omega),same j (ba _) hj];exact bU _
   ·rw[kH,kH,km,km];omega
 ·rw[if_neg c];obtain rfl:m=1:=by omega
  refine JJ g hc hn hN hp (by omega) (Up.more (fun i j pK hj=>by rw[show i=j by omega];exact bU _) (az _) ?_);rw[kH,kH];omega
end
theorem Cz(hc:Cm n r cmp s)(hn:0<n)(hp:Pm n p)(u:Up r p k){G:Nat->Shared->Prop}(g:∀l,l<=k->(∀i,i<l->kp r p i<=kp r p k)->(∀i,l<=i->i<k->kp r p k<kp r p i)->G l s) :
  ∀f l h,l<=h->h<=k->h-l<=f->(∀i,i<l->kp r p i<=kp r p k)->(∀i,h<=i->i<k->kp r p k<kp r p i)->(kas_place p k f l h).kasWp cmp G s
 | 0,l,h,a,b,c,lo,hi=>g l (by omega) lo fun i x y=>hi i (by omega) y
 | f+1,l,h,a,b,c,lo,hi=>by
  unfold kas_place;by_cases e:l>=h
  ·rw[if_pos e];exact g l (by omega) lo fun i x y=>hi i (by omega) y
  ·rw[if_neg e];refine hc _ _ _ (hp.lt hn _) (hp.lt hn _) ?_;by_cases q:kp r p k<kp r p ((l+h)/2)
   ·rw[show decide (r (p.getD k 0)<r (p.getD ((l+h)/2) 0))=true from decide_eq_true q];exact Cz hc hn hp u g f l _ (by omega) (by omega) (by omega) lo fun i x y=>Int.lt_of_lt_of_le q (u _ i x y)
   ·rw[show decide (r (p.getD k 0)<r (p.getD ((l+h)/2) 0))=false from bz q];exact Cz hc hn hp u g f _ h (by omega) b (by omega) (fun i x=>Int.le_trans (u i _ (by omega) (by omega)) (Int.not_lt.mp q)) hi
theorem GF(hc:Cm n r cmp s)(hn:0<n){G:Array Nat->Shared->Prop}(g:∀p,Pm n p->Up r p n->G p s):∀f p k,Pm n p->k+f=n->Up r p k->(kas_bin f p k).kasWp cmp G s
 | 0,p,k,hp,e,u=>g p hp (by rwa [show n=k by omega])
 | f+1,p,k,hp,e,u=>by
  unfold kas_bin;rw[KasT.kasWp_bind];refine Cz hc hn hp u (fun l hl lo hi=>?_) k 0 k (ba _) (az _) (by omega) (fun i h=>by omega) fun i h h'=>by omega
  have hb:∀i,kp r (bubble p k (k-l)) i=if i=l then kp r p k else if l<i/\i<=k then kp r p (i-1) else kp r p i:=fun i=>by
   have e:=getElem?_bubble (xs:=p) (src:=k) (by rw[hp.size];omega) (k-l) (by omega) i;rw[show k-(k-l)=l by omega] at e;by_cases c1:i=l
   ·rw[if_pos c1] at e ⊢;exact wY e
   ·rw[if_neg c1] at e ⊢;by_cases c2:l<i/\i<=k
    ·rw[if_pos c2] at e ⊢;exact wY e
    ·rw[if_neg c2] at e ⊢;exact wY e
  refine GF hc hn g f _ (k+1) (hp.to (bubble_perm _ _ _)) (by omega) fun i j pK hj=>?_
  rw[hb,hb];by_cases c1:i=l
  ·rw[if_pos c1];by_cases c2:j=l
   ·rw[if_pos c2];exact bU _
   ·rw[if_neg c2,if_pos (by omega)];exact Int.le_of_lt (hi _ (by omega) (by omega))
  ·rw[if_neg c1];by_cases c3:l<i/\i<=k
   ·rw[if_pos c3,if_neg (by omega),if_pos (by omega)];exact u _ _ (by omega) (by omega)
   ·rw[if_neg c3];by_cases c2:j=l
    ·rw[if_pos c2];exact lo i (by omega)
    ·rw[if_neg c2];by_cases c4:l<j/\j<=k
     ·rw[if_pos c4];exact u _ _ (by omega) (by omega)
     ·rw[if_neg c4];exact u _ _ pK (by omega)
theorem NS(hc:Cm n r cmp s)(hn:0<n){G:Array Nat->Shared->Prop}(g:∀p,Pm n p->Up r p n->G p s):(kas_sort n).kasWp cmp G s:=by
 unfold kas_sort;rw[KasT.kasWp_bind];refine P4 (fun m p hp a b u=>?_) hc hn (az n) hn (show Pm n _ by unfold Pm;simp);dsimp only;by_cases e:m<n
 ·rw[if_pos e,show max m 1=m by omega];exact GF hc hn g _ p m hp (by omega) u
 ·rw[if_neg e];exact g p hp (by rwa [show n=m by omega])
end
end Ts
namespace Ts
open PySem PyProof.Rows
section
variable {prog:Program} {w:World} {A:Around} {E:Value->Shared->Prop} {s:Shared}
structure Ky (prog:Program) (w:World) (A:Around) (s:Shared) (κ:SortKind) (ok:Keyed->Prop) (rk:Keyed->Int):Prop where
 key:∀x y (C:Bool->Shared->Prop),ok x->ok y->C (decide (rk x<rk y)) s->wpAny (model prog w) A (keyLt' κ x.1 y.1) C (fun _ _=>False) s
def gh(n:Nat):Prop:=∀{prog:Program} {w:World} {A:Around} {E:Value->Shared->Prop} {s:Shared} {κ:SortKind} {rk:Keyed->Int} {it:Array Keyed} (R:Ky prog w A s κ (fun x=>x∈it) rk) {Q:Unit->SortSt->Prop},it.size=n->
 (∀eG,(arrOf eG).toList.Perm it.toList->qA rk (arrOf eG).toList->failedOf eG=none->Q () eG)->wpS (model prog w) A E s sortRuns' Q (SortSt.mk' κ it #[] 7 none)
structure Ask (prog:Program) (w:World) (A:Around) (E:Value->Shared->Prop) (vs:List Value) (rk:Keyed->Int) (s:Shared):Prop where
 ask:2<=vs.length->∃κ,(∀Q':SortKind->Shared->Prop,Q' κ s->wpAny (model prog w) A (keyKind' vs.toArray) Q' E s)/\Ky prog w A s κ (fun x=>x∈pairsOf vs) rk
theorem Q2{rk:Keyed->Int}{l:List Keyed}(h:l.length<2):qA rk l:=by
 cases l with
 | nil=>exact .nil
 | cons a r=>
  cases r with
  | nil=>exact List.pairwise_singleton _ _
  | cons b t=>
   simp only[aN] at h;omega
theorem iT{a:Addr}{vs:List Value}{n:Nat}{P:Fin->Shared->Prop}{rk:Keyed->Int}(ho:s.heap.get? a=some (seqObj "list" vs.toArray n))(hl:vs.length<=sizeLine)(hr:2<=vs.length->gh vs.length)
  (R:∀h',(∀b o,b≠a->s.heap.get? b=some o->h'.get? b=some o)->Ask prog w A E vs rk { s with heap:=h' })
  (h:∀eG:SortSt,(arrOf eG).toList.Perm (pairsOf vs).toList->qA rk (arrOf eG).toList->P (.done (.ret .none)) { s with heap:=sortedHeap s.heap a vs ((arrOf eG).map (·.2)) }) :
  wpAny (model prog w) A (Builtin.«list.sort» ⟨[.ref a],[]⟩) P E s:=by
 rw[list_sort_plain];have ha:a<s.heap.objs.size:=ax ho;refine aa (listItems_at ho rfl ?_);refine aa (listUpdate_at ho rfl ?_ (by simpa using hl) (ba _));obtain⟨e1,Kv⟩:∃e1,(s.heap.update a (Obj.mapSeq fun _=>#[])).get? a=some (seqObj "list" #[] e1):=⟨_,get?_update_seq ho (fun _=>#[])⟩
 refine aa (seqEpoch_at Kv rfl ?_);refine aa (wpAny_newTuple ?_ (by show vs.length<=_;exact hl));refine aa (wpAny_newList ?_ (ba _));refine bA ?_;have Bh:(((s.heap.update a (Obj.mapSeq fun _=>#[])).push (seqObj "tuple" vs.toArray 0)).push (seqObj "list" #[] 0)).get? a=some (seqObj "list" #[] e1):=by
  rw[Heap.get?_push_ne _ _ _ (by rw[size_push',Heap.size_update];exact aA (bH ha)),Heap.get?_push_ne _ _ _ (by rw[Heap.size_update];exact aA ha)];exact Kv
 have ak:=R (((s.heap.update a (Obj.mapSeq fun _=>#[])).push (seqObj "tuple" vs.toArray 0)).push (seqObj "list" #[] 0)) (fun b o hb e=>ae _ (ae _ ((aU _ _ (Ne.symm hb)).trans e)));show wpAny (model prog w) A _ P E { s with heap:=((s.heap.update a (Obj.mapSeq fun _=>#[])).push (seqObj "tuple" vs.toArray 0)).push (seqObj "list" #[] 0) };dsimp only;have hsz:vs.toArray.size=vs.length:=by simp
 have fin:=h;by_cases h2:vs.toArray.size<2
 ·rw[if_pos h2,if_pos h2];refine aa (ai ?_);rw[StateT.run_pure];refine aa (ai ?_);dsimp only;refine aa (seqEpoch_at Bh rfl ?_);refine aa (listUpdate_at Bh rfl ?_ (ba _) (by rw[Array.size_map];show(pairsOf vs).size<=_;rw[pairsOf_size];exact Nat.le_succ_of_le hl));simp only[bne_self_eq_false,aF,bE];refine ai (fin (SortSt.mk' general' (vs.toArray.zip vs.toArray) #[] 7 none) (List.Perm.refl _) ?_);show qA rk (pairsOf vs).toList;exact Q2 (by rw[aT,pairsOf_size];omega)
 ·rw[if_neg h2,if_neg h2];obtain⟨κ,ka,kr⟩:=ak.ask (by omega);refine aa (ka _ ?_)
  refine aa (wpAny_mono (hr (by omega) kr
   (Q:=fun _ eG=>(arrOf eG).toList.Perm (pairsOf vs).toList/\qA rk (arrOf eG).toList/\failedOf eG=none) (pairsOf_size vs) fun eG a1 a2 a3=>⟨a1,a2,a3⟩) ?_ fun _ _ e=>e)
  rintro⟨⟨⟩,eG⟩ s' ⟨rfl,hp,hs,hf⟩;dsimp only;refine aa (seqEpoch_at Bh rfl ?_)
  refine aa (listUpdate_at Bh rfl ?_ (ba _) (by
   rw[Array.size_map,<-aT,hp.length_eq,aT,pairsOf_size];exact Nat.le_succ_of_le hl))
  rw[hf];simp only[bne_self_eq_false,aF,bE];exact ai (fin eG hp hs)
theorem o8{l:Addr}{vs:List Value}{Q:Value->Shared->Prop}{rk:Keyed->Int}(hl:s.heap.IsList l vs.toArray)(hz:vs.length<=sizeLine)(hr:2<=vs.length->gh vs.length)
  (R:∀h',(∀b o,s.heap.get? b=some o->h'.get? b=some o)->Ask prog w A.in1.in1 E vs rk { s with heap:=h' })
  (h:∀eG:SortSt,(arrOf eG).toList.Perm (pairsOf vs).toList->qA rk (arrOf eG).toList->Q (.ref (s.heap.objs.size+1)) { s with heap:=sortedAll s.heap vs ((arrOf eG).map (·.2)) }) :
  wpAny (model prog w) A (call (.builtin "sorted") [.ref l]) Q E s:=by
 refine Calls.call_function_entry kind_sorted plain_sorted entry_sorted (args_sorted1 _) ?_;unfold Builtin.«sorted»;refine aa (m:=checkCount "sorted" 1 1 _) (ai ?_);refine aa (collect_list hl ?_ hz);refine aa (wpAny_newList ?_ hz);have hsz:((s.heap.push (seqObj "list" #[] 0)).update s.heap.objs.size (Obj.mapSeq (·++vs.toArray))).objs.size=s.heap.objs.size+1:=by
  rw[Heap.size_update,size_push']
 have oH:(((s.heap.push (seqObj "list" #[] 0)).update s.heap.objs.size (Obj.mapSeq (·++vs.toArray))).push (seqObj "list" vs.toArray 0)).get? (s.heap.objs.size+1)=some (seqObj "list" vs.toArray 0):=by
  rw[<-hsz];exact av _ rfl
 have keep:∀b o,s.heap.get? b=some o->(((s.heap.push (seqObj "list" #[] 0)).update s.heap.objs.size (Obj.mapSeq (·++vs.toArray))).push (seqObj "list" vs.toArray 0)).get? b=some o:=fun b o q=>by
  have cS:b<s.heap.objs.size:=ax q;rw[Heap.get?_push_ne _ _ _ (by rw[hsz];exact aA (bH cS)),Heap.get?_update_ne _ _ _ _ (aA cS),Heap.get?_push_ne _ _ _ (aA cS)];exact q
 show wpAny _ _ _ _ _ { s with heap:=((s.heap.push (seqObj "list" #[] 0)).update s.heap.objs.size (Obj.mapSeq (·++vs.toArray))).push (seqObj "list" vs.toArray 0) };rw[hsz];refine aa (bA (wpAny_call_entry slot_list_sort ⟨_,oH,rfl⟩ entry_list_sort (iT (rk:=rk) oH hz hr (fun h' k=>R h' fun b o e=>k b o (aA (bH (ax e))) (keep b o e)) fun eG a1 a2=>⟨_,rfl,?_⟩) (args_list_sort _)));exact ai ⟨_,rfl,h eG a1 a2⟩
end
end Ts
namespace HT
theorem k9:∀a b:List Int,lexLt a b=b8 b a
 | [],[]=>rfl
 | [],_::_=>rfl
 | _::_,[]=>rfl
 | x::xs,y::ys=>by
  unfold lexLt b8;rw[k9 xs ys];by_cases e:x=y
  ·subst e;simp
  ·have e2:¬y=x:=fun z=>e z.symm
   simp[e,e2]
end HT
namespace Ts
open PySem PySem.W PyProof.Rows
section
variable {prog:Program} {w:World} {A:Around} {E:Value->Shared->Prop} {s:Shared} {fin:Bool} {Q:Bool->Shared->Prop}
theorem Ib:∀{vs ws:List Value} {ns ms:List Int},IntsAre vs ns->IntsAre ws ms->∀i:Nat,fin=decide (ns.length<ms.length)->Q (HT.lexLt ns ms) s->KatLex prog w A true fin Q (vs.zip ws) i s
 | _,_,_,_,.nil,.nil,i,hf,q=>by subst hf;exact kat_nil q
 | _,_,_,_,.nil,.cons b u hw,i,hf,q=>by subst hf;exact kat_nil (by simpa[HT.lexLt] using q)
 | _,_,_,_,.cons a t hv,.nil,i,hf,q=>by subst hf;exact kat_nil (by simpa[HT.lexLt] using q)
 | _,_,_,_,.cons a t hv,.cons b u hw,i,hf,q=>by
  rw[List.zip_cons_cons];refine kat_cons (wpAny_eqBool_int ?_);rw[HT.mx] at q;by_cases e:a=b
  ·rw[if_pos e] at q;subst e;simp only[BEq.rfl,decide_true];exact kat_yes (Ib hv hw (i+1) (by rw[hf];simp) q)
  ·rw[if_neg e] at q;simp only[beq_eq_false_iff_ne.mpr e,bz e];refine kat_no ?_;cases i with
   | zero=>exact oneLt_int q
   | succ i=>exact kat_one _ _ (HT.pf A s a t b u prog w _ _ q)
noncomputable def eP(h:Heap)(v:Value):List Int:=match v with
 | .ref a=>match h.get? a with
  | some o=>match o.data with
   | .seq xs _=>numsOf xs.toList
   | _=>[]
  | none=>[]
 | _=>[]
def TupAt(h:Heap)(v:Value):Prop:=∃a o xs n,v=.ref a/\h.get? a=some o/\o.cls=.type "tuple"/\o.data=.seq xs n/\IntsAre xs.toList (eP h v)/\eP h v≠[]
noncomputable def qX(h:Heap)(cR:List (List Int))(x:Keyed):Int:=(cR.countP fun t=>HT.b8 (eP h x.1) t:Nat)
theorem pe{cR:List (List Int)}{a b:List Int}(ha:a∈cR):(cR.countP fun t=>HT.b8 a t)<(cR.countP fun t=>HT.b8 b t)↔HT.b8 b a=true:=by
 constructor
 ·intro h;cases hb:HT.b8 b a with
  | true=>rfl
  | false=>
   have:(cR.countP fun t=>HT.b8 b t)<=(cR.countP fun t=>HT.b8 a t):=by
    refine List.countP_mono_left fun t _ ht=>?_
    cases hc:HT.b8 a t with
    | true=>rfl
    | false=>
     have:=HT.ie b a t hb hc;rw[this] at ht;cases ht
   omega
 ·intro h;have sub:∀t,HT.b8 a t=true->HT.b8 b t=true:=fun t ht=>by
   cases hc:HT.b8 b t with
   | true=>rfl
   | false=>
    have:=HT.ie b t a hc (HT.ig a t ht);rw[this] at h;cases h
  induction cR with
  | nil=>cases ha
  | cons c r ih=>
   rw[List.countP_cons,List.countP_cons];rcases aq.mp ha with rfl | ha
   ·have le:(r.countP fun t=>HT.b8 a t)<=(r.countP fun t=>HT.b8 b t):=List.countP_mono_left fun t _ ht=>sub t ht
    rw[HT.fu,h];simp only[aF,bE,bO];omega
   ·have:=ih ha;cases hc:HT.b8 a c with
    | true=>rw[sub c hc];simp only[bO];omega
    | false=>simp only[aF,bE];split<;>omega
theorem IW{h h':Heap}(k:∀b o,h.get? b=some o->h'.get? b=some o):∀{its:List Value},(∀v∈its,TupAt h v)->∃fs,KatTups h' its fs/\fs.length=its.length/\∀v∈fs,∃n t,v=Value.int n t
 | [],_=>⟨[],.nil,rfl,fun v hv=>by cases hv⟩
 | v::r,hv=>by
  obtain⟨fs,h1,h2,h3⟩:=IW k (its:=r) fun x hx=>hv x (aB _ hx)
  obtain⟨a,o,xs,n,rfl,ho,hc,hd,hi,cE⟩:=hv v bj;generalize eP h (.ref a)=t at hi cE;generalize hx:xs.toList=l at hi;cases hi with
  | nil=>exact absurd rfl cE
  | cons m u hr=>
   have h0:xs[0]?=some (.int m u):=by rw[<-Array.getElem?_toList,hx];rfl
   exact⟨.int m u::fs,KatTups.cons (k _ _ ho) hc hd h0 h1,by simp[h2],fun x hx=>by
    rcases aq.mp hx with rfl | hx
    ·exact⟨_,_,rfl⟩
    ·exact h3 x hx⟩
theorem lA{h h':Heap}{its:List Value}(k:∀b o,h.get? b=some o->h'.get? b=some o)(hv:∀v∈its,TupAt h v):Ask prog w A E its (qX h (its.map (eP h))) { s with heap:=h' }:=by
 refine⟨fun h2=>⟨tuples' (Value.type "int" != Value.type "tuple"),fun Q' q=>?_,⟨fun x y Q ox oy q=>?_⟩⟩⟩
 ·obtain⟨fs,h1,K7,h3⟩:=IW k hv;refine kat_kind (s:={ s with heap:=h' }) (T:=.type "int") h1 (by omega) (fun v hv=>?_) (by decide +kernel) q;obtain⟨n,t,rfl⟩:=h3 v hv;exact Looks.of_pure rfl
 ·have mem:∀z,z∈pairsOf its->TupAt h z.1/\z.1∈its:=fun z hz=>by
   have:z.1∈its:=by
    unfold pairsOf at hz;have yk:z∈its.zip its:=by simpa using hz
    exact(List.of_mem_zip yk).1
   exact⟨hv _ this,this⟩
  obtain⟨⟨a,oa,xs,n,ea,ga,ca,da,ia,_⟩,ma⟩:=mem x ox;obtain⟨⟨b,ob,ys,m,eb,gb,cb,db,ib,_⟩,mb⟩:=mem y oy;have e:decide (qX h (its.map (eP h)) x<qX h (its.map (eP h)) y)=HT.lexLt (eP h x.1) (eP h y.1):=by
   rw[HT.k9,Bool.eq_iff_iff,aQ];unfold qX;rw[Int.ofNat_lt];exact pe (aY ma)
  rw[e] at q;rw[ea,eb];rw[ea,eb] at q;rw[ea] at ia;rw[eb] at ib;have e2:(Value.type "int" != Value.type "tuple")=true:=by decide +kernel
  rw[e2];refine kat_lt (k _ _ ga) da (k _ _ gb) db (Ib ia ib 0 ?_ q);rw[<-ia.length,<-ib.length];simp
end
end Ts
namespace Ts
open PySem PySem.W PyProof.Rows
theorem m3{n:Nat}(h1:2<=n)(vP:n<64):gh n:=by
 intro prog w A E s κ rk it R Q hn q;have mem:∀i,i<n->kas_item it i∈it:=fun i hi=>by
  have e:kas_item it i=it[i]:=by unfold kas_item;simp[Array.getD,hn,hi]
  rw[e];exact Array.getElem_mem _
 have hit:(List.toArray (List.range n)).map (kas_item it)=it:=by rw[<-hn];exact kas_range it
 have hl:(List.range n).map (kas_item it)=it.toList:=by
  have:=congrArg Array.toList hit;simpa using this
 have:=kas_runs (prog:=prog) (w:=w) (A:=A) (E:=E) (κ:=κ) (it:=it) (Q:=fun u st s'=>s'=s/\Q u st) (G:=fun p s'=>s'=s/\Pm n p/\Up (fun i=>rk (kas_item it i)) p n) (s:=s) h1 vP (fun p st s' hz ha hf ⟨e,hp,hu⟩=>⟨e,?_⟩)
  (NS (r:=fun i=>rk (kas_item it i)) (fun i j C hi hj hC=>R.key _ _ C (mem i hi) (mem j hj) hC) (by omega) fun p hp hu=>⟨rfl,hp,hu⟩)
 ·unfold kas_st at this;rw[hit] at this;exact this
 ·refine q st ?_ ?_ hf
  ·rw[ha,Array.toList_map,<-hl];exact hp.map _
  ·rw[ha,Array.toList_map];refine bN.mpr fun i j hi hj pK=>?_
   have rC:i<p.size:=by simpa using hi
   have yS:j<p.size:=by simpa using hj
   have:=hu i j (by omega) (by omega);unfold kp at this;simp only[Array.getD,rC,yS,dif_pos] at this;simpa using this
end Ts
namespace L2
open PySem PySem.Spec PyProof.Rows
theorem xm{α β:Type}{f:α->β}{a b:List β}(h:a.Perm b):∀{L:List α},b=L.map f->∃L':List α,L'.Perm L/\a=L'.map f:=by
 induction h with
 | nil=>intro L e;exact⟨[],by rw[show L=[] from by simpa using e.symm],rfl⟩
 | cons x h ih=>
  intro L e;cases L with
  | nil=>cases e
  | cons y L=>
   rw[au] at e;injection e with e1 e2
   obtain⟨L',h1,h2⟩:=ih e2;exact⟨y::L',h1.cons y,by rw[au,e1,h2]⟩
 | swap x y l=>
  intro L e;match L,e with
  | [],e=>cases e
  | [_],e=>cases e
  | u::v::L,e=>
   simp only[au,List.cons.injEq] at e;exact⟨v::u::L,List.Perm.swap u v L,by simp[e]⟩
 | trans h1 h2 VC VB=>
  intro L e;obtain⟨L2,a1,a2⟩:=VB e;obtain⟨L3,b1,b2⟩:=VC a2;exact⟨L3,b1.trans a1,b2⟩
section
variable {X:Cx} {pos:Pos} {e:Expr} {te:TD}
theorem B7{α:Type}{f:α->V}{g:α->Value}:∀{L:List α},(∀q∈L,RelV (f q) (g q))->Vals (L.map f) (L.map g)
 | [],_=>.nil
 | q::L,h=>.cons (h q bj) (B7 fun x hx=>h x (aB _ hx))
theorem RE:c8 X (.builtin "sorted") (fun xs H Q=>∃(p:Addr) (ps:List (V×List Int)),xs=[.ref p]/\dY X.K H p (ps.map (·.1))/\(∀q∈ps,q.2≠[]/\∃b,q.1=.ref b/\fQ X.K H b (q.2.map V.int))/\(2<=ps.length->Ts.gh ps.length)/\
  ∀qm:List (V×List Int),qm.Perm ps->qm.Pairwise (fun x y=>HT.b8 x.2 y.2=false)->∀l,H l=none->Q (.ref l) (upd H l (.lst (qm.map (·.1))))):=by
 intro pins s σ H xs us Q I r h;obtain⟨p,ps,rfl,hq,hk,hr,q⟩:=h;obtain⟨u,rfl,ru⟩:=j8 r;cases ru;obtain⟨its,rv,pl,hz⟩:=I.list hq;have hl:ps.length=its.length:=by rw[<-rv.length,af]
 obtain⟨LL,e1,e2⟩:∃LL:List ((V×List Int)×Value),ps=LL.map (·.1)/\its=LL.map (·.2):=
  ⟨ps.zip its,(List.map_fst_zip (by omega)).symm,(List.map_snd_zip (by omega)).symm⟩
 have rel:∀z∈LL,RelV z.1.1 z.2:=fun z hz=>by
  obtain⟨i,hi⟩:=List.getElem?_of_mem hz;have h1:(ps.map (·.1))[i]?=some z.1.1:=by rw[e1];simp[hi]
  obtain⟨v',sF,rx⟩:=rv.get h1;have h2:its[i]?=some z.2:=by rw[e2];simp[hi]
  rw[h2] at sF;cases sF;exact rx
 have tup:∀z∈LL,Ts.TupAt s.heap z.2/\Ts.eP s.heap z.2=z.1.2:=fun z hz=>by
  obtain⟨cE,b,eb,sq⟩:=hk z.1 (by rw[e1];exact aY hz);have rz:=rel z hz;obtain⟨i1,v1,p1,_⟩:=I.tuple sq;obtain⟨o1,g1,c1,n1,d1⟩:=p1;obtain⟨⟨zv,zt⟩,zw⟩:=z;simp only at eb rz v1 cE ⊢;subst eb;cases rz;have ia:=sh v1;have e:Ts.eP s.heap (.ref b)=zt:=by
   unfold Ts.eP;simp only[g1,d1];exact ia.numsOf
  exact⟨⟨b,o1,_,n1,rfl,g1,c1,d1,by rw[e];exact ia,by rw[e];exact cE⟩,e⟩
 refine Ts.o8 (rk:=Ts.qX s.heap (its.map (Ts.eP s.heap))) pl.isList (by rw[<-hl,<-af (f:=(·.1))];exact hz) (by rw[<-hl];exact hr) (fun h' k=>Ts.lA k fun v hv=>?_) fun eG hp hs=>?_
 ·rw[e2] at hv;obtain⟨z,hz,rfl⟩:=aH.mp hv;exact(tup z hz).1
 ·have ep:(PyProof.Rows.pairsOf its).toList=LL.map fun z=>((z.2,z.2):Keyed):=by
   unfold PyProof.Rows.pairsOf;rw[e2];simp only[List.zip_toArray];clear e1 e2 rel tup hp hs;induction LL with
   | nil=>rfl
   | cons a r ih=>simp at ih ⊢;exact ih
  obtain⟨L',h1,h2⟩:=xm (hp.trans (List.Perm.of_eq ep)) rfl;have D5:∀z∈L',RelV z.1.1 z.2:=fun z hz=>rel z (h1.subset hz)
  have out:((arrOf eG).map (·.2)).toList=L'.map (·.2):=by
   rw[Array.toList_map,h2,aE];rfl
  obtain⟨en,he⟩:=sortedAll_at s.heap its ((arrOf eG).map (·.2));have hf:H (s.heap.objs.size+1)=none:=I.cN.fresh (Nat.le_succ _)
  have q':=q (L'.map (·.1)) (by rw[e1];exact h1.map _) (by
   rw[bC];unfold Ts.qA at hs;rw[h2,bC] at hs;refine hs.imp_of_mem fun{a b} ha hb iV=>?_
   have ta:=(tup a (h1.subset ha)).2;have tb:=(tup b (h1.subset hb)).2;have mb:Ts.eP s.heap b.2∈its.map (Ts.eP s.heap):=aY (by rw[e2];exact aY (h1.subset hb));unfold Ts.qX at iV;cases hg:HT.b8 a.1.2 b.1.2 with
   | false=>rfl
   | true=>
    rw[<-ta,<-tb] at hg;have:=(Ts.pe mb).mpr hg;simp only at iV;omega) _ hf
  rw[aE] at q';refine⟨.ref (s.heap.objs.size+1),_,I.laid (a:=s.heap.objs.size+1) (o:=.lst (L'.map ((·.1)∘(·.1)))) (t':=s.toks) (fun b o e=>sortedAll_old e) (Nat.le_succ _) ?_,rfl,q'⟩
  refine⟨by rw[af,h1.length_eq];have:LL.length=its.length:=by rw[e2,af]
            rw[this,<-hl,<-af (f:=(·.1))];exact hz,((arrOf eG).map (·.2)).toList,en,?_,?_⟩
  ·rw[out];exact B7 D5
  ·rw[Array.toArray_toList];exact he
def XE:dZ:=fun ds Q=>match ds with
 | [.lst es]=>match jW es with
  | some cR=>(∀t∈cR,t≠[])/\∀eN:List (List Int),eN.Perm cR->eN.Pairwise (fun x y=>HT.b8 x y=false)->Q (.ow (eN.map fun t=>.tup (t.map D.int)))
  | none=>False
 | _=>False
theorem B6{α:Type}{K:PySem.W.Frag}{G:Hp}{f:α->V}{g:α->D}:∀{L:List α},(∀q∈L,Rep K G (f q) (g q))->bV K G (L.map f) (L.map g)
 | [],_=>bV.nil
 | q::L,h=>bV.cons (h q bj) (B6 fun x hx=>h x (aB _ hx))
def vk:dZ:=fun ds Q=>match ds with
 | [.lst es]=>match jW es with
  | some cR=>cR.length<64/\(∀t∈cR,t≠[])/\∀eN:List (List Int),eN.Perm cR->eN.Pairwise (fun x y=>HT.b8 x y=false)->Q (.ow (eN.map fun t=>.tup (t.map D.int)))
  | none=>False
 | _=>False
theorem P2{G H:Hp}{vs:List V}{es:List D}{cR:List (List Int)}{Q:R->Prop}{P:VK}(s:cm G H)(rs:bV X.K G vs [.lst es])(ht:jW es=some cR)(hn:∀t∈cR,t≠[])(hr:2<=cR.length->Ts.gh cR.length)
  (q:∀eN:List (List Int),eN.Perm cR->eN.Pairwise (fun x y=>HT.b8 x y=false)->Q (.ow (eN.map fun t=>.tup (t.map D.int)))) (k:∀v H' r' G',Ext G H G' H'->d0 X.K G' H' H v r'->Q r'->P v H') :
  ∃(p:Addr) (ps:List (V×List Int)),vs=[.ref p]/\dY X.K H p (ps.map (·.1))/\(∀q∈ps,q.2≠[]/\∃b,q.1=.ref b/\fQ X.K H b (q.2.map V.int))/\(2<=ps.length->Ts.gh ps.length)/\
   ∀qm:List (V×List Int),qm.Perm ps->qm.Pairwise (fun x y=>HT.b8 x.2 y.2=false)->∀l,H l=none->P (.ref l) (upd H l (.lst (qm.map (·.1)))):=by
 obtain⟨v,rfl,rv⟩:=kG rs;simp only[Rep] at rv;obtain⟨a,xs,rfl,h1,h2⟩:=rv;obtain⟨h3,h4⟩:=CA ht h2;have e1:(xs.zip cR).map (·.1)=xs:=List.map_fst_zip (by omega);have e2:(xs.zip cR).map (·.2)=cR:=List.map_snd_zip (by omega);have el:(xs.zip cR).length=cR.length:=by rw[List.length_zip];omega
 have hz:∀q∈xs.zip cR,Rep X.K G q.1 (.tup (q.2.map D.int))/\∃b,q.1=.ref b/\fQ X.K G b (q.2.map V.int):=fun q hq=>by
  obtain⟨i,hi⟩:=List.getElem?_of_mem hq;have a1:xs[i]?=some q.1:=by rw[<-e1];simp only[ao,hi];rfl
  have a2:cR[i]?=some q.2:=by rw[<-e2];simp only[ao,hi];rfl
  exact h4 i _ _ a1 a2
 refine⟨a,xs.zip cR,rfl,by rw[e1];exact(s.fb h1).sq,fun z hq=>⟨hn _ (by rw[<-e2];exact aY hq),?_⟩,by rw[el];exact hr,fun qm p1 p2=>?_⟩
 ·obtain⟨_,b,e,sq⟩:=hz z hq;exact⟨b,e,s.gP sq⟩
 ·refine vd s (ds:=(qm.map (·.2)).map fun t=>.tup (t.map D.int)) ?_ (q (qm.map (·.2)) (by rw[<-e2];exact p1.map _) (by rw[bC];exact p2)) k;rw[aE];exact B6 fun q hq=>(hz q (p1.subset hq)).1
theorem JB(_:X.calm=true):mi X (.builtin "sorted") vk:=by
 refine⟨_,RE,fun G H vs ds Q P s rs h k=>?_⟩;unfold vk at h;split at h
 ·split at h
  ·rename_i es cR ht;exact P2 s rs ht h.2.1 (fun h2=>Ts.m3 (by omega) h.1) h.2.2 k
  ·exact h.elim
 ·exact h.elim
end
end L2
namespace L2
open PySem PySem.Spec PyProof.Rows
section
variable {K:PySem.W.Frag} {G H:Hp}
theorem cz.length:∀{qs:List Addr} {dss:List (List (Key×D))},cz K G H qs dss->qs.length=dss.length
 | [],[],_=>rfl
 | q::qs,ds::dss,h=>by
  simp only[cz] at h;simp only[aN,cz.length h.2]
 | [],_::_,h=>by simp only[cz] at h
 | _::_,[],h=>by simp only[cz] at h
theorem cz.snoc{p:Addr}{ds:List (Key×D)}{zs:List (Key×V)}{ep:Nat}:∀{qs:List Addr} {dss:List (List (Key×D))},cz K G H qs dss->H p=some (.dK zs ep)->cf K G zs ds->cz K G H (qs++[p]) (dss++[ds])
 | [],[],_,h1,h2=>by simp only[List.nil_append,cz];exact⟨⟨zs,ep,h1,h2⟩,trivial⟩
 | q::qs,es::dss,h,h1,h2=>by
  simp only[cz] at h;simp only[List.cons_append,cz];exact⟨h.1,cz.snoc h.2 h1 h2⟩
 | [],_::_,h,_,_=>by simp only[cz] at h
 | _::_,[],h,_,_=>by simp only[cz] at h
theorem cz.get:∀{qs:List Addr} {dss:List (List (Key×D))} {j:Nat} {ds:List (Key×D)},cz K G H qs dss->dss[j]?=some ds->∃q ks ep,qs[j]?=some q/\H q=some (.dK ks ep)/\cf K G ks ds
 | [],[],j,ds,_,e=>by simp at e
 | q::qs,es::dss,0,ds,h,e=>by
  simp only[cz] at h;simp only[aW,aD] at e;subst e;obtain⟨⟨ks,ep,h1,h2⟩,_⟩:=h;exact⟨q,ks,ep,rfl,h1,h2⟩
 | q::qs,es::dss,j+1,ds,h,e=>by
  simp only[cz] at h;simp only[aX] at e ⊢;exact cz.get h.2 e
 | [],_::_,_,_,h,_=>by simp only[cz] at h
 | _::_,[],_,_,h,_=>by simp only[cz] at h
theorem cz.set{q:Addr}{ys:List (Key×V)}{ep:Nat}{es:List (Key×D)}(hy:cf K G ys es):∀{qs:List Addr} {dss:List (List (Key×D))} {j:Nat},cz K G H qs dss->qs.Nodup->qs[j]?=some q->cz K G (upd H q (.dK ys ep)) qs (dss.set j es)
 | [],[],j,_,_,e=>by simp at e
 | r::qs,ds::dss,0,h,nd,e=>by
  simp only[cz] at h;simp only[aW,aD] at e;subst e;simp only[List.set_cons_zero,cz];refine⟨⟨ys,ep,fk,hy⟩,h.2.mono (cm.refl _) fun p hp u e=>?_⟩;rw[cX (fun z:p=r=>(aL.mp nd).1 (z▸hp))];exact e
 | r::qs,ds::dss,j+1,h,nd,e=>by
  simp only[cz] at h;simp only[aX] at e;simp only[List.set_cons_succ,cz];refine⟨?_,cz.set hy h.2 (aL.mp nd).2 e⟩;obtain⟨⟨ks,ep,h1,h2⟩,_⟩:=h;refine⟨ks,ep,?_,h2⟩;rw[cX (fun z:r=q=>(aL.mp nd).1 (z▸ay e))];exact h1
 | [],_::_,_,h,_,_=>by simp only[cz] at h
 | _::_,[],_,h,_,_=>by simp only[cz] at h
end
def wC(wi:iW)(m:List (Option Nat))(g:gJ)(tc:gK)(te:TD):TD:=fun ρ Q=>wi ρ fun ds=>∃Iv:Nat->List (List (Key×D))->Prop,Iv 0 []/\
 (∀i d acc,ds[i]?=some d->Iv i acc->g d (c9 m ρ) fun dM=>tc dM fun b=>if b=true then te dM fun r=>match r with
  | .ov (.dc es)=>acc.length<sizeLine/\Iv (i+1) (acc++[es])
  | _=>False
  else Iv (i+1) acc)/\∀acc,Iv ds.length acc->Q (.ov (.ld acc))
section
variable {X:Cx} {elt iter tg:Expr} {ifs:List Expr} {scope:Scope} {pos:Pos} {N':List Str} {m:List (Option Nat)} {wi:iW} {g:gJ} {tc:gK} {te:TD}
theorem P1(cs:cC X N' m scope)(hk:mV m g){ww:TI}{gg:md TG}{oG:md TT}{tee:md TE}
  (q1:∀(ρ:Ev) (σ:St) (G0 H0 G H:Hp) (Q:List D->Prop) (P:It->Hp->Prop),cM X.K G0 H0 ρ σ G H->wi ρ Q->(∀J H' ds G',Ext G H G' H'->oq X.K J G' ds->Q ds->P J H')->ww σ H P)
  (q2:∀s3 H3 ex (ρ:Ev) (σ:St) (G0 H0 G H:Hp) (d:D) (v:V) (Q:Ev->Prop) (P:St->Hp->Prop),cM X.K G0 H0 ρ σ G H->Rep X.K G v d->g d ρ Q->(∀ρ' cF G' H',cM X.K G0 H0 ρ' cF G' H'->Ext G H G' H'->Q ρ'->P cF H')->gg s3 H3 ex v σ H P)
  (q3:∀s3 H3 ex (ρ:Ev) (σ:St) (G0 H0 G H:Hp) (Q:Bool->Prop) (P:Bool->Hp->Prop),cM X.K G0 H0 ρ σ G H->tc ρ Q->(∀b H' G',Ext G H G' H'->Q b->P b H')->oG s3 H3 ex σ H P)
  (q4:∀s3 H3 ex,mf X.K te (tee s3 H3 ex)):mf X.K (wC wi m g tc te) (tq ww m gg oG tee):=by
 refine fun ρ σ G0 H0 G H Q P E h k=>q1 ρ σ G0 H0 G H _ _ E h fun J H1 ds G1 x1 wk hq=>?_
 obtain⟨Iv,i0,turn,fin⟩:=hq;intro D hD s3 ex;have E1:=E.ext x1;have uB:G1 D=none:=x1.s.free hD;have dX:∀{i:Nat} {es:List L2.D},gt (c9 m ρ) i=.ow es->False:=fun{i es} h=>by
  unfold c9 at h;rw[kb] at h;split at h
  ·rename_i o _;unfold lQ at h;split at h
   ·cases h
   ·split at h<;>cases h
  ·cases h
 have ic:∀{i:Nat} {o:OV},gt (c9 m ρ) i=.ov o->False:=fun{i o} h=>by
  unfold c9 at h;rw[kb] at h;split at h
  ·rename_i o _;unfold lQ at h;split at h
   ·cases h
   ·split at h<;>cases h
  ·cases h
 have j7:cM X.K G1 H1 (c9 m ρ) (lg m σ) G1 (upd H1 D (.lst [])):=by
  refine⟨.own x1.s hD,by simp[lg,c9],fun i d h=>?_,fun i es h=>(dX h).elim,fun i j es fs _ h=>(dX h).elim,fun _=>none,fun i es _ h=>(dX h).elim,fun i o h=>(ic h).elim⟩;unfold c9 at h;rw[kb] at h;split at h
  ·rename_i o ho;unfold lQ at h;split at h
   ·cases h
   ·rename_i j;split at h
    ·rename_i d' n4;cases h;obtain⟨v,hv,rv⟩:=E1.fz j d n4;refine⟨v,?_,rv⟩;unfold lg;rw[ao,ho];simp[hv]
    ·cases h
  ·cases h
 refine⟨fun i n cF H'=>n=ds.length-i/\i<=ds.length/\∃acc fp G',cM X.K G1 H1 (c9 m ρ) cF G' H'/\H' D=some (.lst (fp.map V.ref))/\G' D=none/\cz X.K G' H' fp acc/\(D::fp).Nodup/\(∀q∈fp,H1 q=none/\G' q=none)/\Iv i acc,
  ⟨ds.length,by simp,ba _,[],[],G1,j7,fk,uB,by simp only[cz],by simp,fun q hq=>(by cases hq),i0⟩,?_⟩
 rintro i n cF H' ⟨rfl,hi,acc,fp,G',E',hx,pM,rx,nd,fr,iv⟩;by_cases cS:i<ds.length
 ·obtain⟨w1,w2⟩:=wk;obtain⟨go,yl⟩:=w1 i ds[i] G' H' (ag cS) E'.e.g E'.e.s;refine .inr ⟨go,fun iH H2=>∃acc fp G',cM X.K G1 H1 (c9 m ρ) iH G' H2/\H2 D=some (.lst (fp.map V.ref))/\G' D=none/\cz X.K G' H2 fp acc/\(D::fp).Nodup/\(∀q∈fp,H1 q=none/\G' q=none)/\Iv (i+1) acc,fun iH H2 h2=>⟨ds.length-(i+1),by omega,rfl,cS,h2⟩,fun v H2 hy=>?_⟩;obtain⟨G2,x2,rv⟩:=yl v H2 hy;refine q2 _ _ _ (c9 m ρ) cF G1 H1 G2 H2 ds[i] v _ _ (E'.ext x2) rv (hk _ _ _ (turn i ds[i] acc (ag cS) iv)) fun nA jz G3 H3 E3 x3 cQ=>?_
  obtain⟨cQ,yM,yR⟩:=cQ;have weak:∀j,gt (c9 m ρ) j=.un\/gt (c9 m ρ) j=gt nA j:=fun j=>by
   cases hm:m[j]? with
   | none=>left;unfold c9;rw[kb,hm]
   | some o=>
    cases o with
    | none=>left;unfold c9;rw[kb,hm];rfl
    | some c=>right;exact(yR j c hm).symm
  have ql:=x2.trans x3;refine q3 _ _ _ nA jz G1 H1 G3 H3 _ _ E3 cQ fun b H4 G4 x4 l7=>?_
  have fm:=ql.trans x4;have E4:=(E3.ext x4).weak (ρ':=c9 m ρ) (yM.symm) weak;have lZ:H4 D=some (.lst (fp.map V.ref)):=fm.h _ _ hx;have oJ:G4 D=none:=fm.n D pM (by rw[hx];exact nofun);have r4:cz X.K G4 H4 fp acc:=rx.mono fm.g fun q _ zs e=>fm.h _ _ e
  have qw:∀q∈fp,H1 q=none/\G4 q=none:=fun q hq=>⟨(fr q hq).1,fm.n q (fr q hq).2 (rx.here q hq)⟩
  cases b with
  | false=>
   rw[if_neg aG] at l7 ⊢;exact⟨acc,fp,G4,E4,lZ,oJ,r4,nd,qw,l7⟩
  | true=>
   rw[if_pos rfl] at l7 ⊢;refine q4 _ _ _ nA jz G1 H1 G4 H4 _ _ (E3.ext x4) l7 fun v5 H5 r5 G5 x5 tV l6=>?_
   split at l6
   ·rename_i es;obtain⟨p,X5,rfl,_,⟨rfl,ks,ep,c3,c4⟩,cc⟩:=tV;have c1:=(cc p (by simp)).1;have c2:=(cc p (by simp)).2;have E6:=E4.ext x5;have yp:H5 D=some (.lst (fp.map V.ref)):=x5.h _ _ lZ;have sM:G5 D=none:=x5.n D oJ (by rw[lZ];exact nofun);have yC:p≠D:=fun z=>by rw[z,lZ] at c1;cases c1
    have ER:p∉fp:=fun z=>r4.here p z c1
    have Fz:D∉fp:=fun z=>(aL.mp nd).1 z
    have r6:cz X.K G5 (upd H5 D (.lst ((fp++[p]).map V.ref))) (fp++[p]) (acc++[es]):=by
     refine cz.snoc (ep:=ep) (r4.mono x5.g fun q hq ys e=>?_) ?_ c4
     ·rw[cX (fun z:q=D=>Fz (z▸hq))];exact x5.h _ _ e
     ·rw[cX yC];exact c3
    refine⟨fp.map V.ref,yp,by rw[af,r4.length];exact l6.1,acc++[es],fp++[p],G5,?_,by rw[show fp.map V.ref++[V.ref p]=(fp++[p]).map V.ref by simp];exact fk,sM,by rw[show fp.map V.ref++[V.ref p]=(fp++[p]).map V.ref by simp];exact r6,?_,fun q hq=>?_,l6.2⟩
    ·refine⟨⟨E6.e.g,fun b o e=>by rw[cX (jf e hD)];exact E6.e.h b o e,fun b o e=>by rw[cX (jf e sM)];exact E6.e.s b o e,E6.e.n⟩,E6.len,E6.fz,fun i es h=>(dX h).elim,fun i j es fs _ h=>(dX h).elim,fun _=>none,fun i es _ h=>(dX h).elim,fun i o h=>(ic h).elim⟩
    ·rw[aL] at nd ⊢;refine⟨fun z=>?_,?_⟩
     ·rcases aw.mp z with z | z
      ·exact nd.1 z
      ·simp at z;exact yC z.symm
     ·rw[bJ];refine⟨nd.2,by simp,fun a ha b hb=>?_⟩;simp at hb;subst hb;exact fun z=>ER (z▸ha)
    ·rcases aw.mp hq with hq | hq
     ·exact⟨(qw q hq).1,x5.n q (qw q hq).2 (r4.here q hq)⟩
     ·simp at hq;subst hq;exact⟨E4.e.h.free c1,c2⟩
   ·exact l6.elim
 ·have e:i=ds.length:=by omega
  subst e;refine .inl ⟨wk.2 G' H' E'.e.g E'.e.s,k _ H' (.ov (.ld acc)) G' (x1.trans E'.e) ⟨D,fp,rfl,nd,⟨hx,rx⟩,fun q hq=>?_⟩ (fin acc iv)⟩;rcases aq.mp hq with rfl | hq
  ·exact⟨x1.h.free hD,pM⟩
  ·exact⟨x1.h.free (fr q hq).1,(fr q hq).2⟩
theorem P0(i:Nat){x:Str}{pos' ft:Pos}(hc:X.calm=true)(cs:cC X N' m scope)(hk:mV m g)(hi:PId X tg iter wi)(hg:∀s3 H3 ex,qB (fV X N' scope s3 H3 ex) tg g)(ht:∀s3 H3 ex,rK (fV X N' scope s3 H3 ex) ifs tc)
  (he:∀s3 H3 ex,PD (fV X N' scope s3 H3 ex) elt te) (hN:X.N.Nodup:=by assumption) (ni:X.N[i]?=some x:=by rfl) (hx:Loc X.env.scope x:=by first | exact Or.inl rfl | exact Or.inr rfl) (hs:∀x,foldedSetIterable iter X.env x=pure x:=by intro _;rfl)
  (nY:swapsWith (.ListComp elt [⟨tg,iter,ifs,0⟩] scope pos) (some (.Name x pos')) ft.line X.env=pure true:=by rfl)
  (hf:X.fn x=true\/X.env.scope.names.lookup x=some .local:=by first | exact .inl rfl | exact .inr rfl | assumption) :
  PX X (.Assign [.Name x pos'] (.ListComp elt [⟨tg,iter,ifs,0⟩] scope pos) ft) (iI i (wC wi m g tc te)):=by
 obtain⟨ww,p1,q1⟩:=hi;refine⟨_,ve (g:=fun s3 H3 ex=>(hg s3 H3 ex).choose) (tc:=fun s3 H3 ex=>(ht s3 H3 ex).choose) (te:=fun s3 H3 ex=>(he s3 H3 ex).choose) hN ni hx hc cs p1 (fun s3 H3 ex=>(hg s3 H3 ex).choose_spec.1) (fun s3 H3 ex=>(ht s3 H3 ex).choose_spec.1) (fun s3 H3 ex=>(he s3 H3 ex).choose_spec.1) hs nY hf,fun ρ σ G0 H0 G H D E k h gg=>?_⟩;exact P1 cs hk q1 (fun s3 H3 ex=>(hg s3 H3 ex).choose_spec.2) (fun s3 H3 ex=>(ht s3 H3 ex).choose_spec.2) (fun s3 H3 ex=>(he s3 H3 ex).choose_spec.2) ρ σ G0 H0 G H _ _ k h fun v H' r G' x rr hq=>gg.nx _ _ G' H' x.g (k.put x rr) hq
end
section
variable {X:Cx} {pos:Pos} {e i' i2:Expr} {te ti tk:TD}
def wg(i:Nat)(ti tk te:TD):TX:=fun D ρ=>match gt ρ i with
 | .ov (.ld oN)=>te ρ fun r=>ti ρ fun rk=>match rk.val with
  | .int n=>∃j kvs,kf oN.length n=some j/\oN[j]?=some kvs/\tk ρ fun r2=>∃k,kQ r2.val=some k/\kvs.length<sizeLine/\D.nx (ρ.set i (.ov (.ld (oN.set j (kP kvs k r.val)))))
  | _=>False
 | _=>False
theorem NR(hu:X.A.units+64<cLine)(i:Nat){x:Str}{p1 p2 p3:Pos}(hi:PD X i' ti)(hk:PD X i2 tk)(he:PD X e te)(hN:X.N[i]?=some x:=by rfl)(hv:js X.env.scope x:=by first | exact Or.inl rfl | exact Or.inr (Or.inl rfl) | exact Or.inr (Or.inr rfl))(hd:(x==("__debug__":Str))=false:=by decide)
  (fi:(x==("__classdict__":Str))=false:=by decide) (EO:wQ i':=by intro _ _;rfl) (hs:swapsWith e (some (.Subscript (.Subscript (.Name x p1) i' p2) i2 p3)) pos.line X.env=pure false:=by rfl) :
  PX X (.Assign [.Subscript (.Subscript (.Name x p1) i' p2) i2 p3] e pos) (wg i ti tk te):=by
 obtain⟨t,p,q⟩:=he;obtain⟨t2,tY,q2⟩:=hi;obtain⟨t3,Vj,q3⟩:=hk;refine⟨_,HK (wx ja (jL hN hv hd fi) tY EO) Vj p hs,fun ρ σ G0 H0 G H D E k h g=>?_⟩;unfold wg at h;split at h
 ·rename_i oN hg;obtain⟨own,o1,o2⟩:=k.on;obtain⟨a,fp,b1,b2,⟨ha,hr⟩,b4⟩:=o2 i _ hg;refine q ρ σ G0 H0 G H _ _ k h fun v H' r G' x1 rr hq=>?_
  obtain⟨G2,x2,rv,_⟩:=rr.freeze x1;refine⟨_,b1,q2 ρ σ G0 H0 G2 H' _ _ (k.ext x2) hq fun u H3 rk G3 x3 kd cQ=>?_⟩;obtain⟨G4,x4,jD,_⟩:=kd.freeze x3;split at cQ
  ·rename_i kk e1;obtain⟨j,kvs,hj,kM,cQ⟩:=cQ;rw[e1] at jD;simp only[Rep] at jD;obtain⟨qa,ks,ep,c1,c2,c3⟩:=hr.get kM;have mF:di (fp.map V.ref) kk=some (.ref qa):=by
    unfold di;rw[af,hr.length,hj];simp[c1]
   have fm:=x2.trans x4;refine⟨a,fp.map V.ref,kk,_,rfl,jD,dY.of (fm.h _ _ ha),mF,?_⟩;refine q3 ρ σ G0 H0 G4 H3 _ _ (k.ext fm) cQ fun u5 H5 r5 G5 x5 tV l6=>?_
   obtain⟨G6,x6,DZ,_⟩:=tV.freeze x5;obtain⟨key,hk,hlen,l6⟩:=l6;have xJ:=fm.trans x6;refine⟨qa,ks,ep,key,rfl,xJ.h _ _ c2,tE DZ hk,by rw[c3.length];exact hlen,fun j4=>?_⟩;refine g.nx _ _ G6 _ xJ.g ((k.ext xJ).eT hg b1 fun gT nd ow=>?_) l6;obtain⟨oM,l5⟩:=ow;have e3:gT=fp:=by
    have:=(xJ.h _ _ ha).symm.trans oM;injection this with this
    injection this with this
    exact((List.map_inj_right fun a b h=>by cases h;rfl).mp this).symm
   subst e3;have iB:=aL.mp nd;refine⟨gT,nd,⟨?_,l5.set (cf.put (cf.mono xJ.g _ _ c3) (rv.mono (x4.trans x6).g)) iB.2 c1⟩,fun q hq=>.inl hq,fun b hb _=>cX fun z=>hb (by rw[z];exact aB _ (ay c1))⟩;rw[cX (fun z:a=qa=>iB.1 (z▸ay c1))];exact oM
  ·exact cQ.elim
 ·exact h.elim
end
end L2
namespace L2
open PySem PySem.Spec PyProof.Rows
theorem Rm{X:Cx}{tQ:List Stmt}:lC X tQ (fun _ _=>False):=⟨fun _ _ _=>False,fun _ _ _ _ _ _ h=>h.elim,fun _ _ _ _ _ _ _ _ _ h _=>h.elim⟩
end L2
namespace L2
open PySem PySem.Spec PyProof.Rows
theorem C8{P:Program}{w:World}:∀{ks:List Key} {us:List Value},Vals (ks.map kV) us->ItemsAre (gZ P w) ks us
 | [],_,r=>by rw[List.map_nil] at r;cases r;exact .nil
 | k::ks,_,r=>by
  rw[au] at r;cases r with
  | cons h t=>exact .cons (v8 h) (C8 t)
abbrev KT(H:Hp):List (List Key×V)->List (List Key×Addr×Value)->Prop:=Paired fun p q=>p.1=q.1/\H q.2.1=some (.tup (p.1.map kV))/\RelV p.2 q.2.2
theorem KT.val{H:Hp}{kvs:List (List Key×V)}{xs:List (List Key×Addr×Value)}(r:KT H kvs xs)(k:List Key):jR (iu kvs k) ((atKey xs k).map (·.2)):=by
 induction r with
 | nil=>exact True.intro
 | @cons p q ps qs h t ih=>
  obtain⟨h1,_,h2⟩:=h;by_cases e:p.1=k
  ·have e':q.1=k:=h1.symm.trans e;have b:atKey (q::qs) k=some q.2:=by simp[atKey,bh,e']
   rw[Ii e,b];exact h2
  ·have e':¬q.1=k:=fun z=>e (h1.trans z)
   have b:atKey (q::qs) k=atKey qs k:=by simp[atKey,bh,e']
   rw[Ih e,b];exact ih
theorem KT.keeps{H H':Hp}{kvs:List (List Key×V)}{xs:List (List Key×Addr×Value)}(r:KT H kvs xs)(ht:∀b ys,H b=some (.tup ys)->H' b=some (.tup ys)):KT H' kvs xs:=
 Paired.t9 r fun _ _ z=>⟨z.1,ht _ _ z.2.1,z.2.2⟩
section
variable {P:Program} {w:World} {H:Hp} {h:Heap} {a:Addr}
theorem LN{u:HO}(ok:ip P w H h)(e:Rd H a u):cU P w H h a u:=e.ok ok
theorem GD{ks:List Key}(ok:ip P w H h)(e:H a=some (.tup (ks.map kV))):(tupleKind (gZ P w)).is h ks a:=by
 obtain⟨_,its,r,o,h1,h2,n,h3⟩:=(show cU P w H h a (.tup (ks.map kV)) from ok a _ e)
 exact⟨o,its.toArray,n,h1,h2,h3,by simpa using C8 r⟩
end
end L2
namespace PySem
open Sem (wp)
section
variable {prog:Program} {w:World} {K:Type} [DecidableEq K] {knd:HeapKind prog w K} {A:Around} {E:Value->Shared->Prop} {s:Shared}
theorem Uu{d a:Addr}{xs:List (K×Addr×Value)}{k:K}{dflt:Value}{Q:Value->Shared->Prop}(hu:knd.room A)(jP:knd.is s.heap k a)(hm:s.heap.DictOfH knd d xs)
  (there:∀p,atKey xs k=some p->Q p.2 { s with toks:=s.toks+knd.draws k })
  (new:atKey xs k=none->∀h',h'.DictOfH knd d (storedH xs k a dflt)->Heap.SameBut d s.heap h'->Q dflt { s with heap:=h',toks:=s.toks+knd.draws k })
  (hsz:xs.length<=sizeLine):wpAny (model prog w) A (dictSetDefault d (.ref a) dflt) Q E s:=by
 obtain⟨o,es,ep,ho,hc,hd,he,KL,hn⟩:=hm;unfold dictSetDefault;try with_reducible refine bA ?_
 refine aa (knd.pyHash hu jP (aa (wpAny_dictFind_heap (s:={ s with toks:=s.toks+knd.draws k }) hu jP ho hd he KL hn (fun jF=>?_) fun j p hj=>?_)))
 ·have e:=atKey_none_of_get jF;have nw:=new e;rw[storedH_new e] at nw;have EV:k∉xs.map (·.1):=not_mem_keys_of_get jF;have cq:es.size<=sizeLine:=by have:=size_of_entries he;omega
  refine aa (wpAny_rule (aa (wpAny_updateDictKeys (hz:=cq) (s:={ s with toks:=s.toks+knd.draws k }) ho hd (ai (nw _ ⟨_,_,ep+1,bS _ ho (Obj.isFreed_of_dict (Obj.data_mapDictKeys hd _)),
   hc.mapDictKeys _,Obj.data_mapDictKeys hd _,by simp[he,entryOfKey],fun x hx=>?_,?_⟩ (Heap.SameBut.update ..))))))
  ·have keep:∀{k':K} {a':Addr},knd.is s.heap k' a'->knd.is (s.heap.update d (Obj.mapDictKeys fun es=>es.push ⟨knd.hash k,.ref a,dflt⟩)) k' a':=fun h=>knd.keeps h ho hd (Heap.SameBut.update ..)
   rcases aw.mp hx with hx | hx
   ·exact keep (KL x hx)
   ·rw[aR.mp hx];exact keep jP
  ·rw[aJ,bJ];exact⟨hn,by simp,fun x hx y hy z=>EV (by rw[List.map_singleton,aR] at hy;rw[<-show x=k from z.trans hy];exact hx)⟩
 ·refine aa (wpAny_dictEntries (s:={ s with toks:=s.toks+knd.draws k }) ho hd ?_);rw[entry_at he j,hj];exact aa (wpAny_rule (ai (there p (atKey_of_get hn hj))))
theorem US{d a:Addr}(hd:(d==sysModules)=false)(dflt:Value) :
  MeetsIn prog w (Builtin.«dict.setdefault» ⟨[.ref d,.ref a,dflt],[]⟩) (fun A R s=>∃k xs,knd.room A.in1/\knd.is s.heap k a/\s.heap.DictOfH knd d xs/\xs.length<=sizeLine/\
   (∀p,atKey xs k=some p->R (.ok (.ret p.2)) { s with toks:=s.toks+knd.draws k })/\
   (atKey xs k=none->∀h',h'.DictOfH knd d (storedH xs k a dflt)->Heap.SameBut d s.heap h'->R (.ok (.ret dflt)) { s with heap:=h',toks:=s.toks+knd.draws k })):=
 .of_wp fun A R s ⟨k,xs,hu,hk,hm,hz,h1,h2⟩=>by
  unfold Builtin.«dict.setdefault»;refine aa ?_;unfold Builtin.Dict.keyAndDefault;refine aa (wpAny_notOrdered_dict hm.typeIs ?_);show wpAny _ _ (pure (d,Value.ref a,some dflt)) _ _ s;refine ai ?_;show wpAny _ _ (if (d==sysModules)=true then _ else(dictSetDefault d (.ref a) dflt >>= _)) _ _ s;rw[if_neg (by rw[hd];exact aG)];exact aa (Uu hu hk hm (fun p hp=>ai ⟨p.2,rfl,h1 p hp⟩) (fun hn h' Wi l4=>ai ⟨dflt,rfl,h2 hn h' Wi l4⟩) hz)
end
end PySem
namespace PySem
open Sem (wp)
def eB(h:Heap)(d:Addr)(es:Array DictEntry)(ep:Nat):Prop:=∃o,h.get? d=some o/\o.ExactDict/\o.data=.dict es ep
theorem eB.kept{h h':Heap}{d:Addr}{es:Array DictEntry}{ep:Nat}(x:eB h d es ep)(k:∀o,h.get? d=some o->h'.get? d=some o):eB h' d es ep:=let⟨o,ho,r⟩:=x;⟨o,k o ho,r⟩
section
variable {prog:Program} {w:World} {A:Around} {E:Value->Shared->Prop} {s:Shared} {d it:Addr} {es:Array DictEntry} {ep i:Nat}
theorem eB.ty(x:eB s.heap d es ep):s.TypeIs (.ref d) "dict":=let⟨o,ho,hc,_⟩:=x;⟨o,ho,hc.1⟩
theorem PZ{Q:Value->Shared->Prop}(hd:(d==sysModules)=false)(x:eB s.heap d es ep)
  (q:Q (.ref s.heap.objs.size) { s with heap:=s.heap.push { cls:=.type "dict_keyiterator",data:=.fields #[.ref d,.int 0 0,.int es.size 0,.int ep 0] } }):wpAny (model prog w) A (pyIter (.ref d)) Q E s:=by
 obtain⟨od,sQ,_,sS⟩:=id x;refine wpAny_pyIter_slot x.ty F.slot_dict_iter (wpAny_call_entry F.slot_dict_iter x.ty F.entry_dict_iter ?_ (F.args_dict_iter_1 _));unfold Builtin.«dict.__iter__»;refine aa (m:=Builtin.Dict.dictSlotNone _ _) ?_;unfold Builtin.Dict.dictSlotNone;refine aa (wpAny_notOrdered_dict x.ty (show wpAny _ _ (pure (Value.ref d)) _ _ s from ai ?_));show wpAny _ _ (Builtin.Dict.showsAll d >>= _) _ _ s;unfold Builtin.Dict.showsAll;rw[if_neg (by rw[hd];exact aG)];refine aa (ai (aa (wpAny_dictEntries sQ sS (aa (wpAny_dictEpoch sQ sS (aa (bG (ai ⟨_,rfl,"dict_keyiterator",_,⟨_,av _ rfl,rfl⟩,F.slot_dict_keyiterator_next.lookup,?_⟩))))))));simpa[rawInt] using q
theorem PY{Q:Option Value->Shared->Prop}(t:s.heap.IsKeyIter it d i es.size ep)(x:eB s.heap d es ep)(hi:i<es.size)
  (q:∀h',h'.IsKeyIter it d (i+1) es.size ep->Heap.SameBut it s.heap h'->Q (some es[i].key) { s with heap:=h' }):wpAny (model prog w) A (pyNext (.ref it)) Q E s:=by
 obtain⟨oi,vQ,Li,uC⟩:=id t;obtain⟨od,sQ,_,sS⟩:=id x;unfold pyNext;refine aa (wpAny_attempt (wpAny_callSpecial?_slot (name:=Str.ofString "__next__") t.typeIs F.slot_dict_keyiterator_next
  (wpAny_call_entry F.slot_dict_keyiterator_next t.typeIs F.entry_dict_keyiterator_next ?_ (F.args_dict_keyiterator_next_1 _))))
 refine aa (ai (aa (aa ?_)));refine aa (wpAny_typeNameOfWhole_keyiter t.typeIs (ai (aa (wpAny_fieldsOf vQ uC ?_))));simp only[show Builtin.Dict_items.ownsTuple "dict_keyiterator"=false by decide,aF,bE];show wpAny _ _ (if (Value.ref d==Value.none)=true then _ else _) _ _ s;rw[if_neg (show ¬((Value.ref d==Value.none)=true) from aG)];refine aa (ai (aa (wpAny_dictEntries sQ sS ?_)));rw[if_neg (by simp)];refine aa (ai (aa (wpAny_dictEpoch sQ sS ?_)));rw[if_neg (by simp)];refine ai ?_;simp only[show ¬((i:Int)<0) from by omega,bE,Int.toNat_natCast,bB hi];refine aa (aa (wpAny_typeNameOfWhole_keyiter t.typeIs (ai (aa (wpAny_isOneOf_keyiter t.typeIs ?_)))));show wpAny _ _ (setField (.ref it) 1 (rawInt ((i:Int)+1)) >>= _) _ _ s;refine aa (wpAny_setField vQ uC (by simp) ?_);have t':(s.heap.update it (Obj.mapFields (·.setIfInBounds 1 (rawInt ((i:Int)+1))))).IsKeyIter it d (i+1) es.size ep:=
  ⟨_,bS _ vQ (Obj.isFreed_of_fields (Obj.data_mapFields uC _)),(Obj.cls_mapFields ..).trans Li,by rw[Obj.data_mapFields uC];simp[rawInt]⟩
 refine aa (bA (aa (wpAny_isOneOf_keyiter (s:={ s with heap:=s.heap.update it (Obj.mapFields (·.setIfInBounds 1 (rawInt ((i:Int)+1)))) }) t'.typeIs ?_)));show wpAny _ _ (pure es[i].key) _ _ _;exact ai (ai ⟨_,rfl,ai (q _ t' (Heap.SameBut.update ..))⟩)
theorem NQ{Q:Option Value->Shared->Prop}(hh:A.handled=none)(t:s.heap.IsKeyIter it d i es.size ep)(x:eB s.heap d es ep)(hi:es.size<=i)
  (q:∀h',Heap.ExtBut it s.heap h'->Q none { s with heap:=h' }):wpAny (model prog w) A (pyNext (.ref it)) Q E s:=by
 obtain⟨oi,vQ,Li,uC⟩:=id t;obtain⟨od,sQ,_,sS⟩:=id x;unfold pyNext;refine aa (wpAny_attempt (wpAny_callSpecial?_slot (name:=Str.ofString "__next__") t.typeIs F.slot_dict_keyiterator_next
  (wpAny_call_entry F.slot_dict_keyiterator_next t.typeIs F.entry_dict_keyiterator_next ?_ (F.args_dict_keyiterator_next_1 _))))
 refine aa (ai (aa (aa ?_)));refine aa (wpAny_typeNameOfWhole_keyiter t.typeIs (ai (aa (wpAny_fieldsOf vQ uC ?_))));simp only[show Builtin.Dict_items.ownsTuple "dict_keyiterator"=false by decide,aF,bE];show wpAny _ _ (if (Value.ref d==Value.none)=true then _ else _) _ _ s;rw[if_neg (show ¬((Value.ref d==Value.none)=true) from aG)];refine aa (ai (aa (wpAny_dictEntries sQ sS ?_)));rw[if_neg (by simp)];refine aa (ai (aa (wpAny_dictEpoch sQ sS ?_)));rw[if_neg (by simp)];refine ai ?_;simp only[show ¬((i:Int)<0) from by omega,bE,Int.toNat_natCast,Array.getElem?_eq_none hi];refine aa (aa (wpAny_typeNameOfWhole_keyiter t.typeIs (ai ?_)));show wpAny _ _ (setField (.ref it) 0 .none >>= _) _ _ s;refine aa (wpAny_setField vQ uC (by simp) ?_);show wpAny _ _ (newExc (.type "StopIteration") [] >>= _) _ _ _;refine aa ?_;simp only[newExc,newTuple];refine aa (bG (aa (m:=firstArgMember _ _) (wpAny_of_eq (a:=Value.none) (by first | rfl | (simp only[firstArgMember];rfl)) (bG ?_ (by size_fits)))) (by size_fits));simp only[raiseNew];refine aa (wpAny_handled ?_);rw[show A.in1.handled=none from hh];refine aa (ai (wpAny_throw ?_));refine aa (wpAny_isInstance (T:="StopIteration") (b:=true) ⟨_,av _ rfl,rfl⟩ isSubtype_stop ?_);exact ai (q _ (((Heap.SameBut.update ..).extBut.push _).push _))
theorem C7(hh:A.handled=none)(I d:Addr)(cE:d≠I)(es:Array DictEntry)(ep:Nat) :
  Walks prog w A I [I,d] [I] es.size (fun i v=>∃h:i<es.size,v=es[i].key) (fun i h=>h.IsKeyIter I d i es.size ep/\eB h d es ep) where
 sub:=fun b hb=>by simp at hb;simp[hb]
 frame:=fun _ _ _ st hk=>⟨st.1.at fun o e=>hk I (by simp) o e,st.2.kept fun o e=>hk d (by simp) o e⟩
 item:=fun i s Q E hi st hQ=>PY st.1 st.2 hi fun h' t' l4=>hQ _ h' s.toks ⟨hi,rfl⟩ ⟨t',st.2.kept fun o e=>l4.extBut _ _ cE e⟩ fun b o hb e=>l4.extBut b o (fun h=>hb (by simp[h])) e
 done:=fun s Q E st hQ=>NQ hh st.1 st.2 (az _) fun h' WI=>hQ h' s.toks fun b o hb e=>WI b o (fun h=>hb (by simp[h])) e
 self:=fun _ _ _ _ st hQ=>wpAny_pyIter_keyiter st.1 hQ
end
end PySem
namespace L2
open PySem PySem.Spec PyProof.Rows
def IsT(H:Hp)(a:Addr):Prop:=∃kvs bs,Rd H a (.dT kvs bs)
section
variable {P:Program} {w:World} {H:Hp} {h:Heap} {a:Addr}
theorem zV{kvs:List (List Key×V)}{bs:List Addr}(ok:ip P w H h)(e:Rd H a (.dT kvs bs)):kvs.length<=sizeLine/\(a==sysModules)=false/\
  ∃xs,xs.map (fun x=>x.2.1)=bs/\KT H kvs xs/\h.DictOfH (tupleKind (gZ P w)) a xs:=by
 obtain⟨z,y,xs,bq,r,o,es,ep,h1,h2,h3,h4,h5⟩:=(show cU P w H h a (.dT kvs bs) from LN ok e)
 have all:∀{l:List (List Key×V)} {m:List (List Key×Addr×Value)},KT H l m->∀x∈m,(tupleKind (gZ P w)).is h x.1 x.2.1:=fun{l m} q=>by
  induction q with
  | nil=>exact fun x hx=>nomatch hx
  | @cons p q ps qs hq t ih=>
   intro x hx;cases hx with
   | head=>exact GD ok (by rw[<-hq.1];exact hq.2.1)
   | tail _ hx=>exact ih x hx
 exact⟨z,y,xs,bq,r,o,es,ep,h1,h2,h3,h4,all r,h5⟩
end
def LM:TE:=fun _ H Q=>∀p,H p=none->Q (.ref p) (upd H p (.dT [] []))
section
variable {X:Cx} {pos:Pos} {e i':Expr} {te ti:TD}
theorem NP:PE X (.Dict [] [] pos) LM:=fun pins s σ H Q I h=>by
 have ok:cU X.prog X.w (upd H s.heap.objs.size (.dT [] [])) (s.heap.push { cls:=.type "dict",data:=.dict #[] }) s.heap.objs.size (.dT [] []):=
  ⟨ba _,beq_eq_false_iff_ne.mpr (Ne.symm (aA I.big)),[],rfl,.nil,_,#[],0,av _ rfl,⟨rfl,rfl,rfl⟩,rfl,rfl,List.nodup_nil⟩
 exact wpAny_Dict_empty ⟨.ref s.heap.objs.size,_,I.laid (a:=s.heap.objs.size) (o:=.dT [] []) (t':=s.toks) (fun _ _ q=>ae _ q) (az _) ok,rfl,h _ (I.cN.fresh (az _))⟩
theorem MD{pins:List (Addr×Obj)}{σ:St}{H:Hp}{s:Shared}{a:Addr}(I:Inv X pins σ H s)(d:IsT H a) :
  s.TypeIs (.ref a) "dict"/\(∀b,Value.ref a=.ref b->∃ob,s.heap.get? b=some ob/\ob.dict=none)/\(a==sysModules)=false:=by
 obtain⟨kvs,bs,e⟩:=d;obtain⟨_,hd,xs,_,_,dd⟩:=zV I.cN e;refine⟨dd.typeIs,fun b q=>?_,hd⟩;cases q;obtain⟨ob,_,_,h1,h2,_⟩:=dd;exact⟨ob,h1,h2.2.1⟩
def LK(td ty tx:TE):TE:=fun σ H Q=>td σ H fun x H1=>∃a,x=.ref a/\IsT H1 a/\ty σ H1 fun y H2=>tx σ H2 fun z H3=>∃kvs bs k b,H3 a=some (.dT kvs bs)/\y=.ref b/\H3 b=some (.tup (k.map kV))/\kvs.length<sizeLine/\
 (∀v,iu kvs k=some v->Q v H3)/\(iu kvs k=none->Q z (upd H3 a (.dT (kvs++[(k,z)]) (bs++[b]))))
theorem NO{o e f:Expr}{apos de:Pos}{td ty tx:TE}(hu:X.A.units+64<cLine)(ho:PE X o td)(he:PE X e ty)(hf:PE X f tx)(m:M2 X o "setdefault" apos e f de):PE X (.Call (.Attribute o "setdefault" apos) [e,f] [] de) (LK td ty tx):=by
 intro pins s σ H Q I h;refine wpAny_Call_method m.base m.Xd m.line PySem.F.plainAttrs_dict PySem.F.slot_dict_setdefault PySem.F.type_dict_setdefault (cL (ho pins s σ H _ I h) fun u s1 cq=>?_);obtain⟨x,H1,I1,rx,a,ex,d,q1⟩:=cq;subst ex;obtain rfl:u=Value.ref a:=rx;obtain⟨t1,t2,_⟩:=MD I1 d;refine⟨t1,t2,?_⟩;rw[m.trees];refine Calls.callWith_builtin rfl (Calls.evalArgs_plain (Calls.spliced_cons (cL (he pins s1 σ H1 _ I1 q1) fun iv s2 cq=>?_)));obtain⟨y,H2,I2,ry,q2⟩:=cq;refine Calls.spliced_cons (cL (hf pins s2 σ H2 _ I2 q2) fun fv s3 cq=>?_);obtain⟨z,H3,I3,rz,kvs,bs,k,b,hk,ey,hb,hl,q3,q4⟩:=cq;refine Calls.spliced_nil ?_;subst ey;obtain rfl:iv=Value.ref b:=ry;obtain⟨hz,hd,xs,bq,rel,dd⟩:=zV I3.cN (.inl hk);have hlen:kvs.length=xs.length:=Paired.length rel;refine call_meetsIn PySem.F.slot_dict_setdefault dd.typeIs PySem.F.entry_dict_setdefault (PySem.F.args_dict_setdefault_3 _ _ _) (US (knd:=tupleKind (gZ X.prog X.w)) hd fv)
  ⟨k,xs,tupleKind_room_in1 (by show X.A.units+1<cLine;omega),GD I3.cN hb,dd,by rw[<-hlen];exact hz,fun p hp=>?_,fun hn h' Bo hs=>?_⟩
 ·have r:=rel.val k;rw[hp] at r;cases hx:iu kvs k with
  | none=>rw[hx] at r;exact r.elim
  | some x=>
   rw[hx] at r;exact⟨x,H3,I3.tok _,r,q3 x hx⟩
 ·have r:=rel.val k;rw[hn] at r;cases hx:iu kvs k with
  | some=>rw[hx] at r;exact r.elim
  | none=>
   obtain⟨q,es,ep,hq,h2,h3,h4,_,h5⟩:=Bo;rw[storedH_new hn] at h4 h5;have D6:KT H3 (kvs++[(k,z)]) (xs++[(k,b,fv)]):=Paired.snoc rel ⟨rfl,hb,rz⟩;have ok:cU X.prog X.w (upd H3 a (.dT (kvs++[(k,z)]) (bs++[b]))) h' a (.dT (kvs++[(k,z)]) (bs++[b])):=by
    refine⟨by rw[a9];simp;omega,hd,_,by rw[aJ,bq];rfl,D6.keeps fun c ys ec=>?_,q,es,ep,hq,h2,h3,h4,h5⟩;rw[cX (ML ec hk (fun z=>nomatch z))];exact ec
   exact⟨z,_,HM I3 (by rw[hk];exact True.intro) hs ⟨q,hq⟩ ok,rz,q4 hx⟩
def BO:TD:=fun _ Q=>Q (.ov (.dt []))
theorem PV:PD X (.Dict [] [] pos) BO:=by
 refine⟨_,NP,fun ρ σ G0 H0 G H Q P E h k=>fun d hd=>?_⟩;refine k _ _ (.ov (.dt [])) G (.own E.e.s hd) ⟨d,[],rfl,by simp,⟨[],[],fk,trivial,rfl,rfl,by simp only[List.map_nil,cu]⟩,fun q hq=>?_⟩ h;simp only[aR] at hq;subst hq;exact⟨hd,E.e.s.free hd⟩
def BN(ts:jG):TD:=fun ρ Q=>ts ρ fun ds=>ds.length<=sizeLine/\Q (.ov (.tp ds))
theorem Ou{es:List Expr}{ts:jG}{x1}(h:nz X es ts):PD X (.Tuple es x1 pos) (BN ts):=by
 obtain⟨t,p,q⟩:=h;refine⟨_,Ag p,fun ρ σ G0 H0 G H Q P E h k=>q ρ σ G0 H0 G H _ _ E h fun vs H' ds G' x rs hq=>⟨by rw[rs.length];exact hq.1,fun p hp=>?_⟩⟩;have hg:G' p=none:=x.s.free hp;refine k _ _ (.ov (.tp ds)) G' (x.trans (.own x.s hp)) ⟨p,[],rfl,by simp,⟨rfl,vs,fk,rs⟩,fun q hq=>?_⟩ hq.2;simp only[aR] at hq;subst hq;exact⟨x.h.free hp,hg⟩
theorem RD{ks:List (List Key×V)}{k:List Key}{j:Nat}{v:V}(h:ks[j]?=some (k,v))(hf:∀j'<j,∀p,ks[j']?=some p->p.1≠k):iu ks k=some v:=by
 induction ks generalizing j with
 | nil=>simp at h
 | cons a ks ih=>
  unfold iu;rw[bh];cases j with
  | zero=>
   simp only[aW,aD] at h;subst h;simp
  | succ j=>
   have ha:a.1≠k:=hf 0 (Nat.succ_pos _) a rfl;simp only[ha,decide_false];simp only[aX] at h;exact ih h fun j' hj p hp=>hf (j'+1) (Nat.succ_lt_succ hj) p (by simpa using hp)
theorem AU{ks:List (List Key×V)}{k:List Key}:(ks.any fun kv=>decide (kv.1=k))=(iu ks k).isSome:=by
 induction ks with
 | nil=>rfl
 | cons a ks ih=>
  unfold iu;rw[List.any_cons,bh];by_cases h:a.1=k
  ·simp[h]
  ·simp only[h,decide_false,Bool.false_or];exact ih
theorem IV{α β:Type}{ks:List (List Key×α)}{kvs:List (List Key×β)}(h:ks.map (·.1)=kvs.map (·.1))(k:List Key):(ks.any fun kv=>decide (kv.1=k))=kvs.any fun kv=>decide (kv.1=k):=by
 have e1:(ks.any fun kv=>decide (kv.1=k))=(ks.map (·.1)).any fun x=>decide (x=k):=by rw[List.any_map];rfl
 have e2:(kvs.any fun kv=>decide (kv.1=k))=(kvs.map (·.1)).any fun x=>decide (x=k):=by rw[List.any_map];rfl
 rw[e1,e2,h]
theorem eC.snoc{H:Hp}{k:List Key}{v:V}{b:Addr}(hb:H b=some (.tup (k.map kV))):∀{ps:List (List Key×V)} {bs:List Addr},eC H ps bs->eC H (ps++[(k,v)]) (bs++[b])
 | [],[],_=>⟨hb,trivial⟩
 | p::ps,c::bs,h=>⟨h.1,eC.snoc hb h.2⟩
 | [],_::_,h=>h.elim
 | _::_,[],h=>h.elim
theorem Rk{ks:List (List Key×V)}{k:List Key}{v:V}(h:iu ks k=none):iu (ks++[(k,v)]) k=some v:=by
 unfold iu at h ⊢;rw[List.find?_append];rw[Option.map_eq_none_iff] at h;rw[h];simp
noncomputable def qK:List D->Option (List Key)
 | []=>some []
 | d::r=>match kQ d,qK r with
  | some k,some ks=>some (k::ks)
  | _,_=>none
theorem C6{K:PySem.W.Frag}{G:Hp}:∀{ds:List D} {vs:List V} {ks:List Key},bV K G vs ds->qK ds=some ks->vs=ks.map kV
 | [],[],ks,_,h=>by simp only[qK,aD] at h;subst h;rfl
 | d::ds,v::vs,ks,r,h=>by
  simp only[bV] at r;simp only[qK] at h;split at h
  ·rename_i k ue h1 h2;simp only[aD] at h;subst h;rw[tE r.1 h1,C6 r.2 h2];rfl
  ·cases h
 | [],_::_,_,r,_=>by simp only[bV] at r
 | _::_,[],_,r,_=>by simp only[bV] at r
noncomputable def kU(kvs:List (List Key×List D))(k:List Key):List (List Key×List D):=if (kvs.any fun kv=>decide (kv.1=k))=true then kvs else kvs++[(k,[])]
def zF(i j:Nat)(te:TD):TX:=fun D ρ=>match gt ρ i,gt ρ j with
 | .ov (.dt kvs),.ov (.tp es)=>∃k n ds,qK es=some k/\kvs.length<sizeLine/\(kU kvs k)[n]?=some (k,ds)/\(∀j'<n,∀p,(kU kvs k)[j']?=some p->p.1≠k)/\
  te ((ρ.set j (.fz (.tup es))).set i (.ov (.dt (kU kvs k)))) fun r=>ds.length<sizeLine/\D.nx ((ρ.set j (.fz (.tup es))).set i (.ov (.dt ((kU kvs k).set n (k,ds++[r.val])))))
 | _,_=>False
theorem MC(hu:X.A.units+64<cLine)(i j:Nat){x y:Str}{p1 p2 p3 p4 p5 p6 pos':Pos}(he:PD X e te)(hN:X.N[i]?=some x:=by rfl)(hv:js X.env.scope x:=by first | exact Or.inl rfl | exact Or.inr (Or.inl rfl) | exact Or.inr (Or.inr rfl))(hd:(x==("__debug__":Str))=false:=by decide)(fi:(x==("__classdict__":Str))=false:=by decide)
  (W0:X.N[j]?=some y:=by rfl) (yq:js X.env.scope y:=by first | exact Or.inl rfl | exact Or.inr (Or.inl rfl) | exact Or.inr (Or.inr rfl)) (hd2:(y==("__debug__":Str))=false:=by decide) (Fq:(y==("__classdict__":Str))=false:=by decide)
  (gv:starEach [e] X.env=(false,eval e X.env)::starEach [] X.env:=by rfl) (m:M2 X (.Name x p1) "setdefault" p2 (.Name y p6) (.List [] p3) p4:=by exact⟨rfl,rfl,rfl,rfl⟩)
  (hb:∀{ta:TE} {t:TA},PE X (.Call (.Attribute (.Name x p1) "setdefault" p2) [.Name y p6,.List [] p3] [] p4) ta->PA X [e] t->PE X (.Call (.Attribute (.Call (.Attribute (.Name x p1) "setdefault" p2) [.Name y p6,.List [] p3] [] p4) "append" p5) [e] [] pos') (vz X.K "list" tI ta t):=by intro ta t h1 h2;exact wu PySem.F.plainAttrs_list PySem.F.slot_list_append PySem.F.type_list_append vv h1 h2) :
  PX X (.Expr (.Call (.Attribute (.Call (.Attribute (.Name x p1) "setdefault" p2) [.Name y p6,.List [] p3] [] p4) "append" p5) [e] [] pos') pos) (zF i j te):=by
 obtain⟨t,p,q⟩:=he;refine⟨_,tK (hb (NO hu (jL hN hv hd fi) (jL W0 yq hd2 Fq) (GP oB) m) (mX p oB gv)),fun ρ σ G0 H0 G H D E k h g=>?_⟩;unfold zF at h;split at h
 ·rename_i kvs es hg yW;obtain⟨own,o1,o2⟩:=k.on;obtain⟨a,fp,b1,b2,⟨ks,bs,ha,sJ,yP,Fd,hr⟩,b4⟩:=o2 i _ hg;obtain⟨bb,X6,c1,c2,⟨_,vs,hb,Va⟩,c4⟩:=o2 j _ yW;obtain⟨key,n,ds,mB,hlen,hj,ux,i3⟩:=h;obtain⟨L,hL,k2,_,sL⟩:=k.ly j;have s2:cm G (lS G H L):=vq hL;have K9:lS G H L bb=some (.tup vs):=by rw[o4 (sL _ _ yW c1)];exact hb
  generalize lS G H L=G2 at k2 s2 K9;have FL:iC j ρ=ρ.set j (.fz (.tup es)):=by unfold iC;rw[yW];rfl
  rw[FL] at k2;have pK:j≠i:=fun z=>by rw[z,hg] at yW;cases yW
  have cS:i<ρ.length:=tm hg (by simp);have rD:gt (ρ.set j (.fz (.tup es))) i=.ov (.dt kvs):=by rw[oA,if_neg (fun z=>pK z.1)];exact hg
  have yJ:i<(ρ.set j (.fz (.tup es))).length:=by rw[List.length_set];exact cS
  have kN:=C6 Va mB;have vL:ks.length=kvs.length:=by have:=congrArg List.length yP;simpa using this
  generalize XQ:ρ.set j (.fz (.tup es))=ρ' at k2 rD yJ i3;have E2:=k2;refine⟨_,b1,a,rfl,⟨ks,bs,.inl ha⟩,_,c1,?_⟩
  -- wJ tU
  have fin:∀(H5:Hp) (v:V) (Q5:VK),cM X.K G0 H0 (ρ'.set i (.ov (.dt (kU kvs key)))) σ G2 H5->(∀rh zl,H5 a=some (.dT rh zl)->iu rh key=some v)->(∀H',E.nx σ H'->Q5 .non H')->
    AW X.K "list" v H5/\t σ H5 fun w H6=>tI v [w] H6 Q5:=by
   intro H5 v Q5 E5 VR WW;have KR:gt (ρ'.set i (.ov (.dt (kU kvs key)))) i=.ov (.dt (kU kvs key)):=by rw[oA,if_pos ⟨rfl,yJ⟩]
   obtain⟨Vl,_,o5⟩:=E5.on;obtain⟨a',Xb,c1,c2,⟨rh,zl,d1,dk,d2,d3,d4⟩,c4⟩:=o5 i _ KR;rw[b1] at c1;cases c1;obtain⟨qa,xs,f1,f2,f3⟩:=d4.get (j:=n) (ds:=ds) (by rw[ao,hj];rfl);have Wr:rh[n]?=some (key,.ref qa):=by
    have e1:=congrArg (fun l=>l[n]?) d2;have e2:=congrArg (fun l=>l[n]?) d3;simp only[ao,hj,f1,aM] at e1 e2;cases vL:rh[n]? with
    | none=>rw[vL] at e1;cases e1
    | some p=>
     rw[vL] at e1 e2;simp only[aM,aD] at e1 e2;obtain⟨p1,p2⟩:=p;simp only at e1 e2;rw[e1,e2]
   have hv:v=.ref qa:=by
    have e1:=RD Wr fun j' Wv p hp z=>by
     have e1:=congrArg (fun l=>l[j']?) d2;simp only[ao,hp,aM] at e1;cases ht:(kU kvs key)[j']? with
     | none=>rw[ht] at e1;cases e1
     | some p'=>
      rw[ht] at e1;simp only[aM,aD] at e1;exact ux j' Wv p' ht (by rw[<-e1];exact z)
    rw[VR rh zl d1] at e1;injection e1
   subst hv;refine⟨.inl ⟨rfl,xs,dY.of f2⟩,q _ σ G0 H0 G2 H5 _ _ E5 i3 fun w H7 r G7 x7 Ve Ks=>?_⟩;obtain⟨G8,x8,Vd,_⟩:=Ve.freeze x7;refine⟨qa,xs,w,rfl,rfl,x8.h _ _ f2,by rw[f3.length];exact Ks.1,WW _ (g.nx _ _ G8 _ (s2.trans x8.g) ?_ Ks.2)⟩;have E9:=(E5.ext x8).eT (o':=.dt ((kU kvs key).set n (key,ds++[r.val]))) (H':=upd H7 qa (.lst (xs++[w]))) KR b1 fun gT nd ow=>?_
   ·rw[List.set_set] at E9;exact E9
   ·obtain⟨ue,zo,e1,ek,e2,e3,e4⟩:=ow;have FK:ue=rh:=by
     have:=(x8.h _ _ d1).symm.trans e1;injection this with this
     injection this with this
     exact this.symm
    subst FK;have Xk:gT=Xb:=(List.map_inj_right fun a b h=>by cases h;rfl).mp (e3.symm.trans d3);subst Xk;have iB:=aL.mp nd;have pF:qa∈gT:=ay f1;refine⟨gT,nd,⟨ue,zo,?_,ek,?_,e3,?_⟩,fun q hq=>.inl hq,fun b hb _=>cX fun z=>hb (by rw[z];exact aB _ pF)⟩
    ·rw[cX (fun z:a=qa=>iB.1 (z▸pF))];exact e1
    ·rw[e2,List.map_set];apply List.ext_getElem?;intro m;rw[bQ];split
     ·rename_i hn;subst hn;rw[ao,hj];simp only[aM,af];rw[if_pos (aj.mp hj).1]
     ·rfl
    ·rw[List.map_set];exact e4.set ((f3.mono x8.g).append (bV.cons Vd bV.nil)) iB.2 f1
  refine⟨ba _,fun l hl=>?_⟩;have yL:a≠l:=fun z=>by rw[<-z,ha] at hl;cases hl
  have Wl:bb≠l:=fun z=>by rw[<-z,hb] at hl;cases hl
  refine⟨ks,bs,key,bb,by rw[cX yL];exact ha,rfl,by rw[cX Wl,<-kN];exact hb,by rw[vL];exact hlen,fun v hv=>?_,fun hn=>?_⟩
  ·have ht:kU kvs key=kvs:=by
    unfold kU;rw[if_pos];rw[<-IV yP,AU,hv];rfl
   have E3:=E2.ext (.own E2.e.s hl (o:=.lst []));have E4:cM X.K G0 H0 (ρ'.set i (.ov (.dt (kU kvs key)))) σ G2 (upd H l (.lst [])):=by
    rw[ht];exact E3.eT rD b1 fun gT nd ow=>⟨gT,nd,ow,fun q hq=>.inl hq,fun _ _ _=>rfl⟩
   refine fin _ v (fun _ H'=>E.nx σ H') E4 (fun rh zl h5=>?_) fun H' h'=>h'
   rw[cX yL,ha] at h5;cases h5;exact hv
  ·have lx:(kvs.any fun kv=>decide (kv.1=key))=false:=by rw[<-IV yP,AU,hn];rfl
   have KZ:(ks.any fun kv=>decide (kv.1=key))=false:=by rw[AU,hn];rfl
   have ht:kU kvs key=kvs++[(key,[])]:=by
    unfold kU;rw[lx];rfl
   have E4:cM X.K G0 H0 (ρ'.set i (.ov (.dt (kU kvs key)))) σ G2 (upd (upd H l (.lst [])) a (.dT (ks++[(key,.ref l)]) (bs++[bb]))):=by
    rw[ht];refine E2.eT rD b1 fun gT nd ow=>?_
    obtain⟨ue,zo,e1,ek,e2,e3,e4⟩:=ow;have FK:ue=ks/\zo=bs:=by
     have:=ha.symm.trans e1;injection this with this
     injection this with xQ xP
     exact⟨xQ.symm,xP.symm⟩
    obtain⟨rfl,rfl⟩:=FK;have KG:l∉a::gT:=fun z=>by
     rcases aq.mp z with z | z
     ·exact yL z.symm
     ·exact e4.here l z hl
    have WS:a∉gT:=(aL.mp nd).1;refine⟨gT++[l],?_,⟨_,_,fk,?_,by simp[e2],by simp[e3],?_⟩,fun q hq=>?_,fun b hb hn=>?_⟩
    ·rw[aL] at nd ⊢;refine⟨fun z=>?_,?_⟩
     ·rcases aw.mp z with z | z
      ·exact nd.1 z
      ·simp at z;exact yL z
     ·rw[bJ];refine⟨nd.2,by simp,fun x hx y hy=>?_⟩;simp at hy;subst hy;exact fun z=>KG (aB _ (z▸hx))
    ·exact eC.snoc (by rw[<-kN];exact K9) ek
    ·rw[aJ];refine cu.snoc (zs:=[]) (e4.mono (cm.refl _) fun q hq xs e=>?_) ?_ bV.nil
     ·rw[cX (fun z:q=a=>WS (z▸hq)),cX (fun z:q=l=>KG (aB _ (z▸hq)))];exact e
     ·rw[cX yL.symm];exact fk
    ·rcases aq.mp hq with rfl | hq
     ·exact .inl (by simp)
     ·rcases aw.mp hq with hq | hq
      ·exact .inl (aB _ hq)
      ·simp at hq;subst hq;exact .inr hl
    ·rw[cX (fun z:b=a=>hb (by rw[z];simp)),cX (fun z:b=l=>hn (by rw[z];exact hl))]
   refine fin _ _ (fun _ H'=>E.nx σ H') E4 (fun rh zl h5=>?_) fun H' h'=>h'
   rw[fk] at h5;cases h5;have:=AU (ks:=ks) (k:=key);exact Rk hn
 ·exact h.elim
end
end L2
namespace L2
open PySem PySem.Spec PyProof.Rows
section
variable {prog:Program} {w:World} {A:Around} {E:Value->Shared->Prop} {s:Shared}
theorem RC{R:Result->Shared->Prop}{a:Addr}{es:Array DictEntry}{ep:Nat}(T:eB s.heap a es ep)(ha:(a==sysModules)=false)(hz:es.size<=sizeLine)(hh:A.handled=none)(S:Addr)(zb:S≠a)(res:Value)(c0:Nat)(hS:s.heap.get? S=some { cls:=.type "list",data:=.seq #[] c0 })
  (hR:∀h' tk (acc:Array Value) c',(∀b o,b≠S->s.heap.get? b=some o->h'.get? b=some o)->h'.get? S=some { cls:=.type "list",dict:=none,data:=.seq acc c',slots:=#[] }->acc.toList=es.toList.map (·.key)->R (.ok (.ret res)) { s with heap:=h',toks:=tk }) :
  wpAny (model prog w) A.in1 (Builtin.List.listExtendWith (.ref S) (.ref a) res) (fun fin s'=>match fin with | .done f=>R (.ok f) s' | .again c'=>c'.quiet=true/\codeAny (model prog w) A c' R s') (fun e s'=>R (.error e) s') s:=by
 have za:S<s.heap.objs.size:=ax hS;have y9:a<s.heap.objs.size:=by obtain⟨o,e,_⟩:=T;exact ax e
 unfold Builtin.List.listExtendWith;refine aa (wpAny_typeOf (T:="dict") T.ty ?_);have h1:Builtin.List.listSameRef (.ref S) (.ref a)=false:=by simp[Builtin.List.listSameRef,zb]
 have h2:(Value.type "dict"==Value.type "list")=false:=by decide
 have h3:(Value.type "dict"==Value.type "tuple")=false:=by decide
 simp only[h1,h2,h3,Bool.or_false,aF,bE];refine aa (PZ ha T ?_);generalize hI:s.heap.objs.size=I at za y9;generalize KO:s.heap.push { cls:=.type "dict_keyiterator",data:=.fields #[.ref a,.int 0 0,.int es.size 0,.int ep 0] }=h0;have old:∀b o,s.heap.get? b=some o->h0.get? b=some o:=fun b o e=>by rw[<-KO];exact ae _ e
 have VA:h0.IsKeyIter I a 0 es.size ep:=by rw[<-KO,<-hI];exact⟨_,av _ rfl,rfl,rfl⟩
 have st:h0.IsKeyIter I a 0 es.size ep/\eB h0 a es ep:=⟨VA,T.kept fun o e=>old _ _ e⟩
 have W:=C7 (prog:=prog) (w:=w) (A:=A.in1.in1) hh I a (aA y9) es ep;have j3:S∉[I,a]:=fun z=>by
  simp only[aq,br,or_false] at z;rcases z with z | z
  ·exact aA za z
  ·exact zb z
 have go:∀(h:Heap) (c1 tk:Nat),(h.IsKeyIter I a 0 es.size ep/\eB h a es ep)->(∀b o,b≠S->s.heap.get? b=some o->h.get? b=some o)->h.get? S=some { cls:=.type "list",data:=.seq #[] c1 }->
   codeAny (model prog w) A (.builtin "list.extend.loop" ⟨[.ref S,.ref I,res],[]⟩) R { s with heap:=h,toks:=tk }:=by
  intro h c1 tk gv hk uz;refine codeAny_extend_loopS (C7 (A:=A.in1) hh I a (aA y9) es ep).toS hz S j3 res es.size 0 _ #[] c1 rfl (ba _) gv uz (ItemsOf.nil _) fun s' jQ c' hm ki gc=>?_
  rw[Moved.eq_with hm];refine hR s'.heap s'.toks jQ c' (fun b o hb e=>hm.heap b o (fun jO=>?_) (hk b o hb e)) ki ?_
  ·rcases aq.mp jO with e' | jO
   ·exact hb e'
   ·have:=ax e;rw[hI] at this;exact aA this (aR.mp jO)
  ·apply List.ext_getElem?;intro j;rw[ao,Array.getElem?_toList,Array.getElem?_toList];by_cases hj:j<jQ.size
   ·obtain⟨h5,e5⟩:=gc.2 j jQ[j] (by simp[hj]);rw[bB hj,bB h5,e5];rfl
   ·have:=gc.1;rw[Array.getElem?_eq_none (by omega),Array.getElem?_eq_none (by omega)];rfl
 have uA:=old _ _ hS;refine aa (bA (PySem.W.kdl_hint_dict (s:={ s with heap:=h0 }) (eB.ty (s:={ s with heap:=h0 }) st.2) ?_));refine wpAny_ite_split (fun _=>?_) (fun _=>ai ⟨bT PySem.F.plain_extend_loop _,go _ c0 _ st (fun b o _ e=>old b o e) uA⟩);refine aa (wpAny_rule (aa ?_));show wpAny _ _ (updateSeq S (·.push .none) >>= fun _=>updateSeq S (·.pop)) _ _ _;refine aa (wpAny_updateSeq uA rfl ?_);have zc:=bS (Obj.mapSeq (·.push Value.none)) uA rfl;refine wpAny_updateSeq (hz:=by seq_fits) zc rfl ?_;have Fx:=bS (Obj.mapSeq (·.pop)) zc rfl;refine ai ⟨bT PySem.F.plain_extend_loop _,go _ _ _ ?_ (fun b o hb e=>?_) Fx⟩
 ·refine(C7 (prog:=prog) (w:=w) (A:=A.in1) hh I a (aA y9) es ep).frame 0 _ _ st fun b hb o e=>?_
  have pP:b≠S:=fun h=>j3 (h▸hb)
  exact(aU _ _ (Ne.symm pP)).trans ((aU _ _ (Ne.symm pP)).trans e)
 ·exact(aU _ _ (Ne.symm hb)).trans ((aU _ _ (Ne.symm hb)).trans (old _ _ e))
theorem SG{R:List Value->Shared->Prop}{a:Addr}{es:Array DictEntry}{ep:Nat}(T:eB s.heap a es ep)(ha:(a==sysModules)=false)(hz:es.size<=sizeLine)(hh:A.handled=none)
  (h:∀(h':Heap) (tk:Nat),s.heap.objs.size<h'.objs.size->(∀b o,s.heap.get? b=some o->h'.get? b=some o)->R (es.toList.map (·.key)) { s with heap:=h',toks:=tk }):wpAny (model prog w) A (collect (.ref a)) R E s:=by
 have cS:a<s.heap.objs.size:=by obtain⟨o,e,_⟩:=T;exact ax e
 unfold collect;refine aa (wpAny_runValue (bM entry_proto_collect' ?_));rw[bg PySem.F.plain_proto_collect _];show wpAny _ A.in1 (newList [] >>= fun l=>again (.builtin "list.__iadd__" ⟨[l,.ref a],[]⟩)) _ _ s;refine aa (bG (ai ⟨bT PySem.F.plain_list_iadd _,bM entry_list_iadd' ?_⟩));rw[bg PySem.F.plain_list_iadd _];have uz:(s.heap.push { cls:=.type "list",data:=.seq ([]:List Value).toArray }).get? s.heap.objs.size=some { cls:=.type "list",data:=.seq #[] }:=av _ rfl;show wpAny _ A.in1 (Builtin.List.listExtendWith (.ref s.heap.objs.size) (.ref a) (.ref s.heap.objs.size)) _ _ _;have key:=RC (prog:=prog) (w:=w) (A:=A) (s:={ s with heap:=s.heap.push { cls:=.type "list",data:=.seq ([]:List Value).toArray } })
  (R:=fun(q:Result) (s':Shared)=>∃(h':Heap) (tk:Nat) (acc:Array Value) (c':Nat),q=.ok (.ret (.ref s.heap.objs.size))/\s'={ s with heap:=h',toks:=tk }/\
   (∀b o,s.heap.get? b=some o->h'.get? b=some o)/\h'.get? s.heap.objs.size=some { cls:=.type "list",dict:=none,data:=.seq acc c',slots:=#[] }/\acc.toList=es.toList.map (·.key))
  (T.kept fun o e=>ae _ e) ha hz hh s.heap.objs.size (Nat.ne_of_gt cS) (.ref s.heap.objs.size) 0 uz
  (fun h' tk acc c' hk ki gc=>⟨h',tk,acc,c',rfl,rfl,fun b o e=>hk b o (aA (ax e)) (ae _ e),ki,gc⟩)
 refine wpAny_mono key (fun fin s' x=>?_) fun e s' x=>?_
 ·cases fin with
  | done f=>
   obtain⟨h',tk,acc,c',e,rfl,hk,ki,gc⟩:=x;cases e;show wpAny _ A (load s.heap.objs.size >>= _) _ _ _;refine aa (wpAny_load ki (ai ?_));show R acc.toList _;rw[gc];exact h h' tk (ax ki) hk
  | again c1=>
   refine⟨x.1,codeAny_mono x.2 fun q s2 y=>?_⟩;obtain⟨h',tk,acc,c',rfl,rfl,hk,ki,gc⟩:=y;show wpAny _ A (load s.heap.objs.size >>= _) _ _ _;refine aa (wpAny_load ki (ai ?_));show R acc.toList _;rw[gc];exact h h' tk (ax ki) hk
 ·obtain⟨_,_,_,_,e',_⟩:=x;cases e'
theorem RB{a:Addr}{es:Array DictEntry}{ep:Nat}{Q:Value->Shared->Prop}{rk:Keyed->Int}(T:eB s.heap a es ep)(ha:(a==sysModules)=false)(hz:es.size<=sizeLine)(hh:A.handled=none)(hr:2<=es.size->Ts.gh es.size)
  (R:∀h' tk,(∀b o,s.heap.get? b=some o->h'.get? b=some o)->Ts.Ask prog w A.in1.in1 E (es.toList.map (·.key)) rk { s with heap:=h',toks:=tk })
  (h:∀(p:Addr) (h':Heap) (tk:Nat) (arr:Array Keyed) (e:Nat),s.heap.objs.size<=p->(∀b o,s.heap.get? b=some o->h'.get? b=some o)->arr.toList.Perm (PyProof.Rows.pairsOf (es.toList.map (·.key))).toList->Ts.qA rk arr.toList->h'.get? p=some (seqObj "list" (arr.map (·.2)) e)->Q (.ref p) { s with heap:=h',toks:=tk }) :
  wpAny (model prog w) A (call (.builtin "sorted") [.ref a]) Q E s:=by
 refine Calls.call_function_entry kind_sorted plain_sorted entry_sorted (args_sorted1 _) ?_;unfold Builtin.«sorted»;refine aa (m:=checkCount "sorted" 1 1 _) (ai (aa (SG (A:=A.in1) T ha hz hh fun h' tk cS hk=>?_)));have ui:(es.toList.map (·.key)).length=es.size:=by simp
 generalize es.toList.map (·.key)=vs at R h ui;refine aa (wpAny_newList ?_ (by rw[ui];exact hz));have oH:(h'.push (seqObj "list" vs.toArray 0)).get? h'.objs.size=some (seqObj "list" vs.toArray 0):=av _ rfl;have old:∀b o,s.heap.get? b=some o->b≠h'.objs.size/\(h'.push (seqObj "list" vs.toArray 0)).get? b=some o:=fun b o e=>⟨aA (ax (hk b o e)),ae _ (hk b o e)⟩
 refine aa (bA (wpAny_call_entry slot_list_sort ⟨_,oH,rfl⟩ entry_list_sort (Ts.iT (s:={ s with heap:=h'.push (seqObj "list" vs.toArray 0),toks:=tk }) (rk:=rk) oH (by rw[ui];exact hz) (by rw[ui];exact hr) (fun h2 k2=>R h2 tk fun b o e=>k2 b o (old b o e).1 (old b o e).2) fun eG a1 a2=>⟨_,rfl,?_⟩) (args_list_sort _)));obtain⟨en,yY⟩:=sortedHeap_at (out:=(arrOf eG).map (·.2)) oH;refine ai ⟨_,rfl,h _ _ tk (arrOf eG) en (Nat.le_of_lt cS) (fun b o e=>?_) a1 a2 yY⟩;have hb:b<h'.objs.size:=ax (hk b o e);rw[sortedHeap_old (aA hb) (by rw[size_push'];exact bH hb)];exact(old b o e).2
end
theorem Rj{h:Heap}{LL:List ((V×List Int)×Value)}{arr:List Keyed}(tup:∀z∈LL,Ts.eP h z.2=z.1.2)(hp:arr.Perm (PyProof.Rows.pairsOf (LL.map (·.2))).toList)(hs:Ts.qA (Ts.qX h ((LL.map (·.2)).map (Ts.eP h))) arr) :
  ∃L':List ((V×List Int)×Value),L'.Perm LL/\arr.map (·.2)=L'.map (·.2)/\(L'.map (·.1)).Pairwise (fun x y=>HT.b8 x.2 y.2=false):=by
 have ep:(PyProof.Rows.pairsOf (LL.map (·.2))).toList=LL.map fun z=>((z.2,z.2):Keyed):=by
  unfold PyProof.Rows.pairsOf;simp only[List.zip_toArray];clear tup hp hs;induction LL with
  | nil=>rfl
  | cons a r ih=>simp at ih ⊢;exact ih
 obtain⟨L',h1,h2⟩:=xm (hp.trans (List.Perm.of_eq ep)) rfl;refine⟨L',h1,by rw[h2,aE];rfl,?_⟩;rw[bC];unfold Ts.qA at hs;rw[h2,bC] at hs;refine hs.imp_of_mem fun{a b} ha hb iV=>?_
 have ta:=tup a (h1.subset ha);have tb:=tup b (h1.subset hb);have mb:Ts.eP h b.2∈(LL.map (·.2)).map (Ts.eP h):=aY (aY (h1.subset hb));unfold Ts.qX at iV;cases hg:HT.b8 a.1.2 b.1.2 with
 | false=>rfl
 | true=>
  rw[<-ta,<-tb] at hg;have:=(Ts.pe mb).mpr hg;simp only at iV;omega
section
variable {X:Cx} {pos:Pos} {e i':Expr} {te ti:TD}
theorem Ia{α β:Type}{F:α->β->Prop}:∀{pB:List α} {pA:List β},Paired F pB pA->∀{i:Nat} {a:α} {b:β},pB[i]?=some a->pA[i]?=some b->F a b
 | _,_,.nil,i,a,b,e,_=>by simp at e
 | _,_,.cons r t,0,a,b,e1,e2=>by
  simp only[aW,aD] at e1 e2;subst e1 e2;exact r
 | _,_,.cons r t,i+1,a,b,e1,e2=>by
  simp only[aX] at e1 e2;exact Ia t e1 e2
theorem Hg(t:List Int):(t.map (fun i=>(Sum.inl i:Key))).map kV=t.map V.int:=by rw[aE];rfl
theorem SF(hc:X.calm=true):c8 X (.builtin "sorted") (fun xs H Q=>∃(p:Addr) (kvs:List (List Key×V)) (bs:List Addr) (cR:List (List Int)),xs=[.ref p]/\Rd H p (.dT kvs bs)/\kvs.map (·.1)=cR.map (fun t=>t.map Sum.inl)/\(∀t∈cR,t≠[])/\
  (2<=cR.length->Ts.gh cR.length)/\∀L':List (Addr×List Int),L'.Perm (bs.zip cR)->L'.Pairwise (fun x y=>HT.b8 x.2 y.2=false)->∀l,H l=none->Q (.ref l) (upd H l (.lst (L'.map fun q=>V.ref q.1)))):=by
 intro pins s σ H xs us Q I r h;obtain⟨p,kvs,bs,cR,rfl,hq,vK,cE,hr,q⟩:=h;obtain⟨u,rfl,ru⟩:=j8 r;cases ru;obtain⟨hz,hd,ws,bq,rel,o,es,ep,h1,h2,h3,h4,h5,h6⟩:=zV I.cN hq;have l1:kvs.length=ws.length:=Paired.length rel;have l2:kvs.length=cR.length:=by have:=congrArg List.length vK;simpa using this
 have l3:bs.length=ws.length:=by rw[<-bq,af]
 have Xf:es.size=cR.length:=by rw[<-aT,h4,af];omega
 have zh:es.toList.map (·.key)=bs.map Value.ref:=by rw[h4,<-bq,aE,aE];rfl
 have T:eB s.heap p es ep:=⟨o,h1,h2,h3⟩
 -- each Kf tuple
 have at_:∀(b:Addr) (t:List Int),(b,t)∈bs.zip cR->H b=some (.tup (t.map V.int)):=fun b t hm=>by
  obtain⟨i,hi⟩:=List.getElem?_of_mem hm;rw[List.getElem?_zip_eq_some] at hi;obtain⟨hb,ht⟩:=hi;have Ww:i<ws.length:=by rw[<-l3];exact(aj.mp hb).1
  have hw:ws[i]?=some ws[i]:=ag Ww;have Fd:kvs[i]?=some (kvs[i]'(by omega)):=ag (by omega);have pr:(kvs[i]'(by omega)).1=ws[i].1/\H ws[i].2.1=some (.tup ((kvs[i]'(by omega)).1.map kV))/\RelV (kvs[i]'(by omega)).2 ws[i].2.2:=Ia rel Fd hw;have eb:ws[i].2.1=b:=by
   have:=congrArg (fun l=>l[i]?) bq;simp only[ao,hw,hb,aM,aD] at this;exact this
  have et:(kvs[i]'(by omega)).1=t.map Sum.inl:=by
   have:=congrArg (fun l=>l[i]?) vK;simp only[ao,Fd,ht,aM,aD] at this;exact this
  rw[<-eb,pr.2.1,et,Hg]
 obtain⟨LL,Fy⟩:∃LL:List ((V×List Int)×Value),LL=(bs.zip cR).map fun q=>((V.ref q.1,q.2),Value.ref q.1):=⟨_,rfl⟩
 have e2:bs.map Value.ref=LL.map (·.2):=by
  rw[Fy,aE];have:(bs.zip cR).map (·.1)=bs:=List.map_fst_zip (by omega);conv=>lhs;rw[<-this]
  rw[aE];rfl
 have tup:∀z∈LL,Ts.TupAt s.heap z.2/\Ts.eP s.heap z.2=z.1.2:=fun z hz=>by
  rw[Fy] at hz;obtain⟨⟨b,t⟩,hm,rfl⟩:=aH.mp hz;obtain⟨i1,v1,p1,_⟩:=I.tuple (fQ.of (at_ b t hm));obtain⟨o1,g1,c1,n1,d1⟩:=p1;have ia:=sh v1;have e:Ts.eP s.heap (.ref b)=t:=by
   unfold Ts.eP;simp only[g1,d1];exact ia.numsOf
  exact⟨⟨b,o1,_,n1,rfl,g1,c1,d1,by rw[e];exact ia,by rw[e];exact cE t (List.of_mem_zip hm).2⟩,e⟩
 refine RB (rk:=Ts.qX s.heap ((es.toList.map (·.key)).map (Ts.eP s.heap))) T hd (by omega) (I.ok.hd hc) (by rw[Xf];exact hr) (fun h' tk k=>Ts.lA (s:={ s with toks:=tk }) k fun v hv=>?_) fun a h' tk arr en hle hk hp hs yY=>?_
 ·rw[zh,e2] at hv;obtain⟨z,hz,rfl⟩:=aH.mp hv;exact(tup z hz).1
 ·rw[zh,e2] at hp hs;obtain⟨L1,g1,g2,g3⟩:=Rj (fun z hz=>(tup z hz).2) hp hs;obtain⟨L2,f1,rfl⟩:=xm g1 Fy;have out:(arr.map (·.2)).toList=L2.map fun q=>Value.ref q.1:=by rw[Array.toList_map,g2,aE];rfl
  have hf:H a=none:=I.cN.fresh hle;have q':=q L2 f1 (by rw[aE,bC] at g3;exact g3) a hf;refine⟨.ref a,_,I.laid (a:=a) (o:=.lst (L2.map fun q=>V.ref q.1)) (t':=tk) hk hle ?_,rfl,q'⟩;refine⟨by rw[af,f1.length_eq,List.length_zip];omega,(arr.map (·.2)).toList,en,?_,?_⟩
  ·rw[out];exact B7 (f:=fun q:Addr×List Int=>V.ref q.1) fun q _=>rfl
  ·rw[Array.toArray_toList];exact yY
def Cr:dZ:=fun ds Q=>match ds with
 | [.dit kvs]=>∃cR:List (List Int),kvs.map (·.1)=cR.map (fun t=>t.map Sum.inl)/\cR.length<64/\(∀t∈cR,t≠[])/\∀eN:List (List Int),eN.Perm cR->eN.Pairwise (fun x y=>HT.b8 x y=false)->Q (.ow (eN.map fun t=>.tup (t.map D.int)))
 | _=>False
theorem dF.keys{K:PySem.W.Frag}{G:Hp}:∀{ks:List (List Key×V)} {kvs:List (List Key×D)},dF K G ks kvs->ks.map (·.1)=kvs.map (·.1)
 | [],[],_=>rfl
 | a::ks,b::kvs,h=>by
  simp only[dF] at h;rw[au,au,h.1.1,dF.keys h.2]
 | [],_::_,h=>by simp only[dF] at h
 | _::_,[],h=>by simp only[dF] at h
theorem eC.at{H:Hp}:∀{ps:List (List Key×V)} {bs:List Addr} {i:Nat} {b:Addr} {k:List Key},eC H ps bs->bs[i]?=some b->(ps.map (·.1))[i]?=some k->H b=some (.tup (k.map kV))
 | p::ps,c::bs,0,b,k,h,e1,e2=>by
  simp only[aW,aD,au] at e1 e2;subst e1 e2;exact h.1
 | p::ps,c::bs,i+1,b,k,h,e1,e2=>by
  simp only[aX,au] at e1 e2;exact eC.at h.2 e1 e2
 | [],[],_,_,_,_,e1,_=>by simp at e1
 | [],_::_,_,_,_,h,_,_=>h.elim
 | _::_,[],_,_,_,h,_,_=>h.elim
theorem PU(hc:X.calm=true):mi X (.builtin "sorted") Cr:=by
 refine⟨_,SF hc,fun G H vs ds Q P s rs h k=>?_⟩;unfold Cr at h;split at h
 ·rename_i kvs;obtain⟨cR,h1,vP,h2,h3⟩:=h;obtain⟨v,rfl,rv⟩:=kG rs;simp only[Rep] at rv;obtain⟨a,ks,bs,rfl,ha,sJ,rt⟩:=rv;have vK:ks.map (·.1)=cR.map (fun t=>t.map Sum.inl):=by rw[rt.keys];exact h1
  refine⟨a,ks,bs,cR,rfl,.inl (s _ _ ha),vK,h2,fun z=>Ts.m3 (by omega) vP,fun L' p1 p2=>?_⟩;have lb:bs.length=cR.length:=by
   have e1:ks.length=cR.length:=by have:=congrArg List.length vK;simpa using this
   have e2:∀{ps:List (List Key×V)} {bs:List Addr},eC G ps bs->ps.length=bs.length:=fun{ps bs}=>by
    induction ps generalizing bs with
    | nil=>cases bs with
     | nil=>exact fun _=>rfl
     | cons=>exact fun h=>h.elim
    | cons p ps ih=>cases bs with
     | nil=>exact fun h=>h.elim
     | cons b bs=>exact fun h=>by rw[aN,aN,ih h.2]
   rw[<-e2 sJ,e1]
  refine vd s (ds:=(L'.map (·.2)).map fun t=>.tup (t.map D.int)) ?_ (h3 (L'.map (·.2)) ?_ (by rw[bC];exact p2)) k
  ·rw[aE];refine B6 (f:=fun q:Addr×List Int=>V.ref q.1) fun q hq=>?_
   obtain⟨i,hi⟩:=List.getElem?_of_mem (p1.subset hq);rw[List.getElem?_zip_eq_some] at hi;have:=sJ.at hi.1 (k:=q.2.map Sum.inl) (by rw[vK,ao,hi.2];rfl);rw[Hg] at this;simp only[Function.comp_apply,Rep];exact⟨q.1,_,rfl,fQ.of this,Ja q.2⟩
  ·have:=p1.map (·.2);rwa [List.map_snd_zip (by omega)] at this
 ·exact h.elim
def MB(K:PySem.W.Frag)(td ty:TE):TE:=fun σ H Q=>td σ H fun x H1=>ty σ H1 fun y H2=>∃a b kvs bs k v,x=.ref a/\y=.ref b/\Rd H2 a (.dT kvs bs)/\fQ K H2 b (k.map kV)/\iu kvs k=some v/\Q v H2
theorem PR{o i:Expr}{td ty:TE}(hu:X.A.units+64<cLine)(ho:PE X o td)(hi:PE X i ty)(hs:uK i):PE X (.Subscript o i pos) (MB X.K td ty):=by
 intro pins s σ H Q I h;refine Hs PySem.F.slot_dict_getitem.lookup hs (cL (ho pins s σ H _ I h) fun u s1 cq=>?_);obtain⟨x,H1,I1,rx,q1⟩:=cq;refine cL (hi pins s1 σ H1 _ I1 q1) fun iv s2 cq=>?_
 obtain⟨y,H2,I2,ry,a,b,kvs,bs,k,v,ex,ey,ha,hb,hv,q2⟩:=cq;subst ex ey;obtain rfl:u=Value.ref a:=rx;obtain rfl:iv=Value.ref b:=ry;obtain⟨_,hd,xs,_,rel,dd⟩:=zV I2.cN ha;obtain⟨its,rv,⟨o1,g1,c1,n1,d1⟩,_⟩:=I2.tuple hb;have key:(tupleKind (gZ X.prog X.w)).is s2.heap k b:=⟨o1,its.toArray,n1,g1,c1,d1,by simpa using C8 rv⟩
 obtain⟨w',hw,kK⟩:=jR.some_of (v:=v) (o:=(atKey xs k).map (·.2)) (by rw[<-hv];exact rel.val k);obtain⟨p,hp,uq⟩:=bx.mp hw;refine⟨dd.typeIs,wpAny_getItem_heap (tupleKind_room_in1 (by show X.A.units+1<cLine;omega)) key dd hp ?_⟩;rw[uq];exact⟨v,H2,I2.tok _,kK,q2⟩
noncomputable def wo(kvs:List (List Key×D))(k:List Key):Option D:=(kvs.find? fun kv=>decide (kv.1=k)).map (·.2)
def BM(te ti:TD):TD:=fun ρ Q=>te ρ fun r=>ti ρ fun rk=>match r.val,rk.val with
 | .dit kvs,.tup es=>∃k d,qK es=some k/\wo kvs k=some d/\Q (.fz d)
 | _,_=>False
theorem dF.look{K:PySem.W.Frag}{G:Hp}{k:List Key}{d:D}:∀{ks:List (List Key×V)} {kvs:List (List Key×D)},dF K G ks kvs->wo kvs k=some d->∃v,iu ks k=some v/\Rep K G v d
 | [],[],_,e=>by simp[wo] at e
 | a::ks,b::kvs,h,e=>by
  simp only[dF] at h;unfold wo at e;unfold iu;rw[bh] at e ⊢;rw[h.1.1];by_cases hk:b.1=k
  ·simp only[hk,decide_true,aM,aD] at e ⊢;subst e;exact⟨_,rfl,h.1.2⟩
  ·simp only[hk,decide_false] at e ⊢;exact dF.look h.2 e
 | [],_::_,h,_=>by simp only[dF] at h
 | _::_,[],h,_=>by simp only[dF] at h
theorem Ot(hu:X.A.units+64<cLine)(he:PD X e te)(hi:PD X i' ti)(hs:uK i':=by intro _ _;rfl):PD X (.Subscript e i' pos) (BM te ti):=by
 obtain⟨t,p,q⟩:=he;obtain⟨t2,p2,q2⟩:=hi;refine⟨_,PR hu p p2 hs,fun ρ σ G0 H0 G H Q P E h k=>q ρ σ G0 H0 G H _ _ E h fun v H1 r G1 x1 rr hq=>?_⟩;obtain⟨G2,x2,rv,_⟩:=rr.freeze x1;refine q2 ρ σ G0 H0 G2 H1 _ _ (E.ext x2) hq fun u H3 rk G3 x3 kd cQ=>?_
 obtain⟨G4,x4,jD,_⟩:=kd.freeze x3;split at cQ
 ·rename_i kvs es e1 e2;obtain⟨key,d,hk,hl,cQ⟩:=cQ;rw[e1] at rv;rw[e2] at jD;simp only[Rep] at rv jD;obtain⟨a,ks,bs,rfl,ha,sJ,tX⟩:=rv;obtain⟨b,ys,rfl,hb,A2⟩:=jD;obtain⟨w,hw,kK⟩:=(dF.mono x4.g _ _ tX).look hl;exact⟨a,b,ks,bs,key,w,rfl,rfl,.inl (x4.s _ _ (x4.g _ _ ha)),by rw[<-C6 A2 hk];exact x4.s.gP hb,hw,k w H3 (.fz d) G4 (x2.trans x4) kK cQ⟩
 ·exact cQ.elim
end
end L2
namespace L2
open PySem PySem.Spec PyProof.Rows
section
variable {K:PySem.W.Frag} {G0 H0 G H G' H' G2 H2:Hp} {ρ:Ev} {σ:St} {v:V}
theorem cM.unset{i:Nat}{u:Option V}(E:cM K G0 H0 ρ σ G H):cM K G0 H0 (ρ.set i .un) (σ.set i u) G H:=by
 have gs:∀j s,gt (ρ.set i .un) j=s->s≠.un->i≠j/\gt ρ j=s:=fun j s e hs=>by
  rw[oA] at e;by_cases h:i=j/\j<ρ.length
  ·rw[if_pos h] at e;exact absurd e.symm hs
  ·rw[if_neg h] at e;exact⟨fun z=>h ⟨z,tm e hs⟩,e⟩
 have ss:∀j,i≠j->(σ.set i u)[j]?=σ[j]?:=fun j h=>by rw[bQ,if_neg h]
 obtain⟨own,o1,o2⟩:=E.on;refine⟨E.e,by simp[E.len],fun j d h=>?_,fun j ds h=>?_,fun j k ds es mD h1 h2=>?_,own,fun j ds p h hp=>?_,fun j o h=>?_⟩
 ·obtain⟨n,h⟩:=gs j _ h (by simp);rw[ss j n];exact E.fz j d h
 ·obtain⟨n,h⟩:=gs j _ h (by simp);rw[ss j n];exact E.ow j ds h
 ·obtain⟨n,h1⟩:=gs j _ h1 (by simp);obtain⟨n2,h2⟩:=gs k _ h2 (by simp);rw[ss j n,ss k n2];exact E.dj j k ds es mD h1 h2
 ·obtain⟨n,h⟩:=gs j _ h (by simp);rw[ss j n] at hp;exact o1 j ds p h hp
 ·obtain⟨n,h⟩:=gs j _ h (by simp);rw[ss j n];exact o2 j o h
end
noncomputable def ou(f:List D->Bool)(l:List (Addr×List D)):List V:=(l.filter fun p=>f p.2).map fun p=>.ref p.1
theorem JA(f:List D->Bool):∀(fp:List Addr) (dss:List (List D)) (j:Nat),fp.length=dss.length->dss.findIdx? f=some j->∃q,fp[j]?=some q/\(ou f (fp.zip dss))[0]?=some (.ref q)
 | [],[],j,_,h=>by simp at h
 | q::fp,ds::dss,j,hl,h=>by
  rw[List.findIdx?_cons] at h;by_cases hf:f ds=true
  ·rw[if_pos hf] at h;cases h;exact⟨q,rfl,by simp[ou,hf]⟩
  ·rw[if_neg hf] at h;obtain⟨k,hk,rfl⟩:=bx.mp h;obtain⟨r,h1,h2⟩:=JA f fp dss k (by simpa using hl) hk;exact⟨r,by simpa using h1,by simpa[ou,hf] using h2⟩
 | [],_::_,_,hl,_=>by simp at hl
 | _::_,[],_,hl,_=>by simp at hl
theorem DK(f:List D->Bool):∀dss:List (List D),(dss.findIdx? f=none↔dss.filter f=[])
 | []=>by simp
 | ds::dss=>by
  rw[List.findIdx?_cons];by_cases hf:f ds=true
  ·simp[hf]
  ·simp only[hf,aF,bE,Option.map_eq_none_iff,List.filter_cons];exact DK f dss
section
variable {X:Cx} {pos:Pos} {scope:Scope} {N':List Str} {m:List (Option Nat)}
theorem PQ{iS:Nat}{tc:gK}{oG:md TT}{f:List D->Bool}(hm:m[0]?=some none)
  (q3:∀s3 H3 ex (ρ:Ev) (σ:St) (G0 H0 G H:Hp) (Q:Bool->Prop) (P:Bool->Hp->Prop),cM X.K G0 H0 ρ σ G H->tc ρ Q->(∀b H' G',Ext G H G' H'->Q b->P b H')->oG s3 H3 ex σ H P)
  {ρ:Ev} {σ:St} {G0 H0 G H:Hp} {P:VK} {a:Addr} {fp:List Addr} {dss:List (List D)} (E:cM X.K G0 H0 ρ σ G H) (A9:σ[iS]?=some (some (.ref a))) (hH:H a=some (.lst (fp.map V.ref))) (hr:Rep X.K G (.ref a) (.lst (dss.map .lst)))
  (hl:fp.length=dss.length) (hz:dss.length<=sizeLine) (hf:∀ds∈dss,tc ((c9 m ρ).set 0 (.fz (.lst ds))) fun b=>b=f ds)
  (k:∀D H' G',Ext G H G' H'->H D=none->G' D=none->H' D=some (.lst (ou f (fp.zip dss)))->bV X.K G' (ou f (fp.zip dss)) ((dss.filter f).map .lst)->P (.ref D) H') :
  tq (Gd X.K (uR iS)) m (fun _ _ _=>uX 0) oG (fun _ _ _=>uR 0) σ H P:=by
 simp only[Rep] at hr;obtain⟨a',ys,e0,EL,V1⟩:=hr;cases e0;refine⟨_,A9,.inl ⟨a,rfl,⟨_,(E.e.s.fb EL).sq⟩,?_⟩⟩;have wk:=Jc EL V1;intro D hD s3 ex;have uB:G D=none:=E.e.s.free hD;have dX:∀{i:Nat} {es:List L2.D},gt (c9 m ρ) i=.ow es->False:=fun{i es} h=>by
  unfold c9 at h;rw[kb] at h;split at h
  ·rename_i o _;unfold lQ at h;split at h
   ·cases h
   ·split at h<;>cases h
  ·cases h
 have ic:∀{i:Nat} {o:OV},gt (c9 m ρ) i=.ov o->False:=fun{i o} h=>by
  unfold c9 at h;rw[kb] at h;split at h
  ·rename_i o _;unfold lQ at h;split at h
   ·cases h
   ·split at h<;>cases h
  ·cases h
 have j7:cM X.K G H (c9 m ρ) (lg m σ) G (upd H D (.lst [])):=by
  refine⟨.own E.e.s hD,by simp[lg,c9],fun i d h=>?_,fun i es h=>(dX h).elim,fun i j es fs _ h=>(dX h).elim,fun _=>none,fun i es _ h=>(dX h).elim,fun i o h=>(ic h).elim⟩;unfold c9 at h;rw[kb] at h;split at h
  ·rename_i o ho;unfold lQ at h;split at h
   ·cases h
   ·rename_i j;split at h
    ·rename_i d' n4;cases h;obtain⟨v,hv,rv⟩:=E.fz j d n4;refine⟨v,?_,rv⟩;unfold lg;rw[ao,ho];simp[hv]
    ·cases h
  ·cases h
 have lm:0<(c9 m ρ).length:=by
  unfold c9;rw[af];exact(aj.mp hm).1
 have Wk:(dss.map L2.D.lst).length=dss.length:=by simp
 refine⟨fun i n cF H'=>n=dss.length-i/\i<=dss.length/\∃xs G',cM X.K G H (c9 m ρ) cF G' H'/\H' D=some (.lst xs)/\G' D=none/\bV X.K G' xs (((dss.take i).filter f).map .lst)/\xs=ou f ((fp.zip dss).take i),
  ⟨dss.length,by simp,ba _,[],G,j7,fk,uB,by simpa using bV.nil,by simp[ou]⟩,?_⟩
 rintro i n cF H' ⟨rfl,hi,xs,G',E',hx,pM,rx,zf⟩;by_cases cS:i<dss.length
 ·obtain⟨w1,w2⟩:=wk;have kM:(dss.map L2.D.lst)[i]?=some (.lst dss[i]):=by rw[ao,ag cS];rfl
  obtain⟨go,yl⟩:=w1 i _ G' H' kM E'.e.g E'.e.s;refine .inr ⟨go,fun iH H2=>∃xs G',cM X.K G H (c9 m ρ) iH G' H2/\H2 D=some (.lst xs)/\G' D=none/\bV X.K G' xs (((dss.take (i+1)).filter f).map .lst)/\xs=ou f ((fp.zip dss).take (i+1)),fun iH H2 h2=>⟨dss.length-(i+1),by omega,rfl,cS,h2⟩,fun v H2 hy=>?_⟩;have ev:v=.ref (fp[i]'(by omega)):=by
   have:=hy.2 _ (dY.of (E'.e.h _ _ hH));rw[ao,ag (by omega)] at this;cases this;rfl
  obtain⟨G2,x2,rv⟩:=yl v H2 hy;have E2:=E'.ext x2;show oG s3 _ ex (cF.set 0 (some v)) H2 _;have E3:cM X.K G H ((c9 m ρ).set 0 (.fz (.lst dss[i]))) (cF.set 0 (some v)) G2 H2:=E2.put (.refl E2.e.s) (r:=.fz (.lst dss[i])) rv;refine q3 _ _ _ _ _ G H G2 H2 _ _ E3 (hf dss[i] (bI cS)) fun b H4 G4 x4 l7=>?_
  have fm:=x2.trans x4;have weak:∀j,gt (c9 m ρ) j=.un\/gt (c9 m ρ) j=gt ((c9 m ρ).set 0 (.fz (.lst dss[i]))) j:=fun j=>by
   cases j with
   | zero=>left;unfold c9;rw[kb,hm];rfl
   | succ j=>right;rw[oA,if_neg (by omega)]
  have E4:=(E3.ext x4).weak (ρ':=c9 m ρ) (by simp) weak;have lZ:H4 D=some (.lst xs):=fm.h _ _ hx;have oJ:G4 D=none:=fm.n D pM (by rw[hx];exact nofun);have tz:(fp.zip dss).take (i+1)=(fp.zip dss).take i++[(fp[i]'(by omega),dss[i])]:=by
   rw[aK,ag (by rw[List.length_zip];omega),List.getElem_zip];rfl
  have td:dss.take (i+1)=dss.take i++[dss[i]]:=by rw[aK,ag cS];rfl
  subst l7;cases hb:f dss[i] with
  | false=>
   rw[if_neg aG];exact⟨xs,G4,E4,lZ,oJ,by rw[td,List.filter_append];simpa[hb] using rx.mono fm.g,by rw[tz,zf];simp[ou,hb]⟩
  | true=>
   rw[if_pos rfl];have l0:0<cF.length:=by rw[E'.len];exact lm
   refine⟨v,by rw[bQ,if_pos rfl,if_pos l0],xs,lZ,?_,xs++[v],G4,?_,fk,oJ,?_,?_⟩
   ·rw[zf];unfold ou;rw[af];refine Nat.lt_of_le_of_lt (bL _ _) ?_;rw[aV,List.length_zip];omega
   ·refine⟨⟨E4.e.g,fun b o e=>by rw[cX (jf e hD)];exact E4.e.h b o e,fun b o e=>by rw[cX (jf e oJ)];exact E4.e.s b o e,E4.e.n⟩,E4.len,E4.fz,fun i es h=>(dX h).elim,fun i j es fs _ h=>(dX h).elim,fun _=>none,fun i es _ h=>(dX h).elim,fun i o h=>(ic h).elim⟩
   ·rw[td,List.filter_append,aJ];refine(rx.mono fm.g).append ?_;simpa[hb] using bV.cons (rv.mono x4.g) bV.nil
   ·rw[tz,zf,ev];simp[ou,hb]
 ·have e:i=dss.length:=by omega
  subst e;have tz:(fp.zip dss).take dss.length=fp.zip dss:=bD (by rw[List.length_zip];omega);rw[tz] at zf;rw[aS] at rx;subst zf;refine .inl ⟨by have:=wk.2 G' H' E'.e.g E'.e.s;rwa [Wk] at this,k D H' G' E'.e hD pM hx rx⟩
def Bv(iF iS iN:Nat)(m:List (Option Nat))(tc qT:gK)(ta:TX):TX:=fun D ρ=>iF<ρ.length/\iF≠iS/\iF≠iN/\match gt ρ iS,gt ρ iN with
 | .ov (.ll dss),.fz d=>dss.length<=sizeLine/\∃f:List L2.D->Bool,(∀ds∈dss,tc ((c9 m (ρ.set iS (.fz (.lst (dss.map .lst))))).set 0 (.fz (.lst ds))) fun b=>b=f ds)/\
   qT ((ρ.set iS (.fz (.lst (dss.map .lst)))).set iF (.ow ((dss.filter f).map .lst))) (fun b=>b=true↔dss.filter f=[])/\
   (dss.findIdx? f=none->ta D (ρ.set iF .un))/\
   ∀j ds,dss.findIdx? f=some j->dss[j]?=some ds->ds.length<sizeLine/\D.nx ((ρ.set iF .un).set iS (.ov (.ll (dss.set j (ds++[d])))))
 | _,_=>False
theorem Oq(iF iS iN:Nat){x y z t:Str}{c:Expr}{ifs:List Expr}{ab:List Stmt}{tc qT:gK}{ta:TX}{c4:Nat}{p1 p2 p3 p4 p5 p6 p7 p8 p9 pos' ft D9 Ea:Pos}(hc:X.calm=true)(cs:cC X N' m scope)
  (ht:∀s3 H3 ex,rK (fV X N' scope s3 H3 ex) ifs tc) (WM:PB X c qT) (iV:lC X ab ta)
  (VU:∀s3 H3 ex,PG (fV X N' scope s3 H3 ex) (.Name t p2) (uX 0)) (WH:∀s3 H3 ex,PE (fV X N' scope s3 H3 ex) (.Name t p1) (uR 0))
  (hm:m[0]?=some none:=by rfl) (hN:X.N.Nodup:=by assumption) (ni:X.N[iF]?=some x:=by rfl) (hx:Loc X.env.scope x:=by first | exact Or.inl rfl | exact Or.inr rfl)
  (hs:∀u,foldedSetIterable (.Name y p3) X.env u=pure u:=by intro _;rfl)
  (nY:swapsWith (.ListComp (.Name t p1) [⟨.Name t p2,.Name y p3,ifs,0⟩] scope pos) (some (.Name x pos')) ft.line X.env=pure true:=by rfl)
  (hf:X.fn x=true\/X.env.scope.names.lookup x=some .local:=by first | exact .inl rfl | exact .inr rfl | assumption)
  (WZ:X.N[iS]?=some y:=by rfl) (VN:js X.env.scope y:=by first | exact Or.inl rfl | exact Or.inr (Or.inl rfl) | exact Or.inr (Or.inr rfl)) (WK:(y==("__debug__":Str))=false:=by decide) (Fo:(y==("__classdict__":Str))=false:=by decide)
  (WY:X.N[iN]?=some z:=by rfl) (VM:js X.env.scope z:=by first | exact Or.inl rfl | exact Or.inr (Or.inl rfl) | exact Or.inr (Or.inr rfl)) (WJ:(z==("__debug__":Str))=false:=by decide) (Fn:(z==("__classdict__":Str))=false:=by decide)
  (VO:js X.env.scope x:=by first | exact Or.inl rfl | exact Or.inr (Or.inl rfl) | exact Or.inr (Or.inr rfl)) (WL:(x==("__debug__":Str))=false:=by decide) (Fp:(x==("__classdict__":Str))=false:=by decide)
  (gv:starEach [.Name z p9] X.env=(false,eval (.Name z p9) X.env)::starEach [] X.env:=by rfl)
  (hb:∀{ta:TE} {u:TA},PE X (.Subscript (.Name x p4) (.Constant (.int 0) c4 p5) p6) ta->PA X [.Name z p9] u->PE X (.Call (.Attribute (.Subscript (.Name x p4) (.Constant (.int 0) c4 p5) p6) "append" p7) [.Name z p9] [] p8) (vz X.K "list" tI ta u):=by intro ta t h1 h2;exact wu PySem.F.plainAttrs_list PySem.F.slot_list_append PySem.F.type_list_append vv h1 h2) :
  lC X [.Assign [.Name x pos'] (.ListComp (.Name t p1) [⟨.Name t p2,.Name y p3,ifs,0⟩] scope pos) ft,.If c ab [.Expr (.Call (.Attribute (.Subscript (.Name x p4) (.Constant (.int 0) c4 p5) p6) "append" p7) [.Name z p9] [] p8) Ea] D9] (Bv iF iS iN m tc qT ta):=by
 obtain⟨t0,p0,q0⟩:=WM;obtain⟨t1,pa,qa⟩:=iV;refine⟨_,IQ (ve (g:=fun _ _ _=>uX 0) (tc:=fun s3 H3 ex=>(ht s3 H3 ex).choose) (te:=fun _ _ _=>uR 0) hN ni hx hc cs (GL (jL WZ VN WK Fo)) VU (fun s3 H3 ex=>(ht s3 H3 ex).choose_spec.1) WH hs nY hf)
  (Cf (Gv p0 pa (Cf (tK (hb (wx ja (jL ni VO WL Fp) GW (fun _ _=>rfl)) (mX (jL WY VM WJ Fn) oB gv)))))),fun ρ σ G0 H0 G H D E k h g=>?_⟩
 obtain⟨cS,Kz,EX,h⟩:=h;split at h
 ·rename_i dss d Bj Wz;obtain⟨hz,f,WE,WD,WC,WB⟩:=h;obtain⟨own,o1,o2⟩:=k.on;obtain⟨a,fp,b1,b2,⟨ha,hr⟩,b4⟩:=o2 iS _ Bj;have Xj:iC iS ρ=ρ.set iS (.fz (.lst (dss.map .lst))):=by unfold iC;rw[Bj];rfl
  have qt:iS<ρ.length:=tm Bj (by simp);obtain⟨L,hL,E1,_⟩:=k.ik iS;rw[Xj] at E1;obtain⟨va,Kk,Vc⟩:=E1.fz iS (.lst (dss.map .lst)) (by rw[oA,if_pos ⟨rfl,qt⟩]);rw[b1] at Kk;cases Kk;unfold Gn zP;refine PQ (f:=f) (dss:=dss) (fp:=fp) hm (fun s3 H3 ex=>(ht s3 H3 ex).choose_spec.2) E1 b1 ha Vc hr.length hz WE fun Dq H1 G1 x1 hD W2 K6 V2=>?_
  have E2:cM X.K G0 H0 ((ρ.set iS (.fz (.lst (dss.map .lst)))).set iF (.ow ((dss.filter f).map .lst))) (σ.set iF (some (.ref Dq))) G1 H1:=E1.put x1 (r:=.ow ((dss.filter f).map .lst)) ⟨Dq,_,rfl,hD,W2,K6,V2⟩;refine q0 _ _ G0 H0 G1 H1 _ _ E2 WD fun b H3 G3 x3 cQ=>?_
  have lX:=x1.trans x3;have xL:=AB hL lX;have kk:cM X.K G0 H0 (ρ.set iF .un) (σ.set iF (some (.ref Dq))) (less G3 L) H3:=(k.ext xL).unset;cases b with
  | true=>
   rw[if_pos rfl];exact qa _ _ G0 H0 _ H3 D E kk (WC ((DK f dss).mpr (cQ.mp rfl))) (g.shift xL.g)
  | false=>
   rw[if_neg aG];cases hj:dss.findIdx? f with
   | none=>exact absurd (cQ.mpr ((DK f dss).mp hj)) aG
   | some j=>
    obtain⟨D7,yA,nc⟩:=JA f fp dss j hr.length hj;have pJ:j<dss.length:=by rw[<-hr.length];exact(aj.mp yA).1
    obtain⟨hsz,V7⟩:=WB j dss[j] hj (ag pJ);obtain⟨qb,xs,c1,c2,c3⟩:=hr.get (ag pJ);rw[yA] at c1;cases c1;have Fb:iF<σ.length:=by rw[k.len];exact cS
    obtain⟨vn,VQ,Vb⟩:=k.fz iN d Wz;have mF:di (ou f (fp.zip dss)) 0=some (.ref D7):=O4 (j:=0) nc;refine⟨_,by rw[bQ,if_pos rfl,if_pos Fb],Dq,_,0,_,rfl,rfl,dY.of (x3.h _ _ K6),mF,.inl ⟨rfl,xs,dY.of (xL.h _ _ c2)⟩,vn,by rw[bQ,if_neg EX];exact VQ,?_⟩;refine⟨D7,xs,vn,rfl,rfl,xL.h _ _ c2,by rw[c3.length];exact hsz,?_⟩;refine g.nx _ _ (less G3 L) _ xL.g (kk.eT (o:=.ll dss) (by rw[oA,if_neg (fun z=>Kz z.1)];exact Bj) (p:=a) (by rw[bQ,if_neg Kz];exact b1) fun gT nd ow=>?_) V7;obtain⟨oM,l5⟩:=ow;have e3:gT=fp:=by
     have:=(xL.h _ _ ha).symm.trans oM;injection this with this
     injection this with this
     exact((List.map_inj_right fun a b h=>by cases h;rfl).mp this).symm
    subst e3;have iB:=aL.mp nd;refine⟨gT,nd,⟨?_,l5.set ((c3.mono xL.g).append (bV.cons (Vb.mono xL.g) bV.nil)) iB.2 yA⟩,fun q hq=>.inl hq,fun b hb _=>cX fun z=>hb (by rw[z];exact aB _ (ay yA))⟩;rw[cX (fun z:a=D7=>iB.1 (z▸ay yA))];exact oM
 ·exact h.elim
def BL:TD:=fun _ Q=>Q (.ov (.ll []))
theorem Oo{e:Expr}(h:PD X e (lR cx)):PD X e BL:=by
 obtain⟨tt,p,q⟩:=h;refine⟨tt,p,fun ρ σ G0 H0 G H Q P E h k=>q ρ σ G0 H0 G H (fun r=>r=.ow []) _ E ⟨by decide,rfl⟩ fun v H' r G' x rr hq=>?_⟩;subst hq;obtain⟨p,xs,rfl,c1,c2,c3,c4⟩:=rr;cases xs with
 | cons=>simp only[bV] at c4
 | nil=>exact k _ H' (.ov (.ll [])) G' x ⟨p,[],rfl,by simp,⟨c3,by simp only[cu]⟩,fun q hq=>by simp at hq;subst hq;exact⟨c1,c2⟩⟩ h
def zU(i:Nat)(te:TD):TX:=fun D ρ=>match gt ρ i with
 | .ov (.ll dss)=>te ρ fun r=>match r with
  | .ow ds=>dss.length<sizeLine/\D.nx (ρ.set i (.ov (.ll (dss++[ds]))))
  | _=>False
 | _=>False
theorem Om(i:Nat){x:Str}{e:Expr}{te:TD}{p1 p2 pos':Pos}(he:PD X e te)(hN:X.N[i]?=some x:=by rfl)(hv:js X.env.scope x:=by first | exact Or.inl rfl | exact Or.inr (Or.inl rfl) | exact Or.inr (Or.inr rfl))(hd:(x==("__debug__":Str))=false:=by decide)
  (fi:(x==("__classdict__":Str))=false:=by decide) (gv:starEach [e] X.env=(false,eval e X.env)::starEach [] X.env:=by rfl)
  (hb:∀{ta:TE} {t:TA},PE X (.Name x p1) ta->PA X [e] t->PE X (.Call (.Attribute (.Name x p1) "append" p2) [e] [] pos') (vz X.K "list" tI ta t):=by intro ta t h1 h2;exact wu PySem.F.plainAttrs_list PySem.F.slot_list_append PySem.F.type_list_append vv h1 h2) :
  PX X (.Expr (.Call (.Attribute (.Name x p1) "append" p2) [e] [] pos') pos) (zU i te):=by
 obtain⟨t,p,q⟩:=he;refine⟨_,tK (hb (jL hN hv hd fi) (mX p oB gv)),fun ρ σ G0 H0 G H D E k h g=>?_⟩;unfold zU at h;split at h
 ·rename_i dss hg;obtain⟨own,o1,o2⟩:=k.on;obtain⟨a,fp,b1,b2,⟨ha,hr⟩,b4⟩:=o2 i _ hg;refine⟨_,b1,.inl ⟨rfl,_,dY.of ha⟩,?_⟩;refine q ρ σ G0 H0 G H _ _ k h fun v H' r G' x1 rr hq=>?_
  split at hq
  ·rename_i ds;obtain⟨qn,xs,rfl,c1,c2,c3,c4⟩:=rr;have Kx:qn≠a:=fun z=>by rw[z,ha] at c1;cases c1
   refine⟨a,fp.map V.ref,.ref qn,rfl,rfl,x1.h _ _ ha,by rw[af,hr.length];exact hq.1,?_⟩;let H2:Hp:=fun b=>if b=qn then none else H' b
   have FC:∀b,b≠qn->H2 b=H' b:=fun b h=>if_neg h
   have x2:Ext G H G' H2:=⟨x1.g,fun b u e=>by rw[FC b (jf e c1)];exact x1.h b u e,fun b u e=>by rw[FC b (jf e c2)];exact x1.s b u e,x1.n⟩
   refine g.nx _ _ G' _ x1.g ((k.ext x2).eT hg b1 fun gT nd ow=>?_) hq.2;obtain⟨oM,l5⟩:=ow;have e3:gT=fp:=by
    have:=(x2.h _ _ ha).symm.trans oM;injection this with this
    injection this with this
    exact((List.map_inj_right fun a b h=>by cases h;rfl).mp this).symm
   subst e3;have iB:=aL.mp nd;have V8:qn∉gT:=fun z=>hr.here qn z c1
   refine⟨gT++[qn],?_,⟨by rw[fk];simp,cu.snoc (hr.mono x1.g fun q hq zs e=>?_) (by rw[cX Kx];exact c3) c4⟩,fun q hq=>?_,fun b hb Fv=>?_⟩
   ·rw[aL,bJ];refine⟨fun z=>?_,iB.2,by simp,fun u hu w hw=>?_⟩
    ·rcases aw.mp z with z | z
     ·exact iB.1 z
     ·simp at z;exact Kx z.symm
    ·simp at hw;subst hw;exact fun z=>V8 (z▸hu)
   ·rw[cX (fun z:q=a=>iB.1 (z▸hq))];exact x1.h _ _ e
   ·rcases aq.mp hq with rfl | hq
    ·exact .inl (by simp)
    ·rcases aw.mp hq with hq | hq
     ·exact .inl (by simp[hq])
     ·simp at hq;subst hq;exact .inr (if_pos rfl)
   ·have WN:b≠qn:=fun z=>Fv (by rw[z];exact if_pos rfl)
    rw[cX (fun z=>hb (by simp[z])),FC b WN]
  ·exact hq.elim
 ·exact h.elim
end
end L2
namespace PySem
open Sem (wp)
end PySem
namespace L2
open PySem PySem.Spec PyProof.Rows
end L2
namespace L2
open PySem PySem.Spec PyProof.Rows
theorem JI(ns:List Int):∀n,n<=ns.length->preSum (fun i=>ns.getD i 0) n=(ns.take n).sum
 | 0,_=>by simp[preSum]
 | n+1,h=>by
  have ih:=JI ns n (by omega);show preSum (fun i=>ns.getD i 0) n+ns.getD n 0=_;have e:ns.take (n+1)=ns.take n++[ns[n]]:=by rw[aK,ag (by omega)];rfl
  rw[ih,e,List.sum_append,List.getD_eq_getElem?_getD,ag (by omega)];simp
theorem Gu{κ:Type}{kvs:List (κ×V)}{vs:List (κ×Value)}(r:KV kvs vs):∀(i:Nat) {k:κ} {v:Value},vs[i]?=some (k,v)->∃x,kvs[i]?=some (k,x)/\RelV x v:=by
 unfold KV at r;induction r with
 | nil=>intro i k v h;simp at h
 | @cons p q ps qs h t ih=>
  intro i k v hv;cases i with
  | zero=>
   simp only[aW,aD] at hv;subst hv;exact⟨p.2,by simp only[aW];exact congrArg some (Prod.ext h.1 rfl),h.2⟩
  | succ i=>
   simp only[aX] at hv ⊢;exact ih i hv
section
variable {X:Cx}
def LJ(to:TE):TE:=fun σ H Q=>to σ H fun x H1=>∃(a:Addr) (ks:List (Key×V)) (ep:Nat) (ns:List Int),x=.ref a/\H1 a=some (.dK ks ep)/\ks.map (·.2)=ns.map V.int/\Q (.int ns.sum) H1
theorem Ol{o:Expr}{to:TE}{p apos de pos:Pos}(hc:X.calm=true)(hg:Gl X "sum")(hm:X.mg "sum"=none)(ho:PE X o to)
  (f9:attributeBase o "values" X.env (eval o X.env)=eval o X.env:=by rfl) (f7:(apos.endLine==de.line)=true:=by rfl)
  (he:starEach [Expr.Call (.Attribute o "values" apos) [] [] de] X.env=[(false,eval (.Call (.Attribute o "values" apos) [] [] de) X.env)]:=by rfl) :
  PE X (.Call (.Name "sum" p) [.Call (.Attribute o "values" apos) [] [] de] [] pos) (LJ to):=by
 intro pins s σ H Q I h;refine wpAny_Call_Name_kw (qh I hg hm boot_sum (PyProof.Rows.callWith_builtin1 ?_ he rfl));rw[he];show wpAny _ _ (spliced ((false,eval (.Call (.Attribute o "values" apos) [] [] de) X.env)::[])) _ _ s;refine Calls.spliced_cons ?_;refine wpAny_Call_method0_late f9 f7 (cL (ho pins s σ H _ I h) fun v s1 cq=>?_);obtain⟨x,H1,I1,r1,a,ks,Xg,ns,ex,hk,hn,q⟩:=cq;subst ex;obtain⟨h1,h2⟩:=Af (T:="dict") I1 r1 (.inr (.inr (.inl ⟨rfl,.inl ⟨ks,Xg,hk⟩⟩)));obtain rfl:v=Value.ref a:=r1;refine⟨"dict","dict.values",PySem.F.plainAttrs_dict,PySem.F.slot_dict_values,PySem.F.type_dict_values,h1,h2,Calls.callWith_builtin rfl (PySem.evalArgs_none ?_)⟩;obtain⟨hz,hd,vs,rel,dd⟩:=GA I1.cN hk;have Xm:=dd;obtain⟨o',es,ep,i4,r5⟩:=dd;have dat:s1.heap.DictAt (gZ X.prog X.w) a vs ep:=⟨o',es,i4,r5⟩
 have cS:a<s1.heap.objs.size:=ax i4;have hlen:vs.length=ns.length:=by
  rw[<-rel.length];have:=congrArg List.length hn;simpa using this
 refine call_meetsIn PySem.F.slot_dict_values h1 PySem.F.entry_dict_values (PySem.F.args_dict_values_1 _) (meets_dict_values (gZ X.prog X.w) a hd) ⟨⟨vs,Xm⟩,?_⟩;refine Calls.spliced_nil ?_;have Ey:(s1.heap.push { cls:=.type "dict_values",data:=.fields #[.ref a] }).IsValuesView s1.heap.objs.size a:=⟨_,av _ rfl,rfl,rfl⟩
 have uD:(s1.heap.push { cls:=.type "dict_values",data:=.fields #[.ref a] }).DictAt (gZ X.prog X.w) a vs ep:=⟨o',es,ae _ i4,r5⟩
 refine call_sum_walkG (wpAny_pyIter_values Ey uD ?_);refine⟨_,_,_,_,_,_,fun i=>ns.getD i 0,rfl,Walks.dictValues (knd:=gZ X.prog X.w) (A:=X.A.in1) (by simpa using I1.ok.hd hc) _ a ?_ vs ep,⟨⟨_,av _ rfl,rfl,rfl⟩,⟨o',es,ae _ (ae _ i4),r5⟩⟩,fun b hb=>?_,fun i v hP=>?_,fun h' tk t' qv=>?_⟩
 ·show a≠(s1.heap.push _).objs.size;rw[Heap.size_push];exact aA (bH cS)
 ·show b<((s1.heap.push _).push _).objs.size;rw[Heap.size_push,Heap.size_push];simp only[aq,br,or_false] at hb;rcases hb with rfl | rfl
  ·show(s1.heap.push _).objs.size<_;rw[Heap.size_push];exact Nat.lt_succ_self _
  ·exact bH (bH cS)
 ·obtain⟨k,hv⟩:=hP;obtain⟨x,hx,rx⟩:=Gu rel i hv;have e:=congrArg (fun l=>l[i]?) hn;simp only[ao,hx,aM] at e;cases hi:ns[i]? with
  | none=>rw[hi] at e;cases e
  | some m=>
   rw[hi] at e;have e2:x=V.int m:=by simpa using e
   subst e2;show ∃t,v=Value.int (ns.getD i 0) t
   rw[List.getD_eq_getElem?_getD,hi];exact rx
 ·have e:preSum (fun i=>ns.getD i 0) vs.length=ns.sum:=by rw[JI ns vs.length (by omega),hlen,aS]
  rw[e];have keep:∀b ob,s1.heap.get? b=some ob->h'.get? b=some ob:=fun b ob e1=>by
   refine qv b ob (fun z=>?_) (ae _ (ae _ e1));have z1:b=(s1.heap.push { cls:=.type "dict_values",data:=.fields #[.ref a] }).objs.size:=by simpa using z
   rw[Heap.size_push] at z1;have:=ax e1;rw[z1] at this;exact absurd this (Nat.not_lt.mpr (Nat.le_succ _))
  exact⟨.int ns.sum,H1,I1.kept keep,⟨_,rfl⟩,q⟩
noncomputable def mj:List (Key×D)->Option (List Int)
 | []=>some []
 | (_,.int i)::r=>(mj r).map (i::·)
 | _=>none
theorem IU{K:PySem.W.Frag}{G:Hp}:∀{ks:List (Key×V)} {kvs:List (Key×D)} {ns:List Int},cf K G ks kvs->mj kvs=some ns->ks.map (·.2)=ns.map V.int
 | [],[],ns,_,h=>by simp only[mj,aD] at h;subst h;rfl
 | (a,v)::ks,(b,.int i)::kvs,ns,r,h=>by
  simp only[cf,Rep] at r;simp only[mj,bx] at h;obtain⟨ms,h1,rfl⟩:=h;rw[au,au,IU r.2 h1,r.1.2]
 | [],_::_,_,r,_=>by simp only[cf] at r
 | _::_,[],_,r,_=>by simp only[cf] at r
 | _::_,(_,.non)::_,_,_,h=>by simp[mj] at h
 | _::_,(_,.bl _)::_,_,_,h=>by simp[mj] at h
 | _::_,(_,.str _)::_,_,_,h=>by simp[mj] at h
 | _::_,(_,.tup _)::_,_,_,h=>by simp[mj] at h
 | _::_,(_,.lst _)::_,_,_,h=>by simp[mj] at h
 | _::_,(_,.obj _ _)::_,_,_,h=>by simp[mj] at h
 | _::_,(_,.dic _)::_,_,_,h=>by simp[mj] at h
 | _::_,(_,.dit _)::_,_,_,h=>by simp[mj] at h
def Gs(td:TD):TD:=fun ρ Q=>td ρ fun r=>match r.val with
 | .dic kvs=>∃ns,mj kvs=some ns/\Q (.fz (.int ns.sum))
 | _=>False
theorem Oj{o:Expr}{td:TD}{p apos de pos:Pos}(hc:X.calm=true)(hm:X.mg "sum"=none)(ho:PD X o td)(hg:Gl X "sum":=by rfl)
  (f9:attributeBase o "values" X.env (eval o X.env)=eval o X.env:=by rfl) (f7:(apos.endLine==de.line)=true:=by rfl)
  (he:starEach [Expr.Call (.Attribute o "values" apos) [] [] de] X.env=[(false,eval (.Call (.Attribute o "values" apos) [] [] de) X.env)]:=by rfl) :
  PD X (.Call (.Name "sum" p) [.Call (.Attribute o "values" apos) [] [] de] [] pos) (Gs td):=by
 obtain⟨t,pp,q⟩:=ho;refine⟨_,Ol hc hg hm pp f9 f7 he,fun ρ σ G0 H0 G H Q P E h k=>q ρ σ G0 H0 G H _ _ E h fun v H' r G' x rr hq=>?_⟩;obtain⟨G2,x2,rv,_⟩:=rr.freeze x;split at hq
 ·rename_i kvs e;obtain⟨ns,hn,hq⟩:=hq;rw[e] at rv;simp only[Rep] at rv;obtain⟨a,ks,ep,rfl,ha,rk⟩:=rv;exact⟨a,ks,ep,ns,rfl,x2.s _ _ ha,IU rk hn,k _ H' _ G2 x2 (fj (iJ _ _ _)) hq⟩
 ·exact hq.elim
end
end L2
namespace PySem
open Sem (wp)
section
variable {prog:Program} {w:World} {K:Type} [DecidableEq K] {knd:KeyKind prog w K} {A:Around} {R:Result->Shared->Prop} {I:Addr} {fp wr:List Addr} {G:Array GenState->Array GenState->Prop} {n:Nat} {P:Nat->Value->Prop} {St:Nat->Shared->Prop}
noncomputable def bK(l:List (K×Value)):List (K×Value):=l.foldl (fun acc p=>stored acc p.1 p.2) []
theorem Oi{kvs:List (K×Value)}{i:Nat}{k:K}{y:Value}(e:kvs[i]?=some (k,y)):stored (bK (kvs.take i)) k y=bK (kvs.take (i+1)):=by
 unfold bK;have e1:kvs.take (i+1)=kvs.take i++[(k,y)]:=by rw[aK,e];rfl
 rw[e1,List.foldl_append];rfl
theorem RA(l:List (K×Value))(k:K)(y:Value):(stored l k y).length<=l.length+1:=by
 unfold stored;split
 ·simp
 ·simp
theorem Hf(l:List (K×Value)):(bK l).length<=l.length:=by
 have:∀(r acc:List (K×Value)),(r.foldl (fun acc p=>stored acc p.1 p.2) acc).length<=acc.length+r.length:=by
  intro r;induction r with
  | nil=>intro acc;simp
  | cons p r ih=>
   intro acc;have h1:=ih (stored acc p.1 p.2);have h2:=RA acc p.1 p.2;rw[bw,aN];omega
 simpa[bK] using this l []
theorem Ri(W:WalksS prog w A.in1 I fp wr G n P St)(S:Addr)(j3:S∉fp)(h0:Heap)(kvs:List (K×Value))(hx:kvs.length=n)(hsz:kvs.length<=sizeLine)
  (gR:∀i v,P i v->∃k y key a,kvs[i]?=some (k,y)/\v=.ref a/\knd.is k key=true/\h0.IsTuple a #[key,y]/\a≠S/\a∉wr) :
  ∀(m i:Nat) (s:Shared),n-i=m->i<=n->St i s->s.heap.DictOf knd S (bK (kvs.take i))->(∀b o,b≠S->b∉wr->h0.get? b=some o->s.heap.get? b=some o)->
   (∀s',Moved (S::wr) G s s'->s'.heap.DictOf knd S (bK kvs)->R (.ok (.ret .none)) s')->codeAny (model prog w) A (.builtin "dict.update.loop" ⟨[.ref S,.ref I,rawInt (i:Int),.none],[]⟩) R s:=by
 have k8:S∉wr:=fun h=>j3 (W.sub _ h)
 have more:∀b∈wr,b∈S::wr:=fun b hb=>aB _ hb
 intro m;induction m with
 | zero=>
  intro i s hk hi st T jT q;have e:i=n:=by omega
  subst e;refine bM AQ ?_;rw[bg sg _];show wpAny _ A.in1 (pyNext (.ref I) >>= _) _ _ s;refine aa (W.done s _ _ st fun s' hm=>?_);show wpAny _ A.in1 (Builtin.Dict.addKeywords S [] >>= _) _ _ s';rw[<-hx,aS] at T;refine aa (ai (ai (q s' (hm.mono more) ?_)));obtain⟨o,es,ep,h1,r⟩:=T;exact⟨o,es,ep,hm.heap S _ k8 h1,r⟩
 | succ m ih=>
  intro i s hk hi st T jT q;have cS:i<n:=by omega
  refine bM AQ ?_;rw[bg sg _];show wpAny _ A.in1 (pyNext (.ref I) >>= _) _ _ s;refine aa (W.item i s _ _ cS st fun v s' hP eG hm=>?_);obtain⟨k,y,key,a,sJ,rfl,jP,hT,Fw,y7⟩:=gR i v hP;have T':s'.heap.DictOf knd S (bK (kvs.take i)):=by
   obtain⟨o,es,ep,h1,r⟩:=T;exact⟨o,es,ep,hm.heap S _ k8 h1,r⟩
  obtain⟨o,ho,hc,nn,hd⟩:=hT;have i4:s'.heap.get? a=some o:=hm.heap a o y7 (jT a o Fw y7 ho);show wpAny _ A.in1 (holding [Value.ref a] _ >>= _) _ _ s';refine aa (bA ?_);refine aa (wpAny_tryCatch ?_);unfold Builtin.Dict.pairItems;refine aa (wpAny_typeOf (T:="tuple") ⟨o,i4,hc⟩ ?_);rw[if_pos (by decide)];refine aa (wpAny_seqItems i4 hd ?_);refine ai ?_;show wpAny _ A.in1 (holding [key,y] (dictSet S key y)) _ _ s';refine bA (wpAny_dictSet_pairs (hsz:=by have:=Hf (kvs.take i);rw[aV] at this;omega) jP T' fun h' T2 sb=>?_);rw[Oi sJ] at T2;refine ai ⟨bT sg _,ih (i+1) _ (by omega) cS (W.frame _ s' _ _ eG (Nat.le_succ _) fun b hb o e=>?_) T2 (fun b o pP y3 e=>?_) fun s2 ng T3=>?_⟩
  ·rw[sb.2 b (fun z:b=S=>j3 (by rw[<-z];exact hb))];exact e
  ·show h'.get? b=some o;rw[sb.2 b pP];exact hm.heap b o y3 (jT b o pP y3 e)
  ·refine q s2 (Moved.trans W.gtrans ((hm.mono more).then_heap (Nat.le_succ _) fun b o hb e=>?_) ng) T3;rw[sb.2 b (fun z:b=S=>hb (by rw[z];exact bj))];exact e
end
section
variable {prog:Program} {w:World} {K:Type} [DecidableEq K] {knd:KeyKind prog w K} {A:Around} {E:Value->Shared->Prop} {s:Shared}
theorem SE{l:Addr}{items:List Value}{kvs:List (K×Value)}{Q:Value->Shared->Prop}(hh:A.handled=none)(hl:∃o n,s.heap.get? l=some o/\o.cls=.type "list"/\o.dict=none/\o.data=.seq items.toArray n)(hx:kvs.length=items.length)(hsz:kvs.length<=sizeLine)
  (gR:∀(i:Nat) (v:Value),items[i]?=some v->∃k y key a,kvs[i]?=some (k,y)/\v=.ref a/\knd.is k key=true/\s.heap.IsTuple a #[key,y])
  (h:∀h' tk,h'.DictOf knd s.heap.objs.size (bK kvs)->(∀b o,s.heap.get? b=some o->h'.get? b=some o)->Q (.ref s.heap.objs.size) { s with heap:=h',toks:=tk }) :
  wpAny (model prog w) A (call (.type "dict") [.ref l]) Q E s:=by
 obtain⟨ol,nl,pG,kh,vO,sG⟩:=hl;refine callType_codes (Q₁:=fun obj cB=>obj=.ref s.heap.objs.size/\cB={ s with heap:=s.heap.push { cls:=.type "dict",data:=.dict #[] } }) F.kt_called_dict (F.kt_typeCall_dict_1 _) F.entry_dict_init (kt_code_dict_new _ ⟨rfl,rfl⟩) ?_;rintro obj cB ⟨rfl,rfl⟩;have kg:(s.heap.push { cls:=.type "dict",data:=.dict #[] }).DictOf knd s.heap.objs.size []:=Heap.DictOf.new s.heap;refine⟨kg.typeIs,F.args_dict_init_2 _ _,?_⟩;have jo:(s.heap.push { cls:=.type "dict",data:=.dict #[] }).get? l=some ol:=ae _ pG;unfold Builtin.«dict.__init__»;refine aa ?_;unfold Builtin.Dict.selfAndRest;refine aa (wpAny_notOrdered_dict kg.typeIs ?_);show wpAny _ _ (pure (s.heap.objs.size,[Value.ref l])) _ _ _;refine ai ?_;show wpAny _ _ (Builtin.Dict.updateFrom "dict.__init__" s.heap.objs.size (.ref l) [] .none) _ _ _;unfold Builtin.Dict.updateFrom;refine aa (wpAny_typeOf (T:="list") ⟨_,jo,kh⟩ ?_);rw[if_pos (by decide)];refine aa (JO jo kh sG vO JN (by decide) (by simpa using hh) ?_);intro h' tk e ne;simp only[Option.isNone_none,bO];refine aa (wpAny_rule ?_);have kp:∀b o,(s.heap.push { cls:=.type "dict",data:=.dict #[] }).get? b=some o->h'.get? b=some o:=ne.keeps
 have qu:h'.IsList l items.toArray:=⟨_,kp _ _ jo,kh,nl,sG⟩
 have zd:h'.DictOf knd s.heap.objs.size []:=by
  obtain⟨o,es,ep,h1,r⟩:=kg;exact⟨o,es,ep,kp _ _ h1,r⟩
 have qt:l<s.heap.objs.size:=ax pG;have rG:s.heap.objs.size<h'.objs.size:=by
  obtain⟨o,es,ep,h1,r⟩:=zd;exact ax h1
 refine aa (wpAny_pyIter_list qu (ai ⟨bT sg _,?_⟩));have pH:l≠h'.objs.size:=aA (Nat.lt_trans qt rG);have j3:s.heap.objs.size∉[h'.objs.size,l]:=by
  simp only[aq,br,or_false,not_or];exact⟨aA rG,Nat.ne_of_gt qt⟩
 have Ff:A.in1.in1.handled=none:=by simpa using hh
 refine Ri ((Walks.list Ff _ l pH items.toArray).toS) s.heap.objs.size j3 s.heap kvs (by simpa using hx) hsz (fun i v hv=>?_) (items.toArray.size-0) 0 _ rfl (ba _)
  ⟨⟨_,av _ rfl,rfl,rfl⟩,(qu.push _)⟩ (by
   obtain⟨o,es,ep,h1,r⟩:=zd;exact⟨o,es,ep,ae _ h1,r⟩) (fun b o sP Fv e=>ae _ (kp _ _ (ae _ e))) ?_
 ·rw[List.getElem?_toArray] at hv;obtain⟨k,y,key,a,h1,h2,h3,h4⟩:=gR i v hv;have ha:a<s.heap.objs.size:=by obtain⟨o,ho,_⟩:=h4;exact ax ho
  refine⟨k,y,key,a,h1,h2,h3,h4,aA ha,?_⟩;simp only[aR];exact aA (Nat.lt_trans ha rG)
 ·intro s' hm T;obtain⟨h2,g',d',mY,t4⟩:=s';have eg:g'=s.gens:=hm.gens;have ed:d'=s.drawn:=hm.drawn;have eo:t4=s.os:=hm.os;subst eg ed eo;refine⟨rfl,h h2 mY T fun b o e=>?_⟩;have hb:b<s.heap.objs.size:=ax e;refine hm.heap b o ?_ (ae _ (kp _ _ (ae _ e)));simp only[aq,br,or_false,not_or];exact⟨aA hb,aA (Nat.lt_trans hb rG)⟩
end
end PySem
namespace L2
open PySem PySem.Spec PyProof.Rows
noncomputable def z5(ks:List (Key×V)):List (Key×V):=ks.foldl (fun acc p=>oo acc p.1 p.2) []
noncomputable def Cq(kvs:List (Key×D)):List (Key×D):=kvs.foldl (fun acc p=>kP acc p.1 p.2) []
theorem MA:∀{ks:List (Key×V)} {vs:List (Key×Value)} {ka:List (Key×V)} {va:List (Key×Value)},KV ks vs->KV ka va->KV (ks.foldl (fun acc p=>oo acc p.1 p.2) ka) (vs.foldl (fun acc p=>stored acc p.1 p.2) va):=by
 intro ks vs ka va r;unfold KV at r;induction r generalizing ka va with
 | nil=>intro h;exact h
 | @cons p q ps qs h t ih=>
  intro ha;rw[bw,bw];refine ih ?_;rw[<-h.1];exact ha.put p.1 h.2
theorem HZ{K:PySem.W.Frag}{G:Hp}:∀{ks:List (Key×V)} {kvs:List (Key×D)} {ka:List (Key×V)} {va:List (Key×D)},cf K G ks kvs->cf K G ka va->cf K G (ks.foldl (fun acc p=>oo acc p.1 p.2) ka) (kvs.foldl (fun acc p=>kP acc p.1 p.2) va)
 | [],[],_,_,_,h=>h
 | a::ks,b::kvs,ka,va,r,h=>by
  simp only[cf] at r;rw[bw,bw];refine HZ r.2 ?_;rw[<-r.1.1];exact h.put r.1.2
 | [],_::_,_,_,r,_=>by simp only[cf] at r
 | _::_,[],_,_,r,_=>by simp only[cf] at r
section
variable {X:Cx}
theorem Ry(hc:X.calm=true):c8 X (.type "dict") (fun xs H Q=>∃p ys ks,xs=[V.ref p]/\dY X.K H p ys/\c7 X.K H ys ks/\∀l ep,H l=none->Q (.ref l) (upd H l (.dK (z5 ks) ep))):=by
 intro pins s σ H xs us Q I r h;obtain⟨p,ys,ks,rfl,hq,hp,q⟩:=h;obtain⟨u,rfl,ru⟩:=j8 r;cases ru;obtain⟨its,rv,pl,hz⟩:=I.list hq;obtain⟨vs,kv,gR⟩:=hp.vals I rv;have hlen:vs.length=its.length:=by rw[<-kv.length,<-hp.length,rv.length]
 obtain⟨o,n,h1,h2,h3,h4⟩:=pl;have lh:vs.length<=sizeLine:=by rw[hlen,<-rv.length];exact hz
 have Ke:KV (z5 ks) (bK vs):=MA kv (by unfold KV;exact .nil);refine SE (knd:=gZ X.prog X.w) (kvs:=vs) (items:=its) (I.ok.hd hc) ⟨o,n,h1,h2,h3,h4⟩ hlen lh gR fun h' tk dd kp=>?_
 have hf:H s.heap.objs.size=none:=I.cN.fresh (az _);obtain⟨ep,da⟩:=BD dd;refine⟨.ref s.heap.objs.size,_,I.laid (a:=s.heap.objs.size) (o:=.dK (z5 ks) ep) (t':=tk) kp (az _) (B1 (by rw[Ke.length];exact Nat.le_trans (Hf vs) lh) ?_ Ke da),rfl,q _ ep hf⟩;have hb:=I.big;simpa using Nat.ne_of_gt hb
def z0:dZ:=fun ds Q=>match ds with
 | [.lst es]=>match pairsOf es with
  | some kvs=>Q (.ov (.dc (Cq kvs)))
  | none=>False
 | _=>False
theorem Oh(hc:X.calm=true):mi X (.type "dict") z0:=by
 refine⟨_,Ry hc,fun G H vs ds Q P s r h k=>?_⟩;unfold z0 at h;split at h
 ·rename_i es;split at h
  ·rename_i kvs hp;cases vs with
   | nil=>simp only[bV] at r
   | cons v vs=>
    cases vs with
    | cons=>simp only[bV] at r;exact r.2.elim
    | nil=>
     simp only[bV,Rep] at r;obtain⟨⟨a,ys,rfl,ha,ry⟩,_⟩:=r;obtain⟨ks,p1,p2⟩:=CW s hp ry;refine⟨a,ys,ks,rfl,(s.fb ha).sq,p1,fun l ep hl=>?_⟩;refine k _ _ (.ov (.dc (Cq kvs))) G (.own s hl) ⟨l,[],rfl,by simp,⟨rfl,z5 ks,ep,fk,HZ p2 cf.nil⟩,fun q hq=>?_⟩ h;simp only[aR] at hq;subst hq;exact⟨hl,s.free hl⟩
  ·exact h.elim
 ·exact h.elim
end
end L2
namespace L2
open PySem
def fg(xs:Array Nat):Prop:=xs.toList.Pairwise (·<·)
theorem fg.lt{xs:Array Nat}(h:fg xs){i k:Nat}(hi:i<k)(hk:k<xs.size):xs[i]<xs[k]:=by
 have:=bN.mp h i k (by simpa using Nat.lt_trans hi hk) (by simpa using hk) hi;simpa using this
theorem Cy{xs:Array Nat}(h:fg xs)(j:Nat):∀(fuel lo hi:Nat),lo<=hi->hi<=xs.size->hi-lo<=fuel->(∀i (nk:i<xs.size),i<lo->xs[i]<j)->(∀i (nk:i<xs.size),hi<=i->j<=xs[i])->
  SetTable.below.go xs j fuel lo hi<=xs.size/\(∀i (nk:i<xs.size),i<SetTable.below.go xs j fuel lo hi->xs[i]<j)/\∀i (nk:i<xs.size),SetTable.below.go xs j fuel lo hi<=i->j<=xs[i]
 | 0,lo,hi,h1,h2,h3,a,b=>by
  have e:lo=hi:=by omega
  subst e;exact⟨h2,a,b⟩
 | fuel+1,lo,hi,h1,h2,h3,a,b=>by
  unfold SetTable.below.go;by_cases c:lo<hi
  ·rw[if_pos c];have hm:(lo+hi)/2<xs.size:=by omega
   have hg:xs.getD ((lo+hi)/2) j=xs[(lo+hi)/2]:=by simp[Array.getD,hm]
   simp only[hg];by_cases d:xs[(lo+hi)/2]<j
   ·rw[if_pos d];refine Cy h j fuel _ hi (by omega) h2 (by omega) (fun i nk cS=>?_) b;by_cases e:i=(lo+hi)/2
    ·subst e;exact d
    ·exact Nat.lt_trans (h.lt (by omega) hm) d
   ·rw[if_neg d];refine Cy h j fuel lo _ (by omega) (by omega) (by omega) a (fun i nk hle=>?_);by_cases e:i=(lo+hi)/2
    ·subst e;omega
    ·have:=h.lt (show(lo+hi)/2<i by omega) nk;omega
  ·rw[if_neg c];have e:lo=hi:=by omega
   subst e;exact⟨h2,a,b⟩
theorem Dr{xs:Array Nat}(h:fg xs)(j:Nat):SetTable.below xs j<=xs.size/\(∀i (nk:i<xs.size),i<SetTable.below xs j->xs[i]<j)/\∀i (nk:i<xs.size),SetTable.below xs j<=i->j<=xs[i]:=
 Cy h j xs.size 0 xs.size (ba _) (az _) (by omega) (fun i _ z=>absurd z (Nat.not_lt_zero _)) (fun i hi z=>absurd hi (by omega))
theorem Rx{xs:Array Nat}(h:fg xs)(i:Nat)(hi:i<xs.size):SetTable.below xs (xs[i]+1)=i+1:=by
 obtain⟨a,b,c⟩:=Dr h (xs[i]+1);generalize SetTable.below xs (xs[i]+1)=p at a b c;by_cases h1:p<=i
 ·have:=c i hi h1;omega
 ·by_cases h2:i+1<p
  ·have:=b (i+1) (by omega) h2;have:=h.lt (show i<i+1 by omega) (show i+1<xs.size by omega);omega
  ·omega
theorem Rw{xs:Array Nat}(h:fg xs):SetTable.below xs 0=0:=by
 obtain⟨a,b,c⟩:=Dr h 0;generalize SetTable.below xs 0=p at a b c;cases p with
 | zero=>rfl
 | succ p=>
  have:=b 0 (by omega) (by omega);omega
theorem S5{α:Type}(xs:Array α)(p:Nat)(x:α):(SetTable.insertAt xs p x).toList=xs.toList.take p++x::xs.toList.drop p:=by
 unfold SetTable.insertAt;simp only[Array.toList_append,Array.toList_push,Array.toList_extract,List.extract_eq_take_drop,Nat.sub_zero,List.drop_zero,List.append_assoc,List.singleton_append];congr 2
 exact bD (by simp)
theorem SD{xs:Array Nat}(h:fg xs)(j:Nat)(hj:xs[SetTable.below xs j]?≠some j):fg (SetTable.insertAt xs (SetTable.below xs j) j):=by
 obtain⟨a,b,c⟩:=Dr h j;unfold fg;rw[S5];generalize hp:SetTable.below xs j=p at a b c hj;have e:xs.toList=xs.toList.take p++xs.toList.drop p:=(List.take_append_drop _ _).symm;have h':=h;unfold fg at h';rw[e,List.pairwise_append] at h';obtain⟨t1,t2,t3⟩:=h';have lo:∀x∈xs.toList.take p,x<j:=fun x hx=>by
  obtain⟨i,hi,rfl⟩:=List.mem_take_iff_getElem.mp hx;have rC:i<xs.size:=by simp at hi;omega
  have:=b i rC (by omega);simpa using this
 have up:∀x∈xs.toList.drop p,j<x:=fun x hx=>by
  obtain⟨i,hi,rfl⟩:=List.mem_drop_iff_getElem.mp hx;have rC:p+i<xs.size:=by simp at hi;omega
  have h1:=c (p+i) rC (by omega);have h2:j≠xs[p+i]:=fun z=>by
   cases i with
   | zero=>exact hj (by rw[bB (by omega)];exact congrArg some z.symm)
   | succ i=>
    have h3:=c p (by omega) (az _);have h4:=h.lt (show p<p+(i+1) by omega) rC;omega
  simp;omega
 rw[List.pairwise_append,List.pairwise_cons];refine⟨t1,⟨up,t2⟩,fun x hx y hy=>?_⟩;rcases aq.mp hy with rfl | hy
 ·exact lo x hx
 ·exact Nat.lt_trans (lo x hx) (up y hy)
theorem IT{t:SetTable}{j:Nat}(h:t.slot j=.empty\/t.slot j=.dummy):t.place[SetTable.below t.place j]?≠some j:=fun z=>by
 have e:t.slot j=.live (SetTable.below t.place j):=by
  unfold SetTable.slot;simp[z]
 rw[e] at h;rcases h with h | h<;>cases h
theorem Cw{t:SetTable}{ha:Nat->Int}{h:Int}:∀(fuel:Nat) (p:SetTable.Probe) (j:Nat) (dm:Option Nat),(∀d,p.dummy=some d->t.slot d=.dummy)->SetTable.probe.go t ha h fuel p=some (.empty j dm)->t.slot j=.empty/\∀d,dm=some d->t.slot d=.dummy
 | 0,p,j,dm,_,e=>by unfold SetTable.probe.go at e;cases e
 | fuel+1,p,j,dm,hd,e=>by
  have Lj:∀q:SetTable.Probe,(t.advance q).dummy=q.dummy:=fun q=>by
   unfold SetTable.advance;split<;>rfl
  unfold SetTable.probe.go at e;cases hs:t.slot p.j with
  | empty=>
   rw[hs] at e;cases e;exact⟨hs,hd⟩
  | dummy=>
   rw[hs] at e;refine Cw fuel _ j dm (fun d z=>?_) e;rw[Lj] at z;cases z;exact hs
  | live i=>
   rw[hs] at e;dsimp only at e;split at e
   ·cases e
   ·refine Cw fuel _ j dm (fun d z=>?_) e;rw[Lj] at z;exact hd d z
theorem S4{t:SetTable}{h:Int}{j:Nat}{b:Bool}(e:t.freeSlot h=some (j,b)):t.place[SetTable.below t.place j]?≠some j:=by
 unfold SetTable.freeSlot at e;split at e
 ·rename_i j' dm he;obtain⟨h1,h2⟩:=Cw _ _ _ _ (fun d z=>by cases z) he;cases dm with
  | none=>cases e;exact IT (.inl h1)
  | some d=>cases e;exact IT (.inr (h2 d rfl))
 ·cases e
theorem Rv(n:Nat):fg (Array.range n):=by
 unfold fg;rw[Array.toList_range];exact List.pairwise_lt_range
theorem AS(t:SetTable)(n:Nat):fg (t.standIn n).place:=Rv n
theorem SA{t:SetTable}(h:fg t.place)(es:Array (Int×Value))(hh:Int)(x:Value):fg (layNew t es hh x).2.1.place:=by
 unfold layNew;split
 ·rename_i sl wd he;dsimp only;unfold SetTable.orStandIn;split
  ·exact SD h sl (S4 he)
  ·exact AS _ _
 ·exact AS _ _
theorem Sz{t t':SetTable}{hs:Array Int}{n:Nat}{o:Array Nat}(e:t.relaid hs n=some (t',o)):fg t'.place:=by
 unfold SetTable.relaid SetTable.laid at e;cases hc:SetTable.layClean (SetTable.sizeAbove n-1) hs with
 | none=>rw[hc] at e;cases e
 | some owner=>
  rw[hc] at e;cases e;unfold fg;show List.Pairwise _ (List.map _ (List.filterMap _ (List.range _)));rw[bC,List.pairwise_filterMap];refine List.pairwise_lt_range.imp fun{a b} iV x hx y hy=>?_
  obtain⟨u,_,rfl⟩:=bx.mp hx;obtain⟨v,_,rfl⟩:=bx.mp hy;exact iV
theorem S3{t:SetTable}(es:Array (Int×Value))(n:Nat):fg (relayAll t es n).2.1.place:=by
 unfold relayAll;split
 ·rename_i t' order hr;dsimp only;split
  ·exact Sz hr
  ·exact AS _ _
 ·exact AS _ _
end L2
namespace L2
namespace SI
open PySem PySem.Spec PyProof.Rows
noncomputable def zT:Value->Int
 | .int i _=>i
 | _=>0
theorem SS(t:SetTable)(es:Array (Int×Value))(wanted:Nat):(relayAll t es wanted).2.1.led=t.led:=by
 unfold relayAll;split
 ·rename_i t' order hr;obtain⟨h1,h2⟩:=SJ hr;dsimp only;split
  ·exact h1
  ·rfl
 ·rfl
section
variable {prog:Program} {w:World} {A:Around} {E:Value->Shared->Prop} {s:Shared}
structure zA (w:World) (es:Array (Int×Value)) (t:SetTable):Prop where
 led:t.led=!(w.params.followText "set-order")
 rise:fg t.place
structure cO (prog:Program) (w:World) (h:Heap) (a:Addr) (es:Array (Int×Value)) (ep:Nat) (t:SetTable):Prop where
 at_:h.get? a=some { cls:=.type "set",dict:=none,data:=.set es ep t,slots:=#[] }
 el:ElemsOf (intKind prog w) es.toList
 small:es.size<scanBound
 fits:t.fits es.size=true
 marks:zA w es t
def Mem(prog:Program)(w:World)(es:Array (Int×Value))(k:Int):Prop:=∃e∈es.toList,(intKind prog w).is k e.2=true
theorem Og{a:Addr}{es:Array (Int×Value)}{ep:Nat}{t:SetTable}{x:Int}{tk:Tok}{Q:Bool->Shared->Prop}(S:cO prog w s.heap a es ep t)(room:es.size+1<scanBound)
  (h:∀h' gw j4 t',Heap.SameBut a s.heap h'->cO prog w h' a gw j4 t'->((gw=es/\Mem prog w es x)\/(¬Mem prog w es x/\List.Perm gw.toList (es.toList++[(hashInt x,.int x tk)])))->∀b,Q b { s with heap:=h' }) :
  wpAny (model prog w) A (setAddHashed a (.int x tk) ((intKind prog w).hash x)) Q E s:=by
 have jP:(intKind prog w).is x (.int x tk)=true:=by show Value.isInt x (.int x tk)=true;simp[Value.isInt]
 have EJ:(Value.int x tk).scannable=true:=rfl;have ho:=S.at_;unfold setAddHashed setAddHashedIn;refine bA (aa (wpAny_setState_of ho rfl S.fits ?_));dsimp only;rw[byScan_of EJ S.small S.el];simp only[↓reduceIte];unfold setAddByScan;refine aa (aa (wpAny_rule (aa (wpAny_setScan_of jP ho rfl S.fits S.el ?_))));cases hr:List.findIdx? (fun e=>(intKind prog w).is x e.2) es.toList with
 | some j=>
  dsimp only;obtain⟨hj,V6,_⟩:=List.findIdx?_eq_some_iff_getElem.mp hr;refine ai (ai ?_);exact h s.heap es ep t (Heap.SameBut.refl a s.heap) S (.inl ⟨rfl,es.toList[j],bI hj,V6⟩) _
 | none=>
  dsimp only;have jF:¬Mem prog w es x:=fun⟨e,he,hp⟩=>by
   have:=List.findIdx?_eq_none_iff.mp hr e he;rw[hp] at this;cases this
  have way:∀(b:Bool) {s1:Shared} {Q':Unit->Shared->Prop},Q' () s1->wpAny (model prog w) A (match b with | true=>rule "set.scan.the-table-gave-way" | false=>pure ()) Q' E s1:=fun b s1 Q' q=>by
   cases b
   ·exact ai q
   ·exact wpAny_rule q
  have jn:=layNew_perm t es ((intKind prog w).hash x) (.int x tk);have nq:=layNew_fits t es ((intKind prog w).hash x) (.int x tk);have rB:=Sa t es ((intKind prog w).hash x) (.int x tk);have m9:=SA S.marks.rise es ((intKind prog w).hash x) (.int x tk);generalize layNew t es ((intKind prog w).hash x) (.int x tk)=L at jn nq rB m9 ⊢;obtain⟨jr,t1,Xl,W8⟩:=L;dsimp only at jn nq rB m9 ⊢;rw[Array.toList_push] at jn;have yZ:ElemsOf (intKind prog w) jr.toList:=(S.el.push jP EJ).perm jn;have hsz:jr.size=es.size+1:=by rw[<-aT,jn.length_eq,a9,aT];rfl
  have sP:jr.size<scanBound:=by omega
  refine aa (way _ ?_)
  -- oF table,not plain any more
  have tail:∀(g:Bool->Sem Unit),(∀(b:Bool) (s1:Shared) (Q':Unit->Shared->Prop),Q' () s1->wpAny (model prog w) A (g b) Q' E s1)->∀t2:SetTable,t2.fits jr.size=true->t2.led=t.led->fg t2.place->wpAny (model prog w) A (do
    storeSet a jr t2
    if (!Xl&&t2.tooFull)=true then do
        g (relayAll t2 jr (SetTable.grown jr.size)).2.2
        storeSet a (relayAll t2 jr (SetTable.grown jr.size)).1 (relayAll t2 jr (SetTable.grown jr.size)).2.1
        pure (some true)
     else pure (some true)) (fun r s'=>wpAny (model prog w) A (match r with | some added=>pure added | none=>setAddHashedIn a (Value.int x tk) ((intKind prog w).hash x) 99999) Q E s') E s:=by
   intro g hg t2 f2 l2 p2;refine aa (I0 ho sP fun h1 JX g1=>?_);have FF:∀b,Q b { s with heap:=h1 }:=h h1 jr _ t2 JX ⟨g1,yZ,sP,f2,⟨l2.trans S.marks.led,p2⟩⟩ (.inr ⟨jF,jn⟩)
   split
   ·have hp:=relayAll_perm t2 jr (SetTable.grown jr.size);have pN:=relayAll_fits t2 jr (SetTable.grown jr.size);have EZ:=SS t2 jr (SetTable.grown jr.size);have EY:=S3 (t:=t2) jr (SetTable.grown jr.size);generalize relayAll t2 jr (SetTable.grown jr.size)=Rl at hp pN EZ EY ⊢;obtain⟨Bm,t3,Lb⟩:=Rl;dsimp only at hp pN EZ EY ⊢;have rl:Bm.size=jr.size:=by rw[<-aT,hp.length_eq,aT]
    refine aa (hg _ _ _ ?_);refine aa (I0 (s:={ s with heap:=h1 }) g1 (by rw[rl];exact sP) fun h2 U8 g2=>ai (ai ?_));exact h h2 Bm _ t3 (JX.trans U8) ⟨g2,yZ.perm hp,by rw[rl];exact sP,pN,⟨(EZ.trans l2).trans S.marks.led,EY⟩⟩ (.inr ⟨jF,hp.trans jn⟩) _
   ·exact ai (ai (FF _))
  by_cases jc:t1.plain=true
  ·rw[if_pos jc];refine aa ?_;rw[hashByValue_scannable 8 EJ];refine ai ?_;have hk:plainKind (.int x tk)=true:=rfl;rw[hk];simp only[bO];exact tail _ (fun b s1 Q' q=>by cases b<;>first | exact ai q | exact wpAny_rule q) t1 nq rB m9
  ·rw[if_neg jc];refine aa (ai ?_);simp only[bO];exact tail _ (fun b s1 Q' q=>by cases b<;>first | exact ai q | exact wpAny_rule q) t1 nq rB m9
noncomputable def keysOf(es:Array (Int×Value)):List Int:=es.toList.map fun e=>zT e.2
theorem HY{es:Array (Int×Value)}(el:ElemsOf (intKind prog w) es.toList)(k:Int):Mem prog w es k↔k∈keysOf es:=by
 unfold Mem keysOf;rw[aH];constructor
 ·rintro⟨e,he,hk⟩;obtain⟨t,ht⟩:=Value.isInt_shape hk;exact⟨e,he,by rw[ht];rfl⟩
 ·rintro⟨e,he,rfl⟩;obtain⟨⟨k,hk,_⟩,_⟩:=el e he;obtain⟨t,ht⟩:=Value.isInt_shape hk;refine⟨e,he,?_⟩;rw[ht];show Value.isInt k (.int k t)=true;simp[Value.isInt]
theorem Rh{es gw:Array (Int×Value)}{x:Int}{tk:Tok}{hs:Int}(p:List.Perm gw.toList (es.toList++[(hs,.int x tk)])):List.Perm (keysOf gw) (keysOf es++[x]):=by
 have:=p.map fun e=>zT e.2
 rw[aJ] at this;exact this
structure Holds (es:Array (Int×Value)) (xs:List Int):Prop where
 nd:(keysOf es).Nodup
 mem:∀x,x∈keysOf es↔x∈xs
 len:es.size<=xs.length
theorem Holds.put{es gw:Array (Int×Value)}{xs:List Int}{x:Int}{tk:Tok}(H:Holds es xs)(el:ElemsOf (intKind prog w) es.toList)
  (h:(gw=es/\Mem prog w es x)\/(¬Mem prog w es x/\List.Perm gw.toList (es.toList++[(hashInt x,.int x tk)]))):Holds gw (xs++[x]):=by
 rcases h with⟨rfl,hm⟩ | ⟨hm,hp⟩
 ·refine⟨H.nd,fun y=>?_,by simp;have:=H.len;omega⟩;rw[aw,<-H.mem,aR];constructor
  ·exact .inl
  ·rintro(h | rfl)
   ·exact h
   ·exact(HY el _).mp hm
 ·have hk:=Rh hp;refine⟨hk.nodup_iff.mpr ?_,fun y=>?_,?_⟩
  ·rw[bJ];refine⟨H.nd,by simp,fun a ha b hb=>?_⟩;rw[aR.mp hb];rintro rfl;exact hm ((HY el _).mpr ha)
  ·rw[hk.mem_iff,aw,aw,H.mem]
  ·have e1:=hk.length_eq;have e2:(keysOf gw).length=gw.size:=by simp[keysOf]
   have e3:(keysOf es).length=es.size:=by simp[keysOf]
   have:=H.len;simp only[a9,aN,List.length_nil] at e1 ⊢;omega
theorem cO.kept{h h':Heap}{a:Addr}{es:Array (Int×Value)}{ep:Nat}{t:SetTable}(S:cO prog w h a es ep t)(k:∀o,h.get? a=some o->h'.get? a=some o):cO prog w h' a es ep t:=⟨k _ S.at_,S.el,S.small,S.fits,S.marks⟩
end
section
variable {prog:Program} {w:World} {A:Around} {R:Result->Shared->Prop} {I:Addr} {fp wr:List Addr} {G:Array GenState->Array GenState->Prop} {n:Nat} {P:Nat->Value->Prop} {St:Nat->Shared->Prop}
theorem Rg(W:WalksS prog w A.in1 I fp wr G n P St)(S:Addr)(j3:S∉fp)(xs:List Int)(hx:xs.length=n)(gR:∀i v,P i v->∃x t,xs[i]?=some x/\v=.int x t)(hb:n+1<scanBound) :
  ∀(k i:Nat) (s:Shared) (es:Array (Int×Value)) (ep:Nat) (t:SetTable),n-i=k->i<=n->St i s->cO prog w s.heap S es ep t->Holds es (xs.take i)->
   (∀s' gw j4 t',Moved (S::wr) G s s'->cO prog w s'.heap S gw j4 t'->Holds gw xs->R (.ok (.ret .none)) s')->codeAny (model prog w) A (.builtin "set.update.loop" ⟨[.ref S,.ref I],[]⟩) R s:=by
 have k8:S∉wr:=fun h=>j3 (W.sub _ h)
 have more:∀b∈wr,b∈S::wr:=fun b hb=>aB _ hb
 intro k;induction k with
 | zero=>
  intro i s es ep t hk hi st T H q;have e:i=n:=by omega
  subst e;refine bM PyProof.Rows.F.entry_set_update_loop ?_;rw[bg PyProof.Rows.F.plain_set_update_loop _];show wpAny _ A.in1 (pyNext (.ref I) >>= _) _ _ s;refine aa (W.done s _ _ st fun s' hm=>?_);show wpAny _ A.in1 (ret Value.none) _ _ s';rw[<-hx,aS] at H;exact ai (q s' es ep t (hm.mono more) (T.kept fun o e=>hm.heap S _ k8 e) H)
 | succ k ih=>
  intro i s es ep t hk hi st T H q;have cS:i<n:=by omega
  refine bM PyProof.Rows.F.entry_set_update_loop ?_;rw[bg PyProof.Rows.F.plain_set_update_loop _];show wpAny _ A.in1 (pyNext (.ref I) >>= _) _ _ s;refine aa (W.item i s _ _ cS st fun v s' hP eG hm=>?_);obtain⟨x,tk,VJ,rfl⟩:=gR i v hP;have T':cO prog w s'.heap S es ep t:=T.kept fun o e=>hm.heap S _ k8 e
  show wpAny _ A.in1 (holding [Value.int x tk] (setAdd S (.int x tk)) >>= _) _ _ s';refine aa (bA ?_);unfold setAdd;refine bA (aa ((intKind prog w).pyHash (k:=x) (by show Value.isInt x (.int x tk)=true;simp[Value.isInt]) ?_));have hl:=H.len;rw[aV] at hl;refine Og (s:={ s' with toks:=s'.toks+1 }) T' (by omega) fun h' gw j4 t' sb T2 rm b=>?_
  have AY:xs.take (i+1)=xs.take i++[x]:=by rw[aK,VJ];rfl
  have H2:Holds gw (xs.take (i+1)):=by rw[AY];exact H.put T.el rm
  refine ai ⟨bT PyProof.Rows.F.plain_set_update_loop _,ih (i+1) _ gw j4 t' (by omega) cS (W.frame _ s' _ _ eG (Nat.le_succ _) fun b hb o e=>?_) T2 H2 fun s2 Bm Lh t2 ng T3 H3=>?_⟩
  ·rw[sb.2 b (fun z:b=S=>j3 (by rw[<-z];exact hb))];exact e
  ·refine q s2 Bm Lh t2 (Moved.trans W.gtrans ((hm.mono more).then_heap (Nat.le_succ _) fun b o hb e=>?_) ng) T3 H3;rw[sb.2 b (fun z:b=S=>hb (by rw[z];exact bj))];exact e
end
section
variable {prog:Program} {w:World} {A:Around} {E:Value->Shared->Prop} {s:Shared}
theorem Of{h:Heap}{a:Addr}(e:h.get? a=some (o3 w)):cO prog w h a #[] 0 (.fresh 0 0 (!(w.params.followText "set-order"))):=
 ⟨e,fun x hx=>by simp at hx,by show 0<4096;decide,by simp[SetTable.fits,SetTable.fresh,SetTable.fill],⟨rfl,by show List.Pairwise _ ([]:List Nat);exact .nil⟩⟩
theorem PN{l:Addr}{items:List Value}{xs:List Int}{Q:Value->Shared->Prop}(hh:A.handled=none)(hl:s.heap.IsList l items.toArray)(hi:IntsAre items xs)(hb:xs.length+1<scanBound)
  (h:∀(h':Heap) (tk:Nat) es ep t,cO prog w h' s.heap.objs.size es ep t->L2.SI.Holds es xs->(∀b o,b<s.heap.objs.size->s.heap.get? b=some o->h'.get? b=some o)->Q (.ref s.heap.objs.size) { s with heap:=h',toks:=tk }) :
  wpAny (model prog w) A (call (.type "set") [.ref l]) Q E s:=by
 obtain⟨c,tl,Wf⟩:=PySem.F.called_set.mro;have KA:=PySem.F.called_set.made;have EF:=PySem.F.called_set.sub;refine wpAny_call (codeAny_of_tree ?_);show wpAny _ _ (callAny (.type "set") _) _ _ _;refine ai ⟨Code.quiet_builtin _ (by decide +kernel),bM PySem.F.entry_type_call ?_⟩;rw[Around.under_plain (weight_type_call_type "set" [.ref l] []) rfl];have h1:=PySem.F.called_set.notType;have h2:=PySem.F.called_set.canCreate;have X0:=PySem.F.typeCall_set_1 (.ref l);repeat(any_goals (first | assumption | wp_step))
 refine codeAny_mono (Pn (.ref l) (E:=E) (Q1:=fun obj s1=>obj=.ref s.heap.objs.size/\s1={ s with heap:=s.heap.push (o3 w) }) ⟨rfl,rfl⟩) fun r s1 hr=>?_
 cases r with
 | error e=>exact hr
 | ok fl=>
  cases fl with
  | ret obj=>
   obtain⟨rfl,rfl⟩:=hr;have hS:(s.heap.push (o3 w)).get? s.heap.objs.size=some (o3 w):=av _ rfl;have hT:Shared.TypeIs { s with heap:=s.heap.push (o3 w) } (.ref s.heap.objs.size) "set":=⟨_,hS,rfl⟩
   have XY:=PySem.F.called_set.init.lookup;have X1:=PySem.F.called_set.init.bind (.ref s.heap.objs.size);repeat(any_goals (first | assumption | wp_step))
   refine codeAny_mono (codeAny_call_builtin (R:=wants (fun r s2=>r=.none/\∃h' tk es ep t,s2={ s with heap:=h',toks:=tk }/\cO prog w h' s.heap.objs.size es ep t/\L2.SI.Holds es xs/\
     (∀b o,b<s.heap.objs.size->s.heap.get? b=some o->h'.get? b=some o)) E) PySem.F.called_set.init.plain PySem.F.entry_set_init (check_set_init_1 hT ?_)) fun r2 s2 yz=>?_
   ·obtain⟨ol,pG,kh,nl,vO⟩:=hl;obtain⟨Vn,xX,J4,tZ⟩:=ol;simp only at kh vO;subst kh vO;have jo:(s.heap.push (o3 w)).get? l=some { cls:=.type "list",dict:=xX,data:=.seq items.toArray nl,slots:=tZ }:=ae _ pG;have VX:=PySem.F.sub_list_set;have VY:=PySem.F.sub_list_frozenset;have cE:(Value.type "list"==Value.type "dict")=false:=by decide
    have qu:(s.heap.push (o3 w)).IsList l items.toArray:=⟨_,jo,rfl,nl,rfl⟩
    unfold Builtin.«set.__init__» noKeywords Builtin.Frozenset.updateFrom;generalize WX:pyIter=PI;wp_walk
    subst WX;refine wpAny_pyIter_list qu (aa (wpAny_runValue ?_));have qt:l<s.heap.objs.size:=ax pG;have Wx:A.in1.in1.in1.handled=none:=by simp[hh]
    have hsz:(s.heap.push (o3 w)).objs.size=s.heap.objs.size+1:=Heap.size_push ..;have pH:l≠(s.heap.push (o3 w)).objs.size:=by rw[hsz];exact aA (bH qt)
    have j3:s.heap.objs.size∉[(s.heap.push (o3 w)).objs.size,l]:=by
     rw[hsz];simp only[aq,br,or_false,not_or];exact⟨aA (Nat.lt_succ_self _),Nat.ne_of_gt qt⟩
    have qr:xs.length=items.toArray.size:=by
     rw[aC];clear pG jo qu h hb;induction hi with
     | nil=>rfl
     | cons _ _ _ ih=>simp[ih]
    have gR:∀(i:Nat) (v:Value),items.toArray[i]?=some v->∃x t,xs[i]?=some x/\v=.int x t:=fun i v hv=>by
     rw[List.getElem?_toArray] at hv;clear pG jo qu h hb qr;induction hi generalizing i with
     | nil=>simp at hv
     | cons x t hr ih=>
      cases i with
      | zero=>simp at hv;exact⟨x,t,rfl,hv.symm⟩
      | succ i=>simp only[aX] at hv ⊢;exact ih i hv
    refine Rg ((Walks.list Wx _ l pH items.toArray).toS) s.heap.objs.size j3 xs qr gR (by omega) (items.toArray.size-0) 0 _ #[] 0 _ (by omega) (ba _)
     ⟨⟨_,av _ rfl,rfl,rfl⟩,(qu.push _)⟩ (Of (ae _ hS)) ⟨by simp[keysOf],by simp[keysOf],by simp⟩ ?hR
    case hR=>
     intro s' es ep t hm T H;obtain⟨h',g',d',mY,t4⟩:=s';have eg:g'=s.gens:=hm.gens;have ed:d'=s.drawn:=hm.drawn;have eo:t4=s.os:=hm.os;subst eg ed eo;show wpAny _ _ _ _ _ _;refine ai ?_;show wpAny _ _ (ret Value.none) _ _ _;refine ai ⟨rfl,h',mY,es,ep,t,rfl,T,H,fun b o hb e=>?_⟩;refine hm.heap b o ?_ (ae _ (ae _ e));rw[hsz];simp only[aq,br,or_false,not_or];exact⟨aA hb,aA (bH hb)⟩
   ·cases r2 with
    | error e=>exact yz
    | ok Xc=>
     cases Xc with
     | ret r=>
      obtain⟨rfl,h',tk,es,ep,t,rfl,T,H,qv⟩:=yz;repeat(any_goals (first | assumption | wp_step))
      exact h _ _ es ep t T H qv
     | _=>exact yz.elim
  | _=>exact hr.elim
end
section
variable {prog:Program} {w:World} {A:Around} {E:Value->Shared->Prop} {s:Shared}
theorem Dp{a:Addr}{es:Array (Int×Value)}{ep:Nat}{t:SetTable}{Q:Array (Int×Value)->Shared->Prop}(S:cO prog w s.heap a es ep t)(h:Q es s):wpAny (model prog w) A (setEntries a) Q E s:=by
 unfold setEntries;exact aa (wpAny_setState_of S.at_ rfl S.fits (ai h))
end
section
variable {prog:Program} {w:World} {A:Around} {E:Value->Shared->Prop} {s:Shared}
theorem Ay{I S:Addr}{es:Array (Int×Value)}{ep:Nat}{t:SetTable}{sl i:Nat}{Q:Option Value->Shared->Prop}(hh:A.handled=none)(hI:s.heap.get? I=some (qe (.int sl 0) i S es.size ep))(T:cO prog w s.heap S es ep t)(r:Option (Value×Nat))
  (hN:∀(Q':Option (Value×Nat)->Shared->Prop) (E':Value->Shared->Prop),Q' r s->wpAny (model prog w) A.in1 (setNext S sl i ep) Q' E' s)
  (hs:∀x j,r=some (x,j)->∀h',Heap.SameBut I s.heap h'->h'.get? I=some (qe (.int j 0) (i+1) S es.size ep)->Q (some x) { s with heap:=h' })
  (hn:r=none->∀h',Heap.ExtBut I s.heap h'->Q none { s with heap:=h' }):wpAny (model prog w) A (pyNext (.ref I)) Q E s:=by
 have hT:s.TypeIs (.ref I) "set_iterator":=⟨_,hI,rfl⟩
 unfold pyNext;refine aa (wpAny_attempt (wpAny_callSpecial?_slot (name:=Str.ofString "__next__") hT fA (wpAny_call_entry fA hT Hv ?_ (Hu _))));show wpAny _ _ (fieldsOf (.ref I) >>= _) _ _ s;refine aa (wpAny_fieldsOf hI rfl ?_);dsimp only;refine aa (Dp T ?_);simp only[bne_self_eq_false,aF,bE];simp only[Int.toNat_natCast];refine aa (hN _ _ ?_);cases r with
 | none=>exact Ij hh hI rfl (by simp) (hn rfl)
 | some p=>
  obtain⟨x,j⟩:=p;dsimp only;refine aa (wpAny_setField_rec hI (by simp) fun h1 g1 b1=>?_);refine aa (wpAny_setField_rec (s:={ s with heap:=h1 }) g1 (by simp) fun h2 g2 b2=>?_);refine ai ⟨x,rfl,ai (hs x j rfl h2 (b1.trans b2) ?_)⟩;rw[g2];simp[rawInt]
theorem HX{I S Tp:Addr}{es:Array (Int×Value)}{ep:Nat}{t:SetTable}{ps:List Nat}{i:Nat}{Q:Option Value->Shared->Prop}(hh:A.handled=none)(hI:s.heap.get? I=some (qe (.ref Tp) i S es.size ep))(T:cO prog w s.heap S es ep t)
  (WV:s.heap.get? Tp=some { cls:=.type "tuple",data:=.seq (ps.map fun(p:Nat)=>rawInt p).toArray })
  (hs:∀p e,ps[i]?=some p->es[p]?=some e->∀h',Heap.SameBut I s.heap h'->h'.get? I=some (qe (.ref Tp) (i+1) S es.size ep)->Q (some e.2) { s with heap:=h' })
  (sL:∀p∈ps,p<es.size) (hn:ps[i]?=none->∀h',Heap.ExtBut I s.heap h'->Q none { s with heap:=h' }):wpAny (model prog w) A (pyNext (.ref I)) Q E s:=by
 have hT:s.TypeIs (.ref I) "set_iterator":=⟨_,hI,rfl⟩
 unfold pyNext;refine aa (wpAny_attempt (wpAny_callSpecial?_slot (name:=Str.ofString "__next__") hT fA (wpAny_call_entry fA hT Hv ?_ (Hu _))));show wpAny _ _ (fieldsOf (.ref I) >>= _) _ _ s;refine aa (wpAny_fieldsOf hI rfl ?_);dsimp only;refine aa (Dp T ?_);simp only[bne_self_eq_false,aF,bE];refine aa (wpAny_seqItems WV rfl ?_);dsimp only;simp only[Int.toNat_natCast,List.getElem?_toArray,ao];cases hp:ps[i]? with
 | none=>
  simp only[Option.map_none];refine aa (wpAny_setField_rec hI (by simp) fun h1 g1 b1=>?_);exact Ij (s:={ s with heap:=h1 }) hh g1 rfl (by simp) fun h' x=>hn hp h' (b1.extBut.trans x)
 | some p=>
  simp only[aM,rawInt,Int.toNat_natCast];have cS:=sL p (ay hp);have he:es[p]?=some es[p]:=by simp[cS]
  unfold setNextDrawn;refine aa (aa (wpAny_setState_of T.at_ rfl T.fits ?_));simp only[bne_self_eq_false,aF,bE,he];refine ai ?_;refine aa (wpAny_setField_rec hI (by simp) fun h1 g1 b1=>?_);refine ai ⟨_,rfl,ai (hs p es[p] hp he h1 b1 ?_)⟩;rw[g1];simp
theorem Jp{S:Addr}{es:Array (Int×Value)}{ep:Nat}{t:SetTable}(T:cO prog w s.heap S es ep t)(sl i:Nat)(hf:w.params.followText "set-order"=true)(Q:Option (Value×Nat)->Shared->Prop)
  (q:Q (((pickOrder (w.params.setOrder S ep) es)[i]?).map fun e=>(e.2,sl)) s):wpAny (model prog w) A (setNext S sl i ep) Q E s:=by
 unfold setNext;refine aa (wpAny_setState_of T.at_ rfl T.fits ?_);dsimp only;unfold setsByText;refine aa (aa (wpAny_askSetting (ai ?_)));rw[show(model prog w).w.params.followText "set-order"=true from hf];simp only[bne_self_eq_false,aF,bE,bO];unfold setWalk;refine aa (aa (wpAny_setState_of T.at_ rfl T.fits ?_));dsimp only;unfold setsByText;refine aa (aa (wpAny_askSetting (ai ?_)));rw[show(model prog w).w.params.followText "set-order"=true from hf];simp only[bO];exact aa (wpAny_askSetting (ai (ai q)))
theorem Cv{I S:Addr}{h h':Heap}{es:Array (Int×Value)}{ep:Nat}{t:SetTable}(T:cO prog w h S es ep t)(cE:S≠I)(b:Heap.SameBut I h h'):cO prog w h' S es ep t:=T.kept fun o e=>by rw[b.2 S cE];exact e
theorem Rf{I S:Addr}{es:Array (Int×Value)}{ep:Nat}{t:SetTable}(cE:S≠I)(hf:w.params.followText "set-order"=true)(hh:A.handled=none) :
  Walks prog w A I [I,S] [I] es.size (Bu ((pickOrder (w.params.setOrder S ep) es).toList.map (·.2))) (fun i h=>h.get? I=some (qe (.int 0 0) i S es.size ep)/\cO prog w h S es ep t):=by
 have hp:=IY (w.params.setOrder S ep) es;have hl:(pickOrder (w.params.setOrder S ep) es).size=es.size:=by rw[<-aT,hp.length_eq,aT]
 refine⟨fun b hb=>by simp at hb;simp[hb],fun i h h' st k=>⟨k I (by simp) _ st.1,st.2.kept (k S (by simp))⟩,fun i s Q E hi st q=>?_,fun s Q E st q=>?_,fun i s Q E st q=>B9 st.1 q⟩
 ·have nk:i<(pickOrder (w.params.setOrder S ep) es).size:=by omega
  refine Ay (sl:=0) hh st.1 st.2 _ (fun Q' E' q'=>Jp st.2 0 i hf Q' q') (fun x j e h' b g=>?_) (fun e=>?_)
  ·rw[bB nk] at e;simp only[aM,aD,Prod.mk.injEq] at e;obtain⟨rfl,rfl⟩:=e;exact q _ h' s.toks (by show(List.map _ _)[i]?=_;rw[ao,Array.getElem?_toList,bB nk];rfl) ⟨g,Cv st.2 cE b⟩ fun c o hc e=>by rw[b.2 c (by simpa using hc)];exact e
  ·rw[bB nk] at e;cases e
 ·refine Ay (sl:=0) hh st.1 st.2 _ (fun Q' E' q'=>Jp st.2 0 _ hf Q' q') (fun x j e=>?_) (fun _ h' b=>q h' s.toks fun c o hc e=>b c o (by simpa using hc) e);rw[Array.getElem?_eq_none (by omega)] at e;cases e
theorem Jo{S:Addr}{es:Array (Int×Value)}{ep:Nat}{t:SetTable}(T:cO prog w s.heap S es ep t)(sl i:Nat)(hf:w.params.followText "set-order"=false)(hd:(!t.plain&&decide (es.size>1))=false)(Q:Option (Value×Nat)->Shared->Prop)
  (q:Q (match es[SetTable.below t.place sl]?,t.place[SetTable.below t.place sl]? with | some (_,x),some j=>some (x,j+1) | _,_=>none) s):wpAny (model prog w) A (setNext S sl i ep) Q E s:=by
 unfold setNext;refine aa (wpAny_setState_of T.at_ rfl T.fits ?_);dsimp only;unfold setsByText;refine aa (aa (wpAny_askSetting (ai ?_)));rw[show(model prog w).w.params.followText "set-order"=false from hf];simp only[aF,bE];have hl:t.led=true:=by rw[T.marks.led,hf];rfl
 refine wpAny_ite_split (fun h=>absurd (show(!t.plain&&decide (es.size>1))=true from h) (by rw[hd];simp)) fun _=>?_
 refine aa ?_;show wpAny _ _ (ite ((!t.led&&!es.isEmpty)=true) _ _) _ _ _;rw[hl];simp only[Bool.not_true,Bool.false_and,aF,bE];exact ai (ai q)
theorem Rc{I S:Addr}{es:Array (Int×Value)}{ep:Nat}{t:SetTable}(cE:S≠I)(hf:w.params.followText "set-order"=false)(hd:(!t.plain&&decide (es.size>1))=false)(hr:fg t.place)(rE:t.fits es.size=true)(hh:A.handled=none) :
  Walks prog w A I [I,S] [I] es.size (Bu (es.toList.map (·.2))) (fun i h=>∃sl:Nat,h.get? I=some (qe (.int sl 0) i S es.size ep)/\cO prog w h S es ep t/\(i<=es.size->SetTable.below t.place sl=i)):=by
 have Kt:t.place.size=es.size:=by
  simp only[SetTable.fits,bF,beq_iff_eq] at rE;exact rE.1
 refine⟨fun b hb=>by simp at hb;simp[hb],fun i h h' st k=>?_,fun i s Q E hi st q=>?_,fun s Q E st q=>?_,fun i s Q E st q=>?_⟩
 ·obtain⟨sl,a,T,b⟩:=st;exact⟨sl,k I (by simp) _ a,T.kept (k S (by simp)),b⟩
 ·obtain⟨sl,a,T,b⟩:=st;have hb:=b (by omega);refine Ay hh a T (some (es[i].2,t.place[i]'(by omega)+1)) (fun Q' E' q'=>Jo T _ _ hf hd Q' ?_) (fun x j ej h' bb g=>?_) (fun z=>nomatch z)
  ·rw[hb,bB hi,bB (by omega)];exact q'
  ·cases ej;exact q _ h' s.toks (by show(List.map _ _)[i]?=_;rw[ao,Array.getElem?_toList,bB hi];rfl) ⟨_,g,Cv T cE bb,fun _=>Rx hr i (by omega)⟩ fun c o hc e=>by rw[bb.2 c (by simpa using hc)];exact e
 ·obtain⟨sl,a,T,b⟩:=st;have hb:=b (az _);refine Ay hh a T none (fun Q' E' q'=>Jo T _ _ hf hd Q' ?_) (fun x j e=>nomatch e) (fun _ h' b=>q h' s.toks fun c o hc e=>b c o (by simpa using hc) e);rw[hb,Array.getElem?_eq_none (az _)];exact q'
 ·obtain⟨sl,a,T,b⟩:=st;exact B9 a q
theorem Ru{I S Tp:Addr}{es:Array (Int×Value)}{ep:Nat}{t:SetTable}{ps:List Nat}(cE:S≠I)(uv:Tp≠I)(hp:ps.Perm (List.range es.size))(hh:A.handled=none) :
  Walks prog w A I [I,Tp,S] [I] es.size (Bu (ps.map fun p=>(es.getD p (0,.none)).2)) (fun i h=>h.get? I=some (qe (.ref Tp) i S es.size ep)/\cO prog w h S es ep t/\h.get? Tp=some { cls:=.type "tuple",data:=.seq (ps.map fun(p:Nat)=>rawInt p).toArray }):=by
 have sL:∀p∈ps,p<es.size:=fun p h=>aP.mp (hp.mem_iff.mp h)
 have hl:ps.length=es.size:=by rw[hp.length_eq,bP]
 refine⟨fun b hb=>by simp at hb;simp[hb],fun i h h' st k=>⟨k I (by simp) _ st.1,st.2.1.kept (k S (by simp)),k Tp (by simp) _ st.2.2⟩,fun i s Q E hi st q=>?_,fun s Q E st q=>?_,fun i s Q E st q=>B9 st.1 q⟩
 ·have nk:i<ps.length:=by omega
  refine HX hh st.1 st.2.1 st.2.2 (fun p e h1 h2 h' b g=>?_) sL (fun z=>by rw[ag nk] at z;cases z);refine q _ h' s.toks ?_ ⟨g,Cv st.2.1 cE b,by rw[b.2 Tp uv];exact st.2.2⟩ fun c o hc e=>by rw[b.2 c (by simpa using hc)];exact e
  show(List.map _ _)[i]?=_;rw[ao,h1];simp[h2]
 ·refine HX hh st.1 st.2.1 st.2.2 (fun p e h1=>?_) sL (fun _ h' b=>q h' s.toks fun c o hc e=>b c o (by simpa using hc) e);rw[List.getElem?_eq_none (by omega)] at h1;cases h1
end
section
variable {prog:Program} {w:World} {A:Around} {E:Value->Shared->Prop} {s:Shared}
structure Laid (prog:Program) (w:World) (h:Heap) (a:Addr) (es:Array (Int×Value)) (I:Addr) (h':Heap):Prop where
 ex:∃(fp:List Addr) (vals:List Value) (St:Nat->Heap->Prop),vals.Perm (es.toList.map (·.2))/\(∀A:Around,A.handled=none->Walks prog w A I fp [I] es.size (Bu vals) St)/\St 0 h'/\∀b∈fp,b=a\/h.objs.size<=b
 old:∀b o,h.get? b=some o->h'.get? b=some o
 new:h.objs.size<=I
 type:∃o,h'.get? I=some o/\o.cls=.type "set_iterator"
theorem PM{a:Addr}{es:Array (Int×Value)}{ep:Nat}{t:SetTable}{Q:Value->Shared->Prop}(T:cO prog w s.heap a es ep t)
  (q:∀(I:Addr) (h':Heap) (d:Drawn),Laid prog w s.heap a es I h'->Q (.ref I) { s with heap:=h',drawn:=d }):wpAny (model prog w) A (pyIter (.ref a)) Q E s:=by
 have hT:s.TypeIs (.ref a) "set":=⟨_,T.at_,rfl⟩
 have cS:a<s.heap.objs.size:=ax T.at_;refine wpAny_pyIter_slot hT PySem.F.slot_set_iter (wpAny_call_entry PySem.F.slot_set_iter hT Pk ?_ (PySem.F.args_set_iter_1 _));show wpAny _ _ (Builtin.Frozenset.sizeOf a >>= _) _ _ s;unfold Builtin.Frozenset.sizeOf;refine aa (aa (Dp T (ai ?_)));unfold setDrawn;refine aa (aa (wpAny_setState_of T.at_ rfl T.fits ?_));dsimp only;unfold setsByText;refine aa (aa (wpAny_askSetting (ai ?_)));refine ai ?_;have here:∀(first:Value) (s1:Shared) (Q1:Fin->Shared->Prop) (T1:cO prog w s1.heap a es ep t),(∀o,o=qe first 0 a es.size ep->Q1 (.done (.ret (.ref s1.heap.objs.size))) { s1 with heap:=s1.heap.push o })->wpAny (model prog w) A.in1 (do
   let e <-setEpoch a
   let v <-newFields "set_iterator" [first,rawInt 0,Value.ref a,rawInt es.size,rawInt e]
   ret v) Q1 E s1:=by
  intro first s1 Q1 T1 q1;refine aa (wpAny_setEpoch_of T1.at_ rfl T1.fits ?_);refine aa (bG (ai (q1 _ rfl)) (by size_fits))
 refine wpAny_ite_split (fun hc=>?_) fun hc=>?_
 ·refine aa (IZ es.size _ _ _ (by simp) fun ps d hp=>?_);have Kt:ps.length<=sizeLine:=by rw[hp.length_eq,bP];exact fits_of_scanBound T.small
  refine aa (wpAny_newTuple ?_ (by rw[af];exact Kt));have T1:cO prog w (s.heap.push { cls:=.type "tuple",data:=.seq (ps.map fun(p:Nat)=>rawInt p).toArray }) a es ep t:=T.kept fun o e=>ae _ e
  refine here _ _ _ T1 fun o ho=>?_
  subst ho;refine⟨_,rfl,"set_iterator",_,⟨_,av _ rfl,rfl⟩,fA.lookup,?_⟩;have hsz:(s.heap.push { cls:=.type "tuple",data:=.seq (ps.map fun(p:Nat)=>rawInt p).toArray }).objs.size=s.heap.objs.size+1:=Heap.size_push ..
  refine q _ _ d ⟨⟨[_,s.heap.objs.size,a],_,_,QT hp,fun A hh=>Ru (t:=t) (by rw[hsz];exact aA (bH cS)) (by rw[hsz];exact aA (Nat.lt_succ_self _)) hp hh,
   ⟨av _ rfl,T1.kept fun o e=>ae _ e,ae _ (av _ rfl)⟩,fun b hb=>?_⟩,fun b o e=>ae _ (ae _ e),by rw[hsz];exact Nat.le_succ _,⟨_,av _ rfl,rfl⟩⟩
  simp only[aq,br,or_false] at hb;rcases hb with rfl | rfl | rfl
  ·right;rw[hsz];exact Nat.le_succ _
  ·right;exact az _
  ·left;rfl
 ·refine aa (ai ?_);refine here _ _ _ T fun o ho=>?_
  subst ho;refine⟨_,rfl,"set_iterator",_,⟨_,av _ rfl,rfl⟩,fA.lookup,?_⟩;have Ld:∀b∈[s.heap.objs.size,a],b=a\/s.heap.objs.size<=b:=fun b hb=>by
   simp only[aq,br,or_false] at hb;rcases hb with rfl | rfl
   ·right;exact az _
   ·left;rfl
  have cE:a≠s.heap.objs.size:=aA cS;have T1:cO prog w (s.heap.push (qe (rawInt 0) 0 a es.size ep)) a es ep t:=T.kept fun o e=>ae _ e
  cases hf:w.params.followText "set-order" with
  | true=>
   exact q _ _ s.drawn ⟨⟨_,_,_,(IY (w.params.setOrder a ep) es).map _,fun A hh=>Rf (t:=t) cE hf hh,⟨av _ rfl,T1⟩,Ld⟩,fun b o e=>ae _ e,az _,⟨_,av _ rfl,rfl⟩⟩
  | false=>
   have y2:¬((!t.plain&&decide (es.size>1))=true):=fun z=>hc (by
    show(!(w.params.followText "set-order")&&(!t.plain&&decide (es.size>1)))=true;rw[hf,z];rfl)
   have hd:(!t.plain&&decide (es.size>1))=false:=by
    cases z:(!t.plain&&decide (es.size>1))
    ·rfl
    ·exact absurd z y2
   exact q _ _ s.drawn ⟨⟨_,_,_,.refl _,fun A hh=>Rc (t:=t) cE hf hd T.marks.rise T.fits hh,⟨0,av _ rfl,T1,fun _=>Rw T.marks.rise⟩,Ld⟩,fun b o e=>ae _ e,az _,⟨_,av _ rfl,rfl⟩⟩
theorem Rt{R:Result->Shared->Prop}{a:Addr}{es:Array (Int×Value)}{ep:Nat}{t:SetTable}(T:cO prog w s.heap a es ep t)(hh:A.handled=none)(S:Addr)(zb:S≠a)(res:Value)(c0:Nat)(hS:s.heap.get? S=some { cls:=.type "list",data:=.seq #[] c0 })
  (hR:∀h' d tk (acc:Array Value) c',(∀b o,b≠S->s.heap.get? b=some o->h'.get? b=some o)->h'.get? S=some { cls:=.type "list",dict:=none,data:=.seq acc c',slots:=#[] }->acc.toList.Perm (es.toList.map (·.2))->R (.ok (.ret res)) { s with heap:=h',drawn:=d,toks:=tk }) :
  wpAny (model prog w) A.in1 (Builtin.List.listExtendWith (.ref S) (.ref a) res) (fun fin s'=>match fin with | .done f=>R (.ok f) s' | .again c'=>c'.quiet=true/\codeAny (model prog w) A c' R s') (fun e s'=>R (.error e) s') s:=by
 have hT:s.TypeIs (.ref a) "set":=⟨_,T.at_,rfl⟩
 have za:S<s.heap.objs.size:=ax hS;unfold Builtin.List.listExtendWith;refine aa (wpAny_typeOf (T:="set") hT ?_);have h1:Builtin.List.listSameRef (.ref S) (.ref a)=false:=by simp[Builtin.List.listSameRef,zb]
 have h2:(Value.type "set"==Value.type "list")=false:=by decide
 have h3:(Value.type "set"==Value.type "tuple")=false:=by decide
 simp only[h1,h2,h3,Bool.or_false,aF,bE];refine aa (PM T fun I h0 d L=>?_);obtain⟨fp,vals,St,hv,W,st,WA⟩:=L.ex;have j3:S∉fp:=fun z=>by
  rcases WA S z with e | e
  ·exact zb e
  ·exact Nat.lt_irrefl _ (aZ za e)
 have X2:S≠I:=fun z=>Nat.lt_irrefl _ (aZ za (z▸L.new))
 have go:∀(h:Heap) (c1 tk:Nat),St 0 h->(∀b o,b≠S->s.heap.get? b=some o->h.get? b=some o)->h.get? S=some { cls:=.type "list",data:=.seq #[] c1 }->
   codeAny (model prog w) A (.builtin "list.extend.loop" ⟨[.ref S,.ref I,res],[]⟩) R { s with heap:=h,drawn:=d,toks:=tk }:=by
  intro h c1 tk gv hk uz;refine codeAny_extend_loopS (W A.in1 hh).toS (fits_of_scanBound T.small) S j3 res es.size 0 _ #[] c1 rfl (ba _) gv uz (ItemsOf.nil _) fun s' jQ c' hm ki gc=>?_
  rw[Moved.eq_with hm];refine hR s'.heap d s'.toks jQ c' (fun b o hb e=>hm.heap b o (fun jO=>?_) (hk b o hb e)) ki ?_
  ·rcases aq.mp jO with e' | jO
   ·exact hb e'
   ·exact absurd (ax e) (by rw[aR.mp jO];exact Nat.not_lt.mpr L.new)
  ·have e:jQ.toList=vals:=by
    apply List.ext_getElem?;intro j;by_cases hj:j<jQ.size
    ·have:=gc.2 j jQ[j] (by simp[hj]);rw[this];simp[hj]
    ·have ui:vals.length=es.size:=by rw[hv.length_eq];simp
     have:=gc.1;rw[List.getElem?_eq_none (by simp;omega),List.getElem?_eq_none (by omega)]
   rw[e];exact hv
 have uA:=L.old _ _ hS;refine aa (bA (Pj (s:={ s with heap:=h0,drawn:=d }) ⟨_,L.old _ _ T.at_,rfl⟩ ?_));refine wpAny_ite_split (fun _=>?_) (fun _=>ai ⟨bT PySem.F.plain_extend_loop _,go _ c0 _ st (fun b o _ e=>L.old b o e) uA⟩);refine aa (wpAny_rule (aa ?_));show wpAny _ _ (updateSeq S (·.push .none) >>= fun _=>updateSeq S (·.pop)) _ _ _;refine aa (wpAny_updateSeq uA rfl ?_);have zc:=bS (Obj.mapSeq (·.push Value.none)) uA rfl;refine wpAny_updateSeq (hz:=by seq_fits) zc rfl ?_;have Fx:=bS (Obj.mapSeq (·.pop)) zc rfl;refine ai ⟨bT PySem.F.plain_extend_loop _,go _ _ _ ?_ (fun b o hb e=>?_) Fx⟩
 ·refine(W A.in1 hh).frame 0 _ _ st fun b hb o e=>?_
  have pP:b≠S:=fun h=>j3 (h▸hb)
  exact(aU _ _ (Ne.symm pP)).trans ((aU _ _ (Ne.symm pP)).trans e)
 ·exact(aU _ _ (Ne.symm hb)).trans ((aU _ _ (Ne.symm hb)).trans (L.old _ _ e))
end
end SI
end L2
namespace L2
open PySem PySem.Spec PyProof.Rows
def AJ:dZ:=fun ds Q=>match ds with
 | [.lst es]=>match jK es with
  | some ss=>ss.length<4000/\(∀l:List Int,l.Nodup->(∀w∈l,w∈ss)->l.length<64)/\∀l:List Int,l.Nodup->(∀w,w∈l↔w∈ss)->l.Pairwise (·<=·)->Q (.ow (l.map D.int))
  | none=>False
 | _=>False
namespace SI
section
variable {prog:Program} {w:World} {A:Around} {E:Value->Shared->Prop} {s:Shared}
theorem Sy{R:List Value->Shared->Prop}{a:Addr}{es:Array (Int×Value)}{ep:Nat}{t:SetTable}(T:cO prog w s.heap a es ep t)(hh:A.handled=none)
  (h:∀(h':Heap) (d:Drawn) (tk:Nat) (vs:List Value),s.heap.objs.size<h'.objs.size->(∀b o,s.heap.get? b=some o->h'.get? b=some o)->vs.Perm (es.toList.map (·.2))->R vs { s with heap:=h',drawn:=d,toks:=tk }):wpAny (model prog w) A (collect (.ref a)) R E s:=by
 have cS:a<s.heap.objs.size:=ax T.at_;unfold collect;refine aa (wpAny_runValue (bM entry_proto_collect' ?_));rw[bg PySem.F.plain_proto_collect _];show wpAny _ A.in1 (newList [] >>= fun l=>again (.builtin "list.__iadd__" ⟨[l,.ref a],[]⟩)) _ _ s;refine aa (bG (ai ⟨bT PySem.F.plain_list_iadd _,bM entry_list_iadd' ?_⟩));rw[bg PySem.F.plain_list_iadd _];have uz:(s.heap.push { cls:=.type "list",data:=.seq ([]:List Value).toArray }).get? s.heap.objs.size=some { cls:=.type "list",data:=.seq #[] }:=av _ rfl;show wpAny _ A.in1 (Builtin.List.listExtendWith (.ref s.heap.objs.size) (.ref a) (.ref s.heap.objs.size)) _ _ _;have key:=Rt (A:=A) (s:={ s with heap:=s.heap.push { cls:=.type "list",data:=.seq ([]:List Value).toArray } })
  (R:=fun(q:Result) (s':Shared)=>∃(h':Heap) (d:Drawn) (tk:Nat) (acc:Array Value) (c':Nat),q=.ok (.ret (.ref s.heap.objs.size))/\s'={ s with heap:=h',drawn:=d,toks:=tk }/\
   (∀b o,s.heap.get? b=some o->h'.get? b=some o)/\h'.get? s.heap.objs.size=some { cls:=.type "list",dict:=none,data:=.seq acc c',slots:=#[] }/\acc.toList.Perm (es.toList.map (·.2)))
  (T.kept fun o e=>ae _ e) hh s.heap.objs.size (Nat.ne_of_gt cS) (.ref s.heap.objs.size) 0 uz
  (fun h' d tk acc c' hk ki gc=>⟨h',d,tk,acc,c',rfl,rfl,fun b o e=>hk b o (aA (ax e)) (ae _ e),ki,gc⟩)
 refine wpAny_mono key (fun fin s' x=>?_) fun e s' x=>?_
 ·cases fin with
  | done f=>
   obtain⟨h',d,tk,acc,c',e,rfl,hk,ki,gc⟩:=x;cases e;show wpAny _ A (load s.heap.objs.size >>= _) _ _ _;exact aa (wpAny_load ki (ai (h h' d tk acc.toList (ax ki) hk gc)))
  | again c1=>
   refine⟨x.1,codeAny_mono x.2 fun q s2 y=>?_⟩;obtain⟨h',d,tk,acc,c',rfl,rfl,hk,ki,gc⟩:=y;show wpAny _ A (load s.heap.objs.size >>= _) _ _ _;exact aa (wpAny_load ki (ai (h h' d tk acc.toList (ax ki) hk gc)))
 ·obtain⟨_,_,_,_,_,e',_⟩:=x;cases e'
theorem Jn:∀{vs:List Value},(∀v∈vs,∃x t,v=.int x t)->IntsAre vs (vs.map zT)
 | [],_=>.nil
 | v::r,h=>by
  obtain⟨x,t,rfl⟩:=h v (by simp);exact .cons x t (Jn fun u hu=>h u (by simp[hu]))
theorem Rr{a:Addr}{es:Array (Int×Value)}{ep:Nat}{t:SetTable}{Q:Value->Shared->Prop}(T:cO prog w s.heap a es ep t)(hh:A.handled=none)(vP:es.size<64)
  (h:∀(p:Addr) (h':Heap) (d:Drawn) (tk:Nat) (out:Array Value) (e:Nat) (ns:List Int),s.heap.objs.size<=p->(∀b o,s.heap.get? b=some o->h'.get? b=some o)->h'.get? p=some (seqObj "list" out e)->IntsAre out.toList ns->ns.Perm (keysOf es)->ns.Pairwise (·<=·)->Q (.ref p) { s with heap:=h',drawn:=d,toks:=tk }) :
  wpAny (model prog w) A (call (.builtin "sorted") [.ref a]) Q E s:=by
 refine Calls.call_function_entry kind_sorted plain_sorted entry_sorted (args_sorted1 _) ?_;unfold Builtin.«sorted»;refine aa (m:=checkCount "sorted" 1 1 _) (ai (aa (Sy (A:=A.in1) T hh fun h' d tk vs cS hk hp=>?_)));have ui:vs.length=es.size:=by rw[hp.length_eq];simp
 have VP:∀v∈vs,∃x t,v=.int x t:=fun v hv=>by
  obtain⟨e,he,rfl⟩:=aH.mp (hp.mem_iff.mp hv);obtain⟨⟨k,hk,_⟩,_⟩:=T.el e he;obtain⟨t,ht⟩:=Value.isInt_shape hk;exact⟨k,t,ht⟩
 have hI:=Jn VP;refine aa (wpAny_newList ?_ (by rw[ui];exact fits_of_scanBound T.small));have oH:(h'.push (seqObj "list" vs.toArray 0)).get? h'.objs.size=some (seqObj "list" vs.toArray 0):=av _ rfl;refine aa (bA (wpAny_call_entry slot_list_sort ⟨_,oH,rfl⟩ entry_list_sort (list_sort_tree (s:={ s with heap:=h'.push (seqObj "list" vs.toArray 0),drawn:=d,toks:=tk }) oH hI (by omega) fun out sx b1 b2 b3=>⟨_,rfl,?_⟩) (args_list_sort _)));obtain⟨en,yY⟩:=sortedHeap_at (out:=out) oH;have hle:s.heap.objs.size<=h'.objs.size:=Nat.le_of_lt cS;refine ai ⟨_,rfl,h _ _ d tk _ en sx hle (fun b o e=>?_) yY b1 (b2.trans ?_) b3⟩
 ·have e1:=hk b o e;have hb:b<h'.objs.size:=ax e1;rw[sortedHeap_old (aA hb) (by rw[size_push'];exact bH hb)];exact ae _ e1
 ·have:=hp.map zT;rw[aE] at this;exact this
end
section
variable {X:Cx} {pos:Pos} {e:Expr} {te:TD} {ts:jG} {t:TA}
def Rb(K:PySem.W.Frag)(t:TA):TE:=fun σ H Q=>t σ H fun vs H1=>∃(p:Addr) (ss:List Int),vs=[.ref p]/\dY K H1 p (ss.map V.int)/\ss.length<4000/\(∀l:List Int,l.Nodup->(∀x∈l,x∈ss)->l.length<64)/\
 ∀l:List Int,l.Nodup->(∀x,x∈l↔x∈ss)->l.Pairwise (·<=·)->∀q,H1 q=none->Q (.ref q) (upd H1 q (.lst (l.map V.int)))
theorem Sx{p1 p2 ke:Pos}(hc:X.calm=true)(E8:X.mg "sorted"=none)(ng:X.mg "set"=none)(ha:PA X [e] t)(yX:Gl X "sorted":=by rfl)(rD:Gl X "set":=by rfl)
  (he:starEach [e] X.env=(false,eval e X.env)::starEach [] X.env:=by rfl) (Bk:starEach [.Call (.Name "set" p2) [e] [] ke] X.env=(false,eval (.Call (.Name "set" p2) [e] [] ke) X.env)::starEach [] X.env:=by rfl) :
  PE X (.Call (.Name "sorted" p1) [.Call (.Name "set" p2) [e] [] ke] [] pos) (Rb X.K t):=by
 intro pins s σ H Q I h;refine wpAny_Call_Name_kw (qh I yX E8 boot_sorted ?_ (by decide) (by decide));refine PyProof.Rows.callWith_builtin1 ?_ Bk rfl;rw[Bk];show wpAny _ _ (spliced ((false,eval (.Call (.Name "set" p2) [e] [] ke) X.env)::backTo pos (starEach [] X.env))) _ _ s;refine Calls.spliced_cons ?_;refine wpAny_Call_Name_kw (qh I rD ng QU ?_ (by decide) (by decide));refine PyProof.Rows.callWith_type1 (cL (ha ke pins s σ H _ I h) fun us s1 cq=>?_) he rfl;obtain⟨vs,H1,I1,r1,q1⟩:=cq;obtain⟨p,ss,rfl,hq,hn,vP,q⟩:=q1;obtain⟨u,rfl,ru⟩:=j8 r1;cases ru;obtain⟨its,rv,pl,hz⟩:=I1.list hq;have hS:=sh rv;refine PN (I1.ok.hd hc) pl.isList hS (by rw[show scanBound=4096 from rfl];omega) fun h1 AY es ep tb T Hd mB=>?_
 have I2:Inv X pins σ H1 { s1 with heap:=h1,toks:=AY }:=I1.kept fun b o e=>mB b o (ax e) e
 refine Calls.spliced_nil ?_;have hsz:es.size<64:=by
  have:=vP (keysOf es) Hd.nd fun x hx=>(Hd.mem x).mp hx
  simpa[keysOf] using this
 refine Rr (s:={ s1 with heap:=h1,toks:=AY }) T (I1.ok.hd hc) hsz fun pp h2 d tO out en xU hp mz mF VV vH VW=>?_
 have Wa:xU.Nodup:=vH.nodup_iff.mpr Hd.nd;have Wn:xU.length<64:=by rw[vH.length_eq];simpa[keysOf] using hsz
 have hf:H1 pp=none:=I2.cN.fresh hp;refine⟨.ref pp,upd H1 pp (.lst (xU.map V.int)),?_,rfl,q xU Wa (fun x=>by rw[vH.mem_iff];exact Hd.mem x) VW pp hf⟩;have I3:=Inv.laid (t':=tO) (Inv.draw I2 d) (h':=h2) (a:=pp) (o:=.lst (xU.map V.int)) mz hp ?_
 ·exact I3
 ·refine⟨by rw[af];have:=Po;omega,out.toList,en,C0 VV,?_⟩;rw[Array.toArray_toList];exact mF
theorem k7{p1 p2 ke:Pos}(hc:X.calm=true)(E8:X.mg "sorted"=none)(ng:X.mg "set"=none)(ha:nz X [e] ts)(yX:Gl X "sorted":=by rfl)(rD:Gl X "set":=by rfl)
  (he:starEach [e] X.env=(false,eval e X.env)::starEach [] X.env:=by rfl) (Bk:starEach [.Call (.Name "set" p2) [e] [] ke] X.env=(false,eval (.Call (.Name "set" p2) [e] [] ke) X.env)::starEach [] X.env:=by rfl) :
  PD X (.Call (.Name "sorted" p1) [.Call (.Name "set" p2) [e] [] ke] [] pos) (fU AJ ts):=by
 obtain⟨t,pp,q⟩:=ha;refine⟨_,Sx hc E8 ng pp yX rD he Bk,fun ρ σ G0 H0 G H Q P E h k=>q ρ σ G0 H0 G H _ _ E h fun vs H' ds G' x rs hq=>?_⟩;unfold AJ at hq;split at hq
 ·split at hq
  ·rename_i es ss hs;obtain⟨v,rfl,rv⟩:=kG rs;simp only[Rep] at rv;obtain⟨a,xs,rfl,h1,h2⟩:=rv;rw[tM hs] at h2;rw[tF h2] at h1;refine⟨a,ss,rfl,(x.s.fb h1).sq,hq.1,hq.2.1,fun l nd hm so=>?_⟩;exact vd x.s (Ja l) (hq.2.2 l nd hm so) fun v H2 r G2 x2 rr qq=>k v H2 r G2 (x.trans x2) (rr.jl x.h) qq
  ·exact hq.elim
 ·exact hq.elim
end
end SI
end L2
namespace L2
open PySem PySem.Spec PyProof.Rows
end L2
namespace L2
open PySem PySem.Spec PyProof.Rows
section
variable {P:Program} {w:World} {K:PySem.W.Frag} {mg:Str->Option Value} {base:Heap}
theorem gL{x:Str}{st:Stmt}{N ps:List Str}{t:dZ}{T:TX}{n d:Nat}(k:Nat)(A:At K mg x st)(S:ck N ps (bZ st))
  (body:∀(f:Addr) (cT:Value) (A:Around) (outer:List Env) (s:Shared) (H:Hp) (E:XK),eQ k (A.deeper (envOfC x (bZ st) s.heap.objs.size f cT))->lC (qc oe P w K mg base N x (bZ st) f cT A outer s H E).sy (dy st) T)
  (spec:∀(ds:List D) (Qr:R->Prop),ds.length=n->t ds Qr->T { nx:=fun _=>Qr (.fz .non),rt:=Qr } (fR N ds))
  (b:∀(kV doc pm:Value) (an:Option Addr) (cT ct:Value) (us:List Value),us.length=n->bindArgs (PySem.W.fnOf x x (fE st) (dy st) (bZ st) .none kV doc pm an cT ct) ⟨us,[]⟩=pure (ps.zip us)) (hn:ps.length=n:=by rfl) (hd:k+1=d:=by rfl):Known P w K mg base d x n t:=by
 subst hn hd;obtain⟨f,fd,F,hm⟩:=A.ex;exact⟨f,fd,ps,HQ F S (body f) spec,hm,F.kp,F.binds b⟩
end
end L2
namespace L2
open PySem PySem.Spec PyProof.Rows
noncomputable def F1(a:Addr)(ks:List (Key×V))(ep:Nat):It:=⟨fun i H=>i<ks.length/\H a=some (.dK ks ep),fun i H v H'=>∃t k x,v=.ref t/\H t=none/\ks[i]?=some (k,x)/\H'=upd H t (.tup [kV k,x]),fun i H=>i=ks.length/\H a=some (.dK ks ep)⟩
theorem Sw:entryFor table "dict_itemiterator.__iter__"=some Builtin.«dict_keyiterator.__iter__»:=entryFor_alias (id':="dict_keyiterator.__iter__") (by kernel_rfl) rfl (by decide +kernel) (by kernel_rfl)
theorem Rq{P:Program}{w:World}{K:PySem.W.Frag}{elts:List Expr}{x1}{pos:Pos}{a it:Addr}{ks:List (Key×V)}{ep:Nat}:Turn P w K (.Tuple elts x1 pos) (F1 a ks ep) [it] it (fun i h=>∃ok ov,IsItemIter h it a i ks.length ep ok ov) where
 mem:=by simp
 obj:=fun i h st b hb=>by
  have e:b=it:=by simpa using hb
  subst e;obtain⟨_,_,h1⟩:=st;exact⟨_,h1,fun v z=>by have z':Data.fields _=Data.cell v:=z;cases z'⟩
 keep:=fun i h h' st k=>by
  obtain⟨ok,ov,h1⟩:=st;exact⟨ok,ov,k it (by simp) _ h1⟩
 item:=by
  intro X hP hw hK hc i pins s σ H E I hf st hg;subst hP hw hK;obtain⟨hi,ha⟩:=(show i<ks.length/\H a=some (.dK ks ep) from hg)
  obtain⟨z,hd,vs,rel,dat⟩:=tj I.cN (.inl ha);have hlen:ks.length=vs.length:=rel.length;obtain⟨ok,ov,h1⟩:=st;rw[hlen] at h1;have vD:vs[i]?=some (vs[i]'(by omega)):=ag (by omega);obtain⟨x,hx,rx⟩:=Gu rel i (k:=(vs[i]'(by omega)).1) (v:=(vs[i]'(by omega)).2) vD;refine wpAny_pyNext_items_item h1 dat vD fun key h' hk e1 e3 e4 kk=>?_
  refine⟨_,rfl,wpAny_letOwnedTupleGo_items e1 fun rH e5 sb=>?_⟩;have yu:s.heap.objs.size≠it:=Nat.ne_of_gt (ax h1);have hT:=sb.extBut _ _ yu e3;have dD:H s.heap.objs.size=none:=I.cN.fresh (az _);have new:cU X.prog X.w (upd H s.heap.objs.size (.tup [kV (vs[i]'(by omega)).1,x])) rH s.heap.objs.size (.tup [kV (vs[i]'(by omega)).1,x]):=⟨B3,[key,(vs[i]'(by omega)).2],.cons (HF hk) (.cons rx .nil),⟨_,hT,rfl,_,rfl⟩⟩
  refine⟨.ref s.heap.objs.size,_,I.iy (fp:=[it]) (fun b o hb q=>sb.extBut b o (fun z=>hb (by simp[z])) (kk b o (fun z=>hb (by simp[z])) q)) hf (az _) new,rfl,
   ⟨_,_,x,rfl,dD,hx,rfl⟩,⟨_,_,by rw[hlen];exact e5⟩,B2 (fun b hb=>(hf b hb).1) fun b hb=>?_⟩
  have z:b=it:=by simpa using hb
  rw[z];exact yu.symm
 done:=by
  intro X hP hw hK hc i pins s σ H E I hf st hg;subst hP hw hK;obtain⟨hi,ha⟩:=(show i=ks.length/\H a=some (.dK ks ep) from hg)
  obtain⟨z,hd,vs,rel,dat⟩:=tj I.cN (.inl ha);have hlen:ks.length=vs.length:=rel.length;obtain⟨ok,ov,h1⟩:=st;subst hi;rw[hlen] at h1;exact wpAny_pyNext_items_end (I.ok.hd hc) h1 dat (by simp) fun h' eb=>⟨rfl,I.fw (fp:=[it]) (t':=s.toks) (fun b o hb q=>eb b o (fun z=>hb (by simp[z])) q) hf⟩
 self:=fun A i s Q E st q=>by
  obtain⟨ok,ov,h1⟩:=st;have hT:s.TypeIs (.ref it) "dict_itemiterator":=⟨_,h1,rfl⟩
  refine wpAny_pyIter_slot hT PySem.F.slot_dict_itemiterator_iter (wpAny_call_entry PySem.F.slot_dict_itemiterator_iter hT Sw ?_ (PySem.F.args_dict_itemiterator_iter_1 _));show wpAny _ _ (ret (.ref it)) _ _ s;exact ai ⟨_,rfl,"dict_itemiterator",_,hT,PySem.F.slot_dict_itemiterator_next.lookup,q⟩
section
variable {X:Cx} {elts:List Expr} {x1:Nat} {mn:Pos}
def Mz(tl:TE):TI:=fun σ H R=>tl σ H fun x H1=>∃a ks ep,x=.ref a/\H1 a=some (.dK ks ep)/\R (F1 a ks ep) H1
theorem PL{o:Expr}{to:TE}{apos de:Pos}(ho:PE X o to)(f9:attributeBase o "items" X.env (eval o X.env)=eval o X.env:=by rfl)(f7:(apos.endLine==de.line)=true:=by rfl) :
  PI X (.Tuple elts x1 mn) (.Call (.Attribute o "items" apos) [] [] de) (Mz to):=by
 intro pins s σ H R I h;refine wpAny_Call_method0_late f9 f7 (cL (ho pins s σ H _ I h) fun v s1 cq=>?_);obtain⟨x,H1,I1,r1,a,ks,ep,ex,hk,q⟩:=cq;subst ex;obtain⟨h1,h2⟩:=Af (T:="dict") I1 r1 (.inr (.inr (.inl ⟨rfl,.inl ⟨ks,ep,hk⟩⟩)));obtain rfl:v=Value.ref a:=r1;refine⟨"dict","dict.items",PySem.F.plainAttrs_dict,PySem.F.slot_dict_items,PySem.F.type_dict_items,h1,h2,Calls.callWith_builtin rfl (PySem.evalArgs_none ?_)⟩;obtain⟨z,hd,vs,rel,dat⟩:=tj I1.cN (.inl hk);have hlen:ks.length=vs.length:=rel.length;obtain⟨o',es,i4,r5⟩:=id dat;refine call_meetsIn PySem.F.slot_dict_items h1 PySem.F.entry_dict_items (PySem.F.args_dict_items_1 _) (meets_dict_items (gZ X.prog X.w) a hd) ⟨⟨vs,⟨o',es,ep,i4,r5⟩⟩,?_⟩;have Ey:(s1.heap.push { cls:=.type "dict_items",data:=.fields #[.ref a] }).IsItemsView s1.heap.objs.size a:=⟨_,av _ rfl,rfl,rfl⟩
 have uD:(s1.heap.push { cls:=.type "dict_items",data:=.fields #[.ref a] }).DictAt (gZ X.prog X.w) a vs ep:=⟨o',es,ae _ i4,r5⟩
 refine wpAny_pyIter_items Ey uD ?_;refine⟨_,[_],_,_,H1,rfl,(I1.kept (t':=s1.toks) fun b o e=>ae _ e).kept (t':=s1.toks) fun b o e=>ae _ e,Rq,⟨.none,.none,by rw[hlen];exact av _ rfl⟩,fun b hb=>?_,q⟩;have e:b=(s1.heap.push { cls:=.type "dict_items",data:=.fields #[.ref a] }).objs.size:=by simpa using hb
 subst e;rw[Heap.size_push];exact I1.kl (Nat.le_succ _) (I1.cN.fresh (Nat.le_succ _))
theorem cf.at{K:PySem.W.Frag}{G:Hp}:∀{ks:List (Key×V)} {kvs:List (Key×D)},cf K G ks kvs->∀(i:Nat) {k:Key} {x:V},ks[i]?=some (k,x)->∃d,kvs[i]?=some (k,d)/\Rep K G x d
 | [],[],_,i,_,_,h=>by simp at h
 | (k',v)::ks,(k2,d)::kvs,r,i,k,x,h=>by
  simp only[cf] at r;cases i with
  | zero=>
   simp only[aW,aD,Prod.mk.injEq] at h;obtain⟨rfl,rfl⟩:=h;exact⟨d,by rw[r.1.1];rfl,r.1.2⟩
  | succ i=>exact cf.at r.2 i (by simpa using h)
 | [],_::_,r,_,_,_,_=>by simp only[cf] at r
 | _::_,[],r,_,_,_,_=>by simp only[cf] at r
theorem Rp{K:PySem.W.Frag}{G:Hp}{a:Addr}{ks:List (Key×V)}{ep:Nat}{kvs:List (Key×D)}(h:G a=some (.dK ks ep))(r:cf K G ks kvs):oq K (F1 a ks ep) G (kvs.map fun p=>.tup [pY p.1,p.2]):=by
 have hl:=r.length;refine⟨fun i d G' H' hd s1 s2=>?_,fun G' H' s1 s2=>⟨by rw[af];exact hl.symm,s2 _ _ (s1 _ _ h)⟩⟩;rw[ao] at hd;have hi:i<kvs.length:=by
  cases e:kvs[i]? with
  | none=>rw[e] at hd;cases hd
  | some p=>exact(aj.mp e).1
 refine⟨⟨by omega,s2 _ _ (s1 _ _ h)⟩,fun v H2 hy=>?_⟩;obtain⟨t,k,x,rfl,ht,hx,rfl⟩:=hy;have x2:Ext G' H' (upd G' t (.tup [kV k,x])) (upd H' t (.tup [kV k,x])):=.new s2 ht;obtain⟨d',n4,rd⟩:=r.at i hx;rw[n4] at hd;simp only[aM,aD] at hd;rw[<-hd];exact⟨_,x2,CU (fQ.of fk) (HE k) ((rd.mono s1).mono x2.g)⟩
def BW(te:TD):iW:=fun ρ Q=>te ρ fun r=>match r.val with
 | .dic kvs=>Q (kvs.map fun p=>.tup [pY p.1,p.2])
 | _=>False
theorem Qw{o:Expr}{te:TD}{apos de:Pos}(h:PD X o te)(f9:attributeBase o "items" X.env (eval o X.env)=eval o X.env:=by rfl)(f7:(apos.endLine==de.line)=true:=by rfl):PId X (.Tuple elts x1 mn) (.Call (.Attribute o "items" apos) [] [] de) (BW te):=by
 obtain⟨t,p,q⟩:=h;refine⟨_,PL p f9 f7,fun ρ σ G0 H0 G H Q P E h k=>q ρ σ G0 H0 G H _ _ E h fun v H' r G' x rr hq=>?_⟩;obtain⟨G2,x2,rv,_⟩:=rr.freeze x;split at hq
 ·rename_i kvs e;rw[e] at rv;simp only[Rep] at rv;obtain⟨a,ks,ep,rfl,h1,h2⟩:=rv;exact⟨a,ks,ep,rfl,x2.s _ _ h1,k _ H' _ G2 x2 (Rp h1 h2) hq⟩
 ·exact hq.elim
end
end L2
namespace L2
open PySem PySem.Spec PyProof.Rows
end L2
namespace Ts
open PySem PySem.W PyProof.Rows
end Ts
namespace L2
open PySem PySem.Spec PyProof.Rows
end L2
namespace L2
open PySem PySem.Spec PyProof.Rows
end L2
namespace L2
open PySem PySem.Spec PyProof.Rows
theorem qG{α:Type}{l:List α}{n:Nat}(h:l.length=n+1):∃a r,l=a::r/\r.length=n:=by
 cases l with
 | nil=>cases h
 | cons a r=>exact⟨a,r,rfl,Nat.succ.inj h⟩
theorem Lv{α:Type}{l:List α}(h:l.length=0):l=[]:=List.eq_nil_of_length_eq_zero h
theorem F9{α:Type}{l:List α}(h:l.length=1):∃a0,l=[a0]:=by
 obtain⟨a,r,e,h⟩:=qG h;exact⟨a,by rw[e,Lv h]⟩
theorem F8{α:Type}{l:List α}(h:l.length=2):∃a0 a1,l=[a0,a1]:=by
 obtain⟨a,r,e,h⟩:=qG h;obtain⟨b0,e2⟩:=F9 h;exact⟨a,b0,by rw[e,e2]⟩
theorem F7{α:Type}{l:List α}(h:l.length=3):∃a0 a1 a2,l=[a0,a1,a2]:=by
 obtain⟨a,r,e,h⟩:=qG h;obtain⟨b0,b1,e2⟩:=F8 h;exact⟨a,b0,b1,by rw[e,e2]⟩
theorem F6{α:Type}{l:List α}(h:l.length=4):∃a0 a1 a2 a3,l=[a0,a1,a2,a3]:=by
 obtain⟨a,r,e,h⟩:=qG h;obtain⟨b0,b1,b2,e2⟩:=F7 h;exact⟨a,b0,b1,b2,by rw[e,e2]⟩
theorem Lu{α:Type}{l:List α}(h:l.length=5):∃a0 a1 a2 a3 a4,l=[a0,a1,a2,a3,a4]:=by
 obtain⟨a,r,e,h⟩:=qG h;obtain⟨b0,b1,b2,b3,e2⟩:=F6 h;exact⟨a,b0,b1,b2,b3,by rw[e,e2]⟩
theorem Ls{α:Type}{l:List α}(h:l.length=6):∃a0 a1 a2 a3 a4 a5,l=[a0,a1,a2,a3,a4,a5]:=by
 obtain⟨a,r,e,h⟩:=qG h;obtain⟨b0,b1,b2,b3,b4,e2⟩:=Lu h;exact⟨a,b0,b1,b2,b3,b4,by rw[e,e2]⟩
theorem Lr{α:Type}{l:List α}(h:l.length=7):∃a0 a1 a2 a3 a4 a5 a6,l=[a0,a1,a2,a3,a4,a5,a6]:=by
 obtain⟨a,r,e,h⟩:=qG h;obtain⟨b0,b1,b2,b3,b4,b5,e2⟩:=Ls h;exact⟨a,b0,b1,b2,b3,b4,b5,by rw[e,e2]⟩
theorem Lq{α:Type}{l:List α}(h:l.length=8):∃a0 a1 a2 a3 a4 a5 a6 a7,l=[a0,a1,a2,a3,a4,a5,a6,a7]:=by
 obtain⟨a,r,e,h⟩:=qG h;obtain⟨b0,b1,b2,b3,b4,b5,b6,e2⟩:=Lr h;exact⟨a,b0,b1,b2,b3,b4,b5,b6,by rw[e,e2]⟩
theorem Xz{α:Type}{l:List α}(h:l.length=9):∃a0 a1 a2 a3 a4 a5 a6 a7 a8,l=[a0,a1,a2,a3,a4,a5,a6,a7,a8]:=by
 obtain⟨a,r,e,h⟩:=qG h;obtain⟨b0,b1,b2,b3,b4,b5,b6,b7,e2⟩:=Lq h;exact⟨a,b0,b1,b2,b3,b4,b5,b6,b7,by rw[e,e2]⟩
end L2
section
namespace Wc
open PySem L2
noncomputable def gW(l:List Nat):Str:=⟨l.toArray⟩
theorem Ak(l:List Nat):(gW l).cps.toList=l:=by simp[gW]
theorem lW(l:List Nat):(gW l).length=l.length:=by simp[gW,Str.length]
theorem tL(a b:List Nat):gW a++gW b=gW (a++b):=by
 show(⟨(gW a).cps++(gW b).cps⟩:Str)=_;simp[gW]
theorem rf{a b:List Nat}:gW a=gW b↔a=b:=by
 constructor
 ·intro h;have:(gW a).cps.toList=(gW b).cps.toList:=by rw[h]
  simpa[gW] using this
 ·rintro rfl;rfl
theorem sD(c:Nat):(⟨#[c]⟩:Str)=gW [c]:=rfl
theorem nJ{α β:Type}(f:α->β)(l:List α)(i:Int):di (l.map f) i=(di l i).map f:=by
 unfold di;rw[af];cases kf l.length i with
 | none=>rfl
 | some j=>simp
theorem My{α β:Type}{f:α->β}{o:Option α}{p:β->Prop}:(∃d,o.map f=some d/\p d)↔∃x,o=some x/\p (f x):=by
 cases o with
 | none=>simp
 | some x=>simp
theorem Mx{α β:Type}{f:α->β}{l:List α}{i:Int}{p:β->Prop}:(∃d,di (l.map f) i=some d/\p d)↔∃x,di l i=some x/\p (f x):=by rw[nJ];exact My
theorem tJ{α:Type}{l:List α}{i:Int}(h0:0<=i)(h1:i<l.length):∃h:i.toNat<l.length,di l i=some (l[i.toNat]'h):=by
 refine⟨by omega,?_⟩;unfold di kf;rw[if_pos h0,if_pos h1];simp only[Option.bind_some];exact ag _
theorem Oe{α:Type}{l:List α}{i:Int}(h0:0<=i)(h1:i<l.length):∃z,di l i=some z/\z∈l:=by
 obtain⟨h,e⟩:=tJ h0 h1;exact⟨_,e,bI h⟩
theorem He{α:Type}{l:List α}{n:Nat}(i:Int)(hl:n<=l.length)(h:0<n):∃z,di l (i%(n:Int))=some z/\z∈l:=
 Oe (bR _ (by omega)) (by have:=Int.emod_lt_of_pos i (show(0:Int)<n by omega);omega)
theorem kJ{α:Type}{l:List α}{j:Nat}(h:j<l.length):di l (j:Int)=some l[j]:=by
 obtain⟨h',e⟩:=tJ (l:=l) (i:=(j:Int)) (by omega) (by omega);simpa using e
theorem Aj{n d:Nat}{j:Int}(h:0<=j):HT.dq n d (some j)=min j.toNat n:=by show(if j<0 then _ else _)=_;rw[if_neg (by omega)]
theorem Od{α:Type}(l:List α){j:Int}(h:0<=j):iX l none (some j)=l.take j.toNat:=by
 unfold iX;rw[Aj h];show((l.drop 0).take (min j.toNat l.length-0))=_;rw[List.drop_zero,Nat.sub_zero,Nat.min_comm];by_cases hl:l.length<=j.toNat
 ·rw[Nat.min_eq_left hl,bD hl,bD (az _)]
 ·rw[Nat.min_eq_right (by omega)]
theorem Jm{α:Type}(l:List α){j:Int}(h:0<=j):iX l (some j) none=l.drop j.toNat:=by
 unfold iX;rw[Aj h];show((l.drop (min j.toNat l.length)).take (l.length-_))=_;by_cases hl:l.length<=j.toNat
 ·rw[Nat.min_eq_right hl,List.drop_of_length_le hl,List.drop_of_length_le (az _)];simp
 ·rw[Nat.min_eq_left (by omega),bD (by simp)]
theorem HW{α:Type}(l:List α){i j:Int}(hi:0<=i)(h:0<=j):iX l (some i) (some j)=(l.drop i.toNat).take (j.toNat-i.toNat):=by
 unfold iX;rw[Aj h,Aj hi];by_cases hl:l.length<=i.toNat
 ·rw[Nat.min_eq_right hl,List.drop_of_length_le hl,List.drop_of_length_le (az _)];simp
 ·rw[Nat.min_eq_left (a:=i.toNat) (by omega)];by_cases hj:l.length<=j.toNat
  ·rw[Nat.min_eq_right hj,bD (by simp),bD (by simp;omega)]
  ·rw[Nat.min_eq_left (by omega)]
theorem wX(l:List Nat){j:Int}(h:0<=j):oR (gW l) none (some j)=gW (l.take j.toNat):=by unfold oR;rw[Ak,Od _ h];rfl
theorem Qv(l:List Nat){j:Int}(h:0<=j):oR (gW l) (some j) none=gW (l.drop j.toNat):=by unfold oR;rw[Ak,Jm _ h];rfl
theorem PJ(l:List Nat){i j:Int}(hi:0<=i)(h:0<=j):oR (gW l) (some i) (some j)=gW ((l.drop i.toNat).take (j.toNat-i.toNat)):=by unfold oR;rw[Ak,HW _ hi h];rfl
theorem PH{α β:Type}(f:α->β)(l:List α)(lo hi:Option Int):iX (l.map f) lo hi=(iX l lo hi).map f:=by unfold iX;rw[af,List.map_take,List.map_drop]
theorem Oc(n:Nat)(i:Int):iA n (.int i)=True:=by cases n<;>exact eq_true trivial
theorem Cp(n:Nat)(i:Str):iA n (.str i)=True:=by cases n<;>exact eq_true trivial
theorem Mw(n:Nat)(i:Bool):iA n (.bl i)=True:=by cases n<;>exact eq_true trivial
theorem Ho(n:Nat):iA n .non=True:=by cases n<;>exact eq_true trivial
theorem Co{α:Type}[BEq α][LawfulBEq α][DecidableEq α](a b:α):(a==b)=decide (a=b):=by rw[Bool.eq_iff_iff];simp
theorem Ob(a b:Str):cw (.str a) (.str b)=decide (a=b):=by simp only[cw,Co]
theorem Oa(a b:Int):cw (.int a) (.int b)=decide (a=b):=by simp only[cw,Co]
theorem i8:sizeLine=16777216:=by decide
@[irreducible] def jT(u:TX)(D:DE):Ev->Prop:=u D
theorem Mv(t u:TX)(D:DE)(ρ:Ev):cD t u D ρ=t { nx:=jT u D,rt:=D.rt,bk:=D.bk,ct:=D.ct } ρ:=by unfold jT;rfl
end Wc
open PySem L2 Wc
local macro_rules | `(tactic| walk_at "b")=>`(tactic| simp only[Mv,iY,zN,vY,zq,eM,z9,dC,qg,qO,GC,LU,fU,cg,cx,bW,au,List.map_nil,List.cons_append,List.nil_append,List.set,gt,qF,fB,oI,b9,e9,fJ,jd,iI,dG,lR,jU,c9,lQ,cY,jA,fh,j6,oEq,A6,cJ,n5,qo,lU,eD,uP,FO,Bw,zJ,sZ,we,zI,nB,nE,BI,uN,iC,nC,rT,gX,gj,vb,oW,wB,uM,zH,qM,NM,NL,Vk,Vi,jH,iG,Int.reduceLT,Int.reduceLE,Int.reduceAdd,Int.reduceSub,Int.reduceMul,Int.reduceNeg,Int.reducePow,Int.reduceToNat,decide_true,decide_false,true_and,and_true,and_self,or_true,true_or,Oc,Cp,Mw,Ho,Mx,aF,bE,bO,Bool.not_true,ar,aN,List.length_nil,Nat.reduceAdd,aQ,Oa,Ob,PH,xh,Sb,wa])
local macro_rules | `(tactic| walk_at "all")=>`(tactic| ((try walk_at "px");repeat(simp only[jT];try walk_at "px")))
local macro_rules | `(tactic| walk_at "px")=>`(tactic| walk_at "b")
local macro_rules | `(tactic| walk_at "go")=>`(tactic| (simp only[jT];walk_at "px"))
namespace Wc
open PySem L2
noncomputable def kS(c k:Int):Int:=(c%1000000000000000000000000000000*(k*k+48271)+7919*k*k*k+11)%2147483647/7
theorem BV(c k:Int):0<=kS c k:=Int.ediv_nonneg (bR _ (by decide)) (by decide)
theorem Mu(c k:Int):kS c k<306783379:=by
 unfold kS;generalize c%1000000000000000000000000000000*(k*k+48271)+7919*k*k*k+11=x;omega
def qj:dZ:=fun ds Q=>∃c k:Int,ds=[.int c,.int k]/\0<=k/\k<=1000000/\Q (.fz (.int (kS c k)))
def Dm:TX:=(fJ (b9 (oI jH fun i j=>.int (i/j)) (b9 (oI (fun _ j=>0<j) fun i j=>.int (i%j)) (b9 e9 (b9 e9 (b9 (oI iG fun i j=>.int (i*j)) (b9 (oI (fun _ j=>0<j) fun i j=>.int (i%j)) (bW 0) (b9 (oI qd fun i j=>.int (i ^ j.toNat)) (dC (.int 10)) (dC (.int 30)))) (b9 e9 (b9 (oI iG fun i j=>.int (i*j)) (bW 1) (bW 1)) (dC (.int 48271)))) (b9 (oI iG fun i j=>.int (i*j)) (b9 (oI iG fun i j=>.int (i*j)) (b9 (oI iG fun i j=>.int (i*j)) (dC (.int 7919)) (bW 1)) (bW 1)) (bW 1))) (dC (.int 11))) (dC (.int 2147483647))) (dC (.int 7))))
theorem S2(ds:List D)(Qr:R->Prop)(hl:ds.length=2)(h:qj ds Qr):Dm { nx:=fun _=>Qr (.fz .non),rt:=Qr } (fR ["_law_cell","_law_k"] ds):=by
 obtain⟨c,k,rfl,h0,h1,q⟩:=h;show Dm _ [.fz (.int c),.fz (.int k)];unfold Dm;walk_at "all";have hk:k*k<=1000000*1000000:=Int.mul_le_mul h1 h1 h0 (by decide);have Ws:0<=k*k:=Int.mul_nonneg h0 h0;refine⟨.inl ⟨by omega,by omega⟩,.inr ⟨by omega,by omega⟩,.inr ⟨by omega,by omega⟩,.inr ⟨by omega,by omega⟩,?_⟩;exact q
end Wc
namespace Wc
open PySem L2 PyProof.Rows
noncomputable def dO:Option Str->D
 | none=>.non
 | some s=>.str s
noncomputable def dS(l:List Str):D:=.lst (l.map .str)
noncomputable def dI(l:List Int):D:=.lst (l.map .int)
noncomputable def Xn(p:Int×Int×Int):D:=.tup [.int p.1,.int p.2.1,.int p.2.2]
noncomputable def dK(l:List (Int×Int×Int)):D:=.lst (l.map Xn)
theorem Ad(n:Nat)(o:Option Str):iA n (dO o)=True:=by
 cases o with
 | none=>exact Ho n
 | some s=>exact Cp n s
theorem wL(a b:Option Str):cw (dO a) (dO b)=decide (a=b):=by
 cases a<;>cases b<;>simp only[dO,cw,Co,aD,reduceCtorEq,decide_true,decide_false]
theorem Dl(a:Option Str)(b:Str):cw (dO a) (.str b)=decide (a=some b):=wL a (some b)
theorem AN(a:Str)(b:Option Str):cw (.str a) (dO b)=decide (some a=b):=wL (some a) b
theorem Jl{α:Type}{wi:iW}{g:gJ}{tb:TX}{D:DE}{ρ:Ev}(L:List α)(φ:α->L2.D)(hw:∀Q':List L2.D->Prop,Q' (qf (L.map φ))->wi ρ Q')(Iv:Nat->Ev->Prop)(h0:Iv 0 ρ)
  (turn:∀(i:Nat) x ρ',L[i]?=some x->Iv i ρ'->g (.tup [.int i,φ x]) ρ' fun dM=>tb { D with nx:=Iv (i+1),ct:=Iv (i+1),bk:=D.nx } dM) (fin:∀ρ',Iv L.length ρ'->D.nx ρ'):ir wi g tb D ρ:=by
 refine Ik (qf (L.map φ)) hw Iv h0 (fun i d ρ' hd iv=>?_) (fun ρ' iv=>fin ρ' (by simpa[qf] using iv));unfold qf at hd;rw[List.getElem?_mapIdx,ao] at hd;cases hx:L[i]? with
 | none=>rw[hx] at hd;cases hd
 | some x=>rw[hx] at hd;cases hd;exact turn i x ρ' hx iv
def uZ(g:gJ)(tb:TX)(D:DE)(ρ:Ev)(ds:List L2.D):Prop:=∃Iv:Nat->Ev->Prop,Iv 0 ρ/\
 (∀i d ρ',ds[i]?=some d->Iv i ρ'->g d ρ' fun dM=>tb { D with nx:=Iv (i+1),ct:=Iv (i+1),bk:=D.nx } dM)/\∀ρ',Iv ds.length ρ'->D.nx ρ'
theorem II{wi:iW}{g:gJ}{tb:TX}{D:DE}{ρ:Ev}(P:List L2.D->Prop)(hw:∀Q':List L2.D->Prop,(∀ds,P ds->Q' ds)->wi ρ Q')(h:∀ds,P ds->uZ g tb D ρ ds):ir wi g tb D ρ:=hw _ h
theorem xg{α:Type}{g:gJ}{tb:TX}{D:DE}{ρ:Ev}(L:List α)(φ:α->L2.D)(Iv:Nat->Ev->Prop)(h0:Iv 0 ρ)
  (turn:∀i x ρ',L[i]?=some x->Iv i ρ'->g (φ x) ρ' fun dM=>tb { D with nx:=Iv (i+1),ct:=Iv (i+1),bk:=D.nx } dM) (fin:∀ρ',Iv L.length ρ'->D.nx ρ'):uZ g tb D ρ (L.map φ):=by
 refine⟨Iv,h0,fun i d ρ' hd iv=>?_,fun ρ' iv=>fin ρ' (by simpa using iv)⟩;rw[ao] at hd;cases hx:L[i]? with
 | none=>rw[hx] at hd;cases hd
 | some x=>rw[hx] at hd;cases hd;exact turn i x ρ' hx iv
theorem Mt(z:Int):rO (xM (.int z)) "bool"=false:=by show rO "int" "bool"=false;decide
theorem Ms(z:Int):rO (xM (.int z)) "int"=true:=by show rO "int" "int"=true;decide
noncomputable def dN(n:Nat):D:=.int n
theorem PF{α:Type}(l:List α)(h:l≠[]):di l (-1)=some (l.getLast h):=by
 have hl:0<l.length:=List.length_pos_iff.mpr h;unfold di kf;rw[if_neg (by decide),if_pos (by omega)];simp only[Option.bind_some];rw[List.getLast_eq_getElem,show(-1+(l.length:Int)).toNat=l.length-1 by omega];exact ag _
theorem nD(o:OV):(R.ov o).sl=.ov o:=rfl
theorem kT(o:OV):(R.ov o).val=o.val:=rfl
end Wc
namespace Wc
open PySem L2
noncomputable def je:Nat->Int->List Nat
 | 0,_=>[]
 | n+1,c=>(97+(c%26).toNat)::je n (c/26)
theorem Qu(n:Nat)(c:Int):(je n c).length=n:=by
 induction n generalizing c with
 | zero=>rfl
 | succ n ih=>simp[je,ih]
theorem Pz(n:Nat)(c:Int):∀x∈je n c,97<=x/\x<=122:=by
 induction n generalizing c with
 | zero=>intro x hx;cases hx
 | succ n ih=>
  intro x hx;rcases aq.mp hx with rfl | h
  ·have h0:=bR c (show(26:Int)≠0 by decide);have h1:=Int.emod_lt_of_pos c (show(0:Int)<26 by decide);omega
  ·exact ih _ x h
noncomputable def FT:Str:="abcdefghijklmnopqrstuvwxyz"
theorem Mr:∀k:Fin 26,di FT.cps.toList (k.val:Int)=some (97+k.val):=by decide +kernel
theorem N9(c:Int):di FT.cps.toList (c%26)=some (97+(c%26).toNat):=by
 have h0:=bR c (show(26:Int)≠0 by decide);have h1:=Int.emod_lt_of_pos c (show(0:Int)<26 by decide);have:=Mr ⟨(c%26).toNat,by omega⟩;simp only at this;rwa [Int.toNat_of_nonneg h0] at this
def xp:dZ:=fun ds Q=>∃(c:Int) (n:Nat),ds=[.int c,.int n]/\n<=1000/\Q (.fz (.str (gW (je n c))))
def DJ:TX:=(cD (dG 2 (dC (.str "abcdefghijklmnopqrstuvwxyz")))
 (cD (dG 3 (dC (.str "")))
 (cD (ir (oW (cg (bW 1) cx)) (cY 4) (cD (dG 3 (b9 e9 (bW 3) (b9 cJ (bW 2) (b9 (oI (fun _ j=>0<j) fun i j=>.int (i%j)) (bW 0) (dC (.int 26))))))
 (dG 0 (b9 (oI jH fun i j=>.int (i/j)) (bW 0) (dC (.int 26))))))
 (fJ (bW 3)))))
theorem T4(ds:List D)(Qr:R->Prop)(hl:ds.length=2)(h:xp ds Qr):DJ { nx:=fun _=>Qr (.fz .non),rt:=Qr } (fR ["_law_cell","_law_size","_law_signs","_law_stem_here","_law_k"] ds):=by
 obtain⟨c,n,rfl,hn,q⟩:=h;show DJ _ [.fz (.int c),.fz (.int n),.un,.un,.un];unfold DJ;walk_at "all";refine Sd n (fun Q' h=>?_) (fun i ρ=>∃(c':Int) (acc:List Nat) (k:Sl),ρ=[.fz (.int c'),.fz (.int n),.fz (.str FT),.fz (.str (gW acc)),k]/\acc.length=i/\acc++je (n-i) c'=je n c) ⟨_,[],_,rfl,rfl,rfl⟩ ?_ ?_
 ·walk_at "all";exact⟨by omega,by omega,by simpa using h⟩
 ·rintro i ρ hi ⟨c',acc,k,rfl,K2,he⟩;walk_at "all";refine⟨by decide,_,N9 c',?_,_,acc++[97+(c'%26).toNat],_,by rw[sD,tL],by simp[K2],?_⟩
  ·rw[lW,sD,lW,i8];simp;omega
  ·rw[<-he,show n-i=(n-(i+1))+1 by omega,je];simp
 ·rintro ρ ⟨c',acc,k,rfl,K2,he⟩;walk_at "all";rw[Nat.sub_self] at he;simp only[je,List.append_nil] at he;rw[he];exact q
end Wc
namespace Wc
open PySem L2
noncomputable def wK(c:Int):List (List Nat):=
 if c/64%3=0 then [104,103,102,101,100,99,98,97].map fun s=>(je 6 (c/512)).take (c/8%(c%6+1)).toNat++[s]++((je 6 (c/512)).drop (c/8%(c%6+1)).toNat).take ((c%6).toNat-(c/8%(c%6+1)).toNat)
 else if c/64%3=1 then(List.range 8).map fun k=>(je 6 (c/512)).take (c%6%4).toNat++[if k/4=0 then 109 else 116]++[if k/2%2=0 then 110 else 117]++[if k%2=0 then 111 else 118]
 else(List.range 6).map (fun k=>(je 6 (c/512)).take (k+1))++[([if (je 6 (c/512)).headD 0=97 then 98 else 97]++(je 6 (c/512)).drop 1).take 1,([if (je 6 (c/512)).headD 0=97 then 98 else 97]++(je 6 (c/512)).drop 1).take 3]
noncomputable def BK(i:Int):Int:=(i%1000000000000000000000000+5)*7046029254386353131%1000000000000000000000007
noncomputable def tD(i:Int):List Str:=(wK (BK i)).map gW
theorem Gr(x:Int):∃a b c d e f:Nat,je 6 x=[a,b,c,d,e,f]/\(97<=a/\a<=122)/\(97<=b/\b<=122)/\(97<=c/\c<=122)/\(97<=d/\d<=122)/\(97<=e/\e<=122)/\(97<=f/\f<=122):=by
 have h:=Pz 6 x;simp only[je,aq,br,or_false,forall_eq_or_imp,forall_eq] at h;exact⟨_,_,_,_,_,_,by simp only[je],h.1,h.2.1,h.2.2.1,h.2.2.2.1,h.2.2.2.2.1,h.2.2.2.2.2⟩
theorem Py{l:List (List Nat)}(h:l.Nodup):(l.map gW).Nodup:=by
 unfold List.Nodup at *;rw[bC];exact h.imp fun iV e=>iV (rf.mp e)
theorem Qt(c:Int):(wK c).length=8/\(wK c).Nodup:=by
 unfold wK;by_cases h0:c/64%3=0
 ·rw[if_pos h0];exact⟨rfl,by simp[List.append_assoc]⟩
 ·rw[if_neg h0];by_cases h1:c/64%3=1
  ·rw[if_pos h1];exact⟨by simp,by simp[List.range,List.range.loop,List.append_assoc]⟩
  ·rw[if_neg h1];obtain⟨a,b,c',d,e,f,hs,_⟩:=Gr (c/512);rw[hs];have ho:(if a=97 then 98 else 97)≠a:=by split<;>omega
   generalize (if a=97 then 98 else 97)=o at ho;refine⟨by simp,?_⟩;have:¬a=o:=fun z=>ho z.symm
   simp[List.range,List.range.loop];split<;>omega
theorem Jk(i:Int):(tD i).length=8/\(tD i).Nodup:=by
 obtain⟨h1,h3⟩:=Qt (BK i);exact⟨by simp[tD,h1],Py h3⟩
def xv:dZ:=fun ds Q=>∃i:Int,ds=[.int i]/\Q (.ow ((tD i).map .str))
def DB:TX:=(cD (dG 0 (b9 (oI (fun _ j=>0<j) fun i j=>.int (i%j)) (b9 (oI iG fun i j=>.int (i*j)) (b9 e9 (b9 (oI (fun _ j=>0<j) fun i j=>.int (i%j)) (bW 0) (b9 (oI qd fun i j=>.int (i ^ j.toNat)) (dC (.int 10)) (dC (.int 24)))) (dC (.int 5))) (dC (.int 7046029254386353131))) (b9 e9 (b9 (oI qd fun i j=>.int (i ^ j.toNat)) (dC (.int 10)) (dC (.int 24))) (dC (.int 7)))))
 (cD (dG 1 (b9 (oI (fun _ j=>0<j) fun i j=>.int (i%j)) (bW 0) (dC (.int 6))))
 (cD (dG 2 (eD 2 xp (cg (b9 (oI jH fun i j=>.int (i/j)) (bW 0) (dC (.int 512))) (cg (dC (.int 6)) cx))))
 (cD (dG 3 (b9 (oI (fun _ j=>0<j) fun i j=>.int (i%j)) (b9 (oI jH fun i j=>.int (i/j)) (bW 0) (dC (.int 8))) (b9 e9 (bW 1) (dC (.int 1)))))
 (cD (iY (eM (b9 oEq (b9 (oI (fun _ j=>0<j) fun i j=>.int (i%j)) (b9 (oI jH fun i j=>.int (i/j)) (bW 0) (dC (.int 64))) (dC (.int 3))) (dC (.int 0)))) (fJ (fX (gj (dC (.str "hgfedcba"))) [none,some 2,some 3,some 1] (cY 0) gX (b9 e9 (b9 e9 (n5 (bW 1) qo (lU (bW 2))) (bW 0)) (n5 (bW 1) (lU (bW 2)) (lU (bW 3)))))) jd)
 (cD (iY (eM (b9 oEq (b9 (oI (fun _ j=>0<j) fun i j=>.int (i%j)) (b9 (oI jH fun i j=>.int (i/j)) (bW 0) (dC (.int 64))) (dC (.int 3))) (dC (.int 1)))) (fJ (fX (oW (cg (dC (.int 8)) cx)) [none,some 2,some 1] (cY 0) gX (b9 e9 (b9 e9 (b9 e9 (n5 (bW 1) qo (lU (b9 (oI (fun _ j=>0<j) fun i j=>.int (i%j)) (bW 2) (dC (.int 4))))) (b9 cJ (dC (.str "mt")) (b9 (oI jH fun i j=>.int (i/j)) (bW 0) (dC (.int 4))))) (b9 cJ (dC (.str "nu")) (b9 (oI (fun _ j=>0<j) fun i j=>.int (i%j)) (b9 (oI jH fun i j=>.int (i/j)) (bW 0) (dC (.int 2))) (dC (.int 2))))) (b9 cJ (dC (.str "ov")) (b9 (oI (fun _ j=>0<j) fun i j=>.int (i%j)) (bW 0) (dC (.int 2))))))) jd)
 (cD (dG 4 (b9 e9 (b9 cJ (dC (.str "ab")) (fU zH (cg (b9 oEq (b9 cJ (bW 2) (dC (.int 0))) (dC (.str "a"))) cx))) (n5 (bW 2) (lU (dC (.int 1))) qo)))
 (fJ (b9 e9 (fX (oW (cg (dC (.int 6)) cx)) [none,some 2] (cY 0) gX (n5 (bW 1) qo (lU (b9 e9 (bW 0) (dC (.int 1)))))) (lR (cg (n5 (bW 4) qo (lU (dC (.int 1)))) (cg (n5 (bW 4) qo (lU (dC (.int 3)))) cx))))))))))))
theorem Mq:(Str.ofString "hgfedcba").cps.toList=[104,103,102,101,100,99,98,97]:=by decide +kernel
theorem LI(k:Nat)(h:k<8):di (Str.ofString "mt").cps.toList ((k:Int)/4)=some (if k/4=0 then 109 else 116):=by
 have:∀k:Fin 8,di (Str.ofString "mt").cps.toList ((k.val:Int)/4)=some (if k.val/4=0 then 109 else 116):=by decide +kernel
 exact this ⟨k,h⟩
theorem LH(k:Nat)(h:k<8):di (Str.ofString "nu").cps.toList ((k:Int)/2%2)=some (if k/2%2=0 then 110 else 117):=by
 have:∀k:Fin 8,di (Str.ofString "nu").cps.toList ((k.val:Int)/2%2)=some (if k.val/2%2=0 then 110 else 117):=by decide +kernel
 exact this ⟨k,h⟩
theorem LG(k:Nat)(h:k<8):di (Str.ofString "ov").cps.toList ((k:Int)%2)=some (if k%2=0 then 111 else 118):=by
 have:∀k:Fin 8,di (Str.ofString "ov").cps.toList ((k.val:Int)%2)=some (if k.val%2=0 then 111 else 118):=by decide +kernel
 exact this ⟨k,h⟩
theorem Ut(ds:List D)(Qr:R->Prop)(hl:ds.length=1)(h:xv ds Qr):DB { nx:=fun _=>Qr (.fz .non),rt:=Qr } (fR ["_law_cell","_law_size","_law_stem_here","_law_at","_law_other"] ds):=by
 obtain⟨i,rfl,q⟩:=h;show DB _ [.fz (.int i),.un,.un,.un,.un];unfold DB;walk_at "all";unfold tD wK BK at q;generalize (i%1000000000000000000000000+5)*7046029254386353131%1000000000000000000000007=c at q ⊢;have s0:0<=c%6:=bR _ (by decide);have s1:c%6<6:=Int.emod_lt_of_pos _ (by decide);refine⟨c/512,6,rfl,by decide,by omega,?_⟩;have t0:0<=c/8%(c%6+1):=bR _ (by omega);have t1:c/8%(c%6+1)<c%6+1:=Int.emod_lt_of_pos _ (by omega);have Wj:=Qu 6 (c/512);have big:=i8;by_cases h0:c/64%3=0
 ·rw[if_pos h0] at q;rw[if_pos h0];refine jY [104,103,102,101,100,99,98,97] (fun c=>.str ⟨#[c]⟩) (fun s=>.str (gW ((je 6 (c/512)).take (c/8%(c%6+1)).toNat++[s]++((je 6 (c/512)).drop (c/8%(c%6+1)).toNat).take ((c%6).toNat-(c/8%(c%6+1)).toNat)))) (fun Q' h=>?_) (by decide) (fun s hs K1 k=>?_) ?_
  ·walk_at "all";rw[Mq];exact h
  ·walk_at "all";rw[wX _ t0,PJ _ t0 s0,sD,tL,tL];refine⟨by rw[lW];omega,?_,by rw[lW];omega,?_,k⟩
   ·simp only[lW,aV,aN,List.length_nil];omega
   ·simp only[lW,a9,aV,List.length_drop,aN,List.length_nil];omega
  ·exact q
 ·rw[if_neg h0] at q;rw[if_neg h0];by_cases h1:c/64%3=1
  ·rw[if_pos h1] at q;rw[if_pos h1];have u0:0<=c%6%4:=bR _ (by decide);refine jY (List.range 8) (fun(i:Nat)=>.int (0+i)) (fun k=>.str (gW ((je 6 (c/512)).take (c%6%4).toNat++[if k/4=0 then 109 else 116]++[if k/2%2=0 then 110 else 117]++[if k%2=0 then 111 else 118]))) (fun Q' h=>?_) (by decide) (fun s hs K1 k=>?_) ?_
   ·walk_at "all";exact h
   ·have EK:s<8:=by simpa using hs
    rw[Int.zero_add];walk_at "all";rw[wX _ u0];refine⟨by rw[lW];omega,by decide,_,LI s EK,?_,by decide,_,LH s EK,?_,by decide,_,LG s EK,?_,?_⟩
    ·simp only[lW,sD,aV,aN,List.length_nil];omega
    ·simp only[lW,sD,tL,a9,aV,aN,List.length_nil];omega
    ·simp only[lW,sD,tL,a9,aV,aN,List.length_nil];omega
    ·simp only[sD,tL];exact k
   ·rw[aE] at q;exact q
  ·rw[if_neg h1] at q;rw[if_neg h1];obtain⟨a,b,c',d,e,f,hs,ha,hb,hc,hd,he,hf⟩:=Gr (c/512);rw[hs] at q ⊢;have mF:di (gW [a,b,c',d,e,f]).cps.toList 0=some a:=by rw[Ak];rfl
   refine⟨by rw[lW];simp;omega,a,mF,?_⟩;have ho:di (Str.ofString "ab").cps.toList (if (⟨#[a]⟩:Str)=Str.ofString "a" then 1 else 0)=some (if a=97 then 98 else 97):=by
    by_cases FA:a=97
    ·subst FA;decide +kernel
    ·have:¬((⟨#[a]⟩:Str)=Str.ofString "a"):=by
      intro z;have z2:(⟨#[a]⟩:Str).cps.toList=(Str.ofString "a").cps.toList:=by rw[z]
      have z3:(Str.ofString "a").cps.toList=[97]:=by decide +kernel
      rw[z3] at z2;simp at z2;exact FA z2
     rw[if_neg this,if_neg FA];decide +kernel
   refine⟨by decide,_,ho,?_⟩;walk_at "all";rw[Qv _ (by decide),sD,tL];refine⟨by rw[lW];simp;omega,by simp only[lW];simp;omega,?_⟩;refine jY (List.range 6) (fun(i:Nat)=>.int (0+i)) (fun k=>.str (gW ([a,b,c',d,e,f].take (k+1)))) (fun Q' h=>?_) (by decide) (fun s hs K1 k=>?_) ?_
   ·walk_at "all";exact h
   ·walk_at "all";rw[wX _ (by omega),show(0+(s:Int)+1).toNat=s+1 by omega];exact⟨by rw[lW];simp;omega,k⟩
   ·walk_at "all";rw[wX _ (by decide),wX _ (by decide)];refine⟨by rw[lW];simp;omega,by rw[lW];simp;omega,by decide,by simp;omega,?_⟩;simp only[aJ,aE,au,List.map_nil] at q;exact q
end Wc
namespace Wc
open PySem L2 PyProof.Rows
end Wc
open PySem L2 PyProof.Rows Wc
local macro_rules | `(tactic| walk_at "px")=>`(tactic| (repeat(first | walk_at "b" | simp only[Dl,AN,wL,Ad])))
namespace Wc
open PySem L2 PyProof.Rows
structure Pc where
 n:Option Str
 l:Int
 r:Int
 k:Int
 deriving DecidableEq
noncomputable def c6(p:Pc):D:=.tup [dO p.n,.int p.l,.int p.r,.int p.k]
noncomputable def dw(ps:List Pc):D:=.lst (ps.map c6)
noncomputable def dJ:Option Int->D
 | none=>.non
 | some i=>.int i
end Wc
namespace Wc
open PySem L2 PyProof.Rows
noncomputable def uI(p q:Pc):Option Int:=
 if (if q.l>p.l then q.l else p.l)>(if q.r<p.r then q.r else p.r) then none else some (if q.l>p.l then q.l else p.l)
theorem N8(p q:Pc):uI p q=if max p.l q.l<=min p.r q.r then some (max p.l q.l) else none:=by
 have h1:(if q.l>p.l then q.l else p.l)=max p.l q.l:=by split<;>omega
 have h2:(if q.r<p.r then q.r else p.r)=min p.r q.r:=by split<;>omega
 unfold uI;rw[h1,h2];by_cases h:max p.l q.l<=min p.r q.r
 ·rw[if_neg (by omega),if_pos h]
 ·rw[if_pos (by omega),if_neg h]
end Wc
namespace Wc
open PySem L2 PyProof.Rows
noncomputable def bY(ps:List Pc)(q:Nat):Pc:=ps[q]?.getD ⟨none,0,0,1⟩
noncomputable def dr(tr:List Int)(q:Nat):Int:=tr[q]?.getD 0
theorem j9{ps:List Pc}{q:Nat}(h:q<ps.length):bY ps q=ps[q]:=by unfold bY;rw[ag h];rfl
theorem u3{tr:List Int}{q:Nat}(h:q<tr.length):dr tr q=tr[q]:=by unfold dr;rw[ag h];rfl
end Wc
namespace Wc
open PySem L2 PyProof.Rows
theorem AI:∀a b:List Int,HT.lexLt a b=HT.b8 b a
 | [],[]=>rfl
 | [],_::_=>rfl
 | _::_,[]=>rfl
 | x::xs,y::ys=>by
  unfold HT.lexLt HT.b8;rw[AI xs ys];by_cases e:x=y
  ·subst e;simp
  ·have e2:¬y=x:=fun z=>e z.symm
   simp[e,e2]
theorem wW:∀a b:List Int,HT.b8 a b=false->a≠b->HT.b8 b a=true
 | [],[],_,h=>absurd rfl h
 | [],_::_,_,_=>rfl
 | _::_,[],h,_=>by cases h
 | x::xs,y::ys,h,cE=>by
  unfold HT.b8 at h ⊢;by_cases e:x=y
  ·subst e;simp only[bO] at h ⊢;exact wW xs ys h fun z=>cE (by rw[z])
  ·have e2:¬y=x:=fun z=>e z.symm
   simp[e] at h;simp[e2];omega
theorem C5{α:Type}(f:α->List Int):∀L:List α,jW (L.map fun a=>D.tup ((f a).map D.int))=some (L.map f)
 | []=>rfl
 | a::L=>by
  rw[au,au];unfold jW;rw[xh,C5 f L]
end Wc
namespace Wc
open PySem L2 PyProof.Rows
local macro_rules | `(tactic| walk_at "px")=>`(tactic| (repeat(first | walk_at "b" | simp only[nD,kT,uJ,oX,rR,oV,kQ,sX,mT,qL,oS,tf,oU,nE,mU])))
theorem Jj{α:Type}{wi:iW}{m:List (Option Nat)}{g:gJ}{te:TD}{ρ:Ev}{Q:R->Prop}(L:List α)(φ:α->D)(f:α->List D)(hw:∀Q':List D->Prop,Q' (L.map φ)->wi ρ Q')(hl:L.length<=sizeLine)
  (h:∀x∈L,∀(K1:List D->Prop),K1 (f x)->g (φ x) (c9 m ρ) fun dM=>te dM fun r=>match r with | .ow es=>K1 es | _=>False) (q:Q (.ov (.ll (L.map f)))):u4 wi m g gX te ρ Q:=by
 unfold u4;refine hw _ ⟨fun i acc=>acc=(L.take i).map f,by simp,fun i d acc hd ha=>?_,fun acc ha=>?_⟩
 ·subst ha;rw[ao] at hd;cases hx:L[i]? with
  | none=>rw[hx] at hd;cases hd
  | some x=>
   rw[hx] at hd;cases hd;have cS:i<L.length:=(aj.mp hx).1;have:=h x (ay hx) (fun es=>((L.take i).map f).length<sizeLine/\(L.take i).map f++[es]=(L.take (i+1)).map f) ⟨by simp;omega,by rw[aK,hx];simp⟩;exact this
 ·subst ha;simpa using q
noncomputable abbrev Tr:=Nat×Nat×Int
noncomputable def dT(t:Tr):D:=.tup [.int t.1,.int t.2.1,.int t.2.2]
noncomputable def gf(ts:List Tr):D:=.lst (ts.map dT)
noncomputable def i6(kv:List (Nat×Int)):List (Key×D):=kv.map fun p=>(.inl (p.1:Int),.int p.2)
def Ord(n:Nat)(ts:List Tr):Prop:=∃f:Nat->Int,∀t∈ts,f t.1<f t.2.1
def kF(n:Nat)(ts:List Tr):Prop:=∀t∈ts,t.1<n/\t.2.1<n
noncomputable def keys(kv:List (Nat×Int)):List Nat:=kv.map (·.1)
theorem Ai{kv:List (Nat×Int)}(nd:(keys kv).Nodup){p:Nat×Int}(h:p∈kv):look (i6 kv) (.inl (p.1:Int))=some (.int p.2):=by
 induction kv with
 | nil=>cases h
 | cons a r ih=>
  unfold keys at nd;rw[au,aL] at nd;unfold i6 look;rw[au,bh];rcases aq.mp h with rfl | h
  ·simp
  ·have cE:a.1≠p.1:=fun z=>nd.1 (by rw[z];exact aY h)
   have:¬((Sum.inl (a.1:Int):Key)=Sum.inl (p.1:Int)):=fun z=>cE (by injection z with z;omega)
   simp only[this,decide_false];exact ih nd.2 h
theorem XD(kv:List (Nat×Int))(n:Nat):(look (i6 kv) (.inl (n:Int))).isSome=decide (n∈keys kv):=by
 induction kv with
 | nil=>rfl
 | cons a r ih=>
  unfold i6 look keys;rw[au,bh,au];by_cases h:a.1=n
  ·subst h;simp
  ·have:¬((Sum.inl (a.1:Int):Key)=Sum.inl (n:Int)):=fun z=>h (by injection z with z;omega)
   simp only[this,decide_false];rw[show(Option.map (fun x=>x.2) (List.find? (fun kv=>decide (kv.1=Sum.inl (n:Int))) (List.map (fun p=>((Sum.inl (p.1:Int):Key),D.int p.2)) r))).isSome=(look (i6 r) (.inl (n:Int))).isSome from rfl,ih];rw[Bool.eq_iff_iff,decide_eq_true_iff,decide_eq_true_iff];simp[keys,Ne.symm h]
theorem N7{kv:List (Nat×Int)}{n:Nat}{l:Int}(h:n∉keys kv):kP (i6 kv) (.inl (n:Int)) (.int l)=i6 (kv++[(n,l)]):=by
 unfold kP;rw[if_neg]
 ·unfold i6;simp
 ·intro z;rw[List.any_eq_true] at z;obtain⟨x,hx,e⟩:=z;unfold i6 at hx;rw[aH] at hx;obtain⟨p,hp,rfl⟩:=hx;simp only[aQ,Sum.inl.injEq] at e;exact h (by unfold keys;rw[aH];exact⟨p,hp,by omega⟩)
theorem vc{n k:Nat}(h:k<n):kf n (k:Int)=some k:=by
 unfold kf;rw[if_pos (by omega),if_pos (by omega)];simp
theorem AH{α:Type}(n:Nat)(f:Nat->α)(u:Nat)(v:α):((List.range n).map f).set u v=(List.range n).map fun x=>if x=u then v else f x:=by
 apply List.ext_getElem?;intro i;rw[bQ,ao,ao];by_cases hi:i<n
 ·rw[List.getElem?_range hi];by_cases h:u=i
  ·subst h;simp[hi]
  ·rw[if_neg h];simp[Ne.symm h]
 ·rw[List.getElem?_eq_none (by simpa using hi)];simp only[Option.map_none,af,bP];split
  ·rename_i h;rw[if_neg (by omega)]
  ·rfl
theorem Cu{α:Type}{n:Nat}(f:Nat->α){u:Nat}(h:u<n):((List.range n).map f)[u]?=some (f u):=by rw[ao,List.getElem?_range h];rfl
theorem xk{α:Type}{n:Nat}(f:Nat->α){u:Nat}(h:u<n):di ((List.range n).map f) (u:Int)=some (f u):=by
 rw[nJ,kJ (by simpa using h)];simp
structure pT (n:Nat) (ts:List Tr) (kv:List (Nat×Int)):Prop where
 nd:(keys kv).Nodup
 lt:∀p∈kv,p.1<n
 up:∀p∈kv,∀t∈ts,t.2.1=p.1->∃l,(t.1,l)∈kv/\l+1<=p.2
 top:∀p∈kv,(p.2=0/\∀t∈ts,t.2.1≠p.1)\/∃t∈ts,t.2.1=p.1/\(t.1,p.2-1)∈kv
 out:∀q,q<n->q∉keys kv->∃t∈ts,t.2.1=q/\t.1∉keys kv
 j0:kv.Pairwise fun a b=>a.2<=b.2
noncomputable def jS(ts:List Tr)(u:Nat):List Nat:=(ts.filter fun t=>t.1==u).map (·.2.1)
noncomputable def eA(ts:List Tr)(dn:List Nat)(q:Nat):Nat:=ts.countP fun t=>t.2.1==q&&!(dn.contains t.1)
structure Lp (n:Nat) (ts:List Tr) (kv:List (Nat×Int)) (w:Nat->Nat) (dn rest:List Nat):Prop where
 nd:(keys kv).Nodup
 lt:∀p∈kv,p.1<n
 up:∀p∈kv,∀t∈ts,t.2.1=p.1->∃l,(t.1,l)∈kv/\l+1<=p.2
 top:∀p∈kv,(p.2=0/\∀t∈ts,t.2.1≠p.1)\/∃t∈ts,t.2.1=p.1/\(t.1,p.2-1)∈kv
 wz:∀q,q<n->(w q=0↔q∈keys kv)
 wc:∀q,q<n->w q=eA ts dn q+rest.count q
 j0:kv.Pairwise fun a b=>a.2<=b.2
theorem Lp.done{n:Nat}{ts:List Tr}{kv:List (Nat×Int)}{w:Nat->Nat}(h:Lp n ts kv w (keys kv) []):pT n ts kv:=by
 refine⟨h.nd,h.lt,h.up,h.top,fun q hq hn=>?_,h.j0⟩;have h1:w q≠0:=fun z=>hn ((h.wz q hq).mp z)
 rw[h.wc q hq,List.count_nil,Nat.add_zero] at h1;have h2:0<eA ts (keys kv) q:=by omega
 unfold eA at h2;rw[List.countP_pos_iff] at h2;obtain⟨t,ht,e⟩:=h2;simp only[bF,beq_iff_eq,Bool.not_eq_true',List.contains_eq_mem,decide_eq_false_iff_not] at e;exact⟨t,ht,e.1,e.2⟩
theorem Qs(ts:List Tr)(dn:List Nat)(u q:Nat)(hu:u∉dn):eA ts dn q=eA ts (dn++[u]) q+(jS ts u).count q:=by
 unfold eA jS;induction ts with
 | nil=>rfl
 | cons t ts ih=>
  rw[List.countP_cons,List.countP_cons,ih,List.filter_cons];by_cases h1:t.1=u
  ·subst h1;have:dn.contains t.1=false:=by simpa using hu
   simp only[this,beq_self_eq_true,bO,au,List.count_cons,List.contains_append,List.contains_cons,Bool.true_or,Bool.or_true,Bool.not_true,Bool.and_false,aF,bE,ar,Bool.and_true];omega
  ·have e1:(t.1==u)=false:=by simpa using h1
   have e2:(dn++[u]).contains t.1=dn.contains t.1:=by simp[h1]
   rw[e2];simp only[e1,aF,bE];omega
theorem Ct{α:Type}[DecidableEq α]{l ws:List α}(nd:l.Nodup)(h:∀w∈l,w∈ws):l.length<=ws.length:=by
 induction l generalizing ws with
 | nil=>simp
 | cons a r ih=>
  rw[aL] at nd;have ha:=h a (by simp);have h2:=ih (ws:=ws.erase a) nd.2 fun w hw=>(List.mem_erase_of_ne (fun z:w=a=>nd.1 (z▸hw))).mpr (h w (by simp[hw]))
  rw[List.length_erase_of_mem ha] at h2;have:=List.length_pos_of_mem ha;simp only[aN];omega
theorem wV{n:Nat}{kv:List (Nat×Int)}(nd:(keys kv).Nodup)(lt:∀p∈kv,p.1<n):kv.length<=n:=by
 have:=Ct (ws:=List.range n) nd fun w hw=>by
  unfold keys at hw;rw[aH] at hw;obtain⟨p,hp,rfl⟩:=hw;exact aP.mpr (lt p hp)
 simpa[keys] using this
theorem Lp.less{n:Nat}{ts:List Tr}{kv:List (Nat×Int)}{w:Nat->Nat}{dn rest:List Nat}{q:Nat}(h:Lp n ts kv w dn (q::rest))(hq:q<n):1<=w q/\q∉keys kv:=by
 have h1:=h.wc q hq;rw[List.count_cons_self] at h1;refine⟨by omega,fun z=>?_⟩;have:=(h.wz q hq).mpr z;omega
theorem Lp.fS{n:Nat}{ts:List Tr}{kv:List (Nat×Int)}{w:Nat->Nat}{dn rest:List Nat}{q:Nat}(h:Lp n ts kv w dn (q::rest))(hq:q<n)(cE:w q-1≠0):Lp n ts kv (fun x=>if x=q then w q-1 else w x) dn rest:=by
 obtain⟨h1,h2⟩:=h.less hq;refine⟨h.nd,h.lt,h.up,h.top,fun x hx=>?_,fun x hx=>?_,h.j0⟩
 ·split
  ·rename_i e;subst e;exact⟨fun z=>absurd z cE,fun z=>absurd z h2⟩
  ·exact h.wz x hx
 ·have:=h.wc x hx;rw[List.count_cons] at this;split
  ·rename_i e;subst e;simp at this;omega
  ·rename_i e;have e2:(q==x)=false:=by simpa using Ne.symm e
   simp[e2] at this;exact this
theorem Lp.step{n:Nat}{ts:List Tr}{kv:List (Nat×Int)}{w:Nat->Nat}{dn rest:List Nat}{q u:Nat}{lu:Int}(h:Lp n ts kv w dn (q::rest))(hq:q<n)(he:w q-1=0)
  (yt:∀x∈dn,∃l,(x,l)∈kv/\l<=lu) (hu:(u,lu)∈kv) (ht:∃t∈ts,t.2.1=q/\t.1=u) (WQ:∀x∈kv,x.2<=lu+1):Lp n ts (kv++[(q,lu+1)]) (fun x=>if x=q then w q-1 else w x) dn rest:=by
 obtain⟨h1,h2⟩:=h.less hq;have hw:=h.wc q hq;rw[List.count_cons_self] at hw;have hc:eA ts dn q=0:=by omega
 have hk:keys (kv++[(q,lu+1)])=keys kv++[q]:=by unfold keys;simp
 refine⟨?_,fun p hp=>?_,fun p hp t dW e=>?_,fun p hp=>?_,fun x hx=>?_,fun x hx=>?_,?_⟩
 ·rw[hk,bJ];refine⟨h.nd,by simp,fun a ha b hb=>?_⟩;simp at hb;subst hb;exact fun z=>h2 (z▸ha)
 ·rcases aw.mp hp with hp | hp
  ·exact h.lt p hp
  ·simp at hp;subst hp;exact hq
 ·rcases aw.mp hp with hp | hp
  ·obtain⟨l,l1,l2⟩:=h.up p hp t dW e;exact⟨l,aO _ l1,l2⟩
  ·simp at hp;subst hp;unfold eA at hc;rw[List.countP_eq_zero] at hc;have:=hc t dW;simp only[bF,beq_iff_eq,Bool.not_eq_true',List.contains_eq_mem,decide_eq_false_iff_not] at this;have hm:t.1∈dn:=Classical.byContradiction fun z=>this ⟨e,z⟩
   obtain⟨l,l1,l2⟩:=yt _ hm;exact⟨l,aO _ l1,by dsimp only;omega⟩
 ·rcases aw.mp hp with hp | hp
  ·rcases h.top p hp with z | ⟨t,t1,t2,t3⟩
   ·exact .inl z
   ·exact .inr ⟨t,t1,t2,aO _ t3⟩
  ·simp at hp;subst hp;obtain⟨t,t1,t2,t3⟩:=ht;refine .inr ⟨t,t1,t2,aO _ ?_⟩;rw[t3];dsimp only;rw[show lu+1-1=lu by omega];exact hu
 ·rw[hk];split
  ·rename_i e;subst e;simp[he]
  ·rename_i e;rw[h.wz x hx];simp[e]
 ·have:=h.wc x hx;rw[List.count_cons] at this;split
  ·rename_i e;subst e;simp at this;omega
  ·rename_i e;have e2:(q==x)=false:=by simpa using Ne.symm e
   simp[e2] at this;exact this
 ·rw[List.pairwise_append];refine⟨h.j0,by simp,fun a ha b hb=>?_⟩;simp at hb;subst hb;exact WQ a ha
theorem Lp.next{n:Nat}{ts:List Tr}{kv:List (Nat×Int)}{w:Nat->Nat}{dn:List Nat}{u:Nat}(h:Lp n ts kv w dn [])(hu:u∉dn):Lp n ts kv w (dn++[u]) (jS ts u):=by
 refine⟨h.nd,h.lt,h.up,h.top,h.wz,fun x hx=>?_,h.j0⟩;rw[h.wc x hx,List.count_nil,Nat.add_zero,Qs ts dn u x hu]
end Wc
namespace Wc
open PySem L2 PyProof.Rows
end Wc
open PySem L2 PyProof.Rows Wc
local macro_rules | `(tactic| walk_at "px")=>`(tactic| (repeat(first | walk_at "b" | simp only[nD,kT,uJ,oX,rR,oV,kQ,sX,mT,qL,oS,tf,oU,nE])))
namespace Wc
open PySem L2 PyProof.Rows
noncomputable def i9(s:Int)(x:Nat):Int:=kS s (x+600)*128+x
def tN:dZ:=fun ds Q=>∃(s:Int) (x:Nat),ds=[.int s,.int x]/\x<=1000/\Q (.fz (.int (i9 s x)))
def DI:TX:=(fJ (b9 e9 (b9 (oI iG fun i j=>.int (i*j)) (eD 2 qj (cg (bW 0) (cg (b9 e9 (bW 1) (dC (.int 600))) cx))) (dC (.int 128))) (bW 1)))
theorem TZ(ds:List D)(Qr:R->Prop)(hl:ds.length=2)(h:tN ds Qr):DI { nx:=fun _=>Qr (.fz .non),rt:=Qr } (fR ["_law_seed","_law_piece"] ds):=by
 obtain⟨s,x,rfl,hx,q⟩:=h;show DI _ [.fz (.int s),.fz (.int x)];unfold DI;walk_at "px";have h1:=BV s (x+600);have h2:=Mu s (x+600);refine⟨s,x+600,rfl,by omega,by omega,?_⟩;walk_at "px";exact q
theorem Hc(ts:List Tr)(p q:Nat)(c:Int):ts.map dT++[.tup [.int (p:Nat),.int (q:Nat),.int c]]=(ts++[(p,q,c)]).map dT:=by rw[aJ];rfl
def Up(s:Int)(ts:List Tr):Prop:=∀t∈ts,i9 s t.1<i9 s t.2.1
def xI:dZ:=fun ds Q=>∃(s:Int) (cells:List Int) (n:Nat),ds=[.int s,dI cells,.int n]/\cells.length<=1000/\n<=128/\∀ts,kF n ts->ts.length<=cells.length->Up s ts->Q (.ow (ts.map dT))
def DP:TX:=(cD (iI 3 (lR cx))
 (cD (ir (wB (cg (bW 1) cx)) (j6 2 (fh (cY 4) (fh (cY 5) jA))) (cD (dG 6 (eD 2 qj (cg (bW 5) (cg (b9 e9 (bW 4) (dC (.int 150))) cx))))
 (cD (dG 7 (b9 (oI (fun _ j=>0<j) fun i j=>.int (i%j)) (bW 6) (fU oQ (cg (dC (.int 1)) (cg (bW 2) cx)))))
 (cD (dG 8 (b9 (oI (fun _ j=>0<j) fun i j=>.int (i%j)) (b9 (oI jH fun i j=>.int (i/j)) (bW 6) (dC (.int 128))) (fU oQ (cg (dC (.int 1)) (cg (bW 2) cx)))))
 (iY (vY (eM (b9 A6 (bW 7) (bW 8))) (eM (b9 (fB fun i j=>.bl (decide (i<j))) (eD 2 tN (cg (bW 0) (cg (bW 7) cx))) (eD 2 tN (cg (bW 0) (cg (bW 8) cx)))))) (nB 3 (jU (cg (bW 7) (cg (bW 8) (cg (b9 (oI (fun _ j=>0<j) fun i j=>.int (i%j)) (b9 (oI jH fun i j=>.int (i/j)) (bW 6) (dC (.int 16384))) (dC (.int 41))) cx))))) (iY (eM (b9 A6 (bW 7) (bW 8))) (nB 3 (jU (cg (bW 8) (cg (bW 7) (cg (b9 (oI (fun _ j=>0<j) fun i j=>.int (i%j)) (b9 (oI jH fun i j=>.int (i/j)) (bW 6) (dC (.int 16384))) (dC (.int 41))) cx))))) jd))))))
 (nE 3)))
theorem Hb{s:Int}{p q:Nat}(hp:p<128)(hq:q<128)(cE:p≠q):i9 s p≠i9 s q:=by
 unfold i9;generalize kS s (p+600)=a;generalize kS s (q+600)=b;omega
theorem UI(ds:List D)(Qr:R->Prop)(hl:ds.length=3)(h:xI ds Qr):DP { nx:=fun _=>Qr (.fz .non),rt:=Qr } (fR ["_law_seed","_law_cells","_law_many","_law_above","_law_k","_law_cell","_law_one","_law_p","_law_q"] ds):=by
 obtain⟨s,cells,n,rfl,hc,hn,q⟩:=h;show DP _ [.fz (.int s),.fz (dI cells),.fz (.int n),.un,.un,.un,.un,.un,.un];unfold DP dI;have big:=i8;walk_at "px";refine⟨ba _,?_⟩;walk_at "go";refine Jl cells D.int (fun Q' h=>?_) (fun i ρ=>∃(ts:List Tr) (a b c d e:Sl),ρ=[.fz (.int s),.fz (.lst (cells.map .int)),.fz (.int n),.ow (ts.map dT),a,b,c,d,e]/\kF n ts/\ts.length<=i/\Up s ts) ⟨[],_,_,_,_,_,rfl,fun t ht=>(by cases ht),az _,fun t ht=>(by cases ht)⟩ ?_ ?_
 ·walk_at "px";exact h
 ·rintro i cell ρ hi ⟨ts,a,b,c,d,e,rfl,v,len,up⟩;have uw:i<cells.length:=(aj.mp hi).1;walk_at "px";refine⟨cell,(i:Int)+150,rfl,by omega,by omega,?_⟩;have o0:=BV cell ((i:Int)+150);generalize kS cell ((i:Int)+150)=one at o0;walk_at "go";have hm:(if (n:Int)>1 then(n:Int) else 1)=max 1 (n:Int):=by split<;>omega
  have pI:∀Q:R->Prop,oQ [D.int 1,D.int n] Q=Q (.fz (.int (max 1 (n:Int)))):=fun Q=>by
   show Q (.fz (.int (if (n:Int)>1 then(n:Int) else 1)))=_;rw[hm]
  simp only[pI];have vJ:0<max 1 (n:Int):=by omega
  refine⟨vJ,?_⟩;obtain⟨p,hp⟩:∃p:Nat,one%max 1 (n:Int)=(p:Int):=⟨(one%max 1 (n:Int)).toNat,(Int.toNat_of_nonneg (bR _ (by omega))).symm⟩
  have jc:=Int.emod_lt_of_pos one vJ;rw[hp] at jc ⊢;walk_at "go";simp only[pI];refine⟨vJ,?_⟩;obtain⟨qq,hq⟩:∃p:Nat,one/128%max 1 (n:Int)=(p:Int):=⟨(one/128%max 1 (n:Int)).toNat,(Int.toNat_of_nonneg (bR _ (by omega))).symm⟩
  have Kr:=Int.emod_lt_of_pos (one/128) vJ;rw[hq] at Kr ⊢;walk_at "go";have low:∀t:Tr,t.1<n->t.2.1<n->i9 s t.1<i9 s t.2.1->kF n (ts++[t])/\(ts++[t]).length<=i+1/\Up s (ts++[t]):=fun t h1 h2 h3=>by
   refine⟨fun x hx=>?_,by rw[a9];simp;omega,fun x hx=>?_⟩
   ·rcases aw.mp hx with hx | hx
    ·exact v x hx
    ·simp at hx;subst hx;exact⟨h1,h2⟩
   ·rcases aw.mp hx with hx | hx
    ·exact up x hx
    ·simp at hx;subst hx;exact h3
  by_cases cE:p=qq
  ·subst cE;simp only[decide_true,Bool.not_true,aF,bE];exact⟨ts,_,_,_,_,_,rfl,v,by omega,up⟩
  ·have uv:¬((p:Int)=(qq:Int)):=by omega
   have sH:p<n:=by omega
   have jb:qq<n:=by omega
   simp only[uv,decide_false,ar,bO];refine⟨s,p,rfl,by omega,s,qq,rfl,by omega,?_⟩;walk_at "px";by_cases hr:i9 s p<i9 s qq
   ·rw[if_pos hr];rw[Hc];exact⟨by omega,by rw[af];omega,ts++[(p,qq,one/16384%41)],_,_,_,_,_,rfl,low _ sH jb hr⟩
   ·rw[if_neg hr];have yz:i9 s qq<i9 s p:=by
     have:=Hb (s:=s) (p:=p) (q:=qq) (by omega) (by omega) cE;omega
    rw[Hc];exact⟨by omega,by rw[af];omega,ts++[(qq,p,one/16384%41)],_,_,_,_,_,rfl,low _ jb sH yz⟩
 ·rintro ρ ⟨ts,a,b,c,d,e,rfl,v,len,up⟩;walk_at "go";exact q ts v len up
end Wc
namespace Wc
open PySem L2 PyProof.Rows
local macro_rules | `(tactic| walk_at "px")=>`(tactic| (repeat(first | walk_at "b" | simp only[Dl,AN,wL,Ad])))
def xG:dZ:=fun ds Q=>∃p q:Pc,ds=[c6 p,c6 q]/\Q (.fz (dJ (uI p q)))
def DH:TX:=(cD (dG 2 (fU oQ (cg (b9 cJ (bW 0) (dC (.int 1))) (cg (b9 cJ (bW 1) (dC (.int 1))) cx))))
 (cD (iY (eM (b9 (fB fun i j=>.bl (decide (j<i))) (bW 2) (fU uL (cg (b9 cJ (bW 0) (dC (.int 2))) (cg (b9 cJ (bW 1) (dC (.int 2))) cx))))) (fJ (dC .non)) jd)
 (fJ (bW 2))))
theorem TY(ds:List D)(Qr:R->Prop)(hl:ds.length=2)(h:xG ds Qr):DH { nx:=fun _=>Qr (.fz .non),rt:=Qr } (fR ["one","other","column"] ds):=by
 obtain⟨p,q,rfl,Q⟩:=h;show DH _ [.fz (c6 p),.fz (c6 q),.un];unfold DH c6;walk_at "px";refine⟨_,rfl,_,rfl,?_⟩;simp only[oQ,qg,GC];walk_at "go";refine⟨_,rfl,_,rfl,?_⟩;unfold uL;walk_at "px";unfold uI at Q;generalize (if q.l>p.l then q.l else p.l)=a at Q ⊢;generalize (if q.r<p.r then q.r else p.r)=b at Q ⊢;by_cases h:b<a
 ·rw[if_pos h] at Q;rw[if_pos h];exact Q
 ·rw[if_neg h] at Q;rw[if_neg h];walk_at "go";exact Q
end Wc
namespace Wc
open PySem L2 PyProof.Rows
local macro_rules | `(tactic| walk_at "px")=>`(tactic| (repeat(first | walk_at "b" | simp only[Dl,AN,wL,Ad])))
noncomputable def nH(p q:Pc):Bool:=decide (uI p q=none)||(decide (p.n≠none)&&decide (p.n=q.n))
def xF:dZ:=fun ds Q=>∃p q:Pc,ds=[c6 p,c6 q]/\Q (.fz (.bl (nH p q)))
def DG:TX:=(fJ (FO (b9 (nC false) (eD 2 xG (cg (bW 0) (cg (bW 1) cx))) (dC .non)) (uP (b9 (nC true) (b9 cJ (bW 0) (dC (.int 0))) (dC .non)) (b9 oEq (b9 cJ (bW 0) (dC (.int 0))) (b9 cJ (bW 1) (dC (.int 0)))))))
theorem TV(ds:List D)(Qr:R->Prop)(hl:ds.length=2)(h:xF ds Qr):DG { nx:=fun _=>Qr (.fz .non),rt:=Qr } (fR ["one","other"] ds):=by
 obtain⟨p,q,rfl,Q⟩:=h;show DG _ [.fz (c6 p),.fz (c6 q)];unfold DG;walk_at "px";refine⟨p,q,rfl,?_⟩;unfold nH at Q;unfold c6;cases hc:uI p q with
 | none=>
  rw[hc] at Q;simp only[dJ,qg];simpa using Q
 | some c=>
  rw[hc] at Q;simp only[dJ,qg];refine⟨_,rfl,?_⟩;cases hn:p.n with
  | none=>
   rw[hn] at Q;simp only[dO,qg];simpa using Q
  | some x=>
   rw[hn] at Q;simp only[show dO (some x)=D.str x from rfl];walk_at "px";refine⟨_,rfl,_,rfl,?_⟩;walk_at "px";simpa using Q
end Wc
namespace Wc
open PySem L2 PyProof.Rows
noncomputable def dA{α:Type}(f:α->D)(kv:List (Nat×α)):List (Key×D):=kv.map fun p=>(.inl (p.1:Int),f p.2)
noncomputable def cv{α:Type}(kv:List (Nat×α))(n:Nat):Option α:=(kv.find? fun p=>decide (p.1=n)).map (·.2)
noncomputable def kR{α:Type}(kv:List (Nat×α))(n:Nat)(x:α):List (Nat×α):=
 if (kv.any fun p=>decide (p.1=n))=true then kv.map (fun p=>if p.1=n then(p.1,x) else p) else kv++[(n,x)]
theorem BU(a b:Nat):((Sum.inl (a:Int):Key)=Sum.inl (b:Int))=(a=b):=by
 apply propext;constructor
 ·intro z;injection z with z;omega
 ·rintro rfl;rfl
theorem qi{α:Type}(f:α->D)(kv:List (Nat×α))(n:Nat):look (dA f kv) (.inl (n:Int))=(cv kv n).map f:=by
 induction kv with
 | nil=>rfl
 | cons a r ih=>
  unfold dA look cv;rw[au,bh,bh];simp only[BU];by_cases h:a.1=n
  ·simp[h]
  ·simp only[h,decide_false];exact ih
theorem Ac{α:Type}(f:α->D)(kv:List (Nat×α))(n:Nat)(x:α):kP (dA f kv) (.inl (n:Int)) (f x)=dA f (kR kv n x):=by
 have e:((dA f kv).any fun p=>decide (p.1=Sum.inl (n:Int)))=kv.any fun p=>decide (p.1=n):=by
  unfold dA;rw[List.any_map];congr 1
  funext p
  simp only[Function.comp_apply,BU]
 unfold kP kR;rw[e];split
 ·unfold dA;rw[aE,aE];refine List.map_congr_left fun p _=>?_
  simp only[Function.comp_apply,BU];split<;>rfl
 ·unfold dA;simp
theorem vh{α:Type}(kv:List (Nat×α))(n:Nat):(cv kv n).isSome=true↔n∈kv.map (·.1):=by
 induction kv with
 | nil=>simp[cv]
 | cons a r ih=>
  unfold cv;rw[bh,au,aq];by_cases h:a.1=n
  ·simp[h]
  ·simp only[h,decide_false];rw[show((List.find? (fun p=>decide (p.1=n)) r).map (·.2))=cv r n from rfl,ih];simp[Ne.symm h]
theorem se{α:Type}(a:Nat×α)(r:List (Nat×α))(n:Nat):cv (a::r) n=if a.1=n then some a.2 else cv r n:=by
 unfold cv;rw[bh];by_cases h:a.1=n
 ·simp[h]
 ·simp[h]
theorem Qq{α:Type}(kv:List (Nat×α))(n m:Nat)(x:α):cv (kv.map fun p=>if p.1=n then(p.1,x) else p) m=if m=n then(cv kv n).map (fun _=>x) else cv kv m:=by
 induction kv with
 | nil=>simp[cv]
 | cons a r ih=>
  rw[au,se,se,se,ih];by_cases h1:a.1=n
  ·rw[if_pos h1];by_cases h2:m=n
   ·subst h2;simp[h1]
   ·have:¬a.1=m:=fun z=>h2 (by omega)
    simp[h2,this]
  ·rw[if_neg h1];by_cases h2:m=n
   ·subst h2;simp[h1]
   ·simp[h2]
theorem Qp{α:Type}(kv:List (Nat×α))(n m:Nat)(x:α)(hn:cv kv n=none):cv (kv++[(n,x)]) m=if m=n then some x else cv kv m:=by
 induction kv with
 | nil=>
  rw[List.nil_append,se];by_cases h:n=m
  ·simp[h]
  ·simp[h,Ne.symm h]
 | cons a r ih=>
  rw[se] at hn;by_cases h1:a.1=n
  ·rw[if_pos h1] at hn;cases hn
  ·rw[if_neg h1] at hn;rw[List.cons_append,se,se,ih hn];by_cases h2:m=n
   ·subst h2;simp[h1]
   ·simp[h2]
theorem IH{α:Type}(kv:List (Nat×α))(n:Nat):(kv.any fun p=>decide (p.1=n))=(cv kv n).isSome:=by
 induction kv with
 | nil=>rfl
 | cons a r ih=>
  rw[List.any_cons,se,ih];by_cases h:a.1=n<;>simp[h]
theorem rY{α:Type}(kv:List (Nat×α))(n m:Nat)(x:α):cv (kR kv n x) m=if m=n then some x else cv kv m:=by
 unfold kR;rw[IH];split
 ·rename_i h;rw[Qq];split
  ·cases e:cv kv n with
   | none=>rw[e] at h;cases h
   | some y=>rfl
  ·rfl
 ·rename_i h;exact Qp kv n m x (by cases e:cv kv n with | none=>rfl | some y=>rw[e] at h;exact absurd rfl h)
theorem Cs{α:Type}(kv:List (Nat×α))(n:Nat)(x:α):(kR kv n x).length<=kv.length+1:=by
 unfold kR;split<;>simp
end Wc
namespace Wc
open PySem L2 PyProof.Rows
noncomputable def fK(ps:List Pc)(q:Nat):List Int:=[(bY ps q).l,(bY ps q).r,(q:Int)]
theorem vm(a b:Int)(xs ys:List Int):HT.b8 (a::xs) (b::ys)=if a=b then HT.b8 xs ys else decide (b<a):=by
 rfl
theorem CL{a b:List Int}(h:a.Perm b):a.sum=b.sum:=by
 induction h with
 | nil=>rfl
 | cons x _ ih=>simp[ih]
 | swap x y l=>simp;omega
 | trans _ _ h1 h2=>rw[h1,h2]
theorem As(f:Nat->Int):∀(L M:List Nat),L.Nodup->(∀x∈L,x∈M)->(∀x∈M,0<=f x)->(L.map f).sum<=(M.map f).sum
 | [],M,_,_,h=>by
  show 0<=_;induction M with
  | nil=>simp
  | cons a r ih=>
   have:=h a (by simp);have:=ih (fun x hx=>by cases hx) fun x hx=>h x (by simp[hx])
   simp;omega
 | x::L,M,nd,sub,h=>by
  have p:=List.perm_cons_erase (sub x bj);have e:=CL (p.map f);rw[e];have iB:=aL.mp nd;have:=As f L (M.erase x) iB.2 (fun y hy=>(List.mem_erase_of_ne (fun z:y=x=>iB.1 (z▸hy))).mpr (sub y (aB _ hy))) fun y hy=>h y (List.mem_of_mem_erase hy)
  simp only[au,List.sum_cons];omega
theorem Ji(ps:List Pc):((List.range ps.length).map fun q=>(bY ps q).k).sum=(ps.map Pc.k).sum:=by
 congr 1
 apply List.ext_getElem
 ·simp
 ·intro i h1 h2;have hi:i<ps.length:=by simpa using h1
  simp[j9 hi]
end Wc
namespace Wc
open PySem L2 PyProof.Rows
local macro_rules | `(tactic| walk_at "px")=>`(tactic| (repeat(first | walk_at "b" | simp only[nD,kT])))
structure eu (ps:List Pc) (ord:List Nat):Prop where
 pm:ord.Perm (List.range ps.length)
 j0:ord.Pairwise fun x y=>HT.b8 (fK ps y) (fK ps x)=true
theorem eu.nd{ps:List Pc}{ord:List Nat}(h:eu ps ord):ord.Nodup:=h.pm.nodup_iff.mpr List.nodup_range
theorem eu.mem{ps:List Pc}{ord:List Nat}(h:eu ps ord)(q:Nat):q∈ord↔q<ps.length:=by rw[h.pm.mem_iff,aP]
theorem eu.len{ps:List Pc}{ord:List Nat}(h:eu ps ord):ord.length=ps.length:=by rw[h.pm.length_eq,bP]
noncomputable def dH(l:List Nat):List D:=l.map fun(q:Nat)=>D.int (q:Int)
def vo:dZ:=fun ds Q=>∃ps:List Pc,ds=[dw ps]/\ps.length<=63/\∀ord,eu ps ord->Q (.ow (dH ord))
def Dk:TX:=(cD (dG 1 (fU vk (cg (fX (wB (cg (bW 0) cx)) [none,none] (j6 2 (fh (cY 0) (fh (cY 1) jA))) gX (jU (cg (b9 cJ (bW 1) (dC (.int 1))) (cg (b9 cJ (bW 1) (dC (.int 2))) (cg (bW 0) cx))))) cx)))
 (fJ (fX (gj (bW 1)) [none,none,none] (j6 3 (fh (cY 0) (fh (cY 1) (fh (cY 2) jA)))) gX (bW 2))))
theorem Tq(ds:List D)(Qr:R->Prop)(hl:ds.length=1)(h:vo ds Qr):Dk { nx:=fun _=>Qr (.fz .non),rt:=Qr } (fR ["pieces","keys"] ds):=by
 obtain⟨ps,rfl,hn,q⟩:=h;show Dk _ [.fz (dw ps),.un];unfold Dk;have big:=i8;walk_at "px";refine jY (List.range ps.length) (fun i=>.tup [.int (i:Nat),c6 (bY ps i)]) (fun i=>.tup ((fK ps i).map D.int)) (fun Q' h=>?_) (by simp;omega) (fun x hx K1 k=>?_) ?_
 ·unfold dw;walk_at "px";have e:qf (ps.map c6)=(List.range ps.length).map fun i=>D.tup [.int (i:Nat),c6 (bY ps i)]:=by
   unfold qf;apply List.ext_getElem
   ·simp
   ·intro i h1 h2;have hi:i<ps.length:=by simpa using h1
    simp[j9 hi]
  rw[e];exact h
 ·rw[show c6 (bY ps x)=.tup [dO (bY ps x).n,.int (bY ps x).l,.int (bY ps x).r,.int (bY ps x).k] from rfl];walk_at "px";refine⟨_,rfl,_,rfl,by omega,?_⟩;exact k
 ·simp only[qO,vk,C5];refine⟨by simp;omega,fun t ht=>?_,fun eN hp hs=>?_⟩
  ·obtain⟨i,_,rfl⟩:=aH.mp ht;simp[fK]
  ·obtain⟨ord,h1,rfl⟩:=xm hp rfl;have nd:ord.Nodup:=h1.nodup_iff.mpr List.nodup_range;have inj:∀x y,fK ps x=fK ps y->x=y:=fun x y e=>by unfold fK at e;simp at e;omega
   have io:eu ps ord:=by
    refine⟨h1,?_⟩;rw[bC] at hs;exact(hs.and nd).imp fun{a b} h=>wW _ _ h.1 fun z=>h.2 (inj _ _ z)
   walk_at "go";rw[aE];refine jY ord (fun q=>.tup ((fK ps q).map D.int)) (fun(q:Nat)=>.int (q:Int)) (fun Q' h=>?_) (by rw[io.len];omega) (fun x hx K1 k=>?_) ?_
   ·walk_at "px";exact h
   ·unfold fK;walk_at "px";exact k
   ·exact q ord io
end Wc
namespace Wc
open PySem L2 PyProof.Rows
noncomputable def gU(ps:List Pc)(tr:List Int)(x n:Nat)(t:Int):Bool:=HT.lexLt [dr tr x,(bY ps x).l,(bY ps x).r,(x:Int)] [t,(bY ps n).l,(bY ps n).r,(n:Int)]
structure sW (ps:List Pc) (ts:List Tr) (tr:List Int) (n:Nat) (t:Int):Prop where
 up:∀u∈ts,u.2.1=n->dr tr u.1+(bY ps u.1).k<=t
 free:∀x,x<ps.length->x≠n->gU ps tr x n t=true->((bY ps n).n=none\/(bY ps n).n≠(bY ps x).n)->¬(t<dr tr x+(bY ps x).k/\(bY ps x).l<=(bY ps n).r/\(bY ps n).l<=(bY ps x).r)
structure ko (ps:List Pc) (ts:List Tr) (tr:List Int):Prop where
 len:tr.length=ps.length
 lo:∀n,n<ps.length->0<=dr tr n
 hi:∀n,n<ps.length->dr tr n<=(ps.map Pc.k).sum
 ok:∀n,n<ps.length->sW ps ts tr n (dr tr n)
 least:∀n,n<ps.length->∀t,0<=t->t<dr tr n->¬sW ps ts tr n t
noncomputable abbrev Pl:=Nat×Int
noncomputable def dB(pl:List Pl):List Nat:=pl.map (·.1)
noncomputable def pj(ps:List Pc)(us:Nat->List Nat)(pl:List Pl)(t:Int)(q:Nat):Bool:=
 ((us q).all fun u=>pl.any fun p=>decide (p.1=u)&&decide (p.2+(bY ps u).k<=t))&&((pl.filter fun p=>decide (t<p.2+(bY ps p.1).k)).map (·.1)).all fun x=>nH (bY ps x) (bY ps q)
noncomputable def fq(ps:List Pc)(us:Nat->List Nat)(t:Int)(pl:List Pl)(q:Nat):List Pl:=if pj ps us pl t q=true then pl++[(q,t)] else pl
noncomputable def mr(ps:List Pc)(us:Nat->List Nat)(pl:List Pl)(e:Int×Nat):List Pl:=if e.2∈dB pl then pl else fq ps us e.1 pl e.2
noncomputable def fW(ord:List Nat)(pl:List Pl):List Nat:=ord.filter fun q=>decide (q∉dB pl)
noncomputable def row(ps:List Pc)(us:Nat->List Nat)(ord:List Nat)(t:Int)(pl:List Pl):List Pl:=(fW ord pl).foldl (fq ps us t) pl
noncomputable def gu(ps:List Pc)(us:Nat->List Nat)(ord:List Nat):Nat->List Pl
 | 0=>[]
 | n+1=>row ps us ord (n:Int) (gu ps us ord n)
noncomputable def kN(ord:List Nat):Nat->List (Int×Nat)
 | 0=>[]
 | n+1=>kN ord n++ord.map fun q=>((n:Int),q)
section
variable {ps:List Pc} {us:Nat->List Nat}
theorem Hn{t:Int}{pl:List Pl}{q x:Nat}(h:x≠q):x∈dB (fq ps us t pl q)↔x∈dB pl:=by
 unfold fq dB;split
 ·simp[h]
 ·rfl
theorem Cn{t:Int}(xW:List Pl):∀(o:List Nat) (pl:List Pl),o.Nodup->(∀q∈o,q∈dB pl↔q∈dB xW)->(o.filter fun q=>decide (q∉dB xW)).foldl (fq ps us t) pl=(o.map fun q=>(t,q)).foldl (mr ps us) pl
 | [],pl,_,_=>rfl
 | q::o,pl,nd,h=>by
  have iB:=aL.mp nd;rw[au,bw];by_cases hq:q∈dB xW
  ·rw[List.filter_cons_of_neg (by simp[hq])];have e:mr ps us pl (t,q)=pl:=by unfold mr;rw[if_pos ((h q bj).mpr hq)]
   rw[e];exact Cn xW o pl iB.2 fun x hx=>h x (aB _ hx)
  ·rw[List.filter_cons_of_pos (by simp[hq]),bw];have e:mr ps us pl (t,q)=fq ps us t pl q:=by unfold mr;rw[if_neg (fun z=>hq ((h q bj).mp z))]
   rw[e];exact Cn xW o _ iB.2 fun x hx=>by
    rw[Hn (fun z:x=q=>iB.1 (z▸hx))];exact h x (aB _ hx)
theorem CK{ord:List Nat}(nd:ord.Nodup):∀n,gu ps us ord n=(kN ord n).foldl (mr ps us) []
 | 0=>rfl
 | n+1=>by
  show row ps us ord (n:Int) (gu ps us ord n)=_;unfold row fW;rw[Cn _ ord _ nd fun q _=>Iff.rfl,kN,List.foldl_append,CK nd n]
noncomputable def at_(ps:List Pc)(us:Nat->List Nat)(E:List (Int×Nat))(j:Nat):List Pl:=(E.take j).foldl (mr ps us) []
theorem wU{E:List (Int×Nat)}{j:Nat}{e:Int×Nat}(h:E[j]?=some e):at_ ps us E (j+1)=mr ps us (at_ ps us E j) e:=by
 unfold at_;rw[aK,h,Option.toList_some,List.foldl_append];rfl
theorem Qh{pl:List Pl}{e:Int×Nat}{p:Pl}(h:p∈pl):p∈mr ps us pl e:=by
 unfold mr fq;split
 ·exact h
 ·split
  ·exact aO _ h
  ·exact h
theorem wR{E:List (Int×Nat)}:∀{i j:Nat},i<=j->∀p∈at_ ps us E i,p∈at_ ps us E j:=by
 intro i j h;induction h with
 | refl=>exact fun p hp=>hp
 | @step m _ ih=>
  intro p hp;cases hm:E[m]? with
  | none=>
   have e:at_ ps us E (m+1)=at_ ps us E m:=by unfold at_;rw[aK,hm];simp
   rw[e];exact ih p hp
  | some e=>rw[wU hm];exact Qh (ih p hp)
theorem uT{E:List (Int×Nat)}:∀{j:Nat} {p:Pl},p∈at_ ps us E j->∃i,i<j/\E[i]?=some (p.2,p.1)/\p.1∉dB (at_ ps us E i)/\pj ps us (at_ ps us E i) p.2 p.1=true
 | 0,p,h=>by simp[at_] at h
 | j+1,p,h=>by
  cases hm:E[j]? with
  | none=>
   have e:at_ ps us E (j+1)=at_ ps us E j:=by unfold at_;rw[aK,hm];simp
   rw[e] at h;obtain⟨i,h1,h2⟩:=uT h;exact⟨i,by omega,h2⟩
  | some e=>
   rw[wU hm] at h;unfold mr at h;split at h
   ·obtain⟨i,h1,h2⟩:=uT h;exact⟨i,by omega,h2⟩
   ·rename_i hn;unfold fq at h;split at h
    ·rename_i ho;rcases aw.mp h with h | h
     ·obtain⟨i,h1,h2⟩:=uT h;exact⟨i,by omega,h2⟩
     ·simp at h;subst h;exact⟨j,by omega,hm,hn,ho⟩
    ·obtain⟨i,h1,h2⟩:=uT h;exact⟨i,by omega,h2⟩
theorem uS{E:List (Int×Nat)}:∀j,(dB (at_ ps us E j)).Nodup
 | 0=>by simp[at_,dB]
 | j+1=>by
  cases hm:E[j]? with
  | none=>
   have e:at_ ps us E (j+1)=at_ ps us E j:=by unfold at_;rw[aK,hm];simp
   rw[e];exact uS j
  | some e=>
   rw[wU hm];unfold mr;split
   ·exact uS j
   ·rename_i hn;unfold fq;split
    ·unfold dB at hn ⊢;rw[aJ,bJ];exact⟨uS j,by simp,fun a ha b hb=>by simp at hb;subst hb;exact fun z=>hn (z▸ha)⟩
    ·exact uS j
theorem LF{pl:List Pl}(nd:(dB pl).Nodup){p q:Pl}(hp:p∈pl)(hq:q∈pl)(h:p.1=q.1):p=q:=by
 induction pl with
 | nil=>cases hp
 | cons a r ih=>
  unfold dB at nd;rw[au,aL] at nd;have mp:∀z:Pl,z∈r->z.1∈List.map (fun x=>x.1) r:=fun z hz=>aY (f:=(·.1)) hz
  rcases aq.mp hp with e1 | hp
  ·rcases aq.mp hq with e2 | hq
   ·rw[e1,e2]
   ·exact absurd (mp q hq) (by rw[<-h,e1];exact nd.1)
  ·rcases aq.mp hq with e2 | hq
   ·exact absurd (mp p hp) (by rw[h,e2];exact nd.1)
   ·exact ih nd.2 hp hq
end
end Wc
namespace Wc
open PySem L2 PyProof.Rows
theorem Ha(f:Nat->Int):∀L:List Nat,L≠[]->∃x∈L,∀y∈L,f x<=f y
 | [],h=>absurd rfl h
 | [a],_=>⟨a,by simp,fun y hy=>by simp at hy;subst hy;exact bU _⟩
 | a::b::r,_=>by
  obtain⟨x,h1,h2⟩:=Ha f (b::r) (by simp);by_cases h:f a<=f x
  ·exact⟨a,by simp,fun y hy=>by
    rcases aq.mp hy with rfl | hy
    ·exact bU _
    ·exact Int.le_trans h (h2 y hy)⟩
  ·exact⟨x,aB _ h1,fun y hy=>by
    rcases aq.mp hy with rfl | hy
    ·omega
    ·exact h2 y hy⟩
noncomputable def wt(ps:List Pc)(pl:List Pl):Int:=(pl.map fun p=>(bY ps p.1).k).sum
section
variable {ps:List Pc} {us:Nat->List Nat} {ts:List Tr} {ord:List Nat}
theorem Qf{t:Int}{pl:List Pl}{q:Nat}{p:Pl}(h:p∈pl):p∈fq ps us t pl q:=by
 unfold fq;split
 ·exact aO _ h
 ·exact h
theorem xj{t:Int}:∀(o:List Nat) (pl:List Pl) (p:Pl),p∈pl->p∈o.foldl (fq ps us t) pl
 | [],_,_,h=>h
 | q::o,pl,p,h=>xj o _ p (Qf h)
theorem CJ{t:Int}:∀(o:List Nat) (pl:List Pl) (p:Pl),p∈o.foldl (fq ps us t) pl->p∈pl\/(p.2=t/\p.1∈o)
 | [],_,_,h=>.inl h
 | q::o,pl,p,h=>by
  rcases CJ o _ p h with h | h
  ·unfold fq at h;split at h
   ·rcases aw.mp h with h | h
    ·exact .inl h
    ·simp at h;subst h;exact .inr ⟨rfl,by simp⟩
   ·exact .inl h
  ·exact .inr ⟨h.1,aB _ h.2⟩
def wJ(ps:List Pc)(us:Nat->List Nat)(pl:List Pl)(t:Int)(q:Nat):Prop:=∀u∈us q,∃x,(u,x)∈pl/\x+(bY ps u).k<=t
theorem Ck{pl:List Pl}{t:Int}{q:Nat}:pj ps us pl t q=true↔wJ ps us pl t q/\∀p∈pl,t<p.2+(bY ps p.1).k->nH (bY ps p.1) (bY ps q)=true:=by
 unfold pj wJ;rw[bF,List.all_eq_true,List.all_eq_true];constructor
 ·rintro⟨h1,h2⟩;refine⟨fun u hu=>?_,fun p hp ht=>h2 p.1 (aH.mpr ⟨p,aI.mpr ⟨hp,by simpa using ht⟩,rfl⟩)⟩;have:=h1 u hu;rw[List.any_eq_true] at this;obtain⟨p,hp,e⟩:=this;simp only[bF,aQ] at e;obtain⟨e1,e2⟩:=e;exact⟨p.2,by rw[<-e1];exact hp,e2⟩
 ·rintro⟨h1,h2⟩;refine⟨fun u hu=>?_,fun x hx=>?_⟩
  ·obtain⟨y,hy,e⟩:=h1 u hu;rw[List.any_eq_true];exact⟨(u,y),hy,by simpa using e⟩
  ·obtain⟨p,hp,rfl⟩:=aH.mp hx;obtain⟨sI,uq⟩:=aI.mp hp;exact h2 p sI (by simpa using uq)
theorem IG{t:Int}(hk:∀q,1<=(bY ps q).k):∀(o:List Nat) (pl:List Pl) (q:Nat),q∈o->wJ ps us pl t q->∃p∈o.foldl (fq ps us t) pl,t<p.2+(bY ps p.1).k
 | [],_,_,h,_=>by cases h
 | a::o,pl,q,h,hb=>by
  rw[bw];by_cases ha:pj ps us pl t a=true
  ·refine⟨(a,t),xj o _ _ ?_,?_⟩
   ·unfold fq;rw[if_pos ha];simp
   ·have:=hk a;show t<t+(bY ps a).k;omega
  ·have e:fq ps us t pl a=pl:=by unfold fq;rw[if_neg ha]
   rw[e];rcases aq.mp h with rfl | h
   ·rw[Ck] at ha;have:¬∀p∈pl,t<p.2+(bY ps p.1).k->nH (bY ps p.1) (bY ps q)=true:=fun z=>ha ⟨hb,z⟩
    by_cases hx:∃p∈pl,t<p.2+(bY ps p.1).k
    ·obtain⟨p,hp,ht⟩:=hx;exact⟨p,xj o pl p hp,ht⟩
    ·exact absurd (fun p hp ht=>absurd ⟨p,hp,ht⟩ hx) this
   ·exact IG hk o pl q h hb
theorem BS{t:Int}(hk:∀q,1<=(bY ps q).k):∀(o:List Nat) (pl:List Pl),(∀p∈pl,p.2+(bY ps p.1).k<=wt ps pl)->t<=wt ps pl->∀p∈o.foldl (fq ps us t) pl,p.2+(bY ps p.1).k<=wt ps (o.foldl (fq ps us t) pl)
 | [],_,h,_=>h
 | a::o,pl,h,ht=>by
  rw[bw];by_cases ha:pj ps us pl t a=true
  ·have e:fq ps us t pl a=pl++[(a,t)]:=by unfold fq;rw[if_pos ha]
   rw[e];have ew:wt ps (pl++[(a,t)])=wt ps pl+(bY ps a).k:=by unfold wt;simp
   have:=hk a;refine BS hk o _ (fun p hp=>?_) (by omega);rcases aw.mp hp with hp | hp
   ·have:=h p hp;omega
   ·simp at hp;subst hp;show t+(bY ps a).k<=_;omega
  ·have e:fq ps us t pl a=pl:=by unfold fq;rw[if_neg ha]
   rw[e];exact BS hk o pl h ht
theorem cH{pl:List Pl}{q:Nat}:q∈dB pl↔∃x,(q,x)∈pl:=by
 unfold dB;rw[aH];constructor
 ·rintro⟨p,hp,rfl⟩;exact⟨p.2,hp⟩
 ·rintro⟨x,hx⟩;exact⟨_,hx,rfl⟩
theorem Hm(hk:∀q,1<=(bY ps q).k)(ho:∀q,q∈ord↔q<ps.length){f:Nat->Int}(hf:∀q,q<ps.length->∀u∈us q,u<ps.length/\f u<f q):∀m,(∀p∈gu ps us ord m,p.2+(bY ps p.1).k<=wt ps (gu ps us ord m))/\((∃q,q<ps.length/\q∉dB (gu ps us ord m))->(m:Int)<=wt ps (gu ps us ord m))
 | 0=>⟨fun p hp=>absurd hp (by show p∉([]:List Pl);simp),fun _=>by show(0:Int)<=0;omega⟩
 | m+1=>by
  obtain⟨h1,h2⟩:=Hm hk ho hf m;show(∀p∈row ps us ord m (gu ps us ord m),_<=wt ps (row ps us ord m (gu ps us ord m)))/\((∃q,q<ps.length/\q∉dB (row ps us ord m (gu ps us ord m)))->((m+1:Nat):Int)<=wt ps (row ps us ord m (gu ps us ord m)));generalize gu ps us ord m=pl at h1 h2;by_cases hu:∃q,q<ps.length/\q∉dB pl
  ·have hm:=h2 hu;have h3:∀p∈row ps us ord m pl,p.2+(bY ps p.1).k<=wt ps (row ps us ord m pl):=BS hk _ pl h1 hm
   refine⟨h3,fun hq=>?_⟩;suffices hh:∃p∈row ps us ord m pl,(m:Int)<p.2+(bY ps p.1).k by
    obtain⟨p,hp,ht⟩:=hh;have:=h3 p hp;omega
   by_cases hx:∃p∈row ps us ord m pl,(m:Int)<p.2+(bY ps p.1).k
   ·exact hx
   ·have same:∀p∈row ps us ord m pl,p∈pl:=fun p hp=>by
     rcases CJ _ _ p hp with h | ⟨h,_⟩
     ·exact h
     ·have:=hk p.1;exact absurd ⟨p,hp,by omega⟩ hx
    have sk:∀q,q∈dB (row ps us ord m pl)->q∈dB pl:=fun q hq=>by
     obtain⟨x,hx⟩:=cH.mp hq;exact cH.mpr ⟨x,same _ hx⟩
    obtain⟨q0,EN,i3⟩:=hq;have ne:fW ord (row ps us ord m pl)≠[]:=fun z=>by
     have:q0∈fW ord (row ps us ord m pl):=aI.mpr ⟨(ho q0).mpr EN,by simpa using i3⟩;rw[z] at this;cases this
    obtain⟨q,hq,E7⟩:=Ha f _ ne;obtain⟨qa,qb⟩:=aI.mp hq;have qn:=(ho q).mp qa;simp only[decide_not,Bool.not_eq_true',decide_eq_false_iff_not] at qb;have hb:wJ ps us pl m q:=fun u hu=>by
     obtain⟨un,uf⟩:=hf q qn u hu;have up:u∈dB (row ps us ord m pl):=by
      by_cases z:u∈dB (row ps us ord m pl)
      ·exact z
      ·have:=E7 u (aI.mpr ⟨(ho u).mpr un,by simpa using z⟩);omega
     obtain⟨x,nW⟩:=cH.mp up;refine⟨x,same _ nW,?_⟩;by_cases z:x+(bY ps u).k<=(m:Int)
     ·exact z
     ·exact absurd ⟨_,nW,by show(m:Int)<x+(bY ps u).k;omega⟩ hx
    have hw:q∈fW ord pl:=aI.mpr ⟨qa,by
     simp only[decide_not,Bool.not_eq_true',decide_eq_false_iff_not];intro z;obtain⟨x,m6⟩:=cH.mp z;exact qb (cH.mpr ⟨x,xj _ _ _ m6⟩)⟩
    exact IG hk _ pl q hw hb
  ·have hw:fW ord pl=[]:=by
    unfold fW;rw[List.filter_eq_nil_iff];intro q hq;simp only[decide_not,Bool.not_eq_true',Bool.not_eq_false,aQ];by_cases z:q∈dB pl
    ·exact z
    ·exact absurd ⟨q,(ho q).mp hq,z⟩ hu
   have e:row ps us ord m pl=pl:=by unfold row;rw[hw];rfl
   rw[e];exact⟨h1,fun z=>absurd z hu⟩
theorem Hl:∀(N:Nat) (x:Nat) (y:Int),(x,y)∈gu ps us ord N->x∈ord
 | 0,x,y,hy=>absurd hy (by show _∉([]:List Pl);simp)
 | m+1,x,y,hy=>by
  rcases CJ _ _ _ hy with h | ⟨_,h⟩
  ·exact Hl m x y h
  ·exact(aI.mp h).1
theorem IF(hk:∀q,1<=(bY ps q).k)(nd:ord.Nodup)(ho:∀q,q∈ord↔q<ps.length){f:Nat->Int}(hf:∀q,q<ps.length->∀u∈us q,u<ps.length/\f u<f q){N:Nat}(hN:(N:Int)=(ps.map Pc.k).sum):∀q,q<ps.length->q∈dB (gu ps us ord N):=by
 intro q hq;by_cases z:q∈dB (gu ps us ord N)
 ·exact z
 ·have h2:=(Hm (us:=us) hk ho hf N).2 ⟨q,hq,z⟩;have hn:(q::dB (gu ps us ord N)).Nodup:=by
   rw[aL];refine⟨z,?_⟩;rw[CK nd,show(kN ord N).foldl (mr ps us) []=at_ ps us (kN ord N) (kN ord N).length by unfold at_;rw[aS]];exact uS _
  have sub:∀x∈q::dB (gu ps us ord N),x∈List.range ps.length:=fun x hx=>by
   rcases aq.mp hx with rfl | hx
   ·exact aP.mpr hq
   ·refine aP.mpr ((ho x).mp ?_);obtain⟨y,hy⟩:=cH.mp hx;exact Hl N x y hy
  have le:=As (fun q=>(bY ps q).k) _ _ hn sub fun x _=>by have:=hk x;omega
  rw[Ji,<-hN] at le;have ew:((q::dB (gu ps us ord N)).map fun q=>(bY ps q).k).sum=(bY ps q).k+wt ps (gu ps us ord N):=by
   unfold wt dB;rw[au,List.sum_cons,aE];rfl
  rw[ew] at le;have:=hk q;omega
noncomputable def l9(ps:List Pc)(e:Int×Nat):List Int:=e.1::fK ps e.2
theorem nr{N:Nat}{e:Int×Nat}:e∈kN ord N↔(0<=e.1/\e.1<N)/\e.2∈ord:=by
 induction N with
 | zero=>simp[kN];omega
 | succ n ih=>
  rw[kN,aw,ih,aH];constructor
  ·rintro(h | ⟨q,hq,rfl⟩)
   ·exact⟨⟨h.1.1,by omega⟩,h.2⟩
   ·exact⟨⟨by show(0:Int)<=n;omega,by show(n:Int)<(n+1:Nat);omega⟩,hq⟩
  ·rintro⟨⟨h0,h1⟩,h2⟩;by_cases h:e.1<n
   ·exact .inl ⟨⟨h0,h⟩,h2⟩
   ·exact .inr ⟨e.2,h2,by rw[show(n:Int)=e.1 by omega]⟩
theorem Hj(j0:ord.Pairwise fun x y=>HT.b8 (fK ps y) (fK ps x)=true):∀N,(kN ord N).Pairwise fun x y=>HT.b8 (l9 ps y) (l9 ps x)=true
 | 0=>.nil
 | n+1=>by
  rw[kN,List.pairwise_append];refine⟨Hj j0 n,?_,fun a ha b hb=>?_⟩
  ·rw[bC];refine j0.imp fun{a b} h=>?_
   unfold l9;rw[vm,if_pos rfl];exact h
  ·obtain⟨q,hq,rfl⟩:=aH.mp hb;have:=(nr.mp ha).1.2;unfold l9;rw[vm,if_neg (by show ¬(n:Int)=a.1;omega)];simpa using this
theorem Gq{E:List (Int×Nat)}(j0:E.Pairwise fun x y=>HT.b8 (l9 ps y) (l9 ps x)=true){i j:Nat}{a b:Int×Nat}(hi:E[i]?=some a)(hj:E[j]?=some b):i<j↔HT.b8 (l9 ps b) (l9 ps a)=true:=by
 have up:∀{i j:Nat} {a b:Int×Nat},E[i]?=some a->E[j]?=some b->i<j->HT.b8 (l9 ps b) (l9 ps a)=true:=fun{i j a b} hi hj h=>by
  obtain⟨h1,e1⟩:=aj.mp hi;obtain⟨h2,e2⟩:=aj.mp hj;have:=bN.mp j0 i j h1 h2 h;rw[e1,e2] at this;exact this
 refine⟨fun h=>up hi hj h,fun h=>?_⟩;rcases Nat.lt_trichotomy i j with c | c | c
 ·exact c
 ·subst c;rw[hi] at hj;cases hj;rw[HT.fu] at h;cases h
 ·have:=HT.ig _ _ (up hj hi c);rw[h] at this;cases this
noncomputable def lk(pl:List Pl)(q:Nat):Option Int:=(pl.find? fun p=>decide (p.1=q)).map (·.2)
theorem BJ{pl:List Pl}(nd:(dB pl).Nodup){q:Nat}{x:Int}(h:(q,x)∈pl):lk pl q=some x:=by
 unfold lk;cases hf:pl.find? fun p=>decide (p.1=q) with
 | none=>
  have:=List.find?_eq_none.mp hf _ h;simp at this
 | some p=>
  have h1:=List.mem_of_find?_eq_some hf;have h2:=List.find?_some hf;simp only[aQ] at h2;have:=LF nd h1 h h2;rw[this];rfl
theorem Hi{pl:List Pl}{q:Nat}(h:q∉dB pl):lk pl q=none:=by
 unfold lk;rw[Option.map_eq_none_iff,List.find?_eq_none];intro p hp z;simp at z;exact h (cH.mpr ⟨p.2,by rw[<-z];exact hp⟩)
theorem N6(pk:∀q,q<ps.length->1<=(bY ps q).k/\(bY ps q).l<=(bY ps q).r)(hk:∀q,1<=(bY ps q).k)(val:kF ps.length ts)(yr:∀q,q<ps.length->∀u,u∈us q↔∃c,((u,q,c):Tr)∈ts)(nd:ord.Nodup)(ho:∀q,q∈ord↔q<ps.length)
  (j0:ord.Pairwise fun x y=>HT.b8 (fK ps y) (fK ps x)=true) (od:Ord ps.length ts) {N:Nat} (hN:(N:Int)=(ps.map Pc.k).sum) :
  ko ps ts ((List.range ps.length).map fun q=>(lk (gu ps us ord N) q).getD 0):=by
 obtain⟨f,hf⟩:=od
 have all:=IF (us:=us) hk nd ho (f:=f) (fun q hq u hu=>by
  obtain⟨c,hc⟩:=(yr q hq u).mp hu;exact⟨(val _ hc).1,hf _ hc⟩) hN
 have eE:gu ps us ord N=at_ ps us (kN ord N) (kN ord N).length:=by rw[CK nd];unfold at_;rw[aS]
 rw[eE] at all ⊢;have sE:=Hj j0 N;have mE:∀e:Int×Nat,e∈kN ord N↔(0<=e.1/\e.1<N)/\e.2∈ord:=fun e=>nr
 generalize hE:kN ord N=E at all sE mE ⊢;have Vr:=uS (ps:=ps) (us:=us) (E:=E) E.length;generalize Km:((List.range ps.length).map fun q=>(lk (at_ ps us E E.length) q).getD 0)=tr;have JR:∀q x,q<ps.length->(q,x)∈at_ ps us E E.length->dr tr q=x:=fun q x hq h=>by
  rw[<-Km];unfold dr;rw[ao,List.getElem?_range hq];simp[BJ Vr h]
 have place:∀q,q<ps.length->∃i,i<E.length/\E[i]?=some (dr tr q,q)/\q∉dB (at_ ps us E i)/\pj ps us (at_ ps us E i) (dr tr q) q=true/\(q,dr tr q)∈at_ ps us E E.length:=fun q hq=>by
  obtain⟨x,hx⟩:=cH.mp (all q hq);have e:=JR q x hq hx;obtain⟨i,h1,h2,h3,h4⟩:=uT hx;rw[e];exact⟨i,h1,h2,h3,h4,hx⟩
 have ltN:∀q,q<ps.length->0<=dr tr q/\dr tr q<N:=fun q hq=>by
  obtain⟨i,_,h,_⟩:=place q hq;exact((mE _).mp (ay h)).1
 /- (y,its JS) is there ahead of event j Vy where it comes wI -/
 have there:∀y,y<ps.length->∀(j:Nat) b,E[j]?=some b->(HT.b8 (l9 ps b) (l9 ps (dr tr y,y))=true↔(y,dr tr y)∈at_ ps us E j):=fun y hy j b hb=>by
  obtain⟨i,h1,h2,h3,h4,h5⟩:=place y hy;rw[<-Gq sE h2 hb];constructor
  ·intro h;refine wR (i:=i+1) h _ ?_;rw[wU h2];unfold mr fq;rw[if_neg h3,if_pos h4];simp
  ·intro h;by_cases z:i<j
   ·exact z
   ·exact absurd (cH.mpr ⟨_,wR (by omega) _ h⟩) h3
 have Kh:∀j p,p∈at_ ps us E j->p.1<ps.length/\dr tr p.1=p.2:=fun j p hp=>by
  obtain⟨i,_,h2,_⟩:=uT hp;have h:=(ho _).mp ((mE _).mp (ay h2)).2;refine⟨h,JR p.1 p.2 h ?_⟩;by_cases z:j<=E.length
  ·exact wR z _ hp
  ·have e:at_ ps us E j=at_ ps us E E.length:=by unfold at_;rw[bD (by omega),aS]
   rw[<-e];exact hp
 have ah:∀y n t,gU ps tr y n t=HT.b8 (l9 ps (t,n)) (l9 ps (dr tr y,y)):=fun y n t=>by
  unfold gU;rw[AI];rfl
 have ic:∀y n,y<ps.length->n<ps.length->(nH (bY ps y) (bY ps n)=true↔(((bY ps n).n=none\/(bY ps n).n≠(bY ps y).n)->¬((bY ps y).l<=(bY ps n).r/\(bY ps n).l<=(bY ps y).r))):=fun y n hy hn=>by
  have a:=pk y hy;have b:=pk n hn;unfold nH;rw[N8];by_cases ov:(bY ps y).l<=(bY ps n).r/\(bY ps n).l<=(bY ps y).r
  ·rw[if_pos (by omega)];simp only[reduceCtorEq,decide_false,Bool.false_or,bF,aQ,ov,and_self,not_true];constructor
   ·rintro⟨h1,h2⟩ (h3 | h3)
    ·exact h1 (h2.trans h3)
    ·exact h3 h2.symm
   ·intro h;by_cases z:(bY ps n).n=none
    ·exact absurd (.inl z) h
    ·by_cases z2:(bY ps n).n=(bY ps y).n
     ·exact⟨by rw[<-z2];exact z,z2.symm⟩
     ·exact absurd (.inr z2) h
  ·rw[if_neg (by omega)];simp[ov]
 refine⟨by rw[<-Km];simp,fun n hn=>(ltN n hn).1,fun n hn=>by have:=(ltN n hn).2;omega,fun n hn=>?_,fun n hn t t0 t1=>?_⟩
 ·obtain⟨i,h1,h2,h3,h4,h5⟩:=place n hn;rw[Ck] at h4;refine⟨fun u hu e=>?_,fun y hy cE ha hd=>?_⟩
  ·obtain⟨x,nW,m6⟩:=h4.1 u.1 ((yr n hn u.1).mpr ⟨u.2.2,by rw[<-e];exact hu⟩);rw[(Kh i _ nW).2];exact m6
  ·rw[ah] at ha;have hm:=(there y hy i _ h2).mp ha;rintro⟨z1,z2⟩;have hs:=h4.2 (y,dr tr y) hm z1;exact(ic y n hy hn).mp hs hd z2
 ·obtain⟨i,h1,h2,h3,h4,h5⟩:=place n hn;have me:(t,n)∈E:=(mE _).mpr ⟨⟨t0,by have:=(ltN n hn).2;show t<(N:Int);omega⟩,(ho n).mpr hn⟩;obtain⟨j,hj⟩:=List.getElem?_of_mem me
  have Wu:j<i:=(Gq sE hj h2).mpr (by
   unfold l9;rw[vm,if_neg (by show ¬dr tr n=t;omega)];simpa using t1)
  have nj:n∉dB (at_ ps us E (j+1)):=fun z=>by
   obtain⟨x,hx⟩:=cH.mp z;exact h3 (cH.mpr ⟨x,wR Wu _ hx⟩)
  have J7:n∉dB (at_ ps us E j):=fun z=>by
   obtain⟨x,hx⟩:=cH.mp z;exact nj (cH.mpr ⟨x,wR (Nat.le_succ _) _ hx⟩)
  intro c;refine nj ?_;rw[wU hj];unfold mr fq;rw[if_neg J7,if_pos]
  ·rw[cH];exact⟨t,by simp⟩
  ·rw[Ck];refine⟨fun u hu=>?_,fun p hp ht=>?_⟩
   ·obtain⟨cc,hc⟩:=(yr n hn u).mp hu;have un:=(val _ hc).1;have h6:=c.up _ hc rfl;refine⟨dr tr u,(there u un j _ hj).mp ?_,h6⟩;have:=hk u;unfold l9;rw[vm,if_neg (by show ¬t=dr tr u;simp only at h6;omega)];simp only[aQ];simp only at h6;omega
   ·obtain⟨sI,uq⟩:=Kh j p hp;have Vh:p.1≠n:=fun z=>J7 (cH.mpr ⟨p.2,by rw[<-z];exact hp⟩)
    refine(ic p.1 n sI hn).mpr fun hd z=>?_
    refine c.free p.1 sI Vh ?_ hd ⟨by rw[uq];exact ht,z⟩;rw[ah];exact(there p.1 sI j _ hj).mpr (by rw[uq];exact hp)
end
end Wc
namespace Wc
open PySem L2 PyProof.Rows
local macro_rules | `(tactic| walk_at "px")=>`(tactic| (repeat(first | walk_at "b" | simp only[nD,kT,uJ,oX,rR,oV,kQ,sX,mT,qL,oS,tf,oU,nE,qE])))
theorem Qo{α:Type}{wi:iW}{m:List (Option Nat)}{g:gJ}{te:TD}{ρ:Ev}{Q:R->Prop}(L:List α)(φ:α->D)(f:α->List (Key×D))(hw:∀Q':List D->Prop,Q' (L.map φ)->wi ρ Q')(hl:L.length<=sizeLine)
  (h:∀x∈L,∀(K1:List (Key×D)->Prop),K1 (f x)->g (φ x) (c9 m ρ) fun dM=>te dM fun r=>match r with | .ov (.dc es)=>K1 es | _=>False) (q:Q (.ov (.ld (L.map f)))):wC wi m g gX te ρ Q:=by
 unfold wC;refine hw _ ⟨fun i acc=>acc=(L.take i).map f,by simp,fun i d acc hd ha=>?_,fun acc ha=>?_⟩
 ·subst ha;rw[ao] at hd;cases hx:L[i]? with
  | none=>rw[hx] at hd;cases hd
  | some x=>
   rw[hx] at hd;cases hd;have cS:i<L.length:=(aj.mp hx).1;have:=h x (ay hx) (fun es=>((L.take i).map f).length<sizeLine/\(L.take i).map f++[es]=(L.take (i+1)).map f) ⟨by simp;omega,by rw[aK,hx];simp⟩;exact this
 ·subst ha;simpa using q
noncomputable def dU(kv:List (Nat×Unit)):List (Key×D):=dA (fun _=>D.bl true) kv
noncomputable def gN(us:List (List (Nat×Unit)))(q:Nat):List Nat:=(us[q]?.getD []).map (·.1)
structure FU (ps:List Pc) (ts:List Tr) (us:List (List (Nat×Unit))):Prop where
 len:us.length=ps.length
 mem:∀q,q<ps.length->∀u,u∈gN us q↔∃c,((u,q,c):Tr)∈ts
def xE:dZ:=fun ds Q=>∃(ps:List Pc) (ts:List Tr),ds=[dw ps,gf ts]/\ps.length<=1000/\ts.length<=100000/\kF ps.length ts/\∀us,FU ps ts us->Q (.ov (.ld (us.map dU)))
def DF:TX:=(cD (iI 2 (wC (gj (bW 0)) [none] (cY 0) gX oV))
 (cD (ir (gj (bW 1)) (j6 3 (fh (cY 3) (fh (cY 4) (fh (cY 5) jA)))) (wg 2 (bW 4) (bW 3) (dC (.bl true))))
 (oU 2)))
theorem Qe{kv:List (Nat×Unit)}{n u:Nat}:u∈(kR kv n ()).map (·.1)↔u=n\/u∈kv.map (·.1):=by
 rw[<-vh,rY,<-vh];by_cases h:u=n
 ·simp[h]
 ·simp[h]
theorem TU(ds:List D)(Qr:R->Prop)(hl:ds.length=2)(h:xE ds Qr):DF { nx:=fun _=>Qr (.fz .non),rt:=Qr } (fR ["pieces","above","uppers","upper","lower","column"] ds):=by
 obtain⟨ps,ts,rfl,hn,kL,val,q⟩:=h;show DF _ [.fz (dw ps),.fz (gf ts),.un,.un,.un,.un];unfold DF;have big:=i8;walk_at "px";refine Qo ps c6 (fun _=>[]) (fun Q' h=>?_) (by omega) (fun x hx K1 k=>?_) ?_
 ·unfold dw;walk_at "px";exact h
 ·walk_at "px";exact k
 walk_at "go";refine o6 ts dT (fun Q' h=>?_) (fun i ρ=>∃(us:List (List (Nat×Unit))) (a b c:Sl),ρ=[.fz (dw ps),.fz (gf ts),.ov (.ld (us.map dU)),a,b,c]/\us.length=ps.length/\(∀q:Nat,((us[q]?.getD []).length<=i))/\∀q,q<ps.length->∀u,u∈gN us q↔∃c,((u,q,c):Tr)∈ts.take i) ?_ ?_ ?_
 ·unfold gf;walk_at "px";exact h
 ·refine⟨ps.map fun _=>[],_,_,_,by rw[aE];rfl,by simp,fun q=>?_,fun q hq u=>?_⟩
  ·rw[ao];cases ps[q]?<;>simp
  ·unfold gN;rw[ao];cases ps[q]?<;>simp
 ·rintro i t ρ hi ⟨us,a,b,c,rfl,hlen,hsz,hm⟩;have vt:=val t (ay hi);have uw:i<ts.length:=(aj.mp hi).1;rw[show dT t=.tup [.int t.1,.int t.2.1,.int t.2.2] from rfl];walk_at "px";show wg 2 _ _ _ _ _;unfold wg;simp only[gt];walk_at "px";have hq:us[t.2.1]?=some (us[t.2.1]'(by omega)):=ag (by omega);have hs:=hsz t.2.1;rw[hq,Option.getD_some] at hs;refine⟨t.2.1,dU (us[t.2.1]'(by omega)),by rw[af];exact vc (by omega),by rw[ao,hq];rfl,.inl (t.1:Int),rfl,by unfold dU dA;rw[af];omega,?_⟩;have ep:kP (dU (us[t.2.1]'(by omega))) (.inl (t.1:Int)) (.bl true)=dU (kR (us[t.2.1]'(by omega)) t.1 ()):=Ac (fun _=>D.bl true) _ t.1 ();rw[ep,<-List.map_set];refine⟨us.set t.2.1 (kR (us[t.2.1]'(by omega)) t.1 ()),_,_,_,rfl,by rw[List.length_set];exact hlen,fun q=>?_,fun q f6 u=>?_⟩
  ·rw[bQ];split
   ·split
    ·rename_i e _;have:=Cs (us[t.2.1]'(by omega)) t.1 ();rw[Option.getD_some];omega
    ·simp
   ·have:=hsz q;omega
  ·have e1:ts.take (i+1)=ts.take i++[t]:=by rw[aK,hi];rfl
   have old:=hm q f6 u;unfold gN at old ⊢;rw[bQ];by_cases e:t.2.1=q
   ·rw[if_pos e,if_pos (by omega),Option.getD_some,Qe];subst e;rw[hq,Option.getD_some] at old;rw[old,e1];constructor
    ·rintro(h | ⟨c,hc⟩)
     ·exact⟨t.2.2,by rw[h];simp⟩
     ·exact⟨c,aO _ hc⟩
    ·rintro⟨c,hc⟩;rcases aw.mp hc with hc | hc
     ·exact .inr ⟨c,hc⟩
     ·simp at hc;left
      rw[<-hc]
   ·rw[if_neg e,old,e1];constructor
    ·rintro⟨c,hc⟩;exact⟨c,aO _ hc⟩
    ·rintro⟨c,hc⟩;rcases aw.mp hc with hc | hc
     ·exact⟨c,hc⟩
     ·simp at hc;exact absurd (by rw[<-hc]) e
 ·rintro ρ ⟨us,a,b,c,rfl,hlen,hsz,hm⟩;walk_at "go";rw[aS] at hm;exact q us ⟨hlen,hm⟩
noncomputable def qH(kv:List (Nat×Unit))(en:List (Nat×Int))(t:Int):Bool:=kv.all fun u=>match cv en u.1 with
 | some e=>decide (e<=t)
 | none=>false
noncomputable def dE(en:List (Nat×Int)):List (Key×D):=dA D.int en
def xu:dZ:=fun ds Q=>∃(kv:List (Nat×Unit)) (en:List (Nat×Int)) (t:Int),ds=[.dic (dU kv),.dic (dE en),.int t]/\Q (.fz (.bl (qH kv en t)))
def Dz:TX:=(cD (ir (qE (bW 0)) (cY 3) (iY (zq (eM (b9 (sX true) (bW 3) (bW 1))) (eM (b9 (fB fun i j=>.bl (decide (j<i))) (mT (bW 1) (bW 3)) (bW 2)))) (fJ (dC (.bl false))) jd))
 (fJ (dC (.bl true))))
theorem Us(ds:List D)(Qr:R->Prop)(hl:ds.length=3)(h:xu ds Qr):Dz { nx:=fun _=>Qr (.fz .non),rt:=Qr } (fR ["uppers","ends","track","upper"] ds):=by
 obtain⟨kv,en,t,rfl,q⟩:=h;show Dz _ [.fz (.dic (dU kv)),.fz (.dic (dE en)),.fz (.int t),.un];unfold Dz;walk_at "px";refine o6 kv (fun p=>.int (p.1:Nat)) (fun Q' h=>?_) (fun i ρ=>∃a:Sl,ρ=[.fz (.dic (dU kv)),.fz (.dic (dE en)),.fz (.int t),a]/\qH (kv.take i) en t=true) ⟨_,rfl,rfl⟩ ?_ ?_
 ·walk_at "px";rw[show((dU kv).map fun p=>pY p.1)=kv.map fun p=>D.int (p.1:Nat) by unfold dU dA;rw[aE];rfl];exact h
 ·rintro i u ρ hi ⟨a,rfl,hb⟩;have e1:kv.take (i+1)=kv.take i++[u]:=by rw[aK,hi];rfl
  have mu:u∈kv:=ay hi;have more:(match cv en u.1 with | some e=>decide (e<=t) | none=>false)=true->qH (kv.take (i+1)) en t=true:=fun h=>by
   unfold qH at hb ⊢;rw[e1,List.all_append,hb,List.all_cons,List.all_nil,h];rfl
  have less:(match cv en u.1 with | some e=>decide (e<=t) | none=>false)=false->qH kv en t=false:=fun h=>by
   unfold qH;rw[Bool.eq_false_iff];intro z;rw[List.all_eq_true] at z;have:=z u mu;rw[h] at this;cases this
  walk_at "px";unfold dE;refine⟨_,rfl,?_⟩;rw[qi];cases hg:cv en u.1 with
  | none=>
   rw[hg] at less;rw[less rfl] at q;simp only[Option.map_none,Option.isSome_none,ar,bO];exact q
  | some e=>
   rw[hg] at less more;simp only[aM,Option.isSome_some,Bool.not_true,aF,bE];refine⟨_,_,rfl,by rw[qi,hg];rfl,?_⟩;simp only[aQ];by_cases he:t<e
   ·rw[if_pos he];rw[less (bz (by omega))] at q;exact q
   ·rw[if_neg he];exact⟨_,rfl,more (decide_eq_true (by omega))⟩
 ·rintro ρ ⟨a,rfl,hb⟩;rw[aS] at hb;walk_at "go";rw[hb] at q;exact q
def xA:dZ:=fun ds Q=>∃(ps:List Pc) (tg:List Nat) (n:Nat),ds=[dw ps,.lst (dH tg),.int n]/\tg.length<=100000/\n<ps.length/\(∀x∈tg,x<ps.length)/\Q (.fz (.bl (tg.all fun x=>nH (bY ps x) (bY ps n))))
def Dj:TX:=(fJ (fU zL (cg (fX (gj (bW 1)) [none,some 0,some 2] (cY 0) gX (eD 2 xF (cg (b9 cJ (bW 1) (bW 0)) (cg (b9 cJ (bW 1) (bW 2)) cx)))) cx)))
theorem Qd{ps:List Pc}{p:Nat}(hp:p<ps.length):di (ps.map c6) (p:Int)=some (c6 (bY ps p)):=by rw[nJ,show di ps (p:Int)=some (bY ps p) by rw[j9 hp];exact kJ hp];rfl
theorem To(ds:List D)(Qr:R->Prop)(hl:ds.length=3)(h:xA ds Qr):Dj { nx:=fun _=>Qr (.fz .non),rt:=Qr } (fR ["pieces","taking","number"] ds):=by
 obtain⟨ps,tg,n,rfl,XU,hn,hx,q⟩:=h;show Dj _ [.fz (dw ps),.fz (.lst (dH tg)),.fz (.int n)];unfold Dj;have big:=i8;walk_at "px";refine jY tg (fun(x:Nat)=>.int (x:Int)) (fun x=>.bl (nH (bY ps x) (bY ps n))) (fun Q' h=>?_) (by omega) (fun x Ki K1 k=>?_) ?_
 ·unfold dH;walk_at "px";exact h
 ·walk_at "px";unfold dw;walk_at "px";have g1:di ps (x:Int)=some (bY ps x):=by rw[j9 (hx x Ki)];exact kJ (hx x Ki)
  have g2:di ps (n:Int)=some (bY ps n):=by rw[j9 hn];exact kJ hn
  exact⟨_,g1,_,g2,bY ps x,bY ps n,rfl,k⟩
 ·rw[show(tg.map fun x=>D.bl (nH (bY ps x) (bY ps n)))=(tg.map fun x=>nH (bY ps x) (bY ps n)).map D.bl by rw[aE];rfl];simp only[qO,zL,Jb];rw[List.all_map];exact q
end Wc
namespace Wc
open PySem L2 PyProof.Rows
local macro_rules | `(tactic| walk_at "px")=>`(tactic| (repeat(first | walk_at "b" | simp only[nD,kT,uJ,oX,rR,oV,kQ,sX,mT,qL,oS,tf,oU,nE,qE,gt])))
noncomputable def kO(ps:List Pc)(pl:List Pl):List (Nat×Int):=pl.map fun p=>(p.1,p.2+(bY ps p.1).k)
noncomputable def mH(n:Nat)(pl:List Pl):List D:=(List.range n).map fun q=>dJ (lk pl q)
theorem Hh{ps:List Pc}{pl:List Pl}(u:Nat):cv (kO ps pl) u=(pl.find? fun p=>decide (p.1=u)).map fun p=>p.2+(bY ps p.1).k:=by
 unfold cv kO;induction pl with
 | nil=>rfl
 | cons a r ih=>
  rw[au,bh,bh];by_cases h:a.1=u
  ·simp[h]
  ·simp only[h,decide_false];exact ih
theorem IE{ps:List Pc}{pl:List Pl}(nd:(dB pl).Nodup){u:Nat}{x:Int}(h:(u,x)∈pl):cv (kO ps pl) u=some (x+(bY ps u).k):=by
 have:=BJ nd h;unfold lk at this;rw[Hh];cases hf:pl.find? fun p=>decide (p.1=u) with
 | none=>rw[hf] at this;cases this
 | some p=>
  rw[hf] at this;simp only[aM,aD] at this ⊢;have:=List.find?_some hf;simp only[aQ] at this;rw[this];omega
theorem OB{ps:List Pc}{us:List (List (Nat×Unit))}{pl:List Pl}{t:Int}{q:Nat}(nd:(dB pl).Nodup):(qH (us[q]?.getD []) (kO ps pl) t&&((pl.filter fun p=>decide (t<p.2+(bY ps p.1).k)).map (·.1)).all fun x=>nH (bY ps x) (bY ps q))=pj ps (gN us) pl t q:=by
 unfold pj;congr 1
 unfold qH gN;rw[List.all_map];congr 1
 funext u
 simp only[Function.comp_apply];rw[Bool.eq_iff_iff,List.any_eq_true];constructor
 ·intro h;rw[Hh] at h;cases hf:pl.find? fun p=>decide (p.1=u.1) with
  | none=>rw[hf] at h;cases h
  | some p=>
   rw[hf] at h;have h1:=List.mem_of_find?_eq_some hf;have h2:=List.find?_some hf;simp only[aQ] at h2;simp only[aM,aQ] at h;rw[h2] at h;exact⟨p,h1,by simp[h2,h]⟩
 ·rintro⟨p,hp,e⟩;simp only[bF,aQ] at e;obtain⟨e1,e2⟩:=e;have:(u.1,p.2)∈pl:=by rw[<-e1];exact hp
  rw[IE nd this];simpa using e2
theorem Mp{n:Nat}{pl:List Pl}{q:Nat}{t:Int}(hq:q<n)(hn:q∉dB pl):(mH n pl).set q (.int t)=mH n (pl++[(q,t)]):=by
 unfold mH;apply List.ext_getElem
 ·simp
 ·intro i h1 h2;have hi:i<n:=by simpa using h2
  rw[List.getElem_set];simp only[List.getElem_map,List.getElem_range];by_cases e:q=i
  ·subst e;rw[if_pos rfl];have:lk (pl++[(q,t)]) q=some t:=by
    unfold lk;rw[List.find?_append];have:=Hi hn;unfold lk at this;rw[Option.map_eq_none_iff] at this;rw[this];simp
   rw[this];rfl
  ·rw[if_neg e];congr 1
   unfold lk;rw[List.find?_append];cases List.find? (fun p=>decide (p.1=i)) pl with
   | some p=>rfl
   | none=>simp[e]
theorem Mo{ps:List Pc}{pl:List Pl}{q:Nat}{t:Int}(hn:q∉dB pl):kP (dE (kO ps pl)) (.inl (q:Int)) (.int (t+(bY ps q).k))=dE (kO ps (pl++[(q,t)])):=by
 unfold dE;rw[Ac];unfold kR;rw[if_neg]
 ·unfold kO;simp
 ·rw[IH,vh];intro z;apply hn;unfold kO at z;rw[aE] at z;exact z
theorem BR{n:Nat}{pl:List Pl}(nd:(dB pl).Nodup)(h:∀q∈dB pl,q<n):pl.length<=n:=by
 have:=As (fun _=>1) (dB pl) (List.range n) nd (fun x hx=>aP.mpr (h x hx)) (fun _ _=>by decide);have e:∀l:List Nat,(l.map fun _=>(1:Int)).sum=l.length:=fun l=>by
  induction l with
  | nil=>rfl
  | cons a r ih=>simp[ih];omega
 rw[e,e] at this;simp[dB] at this;omega
structure mI (n:Nat) (pl:List Pl):Prop where
 nd:(dB pl).Nodup
 lt:∀q∈dB pl,q<n
theorem mI.fq{ps:List Pc}{us:Nat->List Nat}{n:Nat}{pl:List Pl}{t:Int}{q:Nat}(h:mI n pl)(hq:q<n)(hn:q∉dB pl):mI n (fq ps us t pl q):=by
 unfold Wc.fq;split
 ·unfold dB at hn;refine⟨?_,fun x hx=>?_⟩
  ·unfold dB;rw[aJ,bJ];exact⟨h.nd,by simp,fun a ha b hb=>by simp at hb;subst hb;exact fun z=>hn (z▸ha)⟩
  ·unfold dB at hx;rw[aJ] at hx;rcases aw.mp hx with hx | hx
   ·exact h.lt x hx
   ·simp at hx;subst hx;exact hq
 ·exact h
theorem Cj{ps:List Pc}{us:Nat->List Nat}{n:Nat}{t:Int}:∀(a b:List Nat) (pl:List Pl),(a++b).Nodup->(∀q∈a++b,q<n/\q∉dB pl)->mI n pl->mI n (a.foldl (fq ps us t) pl)/\∀q∈b,q∉dB (a.foldl (fq ps us t) pl)
 | [],b,pl,_,h,ok=>⟨ok,fun q hq=>(h q hq).2⟩
 | x::a,b,pl,nd,h,ok=>by
  rw[List.cons_append,aL] at nd;have hx:=h x (by simp);refine Cj a b _ nd.2 (fun q hq=>?_) (ok.fq hx.1 hx.2);have Bg:=h q (by simp at hq ⊢;exact .inr hq);refine⟨Bg.1,?_⟩;rw[Hn (fun z:q=x=>nd.1 (z▸hq))];exact Bg.2
theorem Qn{pl:List Pl}{q:Nat}:rT (dJ (lk pl q))=decide (q∉dB pl):=by
 by_cases h:q∈dB pl
 ·obtain⟨x,hx⟩:=cH.mp h;have:lk pl q≠none:=fun z=>by
   unfold lk at z;rw[Option.map_eq_none_iff,List.find?_eq_none] at z;have:=z _ hx;simp at this
  cases hl:lk pl q with
  | none=>exact absurd hl this
  | some y=>simp[dJ,rT,h]
 ·rw[Hi h];simp[dJ,rT,h]
theorem Qm{ps:List Pc}{us:Nat->List Nat}{ord:List Nat}{t:Int}{pl:List Pl}(o:List Nat):(fW ord pl).filter (fun q=>decide (q∉dB (o.foldl (fq ps us t) pl)))=fW ord (o.foldl (fq ps us t) pl):=by
 unfold fW;rw[List.filter_filter];refine List.filter_congr fun q _=>?_
 by_cases h:q∈dB pl
 ·obtain⟨x,hx⟩:=cH.mp h;have:=cH.mpr ⟨x,xj (ps:=ps) (us:=us) (t:=t) o pl _ hx⟩;simp[h,this]
 ·simp[h]
theorem Mn{ps:List Pc}(h:∀p∈ps,p.k<=3):(ps.map Pc.k).sum<=3*ps.length:=by
 induction ps with
 | nil=>simp
 | cons a r ih=>
  have h1:=h a (by simp);have h2:=ih fun p hp=>h p (by simp[hp])
  simp only[au,List.sum_cons,aN];omega
def xf:dZ:=fun ds Q=>∃(ps:List Pc) (ts:List Tr),ds=[dw ps,gf ts]/\ps.length<=63/\ts.length<=100000/\kF ps.length ts/\Ord ps.length ts/\(∀p∈ps,1<=p.k/\p.k<=3/\p.l<=p.r)/\∀tr,ko ps ts tr->Q (.ow (tr.map .int))
theorem Jh(i:Nat)(te:TD)(ρ:Ev)(Q:R->Prop):qN i te ρ Q=te (iC i ρ) fun r=>wj r=true/\Q r:=rfl
def C4:TX:=(cD (dG 2 (eD 2 xE (cg (bW 0) (cg (bW 1) cx))))
 (cD (dG 3 (eD 1 vo (cg (bW 0) cx)))
 (cD (iI 4 (fX (gj (bW 0)) [none] (cY 0) gX (dC .non)))
 (cD (iI 5 oV)
 (cD (ir (oW (cg (fU uM (cg (fX (gj (bW 0)) [none] (cY 0) gX (b9 cJ (bW 0) (dC (.int 3)))) cx)) cx)) (cY 6) (cD (iI 7 (qN 5 (fX (qE (bW 5)) [none,some 6,some 5] (cY 0) (eM (b9 (fB fun i j=>.bl (decide (j<i))) (mT (bW 2) (bW 0)) (bW 1))) (bW 0))))
 (cD (ir (gj (bW 3)) (cY 8) (iY (vY (eM (wa 5 (eD 3 xu (cg (b9 cJ (bW 2) (bW 8)) (cg (bW 5) (cg (bW 6) cx)))))) (eM (wa 7 (eD 3 xA (cg (bW 0) (cg (bW 7) (cg (bW 8) cx))))))) (cD (oX 4 (bW 8) (bW 6))
 (cD (oS 5 (bW 8) (b9 e9 (bW 6) (b9 cJ (b9 cJ (bW 0) (bW 8)) (dC (.int 3)))))
 (nB 7 (bW 8)))) jd))
 (cD (iI 3 (qN 4 (fX (gj (bW 3)) [none,some 4] (cY 0) (eM (b9 (nC false) (b9 cJ (bW 1) (bW 0)) (dC .non))) (bW 0))))
 (uN 3 jd)))))
 (nE 4))))))
theorem SR(ds:List D)(Qr:R->Prop)(hl:ds.length=2)(h:xf ds Qr):C4 { nx:=fun _=>Qr (.fz .non),rt:=Qr } (fR ["pieces","above","uppers","waiting","tracks","ends","track","taking","number"] ds):=by
 obtain⟨ps,ts,rfl,hn,kL,val,od,pk,q⟩:=h;show C4 _ [.fz (dw ps),.fz (gf ts),.un,.un,.un,.un,.un,.un,.un];unfold C4;have big:=i8;have J2:∀x,x<ps.length->1<=(bY ps x).k/\(bY ps x).l<=(bY ps x).r:=fun x hx=>by rw[j9 hx];have:=pk _ (bI hx);exact⟨this.1,this.2.2⟩
 have hk:∀x,1<=(bY ps x).k:=fun x=>by
  by_cases hx:x<ps.length
  ·exact(J2 x hx).1
  ·unfold bY;rw[List.getElem?_eq_none (by omega)];decide
 have s0:0<=(ps.map Pc.k).sum:=by
  rw[<-Ji];have:=As (fun q=>(bY ps q).k) [] (List.range ps.length) List.nodup_nil (fun x hx=>by cases hx) fun x _=>by have:=hk x;omega
  simpa using this
 walk_at "px";refine⟨ps,ts,rfl,by omega,kL,val,fun us uo=>?_⟩;walk_at "go";refine⟨ps,rfl,by omega,fun ord io=>?_⟩;walk_at "go";refine jY ps c6 (fun _=>.non) (fun Q' h=>?_) (by omega) (fun x hx K1 k=>?_) ?_
 ·unfold dw;walk_at "px";exact h
 ·walk_at "px";exact k
 walk_at "go";walk_at "go";have s1:=Mn (ps:=ps) fun p hp=>(pk p hp).2.1
 have hN:(((ps.map Pc.k).sum.toNat:Nat):Int)=(ps.map Pc.k).sum:=Int.toNat_of_nonneg s0;show ir _ _ _ _ [Sl.fz (dw ps),Sl.fz (gf ts),Sl.fz (.lst ((us.map dU).map .dic)),Sl.fz (D.lst (dH ord)),
   Sl.ow (List.map (fun x=>D.non) ps),Sl.ov (OV.dc []),Sl.un,Sl.un,Sl.un]
 have XH:∀x,x<ps.length->us[x]?=some (us[x]?.getD []):=fun x hx=>by rw[ag (by rw[uo.len];exact hx)];rfl
 refine o6 (List.range (ps.map Pc.k).sum.toNat) (fun(i:Nat)=>.int (0+i)) (fun Q' h=>?_) (fun m ρ=>∃a b c:Sl,ρ=[Sl.fz (dw ps),Sl.fz (gf ts),Sl.fz (.lst ((us.map dU).map .dic)),Sl.fz (D.lst (dH (fW ord (gu ps (gN us) ord m)))),
   Sl.ow (mH ps.length (gu ps (gN us) ord m)),Sl.ov (OV.dc (dE (kO ps (gu ps (gN us) ord m)))),a,b,c]/\mI ps.length (gu ps (gN us) ord m)) ?_ ?_ ?_
 ·walk_at "px";refine jY ps c6 (fun p=>.int p.k) (fun Q' h=>?_) (by omega) (fun x hx K1 k=>?_) ?_
  ·unfold dw;walk_at "px";exact h
  ·unfold c6;walk_at "px";exact⟨_,rfl,k⟩
  ·rw[show(ps.map fun p=>D.int p.k)=(ps.map Pc.k).map D.int by rw[aE];rfl];walk_at "px";exact⟨by omega,by omega,h⟩
 ·refine⟨.un,.un,.un,?_,⟨List.nodup_nil,fun q hq=>by cases hq⟩⟩;have e1:fW ord (gu ps (gN us) ord 0)=ord:=by
   unfold fW gu;rw[List.filter_eq_self];intro a _;simp[dB]
  have e2:mH ps.length (gu ps (gN us) ord 0)=ps.map fun _=>D.non:=by
   unfold mH gu;apply List.ext_getElem
   ·simp
   ·intro i h1 h2;simp[lk,dJ]
  rw[e1,e2];rfl
 ·rintro m m' ρ hm ⟨a,b,c,rfl,ok⟩;have vJ:m'=m:=by
   obtain⟨hh,e⟩:=aj.mp hm;rw[List.getElem_range] at e;exact e.symm
  subst vJ;have er:gu ps (gN us) ord (m'+1)=row ps (gN us) ord (m':Int) (gu ps (gN us) ord m'):=rfl;rw[er];generalize gu ps (gN us) ord m'=pl at ok;rw[Int.zero_add];generalize (m':Int)=t;have JP:(fW ord pl).Nodup:=io.nd.filter _;have wq:∀x∈fW ord pl,x<ps.length/\x∉dB pl:=fun x hx=>by
   obtain⟨h1,h2⟩:=aI.mp hx;exact⟨(io.mem x).mp h1,by simpa using h2⟩
  walk_at "px";rw[Jh];refine vp pl (fun p=>.int (p.1:Nat)) (fun p=>.int (p.1:Nat)) (fun p=>decide (t<p.2+(bY ps p.1).k)) (fun Q' h=>?_) (by have:=BR ok.nd ok.lt;omega) (fun p hp K1 K0 k1 k0=>?_) ?_
  ·walk_at "px";show Q' ((dE (kO ps pl)).map fun p=>pY p.1);rw[show((dE (kO ps pl)).map fun p=>pY p.1)=pl.map fun p=>D.int (p.1:Nat) by unfold dE dA kO;rw[aE,aE];rfl];exact h
  ·have hg:=IE (ps:=ps) ok.nd (u:=p.1) (x:=p.2) hp;walk_at "px";refine⟨_,_,rfl,by unfold dE;rw[qi,hg];rfl,?_⟩;simp only[aQ];by_cases h:t<p.2+(bY ps p.1).k
   ·rw[if_pos h];exact k1 (decide_eq_true h)
   ·rw[if_neg h];exact k0 (bz h)
  ·refine⟨by simp[wj,mU],?_⟩;walk_at "go";have Xh:=BR ok.nd ok.lt;have Xe:∀l:List Pl,(l.map fun p=>D.int (p.1:Nat))=dH (l.map (·.1)):=fun l=>by unfold dH;rw[aE];rfl
   rw[Xe];refine o6 (fW ord pl) (fun(x:Nat)=>.int (x:Int)) (fun Q' h=>?_) (fun i ρ=>∃(c:Sl) (gH:List Pl),gH=((fW ord pl).take i).foldl (fq ps (gN us) t) pl/\ρ=[Sl.fz (dw ps),Sl.fz (gf ts),Sl.fz (.lst ((us.map dU).map .dic)),Sl.fz (D.lst (dH (fW ord pl))),
    Sl.ow (mH ps.length gH),Sl.ov (OV.dc (dE (kO ps gH))),Sl.fz (.int t),.ow (dH ((gH.filter fun p=>decide (t<p.2+(bY ps p.1).k)).map (·.1))),c]) ⟨_,pl,rfl,rfl⟩ ?_ ?_
   ·unfold dH;walk_at "px";exact h
   ·rintro i x ρ hi ⟨c,gH,e2,rfl⟩;have uw:i<(fW ord pl).length:=(aj.mp hi).1;have et:(fW ord pl).take (i+1)=(fW ord pl).take i++[x]:=by rw[aK,hi];rfl
    have sp:(fW ord pl)=(fW ord pl).take i++(fW ord pl).drop i:=(List.take_append_drop i _).symm;obtain⟨t7,fr⟩:=Cj (ps:=ps) (us:=gN us) (t:=t) ((fW ord pl).take i) ((fW ord pl).drop i) pl (by rw[<-sp];exact JP) (fun q hq=>by rw[<-sp] at hq;exact wq q hq) ok;rw[<-e2] at t7 fr;have xd:x∈(fW ord pl).drop i:=by
     rw[List.mem_iff_getElem?];exact⟨0,by rw[List.getElem?_drop];exact hi⟩
    have xn:=fr x xd;have xl:=(wq x (ay hi)).1;have l2:=BR t7.nd t7.lt;have ob:=OB (ps:=ps) (us:=us) (t:=t) (q:=x) t7.nd;have J5:fq ps (gN us) t gH x=((fW ord pl).take (i+1)).foldl (fq ps (gN us) t) pl:=by rw[et,List.foldl_append,e2];rfl
    walk_at "px";have gx:di us (x:Int)=some (us[x]?.getD []):=by
     rw[show us[x]?.getD []=us[x]'(by rw[uo.len];exact xl) by rw[ag (by rw[uo.len];exact xl)];rfl];exact kJ (by rw[uo.len];exact xl)
    have J6:pj ps (gN us) gH t x=false->∃(c:Sl) (A3:List Pl),A3=((fW ord pl).take (i+1)).foldl (fq ps (gN us) t) pl/\([Sl.fz (dw ps),Sl.fz (gf ts),Sl.fz (.lst ((us.map dU).map .dic)),Sl.fz (D.lst (dH (fW ord pl))),
      Sl.ow (mH ps.length gH),Sl.ov (OV.dc (dE (kO ps gH))),Sl.fz (.int t),.ow (dH ((gH.filter fun p=>decide (t<p.2+(bY ps p.1).k)).map (·.1))),.fz (.int (x:Nat))]:Ev)=[Sl.fz (dw ps),Sl.fz (gf ts),Sl.fz (.lst ((us.map dU).map .dic)),Sl.fz (D.lst (dH (fW ord pl))),
      Sl.ow (mH ps.length A3),Sl.ov (OV.dc (dE (kO ps A3))),Sl.fz (.int t),.ow (dH ((A3.filter fun p=>decide (t<p.2+(bY ps p.1).k)).map (·.1))),c]:=fun h=>by
     refine⟨_,gH,?_,rfl⟩;rw[<-J5];unfold fq;rw[h];rfl
    refine⟨_,gx,us[x]?.getD [],kO ps gH,t,rfl,rfl,?_⟩;simp only[];cases hb:qH (us[x]?.getD []) (kO ps gH) t with
    | false=>
     simp only[aF,bE];exact J6 (by rw[<-ob,hb];rfl)
    | true=>
     simp only[bO];refine⟨ps,_,x,rfl,?_,xl,fun y hy=>?_,rfl,?_⟩
     ·rw[af];have:=bL (fun p:Pl=>decide (t<p.2+(bY ps p.1).k)) gH;omega
     ·obtain⟨p,hp,rfl⟩:=aH.mp hy;exact t7.lt _ (cH.mpr ⟨p.2,(aI.mp hp).1⟩)
     ·simp only[];cases hj:((gH.filter fun p=>decide (t<p.2+(bY ps p.1).k)).map (·.1)).all fun y=>nH (bY ps y) (bY ps x) with
      | false=>
       simp only[aF,bE];exact J6 (by rw[<-ob,hb,hj];rfl)
      | true=>
       simp only[bO];have yes:pj ps (gN us) gH t x=true:=by rw[<-ob,hb,hj];rfl
       have e3:fq ps (gN us) t gH x=gH++[(x,t)]:=by unfold fq;rw[yes];rfl
       have Vt:(mH ps.length gH).length=ps.length:=by unfold mH;simp
       refine⟨x,vc (by rw[Vt];exact xl),?_⟩;rw[Mp xl xn];walk_at "go";unfold dw;refine⟨_,Qd xl,?_⟩;rw[show c6 (bY ps x)=.tup [dO (bY ps x).n,.int (bY ps x).l,.int (bY ps x).r,.int (bY ps x).k] from rfl];refine⟨_,rfl,_,rfl,?_,?_⟩
       ·unfold dE dA kO;simp;omega
       rw[Mo xn];walk_at "go";refine⟨?_,?_⟩
       ·unfold dH;rw[af,af];have:=bL (fun p:Pl=>decide (t<p.2+(bY ps p.1).k)) gH;omega
       have ef:dH ((gH.filter fun p=>decide (t<p.2+(bY ps p.1).k)).map (·.1))++[D.int (x:Int)]=dH (((gH++[(x,t)]).filter fun p=>decide (t<p.2+(bY ps p.1).k)).map (·.1)):=by
        rw[List.filter_append,aJ];have:[((x,t):Pl)].filter (fun p=>decide (t<p.2+(bY ps p.1).k))=[(x,t)]:=by
         have:=hk x;rw[List.filter_cons_of_pos]
         ·rfl
         ·simp;omega
        rw[this];unfold dH;rw[aJ];rfl
       rw[ef];exact⟨_,gH++[(x,t)],by rw[<-J5,e3],rfl⟩
   ·rintro ρ ⟨c,gH,e2,rfl⟩;rw[aS] at e2;have e3:gH=row ps (gN us) ord t pl:=e2;walk_at "go";rw[Jh];refine vp (fW ord pl) (fun(x:Nat)=>.int (x:Int)) (fun(x:Nat)=>.int (x:Int)) (fun x=>decide (x∉dB gH)) (fun Q' h=>?_) ?_ (fun x hx K1 K0 k1 k0=>?_) ?_
    ·unfold dH;walk_at "px";exact h
    ·have:=bL (fun q=>decide (q∉dB pl)) ord;have:=io.len;unfold fW;omega
    ·have xl:=(wq x hx).1;have W6:di (mH ps.length gH) (x:Int)=some (dJ (lk gH x)):=by
      unfold mH;rw[nJ];have:di (List.range ps.length) (x:Int)=some x:=by
       have:=kJ (l:=List.range ps.length) (j:=x) (by simpa using xl);rw[this,List.getElem_range]
      rw[this];rfl
     walk_at "px";refine⟨_,W6,?_⟩;have hz:=Qn (pl:=gH) (q:=x);unfold rT at hz;rw[hz];by_cases h:x∈dB gH
     ·rw[if_neg (by simpa using h)];exact k0 (by simpa using h)
     ·rw[if_pos (by simpa using h)];exact k1 (by simpa using h)
    ·refine⟨by simp[wj,mU],?_⟩;have ew:(fW ord pl).filter (fun q=>decide (q∉dB gH))=fW ord gH:=by rw[e2];exact Qm _
     rw[ew];walk_at "go";have Vm:mI ps.length (row ps (gN us) ord t pl):=by
      have:=Cj (ps:=ps) (us:=gN us) (t:=t) (fW ord pl) [] pl (by simpa using JP) (fun q hq=>wq q (by simpa using hq)) ok;exact this.1
     rw[e3];exact⟨_,_,_,rfl,Vm⟩
 ·rintro ρ ⟨a,b,c,rfl,ok⟩;rw[bP] at ok;rw[bP];walk_at "go";have ro:=N6 (ps:=ps) (us:=gN us) (ts:=ts) (ord:=ord) J2 hk val (fun x hx u=>uo.mem x hx u) io.nd (fun x=>io.mem x) io.j0 od hN
  have all:=IF (us:=gN us) (ord:=ord) hk io.nd (fun x=>io.mem x) (f:=od.choose) (fun x hx u hu=>by
   obtain⟨c,hc⟩:=(uo.mem x hx u).mp hu;exact⟨(val _ hc).1,od.choose_spec _ hc⟩) hN
  have e:mH ps.length (gu ps (gN us) ord (ps.map Pc.k).sum.toNat)=((List.range ps.length).map fun x=>(lk (gu ps (gN us) ord (ps.map Pc.k).sum.toNat) x).getD 0).map D.int:=by
   unfold mH;rw[aE];refine List.map_congr_left fun x hx=>?_
   obtain⟨y,hy⟩:=cH.mp (all x (aP.mp hx));rw[Function.comp_apply,BJ ok.nd hy];rfl
  rw[e];exact q _ ro
end Wc
namespace Wc
open PySem L2 PyProof.Rows
def vw:dZ:=fun ds Q=>∃(n:Nat) (ts:List Tr),ds=[.int n,gf ts]/\n<=1000/\ts.length<=100000/\kF n ts/\∀kv,pT n ts kv->Q (.ov (.dc (i6 kv)))
def DO:TX:=(cD (iI 2 (u4 (oW (cg (bW 0) cx)) [none] (cY 0) gX (lR cx)))
 (cD (iI 3 (uJ (lR (cg (dC (.int 0)) cx)) (bW 0)))
 (cD (ir (gj (bW 1)) (j6 3 (fh (cY 4) (fh (cY 5) (fh (cY 6) jA)))) (cD (rR 2 (bW 4) (bW 5))
 (oX 3 (bW 5) (b9 e9 (sZ 3 (bW 5)) (dC (.int 1))))))
 (cD (iI 7 (qN 3 (fX (oW (cg (bW 0) cx)) [none,some 3] (cY 0) (eM (b9 oEq (b9 cJ (bW 1) (bW 0)) (dC (.int 0)))) (bW 0))))
 (cD (iI 8 (qN 7 (fU zR (cg (fX (gj (bW 7)) [none] (cY 0) gX (jU (cg (bW 0) (cg (dC (.int 0)) cx)))) cx))))
 (cD (dG 9 (dC (.int 0)))
 (uN 2 (cD (wD (eM (b9 (fB fun i j=>.bl (decide (i<j))) (bW 9) (we 7))) (cD (dG 4 (sZ 7 (bW 9)))
 (cD (dG 9 (b9 e9 (bW 9) (dC (.int 1))))
 (ir (gj (b9 cJ (bW 2) (bW 4))) (cY 5) (cD (oX 3 (bW 5) (b9 (fB fun i j=>.int (i-j)) (sZ 3 (bW 5)) (dC (.int 1))))
 (iY (eM (b9 oEq (sZ 3 (bW 5)) (dC (.int 0)))) (cD (oS 8 (bW 5) (b9 e9 (qL 8 (bW 4)) (dC (.int 1))))
 (nB 7 (bW 5))) jd))))))
 (oU 8)))))))))
noncomputable def o7(n:Nat)(w:Nat->Nat):List D:=(List.range n).map fun q=>.int (w q:Nat)
theorem Qc(n:Nat)(d:D):(List.replicate n [d]).flatten=List.replicate n d:=by
 induction n with
 | zero=>rfl
 | succ n ih=>rw[List.replicate_succ,List.flatten_cons,ih,List.replicate_succ];rfl
theorem Jg{α:Type}(n:Nat)(d:α):List.replicate n d=(List.range n).map fun _=>d:=by
 apply List.ext_getElem
 ·simp
 ·intro i h1 h2;simp
theorem Sv(O:List Nat):pairsOf (O.map fun x=>D.tup [D.int (x:Nat),D.int 0])=some (i6 (O.map fun x=>(x,(0:Int)))):=by
 induction O with
 | nil=>rfl
 | cons a r ih=>
  rw[au];show(match kQ (D.int (a:Nat)) with | some key=>(pairsOf (r.map fun x=>D.tup [D.int (x:Nat),D.int 0])).map ((key,D.int 0)::·) | none=>none)=_;rw[ih];rfl
theorem Qb(n:Nat)(ts:List Tr):Lp n ts (((List.range n).filter fun x=>decide (eA ts [] x=0)).map fun x=>(x,(0:Int))) (eA ts []) [] []:=by
 have hk:keys (((List.range n).filter fun x=>decide (eA ts [] x=0)).map fun x=>(x,(0:Int)))=(List.range n).filter fun x=>decide (eA ts [] x=0):=by
  unfold keys;rw[aE];exact List.map_id _
 have jF:∀p∈(((List.range n).filter fun x=>decide (eA ts [] x=0)).map fun x=>(x,(0:Int))),p.1<n/\p.2=0/\∀t∈ts,t.2.1≠p.1:=by
  intro p hp;rw[aH] at hp;obtain⟨x,hx,rfl⟩:=hp;rw[aI,aP] at hx;refine⟨hx.1,rfl,fun t ht e=>?_⟩;have h0:eA ts [] x=0:=by simpa using hx.2
  unfold eA at h0;rw[List.countP_eq_zero] at h0;exact h0 t ht (by simp[e])
 refine⟨by rw[hk];exact List.Pairwise.filter _ List.nodup_range,fun p hp=>(jF p hp).1,fun p hp t ht e=>absurd e ((jF p hp).2.2 t ht),fun p hp=>.inl (jF p hp).2,fun q hq=>?_,fun q hq=>by simp,?_⟩
 ·rw[hk,aI,aP];simp[hq]
 ·rw[bC];exact List.Pairwise.imp (fun _=>bU _) (List.pairwise_of_forall (R:=fun _ _=>True) fun _ _=>trivial)
theorem UH(ds:List D)(Qr:R->Prop)(hl:ds.length=2)(h:vw ds Qr):DO { nx:=fun _=>Qr (.fz .non),rt:=Qr } (fR ["count","above","lowers","waits","upper","lower","column","order","levels","place"] ds):=by
 obtain⟨n,ts,rfl,hn,kL,val,q⟩:=h;show DO _ [.fz (.int n),.fz (gf ts),.un,.un,.un,.un,.un,.un,.un,.un];unfold DO gf;have big:=i8;walk_at "px";refine Jj (List.range n) (fun(i:Nat)=>.int (0+i)) (fun _=>[]) (fun Q' h=>?_) (by simp;omega) (fun x hx K1 k=>?_) ?_
 ·walk_at "px";exact⟨by omega,by omega,by simpa using h⟩
 ·walk_at "px";exact⟨by omega,k⟩
 walk_at "go";refine⟨by omega,by omega,by omega,by simp;omega,?_⟩;rw[Int.toNat_natCast,Qc,Jg];walk_at "go";refine o6 ts dT (fun Q' h=>?_) (fun i ρ=>∃a b c:Sl,ρ=[.fz (.int n),.fz (.lst (ts.map dT)),.ov (.ll ((List.range n).map fun u=>(jS (ts.take i) u).map dN)),.ow (o7 n (eA (ts.take i) [])),a,b,c,.un,.un,.un])
  ⟨_,_,_,rfl⟩ ?_ ?_
 ·walk_at "px";exact h
 ·rintro i t ρ ht ⟨a,b,c,rfl⟩;obtain⟨v1,v2⟩:=val t (ay ht);have EE:i<ts.length:=(aj.mp ht).1;rw[show dT t=.tup [.int t.1,.int t.2.1,.int t.2.2] from rfl];walk_at "px";refine⟨t.1,_,by rw[af,bP];exact vc v1,Cu _ v1,?_⟩;have KD:(jS (ts.take i) t.1).length<=i:=by
   unfold jS;rw[af];refine Nat.le_trans (bL _ _) ?_;simp;omega
  refine⟨by rw[af];omega,?_⟩;have e1:ts.take (i+1)=ts.take i++[t]:=by rw[aK,ht];rfl
  have e2:((List.range n).map fun u=>(jS (ts.take i) u).map dN).set t.1 ((jS (ts.take i) t.1).map dN++[D.int t.2.1])=(List.range n).map fun u=>(jS (ts.take (i+1)) u).map dN:=by
   rw[AH];refine List.map_congr_left fun x hx=>?_
   rw[e1];unfold jS;rw[List.filter_append,aJ,aJ,List.filter_cons];by_cases h:x=t.1
   ·subst h;simp[dN]
   ·have:(t.1==x)=false:=by simpa using Ne.symm h
    simp[h,this]
  have e3:(o7 n (eA (ts.take i) [])).set t.2.1 (D.int ((eA (ts.take i) [] t.2.1:Nat)+1))=o7 n (eA (ts.take (i+1)) []):=by
   unfold o7;rw[AH];refine List.map_congr_left fun x hx=>?_
   rw[e1];unfold eA;rw[List.countP_append,List.countP_cons,List.countP_nil];by_cases h:x=t.2.1
   ·subst h;simp
   ·have:(t.2.1==x)=false:=by simpa using Ne.symm h
    simp[h,this]
  rw[e2];walk_at "go";refine⟨_,xk _ v2,t.2.1,by unfold o7;rw[af,bP];exact vc v2,?_⟩;rw[e3];exact⟨_,_,_,rfl⟩
 ·rintro ρ ⟨a,b,c,rfl⟩;rw[aS];walk_at "go";unfold qN;walk_at "px";refine vp (List.range n) (fun(i:Nat)=>.int (0+i)) (fun(i:Nat)=>dN i) (fun x=>decide (eA ts [] x=0)) (fun Q' h=>?_) (by simp;omega) (fun x hx K1 K0 k1 k0=>?_) ?_
  ·walk_at "px";exact⟨by omega,by omega,by simpa using h⟩
  ·have iU:x<n:=by simpa using hx
   rw[Int.zero_add];walk_at "px";refine⟨_,xk _ iU,?_⟩;walk_at "px";by_cases h:eA ts [] x=0
   ·rw[if_pos (by omega)];exact k1 (by simpa using h)
   ·rw[if_neg (by omega)];exact k0 (by simpa using h)
  have yx:∀L:List Nat,wj (.ow (L.map dN))=true:=fun L=>by
   show(L.map dN).all mU=true;rw[List.all_map,List.all_eq_true];intro x _;rfl
  refine⟨yx _,?_⟩;walk_at "go";refine jY ((List.range n).filter fun x=>decide (eA ts [] x=0)) dN (fun x=>.tup [.int (x:Nat),.int 0]) (fun Q' h=>?_) ?_ (fun x hx K1 k=>?_) ?_
  ·walk_at "px";exact h
  ·refine Nat.le_trans (bL _ _) ?_;simp;omega
  ·unfold dN;walk_at "px";exact⟨by omega,k⟩
  have sl:=Qb n ts;generalize ho:((List.range n).filter fun x=>decide (eA ts [] x=0))=O at sl;simp only[qO,zR,Sv];have KI:keys (O.map fun x=>(x,(0:Int)))=O:=by unfold keys;rw[aE];exact List.map_id _
  refine⟨?_,?_,?_⟩
  ·have:(i6 (O.map fun x=>(x,(0:Int)))).map (·.1)=O.map fun x=>(Sum.inl ((x:Nat):Int):Key):=by unfold i6;simp
   rw[this];have nd:=sl.nd;rw[KI] at nd;unfold List.Nodup at nd ⊢;rw[bC];exact nd.imp fun h z=>h (by injection z with z;omega)
  ·show(i6 (O.map fun x=>(x,(0:Int)))).all (fun p=>mU p.2)=true;rw[List.all_eq_true];intro x hx;unfold i6 at hx;rw[aH] at hx;obtain⟨p,_,rfl⟩:=hx;rfl
  walk_at "go";have eO:(O.map fun i=>dN i)=(keys (O.map fun x=>(x,(0:Int)))).map dN:=by rw[KI]
  rw[eO];have Er:∀x∈(O.map fun x=>(x,(0:Int))),x.2=0:=by
   intro x hx;rw[aH] at hx;obtain⟨y,_,rfl⟩:=hx;rfl
  generalize (O.map fun x=>(x,(0:Int)))=Vw at sl Er;walk_at "go";simp only[OV.val];have FJ:((List.range n).map fun u=>(jS ts u).map dN).map D.lst=(List.range n).map fun u=>D.lst ((jS ts u).map dN):=by rw[aE];rfl
  rw[FJ];refine⟨fun m ρ=>∃(kv:List (Nat×Int)) (w:Nat->Nat) (pl:Nat) (a b c:Sl),ρ=[.fz (.int n),.fz (.lst (ts.map dT)),.fz (.lst ((List.range n).map fun u=>D.lst ((jS ts u).map dN))),.ow (o7 n w),a,b,c,.ow ((keys kv).map dN),.ov (.dc (i6 kv)),.fz (.int pl)]/\
   pl<=kv.length/\m=n-pl/\Lp n ts kv w (keys (kv.take pl)) []/\∀x∈kv,∀y∈kv.drop pl,x.2<=y.2+1,⟨n,Vw,eA ts [],0,_,_,_,rfl,ba _,rfl,sl,fun x hx y hy=>?_⟩,?_⟩
  ·rw[Er x hx,Er y (List.mem_of_mem_drop hy)];decide
  rintro m ρ ⟨kv,w,pl,a,b,c,rfl,jc,rfl,lp,bd⟩;have KH:=wV lp.nd lp.lt;have yP:(keys kv).length=kv.length:=by unfold keys;simp
  walk_at "px";rw[af,yP];by_cases hc:pl<kv.length
  ·rw[if_pos (by omega)];have hu:(keys kv)[pl]?=some kv[pl].1:=by unfold keys;rw[ao,ag hc];rfl
   have VS:kv[pl].1<n:=lp.lt _ (bI hc);have mF:di (keys kv) (pl:Int)=some kv[pl].1:=by
    rw[kJ (by omega)];have:=(aj.mp hu).2;rw[this]
   refine⟨_,mF,?_⟩;walk_at "go";simp only[jT];have Kn:kv.take (pl+1)=kv.take pl++[kv[pl]]:=by rw[aK,ag hc];rfl
   have yO:keys (kv.take (pl+1))=keys (kv.take pl)++[kv[pl].1]:=by rw[Kn];unfold keys;rw[aJ];rfl
   have EW:kv[pl].1∉keys (kv.take pl):=by
    have nd:=lp.nd;rw[<-List.take_append_drop (pl+1) kv] at nd;unfold keys at nd;rw[aJ,bJ] at nd;have Ka:=nd.1;rw[show List.map (·.1) (kv.take (pl+1))=keys (kv.take pl)++[kv[pl].1] from yO,bJ] at Ka;exact fun z=>Ka.2.2 _ z _ (by simp) rfl
   have Kb:=lp.next EW;rw[<-yO] at Kb;have EG:=lp.j0;have Fj:∀x∈keys (kv.take (pl+1)),∃l,(x,l)∈kv/\l<=kv[pl].2:=by
    intro x hx;unfold keys at hx;rw[aH] at hx;obtain⟨p,hp,rfl⟩:=hx;refine⟨p.2,List.mem_of_mem_take hp,?_⟩;rw[Kn] at hp;rcases aw.mp hp with hp | hp
    ·obtain⟨j,hj,e⟩:=List.getElem_of_mem hp;rw[aV] at hj;rw[List.getElem_take] at e;have:=bN.mp EG j pl (by omega) hc (by omega);rw[e] at this;exact this
    ·simp at hp;rw[hp];exact bU _
   have Fu:∀x∈kv,x.2<=kv[pl].2+1:=fun x hx=>bd x hx _ (by rw[List.mem_iff_getElem?];exact⟨0,by rw[List.getElem?_drop];simpa using ag hc⟩)
   have jO:kv[pl]∈kv:=bI hc;generalize vE:kv[pl]=ul at *;obtain⟨u,lu⟩:=ul;simp only at *;refine o6 (jS ts u) dN (fun Q' h=>?_) (fun j ρ=>∃(my:List (Nat×Int)) (w':Nat->Nat) (b c:Sl),ρ=[.fz (.int n),.fz (.lst (ts.map dT)),.fz (.lst ((List.range n).map fun u=>D.lst ((jS ts u).map dN))),.ow (o7 n w'),.fz (.int u),b,c,.ow ((keys my).map dN),.ov (.dc (i6 my)),.fz (.int (pl+1))]/\
    my.take (pl+1)=kv.take (pl+1)/\pl+1<=my.length/\Lp n ts my w' (keys (kv.take (pl+1))) ((jS ts u).drop j)/\(∀x∈kv,x∈my)/\∀x∈my,x.2<=lu+1) ⟨kv,w,_,_,rfl,rfl,hc,Kb,fun _ h=>h,Fu⟩ ?_ ?_
   ·walk_at "px";refine⟨_,xk _ VS,?_⟩;exact h
   ·rintro j qq ρ hj ⟨my,w',b,c,rfl,mY,rg,nR,nO,zp⟩;have pF:qq∈jS ts u:=ay hj;have Kp:∃t∈ts,t.2.1=qq/\t.1=u:=by
     unfold jS at pF;rw[aH] at pF;obtain⟨t,ht,e⟩:=pF;rw[aI] at ht;exact⟨t,ht.1,e,by simpa using ht.2⟩
    have jb:qq<n:=by
     obtain⟨t,ht,e,_⟩:=Kp;rw[<-e];exact(val t ht).2
    have y0:(jS ts u).drop j=qq::(jS ts u).drop (j+1):=by
     have pJ:=(aj.mp hj)
     rw[List.drop_eq_getElem_cons pJ.1,pJ.2]
    rw[y0] at nR;obtain⟨w1,w2⟩:=nR.less jb;have Fe:=wV nR.nd nR.lt;rw[show dN qq=.int (qq:Nat) from rfl];walk_at "px";refine⟨_,xk _ jb,qq,by unfold o7;rw[af,bP];exact vc jb,?_⟩;have e3:(o7 n w').set qq (D.int ((w' qq:Nat)-1))=o7 n (fun x=>if x=qq then w' qq-1 else w' x):=by
     unfold o7;rw[AH];refine List.map_congr_left fun x hx=>?_
     dsimp only;by_cases h:x=qq
     ·rw[if_pos h,if_pos h];congr 1;omega
     ·rw[if_neg h,if_neg h]
    rw[e3];walk_at "go";refine⟨_,xk _ jb,?_⟩;walk_at "px";by_cases he:w' qq-1=0
    ·rw[if_pos (by omega)];refine⟨_,_,rfl,Ai nR.nd (nO _ jO),?_⟩;walk_at "px";refine⟨_,rfl,by unfold i6;rw[af];omega,?_⟩;rw[N7 w2];walk_at "go";have ek:(keys my).map dN++[D.int (qq:Nat)]=(keys (my++[(qq,lu+1)])).map dN:=by unfold keys;simp[dN]
     rw[ek];refine⟨by rw[af];unfold keys;rw[af];omega,my++[(qq,lu+1)],_,.fz (.int (qq:Nat)),c,rfl,?_,by rw[a9];omega,nR.step jb he (fun x hx=>?_) (nO _ jO) Kp zp,fun x hx=>aO _ (nO x hx),fun x hx=>?_⟩
     ·rw[List.take_append_of_le_length rg,mY]
     ·obtain⟨l,l1,l2⟩:=Fj x hx;exact⟨l,nO _ l1,l2⟩
     ·rcases aw.mp hx with hx | hx
      ·exact zp x hx
      ·simp at hx;subst hx;exact bU _
    ·rw[if_neg (by omega)];exact⟨my,_,_,_,rfl,mY,rg,nR.fS jb he,nO,zp⟩
   ·rintro ρ ⟨my,w',b,c,rfl,mY,rg,nR,nO,zp⟩;rw[List.drop_length,<-mY] at nR;have Fe:=wV nR.nd nR.lt;refine⟨n-(pl+1),by omega,my,w',pl+1,_,_,_,rfl,rg,rfl,nR,fun x hx y hy=>?_⟩;have h1:=zp x hx;have EB:my[pl]?=some (u,lu):=by
     have e:=congrArg (fun l=>l[pl]?) mY;simp only[List.getElem?_take,Nat.lt_succ_self,bO] at e;rw[e,ag hc,vE]
    obtain⟨jj,Wt,e⟩:=List.getElem_of_mem hy;rw[List.length_drop] at Wt;rw[List.getElem_drop] at e;have h2:=bN.mp nR.j0 pl (pl+1+jj) (by omega) (by omega) (by omega);rw[e,(aj.mp EB).2] at h2;simp only at h2;omega
  ·rw[if_neg (by omega)];have e:kv.take pl=kv:=bD (by omega);rw[e] at lp;walk_at "go";exact q kv lp.done
end Wc
namespace Wc
open PySem L2 PyProof.Rows
theorem Su(L:List (Int×Int)):jW (L.map fun p=>D.tup [.int p.1,.int p.2])=some (L.map fun p=>[p.1,p.2]):=by
 induction L with
 | nil=>rfl
 | cons a r ih=>
  rw[au,au];simp only[jW,ih];rfl
theorem Mm{a b c d:Int}(h:HT.b8 [a,b] [c,d]=false):a<=c:=by
 unfold HT.b8 at h;by_cases e:a=c
 ·omega
 ·simp[e] at h;omega
theorem Jz(L:List (Int×Int))(d:D)(Q:R->Prop)(h0:L=[]->Q (.fz d))(h1:∀p∈L,(∀r∈L,r.1<=p.1)->Q (.fz (.tup [.int p.1,.int p.2]))):uU (.lst (L.map fun p=>D.tup [.int p.1,.int p.2])) d Q:=by
 cases L with
 | nil=>exact⟨fun _=>h0 rfl,fun t ht=>by cases ht⟩
 | cons a r=>
  unfold uU;have e:uV ((a::r).map fun p=>D.tup [.int p.1,.int p.2])=some (false,(a::r).map fun p=>[p.1,p.2]):=by
   unfold uV;have:jK ((a::r).map fun p=>D.tup [.int p.1,.int p.2])=none:=rfl;rw[this,Su];rfl
  simp only[e];refine⟨fun z=>by simp at z,fun t ht i5=>?_⟩;rw[aH] at ht;obtain⟨p,hp,rfl⟩:=ht;refine h1 p hp fun q hq=>?_
  exact Mm (i5 [q.1,q.2] (aH.mpr ⟨q,hq,rfl⟩))
def vA(ts:List Tr)(u q:Nat):Prop:=∃c,((u,q,c):Tr)∈ts
def Dn(ts:List Tr):List Nat->Prop
 | []=>True
 | [_]=>True
 | q::u::r=>vA ts u q/\Dn ts (u::r)
theorem Dn.tail{ts:List Tr}{q:Nat}{r:List Nat}(h:Dn ts (q::r)):Dn ts r:=by
 cases r with
 | nil=>trivial
 | cons u r=>exact h.2
noncomputable def ml(wd:Nat->Int)(l:List Nat):Int:=(l.map wd).sum
structure zC (n:Nat) (ts:List Tr) (wd:Nat->Int) (w:Int) (l:List Nat):Prop where
 dn:Dn ts l
 lt:∀q∈l,q<n
 eq:ml wd l=w
noncomputable abbrev En:=Int×Option Nat
noncomputable def qz(e:En):D:=.tup [.int e.1,match e.2 with | none=>.non | some u=>.int (u:Nat)]
structure mJ (ts:List Tr) (wd:Nat->Int) (en:List (Nat×En)):Prop where
 no:∀q w,cv en q=some (w,none)->w=wd q
 so:∀q w u,cv en q=some (w,some u)->vA ts u q/\∃o,cv en u=some (w-wd q,o)
 pos:∀q w o,cv en q=some (w,o)->1<=w/\wd q<=w
theorem mJ.put{ts:List Tr}{wd:Nat->Int}{en:List (Nat×En)}(ok:mJ ts wd en){qn:Nat}(hq:cv en qn=none){w:Int}{o:Option Nat}
  (h2:o=none->w=wd qn) (h3:∀u,o=some u->vA ts u qn/\∃o',cv en u=some (w-wd qn,o')) (h4:1<=w/\wd qn<=w):mJ ts wd (kR en qn (w,o)):=by
 have old:∀{m:Nat} {x:En},cv en m=some x->cv (kR en qn (w,o)) m=some x:=fun{m x} h=>by
  rw[rY,if_neg fun z=>by rw[z,hq] at h;cases h];exact h
 refine⟨fun q w' h=>?_,fun q w' u h=>?_,fun q w' o' h=>?_⟩
 ·rw[rY] at h;split at h
  ·rename_i e;cases h;rw[e];exact h2 rfl
  ·exact ok.no q w' h
 ·rw[rY] at h;split at h
  ·rename_i e;cases h;obtain⟨a,o',b⟩:=h3 u rfl;rw[e];exact⟨a,o',old b⟩
  ·obtain⟨a,o',b⟩:=ok.so q w' u h;exact⟨a,o',old b⟩
 ·rw[rY] at h;split at h
  ·rename_i e;cases h;rw[e];exact h4
  ·exact ok.pos q w' o' h
theorem ID(f:Nat->Int):∀(l:List Nat),l≠[]->∃q∈l,∀r∈l,f q<=f r
 | [],h=>absurd rfl h
 | [a],_=>⟨a,by simp,fun r hr=>by simp at hr;subst hr;exact bU _⟩
 | a::b::l,_=>by
  obtain⟨q,h1,h2⟩:=ID f (b::l) (by simp);by_cases h:f a<=f q
  ·refine⟨a,by simp,fun r hr=>?_⟩;rcases aq.mp hr with rfl | hr
   ·exact bU _
   ·have:=h2 r hr;omega
  ·refine⟨q,aB _ h1,fun r hr=>?_⟩;rcases aq.mp hr with rfl | hr
   ·omega
   ·exact h2 r hr
theorem Jy{n:Nat}{ts:List Tr}{kv:List (Nat×Int)}(v:kF n ts)(lv:pT n ts kv)(o:Ord n ts):∀q,q<n->q∈keys kv:=by
 obtain⟨f,hf⟩:=o;apply Classical.byContradiction;intro jF;have cE:(List.range n).filter (fun q=>decide (q∉keys kv))≠[]:=fun z=>jF fun q hq=>Classical.byContradiction fun hk=>by
  have:q∈(List.range n).filter (fun q=>decide (q∉keys kv)):=by rw[aI];exact⟨aP.mpr hq,by simpa using hk⟩
  rw[z] at this;cases this
 obtain⟨q,h1,h2⟩:=ID f _ cE;rw[aI,aP] at h1;obtain⟨t,t1,t2,t3⟩:=lv.out q h1.1 (by simpa using h1.2);have h3:=h2 t.1 (by rw[aI,aP];exact⟨(v t t1).1,by simpa using t3⟩);have h4:=hf t t1;rw[t2] at h4;omega
theorem wI{n:Nat}{ts:List Tr}{kv:List (Nat×Int)}(lv:pT n ts kv){i:Nat}{p:Nat×Int}(hp:kv[i]?=some p):∀t∈ts,t.2.1=p.1->t.1∈(keys kv).take i:=by
 intro t ht e;obtain⟨l,h1,h2⟩:=lv.up p (ay hp) t ht e;obtain⟨j,hj,ej⟩:=List.getElem_of_mem h1;have hi:=(aj.mp hp).1;have ep:=(aj.mp hp).2;by_cases cS:j<i
 ·unfold keys;rw[<-List.map_take,aH];exact⟨(t.1,l),by rw[List.mem_take_iff_getElem];exact⟨j,by omega,ej⟩,rfl⟩
 ·exfalso
  by_cases e2:j=i
  ·subst e2;rw[ej] at ep;rw[<-ep] at h2;simp at h2;omega
  ·have:=bN.mp lv.j0 i j hi hj (by omega);rw[ej,ep] at this;simp at this;omega
noncomputable def jN(ts:List Tr)(q:Nat):List Nat:=(ts.filter fun t=>t.2.1==q).map (·.1)
def xt:dZ:=fun ds Q=>∃(ps:List Pc) (ts:List Tr),ds=[dw ps,gf ts]/\ps.length<=1000/\ts.length<=100000/\kF ps.length ts/\Ord ps.length ts/\(∀p∈ps,1<=p.k)/\
 ∀en,mJ ts (fun q=>(ps[q]?.map Pc.k).getD 1) en->(∀q,(cv en q).isSome=true↔q<ps.length)->en.length<=1000->Q (.ov (.dc (dA qz en)))
def Dy:TX:=(cD (iI 2 (u4 (gj (bW 0)) [none] (cY 0) gX (lR cx)))
 (cD (ir (gj (bW 1)) (j6 3 (fh (cY 3) (fh (cY 4) (fh (cY 5) jA)))) (rR 2 (bW 4) (bW 3)))
 (cD (iI 6 oV)
 (uN 2 (cD (ir (qE (eD 2 vw (cg (fU qF (cg (bW 0) cx)) (cg (bW 1) cx)))) (cY 7) (cD (dG 8 (z6 6 (rQ (fX (gj (b9 cJ (bW 2) (bW 7))) [none,some 6] (cY 0) gX (jU (cg (b9 cJ (mT (bW 1) (bW 0)) (dC (.int 0))) (cg (bW 0) cx)))) (jU (cg (dC (.int 0)) (cg (dC .non) cx))))))
 (oS 6 (bW 7) (jU (cg (b9 e9 (b9 cJ (bW 8) (dC (.int 0))) (b9 cJ (b9 cJ (bW 0) (bW 7)) (dC (.int 3)))) (cg (b9 cJ (bW 8) (dC (.int 1))) cx))))))
 (oU 6))))))
theorem Ur(ds:List D)(Qr:R->Prop)(hl:ds.length=2)(h:xt ds Qr):Dy { nx:=fun _=>Qr (.fz .non),rt:=Qr } (fR ["pieces","above","uppers","upper","lower","column","ends","number","ahead"] ds):=by
 obtain⟨ps,ts,rfl,hn,kL,val,ord,pk,q⟩:=h;show Dy _ [.fz (dw ps),.fz (gf ts),.un,.un,.un,.un,.un,.un,.un];unfold Dy gf dw;have big:=i8;walk_at "px";refine Jj ps c6 (fun _=>[]) (fun Q' h=>?_) (by omega) (fun x hx K1 k=>?_) ?_
 ·walk_at "px";exact h
 ·walk_at "px";exact⟨ba _,k⟩
 walk_at "go";have e0:(ps.map fun _=>([]:List D))=(List.range ps.length).map fun q=>(jN (ts.take 0) q).map dN:=by
  rw[show(fun q=>(jN (ts.take 0) q).map dN)=fun _:Nat=>([]:List D) from rfl,<-Jg,List.map_const']
 rw[e0];refine o6 ts dT (fun Q' h=>?_) (fun i ρ=>∃(a b c:Sl),ρ=[.fz (.lst (ps.map c6)),.fz (.lst (ts.map dT)),.ov (.ll ((List.range ps.length).map fun q=>(jN (ts.take i) q).map dN)),a,b,c,.un,.un,.un]) ⟨_,_,_,rfl⟩ ?_ ?_
 ·walk_at "px";exact h
 ·rintro i t ρ ht ⟨a,b,c,rfl⟩;have EE:i<ts.length:=(aj.mp ht).1;obtain⟨v1,v2⟩:=val t (ay ht);have KD:(jN (ts.take i) t.2.1).length<=i:=by
   unfold jN;rw[af];exact Nat.le_trans (bL _ _) (by rw[aV];omega)
  have e1:ts.take (i+1)=ts.take i++[t]:=by rw[aK,ht];rfl
  have e2:((List.range ps.length).map fun q=>(jN (ts.take i) q).map dN).set t.2.1 ((jN (ts.take i) t.2.1).map dN++[D.int t.1])=(List.range ps.length).map fun q=>(jN (ts.take (i+1)) q).map dN:=by
   rw[AH];apply List.map_congr_left;intro x hx;unfold jN;rw[e1,List.filter_append,aJ,aJ];by_cases hq:x=t.2.1
   ·subst hq;simp[dN]
   ·have:(t.2.1==x)=false:=by simpa using Ne.symm hq
    simp[hq,this]
  rw[show dT t=.tup [.int t.1,.int t.2.1,.int t.2.2] from rfl];walk_at "px";refine⟨t.2.1,_,by rw[af,bP];exact vc v2,Cu _ v2,by rw[af];omega,?_⟩;rw[e2];exact⟨_,_,_,rfl⟩
 ·rintro ρ ⟨a,b,c,rfl⟩;rw[aS];walk_at "go";have FJ:((List.range ps.length).map fun q=>(jN ts q).map dN).map D.lst=(List.range ps.length).map fun q=>D.lst ((jN ts q).map dN):=by rw[aE];rfl
  walk_at "go";simp only[OV.val,FJ];refine II (fun ds=>∃kv,pT ps.length ts kv/\ds=(keys kv).map dN) (fun Q' h=>?_) ?_
  ·simp only[qE];walk_at "px";refine⟨ps.length,ts,by rw[af];rfl,hn,kL,val,fun kv lv=>?_⟩;simp only[kT,OV.val];refine h _ ⟨kv,lv,?_⟩;unfold i6 keys;rw[aE,aE];rfl
  rintro ds ⟨kv,lv,rfl⟩;have KH:=wV lv.nd lv.lt;have i5:=Jy val lv ord;refine xg (keys kv) dN (fun i ρ=>∃(en:List (Nat×En)) (e f:Sl),ρ=[.fz (.lst (ps.map c6)),.fz (.lst (ts.map dT)),.fz (.lst ((List.range ps.length).map fun q=>D.lst ((jN ts q).map dN))),a,b,c,.ov (.dc (dA qz en)),e,f]/\
   (∀q,(cv en q).isSome=true↔q∈(keys kv).take i)/\en.length<=i/\mJ ts (fun q=>(ps[q]?.map Pc.k).getD 1) en) ⟨[],_,_,rfl,fun q=>by simp[cv],az _,⟨fun q w e=>by simp[cv] at e,fun q w u e=>by simp[cv] at e,fun q w o e=>by simp[cv] at e⟩⟩ ?_ ?_
  ·rintro i qn ρ hi ⟨en,e,f,rfl,hk,hlen,ok⟩;have uw:i<(keys kv).length:=(aj.mp hi).1;have Wq:(keys kv).length=kv.length:=by unfold keys;rw[af]
   obtain⟨lq,hp⟩:∃lq,kv[i]?=some (qn,lq):=by
    unfold keys at hi;rw[ao] at hi;cases hx:kv[i]? with
    | none=>rw[hx] at hi;cases hi
    | some x=>rw[hx] at hi;simp at hi;exact⟨x.2,by rw[<-hi]⟩
   have jb:qn<ps.length:=lv.lt _ (ay hp);have Ft:=wI lv hp;have KQ:cv en qn=none:=by
    cases hx:cv en qn with
    | none=>rfl
    | some x=>
     have:=(hk qn).mp (by rw[hx];rfl);rw[List.mem_take_iff_getElem] at this;obtain⟨j,hj,ej⟩:=this;have e2:(keys kv)[i]=qn:=(aj.mp hi).2;have:=bN.mp lv.nd j i (by omega) uw (by omega);exact absurd (by rw[ej,e2]) this
   have pL:∀u∈jN ts qn,∃w' o',cv en u=some (w',o')/\vA ts u qn:=fun u hu=>by
    unfold jN at hu;rw[aH] at hu;obtain⟨t,ht,rfl⟩:=hu;rw[aI] at ht;have h2:t.2.1=qn:=by simpa using ht.2
    have h3:=(hk t.1).mpr (Ft t ht.1 h2);obtain⟨x,hx⟩:=Option.isSome_iff_exists.mp h3;exact⟨x.1,x.2,hx,t.2.2,by rw[<-h2];exact ht.1⟩
   have vE:(jN ts qn).length<=ts.length:=by unfold jN;rw[af];exact bL _ _
   have nc:(ps[qn]?.map Pc.k).getD 1=ps[qn].k:=by rw[ag jb];rfl
   have mB:=pk _ (bI jb);have y8:di ps (qn:Int)=some ps[qn]:=kJ jb;have rm:∀(w:Int) (o:Option Nat) (f':Sl),mJ ts (fun q=>(ps[q]?.map Pc.k).getD 1) (kR en qn (w,o))->(∃(Bn:List (Nat×En)) (e f:Sl),[Sl.fz (.lst (ps.map c6)),.fz (.lst (ts.map dT)),.fz (.lst ((List.range ps.length).map fun q=>D.lst ((jN ts q).map dN))),a,b,c,.ov (.dc (kP (dA qz en) (.inl (qn:Int)) (qz (w,o)))),.fz (.int qn),f']=[Sl.fz (.lst (ps.map c6)),.fz (.lst (ts.map dT)),.fz (.lst ((List.range ps.length).map fun q=>D.lst ((jN ts q).map dN))),a,b,c,.ov (.dc (dA qz Bn)),e,f]/\
   (∀q,(cv Bn q).isSome=true↔q∈(keys kv).take (i+1))/\Bn.length<=i+1/\mJ ts (fun q=>(ps[q]?.map Pc.k).getD 1) Bn):=fun w o f' t7=>by
    refine⟨kR en qn (w,o),_,_,by rw[Ac],fun x=>?_,by have:=Cs en qn (w,o);omega,t7⟩;rw[rY,aK,hi];simp only[Option.toList_some,aw,aR];split
    ·rename_i e;simp[e]
    ·rename_i e;rw[hk x];simp[e]
   rw[show dN qn=.int qn from rfl];walk_at "px";simp only[z6,Ie,gt,true_and,rQ];walk_at "px";simp only[OV.val];refine jY (jN ts qn) dN (fun u=>.tup [.int (((cv en u).map (·.1)).getD 0),.int (u:Nat)]) (fun Q' h=>?_) (by omega) (fun u hu K1 k=>?_) ?_
   ·walk_at "px";refine⟨qn,by rw[kJ (by simpa using jb)];simp,?_⟩;exact h
   ·obtain⟨w',o',g1,_⟩:=pL u hu;rw[show dN u=.int u from rfl];walk_at "px";refine⟨_,_,rfl,by rw[qi,g1];rfl,?_⟩;simp only[qz];exact⟨_,rfl,by omega,by simpa[g1] using k⟩
   ·refine⟨by omega,?_⟩;rw[show(R.ow ((jN ts qn).map fun u=>D.tup [.int (((cv en u).map (·.1)).getD 0),.int (u:Nat)])).val=.lst (((jN ts qn).map fun u=>((((cv en u).map (·.1)).getD 0),(u:Int))).map fun p=>D.tup [.int p.1,.int p.2]) by rw[aE];rfl];refine Jz _ _ _ (fun uu=>?_) fun p yD pI=>?_
    ·rw[List.map_eq_nil_iff] at uu;walk_at "go";refine⟨rfl,_,rfl,_,y8,?_⟩;simp only[c6];refine⟨_,rfl,?_⟩;simp only[];refine⟨_,rfl,by omega,_,rfl,by unfold dA;rw[af];omega,?_⟩;refine rm (0+ps[qn].k) none _ (ok.put KQ (fun _=>by rw[nc];omega) (fun u hu=>by cases hu) (by rw[nc];omega))
    ·rw[aH] at yD;obtain⟨u,hu,rfl⟩:=yD;obtain⟨w',o',g1,g2⟩:=pL u hu;have sI:=ok.pos u w' o' g1;simp only[g1,aM,Option.getD_some] at pI ⊢;walk_at "go";refine⟨rfl,_,rfl,_,y8,?_⟩;simp only[c6];refine⟨_,rfl,?_⟩;simp only[];refine⟨_,rfl,by omega,_,rfl,by unfold dA;rw[af];omega,?_⟩;refine rm (w'+ps[qn].k) (some u) _ (ok.put KQ (fun z=>by cases z) (fun u2 EC=>?_) (by rw[nc];omega));cases EC;exact⟨g2,o',by rw[g1,nc];congr 2;omega⟩
  ·rintro ρ ⟨en,e,f,rfl,hk,hlen,ok⟩;rw[show(keys kv).take (keys kv).length=keys kv from aS] at hk;walk_at "go";refine q en ok (fun q=>⟨fun h=>?_,fun h=>(hk q).mpr (i5 q h)⟩) (by unfold keys at hlen;rw[af] at hlen;omega);have:=(hk q).mp h;unfold keys at this;rw[aH] at this;obtain⟨p,hp,rfl⟩:=this;exact lv.lt p hp
end Wc
namespace Wc
open PySem L2 PyProof.Rows
def AR:dZ:=fun _ _=>False
def wH(n:Nat)(ts:List Tr)(ls:List Int):Prop:=ls.length=n/\∀q,q<n->∀l,ls[q]?=some l->(∀t∈ts,t.2.1=q->∃l',ls[t.1]?=some l'/\l'+1<=l)/\((l=0/\∀t∈ts,t.2.1≠q)\/∃t∈ts,t.2.1=q/\ls[t.1]?=some (l-1))
def vg:dZ:=fun ds Q=>∃(n:Nat) (ts:List Tr),ds=[.int n,gf ts]/\n<=1000/\ts.length<=100000/\kF n ts/\Ord n ts/\∀ls,wH n ts ls->Q (.ov (.tl (.str "levels") (ls.map .int)))
def CI:TX:=(cD (dG 2 (eD 2 vw (cg (bW 0) (cg (bW 1) cx))))
 (cD (iY (eM (b9 (fB fun i j=>.bl (decide (i<j))) (fU tf (cg (bW 2) cx)) (bW 0))) (fJ (zS (dC (.str "ring")) (eD 2 AR (cg (bW 2) (cg (bW 1) cx))))) jd)
 (fJ (zS (dC (.str "levels")) (fX (oW (cg (bW 0) cx)) [none,some 2] (cY 0) gX (mT (bW 1) (bW 0)))))))
theorem Ss(ds:List D)(Qr:R->Prop)(hl:ds.length=2)(h:vg ds Qr):CI { nx:=fun _=>Qr (.fz .non),rt:=Qr } (fR ["count","above","levels"] ds):=by
 obtain⟨n,ts,rfl,hn,kL,val,od,q1⟩:=h;show CI _ [.fz (.int n),.fz (gf ts),.un];unfold CI;have big:=i8;walk_at "px";refine⟨n,ts,rfl,hn,kL,val,fun kv lv=>?_⟩;have KH:=wV lv.nd lv.lt;walk_at "go";simp only[OV.val];rw[show(i6 kv).length=kv.length by unfold i6;simp];have i5:=Jy val lv od;have hc:n<=kv.length:=by
  have:=Ct (l:=List.range n) List.nodup_range fun w hw=>i5 w (aP.mp hw)
  rw[bP] at this;unfold keys at this;rw[af] at this;exact this
 rw[if_neg (by omega)];have pL:∀x,x<n->∃l,(x,l)∈kv:=fun x hx=>by
  have:=i5 x hx;unfold keys at this;rw[aH] at this;obtain⟨p,hp,rfl⟩:=this;exact⟨p.2,hp⟩
 walk_at "go";unfold zS;walk_at "px";refine jY (List.range n) (fun(i:Nat)=>.int (0+i)) (fun x=>.int ((cv kv x).getD 0)) (fun Q' h=>?_) (by simp;omega) (fun x hx K1 k=>?_) ?_
 ·walk_at "px";exact⟨by omega,by omega,by simpa using h⟩
 ·have iU:x<n:=by simpa using hx
  obtain⟨l,hl⟩:=pL x iU;rw[Int.zero_add];walk_at "px";refine⟨_,_,rfl,Ai lv.nd hl,?_⟩;have e:look (dA D.int kv) (.inl (x:Int))=(cv kv x).map D.int:=qi _ _ _;have e2:look (i6 kv) (.inl (x:Int))=some (.int l):=Ai lv.nd hl;rw[show i6 kv=dA D.int kv from rfl,e] at e2;cases hg:cv kv x with
  | none=>rw[hg] at e2;cases e2
  | some l'=>
   rw[hg] at e2 k;simp only[aM,aD,D.int.injEq] at e2;subst e2;exact k
 ·have e0:((List.range n).map fun x=>D.int ((cv kv x).getD 0))=((List.range n).map fun x=>(cv kv x).getD 0).map D.int:=by rw[aE];rfl
  rw[e0];have yV:∀x l,(x,l)∈kv->(cv kv x).getD 0=l:=fun x l hl=>by
   have e:look (dA D.int kv) (.inl (x:Int))=(cv kv x).map D.int:=qi _ _ _;have e2:look (i6 kv) (.inl (x:Int))=some (.int l):=Ai lv.nd hl;rw[show i6 kv=dA D.int kv from rfl,e] at e2;cases hg:cv kv x with
   | none=>rw[hg] at e2;cases e2
   | some l'=>
    rw[hg] at e2;simp only[aM,aD,D.int.injEq] at e2;subst e2;rfl
  have mF:∀x l,(x,l)∈kv->((List.range n).map fun x=>(cv kv x).getD 0)[x]?=some l:=fun x l hl=>by
   rw[Cu _ (lv.lt _ hl),yV x l hl]
  refine q1 _ ⟨by simp,fun x hx l Kj=>?_⟩;obtain⟨l',yN⟩:=pL x hx;rw[mF x l' yN] at Kj;cases Kj;refine⟨fun t ht e=>?_,?_⟩
  ·obtain⟨l2,h1,h2⟩:=lv.up _ yN t ht e;exact⟨l2,mF _ _ h1,h2⟩
  ·rcases lv.top _ yN with⟨h1,h2⟩ | ⟨t,t1,t2,t3⟩
   ·exact .inl ⟨h1,h2⟩
   ·exact .inr ⟨t,t1,t2,mF _ _ t3⟩
end Wc
namespace Wc
open PySem L2 PyProof.Rows
structure Run (ts:List Tr) (wd:Nat->Int) (en:List (Nat×En)) (l:List Nat) (c:Option Nat) (w:Int):Prop where
 dn:Dn ts l
 nx:∀u q,c=some u->l.getLast?=some q->vA ts u q
 sm:∀u,c=some u->∃w' o,cv en u=some (w',o)/\ml wd l+w'=w
 nn:c=none->ml wd l=w
theorem Dn.snoc{ts:List Tr}{u:Nat}:∀{l:List Nat},Dn ts l->(∀q,l.getLast?=some q->vA ts u q)->Dn ts (l++[u])
 | [],_,_=>trivial
 | [q],_,h=>⟨h q rfl,trivial⟩
 | a::b::r,d,h=>⟨d.1,Dn.snoc (l:=b::r) d.2 fun q hq=>h q (by rw[List.getLast?_cons_cons];exact hq)⟩
theorem Dn.rank{ts:List Tr}{f:Nat->Int}(hf:∀t∈ts,f t.1<f t.2.1):∀{r:List Nat} {q:Nat},Dn ts (q::r)->∀x∈r,f x<f q
 | [],q,_,x,hx=>by cases hx
 | u::r,q,d,x,hx=>by
  obtain⟨⟨c,hc⟩,d2⟩:=d;have h1:=hf _ hc;rcases aq.mp hx with rfl | hx
  ·exact h1
  ·have:=Dn.rank hf d2 x hx;simp at h1;omega
theorem Dn.nd{n:Nat}{ts:List Tr}(o:Ord n ts):∀{l:List Nat},Dn ts l->l.Nodup
 | [],_=>.nil
 | q::r,d=>by
  obtain⟨f,hf⟩:=id o;rw[aL];refine⟨fun h=>?_,Dn.nd o d.tail⟩;have:=Dn.rank hf d q h;omega
theorem Dn.len{n:Nat}{ts:List Tr}(o:Ord n ts){l:List Nat}(d:Dn ts l)(h:∀q∈l,q<n):l.length<=n:=by
 have:=Ct (ws:=List.range n) (d.nd o) fun w hw=>aP.mpr (h w hw)
 simpa using this
theorem IC(wd:Nat->Int)(l:List Nat)(u:Nat):ml wd (l++[u])=ml wd l+wd u:=by
 unfold ml;simp
def xy:dZ:=fun ds Q=>∃(ps:List Pc) (ts:List Tr),ds=[dw ps,gf ts]/\ps.length<=1000/\ts.length<=100000/\kF ps.length ts/\Ord ps.length ts/\(∀p∈ps,1<=p.k)/\
 ∀w l,zC ps.length ts (fun q=>(ps[q]?.map Pc.k).getD 1) w l->Q (.ov (.tl (.int w) (l.reverse.map dN)))
def Di:TX:=(cD (dG 2 (eD 2 xt (cg (bW 0) (cg (bW 1) cx))))
 (cD (dG 3 (rQ (fX (qE (bW 2)) [none,some 2] (cY 0) gX (jU (cg (b9 cJ (mT (bW 1) (bW 0)) (dC (.int 0))) (cg (bW 0) cx)))) (jU (cg (dC (.int 0)) (cg (dC .non) cx)))))
 (cD (iI 4 (lR cx))
 (cD (dG 5 (b9 cJ (bW 3) (dC (.int 1))))
 (cD (wD (eM (b9 (nC true) (bW 5) (dC .non))) (cD (nB 4 (bW 5))
 (dG 5 (b9 cJ (mT (bW 2) (bW 5)) (dC (.int 1))))))
 (cD (wZ 4)
 (zW 4 (b9 cJ (bW 3) (dC (.int 0))))))))))
noncomputable def vT:Option Nat->D
 | none=>.non
 | some u=>.int (u:Nat)
theorem Qa:vT none=.non:=rfl
theorem P9(u:Nat):vT (some u)=.int (u:Nat):=rfl
noncomputable def vB(en:List (Nat×En)):Option Nat->Nat
 | none=>0
 | some u=>(match cv en u with | some e=>e.1.toNat | none=>0)+1
theorem Ml(e:En):qz e=.tup [.int e.1,vT e.2]:=by
 obtain⟨w,o⟩:=e;cases o<;>rfl
theorem Tn(ds:List D)(Qr:R->Prop)(hl:ds.length=2)(h:xy ds Qr):Di { nx:=fun _=>Qr (.fz .non),rt:=Qr } (fR ["pieces","above","ends","heaviest","numbers","number"] ds):=by
 obtain⟨ps,ts,rfl,hn,kL,val,ord,pk,q⟩:=h;show Di _ [.fz (dw ps),.fz (gf ts),.un,.un,.un,.un];unfold Di;have big:=i8;walk_at "px";refine⟨ps,ts,rfl,hn,kL,val,ord,pk,fun en ok hk hlen=>?_⟩;have UW:∀x:Nat,1<=(ps[x]?.map Pc.k).getD 1:=fun x=>by
  cases hx:ps[x]? with
  | none=>exact bU _
  | some y=>exact pk y (ay hx)
 have key:∀(w:Int) (c0:Option Nat),Run ts (fun q=>(ps[q]?.map Pc.k).getD 1) en [] c0 w->(∀u,c0=some u->u<ps.length)->
   jT (cD (iI 4 (lR cx))
     (cD (dG 5 (b9 cJ (bW 3) (dC (D.int 1))))
      (cD
       (wD (eM (b9 (nC true) (bW 5) (dC D.non)))
        (cD (nB 4 (bW 5)) (dG 5 (b9 cJ (mT (bW 2) (bW 5)) (dC (D.int 1))))))
       (cD (wZ 4) (zW 4 (b9 cJ (bW 3) (dC (D.int 0))))))))
    { nx:=fun x=>Qr (R.fz D.non),rt:=Qr }
    [Sl.fz (dw ps),Sl.fz (gf ts),Sl.fz (D.dic (dA qz en)),Sl.fz (.tup [.int w,vT c0]),Sl.un,Sl.un]:=by
  intro w c0 D2 Vu;walk_at "go";refine⟨ba _,?_⟩;walk_at "go";refine⟨_,rfl,?_⟩;walk_at "go";refine⟨fun mm ρ=>∃(l:List Nat) (c:Option Nat),ρ=[Sl.fz (dw ps),Sl.fz (gf ts),Sl.fz (D.dic (dA qz en)),Sl.fz (.tup [.int w,vT c0]),.ow (l.map dN),.fz (vT c)]/\Run ts (fun q=>(ps[q]?.map Pc.k).getD 1) en l c w/\(∀q∈l,q<ps.length)/\(∀u,c=some u->u<ps.length)/\
   mm=vB en c,⟨_,[],c0,rfl,D2,fun q hq=>(by cases hq),Vu,rfl⟩,?_⟩
  rintro mm ρ ⟨l,c,rfl,run,cS,Xo,rfl⟩;cases c with
  | none=>
   simp only[Qa];walk_at "px";walk_at "go";simp only[wZ];walk_at "go";simp only[zW];walk_at "px";refine⟨_,rfl,?_⟩;rw[<-List.map_reverse];exact q w l ⟨run.dn,cS,run.nn rfl⟩
  | some u=>
   obtain⟨w',o,g1,sm⟩:=run.sm u rfl;have vE:=Xo u rfl;have KD:=Dn.len ord run.dn cS;have hp:=ok.pos u w' o g1;have XS:=UW u;have Fj:Dn ts (l++[u]):=run.dn.snoc fun q hq=>run.nx u q rfl hq
   simp only[P9];walk_at "px";refine⟨by rw[af];omega,?_⟩;walk_at "go";refine⟨_,_,rfl,by rw[qi,g1];rfl,?_⟩;simp only[Ml];refine⟨_,rfl,vB en o,?_,l++[u],o,by rw[aJ];rfl,⟨Fj,fun x y hx hy=>?_,fun x hx=>?_,fun hx=>?_⟩,fun x hx=>?_,fun x hx=>?_,rfl⟩
   ·have e1:vB en (some u)=w'.toNat+1:=by unfold vB;simp only[g1]
    rw[e1];cases o with
    | none=>exact Nat.succ_pos _
    | some x=>
     obtain⟨_,o',g2⟩:=ok.so u w' x g1;have uq:=ok.pos x _ _ g2;have e2:vB en (some x)=(w'-(ps[u]?.map Pc.k).getD 1).toNat+1:=by unfold vB;simp only[g2]
     rw[e2];omega
   ·subst hx;rw[List.getLast?_concat] at hy;cases hy;exact(ok.so u w' x g1).1
   ·subst hx;obtain⟨_,o',g2⟩:=ok.so u w' x g1;exact⟨_,o',g2,by rw[IC];omega⟩
   ·subst hx;have:=ok.no u w' g1;rw[IC];omega
   ·rcases aw.mp hx with hx | hx
    ·exact cS x hx
    ·simp at hx;subst hx;exact vE
   ·subst hx;obtain⟨⟨c,hc⟩,_⟩:=ok.so u w' x g1;exact(val _ hc).1
 walk_at "go";simp only[OV.val,rQ];walk_at "px";refine jY en (fun p=>.int (p.1:Nat)) (fun p=>.tup [.int (((cv en p.1).map (·.1)).getD 0),.int (p.1:Nat)]) (fun Q' h=>?_) (by omega) (fun p hp K1 k=>?_) ?_
 ·simp only[qE];walk_at "px";unfold dA;rw[aE];exact h
 ·walk_at "px";obtain⟨y,hy⟩:=Option.isSome_iff_exists.mp ((vh en p.1).mpr (aY hp));refine⟨_,_,rfl,by rw[qi,hy];rfl,?_⟩;simp only[qz];exact⟨_,rfl,by omega,by simpa[hy] using k⟩
 ·refine⟨by omega,?_⟩;rw[show(R.ow (en.map fun p=>D.tup [.int (((cv en p.1).map (·.1)).getD 0),.int (p.1:Nat)])).val=.lst ((en.map fun p=>((((cv en p.1).map (·.1)).getD 0),(p.1:Int))).map fun p=>D.tup [.int p.1,.int p.2]) by rw[aE];rfl];refine Jz _ _ _ (fun uu=>?_) fun p yD pI=>?_
  ·rw[List.map_eq_nil_iff] at uu;exact key 0 none ⟨trivial,fun u q e _=>(by cases e),fun u e=>(by cases e),fun _=>rfl⟩ fun u e=>by cases e
  ·rw[aH] at yD;obtain⟨p,hp,rfl⟩:=yD;obtain⟨⟨w,o⟩,hy⟩:=Option.isSome_iff_exists.mp ((vh en p.1).mpr (aY hp));simp only[hy,aM,Option.getD_some];refine key w (some p.1) ⟨trivial,fun u q e e2=>(by cases e2),fun u e=>?_,fun e=>by cases e⟩ fun u e=>?_
   ·cases e;exact⟨w,o,hy,by unfold ml;simp⟩
   ·cases e;exact(hk p.1).mp (by rw[hy];rfl)
end Wc
namespace Wc
open PySem L2 PyProof.Rows
end Wc
open PySem L2 PyProof.Rows Wc
local macro_rules | `(tactic| walk_at "px")=>`(tactic| (repeat(first | walk_at "b" | simp only[nD,kT,gt])))
namespace Wc
open PySem L2 PyProof.Rows
noncomputable def jE(c:Int)(p:Pc):Bool:=decide (p.l<=c)&&decide (c<=p.r)
def xD:dZ:=fun ds Q=>∃(ps:List Pc) (c:Int),ds=[dw ps,.int c]/\ps.length<=1000/\Q (.ow ((ps.filter (jE c)).map c6))
def DD:TX:=(fJ (fX (gj (bW 0)) [none,some 1] (cY 0) (eM (z9 (fB fun i j=>.bl (decide (i<=j))) (fB fun i j=>.bl (decide (i<=j))) (b9 cJ (bW 0) (dC (.int 1))) (bW 1) (b9 cJ (bW 0) (dC (.int 2))))) (bW 0)))
theorem TR(ds:List D)(Qr:R->Prop)(hl:ds.length=2)(h:xD ds Qr):DD { nx:=fun _=>Qr (.fz .non),rt:=Qr } (fR ["pieces","column"] ds):=by
 obtain⟨ps,c,rfl,hn,Q⟩:=h;show DD _ [.fz (dw ps),.fz (.int c)];unfold DD;have big:=i8;walk_at "px";refine vp ps c6 c6 (jE c) (fun Q' h=>?_) (by rw[big];omega) (fun p hp K1 K0 h1 h0=>?_) Q
 ·walk_at "px";exact h
 ·rw[show c6 p=.tup [dO p.n,.int p.l,.int p.r,.int p.k] from rfl] at h1 ⊢;walk_at "px";refine⟨.int p.l,rfl,?_⟩;show if p.l<=c then _ else _
  unfold jE at h1 h0;by_cases c1:p.l<=c
  ·rw[if_pos c1];refine⟨.int p.r,rfl,?_⟩;show if c<=p.r then _ else _
   by_cases c2:c<=p.r
   ·rw[if_pos c2];exact h1 (by simp[c1,c2])
   ·rw[if_neg c2];exact h0 (by simp[c2])
  ·rw[if_neg c1];exact h0 (by simp[c1])
end Wc
namespace Wc
open PySem L2 PyProof.Rows
end Wc
open PySem L2 PyProof.Rows Wc
local macro_rules | `(tactic| walk_at "px")=>`(tactic| (repeat(first | walk_at "b" | simp only[nD,kT,gt,oV])))
namespace Wc
open PySem L2 PyProof.Rows
noncomputable abbrev Nt:=List (Key×D)
noncomputable def rJ(W:Str->Int)(L:List Str):Nt:=L.map fun x=>(.inr x,.int (W x))
noncomputable def sY(L:List Str)(x:Str):List Str:=if x∈L then L else L++[x]
theorem P8(W:Str->Int)(L:List Str)(x:Str):kP (rJ W L) (.inr x) (.int (W x))=rJ W (sY L x):=by
 unfold kP sY rJ;have e:((L.map fun y=>((Sum.inr y:Key),D.int (W y))).any fun kv=>decide (kv.1=Sum.inr x))=decide (x∈L):=by
  rw[List.any_map,Bool.eq_iff_iff,List.any_eq_true,aQ];constructor
  ·rintro⟨y,hy,e⟩;simp only[Function.comp_apply,aQ] at e;injection e with e
   exact e▸hy
  ·intro h;exact⟨x,h,by simp⟩
 rw[e];by_cases h:x∈L
 ·rw[if_pos (by simpa using h),if_pos h,aE];refine List.map_congr_left fun y hy=>?_
  simp only[Function.comp_apply];split
  ·rename_i e2;injection e2 with e2
   rw[e2]
  ·rfl
 ·rw[if_neg (by simpa using h),if_neg h,aJ];rfl
theorem Jf(W:Str->Int):∀L:List Str,mj (rJ W L)=some (L.map W)
 | []=>rfl
 | x::L=>by
  show(mj (rJ W L)).map (W x::·)=_;rw[Jf W L];rfl
noncomputable def qp(c:Int)(L:List Str)(p:Pc):List Str:=if jE c p=true then match p.n with
  | none=>L
  | some x=>sY L x
 else L
noncomputable def nQ(c:Int)(ps:List Pc):List Str:=ps.foldl (qp c) []
noncomputable def yg(c:Int)(ps:List Pc):Int:=((ps.filter fun p=>jE c p&&p.n.isNone).map Pc.k).sum
noncomputable def jV(W:Str->Int)(ps:List Pc)(c:Int):Int:=yg c ps+((nQ c ps).map W).sum
theorem Ql{a b:List Int}(h:a.Perm b):a.sum=b.sum:=by
 induction h with
 | nil=>rfl
 | cons x _ ih=>simp[ih]
 | swap x y l=>simp;omega
 | trans _ _ h1 h2=>rw[h1,h2]
theorem IB{α:Type}[DecidableEq α](f:α->Int):∀(L M:List α),L.Nodup->(∀x∈L,x∈M)->(∀x∈M,0<=f x)->(L.map f).sum<=(M.map f).sum
 | [],M,_,_,h=>by
  show 0<=_;induction M with
  | nil=>simp
  | cons a r ih=>
   have:=h a (by simp);have:=ih (fun x hx=>by cases hx) fun x hx=>h x (by simp[hx])
   simp;omega
 | x::L,M,nd,sub,h=>by
  have p:=List.perm_cons_erase (sub x bj);rw[Ql (p.map f)];have iB:=aL.mp nd;have:=IB f L (M.erase x) iB.2 (fun y hy=>(List.mem_erase_of_ne (fun z:y=x=>iB.1 (z▸hy))).mpr (sub y (aB _ hy))) fun y hy=>h y (List.mem_of_mem_erase hy)
  simp only[au,List.sum_cons];omega
end Wc
namespace Wc
open PySem L2 PyProof.Rows
structure rL (W:Str->Int) (ps:List Pc):Prop where
 len:ps.length<=1000
 k0:∀p∈ps,0<=p.k
 wd:∀p∈ps,∀x,p.n=some x->p.k=W x
 lr:∀p∈ps,-1<=p.l/\p.l<=40
def xc:dZ:=fun ds Q=>∃(W:Str->Int) (ps:List Pc) (c:Int),ds=[dw ps,.int c]/\rL W ps/\Q (.fz (.int (jV W ps c)))
def C3:TX:=(cD (dG 2 (eD 2 xD (cg (bW 0) (cg (bW 1) cx))))
 (cD (dG 3 (fX (gj (bW 2)) [none] (cY 0) (eM (b9 (nC false) (b9 cJ (bW 0) (dC (.int 0))) (dC .non))) (b9 cJ (bW 0) (dC (.int 3)))))
 (cD (dG 4 (fU z0 (cg (fX (gj (bW 2)) [none] (cY 0) (eM (b9 (nC true) (b9 cJ (bW 0) (dC (.int 0))) (dC .non))) (jU (cg (b9 cJ (bW 0) (dC (.int 0))) (cg (b9 cJ (bW 0) (dC (.int 3))) cx)))) cx)))
 (fJ (b9 e9 (fU uM (cg (bW 3) cx)) (Gs (bW 4)))))))
noncomputable def sA(p:Pc):Str:=p.n.getD ⟨#[]⟩
theorem IA(W:Str->Int)(c:Int):∀(ps:List Pc) (L:List Str),(∀p∈ps,∀x,p.n=some x->p.k=W x)->(((ps.filter (jE c)).filter fun p=>!p.n.isNone).map fun p=>((Sum.inr (sA p):Key),D.int p.k)).foldl (fun acc p=>kP acc p.1 p.2) (rJ W L)=rJ W (ps.foldl (qp c) L)
 | [],L,_=>rfl
 | p::ps,L,h=>by
  have ih:=fun L=>IA W c ps L fun q hq=>h q (by simp[hq])
  rw[bw,List.filter_cons];unfold qp;by_cases ho:jE c p=true
  ·rw[if_pos ho,if_pos ho];cases hn:p.n with
   | none=>rw[List.filter_cons,if_neg (by simp[hn])];exact ih L
   | some x=>
    rw[List.filter_cons,if_pos (by simp[hn]),au,bw];have e:sA p=x:=by unfold sA;rw[hn];rfl
    show List.foldl _ (kP (rJ W L) (.inr (sA p)) (.int p.k)) _=_;rw[e,h p (by simp) x hn,P8];exact ih _
  ·rw[if_neg ho,if_neg ho];exact ih L
theorem Iz:∀ps:List Pc,(∀p∈ps,p.n≠none)->pairsOf (ps.map fun p=>D.tup [dO p.n,.int p.k])=some (ps.map fun p=>((Sum.inr (sA p):Key),D.int p.k))
 | [],_=>rfl
 | p::ps,h=>by
  have ih:=Iz ps fun q hq=>h q (by simp[hq])
  cases hn:p.n with
  | none=>exact absurd hn (h p (by simp))
  | some x=>
   rw[au,hn];show(match kQ (.str x) with | some key=>(pairsOf (ps.map fun(y:Pc)=>D.tup [dO y.n,.int y.k])).map ((key,D.int p.k)::·) | none=>none)=_;rw[ih];have e:sA p=x:=by unfold sA;rw[hn];rfl
   rw[au,e];rfl
theorem SQ(ds:List D)(Qr:R->Prop)(hl:ds.length=2)(h:xc ds Qr):C3 { nx:=fun _=>Qr (.fz .non),rt:=Qr } (fR ["pieces","column","held","keeps","nets"] ds):=by
 obtain⟨W,ps,c,rfl,ok,Q⟩:=h;show C3 _ [.fz (dw ps),.fz (.int c),.un,.un,.un];unfold C3;have big:=i8;have hn:=ok.len;walk_at "px";refine⟨ps,c,rfl,hn,?_⟩;have hh:(ps.filter (jE c)).length<=1000:=Nat.le_trans (bL _ _) hn;walk_at "go";refine vp (ps.filter (jE c)) c6 (fun p=>.int p.k) (fun p=>p.n.isNone) (fun Q' h=>?_) (by rw[big];omega) (fun p hp K1 K0 h1 h0=>?_) ?_
 ·walk_at "px";exact h
 ·rw[show c6 p=.tup [dO p.n,.int p.l,.int p.r,.int p.k] from rfl];walk_at "px";refine⟨dO p.n,rfl,?_⟩;cases sH:p.n with
  | none=>
   rw[sH] at h1;show if true=true then _ else _
   rw[if_pos rfl];exact⟨.int p.k,rfl,h1 rfl⟩
  | some x=>
   rw[sH] at h0;show if false=true then _ else _
   rw[if_neg aG];exact h0 rfl
 ·walk_at "go";refine vp (ps.filter (jE c)) c6 (fun p=>.tup [dO p.n,.int p.k]) (fun p=>!p.n.isNone) (fun Q' h=>?_) (by rw[big];omega) (fun p hp K1 K0 h1 h0=>?_) ?_
  ·walk_at "px";exact h
  ·rw[show c6 p=.tup [dO p.n,.int p.l,.int p.r,.int p.k] from rfl];walk_at "px";refine⟨dO p.n,rfl,?_⟩;cases sH:p.n with
   | none=>
    rw[sH] at h0;show if false=true then _ else _
    rw[if_neg aG];exact h0 rfl
   | some x=>
    rw[sH] at h1;show if true=true then _ else _
    rw[if_pos rfl];exact⟨dO (some x),rfl,.int p.k,rfl,by omega,h1 rfl⟩
  ·have hp:=Iz ((ps.filter (jE c)).filter fun p=>!p.n.isNone) fun p hp z=>by
    have:=(aI.mp hp).2;rw[z] at this;cases this
   simp only[qO,z0,hp];have hd:Cq (((ps.filter (jE c)).filter fun p=>!p.n.isNone).map fun p=>((Sum.inr (sA p):Key),D.int p.k))=rJ W (nQ c ps):=IA W c ps [] ok.wd;rw[hd];have vL:(((ps.filter (jE c)).filter fun p=>p.n.isNone).map fun p=>D.int p.k)=((ps.filter fun p=>jE c p&&p.n.isNone).map Pc.k).map D.int:=by
    rw[List.filter_filter,aE];congr 1
    refine List.filter_congr fun p _=>?_
    rw[Bool.and_comm]
   rw[vL];walk_at "go";refine⟨_,Jf W _,?_⟩;exact Q
theorem CH{te:TD}{g:gJ}{tb:TX}{De:DE}{ρ:Ev}(h:te ρ fun r=>vb r.val fun ds=>uZ g tb De ρ ds):ir (gj te) g tb De ρ:=h
def F5(W:Str->Int)(ps:List Pc)(x:Int):Prop:=x=0\/∃c,x=jV W ps c
def xb:dZ:=fun ds Q=>∃(W:Str->Int) (ps:List Pc),ds=[dw ps]/\rL W ps/\∀(x:Int) (o:Option Int),F5 W ps x->Q (.fz (.tup [.int x,dJ o]))
def C2:TX:=(cD (dG 1 (dC (.int 0)))
 (cD (dG 2 (dC .non))
 (cD (ir (gj (fU AJ (cg (fX (gj (bW 0)) [none] (cY 0) gX (b9 cJ (bW 0) (dC (.int 1)))) cx))) (cY 3) (cD (dG 4 (eD 2 xc (cg (bW 0) (cg (bW 3) cx))))
 (iY (eM (b9 (fB fun i j=>.bl (decide (j<i))) (bW 4) (bW 1))) (cD (dG 1 (bW 4))
 (dG 2 (bW 3))) jd)))
 (fJ (jU (cg (bW 1) (cg (bW 2) cx)))))))
theorem SO(ds:List D)(Qr:R->Prop)(hl:ds.length=1)(h:xb ds Qr):C2 { nx:=fun _=>Qr (.fz .non),rt:=Qr } (fR ["pieces","weight","column","begun","load"] ds):=by
 obtain⟨W,ps,rfl,ok,Q⟩:=h;show C2 _ [.fz (dw ps),.un,.un,.un,.un];unfold C2;have big:=i8;have hn:=ok.len;walk_at "px";walk_at "go";walk_at "go";refine CH ?_;walk_at "px";refine jY ps c6 (fun p=>.int p.l) (fun Q' h=>?_) (by rw[big];omega) (fun p hp K1 k=>?_) ?_
 ·walk_at "px";exact h
 ·rw[show c6 p=.tup [dO p.n,.int p.l,.int p.r,.int p.k] from rfl];walk_at "px";exact⟨_,rfl,k⟩
 ·have e:(ps.map fun p=>D.int p.l)=(ps.map Pc.l).map D.int:=by rw[aE];rfl
  rw[e];simp only[qO,AJ,xh];refine⟨by rw[af];omega,fun l nd hm=>?_,fun l nd hm hs=>?_⟩
  ·have h1:∀x∈l,x∈(List.range 42).map fun(i:Nat)=>(i:Int)-1:=fun x hx=>by
    obtain⟨p,hp,rfl⟩:=aH.mp (hm x hx);have:=ok.lr p hp;exact aH.mpr ⟨(p.l+1).toNat,aP.mpr (by omega),by omega⟩
   have h2:=IB (fun _=>1) l _ nd h1 fun _ _=>by omega
   have h3:∀L:List Int,(L.map fun _=>(1:Int)).sum=(L.length:Int):=by
    intro L;induction L with
    | nil=>rfl
    | cons a r ih=>rw[au,List.sum_cons,ih,aN];omega
   rw[h3,h3,af,bP] at h2;omega
  ·show uZ _ _ _ _ (l.map D.int);refine xg l D.int (fun i ρ=>∃(x:Int) (o:Option Int) (a c:Sl),ρ=[.fz (dw ps),.fz (.int x),.fz (dJ o),a,c]/\F5 W ps x) ⟨0,none,.un,.un,rfl,.inl rfl⟩ ?_ ?_
   ·rintro i x ρ hx ⟨b,o,a,c,rfl,hb⟩;walk_at "px";refine⟨W,ps,x,rfl,ok,?_⟩;walk_at "go";split
    ·walk_at "go";exact⟨jV W ps x,some x,_,_,rfl,.inr ⟨x,rfl⟩⟩
    ·exact⟨b,o,_,_,rfl,hb⟩
   ·rintro ρ ⟨b,o,a,c,rfl,hb⟩;walk_at "go";refine⟨by omega,?_⟩;exact Q b o hb
end Wc
namespace Wc
open PySem L2 PyProof.Rows
end Wc
open PySem L2 PyProof.Rows Wc
local macro_rules | `(tactic| walk_at "px")=>`(tactic| (repeat(first | walk_at "b" | simp only[uO])))
namespace Wc
open PySem L2 PyProof.Rows
noncomputable def Bz(a:Option Int)(p:Pc×Int):Option Int:=match a with
 | none=>some (p.2+p.1.k)
 | some m=>some (if m<p.2+p.1.k then p.2+p.1.k else m)
noncomputable def lP(ps:List Pc)(tr:List Int):Option Int:=(ps.zip tr).foldl Bz none
def sf:dZ:=fun ds Q=>∃(ps:List Pc) (tr:List Int),ds=[dw ps,dI tr]/\tr.length=ps.length/\ps.length<=1000/\(∀p∈ps,1<=p.k/\p.k<=3)/\Q (.fz (.int ((lP ps tr).getD 0)))
theorem OA(ps:List Pc)(tr:List Int):rP (ps.map c6) (tr.map D.int)=(ps.zip tr).map fun p=>.tup [c6 p.1,.int p.2]:=by unfold rP;rw[List.zipWith_map,List.map_zip_eq_zipWith];rfl
theorem Qk(L:List Int)(d:D)(Q:R->Prop)(h0:L=[]->Q (.fz d))(h1:∀p∈L,(∀r∈L,r<=p)->Q (.fz (.int p))):uU (.lst (L.map D.int)) d Q:=by
 unfold uU;have e:uV (L.map D.int)=some (true,L.map fun n=>[n]):=by unfold uV;rw[xh]
 simp only[e];refine⟨fun e=>h0 (by simpa using e),fun t ht hu=>?_⟩;obtain⟨p,hp,rfl⟩:=aH.mp ht;refine h1 p hp fun r hr=>?_
 have:=hu [r] (aY hr);simp[HT.b8] at this;omega
theorem C1:∀(L:List (Pc×Int)) (m:Int),∃x,L.foldl Bz (some m)=some x/\m<=x/\(∀p∈L,p.2+p.1.k<=x)/\(x=m\/∃p∈L,x=p.2+p.1.k)
 | [],m=>⟨m,rfl,bU _,fun p hp=>(by cases hp),.inl rfl⟩
 | p::L,m=>by
  obtain⟨x,h1,h2,h3,h4⟩:=C1 L (if m<p.2+p.1.k then p.2+p.1.k else m);refine⟨x,h1,by split at h2<;>omega,fun q hq=>?_,?_⟩
  ·rcases aq.mp hq with rfl | hq
   ·split at h2<;>omega
   ·exact h3 q hq
  ·rcases h4 with h4 | ⟨q,hq,h4⟩
   ·by_cases c:m<p.2+p.1.k
    ·rw[if_pos c] at h4;exact .inr ⟨p,bj,h4⟩
    ·rw[if_neg c] at h4;exact .inl h4
   ·exact .inr ⟨q,aB _ hq,h4⟩
theorem OH{ps:List Pc}{tr:List Int}(h:ps.zip tr=[]):lP ps tr=none:=by unfold lP;rw[h];rfl
theorem Iy{ps:List Pc}{tr:List Int}(h:ps.zip tr≠[]):∃x,lP ps tr=some x/\(∀p∈ps.zip tr,p.2+p.1.k<=x)/\∃p∈ps.zip tr,x=p.2+p.1.k:=by
 unfold lP;cases hz:ps.zip tr with
 | nil=>exact absurd hz h
 | cons p L=>
  obtain⟨x,h1,h2,h3,h4⟩:=C1 L (p.2+p.1.k);refine⟨x,h1,fun q hq=>?_,?_⟩
  ·rcases aq.mp hq with rfl | hq
   ·exact h2
   ·exact h3 q hq
  ·rcases h4 with h4 | ⟨q,hq,h4⟩
   ·exact⟨p,bj,h4⟩
   ·exact⟨q,aB _ hq,h4⟩
def Dh:TX:=(fJ (rQ (fX (uO (cg (bW 0) (cg (bW 1) cx))) [none,none] (j6 2 (fh (cY 0) (fh (cY 1) jA))) gX (b9 e9 (bW 1) (b9 cJ (bW 0) (dC (.int 3))))) (dC (.int 0))))
theorem Tj(ds:List D)(Qr:R->Prop)(hl:ds.length=2)(h:sf ds Qr):Dh { nx:=fun _=>Qr (.fz .non),rt:=Qr } (fR ["pieces","tracks"] ds):=by
 obtain⟨ps,tr,rfl,ht,hp,hk,q⟩:=h;show Dh _ [.fz (dw ps),.fz (dI tr)];unfold Dh;have big:=i8;show rQ _ _ _ _;unfold rQ;refine jY (ps.zip tr) (fun p=>.tup [c6 p.1,.int p.2]) (fun p=>.int (p.2+p.1.k)) (fun Q' h=>?_) (by rw[List.length_zip];omega) (fun p hp K1 k1=>?_) ?_
 ·unfold dw dI;walk_at "px";rw[OA];exact h
 ·rw[show c6 p.1=.tup [dO p.1.n,.int p.1.l,.int p.1.r,.int p.1.k] from rfl];walk_at "px";refine⟨_,rfl,?_⟩;exact k1
 ·simp only[dC,qO,qg];rw[show(ps.zip tr).map (fun p=>D.int (p.2+p.1.k))=((ps.zip tr).map fun p=>p.2+p.1.k).map D.int by rw[aE];rfl];refine Qk _ _ _ (fun e=>?_) fun p hp hu=>?_
  ·rw[OH (by simpa using e)] at q;exact q
  ·obtain⟨z,hz,rfl⟩:=aH.mp hp;obtain⟨x,h1,h2,y,hy,h3⟩:=Iy (ps:=ps) (tr:=tr) (fun e=>by rw[e] at hz;cases hz);rw[h1] at q;have a:=h2 z hz;have b:=hu _ (aY hy);have e:z.2+z.1.k=x:=by omega
   rw[<-e] at q;exact q
end Wc
namespace Wc
open PySem L2 PyProof.Rows
end Wc
open PySem L2 PyProof.Rows Wc
local macro_rules | `(tactic| walk_at "px")=>`(tactic| (repeat(first | walk_at "b" | simp only[nD,kT,BO,BN,gt])))
namespace Wc
open PySem L2 PyProof.Rows
noncomputable def gk(ps:List Pc)(lv:List Int)(q:Nat):List Int:=[dr lv q,-(bY ps q).k]
noncomputable def gI(ps:List Pc)(lv:List Int)(ord:List Nat)(t:List Int):List Nat:=ord.filter fun q=>decide (gk ps lv q=t)
structure kq (ps:List Pc) (lv:List Int) (ord:List Nat) (ks:List (List Int)):Prop where
 j0:ks.Pairwise fun x y=>HT.b8 y x=true
 mem:∀t,t∈ks↔∃q∈ord,gk ps lv q=t
noncomputable def FP(gs:List (List Nat)):List D:=gs.map fun g=>.lst (dH g)
def xH:dZ:=fun ds Q=>∃(ps:List Pc) (lv:List Int),ds=[dw ps,dI lv]/\lv.length=ps.length/\ps.length<=63/\∀ord ks,eu ps ord->kq ps lv ord ks->Q (.ow (FP (ks.map (gI ps lv ord))))
def DN:TX:=(cD (iI 2 BO)
 (cD (ir (gj (eD 1 vo (cg (bW 0) cx))) (cY 3) (cD (iI 4 (BN (cg (b9 cJ (bW 1) (bW 3)) (cg (zI (b9 cJ (b9 cJ (bW 0) (bW 3)) (dC (.int 3)))) cx))))
 (zF 2 4 (bW 3))))
 (uN 2 (fJ (fX (gj (fU Cr (cg (bW 2) cx))) [none,some 2] (cY 0) gX (BM (bW 1) (bW 0)))))))
noncomputable abbrev Tb:=List Int×List Nat
noncomputable def nt(p:Tb):List Key×List D:=(p.1.map Sum.inl,dH p.2)
structure zu (ps:List Pc) (lv:List Int) (o:List Nat) (tab:List Tb):Prop where
 nd:(tab.map (·.1)).Nodup
 mem:∀t,t∈tab.map (·.1)↔∃q∈o,gk ps lv q=t
 val:∀p∈tab,p.2=gI ps lv o p.1
 len:tab.length<=o.length
theorem Ar{a b:List Int}(h:a.map (fun i=>(Sum.inl i:Key))=b.map Sum.inl):a=b:=by
 refine(List.map_inj_right fun x y z=>?_).mp h;injection z
theorem Oz(tab:List Tb)(t:List Int):((tab.map nt).any fun kv=>decide (kv.1=t.map Sum.inl))=decide (t∈tab.map (·.1)):=by
 rw[List.any_map,Bool.eq_iff_iff,List.any_eq_true,aQ,aH];constructor
 ·rintro⟨p,hp,e⟩;simp only[Function.comp_apply,nt] at e;exact⟨p,hp,Ar (of_decide_eq_true e)⟩
 ·rintro⟨p,hp,rfl⟩;exact⟨p,hp,by simp[nt]⟩
theorem Iw(ps:List Pc)(lv:List Int)(o:List Nat)(q:Nat)(t:List Int):gI ps lv (o++[q]) t=if gk ps lv q=t then gI ps lv o t++[q] else gI ps lv o t:=by
 unfold gI;rw[List.filter_append];by_cases h:gk ps lv q=t
 ·simp[h]
 ·simp[h]
theorem Dg:∀t:List Int,qK (t.map D.int)=some (t.map Sum.inl)
 | []=>rfl
 | a::t=>by
  rw[au];unfold qK;rw[Dg t];rfl
theorem Qj{te te':TD}{m:List (Option Nat)}{g:gJ}{tc:gK}{ρ:Ev}{Q:R->Prop}(h:te ρ fun r=>vb r.val fun ds=>fX (fun _ Q'=>Q' ds) m g tc te' ρ Q):fX (gj te) m g tc te' ρ Q:=h
theorem Qi(te:TD)(g:gJ)(tb:TX)(De:DE)(ρ:Ev):ir (gj te) g tb De ρ=te ρ fun r=>vb r.val fun ds=>∃Iv:Nat->Ev->Prop,Iv 0 ρ/\(∀i d ρ',ds[i]?=some d->Iv i ρ'->g d ρ' fun dM=>tb { De with nx:=Iv (i+1),ct:=Iv (i+1),bk:=De.nx } dM)/\∀ρ',Iv ds.length ρ'->De.nx ρ':=rfl
theorem UG(ds:List D)(Qr:R->Prop)(hl:ds.length=2)(h:xH ds Qr):DN { nx:=fun _=>Qr (.fz .non),rt:=Qr } (fR ["pieces","levels","groups","number","key"] ds):=by
 obtain⟨ps,lv,rfl,KC,hn,Q⟩:=h;show DN _ [.fz (dw ps),.fz (dI lv),.un,.un,.un];unfold DN;have big:=i8;have gl:∀q,q<ps.length->di lv (q:Int)=some (dr lv q):=fun q hq=>by rw[u3 (by omega)];exact kJ (by omega)
 have gp:∀q,q<ps.length->di ps (q:Int)=some (bY ps q):=fun q hq=>by rw[j9 hq];exact kJ hq
 walk_at "px";walk_at "go";rw[Qi];walk_at "px";refine⟨ps,rfl,by omega,fun ord io=>?_⟩;have pG:ord.length=ps.length:=io.len;show ∃Iv:Nat->Ev->Prop,_
 refine⟨fun i ρ=>∃(tab:List Tb) (a b:Sl),ρ=[.fz (dw ps),.fz (dI lv),.ov (.dt (tab.map nt)),a,b]/\zu ps lv (ord.take i) tab,⟨[],_,_,rfl,⟨List.nodup_nil,fun t=>by simp,fun p hp=>(by cases hp),az _⟩⟩,?_,?_⟩
 ·rintro i d ρ hd ⟨tab,a,b,rfl,ok⟩;unfold dH at hd;rw[ao] at hd;cases hq:ord[i]? with
  | none=>rw[hq] at hd;cases hd
  | some q=>
   rw[hq] at hd;cases hd;have jb:q<ps.length:=(io.mem q).mp (ay hq);have uw:i<ord.length:=(aj.mp hq).1;have e1:ord.take (i+1)=ord.take i++[q]:=by rw[aK,hq];rfl
   have tl:tab.length<=63:=by have:=ok.len;rw[aV] at this;omega
   unfold dI dw;walk_at "px";refine⟨_,gl q jb,_,gp q jb,?_⟩;rw[show c6 (bY ps q)=.tup [dO (bY ps q).n,.int (bY ps q).l,.int (bY ps q).r,.int (bY ps q).k] from rfl];refine⟨_,rfl,by omega,?_⟩;simp only[jT];unfold zF;simp only[gt];have ek:qK [D.int (dr lv q),D.int (-(bY ps q).k)]=some ((gk ps lv q).map Sum.inl):=Dg (gk ps lv q);have ht:kU (tab.map nt) ((gk ps lv q).map Sum.inl)=if gk ps lv q∈tab.map (·.1) then tab.map nt else(tab++[(gk ps lv q,[])]).map nt:=by
    unfold kU;rw[Oz];by_cases h:gk ps lv q∈tab.map (·.1)
    ·simp[h]
    ·rw[if_neg (by simp[h]),if_neg h,aJ];rfl
   by_cases h:gk ps lv q∈tab.map (·.1)
   ·rw[if_pos h] at ht;obtain⟨p,hp,nc⟩:=aH.mp h;obtain⟨n,hn⟩:=List.getElem?_of_mem hp;have Bi:n<tab.length:=(aj.mp hn).1;have first:∀j,j<n->∀x,tab[j]?=some x->x.1≠gk ps lv q:=fun j hj x hx z=>by
     obtain⟨vM,yS⟩:=aj.mp hx;have:=bN.mp ok.nd j n (by rw[af];exact vM) (by rw[af];exact Bi) hj;rw[List.getElem_map,List.getElem_map,yS,(aj.mp hn).2] at this;exact this (z.trans nc.symm)
    refine⟨_,n,dH p.2,ek,by rw[af];omega,?_,fun j hj x hx=>?_,?_⟩
    ·rw[ht,ao,hn,<-nc];rfl
    ·rw[ht,ao] at hx;cases m6:tab[j]? with
     | none=>rw[m6] at hx;cases hx
     | some y=>
      rw[m6] at hx;cases hx;exact fun z=>first j hj y m6 (Ar z)
    ·rw[ht];walk_at "px";refine⟨?_,tab.set n (p.1,p.2++[q]),.fz (.int (q:Nat)),.fz (.tup [.int (dr lv q),.int (-(bY ps q).k)]),?_,⟨?_,fun t=>?_,fun y hy=>?_,?_⟩⟩
     ·have:=ok.val p hp;unfold dH;rw[af,this];have:=bL (fun q'=>decide (gk ps lv q'=p.1)) (ord.take i);unfold gI;rw[aV] at this;omega
     ·rw[List.map_set];have:nt (p.1,p.2++[q])=((gk ps lv q).map Sum.inl,dH p.2++[D.int (q:Int)]):=by
       unfold nt dH;rw[aJ,nc];rfl
      rw[this]
     ·have:(tab.set n (p.1,p.2++[q])).map (·.1)=tab.map (·.1):=by
       rw[List.map_set];apply List.ext_getElem?;intro j;rw[bQ];split
       ·rename_i e;subst e;rw[ao,hn];simp[Bi]
       ·rfl
      rw[this];exact ok.nd
     ·have:(tab.set n (p.1,p.2++[q])).map (·.1)=tab.map (·.1):=by
       rw[List.map_set];apply List.ext_getElem?;intro j;rw[bQ];split
       ·rename_i e;subst e;rw[ao,hn];simp[Bi]
       ·rfl
      rw[this,ok.mem t,e1];constructor
      ·rintro⟨x,hx,e⟩;exact⟨x,aO _ hx,e⟩
      ·rintro⟨x,hx,e⟩;rcases aw.mp hx with hx | hx
       ·exact⟨x,hx,e⟩
       ·simp at hx;subst hx;rw[e] at h;exact(ok.mem t).mp h
     ·rw[e1,Iw];obtain⟨j,hj⟩:=List.getElem?_of_mem hy;rw[bQ] at hj;split at hj
      ·rename_i ej;cases hj;rw[if_pos nc.symm,ok.val p hp]
      ·rename_i ej;have Es:y∈tab:=ay hj;have cE:¬gk ps lv q=y.1:=fun z=>by
        obtain⟨vM,yS⟩:=aj.mp hj;have nd:=ok.nd;have e3:(tab.map (·.1))[j]'(by rw[af];exact vM)=(tab.map (·.1))[n]'(by rw[af];exact Bi):=by
         rw[List.getElem_map,List.getElem_map,yS,(aj.mp hn).2,nc,<-z]
        have:=(List.getElem_inj nd).mp e3;omega
       rw[if_neg cE];exact ok.val y Es
     ·rw[List.length_set,e1,a9];have:=ok.len;omega
   ·rw[if_neg h] at ht;refine⟨_,tab.length,[],ek,by rw[af];omega,?_,fun j hj x hx=>?_,?_⟩
    ·rw[ht,ao,List.getElem?_append_right (az _)];simp[nt,dH]
    ·rw[ht,ao,List.getElem?_append_left hj] at hx;cases m6:tab[j]? with
     | none=>rw[m6] at hx;cases hx
     | some y=>
      rw[m6] at hx;cases hx;exact fun z=>h (aH.mpr ⟨y,ay m6,Ar z⟩)
    ·rw[ht];walk_at "px";have W7:gI ps lv (ord.take i) (gk ps lv q)=[]:=by
      unfold gI;rw[List.filter_eq_nil_iff];intro x hx z;exact h ((ok.mem _).mpr ⟨x,hx,of_decide_eq_true z⟩)
     refine⟨by rw[big];decide,tab++[(gk ps lv q,[q])],.fz (.int (q:Nat)),.fz (.tup [.int (dr lv q),.int (-(bY ps q).k)]),?_,⟨?_,fun t=>?_,fun y hy=>?_,?_⟩⟩
     ·have:((tab++[(gk ps lv q,[])]).map nt).set tab.length ((gk ps lv q).map Sum.inl,[D.int (q:Int)])=(tab++[(gk ps lv q,[q])]).map nt:=by
       rw[aJ,aJ,List.set_append_right _ _ (by simp)];simp[nt,dH]
      rw[this]
     ·rw[aJ,bJ];exact⟨ok.nd,by simp,fun x hx y hy=>by simp at hy;subst hy;exact fun z=>h (z▸hx)⟩
     ·rw[aJ,aw,ok.mem t,e1];constructor
      ·rintro(⟨x,hx,e⟩ | hx)
       ·exact⟨x,aO _ hx,e⟩
       ·simp at hx;exact⟨q,by simp,hx.symm⟩
      ·rintro⟨x,hx,e⟩;rcases aw.mp hx with hx | hx
       ·exact .inl ⟨x,hx,e⟩
       ·simp at hx;subst hx;exact .inr (by simp[e])
     ·rw[e1,Iw];rcases aw.mp hy with hy | hy
      ·have cE:¬gk ps lv q=y.1:=fun z=>h (z▸aY hy)
       rw[if_neg cE];exact ok.val y hy
      ·simp at hy;subst hy;rw[if_pos rfl,W7];rfl
     ·rw[a9,e1,a9];have:=ok.len;simp only[List.length_singleton];omega
 ·rintro ρ ⟨tab,a,b,rfl,ok⟩;have ed:(dH ord).length=ord.length:=by unfold dH;simp
  rw[ed,aS] at ok;have tl:tab.length<=63:=by have:=ok.len;omega
  walk_at "go";simp only[OV.val];have ek:((tab.map nt).map fun p=>(p.1,D.lst p.2))=tab.map fun p=>(p.1.map Sum.inl,D.lst (dH p.2)):=by rw[aE];rfl
  rw[ek];have Xi:(tab.map fun p:Tb=>((p.1.map Sum.inl:List Key),D.lst (dH p.2))).map (·.1)=(tab.map (·.1)).map (fun t=>t.map Sum.inl):=by rw[aE,aE];rfl
  have x9:∀t∈tab.map (·.1),t≠[]:=fun t ht=>by
   obtain⟨x,_,e⟩:=(ok.mem t).mp ht;rw[<-e];simp[gk]
  refine Qj ?_;walk_at "px";refine⟨tab.map (·.1),Xi,by rw[af];omega,x9,fun eN hp hs=>?_⟩;have iB:eN.Nodup:=hp.nodup_iff.mpr ok.nd;refine jY eN (fun t=>D.tup (t.map D.int)) (fun t=>.lst (dH (gI ps lv ord t))) (fun Q' h=>h) (by rw[hp.length_eq,af];omega) (fun t ht K1 k=>?_) ?_
  ·unfold BM;walk_at "px";obtain⟨p,vH,nc⟩:=aH.mp (hp.subset ht);refine⟨_,D.lst (dH (gI ps lv ord t)),Dg t,?_,k⟩;have hv:=ok.val p vH;unfold wo;cases hf:(tab.map fun p:Tb=>((p.1.map Sum.inl:List Key),D.lst (dH p.2))).find? fun kv=>decide (kv.1=t.map Sum.inl) with
   | none=>
    have:=List.find?_eq_none.mp hf _ (aY vH);simp[nc] at this
   | some x=>
    have h1:=List.mem_of_find?_eq_some hf;have h2:=List.find?_some hf;simp only[aQ] at h2;obtain⟨y,hy,rfl⟩:=aH.mp h1;have Et:y.1=t:=Ar h2;rw[aM,ok.val y hy,Et]
  ·have:(eN.map fun t=>D.lst (dH (gI ps lv ord t)))=FP (eN.map (gI ps lv ord)):=by unfold FP;rw[aE];rfl
   rw[this];exact Q ord eN io ⟨(hs.and iB).imp fun{a b} h=>wW _ _ h.1 h.2,fun t=>by rw[hp.mem_iff];exact ok.mem t⟩
end Wc
namespace Wc
open PySem L2 PyProof.Rows
end Wc
open PySem L2 PyProof.Rows Wc
local macro_rules | `(tactic| walk_at "px")=>`(tactic| (repeat(first | walk_at "b" | simp only[nD,kT,BL,gt])))
namespace Wc
open PySem L2 PyProof.Rows
noncomputable def qD(ps:List Pc)(q:Nat)(s:List Nat):Bool:=decide ((bY ps (s.getLastD 0)).r<(bY ps q).l)
noncomputable def pX(ps:List Pc)(S:List (List Nat))(q:Nat):List (List Nat):=match S.findIdx? (qD ps q) with
 | none=>S++[[q]]
 | some j=>S.set j (S.getD j []++[q])
noncomputable def jC(ps:List Pc)(g:List Nat):List (List Nat):=g.foldl (pX ps) []
structure pS (ps:List Pc) (g:List Nat) (S:List (List Nat)):Prop where
 ne:∀s∈S,s≠[]
 mem:∀s∈S,∀q∈s,q∈g
 cnt:S.flatten.Perm g
theorem Oy{ps:List Pc}{g:List Nat}{S:List (List Nat)}(q:Nat)(h:pS ps g S):pS ps (g++[q]) (pX ps S q):=by
 unfold pX;cases hj:S.findIdx? (qD ps q) with
 | none=>
  refine⟨fun s hs=>?_,fun s hs x hx=>?_,?_⟩
  ·rcases aw.mp hs with hs | hs
   ·exact h.ne s hs
   ·simp at hs;subst hs;simp
  ·rcases aw.mp hs with hs | hs
   ·exact aO _ (h.mem s hs x hx)
   ·simp at hs;subst hs;exact bu _ hx
  ·show(S++[[q]]).flatten.Perm _;rw[List.flatten_append];simpa using h.cnt.append_right [q]
 | some j=>
  have pJ:j<S.length:=(List.findIdx?_eq_some_iff_getElem.mp hj).1;have e:S.getD j []=S[j]:=by rw[List.getD_eq_getElem?_getD,ag pJ];rfl
  refine⟨fun s hs=>?_,fun s hs x hx=>?_,?_⟩
  ·rcases List.mem_or_eq_of_mem_set hs with hs | rfl
   ·exact h.ne s hs
   ·simp
  ·rcases List.mem_or_eq_of_mem_set hs with hs | rfl
   ·exact aO _ (h.mem s hs x hx)
   ·rcases aw.mp hx with hx | hx
    ·rw[e] at hx;exact aO _ (h.mem _ (bI pJ) x hx)
    ·exact bu _ hx
  ·show(S.set j (S.getD j []++[q])).flatten.Perm _;have e2:S=S.take j++S[j]::S.drop (j+1):=by rw[List.getElem_cons_drop,List.take_append_drop]
   have e3:S.set j (S.getD j []++[q])=S.take j++(S[j]++[q])::S.drop (j+1):=by
    rw[e,List.set_eq_take_append_cons_drop,if_pos pJ]
   rw[e3];have p1:(S.take j++(S[j]++[q])::S.drop (j+1)).flatten.Perm (S.flatten++[q]):=by
    conv=>rhs;rw[e2]
    simp only[List.flatten_append,List.flatten_cons,List.append_assoc];refine List.Perm.append_left _ (List.Perm.append_left _ ?_);exact List.perm_append_comm
   exact p1.trans (h.cnt.append_right [q])
theorem vf(ps:List Pc):∀(g:List Nat),pS ps g (jC ps g):=by
 intro g;have:∀(r g0:List Nat) (S:List (List Nat)),pS ps g0 S->pS ps (g0++r) (r.foldl (pX ps) S):=by
  intro r;induction r with
  | nil=>intro g0 S h;simpa using h
  | cons q r ih=>
   intro g0 S h;have:=ih (g0++[q]) _ (Oy q h);simpa using this
 simpa[jC] using this g [] [] ⟨fun s hs=>(by cases hs),fun s hs=>(by cases hs),by simp⟩
theorem JH{ps:List Pc}{g:List Nat}{i q:Nat}(h:g[i]?=some q):jC ps (g.take (i+1))=pX ps (jC ps (g.take i)) q:=by
 have e1:g.take (i+1)=g.take i++[q]:=by rw[aK,h];rfl
 unfold jC;rw[e1,List.foldl_append];rfl
def xC:dZ:=fun ds Q=>∃(ps:List Pc) (g:List Nat),ds=[dw ps,.lst (dH g)]/\(∀q∈g,q<ps.length)/\g.length<=63/\Q (.ov (.ll ((jC ps g).map dH)))
def DC:TX:=(cD (iI 2 BL)
 (cD (ir (gj (bW 1)) (cY 3) (Bv 4 2 3 [none,some 0,some 3] (eM (b9 (fB fun i j=>.bl (decide (i<j))) (b9 cJ (b9 cJ (bW 1) (b9 cJ (bW 0) (zI (dC (.int 1))))) (dC (.int 2))) (b9 cJ (b9 cJ (bW 1) (bW 2)) (dC (.int 1))))) (eM (b9 oEq (we 4) (dC (.int 0)))) (zU 2 (lR (cg (bW 3) cx)))))
 (oU 2)))
noncomputable def fD(ps:List Pc)(q:Nat)(ds:List D):Bool:=match ds.getLast? with
 | some (.int i)=>decide ((bY ps i.toNat).r<(bY ps q).l)
 | _=>false
theorem Gp(ps:List Pc)(q:Nat){s:List Nat}(h:s≠[]):fD ps q (dH s)=qD ps q s:=by
 unfold fD qD dH;rw[List.getLast?_map];cases hl:s.getLast? with
 | none=>exact absurd (List.getLast?_eq_none_iff.mp hl) h
 | some x=>
  have:s.getLastD 0=x:=by rw[List.getLastD_eq_getLast?,hl];rfl
  rw[this];rfl
theorem Jx{α β:Type}{f:β->α}{p:α->Bool}{q:β->Bool}:∀{l:List β},(∀x∈l,p (f x)=q x)->(l.map f).findIdx? p=l.findIdx? q
 | [],_=>rfl
 | x::l,h=>by
  rw[au,List.findIdx?_cons,List.findIdx?_cons,h x (by simp),Jx fun y hy=>h y (by simp[hy])]
theorem TQ(ds:List D)(Qr:R->Prop)(hl:ds.length=2)(h:xC ds Qr):DC { nx:=fun _=>Qr (.fz .non),rt:=Qr } (fR ["pieces","group","strips","number","free"] ds):=by
 obtain⟨ps,g,rfl,hq,hn,Q⟩:=h;show DC _ [.fz (dw ps),.fz (.lst (dH g)),.un,.un,.un];unfold DC;have big:=i8;have gp:∀q,q<ps.length->di ps (q:Int)=some (bY ps q):=fun q hq=>by rw[j9 hq];exact kJ hq
 walk_at "px";walk_at "go";refine o6 g (fun(q:Nat)=>.int (q:Int)) (fun Q' h=>?_) (fun i ρ=>∃a:Sl,ρ=[.fz (dw ps),.fz (.lst (dH g)),.ov (.ll ((jC ps (g.take i)).map dH)),a,.un]) ⟨_,rfl⟩ ?_ ?_
 ·walk_at "px";exact h
 ·rintro i q ρ Bf ⟨a,rfl⟩;have pF:q∈g:=ay Bf;have jb:=hq q pF;have ok:=vf ps (g.take i);have uw:i<g.length:=(aj.mp Bf).1;have Wj:(jC ps (g.take i)).length<=62:=by
   have h1:=ok.cnt.length_eq;rw[aV] at h1;have h2:∀S:List (List Nat),(∀s∈S,s≠[])->S.length<=S.flatten.length:=by
    intro S;induction S with
    | nil=>intro _;simp
    | cons s S ih=>
     intro h;have h3:=ih fun x hx=>h x (by simp[hx])
     have h4:0<s.length:=List.length_pos_iff.mpr (h s (by simp));rw[List.flatten_cons,a9,aN];omega
   have:=h2 _ ok.ne;omega
  show Bv 4 2 3 _ _ _ _ _ [.fz (dw ps),.fz (.lst (dH g)),.ov (.ll ((jC ps (g.take i)).map dH)),.fz (.int (q:Int)),.un];refine⟨by simp,by decide,by decide,?_⟩;have fc:((jC ps (g.take i)).map dH).findIdx? (fD ps q)=(jC ps (g.take i)).findIdx? (qD ps q):=Jx fun s hs=>Gp ps q (ok.ne s hs)
  refine⟨by rw[af,big];omega,fD ps q,fun ds kM=>?_,?_,fun yF=>?_,fun j ds hj kM=>?_⟩
  ·obtain⟨s,hs,rfl⟩:=aH.mp kM;rw[Gp ps q (ok.ne s hs)];have cE:=ok.ne s hs;have hx:s.getLast cE∈g:=List.mem_of_mem_take (ok.mem s hs _ (List.getLast_mem cE));have V4:0<s.length:=List.length_pos_iff.mpr cE;have zg:di (dH s) (-1)=some (.int (s.getLast cE:Nat)):=by
    unfold dH;rw[nJ];have:di s (-1)=some (s.getLast cE):=PF s cE;rw[this];rfl
   unfold dw;show eM _ [.fz (.lst (dH s)),.fz (.lst (ps.map c6)),.fz (.int (q:Int))] _;walk_at "px";refine⟨_,zg,?_⟩;show ∃d,di (ps.map c6) ((s.getLast cE:Nat):Int)=some d/\_
   refine⟨c6 (bY ps (s.getLast cE)),by rw[nJ,gp _ (hq _ hx)];rfl,?_⟩;show ∃d,di [dO (bY ps (s.getLast cE)).n,.int (bY ps (s.getLast cE)).l,.int (bY ps (s.getLast cE)).r,.int (bY ps (s.getLast cE)).k] 2=some d/\_
   refine⟨.int (bY ps (s.getLast cE)).r,rfl,_,gp q jb,?_⟩;show ∃d,di [dO (bY ps q).n,.int (bY ps q).l,.int (bY ps q).r,.int (bY ps q).k] 1=some d/\_
   refine⟨.int (bY ps q).l,rfl,?_⟩;show decide _=qD ps q s;unfold qD;rw[List.getLastD_eq_getLast?,List.getLast?_eq_some_getLast cE];rfl
  ·simp only[List.set_cons_succ,List.set_cons_zero];walk_at "px";rw[af];constructor
   ·intro h;exact List.eq_nil_of_length_eq_zero (by omega)
   ·intro h;rw[h];rfl
  ·unfold zU;simp only[List.set_cons_succ,List.set_cons_zero,gt];walk_at "px";refine⟨by rw[big];decide,by rw[af,big];omega,.fz (.int (q:Int)),?_⟩;rw[JH Bf];unfold pX;rw[<-fc,yF,aJ];rfl
  ·rw[ao] at kM;cases hs:(jC ps (g.take i))[j]? with
   | none=>rw[hs] at kM;cases kM
   | some s=>
    rw[hs] at kM;cases kM;have Bd:=ay hs;have sG:s.length<=g.length:=by
     have h1:=ok.cnt.length_eq;rw[aV] at h1;have h2:s.length<=(jC ps (g.take i)).flatten.length:=(List.sublist_flatten_of_mem Bd).length_le;omega
    refine⟨by unfold dH;rw[af,big];omega,.fz (.int (q:Int)),?_⟩;rw[JH Bf];unfold pX;rw[fc] at hj;rw[hj];simp only[List.set_cons_succ,List.set_cons_zero,List.getD_eq_getElem?_getD,hs,Option.getD_some,List.map_set];unfold dH;rw[aJ];rfl
 ·rintro ρ ⟨a,rfl⟩;rw[aS];simp only[jT,oU,gt];exact Q
end Wc
namespace Wc
open PySem L2 PyProof.Rows
end Wc
open PySem L2 PyProof.Rows Wc
local macro_rules | `(tactic| walk_at "px")=>`(tactic| (repeat(first | walk_at "b" | simp only[nD,kT,gt])))
namespace Wc
open PySem L2 PyProof.Rows
noncomputable abbrev La:=List Int×Int
noncomputable def oP(ps:List Pc)(st:La)(s:List Nat):La:=(s.foldl (fun tr q=>tr.set q st.2) st.1,st.2+(bY ps (s.headD 0)).k)
noncomputable def vX(ps:List Pc)(st:La)(g:List Nat):La:=(jC ps g).foldl (oP ps) st
noncomputable def lO(ps:List Pc)(gs:List (List Nat)):La:=gs.foldl (vX ps) (List.replicate ps.length 0,0)
theorem CG(x:Int):∀(s:List Nat) (tr:List Int),(s.foldl (fun tr q=>tr.set q x) tr).length=tr.length
 | [],tr=>rfl
 | q::s,tr=>by rw[bw,CG x s,List.length_set]
theorem OG(ps:List Pc)(st:La)(s:List Nat):(oP ps st s).1.length=st.1.length:=CG _ _ _
theorem AG(ps:List Pc):∀(S:List (List Nat)) (st:La),(S.foldl (oP ps) st).1.length=st.1.length
 | [],st=>rfl
 | s::S,st=>by rw[bw,AG ps S,OG]
theorem OF(ps:List Pc)(st:La)(g:List Nat):(vX ps st g).1.length=st.1.length:=AG ps _ st
theorem AF(ps:List Pc):∀(gs:List (List Nat)) (st:La),(gs.foldl (vX ps) st).1.length=st.1.length
 | [],st=>rfl
 | s::S,st=>by rw[bw,AF ps S,OF]
def vy:dZ:=fun ds Q=>∃(ps:List Pc) (lv:List Int),ds=[dw ps,dI lv]/\lv.length=ps.length/\ps.length<=63/\∀ord ks,eu ps ord->kq ps lv ord ks->Q (.ow ((lO ps (ks.map (gI ps lv ord))).1.map D.int))
def Dd:TX:=(cD (iI 2 (fX (gj (bW 0)) [none] (cY 0) gX (dC (.int 0))))
 (cD (dG 3 (dC (.int 0)))
 (cD (ir (gj (eD 2 xH (cg (bW 0) (cg (bW 1) cx)))) (cY 4) (ir (gj (eD 2 xC (cg (bW 0) (cg (bW 4) cx)))) (cY 5) (cD (ir (gj (bW 5)) (cY 6) (oX 2 (bW 6) (bW 3)))
 (dG 3 (b9 e9 (bW 3) (b9 cJ (b9 cJ (bW 0) (b9 cJ (bW 5) (dC (.int 0)))) (dC (.int 3))))))))
 (nE 2))))
theorem MR{n k:Nat}(h:k<n):kf n (k:Int)=some k:=by
 unfold kf;rw[if_pos (by omega),if_pos (by omega)];simp
theorem AM{α β:Type}(f:β->α->β)(b:β){l:List α}{i:Nat}{x:α}(h:l[i]?=some x):(l.take (i+1)).foldl f b=f ((l.take i).foldl f b) x:=by
 have e1:l.take (i+1)=l.take i++[x]:=by rw[aK,h];rfl
 rw[e1,List.foldl_append];rfl
theorem TM(ds:List D)(Qr:R->Prop)(hl:ds.length=2)(h:vy ds Qr):Dd { nx:=fun _=>Qr (.fz .non),rt:=Qr } (fR ["pieces","levels","tracks","track","group","strip","number"] ds):=by
 obtain⟨ps,lv,rfl,KC,hn,Q⟩:=h;show Dd _ [.fz (dw ps),.fz (dI lv),.un,.un,.un,.un,.un];unfold Dd;have big:=i8;have gp:∀q,q<ps.length->di ps (q:Int)=some (bY ps q):=fun q hq=>by rw[j9 hq];exact kJ hq
 walk_at "px";refine jY ps c6 (fun _=>.int 0) (fun Q' h=>?_) (by rw[big];omega) (fun p hp K1 k=>?_) ?_
 ·walk_at "px";exact h
 ·walk_at "px";exact k
 have e0:(ps.map fun _=>D.int 0)=(List.replicate ps.length (0:Int)).map D.int:=by
  rw[List.map_replicate];exact List.map_const'
 rw[e0];walk_at "go";walk_at "go";refine CH ?_;walk_at "px";refine⟨ps,lv,rfl,KC,hn,fun ord ks io gr=>?_⟩;have Wy:∀t,∀q∈gI ps lv ord t,q<ps.length:=fun t q hq=>(io.mem q).mp ((aI.mp hq).1)
 have yV:∀t,(gI ps lv ord t).length<=63:=fun t=>by
  have:=bL (fun q=>decide (gk ps lv q=t)) ord;have:=io.len;unfold gI;omega
 generalize KP:ks.map (gI ps lv ord)=gs;have Qg:=Q ord ks io gr;rw[KP] at Qg;have gq:∀g∈gs,(∀q∈g,q<ps.length)/\g.length<=63:=fun g hg=>by
  rw[<-KP] at hg;obtain⟨t,_,rfl⟩:=aH.mp hg;exact⟨Wy t,yV t⟩
 show uZ _ _ _ _ (gs.map fun g=>D.lst (dH g));refine xg gs (fun g=>D.lst (dH g)) (fun i ρ=>∃(st:La) (a b c:Sl),ρ=[.fz (dw ps),.fz (dI lv),.ow (st.1.map D.int),.fz (.int st.2),a,b,c]/\st=(gs.take i).foldl (vX ps) (List.replicate ps.length 0,0)) ⟨(List.replicate ps.length 0,0),.un,.un,.un,rfl,rfl⟩ ?_ ?_
 ·rintro i g ρ hg ⟨st,a,b,c,rfl,gv⟩;obtain⟨hq,yV⟩:=gq g (ay hg);have ok:=vf ps g;have sG:st.1.length=ps.length:=by rw[gv,AF];simp
  walk_at "px";refine CH ?_;walk_at "px";refine⟨ps,g,rfl,hq,yV,?_⟩;show uZ _ _ _ _ (((jC ps g).map dH).map D.lst);rw[aE];refine xg (jC ps g) (D.lst∘dH) (fun j ρ=>∃(su:La) (b c:Sl),ρ=[.fz (dw ps),.fz (dI lv),.ow (su.1.map D.int),.fz (.int su.2),.fz (.lst (dH g)),b,c]/\su=((jC ps g).take j).foldl (oP ps) st) ⟨st,b,c,rfl,rfl⟩ ?_ ?_
  ·rintro j s ρ hs ⟨su,b,c,rfl,yv⟩;have Bd:=ay hs;have vE:su.1.length=ps.length:=by rw[yv,AG];exact sG
   have EH:=ok.ne s Bd;have yw:∀q∈s,q<ps.length:=fun q Bg=>hq q (ok.mem s Bd q Bg)
   walk_at "px";refine o6 s (fun(q:Nat)=>.int (q:Int)) (fun Q' h=>?_) (fun m ρ=>∃(c:Sl),ρ=[.fz (dw ps),.fz (dI lv),.ow (((s.take m).foldl (fun tr q=>tr.set q su.2) su.1).map D.int),.fz (.int su.2),.fz (.lst (dH g)),.fz (.lst (dH s)),c]) ⟨c,rfl⟩ ?_ ?_
   ·walk_at "px";exact h
   ·rintro m q ρ pF ⟨c,rfl⟩;have jb:=yw q (ay pF);walk_at "px";unfold oX;simp only[gt];walk_at "px";refine⟨q,by rw[af,CG,vE];exact MR jb,.fz (.int (q:Int)),?_⟩;rw[AM _ _ pF,List.map_set]
   ·rintro ρ ⟨c,rfl⟩;rw[aS];walk_at "go";cases s with
    | nil=>exact absurd rfl EH
    | cons q0 s'=>
     have EN:=yw q0 (by simp);refine⟨.int (q0:Int),(by unfold dH;rw[nJ];exact congrArg (Option.map _) (kJ (l:=q0::s') (j:=0) (by simp))),?_⟩;show ∃d,di (ps.map c6) (q0:Int)=some d/\_
     refine⟨c6 (bY ps q0),by rw[nJ,gp _ EN];rfl,?_⟩;show ∃d,di [dO (bY ps q0).n,.int (bY ps q0).l,.int (bY ps q0).r,.int (bY ps q0).k] 3=some d/\_
     refine⟨.int (bY ps q0).k,rfl,?_⟩;exact⟨oP ps su (q0::s'),_,_,rfl,by rw[AM _ _ hs,<-yv]⟩
  ·rintro ρ ⟨su,b,c,rfl,yv⟩;rw[aS] at yv;refine⟨su,_,_,_,rfl,?_⟩;rw[AM _ _ hg,<-gv,yv];rfl
 ·rintro ρ ⟨st,a,b,c,rfl,gv⟩;rw[aS] at gv;simp only[jT,nE,gt];rw[gv];exact Qg
end Wc
namespace Wc
open PySem L2 PyProof.Rows
theorem Aq(x:Int):∀(s:List Nat) (tr:List Int) (q:Nat),q<tr.length->dr (s.foldl (fun tr q=>tr.set q x) tr) q=if q∈s then x else dr tr q
 | [],tr,q,_=>by simp
 | a::s,tr,q,h=>by
  rw[bw,Aq x s _ q (by rw[List.length_set];exact h)];by_cases h1:q∈s
  ·simp[h1]
  ·rw[if_neg h1];unfold dr;rw[bQ];by_cases h2:a=q
   ·subst h2;simp[h]
   ·have:¬q=a:=fun z=>h2 z.symm
    simp[h1,h2,this]
theorem CF{g:List Nat}(h:g≠[]):g.headD 0∈g:=by
 cases g with
 | nil=>exact absurd rfl h
 | cons a r=>simp
theorem Iu(ps:List Pc):∀(A:List (List Nat)) (st:La),(A.foldl (oP ps) st).2=st.2+(A.map fun s=>(bY ps (s.headD 0)).k).sum
 | [],st=>by simp
 | s::A,st=>by
  rw[bw,Iu ps A];simp[oP];omega
end Wc
namespace Wc
open PySem L2 PyProof.Rows
theorem Je(ps:List Pc)(gs:List (List Nat))(st:La):gs.foldl (vX ps) st=(gs.flatMap (jC ps)).foldl (oP ps) st:=by
 induction gs generalizing st with
 | nil=>rfl
 | cons g gs ih=>rw[bw,ih,List.flatMap_cons,List.foldl_append];rfl
structure Laid (ps:List Pc) (A:List (List Nat)) (st:La):Prop where
 le:∀q∈A.flatten,0<=dr st.1 q/\dr st.1 q+(bY ps q).k<=st.2
 ex:A=[]/\st.2=0\/∃q∈A.flatten,dr st.1 q+(bY ps q).k=st.2
 ps:0<=st.2
theorem OE(ps:List Pc)(hk:∀q,1<=(bY ps q).k)(A:List (List Nat))(nd:A.flatten.Nodup)(hn:∀s∈A,s≠[]/\∀q∈s,q<ps.length/\(bY ps q).k=(bY ps (s.headD 0)).k):Laid ps A (A.foldl (oP ps) (List.replicate ps.length 0,0)):=by
 have:∀i,i<=A.length->Laid ps (A.take i) ((A.take i).foldl (oP ps) (List.replicate ps.length 0,0)):=by
  intro i;induction i with
  | zero=>intro _;exact⟨fun q hq=>by simp at hq,.inl ⟨rfl,rfl⟩,bU _⟩
  | succ i ih=>
   intro hi;have h1:=ih (by omega);have hs:A[i]?=some A[i]:=ag (by omega);obtain⟨cE,yw⟩:=hn A[i] (bI _);rw[AM _ _ hs];generalize gv:(A.take i).foldl (oP ps) (List.replicate ps.length 0,0)=st at h1 ⊢;have hl:st.1.length=ps.length:=by rw[<-gv,AG];simp
   have et:A.take (i+1)=A.take i++[A[i]]:=by rw[aK,hs];rfl
   have ef:(A.take (i+1)).flatten=(A.take i).flatten++A[i]:=by rw[et,List.flatten_append];simp
   have XO:((A.take i).flatten++A[i]).Nodup:=by
    rw[<-ef];refine nd.sublist ?_;conv=>rhs;rw[<-List.take_append_drop (i+1) A]
    rw[List.flatten_append];exact List.sublist_append_left _ _
   have Ws:=hk (A[i].headD 0);have hh:A[i].headD 0∈A[i]:=by
    cases e:A[i] with
    | nil=>exact absurd e cE
    | cons a r=>simp
   refine⟨fun q hq=>?_,.inr ⟨A[i].headD 0,?_,?_⟩,?_⟩
   ·rw[ef] at hq;show 0<=dr (A[i].foldl (fun tr q=>tr.set q st.2) st.1) q/\dr (A[i].foldl (fun tr q=>tr.set q st.2) st.1) q+(bY ps q).k<=st.2+(bY ps (A[i].headD 0)).k;by_cases Be:q∈A[i]
    ·obtain⟨i3,f6⟩:=yw q Be;rw[Aq _ _ _ _ (by omega),if_pos Be];have:=h1.ps;omega
    ·have cQ:q∈(A.take i).flatten:=by
      rcases aw.mp hq with h | h
      ·exact h
      ·exact absurd h Be
     have Kr:q<ps.length:=by
      obtain⟨s,vG,rl⟩:=List.mem_flatten.mp cQ;exact((hn s (List.mem_of_mem_take vG)).2 q rl).1
     rw[Aq _ _ _ _ (by omega),if_neg Be];have:=h1.le q cQ;omega
   ·rw[ef];exact bu _ hh
   ·show dr (A[i].foldl (fun tr q=>tr.set q st.2) st.1) _+_=st.2+(bY ps (A[i].headD 0)).k;rw[Aq _ _ _ _ (by have:=(yw _ hh).1;omega),if_pos hh]
   ·show 0<=st.2+_;have:=h1.ps;omega
 have h:=this A.length (az _);rwa [aS] at h
structure zD (ps:List Pc) (g:List Nat):Prop where
 ne:g≠[]
 lt:∀q∈g,q<ps.length
 kk:∀q∈g,(bY ps q).k=(bY ps (g.headD 0)).k
 so:g.Pairwise fun x y=>(bY ps x).l<=(bY ps y).l
theorem AE(ps:List Pc):∀gs:List (List Nat),(gs.flatMap (jC ps)).flatten.Perm gs.flatten
 | []=>by simp
 | g::gs=>by
  rw[List.flatMap_cons,List.flatten_append,List.flatten_cons];exact(vf ps g).cnt.append (AE ps gs)
theorem Ox(ps:List Pc)(hk:∀q,1<=(bY ps q).k)(gs:List (List Nat))(hg:∀g∈gs,zD ps g)(hp:gs.flatten.Perm (List.range ps.length)):(lP ps (lO ps gs).1).getD 0=(lO ps gs).2:=by
 have hA:Laid ps (gs.flatMap (jC ps)) (lO ps gs):=by
  unfold lO;rw[Je];refine OE ps hk _ ?_ fun s hs=>?_
  ·exact((AE ps gs).trans hp).nodup_iff.mpr List.nodup_range
  ·obtain⟨g,yX,vG⟩:=List.mem_flatMap.mp hs;have go:=hg g yX;have so:=vf ps g;have cE:=so.ne s vG;refine⟨cE,fun q hq=>⟨go.lt q (so.mem s vG q hq),?_⟩⟩;rw[go.kk q (so.mem s vG q hq),go.kk _ (so.mem s vG _ (CF cE))]
 have pm:=(AE ps gs).trans hp;have hl:(lO ps gs).1.length=ps.length:=by unfold lO;rw[AF];simp
 generalize lO ps gs=st at hA hl ⊢;have zm:∀q,q<ps.length->(bY ps q,dr st.1 q)∈ps.zip st.1:=fun q hq=>by
  refine List.mem_iff_getElem.mpr ⟨q,by rw[List.length_zip];omega,?_⟩;rw[List.getElem_zip,j9 hq,u3 (by omega)]
 rcases hA.ex with⟨e1,e2⟩ | ⟨q,hq,e⟩
 ·have:ps.length=0:=by
   have:=pm.length_eq;rw[e1] at this;simpa using this.symm
  have:ps=[]:=List.eq_nil_of_length_eq_zero this;subst this;rw[e2];rfl
 ·have jb:q<ps.length:=aP.mp (pm.mem_iff.mp hq);have hz:ps.zip st.1≠[]:=fun z=>by have:=zm q jb;rw[z] at this;cases this
  obtain⟨x,h1,h2,p,sI,h3⟩:=Iy hz;rw[h1];show x=st.2;have h4:=h2 _ (zm q jb);obtain⟨j,hj,rfl⟩:=List.mem_iff_getElem.mp sI;rw[List.length_zip] at hj;have vM:j<ps.length:=by omega
  have h5:=hA.le j (pm.mem_iff.mpr (aP.mpr vM));rw[List.getElem_zip] at h3;rw[j9 vM,u3 (by omega)] at h5;simp only at h3 h4;omega
theorem QL{ps:List Pc}{x y:Nat}(h:HT.b8 (fK ps y) (fK ps x)=true):(bY ps x).l<=(bY ps y).l:=by
 unfold fK at h;rw[vm] at h;by_cases e:(bY ps y).l=(bY ps x).l
 ·omega
 ·rw[if_neg e] at h;have:=of_decide_eq_true h;omega
theorem MQ{ps:List Pc}{lv:List Int}{ord:List Nat}{ks:List (List Int)}(io:eu ps ord)(gr:kq ps lv ord ks):∀g∈ks.map (gI ps lv ord),zD ps g:=by
 intro g hg;obtain⟨t,ht,rfl⟩:=aH.mp hg;have kt:∀q∈gI ps lv ord t,gk ps lv q=t:=fun q hq=>of_decide_eq_true (aI.mp hq).2
 have cE:gI ps lv ord t≠[]:=fun z=>by
  obtain⟨q,hq,e⟩:=(gr.mem t).mp ht;have:q∈gI ps lv ord t:=aI.mpr ⟨hq,by simp[e]⟩;rw[z] at this;cases this
 refine⟨cE,fun q hq=>(io.mem q).mp (aI.mp hq).1,fun q hq=>?_,(io.j0.imp fun h=>QL h).filter _⟩;have h1:=kt q hq;have h2:=kt _ (CF cE);unfold gk at h1 h2;have:=h1.trans h2.symm;simp only[List.cons.injEq,and_true] at this;omega
theorem QK{ps:List Pc}{lv:List Int}{ord:List Nat}{ks:List (List Int)}(io:eu ps ord)(gr:kq ps lv ord ks):(ks.map (gI ps lv ord)).flatten.Perm (List.range ps.length):=by
 have Vq:ks.Nodup:=gr.j0.imp fun{a b} h z=>by
  subst z;have:∀a:List Int,HT.b8 a a=false:=by
   intro a;induction a with
   | nil=>rfl
   | cons x r ih=>rw[vm,if_pos rfl];exact ih
  rw[this] at h;cases h
 have mm:∀q,q∈(ks.map (gI ps lv ord)).flatten↔q<ps.length:=fun q=>by
  rw[List.mem_flatten];constructor
  ·rintro⟨g,hg,hq⟩;obtain⟨t,_,rfl⟩:=aH.mp hg;exact(io.mem q).mp (aI.mp hq).1
  ·intro hq;have Kq:=(io.mem q).mpr hq;exact⟨_,aY ((gr.mem _).mpr ⟨q,Kq,rfl⟩),aI.mpr ⟨Kq,by simp⟩⟩
 refine(List.perm_ext_iff_of_nodup ?_ List.nodup_range).mpr fun q=>by rw[mm q,aP]
 unfold List.Nodup;rw[List.pairwise_flatten];refine⟨fun g hg=>?_,?_⟩
 ·obtain⟨t,_,rfl⟩:=aH.mp hg;exact io.nd.filter _
 ·rw[bC];refine Vq.imp fun{a b} iV=>?_
  intro q hq q2 f6 z;subst z;have h1:gk ps lv q=a:=of_decide_eq_true (aI.mp hq).2;have h2:gk ps lv q=b:=of_decide_eq_true (aI.mp f6).2;exact iV (h1.symm.trans h2)
end Wc
namespace Wc
open PySem L2 PyProof.Rows
structure zB (ps:List Pc) (c:Int) (S:List Nat):Prop where
 nd:S.Nodup
 ok:∀q∈S,q<ps.length/\jE c (bY ps q)=true
 df:∀x∈S,∀y∈S,x≠y->(bY ps x).n=none\/(bY ps x).n≠(bY ps y).n
theorem Ir(W:Str->Int)(ps:List Pc)(c:Int)(hw:∀p∈ps,∀x,p.n=some x->p.k=W x):∃S,zB ps c S/\(S.map fun q=>(bY ps q).k).sum=jV W ps c:=by
 have key:∀i,i<=ps.length->∃S:List Nat,S.Nodup/\(∀q∈S,q<i/\jE c (bY ps q)=true)/\(∀x∈S,∀y∈S,x≠y->(bY ps x).n=none\/(bY ps x).n≠(bY ps y).n)/\(∀q∈S,∀x,(bY ps q).n=some x->x∈nQ c (ps.take i))/\(S.map fun q=>(bY ps q).k).sum=jV W (ps.take i) c:=by
  intro i;induction i with
  | zero=>intro _;exact⟨[],by simp,by simp,by simp,by simp,by simp[jV,yg,nQ]⟩
  | succ i ih=>
   intro hi;obtain⟨S,h1,h2,h3,h4,h5⟩:=ih (by omega);have ei:ps[i]?=some (bY ps i):=by rw[j9 (by omega),ag (by omega)]
   have tk:ps.take (i+1)=ps.take i++[bY ps i]:=by rw[aK,ei];rfl
   have hm:bY ps i∈ps:=ay ei;have en:nQ c (ps.take (i+1))=qp c (nQ c (ps.take i)) (bY ps i):=by unfold nQ;rw[tk,List.foldl_append];rfl
   have ek:yg c (ps.take (i+1))=yg c (ps.take i)+(([bY ps i].filter fun p=>jE c p&&p.n.isNone).map Pc.k).sum:=by
    unfold yg;rw[tk,List.filter_append,aJ,List.sum_append]
   have sub:∀q∈S,∀x,(bY ps q).n=some x->x∈nQ c (ps.take (i+1)):=fun q hq x hx=>by
    have:=h4 q hq x hx;rw[en];unfold qp;split
    ·split
     ·exact this
     ·unfold sY;split
      ·exact this
      ·exact aO _ this
    ·exact this
   have fS:jV W (ps.take (i+1)) c=jV W (ps.take i) c->∃S:List Nat,S.Nodup/\(∀q∈S,q<i+1/\jE c (bY ps q)=true)/\(∀x∈S,∀y∈S,x≠y->(bY ps x).n=none\/(bY ps x).n≠(bY ps y).n)/\(∀q∈S,∀x,(bY ps q).n=some x->x∈nQ c (ps.take (i+1)))/\(S.map fun q=>(bY ps q).k).sum=jV W (ps.take (i+1)) c:=
    fun e=>⟨S,h1,fun q hq=>⟨by have:=(h2 q hq).1;omega,(h2 q hq).2⟩,h3,sub,by rw[e];exact h5⟩
   by_cases ho:jE c (bY ps i)=true
   ·have new:((bY ps i).n=none\/∃x,(bY ps i).n=some x/\x∉nQ c (ps.take i))->jV W (ps.take (i+1)) c=jV W (ps.take i) c+(bY ps i).k->(∀x,(bY ps i).n=some x->x∈nQ c (ps.take (i+1)))->∃S:List Nat,S.Nodup/\(∀q∈S,q<i+1/\jE c (bY ps q)=true)/\(∀x∈S,∀y∈S,x≠y->(bY ps x).n=none\/(bY ps x).n≠(bY ps y).n)/\(∀q∈S,∀x,(bY ps q).n=some x->x∈nQ c (ps.take (i+1)))/\(S.map fun q=>(bY ps q).k).sum=jV W (ps.take (i+1)) c:=by
     intro hn e hx;refine⟨S++[i],?_,fun q hq=>?_,fun x hx y hy cE=>?_,fun q hq x e'=>?_,?_⟩
     ·rw[bJ];refine⟨h1,by simp,fun a ha b hb=>?_⟩;simp at hb;have:=(h2 a ha).1;omega
     ·rcases aw.mp hq with h | h
      ·exact⟨by have:=(h2 q h).1;omega,(h2 q h).2⟩
      ·have e2:q=i:=by simpa using h
       rw[e2];exact⟨by omega,ho⟩
     ·rcases aw.mp hx with h | h
      ·rcases aw.mp hy with h' | h'
       ·exact h3 x h y h' cE
       ·have e2:y=i:=by simpa using h'
        rw[e2];cases qr:(bY ps x).n with
        | none=>exact .inl rfl
        | some u=>
         refine .inr fun z=>?_
         rcases hn with hn | ⟨v,hv,yq⟩
         ·rw[hn] at z;cases z
         ·rw[hv] at z;cases z;exact yq (h4 x h u qr)
      ·have e2:x=i:=by simpa using h
       rw[e2];rcases aw.mp hy with h' | h'
       ·rcases hn with hn | ⟨v,hv,yq⟩
        ·exact .inl hn
        ·refine .inr fun z=>?_
         rw[hv] at z;exact yq (h4 y h' v z.symm)
       ·have e3:y=i:=by simpa using h'
        exact absurd (e2.trans e3.symm) cE
     ·rcases aw.mp hq with h | h
      ·exact sub q h x e'
      ·have e2:q=i:=by simpa using h
       rw[e2] at e';exact hx x e'
     ·rw[aJ,List.sum_append,h5,e];simp
    cases hn:(bY ps i).n with
    | none=>
     refine new (.inl hn) ?_ fun x z=>by rw[hn] at z;cases z
     unfold jV;rw[ek,en];simp[qp,ho,hn];omega
    | some x=>
     by_cases hx:x∈nQ c (ps.take i)
     ·refine fS ?_;unfold jV;rw[ek,en];simp[qp,ho,hn,sY,hx]
     ·refine new (.inr ⟨x,hn,hx⟩) ?_ fun y z=>?_
      ·unfold jV;rw[ek,en,hw _ hm x hn];simp[qp,ho,hn,sY,hx];omega
      ·rw[hn] at z;cases z;rw[en];simp[qp,ho,hn,sY,hx]
   ·refine fS ?_;unfold jV;rw[ek,en];simp[qp,ho]
 obtain⟨S,h1,h2,h3,_,h5⟩:=key ps.length (az _);rw[aS] at h5;exact⟨S,⟨h1,h2,h3⟩,h5⟩
theorem G9(f:Nat->Int):∀S:List Nat,S≠[]->∃m∈S,∀x∈S,f x<=f m
 | [],h=>absurd rfl h
 | [a],_=>⟨a,by simp,fun x hx=>by simp at hx;rw[hx];exact bU _⟩
 | a::b::r,_=>by
  obtain⟨m,h1,h2⟩:=G9 f (b::r) (by simp);by_cases h:f a<=f m
  ·refine⟨m,aB _ h1,fun x hx=>?_⟩;rcases aq.mp hx with rfl | hx
   ·exact h
   ·exact h2 x hx
  ·refine⟨a,bj,fun x hx=>?_⟩;rcases aq.mp hx with rfl | hx
   ·exact bU _
   ·have:=h2 x hx;omega
theorem GZ(f k:Nat->Int):∀(n:Nat) (S:List Nat) (N:Int),S.length=n->S.Nodup->0<=N->(∀q∈S,1<=k q/\0<=f q/\f q+k q<=N)->(∀x∈S,∀y∈S,x≠y->f x+k x<=f y\/f y+k y<=f x)->(S.map k).sum<=N
 | 0,S,N,hl,_,h0,_,_=>by
  rw[List.length_eq_zero_iff.mp hl];simpa using h0
 | n+1,S,N,hl,nd,h0,hb,dj=>by
  obtain⟨m,hm,We⟩:=G9 f S fun z=>by rw[z] at hl;cases hl
  have e:=CL ((List.perm_cons_erase hm).map k);rw[e,au,List.sum_cons];have WO:=hb m hm;have ih:=GZ f k n (S.erase m) (f m) (by rw[List.length_erase_of_mem hm,hl];rfl) (nd.erase m) WO.2.1 (fun q hq=>?_) (fun x hx y hy=>dj x (List.mem_of_mem_erase hx) y (List.mem_of_mem_erase hy))
  ·omega
  ·have EM:=List.mem_of_mem_erase hq;have cE:q≠m:=fun z=>by rw[z] at hq;exact(List.Nodup.not_mem_erase nd) hq
   have h1:=hb q EM;have h2:=We q EM;rcases dj q EM m hm cE with h | h
   ·exact⟨h1.1,h1.2.1,h⟩
   ·omega
structure iD (ps:List Pc) (ts:List Tr) (f:Nat->Int) (N:Int):Prop where
 n0:0<=N
 le:∀q,q<ps.length->0<=f q/\f q+(bY ps q).k<=N
 dj:∀x,x<ps.length->∀y,y<ps.length->x≠y->((bY ps x).n=none\/(bY ps x).n≠(bY ps y).n)->(bY ps x).l<=(bY ps y).r->(bY ps y).l<=(bY ps x).r->f x+(bY ps x).k<=f y\/f y+(bY ps y).k<=f x
 up:∀t∈ts,f t.1+(bY ps t.1).k<=f t.2.1
theorem iD.load{ps:List Pc}{ts:List Tr}{f:Nat->Int}{N:Int}(h:iD ps ts f N){W:Str->Int}(hw:∀p∈ps,∀x,p.n=some x->p.k=W x)(hk:∀q,q<ps.length->1<=(bY ps q).k)(c:Int):jV W ps c<=N:=by
 obtain⟨S,hS,e⟩:=Ir W ps c hw;rw[<-e];refine GZ f (fun q=>(bY ps q).k) _ S N rfl hS.nd h.n0 (fun q hq=>?_) (fun x hx y hy cE=>?_)
 ·have:=hS.ok q hq;exact⟨hk q this.1,h.le q this.1⟩
 ·have iU:=hS.ok x hx;have Bb:=hS.ok y hy;simp only[jE,bF,aQ] at iU Bb;exact h.dj x iU.1 y Bb.1 cE (hS.df x hx y hy cE) (by omega) (by omega)
theorem iD.chain{ps:List Pc}{ts:List Tr}{f:Nat->Int}{N:Int}(h:iD ps ts f N)(hv:kF ps.length ts):∀l:List Nat,Dn ts l->(∀q∈l,q<ps.length)->ml (fun q=>(bY ps q).k) l<=N:=by
 have key:∀(l:List Nat) (q:Nat),Dn ts (q::l)->(∀x∈q::l,x<ps.length)->ml (fun q=>(bY ps q).k) (q::l)<=f q+(bY ps q).k:=by
  intro l;induction l with
  | nil=>
   intro q _ hq;have:=(h.le q (hq q (by simp))).1;simp[ml];omega
  | cons u r ih=>
   intro q hd hq;obtain⟨⟨c,hc⟩,hd2⟩:=hd;have h1:=ih u hd2 fun x hx=>hq x (aB _ hx)
   have h2:=h.up _ hc;simp only[ml,au,List.sum_cons] at h1 ⊢;dsimp only at h2;omega
 intro l hd hq;cases l with
 | nil=>simpa[ml] using h.n0
 | cons q r=>
  have:=key r q hd hq;have:=(h.le q (hq q (by simp))).2;omega
theorem GY{ps:List Pc}{tr:List Int}(hl:tr.length=ps.length)(hk:∀p∈ps,1<=p.k):(∀q,q<ps.length->dr tr q+(bY ps q).k<=(lP ps tr).getD 0):=by
 intro q hq;have hm:(bY ps q,dr tr q)∈ps.zip tr:=by
  rw[j9 hq,u3 (by omega)];refine List.mem_iff_getElem.mpr ⟨q,by rw[List.length_zip];omega,by simp⟩
 unfold lP;cases hz:ps.zip tr with
 | nil=>rw[hz] at hm;cases hm
 | cons a r=>
  rw[hz] at hm;rw[bw];obtain⟨x,h1,h2,h3,_⟩:=C1 r (a.2+a.1.k);show _<=(r.foldl Bz (some (a.2+a.1.k))).getD 0;rw[h1];rcases aq.mp hm with e | hm
  ·rw[<-e] at h2;exact h2
  ·exact h3 _ hm
end Wc
namespace Wc
open PySem L2 PyProof.Rows
theorem MP{ps:List Pc}{tr:List Int}(hl:tr.length=ps.length)(hk:∀p∈ps,1<=p.k)(h0:∀q,q<ps.length->0<=dr tr q):0<=(lP ps tr).getD 0:=by
 cases ps with
 | nil=>simp[lP]
 | cons a r=>
  have h1:=GY hl hk 0 (by simp);have h2:=h0 0 (by simp);have h3:=hk a (by simp);have:(bY (a::r) 0).k=a.k:=rfl;omega
theorem Ro{ps:List Pc}{ts:List Tr}{tr:List Int}(h:ko ps ts tr)(hk:∀p∈ps,1<=p.k)(hv:kF ps.length ts):iD ps ts (dr tr) ((lP ps tr).getD 0):=by
 refine⟨MP h.len hk h.lo,fun q hq=>⟨h.lo q hq,GY h.len hk q hq⟩,fun x hx y hy cE hn o1 o2=>?_,fun t ht=>?_⟩
 ·have one:∀x,x<ps.length->∀y,y<ps.length->x≠y->((bY ps x).n=none\/(bY ps x).n≠(bY ps y).n)->(bY ps x).l<=(bY ps y).r->(bY ps y).l<=(bY ps x).r->gU ps tr x y (dr tr y)=true->dr tr x+(bY ps x).k<=dr tr y:=by
   intro x hx y hy cE hn o1 o2 ha;have:=(h.ok y hy).free x hx cE ha ?_
   ·omega
   ·cases yo:(bY ps y).n with
    | none=>exact .inl rfl
    | some u=>
     refine .inr fun z=>?_
     rcases hn with hn | hn
     ·rw[hn] at z;cases z
     ·exact hn (by rw[yo];exact z.symm)
  have UZ:gU ps tr x y (dr tr y)=true\/gU ps tr y x (dr tr x)=true:=by
   unfold gU;rw[AI,AI];cases hg:HT.b8 [dr tr y,(bY ps y).l,(bY ps y).r,(y:Int)] [dr tr x,(bY ps x).l,(bY ps x).r,(x:Int)] with
   | true=>exact .inl rfl
   | false=>exact .inr (wW _ _ hg fun z=>by simp at z;omega)
  rcases UZ with ha | ha
  ·exact .inl (one x hx y hy cE hn o1 o2 ha)
  ·refine .inr (one y hy x hx (Ne.symm cE) ?_ o2 o1 ha);cases yo:(bY ps y).n with
   | none=>exact .inl rfl
   | some u=>
    refine .inr fun z=>?_
    rcases hn with hn | hn
    ·rw[hn] at z;cases z
    ·exact hn (by rw[yo];exact z.symm)
 ·exact(h.ok t.2.1 (hv t ht).2).up t ht rfl
theorem Jd(k:Nat->Int)(k0:∀q,0<=k q):∀(A:List (List Nat)) (S:List Nat),S.Nodup->(∀q∈S,q∈A.flatten)->(∀s∈A,∀x∈s,∀y∈s,x∈S->y∈S->x=y)->(∀s∈A,∀q∈s,k q=k (s.headD 0))->(S.map k).sum<=(A.map fun s=>k (s.headD 0)).sum
 | [],S,_,hS,_,_=>by
  cases S with
  | nil=>simp
  | cons a r=>have:=hS a (by simp);simp at this
 | s::A,S,nd,hS,one,hd=>by
  have pm:(S.filter (fun q=>decide (q∈s))++S.filter (fun q=>!decide (q∈s))).Perm S:=List.filter_append_perm _ _;rw[<-CL (pm.map k),aJ,List.sum_append,au,List.sum_cons];have ih:=Jd k k0 A (S.filter fun q=>!decide (q∈s)) (nd.filter _) (fun q hq=>?_) (fun s' l4 x hx y hy h1 h2=>one s' (aB _ l4) x hx y hy (aI.mp h1).1 (aI.mp h2).1) (fun s' l4=>hd s' (aB _ l4))
  ·have h1:((S.filter fun q=>decide (q∈s)).map k).sum<=k (s.headD 0):=by
    have nf:=nd.filter fun q=>decide (q∈s)
    have mem:∀q∈S.filter (fun q=>decide (q∈s)),q∈S/\q∈s:=fun q hq=>⟨(aI.mp hq).1,by simpa using (aI.mp hq).2⟩
    generalize S.filter (fun q=>decide (q∈s))=F at nf mem;match F,nf,mem with
    | [],_,_=>simpa using k0 (s.headD 0)
    | [a],_,mem=>
     have:=hd s (by simp) a (mem a (by simp)).2;simp[this]
    | a::b::r,nf,mem=>
     have:=one s (by simp) a (mem a (by simp)).2 b (mem b (by simp)).2 (mem a (by simp)).1 (mem b (by simp)).1;rw[this] at nf;simp at nf
   omega
  ·obtain⟨h1,h2⟩:=aI.mp hq;have:=hS q h1;rw[List.flatten_cons] at this;rcases aw.mp this with h | h
   ·simp[h] at h2
   ·exact h
theorem Ow{ps:List Pc}(hv:∀q,(bY ps q).l<=(bY ps q).r){S:List (List Nat)}(q:Nat)(h:∀s∈S,s≠[]/\s.Pairwise fun x y=>(bY ps x).r<(bY ps y).l):∀s∈pX ps S q,s≠[]/\s.Pairwise fun x y=>(bY ps x).r<(bY ps y).l:=by
 unfold pX;cases hj:S.findIdx? (qD ps q) with
 | none=>
  intro s hs;rcases aw.mp hs with hs | hs
  ·exact h s hs
  ·simp at hs;subst hs;simp
 | some j=>
  intro s hs;obtain⟨pJ,hf,_⟩:=List.findIdx?_eq_some_iff_getElem.mp hj;rcases List.mem_or_eq_of_mem_set hs with hs | hs
  ·exact h s hs
  ·have e:S.getD j []=S[j]:=by rw[List.getD_eq_getElem?_getD,ag pJ];rfl
   rw[e] at hs;obtain⟨cE,hp⟩:=h S[j] (bI _);generalize S[j]=s0 at hs cE hp hf;subst hs;refine⟨by simp,?_⟩;rw[List.pairwise_append];refine⟨hp,by simp,fun x hx y hy=>?_⟩;simp at hy;subst hy;unfold qD at hf;have KU:=of_decide_eq_true hf;have hl:s0.getLastD 0=s0.getLast cE:=by cases s0 with | nil=>exact absurd rfl cE | cons a r=>simp[List.getLastD]
   rw[hl] at KU;by_cases m6:x=s0.getLast cE
   ·rw[m6];exact KU
   ·have hd:=List.dropLast_concat_getLast cE;rw[<-hd] at hx hp;rcases aw.mp hx with hx | hx
    ·have:=(List.pairwise_append.mp hp).2.2 x hx (s0.getLast cE) (by simp);have:=hv (s0.getLast cE);omega
    ·simp at hx;exact absurd hx m6
theorem QJ{ps:List Pc}(hv:∀q,(bY ps q).l<=(bY ps q).r)(g:List Nat):∀s∈jC ps g,s≠[]/\s.Pairwise fun x y=>(bY ps x).r<(bY ps y).l:=by
 have:∀(g:List Nat) (S:List (List Nat)),(∀s∈S,s≠[]/\s.Pairwise fun x y=>(bY ps x).r<(bY ps y).l)->∀s∈g.foldl (pX ps) S,s≠[]/\s.Pairwise fun x y=>(bY ps x).r<(bY ps y).l:=by
  intro g;induction g with
  | nil=>intro S h;exact h
  | cons q r ih=>intro S h;exact ih _ (Ow hv q h)
 exact this g [] (by simp)
theorem GX{α:Type}{R:α->α->Prop}{l:List α}(h:l.Pairwise R){x y:α}(hx:x∈l)(hy:y∈l):x=y\/R x y\/R y x:=by
 induction l with
 | nil=>cases hx
 | cons a r ih=>
  have hc:=List.pairwise_cons.mp h;rcases aq.mp hx with e | nW
  ·rcases aq.mp hy with e2 | nV
   ·exact .inl (e.trans e2.symm)
   ·rw[e];exact .inr (.inl (hc.1 y nV))
  ·rcases aq.mp hy with e2 | nV
   ·rw[e2];exact .inr (.inr (hc.1 x nW))
   ·exact ih hc.2 nW nV
section
variable {ps:List Pc} {lv:List Int} {ord:List Nat} {ks:List (List Int)}
theorem Ci(hk:∀q,1<=(bY ps q).k)(io:eu ps ord)(gr:kq ps lv ord ks)(S:List Nat)(nd:S.Nodup)(lt:∀q∈S,q<ps.length)(one:∀t∈ks,∀s∈jC ps (gI ps lv ord t),∀x∈s,∀y∈s,x∈S->y∈S->x=y) :
  (S.map fun q=>(bY ps q).k).sum<=(lP ps (lO ps (ks.map (gI ps lv ord))).1).getD 0:=by
 have K8:=MQ io gr;have gp:=QK io gr;rw[Ox ps hk _ K8 gp];unfold lO;rw[Je,Iu];show _<=(0:Int)+_;rw[Int.zero_add];have pm:=(AE ps (ks.map (gI ps lv ord))).trans gp;refine Jd (fun q=>(bY ps q).k) (fun q=>by have:=hk q;omega) _ S nd (fun q hq=>pm.mem_iff.mpr (aP.mpr (lt q hq))) (fun s hs x hx y hy h1 h2=>?_) (fun s hs q hq=>?_)
 ·obtain⟨g,hg,hs⟩:=List.mem_flatMap.mp hs;obtain⟨t,ht,rfl⟩:=aH.mp hg;exact one t ht s hs x hx y hy h1 h2
 ·obtain⟨g,hg,hs⟩:=List.mem_flatMap.mp hs;have go:=K8 g hg;have so:=vf ps g;rw[go.kk q (so.mem s hs q hq),go.kk _ (so.mem s hs _ (CF (so.ne s hs)))]
theorem OD(hk:∀q,1<=(bY ps q).k)(hv:∀q,(bY ps q).l<=(bY ps q).r)(io:eu ps ord)(gr:kq ps lv ord ks){W:Str->Int}(hw:∀p∈ps,∀x,p.n=some x->p.k=W x)(c:Int) :
  jV W ps c<=(lP ps (lO ps (ks.map (gI ps lv ord))).1).getD 0:=by
 obtain⟨S,hS,e⟩:=Ir W ps c hw;rw[<-e];refine Ci hk io gr S hS.nd (fun q hq=>(hS.ok q hq).1) fun t _ s hs x hx y hy h1 h2=>?_
 have iU:=(hS.ok x h1).2;have Bb:=(hS.ok y h2).2;simp only[jE,bF,aQ] at iU Bb;rcases GX (QJ hv _ s hs).2 hx hy with h | h | h
 ·exact h
 ·omega
 ·omega
theorem QI(hk:∀q,1<=(bY ps q).k)(io:eu ps ord)(gr:kq ps lv ord ks){ts:List Tr}(yt:∀t∈ts,dr lv t.1<dr lv t.2.1){l:List Nat}(hd:Dn ts l)(lt:∀q∈l,q<ps.length) :
  ml (fun q=>(bY ps q).k) l<=(lP ps (lO ps (ks.map (gI ps lv ord))).1).getD 0:=by
 have pw:∀{l:List Nat},Dn ts l->l.Pairwise fun x y=>dr lv y<dr lv x:=by
  intro l;induction l with
  | nil=>intro _;exact .nil
  | cons q r ih=>intro h;exact List.pairwise_cons.mpr ⟨fun x hx=>Dn.rank yt h x hx,ih h.tail⟩
 have pl:=pw hd;refine Ci hk io gr l (List.Pairwise.imp (S:=(·≠·)) (fun{a b} h e=>by rw[e] at h;omega) pl) lt fun t _ s hs x hx y hy h1 h2=>?_
 have so:=vf ps (gI ps lv ord t);have kx:gk ps lv x=t:=of_decide_eq_true (aI.mp (so.mem s hs x hx)).2;have ky:gk ps lv y=t:=of_decide_eq_true (aI.mp (so.mem s hs y hy)).2;have e:dr lv x=dr lv y:=by
  have:=kx.trans ky.symm;unfold gk at this;simp at this;exact this.1
 rcases GX pl h1 h2 with h | h | h
 ·exact h
 ·omega
 ·omega
end
end Wc
namespace Wc
open PySem L2 PyProof.Rows
end Wc
open PySem L2 PyProof.Rows Wc
local macro_rules | `(tactic| walk_at "px")=>`(tactic| (repeat(first | walk_at "b" | simp only[uL])))
namespace Wc
open PySem L2 PyProof.Rows
structure FW (ws:List Str) (p:Pc):Prop where
 nm:p.n=none\/∃w∈ws,p.n=some w
 l0:-1<=p.l
 lr:p.l<=p.r
 r1:p.r<=40
 k0:1<=p.k
 k1:p.k<=3
noncomputable def qS(s:Int)(pl:Bool)(i:Nat):Int:=if pl=true then 1 else 1+kS s ((i:Int)+7)%3
structure n6 (ws:List Str) (s:Int) (pl:Bool) (p:Pc):Prop extends FW ws p where
 wd:∀w,p.n=some w->∃i:Nat,ws[i]?=some w/\p.k=qS s pl i
def xB:dZ:=fun ds Q=>∃(ws:List Str) (s:Int) (cells:List Int) (pl:Bool),ds=[dS ws,.int s,dI cells,.bl pl]/\ws.length=8/\cells.length<=5000/\∀ps:List Pc,ps.length=cells.length->(∀p∈ps,n6 ws s pl p)->Q (.ow (ps.map c6))
def Dc:TX:=(cD (iI 4 (lR cx))
 (cD (ir (wB (cg (bW 2) cx)) (j6 2 (fh (cY 5) (fh (cY 6) jA))) (cD (dG 7 (eD 2 qj (cg (bW 6) (cg (bW 5) cx))))
 (cD (dG 8 (b9 (oI (fun _ j=>0<j) fun i j=>.int (i%j)) (bW 7) (dC (.int 9))))
 (cD (dG 9 (b9 (oI (fun _ j=>0<j) fun i j=>.int (i%j)) (b9 (oI jH fun i j=>.int (i/j)) (bW 7) (dC (.int 9))) (b9 cJ (lR (cg (dC (.int 12)) (cg (dC (.int 41)) cx))) (b9 (oI (fun _ j=>0<j) fun i j=>.int (i%j)) (b9 (oI jH fun i j=>.int (i/j)) (bW 7) (dC (.int 500))) (dC (.int 2))))))
 (cD (dG 10 (fU uL (cg (dC (.int 40)) (cg (b9 e9 (bW 9) (b9 (oI (fun _ j=>0<j) fun i j=>.int (i%j)) (eD 2 qj (cg (bW 6) (cg (b9 e9 (bW 5) (dC (.int 80))) cx))) (b9 cJ (lR (cg (dC (.int 2)) (cg (dC (.int 6)) (cg (dC (.int 41)) cx)))) (b9 (oI (fun _ j=>0<j) fun i j=>.int (i%j)) (b9 (oI jH fun i j=>.int (i/j)) (bW 7) (dC (.int 1000))) (dC (.int 3)))))) cx))))
 (cD (dG 11 (dC (.int 1)))
 (cD (iY (zN (eM (bW 3))) (dG 11 (b9 e9 (dC (.int 1)) (b9 (oI (fun _ j=>0<j) fun i j=>.int (i%j)) (eD 2 qj (cg (b9 e9 (bW 1) (b9 (oI iG fun i j=>.int (i*j)) (b9 (oI jH fun i j=>.int (i/j)) (bW 8) (dC (.int 8))) (bW 5))) (cg (b9 e9 (bW 8) (dC (.int 7))) cx))) (dC (.int 3))))) jd)
 (iY (eM (b9 oEq (bW 8) (dC (.int 8)))) (nB 4 (jU (cg (dC .non) (cg (bW 9) (cg (bW 10) (cg (bW 11) cx)))))) (nB 4 (jU (cg (b9 cJ (bW 0) (bW 8)) (cg (b9 (fB fun i j=>.int (i-j)) (bW 9) (b9 (oI (fun _ j=>0<j) fun i j=>.int (i%j)) (b9 (oI jH fun i j=>.int (i/j)) (bW 7) (dC (.int 3000))) (dC (.int 2)))) (cg (bW 10) (cg (bW 11) cx))))))))))))))
 (nE 4)))
theorem Hr(ps:List Pc)(n:Option Str)(l r k:Int):ps.map c6++[.tup [dO n,.int l,.int r,.int k]]=(ps++[Pc.mk n l r k]).map c6:=by rw[aJ];rfl
theorem TL(ds:List D)(Qr:R->Prop)(hl:ds.length=4)(h:xB ds Qr):Dc { nx:=fun _=>Qr (.fz .non),rt:=Qr } (fR ["_law_words","_law_seed","_law_cells","_law_plain","_law_pieces","_law_k","_law_cell","_law_one","_law_net","_law_first","_law_last","_law_wide"] ds):=by
 obtain⟨ws,s,cells,pl,rfl,hw,hc,q⟩:=h;show Dc _ [.fz (dS ws),.fz (.int s),.fz (dI cells),.fz (.bl pl),.un,.un,.un,.un,.un,.un,.un,.un];unfold Dc dI dS;have big:=i8;walk_at "px";refine⟨ba _,?_⟩;walk_at "go";refine Jl cells D.int (fun Q' h=>?_) (fun i ρ=>∃(ps:List Pc) (a b c d e f g:Sl),ρ=[.fz (.lst (ws.map .str)),.fz (.int s),.fz (.lst (cells.map .int)),.fz (.bl pl),.ow (ps.map c6),a,b,c,d,e,f,g]/\ps.length=i/\∀p∈ps,n6 ws s pl p) ⟨[],_,_,_,_,_,_,_,rfl,rfl,fun p hp=>(by cases hp)⟩ ?_ ?_
 ·walk_at "px";exact h
 ·rintro i cell ρ hi ⟨ps,a,b,c,d,e,f,g,rfl,hl,ok⟩;have uw:i<cells.length:=(aj.mp hi).1;walk_at "px";refine⟨cell,(i:Int),rfl,by omega,by omega,?_⟩;have o0:=BV cell (i:Int);generalize kS cell (i:Int)=one at o0;walk_at "go";have n0:=bR one (show(9:Int)≠0 by decide);have n1:=Int.emod_lt_of_pos one (show(0:Int)<9 by decide);generalize V9:one%9=mw at n0 n1;walk_at "go";obtain⟨z,hz,VE⟩:=He (n:=2) (l:=([12,41]:List Int)) (one/500) (by simp) (by decide);have yk:di ([12,41]:List Int) (one/500%2)=some z:=hz;have VF:di (([12,41]:List Int).map D.int) (one/500%2)=some (.int z):=by rw[nJ,yk];rfl
  refine⟨by omega,.int z,VF,?_⟩;have XR:z=12\/z=41:=by simpa using VE
  simp only[];refine⟨by omega,?_⟩;have f0:=bR (one/9) (show z≠0 by omega);have f1:=Int.emod_lt_of_pos (one/9) (show(0:Int)<z by omega);generalize one/9%z=first at f0 f1;walk_at "go";obtain⟨y,hy,Es⟩:=He (n:=3) (l:=([2,6,41]:List Int)) (one/1000) (by simp) (by decide);have Et:di ([2,6,41]:List Int) (one/1000%3)=some y:=hy;have VH:di (([2,6,41]:List Int).map D.int) (one/1000%3)=some (.int y):=by rw[nJ,Et];rfl
  have nV:y=2\/y=6\/y=41:=by simpa using Es
  refine⟨cell,(i:Int)+80,rfl,by omega,by omega,by omega,.int y,VH,?_⟩;simp only[qg];refine⟨by omega,?_⟩;have m0:=bR (kS cell ((i:Int)+80)) (show y≠0 by omega);generalize kS cell ((i:Int)+80)%y=m at m0;have Kd:first<=(if first+m<40 then first+m else 40):=by split<;>omega
  have Ei:(if first+m<40 then first+m else 40)<=40:=by split<;>omega
  generalize (if first+m<40 then first+m else 40)=last at Kd Ei
  have key:∀(wide:Int),1<=wide->wide<=3->(mw≠8->wide=qS s pl mw.toNat)->jT (iY (eM (b9 oEq (bW 8) (dC (D.int 8))))
           (nB 4 (jU (cg (dC D.non) (cg (bW 9) (cg (bW 10) (cg (bW 11) cx))))))
           (nB 4
            (jU
             (cg (b9 cJ (bW 0) (bW 8))
              (cg
               (b9 (fB fun i j=>D.int (i-j)) (bW 9)
                (b9 (oI (fun x j=>0<j) fun i j=>D.int (i%j))
                 (b9 (oI jH fun i j=>D.int (i/j)) (bW 7) (dC (D.int 3000))) (dC (D.int 2))))
               (cg (bW 10) (cg (bW 11) cx))))))) {
         nx:=fun ρ=>
          ∃(ps:List Pc) (a b c d e f g:Sl),
           ρ =
             [Sl.fz (D.lst (List.map D.str ws)),Sl.fz (D.int s),Sl.fz (D.lst (List.map D.int cells)),
              Sl.fz (D.bl pl),Sl.ow (List.map c6 ps),a,b,c,d,e,f,g]/\
            ps.length=i+1/\∀(p:Pc),p∈ps->n6 ws s pl p,
         rt:=Qr,bk:=nE 4 { nx:=fun x=>Qr (R.fz D.non),rt:=Qr },
         ct:=fun ρ=>
          ∃(ps:List Pc) (a b c d e f g:Sl),
           ρ =
             [Sl.fz (D.lst (List.map D.str ws)),Sl.fz (D.int s),Sl.fz (D.lst (List.map D.int cells)),
              Sl.fz (D.bl pl),Sl.ow (List.map c6 ps),a,b,c,d,e,f,g]/\
            ps.length=i+1/\∀(p:Pc),p∈ps->n6 ws s pl p }
        [Sl.fz (D.lst (List.map D.str ws)),Sl.fz (D.int s),Sl.fz (D.lst (List.map D.int cells)),
         Sl.fz (D.bl pl),Sl.ow (List.map c6 ps),Sl.fz (D.int ↑i),Sl.fz (D.int cell),Sl.fz (D.int one),
         Sl.fz (D.int mw),Sl.fz (D.int first),Sl.fz (D.int last),Sl.fz (.int wide)]:=by
   intro wide w0 w1 wn
   have more:∀p,n6 ws s pl p->∃(D8:List Pc) (a b c d e f g:Sl),[Sl.fz (D.lst (List.map D.str ws)),Sl.fz (D.int s),Sl.fz (D.lst (List.map D.int cells)),
         Sl.fz (D.bl pl),Sl.ow (List.map c6 (ps++[p])),Sl.fz (D.int ↑i),Sl.fz (D.int cell),Sl.fz (D.int one),
         Sl.fz (D.int mw),Sl.fz (D.int first),Sl.fz (D.int last),Sl.fz (.int wide)]=[Sl.fz (D.lst (List.map D.str ws)),Sl.fz (D.int s),Sl.fz (D.lst (List.map D.int cells)),
              Sl.fz (D.bl pl),Sl.ow (List.map c6 D8),a,b,c,d,e,f,g]/\
            D8.length=i+1/\∀(p:Pc),p∈D8->n6 ws s pl p:=fun p hp=>by
    refine⟨ps++[p],_,_,_,_,_,_,_,rfl,by rw[a9,hl];rfl,fun x hx=>?_⟩;rcases aw.mp hx with hx | hx
    ·exact ok x hx
    ·simp at hx;subst hx;exact hp
   walk_at "go";by_cases h8:mw=8
   ·rw[if_pos h8];refine⟨by omega,by rw[af];omega,?_⟩;rw[show [D.tup [D.non,D.int first,D.int last,D.int wide]]=[D.tup [dO none,D.int first,D.int last,D.int wide]] from rfl,Hr];exact more _ ⟨⟨.inl rfl,by show -1<=first;omega,Kd,Ei,w0,w1⟩,fun w hw=>by cases hw⟩
   ·rw[if_neg h8];obtain⟨hj,VL⟩:=tJ (l:=ws) (i:=mw) n0 (by omega);refine⟨_,VL,by omega,by rw[af];omega,?_⟩;rw[show ∀(x:Str) (l:Int),[D.tup [D.str x,D.int l,D.int last,D.int wide]]=[D.tup [dO (some x),D.int l,D.int last,D.int wide]] from fun _ _=>rfl,Hr];exact more _ ⟨⟨.inr ⟨_,bI hj,rfl⟩,by show -1<=first-one/3000%2;omega,by show first-one/3000%2<=last;omega,Ei,w0,w1⟩,fun w hw=>⟨mw.toNat,by rw[ag hj];exact hw,wn h8⟩⟩
  walk_at "go";walk_at "go";cases pl with
  | true=>
   simp only[Bool.not_true,aF,bE];exact key 1 (by decide) (by decide) fun _=>rfl
  | false=>
   simp only[ar,bO];refine⟨.inl (by omega),_,_,rfl,by omega,by omega,?_⟩;simp only[qg];refine⟨by decide,?_⟩;have t0:=bR (kS (s+mw/8*(i:Int)) (mw+7)) (show(3:Int)≠0 by decide);have t1:=Int.emod_lt_of_pos (kS (s+mw/8*(i:Int)) (mw+7)) (show(0:Int)<3 by decide);exact key _ (by omega) (by omega) fun h8=>by
    have e:mw/8=0:=by omega
    have e2:((mw.toNat:Nat):Int)=mw:=by omega
    rw[e,Int.zero_mul,Int.add_zero];show _=1+kS s (((mw.toNat:Nat):Int)+7)%3;rw[e2]
 ·rintro ρ ⟨ps,a,b,c,d,e,f,g,rfl,hl,ok⟩;walk_at "go";exact q ps hl ok
end Wc
namespace Wc
open PySem L2 PyProof.Rows
end Wc
open PySem L2 PyProof.Rows Wc
local macro_rules | `(tactic| walk_at "px")=>`(tactic| (repeat(first | walk_at "b" | simp only[nD,kT,gt,uO])))
namespace Wc
open PySem L2 PyProof.Rows
theorem MO{n:Nat}{ts:List Tr}{ls:List Int}(hv:kF n ts)(h:wH n ts ls):∀t∈ts,dr ls t.1<dr ls t.2.1:=by
 intro t ht;have hq:=(hv t ht).2;have e:ls[t.2.1]?=some (dr ls t.2.1):=by rw[u3 (by rw[h.1];exact hq),ag]
 obtain⟨l',h1,h2⟩:=(h.2 t.2.1 hq _ e).1 t ht rfl;have:dr ls t.1=l':=by unfold dr;rw[h1];rfl
 omega
def vx:dZ:=fun ds Q=>∃(ps:List Pc) (ts:List Tr),ds=[dw ps,gf ts]/\ps.length<=63/\ts.length<=100000/\kF ps.length ts/\Ord ps.length ts/\∀ls,wH ps.length ts ls->Q (.fz (dI ls))
def C9:TX:=(cD (dG 2 (eD 2 vg (cg (fU qF (cg (bW 0) cx)) (cg (bW 1) cx))))
 (cD (iY (eM (b9 oEq (b9 cJ (bW 2) (dC (.int 0))) (dC (.str "ring")))) GG jd)
 (fJ (b9 cJ (bW 2) (dC (.int 1))))))
theorem TK(ds:List D)(Qr:R->Prop)(hl:ds.length=2)(h:vx ds Qr):C9 { nx:=fun _=>Qr (.fz .non),rt:=Qr } (fR ["pieces","above","rank"] ds):=by
 obtain⟨ps,ts,rfl,hn,kL,val,od,q⟩:=h;show C9 _ [.fz (dw ps),.fz (gf ts),.un];unfold C9;have big:=i8;have n1:¬(Str.ofString "levels"=Str.ofString "ring"):=by decide +kernel
 unfold dw;walk_at "px";rw[af];refine⟨ps.length,ts,rfl,by omega,kL,val,od,fun ls lv=>?_⟩;simp only[kT,OV.val];walk_at "go";refine⟨_,rfl,?_⟩;walk_at "px";rw[if_neg n1];walk_at "go";exact⟨_,rfl,q ls lv⟩
def Hq(W:Str->Int)(ps:List Pc)(ts:List Tr)(F:Int):Prop:=F=0\/(∃c,F=jV W ps c)\/∃l,Dn ts l/\(∀q∈l,q<ps.length)/\F=ml (fun q=>(bY ps q).k) l
theorem Ma(ps:List Pc):(fun q=>(ps[q]?.map Pc.k).getD 1)=fun q=>(bY ps q).k:=by
 funext q
 unfold bY;cases ps[q]?<;>rfl
def xx:dZ:=fun ds Q=>∃(W:Str->Int) (ps:List Pc) (ts:List Tr),ds=[dw ps,gf ts]/\rL W ps/\ps.length<=63/\ts.length<=100000/\kF ps.length ts/\Ord ps.length ts/\(∀p∈ps,1<=p.k)/\∀(a:Str) (F:Int) (x:D),Hq W ps ts F->Q (.fz (.tup [.str a,.int F,x]))
def Df:TX:=(cD (BI (eD 2 vx (cg (bW 0) (cg (bW 1) cx))))
 (cD (dG 2 (eD 1 xb (cg (bW 0) cx)))
 (cD (dG 3 (eD 2 xy (cg (bW 0) (cg (bW 1) cx))))
 (cD (iY (eM (b9 (fB fun i j=>.bl (decide (j<=i))) (b9 cJ (bW 2) (dC (.int 0))) (b9 cJ (bW 3) (dC (.int 0))))) (fJ (jU (cg (dC (.str "column")) (cg (b9 cJ (bW 2) (dC (.int 0))) (cg (b9 cJ (bW 2) (dC (.int 1))) cx))))) jd)
 (fJ (jU (cg (dC (.str "chain")) (cg (b9 cJ (bW 3) (dC (.int 0))) (cg (b9 cJ (bW 3) (dC (.int 1))) cx)))))))))
theorem Ti(ds:List D)(Qr:R->Prop)(hl:ds.length=2)(h:xx ds Qr):Df { nx:=fun _=>Qr (.fz .non),rt:=Qr } (fR ["pieces","above","load","chain"] ds):=by
 obtain⟨W,ps,ts,rfl,ld,hn,kL,val,od,hk,q⟩:=h;show Df _ [.fz (dw ps),.fz (gf ts),.un,.un];unfold Df;have big:=i8;walk_at "px";refine⟨ps,ts,rfl,hn,kL,val,od,fun ls lv=>?_⟩;walk_at "go";refine⟨W,ps,rfl,ld,fun b o sP=>?_⟩;walk_at "go";refine⟨ps,ts,rfl,by omega,kL,val,od,hk,fun w l hv=>?_⟩;rw[Ma] at hv;simp only[kT,OV.val];walk_at "go";refine⟨.int b,rfl,.int w,rfl,?_⟩;walk_at "px";by_cases hc:w<=b
 ·rw[if_pos hc];refine⟨.int b,rfl,_,rfl,by omega,?_⟩;exact q _ _ _ (sP.elim .inl fun h=>.inr (.inl h))
 ·rw[if_neg hc];walk_at "go";refine⟨.int w,rfl,_,rfl,by omega,?_⟩;exact q _ _ _ (.inr (.inr ⟨l,hv.dn,hv.lt,hv.eq.symm⟩))
def MN(ps:List Pc)(ts:List Tr)(tr:List Int):Prop:=ko ps ts tr\/∃lv ord ks,wH ps.length ts lv/\eu ps ord/\kq ps lv ord ks/\tr=(lO ps (ks.map (gI ps lv ord))).1
def xi:dZ:=fun ds Q=>∃(ps:List Pc) (ts:List Tr),ds=[dw ps,gf ts]/\ps.length<=63/\ts.length<=100000/\kF ps.length ts/\Ord ps.length ts/\(∀p∈ps,1<=p.k/\p.k<=3/\p.l<=p.r)/\∀tr,MN ps ts tr->tr.length=ps.length->Q (.fz (dI tr))
def CD:TX:=(cD (dG 2 (eD 2 vy (cg (bW 0) (cg (eD 2 vx (cg (bW 0) (cg (bW 1) cx))) cx))))
 (cD (dG 3 (eD 2 xf (cg (bW 0) (cg (bW 1) cx))))
 (cD (iY (eM (b9 (fB fun i j=>.bl (decide (j<i))) (eD 2 sf (cg (bW 0) (cg (bW 3) cx))) (eD 2 sf (cg (bW 0) (cg (bW 2) cx))))) (fJ (bW 2)) jd)
 (fJ (bW 3)))))
theorem Cg(ps:List Pc)(gs:List (List Nat)):(lO ps gs).1.length=ps.length:=by unfold lO;rw[AF];simp
theorem Sr(ds:List D)(Qr:R->Prop)(hl:ds.length=2)(h:xi ds Qr):CD { nx:=fun _=>Qr (.fz .non),rt:=Qr } (fR ["pieces","above","leveled","rowed"] ds):=by
 obtain⟨ps,ts,rfl,hn,kL,val,od,pk,q⟩:=h;show CD _ [.fz (dw ps),.fz (gf ts),.un,.un];unfold CD;have big:=i8;walk_at "px";refine⟨ps,ts,rfl,hn,kL,val,od,fun ls lv=>?_⟩;walk_at "px";refine⟨ps,ls,rfl,lv.1,hn,fun ord ks io gr=>?_⟩;walk_at "go";refine⟨ps,ts,rfl,hn,kL,val,od,pk,fun tr ro=>?_⟩;walk_at "go";refine⟨ps,tr,rfl,ro.len,by omega,fun p hp=>⟨(pk p hp).1,(pk p hp).2.1⟩,?_⟩;walk_at "px";refine⟨ps,_,rfl,Cg _ _,by omega,fun p hp=>⟨(pk p hp).1,(pk p hp).2.1⟩,?_⟩;walk_at "px";split
 ·exact q _ (.inr ⟨ls,ord,ks,lv,io,gr,rfl⟩) (Cg _ _)
 ·walk_at "go";exact q _ (.inl ro) ro.len
noncomputable def nG(p q:Pc)(t u:Int):Bool:=!(p.n.isSome&&decide (p.n=q.n))&&!(decide (q.r<p.l)||decide (p.r<q.l))&&(decide (t<u+q.k)&&decide (u<t+p.k))
def xr:dZ:=fun ds Q=>∃(p q:Pc) (t u:Int),ds=[c6 p,c6 q,.int t,.int u]/\Q (.fz (.bl (nG p q t u)))
def Dx:TX:=(cD (iY (vY (eM (b9 (nC true) (b9 cJ (bW 0) (dC (.int 0))) (dC .non))) (eM (b9 oEq (b9 cJ (bW 0) (dC (.int 0))) (b9 cJ (bW 1) (dC (.int 0)))))) (fJ (dC (.bl false))) jd)
 (cD (iY (zq (eM (b9 (fB fun i j=>.bl (decide (j<i))) (b9 cJ (bW 0) (dC (.int 1))) (b9 cJ (bW 1) (dC (.int 2))))) (eM (b9 (fB fun i j=>.bl (decide (j<i))) (b9 cJ (bW 1) (dC (.int 1))) (b9 cJ (bW 0) (dC (.int 2)))))) (fJ (dC (.bl false))) jd)
 (fJ (uP (b9 (fB fun i j=>.bl (decide (i<j))) (bW 2) (b9 e9 (bW 3) (b9 cJ (bW 1) (dC (.int 3))))) (b9 (fB fun i j=>.bl (decide (i<j))) (bW 3) (b9 e9 (bW 2) (b9 cJ (bW 0) (dC (.int 3)))))))))
theorem Uq(ds:List D)(Qr:R->Prop)(hl:ds.length=4)(h:xr ds Qr):Dx { nx:=fun _=>Qr (.fz .non),rt:=Qr } (fR ["_law_one","_law_other","_law_track","_law_there"] ds):=by
 obtain⟨p,q,t,u,rfl,Q⟩:=h;show Dx _ [.fz (c6 p),.fz (c6 q),.fz (.int t),.fz (.int u)];unfold Dx c6;walk_at "px";refine⟨dO p.n,rfl,?_⟩;have rest:(p.n.isSome&&decide (p.n=q.n))=false->jT (cD (iY (zq (eM (b9 (fB fun i j=>.bl (decide (j<i))) (b9 cJ (bW 0) (dC (.int 1))) (b9 cJ (bW 1) (dC (.int 2))))) (eM (b9 (fB fun i j=>.bl (decide (j<i))) (b9 cJ (bW 1) (dC (.int 1))) (b9 cJ (bW 0) (dC (.int 2)))))) (fJ (dC (.bl false))) jd)
   (fJ (uP (b9 (fB fun i j=>.bl (decide (i<j))) (bW 2) (b9 e9 (bW 3) (b9 cJ (bW 1) (dC (.int 3))))) (b9 (fB fun i j=>.bl (decide (i<j))) (bW 3) (b9 e9 (bW 2) (b9 cJ (bW 0) (dC (.int 3)))))))) { nx:=fun x=>Qr (R.fz D.non),rt:=Qr }
   [Sl.fz (D.tup [dO p.n,D.int p.l,D.int p.r,D.int p.k]),Sl.fz (D.tup [dO q.n,D.int q.l,D.int q.r,D.int q.k]),Sl.fz (D.int t),Sl.fz (D.int u)]:=by
  intro hn;unfold nG at Q;rw[hn,ar,Bool.true_and] at Q;walk_at "go";refine⟨.int p.l,rfl,.int q.r,rfl,?_⟩;walk_at "px";by_cases h1:q.r<p.l
  ·rw[if_pos h1];simpa[h1] using Q
  ·rw[if_neg h1];refine⟨.int q.l,rfl,.int p.r,rfl,?_⟩;walk_at "px";by_cases h2:p.r<q.l
   ·rw[if_pos h2];simpa[h2] using Q
   ·rw[if_neg h2];walk_at "go";refine⟨.int q.k,rfl,?_⟩;walk_at "px";by_cases h3:t<u+q.k
    ·rw[if_pos h3];refine⟨.int p.k,rfl,?_⟩;walk_at "px";simpa[h1,h2,h3] using Q
    ·rw[if_neg h3];simpa[h3] using Q
 have e0:dO none=D.non:=rfl;have e1:∀w,dO (some w)=D.str w:=fun _=>rfl
 cases hp:p.n with
 | none=>
  rw[hp] at rest;simp only[e0] at rest ⊢;walk_at "px";exact rest rfl
 | some w=>
  rw[hp] at rest;simp only[e1] at rest ⊢;walk_at "px";refine⟨.str w,rfl,dO q.n,rfl,by rw[Cp];trivial,by rw[Ad];trivial,?_⟩;simp only[qg,AN,aQ];by_cases hw:some w=q.n
  ·rw[if_pos hw];have:nG p q t u=false:=by unfold nG;rw[hp,<-hw];simp
   rw[this] at Q;exact Q
  ·rw[if_neg hw];exact rest (by simp[hw])
end Wc
namespace Wc
open PySem L2 PyProof.Rows
end Wc
open PySem L2 PyProof.Rows Wc
local macro_rules | `(tactic| walk_at "px")=>`(tactic| (repeat(first | walk_at "b" | simp only[nD,kT,gt,oV,kQ,mT,qL,oS,BW,oQ])))
namespace Wc
open PySem L2 PyProof.Rows
structure lB (ps:List Pc) (ts:List Tr) (f:Nat->Int) (on:Nat->Prop):Prop where
 lo:∀q,on q->0<=f q
 dj:∀x,on x->∀y,on y->x≠y->((bY ps x).n=none\/(bY ps x).n≠(bY ps y).n)->(bY ps x).l<=(bY ps y).r->(bY ps y).l<=(bY ps x).r->f x+(bY ps x).k<=f y\/f y+(bY ps y).k<=f x
 up:∀t∈ts,on t.2.1->on t.1/\f t.1+(bY ps t.1).k<=f t.2.1
def xw:dZ:=fun ds Q=>∃(ps:List Pc) (ts:List Tr) (s:Int) (cells:List Int),ds=[dw ps,gf ts,.int s,dI cells]/\ps.length<63/\cells.length=ps.length/\0<=s/\ts.length<=100000/\kF ps.length ts/\Up s ts/\
 ∀tr:List Int,tr.length=ps.length->lB ps ts (dr tr) (fun q=>q<ps.length)->Q (.ow (tr.map .int))
def Du:TX:=(cD (iI 4 oV)
 (cD (ir (gj (fU vk (cg (fX (oW (cg (fU qF (cg (bW 0) cx)) cx)) [none,some 2] (cY 0) gX (jU (cg (eD 2 tN (cg (bW 1) (cg (bW 0) cx))) (cg (bW 0) cx)))) cx))) (j6 2 (fh (cY 5) (fh (cY 6) jA))) (cD (dG 7 (b9 (oI (fun _ j=>0<j) fun i j=>.int (i%j)) (eD 2 qj (cg (b9 cJ (bW 3) (bW 6)) (cg (b9 e9 (bW 6) (dC (.int 800))) cx))) (b9 cJ (lR (cg (dC (.int 1)) (cg (dC (.int 3)) (cg (dC (.int 30)) cx)))) (b9 (oI (fun _ j=>0<j) fun i j=>.int (i%j)) (b9 (oI jH fun i j=>.int (i/j)) (bW 2) (dC (.int 9))) (dC (.int 3))))))
 (cD (ir (gj (bW 1)) (j6 3 (fh (cY 8) (fh (cY 9) (fh (cY 10) jA)))) (iY (eM (b9 oEq (bW 9) (bW 6))) (dG 7 (fU oQ (cg (bW 7) (cg (b9 e9 (qL 4 (bW 8)) (b9 cJ (b9 cJ (bW 0) (bW 8)) (dC (.int 3)))) cx)))) jd))
 (cD (wD (eM (wa 4 (fU zK (cg (fX (BW (bW 4)) [none,none,some 7,some 0,some 6] (j6 2 (fh (cY 0) (fh (cY 1) jA))) gX (eD 4 xr (cg (b9 cJ (bW 3) (bW 4)) (cg (b9 cJ (bW 3) (bW 0)) (cg (bW 2) (cg (bW 1) cx)))))) cx)))) (dG 7 (b9 e9 (bW 7) (dC (.int 1)))))
 (oS 4 (bW 6) (bW 7))))))
 (uN 4 (fJ (fX (oW (cg (fU qF (cg (bW 0) cx)) cx)) [none,some 4] (cY 0) gX (mT (bW 1) (bW 0)))))))
noncomputable def fT(tv:List (Nat×Int))(q:Nat):Int:=(cv tv q).getD 0
theorem lB.more{ps:List Pc}{ts:List Tr}{tv:List (Nat×Int)}{O:List Nat}{n:Nat}{t:Int}(h:lB ps ts (fT tv) (fun q=>q∈O))(hn:n∉O)(h0:0<=t)(hu:∀u∈ts,u.2.1=n->u.1∈O/\fT tv u.1+(bY ps u.1).k<=t)
  (hm:∀q∈O,nG (bY ps n) (bY ps q) t (fT tv q)=false) (hs:∀u∈ts,u.1=n->u.2.1∉O):lB ps ts (fT (kR tv n t)) (fun q=>q∈O++[n]):=by
 have e:∀q,fT (kR tv n t) q=if q=n then t else fT tv q:=fun q=>by
  unfold fT;rw[rY];split<;>rfl
 have sep:∀q∈O,((bY ps q).n=none\/(bY ps q).n≠(bY ps n).n)->(bY ps n).l<=(bY ps q).r->(bY ps q).l<=(bY ps n).r->t+(bY ps n).k<=fT tv q\/fT tv q+(bY ps q).k<=t:=by
  intro q hq hd o1 o2;have:=hm q hq;unfold nG at this;have cE:((bY ps n).n.isSome&&decide ((bY ps n).n=(bY ps q).n))=false:=by
   rw[Bool.and_eq_false_iff];by_cases z:(bY ps n).n=(bY ps q).n
   ·rcases hd with hd | hd
    ·left;rw[z,hd];rfl
    ·exact absurd z.symm hd
   ·right;simpa using z
  rw[cE] at this;simp only[ar,Bool.true_and,Bool.and_eq_false_iff,Bool.not_eq_false',Bool.or_eq_true,aQ,decide_eq_false_iff_not] at this;omega
 refine⟨fun q hq=>?_,fun x hx y hy cE hd o1 o2=>?_,fun u nX EC=>?_⟩
 ·rw[e];split
  ·exact h0
  ·rename_i z;rcases aw.mp hq with hq | hq
   ·exact h.lo q hq
   ·simp at hq;exact absurd hq z
 ·rw[e,e];rcases aw.mp hx with nW | nW
  ·have xn:x≠n:=fun z=>hn (z▸nW)
   rcases aw.mp hy with nV | nV
   ·have yn:y≠n:=fun z=>hn (z▸nV)
    rw[if_neg xn,if_neg yn];exact h.dj x nW y nV cE hd o1 o2
   ·have yn:y=n:=by simpa using nV
    subst yn;rw[if_neg xn,if_pos rfl];have:=sep x nW hd o2 o1;omega
  ·have xn:x=n:=by simpa using nW
   subst xn;rcases aw.mp hy with nV | nV
   ·have yn:y≠x:=fun z=>cE z.symm
    rw[if_pos rfl,if_neg yn];refine sep y nV ?_ o1 o2;cases yo:(bY ps y).n with
    | none=>exact .inl rfl
    | some w=>
     refine .inr fun z=>?_
     rcases hd with hd | hd
     ·rw[hd] at z;cases z
     ·exact hd (by rw[yo];exact z.symm)
   ·have yn:y=x:=by simpa using nV
    exact absurd yn.symm cE
 ·rw[e,e];rcases aw.mp EC with h1 | h1
  ·have h2:=h.up u nX h1;have a1:u.1≠n:=fun z=>hn (z▸h2.1)
   have a2:u.2.1≠n:=fun z=>hn (z▸h1)
   rw[if_neg a1,if_neg a2];exact⟨aO _ h2.1,h2.2⟩
  ·have h2:u.2.1=n:=by simpa using h1
   have h3:=hu u nX h2;have a1:u.1≠n:=fun z=>hn (z▸h3.1)
   rw[if_neg a1,if_pos h2];exact⟨aO _ h3.1,h3.2⟩
structure mK (s:Int) (n:Nat) (O:List Nat):Prop where
 pm:O.Perm (List.range n)
 up:O.Pairwise fun x y=>i9 s x<i9 s y
theorem Sq{s:Int}{n:Nat}{O:List Nat}(h:mK s n O){i x y:Nat}(hy:O[i]?=some y)(hx:x<n)(hr:i9 s x<i9 s y):x∈O.take i:=by
 have hm:x∈O:=h.pm.mem_iff.mpr (aP.mpr hx);rw[<-List.take_append_drop i O] at hm;rcases aw.mp hm with h1 | h1
 ·exact h1
 ·exfalso
  have hi:=(aj.mp hy).1;have e:O.drop i=y::O.drop (i+1):=by rw[List.drop_eq_getElem_cons hi];rw[ag hi] at hy;cases hy;rfl
  have pw:(O.drop i).Pairwise fun x y=>i9 s x<i9 s y:=h.up.sublist (List.drop_sublist _ _)
  rw[e] at pw h1;rcases aq.mp h1 with z | z
  ·rw[z] at hr;omega
  ·have:=(List.pairwise_cons.mp pw).1 x z;omega
theorem Rn{s:Int}{n:Nat}{O:List Nat}(h:mK s n O){i y:Nat}(hy:O[i]?=some y):y∉O.take i:=fun hm=>by
 have nd:O.Nodup:=h.pm.nodup_iff.mpr List.nodup_range;have hi:=(aj.mp hy).1;have e:O.drop i=y::O.drop (i+1):=by rw[List.drop_eq_getElem_cons hi];rw[ag hi] at hy;cases hy;rfl
 rw[<-List.take_append_drop i O,e,bJ] at nd;exact nd.2.2 y hm y (by simp) rfl
theorem L9(s:Int)(h:0<=s):∃m:Int,di [D.int 1,D.int 3,D.int 30] (s/9%3)=some (.int m)/\0<m:=by
 have h1:s/9%3=0\/s/9%3=1\/s/9%3=2:=by omega
 rcases h1 with h | h | h<;>rw[h]
 ·exact⟨1,rfl,by decide⟩
 ·exact⟨3,rfl,by decide⟩
 ·exact⟨30,rfl,by decide⟩
theorem Th(ds:List D)(Qr:R->Prop)(hl:ds.length=4)(h:xw ds Qr):Du { nx:=fun _=>Qr (.fz .non),rt:=Qr } (fR ["_law_pieces","_law_above","_law_seed","_law_cells","_law_tracks","_law_key","_law_n","_law_track","_law_p","_law_q","_law_column"] ds):=by
 obtain⟨ps,ts,s,cells,rfl,hn,hc,hs,kL,val,up,q⟩:=h;show Du _ [.fz (dw ps),.fz (gf ts),.fz (.int s),.fz (dI cells),.un,.un,.un,.un,.un,.un,.un];unfold Du;have big:=i8;walk_at "px";walk_at "go";refine II (fun ds=>∃O,mK s ps.length O/\ds=O.map fun q=>.tup [.int (i9 s q),.int (q:Nat)]) (fun Q' h=>?_) ?_
 ·walk_at "px";refine jY (List.range ps.length) (fun(i:Nat)=>.int (0+i)) (fun q=>.tup (([i9 s q,(q:Int)]:List Int).map D.int)) (fun Xs h'=>?_) (by simp;omega) (fun x hx K1 k=>?_) ?_
  ·unfold dw;walk_at "px";rw[af];exact⟨by omega,by omega,by simpa using h'⟩
  ·have iU:x<ps.length:=by simpa using hx
   rw[Int.zero_add];walk_at "px";refine⟨s,x,rfl,by omega,?_⟩;exact⟨by omega,k⟩
  ·simp only[qO,vk,C5];refine⟨by simp;omega,fun t ht=>?_,fun eN hp l4=>?_⟩
   ·obtain⟨i,_,rfl⟩:=aH.mp ht;simp
   ·obtain⟨O,h1,rfl⟩:=xm hp rfl;rw[aE];have nd:O.Nodup:=h1.nodup_iff.mpr List.nodup_range;refine h _ ⟨O,⟨h1,?_⟩,rfl⟩;rw[bC] at l4;refine List.Pairwise.imp_of_mem (fun{a b} ha hb h=>?_) (l4.and nd);obtain⟨h2,h3⟩:=h;have la:a<ps.length:=aP.mp (h1.mem_iff.mp ha);have lb:b<ps.length:=aP.mp (h1.mem_iff.mp hb);have e:=Hb (s:=s) (p:=b) (q:=a) (by omega) (by omega) (Ne.symm h3);have h4:=wW _ _ h2 fun z=>h3 (by simp at z;omega)
    rw[HT.jm,if_neg e] at h4;exact of_decide_eq_true h4
 rintro _ ⟨O,bo,rfl⟩;have ol:O.length=ps.length:=by rw[bo.pm.length_eq];simp
 refine xg O (fun q=>.tup [.int (i9 s q),.int (q:Nat)]) (fun i ρ=>∃(tv:List (Nat×Int)) (a b c d e f:Sl),ρ=[.fz (dw ps),.fz (gf ts),.fz (.int s),.fz (dI cells),.ov (.dc (dA D.int tv)),a,b,c,d,e,f]/\tv.length<=i/\(∀x,(cv tv x).isSome=true↔x∈O.take i)/\lB ps ts (fT tv) (fun x=>x∈O.take i)) ⟨[],_,_,_,_,_,_,rfl,az _,fun x=>by simp[cv],⟨fun x hx=>by simp at hx,fun x hx=>by simp at hx,fun t _ hx=>by simp at hx⟩⟩ ?_ ?_
 ·rintro i n ρ hx ⟨tv,a,b,c,d,e,f,rfl,tl,tk,ok⟩;have hi:i<O.length:=(aj.mp hx).1;have Kw:n<ps.length:=aP.mp (bo.pm.mem_iff.mp (ay hx));have e1:O.take (i+1)=O.take i++[n]:=by rw[aK,hx];rfl
  have jF:=Rn bo hx;have gn:cv tv n=none:=by
   cases hg:cv tv n with
   | none=>rfl
   | some v=>exact absurd ((tk n).mp (by rw[hg];rfl)) jF
  unfold dI;walk_at "px";refine⟨cells[n],kJ (by omega),?_⟩;refine⟨_,_,rfl,by omega,by omega,?_⟩;obtain⟨m,hm,Wh⟩:=L9 s hs;refine⟨by omega,_,hm,Wh,?_⟩;have t0:0<=kS cells[n] ((n:Int)+800)%m:=bR _ (by omega);generalize kS cells[n] ((n:Int)+800)%m=UY at t0 ⊢;have wI:∀u∈ts,u.2.1=n->u.1∈O.take i:=fun u hu e=>Sq bo hx (val u hu).1 (by have:=up u hu;rw[e] at this;exact this)
  walk_at "go";refine o6 ts dT (fun Q' h=>?_) (fun j ρ=>∃(t:Int) (d e f:Sl),ρ=[.fz (dw ps),.fz (gf ts),.fz (.int s),.fz (dI cells),.ov (.dc (dA D.int tv)),.fz (.int (i9 s n)),.fz (.int n),.fz (.int t),d,e,f]/\0<=t/\∀u∈ts.take j,u.2.1=n->fT tv u.1+(bY ps u.1).k<=t) ⟨UY,_,_,_,rfl,t0,fun u hu=>by simp at hu⟩ ?_ ?_
  ·unfold gf;walk_at "px";exact h
  ·rintro j u ρ hu ⟨t,d,e,f,rfl,ht,hb⟩;have e2:ts.take (j+1)=ts.take j++[u]:=by rw[aK,hu];rfl
   have Kl:=ay hu;unfold dT;walk_at "px";by_cases hq:u.2.1=n
   ·rw[if_pos (by omega)];have yt:=wI u Kl hq;obtain⟨v,hv⟩:=Option.isSome_iff_exists.mp ((tk u.1).mpr yt);have lu:u.1<ps.length:=(val u Kl).1;refine⟨_,.int v,rfl,by rw[qi,hv];rfl,?_⟩;show ∃d,di (ps.map c6) (u.1:Int)=some d/\_
    refine⟨c6 (bY ps u.1),by rw[nJ,kJ lu,j9 lu];rfl,?_⟩;unfold c6;refine⟨.int (bY ps u.1).k,rfl,?_⟩;have fv:fT tv u.1=v:=by unfold fT;rw[hv];rfl
    refine⟨_,_,_,_,rfl,by split<;>omega,fun x hx qr=>?_⟩;rw[e2] at hx;rcases aw.mp hx with h | h
    ·have:=hb x h qr;split<;>omega
    ·have VI:x=u:=by simpa using h
     rw[VI,fv];split<;>omega
   ·rw[if_neg (by omega)];refine⟨t,_,_,_,rfl,ht,fun x hx qr=>?_⟩;rw[e2] at hx;rcases aw.mp hx with h | h
    ·exact hb x h qr
    ·simp at h;rw[h] at qr;exact absurd qr hq
  ·rintro ρ ⟨t,d,e,f,rfl,ht,hb⟩;rw[aS] at hb;simp only[jT];have pN:∀p∈tv,p.1<ps.length:=fun p hp=>by
    have h1:(cv tv p.1).isSome=true:=(vh tv p.1).mpr (aY hp);exact aP.mp (bo.pm.mem_iff.mp (List.mem_of_mem_take ((tk p.1).mp h1)))
   obtain⟨B,hB⟩:∃B:Int,∀p∈tv,p.2+(bY ps p.1).k<=B:=by
    clear tl tk ok gn hb pN;induction tv with
    | nil=>exact⟨0,fun p hp=>by cases hp⟩
    | cons a r ih=>
     obtain⟨B,hB⟩:=ih;refine⟨max B (a.2+(bY ps a.1).k),fun p hp=>?_⟩;rcases aq.mp hp with rfl | hp
     ·omega
     ·have:=hB p hp;omega
   refine⟨fun mm ρ=>∃t':Int,ρ=[.fz (dw ps),.fz (gf ts),.fz (.int s),.fz (dI cells),.ov (.dc (dA D.int tv)),.fz (.int (i9 s n)),.fz (.int n),.fz (.int t'),d,e,f]/\t<=t'/\mm=(B-t').toNat,⟨_,t,rfl,bU _,rfl⟩,?_⟩;rintro mm ρ ⟨t',rfl,XT,rfl⟩;walk_at "px";refine jY tv (fun p=>.tup [.int (p.1:Nat),.int p.2]) (fun p=>.bl (nG (bY ps n) (bY ps p.1) t' p.2)) (fun Q' h=>?_) (by omega) (fun p hp K1 k=>?_) ?_
   ·walk_at "px";show Q' (((dA D.int tv)).map fun p=>D.tup [pY p.1,p.2]);unfold dA;rw[aE];exact h
   ·walk_at "px";show ∃d,di (ps.map c6) (n:Int)=some d/\∃d1,di (ps.map c6) (p.1:Int)=some d1/\_
    have lp:=pN p hp;refine⟨c6 (bY ps n),by rw[nJ,kJ Kw,j9 Kw];rfl,c6 (bY ps p.1),by rw[nJ,kJ lp,j9 lp];rfl,?_⟩;exact⟨_,_,_,_,rfl,k⟩
   ·rw[show(tv.map fun p=>D.bl (nG (bY ps n) (bY ps p.1) t' p.2))=(tv.map fun p=>nG (bY ps n) (bY ps p.1) t' p.2).map D.bl by rw[aE];rfl];simp only[qO,zK,Jb];refine⟨rfl,?_⟩;by_cases lx:((tv.map fun p=>nG (bY ps n) (bY ps p.1) t' p.2).any id)=true
    ·rw[if_pos lx];rw[List.any_map,List.any_eq_true] at lx;obtain⟨p,hp,ng⟩:=lx;have cS:t'<p.2+(bY ps p.1).k:=by
      simp only[Function.comp_apply,id,nG,bF,aQ] at ng;exact ng.2.1
     have:=hB p hp;exact⟨_,by omega,t'+1,rfl,by omega,rfl⟩
    ·rw[if_neg lx];have EU:∀p∈tv,nG (bY ps n) (bY ps p.1) t' p.2=false:=fun p hp=>by
      rw[List.any_map,List.any_eq_true] at lx;cases hz:nG (bY ps n) (bY ps p.1) t' p.2 with
      | false=>rfl
      | true=>exact absurd ⟨p,hp,hz⟩ lx
     refine⟨_,rfl,by unfold dA;rw[af];omega,kR tv n t',_,_,_,_,_,_,by rw[<-Ac];rfl,by have:=Cs tv n t';omega,fun x=>?_,?_⟩
     ·rw[rY,e1,aw];split
      ·rename_i z;simp[z]
      ·rename_i z;rw[tk x];simp[z]
     ·rw[e1];refine ok.more jF (by omega) (fun u hu uj=>⟨wI u hu uj,by have:=hb u hu uj;omega⟩) (fun x hx=>?_) (fun u hu uj hz=>jF (uj▸(ok.up u hu hz).1));obtain⟨v,hv⟩:=Option.isSome_iff_exists.mp ((tk x).mpr hx);have Wg:(x,v)∈tv:=by
       unfold cv at hv;obtain⟨p,hp,rfl⟩:=bx.mp hv;have h1:=List.find?_some hp;have h2:=List.mem_of_find?_eq_some hp;have h3:p.1=x:=by simpa using h1
       rw[<-h3];exact h2
      have fv:fT tv x=v:=by unfold fT;rw[hv];rfl
      rw[fv];exact EU _ Wg
 ·rintro ρ ⟨tv,a,b,c,d,e,f,rfl,tl,tk,ok⟩;rw[aS] at tk ok;have mm:∀x,x∈O↔x<ps.length:=fun x=>by rw[bo.pm.mem_iff,aP]
  walk_at "go";refine jY (List.range ps.length) (fun(i:Nat)=>.int (0+i)) (fun q=>.int (fT tv q)) (fun Xs h'=>?_) (by simp;omega) (fun x hx K1 k=>?_) ?_
  ·unfold dw;walk_at "px";rw[af];exact⟨by omega,by omega,by simpa using h'⟩
  ·have iU:x<ps.length:=by simpa using hx
   rw[Int.zero_add];obtain⟨v,hv⟩:=Option.isSome_iff_exists.mp ((tk x).mpr ((mm x).mpr iU));have fv:fT tv x=v:=by unfold fT;rw[hv];rfl
   rw[fv] at k;walk_at "px";exact⟨_,.int v,rfl,by rw[qi,hv];rfl,k⟩
  ·rw[show((List.range ps.length).map fun q=>D.int (fT tv q))=((List.range ps.length).map (fT tv)).map D.int by rw[aE];rfl];have ea:∀x,x<ps.length->dr ((List.range ps.length).map (fT tv)) x=fT tv x:=fun x hx=>by
    unfold dr;rw[ao,List.getElem?_range hx];rfl
   refine q _ (by simp) ⟨fun x hx=>?_,fun x hx y hy cE hd o1 o2=>?_,fun u hu uj=>?_⟩
   ·rw[ea x hx];exact ok.lo x ((mm x).mpr hx)
   ·rw[ea x hx,ea y hy];exact ok.dj x ((mm x).mpr hx) y ((mm y).mpr hy) cE hd o1 o2
   ·have h1:=(val u hu).1;rw[ea _ h1,ea _ uj];exact⟨h1,(ok.up u hu ((mm _).mpr uj)).2⟩
end Wc
namespace Wc
open PySem L2 PyProof.Rows
end Wc
open PySem L2 PyProof.Rows Wc
local macro_rules | `(tactic| walk_at "px")=>`(tactic| (repeat(first | walk_at "b" | simp only[nD,kT,gt,uO])))
namespace Wc
open PySem L2 PyProof.Rows
def xq:dZ:=fun ds Q=>∃i:Int,ds=[.int i]/\Q (.fz (.bl true))
def Dw:TX:=(fJ (uP (zJ "int" (bW 0)) (Bw (zJ "bool" (bW 0)))))
theorem Uo(ds:List D)(Qr:R->Prop)(hl:ds.length=1)(h:xq ds Qr):Dw { nx:=fun _=>Qr (.fz .non),rt:=Qr } (fR ["_law_found"] ds):=by
 obtain⟨i,rfl,q⟩:=h;show Dw _ [.fz (.int i)];unfold Dw;walk_at "px";simp only[Ms,Mt,BG,true_and,ar,bO];exact q
noncomputable def By(ws:List Str)(s:Int)(pl:Bool)(x:Str):Int:=qS s pl (ws.findIdx fun w=>decide (w=x))
theorem Ov{ws:List Str}(nd:ws.Nodup){s:Int}{pl:Bool}{i:Nat}{x:Str}(h:ws[i]?=some x):By ws s pl x=qS s pl i:=by
 obtain⟨hi,e⟩:=aj.mp h;unfold By;congr 1
 rw[List.findIdx_eq hi];refine⟨by simp[e],fun j hj=>?_⟩;simp only[decide_eq_false_iff_not];intro z;have:=(List.getElem_inj nd).mp (z.trans e.symm);omega
theorem CC{W:Str->Int}{ps:List Pc}{ts:List Tr}{F N:Int}(h:Hq W ps ts F)(n0:0<=N)(hl:∀c,jV W ps c<=N)(hc:∀l,Dn ts l->(∀q∈l,q<ps.length)->ml (fun q=>(bY ps q).k) l<=N):F<=N:=by
 rcases h with h | ⟨c,h⟩ | ⟨l,h1,h2,h3⟩
 ·omega
 ·rw[h];exact hl c
 ·rw[h3];exact hc l h1 h2
def vZ:TX:=(cD (dG 1 (b9 (oI (fun _ j=>0<j) fun i j=>.int (i%j)) (fU uM (cg (n5 (bW 0) qo (lU (dC (.int 1)))) cx)) (b9 (oI qd fun i j=>.int (i ^ j.toNat)) (dC (.int 10)) (dC (.int 30)))))
 (cD (dG 2 (eD 4 xB (cg (eD 1 xv (cg (bW 1) cx)) (cg (bW 1) (cg (n5 (bW 0) (lU (dC (.int 1))) (lU (dC (.int 21)))) (cg (b9 oEq (b9 (oI (fun _ j=>0<j) fun i j=>.int (i%j)) (bW 1) (dC (.int 3))) (dC (.int 0))) cx))))))
 (cD (dG 3 (eD 3 xI (cg (bW 1) (cg (n5 (bW 0) (lU (dC (.int 1))) qo) (cg (fU qF (cg (bW 2) cx)) cx)))))
 (cD (dG 4 (eD 4 xw (cg (bW 2) (cg (bW 3) (cg (bW 1) (cg (n5 (bW 0) (lU (dC (.int 1))) (lU (dC (.int 21)))) cx))))))
 (cD (dG 5 (b9 cJ (eD 2 xx (cg (fU qM (cg (bW 2) cx)) (cg (fU qM (cg (bW 3) cx)) cx))) (dC (.int 1))))
 (cD (iY (zN (eM (eD 1 xq (cg (bW 5) cx)))) (fJ (dC (.bl false))) jd)
 (cD (iY (eM (b9 (fB fun i j=>.bl (decide (j<i))) (bW 5) (fU oQ (cg (b9 e9 (fX (uO (cg (bW 4) (cg (bW 2) cx))) [none,none] (j6 2 (fh (cY 0) (fh (cY 1) jA))) gX (b9 e9 (bW 0) (b9 cJ (bW 1) (dC (.int 3))))) (lR (cg (dC (.int 0)) cx))) cx)))) (fJ (dC (.bl false))) jd)
 (cD (dG 6 (b9 cJ (eD 2 vg (cg (fU qF (cg (bW 2) cx)) (cg (fU qM (cg (bW 3) cx)) cx))) (dC (.int 1))))
 (cD (iY (eM (b9 (fB fun i j=>.bl (decide (j<i))) (bW 5) (eD 2 sf (cg (bW 2) (cg (eD 2 vy (cg (fU qM (cg (bW 2) cx)) (cg (bW 6) cx))) cx))))) (fJ (dC (.bl false))) jd)
 (fJ (b9 (fB fun i j=>.bl (decide (i<=j))) (bW 5) (eD 2 sf (cg (bW 2) (cg (eD 2 xi (cg (fU qM (cg (bW 2) cx)) (cg (fU qM (cg (bW 3) cx)) cx))) cx))))))))))))))
theorem OC(ds:List D)(Qr:R->Prop)(hl:ds.length=1)(h:BF 63 ds Qr):vZ { nx:=fun _=>Qr (.fz .non),rt:=Qr } (fR ["_law_script","_law_first","_law_pieces","_law_above","_law_tracks","_law_least","_law_levels"] ds):=by
 obtain⟨ns,rfl,hn,q⟩:=h;show vZ _ [.fz (dI ns),.un,.un,.un,.un,.un,.un];unfold vZ dI;have big:=i8;walk_at "px";generalize (iX ns none (some 1)).sum=sm;have f0:0<=sm%1000000000000000000000000000000:=bR _ (by decide);generalize sm%1000000000000000000000000000000=first at f0;walk_at "go";have kh:(iX ns (some 1) (some 21)).length<=20:=by rw[HW _ (by decide) (by decide)];simp;omega
 generalize Bl:iX ns (some 1) (some 21)=cells at kh;refine⟨_,rfl,tD first,first,_,_,rfl,(Jk first).1,by omega,fun ps jc rp=>?_⟩;generalize V5:decide (first%3=0)=pl at rp;have ok:rL (By (tD first) first pl) ps:=by
  refine⟨by omega,fun p hp=>?_,fun p hp x hx=>?_,fun p hp=>?_⟩
  ·have:=(rp p hp).k0;omega
  ·obtain⟨i,h1,h2⟩:=(rp p hp).wd x hx;rw[h2,Ov (Jk first).2 h1]
  ·have h1:=(rp p hp).l0;have h2:=(rp p hp).lr;have h3:=(rp p hp).r1;omega
 have pk:∀p∈ps,1<=p.k/\p.k<=3/\p.l<=p.r:=fun p hp=>⟨(rp p hp).k0,(rp p hp).k1,(rp p hp).lr⟩
 have mB:∀p∈ps,1<=p.k:=fun p hp=>(pk p hp).1
 have hk:∀x,1<=(bY ps x).k:=fun x=>by
  by_cases hx:x<ps.length
  ·rw[j9 hx];exact mB _ (bI hx)
  ·unfold bY;rw[List.getElem?_eq_none (by omega)];decide
 have hv:∀x,(bY ps x).l<=(bY ps x).r:=fun x=>by
  by_cases hx:x<ps.length
  ·rw[j9 hx];exact(pk _ (bI hx)).2.2
  ·unfold bY;rw[List.getElem?_eq_none (by omega)];decide
 walk_at "go";rw[af];have y2:(iX ns (some 1) none).length<=63:=by rw[Jm _ (by decide)];simp;omega
 refine⟨first,_,ps.length,rfl,by omega,by omega,fun ts val XI up=>?_⟩;have od:Ord ps.length ts:=⟨i9 first,up⟩
 walk_at "go";refine⟨ps,ts,first,_,rfl,by omega,by rw[Bl];exact jc.symm,f0,by omega,val,up,fun tr XJ put=>?_⟩;walk_at "go";refine⟨_,ps,ts,rfl,ok,by omega,by omega,val,od,mB,fun a F x fl=>?_⟩;dsimp only;refine⟨.int F,rfl,?_⟩;walk_at "go";refine⟨F,rfl,?_⟩;walk_at "go";have Ex:=ok.wd;refine jY (tr.zip ps) (fun p=>.tup [.int p.1,c6 p.2]) (fun p=>.int (p.1+p.2.k)) (fun Q' h=>?_) (by simp;omega) (fun p hp K1 k=>?_) ?_
 ·walk_at "px";have ez:rP (tr.map D.int) (ps.map c6)=(tr.zip ps).map fun p=>.tup [.int p.1,c6 p.2]:=by unfold rP;rw[List.zipWith_map,List.map_zip_eq_zipWith];rfl
  rw[ez];exact h
 ·unfold c6;walk_at "px";exact⟨.int p.2.k,rfl,k⟩
 walk_at "px";rw[show((tr.zip ps).map fun p=>D.int (p.1+p.2.k))=((tr.zip ps).map fun p=>p.1+p.2.k).map D.int by rw[aE];rfl];refine⟨by omega,by simp;omega,?_⟩;have ea:((tr.zip ps).map fun(p:Int×Pc)=>p.1+p.2.k).map D.int++[D.int 0]=(((tr.zip ps).map fun(p:Int×Pc)=>p.1+p.2.k)++[(0:Int)]).map D.int:=by rw[aJ];rfl
 rw[ea];simp only[oQ,xh];refine⟨by simp,fun M X3 K4=>?_⟩;have sd:iD ps ts (dr tr) M:=by
  refine⟨K4 0 (by simp),fun x hx=>⟨put.lo x hx,K4 _ ?_⟩,put.dj,fun u hu=>(put.up u hu (val u hu).2).2⟩;refine aO _ (aH.mpr ⟨(dr tr x,bY ps x),?_,rfl⟩);rw[j9 hx,u3 (by omega)];exact List.mem_iff_getElem.mpr ⟨x,by rw[List.length_zip];omega,by simp⟩
 have f1:F<=M:=CC fl sd.n0 (sd.load Ex fun x _=>hk x) (sd.chain val);simp only[qg];rw[if_neg (by omega)];walk_at "go";rw[af];refine⟨ps.length,ts,rfl,by omega,by omega,val,od,fun ls lv=>?_⟩;simp only[kT,OV.val];refine⟨.lst (ls.map .int),rfl,?_⟩;walk_at "go";refine⟨ps,ls,rfl,lv.1,by omega,fun ord ks io gr=>?_⟩;walk_at "px";refine⟨ps,_,rfl,Cg _ _,by omega,fun p hp=>⟨(pk p hp).1,(pk p hp).2.1⟩,?_⟩;have Kc:∀(lv:List Int) (ord:List Nat) (ks:List (List Int)),wH ps.length ts lv->eu ps ord->kq ps lv ord ks->F<=(lP ps (lO ps (ks.map (gI ps lv ord))).1).getD 0:=fun lv ord ks l1 i1 g1=>by
  have h0:=Ci hk i1 g1 [] (by simp) (fun q hq=>by cases hq) (fun t _ s _ x _ y _ h1=>by cases h1);refine CC fl (by simpa using h0) (fun c=>OD hk hv i1 g1 Ex c) fun l hd hl=>QI hk i1 g1 (MO val l1) hd hl
 have f2:=Kc ls ord ks lv io gr;walk_at "px";rw[if_neg (by omega)];walk_at "go";refine⟨ps,ts,rfl,by omega,by omega,val,od,pk,fun JT pack U0=>?_⟩;walk_at "px";refine⟨ps,JT,rfl,U0,by omega,fun p hp=>⟨(pk p hp).1,(pk p hp).2.1⟩,?_⟩;have f3:F<=(lP ps JT).getD 0:=by
  rcases pack with ro | ⟨Vs,Eb,Vx,l2,i2,g2,rfl⟩
  ·have DV:=Ro ro mB val;exact CC fl DV.n0 (DV.load Ex fun x _=>hk x) (DV.chain val)
  ·exact Kc Vs Eb Vx l2 i2 g2
 walk_at "px";simpa[f3] using q
end Wc
end
namespace Wc
open PySem PySem.Spec PyProof.Rows L2
local macro_rules | `(tactic| walk_at "sc")=>`(tactic| exact⟨rfl,rfl,rfl,by decide +kernel,rfl,by decide +kernel,by decide +kernel⟩)
local macro_rules | `(tactic| walk_at "bn")=>`(tactic| (intro _ _ _ _ _ _ us hl;first | (obtain⟨_,rfl⟩:=F9 hl;exact rfl) | (obtain⟨_,_,rfl⟩:=F8 hl;exact rfl) | (obtain⟨_,_,_,rfl⟩:=F7 hl;exact rfl) | (obtain⟨_,_,_,_,rfl⟩:=F6 hl;exact rfl)))
def top(i:Nat):Stmt:=PySem.Challenge.pw_wirechannel_k37_none_below_the_floor.main.body.getD i (.Pass ⟨0,0,0,0⟩)
structure Txt (K:PySem.W.Frag) (mg:Str->Option Value):Prop where
 b_all:mg "all"=none
 b_any:mg "any"=none
 b_bool:mg "bool"=none
 b_dict:mg "dict"=none
 b_enumerate:mg "enumerate"=none
 b_int:mg "int"=none
 b_isinstance:mg "isinstance"=none
 b_len:mg "len"=none
 b_list:mg "list"=none
 b_max:mg "max"=none
 b_min:mg "min"=none
 b_range:mg "range"=none
 b_set:mg "set"=none
 b_sorted:mg "sorted"=none
 b_sum:mg "sum"=none
 b_zip:mg "zip"=none
section
variable {P:Program} {w:World} {K:PySem.W.Frag} {mg:Str->Option Value} {base:Heap}
theorem iR:ck ["_law_cell","_law_k"] ["_law_cell","_law_k"] (bZ (top 32)):=by walk_at "sc"
theorem hZ:ck ["_law_words","_law_seed","_law_cells","_law_plain","_law_pieces","_law_k","_law_cell","_law_one","_law_net","_law_first","_law_last","_law_wide"] ["_law_words","_law_seed","_law_cells","_law_plain"] (bZ (top 33)):=by walk_at "sc"
theorem hX:ck ["_law_cell","_law_size","_law_signs","_law_stem_here","_law_k"] ["_law_cell","_law_size"] (bZ (top 30)):=by walk_at "sc"
theorem gF:ck ["_law_cell","_law_size","_law_stem_here","_law_at","_law_other"] ["_law_cell"] (bZ (top 31)):=by walk_at "sc"
theorem Um:(["_law_sign","_law_stem_here","_law_at","_law_size"]:List Str).Nodup:=by decide +kernel
theorem Ul:(["_law_k","_law_stem_here","_law_size"]:List Str).Nodup:=by decide +kernel
theorem Uk:(["_law_k","_law_stem_here"]:List Str).Nodup:=by decide +kernel
theorem h9:ck ["_law_seed","_law_piece"] ["_law_seed","_law_piece"] (bZ (top 34)):=by walk_at "sc"
theorem fP:ck ["_law_seed","_law_cells","_law_many","_law_above","_law_k","_law_cell","_law_one","_law_p","_law_q"] ["_law_seed","_law_cells","_law_many"] (bZ (top 35)):=by walk_at "sc"
theorem gG:ck ["_law_one","_law_other","_law_track","_law_there"] ["_law_one","_law_other","_law_track","_law_there"] (bZ (top 37)):=by walk_at "sc"
theorem iQ:ck ["_law_pieces","_law_above","_law_seed","_law_cells","_law_tracks","_law_key","_law_n","_law_track","_law_p","_law_q","_law_column"] ["_law_pieces","_law_above","_law_seed","_law_cells"] (bZ (top 38)):=by walk_at "sc"
theorem Tg:(["_law_piece","_law_seed"]:List Str).Nodup:=by decide +kernel
theorem JM:(["_law_k","_law_there","_law_track","_law_pieces","_law_n"]:List Str).Nodup:=by decide +kernel
theorem Tf:(["_law_n","_law_tracks"]:List Str).Nodup:=by decide +kernel
theorem fN:ck ["count","above","lowers","waits","upper","lower","column","order","levels","place"] ["count","above"] (bZ (top 7)):=by walk_at "sc"
theorem UR:(["number"]:List Str).Nodup:=by decide +kernel
theorem UQ:(["number","waits"]:List Str).Nodup:=by decide +kernel
theorem UP:(["number"]:List Str).Nodup:=by decide +kernel
theorem fM:ck ["levels","above","triple_over","triple","number","places","way","ring"] ["levels","above"] (bZ (top 8)):=by walk_at "sc"
theorem j1:ck ["count","above","levels"] ["count","above"] (bZ (top 6)):=by walk_at "sc"
theorem So:(["number","levels"]:List Str).Nodup:=by decide +kernel
theorem hU:ck ["pieces","above","rank"] ["pieces","above"] (bZ (top 24)):=by walk_at "sc"
theorem g9:ck ["pieces","column"] ["pieces","column"] (bZ (top 17)):=by walk_at "sc"
theorem TJ:(["piece","column"]:List Str).Nodup:=by decide +kernel
theorem ji:ck ["pieces","column","held","keeps","nets"] ["pieces","column"] (bZ (top 27)):=by walk_at "sc"
theorem SN:(["piece"]:List Str).Nodup:=by decide +kernel
theorem SM:(["piece"]:List Str).Nodup:=by decide +kernel
theorem jh:ck ["pieces","weight","column","begun","load"] ["pieces"] (bZ (top 26)):=by walk_at "sc"
theorem S1:(["piece"]:List Str).Nodup:=by decide +kernel
theorem gC:ck ["pieces","above","uppers","upper","lower","column","ends","number","ahead"] ["pieces","above"] (bZ (top 10)):=by walk_at "sc"
theorem UE:(["piece"]:List Str).Nodup:=by decide +kernel
theorem UD:(["upper","ends"]:List Str).Nodup:=by decide +kernel
theorem iP:ck ["pieces","above","ends","heaviest","numbers","number"] ["pieces","above"] (bZ (top 9)):=by walk_at "sc"
theorem Te:(["number","ends"]:List Str).Nodup:=by decide +kernel
theorem iM:ck ["pieces","above","load","chain"] ["pieces","above"] (bZ (top 28)):=by walk_at "sc"
theorem gE:ck ["_law_found"] ["_law_found"] (bZ (top 36)):=by walk_at "sc"
theorem iO:ck ["pieces","tracks"] ["pieces","tracks"] (bZ (top 12)):=by walk_at "sc"
theorem JL:(["piece","track"]:List Str).Nodup:=by decide +kernel
theorem iL:ck ["pieces","keys"] ["pieces"] (bZ (top 15)):=by walk_at "sc"
theorem JK:(["number","piece"]:List Str).Nodup:=by decide +kernel
theorem Dv:(["first","last","number"]:List Str).Nodup:=by decide +kernel
theorem fO:ck ["pieces","levels","groups","number","key"] ["pieces","levels"] (bZ (top 14)):=by walk_at "sc"
theorem UO:(["key","groups"]:List Str).Nodup:=by decide +kernel
theorem g8:ck ["pieces","group","strips","number","free"] ["pieces","group"] (bZ (top 16)):=by walk_at "sc"
theorem TH:(["strip","pieces","number"]:List Str).Nodup:=by decide +kernel
theorem hW:ck ["pieces","levels","tracks","track","group","strip","number"] ["pieces","levels"] (bZ (top 13)):=by walk_at "sc"
theorem TF:(["piece"]:List Str).Nodup:=by decide +kernel
theorem g7:ck ["pieces","above","uppers","upper","lower","column"] ["pieces","above"] (bZ (top 19)):=by walk_at "sc"
theorem TC:(["piece"]:List Str).Nodup:=by decide +kernel
theorem gD:ck ["uppers","ends","track","upper"] ["uppers","ends","track"] (bZ (top 20)):=by walk_at "sc"
theorem hV:ck ["one","other","column"] ["one","other"] (bZ (top 4)):=by walk_at "sc"
theorem hJ:ck ["one","other"] ["one","other"] (bZ (top 22)):=by walk_at "sc"
theorem iK:ck ["pieces","taking","number"] ["pieces","taking","number"] (bZ (top 21)):=by walk_at "sc"
theorem Td:(["other","pieces","number"]:List Str).Nodup:=by decide +kernel
theorem jk:ck ["pieces","above","uppers","waiting","tracks","ends","track","taking","number"] ["pieces","above"] (bZ (top 18)):=by walk_at "sc"
theorem S0:(["piece"]:List Str).Nodup:=by decide +kernel
theorem SY:(["piece"]:List Str).Nodup:=by decide +kernel
theorem SX:(["number","track","ends"]:List Str).Nodup:=by decide +kernel
theorem SW:(["number","tracks"]:List Str).Nodup:=by decide +kernel
theorem j2:ck ["pieces","above","leveled","rowed"] ["pieces","above"] (bZ (top 23)):=by walk_at "sc"
theorem pd:ck ["_law_script","_law_first","_law_pieces","_law_above","_law_tracks","_law_least","_law_levels"] ["_law_script"] (bZ (top 39)):=by walk_at "sc"
theorem Iq:(["_law_track","_law_piece"]:List Str).Nodup:=by decide +kernel
variable (T:Txt K mg)
include T in
theorem TB(A:At K mg "_law_mix" (top 32)):Known P w K mg base 1 "_law_mix" 2 qj:=gL 0 A iR (fun f cT A outer s H E hr=>have hu:=hr.units;have nd:=iR.nd
 (cZ (gm (cI kW (cI ix (cI fL (cI fL (cI rV (cI ix (bX 0) (cI zY cp cp)) (cI fL (cI rV (bX 1) (bX 1)) cp)) (cI rV (cI rV (cI rV cp (bX 1)) (bX 1)) (bX 1))) cp) cp) cp)))) S2 (by walk_at "bn")
variable (cy:Known P w K mg base 1 "_law_mix" 2 qj)
include T cy in
theorem UC(A:At K mg "_law_some" (top 33)):Known P w K mg base 2 "_law_some" 4 xB:=gL 1 A hZ (fun f cT A outer s H E hr=>have hu:=hr.units;have nd:=hZ.nd
 (cG (oz 4 (nI cA) nd)
   (cG (kc bc rfl (CT T.b_enumerate (cj (bX 2) cA)) (oC rfl (g5 (du 5 nd) (g5 (du 6 nd) oE)))
    (cG (ee 7 (eS cy hr (cj (bX 6) (cj (bX 5) cA))) nd)
   (cG (ee 8 (cI ix (bX 7) cp) nd)
   (cG (ee 9 (cI ix (cI kW (bX 7) cp) (cP (nI (cj cp (cj cp cA))) (cI ix (cI kW (bX 7) cp) cp))) nd)
   (cG (ee 10 (jB (GB rfl) T.b_min boot_min (cj cp (cj (cI fL (bX 9) (cI ix (eS cy hr (cj (bX 6) (cj (cI fL (bX 5) cp) cA))) (cP (nI (cj cp (cj cp (cj cp cA)))) (cI ix (cI kW (bX 7) cp) cp)))) cA))) nd)
   (cG (ee 11 cp nd)
   (cG (jI (GK (wG (bX 3))) (cZ (ee 11 (cI fL cp (cI ix (eS cy hr (cj (cI fL (bX 1) (cI rV (cI kW (bX 8) cp) (bX 5))) (cj (cI fL (bX 8) cp) cA))) cp)) nd)) jX)
   (cZ (jI (gM (ot hu) (bX 8) cp) (cZ (tw 4 (lV (cj nK (cj (bX 9) (cj (bX 10) (cj (bX 11) cA))))))) (cZ (tw 4 (lV (cj (cP (bX 0) (bX 8)) (cj (cI Gx (bX 9) (cI ix (cI kW (bX 7) cp) cp)) (cj (bX 10) (cj (bX 11) cA))))))))))))))))
   (cZ (Aw 4))))) TL (by walk_at "bn")
variable (e8:Known P w K mg base 2 "_law_some" 4 xB)
include T in
theorem UB(A:At K mg "_law_stem" (top 30)):Known P w K mg base 1 "_law_stem" 2 xp:=gL 0 A hX (fun f cT A outer s H E hr=>have hu:=hr.units;have nd:=hX.nd
 (cG (ee 2 nL nd)
   (cG (ee 3 nL nd)
   (cG (kc bc rfl (qR T.b_range (cj (bX 1) cA)) (du 4 nd)
    (cG (ee 3 (cI fL (bX 3) (cP (bX 2) (cI ix (bX 0) cp))) nd)
   (cZ (ee 0 (cI kW (bX 0) cp) nd))))
   (cZ (gm (bX 3))))))) T4 (by walk_at "bn")
variable (eZ:Known P w K mg base 1 "_law_stem" 2 xp)
include T eZ in
theorem Uj(A:At K mg "_law_named" (top 31)):Known P w K mg base 2 "_law_named" 1 xv:=gL 1 A gF (fun f cT A outer s H E hr=>have hu:=hr.units;have nd:=gF.nd
 (cG (ee 0 (cI ix (cI rV (cI fL (cI ix (bX 0) (cI zY cp cp)) cp) cp) (cI fL (cI zY cp cp) cp)) nd)
   (cG (ee 1 (cI ix (bX 0) cp) nd)
   (cG (ee 2 (eS eZ hr (cj (cI kW (bX 0) cp) (cj cp cA))) nd)
   (cG (ee 3 (cI ix (cI kW (bX 0) cp) (cI fL (bX 1) cp)) nd)
   (cG (jI (gM (ot hu) (cI ix (cI kW (bX 0) cp) cp) cp) (cZ (gm (jJ rfl (.of (N':=["_law_sign","_law_stem_here","_law_at","_law_size"]) (m:=[none,some 2,some 3,some 1]) (by kernel_rfl)) g4 (gY nL) (fun s3 H3 ex=>(du 0 Um)) (fun s3 H3 ex=>jg) (fun s3 H3 ex=>(cI fL (cI fL (oY (bX 1) rZ (mW (bX 2))) (bX 0)) (oY (bX 1) (mW (bX 2)) (mW (bX 3)))))))) jX)
   (cG (jI (gM (ot hu) (cI ix (cI kW (bX 0) cp) cp) cp) (cZ (gm (jJ rfl (.of (N':=["_law_k","_law_stem_here","_law_size"]) (m:=[none,some 2,some 1]) (by kernel_rfl)) g4 (qR T.b_range (cj cp cA)) (fun s3 H3 ex=>(du 0 Ul)) (fun s3 H3 ex=>jg) (fun s3 H3 ex=>(cI fL (cI fL (cI fL (oY (bX 1) rZ (mW (cI ix (bX 2) cp))) (cP nL (cI kW (bX 0) cp))) (cP nL (cI ix (cI kW (bX 0) cp) cp))) (cP nL (cI ix (bX 0) cp))))))) jX)
   (cG (ee 4 (cI fL (cP nL (qQ LS T.b_int boot_int (cj (rX (ot hu) (cP (bX 2) cp) nL) cA))) (oY (bX 2) (mW cp) rZ)) nd)
   (cZ (gm (cI fL (jJ rfl (.of (N':=["_law_k","_law_stem_here"]) (m:=[none,some 2]) (by kernel_rfl)) g4 (qR T.b_range (cj cp cA)) (fun s3 H3 ex=>(du 0 Uk)) (fun s3 H3 ex=>jg) (fun s3 H3 ex=>(oY (bX 1) rZ (mW (cI fL (bX 0) cp))))) (nI (cj (oY (bX 4) rZ (mW cp)) (cj (oY (bX 4) rZ (mW cp)) cA)))))))))))))) Ut (by walk_at "bn")
variable (eK:Known P w K mg base 2 "_law_named" 1 xv)
include T cy in
theorem UA(A:At K mg "_law_rank" (top 34)):Known P w K mg base 2 "_law_rank" 2 tN:=gL 1 A h9 (fun f cT A outer s H E hr=>have hu:=hr.units;have nd:=h9.nd
 (cZ (gm (cI fL (cI rV (eS cy hr (cj (bX 0) (cj (cI fL (bX 1) cp) cA))) cp) (bX 1))))) TZ (by walk_at "bn")
variable (cV:Known P w K mg base 2 "_law_rank" 2 tN)
include T cy cV in
theorem UM(A:At K mg "_law_triples" (top 35)):Known P w K mg base 3 "_law_triples" 3 xI:=gL 2 A fP (fun f cT A outer s H E hr=>have hu:=hr.units;have nd:=fP.nd
 (cG (oz 3 (nI cA) nd)
   (cG (kc bc rfl (CT T.b_enumerate (cj (bX 1) cA)) (oC rfl (g5 (du 4 nd) (g5 (du 5 nd) oE)))
    (cG (ee 6 (eS cy hr (cj (bX 5) (cj (cI fL (bX 4) cp) cA))) nd)
   (cG (ee 7 (cI ix (bX 6) (jB (wb rfl) T.b_max boot_max (cj cp (cj (bX 2) cA)))) nd)
   (cG (ee 8 (cI ix (cI kW (bX 6) cp) (jB (wb rfl) T.b_max boot_max (cj cp (cj (bX 2) cA)))) nd)
   (cZ (jI (Cd (gM (Gb hu) (bX 7) (bX 8)) (CV (gM uQ (eS cV hr (cj (bX 0) (cj (bX 7) cA))) (eS cV hr (cj (bX 0) (cj (bX 8) cA)))))).pb (cZ (tw 3 (lV (cj (bX 7) (cj (bX 8) (cj (cI ix (cI kW (bX 6) cp) cp) cA)))))) (cZ (jI (gM (Gb hu) (bX 7) (bX 8)) (cZ (tw 3 (lV (cj (bX 8) (cj (bX 7) (cj (cI ix (cI kW (bX 6) cp) cp) cA)))))) jX))))))))
   (cZ (Aw 3))))) UI (by walk_at "bn")
variable (dR:Known P w K mg base 3 "_law_triples" 3 xI)
include T in
theorem Ui(A:At K mg "_law_meets" (top 37)):Known P w K mg base 1 "_law_meets" 4 xr:=gL 0 A gG (fun f cT A outer s H E hr=>have hu:=hr.units;have nd:=gG.nd
 (cG (jI (Cd (gM Ax (cP (bX 0) cp) nK) (CV (gM (ot hu) (cP (bX 0) cp) (cP (bX 1) cp)))).pb (cZ (gm rW)) jX)
   (cG (jI (GJ (gM qJ (cP (bX 0) cp) (cP (bX 1) cp)) (HS (gM qJ (cP (bX 1) cp) (cP (bX 0) cp)))).pb (cZ (gm rW)) jX)
   (cZ (gm (B5 (rX uQ (bX 2) (cI fL (bX 3) (cP (bX 1) cp))) (Aa (rX uQ (bX 3) (cI fL (bX 2) (cP (bX 0) cp)))))))))) Uq (by walk_at "bn")
variable (eL:Known P w K mg base 1 "_law_meets" 4 xr)
include T cy cV eL in
theorem Tz(A:At K mg "_law_put" (top 38)):Known P w K mg base 3 "_law_put" 4 xw:=gL 2 A iQ (fun f cT A outer s H E hr=>have hu:=hr.units;have nd:=iQ.nd
 (cG (oz 4 Ap nd)
   (cG (kc bc rfl (gY (jB (JB rfl) T.b_sorted boot_sorted (cj (jJ rfl (.of (N':=["_law_piece","_law_seed"]) (m:=[none,some 2]) (by kernel_rfl)) g4 (qR T.b_range (cj (jB uY T.b_len boot_len (cj (bX 0) cA)) cA)) (fun s3 H3 ex=>(du 0 Tg)) (fun s3 H3 ex=>jg) (fun s3 H3 ex=>(lV (cj (eS cV hr (cj (bX 1) (cj (bX 0) cA))) (cj (bX 0) cA))))) cA))) (oC rfl (g5 (du 5 nd) (g5 (du 6 nd) oE)))
    (cG (ee 7 (cI ix (eS cy hr (cj (cP (bX 3) (bX 6)) (cj (cI fL (bX 6) cp) cA))) (cP (nI (cj cp (cj cp (cj cp cA)))) (cI ix (cI kW (bX 2) cp) cp))) nd)
   (cG (kc bc rfl (gY (bX 1)) (oC rfl (g5 (du 8 nd) (g5 (du 9 nd) (g5 (du 10 nd) oE))))
    (cZ (jI (gM (ot hu) (bX 9) (bX 6)) (cZ (ee 7 (jB (wb rfl) T.b_max boot_max (cj (bX 7) (cj (cI fL (HJ hu 4 (bX 8)) (cP (cP (bX 0) (bX 8)) cp)) cA))) nd)) jX)))
   (cG (CS bc (wG (Ca 4 (jB (LV rfl) T.b_any boot_any (cj (jJ rfl (.of (N':=["_law_k","_law_there","_law_track","_law_pieces","_law_n"]) (m:=[none,none,some 7,some 0,some 6]) (by kernel_rfl)) AK (Qw (bX 4)) (fun s3 H3 ex=>(oC rfl (g5 (du 0 JM) (g5 (du 1 JM) oE)))) (fun s3 H3 ex=>jg) (fun s3 H3 ex=>(eS eL hr (cj (cP (bX 3) (bX 4)) (cj (cP (bX 3) (bX 0)) (cj (bX 2) (cj (bX 1) cA))))))) cA)))) (cZ (ee 7 (cI fL (bX 7) cp) nd)))
   (cZ (z7 hu 4 (bX 6) (bX 7)))))))
   (wN 4 (cZ (gm (jJ rfl (.of (N':=["_law_n","_law_tracks"]) (m:=[none,some 4]) (by kernel_rfl)) g4 (qR T.b_range (cj (jB uY T.b_len boot_len (cj (bX 0) cA)) cA)) (fun s3 H3 ex=>(du 0 Tf)) (fun s3 H3 ex=>jg) (fun s3 H3 ex=>(tG hu (bX 1) (bX 0)))))))))) Th (by walk_at "bn")
variable (fI:Known P w K mg base 3 "_law_put" 4 xw)
include T in
theorem UL(A:At K mg "levels_found" (top 7)):Known P w K mg base 1 "levels_found" 2 vw:=gL 0 A fN (fun f cT A outer s H E hr=>have hu:=hr.units;have nd:=fN.nd
 (cG (Ig 2 rfl (.of (N':=["number"]) (m:=[none]) (by kernel_rfl)) g4 (qR T.b_range (cj (bX 0) cA)) (fun s3 H3 ex=>(du 0 UR)) (fun s3 H3 ex=>jg) (fun s3 H3 ex=>(nI cA)) nd)
   (cG (oz 3 (ME (nI (cj cp cA)) (bX 0)) nd)
   (cG (kc bc rfl (gY (bX 1)) (oC rfl (g5 (du 4 nd) (g5 (du 5 nd) (g5 (du 6 nd) oE))))
    (cG (HI 2 (bX 4) (bX 5))
   (cZ (Az 3 (bX 5) (cI fL (z8 3 (bX 5)) cp)))))
   (cG (CB 3 7 rfl (.of (N':=["number","waits"]) (m:=[none,some 3]) (by kernel_rfl)) g4 (qR T.b_range (cj (bX 0) cA)) (fun s3 H3 ex=>(du 0 UQ)) (fun s3 H3 ex=>(tH (gM (ot hu) (cP (bX 1) (bX 0)) cp))) (fun s3 H3 ex=>(bX 0)) nd)
   (cG (oz 8 (Pa 7 (qQ (NH rfl) T.b_dict (by decide +kernel) (cj (jJ rfl (.of (N':=["number"]) (m:=[none]) (by kernel_rfl)) g4 (gY (bX 7)) (fun s3 H3 ex=>(du 0 UP)) (fun s3 H3 ex=>jg) (fun s3 H3 ex=>(lV (cj (bX 0) (cj cp cA))))) cA))) nd)
   (cG (ee 9 cp nd)
   (wN 2 (cG (CS bc (gM uQ (bX 9) (HA 7 T.b_len)) (cG (ee 4 (z8 7 (bX 9)) nd)
   (cG (ee 9 (cI fL (bX 9) cp) nd)
   (cZ (kc bc rfl (gY (cP (bX 2) (bX 4))) (du 5 nd)
    (cG (Az 3 (bX 5) (cI Gx (z8 3 (bX 5)) cp))
   (cZ (jI (gM (ot hu) (z8 3 (bX 5)) cp) (cG (z7 hu 8 (bX 5) (cI fL (HJ hu 8 (bX 4)) cp))
   (cZ (tw 7 (bX 5)))) jX))))))))
   (cZ (Ao 8))))))))))) UH (by walk_at "bn")
variable (cK:Known P w K mg base 1 "levels_found" 2 vw)
include T in
theorem UK(A:At K mg "ring_without" (top 8)):Known P w K mg base 1 "ring_without" 2 AR:=gL (T:=fun _ _=>False) 0 A fM (fun f cT A outer s H E hr=>have hu:=hr.units;have nd:=fM.nd
 (Rm)) (fun _ _ _ h=>h) (by walk_at "bn")
variable (dP:Known P w K mg base 1 "ring_without" 2 AR)
include T cK dP in
theorem SV(A:At K mg "ranked" (top 6)):Known P w K mg base 2 "ranked" 2 vg:=gL 1 A j1 (fun f cT A outer s H E hr=>have hu:=hr.units;have nd:=j1.nd
 (cG (ee 2 (eS cK hr (cj (bX 0) (cj (bX 1) cA))) nd)
   (cG (jI (gM uQ (jB NI T.b_len boot_len (cj (bX 2) cA)) (bX 0)) (cZ (gm (HH nL (eS dP hr (cj (bX 2) (cj (bX 1) cA)))))) jX)
   (cZ (gm (HH nL (jJ rfl (.of (N':=["number","levels"]) (m:=[none,some 2]) (by kernel_rfl)) g4 (qR T.b_range (cj (bX 0) cA)) (fun s3 H3 ex=>(du 0 So)) (fun s3 H3 ex=>jg) (fun s3 H3 ex=>(tG hu (bX 1) (bX 0)))))))))) Ss (by walk_at "bn")
variable (eR:Known P w K mg base 2 "ranked" 2 vg)
include T eR in
theorem Uz(A:At K mg "levels_of" (top 24)):Known P w K mg base 3 "levels_of" 2 vx:=gL 2 A hU (fun f cT A outer s H E hr=>have hu:=hr.units;have nd:=hU.nd
 (cG (ee 2 (eS eR hr (cj (jB uY T.b_len boot_len (cj (bX 0) cA)) (cj (bX 1) cA))) nd)
   (cG (jI (gM (ot hu) (cP (bX 2) cp) nL) (cZ Ph) jX)
   (cZ (gm (cP (bX 2) cp)))))) TK (by walk_at "bn")
variable (dg:Known P w K mg base 3 "levels_of" 2 vx)
include T in
theorem Uy(A:At K mg "pieces_in" (top 17)):Known P w K mg base 1 "pieces_in" 2 xD:=gL 0 A g9 (fun f cT A outer s H E hr=>have hu:=hr.units;have nd:=g9.nd
 (cZ (gm (jJ rfl (.of (N':=["piece","column"]) (m:=[none,some 1]) (by kernel_rfl)) g4 (gY (bX 0)) (fun s3 H3 ex=>(du 0 TJ)) (fun s3 H3 ex=>(tH (Px BQ BQ (cP (bX 0) cp) (bX 1) (cP (bX 0) cp)))) (fun s3 H3 ex=>(bX 0)))))) TR (by walk_at "bn")
variable (eW:Known P w K mg base 1 "pieces_in" 2 xD)
include T eW in
theorem Tc(A:At K mg "load_at" (top 27)):Known P w K mg base 2 "load_at" 2 xc:=gL 1 A ji (fun f cT A outer s H E hr=>have hu:=hr.units;have nd:=ji.nd
 (cG (ee 2 (eS eW hr (cj (bX 0) (cj (bX 1) cA))) nd)
   (cG (Pr 3 rfl (.of (N':=["piece"]) (m:=[none]) (by kernel_rfl)) g4 (gY (bX 2)) (fun s3 H3 ex=>(du 0 SN)) (fun s3 H3 ex=>(tH (gM Bx (cP (bX 0) cp) nK))) (fun s3 H3 ex=>(cP (bX 0) cp)) nd)
   (cG (ee 4 (qQ (Oh rfl) T.b_dict (by decide +kernel) (cj (jJ rfl (.of (N':=["piece"]) (m:=[none]) (by kernel_rfl)) g4 (gY (bX 2)) (fun s3 H3 ex=>(du 0 SM)) (fun s3 H3 ex=>(tH (gM Ax (cP (bX 0) cp) nK))) (fun s3 H3 ex=>(lV (cj (cP (bX 0) cp) (cj (cP (bX 0) cp) cA))))) cA)) nd)
   (cZ (gm (cI fL (jB (BE rfl) T.b_sum boot_sum (cj (bX 3) cA)) (Oj rfl T.b_sum (bX 4))))))))) SQ (by walk_at "bn")
variable (gz:Known P w K mg base 2 "load_at" 2 xc)
include T gz in
theorem Ta(A:At K mg "load_of" (top 26)):Known P w K mg base 3 "load_of" 1 xb:=gL 2 A jh (fun f cT A outer s H E hr=>have hu:=hr.units;have nd:=jh.nd
 (cG (ee 1 cp nd)
   (cG (ee 2 nK nd)
   (cG (kc bc rfl (gY (SI.k7 rfl T.b_sorted T.b_set (cj (jJ rfl (.of (N':=["piece"]) (m:=[none]) (by kernel_rfl)) g4 (gY (bX 0)) (fun s3 H3 ex=>(du 0 S1)) (fun s3 H3 ex=>jg) (fun s3 H3 ex=>(cP (bX 0) cp))) cA))) (du 3 nd)
    (cG (ee 4 (eS gz hr (cj (bX 0) (cj (bX 3) cA))) nd)
   (cZ (jI (gM qJ (bX 4) (bX 1)) (cG (ee 1 (bX 4) nd)
   (cZ (ee 2 (bX 3) nd))) jX))))
   (cZ (gm (lV (cj (bX 1) (cj (bX 2) cA))))))))) SO (by walk_at "bn")
variable (gy:Known P w K mg base 3 "load_of" 1 xb)
include T cK in
theorem Uh(A:At K mg "chain_ends" (top 10)):Known P w K mg base 2 "chain_ends" 2 xt:=gL 1 A gC (fun f cT A outer s H E hr=>have hu:=hr.units;have nd:=gC.nd
 (cG (Ig 2 rfl (.of (N':=["piece"]) (m:=[none]) (by kernel_rfl)) g4 (gY (bX 0)) (fun s3 H3 ex=>(du 0 UE)) (fun s3 H3 ex=>jg) (fun s3 H3 ex=>(nI cA)) nd)
   (cG (kc bc rfl (gY (bX 1)) (oC rfl (g5 (du 3 nd) (g5 (du 4 nd) (g5 (du 5 nd) oE))))
    (cZ (HI 2 (bX 4) (bX 3))))
   (cG (oz 6 Ap nd)
   (wN 2 (cG (kc bc rfl (An (eS cK hr (cj (jB uY T.b_len boot_len (cj (bX 0) cA)) (cj (bX 1) cA)))) (du 7 nd)
    (cG (ee 8 (P5 6 (B8 rfl hu (jJ rfl (.of (N':=["upper","ends"]) (m:=[none,some 6]) (by kernel_rfl)) g4 (gY (cP (bX 2) (bX 7))) (fun s3 H3 ex=>(du 0 UD)) (fun s3 H3 ex=>jg) (fun s3 H3 ex=>(lV (cj (cP (tG hu (bX 1) (bX 0)) cp) (cj (bX 0) cA))))) (lV (cj cp (cj nK cA))) T.b_max)) nd)
   (cZ (z7 hu 6 (bX 7) (lV (cj (cI fL (cP (bX 8) cp) (cP (cP (bX 0) (bX 7)) cp)) (cj (cP (bX 8) cp) cA)))))))
   (cZ (Ao 6)))))))) Ur (by walk_at "bn")
variable (eH:Known P w K mg base 2 "chain_ends" 2 xt)
include T eH in
theorem Tx(A:At K mg "chain_of" (top 9)):Known P w K mg base 3 "chain_of" 2 xy:=gL 2 A iP (fun f cT A outer s H E hr=>have hu:=hr.units;have nd:=iP.nd
 (cG (ee 2 (eS eH hr (cj (bX 0) (cj (bX 1) cA))) nd)
   (cG (ee 3 (B8 rfl hu (jJ rfl (.of (N':=["number","ends"]) (m:=[none,some 2]) (by kernel_rfl)) g4 (An (bX 2)) (fun s3 H3 ex=>(du 0 Te)) (fun s3 H3 ex=>jg) (fun s3 H3 ex=>(lV (cj (cP (tG hu (bX 1) (bX 0)) cp) (cj (bX 0) cA))))) (lV (cj cp (cj nK cA))) T.b_max) nd)
   (cG (oz 4 (nI cA) nd)
   (cG (ee 5 (cP (bX 3) cp) nd)
   (cG (CS bc (gM Ax (bX 5) nK) (cG (tw 4 (bX 5))
   (cZ (ee 5 (cP (tG hu (bX 2) (bX 5)) cp) nd))))
   (cG (R8 4)
   (cZ (NT 4 (cP (bX 3) cp)))))))))) Tn (by walk_at "bn")
variable (fH:Known P w K mg base 3 "chain_of" 2 xy)
include T dg gy fH in
theorem Tw(A:At K mg "floor_of" (top 28)):Known P w K mg base 4 "floor_of" 2 xx:=gL 3 A iM (fun f cT A outer s H E hr=>have hu:=hr.units;have nd:=iM.nd
 (cG (N5 (eS dg hr (cj (bX 0) (cj (bX 1) cA))))
   (cG (ee 2 (eS gy hr (cj (bX 0) cA)) nd)
   (cG (ee 3 (eS fH hr (cj (bX 0) (cj (bX 1) cA))) nd)
   (cG (jI (gM Lw (cP (bX 2) cp) (cP (bX 3) cp)) (cZ (gm (lV (cj nL (cj (cP (bX 2) cp) (cj (cP (bX 2) cp) cA)))))) jX)
   (cZ (gm (lV (cj nL (cj (cP (bX 3) cp) (cj (cP (bX 3) cp) cA))))))))))) Ti (by walk_at "bn")
variable (fG:Known P w K mg base 4 "floor_of" 2 xx)
include T in
theorem Ug(A:At K mg "_law_whole" (top 36)):Known P w K mg base 1 "_law_whole" 1 xq:=gL 0 A gE (fun f cT A outer s H E hr=>have hu:=hr.units;have nd:=gE.nd
 (cZ (gm (B5 (GI (bX 0) T.b_isinstance T.b_int boot_int) (Aa (Nj (GI (bX 0) T.b_isinstance T.b_bool boot_bool))))))) Uo (by walk_at "bn")
variable (eJ:Known P w K mg base 1 "_law_whole" 1 xq)
include T in
theorem Uc(A:At K mg "count_of" (top 12)):Known P w K mg base 1 "count_of" 2 sf:=gL 0 A iO (fun f cT A outer s H E hr=>have hu:=hr.units;have nd:=iO.nd
 (cZ (gm (B8 rfl hu (jJ rfl (.of (N':=["piece","track"]) (m:=[none,none]) (by kernel_rfl)) AK (HR T.b_zip (cj (bX 0) (cj (bX 1) cA))) (fun s3 H3 ex=>(oC rfl (g5 (du 0 JL) (g5 (du 1 JL) oE)))) (fun s3 H3 ex=>jg) (fun s3 H3 ex=>(cI fL (bX 1) (cP (bX 0) cp)))) cp T.b_max)))) Tj (by walk_at "bn")
variable (cW:Known P w K mg base 1 "count_of" 2 sf)
include T in
theorem Ub(A:At K mg "in_order" (top 15)):Known P w K mg base 1 "in_order" 1 vo:=gL 0 A iL (fun f cT A outer s H E hr=>have hu:=hr.units;have nd:=iL.nd
 (cG (ee 1 (jB (JB rfl) T.b_sorted boot_sorted (cj (jJ rfl (.of (N':=["number","piece"]) (m:=[none,none]) (by kernel_rfl)) AK (CT T.b_enumerate (cj (bX 0) cA)) (fun s3 H3 ex=>(oC rfl (g5 (du 0 JK) (g5 (du 1 JK) oE)))) (fun s3 H3 ex=>jg) (fun s3 H3 ex=>(lV (cj (cP (bX 1) cp) (cj (cP (bX 1) cp) (cj (bX 0) cA)))))) cA)) nd)
   (cZ (gm (jJ rfl (.of (N':=["first","last","number"]) (m:=[none,none,none]) (by kernel_rfl)) Si (gY (bX 1)) (fun s3 H3 ex=>(oC rfl (g5 (du 0 Dv) (g5 (du 1 Dv) (g5 (du 2 Dv) oE))))) (fun s3 H3 ex=>jg) (fun s3 H3 ex=>(bX 2))))))) Tq (by walk_at "bn")
variable (dz:Known P w K mg base 1 "in_order" 1 vo)
include T dz in
theorem UJ(A:At K mg "level_groups" (top 14)):Known P w K mg base 2 "level_groups" 2 xH:=gL 1 A fO (fun f cT A outer s H E hr=>have hu:=hr.units;have nd:=fO.nd
 (cG (oz 2 PV nd)
   (cG (kc bc rfl (gY (eS dz hr (cj (bX 0) cA))) (du 3 nd)
    (cG (oz 4 (Ou (cj (cP (bX 1) (bX 3)) (cj (GH (cP (cP (bX 0) (bX 3)) cp)) cA))) nd)
   (cZ (MC hu 2 4 (bX 3)))))
   (wN 2 (cZ (gm (jJ rfl (.of (N':=["key","groups"]) (m:=[none,some 2]) (by kernel_rfl)) g4 (gY (jB (PU rfl) T.b_sorted boot_sorted (cj (bX 2) cA))) (fun s3 H3 ex=>(du 0 UO)) (fun s3 H3 ex=>jg) (fun s3 H3 ex=>(Ot hu (bX 1) (bX 0)))))))))) UG (by walk_at "bn")
variable (dQ:Known P w K mg base 2 "level_groups" 2 xH)
include T in
theorem Ux(A:At K mg "strips_of" (top 16)):Known P w K mg base 1 "strips_of" 2 xC:=gL 0 A g8 (fun f cT A outer s H E hr=>have hu:=hr.units;have nd:=g8.nd
 (cG (oz 2 (Oo (nI cA)) nd)
   (cG (kc bc rfl (gY (bX 1)) (du 3 nd)
    (Oq 4 2 3 rfl (.of (N':=["strip","pieces","number"]) (m:=[none,some 0,some 3]) (by kernel_rfl)) (fun s3 H3 ex=>(tH (gM uQ (cP (cP (bX 1) (cP (bX 0) (GH cp))) cp) (cP (cP (bX 1) (bX 2)) cp)))) (gM (ot hu) (HA 4 T.b_len) cp) (cZ (Om 2 (nI (cj (bX 3) cA)))) (fun s3 H3 ex=>HP TH rfl (by first | exact Or.inl rfl | exact Or.inr rfl)) (fun s3 H3 ex=>jL rfl (by first | exact Or.inl rfl | exact Or.inr (Or.inl rfl) | exact Or.inr (Or.inr rfl))) (hN:=nd)))
   (cZ (Ao 2))))) TQ (by walk_at "bn")
variable (eV:Known P w K mg base 1 "strips_of" 2 xC)
include T dQ eV in
theorem Uw(A:At K mg "by_levels" (top 13)):Known P w K mg base 3 "by_levels" 2 vy:=gL 2 A hW (fun f cT A outer s H E hr=>have hu:=hr.units;have nd:=hW.nd
 (cG (N4 2 rfl (.of (N':=["piece"]) (m:=[none]) (by kernel_rfl)) g4 (gY (bX 0)) (fun s3 H3 ex=>(du 0 TF)) (fun s3 H3 ex=>jg) (fun s3 H3 ex=>cp) nd)
   (cG (ee 3 cp nd)
   (cG (kc bc rfl (gY (eS dQ hr (cj (bX 0) (cj (bX 1) cA)))) (du 4 nd)
    (cZ (kc bc rfl (gY (eS eV hr (cj (bX 0) (cj (bX 4) cA)))) (du 5 nd)
    (cG (kc bc rfl (gY (bX 5)) (du 6 nd)
    (cZ (Az 2 (bX 6) (bX 3))))
   (cZ (ee 3 (cI fL (bX 3) (cP (cP (bX 0) (cP (bX 5) cp)) cp)) nd))))))
   (cZ (Aw 2)))))) TM (by walk_at "bn")
variable (dh:Known P w K mg base 3 "by_levels" 2 vy)
include T in
theorem Uv(A:At K mg "uppers_of" (top 19)):Known P w K mg base 1 "uppers_of" 2 xE:=gL 0 A g7 (fun f cT A outer s H E hr=>have hu:=hr.units;have nd:=g7.nd
 (cG (P0 2 rfl (.of (N':=["piece"]) (m:=[none]) (by kernel_rfl)) g4 (gY (bX 0)) (fun s3 H3 ex=>(du 0 TC)) (fun s3 H3 ex=>jg) (fun s3 H3 ex=>Ap) nd)
   (cG (kc bc rfl (gY (bX 1)) (oC rfl (g5 (du 3 nd) (g5 (du 4 nd) (g5 (du 5 nd) oE))))
    (cZ (NR hu 2 (bX 4) (bX 3) rW)))
   (cZ (Ao 2))))) TU (by walk_at "bn")
variable (eU:Known P w K mg base 1 "uppers_of" 2 xE)
include T in
theorem Ue(A:At K mg "are_behind" (top 20)):Known P w K mg base 1 "are_behind" 3 xu:=gL 0 A gD (fun f cT A outer s H E hr=>have hu:=hr.units;have nd:=gD.nd
 (cG (kc bc rfl (An (bX 0)) (du 3 nd)
    (cZ (jI (GJ (gM (Pd hu) (bX 3) (bX 1)) (HS (gM qJ (tG hu (bX 1) (bX 3)) (bX 2)))).pb (cZ (gm rW)) jX)))
   (cZ (gm rW)))) Us (by walk_at "bn")
variable (eI:Known P w K mg base 1 "are_behind" 3 xu)
include T in
theorem T8(A:At K mg "common_of" (top 4)):Known P w K mg base 1 "common_of" 2 xG:=gL 0 A hV (fun f cT A outer s H E hr=>have hu:=hr.units;have nd:=hV.nd
 (cG (ee 2 (jB (wb rfl) T.b_max boot_max (cj (cP (bX 0) cp) (cj (cP (bX 1) cp) cA))) nd)
   (cG (jI (gM qJ (bX 2) (jB (GB rfl) T.b_min boot_min (cj (cP (bX 0) cp) (cj (cP (bX 1) cp) cA)))) (cZ (gm nK)) jX)
   (cZ (gm (bX 2)))))) TY (by walk_at "bn")
variable (eY:Known P w K mg base 1 "common_of" 2 xG)
include T eY in
theorem T7(A:At K mg "may_share" (top 22)):Known P w K mg base 2 "may_share" 2 xF:=gL 1 A hJ (fun f cT A outer s H E hr=>have hu:=hr.units;have nd:=hJ.nd
 (cZ (gm (LX (rX Bx (eS eY hr (cj (bX 0) (cj (bX 1) cA))) nK) (Aa (B5 (rX Ax (cP (bX 0) cp) nK) (Aa (rX (ot hu) (cP (bX 0) cp) (cP (bX 1) cp))))))))) TV (by walk_at "bn")
variable (eX:Known P w K mg base 2 "may_share" 2 xF)
include T eX in
theorem Ua(A:At K mg "may_join" (top 21)):Known P w K mg base 3 "may_join" 3 xA:=gL 2 A iK (fun f cT A outer s H E hr=>have hu:=hr.units;have nd:=iK.nd
 (cZ (gm (jB (LW rfl) T.b_all boot_all (cj (jJ rfl (.of (N':=["other","pieces","number"]) (m:=[none,some 0,some 2]) (by kernel_rfl)) g4 (gY (bX 1)) (fun s3 H3 ex=>(du 0 Td)) (fun s3 H3 ex=>jg) (fun s3 H3 ex=>(eS eX hr (cj (cP (bX 1) (bX 0)) (cj (cP (bX 1) (bX 2)) cA))))) cA))))) To (by walk_at "bn")
variable (fF:Known P w K mg base 3 "may_join" 3 xA)
include T dz eU eI fF in
theorem S9(A:At K mg "by_rows" (top 18)):Known P w K mg base 4 "by_rows" 2 xf:=gL 3 A jk (fun f cT A outer s H E hr=>have hu:=hr.units;have nd:=jk.nd
 (cG (ee 2 (eS eU hr (cj (bX 0) (cj (bX 1) cA))) nd)
   (cG (ee 3 (eS dz hr (cj (bX 0) cA)) nd)
   (cG (oz 4 (jJ rfl (.of (N':=["piece"]) (m:=[none]) (by kernel_rfl)) g4 (gY (bX 0)) (fun s3 H3 ex=>(du 0 S0)) (fun s3 H3 ex=>jg) (fun s3 H3 ex=>nK)) nd)
   (cG (oz 5 Ap nd)
   (cG (kc bc rfl (qR T.b_range (cj (jB (BE rfl) T.b_sum boot_sum (cj (jJ rfl (.of (N':=["piece"]) (m:=[none]) (by kernel_rfl)) g4 (gY (bX 0)) (fun s3 H3 ex=>(du 0 SY)) (fun s3 H3 ex=>jg) (fun s3 H3 ex=>(cP (bX 0) cp))) cA)) cA)) (du 6 nd)
    (cG (CB 5 7 rfl (.of (N':=["number","track","ends"]) (m:=[none,some 6,some 5]) (by kernel_rfl)) g4 (An (bX 5)) (fun s3 H3 ex=>(du 0 SX)) (fun s3 H3 ex=>(tH (gM qJ (tG hu (bX 2) (bX 0)) (bX 1)))) (fun s3 H3 ex=>(bX 0)) nd)
   (cG (kc bc rfl (gY (bX 3)) (du 8 nd)
    (cZ (jI (Cd (wG (Ca 5 (eS eI hr (cj (cP (bX 2) (bX 8)) (cj (bX 5) (cj (bX 6) cA)))))) (CV (wG (Ca 7 (eS fF hr (cj (bX 0) (cj (bX 7) (cj (bX 8) cA)))))))).pb (cG (Az 4 (bX 8) (bX 6))
   (cG (z7 hu 5 (bX 8) (cI fL (bX 6) (cP (cP (bX 0) (bX 8)) cp)))
   (cZ (tw 7 (bX 8))))) jX)))
   (cG (CB 4 3 rfl (.of (N':=["number","tracks"]) (m:=[none,some 4]) (by kernel_rfl)) g4 (gY (bX 3)) (fun s3 H3 ex=>(du 0 SW)) (fun s3 H3 ex=>(tH (gM Bx (cP (bX 1) (bX 0)) nK))) (fun s3 H3 ex=>(bX 0)) nd)
   (wN 3 jX)))))
   (cZ (Aw 4)))))))) SR (by walk_at "bn")
variable (gA:Known P w K mg base 4 "by_rows" 2 xf)
include T dg cW dh gA in
theorem SU(A:At K mg "packed" (top 23)):Known P w K mg base 5 "packed" 2 xi:=gL 4 A j2 (fun f cT A outer s H E hr=>have hu:=hr.units;have nd:=j2.nd
 (cG (ee 2 (eS dh hr (cj (bX 0) (cj (eS dg hr (cj (bX 0) (cj (bX 1) cA))) cA))) nd)
   (cG (ee 3 (eS gA hr (cj (bX 0) (cj (bX 1) cA))) nd)
   (cG (jI (gM qJ (eS cW hr (cj (bX 0) (cj (bX 3) cA))) (eS cW hr (cj (bX 0) (cj (bX 2) cA)))) (cZ (gm (bX 2))) jX)
   (cZ (gm (bX 3))))))) Sr (by walk_at "bn")
variable (iq:Known P w K mg base 5 "packed" 2 xi)
include T e8 eK dR fI eR fG eJ cW dh iq in
theorem MM  {f:Addr} (cT:Value) (A:Around) (outer:List Env) (s:Shared) (H:Hp) (E:XK) (hr:eQ 5 (A.deeper (envOfC "law" (bZ (top 39)) s.heap.objs.size f cT))) :
  lC (qc oe P w K mg base ["_law_script","_law_first","_law_pieces","_law_above","_law_tracks","_law_least","_law_levels"] "law" (bZ (top 39)) f cT A outer s H E).sy (dy (top 39)) vZ:=
 have hu:=hr.units;have nd:=pd.nd
 (cG (ee 1 (cI ix (jB (BE rfl) T.b_sum boot_sum (cj (oY (bX 0) rZ (mW cp)) cA)) (cI zY cp cp)) nd)
   (cG (ee 2 (eS e8 hr (cj (eS eK hr (cj (bX 1) cA)) (cj (bX 1) (cj (oY (bX 0) (mW cp) (mW cp)) (cj (rX (ot hu) (cI ix (bX 1) cp) cp) cA))))) nd)
   (cG (ee 3 (eS dR hr (cj (bX 1) (cj (oY (bX 0) (mW cp) rZ) (cj (jB uY T.b_len boot_len (cj (bX 2) cA)) cA)))) nd)
   (cG (ee 4 (eS fI hr (cj (bX 2) (cj (bX 3) (cj (bX 1) (cj (oY (bX 0) (mW cp) (mW cp)) cA))))) nd)
   (cG (ee 5 (cP (eS fG hr (cj (qQ u6 T.b_list boot_list (cj (bX 2) cA)) (cj (qQ u6 T.b_list boot_list (cj (bX 3) cA)) cA))) cp) nd)
   (cG (jI (GK (wG (eS eJ hr (cj (bX 5) cA)))) (cZ (gm rW)) jX)
   (cG (jI (gM qJ (bX 5) (jB (wb rfl) T.b_max boot_max (cj (cI fL (jJ rfl (.of (N':=["_law_track","_law_piece"]) (m:=[none,none]) (by kernel_rfl)) AK (HR T.b_zip (cj (bX 4) (cj (bX 2) cA))) (fun s3 H3 ex=>(oC rfl (g5 (du 0 Iq) (g5 (du 1 Iq) oE)))) (fun s3 H3 ex=>jg) (fun s3 H3 ex=>(cI fL (bX 0) (cP (bX 1) cp)))) (nI (cj cp cA))) cA))) (cZ (gm rW)) jX)
   (cG (ee 6 (cP (eS eR hr (cj (jB uY T.b_len boot_len (cj (bX 2) cA)) (cj (qQ u6 T.b_list boot_list (cj (bX 3) cA)) cA))) cp) nd)
   (cG (jI (gM qJ (bX 5) (eS cW hr (cj (bX 2) (cj (eS dh hr (cj (qQ u6 T.b_list boot_list (cj (bX 2) cA)) (cj (bX 6) cA))) cA)))) (cZ (gm rW)) jX)
   (cZ (gm (rX Lx (bX 5) (eS cW hr (cj (bX 2) (cj (eS iq hr (cj (qQ u6 T.b_list boot_list (cj (bX 2) cA)) (cj (qQ u6 T.b_list boot_list (cj (bX 3) cA)) cA))) cA)))))))))))))))
theorem ud{fa:Addr}(T:Txt K mg)  (AA:At K mg "_law_mix" (top 32)/\At K mg "_law_some" (top 33)/\At K mg "_law_stem" (top 30)/\At K mg "_law_named" (top 31)/\At K mg "_law_rank" (top 34)/\At K mg "_law_triples" (top 35)/\At K mg "_law_meets" (top 37)/\At K mg "_law_put" (top 38)/\At K mg "levels_found" (top 7)/\At K mg "ring_without" (top 8)/\At K mg "ranked" (top 6)/\At K mg "levels_of" (top 24)/\At K mg "pieces_in" (top 17)/\At K mg "load_at" (top 27)/\At K mg "load_of" (top 26)/\At K mg "chain_ends" (top 10)/\At K mg "chain_of" (top 9)/\At K mg "floor_of" (top 28)/\At K mg "_law_whole" (top 36)/\At K mg "count_of" (top 12)/\At K mg "in_order" (top 15)/\At K mg "level_groups" (top 14)/\At K mg "strips_of" (top 16)/\At K mg "by_levels" (top 13)/\At K mg "uppers_of" (top 19)/\At K mg "are_behind" (top 20)/\At K mg "common_of" (top 4)/\At K mg "may_share" (top 22)/\At K mg "may_join" (top 21)/\At K mg "by_rows" (top 18)/\At K mg "packed" (top 23)/\At K mg "law" (top 39)/\True)   (rA:mg "law"=some (.ref fa)):∃fd:FuncData,(∀(s:Shared) (u:Value),BindsTo s fd ⟨[u],[]⟩ [("_law_script",u)])/\∀base:Heap,ju P w K mg base oe 6 fa fd ["_law_script"] (vV K 1 (BF 63)):=by
 obtain⟨mR,lL,lK,kC,lM,jy,kE,mQ,jw,jv,pV,lH,lF,oh,og,kz,mP,mN,kB,mO,mM,jx,lE,lJ,lD,kA,lI,lG,mL,oj,pW,zE,_⟩:=AA;refine NN (T:=fun _=>vZ) zE rA pd (by walk_at "bn") (fun base f cT A outer s H E hr=>?_) (fun _=>OC);have cy:Known P w K mg base 1 "_law_mix" 2 qj:=TB T mR;have e8:Known P w K mg base 2 "_law_some" 4 xB:=UC T cy lL;have eZ:Known P w K mg base 1 "_law_stem" 2 xp:=UB T lK;have eK:Known P w K mg base 2 "_law_named" 1 xv:=Uj T eZ kC;have cV:Known P w K mg base 2 "_law_rank" 2 tN:=UA T cy lM;have dR:Known P w K mg base 3 "_law_triples" 3 xI:=UM T cy cV jy;have eL:Known P w K mg base 1 "_law_meets" 4 xr:=Ui T kE;have fI:Known P w K mg base 3 "_law_put" 4 xw:=Tz T cy cV eL mQ;have cK:Known P w K mg base 1 "levels_found" 2 vw:=UL T jw;have dP:Known P w K mg base 1 "ring_without" 2 AR:=UK T jv;have eR:Known P w K mg base 2 "ranked" 2 vg:=SV T cK dP pV;have dg:Known P w K mg base 3 "levels_of" 2 vx:=Uz T eR lH;have eW:Known P w K mg base 1 "pieces_in" 2 xD:=Uy T lF;have gz:Known P w K mg base 2 "load_at" 2 xc:=Tc T eW oh;have gy:Known P w K mg base 3 "load_of" 1 xb:=Ta T gz og;have eH:Known P w K mg base 2 "chain_ends" 2 xt:=Uh T cK kz;have fH:Known P w K mg base 3 "chain_of" 2 xy:=Tx T eH mP;have fG:Known P w K mg base 4 "floor_of" 2 xx:=Tw T dg gy fH mN;have eJ:Known P w K mg base 1 "_law_whole" 1 xq:=Ug T kB;have cW:Known P w K mg base 1 "count_of" 2 sf:=Uc T mO;have dz:Known P w K mg base 1 "in_order" 1 vo:=Ub T mM;have dQ:Known P w K mg base 2 "level_groups" 2 xH:=UJ T dz jx;have eV:Known P w K mg base 1 "strips_of" 2 xC:=Ux T lE;have dh:Known P w K mg base 3 "by_levels" 2 vy:=Uw T dQ eV lJ;have eU:Known P w K mg base 1 "uppers_of" 2 xE:=Uv T lD;have eI:Known P w K mg base 1 "are_behind" 3 xu:=Ue T kA;have eY:Known P w K mg base 1 "common_of" 2 xG:=T8 T lI;have eX:Known P w K mg base 2 "may_share" 2 xF:=T7 T eY lG;have fF:Known P w K mg base 3 "may_join" 3 xA:=Ua T eX mL;have gA:Known P w K mg base 4 "by_rows" 2 xf:=S9 T dz eU eI fF oj;have iq:Known P w K mg base 5 "packed" 2 xi:=SU T dg cW dh gA pW;exact MM T e8 eK dR fI eR fG eJ cW dh iq cT A outer s H E hr
end
end Wc
open PySem PySem.W PyProof.Rows
theorem PySem.W.Fast.te1876649660057786431:True:=trivial
noncomputable def PySem.W.Fast.tw8817590349097336377:PySem.Program:=PySem.Challenge.pw_wirechannel_k37_none_below_the_floor
theorem PySem.W.Fast.te8817590349097336377:PySem.Challenge.pw_wirechannel_k37_none_below_the_floor=PySem.W.Fast.tw8817590349097336377:=rfl
noncomputable def PySem.W.Fast.tw14319695152128361470:List PySem.Stmt:=(PySem.Challenge.pw_wirechannel_k37_none_below_the_floor.main.body.drop 0).take 2
theorem PySem.W.Fast.te14319695152128361470:(PySem.Challenge.pw_wirechannel_k37_none_below_the_floor.main.body.drop 0).take 2=PySem.W.Fast.tw14319695152128361470:=rfl
noncomputable def PySem.W.Fast.tw14704837254202691055:List PySem.Stmt:=(PySem.Challenge.pw_wirechannel_k37_none_below_the_floor.main.body.drop 2).take 7
theorem PySem.W.Fast.te14704837254202691055:(PySem.Challenge.pw_wirechannel_k37_none_below_the_floor.main.body.drop 2).take 7=PySem.W.Fast.tw14704837254202691055:=rfl
noncomputable def PySem.W.Fast.tw16736006624612646621:List PySem.Stmt:=(PySem.Challenge.pw_wirechannel_k37_none_below_the_floor.main.body.drop 9).take 15
theorem PySem.W.Fast.te16736006624612646621:(PySem.Challenge.pw_wirechannel_k37_none_below_the_floor.main.body.drop 9).take 15=PySem.W.Fast.tw16736006624612646621:=rfl
noncomputable def PySem.W.Fast.tw15543768148211469341:List PySem.Stmt:=(PySem.Challenge.pw_wirechannel_k37_none_below_the_floor.main.body.drop 24).take 14
theorem PySem.W.Fast.te15543768148211469341:(PySem.Challenge.pw_wirechannel_k37_none_below_the_floor.main.body.drop 24).take 14=PySem.W.Fast.tw15543768148211469341:=rfl
noncomputable def PySem.W.Fast.tw6732540091334761732:List PySem.Stmt:=(PySem.Challenge.pw_wirechannel_k37_none_below_the_floor.main.body.drop 38).take 2
theorem PySem.W.Fast.te6732540091334761732:(PySem.Challenge.pw_wirechannel_k37_none_below_the_floor.main.body.drop 38).take 2=PySem.W.Fast.tw6732540091334761732:=rfl
noncomputable def PySem.W.Fast.tw16992169105163180954:PySem.Program:={ PySem.Challenge.pw_wirechannel_k37_none_below_the_floor with main:={ PySem.Challenge.pw_wirechannel_k37_none_below_the_floor.main with body:=[1,2,4,6,7,8,9,10,12,13,14,15,16,17,18,19,20,21,22,23,24,26,27,28,30,31,32,33,34,35,36,37,38,39].map fun i=>PySem.Challenge.pw_wirechannel_k37_none_below_the_floor.main.body.getD i (.Pass ⟨0,0,0,0⟩) } }
theorem PySem.W.Fast.te16992169105163180954:({ PySem.Challenge.pw_wirechannel_k37_none_below_the_floor with main:={ PySem.Challenge.pw_wirechannel_k37_none_below_the_floor.main with body:=[1,2,4,6,7,8,9,10,12,13,14,15,16,17,18,19,20,21,22,23,24,26,27,28,30,31,32,33,34,35,36,37,38,39].map fun i=>PySem.Challenge.pw_wirechannel_k37_none_below_the_floor.main.body.getD i (.Pass ⟨0,0,0,0⟩) } }:PySem.Program)=PySem.W.Fast.tw16992169105163180954:=rfl
local macro_rules | `(tactic| walk_at "A")=>`(tactic| ((try dsimp only[L2.FX]);refine' L2.zr KX G ?a ?l ?c ?k;(case a=>k_is);(case l=>k_is);(case c=>k_is);(case k=>k_is)))
theorem PySem.Challenge.cw_wirechannel_k37_none_below_the_floor_holds : PySem.Challenge.rw_wirechannel_k37_none_below_the_floor.Holds := by
 w_on;o_law;k_head;(case hw=>w_witness2)
 k_fill
 refine L2.nN (l:=PySem.Challenge.rw_wirechannel_k37_none_below_the_floor) (n:=63) (k:=6) (x:="_law_script") rfl (by decide) rfl ⟨rfl,by decide,by decide⟩ (fun w h Y=>PySem.W.kIn_of Y) ?F
 case F=>
  intro w mg fa h KX G rA;have T:Wc.Txt (L2.FX KX) mg:=by
   dsimp only[L2.FX];refine' ⟨bp KX G ?b_all,bp KX G ?b_any,bp KX G ?b_bool,bp KX G ?b_dict,bp KX G ?b_enumerate,bp KX G ?b_int,bp KX G ?b_isinstance,bp KX G ?b_len,bp KX G ?b_list,bp KX G ?b_max,bp KX G ?b_min,bp KX G ?b_range,bp KX G ?b_set,bp KX G ?b_sorted,bp KX G ?b_sum,bp KX G ?b_zip⟩
   (case b_all=>k_is)
   (case b_any=>k_is)
   (case b_bool=>k_is)
   (case b_dict=>k_is)
   (case b_enumerate=>k_is)
   (case b_int=>k_is)
   (case b_isinstance=>k_is)
   (case b_len=>k_is)
   (case b_list=>k_is)
   (case b_max=>k_is)
   (case b_min=>k_is)
   (case b_range=>k_is)
   (case b_set=>k_is)
   (case b_sorted=>k_is)
   (case b_sum=>k_is)
   (case b_zip=>k_is)
  exact Wc.ud T  ⟨by walk_at "A",by walk_at "A",by walk_at "A",by walk_at "A",by walk_at "A",by walk_at "A",by walk_at "A",by walk_at "A",by walk_at "A",by walk_at "A",by walk_at "A",by walk_at "A",by walk_at "A",by walk_at "A",by walk_at "A",by walk_at "A",by walk_at "A",by walk_at "A",by walk_at "A",by walk_at "A",by walk_at "A",by walk_at "A",by walk_at "A",by walk_at "A",by walk_at "A",by walk_at "A",by walk_at "A",by walk_at "A",by walk_at "A",by walk_at "A",by walk_at "A",by walk_at "A",trivial⟩  rA
#print axioms PySem.Challenge.cw_wirechannel_k37_none_below_the_floor_holds
