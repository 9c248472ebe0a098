import PyProof.Rows.All
import Wide.All
import OpenK.AllK
import Wide.FinOn
import Lean
import PyProof.EqAt
import PyProof.EqKinds
import PyProof.TupleCall
import PyProof.NeKinds
import PyProof.SliceStr2
import PyProof.ConsumeWalk
import KE.KDictSum
import PyProof.DictWalks
import PyProof.AttrMissSeq
import KE.KDictOf
import PyProof.WalksS
import PyProof.Walks
import PyProof.DictList
import PyProof.MeetsDict
import PyProof.FactsAll.dict_3
import PyProof.MinMaxWalk
import PyProof.WalkInts
import PyProof.Rows.CallKwBuiltin
import PyProof.MaxThree
import PyProof.Rows.SortRunsK
import KE.KSortAsk
import PyProof.Rows.SortShellK
import KE.KSortTup
import PyProof.DictRoadsH
import PyProof.DictIter
import KE.KDictList
import PyProof.ZipIter
import PyProof.TupleIter
import PyProof.WalksMore
import PyProof.SumWalkG
import PyProof.DictValues
import PyProof.FactsAll.dict_4
import PySem.SetOps
import OpenK.KMore
import PyProof.ListRange
import PyProof.DictItems
import PyProof.CallStr
import KE.KIntText
import PyProof.StrCalls2
import PyProof.Rows.StrItems
import PyProof.FactsAll.NoneType
import KE.KTryOn
import PyProof.Draws
import PyProof.EnumMake
import PyProof.Rows.Range3
import KE.KRevIter
import PyProof.ListStr
import PyProof.NsDelKeeps
import PyProof.RulesAs
import KE.KIsAll
import PyProof.ExcArgsOwn
import PySem.Challenge.RW_wirechannel_k52_no_drawings
set_option hygiene false
set_option compiler.extract_closed false
noncomputable section
local macro_rules | `(tactic| omega) => `(tactic| lia)
set_option Elab.async false
set_option linter.all false
set_option maxRecDepth 100000
def aa:=@PySem.wpAny_bind
def ae:=@List.getElem?_eq_getElem
def af:=@List.length_map
def ag:=@List.getD_eq_getElem?_getD
def ah:=@PySem.wpAny_pure
def ai:=@List.getElem?_eq_some_iff
def aj:=@List.getElem?_map
def ao:=@List.map_cons
def aq:=@List.size_toArray
def ar:=@List.mem_cons_of_mem
def au:=@List.mem_cons
def av:=@List.mem_of_getElem?
def aw:=@decide_eq_false
def ax:=@Bool.false_ne_true
def ay:=@PySem.Heap.get?_push_of_some
def az:=@Nat.le_refl
def aA:=@List.length_cons
def aB:=@PySem.Heap.lt_size
def aC:=@List.length_append
def aD:=@List.map_map
def aE:=@List.map_append
def aF:=@List.mem_cons_self
def aG:=@PySem.Heap.get?_push_size
def aH:=@Option.some.injEq
def aI:=@List.mem_append
def aJ:=@Nat.lt_of_lt_of_le
def aK:=@List.mem_map
def aM:=@Array.length_toList
def aN:=@Option.map_eq_some_iff
def aO:=@Bool.and_eq_true
def aP:=@List.all_eq_true
def aQ:=@List.getElem_mem
def aR:=@Nat.le_trans
def aS:=@Option.getD_some
def aT:=@Nat.ne_of_lt
def aU:=@Option.some.inj
def aV:=@Bool.false_eq_true
def aW:=@List.getElem?_of_mem
def aX:=@List.nodup_cons
def aY:=@decide_eq_true_eq
def aZ:=@List.mem_append_right
def a9:=@List.mem_singleton
def ba:=@PySem.PassesOwn.never
def bc:=@Nat.zero_le
def bf:=@decide_eq_true
def bg:=@PySem.wpAny_truthy_bool
def bh:=@Int.toNat_natCast
def bj:=@List.length_take
def bo:=@Option.map_some
def bp:=@List.mem_append_left
def br:=@if_false
def bu:=@PySem.wpAny_newObj_type
def bx:=@List.forall_mem_cons
def bz:=@PySem.W.mg_of
def bA:=@PySem.W.mg_none_of
def bB:=@PySem.wpAny_mono
def bC:=@if_true
namespace L2
open PySem PySem.Spec PyProof.Rows
noncomputable abbrev Key:=Sum Int Str
noncomputable def sO:Key->Value->Bool
 | .inl k,v=>Value.isInt k v
 | .inr x,v=>Value.isStrOf x v
noncomputable def Hq(w:World):Key->Int
 | .inl k=>hashInt k
 | .inr x=>hashStr w x
theorem pe:∀{k:Key} {v:Value},sO k v=true->(∃i t,k=Sum.inl i/\v=Value.int i t)\/(∃x t,k=Sum.inr x/\v=Value.str x t)
 | .inl i,v,h=>by
  obtain⟨t,e⟩:=Value.isInt_shape (k:=i) (v:=v) h;exact .inl ⟨i,t,rfl,e⟩
 | .inr x,v,h=>by
  obtain⟨t,e⟩:=Value.isStrOf_shape (x:=x) (v:=v) h;exact .inr ⟨x,t,rfl,e⟩
theorem M5(i:Int)(t:Tok):sO (.inl i) (.int i t)=true:=by simp[sO,Value.isInt]
theorem M4(x:Str)(t:Tok):sO (.inr x) (.str x t)=true:=by simp[sO,Value.isStrOf]
theorem JM(a b:Int):decide ((Sum.inl a:Key)=Sum.inl b)=(a==b):=by
 by_cases e:a=b
 ·subst e;simp
 ·have h:¬(Sum.inl a:Key)=Sum.inl b:=fun q=>e (Sum.inl.inj q)
  rw[aw h];exact(beq_eq_false_iff_ne.mpr e).symm
theorem JL(a b:Str):decide ((Sum.inr a:Key)=Sum.inr b)=decide (a=b):=by
 by_cases e:a=b
 ·subst e;simp
 ·have h:¬(Sum.inr a:Key)=Sum.inr b:=fun q=>e (Sum.inr.inj q)
  rw[aw h,aw e]
theorem JK(a:Int)(b:Str):decide ((Sum.inl a:Key)=Sum.inr b)=false:=aw (fun q=>nomatch q)
theorem Ke(a:Str)(b:Int):decide ((Sum.inr a:Key)=Sum.inl b)=false:=aw (fun q=>nomatch q)
noncomputable def kn(prog:Program)(w:World):PySem.KeyKind prog w Key where
 is:=sO
 hash:=Hq w
 inj:=fun v a b ha hb=>by
  rcases pe ha with⟨i,t,rfl,rfl⟩ | ⟨x,t,rfl,rfl⟩
  ·rcases pe hb with⟨j,u,rfl,e⟩ | ⟨y,u,rfl,e⟩
   ·injection e with e1 _;rw[e1]
   ·exact nomatch e
  ·rcases pe hb with⟨j,u,rfl,e⟩ | ⟨y,u,rfl,e⟩
   ·exact nomatch e
   ·injection e with e1 _;rw[e1]
 byValue:=fun k v h=>by
  rcases pe h with⟨i,t,rfl,rfl⟩ | ⟨x,t,rfl,rfl⟩<;>rfl
 pyHash:=fun hv h=>by
  rcases pe hv with⟨i,t,rfl,rfl⟩ | ⟨x,t,rfl,rfl⟩
  ·exact wpAny_pyHash_int h
  ·exact wpAny_pyHash_str h
 eqBool:=fun hu hv h=>by
  rcases pe hu with⟨i,t,rfl,rfl⟩ | ⟨x,t,rfl,rfl⟩
  ·rcases pe hv with⟨j,u,rfl,rfl⟩ | ⟨y,u,rfl,rfl⟩
   ·rw[JM] at h;exact wpAny_eqBool_int h
   ·rw[JK] at h;exact SeqAt.EqAt.int_str i t y u _ _ _ _ h
  ·rcases pe hv with⟨j,u,rfl,rfl⟩ | ⟨y,u,rfl,rfl⟩
   ·rw[Ke] at h;exact SeqAt.EqAt.str_int x t j u _ _ _ _ h
   ·rw[JL] at h;exact wpAny_eqBool_str h
 «strs»:=fun k x t v h=>by
  rcases pe h with⟨i,u,rfl,e⟩ | ⟨y,u,rfl,e⟩
  ·exact nomatch e
  ·injection e with e1 _
   subst e1;cases v<;>rfl
theorem Nc(prog:Program)(w:World)(i:Int)(t:Tok):(kn prog w).is (.inl i) (.int i t)=true:=M5 i t
theorem Nb(prog:Program)(w:World)(x:Str)(t:Tok):(kn prog w).is (.inr x) (.str x t)=true:=M4 x t
end L2
namespace L2
open PySem PySem.Spec PyProof.Rows
inductive V where
 | non | bl (b:Bool) | int (i:Int) | str (x:Str) | Cg (b:Array UInt8) | B9 (b:UInt64) | ref (a:Addr) | ty (n:String)
 deriving DecidableEq
def RelV:V->Value->Prop
 | .non,u=>u=Value.none
 | .bl b,u=>u=Value.bool b
 | .int i,u=>∃t,u=Value.int i t
 | .str x,u=>∃t,u=Value.str x t
 | .Cg b,u=>∃t,u=Value.bytes b t
 | .B9 b,u=>∃t,u=Value.float b t
 | .ref a,u=>u=Value.ref a
 | .ty n,u=>u=Value.type n
abbrev Vals:List V->List Value->Prop:=Paired RelV
theorem Vals.length{xs:List V}{us:List Value}(r:Vals xs us):xs.length=us.length:=Paired.length r
theorem Vals.get:∀{xs:List V} {us:List Value} {i:Nat} {x:V},Vals xs us->xs[i]?=some x->∃u,us[i]?=some u/\RelV x u
 | _,_,_,_,.nil,e=>by simp at e
 | _,_,0,_,.cons r _,e=>by simp at e;subst e;exact⟨_,rfl,r⟩
 | _,_,i+1,x,.cons _ t,e=>by
  obtain⟨u,h1,h2⟩:=Vals.get (i:=i) (x:=x) t (by simpa using e);exact⟨u,by simpa using h1,h2⟩
theorem Vals.set{x:V}{u:Value}(r:RelV x u):∀{xs:List V} {us:List Value} (i:Nat),Vals xs us->Vals (xs.set i x) (us.set i u)
 | _,_,_,.nil=>.nil
 | _,_,0,.cons _ t=>.cons r t
 | _,_,i+1,.cons q t=>.cons q (Vals.set r i t)
theorem Vals.append:∀{xs ys:List V} {us ws:List Value},Vals xs us->Vals ys ws->Vals (xs++ys) (us++ws)
 | _,_,_,_,.nil,s=>s
 | _,_,_,_,.cons r t,s=>.cons r (Vals.append t s)
theorem Vals.take:∀{xs:List V} {us:List Value} (n:Nat),Vals xs us->Vals (xs.take n) (us.take n)
 | _,_,0,_=>.nil
 | _,_,_+1,.nil=>.nil
 | _,_,n+1,.cons r t=>.cons r (Vals.take n t)
theorem Vals.drop:∀{xs:List V} {us:List Value} (n:Nat),Vals xs us->Vals (xs.drop n) (us.drop n)
 | _,_,0,r=>r
 | _,_,_+1,.nil=>.nil
 | _,_,n+1,.cons _ t=>Vals.drop n t
def i6:Option V->Option Value->Prop
 | some v,some u=>RelV v u
 | none,none=>True
 | _,_=>False
def KV{κ:Type}:List (κ×V)->List (κ×Value)->Prop:=Paired fun(p:κ×V) (q:κ×Value)=>p.1=q.1/\RelV p.2 q.2
noncomputable def kV:Key->V
 | .inl i=>.int i
 | .inr x=>.str x
inductive HO where
 /-- a list -/
 | lst (xs:List V)
 /-- a tuple (never changes) -/
 | tup (xs:List V)
 /-- a dict vc keys are ints and texts;one vc keys are tuples of ints and texts (nJ empty one is both) -/
 | dK (bF:List (Key×V)) (ep:Nat) | dT (bF:List (List Key×V)) (bs:List Addr×Nat)
 /-- a set of ints: its members,its size -/
 | set (S:Int->Bool) (n:Nat)
 /-- an instance of nJ class at C,its dict at dx,its attributes -/
 | ins (C dx:Addr) (fs:List (Str×V))
 /-- nJ dict of nJ instance at x -/
 | own (x:Addr)
 /-- nJ dict of an exception -/
 | xd (fs:List (Str×V))
 /-- a bound method,f of x -/
 | met (f x:Addr)
 /-- a range object lo,lo+1,.. below hi -/
 | xV (lo hi:Int)
 /-- a vg OC is known to nJ object (nJ nP;a dict while a loop walks it): read,never written while it is so -/
 | iQ (o:Obj) (u:HO)
 /-- a code vt table -/
 | qj (ps:Array Value)
 /-- any other vg,by AK is true of its one object (a def of FQ own: Q2 a S n:=HO.ext fun h=>..) -/
 | ext (φ:Heap->Prop)
noncomputable abbrev Hp:=Addr->Option HO
noncomputable def upd(H:Hp)(a:Addr)(o:HO):Hp:=fun b=>if b=a then some o else H b
theorem fP{H:Hp}{a:Addr}{o:HO}:upd H a o a=some o:=by unfold upd;rw[if_pos rfl]
theorem cM{H:Hp}{a b:Addr}{o:HO}(h:b≠a):upd H a o b=H b:=by unfold upd;rw[if_neg h]
theorem Dc{H:Hp}{a b:Addr}{o u:HO}(h:H a=some o)(h':H b=some u)(d:o≠u):a≠b:=by
 intro e;subst e;rw[h] at h';exact d (aU h')
theorem iN{H:Hp}{a b:Addr}{o:HO}(h:H a=some o)(h':H b=none):a≠b:=by
 intro e;subst e;rw[h] at h';cases h'
section
variable (P:Program) (w:World)
def cH(H:Hp)(h:Heap)(a:Addr):HO->Prop
 | .lst xs=>xs.length<=sizeLine/\∃(its:List Value) (n:Nat),Vals xs its/\h.get? a=some { cls:=.type "list",data:=.seq its.toArray n }
 | .tup xs=>xs.length<=sizeLine/\∃its:List Value,Vals xs its/\IsTup h a its.toArray
 | .dK bF ep=>bF.length<=sizeLine/\(a==sysModules)=false/\∃vs,KV bF vs/\h.DictAt (kn P w) a vs ep
 | .dT bF bs=>bF.length<=sizeLine/\(a==sysModules)=false/\∃xs:List (List Key×Addr×Value),xs.map (fun x=>x.2.1)=bs.1/\
   Paired (fun(p:List Key×V) (q:List Key×Addr×Value)=>p.1=q.1/\H q.2.1=some (.tup (p.1.map kV))/\RelV p.2 q.2.2) bF xs/\
   ∃o es ep,h.get? a=some o/\o.ExactDict/\o.data=.dict es ep/\es.toList=xs.map (entryOfKey (tupleKind (kn P w)))/\(xs.map (·.1)).Nodup/\ep=bs.2
 | .set S n=>h.SetOf (intKind P w) a S n
 | .ins C dx fs=>H dx=some (.own a)/\fs.length<=1000/\dx≠a/\h.get? a=some (PySem.W.instObj C dx)/\
   ∃mA,h.Ns1 dx mA/\(∀f,i6 (fs.lookup f) (mA f))/\PySem.Within mA (fs.map (·.1))
 | .own _=>∃o,h.get? a=some o
 | .xd fs=>∃mA,h.Ns1 a mA/\∀f,i6 (fs.lookup f) (mA f)
 | .xV lo hi=>∃t u v,h.get? a=some { cls:=.type "range",data:=.fields #[.int lo t,.int hi u,.int 1 v] }
 | .iQ o u=>h.get? a=some o/\cH H h a u
 | .qj ps=>h.get? a=some { cls:=.none,data:=.fields ps }
 | .met f x=>h.get? a=some (PySem.W.methodObj (.ref f) (.ref x))
 | .ext φ=>φ h/\(∃o,h.get? a=some o)/\∀h1 h2:Heap,φ h1->(∀o,h1.get? a=some o->h2.get? a=some o)->φ h2
def gk(H:Hp)(h:Heap):Prop:=∀a o,H a=some o->cH P w H h a o
end
section
variable {P:Program} {w:World} {H H':Hp} {h h':Heap} {a:Addr} {o:HO}
theorem cH.lt(x:cH P w H h a o):a<h.objs.size:=by
 cases o with
 | lst xs=>obtain⟨_,_,_,_,e⟩:=x;exact aB e
 | tup xs=>obtain⟨_,_,_,p⟩:=x;exact p.lt
 | dK bF ep=>obtain⟨_,_,_,_,o,_,e,_⟩:=x;exact aB e
 | dT bF bs=>obtain⟨_,_,_,_,_,o,_,_,e,_⟩:=x;exact aB e
 | set S n=>obtain⟨o,_,_,_,e,_⟩:=x;exact aB e
 | ins C dx fs=>obtain⟨_,_,_,e,_⟩:=x;exact aB e
 | own y=>obtain⟨_,e⟩:=x;exact aB e
 | xd fs=>obtain⟨_,⟨_,_,_,e,_⟩,_⟩:=x;exact aB e
 | xV lo hi=>obtain⟨_,_,_,e⟩:=x;exact aB e
 | iQ ob u=>obtain⟨e,_⟩:=x;exact aB e
 | qj ps=>exact aB (show h.get? a=some _ from x)
 | met f y=>exact aB (show h.get? a=some _ from x)
 | ext φ=>obtain⟨_,⟨_,e⟩,_⟩:=x;exact aB e
theorem Paired.rQ{α β:Type}{F G:α->β->Prop}:∀{nW:List α} {nV:List β},Paired F nW nV->(∀a b,F a b->G a b)->Paired G nW nV
 | _,_,.nil,_=>.nil
 | _,_,.cons r t,f=>.cons (f _ _ r) (Paired.rQ t f)
theorem cH.iy(x:cH P w H h a o)(k:∀b u,(b=a\/H b=some (.own a))->h.get? b=some u->h'.get? b=some u)
  (ho:∀b,H b=some (.own a)->H' b=some (.own a)) (ht:∀b xs,H b=some (.tup xs)->H' b=some (.tup xs)):cH P w H' h' a o:=by
 induction o with
 | lst xs=>obtain⟨z,its,n,r,e⟩:=x;exact⟨z,its,n,r,k _ _ (.inl rfl) e⟩
 | tup xs=>obtain⟨z,its,r,ob,e,c⟩:=x;exact⟨z,its,r,ob,k _ _ (.inl rfl) e,c⟩
 | dK bF ep=>obtain⟨z,y,vs,r,ob,es,e,c⟩:=x;exact⟨z,y,vs,r,ob,es,k _ _ (.inl rfl) e,c⟩
 | dT bF bs=>
  obtain⟨z,y,xs,bq,r,ob,es,ep,e,c⟩:=x;exact⟨z,y,xs,bq,Paired.rQ r fun p q z=>⟨z.1,ht _ _ z.2.1,z.2.2⟩,ob,es,ep,k _ _ (.inl rfl) e,c⟩
 | set S n=>obtain⟨ob,es,ep,t,e,c⟩:=x;exact⟨ob,es,ep,t,k _ _ (.inl rfl) e,c⟩
 | ins C dx fs=>
  obtain⟨d,z,ne,e,mA,⟨od,es,ep,e2,c⟩,r⟩:=x;exact⟨ho _ d,z,ne,k _ _ (.inl rfl) e,mA,⟨od,es,ep,k _ _ (.inr d) e2,c⟩,r⟩
 | own y=>obtain⟨ob,e⟩:=x;exact⟨ob,k _ _ (.inl rfl) e⟩
 | xd fs=>obtain⟨mA,⟨od,es,ep,e,c⟩,r⟩:=x;exact⟨mA,⟨od,es,ep,k _ _ (.inl rfl) e,c⟩,r⟩
 | xV lo hi=>obtain⟨t,u,v,e⟩:=x;exact⟨t,u,v,k _ _ (.inl rfl) e⟩
 | iQ ob u ih=>obtain⟨e,q⟩:=x;exact⟨k _ _ (.inl rfl) e,ih q⟩
 | qj ps=>
  have e:h.get? a=some { cls:=.none,data:=.fields ps }:=x;show h'.get? a=some { cls:=.none,data:=.fields ps };exact k a _ (.inl rfl) e
 | met f y=>
  have e:h.get? a=some (PySem.W.methodObj (.ref f) (.ref y)):=x;show h'.get? a=some (PySem.W.methodObj (.ref f) (.ref y));exact k a _ (.inl rfl) e
 | ext φ=>obtain⟨p,⟨o,e⟩,st⟩:=x;exact⟨st _ _ p fun o q=>k _ _ (.inl rfl) q,⟨o,k _ _ (.inl rfl) e⟩,st⟩
theorem gk.lt(x:gk P w H h)(e:H a=some o):a<h.objs.size:=(x a o e).lt
theorem gk.fresh(x:gk P w H h)(e:h.objs.size<=a):H a=none:=by
 cases q:H a with
 | none=>rfl
 | some u=>exact absurd (aJ (x.lt q) e) (Nat.lt_irrefl _)
theorem gk.kept(x:gk P w H h)(k:∀b u,h.get? b=some u->h'.get? b=some u):gk P w H h':=fun a o e=>
 (x a o e).iy (fun b u _ q=>k b u q) (fun _ q=>q) fun _ _ q=>q
theorem gk.laid(x:gk P w H h)(k:∀b u,h.get? b=some u->h'.get? b=some u)(hp:h.objs.size<=a)(new:cH P w (upd H a o) h' a o):gk P w (upd H a o) h':=fun b u e=>by
 have hn:=x.fresh hp;by_cases hb:b=a
 ·subst hb;rw[fP] at e;cases e;exact new
 ·rw[cM hb] at e;exact(x b u e).iy (fun c v _ q=>k c v q) (fun c q=>by rw[cM (iN q hn)];exact q) fun c xs q=>by rw[cM (iN q hn)];exact q
end
def Rd(H:Hp)(a:Addr)(u:HO):Prop:=H a=some u\/∃o,H a=some (.iQ o u)
theorem Rd.ok{P:Program}{w:World}{H:Hp}{h:Heap}{a:Addr}{u:HO}(r:Rd H a u)(x:gk P w H h):cH P w H h a u:=by
 rcases r with r | ⟨o,r⟩
 ·exact x a u r
 ·obtain⟨_,q⟩:=x a _ r;exact q
def wF:Option HO->Prop
 | some (.lst _)=>True
 | some (.dK _ _)=>True
 | some (.dT _ _)=>True
 | some (.set _ _)=>True
 | some (.ins _ _ _)=>True
 | some (.ext _)=>True
 | _=>False
section
variable {P:Program} {w:World} {H:Hp} {h h':Heap} {x e:Addr} {o':HO}
theorem gk.write(ok:gk P w H h)(mu:wF (H x))(he:e=x\/H e=some (.own x))(k:∀b u,b≠e->h.get? b=some u->h'.get? b=some u)(tR:∃u,h'.get? e=some u)
  (new:cH P w (upd H x o') h' x o'):gk P w (upd H x o') h':=fun b u q=>by
 have vv:∀c y,H c=some (.own y)->c≠x:=fun c y r z=>by subst z;rw[r] at mu;exact mu
 have Ba:∀c xs,H c=some (.tup xs)->c≠x:=fun c xs r z=>by subst z;rw[r] at mu;exact mu
 by_cases hb:b=x
 ·subst hb;rw[fP] at q;cases q;exact new
 ·rw[cM hb] at q;by_cases sm:b=e
  ·have q':H b=some (.own x):=by
    rcases he with z | z
    ·exact absurd (sm.trans z) hb
    ·rw[sm];exact z
   rw[q] at q';cases q';obtain⟨v,hv⟩:=tR;exact⟨v,by rw[sm];exact hv⟩
  ·refine(ok b u q).iy (fun c v hc r=>k c v ?_ r) (fun c r=>by rw[cM (vv c b r)];exact r) fun c xs r=>by rw[cM (Ba c xs r)];exact r
   rcases hc with rfl | hc
   ·exact sm
   ·rintro rfl;rcases he with z | z
    ·exact vv c b hc z
    ·rw[hc] at z;cases z;exact hb rfl
end
structure Un (fs ex:List Addr) (H H':Hp) (h h':Heap):Prop where
 keep:∀b o,h.get? b=some o->H b=none->b∉fs->b∉ex->h'.get? b=some o
 slot:∀b o,h.get? b=some o->H b=none->b∈fs->b∉ex->∃sl,h'.get? b=some { o with slots:=sl }
 free:∀b o,h.get? b=some o->H b=none->b∉ex->H' b=none
 there:∀b o,h.get? b=some o->b∉ex->∃o',h'.get? b=some o'
 ia:∀b xs,H b=some (.tup xs)->H' b=some (.tup xs)
 g6:∀b o u,H b=some (.iQ o u)->H' b=some (.iQ o u)
 ib:∀b ps,H b=some (.qj ps)->∃more,H' b=some (.qj (ps++more))
section
variable {fs RN ex RP:List Addr} {H H1 H2:Hp} {h h1 h2 h':Heap} {a x e:Addr} {o:HO}
theorem Un.any(u:Un fs ex H H1 h h1){b:Addr}{ob:Obj}(q:h.get? b=some ob)(n:H b=none)(hx:b∉ex):∃sl,h1.get? b=some { ob with slots:=sl }:=by
 by_cases hb:b∈fs
 ·exact u.slot b ob q n hb hx
 ·exact⟨ob.slots,u.keep b ob q n hb hx⟩
theorem Un.kept(k:∀b u,h.get? b=some u->h'.get? b=some u):Un fs ex H H h h':=
 ⟨fun b ob q _ _ _=>k b ob q,fun b ob q _ _ _=>⟨ob.slots,k b ob q⟩,fun _ _ _ n _=>n,fun b ob q _=>⟨ob,k b ob q⟩,fun _ _ q=>q,fun _ _ _ q=>q,fun _ ps q=>⟨#[],by rw[q];simp⟩⟩
theorem Un.refl:Un fs ex H H h h:=Un.kept fun _ _ q=>q
theorem Un.laid(k:∀b u,h.get? b=some u->h'.get? b=some u)(hp:h.objs.size<=a)(hn:H a=none):Un fs ex H (upd H a o) h h' where
 keep:=fun b u q _ _ _=>k b u q
 slot:=fun b u q _ _ _=>⟨u.slots,k b u q⟩
 free:=fun b u q n _=>by rw[cM (aT (aJ (aB q) hp))];exact n
 there:=fun b u q _=>⟨u,k b u q⟩
 ia:=fun b xs q=>by rw[cM (iN q hn)];exact q
 g6:=fun b u xs q=>by rw[cM (iN q hn)];exact q
 ib:=fun b ps q=>⟨#[],by rw[cM (iN q hn),q];simp⟩
theorem Un.write(mu:wF (H x))(he:e=x\/H e=some (.own x))(k:∀b u,b≠e->h.get? b=some u->h'.get? b=some u)(tR:∃u,h'.get? e=some u):Un fs ex H (upd H x o) h h':=by
 have hx:∀b,H b=none->b≠x:=fun b n z=>by subst z;rw[n] at mu;exact mu
 have hb:∀b,H b=none->b≠e:=fun b n z=>by
  subst z;rcases he with r | r
  ·exact hx b n r
  ·rw[n] at r;cases r
 have hm:∀b u,H b=some u->¬wF (some u)->b≠x:=fun b u q nm z=>by subst z;rw[q] at mu;exact nm mu
 refine⟨fun b u q n _ _=>k b u (hb b n) q,fun b u q n _ _=>⟨u.slots,k b u (hb b n) q⟩,fun b u q n _=>by rw[cM (hx b n)];exact n,fun b u q _=>?_,
  fun b xs q=>by rw[cM (hm b _ q fun z=>z)];exact q,fun b u xs q=>by rw[cM (hm b _ q fun z=>z)];exact q,fun b ps q=>⟨#[],by rw[cM (hm b _ q fun z=>z),q];simp⟩⟩
 by_cases sm:b=e
 ·subst sm;exact tR
 ·exact⟨u,k b u sm q⟩
end
noncomputable def xQ(h:Heap)(H:Hp):List Addr:=(List.range h.objs.size).filter fun a=>(H a).isSome
noncomputable def o7(h:Heap)(H:Hp):Heap:=PySem.W.hideAll h (xQ h H)
theorem M3(h:Heap)(H:Hp):(o7 h H).objs.size=h.objs.size:=PySem.W.hideAll_size _ _
theorem LZ{h:Heap}{H:Hp}{b:Addr}{o:Obj}(e:h.get? b=some o)(n:H b=none):(o7 h H).get? b=some o:=
 PySem.W.hideAll_get _ e fun hm=>by
  have q:(H b).isSome=true:=(List.mem_filter.mp hm).2;rw[n] at q;simp at q
theorem KA{h:Heap}{H:Hp}{b:Addr}{o:Obj}(e:(o7 h H).get? b=some o):h.get? b=some o/\H b=none:=by
 have e':h.get? b=some o:=PySem.W.of_hideAll (xQ h H) e;refine⟨e',?_⟩;cases q:H b with
 | none=>rfl
 | some x=>
  have hm:b∈xQ h H:=List.mem_filter.mpr ⟨List.mem_range.mpr (aB e'),by simp[q]⟩;have z:(o7 h H).get? b=none:=PySem.W.hideAll_none (xQ h H) hm;rw[z] at e;cases e
noncomputable def Kz(g h:Heap)(L:Addr):List (Addr×Obj):=(List.range h.objs.size).filterMap fun a=>if a=L\/(g.get? a).isSome=true then none else(h.get? a).map fun o=>(a,o)
noncomputable def iM(g h:Heap)(L d:Addr):List (Addr×Obj):=(Kz g h L).filter fun p=>decide (p.1≠d)
end L2
namespace L2
open PySem PySem.Spec PyProof.Rows
structure Mod (K:PySem.W.Frag) (mg:Str->Option Value) (base:Heap):Prop where
 qw:K.In base
 glob:base.Ns mainGlobals mg
 blt:∃mb,base.Ns builtinsNs mb/\∀x:Str,x≠"__name__"->mb x=bootBuiltins x
 nolimit:base.NoLimit
structure Cx where
 prog:Program
 w:World
 K:PySem.W.Frag
 mg:Str->Option Value
 base:Heap
 A:Around
 N:List Str
 cY:Shared
 mG:Hp
 env:Env
 outer:List Env
 stack:List Env
 ex:List Addr
 fn:Str->Bool
 calm:Bool
 pn:List (Addr×Obj)
 xe:Value->Shared->Prop
noncomputable def gQ(l:List Env):List Addr:=l.filterMap (·.frame)
noncomputable abbrev Cx.fs(X:Cx):List Addr:=gQ X.outer
def j2(sc:Scope)(x:Str):Prop:=sc.names.lookup x=some .local\/sc.names.lookup x=some .cell\/sc.names.lookup x=some .free
def Loc(sc:Scope)(x:Str):Prop:=sc.names.lookup x=some .local\/sc.names.lookup x=some .cell
def Look(env:Env)(h:Heap)(m:Str->Option Value)(x:Str)(u:Value):Prop:=
 (env.kindOf x=some .local/\m x=some u)\/((env.kindOf x=some .cell\/env.kindOf x=some .free)/\∃c,env.cells.lookup x=some c/\h.IsCell c (some u))
structure Cx.Ok (X:Cx):Prop where
 mod:Mod X.K X.mg X.base
 kind:X.env.scope.kind=.function
 glob:X.env.globals=mainGlobals
 blt:X.env.builtins=builtinsNs
 above:X.cY.heap.objs.size<=X.env.locals
 inj:∀x y c,X.env.cells.lookup x=some c->X.env.cells.lookup y=some c->x=y
 has:∀x,(X.env.kindOf x=some .cell\/X.env.kindOf x=some .free)->∃c,X.env.cells.lookup x=some c
 cab:∀x c,X.fn x=true->X.env.cells.lookup x=some c->X.cY.heap.objs.size<=c
 hd:X.calm=true->X.A.handled=none
 frames:X.A.frames=some X.stack
 vo:X.stack=X.outer\/(X.stack=X.env::X.outer/\X.env.frame=some X.env.locals)
 exf:∀b∈X.ex,b≠X.env.locals/\∀x c,X.env.cells.lookup x=some c->c≠b
 bs:∀b o,X.base.get? b=some o->X.cY.heap.get? b=some o/\X.mG b=none
 qJ:X.base.objs.size<=X.cY.heap.objs.size
 mn:∀b o,X.base.get? b=some o->b∉X.ex
 mE:∀b∈X.ex,b∉X.fs
 fG:X.cY.heap.FunFrames X.base X.outer
 oU:∀b∈X.fs,X.mG b=none
structure Inv (X:Cx) (pins:List (Addr×Obj)) (σ:List (Option V)) (H:Hp) (s:Shared):Prop where
 ok:X.Ok
 os:s.os=X.cY.os
 bare:AllBare s.gens
 base:Un X.fs X.ex X.mG H X.cY.heap s.heap
 loc:∃m,s.heap.Ns X.env.locals m/\∀(i:Nat) (x:Str) (v:V),X.N[i]?=some x->σ[i]?=some (some v)->j2 X.env.scope x->∃u,RelV v u/\Look X.env s.heap m x u
 cell:∀x c,X.env.cells.lookup x=some c->∃v,s.heap.IsCell c v
 free:H X.env.locals=none
 eu:∀x c,X.env.cells.lookup x=some c->H c=none
 pin:∀p∈X.pn++pins,s.heap.get? p.1=some p.2/\H p.1=none/\p.1≠X.env.locals/\p.1∉X.fs/\∀v,p.2.data≠.cell v
 b9:gk X.prog X.w H s.heap
 len:σ.length=X.N.length
section
variable {X:Cx} {pins:List (Addr×Obj)} {σ:List (Option V)} {H H':Hp} {s:Shared} {h':Heap}
theorem Cx.Ok.Bd(ok:X.Ok){b:Addr}{o:Obj}(e:X.base.get? b=some o):b∉X.fs:=fun hb=>by
 have:=(ok.fG.mem hb).1;rw[e] at this;cases this
theorem Inv.bs(I:Inv X pins σ H s):∀b o,X.base.get? b=some o->s.heap.get? b=some o/\H b=none:=fun b o e=>
 ⟨I.base.keep b o (I.ok.bs b o e).1 (I.ok.bs b o e).2 (I.ok.Bd e) (I.ok.mn b o e),I.base.free b o (I.ok.bs b o e).1 (I.ok.bs b o e).2 (I.ok.mn b o e)⟩
theorem Inv.bk(I:Inv X pins σ H s):∀b o,X.base.get? b=some o->s.heap.get? b=some o:=fun b o e=>(I.bs b o e).1
theorem Inv.mod(I:Inv X pins σ H s):Mod X.K X.mg X.base:=I.ok.mod
theorem Inv.jU(I:Inv X pins σ H s):X.K.In s.heap:=I.ok.mod.qw.keeps I.bk
theorem Inv.lt(I:Inv X pins σ H s):X.env.locals<s.heap.objs.size:=let⟨_,hn,_⟩:=I.loc;hn.lt
theorem Inv.sz(I:Inv X pins σ H s):X.cY.heap.objs.size<=s.heap.objs.size:=aR I.ok.above (Nat.le_of_lt I.lt)
theorem Inv.Bc(I:Inv X pins σ H s){a:Addr}(h:s.heap.objs.size<=a):a∉X.fs:=fun hb=>by
 obtain⟨_,o,ho,_⟩:=I.ok.fG.mem hb;exact absurd (aJ (aB ho) (aR I.sz h)) (Nat.lt_irrefl _)
theorem Inv.oh(I:Inv X pins σ H s):∀x c,X.env.cells.lookup x=some c->c≠X.env.locals:=fun x c e z=>by
 obtain⟨v,o,ho,hd⟩:=I.cell x c e;obtain⟨m,⟨o',es,ep,jW,vY,_⟩,_⟩:=I.loc;rw[z,jW] at ho;cases ho;rw[vY] at hd;cases hd
theorem Inv.fG(I:Inv X pins σ H s):s.heap.FunFrames X.base X.outer:=by
 have all:∀(l:List Env),(∀b∈gQ l,b∈X.fs)->X.cY.heap.FunFrames X.base l->s.heap.FunFrames X.base l:=by
  intro l;induction l with
  | nil=>intro _ _;trivial
  | cons env r ih=>
   intro hs hl;obtain⟨hk,⟨L,o,hf,hn,ho,hd⟩,hr⟩:=hl;have hL:L∈X.fs:=hs L (by unfold gQ;rw[List.filterMap_cons,hf];exact aF);obtain⟨sl,e⟩:=I.base.slot L o ho (I.ok.oU L hL) hL fun z=>I.ok.mE L z hL
   exact⟨hk,⟨L,_,hf,hn,e,hd⟩,ih (fun b hb=>hs b (by unfold gQ;rw[List.filterMap_cons,hf];exact ar _ hb)) hr⟩
 exact all X.outer (fun _ hb=>hb) I.ok.fG
theorem Inv.stack(I:Inv X pins σ H s):s.heap.FunFrames X.base X.stack:=by
 rcases I.ok.vo with e | ⟨e,hf⟩
 ·rw[e];exact I.fG
 ·rw[e];obtain⟨m,hn,_⟩:=I.loc;refine .cons (by rw[I.ok.kind];decide) hf hn ?_ I.fG;exact Heap.get?_none_of_le (aR I.ok.qJ I.ok.above)
theorem Inv.kJ(I:Inv X pins σ H s):∀b∈gQ X.stack,b∈X.env.locals::X.fs:=fun b hb=>by
 rcases I.ok.vo with e | ⟨e,hf⟩
 ·rw[e] at hb;exact ar _ hb
 ·rw[e] at hb;unfold gQ at hb;rw[List.filterMap_cons,hf] at hb;exact hb
theorem Inv.lF(I:Inv X pins σ H s):∀b∈gQ X.stack,H b=none:=fun b hb=>by
 rcases au.mp (I.kJ b hb) with e | hb
 ·rw[e];exact I.free
 ·obtain⟨_,o,ho,_⟩:=I.ok.fG.mem hb;exact I.base.free b o ho (I.ok.oU b hb) fun z=>I.ok.mE b z hb
theorem Inv.step{g':Array GenState}{t':Nat}{d':Drawn}{ch:List Addr}(I:Inv X pins σ H s)
  (jf:∀b∈ch,(b∈X.ex\/X.cY.heap.objs.size<=b)/\b≠X.env.locals/\(∀x c,X.env.cells.lookup x=some c->c≠b)/\∀p∈X.pn++pins,p.1≠b)
  (keep:∀b o,b≠X.env.locals->b∉X.fs->b∉ch->s.heap.get? b=some o->H b=none->h'.get? b=some o)
  (slot:∀b o,b≠X.env.locals->b∈X.fs->b∉ch->s.heap.get? b=some o->H b=none->∃sl,h'.get? b=some { o with slots:=sl }) (free:∀b o,b∉ch->s.heap.get? b=some o->H b=none->H' b=none)
  (there:∀b o,b∉ch->s.heap.get? b=some o->∃o',h'.get? b=some o')
  (ia:∀b xs,H b=some (.tup xs)->H' b=some (.tup xs)) (g6:∀b o u,H b=some (.iQ o u)->H' b=some (.iQ o u)) (ib:∀b ps,H b=some (.qj ps)->∃more,H' b=some (.qj (ps++more)))
  (ns:∀m,s.heap.Ns X.env.locals m->h'.Ns X.env.locals m) (b9:gk X.prog X.w H' h') (hg:AllBare g') :
  Inv X pins σ H' { s with heap:=h',gens:=g',drawn:=d',toks:=t' }:=by
 have FW:∀b o,X.cY.heap.get? b=some o->b≠X.env.locals:=fun b o e=>aT (aJ (aB e) I.ok.above)
 have x9:∀b o,X.cY.heap.get? b=some o->b∉X.ex->b∉ch:=fun b o e hx hb=>by
  rcases(jf b hb).1 with z | z
  ·exact hx z
  ·exact absurd (aJ (aB e) z) (Nat.lt_irrefl _)
 have cellK:∀x c,X.env.cells.lookup x=some c->∀v,s.heap.IsCell c v->h'.IsCell c v:=fun x c e v ⟨o,ho,hd⟩=>by
  have vx:c∉ch:=fun z=>(jf c z).2.2.1 x c e rfl
  by_cases hc:c∈X.fs
  ·obtain⟨sl,q⟩:=slot c o (I.oh x c e) hc vx ho (I.eu x c e);exact⟨_,q,hd⟩
  ·exact⟨o,keep c o (I.oh x c e) hc vx ho (I.eu x c e),hd⟩
 refine⟨I.ok,I.os,hg,⟨fun b o e n hb hx=>?_,fun b o e n hb hx=>?_,fun b o e n hx=>?_,fun b o e hx=>?_,fun b xs e=>ia b xs (I.base.ia b xs e),fun b o xs e=>g6 b o xs (I.base.g6 b o xs e),fun b ps e=>?_⟩,?_,fun x c e=>?_,?_,fun x c e=>?_,fun p hp=>?_,b9,I.len⟩
 ·exact keep b o (FW b o e) hb (x9 b o e hx) (I.base.keep b o e n hb hx) (I.base.free b o e n hx)
 ·obtain⟨sl,e1⟩:=I.base.slot b o e n hb hx;obtain⟨AU,e2⟩:=slot b _ (FW b o e) hb (x9 b o e hx) e1 (I.base.free b o e n hx);exact⟨AU,e2⟩
 ·obtain⟨o',e1⟩:=I.base.there b o e hx;exact free b o' (x9 b o e hx) e1 (I.base.free b o e n hx)
 ·obtain⟨o',e1⟩:=I.base.there b o e hx;exact there b o' (x9 b o e hx) e1
 ·obtain⟨m1,e1⟩:=I.base.ib b ps e;obtain⟨m2,e2⟩:=ib b _ e1;exact⟨m1++m2,by rw[e2,Array.append_assoc]⟩
 ·obtain⟨m,hn,hl⟩:=I.loc;refine⟨m,ns m hn,fun i x v e1 e2 e3=>?_⟩;obtain⟨u,r,l⟩:=hl i x v e1 e2 e3;refine⟨u,r,?_⟩;rcases l with l | ⟨k,c,e,z⟩
  ·exact .inl l
  ·exact .inr ⟨k,c,e,cellK x c e _ z⟩
 ·obtain⟨v,z⟩:=I.cell x c e;exact⟨v,cellK x c e v z⟩
 ·obtain⟨m,⟨o,_,_,ho,_⟩,_⟩:=I.loc;exact free _ o (fun z=>(jf _ z).2.1 rfl) ho I.free
 ·obtain⟨v,o,ho,hd⟩:=I.cell x c e;exact free c o (fun z=>(jf c z).2.2.1 x c e rfl) ho (I.eu x c e)
 ·obtain⟨e,n,ne,nf,d⟩:=I.pin p hp;have vx:p.1∉ch:=fun z=>(jf p.1 z).2.2.2 p hp rfl
  exact⟨keep p.1 p.2 ne nf vx e n,free p.1 p.2 vx e n,ne,nf,d⟩
theorem Inv.un{t':Nat}(I:Inv X pins σ H s)(u:Un X.fs [] H H' s.heap h')(b9:gk X.prog X.w H' h'):Inv X pins σ H' { s with heap:=h',toks:=t' }:=by
 obtain⟨m,⟨o,es,ep,ho,r⟩,_⟩:=id I.loc;obtain⟨sl,hL⟩:=u.any ho I.free (by simp)
 exact I.step (g':=s.gens) (d':=s.drawn) (ch:=[]) (fun _ z=>nomatch z) (fun b o _ hb _ e n=>u.keep b o e n hb (by simp)) (fun b o _ hb _ e n=>u.slot b o e n hb (by simp)) (fun b o _ e n=>u.free b o e n (by simp)) (fun b o _ e=>u.there b o e (by simp)) u.ia u.g6 u.ib (fun m' hm=>by
  obtain⟨o',sx,Cd,jW,r'⟩:=hm;rw[ho] at jW;cases jW;exact⟨_,sx,Cd,hL,r'⟩) b9 I.bare
theorem Inv.call{g':Array GenState}{t':Nat}{d':Drawn}{ch:List Addr}(I:Inv X pins σ H s)(u:Un (gQ X.stack) ch H H' s.heap h')(b9:gk X.prog X.w H' h')(hg:AllBare g')
  (jf:∀b∈ch,(b∈X.ex\/X.cY.heap.objs.size<=b)/\b≠X.env.locals/\(∀x c,X.env.cells.lookup x=some c->c≠b)/\∀p∈X.pn++pins,p.1≠b) :
  Inv X pins σ H' { s with heap:=h',gens:=g',drawn:=d',toks:=t' }:=by
 obtain⟨m,⟨o,es,ep,ho,r⟩,_⟩:=id I.loc;obtain⟨sl,hL⟩:=u.any ho I.free fun z=>(jf _ z).2.1 rfl
 exact I.step (ch:=ch) jf (fun b o hL hb hc e n=>u.keep b o e n (fun z=>(au.mp (I.kJ b z)).elim hL hb) hc) (fun b o _ _ hc e n=>u.any e n hc) (fun b o hc e n=>u.free b o e n hc) (fun b o hc e=>u.there b o e hc) u.ia u.g6 u.ib (fun m' hm=>by
  obtain⟨o',sx,Cd,jW,r'⟩:=hm;rw[ho] at jW;cases jW;exact⟨_,sx,Cd,hL,r'⟩) b9 hg
theorem Inv.turned{t':Nat}{it:Addr}(I:Inv X pins σ H s)(k:∀b o,b≠it->s.heap.get? b=some o->h'.get? b=some o)(hn:H it=none)(hL:it≠X.env.locals)
  (h1:it∈X.ex\/X.cY.heap.objs.size<=it) (h2:∀x c,X.env.cells.lookup x=some c->c≠it) (h3:∀p∈X.pn++pins,p.1≠it):Inv X pins σ H { s with heap:=h',toks:=t' }:=by
 have qr:∀b u,H b=some u->b≠it:=fun b u e z=>by rw[z,hn] at e;cases e
 refine I.step (g':=s.gens) (d':=s.drawn) (ch:=[it]) (fun b hb=>?_) (fun b o _ _ hc e _=>k b o (fun z=>hc (by simp[z])) e) (fun b o _ _ hc e _=>⟨o.slots,k b o (fun z=>hc (by simp[z])) e⟩) (fun _ _ _ _ n=>n)
  (fun b o hc e=>⟨o,k b o (fun z=>hc (by simp[z])) e⟩) (fun _ _ e=>e) (fun _ _ _ e=>e) (fun b ps e=>⟨#[],by rw[e];simp⟩) (fun m hm=>?_) (fun b u e=>?_) I.bare
 ·have e:b=it:=by simpa using hb
  subst e;exact⟨h1,hL,h2,h3⟩
 ·obtain⟨o,es,ep,ho,r⟩:=hm;exact⟨o,es,ep,k _ o (Ne.symm hL) ho,r⟩
 ·refine(I.b9 b u e).iy (fun c v hc q=>k c v ?_ q) (fun _ q=>q) fun _ _ q=>q
  rcases hc with z | z
  ·rw[z];exact qr b u e
  ·exact qr c _ z
theorem Inv.tok(I:Inv X pins σ H s)(t:Nat):Inv X pins σ H { s with toks:=t }:=I.un (h':=s.heap) (t':=t) Un.refl I.b9
theorem Inv.kept{t':Nat}(I:Inv X pins σ H s)(k:∀b u,s.heap.get? b=some u->h'.get? b=some u):Inv X pins σ H { s with heap:=h',toks:=t' }:=I.un (Un.kept k) (I.b9.kept k)
theorem Inv.laid{a:Addr}{o:HO}{t':Nat}(I:Inv X pins σ H s)(k:∀b u,s.heap.get? b=some u->h'.get? b=some u)(hp:s.heap.objs.size<=a)(new:cH X.prog X.w (upd H a o) h' a o) :
  Inv X pins σ (upd H a o) { s with heap:=h',toks:=t' }:=I.un (Un.laid k hp (I.b9.fresh hp)) (I.b9.laid k hp new)
theorem Inv.write{x e:Addr}{o:HO}{t':Nat}(I:Inv X pins σ H s)(mu:wF (H x))(he:e=x\/H e=some (.own x))(k:∀b u,b≠e->s.heap.get? b=some u->h'.get? b=some u)(tR:∃u,h'.get? e=some u)
  (new:cH X.prog X.w (upd H x o) h' x o):Inv X pins σ (upd H x o) { s with heap:=h',toks:=t' }:=I.un (Un.write mu he k tR) (I.b9.write mu he k tR new)
theorem Inv.lH{qo:List (Addr×Obj)}(I:Inv X pins σ H s)(h:∀p∈qo,s.heap.get? p.1=some p.2/\H p.1=none/\p.1≠X.env.locals/\p.1∉X.fs/\∀v,p.2.data≠.cell v):Inv X qo σ H s:=
 ⟨I.ok,I.os,I.bare,I.base,I.loc,I.cell,I.free,I.eu,fun p hp=>(aI.mp hp).elim (fun z=>I.pin p (bp _ z)) (h p),I.b9,I.len⟩
theorem zQ{N:List Str}(hN:N.Nodup){i j:Nat}{x:Str}(a:N[i]?=some x)(b:N[j]?=some x):i=j:=by
 obtain⟨h1,e1⟩:=ai.mp a;obtain⟨h2,e2⟩:=ai.mp b;exact(List.getElem_inj hN).mp (e1.trans e2.symm)
theorem EO{M:Model}{A:Around}{E:Value->Shared->Prop}{i:Nat}{x:Str}{v:V}{u:Value}{Q:Unit->Shared->Prop}(I:Inv X pins σ H s)(hN:X.N.Nodup)(hi:X.N[i]?=some x)(hx:Loc X.env.scope x)(r:RelV v u)
  (h:∀s',Inv X pins (σ.set i (some v)) H s'->(∃a,Heap.SameBut a s.heap s'.heap/\(a=X.env.locals\/X.env.cells.lookup x=some a))->Q () s') (hf:X.fn x=true\/X.env.scope.names.lookup x=some .local:=by first | exact .inl rfl | exact .inr rfl | assumption):wpAny M A (storeName X.env x u) Q E s:=by
 obtain⟨m,hn,hl⟩:=id I.loc;have n4:(X.env.scope.kind==.class||(X.env.scope.kind==.module&&X.env.locals != X.env.globals))=false:=by rw[I.ok.kind];rfl
 have vS:i<σ.length:=by rw[I.len];exact(ai.mp hi).1
 have oh:=I.oh;have tracked:∀{a:Addr} {h':Heap},(∃o,s.heap.get? a=some o/\H a=none)->Heap.SameBut a s.heap h'->gk X.prog X.w H h':=fun{a h'} ha hs b ob e=>by
  obtain⟨_,_,dm⟩:=ha;refine(I.b9 b ob e).iy (fun c w' hc q=>(hs.2 c ?_).trans q) (fun _ q=>q) fun _ _ q=>q
  rintro rfl;rcases hc with rfl | hc
  ·rw[dm] at e;cases e
  ·rw[dm] at hc;cases hc
 rcases hx with hk | hk
 ·refine wpAny_storeName_local hk hn (fun h' vL hs=>?_) n4;obtain⟨oL,_,_,rZ,_⟩:=id hn;refine h _ ⟨I.ok,I.os,I.bare,⟨fun b o e n hb hx=>?_,fun b o e n hb hx=>?_,I.base.free,fun b o e hx=>?_,I.base.ia,I.base.g6,I.base.ib⟩,⟨_,vL,fun j y v' e1 e2 e3=>?_⟩,fun y c e=>?_,I.free,I.eu,fun p hp=>?_,tracked ⟨oL,rZ,I.free⟩ hs,by simpa using I.len⟩ ⟨_,hs,.inl rfl⟩
  ·exact(hs.2 b (aT (aJ (aB e) I.ok.above))).trans (I.base.keep b o e n hb hx)
  ·obtain⟨sl,e1⟩:=I.base.slot b o e n hb hx;exact⟨sl,(hs.2 b (aT (aJ (aB e) I.ok.above))).trans e1⟩
  ·obtain⟨o',e1⟩:=I.base.there b o e hx;exact⟨o',(hs.2 b (aT (aJ (aB e) I.ok.above))).trans e1⟩
  ·by_cases hj:j=i
   ·subst hj;rw[hi] at e1;cases e1;rw[List.getElem?_set_self vS] at e2;cases e2;exact⟨u,r,.inl ⟨hk,by simp⟩⟩
   ·rw[List.getElem?_set_ne (Ne.symm hj)] at e2;obtain⟨u',r',q⟩:=hl j y v' e1 e2 e3;refine⟨u',r',?_⟩;rcases q with⟨k,e⟩ | ⟨k,c,e,z⟩
    ·refine .inl ⟨k,?_⟩;have:y≠x:=fun e=>hj (zQ hN e1 (e▸hi))
     simp[this,e]
    ·exact .inr ⟨k,c,e,z.sameBut hs (oh y c e)⟩
  ·obtain⟨w',z⟩:=I.cell y c e;exact⟨w',z.sameBut hs (oh y c e)⟩
  ·obtain⟨e,n,ne,nf,d⟩:=I.pin p hp;exact⟨(hs.2 p.1 ne).trans e,n,ne,nf,d⟩
 ·have BO:X.fn x=true:=by
   rcases hf with z | z
   ·exact z
   ·rw[z] at hk;cases hk
  obtain⟨c,hc⟩:=I.ok.has x (.inl hk);obtain⟨w',z⟩:=I.cell x c hc;refine wpAny_storeName_cell I.ok.kind hk hc z (fun h' n5 hs=>?_);obtain⟨oc,pE,BC⟩:=id z;refine h { s with heap:=h' } ⟨I.ok,I.os,I.bare,⟨fun b o e n hb hx=>?_,fun b o e n hb hx=>?_,I.base.free,fun b o e hx=>?_,I.base.ia,I.base.g6,I.base.ib⟩,⟨m,hn.sameBut hs (Ne.symm (oh x c hc)),fun j y v' e1 e2 e3=>?_⟩,fun y c' e=>?_,I.free,I.eu,fun p hp=>?_,tracked ⟨oc,pE,I.eu x c hc⟩ hs,by simpa using I.len⟩ ⟨c,hs,.inr hc⟩
  ·exact(hs.2 b (aT (aJ (aB e) (I.ok.cab x c BO hc)))).trans (I.base.keep b o e n hb hx)
  ·obtain⟨sl,e1⟩:=I.base.slot b o e n hb hx;exact⟨sl,(hs.2 b (aT (aJ (aB e) (I.ok.cab x c BO hc)))).trans e1⟩
  ·obtain⟨o',e1⟩:=I.base.there b o e hx;exact⟨o',(hs.2 b (aT (aJ (aB e) (I.ok.cab x c BO hc)))).trans e1⟩
  ·by_cases hj:j=i
   ·subst hj;rw[hi] at e1;cases e1;rw[List.getElem?_set_self vS] at e2;cases e2;exact⟨u,r,.inr ⟨.inl hk,c,hc,n5⟩⟩
   ·rw[List.getElem?_set_ne (Ne.symm hj)] at e2;obtain⟨u',r',q⟩:=hl j y v' e1 e2 e3;refine⟨u',r',?_⟩;rcases q with q | ⟨k,c',e,z'⟩
    ·exact .inl q
    ·refine .inr ⟨k,c',e,z'.sameBut hs ?_⟩;rintro rfl;exact hj (zQ hN e1 (I.ok.inj _ _ _ e hc▸hi))
  ·by_cases vZ:c'=c
   ·subst vZ;exact⟨_,n5⟩
   ·obtain⟨w2,z2⟩:=I.cell y c' e;exact⟨w2,z2.sameBut hs vZ⟩
  ·obtain⟨e,n,ne,nf,d⟩:=I.pin p hp;refine⟨(hs.2 p.1 ?_).trans e,n,ne,nf,d⟩;intro q;rw[q,pE] at e;have q':oc=p.2:=aU e;exact d w' (by rw[<-q'];exact BC)
theorem xF{M:Model}{A:Around}{E:Value->Shared->Prop}{i:Nat}{x:Str}{v:V}{u:Value}{Q:Unit->Shared->Prop}(I:Inv X pins σ H s)(hN:X.N.Nodup)(hi:X.N[i]?=some x)(hx:Loc X.env.scope x)(r:RelV v u)
  (h:∀s',Inv X pins (σ.set i (some v)) H s'->Q () s') (hf:X.fn x=true\/X.env.scope.names.lookup x=some .local:=by first | exact .inl rfl | exact .inr rfl | assumption):wpAny M A (storeName X.env x u) Q E s:=
 EO I hN hi hx r (fun s' I' _=>h s' I') hf
theorem Inv.wu{s':Shared}{ch:List Addr}(I:Inv X pins σ H s)(ho:s'.os=s.os)(u:Un (gQ X.stack) ch H H' s.heap s'.heap)(b9:gk X.prog X.w H' s'.heap)(hg:AllBare s'.gens)
  (jf:∀b∈ch,(b∈X.ex\/X.cY.heap.objs.size<=b)/\b≠X.env.locals/\(∀x c,X.env.cells.lookup x=some c->c≠b)/\∀p∈X.pn++pins,p.1≠b):Inv X pins σ H' s':=by
 obtain⟨h',g',d',t',o'⟩:=s';have e:o'=s.os:=ho;subst e;exact I.call (g':=g') (t':=t') (d':=d') u b9 hg jf
end
noncomputable abbrev XK:=Value->Option Addr->Hp->Prop
noncomputable abbrev St:=List (Option V)
noncomputable abbrev VK:=V->Hp->Prop
noncomputable abbrev TE:=St->Hp->VK->Prop
noncomputable abbrev TT:=St->Hp->(Bool->Hp->Prop)->Prop
noncomputable abbrev TA:=St->Hp->(List V->Hp->Prop)->Prop
structure Ends where
 nx:St->Hp->Prop
 rt:VK
 bk:St->Hp->Prop:=fun _ _=>False
 ct:St->Hp->Prop:=fun _ _=>False
noncomputable abbrev TS:=Ends->St->Hp->Prop
def EP(X:Cx)(pins:List (Addr×Obj))(σ:St)(Q:VK)(u:Value)(s':Shared):Prop:=∃v H',Inv X pins σ H' s'/\RelV v u/\Q v H'
def TP(X:Cx)(pins:List (Addr×Obj))(σ:St)(Q:Bool->Hp->Prop)(b:Bool)(s':Shared):Prop:=∃H',Inv X pins σ H' s'/\Q b H'
def AP(X:Cx)(pins:List (Addr×Obj))(σ:St)(Q:List V->Hp->Prop)(us:List Value)(s':Shared):Prop:=∃vs H',Inv X pins σ H' s'/\Vals vs us/\Q vs H'
def SP(X:Cx)(pins:List (Addr×Obj))(D:Ends)(f:Flow)(s':Shared):Prop:=
 match f with
 | .next=>∃bY H',Inv X pins bY H' s'/\D.nx bY H'
 | .brk=>∃bY H',Inv X pins bY H' s'/\D.bk bY H'
 | .cont=>∃bY H',Inv X pins bY H' s'/\D.ct bY H'
 | .ret u=>∃v bY H',Inv X pins bY H' s'/\RelV v u/\D.rt v H'
def PE(X:Cx)(e:Expr)(t:TE):Prop:=
 ∀(pins:List (Addr×Obj)) (s:Shared) (σ:St) (H:Hp) (Q:VK),Inv X pins σ H s->t σ H Q->wpAny (model X.prog X.w) X.A (eval e X.env) (EP X pins σ Q) X.xe s
def PT(X:Cx)(e:Expr)(t:TT):Prop:=
 ∀(pins:List (Addr×Obj)) (s:Shared) (σ:St) (H:Hp) (Q:Bool->Hp->Prop),Inv X pins σ H s->t σ H Q->wpAny (model X.prog X.w) X.A (isTrue e X.env (eval e X.env)) (TP X pins σ Q) X.xe s
def PW(X:Cx)(e:Expr)(t:TT):Prop:=
 ∀(whole:Sem Value) (pins:List (Addr×Obj)) (s:Shared) (σ:St) (H:Hp) (Q:Bool->Hp->Prop),Inv X pins σ H s->t σ H Q->wpAny (model X.prog X.w) X.A (isTrue e X.env whole) (TP X pins σ Q) X.xe s
theorem PW.pt{X:Cx}{e:Expr}{t:TT}(h:PW X e t):PT X e t:=h _
def PA(X:Cx)(es:List Expr)(t:TA):Prop:=
 ∀(pos:Pos) (pins:List (Addr×Obj)) (s:Shared) (σ:St) (H:Hp) (Q:List V->Hp->Prop),Inv X pins σ H s->t σ H Q->wpAny (model X.prog X.w) X.A (spliced (backTo pos (starEach es X.env))) (AP X pins σ Q) X.xe s
def PS(X:Cx)(st:Stmt)(t:TS):Prop:=
 ∀(pins:List (Addr×Obj)) (s:Shared) (σ:St) (H:Hp) (D:Ends),Inv X pins σ H s->t D σ H->wpAny (model X.prog X.w) X.A (exec st X.env) (SP X pins D) X.xe s
def kA(X:Cx)(st:List Stmt)(t:TS):Prop:=
 ∀(pins:List (Addr×Obj)) (s:Shared) (σ:St) (H:Hp) (D:Ends),Inv X pins σ H s->t D σ H->wpAny (model X.prog X.w) X.A (execs st X.env) (SP X pins D) X.xe s
theorem cy{α:Type}{t:Sem α}{Q Q':α->Shared->Prop}{M:Model}{A:Around}{E:Value->Shared->Prop}{s:Shared}(h:wpAny M A t Q E s)(hQ:∀a s,Q a s->Q' a s):wpAny M A t Q' E s:=bB h hQ fun _ _ x=>x
end L2
namespace L2
open PySem PySem.Spec PyProof.Rows
section
variable {X:Cx}
theorem bin{a b:Expr}{ta tb:TE}(ha:PE X a ta)(hb:PE X b tb){pins:List (Addr×Obj)}{s:Shared}{σ:St}{H:Hp}{R:V->V->Hp->Prop}(I:Inv X pins σ H s)(h:ta σ H fun x H1=>tb σ H1 fun y H2=>R x y H2)
  {α:Type} {Q:α->Shared->Prop} {f:Value->Value->Sem α}
  (hf:∀v u s2 x y H2,Inv X pins σ H2 s2->RelV x v->RelV y u->R x y H2->wpAny (model X.prog X.w) X.A (f v u) Q X.xe s2) :
  wpAny (model X.prog X.w) X.A (eval a X.env) (fun v bW=>wpAny (model X.prog X.w) X.A (eval b X.env) (fun u fD=>wpAny (model X.prog X.w) X.A (f v u) Q X.xe fD) X.xe bW) X.xe s:=by
 refine cy (ha pins s σ H _ I h) fun v s1 bQ=>?_
 obtain⟨x,H1,I1,r1,q1⟩:=bQ;refine cy (hb pins s1 σ H1 _ I1 q1) fun u s2 bQ=>?_
 obtain⟨y,H2,I2,r2,q2⟩:=bQ;exact hf v u s2 x y H2 I2 r1 r2 q2
def CI(i:Nat):TE:=fun σ H Q=>∃v,σ[i]?=some (some v)/\Q v H
def tC(v:V):TE:=fun _ H Q=>Q v H
theorem mU{i:Nat}{x:Str}{pos:Pos}(hN:X.N[i]?=some x)(hv:j2 X.env.scope x)(hd:(x==("__debug__":Str))=false:=by decide)(fK:(x==("__classdict__":Str))=false:=by decide):PE X (.Name x pos) (CI i):=by
 intro pins s σ H Q I h;obtain⟨v,e,h⟩:=h;obtain⟨m,hn,hl⟩:=I.loc;obtain⟨u,r,l⟩:=hl i x v hN e hv;have fin:EP X pins σ Q u s:=⟨v,H,I,r,h⟩
 rcases l with⟨hk,hm⟩ | ⟨hk,c,hc,qF⟩
 ·exact wpAny_Name (wpAny_loadName_local I.ok.kind hk hn hm fin) hd
 ·rcases hk with hk | hk
  ·exact wpAny_Name (wpAny_loadName_cell I.ok.kind hk hc qF fin) hd
  ·exact wpAny_Name (wpAny_loadName_free I.ok.kind hk hc qF fin fK) hd
theorem Kd{i j pos}:PE X (.Constant (.int i) j pos) (tC (.int i)):=fun _ _ _ H _ I h=>wpAny_Constant_int ⟨.int i,H,I.tok _,⟨_,rfl⟩,h⟩
theorem Ij{b j pos}:PE X (.Constant (.bool b) j pos) (tC (.bl b)):=fun _ _ _ H _ I h=>Constant_bool ⟨.bl b,H,I,rfl,h⟩
theorem Kc{j pos}:PE X (.Constant .none j pos) (tC .non):=fun _ _ _ H _ I h=>Constant_none ⟨.non,H,I,rfl,h⟩
theorem Kb{x j pos}:PE X (.Constant (.str x) j pos) (tC (.str x)):=fun _ _ _ H _ I h=>Calls.Constant_str ⟨.str x,H,I.tok _,⟨_,rfl⟩,h⟩
def Gl(X:Cx)(x:Str):Prop:=X.env.kindOf x=some .globalImplicit
theorem uG{E:Value->Shared->Prop}{pins:List (Addr×Obj)}{s:Shared}{σ:St}{H:Hp}{x:Str}{u:Value}{pos:Pos}{Q:Value->Shared->Prop}(I:Inv X pins σ H s)(hg:Gl X x)(hm:X.mg x=some u)(h:Q u s)
  (hd:(x==("__debug__":Str))=false:=by decide):wpAny (model X.prog X.w) X.A (eval (.Name x pos) X.env) Q E s:=
 Calls.Name_function_global I.ok.kind hg (Calls.loadGlobal_global (by rw[I.ok.glob];exact I.mod.glob.keeps I.bk) hm h) hd
theorem tf{E:Value->Shared->Prop}{pins:List (Addr×Obj)}{s:Shared}{σ:St}{H:Hp}{x:Str}{u:Value}{pos:Pos}{Q:Value->Shared->Prop}(I:Inv X pins σ H s)(hg:Gl X x)(hm:X.mg x=none)(hv:bootBuiltins x=some u)(h:Q u s)
  (hn:x≠"__name__":=by decide) (hd:(x==("__debug__":Str))=false:=by decide):wpAny (model X.prog X.w) X.A (eval (.Name x pos) X.env) Q E s:=by
 obtain⟨mb,h1,h2⟩:=I.mod.blt;exact Calls.Name_function_global I.ok.kind hg (Calls.loadGlobal_builtin (by rw[I.ok.glob];exact I.mod.glob.keeps I.bk) hm (by rw[I.ok.blt];exact h1.keeps I.bk) ((h2 x hn).trans hv) h) hd
theorem zx{x:Str}{v:V}{u:Value}{pos:Pos}(hg:Gl X x)(hm:X.mg x=some u)(r:RelV v u)(hd:(x==("__debug__":Str))=false:=by decide):PE X (.Name x pos) (tC v):=
 fun _ _ _ H _ I h=>uG I hg hm ⟨v,H,I,r,h⟩ hd
theorem Et{x:Str}{v:V}{u:Value}{pos:Pos}(hg:Gl X x)(hm:X.mg x=none)(hv:bootBuiltins x=some u)(r:RelV v u)(hn:x≠"__name__":=by decide)(hd:(x==("__debug__":Str))=false:=by decide):PE X (.Name x pos) (tC v):=
 fun _ _ _ H _ I h=>tf I hg hm hv ⟨v,H,I,r,h⟩ hn hd
variable {a b:Expr} {ta tb:TE} {pos:Pos}
def PC(X:Cx)(op:CmpOp)(a b:Expr)(t:TE):Prop:=
 ∀(pins:List (Addr×Obj)) (s:Shared) (σ:St) (H:Hp) (Q:VK),Inv X pins σ H s->t σ H Q->
  wpAny (model X.prog X.w) X.A (eval a X.env) (fun v bW=>wpAny (model X.prog X.w) X.A (eval b X.env) (fun u fD=>wpAny (model X.prog X.w) X.A (compareOp op v u) (EP X pins σ Q) X.xe fD) X.xe bW) X.xe s
theorem LY(b:Expr){op:CmpOp}(h:op≠.In)(h2:op≠.NotIn):behindInMarks op b=false:=by
 have e1:(op==CmpOp.In)=false:=by cases op<;>first | rfl | exact absurd rfl h
 have e2:(op==CmpOp.NotIn)=false:=by cases op<;>first | rfl | exact absurd rfl h2
 cases b<;>simp[behindInMarks,e1,e2]
def tB(t:TE):TT:=fun σ H Q=>t σ H fun x H1=>∃c,x=.bl c/\Q c H1
theorem Rg{op:CmpOp}{t:TE}(h:PC X op a b t)(h1:behindInMarks op b=false:=by first | exact LY _ (by decide) (by decide) | rfl):PT X (.Compare a [op] [b] pos) (tB t):=by
 intro pins s σ H Q I hw;refine wpAny_isTrue_Compare1 (cy (h pins s σ H _ I hw) fun v s1 h1=>cy h1 fun u s2 h2=>cy h2 fun c s3 bQ=>?_) h1;obtain⟨x,H1,I1,r1,q1⟩:=bQ;obtain⟨d,rfl,q⟩:=q1;cases r1;exact bg ⟨H1,I1,q⟩
theorem Ka{e:Expr}{t:TE}(h:PE X e t)(he:∀whole,isTrue e X.env whole=(do let v <-whole;standAt e.pos;holding [v] (truthy v)):=by intro _;rfl):PT X e (tB t):=by
 intro pins s σ H Q I hw;refine isTrue_plain (cy (h pins s σ H _ I hw) fun v s1 bQ=>?_) (he _);obtain⟨x,H1,I1,r1,q1⟩:=bQ;obtain⟨d,rfl,q⟩:=q1;cases r1;exact bg ⟨H1,I1,q⟩
variable {tA xR:TT} {iM:List Expr}
def Ho(t u:TT):TT:=fun σ H Q=>t σ H fun c H1=>if c=true then u σ H1 Q else Q false H1
def OG(t u:TT):TT:=fun σ H Q=>t σ H fun c H1=>if c=true then Q true H1 else u σ H1 Q
def Hn(t:TT):TT:=fun σ H Q=>t σ H fun c H1=>Q (!c) H1
theorem Kx(ha:PT X a tA):PW X (.BoolOp .And [a] pos) tA:=by
 intro wh pins s σ H Q I h;refine isTrue_and (cy (ha pins s σ H Q I h) fun c s1 e=>?_);cases c with
 | true=>exact isTrue_and_nil e
 | false=>exact e
theorem J9(ha:PT X a tA):PW X (.BoolOp .Or [a] pos) tA:=by
 intro wh pins s σ H Q I h;refine isTrue_or (cy (ha pins s σ H Q I h) fun c s1 e=>?_);cases c with
 | false=>exact isTrue_or_nil e
 | true=>exact e
theorem J8(ha:PT X a tA)(hb:PW X (.BoolOp .And (b::iM) pos) xR):PW X (.BoolOp .And (a::b::iM) pos) (Ho tA xR):=by
 intro wh pins s σ H Q I h;refine isTrue_and (cy (ha pins s σ H _ I h) fun c s1 bQ=>?_);obtain⟨H1,I1,q1⟩:=bQ;cases c with
 | true=>exact hb wh pins s1 σ H1 Q I1 q1
 | false=>exact⟨H1,I1,q1⟩
theorem Ii(ha:PT X a tA)(hb:PW X (.BoolOp .Or (b::iM) pos) xR):PW X (.BoolOp .Or (a::b::iM) pos) (OG tA xR):=by
 intro wh pins s σ H Q I h;refine isTrue_or (cy (ha pins s σ H _ I h) fun c s1 bQ=>?_);obtain⟨H1,I1,q1⟩:=bQ;cases c with
 | true=>exact⟨H1,I1,q1⟩
 | false=>exact hb wh pins s1 σ H1 Q I1 q1
theorem J7(ha:PT X a tA):PT X (.UnaryOp .Not a pos) (Hn tA):=by
 intro pins s σ H Q I h;exact isTrue_not (ha pins s σ H (fun c H1=>Q (!c) H1) I h)
def Ih(ta tb:TE):TE:=fun σ H Q=>ta σ H fun x H1=>∃c,x=.bl c/\if c=true then tb σ H1 Q else Q (.bl false) H1
def Ig(ta:TE):TE:=fun σ H Q=>ta σ H fun x H1=>∃c,x=.bl c/\Q (.bl (!c)) H1
theorem J6{op}{t:TE}(h:PE X a t):PE X (.BoolOp op [a] pos) t:=fun pins s σ H Q I hw=>BoolOp_one (h pins s σ H Q I hw)
theorem IQ(ha:PE X a ta)(hb:PE X (.BoolOp .And (b::iM) pos) tb):PE X (.BoolOp .And (a::b::iM) pos) (Ih ta tb):=by
 intro pins s σ H Q I h;refine BoolOp_and (cy (ha pins s σ H _ I h) fun v s1 bQ=>?_);obtain⟨x,H1,I1,r1,q1⟩:=bQ;obtain⟨c,rfl,q1⟩:=q1;cases r1;refine bg ?_;cases c with
 | true=>exact hb pins s1 σ H1 Q I1 q1
 | false=>exact⟨.bl false,H1,I1,rfl,q1⟩
theorem IP(ha:PE X a ta):PE X (.UnaryOp .Not a pos) (Ig ta):=by
 intro pins s σ H Q I h;refine UnaryOp_ (cy (ha pins s σ H _ I h) fun v s1 bQ=>?_);obtain⟨x,H1,I1,r1,q1⟩:=bQ;obtain⟨c,rfl,q1⟩:=q1;cases r1;exact not_of (bg ⟨.bl (!c),H1,I1,rfl,q1⟩)
end
end L2
namespace L2
open PySem PySem.Spec PyProof.Rows
def eW(K:PySem.W.Frag)(H:Hp)(a:Addr)(xs:List V):Prop:=
 Rd H a (.lst xs)\/
  ∃(o:Obj) (its:Array Value) (n:Nat),K.lookup a=some o/\o.cls=.type "list"/\o.dict=none/\o.data=.seq its n/\its.size<=sizeLine/\Vals xs its.toList
def et(K:PySem.W.Frag)(H:Hp)(a:Addr)(xs:List V):Prop:=
 Rd H a (.tup xs)\/
  ∃(o:Obj) (its:Array Value) (n:Nat),K.lookup a=some o/\o.cls=.type "tuple"/\o.data=.seq its n/\its.size<=sizeLine/\Vals xs its.toList
noncomputable def Hm:Value->Option V
 | .none=>some .non
 | .bool b=>some (.bl b)
 | .int i _=>some (.int i)
 | .str x _=>some (.str x)
 | .bytes b _=>some (.Cg b)
 | .float b _=>some (.B9 b)
 | .ref a=>some (.ref a)
 | .type n=>some (.ty n)
 | _=>none
theorem RelV.abs{x:V}{u:Value}(r:RelV x u):Hm u=some x:=by
 cases x with
 | non=>cases r;rfl
 | bl _=>cases r;rfl
 | int _=>obtain⟨t,rfl⟩:=r;rfl
 | str _=>obtain⟨t,rfl⟩:=r;rfl
 | Cg _=>obtain⟨t,rfl⟩:=r;rfl
 | B9 _=>obtain⟨t,rfl⟩:=r;rfl
 | ref _=>cases r;rfl
 | ty _=>cases r;rfl
theorem RelV.inj{x y:V}{u:Value}(r:RelV x u)(q:RelV y u):x=y:=aU (r.abs.symm.trans q.abs)
theorem Vals.inj:∀{xs ys:List V} {us:List Value},Vals xs us->Vals ys us->xs=ys
 | _,_,_,.nil,.nil=>rfl
 | _,_,_,.cons r t,.cons r' t'=>by rw[r.inj r',Vals.inj t t']
section
variable {X:Cx} {pins:List (Addr×Obj)} {σ:St} {H:Hp} {s:Shared} {a:Addr} {xs ys:List V}
theorem eW.of{K:PySem.W.Frag}(h:H a=some (.lst xs)):eW K H a xs:=.inl (.inl h)
theorem et.of{K:PySem.W.Frag}(h:H a=some (.tup xs)):et K H a xs:=.inl (.inl h)
theorem Inv.list(I:Inv X pins σ H s)(h:eW X.K H a xs):∃its:List Value,Vals xs its/\PlainL s.heap a its.toArray/\xs.length<=sizeLine:=by
 rcases h with h | ⟨o,its,n,hk,hc,hd,hs,hz,r⟩
 ·obtain⟨z,its,n,r,e⟩:=h.ok I.b9;exact⟨its,r,⟨_,n,e,rfl,rfl,rfl⟩,z⟩
 ·refine⟨its.toList,r,⟨o,n,I.jU a o hk,hc,hd,by simpa using hs⟩,?_⟩;have e:=r.length;simp only[aM] at e;omega
theorem Inv.tuple(I:Inv X pins σ H s)(h:et X.K H a xs):∃its:List Value,Vals xs its/\IsTup s.heap a its.toArray/\xs.length<=sizeLine:=by
 rcases h with h | ⟨o,its,n,hk,hc,hs,hz,r⟩
 ·obtain⟨z,its,r,p⟩:=h.ok I.b9;exact⟨its,r,p,z⟩
 ·refine⟨its.toList,r,⟨o,I.jU a o hk,hc,n,by simpa using hs⟩,?_⟩;have e:=r.length;simp only[aM] at e;omega
theorem Inv.iC(I:Inv X pins σ H s)(h:eW X.K H a xs)(h':eW X.K H a ys):xs=ys:=by
 obtain⟨its,r,⟨o,n,e,_,_,d⟩,_⟩:=I.list h;obtain⟨its',r',⟨o',n',e',_,_,d'⟩,_⟩:=I.list h';rw[e] at e';cases e';rw[d] at d';injection d' with d1 _
 have:its=its':=by simpa using congrArg Array.toList d1
 subst this;exact r.inj r'
theorem Inv.jb(I:Inv X pins σ H s)(h:et X.K H a xs)(h':et X.K H a ys):xs=ys:=by
 obtain⟨its,r,⟨o,e,_,n,d⟩,_⟩:=I.tuple h;obtain⟨its',r',⟨o',e',_,n',d'⟩,_⟩:=I.tuple h';rw[e] at e';cases e';rw[d] at d';injection d' with d1 _
 have:its=its':=by simpa using congrArg Array.toList d1
 subst this;exact r.inj r'
end
noncomputable abbrev Cx.iW(X:Cx)(E:Value->Shared->Prop):Cx:={ X with xe:=E }
noncomputable abbrev Cx.qp(X:Cx):Cx:=X.iW fun _ _=>False
theorem Cx.Ok.iW{X:Cx}(ok:X.Ok)(E:Value->Shared->Prop):(X.iW E).Ok:=
 ⟨ok.mod,ok.kind,ok.glob,ok.blt,ok.above,ok.inj,ok.has,ok.cab,ok.hd,ok.frames,ok.vo,ok.exf,ok.bs,ok.qJ,ok.mn,ok.mE,ok.fG,ok.oU⟩
theorem Cx.Ok.fB{X:Cx}{E:Value->Shared->Prop}(ok:(X.iW E).Ok):X.Ok:=
 ⟨ok.mod,ok.kind,ok.glob,ok.blt,ok.above,ok.inj,ok.has,ok.cab,ok.hd,ok.frames,ok.vo,ok.exf,ok.bs,ok.qJ,ok.mn,ok.mE,ok.fG,ok.oU⟩
section
variable {X:Cx} {pins:List (Addr×Obj)} {σ:St} {H:Hp} {s:Shared} {E:Value->Shared->Prop}
theorem Inv.iW(I:Inv X pins σ H s)(E:Value->Shared->Prop):Inv (X.iW E) pins σ H s:=⟨I.ok.iW E,I.os,I.bare,I.base,I.loc,I.cell,I.free,I.eu,I.pin,I.b9,I.len⟩
theorem Inv.fB(I:Inv (X.iW E) pins σ H s):Inv X pins σ H s:=⟨I.ok.fB,I.os,I.bare,I.base,I.loc,I.cell,I.free,I.eu,I.pin,I.b9,I.len⟩
theorem SP.fB{D:Ends}{f:Flow}{s':Shared}(h:SP (X.iW E) pins D f s'):SP X pins D f s':=by
 cases f with
 | next=>obtain⟨bY,H',I,q⟩:=h;exact⟨bY,H',I.fB,q⟩
 | brk=>obtain⟨bY,H',I,q⟩:=h;exact⟨bY,H',I.fB,q⟩
 | cont=>obtain⟨bY,H',I,q⟩:=h;exact⟨bY,H',I.fB,q⟩
 | ret u=>obtain⟨v,bY,H',I,r,q⟩:=h;exact⟨v,bY,H',I.fB,r,q⟩
theorem kA.qp{st:List Stmt}{t:TS}(h:kA X.qp st t):kA X st t:=fun pins s σ H D I hw=>
 bB (h pins s σ H D (I.iW _) hw) (fun _ _ q=>q.fB) fun _ _ z=>False.elim z
end
section
variable {X:Cx} {st:Stmt} {iM:List Stmt} {t u:TS} {e:Expr} {te:TE} {pos:Pos}
def Ie:TS:=fun D σ H=>D.nx σ H
def Hl(t u:TS):TS:=fun D σ H=>t { D with nx:=u D } σ H
theorem Kw:kA X [] Ie:=fun _ _ σ H _ I h=>wpAny_execs_nil ⟨σ,H,I,h⟩
theorem EE(h1:PS X st t)(h2:kA X iM u):kA X (st::iM) (Hl t u):=by
 intro pins s σ H D I h;refine wpAny_execs_cons (cy (h1 pins s σ H { D with nx:=u D } I h) fun f s1 q=>?_);cases f with
 | next=>
  obtain⟨bY,H',I',q⟩:=q;exact h2 pins s1 bY H' D I' q
 | ret v=>exact q
 | brk=>exact q
 | cont=>exact q
theorem zu(h1:PS X st t):kA X [st] t:=by
 intro pins s σ H D I h;refine wpAny_execs_cons (cy (h1 pins s σ H D I h) fun f s1 q=>?_);cases f with
 | next=>exact wpAny_execs_nil q
 | ret v=>exact q
 | brk=>exact q
 | cont=>exact q
theorem Inv.quiet{pins:List (Addr×Obj)}{σ:St}{H:Hp}{s:Shared}(I:Inv X pins σ H s):interactive X.env=false:=by simp[interactive,I.ok.kind]
def Ic(te:TE):TS:=fun D σ H=>te σ H fun _ H1=>D.nx σ H1
theorem xw(he:PE X e te)(hs:swapsWith e none pos.line X.env=pure false:=by rfl):PS X (.Expr e pos) (Ic te):=by
 intro pins s σ H D I h;exact wpAny_Expr_any (cy (he pins s σ H _ I h) fun v s1 bQ=>by obtain⟨x,H1,I1,r1,q1⟩:=bQ;exact⟨σ,H1,I1,q1⟩) I.quiet hs
def Hj(te:TE):TS:=fun D σ H=>te σ H D.rt
theorem zk(he:PE X e te):PS X (.Return (some e) pos) (Hj te):=by
 intro pins s σ H D I h;exact wpAny_Return_some (cy (he pins s σ H _ I h) fun v s1 bQ=>by obtain⟨x,H1,I1,r1,q1⟩:=bQ;exact⟨x,σ,H1,I1,r1,q1⟩)
def Hi(c:TT)(t u:TS):TS:=fun D σ H=>c σ H fun b H1=>if b=true then t D σ H1 else u D σ H1
theorem C5{c:Expr}{a b:List Stmt}{tc:TT}(hc:PT X c tc)(ha:kA X a t)(hb:kA X b u):PS X (.If c a b pos) (Hi tc t u):=by
 intro pins s σ H D I h;refine wpAny_If (cy (hc pins s σ H _ I h) fun d s1 bQ=>?_);obtain⟨H1,I1,q1⟩:=bQ;cases d with
 | true=>exact ha pins s1 σ H1 D I1 q1
 | false=>exact hb pins s1 σ H1 D I1 q1
end
noncomputable abbrev TG:=V->St->Hp->(St->Hp->Prop)->Prop
noncomputable abbrev sF:=List V->St->Hp->(St->Hp->Prop)->Prop
def PG(X:Cx)(target:Expr)(t:TG):Prop:=
 ∀(pins:List (Addr×Obj)) (s:Shared) (σ:St) (H:Hp) (v:V) (u:Value) (Q:St->Hp->Prop),Inv X pins σ H s->RelV v u->t v σ H Q->
  wpAny (model X.prog X.w) X.A (assign target X.env u) (fun _ s'=>∃bY H',Inv X pins bY H' s'/\Q bY H') X.xe s
def wD(X:Cx)(ts:List Expr)(t:sF):Prop:=
 ∀(pins:List (Addr×Obj)) (s:Shared) (σ:St) (H:Hp) (vs:List V) (us:List Value) (Q:St->Hp->Prop),Inv X pins σ H s->Vals vs us->t vs σ H Q->
  wpAny (model X.prog X.w) X.A (assignInOrder ((assignEach ts X.env).map (·.2)) us) (fun _ s'=>∃bY H',Inv X pins bY H' s'/\Q bY H') X.xe s
noncomputable abbrev yD:=V->V->V->Hp->(Hp->Prop)->Prop
def CH(X:Cx)(t:yD):Prop:=
 ∀(pins:List (Addr×Obj)) (s:Shared) (σ:St) (H:Hp) (o i v:V) (ov iv u:Value) (Q:Hp->Prop),Inv X pins σ H s->RelV o ov->RelV i iv->RelV v u->t o i v H Q->
  wpAny (model X.prog X.w) X.A (setItem ov iv u) (fun _ s'=>∃H',Inv X pins σ H' s'/\Q H') X.xe s
section
variable {X:Cx} {pos:Pos}
def xa(i:Nat):TG:=fun v σ H Q=>Q (σ.set i (some v)) H
theorem Kv{i:Nat}{x:Str}(hN:X.N.Nodup)(hi:X.N[i]?=some x)(hx:Loc X.env.scope x)(hf:X.fn x=true\/X.env.scope.names.lookup x=some .local:=by first | exact .inl rfl | exact .inr rfl | assumption):PG X (.Name x pos) (xa i):=by
 intro pins s σ H v u Q I r h;exact wpAny_assign_Name (xF I hN hi hx r (fun s' I'=>⟨_,H,I',h⟩) hf)
noncomputable def Hh:sF:=fun vs σ H Q=>vs=[]/\Q σ H
noncomputable def Ib(t:TG)(u:sF):sF:=fun vs σ H Q=>∃v r,vs=v::r/\t v σ H fun bY H'=>u r bY H' Q
theorem Ku:wD X [] Hh:=by
 intro pins s σ H vs us Q I r h;obtain⟨e,h⟩:=h;subst e;cases r;exact assignInOrder_nil ⟨σ,H,I,h⟩
theorem LX{e:Expr}{es:List Expr}{t:TG}{u:sF}(h1:PG X e t)(h2:wD X es u)
  (hs:(assignEach (e::es) X.env).map (·.2)=assign e X.env::(assignEach es X.env).map (·.2):=by rfl):wD X (e::es) (Ib t u):=by
 intro pins s σ H vs us Q I r h;obtain⟨v,vr,e1,h⟩:=h;subst e1;cases r with
 | cons r rr=>
  rw[hs];refine assignInOrder_cons (cy (h1 pins s σ H _ _ _ I r h) fun _ s1 bQ=>?_);obtain⟨sJ,H1,I1,q1⟩:=bQ;exact h2 pins s1 sJ H1 _ _ Q I1 rr q1
def Hg(K:PySem.W.Frag)(n:Nat)(t:sF):TG:=fun v σ H Q=>∃a xs,v=.ref a/\et K H a xs/\xs.length=n/\t xs σ H Q
theorem IM{es:List Expr}{k:Nat}{t:sF}{n:Nat}(hc:X.calm=true)(h:wD X es t)
  (hn:(assignEach es X.env).length=n:=by rfl) (fE:(assignEach es X.env).findIdx? (·.1)=none:=by rfl):PG X (.Tuple es k pos) (Hg X.K n t):=by
 intro pins s σ H v u Q I r hw;obtain⟨a,xs,e1,hq,hl,hw⟩:=hw;subst e1;cases r;obtain⟨its,rv,ht,hz⟩:=I.tuple hq;refine assign_Tuple_tuple (I.ok.hd hc) ht (by simp[hn,<-hl,rv.length]) fE fun h' hx=>?_
 have I1:Inv X pins σ H { s with heap:=h' }:=I.kept (t':=s.toks) fun b o e=>hx b o (aT (aB e)) e
 exact h pins _ σ H xs _ Q I1 (by simpa using rv) hw
def Hf(to ti:TE)(t:yD):TG:=fun v σ H Q=>to σ H fun o H1=>ti σ H1 fun i H2=>t o i v H2 fun H3=>Q σ H3
theorem IL{o i:Expr}{to ti:TE}{t:yD}(ho:PE X o to)(hi:PE X i ti)(hs:CH X t)
  (ha:∀v,assign (.Subscript o i pos) X.env v=(do
   let ov <-holding [v] (eval o X.env)
   let iv <-holding [v,ov] (eval i X.env)
   standAt pos
   holding [v,ov,iv] (setItem ov iv v)
   release [v,ov,iv] []):=by intro _;rfl):PG X (.Subscript o i pos) (Hf to ti t):=by
 intro pins s σ H v u Q I r h;rw[ha];refine aa (wpAny_holding (cy (ho pins s σ H _ I h) fun ov s1 bQ=>?_));obtain⟨x,H1,I1,r1,q1⟩:=bQ;refine aa (wpAny_holding (cy (hi pins s1 σ H1 _ I1 q1) fun iv s2 bQ=>?_));obtain⟨y,H2,I2,r2,q2⟩:=bQ;refine aa (wpAny_standAt (aa (wpAny_holding (cy (hs pins s2 σ H2 x y v ov iv u _ I2 r1 r2 r q2) fun _ s3 bQ=>?_))));obtain⟨H3,I3,q3⟩:=bQ;exact wpAny_release ⟨σ,H3,I3,q3⟩
def wV(te:TE)(g:TG):TS:=fun D σ H=>te σ H fun x H1=>g x σ H1 D.nx
theorem IK{tg e:Expr}{te:TE}{g:TG}(he:PE X e te)(hg:PG X tg g)(hs:swapsWithSole [tg] e pos.line X.env=pure false:=by rfl)(hw:swappedStores [tg] e X.env=pure none:=by rfl)
  (h1:(assignEach [tg] X.env).map (·.2)=[assign tg X.env]:=by rfl):PS X (.Assign [tg] e pos) (wV te g):=by
 intro pins s σ H D I h;refine wpAny_Assign_stores (cy (he pins s σ H _ I h) fun v s1 bQ=>?_) hs hw;obtain⟨x,H1,I1,r1,q1⟩:=bQ;rw[h1];exact cy (hg pins s1 σ H1 x v _ I1 r1 q1) fun _ s2 q=>q
theorem xl{i:Nat}{x:Str}{e:Expr}{te:TE}{pos':Pos}(hN:X.N.Nodup)(hi:X.N[i]?=some x)(hx:Loc X.env.scope x)(he:PE X e te)(hs:swapsWith e (some (.Name x pos')) pos.line X.env=pure false:=by rfl)(hf:X.fn x=true\/X.env.scope.names.lookup x=some .local:=by first | exact .inl rfl | exact .inr rfl | assumption) :
  PS X (.Assign [.Name x pos'] e pos) (wV te (xa i)):=by
 intro pins s σ H D I h;refine wpAny_Assign_Name (cy (he pins s σ H _ I h) fun v s1 bQ=>?_) hs;obtain⟨y,H1,I1,r1,q1⟩:=bQ;exact xF I1 hN hi hx r1 (fun s2 I2=>⟨_,H1,I2,q1⟩) hf
end
section
variable {X:Cx} {pos:Pos}
def IJ(c:TT)(tb:TS):TS:=fun D σ H=>∃W:Nat->St->Hp->Prop,(∃m,W m σ H)/\∀m σ H,W m σ H->
 c σ H fun b H1=>if b=true then ∃N:St->Hp->Prop,(∀bY H',N bY H'->∃m',m'<m/\W m' bY H')/\tb { D with nx:=N,ct:=N,bk:=D.nx } σ H1 else D.nx σ H1
theorem Me{c:Expr}{body:List Stmt}{tc:TT}{tb:TS}(hp:PassesOwn (model X.prog X.w) X.A X.env X.xe)(hc:PT X c tc)(hb:kA X body tb):PS X (.While c body [] pos) (IJ tc tb):=by
 intro pins s σ H D I h;obtain⟨W,⟨m0,w0⟩,turn⟩:=h;refine wpAny_While (codeAny_whileLoop (fun n s'=>∃bY H',Inv X pins bY H' s'/\W n bY H') ?_ m0 ⟨σ,H,I,w0⟩);rintro n s1 ⟨sJ,H1,I1,w1⟩;refine wpAny_passesOwn hp (cy (hc pins s1 sJ H1 _ I1 (turn n sJ H1 w1)) fun b s2 bQ=>?_);obtain⟨H2,I2,q2⟩:=bQ;cases b with
 | true=>
  obtain⟨N,hN,q2⟩:=q2;rw[if_pos rfl];refine wpAny_passesOwn hp (cy (hb pins s2 sJ H2 _ I2 q2) fun f s3 q3=>?_);cases f with
  | next=>
   obtain⟨jh,H3,I3,n3⟩:=q3;obtain⟨m',hm,w3⟩:=hN jh H3 n3;exact⟨m',hm,jh,H3,I3,w3⟩
  | cont=>
   obtain⟨jh,H3,I3,n3⟩:=q3;obtain⟨m',hm,w3⟩:=hN jh H3 n3;exact⟨m',hm,jh,H3,I3,w3⟩
  | brk=>exact q3
  | ret v=>exact q3
 | false=>
  rw[if_neg ax];exact wpAny_execs_nil ⟨sJ,H2,I2,q2⟩
end
structure It where
 go:Nat->Hp->Prop
 xO:Nat->Hp->V->Hp->Prop
 stop:Nat->Hp->Prop
def ip(X:Cx)(pins:List (Addr×Obj))(H:Hp)(b:Addr):Prop:=
 H b=none/\b≠X.env.locals/\b∉X.fs/\(b∈X.ex\/X.cY.heap.objs.size<=b)/\(∀x c,X.env.cells.lookup x=some c->c≠b)/\∀p∈X.pn++pins,p.1≠b
theorem Inv.iZ{X:Cx}{pins:List (Addr×Obj)}{σ:St}{H H':Hp}{s:Shared}{b:Addr}(I:Inv X pins σ H s)(hb:s.heap.objs.size<=b)(hn:H' b=none):ip X pins H' b:=by
 refine⟨hn,Nat.ne_of_gt (aJ I.lt hb),I.Bc hb,.inr (aR I.sz hb),fun x c e z=>?_,fun p hp z=>?_⟩
 ·obtain⟨v,q⟩:=I.cell x c e;exact absurd (aJ q.lt (by rw[z];exact hb)) (Nat.lt_irrefl _)
 ·exact absurd (aJ (aB (I.pin p hp).1) (by rw[z];exact hb)) (Nat.lt_irrefl _)
structure Turn (P:Program) (w:World) (K:PySem.W.Frag) (tg:Expr) (J:It) (fp:List Addr) (it:Addr) (tn:Nat->Heap->Prop):Prop where
 mem:it∈fp
 obj:∀i h,tn i h->∀b∈fp,∃o,h.get? b=some o/\∀v,o.data≠.cell v
 keep:∀i h h',tn i h->(∀b∈fp,∀o,h.get? b=some o->h'.get? b=some o)->tn i h'
 item:∀(X:Cx),X.prog=P->X.w=w->X.K=K->X.calm=true->∀(i:Nat) (pins:List (Addr×Obj)) (s:Shared) (σ:St) (H:Hp) (E:Value->Shared->Prop),Inv X pins σ H s->(∀b∈fp,ip X pins H b)->tn i s.heap->J.go i H->
  wpAny (model P w) X.A (pyNext (.ref it)) (fun r s1=>∃u,r=some u/\
   wpAny (model P w) X.A (letOwnedTupleGo tg (.ref it) u) (fun _ s2=>∃x H',Inv X pins σ H' s2/\RelV x u/\J.xO i H x H'/\tn (i+1) s2.heap/\∀b∈fp,H' b=none) E s1) E s
 done:∀(X:Cx),X.prog=P->X.w=w->X.K=K->X.calm=true->∀(i:Nat) (pins:List (Addr×Obj)) (s:Shared) (σ:St) (H:Hp) (E:Value->Shared->Prop),Inv X pins σ H s->(∀b∈fp,ip X pins H b)->tn i s.heap->J.stop i H->
  wpAny (model P w) X.A (pyNext (.ref it)) (fun r s1=>r=none/\Inv X pins σ H s1) E s
 self:∀(A:Around) (i:Nat) (s:Shared) (Q:Value->Shared->Prop) (E:Value->Shared->Prop),tn i s.heap->Q (.ref it) s->wpAny (model P w) A (pyIter (.ref it)) Q E s
noncomputable abbrev TI:=St->Hp->(It->Hp->Prop)->Prop
def wC(X:Cx)(pins:List (Addr×Obj))(σ:St)(tg:Expr)(R:It->Hp->Prop)(Bg:Value)(s2:Shared):Prop:=
 ∃(it:Addr) (fp:List Addr) (tn:Nat->Heap->Prop) (J:It) (H':Hp),Bg=.ref it/\Inv X pins σ H' s2/\Turn X.prog X.w X.K tg J fp it tn/\tn 0 s2.heap/\(∀b∈fp,ip X pins H' b)/\R J H'
def PI(X:Cx)(tg iter:Expr)(wi:TI):Prop:=
 ∀(pins:List (Addr×Obj)) (s:Shared) (σ:St) (H:Hp) (R:It->Hp->Prop),Inv X pins σ H s->wi σ H R->
  wpAny (model X.prog X.w) X.A (eval iter X.env) (fun v s1=>wpAny (model X.prog X.w) X.A (pyIter v) (wC X pins σ tg R) X.xe s1) X.xe s
theorem qY{M:Model}{A:Around}{E:Value->Shared->Prop}{s:Shared}{tg:Expr}{it:Addr}{u:Value}{o:Obj}{n:String}{vs:Array Value}{Q:Unit->Shared->Prop}(ho:s.heap.get? it=some o)(hc:o.cls=.type n)(hd:o.data=.fields vs)
  (hn:["enumerate","zip","dict_itemiterator","dict_reverseitemiterator","odict_iterator","itertools.zip_longest","itertools.pairwise"].contains n=false) (hQ:Q () s):wpAny M A (letOwnedTupleGo tg (.ref it) u) Q E s:=by
 unfold letOwnedTupleGo;cases tg<;>first
  | exact ah hQ
  | (cases u<;>first
    | exact ah hQ
    | (refine aa (wpAny_load ho ?_)
       rw[hc,hd];show wpAny M A (if (["enumerate","zip","dict_itemiterator","dict_reverseitemiterator","odict_iterator","itertools.zip_longest","itertools.pairwise"].contains n&&vs[0]?==some (rawInt _))=true then _ else _) Q E s;rw[if_neg (by intro h;rw[hn,Bool.false_and] at h;cases h)];exact ah hQ))
noncomputable def Cs(K:PySem.W.Frag)(a:Addr):It:=
 ⟨fun i H=>∃xs x,eW K H a xs/\xs[i]?=some x,fun i H x H'=>H'=H/\∀xs,eW K H a xs->xs[i]?=some x,fun i H=>∃xs,eW K H a xs/\xs.length<=i⟩
noncomputable def Cr(K:PySem.W.Frag)(a:Addr):It:=
 ⟨fun i H=>∃xs x,et K H a xs/\xs[i]?=some x,fun i H x H'=>H'=H/\∀xs,et K H a xs->xs[i]?=some x,fun i H=>∃xs,et K H a xs/\xs.length<=i⟩
noncomputable def yq(lo:Int)(n:Nat):It:=⟨fun i _=>i<n,fun i H x H'=>H'=H/\x=.int (lo+i),fun i _=>n<=i⟩
theorem M1{P:Program}{w:World}{K:PySem.W.Frag}{tg:Expr}(a it:Addr):Turn P w K tg (Cs K a) [it] it (fun i h=>h.IsListIter it a i) where
 mem:=by simp
 obj:=fun i h st b hb=>by
  have e:b=it:=by simpa using hb
  subst e;obtain⟨o,e,c,d⟩:=st;exact⟨o,e,fun v z=>by rw[d] at z;cases z⟩
 keep:=fun i h h' st k=>st.at fun o e=>k it (by simp) o e
 item:=by
  intro X hP hw hK hc i pins s σ H E I hf st hg;subst hP hw hK;obtain⟨xs,x,hq,hx⟩:=hg;obtain⟨its,rv,p,hz⟩:=I.list hq;obtain⟨u,hu,ru⟩:=rv.get hx;obtain⟨f0,f1,f2,f3,f4,f5⟩:=hf it (by simp);refine wpAny_pyNext_list_item st p.isList (x:=u) (by simpa using hu) fun h' ef sb=>?_
  have I1:Inv X pins σ H { s with heap:=h' }:=I.turned (t':=s.toks) (fun b o hb e=>(sb.2 b hb).trans e) f0 f1 f3 f4 f5;obtain⟨o,e,c,d⟩:=id ef;exact⟨u,rfl,qY (s:={ s with heap:=h' }) e c d (by decide) ⟨x,H,I1,ru,⟨rfl,fun ys hy=>by rw[I.iC hy hq];exact hx⟩,ef,fun b hb=>(hf b hb).1⟩⟩
 done:=by
  intro X hP hw hK hc i pins s σ H E I hf st hg;subst hP hw hK;obtain⟨xs,hq,hx⟩:=hg;obtain⟨its,rv,p,hz⟩:=I.list hq;obtain⟨f0,f1,f2,f3,f4,f5⟩:=hf it (by simp);have hl:=rv.length;exact wpAny_pyNext_list_end (I.ok.hd hc) st p.isList (by simp;omega) fun h' eb=>⟨rfl,I.turned (t':=s.toks) (fun b o hb e=>eb b o hb e) f0 f1 f3 f4 f5⟩
 self:=fun _ _ _ _ _ st h=>wpAny_pyIter_listiter st h
theorem MI{P:Program}{w:World}{K:PySem.W.Frag}{tg:Expr}(a it:Addr):Turn P w K tg (Cr K a) [it] it (fun i h=>h.IsTupleIter it a i) where
 mem:=by simp
 obj:=fun i h st b hb=>by
  have e:b=it:=by simpa using hb
  subst e;obtain⟨o,e,c,d⟩:=st;exact⟨o,e,fun v z=>by rw[d] at z;cases z⟩
 keep:=fun i h h' st k=>st.at fun o e=>k it (by simp) o e
 item:=by
  intro X hP hw hK hc i pins s σ H E I hf st hg;subst hP hw hK;obtain⟨xs,x,hq,hx⟩:=hg;obtain⟨its,rv,p,hz⟩:=I.tuple hq;obtain⟨u,hu,ru⟩:=rv.get hx;obtain⟨f0,f1,f2,f3,f4,f5⟩:=hf it (by simp);refine wpAny_pyNext_tuple_item st (show s.heap.IsTuple a its.toArray from p) (x:=u) (by simpa using hu) fun h' ef sb=>?_
  have I1:Inv X pins σ H { s with heap:=h' }:=I.turned (t':=s.toks) (fun b o hb e=>(sb.2 b hb).trans e) f0 f1 f3 f4 f5;obtain⟨o,e,c,d⟩:=id ef;exact⟨u,rfl,qY (s:={ s with heap:=h' }) e c d (by decide) ⟨x,H,I1,ru,⟨rfl,fun ys hy=>by rw[I.jb hy hq];exact hx⟩,ef,fun b hb=>(hf b hb).1⟩⟩
 done:=by
  intro X hP hw hK hc i pins s σ H E I hf st hg;subst hP hw hK;obtain⟨xs,hq,hx⟩:=hg;obtain⟨its,rv,p,hz⟩:=I.tuple hq;obtain⟨f0,f1,f2,f3,f4,f5⟩:=hf it (by simp);have hl:=rv.length;exact wpAny_pyNext_tuple_end (I.ok.hd hc) st (show s.heap.IsTuple a its.toArray from p) (by simp;omega) fun h' eb=>⟨rfl,I.turned (t':=s.toks) (fun b o hb e=>eb b o hb e) f0 f1 f3 f4 f5⟩
 self:=fun _ _ _ _ _ st h=>wpAny_pyIter_tupleiter st h
theorem MH{P:Program}{w:World}{K:PySem.W.Frag}{tg:Expr}(it:Addr)(lo:Int)(n:Nat):Turn P w K tg (yq lo n) [it] it (fun i h=>IsRangeIter h it (lo+(i:Nat)*1) ((n:Int)-(i:Nat)) 1) where
 mem:=by simp
 obj:=fun i h st b hb=>by
  have e:b=it:=by simpa using hb
  subst e
  exact⟨_,st,fun v z=>by
   have z':Data.fields _=Data.cell v:=z;cases z'⟩
 keep:=fun i h h' st k=>k it (by simp) _ st
 item:=by
  intro X hP hw hK hc i pins s σ H E I hf st hg;subst hP hw hK;obtain⟨f0,f1,f2,f3,f4,f5⟩:=hf it (by simp);have W:=Walks.range (prog:=X.prog) (w:=X.w) (I.ok.hd hc) it lo 1 n;refine W.item i s _ _ hg st fun v h' tk hv ef kk=>?_
  obtain⟨t,rfl⟩:=hv;have I1:Inv X pins σ H { s with heap:=h',toks:=tk }:=I.turned (fun b o hb e=>kk b o (by simpa using hb) e) f0 f1 f3 f4 f5;refine⟨_,rfl,qY (s:={ s with heap:=h',toks:=tk }) (n:="range_iterator") ef rfl rfl (by decide) ⟨.int (lo+i),H,I1,⟨t,?_⟩,⟨rfl,rfl⟩,ef,fun b hb=>(hf b hb).1⟩⟩;rw[Int.mul_one]
 done:=by
  intro X hP hw hK hc i pins s σ H E I hf st hg;subst hP hw hK;obtain⟨f0,f1,f2,f3,f4,f5⟩:=hf it (by simp);exact wpAny_pyNext_range_end (I.ok.hd hc) st (by have:n<=i:=hg;omega) fun h' eb=>⟨rfl,I.turned (t':=s.toks) (fun b o hb e=>eb b o hb e) f0 f1 f3 f4 f5⟩
 self:=fun _ _ _ _ _ st h=>wpAny_pyIter_rangeiter st h
end L2
namespace L2
open PySem PySem.Spec PyProof.Rows
section
variable {X:Cx} {tg:Expr}
theorem Md{pins:List (Addr×Obj)}{σ:St}{H:Hp}{s:Shared}{R:It->Hp->Prop}{E:Value->Shared->Prop}{lo hi:Int}{t u v:Tok}{tk:Nat}(I:Inv X pins σ H s)(h1:-(2 ^ 62)<=lo)(h2:lo<2 ^ 62)(h3:-(2 ^ 62)<=hi)(h4:hi<2 ^ 62)
  (q:R (yq lo (hi-lo).toNat) H):wpAny (model X.prog X.w) X.A (pyIter (.ref s.heap.objs.size)) (wC X pins σ tg R) E { s with heap:=s.heap.push { cls:=.type "range",data:=.fields #[.int lo t,.int hi u,.int 1 v] },toks:=tk }:=by
 refine wpAny_pyIter_range (IsRange.new ..) (small_one h1 h2 h3 h4) ?_;have I1:Inv X pins σ H { s with heap:=s.heap.push { cls:=.type "range",data:=.fields #[.int lo t,.int hi u,.int 1 v] },toks:=tk }:=I.kept fun b o e=>ay _ e
 refine⟨(s.heap.push { cls:=.type "range",data:=.fields #[.int lo t,.int hi u,.int 1 v] }).objs.size,[(s.heap.push { cls:=.type "range",data:=.fields #[.int lo t,.int hi u,.int 1 v] }).objs.size],_,_,H,rfl,
  I1.kept (t':=tk) fun b o e=>ay _ e,MH _ lo (hi-lo).toNat,?_,fun b hb=>?_,q⟩
 ·have e1:lo+((0:Nat):Int)*1=lo:=by simp
  have e2:(((hi-lo).toNat:Nat):Int)-((0:Nat):Int)=Builtin.Range.rangeSize lo hi 1:=by rw[rangeSize_one];split<;>omega
  show IsRangeIter _ _ (lo+((0:Nat):Int)*1) ((((hi-lo).toNat:Nat):Int)-((0:Nat):Int)) 1;rw[e1,e2];exact aG _ rfl
 ·have e:b=(s.heap.push { cls:=.type "range",data:=.fields #[.int lo t,.int hi u,.int 1 v] }).objs.size:=by simpa using hb
  subst e;exact I1.iZ (az _) (I1.b9.fresh (az _))
def Ia(ta:TA):TI:=fun σ H R=>ta σ H fun vs H1=>∃j:Int,vs=[.int j]/\-(2 ^ 62)<=j/\j<2 ^ 62/\R (yq 0 j.toNat) H1
theorem Mp{a:Expr}{ta:TA}{p pos:Pos}(hg:Gl X "range")(hm:X.mg "range"=none)(ha:PA X [a] ta)(hs:starEach [a] X.env=[(false,eval a X.env)]:=by rfl):PI X tg (.Call (.Name "range" p) [a] [] pos) (Ia ta):=by
 intro pins s σ H R I h;refine Call_ (tf I hg hm boot_range (PyProof.Rows.callWith_type1 (cy (ha pos pins s σ H _ I h) fun us s1 bQ=>?_) hs rfl));obtain⟨vs,H1,I1,r1,q1⟩:=bQ;obtain⟨j,e,q1,q2,q⟩:=q1;subst e;cases r1 with
 | cons r rr=>
  cases rr;obtain⟨t,rfl⟩:=r;exact call_range_1 (Md I1 (by omega) (by omega) q1 q2 (by simpa using q))
def He(wi:TI)(g:TG)(tb:TS):TS:=fun D σ H=>wi σ H fun J H1=>∃W:Nat->Nat->St->Hp->Prop,(∃m,W 0 m σ H1)/\∀i m σ H,W i m σ H->
 (J.stop i H/\D.nx σ H)\/(J.go i H/\∃N:St->Hp->Prop,(∀bY H',N bY H'->∃m',m'<m/\W (i+1) m' bY H')/\∀x H',J.xO i H x H'->g x σ H' fun i7 H2=>tb { D with nx:=N,ct:=N,bk:=D.nx } i7 H2)
noncomputable def uy(fp:List Addr)(h:Heap):List (Addr×Obj):=fp.filterMap fun b=>(h.get? b).map fun o=>(b,o)
theorem xH{fp:List Addr}{h:Heap}{b:Addr}{o:Obj}(hb:b∈fp)(e:h.get? b=some o):(b,o)∈uy fp h:=List.mem_filterMap.mpr ⟨b,hb,by rw[e];rfl⟩
theorem Mo{fp:List Addr}{h:Heap}{p:Addr×Obj}(hp:p∈uy fp h):p.1∈fp/\h.get? p.1=some p.2:=by
 obtain⟨b,hb,e⟩:=List.mem_filterMap.mp hp;cases q:h.get? b with
 | none=>rw[q] at e;cases e
 | some o=>
  rw[q] at e;have e':(b,o)=p:=aU e;subst e';exact⟨hb,q⟩
theorem Inv.pinned{pins:List (Addr×Obj)}{σ:St}{H:Hp}{s:Shared}{fp:List Addr}(I:Inv X pins σ H s)(hf:∀b∈fp,ip X pins H b)(ho:∀b∈fp,∃o,s.heap.get? b=some o/\∀v,o.data≠.cell v):Inv X (pins++uy fp s.heap) σ H s:=
 I.lH fun p hp=>(aI.mp hp).elim (fun z=>I.pin p (aZ _ z)) fun z=>by
  obtain⟨hb,e⟩:=Mo z;obtain⟨f0,f1,f2,_⟩:=hf p.1 hb;obtain⟨o,e',d⟩:=ho p.1 hb;rw[e] at e';cases e';exact⟨e,f0,f1,f2,d⟩
theorem Inv.gw{pins pl:List (Addr×Obj)}{σ:St}{H:Hp}{s:Shared}(I:Inv X (pins++pl) σ H s):Inv X pins σ H s:=I.lH fun p hp=>I.pin p (aZ _ (bp _ hp))
theorem II{iter:Expr}{body:List Stmt}{wi:TI}{g:TG}{tb:TS}{pos:Pos}(hp:PassesOwn (model X.prog X.w) X.A X.env X.xe)(hc:X.calm=true)(hi:PI X tg iter wi)(hg:PG X tg g)(hb:kA X body tb)
  (hs:∀x,foldedSetIterable iter X.env x=pure x:=by intro _;rfl):PS X (.For tg iter body [] pos) (He wi g tb):=by
 intro pins s σ H D I h;refine wpAny_For (cy (hi pins s σ H _ I h) fun v s1 h1=>cy h1 fun Bg s2 h2=>?_) hs;obtain⟨it,fp,tn,J,H2,e,I2,T,xU,f2,W,⟨m0,w0⟩,turn⟩:=h2;subst e
 -- AK stays true of nJ rW objects through nJ loop
 have rF:∀{H':Hp},(∀b∈fp,H' b=none)->∀b∈fp,ip X pins H' b:=fun hn b hb=>⟨hn b hb,(f2 b hb).2⟩
 refine codeAny_forLoop_any (fun n s'=>∃i bY H',Inv X pins bY H' s'/\tn i s'.heap/\(∀b∈fp,H' b=none)/\W i n bY H') ?_ m0 ⟨0,σ,H2,I2,xU,fun b hb=>(f2 b hb).1,w0⟩;rintro n s3 ⟨i,jh,H3,I3,FI,Gw,w3⟩;rcases turn i n jh H3 w3 with⟨stop,qn⟩ | ⟨go,N,hN,step⟩
 ·refine wpAny_passesOwn hp (cy (T.done X rfl rfl rfl hc i pins s3 jh H3 X.xe I3 (rF Gw) FI stop) fun r s4 bQ=>?_);obtain⟨hr,I4⟩:=bQ;subst hr;exact wpAny_execs_nil ⟨jh,H3,I4,qn⟩
 ·refine wpAny_passesOwn hp (cy (T.item X rfl rfl rfl hc i pins s3 jh H3 X.xe I3 (rF Gw) FI go) fun r s4 bQ=>?_);obtain⟨u,hr,h4⟩:=bQ;subst hr;refine wpAny_passesOwn hp (cy h4 fun _ s5 bQ=>?_);obtain⟨x,H5,I5,r5,y5,AR,QO⟩:=bQ;have Q6:=I5.pinned (rF QO) (T.obj _ _ AR);refine wpAny_passesOwn hp (cy (hg _ s5 jh H5 x u _ Q6 r5 (step x H5 y5)) fun _ s6 bQ=>?_);obtain⟨GQ,H6,I6,q6⟩:=bQ;refine wpAny_passesOwn hp (cy (hb _ s6 GQ H6 _ I6 q6) fun f s7 q7=>?_);have again:∀{j9:St} {H7:Hp},Inv X (pins++uy fp s5.heap) j9 H7 s7->N j9 H7->∃m,m<n/\∃i bY H',Inv X pins bY H' s7/\tn i s7.heap/\(∀b∈fp,H' b=none)/\W i m bY H':=fun{j9 H7} I7 n7=>by
   obtain⟨m',hm,w7⟩:=hN j9 H7 n7;refine⟨m',hm,i+1,j9,H7,I7.gw,T.keep _ _ _ AR fun b hb o e=>(I7.pin (b,o) (aZ _ (aZ _ (xH hb e)))).1,fun b hb=>?_,w7⟩;obtain⟨o,e,d⟩:=T.obj _ _ AR b hb;exact(I7.pin (b,o) (aZ _ (aZ _ (xH hb e)))).2.1
  cases f with
  | next=>obtain⟨j9,H7,I7,n7⟩:=q7;exact again I7 n7
  | cont=>obtain⟨j9,H7,I7,n7⟩:=q7;exact again I7 n7
  | brk=>obtain⟨j9,H7,I7,q7⟩:=q7;exact⟨j9,H7,I7.gw,q7⟩
  | ret v=>obtain⟨x7,j9,H7,I7,r7,q7⟩:=q7;exact⟨x7,j9,H7,I7.gw,r7,q7⟩
end
end L2
namespace L2
open PySem PySem.Spec PyProof.Rows
noncomputable abbrev R2:=V->V->Hp->VK->Prop
def fj(X:Cx)(f:Value->Value->Sem Value)(r:R2):Prop:=
 ∀(pins:List (Addr×Obj)) (s:Shared) (σ:St) (H:Hp) (x y:V) (v u:Value) (Q:VK),Inv X pins σ H s->RelV x v->RelV y u->r x y H Q->
  wpAny (model X.prog X.w) X.A (f v u) (EP X pins σ Q) X.xe s
def Co(X:Cx)(f:Value->Sem Value)(r:V->Hp->VK->Prop):Prop:=
 ∀(pins:List (Addr×Obj)) (s:Shared) (σ:St) (H:Hp) (x:V) (v:Value) (Q:VK),Inv X pins σ H s->RelV x v->r x H Q->
  wpAny (model X.prog X.w) X.A (f v) (EP X pins σ Q) X.xe s
def dn(X:Cx)(f:Value)(r:List V->Hp->VK->Prop):Prop:=
 ∀(pins:List (Addr×Obj)) (s:Shared) (σ:St) (H:Hp) (xs:List V) (us:List Value) (Q:VK),Inv X pins σ H s->Vals xs us->r xs H Q->
  wpAny (model X.prog X.w) X.A (call f us) (EP X pins σ Q) X.xe s
def vi(r:R2)(ta tb:TE):TE:=fun σ H Q=>ta σ H fun x H1=>tb σ H1 fun y H2=>r x y H2 Q
def OE(r:V->Hp->VK->Prop)(ta:TE):TE:=fun σ H Q=>ta σ H fun x H1=>r x H1 Q
def rI(C:Int->Int->Prop)(g:Int->Int->V):R2:=fun x y H Q=>∃i j,x=.int i/\y=.int j/\C i j/\Q (g i j) H
def mj(g:Int->Int->V):R2:=fun x y H Q=>∃i j,x=.int i/\y=.int j/\Q (g i j) H
def rU(g:Int->V):V->Hp->VK->Prop:=fun x H Q=>∃i,x=.int i/\Q (g i) H
section
variable {X:Cx} {a b c:Expr} {ta tb tc:TE} {pos:Pos}
theorem yC(ha:PE X a ta)(hb:PE X b tb){pins:List (Addr×Obj)}{s:Shared}{σ:St}{H:Hp}{R:V->V->Hp->Prop}(I:Inv X pins σ H s)
  (h:ta σ H fun x H1=>tb σ H1 fun y H2=>R x y H2) {Q:Value->Shared->Prop} {f:Value->Value->Sem Value}
  (hf:∀v u s2 x y H2,Inv X pins σ H2 s2->RelV x v->RelV y u->R x y H2->wpAny (model X.prog X.w) X.A (f v u) Q X.xe s2) :
  wpAny (model X.prog X.w) X.A (eval a X.env) (fun v bW=>wpAny (model X.prog X.w) X.A (eval b X.env) (fun u fD=>wpAny (model X.prog X.w) X.A (f v u) Q X.xe fD) X.xe bW) X.xe s:=by
 refine cy (ha pins s σ H _ I h) fun v s1 bQ=>?_
 obtain⟨x,H1,I1,r1,q1⟩:=bQ;refine cy (hb pins s1 σ H1 _ I1 q1) fun u s2 bQ=>?_
 obtain⟨y,H2,I2,r2,q2⟩:=bQ;exact hf v u s2 x y H2 I2 r1 r2 q2
theorem C4{op:Operator}{r:R2}(ho:fj X (binaryOp op) r)(ha:PE X a ta)(hb:PE X b tb):PE X (.BinOp a op b pos) (vi r ta tb):=by
 intro pins s σ H Q I h;exact wpAny_BinOp (yC ha hb I h fun v u s2 x y H2 I2 rx ry q=>ho pins s2 σ H2 x y v u Q I2 rx ry q)
theorem HZ{op:UnaryOp}{r:V->Hp->VK->Prop}(ho:Co X (unaryOp op) r)(ha:PE X a ta):PE X (.UnaryOp op a pos) (OE r ta):=by
 intro pins s σ H Q I h;exact UnaryOp_ (cy (ha pins s σ H _ I h) fun v s1 bQ=>by obtain⟨x,H1,I1,r1,q1⟩:=bQ;exact ho pins s1 σ H1 x v Q I1 r1 q1)
theorem xX{f:Value->Value->Sem Value}{C:Int->Int->Prop}{g:Int->Int->Int}
  (rule:∀(i j:Int) (t u:Tok) (s:Shared) (Q:Value->Shared->Prop) (E:Value->Shared->Prop),C i j->Q (.int (g i j) s.toks) { s with toks:=s.toks+1 }->wpAny (model X.prog X.w) X.A (f (.int i t) (.int j u)) Q E s) :
  fj X f (rI C fun i j=>.int (g i j)):=by
 intro pins s σ H x y v u Q I rx ry h;obtain⟨i,j,rfl,rfl,hc,q⟩:=h;obtain⟨t,rfl⟩:=rx;obtain⟨t',rfl⟩:=ry;exact rule i j t t' s _ _ hc ⟨.int (g i j),H,I.tok _,⟨_,rfl⟩,q⟩
theorem CG{f:Value->Value->Sem Value}{g:Int->Int->Int}
  (rule:∀(i j:Int) (t u:Tok) (s:Shared) (Q:Value->Shared->Prop) (E:Value->Shared->Prop),Q (.int (g i j) s.toks) { s with toks:=s.toks+1 }->wpAny (model X.prog X.w) X.A (f (.int i t) (.int j u)) Q E s) :
  fj X f (mj fun i j=>.int (g i j)):=by
 intro pins s σ H x y v u Q I rx ry h;obtain⟨i,j,rfl,rfl,q⟩:=h;obtain⟨t,rfl⟩:=rx;obtain⟨t',rfl⟩:=ry;exact rule i j t t' s _ _ ⟨.int (g i j),H,I.tok _,⟨_,rfl⟩,q⟩
theorem wU{f:Value->Value->Sem Value}{g:Int->Int->Bool}
  (rule:∀(i j:Int) (t u:Tok) (s:Shared) (Q:Value->Shared->Prop) (E:Value->Shared->Prop),Q (.bool (g i j)) s->wpAny (model X.prog X.w) X.A (f (.int i t) (.int j u)) Q E s) :
  fj X f (mj fun i j=>.bl (g i j)):=by
 intro pins s σ H x y v u Q I rx ry h;obtain⟨i,j,rfl,rfl,q⟩:=h;obtain⟨t,rfl⟩:=rx;obtain⟨t',rfl⟩:=ry;exact rule i j t t' s _ _ ⟨.bl (g i j),H,I,rfl,q⟩
def nA(i j:Int):Prop:=0<j/\j<1073741824
def qW(i j:Int):Prop:=0<=j/\j<=1000000/\i.natAbs<2 ^ 64
def fU(i j:Int):Prop:=(-(2 ^ 64)<i/\i<2 ^ 64)\/(-(2 ^ 64)<j/\j<2 ^ 64)
theorem fU.ok{i j:Int}(h:fU i j):IntMulOk i j:=by
 rcases h with⟨h1,h2⟩ | ⟨h1,h2⟩
 ·exact .of_left (intBits_le_64 h1 h2)
 ·exact .of_right (intBits_le_64 h1 h2)
theorem rN:fj X (binaryOp .Add) (mj fun i j=>.int (i+j)):=CG fun _ _ _ _ _ _ _ q=>add_int q
theorem IH:fj X (binaryOp .Sub) (mj fun i j=>.int (i-j)):=CG fun _ _ _ _ _ _ _ q=>sub_int q
theorem IG:fj X (binaryOp .Mult) (rI fU fun i j=>.int (i*j)):=xX fun _ _ _ _ _ _ _ hc q=>mul_int q hc.ok
theorem Kt:fj X (binaryOp .FloorDiv) (rI nA fun i j=>.int (i/j)):=xX fun i j _ _ _ _ _ hc q=>by
 have h1:(0:Int)<j:=hc.1;have h2:j<1073741824:=hc.2;exact floordiv_int (by omega) (by rw[Int.fdiv_eq_ediv_of_nonneg i (by omega)];exact q) (.inl (PyProof.noPylong_small (by omega)))
theorem IF:fj X (binaryOp .Mod) (rI (fun _ j=>0<j) fun i j=>.int (i%j)):=xX fun i j _ _ _ _ _ hc q=>by
 have h1:(0:Int)<j:=hc;exact mod_int' (by omega) (by rw[Int.fmod_eq_emod_of_nonneg i (by omega)];exact q)
theorem IE:fj X (binaryOp .Pow) (rI qW fun i j=>.int (i ^ j.toNat)):=xX fun _ _ _ _ _ _ _ hc q=>pow_int_small hc.1 hc.2.1 hc.2.2 q
theorem OA{f:Value->Sem Value}{g:Int->Int}
  (rule:∀(i:Int) (t:Tok) (s:Shared) (Q:Value->Shared->Prop) (E:Value->Shared->Prop),Q (.int (g i) s.toks) { s with toks:=s.toks+1 }->wpAny (model X.prog X.w) X.A (f (.int i t)) Q E s) :
  Co X f (rU fun i=>.int (g i)):=by
 intro pins s σ H x v Q I rx h;obtain⟨i,rfl,q⟩:=h;obtain⟨t,rfl⟩:=rx;exact rule i t s _ _ ⟨.int (g i),H,I.tok _,⟨_,rfl⟩,q⟩
theorem ID:Co X (unaryOp .USub) (rU fun i=>.int (-i)):=OA fun _ _ _ _ _ q=>neg_int q
end
section
variable {X:Cx} {a b c:Expr} {ta tb tc:TE} {pos:Pos}
theorem DF{pins:List (Addr×Obj)}{σ:St}{H:Hp}{s:Shared}{Q:VK}{k k':Bool}(I:Inv X pins σ H s)(q:Q (.bl k) H)(e:k=k'):EP X pins σ Q (.bool k') s:=by
 subst e;exact⟨.bl k,H,I,rfl,q⟩
theorem yP:fj X (compareOp .Lt) (mj fun i j=>.bl (decide (i<j))):=wU fun _ _ _ _ _ _ _ q=>lt_int q
theorem C3:fj X (compareOp .LtE) (mj fun i j=>.bl (decide (i<=j))):=wU fun _ _ _ _ _ _ _ q=>le_int q
theorem HY:fj X (compareOp .Gt) (mj fun i j=>.bl (decide (j<i))):=wU fun _ _ _ _ _ _ _ q=>gt_int q
theorem HX:fj X (compareOp .GtE) (mj fun i j=>.bl (decide (j<=i))):=wU fun _ _ _ _ _ _ _ q=>ge_int q
theorem ml:fj X (compareOp .In) (fun x y H Q=>∃i j,x=.str i/\y=.str j/\Q (.bl (!(Builtin.Str.occurrences j i 0 j.length 1).isEmpty)) H):=by
 intro pins s σ H x y v u Q I rx ry h;obtain⟨i,j,rfl,rfl,q⟩:=h;obtain⟨t,rfl⟩:=rx;obtain⟨t',rfl⟩:=ry;exact in_str (DF I q rfl)
theorem IC:fj X (compareOp .Is) (fun x y H Q=>y=.non/\Q (.bl (decide (x=.non))) H):=by
 intro pins s σ H x y v u Q I rx ry h;obtain⟨rfl,q⟩:=h;cases ry;refine is_none_gen (DF I q ?_);cases x<;>first
  | (cases rx;rfl)
  | (obtain⟨t,rfl⟩:=rx;rfl)
theorem fj.or{f:Value->Value->Sem Value}{r r':R2}(h:fj X f r)(h':fj X f r'):fj X f (fun x y H Q=>r x y H Q\/r' x y H Q):=by
 intro pins s σ H x y v u Q I rx ry q;rcases q with q | q
 ·exact h pins s σ H x y v u Q I rx ry q
 ·exact h' pins s σ H x y v u Q I rx ry q
theorem DD(b:Expr){op:CmpOp}(h:op≠.In:=by decide)(h2:op≠.NotIn:=by decide):behindInMarks op b=false:=by
 have e1:(op==CmpOp.In)=false:=by cases op<;>first | rfl | exact absurd rfl h
 have e2:(op==CmpOp.NotIn)=false:=by cases op<;>first | rfl | exact absurd rfl h2
 cases b<;>simp[behindInMarks,e1,e2]
theorem Ks{op:CmpOp}{r:R2}(ho:fj X (compareOp op) r)(ha:PE X a ta)(hb:PE X b tb)(hm:behindInMarks op b=false):PE X (.Compare a [op] [b] pos) (vi r ta tb):=by
 intro pins s σ H Q I h;exact wpAny_Compare1 (yC ha hb I h fun v u s2 x y H2 I2 rx ry q=>ho pins s2 σ H2 x y v u Q I2 rx ry q) hm
def yO(t:TE):TT:=fun σ H Q=>t σ H fun x H'=>∃k,x=.bl k/\Q k H'
theorem Kr{op:CmpOp}{r:R2}(ho:fj X (compareOp op) r)(ha:PE X a ta)(hb:PE X b tb)(hm:behindInMarks op b=false):PT X (.Compare a [op] [b] pos) (yO (vi r ta tb)):=by
 intro pins s σ H Q I h;refine wpAny_isTrue_Compare1 (cy (ha pins s σ H _ I h) fun v s1 bQ=>?_) hm;obtain⟨x,H1,I1,r1,q1⟩:=bQ;refine cy (hb pins s1 σ H1 _ I1 q1) fun u s2 bQ=>?_
 obtain⟨y,H2,I2,r2,q2⟩:=bQ;refine cy (ho pins s2 σ H2 x y v u _ I2 r1 r2 q2) fun c s3 bQ=>?_
 obtain⟨z,H3,I3,r3,k,e,q3⟩:=bQ;subst e;cases r3;exact bg ⟨H3,I3,q3⟩
def DC(r r':R2)(ta tb tc:TE):TE:=fun σ H Q=>ta σ H fun x H1=>tb σ H1 fun y H2=>r x y H2 fun z H3=>∃k,z=.bl k/\
 (if k=true then tc σ H3 fun w' H4=>r' y w' H4 Q else Q (.bl false) H3)
theorem Mc{op rO:CmpOp}{r r':R2}(ho:fj X (compareOp op) r)(jW:fj X (compareOp rO) r')(ha:PE X a ta)(hb:PE X b tb)(hc:PE X c tc)
  (hm:lastMarks [op,rO] [b,c]=false:=by with_unfolding_all rfl):PT X (.Compare a [op,rO] [b,c] pos) (yO (DC r r' ta tb tc)):=by
 intro pins s σ H Q I h;refine isTrue_chain (cy (ha pins s σ H _ I h) fun v s1 bQ=>?_) hm;obtain⟨x,H1,I1,r1,q1⟩:=bQ;refine test_link (cy (hb pins s1 σ H1 _ I1 q1) fun u s2 bQ=>?_);obtain⟨y,H2,I2,r2,q2⟩:=bQ;refine cy (ho pins s2 σ H2 x y v u _ I2 r1 r2 q2) fun d s3 bQ=>?_
 obtain⟨z,H3,I3,r3,k,e,q3⟩:=bQ;subst e;cases r3;refine bg ?_;cases k with
 | false=>
  obtain⟨k',e',q'⟩:=q3;cases e';exact ite_ff ⟨H3,I3,q'⟩
 | true=>
  refine ite_tt (test_last (cy (hc pins s3 σ H3 _ I3 q3) fun w' s4 bQ=>?_));obtain⟨z',H4,I4,r4,q4⟩:=bQ;refine cy (jW pins s4 σ H4 y z' u w' _ I4 r2 r4 q4) fun d' s5 bQ=>?_
  obtain⟨z2,H5,I5,r5,k2,e2,q5⟩:=bQ;subst e2;cases r5;exact bg ⟨H5,I5,q5⟩
theorem sZ:(sizeLine:Nat)<2 ^ 63:=by rw[sizeLine_eq];decide
theorem kN:fj X (binaryOp .Add) (fun x y H Q=>∃i j,x=.str i/\y=.str j/\i.length+j.length<=sizeLine/\Q (.str (i++j)) H):=by
 intro pins s σ H x y v u Q I rx ry h;obtain⟨i,j,rfl,rfl,hz,q⟩:=h;obtain⟨t,rfl⟩:=rx;obtain⟨t',rfl⟩:=ry;exact add_str (fun t' tk=>⟨.str (i++j),H,I.tok _,⟨_,rfl⟩,q⟩) hz
theorem mQ{x:V}{us:List Value}(r:Vals [x] us):∃u,us=[u]/\RelV x u:=by
 cases r with
 | cons r1 r2=>cases r2;exact⟨_,rfl,r1⟩
theorem uu{x y:V}{us:List Value}(r:Vals [x,y] us):∃u w',us=[u,w']/\RelV x u/\RelV y w':=by
 cases r with
 | cons r1 r2=>
  cases r2 with
  | cons r3 r4=>cases r4;exact⟨_,_,rfl,r1,r3⟩
theorem Mn(hc:X.calm=true):dn X (.builtin "max") (fun xs H Q=>∃i j,xs=[.int i,.int j]/\Q (.int (if j>i then j else i)) H):=by
 intro pins s σ H xs us Q I r h;obtain⟨i,j,rfl,q⟩:=h;obtain⟨u,w',rfl,⟨t,rfl⟩,⟨t',rfl⟩⟩:=uu r;refine max_two_ints (I.ok.hd hc) fun h' tk k=>⟨_,H,I.kept k,?_,q⟩
 by_cases hj:j>i
 ·rw[if_pos hj,if_pos hj];exact⟨_,rfl⟩
 ·rw[if_neg hj,if_neg hj];exact⟨_,rfl⟩
end
end L2
namespace L2
open PySem PySem.Spec PyProof.Rows
theorem i6.some_of{v:V}{o:Option Value}(r:i6 (some v) o):∃u,o=some u/\RelV v u:=by
 cases o with
 | none=>exact(show False from r).elim
 | some u=>exact⟨u,rfl,r⟩
structure Ra (K:PySem.W.Frag) (C:Addr):Prop where
 pg:PySem.W.plainGet K C Str.empty=true
 hd:PySem.W.hasDictIn K C=true
 po:PySem.W.plainOver K C=true
 sa:PySem.W.findIn K (.ref C) "__setattr__"=some (some (.builtin "object.__setattr__"))
def DB(K:PySem.W.Frag)(C:Addr)(f:Str):Prop:=PySem.W.findIn K (.ref C) f=some none
end L2
namespace L2
open PySem PySem.Spec PyProof.Rows
structure dA (k:Nat) (A:Around):Prop where
 hd:A.handled=none
 dp:A.depth+3*k+5<recursionLimit
 un:A.units+16*k+200<cLine
theorem dA.mono{j k:Nat}{A:Around}(r:dA k A)(h:j<=k):dA j A:=⟨r.hd,by have:=r.dp;omega,by have:=r.un;omega⟩
theorem dA.deeper{k:Nat}{A:Around}(r:dA (k+1) A)(env:Env):dA k (A.deeper env):=
 ⟨r.hd,by have:=r.dp;show A.depth+1+3*k+5<_;omega,by have:=r.un;show A.units+3+16*k+200<_;omega⟩
theorem dA.depth{k:Nat}{A:Around}(r:dA k A):A.depth<recursionLimit:=by have:=r.dp;omega
theorem dA.units{k:Nat}{A:Around}(r:dA k A):A.units+64<cLine:=by have:=r.un;omega
noncomputable def CF:TA:=fun _ H Q=>Q [] H
noncomputable def C1(ta:TE)(tr:TA):TA:=fun σ H Q=>ta σ H fun x H1=>tr σ H1 fun xs H2=>Q (x::xs) H2
section
variable {X:Cx} {e:Expr} {es:List Expr} {te:TE} {t:TA} {pos:Pos}
theorem lz:PA X [] CF:=fun _ _ _ _ H Q I h=>Calls.spliced_nil ⟨[],H,I,.nil,h⟩
theorem jO(ha:PE X e te)(hr:PA X es t)(hs:starEach (e::es) X.env=(false,eval e X.env)::starEach es X.env:=by rfl):PA X (e::es) (C1 te t):=by
 intro pos pins s σ H Q I h;rw[hs];show wpAny _ _ (spliced ((false,eval e X.env)::backTo pos (starEach es X.env))) _ _ s;refine Calls.spliced_cons (cy (ha pins s σ H _ I h) fun u s1 bQ=>?_);obtain⟨x,H1,I1,r1,q1⟩:=bQ;exact cy (hr pos pins s1 σ H1 _ I1 q1) fun us s2 bQ=>by obtain⟨xs,H2,I2,r2,q2⟩:=bQ;exact⟨x::xs,H2,I2,.cons r1 r2,q2⟩
def Hd(t:TA):TE:=fun σ H Q=>t σ H fun xs H1=>xs.length<=sizeLine/\∀p,H1 p=none->Q (.ref p) (upd H1 p (.tup xs))
def Hc(t:TA):TE:=fun σ H Q=>t σ H fun xs H1=>xs.length<=sizeLine/\∀p,H1 p=none->Q (.ref p) (upd H1 p (.lst xs))
theorem Dz{x1}(h:PA X es t):PE X (.Tuple es x1 pos) (Hd t):=by
 intro pins s σ H Q I hq;refine wpAny_Tuple_spliced (cy (h pos pins s σ H _ I hq) fun us s1 ⟨xs,H1,I1,r,z,q⟩=>⟨by rw[<-r.length];exact z,?_⟩);have hf:H1 s1.heap.objs.size=none:=I1.b9.fresh (az _);refine⟨.ref s1.heap.objs.size,upd H1 s1.heap.objs.size (.tup xs),I1.laid (t':=s1.toks) (fun b u e=>ay _ e) (az _) ?_,rfl,q _ hf⟩;exact⟨z,us,r,⟨_,aG _ rfl,rfl,_,rfl⟩⟩
theorem Dy(h:PA X es t):PE X (.List es pos) (Hc t):=by
 intro pins s σ H Q I hq;refine wpAny_List_spliced (cy (h pos pins s σ H _ I hq) fun us s1 ⟨xs,H1,I1,r,z,q⟩=>⟨by rw[<-r.length];exact z,?_⟩);have hf:H1 s1.heap.objs.size=none:=I1.b9.fresh (az _);refine⟨.ref s1.heap.objs.size,upd H1 s1.heap.objs.size (.lst xs),I1.laid (t':=s1.toks) (fun b u e=>ay _ e) (az _) ?_,rfl,q _ hf⟩;exact⟨z,us,0,r,aG _ rfl⟩
end
noncomputable abbrev Sp:=List V->Hp->VK->XK->Prop
noncomputable abbrev oZ:=List Env->Hp->Shared->XK->Value->Shared->Prop
structure pN (P:Program) (w:World) (K:PySem.W.Frag) (mg:Str->Option Value) (base:Heap) (A:Around) (outer:List Env) (s:Shared) (H:Hp):Prop where
 frames:A.frames=some outer
 mod:Mod K mg base
 bs:∀b o,base.get? b=some o->s.heap.get? b=some o/\H b=none
 qJ:base.objs.size<=s.heap.objs.size
 fG:s.heap.FunFrames base outer
 oU:∀b∈gQ outer,H b=none
 b9:gk P w H s.heap
 bare:AllBare s.gens
def CE(outer:List Env)(P:Program)(w:World)(H:Hp)(s:Shared)(Q:VK)(u:Value)(s':Shared):Prop:=
 ∃v H',s'.os=s.os/\AllBare s'.gens/\Un (gQ outer) [] H H' s.heap s'.heap/\gk P w H' s'.heap/\RelV v u/\Q v H'
def CR(CX:oZ)(outer:List Env)(P:Program)(w:World)(H:Hp)(s:Shared)(Q:VK)(E:XK)(r:Result)(s':Shared):Prop:=
 match r with
 | .ok (.ret u)=>CE outer P w H s Q u s'
 | .ok _=>False
 | .error e=>CX outer H s E e s'
structure g8 (P:Program) (w:World) (K:PySem.W.Frag) (mg:Str->Option Value) (base:Heap) (CX:oZ) (k:Nat) (f:Addr) (fd:FuncData) (ps:List Str) (sp:Sp):Prop where
 len:∀vs H Q E,sp vs H Q E->vs.length=ps.length
 run:∀(A:Around) (outer:List Env) (s:Shared) (H:Hp) (args:Args) (us:List Value) (vs:List V) (Q:VK) (E:XK),dA k A->pN P w K mg base A outer s H->BindsTo s fd args (ps.zip us)->Vals vs us->sp vs H Q E->
  codeAny (model P w) A (.call (.ref f) args) (CR CX outer P w H s Q E) s
section
variable {X:Cx} {pins:List (Addr×Obj)} {σ:St} {H:Hp} {s s':Shared}
theorem Inv.og(I:Inv X pins σ H s):pN X.prog X.w X.K X.mg X.base X.A X.stack s H:=
 ⟨I.ok.frames,I.ok.mod,I.bs,aR I.ok.qJ I.sz,I.stack,I.lF,I.b9,I.bare⟩
theorem Inv.after{Q:VK}{u:Value}(I:Inv X pins σ H s)(h:CE X.stack X.prog X.w H s Q u s'):EP X pins σ Q u s':=by
 obtain⟨v,H',os,bare,un,b9,r,q⟩:=h;obtain⟨hh,g,d,t,A4⟩:=s';obtain rfl:A4=s.os:=os;exact⟨v,H',I.call (h':=hh) (g':=g) (d':=d) (t':=t) (ch:=[]) un b9 bare (fun b z=>absurd z (by simp)),r,q⟩
end
def HW(sp:Sp)(mF:List V)(E:XK)(t:TA):TE:=fun σ H Q=>t σ H fun vs H1=>sp (vs++mF) H1 Q E
def Binds(K:PySem.W.Frag)(fd:FuncData)(ps:List Str)(ds:List Value):Prop:=
 ∀(s:Shared) (us:List Value),K.In s.heap->(us++ds).length=ps.length->BindsTo s fd ⟨us,[]⟩ (ps.zip (us++ds))
theorem Binds.all{K:PySem.W.Frag}{fd:FuncData}{ps:List Str}(h:∀us:List Value,us.length=ps.length->bindArgs fd ⟨us,[]⟩=pure (ps.zip us)):Binds K fd ps []:=fun s us _ hl=>by
 rw[List.append_nil] at hl ⊢;exact .of_eq (h us hl)
def za(CX:oZ)(X:Cx)(E:XK):Prop:=∀(pins:List (Addr×Obj)) (σ:St) (H:Hp) (s:Shared) (e:Value) (s':Shared),Inv X pins σ H s->CX X.stack H s E e s'->X.xe e s'
section
variable {X:Cx} {CX:oZ} {k:Nat} {f C:Addr} {fd:FuncData} {ps:List Str} {sp:Sp} {mF:List V} {ds:List Value} {E:XK} {x m:Str} {p pos apos:Pos} {e o:Expr} {es:List Expr} {ta:TE} {t:TA}
theorem IB{pins:List (Addr×Obj)}{σ:St}{H:Hp}{s:Shared}{Q:VK}{us:List Value}{vs:List V}(F:g8 X.prog X.w X.K X.mg X.base CX k f fd ps sp)(hr:dA k X.A)(hb:Binds X.K fd ps ds)(hd:Vals mF ds)(hx:za CX X E)
  (I:Inv X pins σ H s) (r:Vals vs us) (h:sp (vs++mF) H Q E):wpAny (model X.prog X.w) X.A (call (.ref f) us) (EP X pins σ Q) X.xe s:=by
 have r2:Vals (vs++mF) (us++ds):=r.append hd;have hl:(us++ds).length=ps.length:=by rw[<-r2.length];exact F.len _ _ _ _ h
 refine wpAny_call (codeAny_mono (F.run X.A X.stack s H ⟨us,[]⟩ (us++ds) (vs++mF) Q E hr I.og (hb s us I.jU hl) r2 h) fun r s' hq=>?_);cases r with
 | error e=>exact hx pins σ H s e s' I hq
 | ok fl=>
  cases fl with
  | ret u=>exact I.after hq
  | next=>exact False.elim hq
  | brk=>exact False.elim hq
  | cont=>exact False.elim hq
theorem Kq(F:g8 X.prog X.w X.K X.mg X.base CX k f fd ps sp)(hr:dA k X.A)(hg:Gl X x)(hm:X.mg x=some (.ref f))(hk:PySem.W.keepIn X.K (.ref f)=true)(hb:Binds X.K fd ps ds)(hd:Vals mF ds)(hx:za CX X E)
  (ha:PA X (e::es) t) (n0:(x==("__debug__":Str))=false:=by decide) (he:starEach (e::es) X.env=(false,eval e X.env)::starEach es X.env:=by rfl) (g4:(backTo pos (starEach es X.env)).any (·.1)=false:=by rfl) :
  PE X (.Call (.Name x p) (e::es) [] pos) (HW sp mF E t):=by
 intro pins s σ H Q I h;refine wpAny_Call_Name_kw (uG I hg hm ?_ n0);refine PySem.W.callWith_K (h₀:=X.base) I.ok.mod.qw hk (cy (ha pos pins s σ H _ I h) fun us s1 bQ=>?_) he g4;obtain⟨vs,H1,I1,r,q⟩:=bQ;refine⟨I1.jU,?_⟩;exact IB F hr hb hd hx I1 r q
end
structure bP (N P:List Str) (sc:Scope):Prop where
 kind:sc.kind=.function
 co:sc.isCoroutine=false
 gen:sc.isGenerator=false
 nd:N.Nodup
 pre:N.take P.length=P
 par:∀x∈P,sc.names.lookup x=some .local\/sc.names.lookup x=some .cell
 rP:∀y∈sc.names,y.2≠.free
theorem Fd{kindOf:Str->Option NameKind}{x:Str}:∀{binds:List (Str×Value)} {m:Str->Option Value},(∀v,(x,v)∉binds)->bindL kindOf binds m x=m x
 | [],_,_=>rfl
 | (n,v)::r,m,h=>by
  unfold bindL;rw[Fd fun w hw=>h w (ar _ hw)];split
  ·have:x≠n:=by rintro rfl;exact h v aF
   simp[this]
  ·rfl
theorem Fc{kindOf:Str->Option NameKind}{x:Str}:∀{binds:List (Str×Value)} {m:Str->Option Value},(∀v,(x,v)∉binds)->bindC kindOf binds m x=m x
 | [],_,_=>rfl
 | (n,v)::r,m,h=>by
  unfold bindC;rw[Fc fun w hw=>h w (ar _ hw)];split
  ·rfl
  ·have:x≠n:=by rintro rfl;exact h v aF
   simp[this]
theorem Fb{kindOf:Str->Option NameKind}{x:Str}{v:Value}:∀{P:List Str} {vs:List Value} {i:Nat} {m:Str->Option Value},P.Nodup->P[i]?=some x->vs[i]?=some v->kindOf x=some .local->
  bindL kindOf (P.zip vs) m x=some v
 | [],_,_,_,_,h,_,_=>by simp at h
 | _::_,[],_,_,_,_,h,_=>by simp at h
 | p::P,w::vs,0,m,nd,h1,h2,hk=>by
  simp at h1 h2;subst h1;subst h2;show bindL kindOf ((p,w)::P.zip vs) m p=_;unfold bindL;rw[Fd fun v hv=>(aX.mp nd).1 (List.of_mem_zip hv).1,if_pos hk];simp
 | p::P,w::vs,i+1,m,nd,h1,h2,hk=>by
  show bindL kindOf ((p,w)::P.zip vs) m x=_;unfold bindL;exact Fb (i:=i) (aX.mp nd).2 (by simpa using h1) (by simpa using h2) hk
theorem E8{kindOf:Str->Option NameKind}{x:Str}{v:Value}:∀{P:List Str} {vs:List Value} {i:Nat} {m:Str->Option Value},P.Nodup->P[i]?=some x->vs[i]?=some v->kindOf x≠some .local->
  bindC kindOf (P.zip vs) m x=some v
 | [],_,_,_,_,h,_,_=>by simp at h
 | _::_,[],_,_,_,_,h,_=>by simp at h
 | p::P,w::vs,0,m,nd,h1,h2,hk=>by
  simp at h1 h2;subst h1;subst h2;show bindC kindOf ((p,w)::P.zip vs) m p=_;unfold bindC;rw[Fc fun v hv=>(aX.mp nd).1 (List.of_mem_zip hv).1,if_neg hk];simp
 | p::P,w::vs,i+1,m,nd,h1,h2,hk=>by
  show bindC kindOf ((p,w)::P.zip vs) m x=_;unfold bindC;exact E8 (i:=i) (aX.mp nd).2 (by simpa using h1) (by simpa using h2) hk
noncomputable def start(N:List Str)(vs:List V):St:=vs.map some++List.replicate (N.length-vs.length) none
noncomputable def lY(CX:oZ)(P:Program)(w:World)(K:PySem.W.Frag)(mg:Str->Option Value)(base:Heap)(N:List Str)(qual:Str)(scope:Scope)(f:Addr)(cd:Value)(A:Around)(outer:List Env)(s:Shared)(H:Hp)(E:XK):Cx where
 prog:=P
 w:=w
 K:=K
 mg:=mg
 base:=base
 A:=A.deeper (envOfC qual scope s.heap.objs.size f cd)
 N:=N
 cY:=s
 mG:=H
 env:=envOfC qual scope s.heap.objs.size f cd
 outer:=outer
 stack:=envOfC qual scope s.heap.objs.size f cd::outer
 ex:=[]
 calm:=true
 fn:=fun _=>true
 pn:=[]
 xe:=fun e s'=>wpAny (model P w) (A.deeper (envOfC qual scope s.heap.objs.size f cd)) (leaving (envOfC qual scope s.heap.objs.size f cd) e) (fun _ tH=>CX outer H s E e tH) (fun e' tH=>CX outer H s E e' tH) s'
theorem ED{sc:Scope}{n:Nat}{x:Str}(h:sc.names.lookup x=some .cell):∃c,(cellsFrom n sc.names []).lookup x=some c:=by
 have q:=PySem.W.cellsFrom_some sc.names n [] (.inl h);exact Option.isSome_iff_exists.mp q
theorem Mm{CX:oZ}{P:Program}{w:World}{K:PySem.W.Frag}{mg:Str->Option Value}{base:Heap}{N ps:List Str}{qual:Str}{scope:Scope}{f:Addr}{cd:Value}{A:Around}{outer:List Env}{s s1:Shared}{H:Hp}{E:XK}{us:List Value}{vs:List V}
  (S:bP N ps scope) (hd:A.handled=none) (e0:pN P w K mg base A outer s H) (hl:vs.length=ps.length) (r:Vals vs us)
  (x:InCallC s s.heap.objs.size (bindL (envOfC qual scope s.heap.objs.size f cd).kindOf (ps.zip us) fun _=>none) (cellsFrom (s.heap.objs.size+1) scope.names []) (bindC (envOfC qual scope s.heap.objs.size f cd).kindOf (ps.zip us) fun _=>none) s1) :
  Inv (lY CX P w K mg base N qual scope f cd A outer s H E) [] (start N vs) H s1:=by
 have g4:ps.length<=N.length:=by have:=congrArg List.length S.pre;rw[bj] at this;omega
 obtain⟨h1,tk,rfl,hk⟩:=x.done;have vw:∀b:Addr,b∉(lY CX P w K mg base N qual scope f cd A outer s H E).ex:=fun b z=>absurd (show b∈([]:List Addr) from z) (by simp)
 refine⟨⟨e0.mod,S.kind,rfl,rfl,az _,fun y z c h1 h2=>?_,fun y hy=>?_,fun y c _ h=>?_,fun _=>hd,Around.frames_deeper e0.frames,.inr ⟨rfl,rfl⟩,fun b z=>absurd z (vw b),e0.bs,e0.qJ,fun b _ _=>vw b,fun b z=>absurd z (vw b),e0.fG,e0.oU⟩,
  rfl,e0.bare,Un.kept hk,⟨_,x.toInCall.ns,fun i y v h1 h2 h3=>?_⟩,fun y c h=>⟨_,x.cell y c h⟩,e0.b9.fresh (az _),fun y c h=>?_,fun p hp=>absurd (show p∈([]:List (Addr×Obj)) from hp) (by simp),e0.b9.kept hk,?_⟩
 ·exact name_of_addr x.apart (PySem.mem_of_lookup h1) (PySem.mem_of_lookup h2)
 ·have hy:scope.names.lookup y=some .cell\/scope.names.lookup y=some .free:=hy;rcases hy with hy | hy
  ·exact ED hy
  ·exact absurd rfl (S.rP _ (PySem.mem_of_lookup hy))
 ·exact Nat.le_of_lt (x.above y c (PySem.mem_of_lookup h))
 ·have hi:i<vs.length:=by
   unfold start at h2;by_cases hi:i<vs.length
   ·exact hi
   ·rw[List.getElem?_append_right (by simpa using hi)] at h2;rw[List.getElem?_replicate] at h2;split at h2<;>cases h2
  have ha:vs[i]?=some v:=by
   unfold start at h2;rw[List.getElem?_append_left (by simpa using hi),aj] at h2;cases e:vs[i]? with
   | none=>rw[e] at h2;cases h2
   | some a=>rw[e] at h2;cases h2;rfl
  obtain⟨u,hu,rv⟩:=r.get ha;have hp:ps[i]?=some y:=by
   rw[<-S.pre,List.getElem?_take_of_lt (by omega)];exact h1
  have FY:ps.Nodup:=by rw[<-S.pre];exact S.nd.sublist (List.take_sublist _ _)
  refine⟨u,rv,?_⟩;rcases S.par y (av hp) with k | k
  ·exact .inl ⟨k,Fb FY hp hu k⟩
  ·obtain⟨c,e⟩:=ED (n:=s.heap.objs.size+1) k;refine .inr ⟨.inl k,c,e,?_⟩;have q:=x.cell y c e;rw[E8 FY hp hu (by show scope.names.lookup y≠_;rw[k];decide)] at q;exact q
 ·exact e0.b9.fresh (Nat.le_of_lt (x.above y c (PySem.mem_of_lookup h)))
 ·unfold start;show _=N.length;rw[aC,af,List.length_replicate];omega
theorem CZ{CX:oZ}{P:Program}{w:World}{K:PySem.W.Frag}{mg:Str->Option Value}{base:Heap}{k:Nat}{f:Addr}{name qual:Str}{params:Arguments}{body:List Stmt}{scope:Scope}{dV kV doc pm cG ct oc:Value}{an od:Option Addr}
  {mZ:Array (Option Value)} {N ps:List Str} {sp:Sp} (lk:K.lookup f=some ⟨oc,od,.func (PySem.W.fnOf name qual params body scope dV kV doc pm an cG ct),mZ⟩) (fK:PySem.W.codeIn K cG qual=true) (S:bP N ps scope)
  (len:∀vs H Q E,sp vs H Q E->vs.length=ps.length)
  (n6:∀(A:Around) (outer:List Env) (s:Shared) (H:Hp) (vs:List V) (Q:VK) (E:XK),dA k (A.deeper (envOfC qual scope s.heap.objs.size f cG))->sp vs H Q E->
   ∃t,kA (lY CX P w K mg base N qual scope f cG A outer s H E) body t/\t { nx:=fun _ H'=>Q .non H',rt:=Q } (start N vs) H) :
  g8 P w K mg base CX (k+1) f (PySem.W.fnOf name qual params body scope dV kV doc pm an cG ct) ps sp:=by
 refine⟨len,fun A outer s H args us vs Q E hr e0 hb r m9=>?_⟩;have hl:=len _ _ _ _ m9;have KX:K.In s.heap:=e0.mod.qw.keeps fun b o e=>(e0.bs b o e).1
 have lim:s.heap.NoLimit:=e0.mod.nolimit.keeps fun b o e=>(e0.bs b o e).1
 have lQ:∀y∈ps.zip us,scope.names.lookup y.1=some .local\/(scope.names.lookup y.1=some .cell/\((cellsFrom (s.heap.objs.size+1) scope.names []).lookup y.1).isSome=true):=fun⟨n,v⟩ hy=>by
  rcases S.par n (List.of_mem_zip hy).1 with q | q
  ·exact .inl q
  ·exact .inr ⟨q,PySem.W.cellsFrom_some _ _ _ (.inl q)⟩
 refine codeAny_call_function hr.depth (KX _ _ lk) rfl S.co S.gen rfl (PySem.W.codeRec_of KX fK) (hb _ _ _ _ ?_);refine wpAny_newFunctionEnv_cells S.kind lQ fun env he s1 x=>?_
 subst he;refine⟨lim.keeps x.toInCall.keep,codeAny_func ?_⟩;obtain⟨t,ht,hq⟩:=n6 A outer s H vs Q E (hr.deeper _) m9;have I:Inv (lY CX P w K mg base N qual scope f cG A outer s H E) [] (start N vs) H s1:=Mm S hr.hd e0 hl r x;refine bB (ht [] s1 (start N vs) H _ I hq) (fun fl s' hs=>?_) fun e s' hs=>hs
 have fin:∀{bY:St} {H':Hp} {v:V} {u:Value},Inv (lY CX P w K mg base N qual scope f cG A outer s H E) [] bY H' s'->RelV v u->Q v H'->CE outer P w H s Q u s':=
  fun{bY H' v u} J rv q=>⟨v,H',J.os,J.bare,J.base,J.b9,rv,q⟩
 cases fl with
 | ret u=>
  obtain⟨v,bY,H',J,rv,q⟩:=hs;exact fin J rv q
 | next=>
  obtain⟨bY,H',J,q⟩:=hs;exact fin (v:=V.non) (u:=Value.none) J rfl q
 | brk=>
  obtain⟨_,_,_,q⟩:=hs;exact False.elim q
 | cont=>
  obtain⟨_,_,_,q⟩:=hs;exact False.elim q
end L2
namespace L2
open PySem PySem.Spec PyProof.Rows
section
variable {X:Cx} {x:Str} {p pos:Pos} {e:Expr} {es:List Expr} {t:TA} {id T:String} {r:List V->Hp->VK->Prop}
def AO(r:List V->Hp->VK->Prop)(t:TA):TE:=fun σ H Q=>t σ H fun vs H1=>r vs H1 Q
theorem rp(hc:dn X (.builtin id) r)(hg:Gl X x)(hm:X.mg x=none)(hv:bootBuiltins x=some (.builtin id))(ha:PA X (e::es) t)(hn:x≠"__name__":=by decide)(n0:(x==("__debug__":Str))=false:=by decide)
  (he:starEach (e::es) X.env=(false,eval e X.env)::starEach es X.env:=by rfl) (g4:(backTo pos (starEach es X.env)).any (·.1)=false:=by rfl):PE X (.Call (.Name x p) (e::es) [] pos) (AO r t):=by
 intro pins s σ H Q I h;refine wpAny_Call_Name_kw (tf I hg hm hv ?_ hn n0);exact PyProof.Rows.callWith_builtin1 (cy (ha pos pins s σ H _ I h) fun us s1 bQ=>by obtain⟨vs,H1,I1,r1,q1⟩:=bQ;exact hc pins s1 σ H1 vs us Q I1 r1 q1) he g4
end
end L2
namespace HT
open PySem PyProof.Rows
section
variable {prog:Program} {w:World} {A:Around} {E:Value->Shared->Prop} {s:Shared}
noncomputable def cV(n d:Nat):Option Int->Nat
 | none=>d
 | some v=>if v<0 then(v+(n:Int)).toNat else min v.toNat n
theorem gV(n d:Nat)(hd:d<=n)(o:Option Int):cV n d o<=n:=by
 cases o with
 | none=>exact hd
 | some v=>
  show(if v<0 then(v+(n:Int)).toNat else min v.toNat n)<=n;by_cases hv:v<0
  ·rw[if_pos hv];omega
  ·rw[if_neg hv];exact Nat.min_le_right _ _
theorem jx(v:Int)(n d:Nat):(if v<0 then max (v+(n:Int)) 0 else min v (n:Int))=((cV n d (some v):Nat):Int):=by
 show(if v<0 then max (v+(n:Int)) 0 else min v (n:Int))=(((if v<0 then(v+(n:Int)).toNat else min v.toNat n):Nat):Int)
 by_cases hv:v<0
 ·simp only[if_pos hv];omega
 ·simp only[if_neg hv];omega
theorem MG(lo hi:Option Int)(n:Nat):Builtin.Slice.sliceAdjust lo hi 1 (n:Int)=(((cV n 0 lo:Nat):Int),((cV n n hi:Nat):Int)):=by
 have h1:¬((1:Int)<0):=by omega
 unfold Builtin.Slice.sliceAdjust;simp only[h1,br];refine Prod.ext ?_ ?_
 ·cases lo with
  | none=>rfl
  | some v=>exact jx v n 0
 ·cases hi with
  | none=>rfl
  | some v=>exact jx v n n
theorem MF(i j:Nat):Builtin.Slice.slicePlaces (i:Int) (j:Int) 1=j-i:=by
 unfold Builtin.Slice.slicePlaces;have h1:(1:Int)>0:=by omega
 simp only[h1,bC,Int.ediv_one];split<;>omega
theorem Fv{v:Value}{o:Option Int}{Q:Option Int->Shared->Prop}(p:IsPart v o)(h:Q o s):wpAny (model prog w) A (Builtin.Slice.slicePartIndex v) Q E s:=by
 cases p with
 | none=>exact slicePart_none h
 | int i t=>exact slicePart_int h
theorem N8{sl:Addr}{vl vu:Value}{lo hi:Option Int}{n:Nat}{Q:Int×Int×Nat->Shared->Prop}(hs:s.heap.IsSliceOf sl vl vu .none)(pl:IsPart vl lo)(pu:IsPart vu hi)
  (h:Q (((cV n 0 lo:Nat):Int),1,cV n n hi-cV n 0 lo) s):wpAny (model prog w) A (Builtin.Slice.sliceApplied (.ref sl) (pure (n:Int))) Q E s:=by
 obtain⟨os,vI,Gn,pI⟩:=id hs;unfold Builtin.Slice.sliceApplied Builtin.Slice.sliceFields;refine aa (aa (wpAny_field vI pI (x:=vl) rfl (aa (wpAny_field vI pI (x:=vu) rfl (aa (wpAny_field vI pI (x:=.none) rfl (ah ?_)))))));refine aa (slicePart_none ?_);show wpAny _ _ (if ((1:Int)==0)=true then _ else _) _ _ s;rw[if_neg (by decide)];refine aa (Fv pl (aa (Fv pu (aa (ah ?_)))));show wpAny _ _ (match Builtin.Slice.sliceAdjust lo hi 1 (n:Int) with | (lo,hi)=>pure (lo,(1:Int),Builtin.Slice.slicePlaces lo hi 1)) _ _ s;rw[MG lo hi n];show wpAny _ _ (pure (((cV n 0 lo:Nat):Int),(1:Int),Builtin.Slice.slicePlaces ((cV n 0 lo:Nat):Int) ((cV n n hi:Nat):Int) 1)) _ _ s;rw[MF];exact ah h
theorem Mb(xs:Array Value)(i k:Nat):((List.range k).filterMap fun(m:Nat)=>xs[((i:Int)+(m:Int)*1).toNat]?).toArray=((xs.toList.drop i).take k).toArray:=by
 have e:(fun(m:Nat)=>xs[((i:Int)+(m:Int)*1).toNat]?)=fun m=>xs[i+m]?:=by
  funext m
  have:((i:Int)+(m:Int)*1).toNat=i+m:=by omega
  rw[this]
 rw[e];have:=pick_run xs i k;rw[List.filterMap_map] at this;have e2:((fun x=>xs[x]?)∘fun x=>i+x)=fun m=>xs[i+m]?:=rfl
 rw[e2] at this;rw[this]
theorem gI{t sl:Addr}{items:Array Value}{vl vu:Value}{lo hi:Option Int}{Q:Value->Shared->Prop}(ht:IsTup s.heap t items)(hs:s.heap.IsSliceOf sl vl vu .none)(pl:IsPart vl lo)(pu:IsPart vu hi)
  (hw:¬(cV items.size 0 lo=0/\cV items.size items.size hi=items.size))
  (h:Q (.ref s.heap.objs.size) { s with heap:=s.heap.push { cls:=.type "tuple",data:=.seq ((items.toList.drop (cV items.size 0 lo)).take (cV items.size items.size hi-cV items.size 0 lo)).toArray } })
  (hsz:items.size<=sizeLine):wpAny (model prog w) A (getItem (.ref t) (.ref sl)) Q E s:=by
 have lM:sizeOk (.seq ((items.toList.drop (cV items.size 0 lo)).take (cV items.size items.size hi-cV items.size 0 lo)).toArray):=by
  show((items.toList.drop (cV items.size 0 lo)).take (cV items.size items.size hi-cV items.size 0 lo)).toArray.size<=sizeLine;rw[aq,bj,List.length_drop,aM];omega
 have hj:cV items.size items.size hi<=items.size:=gV _ _ (az _) hi;obtain⟨os,vI,Gn,pI⟩:=id hs;have Qz:s.TypeIs (.ref sl) "slice":=⟨os,vI,Gn⟩
 unfold getItem;try with_reducible refine wpAny_holding ?_
 first | refine aa (ah ?_) | skip
 refine aa (wpAny_sequenceKey ht.typeIs (by decide) ?_);refine aa (wpAny_callSpecial?_slot (name:=Str.ofString "__getitem__") ht.typeIs PyProof.Rows.slot_tuple_getitem
  (wpAny_call_entry PyProof.Rows.slot_tuple_getitem ht.typeIs entry_tuple_getitem ?_ (args_tuple_getitem _ _)))
 show wpAny _ _ (Builtin.Tuple.tupleItemsOf (.ref t) >>= _) _ _ s;refine aa (tupleItemsOf_ ht ?_);refine aa (wpAny_typeOf Qz ?_);rw[if_pos (by decide)];refine aa (N8 hs pl pu ?_);have r0:¬((((cV items.size 0 lo:Nat):Int)==0&&(1:Int)==1&&(cV items.size items.size hi-cV items.size 0 lo)==items.size)=true):=by
  intro q;rw[aO,aO] at q;have q1:((cV items.size 0 lo:Nat):Int)=0:=eq_of_beq q.1.1;have q2:cV items.size items.size hi-cV items.size 0 lo=items.size:=eq_of_beq q.2;exact hw ⟨by omega,by omega⟩
 show wpAny _ _ (if (((cV items.size 0 lo:Nat):Int)==0&&(1:Int)==1&&(cV items.size items.size hi-cV items.size 0 lo)==items.size)=true then _ else _) _ _ s;rw[if_neg r0,Mb];first
  | exact aa (m:=Builtin.Tuple.tupleExact _) (bu (ah ⟨_,rfl,ah h⟩) lM)
  | exact aa (m:=Builtin.Tuple.tupleExact _) (bu (aa (ah (ah ⟨_,rfl,ah h⟩))) lM)
  | exact aa (aa (m:=Builtin.Tuple.tupleExact _) (bu (ah (ah ⟨_,rfl,ah h⟩)) lM))
  | exact aa (aa (m:=Builtin.Tuple.tupleExact _) (bu (ah ⟨_,rfl,ah h⟩) lM))
end
end HT
namespace L2
open PySem PySem.Spec PyProof.Rows
noncomputable abbrev TO:=St->Hp->(Option Int->Hp->Prop)->Prop
def PO(X:Cx)(e:Option Expr)(t:TO):Prop:=
 ∀(pins:List (Addr×Obj)) (s:Shared) (σ:St) (H:Hp) (Q:Option Int->Hp->Prop),Inv X pins σ H s->t σ H Q->
  wpAny (model X.prog X.w) X.A (evalPart e X.env) (fun u s'=>∃o H',Inv X pins σ H' s'/\IsPart u o/\Q o H') X.xe s
noncomputable def Kp:TO:=fun _ H Q=>Q none H
noncomputable def HV(t:TE):TO:=fun σ H Q=>t σ H fun x H1=>∃i,x=.int i/\Q (some i) H1
theorem Ay{ns:List Int}:∀{us:List Value},Vals (ns.map V.int) us->IntsAre us ns:=by
 induction ns with
 | nil=>intro us r;rw[List.map_nil] at r;cases r;exact .nil
 | cons n ns ih=>
  intro us r;rw[ao] at r;cases r with
  | cons r1 r2=>
   obtain⟨t,e⟩:=r1;subst e;exact .cons n t (ih r2)
section
variable {X:Cx} {e:Expr} {te:TE} {lo hi:Option Expr} {tl th:TO} {pos p2:Pos}
theorem Ko:PO X none Kp:=by
 intro pins s σ H Q I h;rw[evalPart_none];exact ah ⟨none,H,I,.none,h⟩
theorem Kn(h:PE X e te):PO X (some e) (HV te):=by
 intro pins s σ H Q I hw;rw[evalPart_some];refine cy (h pins s σ H _ I hw) fun u s1 bQ=>?_
 obtain⟨x,H1,I1,r1,q1⟩:=bQ;obtain⟨i,rfl,q⟩:=q1;obtain⟨t,rfl⟩:=r1;exact⟨some i,H1,I1,.int i t,q⟩
def qL(X:Cx)(r:V->Option Int->Option Int->Hp->VK->Prop):Prop:=
 ∀(pins:List (Addr×Obj)) (s:Shared) (σ:St) (H:Hp) (x:V) (v vl vu:Value) (lo hi:Option Int) (sl:Addr) (Q:VK),Inv X pins σ H s->RelV x v->s.heap.IsSliceOf sl vl vu .none->IsPart vl lo->IsPart vu hi->r x lo hi H Q->
  ∃T id,typeLookup (.type T) "__getitem__"=pure (some (.builtin id))/\s.TypeIs v T/\wpAny (model X.prog X.w) X.A (getItem v (.ref sl)) (EP X pins σ Q) X.xe s
theorem qL.or{r r':V->Option Int->Option Int->Hp->VK->Prop}(h:qL X r)(h':qL X r'):qL X (fun x lo hi H Q=>r x lo hi H Q\/r' x lo hi H Q):=by
 intro pins s σ H x v vl vu lo hi sl Q I rx hs pl pu q;rcases q with q | q
 ·exact h pins s σ H x v vl vu lo hi sl Q I rx hs pl pu q
 ·exact h' pins s σ H x v vl vu lo hi sl Q I rx hs pl pu q
def OF(r:V->Option Int->Option Int->Hp->VK->Prop)(te:TE)(tl th:TO):TE:=fun σ H Q=>te σ H fun x H1=>tl σ H1 fun l H2=>th σ H2 fun u H3=>r x l u H3 Q
theorem Ma{r:V->Option Int->Option Int->Hp->VK->Prop}(hr:qL X r)(he:PE X e te)(hl:PO X lo tl)(hu:PO X hi th):PE X (.Subscript e (.Slice lo hi none p2) pos) (OF r te tl th):=by
 intro pins s σ H Q I h;refine Subscript_ (cy (he pins s σ H _ I h) fun v s1 bQ=>?_);obtain⟨x,H1,I1,r1,q1⟩:=bQ;refine wpAny_Slice (cy (hl pins s1 σ H1 _ I1 q1) fun vl s2 bQ=>?_);obtain⟨l,H2,I2,pl,q2⟩:=bQ;refine cy (hu pins s2 σ H2 _ I2 q2) fun vu s3 bQ=>?_
 obtain⟨u,H3,I3,pu,q3⟩:=bQ;rw[evalPart_none];refine ah ?_;have I4:Inv X pins σ H3 { s3 with heap:=s3.heap.push { cls:=.type "slice",data:=.fields #[vl,vu,.none] } }:=I3.kept (t':=s3.toks) fun b ob q=>ay _ q
 obtain⟨T,id,hT,ht,hg⟩:=hr pins { s3 with heap:=s3.heap.push { cls:=.type "slice",data:=.fields #[vl,vu,.none] } } σ H3 x v vl vu l u s3.heap.objs.size Q I4 r1 (Heap.IsSliceOf.new ..) pl pu q3;show wpAny (model X.prog X.w) X.A (subscriptTail e (.Slice lo hi none p2) v (.ref s3.heap.objs.size)) (EP X pins σ Q) X.xe { s3 with heap:=s3.heap.push { cls:=.type "slice",data:=.fields #[vl,vu,.none] } };exact tail_any (ops:=[.ref s3.heap.objs.size,v]) ht hT hg (by with_unfolding_all rfl)
noncomputable def oA(xs:List V)(lo hi:Option Int):List V:=(xs.drop (HT.cV xs.length 0 lo)).take (HT.cV xs.length xs.length hi-HT.cV xs.length 0 lo)
theorem Fx(xs:List V)(lo hi:Option Int):(oA xs lo hi).length<=xs.length:=by
 unfold oA;rw[bj,List.length_drop];omega
def Hz(K:PySem.W.Frag):V->Option Int->Option Int->Hp->VK->Prop:=fun x lo hi H Q=>∃a xs,x=.ref a/\et K H a xs/\
 ¬(HT.cV xs.length 0 lo=0/\HT.cV xs.length xs.length hi=xs.length)/\∀p,H p=none->Q (.ref p) (upd H p (.tup (oA xs lo hi)))
theorem IA:qL X (Hz X.K):=by
 intro pins s σ H x v vl vu lo hi sl Q I rx hs pl pu h;obtain⟨a,xs,rfl,hx,hw,q⟩:=h;cases rx;obtain⟨its,r,ht,hz⟩:=I.tuple hx;have hlen:its.toArray.size=xs.length:=by rw[aq];exact r.length.symm
 refine⟨"tuple",_,PyProof.Rows.slot_tuple_getitem.lookup,ht.typeIs,?_⟩;refine HT.gI ht hs pl pu (by rw[hlen];exact hw) ?_ (by rw[hlen];exact hz);rw[hlen];refine⟨.ref s.heap.objs.size,_,I.laid (t':=s.toks) (o:=.tup (oA xs lo hi)) (fun b ob q=>ay _ q) (az _) ?_,rfl,q _ (I.b9.fresh (az _))⟩;exact⟨aR (Fx xs lo hi) hz,_,(r.drop (HT.cV xs.length 0 lo)).take (HT.cV xs.length xs.length hi-HT.cV xs.length 0 lo),IsTup.new _ _⟩
end
end L2
namespace L2
open PySem PySem.Spec PyProof.Rows
noncomputable def jV(n:Nat)(i:Int):Option Nat:=if 0<=i then(if i<n then some i.toNat else none) else if -(n:Int)<=i then some (i+n).toNat else none
noncomputable def dz{α:Type}(xs:List α)(i:Int):Option α:=(jV xs.length i).bind fun j=>xs[j]?
theorem DY{n:Nat}{i:Int}{j:Nat}(h:jV n i=some j):seqIndex? i n=some j/\j<n/\-(n:Int)<=i/\i<n:=by
 unfold jV at h;by_cases h0:0<=i
 ·rw[if_pos h0] at h;by_cases h1:i<n
  ·rw[if_pos h1] at h;have e:i.toNat=j:=aU h;exact⟨by rw[seqIndex_of h0 h1,e],by omega,by omega,h1⟩
  ·rw[if_neg h1] at h;cases h
 ·rw[if_neg h0] at h;by_cases h1:-(n:Int)<=i
  ·rw[if_pos h1] at h;have e:(i+n).toNat=j:=aU h;exact⟨by rw[seqIndex_neg (by omega) h1,e],by omega,h1,by omega⟩
  ·rw[if_neg h1] at h;cases h
theorem tm{α:Type}{xs:List α}{i:Int}{v:α}(h:dz xs i=some v):∃j,seqIndex? i xs.length=some j/\xs[j]?=some v/\j<xs.length/\-(xs.length:Int)<=i/\i<xs.length:=by
 unfold dz at h;cases e:jV xs.length i with
 | none=>rw[e] at h;cases h
 | some j=>
  rw[e] at h;obtain⟨h1,h2,h3,h4⟩:=DY e;exact⟨j,h1,h,h2,h3,h4⟩
def zt(b:Expr):Prop:=∀o i,subscripted b false o i=operate [o,i] (getItem o i)
def pM(X:Cx)(r:R2):Prop:=
 ∀(value slice:Expr) (pins:List (Addr×Obj)) (s:Shared) (σ:St) (H:Hp) (x y:V) (v u:Value) (Q:VK),Inv X pins σ H s->RelV x v->RelV y u->r x y H Q->
  subscripted slice false v u=operate [v,u] (getItem v u)->wpAny (model X.prog X.w) X.A (subscriptTail value slice v u) (EP X pins σ Q) X.xe s
def Cp(X:Cx)(id:String)(r:V->List V->Hp->VK->Prop):Prop:=
 ∀(pins:List (Addr×Obj)) (s:Shared) (σ:St) (H:Hp) (x:V) (xs:List V) (v:Value) (us:List Value) (Q:VK),Inv X pins σ H s->RelV x v->Vals xs us->r x xs H Q->
  wpAny (model X.prog X.w) X.A (call (.builtin id) (v::us)) (EP X pins σ Q) X.xe s
section
variable {X:Cx} {a b:Expr} {ta tb:TE} {pos:Pos}
theorem pM.or{r r':R2}(h:pM X r)(h':pM X r'):pM X (fun x y H Q=>r x y H Q\/r' x y H Q):=by
 intro value slice pins s σ H x y v u Q I rx ry q hs;rcases q with q | q
 ·exact h value slice pins s σ H x y v u Q I rx ry q hs
 ·exact h' value slice pins s σ H x y v u Q I rx ry q hs
theorem CY{r:R2}(hr:pM X r)(ha:PE X a ta)(hb:PE X b tb)(hs:zt b):PE X (.Subscript a b pos) (vi r ta tb):=by
 intro pins s σ H Q I h;exact Subscript_ (yC ha hb I h fun v u s2 x y H2 I2 rx ry q=>hr a b pins s2 σ H2 x y v u Q I2 rx ry q (hs _ _))
def CD(K:PySem.W.Frag):R2:=fun x y H Q=>∃p xs i v,x=.ref p/\y=.int i/\eW K H p xs/\dz xs i=some v/\Q v H
def CC(K:PySem.W.Frag):R2:=fun x y H Q=>∃p xs i v,x=.ref p/\y=.int i/\et K H p xs/\dz xs i=some v/\Q v H
def CB:R2:=fun x y H Q=>∃z i c,x=.str z/\y=.int i/\z.length<=sizeLine/\dz z.cps.toList i=some c/\Q (.str ⟨#[c]⟩) H
theorem lK:pM X (CD X.K):=by
 intro value slice pins s σ H x y v u Q I rx ry h hs;obtain⟨p,xs,i,z,rfl,rfl,hq,he,q⟩:=h;cases rx;obtain⟨t,rfl⟩:=ry;obtain⟨its,r,pl,hz⟩:=I.list hq;obtain⟨j,h1,h2,h3,h4,h5⟩:=tm he;obtain⟨w,ew,lG⟩:=r.get h2;have hl:=r.length;have hn:=sZ;have fin:EP X pins σ Q w s:=⟨z,H,I,lG,q⟩
 by_cases h0:0<=i
 ·have hj:i.toNat=j:=by
   rw[seqIndex_of h0 h5] at h1;exact aU h1
  exact item_listR pl.isList h0 (by omega) (by rw[hj];simpa using ew) fin hs
 ·have hj:(i+(its.toArray.size:Int)).toNat=j:=by
   rw[seqIndex_neg (by omega) h4] at h1;rw[aq,<-hl];exact aU h1
  exact subscriptTail_builtinR (x:=w) pl.isList.typeIs slot_list_getitem.lookup
   (wpAny_getItem_list_neg (Q:=fun r s'=>r=w/\EP X pins σ Q r s') pl.isList (by omega) (by rw[aq]<;>omega) (by omega) (by rw[hj];simpa using ew) ⟨rfl,fin⟩) hs
theorem rV:pM X (CC X.K):=by
 intro value slice pins s σ H x y v u Q I rx ry h hs;obtain⟨p,xs,i,z,rfl,rfl,hq,he,q⟩:=h;cases rx;obtain⟨t,rfl⟩:=ry;obtain⟨its,r,pl,hz⟩:=I.tuple hq;obtain⟨j,h1,h2,h3,h4,h5⟩:=tm he;obtain⟨w,ew,lG⟩:=r.get h2;have hl:=r.length;have hn:=sZ;have fin:EP X pins σ Q w s:=⟨z,H,I,lG,q⟩
 exact subscriptTail_builtinR (x:=w) pl.typeIs slot_tuple_getitem.lookup
  (getItem_tuple (j:=j) (Q:=fun r s'=>r=w/\EP X pins σ Q r s') pl (by omega) (by omega) (by rw[aq,<-hl];exact h1) (by simpa using ew) ⟨rfl,fin⟩) hs
theorem Iz:pM X CB:=by
 intro value slice pins s σ H x y v u Q I rx ry h hs;obtain⟨z,i,c,rfl,rfl,hz,he,q⟩:=h;obtain⟨t,rfl⟩:=rx;obtain⟨t',rfl⟩:=ry;obtain⟨j,h1,h2,h3,h4,h5⟩:=tm he;have hl:z.cps.toList.length=z.length:=by simp[Str.length]
 rw[hl] at h1 h4 h5;have hn:=sZ
 exact tail_any (typeIs_str s z t) slot_str_getitem.lookup (getItem_str (c:=c) (by
  have e1:decide (i < -(2 ^ 63:Int))=false:=aw (by omega);have e2:decide (i>=2 ^ 63)=false:=aw (by omega)
  rw[e1,e2,Bool.or_false]) (by rw[h1];simpa using h2) ⟨.str ⟨#[c]⟩,H,I.tok _,⟨_,rfl⟩,q⟩) hs
def FP(K:PySem.W.Frag):R2:=fun x y H Q=>CD K x y H Q\/CC K x y H Q\/CB x y H Q
theorem Iy:pM X (FP X.K):=lK.or (rV.or Iz)
theorem ME(its:List Value)(n j:Nat)(u:Value):Obj.mapSeq (·.setIfInBounds j u) { cls:=.type "list",data:=.seq its.toArray n }={ cls:=.type "list",data:=.seq (its.set j u).toArray n }:=by
 simp[Obj.mapSeq]
theorem Inv.lst{pins:List (Addr×Obj)}{σ:St}{H:Hp}{s:Shared}{p:Addr}{xs:List V}(I:Inv X pins σ H s)(h:H p=some (.lst xs)) :
  ∃(its:List Value) (n:Nat),Vals xs its/\s.heap.get? p=some { cls:=.type "list",data:=.seq its.toArray n }/\xs.length<=sizeLine:=by
 obtain⟨z,its,n,r,e⟩:=I.b9 p _ h;exact⟨its,n,r,e,z⟩
theorem Inv.rR{pins:List (Addr×Obj)}{σ:St}{H:Hp}{s:Shared}{p:Addr}{xs ys:List V}{its its':List Value}{n n':Nat}{f:Obj->Obj}(I:Inv X pins σ H s)(h:H p=some (.lst xs))
  (ho:s.heap.get? p=some { cls:=.type "list",data:=.seq its.toArray n }) (hf:f { cls:=.type "list",data:=.seq its.toArray n }={ cls:=.type "list",data:=.seq its'.toArray n' }) (r:Vals ys its') (hz:ys.length<=sizeLine) (t:Nat) :
  Inv X pins σ (upd H p (.lst ys)) { s with heap:=s.heap.update p f,toks:=t }:=by
 have e:(s.heap.update p f).get? p=some { cls:=.type "list",data:=.seq its'.toArray n' }:=by
  rw[Heap.get?_update_self f ho (by rw[hf]<;>rfl),hf]
 refine I.write (x:=p) (e:=p) (by rw[h];trivial) (.inl rfl) (fun b u hb q=>(Heap.get?_update_other _ _ (Ne.symm hb)).trans q) ⟨_,e⟩ ?_;exact⟨hz,its',n',r,e⟩
def HU:V->V->V->Hp->(Hp->Prop)->Prop:=fun o i v H Q=>∃p xs k j,o=.ref p/\i=.int k/\H p=some (.lst xs)/\jV xs.length k=some j/\Q (upd H p (.lst (xs.set j v)))
theorem L9:CH X HU:=by
 intro pins s σ H o i v ov iv u Q I ro ri rv h;obtain⟨p,xs,k,j,rfl,rfl,hp,hj,q⟩:=h;cases ro;obtain⟨t,rfl⟩:=ri;obtain⟨its,n,r,ho,hz⟩:=I.lst hp;obtain⟨h1,h2,h3,h4⟩:=DY hj;have hl:=r.length;have hn:=sZ;have I':Inv X pins σ (upd H p (.lst (xs.set j v))) { s with heap:=s.heap.update p (Obj.mapSeq (·.setIfInBounds j u)) }:=
  I.rR hp ho (ME its n j u) (r.set rv j) (by rw[List.length_set];exact hz) s.toks
 by_cases h0:0<=k
 ·have hk:k.toNat=j:=by
   rw[seqIndex_of h0 h4] at h1;exact aU h1
  exact PySem.W.ki_setAt ho h0 (by omega) (by rw[aq,<-hl];exact h4) (by rw[hk];exact⟨_,I',q⟩)
 ·have hk:(k+(its.toArray.size:Int)).toNat=j:=by
   rw[seqIndex_neg (by omega) h3] at h1;rw[aq,<-hl];exact aU h1
  exact PySem.W.ki_setBack ho (by omega) (by rw[aq,<-hl];exact h3) (by omega) (by rw[hk];exact⟨_,I',q⟩)
theorem NC(lo hi:Option Int)(n:Nat):(sliceBounds lo hi none n).1=((HT.cV n 0 lo:Nat):Int)/\(sliceBounds lo hi none n).2.1=((HT.cV n n hi:Nat):Int)/\(sliceBounds lo hi none n).2.2=1:=by
 refine⟨?_,?_,rfl⟩
 ·cases lo with
  | none=>simp[sliceBounds,HT.cV]
  | some i=>
   simp only[sliceBounds,HT.cV,Option.getD_none,show(1:Int)>0 by decide,bC];by_cases h:i<0
   ·simp only[h,bC]<;>omega
   ·simp only[h,br]<;>omega
 ·cases hi with
  | none=>simp[sliceBounds,HT.cV]
  | some i=>
   simp only[sliceBounds,HT.cV,Option.getD_none,show(1:Int)>0 by decide,bC];by_cases h:i<0
   ·simp only[h,bC]<;>omega
   ·simp only[h,br]<;>omega
theorem NZ(its:List Value)(lo hi:Option Int):slicePick its.toArray lo hi none=((its.drop (HT.cV its.length 0 lo)).take (HT.cV its.length its.length hi-HT.cV its.length 0 lo)).toArray:=by
 obtain⟨h1,h2,h3⟩:=NC lo hi its.toArray.size;unfold slicePick;rw[h1,h2,h3];simp only[sliceRange_one,pick_run,aq]<;>rfl
def Hy(K:PySem.W.Frag):V->Option Int->Option Int->Hp->VK->Prop:=fun x lo hi H Q=>∃a xs,x=.ref a/\eW K H a xs/\∀p,H p=none->Q (.ref p) (upd H p (.lst (oA xs lo hi)))
theorem pj:qL X (Hy X.K):=by
 intro pins s σ H x v vl vu lo hi sl Q I rx hs pl pu h;obtain⟨a,xs,rfl,hx,q⟩:=h;cases rx;obtain⟨its,r,ht,hz⟩:=I.list hx;have hlen:=r.length;refine⟨"list",_,slot_list_getitem.lookup,ht.isList.typeIs,?_⟩;refine wpAny_getItem_list_slice ht.isList hs pl pu .none (by simp) ?_ (by rw[aq]<;>omega);rw[NZ,<-hlen];refine⟨.ref s.heap.objs.size,_,I.laid (t':=s.toks) (o:=.lst (oA xs lo hi)) (fun b ob q=>ay _ q) (az _) ?_,rfl,q _ (I.b9.fresh (az _))⟩;exact⟨aR (Fx xs lo hi) hz,_,0,(r.drop (HT.cV xs.length 0 lo)).take (HT.cV xs.length xs.length hi-HT.cV xs.length 0 lo),aG _ rfl⟩
noncomputable def xb:V->Bool
 | .non=>true
 | .bl _=>true
 | .int _=>true
 | .str _=>true
 | _=>false
noncomputable def Cc:V->V->Bool
 | .non,.non=>true
 | .bl a,.bl b=>a==b
 | .bl a,.int b=>(if a then 1 else 0)==b
 | .int a,.bl b=>a==(if b then 1 else 0)
 | .int a,.int b=>a==b
 | .str a,.str b=>a==b
 | _,_=>false
theorem Dx{A:Around}{s:Shared}{y x:V}{u v:Value}(ry:RelV y u)(rx:RelV x v)(fy:xb y=true)(fx:xb x=true):SeqAt.EqAt A s u v (Cc y x):=by
 cases y with
 | non=>
  cases ry;cases x with
  | non=>cases rx;exact SeqAt.EqAt.same _
  | bl b=>cases rx;exact SeqAt.EqAt.none_bool b
  | int b=>obtain⟨t,rfl⟩:=rx;exact SeqAt.EqAt.none_int b t
  | str b=>obtain⟨t,rfl⟩:=rx;exact SeqAt.EqAt.none_str b t
  | _=>exact absurd (show false=true from fx) ax
 | bl a=>
  cases ry;cases x with
  | non=>cases rx;exact SeqAt.EqAt.bool_none a
  | bl b=>cases rx;exact SeqAt.EqAt.bool_bool a b
  | int b=>obtain⟨t,rfl⟩:=rx;exact SeqAt.EqAt.bool_int a b t
  | str b=>obtain⟨t,rfl⟩:=rx;exact SeqAt.EqAt.bool_str a b t
  | _=>exact absurd (show false=true from fx) ax
 | int a=>
  obtain⟨t',rfl⟩:=ry;cases x with
  | non=>cases rx;exact SeqAt.EqAt.int_none a t'
  | bl b=>cases rx;exact SeqAt.EqAt.int_bool a t' b
  | int b=>obtain⟨t,rfl⟩:=rx;exact SeqAt.EqAt.int_int a t' b t
  | str b=>obtain⟨t,rfl⟩:=rx;exact SeqAt.EqAt.int_str a t' b t
  | _=>exact absurd (show false=true from fx) ax
 | str a=>
  obtain⟨t',rfl⟩:=ry;cases x with
  | non=>cases rx;exact SeqAt.EqAt.str_none a t'
  | bl b=>cases rx;exact SeqAt.EqAt.str_bool a t' b
  | int b=>obtain⟨t,rfl⟩:=rx;exact SeqAt.EqAt.str_int a t' b t
  | str b=>obtain⟨t,rfl⟩:=rx;exact SeqAt.EqAt.str_str a t' b t
  | _=>exact absurd (show false=true from fx) ax
 | _=>exact absurd (show false=true from fy) ax
theorem js:fj X (compareOp .NotIn) (fun x y H Q=>∃i j,x=.str i/\y=.str j/\Q (.bl (!(!(Builtin.Str.occurrences j i 0 j.length 1).isEmpty))) H):=by
 intro pins s σ H x y v u Q I rx ry h;obtain⟨i,j,rfl,rfl,q⟩:=h;obtain⟨t,rfl⟩:=rx;obtain⟨t',rfl⟩:=ry;exact notIn_str ⟨.bl _,H,I,rfl,q⟩
theorem gK:dn X (.builtin "len") (fun xs H Q=>∃p ys,xs=[.ref p]/\(eW X.K H p ys\/et X.K H p ys)/\Q (.int ys.length) H):=by
 intro pins s σ H xs us Q I r h;obtain⟨p,ys,rfl,hq,q⟩:=h;obtain⟨u,rfl,rx⟩:=mQ r;cases rx;have hn:=sZ;rcases hq with hq | hq
 ·obtain⟨its,r',pl,hz⟩:=I.list hq;have hlen:=r'.length;exact Calls.call_len_list pl.isList (by simp only[aq]<;>omega) ⟨.int ys.length,H,I.tok _,⟨s.toks+1,by rw[aq,hlen]⟩,q⟩
 ·obtain⟨its,r',pl,hz⟩:=I.tuple hq;have hlen:=r'.length;exact len_tuple pl (by simp only[aq]<;>omega) ⟨.int ys.length,H,I.tok _,⟨s.toks+1,by rw[aq,hlen]⟩,q⟩
theorem NB:dn X (.builtin "len") (fun xs H Q=>∃z,xs=[.str z]/\z.length<=sizeLine/\Q (.int z.length) H):=by
 intro pins s σ H xs us Q I r h;obtain⟨z,rfl,hz,q⟩:=h;obtain⟨u,rfl,t,rfl⟩:=mQ r;have hn:=sZ;exact len_str (by omega) ⟨.int z.length,H,I.tok _,⟨_,rfl⟩,q⟩
theorem dn.or{f:Value}{r r':List V->Hp->VK->Prop}(h:dn X f r)(h':dn X f r'):dn X f (fun xs H Q=>r xs H Q\/r' xs H Q):=by
 intro pins s σ H xs us Q I rs q;rcases q with q | q
 ·exact h pins s σ H xs us Q I rs q
 ·exact h' pins s σ H xs us Q I rs q
def vd(K:PySem.W.Frag)(T:String)(x:V)(H:Hp):Prop:=match x with
 | .str _=>T="str"
 | .int _=>T="int"
 | .ref p=>(T="list"/\∃xs,eW K H p xs)\/(T="tuple"/\∃o,K.lookup p=some o/\o.cls=.type "tuple"/\o.dict=none)\/
   (T="dict"/\((∃bF ep,H p=some (.dK bF ep))\/∃bF bs,H p=some (.dT bF bs)))\/(T="set"/\∃S n,H p=some (.set S n))
 | _=>False
theorem Dw{pins:List (Addr×Obj)}{σ:St}{H:Hp}{s:Shared}{T:String}{x:V}{v:Value}(I:Inv X pins σ H s)(r:RelV x v)(ty:vd X.K T x H) :
  s.TypeIs v T/\∀a,v=.ref a->∃ob,s.heap.get? a=some ob/\ob.dict=none:=by
 cases x with
 | str z=>
  obtain⟨t,rfl⟩:=r;cases (show T="str" from ty);exact⟨typeIs_str s z t,fun _ e=>nomatch e⟩
 | int i=>
  obtain⟨t,rfl⟩:=r;cases (show T="int" from ty);exact⟨typeIs_int s i t,fun _ e=>nomatch e⟩
 | ref p=>
  cases r;rcases ty with⟨rfl,xs,hq⟩ | ⟨rfl,o,hk,hc,hd⟩ | ⟨rfl,hk⟩ | ⟨rfl,S,n,hk⟩
  ·obtain⟨its,_,pl,_⟩:=I.list hq;refine⟨pl.isList.typeIs,fun a e=>?_⟩;cases e;obtain⟨o,n,e,c,hd,_⟩:=pl;exact⟨o,e,hd⟩
  ·refine⟨⟨o,I.jU p o hk,hc⟩,fun a e=>?_⟩;cases e;exact⟨o,I.jU _ o hk,hd⟩
  ·have z:∃o,s.heap.get? p=some o/\o.ExactDict:=by
    rcases hk with⟨bF,ep,hk⟩ | ⟨bF,bs,hk⟩
    ·obtain⟨_,_,_,_,o,_,e,ex,_⟩:=I.b9 p _ hk;exact⟨o,e,ex⟩
    ·obtain⟨_,_,_,_,_,o,_,_,e,ex,_⟩:=I.b9 p _ hk;exact⟨o,e,ex⟩
   obtain⟨o,e,ex⟩:=z;refine⟨⟨o,e,ex.1⟩,fun a e2=>?_⟩;cases e2;exact⟨o,e,ex.2.1⟩
  ·obtain⟨o,_,_,_,e,ex,_⟩:=I.b9 p _ hk;refine⟨⟨o,e,ex.1⟩,fun a e2=>?_⟩;cases e2;exact⟨o,e,ex.2.1⟩
 | _=>exact False.elim ty
def CA(K:PySem.W.Frag)(T:String)(r:V->List V->Hp->VK->Prop)(to:TE):TE:=fun σ H Q=>to σ H fun x H1=>vd K T x H1/\r x [] H1 Q
def vj(K:PySem.W.Frag)(T:String)(r:V->List V->Hp->VK->Prop)(to:TE)(t:TA):TE:=fun σ H Q=>to σ H fun x H1=>vd K T x H1/\t σ H1 fun xs H2=>r x xs H2 Q
variable {o e:Expr} {es:List Expr} {to:TE} {t:TA} {name:Str} {apos cW:Pos} {T id:String} {r:V->List V->Hp->VK->Prop}
theorem Iw(pa:PlainAttrs T)(slot:Slot T name id)(vE:typeOf (.builtin id)=pure (.type "method_descriptor"))(hm:Cp X id r)(ho:PE X o to)
  (fF:attributeBase o name X.env (eval o X.env)=eval o X.env:=by rfl) (gH:(apos.endLine==cW.line)=true:=by rfl):PE X (.Call (.Attribute o name apos) [] [] cW) (CA X.K T r to):=by
 intro pins s σ H Q I h;refine wpAny_Call_method0_late fF gH (cy (ho pins s σ H _ I h) fun v s1 bQ=>?_);obtain⟨x,H1,I1,r1,ty,q1⟩:=bQ;obtain⟨h1,h2⟩:=Dw I1 r1 ty;exact⟨T,id,pa,slot,vE,h1,h2,Calls.callWith_builtin rfl (PySem.evalArgs_none (hm pins s1 σ H1 x [] v [] Q I1 r1 .nil q1))⟩
theorem ur(pa:PlainAttrs T)(slot:Slot T name id)(vE:typeOf (.builtin id)=pure (.type "method_descriptor"))(hm:Cp X id r)(ho:PE X o to)(ha:PA X (e::es) t)
  (fF:attributeBase o name X.env (eval o X.env)=eval o X.env:=by rfl)
  (si:((backTo cW (starEach (e::es) X.env)).all (fun x=>!x.1)&&(backToKw cW (keywordEach [] X.env)).all (fun x=>x.1.isSome)
   && decide ((e::es).length+([]:List Keyword).length+(if ([]:List Keyword).isEmpty then 0 else 1)<30))=true:=by rfl)
  (gH:(apos.endLine==cW.line)=true:=by rfl) (hs:starEach (e::es) X.env=(false,eval e X.env)::starEach es X.env:=by rfl) (kR:(backTo cW (starEach es X.env)).any (·.1)=false:=by rfl) :
  PE X (.Call (.Attribute o name apos) (e::es) [] cW) (vj X.K T r to t):=by
 intro pins s σ H Q I h;refine wpAny_Call_method_late fF si gH rfl (cy (ho pins s σ H _ I h) fun v s1 bQ=>?_);obtain⟨x,H1,I1,r1,ty,q1⟩:=bQ;obtain⟨h1,h2⟩:=Dw I1 r1 ty;refine⟨T,id,pa,slot,vE,h1,h2,?_⟩;have hA:=ha cW pins s1 σ H1 _ I1 q1;rw[hs] at hA ⊢;refine Calls.callWith_builtin (by show(false||(backTo cW (starEach es X.env)).any (·.1))=false;rw[kR]<;>rfl) (Calls.evalArgs_plain ?_);exact cy hA fun us s2 bQ=>by obtain⟨vs,H2,I2,r2,q2⟩:=bQ;exact hm pins s2 σ H2 x vs v us Q I2 r1 r2 q2
end
end L2
namespace L2
open PySem PySem.Spec PyProof.Rows
def yo(X:Cx)(id:String)(r:V->List V->Hp->VK->Prop):Prop:=
 ∀(pins:List (Addr×Obj)) (s:Shared) (σ:St) (H:Hp) (x:V) (xs:List V) (v:Value) (us:List Value) (Q:VK),Inv X pins σ H s->RelV x v->Vals xs us->r x xs H Q->
  wpAny (model X.prog X.w) X.A (call (.builtin id) (v::us)) (EP X pins σ Q) X.xe s
theorem Vals.one:∀{x:V} {us:List Value},Vals [x] us->∃u,us=[u]/\RelV x u
 | _,_,.cons r .nil=>⟨_,rfl,r⟩
theorem Vals.zero:∀{us:List Value},Vals [] us->us=[]
 | _,.nil=>rfl
theorem Vals.dropLast{xs:List V}{us:List Value}(h:Vals xs us):Vals xs.dropLast us.dropLast:=by
 induction h with
 | nil=>exact .nil
 | cons r t ih=>
  cases t with
  | nil=>exact .nil
  | cons q t'=>exact .cons r ih
theorem Vals.rep{xs:List V}{us:List Value}(h:Vals xs us):∀k:Nat,Vals (List.replicate k xs).flatten (List.replicate k us).flatten
 | 0=>.nil
 | k+1=>by
  rw[List.replicate_succ,List.replicate_succ,List.flatten_cons,List.flatten_cons];exact Vals.append h (Vals.rep h k)
theorem MD{α:Type}(l:List α):l.eraseIdx (l.length-1)=l.dropLast:=by
 induction l with
 | nil=>rfl
 | cons a r ih=>
  cases r with
  | nil=>rfl
  | cons b r=>
   have e:(a::b::r).length-1=((b::r).length-1)+1:=by
    have h1:(a::b::r).length=r.length+2:=rfl;have h2:(b::r).length=r.length+1:=rfl;omega
   rw[e,List.eraseIdx_cons_succ,ih];all_goals rfl
theorem E7(its:List Value):∀(k:Nat) (acc:List Value),
  List.foldl (fun x1 x2=>x1++x2) acc.toArray (List.replicate k its.toArray)=(acc++(List.replicate k its).flatten).toArray
 | 0,acc=>by simp
 | k+1,acc=>by
  have e:acc.toArray++its.toArray=(acc++its).toArray:=by simp
  have e2:(acc++its)++(List.replicate k its).flatten=acc++(List.replicate (k+1) its).flatten:=by
   rw[List.replicate_succ,List.flatten_cons,List.append_assoc]
  rw[<-e2,<-E7 its k (acc++its),<-e,List.replicate_succ,List.foldl_cons]
section
variable {X:Cx} {pins:List (Addr×Obj)} {σ:St} {H:Hp} {s:Shared} {l b:Addr} {xs ys zs:List V}
theorem Inv.pw{its its':List Value}{n:Nat}{f:Array Value->Array Value}{t':Nat}(I:Inv X pins σ H s)(hH:H l=some (.lst xs))
  (e:s.heap.get? l=some { cls:=.type "list",data:=.seq its.toArray n }) (hf:f its.toArray=its'.toArray) (hv:Vals ys its') (hz:ys.length<=sizeLine) :
  Inv X pins σ (upd H l (.lst ys)) { s with heap:=s.heap.update l (Obj.mapSeq f),toks:=t' }:=by
 have q:=PySem.IsL.update e f;rw[hf] at q;refine I.write (x:=l) (e:=l) (by rw[hH];exact trivial) (.inl rfl) (fun b' u hb hu=>(Heap.get?_update_other s.heap (Obj.mapSeq f) (Ne.symm hb)).trans hu) ⟨_,q⟩ ?_;exact⟨hz,its',_,hv,q⟩
theorem Inv.px{its:List Value}{t':Nat}(I:Inv X pins σ H s)(hv:Vals ys its)(hz:ys.length<=sizeLine) :
  Inv X pins σ (upd H s.heap.objs.size (.lst ys)) { s with heap:=s.heap.push { cls:=.type "list",data:=.seq its.toArray },toks:=t' }:=
 I.laid (fun _ _ q=>ay _ q) (az _) ⟨hz,its,0,hv,aG _ rfl⟩
theorem Inv.fresh(I:Inv X pins σ H s):H s.heap.objs.size=none:=I.b9.fresh (az _)
theorem Inv.mq(I:Inv X pins σ H s)(hH:H l=some (.lst xs)):xs.length<=sizeLine/\∃(its:List Value) (n:Nat),Vals xs its/\xs.length=its.length/\s.heap.get? l=some { cls:=.type "list",data:=.seq its.toArray n }:=by
 obtain⟨z,its,n,r,e⟩:=I.b9 l _ hH;exact⟨z,its,n,r,r.length,e⟩
theorem zP{n:Nat}(h:n<=sizeLine):Builtin.List.listTooLong n=false:=by
 unfold Builtin.List.listTooLong;exact aw (by omega)
end
section
variable {X:Cx}
def xv:V->List V->Hp->VK->Prop:=fun x vs H Q=>∃l xs y,x=.ref l/\vs=[y]/\H l=some (.lst xs)/\xs.length<sizeLine/\Q .non (upd H l (.lst (xs++[y])))
theorem Ab:yo X "list.append" xv:=by
 intro pins s σ H x vs v us Q I rx rv h;obtain⟨l,xs,y,rfl,rfl,hH,hz,q⟩:=h;cases rx;obtain⟨u,rfl,ru⟩:=rv.one;obtain⟨z,its,n,r,hl,e⟩:=I.mq hH;refine call_meets F.slot_list_append ⟨_,e,rfl⟩ F.entry_list_append (F.args_list_append_2 _ _) (PySem.list_append l its.toArray n u (by rw[aq];omega)) ⟨e,?_⟩;refine⟨.non,_,I.pw (its':=its++[u]) hH e (by simp) (r.append (.cons ru .nil)) ?_,rfl,q⟩;rw[aC,List.length_singleton];omega
def DX:V->List V->Hp->VK->Prop:=fun x vs H Q=>∃l b xs zs,x=.ref l/\vs=[.ref b]/\H l=some (.lst xs)/\H b=some (.lst zs)/\xs.length+zs.length<=sizeLine/\Q .non (upd H l (.lst (xs++zs)))
theorem Ml:yo X "list.extend" DX:=by
 intro pins s σ H x vs v us Q I rx rv h;obtain⟨l,b,xs,zs,rfl,rfl,hH,hB,hz,q⟩:=h;cases rx;obtain⟨u,rfl,ru⟩:=rv.one;cases ru;obtain⟨z,its,n,r,hl,e⟩:=I.mq hH;obtain⟨z2,gZ,n2,r2,tL,e2⟩:=I.mq hB;have hsz:its.toArray.size+gZ.toArray.size<=sizeLine:=by rw[aq,aq];omega
 have jX:¬(!its.toArray.isEmpty&&Builtin.List.listTooLong (its.toArray.size+gZ.toArray.size))=true:=by
  rw[zP hsz,Bool.and_false];exact ax
 refine call_meets F.slot_list_extend ⟨_,e,rfl⟩ F.entry_list_extend (F.args_list_extend_2 _ _)
  (AutoSeq1.list_extend_list_list_0 l its.toArray n b gZ.toArray n2 jX (by rw[aq];omega) (by omega)) ⟨e,e2,?_⟩
 refine⟨.non,_,I.pw (its':=its++gZ) hH e (by simp) (r.append r2) ?_,rfl,q⟩;rw[aC];omega
def Cz:V->List V->Hp->VK->Prop:=fun x vs H Q=>∃l xs y,x=.ref l/\vs=[]/\H l=some (.lst xs)/\xs[xs.length-1]?=some y/\Q y (upd H l (.lst xs.dropLast))
theorem Iu:yo X "list.pop" Cz:=by
 intro pins s σ H x vs v us Q I rx rv h;obtain⟨l,xs,y,rfl,rfl,hH,hy,q⟩:=h;cases rx;have Pu:=rv.zero;subst Pu;obtain⟨z,its,n,r,hl,e⟩:=I.mq hH;obtain⟨u,hu,ru⟩:=r.get hy;have Po:its.toArray[its.toArray.size-1]?=some u:=by
  show its.toArray[its.length-1]?=some u;rw[<-Array.getElem?_toList,<-hl];exact hu
 refine call_meets F.slot_list_pop ⟨_,e,rfl⟩ F.entry_list_pop (F.args_list_pop_1 _) (MeetsSeq.list_pop_last l its.toArray n u Po (by rw[aq];omega)) ⟨e,?_⟩;refine⟨y,_,I.pw (its':=its.dropLast) hH e ?_ r.dropLast ?_,ru,q⟩
 ·show its.toArray.eraseIdxIfInBounds (its.toArray.size-1)=its.dropLast.toArray;rw[aq,List.eraseIdxIfInBounds_toArray,MD]
 ·rw[List.length_dropLast];omega
def Hx:R2:=fun x y H Q=>∃l k xs,x=.ref l/\y=.int k/\H l=some (.lst xs)/\-(2 ^ 63)<=k/\k<2 ^ 63/\xs.length*k.toNat<=sizeLine/\
 ∀p,H p=none->Q (.ref p) (upd H p (.lst (List.replicate k.toNat xs).flatten))
theorem Km{α:Type}(xs:List α)(k:Nat):(List.replicate k xs).flatten.length=k*xs.length:=by
 induction k with
 | zero=>simp
 | succ k ih=>rw[List.replicate_succ,List.flatten_cons,aC,ih,Nat.succ_mul,Nat.add_comm]
theorem Ir:fj X (binaryOp .Mult) Hx:=by
 intro pins s σ H x y v u Q I rx ry h;obtain⟨l,k,xs,rfl,rfl,hH,h1,h2,hz,q⟩:=h;cases rx;obtain⟨t,rfl⟩:=ry;obtain⟨z,its,n,r,hl,e⟩:=I.mq hH;have hlen:its.toArray.size*k.toNat<=sizeLine:=by rw[aq,<-hl];exact hz
 have BZ:¬its.toArray.size*k.toNat>(2 ^ 63-1)/8:=by
  have:(sizeLine:Nat)<=(2 ^ 63-1)/8:=by decide
  omega
 have BP:¬(!Builtin.List.listFitsIndex k)=true:=by
  rw[fitsIndex_both h1 h2];exact ax
 have jX:¬Builtin.List.listTooLong (its.toArray.size*k.toNat)=true:=by
  rw[zP hlen];exact ax
 have BF:List.foldl (fun x1 x2=>x1++x2) #[] (List.replicate (if its.toArray.isEmpty=true then 0 else k.toNat) its.toArray)=(List.replicate k.toNat its).flatten.toArray:=by
  have f0:∀m:Nat,List.foldl (fun x1 x2=>x1++x2) #[] (List.replicate m its.toArray)=(List.replicate m its).flatten.toArray:=fun m=>by
   have:=E7 its m [];rw[List.nil_append] at this;exact this
  rw[f0];cases its with
  | nil=>simp
  | cons a r'=>rw[if_neg (by simp)]
 refine wpAny_binaryOp_repeat_ref (T:="list") (U:="int") (by decide) ⟨_,e,rfl⟩ (fun s'=>typeIs_int s' k t) noFill_list_mul F.fills_int_mul F.slot_int_rmul repeat_list F.slot_int_index.lookup
  (call_meets F.slot_int_rmul (typeIs_int s k t) F.entry_int_rmul (F.args_int_rmul_2 _ _) (int___rmul___int_list k t l its.toArray n)
   ⟨e,rfl,⟨_,e,rfl⟩,call_meets F.slot_list_mul ⟨_,e,rfl⟩ F.entry_list_mul (F.args_list_mul_2 _ _) (AutoListH.list___mul___list_int_3 l its.toArray n k t BP BZ jX) ⟨e,?_⟩⟩)
 rw[BF];exact⟨.ref _,_,I.px (t':=s.toks) (r.rep k.toNat) (by rw[Km,Nat.mul_comm];exact hz),rfl,q _ I.fresh⟩
end
section
variable {prog:Program} {w:World} {A:Around} {E:Value->Shared->Prop} {s:Shared}
end
end L2
namespace GP
open PySem PySem.W PySem.Calls PyProof.Rows
theorem Oj{P:Params}{h:Heap}:∀(ns:List Int) (vs:List Value),WellAll P h vs (ns.map WData.int)->IntsAre vs ns:=by
 intro ns;induction ns with
 | nil=>
  intro vs w;rw[List.map_nil] at w;cases w;exact .nil
 | cons n ns ih=>
  intro vs w;rw[ao] at w;cases w with
  | cons a b=>
   cases a;exact .cons _ _ (ih _ b)
theorem Mj{l:OpenLaw}{n:Nat}(hn:l.most=some n){P:Params}{h:Heap}{args:List WData}{vals:List Value}
  (pD:l.row.toRowW.claim.pre args=true) (Bp:WellAll P h vals args) :
  ∃a vs ns,vals=[Value.ref a]/\args=[WData.list (ns.map WData.int)]/\h.get? a=some { cls:=.type "list",data:=.seq vs.toArray }/\IntsAre vs ns/\ns.length<=n:=by
 have PF:WShape.hasAll [] args [.list .int]=true:=(pre_splitW pD).1;have hc:l.pre.holds [] { args:=args }=true:=(pre_splitW pD).2;obtain⟨d,r,rfl,h1,h2⟩:=hasAllW_cons PF;obtain rfl:=hasAllW_nil h2;obtain⟨xs,rfl,h3⟩:=hasW_list h1;obtain⟨ns,rfl⟩:=items_int h3;have hlen:ns.length<=n:=by
  unfold OpenLaw.pre at hc;have h4:(WTm.not (.lt (.lit (.int (n:Int))) (.len (.arg 0)))).holds [] { args:=[.list (ns.map .int)] }=true:=by
   have h4:=(holds_andW hc).1;rw[hn] at h4;exact h4
  have h5:=condW_of h4 (w_not (w_lt w_lit (w_len_list (w_arg rfl))));rw[af] at h5;refine Nat.le_of_not_lt fun q=>?_
  have q':(n:Int)<((ns.length:Nat):Int):=by omega
  first
   | (rw[bf q'] at h5;exact absurd h5 (by decide))
   | (simp at h5;omega)
 cases Bp with
 | cons w1 w2=>
  cases w2;cases w1 with
  | list ho dF=>exact⟨_,_,ns,rfl,rfl,ho,Oj ns _ dF,hlen⟩
theorem Mi(l:OpenLaw)(args:List WData):l.row.toRowW.claim.post args (.bool true) args=true:=
 postW_of (r:=l.row.toRowW) (X:=(true==true))
  (show WShape.has [] (.bool true) .bool=true by first | rfl | decide | simp[WShape.has,WShape.arms,WShape.armsAll])
  (show(WTm.eq .res (.lit (.bool true))).value [] { args:=args,res:=some (.bool true),after:=args }=some (.bool (true==true)) from w_eq_bool (w_res rfl) w_lit) rfl
theorem j1{l:OpenLaw}{n:Nat}{q:Program}{loose:List Str}{XP:(Str->Option Value)->Heap->Prop}{YP:World->Heap->Prop}{d:DefRec}
  (hn:l.most=some n) (BW:d.params.defaults=[])
  (call:∀(w:World) (cY bW:Shared) (mg mb:Str->Option Value) (fa:Addr) (o:Obj) (pm cd doc:Value) (a:Addr) (vs:List Value) (ns:List Int),
   Ground q loose [] XP w cY mg mb bW.heap->YP w bW.heap->
   bW.heap.get? fa=some o->o.data=.func (docDef d.name d.params d.body d.scope pm cd doc)->bW.heap.CodeRec cd d.name->mg d.name=some (.ref fa)->
   bW.heap.get? a=some { cls:=.type "list",data:=.seq vs.toArray }->IntsAre vs ns->ns.length<=n->bW.gens=#[]->
   codeAny (model l.prog w) callerA (.call (.ref fa) ⟨[.ref a],[]⟩) (fun r s'=>r=.ok (.ret (.bool true))/\OldK bW.heap s'.heap/\s'.os=bW.os/\AllBare s'.gens) bW) :
  WalkO q loose XP YP l.row.toRowW d [] (fun f vs=>PySem.call f vs):=by
 intro w cY bW mg mb G Y fa o pm cd doc dV kV ho hd fK hD pG hg args vals as pD P8 Rz Bp RG;obtain rfl:dV=.none:=Dflts.none hD BW;obtain rfl:kV=.none:=Dflts.noKw hD;obtain⟨a,vs,ns,rfl,rfl,pF,hints,hlen⟩:=Mj hn pD Bp;refine enter_call (codeAny_mono (call w cY bW mg mb fa o pm cd doc a vs ns G Y ho (fd_plain hd) fK pG pF hints hlen hg) fun r s' hq=>?_);obtain⟨rfl,h2,h3,h4⟩:=hq;exact⟨.inl ⟨.bool true,.bool true,[],rfl,fun _=>rfl,.bool true,Mi l _,fun _=>⟨List.Pairwise.nil,fun _ hm=>(nomatch hm)⟩⟩,h2,h3,h4⟩
end GP
namespace L2
open PySem PySem.Spec PyProof.Rows
theorem EZ:∀{vs:List Value} {ns:List Int},IntsAre vs ns->Vals (ns.map V.int) vs
 | _,_,.nil=>.nil
 | _,_,.cons n t h=>.cons ⟨t,rfl⟩ (EZ h)
def Cy(H:Hp):Prop:=∀b,H b=none\/∃o xs,H b=some (.iQ o (.lst xs))
theorem L8{P:Program}{w:World}{K:PySem.W.Frag}{mg mb:Str->Option Value}{CX:oZ}{k:Nat}{fa a:Addr}{fd:FuncData}{x:Str}{sp:Sp}{bW:Shared}{vs:List Value}{ns:List Int}
  (KX:K.In bW.heap) (lP:bW.heap.Ns mainGlobals mg) (hb:bW.heap.Ns builtinsNs mb) (yg:∀x:Str,x≠"__name__"->mb x=bootBuiltins x) (BI:bW.heap.NoLimit) (hg:bW.gens=#[])
  (ha:bW.heap.get? a=some { cls:=.type "list",data:=.seq vs.toArray }) (hi:IntsAre vs ns) (hl:ns.length<=sizeLine) (hr:dA k callerA)
  (F:∀base:Heap,K.In base->base.Ns mainGlobals mg->g8 P w K mg base CX k fa fd [x] sp) (v7:∀(s:Shared) (u:Value),BindsTo s fd ⟨[u],[]⟩ [(x,u)])
  (m9:∀H:Hp,Cy H->eW K H a (ns.map V.int)->sp [.ref a] H (fun v _=>v=.bl true) fun _ _ _=>False)
  (QE:∀H e s',CX [] H bW (fun _ _ _=>False) e s'->False) :
  codeAny (model P w) callerA (.call (.ref fa) ⟨[.ref a],[]⟩) (fun r s'=>r=.ok (.ret (.bool true))/\OldK bW.heap s'.heap/\s'.os=bW.os/\AllBare s'.gens) bW:=by
 have rv:=EZ hi;have Be:=hi.length
 -- from an abstract heap in FD nothing but nJ nP may be tracked
 have core:∀H:Hp,Cy H->eW K H a (ns.map V.int)->gk P w H bW.heap->(∀b,H b≠none->b=a)->(H a≠none->K.lookup a=none)->
   codeAny (model P w) callerA (.call (.ref fa) ⟨[.ref a],[]⟩) (fun r s'=>r=.ok (.ret (.bool true))/\OldK bW.heap s'.heap/\s'.os=bW.os/\AllBare s'.gens) bW:=by
  intro H hO hS b9 hA hK;have lV:∀{b:Addr} {o:Obj},bW.heap.get? b=some o->H b=none->(o7 bW.heap H).get? b=some o:=fun e n=>LZ e n
  have vw:∀{b:Addr} {o:Obj} {es:Array DictEntry} {ep:Nat},bW.heap.get? b=some o->o.data=.dict es ep->H b=none:=fun{b o es ep} e d=>by
   cases q:H b with
   | none=>rfl
   | some u=>
    have e':b=a:=hA b (by rw[q];simp);subst e';rw[ha] at e;cases e;have d':Data.seq vs.toArray _=Data.dict es ep:=d;cases d'
  have xZ:∀{b:Addr} {m:Str->Option Value},bW.heap.Ns b m->(o7 bW.heap H).Ns b m:=fun{b m} ⟨o,es,ep,e,d,r⟩=>⟨o,es,ep,lV e (vw e d),d,r⟩
  have Gs:K.In (o7 bW.heap H):=fun b o e=>lV (KX b o e) (by
   cases q:H b with
   | none=>rfl
   | some u=>
    have e':b=a:=hA b (by rw[q];simp);subst e'
    rw[hK (by rw[q];simp)] at e;cases e)
  have hM:Mod K mg (o7 bW.heap H):=⟨Gs,xZ lP,⟨mb,xZ hb,yg⟩,let⟨mc,h1,h2⟩:=BI;⟨mc,xZ h1,h2⟩⟩
  have e0:pN P w K mg (o7 bW.heap H) callerA [] bW H:=⟨rfl,hM,fun b o e=>KA e,Nat.le_of_eq (M3 _ _),trivial,fun b hb=>absurd (show b∈([]:List Addr) from hb) (by simp),b9,.of_eq hg⟩
  refine codeAny_mono ((F _ Gs (xZ lP)).run callerA [] bW H ⟨[.ref a],[]⟩ [.ref a] [.ref a] _ _ hr e0 (v7 bW (.ref a)) (.cons rfl .nil) (m9 H hO hS)) fun r s' h=>?_
  cases r with
  | error e=>exact(QE H e s' h).elim
  | ok fl=>
   cases fl with
   | next=>exact False.elim h
   | brk=>exact False.elim h
   | cont=>exact False.elim h
   | ret u=>
    obtain⟨v,H',os,bare,un,BB,r',q⟩:=h;have q':v=.bl true:=q;subst q';obtain rfl:u=Value.bool true:=r';refine⟨rfl,OldK.of_keep fun b o e=>?_,os,bare⟩;cases q:H b with
    | none=>exact un.keep b o e q (by intro z;exact absurd (show b∈([]:List Addr) from z) (by simp)) (by simp)
    | some u=>
     rcases hO b with z | ⟨ob,xs,z⟩
     ·rw[q] at z;cases z
     ·have z2:=un.g6 b ob _ z;obtain⟨e1,_⟩:=b9 b _ z;obtain⟨e2,_⟩:=BB b _ z2;rw[e] at e1;cases e1;exact e2
 cases hk:K.lookup a with
 | some o=>
  -- nJ nP is one of nJ vy own objects
  have e:=KX a o hk;rw[ha] at e;cases e;refine core (fun _=>none) (fun _=>.inl rfl) (.inr ⟨_,vs.toArray,_,hk,rfl,rfl,rfl,by rw[aq,Be];exact hl,by simpa using rv⟩) (fun b u z=>by have z':(none:Option HO)=some u:=z;cases z') (fun b z=>absurd rfl z) fun z=>absurd rfl z
 | none=>
  refine core (fun b=>if b=a then some (.iQ { cls:=.type "list",data:=.seq vs.toArray } (.lst (ns.map V.int))) else none) (fun b=>?_) (.inl (.inr ⟨{ cls:=.type "list",data:=.seq vs.toArray },if_pos rfl⟩)) (fun b u z=>?_) (fun b z=>?_) fun _=>hk
  ·by_cases hb:b=a
   ·exact .inr ⟨_,_,if_pos hb⟩
   ·exact .inl (if_neg hb)
  ·by_cases hb:b=a
   ·have z':=(if_pos hb).symm.trans z;cases z';subst hb;exact⟨ha,by rw[af];exact hl,vs,_,rv,ha⟩
   ·have z':=(if_neg hb).symm.trans z;cases z'
  ·by_cases hb:b=a
   ·exact hb
   ·exact absurd (if_neg hb) z
end L2
namespace L2
open PySem PySem.Spec PyProof.Rows
noncomputable abbrev kY{K:PySem.W.Frag}{h:Heap}(_:K.In h):PySem.W.Frag:=K
end L2
namespace L2
open PySem PySem.Spec PyProof.Rows
noncomputable def ez(s:Stmt):Arguments:=match s with
 | .FunctionDef _ a _ _ _ _ _ _ _ _=>a
 | _=>{ posonlyargs:=[],args:=[],vararg:=none,kwonlyargs:=[],kw_defaults:=[],kwarg:=none,defaults:=[] }
noncomputable def cK(s:Stmt):List Stmt:=match s with
 | .FunctionDef _ _ b _ _ _ _ _ _ _=>b
 | _=>[]
noncomputable def bG(s:Stmt):Scope:=match s with
 | .FunctionDef _ _ _ _ _ _ sc _ _ _=>sc
 | _=>{ kind:=.function,names:=[],isGenerator:=false,isCoroutine:=false }
abbrev mI:oZ:=fun _ _ _ _ _ _=>False
abbrev E0:XK:=fun _ _ _=>False
theorem HS{X:Cx}:za mI X E0:=fun _ _ _ _ _ _ _ h=>h.elim
structure mH (dV:Value) (K:PySem.W.Frag) (x qual:Str) (st:Stmt) (f:Addr) (fd:FuncData):Prop where
 ex:∃(oc:Value) (od:Option Addr) (kV doc pm:Value) (an:Option Addr) (cG ct:Value) (mZ:Array (Option Value)),
  fd=PySem.W.fnOf x qual (ez st) (cK st) (bG st) dV kV doc pm an cG ct/\K.lookup f=some ⟨oc,od,.func fd,mZ⟩/\PySem.W.codeIn K cG qual=true
 kp:PySem.W.keepIn K (.ref f)=true
noncomputable abbrev GL:=mH .none
section
variable {P:Program} {w:World} {K:PySem.W.Frag} {mg:Str->Option Value} {base:Heap}
theorem mH.ok{dV:Value}{x qual:Str}{st:Stmt}{f:Addr}{fd:FuncData}{N ps:List Str}{k:Nat}{sp:Sp}(F:mH dV K x qual st f fd)(S:bP N ps (bG st))(len:∀vs H Q E,sp vs H Q E->vs.length=ps.length)
  (n6:∀(cG:Value) (A:Around) (outer:List Env) (s:Shared) (H:Hp) (vs:List V) (Q:VK) (E:XK),dA k (A.deeper (envOfC qual (bG st) s.heap.objs.size f cG))->sp vs H Q E->
   ∃t,kA (lY mI P w K mg base N qual (bG st) f cG A outer s H E).qp (cK st) t/\t { nx:=fun _ H'=>Q .non H',rt:=Q } (start N vs) H):g8 P w K mg base mI (k+1) f fd ps sp:=by
 obtain⟨oc,od,kV,doc,pm,an,cG,ct,mZ,rfl,lk,fK⟩:=F.ex;refine CZ lk fK S len fun A outer s H vs Q E hr m9=>?_
 obtain⟨t,h,q⟩:=n6 cG A outer s H vs Q E hr m9;exact⟨t,h.qp,q⟩
theorem mH.binds{x qual:Str}{st:Stmt}{f:Addr}{fd:FuncData}{ps:List Str}(F:GL K x qual st f fd)
  (h:∀(kV doc pm:Value) (an:Option Addr) (cG ct:Value) (us:List Value),us.length=ps.length->bindArgs (PySem.W.fnOf x qual (ez st) (cK st) (bG st) .none kV doc pm an cG ct) ⟨us,[]⟩=pure (ps.zip us)):Binds K fd ps []:=by
 obtain⟨oc,od,kV,doc,pm,an,cG,ct,mZ,rfl,lk,fK⟩:=F.ex;exact .all (h kV doc pm an cG ct)
theorem Jj{x qual:Str}{st:Stmt}{f:Addr}{oc:Value}{od an:Option Addr}{mZ:Array (Option Value)}{dV kV doc pm cG ct:Value}(l:K.lookup f=some ⟨oc,od,.func (PySem.W.fnOf x qual (ez st) (cK st) (bG st) dV kV doc pm an cG ct),mZ⟩)
  (c:PySem.W.codeIn K cG qual=true) (k:PySem.W.keepIn K (.ref f)=true):mH dV K x qual st f (PySem.W.fnOf x qual (ez st) (cK st) (bG st) dV kV doc pm an cG ct):=⟨⟨oc,od,kV,doc,pm,an,cG,ct,mZ,rfl,l,c⟩,k⟩
end
def bM(H H':Hp):Prop:=∀b o,H b=some o->H' b=some o
theorem bM.refl(H:Hp):bM H H:=fun _ _ h=>h
theorem bM.trans{H H1 H2:Hp}(a:bM H H1)(b:bM H1 H2):bM H H2:=fun c o h=>b c o (a c o h)
theorem bM.free{H H':Hp}(e:bM H H'){l:Addr}(h:H' l=Option.none):H l=Option.none:=by
 cases q:H l with
 | none=>rfl
 | some o=>
  rw[e l o q] at h;cases h
end L2
set_option maxHeartbeats 0
namespace L2
open PySem PySem.Spec PyProof.Rows
def iR(K:PySem.W.Frag)(H:Hp)(a:Addr)(xs:List V):Prop:=
 Rd H a (.lst xs)\/∃(its:Array Value) (n:Nat),K.lookup a=some { cls:=.type "list",data:=.seq its n }/\its.size<=sizeLine/\Vals xs its.toList
theorem iR.of{K:PySem.W.Frag}{H:Hp}{a:Addr}{xs:List V}(h:H a=some (.lst xs)):iR K H a xs:=.inl (.inl h)
theorem iR.sq{K:PySem.W.Frag}{H:Hp}{a:Addr}{xs:List V}(h:iR K H a xs):eW K H a xs:=by
 rcases h with h | ⟨its,n,h1,h2,h3⟩
 ·exact .inl h
 ·exact .inr ⟨_,its,n,h1,rfl,rfl,rfl,h2,h3⟩
theorem bM.gi{K:PySem.W.Frag}{H H':Hp}{a:Addr}{xs:List V}(e:bM H H')(h:iR K H a xs):iR K H' a xs:=by
 rcases h with(h | ⟨o,h⟩) | h
 ·exact .inl (.inl (e _ _ h))
 ·exact .inl (.inr ⟨o,e _ _ h⟩)
 ·exact .inr h
theorem Inv.gi{X:Cx}{pins:List (Addr×Obj)}{σ:St}{H:Hp}{s:Shared}{a:Addr}{xs:List V}(I:Inv X pins σ H s)(h:iR X.K H a xs):xs.length<=sizeLine/\∃(its:List Value) (n:Nat),Vals xs its/\s.heap.get? a=some { cls:=.type "list",data:=.seq its.toArray n }:=by
 rcases h with h | ⟨its,n,h1,h2,h3⟩
 ·obtain⟨z,its,n,r,e⟩:=h.ok I.b9;exact⟨z,its,n,r,e⟩
 ·refine⟨by rw[h3.length];simpa using h2,its.toList,n,h3,?_⟩;rw[Array.toArray_toList];exact I.jU a _ h1
noncomputable def jI(cells:List (Str×Addr)):List (Str×NameKind)->List (Str×Addr)->List (Str×Addr)
 | [],acc=>acc
 | (n,k)::r,acc=>jI cells r (if k==.free then(n,(cells.lookup n).getD 0)::acc else acc)
theorem Fu{env:Env}:∀(names:List (Str×NameKind)) (acc:List (Str×Addr)),(∀x∈names,x.2=.free->∃c,env.cells.lookup x.1=some c)->
  (forIn names acc fun(x:Str×NameKind) (r:List (Str×Addr))=>
   (if (x.2==NameKind.free)=true then do let a <-cellOf env x.1;pure (ForInStep.yield ((x.1,a)::r)) else pure (ForInStep.yield r):Sem (ForInStep (List (Str×Addr)))))=pure (jI env.cells names acc)
 | [],acc,_=>by simp[jI]
 | (n,k)::r,acc,h=>by
  have ih:=fun kW=>Fu (env:=env) r kW fun x hx=>h x (ar _ hx)
  rw[List.forIn_cons];by_cases hk:k=.free
  ·subst hk;obtain⟨c,hc⟩:=h (n,.free) (by simp) rfl;have e1:cellOf env n=pure c:=by unfold cellOf;rw[hc]
   simp only[beq_self_eq_true,bC,e1,pure_bind];rw[ih];simp[jI,hc]
  ·have nZ:(k==NameKind.free)=false:=by simpa using hk
   simp only[nZ,aV,br,pure_bind];rw[ih];simp[jI,nZ]
theorem Ft{env:Env}{scope:Scope}(h:∀x∈scope.names,x.2=.free->∃c,env.cells.lookup x.1=some c):closureFor scope env=pure (jI env.cells scope.names []):=by
 have e:closureFor scope env=(forIn scope.names ([]:List (Str×Addr)) fun(x:Str×NameKind) (r:List (Str×Addr))=>
   (if (x.2==NameKind.free)=true then do let a <-cellOf env x.1;pure (ForInStep.yield ((x.1,a)::r)) else pure (ForInStep.yield r):Sem (ForInStep (List (Str×Addr))))) >>= fun r=>pure r:=rfl
 rw[e,Fu _ _ h];rfl
theorem EC{cells:List (Str×Addr)}:∀{names:List (Str×NameKind)} {acc:List (Str×Addr)} {x:Str} {c:Addr},(x,c)∈jI cells names acc->(x,c)∈acc\/((x,.free)∈names/\c=(cells.lookup x).getD 0)
 | [],acc,x,c,h=>.inl h
 | (n,k)::r,acc,x,c,h=>by
  rcases EC (names:=r) h with h | ⟨h,e⟩
  ·by_cases hk:k=.free
   ·subst hk;simp only[beq_self_eq_true,bC] at h;rcases au.mp h with h | h
    ·cases h;exact .inr ⟨by simp,rfl⟩
    ·exact .inl h
   ·have nZ:(k==NameKind.free)=false:=by simpa using hk
    simp only[nZ,aV,br] at h;exact .inl h
  ·exact .inr ⟨ar _ h,e⟩
theorem EB{cells:List (Str×Addr)}:∀{names:List (Str×NameKind)} {acc:List (Str×Addr)} {p:Str×Addr},p∈acc->p∈jI cells names acc
 | [],acc,p,h=>h
 | (n,k)::r,acc,p,h=>EB (names:=r) (by split<;>simp[h])
theorem zO{cells:List (Str×Addr)}:∀{names:List (Str×NameKind)} {acc:List (Str×Addr)} {x:Str},(x,.free)∈names->∃c,(x,c)∈jI cells names acc
 | (n,k)::r,acc,x,h=>by
  rcases au.mp h with h | h
  ·have e1:x=n:=congrArg Prod.fst h;have e2:NameKind.free=k:=congrArg Prod.snd h;subst e1 e2;refine⟨(cells.lookup x).getD 0,?_⟩;show(x,(cells.lookup x).getD 0)∈jI cells r (if (NameKind.free==NameKind.free)=true then(x,(cells.lookup x).getD 0)::acc else acc);exact EB (by simp)
  ·exact zO (names:=r) h
theorem xN{α:Type}:∀{l:List (Str×α)} {x:Str} {c:α},(x,c)∈l->∃c',l.lookup x=some c'
 | (n,k)::r,x,c,h=>by
  by_cases e:x=n
  ·subst e;exact⟨k,by simp[List.lookup_cons]⟩
  ·have e':(x==n)=false:=by simpa using e
   rcases au.mp h with h | h
   ·cases h;exact absurd rfl e
   ·obtain⟨c',q⟩:=xN h;exact⟨c',by simp[List.lookup_cons,e',q]⟩
theorem AE{env:Env}:∀{names:List (Str×NameKind)} {x:Str},
  (names.map fun(n,k)=>if (k==NameKind.free&&env.scope.kind==.function&&env.kindOf n==some .cell) then(n,NameKind.cell) else(n,k)).lookup x
   = (names.lookup x).map fun k=>if (k==NameKind.free&&env.scope.kind==.function&&env.kindOf x==some .cell) then NameKind.cell else k
 | [],x=>rfl
 | (n,k)::r,x=>by
  have ih:=@AE env r x;rw[ao];have e0:(if (k==NameKind.free&&env.scope.kind==.function&&env.kindOf n==some .cell)=true then(n,NameKind.cell) else(n,k))=(n,if (k==NameKind.free&&env.scope.kind==.function&&env.kindOf n==some .cell)=true then NameKind.cell else k):=by split<;>rfl
  show List.lookup x ((if (k==NameKind.free&&env.scope.kind==.function&&env.kindOf n==some .cell)=true then(n,NameKind.cell) else(n,k))::_)=_;rw[e0];by_cases e:x=n
  ·subst e;rw[List.lookup_cons,List.lookup_cons,beq_self_eq_true];rfl
  ·have e':(x==n)=false:=by simpa using e
   rw[List.lookup_cons,List.lookup_cons,e'];exact ih
theorem AH:∀(names:List (Str×NameKind)) (n:Nat) (acc kW:List (Str×Addr)),cellsFrom n names (acc++kW)=cellsFrom n names acc++kW
 | [],_,_,_=>rfl
 | (x,k)::r,n,acc,kW=>by
  unfold cellsFrom;split
  ·exact AH r (n+1) ((x,n)::acc) kW
  ·exact AH r n acc kW
theorem AG:∀{names:List (Str×NameKind)} {n:Nat} {acc:List (Str×Addr)} {p:Str×Addr},p∈cellsFrom n names acc->p∈acc\/(p.1,.cell)∈names
 | [],_,_,_,h=>.inl h
 | (x,k)::r,n,acc,p,h=>by
  unfold cellsFrom at h;split at h
  ·rename_i hk;rcases AG h with h | h
   ·rcases au.mp h with rfl | h
    ·rw[eq_of_beq hk];exact .inr (by simp)
    ·exact .inl h
   ·exact .inr (ar _ h)
  ·exact(AG h).imp id (ar _)
theorem u9:∀{names:List (Str×NameKind)} {n:Nat} {acc:List (Str×Addr)} {p:Str×Addr},p∈acc->p∈cellsFrom n names acc
 | [],_,_,_,h=>h
 | (x,k)::r,n,acc,p,h=>by
  unfold cellsFrom;split
  ·exact u9 (ar _ h)
  ·exact u9 h
theorem AF:∀{names:List (Str×NameKind)} {n:Nat} {acc:List (Str×Addr)} {x:Str},(x,.cell)∈names->∃c,(x,c)∈cellsFrom n names acc
 | (y,k)::r,n,acc,x,h=>by
  unfold cellsFrom;rcases au.mp h with h | h
  ·cases h;exact⟨n,u9 (by simp)⟩
  ·split
   ·exact AF h
   ·exact AF h
theorem L7{M:Model}{A:Around}{E:Value->Shared->Prop}{s:Shared}{scope:Scope}{globals:Addr}{closure:List (Str×Addr)}{qual:Str}{func:Option Addr}{code:Value}{out:Env}{Q:Env->Shared->Prop}
  (hQ:∀h',h'=pushCells (s.heap.push { cls:=.type "dict",data:=.dict #[] }) scope.names->Q (newEnv scope s.heap.objs.size globals (cellsFrom (s.heap.objs.size+1) scope.names closure) qual func code (some out) builtinsNs) { s with heap:=h' }) :
  wpAny M A (newFunctionEnv scope globals closure [] qual func code (some out)) Q E s:=by
 simp only[newFunctionEnv,Option.isSome_some,bC];refine aa (wpAny_alloc ?_);refine aa (wpAny_layCells _ (fun name kind cells=>by cases Qa:kind==NameKind.cell<;>simp[Qa]) _ _ _ _ ?_);rw[show({ s with heap:=s.heap.push { cls:=.type "dict",data:=.dict #[] } }:Shared).heap.objs.size=s.heap.objs.size+1 from Heap.size_push ..];rw[List.forIn_nil];exact aa (ah (ah (hQ _ rfl)))
noncomputable abbrev gT(X:Cx)(N':List Str)(scope:Scope)(s3:Shared)(H3:Hp)(ex:List Addr):Cx:=
 { X with N:=N',cY:=s3,mG:=H3,env:=compEnvC scope (cellsFrom (s3.heap.objs.size+1) scope.names (jI X.env.cells scope.names [])) s3.heap.objs.size X.env,outer:=X.stack,stack:=X.stack,ex:=ex,fn:=fun x=>scope.names.lookup x==some .cell,pn:=[],xe:=fun _ _=>False }
noncomputable def lL(m:List (Option Nat))(σ:St):St:=m.map fun o=>match o with
 | none=>none
 | some j=>(σ[j]?).join
structure ck (X:Cx) (N':List Str) (m:List (Option Nat)) (scope:Scope):Prop where
 kind:scope.kind=.function
 len:m.length=N'.length
 uniq:∀y∈scope.names,scope.names.lookup y.1=some y.2
 free:∀y∈scope.names,y.2=.free->X.env.kindOf y.1=some .cell\/X.env.kindOf y.1=some .free
 Q0:∀(i j:Nat) (x:Str),m[i]?=some (some j)->N'[i]?=some x->X.N[j]?=some x/\scope.names.lookup x=some .free
def t5(X:Cx)(ifs:List Expr)(t:TT):Prop:=
 ∀(pins:List (Addr×Obj)) (s:Shared) (σ:St) (H:Hp) (Q:Bool->Hp->Prop),Inv X pins σ H s->t σ H Q->
  wpAny (model X.prog X.w) X.A (forIn ifs true fun c r=>if r=true then do let ok <-isTrue c X.env (eval c X.env);pure (ForInStep.yield ok) else pure (ForInStep.yield r)) (TP X pins σ Q) X.xe s
def Hw:TT:=fun _ H Q=>Q true H
theorem Kl{X:Cx}:t5 X [] Hw:=fun _ _ σ H _ I h=>wpAny_tests_nil ⟨H,I,h⟩
theorem Kk{X:Cx}{c:Expr}{t:TT}(h:PT X c t):t5 X [c] t:=fun pins s σ H Q I q=>wpAny_tests_one (h pins s σ H Q I q)
section
variable {prog:Program} {w:World} {A:Around} {R:Result->Shared->Prop} {s:Shared}
theorem Na{elt target iter:Expr}{ifs:List Expr}{scope:Scope}{pos:Pos}{it acc:Value}{env:Env}(I:Nat->Shared->Prop)
  (turn:∀n s,I n s->wpAny (model prog w) A (pyNext it) (fun r bW=>match r with
   | none=>R (.ok .next) bW
   | some v=>wpAny (model prog w) A (letOwnedTupleGo target it v) (fun _ ql=>wpAny (model prog w) A (assign target env v) (fun _ fD=>
     wpAny (model prog w) A (forIn ifs true fun c r=>if r=true then do let ok <-isTrue c env (eval c env);pure (ForInStep.yield ok) else pure (ForInStep.yield r)) (fun ok iX=>
      if ok=true then wpAny (model prog w) A (eval elt env) (fun x pf=>
       wpAny (model prog w) A (call (.builtin "list.append") [acc,x]) (fun _ vm=>∃m,m<n/\I m vm) (fun _ _=>False) pf) (fun _ _=>False) iX
      else ∃m,m<n/\I m iX) (fun _ _=>False) fD) (fun _ _=>False) ql) (fun _ _=>False) bW) (fun _ _=>False) s)
  (n:Nat) (h:I n s) :
  codeAny (model prog w) A (.compLoop (.ListComp elt [⟨target,iter,ifs,0⟩] scope pos) 0 it acc env) R s:=by
 refine codeAny_loop rfl I (fun n s hI=>?_) n h;show wpAny _ A ((compTurn (.ListComp elt [⟨target,iter,ifs,0⟩] scope pos) 0 it acc env).onRaise (fun x=>do noteFrame x env;theTreesLotGoes x)) _ _ s;refine wpAny_noted ?_;rw[compTurn_list];have nv:∀{E:Value->Shared->Prop} (x:Value) (s:Shared),(fun(_:Value) (_:Shared)=>False) x s->E x s:=fun _ _ f=>f.elim
 refine aa (wpAny_standAt (aa (bB (turn n s hI) (fun r bW g0=>?_) nv)));cases r with
 | none=>exact ah g0
 | some v=>
  refine aa (bB g0 (fun _ ql vB=>?_) nv);refine aa (bB vB (fun _ fD nY=>aa (bB nY (fun ok iX pA=>?_) nv)) nv);cases ok with
  | false=>exact ah ⟨rfl,pA⟩
  | true=>
   exact aa (aa (bB pA (fun x pf Bj=>aa (bB Bj (fun _ vm Bi=>ah (ah ⟨rfl,Bi⟩)) nv)) nv))
end
end L2
namespace L2
open PySem PySem.Spec PyProof.Rows
noncomputable abbrev nq(α:Type):=Shared->Hp->List Addr->α
def uq(wi:TI)(m:List (Option Nat))(g:nq TG)(tc:nq TT)(te:nq TE):TE:=fun σ H Q=>wi σ H fun J H1=>∀D,H1 D=none->∀s3 ex,
 ∃W:Nat->Nat->St->Hp->Prop,(∃k,W 0 k (lL m σ) (upd H1 D (.lst [])))/\∀i k bY H',W i k bY H'->
  (J.stop i H'/\Q (.ref D) H')\/(J.go i H'/\∃N:St->Hp->Prop,(∀bY H',N bY H'->∃k',k'<k/\W (i+1) k' bY H')/\
   ∀x H2,J.xO i H' x H2->g s3 (upd H1 D (.lst [])) ex x bY H2 fun i7 H3=>tc s3 (upd H1 D (.lst [])) ex i7 H3 fun b H4=>
    if b=true then te s3 (upd H1 D (.lst [])) ex i7 H4 fun v H5=>∃xs,H5 D=some (.lst xs)/\xs.length<sizeLine/\N i7 (upd H5 D (.lst (xs++[v]))) else N i7 H4)
section
variable {X:Cx} {elt iter tg:Expr} {ifs:List Expr} {scope:Scope} {pos:Pos} {N':List Str} {m:List (Option Nat)} {wi:TI} {g:nq TG} {tc:nq TT} {te:nq TE}
theorem L6{pins:List (Addr×Obj)}{σ:St}{H:Hp}{s:Shared}{fp:List Addr}{g0:Heap}{tk:Nat}(cs:ck X N' m scope)(I:Inv X pins σ H s)(f:∀b∈fp,ip X pins H b)(fo:∀b∈fp,b<s.heap.objs.size)
  (hh:g0=pushCells (s.heap.push { cls:=.type "dict",data:=.dict #[] }) scope.names) :
  Inv (gT X N' scope s H fp) [] (lL m σ) H { s with heap:=g0,toks:=tk }:=by
 have hk:∀b o,s.heap.get? b=some o->g0.get? b=some o:=fun b o e=>by rw[hh];exact pushCells_keeps _ _ b o (ay _ e)
 have lP:g0.Ns s.heap.objs.size (fun _=>none):=by rw[hh];exact(Heap.Ns.new s.heap (.type "dict")).keeps (pushCells_keeps _ _)
 have ok:=cellsFrom_ok scope.names (s.heap.push { cls:=.type "dict",data:=.dict #[] }) (s.heap.objs.size+1) [] ⟨fun _ _ hm=>(nomatch hm),List.Pairwise.nil⟩ (by rw[Heap.size_push];exact az _);rw[Heap.size_push,<-hh] at ok;have dm:∀y∈scope.names,y.2=.free->∃c,X.env.cells.lookup y.1=some c:=fun y hy hf=>I.ok.has y.1 (cs.free y hy hf)
 have app:cellsFrom (s.heap.objs.size+1) scope.names (jI X.env.cells scope.names [])=cellsFrom (s.heap.objs.size+1) scope.names []++jI X.env.cells scope.names []:=AH _ _ [] _
 /- a cell: of its own,or one from kg -/
 have sD:∀x c,(cellsFrom (s.heap.objs.size+1) scope.names (jI X.env.cells scope.names [])).lookup x=some c->((x,c)∈cellsFrom (s.heap.objs.size+1) scope.names []/\scope.names.lookup x=some .cell)\/(X.env.cells.lookup x=some c/\scope.names.lookup x=some .free):=fun x c e=>by
  have hm:=PySem.mem_of_lookup e;rw[app] at hm;rcases aI.mp hm with hm | hm
  ·refine .inl ⟨hm,?_⟩;rcases AG hm with z | z
   ·cases z
   ·exact cs.uniq _ z
  ·rcases EC hm with z | ⟨z,e'⟩
   ·cases z
   ·obtain⟨c',q⟩:=dm _ z rfl;rw[q] at e';exact .inr ⟨by rw[q,e'];rfl,cs.uniq _ z⟩
 have old:∀x c,X.env.cells.lookup x=some c->c<s.heap.objs.size:=fun x c e=>by obtain⟨v,z⟩:=I.cell x c e;exact z.lt
 refine⟨⟨I.ok.mod,cs.kind,I.ok.glob,I.ok.blt,az _,fun x y c e1 e2=>?inj,fun x hx=>?_,fun x c hx e=>?cab,I.ok.hd,I.ok.frames,.inl rfl,fun b hb=>⟨aT (fo b hb),fun x c e=>?exf⟩,
  fun b o e=>I.bs b o e,aR I.ok.qJ I.sz,fun b o e hb=>?_,fun b hb z=>?_,I.stack,I.lF⟩,
  rfl,I.bare,Un.kept hk,⟨_,lP,fun i x v h1 h2 h3=>?_⟩,fun x c e=>?_,I.b9.fresh (az _),fun x c e=>?frc,fun p hp=>(by cases hp),I.b9.kept hk,?_⟩
 case inj=>
  rcases sD x c e1 with⟨m1,_⟩ | ⟨o1,_⟩<;>rcases sD y c e2 with⟨m2,_⟩ | ⟨o2,_⟩
  ·exact PySem.name_of_addr ok.apart m1 m2
  ·exact absurd (old y c o2) (Nat.not_lt.mpr (aR (Nat.le_succ _) (ok.empty x c m1).2))
  ·exact absurd (old x c o1) (Nat.not_lt.mpr (aR (Nat.le_succ _) (ok.empty y c m2).2))
  ·exact I.ok.inj x y c o1 o2
 case cab=>
  rcases sD x c e with⟨m1,_⟩ | ⟨_,z⟩
  ·exact aR (Nat.le_succ _) (ok.empty x c m1).2
  ·have pB:(scope.names.lookup x==some .cell)=true:=hx;rw[z] at pB;cases pB
 case exf=>
  rcases sD x c e with⟨m1,_⟩ | ⟨o1,_⟩
  ·exact Nat.ne_of_gt (aJ (Nat.lt_succ_of_lt (fo b hb)) (ok.empty x c m1).2)
  ·exact(f b hb).2.2.2.2.1 x c o1
 case frc=>
  rcases sD x c e with⟨m1,_⟩ | ⟨o1,_⟩
  ·exact I.b9.fresh (aR (Nat.le_succ _) (ok.empty x c m1).2)
  ·exact I.eu x c o1
 ·have pB:(relabel scope X.env).names.lookup x=some .cell\/(relabel scope X.env).names.lookup x=some .free:=hx;have e:(relabel scope X.env).names.lookup x=(scope.names.lookup x).map fun k=>if (k==NameKind.free&&X.env.scope.kind==.function&&X.env.kindOf x==some .cell) then NameKind.cell else k:=AE
  rw[e] at pB;have hf:(x,NameKind.free)∈scope.names\/(x,NameKind.cell)∈scope.names:=by
   cases q:scope.names.lookup x with
   | none=>rw[q] at pB;simp at pB
   | some k=>
    rw[q] at pB;have hm:=PySem.mem_of_lookup q;by_cases vQ:k=.free
    ·subst vQ;exact .inl hm
    ·have nZ:(k==NameKind.free)=false:=by simpa using vQ
     simp only[nZ,bo,Bool.false_and,aV,br,aH] at pB;rcases pB with z | z
     ·subst z;exact .inr hm
     ·exact absurd z vQ
  show ∃c,(cellsFrom (s.heap.objs.size+1) scope.names (jI X.env.cells scope.names [])).lookup x=some c
  rcases hf with hf | hf
  ·obtain⟨c,hc⟩:=zO (cells:=X.env.cells) (acc:=[]) hf;exact xN (u9 hc)
  ·obtain⟨c,hc⟩:=AF (n:=s.heap.objs.size+1) (acc:=jI X.env.cells scope.names []) hf;exact xN hc
 ·rcases(f b hb).2.2.2.1 with z | z
  ·exact I.ok.mn b o e z
  ·exact absurd (aJ (aB (I.ok.bs b o e).1) z) (Nat.lt_irrefl _)
 ·rcases au.mp (I.kJ b z) with q | q
  ·exact(f b hb).2.1 q
  ·exact(f b hb).2.2.1 q
 ·unfold lL at h2;rw[aj] at h2;cases q:m[i]? with
  | none=>rw[q] at h2;cases h2
  | some o=>
   rw[q] at h2;cases o with
   | none=>cases h2
   | some j=>
    simp only[bo,aH] at h2;have Gv:σ[j]?=some (some v):=by
     cases z:σ[j]? with
     | none=>rw[z] at h2;cases h2
     | some a=>rw[z] at h2;simp at h2;rw[h2]
    obtain⟨hN,pH⟩:=cs.Q0 i j x q h1;have Gm:=PySem.mem_of_lookup pH;obtain⟨m0,RC,hl⟩:=I.loc;have lQ:=cs.free _ Gm rfl;have Br:j2 X.env.scope x:=lQ.elim (fun z=>.inr (.inl z)) (fun z=>.inr (.inr z));obtain⟨u,ru,lu⟩:=hl j x v hN Gv Br;refine⟨u,ru,.inr ⟨?_,?_⟩⟩
    ·show(relabel scope X.env).names.lookup x=some .cell\/(relabel scope X.env).names.lookup x=some .free;have e:(relabel scope X.env).names.lookup x=(scope.names.lookup x).map fun k=>if (k==NameKind.free&&X.env.scope.kind==.function&&X.env.kindOf x==some .cell) then NameKind.cell else k:=AE
     rw[e,pH];simp only[bo];split
     ·exact .inl rfl
     ·exact .inr rfl
    ·rcases lu with⟨k,_⟩ | ⟨_,c,e,z⟩
     ·rcases lQ with z | z<;>· rw[k] at z;cases z
     ·obtain⟨c',n5⟩:=xN (u9 (names:=scope.names) (n:=s.heap.objs.size+1) (zO (cells:=X.env.cells) (acc:=[]) Gm).choose_spec);have:X.env.cells.lookup x=some c':=by
       rcases sD x c' n5 with⟨_,z⟩ | ⟨z,_⟩
       ·rw[pH] at z;cases z
       ·exact z
      rw[e] at this;cases this;obtain⟨oc,pE,hd⟩:=z;exact⟨c,n5,oc,hk c oc pE,hd⟩
 ·rcases sD x c e with⟨m1,_⟩ | ⟨o1,_⟩
  ·exact⟨none,(ok.empty x c m1).1⟩
  ·obtain⟨v,oc,pE,hd⟩:=I.cell x c o1;exact⟨v,oc,hk c oc pE,hd⟩
 ·show(lL m σ).length=N'.length;unfold lL;rw[af,cs.len]
theorem EY{use:Option (Value->Sem Unit)}{Q':Value->Shared->Prop}{pins:List (Addr×Obj)}{s:Shared}{σ:St}{H:Hp}{Q:VK}
  (hc:X.calm=true) (cs:ck X N' m scope) (hi:PI X tg iter wi) (hg:∀s3 H3 ex,PG (gT X N' scope s3 H3 ex) tg (g s3 H3 ex)) (ht:∀s3 H3 ex,t5 (gT X N' scope s3 H3 ex) ifs (tc s3 H3 ex))
  (he:∀s3 H3 ex,PE (gT X N' scope s3 H3 ex) elt (te s3 H3 ex)) (I:Inv X pins σ H s) (h:uq wi m g tc te σ H Q)
  (fin:∀D C s' H',Inv X pins σ H' s'->ip X pins H' C->(∃m,s'.heap.Ns C m)->Q (.ref D) H'->compPost (model X.prog X.w) X.A X.xe use Q' (.ref D) C (.ok .next) s') :
  wpAny (model X.prog X.w) X.A (eval iter X.env) (fun x bW=>wpAny (model X.prog X.w) X.A (pyIter x) (fun it fD=>wpAny (model X.prog X.w) X.A (newList []) (fun acc iX=>
   wpAny (model X.prog X.w) X.A (newFunctionEnv scope X.env.globals (jI X.env.cells scope.names []) [] X.env.qual none .none (some X.env)) (fun wq pf=>
    codeAny (model X.prog X.w) X.A (.compStart (.ListComp elt [⟨tg,iter,ifs,0⟩] scope pos) 0 it acc { wq with scope:=relabel scope X.env }) (compPost (model X.prog X.w) X.A X.xe use Q' acc wq.locals) pf) X.xe iX) X.xe fD) X.xe bW) X.xe s:=by
 refine cy (hi pins s σ H _ I h) fun v s1 h1=>cy h1 fun Bg s2 h2=>?_
 obtain⟨it,fp,tn,J,H2,e,I2,T,xU,f2,h⟩:=h2;subst e;refine bu (L7 fun g0 qC=>?_);have hf:H2 s2.heap.objs.size=none:=I2.b9.fresh (az _);obtain⟨W,⟨k0,w0⟩,turn⟩:=h s2.heap.objs.size hf { s2 with heap:=s2.heap.push { cls:=.type "list",data:=.seq ([]:List Value).toArray } } fp;have I3:Inv X pins σ (upd H2 s2.heap.objs.size (.lst [])) { s2 with heap:=s2.heap.push { cls:=.type "list",data:=.seq ([]:List Value).toArray } }:=I2.px (its:=[]) (t':=s2.toks) .nil (by simp);have Gx:∀b∈fp,b<s2.heap.objs.size:=fun b hb=>by
  obtain⟨o,e,_⟩:=T.obj _ _ xU b hb;exact aB e
 have f3:∀b∈fp,ip X pins (upd H2 s2.heap.objs.size (.lst [])) b:=fun b hb=>⟨by rw[cM (aT (Gx b hb))];exact(f2 b hb).1,(f2 b hb).2⟩
 generalize F7:({ s2 with heap:=s2.heap.push { cls:=.type "list",data:=.seq ([]:List Value).toArray } }:Shared)=s3 at *;have hC:s3.heap.objs.size=s2.heap.objs.size+1:=by rw[<-F7];exact Heap.size_push ..
 have Gy:∀b∈fp,b<s3.heap.objs.size:=fun b hb=>by rw[hC];exact Nat.lt_succ_of_lt (Gx b hb)
 have k3:∀b o,s2.heap.get? b=some o->s3.heap.get? b=some o:=fun b o e=>by rw[<-F7];exact ay _ e
 have k1:∀b o,s3.heap.get? b=some o->g0.get? b=some o:=fun b o e=>by rw[qC];exact pushCells_keeps _ _ b o (ay _ e)
 have J0:=L6 (tk:=s3.toks) cs I3 f3 Gy qC;have FJ:tn 0 g0:=T.keep _ _ _ xU fun b _ o e=>k1 b o (k3 b o e)
 have B8:∀{H':Hp},(∀b∈fp,H' b=none)->∀b∈fp,ip (gT X N' scope s3 (upd H2 s2.heap.objs.size (.lst [])) fp) [] H' b:=fun hn b hb=>
  ⟨hn b hb,aT (Gy b hb),J0.ok.mE b hb,.inl hb,(J0.ok.exf b hb).2,fun p hp=>by cases hp⟩
 have pH:∀b∈fp,(upd H2 s2.heap.objs.size (.lst [])) b=none:=fun b hb=>(f3 b hb).1
 have loop:codeAny (model X.prog X.w) X.A (.compLoop (.ListComp elt [⟨tg,iter,ifs,0⟩] scope pos) 0 (.ref it) (.ref s2.heap.objs.size) (compEnvC scope (cellsFrom (s3.heap.objs.size+1) scope.names (jI X.env.cells scope.names [])) s3.heap.objs.size X.env))
   (compPost (model X.prog X.w) X.A X.xe use Q' (.ref s2.heap.objs.size) s3.heap.objs.size) { s3 with heap:=g0 }:=by
  refine Na (fun n s'=>∃i bY H',Inv (gT X N' scope s3 (upd H2 s2.heap.objs.size (.lst [])) fp) [] bY H' s'/\tn i s'.heap/\(∀b∈fp,H' b=none)/\W i n bY H') ?_ k0 ⟨0,_,_,J0,FJ,pH,w0⟩;rintro n s4 ⟨i,mK,H4,I4,FH,tT,w4⟩;rcases turn i n mK H4 w4 with⟨stop,qn⟩ | ⟨go,N,hN,step⟩
  ·refine cy (T.done (gT X N' scope s3 (upd H2 s2.heap.objs.size (.lst [])) fp) rfl rfl rfl hc i [] s4 mK H4 _ I4 (B8 tT) FH stop) fun r s5 bQ=>?_
   obtain⟨hr,I5⟩:=bQ;subst hr;have jf:∀b∈fp,(b∈X.ex\/X.cY.heap.objs.size<=b)/\b≠X.env.locals/\(∀x c,X.env.cells.lookup x=some c->c≠b)/\∀p∈X.pn++pins,p.1≠b:=fun b hb=>⟨(f2 b hb).2.2.2.1,(f2 b hb).2.1,(f2 b hb).2.2.2.2.1,(f2 b hb).2.2.2.2.2⟩
   have I6:Inv X pins σ H4 s5:=I3.wu (ch:=fp) I5.os I5.base I5.b9 I5.bare jf;obtain⟨m5,P1,_⟩:=id I5.loc;exact fin _ _ s5 H4 I6 (I3.iZ (az _) I5.free) ⟨m5,P1⟩ qn
  ·refine cy (T.item (gT X N' scope s3 (upd H2 s2.heap.objs.size (.lst [])) fp) rfl rfl rfl hc i [] s4 mK H4 _ I4 (B8 tT) FH go) fun r s5 bQ=>?_
   obtain⟨u,hr,h5⟩:=bQ;subst hr;refine cy h5 fun _ s6 bQ=>?_
   obtain⟨x,H6,I6,r6,y6,AQ,QN⟩:=bQ;have Q4:=I6.pinned (B8 QN) (T.obj _ _ AQ);refine cy (hg _ _ _ _ s6 mK H6 x u _ Q4 r6 (step x H6 y6)) fun _ s7 bQ=>?_
   obtain⟨j9,H7,I7,q7⟩:=bQ;refine cy (ht _ _ _ _ s7 j9 H7 _ I7 q7) fun b s8 bQ=>?_
   obtain⟨H8,I8,q8⟩:=bQ;have again:∀{s9:Shared} {t8:St} {H9:Hp},Inv (gT X N' scope s3 (upd H2 s2.heap.objs.size (.lst [])) fp) ([]++uy fp s6.heap) t8 H9 s9->N t8 H9->∃m,m<n/\∃i bY H',Inv (gT X N' scope s3 (upd H2 s2.heap.objs.size (.lst [])) fp) [] bY H' s9/\tn i s9.heap/\(∀b∈fp,H' b=none)/\W i m bY H':=fun{s9 t8 H9} I9 n9=>by
    obtain⟨m',hm,w9⟩:=hN t8 H9 n9;refine⟨m',hm,i+1,t8,H9,I9.gw,T.keep _ _ _ AQ fun b hb o e=>(I9.pin (b,o) (aZ _ (aZ _ (xH hb e)))).1,fun b hb=>?_,w9⟩;obtain⟨o,e,d⟩:=T.obj _ _ AQ b hb;exact(I9.pin (b,o) (aZ _ (aZ _ (xH hb e)))).2.1
   cases b with
   | false=>exact again I8 q8
   | true=>
    rw[if_pos rfl];refine cy (he _ _ _ _ s8 j9 H8 _ I8 q8) fun y s9 bQ=>?_
    obtain⟨v9,H9,I9,r9,xs,hD,hz,q9⟩:=bQ;refine cy (Ab _ s9 j9 H9 (.ref s2.heap.objs.size) [v9] (.ref s2.heap.objs.size) [y] (fun _ H'=>N j9 H') I9 rfl (.cons r9 .nil) ⟨_,xs,v9,rfl,rfl,hD,hz,q9⟩) fun _ Rr bQ=>?_
    obtain⟨_,RT,Q7,_,OS⟩:=bQ;exact again Q7 OS
 exact codeAny_compStart_list loop (T.self _ 0 _ _ _ FJ loop)
theorem DW(hc:X.calm=true)(cs:ck X N' m scope)(hi:PI X tg iter wi)(hg:∀s3 H3 ex,PG (gT X N' scope s3 H3 ex) tg (g s3 H3 ex))(ht:∀s3 H3 ex,t5 (gT X N' scope s3 H3 ex) ifs (tc s3 H3 ex))
  (he:∀s3 H3 ex,PE (gT X N' scope s3 H3 ex) elt (te s3 H3 ex)) (hs:∀x,foldedSetIterable iter X.env x=pure x:=by intro _;rfl):PE X (.ListComp elt [⟨tg,iter,ifs,0⟩] scope pos) (uq wi m g tc te):=by
 intro pins s σ H Q I h;rw[eval_ListComp];have dm:∀y∈scope.names,y.2=.free->∃c,X.env.cells.lookup y.1=some c:=fun y hy hf=>I.ok.has y.1 (cs.free y hy hf)
 refine wpAny_comprehension_free (use:=none) rfl hs (Ft dm) cs.kind (fun y hy hl=>by rw[cs.uniq y hy,hl]) (EY hc cs hi hg ht he I h fun D C s' H' I' fC ⟨mC,hn⟩ q=>?_);refine⟨mC,hn,fun h' sb=>⟨.ref D,H',I'.turned (t':=s'.toks) (fun b o hb e=>(sb.2 b hb).trans e) fC.1 fC.2.1 fC.2.2.2.1 fC.2.2.2.2.1 fC.2.2.2.2.2,rfl,q⟩⟩
theorem DV{i:Nat}{x:Str}{pos' jT:Pos}(hN:X.N.Nodup)(oQ:X.N[i]?=some x)(hx:Loc X.env.scope x)
  (hc:X.calm=true) (cs:ck X N' m scope) (hi:PI X tg iter wi) (hg:∀s3 H3 ex,PG (gT X N' scope s3 H3 ex) tg (g s3 H3 ex)) (ht:∀s3 H3 ex,t5 (gT X N' scope s3 H3 ex) ifs (tc s3 H3 ex))
  (he:∀s3 H3 ex,PE (gT X N' scope s3 H3 ex) elt (te s3 H3 ex)) (hs:∀x,foldedSetIterable iter X.env x=pure x:=by intro _;rfl)
  (vG:swapsWith (.ListComp elt [⟨tg,iter,ifs,0⟩] scope pos) (some (.Name x pos')) jT.line X.env=pure true:=by rfl)
  (hf:X.fn x=true\/X.env.scope.names.lookup x=some .local:=by first | exact .inl rfl | exact .inr rfl | assumption) :
  PS X (.Assign [.Name x pos'] (.ListComp elt [⟨tg,iter,ifs,0⟩] scope pos) jT) (wV (uq wi m g tc te) (xa i)):=by
 intro pins s σ H D I h;have dm:∀y∈scope.names,y.2=.free->∃c,X.env.cells.lookup y.1=some c:=fun y hy hf=>I.ok.has y.1 (cs.free y hy hf)
 rw[exec_Assign_Name_used _ _ _ _ vG];refine aa (wpAny_standAt (aa ?_));show wpAny _ _ (do let _ <-comprehension (.ListComp elt [⟨tg,iter,ifs,0⟩] scope pos) scope X.env _ (newList []) false (eval iter X.env) (some (assign (.Name x pos') X.env))) _ _ s;refine aa (bB (wpAny_comprehension_free (use:=some (assign (.Name x pos') X.env)) (Q:=fun _ s'=>SP X pins D .next s') rfl hs (Ft dm) cs.kind (fun y hy hl=>by rw[cs.uniq y hy,hl]) (EY hc cs hi hg ht he I h fun A C s' H' I' fC ⟨mC,hn⟩ q=>?_)) (fun _ s' hq=>ah (ah hq)) fun _ _ e=>e);show wpAny _ _ (assign (.Name x pos') X.env (.ref A)) _ _ _;refine wpAny_assign_Name (EO I' hN oQ hx (show RelV (.ref A) (.ref A) from rfl) (fun s2 I2 PH=>?_) hf);obtain⟨a,OK,ha⟩:=PH;have QD:C≠a:=by
  rcases ha with rfl | ha
  ·exact fC.2.1
  ·exact fun z=>fC.2.2.2.2.1 x a ha z.symm
 refine⟨mC,hn.sameBut OK QD,fun h' sb=>⟨_,H',I2.turned (t':=s2.toks) (fun b o hb e=>(sb.2 b hb).trans e) fC.1 fC.2.1 fC.2.2.2.1 fC.2.2.2.2.1 fC.2.2.2.2.2,q⟩⟩
end
end L2
namespace L2
open PySem PySem.Spec PyProof.Rows
theorem Dv:2<=sizeLine:=by decide
theorem Inv.du{X:Cx}{pins:List (Addr×Obj)}{σ:St}{H:Hp}{s:Shared}{h':Heap}{t':Nat}{fp:List Addr}(I:Inv X pins σ H s)(k:∀b o,b∉fp->s.heap.get? b=some o->h'.get? b=some o)(f:∀b∈fp,ip X pins H b) :
  Inv X pins σ H { s with heap:=h',toks:=t' }:=by
 have qr:∀b u,H b=some u->b∉fp:=fun b u e z=>by rw[(f b z).1] at e;cases e
 refine I.step (g':=s.gens) (d':=s.drawn) (ch:=fp) (fun b hb=>⟨(f b hb).2.2.2.1,(f b hb).2.1,(f b hb).2.2.2.2.1,(f b hb).2.2.2.2.2⟩) (fun b o _ _ hc e _=>k b o hc e) (fun b o _ _ hc e _=>⟨o.slots,k b o hc e⟩) (fun _ _ _ _ n=>n)
  (fun b o hc e=>⟨o,k b o hc e⟩) (fun _ _ e=>e) (fun _ _ _ e=>e) (fun b ps e=>⟨#[],by rw[e];simp⟩) (fun m hm=>?_) (fun b u e=>?_) I.bare
 ·obtain⟨o,es,ep,ho,r⟩:=hm;exact⟨o,es,ep,k _ o (fun z=>(f _ z).2.1 rfl) ho,r⟩
 ·refine(I.b9 b u e).iy (fun c v hc q=>k c v ?_ q) (fun _ q=>q) fun _ _ q=>q
  rcases hc with z | z
  ·rw[z];exact qr b u e
  ·exact qr c _ z
theorem Inv.ja{X:Cx}{pins:List (Addr×Obj)}{σ:St}{H:Hp}{s:Shared}{h':Heap}{t':Nat}{fp:List Addr}{a:Addr}{o:HO}(I:Inv X pins σ H s)(k:∀b o,b∉fp->s.heap.get? b=some o->h'.get? b=some o)(f:∀b∈fp,ip X pins H b)
  (hp:s.heap.objs.size<=a) (new:cH X.prog X.w (upd H a o) h' a o):Inv X pins σ (upd H a o) { s with heap:=h',toks:=t' }:=by
 have dm:H a=none:=I.b9.fresh hp;have qr:∀b u,H b=some u->b∉fp:=fun b u e z=>by rw[(f b z).1] at e;cases e
 refine I.step (g':=s.gens) (d':=s.drawn) (ch:=fp) (fun b hb=>⟨(f b hb).2.2.2.1,(f b hb).2.1,(f b hb).2.2.2.2.1,(f b hb).2.2.2.2.2⟩) (fun b o _ _ hc e _=>k b o hc e) (fun b o _ _ hc e _=>⟨o.slots,k b o hc e⟩)
  (fun b o _ q n=>by rw[cM (aT (aJ (aB q) hp))];exact n)
  (fun b o hc e=>⟨o,k b o hc e⟩) (fun b zs q=>by rw[cM (iN q dm)];exact q) (fun b ob zs q=>by rw[cM (iN q dm)];exact q) (fun b ps q=>⟨#[],by rw[cM (iN q dm),q];simp⟩) (fun m hm=>?_) (fun b u q=>?_) I.bare
 ·obtain⟨o,es,ep,ho,r⟩:=hm;exact⟨o,es,ep,k _ o (fun z=>(f _ z).2.1 rfl) ho,r⟩
 ·by_cases hb:b=a
  ·subst hb;rw[fP] at q;cases q;exact new
  ·rw[cM hb] at q;refine(I.b9 b u q).iy (fun c v hc z=>k c v ?_ z) (fun c z=>by rw[cM (iN z dm)];exact z) fun c zs z=>by rw[cM (iN z dm)];exact z
   rcases hc with rfl | hc
   ·exact qr _ _ q
   ·exact qr _ _ hc
noncomputable def yp(x:Str):It:=⟨fun i _=>i<x.cps.size,fun i H v H'=>H'=H/\∃c,x.cps[i]?=some c/\v=.str ⟨#[c]⟩,fun i _=>i=x.cps.size⟩
theorem Lc{P:Program}{w:World}{K:PySem.W.Frag}{tg:Expr}{x:Str}{it:Addr}{n:String}{t:Tok}(hn:["enumerate","zip","dict_itemiterator","dict_reverseitemiterator","odict_iterator","itertools.zip_longest","itertools.pairwise"].contains n=false)
  (W:∀A':Around,A'.handled=none->Walks P w A' it [it] [it] x.cps.size (SignAt x) (fun i h=>h.IsStrIter it n x t i))
  (hs:∀(A:Around) (i:Nat) (s:Shared) (Q:Value->Shared->Prop) (E:Value->Shared->Prop),s.heap.IsStrIter it n x t i->Q (.ref it) s->wpAny (model P w) A (pyIter (.ref it)) Q E s):Turn P w K tg (yp x) [it] it (fun i h=>h.IsStrIter it n x t i) where
 mem:=by simp
 obj:=fun i h st b hb=>by
  have e:b=it:=by simpa using hb
  subst e;obtain⟨o,e,c,d⟩:=st;exact⟨o,e,fun v z=>by rw[d] at z;cases z⟩
 keep:=fun i h h' st k=>by
  obtain⟨o,e,r⟩:=st;exact⟨o,k it (by simp) o e,r⟩
 item:=by
  intro X hP hw hK hc i pins s σ H E I hf st hg;subst hP hw hK;refine(W X.A (I.ok.hd hc)).item i s _ _ hg st fun v h' tk hv ef kk=>?_
  obtain⟨c,u,hx,rfl⟩:=hv;have I1:Inv X pins σ H { s with heap:=h',toks:=tk }:=I.du kk hf;obtain⟨o,e,c',d⟩:=id ef;exact⟨_,rfl,qY (s:={ s with heap:=h',toks:=tk }) e c' d hn ⟨.str ⟨#[c]⟩,H,I1,⟨u,rfl⟩,⟨rfl,c,hx,rfl⟩,ef,fun b hb=>(hf b hb).1⟩⟩
 done:=by
  intro X hP hw hK hc i pins s σ H E I hf st hg;subst hP hw hK;have e:i=x.cps.size:=hg;subst e;exact(W X.A (I.ok.hd hc)).done s _ _ st fun h' tk kk=>⟨rfl,I.du kk hf⟩
 self:=hs
section
variable {X:Cx} {tg:Expr}
theorem Ji{pins:List (Addr×Obj)}{σ:St}{H:Hp}{s:Shared}{R:It->Hp->Prop}{E:Value->Shared->Prop}{x:Str}{t:Tok}(I:Inv X pins σ H s)(q:R (yp x) H) :
  wpAny (model X.prog X.w) X.A (pyIter (.str x t)) (wC X pins σ tg R) E s:=by
 have fin:∀(o:Obj) (n:String),(hn:["enumerate","zip","dict_itemiterator","dict_reverseitemiterator","odict_iterator","itertools.zip_longest","itertools.pairwise"].contains n=false)->
   (W:∀A':Around,A'.handled=none->Walks X.prog X.w A' s.heap.objs.size [s.heap.objs.size] [s.heap.objs.size] x.cps.size (SignAt x) (fun i h=>h.IsStrIter s.heap.objs.size n x t i))->
   (hs:∀(A:Around) (i:Nat) (s':Shared) (Q:Value->Shared->Prop) (E:Value->Shared->Prop),s'.heap.IsStrIter s.heap.objs.size n x t i->Q (.ref s.heap.objs.size) s'->wpAny (model X.prog X.w) A (pyIter (.ref s.heap.objs.size)) Q E s')->
   (s.heap.push o).IsStrIter s.heap.objs.size n x t 0->wC X pins σ tg R (.ref s.heap.objs.size) { s with heap:=s.heap.push o }:=fun o n hn W hs st=>by
  refine⟨s.heap.objs.size,[s.heap.objs.size],_,_,H,rfl,I.kept (t':=s.toks) fun b o e=>ay _ e,Lc hn W hs,st,fun b hb=>?_,q⟩;have e:b=s.heap.objs.size:=by simpa using hb
  subst e;exact I.iZ (az _) (I.b9.fresh (az _))
 cases ha:x.cps.all (·<128)
 ·exact wpAny_pyIter_wide ha (fin _ _ (by decide) (fun A' hA=>Walks.strWide hA _ x t) (fun _ _ _ _ _ st q=>wpAny_pyIter_striter_wide st q) ⟨_,aG _ rfl,rfl,rfl⟩)
 ·exact wpAny_pyIter_ascii ha (fin _ _ (by decide) (fun A' hA=>Walks.strAscii hA _ x t) (fun _ _ _ _ _ st q=>wpAny_pyIter_striter_ascii st q) ⟨_,aG _ rfl,rfl,rfl⟩)
def Hv(K:PySem.W.Frag)(tl:TE):TI:=fun σ H R=>tl σ H fun x H1=>(∃a,x=.ref a/\(∃xs,eW K H1 a xs)/\R (Cs K a) H1)\/(∃a,x=.ref a/\(∃xs,et K H1 a xs)/\R (Cr K a) H1)\/(∃z,x=.str z/\R (yp z) H1)
theorem Jh{l:Expr}{tl:TE}(hl:PE X l tl):PI X tg l (Hv X.K tl):=by
 intro pins s σ H R I h;refine cy (hl pins s σ H _ I h) fun v s1 bQ=>?_
 obtain⟨x,H1,I1,r1,q1⟩:=bQ;rcases q1 with⟨a,e,⟨xs,hq⟩,q⟩ | ⟨a,e,⟨xs,hq⟩,q⟩ | ⟨z,e,q⟩
 ·subst e;cases r1;obtain⟨its,rv,p,hz⟩:=I1.list hq;refine wpAny_pyIter_list p.isList ?_;refine⟨s1.heap.objs.size,[s1.heap.objs.size],_,_,H1,rfl,I1.kept (t':=s1.toks) fun b o e=>ay _ e,M1 a _,⟨_,aG _ rfl,rfl,rfl⟩,fun b hb=>?_,q⟩;have e:b=s1.heap.objs.size:=by simpa using hb
  subst e;exact I1.iZ (az _) (I1.b9.fresh (az _))
 ·subst e;cases r1;obtain⟨its,rv,p,hz⟩:=I1.tuple hq;refine wpAny_pyIter_tuple (show s1.heap.IsTuple a its.toArray from p) ?_;refine⟨s1.heap.objs.size,[s1.heap.objs.size],_,_,H1,rfl,I1.kept (t':=s1.toks) fun b o e=>ay _ e,MI a _,⟨_,aG _ rfl,rfl,rfl⟩,fun b hb=>?_,q⟩;have e:b=s1.heap.objs.size:=by simpa using hb
  subst e;exact I1.iZ (az _) (I1.b9.fresh (az _))
 ·subst e;obtain⟨t,rfl⟩:=r1;exact Ji I1 q
end
noncomputable def Ct(K:PySem.W.Frag)(a:Addr):It:=
 ⟨fun i H=>∃xs x,eW K H a xs/\xs[i]?=some x,fun i H v H'=>∃t,v=.ref t/\H t=none/\∀xs,eW K H a xs->∃x,xs[i]?=some x/\H'=upd H t (.tup [.int i,x]),fun i H=>∃xs,eW K H a xs/\xs.length<=i⟩
theorem Du{H:Hp}{t:Addr}{o:HO}{fp:List Addr}(h:∀b∈fp,H b=none)(ht:∀b∈fp,b≠t):∀b∈fp,upd H t o b=none:=fun b hb=>by rw[cM (ht b hb)];exact h b hb
theorem Fs{prog:Program}{w:World}{A:Around}{E:Value->Shared->Prop}{s:Shared}{elts:List Expr}{x1}{pos:Pos}{e it T:Addr}{i:Int}{old:Value}{Q:Unit->Shared->Prop}(he:IsEnumOut s.heap e it i old T)
  (hQ:∀h',IsEnum h' e it i old->Heap.SameBut e s.heap h'->Q () { s with heap:=h' }) :
  wpAny (model prog w) A (letOwnedTupleGo (.Tuple elts x1 pos) (.ref e) (.ref T)) Q E s:=by
 unfold letOwnedTupleGo;refine aa (wpAny_load he ?_);show wpAny _ _ (if (["enumerate","zip","dict_itemiterator","dict_reverseitemiterator","odict_iterator","itertools.zip_longest","itertools.pairwise"].contains "enumerate" &&
   (#[rawInt T,.bool false,.ref it,rawInt i,.none,old]:Array Value)[0]?==some (rawInt T))=true then _ else _) Q E s
 rw[if_pos (by simp)];refine aa (wpAny_rule ?_);show wpAny _ _ (setField (.ref e) 0 .none) Q E s;exact wpAny_setField_rec he (by simp) fun h' Pk kQ=>hQ h' Pk kQ
theorem Mh{P:Program}{w:World}{K:PySem.W.Frag}{elts:List Expr}{x1}{pos:Pos}(a e it:Addr)(dH:e≠it):Turn P w K (.Tuple elts x1 pos) (Ct K a) [e,it] e (fun i h=>(∃old,IsEnum h e it i old)/\h.IsListIter it a i) where
 mem:=by simp
 obj:=fun i h st b hb=>by
  obtain⟨⟨old,h1⟩,o,h2,c,d⟩:=st;rcases au.mp hb with rfl | hb
  ·exact⟨_,h1,fun v z=>by have z':Data.fields _=Data.cell v:=z;cases z'⟩
  ·have e:b=it:=by simpa using hb
   subst e;exact⟨o,h2,fun v z=>by rw[d] at z;cases z⟩
 keep:=fun i h h' st k=>by
  obtain⟨⟨old,h1⟩,h2⟩:=st;exact⟨⟨old,k e (by simp) _ h1⟩,h2.at fun o q=>k it (by simp) o q⟩
 item:=by
  intro X hP hw hK hc i pins s σ H E I hf st hg;subst hP hw hK;obtain⟨xs,x,hq,hx⟩:=hg;obtain⟨its,rv,p,hz⟩:=I.list hq;obtain⟨u,hu,ru⟩:=rv.get hx;obtain⟨⟨old,h1⟩,h2⟩:=st;refine wpAny_pyNext_enum_item h1 h2 p.isList (x:=u) (by simpa using hu) dH fun h' e1 e2 e3 e4 kk=>?_
  refine⟨_,rfl,Fs e1 fun v8 e5 sb=>?_⟩;have vF:s.heap.objs.size≠e:=Nat.ne_of_gt (aB h1);have Bt:s.heap.objs.size≠it:=by obtain⟨o,q,_⟩:=h2;exact Nat.ne_of_gt (aB q)
  have hT:v8.get? s.heap.objs.size=some { cls:=.type "tuple",data:=.seq #[.int i s.toks,u] }:=sb.extBut _ _ vF e3;have dm:H s.heap.objs.size=none:=I.b9.fresh (az _);have new:cH X.prog X.w (upd H s.heap.objs.size (.tup [.int i,x])) v8 s.heap.objs.size (.tup [.int i,x]):=⟨Dv,[.int i s.toks,u],.cons ⟨_,rfl⟩ (.cons ru .nil),⟨_,hT,rfl,_,rfl⟩⟩
  refine⟨.ref s.heap.objs.size,upd H s.heap.objs.size (.tup [.int i,x]),I.ja (fp:=[e,it]) (fun b o hb q=>sb.extBut b o (fun z=>hb (by simp[z])) (kk b o (fun z=>hb (by simp[z])) (fun z=>hb (by simp[z])) q)) hf (az _) new,rfl,
   ⟨_,rfl,dm,fun ys hy=>⟨x,by rw[I.iC hy hq];exact hx,rfl⟩⟩,⟨⟨u,e5⟩,e2.extBut sb.extBut (Ne.symm dH)⟩,Du (fun b hb=>(hf b hb).1) fun b hb=>?_⟩
  rcases au.mp hb with rfl | hb
  ·exact vF.symm
  ·have z:b=it:=by simpa using hb
   rw[z];exact Bt.symm
 done:=by
  intro X hP hw hK hc i pins s σ H E I hf st hg;subst hP hw hK;obtain⟨xs,hq,hx⟩:=hg;obtain⟨its,rv,p,hz⟩:=I.list hq;obtain⟨⟨old,h1⟩,h2⟩:=st;have hl:=rv.length;exact wpAny_pyNext_enum_end (I.ok.hd hc) h1 h2 p.isList (by simp;omega) fun h' eb=>⟨rfl,I.du (fp:=[e,it]) (t':=s.toks) (fun b o hb q=>eb b o (fun z=>hb (by simp[z])) q) hf⟩
 self:=fun _ _ _ _ _ st h=>by
  obtain⟨⟨old,h1⟩,_⟩:=st;exact wpAny_pyIter_enum h1 h
end L2
namespace L2
open PySem PySem.Spec PyProof.Rows
section
variable {X:Cx} {elts:List Expr} {x1:Nat} {nG:Pos}
def HR(K:PySem.W.Frag)(ta:TA):TI:=fun σ H R=>ta σ H fun vs H1=>∃a xs,vs=[.ref a]/\iR K H1 a xs/\R (Ct K a) H1
theorem Kj{a:Expr}{ta:TA}{p pos:Pos}(hg:Gl X "enumerate")(hm:X.mg "enumerate"=none)(ha:PA X [a] ta)(hs:starEach [a] X.env=[(false,eval a X.env)]:=by rfl):PI X (.Tuple elts x1 nG) (.Call (.Name "enumerate" p) [a] [] pos) (HR X.K ta):=by
 intro pins s σ H R I h;refine Call_ (tf I hg hm boot_enumerate (PyProof.Rows.callWith_type1 (cy (ha pos pins s σ H _ I h) fun us s1 bQ=>?_) hs rfl));obtain⟨vs,H1,I1,r1,q1⟩:=bQ;obtain⟨l,xs,e,hl,q⟩:=q1;subst e;obtain⟨u,rfl,ru⟩:=mQ r1;cases ru;obtain⟨z,its,n,r,e⟩:=I1.gi hl;refine call_enumerate_1 e fun h' e1 e2 e3 kk=>?_
 refine wpAny_pyIter_enum e1 ?_;have dH:s1.heap.objs.size+1≠s1.heap.objs.size:=by omega
 refine⟨s1.heap.objs.size+1,[s1.heap.objs.size+1,s1.heap.objs.size],_,_,H1,rfl,I1.kept (t':=s1.toks) kk,Mh l _ _ dH,⟨⟨_,e1⟩,e2⟩,fun b hb=>?_,q⟩;have lR:s1.heap.objs.size<=b:=by
  rcases au.mp hb with rfl | hb
  ·exact Nat.le_succ _
  ·have e:b=s1.heap.objs.size:=by simpa using hb
   exact Nat.le_of_eq e.symm
 exact I1.iZ lR (I1.b9.fresh lR)
end
end L2
namespace L2
open PySem PySem.Spec PyProof.Rows
inductive D where
 | non | bl (b:Bool) | int (i:Int) | str (x:Str) | tup (ds:List D) | lst (ds:List D) | obj (cn:Str) (fs:List (Str×D)) | dic (bF:List (Key×D)) | dit (bF:List (List Key×D)) | exc (cn:Str)
structure ClsAt (K:PySem.W.Frag) (cn:Str) (C:Addr):Prop where
 at_:PySem.W.nsIn K mainGlobals cn=some (some (.ref C))
 cls:Ra K C
def cC(H:Hp):List (List Key×V)->List Addr->Prop
 | [],[]=>True
 | p::ps,b::bs=>H b=some (.tup (p.1.map kV))/\cC H ps bs
 | _,_=>False
theorem cC.mono{H H':Hp}(e:bM H H'):∀{ps:List (List Key×V)} {bs:List Addr},cC H ps bs->cC H' ps bs
 | [],[],h=>h
 | p::ps,b::bs,h=>⟨e _ _ h.1,cC.mono e h.2⟩
 | [],_::_,h=>h.elim
 | _::_,[],h=>h.elim
mutual
def Rep(K:PySem.W.Frag)(H:Hp):V->D->Prop
 | v,.non=>v=.non
 | v,.bl b=>v=.bl b
 | v,.int i=>v=.int i
 | v,.str x=>v=.str x
 | v,.tup ds=>∃a xs,v=.ref a/\H a=some (.tup xs)/\bD K H xs ds
 | v,.lst ds=>∃a xs,v=.ref a/\iR K H a xs/\bD K H xs ds
 | v,.obj cn fs=>∃a C dx gs,v=.ref a/\H a=some (.ins C dx gs)/\ClsAt K cn C/\(∀p∈fs,DB K C p.1)/\fI K H gs fs
 | v,.dic bF=>∃a ks ep,v=.ref a/\H a=some (.dK ks ep)/\d0 K H ks bF
 | v,.dit bF=>∃a ks bs,v=.ref a/\H a=some (.dT ks bs)/\cC H ks bs.1/\bN K H ks bF
 | v,.exc cn=>∃a φ C,v=.ref a/\H a=some (.ext φ)/\PySem.W.nsIn K mainGlobals cn=some (some (.ref C))/\∀h:Heap,φ h->∃o,h.get? a=some o/\o.cls=.ref C
def bD(K:PySem.W.Frag)(H:Hp):List V->List D->Prop
 | [],[]=>True
 | v::vs,d::ds=>Rep K H v d/\bD K H vs ds
 | _,_=>False
def fI(K:PySem.W.Frag)(H:Hp):List (Str×V)->List (Str×D)->Prop
 | [],[]=>True
 | v::vs,d::ds=>(v.1=d.1/\Rep K H v.2 d.2)/\fI K H vs ds
 | _,_=>False
def d0(K:PySem.W.Frag)(H:Hp):List (Key×V)->List (Key×D)->Prop
 | [],[]=>True
 | v::vs,d::ds=>(v.1=d.1/\Rep K H v.2 d.2)/\d0 K H vs ds
 | _,_=>False
def bN(K:PySem.W.Frag)(H:Hp):List (List Key×V)->List (List Key×D)->Prop
 | [],[]=>True
 | v::vs,d::ds=>(v.1=d.1/\Rep K H v.2 d.2)/\bN K H vs ds
 | _,_=>False
end
theorem bM.jQ{K:PySem.W.Frag}{H H':Hp}{a:Addr}{xs:List V}(e:bM H H')(h:H a=some (.tup xs)):et K H' a xs:=et.of (e _ _ h)
theorem bM.nO{K:PySem.W.Frag}{H H':Hp}{a:Addr}{xs:List V}(e:bM H H')(h:et K H a xs):et K H' a xs:=by
 rcases h with(h | ⟨o,h⟩) | h
 ·exact .inl (.inl (e _ _ h))
 ·exact .inl (.inr ⟨o,e _ _ h⟩)
 ·exact .inr h
mutual
theorem Rep.mono{K:PySem.W.Frag}{H H':Hp}(e:bM H H'):∀(v:V) (d:D),Rep K H v d->Rep K H' v d
 | v,.non,h=>by simpa only[Rep] using h
 | v,.bl b,h=>by simpa only[Rep] using h
 | v,.int i,h=>by simpa only[Rep] using h
 | v,.str x,h=>by simpa only[Rep] using h
 | v,.tup ds,h=>by
  simp only[Rep] at h ⊢;obtain⟨a,xs,h1,h2,h3⟩:=h;exact⟨a,xs,h1,e _ _ h2,bD.mono e xs ds h3⟩
 | v,.lst ds,h=>by
  simp only[Rep] at h ⊢;obtain⟨a,xs,h1,h2,h3⟩:=h;exact⟨a,xs,h1,e.gi h2,bD.mono e xs ds h3⟩
 | v,.obj cn fs,h=>by
  simp only[Rep] at h ⊢;obtain⟨a,C,dx,gs,h1,h2,h3,h4,h5⟩:=h;exact⟨a,C,dx,gs,h1,e _ _ h2,h3,h4,fI.mono e gs fs h5⟩
 | v,.dic bF,h=>by
  simp only[Rep] at h ⊢;obtain⟨a,ks,ep,h1,h2,h3⟩:=h;exact⟨a,ks,ep,h1,e _ _ h2,d0.mono e ks bF h3⟩
 | v,.dit bF,h=>by
  simp only[Rep] at h ⊢;obtain⟨a,ks,bs,h1,h2,h3,h4⟩:=h;exact⟨a,ks,bs,h1,e _ _ h2,h3.mono e,bN.mono e ks bF h4⟩
 | v,.exc cn,h=>by
  simp only[Rep] at h ⊢;obtain⟨a,φ,C,h1,h2,h3,h4⟩:=h;exact⟨a,φ,C,h1,e _ _ h2,h3,h4⟩
theorem bD.mono{K:PySem.W.Frag}{H H':Hp}(e:bM H H'):∀(vs:List V) (ds:List D),bD K H vs ds->bD K H' vs ds
 | [],[],h=>by simp only[bD]
 | v::vs,d::ds,h=>by
  simp only[bD] at h ⊢;exact⟨Rep.mono e v d h.1,bD.mono e vs ds h.2⟩
 | [],_::_,h=>by simp only[bD] at h
 | _::_,[],h=>by simp only[bD] at h
theorem fI.mono{K:PySem.W.Frag}{H H':Hp}(e:bM H H'):∀(vs:List (Str×V)) (ds:List (Str×D)),fI K H vs ds->fI K H' vs ds
 | [],[],h=>by simp only[fI]
 | (x,v)::vs,(y,d)::ds,h=>by
  simp only[fI] at h ⊢;exact⟨⟨h.1.1,Rep.mono e v d h.1.2⟩,fI.mono e vs ds h.2⟩
 | [],_::_,h=>by simp only[fI] at h
 | _::_,[],h=>by simp only[fI] at h
theorem d0.mono{K:PySem.W.Frag}{H H':Hp}(e:bM H H'):∀(vs:List (Key×V)) (ds:List (Key×D)),d0 K H vs ds->d0 K H' vs ds
 | [],[],h=>by simp only[d0]
 | (x,v)::vs,(y,d)::ds,h=>by
  simp only[d0] at h ⊢;exact⟨⟨h.1.1,Rep.mono e v d h.1.2⟩,d0.mono e vs ds h.2⟩
 | [],_::_,h=>by simp only[d0] at h
 | _::_,[],h=>by simp only[d0] at h
theorem bN.mono{K:PySem.W.Frag}{H H':Hp}(e:bM H H'):∀(vs:List (List Key×V)) (ds:List (List Key×D)),bN K H vs ds->bN K H' vs ds
 | [],[],h=>by simp only[bN]
 | (x,v)::vs,(y,d)::ds,h=>by
  simp only[bN] at h ⊢;exact⟨⟨h.1.1,Rep.mono e v d h.1.2⟩,bN.mono e vs ds h.2⟩
 | [],_::_,h=>by simp only[bN] at h
 | _::_,[],h=>by simp only[bN] at h
end
section
variable {K:PySem.W.Frag} {H H':Hp}
theorem bD.length:∀{vs:List V} {ds:List D},bD K H vs ds->vs.length=ds.length
 | [],[],_=>rfl
 | v::vs,d::ds,h=>by
  simp only[bD] at h;simp only[aA,bD.length h.2]
 | [],_::_,h=>by simp only[bD] at h
 | _::_,[],h=>by simp only[bD] at h
theorem bD.get:∀{vs:List V} {ds:List D} {i:Nat} {d:D},bD K H vs ds->ds[i]?=some d->∃v,vs[i]?=some v/\Rep K H v d
 | [],[],i,d,_,e=>by simp at e
 | v::vs,d'::ds,0,d,h,e=>by
  simp only[bD] at h;simp only[List.getElem?_cons_zero,aH] at e;subst e;exact⟨v,rfl,h.1⟩
 | v::vs,d'::ds,i+1,d,h,e=>by
  simp only[bD] at h;simp only[List.getElem?_cons_succ] at e ⊢;exact bD.get h.2 e
 | [],_::_,_,_,h,_=>by simp only[bD] at h
 | _::_,[],_,_,h,_=>by simp only[bD] at h
theorem bD.wb:∀{vs:List V} {ds:List D} {i:Nat} {v:V},bD K H vs ds->vs[i]?=some v->∃d,ds[i]?=some d/\Rep K H v d
 | [],[],i,d,_,e=>by simp at e
 | v'::vs,d::ds,0,v,h,e=>by
  simp only[bD] at h;simp only[List.getElem?_cons_zero,aH] at e;subst e;exact⟨d,rfl,h.1⟩
 | v'::vs,d::ds,i+1,v,h,e=>by
  simp only[bD] at h;simp only[List.getElem?_cons_succ] at e ⊢;exact bD.wb h.2 e
 | [],_::_,_,_,h,_=>by simp only[bD] at h
 | _::_,[],_,_,h,_=>by simp only[bD] at h
theorem bD.nil:bD K H [] []:=by simp only[bD]
theorem bD.cons{v:V}{vs:List V}{d:D}{ds:List D}(h:Rep K H v d)(hs:bD K H vs ds):bD K H (v::vs) (d::ds):=by simp only[bD];exact⟨h,hs⟩
theorem bD.append:∀{vs:List V} {ds:List D} {us:List V} {es:List D},bD K H vs ds->bD K H us es->bD K H (vs++us) (ds++es)
 | [],[],_,_,_,h=>h
 | v::vs,d::ds,_,_,h,h'=>by
  simp only[bD] at h;exact bD.cons h.1 (bD.append h.2 h')
 | [],_::_,_,_,h,_=>by simp only[bD] at h
 | _::_,[],_,_,h,_=>by simp only[bD] at h
theorem bD.take:∀{vs:List V} {ds:List D} (n:Nat),bD K H vs ds->bD K H (vs.take n) (ds.take n)
 | _,_,0,_=>bD.nil
 | [],[],_+1,_=>bD.nil
 | v::vs,d::ds,n+1,h=>by
  simp only[bD] at h;exact bD.cons h.1 (bD.take n h.2)
 | [],_::_,_+1,h=>by simp only[bD] at h
 | _::_,[],_+1,h=>by simp only[bD] at h
theorem bD.drop:∀{vs:List V} {ds:List D} (n:Nat),bD K H vs ds->bD K H (vs.drop n) (ds.drop n)
 | _,_,0,h=>h
 | [],[],_+1,_=>bD.nil
 | v::vs,d::ds,n+1,h=>by
  simp only[bD] at h;exact bD.drop n h.2
 | [],_::_,_+1,h=>by simp only[bD] at h
 | _::_,[],_+1,h=>by simp only[bD] at h
theorem bD.set:∀{vs:List V} {ds:List D} {v:V} {d:D} (n:Nat),bD K H vs ds->Rep K H v d->bD K H (vs.set n v) (ds.set n d)
 | [],[],_,_,_,_,_=>bD.nil
 | v'::vs,d'::ds,v,d,0,h,q=>by
  simp only[bD] at h;exact bD.cons q h.2
 | v'::vs,d'::ds,v,d,n+1,h,q=>by
  simp only[bD] at h;exact bD.cons h.1 (bD.set n h.2 q)
 | [],_::_,_,_,_,h,_=>by simp only[bD] at h
 | _::_,[],_,_,_,h,_=>by simp only[bD] at h
end
structure Ext (G H G' H':Hp):Prop where
 g:bM G G'
 h:bM H H'
 s:bM G' H'
 n:∀p,G p=none->H p≠none->G' p=none
theorem Ext.refl{G H:Hp}(s:bM G H):Ext G H G H:=⟨bM.refl _,bM.refl _,s,fun _ h _=>h⟩
theorem Ext.trans{G H G1 H1 G2 H2:Hp}(a:Ext G H G1 H1)(b:Ext G1 H1 G2 H2):Ext G H G2 H2:=
 ⟨a.g.trans b.g,a.h.trans b.h,b.s,fun p h1 h2=>b.n p (a.n p h1 h2) fun z=>h2 (a.h.free z)⟩
theorem qc{H:Hp}{p:Addr}{o:HO}(h:H p=none):bM H (upd H p o):=fun b u e=>by rw[cM (iN e h)];exact e
theorem Mg{G H:Hp}{p:Addr}{o:HO}(s:bM G H):bM (upd G p o) (upd H p o):=fun b u e=>by
 by_cases hb:b=p
 ·subst hb;rw[fP] at e ⊢;exact e
 ·rw[cM hb] at e ⊢;exact s b u e
theorem Ext.new{G H:Hp}{p:Addr}{o:HO}(s:bM G H)(h:H p=none):Ext G H (upd G p o) (upd H p o):=
 ⟨qc (s.free h),qc h,Mg s,fun q h1 h2=>by rw[cM (fun z=>h2 (by rw[z];exact h))];exact h1⟩
theorem Ext.own{G H:Hp}{p:Addr}{o:HO}(s:bM G H)(h:H p=none):Ext G H G (upd H p o):=
 ⟨bM.refl _,qc h,s.trans (qc h),fun q h1 _=>h1⟩
inductive OV where
 | ll (cN:List (List D))
 | dc (bF:List (Key×D))
 | dl (bF:List (Key×List D))
 | tl (d:D) (ds:List D)
 | ld (sv:List (List (Key×D)))
 | dt (bF:List (List Key×List D))
 | tp (ds:List D)
 | ob (cn:Str) (fs:List (Str×List D))
 | dq (bF:List (List Key×D))
noncomputable def OV.val:OV->D
 | .ll cN=>.lst (cN.map .lst)
 | .dc bF=>.dic bF
 | .dl bF=>.dic (bF.map fun p=>(p.1,.lst p.2))
 | .tl d ds=>.tup [d,.lst ds]
 | .ld sv=>.lst (sv.map .dic)
 | .dt bF=>.dit (bF.map fun p=>(p.1,.lst p.2))
 | .tp ds=>.tup ds
 | .ob cn fs=>.obj cn (fs.map fun p=>(p.1,.lst p.2))
 | .dq bF=>.dit bF
inductive R where
 | fz (d:D)
 | ow (ds:List D)
 | ov (o:OV)
noncomputable def R.val:R->D
 | .fz d=>d
 | .ow ds=>.lst ds
 | .ov o=>o.val
inductive Sl where
 | un
 | fz (d:D)
 | ow (ds:List D)
 | ov (o:OV)
noncomputable def R.sl:R->Sl
 | .fz d=>.fz d
 | .ow ds=>.ow ds
 | .ov o=>.ov o
def bO(K:PySem.W.Frag)(G H:Hp):List Addr->List (List D)->Prop
 | [],[]=>True
 | q::qs,ds::cN=>(∃xs,H q=some (.lst xs)/\bD K G xs ds)/\bO K G H qs cN
 | _,_=>False
theorem bO.mono{K:PySem.W.Frag}{G H G' H':Hp}(g:bM G G'):∀{qs:List Addr} {cN:List (List D)},(∀q∈qs,∀xs,H q=some (.lst xs)->H' q=some (.lst xs))->bO K G H qs cN->bO K G' H' qs cN
 | [],[],_,_=>by simp only[bO]
 | q::qs,ds::cN,hh,h=>by
  simp only[bO] at h ⊢;obtain⟨⟨xs,h1,h2⟩,h3⟩:=h;exact⟨⟨xs,hh q (by simp) xs h1,h2.mono g⟩,bO.mono g (fun r hr=>hh r (by simp[hr])) h3⟩
 | [],_::_,_,h=>by simp only[bO] at h
 | _::_,[],_,h=>by simp only[bO] at h
theorem bO.here{K:PySem.W.Frag}{G H:Hp}:∀{qs:List Addr} {cN:List (List D)},bO K G H qs cN->∀q∈qs,H q≠none
 | [],[],_,q,hq=>by cases hq
 | q::qs,ds::cN,h,r,hr=>by
  simp only[bO] at h;obtain⟨⟨xs,h1,h2⟩,h3⟩:=h;rcases au.mp hr with rfl | hr
  ·rw[h1];exact nofun
  ·exact bO.here h3 r hr
 | [],_::_,h,_,_=>by simp only[bO] at h
 | _::_,[],h,_,_=>by simp only[bO] at h
theorem bO.jS{K:PySem.W.Frag}{G H G':Hp}(g:bM G G'):∀{qs:List Addr} {cN:List (List D)},(∀q∈qs,∀xs,H q=some (.lst xs)->G' q=some (.lst xs))->bO K G H qs cN->bD K G' (qs.map V.ref) (cN.map D.lst)
 | [],[],_,_=>bD.nil
 | q::qs,ds::cN,hh,h=>by
  simp only[bO] at h;obtain⟨⟨xs,h1,h2⟩,h3⟩:=h;refine bD.cons ?_ (bO.jS g (fun r hr=>hh r (by simp[hr])) h3);simp only[Rep];exact⟨q,xs,rfl,iR.of (hh q (by simp) xs h1),h2.mono g⟩
 | [],_::_,_,h=>by simp only[bO] at h
 | _::_,[],_,h=>by simp only[bO] at h
def dJ(K:PySem.W.Frag)(G H:Hp):List Addr->List (List (Key×D))->Prop
 | [],[]=>True
 | q::qs,ds::cN=>(∃ks ep,H q=some (.dK ks ep)/\d0 K G ks ds)/\dJ K G H qs cN
 | _,_=>False
theorem dJ.mono{K:PySem.W.Frag}{G H G' H':Hp}(g:bM G G'):∀{qs:List Addr} {cN:List (List (Key×D))},(∀q∈qs,∀u,H q=some u->H' q=some u)->dJ K G H qs cN->dJ K G' H' qs cN
 | [],[],_,_=>by simp only[dJ]
 | q::qs,ds::cN,hh,h=>by
  simp only[dJ] at h ⊢;obtain⟨⟨ks,ep,h1,h2⟩,h3⟩:=h;exact⟨⟨ks,ep,hh q (by simp) _ h1,d0.mono g _ _ h2⟩,dJ.mono g (fun r hr=>hh r (by simp[hr])) h3⟩
 | [],_::_,_,h=>by simp only[dJ] at h
 | _::_,[],_,h=>by simp only[dJ] at h
theorem dJ.kind{K:PySem.W.Frag}{G H:Hp}:∀{qs:List Addr} {cN:List (List (Key×D))},dJ K G H qs cN->∀q∈qs,∃ks ep,H q=some (.dK ks ep)
 | [],[],_,q,hq=>by cases hq
 | q::qs,ds::cN,h,r,hr=>by
  simp only[dJ] at h;obtain⟨⟨ks,ep,h1,h2⟩,h3⟩:=h;rcases au.mp hr with rfl | hr
  ·exact⟨ks,ep,h1⟩
  ·exact dJ.kind h3 r hr
 | [],_::_,h,_,_=>by simp only[dJ] at h
 | _::_,[],h,_,_=>by simp only[dJ] at h
theorem dJ.here{K:PySem.W.Frag}{G H:Hp}{qs:List Addr}{cN:List (List (Key×D))}(h:dJ K G H qs cN):∀q∈qs,H q≠none:=fun q hq=>by
 obtain⟨ks,ep,e⟩:=h.kind q hq;rw[e];exact nofun
theorem dJ.jS{K:PySem.W.Frag}{G H G':Hp}(g:bM G G'):∀{qs:List Addr} {cN:List (List (Key×D))},(∀q∈qs,∀u,H q=some u->G' q=some u)->dJ K G H qs cN->bD K G' (qs.map V.ref) (cN.map D.dic)
 | [],[],_,_=>bD.nil
 | q::qs,ds::cN,hh,h=>by
  simp only[dJ] at h;obtain⟨⟨ks,ep,h1,h2⟩,h3⟩:=h;refine bD.cons ?_ (dJ.jS g (fun r hr=>hh r (by simp[hr])) h3);simp only[Rep];exact⟨q,ks,ep,rfl,hh q (by simp) _ h1,d0.mono g _ _ h2⟩
 | [],_::_,_,h=>by simp only[dJ] at h
 | _::_,[],_,h=>by simp only[dJ] at h
def g7(K:PySem.W.Frag)(G H:Hp)(p:Addr)(fp:List Addr):OV->Prop
 | .ll cN=>H p=some (.lst (fp.map V.ref))/\bO K G H fp cN
 | .dc bF=>fp=[]/\∃ks ep,H p=some (.dK ks ep)/\d0 K G ks bF
 | .dl bF=>∃ks ep,H p=some (.dK ks ep)/\ks.map (·.1)=bF.map (·.1)/\ks.map (·.2)=fp.map V.ref/\bO K G H fp (bF.map (·.2))
 | .tl d ds=>∃q v xs,fp=[q]/\H p=some (.tup [v,.ref q])/\Rep K G v d/\H q=some (.lst xs)/\bD K G xs ds
 | .ld sv=>H p=some (.lst (fp.map V.ref))/\dJ K G H fp sv
 | .dt bF=>∃ks bs,H p=some (.dT ks bs)/\cC G ks bs.1/\ks.map (·.1)=bF.map (·.1)/\ks.map (·.2)=fp.map V.ref/\bO K G H fp (bF.map (·.2))
 | .tp ds=>fp=[]/\∃xs,H p=some (.tup xs)/\bD K G xs ds
 | .ob cn fs=>∃C dx gs,H p=some (.ins C dx gs)/\ClsAt K cn C/\(∀p∈fs,DB K C p.1)/\gs.map (·.1)=fs.map (·.1)/\gs.map (·.2)=fp.map V.ref/\bO K G H fp (fs.map (·.2))
 | .dq bF=>fp=[]/\∃ks bs,H p=some (.dT ks bs)/\cC G ks bs.1/\bN K G ks bF
theorem g7.here{K:PySem.W.Frag}{G H:Hp}{p:Addr}{fp:List Addr}{o:OV}(h:g7 K G H p fp o):∀q∈p::fp,H q≠none:=by
 intro q hq;cases o with
 | ll cN=>
  rcases au.mp hq with rfl | hq
  ·rw[h.1];exact nofun
  ·exact h.2.here q hq
 | dc bF=>
  obtain⟨rfl,ks,ep,h1,_⟩:=h;simp only[a9] at hq;subst hq;rw[h1];exact nofun
 | dl bF=>
  obtain⟨ks,ep,h1,_,_,h4⟩:=h;rcases au.mp hq with rfl | hq
  ·rw[h1];exact nofun
  ·exact h4.here q hq
 | tl d ds=>
  obtain⟨r,v,xs,rfl,h1,_,h2,_⟩:=h;simp only[au,List.not_mem_nil,or_false] at hq;rcases hq with rfl | rfl
  ·rw[h1];exact nofun
  ·rw[h2];exact nofun
 | ld sv=>
  rcases au.mp hq with rfl | hq
  ·rw[h.1];exact nofun
  ·exact h.2.here q hq
 | dt bF=>
  obtain⟨ks,bs,h1,_,_,_,h4⟩:=h;rcases au.mp hq with rfl | hq
  ·rw[h1];exact nofun
  ·exact h4.here q hq
 | tp ds=>
  obtain⟨rfl,xs,h1,_⟩:=h;simp only[a9] at hq;subst hq;rw[h1];exact nofun
 | ob cn fs=>
  obtain⟨C,dx,gs,h1,_,_,_,_,h4⟩:=h;rcases au.mp hq with rfl | hq
  ·rw[h1];exact nofun
  ·exact h4.here q hq
 | dq bF=>
  obtain⟨rfl,ks,bs,h1,_⟩:=h;simp only[a9] at hq;subst hq;rw[h1];exact nofun
theorem g7.mono{K:PySem.W.Frag}{G H G' H':Hp}{p:Addr}{fp:List Addr}{o:OV}(g:bM G G')(hh:∀q∈p::fp,∀u,H q=some u->H' q=some u)(h:g7 K G H p fp o):g7 K G' H' p fp o:=by
 cases o with
 | ll cN=>exact⟨hh p (by simp) _ h.1,h.2.mono g fun q hq xs=>hh q (by simp[hq]) _⟩
 | dc bF=>
  obtain⟨rfl,ks,ep,h1,h2⟩:=h;exact⟨rfl,ks,ep,hh p (by simp) _ h1,d0.mono g _ _ h2⟩
 | dl bF=>
  obtain⟨ks,ep,h1,h2,h3,h4⟩:=h;exact⟨ks,ep,hh p (by simp) _ h1,h2,h3,h4.mono g fun q hq xs=>hh q (by simp[hq]) _⟩
 | tl d ds=>
  obtain⟨r,v,xs,rfl,h1,h2,h3,h4⟩:=h;exact⟨r,v,xs,rfl,hh p (by simp) _ h1,h2.mono g,hh r (by simp) _ h3,h4.mono g⟩
 | ld sv=>exact⟨hh p (by simp) _ h.1,h.2.mono g fun q hq=>hh q (by simp[hq])⟩
 | dt bF=>
  obtain⟨ks,bs,h1,hk,h2,h3,h4⟩:=h;exact⟨ks,bs,hh p (by simp) _ h1,hk.mono g,h2,h3,h4.mono g fun q hq xs=>hh q (by simp[hq]) _⟩
 | tp ds=>
  obtain⟨rfl,xs,h1,h2⟩:=h;exact⟨rfl,xs,hh p (by simp) _ h1,h2.mono g⟩
 | ob cn fs=>
  obtain⟨C,dx,gs,h1,hc,hn,h2,h3,h4⟩:=h;exact⟨C,dx,gs,hh p (by simp) _ h1,hc,hn,h2,h3,h4.mono g fun q hq xs=>hh q (by simp[hq]) _⟩
 | dq bF=>
  obtain⟨rfl,ks,bs,h1,hk,h2⟩:=h;exact⟨rfl,ks,bs,hh p (by simp) _ h1,hk.mono g,bN.mono g _ _ h2⟩
theorem d0.dy{K:PySem.W.Frag}{G:Hp}:∀{ks:List (Key×V)} {bF:List (Key×List D)} {fp:List Addr},ks.map (·.1)=bF.map (·.1)->ks.map (·.2)=fp.map V.ref->bD K G (fp.map V.ref) ((bF.map (·.2)).map D.lst)->d0 K G ks (bF.map fun p=>(p.1,.lst p.2))
 | [],[],_,_,_,_=>by simp only[List.map_nil,d0]
 | a::ks,b::bF,fp,h1,h2,h3=>by
  simp only[ao,List.cons.injEq] at h1;cases fp with
  | nil=>simp at h2
  | cons q fp=>
   simp only[ao,List.cons.injEq] at h2;simp only[ao,bD] at h3;simp only[ao,d0];exact⟨⟨h1.1,by rw[h2.1];exact h3.1⟩,d0.dy h1.2 h2.2 h3.2⟩
 | [],_::_,_,h,_,_=>by simp at h
 | _::_,[],_,h,_,_=>by simp at h
theorem bN.dy{K:PySem.W.Frag}{G:Hp}:∀{ks:List (List Key×V)} {bF:List (List Key×List D)} {fp:List Addr},ks.map (·.1)=bF.map (·.1)->ks.map (·.2)=fp.map V.ref->bD K G (fp.map V.ref) ((bF.map (·.2)).map D.lst)->bN K G ks (bF.map fun p=>(p.1,.lst p.2))
 | [],[],_,_,_,_=>by simp only[List.map_nil,bN]
 | a::ks,b::bF,fp,h1,h2,h3=>by
  simp only[ao,List.cons.injEq] at h1;cases fp with
  | nil=>simp at h2
  | cons q fp=>
   simp only[ao,List.cons.injEq] at h2;simp only[ao,bD] at h3;simp only[ao,bN];exact⟨⟨h1.1,by rw[h2.1];exact h3.1⟩,bN.dy h1.2 h2.2 h3.2⟩
 | [],_::_,_,h,_,_=>by simp at h
 | _::_,[],_,h,_,_=>by simp at h
theorem fI.dy{K:PySem.W.Frag}{G:Hp}:∀{ks:List (Str×V)} {bF:List (Str×List D)} {fp:List Addr},ks.map (·.1)=bF.map (·.1)->ks.map (·.2)=fp.map V.ref->bD K G (fp.map V.ref) ((bF.map (·.2)).map D.lst)->fI K G ks (bF.map fun p=>(p.1,.lst p.2))
 | [],[],_,_,_,_=>by simp only[List.map_nil,fI]
 | a::ks,b::bF,fp,h1,h2,h3=>by
  simp only[ao,List.cons.injEq] at h1;cases fp with
  | nil=>simp at h2
  | cons q fp=>
   simp only[ao,List.cons.injEq] at h2;simp only[ao,bD] at h3;simp only[ao,fI];exact⟨⟨h1.1,by rw[h2.1];exact h3.1⟩,fI.dy h1.2 h2.2 h3.2⟩
 | [],_::_,_,h,_,_=>by simp at h
 | _::_,[],_,h,_,_=>by simp at h
noncomputable def lX(G H:Hp)(l:List Addr):Hp:=fun a=>if a∈l then H a else G a
theorem oN{G H:Hp}{l:List Addr}{a:Addr}(h:a∈l):lX G H l a=H a:=if_pos h
theorem nE{G H:Hp}{l:List Addr}{a:Addr}(h:a∉l):lX G H l a=G a:=if_neg h
theorem uL{G H:Hp}{l:List Addr}(h:∀q∈l,G q=none):bM G (lX G H l):=fun b u e=>by
 rw[nE (fun z=>by rw[h b z] at e;cases e)];exact e
theorem g7.freeze{K:PySem.W.Frag}{G H:Hp}{p:Addr}{fp:List Addr}{o:OV}(h:g7 K G H p fp o)(hn:∀q∈p::fp,G q=none):Rep K (lX G H (p::fp)) (.ref p) o.val:=by
 have hs:=uL (H:=H) hn;have hp:lX G H (p::fp) p=H p:=oN (by simp);cases o with
 | ll cN=>
  simp only[OV.val,Rep];exact⟨p,_,rfl,iR.of (by rw[hp];exact h.1),h.2.jS hs fun q hq xs e=>by rw[oN (by simp[hq])];exact e⟩
 | dc bF=>
  obtain⟨rfl,ks,ep,h1,h2⟩:=h;simp only[OV.val,Rep];exact⟨p,ks,ep,rfl,by rw[hp];exact h1,d0.mono hs _ _ h2⟩
 | dl bF=>
  obtain⟨ks,ep,h1,h2,h3,h4⟩:=h;simp only[OV.val,Rep];exact⟨p,ks,ep,rfl,by rw[hp];exact h1,d0.dy h2 h3 (h4.jS hs fun q hq xs e=>by rw[oN (by simp[hq])];exact e)⟩
 | tl d ds=>
  obtain⟨r,v,xs,rfl,h1,h2,h3,h4⟩:=h;simp only[OV.val,Rep];refine⟨p,_,rfl,(by rw[hp];exact h1),bD.cons (h2.mono hs) (bD.cons ?_ bD.nil)⟩;simp only[Rep];exact⟨r,xs,rfl,iR.of (by rw[oN (by simp)];exact h3),h4.mono hs⟩
 | dt bF=>
  obtain⟨ks,bs,h1,hk,h2,h3,h4⟩:=h;simp only[OV.val,Rep];exact⟨p,ks,bs,rfl,by rw[hp];exact h1,hk.mono hs,bN.dy h2 h3 (h4.jS hs fun q hq xs e=>by rw[oN (by simp[hq])];exact e)⟩
 | tp ds=>
  obtain⟨rfl,xs,h1,h2⟩:=h;simp only[OV.val,Rep];exact⟨p,xs,rfl,(by rw[hp];exact h1),h2.mono hs⟩
 | ob cn fs=>
  obtain⟨C,dx,gs,h1,hc,hn,h2,h3,h4⟩:=h;simp only[OV.val,Rep];refine⟨p,C,dx,gs,rfl,by rw[hp];exact h1,hc,fun u hu=>?_,fI.dy h2 h3 (h4.jS hs fun q hq xs e=>by rw[oN (by simp[hq])];exact e)⟩;obtain⟨v,hv,rfl⟩:=aK.mp hu;exact hn v hv
 | ld sv=>
  simp only[OV.val,Rep];exact⟨p,_,rfl,iR.of (by rw[hp];exact h.1),h.2.jS hs fun q hq u e=>by rw[oN (by simp[hq])];exact e⟩
 | dq bF=>
  obtain⟨rfl,ks,bs,h1,hk,h2⟩:=h;simp only[OV.val,Rep];exact⟨p,ks,bs,rfl,by rw[hp];exact h1,hk.mono hs,bN.mono hs _ _ h2⟩
noncomputable abbrev Ev:=List Sl
noncomputable def gt:Ev->Nat->Sl
 | [],_=>.un
 | a::_,0=>a
 | _::r,n+1=>gt r n
theorem pX{ρ:Ev}{i j:Nat}{s:Sl}:gt (ρ.set i s) j=if i=j/\j<ρ.length then s else gt ρ j:=by
 induction ρ generalizing i j with
 | nil=>simp[gt]
 | cons a r ih=>
  cases i with
  | zero=>
   cases j with
   | zero=>simp[gt]
   | succ j=>simp[gt]
  | succ i=>
   cases j with
   | zero=>simp[gt]
   | succ j=>simp[gt,ih]
def di(K:PySem.W.Frag)(G' H' H:Hp)(v:V):R->Prop
 | .fz d=>Rep K G' v d
 | .ow ds=>∃p xs,v=.ref p/\H p=none/\G' p=none/\H' p=some (.lst xs)/\bD K G' xs ds
 | .ov o=>∃p fp,v=.ref p/\(p::fp).Nodup/\g7 K G' H' p fp o/\∀q∈p::fp,H q=none/\G' q=none
structure cJ (K:PySem.W.Frag) (G0 H0:Hp) (ρ:Ev) (σ:St) (G H:Hp):Prop where
 e:Ext G0 H0 G H
 len:σ.length=ρ.length
 fz:∀i d,gt ρ i=.fz d->∃v,σ[i]?=some (some v)/\Rep K G v d
 ow:∀i ds,gt ρ i=.ow ds->∃p xs,σ[i]?=some (some (.ref p))/\H p=some (.lst xs)/\G p=none/\H0 p=none/\bD K G xs ds
 dj:∀i j ds es,i≠j->gt ρ i=.ow ds->gt ρ j=.ow es->σ[i]?≠σ[j]?
 on:∃own:Addr->Option Nat,(∀i ds p,gt ρ i=.ow ds->σ[i]?=some (some (.ref p))->own p=some i)/\∀i o,gt ρ i=.ov o->∃p fp,σ[i]?=some (some (.ref p))/\(p::fp).Nodup/\g7 K G H p fp o/\∀q∈p::fp,G q=none/\H0 q=none/\own q=some i
section
variable {K:PySem.W.Frag} {G0 H0 G H G' H' G2 H2:Hp} {ρ:Ev} {σ:St} {v:V}
theorem cJ.ext(E:cJ K G0 H0 ρ σ G H)(x:Ext G H G' H'):cJ K G0 H0 ρ σ G' H' where
 e:=E.e.trans x
 len:=E.len
 fz:=fun i d h=>let⟨v,h1,h2⟩:=E.fz i d h;⟨v,h1,h2.mono x.g⟩
 ow:=fun i ds h=>let⟨p,xs,h1,h2,h3,h4,h5⟩:=E.ow i ds h;⟨p,xs,h1,x.h _ _ h2,x.n p h3 (by rw[h2];exact nofun),h4,h5.mono x.g⟩
 dj:=E.dj
 on:=by
  obtain⟨own,h1,h2⟩:=E.on;refine⟨own,h1,fun i o h=>?_⟩;obtain⟨p,fp,b1,b2,b3,b4⟩:=h2 i o h;exact⟨p,fp,b1,b2,b3.mono x.g fun q _ u e=>x.h q u e,fun q hq=>⟨x.n q (b4 q hq).1 (b3.here q hq),(b4 q hq).2⟩⟩
theorem di.freeze{r:R}(x:Ext G H G' H')(h:di K G' H' H v r):∃G2,Ext G H G2 H'/\Rep K G2 v r.val/\bM G' G2:=by
 cases r with
 | fz d=>exact⟨G',x,h,bM.refl _⟩
 | ow ds=>
  obtain⟨p,xs,h1,h2,h3,h4,h5⟩:=h;refine⟨upd G' p (.lst xs),⟨x.g.trans (qc h3),x.h,fun b o e=>?_,fun q mw ig=>?_⟩,?_,qc h3⟩
  ·by_cases hb:b=p
   ·subst hb;rw[fP] at e;rw[h4];exact e
   ·rw[cM hb] at e;exact x.s b o e
  ·rw[cM (fun z=>ig (by rw[z];exact h2))];exact x.n q mw ig
  ·show Rep K (upd G' p (.lst xs)) v (.lst ds);simp only[Rep];exact⟨p,xs,h1,iR.of fP,h5.mono (qc h3)⟩
 | ov o=>
  obtain⟨p,fp,rfl,h1,h2,h3⟩:=h;have hn:∀q∈p::fp,G' q=none:=fun q hq=>(h3 q hq).2
  refine⟨lX G' H' (p::fp),⟨x.g.trans (uL hn),x.h,fun b u e=>?_,fun q mw ig=>?_⟩,h2.freeze hn,uL hn⟩
  ·by_cases hb:b∈p::fp
   ·rw[oN hb] at e;exact e
   ·rw[nE hb] at e;exact x.s b u e
  ·rw[nE (fun z=>ig (h3 q z).1)];exact x.n q mw ig
theorem di.iA{r:R}{H1 H3:Hp}(s:bM H3 H1)(h:di K G' H' H1 v r):di K G' H' H3 v r:=by
 cases r with
 | fz d=>exact h
 | ow ds=>
  obtain⟨p,xs,h1,h2,h3,h4,h5⟩:=h;exact⟨p,xs,h1,s.free h2,h3,h4,h5⟩
 | ov o=>
  obtain⟨p,fp,rfl,h1,h2,h3⟩:=h;exact⟨p,fp,rfl,h1,h2,fun q hq=>⟨s.free (h3 q hq).1,(h3 q hq).2⟩⟩
end
noncomputable abbrev TD:=Ev->(R->Prop)->Prop
noncomputable abbrev gU:=Ev->(Bool->Prop)->Prop
noncomputable abbrev iw:=Ev->(List D->Prop)->Prop
structure DE where
 nx:Ev->Prop
 rt:R->Prop
 bk:Ev->Prop:=fun _=>False
 ct:Ev->Prop:=fun _=>False
noncomputable abbrev TX:=DE->Ev->Prop
def PD(X:Cx)(e:Expr)(t:TD):Prop:=∃tt,PE X e tt/\∀(ρ:Ev) (σ:St) (G0 H0 G H:Hp) (Q:R->Prop) (P:VK),cJ X.K G0 H0 ρ σ G H->t ρ Q->
 (∀v H' r G',Ext G H G' H'->di X.K G' H' H v r->Q r->P v H')->tt σ H P
def PB(X:Cx)(e:Expr)(t:gU):Prop:=∃tt,PT X e tt/\∀(ρ:Ev) (σ:St) (G0 H0 G H:Hp) (Q:Bool->Prop) (P:Bool->Hp->Prop),cJ X.K G0 H0 ρ σ G H->t ρ Q->
 (∀b H' G',Ext G H G' H'->Q b->P b H')->tt σ H P
def lW(X:Cx)(es:List Expr)(t:iw):Prop:=∃tt,PA X es tt/\∀(ρ:Ev) (σ:St) (G0 H0 G H:Hp) (Q:List D->Prop) (P:List V->Hp->Prop),cJ X.K G0 H0 ρ σ G H->t ρ Q->
 (∀vs H' ds G',Ext G H G' H'->bD X.K G' vs ds->Q ds->P vs H')->tt σ H P
structure Goes (K:PySem.W.Frag) (G0 H0 G:Hp) (D:DE) (E:Ends):Prop where
 nx:∀ρ σ G' H',bM G G'->cJ K G0 H0 ρ σ G' H'->D.nx ρ->E.nx σ H'
 rt:∀v H' r G',Ext G0 H0 G' H'->di K G' H' H0 v r->D.rt r->E.rt v H'
 bk:∀ρ σ G' H',bM G G'->cJ K G0 H0 ρ σ G' H'->D.bk ρ->E.bk σ H'
 ct:∀ρ σ G' H',bM G G'->cJ K G0 H0 ρ σ G' H'->D.ct ρ->E.ct σ H'
theorem Goes.shift{K:PySem.W.Frag}{G0 H0 G G':Hp}{D:DE}{E:Ends}(g:Goes K G0 H0 G D E)(s:bM G G'):Goes K G0 H0 G' D E:=
 ⟨fun ρ σ G2 H2 s2=>g.nx ρ σ G2 H2 (s.trans s2),g.rt,fun ρ σ G2 H2 s2=>g.bk ρ σ G2 H2 (s.trans s2),fun ρ σ G2 H2 s2=>g.ct ρ σ G2 H2 (s.trans s2)⟩
def PX(X:Cx)(st:Stmt)(t:TX):Prop:=∃tt,PS X st tt/\∀(ρ:Ev) (σ:St) (G0 H0 G H:Hp) (D:DE) (E:Ends),cJ X.K G0 H0 ρ σ G H->t D ρ->Goes X.K G0 H0 G D E->tt E σ H
def kX(X:Cx)(st:List Stmt)(t:TX):Prop:=∃tt,kA X st tt/\∀(ρ:Ev) (σ:St) (G0 H0 G H:Hp) (D:DE) (E:Ends),cJ X.K G0 H0 ρ σ G H->t D ρ->Goes X.K G0 H0 G D E->tt E σ H
end L2
namespace L2
open PySem PySem.Spec PyProof.Rows
section
variable {X:Cx} {pos:Pos} {a b c:Expr} {ta tb tc:TD}
theorem eV{K:PySem.W.Frag}{G' H' H:Hp}{v:V}{d:D}(h:Rep K G' v d):di K G' H' H v (.fz d):=h
def bH(i:Nat):TD:=fun ρ Q=>match gt ρ i with
 | .fz d=>Q (.fz d)
 | _=>False
theorem bI(i:Nat){x:Str}(hN:X.N[i]?=some x:=by rfl)(hv:j2 X.env.scope x:=by first | exact Or.inl rfl | exact Or.inr (Or.inl rfl) | exact Or.inr (Or.inr rfl))(hd:(x==("__debug__":Str))=false:=by decide)
  (fK:(x==("__classdict__":Str))=false:=by decide):PD X (.Name x pos) (bH i):=by
 refine⟨_,mU hN hv hd fK,fun ρ σ G0 H0 G H Q P E h k=>?_⟩;unfold bH at h;split at h
 ·rename_i d e;obtain⟨v,h1,h2⟩:=E.fz i d e;exact⟨v,h1,k v H (.fz d) G (.refl E.e.s) h2 h⟩
 ·exact h.elim
def dC(d:D):TD:=fun _ Q=>Q (.fz d)
theorem uQ{e:Expr}{v:V}{d:D}(h:PE X e (tC v))(r:∀K G,Rep K G v d):PD X e (dC d):=
 ⟨_,h,fun ρ σ G0 H0 G H Q P E h k=>k v H (.fz d) G (.refl E.e.s) (r _ _) h⟩
theorem i9(K:PySem.W.Frag)(G:Hp)(i:Int):Rep K G (.int i) (.int i):=by simp only[Rep]
theorem iq(K:PySem.W.Frag)(G:Hp)(i:Bool):Rep K G (.bl i) (.bl i):=by simp only[Rep]
theorem pY(K:PySem.W.Frag)(G:Hp)(i:Str):Rep K G (.str i) (.str i):=by simp only[Rep]
theorem zq(K:PySem.W.Frag)(G:Hp):Rep K G .non .non:=by simp only[Rep]
theorem bR{i j}:PD X (.Constant (.int i) j pos) (dC (.int i)):=uQ Kd fun K G=>i9 K G i
theorem kF{i j}:PD X (.Constant (.bool i) j pos) (dC (.bl i)):=uQ Ij fun K G=>iq K G i
theorem fA{i j}:PD X (.Constant (.str i) j pos) (dC (.str i)):=uQ Kb fun K G=>pY K G i
theorem sY{j}:PD X (.Constant .none j pos) (dC .non):=uQ Kc fun K G=>zq K G
theorem nD{x:Str}{i:Str}{t:Tok}(hm:X.mg x=some (.str i t))(hg:Gl X x:=by rfl)(hd:(x==("__debug__":Str))=false:=by decide):PD X (.Name x pos) (dC (.str i)):=uQ (zx hg hm (v:=.str i) ⟨t,rfl⟩ hd) fun K G=>pY K G i
noncomputable abbrev O2:=D->D->(R->Prop)->Prop
def jg(X:Cx)(f:Value->Value->Sem Value)(o:O2):Prop:=∃r:R2,fj X f r/\∀(G H:Hp) (x y:V) (d e:D) (Q:R->Prop) (P:VK),bM G H->Rep X.K G x d->Rep X.K G y e->o d e Q->
 (∀v H' r' G',Ext G H G' H'->di X.K G' H' H v r'->Q r'->P v H')->r x y H P
def bJ(o:O2)(ta tb:TD):TD:=fun ρ Q=>ta ρ fun ra=>tb ρ fun rb=>o ra.val rb.val Q
theorem xj{r:R2}{o:O2}{vf ve:TE}
  (hr:∀(G H:Hp) (x y:V) (d e:D) (Q:R->Prop) (P:VK),bM G H->Rep X.K G x d->Rep X.K G y e->o d e Q->(∀v H' r' G',Ext G H G' H'->di X.K G' H' H v r'->Q r'->P v H')->r x y H P)
  (ha:∀(ρ:Ev) (σ:St) (G0 H0 G H:Hp) (Q:R->Prop) (P:VK),cJ X.K G0 H0 ρ σ G H->ta ρ Q->(∀v H' r G',Ext G H G' H'->di X.K G' H' H v r->Q r->P v H')->vf σ H P)
  (hb:∀(ρ:Ev) (σ:St) (G0 H0 G H:Hp) (Q:R->Prop) (P:VK),cJ X.K G0 H0 ρ σ G H->tb ρ Q->(∀v H' r G',Ext G H G' H'->di X.K G' H' H v r->Q r->P v H')->ve σ H P)
  (ρ:Ev) (σ:St) (G0 H0 G H:Hp) (Q:R->Prop) (P:VK) (E:cJ X.K G0 H0 ρ σ G H) (h:bJ o ta tb ρ Q) (k:∀v H' r G',Ext G H G' H'->di X.K G' H' H v r->Q r->P v H'):vi r vf ve σ H P:=by
 refine ha ρ σ G0 H0 G H _ _ E h fun v H1 ra G1 x1 r1 h1=>?_
 obtain⟨Cu,qi,q1,_⟩:=r1.freeze x1;refine hb ρ σ G0 H0 Cu H1 _ _ (E.ext qi) h1 fun u H2 rb G2 x2 r2 h2=>?_
 obtain⟨yr,qh,q2,_⟩:=r2.freeze x2;refine hr yr H2 v u _ _ Q P qh.s (q1.mono qh.g) q2 h2 fun v' H' r' G' x3 r3 h3=>?_
 have x4:=(qi.trans qh).trans x3;exact k v' H' r' G' x4 (r3.iA (qi.trans qh).h) h3
theorem bZ{op:Operator}{o:O2}(ho:jg X (binaryOp op) o)(ha:PD X a ta)(hb:PD X b tb):PD X (.BinOp a op b pos) (bJ o ta tb):=by
 obtain⟨r,hr,ku⟩:=ho;obtain⟨vf,pa,qa⟩:=ha;obtain⟨ve,pb,qb⟩:=hb;exact⟨_,C4 hr pa pb,xj ku qa qb⟩
theorem mT{op:CmpOp}{o:O2}(ho:jg X (compareOp op) o)(ha:PD X a ta)(hb:PD X b tb)(hm:behindInMarks op b=false:=by first | exact DD _ | rfl):PD X (.Compare a [op] [b] pos) (bJ o ta tb):=by
 obtain⟨r,hr,ku⟩:=ho;obtain⟨vf,pa,qa⟩:=ha;obtain⟨ve,pb,qb⟩:=hb;exact⟨_,Ks hr pa pb hm,xj ku qa qb⟩
def dh(t:TD):gU:=fun ρ Q=>t ρ fun r=>match r with
 | .fz (.bl k)=>Q k
 | _=>False
theorem fk{op:CmpOp}{o:O2}(ho:jg X (compareOp op) o)(ha:PD X a ta)(hb:PD X b tb)(hm:behindInMarks op b=false:=by first | exact DD _ | rfl):PB X (.Compare a [op] [b] pos) (dh (bJ o ta tb)):=by
 obtain⟨r,hr,ku⟩:=ho;obtain⟨vf,pa,qa⟩:=ha;obtain⟨ve,pb,qb⟩:=hb;refine⟨_,Kr hr pa pb hm,fun ρ σ G0 H0 G H Q P E h k=>?_⟩;refine xj ku qa qb ρ σ G0 H0 G H _ _ E h fun v H' r G' x1 r1 h1=>?_
 split at h1
 ·rename_i kk;have e:v=.bl kk:=by simpa only[di,Rep] using r1
  exact⟨kk,e,k kk H' G' x1 h1⟩
 ·exact h1.elim
theorem kI{e:Expr}{t:TD}(h:PD X e t)(he:∀whole,isTrue e X.env whole=(do let v <-whole;standAt e.pos;holding [v] (truthy v)):=by intro _;rfl):PB X e (dh t):=by
 obtain⟨tt,p,q⟩:=h;refine⟨_,Ka p he,fun ρ σ G0 H0 G H Q P E h k=>?_⟩;refine q ρ σ G0 H0 G H _ _ E h fun v H' r G' x1 r1 h1=>?_
 split at h1
 ·rename_i kk;have e:v=.bl kk:=by simpa only[di,Rep] using r1
  exact⟨kk,e,k kk H' G' x1 h1⟩
 ·exact h1.elim
def dX:O2:=fun d e Q=>match d,e with
 | .int i,.int j=>Q (.fz (.int (i+j)))
 | .str x,.str y=>x.length+y.length<=sizeLine/\Q (.fz (.str (x++y)))
 | .lst xs,.lst ys=>xs.length+ys.length<=sizeLine/\Q (.ow (xs++ys))
 | _,_=>False
def HQ(K:PySem.W.Frag):R2:=fun x y H Q=>∃l b xs zs,x=.ref l/\y=.ref b/\iR K H l xs/\iR K H b zs/\xs.length+zs.length<=sizeLine/\∀p,H p=none->Q (.ref p) (upd H p (.lst (xs++zs)))
theorem Ki:fj X (binaryOp .Add) (HQ X.K):=by
 intro pins s σ H x y v u Q I rx ry h;obtain⟨l,b,xs,zs,rfl,rfl,hH,hB,hz,q⟩:=h;cases rx;cases ry;obtain⟨z,its,n,r,e⟩:=I.gi hH;obtain⟨z2,gZ,n2,r2,e2⟩:=I.gi hB;have hl:=r.length;have tL:=r2.length;refine PySem.P.add_list e e2 ?_ (by rw[aq,aq];omega);have ea:its.toArray++gZ.toArray=(its++gZ).toArray:=by simp
 rw[ea];exact⟨.ref _,_,I.px (t':=s.toks) (r.append r2) (by rw[aC];omega),rfl,q _ I.fresh⟩
theorem zp{G H:Hp}{xs:List V}{ds:List D}{Q:R->Prop}{P:VK}(s:bM G H)(r:bD X.K G xs ds)(q:Q (.ow ds))
  (k:∀v H' r' G',Ext G H G' H'->di X.K G' H' H v r'->Q r'->P v H'):∀p,H p=none->P (.ref p) (upd H p (.lst xs)):=fun p hp=>
 k _ _ (.ow ds) G (.own s hp) ⟨p,xs,rfl,hp,s.free hp,fP,r⟩ q
theorem ej:jg X (binaryOp .Add) dX:=by
 refine⟨_,rN.or (kN.or Ki),fun G H x y d e Q P s rx ry h k=>?_⟩;unfold dX at h;split at h
 ·simp only[Rep] at rx ry;exact .inl ⟨_,_,rx,ry,k _ _ _ G (.refl s) (eV (i9 _ _ _)) h⟩
 ·simp only[Rep] at rx ry;exact .inr (.inl ⟨_,_,rx,ry,h.1,k _ _ _ G (.refl s) (eV (pY _ _ _)) h.2⟩)
 ·simp only[Rep] at rx ry;obtain⟨a,xs,rfl,hx,FL⟩:=rx;obtain⟨b,ys,rfl,hy,jL⟩:=ry;refine .inr (.inr ⟨_,_,_,_,rfl,rfl,s.gi hx,s.gi hy,by rw[FL.length,jL.length];exact h.1,zp s (FL.append jL) h.2 k⟩)
 ·exact h.elim
def oI(C:Int->Int->Prop)(g:Int->Int->D):O2:=fun d e Q=>match d,e with
 | .int i,.int j=>C i j/\Q (.fz (g i j))
 | _,_=>False
def ie(g:Int->Int->D):O2:=fun d e Q=>match d,e with
 | .int i,.int j=>Q (.fz (g i j))
 | _,_=>False
theorem w5{f:Value->Value->Sem Value}{C:Int->Int->Prop}{g:Int->Int->V}{g':Int->Int->D}(h:fj X f (rI C g))(hg:∀K G i j,Rep K G (g i j) (g' i j)):jg X f (oI C g'):=by
 refine⟨_,h,fun G H x y d e Q P s rx ry h k=>?_⟩;unfold oI at h;split at h
 ·simp only[Rep] at rx ry;exact⟨_,_,rx,ry,h.1,k _ _ _ G (.refl s) (eV (hg _ _ _ _)) h.2⟩
 ·exact h.elim
theorem xi{f:Value->Value->Sem Value}{g:Int->Int->V}{g':Int->Int->D}(h:fj X f (mj g))(hg:∀K G i j,Rep K G (g i j) (g' i j)):jg X f (ie g'):=by
 refine⟨_,h,fun G H x y d e Q P s rx ry h k=>?_⟩;unfold ie at h;split at h
 ·simp only[Rep] at rx ry;exact⟨_,_,rx,ry,k _ _ _ G (.refl s) (eV (hg _ _ _ _)) h⟩
 ·exact h.elim
theorem uo:jg X (binaryOp .Sub) (ie fun i j=>.int (i-j)):=xi IH fun K G i j=>i9 K G _
theorem nB:jg X (binaryOp .Mult) (oI fU fun i j=>.int (i*j)):=w5 IG fun K G i j=>i9 K G _
theorem pW:jg X (binaryOp .FloorDiv) (oI nA fun i j=>.int (i/j)):=w5 Kt fun K G i j=>i9 K G _
theorem gq:jg X (binaryOp .Mod) (oI (fun _ j=>0<j) fun i j=>.int (i%j)):=w5 IF fun K G i j=>i9 K G _
theorem HP:jg X (binaryOp .Pow) (oI qW fun i j=>.int (i ^ j.toNat)):=w5 IE fun K G i j=>i9 K G _
theorem Cw:jg X (compareOp .Lt) (ie fun i j=>.bl (decide (i<j))):=xi yP fun K G i j=>iq K G _
theorem Hu:jg X (compareOp .Gt) (ie fun i j=>.bl (decide (j<i))):=xi HY fun K G i j=>iq K G _
theorem Ht:jg X (compareOp .GtE) (ie fun i j=>.bl (decide (j<=i))):=xi HX fun K G i j=>iq K G _
end
end L2
namespace L2
open PySem PySem.Spec PyProof.Rows PySem.SeqAt
mutual
noncomputable def c6:D->D->Bool
 | .non,.non=>true
 | .bl a,.bl b=>a==b
 | .bl a,.int b=>(if a then 1 else 0)==b
 | .int a,.bl b=>a==(if b then 1 else 0)
 | .int a,.int b=>a==b
 | .str a,.str b=>a==b
 | .tup xs,.tup ys=>lg xs ys
 | .lst xs,.lst ys=>lg xs ys
 | _,_=>false
noncomputable def lg:List D->List D->Bool
 | [],[]=>true
 | x::xs,y::ys=>c6 x y&&lg xs ys
 | _,_=>false
end
def eJ:Nat->D->Prop
 | _,.non=>True
 | _,.bl _=>True
 | _,.int _=>True
 | _,.str _=>True
 | n+1,.tup ds=>∀d∈ds,eJ n d
 | n+1,.lst ds=>∀d∈ds,eJ n d
 | _,_=>False
mutual
theorem zN:∀(n:Nat) (d:D),eJ n d->c6 d d=true
 | n,.non,_=>by simp only[c6]
 | n,.bl _,_=>by simp only[c6,beq_self_eq_true]
 | n,.int _,_=>by simp only[c6,beq_self_eq_true]
 | n,.str _,_=>by simp only[c6,beq_self_eq_true]
 | 0,.tup ds,h=>by cases h
 | 0,.lst ds,h=>by cases h
 | n+1,.tup ds,h=>by simp only[c6];exact Aa n ds h
 | n+1,.lst ds,h=>by simp only[c6];exact Aa n ds h
 | 0,.obj _ _,h=>by cases h
 | n+1,.obj _ _,h=>by cases h
 | 0,.dic _,h=>by cases h
 | 0,.dit _,h=>by cases h
 | 0,.exc _,h=>by cases h
 | n+1,.dic _,h=>by cases h
 | n+1,.dit _,h=>by cases h
 | n+1,.exc _,h=>by cases h
theorem Aa:∀(n:Nat) (ds:List D),(∀d∈ds,eJ n d)->lg ds ds=true
 | n,[],_=>by simp only[lg]
 | n,d::ds,h=>by simp only[lg,zN n d (h d (by simp)),Aa n ds (fun e he=>h e (by simp[he])),Bool.and_self]
end
theorem uP:∀{xs ys:List D},xs.length≠ys.length->lg xs ys=false
 | [],[],h=>absurd rfl h
 | x::xs,y::ys,h=>by
  rw[lg,uP (xs:=xs) (ys:=ys) (by simpa using h),Bool.and_false]
 | [],_::_,_=>by simp only[lg]
 | _::_,[],_=>by simp only[lg]
theorem uO:∀(xs ys:List D),xs.length=ys.length->lg xs ys=(List.range xs.length).all fun j=>c6 (xs.getD j .non) (ys.getD j .non)
 | [],[],_=>by simp[lg]
 | x::xs,y::ys,h=>by
  rw[lg,uO xs ys (by simpa using h),aA,List.range_succ_eq_map,List.all_cons,List.all_map];congr 1
 | [],_::_,h=>by simp at h
 | _::_,[],h=>by simp at h
theorem zM(xs ys:List D):((List.range (min xs.length ys.length)).all (fun j=>c6 (xs.getD j .non) (ys.getD j .non))&&xs.length==ys.length)=lg xs ys:=by
 by_cases h:xs.length=ys.length
 ·rw[uO xs ys h,h];simp
 ·rw[uP h];simp[h]
section
variable {X:Cx} {pins:List (Addr×Obj)} {σ:St} {H:Hp} {s:Shared}
mutual
theorem xu(I:Inv X pins σ H s):∀(n:Nat) (d e:D) (v:V),eJ n d->eJ n e->Rep X.K H v d->Rep X.K H v e->d=e
 | n,.non,e,v,h,h',r,r'=>by
  cases e<;>simp only[Rep] at r r'<;>subst r<;>first | rfl | (simp at r';done) | (simp only[V.bl.injEq,V.int.injEq,V.str.injEq] at r';rw[r'])
 | n,.bl b,e,v,h,h',r,r'=>by
  cases e<;>simp only[Rep] at r r'<;>subst r<;>first | rfl | (simp at r';done) | (simp only[V.bl.injEq,V.int.injEq,V.str.injEq] at r';rw[r'])
 | n,.int b,e,v,h,h',r,r'=>by
  cases e<;>simp only[Rep] at r r'<;>subst r<;>first | rfl | (simp at r';done) | (simp only[V.bl.injEq,V.int.injEq,V.str.injEq] at r';rw[r'])
 | n,.str b,e,v,h,h',r,r'=>by
  cases e<;>simp only[Rep] at r r'<;>subst r<;>first | rfl | (simp at r';done) | (simp only[V.bl.injEq,V.int.injEq,V.str.injEq] at r';rw[r'])
 | 0,.tup ds,e,v,h,h',r,r'=>by cases h
 | 0,.lst ds,e,v,h,h',r,r'=>by cases h
 | n+1,.tup ds,e,v,h,h',r,r'=>by
  simp only[Rep] at r;obtain⟨a,xs,rfl,q,rs⟩:=r;cases e<;>simp only[Rep] at r'
  case tup es=>
   obtain⟨b,ys,e1,q',gW⟩:=r';cases e1;rw[I.jb (et.of q') (et.of q)] at gW;rw[zL I n ds es xs h h' rs gW]
  case lst es=>
   obtain⟨b,ys,e1,q',gW⟩:=r';cases e1;obtain⟨its,_,ht,_⟩:=I.tuple (et.of q);obtain⟨its',_,hl,_⟩:=I.list q'.sq;exact absurd rfl (ne_of_list_tuple hl.isList (show s.heap.IsTuple a its.toArray from ht))
  case obj=>cases h'
  case dic=>cases h'
  case dit=>cases h'
  case exc=>cases h'
  all_goals cases r'
 | n+1,.lst ds,e,v,h,h',r,r'=>by
  simp only[Rep] at r;obtain⟨a,xs,rfl,q,rs⟩:=r;cases e<;>simp only[Rep] at r'
  case lst es=>
   obtain⟨b,ys,e1,q',gW⟩:=r';cases e1;rw[I.iC q'.sq q.sq] at gW;rw[zL I n ds es xs h h' rs gW]
  case tup es=>
   obtain⟨b,ys,e1,q',gW⟩:=r';cases e1;obtain⟨its,_,ht,_⟩:=I.tuple (et.of q');obtain⟨its',_,hl,_⟩:=I.list q.sq;exact absurd rfl (ne_of_list_tuple hl.isList (show s.heap.IsTuple a its.toArray from ht))
  case obj=>cases h'
  case dic=>cases h'
  case dit=>cases h'
  case exc=>cases h'
  all_goals cases r'
 | 0,.obj _ _,_,_,h,_,_,_=>by cases h
 | n+1,.obj _ _,_,_,h,_,_,_=>by cases h
 | 0,.dic _,_,_,h,_,_,_=>by cases h
 | 0,.dit _,_,_,h,_,_,_=>by cases h
 | 0,.exc _,_,_,h,_,_,_=>by cases h
 | n+1,.dic _,_,_,h,_,_,_=>by cases h
 | n+1,.dit _,_,_,h,_,_,_=>by cases h
 | n+1,.exc _,_,_,h,_,_,_=>by cases h
theorem zL(I:Inv X pins σ H s):∀(n:Nat) (ds es:List D) (vs:List V),(∀d∈ds,eJ n d)->(∀d∈es,eJ n d)->bD X.K H vs ds->bD X.K H vs es->ds=es
 | n,[],[],_,_,_,_,_=>rfl
 | n,d::ds,e::es,v::vs,h,h',r,r'=>by
  simp only[bD] at r r';rw[xu I n d e v (h d (by simp)) (h' e (by simp)) r.1 r'.1,zL I n ds es vs (fun x hx=>h x (by simp[hx])) (fun x hx=>h' x (by simp[hx])) r.2 r'.2]
 | n,[],_::_,[],_,_,_,r=>by simp only[bD] at r
 | n,[],_::_,_::_,_,_,r,_=>by simp only[bD] at r
 | n,_::_,[],[],_,_,r,_=>by simp only[bD] at r
 | n,_::_,[],_::_,_,_,_,r=>by simp only[bD] at r
 | n,_::_,_::_,[],_,_,r,_=>by simp only[bD] at r
end
theorem md{vs:List V}{ds:List D}{us:List Value}{j:Nat}(rv:Vals vs us)(rd:bD X.K H vs ds)(hj:j<us.toArray.size):∃v,RelV v us.toArray[j]/\Rep X.K H v (ds.getD j .non)/\ds.getD j .non∈ds:=by
 have h1:j<us.length:=by simpa using hj
 have h2:j<vs.length:=by rw[rv.length];exact h1
 have h3:j<ds.length:=by rw[<-rd.length];exact h2
 obtain⟨u,hu,ru⟩:=rv.get (ae h2);obtain⟨d,hd,OQ⟩:=rd.wb (ae h2);rw[ae h1] at hu;rw[ae h3] at hd;cases hu;cases hd;refine⟨vs[j],?_,?_,?_⟩
 ·simpa using ru
 ·simpa[List.getD,h3] using OQ
 ·simp[List.getD,h3]
noncomputable def sT:D->Bool
 | .non=>true
 | .bl _=>true
 | .int _=>true
 | .str _=>true
 | _=>false
theorem DU{d e:D}{x y:V}(hd:sT d=true)(he:sT e=true)(rx:Rep X.K H x d)(ry:Rep X.K H y e):xb x=true/\xb y=true/\Cc x y=c6 d e:=by
 cases d<;>first | cases hd | skip
 all_goals (cases e<;>first | cases he | skip)
 all_goals
  simp only[Rep] at rx ry;subst rx ry;exact⟨rfl,rfl,by simp[Cc,c6]⟩
theorem uC(I:Inv X pins σ H s):∀(n:Nat) (A:Around) (d e:D) (x y:V) (v u:Value),eJ n d->eJ n e->A.units+n<cLine->Rep X.K H x d->Rep X.K H y e->RelV x v->RelV y u->EqAt A s v u (c6 d e):=by
 intro n;induction n with
 | zero=>
  intro A d e x y v u hd he hu rx ry qx qy;have fd:sT d=true:=by cases d<;>first | rfl | cases hd
  have fe:sT e=true:=by cases e<;>first | rfl | cases he
  obtain⟨h1,h2,h3⟩:=DU fd fe rx ry;rw[<-h3];exact Dx qx qy h1 h2
 | succ n ih=>
  intro A d e x y v u hd he hu rx ry qx qy;have cX:A.units<cLine:=by omega
  have oP:A.in1.units+n<cLine:=by show A.units+1+n<cLine;omega
  by_cases fd:sT d=true
  ·by_cases fe:sT e=true
   ·obtain⟨h1,h2,h3⟩:=DU fd fe rx ry;rw[<-h3];exact Dx qx qy h1 h2
   ·cases e<;>first | exact absurd rfl fe | skip
    case tup es=>
     simp only[Rep] at ry;obtain⟨b,ys,rfl,q,rs⟩:=ry;cases qy;obtain⟨its,rv,ht,_⟩:=I.tuple (et.of q);have dw:s.heap.IsTuple b its.toArray:=ht;cases d<;>first | cases fd | skip
     ·simp only[Rep] at rx;subst rx;cases qx;simpa only[c6] using EqAt.none_tuple dw cX
     ·simp only[Rep] at rx;subst rx;cases qx;simpa only[c6] using EqAt.bool_tuple _ dw cX
     ·simp only[Rep] at rx;subst rx;obtain⟨t,rfl⟩:=qx;simpa only[c6] using EqAt.int_tuple _ t dw cX
     ·simp only[Rep] at rx;subst rx;obtain⟨t,rfl⟩:=qx;simpa only[c6] using EqAt.str_tuple _ t dw cX
    case lst es=>
     simp only[Rep] at ry;obtain⟨b,ys,rfl,q,rs⟩:=ry;cases qy;obtain⟨its,rv,ht,_⟩:=I.list q.sq;have dw:=ht.isList;cases d<;>first | cases fd | skip
     ·simp only[Rep] at rx;subst rx;cases qx;simpa only[c6] using EqAt.none_list dw cX
     ·simp only[Rep] at rx;subst rx;cases qx;simpa only[c6] using EqAt.bool_list _ dw cX
     ·simp only[Rep] at rx;subst rx;obtain⟨t,rfl⟩:=qx;simpa only[c6] using EqAt.int_list _ t dw cX
     ·simp only[Rep] at rx;subst rx;obtain⟨t,rfl⟩:=qx;simpa only[c6] using EqAt.str_list _ t dw cX
    case obj=>cases he
    case dic=>cases he
    case dit=>cases he
    case exc=>cases he
  ·cases d<;>first | exact absurd rfl fd | skip
   case tup ds=>
    have AW:=rx;simp only[Rep] at rx;obtain⟨a,xs,rfl,q,rs⟩:=rx;cases qx;obtain⟨its,rv,ht,_⟩:=I.tuple (et.of q);have dw:s.heap.IsTuple a its.toArray:=ht;cases e
    case non=>simp only[Rep] at ry;subst ry;cases qy;simpa only[c6] using EqAt.tuple_none dw cX
    case bl=>simp only[Rep] at ry;subst ry;cases qy;simpa only[c6] using EqAt.tuple_bool _ dw cX
    case int=>simp only[Rep] at ry;subst ry;obtain⟨t,rfl⟩:=qy;simpa only[c6] using EqAt.tuple_int _ t dw cX
    case str=>simp only[Rep] at ry;subst ry;obtain⟨t,rfl⟩:=qy;simpa only[c6] using EqAt.tuple_str _ t dw cX
    case lst es=>
     simp only[Rep] at ry;obtain⟨b,ys,rfl,q',gW⟩:=ry;cases qy;obtain⟨its',jq,hl,_⟩:=I.list q'.sq;simpa only[c6] using EqAt.tuple_list dw hl.isList cX
    case tup es=>
     have AV:=ry;simp only[Rep] at ry;obtain⟨b,ys,rfl,q',gW⟩:=ry;cases qy;obtain⟨its',jq,lN,_⟩:=I.tuple (et.of q');by_cases jv:a=b
     ·subst jv;have e0:=xu I (n+1) _ _ _ hd he AW AV;rw[<-e0,zN (n+1) _ hd];exact EqAt.same _
     ·refine EqAt.of_refs jv ?_;have h:=RcAt.tuples (e:=fun j=>c6 (ds.getD j .non) (es.getD j .non)) dw (show s.heap.IsTuple b its'.toArray from lN) cX fun j h1 h2=>by
       obtain⟨v1,a1,b1,c1⟩:=md rv rs h1;obtain⟨v2,a2,b2,c2⟩:=md jq gW h2;exact ih A.in1 _ _ v1 v2 _ _ (hd _ c1) (he _ c2) oP b1 b2 a1 a2
      have l1:its.toArray.size=ds.length:=by rw[aq,<-rv.length,rs.length]
      have l2:its'.toArray.size=es.length:=by rw[aq,<-jq.length,gW.length]
      rw[l1,l2,zM] at h;simpa only[c6] using h
    case obj=>cases he
    case dic=>cases he
    case dit=>cases he
    case exc=>cases he
   case lst ds=>
    have AW:=rx;simp only[Rep] at rx;obtain⟨a,xs,rfl,q,rs⟩:=rx;cases qx;obtain⟨its,rv,ht,_⟩:=I.list q.sq;have dw:=ht.isList;cases e
    case non=>simp only[Rep] at ry;subst ry;cases qy;simpa only[c6] using EqAt.list_none dw cX
    case bl=>simp only[Rep] at ry;subst ry;cases qy;simpa only[c6] using EqAt.list_bool _ dw cX
    case int=>simp only[Rep] at ry;subst ry;obtain⟨t,rfl⟩:=qy;simpa only[c6] using EqAt.list_int _ t dw cX
    case str=>simp only[Rep] at ry;subst ry;obtain⟨t,rfl⟩:=qy;simpa only[c6] using EqAt.list_str _ t dw cX
    case tup es=>
     simp only[Rep] at ry;obtain⟨b,ys,rfl,q',gW⟩:=ry;cases qy;obtain⟨its',jq,hl,_⟩:=I.tuple (et.of q');simpa only[c6] using EqAt.list_tuple dw (show s.heap.IsTuple b its'.toArray from hl) cX
    case lst es=>
     have AV:=ry;simp only[Rep] at ry;obtain⟨b,ys,rfl,q',gW⟩:=ry;cases qy;obtain⟨its',jq,lN,_⟩:=I.list q'.sq;by_cases jv:a=b
     ·subst jv;have e0:=xu I (n+1) _ _ _ hd he AW AV;rw[<-e0,zN (n+1) _ hd];exact EqAt.same _
     ·refine EqAt.of_refs jv ?_;have l1:its.toArray.size=ds.length:=by rw[aq,<-rv.length,rs.length]
      have l2:its'.toArray.size=es.length:=by rw[aq,<-jq.length,gW.length]
      by_cases hl:ds.length=es.length
      ·have h:=RcAt.lists (e:=fun j=>c6 (ds.getD j .non) (es.getD j .non)) dw lN.isList (by rw[l1,l2,hl]) cX fun j h1 h2=>by
        obtain⟨v1,a1,b1,c1⟩:=md rv rs h1;obtain⟨v2,a2,b2,c2⟩:=md jq gW h2;exact ih A.in1 _ _ v1 v2 _ _ (hd _ c1) (he _ c2) oP b1 b2 a1 a2
       rw[l1,<-uO ds es hl] at h;simpa only[c6] using h
      ·have h:=RcAt.lists_lengths (A:=A) dw lN.isList (by rw[l1,l2];simpa using hl) cX;simp only[c6,uP hl];exact h
    case obj=>cases he
    case dic=>cases he
    case dit=>cases he
    case exc=>cases he
   case obj=>cases hd
   case dic=>cases hd
   case dit=>cases hd
   case exc=>cases hd
end
end L2
namespace L2
open PySem PySem.Spec PyProof.Rows PySem.SeqAt
section
variable {X:Cx} {pins:List (Addr×Obj)} {σ:St} {H:Hp} {s:Shared}
theorem ng{y:V}{u:Value}(r:Rep X.K H y .non)(q:RelV y u):u=.none:=by simp only[Rep] at r;subst r;cases q;rfl
theorem ni{y:V}{u:Value}{c:Bool}(r:Rep X.K H y (.bl c))(q:RelV y u):u=.bool c:=by simp only[Rep] at r;subst r;cases q;rfl
theorem nh{y:V}{u:Value}{i:Int}(r:Rep X.K H y (.int i))(q:RelV y u):∃t,u=.int i t:=by simp only[Rep] at r;subst r;exact q
theorem nc{y:V}{u:Value}{x:Str}(r:Rep X.K H y (.str x))(q:RelV y u):∃t,u=.str x t:=by simp only[Rep] at r;subst r;exact q
theorem oV{y:V}{u:Value}{es:List D}(I:Inv X pins σ H s)(r:Rep X.K H y (.tup es))(q:RelV y u):∃b it,u=.ref b/\s.heap.IsTuple b (List.toArray it):=by
 simp only[Rep] at r;obtain⟨b,ys,rfl,h,_⟩:=r;cases q;obtain⟨it,_,ht,_⟩:=I.tuple (et.of h);exact⟨b,it,rfl,ht⟩
theorem oW{y:V}{u:Value}{es:List D}(I:Inv X pins σ H s)(r:Rep X.K H y (.lst es))(q:RelV y u):∃b it,u=.ref b/\s.heap.IsList b (List.toArray it):=by
 simp only[Rep] at r;obtain⟨b,ys,rfl,h,_⟩:=r;cases q;obtain⟨it,_,ht,_⟩:=I.list h.sq;exact⟨b,it,rfl,ht.isList⟩
theorem Jg(I:Inv X pins σ H s):∀(n:Nat) (A:Around) (d e:D) (x y:V) (v u:Value),eJ n d->eJ n e->A.units+n<cLine->Rep X.K H x d->Rep X.K H y e->RelV x v->RelV y u->RcAt A s v u (c6 d e):=by
 intro n A d e x y v u hd he hu rx ry qx qy;have cX:A.units<cLine:=by omega
 cases d
 case non=>
  simp only[Rep] at rx;subst rx;cases qx;cases e
  case non=>cases ng ry qy;exact RcAt.none_none
  case bl=>cases ni ry qy;exact RcAt.none_bool _
  case int=>obtain⟨t,rfl⟩:=nh ry qy;exact RcAt.none_int _ t
  case str=>obtain⟨t,rfl⟩:=nc ry qy;exact RcAt.none_str _ t
  case tup=>obtain⟨b,it,rfl,h2⟩:=oV I ry qy;exact RcAt.none_tuple h2 cX
  case lst=>obtain⟨b,it,rfl,h2⟩:=oW I ry qy;exact RcAt.none_list h2 cX
  all_goals (cases n<;>cases he)
 case bl a=>
  simp only[Rep] at rx;subst rx;cases qx;cases e
  case non=>cases ng ry qy;exact RcAt.bool_none _
  case bl=>cases ni ry qy;exact RcAt.bool_bool _ _
  case int=>obtain⟨t,rfl⟩:=nh ry qy;exact RcAt.bool_int _ _ t
  case str=>obtain⟨t,rfl⟩:=nc ry qy;exact RcAt.bool_str _ _ t
  case tup=>obtain⟨b,it,rfl,h2⟩:=oV I ry qy;exact RcAt.bool_tuple _ h2 cX
  case lst=>obtain⟨b,it,rfl,h2⟩:=oW I ry qy;exact RcAt.bool_list _ h2 cX
  all_goals (cases n<;>cases he)
 case int a=>
  simp only[Rep] at rx;subst rx;obtain⟨t0,rfl⟩:=qx;cases e
  case non=>cases ng ry qy;exact RcAt.int_none _ t0
  case bl=>cases ni ry qy;exact RcAt.int_bool _ t0 _
  case int=>obtain⟨t,rfl⟩:=nh ry qy;exact RcAt.int_int _ t0 _ t
  case str=>obtain⟨t,rfl⟩:=nc ry qy;exact RcAt.int_str _ t0 _ t
  case tup=>obtain⟨b,it,rfl,h2⟩:=oV I ry qy;exact RcAt.int_tuple _ t0 h2 cX
  case lst=>obtain⟨b,it,rfl,h2⟩:=oW I ry qy;exact RcAt.int_list _ t0 h2 cX
  all_goals (cases n<;>cases he)
 case str a=>
  simp only[Rep] at rx;subst rx;obtain⟨t0,rfl⟩:=qx;cases e
  case non=>cases ng ry qy;exact RcAt.str_none _ t0
  case bl=>cases ni ry qy;exact RcAt.str_bool _ t0 _
  case int=>obtain⟨t,rfl⟩:=nh ry qy;exact RcAt.str_int _ t0 _ t
  case str=>obtain⟨t,rfl⟩:=nc ry qy;exact RcAt.str_str _ t0 _ t
  case tup=>obtain⟨b,it,rfl,h2⟩:=oV I ry qy;exact RcAt.str_tuple _ t0 h2 cX
  case lst=>obtain⟨b,it,rfl,h2⟩:=oW I ry qy;exact RcAt.str_list _ t0 h2 cX
  all_goals (cases n<;>cases he)
 case tup ds=>
  cases n with
  | zero=>cases hd
  | succ n=>
  have oP:A.in1.units+n<cLine:=by show A.units+1+n<cLine;omega
  simp only[Rep] at rx;obtain⟨a,xs,rfl,q,rs⟩:=rx;cases qx;obtain⟨its,rv,ht,_⟩:=I.tuple (et.of q);have dw:s.heap.IsTuple a its.toArray:=ht;cases e
  case non=>cases ng ry qy;exact RcAt.tuple_none dw cX
  case bl=>cases ni ry qy;exact RcAt.tuple_bool _ dw cX
  case int=>obtain⟨t,rfl⟩:=nh ry qy;exact RcAt.tuple_int _ t dw cX
  case str=>obtain⟨t,rfl⟩:=nc ry qy;exact RcAt.tuple_str _ t dw cX
  case lst es=>obtain⟨b,it,rfl,h2⟩:=oW I ry qy;exact RcAt.tuple_list dw h2 cX
  case tup es=>
   simp only[Rep] at ry;obtain⟨b,ys,rfl,q',gW⟩:=ry;cases qy;obtain⟨its',jq,lN,_⟩:=I.tuple (et.of q');have h:=RcAt.tuples (e:=fun j=>c6 (ds.getD j .non) (es.getD j .non)) dw (show s.heap.IsTuple b its'.toArray from lN) cX fun j h1 h2=>by
    obtain⟨v1,a1,b1,c1⟩:=md rv rs h1;obtain⟨v2,a2,b2,c2⟩:=md jq gW h2;exact uC I n A.in1 _ _ v1 v2 _ _ (hd _ c1) (he _ c2) oP b1 b2 a1 a2
   have l1:its.toArray.size=ds.length:=by rw[aq,<-rv.length,rs.length]
   have l2:its'.toArray.size=es.length:=by rw[aq,<-jq.length,gW.length]
   rw[l1,l2,zM] at h;simpa only[c6] using h
  all_goals cases he
 case lst ds=>
  cases n with
  | zero=>cases hd
  | succ n=>
  have oP:A.in1.units+n<cLine:=by show A.units+1+n<cLine;omega
  simp only[Rep] at rx;obtain⟨a,xs,rfl,q,rs⟩:=rx;cases qx;obtain⟨its,rv,ht,_⟩:=I.list q.sq;have dw:=ht.isList;cases e
  case non=>cases ng ry qy;exact RcAt.list_none dw cX
  case bl=>cases ni ry qy;exact RcAt.list_bool _ dw cX
  case int=>obtain⟨t,rfl⟩:=nh ry qy;exact RcAt.list_int _ t dw cX
  case str=>obtain⟨t,rfl⟩:=nc ry qy;exact RcAt.list_str _ t dw cX
  case tup es=>obtain⟨b,it,rfl,h2⟩:=oV I ry qy;exact RcAt.list_tuple dw h2 cX
  case lst es=>
   simp only[Rep] at ry;obtain⟨b,ys,rfl,q',gW⟩:=ry;cases qy;obtain⟨its',jq,lN,_⟩:=I.list q'.sq;have l1:its.toArray.size=ds.length:=by rw[aq,<-rv.length,rs.length]
   have l2:its'.toArray.size=es.length:=by rw[aq,<-jq.length,gW.length]
   by_cases hl:ds.length=es.length
   ·have h:=RcAt.lists (e:=fun j=>c6 (ds.getD j .non) (es.getD j .non)) dw lN.isList (by rw[l1,l2,hl]) cX fun j h1 h2=>by
     obtain⟨v1,a1,b1,c1⟩:=md rv rs h1;obtain⟨v2,a2,b2,c2⟩:=md jq gW h2;exact uC I n A.in1 _ _ v1 v2 _ _ (hd _ c1) (he _ c2) oP b1 b2 a1 a2
    rw[l1,<-uO ds es hl] at h;simpa only[c6] using h
   ·have h:=RcAt.lists_lengths (A:=A) dw lN.isList (by rw[l1,l2];simpa using hl) cX;simp only[c6,uP hl];exact h
  all_goals cases he
 all_goals (cases n<;>cases hd)
theorem Lb(I:Inv X pins σ H s):∀(n:Nat) (A:Around) (d e:D) (x y:V) (v u:Value),eJ n d->eJ n e->A.units+n<cLine->Rep X.K H x d->Rep X.K H y e->RelV x v->RelV y u->RcNeAt A s v u (!c6 d e):=by
 intro n A d e x y v u hd he hu rx ry qx qy;have cX:A.units<cLine:=by omega
 cases d
 case non=>
  simp only[Rep] at rx;subst rx;cases qx;cases e
  case non=>cases ng ry qy;exact RcNeAt.none_none
  case bl=>cases ni ry qy;exact RcNeAt.none_bool _
  case int=>obtain⟨t,rfl⟩:=nh ry qy;exact RcNeAt.none_int _ t
  case str=>obtain⟨t,rfl⟩:=nc ry qy;exact RcNeAt.none_str _ t
  case tup=>obtain⟨b,it,rfl,h2⟩:=oV I ry qy;exact RcNeAt.none_tuple h2 cX
  case lst=>obtain⟨b,it,rfl,h2⟩:=oW I ry qy;exact RcNeAt.none_list h2 cX
  all_goals (cases n<;>cases he)
 case bl a=>
  simp only[Rep] at rx;subst rx;cases qx;cases e
  case non=>cases ng ry qy;exact RcNeAt.bool_none _
  case bl=>cases ni ry qy;exact RcNeAt.bool_bool _ _
  case int=>obtain⟨t,rfl⟩:=nh ry qy;exact RcNeAt.bool_int _ _ t
  case str=>obtain⟨t,rfl⟩:=nc ry qy;exact RcNeAt.bool_str _ _ t
  case tup=>obtain⟨b,it,rfl,h2⟩:=oV I ry qy;exact RcNeAt.bool_tuple _ h2 cX
  case lst=>obtain⟨b,it,rfl,h2⟩:=oW I ry qy;exact RcNeAt.bool_list _ h2 cX
  all_goals (cases n<;>cases he)
 case int a=>
  simp only[Rep] at rx;subst rx;obtain⟨t0,rfl⟩:=qx;cases e
  case non=>cases ng ry qy;exact RcNeAt.int_none _ t0
  case bl=>cases ni ry qy;exact RcNeAt.int_bool _ t0 _
  case int=>obtain⟨t,rfl⟩:=nh ry qy;exact RcNeAt.int_int _ t0 _ t
  case str=>obtain⟨t,rfl⟩:=nc ry qy;exact RcNeAt.int_str _ t0 _ t
  case tup=>obtain⟨b,it,rfl,h2⟩:=oV I ry qy;exact RcNeAt.int_tuple _ t0 h2 cX
  case lst=>obtain⟨b,it,rfl,h2⟩:=oW I ry qy;exact RcNeAt.int_list _ t0 h2 cX
  all_goals (cases n<;>cases he)
 case str a=>
  simp only[Rep] at rx;subst rx;obtain⟨t0,rfl⟩:=qx;cases e
  case non=>cases ng ry qy;exact RcNeAt.str_none _ t0
  case bl=>cases ni ry qy;exact RcNeAt.str_bool _ t0 _
  case int=>obtain⟨t,rfl⟩:=nh ry qy;exact RcNeAt.str_int _ t0 _ t
  case str=>obtain⟨t,rfl⟩:=nc ry qy;exact RcNeAt.str_str _ t0 _ t
  case tup=>obtain⟨b,it,rfl,h2⟩:=oV I ry qy;exact RcNeAt.str_tuple _ t0 h2 cX
  case lst=>obtain⟨b,it,rfl,h2⟩:=oW I ry qy;exact RcNeAt.str_list _ t0 h2 cX
  all_goals (cases n<;>cases he)
 case tup ds=>
  cases n with
  | zero=>cases hd
  | succ n=>
  have oP:A.in1.units+n<cLine:=by show A.units+1+n<cLine;omega
  simp only[Rep] at rx;obtain⟨a,xs,rfl,q,rs⟩:=rx;cases qx;obtain⟨its,rv,ht,_⟩:=I.tuple (et.of q);have dw:s.heap.IsTuple a its.toArray:=ht;cases e
  case non=>cases ng ry qy;exact RcNeAt.tuple_none dw cX
  case bl=>cases ni ry qy;exact RcNeAt.tuple_bool _ dw cX
  case int=>obtain⟨t,rfl⟩:=nh ry qy;exact RcNeAt.tuple_int _ t dw cX
  case str=>obtain⟨t,rfl⟩:=nc ry qy;exact RcNeAt.tuple_str _ t dw cX
  case lst es=>obtain⟨b,it,rfl,h2⟩:=oW I ry qy;exact RcNeAt.tuple_list dw h2 cX
  case tup es=>
   simp only[Rep] at ry;obtain⟨b,ys,rfl,q',gW⟩:=ry;cases qy;obtain⟨its',jq,lN,_⟩:=I.tuple (et.of q');have h:=RcNeAt.tuples (e:=fun j=>c6 (ds.getD j .non) (es.getD j .non)) dw (show s.heap.IsTuple b its'.toArray from lN) cX fun j h1 h2=>by
    obtain⟨v1,a1,b1,c1⟩:=md rv rs h1;obtain⟨v2,a2,b2,c2⟩:=md jq gW h2;exact uC I n A.in1 _ _ v1 v2 _ _ (hd _ c1) (he _ c2) oP b1 b2 a1 a2
   have l1:its.toArray.size=ds.length:=by rw[aq,<-rv.length,rs.length]
   have l2:its'.toArray.size=es.length:=by rw[aq,<-jq.length,gW.length]
   rw[l1,l2,zM] at h;simpa only[c6] using h
  all_goals cases he
 case lst ds=>
  cases n with
  | zero=>cases hd
  | succ n=>
  have oP:A.in1.units+n<cLine:=by show A.units+1+n<cLine;omega
  simp only[Rep] at rx;obtain⟨a,xs,rfl,q,rs⟩:=rx;cases qx;obtain⟨its,rv,ht,_⟩:=I.list q.sq;have dw:=ht.isList;cases e
  case non=>cases ng ry qy;exact RcNeAt.list_none dw cX
  case bl=>cases ni ry qy;exact RcNeAt.list_bool _ dw cX
  case int=>obtain⟨t,rfl⟩:=nh ry qy;exact RcNeAt.list_int _ t dw cX
  case str=>obtain⟨t,rfl⟩:=nc ry qy;exact RcNeAt.list_str _ t dw cX
  case tup es=>obtain⟨b,it,rfl,h2⟩:=oV I ry qy;exact RcNeAt.list_tuple dw h2 cX
  case lst es=>
   simp only[Rep] at ry;obtain⟨b,ys,rfl,q',gW⟩:=ry;cases qy;obtain⟨its',jq,lN,_⟩:=I.list q'.sq;have l1:its.toArray.size=ds.length:=by rw[aq,<-rv.length,rs.length]
   have l2:its'.toArray.size=es.length:=by rw[aq,<-jq.length,gW.length]
   by_cases hl:ds.length=es.length
   ·have h:=RcNeAt.lists (e:=fun j=>c6 (ds.getD j .non) (es.getD j .non)) dw lN.isList (by rw[l1,l2,hl]) cX fun j h1 h2=>by
     obtain⟨v1,a1,b1,c1⟩:=md rv rs h1;obtain⟨v2,a2,b2,c2⟩:=md jq gW h2;exact uC I n A.in1 _ _ v1 v2 _ _ (hd _ c1) (he _ c2) oP b1 b2 a1 a2
    rw[l1,<-uO ds es hl] at h;simpa only[c6] using h
   ·have h:=RcNeAt.lists_lengths (A:=A) dw lN.isList (by rw[l1,l2];simpa using hl) cX;simp only[c6,uP hl];exact h
  all_goals cases he
 all_goals (cases n<;>cases hd)
end
section
variable {X:Cx}
def oEq:O2:=fun d e Q=>eJ 9 d/\eJ 9 e/\Q (.fz (.bl (c6 d e)))
def A8:O2:=fun d e Q=>eJ 9 d/\eJ 9 e/\Q (.fz (.bl (!c6 d e)))
theorem fM(hu:X.A.units+64<cLine):jg X (compareOp .Eq) oEq:=by
 refine⟨fun x y H Q=>∃d e,eJ 9 d/\eJ 9 e/\Rep X.K H x d/\Rep X.K H y e/\Q (.bl (c6 d e)) H,fun pins s σ H x y v u Q I rx ry h=>?_,fun G H x y d e Q P s rx ry h k=>?_⟩
 ·obtain⟨d,e,hd,he,rd,re,q⟩:=h;exact Jg I 9 X.A d e x y v u hd he (by omega) rd re rx ry _ _ _ _ ⟨.bl _,H,I,rfl,q⟩
 ·exact⟨d,e,h.1,h.2.1,rx.mono s,ry.mono s,k _ _ _ G (.refl s) (eV (iq _ _ _)) h.2.2⟩
theorem Hs(hu:X.A.units+64<cLine):jg X (compareOp .NotEq) A8:=by
 refine⟨fun x y H Q=>∃d e,eJ 9 d/\eJ 9 e/\Rep X.K H x d/\Rep X.K H y e/\Q (.bl (!c6 d e)) H,fun pins s σ H x y v u Q I rx ry h=>?_,fun G H x y d e Q P s rx ry h k=>?_⟩
 ·obtain⟨d,e,hd,he,rd,re,q⟩:=h;exact Lb I 9 X.A d e x y v u hd he (by omega) rd re rx ry _ _ _ _ ⟨.bl _,H,I,rfl,q⟩
 ·exact⟨d,e,h.1,h.2.1,rx.mono s,ry.mono s,k _ _ _ G (.refl s) (eV (iq _ _ _)) h.2.2⟩
noncomputable def inD(d:D)(ds:List D):Bool:=ds.any fun e=>c6 e d
def mP(neg:Bool):O2:=fun d e Q=>match d,e with
 | .str x,.str y=>Q (.fz (.bl (if neg then !(!(Builtin.Str.occurrences y x 0 y.length 1).isEmpty) else !(Builtin.Str.occurrences y x 0 y.length 1).isEmpty)))
 | d,.lst es=>eJ 8 d/\(∀e∈es,eJ 8 e)/\Q (.fz (.bl (if neg then !inD d es else inD d es)))
 | d,.tup es=>eJ 8 d/\(∀e∈es,eJ 8 e)/\Q (.fz (.bl (if neg then !inD d es else inD d es)))
 | _,_=>False
noncomputable def kz(X:Cx)(H:Hp)(d:D)(u:Value):Bool:=open Classical in if h:∃(v:V) (e:D),eJ 8 e/\RelV v u/\Rep X.K H v e then c6 h.choose_spec.choose d else false
theorem Dt{pins:List (Addr×Obj)}{σ:St}{H:Hp}{s:Shared}(I:Inv X pins σ H s){d e:D}{v:V}{u:Value}(he:eJ 8 e)(rv:RelV v u)(re:Rep X.K H v e):kz X H d u=c6 e d:=by
 have h:∃(v:V) (e:D),eJ 8 e/\RelV v u/\Rep X.K H v e:=⟨v,e,he,rv,re⟩
 unfold kz;rw[dif_pos h];obtain⟨h1,h2,h3⟩:=h.choose_spec.choose_spec;have e1:h.choose=v:=RelV.inj h2 rv;have h4:∀v',v'=v->∀e',eJ 8 e'->Rep X.K H v' e'->e'=e:=fun v' hv e' o r=>by subst hv;exact xu I 8 _ e _ o he r re
 rw[h4 _ e1 _ h1 h3]
theorem uB{pins:List (Addr×Obj)}{σ:St}{H:Hp}{s:Shared}(I:Inv X pins σ H s){d:D}:∀{es:List D} {vs:List V} {us:List Value},(∀e∈es,eJ 8 e)->Vals vs us->bD X.K H vs es->us.any (kz X H d)=inD d es
 | [],_,_,_,rv,re=>by
  cases rv
  ·rfl
  ·simp only[bD] at re
 | e::es,_,_,h,rv,re=>by
  cases rv with
  | nil=>simp only[bD] at re
  | cons r t=>
   simp only[bD] at re;rw[List.any_cons,Dt I (h e (by simp)) r re.1,uB I (fun x hx=>h x (by simp[hx])) t re.2];rfl
theorem xE{pins:List (Addr×Obj)}{σ:St}{H:Hp}{s:Shared}{A:Around}(I:Inv X pins σ H s){d:D}{x:V}{v:Value}(hd:eJ 8 d)(hu:A.units+8<cLine)(rx:Rep X.K H x d)(qx:RelV x v){es:List D}{vs:List V}{us:List Value}
  (he:∀e∈es,eJ 8 e) (rv:Vals vs us) (re:bD X.K H vs es):∀u∈us.toArray,EqAt A s u v (kz X H d u):=fun u Pw=>by
 obtain⟨j,hj,e⟩:=Array.mem_iff_getElem.mp Pw;obtain⟨w,a1,b1,c1⟩:=md rv re hj;rw[e] at a1;rw[Dt I (he _ c1) a1 b1];exact uC I 8 A _ _ w x _ _ (he _ c1) hd hu b1 rx a1 qx
theorem Jf(hu:X.A.units+64<cLine):fj X (compareOp .In) (fun x y H Q=>∃p d es vs,y=.ref p/\(eW X.K H p vs\/et X.K H p vs)/\eJ 8 d/\(∀e∈es,eJ 8 e)/\Rep X.K H x d/\bD X.K H vs es/\Q (.bl (inD d es)) H):=by
 intro pins s σ H x y v u Q I rx ry h;obtain⟨p,d,es,vs,rfl,hq,hd,he,rd,re,q⟩:=h;cases ry;rcases hq with hq | hq
 ·obtain⟨its,r,pl,hz⟩:=I.list hq;refine SeqAt.in_listAt (kz X H d) pl.isList (xE I hd (by show X.A.units+1+8<cLine;omega) rd rx he r re) ⟨.bl _,H,I,rfl,?_⟩;rw[show its.toArray.any (kz X H d)=its.any (kz X H d) by simp,uB I he r re];exact q
 ·obtain⟨its,r,pl,hz⟩:=I.tuple hq;refine SeqAt.in_tupleAt (kz X H d) pl (xE I hd (by show X.A.units+1+8<cLine;omega) rd rx he r re) ⟨.bl _,H,I,rfl,?_⟩;rw[show its.toArray.any (kz X H d)=its.any (kz X H d) by simp,uB I he r re];exact q
theorem Mf(hu:X.A.units+64<cLine):fj X (compareOp .NotIn) (fun x y H Q=>∃p d es vs,y=.ref p/\(eW X.K H p vs\/et X.K H p vs)/\eJ 8 d/\(∀e∈es,eJ 8 e)/\Rep X.K H x d/\bD X.K H vs es/\Q (.bl (!inD d es)) H):=by
 intro pins s σ H x y v u Q I rx ry h;obtain⟨p,d,es,vs,rfl,hq,hd,he,rd,re,q⟩:=h;cases ry;rcases hq with hq | hq
 ·obtain⟨its,r,pl,hz⟩:=I.list hq;refine SeqAt.notIn_listAt (kz X H d) pl.isList (xE I hd (by show X.A.units+1+8<cLine;omega) rd rx he r re) ⟨.bl _,H,I,rfl,?_⟩;rw[show its.toArray.any (kz X H d)=its.any (kz X H d) by simp,uB I he r re];exact q
 ·obtain⟨its,r,pl,hz⟩:=I.tuple hq;refine SeqAt.notIn_tupleAt (kz X H d) pl (xE I hd (by show X.A.units+1+8<cLine;omega) rd rx he r re) ⟨.bl _,H,I,rfl,?_⟩;rw[show its.toArray.any (kz X H d)=its.any (kz X H d) by simp,uB I he r re];exact q
theorem uf(hu:X.A.units+64<cLine):jg X (compareOp .In) (mP false):=by
 refine⟨_,ml.or (Jf hu),fun G H x y d e Q P s rx ry h k=>?_⟩;unfold mP at h;split at h
 ·simp only[Rep] at rx ry;exact .inl ⟨_,_,rx,ry,k _ _ _ G (.refl s) (eV (iq _ _ _)) h⟩
 ·simp only[Rep] at ry;obtain⟨a,ys,rfl,hy,jL⟩:=ry;exact .inr ⟨a,_,_,ys,rfl,.inl ((s.gi hy).sq),h.1,h.2.1,rx.mono s,jL.mono s,k _ _ _ G (.refl s) (eV (iq _ _ _)) h.2.2⟩
 ·simp only[Rep] at ry;obtain⟨a,ys,rfl,hy,jL⟩:=ry;exact .inr ⟨a,_,_,ys,rfl,.inr (s.jQ hy),h.1,h.2.1,rx.mono s,jL.mono s,k _ _ _ G (.refl s) (eV (iq _ _ _)) h.2.2⟩
 ·exact h.elim
theorem DT(hu:X.A.units+64<cLine):jg X (compareOp .NotIn) (mP true):=by
 refine⟨_,js.or (Mf hu),fun G H x y d e Q P s rx ry h k=>?_⟩;unfold mP at h;split at h
 ·simp only[Rep] at rx ry;exact .inl ⟨_,_,rx,ry,k _ _ _ G (.refl s) (eV (iq _ _ _)) h⟩
 ·simp only[Rep] at ry;obtain⟨a,ys,rfl,hy,jL⟩:=ry;exact .inr ⟨a,_,_,ys,rfl,.inl ((s.gi hy).sq),h.1,h.2.1,rx.mono s,jL.mono s,k _ _ _ G (.refl s) (eV (iq _ _ _)) h.2.2⟩
 ·simp only[Rep] at ry;obtain⟨a,ys,rfl,hy,jL⟩:=ry;exact .inr ⟨a,_,_,ys,rfl,.inr (s.jQ hy),h.1,h.2.1,rx.mono s,jL.mono s,k _ _ _ G (.refl s) (eV (iq _ _ _)) h.2.2⟩
 ·exact h.elim
noncomputable def wZ:D->Bool
 | .non=>true
 | _=>false
def ue(neg:Bool):O2:=fun d e Q=>match e with
 | .non=>Q (.fz (.bl (if neg then !wZ d else wZ d)))
 | _=>False
theorem La{K:PySem.W.Frag}{G:Hp}{x:V}{d:D}(r:Rep K G x d):decide (x=.non)=wZ d:=by
 cases d<;>simp only[Rep] at r
 case non=>subst r;rfl
 case bl=>subst r;rfl
 case int=>subst r;rfl
 case str=>subst r;rfl
 case tup=>obtain⟨_,_,rfl,_⟩:=r;rfl
 case lst=>obtain⟨_,_,rfl,_⟩:=r;rfl
 case obj=>obtain⟨_,_,_,_,rfl,_⟩:=r;rfl
 case dic=>obtain⟨_,_,_,rfl,_⟩:=r;rfl
 case dit=>obtain⟨_,_,_,rfl,_⟩:=r;rfl
 case exc=>obtain⟨_,_,_,rfl,_⟩:=r;rfl
theorem CU:jg X (compareOp .Is) (ue false):=by
 refine⟨_,IC,fun G H x y d e Q P s rx ry h k=>?_⟩;unfold ue at h;split at h
 ·simp only[Rep] at ry;refine⟨ry,?_⟩;rw[La rx];exact k _ _ _ G (.refl s) (eV (iq _ _ _)) h
 ·exact h.elim
end
end L2
namespace L2
open PySem PySem.Spec PyProof.Rows
section
variable {X:Cx} {pos:Pos} {a b c:Expr} {ta tb tc:TD} {pa xW:gU} {iM:List Expr}
def mM(t:gU):gU:=fun ρ Q=>t ρ fun k=>Q (!k)
def kC(t u:gU):gU:=fun ρ Q=>t ρ fun k=>if k=true then u ρ Q else Q false
def tX(t u:gU):gU:=fun ρ Q=>t ρ fun k=>if k=true then Q true else u ρ Q
theorem oG(h:PB X a pa):PB X (.UnaryOp .Not a pos) (mM pa):=by
 obtain⟨t,p,q⟩:=h;exact⟨_,J7 p,fun ρ σ G0 H0 G H Q P E h k=>q ρ σ G0 H0 G H _ _ E h fun b H' G' x hq=>k _ H' G' x hq⟩
def qN(X:Cx)(e:Expr)(t:gU):Prop:=∃tt,PW X e tt/\∀(ρ:Ev) (σ:St) (G0 H0 G H:Hp) (Q:Bool->Prop) (P:Bool->Hp->Prop),cJ X.K G0 H0 ρ σ G H->t ρ Q->
 (∀b H' G',Ext G H G' H'->Q b->P b H')->tt σ H P
theorem qN.pb{e:Expr}{t:gU}(h:qN X e t):PB X e t:=let⟨tt,p,q⟩:=h;⟨tt,p.pt,q⟩
theorem pZ(h:PB X a pa):qN X (.BoolOp .And [a] pos) pa:=let⟨tt,p,q⟩:=h;⟨tt,Kx p,q⟩
theorem zo(h:PB X a pa):qN X (.BoolOp .Or [a] pos) pa:=let⟨tt,p,q⟩:=h;⟨tt,J9 p,q⟩
theorem l9(h:PB X a pa)(h':qN X (.BoolOp .And (b::iM) pos) xW):qN X (.BoolOp .And (a::b::iM) pos) (kC pa xW):=by
 obtain⟨t,p,q⟩:=h;obtain⟨t',p',q'⟩:=h';refine⟨_,J8 p p',fun ρ σ G0 H0 G H Q P E h k=>q ρ σ G0 H0 G H _ _ E h fun b H' G' x hq=>?_⟩;cases b with
 | true=>rw[if_pos rfl] at hq ⊢;exact q' ρ σ G0 H0 G' H' Q P (E.ext x) hq fun b2 H2 G2 x2 h2=>k b2 H2 G2 (x.trans x2) h2
 | false=>rw[if_neg ax] at hq ⊢;exact k false H' G' x hq
theorem xh(h:PB X a pa)(h':qN X (.BoolOp .Or (b::iM) pos) xW):qN X (.BoolOp .Or (a::b::iM) pos) (tX pa xW):=by
 obtain⟨t,p,q⟩:=h;obtain⟨t',p',q'⟩:=h';refine⟨_,Ii p p',fun ρ σ G0 H0 G H Q P E h k=>q ρ σ G0 H0 G H _ _ E h fun b H' G' x hq=>?_⟩;cases b with
 | true=>rw[if_pos rfl] at hq ⊢;exact k true H' G' x hq
 | false=>rw[if_neg ax] at hq ⊢;exact q' ρ σ G0 H0 G' H' Q P (E.ext x) hq fun b2 H2 G2 x2 h2=>k b2 H2 G2 (x.trans x2) h2
def yB(t:TD):TD:=fun ρ Q=>t ρ fun r=>match r with
 | .fz (.bl k)=>Q (.fz (.bl (!k)))
 | _=>False
def qV(t u:TD):TD:=fun ρ Q=>t ρ fun r=>match r with
 | .fz (.bl k)=>if k=true then u ρ Q else Q (.fz (.bl false))
 | _=>False
theorem Je(h:PD X a ta):PD X (.UnaryOp .Not a pos) (yB ta):=by
 obtain⟨t,p,q⟩:=h;refine⟨_,IP p,fun ρ σ G0 H0 G H Q P E h k=>q ρ σ G0 H0 G H _ _ E h fun v H' r G' x rr hq=>?_⟩;split at hq
 ·rename_i kk;have e:v=.bl kk:=by simpa only[di,Rep] using rr
  exact⟨kk,e,k _ H' _ G' x (eV (iq _ _ _)) hq⟩
 ·exact hq.elim
theorem xg{op}(h:PD X a ta):PD X (.BoolOp op [a] pos) ta:=let⟨t,p,q⟩:=h;⟨t,J6 p,q⟩
theorem uA(h:PD X a ta)(h':PD X (.BoolOp .And (b::iM) pos) tb):PD X (.BoolOp .And (a::b::iM) pos) (qV ta tb):=by
 obtain⟨t,p,q⟩:=h;obtain⟨t',p',q'⟩:=h';refine⟨_,IQ p p',fun ρ σ G0 H0 G H Q P E h k=>q ρ σ G0 H0 G H _ _ E h fun v H' r G' x rr hq=>?_⟩;split at hq
 ·rename_i kk;have e:v=.bl kk:=by simpa only[di,Rep] using rr
  refine⟨kk,e,?_⟩;cases kk with
  | true=>rw[if_pos rfl] at hq ⊢;exact q' ρ σ G0 H0 G' H' Q P (E.ext x) hq fun b2 H2 r2 G2 x2 vp h2=>k b2 H2 r2 G2 (x.trans x2) (vp.iA x.h) h2
  | false=>rw[if_neg ax] at hq ⊢;exact k _ H' _ G' x (eV (iq _ _ _)) hq
 ·exact hq.elim
def uz(o o':O2)(ta tb tc:TD):TD:=fun ρ Q=>ta ρ fun ra=>tb ρ fun rb=>o ra.val rb.val fun r=>match r with
 | .fz (.bl k)=>if k=true then tc ρ fun rc=>o' rb.val rc.val Q else Q (.fz (.bl false))
 | _=>False
abbrev nr(K:PySem.W.Frag)(t:TD)(tt:TE):Prop:=∀(ρ:Ev) (σ:St) (G0 H0 G H:Hp) (Q:R->Prop) (P:VK),cJ K G0 H0 ρ σ G H->t ρ Q->(∀v H' r G',Ext G H G' H'->di K G' H' H v r->Q r->P v H')->tt σ H P
theorem K9{K:PySem.W.Frag}{g g':Int->Int->Bool}{t1 t2 t3:TE}(q1:nr K ta t1)(q2:nr K tb t2)(q3:nr K tc t3) :
  nr K (uz (ie fun i j=>.bl (g i j)) (ie fun i j=>.bl (g' i j)) ta tb tc) (DC (mj fun i j=>.bl (g i j)) (mj fun i j=>.bl (g' i j)) t1 t2 t3):=by
 refine fun ρ σ G0 H0 G H Q P E h k=>q1 ρ σ G0 H0 G H _ _ E h fun v1 H1 r1 G1 x1 AY mw=>?_
 obtain⟨Cu,qi,AX,_⟩:=AY.freeze x1;refine q2 ρ σ G0 H0 Cu H1 _ _ (E.ext qi) mw fun v2 H2 r2 G2 x2 vp ig=>?_
 obtain⟨yr,qh,qm,_⟩:=vp.freeze x2;unfold ie at ig;split at ig
 ·rename_i i j e1 e2;rw[e1] at AX;rw[e2] at qm;simp only[Rep] at AX qm;refine⟨i,j,AX,qm,_,rfl,?_⟩;dsimp only at ig;cases hk:g i j with
  | false=>
   rw[hk,if_neg ax] at ig;rw[if_neg ax];exact k _ _ _ yr (qi.trans qh) (eV (iq _ _ _)) ig
  | true=>
   rw[hk,if_pos rfl] at ig;rw[if_pos rfl];refine q3 ρ σ G0 H0 yr H2 _ _ (E.ext (qi.trans qh)) ig fun v3 H3 r3 G3 x3 pv eh=>?_
   obtain⟨Q8,Oy,jR,_⟩:=pv.freeze x3;rw[e2] at eh;split at eh
   ·rename_i i' j' e3 e4;cases e3;rw[e4] at jR;simp only[Rep] at jR;exact⟨j,j',qm,jR,k _ _ _ Q8 ((qi.trans qh).trans Oy) (eV (iq _ _ _)) eh⟩
   ·exact eh.elim
 ·exact ig.elim
theorem Jd{K:PySem.W.Frag}{t:TD}{tt:TE}(q:nr K t tt)(ρ:Ev)(σ:St)(G0 H0 G H:Hp)(Q:Bool->Prop)(P:Bool->Hp->Prop)(E:cJ K G0 H0 ρ σ G H)(h:dh t ρ Q)(k:∀b H' G',Ext G H G' H'->Q b->P b H'):yO tt σ H P:=by
 refine q ρ σ G0 H0 G H _ _ E h fun v H' r G' x1 r1 h1=>?_
 split at h1
 ·rename_i kk;have e:v=.bl kk:=by simpa only[di,Rep] using r1
  exact⟨kk,e,k kk H' G' x1 h1⟩
 ·exact h1.elim
theorem EA{op rO:CmpOp}{g g':Int->Int->Bool}(ho:fj X (compareOp op) (mj fun i j=>.bl (g i j)))(jW:fj X (compareOp rO) (mj fun i j=>.bl (g' i j)))(h1:PD X a ta)(h2:PD X b tb)(h3:PD X c tc)(hm:lastMarks [op,rO] [b,c]=false:=by with_unfolding_all rfl) :
  PB X (.Compare a [op,rO] [b,c] pos) (dh (uz (ie fun i j=>.bl (g i j)) (ie fun i j=>.bl (g' i j)) ta tb tc)):=by
 obtain⟨t1,p1,q1⟩:=h1;obtain⟨t2,p2,q2⟩:=h2;obtain⟨t3,p3,q3⟩:=h3;exact⟨_,Mc ho jW p1 p2 p3 hm,Jd (K9 q1 q2 q3)⟩
def fq:O2:=fun d e Q=>match d,e with
 | .lst ds,.int i=>∃d,dz ds i=some d/\Q (.fz d)
 | .tup ds,.int i=>∃d,dz ds i=some d/\Q (.fz d)
 | .str z,.int i=>z.length<=sizeLine/\∃c,dz z.cps.toList i=some c/\Q (.fz (.str ⟨#[c]⟩))
 | _,_=>False
theorem DS{K:PySem.W.Frag}{G:Hp}{xs:List V}{ds:List D}{i:Int}{d:D}(r:bD K G xs ds)(h:dz ds i=some d):∃v,dz xs i=some v/\Rep K G v d:=by
 unfold dz at h ⊢;rw[r.length];cases e:jV ds.length i with
 | none=>rw[e] at h;cases h
 | some j=>
  rw[e] at h;simp only[Option.bind_some] at h ⊢;exact r.get h
theorem fR(h1:PD X a ta)(h2:PD X b tb)(hs:zt b:=by intro _ _;rfl):PD X (.Subscript a b pos) (bJ fq ta tb):=by
 obtain⟨t1,p1,q1⟩:=h1;obtain⟨t2,p2,q2⟩:=h2;refine⟨_,CY Iy p1 p2 hs,xj (r:=FP X.K) (fun G H x y d e Q P s rx ry h k=>?_) q1 q2⟩;unfold fq at h;split at h
 ·simp only[Rep] at rx ry;obtain⟨p,xs,rfl,hq,rs⟩:=rx;obtain⟨d,hd,q⟩:=h;obtain⟨v,hv,rv⟩:=DS rs hd;exact .inl ⟨p,xs,_,v,rfl,ry,(s.gi hq).sq,hv,k _ _ _ G (.refl s) (eV rv) q⟩
 ·simp only[Rep] at rx ry;obtain⟨p,xs,rfl,hq,rs⟩:=rx;obtain⟨d,hd,q⟩:=h;obtain⟨v,hv,rv⟩:=DS rs hd;exact .inr (.inl ⟨p,xs,_,v,rfl,ry,s.jQ hq,hv,k _ _ _ G (.refl s) (eV rv) q⟩)
 ·simp only[Rep] at rx ry;obtain⟨hz,c,hc,q⟩:=h;exact .inr (.inr ⟨_,_,c,rx,ry,hz,hc,k _ _ _ G (.refl s) (eV (pY _ _ _)) q⟩)
 ·exact h.elim
variable {e:Expr} {es:List Expr} {te:TD} {ts:iw}
def bU:iw:=fun _ Q=>Q []
def bK(te:TD)(ts:iw):iw:=fun ρ Q=>te ρ fun r=>ts ρ fun ds=>Q (r.val::ds)
theorem bV:lW X [] bU:=⟨_,lz,fun ρ σ G0 H0 G H Q P E h k=>k [] H [] G (.refl E.e.s) bD.nil h⟩
theorem bL(h:PD X e te)(hr:lW X es ts)(hs:starEach (e::es) X.env=(false,eval e X.env)::starEach es X.env:=by rfl):lW X (e::es) (bK te ts):=by
 obtain⟨t1,p1,q1⟩:=h;obtain⟨t2,p2,q2⟩:=hr;refine⟨_,jO p1 p2 hs,fun ρ σ G0 H0 G H Q P E h k=>q1 ρ σ G0 H0 G H _ _ E h fun v H' r G' x1 rr hq=>?_⟩;obtain⟨G2,x2,rv,_⟩:=rr.freeze x1;refine q2 ρ σ G0 H0 G2 H' _ _ (E.ext x2) hq fun vs H3 ds G3 x3 rs eh=>?_
 exact k _ H3 _ G3 (x2.trans x3) (bD.cons (rv.mono x3.g) rs) eh
def jH(ts:iw):TD:=fun ρ Q=>ts ρ fun ds=>ds.length<=sizeLine/\Q (.fz (.tup ds))
def jG(ts:iw):TD:=fun ρ Q=>ts ρ fun ds=>ds.length<=sizeLine/\Q (.ow ds)
theorem kj{x1}(h:lW X es ts):PD X (.Tuple es x1 pos) (jH ts):=by
 obtain⟨t,p,q⟩:=h;refine⟨_,Dz p,fun ρ σ G0 H0 G H Q P E h k=>q ρ σ G0 H0 G H _ _ E h fun vs H' ds G' x rs hq=>⟨by rw[rs.length];exact hq.1,fun p hp=>?_⟩⟩;have x2:Ext G' H' (upd G' p (.tup vs)) (upd H' p (.tup vs)):=.new x.s hp;refine k _ _ (.fz (.tup ds)) _ (x.trans x2) ?_ hq.2;show Rep X.K _ _ (.tup ds);simp only[Rep];exact⟨p,vs,rfl,fP,rs.mono x2.g⟩
theorem kh(h:lW X es ts):PD X (.List es pos) (jG ts):=by
 obtain⟨t,p,q⟩:=h;refine⟨_,Dy p,fun ρ σ G0 H0 G H Q P E h k=>q ρ σ G0 H0 G H _ _ E h fun vs H' ds G' x rs hq=>⟨by rw[rs.length];exact hq.1,fun p hp=>?_⟩⟩;exact k _ _ (.ow ds) G' (x.trans (.own x.s hp)) ⟨p,vs,rfl,x.h.free hp,x.s.free hp,fP,rs⟩ hq.2
def qX(X:Cx)(f:Value)(o:List D->(R->Prop)->Prop):Prop:=∃r,dn X f r/\∀(G H:Hp) (vs:List V) (ds:List D) (Q:R->Prop) (P:VK),bM G H->bD X.K G vs ds->o ds Q->
 (∀v H' r' G',Ext G H G' H'->di X.K G' H' H v r'->Q r'->P v H')->r vs H P
def gS(o:List D->(R->Prop)->Prop)(ts:iw):TD:=fun ρ Q=>ts ρ fun ds=>o ds Q
theorem HN{o:List D->(R->Prop)->Prop}{r:List V->Hp->VK->Prop}{t:TA}
  (hr:∀(G H:Hp) (vs:List V) (ds:List D) (Q:R->Prop) (P:VK),bM G H->bD X.K G vs ds->o ds Q->(∀v H' r' G',Ext G H G' H'->di X.K G' H' H v r'->Q r'->P v H')->r vs H P)
  (q:∀(ρ:Ev) (σ:St) (G0 H0 G H:Hp) (Q:List D->Prop) (P:List V->Hp->Prop),cJ X.K G0 H0 ρ σ G H->ts ρ Q->(∀vs H' ds G',Ext G H G' H'->bD X.K G' vs ds->Q ds->P vs H')->t σ H P):nr X.K (gS o ts) (AO r t):=
 fun ρ σ G0 H0 G H Q P E h k=>q ρ σ G0 H0 G H _ _ E h fun vs H' ds G' x rs hq=>hr G' H' vs ds Q P x.s rs hq fun v H2 r' G2 x2 rr q2=>k v H2 r' G2 (x.trans x2) (rr.iA x.h) q2
theorem h9{id:String}{x:Str}{p:Pos}{o:List D->(R->Prop)->Prop}(hc:qX X (.builtin id) o)(hm:X.mg x=none)(hv:bootBuiltins x=some (.builtin id))(ha:lW X (e::es) ts)(hg:Gl X x:=by rfl)(hn:x≠"__name__":=by decide)(n0:(x==("__debug__":Str))=false:=by decide)
  (he:starEach (e::es) X.env=(false,eval e X.env)::starEach es X.env:=by rfl) (g4:(backTo pos (starEach es X.env)).any (·.1)=false:=by rfl):PD X (.Call (.Name x p) (e::es) [] pos) (gS o ts):=by
 obtain⟨r,hr,ku⟩:=hc;obtain⟨t,pp,q⟩:=ha;exact⟨_,rp hr hg hm hv pp hn n0 he g4,HN ku q⟩
end
end L2
namespace L2
open PySem PySem.Spec PyProof.Rows
theorem l8{σ:St}{i j:Nat}{x:Option V}:(σ.set i x)[j]?=if i=j/\j<σ.length then some x else σ[j]?:=by
 by_cases h:i=j
 ·subst h;by_cases hl:i<σ.length
  ·simp[hl]
  ·simp[hl]
 ·simp[h]
section
variable {K:PySem.W.Frag} {G0 H0 G H G' H':Hp} {ρ:Ev} {σ:St}
theorem cJ.put{i:Nat}{v:V}{r:R}(E:cJ K G0 H0 ρ σ G H)(x:Ext G H G' H')(rr:di K G' H' H v r):cJ K G0 H0 (ρ.set i r.sl) (σ.set i (some v)) G' H':=by
 have E':=E.ext x;have hl:=E.len;have gs:∀j s,gt (ρ.set i r.sl) j=s->(i=j/\j<ρ.length/\s=r.sl)\/(¬(i=j/\j<ρ.length)/\gt ρ j=s):=fun j s e=>by
  rw[pX] at e;by_cases h:i=j/\j<ρ.length
  ·rw[if_pos h] at e;exact .inl ⟨h.1,h.2,e.symm⟩
  ·rw[if_neg h] at e;exact .inr ⟨h,e⟩
 refine⟨E'.e,by simp[E.len],fun j d h=>?_,fun j ds h=>?_,fun j k ds es kT h1 h2=>?_,?_⟩
 ·rcases gs j _ h with⟨h1,h2,h3⟩ | ⟨h1,h2⟩
  ·cases r with
   | ow=>cases h3
   | ov=>cases h3
   | fz d'=>
    cases h3;exact⟨v,by rw[l8,if_pos ⟨h1,by omega⟩],rr⟩
  ·obtain⟨u,hu,ru⟩:=E'.fz j d h2;exact⟨u,by rw[l8,if_neg (by rw[hl];exact h1)];exact hu,ru⟩
 ·rcases gs j _ h with⟨h1,h2,h3⟩ | ⟨h1,h2⟩
  ·cases r with
   | fz=>cases h3
   | ov=>cases h3
   | ow tU=>
    cases h3;obtain⟨p,xs,rfl,a1,a2,a3,a4⟩:=rr;exact⟨p,xs,by rw[l8,if_pos ⟨h1,by omega⟩],a3,a2,E.e.h.free a1,a4⟩
  ·obtain⟨p,xs,b1,b2,b3,b4,b5⟩:=E'.ow j ds h2;exact⟨p,xs,by rw[l8,if_neg (by rw[hl];exact h1)];exact b1,b2,b3,b4,b5⟩
 ·have old:∀{j:Nat} {ds:List D},gt ρ j=.ow ds->∀es,r=.ow es->σ[j]?≠some (some v):=fun{j ds} h es e z=>by
   subst e;obtain⟨p,xs,rfl,a1,a2,a3,a4⟩:=rr;obtain⟨p',me,b1,b2,b3,b4,b5⟩:=E.ow j ds h;rw[b1] at z;cases z;rw[a1] at b2;cases b2
  rcases gs j _ h1 with⟨c1,c2,c3⟩ | ⟨c1,c2⟩
  ·rcases gs k _ h2 with⟨d1,d2,d3⟩ | ⟨d1,d2⟩
   ·exact absurd (c1.symm.trans d1) kT
   ·rw[l8,if_pos ⟨c1,by omega⟩,l8,if_neg (by rw[hl];exact d1)];cases r with
    | fz=>cases c3
    | ov=>cases c3
    | ow sx=>exact fun z=>old d2 sx rfl z.symm
  ·rcases gs k _ h2 with⟨d1,d2,d3⟩ | ⟨d1,d2⟩
   ·rw[l8,if_neg (by rw[hl];exact c1),l8,if_pos ⟨d1,by omega⟩];cases r with
    | fz=>cases d3
    | ov=>cases d3
    | ow sx=>exact old c2 sx rfl
   ·rw[l8,if_neg (by rw[hl];exact c1),l8,if_neg (by rw[hl];exact d1)];exact E.dj j k ds es kT c2 d2
 ·obtain⟨own,o1,o2⟩:=E.on;have F2:∀j,¬(i=j/\j<ρ.length)->(σ.set i (some v))[j]?=σ[j]?:=fun j h=>by rw[l8,if_neg (by rw[hl];exact h)]
  have gen:∀L:List Addr,(∀q∈L,H q=none)->(∀j ds p,i=j->j<ρ.length->r.sl=.ow ds->v=.ref p->p∈L)->
    (∀j o,i=j->j<ρ.length->r.sl=.ov o->∃p fp,v=.ref p/\(p::fp).Nodup/\g7 K G' H' p fp o/\∀q∈p::fp,G' q=none/\q∈L)->
    ∃own:Addr->Option Nat,(∀j ds p,gt (ρ.set i r.sl) j=.ow ds->(σ.set i (some v))[j]?=some (some (.ref p))->own p=some j)/\∀j o,gt (ρ.set i r.sl) j=.ov o->∃p fp,(σ.set i (some v))[j]?=some (some (.ref p))/\(p::fp).Nodup/\g7 K G' H' p fp o/\∀q∈p::fp,G' q=none/\H0 q=none/\own q=some j:=by
   intro L hL hw ho;refine⟨fun q=>if q∈L then some i else own q,fun j ds p h hp=>?_,fun j o h=>?_⟩
   ·rcases gs j _ h with⟨h1,h2,h3⟩ | ⟨h1,h2⟩
    ·rw[l8,if_pos ⟨h1,by omega⟩] at hp;have hv:v=.ref p:=by injection hp with hp;injection hp
     dsimp only;rw[if_pos (hw j ds p h1 h2 h3.symm hv),h1]
    ·rw[F2 j h1] at hp;obtain⟨p',me,b1,b2,_⟩:=E.ow j ds h2;have dH:p∉L:=fun z=>by
      rw[hp] at b1;cases b1;rw[hL p z] at b2;cases b2
     dsimp only;rw[if_neg dH];exact o1 j ds p h2 hp
   ·rcases gs j _ h with⟨h1,h2,h3⟩ | ⟨h1,h2⟩
    ·obtain⟨p,fp,rfl,c1,c2,c3⟩:=ho j o h1 h2 h3.symm;refine⟨p,fp,by rw[l8,if_pos ⟨h1,by omega⟩],c1,c2,fun q hq=>⟨(c3 q hq).1,E.e.h.free (hL q (c3 q hq).2),?_⟩⟩;dsimp only;rw[if_pos (c3 q hq).2,h1]
    ·obtain⟨p,fp,b1,b2,b3,b4⟩:=o2 j o h2;refine⟨p,fp,by rw[F2 j h1];exact b1,b2,b3.mono x.g fun q _ u e=>x.h q u e,fun q hq=>⟨x.n q (b4 q hq).1 (b3.here q hq),(b4 q hq).2.1,?_⟩⟩;dsimp only;rw[if_neg (fun z=>b3.here q hq (hL q z))];exact(b4 q hq).2.2
  cases r with
  | fz d=>exact gen [] (fun q hq=>by cases hq) (fun j ds p _ _ e=>by cases e) (fun j o _ _ e=>by cases e)
  | ow tU=>
   obtain⟨p,xs,rfl,a1,a2,a3,a4⟩:=rr;refine gen [p] (fun q hq=>?_) (fun j ds p' _ _ e e2=>?_) (fun j o _ _ e=>by cases e)
   ·simp only[a9] at hq;subst hq;exact a1
   ·cases e2;simp
  | ov o'=>
   obtain⟨p,fp,rfl,a1,a2,a3⟩:=rr;refine gen (p::fp) (fun q hq=>(a3 q hq).1) (fun j ds p' _ _ e=>by cases e) (fun j o _ _ e=>?_);cases e;exact⟨p,fp,rfl,a1,a2,fun q hq=>⟨(a3 q hq).2,hq⟩⟩
noncomputable def iQ(i:Nat)(ρ:Ev):Ev:=match gt ρ i with
 | .ow ds=>ρ.set i (.fz (.lst ds))
 | .ov o=>ρ.set i (.fz o.val)
 | _=>ρ
theorem sS{ρ:Ev}{i:Nat}{s:Sl}(h:gt ρ i=s)(hs:s≠.un):i<ρ.length:=by
 induction ρ generalizing i with
 | nil=>simp[gt] at h;exact absurd h.symm hs
 | cons a r ih=>
  cases i with
  | zero=>simp
  | succ i=>simp only[gt] at h;have:=ih h;simp;omega
theorem bO.F1{K:PySem.W.Frag}{G H:Hp}:∀{qs:List Addr} {cN:List (List D)},bO K G H qs cN->∀q∈qs,∃zs,H q=some (.lst zs)
 | [],[],_,q,hq=>by cases hq
 | p::qs,ds::cN,h,q,hq=>by
  simp only[bO] at h;rcases au.mp hq with rfl | hq
  ·exact⟨_,h.1.choose_spec.1⟩
  ·exact bO.F1 h.2 q hq
 | [],_::_,h,_,_=>by simp only[bO] at h
 | _::_,[],h,_,_=>by simp only[bO] at h
theorem cJ.n8(i:Nat)(E:cJ K G0 H0 ρ σ G H):∃L:List Addr,(∀q∈L,G q=none)/\cJ K G0 H0 (iQ i ρ) σ (lX G H L) H/\(((∀o,gt ρ i=.ov o->(∃bF,o=.dc bF)\/∃cN,o=.ll cN)->∀q∈L,H q≠none/\∀xs,¬Rd H q (.tup xs)))/\∀o p,gt ρ i=.ov o->σ[i]?=some (some (.ref p))->p∈L:=by
 unfold iQ;split
 ·rename_i ds hg;obtain⟨p,xs,h1,h2,h3,h4,h5⟩:=E.ow i ds hg;have gf:i<ρ.length:=sS hg (by simp);have hs:bM G (upd G p (.lst xs)):=qc h3;have gs:∀j s,gt (ρ.set i (.fz (.lst ds))) j=s->(i=j/\s=.fz (.lst ds))\/(i≠j/\gt ρ j=s):=fun j s e=>by
   rw[pX] at e;by_cases h:i=j
   ·subst h;rw[if_pos ⟨rfl,gf⟩] at e;exact .inl ⟨rfl,e.symm⟩
   ·rw[if_neg (fun z=>h z.1)] at e;exact .inr ⟨h,e⟩
  have ep:lX G H [p]=upd G p (.lst xs):=by
   funext a
   by_cases ha:a=p
   ·subst ha;rw[fP,oN (by simp)];exact h2
   ·rw[cM ha,nE (by simpa using ha)]
  refine⟨[p],fun q hq=>?_,?_,fun _ q hq=>by
   simp only[a9] at hq;rw[hq]
   exact⟨(by rw[h2];exact nofun),fun me e=>by rcases e with e | ⟨_,e⟩<;>(rw[h2] at e;cases e)⟩,fun o p z=>by rw[hg] at z;cases z⟩
  ·simp only[a9] at hq;subst hq;exact h3
  rw[ep];refine⟨⟨E.e.g.trans hs,E.e.h,fun b o e=>?_,fun q q1 q2=>?_⟩,by simp[E.len],fun j d h=>?_,fun j es h=>?_,fun j k es fs kT a1 a2=>?_,?_⟩
  ·by_cases hb:b=p
   ·subst hb;rw[fP] at e;rw[h2];exact e
   ·rw[cM hb] at e;exact E.e.s b o e
  ·rw[cM (fun z=>q2 (by rw[z];exact h4))];exact E.e.n q q1 q2
  ·rcases gs j _ h with⟨e,e2⟩ | ⟨e,e2⟩
   ·subst e;cases e2;exact⟨_,h1,by simp only[Rep];exact⟨p,xs,rfl,iR.of fP,h5.mono hs⟩⟩
   ·obtain⟨u,u1,u2⟩:=E.fz j d e2;exact⟨u,u1,u2.mono hs⟩
  ·rcases gs j _ h with⟨e,e2⟩ | ⟨e,e2⟩
   ·cases e2
   ·obtain⟨p',me,b1,b2,b3,b4,b5⟩:=E.ow j es e2;have dH:p'≠p:=fun z=>by
     subst z;exact E.dj i j ds es e hg e2 (by rw[h1,b1])
    exact⟨p',me,b1,b2,by rw[cM dH];exact b3,b4,b5.mono hs⟩
  ·rcases gs j _ a1 with⟨_,e2⟩ | ⟨e,e2⟩
   ·cases e2
   ·rcases gs k _ a2 with⟨_,e4⟩ | ⟨e3,e4⟩
    ·cases e4
    ·exact E.dj j k es fs kT e2 e4
  ·obtain⟨own,o1,o2⟩:=E.on;refine⟨own,fun j es p' h hp=>?_,fun j o h=>?_⟩
   ·rcases gs j _ h with⟨_,e2⟩ | ⟨_,e2⟩
    ·cases e2
    ·exact o1 j es p' e2 hp
   ·rcases gs j _ h with⟨_,e2⟩ | ⟨e,e2⟩
    ·cases e2
    ·obtain⟨p',fp,b1,b2,b3,b4⟩:=o2 j o e2;refine⟨p',fp,b1,b2,b3.mono hs fun q _ u e=>e,fun q hq=>⟨?_,(b4 q hq).2⟩⟩;rw[cM fun z=>?_]
     ·exact(b4 q hq).1
     ·have z1:=(b4 q hq).2.2;rw[z,o1 i ds p hg h1] at z1;injection z1 with z1
      exact e z1
 ·rename_i o hg;obtain⟨own,o1,o2⟩:=E.on;obtain⟨p,fp,h1,h2,h3,h4⟩:=o2 i o hg;have gf:i<ρ.length:=sS hg (by simp);have hn:∀q∈p::fp,G q=none:=fun q hq=>(h4 q hq).1
  have hs:bM G (lX G H (p::fp)):=uL hn;have gs:∀j s,gt (ρ.set i (.fz o.val)) j=s->(i=j/\s=.fz o.val)\/(i≠j/\gt ρ j=s):=fun j s e=>by
   rw[pX] at e;by_cases h:i=j
   ·subst h;rw[if_pos ⟨rfl,gf⟩] at e;exact .inl ⟨rfl,e.symm⟩
   ·rw[if_neg (fun z=>h z.1)] at e;exact .inr ⟨h,e⟩
  suffices vN:cJ K G0 H0 (ρ.set i (.fz o.val)) σ (lX G H (p::fp)) H from⟨p::fp,hn,vN,fun hd q hq=>by
   rcases hd o hg with⟨bF,rfl⟩ | ⟨cN,rfl⟩
   ·obtain⟨rfl,ks,ep,h5,_⟩:=h3;simp only[a9] at hq;rw[hq];exact⟨(by rw[h5];exact nofun),fun me e=>by rcases e with e | ⟨_,e⟩<;>(rw[h5] at e;cases e)⟩
   ·obtain⟨zs,h5⟩:∃zs,H q=some (.lst zs):=by
     rcases au.mp hq with rfl | hq
     ·exact⟨_,h3.1⟩
     ·exact bO.F1 h3.2 q hq
    exact⟨(by rw[h5];exact nofun),fun me e=>by rcases e with e | ⟨_,e⟩<;>(rw[h5] at e;cases e)⟩,fun o' p' _ e=>by rw[h1] at e;cases e;simp⟩
  refine⟨⟨E.e.g.trans hs,E.e.h,fun b u e=>?_,fun q q1 q2=>?_⟩,by simp[E.len],fun j d h=>?_,fun j es h=>?_,fun j k es fs kT a1 a2=>?_,own,fun j es p' h hp=>?_,fun j o' h=>?_⟩
  ·by_cases hb:b∈p::fp
   ·rw[oN hb] at e;exact e
   ·rw[nE hb] at e;exact E.e.s b u e
  ·rw[nE (fun z=>q2 (h4 q z).2.1)];exact E.e.n q q1 q2
  ·rcases gs j _ h with⟨e,e2⟩ | ⟨e,e2⟩
   ·subst e;cases e2;exact⟨_,h1,h3.freeze hn⟩
   ·obtain⟨u,u1,u2⟩:=E.fz j d e2;exact⟨u,u1,u2.mono hs⟩
  ·rcases gs j _ h with⟨e,e2⟩ | ⟨e,e2⟩
   ·cases e2
   ·obtain⟨p',me,b1,b2,b3,b4,b5⟩:=E.ow j es e2;refine⟨p',me,b1,b2,?_,b4,b5.mono hs⟩;rw[nE fun z=>?_]
    ·exact b3
    ·have z1:=(h4 p' z).2.2;rw[o1 j es p' e2 b1] at z1;injection z1 with z1
     exact e z1.symm
  ·rcases gs j _ a1 with⟨_,e2⟩ | ⟨e,e2⟩
   ·cases e2
   ·rcases gs k _ a2 with⟨_,e4⟩ | ⟨e3,e4⟩
    ·cases e4
    ·exact E.dj j k es fs kT e2 e4
  ·rcases gs j _ h with⟨_,e2⟩ | ⟨_,e2⟩
   ·cases e2
   ·exact o1 j es p' e2 hp
  ·rcases gs j _ h with⟨_,e2⟩ | ⟨e,e2⟩
   ·cases e2
   ·obtain⟨p',i3,b1,b2,b3,b4⟩:=o2 j o' e2;refine⟨p',i3,b1,b2,b3.mono hs fun q _ u e=>e,fun q hq=>⟨?_,(b4 q hq).2⟩⟩;rw[nE fun z=>?_]
    ·exact(b4 q hq).1
    ·have z1:=(b4 q hq).2.2;rw[(h4 q z).2.2] at z1;injection z1 with z1
     exact e z1
 ·rename_i Rv O7;have ep:lX G H []=G:=by funext a;exact nE (by simp)
  exact⟨[],fun q hq=>(by cases hq),by rw[ep];exact E,fun _ q hq=>(by cases hq),fun o p z=>(O7 o z).elim⟩
theorem cJ.lS(i:Nat)(E:cJ K G0 H0 ρ σ G H):∃L:List Addr,(∀q∈L,G q=none)/\cJ K G0 H0 (iQ i ρ) σ (lX G H L) H/\((∀o,gt ρ i=.ov o->(∃bF,o=.dc bF)\/∃cN,o=.ll cN)->∀q∈L,H q≠none/\∀xs,¬Rd H q (.tup xs)):=
 let⟨L,a,b,c,_⟩:=E.n8 i
 ⟨L,a,b,c⟩
theorem cJ.freeze(i:Nat)(E:cJ K G0 H0 ρ σ G H):∃G',cJ K G0 H0 (iQ i ρ) σ G' H/\bM G G':=
 let⟨L,hL,E',_⟩:=E.lS i
 ⟨_,E',uL hL⟩
theorem cJ.change{i:Nat}{ds tU:List D}{p:Addr}{me:List V}(E:cJ K G0 H0 ρ σ G H)(hg:gt ρ i=.ow ds)(h1:σ[i]?=some (some (.ref p)))(hr:bD K G me tU) :
  cJ K G0 H0 (ρ.set i (.ow tU)) σ G (upd H p (.lst me)):=by
 obtain⟨p',Ro,b1,b2,b3,b4,b5⟩:=E.ow i ds hg;rw[h1] at b1;cases b1;have gf:i<ρ.length:=sS hg (by simp);have gs:∀j s,gt (ρ.set i (.ow tU)) j=s->(i=j/\s=.ow tU)\/(i≠j/\gt ρ j=s):=fun j s e=>by
  rw[pX] at e;by_cases h:i=j
  ·subst h;rw[if_pos ⟨rfl,gf⟩] at e;exact .inl ⟨rfl,e.symm⟩
  ·rw[if_neg (fun z=>h z.1)] at e;exact .inr ⟨h,e⟩
 have hG:bM G (upd H p (.lst me)):=fun b o e=>by rw[cM (iN e b3)];exact E.e.s b o e
 refine⟨⟨E.e.g,fun b o e=>by rw[cM (iN e b4)];exact E.e.h b o e,hG,E.e.n⟩,by simp[E.len],fun j d h=>?_,fun j es h=>?_,fun j k es fs kT a1 a2=>?_,?_⟩
 ·rcases gs j _ h with⟨_,e2⟩ | ⟨e,e2⟩
  ·cases e2
  ·exact E.fz j d e2
 ·rcases gs j _ h with⟨e,e2⟩ | ⟨e,e2⟩
  ·subst e;cases e2;exact⟨p,me,h1,fP,b3,b4,hr⟩
  ·obtain⟨p',Ox,c1,c2,c3,c4,c5⟩:=E.ow j es e2;have dH:p'≠p:=fun z=>by
    subst z;exact E.dj i j ds es e hg e2 (by rw[h1,c1])
   exact⟨p',Ox,c1,by rw[cM dH];exact c2,c3,c4,c5⟩
 ·rcases gs j _ a1 with⟨e,e2⟩ | ⟨e,e2⟩
  ·subst e;rcases gs k _ a2 with⟨e3,e4⟩ | ⟨e3,e4⟩
   ·exact absurd e3 kT
   ·exact E.dj i k ds fs kT hg e4
  ·rcases gs k _ a2 with⟨e3,e4⟩ | ⟨e3,e4⟩
   ·subst e3;exact E.dj j i es ds kT e2 hg
   ·exact E.dj j k es fs kT e2 e4
 ·obtain⟨own,o1,o2⟩:=E.on;refine⟨own,fun j es p' h hp=>?_,fun j o h=>?_⟩
  ·rcases gs j _ h with⟨e,e2⟩ | ⟨_,e2⟩
   ·subst e;exact o1 i ds p' hg hp
   ·exact o1 j es p' e2 hp
  ·rcases gs j _ h with⟨_,e2⟩ | ⟨e,e2⟩
   ·cases e2
   ·obtain⟨p',fp,c1,c2,c3,c4⟩:=o2 j o e2;refine⟨p',fp,c1,c2,c3.mono (bM.refl _) fun q hq u e3=>?_,c4⟩;rw[cM fun z=>?_]
    ·exact e3
    ·have z1:=(c4 q hq).2.2;rw[z,o1 i ds p hg h1] at z1;injection z1 with z1
     exact e z1
theorem cJ.gJ{i:Nat}{o o':OV}{p:Addr}(E:cJ K G0 H0 ρ σ G H)(hg:gt ρ i=.ov o)(h1:σ[i]?=some (some (.ref p)))
  (hc:∀fp,(p::fp).Nodup->g7 K G H p fp o->∃i3,(p::i3).Nodup/\g7 K G H' p i3 o'/\(∀q∈p::i3,q∈p::fp\/H q=none)/\∀b,b∉p::fp->H b≠none->H' b=H b) :
  cJ K G0 H0 (ρ.set i (.ov o')) σ G H':=by
 obtain⟨own,o1,o2⟩:=E.on;obtain⟨p',fp,b1,b2,b3,b4⟩:=o2 i o hg;rw[h1] at b1;cases b1;obtain⟨i3,c1,c2,c3,c4⟩:=hc fp b2 b3;have gf:i<ρ.length:=sS hg (by simp);have gs:∀j s,gt (ρ.set i (.ov o')) j=s->(i=j/\s=.ov o')\/(i≠j/\gt ρ j=s):=fun j s e=>by
  rw[pX] at e;by_cases h:i=j
  ·subst h;rw[if_pos ⟨rfl,gf⟩] at e;exact .inl ⟨rfl,e.symm⟩
  ·rw[if_neg (fun z=>h z.1)] at e;exact .inr ⟨h,e⟩
 have hk:∀(F:Hp),(∀q∈p::fp,F q=none)->bM F H->bM F H':=fun F hF s b u e=>by
  have hb:b∉p::fp:=fun z=>by rw[hF b z] at e;cases e
  rw[c4 b hb (by rw[s b u e];exact nofun)];exact s b u e
 refine⟨⟨E.e.g,hk H0 (fun q hq=>(b4 q hq).2.1) E.e.h,hk G (fun q hq=>(b4 q hq).1) E.e.s,E.e.n⟩,by simp[E.len],fun j d h=>?_,fun j es h=>?_,fun j k es fs kT a1 a2=>?_,fun q=>if q∈p::i3 then some i else own q,fun j es p' h hp=>?_,fun j O6 h=>?_⟩
 ·rcases gs j _ h with⟨_,e2⟩ | ⟨e,e2⟩
  ·cases e2
  ·exact E.fz j d e2
 ·rcases gs j _ h with⟨_,e2⟩ | ⟨e,e2⟩
  ·cases e2
  ·obtain⟨p',xs,d1,d2,d3,d4,d5⟩:=E.ow j es e2;refine⟨p',xs,d1,?_,d3,d4,d5⟩;rw[c4 p' (fun z=>?_) (by rw[d2];exact nofun)]
   ·exact d2
   ·have z1:=(b4 p' z).2.2;rw[o1 j es p' e2 d1] at z1;injection z1 with z1
    exact e z1.symm
 ·rcases gs j _ a1 with⟨_,e2⟩ | ⟨e,e2⟩
  ·cases e2
  ·rcases gs k _ a2 with⟨_,e4⟩ | ⟨e3,e4⟩
   ·cases e4
   ·exact E.dj j k es fs kT e2 e4
 ·rcases gs j _ h with⟨_,e2⟩ | ⟨e,e2⟩
  ·cases e2
  ·have w:=o1 j es p' e2 hp;obtain⟨p2,xs,d1,d2,_⟩:=E.ow j es e2;rw[hp] at d1;cases d1;dsimp only;rw[if_neg fun z=>?_]
   ·exact w
   ·rcases c3 p' z with z | z
    ·have z1:=(b4 p' z).2.2;rw[w] at z1;injection z1 with z1
     exact e z1.symm
    ·rw[z] at d2;cases d2
 ·rcases gs j _ h with⟨e,e2⟩ | ⟨e,e2⟩
  ·subst e;cases e2;refine⟨p,i3,h1,c1,c2,fun q hq=>?_⟩;dsimp only;rw[if_pos hq];rcases c3 q hq with z | z
   ·exact⟨(b4 q z).1,(b4 q z).2.1,rfl⟩
   ·exact⟨E.e.s.free z,E.e.h.free z,rfl⟩
  ·obtain⟨p2,Gz,d1,d2,d3,d4⟩:=o2 j O6 e2;have r0:∀q∈p2::Gz,q∉p::fp:=fun q hq z=>by
    have z1:=(b4 q z).2.2;rw[(d4 q hq).2.2] at z1;injection z1 with z1
    exact e z1.symm
   refine⟨p2,Gz,d1,d2,d3.mono (bM.refl _) fun q hq u e3=>?_,fun q hq=>⟨(d4 q hq).1,(d4 q hq).2.1,?_⟩⟩
   ·rw[c4 q (r0 q hq) (by rw[e3];exact nofun)];exact e3
   ·dsimp only;rw[if_neg fun z=>?_]
    ·exact(d4 q hq).2.2
    ·rcases c3 q z with z | z
     ·exact r0 q hq z
     ·exact d3.here q hq z
theorem cJ.weak{ρ':Ev}(E:cJ K G0 H0 ρ σ G H)(hl:ρ'.length=ρ.length)(w:∀i,gt ρ' i=.un\/gt ρ' i=gt ρ i):cJ K G0 H0 ρ' σ G H:=by
 have g:∀i s,gt ρ' i=s->s≠.un->gt ρ i=s:=fun i s e n=>by
  rcases w i with h | h
  ·exact absurd (e.symm.trans h) n
  ·rw[<-h];exact e
 exact⟨E.e,by rw[hl];exact E.len,fun i d h=>E.fz i d (g i _ h (by simp)),fun i d h=>E.ow i d (g i _ h (by simp)),fun i j ds es oT h1 h2=>E.dj i j ds es oT (g i _ h1 (by simp)) (g j _ h2 (by simp)),let⟨own,o1,o2⟩:=E.on;⟨own,fun i ds p h=>o1 i ds p (g i _ h (by simp)),fun i o h=>o2 i o (g i _ h (by simp))⟩⟩
end
section
variable {X:Cx} {pos:Pos} {e:Expr} {te:TD}
def cp(t u:TX):TX:=fun D ρ=>t { D with nx:=u D } ρ
def fw:TX:=fun D ρ=>D.nx ρ
theorem fN:kX X [] fw:=⟨_,Kw,fun ρ σ G0 H0 G H D E k h g=>g.nx ρ σ G H (bM.refl _) k h⟩
theorem cz{st:Stmt}{nM:List Stmt}{t u:TX}(h1:PX X st t)(h2:kX X nM u):kX X (st::nM) (cp t u):=by
 obtain⟨t1,p1,q1⟩:=h1;obtain⟨t2,p2,q2⟩:=h2;refine⟨_,EE p1 p2,fun ρ σ G0 H0 G H D E k h g=>q1 ρ σ G0 H0 G H _ _ k h ⟨fun ρ' bY G' H' s' k' h'=>q2 ρ' bY G0 H0 G' H' D E k' h' (g.shift s'),g.rt,g.bk,g.ct⟩⟩
theorem cL{st:Stmt}{t:TX}(h1:PX X st t):kX X [st] t:=by
 obtain⟨t1,p1,q1⟩:=h1;exact⟨_,zu p1,q1⟩
theorem xB(i:Nat){nM:List Stmt}{t:TX}(h:kX X nM t):kX X nM (fun D ρ=>t D (iQ i ρ)):=by
 obtain⟨t1,p1,q1⟩:=h;refine⟨_,p1,fun ρ σ G0 H0 G H D E k h g=>?_⟩;obtain⟨G',k',s'⟩:=k.freeze i;exact q1 _ σ G0 H0 G' H D E k' h (g.shift s')
def eF(te:TD):TX:=fun D ρ=>te ρ D.rt
theorem eH(h:PD X e te):PX X (.Return (some e) pos) (eF te):=by
 obtain⟨t,p,q⟩:=h;exact⟨_,zk p,fun ρ σ G0 H0 G H D E k h g=>q ρ σ G0 H0 G H _ _ k h fun v H' r G' x rr hq=>g.rt v H' r G' (k.e.trans x) (rr.iA k.e.h) hq⟩
def sR(i:Nat):TX:=fun D ρ=>match gt ρ i with
 | .ow ds=>D.rt (.ow ds)
 | _=>False
theorem zm(i:Nat){x:Str}{p':Pos}(hN:X.N[i]?=some x:=by rfl)(hv:j2 X.env.scope x:=by first | exact Or.inl rfl | exact Or.inr (Or.inl rfl) | exact Or.inr (Or.inr rfl))(hd:(x==("__debug__":Str))=false:=by decide)
  (fK:(x==("__classdict__":Str))=false:=by decide):PX X (.Return (some (.Name x p')) pos) (sR i):=by
 refine⟨_,zk (mU hN hv hd fK),fun ρ σ G0 H0 G H D E k h g=>?_⟩;unfold sR at h;split at h
 ·rename_i ds hg;obtain⟨p,xs,h1,h2,h3,h4,h5⟩:=k.ow i ds hg;exact⟨_,h1,g.rt _ H (.ow ds) G k.e ⟨p,xs,rfl,h4,h3,h2,h5⟩ h⟩
 ·exact h.elim
def fh(c:gU)(t u:TX):TX:=fun D ρ=>c ρ fun b=>if b=true then t D ρ else u D ρ
theorem fQ{c:Expr}{a b:List Stmt}{tc:gU}{t u:TX}(hc:PB X c tc)(ha:kX X a t)(hb:kX X b u):PX X (.If c a b pos) (fh tc t u):=by
 obtain⟨t0,p0,q0⟩:=hc;obtain⟨t1,p1,q1⟩:=ha;obtain⟨t2,p2,q2⟩:=hb;refine⟨_,C5 p0 p1 p2,fun ρ σ G0 H0 G H D E k h g=>q0 ρ σ G0 H0 G H _ _ k h fun b H' G' x hq=>?_⟩;cases b with
 | true=>rw[if_pos rfl] at hq ⊢;exact q1 ρ σ G0 H0 G' H' D E (k.ext x) hq (g.shift x.g)
 | false=>rw[if_neg ax] at hq ⊢;exact q2 ρ σ G0 H0 G' H' D E (k.ext x) hq (g.shift x.g)
def l6(i:Nat)(te:TD):TX:=fun D ρ=>te ρ fun r=>D.nx (ρ.set i r.sl)
theorem o8(i:Nat){x:Str}{pos':Pos}(he:PD X e te)(hN:X.N.Nodup:=by assumption)(hi:X.N[i]?=some x:=by rfl)(hx:Loc X.env.scope x:=by first | exact Or.inl rfl | exact Or.inr rfl)(hs:swapsWith e (some (.Name x pos')) pos.line X.env=pure false:=by rfl)(hf:X.fn x=true\/X.env.scope.names.lookup x=some .local:=by first | exact .inl rfl | exact .inr rfl | assumption) :
  PX X (.Assign [.Name x pos'] e pos) (l6 i te):=by
 obtain⟨t,p,q⟩:=he;exact⟨_,xl hN hi hx p hs hf,fun ρ σ G0 H0 G H D E k h g=>q ρ σ G0 H0 G H _ _ k h fun v H' r G' x rr hq=>g.nx _ _ G' H' x.g (k.put x rr) hq⟩
def eI(i:Nat)(te:TD):TX:=fun D ρ=>te ρ fun r=>D.nx (ρ.set i (.fz r.val))
theorem fg(i:Nat){x:Str}{pos':Pos}(he:PD X e te)(hN:X.N.Nodup:=by assumption)(hi:X.N[i]?=some x:=by rfl)(hx:Loc X.env.scope x:=by first | exact Or.inl rfl | exact Or.inr rfl)(hs:swapsWith e (some (.Name x pos')) pos.line X.env=pure false:=by rfl)(hf:X.fn x=true\/X.env.scope.names.lookup x=some .local:=by first | exact .inl rfl | exact .inr rfl | assumption) :
  PX X (.Assign [.Name x pos'] e pos) (eI i te):=by
 obtain⟨t,p,q⟩:=he;refine⟨_,xl hN hi hx p hs hf,fun ρ σ G0 H0 G H D E k h g=>q ρ σ G0 H0 G H _ _ k h fun v H' r G' x rr hq=>?_⟩;obtain⟨G2,x2,rv,_⟩:=rr.freeze x;exact g.nx _ _ G2 H' x2.g (k.put x2 (r:=.fz r.val) rv) hq
def sN(i:Nat)(te:TD):TX:=fun D ρ=>match gt ρ i with
 | .ow ds=>te ρ fun r=>ds.length<sizeLine/\D.nx (ρ.set i (.ow (ds++[r.val])))
 | _=>False
theorem y9(i:Nat){x:Str}{p1 p2 pos':Pos}(he:PD X e te)(hN:X.N[i]?=some x:=by rfl)(hv:j2 X.env.scope x:=by first | exact Or.inl rfl | exact Or.inr (Or.inl rfl) | exact Or.inr (Or.inr rfl))(hd:(x==("__debug__":Str))=false:=by decide)
  (fK:(x==("__classdict__":Str))=false:=by decide) (fE:starEach [e] X.env=(false,eval e X.env)::starEach [] X.env:=by rfl)
  (hb:∀{ta:TE} {t:TA},PE X (.Name x p1) ta->PA X [e] t->PE X (.Call (.Attribute (.Name x p1) "append" p2) [e] [] pos') (vj X.K "list" xv ta t):=by intro ta t h1 h2;exact ur PySem.F.plainAttrs_list PySem.F.slot_list_append PySem.F.type_list_append Ab h1 h2) :
  PX X (.Expr (.Call (.Attribute (.Name x p1) "append" p2) [e] [] pos') pos) (sN i te):=by
 obtain⟨t,p,q⟩:=he;refine⟨_,xw (hb (mU hN hv hd fK) (jO p lz fE)),fun ρ σ G0 H0 G H D E k h g=>?_⟩;unfold sN at h;split at h
 ·rename_i ds hg;obtain⟨a,xs,h1,h2,h3,h4,h5⟩:=k.ow i ds hg;refine⟨_,h1,.inl ⟨rfl,xs,eW.of h2⟩,?_⟩;refine q ρ σ G0 H0 G H _ _ k h fun v H' r G' x1 rr hq=>?_
  obtain⟨G2,x2,rv,_⟩:=rr.freeze x1;have k2:=k.ext x2;refine⟨a,xs,v,rfl,rfl,x2.h _ _ h2,by rw[h5.length];exact hq.1,?_⟩;exact g.nx _ _ G2 _ x2.g (k2.change hg h1 ((h5.mono x2.g).append (bD.cons rv bD.nil))) hq.2
 ·exact h.elim
end
end L2
namespace L2
open PySem PySem.Spec PyProof.Rows
section
variable {X:Cx} {pos:Pos} {tg:Expr}
noncomputable abbrev i5:=D->Ev->(Ev->Prop)->Prop
noncomputable abbrev nz:=List D->Ev->(Ev->Prop)->Prop
def qO(X:Cx)(tg:Expr)(g:i5):Prop:=∃gg,PG X tg gg/\∀(ρ:Ev) (σ:St) (G0 H0 G H:Hp) (d:D) (v:V) (Q:Ev->Prop) (P:St->Hp->Prop),cJ X.K G0 H0 ρ σ G H->Rep X.K G v d->g d ρ Q->
 (∀ρ' bY G' H',cJ X.K G0 H0 ρ' bY G' H'->Ext G H G' H'->Q ρ'->P bY H')->gg v σ H P
def wR(X:Cx)(OD:List Expr)(g:nz):Prop:=∃gg,wD X OD gg/\∀(ρ:Ev) (σ:St) (G0 H0 G H:Hp) (ds:List D) (vs:List V) (Q:Ev->Prop) (P:St->Hp->Prop),cJ X.K G0 H0 ρ σ G H->bD X.K G vs ds->g ds ρ Q->
 (∀ρ' bY G' H',cJ X.K G0 H0 ρ' bY G' H'->Ext G H G' H'->Q ρ'->P bY H')->gg vs σ H P
def dZ(i:Nat):i5:=fun d ρ Q=>Q (ρ.set i (.fz d))
theorem eT(i:Nat){x:Str}(hN:X.N.Nodup:=by assumption)(hi:X.N[i]?=some x:=by rfl)(hx:Loc X.env.scope x:=by first | exact Or.inl rfl | exact Or.inr rfl)(hf:X.fn x=true\/X.env.scope.names.lookup x=some .local:=by first | exact .inl rfl | exact .inr rfl | assumption):qO X (.Name x pos) (dZ i):=
 ⟨_,Kv hN hi hx hf,fun ρ σ G0 H0 G H d v Q P E r h k=>k _ _ G H (E.put (.refl E.e.s) (r:=.fz d) r) (.refl E.e.s) h⟩
noncomputable def jk:nz:=fun ds ρ Q=>match ds with
 | []=>Q ρ
 | _=>False
noncomputable def gn(t:i5)(u:nz):nz:=fun ds ρ Q=>match ds with
 | d::r=>t d ρ fun ρ'=>u r ρ' Q
 | []=>False
theorem oK:wR X [] jk:=by
 refine⟨_,Ku,fun ρ σ G0 H0 G H ds vs Q P E r h k=>?_⟩;unfold jk at h;split at h
 ·cases vs with
  | nil=>exact⟨rfl,k _ _ G H E (.refl E.e.s) h⟩
  | cons=>simp only[bD] at r
 ·exact h.elim
theorem i8{e:Expr}{es:List Expr}{t:i5}{u:nz}(h1:qO X e t)(h2:wR X es u)(hs:(assignEach (e::es) X.env).map (·.2)=assign e X.env::(assignEach es X.env).map (·.2):=by rfl):wR X (e::es) (gn t u):=by
 obtain⟨t1,p1,q1⟩:=h1;obtain⟨t2,p2,q2⟩:=h2;refine⟨_,LX p1 p2 hs,fun ρ σ G0 H0 G H ds vs Q P E r h k=>?_⟩;unfold gn at h;split at h
 ·cases vs with
  | nil=>simp only[bD] at r
  | cons v vs=>
   simp only[bD] at r;refine⟨v,vs,rfl,q1 ρ σ G0 H0 G H _ v _ _ E r.1 h fun ρ' bY G' H' E' x hq=>?_⟩;exact q2 ρ' bY G0 H0 G' H' _ vs Q P E' (r.2.mono x.g) hq fun ee i7 G2 H2 E2 x2 ig=>k ee i7 G2 H2 E2 (x.trans x2) ig
 ·exact h.elim
def kc(n:Nat)(t:nz):i5:=fun d ρ Q=>match d with
 | .tup ds=>ds.length=n/\t ds ρ Q
 | _=>False
theorem oM{es:List Expr}{k:Nat}{t:nz}{n:Nat}(hc:X.calm=true)(h:wR X es t)(hn:(assignEach es X.env).length=n:=by rfl)(fE:(assignEach es X.env).findIdx? (·.1)=none:=by rfl):qO X (.Tuple es k pos) (kc n t):=by
 obtain⟨t1,p1,q1⟩:=h;refine⟨_,IM hc p1 hn fE,fun ρ σ G0 H0 G H d v Q P E r h k=>?_⟩;unfold kc at h;split at h
 ·simp only[Rep] at r;obtain⟨a,xs,rfl,hq,rs⟩:=r;exact⟨a,xs,rfl,E.e.s.jQ hq,by rw[rs.length];exact h.1,q1 ρ σ G0 H0 G H _ xs Q P E rs h.2 k⟩
 ·exact h.elim
def mL(K:PySem.W.Frag)(J:It)(G:Hp)(ds:List D):Prop:=
 (∀i d G' H',ds[i]?=some d->bM G G'->bM G' H'->J.go i H'/\∀v H2,J.xO i H' v H2->∃G2,Ext G' H' G2 H2/\Rep K G2 v d)/\∀G' H',bM G G'->bM G' H'->J.stop ds.length H'
noncomputable abbrev i4:=Ev->(List D->Prop)->Prop
def PId(X:Cx)(tg iter:Expr)(wi:i4):Prop:=∃ww,PI X tg iter ww/\∀(ρ:Ev) (σ:St) (G0 H0 G H:Hp) (Q:List D->Prop) (P:It->Hp->Prop),cJ X.K G0 H0 ρ σ G H->wi ρ Q->
 (∀J H' ds G',Ext G H G' H'->mL X.K J G' ds->Q ds->P J H')->ww σ H P
def zh(d:D)(Q:List D->Prop):Prop:=match d with
 | .lst ds=>Q ds
 | .tup ds=>Q ds
 | .str z=>Q (z.cps.toList.map fun c=>.str ⟨#[c]⟩)
 | _=>False
def lb(te:TD):i4:=fun ρ Q=>te ρ fun r=>zh r.val Q
theorem Mz{K:PySem.W.Frag}{G:Hp}{a:Addr}{xs:List V}{ds:List D}(h:iR K G a xs)(r:bD K G xs ds):mL K (Cs K a) G ds:=by
 refine⟨fun i d G' H' hd s1 s2=>?_,fun G' H' s1 s2=>⟨xs,(s2.gi (s1.gi h)).sq,by rw[r.length];exact az _⟩⟩;obtain⟨v,hv,rv⟩:=r.get hd;have hs:eW K H' a xs:=(s2.gi (s1.gi h)).sq;refine⟨⟨xs,v,hs,hv⟩,fun u H2 hy=>?_⟩;obtain⟨e,y⟩:=hy;subst e;have:=y xs hs;rw[hv] at this;cases this;exact⟨G',.refl s2,rv.mono s1⟩
theorem K8{K:PySem.W.Frag}{G:Hp}{a:Addr}{xs:List V}{ds:List D}(h:et K G a xs)(r:bD K G xs ds):mL K (Cr K a) G ds:=by
 refine⟨fun i d G' H' hd s1 s2=>?_,fun G' H' s1 s2=>⟨xs,s2.nO (s1.nO h),by rw[r.length];exact az _⟩⟩;obtain⟨v,hv,rv⟩:=r.get hd;have hs:et K H' a xs:=s2.nO (s1.nO h);refine⟨⟨xs,v,hs,hv⟩,fun u H2 hy=>?_⟩;obtain⟨e,y⟩:=hy;subst e;have:=y xs hs;rw[hv] at this;cases this;exact⟨G',.refl s2,rv.mono s1⟩
theorem K7{K:PySem.W.Frag}{G:Hp}(z:Str):mL K (yp z) G (z.cps.toList.map fun c=>.str ⟨#[c]⟩):=by
 refine⟨fun i d G' H' hd s1 s2=>?_,fun G' H' s1 s2=>?_⟩
 ·rw[aj] at hd;cases e:z.cps.toList[i]? with
  | none=>rw[e] at hd;cases hd
  | some c=>
   rw[e] at hd;cases hd;have hc:z.cps[i]?=some c:=by simpa using e
   refine⟨(Array.getElem?_eq_some_iff.mp hc).1,fun v H2 hy=>?_⟩;obtain⟨e2,c',n5,rfl⟩:=hy;subst e2;rw[hc] at n5;cases n5;exact⟨G',.refl s2,pY _ _ _⟩
 ·show _=_;simp
theorem M0{K:PySem.W.Frag}{G:Hp}(lo:Int)(n:Nat):mL K (yq lo n) G ((List.range n).map fun(i:Nat)=>.int (lo+i)):=by
 refine⟨fun i d G' H' hd s1 s2=>?_,fun G' H' s1 s2=>?_⟩
 ·rw[aj] at hd;cases e:(List.range n)[i]? with
  | none=>rw[e] at hd;cases hd
  | some c=>
   rw[e] at hd;cases hd;obtain⟨h1,h2⟩:=ai.mp e;have h3:i<n:=by simpa using h1
   have h4:c=i:=by rw[<-h2];simp
   subst h4;refine⟨h3,fun v H2 hy=>?_⟩;obtain⟨e2,rfl⟩:=hy;subst e2;exact⟨G',.refl s2,i9 _ _ _⟩
 ·show n<=_;simp
noncomputable def oD(ds:List D):List D:=ds.mapIdx fun i d=>.tup [.int (i:Nat),d]
theorem Ez{K:PySem.W.Frag}{G:Hp}{t:Addr}{x y:V}{d e:D}(s1:G t=some (.tup [x,y]))(r1:Rep K G x d)(r2:Rep K G y e):Rep K G (.ref t) (.tup [d,e]):=by
 simp only[Rep];exact⟨t,[x,y],rfl,s1,bD.cons r1 (bD.cons r2 bD.nil)⟩
theorem My{K:PySem.W.Frag}{G:Hp}{a:Addr}{xs:List V}{ds:List D}(h:iR K G a xs)(r:bD K G xs ds):mL K (Ct K a) G (oD ds):=by
 refine⟨fun i d G' H' hd s1 s2=>?_,fun G' H' s1 s2=>⟨xs,(s2.gi (s1.gi h)).sq,by rw[r.length];simp[oD]⟩⟩;unfold oD at hd;rw[List.getElem?_mapIdx] at hd;cases e:ds[i]? with
 | none=>rw[e] at hd;cases hd
 | some d'=>
  rw[e] at hd;cases hd;obtain⟨v,hv,rv⟩:=r.get e;have hs:eW K H' a xs:=(s2.gi (s1.gi h)).sq;refine⟨⟨xs,v,hs,hv⟩,fun u H2 hy=>?_⟩;obtain⟨t,rfl,ht,y⟩:=hy;obtain⟨x,hx,rfl⟩:=y xs hs;rw[hv] at hx;cases hx;have x2:Ext G' H' (upd G' t (.tup [.int i,v])) (upd H' t (.tup [.int i,v])):=.new s2 ht;exact⟨_,x2,Ez fP (i9 _ _ _) ((rv.mono s1).mono x2.g)⟩
theorem mS{l:Expr}{te:TD}(h:PD X l te):PId X tg l (lb te):=by
 obtain⟨t,p,q⟩:=h;refine⟨_,Jh p,fun ρ σ G0 H0 G H Q P E h k=>q ρ σ G0 H0 G H _ _ E h fun v H' r G' x rr hq=>?_⟩;obtain⟨G2,x2,rv,_⟩:=rr.freeze x;unfold zh at hq;split at hq
 ·rename_i ds e;rw[e] at rv;simp only[Rep] at rv;obtain⟨a,xs,rfl,h1,h2⟩:=rv;exact .inl ⟨a,rfl,⟨xs,(x2.s.gi h1).sq⟩,k _ H' _ G2 x2 (Mz h1 h2) hq⟩
 ·rename_i ds e;rw[e] at rv;simp only[Rep] at rv;obtain⟨a,xs,rfl,h1,h2⟩:=rv;exact .inr (.inl ⟨a,rfl,⟨xs,x2.s.jQ h1⟩,k _ H' _ G2 x2 (K8 (et.of h1) h2) hq⟩)
 ·rename_i z e;rw[e] at rv;simp only[Rep] at rv;exact .inr (.inr ⟨z,rv,k _ H' _ G2 x2 (K7 z) hq⟩)
 ·exact hq.elim
def oC(ts:iw):i4:=fun ρ Q=>ts ρ fun ds=>match ds with
 | [.int j]=>-(2 ^ 62)<=j/\j<2 ^ 62/\Q ((List.range j.toNat).map fun(i:Nat)=>.int (0+i))
 | _=>False
theorem lp{K:PySem.W.Frag}{G:Hp}{vs:List V}{d:D}(h:bD K G vs [d]):∃v,vs=[v]/\Rep K G v d:=by
 match vs,h with
 | [],h=>simp only[bD] at h
 | [v],h=>simp only[bD] at h;exact⟨v,rfl,h.1⟩
 | v::w::r,h=>simp only[bD] at h;exact absurd h.2 (by simp)
theorem yN{K:PySem.W.Frag}{G:Hp}{vs:List V}{d e:D}(h:bD K G vs [d,e]):∃v w,vs=[v,w]/\Rep K G v d/\Rep K G w e:=by
 match vs,h with
 | [],h=>simp only[bD] at h
 | v::r,h=>
  simp only[bD] at h;obtain⟨w,rfl,hw⟩:=lp h.2;exact⟨v,w,rfl,h.1,hw⟩
theorem qf{a:Expr}{ts:iw}{p:Pos}(hm:X.mg "range"=none)(ha:lW X [a] ts)(hg:Gl X "range":=by rfl)(hs:starEach [a] X.env=[(false,eval a X.env)]:=by rfl):PId X tg (.Call (.Name "range" p) [a] [] pos) (oC ts):=by
 obtain⟨t,pp,q⟩:=ha;refine⟨_,Mp hg hm pp hs,fun ρ σ G0 H0 G H Q P E h k=>q ρ σ G0 H0 G H _ _ E h fun vs H' ds G' x rs hq=>?_⟩;split at hq
 ·obtain⟨v,rfl,rv⟩:=lp rs;simp only[Rep] at rv;subst rv;exact⟨_,rfl,hq.1,hq.2.1,k _ H' _ G' x (M0 0 _) hq.2.2⟩
 ·exact hq.elim
def sQ(ts:iw):i4:=fun ρ Q=>ts ρ fun ds=>match ds with
 | [.lst es]=>Q (oD es)
 | _=>False
theorem xD{a:Expr}{ts:iw}{p tp:Pos}{elts:List Expr}{x1:Nat}(hm:X.mg "enumerate"=none)(ha:lW X [a] ts)(hg:Gl X "enumerate":=by rfl)(hs:starEach [a] X.env=[(false,eval a X.env)]:=by rfl):PId X (.Tuple elts x1 tp) (.Call (.Name "enumerate" p) [a] [] pos) (sQ ts):=by
 obtain⟨t,pp,q⟩:=ha;refine⟨_,Kj hg hm pp hs,fun ρ σ G0 H0 G H Q P E h k=>q ρ σ G0 H0 G H _ _ E h fun vs H' ds G' x rs hq=>?_⟩;split at hq
 ·obtain⟨v,rfl,rv⟩:=lp rs;simp only[Rep] at rv;obtain⟨a,xs,rfl,h1,h2⟩:=rv;exact⟨a,xs,rfl,x.s.gi h1,k _ H' _ G' x (My h1 h2) hq⟩
 ·exact hq.elim
def jj(wi:i4)(g:i5)(tb:TX):TX:=fun D ρ=>wi ρ fun ds=>∃Iv:Nat->Ev->Prop,Iv 0 ρ/\
 (∀i d ρ',ds[i]?=some d->Iv i ρ'->g d ρ' fun ee=>tb { D with nx:=Iv (i+1),ct:=Iv (i+1),bk:=D.nx } ee)/\∀ρ',Iv ds.length ρ'->D.nx ρ'
theorem kH{iter:Expr}{body:List Stmt}{wi:i4}{g:i5}{tb:TX}(hp:PassesOwn (model X.prog X.w) X.A X.env X.xe)(hc:X.calm=true)(hi:PId X tg iter wi)(hg:qO X tg g)(hb:kX X body tb)
  (hs:∀x,foldedSetIterable iter X.env x=pure x:=by intro _;rfl):PX X (.For tg iter body [] pos) (jj wi g tb):=by
 obtain⟨t1,p1,q1⟩:=hi;obtain⟨t2,p2,q2⟩:=hg;obtain⟨t3,p3,q3⟩:=hb;refine⟨_,II hp hc p1 p2 p3 hs,fun ρ σ G0 H0 G H D E k h gg=>q1 ρ σ G0 H0 G H _ _ k h fun J H1 ds G1 x1 wk hq=>?_⟩;obtain⟨Iv,i0,turn,fin⟩:=hq;refine⟨fun i m bY H'=>m=ds.length-i/\i<=ds.length/\∃ρ' G',cJ X.K G0 H0 ρ' bY G' H'/\bM G1 G'/\Iv i ρ',⟨ds.length,by simp,bc _,ρ,G1,k.ext x1,bM.refl _,i0⟩,?_⟩;rintro i m bY H' ⟨rfl,hi,ρ',G',k',s',iv⟩;by_cases gf:i<ds.length
 ·obtain⟨w1,w2⟩:=wk;obtain⟨go,yl⟩:=w1 i ds[i] G' H' (ae gf) s' k'.e.s;refine .inr ⟨go,fun i7 H2=>∃ee G2,cJ X.K G0 H0 ee i7 G2 H2/\bM G1 G2/\Iv (i+1) ee,fun i7 H2 ⟨ee,G2,k2,s2,Pc⟩=>⟨ds.length-(i+1),by omega,rfl,gf,ee,G2,k2,s2,Pc⟩,fun v H2 hy=>?_⟩;obtain⟨G2,x2,rv⟩:=yl v H2 hy;refine q2 ρ' bY G0 H0 G2 H2 ds[i] v _ _ (k'.ext x2) rv (turn i ds[i] ρ' (ae gf) iv) fun o3 jh G3 H3 k3 x3 eh=>?_
  have s3:bM G1 G3:=(s'.trans x2.g).trans x3.g;refine q3 o3 jh G0 H0 G3 H3 _ _ k3 eh ⟨fun nu mK G4 H4 s4 k4 h4=>⟨nu,G4,k4,s3.trans s4,h4⟩,gg.rt,fun nu mK G4 H4 s4 k4 h4=>gg.nx nu mK G4 H4 ((x1.g.trans s3).trans s4) k4 h4,fun nu mK G4 H4 s4 k4 h4=>⟨nu,G4,k4,s3.trans s4,h4⟩⟩
 ·have e:i=ds.length:=by omega
  subst e;exact .inl ⟨wk.2 G' H' s' k'.e.s,gg.nx ρ' bY G' H' (x1.g.trans s') k' (fin ρ' iv)⟩
def Ds(c:gU)(tb:TX):TX:=fun D ρ=>∃W:Nat->Ev->Prop,(∃m,W m ρ)/\∀m ρ',W m ρ'->c ρ' fun b=>if b=true then tb { D with nx:=fun ee=>∃m',m'<m/\W m' ee,ct:=fun ee=>∃m',m'<m/\W m' ee,bk:=D.nx } ρ' else D.nx ρ'
theorem K6{c:Expr}{body:List Stmt}{tc:gU}{tb:TX}(hp:PassesOwn (model X.prog X.w) X.A X.env X.xe)(hc:PB X c tc)(hb:kX X body tb):PX X (.While c body [] pos) (Ds tc tb):=by
 obtain⟨t1,p1,q1⟩:=hc;obtain⟨t3,p3,q3⟩:=hb;refine⟨_,Me hp p1 p3,fun ρ σ G0 H0 G H D E k h gg=>?_⟩;obtain⟨W,⟨m0,w0⟩,turn⟩:=h;refine⟨fun m bY H'=>∃ρ' G',cJ X.K G0 H0 ρ' bY G' H'/\bM G G'/\W m ρ',⟨m0,ρ,G,k,bM.refl _,w0⟩,?_⟩;rintro m bY H' ⟨ρ',G',k',s',wm⟩;refine q1 ρ' bY G0 H0 G' H' _ _ k' (turn m ρ' wm) fun b H2 G2 x2 hq=>?_
 cases b with
 | true=>
  rw[if_pos rfl] at hq ⊢;refine⟨fun i7 H2=>∃m',m'<m/\∃ee G2,cJ X.K G0 H0 ee i7 G2 H2/\bM G G2/\W m' ee,fun i7 H2 h2=>h2,?_⟩;have s2:bM G G2:=s'.trans x2.g;exact q3 ρ' bY G0 H0 G2 H2 _ _ (k'.ext x2) hq ⟨fun nu mK G4 H4 s4 k4 bQ=>by obtain⟨m',hm,h4⟩:=bQ;exact⟨m',hm,nu,G4,k4,s2.trans s4,h4⟩,gg.rt,fun nu mK G4 H4 s4 k4 h4=>gg.nx nu mK G4 H4 (s2.trans s4) k4 h4,fun nu mK G4 H4 s4 k4 bQ=>by obtain⟨m',hm,h4⟩:=bQ;exact⟨m',hm,nu,G4,k4,s2.trans s4,h4⟩⟩
 | false=>
  rw[if_neg ax] at hq ⊢;exact gg.nx ρ' bY G2 H2 (s'.trans x2.g) (k'.ext x2) hq
end
end L2
namespace L2
open PySem PySem.Spec PyProof.Rows
noncomputable def oz(ρ:Ev):Option Nat->Sl
 | none=>.un
 | some j=>match gt ρ j with
  | .fz d=>.fz d
  | _=>.un
noncomputable def ff(m:List (Option Nat))(ρ:Ev):Ev:=m.map (oz ρ)
theorem oF{m:List (Option Nat)}{ρ:Ev}{i:Nat}:gt (m.map (oz ρ)) i=match m[i]? with
  | some o=>oz ρ o
  | none=>.un:=by
 induction m generalizing i with
 | nil=>simp[gt]
 | cons a r ih=>
  cases i with
  | zero=>simp[gt]
  | succ i=>simp only[ao,gt,List.getElem?_cons_succ];exact ih
def oE(m:List (Option Nat))(g:i5):Prop:=∀d ρ Q,g d ρ Q->g d ρ fun ee=>Q ee/\ee.length=ρ.length/\∀j c,m[j]?=some (some c)->gt ee j=gt ρ j
def xA(m:List (Option Nat))(g:nz):Prop:=∀ds ρ Q,g ds ρ Q->g ds ρ fun ee=>Q ee/\ee.length=ρ.length/\∀j c,m[j]?=some (some c)->gt ee j=gt ρ j
theorem lD{m:List (Option Nat)}{i:Nat}(h:m[i]?=some none:=by rfl):oE m (dZ i):=fun d ρ Q q=>by
 refine⟨q,by simp,fun j c hj=>?_⟩;rw[pX,if_neg];rintro⟨e,_⟩;subst e;rw[h] at hj;cases hj
theorem K5{m:List (Option Nat)}:xA m jk:=fun ds ρ Q q=>by
 unfold jk at q ⊢;split at q
 ·exact⟨q,rfl,fun _ _ _=>rfl⟩
 ·exact q.elim
theorem EX{m:List (Option Nat)}{t:i5}{u:nz}(mono:∀d ρ (Q Q':Ev->Prop),(∀ρ',Q ρ'->Q' ρ')->t d ρ Q->t d ρ Q')(nU:∀d ρ (Q Q':Ev->Prop),(∀ρ',Q ρ'->Q' ρ')->u d ρ Q->u d ρ Q')(h1:oE m t)(h2:xA m u):xA m (gn t u):=fun ds ρ Q q=>by
 unfold gn at q ⊢;split at q
 ·refine mono _ _ _ _ (fun ρ' bQ=>?_) (h1 _ _ _ q);obtain⟨q',l',k'⟩:=bQ;exact nU _ _ _ _ (fun ee bQ=>by obtain⟨q2,l2,k2⟩:=bQ;exact⟨q2,l2.trans l',fun j c hj=>(k2 j c hj).trans (k' j c hj)⟩) (h2 _ _ _ q')
 ·exact q.elim
theorem K4{m:List (Option Nat)}{n:Nat}{u:nz}(h2:xA m u):oE m (kc n u):=fun d ρ Q q=>by
 unfold kc at q ⊢;split at q
 ·exact⟨q.1,h2 _ _ _ q.2⟩
 ·exact q.elim
theorem z9{i:Nat}:∀d ρ (Q Q':Ev->Prop),(∀ρ',Q ρ'->Q' ρ')->dZ i d ρ Q->dZ i d ρ Q':=fun _ _ _ _ h q=>h _ q
theorem EN:∀d ρ (Q Q':Ev->Prop),(∀ρ',Q ρ'->Q' ρ')->jk d ρ Q->jk d ρ Q':=fun _ _ _ _ h q=>by
 unfold jk at q ⊢;split at q
 ·exact h _ q
 ·exact q.elim
theorem Mx{t:i5}{u:nz}(mono:∀d ρ (Q Q':Ev->Prop),(∀ρ',Q ρ'->Q' ρ')->t d ρ Q->t d ρ Q')(nU:∀d ρ (Q Q':Ev->Prop),(∀ρ',Q ρ'->Q' ρ')->u d ρ Q->u d ρ Q'):∀d ρ (Q Q':Ev->Prop),(∀ρ',Q ρ'->Q' ρ')->gn t u d ρ Q->gn t u d ρ Q':=fun _ _ _ _ h q=>by
 unfold gn at q ⊢;split at q
 ·exact mono _ _ _ _ (fun ρ' q'=>nU _ _ _ _ h q') q
 ·exact q.elim
theorem z8{m:List (Option Nat)}{i j n:Nat}(h:m[i]?=some none:=by rfl)(h':m[j]?=some none:=by rfl):oE m (kc n (gn (dZ i) (gn (dZ j) jk))):=
 K4 (EX z9 (Mx z9 EN) (lD h) (EX z9 EN (lD h') K5))
def t6(X:Cx)(ifs:List Expr)(t:gU):Prop:=∃tt,t5 X ifs tt/\∀(ρ:Ev) (σ:St) (G0 H0 G H:Hp) (Q:Bool->Prop) (P:Bool->Hp->Prop),cJ X.K G0 H0 ρ σ G H->t ρ Q->
 (∀b H' G',Ext G H G' H'->Q b->P b H')->tt σ H P
def ji:gU:=fun _ Q=>Q true
theorem lq{X:Cx}:t6 X [] ji:=⟨_,Kl,fun ρ σ G0 H0 G H Q P E h k=>k true H G (.refl E.e.s) h⟩
theorem Kh{X:Cx}{c:Expr}{t:gU}(h:PB X c t):t6 X [c] t:=let⟨tt,p,q⟩:=h;⟨tt,Kk p,q⟩
def jn(wi:i4)(m:List (Option Nat))(g:i5)(tc:gU)(te:TD):TD:=fun ρ Q=>wi ρ fun ds=>∃Iv:Nat->List D->Prop,Iv 0 []/\
 (∀i d acc,ds[i]?=some d->Iv i acc->g d (ff m ρ) fun ee=>tc ee fun b=>if b=true then te ee fun r=>acc.length<sizeLine/\Iv (i+1) (acc++[r.val]) else Iv (i+1) acc)/\∀acc,Iv ds.length acc->Q (.ow acc)
section
variable {X:Cx} {elt iter tg:Expr} {ifs:List Expr} {scope:Scope} {pos:Pos} {N':List Str} {m:List (Option Nat)} {wi:i4} {g:i5} {tc:gU} {te:TD}
theorem D8(cs:ck X N' m scope)(hk:oE m g){ww:TI}{gg:nq TG}{vh:nq TT}{tee:nq TE}
  (q1:∀(ρ:Ev) (σ:St) (G0 H0 G H:Hp) (Q:List D->Prop) (P:It->Hp->Prop),cJ X.K G0 H0 ρ σ G H->wi ρ Q->(∀J H' ds G',Ext G H G' H'->mL X.K J G' ds->Q ds->P J H')->ww σ H P)
  (q2:∀s3 H3 ex (ρ:Ev) (σ:St) (G0 H0 G H:Hp) (d:D) (v:V) (Q:Ev->Prop) (P:St->Hp->Prop),cJ X.K G0 H0 ρ σ G H->Rep X.K G v d->g d ρ Q->(∀ρ' bY G' H',cJ X.K G0 H0 ρ' bY G' H'->Ext G H G' H'->Q ρ'->P bY H')->gg s3 H3 ex v σ H P)
  (q3:∀s3 H3 ex (ρ:Ev) (σ:St) (G0 H0 G H:Hp) (Q:Bool->Prop) (P:Bool->Hp->Prop),cJ X.K G0 H0 ρ σ G H->tc ρ Q->(∀b H' G',Ext G H G' H'->Q b->P b H')->vh s3 H3 ex σ H P)
  (q4:∀s3 H3 ex,nr X.K te (tee s3 H3 ex)):nr X.K (jn wi m g tc te) (uq ww m gg vh tee):=by
 refine fun ρ σ G0 H0 G H Q P E h k=>q1 ρ σ G0 H0 G H _ _ E h fun J H1 ds G1 x1 wk hq=>?_
 obtain⟨Iv,i0,turn,fin⟩:=hq;intro D hD s3 ex;have E1:=E.ext x1;have B4:G1 D=none:=x1.s.free hD;have gX:∀{i:Nat} {es:List L2.D},gt (ff m ρ) i=.ow es->False:=fun{i es} h=>by
  unfold ff at h;rw[oF] at h;split at h
  ·rename_i o _;unfold oz at h;split at h
   ·cases h
   ·split at h<;>cases h
  ·cases h
 have nS:∀{i:Nat} {o:OV},gt (ff m ρ) i=.ov o->False:=fun{i o} h=>by
  unfold ff at h;rw[oF] at h;split at h
  ·rename_i o _;unfold oz at h;split at h
   ·cases h
   ·split at h<;>cases h
  ·cases h
 have start:cJ X.K G1 H1 (ff m ρ) (lL m σ) G1 (upd H1 D (.lst [])):=by
  refine⟨.own x1.s hD,by simp[lL,ff],fun i d h=>?_,fun i es h=>(gX h).elim,fun i j es fs _ h=>(gX h).elim,fun _=>none,fun i es _ h=>(gX h).elim,fun i o h=>(nS h).elim⟩;unfold ff at h;rw[oF] at h;split at h
  ·rename_i o ho;unfold oz at h;split at h
   ·cases h
   ·rename_i j;split at h
    ·rename_i d' vY;cases h;obtain⟨v,hv,rv⟩:=E1.fz j d vY;refine⟨v,?_,rv⟩;unfold lL;rw[aj,ho];simp[hv]
    ·cases h
  ·cases h
 refine⟨fun i n bY H'=>n=ds.length-i/\i<=ds.length/\∃acc xs G',cJ X.K G1 H1 (ff m ρ) bY G' H'/\H' D=some (.lst xs)/\G' D=none/\bD X.K G' xs acc/\Iv i acc,
  ⟨ds.length,by simp,bc _,[],[],G1,start,fP,B4,bD.nil,i0⟩,?_⟩
 rintro i n bY H' ⟨rfl,hi,acc,xs,G',E',hx,vV,rx,iv⟩;by_cases gf:i<ds.length
 ·obtain⟨w1,w2⟩:=wk;obtain⟨go,yl⟩:=w1 i ds[i] G' H' (ae gf) E'.e.g E'.e.s;refine .inr ⟨go,fun i7 H2=>∃acc xs G',cJ X.K G1 H1 (ff m ρ) i7 G' H2/\H2 D=some (.lst xs)/\G' D=none/\bD X.K G' xs acc/\Iv (i+1) acc,fun i7 H2 h2=>⟨ds.length-(i+1),by omega,rfl,gf,h2⟩,fun v H2 hy=>?_⟩;obtain⟨G2,x2,rv⟩:=yl v H2 hy;refine q2 _ _ _ (ff m ρ) bY G1 H1 G2 H2 ds[i] v _ _ (E'.ext x2) rv (hk _ _ _ (turn i ds[i] acc (ae gf) iv)) fun o3 jh G3 H3 E3 x3 eh=>?_
  obtain⟨eh,BJ,BM⟩:=eh;have weak:∀j,gt (ff m ρ) j=.un\/gt (ff m ρ) j=gt o3 j:=fun j=>by
   cases hm:m[j]? with
   | none=>left;unfold ff;rw[oF,hm]
   | some o=>
    cases o with
    | none=>left;unfold ff;rw[oF,hm];rfl
    | some c=>right;exact(BM j c hm).symm
  have AI:=x2.trans x3;refine q3 _ _ _ o3 jh G1 H1 G3 H3 _ _ E3 eh fun b H4 G4 x4 pC=>?_
  have jo:=AI.trans x4;have E4:=(E3.ext x4).weak (ρ':=ff m ρ) (BJ.symm) weak;have qz:H4 D=some (.lst xs):=jo.h _ _ hx;have vU:G4 D=none:=jo.n D vV (by rw[hx];exact nofun);cases b with
  | false=>
   rw[if_neg ax] at pC ⊢;exact⟨acc,xs,G4,E4,qz,vU,rx.mono jo.g,pC⟩
  | true=>
   rw[if_pos rfl] at pC ⊢;refine q4 _ _ _ o3 jh G1 H1 G4 H4 _ _ (E3.ext x4) pC fun v5 H5 r5 G5 x5 rK iP=>?_
   obtain⟨G6,x6,rJ,_⟩:=rK.freeze x5;have E6:=E4.ext x6;have Bo:H5 D=some (.lst xs):=x6.h _ _ qz;have vT:G6 D=none:=x6.n D vU (by rw[qz];exact nofun);have r6:bD X.K G6 xs acc:=(rx.mono jo.g).mono x6.g;refine⟨xs,Bo,by rw[r6.length];exact iP.1,acc++[r5.val],xs++[v5],G6,?_,fP,vT,r6.append (bD.cons rJ bD.nil),iP.2⟩;refine⟨⟨E6.e.g,fun b o e=>by rw[cM (iN e hD)];exact E6.e.h b o e,fun b o e=>by rw[cM (iN e vT)];exact E6.e.s b o e,E6.e.n⟩,E6.len,E6.fz,fun i es h=>(gX h).elim,fun i j es fs _ h=>(gX h).elim,fun _=>none,fun i es _ h=>(gX h).elim,fun i o h=>(nS h).elim⟩
 ·have e:i=ds.length:=by omega
  subst e;refine .inl ⟨wk.2 G' H' E'.e.g E'.e.s,k _ H' (.ow acc) G' (x1.trans E'.e) ⟨D,xs,rfl,x1.h.free hD,vV,hx,rx⟩ (fin acc iv)⟩
theorem mR(hc:X.calm=true)(cs:ck X N' m scope)(hk:oE m g)(hi:PId X tg iter wi)(hg:∀s3 H3 ex,qO (gT X N' scope s3 H3 ex) tg g)(ht:∀s3 H3 ex,t6 (gT X N' scope s3 H3 ex) ifs tc)
  (he:∀s3 H3 ex,PD (gT X N' scope s3 H3 ex) elt te) (hs:∀x,foldedSetIterable iter X.env x=pure x:=by intro _;rfl):PD X (.ListComp elt [⟨tg,iter,ifs,0⟩] scope pos) (jn wi m g tc te):=by
 obtain⟨ww,p1,q1⟩:=hi;exact⟨_,DW (g:=fun s3 H3 ex=>(hg s3 H3 ex).choose) (tc:=fun s3 H3 ex=>(ht s3 H3 ex).choose) (te:=fun s3 H3 ex=>(he s3 H3 ex).choose) hc cs p1 (fun s3 H3 ex=>(hg s3 H3 ex).choose_spec.1) (fun s3 H3 ex=>(ht s3 H3 ex).choose_spec.1) (fun s3 H3 ex=>(he s3 H3 ex).choose_spec.1) hs,
  D8 cs hk q1 (fun s3 H3 ex=>(hg s3 H3 ex).choose_spec.2) (fun s3 H3 ex=>(ht s3 H3 ex).choose_spec.2) (fun s3 H3 ex=>(he s3 H3 ex).choose_spec.2)⟩
theorem K3(i:Nat){x:Str}{pos' jT:Pos}(hc:X.calm=true)(cs:ck X N' m scope)(hk:oE m g)(hi:PId X tg iter wi)(hg:∀s3 H3 ex,qO (gT X N' scope s3 H3 ex) tg g)(ht:∀s3 H3 ex,t6 (gT X N' scope s3 H3 ex) ifs tc)
  (he:∀s3 H3 ex,PD (gT X N' scope s3 H3 ex) elt te) (hN:X.N.Nodup:=by assumption) (oQ:X.N[i]?=some x:=by rfl) (hx:Loc X.env.scope x:=by first | exact Or.inl rfl | exact Or.inr rfl) (hs:∀x,foldedSetIterable iter X.env x=pure x:=by intro _;rfl)
  (vG:swapsWith (.ListComp elt [⟨tg,iter,ifs,0⟩] scope pos) (some (.Name x pos')) jT.line X.env=pure true:=by rfl)
  (hf:X.fn x=true\/X.env.scope.names.lookup x=some .local:=by first | exact .inl rfl | exact .inr rfl | assumption) :
  PX X (.Assign [.Name x pos'] (.ListComp elt [⟨tg,iter,ifs,0⟩] scope pos) jT) (eI i (jn wi m g tc te)):=by
 obtain⟨ww,p1,q1⟩:=hi;refine⟨_,DV (g:=fun s3 H3 ex=>(hg s3 H3 ex).choose) (tc:=fun s3 H3 ex=>(ht s3 H3 ex).choose) (te:=fun s3 H3 ex=>(he s3 H3 ex).choose) hN oQ hx hc cs p1 (fun s3 H3 ex=>(hg s3 H3 ex).choose_spec.1) (fun s3 H3 ex=>(ht s3 H3 ex).choose_spec.1) (fun s3 H3 ex=>(he s3 H3 ex).choose_spec.1) hs vG hf,fun ρ σ G0 H0 G H D E k h gg=>?_⟩;refine D8 cs hk q1 (fun s3 H3 ex=>(hg s3 H3 ex).choose_spec.2) (fun s3 H3 ex=>(ht s3 H3 ex).choose_spec.2) (fun s3 H3 ex=>(he s3 H3 ex).choose_spec.2) ρ σ G0 H0 G H _ _ k h fun v H' r G' x rr hq=>?_
 obtain⟨G2,x2,rv,_⟩:=rr.freeze x;exact gg.nx _ _ G2 H' x2.g (k.put x2 (r:=.fz r.val) rv) hq
end
noncomputable abbrev eX:=List D->(R->Prop)->Prop
def t7(K:PySem.W.Frag)(n:Nat)(t:eX):Sp:=fun vs H Q _=>∃G ds Qr,bM G H/\bD K G vs ds/\ds.length=n/\t ds Qr/\∀v H' r G',Ext G H G' H'->di K G' H' H v r->Qr r->Q v H'
noncomputable def gm(N:List Str)(ds:List D):Ev:=ds.map Sl.fz++List.replicate (N.length-ds.length) .un
theorem NA{ds:List D}{l:List Sl}{i:Nat}{s:Sl}(h:gt (ds.map Sl.fz++l) i=s):(∃d,ds[i]?=some d/\s=.fz d)\/(ds.length<=i/\gt l (i-ds.length)=s):=by
 induction ds generalizing i with
 | nil=>exact .inr ⟨bc _,by simpa using h⟩
 | cons d ds ih=>
  cases i with
  | zero=>simp only[ao,List.cons_append,gt] at h;exact .inl ⟨d,rfl,h.symm⟩
  | succ i=>
   simp only[ao,List.cons_append,gt] at h;rcases ih h with⟨e,h1,h2⟩ | ⟨h1,h2⟩
   ·exact .inl ⟨e,by simpa using h1,h2⟩
   ·refine .inr ⟨by simp;omega,?_⟩;rw[aA];rw[show i+1-(ds.length+1)=i-ds.length by omega];exact h2
theorem Mw{n i:Nat}:gt (List.replicate n Sl.un) i=.un:=by
 induction n generalizing i with
 | zero=>simp[gt]
 | succ n ih=>
  cases i with
  | zero=>rfl
  | succ i=>exact ih
theorem EM{K:PySem.W.Frag}{G H:Hp}{N:List Str}{vs:List V}{ds:List D}(s:bM G H)(r:bD K G vs ds):cJ K G H (gm N ds) (start N vs) G H:=by
 have hl:=r.length;have c:∀{i:Nat} {t:Sl},gt (gm N ds) i=t->t≠.un->∃d,ds[i]?=some d/\t=.fz d:=fun{i t} h n=>by
  rcases NA h with h | ⟨_,h⟩
  ·exact h
  ·rw[Mw] at h;exact absurd h.symm n
 refine⟨.refl s,by simp[start,gm,hl],fun i d h=>?_,fun i es h=>?_,fun i j es fs _ h=>?_,fun _=>none,fun i es _ h=>?_,fun i o h=>?_⟩
 ·obtain⟨d',h1,h2⟩:=c h (by simp);cases h2;obtain⟨v,hv,rv⟩:=r.get h1;have hi:i<vs.length:=(ai.mp hv).1;refine⟨v,?_,rv⟩;unfold start;rw[List.getElem?_append_left (by simpa using hi),aj,hv];rfl
 ·obtain⟨d',h1,h2⟩:=c h (by simp);cases h2
 ·obtain⟨d',h1,h2⟩:=c h (by simp);cases h2
 ·obtain⟨d',h1,h2⟩:=c h (by simp);cases h2
 ·obtain⟨d',h1,h2⟩:=c h (by simp);cases h2
section
variable {P:Program} {w:World} {K:PySem.W.Frag} {mg:Str->Option Value} {base:Heap}
theorem D7{x qual:Str}{st:Stmt}{f:Addr}{fd:FuncData}{N ps:List Str}{k:Nat}{t:eX}{T:TX}{dV:Value}(F:mH dV K x qual st f fd)(S:bP N ps (bG st))
  (body:∀(cG:Value) (A:Around) (outer:List Env) (s:Shared) (H:Hp) (E:XK),dA k (A.deeper (envOfC qual (bG st) s.heap.objs.size f cG))->kX (lY mI P w K mg base N qual (bG st) f cG A outer s H E).qp (cK st) T)
  (spec:∀(ds:List D) (Qr:R->Prop),ds.length=ps.length->t ds Qr->T { nx:=fun _=>Qr (.fz .non),rt:=Qr } (gm N ds)):g8 P w K mg base mI (k+1) f fd ps (t7 K ps.length t):=by
 refine F.ok S (fun vs H Q E h=>?_) (fun cG A outer s H vs Q E hr h=>?_)
 ·obtain⟨G,ds,Qr,_,r,hl,_⟩:=h;rw[r.length,hl]
 ·obtain⟨G,ds,Qr,s0,r,hl,ht,k0⟩:=h;obtain⟨tt,p,q⟩:=body cG A outer s H E hr;exact⟨tt,p,q _ _ G H G H _ _ (EM s0 r) (spec ds Qr hl ht) ⟨fun ρ σ G' H' _ e h=>k0 _ H' _ G' e.e (eV (zq _ _)) h,k0,fun _ _ _ _ _ _ h=>h.elim,fun _ _ _ _ _ _ h=>h.elim⟩⟩
end
section
variable {X:Cx} {k n:Nat} {f:Addr} {fd:FuncData} {ps:List Str} {t:eX} {x:Str} {p pos:Pos} {e:Expr} {es:List Expr} {ts:iw}
def fm(n:Nat)(t:eX)(ts:iw):TD:=fun ρ Q=>ts ρ fun ds=>ds.length=n/\t ds Q
theorem Kg(F:g8 X.prog X.w X.K X.mg X.base mI k f fd ps (t7 X.K n t))(hr:dA k X.A)(hm:X.mg x=some (.ref f))(hk:PySem.W.keepIn X.K (.ref f)=true)(hb:Binds X.K fd ps [])(ha:lW X (e::es) ts)(hg:Gl X x:=by rfl)(n0:(x==("__debug__":Str))=false:=by decide)
  (he:starEach (e::es) X.env=(false,eval e X.env)::starEach es X.env:=by rfl) (g4:(backTo pos (starEach es X.env)).any (·.1)=false:=by rfl):PD X (.Call (.Name x p) (e::es) [] pos) (fm n t ts):=by
 obtain⟨tt,pp,q⟩:=ha;refine⟨_,Kq F hr hg hm hk hb .nil HS pp n0 he g4,fun ρ σ G0 H0 G H Q P E h k=>q ρ σ G0 H0 G H _ _ E h fun vs H' ds G' x rs hq=>?_⟩;rw[List.append_nil];exact⟨G',ds,Q,x.s,rs,hq.1,hq.2,fun v H2 r G2 x2 rr q2=>k v H2 r G2 (x.trans x2) (rr.iA x.h) q2⟩
end
end L2
namespace L2
open PySem PySem.Spec PyProof.Rows PySem.StrLaws
noncomputable def ix{α:Type}(xs:List α)(lo hi:Option Int):List α:=(xs.drop (HT.cV xs.length 0 lo)).take (HT.cV xs.length xs.length hi-HT.cV xs.length 0 lo)
noncomputable def lh(z:Str)(lo hi:Option Int):Str:=⟨(ix z.cps.toList lo hi).toArray⟩
theorem pS(v:Int)(n d:Nat):max 0 (min (if v<0 then v+(n:Int) else v) (n:Int))=((HT.cV n d (some v):Nat):Int):=by
 rw[<-HT.jx];by_cases h:v<0
 ·rw[if_pos h,if_pos h];omega
 ·rw[if_neg h,if_neg h];omega
theorem Fq(z:Str)(lo hi:Option Int):(Builtin.Str.strSliceIndices lo hi 1 z.length).filterMap (z.cps[·]?)=ix z.cps.toList lo hi:=by
 have hl:z.cps.toList.length=z.length:=by simp[Str.length]
 have e:Builtin.Str.strSliceIndices lo hi 1 z.length=sliceRange ((HT.cV z.length 0 lo:Nat):Int) ((HT.cV z.length z.length hi:Nat):Int) 1:=by
  unfold Builtin.Str.strSliceIndices;cases lo with
  | none=>
   cases hi with
   | none=>rfl
   | some v=>simp only[show((1:Int)>0) from by decide,bC,pS v z.length z.length];rfl
  | some u=>
   cases hi with
   | none=>simp only[show((1:Int)>0) from by decide,bC,pS u z.length 0];rfl
   | some v=>simp only[show((1:Int)>0) from by decide,bC,pS v z.length z.length,pS u z.length 0]
 rw[e];unfold ix;rw[hl];generalize ha:HT.cV z.length 0 lo=a;generalize hb:HT.cV z.length z.length hi=b;have Gp:b<=z.length:=by rw[<-hb];exact HT.gV _ _ (az _) _
 have yi:a<=z.length:=by rw[<-ha];exact HT.gV _ _ (bc _) _
 by_cases jv:a<=b
 ·have:=sliced_plain z jv Gp;rw[strSliceIndices_plain jv Gp] at this;rw[<-this];unfold sliceRange;simp only[show((1:Int)>0) from by decide,bC];congr 1
  by_cases h:a<b
  ·rw[if_pos (by omega)];rw[show(((b:Int)-(a:Int)+1-1)/1).toNat=b-a by omega];apply List.map_congr_left;intro k _;show((a:Int)+1*(k:Int)).toNat=a+k;omega
  ·rw[if_neg (by omega),show b-a=0 by omega];rfl
 ·rw[show b-a=0 by omega,List.take_zero];unfold sliceRange;simp only[show((1:Int)>0) from by decide,bC];rw[if_neg (by omega)];rfl
theorem Mv(z:Str)(lo hi:Option Int):Txt.slice z lo hi=lh z lo hi:=by
 unfold Txt.slice lh;split
 ·rename_i h;have h':(Builtin.Str.strSliceIndices lo hi 1 z.length).length=z.length:=by simpa using h
  have hl:z.cps.toList.length=z.length:=by simp[Str.length]
  have e:=Fq z lo hi;have h2:(ix z.cps.toList lo hi).length=z.length:=by
   unfold ix;rw[bj,List.length_drop,hl];have e1:Builtin.Str.strSliceIndices lo hi 1 z.length=sliceRange ((HT.cV z.length 0 lo:Nat):Int) ((HT.cV z.length z.length hi:Nat):Int) 1:=by
    unfold Builtin.Str.strSliceIndices;cases lo with
    | none=>
     cases hi with
     | none=>rfl
     | some v=>simp only[show((1:Int)>0) from by decide,bC,pS v z.length z.length];rfl
    | some u=>
     cases hi with
     | none=>simp only[show((1:Int)>0) from by decide,bC,pS u z.length 0];rfl
     | some v=>simp only[show((1:Int)>0) from by decide,bC,pS v z.length z.length,pS u z.length 0]
   rw[e1] at h';unfold sliceRange at h';simp only[show((1:Int)>0) from by decide,bC,af,List.length_range] at h';have b1:=HT.gV z.length z.length (az _) hi;have b2:=HT.gV z.length 0 (bc _) lo;by_cases h3:((HT.cV z.length 0 lo:Nat):Int)<((HT.cV z.length z.length hi:Nat):Int)
   ·rw[if_pos h3] at h';omega
   ·rw[if_neg h3] at h';simp at h';omega
  apply Str.ext';show z.cps=(ix z.cps.toList lo hi).toArray;have h3:ix z.cps.toList lo hi=z.cps.toList:=by
   unfold ix at h2 ⊢;rw[bj,List.length_drop,hl] at h2;rw[hl];have b1:=HT.gV z.length z.length (az _) hi;have a0:HT.cV z.length 0 lo=0\/z.length=0:=by omega
   rcases a0 with a0 | a0
   ·rw[a0,List.drop_zero,Nat.sub_zero];exact List.take_of_length_le (by omega)
   ·have:z.cps.toList=[]:=List.eq_nil_of_length_eq_zero (by omega);rw[this];simp
  rw[h3]
 ·rw[Fq]
section
variable {X:Cx} {pos:Pos} {e:Expr} {te:TD}
theorem rG:qL X (fun x lo hi H Q=>∃z,x=.str z/\z.length<=sizeLine/\Q (.str (lh z lo hi)) H):=by
 intro pins s σ H x v vl vu lo hi sl Q I rx hs pl pu h;obtain⟨z,rfl,hz,q⟩:=h;obtain⟨t,rfl⟩:=rx;refine⟨"str",_,F.slot_str_getitem.lookup,typeIs_str _ _ _,?_⟩;have part:∀{u:Value} {o:Option Int},IsPart u o->∃p:Option (Int×Tok),u=partValue p/\p.map (·.1)=o:=fun h=>by
  cases h with
  | none=>exact⟨none,rfl,rfl⟩
  | int i t=>exact⟨some (i,t),rfl,rfl⟩
 obtain⟨p1,rfl,e1⟩:=part pl;obtain⟨p2,rfl,e2⟩:=part pu;obtain⟨o,ho,hc,hd⟩:=hs;refine wpAny_getItem_str_slice (l:=p1) (u:=p2) (st:=none) ⟨o,ho,hc,hd⟩ rfl ?_;have fin:∀t' k,EP X pins σ Q (.str (Txt.slice z lo hi) t') { s with toks:=k }:=fun t' k=>⟨.str (lh z lo hi),H,I.tok k,⟨t',by rw[Mv]⟩,q⟩
 have hle:=aR (Txt.slice_le z lo hi) hz;subst e1 e2;exact post_val_or_str ⟨hle,fin⟩
noncomputable abbrev wz:=Ev->(Option Int->Prop)->Prop
def yn(X:Cx)(e:Option Expr)(t:wz):Prop:=∃tt,PO X e tt/\∀(ρ:Ev) (σ:St) (G0 H0 G H:Hp) (Q:Option Int->Prop) (P:Option Int->Hp->Prop),cJ X.K G0 H0 ρ σ G H->t ρ Q->(∀o H' G',Ext G H G' H'->Q o->P o H')->tt σ H P
def m8:wz:=fun _ Q=>Q none
def ke(te:TD):wz:=fun ρ Q=>te ρ fun r=>match r.val with
 | .int i=>Q (some i)
 | _=>False
theorem oJ:yn X none m8:=⟨_,Ko,fun ρ σ G0 H0 G H Q P E h k=>k none H G (.refl E.e.s) h⟩
theorem lC(h:PD X e te):yn X (some e) (ke te):=by
 obtain⟨t,p,q⟩:=h;refine⟨_,Kn p,fun ρ σ G0 H0 G H Q P E h k=>q ρ σ G0 H0 G H _ _ E h fun v H' r G' x rr hq=>?_⟩;obtain⟨G2,x2,rv,_⟩:=rr.freeze x;split at hq
 ·rename_i i e1;rw[e1] at rv;simp only[Rep] at rv;exact⟨i,rv,k _ H' G2 x2 hq⟩
 ·exact hq.elim
def lT(te:TD)(tl th:wz):TD:=fun ρ Q=>te ρ fun r=>tl ρ fun lo=>th ρ fun hi=>match r.val with
 | .lst ds=>Q (.ow (ix ds lo hi))
 | .str z=>z.length<=sizeLine/\Q (.fz (.str (lh z lo hi)))
 | .tup ds=>¬(HT.cV ds.length 0 lo=0/\HT.cV ds.length ds.length hi=ds.length)/\Q (.fz (.tup (ix ds lo hi)))
 | _=>False
theorem D6{K:PySem.W.Frag}{G:Hp}{xs:List V}{ds:List D}(r:bD K G xs ds)(lo hi:Option Int):bD K G (oA xs lo hi) (ix ds lo hi):=by
 unfold oA ix;rw[r.length];exact(r.drop _).take _
theorem mW{lo hi:Option Expr}{tl th:wz}{p2:Pos}(he:PD X e te)(hl:yn X lo tl)(hh:yn X hi th):PD X (.Subscript e (.Slice lo hi none p2) pos) (lT te tl th):=by
 obtain⟨t1,p1,q1⟩:=he;obtain⟨t2,p2,q2⟩:=hl;obtain⟨t3,p3,q3⟩:=hh;refine⟨_,Ma (pj.or (rG.or IA)) p1 p2 p3,fun ρ σ G0 H0 G H Q P E h k=>q1 ρ σ G0 H0 G H _ _ E h fun v H' r G' x rr hq=>?_⟩;obtain⟨G1,x1,rv,_⟩:=rr.freeze x;refine q2 ρ σ G0 H0 G1 H' _ _ (E.ext x1) hq fun lo H2 G2 x2 ig=>?_
 refine q3 ρ σ G0 H0 G2 H2 _ _ ((E.ext x1).ext x2) ig fun hi H3 G3 x3 eh=>?_
 have lE:=(x1.trans x2).trans x3;have jR:=(rv.mono x2.g).mono x3.g;split at eh
 ·rename_i ds e1;rw[e1] at jR;simp only[Rep] at jR;obtain⟨a,xs,rfl,h1,h2⟩:=jR;refine .inl ⟨a,xs,rfl,(lE.s.gi h1).sq,fun p hp=>?_⟩;exact k _ _ (.ow _) G3 (lE.trans (.own lE.s hp)) ⟨p,_,rfl,lE.h.free hp,lE.s.free hp,fP,D6 h2 lo hi⟩ eh
 ·rename_i z e1;rw[e1] at jR;simp only[Rep] at jR;exact .inr (.inl ⟨z,jR,eh.1,k _ _ _ G3 lE (eV (pY _ _ _)) eh.2⟩)
 ·rename_i ds e1;rw[e1] at jR;simp only[Rep] at jR;obtain⟨a,xs,rfl,h1,h2⟩:=jR;refine .inr (.inr ⟨a,xs,rfl,lE.s.jQ h1,by rw[h2.length];exact eh.1,fun p hp=>?_⟩);have x4:Ext G3 H3 (upd G3 p (.tup (oA xs lo hi))) (upd H3 p (.tup (oA xs lo hi))):=.new lE.s hp;refine k _ _ (.fz _) _ (lE.trans x4) ?_ eh.2;show Rep X.K _ _ (.tup _);simp only[Rep];exact⟨p,_,rfl,fP,(D6 h2 lo hi).mono x4.g⟩
 ·exact eh.elim
def jM:eX:=fun ds Q=>match ds with
 | [.lst es]=>Q (.fz (.int es.length))
 | [.tup es]=>Q (.fz (.int es.length))
 | [.str z]=>z.length<=sizeLine/\Q (.fz (.int z.length))
 | _=>False
theorem lj:qX X (.builtin "len") jM:=by
 refine⟨_,gK.or NB,fun G H vs ds Q P s rs h k=>?_⟩;unfold jM at h;split at h
 ·obtain⟨v,rfl,rv⟩:=lp rs;simp only[Rep] at rv;obtain⟨a,xs,rfl,h1,h2⟩:=rv;refine .inl ⟨a,xs,rfl,.inl ((s.gi h1).sq),?_⟩;rw[h2.length];exact k _ _ _ G (.refl s) (eV (i9 _ _ _)) h
 ·obtain⟨v,rfl,rv⟩:=lp rs;simp only[Rep] at rv;obtain⟨a,xs,rfl,h1,h2⟩:=rv;refine .inl ⟨a,xs,rfl,.inr (s.jQ h1),?_⟩;rw[h2.length];exact k _ _ _ G (.refl s) (eV (i9 _ _ _)) h
 ·obtain⟨v,rfl,rv⟩:=lp rs;simp only[Rep] at rv;subst rv;exact .inr ⟨_,rfl,h.1,k _ _ _ G (.refl s) (eV (i9 _ _ _)) h.2⟩
 ·exact h.elim
def wY(i:Nat):TD:=fun ρ Q=>match gt ρ i with
 | .ow ds=>Q (.fz (.int ds.length))
 | _=>False
theorem Kf(i:Nat){x:Str}{p p':Pos}(hm:X.mg "len"=none)(hN:X.N[i]?=some x:=by rfl)(hv:j2 X.env.scope x:=by first | exact Or.inl rfl | exact Or.inr (Or.inl rfl) | exact Or.inr (Or.inr rfl))(hg:Gl X "len":=by rfl)(hd:(x==("__debug__":Str))=false:=by decide)
  (fK:(x==("__classdict__":Str))=false:=by decide) (fE:starEach [Expr.Name x p'] X.env=(false,eval (.Name x p') X.env)::starEach [] X.env:=by rfl):PD X (.Call (.Name "len" p) [.Name x p'] [] pos) (wY i):=by
 refine⟨_,rp gK hg hm boot_len (jO (mU hN hv hd fK) lz fE),fun ρ σ G0 H0 G H Q P E h k=>?_⟩;unfold wY at h;split at h
 ·rename_i ds hg;obtain⟨a,xs,h1,h2,h3,h4,h5⟩:=E.ow i ds hg;refine⟨_,h1,a,xs,rfl,.inl (eW.of h2),?_⟩;rw[h5.length];exact k _ _ _ G (.refl E.e.s) (eV (i9 _ _ _)) h
 ·exact h.elim
noncomputable def jK:List D->Option (List Bool)
 | []=>some []
 | .bl b::r=>(jK r).map (b::·)
 | _=>none
theorem z7:∀{ds:List D} {bs:List Bool},jK ds=some bs->ds=bs.map D.bl
 | [],bs,h=>by simp[jK] at h;subst h;rfl
 | .bl b::r,bs,h=>by
  simp only[jK,aN] at h;obtain⟨oj,h1,rfl⟩:=h;rw[z7 h1];rfl
 | .non::r,bs,h=>by simp[jK] at h
 | .int _::r,bs,h=>by simp[jK] at h
 | .str _::r,bs,h=>by simp[jK] at h
 | .tup _::r,bs,h=>by simp[jK] at h
 | .lst _::r,bs,h=>by simp[jK] at h
 | .obj _ _::r,bs,h=>by simp[jK] at h
 | .dic _::r,bs,h=>by simp[jK] at h
 | .dit _::r,bs,h=>by simp[jK] at h
 | .exc _::r,bs,h=>by simp[jK] at h
theorem zl{K:PySem.W.Frag}{G:Hp}:∀{bs:List Bool} {vs:List V},bD K G vs (bs.map D.bl)->vs=bs.map V.bl
 | [],[],_=>rfl
 | b::bs,v::vs,h=>by
  simp only[ao,bD,Rep] at h;rw[h.1,zl h.2];rfl
 | [],_::_,h=>by simp only[List.map_nil,bD] at h
 | _::_,[],h=>by simp only[ao,bD] at h
theorem EL{bs:List Bool}{us:List Value}(h:Vals (bs.map V.bl) us){i:Nat}{v:Value}(hv:us[i]?=some v):∃b,bs[i]?=some b/\v=.bool b:=by
 have hl:=h.length;have hi:i<us.length:=(ai.mp hv).1;have sf:i<bs.length:=by rw[af] at hl;omega
 obtain⟨u,hu,ru⟩:=h.get (i:=i) (x:=V.bl bs[i]) (by simp[sf]);rw[hv] at hu;cases hu;exact⟨bs[i],by simp[sf],ru⟩
theorem D5{s:Shared}{h':Heap}{o:Obj}(hk:∀b x,b∉[s.heap.objs.size]->(s.heap.push o).get? b=some x->h'.get? b=some x):∀b x,s.heap.get? b=some x->h'.get? b=some x:=
 fun b x e=>hk b x (fun hm=>by rw[a9.mp hm] at e;exact Nat.lt_irrefl _ (aB e)) (ay _ e)
theorem KL(bs:List Bool):((List.range bs.length).all fun i=>(bs[i]?).getD true)=bs.all id:=by
 rw[Bool.eq_iff_iff];simp only[aP,List.mem_range,id];constructor
 ·intro h b hb;obtain⟨i,hi,rfl⟩:=List.mem_iff_getElem.mp hb;simpa[hi] using h i hi
 ·intro h i hi;simpa[hi] using h _ (aQ hi)
theorem KJ(bs:List Bool):((List.range bs.length).any fun i=>(bs[i]?).getD false)=bs.any id:=by
 rw[Bool.eq_iff_iff];simp only[List.any_eq_true,List.mem_range,id];constructor
 ·rintro⟨i,hi,h⟩;exact⟨bs[i],aQ hi,by simpa[hi] using h⟩
 ·rintro⟨b,hb,h⟩;obtain⟨i,hi,rfl⟩:=List.mem_iff_getElem.mp hb;exact⟨i,hi,by simpa[hi] using h⟩
theorem Mu(hc:X.calm=true):dn X (.builtin "all") (fun xs H Q=>∃(p:Addr) (bs:List Bool),xs=[.ref p]/\eW X.K H p (bs.map V.bl)/\Q (.bl (bs.all id)) H):=by
 intro pins s σ H xs us Q I r h;obtain⟨p,bs,rfl,hq,q⟩:=h;obtain⟨u,rfl,ru⟩:=mQ r;cases ru;obtain⟨its,rv,pl,hz⟩:=I.list hq;have gf:p<s.heap.objs.size:=by obtain⟨_,_,e,_⟩:=pl;exact aB e
 have hl:its.length=bs.length:=by rw[<-rv.length,af]
 refine call_all_walk (wpAny_pyIter_list pl.isList ?_);refine⟨s.heap.objs.size,[s.heap.objs.size,p],[s.heap.objs.size],its.toArray.size,_,_,fun i=>(bs[i]?).getD true,rfl,Walks.list (A:=X.A.in1) (I.ok.hd hc) _ p (aT gf) its.toArray,
  ⟨⟨_,aG _ rfl,rfl,rfl⟩,pl.isList.push _⟩,fun i v s' Q' E' hP hQ=>?_,fun h' tk hk=>?_⟩
 ·obtain⟨b,e,rfl⟩:=EL rv (i:=i) (v:=v) (by simpa using hP);simp only[e,aS] at hQ;exact bg hQ
 ·rw[aq,hl,KL];exact⟨.bl _,H,I.kept (D5 hk),rfl,q⟩
theorem Mt(hc:X.calm=true):dn X (.builtin "any") (fun xs H Q=>∃(p:Addr) (bs:List Bool),xs=[.ref p]/\eW X.K H p (bs.map V.bl)/\Q (.bl (bs.any id)) H):=by
 intro pins s σ H xs us Q I r h;obtain⟨p,bs,rfl,hq,q⟩:=h;obtain⟨u,rfl,ru⟩:=mQ r;cases ru;obtain⟨its,rv,pl,hz⟩:=I.list hq;have gf:p<s.heap.objs.size:=by obtain⟨_,_,e,_⟩:=pl;exact aB e
 have hl:its.length=bs.length:=by rw[<-rv.length,af]
 refine call_any_walk (wpAny_pyIter_list pl.isList ?_);refine⟨s.heap.objs.size,[s.heap.objs.size,p],[s.heap.objs.size],its.toArray.size,_,_,fun i=>(bs[i]?).getD false,rfl,Walks.list (A:=X.A.in1) (I.ok.hd hc) _ p (aT gf) its.toArray,
  ⟨⟨_,aG _ rfl,rfl,rfl⟩,pl.isList.push _⟩,fun i v s' Q' E' hP hQ=>?_,fun h' tk hk=>?_⟩
 ·obtain⟨b,e,rfl⟩:=EL rv (i:=i) (v:=v) (by simpa using hP);simp only[e,aS] at hQ;exact bg hQ
 ·rw[aq,hl,KJ];exact⟨.bl _,H,I.kept (D5 hk),rfl,q⟩
def pR:eX:=fun ds Q=>match ds with
 | [.lst es]=>match jK es with
  | some bs=>Q (.fz (.bl (bs.all id)))
  | none=>False
 | _=>False
def wQ:eX:=fun ds Q=>match ds with
 | [.lst es]=>match jK es with
  | some bs=>Q (.fz (.bl (bs.any id)))
  | none=>False
 | _=>False
theorem uv(hc:X.calm=true):qX X (.builtin "all") pR:=by
 refine⟨_,Mu hc,fun G H vs ds Q P s rs h k=>?_⟩;unfold pR at h;split at h
 ·split at h
  ·rename_i es bs hb;obtain⟨v,rfl,rv⟩:=lp rs;simp only[Rep] at rv;obtain⟨a,xs,rfl,h1,h2⟩:=rv;rw[z7 hb] at h2;rw[zl h2] at h1;exact⟨a,bs,rfl,(s.gi h1).sq,k _ _ _ G (.refl s) (eV (iq _ _ _)) h⟩
  ·exact h.elim
 ·exact h.elim
theorem HM(hc:X.calm=true):qX X (.builtin "any") wQ:=by
 refine⟨_,Mt hc,fun G H vs ds Q P s rs h k=>?_⟩;unfold wQ at h;split at h
 ·split at h
  ·rename_i es bs hb;obtain⟨v,rfl,rv⟩:=lp rs;simp only[Rep] at rv;obtain⟨a,xs,rfl,h1,h2⟩:=rv;rw[z7 hb] at h2;rw[zl h2] at h1;exact⟨a,bs,rfl,(s.gi h1).sq,k _ _ _ G (.refl s) (eV (iq _ _ _)) h⟩
  ·exact h.elim
 ·exact h.elim
end
end L2
namespace L2
open PySem PySem.Spec PyProof.Rows
section
variable {X:Cx} {pos:Pos} {e:Expr} {te:TD}
noncomputable def mh:D->String
 | .non=>"NoneType"
 | .bl _=>"bool"
 | .int _=>"int"
 | .str _=>"str"
 | .tup _=>"tuple"
 | .lst _=>"list"
 | .obj _ _=>"object"
 | .dic _=>"dict"
 | .dit _=>"dict"
 | .exc _=>"object"
noncomputable def wO(t T:String):Bool:=(t==T)||(t=="bool"&&T=="int")
theorem sX{K:PySem.W.Frag}{t T:String}(ht:t∈["NoneType","bool","int","str","tuple","list"])(hT:T∈["bool","int","str","tuple","list"]):PySem.W.kitOne K (.type t) (.type T)=some (wO t T):=by
 simp only[au,List.not_mem_nil,or_false] at ht hT;rcases ht with rfl | rfl | rfl | rfl | rfl | rfl<;>rcases hT with rfl | rfl | rfl | rfl | rfl<;>(first | rfl | decide | (unfold PySem.W.kitOne PySem.W.kitCls;decide +kernel))
noncomputable def C8:D->Bool
 | .obj _ _=>false
 | .dic _=>false
 | .dit _=>false
 | .exc _=>false
 | _=>true
theorem K2{T:String}(hT:T∈["bool","int","str","tuple","list"]):dn X (.builtin "isinstance") (fun xs H Q=>∃x d,xs=[x,.ty T]/\Rep X.K H x d/\C8 d=true/\Q (.bl (wO (mh d) T)) H):=by
 intro pins s σ H xs us Q I r h;obtain⟨x,d,rfl,rd,ho,q⟩:=h;obtain⟨u,c,rfl,ru,rc⟩:=uu r;cases (show c=Value.type T from rc);have fin:∀tk,EP X pins σ Q (.bool (wO (mh d) T)) { s with toks:=tk }:=fun tk=>⟨.bl _,H,I.tok tk,rfl,q⟩
 cases d with
 | non=>simp only[Rep] at rd;subst rd;cases (show u=Value.none from ru);exact PySem.W.kia_one PySem.W.kitx_none I.jU True.intro (sX (by simp) hT) (fun z=>nomatch z) fin
 | bl y=>simp only[Rep] at rd;subst rd;cases (show u=Value.bool y from ru);exact PySem.W.kia_one PySem.W.kitx_bool I.jU True.intro (sX (by simp) hT) (fun z=>nomatch z) fin
 | int i=>simp only[Rep] at rd;subst rd;obtain⟨t,q'⟩:=(show ∃t,u=Value.int i t from ru);cases q';exact PySem.W.kia_one PySem.W.kitx_int I.jU True.intro (sX (by simp) hT) (fun z=>nomatch z) fin
 | str y=>simp only[Rep] at rd;subst rd;obtain⟨t,q'⟩:=(show ∃t,u=Value.str y t from ru);cases q';exact PySem.W.kia_one PySem.W.kitx_str I.jU True.intro (sX (by simp) hT) (fun z=>nomatch z) fin
 | tup ds=>
  simp only[Rep] at rd;obtain⟨a,xs,rfl,hq,_⟩:=rd;cases (show u=Value.ref a from ru);obtain⟨its,_,ht,_⟩:=I.tuple (et.of hq);obtain⟨o,h1,h2,_⟩:=ht;exact PySem.W.kia_one PySem.W.kitx_tuple I.jU ⟨o,h1,h2⟩ (sX (by simp) hT) (fun z=>nomatch z) fin
 | lst ds=>
  simp only[Rep] at rd;obtain⟨a,xs,rfl,hq,_⟩:=rd;cases (show u=Value.ref a from ru);obtain⟨its,_,ht,_⟩:=I.list hq.sq;obtain⟨o,n,h1,h2,_⟩:=ht;exact PySem.W.kia_one PySem.W.kitx_list I.jU ⟨o,h1,h2⟩ (sX (by simp) hT) (fun z=>nomatch z) fin
 | obj=>cases ho
 | dic=>cases ho
 | dit=>cases ho
 | exc=>cases ho
def yA(T:String)(te:TD):TD:=fun ρ Q=>te ρ fun r=>C8 r.val=true/\Q (.fz (.bl (wO (mh r.val) T)))
theorem Jc{T:String}{TN:Str}{p p':Pos}(he:PD X e te)(hm:X.mg "isinstance"=none)(r8:X.mg TN=none)(hv:bootBuiltins TN=some (.type T))(hT:T∈["bool","int","str","tuple","list"]:=by decide)(hg:Gl X "isinstance":=by rfl)(qD:Gl X TN:=by rfl)(hn:TN≠"__name__":=by decide)
  (hd:(TN==("__debug__":Str))=false:=by decide) (fE:starEach [e,Expr.Name TN p'] X.env=(false,eval e X.env)::starEach [Expr.Name TN p'] X.env:=by rfl) (kP:starEach [Expr.Name TN p'] X.env=(false,eval (.Name TN p') X.env)::starEach [] X.env:=by rfl)
  (g4:(backTo pos (starEach [Expr.Name TN p'] X.env)).any (·.1)=false:=by rfl):PD X (.Call (.Name "isinstance" p) [e,.Name TN p'] [] pos) (yA T te):=by
 obtain⟨t,pp,q⟩:=he;refine⟨_,rp (K2 hT) hg hm boot_isinstance (jO pp (jO (Et (v:=.ty T) qD r8 hv rfl hn hd) lz kP) fE) (by decide) (by decide) fE g4,fun ρ σ G0 H0 G H Q P E h k=>q ρ σ G0 H0 G H _ _ E h fun v H' r G' x rr hq=>?_⟩;obtain⟨G2,x2,rv,_⟩:=rr.freeze x;exact⟨v,r.val,rfl,rv.mono x2.s,hq.1,k _ _ _ G2 x2 (eV (iq _ _ _)) hq.2⟩
end
end L2
namespace L2
open PySem PySem.Spec PyProof.Rows
section
variable {P:Program} {w:World} {K:PySem.W.Frag} {mg:Str->Option Value} {base:Heap}
structure Known (P:Program) (w:World) (K:PySem.W.Frag) (mg:Str->Option Value) (base:Heap) (k:Nat) (x:Str) (n:Nat) (t:eX):Prop where
 ex:∃(f:Addr) (fd:FuncData) (ps:List Str),g8 P w K mg base mI k f fd ps (t7 K n t)/\mg x=some (.ref f)/\PySem.W.keepIn K (.ref f)=true/\Binds K fd ps []
structure At (K:PySem.W.Frag) (mg:Str->Option Value) (x:Str) (st:Stmt):Prop where
 ex:∃(f:Addr) (fd:FuncData),GL K x x st f fd/\mg x=some (.ref f)
theorem qK{h:Heap}{x:Str}{st:Stmt}{f:Addr}{oc:Value}{od an:Option Addr}{mZ:Array (Option Value)}{kV doc pm cG ct:Value}(X:K.In h)(G:h.Ns mainGlobals mg)(a:PySem.W.nsIn K mainGlobals x=some (some (.ref f)))
  (l:K.lookup f=some ⟨oc,od,.func (PySem.W.fnOf x x (ez st) (cK st) (bG st) .none kV doc pm an cG ct),mZ⟩) (c:PySem.W.codeIn K cG x=true) (k:PySem.W.keepIn K (.ref f)=true):At K mg x st:=
 ⟨f,_,Jj l c k,bz X G a⟩
theorem jw{h:Heap}{x:Str}{u:Value}{z:Str}{t:Tok}(X:K.In h)(G:h.Ns mainGlobals mg)(c:PySem.W.nsIn K mainGlobals x=some (some u))(e:u=.str z t):∃t,mg x=some (.str z t):=⟨t,by rw[bz X G c,e]⟩
end
section
variable {X:Cx} {k k' n:Nat} {t:eX} {x:Str} {p pos:Pos} {e:Expr} {es:List Expr} {ts:iw}
theorem fO(C:Known X.prog X.w X.K X.mg X.base k x n t)(hr:dA k' X.A)(ha:lW X (e::es) ts)(hk:k<=k':=by decide)(hg:Gl X x:=by rfl)(n0:(x==("__debug__":Str))=false:=by decide)
  (he:starEach (e::es) X.env=(false,eval e X.env)::starEach es X.env:=by rfl) (g4:(backTo pos (starEach es X.env)).any (·.1)=false:=by rfl):PD X (.Call (.Name x p) (e::es) [] pos) (fm n t ts):=by
 obtain⟨f,fd,ps,F,hm,kp,hb⟩:=C.ex;exact Kg F (hr.mono hk) hm kp hb ha hg n0 he g4
end
noncomputable def D4(kindOf:Str->Option NameKind)(N N':List Str)(m:List (Option Nat))(scope:Scope):Bool:=
 (scope.kind==.function)&&(m.length==N'.length)&&(scope.names.all fun y=>scope.names.lookup y.1==some y.2) &&
 (scope.names.all fun y=>y.2 != .free||kindOf y.1==some .cell||kindOf y.1==some .free) &&
 ((m.zip N').all fun p=>match p.1 with
   | none=>true
   | some j=>N[j]?==some p.2&&scope.names.lookup p.2==some .free)
theorem ck.of{X:Cx}{N':List Str}{m:List (Option Nat)}{scope:Scope}(h:D4 X.env.kindOf X.N N' m scope=true):ck X N' m scope:=by
 unfold D4 at h;simp only[aO,beq_iff_eq,aP,Bool.or_eq_true,bne_iff_ne,ne_eq] at h;obtain⟨⟨⟨⟨h1,h2⟩,h3⟩,h5⟩,h6⟩:=h;refine⟨h1,h2,fun y hy=>h3 y hy,fun y hy e=>?_,fun i j x hm hN=>?_⟩
 ·rcases h5 y hy with(z | z) | z
  ·exact absurd e z
  ·exact .inl z
  ·exact .inr z
 ·have hz:(some j,x)∈m.zip N':=by
   apply av (i:=i);rw[List.getElem?_zip_eq_some];exact⟨hm,hN⟩
  have:=h6 _ hz;simpa using this
theorem MZ{K:PySem.W.Frag}{G:Hp}{a:Addr}{ns:List Int}(h:iR K G a (ns.map V.int)):Rep K G (.ref a) (.lst (ns.map D.int)):=by
 simp only[Rep];refine⟨a,_,rfl,h,?_⟩;clear h;induction ns with
 | nil=>exact bD.nil
 | cons n r ih=>exact bD.cons (i9 _ _ _) ih
def yS(n:Nat):eX:=fun ds Q=>∃ns:List Int,ds=[.lst (ns.map .int)]/\ns.length<=n/\Q (.fz (.bl true))
theorem mf{l:PySem.W.OpenLaw}{n k:Nat}{q:Program}{loose:List Str}{XP:(Str->Option Value)->Heap->Prop}{YP:World->Heap->Prop}{d:DefRec}{K:Params->PySem.W.Frag}{x:Str}
  (hn:l.most=some n) (P2:n<=sizeLine) (BW:d.params.defaults=[]) (hr:dA k callerA) (hY:∀(w:World) (h:Heap),YP w h->(K w.params).In h)
  (F:∀(w:World) (mg:Str->Option Value) (fa:Addr) (h:Heap),(K w.params).In h->h.Ns mainGlobals mg->mg d.name=some (.ref fa)->
   ∃fd:FuncData,(∀(s:Shared) (u:Value),BindsTo s fd ⟨[u],[]⟩ [(x,u)])/\∀base:Heap,g8 l.prog w (K w.params) mg base mI k fa fd [x] (t7 (K w.params) 1 (yS n))) :
  PySem.W.WalkO q loose XP YP l.row.toRowW d [] (fun f vs=>PySem.call f vs):=by
 refine GP.j1 hn BW fun w cY bW mg mb fa o pm cd doc a vs ns G Y ho hd fK pG pF hints hlen hg=>?_
 have KX:=hY w _ Y;obtain⟨fd,hb,hF⟩:=F w mg fa _ KX G.T.g pG;refine L8 KX G.T.g G.T.b G.T.builtins G.T.nolimit hg pF hints (aR hlen P2) hr (fun base _ _=>hF base) hb (fun H hO hS=>?_) fun H e s' z=>z
 have hL:iR (K w.params) H a (ns.map V.int):=by
  rcases hS with hS | ⟨o,its,m,h1,h2,h3,h4,h5,h6⟩
  ·exact .inl hS
  ·have e:=KX a o h1;rw[pF] at e;cases e;have QG:Data.seq vs.toArray _=Data.seq its m:=h4;injection QG with e1 e2
   subst e1;exact .inr ⟨_,_,h1,h5,h6⟩
 refine⟨H,[.lst (ns.map .int)],fun r=>r=.fz (.bl true),bM.refl _,bD.cons (MZ hL) bD.nil,rfl,⟨ns,rfl,hlen,rfl⟩,fun v H' r G' _ rr e=>?_⟩;subst e;simpa only[di,Rep] using rr
theorem Jb{P:Program}{w:World}{K:PySem.W.Frag}{mg:Str->Option Value}{st:Stmt}{N:List Str}{x:Str}{k:Nat}{t:eX}{T:Heap->TX}{fa:Addr}(DA:At K mg "law" st)(pG:mg "law"=some (.ref fa))(S:bP N [x] (bG st))
  (hb:∀(kV doc pm:Value) (an:Option Addr) (cG ct:Value) (us:List Value),us.length=1->bindArgs (PySem.W.fnOf "law" "law" (ez st) (cK st) (bG st) .none kV doc pm an cG ct) ⟨us,[]⟩=pure ([x].zip us))
  (body:∀(base:Heap) (f:Addr) (cG:Value) (A:Around) (outer:List Env) (s:Shared) (H:Hp) (E:XK),dA k (A.deeper (envOfC "law" (bG st) s.heap.objs.size f cG))->kX (lY mI P w K mg base N "law" (bG st) f cG A outer s H E).qp (cK st) (T base))
  (spec:∀(base:Heap) (ds:List D) (Qr:R->Prop),ds.length=1->t ds Qr->T base { nx:=fun _=>Qr (.fz .non),rt:=Qr } (gm N ds)) :
  ∃fd:FuncData,(∀(s:Shared) (u:Value),BindsTo s fd ⟨[u],[]⟩ [(x,u)])/\∀base:Heap,g8 P w K mg base mI (k+1) fa fd [x] (t7 K 1 t):=by
 obtain⟨f,fd,F,hm⟩:=DA.ex;rw[pG] at hm;cases hm;refine⟨fd,fun s u=>?_,fun base=>D7 F S (body base fa) (spec base)⟩;obtain⟨oc,od,kV,doc,pm,an,cG,ct,mZ,rfl,lk,fK⟩:=F.ex;exact .of_eq (hb kV doc pm an cG ct [u] rfl)
end L2
namespace L2
open PySem PySem.Spec PyProof.Rows
def ud(i:Nat)(t:TX):TX:=fun D ρ=>t D (iQ i ρ)
theorem Ja(d:D):(R.fz d).val=d:=rfl
theorem zg(ds:List D):(R.ow ds).val=.lst ds:=rfl
theorem HL(d:D):(R.fz d).sl=.fz d:=rfl
theorem Iq(ds:List D):(R.ow ds).sl=.ow ds:=rfl
theorem D3{α:Type}{wi:i4}{m:List (Option Nat)}{g:i5}{tc:gU}{te:TD}{ρ:Ev}{Q:R->Prop}(L:List α)(φ:α->D)(f:α->Option D)(hw:∀Q':List D->Prop,Q' (L.map φ)->wi ρ Q')(hl:L.length<=sizeLine)
  (h:∀x∈L,∀(K1:D->Prop) (K0:Prop),(∀e,f x=some e->K1 e)->(f x=none->K0)->g (φ x) (ff m ρ) fun ee=>tc ee fun b=>if b=true then te ee fun r=>K1 r.val else K0)
  (q:Q (.ow (L.filterMap f))):jn wi m g tc te ρ Q:=by
 refine hw _ ⟨fun i acc=>acc=(L.take i).filterMap f,rfl,fun i d acc hd ha=>?_,fun acc ha=>?_⟩
 ·rw[aj] at hd;cases hx:L[i]? with
  | none=>rw[hx] at hd;cases hd
  | some x=>
   rw[hx] at hd;cases hd;have hi:i<L.length:=(ai.mp hx).1;have e:L.take (i+1)=L.take i++[x]:=by rw[List.take_add_one,hx];rfl
   have hlen:acc.length<sizeLine:=by
    rw[ha];refine Nat.lt_of_le_of_lt (List.length_filterMap_le _ _) ?_;rw[bj];omega
   exact h x (av hx) (fun e=>acc.length<sizeLine/\acc++[e]=(L.take (i+1)).filterMap f) (acc=(L.take (i+1)).filterMap f)
    (fun z hz=>⟨hlen,by rw[e,List.filterMap_append,ha];simp[hz]⟩) (fun hz=>by rw[e,List.filterMap_append,ha];simp[hz])
 ·dsimp only at ha;rw[af,List.take_length] at ha;rw[ha];exact q
theorem mV{α:Type}{wi:i4}{m:List (Option Nat)}{g:i5}{te:TD}{ρ:Ev}{Q:R->Prop}(L:List α)(φ f:α->D)(hw:∀Q':List D->Prop,Q' (L.map φ)->wi ρ Q')(hl:L.length<=sizeLine)
  (h:∀x∈L,∀(K1:D->Prop),K1 (f x)->g (φ x) (ff m ρ) fun ee=>te ee fun r=>K1 r.val) (q:Q (.ow (L.map f))):jn wi m g ji te ρ Q:=by
 refine D3 L φ (fun x=>some (f x)) hw hl (fun x hx K1 K0 h1 _=>?_) ?_
 ·have:=h x hx K1 (h1 _ rfl);simpa[ji] using this
 ·have e:L.filterMap (fun x=>some (f x))=L.map f:=by
   induction L with
   | nil=>rfl
   | cons a r ih=>simp
  rw[e];exact q
theorem M9{α:Type}{wi:i4}{m:List (Option Nat)}{g:i5}{tc:gU}{te:TD}{ρ:Ev}{Q:R->Prop}(L:List α)(φ f:α->D)(p:α->Bool)(hw:∀Q':List D->Prop,Q' (L.map φ)->wi ρ Q')(hl:L.length<=sizeLine)
  (h:∀x∈L,∀(K1:D->Prop) (K0:Prop),(p x=true->K1 (f x))->(p x=false->K0)->g (φ x) (ff m ρ) fun ee=>tc ee fun b=>if b=true then te ee fun r=>K1 r.val else K0)
  (q:Q (.ow ((L.filter p).map f))):jn wi m g tc te ρ Q:=by
 refine D3 L φ (fun x=>if p x=true then some (f x) else none) hw hl (fun x hx K1 K0 h1 h0=>h x hx K1 K0 (fun z=>h1 _ (by simp[z])) (fun z=>h0 (by simp[z]))) ?_;have e:L.filterMap (fun x=>if p x=true then some (f x) else none)=(L.filter p).map f:=by
  clear h hl hw q;induction L with
  | nil=>rfl
  | cons a r ih=>by_cases z:p a=true<;>simp[z,ih]
 rw[e];exact q
theorem KZ{wi:i4}{g:i5}{tb:TX}{D:DE}{ρ:Ev}(ds:List L2.D)(hw:∀Q':List L2.D->Prop,Q' ds->wi ρ Q')(Iv:Nat->Ev->Prop)(h0:Iv 0 ρ)
  (turn:∀i d ρ',ds[i]?=some d->Iv i ρ'->g d ρ' fun ee=>tb { D with nx:=Iv (i+1),ct:=Iv (i+1),bk:=D.nx } ee) (fin:∀ρ',Iv ds.length ρ'->D.nx ρ'):jj wi g tb D ρ:=hw _ ⟨Iv,h0,turn,fin⟩
theorem oO{α:Type}{wi:i4}{g:i5}{tb:TX}{D:DE}{ρ:Ev}(L:List α)(φ:α->L2.D)(hw:∀Q':List L2.D->Prop,Q' (L.map φ)->wi ρ Q')(Iv:Nat->Ev->Prop)(h0:Iv 0 ρ)
  (turn:∀i x ρ',L[i]?=some x->Iv i ρ'->g (φ x) ρ' fun ee=>tb { D with nx:=Iv (i+1),ct:=Iv (i+1),bk:=D.nx } ee) (fin:∀ρ',Iv L.length ρ'->D.nx ρ'):jj wi g tb D ρ:=by
 refine KZ (L.map φ) hw Iv h0 (fun i d ρ' hd iv=>?_) (fun ρ' iv=>fin ρ' (by simpa using iv));rw[aj] at hd;cases hx:L[i]? with
 | none=>rw[hx] at hd;cases hd
 | some x=>rw[hx] at hd;cases hd;exact turn i x ρ' hx iv
theorem tD{g:i5}{tb:TX}{D:DE}{ρ:Ev}{wi:i4}(n:Nat)(hw:∀Q':List L2.D->Prop,Q' ((List.range n).map fun(i:Nat)=>.int (0+i))->wi ρ Q')(Iv:Nat->Ev->Prop)(h0:Iv 0 ρ)
  (turn:∀(i:Nat) ρ',i<n->Iv i ρ'->g (.int i) ρ' fun ee=>tb { D with nx:=Iv (i+1),ct:=Iv (i+1),bk:=D.nx } ee) (fin:∀ρ',Iv n ρ'->D.nx ρ'):jj wi g tb D ρ:=by
 refine oO (List.range n) (fun(i:Nat)=>.int (0+i)) hw Iv h0 (fun i x ρ' hx iv=>?_) (fun ρ' iv=>fin ρ' (by simpa using iv));obtain⟨h1,h2⟩:=ai.mp hx;have h3:i<n:=by simpa using h1
 have h4:x=i:=by rw[<-h2];simp
 subst h4;rw[Int.zero_add];exact turn x ρ' h3 iv
theorem OY:(10:Int) ^ Int.toNat 24=1000000000000000000000000:=by decide
theorem OW:(10:Int) ^ Int.toNat 30=1000000000000000000000000000000:=by decide
theorem IZ:qW 10 24=True:=by simp only[qW,eq_iff_iff,iff_true];decide
theorem IY:qW 10 30=True:=by simp only[qW,eq_iff_iff,iff_true];decide
end L2
namespace L2
open PySem PySem.Spec PyProof.Rows
section
variable {X:Cx} {pos:Pos} {e:Expr} {te:TD} {es:List Expr} {ts:iw}
def wN(t:TD):TD:=fun ρ Q=>t ρ fun r=>match r.val with
 | .int i=>Q (.fz (.int (-i)))
 | _=>False
theorem Dr(h:PD X e te):PD X (.UnaryOp .USub e pos) (wN te):=by
 obtain⟨t,p,q⟩:=h;refine⟨_,HZ ID p,fun ρ σ G0 H0 G H Q P E h k=>q ρ σ G0 H0 G H _ _ E h fun v H' r G' x rr hq=>?_⟩;obtain⟨G2,x2,rv,_⟩:=rr.freeze x;split at hq
 ·rename_i i e1;rw[e1] at rv;simp only[Rep] at rv;exact⟨i,rv,k _ _ _ G2 x2 (eV (i9 _ _ _)) hq⟩
 ·exact hq.elim
def Ip:eX:=fun ds Q=>match ds with
 | [.lst es]=>Q (.ow es)
 | [.tup es]=>Q (.ow es)
 | _=>False
noncomputable def jm:List D->Option (List Int)
 | []=>some []
 | .int b::r=>(jm r).map (b::·)
 | _=>none
theorem Ax:∀{ds:List D} {bs:List Int},jm ds=some bs->ds=bs.map D.int
 | [],bs,h=>by simp[jm] at h;subst h;rfl
 | .int b::r,bs,h=>by
  simp only[jm,aN] at h;obtain⟨oj,h1,rfl⟩:=h;rw[Ax h1];rfl
 | .non::r,bs,h=>by simp[jm] at h
 | .bl _::r,bs,h=>by simp[jm] at h
 | .str _::r,bs,h=>by simp[jm] at h
 | .tup _::r,bs,h=>by simp[jm] at h
 | .lst _::r,bs,h=>by simp[jm] at h
 | .obj _ _::r,bs,h=>by simp[jm] at h
 | .dic _::r,bs,h=>by simp[jm] at h
 | .dit _::r,bs,h=>by simp[jm] at h
 | .exc _::r,bs,h=>by simp[jm] at h
theorem MY(bs:List Int):jm (bs.map D.int)=some bs:=by
 induction bs with
 | nil=>rfl
 | cons b r ih=>simp[jm,ih]
theorem zT{K:PySem.W.Frag}{G:Hp}:∀{bs:List Int} {vs:List V},bD K G vs (bs.map D.int)->vs=bs.map V.int
 | [],[],_=>rfl
 | b::bs,v::vs,h=>by
  simp only[ao,bD,Rep] at h;rw[h.1,zT h.2];rfl
 | [],_::_,h=>by simp only[List.map_nil,bD] at h
 | _::_,[],h=>by simp only[ao,bD] at h
theorem Aw{vs:List Value}{ns:List Int}(hi:IntsAre vs ns):∃xs:Array (Int×Tok),vs.toArray=intItems xs/\ns=xs.toList.map (·.1):=by
 obtain⟨xs,e⟩:=hi.allInts.items;exact⟨xs,e,by rw[<-hi.numsOf,<-nums_intItems,<-e]⟩
theorem Ms(hc:X.calm=true):dn X (.builtin "sum") (fun xs H Q=>∃(p:Addr) (ns:List Int),xs=[.ref p]/\eW X.K H p (ns.map V.int)/\Q (.int ns.sum) H):=by
 intro pins s σ H xs us Q I r h;obtain⟨p,ns,rfl,hq,q⟩:=h;obtain⟨u,rfl,ru⟩:=mQ r;cases ru;obtain⟨its,rv,pl,hz⟩:=I.list hq;obtain⟨ys,e,lP⟩:=Aw (Ay rv);have hl:=pl.isList;rw[e] at hl;refine sum_intListG (I.ok.hd hc) hl fun h' tk t' hk=>?_
 have e2:preSum (numAt ys) ys.size=ns.sum:=by
  rw[preSum_eq,List.take_of_length_le (by simp),lP]
 rw[e2];exact⟨.int _,H,I.kept hk,⟨_,rfl⟩,q⟩
theorem Rn(hc:X.calm=true):dn X (.builtin "min") (fun xs H Q=>∃(p:Addr) (ns:List Int),xs=[.ref p]/\eW X.K H p (ns.map V.int)/\ns≠[]/\∀M,M∈ns->(∀a∈ns,M<=a)->Q (.int M) H):=by
 intro pins s σ H xs us Q I r h;obtain⟨p,ns,rfl,hq,dH,q⟩:=h;obtain⟨u,rfl,ru⟩:=mQ r;cases ru;obtain⟨its,rv,pl,hz⟩:=I.list hq;obtain⟨ys,e,lP⟩:=Aw (Ay rv);have hl:=pl.isList;rw[e] at hl;have hsz:0<ys.size:=by
  cases vC:ys.toList with
  | nil=>rw[lP,vC] at dH;exact absurd rfl dH
  | cons a b=>have:ys.toList.length=b.length+1:=by rw[vC];rfl
              rw[aM] at this;omega
 refine min_intList (I.ok.hd hc) hl hsz fun v h' tk hv hk=>?_
 obtain⟨t,rfl⟩:=intItems_at hv;obtain⟨h1,h2⟩:=argBest_lt (numAt ys) (ys.size-1);refine⟨.int _,H,I.kept hk,⟨_,rfl⟩,q _ ?_ fun a ha=>?_⟩
 ·rw[lP,numAt_eq];exact getD_mem (by rw[af,aM];omega)
 ·rw[lP] at ha;obtain⟨j,hj,rfl⟩:=mem_getD ha;rw[af,aM] at hj;rw[<-numAt_eq];exact h2 j (by omega)
theorem Mr(hc:X.calm=true):dn X (.builtin "max") (fun xs H Q=>∃(p:Addr) (ns:List Int),xs=[.ref p]/\eW X.K H p (ns.map V.int)/\ns≠[]/\∀M,M∈ns->(∀a∈ns,a<=M)->Q (.int M) H):=by
 intro pins s σ H xs us Q I r h;obtain⟨p,ns,rfl,hq,dH,q⟩:=h;obtain⟨u,rfl,ru⟩:=mQ r;cases ru;obtain⟨its,rv,pl,hz⟩:=I.list hq;obtain⟨ys,e,lP⟩:=Aw (Ay rv);have hl:=pl.isList;rw[e] at hl;have hsz:0<ys.size:=by
  cases vC:ys.toList with
  | nil=>rw[lP,vC] at dH;exact absurd rfl dH
  | cons a b=>have:ys.toList.length=b.length+1:=by rw[vC];rfl
              rw[aM] at this;omega
 refine max_intList (I.ok.hd hc) hl hsz fun v h' tk hv hk=>?_
 obtain⟨t,rfl⟩:=intItems_at hv;obtain⟨h1,h2⟩:=argBest_gt (numAt ys) (ys.size-1);refine⟨.int _,H,I.kept hk,⟨_,rfl⟩,q _ ?_ fun a ha=>?_⟩
 ·rw[lP,numAt_eq];exact getD_mem (by rw[af,aM];omega)
 ·rw[lP] at ha;obtain⟨j,hj,rfl⟩:=mem_getD ha;rw[af,aM] at hj;rw[<-numAt_eq];exact h2 j (by omega)
def sM:eX:=fun ds Q=>match ds with
 | [.lst es]=>match jm es with
  | some ns=>Q (.fz (.int ns.sum))
  | none=>False
 | _=>False
theorem yR(hc:X.calm=true):qX X (.builtin "sum") sM:=by
 refine⟨_,Ms hc,fun G H vs ds Q P s rs h k=>?_⟩;unfold sM at h;split at h
 ·split at h
  ·rename_i es bs hb;obtain⟨v,rfl,rv⟩:=lp rs;simp only[Rep] at rv;obtain⟨a,xs,rfl,h1,h2⟩:=rv;rw[Ax hb] at h2;rw[zT h2] at h1;exact⟨a,bs,rfl,(s.gi h1).sq,k _ _ _ G (.refl s) (eV (i9 _ _ _)) h⟩
  ·exact h.elim
 ·exact h.elim
def Rf:eX:=fun ds Q=>match ds with
 | [.lst es]=>match jm es with
  | some ns=>ns≠[]/\∀M,M∈ns->(∀a∈ns,M<=a)->Q (.fz (.int M))
  | none=>False
 | [.int i,.int j]=>Q (.fz (.int (if j<i then j else i)))
 | _=>False
def wM:eX:=fun ds Q=>match ds with
 | [.lst es]=>match jm es with
  | some ns=>ns≠[]/\∀M,M∈ns->(∀a∈ns,a<=M)->Q (.fz (.int M))
  | none=>False
 | [.int i,.int j]=>Q (.fz (.int (if j>i then j else i)))
 | _=>False
theorem Io(hc:X.calm=true):qX X (.builtin "max") wM:=by
 refine⟨_,(Mr hc).or (Mn hc),fun G H vs ds Q P s rs h k=>?_⟩;unfold wM at h;split at h
 ·split at h
  ·rename_i es bs hb;obtain⟨v,rfl,rv⟩:=lp rs;simp only[Rep] at rv;obtain⟨a,xs,rfl,h1,h2⟩:=rv;rw[Ax hb] at h2;rw[zT h2] at h1;exact .inl ⟨a,bs,rfl,(s.gi h1).sq,h.1,fun M h3 h4=>k _ _ _ G (.refl s) (eV (i9 _ _ _)) (h.2 M h3 h4)⟩
  ·exact h.elim
 ·obtain⟨v,u,rfl,rv,ru⟩:=yN rs;simp only[Rep] at rv ru;subst rv ru;exact .inr ⟨_,_,rfl,k _ _ _ G (.refl s) (eV (i9 _ _ _)) h⟩
 ·exact h.elim
noncomputable def jN:List D->Option (List Str)
 | []=>some []
 | .str b::r=>(jN r).map (b::·)
 | _=>none
theorem Fp:∀{ds:List D} {bs:List Str},jN ds=some bs->ds=bs.map D.str
 | [],bs,h=>by simp[jN] at h;subst h;rfl
 | .str b::r,bs,h=>by
  simp only[jN,aN] at h;obtain⟨oj,h1,rfl⟩:=h;rw[Fp h1];rfl
 | .non::r,bs,h=>by simp[jN] at h
 | .bl _::r,bs,h=>by simp[jN] at h
 | .int _::r,bs,h=>by simp[jN] at h
 | .tup _::r,bs,h=>by simp[jN] at h
 | .lst _::r,bs,h=>by simp[jN] at h
 | .obj _ _::r,bs,h=>by simp[jN] at h
 | .dic _::r,bs,h=>by simp[jN] at h
 | .dit _::r,bs,h=>by simp[jN] at h
 | .exc _::r,bs,h=>by simp[jN] at h
theorem uZ(bs:List Str):jN (bs.map D.str)=some bs:=by
 induction bs with
 | nil=>rfl
 | cons b r ih=>simp[jN,ih]
theorem EJ{K:PySem.W.Frag}{G:Hp}:∀{bs:List Str} {vs:List V},bD K G vs (bs.map D.str)->vs=bs.map V.str
 | [],[],_=>rfl
 | b::bs,v::vs,h=>by
  simp only[ao,bD,Rep] at h;rw[h.1,EJ h.2];rfl
 | [],_::_,h=>by simp only[List.map_nil,bD] at h
 | _::_,[],h=>by simp only[ao,bD] at h
theorem MX{ss:List Str}:∀{us:List Value},Vals (ss.map V.str) us->StrsAre us ss:=by
 induction ss with
 | nil=>
  intro us h;cases h;exact .nil
 | cons n r ih=>
  intro us h;cases h with
  | cons a b=>
   obtain⟨t,rfl⟩:=a;exact .cons _ _ (ih b)
def Rm:eX:=fun ds Q=>match ds with
 | [.lst es]=>match jN es with
  | some ss=>ss.length<64/\∀AS:List Str,AS.Perm ss->sortedS AS=true->Q (.ow (AS.map D.str))
  | none=>match jm es with
   | some ns=>ns.length<64/\∀Bb:List Int,Bb.Perm ns->Bb.Pairwise (·<=·)->Q (.ow (Bb.map D.int))
   | none=>False
 | _=>False
def Cq(X:Cx)(id:String)(o:D->List D->(R->Prop)->Prop):Prop:=∃r,Cp X id r/\∀(G H:Hp) (x:V) (d:D) (vs:List V) (ds:List D) (Q:R->Prop) (P:VK),bM G H->Rep X.K G x d->bD X.K G vs ds->o d ds Q->
 (∀v H' r' G',Ext G H G' H'->di X.K G' H' H v r'->Q r'->P v H')->r x vs H P
def dM(T:String)(o:D->List D->(R->Prop)->Prop)(te:TD)(ts:iw):TD:=fun ρ Q=>te ρ fun r=>mh r.val=T/\ts ρ fun ds=>o r.val ds Q
theorem KI{K:PySem.W.Frag}{G H:Hp}{x:V}{d:D}{T:String}(s:bM G H)(r:Rep K G x d)(h:mh d=T)(hT:T="list"\/T="str"):vd K T x H:=by
 cases d with
 | str z=>simp only[Rep] at r;subst r;exact h.symm
 | lst ds=>
  simp only[Rep] at r;obtain⟨a,xs,rfl,h1,_⟩:=r;exact .inl ⟨h.symm,xs,(s.gi h1).sq⟩
 | non=>subst h;rcases hT with h | h<;>simp[mh] at h
 | bl=>subst h;rcases hT with h | h<;>simp[mh] at h
 | int=>subst h;rcases hT with h | h<;>simp[mh] at h
 | tup=>subst h;rcases hT with h | h<;>simp[mh] at h
 | obj=>subst h;rcases hT with h | h<;>simp[mh] at h
 | dic=>subst h;rcases hT with h | h<;>simp[mh] at h
 | dit=>subst h;rcases hT with h | h<;>simp[mh] at h
 | exc=>subst h;rcases hT with h | h<;>simp[mh] at h
theorem rm{T id:String}{name:Str}{p':Pos}{e1:Expr}{o:D->List D->(R->Prop)->Prop}(hm:Cq X id o)(hT:T="list"\/T="str")(pa:PlainAttrs T)(slot:Slot T name id)(vE:typeOf (.builtin id)=pure (.type "method_descriptor"))
  (he:PD X e te) (ha:lW X (e1::es) ts) (fF:attributeBase e name X.env (eval e X.env)=eval e X.env:=by rfl)
  (si:((backTo pos (starEach (e1::es) X.env)).all (fun x=>!x.1)&&(backToKw pos (keywordEach [] X.env)).all (fun x=>x.1.isSome)
   && decide ((e1::es).length+([]:List Keyword).length+(if ([]:List Keyword).isEmpty then 0 else 1)<30))=true:=by rfl)
  (gH:(p'.endLine==pos.line)=true:=by rfl) (hs:starEach (e1::es) X.env=(false,eval e1 X.env)::starEach es X.env:=by rfl) (kR:(backTo pos (starEach es X.env)).any (·.1)=false:=by rfl) :
  PD X (.Call (.Attribute e name p') (e1::es) [] pos) (dM T o te ts):=by
 obtain⟨r,hr,ku⟩:=hm;obtain⟨t1,p1,q1⟩:=he;obtain⟨t2,p2,q2⟩:=ha;refine⟨_,ur pa slot vE hr p1 p2 fF si gH hs kR,fun ρ σ G0 H0 G H Q P E h k=>q1 ρ σ G0 H0 G H _ _ E h fun v H' r1 G' x rr hq=>?_⟩;obtain⟨G2,x2,rv,_⟩:=rr.freeze x;refine⟨KI x2.s rv hq.1 hT,q2 ρ σ G0 H0 G2 H' _ _ (E.ext x2) hq.2 fun vs H3 ds G3 x3 rs eh=>?_⟩;exact ku G3 H3 v r1.val vs ds Q P x3.s (rv.mono x3.g) rs eh fun w' H4 r4 G4 x4 OP q4=>k w' H4 r4 G4 ((x2.trans x3).trans x4) (OP.iA (x2.trans x3).h) q4
def oB:D->List D->(R->Prop)->Prop:=fun d ds Q=>match d,ds with
 | .str x,[.lst es]=>match jN es with
  | some ys=>(ys.map (·.length)).sum+ys.length*x.length<=16777216/\Q (.fz (.str (Txt.join x ys)))
  | none=>False
 | _,_=>False
theorem xm:Cq X "str.join" oB:=by
 refine⟨fun x vs H Q=>∃(z:Str) (p:Addr) (ys:List Str),x=.str z/\vs=[.ref p]/\eW X.K H p (ys.map V.str)/\(ys.map (·.length)).sum+ys.length*z.length<=16777216/\Q (.str (Txt.join z ys)) H,fun pins s σ H x xs v us Q I rx rs h=>?_,fun G H x d vs ds Q P s rx rs h k=>?_⟩
 ·obtain⟨z,p,ys,rfl,rfl,hq,hz,q⟩:=h;obtain⟨t,rfl⟩:=rx;obtain⟨u,rfl,ru⟩:=mQ rs;cases ru;obtain⟨its,rv,pl,_⟩:=I.list hq;exact join_list pl.isList (by simpa using MX rv) hz fun t' k=>⟨.str _,H,I.tok _,⟨_,rfl⟩,q⟩
 ·unfold oB at h;split at h
  ·split at h
   ·rename_i z es ys hy;obtain⟨v,rfl,rv⟩:=lp rs;simp only[Rep] at rv rx;obtain⟨a,xs,rfl,h1,h2⟩:=rv;rw[Fp hy] at h2;rw[EJ h2] at h1;exact⟨_,a,ys,rx,rfl,(s.gi h1).sq,h.1,k _ _ _ G (.refl s) (eV (pY _ _ _)) h.2⟩
   ·exact h.elim
  ·exact h.elim
end
end L2
namespace L2
open PySem PySem.Spec PyProof.Rows
end L2
namespace L2
open PySem PySem.Spec PyProof.Rows
end L2
namespace L2
open PySem PySem.Spec PyProof.Rows
noncomputable def C7:D->Bool
 | .non=>true
 | .bl _=>true
 | .int _=>true
 | .str _=>true
 | _=>false
def wX(i:Nat)(te:TD):TD:=fun ρ Q=>te (iQ i ρ) fun r=>match r with
 | .fz d=>C7 d=true/\Q (.fz d)
 | _=>False
def yQ(i:Nat)(t:gU):gU:=fun ρ Q=>t (iQ i ρ) Q
theorem KY{K:PySem.W.Frag}{G G':Hp}{v:V}{d:D}(h:C7 d=true)(r:Rep K G v d):Rep K G' v d:=by
 cases d<;>first | (simp only[Rep] at r ⊢;exact r) | cases h
noncomputable def wL(G:Hp)(L:List Addr):Hp:=fun a=>if a∈L then none else G a
theorem KW{G H G' H':Hp}{L:List Addr}(gp:∀q∈L,G q=none)(x:Ext (lX G H L) H G' H'):Ext G H (wL G' L) H':=by
 refine⟨fun b u e=>?_,x.h,fun b u e=>?_,fun q h1 h2=>?_⟩
 ·have hb:b∉L:=fun z=>by rw[gp b z] at e;cases e
  unfold wL;rw[if_neg hb];exact x.g b u (by rw[nE hb];exact e)
 ·unfold wL at e;split at e
  ·cases e
  ·exact x.s b u e
 ·unfold wL;split
  ·rfl
  ·rename_i hq;exact x.n q (by rw[nE hq];exact h1) h2
section
variable {X:Cx} {e:Expr} {te:TD} {t:gU}
theorem cJ.vA{K:PySem.W.Frag}{G0 H0 G H:Hp}{ρ:Ev}{σ:St}(i:Nat)(E:cJ K G0 H0 ρ σ G H):∃G1,cJ K G0 H0 (iQ i ρ) σ G1 H/\∀G' H',Ext G1 H G' H'->∃G2,Ext G H G2 H':=
 let⟨L,hL,E',_⟩:=E.lS i
 ⟨_,E',fun G' H' x=>⟨_,KW hL x⟩⟩
theorem D2(i:Nat)(h:PD X e te):PD X e (wX i te):=by
 obtain⟨tt,p,q⟩:=h;refine⟨tt,p,fun ρ σ G0 H0 G H Q P E h k=>?_⟩;obtain⟨G1,E1,back⟩:=E.vA i;refine q _ σ G0 H0 G1 H _ _ E1 h fun v H' r G' x rr hq=>?_
 split at hq
 ·rename_i d;obtain⟨G2,x2⟩:=back G' H' x;exact k v H' (.fz d) G2 x2 (KY hq.1 rr) hq.2
 ·exact hq.elim
theorem KH(i:Nat)(h:PB X e t):PB X e (yQ i t):=by
 obtain⟨tt,p,q⟩:=h;refine⟨tt,p,fun ρ σ G0 H0 G H Q P E h k=>?_⟩;obtain⟨G1,E1,back⟩:=E.vA i;refine q _ σ G0 H0 G1 H _ _ E1 h fun b H' G' x hq=>?_
 obtain⟨G2,x2⟩:=back G' H' x;exact k b H' G2 x2 hq
end
end L2
namespace L2
open PySem PySem.Spec PyProof.Rows
end L2
namespace L2
open PySem PySem.Spec PyProof.Rows
end L2
namespace L2
open PySem PySem.Spec PyProof.Rows
end L2
namespace L2
open PySem PySem.Spec PyProof.Rows
end L2
namespace L2
open PySem PySem.Spec PyProof.Rows
end L2
namespace L2
open PySem PySem.Spec PyProof.Rows
end L2
namespace L2
open PySem PySem.Spec PyProof.Rows
section
variable {X:Cx} {pos:Pos} {e i':Expr} {te ti:TD}
def Rk(i:Nat):TX:=fun D ρ=>match gt ρ i with
 | .ow _=>D.nx (ρ.set i (.ow []))
 | _=>False
def sL(i:Nat)(te:TD):TX:=fun D ρ=>match gt ρ i with
 | .ow ds=>te ρ fun r=>match r with
  | .ow es=>ds.length+es.length<=sizeLine/\D.nx (ρ.set i (.ow (ds++es)))
  | _=>False
 | _=>False
theorem Dq(i:Nat){x:Str}{p1 p2 pos':Pos}(he:PD X e te)(hN:X.N[i]?=some x:=by rfl)(hv:j2 X.env.scope x:=by first | exact Or.inl rfl | exact Or.inr (Or.inl rfl) | exact Or.inr (Or.inr rfl))(hd:(x==("__debug__":Str))=false:=by decide)(fK:(x==("__classdict__":Str))=false:=by decide)
  (fE:starEach [e] X.env=(false,eval e X.env)::starEach [] X.env:=by rfl)
  (hb:∀{ta:TE} {t:TA},PE X (.Name x p1) ta->PA X [e] t->PE X (.Call (.Attribute (.Name x p1) "extend" p2) [e] [] pos') (vj X.K "list" DX ta t):=by intro ta t h1 h2;exact ur PySem.F.plainAttrs_list PySem.F.slot_list_extend PySem.F.type_list_extend Ml h1 h2) :
  PX X (.Expr (.Call (.Attribute (.Name x p1) "extend" p2) [e] [] pos') pos) (sL i te):=by
 obtain⟨t,p,q⟩:=he;refine⟨_,xw (hb (mU hN hv hd fK) (jO p lz fE)),fun ρ σ G0 H0 G H D E k h g=>?_⟩;unfold sL at h;split at h
 ·rename_i ds hg;obtain⟨a,xs,h1,h2,h3,h4,h5⟩:=k.ow i ds hg;refine⟨_,h1,.inl ⟨rfl,xs,eW.of h2⟩,q ρ σ G0 H0 G H _ _ k h fun v H' r G' x1 rr hq=>?_⟩;split at hq
  ·rename_i es;obtain⟨b,zs,rfl,b1,b2,b3,b4⟩:=rr;have k2:=k.ext x1;refine⟨a,b,xs,zs,rfl,rfl,x1.h _ _ h2,b3,by rw[h5.length,b4.length];exact hq.1,?_⟩;exact g.nx _ _ G' _ x1.g (k2.change hg h1 ((h5.mono x1.g).append b4)) hq.2
  ·exact hq.elim
 ·exact h.elim
def xy(j i:Nat):TX:=fun D ρ=>match gt ρ i with
 | .ow ds=>∃d,ds[ds.length-1]?=some d/\D.nx ((ρ.set i (.ow ds.dropLast)).set j (.fz d))
 | _=>False
theorem bD.dropLast{K:PySem.W.Frag}{H:Hp}{vs:List V}{ds:List D}(h:bD K H vs ds):bD K H vs.dropLast ds.dropLast:=by
 rw[List.dropLast_eq_take,List.dropLast_eq_take,h.length];exact h.take _
end
end L2
namespace L2
open PySem PySem.Spec PyProof.Rows
section
variable {κ:Type} [DecidableEq κ]
noncomputable def gN(bF:List (κ×V))(k:κ):Option V:=(bF.find? fun kv=>decide (kv.1=k)).map (·.2)
noncomputable def o4(bF:List (κ×V))(k:κ)(v:V):List (κ×V):=
 if (bF.any fun kv=>decide (kv.1=k))=true then bF.map (fun kv=>if kv.1=k then(kv.1,v) else kv) else bF++[(k,v)]
theorem EI{p:κ×V}{r:List (κ×V)}{k:κ}(e:p.1=k):gN (p::r) k=some p.2:=by simp[gN,List.find?_cons,e]
theorem EH{p:κ×V}{r:List (κ×V)}{k:κ}(e:¬p.1=k):gN (p::r) k=gN r k:=by simp[gN,List.find?_cons,e]
theorem zS(k:κ):∀bF:List (κ×V),(bF.any fun kv=>decide (kv.1=k))=(gN bF k).isSome
 | []=>rfl
 | p::r=>by
  rw[List.any_cons];by_cases e:p.1=k
  ·simp only[EI e,bf e,Bool.true_or,Option.isSome_some]
  ·rw[EH e,aw e,Bool.false_or];exact zS k r
theorem M8(bF:List (κ×V))(k:κ)(v:V):(o4 bF k v).length<=bF.length+1:=by
 unfold o4;split
 ·rw[af];omega
 ·rw[aC,aA,List.length_nil];omega
theorem i6.fJ{o:Option V}{u:Option Value}(r:i6 o u):o.isSome=u.isSome:=by
 cases o with
 | none=>cases u with
  | none=>rfl
  | some _=>exact(show False from r).elim
 | some _=>cases u with
  | none=>exact(show False from r).elim
  | some _=>rfl
theorem i6.getD{o:Option V}{u:Option Value}{d:V}{d':Value}(r:i6 o u)(rd:RelV d d'):RelV (o.getD d) (u.getD d'):=by
 cases o with
 | none=>cases u with
  | none=>exact rd
  | some _=>exact(show False from r).elim
 | some _=>cases u with
  | none=>exact(show False from r).elim
  | some _=>exact r
end
theorem Im{P:Program}{w:World}{k:Key}{u:Value}(r:RelV (kV k) u):(kn P w).is k u=true:=by
 cases k with
 | inl i=>obtain⟨t,e⟩:=(show ∃t,u=Value.int i t from r);subst e;exact Nc P w i t
 | inr x=>obtain⟨t,e⟩:=(show ∃t,u=Value.str x t from r);subst e;exact Nb P w x t
def yG(i:Expr):Prop:=∀ov iv,subscripted i false ov iv=operate [ov,iv] (getItem ov iv)
theorem KG{prog:Program}{w:World}{A:Around}{E:Value->Shared->Prop}{s:Shared}{env:Env}{value slice:Expr}{pos:Pos}{T id:String}{Q:Value->Shared->Prop}
  (hl:typeLookup (.type T) "__getitem__"=pure (some (.builtin id))) (hs:yG slice)
  (h:wpAny (model prog w) A (eval value env) (fun o bW=>wpAny (model prog w) A (eval slice env) (fun i fD=>fD.TypeIs o T/\wpAny (model prog w) A (getItem o i) Q E fD) E bW) E s) :
  wpAny (model prog w) A (eval (.Subscript value slice pos) env) Q E s:=by
 refine Subscript_ (bB h (fun o bW g0=>bB g0 (fun i fD nY=>?_) fun _ _ x=>x) fun _ _ x=>x);obtain⟨hT,nY⟩:=nY;unfold subscriptTail;refine aa ?_;rw[getitemInPython_of_ne hT.not_modules];refine aa (wpAny_specialOf hT hl ?_);have fin:wpAny (model prog w) A (subscripted slice false o i) (fun r iX=>wpAny (model prog w) A (letTemporaryGo value o r >>= fun _=>pure r) Q E iX) E fD:=by
  rw[hs o i];exact wpAny_operating (bB nY (fun r iX pA=>aa (wpAny_letTemporaryGo (ah pA))) fun _ _ x=>x)
 first
  | exact ah (aa fin)
  | exact aa (ah (aa fin))
  | exact aa fin
structure M2 (X:Cx) (o:Expr) (m:Str) (apos:Pos) (e f:Expr) (cW:Pos):Prop where
 base:attributeBase o m X.env (eval o X.env)=eval o X.env
 su:((backTo cW (starEach [e,f] X.env)).all (fun x=>!x.1)&&(backToKw cW (keywordEach [] X.env)).all (fun x=>x.1.isSome)
  && decide (([e,f]:List Expr).length+([]:List Keyword).length+(if ([]:List Keyword).isEmpty then 0 else 1)<30))=true
 line:(apos.endLine==cW.line)=true
 trees:backTo cW (starEach [e,f] X.env)=[(false,eval e X.env),(false,eval f X.env)]
section
variable {X:Cx} {pins:List (Addr×Obj)} {σ:St} {H:Hp} {s:Shared} {a:Addr} {y v:V} {u r:Value} {o:Option V} {A:Around} {E:Value->Shared->Prop}
theorem Inv.big(I:Inv X pins σ H s):sysModules<s.heap.objs.size:=by
 have h:mainGlobals<s.heap.objs.size:=(I.mod.glob.keeps I.bk).lt;exact Nat.lt_trans (by decide) h
theorem D0{h':Heap}{t':Nat}{ob:HO}(I:Inv X pins σ H s)(mu:wF (H a))(hs:Heap.SameBut a s.heap h')(he:∃q,h'.get? a=some q)(new:cH X.prog X.w (upd H a ob) h' a ob) :
  Inv X pins σ (upd H a ob) { s with heap:=h',toks:=t' }:=
 I.write (x:=a) (e:=a) mu (.inl rfl) (fun b q hb z=>(hs.2 b hb).trans z) he new
end
end L2
namespace PySem
open Sem (wp)
end PySem
namespace PySem
open Sem (wp)
end PySem
namespace PySem
open Sem (wp)
end PySem
namespace L2
open PySem PySem.Spec PyProof.Rows
noncomputable def ub:D->Option Key
 | .int i=>some (.inl i)
 | .str x=>some (.inr x)
 | _=>none
noncomputable def wK:Key->D
 | .inl i=>.int i
 | .inr x=>.str x
theorem KU{K:PySem.W.Frag}{G:Hp}{v:V}{d:D}{k:Key}(r:Rep K G v d)(h:ub d=some k):v=kV k:=by
 cases d<;>simp only[ub,aH,reduceCtorEq] at h<;>subst h<;>simp only[Rep] at r<;>subst r<;>rfl
noncomputable def look(bF:List (Key×D))(k:Key):Option D:=(bF.find? fun kv=>decide (kv.1=k)).map (·.2)
section
variable {X:Cx} {pos:Pos} {e i':Expr} {te ti tv:TD}
def Rl(i:Nat)(ti:TD):TD:=fun ρ Q=>match gt ρ i with
 | .ov (.dc bF)=>ti ρ fun rk=>∃k d,ub rk.val=some k/\look bF k=some d/\Q (.fz d)
 | _=>False
def sP(i:Nat):TX:=fun D ρ=>match gt ρ i with
 | .ov o=>D.rt (.ov o)
 | _=>False
theorem DZ(i:Nat){x:Str}{p':Pos}(hN:X.N[i]?=some x:=by rfl)(hv:j2 X.env.scope x:=by first | exact Or.inl rfl | exact Or.inr (Or.inl rfl) | exact Or.inr (Or.inr rfl))(hd:(x==("__debug__":Str))=false:=by decide)
  (fK:(x==("__classdict__":Str))=false:=by decide):PX X (.Return (some (.Name x p')) pos) (sP i):=by
 refine⟨_,zk (mU hN hv hd fK),fun ρ σ G0 H0 G H D E k h g=>?_⟩;unfold sP at h;split at h
 ·rename_i o hg;obtain⟨own,o1,o2⟩:=k.on;obtain⟨a,fp,b1,b2,b3,b4⟩:=o2 i _ hg;exact⟨_,b1,g.rt _ H (.ov o) G k.e ⟨a,fp,rfl,b2,b3,fun q hq=>⟨(b4 q hq).2.1,(b4 q hq).1⟩⟩ h⟩
 ·exact h.elim
end
end L2
namespace L2
open PySem PySem.Spec PyProof.Rows
section
variable {K:PySem.W.Frag} {G H:Hp}
theorem bO.length:∀{qs:List Addr} {cN:List (List D)},bO K G H qs cN->qs.length=cN.length
 | [],[],_=>rfl
 | q::qs,ds::cN,h=>by
  simp only[bO] at h;simp only[aA,bO.length h.2]
 | [],_::_,h=>by simp only[bO] at h
 | _::_,[],h=>by simp only[bO] at h
theorem bO.snoc{p:Addr}{ds:List D}{zs:List V}:∀{qs:List Addr} {cN:List (List D)},bO K G H qs cN->H p=some (.lst zs)->bD K G zs ds->bO K G H (qs++[p]) (cN++[ds])
 | [],[],_,h1,h2=>by simp only[List.nil_append,bO];exact⟨⟨zs,h1,h2⟩,trivial⟩
 | q::qs,es::cN,h,h1,h2=>by
  simp only[bO] at h;simp only[List.cons_append,bO];exact⟨h.1,bO.snoc h.2 h1 h2⟩
 | [],_::_,h,_,_=>by simp only[bO] at h
 | _::_,[],h,_,_=>by simp only[bO] at h
theorem bO.get:∀{qs:List Addr} {cN:List (List D)} {j:Nat} {ds:List D},bO K G H qs cN->cN[j]?=some ds->∃q xs,qs[j]?=some q/\H q=some (.lst xs)/\bD K G xs ds
 | [],[],j,ds,_,e=>by simp at e
 | q::qs,es::cN,0,ds,h,e=>by
  simp only[bO] at h;simp only[List.getElem?_cons_zero,aH] at e;subst e;obtain⟨⟨xs,h1,h2⟩,_⟩:=h;exact⟨q,xs,rfl,h1,h2⟩
 | q::qs,es::cN,j+1,ds,h,e=>by
  simp only[bO] at h;simp only[List.getElem?_cons_succ] at e ⊢;exact bO.get h.2 e
 | [],_::_,_,_,h,_=>by simp only[bO] at h
 | _::_,[],_,_,h,_=>by simp only[bO] at h
theorem bO.set{q:Addr}{ys:List V}{es:List D}(hy:bD K G ys es):∀{qs:List Addr} {cN:List (List D)} {j:Nat},bO K G H qs cN->qs.Nodup->qs[j]?=some q->bO K G (upd H q (.lst ys)) qs (cN.set j es)
 | [],[],j,_,_,e=>by simp at e
 | r::qs,ds::cN,0,h,nd,e=>by
  simp only[bO] at h;simp only[List.getElem?_cons_zero,aH] at e;subst e;simp only[List.set_cons_zero,bO];refine⟨⟨ys,fP,hy⟩,h.2.mono (bM.refl _) fun p hp xs e=>?_⟩;rw[cM (fun z:p=r=>(aX.mp nd).1 (z▸hp))];exact e
 | r::qs,ds::cN,j+1,h,nd,e=>by
  simp only[bO] at h;simp only[List.getElem?_cons_succ] at e;simp only[List.set_cons_succ,bO];refine⟨?_,bO.set hy h.2 (aX.mp nd).2 e⟩;obtain⟨⟨xs,h1,h2⟩,_⟩:=h;refine⟨xs,?_,h2⟩;rw[cM (fun z:r=q=>(aX.mp nd).1 (z▸av e))];exact h1
 | [],_::_,_,h,_,_=>by simp only[bO] at h
 | _::_,[],_,h,_,_=>by simp only[bO] at h
end
def rh(wi:i4)(m:List (Option Nat))(g:i5)(tc:gU)(te:TD):TD:=fun ρ Q=>wi ρ fun ds=>∃Iv:Nat->List (List D)->Prop,Iv 0 []/\
 (∀i d acc,ds[i]?=some d->Iv i acc->g d (ff m ρ) fun ee=>tc ee fun b=>if b=true then te ee fun r=>match r with
  | .ow es=>acc.length<sizeLine/\Iv (i+1) (acc++[es])
  | _=>False
  else Iv (i+1) acc)/\∀acc,Iv ds.length acc->Q (.ov (.ll acc))
section
variable {X:Cx} {elt iter tg:Expr} {ifs:List Expr} {scope:Scope} {pos:Pos} {N':List Str} {m:List (Option Nat)} {wi:i4} {g:i5} {tc:gU} {te:TD}
theorem EG(cs:ck X N' m scope)(hk:oE m g){ww:TI}{gg:nq TG}{vh:nq TT}{tee:nq TE}
  (q1:∀(ρ:Ev) (σ:St) (G0 H0 G H:Hp) (Q:List D->Prop) (P:It->Hp->Prop),cJ X.K G0 H0 ρ σ G H->wi ρ Q->(∀J H' ds G',Ext G H G' H'->mL X.K J G' ds->Q ds->P J H')->ww σ H P)
  (q2:∀s3 H3 ex (ρ:Ev) (σ:St) (G0 H0 G H:Hp) (d:D) (v:V) (Q:Ev->Prop) (P:St->Hp->Prop),cJ X.K G0 H0 ρ σ G H->Rep X.K G v d->g d ρ Q->(∀ρ' bY G' H',cJ X.K G0 H0 ρ' bY G' H'->Ext G H G' H'->Q ρ'->P bY H')->gg s3 H3 ex v σ H P)
  (q3:∀s3 H3 ex (ρ:Ev) (σ:St) (G0 H0 G H:Hp) (Q:Bool->Prop) (P:Bool->Hp->Prop),cJ X.K G0 H0 ρ σ G H->tc ρ Q->(∀b H' G',Ext G H G' H'->Q b->P b H')->vh s3 H3 ex σ H P)
  (q4:∀s3 H3 ex,nr X.K te (tee s3 H3 ex)):nr X.K (rh wi m g tc te) (uq ww m gg vh tee):=by
 refine fun ρ σ G0 H0 G H Q P E h k=>q1 ρ σ G0 H0 G H _ _ E h fun J H1 ds G1 x1 wk hq=>?_
 obtain⟨Iv,i0,turn,fin⟩:=hq;intro D hD s3 ex;have E1:=E.ext x1;have B4:G1 D=none:=x1.s.free hD;have gX:∀{i:Nat} {es:List L2.D},gt (ff m ρ) i=.ow es->False:=fun{i es} h=>by
  unfold ff at h;rw[oF] at h;split at h
  ·rename_i o _;unfold oz at h;split at h
   ·cases h
   ·split at h<;>cases h
  ·cases h
 have nS:∀{i:Nat} {o:OV},gt (ff m ρ) i=.ov o->False:=fun{i o} h=>by
  unfold ff at h;rw[oF] at h;split at h
  ·rename_i o _;unfold oz at h;split at h
   ·cases h
   ·split at h<;>cases h
  ·cases h
 have start:cJ X.K G1 H1 (ff m ρ) (lL m σ) G1 (upd H1 D (.lst [])):=by
  refine⟨.own x1.s hD,by simp[lL,ff],fun i d h=>?_,fun i es h=>(gX h).elim,fun i j es fs _ h=>(gX h).elim,fun _=>none,fun i es _ h=>(gX h).elim,fun i o h=>(nS h).elim⟩;unfold ff at h;rw[oF] at h;split at h
  ·rename_i o ho;unfold oz at h;split at h
   ·cases h
   ·rename_i j;split at h
    ·rename_i d' vY;cases h;obtain⟨v,hv,rv⟩:=E1.fz j d vY;refine⟨v,?_,rv⟩;unfold lL;rw[aj,ho];simp[hv]
    ·cases h
  ·cases h
 refine⟨fun i n bY H'=>n=ds.length-i/\i<=ds.length/\∃acc fp G',cJ X.K G1 H1 (ff m ρ) bY G' H'/\H' D=some (.lst (fp.map V.ref))/\G' D=none/\bO X.K G' H' fp acc/\(D::fp).Nodup/\(∀q∈fp,H1 q=none/\G' q=none)/\Iv i acc,
  ⟨ds.length,by simp,bc _,[],[],G1,start,fP,B4,by simp only[bO],by simp,fun q hq=>(by cases hq),i0⟩,?_⟩
 rintro i n bY H' ⟨rfl,hi,acc,fp,G',E',hx,vV,rx,nd,fr,iv⟩;by_cases gf:i<ds.length
 ·obtain⟨w1,w2⟩:=wk;obtain⟨go,yl⟩:=w1 i ds[i] G' H' (ae gf) E'.e.g E'.e.s;refine .inr ⟨go,fun i7 H2=>∃acc fp G',cJ X.K G1 H1 (ff m ρ) i7 G' H2/\H2 D=some (.lst (fp.map V.ref))/\G' D=none/\bO X.K G' H2 fp acc/\(D::fp).Nodup/\(∀q∈fp,H1 q=none/\G' q=none)/\Iv (i+1) acc,fun i7 H2 h2=>⟨ds.length-(i+1),by omega,rfl,gf,h2⟩,fun v H2 hy=>?_⟩;obtain⟨G2,x2,rv⟩:=yl v H2 hy;refine q2 _ _ _ (ff m ρ) bY G1 H1 G2 H2 ds[i] v _ _ (E'.ext x2) rv (hk _ _ _ (turn i ds[i] acc (ae gf) iv)) fun o3 jh G3 H3 E3 x3 eh=>?_
  obtain⟨eh,BJ,BM⟩:=eh;have weak:∀j,gt (ff m ρ) j=.un\/gt (ff m ρ) j=gt o3 j:=fun j=>by
   cases hm:m[j]? with
   | none=>left;unfold ff;rw[oF,hm]
   | some o=>
    cases o with
    | none=>left;unfold ff;rw[oF,hm];rfl
    | some c=>right;exact(BM j c hm).symm
  have AI:=x2.trans x3;refine q3 _ _ _ o3 jh G1 H1 G3 H3 _ _ E3 eh fun b H4 G4 x4 pC=>?_
  have jo:=AI.trans x4;have E4:=(E3.ext x4).weak (ρ':=ff m ρ) (BJ.symm) weak;have qz:H4 D=some (.lst (fp.map V.ref)):=jo.h _ _ hx;have vU:G4 D=none:=jo.n D vV (by rw[hx];exact nofun);have r4:bO X.K G4 H4 fp acc:=rx.mono jo.g fun q _ zs e=>jo.h _ _ e
  have tT:∀q∈fp,H1 q=none/\G4 q=none:=fun q hq=>⟨(fr q hq).1,jo.n q (fr q hq).2 (rx.here q hq)⟩
  cases b with
  | false=>
   rw[if_neg ax] at pC ⊢;exact⟨acc,fp,G4,E4,qz,vU,r4,nd,tT,pC⟩
  | true=>
   rw[if_pos rfl] at pC ⊢;refine q4 _ _ _ o3 jh G1 H1 G4 H4 _ _ (E3.ext x4) pC fun v5 H5 r5 G5 x5 rK iP=>?_
   split at iP
   ·rename_i es;obtain⟨p,zs,rfl,c1,c2,c3,c4⟩:=rK;have E6:=E4.ext x5;have Bo:H5 D=some (.lst (fp.map V.ref)):=x5.h _ _ qz;have vT:G5 D=none:=x5.n D vU (by rw[qz];exact nofun);have Gb:p≠D:=fun z=>by rw[z,qz] at c1;cases c1
    have PM:p∉fp:=fun z=>r4.here p z c1
    have QC:D∉fp:=fun z=>(aX.mp nd).1 z
    have r6:bO X.K G5 (upd H5 D (.lst ((fp++[p]).map V.ref))) (fp++[p]) (acc++[es]):=by
     refine bO.snoc (r4.mono x5.g fun q hq ys e=>?_) ?_ c4
     ·rw[cM (fun z:q=D=>QC (z▸hq))];exact x5.h _ _ e
     ·rw[cM Gb];exact c3
    refine⟨fp.map V.ref,Bo,by rw[af,r4.length];exact iP.1,acc++[es],fp++[p],G5,?_,by rw[show fp.map V.ref++[V.ref p]=(fp++[p]).map V.ref by simp];exact fP,vT,by rw[show fp.map V.ref++[V.ref p]=(fp++[p]).map V.ref by simp];exact r6,?_,fun q hq=>?_,iP.2⟩
    ·refine⟨⟨E6.e.g,fun b o e=>by rw[cM (iN e hD)];exact E6.e.h b o e,fun b o e=>by rw[cM (iN e vT)];exact E6.e.s b o e,E6.e.n⟩,E6.len,E6.fz,fun i es h=>(gX h).elim,fun i j es fs _ h=>(gX h).elim,fun _=>none,fun i es _ h=>(gX h).elim,fun i o h=>(nS h).elim⟩
    ·rw[aX] at nd ⊢;refine⟨fun z=>?_,?_⟩
     ·rcases aI.mp z with z | z
      ·exact nd.1 z
      ·simp at z;exact Gb z.symm
     ·rw[List.nodup_append];refine⟨nd.2,by simp,fun a ha b hb=>?_⟩;simp at hb;subst hb;exact fun z=>PM (z▸ha)
    ·rcases aI.mp hq with hq | hq
     ·exact⟨(tT q hq).1,x5.n q (tT q hq).2 (r4.here q hq)⟩
     ·simp at hq;subst hq;exact⟨E4.e.h.free c1,c2⟩
   ·exact iP.elim
 ·have e:i=ds.length:=by omega
  subst e;refine .inl ⟨wk.2 G' H' E'.e.g E'.e.s,k _ H' (.ov (.ll acc)) G' (x1.trans E'.e) ⟨D,fp,rfl,nd,⟨hx,rx⟩,fun q hq=>?_⟩ (fin acc iv)⟩;rcases au.mp hq with rfl | hq
  ·exact⟨x1.h.free hD,vV⟩
  ·exact⟨x1.h.free (fr q hq).1,(fr q hq).2⟩
theorem KS(hc:X.calm=true)(cs:ck X N' m scope)(hk:oE m g)(hi:PId X tg iter wi)(hg:∀s3 H3 ex,qO (gT X N' scope s3 H3 ex) tg g)(ht:∀s3 H3 ex,t6 (gT X N' scope s3 H3 ex) ifs tc)
  (he:∀s3 H3 ex,PD (gT X N' scope s3 H3 ex) elt te) (hs:∀x,foldedSetIterable iter X.env x=pure x:=by intro _;rfl):PD X (.ListComp elt [⟨tg,iter,ifs,0⟩] scope pos) (rh wi m g tc te):=by
 obtain⟨ww,p1,q1⟩:=hi;exact⟨_,DW (g:=fun s3 H3 ex=>(hg s3 H3 ex).choose) (tc:=fun s3 H3 ex=>(ht s3 H3 ex).choose) (te:=fun s3 H3 ex=>(he s3 H3 ex).choose) hc cs p1 (fun s3 H3 ex=>(hg s3 H3 ex).choose_spec.1) (fun s3 H3 ex=>(ht s3 H3 ex).choose_spec.1) (fun s3 H3 ex=>(he s3 H3 ex).choose_spec.1) hs,
  EG cs hk q1 (fun s3 H3 ex=>(hg s3 H3 ex).choose_spec.2) (fun s3 H3 ex=>(ht s3 H3 ex).choose_spec.2) (fun s3 H3 ex=>(he s3 H3 ex).choose_spec.2)⟩
theorem KR(i:Nat){x:Str}{pos' jT:Pos}(hc:X.calm=true)(cs:ck X N' m scope)(hk:oE m g)(hi:PId X tg iter wi)(hg:∀s3 H3 ex,qO (gT X N' scope s3 H3 ex) tg g)(ht:∀s3 H3 ex,t6 (gT X N' scope s3 H3 ex) ifs tc)
  (he:∀s3 H3 ex,PD (gT X N' scope s3 H3 ex) elt te) (hN:X.N.Nodup:=by assumption) (oQ:X.N[i]?=some x:=by rfl) (hx:Loc X.env.scope x:=by first | exact Or.inl rfl | exact Or.inr rfl) (hs:∀x,foldedSetIterable iter X.env x=pure x:=by intro _;rfl)
  (vG:swapsWith (.ListComp elt [⟨tg,iter,ifs,0⟩] scope pos) (some (.Name x pos')) jT.line X.env=pure true:=by rfl)
  (hf:X.fn x=true\/X.env.scope.names.lookup x=some .local:=by first | exact .inl rfl | exact .inr rfl | assumption) :
  PX X (.Assign [.Name x pos'] (.ListComp elt [⟨tg,iter,ifs,0⟩] scope pos) jT) (l6 i (rh wi m g tc te)):=by
 obtain⟨ww,p1,q1⟩:=hi;refine⟨_,DV (g:=fun s3 H3 ex=>(hg s3 H3 ex).choose) (tc:=fun s3 H3 ex=>(ht s3 H3 ex).choose) (te:=fun s3 H3 ex=>(he s3 H3 ex).choose) hN oQ hx hc cs p1 (fun s3 H3 ex=>(hg s3 H3 ex).choose_spec.1) (fun s3 H3 ex=>(ht s3 H3 ex).choose_spec.1) (fun s3 H3 ex=>(he s3 H3 ex).choose_spec.1) hs vG hf,fun ρ σ G0 H0 G H D E k h gg=>?_⟩;exact EG cs hk q1 (fun s3 H3 ex=>(hg s3 H3 ex).choose_spec.2) (fun s3 H3 ex=>(ht s3 H3 ex).choose_spec.2) (fun s3 H3 ex=>(he s3 H3 ex).choose_spec.2) ρ σ G0 H0 G H _ _ k h fun v H' r G' x rr hq=>gg.nx _ _ G' H' x.g (k.put x rr) hq
end
end L2
namespace L2
open PySem PySem.Spec PyProof.Rows
end L2
namespace L2
open PySem PySem.Spec PyProof.Rows
section
variable {X:Cx} {pos:Pos} {e i':Expr} {te ti:TD}
noncomputable def pairsOf:List D->Option (List (Key×D))
 | []=>some []
 | .tup [k,v]::r=>match ub k with
  | some key=>(pairsOf r).map ((key,v)::·)
  | none=>none
 | _=>none
def Rj(j i:Nat)(ti:TD):TX:=fun D ρ=>match gt ρ i with
 | .ow ds=>ti ρ fun rk=>match rk.val with
  | .int k=>∃n d,-(2 ^ 63)<=k/\k<2 ^ 63/\jV ds.length k=some n/\ds[n]?=some d/\D.nx ((ρ.set i (.ow (ds.eraseIdx n))).set j (.fz d))
  | _=>False
 | _=>False
def yF(ta tb:TD):TD:=fun ρ Q=>ta ρ fun ra=>tb ρ fun rb=>match ra,rb.val with
 | .ow ds,.int k=>-(2 ^ 63)<=k/\k<2 ^ 63/\ds.length*k.toNat<=sizeLine/\Q (.ow (List.replicate k.toNat ds).flatten)
 | _,_=>False
theorem bD.rep{K:PySem.W.Frag}{H:Hp}{vs:List V}{ds:List D}(h:bD K H vs ds):∀k:Nat,bD K H (List.replicate k vs).flatten (List.replicate k ds).flatten
 | 0=>bD.nil
 | k+1=>by
  rw[List.replicate_succ,List.replicate_succ,List.flatten_cons,List.flatten_cons];exact h.append (bD.rep h k)
theorem IX{a b:Expr}{ta tb:TD}(ha:PD X a ta)(hb:PD X b tb):PD X (.BinOp a .Mult b pos) (yF ta tb):=by
 obtain⟨t1,p1,q1⟩:=ha;obtain⟨t2,p2,q2⟩:=hb;refine⟨_,C4 Ir p1 p2,fun ρ σ G0 H0 G H Q P E h k=>?_⟩;refine q1 ρ σ G0 H0 G H _ _ E h fun v H1 ra G1 x1 AY mw=>?_
 refine q2 ρ σ G0 H0 G1 H1 _ _ (E.ext x1) mw fun u H2 rb G2 x2 vp ig=>?_
 obtain⟨G3,x3,jR,_⟩:=vp.freeze x2;split at ig
 ·rename_i ds kk e1;obtain⟨p,xs,rfl,c1,c2,c3,c4⟩:=AY;rw[e1] at jR;simp only[Rep] at jR;have lE:=x1.trans x3;refine⟨p,kk,xs,rfl,jR,x3.h _ _ c3,ig.1,ig.2.1,by rw[c4.length];exact ig.2.2.1,fun l hl=>?_⟩;exact k _ _ (.ow _) G3 (lE.trans (.own lE.s hl)) ⟨l,_,rfl,lE.h.free hl,lE.s.free hl,fP,(c4.mono x3.g).rep kk.toNat⟩ ig.2.2.2
 ·exact ig.elim
end
end L2
namespace L2
open PySem PySem.Spec PyProof.Rows
section
variable {X:Cx} {tg:Expr}
theorem KD{K:PySem.W.Frag}{G:Hp}(k:Key):Rep K G (kV k) (wK k):=by
 cases k<;>simp only[wK,Rep]<;>rfl
end
end L2
namespace HT
open PySem PyProof.Rows
noncomputable def qv:List Int->List Int->Bool
 | [],[]=>false
 | [],_::_=>false
 | _::_,[]=>true
 | x::xs,y::ys=>if x=y then qv xs ys else decide (y<x)
end HT
namespace L2
open PySem PySem.Spec PyProof.Rows
end L2
namespace HT
end HT
namespace L2
open PySem PySem.Spec PyProof.Rows
end L2
namespace L2
open PySem PySem.Spec PyProof.Rows
end L2
namespace L2
open PySem PySem.Spec PyProof.Rows
section
variable {X:Cx} {pos:Pos} {e:Expr} {te:TD}
theorem Il{K:PySem.W.Frag}{G:Hp}{vs:List V}{a b c:D}(r:bD K G vs [a,b,c]):∃x y z,vs=[x,y,z]/\Rep K G x a/\Rep K G y b/\Rep K G z c:=by
 match vs,r with
 | [x,y,z],r=>simp only[bD] at r;exact⟨x,y,z,rfl,r.1,r.2.1,r.2.2.1⟩
 | [],r=>simp only[bD] at r
 | [_],r=>simp only[bD] at r;exact r.2.elim
 | [_,_],r=>simp only[bD] at r;exact r.2.2.elim
 | _::_::_::_::_,r=>simp only[bD] at r;exact r.2.2.2.elim
end
end L2
namespace Ts
open PySem PyProof.Rows
variable {M:Model} {A:Around} {E:Value->Shared->Prop} {s:Shared}
end Ts
namespace Ts
open PySem PyProof.Rows
variable {α:Type} (rk:α->Int)
variable {rk}
end Ts
namespace Ts
open PySem PyProof.Rows
variable {M:Model} {A:Around} {E:Value->Shared->Prop} {s:Shared}
def sH(rk:Keyed->Int)(l:List Keyed):Prop:=l.Pairwise fun x y=>rk x<=rk y
noncomputable abbrev dk:Keyed:=(Value.none,Value.none)
end Ts
namespace Ts
open PySem PyProof.Rows
end Ts
namespace Ts
open PySem PyProof.Rows
variable {M:Model} {A:Around} {E:Value->Shared->Prop} {s:Shared}
end Ts
namespace Ts
open PySem PyProof.Rows
variable {M:Model} {A:Around} {E:Value->Shared->Prop} {s:Shared}
end Ts
namespace Ts
open PySem PyProof.Rows
noncomputable def kr(rk:Keyed->Int)(xs:Array Keyed)(i:Nat):Int:=rk (xs.getD i dk)
variable {M:Model} {A:Around} {E:Value->Shared->Prop} {s:Shared}
end Ts
namespace Ts
open PySem PyProof.Rows
variable {M:Model} {A:Around} {E:Value->Shared->Prop} {s:Shared}
end Ts
namespace Ts
open PySem PyProof.Rows
variable {M:Model} {A:Around} {E:Value->Shared->Prop} {s:Shared}
end Ts
namespace Ts
open PySem PyProof.Rows
variable {M:Model} {A:Around} {E:Value->Shared->Prop} {s:Shared}
end Ts
namespace Ts
open PySem PySem.W PyProof.Rows
section
variable {n N:Nat} {r:Nat->Int} {cmp:Nat->Nat->(Bool->Shared->Prop)->Shared->Prop} {s:Shared} {p:Array Nat} {i j k m:Nat}
noncomputable def kp(r:Nat->Int)(p:Array Nat)(i:Nat):Int:=r (p.getD i 0)
def Pm(n:Nat)(p:Array Nat):Prop:=p.toList.Perm (List.range n)
def Up(r:Nat->Int)(p:Array Nat)(m:Nat):Prop:=∀i j,i<=j->j<m->kp r p i<=kp r p j
abbrev Dn(r:Nat->Int):Array Nat->Nat->Prop:=Up fun x=>-r x
abbrev Cm(n:Nat)(r:Nat->Int)(cmp:Nat->Nat->(Bool->Shared->Prop)->Shared->Prop)(s:Shared):Prop:=∀i j (C:Bool->Shared->Prop),i<n->j<n->C (decide (r i<r j)) s->cmp i j C s
theorem Pm.size(h:Pm n p):p.size=n:=by have:=h.length_eq;simpa using this
theorem Pm.lt(h:Pm n p)(hn:0<n)(i:Nat):p.getD i 0<n:=by
 by_cases hi:i<p.size
 ·have e:p.getD i 0=p[i]:=by simp[Array.getD,hi]
  rw[e];exact List.mem_range.mp (h.mem_iff.mp (by simp))
 ·have e:p.getD i 0=0:=by simp[Array.getD,hi]
  rw[e];exact hn
theorem Pm.to{q:Array Nat}(h:Pm n p)(k:q.Perm p):Pm n q:=(Array.perm_iff_toList_perm.mp k).trans h
theorem uN{q:Array Nat}(h:p[i]?=q[j]?):kp r p i=kp r q j:=by
 unfold kp;rw[Array.getD_eq_getD_getElem?,Array.getD_eq_getD_getElem?,h]
theorem jJ:kp (fun x=>-r x) p i=-kp r p i:=rfl
theorem Up.more(u:Up r p m)(h1:1<=m)(h:kp r p (m-1)<=kp r p m):Up r p (m+1):=fun i j oT hj=>by
 by_cases e:j<m
 ·exact u i j oT e
 ·obtain rfl:j=m:=by omega
  by_cases e2:i=j
  ·subst e2;exact Int.le_refl _
  ·exact Int.le_trans (u i (j-1) (by omega) (by omega)) h
theorem Up.same{q:Array Nat}(u:Up r p m)(h:∀i,kp r q i=kp r p i):Up r q m:=fun i j a b=>by rw[h,h];exact u i j a b
theorem zf(hj:j<=p.size)(k:Nat):kp r (kas_rev p i j) k=if i<=k/\k<j then kp r p (i+j-1-k) else kp r p k:=by
 have e:=getElem?_mirror_all (i:=i) hj k;by_cases h1:i<=k/\k<j
 ·rw[if_pos h1] at e ⊢;exact uN e
 ·rw[if_neg h1] at e ⊢;exact uN e
theorem zd(hj:j<=p.size)(heq:∀k,i<=k->k<j->kp r p k=kp r p (j-1))(k:Nat):kp r (kas_rev p i j) k=kp r p k:=by
 rw[zf hj];by_cases h:i<=k/\k<j
 ·rw[if_pos h,heq _ (by omega) (by omega),heq k h.1 h.2]
 ·rw[if_neg h]
theorem Up.turn(u:Dn r p m)(hm:m<=p.size):Up r (kas_rev p 0 m) m:=fun i j oT hj=>by
 rw[zf hm,zf hm,if_pos ⟨bc _,by omega⟩,if_pos ⟨bc _,hj⟩];have:=u (0+m-1-j) (0+m-1-i) (by omega) (by omega);rw[jJ,jJ] at this;omega
theorem Pm.rev(h:Pm n p):Pm n (kas_rev p i j):=h.to (mirror_perm _ _ _ _)
theorem zc(hc:Cm n r cmp s)(hn:0<n)(hp:Pm n p){G:Nat->Shared->Prop}:∀k m,1<=m->m+k=N->Up r p m->(∀m',1<=m'->m'<=N->Up r p m'->(m'<N->kp r p m'<kp r p (m'-1))->G m' s)->(kas_asc p k m).kasWp cmp G s
 | 0,m,h1,e,u,g=>g m h1 (by omega) u (by omega)
 | k+1,m,h1,e,u,g=>by
  refine hc _ _ _ (hp.lt hn _) (hp.lt hn _) ?_;by_cases h:kp r p m<kp r p (m-1)
  ·rw[show decide (r (p.getD m 0)<r (p.getD (m-1) 0))=true from bf h];exact g m h1 (by omega) u fun _=>h
  ·rw[show decide (r (p.getD m 0)<r (p.getD (m-1) 0))=false from aw h];exact zc hc hn hp k (m+1) (by omega) (by omega) (u.more h1 (by omega)) g
theorem xx(hc:Cm n r cmp s)(hn:0<n)(hN:N<=n){G:Array Nat×Nat×Nat->Shared->Prop}(g:∀p m q,Pm n p->1<=m->m<=N->Dn r p m->q<m->(∀t,t<=q->kp r p (m-1-t)=kp r p (m-1))->G (p,m,q) s) :
  ∀k p m q,Pm n p->1<=m->m+k=N->Dn r p m->q<m->(∀t,t<=q->kp r p (m-1-t)=kp r p (m-1))->(kas_desc k p m q).kasWp cmp G s
 | 0,p,m,q,hp,h1,e,d,hq,eq=>g p m q hp h1 (by omega) d hq eq
 | k+1,p,m,q,hp,h1,e,d,hq,eq=>by
  have hsz:=hp.size;refine hc _ _ _ (hp.lt hn _) (hp.lt hn _) ?_;by_cases h:kp r p m<kp r p (m-1)
  ·rw[show decide (r (p.getD m 0)<r (p.getD (m-1) 0))=true from bf h];simp only[bC];by_cases c:q>0
   ·rw[if_pos c];have km:=zd (r:=r) (p:=p) (i:=m-(q+1)) (j:=m) (by omega) fun x a b=>by
     have:=eq (m-1-x) (by omega);rwa [show m-1-(m-1-x)=x by omega] at this
    refine xx hc hn hN g k _ (m+1) 0 hp.rev (by omega) (by omega) (Up.more (d.same fun x=>by rw[jJ,jJ,km]) h1 ?_) (by omega) fun t ht=>by rw[show t=0 by omega];rfl
    rw[jJ,jJ,km,km];omega
   ·rw[if_neg c];refine xx hc hn hN g k _ (m+1) 0 hp (by omega) (by omega) (Up.more d h1 ?_) (by omega) fun t ht=>by rw[show t=0 by omega];rfl
    rw[jJ,jJ];omega
  ·rw[show decide (r (p.getD m 0)<r (p.getD (m-1) 0))=false from aw h];simp only[aV,br];refine hc _ _ _ (hp.lt hn _) (hp.lt hn _) ?_;by_cases h2:kp r p (m-1)<kp r p m
   ·rw[show decide (r (p.getD (m-1) 0)<r (p.getD m 0))=true from bf h2];exact g p m q hp h1 (by omega) d hq eq
   ·rw[show decide (r (p.getD (m-1) 0)<r (p.getD m 0))=false from aw h2];refine xx hc hn hN g k _ (m+1) (q+1) hp (by omega) (by omega) (Up.more d h1 ?_) (by omega) fun t ht=>?_
    ·rw[jJ,jJ];omega
    ·by_cases t0:t=0
     ·subst t0;rfl
     ·have:=eq (t-1) (by omega);rw[show m+1-1-t=m-1-(t-1) by omega,this,show m+1-1=m by omega];omega
section
variable {G:Nat×Array Nat->Shared->Prop} (g:∀m p,Pm n p->1<=m->m<=N->Up r p m->G (m,p) s)
include g
theorem EF(hc:Cm n r cmp s)(hn:0<n)(hN:N<=n)(hp:Pm n p)(h1:1<=m)(hm:m<=N)(d:Dn r p m):(kas_tail3 m N p).kasWp cmp G s:=by
 unfold kas_tail3;rw[KasT.kasWp_bind];exact zc (N:=N) hc hn hp.rev (N-m) m h1 (by omega) (Up.turn d (by rw[hp.size];omega)) fun m' a b u _=>g m' _ hp.rev a b u
theorem Fw(hc:Cm n r cmp s)(hn:0<n)(hN:N<=n)(hp:Pm n p)(hm:m+1<=N)(d:Dn r p (m+1)):(kas_descPart m N p).kasWp cmp G s:=by
 unfold kas_descPart;rw[KasT.kasWp_bind];refine xx hc hn hN (fun p m q hp h1 hm d hq eq=>?_) (N-(m+1)) p (m+1) 0 hp (by omega) (by omega) d (by omega) fun t ht=>by rw[show t=0 by omega];rfl
 have hsz:=hp.size;dsimp only;by_cases c:q>0
 ·rw[if_pos c];have km:=zd (r:=r) (p:=p) (i:=m-(q+1)) (j:=m) (by omega) fun x a b=>by
   have:=eq (m-1-x) (by omega);rwa [show m-1-(m-1-x)=x by omega] at this
  exact EF g hc hn hN hp.rev h1 hm (d.same fun x=>by rw[jJ,jJ,km])
 ·rw[if_neg c];exact EF g hc hn hN hp h1 hm d
theorem KQ(hc:Cm n r cmp s)(hn:0<n)(hN:N<=n)(h1:1<=N)(hp:Pm n p):(kas_count N p).kasWp cmp G s:=by
 unfold kas_count;rw[KasT.kasWp_bind];refine zc (N:=N) hc hn hp (N-1) 1 (az _) (by omega) (fun i j a b=>by rw[show i=j by omega];exact Int.le_refl _) fun m a b u hd=>?_
 by_cases e:m=N
 ·rw[if_pos (by simpa using e)];exact g m p hp a b u
 rw[if_neg (by simpa using e)];have RJ:=hd (by omega);have hsz:=hp.size;by_cases c:m>1
 ·rw[if_pos c];refine hc _ _ _ (hp.lt hn _) (hp.lt hn _) ?_;by_cases h:kp r p 0<kp r p (m-1)
  ·rw[show decide (r (p.getD 0 0)<r (p.getD (m-1) 0))=true from bf h];exact g m p hp a b u
  ·rw[show decide (r (p.getD 0 0)<r (p.getD (m-1) 0))=false from aw h];have same:∀x,0<=x->x<m->kp r p x=kp r p (m-1):=fun x _ hx=>by
    have:=u 0 x (bc _) hx;have:=u x (m-1) (by omega) (by omega);omega
   have km:=zd (r:=r) (p:=p) (i:=0) (j:=m) (by omega) same;refine Fw g hc hn hN hp.rev (by omega) (Up.more (fun i j oT hj=>?_) a ?_)
   ·rw[jJ,jJ,km,km,same i (bc _) (by omega),same j (bc _) hj];exact Int.le_refl _
   ·rw[jJ,jJ,km,km];omega
 ·rw[if_neg c];obtain rfl:m=1:=by omega
  refine Fw g hc hn hN hp (by omega) (Up.more (fun i j oT hj=>by rw[show i=j by omega];exact Int.le_refl _) (az _) ?_);rw[jJ,jJ];omega
end
theorem zR(hc:Cm n r cmp s)(hn:0<n)(hp:Pm n p)(u:Up r p k){G:Nat->Shared->Prop}(g:∀l,l<=k->(∀i,i<l->kp r p i<=kp r p k)->(∀i,l<=i->i<k->kp r p k<kp r p i)->G l s) :
  ∀f l h,l<=h->h<=k->h-l<=f->(∀i,i<l->kp r p i<=kp r p k)->(∀i,h<=i->i<k->kp r p k<kp r p i)->(kas_place p k f l h).kasWp cmp G s
 | 0,l,h,a,b,c,lo,hi=>g l (by omega) lo fun i x y=>hi i (by omega) y
 | f+1,l,h,a,b,c,lo,hi=>by
  unfold kas_place;by_cases e:l>=h
  ·rw[if_pos e];exact g l (by omega) lo fun i x y=>hi i (by omega) y
  ·rw[if_neg e];refine hc _ _ _ (hp.lt hn _) (hp.lt hn _) ?_;by_cases q:kp r p k<kp r p ((l+h)/2)
   ·rw[show decide (r (p.getD k 0)<r (p.getD ((l+h)/2) 0))=true from bf q];exact zR hc hn hp u g f l _ (by omega) (by omega) (by omega) lo fun i x y=>Int.lt_of_lt_of_le q (u _ i x y)
   ·rw[show decide (r (p.getD k 0)<r (p.getD ((l+h)/2) 0))=false from aw q];exact zR hc hn hp u g f _ h (by omega) b (by omega) (fun i x=>Int.le_trans (u i _ (by omega) (by omega)) (Int.not_lt.mp q)) hi
theorem Dp(hc:Cm n r cmp s)(hn:0<n){G:Array Nat->Shared->Prop}(g:∀p,Pm n p->Up r p n->G p s):∀f p k,Pm n p->k+f=n->Up r p k->(kas_bin f p k).kasWp cmp G s
 | 0,p,k,hp,e,u=>g p hp (by rwa [show n=k by omega])
 | f+1,p,k,hp,e,u=>by
  unfold kas_bin;rw[KasT.kasWp_bind];refine zR hc hn hp u (fun l hl lo hi=>?_) k 0 k (bc _) (az _) (by omega) (fun i h=>by omega) fun i h h'=>by omega
  have hb:∀i,kp r (bubble p k (k-l)) i=if i=l then kp r p k else if l<i/\i<=k then kp r p (i-1) else kp r p i:=fun i=>by
   have e:=getElem?_bubble (xs:=p) (src:=k) (by rw[hp.size];omega) (k-l) (by omega) i;rw[show k-(k-l)=l by omega] at e;by_cases c1:i=l
   ·rw[if_pos c1] at e ⊢;exact uN e
   ·rw[if_neg c1] at e ⊢;by_cases c2:l<i/\i<=k
    ·rw[if_pos c2] at e ⊢;exact uN e
    ·rw[if_neg c2] at e ⊢;exact uN e
  refine Dp hc hn g f _ (k+1) (hp.to (bubble_perm _ _ _)) (by omega) fun i j oT hj=>?_
  rw[hb,hb];by_cases c1:i=l
  ·rw[if_pos c1];by_cases c2:j=l
   ·rw[if_pos c2];exact Int.le_refl _
   ·rw[if_neg c2,if_pos (by omega)];exact Int.le_of_lt (hi _ (by omega) (by omega))
  ·rw[if_neg c1];by_cases c3:l<i/\i<=k
   ·rw[if_pos c3,if_neg (by omega),if_pos (by omega)];exact u _ _ (by omega) (by omega)
   ·rw[if_neg c3];by_cases c2:j=l
    ·rw[if_pos c2];exact lo i (by omega)
    ·rw[if_neg c2];by_cases c4:l<j/\j<=k
     ·rw[if_pos c4];exact u _ _ (by omega) (by omega)
     ·rw[if_neg c4];exact u _ _ oT (by omega)
theorem KC(hc:Cm n r cmp s)(hn:0<n){G:Array Nat->Shared->Prop}(g:∀p,Pm n p->Up r p n->G p s):(kas_sort n).kasWp cmp G s:=by
 unfold kas_sort;rw[KasT.kasWp_bind];refine KQ (fun m p hp a b u=>?_) hc hn (az n) hn (show Pm n _ by unfold Pm;simp);dsimp only;by_cases e:m<n
 ·rw[if_pos e,show max m 1=m by omega];exact Dp hc hn g _ p m hp (by omega) u
 ·rw[if_neg e];exact g p hp (by rwa [show n=m by omega])
end
end Ts
namespace Ts
open PySem PyProof.Rows
section
variable {prog:Program} {w:World} {A:Around} {E:Value->Shared->Prop} {s:Shared}
structure Ky (prog:Program) (w:World) (A:Around) (s:Shared) (κ:SortKind) (ok:Keyed->Prop) (rk:Keyed->Int):Prop where
 key:∀x y (C:Bool->Shared->Prop),ok x->ok y->C (decide (rk x<rk y)) s->wpAny (model prog w) A (keyLt' κ x.1 y.1) C (fun _ _=>False) s
def zb(n:Nat):Prop:=∀{prog:Program} {w:World} {A:Around} {E:Value->Shared->Prop} {s:Shared} {κ:SortKind} {rk:Keyed->Int} {it:Array Keyed} (R:Ky prog w A s κ (fun x=>x∈it) rk) {Q:Unit->SortSt->Prop},it.size=n->
 (∀ef,(arrOf ef).toList.Perm it.toList->sH rk (arrOf ef).toList->failedOf ef=none->Q () ef)->wpS (model prog w) A E s sortRuns' Q (SortSt.mk' κ it #[] 7 none)
structure Ask (prog:Program) (w:World) (A:Around) (E:Value->Shared->Prop) (vs:List Value) (rk:Keyed->Int) (s:Shared):Prop where
 ask:2<=vs.length->∃κ,(∀Q':SortKind->Shared->Prop,Q' κ s->wpAny (model prog w) A (keyKind' vs.toArray) Q' E s)/\Ky prog w A s κ (fun x=>x∈pairsOf vs) rk
theorem Mq{rk:Keyed->Int}{l:List Keyed}(h:l.length<2):sH rk l:=by
 cases l with
 | nil=>exact .nil
 | cons a r=>
  cases r with
  | nil=>exact List.pairwise_singleton _ _
  | cons b t=>
   simp only[aA] at h;omega
theorem M7{a:Addr}{vs:List Value}{n:Nat}{P:Fin->Shared->Prop}{rk:Keyed->Int}(ho:s.heap.get? a=some (seqObj "list" vs.toArray n))(hl:vs.length<=sizeLine)(hr:2<=vs.length->zb vs.length)
  (R:∀h',(∀b o,b≠a->s.heap.get? b=some o->h'.get? b=some o)->Ask prog w A E vs rk { s with heap:=h' })
  (h:∀ef:SortSt,(arrOf ef).toList.Perm (pairsOf vs).toList->sH rk (arrOf ef).toList->P (.done (.ret .none)) { s with heap:=sortedHeap s.heap a vs ((arrOf ef).map (·.2)) }) :
  wpAny (model prog w) A (Builtin.«list.sort» ⟨[.ref a],[]⟩) P E s:=by
 rw[list_sort_plain];have ha:a<s.heap.objs.size:=aB ho;refine aa (listItems_at ho rfl ?_);refine aa (listUpdate_at ho rfl ?_ (by simpa using hl) (bc _));obtain⟨e1,Ge⟩:∃e1,(s.heap.update a (Obj.mapSeq fun _=>#[])).get? a=some (seqObj "list" #[] e1):=⟨_,get?_update_seq ho (fun _=>#[])⟩
 refine aa (seqEpoch_at Ge rfl ?_);refine aa (wpAny_newTuple ?_ (by show vs.length<=_;exact hl));refine aa (wpAny_newList ?_ (bc _));refine wpAny_holding ?_;have ya:(((s.heap.update a (Obj.mapSeq fun _=>#[])).push (seqObj "tuple" vs.toArray 0)).push (seqObj "list" #[] 0)).get? a=some (seqObj "list" #[] e1):=by
  rw[Heap.get?_push_ne _ _ _ (by rw[size_push',Heap.size_update];exact aT (Nat.lt_succ_of_lt ha)),Heap.get?_push_ne _ _ _ (by rw[Heap.size_update];exact aT ha)];exact Ge
 have ak:=R (((s.heap.update a (Obj.mapSeq fun _=>#[])).push (seqObj "tuple" vs.toArray 0)).push (seqObj "list" #[] 0)) (fun b o hb e=>ay _ (ay _ ((Heap.get?_update_other _ _ (Ne.symm hb)).trans e)));show wpAny (model prog w) A _ P E { s with heap:=((s.heap.update a (Obj.mapSeq fun _=>#[])).push (seqObj "tuple" vs.toArray 0)).push (seqObj "list" #[] 0) };dsimp only;have hsz:vs.toArray.size=vs.length:=by simp
 have fin:=h;by_cases h2:vs.toArray.size<2
 ·rw[if_pos h2,if_pos h2];refine aa (ah ?_);rw[StateT.run_pure];refine aa (ah ?_);dsimp only;refine aa (seqEpoch_at ya rfl ?_);refine aa (listUpdate_at ya rfl ?_ (bc _) (by rw[Array.size_map];show(pairsOf vs).size<=_;rw[pairsOf_size];exact Nat.le_succ_of_le hl));simp only[bne_self_eq_false,aV,br];refine ah (fin (SortSt.mk' general' (vs.toArray.zip vs.toArray) #[] 7 none) (List.Perm.refl _) ?_);show sH rk (pairsOf vs).toList;exact Mq (by rw[aM,pairsOf_size];omega)
 ·rw[if_neg h2,if_neg h2];obtain⟨κ,ka,kr⟩:=ak.ask (by omega);refine aa (ka _ ?_)
  refine aa (bB (hr (by omega) kr
   (Q:=fun _ ef=>(arrOf ef).toList.Perm (pairsOf vs).toList/\sH rk (arrOf ef).toList/\failedOf ef=none) (pairsOf_size vs) fun ef a1 a2 a3=>⟨a1,a2,a3⟩) ?_ fun _ _ e=>e)
  rintro⟨⟨⟩,ef⟩ s' ⟨rfl,hp,hs,hf⟩;dsimp only;refine aa (seqEpoch_at ya rfl ?_)
  refine aa (listUpdate_at ya rfl ?_ (bc _) (by
   rw[Array.size_map,<-aM,hp.length_eq,aM,pairsOf_size];exact Nat.le_succ_of_le hl))
  rw[hf];simp only[bne_self_eq_false,aV,br];exact ah (fin ef hp hs)
theorem nN{l:Addr}{vs:List Value}{Q:Value->Shared->Prop}{rk:Keyed->Int}(hl:s.heap.IsList l vs.toArray)(hz:vs.length<=sizeLine)(hr:2<=vs.length->zb vs.length)
  (R:∀h',(∀b o,s.heap.get? b=some o->h'.get? b=some o)->Ask prog w A.in1.in1 E vs rk { s with heap:=h' })
  (h:∀ef:SortSt,(arrOf ef).toList.Perm (pairsOf vs).toList->sH rk (arrOf ef).toList->Q (.ref (s.heap.objs.size+1)) { s with heap:=sortedAll s.heap vs ((arrOf ef).map (·.2)) }) :
  wpAny (model prog w) A (call (.builtin "sorted") [.ref l]) Q E s:=by
 refine Calls.call_function_entry kind_sorted plain_sorted entry_sorted (args_sorted1 _) ?_;unfold Builtin.«sorted»;refine aa (m:=checkCount "sorted" 1 1 _) (ah ?_);refine aa (collect_list hl ?_ hz);refine aa (wpAny_newList ?_ hz);have hsz:((s.heap.push (seqObj "list" #[] 0)).update s.heap.objs.size (Obj.mapSeq (·++vs.toArray))).objs.size=s.heap.objs.size+1:=by
  rw[Heap.size_update,size_push']
 have rZ:(((s.heap.push (seqObj "list" #[] 0)).update s.heap.objs.size (Obj.mapSeq (·++vs.toArray))).push (seqObj "list" vs.toArray 0)).get? (s.heap.objs.size+1)=some (seqObj "list" vs.toArray 0):=by
  rw[<-hsz];exact aG _ rfl
 have keep:∀b o,s.heap.get? b=some o->(((s.heap.push (seqObj "list" #[] 0)).update s.heap.objs.size (Obj.mapSeq (·++vs.toArray))).push (seqObj "list" vs.toArray 0)).get? b=some o:=fun b o q=>by
  have gf:b<s.heap.objs.size:=aB q;rw[Heap.get?_push_ne _ _ _ (by rw[hsz];exact aT (Nat.lt_succ_of_lt gf)),Heap.get?_update_ne _ _ _ _ (aT gf),Heap.get?_push_ne _ _ _ (aT gf)];exact q
 show wpAny _ _ _ _ _ { s with heap:=((s.heap.push (seqObj "list" #[] 0)).update s.heap.objs.size (Obj.mapSeq (·++vs.toArray))).push (seqObj "list" vs.toArray 0) };rw[hsz];refine aa (wpAny_holding (wpAny_call_entry slot_list_sort ⟨_,rZ,rfl⟩ entry_list_sort (M7 (rk:=rk) rZ hz hr (fun h' k=>R h' fun b o e=>k b o (aT (Nat.lt_succ_of_lt (aB e))) (keep b o e)) fun ef a1 a2=>⟨_,rfl,?_⟩) (args_list_sort _)));exact ah ⟨_,rfl,h ef a1 a2⟩
end
end Ts
namespace HT
end HT
namespace Ts
open PySem PySem.W PyProof.Rows
section
variable {prog:Program} {w:World} {A:Around} {E:Value->Shared->Prop} {s:Shared} {fin:Bool} {Q:Bool->Shared->Prop}
noncomputable def yE(h:Heap)(v:Value):List Int:=match v with
 | .ref a=>match h.get? a with
  | some o=>match o.data with
   | .seq xs _=>numsOf xs.toList
   | _=>[]
  | none=>[]
 | _=>[]
def Ik(h:Heap)(v:Value):Prop:=∃a o xs n,v=.ref a/\h.get? a=some o/\o.cls=.type "tuple"/\o.data=.seq xs n/\IntsAre xs.toList (yE h v)/\yE h v≠[]
theorem MC{h h':Heap}(k:∀b o,h.get? b=some o->h'.get? b=some o):∀{its:List Value},(∀v∈its,Ik h v)->∃fs,KatTups h' its fs/\fs.length=its.length/\∀v∈fs,∃n t,v=Value.int n t
 | [],_=>⟨[],.nil,rfl,fun v hv=>by cases hv⟩
 | v::r,hv=>by
  obtain⟨fs,h1,h2,h3⟩:=MC k (its:=r) fun x hx=>hv x (ar _ hx)
  obtain⟨a,o,xs,n,rfl,ho,hc,hd,hi,dH⟩:=hv v aF;generalize yE h (.ref a)=t at hi dH;generalize hx:xs.toList=l at hi;cases hi with
  | nil=>exact absurd rfl dH
  | cons m u hr=>
   have h0:xs[0]?=some (.int m u):=by rw[<-Array.getElem?_toList,hx];rfl
   exact⟨.int m u::fs,KatTups.cons (k _ _ ho) hc hd h0 h1,by simp[h2],fun x hx=>by
    rcases au.mp hx with rfl | hx
    ·exact⟨_,_,rfl⟩
    ·exact h3 x hx⟩
end
end Ts
namespace Ts
open PySem PySem.W PyProof.Rows
theorem pq{n:Nat}(h1:2<=n)(Gu:n<64):zb n:=by
 intro prog w A E s κ rk it R Q hn q;have mem:∀i,i<n->kas_item it i∈it:=fun i hi=>by
  have e:kas_item it i=it[i]:=by unfold kas_item;simp[Array.getD,hn,hi]
  rw[e];exact Array.getElem_mem _
 have hit:(List.toArray (List.range n)).map (kas_item it)=it:=by rw[<-hn];exact kas_range it
 have hl:(List.range n).map (kas_item it)=it.toList:=by
  have:=congrArg Array.toList hit;simpa using this
 have:=kas_runs (prog:=prog) (w:=w) (A:=A) (E:=E) (κ:=κ) (it:=it) (Q:=fun u st s'=>s'=s/\Q u st) (G:=fun p s'=>s'=s/\Pm n p/\Up (fun i=>rk (kas_item it i)) p n) (s:=s) h1 Gu (fun p st s' hz ha hf ⟨e,hp,hu⟩=>⟨e,?_⟩)
  (KC (r:=fun i=>rk (kas_item it i)) (fun i j C hi hj hC=>R.key _ _ C (mem i hi) (mem j hj) hC) (by omega) fun p hp hu=>⟨rfl,hp,hu⟩)
 ·unfold kas_st at this;rw[hit] at this;exact this
 ·refine q st ?_ ?_ hf
  ·rw[ha,Array.toList_map,<-hl];exact hp.map _
  ·rw[ha,Array.toList_map];refine List.pairwise_iff_getElem.mpr fun i j hi hj oT=>?_
   have sf:i<p.size:=by simpa using hi
   have ye:j<p.size:=by simpa using hj
   have:=hu i j (by omega) (by omega);unfold kp at this;simp only[Array.getD,sf,ye,dif_pos] at this;simpa using this
end Ts
namespace L2
open PySem PySem.Spec PyProof.Rows
theorem EW{α β:Type}{f:α->β}{a b:List β}(h:a.Perm b):∀{L:List α},b=L.map f->∃L':List α,L'.Perm L/\a=L'.map f:=by
 induction h with
 | nil=>intro L e;exact⟨[],by rw[show L=[] from by simpa using e.symm],rfl⟩
 | cons x h ih=>
  intro L e;cases L with
  | nil=>cases e
  | cons y L=>
   rw[ao] at e;injection e with e1 e2
   obtain⟨L',h1,h2⟩:=ih e2;exact⟨y::L',h1.cons y,by rw[ao,e1,h2]⟩
 | swap x y l=>
  intro L e;match L,e with
  | [],e=>cases e
  | [_],e=>cases e
  | u::v::L,e=>
   simp only[ao,List.cons.injEq] at e;exact⟨v::u::L,List.Perm.swap u v L,by simp[e]⟩
 | trans h1 h2 Ph Pg=>
  intro L e;obtain⟨L2,a1,a2⟩:=Pg e;obtain⟨L3,b1,b2⟩:=Ph a2;exact⟨L3,b1.trans a1,b2⟩
section
variable {X:Cx} {pos:Pos} {e:Expr} {te:TD}
theorem Ec{α:Type}{f:α->V}{g:α->Value}:∀{L:List α},(∀q∈L,RelV (f q) (g q))->Vals (L.map f) (L.map g)
 | [],_=>.nil
 | q::L,h=>.cons (h q aF) (Ec fun x hx=>h x (ar _ hx))
theorem Eb{α:Type}{K:PySem.W.Frag}{G:Hp}{f:α->V}{g:α->D}:∀{L:List α},(∀q∈L,Rep K G (f q) (g q))->bD K G (L.map f) (L.map g)
 | [],_=>bD.nil
 | q::L,h=>bD.cons (h q aF) (Eb fun x hx=>h x (ar _ hx))
end
end L2
namespace L2
open PySem PySem.Spec PyProof.Rows
end L2
namespace L2
open PySem PySem.Spec PyProof.Rows
end L2
namespace L2
open PySem PySem.Spec PyProof.Rows
theorem z0{P:Program}{w:World}:∀{ks:List Key} {us:List Value},Vals (ks.map kV) us->ItemsAre (kn P w) ks us
 | [],_,r=>by rw[List.map_nil] at r;cases r;exact .nil
 | k::ks,_,r=>by
  rw[ao] at r;cases r with
  | cons h t=>exact .cons (Im h) (z0 t)
abbrev KT(H:Hp):List (List Key×V)->List (List Key×Addr×Value)->Prop:=Paired fun p q=>p.1=q.1/\H q.2.1=some (.tup (p.1.map kV))/\RelV p.2 q.2.2
theorem KT.val{H:Hp}{bF:List (List Key×V)}{xs:List (List Key×Addr×Value)}(r:KT H bF xs)(k:List Key):i6 (gN bF k) ((atKey xs k).map (·.2)):=by
 induction r with
 | nil=>exact True.intro
 | @cons p q ps qs h t ih=>
  obtain⟨h1,_,h2⟩:=h;by_cases e:p.1=k
  ·have e':q.1=k:=h1.symm.trans e;have b:atKey (q::qs) k=some q.2:=by simp[atKey,List.find?_cons,e']
   rw[EI e,b];exact h2
  ·have e':¬q.1=k:=fun z=>e (h1.trans z)
   have b:atKey (q::qs) k=atKey qs k:=by simp[atKey,List.find?_cons,e']
   rw[EH e,b];exact ih
theorem KT.kM{H:Hp}{bF:List (List Key×V)}{xs:List (List Key×Addr×Value)}(r:KT H bF xs)(k:List Key){y:V}{u:Value}(ry:RelV y u) :
  KT H (bF.map fun kv=>if kv.1=k then(kv.1,y) else kv) (xs.map (putAt k u)):=by
 induction r with
 | nil=>exact .nil
 | @cons p q ps qs h t ih=>
  rw[ao,ao];refine .cons ?_ ih;obtain⟨h1,h2,h3⟩:=h;unfold putAt;by_cases e:p.1=k
  ·rw[if_pos e,if_pos (h1.symm.trans e)];exact⟨h1,h2,ry⟩
  ·rw[if_neg e,if_neg (fun z=>e (h1.trans z))];exact⟨h1,h2,h3⟩
theorem KT.put{H:Hp}{bF:List (List Key×V)}{xs:List (List Key×Addr×Value)}(r:KT H bF xs)(k:List Key){b:Addr}{y:V}{u:Value}(hb:H b=some (.tup (k.map kV)))(ry:RelV y u) :
  KT H (o4 bF k y) (storedH xs k b u):=by
 have e:(bF.any fun kv=>decide (kv.1=k))=(atKey xs k).isSome:=by
  rw[zS,(r.val k).fJ,Option.isSome_map]
 unfold o4 storedH;rw[e];by_cases q:(atKey xs k).isSome=true
 ·rw[if_pos q,if_pos q];exact r.kM k ry
 ·rw[if_neg q,if_neg q];exact Paired.snoc r ⟨rfl,hb,ry⟩
theorem KT.keeps{H H':Hp}{bF:List (List Key×V)}{xs:List (List Key×Addr×Value)}(r:KT H bF xs)(ht:∀b ys,H b=some (.tup ys)->H' b=some (.tup ys)):KT H' bF xs:=
 Paired.rQ r fun _ _ z=>⟨z.1,ht _ _ z.2.1,z.2.2⟩
section
variable {P:Program} {w:World} {H:Hp} {h:Heap} {a:Addr}
theorem C6{u:HO}(ok:gk P w H h)(e:Rd H a u):cH P w H h a u:=e.ok ok
theorem sW{ks:List Key}(ok:gk P w H h)(e:H a=some (.tup (ks.map kV))):(tupleKind (kn P w)).is h ks a:=by
 obtain⟨_,its,r,o,h1,h2,n,h3⟩:=(show cH P w H h a (.tup (ks.map kV)) from ok a _ e)
 exact⟨o,its.toArray,n,h1,h2,h3,by simpa using z0 r⟩
end
end L2
namespace PySem
open Sem (wp)
section
variable {prog:Program} {w:World} {K:Type} [DecidableEq K] {knd:HeapKind prog w K} {A:Around} {E:Value->Shared->Prop} {s:Shared}
theorem Oi{d a:Addr}{xs:List (K×Addr×Value)}{k:K}{dflt:Value}{Q:Value->Shared->Prop}(hu:knd.room A)(kS:knd.is s.heap k a)(hm:s.heap.DictOfH knd d xs)
  (there:∀p,atKey xs k=some p->Q p.2 { s with toks:=s.toks+knd.draws k })
  (new:atKey xs k=none->∀h',h'.DictOfH knd d (storedH xs k a dflt)->Heap.SameBut d s.heap h'->Q dflt { s with heap:=h',toks:=s.toks+knd.draws k })
  (hsz:xs.length<=sizeLine):wpAny (model prog w) A (dictSetDefault d (.ref a) dflt) Q E s:=by
 obtain⟨o,es,ep,ho,hc,hd,he,BN,hn⟩:=hm;unfold dictSetDefault;try with_reducible refine wpAny_holding ?_
 refine aa (knd.pyHash hu kS (aa (wpAny_dictFind_heap (s:={ s with toks:=s.toks+knd.draws k }) hu kS ho hd he BN hn (fun r0=>?_) fun j p hj=>?_)))
 ·have e:=atKey_none_of_get r0;have nw:=new e;rw[storedH_new e] at nw;have BE:k∉xs.map (·.1):=not_mem_keys_of_get r0;have bQ:es.size<=sizeLine:=by have:=size_of_entries he;omega
  refine aa (wpAny_rule (aa (wpAny_updateDictKeys (hz:=bQ) (s:={ s with toks:=s.toks+knd.draws k }) ho hd (ah (nw _ ⟨_,_,ep+1,Heap.get?_update_self _ ho (Obj.isFreed_of_dict (Obj.data_mapDictKeys hd _)),
   hc.mapDictKeys _,Obj.data_mapDictKeys hd _,by simp[he,entryOfKey],fun x hx=>?_,?_⟩ (Heap.SameBut.update ..))))))
  ·have keep:∀{k':K} {a':Addr},knd.is s.heap k' a'->knd.is (s.heap.update d (Obj.mapDictKeys fun es=>es.push ⟨knd.hash k,.ref a,dflt⟩)) k' a':=fun h=>knd.keeps h ho hd (Heap.SameBut.update ..)
   rcases aI.mp hx with hx | hx
   ·exact keep (BN x hx)
   ·rw[a9.mp hx];exact keep kS
  ·rw[aE,List.nodup_append];exact⟨hn,by simp,fun x hx y hy z=>BE (by rw[List.map_singleton,a9] at hy;rw[<-show x=k from z.trans hy];exact hx)⟩
 ·refine aa (wpAny_dictEntries (s:={ s with toks:=s.toks+knd.draws k }) ho hd ?_);rw[entry_at he j,hj];exact aa (wpAny_rule (ah (there p (atKey_of_get hn hj))))
theorem Ot{d a:Addr}(hd:(d==sysModules)=false)(dflt:Value) :
  MeetsIn prog w (Builtin.«dict.setdefault» ⟨[.ref d,.ref a,dflt],[]⟩) (fun A R s=>∃k xs,knd.room A.in1/\knd.is s.heap k a/\s.heap.DictOfH knd d xs/\xs.length<=sizeLine/\
   (∀p,atKey xs k=some p->R (.ok (.ret p.2)) { s with toks:=s.toks+knd.draws k })/\
   (atKey xs k=none->∀h',h'.DictOfH knd d (storedH xs k a dflt)->Heap.SameBut d s.heap h'->R (.ok (.ret dflt)) { s with heap:=h',toks:=s.toks+knd.draws k })):=
 .of_wp fun A R s ⟨k,xs,hu,hk,hm,hz,h1,h2⟩=>by
  unfold Builtin.«dict.setdefault»;refine aa ?_;unfold Builtin.Dict.keyAndDefault;refine aa (wpAny_notOrdered_dict hm.typeIs ?_);show wpAny _ _ (pure (d,Value.ref a,some dflt)) _ _ s;refine ah ?_;show wpAny _ _ (if (d==sysModules)=true then _ else(dictSetDefault d (.ref a) dflt >>= _)) _ _ s;rw[if_neg (by rw[hd];exact ax)];exact aa (Oi hu hk hm (fun p hp=>ah ⟨p.2,rfl,h1 p hp⟩) (fun hn h' P6 kQ=>ah ⟨dflt,rfl,h2 hn h' P6 kQ⟩) hz)
end
end PySem
namespace PySem
open Sem (wp)
def fc(h:Heap)(d:Addr)(es:Array DictEntry)(ep:Nat):Prop:=∃o,h.get? d=some o/\o.ExactDict/\o.data=.dict es ep
theorem fc.kept{h h':Heap}{d:Addr}{es:Array DictEntry}{ep:Nat}(x:fc h d es ep)(k:∀o,h.get? d=some o->h'.get? d=some o):fc h' d es ep:=let⟨o,ho,r⟩:=x;⟨o,k o ho,r⟩
section
variable {prog:Program} {w:World} {A:Around} {E:Value->Shared->Prop} {s:Shared} {d it:Addr} {es:Array DictEntry} {ep i:Nat}
theorem fc.ty(x:fc s.heap d es ep):s.TypeIs (.ref d) "dict":=let⟨o,ho,hc,_⟩:=x;⟨o,ho,hc.1⟩
theorem KP{Q:Value->Shared->Prop}(hd:(d==sysModules)=false)(x:fc s.heap d es ep)
  (q:Q (.ref s.heap.objs.size) { s with heap:=s.heap.push { cls:=.type "dict_keyiterator",data:=.fields #[.ref d,.int 0 0,.int es.size 0,.int ep 0] } }):wpAny (model prog w) A (pyIter (.ref d)) Q E s:=by
 obtain⟨od,jY,_,jZ⟩:=id x;refine wpAny_pyIter_slot x.ty F.slot_dict_iter (wpAny_call_entry F.slot_dict_iter x.ty F.entry_dict_iter ?_ (F.args_dict_iter_1 _));unfold Builtin.«dict.__iter__»;refine aa (m:=Builtin.Dict.dictSlotNone _ _) ?_;unfold Builtin.Dict.dictSlotNone;refine aa (wpAny_notOrdered_dict x.ty (show wpAny _ _ (pure (Value.ref d)) _ _ s from ah ?_));show wpAny _ _ (Builtin.Dict.showsAll d >>= _) _ _ s;unfold Builtin.Dict.showsAll;rw[if_neg (by rw[hd];exact ax)];refine aa (ah (aa (wpAny_dictEntries jY jZ (aa (wpAny_dictEpoch jY jZ (aa (bu (ah ⟨_,rfl,"dict_keyiterator",_,⟨_,aG _ rfl,rfl⟩,F.slot_dict_keyiterator_next.lookup,?_⟩))))))));simpa[rawInt] using q
theorem KO{Q:Option Value->Shared->Prop}(t:s.heap.IsKeyIter it d i es.size ep)(x:fc s.heap d es ep)(hi:i<es.size)
  (q:∀h',h'.IsKeyIter it d (i+1) es.size ep->Heap.SameBut it s.heap h'->Q (some es[i].key) { s with heap:=h' }):wpAny (model prog w) A (pyNext (.ref it)) Q E s:=by
 obtain⟨oi,mD,wo,kU⟩:=id t;obtain⟨od,jY,_,jZ⟩:=id x;unfold pyNext;refine aa (wpAny_attempt (wpAny_callSpecial?_slot (name:=Str.ofString "__next__") t.typeIs F.slot_dict_keyiterator_next
  (wpAny_call_entry F.slot_dict_keyiterator_next t.typeIs F.entry_dict_keyiterator_next ?_ (F.args_dict_keyiterator_next_1 _))))
 refine aa (ah (aa (aa ?_)));refine aa (wpAny_typeNameOfWhole_keyiter t.typeIs (ah (aa (wpAny_fieldsOf mD kU ?_))));simp only[show Builtin.Dict_items.ownsTuple "dict_keyiterator"=false by decide,aV,br];show wpAny _ _ (if (Value.ref d==Value.none)=true then _ else _) _ _ s;rw[if_neg (show ¬((Value.ref d==Value.none)=true) from ax)];refine aa (ah (aa (wpAny_dictEntries jY jZ ?_)));rw[if_neg (by simp)];refine aa (ah (aa (wpAny_dictEpoch jY jZ ?_)));rw[if_neg (by simp)];refine ah ?_;simp only[show ¬((i:Int)<0) from by omega,br,bh,Array.getElem?_eq_getElem hi];refine aa (aa (wpAny_typeNameOfWhole_keyiter t.typeIs (ah (aa (wpAny_isOneOf_keyiter t.typeIs ?_)))));show wpAny _ _ (setField (.ref it) 1 (rawInt ((i:Int)+1)) >>= _) _ _ s;refine aa (wpAny_setField mD kU (by simp) ?_);have t':(s.heap.update it (Obj.mapFields (·.setIfInBounds 1 (rawInt ((i:Int)+1))))).IsKeyIter it d (i+1) es.size ep:=
  ⟨_,Heap.get?_update_self _ mD (Obj.isFreed_of_fields (Obj.data_mapFields kU _)),(Obj.cls_mapFields ..).trans wo,by rw[Obj.data_mapFields kU];simp[rawInt]⟩
 refine aa (wpAny_holding (aa (wpAny_isOneOf_keyiter (s:={ s with heap:=s.heap.update it (Obj.mapFields (·.setIfInBounds 1 (rawInt ((i:Int)+1)))) }) t'.typeIs ?_)));show wpAny _ _ (pure es[i].key) _ _ _;exact ah (ah ⟨_,rfl,ah (q _ t' (Heap.SameBut.update ..))⟩)
theorem JJ{Q:Option Value->Shared->Prop}(hh:A.handled=none)(t:s.heap.IsKeyIter it d i es.size ep)(x:fc s.heap d es ep)(hi:es.size<=i)
  (q:∀h',Heap.ExtBut it s.heap h'->Q none { s with heap:=h' }):wpAny (model prog w) A (pyNext (.ref it)) Q E s:=by
 obtain⟨oi,mD,wo,kU⟩:=id t;obtain⟨od,jY,_,jZ⟩:=id x;unfold pyNext;refine aa (wpAny_attempt (wpAny_callSpecial?_slot (name:=Str.ofString "__next__") t.typeIs F.slot_dict_keyiterator_next
  (wpAny_call_entry F.slot_dict_keyiterator_next t.typeIs F.entry_dict_keyiterator_next ?_ (F.args_dict_keyiterator_next_1 _))))
 refine aa (ah (aa (aa ?_)));refine aa (wpAny_typeNameOfWhole_keyiter t.typeIs (ah (aa (wpAny_fieldsOf mD kU ?_))));simp only[show Builtin.Dict_items.ownsTuple "dict_keyiterator"=false by decide,aV,br];show wpAny _ _ (if (Value.ref d==Value.none)=true then _ else _) _ _ s;rw[if_neg (show ¬((Value.ref d==Value.none)=true) from ax)];refine aa (ah (aa (wpAny_dictEntries jY jZ ?_)));rw[if_neg (by simp)];refine aa (ah (aa (wpAny_dictEpoch jY jZ ?_)));rw[if_neg (by simp)];refine ah ?_;simp only[show ¬((i:Int)<0) from by omega,br,bh,Array.getElem?_eq_none hi];refine aa (aa (wpAny_typeNameOfWhole_keyiter t.typeIs (ah ?_)));show wpAny _ _ (setField (.ref it) 0 .none >>= _) _ _ s;refine aa (wpAny_setField mD kU (by simp) ?_);show wpAny _ _ (newExc (.type "StopIteration") [] >>= _) _ _ _;refine aa ?_;simp only[newExc,newTuple];refine aa (bu (aa (m:=firstArgMember _ _) (wpAny_of_eq (a:=Value.none) (by first | rfl | (simp only[firstArgMember];rfl)) (bu ?_ (by size_fits)))) (by size_fits));simp only[raiseNew];refine aa (wpAny_handled ?_);rw[show A.in1.handled=none from hh];refine aa (ah (wpAny_throw ?_));refine aa (wpAny_isInstance (T:="StopIteration") (b:=true) ⟨_,aG _ rfl,rfl⟩ isSubtype_stop ?_);exact ah (q _ (((Heap.SameBut.update ..).extBut.push _).push _))
end
end PySem
namespace L2
open PySem PySem.Spec PyProof.Rows
def IsT(H:Hp)(a:Addr):Prop:=∃bF bs,Rd H a (.dT bF bs)
section
variable {P:Program} {w:World} {H:Hp} {h:Heap} {a:Addr}
theorem qZ{bF:List (List Key×V)}{bs:List Addr×Nat}(ok:gk P w H h)(e:Rd H a (.dT bF bs)):bF.length<=sizeLine/\(a==sysModules)=false/\
  ∃xs,xs.map (fun x=>x.2.1)=bs.1/\KT H bF xs/\h.DictOfH (tupleKind (kn P w)) a xs:=by
 obtain⟨z,y,xs,bq,r,o,es,ep,h1,h2,h3,h4,h5⟩:=(show cH P w H h a (.dT bF bs) from C6 ok e)
 have all:∀{l:List (List Key×V)} {m:List (List Key×Addr×Value)},KT H l m->∀x∈m,(tupleKind (kn P w)).is h x.1 x.2.1:=fun{l m} q=>by
  induction q with
  | nil=>exact fun x hx=>nomatch hx
  | @cons p q ps qs hq t ih=>
   intro x hx;cases hx with
   | head=>exact sW ok (by rw[<-hq.1];exact hq.2.1)
   | tail _ hx=>exact ih x hx
 exact⟨z,y,xs,bq,r,o,es,ep,h1,h2,h3,h4,all r,h5.1⟩
end
def Hb:TE:=fun _ H Q=>∀p,H p=none->Q (.ref p) (upd H p (.dT [] ([],0)))
section
variable {X:Cx} {pos:Pos} {e i':Expr} {te ti:TD}
theorem Ea:PE X (.Dict [] [] pos) Hb:=fun pins s σ H Q I h=>by
 have ok:cH X.prog X.w (upd H s.heap.objs.size (.dT [] ([],0))) (s.heap.push { cls:=.type "dict",data:=.dict #[] }) s.heap.objs.size (.dT [] ([],0)):=
  ⟨bc _,beq_eq_false_iff_ne.mpr (Ne.symm (aT I.big)),[],rfl,.nil,_,#[],0,aG _ rfl,⟨rfl,rfl,rfl⟩,rfl,rfl,List.nodup_nil,rfl⟩
 exact wpAny_Dict_empty ⟨.ref s.heap.objs.size,_,I.laid (a:=s.heap.objs.size) (o:=.dT [] ([],0)) (t':=s.toks) (fun _ _ q=>ay _ q) (az _) ok,rfl,h _ (I.b9.fresh (az _))⟩
theorem zj{pins:List (Addr×Obj)}{σ:St}{H:Hp}{s:Shared}{a:Addr}(I:Inv X pins σ H s)(d:IsT H a) :
  s.TypeIs (.ref a) "dict"/\(∀b,Value.ref a=.ref b->∃ob,s.heap.get? b=some ob/\ob.dict=none)/\(a==sysModules)=false:=by
 obtain⟨bF,bs,e⟩:=d;obtain⟨_,hd,xs,_,_,dd⟩:=qZ I.b9 e;refine⟨dd.typeIs,fun b q=>?_,hd⟩;cases q;obtain⟨ob,_,_,h1,h2,_⟩:=dd;exact⟨ob,h1,h2.2.1⟩
def Ha(td ty tx:TE):TE:=fun σ H Q=>td σ H fun x H1=>∃a,x=.ref a/\IsT H1 a/\ty σ H1 fun y H2=>tx σ H2 fun z H3=>∃bF bs k b,H3 a=some (.dT bF bs)/\y=.ref b/\H3 b=some (.tup (k.map kV))/\bF.length<sizeLine/\
 (∀v,gN bF k=some v->Q v H3)/\(gN bF k=none->∀ep,Q z (upd H3 a (.dT (bF++[(k,z)]) (bs.1++[b],ep))))
theorem JI{o e f:Expr}{apos cW:Pos}{td ty tx:TE}(hu:X.A.units+64<cLine)(ho:PE X o td)(he:PE X e ty)(hf:PE X f tx)(m:M2 X o "setdefault" apos e f cW):PE X (.Call (.Attribute o "setdefault" apos) [e,f] [] cW) (Ha td ty tx):=by
 intro pins s σ H Q I h;refine wpAny_Call_method m.base m.su m.line PySem.F.plainAttrs_dict PySem.F.slot_dict_setdefault PySem.F.type_dict_setdefault (cy (ho pins s σ H _ I h) fun u s1 bQ=>?_);obtain⟨x,H1,I1,rx,a,ex,d,q1⟩:=bQ;subst ex;obtain rfl:u=Value.ref a:=rx;obtain⟨t1,t2,_⟩:=zj I1 d;refine⟨t1,t2,?_⟩;rw[m.trees];refine Calls.callWith_builtin rfl (Calls.evalArgs_plain (Calls.spliced_cons (cy (he pins s1 σ H1 _ I1 q1) fun iv s2 bQ=>?_)));obtain⟨y,H2,I2,ry,q2⟩:=bQ;refine Calls.spliced_cons (cy (hf pins s2 σ H2 _ I2 q2) fun fv s3 bQ=>?_);obtain⟨z,H3,I3,rz,bF,bs,k,b,hk,ey,hb,hl,q3,q4⟩:=bQ;refine Calls.spliced_nil ?_;subst ey;obtain rfl:iv=Value.ref b:=ry;obtain⟨hz,hd,xs,bq,rel,dd⟩:=qZ I3.b9 (.inl hk);have hlen:bF.length=xs.length:=Paired.length rel;refine call_meetsIn PySem.F.slot_dict_setdefault dd.typeIs PySem.F.entry_dict_setdefault (PySem.F.args_dict_setdefault_3 _ _ _) (Ot (knd:=tupleKind (kn X.prog X.w)) hd fv)
  ⟨k,xs,tupleKind_room_in1 (by show X.A.units+1<cLine;omega),sW I3.b9 hb,dd,by rw[<-hlen];exact hz,fun p hp=>?_,fun hn h' tV hs=>?_⟩
 ·have r:=rel.val k;rw[hp] at r;cases hx:gN bF k with
  | none=>rw[hx] at r;exact r.elim
  | some x=>
   rw[hx] at r;exact⟨x,H3,I3.tok _,r,q3 x hx⟩
 ·have r:=rel.val k;rw[hn] at r;cases hx:gN bF k with
  | some=>rw[hx] at r;exact r.elim
  | none=>
   obtain⟨q,es,ep,hq,h2,h3,h4,_,h5⟩:=tV;rw[storedH_new hn] at h4 h5;have A1:KT H3 (bF++[(k,z)]) (xs++[(k,b,fv)]):=Paired.snoc rel ⟨rfl,hb,rz⟩;have ok:cH X.prog X.w (upd H3 a (.dT (bF++[(k,z)]) (bs.1++[b],ep))) h' a (.dT (bF++[(k,z)]) (bs.1++[b],ep)):=by
    refine⟨by rw[aC];simp;omega,hd,_,by rw[aE,bq];rfl,A1.keeps fun c ys ec=>?_,q,es,ep,hq,h2,h3,h4,h5,rfl⟩;rw[cM (Dc ec hk (fun z=>nomatch z))];exact ec
   exact⟨z,_,D0 I3 (by rw[hk];exact True.intro) hs ⟨q,hq⟩ ok,rz,q4 hx ep⟩
def uw:TD:=fun _ Q=>Q (.ov (.dt []))
theorem Es:PD X (.Dict [] [] pos) uw:=by
 refine⟨_,Ea,fun ρ σ G0 H0 G H Q P E h k=>fun d hd=>?_⟩;refine k _ _ (.ov (.dt [])) G (.own E.e.s hd) ⟨d,[],rfl,by simp,⟨[],([],0),fP,trivial,rfl,rfl,by simp only[List.map_nil,bO]⟩,fun q hq=>?_⟩ h;simp only[a9] at hq;subst hq;exact⟨hd,E.e.s.free hd⟩
theorem MW{ks:List (List Key×V)}{k:List Key}{j:Nat}{v:V}(h:ks[j]?=some (k,v))(hf:∀j'<j,∀p,ks[j']?=some p->p.1≠k):gN ks k=some v:=by
 induction ks generalizing j with
 | nil=>simp at h
 | cons a ks ih=>
  unfold gN;rw[List.find?_cons];cases j with
  | zero=>
   simp only[List.getElem?_cons_zero,aH] at h;subst h;simp
  | succ j=>
   have ha:a.1≠k:=hf 0 (Nat.succ_pos _) a rfl;simp only[ha,decide_false];simp only[List.getElem?_cons_succ] at h;exact ih h fun j' hj p hp=>hf (j'+1) (Nat.succ_lt_succ hj) p (by simpa using hp)
theorem xM{ks:List (List Key×V)}{k:List Key}:(ks.any fun kv=>decide (kv.1=k))=(gN ks k).isSome:=by
 induction ks with
 | nil=>rfl
 | cons a ks ih=>
  unfold gN;rw[List.any_cons,List.find?_cons];by_cases h:a.1=k
  ·simp[h]
  ·simp only[h,decide_false,Bool.false_or];exact ih
theorem EV{α β:Type}{ks:List (List Key×α)}{bF:List (List Key×β)}(h:ks.map (·.1)=bF.map (·.1))(k:List Key):(ks.any fun kv=>decide (kv.1=k))=bF.any fun kv=>decide (kv.1=k):=by
 have e1:(ks.any fun kv=>decide (kv.1=k))=(ks.map (·.1)).any fun x=>decide (x=k):=by rw[List.any_map];rfl
 have e2:(bF.any fun kv=>decide (kv.1=k))=(bF.map (·.1)).any fun x=>decide (x=k):=by rw[List.any_map];rfl
 rw[e1,e2,h]
theorem cC.snoc{H:Hp}{k:List Key}{v:V}{b:Addr}(hb:H b=some (.tup (k.map kV))):∀{ps:List (List Key×V)} {bs:List Addr},cC H ps bs->cC H (ps++[(k,v)]) (bs++[b])
 | [],[],_=>⟨hb,trivial⟩
 | p::ps,c::bs,h=>⟨h.1,cC.snoc hb h.2⟩
 | [],_::_,h=>h.elim
 | _::_,[],h=>h.elim
theorem MB{ks:List (List Key×V)}{k:List Key}{v:V}(h:gN ks k=none):gN (ks++[(k,v)]) k=some v:=by
 unfold gN at h ⊢;rw[List.find?_append];rw[Option.map_eq_none_iff] at h;rw[h];simp
noncomputable def l7:List D->Option (List Key)
 | []=>some []
 | d::r=>match ub d,l7 r with
  | some k,some ks=>some (k::ks)
  | _,_=>none
theorem tu{K:PySem.W.Frag}{G:Hp}:∀{ds:List D} {vs:List V} {ks:List Key},bD K G vs ds->l7 ds=some ks->vs=ks.map kV
 | [],[],ks,_,h=>by simp only[l7,aH] at h;subst h;rfl
 | d::ds,v::vs,ks,r,h=>by
  simp only[bD] at r;simp only[l7] at h;split at h
  ·rename_i k rT h1 h2;simp only[aH] at h;subst h;rw[KU r.1 h1,tu r.2 h2];rfl
  ·cases h
 | [],_::_,_,r,_=>by simp only[bD] at r
 | _::_,[],_,r,_=>by simp only[bD] at r
noncomputable def iO(bF:List (List Key×List D))(k:List Key):List (List Key×List D):=if (bF.any fun kv=>decide (kv.1=k))=true then bF else bF++[(k,[])]
end
end L2
namespace L2
open PySem PySem.Spec PyProof.Rows
section
variable {X:Cx} {pos:Pos} {e i':Expr} {te ti:TD}
theorem Er{α β:Type}{F:α->β->Prop}:∀{nW:List α} {nV:List β},Paired F nW nV->∀{i:Nat} {a:α} {b:β},nW[i]?=some a->nV[i]?=some b->F a b
 | _,_,.nil,i,a,b,e,_=>by simp at e
 | _,_,.cons r t,0,a,b,e1,e2=>by
  simp only[List.getElem?_cons_zero,aH] at e1 e2;subst e1 e2;exact r
 | _,_,.cons r t,i+1,a,b,e1,e2=>by
  simp only[List.getElem?_cons_succ] at e1 e2;exact Er t e1 e2
def Rh:eX:=fun ds Q=>match ds with
 | [.dit bF]=>∃xP:List (List Int),bF.map (·.1)=xP.map (fun t=>t.map Sum.inl)/\xP.length<64/\(∀t∈xP,t≠[])/\∀rE:List (List Int),rE.Perm xP->rE.Pairwise (fun x y=>HT.qv x y=false)->Q (.ow (rE.map fun t=>.tup (t.map D.int)))
 | _=>False
theorem bN.keys{K:PySem.W.Frag}{G:Hp}:∀{ks:List (List Key×V)} {bF:List (List Key×D)},bN K G ks bF->ks.map (·.1)=bF.map (·.1)
 | [],[],_=>rfl
 | a::ks,b::bF,h=>by
  simp only[bN] at h;rw[ao,ao,h.1.1,bN.keys h.2]
 | [],_::_,h=>by simp only[bN] at h
 | _::_,[],h=>by simp only[bN] at h
theorem cC.at{H:Hp}:∀{ps:List (List Key×V)} {bs:List Addr} {i:Nat} {b:Addr} {k:List Key},cC H ps bs->bs[i]?=some b->(ps.map (·.1))[i]?=some k->H b=some (.tup (k.map kV))
 | p::ps,c::bs,0,b,k,h,e1,e2=>by
  simp only[List.getElem?_cons_zero,aH,ao] at e1 e2;subst e1 e2;exact h.1
 | p::ps,c::bs,i+1,b,k,h,e1,e2=>by
  simp only[List.getElem?_cons_succ,ao] at e1 e2;exact cC.at h.2 e1 e2
 | [],[],_,_,_,_,e1,_=>by simp at e1
 | [],_::_,_,_,_,h,_,_=>h.elim
 | _::_,[],_,_,_,h,_,_=>h.elim
def IW(K:PySem.W.Frag)(td ty:TE):TE:=fun σ H Q=>td σ H fun x H1=>ty σ H1 fun y H2=>∃a b bF bs k v,x=.ref a/\y=.ref b/\Rd H2 a (.dT bF bs)/\et K H2 b (k.map kV)/\gN bF k=some v/\Q v H2
theorem KN{o i:Expr}{td ty:TE}(hu:X.A.units+64<cLine)(ho:PE X o td)(hi:PE X i ty)(hs:yG i):PE X (.Subscript o i pos) (IW X.K td ty):=by
 intro pins s σ H Q I h;refine KG PySem.F.slot_dict_getitem.lookup hs (cy (ho pins s σ H _ I h) fun u s1 bQ=>?_);obtain⟨x,H1,I1,rx,q1⟩:=bQ;refine cy (hi pins s1 σ H1 _ I1 q1) fun iv s2 bQ=>?_
 obtain⟨y,H2,I2,ry,a,b,bF,bs,k,v,ex,ey,ha,hb,hv,q2⟩:=bQ;subst ex ey;obtain rfl:u=Value.ref a:=rx;obtain rfl:iv=Value.ref b:=ry;obtain⟨_,hd,xs,_,rel,dd⟩:=qZ I2.b9 ha;obtain⟨its,rv,⟨o1,g1,c1,n1,d1⟩,_⟩:=I2.tuple hb;have key:(tupleKind (kn X.prog X.w)).is s2.heap k b:=⟨o1,its.toArray,n1,g1,c1,d1,by simpa using z0 rv⟩
 obtain⟨w',hw,lG⟩:=i6.some_of (v:=v) (o:=(atKey xs k).map (·.2)) (by rw[<-hv];exact rel.val k);obtain⟨p,hp,PQ⟩:=aN.mp hw;refine⟨dd.typeIs,wpAny_getItem_heap (tupleKind_room_in1 (by show X.A.units+1<cLine;omega)) key dd hp ?_⟩;rw[PQ];exact⟨v,H2,I2.tok _,lG,q2⟩
noncomputable def kE(bF:List (List Key×D))(k:List Key):Option D:=(bF.find? fun kv=>decide (kv.1=k)).map (·.2)
def yK(te ti:TD):TD:=fun ρ Q=>te ρ fun r=>ti ρ fun rk=>match r.val,rk.val with
 | .dit bF,.tup es=>∃k d,l7 es=some k/\kE bF k=some d/\Q (.fz d)
 | _,_=>False
theorem bN.look{K:PySem.W.Frag}{G:Hp}{k:List Key}{d:D}:∀{ks:List (List Key×V)} {bF:List (List Key×D)},bN K G ks bF->kE bF k=some d->∃v,gN ks k=some v/\Rep K G v d
 | [],[],_,e=>by simp[kE] at e
 | a::ks,b::bF,h,e=>by
  simp only[bN] at h;unfold kE at e;unfold gN;rw[List.find?_cons] at e ⊢;rw[h.1.1];by_cases hk:b.1=k
  ·simp only[hk,decide_true,bo,aH] at e ⊢;subst e;exact⟨_,rfl,h.1.2⟩
  ·simp only[hk,decide_false] at e ⊢;exact bN.look h.2 e
 | [],_::_,h,_=>by simp only[bN] at h
 | _::_,[],h,_=>by simp only[bN] at h
theorem JH(hu:X.A.units+64<cLine)(he:PD X e te)(hi:PD X i' ti)(hs:yG i':=by intro _ _;rfl):PD X (.Subscript e i' pos) (yK te ti):=by
 obtain⟨t,p,q⟩:=he;obtain⟨t2,p2,q2⟩:=hi;refine⟨_,KN hu p p2 hs,fun ρ σ G0 H0 G H Q P E h k=>q ρ σ G0 H0 G H _ _ E h fun v H1 r G1 x1 rr hq=>?_⟩;obtain⟨G2,x2,rv,_⟩:=rr.freeze x1;refine q2 ρ σ G0 H0 G2 H1 _ _ (E.ext x2) hq fun u H3 rk G3 x3 pv eh=>?_
 obtain⟨G4,x4,kL,_⟩:=pv.freeze x3;split at eh
 ·rename_i bF es e1 e2;obtain⟨key,d,hk,hl,eh⟩:=eh;rw[e1] at rv;rw[e2] at kL;simp only[Rep] at rv kL;obtain⟨a,ks,bs,rfl,ha,yd,rL⟩:=rv;obtain⟨b,ys,rfl,hb,jL⟩:=kL;obtain⟨w,hw,lG⟩:=(bN.mono x4.g _ _ rL).look hl;exact⟨a,b,ks,bs,key,w,rfl,rfl,.inl (x4.s _ _ (x4.g _ _ ha)),by rw[<-tu jL hk];exact x4.s.jQ hb,hw,k w H3 (.fz d) G4 (x2.trans x4) lG eh⟩
 ·exact eh.elim
end
end L2
namespace L2
open PySem PySem.Spec PyProof.Rows
section
variable {K:PySem.W.Frag} {G0 H0 G H G' H' G2 H2:Hp} {ρ:Ev} {σ:St} {v:V}
theorem cJ.unset{i:Nat}{u:Option V}(E:cJ K G0 H0 ρ σ G H):cJ K G0 H0 (ρ.set i .un) (σ.set i u) G H:=by
 have gs:∀j s,gt (ρ.set i .un) j=s->s≠.un->i≠j/\gt ρ j=s:=fun j s e hs=>by
  rw[pX] at e;by_cases h:i=j/\j<ρ.length
  ·rw[if_pos h] at e;exact absurd e.symm hs
  ·rw[if_neg h] at e;exact⟨fun z=>h ⟨z,sS e hs⟩,e⟩
 have ss:∀j,i≠j->(σ.set i u)[j]?=σ[j]?:=fun j h=>by rw[List.getElem?_set,if_neg h]
 obtain⟨own,o1,o2⟩:=E.on;refine⟨E.e,by simp[E.len],fun j d h=>?_,fun j ds h=>?_,fun j k ds es kT h1 h2=>?_,own,fun j ds p h hp=>?_,fun j o h=>?_⟩
 ·obtain⟨n,h⟩:=gs j _ h (by simp);rw[ss j n];exact E.fz j d h
 ·obtain⟨n,h⟩:=gs j _ h (by simp);rw[ss j n];exact E.ow j ds h
 ·obtain⟨n,h1⟩:=gs j _ h1 (by simp);obtain⟨n2,h2⟩:=gs k _ h2 (by simp);rw[ss j n,ss k n2];exact E.dj j k ds es kT h1 h2
 ·obtain⟨n,h⟩:=gs j _ h (by simp);rw[ss j n] at hp;exact o1 j ds p h hp
 ·obtain⟨n,h⟩:=gs j _ h (by simp);rw[ss j n];exact o2 j o h
end
noncomputable def CT(f:List D->Bool)(l:List (Addr×List D)):List V:=(l.filter fun p=>f p.2).map fun p=>.ref p.1
end L2
namespace PySem
open Sem (wp)
end PySem
namespace L2
open PySem PySem.Spec PyProof.Rows
end L2
namespace L2
open PySem PySem.Spec PyProof.Rows
end L2
namespace PySem
open Sem (wp)
end PySem
namespace L2
open PySem PySem.Spec PyProof.Rows
end L2
namespace L2
open PySem
end L2
namespace L2
namespace SI
open PySem PySem.Spec PyProof.Rows
end SI
end L2
namespace L2
open PySem PySem.Spec PyProof.Rows
namespace SI
end SI
end L2
namespace L2
open PySem PySem.Spec PyProof.Rows
end L2
namespace L2
open PySem PySem.Spec PyProof.Rows
section
variable {P:Program} {w:World} {K:PySem.W.Frag} {mg:Str->Option Value} {base:Heap}
theorem iU{x:Str}{st:Stmt}{N ps:List Str}{t:eX}{T:TX}{n d:Nat}(k:Nat)(A:At K mg x st)(S:bP N ps (bG st))
  (body:∀(f:Addr) (cG:Value) (A:Around) (outer:List Env) (s:Shared) (H:Hp) (E:XK),dA k (A.deeper (envOfC x (bG st) s.heap.objs.size f cG))->kX (lY mI P w K mg base N x (bG st) f cG A outer s H E).qp (cK st) T)
  (spec:∀(ds:List D) (Qr:R->Prop),ds.length=n->t ds Qr->T { nx:=fun _=>Qr (.fz .non),rt:=Qr } (gm N ds))
  (b:∀(kV doc pm:Value) (an:Option Addr) (cG ct:Value) (us:List Value),us.length=n->bindArgs (PySem.W.fnOf x x (ez st) (cK st) (bG st) .none kV doc pm an cG ct) ⟨us,[]⟩=pure (ps.zip us)) (hn:ps.length=n:=by rfl) (hd:k+1=d:=by rfl):Known P w K mg base d x n t:=by
 subst hn hd;obtain⟨f,fd,F,hm⟩:=A.ex;exact⟨f,fd,ps,D7 F S (body f) spec,hm,F.kp,F.binds b⟩
end
end L2
namespace L2
open PySem PySem.Spec PyProof.Rows
end L2
namespace L2
open PySem PySem.Spec PyProof.Rows
end L2
namespace Ts
open PySem PySem.W PyProof.Rows
end Ts
namespace L2
open PySem PySem.Spec PyProof.Rows
end L2
namespace L2
open PySem PySem.Spec PyProof.Rows
end L2
namespace L2
open PySem PySem.Spec PyProof.Rows
theorem o6{α:Type}{l:List α}{n:Nat}(h:l.length=n+1):∃a r,l=a::r/\r.length=n:=by
 cases l with
 | nil=>cases h
 | cons a r=>exact⟨a,r,rfl,Nat.succ.inj h⟩
theorem Hr{α:Type}{l:List α}(h:l.length=0):l=[]:=List.eq_nil_of_length_eq_zero h
theorem yz{α:Type}{l:List α}(h:l.length=1):∃a0,l=[a0]:=by
 obtain⟨a,r,e,h⟩:=o6 h;exact⟨a,by rw[e,Hr h]⟩
theorem CS{α:Type}{l:List α}(h:l.length=2):∃a0 a1,l=[a0,a1]:=by
 obtain⟨a,r,e,h⟩:=o6 h;obtain⟨b0,e2⟩:=yz h;exact⟨a,b0,by rw[e,e2]⟩
theorem CQ{α:Type}{l:List α}(h:l.length=3):∃a0 a1 a2,l=[a0,a1,a2]:=by
 obtain⟨a,r,e,h⟩:=o6 h;obtain⟨b0,b1,e2⟩:=CS h;exact⟨a,b0,b1,by rw[e,e2]⟩
theorem CP{α:Type}{l:List α}(h:l.length=4):∃a0 a1 a2 a3,l=[a0,a1,a2,a3]:=by
 obtain⟨a,r,e,h⟩:=o6 h;obtain⟨b0,b1,b2,e2⟩:=CQ h;exact⟨a,b0,b1,b2,by rw[e,e2]⟩
theorem CO{α:Type}{l:List α}(h:l.length=5):∃a0 a1 a2 a3 a4,l=[a0,a1,a2,a3,a4]:=by
 obtain⟨a,r,e,h⟩:=o6 h;obtain⟨b0,b1,b2,b3,e2⟩:=CP h;exact⟨a,b0,b1,b2,b3,by rw[e,e2]⟩
theorem CM{α:Type}{l:List α}(h:l.length=6):∃a0 a1 a2 a3 a4 a5,l=[a0,a1,a2,a3,a4,a5]:=by
 obtain⟨a,r,e,h⟩:=o6 h;obtain⟨b0,b1,b2,b3,b4,e2⟩:=CO h;exact⟨a,b0,b1,b2,b3,b4,by rw[e,e2]⟩
theorem CL{α:Type}{l:List α}(h:l.length=7):∃a0 a1 a2 a3 a4 a5 a6,l=[a0,a1,a2,a3,a4,a5,a6]:=by
 obtain⟨a,r,e,h⟩:=o6 h;obtain⟨b0,b1,b2,b3,b4,b5,e2⟩:=CM h;exact⟨a,b0,b1,b2,b3,b4,b5,by rw[e,e2]⟩
theorem GW{α:Type}{l:List α}(h:l.length=8):∃a0 a1 a2 a3 a4 a5 a6 a7,l=[a0,a1,a2,a3,a4,a5,a6,a7]:=by
 obtain⟨a,r,e,h⟩:=o6 h;obtain⟨b0,b1,b2,b3,b4,b5,b6,e2⟩:=CL h;exact⟨a,b0,b1,b2,b3,b4,b5,b6,by rw[e,e2]⟩
theorem Rc{α:Type}{l:List α}(h:l.length=9):∃a0 a1 a2 a3 a4 a5 a6 a7 a8,l=[a0,a1,a2,a3,a4,a5,a6,a7,a8]:=by
 obtain⟨a,r,e,h⟩:=o6 h;obtain⟨b0,b1,b2,b3,b4,b5,b6,b7,e2⟩:=GW h;exact⟨a,b0,b1,b2,b3,b4,b5,b6,b7,by rw[e,e2]⟩
end L2
namespace L2
open PySem PySem.Spec PyProof.Rows PySem.Builtin PySem.Builtin.Str
section
variable {X:Cx}
theorem MV{A:Around}{E:Value->Shared->Prop}{prog:Program}{w:World}{s:Shared}{Q:Value->Shared->Prop}{x y:Str}{t u:Tok}(hy:(y.length==0)=false)
  (hq:∀l tk,l.map (·.1)=Txt.split x y->Q (.ref s.heap.objs.size) { s with heap:=s.heap.push { cls:=.type "list",data:=.seq (strValues l).toArray },toks:=tk })
  (hsz:x.length+2<=sizeLine):wpAny (model prog w) A (call (.builtin "str.split") [.str x t,.str y u]) Q E s:=by
 have Bu:(partsBetween x (occurrences x y 0 x.length (x.length+1)) y.length).length<=sizeLine:=by
  rw[len_partsBetween];have:=StrLaws.occ_length_le x y 0 x.length (x.length+1);omega
 cases h1:(decide (x.length<y.length)||decide (strKind x<strKind y))
 ·cases hf:(occurrences x y 0 x.length (x.length+1)).isEmpty
  ·refine call_meets PySem.F.slot_str_split (typeIs_str _ _ _) PySem.F.entry_str_split (PySem.F.args_str_split_2 _ _) (meets_str_split_sep x y t u h1 hy hf (by omega) Bu) ?_;show wants Q E _ { s with toks:=_,heap:=s.heap.push { cls:=.type "list",data:=.seq (strsFrom s.toks (partsBetween x (occurrences x y 0 x.length (x.length+1)) y.length)).toArray } };rw[strsFrom_eq];exact hq (numbered s.toks _) _ ((numbered_texts _ _).trans ((if_neg (ne_true_of_eq_false h1)).trans (if_neg (ne_true_of_eq_false hf))).symm)
  ·exact call_meets PySem.F.slot_str_split (typeIs_str _ _ _) PySem.F.entry_str_split (PySem.F.args_str_split_2 _ _) (meets_str_split_not_found x y t u h1 hy hf)
    (hq [(x,t)] s.toks ((if_neg (ne_true_of_eq_false h1)).trans (if_pos hf)).symm)
 ·exact call_meets PySem.F.slot_str_split (typeIs_str _ _ _) PySem.F.entry_str_split (PySem.F.args_str_split_2 _ _) (meets_str_split_cannot_occur x y t u h1)
   (hq [(x,t)] s.toks (if_pos h1).symm)
theorem Ep:∀(l:List (Str×Tok)),Vals ((l.map (·.1)).map V.str) (strValues l)
 | []=>.nil
 | (x,t)::r=>.cons ⟨t,rfl⟩ (Ep r)
theorem EU{K:PySem.W.Frag}{G:Hp}:∀(l:List Str),bD K G (l.map V.str) (l.map D.str)
 | []=>bD.nil
 | x::r=>bD.cons (pY _ _ _) (EU r)
def rg:D->List D->(R->Prop)->Prop:=fun d ds Q=>match d,ds with
 | .str x,[.str y]=>y.length≠0/\x.length+2<=sizeLine/\Q (.ow ((Txt.split x y).map D.str))
 | _,_=>False
theorem zE:Cq X "str.split" rg:=by
 refine⟨fun x vs H Q=>∃(z y:Str),x=.str z/\vs=[.str y]/\y.length≠0/\z.length+2<=sizeLine/\∀p,H p=none->Q (.ref p) (upd H p (.lst ((Txt.split z y).map V.str))),fun pins s σ H x xs v us Q I rx rs h=>?_,fun G H x d vs ds Q P s rx rs h k=>?_⟩
 ·obtain⟨z,y,rfl,rfl,hy,hz,q⟩:=h;obtain⟨t,rfl⟩:=rx;obtain⟨u,rfl,ru⟩:=mQ rs;obtain⟨t2,rfl⟩:=ru;refine MV (by simpa using hy) (fun l tk hl=>?_) hz;have hv:=Ep l;rw[hl] at hv;exact⟨.ref _,_,I.px (t':=tk) hv (by rw[af];exact aR (split_le z y) hz),rfl,q _ I.fresh⟩
 ·unfold rg at h;split at h
  ·obtain⟨y,rfl,ry⟩:=lp rs;simp only[Rep] at rx ry;subst rx ry;exact⟨_,_,rfl,rfl,h.1,h.2.1,zp s (EU _) h.2.2 k⟩
  ·exact h.elim
end
end L2
namespace L2
open PySem PySem.Spec PyProof.Rows
end L2
namespace L2
open PySem PySem.Spec PyProof.Rows
end L2
namespace L2.SO
open PySem PySem.Spec PyProof.Rows L2
end L2.SO
namespace L2.SO
open PySem PySem.Spec PyProof.Rows L2
end L2.SO
namespace L2.SO
open PySem PySem.Spec PyProof.Rows L2
end L2.SO
namespace L2.SO
open PySem PySem.Spec PyProof.Rows L2
end L2.SO
namespace L2.SO
open PySem PySem.Spec PyProof.Rows L2
end L2.SO
namespace L2.SO
open PySem PySem.Spec PyProof.Rows L2
end L2.SO
namespace L2.SO
open PySem PySem.Spec PyProof.Rows L2
end L2.SO
namespace L2.SO
open PySem PySem.Spec PyProof.Rows L2
end L2.SO
namespace L2.SO
open PySem PySem.Spec PyProof.Rows L2
end L2.SO
namespace L2
open PySem PySem.Spec PyProof.Rows
end L2
namespace L2
open PySem PySem.Spec PyProof.Rows
def pP(s0:Shared)(H:Hp)(b:Addr):Prop:=(∃o,s0.heap.get? b=some o)\/H b≠none
def Q9(l:List Env)(C a:Addr)(P:Addr->Prop)(h:Heap):Prop:=∃B a0,Heap.FlyingW B l a (.ref C) a0 h/\∀b o,P b->h.get? b=some o->b∉gQ l->B.get? b=some o
def sI(P:Program)(w:World)(C:Addr):oZ:=fun outer H s E e s'=>∃a H',e=.ref a/\s'.os=s.os/\AllBare s'.gens/\Un (gQ outer) [] H H' s.heap s'.heap/\gk P w H' s'.heap/\H' a=none/\s.heap.get? a=none/\Q9 outer C a (pP s H') s'.heap/\E (.ref a) none H'
section
variable {X:Cx} {pins:List (Addr×Obj)} {σ:St} {H:Hp} {s:Shared}
theorem cH.some{P:Program}{w:World}{H:Hp}{h:Heap}{a:Addr}{o:HO}(x:cH P w H h a o):∃ob,h.get? a=some ob:=by
 cases o with
 | lst xs=>exact⟨_,x.2.choose_spec.choose_spec.2⟩
 | tup xs=>
  obtain⟨_,its,_,ob,e,_⟩:=x;exact⟨ob,e⟩
 | dK bF ep=>
  obtain⟨_,_,_,_,ob,_,e,_⟩:=x;exact⟨ob,e⟩
 | dT bF bs=>
  obtain⟨_,_,_,_,_,ob,_,_,e,_⟩:=x;exact⟨ob,e⟩
 | set S n=>
  obtain⟨ob,_,_,_,e,_⟩:=x;exact⟨ob,e⟩
 | ins C dx fs=>exact⟨_,x.2.2.2.1⟩
 | own y=>exact x
 | xd fs=>
  obtain⟨_,⟨ob,_,_,e,_⟩,_⟩:=x;exact⟨ob,e⟩
 | xV lo hi=>
  obtain⟨_,_,_,e⟩:=x;exact⟨_,e⟩
 | iQ ob u=>exact⟨ob,x.1⟩
 | qj ps=>exact⟨_,x⟩
 | met f y=>exact⟨_,x⟩
 | ext φ=>exact x.2.1
theorem Inv.there(I:Inv X pins σ H s)(hex:X.ex=[]){b:Addr}(h:pP X.cY H b):∃o,s.heap.get? b=some o:=by
 rcases h with⟨o,e⟩ | h
 ·exact I.base.there b o e (by rw[hex];simp)
 ·cases e:H b with
  | none=>exact absurd e h
  | some u=>exact(I.b9 b u e).some
theorem Inv.gone(I:Inv X pins σ H s)(hex:X.ex=[])(fE:X.stack=X.env::X.outer)(hf:X.env.frame=some X.env.locals){B h':Heap}(st:B.StaysIn h')(qI:∀b o,pP X.cY H b->s.heap.get? b=some o->b∉gQ X.stack->B.get? b=some o)(up:s.heap.UpToSlots h') :
  Un (gQ X.outer) [] X.mG H X.cY.heap h'/\gk X.prog X.w H h'/\∀b o,pP X.cY H b->h'.get? b=some o->b∉gQ X.outer->B.get? b=some o:=by
 have pH:gQ X.stack=X.env.locals::gQ X.outer:=by rw[fE];simp[gQ,hf]
 have nL:∀b,pP X.cY H b->b≠X.env.locals:=fun b h z=>by
  subst z;rcases h with⟨o,e⟩ | h
  ·exact absurd (aB e) (Nat.not_lt.mpr I.ok.above)
  ·exact h I.free
 have out:∀b,pP X.cY H b->b∉gQ X.outer->b∉gQ X.stack:=fun b h n=>by
  rw[pH];simp only[au,not_or];exact⟨nL b h,n⟩
 have same:∀b o,pP X.cY H b->b∉gQ X.outer->s.heap.get? b=some o->h'.get? b=some o:=fun b o h n e=>st b o (qI b o h e (out b h n))
 have QR:∀b,H b≠none->b∉gQ X.outer:=fun b h m=>by
  obtain⟨_,o,ho,_⟩:=I.ok.fG.mem m;exact h (I.base.free b o ho (I.ok.oU b m) (by rw[hex];simp))
 refine⟨⟨fun b o e n hb _=>?_,fun b o e n hb _=>?_,fun b o e n _=>?_,fun b o e _=>?_,I.base.ia,I.base.g6,I.base.ib⟩,fun a u e=>?_,fun b o h e n=>?_⟩
 ·exact same b o (.inl ⟨o,e⟩) hb (I.base.keep b o e n hb (by rw[hex];simp))
 ·obtain⟨sl,e1⟩:=I.base.slot b o e n hb (by rw[hex];simp);obtain⟨_,o',jW,hd⟩:=I.ok.fG.mem hb;rw[e] at jW;cases jW;obtain⟨kK,e2⟩:=up b _ e1 hd;exact⟨kK,e2⟩
 ·exact I.base.free b o e n (by rw[hex];simp)
 ·by_cases hb:b∈gQ X.outer
  ·obtain⟨sl,e1⟩:=I.base.slot b o e (I.ok.oU b hb) hb (by rw[hex];simp);obtain⟨_,o',jW,hd⟩:=I.ok.fG.mem hb;rw[e] at jW;cases jW;obtain⟨kK,e2⟩:=up b _ e1 hd;exact⟨_,e2⟩
  ·obtain⟨o',e1⟩:=I.base.there b o e (by rw[hex];simp);exact⟨o',same b o' (.inl ⟨o,e⟩) hb e1⟩
 ·refine(I.b9 a u e).iy (fun b v hb hv=>?_) (fun _ h=>h) fun _ _ h=>h
  have hn:H b≠none:=by
   rcases hb with rfl | hb
   ·rw[e];exact nofun
   ·rw[hb];exact nofun
  exact same b v (.inr hn) (QR b hn) hv
 ·obtain⟨o',e1⟩:=I.there hex h;have e2:=same b o' h n e1;rw[e] at e2;cases e2;exact qI b o h e1 (out b h n)
def yy(X:Cx)(C:Addr)(W:Hp->Prop):Prop:=∀(pins:List (Addr×Obj)) (σ:St) (H:Hp) (s:Shared) (h':Heap) (a:Addr) (vs:List Value),Inv X pins σ H s->Heap.MadeExcOf s.heap h' a (.ref C) vs->W H->X.xe (.ref a) { s with heap:=h' }
end
section
variable {P:Program} {w:World} {K:PySem.W.Frag} {mg:Str->Option Value} {base:Heap} {N:List Str} {qual:Str} {scope:Scope} {f C:Addr} {cd:Value} {A:Around} {outer:List Env} {s0:Shared} {H0:Hp} {E:XK}
theorem JG:yy (lY (sI P w C) P w K mg base N qual scope f cd A outer s0 H0 E) C fun H'=>∀a,E (.ref a) none H':=by
 intro pins σ H s h' a vs I hx hw;have I':Inv (lY (sI P w C) P w K mg base N qual scope f cd A outer s0 H0 E) pins σ H { s with heap:=h' }:=I.kept (t':=s.toks) hx.keeps;have fu:=I.og.fG;have no:∀b,pP s0 H b->b≠a:=fun b hb z=>by
  obtain⟨o,e⟩:=I.there rfl hb;rw[z,hx.new] at e;cases e
 refine wpAny_leaves_madeW (base:=PySem.W.hideAll s.heap (gQ (envOfC qual scope s0.heap.objs.size f cd::outer))) (h:=s.heap) (cls:=.ref C) (args:=vs) I.ok.frames rfl (fun b o q=>PySem.W.of_hideAll _ q) (PySem.W.funFrames_hide fu fun env he b hb=>List.mem_filterMap.mpr ⟨env,he,hb⟩) hx fun h2 t wc tup bt up=>?_
 have qI:∀b o,pP s0 H b->h'.get? b=some o->b∉gQ (envOfC qual scope s0.heap.objs.size f cd::outer)->(PySem.W.hideAll s.heap (gQ (envOfC qual scope s0.heap.objs.size f cd::outer))).get? b=some o:=fun b o hb e n=>by
  obtain⟨o1,e1⟩:=I.there rfl hb;have:=hx.keeps b o1 e1;rw[e] at this;cases this;exact PySem.W.hideAll_get _ e1 n
 obtain⟨un,b9,cv⟩:=I'.gone rfl rfl rfl wc.1 qI up;refine⟨a,H,rfl,I.os,I.bare,un,b9,?_,?_,⟨_,_,wc,cv⟩,hw a⟩
 ·cases q:H a with
  | none=>rfl
  | some u=>exact absurd rfl (no a (.inr (by rw[q];exact nofun)))
 ·cases q:s0.heap.get? a with
  | none=>rfl
  | some u=>exact absurd rfl (no a (.inl ⟨u,q⟩))
end
section
variable {X:Cx} {pos:Pos} {te:TE} {e0:Expr} {W:Hp->Prop}
def IV(W:Hp->Prop)(te:TE):TS:=fun _ σ H=>te σ H fun x H1=>[x].length=1/\W H1
structure eK (K:PySem.W.Frag) (mg:Str->Option Value) (x:Str) (C:Addr) (lU:List Value) (newId:String):Prop where
 bound:mg x=some (.ref C)
 exc:PySem.W.excIn K C lU newId=true
theorem eK.at{K:PySem.W.Frag}{mg:Str->Option Value}{x:Str}{C:Addr}{lU:List Value}{newId:String}{h:Heap}(o:eK K mg x C lU newId)(ki:K.In h):OwnCls x C lU newId mg h:=by
 obtain⟨hb,z⟩:=o;unfold PySem.W.excIn at z;split at z
 ·rename_i d1 c1 s1 look;split at z
  ·rename_i c2 mr e0 e1 e2 e3 nn e5 he hz;simp only[aO,beq_iff_eq,Bool.not_eq_true'] at z;obtain⟨⟨⟨⟨⟨z1,z2⟩,z3⟩,z4⟩,z5⟩,z6⟩:=z;subst z1 z2;cases c1;dsimp only at he z3 z5 z6;subst he z3;obtain rfl:s1=#[e0,e1,e2,e3,some (.builtin nn),e5]:=by
    cases s1;simp only at hz;rw[hz]
   exact⟨hb,_,_,_,_,_,_,_,_,_,_,_,_,_,_,_,_,_,ki _ _ look,.of_isNs (PySem.W.isNs_of_in ki z5),PySem.W.nsMap_none_of_in ki z5 z6,PySem.W.tail_of_in ki z4⟩
  ·cases z
 ·cases z
theorem LA{C:Addr}{x:Str}{lU:List Value}{newId B kO:String}{np cW:Pos}(O:eK X.K X.mg x C lU newId)(FB:ExcBaseFacts B newId kO lU)(hc:X.calm=true)(T:yy X C W)(he:PE X e0 te)(hg:Gl X x:=by rfl)(hd:(x==("__debug__":Str))=false:=by decide)
  (hs:starEach [e0] X.env=(false,eval e0 X.env)::starEach [] X.env:=by rfl) (hp:(backTo cW (starEach [] X.env)).any (·.1)=false:=by rfl):PS X (.Raise (some (.Call (.Name x np) [e0] [] cW)) none pos) (IV W te):=by
 intro pins s σ H D I h;have O:=O.at I.ok.mod.qw;obtain⟨tl,Nn,nm,q,bs,hdct,sn,sub,ab,col,dd,k0,k1,k2,k3,k5,mN,hC,hN,Gf,OT⟩:=O.obj;refine wpAny_Raise_call_subT (C:=C) (nm:=nm) (q:=q) (N:=Nn) (bs:=bs) (bm:=tl) (hdct:=hdct) (sn:=sn) (sub:=sub) (ab:=ab) (col:=col) (dd:=dd) (k0:=k0) (k1:=k1) (k2:=k2) (k3:=k3) (k5:=k5) FB (mN:=mN) (OT.hasType FB.hasBase) (I.ok.hd hc) ?_ Gf (uG I hg O.bound ⟨rfl,?_⟩ hd)
 ·rw[hs];exact hp
 ·have PN:PA X [e0] (C1 te CF):=jO he lz hs;have run:=PN cW pins s σ H (fun vs H1=>vs.length=1/\W H1) I h;rw[hs] at run ⊢;refine Calls.evalArgs_plain (cy run fun us s2 bQ=>?_);obtain⟨vs,H1,I1,r,hl,hw⟩:=bQ;refine⟨rfl,?_,I1.bk _ _ hC,hN.keeps I1.bk,OT.keeps I1.bk,fun h' a hm=>T pins σ H1 s2 h' a us I1 hm hw⟩;show us.length<=sizeLine;rw[<-r.length,hl];decide
end
end L2
namespace L2
open PySem PySem.Spec PyProof.Rows
noncomputable abbrev tZ:=List D->(R->Prop)->Prop->Prop
def wB(K:PySem.W.Frag)(n:Nat)(t:tZ):Sp:=fun vs H Q E=>∃G ds Qr Qx,bM G H/\bD K G vs ds/\ds.length=n/\t ds Qr Qx/\(∀v H' r G',Ext G H G' H'->di K G' H' H v r->Qr r->Q v H')/\∀G' H',Ext G H G' H'->Qx->∀a,E (.ref a) none H'
structure iH (P:Program) (w:World) (K:PySem.W.Frag) (mg:Str->Option Value) (base:Heap) (C:Addr) (k:Nat) (x:Str) (n:Nat) (t:tZ):Prop where
 ex:∃(f:Addr) (fd:FuncData) (ps:List Str),g8 P w K mg base (sI P w C) k f fd ps (wB K n t)/\mg x=some (.ref f)/\PySem.W.keepIn K (.ref f)=true/\Binds K fd ps []
section
variable {X:Cx} {W:Hp->Prop} {Qx:Prop} {pos:Pos} {e:Expr} {es:List Expr} {te:TD} {ts:iw}
def wA(X:Cx)(W:Hp->Prop)(Qx:Prop)(st:Stmt)(t:TX):Prop:=∃tt,PS X st tt/\∀(ρ:Ev) (σ:St) (G0 H0 G H:Hp) (D:DE) (E:Ends),cJ X.K G0 H0 ρ σ G H->t D ρ->Goes X.K G0 H0 G D E->(∀G' H',Ext G0 H0 G' H'->Qx->W H')->tt E σ H
def qU(X:Cx)(W:Hp->Prop)(Qx:Prop)(st:List Stmt)(t:TX):Prop:=∃tt,kA X st tt/\∀(ρ:Ev) (σ:St) (G0 H0 G H:Hp) (D:DE) (E:Ends),cJ X.K G0 H0 ρ σ G H->t D ρ->Goes X.K G0 H0 G D E->(∀G' H',Ext G0 H0 G' H'->Qx->W H')->tt E σ H
theorem IU{st:Stmt}{t:TX}(h:PX X st t):wA X W Qx st t:=let⟨tt,p,q⟩:=h;⟨tt,p,fun ρ σ G0 H0 G H D E k h g _=>q ρ σ G0 H0 G H D E k h g⟩
theorem D9{nM:List Stmt}{t:TX}(h:kX X nM t):qU X W Qx nM t:=let⟨tt,p,q⟩:=h;⟨tt,p,fun ρ σ G0 H0 G H D E k h g _=>q ρ σ G0 H0 G H D E k h g⟩
theorem ET{st:Stmt}{nM:List Stmt}{t u:TX}(h1:wA X W Qx st t)(h2:qU X W Qx nM u):qU X W Qx (st::nM) (cp t u):=by
 obtain⟨t1,p1,q1⟩:=h1;obtain⟨t2,p2,q2⟩:=h2;exact⟨_,EE p1 p2,fun ρ σ G0 H0 G H D E k h g hw=>q1 ρ σ G0 H0 G H _ _ k h ⟨fun ρ' bY G' H' s' k' h'=>q2 ρ' bY G0 H0 G' H' D E k' h' (g.shift s') hw,g.rt,g.bk,g.ct⟩ hw⟩
theorem Lz{st:Stmt}{t:TX}(h1:wA X W Qx st t):qU X W Qx [st] t:=let⟨t1,p1,q1⟩:=h1;⟨_,zu p1,q1⟩
theorem IT{c:Expr}{a b:List Stmt}{tc:gU}{t u:TX}(hc:PB X c tc)(ha:qU X W Qx a t)(hb:qU X W Qx b u):wA X W Qx (.If c a b pos) (fh tc t u):=by
 obtain⟨t0,p0,q0⟩:=hc;obtain⟨t1,p1,q1⟩:=ha;obtain⟨t2,p2,q2⟩:=hb;refine⟨_,C5 p0 p1 p2,fun ρ σ G0 H0 G H D E k h g hw=>q0 ρ σ G0 H0 G H _ _ k h fun b H' G' x hq=>?_⟩;cases b with
 | true=>
  rw[if_pos rfl] at hq ⊢;exact q1 ρ σ G0 H0 G' H' D E (k.ext x) hq (g.shift x.g) hw
 | false=>
  rw[if_neg ax] at hq ⊢;exact q2 ρ σ G0 H0 G' H' D E (k.ext x) hq (g.shift x.g) hw
def zi(Qx:Prop)(te:TD):TX:=fun _ ρ=>te ρ fun _=>Qx
theorem Ly{C:Addr}{x:Str}{lU:List Value}{newId B kO:String}{np cW:Pos}(O:eK X.K X.mg x C lU newId)(FB:ExcBaseFacts B newId kO lU)(hc:X.calm=true)(T:yy X C W)(he:PD X e te)(hg:Gl X x:=by rfl)(hd:(x==("__debug__":Str))=false:=by decide)
  (hs:starEach [e] X.env=(false,eval e X.env)::starEach [] X.env:=by rfl) (hp:(backTo cW (starEach [] X.env)).any (·.1)=false:=by rfl):wA X W Qx (.Raise (some (.Call (.Name x np) [e] [] cW)) none pos) (zi Qx te):=by
 obtain⟨tt,p,q⟩:=he;exact⟨_,LA O FB hc T p hg hd hs hp,fun ρ σ G0 H0 G H D E k h g hw=>q ρ σ G0 H0 G H _ _ k h fun v H' r G' x rr hq=>⟨rfl,hw G' H' (k.e.trans x) hq⟩⟩
end
section
variable {P:Program} {w:World} {K:PySem.W.Frag} {mg:Str->Option Value} {base:Heap}
theorem MA{C:Addr}{x:Str}{st:Stmt}{N ps:List Str}{t:tZ}{T:Prop->TX}{n d:Nat}(k:Nat)(A:At K mg x st)(S:bP N ps (bG st))
  (body:∀(Qx:Prop) (f:Addr) (cG:Value) (A:Around) (outer:List Env) (s:Shared) (H:Hp) (E:XK),dA k (A.deeper (envOfC x (bG st) s.heap.objs.size f cG))->qU (lY (sI P w C) P w K mg base N x (bG st) f cG A outer s H E) (fun H'=>∀a,E (.ref a) none H') Qx (cK st) (T Qx))
  (spec:∀(ds:List D) (Qr:R->Prop) (Qx:Prop),ds.length=n->t ds Qr Qx->T Qx { nx:=fun _=>Qr (.fz .non),rt:=Qr } (gm N ds))
  (b:∀(kV doc pm:Value) (an:Option Addr) (cG ct:Value) (us:List Value),us.length=n->bindArgs (PySem.W.fnOf x x (ez st) (cK st) (bG st) .none kV doc pm an cG ct) ⟨us,[]⟩=pure (ps.zip us)) (hn:ps.length=n:=by rfl) (hd:k+1=d:=by rfl):iH P w K mg base C d x n t:=by
 subst hn hd;obtain⟨f,fd,F,hm⟩:=A.ex;refine⟨f,fd,ps,?_,hm,F.kp,F.binds b⟩;obtain⟨oc,od,kV,doc,pm,an,cG,ct,mZ,rfl,lk,fK⟩:=F.ex;refine CZ lk fK S (fun vs H Q E h=>?_) fun A outer s H vs Q E hr h=>?_
 ·obtain⟨G,ds,Qr,Qx,_,r,hl,_⟩:=h;rw[r.length,hl]
 ·obtain⟨G,ds,Qr,Qx,s0,r,hl,ht,k0,kx⟩:=h;obtain⟨tt,p,q⟩:=body Qx f cG A outer s H E hr;exact⟨tt,p,q _ _ G H G H _ _ (EM s0 r) (spec ds Qr Qx hl ht) ⟨fun ρ σ G' H' _ e h=>k0 _ H' _ G' e.e (eV (zq _ _)) h,k0,fun _ _ _ _ _ _ h=>h.elim,fun _ _ _ _ _ _ h=>h.elim⟩ kx⟩
end
end L2
namespace L2
open PySem PySem.Spec PyProof.Rows
theorem IS{P:Program}{w:World}{fs:List Addr}{H H':Hp}{h h1 h2 B:Heap}(u:Un fs [] H H' h h1)(fr:∀b∈fs,H b=none/\∃o,h.get? b=some o/\∀vs,o.data≠.fields vs)(st:B.StaysIn h2)
  (qI:∀b o,((∃o,h.get? b=some o)\/H' b≠none)->h1.get? b=some o->b∉fs->B.get? b=some o) (up:h1.UpToSlots h2) (b9:gk P w H' h1):Un fs [] H H' h h2/\gk P w H' h2:=by
 have same:∀b o,((∃o,h.get? b=some o)\/H' b≠none)->b∉fs->h1.get? b=some o->h2.get? b=some o:=fun b o hb n e=>st b o (qI b o hb e n)
 have slot:∀b∈fs,∀o,h.get? b=some o->∃sl,h2.get? b=some { o with slots:=sl }:=fun b hb o e=>by
  obtain⟨n,o',e',hd⟩:=fr b hb;rw[e] at e';cases e';obtain⟨sl,e1⟩:=u.slot b o e n hb (by simp);obtain⟨kK,e2⟩:=up b _ e1 hd;exact⟨kK,e2⟩
 have nf:∀b,H' b≠none->b∉fs:=fun b hb m=>by
  obtain⟨n,o,e,_⟩:=fr b m;exact hb (u.free b o e n (by simp))
 refine⟨⟨fun b o e n hb _=>same b o (.inl ⟨o,e⟩) hb (u.keep b o e n hb (by simp)),fun b o e n hb _=>slot b hb o e,fun b o e n _=>u.free b o e n (by simp),fun b o e _=>?_,u.ia,u.g6,u.ib⟩,fun a v e=>?_⟩
 ·by_cases hb:b∈fs
  ·obtain⟨sl,e2⟩:=slot b hb o e;exact⟨_,e2⟩
  ·obtain⟨o',e1⟩:=u.there b o e (by simp);exact⟨o',same b o' (.inl ⟨o,e⟩) hb e1⟩
 ·refine(b9 a v e).iy (fun b q hb hq=>?_) (fun _ z=>z) fun _ _ z=>z
  have hn:H' b≠none:=by
   rcases hb with rfl | hb
   ·rw[e];exact nofun
   ·rw[hb];exact nofun
  exact same b q (.inr hn) (nf b hn) hq
section
variable {X:Cx}
noncomputable abbrev Cx.gG(X:Cx)(a:Addr):Cx:={ X with A:=X.A.mark (some (.ref a)),calm:=false }
theorem Inv.gG{pins:List (Addr×Obj)}{σ:St}{H:Hp}{s:Shared}(I:Inv X pins σ H s)(a:Addr):Inv (X.gG a) pins σ H s:=
 ⟨⟨I.ok.mod,I.ok.kind,I.ok.glob,I.ok.blt,I.ok.above,I.ok.inj,I.ok.has,I.ok.cab,fun z=>(by cases z),I.ok.frames,I.ok.vo,I.ok.exf,I.ok.bs,I.ok.qJ,I.ok.mn,I.ok.mE,I.ok.fG,I.ok.oU⟩,I.os,I.bare,I.base,I.loc,I.cell,I.free,I.eu,I.pin,I.b9,I.len⟩
theorem Inv.rM{pins:List (Addr×Obj)}{σ:St}{H:Hp}{s:Shared}{a:Addr}(ok:X.Ok)(I:Inv (X.gG a) pins σ H s):Inv X pins σ H s:=
 ⟨ok,I.os,I.bare,I.base,I.loc,I.cell,I.free,I.eu,I.pin,I.b9,I.len⟩
theorem JF{pins:List (Addr×Obj)}{σ:St}{H:Hp}{s:Shared}{Q:VK}{E:XK}{Ex:Value->Shared->Prop}{us ds:List Value}{vs mF:List V}{k:Nat}{f C:Addr}{fd:FuncData}{ps:List Str}{sp:Sp}(F:g8 X.prog X.w X.K X.mg X.base (sI X.prog X.w C) k f fd ps sp)(hr:dA k X.A)(hb:Binds X.K fd ps ds)(hd:Vals mF ds)
  (I:Inv X pins σ H s) (r:Vals vs us) (h:sp (vs++mF) H Q E) (hx:∀e s',sI X.prog X.w C X.stack H s E e s'->Ex e s'):wpAny (model X.prog X.w) X.A (call (.ref f) us) (EP X pins σ Q) Ex s:=by
 have r2:Vals (vs++mF) (us++ds):=r.append hd;have hl:(us++ds).length=ps.length:=by rw[<-r2.length];exact F.len _ _ _ _ h
 refine wpAny_call (codeAny_mono (F.run X.A X.stack s H ⟨us,[]⟩ (us++ds) (vs++mF) Q E hr I.og (hb s us I.jU hl) r2 h) fun r s' hq=>?_);cases r with
 | error e=>exact hx e s' hq
 | ok fl=>
  cases fl with
  | ret u=>exact I.after hq
  | next=>exact False.elim hq
  | brk=>exact False.elim hq
  | cont=>exact False.elim hq
end
end L2
namespace L2
open PySem PySem.Spec PyProof.Rows
end L2
namespace L2
open PySem PySem.Spec PyProof.Rows
end L2
namespace L2
open PySem PySem.Spec PyProof.Rows
end L2
namespace L2
open PySem PySem.Spec PyProof.Rows
section
variable {prog:Program} {w:World} {K:Type} [DecidableEq K] {knd:HeapKind prog w K} {A:Around} {E:Value->Shared->Prop} {s:Shared} {d a:Addr} {k:K} {xs:List (K×Addr×Value)}
theorem FC{Q:Bool->Shared->Prop}(hu:knd.room A.in1)(kS:knd.is s.heap k a)(hd:(d==sysModules)=false)(hm:s.heap.DictOfH knd d xs)
  (h:Q (atKey xs k).isSome { s with toks:=s.toks+knd.draws k }):wpAny (model prog w) A (contains (.ref d) (.ref a)) Q E s:=by
 unfold contains;try with_reducible refine wpAny_holding ?_
 refine aa (wpAny_specialOf hm.typeIs slot_dict_contains.lookup ?_);show wpAny _ _ (if (some (Value.builtin "dict.__contains__")==some Value.none)=true then _ else _) _ E s;rw[if_neg (by rw[beq_builtin_none];exact ax)];refine aa (wpAny_callSpecialUnlessNone?_slot (name:=Str.ofString "__contains__") hm.typeIs slot_dict_contains
  (wpAny_call_entry slot_dict_contains hm.typeIs entry_dict_contains ?_ (args_dict_contains _ _)))
 show wpAny _ _ (dictGet d (.ref a) >>= _) _ _ s;refine aa (wpAny_dictGet_heap hu kS hm ?_);cases hf:atKey xs k with
 | some p=>
  rw[hf] at h;show wpAny _ _ (ret (.bool true)) _ _ _;exact ah ⟨_,rfl,bg h⟩
 | none=>
  rw[hf] at h;show wpAny _ _ (Builtin.Dict.pendingKey? d (.ref a) >>= _) _ _ _;exact aa (wpAny_pendingKey_other hd (ah ⟨_,rfl,bg h⟩))
end
section
variable {X:Cx} {pos:Pos} {e i':Expr} {te ti tv:TD}
def yx(n:Bool):R2:=fun x y H Q=>∃a b bF bs k,y=.ref a/\x=.ref b/\Rd H a (.dT bF bs)/\H b=some (.tup (k.map kV))/\Q (.bl (if n then !(gN bF k).isSome else(gN bF k).isSome)) H
theorem Ri(hu:X.A.units+64<cLine):fj X (compareOp .In) (yx false):=by
 intro pins s σ H x y v u Q I rx ry h;obtain⟨a,b,bF,bs,k,rfl,rfl,ha,hb,q⟩:=h;cases rx;cases ry;obtain⟨_,hd,xs,_,rel,dd⟩:=qZ I.b9 ha;refine aa (FC (knd:=tupleKind (kn X.prog X.w)) (tupleKind_room_in1 (by show X.A.units+1<cLine;omega)) (sW I.b9 hb) hd dd (ah ⟨.bl _,H,I.tok _,rfl,?_⟩));have:=(rel.val k).fJ;rw[Option.isSome_map] at this;rw[<-this];exact q
theorem LW(hu:X.A.units+64<cLine):fj X (compareOp .NotIn) (yx true):=by
 intro pins s σ H x y v u Q I rx ry h;obtain⟨a,b,bF,bs,k,rfl,rfl,ha,hb,q⟩:=h;cases rx;cases ry;obtain⟨_,hd,xs,_,rel,dd⟩:=qZ I.b9 ha;refine aa (FC (knd:=tupleKind (kn X.prog X.w)) (tupleKind_room_in1 (by show X.A.units+1<cLine;omega)) (sW I.b9 hb) hd dd (ah ⟨.bl _,H,I.tok _,rfl,?_⟩));have:=(rel.val k).fJ;rw[Option.isSome_map] at this;rw[<-this];exact q
theorem bN.isSome{K:PySem.W.Frag}{G:Hp}(k:List Key):∀{ks:List (List Key×V)} {bF:List (List Key×D)},bN K G ks bF->(gN ks k).isSome=(kE bF k).isSome
 | [],[],_=>rfl
 | a::ks,b::bF,h=>by
  simp only[bN] at h;unfold kE gN;rw[List.find?_cons,List.find?_cons,h.1.1];by_cases hk:b.1=k
  ·simp only[hk,decide_true,bo,Option.isSome_some]
  ·simp only[hk,decide_false];exact bN.isSome k h.2
 | [],_::_,h=>by simp only[bN] at h
 | _::_,[],h=>by simp only[bN] at h
def uh(neg:Bool):O2:=fun d e Q=>match d,e with
 | .tup es,.dit bF=>∃k,l7 es=some k/\Q (.fz (.bl (if neg then !(kE bF k).isSome else(kE bF k).isSome)))
 | _,_=>False
theorem JE{n:Bool}{G H:Hp}{x y:V}{d e:D}{Q:R->Prop}{P:VK}(s:bM G H)(rx:Rep X.K G x d)(ry:Rep X.K G y e)(h:uh n d e Q)(k:∀v H' r G',Ext G H G' H'->di X.K G' H' H v r->Q r->P v H'):yx n x y H P:=by
 unfold uh at h;split at h
 ·simp only[Rep] at rx ry;obtain⟨b,ys,rfl,hb,jL⟩:=rx;obtain⟨a,ks,bs,rfl,ha,yd,rL⟩:=ry;obtain⟨key,hk,q⟩:=h;refine⟨a,b,ks,bs,key,rfl,rfl,.inl (s _ _ ha),by rw[<-tu jL hk];exact s _ _ hb,?_⟩;rw[rL.isSome key];exact k _ _ _ G (.refl s) (eV (iq _ _ _)) q
 ·exact h.elim
theorem Lx(hu:X.A.units+64<cLine):jg X (compareOp .NotIn) (uh true):=⟨_,LW hu,fun G H x y d e Q P s rx ry h k=>JE s rx ry h k⟩
def yJ:TD:=fun _ Q=>Q (.ov (.dq []))
theorem Lw:PD X (.Dict [] [] pos) yJ:=by
 refine⟨_,Ea,fun ρ σ G0 H0 G H Q P E h k=>fun d hd=>?_⟩;refine k _ _ (.ov (.dq [])) G (.own E.e.s hd) ⟨d,[],rfl,by simp,⟨rfl,[],([],0),fP,trivial,by simp only[bN]⟩,fun q hq=>?_⟩ h;simp only[a9] at hq;subst hq;exact⟨hd,E.e.s.free hd⟩
def JD(td ty tx:TE):TE:=fun σ H Q=>td σ H fun x H1=>∃a,x=.ref a/\IsT H1 a/\ty σ H1 fun y H2=>tx σ H2 fun z H3=>∃bF bs k b,Rd H3 a (.dT bF bs)/\y=.ref b/\H3 b=some (.tup (k.map kV))/\Q ((gN bF k).getD z) H3
theorem LV{o e f:Expr}{apos cW:Pos}{td ty tx:TE}(hu:X.A.units+64<cLine)(ho:PE X o td)(he:PE X e ty)(hf:PE X f tx)(m:M2 X o "get" apos e f cW):PE X (.Call (.Attribute o "get" apos) [e,f] [] cW) (JD td ty tx):=by
 intro pins s σ H Q I h;refine wpAny_Call_method m.base m.su m.line PySem.F.plainAttrs_dict PySem.F.slot_dict_get PySem.F.type_dict_get (cy (ho pins s σ H _ I h) fun u s1 bQ=>?_);obtain⟨x,H1,I1,rx,a,ex,d,q1⟩:=bQ;subst ex;obtain rfl:u=Value.ref a:=rx;obtain⟨t1,t2,_⟩:=zj I1 d;refine⟨t1,t2,?_⟩;rw[m.trees];refine Calls.callWith_builtin rfl (Calls.evalArgs_plain (Calls.spliced_cons (cy (he pins s1 σ H1 _ I1 q1) fun iv s2 bQ=>?_)));obtain⟨y,H2,I2,ry,q2⟩:=bQ;refine Calls.spliced_cons (cy (hf pins s2 σ H2 _ I2 q2) fun fv s3 bQ=>?_);obtain⟨z,H3,I3,rz,bF,bs,k,b,hk,ey,hb,q3⟩:=bQ;refine Calls.spliced_nil ?_;subst ey;obtain rfl:iv=Value.ref b:=ry;obtain⟨hz,hd,xs,bq,rel,dd⟩:=qZ I3.b9 hk;refine call_meetsIn PySem.F.slot_dict_get dd.typeIs PySem.F.entry_dict_get (PySem.F.args_dict_get_3 _ _ _) (meetsH_dict_get_default (tupleKind (kn X.prog X.w)) a b hd fv) ⟨tupleKind_room_in1 (by show X.A.units+1<cLine;omega),k,xs,sW I3.b9 hb,dd,?_⟩;exact⟨_,H3,I3.tok _,(rel.val k).getD rz,q3⟩
def y2(te ti tx:TD):TD:=fun ρ Q=>te ρ fun r=>match r.val with
 | .dit bF=>ti ρ fun rk=>tx ρ fun rx=>match rk.val with
  | .tup es=>∃k,l7 es=some k/\Q (.fz ((kE bF k).getD rx.val))
  | _=>False
 | _=>False
theorem Lv(hu:X.A.units+64<cLine){f:Expr}{apos:Pos}{tx:TD}(he:PD X e te)(hi:PD X i' ti)(hf:PD X f tx)(m:M2 X e "get" apos i' f pos:=by exact⟨rfl,rfl,rfl,rfl⟩):PD X (.Call (.Attribute e "get" apos) [i',f] [] pos) (y2 te ti tx):=by
 obtain⟨t,p,q⟩:=he;obtain⟨t2,p2,q2⟩:=hi;obtain⟨t3,p3,q3⟩:=hf;refine⟨_,LV hu p p2 p3 m,fun ρ σ G0 H0 G H Q P E h k=>q ρ σ G0 H0 G H _ _ E h fun v H1 r G1 x1 rr hq=>?_⟩;obtain⟨G2,x2,rv,_⟩:=rr.freeze x1;split at hq
 ·rename_i bF hk;rw[hk] at rv;simp only[Rep] at rv;obtain⟨a,ks,bs,rfl,ha,yd,rL⟩:=rv;refine⟨a,rfl,⟨ks,bs,.inl (x2.s _ _ ha)⟩,?_⟩;refine q2 ρ σ G0 H0 G2 H1 _ _ (E.ext x2) hq fun u H3 rk G3 x3 pv eh=>?_
  obtain⟨G4,x4,kL,_⟩:=pv.freeze x3;refine q3 ρ σ G0 H0 G4 H3 _ _ ((E.ext x2).ext x4) eh fun z H5 rx G5 x5 rK iP=>?_
  obtain⟨G6,x6,rJ,_⟩:=rK.freeze x5;split at iP
  ·rename_i es e2;obtain⟨key,h1,iP⟩:=iP;have va:=x4.trans x6;rw[e2] at kL;simp only[Rep] at kL;obtain⟨b,ys,rfl,hb,jL⟩:=kL;refine⟨ks,bs,key,b,.inl (va.s _ _ (va.g _ _ ha)),rfl,by rw[<-tu jL h1];exact x6.s _ _ (x6.g _ _ hb),?_⟩;have FO:=bN.mono va.g _ _ rL;cases hl:kE bF key with
   | none=>
    have:=FO.isSome key;rw[hl] at this;cases hv:gN ks key with
    | some=>rw[hv] at this;cases this
    | none=>
     rw[hl] at iP;exact k _ H5 (.fz rx.val) G6 (x2.trans va) rJ iP
   | some d=>
    obtain⟨w,hw,lG⟩:=FO.look hl;rw[hw];rw[hl] at iP;exact k _ H5 (.fz d) G6 (x2.trans va) lG iP
  ·exact iP.elim
 ·exact hq.elim
def Jq(td ty tv:TE):TS:=fun D σ H=>tv σ H fun v H1=>td σ H1 fun x H2=>ty σ H2 fun y H3=>∃a b bF bs k,x=.ref a/\y=.ref b/\H3 a=some (.dT bF bs)/\H3 b=some (.tup (k.map kV))/\bF.length<sizeLine/\∀ep,D.nx σ (upd H3 a (.dT (o4 bF k v) (if (bF.any fun kv=>decide (kv.1=k))=true then bs.1 else bs.1++[b],ep)))
theorem Lu{o i value:Expr}{pos':Pos}{td ty tv:TE}(hu:X.A.units+64<cLine)(ho:PE X o td)(hi:PE X i ty)(hv:PE X value tv)(hs:swapsWith value (some (.Subscript o i pos')) pos.line X.env=pure false) :
  PS X (.Assign [.Subscript o i pos'] value pos) (Jq td ty tv):=by
 intro pins s σ H D I h;refine wpAny_Assign_Subscript (cy (hv pins s σ H _ I h) fun r s1 bQ=>?_) hs;obtain⟨v,H1,I1,rv,q1⟩:=bQ;refine cy (ho pins s1 σ H1 _ I1 q1) fun u s2 bQ=>?_
 obtain⟨x,H2,I2,rx,q2⟩:=bQ;refine cy (hi pins s2 σ H2 _ I2 q2) fun iv s3 bQ=>?_
 obtain⟨y,H3,I3,ry,a,b,bF,bs,k,ex,ey,ha,hb,hl,q3⟩:=bQ;subst ex ey;obtain rfl:u=Value.ref a:=rx;obtain rfl:iv=Value.ref b:=ry;obtain⟨hz,hd,xs,bq,rel,dd⟩:=qZ I3.b9 (.inl ha);have hlen:bF.length=xs.length:=Paired.length rel;refine wpAny_setItem_heap (knd:=tupleKind (kn X.prog X.w)) (hsz:=by rw[<-hlen];exact hz) (tupleKind_room_in1 (by show X.A.units+1<cLine;omega)) (sW I3.b9 hb) dd fun h' tV kQ=>?_
 obtain⟨q,es,ep,hq,h2,h3,h4,_,h5⟩:=tV;refine⟨σ,_,?_,q3 ep⟩;refine D0 I3 (by rw[ha];exact True.intro) kQ ⟨q,hq⟩ ⟨by have:=M8 bF k v;omega,hd,_,?_,(rel.put k hb rv).keeps fun c ys ec=>?_,q,es,ep,hq,h2,h3,h4,h5,rfl⟩
 ·have e:(bF.any fun kv=>decide (kv.1=k))=(atKey xs k).isSome:=by
   rw[zS,(rel.val k).fJ,Option.isSome_map]
  unfold storedH;rw[e];by_cases z:(atKey xs k).isSome=true
  ·rw[if_pos z,if_pos z,aD,<-bq];refine List.map_congr_left fun p _=>?_
   show(putAt k r p).2.1=p.2.1;unfold putAt;split<;>rfl
  ·rw[if_neg z,if_neg z,aE,bq];rfl
 ·rw[cM (Dc ec ha (fun z=>nomatch z))];exact ec
end
end L2
namespace L2
open PySem PySem.Spec PyProof.Rows
noncomputable def ug(bF:List (List Key×D))(k:List Key)(d:D):List (List Key×D):=
 if (bF.any fun kv=>decide (kv.1=k))=true then bF.map (fun kv=>if kv.1=k then(kv.1,d) else kv) else bF++[(k,d)]
section
variable {K:PySem.W.Frag} {G:Hp}
theorem bN.length:∀{ks:List (List Key×V)} {bF:List (List Key×D)},bN K G ks bF->ks.length=bF.length
 | [],[],_=>rfl
 | a::ks,b::bF,h=>by
  simp only[bN] at h;simp only[aA,bN.length h.2]
 | [],_::_,h=>by simp only[bN] at h
 | _::_,[],h=>by simp only[bN] at h
theorem bN.any(k:List Key):∀{ks:List (List Key×V)} {bF:List (List Key×D)},bN K G ks bF->(ks.any fun kv=>decide (kv.1=k))=bF.any fun kv=>decide (kv.1=k)
 | [],[],_=>rfl
 | a::ks,b::bF,h=>by
  simp only[bN] at h;rw[List.any_cons,List.any_cons,h.1.1,bN.any k h.2]
 | [],_::_,h=>by simp only[bN] at h
 | _::_,[],h=>by simp only[bN] at h
theorem bN.snoc{k:List Key}{v:V}{d:D}(r:Rep K G v d):∀{ks:List (List Key×V)} {bF:List (List Key×D)},bN K G ks bF->bN K G (ks++[(k,v)]) (bF++[(k,d)])
 | [],[],_=>by simp only[List.nil_append,bN];exact⟨⟨trivial,r⟩,trivial⟩
 | a::ks,b::bF,h=>by
  simp only[bN] at h;simp only[List.cons_append,bN];exact⟨h.1,bN.snoc r h.2⟩
 | [],_::_,h=>by simp only[bN] at h
 | _::_,[],h=>by simp only[bN] at h
theorem bN.kM{k:List Key}{v:V}{d:D}(r:Rep K G v d):∀{ks:List (List Key×V)} {bF:List (List Key×D)},bN K G ks bF->bN K G (ks.map fun kv=>if kv.1=k then(kv.1,v) else kv) (bF.map fun kv=>if kv.1=k then(kv.1,d) else kv)
 | [],[],_=>by simp only[List.map_nil,bN]
 | a::ks,b::bF,h=>by
  simp only[bN] at h;simp only[ao,bN];refine⟨?_,bN.kM r h.2⟩;rw[h.1.1];split
  ·exact⟨rfl,r⟩
  ·exact⟨h.1.1,h.1.2⟩
 | [],_::_,h=>by simp only[bN] at h
 | _::_,[],h=>by simp only[bN] at h
theorem bN.put{ks:List (List Key×V)}{bF:List (List Key×D)}{k:List Key}{v:V}{d:D}(h:bN K G ks bF)(r:Rep K G v d):bN K G (o4 ks k v) (ug bF k d):=by
 unfold o4 ug;rw[h.any k];split
 ·exact h.kM r
 ·exact h.snoc r
theorem cC.kM{k:List Key}{v:V}:∀{ps:List (List Key×V)} {bs:List Addr},cC G ps bs->cC G (ps.map fun kv=>if kv.1=k then(kv.1,v) else kv) bs
 | [],[],h=>h
 | p::ps,b::bs,h=>by
  rw[ao];refine⟨?_,cC.kM h.2⟩;split
  ·exact h.1
  ·exact h.1
 | [],_::_,h=>h.elim
 | _::_,[],h=>h.elim
theorem cC.put{ks:List (List Key×V)}{bs:List Addr}{k:List Key}{v:V}{b:Addr}(h:cC G ks bs)(hb:G b=some (.tup (k.map kV))):cC G (o4 ks k v) (if (ks.any fun kv=>decide (kv.1=k))=true then bs else bs++[b]):=by
 unfold o4;split
 ·exact h.kM
 ·exact h.snoc hb
end
section
variable {X:Cx} {pos:Pos} {e i':Expr} {te ti tv:TD}
def w8(i:Nat)(ti tv:TD):TX:=fun D ρ=>match gt ρ i with
 | .ov (.dq bF)=>tv ρ fun r=>ti ρ fun rk=>match rk.val with
  | .tup es=>∃k,l7 es=some k/\bF.length<sizeLine/\D.nx (ρ.set i (.ov (.dq (ug bF k r.val))))
  | _=>False
 | _=>False
theorem JC(hu:X.A.units+64<cLine)(i:Nat){x:Str}{p1 p2:Pos}(hi:PD X i' ti)(he:PD X e tv)(hN:X.N[i]?=some x:=by rfl)(hv:j2 X.env.scope x:=by first | exact Or.inl rfl | exact Or.inr (Or.inl rfl) | exact Or.inr (Or.inr rfl))(hd:(x==("__debug__":Str))=false:=by decide)(fK:(x==("__classdict__":Str))=false:=by decide)
  (hs:swapsWith e (some (.Subscript (.Name x p1) i' p2)) pos.line X.env=pure false:=by rfl) :
  PX X (.Assign [.Subscript (.Name x p1) i' p2] e pos) (w8 i ti tv):=by
 obtain⟨t,p,q⟩:=he;obtain⟨t2,A3,q2⟩:=hi;refine⟨_,Lu hu (mU hN hv hd fK) A3 p hs,fun ρ σ G0 H0 G H D E k h g=>?_⟩;unfold w8 at h;split at h
 ·rename_i bF hg;obtain⟨own,o1,o2⟩:=k.on;obtain⟨a,fp,b1,b2,⟨rfl,ks,bs,ha,yd,rL⟩,b4⟩:=o2 i _ hg;refine q ρ σ G0 H0 G H _ _ k h fun v H' r G' x1 rr hq=>?_
  obtain⟨G2,x2,rv,_⟩:=rr.freeze x1;refine⟨_,b1,q2 ρ σ G0 H0 G2 H' _ _ (k.ext x2) hq fun u H3 rk G3 x3 pv eh=>?_⟩;obtain⟨G4,x4,kL,_⟩:=pv.freeze x3;split at eh
  ·rename_i es e2;obtain⟨key,hk,hlen,eh⟩:=eh;rw[e2] at kL;simp only[Rep] at kL;obtain⟨b,ys,rfl,hb,jL⟩:=kL;have lR:G4 b=some (.tup (key.map kV)):=by rw[<-tu jL hk];exact hb
   have jo:=x2.trans x4;refine⟨a,b,ks,bs,key,rfl,rfl,jo.h _ _ ha,x4.s _ _ lR,by rw[rL.length];exact hlen,fun ep=>?_⟩;refine g.nx _ _ G4 _ jo.g ((k.ext jo).gJ hg b1 fun fp nd ow=>?_) eh;obtain⟨rfl,rT,oj,yj,BL,AZ⟩:=ow;have e1:rT=ks/\oj=bs:=by
    have:=(jo.h _ _ ha).symm.trans yj;injection this with this
    injection this with nI nH
    exact⟨nI.symm,nH.symm⟩
   obtain⟨rfl,rfl⟩:=e1;refine⟨[],by simp,⟨rfl,_,_,fP,BL.put lR,AZ.put (rv.mono x4.g)⟩,fun q hq=>.inl hq,fun b hb _=>cM fun z=>hb (by simp[z])⟩
  ·exact eh.elim
 ·exact h.elim
end
end L2
namespace L2
open PySem PySem.Spec PyProof.Rows
section
variable {X:Cx} {pos:Pos} {e i':Expr} {te ti:TD}
def qT(i:Nat)(tk te:TD):TX:=fun D ρ=>match gt ρ i with
 | .ov (.dt bF)=>tk ρ fun rk=>match rk.val with
  | .tup es=>∃k n ds,l7 es=some k/\bF.length<sizeLine/\(iO bF k)[n]?=some (k,ds)/\(∀j'<n,∀p,(iO bF k)[j']?=some p->p.1≠k)/\
   te (ρ.set i (.ov (.dt (iO bF k)))) fun r=>ds.length<sizeLine/\D.nx (ρ.set i (.ov (.dt ((iO bF k).set n (k,ds++[r.val])))))
  | _=>False
 | _=>False
theorem y1(hu:X.A.units+64<cLine)(i:Nat){x:Str}{y:Expr}{p1 p2 p3 p4 p5 pos':Pos}{tk:TD}(hk:PD X y tk)(he:PD X e te)(hN:X.N[i]?=some x:=by rfl)(hv:j2 X.env.scope x:=by first | exact Or.inl rfl | exact Or.inr (Or.inl rfl) | exact Or.inr (Or.inr rfl))(hd:(x==("__debug__":Str))=false:=by decide)(fK:(x==("__classdict__":Str))=false:=by decide)
  (fE:starEach [e] X.env=(false,eval e X.env)::starEach [] X.env:=by rfl) (m:M2 X (.Name x p1) "setdefault" p2 y (.List [] p3) p4:=by exact⟨rfl,rfl,rfl,rfl⟩)
  (hb:∀{ta:TE} {t:TA},PE X (.Call (.Attribute (.Name x p1) "setdefault" p2) [y,.List [] p3] [] p4) ta->PA X [e] t->PE X (.Call (.Attribute (.Call (.Attribute (.Name x p1) "setdefault" p2) [y,.List [] p3] [] p4) "append" p5) [e] [] pos') (vj X.K "list" xv ta t):=by intro ta t h1 h2;exact ur PySem.F.plainAttrs_list PySem.F.slot_list_append PySem.F.type_list_append Ab h1 h2) :
  PX X (.Expr (.Call (.Attribute (.Call (.Attribute (.Name x p1) "setdefault" p2) [y,.List [] p3] [] p4) "append" p5) [e] [] pos') pos) (qT i tk te):=by
 obtain⟨t,p,q⟩:=he;obtain⟨Rq,pk,qk⟩:=hk;refine⟨_,xw (hb (JI hu (mU hN hv hd fK) pk (Dy lz) m) (jO p lz fE)),fun ρ σ G0 H0 G H D E k h g=>?_⟩;unfold qT at h;split at h
 ·rename_i bF hg;obtain⟨own,o1,o2⟩:=k.on;obtain⟨a,RO,b1,RR,⟨Pb,Q1,Qy,_⟩,RQ⟩:=o2 i _ hg;refine⟨_,b1,a,rfl,⟨Pb,Q1,.inl Qy⟩,qk ρ σ G0 H0 G H _ _ k h fun vk Hk rk Gk xk ON By=>?_⟩;obtain⟨G2,x2,qm,_⟩:=ON.freeze xk;split at By;rotate_left
  ·exact By.elim
  rename_i es e2;obtain⟨key,n,ds,Qc,hlen,hj,sh,mw⟩:=By;rw[e2] at qm;simp only[Rep] at qm;obtain⟨bb,vs,rfl,yg,OL⟩:=qm;have E2:=k.ext x2;have s2:bM G G2:=x2.g;have gf:i<ρ.length:=sS hg (by simp);obtain⟨O0,Ru,O5⟩:=E2.on;obtain⟨a2,fp,GJ,b2,⟨ks,bs,ha,yd,BK,RH,hr⟩,b4⟩:=O5 i _ hg;rw[b1] at GJ;cases GJ;have hb:Hk bb=some (.tup vs):=E2.e.s _ _ yg;have GB:=tu OL Qc;have tN:ks.length=bF.length:=by have:=congrArg List.length BK;simpa using this
  have qD:=hg;have BG:=gf;have QL:=yg;generalize Ry:ρ=ρ' at *;generalize hH:Hk=H1 at *
  -- behind rH
  have fin:∀(H5:Hp) (v:V) (Q5:VK),cJ X.K G0 H0 (ρ'.set i (.ov (.dt (iO bF key)))) σ G2 H5->(∀pz wx,H5 a=some (.dT pz wx)->gN pz key=some v)->(∀H',E.nx σ H'->Q5 .non H')->
    vd X.K "list" v H5/\t σ H5 fun w H6=>xv v [w] H6 Q5:=by
   intro H5 v Q5 E5 Pt QA;have Gj:gt (ρ'.set i (.ov (.dt (iO bF key)))) i=.ov (.dt (iO bF key)):=by rw[pX,if_pos ⟨rfl,BG⟩]
   obtain⟨OZ,_,o5⟩:=E5.on;obtain⟨a',QP,c1,c2,⟨pz,wx,d1,dk,d2,d3,d4⟩,c4⟩:=o5 i _ Gj;rw[b1] at c1;cases c1;obtain⟨qa,xs,f1,f2,f3⟩:=d4.get (j:=n) (ds:=ds) (by rw[aj,hj];rfl);have Qb:pz[n]?=some (key,.ref qa):=by
    have e1:=congrArg (fun l=>l[n]?) d2;have e2:=congrArg (fun l=>l[n]?) d3;simp only[aj,hj,f1,bo] at e1 e2;cases tN:pz[n]? with
    | none=>rw[tN] at e1;cases e1
    | some p=>
     rw[tN] at e1 e2;simp only[bo,aH] at e1 e2;obtain⟨p1,p2⟩:=p;simp only at e1 e2;rw[e1,e2]
   have hv:v=.ref qa:=by
    have e1:=MW Qb fun j' Qf p hp z=>by
     have e1:=congrArg (fun l=>l[j']?) d2;simp only[aj,hp,bo] at e1;cases ht:(iO bF key)[j']? with
     | none=>rw[ht] at e1;cases e1
     | some p'=>
      rw[ht] at e1;simp only[bo,aH] at e1;exact sh j' Qf p' ht (by rw[<-e1];exact z)
    rw[Pt pz wx d1] at e1;injection e1
   subst hv;refine⟨.inl ⟨rfl,xs,eW.of f2⟩,q _ σ G0 H0 G2 H5 _ _ E5 mw fun w H7 r G7 x7 OO F9=>?_⟩;obtain⟨G8,x8,OM,_⟩:=OO.freeze x7;refine⟨qa,xs,w,rfl,rfl,x8.h _ _ f2,by rw[f3.length];exact F9.1,QA _ (g.nx _ _ G8 _ (s2.trans x8.g) ?_ F9.2)⟩;have E9:=(E5.ext x8).gJ (o':=.dt ((iO bF key).set n (key,ds++[r.val]))) (H':=upd H7 qa (.lst (xs++[w]))) Gj b1 fun i3 nd ow=>?_
   ·rw[List.set_set] at E9;exact E9
   ·obtain⟨rT,oj,e1,ek,e2,e3,e4⟩:=ow;have Ce:rT=pz:=by
     have:=(x8.h _ _ d1).symm.trans e1;injection this with this
     injection this with this
     exact this.symm
    subst Ce;have QS:i3=QP:=(List.map_inj_right fun a b h=>by cases h;rfl).mp (e3.symm.trans d3);subst QS;have qt:=aX.mp nd;have F8:qa∈i3:=av f1;refine⟨i3,nd,⟨rT,oj,?_,ek,?_,e3,?_⟩,fun q hq=>.inl hq,fun b hb _=>cM fun z=>hb (by rw[z];exact ar _ F8)⟩
    ·rw[cM (fun z:a=qa=>qt.1 (z▸F8))];exact e1
    ·rw[e2,List.map_set];apply List.ext_getElem?;intro m;rw[List.getElem?_set];split
     ·rename_i hn;subst hn;rw[aj,hj];simp only[bo,af];rw[if_pos (ai.mp hj).1]
     ·rfl
    ·rw[List.map_set];exact e4.set ((f3.mono x8.g).append (bD.cons OM bD.nil)) qt.2 f1
  refine⟨bc _,fun l hl=>?_⟩;have vP:a≠l:=fun z=>by rw[<-z,ha] at hl;cases hl
  have P7:bb≠l:=fun z=>by rw[<-z,hb] at hl;cases hl
  refine⟨ks,bs,key,bb,by rw[cM vP];exact ha,rfl,by rw[cM P7,<-GB];exact hb,by rw[tN];exact hlen,fun v hv=>?_,fun hn ep=>?_⟩
  ·have ht:iO bF key=bF:=by
    unfold iO;rw[if_pos];rw[<-EV BK,xM,hv];rfl
   have E3:=E2.ext (.own E2.e.s hl (o:=.lst []));have E4:cJ X.K G0 H0 (ρ'.set i (.ov (.dt (iO bF key)))) σ G2 (upd H1 l (.lst [])):=by
    rw[ht];exact E3.gJ qD b1 fun i3 nd ow=>⟨i3,nd,ow,fun q hq=>.inl hq,fun _ _ _=>rfl⟩
   refine fin _ v (fun _ H'=>E.nx σ H') E4 (fun pz wx h5=>?_) fun H' h'=>h'
   rw[cM vP,ha] at h5;cases h5;exact hv
  ·have B3:(bF.any fun kv=>decide (kv.1=key))=false:=by rw[<-EV BK,xM,hn];rfl
   have Gq:(ks.any fun kv=>decide (kv.1=key))=false:=by rw[xM,hn];rfl
   have ht:iO bF key=bF++[(key,[])]:=by
    unfold iO;rw[B3];rfl
   have E4:cJ X.K G0 H0 (ρ'.set i (.ov (.dt (iO bF key)))) σ G2 (upd (upd H1 l (.lst [])) a (.dT (ks++[(key,.ref l)]) (bs.1++[bb],ep))):=by
    rw[ht];refine E2.gJ qD b1 fun i3 nd ow=>?_
    obtain⟨rT,oj,e1,ek,e2,e3,e4⟩:=ow;have Ce:rT=ks/\oj=bs:=by
     have:=ha.symm.trans e1;injection this with this
     injection this with nI nH
     exact⟨nI.symm,nH.symm⟩
    obtain⟨rfl,rfl⟩:=Ce;have vO:l∉a::i3:=fun z=>by
     rcases au.mp z with z | z
     ·exact vP z.symm
     ·exact e4.here l z hl
    have Qw:a∉i3:=(aX.mp nd).1;refine⟨i3++[l],?_,⟨_,_,fP,?_,by simp[e2],by simp[e3],?_⟩,fun q hq=>?_,fun b hb hn=>?_⟩
    ·rw[aX] at nd ⊢;refine⟨fun z=>?_,?_⟩
     ·rcases aI.mp z with z | z
      ·exact nd.1 z
      ·simp at z;exact vP z
     ·rw[List.nodup_append];refine⟨nd.2,by simp,fun x hx y hy=>?_⟩;simp at hy;subst hy;exact fun z=>vO (ar _ (z▸hx))
    ·exact cC.snoc (by rw[<-GB];exact QL) ek
    ·rw[aE];refine bO.snoc (zs:=[]) (e4.mono (bM.refl _) fun q hq xs e=>?_) ?_ bD.nil
     ·rw[cM (fun z:q=a=>Qw (z▸hq)),cM (fun z:q=l=>vO (ar _ (z▸hq)))];exact e
     ·rw[cM vP.symm];exact fP
    ·rcases au.mp hq with rfl | hq
     ·exact .inl (by simp)
     ·rcases aI.mp hq with hq | hq
      ·exact .inl (ar _ hq)
      ·simp at hq;subst hq;exact .inr hl
    ·rw[cM (fun z:b=a=>hb (by rw[z];simp)),cM (fun z:b=l=>hn (by rw[z];exact hl))]
   refine fin _ _ (fun _ H'=>E.nx σ H') E4 (fun pz wx h5=>?_) fun H' h'=>h'
   rw[fP] at h5;cases h5;have:=xM (ks:=ks) (k:=key);exact MB hn
 ·exact h.elim
end
end L2
namespace PySem
open Sem (wp)
section
variable {prog:Program} {w:World} {A:Around} {E:Value->Shared->Prop} {s:Shared} {d it v:Addr} {es:Array DictEntry} {ep i:Nat}
theorem MU(d:Addr)(hd:(d==sysModules)=false) :
  MeetsIn prog w (Builtin.«dict.values» ⟨[.ref d],[]⟩) (fun _ R s=>s.TypeIs (.ref d) "dict"/\R (.ok (.ret (.ref s.heap.objs.size))) { s with heap:=s.heap.push { cls:=.type "dict_values",data:=.fields #[.ref d] } }):=
 .of_wp fun A R s ⟨hT,h⟩=>by
  refine aa (m:=Builtin.Dict.noArgs _ _) ?_;unfold Builtin.Dict.noArgs;refine aa (wpAny_notOrdered_dict hT (show wpAny _ _ (pure d) _ _ s from ah ?_));show wpAny _ _ (Builtin.Dict.showsAll d >>= _) _ _ s;unfold Builtin.Dict.showsAll;rw[if_neg (by rw[hd];exact ax)];exact aa (ah (aa (bu (ah ⟨_,rfl,h⟩))))
theorem LU{Q:Value->Shared->Prop}(hv:s.heap.IsValuesView v d)(x:fc s.heap d es ep)
  (q:Q (.ref s.heap.objs.size) { s with heap:=s.heap.push { cls:=.type "dict_valueiterator",data:=.fields #[.ref d,.int 0 0,.int es.size 0,.int ep 0] } }):wpAny (model prog w) A (pyIter (.ref v)) Q E s:=by
 obtain⟨ov,PR,RK,Qp⟩:=id hv;obtain⟨od,jY,_,jZ⟩:=id x;refine wpAny_pyIter_slot hv.typeIs F.slot_dict_values_iter (wpAny_call_entry F.slot_dict_values_iter hv.typeIs F.entry_dict_values_iter ?_ (F.args_dict_values_iter_1 _));unfold Builtin.«dict_values.__iter__»;refine aa (ah (aa (m:=Builtin.Dict_items.dictOf _) ?_));unfold Builtin.Dict_items.dictOf;refine aa (wpAny_field PR Qp (x:=.ref d) rfl (ah (aa (m:=Builtin.Dict_items.newIterator _ _) ?_)));unfold Builtin.Dict_items.newIterator;refine aa (wpAny_dictEntries jY jZ (aa (wpAny_dictEpoch jY jZ ?_)));simp only[show Builtin.Dict_items.ownsTuple "dict_valueiterator"=false by decide,aV,br];refine bu (ah ⟨_,rfl,"dict_valueiterator",_,⟨_,aG _ rfl,rfl⟩,F.slot_dict_valueiterator_next.lookup,?_⟩);simpa[rawInt] using q
theorem LS{Q:Option Value->Shared->Prop}(t:s.heap.IsValIter it d i es.size ep)(x:fc s.heap d es ep)(hi:i<es.size)
  (q:∀h',h'.IsValIter it d (i+1) es.size ep->Heap.SameBut it s.heap h'->Q (some es[i].val) { s with heap:=h' }):wpAny (model prog w) A (pyNext (.ref it)) Q E s:=by
 obtain⟨oi,mD,wo,kU⟩:=id t;obtain⟨od,jY,_,jZ⟩:=id x;unfold pyNext;refine aa (wpAny_attempt (wpAny_callSpecial?_slot (name:=Str.ofString "__next__") t.typeIs F.slot_dict_valueiterator_next
  (wpAny_call_entry F.slot_dict_valueiterator_next t.typeIs F.entry_dict_valueiterator_next ?_ (F.args_dict_valueiterator_next_1 _))))
 refine aa (ah (aa (aa ?_)));refine aa (wpAny_typeNameOfWhole_valiter t.typeIs (ah (aa (wpAny_fieldsOf mD kU ?_))));simp only[show Builtin.Dict_items.ownsTuple "dict_valueiterator"=false by decide,aV,br];show wpAny _ _ (if (Value.ref d==Value.none)=true then _ else _) _ _ s;rw[if_neg (show ¬((Value.ref d==Value.none)=true) from ax)];refine aa (ah (aa (wpAny_dictEntries jY jZ ?_)));rw[if_neg (by simp)];refine aa (ah (aa (wpAny_dictEpoch jY jZ ?_)));rw[if_neg (by simp)];refine ah ?_;simp only[show ¬((i:Int)<0) from by omega,br,bh,Array.getElem?_eq_getElem hi];refine aa (aa (wpAny_typeNameOfWhole_valiter t.typeIs (ah (aa (wpAny_isOneOf_valiter t.typeIs ?_)))));show wpAny _ _ (setField (.ref it) 1 (rawInt ((i:Int)+1)) >>= _) _ _ s;refine aa (wpAny_setField mD kU (by simp) ?_);have t':(s.heap.update it (Obj.mapFields (·.setIfInBounds 1 (rawInt ((i:Int)+1))))).IsValIter it d (i+1) es.size ep:=
  ⟨_,Heap.get?_update_self _ mD (Obj.isFreed_of_fields (Obj.data_mapFields kU _)),(Obj.cls_mapFields ..).trans wo,by rw[Obj.data_mapFields kU];simp[rawInt]⟩
 refine aa (wpAny_holding ?_);refine aa (wpAny_isOneOf_valiter (s:={ s with heap:=s.heap.update it (Obj.mapFields (·.setIfInBounds 1 (rawInt ((i:Int)+1)))) }) t'.typeIs ?_);refine aa (wpAny_isOneOf_valiter (s:={ s with heap:=s.heap.update it (Obj.mapFields (·.setIfInBounds 1 (rawInt ((i:Int)+1)))) }) t'.typeIs ?_);show wpAny _ _ (pure es[i].val) _ _ _;exact ah (ah ⟨_,rfl,ah (q _ t' (Heap.SameBut.update ..))⟩)
theorem Ls{Q:Option Value->Shared->Prop}(hh:A.handled=none)(t:s.heap.IsValIter it d i es.size ep)(x:fc s.heap d es ep)(hi:es.size<=i)
  (q:∀h',Heap.ExtBut it s.heap h'->Q none { s with heap:=h' }):wpAny (model prog w) A (pyNext (.ref it)) Q E s:=by
 obtain⟨oi,mD,wo,kU⟩:=id t;obtain⟨od,jY,_,jZ⟩:=id x;unfold pyNext;refine aa (wpAny_attempt (wpAny_callSpecial?_slot (name:=Str.ofString "__next__") t.typeIs F.slot_dict_valueiterator_next
  (wpAny_call_entry F.slot_dict_valueiterator_next t.typeIs F.entry_dict_valueiterator_next ?_ (F.args_dict_valueiterator_next_1 _))))
 refine aa (ah (aa (aa ?_)));refine aa (wpAny_typeNameOfWhole_valiter t.typeIs (ah (aa (wpAny_fieldsOf mD kU ?_))));simp only[show Builtin.Dict_items.ownsTuple "dict_valueiterator"=false by decide,aV,br];show wpAny _ _ (if (Value.ref d==Value.none)=true then _ else _) _ _ s;rw[if_neg (show ¬((Value.ref d==Value.none)=true) from ax)];refine aa (ah (aa (wpAny_dictEntries jY jZ ?_)));rw[if_neg (by simp)];refine aa (ah (aa (wpAny_dictEpoch jY jZ ?_)));rw[if_neg (by simp)];refine ah ?_;simp only[show ¬((i:Int)<0) from by omega,br,bh,Array.getElem?_eq_none hi];refine aa (aa (wpAny_typeNameOfWhole_valiter t.typeIs (ah ?_)));show wpAny _ _ (setField (.ref it) 0 .none >>= _) _ _ s;refine aa (wpAny_setField mD kU (by simp) ?_);show wpAny _ _ (newExc (.type "StopIteration") [] >>= _) _ _ _;refine aa ?_;simp only[newExc,newTuple];refine aa (bu (aa (m:=firstArgMember _ _) (wpAny_of_eq (a:=Value.none) (by first | rfl | (simp only[firstArgMember];rfl)) (bu ?_ (by size_fits)))) (by size_fits));simp only[raiseNew];refine aa (wpAny_handled ?_);rw[show A.in1.handled=none from hh];refine aa (ah (wpAny_throw ?_));refine aa (wpAny_isInstance (T:="StopIteration") (b:=true) ⟨_,aG _ rfl,rfl⟩ isSubtype_stop ?_);exact ah (q _ (((Heap.SameBut.update ..).extBut.push _).push _))
end
end PySem
namespace L2
open PySem PySem.Spec PyProof.Rows
theorem sV{P:Program}{w:World}{H:Hp}{h:Heap}{a:Addr}{bF:List (List Key×V)}{bs:List Addr×Nat}(ok:gk P w H h)(e:H a=some (.dT bF bs)):(a==sysModules)=false/\
  ∃xs es,xs.map (fun x=>x.2.1)=bs.1/\KT H bF xs/\fc h a es bs.2/\es.toList=xs.map (entryOfKey (tupleKind (kn P w))):=by
 obtain⟨z,y,xs,bq,r,o,es,ep,h1,h2,h3,h4,h5,h6⟩:=(show cH P w H h a (.dT bF bs) from C6 ok (.inl e))
 rw[h6] at h3;exact⟨y,xs,es,bq,r,⟨o,h1,h2,h3⟩,h4⟩
noncomputable def yw(a:Addr)(ks:List (List Key×V))(bs:List Addr×Nat):It:=⟨fun i H=>i<bs.1.length/\H a=some (.dT ks bs),fun i H v H'=>H'=H/\∃b,bs.1[i]?=some b/\v=.ref b,fun i H=>i=bs.1.length/\H a=some (.dT ks bs)⟩
theorem MT{P:Program}{w:World}{K:PySem.W.Frag}{tg:Expr}{a it:Addr}{ks:List (List Key×V)}{bs:List Addr×Nat}:Turn P w K tg (yw a ks bs) [it] it (fun i h=>h.IsKeyIter it a i bs.1.length bs.2) where
 mem:=by simp
 obj:=fun i h st b hb=>by
  have e:b=it:=by simpa using hb
  subst e;obtain⟨o,e,c,d⟩:=st;exact⟨o,e,fun v z=>by rw[d] at z;cases z⟩
 keep:=fun i h h' st k=>by
  obtain⟨o,e,r⟩:=st;exact⟨o,k it (by simp) o e,r⟩
 item:=by
  intro X hP hw hK hc i pins s σ H E I hf st hg;subst hP hw hK;obtain⟨hi,ha⟩:=(show i<bs.1.length/\H a=some (.dT ks bs) from hg)
  obtain⟨hd,xs,es,bq,rel,raw,mz⟩:=sV I.b9 ha;have hlen:bs.1.length=es.size:=by rw[<-bq,<-aM,mz,af,af]
  rw[hlen] at st;have tQ:i<es.size:=by omega
  refine KO st raw tQ fun h' ef sb=>?_
  have kk:∀b o,b∉[it]->s.heap.get? b=some o->h'.get? b=some o:=fun b o hb e=>sb.extBut b o (fun z=>hb (by simp[z])) e
  have I1:Inv X pins σ H { s with heap:=h',toks:=s.toks }:=I.du (fp:=[it]) kk hf;obtain⟨o,e,c',d⟩:=id ef;have kS:es[i].key=Value.ref (bs.1[i]):=by
   have e1:es.toList[i]?=some es[i]:=by rw[Array.getElem?_toList,Array.getElem?_eq_getElem tQ]
   rw[mz,aj] at e1;obtain⟨x,hx,e2⟩:=aN.mp e1;rw[<-e2];have e3:=congrArg (fun l=>l[i]?) bq;simp only[aj,hx,bo,ae hi,aH] at e3;rw[<-e3];rfl
  rw[kS];refine⟨_,rfl,qY (s:={ s with heap:=h',toks:=s.toks }) e c' d (by decide) ⟨.ref bs.1[i],H,I1,rfl,⟨rfl,_,ae hi,rfl⟩,?_,fun b hb=>(hf b hb).1⟩⟩;rw[hlen];exact ef
 done:=by
  intro X hP hw hK hc i pins s σ H E I hf st hg;subst hP hw hK;obtain⟨hi,ha⟩:=(show i=bs.1.length/\H a=some (.dT ks bs) from hg)
  obtain⟨hd,xs,es,bq,rel,raw,mz⟩:=sV I.b9 ha;have hlen:bs.1.length=es.size:=by rw[<-bq,<-aM,mz,af,af]
  subst hi;rw[hlen] at st;exact JJ (I.ok.hd hc) st raw (az _) fun h' eb=>⟨rfl,I.du (fp:=[it]) (t':=s.toks) (fun b o hb q=>eb b o (fun z=>hb (by simp[z])) q) hf⟩
 self:=fun A i s Q E st q=>wpAny_pyIter_keyiter st q
noncomputable def yv(a:Addr)(ks:List (List Key×V))(bs:List Addr×Nat):It:=⟨fun i H=>i<ks.length/\H a=some (.dT ks bs),fun i H v H'=>H'=H/\∃p,ks[i]?=some p/\v=p.2,fun i H=>i=ks.length/\H a=some (.dT ks bs)⟩
theorem MS:entryFor table "dict_valueiterator.__iter__"=some Builtin.«dict_keyiterator.__iter__»:=entryFor_alias (id':="dict_keyiterator.__iter__") (by kernel_rfl) rfl (by decide +kernel) (by kernel_rfl)
theorem MR{P:Program}{w:World}{K:PySem.W.Frag}{tg:Expr}{a it:Addr}{ks:List (List Key×V)}{bs:List Addr×Nat}:Turn P w K tg (yv a ks bs) [it] it (fun i h=>h.IsValIter it a i ks.length bs.2) where
 mem:=by simp
 obj:=fun i h st b hb=>by
  have e:b=it:=by simpa using hb
  subst e;obtain⟨o,e,c,d⟩:=st;exact⟨o,e,fun v z=>by rw[d] at z;cases z⟩
 keep:=fun i h h' st k=>by
  obtain⟨o,e,r⟩:=st;exact⟨o,k it (by simp) o e,r⟩
 item:=by
  intro X hP hw hK hc i pins s σ H E I hf st hg;subst hP hw hK;obtain⟨hi,ha⟩:=(show i<ks.length/\H a=some (.dT ks bs) from hg)
  obtain⟨hd,xs,es,bq,rel,raw,mz⟩:=sV I.b9 ha;have hlen:ks.length=es.size:=by rw[Paired.length rel,<-aM,mz,af]
  rw[hlen] at st;have tQ:i<es.size:=by omega
  refine LS st raw tQ fun h' ef sb=>?_
  have kk:∀b o,b∉[it]->s.heap.get? b=some o->h'.get? b=some o:=fun b o hb e=>sb.extBut b o (fun z=>hb (by simp[z])) e
  have I1:Inv X pins σ H { s with heap:=h',toks:=s.toks }:=I.du (fp:=[it]) kk hf;obtain⟨o,e,c',d⟩:=id ef;have oQ:i<xs.length:=by rw[<-Paired.length rel];exact hi
  have Bs:es[i].val=xs[i].2.2:=by
   have e1:es.toList[i]?=some es[i]:=by rw[Array.getElem?_toList,Array.getElem?_eq_getElem tQ]
   rw[mz,aj,ae oQ] at e1;simp only[bo,aH] at e1;rw[<-e1];rfl
  have pr:=Er rel (ae hi) (ae oQ);rw[Bs];refine⟨_,rfl,qY (s:={ s with heap:=h',toks:=s.toks }) e c' d (by decide) ⟨ks[i].2,H,I1,pr.2.2,⟨rfl,_,ae hi,rfl⟩,?_,fun b hb=>(hf b hb).1⟩⟩;rw[hlen];exact ef
 done:=by
  intro X hP hw hK hc i pins s σ H E I hf st hg;subst hP hw hK;obtain⟨hi,ha⟩:=(show i=ks.length/\H a=some (.dT ks bs) from hg)
  obtain⟨hd,xs,es,bq,rel,raw,mz⟩:=sV I.b9 ha;have hlen:ks.length=es.size:=by rw[Paired.length rel,<-aM,mz,af]
  subst hi;rw[hlen] at st;exact Ls (I.ok.hd hc) st raw (az _) fun h' eb=>⟨rfl,I.du (fp:=[it]) (t':=s.toks) (fun b o hb q=>eb b o (fun z=>hb (by simp[z])) q) hf⟩
 self:=fun A i s Q E st q=>by
  have hT:s.TypeIs (.ref it) "dict_valueiterator":=st.typeIs;refine wpAny_pyIter_slot hT PySem.F.slot_dict_valueiterator_iter (wpAny_call_entry PySem.F.slot_dict_valueiterator_iter hT MS ?_ (PySem.F.args_dict_valueiterator_iter_1 _));show wpAny _ _ (ret (.ref it)) _ _ s;exact ah ⟨_,rfl,"dict_valueiterator",_,hT,PySem.F.slot_dict_valueiterator_next.lookup,q⟩
section
variable {X:Cx} {tg:Expr}
def Jp(tl:TE):TI:=fun σ H R=>tl σ H fun x H1=>∃a ks bs,x=.ref a/\H1 a=some (.dT ks bs)/\R (yw a ks bs) H1
theorem Lr{l:Expr}{tl:TE}(hl:PE X l tl):PI X tg l (Jp tl):=by
 intro pins s σ H R I h;refine cy (hl pins s σ H _ I h) fun v s1 bQ=>?_
 obtain⟨x,H1,I1,r1,q1⟩:=bQ;obtain⟨a,ks,bs,e,ha,q⟩:=q1;subst e;cases r1;obtain⟨hd,xs,es,bq,rel,raw,mz⟩:=sV I1.b9 ha;have hlen:bs.1.length=es.size:=by rw[<-bq,<-aM,mz,af,af]
 refine KP hd raw ?_;refine⟨s1.heap.objs.size,[s1.heap.objs.size],_,_,H1,rfl,I1.kept (t':=s1.toks) fun b o e=>ay _ e,MT,⟨_,aG _ rfl,rfl,by rw[hlen];rfl⟩,fun b hb=>?_,q⟩;have e:b=s1.heap.objs.size:=by simpa using hb
 subst e;exact I1.iZ (az _) (I1.b9.fresh (az _))
def Jo(tl:TE):TI:=fun σ H R=>tl σ H fun x H1=>∃a ks bs,x=.ref a/\H1 a=some (.dT ks bs)/\R (yv a ks bs) H1
theorem Lq{o:Expr}{to:TE}{apos cW:Pos}(ho:PE X o to)(fF:attributeBase o "values" X.env (eval o X.env)=eval o X.env:=by rfl)(gH:(apos.endLine==cW.line)=true:=by rfl) :
  PI X tg (.Call (.Attribute o "values" apos) [] [] cW) (Jo to):=by
 intro pins s σ H R I h;refine wpAny_Call_method0_late fF gH (cy (ho pins s σ H _ I h) fun v s1 bQ=>?_);obtain⟨x,H1,I1,r1,a,ks,bs,ex,hk,q⟩:=bQ;subst ex;obtain⟨h1,h2,_⟩:=zj I1 ⟨ks,bs,.inl hk⟩;obtain rfl:v=Value.ref a:=r1;refine⟨"dict","dict.values",PySem.F.plainAttrs_dict,PySem.F.slot_dict_values,PySem.F.type_dict_values,h1,h2,Calls.callWith_builtin rfl (PySem.evalArgs_none ?_)⟩;obtain⟨hd,xs,es,bq,rel,raw,mz⟩:=sV I1.b9 hk;have hlen:ks.length=es.size:=by rw[Paired.length rel,<-aM,mz,af]
 refine call_meetsIn PySem.F.slot_dict_values h1 PySem.F.entry_dict_values (PySem.F.args_dict_values_1 _) (MU a hd) ⟨h1,?_⟩;have Pr:(s1.heap.push { cls:=.type "dict_values",data:=.fields #[.ref a] }).IsValuesView s1.heap.objs.size a:=⟨_,aG _ rfl,rfl,rfl⟩
 refine LU Pr (raw.kept fun o e=>ay _ e) ?_;refine⟨_,[_],_,_,H1,rfl,(I1.kept (t':=s1.toks) fun b o e=>ay _ e).kept (t':=s1.toks) fun b o e=>ay _ e,MR,⟨_,aG _ rfl,rfl,by rw[hlen];rfl⟩,fun b hb=>?_,q⟩;have e:b=(s1.heap.push { cls:=.type "dict_values",data:=.fields #[.ref a] }).objs.size:=by simpa using hb
 subst e;rw[Heap.size_push];exact I1.iZ (Nat.le_succ _) (I1.b9.fresh (Nat.le_succ _))
noncomputable def wJ(k:List Key):D:=.tup (k.map wK)
theorem cC.length{G:Hp}:∀{ps:List (List Key×V)} {bs:List Addr},cC G ps bs->ps.length=bs.length
 | [],[],_=>rfl
 | p::ps,b::bs,h=>by rw[aA,aA,cC.length h.2]
 | [],_::_,h=>h.elim
 | _::_,[],h=>h.elim
theorem ES{K:PySem.W.Frag}{G:Hp}:∀(k:List Key),bD K G (k.map kV) (k.map wK)
 | []=>bD.nil
 | a::k=>bD.cons (KD a) (ES k)
theorem MQ{K:PySem.W.Frag}{G:Hp}{a:Addr}{ks:List (List Key×V)}{bs:List Addr×Nat}{bF:List (List Key×D)}(h:G a=some (.dT ks bs))(hk:cC G ks bs.1)(r:bN K G ks bF):mL K (yw a ks bs) G (bF.map fun p=>wJ p.1):=by
 have hl:=r.length;have hb:=hk.length;refine⟨fun i d G' H' hd s1 s2=>?_,fun G' H' s1 s2=>⟨by rw[af];omega,s2 _ _ (s1 _ _ h)⟩⟩;rw[aj] at hd;obtain⟨p,hp,rfl⟩:=aN.mp hd;have hi:i<bF.length:=(ai.mp hp).1;refine⟨⟨by omega,s2 _ _ (s1 _ _ h)⟩,fun v H2 hy=>?_⟩;obtain⟨rfl,b,yh,rfl⟩:=hy;refine⟨G',.refl s2,?_⟩;have e:H2 b=some (.tup (p.1.map kV))/\G' b=some (.tup (p.1.map kV)):=by
  have:=hk.at yh (k:=p.1) (by rw[r.keys,aj,hp];rfl);exact⟨s2 _ _ (s1 _ _ this),s1 _ _ this⟩
 simp only[wJ,Rep];exact⟨b,_,rfl,e.2,ES p.1⟩
theorem bN.at{K:PySem.W.Frag}{G:Hp}:∀{ks:List (List Key×V)} {bF:List (List Key×D)},bN K G ks bF->∀(i:Nat) {p:List Key×V} {q:List Key×D},ks[i]?=some p->bF[i]?=some q->Rep K G p.2 q.2
 | [],[],_,i,_,_,h,_=>by simp at h
 | a::ks,b::bF,r,i,p,q,h,h'=>by
  simp only[bN] at r;cases i with
  | zero=>
   simp only[List.getElem?_cons_zero,aH] at h h';subst h h';exact r.1.2
  | succ i=>exact bN.at r.2 i (by simpa using h) (by simpa using h')
 | [],_::_,r,_,_,_,_,_=>by simp only[bN] at r
 | _::_,[],r,_,_,_,_,_=>by simp only[bN] at r
theorem MP{K:PySem.W.Frag}{G:Hp}{a:Addr}{ks:List (List Key×V)}{bs:List Addr×Nat}{bF:List (List Key×D)}(h:G a=some (.dT ks bs))(r:bN K G ks bF):mL K (yv a ks bs) G (bF.map (·.2)):=by
 have hl:=r.length;refine⟨fun i d G' H' hd s1 s2=>?_,fun G' H' s1 s2=>⟨by rw[af];exact hl.symm,s2 _ _ (s1 _ _ h)⟩⟩;rw[aj] at hd;obtain⟨p,hp,rfl⟩:=aN.mp hd;have hi:i<bF.length:=(ai.mp hp).1;refine⟨⟨by omega,s2 _ _ (s1 _ _ h)⟩,fun v H2 hy=>?_⟩;obtain⟨rfl,q,hq,rfl⟩:=hy;exact⟨G',.refl s2,(r.at i hq hp).mono s1⟩
def yI(te:TD):i4:=fun ρ Q=>te ρ fun r=>match r.val with
 | .dit bF=>Q (bF.map fun p=>wJ p.1)
 | _=>False
theorem Lp{l:Expr}{te:TD}(h:PD X l te):PId X tg l (yI te):=by
 obtain⟨t,p,q⟩:=h;refine⟨_,Lr p,fun ρ σ G0 H0 G H Q P E h k=>q ρ σ G0 H0 G H _ _ E h fun v H' r G' x rr hq=>?_⟩;obtain⟨G2,x2,rv,_⟩:=rr.freeze x;split at hq
 ·rename_i bF e;rw[e] at rv;simp only[Rep] at rv;obtain⟨a,ks,bs,rfl,h1,h2,h3⟩:=rv;exact⟨a,ks,bs,rfl,x2.s _ _ h1,k _ H' _ G2 x2 (MQ h1 h2 h3) hq⟩
 ·exact hq.elim
def y0(te:TD):i4:=fun ρ Q=>te ρ fun r=>match r.val with
 | .dit bF=>Q (bF.map (·.2))
 | _=>False
theorem LR{o:Expr}{te:TD}{apos cW:Pos}(h:PD X o te)(fF:attributeBase o "values" X.env (eval o X.env)=eval o X.env:=by rfl)(gH:(apos.endLine==cW.line)=true:=by rfl):PId X tg (.Call (.Attribute o "values" apos) [] [] cW) (y0 te):=by
 obtain⟨t,p,q⟩:=h;refine⟨_,Lq p fF gH,fun ρ σ G0 H0 G H Q P E h k=>q ρ σ G0 H0 G H _ _ E h fun v H' r G' x rr hq=>?_⟩;obtain⟨G2,x2,rv,_⟩:=rr.freeze x;split at hq
 ·rename_i bF e;rw[e] at rv;simp only[Rep] at rv;obtain⟨a,ks,bs,rfl,h1,h2,h3⟩:=rv;exact⟨a,ks,bs,rfl,x2.s _ _ h1,k _ H' _ G2 x2 (MP h1 h3) hq⟩
 ·exact hq.elim
end
end L2
namespace Ts
open PySem PySem.W PyProof.Rows
section
variable {α:Type} {lt:α->α->Bool} {l:List α} {a b:α}
noncomputable def jr(lt:α->α->Bool)(l:List α)(a:α):Int:=((l.countP fun b=>lt b a:Nat):Int)
theorem Dm{p q:α->Bool}(h:∀x∈l,p x=true->q x=true):l.countP p<=l.countP q:=by
 induction l with
 | nil=>exact az _
 | cons a r ih=>
  have:=ih fun x hx=>h x (ar _ hx)
  rw[List.countP_cons,List.countP_cons];by_cases hp:p a=true
  ·rw[if_pos hp,if_pos (h a aF hp)];omega
  ·rw[if_neg hp];omega
theorem Jn{p q:α->Bool}(h:∀x∈l,p x=true->q x=true)(ha:a∈l)(hp:p a=false)(hq:q a=true):l.countP p<l.countP q:=by
 induction l with
 | nil=>cases ha
 | cons c r ih=>
  have h1:=Dm (l:=r) fun x hx=>h x (ar _ hx)
  rw[List.countP_cons,List.countP_cons];rcases au.mp ha with z | ha
  ·subst z;rw[hp,hq];simp only[aV,br,bC];omega
  ·have:=ih (fun x hx=>h x (ar _ hx)) ha;by_cases hc:p c=true
   ·rw[if_pos hc,if_pos (h c aF hc)];omega
   ·rw[if_neg hc];omega
structure Ord (lt:α->α->Bool):Prop where
 tr:∀a b c,lt a b=true->lt b c=true->lt a c=true
 ir:∀a,lt a a=false
 AN:∀a b,a≠b->lt a b=true\/lt b a=true
theorem yZ(O:Ord lt)(ha:a∈l):lt a b=decide (jr lt l a<jr lt l b):=by
 unfold jr;cases h:lt a b with
 | true=>
  symm
  rw[decide_eq_true_iff];have:=Jn (l:=l) (p:=fun c=>lt c a) (q:=fun c=>lt c b) (fun x _ hx=>O.tr _ _ _ hx h) ha (O.ir a) h;omega
 | false=>
  symm
  rw[decide_eq_false_iff_not];have:l.countP (fun c=>lt c b)<=l.countP (fun c=>lt c a):=by
   refine Dm fun x _ hx=>?_
   by_cases e:a=b
   ·rw[e];exact hx
   ·rcases O.AN a b e with z | z
    ·rw[z] at h;cases h
    ·exact O.tr _ _ _ hx z
  omega
theorem vq(O:Ord lt)(ha:a∈l)(hb:b∈l)(h:jr lt l a<=jr lt l b):lt b a=false:=by
 rw[yZ O hb,decide_eq_false_iff_not];omega
end
noncomputable def dG(p q:Str×Int):Bool:=if p.1=q.1 then decide (p.2<q.2) else decide (p.1.cps.toList<q.1.cps.toList)
theorem JB{a b:Str}(h:a.cps.toList=b.cps.toList):a=b:=by
 cases a;cases b;simp only[Str.mk.injEq];exact Array.toList_inj.mp h
theorem eY:Ord dG:=by
 refine⟨fun a b c h1 h2=>?_,fun a=>?_,fun a b h=>?_⟩
 ·unfold dG at *;by_cases e1:a.1=b.1
  ·rw[if_pos e1] at h1;by_cases e2:b.1=c.1
   ·rw[if_pos e2] at h2;rw[if_pos (e1.trans e2)];simp only[aY] at *;omega
   ·rw[if_neg e2] at h2;rw[if_neg (by rw[e1];exact e2),e1];exact h2
  ·rw[if_neg e1] at h1;by_cases e2:b.1=c.1
   ·rw[if_neg (by rw[<-e2];exact e1),<-e2];exact h1
   ·rw[if_neg e2] at h2;simp only[aY] at h1 h2;have h3:=List.lt_trans h1 h2;rw[if_neg (fun z=>by rw[z] at h3;exact absurd h3 (List.lt_irrefl _))];simp only[aY];exact h3
 ·unfold dG;rw[if_pos rfl];simp
 ·unfold dG;by_cases e:a.1=b.1
  ·rw[if_pos e,if_pos e.symm];simp only[aY];have:a.2≠b.2:=fun z=>h (Prod.ext e z)
   omega
  ·rw[if_neg e,if_neg (fun z=>e z.symm)];simp only[aY];rcases Decidable.em (a.1.cps.toList<b.1.cps.toList) with z | z
   ·exact .inl z
   ·rcases Decidable.em (b.1.cps.toList<a.1.cps.toList) with y | y
    ·exact .inr y
    ·exact absurd (JB (List.le_antisymm (List.not_lt.mp y) (List.not_lt.mp z))) e
section
variable {prog:Program} {w:World} {A:Around} {E:Value->Shared->Prop} {s:Shared}
noncomputable def fH(h:Heap)(v:Value):Str×Int:=match v with
 | .ref a=>match h.get? a with
  | some o=>match o.data with
   | .seq xs _=>match xs.toList with
    | [.str x _,.int i _]=>(x,i)
    | _=>("",0)
   | _=>("",0)
  | none=>("",0)
 | _=>("",0)
def kZ(h:Heap)(v:Value):Prop:=∃a o t u n,v=.ref a/\h.get? a=some o/\o.cls=.type "tuple"/\o.data=.seq #[.str (fH h v).1 t,.int (fH h v).2 u] n
theorem Fo{h h':Heap}(k:∀b o,h.get? b=some o->h'.get? b=some o):∀{its:List Value},(∀v∈its,kZ h v)->∃fs,KatTups h' its fs/\fs.length=its.length/\∀v∈fs,∃n t,v=Value.str n t
 | [],_=>⟨[],.nil,rfl,fun v hv=>by cases hv⟩
 | v::r,hv=>by
  obtain⟨fs,h1,h2,h3⟩:=Fo k (its:=r) fun x hx=>hv x (ar _ hx)
  obtain⟨a,o,t,u,n,rfl,ho,hc,hd⟩:=hv v aF
  exact⟨_,KatTups.cons (k _ _ ho) hc hd rfl h1,by simp[h2],fun x hx=>by
   rcases au.mp hx with rfl | hx
   ·exact⟨_,_,rfl⟩
   ·exact h3 x hx⟩
theorem xK{its:List Value}{z:Keyed}(hz:z∈pairsOf its):z.1∈its:=by
 unfold pairsOf at hz;have Bm:z∈its.zip its:=by simpa using hz
 exact(List.of_mem_zip Bm).1
theorem pL{h h':Heap}{its:List Value}(k:∀b o,h.get? b=some o->h'.get? b=some o)(hv:∀v∈its,kZ h v):Ask prog w A E its (fun x=>jr dG (its.map (fH h)) (fH h x.1)) { s with heap:=h' }:=by
 refine⟨fun h2=>⟨tuples' (Value.type "str" != Value.type "tuple"),fun Q' q=>?_,⟨fun x y Q ox oy q=>?_⟩⟩⟩
 ·obtain⟨fs,h1,Gv,h3⟩:=Fo k hv;refine kat_kind (s:={ s with heap:=h' }) (T:=.type "str") h1 (by omega) (fun v hv=>?_) (by decide +kernel) q;obtain⟨n,t,rfl⟩:=h3 v hv;exact Looks.of_pure rfl
 ·have mx:=xK ox;have my:=xK oy;obtain⟨a,oa,t,u,n,ea,ga,ca,da⟩:=hv _ mx;obtain⟨b,ob,t',u',m,eb,gb,cb,db⟩:=hv _ my;rw[<-yZ eY (List.mem_map_of_mem mx)] at q;generalize fH h x.1=p at *;generalize fH h y.1=p' at *;rw[ea,eb];have e2:(Value.type "str" != Value.type "tuple")=true:=by decide +kernel
  rw[e2];refine kat_lt (k _ _ ga) da (k _ _ gb) db ?_;refine kat_cons (wpAny_eqBool_str ?_);unfold dG at q;by_cases e:p.1=p'.1
  ·rw[if_pos e] at q;rw[bf e];refine kat_yes (kat_cons (wpAny_eqBool_int ?_));by_cases e3:p.2=p'.2
   ·simp only[beq_iff_eq.mpr e3];refine kat_yes (kat_nil ?_);rw[aw (by omega)] at q;exact q
   ·simp only[beq_eq_false_iff_ne.mpr e3];exact kat_no (kat_one _ _ (PyProof.Rows.lt_int q))
  ·rw[if_neg e] at q;rw[aw e];exact kat_no (oneLt_str q)
end
end Ts
namespace L2
open PySem PySem.Spec PyProof.Rows
noncomputable def yu(x:Str):It:=⟨fun i _=>i<x.cps.size,fun i H v H'=>∃t c,v=.ref t/\H t=none/\x.cps[i]?=some c/\H'=upd H t (.tup [.int i,.str ⟨#[c]⟩]),fun i _=>i=x.cps.size⟩
theorem MO{P:Program}{w:World}{K:PySem.W.Frag}{elts:List Expr}{x1}{pos:Pos}{x:Str}{n:String}{t:Tok}(e it:Addr)(dH:e≠it)
  (D:∀A':Around,A'.handled=none->Draws P w A' it [it] x.cps.size (fun i v=>∃c u,x.cps[i]?=some c/\v=.str ⟨#[c]⟩ u) (fun i h=>h.IsStrIter it n x t i)) :
  Turn P w K (.Tuple elts x1 pos) (yu x) [e,it] e (fun i h=>(∃old,IsEnum h e it i old)/\h.IsStrIter it n x t i) where
 mem:=by simp
 obj:=fun i h st b hb=>by
  obtain⟨⟨old,h1⟩,o,h2,c,d⟩:=st;rcases au.mp hb with rfl | hb
  ·exact⟨_,h1,fun v z=>by have z':Data.fields _=Data.cell v:=z;cases z'⟩
  ·have e:b=it:=by simpa using hb
   subst e;exact⟨o,h2,fun v z=>by rw[d] at z;cases z⟩
 keep:=fun i h h' st k=>by
  obtain⟨⟨old,h1⟩,o,h2,r⟩:=st;exact⟨⟨old,k e (by simp) _ h1⟩,o,k it (by simp) o h2,r⟩
 item:=by
  intro X hP hw hK hc i pins s σ H E I hf st hg;subst hP hw hK;obtain⟨⟨old,h1⟩,h2⟩:=st;have vF:s.heap.objs.size≠e:=Nat.ne_of_gt (aB h1);have Bt:s.heap.objs.size≠it:=by obtain⟨o,q,_⟩:=h2;exact Nat.ne_of_gt (aB q)
  refine wpAny_pyNext_enum_itemD (D _ (I.ok.hd hc)) h1 h2 hg dH (by simpa using dH) fun u h' tk hu e1 e2 e3 e4 kk=>?_
  obtain⟨c,t',hx,rfl⟩:=hu;refine⟨_,rfl,Fs e1 fun v8 e5 sb=>?_⟩;have hT:=sb.extBut _ _ vF e3;have dm:H s.heap.objs.size=none:=I.b9.fresh (az _);have new:cH X.prog X.w (upd H s.heap.objs.size (.tup [.int i,.str ⟨#[c]⟩])) v8 s.heap.objs.size (.tup [.int i,.str ⟨#[c]⟩]):=⟨Dv,[.int i tk,.str ⟨#[c]⟩ t'],.cons ⟨_,rfl⟩ (.cons ⟨_,rfl⟩ .nil),⟨_,hT,rfl,_,rfl⟩⟩
  have QT:v8.IsStrIter it n x t (i+1):=by
   obtain⟨o,q,r⟩:=e2;exact⟨o,sb.extBut _ _ (Ne.symm dH) q,r⟩
  refine⟨.ref s.heap.objs.size,upd H s.heap.objs.size (.tup [.int i,.str ⟨#[c]⟩]),I.ja (fp:=[e,it]) (fun b o hb q=>sb.extBut b o (fun z=>hb (by simp[z])) (kk b o (fun z=>hb (by simp[z])) (fun z=>hb (by simp[z])) q)) hf (az _) new,rfl,
   ⟨_,c,rfl,dm,hx,rfl⟩,⟨⟨_,e5⟩,QT⟩,Du (fun b hb=>(hf b hb).1) fun b hb=>?_⟩
  rcases au.mp hb with rfl | hb
  ·exact vF.symm
  ·have z:b=it:=by simpa using hb
   rw[z];exact Bt.symm
 done:=by
  intro X hP hw hK hc i pins s σ H E I hf st hg;subst hP hw hK;obtain⟨⟨old,h1⟩,h2⟩:=st;have e:i=x.cps.size:=hg;subst e;exact wpAny_pyNext_enum_endD (D _ (I.ok.hd hc)) h1 h2 fun h' eb=>⟨rfl,I.du (fp:=[e,it]) (t':=s.toks) (fun b o hb q=>eb b o (fun z=>hb (by simp[z])) q) hf⟩
 self:=fun _ _ _ _ _ st h=>by
  obtain⟨⟨old,h1⟩,_⟩:=st;exact wpAny_pyIter_enum h1 h
section
variable {X:Cx} {elts:List Expr} {x1:Nat} {nG:Pos}
def Jm(ta:TA):TI:=fun σ H R=>ta σ H fun vs H1=>∃z,vs=[.str z]/\R (yu z) H1
theorem Lo{a:Expr}{ta:TA}{p pos:Pos}(hg:Gl X "enumerate")(hm:X.mg "enumerate"=none)(ha:PA X [a] ta)(hs:starEach [a] X.env=[(false,eval a X.env)]:=by rfl):PI X (.Tuple elts x1 nG) (.Call (.Name "enumerate" p) [a] [] pos) (Jm ta):=by
 intro pins s σ H R I h;refine Call_ (tf I hg hm boot_enumerate (PyProof.Rows.callWith_type1 (cy (ha pos pins s σ H _ I h) fun us s1 bQ=>?_) hs rfl));obtain⟨vs,H1,I1,r1,q1⟩:=bQ;obtain⟨z,e,q⟩:=q1;subst e;obtain⟨u,rfl,t,rfl⟩:=mQ r1;refine call_enumerate_str fun h' e1 e2 e3 kk=>wpAny_pyIter_enum e1 ?_
 have dH:s1.heap.objs.size+1≠s1.heap.objs.size:=by omega
 have fin:∀n,(D:∀A':Around,A'.handled=none->Draws X.prog X.w A' s1.heap.objs.size [s1.heap.objs.size] z.cps.size (fun i v=>∃c u,z.cps[i]?=some c/\v=.str ⟨#[c]⟩ u) (fun i h=>h.IsStrIter s1.heap.objs.size n z t i))->
   h'.IsStrIter s1.heap.objs.size n z t 0->wC X pins σ (.Tuple elts x1 nG) R (.ref (s1.heap.objs.size+1)) { s1 with heap:=h' }:=fun n D st=>by
  refine⟨s1.heap.objs.size+1,[s1.heap.objs.size+1,s1.heap.objs.size],_,_,H1,rfl,I1.kept (t':=s1.toks) kk,MO _ _ dH D,⟨⟨_,e1⟩,st⟩,fun b hb=>?_,q⟩;have lR:s1.heap.objs.size<=b:=by
   rcases au.mp hb with rfl | hb
   ·exact Nat.le_succ _
   ·have e:b=s1.heap.objs.size:=by simpa using hb
    exact Nat.le_of_eq e.symm
  exact I1.iZ lR (I1.b9.fresh lR)
 cases ha:z.cps.all (·<128)
 ·exact fin "str_iterator" (fun A' hA=>Draws.strWide hA _ z t) (by simpa[strIterType,ha] using e2)
 ·exact fin "str_ascii_iterator" (fun A' hA=>Draws.strAscii hA _ z t) (by simpa[strIterType,ha] using e2)
theorem MN{K:PySem.W.Frag}{G:Hp}(z:Str):mL K (yu z) G (oD (z.cps.toList.map fun c=>.str ⟨#[c]⟩)):=by
 refine⟨fun i d G' H' hd s1 s2=>?_,fun G' H' s1 s2=>by show _=_;simp[oD]⟩;unfold oD at hd;rw[List.getElem?_mapIdx,aj] at hd;cases e:z.cps.toList[i]? with
 | none=>rw[e] at hd;cases hd
 | some c=>
  rw[e] at hd;cases hd;have hc:z.cps[i]?=some c:=by simpa using e
  refine⟨(Array.getElem?_eq_some_iff.mp hc).1,fun v H2 hy=>?_⟩;obtain⟨t,c',rfl,ht,n5,rfl⟩:=hy;rw[hc] at n5;cases n5;have x2:Ext G' H' (upd G' t (.tup [.int i,.str ⟨#[c]⟩])) (upd H' t (.tup [.int i,.str ⟨#[c]⟩])):=.new s2 ht;exact⟨_,x2,Ez fP (i9 _ _ _) (by simp only[Rep])⟩
def pV(ts:iw):i4:=fun ρ Q=>ts ρ fun ds=>match ds with
 | [.str z]=>Q (oD (z.cps.toList.map fun c=>.str ⟨#[c]⟩))
 | _=>False
theorem zZ{a:Expr}{ts:iw}{p pos:Pos}(hm:X.mg "enumerate"=none)(ha:lW X [a] ts)(hg:Gl X "enumerate":=by rfl)(hs:starEach [a] X.env=[(false,eval a X.env)]:=by rfl):PId X (.Tuple elts x1 nG) (.Call (.Name "enumerate" p) [a] [] pos) (pV ts):=by
 obtain⟨t,pp,q⟩:=ha;refine⟨_,Lo hg hm pp hs,fun ρ σ G0 H0 G H Q P E h k=>q ρ σ G0 H0 G H _ _ E h fun vs H' ds G' x rs hq=>?_⟩;split at hq
 ·obtain⟨v,rfl,rv⟩:=lp rs;simp only[Rep] at rv;subst rv;exact⟨_,rfl,k _ H' _ G' x (MN _) hq⟩
 ·exact hq.elim
end
noncomputable def yt(lo:Int)(n:Nat):It:=⟨fun i _=>i<n,fun i H x H'=>H'=H/\x=.int (lo+i*2),fun i _=>n<=i⟩
theorem Nk{P:Program}{w:World}{K:PySem.W.Frag}{tg:Expr}(it:Addr)(lo:Int)(n:Nat):Turn P w K tg (yt lo n) [it] it (fun i h=>IsRangeIter h it (lo+(i:Nat)*2) ((n:Int)-(i:Nat)) 2) where
 mem:=by simp
 obj:=fun i h st b hb=>by
  have e:b=it:=by simpa using hb
  subst e
  exact⟨_,st,fun v z=>by
   have z':Data.fields _=Data.cell v:=z;cases z'⟩
 keep:=fun i h h' st k=>k it (by simp) _ st
 item:=by
  intro X hP hw hK hc i pins s σ H E I hf st hg;subst hP hw hK;have W:=Walks.range (prog:=X.prog) (w:=X.w) (I.ok.hd hc) it lo 2 n;refine W.item i s _ _ hg st fun v h' tk hv ef kk=>?_
  obtain⟨t,rfl⟩:=hv;have I1:Inv X pins σ H { s with heap:=h',toks:=tk }:=I.du kk hf;exact⟨_,rfl,qY (s:={ s with heap:=h',toks:=tk }) (n:="range_iterator") ef rfl rfl (by decide) ⟨.int (lo+i*2),H,I1,⟨t,rfl⟩,⟨rfl,rfl⟩,ef,fun b hb=>(hf b hb).1⟩⟩
 done:=by
  intro X hP hw hK hc i pins s σ H E I hf st hg;subst hP hw hK;exact wpAny_pyNext_range_end (I.ok.hd hc) st (by have:n<=i:=hg;omega) fun h' eb=>⟨rfl,I.du (fp:=[it]) (t':=s.toks) (fun b o hb e=>eb b o (fun z=>hb (by simp[z])) e) hf⟩
 self:=fun _ _ _ _ _ st h=>wpAny_pyIter_rangeiter st h
theorem Eo{lo hi:Int}:Builtin.Range.rangeSize lo hi 2=(((hi-lo+1)/2).toNat:Int):=by
 unfold Builtin.Range.rangeSize;simp only[show(2:Int)>0 by decide,bC];split<;>omega
theorem LQ{lo hi:Int}(h:0<=lo/\lo<1000000/\0<=hi/\hi<1000000):Builtin.Range.small lo hi 2=true:=by
 unfold Builtin.Range.small;rw[Eo];simp only[Builtin.Range.rangeFitsLong,aO,Bool.or_eq_true,aY,beq_iff_eq,show(2:Int)>0 by decide,bC];omega
section
variable {X:Cx} {tg:Expr} {pos:Pos}
def G9(ta:TA):TI:=fun σ H R=>ta σ H fun vs H1=>∃i j:Int,vs=[.int i,.int j,.int 2]/\(0<=i/\i<1000000/\0<=j/\j<1000000)/\R (yt i ((j-i+1)/2).toNat) H1
theorem LP{a b c:Expr}{ta:TA}{p:Pos}(hg:Gl X "range")(hm:X.mg "range"=none)(ha:PA X [a,b,c] ta)(hs:starEach [a,b,c] X.env=(false,eval a X.env)::starEach [b,c] X.env:=by rfl)(Bx:(backTo pos (starEach [b,c] X.env)).any (·.1)=false:=by rfl) :
  PI X tg (.Call (.Name "range" p) [a,b,c] [] pos) (G9 ta):=by
 intro pins s σ H R I h;refine Call_ (tf I hg hm boot_range (PyProof.Rows.callWith_type1 (cy (ha pos pins s σ H _ I h) fun us s1 bQ=>?_) hs Bx));obtain⟨vs,H1,I1,r1,q1⟩:=bQ;obtain⟨lo,hi,e,hb,q⟩:=q1;subst e;cases r1 with
 | cons r rr=>
  cases rr with
  | cons r' rr=>
   cases rr with
   | cons OR rr=>
    cases rr;obtain⟨t,rfl⟩:=r;obtain⟨t',rfl⟩:=r';obtain⟨xT,rfl⟩:=OR;refine call_range_3 (by decide) ?_ (Or.inl (PyProof.noPylong_small (by decide)));refine wpAny_pyIter_range (IsRange.new ..) (LQ hb) ?_;have I2:Inv X pins σ H1 { s1 with heap:=s1.heap.push { cls:=.type "range",data:=.fields #[.int lo t,.int hi t',.int 2 xT] },toks:=s1.toks }:=I1.kept fun b o e=>ay _ e
    refine⟨(s1.heap.push { cls:=.type "range",data:=.fields #[.int lo t,.int hi t',.int 2 xT] }).objs.size,[(s1.heap.push { cls:=.type "range",data:=.fields #[.int lo t,.int hi t',.int 2 xT] }).objs.size],_,_,H1,rfl,
     I2.kept (t':=s1.toks) fun b o e=>ay _ e,Nk _ lo _,?_,fun b hb=>?_,q⟩
    ·have e1:lo+((0:Nat):Int)*2=lo:=by simp
     have e2:((((hi-lo+1)/2).toNat:Nat):Int)-((0:Nat):Int)=Builtin.Range.rangeSize lo hi 2:=by rw[Eo];simp
     show IsRangeIter _ _ (lo+((0:Nat):Int)*2) (((((hi-lo+1)/2).toNat:Nat):Int)-((0:Nat):Int)) 2;rw[e1,e2];exact aG _ rfl
    ·have e:b=(s1.heap.push { cls:=.type "range",data:=.fields #[.int lo t,.int hi t',.int 2 xT] }).objs.size:=by simpa using hb
     subst e;exact I2.iZ (az _) (I2.b9.fresh (az _))
theorem Nj{K:PySem.W.Frag}{G:Hp}(lo:Int)(n:Nat):mL K (yt lo n) G ((List.range n).map fun(i:Nat)=>.int (lo+i*2)):=by
 refine⟨fun i d G' H' hd s1 s2=>?_,fun G' H' s1 s2=>?_⟩
 ·rw[aj] at hd;obtain⟨c,e,rfl⟩:=aN.mp hd;obtain⟨h1,h2⟩:=ai.mp e;have h3:i<n:=by simpa using h1
  have h4:c=i:=by rw[<-h2];simp
  subst h4;refine⟨h3,fun v H2 hy=>?_⟩;obtain⟨e2,rfl⟩:=hy;subst e2;exact⟨G',.refl s2,i9 _ _ _⟩
 ·show n<=_;simp
def yH(ts:iw):i4:=fun ρ Q=>ts ρ fun ds=>match ds with
 | [.int i,.int j,.int k]=>k=2/\(0<=i/\i<1000000/\0<=j/\j<1000000)/\Q ((List.range ((j-i+1)/2).toNat).map fun(n:Nat)=>.int (i+n*2))
 | _=>False
theorem MM{a b c:Expr}{ts:iw}{p:Pos}(hm:X.mg "range"=none)(ha:lW X [a,b,c] ts)(hg:Gl X "range":=by rfl)(hs:starEach [a,b,c] X.env=(false,eval a X.env)::starEach [b,c] X.env:=by rfl)(Bx:(backTo pos (starEach [b,c] X.env)).any (·.1)=false:=by rfl):PId X tg (.Call (.Name "range" p) [a,b,c] [] pos) (yH ts):=by
 obtain⟨t,pp,q⟩:=ha;refine⟨_,LP hg hm pp hs Bx,fun ρ σ G0 H0 G H Q P E h k=>q ρ σ G0 H0 G H _ _ E h fun vs H' ds G' x rs hq=>?_⟩;split at hq
 ·obtain⟨v,w',u,rfl,rv,lG,ru⟩:=Il rs;simp only[Rep] at rv lG ru;subst rv lG ru;obtain⟨rfl,hb,hq⟩:=hq;exact⟨_,_,rfl,hb,k _ H' _ G' x (Nj _ _) hq⟩
 ·exact hq.elim
end
end L2
namespace Ts
open PySem PySem.W PyProof.Rows
section
open PySem.SeqAt
open PySem.AutoSeq1 (wpAny_loadPart')
open PySem.MeetsSeq PySem.MeetsSeq2 PySem.MeetsSeq3
theorem Ln(A:Around)(s:Shared)(a:Str)(t:Tok)(c:Str)(u:Tok)(prog:Program)(w:World)(E:Value->Shared->Prop)(Q:Value->Shared->Prop)(h:Q (.bool (decide (a.cps.toList<c.cps.toList))) s) :
  wpAny (model prog w) A (richCompare .Lt (.str a t) (.str c u)) Q E s:=
 (PyProof.Rows.lt_str h:wpAny (model prog w) A (compareOp .Lt (.str a t) (.str c u)) Q E s)
theorem Lm(A:Around)(s:Shared)(a:Int)(t:Tok)(c:Int)(u:Tok)(prog:Program)(w:World)(E:Value->Shared->Prop)(Q:Value->Shared->Prop)(h:Q (.bool (decide (a<c))) s) :
  wpAny (model prog w) A (richCompare .Lt (.int a t) (.int c u)) Q E s:=
 (PyProof.Rows.lt_int h:wpAny (model prog w) A (compareOp .Lt (.int a t) (.int c u)) Q E s)
theorem JA(l b:Addr)(x y:Str)(i j:Int)(t u t' u':Tok)(n n2:Nat)(dd oX:Option Addr)(sl kK:Array (Option Value)) :
  Meets (Builtin.«tuple.__lt__» ⟨[.ref l,.ref b],[]⟩)
   (fun _ R s=>s.heap.get? l=some { cls:=.type "tuple",dict:=dd,data:=.seq #[.str x t,.int i u] n,slots:=sl }/\s.heap.get? b=some { cls:=.type "tuple",dict:=oX,data:=.seq #[.str y t',.int j u'] n2,slots:=kK }/\
    R (.ok (.ret (.bool (dG (x,i) (y,j))))) s):=
 .of_wp fun prog w A R s h=>by
  obtain⟨hp,g,d,tk,os⟩:=s;obtain⟨hl,hb,h⟩:=h;have f2:=AutoSeq1.sub_tuple_tuple;unfold dG at h;wp_walk using wpAny_loadPart' hl,wpAny_loadPart' hb,wpAny_forIn_list _ (fun iM b s'=>b.1=none/\s'=⟨hp,g,d,tk,os⟩/\(iM=[(.str x t,.str y t'),(.int i u,.int j u')]\/(iM=[(.int i u,.int j u')]/\x=y)\/(iM=[]/\x=y/\i=j))) _
  case turn=>
   rintro⟨p,q⟩ iM b s' ⟨lR,rfl,hr⟩;rcases hr with hr | ⟨hr,tJ⟩ | ⟨hr,_⟩
   ·injection hr with tK lO
    injection tK with Bz mw
    subst Bz mw;refine aa (wpAny_eqBool_str ?_);by_cases e:x=y
    ·rw[bf e];wp_walk
     exact⟨rfl,rfl,.inr (.inl ⟨lO,e⟩)⟩
    ·rw[aw e];rw[if_neg e] at h;have vH:=Ln A.in1 ⟨hp,g,d,tk,os⟩ x t y t' prog w;wp_walk using vH
     exact⟨_,rfl,by simpa using h⟩
   ·injection hr with tK lO
    injection tK with Bz mw
    subst Bz mw;refine aa (wpAny_eqBool_int ?_);by_cases e:i=j
    ·simp only[beq_iff_eq.mpr e];wp_walk
     exact⟨rfl,rfl,.inr (.inr ⟨lO,tJ,e⟩)⟩
    ·simp only[beq_eq_false_iff_ne.mpr e];rw[if_pos tJ] at h;have vH:=Lm A.in1 ⟨hp,g,d,tk,os⟩ i u j u' prog w;wp_walk using vH
     exact⟨_,rfl,by simpa using h⟩
   ·cases hr
  case fin=>
   rintro⟨b1,b2⟩ s' ⟨lR,rfl,hr⟩;simp only at lR;subst lR;rcases hr with hr | ⟨hr,_⟩ | ⟨_,tJ,oT⟩
   ·cases hr
   ·cases hr
   ·rw[if_pos tJ,aw (by omega)] at h;wp_walk
    exact⟨_,rfl,by simpa[Builtin.Tuple.tupleCompareSizes] using h⟩
  case h=>exact⟨rfl,rfl,.inl rfl⟩
def yY(A:Around)(s:Shared)(y x:Value)(b:Bool):Prop:=
 ∀(prog:Program) (w:World) (E:Value->Shared->Prop) (Q:Value->Shared->Prop),Q (.bool b) s->wpAny (model prog w) A (richCompare .Lt y x) Q E s
theorem Nw(l b:Addr)(items dE:Array Value)(n n2:Nat)(dd oX:Option Addr)(sl kK:Array (Option Value))(h1:0<items.size)(h2:0<dE.size)(c:Bool) :
  Meets (Builtin.«list.__eq__.loop» ⟨[.ref l,.ref b,rawInt 0,rawInt 0],[]⟩)
   (fun A R s=>s.heap.get? l=some { cls:=.type "list",dict:=dd,data:=.seq items n,slots:=sl }/\s.heap.get? b=some { cls:=.type "list",dict:=oX,data:=.seq dE n2,slots:=kK }/\
    EqAt A.in1 s items[0] dE[0] false/\yY A.in1 s items[0] dE[0] c/\R (.ok (.ret (.bool c))) s):=by
 intro prog w A R s h;obtain⟨hp,g,d,tk,os⟩:=s;obtain⟨hl,hb,he,hr,h⟩:=h;wp_walk using wpAny_loadPart' hl,wpAny_loadPart' hb
 have tP:items[(0:Int).toNat]?=some items[0]:=by simp[h1]
 have sf:dE[(0:Int).toNat]?=some dE[0]:=by simp[h2]
 rw[tP,sf];refine aa (he prog w _ _ ?_);wp_walk using wpAny_loadPart' hl,wpAny_loadPart' hb
 rw[tP,sf];have vH:=hr prog w;wp_walk using vH
 exact h
theorem Nz(l:Addr)(items:Array Value)(n:Nat)(dd:Option Addr)(sl:Array (Option Value))(k:Nat) :
  ∀i:Nat,items.size-i=k->Meets (Builtin.«list.__eq__.loop» ⟨[.ref l,.ref l,rawInt i,rawInt 0],[]⟩)
   (fun A R s=>s.heap.get? l=some { cls:=.type "list",dict:=dd,data:=.seq items n,slots:=sl }/\R (.ok (.ret (.bool false))) s):=by
 induction k with
 | zero=>
  intro i hk prog w A R s h;obtain⟨hp,g,d,tk,os⟩:=s;obtain⟨hl,h⟩:=h;wp_walk using wpAny_loadPart' hl
  have tP:items[((i:Nat):Int).toNat]?=none:=by simp;omega
  rw[tP];wp_walk using wpAny_loadPart' hl
  show R (.ok (.ret (.bool (decide (items.size<items.size))))) _;simpa using h
 | succ k ih=>
  intro i hk prog w A R s h;obtain⟨hp,g,d,tk,os⟩:=s;obtain⟨hl,h⟩:=h;wp_walk using wpAny_loadPart' hl
  have gf:i<items.size:=by omega
  have tP:items[((i:Nat):Int).toNat]?=some items[i]:=by simp[gf]
  have hc:((i:Int)+1)=((i+1:Nat):Int):=by push_cast;rfl
  rw[tP];refine aa (EqAt.same _ prog w _ _ ?_);wp_walk
  rw[hc]
  exact⟨plainId_quiet plain_eq_loop _,codeAny_builtin entry_eq_loop (by
   rw[Around.under_plainId plain_eq_loop _]
   exact ih (i+1) (by omega) prog w A R _ ⟨hl,h⟩)⟩
theorem Nv(l b:Addr)(items dE:Array Value)(n n2:Nat)(dd oX:Option Addr)(sl kK:Array (Option Value))(h1:0<items.size)(h2:0<dE.size)(c:Bool) :
  Meets (Builtin.«list.__lt__» ⟨[.ref l,.ref b],[]⟩)
   (fun A R s=>s.heap.get? l=some { cls:=.type "list",dict:=dd,data:=.seq items n,slots:=sl }/\s.heap.get? b=some { cls:=.type "list",dict:=oX,data:=.seq dE n2,slots:=kK }/\
    EqAt A.in1 s items[0] dE[0] false/\yY A.in1 s items[0] dE[0] c/\R (.ok (.ret (.bool c))) s):=by
 intro prog w A R s h;obtain⟨hp,g,d,tk,os⟩:=s;obtain⟨hl,hb,he,hr,h⟩:=h;have f3:=AutoSeq1.sub_list_list;wp_walk using wpAny_loadPart' hl,wpAny_loadPart' hb
 exact⟨plainId_quiet plain_eq_loop _,codeAny_builtin entry_eq_loop (by
  rw[Around.under_plainId plain_eq_loop _];exact Nw l b items dE n n2 dd oX sl kK h1 h2 c prog w A R _ ⟨hl,hb,he,hr,h⟩)⟩
theorem Ny(l:Addr)(items:Array Value)(n:Nat)(dd:Option Addr)(sl:Array (Option Value)) :
  Meets (Builtin.«list.__lt__» ⟨[.ref l,.ref l],[]⟩)
   (fun A R s=>s.heap.get? l=some { cls:=.type "list",dict:=dd,data:=.seq items n,slots:=sl }/\R (.ok (.ret (.bool false))) s):=by
 intro prog w A R s h;obtain⟨hp,g,d,tk,os⟩:=s;obtain⟨hl,h⟩:=h;have f3:=AutoSeq1.sub_list_list;wp_walk using wpAny_loadPart' hl
 exact⟨plainId_quiet plain_eq_loop _,codeAny_builtin entry_eq_loop (by
  rw[Around.under_plainId plain_eq_loop _];exact Nz l items n dd sl _ 0 rfl prog w A R _ ⟨hl,h⟩)⟩
end
end Ts
namespace Ts
open PySem PySem.W PyProof.Rows PySem.SeqAt
section
variable {prog:Program} {w:World} {A:Around} {E:Value->Shared->Prop} {s:Shared}
noncomputable def g5(h:Heap)(v:Value):Str×Int:=match v with
 | .ref a=>match h.get? a with
  | some o=>match o.data with
   | .seq xs _=>fH h (xs.getD 0 .none)
   | _=>("",0)
  | none=>("",0)
 | _=>("",0)
def wG(h:Heap)(v:Value):Prop:=∃a o xs n,v=.ref a/\h.get? a=some o/\o.cls=.type "list"/\o.data=.seq xs n/\∃hx:0<xs.size,kZ h xs[0]/\fH h xs[0]=g5 h v
theorem kZ.keep{h h':Heap}(k:∀b o,h.get? b=some o->h'.get? b=some o){v:Value}(e:kZ h v):∃a o t u n,v=.ref a/\h'.get? a=some o/\o.cls=.type "tuple"/\o.data=.seq #[.str (fH h v).1 t,.int (fH h v).2 u] n:=by
 obtain⟨a,o,t,u,n,h1,h2,h3⟩:=e;exact⟨a,o,t,u,n,h1,k _ _ h2,h3⟩
theorem Jz{v u:Value}{p q:Str×Int}(hu:A.units<cLine)(hv:∃a o t t' n,v=.ref a/\s.heap.get? a=some o/\o.cls=.type "tuple"/\o.data=.seq #[.str p.1 t,.int p.2 t'] n)(hw:∃a o t t' n,u=.ref a/\s.heap.get? a=some o/\o.cls=.type "tuple"/\o.data=.seq #[.str q.1 t,.int q.2 t'] n):yY A s v u (dG p q):=fun prog w E Q h=>by
 obtain⟨a,⟨c1,dd,da,sl⟩,t,t',n,rfl,g1,e1,e2⟩:=hv;obtain⟨b,⟨c2,oX,db,kK⟩,t2,xS,n2,rfl,g2,e3,e4⟩:=hw;simp only at e1 e2 e3 e4;subst e1 e2 e3 e4;exact richCompare_meets_room (op:=.Lt) ⟨_,g1,rfl⟩ ⟨_,g2,rfl⟩ PySem.F.slot_tuple_lt PySem.F.entry_tuple_lt (PySem.F.args_tuple_lt_2 _ _) (JA a b p.1 q.1 p.2 q.2 t t' t2 xS n n2 dd oX sl kK)
  ⟨g1,g2,show Value.bool (dG p q)≠Value.notImplemented/\Q (.bool (dG p q)) s from⟨(fun x=>nomatch x),h⟩⟩ hu
theorem Jy{v u:Value}{p q:Str×Int}(hu:A.units<cLine)(tK:p≠q)(hv:∃a o t t' n,v=.ref a/\s.heap.get? a=some o/\o.cls=.type "tuple"/\o.data=.seq #[.str p.1 t,.int p.2 t'] n)(hw:∃a o t t' n,u=.ref a/\s.heap.get? a=some o/\o.cls=.type "tuple"/\o.data=.seq #[.str q.1 t,.int q.2 t'] n):EqAt A s v u false:=by
 obtain⟨a,oa,t,t',n,rfl,g1,e1,e2⟩:=hv;obtain⟨b,ob,t2,xS,n2,rfl,g2,e3,e4⟩:=hw;have jv:a≠b:=fun z=>by
  subst z;rw[g1] at g2;cases g2;rw[e2] at e4;simp only[Data.seq.injEq,Array.mk.injEq,List.cons.injEq,Value.str.injEq,Value.int.injEq] at e4;exact tK (Prod.ext e4.1.1.1 e4.1.2.1.1)
 have R:=RcAt.tuples (A:=A) (s:=s) (e:=fun j=>if j=0 then decide (p.1=q.1) else(p.2==q.2)) ⟨oa,g1,e1,_,e2⟩ ⟨ob,g2,e3,_,e4⟩ hu fun j h1 h2=>by
  have:j=0\/j=1:=by simp at h1;omega
  rcases this with rfl | rfl
  ·exact fun prog w E Q h=>wpAny_eqBool_str h
  ·exact fun prog w E Q h=>wpAny_eqBool_int h
 have e:((List.range (min (#[Value.str p.1 t,.int p.2 t']:Array Value).size (#[Value.str q.1 t2,.int q.2 xS]:Array Value).size)).all (fun j=>if j=0 then decide (p.1=q.1) else(p.2==q.2))&&(#[Value.str p.1 t,.int p.2 t']:Array Value).size==(#[Value.str q.1 t2,.int q.2 xS]:Array Value).size)=false:=by
  show((List.range 2).all _&&true)=false;rw[show List.range 2=[0,1] from rfl];simp only[List.all_cons,List.all_nil,bC,Bool.and_true];rw[if_neg (by decide)];by_cases e1:p.1=q.1
  ·have:p.2≠q.2:=fun z=>tK (Prod.ext e1 z)
   simp[e1,this]
  ·simp[e1]
 rw[e] at R;exact EqAt.of_refs jv R
theorem pK{h h':Heap}{its:List Value}(hu:A.units+8<cLine)(k:∀b o,h.get? b=some o->h'.get? b=some o)(hv:∀v∈its,wG h v)(hd:∀v∈its,∀u∈its,g5 h v=g5 h u->v=u):Ask prog w A E its (fun x=>jr dG (its.map (g5 h)) (g5 h x.1)) { s with heap:=h' }:=by
 refine⟨fun h2=>⟨oneType',fun Q' q=>?_,⟨fun x y Q ox oy q=>?_⟩⟩⟩
 ·refine kas_kind (s:={ s with heap:=h' }) (T:=.type "list") h2 (fun v hm=>?_) (by decide +kernel) (by decide +kernel) q;obtain⟨a,o,xs,n,rfl,g1,c1,_⟩:=hv v hm;rw[<-c1];exact(Looks.ld (k _ _ g1)).andThen .now
 ·have mx:=xK ox;have my:=xK oy;rw[<-yZ eY (List.mem_map_of_mem mx)] at q;have lx:=hv _ mx;have ly:=hv _ my;have tJ:=hd _ mx _ my;generalize x.1=v at *;generalize y.1=u at *;obtain⟨a,⟨c1,dd,da,sl⟩,xs,n,rfl,g1,e1,e2,hx,GF,GH⟩:=lx;obtain⟨b,⟨c2,oX,db,kK⟩,ys,n2,rfl,g2,e3,e4,hy,GD,GG⟩:=ly;simp only at e1 e2 e3 e4;subst e1 e2 e3 e4;rw[keyLt'_oneType,oneLt'_eq];simp only[bC];refine aa (wpAny_cRoomFor (by omega) ?_);have tS:=k _ _ g1;have QM:=k _ _ g2;have fin:∀c,c=dG (g5 h (.ref a)) (g5 h (.ref b))->Q c { s with heap:=h' }:=fun c e=>e▸q
  by_cases jv:g5 h (.ref a)=g5 h (.ref b)
  ·have:=tJ jv;cases this;refine aa (wpAny_callSpecialIfBound?_slot (T:="list") ⟨_,tS,rfl⟩ PySem.F.slot_list_lt (call_meets PySem.F.slot_list_lt ⟨_,tS,rfl⟩ PySem.F.entry_list_lt (PySem.F.args_list_lt_2 _ _) (Ny a xs n dd sl) ⟨tS,?_⟩));exact bg (fin _ (eY.ir _).symm)
  ·refine aa (wpAny_callSpecialIfBound?_slot (T:="list") ⟨_,tS,rfl⟩ PySem.F.slot_list_lt (call_meets PySem.F.slot_list_lt ⟨_,tS,rfl⟩ PySem.F.entry_list_lt (PySem.F.args_list_lt_2 _ _) (Nv a b xs ys n n2 dd oX sl kK hx hy (dG (fH h xs[0]) (fH h ys[0])))
    ⟨tS,QM,Jy (by show A.units+1<cLine;omega) (by rw[GH,GG];exact jv) (GF.keep k) (GD.keep k),Jz (by show A.units+1<cLine;omega) (GF.keep k) (GD.keep k),?_⟩))
   exact bg (fin _ (by rw[GH,GG]))
end
end Ts
namespace L2
open PySem PySem.Spec PyProof.Rows
noncomputable abbrev cI:=Str×Int
noncomputable def gR(p:cI):D:=.tup [.str p.1,.int p.2]
section
variable {X:Cx}
def yX(X:Cx)(kf:Heap->Value->cI)(C:Hp->List (V×cI)->Prop):Prop:=∀{pins:List (Addr×Obj)} {s:Shared} {σ:St} {H:Hp} (I:Inv X pins σ H s) {ps:List (V×cI)} {its:List Value},C H ps->Vals (ps.map (·.1)) its->
 (∀z∈ps.zip its,kf s.heap z.2=z.1.2)/\∀h',(∀b o,s.heap.get? b=some o->h'.get? b=some o)->Ts.Ask X.prog X.w X.A.in1.in1 X.xe its (fun x=>Ts.jr Ts.dG (its.map (kf s.heap)) (kf s.heap x.1)) { s with heap:=h' }
def Dl(K:PySem.W.Frag)(C:Hp->List (V×cI)->Prop):List V->Hp->VK->Prop:=fun xs H Q=>∃(p:Addr) (ps:List (V×cI)),xs=[.ref p]/\eW K H p (ps.map (·.1))/\C H ps/\ps.length<64/\
  ∀mX:List (V×cI),mX.Perm ps->mX.Pairwise (fun x y=>Ts.dG y.2 x.2=false)->∀l,H l=none->Q (.ref l) (upd H l (.lst (mX.map (·.1))))
theorem Fn{kf:Heap->Value->cI}{C:Hp->List (V×cI)->Prop}(hC:yX X kf C):dn X (.builtin "sorted") (Dl X.K C):=by
 intro pins s σ H xs us Q I r h;obtain⟨p,ps,rfl,hq,hk,hr,q⟩:=h;obtain⟨u,rfl,ru⟩:=mQ r;cases ru;obtain⟨its,rv,pl,hz⟩:=I.list hq;obtain⟨kk,ask⟩:=hC I hk rv;have hl:ps.length=its.length:=by rw[<-rv.length,af]
 obtain⟨LL,eL⟩:∃LL,LL=ps.zip its:=⟨_,rfl⟩
 have e1:ps=LL.map (·.1):=by rw[eL];exact(List.map_fst_zip (by omega)).symm
 have e2:its=LL.map (·.2):=by rw[eL];exact(List.map_snd_zip (by omega)).symm
 have rel:∀z∈LL,RelV z.1.1 z.2:=fun z hz=>by
  obtain⟨i,hi⟩:=aW hz;have h1:(ps.map (·.1))[i]?=some z.1.1:=by rw[e1];simp[hi]
  obtain⟨v',F6,rx⟩:=rv.get h1;have h2:its[i]?=some z.2:=by rw[e2];simp[hi]
  rw[h2] at F6;cases F6;exact rx
 rw[<-eL] at kk;refine Ts.nN (rk:=fun x=>Ts.jr Ts.dG (its.map (kf s.heap)) (kf s.heap x.1)) pl.isList (by rw[<-hl,<-af (f:=(·.1))];exact hz) (fun h2=>Ts.pq (by omega) (by omega)) ask fun ef hp hs=>?_
 have ep:(PyProof.Rows.pairsOf its).toList=LL.map fun z=>((z.2,z.2):Keyed):=by
  unfold PyProof.Rows.pairsOf;rw[e2];simp only[List.zip_toArray];clear eL e1 e2 rel kk hp hs;induction LL with
  | nil=>rfl
  | cons a r ih=>simp at ih ⊢;exact ih
 obtain⟨L',h1,h2⟩:=EW (hp.trans (List.Perm.of_eq ep)) rfl;have A0:∀z∈L',RelV z.1.1 z.2:=fun z hz=>rel z (h1.subset hz)
 have out:((arrOf ef).map (·.2)).toList=L'.map (·.2):=by
  rw[Array.toList_map,h2,aD];rfl
 obtain⟨en,he⟩:=sortedAll_at s.heap its ((arrOf ef).map (·.2));have hf:H (s.heap.objs.size+1)=none:=I.b9.fresh (Nat.le_succ _)
 have q':=q (L'.map (·.1)) (by rw[e1];exact h1.map _) (by
  rw[List.pairwise_map];unfold Ts.sH at hs;rw[h2,List.pairwise_map] at hs;refine hs.imp_of_mem fun{a b} ha hb jv=>?_
  have ta:=kk a (h1.subset ha);have tb:=kk b (h1.subset hb);rw[<-ta,<-tb];have ma:kf s.heap a.2∈its.map (kf s.heap):=List.mem_map_of_mem (by rw[e2];exact List.mem_map_of_mem (h1.subset ha));have mb:kf s.heap b.2∈its.map (kf s.heap):=List.mem_map_of_mem (by rw[e2];exact List.mem_map_of_mem (h1.subset hb))
  exact Ts.vq Ts.eY ma mb (by simp only at jv;omega)) _ hf
 rw[aD] at q';refine⟨.ref (s.heap.objs.size+1),_,I.laid (a:=s.heap.objs.size+1) (o:=.lst (L'.map ((·.1)∘(·.1)))) (t':=s.toks) (fun b o e=>sortedAll_old e) (Nat.le_succ _) ?_,rfl,q'⟩;have el:LL.length=its.length:=by rw[e2,af]
 refine⟨by rw[af,h1.length_eq,el,<-hl,<-af (f:=(·.1))];exact hz,((arrOf ef).map (·.2)).toList,en,?_,?_⟩
 ·rw[out];exact Ec A0
 ·rw[Array.toArray_toList];exact he
def Rb(K:PySem.W.Frag):Hp->List (V×cI)->Prop:=fun H ps=>∀q∈ps,∃b,q.1=.ref b/\et K H b [.str q.2.1,.int q.2.2]
theorem C9{pins:List (Addr×Obj)}{s:Shared}{σ:St}{H:Hp}(I:Inv X pins σ H s){v:V}{u:Value}{e:cI}(h:∃b,v=.ref b/\et X.K H b [.str e.1,.int e.2])(r:RelV v u):Ts.kZ s.heap u/\Ts.fH s.heap u=e:=by
 obtain⟨b,rfl,sq⟩:=h;cases r;obtain⟨i1,v1,p1,_⟩:=I.tuple sq;obtain⟨o1,g1,c1,n1,d1⟩:=p1;obtain⟨u1,u2,rfl,⟨t1,rfl⟩,⟨t2,rfl⟩⟩:=uu v1;have e':Ts.fH s.heap (.ref b)=e:=by
  unfold Ts.fH;simp only[g1,d1]
 exact⟨⟨b,o1,t1,t2,n1,rfl,g1,c1,by rw[e'];exact d1⟩,e'⟩
theorem zK{α:Type}{f:α->V}:∀{ps:List α} {its:List Value},Vals (ps.map f) its->∀z∈ps.zip its,RelV (f z.1) z.2
 | [],_,_,z,hz=>by cases hz
 | p::ps,_,r,z,hz=>by
  cases r with
  | cons a b=>
   rw[List.zip_cons_cons] at hz;rcases au.mp hz with rfl | hz
   ·exact a
   ·exact zK b z hz
theorem Ar{α β:Type}:∀{l:List α} {m:List β},l.length=m.length->∀b∈m,∃a,(a,b)∈l.zip m
 | [],[],_,b,hb=>by cases hb
 | a::l,c::m,h,b,hb=>by
  rcases au.mp hb with rfl | hb
  ·exact⟨a,by simp⟩
  ·obtain⟨x,hx⟩:=Ar (l:=l) (m:=m) (by simpa using h) b hb;exact⟨x,by simp[hx]⟩
 | [],_::_,h,_,_=>by simp at h
 | _::_,[],h,_,_=>by simp at h
theorem Jx:yX X Ts.fH (Rb X.K):=fun{pins s σ H} I {ps its} hc r=>by
 have hl:ps.length=its.length:=by rw[<-r.length,af]
 have at_:∀z∈ps.zip its,Ts.kZ s.heap z.2/\Ts.fH s.heap z.2=z.1.2:=fun z hz=>C9 I (hc _ (List.of_mem_zip hz).1) (zK r z hz)
 refine⟨fun z hz=>(at_ z hz).2,fun h' k=>Ts.pL k fun v hv=>?_⟩;obtain⟨a,ha⟩:=Ar hl v hv;exact(at_ _ ha).1
def Dk:eX:=fun ds Q=>∃ps:List cI,ds=[.lst (ps.map gR)]/\ps.length<64/\∀mX:List cI,mX.Perm ps->mX.Pairwise (fun x y=>Ts.dG y x=false)->Q (.ow (mX.map gR))
theorem En{K:PySem.W.Frag}{G:Hp}:∀{xs:List V} {ps:List cI},bD K G xs (ps.map gR)->xs.length=ps.length/\∀q∈xs.zip ps,Rep K G q.1 (gR q.2)/\∃b,q.1=.ref b/\et K G b [.str q.2.1,.int q.2.2]
 | [],[],_=>⟨rfl,fun q hq=>by cases hq⟩
 | v::xs,p::ps,r=>by
  rw[ao] at r;simp only[bD] at r;obtain⟨h1,h2⟩:=En r.2;refine⟨by simp[h1],fun q hq=>?_⟩;rw[List.zip_cons_cons] at hq;rcases au.mp hq with rfl | hq
  ·refine⟨r.1,?_⟩;have rr:=r.1;unfold gR at rr;simp only[Rep] at rr;obtain⟨a,ys,rfl,sq,ry⟩:=rr;obtain⟨y,z,rfl,r1,r2⟩:=yN ry;simp only[Rep] at r1 r2;subst r1 r2;exact⟨a,rfl,et.of sq⟩
  ·exact h2 q hq
 | [],_::_,r=>by rw[ao] at r;simp only[bD] at r
 | _::_,[],r=>by rw[List.map_nil] at r;simp only[bD] at r
theorem Jw(_:X.calm=true):qX X (.builtin "sorted") Dk:=by
 refine⟨_,Fn Jx,fun G H vs ds Q P s rs h k=>?_⟩;obtain⟨ps,rfl,hl,q⟩:=h;obtain⟨v,rfl,rv⟩:=lp rs;simp only[Rep] at rv;obtain⟨a,xs,rfl,h1,h2⟩:=rv;obtain⟨h3,hz⟩:=En h2;have e1:(xs.zip ps).map (·.1)=xs:=List.map_fst_zip (by omega);have e2:(xs.zip ps).map (·.2)=ps:=List.map_snd_zip (by omega);have el:(xs.zip ps).length=ps.length:=by rw[List.length_zip];omega
 refine⟨a,xs.zip ps,rfl,by rw[e1];exact(s.gi h1).sq,fun z hq=>?_,by omega,fun mX p1 p2=>?_⟩
 ·obtain⟨_,b,e,sq⟩:=hz z hq;exact⟨b,e,s.nO sq⟩
 ·refine zp s (ds:=(mX.map (·.2)).map gR) ?_ (q (mX.map (·.2)) ((p1.map _).trans (List.Perm.of_eq e2)) (by rw[List.pairwise_map];exact p2)) k;rw[aD];exact Eb fun q hq=>(hz q (p1.subset hq)).1
end
end L2
namespace L2
open PySem PySem.Spec PyProof.Rows
section
variable {X:Cx}
def GO(K:PySem.W.Frag):Hp->List (V×cI)->Prop:=fun H ps=>(ps.map (·.2)).Nodup/\∀q∈ps,∃b c xs,q.1=.ref b/\eW K H b (.ref c::xs)/\et K H c [.str q.2.1,.int q.2.2]
theorem Jv(hu:X.A.units+64<cLine):yX X Ts.g5 (GO X.K):=fun{pins s σ H} I {ps its} hc r=>by
 have hl:ps.length=its.length:=by rw[<-r.length,af]
 have at_:∀z∈ps.zip its,Ts.wG s.heap z.2/\Ts.g5 s.heap z.2=z.1.2:=fun z hz=>by
  obtain⟨b,c,xs,e,sl,st⟩:=hc.2 _ (List.of_mem_zip hz).1;have rz:=zK r z hz;rw[e] at rz;obtain⟨⟨zv,ze⟩,zw⟩:=z;simp only at rz st ⊢;cases rz;obtain⟨it,rv,⟨o,n,g,c1,_,d⟩,_⟩:=I.list sl;cases rv with
  | @cons _ _ _ ys ra rb=>
   obtain⟨e1,e2⟩:=C9 (e:=ze) I ⟨c,rfl,st⟩ ra;have hh:Ts.g5 s.heap (.ref b)=ze:=by
    unfold Ts.g5;simp only[g,d];exact e2
   exact⟨⟨b,o,_,n,rfl,g,c1,d,by simp,e1,by rw[hh];exact e2⟩,hh⟩
 refine⟨fun z hz=>(at_ z hz).2,fun h' k=>Ts.pK (by show X.A.units+1+1+8<cLine;omega) k (fun v hv=>?_) fun v hv u hw e=>?_⟩
 ·obtain⟨a,ha⟩:=Ar hl v hv;exact(at_ _ ha).1
 ·obtain⟨i,hi⟩:=aW hv;obtain⟨j,hj⟩:=aW hw;have tO:i<ps.length:=by rw[hl];exact(ai.mp hi).1
  have vR:j<ps.length:=by rw[hl];exact(ai.mp hj).1
  have z1:(ps[i],v)∈ps.zip its:=av (i:=i) (by rw[List.getElem?_zip_eq_some];exact⟨ae tO,hi⟩);have z2:(ps[j],u)∈ps.zip its:=av (i:=j) (by rw[List.getElem?_zip_eq_some];exact⟨ae vR,hj⟩);rw[(at_ _ z1).2,(at_ _ z2).2] at e;have:i=j:=(List.getElem?_inj (l:=ps.map (·.2)) (by simpa using tO) hc.1).mp (by rw[aj,aj,ae tO,ae vR];exact congrArg some e);subst this;rw[hi] at hj;exact aU hj
noncomputable def fi(g:List cI):cI:=g.headD ("",0)
def xt(te:TD):TD:=fun ρ Q=>te ρ fun r=>match r with
 | .ov (.ll cN)=>∃ij:List (List cI),cN=ij.map (fun g=>g.map gR)/\ij.length<64/\(∀g∈ij,g≠[])/\(ij.map fi).Nodup/\
  ∀pJ:List (List cI),pJ.Perm ij->pJ.Pairwise (fun x y=>Ts.dG (fi y) (fi x)=false)->Q (.ov (.ll (pJ.map fun g=>g.map gR)))
 | _=>False
theorem bO.at{K:PySem.W.Frag}{G H:Hp}:∀{qs:List Addr} {ij:List (List cI)},bO K G H qs (ij.map fun g=>g.map gR)->∀z∈qs.zip ij,∃xs,H z.1=some (.lst xs)/\bD K G xs (z.2.map gR)
 | [],[],_,z,hz=>by cases hz
 | q::qs,g::ij,h,z,hz=>by
  rw[ao] at h;simp only[bO] at h;rw[List.zip_cons_cons] at hz;rcases au.mp hz with rfl | hz
  ·exact h.1
  ·exact bO.at h.2 z hz
 | [],_::_,h,_,_=>by rw[ao] at h;simp only[bO] at h
 | _::_,[],h,_,_=>by rw[List.map_nil] at h;simp only[bO] at h
theorem DK{K:PySem.W.Frag}{G H:Hp}:∀{L:List (Addr×List cI)},(∀z∈L,∃xs,H z.1=some (.lst xs)/\bD K G xs (z.2.map gR))->bO K G H (L.map (·.1)) ((L.map (·.2)).map fun g=>g.map gR)
 | [],_=>by simp only[List.map_nil,bO]
 | z::L,h=>by
  simp only[ao,bO];exact⟨h z aF,DK fun y hy=>h y (ar _ hy)⟩
theorem LO{te:TD}{tt:TE}(q:nr X.K te tt):nr X.K (xt te) (AO (Dl X.K (GO X.K)) (fun σ H Q=>tt σ H fun v H1=>Q [v] H1)):=by
 intro ρ σ G0 H0 G H Q P E h k;refine q ρ σ G0 H0 G H _ _ E h fun v H1 r G1 x1 rr hq=>?_
 split at hq;rotate_left
 ·exact hq.elim
 rename_i cN;obtain⟨ij,rfl,Gu,dH,nd,hq⟩:=hq;obtain⟨p,fp,rfl,FX,⟨hp,rl⟩,fr⟩:=rr;have hlen:fp.length=ij.length:=by have:=rl.length;simpa using this
 have at_:=rl.at;have e1:(fp.zip ij).map (·.1)=fp:=List.map_fst_zip (by omega);have e2:(fp.zip ij).map (·.2)=ij:=List.map_snd_zip (by omega);refine⟨p,(fp.zip ij).map fun z=>(V.ref z.1,fi z.2),rfl,?_,⟨?_,fun y hy=>?_⟩,by rw[af,List.length_zip];omega,fun mX p1 p2 l hl=>?_⟩
 ·rw[aD];have:((fun x:V×cI=>x.1)∘fun z:Addr×List cI=>(V.ref z.1,fi z.2))=V.ref∘(fun z:Addr×List cI=>z.1):=rfl;rw[this,<-aD,e1];exact eW.of hp
 ·rw[aD];have:((fun x:V×cI=>x.2)∘fun z:Addr×List cI=>(V.ref z.1,fi z.2))=fi∘(fun z:Addr×List cI=>z.2):=rfl;rw[this,<-aD,e2];exact nd
 ·obtain⟨z,hz,rfl⟩:=aK.mp hy;obtain⟨xs,g1,g2⟩:=at_ z hz;have Bk:=dH z.2 (List.of_mem_zip hz).2;cases hg:z.2 with
  | nil=>exact absurd hg Bk
  | cons e g=>
   rw[hg,ao] at g2;cases xs with
   | nil=>simp only[bD] at g2
   | cons y ys=>
    simp only[bD] at g2;have r1:=g2.1;unfold gR at r1;simp only[Rep] at r1;obtain⟨c,zs,rfl,hc,rz⟩:=r1;obtain⟨a,b,rfl,r1,r2⟩:=yN rz;simp only[Rep] at r1 r2;subst r1 r2;exact⟨z.1,c,ys,rfl,eW.of g1,et.of (x1.s _ _ hc)⟩
 ·obtain⟨L',f1,rfl⟩:=EW p1 rfl;have RF:l≠p:=fun z=>by rw[z,hp] at hl;cases hl
  have nR:(L'.map (·.1)).Perm fp:=(f1.map _).trans (List.Perm.of_eq e1);have vO:∀q∈fp,q≠l:=fun q hq z=>rl.here q hq (by rw[z];exact hl)
  have x2:Ext G1 H1 G1 (upd H1 l (.lst (L'.map fun z=>V.ref z.1))):=.own x1.s hl;have q':=hq (L'.map (·.2)) ((f1.map _).trans (List.Perm.of_eq e2)) (by rw[List.pairwise_map] at p2 ⊢;exact p2);have el:((L'.map fun z:Addr×List cI=>(V.ref z.1,fi z.2)).map fun x:V×cI=>x.1)=L'.map fun z=>V.ref z.1:=by rw[aD];rfl
  rw[el];refine k _ _ (.ov (.ll ((L'.map (·.2)).map fun g=>g.map gR))) G1 (x1.trans x2) ⟨l,L'.map (·.1),rfl,?_,⟨?_,?_⟩,fun q hq=>?_⟩ q'
  ·rw[aX] at FX ⊢;exact⟨fun z=>vO l (nR.subset z) rfl,nR.nodup_iff.mpr FX.2⟩
  ·rw[fP,aD];rfl
  ·refine DK fun z hz=>?_
   obtain⟨xs,g1,g2⟩:=at_ z (f1.subset hz);refine⟨xs,?_,g2⟩;rw[cM (vO z.1 (List.of_mem_zip (f1.subset hz)).1)];exact g1
  ·rcases au.mp hq with rfl | hq
   ·exact⟨x1.h.free hl,x1.s.free hl⟩
   ·exact fr q (ar _ (nR.subset hq))
theorem LN{e:Expr}{te:TD}{p pos:Pos}(hu:X.A.units+64<cLine)(hm:X.mg "sorted"=none)(h:PD X e te)(hg:Gl X "sorted":=by rfl)(fE:starEach [e] X.env=(false,eval e X.env)::starEach [] X.env:=by rfl):PD X (.Call (.Name "sorted" p) [e] [] pos) (xt te):=by
 obtain⟨tt,pp,q⟩:=h;have:=rp (pos:=pos) (p:=p) (Fn (Jv hu)) hg hm boot_sorted (jO pp lz fE) (he:=fE);exact⟨_,this,LO q⟩
end
end L2
namespace L2
open PySem PySem.Spec PyProof.Rows
section
variable {X:Cx} {pos:Pos} {e i' i2:Expr} {te ti tk:TD}
def tj(i:Nat)(ti tk te:TD):TX:=fun D ρ=>match gt ρ i with
 | .ov (.ll cN)=>te ρ fun r=>ti ρ fun rk=>match rk.val with
  | .int n=>∃j ds,jV cN.length n=some j/\cN[j]?=some ds/\tk ρ fun r2=>match r2.val with
   | .int m=>∃c,jV ds.length m=some c/\D.nx (ρ.set i (.ov (.ll (cN.set j (ds.set c r.val)))))
   | _=>False
  | _=>False
 | _=>False
theorem Av(i:Nat){x:Str}{p1 p2 p3:Pos}(hi:PD X i' ti)(hk:PD X i2 tk)(he:PD X e te)(hN:X.N[i]?=some x:=by rfl)(hv:j2 X.env.scope x:=by first | exact Or.inl rfl | exact Or.inr (Or.inl rfl) | exact Or.inr (Or.inr rfl))(hd:(x==("__debug__":Str))=false:=by decide)
  (fK:(x==("__classdict__":Str))=false:=by decide) (PK:zt i':=by intro _ _;rfl)
  (ha:∀v,assign (.Subscript (.Subscript (.Name x p1) i' p2) i2 p3) X.env v=(do
   let ov <-holding [v] (eval (.Subscript (.Name x p1) i' p2) X.env)
   let iv <-holding [v,ov] (eval i2 X.env)
   standAt p3
   holding [v,ov,iv] (setItem ov iv v)
   release [v,ov,iv] []):=by intro _;rfl)
  (hs:swapsWithSole [.Subscript (.Subscript (.Name x p1) i' p2) i2 p3] e pos.line X.env=pure false:=by rfl) (hw:swappedStores [.Subscript (.Subscript (.Name x p1) i' p2) i2 p3] e X.env=pure none:=by rfl)
  (h1:(assignEach [.Subscript (.Subscript (.Name x p1) i' p2) i2 p3] X.env).map (·.2)=[assign (.Subscript (.Subscript (.Name x p1) i' p2) i2 p3) X.env]:=by rfl) :
  PX X (.Assign [.Subscript (.Subscript (.Name x p1) i' p2) i2 p3] e pos) (tj i ti tk te):=by
 obtain⟨t,p,q⟩:=he;obtain⟨t2,A3,q2⟩:=hi;obtain⟨t3,OX,q3⟩:=hk;refine⟨_,IK p (IL (CY lK (mU hN hv hd fK) A3 PK) OX L9 ha) hs hw h1,fun ρ σ G0 H0 G H D E k h g=>?_⟩;unfold tj at h;split at h
 ·rename_i cN hg;obtain⟨own,o1,o2⟩:=k.on;obtain⟨a,fp,b1,b2,⟨ha,hr⟩,b4⟩:=o2 i _ hg;refine q ρ σ G0 H0 G H _ _ k h fun v H' r G' x1 rr hq=>?_
  obtain⟨G2,x2,rv,_⟩:=rr.freeze x1;refine⟨_,b1,q2 ρ σ G0 H0 G2 H' _ _ (k.ext x2) hq fun u H3 rk G3 x3 pv eh=>?_⟩;obtain⟨G4,x4,kL,_⟩:=pv.freeze x3;split at eh
  ·rename_i kk e1;obtain⟨j,ds,hj,pI,eh⟩:=eh;rw[e1] at kL;simp only[Rep] at kL;obtain⟨qa,ks,c1,c2,c3⟩:=hr.get pI;have B0:dz (fp.map V.ref) kk=some (.ref qa):=by
    unfold dz;rw[af,hr.length,hj];simp[c1]
   have jo:=x2.trans x4;refine⟨a,fp.map V.ref,kk,_,rfl,kL,eW.of (jo.h _ _ ha),B0,?_⟩;refine q3 ρ σ G0 H0 G4 H3 _ _ (k.ext jo) eh fun u5 H5 r5 G5 x5 rK iP=>?_
   obtain⟨G6,x6,rJ,_⟩:=rK.freeze x5;split at iP
   ·rename_i mm e5;obtain⟨c,hc,iP⟩:=iP;rw[e5] at rJ;simp only[Rep] at rJ;have vb:=jo.trans x6;refine⟨qa,ks,mm,c,rfl,rJ,vb.h _ _ c2,by rw[c3.length];exact hc,?_⟩;refine g.nx _ _ G6 _ vb.g ((k.ext vb).gJ hg b1 fun i3 nd ow=>?_) iP;obtain⟨yj,ku⟩:=ow;have e3:i3=fp:=by
     have:=(vb.h _ _ ha).symm.trans yj;injection this with this
     injection this with this
     exact((List.map_inj_right fun a b h=>by cases h;rfl).mp this).symm
    subst e3;have qt:=aX.mp nd;refine⟨i3,nd,⟨?_,ku.set ((c3.mono vb.g).set c (rv.mono (x4.trans x6).g)) qt.2 c1⟩,fun q hq=>.inl hq,fun b hb _=>cM fun z=>hb (by rw[z];exact ar _ (av c1))⟩;rw[cM (fun z:a=qa=>qt.1 (z▸av c1))];exact yj
   ·exact iP.elim
  ·exact eh.elim
 ·exact h.elim
theorem LM(j i:Nat){x y:Str}{p1 p2 p3 pos':Pos}(hN:X.N[i]?=some x:=by rfl)(hv:j2 X.env.scope x:=by first | exact Or.inl rfl | exact Or.inr (Or.inl rfl) | exact Or.inr (Or.inr rfl))(hd:(x==("__debug__":Str))=false:=by decide)(fK:(x==("__classdict__":Str))=false:=by decide)
  (hnd:X.N.Nodup:=by assumption) (hj:X.N[j]?=some y:=by rfl) (hy:Loc X.env.scope y:=by first | exact Or.inl rfl | exact Or.inr rfl)
  (hb:∀{ta:TE},PE X (.Name x p1) ta->PE X (.Call (.Attribute (.Name x p1) "pop" p2) [] [] pos') (CA X.K "list" Cz ta):=by intro ta h1;exact Iw PySem.F.plainAttrs_list PySem.F.slot_list_pop PySem.F.type_list_pop Iu h1)
  (hs:swapsWith (.Call (.Attribute (.Name x p1) "pop" p2) [] [] pos') (some (.Name y p3)) pos.line X.env=pure false:=by rfl) (hf:X.fn y=true\/X.env.scope.names.lookup y=some .local:=by first | exact .inl rfl | exact .inr rfl | assumption) :
  PX X (.Assign [.Name y p3] (.Call (.Attribute (.Name x p1) "pop" p2) [] [] pos') pos) (xy j i):=by
 refine⟨_,xl hnd hj hy (hb (mU hN hv hd fK)) hs hf,fun ρ σ G0 H0 G H D E k h g=>?_⟩;unfold xy at h;split at h
 ·rename_i ds hg;obtain⟨d,Qq,hq⟩:=h;obtain⟨a,xs,h1,h2,h3,h4,h5⟩:=k.ow i ds hg;have hl:=h5.length;obtain⟨w,hw,lG⟩:=h5.get Qq;have Pq:xs[xs.length-1]?=some w:=by rw[hl];exact hw
  refine⟨_,h1,.inl ⟨rfl,xs,eW.of h2⟩,a,xs,w,rfl,rfl,h2,Pq,?_⟩;have E2:=k.change hg h1 h5.dropLast;exact g.nx _ _ G _ (bM.refl _) (E2.put (.refl E2.e.s) (r:=.fz d) lG) hq
 ·exact h.elim
end
end L2
namespace L2
open PySem PySem.Spec PyProof.Rows
end L2
namespace L2
open PySem PySem.Spec PyProof.Rows
end L2
namespace L2
open PySem PySem.Spec PyProof.Rows
section
variable {X:Cx} {pos:Pos} {e:Expr} {te:TD}
def Em(K:PySem.W.Frag):V->List V->Hp->VK->Prop:=fun x vs H Q=>∃l b xs zs,x=.ref l/\vs=[.ref b]/\H l=some (.lst xs)/\iR K H b zs/\xs.length+zs.length<=sizeLine/\Q .non (upd H l (.lst (xs++zs)))
theorem ML:yo X "list.extend" (Em X.K):=by
 intro pins s σ H x vs v us Q I rx rv h;obtain⟨l,b,xs,zs,rfl,rfl,hH,hB,hz,q⟩:=h;cases rx;obtain⟨u,rfl,ru⟩:=rv.one;cases ru;obtain⟨z,its,n,r,hl,e⟩:=I.mq hH;obtain⟨z2,gZ,n2,r2,e2⟩:=I.gi hB;have tL:zs.length=gZ.length:=r2.length;have hsz:its.toArray.size+gZ.toArray.size<=sizeLine:=by rw[aq,aq];omega
 have jX:¬(!its.toArray.isEmpty&&Builtin.List.listTooLong (its.toArray.size+gZ.toArray.size))=true:=by
  rw[zP hsz,Bool.and_false];exact ax
 refine call_meets F.slot_list_extend ⟨_,e,rfl⟩ F.entry_list_extend (F.args_list_extend_2 _ _)
  (AutoSeq1.list_extend_list_list_0 l its.toArray n b gZ.toArray n2 jX (by rw[aq];omega) (by omega)) ⟨e,e2,?_⟩
 refine⟨.non,_,I.pw (its':=its++gZ) hH e (by simp) (r.append r2) ?_,rfl,q⟩;rw[aC];exact hz
def w6(i:Nat)(te:TD):TX:=fun D ρ=>match gt ρ i with
 | .ow ds=>te ρ fun r=>match r with
  | .fz (.lst es)=>ds.length+es.length<=sizeLine/\D.nx (ρ.set i (.ow (ds++es)))
  | _=>False
 | _=>False
theorem Ju(i:Nat){x:Str}{p1 p2 pos':Pos}(he:PD X e te)(hN:X.N[i]?=some x:=by rfl)(hv:j2 X.env.scope x:=by first | exact Or.inl rfl | exact Or.inr (Or.inl rfl) | exact Or.inr (Or.inr rfl))(hd:(x==("__debug__":Str))=false:=by decide)(fK:(x==("__classdict__":Str))=false:=by decide)
  (fE:starEach [e] X.env=(false,eval e X.env)::starEach [] X.env:=by rfl)
  (hb:∀{ta:TE} {t:TA},PE X (.Name x p1) ta->PA X [e] t->PE X (.Call (.Attribute (.Name x p1) "extend" p2) [e] [] pos') (vj X.K "list" (Em X.K) ta t):=by intro ta t h1 h2;exact ur PySem.F.plainAttrs_list PySem.F.slot_list_extend PySem.F.type_list_extend ML h1 h2) :
  PX X (.Expr (.Call (.Attribute (.Name x p1) "extend" p2) [e] [] pos') pos) (w6 i te):=by
 obtain⟨t,p,q⟩:=he;refine⟨_,xw (hb (mU hN hv hd fK) (jO p lz fE)),fun ρ σ G0 H0 G H D E k h g=>?_⟩;unfold w6 at h;split at h
 ·rename_i ds hg;obtain⟨a,xs,h1,h2,h3,h4,h5⟩:=k.ow i ds hg;refine⟨_,h1,.inl ⟨rfl,xs,eW.of h2⟩,q ρ σ G0 H0 G H _ _ k h fun v H' r G' x1 rr hq=>?_⟩;split at hq
  ·rename_i es;have FN:Rep X.K G' v (.lst es):=rr;simp only[Rep] at FN;obtain⟨b,zs,rfl,b3,b4⟩:=FN;have k2:=k.ext x1;refine⟨a,b,xs,zs,rfl,rfl,x1.h _ _ h2,x1.s.gi b3,by rw[h5.length,b4.length];exact hq.1,?_⟩;exact g.nx _ _ G' _ x1.g (k2.change hg h1 ((h5.mono x1.g).append b4)) hq.2
  ·exact hq.elim
 ·exact h.elim
end
end L2
namespace L2
open PySem PySem.Spec PyProof.Rows
end L2
namespace L2
open PySem PySem.Spec PyProof.Rows
section
variable {M:Model} {A:Around} {E:Value->Shared->Prop}
variable {nm q FV q':Str} {C N C' N':Addr} {bs bm oj Ck:List Value} {hdct qE:Bool} {sn FK:List Str} {sub vn:List Value} {ab GK:Bool} {col wj:Option Bool} {dd tV:Option Addr} {k0 k1 k2 k3 k5 l0 l1 l2 l3 l5:Option Value} {newId iB:String}
theorem NP{h:Heap}{g:Array GenState}{d:Drawn}{t:Nat}{os:OsState}{e:Addr}{oe:Obj}{Q:Bool->Shared->Prop}
  (hC:h.get? C=some (excClassObj nm q C N bs bm hdct sn sub ab col dd k0 k1 k2 k3 k5 newId)) (hW:h.get? C'=some (excClassObj FV q' C' N' oj Ck qE FK vn GK wj tV l0 l1 l2 l3 l5 iB)) (he:h.get? e=some oe) (n4:oe.cls=.ref C) (fF:Ck.contains (.type "BaseException")=true)
  (ky:(Value.ref C::bm).contains (.ref C')=true) (hq:Q true ⟨h,g,d,t,os⟩):wpAny M A (excMatches (.ref e) (.ref C')) Q E ⟨h,g,d,t,os⟩:=by
 have Qu:(Value.ref C'::Ck).contains (.type "BaseException")=true:=by rw[List.contains_cons,fF,Bool.or_true]
 have f:=tc_notTuple;unfold excMatches;repeat(first | (with_reducible refine wpAny_loadPart_at he ?_;rw[n4]) | with_reducible refine wpAny_loadPart_at hW ?_ | (with_reducible refine wpAny_isSubtype_exc hW ?_;rw[Qu]) | (with_reducible refine wpAny_isSubtype_exc hC ?_;rw[ky]) | wp_step)
 exact hq
end
section
variable {X:Cx} {pins:List (Addr×Obj)} {σ:St} {H H0:Hp} {s s0:Shared}
theorem Inv.tell{a:Addr}{o:HO}(I:Inv X pins σ H s)(I0:Inv X pins σ H0 s0)(hn:H a=none)(h0:s0.heap.get? a=none)(new:cH X.prog X.w (upd H a o) s.heap a o):Inv X pins σ (upd H a o) s:=by
 have nl:a≠X.env.locals:=fun z=>by
  obtain⟨m,⟨oL,_,_,rZ,_⟩,_⟩:=I0.loc;rw[z,rZ] at h0;cases h0
 refine⟨I.ok,I.os,I.bare,⟨I.base.keep,I.base.slot,fun b ob e n hx=>?_,I.base.there,fun b xs e=>?_,fun b o' u e=>?_,fun b ps e=>?_⟩,I.loc,I.cell,by rw[cM (Ne.symm nl)];exact I.free,fun x c e=>?_,fun p hp=>?_,fun b u e=>?_,I.len⟩
 ·have:b≠a:=fun z=>by
   obtain⟨o',e1⟩:=I0.base.there b ob e hx;rw[z,h0] at e1;cases e1
  rw[cM this];exact I.base.free b ob e n hx
 ·have z:=I.base.ia b xs e;rw[cM (iN z hn)];exact z
 ·have z:=I.base.g6 b o' u e;rw[cM (iN z hn)];exact z
 ·obtain⟨more,z⟩:=I.base.ib b ps e;exact⟨more,by rw[cM (iN z hn)];exact z⟩
 ·have:c≠a:=fun z=>by
   obtain⟨v,oc,pE,_⟩:=I0.cell x c e;rw[z,h0] at pE;cases pE
  rw[cM this];exact I.eu x c e
 ·obtain⟨e,n,ne,nf,d⟩:=I.pin p hp;have:p.1≠a:=fun z=>by
   have:=(I0.pin p hp).1;rw[z,h0] at this;cases this
  exact⟨e,by rw[cM this];exact n,ne,nf,d⟩
 ·by_cases hb:b=a
  ·subst hb;rw[fP] at e;cases e;exact new
  ·rw[cM hb] at e;exact(I.b9 b u e).iy (fun c v _ q=>q) (fun c q=>by rw[cM (iN q hn)];exact q) fun c xs q=>by rw[cM (iN q hn)];exact q
theorem Inv.wa{m:Str->Option Value}{v:Option Value}{h':Heap}{x:Str}{i t':Nat}(I:Inv X pins σ H s)(hN:X.N.Nodup)(hi:X.N[i]?=some x)(hm:∀(j:Nat) (y:Str) (v:V),X.N[j]?=some y->σ[j]?=some (some v)->j2 X.env.scope y->∃u,RelV v u/\Look X.env s.heap m y u)
  (hn:h'.Ns X.env.locals (fun y=>if y=x then v else m y)) (hs:Heap.SameBut X.env.locals s.heap h'):Inv X pins (σ.set i none) H { s with heap:=h',toks:=t' }:=by
 obtain⟨m0,⟨oL,es,ep,rZ,lO⟩,_⟩:=id I.loc;have oh:=I.oh;refine⟨I.ok,I.os,I.bare,⟨fun b o e n hb hx=>?_,fun b o e n hb hx=>?_,I.base.free,fun b o e hx=>?_,I.base.ia,I.base.g6,I.base.ib⟩,⟨_,hn,fun j y v' e1 e2 e3=>?_⟩,fun y c e=>?_,I.free,I.eu,fun p hp=>?_,fun b ob e=>?_,by simpa using I.len⟩
 ·exact(hs.2 b (aT (aJ (aB e) I.ok.above))).trans (I.base.keep b o e n hb hx)
 ·obtain⟨sl,e1⟩:=I.base.slot b o e n hb hx;exact⟨sl,(hs.2 b (aT (aJ (aB e) I.ok.above))).trans e1⟩
 ·obtain⟨o',e1⟩:=I.base.there b o e hx;exact⟨o',(hs.2 b (aT (aJ (aB e) I.ok.above))).trans e1⟩
 ·have hj:j≠i:=fun z=>by
   subst z;rw[List.getElem?_set] at e2;split at e2
   ·split at e2<;>cases e2
   ·exact absurd rfl (by assumption)
  rw[List.getElem?_set_ne (Ne.symm hj)] at e2;obtain⟨u',r',q⟩:=hm j y v' e1 e2 e3;refine⟨u',r',?_⟩;rcases q with⟨k,e⟩ | ⟨k,c,e,z⟩
  ·refine .inl ⟨k,?_⟩;have:y≠x:=fun e=>hj (zQ hN e1 (e▸hi))
   simp[this,e]
  ·exact .inr ⟨k,c,e,z.sameBut hs (oh y c e)⟩
 ·obtain⟨w',z⟩:=I.cell y c e;exact⟨w',z.sameBut hs (oh y c e)⟩
 ·obtain⟨e,n,ne,nf,d⟩:=I.pin p hp;exact⟨(hs.2 p.1 ne).trans e,n,ne,nf,d⟩
 ·refine(I.b9 b ob e).iy (fun c w' hc q=>(hs.2 c ?_).trans q) (fun _ q=>q) fun _ _ q=>q
  rintro rfl;rcases hc with rfl | hc
  ·rw[I.free] at e;cases e
  ·rw[I.free] at hc;cases hc
noncomputable def subIn(K:PySem.W.Frag)(C C':Addr):Bool:=match K.lookup C with
 | some ⟨_,_,.cls cd,_⟩=>cd.mro.contains (.ref C')
 | _=>false
def qS(a C:Addr):Heap->Prop:=fun h=>∃o,h.get? a=some o/\o.cls=.ref C
theorem Ll{s':Shared}{E:XK}{e:Value}{C C':Addr}{x x0 er y:Str}{np pos p6 p7 p8:Pos}{i j:Nat}{Q:Flow->Shared->Prop}{lU om:List Value}{newId iB:String}(I:Inv X pins σ H s)(hx:sI X.prog X.w C X.stack H s E e s')(O:OwnCls x0 C lU newId X.mg X.base)(O':OwnCls x C' om iB X.mg X.base)(B5:om.contains (.type "BaseException")=true)
  (mv:subIn X.K C C'=true) (fE:X.stack=X.env::X.outer) (hf:X.env.frame=some X.env.locals) (hg:Gl X x) (hd:(x==("__debug__":Str))=false) (vD:X.xe=fun _ _=>False) (hN:X.N.Nodup)
  (hi:X.N[i]?=some er) (Qm:X.env.kindOf er=some .local) (BQ:j2 X.env.scope er) (BR:Loc X.env.scope er) (BU:(er==("__debug__":Str))=false) (BV:(er==("__classdict__":Str))=false) (BS:X.fn er=true\/X.env.scope.names.lookup er=some .local)
  (hj:X.N[j]?=some y) (Pl:Loc X.env.scope y) (Bw:∀a,swapsWith (.Name er p7) (some (.Name y p6)) p8.line (X.gG a).env=pure false) (Pn:X.fn y=true\/X.env.scope.names.lookup y=some .local)
  (k:∀a H' s2,E (.ref a) none H'->H' a=none->Inv X pins (((σ.set i (some (.ref a))).set j (some (.ref a))).set i none) (upd H' a (.ext (qS a C))) s2->Q .next s2) :
  wpAny (model X.prog X.w) X.A (noteFrame e X.env) (fun _ fD=>wpAny (model X.prog X.w) X.A (setFlight e none) (fun _ iX=>wpAny (model X.prog X.w) X.A (handleBy e X.env [.ExceptHandler (some (.Name x np)) (some er) [.Assign [.Name y p6] (.Name er p7) p8] pos]) Q (fun _ _=>False) iX) (fun _ _=>False) fD) (fun _ _=>False) s':=by
 obtain⟨a,H',rfl,os,bare,un,b9,hn,hs,⟨B,a0,fl,qI⟩,hE⟩:=hx;obtain⟨tl,Nn,nm,q,bs,hdct,sn,sub,ab,col,dd,k0,k1,k2,k3,k5,mN,hC,RM,Gf,OT⟩:=O.obj;obtain⟨Rp,RS,FV,q',oj,qE,FK,vn,GK,wj,tV,l0,l1,l2,l3,l5,Rw,QF,QB,PY,Q3⟩:=O'.obj;have ky:(Value.ref C::tl).contains (.ref C')=true:=by
  unfold subIn at mv;split at mv
  ·rename_i cd _ look;have:=I.ok.mod.qw _ _ look;rw[hC] at this;cases this;exact mv
  ·cases mv
 have fr:∀b∈gQ X.stack,H b=none/\∃o,s.heap.get? b=some o/\∀vs,o.data≠.fields vs:=fun b hb=>⟨I.og.oU b hb,(I.og.fG.mem hb).2⟩
 have after:∀h2,B.StaysIn h2->s'.heap.UpToSlots h2->Inv X pins σ H' { s' with heap:=h2 }:=fun h2 st up=>by
  obtain⟨OB,BA⟩:=IS un fr st qI up b9;obtain⟨hh,g,d,t,A4⟩:=s';obtain rfl:A4=s.os:=os;have J:Inv X pins σ H' { s with heap:=h2,gens:=g,drawn:=d,toks:=t }:=I.call (ch:=[]) OB BA bare fun b z=>absurd z (by simp)
  exact J
 have wc:=fl;rw[fE] at wc;refine wpAny_looks_onW (by rw[<-fE];exact I.ok.frames) hf wc fun h2 held FF=>?_
 refine wpAny_landsW held fun h3 Ca FE=>?_
 have I3:=after h3 Ca.1 (FF.trans FE);obtain⟨ob,PV,BD⟩:=Ca.there;refine wpAny_handleBy_cons (codeAny_handlers_test (uG (I3.gG a) hg O'.bound ?_ hd)) (by intro q;cases q);refine NP (I3.bk _ _ hC) (I3.bk _ _ QF) PV BD (Q3.hasType B5) ky (codeAny_handlers_suite_as ?_);refine lands_againW Ca fun h4 GA Oz=>?_
 have I4:=after h4 GA.1 ((FF.trans FE).trans Oz);obtain⟨FU,vK,vJ⟩:=GA.there;have I5:=I4.tell (a:=a) (o:=.ext (qS a C)) I hn hs ⟨⟨FU,vK,vJ⟩,⟨FU,vK⟩,fun h1 h2 ⟨o,e1,e2⟩ kk=>⟨o,kk o e1,e2⟩⟩;refine xF (v:=.ref a) I5 hN hi BR rfl (fun s5 I6=>?_) BS;have tO:i<σ.length:=by rw[I.len];exact(ai.mp hi).1
 have st:kA (X.gG a) [.Assign [.Name y p6] (.Name er p7) p8] (wV (CI i) (xa j)):=zu (xl hN hj Pl (mU hi BQ BU BV) (Bw a) Pn);have run:=st pins s5 _ _ { nx:=fun bY H2=>bY=(σ.set i (some (.ref a))).set j (some (.ref a))/\H2=upd H' a (.ext (qS a C)),rt:=fun _ _=>False } (I6.gG a) ⟨.ref a,by rw[List.getElem?_set_self tO],rfl,rfl⟩;refine bB run (fun f s6 z=>?_) fun _ _ z=>?_
 ·cases f with
  | next=>
   obtain⟨bY,H2,I7,rfl,rfl⟩:=z;have I8:=I7.rM I.ok;obtain⟨m,P5,r8⟩:=I8.loc;have n4:(X.env.scope.kind==.class||(X.env.scope.kind==.module&&X.env.locals != X.env.globals))=false:=by rw[I.ok.kind];rfl
   refine wpAny_nameGoes_keeps Qm P5 n4 fun h' v vL kQ=>?_
   exact k a H' _ hE hn (I8.wa hN hi r8 vL kQ)
  | brk=>obtain⟨_,_,_,z⟩:=z;exact z.elim
  | cont=>obtain⟨_,_,_,z⟩:=z;exact z.elim
  | ret u=>obtain⟨_,_,_,_,_,z⟩:=z;exact z.elim
 ·rw[show(X.gG a).xe=X.xe from rfl,vD] at z;exact z.elim
end
end L2
namespace L2
open PySem PySem.Spec PyProof.Rows
section
variable {X:Cx} {pos:Pos} {e:Expr} {es:List Expr} {ts:iw}
def yW(i q j n:Nat)(t:tZ)(ts:iw)(cn:Str):TX:=fun D ρ=>ts ρ fun ds=>ds.length=n/\t ds (fun r=>D.nx (ρ.set i r.sl)) (D.nx (((ρ.set q .un).set j (.fz (.exc cn))).set q .un))
theorem Lk(i q j:Nat){C C':Addr}{k k' n:Nat}{t:tZ}{f x y ex er cn:Str}{p1 p2 p3 p4 p5 p6 p7 p8 p9:Pos}{lU om:List Value}{newId iB:String}(F:iH X.prog X.w X.K X.mg X.base C k f n t)(hr:dA k' X.A)(O:eK X.K X.mg cn C lU newId)(O':eK X.K X.mg ex C' om iB)(B5:om.contains (.type "BaseException")=true)
  (mB:PySem.W.nsIn X.K mainGlobals cn=some (some (.ref C))) (mv:subIn X.K C C'=true) (vD:X.xe=fun _ _=>False) (hN:X.N.Nodup) (ha:lW X (e::es) ts)
  (fE:X.stack=X.env::X.outer:=by rfl) (pH:X.env.frame=some X.env.locals:=by rfl) (hk:k<=k':=by decide) (hg:Gl X f:=by rfl) (n0:(f==("__debug__":Str))=false:=by decide) (Qg:Gl X ex:=by rfl) (Qo:(ex==("__debug__":Str))=false:=by decide)
  (he:starEach (e::es) X.env=(false,eval e X.env)::starEach es X.env:=by rfl) (g4:(backTo p3 (starEach es X.env)).any (·.1)=false:=by rfl)
  (hi:X.N[i]?=some x:=by rfl) (hx:Loc X.env.scope x:=by first | exact Or.inl rfl | exact Or.inr rfl) (hs:swapsWith (.Call (.Name f p2) (e::es) [] p3) (some (.Name x p1)) p4.line X.env=pure false:=by rfl) (hf:X.fn x=true\/X.env.scope.names.lookup x=some .local:=by first | exact .inl rfl | exact .inr rfl)
  (hq:X.N[q]?=some er:=by rfl) (Ql:X.env.kindOf er=some .local:=by rfl) (BQ:j2 X.env.scope er:=by first | exact Or.inl rfl | exact Or.inr (Or.inl rfl) | exact Or.inr (Or.inr rfl)) (BR:Loc X.env.scope er:=by first | exact Or.inl rfl | exact Or.inr rfl) (BU:(er==("__debug__":Str))=false:=by decide) (BV:(er==("__classdict__":Str))=false:=by decide) (BS:X.fn er=true\/X.env.scope.names.lookup er=some .local:=by first | exact .inl rfl | exact .inr rfl)
  (hj:X.N[j]?=some y:=by rfl) (hy:Loc X.env.scope y:=by first | exact Or.inl rfl | exact Or.inr rfl) (Bw:∀a,swapsWith (.Name er p7) (some (.Name y p6)) p8.line (X.gG a).env=pure false:=by intro _;rfl) (Qj:X.fn y=true\/X.env.scope.names.lookup y=some .local:=by first | exact .inl rfl | exact .inr rfl) :
  PX X (.Try [.Assign [.Name x p1] (.Call (.Name f p2) (e::es) [] p3) p4] [.ExceptHandler (some (.Name ex p5)) (some er) [.Assign [.Name y p6] (.Name er p7) p8] p9] [] [] pos) (yW i q j n t ts cn):=by
 obtain⟨fa,fd,ps,F,hm,kp,hb⟩:=F.ex;obtain⟨tt,pp,qq⟩:=ha;refine⟨fun D σ H=>tt σ H fun vs H1=>wB X.K n t vs H1 (fun v H2=>D.nx (σ.set i (some v)) H2) (fun u _ H2=>∀a,u=.ref a->H2 a=none->D.nx (((σ.set q (some (.ref a))).set j (some (.ref a))).set q none) (upd H2 a (.ext (qS a C)))),fun pins s σ H D I h=>?_,fun ρ σ G0 H0 G H D E k h g=>?_⟩
 ·refine wpAny_Try_except ?_;rw[vD];have args:=pp p3 pins s σ H _ I h;rw[vD] at args;refine wpAny_execs_cons (bB (Q:=fun f s1=>f=.next/\∃v H2,Inv X pins (σ.set i (some v)) H2 s1/\D.nx (σ.set i (some v)) H2) (wpAny_Assign_Name (bB (Q:=EP X pins σ fun v H2=>D.nx (σ.set i (some v)) H2) (wpAny_Call_Name_kw (uG I hg hm ?_ n0)) (fun v s1 z=>?_) fun _ _ z=>z) hs) (fun f s1 z=>?_) fun _ _ z=>z)
  ·refine PySem.W.callWith_K (h₀:=X.base) I.ok.mod.qw kp (bB args (fun us s1 z=>?_) fun _ _ z=>z.elim) he g4;obtain⟨vs,H1,I1,r,z⟩:=z;refine⟨I1.jU,JF F (hr.mono hk) hb .nil I1 r (by rw[List.append_nil];exact z) fun e' s' hc=>?_⟩;refine Ll I1 hc (O.at I1.ok.mod.qw) (O'.at I1.ok.mod.qw) B5 mv fE pH Qg Qo vD hN hq Ql BQ BR BU BV BS hj hy Bw Qj fun a H' s2 hE hn I2=>?_
   exact⟨_,_,I2,hE a rfl hn⟩
  ·obtain⟨u,H2,I2,r2,z2⟩:=z;exact xF I2 hN hi hx r2 (fun s2 I3=>⟨rfl,u,H2,I3,z2⟩) hf
  ·obtain⟨rfl,v,H2,I2,z2⟩:=z;exact wpAny_execs_nil (wpAny_execs_nil ⟨_,H2,I2,z2⟩)
 ·refine qq ρ σ G0 H0 G H _ _ k h fun vs H' ds G' x1 rs Ga=>?_
  refine⟨G',ds,_,_,x1.s,rs,Ga.1,Ga.2,fun v H2 r G2 x2 rr z=>g.nx _ _ G2 H2 (x1.g.trans x2.g) (k.put (x1.trans x2) (rr.iA x1.h)) z,fun G2 H2 x2 z a=>?_⟩;intro a' ea hn;cases ea;have k2:=k.ext (x1.trans x2);have x3:Ext G2 H2 (upd G2 a (.ext (qS a C))) (upd H2 a (.ext (qS a C))):=.new x2.s hn;have rep:Rep X.K (upd G2 a (.ext (qS a C))) (.ref a) (.exc cn):=by
   simp only[Rep];exact⟨a,_,C,rfl,fP,mB,fun h hh=>hh⟩
  exact g.nx _ _ _ _ ((x1.g.trans x2.g).trans x3.g) (((k2.unset (i:=q) (u:=some (.ref a))).put x3 (r:=.fz (.exc cn)) (eV rep)).unset (i:=q) (u:=none)) z
end
end L2
namespace PySem.W
open PySem PySem.Spec PySem.Calls PyProof.Rows Builtin Builtin.ObjectAttr Builtin.Getset_descriptor
section
variable {prog:Program} {w:World} {A:Around} {E:Value->Shared->Prop} {s:Shared} {K:Frag} {x C D:Addr} {name:Str}
def jy(h:Heap)(x C:Addr):Prop:=∃o,h.get? x=some o/\o.cls=.ref C
theorem jy.type{M:Model}{h:Heap}(I:jy h x C):Looks M h (typeOf (.ref x)) (.ref C):=by
 obtain⟨o,e,c⟩:=I;exact c▸(Looks.ld e).andThen .now
theorem Jt{M:Model}{h:Heap}{g a:Value}(X:K.In h)(ha:findIn K (.ref C) name=some (some a))(hg:specialIn K a "__get__"=some (some g))(ht:takesIn K a=some true):Looks M h (find (.ref x) (.ref C) name) (.bind g a):=by
 have L1:=looks_findIn (M:=M) X ha;have L2:Looks M h (getOf (some a)) (some g):=looks_specialIn X hg;have L3:=looks_takesIn (M:=M) X ht;exact L1.andThen (L2.andThen ((show Looks M h (dataDescriptor? (some a) (some g)) (some (g,a)) from L3.andThen .now).andThen (Looks.tag .now)))
theorem Nx{tp:Value}{R:Result->Shared->Prop}(X:K.In s.heap)(I:jy s.heap x C)(hm:mroIn K C (.type "object")=some true)
  (h:R (.ok (.ret (.ref C))) s):codeAny (model prog w) A (.call (.builtin "getset_descriptor.__get__") ⟨[.builtin "object.__class__",.ref x,tp],[]⟩) R s:=by
 obtain⟨hh,g,dr,t,os⟩:=s;have L0:=I.type (M:=model prog w);have L1:=looks_mroIn (M:=model prog w) X hm;refine codeAny_call_builtin KF.slot_gs.plain KF.entry_gs (KF.slot_gs.check _ _ _ _ _ _ _ _ KF.type_class (KF.args_gs _ _ _) ?_);unfold Builtin.«getset_descriptor.__get__» descrGet;rw[dga_obj];refine aa (ah ?_);unfold descrGetter descrCheckInstance descrNameAndClass isInstance;simp only[KF.owner_class];repeat lk
 refine⟨Code.quiet_builtin _ (by decide +kernel),codeAny_builtin KF.entry_class ?_⟩;unfold Builtin.«object.__class__» shownTypeOf;repeat lk
 exact h
theorem Lj{M:Model}{qu:Value}{Q:Unit->Shared->Prop}(X:K.In s.heap)(I:jy s.heap x D)(hb:mroIn K D (.type "BaseException")=some true)(hq:Q () s):wpAny M A (checkBuiltinCall "BaseException.__getattribute__" ⟨[.ref x,qu],[]⟩) Q E s:=by
 obtain⟨hh,g,d,t,os⟩:=s;have hk:builtinKind "BaseException.__getattribute__"=some .slot:=by decide +kernel
 have rX:splitId "BaseException.__getattribute__"=some ("BaseException","__getattribute__"):=by decide +kernel
 have ha:=F.args_bexc_ga (.ref x) qu;have L0:=I.type (M:=M);have L1:=looks_mroIn (M:=M) X hb;simp only[checkBuiltinCall,hk,rX];refine aa ?_;unfold isInstance;refine aa (L0.at (L1.at ?_));repeat(any_goals (first | assumption | wp_step))
theorem Li{g a:Value}{tk:Tok}{R:Fin->Shared->Prop}(X:K.In s.heap)(I:jy s.heap x D)(ha:findIn K (.ref D) name=some (some a))(hg:specialIn K a "__get__"=some (some g))(ht:takesIn K a=some true)
  (h:wpAny (model prog w) A (call g [a,.ref x,.ref D]) (fun v s'=>R (.done (.ret v)) s') E s) :
  wpAny (model prog w) A (Builtin.«object.__getattribute__» ⟨[.ref x,.str name tk],[]⟩) R E s:=by
 obtain⟨hh,gg,d,t,os⟩:=s;have L0:=I.type (M:=model prog w);have L1:=Jt (M:=model prog w) (x:=x) X ha hg ht;unfold Builtin.«object.__getattribute__»;refine aa (ah (aa (ah (aa (L0.at (aa (L1.at ?_)))))));show wpAny _ _ (holding [a] (call g [a,.ref x,.ref D]) >>= ret) _ _ _;exact aa (wpAny_holding (bB h (fun v s' z=>ah z) fun _ _ z=>z))
theorem Lh{Q:Option Value->Shared->Prop}{g a:Value}(X:K.In s.heap)(I:jy s.heap x D)(Qi:findIn K (.ref D) "__getattribute__"=some (some (.builtin "BaseException.__getattribute__")))(Qh:findIn K (.ref D) "__getattr__"=some none)
  (hb:mroIn K D (.type "BaseException")=some true) (ha:findIn K (.ref D) name=some (some a)) (hg:specialIn K a "__get__"=some (some g)) (ht:takesIn K a=some true)
  (h:wpAny (model prog w) A.in1 (call g [a,.ref x,.ref D]) (fun v s'=>wpAny (model prog w) A (handedOut v) (fun v tH=>Q (some v) tH) (fun _ _=>False) s') (fun _ _=>False) { s with toks:=s.toks+1 }) :
  wpAny (model prog w) A (getAttr? (.ref x) name) Q E s:=by
 obtain⟨hh,gg,d,t,os⟩:=s;have L0:=I.type (M:=model prog w);have L1:=looks_findIn (M:=model prog w) X Qi;have L2:=looks_findIn (M:=model prog w) X Qh;have f3:=F.excAttr_ValueError.ga.bind (.ref x);unfold getAttr? getAttrBy? getAttrBy;refine aa (wpAny_mkText (aa (wpAny_attempt (wpAny_holding (aa (L0.at (aa (L1.at ?_))))))));show wpAny _ _ (getAttrByItsOwn _ _ _ _ _ _) _ _ _;unfold getAttrByItsOwn;refine aa (L2.at (aa (wpAny_attempt (wpAny_holding ?_))));show wpAny _ _ (boundAndCalled _ _ _) _ _ _;unfold boundAndCalled;rw[f3];refine aa (ah (wpAny_call (codeAny_call_builtin F.excAttr_ValueError.ga.plain F.entry_bexc_ga (Lj (s:=⟨hh,gg,d,t+1,os⟩) X I hb (Li (s:=⟨hh,gg,d,t+1,os⟩) X I ha hg ht (bB h (fun v s' z=>?_) fun _ _ z=>z.elim))))));exact bB z (fun v tH hv=>ah hv) (fun _ _ z=>z.elim)
structure Cv (K:Frag) (D:Addr):Prop where
 hg:findIn K (.ref D) "__getattribute__"=some (some (.builtin "BaseException.__getattribute__"))
 hh:findIn K (.ref D) "__getattr__"=some none
 hd:hasDictIn K D=true
 ha:findIn K (.ref D) "__class__"=some (some (.builtin "object.__class__"))
 hn:specialIn K (.builtin "object.__class__") "__get__"=some (some (.builtin "getset_descriptor.__get__"))
 ht:takesIn K (.builtin "object.__class__")=some true
 hm:mroIn K D (.type "object")=some true
 hb:mroIn K D (.type "BaseException")=some true
theorem Lg{Q:Option Value->Shared->Prop}(B:Cv K D)(X:K.In s.heap)(I:jy s.heap x D)(h:Q (some (.ref D)) { s with toks:=s.toks+1 }):wpAny (model prog w) A (getAttr? (.ref x) "__class__") Q E s:=
 Lh X I B.hg B.hh B.hb B.ha B.hn B.ht (wpAny_call (Nx (s:={ s with toks:=s.toks+1 }) X I B.hm (handed_on rfl h)))
theorem lJ(B:Cv K D):KitX K (.ref x) (.ref D) (fun h=>jy h x D) where
 ty:=fun _ _ _ I=>I.type
 it:=fun _ _ X _=>by
  obtain⟨QY,sj,_⟩:=any_some B.hd;unfold clsIn at sj;split at sj
  ·rename_i c' d' QZ AU ho;intro A' Q' E' s' k q;unfold isType loadHead;exact aa (wpAny_loadPart (k _ _ (X _ _ ho)) (ah q))
  ·cases sj
 ne:=fun h tp dd its n sl X Py=>by
  obtain⟨QY,sj,_⟩:=any_some B.hd;refine Bool.eq_false_iff.mpr fun q=>?_
  have e:D=tp:=Value.ref.inj (beq_iff_eq.mp q);subst e;unfold clsIn at sj;split at sj
  ·rename_i c' d' QZ AU ho;have:=X _ _ ho;rw[Py] at this;cases this
  ·cases sj
 ca:=fun X I k=>Lg B X I k
end
end PySem.W
namespace L2
open PySem PySem.Spec PyProof.Rows
noncomputable abbrev qQ:=PySem.W.Cv
section
variable {X:Cx} {pos:Pos} {e:Expr} {te:TD} {D:Addr} {b:Bool}
theorem Inv.we{pins:List (Addr×Obj)}{σ:St}{H:Hp}{s:Shared}{v:V}{cn:Str}(I:Inv X pins σ H s)(mB:PySem.W.nsIn X.K mainGlobals cn=some (some (.ref D)))(r:Rep X.K H v (.exc cn)):∃a,v=.ref a/\PySem.W.jy s.heap a D:=by
 simp only[Rep] at r;obtain⟨a,φ,C,rfl,e,hc,Pj⟩:=r;rw[mB] at hc;cases hc;exact⟨a,rfl,Pj _ (I.b9 a _ e).1⟩
theorem ER{c:V}{uc:Value}{cn:Str}(hK:qQ X.K D)(mB:PySem.W.nsIn X.K mainGlobals cn=some (some (.ref D)))(hu:∀u,RelV c u->u=uc)(hb:PySem.W.kitOne X.K (.ref D) uc=some b) :
  dn X (.builtin "isinstance") (fun xs H Q=>∃x,xs=[x,c]/\Rep X.K H x (.exc cn)/\Q (.bl b) H):=by
 intro pins s σ H xs us Q I r h;obtain⟨x,rfl,rx,q⟩:=h;obtain⟨u,u2,rfl,ru,rc⟩:=uu r;obtain⟨a,rfl,ex⟩:=I.we mB rx;cases (show u=Value.ref a from ru);rw[hu _ rc];exact PySem.W.kia_one (PySem.W.lJ hK) I.jU ex hb (by intro z;cases z) fun tk=>⟨.bl b,H,I.tok tk,rfl,q⟩
theorem MK{cs:List Addr}{cn:Str}(hK:qQ X.K D)(mB:PySem.W.nsIn X.K mainGlobals cn=some (some (.ref D)))(hb:PySem.W.kitAny X.K (.ref D) (cs.map Value.ref)=some b) :
  dn X (.builtin "isinstance") (fun xs H Q=>∃x p,xs=[x,.ref p]/\et X.K H p (cs.map V.ref)/\Rep X.K H x (.exc cn)/\Q (.bl b) H):=by
 intro pins s σ H xs us Q I r h;obtain⟨x,p,rfl,hp,rx,q⟩:=h;obtain⟨u,u2,rfl,ru,rc⟩:=uu r;obtain⟨a,rfl,ex⟩:=I.we mB rx;cases (show u=Value.ref a from ru);cases (show u2=Value.ref p from rc);obtain⟨its,rv,ht,hz⟩:=I.tuple hp;have ei:its=cs.map Value.ref:=by
  clear ht hb hp hz;induction cs generalizing its with
  | nil=>cases rv;rfl
  | cons c r ih=>
   cases rv with
   | cons h1 h2=>rw[ao,<-ih _ h2];cases (show _=Value.ref c from h1);rfl
 subst ei;obtain⟨⟨cls,dd,data,sl⟩,g1,g2,n,g3⟩:=ht;simp only at g2 g3;subst g2 g3;exact PySem.W.kia_tup (PySem.W.lJ hK) I.jU ex g1 hb (by intro z;cases z) fun tk=>⟨.bl b,H,I.tok tk,rfl,q⟩
def pT(cn:Str)(b:Bool)(te:TD):TD:=fun ρ Q=>te ρ fun r=>match r.val with
 | .exc c=>c=cn/\Q (.fz (.bl b))
 | _=>False
theorem Js{C:Addr}{cn CN:Str}{p p':Pos}(he:PD X e te)(hK:qQ X.K D)(mB:PySem.W.nsIn X.K mainGlobals cn=some (some (.ref D)))(hm:X.mg "isinstance"=none)(r8:X.mg CN=some (.ref C))(hb:PySem.W.kitOne X.K (.ref D) (.ref C)=some b)
  (hg:Gl X "isinstance":=by rfl) (qD:Gl X CN:=by rfl) (hd:(CN==("__debug__":Str))=false:=by decide) (fE:starEach [e,Expr.Name CN p'] X.env=(false,eval e X.env)::starEach [Expr.Name CN p'] X.env:=by rfl) (kP:starEach [Expr.Name CN p'] X.env=(false,eval (.Name CN p') X.env)::starEach [] X.env:=by rfl)
  (g4:(backTo pos (starEach [Expr.Name CN p'] X.env)).any (·.1)=false:=by rfl):PD X (.Call (.Name "isinstance" p) [e,.Name CN p'] [] pos) (pT cn b te):=by
 obtain⟨t,pp,q⟩:=he;refine⟨_,rp (ER (c:=.ref C) (uc:=.ref C) (b:=b) hK mB (fun u h=>h) hb) hg hm boot_isinstance (jO pp (jO (zx (v:=.ref C) qD r8 rfl hd) lz kP) fE) (by decide) (by decide) fE g4,fun ρ σ G0 H0 G H Q P E h k=>q ρ σ G0 H0 G H _ _ E h fun v H' r G' x rr hq=>?_⟩;obtain⟨G2,x2,rv,_⟩:=rr.freeze x;split at hq
 ·rename_i c e1;obtain⟨rfl,hq⟩:=hq;rw[e1] at rv;exact⟨v,rfl,rv.mono x2.s,k _ _ _ G2 x2 (eV (iq _ _ _)) hq⟩
 ·exact hq.elim
theorem Jr{T:String}{cn TN:Str}{p p':Pos}(he:PD X e te)(hK:qQ X.K D)(mB:PySem.W.nsIn X.K mainGlobals cn=some (some (.ref D)))(hm:X.mg "isinstance"=none)(r8:X.mg TN=none)(hv:bootBuiltins TN=some (.type T))(hb:PySem.W.kitOne X.K (.ref D) (.type T)=some b)
  (hg:Gl X "isinstance":=by rfl) (qD:Gl X TN:=by rfl) (hn:TN≠"__name__":=by decide) (hd:(TN==("__debug__":Str))=false:=by decide) (fE:starEach [e,Expr.Name TN p'] X.env=(false,eval e X.env)::starEach [Expr.Name TN p'] X.env:=by rfl) (kP:starEach [Expr.Name TN p'] X.env=(false,eval (.Name TN p') X.env)::starEach [] X.env:=by rfl)
  (g4:(backTo pos (starEach [Expr.Name TN p'] X.env)).any (·.1)=false:=by rfl):PD X (.Call (.Name "isinstance" p) [e,.Name TN p'] [] pos) (pT cn b te):=by
 obtain⟨t,pp,q⟩:=he;refine⟨_,rp (ER (c:=.ty T) (uc:=.type T) (b:=b) hK mB (fun u h=>h) hb) hg hm boot_isinstance (jO pp (jO (Et (v:=.ty T) qD r8 hv rfl hn hd) lz kP) fE) (by decide) (by decide) fE g4,fun ρ σ G0 H0 G H Q P E h k=>q ρ σ G0 H0 G H _ _ E h fun v H' r G' x rr hq=>?_⟩;obtain⟨G2,x2,rv,_⟩:=rr.freeze x;split at hq
 ·rename_i c e1;obtain⟨rfl,hq⟩:=hq;rw[e1] at rv;exact⟨v,rfl,rv.mono x2.s,k _ _ _ G2 x2 (eV (iq _ _ _)) hq⟩
 ·exact hq.elim
theorem El:∀(cs:List (Str×Addr×Pos)),(∀c∈cs,X.mg c.1=some (.ref c.2.1)/\Gl X c.1/\(c.1==("__debug__":Str))=false)->(∀es,(∃l,es=(cs.drop l).map fun c=>Expr.Name c.1 c.2.2)->starEach es X.env=match es with | []=>starEach [] X.env | e::r=>(false,eval e X.env)::starEach r X.env)->
  ∃t,PA X (cs.map fun c=>Expr.Name c.1 c.2.2) t/\∀(σ:St) (H:Hp) (Q:List V->Hp->Prop),Q (cs.map fun c=>V.ref c.2.1) H->t σ H Q
 | [],_,_=>⟨_,lz,fun _ _ _ q=>q⟩
 | c::cs,h,hs=>by
  obtain⟨t,p,q⟩:=El cs (fun d hd=>h d (ar _ hd)) (fun es bQ=>by obtain⟨l,e⟩:=bQ;exact hs es ⟨l+1,e⟩);obtain⟨h1,h2,h3⟩:=h c aF;exact⟨_,jO (zx (v:=.ref c.2.1) h2 h1 rfl h3) p (hs _ ⟨0,rfl⟩),fun σ H Q z=>q σ H _ z⟩
theorem Ek{cs:List (Str×Addr×Pos)}{cn:Str}{p p3:Pos}{x1:Nat}(he:PD X e te)(hK:qQ X.K D)(mB:PySem.W.nsIn X.K mainGlobals cn=some (some (.ref D)))(hm:X.mg "isinstance"=none)(hc:∀c∈cs,X.mg c.1=some (.ref c.2.1)/\Gl X c.1/\(c.1==("__debug__":Str))=false)
  (hb:PySem.W.kitAny X.K (.ref D) ((cs.map fun c=>c.2.1).map Value.ref)=some b) (hl:cs.length<=sizeLine) (hs:∀es,(∃l,es=(cs.drop l).map fun c=>Expr.Name c.1 c.2.2)->starEach es X.env=match es with | []=>starEach [] X.env | e::r=>(false,eval e X.env)::starEach r X.env)
  (hg:Gl X "isinstance":=by rfl) (fE:starEach [e,Expr.Tuple (cs.map fun c=>Expr.Name c.1 c.2.2) x1 p3] X.env=(false,eval e X.env)::starEach [Expr.Tuple (cs.map fun c=>Expr.Name c.1 c.2.2) x1 p3] X.env:=by rfl)
  (kP:starEach [Expr.Tuple (cs.map fun c=>Expr.Name c.1 c.2.2) x1 p3] X.env=(false,eval (Expr.Tuple (cs.map fun c=>Expr.Name c.1 c.2.2) x1 p3) X.env)::starEach [] X.env:=by rfl)
  (g4:(backTo pos (starEach [Expr.Tuple (cs.map fun c=>Expr.Name c.1 c.2.2) x1 p3] X.env)).any (·.1)=false:=by rfl):PD X (.Call (.Name "isinstance" p) [e,.Tuple (cs.map fun c=>Expr.Name c.1 c.2.2) x1 p3] [] pos) (pT cn b te):=by
 obtain⟨t,pp,q⟩:=he;obtain⟨tg,pg,qg⟩:=El (X:=X) cs hc hs;refine⟨_,rp (MK (cs:=cs.map fun c=>c.2.1) (b:=b) hK mB hb) hg hm boot_isinstance (jO pp (jO (Dz pg) lz kP) fE) (by decide) (by decide) fE g4,fun ρ σ G0 H0 G H Q P E h k=>q ρ σ G0 H0 G H _ _ E h fun v H' r G' x rr hq=>?_⟩;obtain⟨G2,x2,rv,_⟩:=rr.freeze x;split at hq
 ·rename_i c e1;obtain⟨rfl,hq⟩:=hq;rw[e1] at rv;refine qg _ _ _ ⟨by simpa using hl,fun p hp=>?_⟩;have x3:=x2.trans (Ext.own (o:=.tup (cs.map fun c=>V.ref c.2.1)) x2.s hp);refine⟨v,p,rfl,?_,rv.mono x3.s,k _ _ _ G2 x3 (eV (iq _ _ _)) hq⟩;rw[aD];exact et.of fP
 ·exact hq.elim
end
end L2
section
namespace Wc
open PySem L2
noncomputable def bS(l:List Nat):Str:=⟨l.toArray⟩
theorem kl(l:List Nat):(bS l).cps.toList=l:=by simp[bS]
theorem fW(l:List Nat):(bS l).length=l.length:=by simp[bS,Str.length]
theorem uF{a b:List Nat}:bS a=bS b↔a=b:=by
 constructor
 ·intro h;have:(bS a).cps.toList=(bS b).cps.toList:=by rw[h]
  simpa[bS] using this
 ·rintro rfl;rfl
theorem yV(w:Str):bS w.cps.toList=w:=by cases w;simp[bS]
theorem vz(c:Nat):(⟨#[c]⟩:Str)=bS [c]:=rfl
theorem rj{α β:Type}(f:α->β)(l:List α)(i:Int):dz (l.map f) i=(dz l i).map f:=by
 unfold dz;rw[af];cases jV l.length i with
 | none=>rfl
 | some j=>simp
theorem Jl{α β:Type}{f:α->β}{o:Option α}{p:β->Prop}:(∃d,o.map f=some d/\p d)↔∃x,o=some x/\p (f x):=by
 cases o with
 | none=>simp
 | some x=>simp
theorem Jk{α β:Type}{f:α->β}{l:List α}{i:Int}{p:β->Prop}:(∃d,dz (l.map f) i=some d/\p d)↔∃x,dz l i=some x/\p (f x):=by rw[rj];exact Jl
theorem tm{α:Type}{l:List α}{i:Int}(h0:0<=i)(h1:i<l.length):∃h:i.toNat<l.length,dz l i=some (l[i.toNat]'h):=by
 refine⟨by omega,?_⟩;unfold dz jV;rw[if_pos h0,if_pos h1];simp only[Option.bind_some];exact ae _
theorem J5{α:Type}{l:List α}{i:Int}(h0:0<=i)(h1:i<l.length):∃z,dz l i=some z/\z∈l:=by
 obtain⟨h,e⟩:=tm h0 h1;exact⟨_,e,aQ h⟩
theorem HK{α:Type}{l:List α}{n:Nat}(i:Int)(hl:n<=l.length)(h:0<n):∃z,dz l (i%(n:Int))=some z/\z∈l:=
 J5 (Int.emod_nonneg _ (by omega)) (by have:=Int.emod_lt_of_pos i (show(0:Int)<n by omega);omega)
theorem tY{α:Type}{l:List α}(i:Int)(hl:l.length=8):∃z,dz l (i%3)=some z/\z∈l:=HK (n:=3) i (by omega) (by omega)
theorem oH{α:Type}{l:List α}{j:Nat}(h:j<l.length):dz l (j:Int)=some l[j]:=by
 obtain⟨h',e⟩:=tm (l:=l) (i:=(j:Int)) (by omega) (by omega);simpa using e
theorem xr{n d:Nat}{j:Int}(h:0<=j):HT.cV n d (some j)=min j.toNat n:=by show(if j<0 then _ else _)=_;rw[if_neg (by omega)]
theorem DJ{α:Type}(l:List α){j:Int}(h:0<=j):ix l none (some j)=l.take j.toNat:=by
 unfold ix;rw[xr h];show((l.drop 0).take (min j.toNat l.length-0))=_;rw[List.drop_zero,Nat.sub_zero,Nat.min_comm];by_cases hl:l.length<=j.toNat
 ·rw[Nat.min_eq_left hl,List.take_of_length_le hl,List.take_of_length_le (az _)]
 ·rw[Nat.min_eq_right (by omega)]
theorem Fl{α:Type}(l:List α){j:Int}(h:0<=j):ix l (some j) none=l.drop j.toNat:=by
 unfold ix;rw[xr h];show((l.drop (min j.toNat l.length)).take (l.length-_))=_;by_cases hl:l.length<=j.toNat
 ·rw[Nat.min_eq_right hl,List.drop_of_length_le hl,List.drop_of_length_le (az _)];simp
 ·rw[Nat.min_eq_left (by omega),List.take_of_length_le (by simp)]
theorem Lf{α:Type}(l:List α){i j:Int}(hi:0<=i)(h:0<=j):ix l (some i) (some j)=(l.drop i.toNat).take (j.toNat-i.toNat):=by
 unfold ix;rw[xr h,xr hi];by_cases hl:l.length<=i.toNat
 ·rw[Nat.min_eq_right hl,List.drop_of_length_le hl,List.drop_of_length_le (az _)];simp
 ·rw[Nat.min_eq_left (a:=i.toNat) (by omega)];by_cases hj:l.length<=j.toNat
  ·rw[Nat.min_eq_right hj,List.take_of_length_le (by simp),List.take_of_length_le (by simp;omega)]
  ·rw[Nat.min_eq_left (by omega)]
theorem DI(l:List Nat){j:Int}(h:0<=j):lh (bS l) none (some j)=bS (l.take j.toNat):=by unfold lh;rw[kl,DJ _ h];rfl
theorem Fj(l:List Nat){j:Int}(h:0<=j):lh (bS l) (some j) none=bS (l.drop j.toNat):=by unfold lh;rw[kl,Fl _ h];rfl
theorem Le(l:List Nat){i j:Int}(hi:0<=i)(h:0<=j):lh (bS l) (some i) (some j)=bS ((l.drop i.toNat).take (j.toNat-i.toNat)):=by unfold lh;rw[kl,Lf _ hi h];rfl
theorem Ld{α β:Type}(f:α->β)(l:List α)(lo hi:Option Int):ix (l.map f) lo hi=(ix l lo hi).map f:=by unfold ix;rw[af,List.map_take,List.map_drop]
theorem J4(n:Nat)(i:Int):eJ n (.int i)=True:=by cases n<;>exact eq_true trivial
theorem J3(n:Nat)(i:Str):eJ n (.str i)=True:=by cases n<;>exact eq_true trivial
theorem HJ(n:Nat)(i:Bool):eJ n (.bl i)=True:=by cases n<;>exact eq_true trivial
theorem J2(n:Nat):eJ n .non=True:=by cases n<;>exact eq_true trivial
theorem DH{α:Type}[BEq α][LawfulBEq α][DecidableEq α](a b:α):(a==b)=decide (a=b):=by rw[Bool.eq_iff_iff];simp
theorem J1(a b:Str):c6 (.str a) (.str b)=decide (a=b):=by simp only[c6,DH]
theorem JZ(a b:Int):c6 (.int a) (.int b)=decide (a=b):=by simp only[c6,DH]
theorem iV:sizeLine=16777216:=by decide
@[irreducible] def ua(u:TX)(D:DE):Ev->Prop:=u D
theorem HI(t u:TX)(D:DE)(ρ:Ev):cp t u D ρ=t { nx:=ua u D,rt:=D.rt,bk:=D.bk,ct:=D.ct } ρ:=by unfold ua;rfl
end Wc
open PySem L2 Wc
local macro_rules | `(tactic| walk_at "b")=>`(tactic| simp only[HI,fh,mM,kC,tX,dh,uz,dC,Ja,zg,HL,Iq,gS,bK,bU,bH,ao,List.map_nil,List.cons_append,List.nil_append,List.set,gt,jM,ie,oI,bJ,dX,eF,fw,l6,eI,jG,jH,ff,oz,dZ,jk,gn,kc,mP,oEq,A8,fq,lT,m8,ke,fm,qV,yB,yA,wY,wN,dM,sN,sR,ud,iQ,ue,wZ,ji,lb,zh,oC,sQ,sM,Ip,IZ,IY,OY,OW,nA,fU,Int.reduceLT,Int.reduceLE,Int.reduceAdd,Int.reduceSub,Int.reduceMul,Int.reduceNeg,Int.reducePow,Int.reduceToNat,decide_true,decide_false,true_and,and_true,and_self,or_true,true_or,J4,J3,HJ,J2,Jk,aV,br,bC,Bool.not_true,Bool.not_false,aA,List.length_nil,Nat.reduceAdd,aY,JZ,J1,Ld,MY,uZ,wX,yQ])
local macro_rules | `(tactic| walk_at "all")=>`(tactic| ((try walk_at "px");repeat(simp only[ua];try walk_at "px")))
local macro_rules | `(tactic| walk_at "px")=>`(tactic| walk_at "b")
local macro_rules | `(tactic| walk_at "go")=>`(tactic| (simp only[ua];walk_at "px"))
namespace Wc
open PySem L2
noncomputable def wI(c k:Int):Int:=(c%1000000000000000000000000000000*(k*k+48271)+7919*k*k*k+11)%2147483647/7
theorem Dj(c k:Int):0<=wI c k:=Int.ediv_nonneg (Int.emod_nonneg _ (by decide)) (by decide)
def qe:eX:=fun ds Q=>∃c k:Int,ds=[.int c,.int k]/\0<=k/\k<=1000000/\Q (.fz (.int (wI c k)))
def Au:TX:=(eF (bJ (oI nA fun i j=>.int (i/j)) (bJ (oI (fun _ j=>0<j) fun i j=>.int (i%j)) (bJ dX (bJ dX (bJ (oI fU fun i j=>.int (i*j)) (bJ (oI (fun _ j=>0<j) fun i j=>.int (i%j)) (bH 0) (bJ (oI qW fun i j=>.int (i ^ j.toNat)) (dC (.int 10)) (dC (.int 30)))) (bJ dX (bJ (oI fU fun i j=>.int (i*j)) (bH 1) (bH 1)) (dC (.int 48271)))) (bJ (oI fU fun i j=>.int (i*j)) (bJ (oI fU fun i j=>.int (i*j)) (bJ (oI fU fun i j=>.int (i*j)) (dC (.int 7919)) (bH 1)) (bH 1)) (bH 1))) (dC (.int 11))) (dC (.int 2147483647))) (dC (.int 7))))
theorem Nu(ds:List D)(Qr:R->Prop)(hl:ds.length=2)(h:qe ds Qr):Au { nx:=fun _=>Qr (.fz .non),rt:=Qr } (gm ["_law_cell","_law_k"] ds):=by
 obtain⟨c,k,rfl,h0,h1,q⟩:=h;show Au _ [.fz (.int c),.fz (.int k)];unfold Au;walk_at "all";have hk:k*k<=1000000*1000000:=Int.mul_le_mul h1 h1 h0 (by decide);have Gi:0<=k*k:=Int.mul_nonneg h0 h0;refine⟨.inl ⟨by omega,by omega⟩,.inr ⟨by omega,by omega⟩,.inr ⟨by omega,by omega⟩,.inr ⟨by omega,by omega⟩,?_⟩;exact q
end Wc
namespace Wc
open PySem L2 PyProof.Rows
noncomputable def dI(l:List Int):D:=.lst (l.map .int)
noncomputable def QX(p:Int×Int×Int):D:=.tup [.int p.1,.int p.2.1,.int p.2.2]
noncomputable def dK(l:List (Int×Int×Int)):D:=.lst (l.map QX)
theorem LK{α:Type}(a:α)(r:List α):dz (a::r) 0=some a:=by
 unfold dz jV;rw[if_pos (by decide),if_pos (by simp only[aA];omega)];rfl
theorem yM(o:OV):(R.ov o).sl=.ov o:=rfl
theorem yU(o:OV):(R.ov o).val=o.val:=rfl
end Wc
namespace Wc
inductive Cn {α:Type} (E:List (α×α)):α->α->Prop
 | refl (a:α):Cn E a a
 | step {a b c:α}:Cn E a b->(b,c)∈E\/(c,b)∈E->Cn E a c
section
variable {α β:Type} {E:List (α×α)} {F:List (β×β)} {a b c:α}
theorem Cn.trans(h:Cn E a b)(k:Cn E b c):Cn E a c:=by
 induction k with
 | refl=>exact h
 | step _ e ih=>exact .step ih e
theorem Cn.symm(h:Cn E a b):Cn E b a:=by
 induction h with
 | refl=>exact .refl _
 | step _ e ih=>exact(Cn.step (.refl _) e.symm).trans ih
theorem HH{lab:α->α}(h1:∀x y,(x,y)∈E->lab x=lab y)(h2:∀x,Cn E x (lab x)):lab a=lab b↔Cn E a b:=by
 constructor
 ·intro h;refine(h2 a).trans ?_;rw[h];exact(h2 b).symm
 ·intro h;induction h with
  | refl=>rfl
  | step _ e ih=>
   rw[ih];rcases e with e | e
   ·exact h1 _ _ e
   ·exact(h1 _ _ e).symm
end
structure il {κ α:Type} [DecidableEq κ] (l:List (κ×α)) (bF:List (κ×List α)):Prop where
 nd:(bF.map (·.1)).Nodup
 is:∀p∈bF,p.2=(l.filter fun q=>decide (q.1=p.1)).map (·.2)
 all:∀p∈l,∃g,(p.1,g)∈bF
 ex:∀p∈bF,∃q∈l,q.1=p.1
section
variable {κ qR α:Type} [DecidableEq κ] [DecidableEq qR] {l:List (κ×α)} {bF:List (κ×List α)} {m:List (qR×α)} {Pa:List (qR×List α)}
theorem il.nil:il (κ:=κ) (α:=α) [] []:=⟨by simp,by simp,by simp,by simp⟩
theorem Di{p q:κ×List α}(nd:(bF.map (·.1)).Nodup)(hp:p∈bF)(hq:q∈bF)(e:p.1=q.1):p=q:=by
 induction bF with
 | nil=>cases hp
 | cons a r ih=>
  rw[ao,aX] at nd;rcases au.mp hp with rfl | hp
  ·rcases au.mp hq with rfl | hq
   ·rfl
   ·exact absurd (aK.mpr ⟨q,hq,e.symm⟩) nd.1
  ·rcases au.mp hq with z | hq
   ·exact absurd (aK.mpr ⟨p,hp,by rw[e,z]⟩) nd.1
   ·exact ih nd.2 hp hq
theorem il.fresh(G:il l bF){k:κ}{e:α}(h:∀p∈bF,p.1≠k):il (l++[(k,e)]) (bF++[(k,[e])]):=by
 have hl:∀p∈l,p.1≠k:=fun p hp z=>by
  obtain⟨g,hg⟩:=G.all p hp;exact h _ hg z
 refine⟨?_,fun p hp=>?_,fun p hp=>?_,fun p hp=>?_⟩
 ·rw[aE,List.nodup_append];refine⟨G.nd,by simp,fun x hx y hy z=>?_⟩;obtain⟨p,hp,rfl⟩:=aK.mp hx;simp at hy;exact h p hp (z.trans hy)
 ·rw[List.filter_append,aE];rcases aI.mp hp with hp | hp
  ·rw[<-G.is p hp];have:decide (k=p.1)=false:=aw fun z=>h p hp z.symm
   simp[List.filter_cons,this]
  ·simp at hp;subst hp;have:(l.filter fun q=>decide (q.1=k))=[]:=List.filter_eq_nil_iff.mpr fun q hq=>by simpa using hl q hq
   simp[this]
 ·rcases aI.mp hp with hp | hp
  ·obtain⟨g,hg⟩:=G.all p hp;exact⟨g,bp _ hg⟩
  ·simp at hp;subst hp;exact⟨[e],by simp⟩
 ·rcases aI.mp hp with hp | hp
  ·obtain⟨q,hq,e1⟩:=G.ex p hp;exact⟨q,bp _ hq,e1⟩
  ·simp at hp;subst hp;exact⟨(k,e),by simp,rfl⟩
theorem il.more(G:il l bF){k:κ}{e:α}{n:Nat}{g:List α}(h:bF[n]?=some (k,g)):il (l++[(k,e)]) (bF.set n (k,g++[e])):=by
 have hn:n<bF.length:=(ai.mp h).1;have vM:(k,g)∈bF:=av h;have keys:(bF.set n (k,g++[e])).map (·.1)=bF.map (·.1):=by
  rw[List.map_set];apply List.ext_getElem?;intro i;rw[List.getElem?_set];split
  ·rename_i z;subst z;rw[if_pos (by simpa using hn),aj,h];rfl
  ·rfl
 have other:∀p∈bF.set n (k,g++[e]),p=(k,g++[e])\/(p∈bF/\p.1≠k):=fun p hp=>by
  obtain⟨i,hi⟩:=aW hp;rw[List.getElem?_set] at hi;split at hi
  ·rename_i z;subst z;simp[hn] at hi;exact .inl hi.symm
  ·rename_i z;refine .inr ⟨av hi,fun z2=>z ?_⟩;have e1:(bF.map (·.1))[i]?=some k:=by rw[aj,hi];simp[z2]
   have e2:(bF.map (·.1))[n]?=some k:=by rw[aj,h];rfl
   have tQ:i<(bF.map (·.1)).length:=(ai.mp e1).1;have vL:n<(bF.map (·.1)).length:=(ai.mp e2).1;exact(List.getElem?_inj vL G.nd).mp (by rw[e1,e2])
 refine⟨by rw[keys];exact G.nd,fun p hp=>?_,fun p hp=>?_,fun p hp=>?_⟩
 ·rw[List.filter_append,aE];rcases other p hp with rfl | ⟨hp,hk⟩
  ·have:=G.is _ vM;simp only at this;simp[<-this]
  ·rw[<-G.is p hp];have:decide (k=p.1)=false:=aw fun z=>hk z.symm
   simp[List.filter_cons,this]
 ·have:p.1∈(bF.set n (k,g++[e])).map (·.1):=by
   rw[keys];rcases aI.mp hp with hp | hp
   ·obtain⟨g,hg⟩:=G.all p hp;exact aK.mpr ⟨_,hg,rfl⟩
   ·simp at hp;subst hp;exact aK.mpr ⟨_,vM,rfl⟩
  obtain⟨q,hq,e1⟩:=aK.mp this;exact⟨q.2,by rw[<-e1];exact hq⟩
 ·rcases other p hp with rfl | ⟨hp,hk⟩
  ·exact⟨(k,e),by simp,rfl⟩
  ·obtain⟨q,hq,e1⟩:=G.ex p hp;exact⟨q,bp _ hq,e1⟩
end
end Wc
namespace Wc
section
variable {κ:Type} {E:List (κ×κ)} {nb:κ->List κ} {F F0:κ->Option κ} {gh:κ} {wt:List κ}
def xf(E:List (κ×κ))(nb:κ->List κ)(F:κ->Option κ):Prop:=∀x a,F x=some a->Cn E x a/\∀y∈nb x,F y=some a
structure nt (E:List (κ×κ)) (nb:κ->List κ) (F0 F:κ->Option κ) (gh:κ) (wt:List κ):Prop where
 old:∀x,F0 x≠none->F x=F0 x
 new:∀x y,F x=some y->F0 x=none->y=gh/\Cn E gh x
 sy:∀x y,F x≠none->F0 x=none->y∈nb x->F y≠none\/y∈wt
 wait:∀x∈wt,Cn E gh x
 fst:F gh≠none\/gh∈wt
theorem nt.start:nt E nb F F gh [gh]:=⟨fun _ _=>rfl,fun x y h1 h2=>(by rw[h1] at h2;cases h2),fun x y h1 h2=>absurd h2 h1,fun x hx=>by
 have:x=gh:=by simpa using hx
 rw[this]
 exact .refl _,.inr (by simp)⟩
theorem nt.skip{x:κ}(D:nt E nb F0 F gh (wt++[x]))(h:F x≠none):nt E nb F0 F gh wt:=by
 refine⟨D.old,D.new,fun a b h1 h2 h3=>?_,fun a ha=>D.wait a (bp _ ha),?_⟩
 ·rcases D.sy a b h1 h2 h3 with z | z
  ·exact .inl z
  ·rcases aI.mp z with z | z
   ·exact .inr z
   ·have:b=x:=by simpa using z
    rw[this];exact .inl h
 ·rcases D.fst with z | z
  ·exact .inl z
  ·rcases aI.mp z with z | z
   ·exact .inr z
   ·have:gh=x:=by simpa using z
    rw[this];exact .inl h
theorem nt.take[DecidableEq κ]{x:κ}(hn:∀x y,y∈nb x->(x,y)∈E\/(y,x)∈E)(D:nt E nb F0 F gh (wt++[x]))(h:F x=none):nt E nb F0 (fun y=>if y=x then some gh else F y) gh (wt++nb x):=by
 have h0:F0 x=none:=by
  cases e:F0 x with
  | none=>rfl
  | some a=>
   have:=D.old x (by rw[e];exact nofun);rw[h,e] at this;cases this
 have cx:Cn E gh x:=D.wait x (by simp);refine⟨fun y hy=>?_,fun y z h1 h2=>?_,fun a b h1 h2 h3=>?_,fun a ha=>?_,?_⟩
 ·have:y≠x:=fun z=>by rw[z,h0] at hy;exact hy rfl
  simp only[if_neg this];exact D.old y hy
 ·by_cases e:y=x
  ·subst e;simp only[bC,aH] at h1;exact⟨h1.symm,cx⟩
  ·simp only[if_neg e] at h1;exact D.new y z h1 h2
 ·by_cases e:b=x
  ·simp only[if_pos e];exact .inl nofun
  ·simp only[if_neg e];by_cases ea:a=x
   ·subst ea;exact .inr (aZ _ h3)
   ·simp only[if_neg ea] at h1;rcases D.sy a b h1 h2 h3 with z | z
    ·exact .inl z
    ·rcases aI.mp z with z | z
     ·exact .inr (bp _ z)
     ·exact absurd (by simpa using z) e
 ·rcases aI.mp ha with ha | ha
  ·exact D.wait a (bp _ ha)
  ·exact .step cx (hn _ _ ha)
 ·by_cases e:gh=x
  ·simp only[if_pos e];exact .inl nofun
  ·simp only[if_neg e];rcases D.fst with z | z
   ·exact .inl z
   ·rcases aI.mp z with z | z
    ·exact .inr (bp _ z)
    ·exact absurd (by simpa using z) e
theorem nt.done(hs:∀x y,y∈nb x->x∈nb y)(C:xf E nb F0)(D:nt E nb F0 F gh []):xf E nb F/\F gh≠none/\∀x,F0 x≠none->F x≠none:=by
 refine⟨fun x a h=>?_,?_,fun x h=>by rw[D.old x h];exact h⟩
 ·cases e0:F0 x with
  | some b=>
   have:=D.old x (by rw[e0];exact nofun);rw[h,e0] at this;cases this;obtain⟨c1,c2⟩:=C x a e0;refine⟨c1,fun y hy=>?_⟩;rw[D.old y (by rw[c2 y hy];exact nofun)];exact c2 y hy
  | none=>
   obtain⟨rfl,cx⟩:=D.new x a h e0;refine⟨cx.symm,fun y hy=>?_⟩;rcases D.sy x y (by rw[h];exact nofun) e0 hy with z | z
   ·cases e1:F y with
    | none=>exact absurd e1 z
    | some c=>
     cases e2:F0 y with
     | none=>rw[(D.new y c e1 e2).1]
     | some b=>
      have:=(C y b e2).2 x (hs _ _ hy);rw[e0] at this;cases this
   ·cases z
 ·rcases D.fst with z | z
  ·exact z
  ·cases z
theorem MJ(C:xf E nb F)(hk:∀x y,(x,y)∈E->F x≠none/\y∈nb x){a b:κ}:((F a).getD a=(F b).getD b)↔Cn E a b:=by
 refine HH (lab:=fun x=>(F x).getD x) (fun x y h=>?_) fun x=>?_
 ·obtain⟨h1,h2⟩:=hk x y h;cases e:F x with
  | none=>exact absurd e h1
  | some c=>simp only[(C x c e).2 y h2,aS]
 ·cases e:F x with
  | none=>exact .refl _
  | some c=>exact(C x c e).1
end
end Wc
namespace Wc
section
variable {κ:Type}
variable [DecidableEq κ] {E:List (κ×κ)} {ks:List κ} {code:κ->Nat} {f f0:κ->κ}
noncomputable def mu(code:κ->Nat)(ks:List κ)(f:κ->κ):Nat:=(ks.map fun k=>code (f k)).sum
end
noncomputable def gO(p:Nat->Bool):Nat->Nat
 | 0=>0
 | s+1=>if p s=true then gO p s else s+1
end Wc
namespace Wc
noncomputable abbrev N3:=Nat×Nat×Nat
noncomputable abbrev Sd:=Bool×Nat×Nat
noncomputable def iY(c:Nat):Bool:=decide (c=45\/c=43\/c=35)
noncomputable def iu(c:Nat):Bool:=decide (c=124\/c=43\/c=35)
noncomputable def Bl(g:Nat->Nat->Nat)(r:Nat):Nat->Bool:=fun s=>iY (g r s)
noncomputable def AM(g:Nat->Nat->Nat)(s:Nat):Nat->Bool:=fun r=>iu (g r s)
noncomputable def GV(g:Nat->Nat->Nat)(r s:Nat):Sd:=(false,r,gO (Bl g r) s)
noncomputable def GU(g:Nat->Nat->Nat)(r s:Nat):Sd:=(true,s,gO (AM g s) r)
noncomputable def ph(g:Nat->Nat->Nat)(x:N3):Sd:=if x.2.2=0 then GV g x.1 x.2.1 else GU g x.1 x.2.1
noncomputable def ps(y:Sd):N3:=if y.1=true then(y.2.2,y.2.1,1) else(y.2.1,y.2.2,0)
theorem JY:iY 43=true:=by decide
theorem JX:iu 43=true:=by decide
section
variable {R S:Nat} {g:Nat->Nat->Nat} {E:List (N3×N3)} {F:List (Sd×Sd)}
theorem LJ{p:Nat->Bool}{s:Nat}(h:p s=true):gO p (s+1)=gO p s:=by
 show(if p s=true then gO p s else s+1)=_;rw[if_pos h]
end
end Wc
namespace Wc
open PySem L2 PyProof.Rows
theorem zY{α:Type}[DecidableEq α]{l ws:List α}(nd:l.Nodup)(h:∀w∈l,w∈ws):l.length<=ws.length:=by
 induction l generalizing ws with
 | nil=>simp
 | cons a r ih=>
  rw[aX] at nd;have ha:a∈ws:=h a (by simp);have:=ih (ws:=ws.erase a) nd.2 fun w hw=>(List.mem_erase_of_ne fun(z:w=a)=>nd.1 (z▸hw)).mpr (h w (by simp[hw]))
  rw[List.length_erase_of_mem ha] at this;have hp:0<ws.length:=List.length_pos_of_mem ha;simp only[aA];omega
section
variable {κ α:Type} [DecidableEq κ] {l:List (κ×α)} {B:List (κ×List α)} {kk:κ->List Key} {dv:α->D}
theorem il.len(G:il l B):B.length<=l.length:=by
 have:=zY G.nd (ws:=l.map (·.1)) fun w hw=>by
  obtain⟨p,hp,rfl⟩:=aK.mp hw;obtain⟨q,hq,e⟩:=G.ex p hp;exact aK.mpr ⟨q,hq,e⟩
 simpa using this
theorem il.sr(G:il l B){p:κ×List α}(hp:p∈B):p.2.length<=l.length:=by
 rw[G.is p hp,af];exact List.length_filter_le _ _
noncomputable def gj(kk:κ->List Key)(dv:α->D)(B:List (κ×List α)):List (List Key×List D):=B.map fun p=>(kk p.1,p.2.map dv)
theorem Dh(inj:∀a b,kk a=kk b->a=b)(x:κ):((gj kk dv B).any fun kv=>decide (kv.1=kk x))=B.any fun p=>decide (p.1=x):=by
 unfold gj;rw[List.any_map];congr 1
 funext p
 simp only[Function.comp_apply];by_cases h:p.1=x
 ·simp[h]
 ·rw[aw h,aw fun z=>h (inj _ _ z)]
theorem zD(inj:∀a b,kk a=kk b->a=b)(G:il l B)(x:κ)(e:α):∃n ds B',(iO (gj kk dv B) (kk x))[n]?=some (kk x,ds)/\(∀j'<n,∀p,(iO (gj kk dv B) (kk x))[j']?=some p->p.1≠kk x)/\
  (iO (gj kk dv B) (kk x)).set n (kk x,ds++[dv e])=gj kk dv B'/\il (l++[(x,e)]) B'/\ds.length<=l.length:=by
 by_cases h:∃p∈B,p.1=x
 ·obtain⟨⟨y,g⟩,hp,rfl⟩:=h;have ha:((gj kk dv B).any fun kv=>decide (kv.1=kk y))=true:=by
   rw[Dh inj];exact List.any_eq_true.mpr ⟨_,hp,by simp⟩
  obtain⟨n,hn⟩:=aW hp;have ht:iO (gj kk dv B) (kk y)=gj kk dv B:=by unfold iO;rw[if_pos ha]
  rw[ht];refine⟨n,g.map dv,B.set n (y,g++[e]),?_,fun j' hj p qB z=>?_,?_,G.more hn,?_⟩
  ·unfold gj;rw[aj,hn];rfl
  ·unfold gj at qB;rw[aj] at qB;obtain⟨q,hq,rfl⟩:=aN.mp qB;have e1:q.1=y:=inj _ _ z;have i1:(B.map (·.1))[j']?=some y:=by rw[aj,hq];simp[e1]
   have i2:(B.map (·.1))[n]?=some y:=by rw[aj,hn];rfl
   have:j'=n:=(List.getElem?_inj (ai.mp i1).1 G.nd).mp (i1.trans i2.symm);omega
  ·unfold gj;rw[List.map_set,aE];rfl
  ·rw[af];exact G.sr hp
 ·have dH:∀p∈B,p.1≠x:=fun p hp z=>h ⟨p,hp,z⟩
  have ha:¬((gj kk dv B).any fun kv=>decide (kv.1=kk x))=true:=by
   rw[Dh inj,List.any_eq_true];rintro⟨p,hp,z⟩;exact dH p hp (by simpa using z)
  have ht:iO (gj kk dv B) (kk x)=gj kk dv B++[(kk x,[])]:=by unfold iO;rw[if_neg ha]
  have hl:(gj kk dv B).length=B.length:=by unfold gj;simp
  rw[ht];refine⟨B.length,[],B++[(x,[e])],by rw[<-hl];simp,fun j' hj p qB z=>?_,?_,G.fresh dH,bc _⟩
  ·rw[List.getElem?_append_left (by omega)] at qB;unfold gj at qB;rw[aj] at qB;obtain⟨q,hq,rfl⟩:=aN.mp qB;exact dH q (av hq) (inj _ _ z)
  ·rw[<-hl,List.set_append_right _ _ (az _),Nat.sub_self];unfold gj;rw[aE];rfl
end
section
variable {κ α:Type} [DecidableEq κ] {F:List (κ×α)} {kk:κ->List Key} {dv:α->D}
noncomputable def eU(F:List (κ×α))(x:κ):Option α:=(F.find? fun p=>decide (p.1=x)).map (·.2)
noncomputable def iD(kk:κ->List Key)(dv:α->D)(F:List (κ×α)):List (List Key×D):=F.map fun p=>(kk p.1,dv p.2)
theorem zC(inj:∀a b,kk a=kk b->a=b)(x:κ):kE (iD kk dv F) (kk x)=(eU F x).map dv:=by
 unfold kE iD eU;induction F with
 | nil=>rfl
 | cons p r ih=>
  rw[ao,List.find?_cons,List.find?_cons];by_cases h:p.1=x
  ·simp[h]
  ·rw[aw h,aw fun z=>h (inj _ _ z)];exact ih
theorem xq(x y:κ)(a:α)(h:eU F x=none):eU (F++[(x,a)]) y=if y=x then some a else eU F y:=by
 unfold eU at h ⊢;rw[List.find?_append];by_cases e:y=x
 ·subst e;rw[Option.map_eq_none_iff] at h;rw[h,if_pos rfl];simp
 ·rw[if_neg e];have:[(x,a)].find? (fun p=>decide (p.1=y))=none:=by simp[Ne.symm e]
  rw[this,Option.or_none]
theorem JW(inj:∀a b,kk a=kk b->a=b)(x:κ)(a:α)(h:eU F x=none):ug (iD kk dv F) (kk x) (dv a)=iD kk dv (F++[(x,a)]):=by
 have hn:¬((iD kk dv F).any fun kv=>decide (kv.1=kk x))=true:=by
  rw[List.any_eq_true];rintro⟨p,hp,z⟩;obtain⟨q,hq,rfl⟩:=aK.mp hp;have z2:q.1=x:=inj _ _ (by simpa using z);unfold eU at h;rw[Option.map_eq_none_iff,List.find?_eq_none] at h;exact h q hq (by simpa using z2)
 unfold ug;rw[if_neg hn];unfold iD;rw[aE];rfl
end
end Wc
namespace Wc
open PySem L2 PyProof.Rows
noncomputable def iS(x y:cI):Bool:=!Ts.dG y x
theorem DG(a b c:cI)(h1:iS a b=true)(h2:iS b c=true):iS a c=true:=by
 unfold iS at *;simp only[Bool.not_eq_true'] at *;cases h:Ts.dG c a with
 | false=>rfl
 | true=>
  by_cases e:a=b
  ·subst e;rw[h2] at h;cases h
  ·rcases Ts.eY.AN _ _ e with z | z
   ·rw[Ts.eY.tr _ _ _ h z] at h2;cases h2
   ·rw[z] at h1;cases h1
theorem Ej(a b:cI):(iS a b||iS b a)=true:=by
 unfold iS;cases h1:Ts.dG b a<;>cases h2:Ts.dG a b<;>simp
 have:=Ts.eY.tr _ _ _ h1 h2;rw[Ts.eY.ir] at this;cases this
theorem Fi(a b:cI)(h1:iS a b=true)(h2:iS b a=true):a=b:=by
 unfold iS at *;simp only[Bool.not_eq_true'] at *;refine Decidable.byContradiction fun e=>?_
 rcases Ts.eY.AN _ _ e with z | z
 ·rw[z] at h2;cases h2
 ·rw[z] at h1;cases h1
noncomputable def sE(g:List cI):List cI:=g.mergeSort iS
theorem xp(g:List cI):(sE g).Perm g:=List.mergeSort_perm _ _
theorem As{α:Type}{le:α->α->Prop}:∀{l m:List α},(∀a∈l,∀b∈l,le a b->le b a->a=b)->l.Perm m->l.Pairwise le->m.Pairwise le->l=m
 | [],m,_,p,_,_=>p.nil_eq
 | a::l,[],_,p,_,_=>absurd p.length_eq (by simp)
 | a::l,b::m,an,p,h1,h2=>by
  have hb:b∈a::l:=p.symm.subset aF;have ha:a∈b::m:=p.subset aF;obtain⟨QK,QJ⟩:=List.pairwise_cons.mp h1;obtain⟨QI,QH⟩:=List.pairwise_cons.mp h2;have e:a=b:=by
   rcases au.mp hb with z | z
   ·exact z.symm
   ·rcases au.mp ha with y | y
    ·exact y
    ·exact an _ aF _ hb (QK _ z) (QI _ y)
  subst e;rw[As (fun x hx y hy=>an x (ar _ hx) y (ar _ hy)) ((List.perm_cons a).mp p) QJ QH]
theorem HG(g:List cI):(sE g).Pairwise (fun x y=>iS x y=true):=List.pairwise_mergeSort DG Ej g
theorem GZ{g s:List cI}(h:s.Perm g)(p:s.Pairwise (fun x y=>Ts.dG y x=false)):s=sE g:=
 As (le:=fun x y=>iS x y=true) (fun a _ b _=>Fi a b) (h.trans (xp g).symm) (p.imp fun h=>by unfold iS;rw[h];rfl) (HG g)
theorem Dg{g:List cI}(h:g≠[]):fi (sE g)∈g:=by
 cases e:sE g with
 | nil=>exact absurd (List.perm_nil.mp ((xp g).symm.trans (List.Perm.of_eq e))) h
 | cons a r=>exact(xp g).subset (by rw[e];exact aF)
noncomputable def sG(gs:List (List cI)):List (List cI):=gs.mergeSort fun x y=>iS (fi x) (fi y)
theorem JV(g:List (List cI)):(sG g).Perm g:=List.mergeSort_perm _ _
theorem HF(g:List (List cI)):(sG g).Pairwise (fun x y=>iS (fi x) (fi y)=true):=List.pairwise_mergeSort (le:=fun x y=>iS (fi x) (fi y)) (fun a b c=>DG (fi a) (fi b) (fi c)) (fun a b=>Ej (fi a) (fi b)) g
theorem GY{gs:List (List cI)}(nd:(gs.map fi).Nodup):∀a∈gs,∀b∈gs,iS (fi a) (fi b)=true->iS (fi b) (fi a)=true->a=b:=fun a ha b hb h1 h2=>by
 have e:=Fi _ _ h1 h2;obtain⟨i,hi⟩:=aW ha;obtain⟨j,hj⟩:=aW hb;have e1:(gs.map fi)[i]?=some (fi a):=by rw[aj,hi];rfl
 have e2:(gs.map fi)[j]?=some (fi a):=by rw[aj,hj,e];rfl
 have:i=j:=(List.getElem?_inj (ai.mp e1).1 nd).mp (e1.trans e2.symm);subst this;rw[hi] at hj;exact aU hj
theorem GX{gs s:List (List cI)}(nd:(gs.map fi).Nodup)(h:s.Perm gs)(p:s.Pairwise (fun x y=>Ts.dG (fi y) (fi x)=false)):s=sG gs:=by
 refine As (le:=fun x y=>iS (fi x) (fi y)=true) (fun a ha b hb=>GY nd a (h.subset ha) b (h.subset hb)) (h.trans (JV gs).symm) (p.imp fun h=>?_) (HF gs);unfold iS;rw[h];rfl
section
variable {κ qR:Type} [DecidableEq κ] [DecidableEq qR] {l:List (κ×cI)} {bF:List (κ×List cI)} {m:List (qR×cI)} {Pa:List (qR×List cI)}
theorem il.ne(G:il l bF){p:κ×List cI}(h:p∈bF):p.2≠[]:=by
 obtain⟨q,hq,e⟩:=G.ex p h;rw[G.is p h];refine List.ne_nil_of_mem (a:=q.2) (aK.mpr ⟨q,List.mem_filter.mpr ⟨hq,by simpa using e⟩,rfl⟩)
theorem il.at(G:il l bF)(nd:(l.map (·.2)).Nodup){p q:κ×List cI}(hp:p∈bF)(hq:q∈bF){e:cI}(h1:e∈p.2)(h2:e∈q.2):p=q:=by
 rw[G.is p hp] at h1;rw[G.is q hq] at h2;obtain⟨x,hx,ex⟩:=aK.mp h1;obtain⟨y,hy,ey⟩:=aK.mp h2;obtain⟨hx,e1⟩:=List.mem_filter.mp hx;obtain⟨hy,e2⟩:=List.mem_filter.mp hy;have:x=y:=by
  obtain⟨i,hi⟩:=aW hx;obtain⟨j,hj⟩:=aW hy;have e3:(l.map (·.2))[i]?=some e:=by rw[aj,hi];simp[ex]
  have e4:(l.map (·.2))[j]?=some e:=by rw[aj,hj];simp[ey]
  have:i=j:=(List.getElem?_inj (ai.mp e3).1 nd).mp (e3.trans e4.symm);subst this;rw[hi] at hj;exact aU hj
 subst this;refine Di G.nd hp hq ?_;have a1:x.1=p.1:=by simpa using e1
 have a2:x.1=q.1:=by simpa using e2
 rw[<-a1,a2]
theorem il.pI(G:il l bF)(nd:(l.map (·.2)).Nodup):((bF.map fun p=>sE p.2).map fi).Nodup:=by
 have h1:bF.Pairwise (·≠·):=by
  have:=G.nd;rw[List.nodup_iff_pairwise_ne,List.pairwise_map] at this;exact this.imp fun h z=>h (by rw[z])
 rw[aD,List.nodup_iff_pairwise_ne,List.pairwise_map];refine h1.imp_of_mem fun{a b} ha hb jv z=>jv (G.at nd ha hb (Dg (G.ne ha)) ?_)
 have z:fi (sE a.2)=fi (sE b.2):=z;rw[z];exact Dg (G.ne hb)
end
end Wc
namespace Wc
open PySem L2 PyProof.Rows
noncomputable def fS(rows:List (List Nat)):D:=.lst (rows.map fun l=>.str (bS l))
noncomputable def e7:List Nat:=[32,45,124,43,35,61,120,46]
noncomputable def ko(S:Str)(c:Nat):Bool:=!(Builtin.Str.occurrences S ⟨#[c]⟩ 0 S.length 1).isEmpty
theorem yL:∀c∈e7,ko "-+#" c=iY c:=by decide +kernel
theorem ui:∀c∈e7,ko "|+#" c=iu c:=by decide +kernel
noncomputable def ic(r p:Nat)(c:Nat):Bool:=decide (c=32)||(decide (r%2=1)&&decide (c=45))||(decide (p%2=1)&&decide (c=124))||(decide (r%2=1)&&decide (p%2=1)&&(decide (c=43)||decide (c=35)))
noncomputable def sU(r p:Nat):Str:=if r%2=1 then(if p%2=1 then " -|+#" else " -") else(if p%2=1 then " |" else " ")
theorem Bh:∀c∈e7,ko " " c=ic 0 0 c:=by decide +kernel
theorem in1:∀c∈e7,ko " -" c=ic 1 0 c:=by decide +kernel
theorem Pf:∀c∈e7,ko " |" c=ic 0 1 c:=by decide +kernel
theorem Pe:∀c∈e7,ko " -|+#" c=ic 1 1 c:=by decide +kernel
theorem Ei(r p c:Nat)(h:c∈e7):ko (sU r p) c=ic r p c:=by
 unfold sU;by_cases h1:r%2=1
 ·by_cases h2:p%2=1
  ·rw[if_pos h1,if_pos h2,Pe c h];simp[ic,h1,h2]
  ·rw[if_pos h1,if_neg h2,in1 c h];simp[ic,h1,h2]
 ·by_cases h2:p%2=1
  ·rw[if_neg h1,if_pos h2,Pf c h];simp[ic,h1,h2]
  ·rw[if_neg h1,if_neg h2,Bh c h];simp[ic,h1,h2]
structure RB (rows:List (List Nat)):Prop where
 len:rows.length<=100
 eG:∀l∈rows,l.length<=100
 e7:∀l∈rows,∀c∈l,c∈Wc.e7
noncomputable def wd(rows:List (List Nat)):Nat:=(rows.headD []).length
noncomputable def iT(rows:List (List Nat)):Bool:=decide (rows.length%2=1)&&decide (wd rows%2=1)&&decide (3<=wd rows)&&rows.all fun l=>decide (l.length=wd rows)
noncomputable def pd(rows:List (List Nat)):Bool:=rows.zipIdx.all fun p=>p.1.zipIdx.all fun q=>ic p.2 q.2 q.1
theorem Fh(l:List Bool):jK (l.map D.bl)=some l:=by
 induction l with
 | nil=>rfl
 | cons a r ih=>simp[jK,ih]
theorem uD{α:Type}(L:List α)(f:α->Bool){Q:R->Prop}(q:Q (.fz (.bl (L.all f)))):pR [R.val (.ow (L.map fun a=>D.bl (f a)))] Q:=by
 show match jK _ with | some bs=>Q (.fz (.bl (bs.all id))) | none=>False
 have e:(L.map fun a=>D.bl (f a))=(L.map f).map D.bl:=by simp
 rw[e,Fh];simpa[List.all_map] using q
end Wc
namespace Wc
open PySem L2 PyProof.Rows
end Wc
open PySem L2 PyProof.Rows Wc
local macro_rules | `(tactic| walk_at "px")=>`(tactic| (repeat(first | walk_at "b" | simp only[pV,fW])))
namespace Wc
open PySem L2 PyProof.Rows
theorem CK{rows:List (List Nat)}(h:rows≠[]):dz rows 0=some (rows.headD []):=by
 cases rows with
 | nil=>exact absurd rfl h
 | cons a r=>simp[LK]
theorem Eh{rows:List (List Nat)}(h:rows≠[]):rows.headD []∈rows:=by
 cases rows with
 | nil=>exact absurd rfl h
 | cons a r=>simp
def uT:eX:=fun ds Q=>∃rows,ds=[fS rows]/\rows≠[]/\RB rows/\Q (.fz (.bl (iT rows)))
def Aq:TX:=(cp (eI 1 (gS jM (bK (bJ fq (bH 0) (dC (.int 0))) bU)))
 (cp (eI 2 (qV (bJ oEq (bJ (oI (fun _ j=>0<j) fun i j=>.int (i%j)) (gS jM (bK (bH 0) bU)) (dC (.int 2))) (dC (.int 1))) (bJ oEq (bJ (oI (fun _ j=>0<j) fun i j=>.int (i%j)) (bH 1) (dC (.int 2))) (dC (.int 1)))))
 (eF (qV (bH 2) (qV (bJ (ie fun i j=>.bl (decide (j<=i))) (bH 1) (dC (.int 3))) (gS pR (bK (jn (lb (bH 0)) [none,some 1] (dZ 0) ji (bJ oEq (gS jM (bK (bH 0) bU)) (bH 1))) bU)))))))
theorem NO(ds:List D)(Qr:R->Prop)(hl:ds.length=1)(h:uT ds Qr):Aq { nx:=fun _=>Qr (.fz .non),rt:=Qr } (gm ["rows","length","is_odd"] ds):=by
 obtain⟨rows,rfl,dH,b,q⟩:=h;show Aq _ [.fz (fS rows),.un,.un];unfold Aq fS;have big:=iV;have b1:=b.len;have e0:=CK dH;have hw:(rows.headD []).length=wd rows:=rfl;have b2:=b.eG _ (Eh dH);walk_at "px";refine⟨_,e0,by omega,?_⟩;rw[hw];walk_at "go";generalize hW:wd rows=W at *;have q':Qr (.fz (.bl (decide (rows.length%2=1)&&decide (W%2=1)&&decide (3<=W)&&rows.all fun l=>decide (l.length=W)))):=by rw[<-hW];exact q
 rw[af];have c1:((rows.length:Int)%2=1)↔rows.length%2=1:=by omega
 have c2:((W:Int)%2=1)↔W%2=1:=by omega
 have c3:((3:Int)<=(W:Int))↔3<=W:=by omega
 simp only[c1,c2];by_cases h1:rows.length%2=1
 ·rw[if_pos h1];by_cases h2:W%2=1
  ·simp only[h1,h2,decide_true,Bool.true_and] at q' ⊢;walk_at "go";by_cases h3:3<=W
   ·simp only[h3,decide_true,Bool.true_and] at q';simp only[c3,h3,decide_true,bC];refine mV rows (fun l=>.str (bS l)) (fun l=>.bl (decide (l.length=W))) (fun Q' h=>?_) (by omega) (fun l hm K1 k1=>?_) (uD rows _ q')
    ·walk_at "px";exact h
    ·have:=b.eG l hm;walk_at "px";simp only[show((l.length:Int)=(W:Int))↔l.length=W by omega];exact⟨by omega,k1⟩
   ·simp only[h3,decide_false,Bool.false_and] at q';simp only[c3,h3,decide_false,aV,br];exact q'
  ·simp only[h1,h2,decide_true,decide_false,Bool.true_and,Bool.false_and] at q' ⊢;walk_at "go";exact q'
 ·rw[if_neg h1];simp only[h1,decide_false,Bool.false_and] at q';walk_at "go";exact q'
def u3:eX:=fun ds Q=>∃r p:Nat,ds=[.int r,.int p]/\Q (.fz (.str (sU r p)))
def zW:TX:=(cp (eI 2 (dC (.str " ")))
 (cp (fh (dh (bJ oEq (bJ (oI (fun _ j=>0<j) fun i j=>.int (i%j)) (bH 0) (dC (.int 2))) (dC (.int 1)))) (eI 2 (bJ dX (bH 2) (dC (.str "-")))) fw)
 (cp (fh (dh (bJ oEq (bJ (oI (fun _ j=>0<j) fun i j=>.int (i%j)) (bH 1) (dC (.int 2))) (dC (.int 1)))) (eI 2 (bJ dX (bH 2) (dC (.str "|")))) fw)
 (cp (fh (kC (dh (bJ oEq (bJ (oI (fun _ j=>0<j) fun i j=>.int (i%j)) (bH 0) (dC (.int 2))) (dC (.int 1)))) (dh (bJ oEq (bJ (oI (fun _ j=>0<j) fun i j=>.int (i%j)) (bH 1) (dC (.int 2))) (dC (.int 1))))) (eI 2 (bJ dX (bH 2) (dC (.str "+#")))) fw)
 (eF (bH 2))))))
theorem Nt(ds:List D)(Qr:R->Prop)(hl:ds.length=2)(h:u3 ds Qr):zW { nx:=fun _=>Qr (.fz .non),rt:=Qr } (gm ["row","place","signs"] ds):=by
 obtain⟨r,p,rfl,q⟩:=h;show zW _ [.fz (.int r),.fz (.int p),.un];unfold zW;have s1:(" ":Str)++"-"=" -":=by decide +kernel
 have s2:(" ":Str)++"|"=" |":=by decide +kernel
 have s3:(" -":Str)++"|"=" -|":=by decide +kernel
 have s4:(" -|":Str)++"+#"=" -|+#":=by decide +kernel
 unfold sU at q;by_cases h1:r%2=1
 ·have e1:((r:Int)%2=1)=True:=eq_true (by omega);rw[if_pos h1] at q;by_cases h2:p%2=1
  ·have e2:((p:Int)%2=1)=True:=eq_true (by omega);rw[if_pos h2] at q;walk_at "px";walk_at "go";simp only[e1,bC,s1];walk_at "go";simp only[e2,bC,s3];walk_at "go";simp only[e1,e2,bC,s4];walk_at "go";exact⟨by decide +kernel,by decide +kernel,by decide +kernel,q⟩
  ·have e2:((p:Int)%2=1)=False:=eq_false (by omega);rw[if_neg h2] at q;walk_at "px";walk_at "go";simp only[e1,bC,s1];walk_at "go";simp only[e2,br];walk_at "go";simp only[e1,e2,bC,br];walk_at "go";exact⟨by decide +kernel,q⟩
 ·have e1:((r:Int)%2=1)=False:=eq_false (by omega);rw[if_neg h1] at q;by_cases h2:p%2=1
  ·have e2:((p:Int)%2=1)=True:=eq_true (by omega);rw[if_pos h2] at q;walk_at "px";walk_at "go";simp only[e1,br];walk_at "go";simp only[e2,bC,s2];walk_at "go";simp only[e1,br];walk_at "go";exact⟨by decide +kernel,q⟩
  ·have e2:((p:Int)%2=1)=False:=eq_false (by omega);rw[if_neg h2] at q;walk_at "px";walk_at "go";simp only[e1,br];walk_at "go";simp only[e2,br];walk_at "go";simp only[e1,br];walk_at "go";exact q
theorem rA{α:Type}(f:α->D)(l:List α):oD (l.map f)=l.zipIdx.map fun p=>.tup [.int (p.2:Nat),f p.1]:=by
 unfold oD;apply List.ext_getElem?;intro i;simp only[List.getElem?_mapIdx,aj,List.getElem?_zipIdx];cases l[i]?<;>simp
theorem mem_zipIdx{α:Type}{l:List α}{a:α}{i:Nat}(h:(a,i)∈l.zipIdx):a∈l:=(List.mem_zipIdx h).2.2▸aQ _
def uX:eX:=fun ds Q=>∃rows,ds=[fS rows]/\RB rows/\Q (.fz (.bl (pd rows)))
def Al:TX:=(cp (jj (sQ (bK (bH 0) bU)) (kc 2 (gn (dZ 1) (gn (dZ 2) jk))) (fh (mM (dh (gS pR (bK (jn (pV (bK (bH 2) bU)) [none,none,some 1] (kc 2 (gn (dZ 0) (gn (dZ 1) jk))) ji (bJ (mP false) (bH 1) (fm 2 u3 (bK (bH 2) (bK (bH 0) bU))))) bU)))) (eF (dC (.bl false))) fw))
 (eF (dC (.bl true))))
theorem Oh(ds:List D)(Qr:R->Prop)(hl:ds.length=1)(h:uX ds Qr):Al { nx:=fun _=>Qr (.fz .non),rt:=Qr } (gm ["rows","number","row"] ds):=by
 obtain⟨rows,rfl,b,q⟩:=h;show Al _ [.fz (fS rows),.un,.un];unfold Al fS;have big:=iV;walk_at "px";refine oO rows.zipIdx (fun p=>.tup [.int (p.2:Nat),.str (bS p.1)]) (fun Q' h=>?_) (fun i ρ=>((rows.zipIdx.take i).all fun p=>p.1.zipIdx.all fun q=>ic p.2 q.2 q.1)=true/\∃a c:Sl,ρ=[.fz (.lst (rows.map fun l=>D.str (bS l))),a,c]) ⟨rfl,_,_,rfl⟩ ?_ ?_
 ·walk_at "px";rw[rA];exact h
 ·rintro i ⟨l,r⟩ ρ hi ⟨dF,a,c,rfl⟩;have hm:l∈rows:=mem_zipIdx (av hi);have hw:=b.eG l hm;walk_at "px";refine mV l.zipIdx (fun p=>.tup [.int (p.2:Nat),.str ⟨#[p.1]⟩]) (fun p=>.bl (ic r p.2 p.1)) (fun Q' h=>?_) (by rw[List.length_zipIdx];omega) (fun p hp K1 k1=>?_) (uD _ _ ?_)
  ·walk_at "px";rw[kl,rA];exact h
  ·obtain⟨cc,pp⟩:=p;walk_at "px";refine⟨r,pp,rfl,?_⟩;show K1 (.bl (ko (sU r pp) cc));rw[Ei r pp cc (b.e7 l hm cc (mem_zipIdx hp))];exact k1
  ·have tk:((rows.zipIdx.take (i+1)).all fun p=>p.1.zipIdx.all fun q=>ic p.2 q.2 q.1)=(l.zipIdx.all fun q=>ic r q.2 q.1):=by
    rw[List.take_add_one,hi,List.all_append,dF];simp
   cases hb:l.zipIdx.all fun q=>ic r q.2 q.1 with
   | true=>
    dsimp only;rw[if_neg (by simp)];exact⟨by rw[tk];exact hb,_,_,rfl⟩
   | false=>
    dsimp only;rw[if_pos (by simp)];have:pd rows=false:=by
     unfold pd;rw[List.all_eq_false];exact⟨(l,r),av hi,by simp only[hb];exact ax⟩
    rw[this] at q;exact q
 ·rintro ρ ⟨dF,a,c,rfl⟩;walk_at "go";rw[List.take_length] at dF;rw[show pd rows=true from dF] at q;exact q
end Wc
namespace Wc
open PySem L2 PyProof.Rows
end Wc
open PySem L2 PyProof.Rows Wc
local macro_rules | `(tactic| walk_at "px")=>`(tactic| (repeat(first | walk_at "b" | simp only[pV,fW,yH,wM])))
namespace Wc
open PySem L2 PyProof.Rows
structure Mk (mk:Str) (m:Nat) (p:Nat->Bool):Prop where
 is:mk=bS [m]
 lL:∀c∈e7,ko (mk++"+#") c=p c
theorem CW:Mk "-" 45 iY:=⟨by decide +kernel,fun c h=>by rw[show("-":Str)++"+#"="-+#" by decide +kernel];exact yL c h⟩
theorem CV:Mk "|" 124 iu:=⟨by decide +kernel,fun c h=>by rw[show("|":Str)++"+#"="|+#" by decide +kernel];exact ui c h⟩
noncomputable def kg(l:List Nat)(k:Nat):List Nat:=(l.drop (k-1)).take (k+2-(k-1))
noncomputable def kG(m:Nat)(p:Nat->Bool)(l:List Nat):Bool:=(List.range ((l.length+1)/2)).all fun j=>!decide (l[2*j]?=some m)||(kg l (2*j)).all p
def tq:eX:=fun ds Q=>∃(l:List Nat) (mk:Str) (m:Nat) (p:Nat->Bool),ds=[.str (bS l),.str mk]/\Mk mk m p/\l.length<=100/\(∀c∈l,c∈e7)/\Q (.fz (.bl (kG m p l)))
def zV:TX:=(cp (jj (yH (bK (dC (.int 0)) (bK (gS jM (bK (bH 0) bU)) (bK (dC (.int 2)) bU)))) (dZ 2) (cp (eI 3 (lT (bH 0) (ke (gS wM (bK (bJ (ie fun i j=>.int (i-j)) (bH 2) (dC (.int 1))) (bK (dC (.int 0)) bU)))) (ke (bJ dX (bH 2) (dC (.int 2))))))
 (fh (kC (dh (bJ oEq (bJ fq (bH 0) (bH 2)) (bH 1))) (mM (dh (gS pR (bK (jn (lb (bH 3)) [none,some 1] (dZ 0) ji (bJ (mP false) (bH 0) (bJ dX (bH 1) (dC (.str "+#"))))) bU))))) (eF (dC (.bl false))) fw)))
 (eF (dC (.bl true))))
theorem Nr(ds:List D)(Qr:R->Prop)(hl:ds.length=2)(h:tq ds Qr):zV { nx:=fun _=>Qr (.fz .non),rt:=Qr } (gm ["line","mark","place","around"] ds):=by
 obtain⟨l,mk,m,p,rfl,M,yc,hs,q⟩:=h;show zV _ [.fz (.str (bS l)),.fz (.str mk),.un,.un];unfold zV;have big:=iV;walk_at "px";refine oO (List.range ((l.length+1)/2)) (fun j=>.int (0+(j:Nat)*2)) (fun Q' h=>?_) (fun i ρ=>(((List.range ((l.length+1)/2)).take i).all fun j=>!decide (l[2*j]?=some m)||(kg l (2*j)).all p)=true/\∃a c:Sl,ρ=[.fz (.str (bS l)),.fz (.str mk),a,c]) ⟨rfl,_,_,rfl⟩ ?_ ?_
 ·walk_at "px";rw[show(((l.length:Int)-0+1)/2).toNat=(l.length+1)/2 by omega];exact⟨by omega,by omega,h⟩
 ·rintro i j ρ hi ⟨dF,a,c,rfl⟩;have hj:j<(l.length+1)/2:=by simpa using av hi
  have ye:2*j<l.length:=by omega
  have BX:lh (bS l) (some (if (0:Int)>0+(j:Int)*2-1 then 0 else 0+(j:Int)*2-1)) (some (0+(j:Int)*2+2))=bS (kg l (2*j)):=by
   rw[show(if (0:Int)>0+(j:Int)*2-1 then(0:Int) else 0+(j:Int)*2-1)=((2*j-1:Nat):Int) by split<;>omega,show(0:Int)+(j:Int)*2+2=((2*j+2:Nat):Int) by omega,Le l (by omega) (by omega)];rfl
  have Qv:∀c∈kg l (2*j),c∈l:=fun c hc=>List.mem_of_mem_drop (List.mem_of_mem_take hc)
  have yi:(kg l (2*j)).length<=100:=by unfold kg;rw[bj,List.length_drop];omega
  have tk:(((List.range ((l.length+1)/2)).take (i+1)).all fun j=>!decide (l[2*j]?=some m)||(kg l (2*j)).all p)=(!decide (l[2*j]?=some m)||(kg l (2*j)).all p):=by
   rw[List.take_add_one,hi,List.all_append,dF];simp
  have bad:(!decide (l[2*j]?=some m)||(kg l (2*j)).all p)=false->kG m p l=false:=fun h=>by
   unfold kG;rw[List.all_eq_false];exact⟨j,av hi,by rw[h];exact ax⟩
  have oQ:dz l (0+(j:Int)*2)=some l[2*j]:=by rw[show(0:Int)+(j:Int)*2=((2*j:Nat):Int) by omega];exact oH ye
  walk_at "px";refine⟨by omega,?_⟩;rw[BX,M.is];walk_at "go";rw[kl];refine⟨by omega,_,oQ,?_⟩;rw[ae ye] at tk bad;simp only[vz,uF,List.cons.injEq,and_true,aH] at tk bad ⊢;by_cases hm:l[2*j]=m
  ·simp only[hm,decide_true,Bool.not_true,Bool.false_or,bC] at tk bad ⊢;refine mV (kg l (2*j)) (fun c=>.str ⟨#[c]⟩) (fun c=>.bl (p c)) (fun Q' h=>?_) (by omega) (fun c hc K1 k1=>?_) (uD _ _ ?_)
   ·walk_at "px";rw[kl];exact h
   ·walk_at "px";refine⟨by rw[big];decide +kernel,?_⟩;have:=M.lL c (hs c (Qv c hc));rw[M.is] at this;unfold ko at this;rw[this];exact k1
   ·cases hb:(kg l (2*j)).all p with
    | true=>
     dsimp only;rw[if_neg (by simp)];exact⟨tk.trans hb,_,_,trivial,trivial,rfl,rfl⟩
    | false=>
     dsimp only;rw[if_pos (by simp)];rw[bad hb] at q;exact q
  ·simp only[hm,decide_false,Bool.not_false,Bool.true_or,aV,br] at tk ⊢;exact⟨tk,_,_,trivial,trivial,rfl,rfl⟩
 ·rintro ρ ⟨dF,a,c,rfl⟩;walk_at "go";rw[List.take_length] at dF;rw[show kG m p l=true from dF] at q;exact q
noncomputable def ft(rows:List (List Nat))(k:Nat):List Nat:=rows.map fun l=>l.getD k 0
noncomputable def gP(rows:List (List Nat)):List (List Nat):=(List.range (wd rows)).map (ft rows)
structure qM (rows:List (List Nat)):Prop where
 b:RB rows
 ne:rows≠[]
 w:∀l∈rows,l.length=wd rows
theorem qM.AJ{rows:List (List Nat)}(h:qM rows):wd rows<=100:=h.b.eG _ (Eh h.ne)
theorem Fg(z:Array Nat):∀(l:List Str) (a:Array Nat),(l.foldl (fun acc p=>acc++z++p.cps) a).toList=a.toList++(l.map fun p=>z.toList++p.cps.toList).flatten
 | [],a=>by simp
 | x::l,a=>by
  rw[List.foldl_cons,Fg z l];simp
theorem zJ(x:Str)(a:Str)(l:List Str):(Txt.join x (a::l)).cps.toList=a.cps.toList++(l.map fun p=>x.cps.toList++p.cps.toList).flatten:=by
 unfold Txt.join Builtin.Str.glued;exact Fg _ l a.cps
theorem yT{a:Str}{l:List Nat}(h:a.cps.toList=l):a=bS l:=by rw[<-h,yV]
theorem Fm(L:List Nat):Txt.join "" (L.map fun c=>(⟨#[c]⟩:Str))=bS L:=by
 refine yT ?_;cases L with
 | nil=>rfl
 | cons a L=>
  rw[ao,zJ];show [a]++_=_;rw[aD];have:∀L:List Nat,(L.map ((fun p:Str=>(("":Str).cps.toList++p.cps.toList))∘fun c=>(⟨#[c]⟩:Str))).flatten=L:=fun L=>by
   induction L with
   | nil=>rfl
   | cons b r ih=>rw[ao,List.flatten_cons,ih];rfl
  rw[this];rfl
def uW:eX:=fun ds Q=>∃(rows:List (List Nat)) (k:Nat),ds=[fS rows,.int k]/\qM rows/\k<wd rows/\Q (.fz (.str (bS (ft rows k))))
def Ak:TX:=(eF (dM "str" oB (dC (.str "")) (bK (jn (lb (bH 0)) [none,some 1] (dZ 0) ji (bJ fq (bH 0) (bH 1))) bU)))
theorem Og(ds:List D)(Qr:R->Prop)(hl:ds.length=2)(h:uW ds Qr):Ak { nx:=fun _=>Qr (.fz .non),rt:=Qr } (gm ["rows","place"] ds):=by
 obtain⟨rows,k,rfl,b,hk,q⟩:=h;show Ak _ [.fz (fS rows),.fz (.int k)];unfold Ak fS;have big:=iV;have b1:=b.b.len;walk_at "px";refine⟨rfl,?_⟩;refine mV rows (fun l=>.str (bS l)) (fun l=>.str ⟨#[l.getD k 0]⟩) (fun Q' h=>?_) (by omega) (fun l hm K1 k1=>?_) ?_
 ·walk_at "px";exact h
 ·have hw:=b.b.eG l hm;have Gh:k<l.length:=by rw[b.w l hm];exact hk
  walk_at "px";rw[kl];refine⟨by omega,_,oH Gh,?_⟩;rw[ag,ae Gh] at k1;exact k1
 ·have e:(rows.map fun l=>D.str ⟨#[l.getD k 0]⟩)=((ft rows k).map fun c=>(⟨#[c]⟩:Str)).map D.str:=by unfold ft;simp
  rw[e];simp only[oB,zg,uZ];rw[Fm];refine⟨?_,q⟩;have e1:∀L:List Nat,((L.map fun c=>(⟨#[c]⟩:Str)).map fun x=>x.length).sum=L.length:=fun L=>by
   induction L with
   | nil=>rfl
   | cons a r ih=>rw[ao,ao,List.sum_cons,ih,aA];show 1+r.length=_;omega
  rw[e1,af,show(Str.ofString "").length=0 by decide +kernel];unfold ft;rw[af];omega
def rq:eX:=fun ds Q=>∃(rows:List (List Nat)),ds=[fS rows]/\qM rows/\Q (.ow ((gP rows).map fun l=>.str (bS l)))
def zI:TX:=(eF (jn (oC (bK (gS jM (bK (bJ fq (bH 0) (dC (.int 0))) bU)) bU)) [none,some 0] (dZ 0) ji (fm 2 uW (bK (bH 1) (bK (bH 0) bU)))))
theorem Ni(ds:List D)(Qr:R->Prop)(hl:ds.length=1)(h:rq ds Qr):zI { nx:=fun _=>Qr (.fz .non),rt:=Qr } (gm ["rows"] ds):=by
 obtain⟨rows,rfl,b,q⟩:=h;show zI _ [.fz (fS rows)];unfold zI fS;have big:=iV;have b1:=b.AJ;walk_at "px";refine mV (List.range (wd rows)) (fun k=>.int (0+(k:Nat))) (fun k=>.str (bS (ft rows k))) (fun Q' h=>?_) (by rw[List.length_range];omega) (fun k hk K1 k1=>?_) ?_
 ·walk_at "px";refine⟨_,CK b.ne,?_⟩;rw[show(rows.headD []).length=wd rows from rfl,bh];exact⟨by omega,by omega,by omega,h⟩
 ·have:=List.mem_range.mp hk;walk_at "px";exact⟨rows,k,by simp[fS],b,this,k1⟩
 ·unfold gP at q;rw[aD] at q;exact q
theorem DR{rows:List (List Nat)}(b:qM rows):RB (gP rows):=by
 have h1:=b.AJ;have h2:=b.b.len;refine⟨by unfold gP;rw[af,List.length_range];exact h1,fun l hl=>?_,fun l hl c hc=>?_⟩
 ·obtain⟨k,_,rfl⟩:=aK.mp hl;unfold ft;rw[af];exact h2
 ·obtain⟨k,hk,rfl⟩:=aK.mp hl;obtain⟨r,hr,rfl⟩:=aK.mp hc;have nZ:k<r.length:=by rw[b.w r hr];exact List.mem_range.mp hk
  rw[ag,ae nZ];exact b.b.e7 r hr _ (aQ nZ)
theorem JU{rows:List (List Nat)}(b:RB rows)(dH:rows≠[])(h:iT rows=true):qM rows:=by
 refine⟨b,dH,fun l hl=>?_⟩;unfold iT at h;simp only[aO,aP] at h;simpa using h.2 l hl
noncomputable def cZ(rows:List (List Nat)):Bool:=iT rows&&pd rows&&rows.all (kG 45 iY)&&(gP rows).all (kG 124 iu)
def tE:eX:=fun ds Q=>∃rows,ds=[fS rows]/\rows≠[]/\RB rows/\Q (.fz (.bl (cZ rows)))
def Aj:TX:=(cp (fh (tX (mM (dh (fm 1 uT (bK (bH 0) bU)))) (mM (dh (fm 1 uX (bK (bH 0) bU))))) (eF (dC (.bl false))) fw)
 (cp (eI 1 (gS pR (bK (jn (lb (bH 0)) [none] (dZ 0) ji (fm 2 tq (bK (bH 0) (bK (dC (.str "-")) bU)))) bU)))
 (eF (qV (bH 1) (gS pR (bK (jn (lb (fm 1 rq (bK (bH 0) bU))) [none] (dZ 0) ji (fm 2 tq (bK (bH 0) (bK (dC (.str "|")) bU)))) bU))))))
theorem Of(ds:List D)(Qr:R->Prop)(hl:ds.length=1)(h:tE ds Qr):Aj { nx:=fun _=>Qr (.fz .non),rt:=Qr } (gm ["rows","stretches_hold"] ds):=by
 obtain⟨rows,rfl,dH,b,q⟩:=h;show Aj _ [.fz (fS rows),.un];unfold Aj;have big:=iV;have b1:=b.len;unfold cZ at q;walk_at "px";refine⟨rows,rfl,dH,b,?_⟩;cases h1:iT rows with
 | false=>
  rw[h1] at q;walk_at "px";exact q
 | true=>
  have bw:=JU b dH h1;rw[h1] at q;walk_at "px";refine⟨rows,rfl,b,?_⟩;cases h2:pd rows with
  | false=>
   rw[h2] at q;walk_at "px";exact q
  | true=>
   rw[h2] at q;walk_at "px";walk_at "go";refine mV rows (fun l=>.str (bS l)) (fun l=>.bl (kG 45 iY l)) (fun Q' h=>?_) (by omega) (fun l hm K1 k1=>?_) (uD _ _ ?_)
   ·unfold fS;walk_at "px";exact h
   ·walk_at "px";exact⟨l,_,45,iY,rfl,CW,b.eG l hm,b.e7 l hm,k1⟩
   ·have cb:=DR bw;have c1:=cb.len;walk_at "go";cases h3:rows.all (kG 45 iY) with
    | false=>
     rw[if_neg ax];rw[h3] at q;exact q
    | true=>
     rw[if_pos rfl];rw[h3] at q;simp only[Bool.true_and] at q;refine mV (gP rows) (fun l=>.str (bS l)) (fun l=>.bl (kG 124 iu l)) (fun Q' h=>?_) (by omega) (fun l hm K1 k1=>?_) (uD _ _ q)
     ·walk_at "px";exact⟨rows,rfl,bw,h⟩
     ·walk_at "px";exact⟨l,_,124,iu,rfl,CV,cb.eG l hm,cb.e7 l hm,k1⟩
end Wc
namespace Wc
open PySem L2 PyProof.Rows
end Wc
open PySem L2 PyProof.Rows Wc
local macro_rules | `(tactic| walk_at "px")=>`(tactic| (repeat(first | walk_at "b" | simp only[pV,fW])))
namespace Wc
open PySem L2 PyProof.Rows
noncomputable def jt(b:Bool):Str:=if b then "|" else "-"
noncomputable def mO(b:Bool):Nat:=if b then 124 else 45
noncomputable def pO(b:Bool):Nat->Bool:=if b then iu else iY
theorem CJ(b:Bool):Mk (jt b) (mO b) (pO b):=by
 cases b
 ·exact CW
 ·exact CV
theorem GS(b:Bool):pO b (mO b)=true:=by cases b<;>decide
noncomputable def eo(s:Sd):D:=.tup [.str (jt s.1),.int s.2.1,.int s.2.2]
noncomputable def nj:Option Sd->D
 | none=>.non
 | some s=>eo s
noncomputable def gr(b:Bool)(l:List Nat):Nat->Bool:=fun i=>pO b (l.getD i 0)
noncomputable def jP(b:Bool)(n:Nat)(l:List Nat)(k:Nat):Option Sd:=if gr b l k=true then some (b,n,gO (gr b l) k) else none
noncomputable def h8(b:Bool)(n:Nat)(l:List Nat):List (Option Sd):=(List.range l.length).map (jP b n l)
def u7:eX:=fun ds Q=>∃(n:Nat) (l:List Nat) (b:Bool),ds=[.int n,.str (bS l),.str (jt b)]/\l.length<=100/\(∀c∈l,c∈e7)/\Q (.ow ((h8 b n l).map nj))
def AD:TX:=(cp (l6 3 (jG bU))
 (cp (eI 4 (dC .non))
 (cp (jj (pV (bK (bH 1) bU)) (kc 2 (gn (dZ 5) (gn (dZ 6) jk))) (cp (fh (dh (bJ (mP true) (bH 6) (bJ dX (bH 2) (dC (.str "+#"))))) (eI 4 (dC .non)) (fh (dh (bJ (ue false) (bH 4) (dC .non))) (eI 4 (jH (bK (bH 2) (bK (bH 0) (bK (bH 5) bU))))) fw))
 (sN 3 (bH 4))))
 (sR 3))))
theorem Od(ds:List D)(Qr:R->Prop)(hl:ds.length=3)(h:u7 ds Qr):AD { nx:=fun _=>Qr (.fz .non),rt:=Qr } (gm ["number","line","mark","strands","strand","place","sign"] ds):=by
 obtain⟨n,l,b,rfl,yc,hs,q⟩:=h;show AD _ [.fz (.int n),.fz (.str (bS l)),.fz (.str (jt b)),.un,.un,.un,.un];unfold AD;have big:=iV;have M:=CJ b;walk_at "px";walk_at "go";refine⟨bc _,?_⟩;walk_at "go";refine oO l.zipIdx (fun p=>.tup [.int (p.2:Nat),.str ⟨#[p.1]⟩]) (fun Q' h=>?_) (fun i ρ=>∃a c:Sl,ρ=[.fz (.int n),.fz (.str (bS l)),.fz (.str (jt b)),.ow (((List.range i).map (jP b n l)).map nj),.fz (nj (if i=0 then none else jP b n l (i-1))),a,c]) ⟨_,_,rfl⟩ ?_ ?_
 ·walk_at "px";rw[kl,rA];exact h
 ·rintro i ⟨cc,pp⟩ ρ hi ⟨a,c,rfl⟩;rw[List.getElem?_zipIdx] at hi;obtain⟨c0,sk,e0⟩:=aN.mp hi;simp only[Prod.mk.injEq] at e0;obtain⟨rfl,rfl⟩:=e0;have tO:i<l.length:=(ai.mp sk).1;have Qs:c0∈l:=av sk;have PU:gr b l i=pO b c0:=by unfold gr;rw[ag,sk];rfl
  rw[Nat.zero_add];have ky:=M.lL c0 (hs c0 Qs);unfold ko at ky;have P4:(jt b).length+(Str.ofString "+#").length<=sizeLine:=by rw[big];cases b<;>decide +kernel
  have rs:(List.range (i+1)).map (jP b n l)=(List.range i).map (jP b n l)++[jP b n l i]:=by rw[List.range_succ,aE];rfl
  have A9:(if i+1=0 then none else jP b n l (i+1-1))=jP b n l i:=by rw[if_neg (by omega),Nat.add_sub_cancel]
  walk_at "px";refine⟨P4,?_⟩;rw[ky,<-PU];cases hp:gr b l i with
  | false=>
   have e1:jP b n l i=none:=by unfold jP;rw[hp];rfl
   rw[if_pos (by simp)];walk_at "go";rw[rs,A9,e1];exact⟨by simp;omega,.fz (.int i),.fz (.str ⟨#[c0]⟩),by rw[aE];rfl⟩
  | true=>
   rw[if_neg (by simp)];have e1:jP b n l i=some (b,n,gO (gr b l) i):=by unfold jP;rw[hp];rfl
   cases gd:(if i=0 then none else jP b n l (i-1)) with
   | none=>
    have e2:gO (gr b l) i=i:=by
     cases i with
     | zero=>rfl
     | succ j=>
      rw[if_neg (by omega),Nat.add_sub_cancel] at gd;unfold jP at gd;split at gd
      ·cases gd
      ·rename_i hj;unfold gO;rw[if_neg hj]
    rw[e2] at e1;refine(if_pos rfl:ite _ _ _=_).mpr ?_;refine⟨by omega,?_⟩;walk_at "go";rw[rs,A9,e1];exact⟨by simp;omega,.fz (.int i),.fz (.str ⟨#[c0]⟩),by rw[aE];rfl⟩
   | some z=>
    have e2:jP b n l i=some z:=by
     cases i with
     | zero=>cases gd
     | succ j=>
      rw[if_neg (by omega),Nat.add_sub_cancel] at gd;rw[e1];unfold jP at gd;split at gd
      ·rename_i hj;rw[LJ hj];exact gd
      ·cases gd
    refine(if_neg (by simp[nj,eo]):ite _ _ _=_).mpr ?_;walk_at "go";rw[rs,A9,e2];exact⟨by simp;omega,.fz (.int i),.fz (.str ⟨#[c0]⟩),by rw[aE];rfl⟩
 ·rintro ρ ⟨a,c,rfl⟩;walk_at "go";rw[List.length_zipIdx];exact q
noncomputable def zH(b:Bool)(ls:List (List Nat)):List (List (Option Sd)):=ls.zipIdx.map fun q=>h8 b q.2 q.1
noncomputable def l4(b:Bool)(ls:List (List Nat)):List D:=(zH b ls).map fun l=>.lst (l.map nj)
def rD:eX:=fun ds Q=>∃(ls:List (List Nat)) (b:Bool),ds=[fS ls,.str (jt b)]/\RB ls/\Q (.ow (l4 b ls))
def Ai:TX:=(eF (jn (sQ (bK (bH 0) bU)) [none,none,some 1] (kc 2 (gn (dZ 0) (gn (dZ 1) jk))) ji (fm 3 u7 (bK (bH 0) (bK (bH 1) (bK (bH 2) bU))))))
theorem Oe(ds:List D)(Qr:R->Prop)(hl:ds.length=2)(h:rD ds Qr):Ai { nx:=fun _=>Qr (.fz .non),rt:=Qr } (gm ["lines","mark"] ds):=by
 obtain⟨ls,b,rfl,rb,q⟩:=h;show Ai _ [.fz (fS ls),.fz (.str (jt b))];unfold Ai;have big:=iV;have b1:=rb.len;walk_at "px";refine mV ls.zipIdx (fun p=>.tup [.int (p.2:Nat),.str (bS p.1)]) (fun p=>.lst ((h8 b p.2 p.1).map nj)) (fun Q' h=>?_) (by rw[List.length_zipIdx];omega) (fun p hp K1 k1=>?_) ?_
 ·unfold fS;walk_at "px";rw[rA];exact h
 ·obtain⟨l,n⟩:=p;have hm:=mem_zipIdx hp;walk_at "px";exact⟨n,l,b,rfl,rb.eG l hm,rb.e7 l hm,k1⟩
 ·unfold l4 zH at q;rw[aD] at q;exact q
end Wc
namespace Wc
open PySem L2 PyProof.Rows
end Wc
open PySem L2 PyProof.Rows Wc
local macro_rules | `(tactic| walk_at "px")=>`(tactic| (repeat(first | walk_at "b" | simp only[pV,fW,sL])))
namespace Wc
open PySem L2 PyProof.Rows
theorem DQ{α:Type}{l:List α}(h:0<l.length):dz l (-1)=some (l[l.length-1]'(by omega)):=by
 unfold dz jV;rw[if_neg (by omega),if_pos (by omega)];simp only[Option.bind_some];rw[show((-1:Int)+(l.length:Int)).toNat=l.length-1 by omega];exact ae _
noncomputable def oY(p:Sd×cI):D:=.tup [eo p.1,gR p.2]
noncomputable def ik(b:Bool)(s0 s1:Str)(q:List Nat×Nat):List (Sd×cI):=
 (if q.1[0]?=some (mO b) then [((b,q.2,0),(s0,((q.2/2:Nat):Int)))] else [])++(if q.1[q.1.length-1]?=some (mO b) then [((b,q.2,gO (gr b q.1) (q.1.length-1)),(s1,((q.2/2:Nat):Int)))] else [])
noncomputable def pU(b:Bool)(s0 s1:Str)(ls:List (List Nat)):List (Sd×cI):=ls.zipIdx.flatMap (ik b s0 s1)
theorem DP(b:Bool)(s0 s1:Str)(q:List Nat×Nat):(ik b s0 s1 q).length<=2:=by
 unfold ik;rw[aC];split<;>split<;>simp
theorem xC{α β:Type}{f:α->List β}{k:Nat}(hf:∀a,(f a).length<=k):∀l:List α,(l.flatMap f).length<=l.length*k
 | []=>by simp
 | a::l=>by
  rw[List.flatMap_cons,aC,aA,Nat.succ_mul];have:=hf a;have:=xC hf l;omega
theorem um{b:Bool}{ls:List (List Nat)}{l:List Nat}{n:Nat}(h:ls[n]?=some l):dz (l4 b ls) (n:Nat)=some (.lst ((h8 b n l).map nj)):=by
 have hn:n<ls.length:=(ai.mp h).1;unfold l4 zH;rw[rj,rj,oH (by simpa using hn)];simp only[bo,List.getElem_zipIdx];rw[show ls[n]=l from(ai.mp h).2,Nat.zero_add]
theorem xo{b:Bool}{n k:Nat}{l:List Nat}(hk:k<l.length)(hp:gr b l k=true):(h8 b n l)[k]?=some (some (b,n,gO (gr b l) k)):=by
 unfold h8;rw[aj,List.getElem?_range hk];simp[jP,hp]
theorem LI{b:Bool}{n:Nat}{l:List Nat}(h0:0<l.length)(hp:gr b l 0=true):dz ((h8 b n l).map nj) 0=some (eo (b,n,0)):=by
 have h:=xo (n:=n) h0 hp;have hl:0<(h8 b n l).length:=by unfold h8;simpa using h0
 rw[rj,show dz (h8 b n l) 0=some (h8 b n l)[0] from oH (j:=0) hl];rw[ae hl] at h;rw[aU h];rfl
theorem Eg{b:Bool}{n:Nat}{l:List Nat}(h0:0<l.length)(hp:gr b l (l.length-1)=true):dz ((h8 b n l).map nj) (-1)=some (eo (b,n,gO (gr b l) (l.length-1))):=by
 have h:=xo (n:=n) (show l.length-1<l.length by omega) hp;have e:(h8 b n l).length=l.length:=by unfold h8;simp
 have hl:0<(h8 b n l).length:=by omega
 rw[rj,DQ hl];simp only[e];rw[ae (by omega)] at h;rw[aU h];rfl
def rB:eX:=fun ds Q=>∃(ls:List (List Nat)) (b:Bool) (s0 s1:Str),ds=[fS ls,.lst (l4 b ls),.str (jt b),.tup [.str s0,.str s1]]/\RB ls/\(∀l∈ls,0<l.length)/\Q (.ow ((pU b s0 s1 ls).map oY))
def Ap:TX:=(cp (l6 4 (jG bU))
 (cp (jj (sQ (bK (bH 0) bU)) (kc 2 (gn (dZ 5) (gn (dZ 6) jk))) (cp (fh (dh (bJ oEq (bJ fq (bH 6) (dC (.int 0))) (bH 2))) (sN 4 (jH (bK (bJ fq (bJ fq (bH 1) (bH 5)) (dC (.int 0))) (bK (jH (bK (bJ fq (bH 3) (dC (.int 0))) (bK (bJ (oI nA fun i j=>.int (i/j)) (bH 5) (dC (.int 2))) bU))) bU)))) fw)
 (fh (dh (bJ oEq (bJ fq (bH 6) (wN (dC (.int 1)))) (bH 2))) (sN 4 (jH (bK (bJ fq (bJ fq (bH 1) (bH 5)) (wN (dC (.int 1)))) (bK (jH (bK (bJ fq (bH 3) (dC (.int 1))) (bK (bJ (oI nA fun i j=>.int (i/j)) (bH 5) (dC (.int 2))) bU))) bU)))) fw)))
 (sR 4)))
theorem NN(ds:List D)(Qr:R->Prop)(hl:ds.length=4)(h:rB ds Qr):Ap { nx:=fun _=>Qr (.fz .non),rt:=Qr } (gm ["lines","strands","mark","sides","ends","number","line"] ds):=by
 obtain⟨ls,b,s0,s1,rfl,rb,dH,q⟩:=h;show Ap _ [.fz (fS ls),.fz (.lst (l4 b ls)),.fz (.str (jt b)),.fz (.tup [.str s0,.str s1]),.un,.un,.un];unfold Ap;have big:=iV;have M:=CJ b;have b1:=rb.len;walk_at "px";refine⟨bc _,?_⟩;walk_at "go";refine oO ls.zipIdx (fun p=>.tup [.int (p.2:Nat),.str (bS p.1)]) (fun Q' h=>?_) (fun i ρ=>∃a c:Sl,ρ=[.fz (fS ls),.fz (.lst (l4 b ls)),.fz (.str (jt b)),.fz (.tup [.str s0,.str s1]),.ow (((ls.zipIdx.take i).flatMap (ik b s0 s1)).map oY),a,c]) ⟨_,_,rfl⟩ ?_ ?_
 ·unfold fS;walk_at "px";rw[rA];exact h
 ·rintro i ⟨l,n⟩ ρ hi ⟨a,c,rfl⟩;have hm:l∈ls:=mem_zipIdx (av hi);have se:=dH l hm;have hw:=rb.eG l hm;have sd:ls[n]?=some l:=by
   rw[List.getElem?_zipIdx] at hi;obtain⟨c0,sk,e0⟩:=aN.mp hi;simp only[Prod.mk.injEq] at e0;obtain⟨rfl,rfl⟩:=e0;rw[Nat.zero_add];exact sk
  have tk:(ls.zipIdx.take (i+1)).flatMap (ik b s0 s1)=(ls.zipIdx.take i).flatMap (ik b s0 s1)++ik b s0 s1 (l,n):=by
   rw[List.take_add_one,hi,List.flatMap_append];simp
  have Cj:=xC (DP b s0 s1) (ls.zipIdx.take i);have Ci:(ls.zipIdx.take i).length<=100:=by rw[bj,List.length_zipIdx];omega
  rw[tk];have ed:ik b s0 s1 (l,n)=(if l[0]=mO b then [((b,n,0),(s0,((n/2:Nat):Int)))] else [])++(if l[l.length-1]'(by omega)=mO b then [((b,n,gO (gr b l) (l.length-1)),(s1,((n/2:Nat):Int)))] else []):=by
   unfold ik;simp only[ae se,ae (show l.length-1<l.length by omega),aH]
  generalize ik b s0 s1 (l,n)=e at ed ⊢;generalize (ls.zipIdx.take i).flatMap (ik b s0 s1)=acc at Cj ⊢;have a0:dz l 0=some l[0]:=oH (l:=l) (j:=0) se;have aL:=DQ se;have cm:jt b=bS [mO b]:=M.is;have A5:∀k (hk:k<l.length),l[k]=mO b->gr b l k=true:=fun k hk h=>by
   unfold gr;rw[ag,ae hk,aS,h];exact GS b
  have d2:((n:Int)/2)=((n/2:Nat):Int):=by omega
  have ll:((h8 b n l).map nj).length=l.length:=by unfold h8;simp
  have Rx:(h8 b n l).length=l.length:=by unfold h8;simp
  walk_at "px";rw[kl];refine⟨by omega,_,a0,?_⟩;rw[cm];simp only[vz,uF,List.cons.injEq,and_true];by_cases h0:l[0]=mO b
  ·rw[if_pos h0] at ed;rw[if_pos h0];refine⟨_,um sd,_,LI se (A5 _ se h0),_,rfl,by omega,by omega,by simp;omega,?_⟩;walk_at "go";rw[kl];refine⟨by omega,_,aL,?_⟩;simp only[vz,uF,List.cons.injEq,and_true];by_cases h1:l[l.length-1]'(by omega)=mO b
   ·rw[if_pos h1] at ed;rw[if_pos h1];refine⟨_,um sd,_,Eg se (A5 _ (by omega) h1),_,rfl,by omega,by omega,by simp;omega,.fz (.int n),.fz (.str (bS l)),?_⟩;rw[ed,d2];simp[oY,gR]
   ·rw[if_neg h1] at ed;rw[if_neg h1,ed,d2];exact⟨.fz (.int n),.fz (.str (bS l)),by simp[oY,gR]⟩
  ·rw[if_neg h0] at ed;rw[if_neg h0];walk_at "go";rw[kl];refine⟨by omega,_,aL,?_⟩;simp only[vz,uF,List.cons.injEq,and_true];by_cases h1:l[l.length-1]'(by omega)=mO b
   ·rw[if_pos h1] at ed;rw[if_pos h1];refine⟨_,um sd,_,Eg se (A5 _ (by omega) h1),_,rfl,by omega,by omega,by simp;omega,.fz (.int n),.fz (.str (bS l)),?_⟩;rw[ed,d2];simp[oY,gR]
   ·rw[if_neg h1] at ed;rw[if_neg h1,ed];exact⟨.fz (.int n),.fz (.str (bS l)),by simp⟩
 ·rintro ρ ⟨a,c,rfl⟩;walk_at "go";rw[List.take_length];exact q
noncomputable def nX(rows:List (List Nat))(q:List Nat×Nat):List (Sd×Sd):=(q.1.zipIdx.filter fun p=>decide (p.1=43)).map fun p=>((false,q.2,gO (gr false q.1) p.2),(true,p.2,gO (gr true (ft rows p.2)) q.2))
noncomputable def zB(rows:List (List Nat)):List (Sd×Sd):=rows.zipIdx.flatMap (nX rows)
noncomputable def lZ(p:Sd×Sd):D:=.tup [eo p.1,eo p.2]
theorem zA{rows:List (List Nat)}{q:List Nat×Nat}:(nX rows q).length<=q.1.length:=by
 unfold nX;rw[af];exact aR (List.length_filter_le _ _) (by simp)
theorem zX{α β:Type}{f:α->List β}{k:Nat}:∀{l:List α},(∀a∈l,(f a).length<=k)->(l.flatMap f).length<=l.length*k
 | [],_=>by simp
 | a::l,hf=>by
  rw[List.flatMap_cons,aC,aA,Nat.succ_mul];have:=hf a aF;have:=zX (l:=l) fun b hb=>hf b (ar _ hb)
  omega
def tF:eX:=fun ds Q=>∃(rows:List (List Nat)),ds=[fS rows,.lst (l4 false rows),.lst (l4 true (gP rows))]/\qM rows/\Q (.ow ((zB rows).map lZ))
def Ao:TX:=(cp (l6 3 (jG bU))
 (cp (jj (sQ (bK (bH 0) bU)) (kc 2 (gn (dZ 4) (gn (dZ 5) jk))) (cp (eI 6 (jn (pV (bK (bH 5) bU)) [none,none] (kc 2 (gn (dZ 0) (gn (dZ 1) jk))) (dh (bJ oEq (bH 1) (dC (.str "+")))) (bH 0)))
 (sL 3 (jn (lb (bH 6)) [none,some 4,some 1,some 2] (dZ 0) ji (jH (bK (bJ fq (bJ fq (bH 2) (bH 1)) (bH 0)) (bK (bJ fq (bJ fq (bH 3) (bH 0)) (bH 1)) bU)))))))
 (sR 3)))
theorem NM(ds:List D)(Qr:R->Prop)(hl:ds.length=3)(h:tF ds Qr):Ao { nx:=fun _=>Qr (.fz .non),rt:=Qr } (gm ["rows","stretches","uprights","joints","number","row","places"] ds):=by
 obtain⟨rows,rfl,b,q⟩:=h;show Ao _ [.fz (fS rows),.fz (.lst (l4 false rows)),.fz (.lst (l4 true (gP rows))),.un,.un,.un,.un];unfold Ao;have big:=iV;have b1:=b.b.len;have bw:=b.AJ;walk_at "px";refine⟨bc _,?_⟩;walk_at "go";refine oO rows.zipIdx (fun p=>.tup [.int (p.2:Nat),.str (bS p.1)]) (fun Q' h=>?_) (fun i ρ=>∃a c d:Sl,ρ=[.fz (fS rows),.fz (.lst (l4 false rows)),.fz (.lst (l4 true (gP rows))),.ow (((rows.zipIdx.take i).flatMap (nX rows)).map lZ),a,c,d]) ⟨_,_,_,rfl⟩ ?_ ?_
 ·unfold fS;walk_at "px";rw[rA];exact h
 ·rintro i ⟨l,n⟩ ρ hi ⟨a,c,d,rfl⟩;have hm:l∈rows:=mem_zipIdx (av hi);have hw:=b.b.eG l hm;have yb:=b.w l hm;have sd:rows[n]?=some l:=by
   rw[List.getElem?_zipIdx] at hi;obtain⟨c0,sk,e0⟩:=aN.mp hi;simp only[Prod.mk.injEq] at e0;obtain⟨rfl,rfl⟩:=e0;rw[Nat.zero_add];exact sk
  have tk:(rows.zipIdx.take (i+1)).flatMap (nX rows)=(rows.zipIdx.take i).flatMap (nX rows)++nX rows (l,n):=by
   rw[List.take_add_one,hi,List.flatMap_append];simp
  have Cj:((rows.zipIdx.take i).flatMap (nX rows)).length<=(rows.zipIdx.take i).length*100:=zX fun q hq=>aR zA (b.b.eG _ (mem_zipIdx (i:=q.2) (List.mem_of_mem_take hq)))
  have Ci:(rows.zipIdx.take i).length<=100:=by rw[bj,List.length_zipIdx];omega
  rw[tk];have jl:=zA (rows:=rows) (q:=(l,n));generalize (rows.zipIdx.take i).flatMap (nX rows)=acc at Cj ⊢;have pl:(l.zipIdx.filter fun p=>decide (p.1=43)).length<=100:=aR (List.length_filter_le _ _) (by simpa using hw);walk_at "px";refine M9 l.zipIdx (fun p=>.tup [.int (p.2:Nat),.str ⟨#[p.1]⟩]) (fun p=>.int (p.2:Nat)) (fun p=>decide (p.1=43)) (fun Q' h=>?_) (by rw[List.length_zipIdx];omega) (fun p hp K1 K0 k1 k0=>?_) ?_
  ·walk_at "px";rw[kl,rA];exact h
  ·obtain⟨cc,pp⟩:=p;have ep:(⟨#[cc]⟩:Str)="+"↔cc=43:=by
    rw[show("+":Str)=bS [43] by decide +kernel,vz,uF];simp
   walk_at "px";simp only[ep];by_cases qG:cc=43
   ·rw[if_pos qG];exact k1 (by simpa using qG)
   ·rw[if_neg qG];exact k0 (by simpa using qG)
  ·walk_at "go";refine mV (l.zipIdx.filter fun p=>decide (p.1=43)) (fun p=>.int (p.2:Nat)) (fun p=>lZ ((false,n,gO (gr false l) p.2),(true,p.2,gO (gr true (ft rows p.2)) n))) (fun Q' h=>?_) (by omega) (fun p hp K1 k1=>?_) ?_
   ·walk_at "px";exact h
   ·obtain⟨cc,pp⟩:=p;obtain⟨hz,qG⟩:=List.mem_filter.mp hp;have qG:cc=43:=by simpa using qG
    have Bm:=List.mem_zipIdx hz;have g4:pp<l.length:=by omega
    have vZ:l[pp]=43:=by
     have:=Bm.2.2;simp only[Nat.sub_zero] at this;rw[<-this];exact qG
    have RA:n<rows.length:=(ai.mp sd).1;have BY:(gP rows)[pp]?=some (ft rows pp):=by
     unfold gP;rw[aj,List.getElem?_range (by omega)];rfl
    have O3:gr false l pp=true:=by
     unfold gr;rw[ag,ae g4,aS,vZ];exact JY
    have O1:gr true (ft rows pp) n=true:=by
     unfold gr ft;rw[ag,aj,sd,bo,aS,ag,ae g4,aS,vZ];exact JX
    have nk:dz ((h8 false n l).map nj) (pp:Nat)=some (eo (false,n,gO (gr false l) pp)):=by
     have h:=xo (n:=n) g4 O3;have e:(h8 false n l).length=l.length:=by unfold h8;simp
     rw[rj,oH (by omega)];rw[ae (by omega)] at h;rw[aU h];rfl
    have at2:dz ((h8 true pp (ft rows pp)).map nj) (n:Nat)=some (eo (true,pp,gO (gr true (ft rows pp)) n)):=by
     have e0:(ft rows pp).length=rows.length:=by unfold ft;simp
     have h:=xo (n:=pp) (l:=ft rows pp) (k:=n) (by omega) O1;have e:(h8 true pp (ft rows pp)).length=rows.length:=by unfold h8;simp[e0]
     rw[rj,oH (by omega)];rw[ae (by omega)] at h;rw[aU h];rfl
    walk_at "px";exact⟨_,um sd,_,nk,_,um BY,_,at2,by omega,k1⟩
   ·walk_at "px";refine⟨by rw[af,af];omega,.fz (.int n),.fz (.str (bS l)),.fz (.lst (List.map (fun p=>D.int (p.2:Nat)) (List.filter (fun p=>decide (p.1=43)) l.zipIdx))),?_⟩;rw[aE];unfold nX;rw[aD];rfl
 ·rintro ρ ⟨a,c,d,rfl⟩;walk_at "go";rw[List.take_length];exact q
end Wc
namespace Wc
open PySem L2 PyProof.Rows
end Wc
open PySem L2 PyProof.Rows Wc
local macro_rules | `(tactic| walk_at "px")=>`(tactic| (repeat(first | walk_at "b" | simp only[w6,uw,yJ,qT,w8,xy,yI,yK,uh])))
namespace Wc
open PySem L2 PyProof.Rows
noncomputable def kk(s:Sd):List Key:=[.inr (jt s.1),.inl (s.2.1:Nat),.inl (s.2.2:Nat)]
theorem rf:∀a b:Sd,kk a=kk b->a=b:=by
 rintro⟨a,n,k⟩ ⟨b,m,j⟩ h;unfold kk at h;simp only[List.cons.injEq,Sum.inr.injEq,Sum.inl.injEq,and_true] at h;obtain⟨h1,h2,h3⟩:=h;have jv:a=b:=by
  cases a<;>cases b
  ·rfl
  ·exact absurd h1 (by decide +kernel)
  ·exact absurd h1 (by decide +kernel)
  ·rfl
 have h2:n=m:=by omega
 have h3:k=j:=by omega
 rw[jv,h2,h3]
theorem uE(s:Sd):l7 [.str (jt s.1),.int (s.2.1:Nat),.int (s.2.2:Nat)]=some (kk s):=rfl
noncomputable def ny(links:List (Sd×Sd)):List (Sd×Sd):=links.flatMap fun p=>[(p.1,p.2),(p.2,p.1)]
noncomputable def nT(links:List (Sd×Sd))(x:Sd):List Sd:=((ny links).filter fun q=>decide (q.1=x)).map (·.2)
theorem lI{links:List (Sd×Sd)}{x y:Sd}:(x,y)∈ny links↔(x,y)∈links\/(y,x)∈links:=by
 unfold ny;simp only[List.mem_flatMap,au,List.not_mem_nil,or_false,Prod.mk.injEq];constructor
 ·rintro⟨p,hp,⟨rfl,rfl⟩ | ⟨rfl,rfl⟩⟩
  ·exact .inl hp
  ·exact .inr hp
 ·rintro(h | h)
  ·exact⟨_,h,.inl ⟨rfl,rfl⟩⟩
  ·exact⟨_,h,.inr ⟨rfl,rfl⟩⟩
theorem gY{links:List (Sd×Sd)}{x y:Sd}:y∈nT links x↔(x,y)∈links\/(y,x)∈links:=by
 rw[<-lI];unfold nT;rw[aK];constructor
 ·rintro⟨⟨a,b⟩,h,rfl⟩;obtain⟨h1,h2⟩:=List.mem_filter.mp h;have:a=x:=by simpa using h2
  rw[<-this];exact h1
 ·intro h;exact⟨(x,y),List.mem_filter.mpr ⟨h,by simp⟩,rfl⟩
noncomputable def ou(B:List (Sd×List Sd))(F:List (Sd×Sd)):Nat:=((B.filter fun p=>(eU F p.1).isNone).map fun p=>1+p.2.length).sum
theorem Ff{F:List (Sd×Sd)}{x a:Sd}{g:List Sd}(hx:eU F x=none):∀{B:List (Sd×List Sd)},(B.map (·.1)).Nodup->(x,g)∈B->ou B (F++[(x,a)])+(1+g.length)<=ou B F
 | [],_,h=>by cases h
 | p::B,nd,h=>by
  rw[ao,aX] at nd;unfold ou;by_cases hp:p.1=x
  ·have PL:p=(x,g):=by
    rcases au.mp h with z | z
    ·exact z.symm
    ·exact absurd (aK.mpr ⟨_,z,hp.symm⟩) nd.1
   subst PL;have e1:(eU (F++[(x,a)]) x).isNone=false:=by rw[xq _ _ _ hx,if_pos rfl];rfl
   have e2:(eU F x).isNone=true:=by rw[hx];rfl
   rw[List.filter_cons_of_neg (by simp[e1]),List.filter_cons_of_pos (by simpa using e2),ao,List.sum_cons];have:((B.filter fun p=>(eU (F++[(x,a)]) p.1).isNone).map fun p=>1+p.2.length).sum=((B.filter fun p=>(eU F p.1).isNone).map fun p=>1+p.2.length).sum:=by
    congr 2
    refine List.filter_congr fun q hq=>?_
    have:q.1≠x:=fun z=>nd.1 (aK.mpr ⟨q,hq,z⟩)
    rw[xq _ _ _ hx,if_neg this]
   rw[this];simp only;omega
  ·have ih:=Ff (F:=F) (a:=a) hx nd.2 (by
    rcases au.mp h with z | z
    ·exact absurd (by rw[<-z]) hp
    ·exact z)
   unfold ou at ih;have e:(eU (F++[(x,a)]) p.1).isNone=(eU F p.1).isNone:=by rw[xq _ _ _ hx,if_neg hp]
   cases hb:(eU F p.1).isNone with
   | true=>
    rw[List.filter_cons_of_pos (by rw[e,hb]),List.filter_cons_of_pos (by simpa using hb),ao,ao,List.sum_cons,List.sum_cons];omega
   | false=>
    rw[List.filter_cons_of_neg (by rw[e,hb];exact ax),List.filter_cons_of_neg (by rw[hb];exact ax)];exact ih
theorem JT{B:List (Sd×List Sd)}{F:List (Sd×Sd)}{k:Nat}(h:∀p∈B,p.2.length<=k):ou B F<=B.length*(1+k):=by
 unfold ou;have:∀B':List (Sd×List Sd),(∀p∈B',p.2.length<=k)->(B'.map fun p=>1+p.2.length).sum<=B'.length*(1+k):=fun B'=>by
  induction B' with
  | nil=>intro _;simp
  | cons p r ih=>
   intro h;rw[ao,List.sum_cons,aA,Nat.succ_mul];have:=ih fun q hq=>h q (ar _ hq)
   have:=h p aF;omega
 refine aR (this _ fun p hp=>h p (List.mem_filter.mp hp).1) ?_;exact Nat.mul_le_mul_right _ (List.length_filter_le _ _)
theorem DO(links:List (Sd×Sd)):(ny links).length=2*links.length:=by
 unfold ny;induction links with
 | nil=>rfl
 | cons a r ih=>rw[List.flatMap_cons,aC,ih];simp;omega
def uS:eX:=fun ds Q=>∃links:List (Sd×Sd),ds=[.lst (links.map lZ)]/\links.length<=1600/\∀F:List (Sd×Sd),(∀a b,(eU F a).getD a=(eU F b).getD b↔Cn links a b)->F.length<=3200->Q (.ov (.dq (iD kk eo F)))
def An:TX:=(cp (l6 1 uw)
 (cp (jj (lb (bH 0)) (kc 2 (gn (dZ 2) (gn (dZ 3) jk))) (cp (qT 1 (bH 2) (bH 3))
 (qT 1 (bH 3) (bH 2))))
 (cp (l6 4 yJ)
 (ud 1 (cp (jj (yI (bH 1)) (dZ 5) (cp (l6 6 (jG (bK (bH 5) bU)))
 (Ds (dh (bJ (ie fun i j=>.bl (decide (j<i))) (wY 6) (dC (.int 0)))) (cp (xy 7 6)
 (fh (yQ 4 (dh (bJ (uh true) (bH 7) (bH 4)))) (cp (w8 4 (bH 7) (bH 5))
 (w6 6 (yK (bH 1) (bH 7)))) fw)))))
 (sP 4))))))
theorem NL(ds:List D)(Qr:R->Prop)(hl:ds.length=1)(h:uS ds Qr):An { nx:=fun _=>Qr (.fz .non),rt:=Qr } (gm ["links","beside","one","other","firsts","first","waiting","strand"] ds):=by
 obtain⟨links,rfl,Gg,q⟩:=h;show An _ [.fz (.lst (links.map lZ)),.un,.un,.un,.un,.un,.un,.un];unfold An;have big:=iV;walk_at "px";walk_at "go";refine oO links lZ (fun Q' h=>?_) (fun i ρ=>∃(B:List (Sd×List Sd)) (a c:Sl),il (ny (links.take i)) B/\ρ=[.fz (.lst (links.map lZ)),.ov (.dt (gj kk eo B)),a,c,.un,.un,.un,.un]) ⟨[],_,_,by simpa[ny] using il.nil,rfl⟩ ?_ ?_
 ·walk_at "px";exact h
 ·rintro i ⟨x,y⟩ ρ hi ⟨B,a,c,G,rfl⟩;have tk:ny (links.take (i+1))=ny (links.take i)++[(x,y)]++[(y,x)]:=by
   unfold ny;rw[List.take_add_one,hi,List.flatMap_append];simp
  have l1:=DO (links.take i);have l2:(links.take i).length<=1600:=by rw[bj];omega
  have g1:=G.len;obtain⟨n1,Cf,B1,s1,s2,s3,G1,s4⟩:=zD (dv:=eo) rf G x y;obtain⟨n2,QW,B2,t1,t2,t3,G2,t4⟩:=zD (dv:=eo) rf G1 y x;have g2:=G1.len;rw[aC] at g2 t4;simp only[aA,List.length_nil] at g2 t4;have k1:(gj kk eo B).length=B.length:=by unfold gj;simp
  have k2:(gj kk eo B1).length=B1.length:=by unfold gj;simp
  rw[<-tk] at G2;rw[show lZ (x,y)=.tup [.tup [.str (jt x.1),.int (x.2.1:Nat),.int (x.2.2:Nat)],.tup [.str (jt y.1),.int (y.2.1:Nat),.int (y.2.2:Nat)]] from rfl];walk_at "px";refine⟨_,n1,Cf,uE x,by omega,s1,s2,by omega,?_⟩;rw[show D.tup [.str (jt y.1),.int (y.2.1:Nat),.int (y.2.2:Nat)]=eo y from rfl,s3];rw[show eo y=D.tup [.str (jt y.1),.int (y.2.1:Nat),.int (y.2.2:Nat)] from rfl];walk_at "go";refine⟨_,n2,QW,uE y,by omega,t1,t2,by omega,?_⟩;rw[show D.tup [.str (jt x.1),.int (x.2.1:Nat),.int (x.2.2:Nat)]=eo x from rfl,t3];exact⟨B2,_,_,G2,rfl⟩
 ·rintro ρ ⟨B,a,c,G,rfl⟩;rw[List.take_length] at G;have g1:=G.len;have g2:=DO links;have gl:∀p∈B,p.2.length<=3200:=fun p hp=>aR (G.sr hp) (by omega)
  have bs:∀F,ou B F<=3200*3201:=fun F=>aR (JT gl) (Nat.mul_le_mul (by omega) (by omega))
  have Bv:∀x y,y∈nT links x->x∈nT links y:=fun x y h=>gY.mpr (gY.mp h).symm
  have PZ:∀x y,y∈nT links x->(x,y)∈links\/(y,x)∈links:=fun x y h=>gY.mp h
  have kB:∀x y,y∈nT links x->y∈B.map (·.1):=fun x y h=>by
   have:(y,x)∈ny links:=lI.mpr (gY.mp h).symm;obtain⟨g,hg⟩:=G.all _ this;exact aK.mpr ⟨_,hg,rfl⟩
  have gB:∀x∈B.map (·.1),∃g,(x,g)∈B/\g=nT links x:=fun x hx=>by
   obtain⟨p,hp,rfl⟩:=aK.mp hx;exact⟨p.2,hp,G.is p hp⟩
  have lB:∀x∈B.map (·.1),kE (iD kk (fun g:List Sd=>D.lst (g.map eo)) B) (kk x)=some (.lst ((nT links x).map eo)):=fun x hx=>by
   rw[zC rf];obtain⟨g,hg,e⟩:=gB x hx;have:eU B x=some g:=by
    unfold eU;cases hf:B.find? fun p=>decide (p.1=x) with
    | none=>exact absurd (by simp) (List.find?_eq_none.mp hf _ hg)
    | some p=>
     have h1:=List.find?_some hf;have h2:=List.mem_of_find?_eq_some hf;rw[Di G.nd h2 hg (by simpa using h1)];rfl
   rw[this,e];rfl
  have eD:(OV.dt (gj kk eo B)).val=.dit (iD kk (fun g:List Sd=>D.lst (g.map eo)) B):=by
   show D.dit _=_;unfold gj iD;rw[aD];rfl
  walk_at "go";walk_at "go";rw[eD];refine oO (B.map (·.1)) eo (fun Q' h=>?_) (fun i ρ=>∃(F:List (Sd×Sd)) (s5 s6 s7:Sl),xf links (nT links) (eU F)/\(∀x∈(B.map (·.1)).take i,eU F x≠none)/\(F.map (·.1)).Nodup/\(∀p∈F,p.1∈B.map (·.1))/\
   ρ=[.fz (.lst (links.map lZ)),.fz (.dit (iD kk (fun g:List Sd=>D.lst (g.map eo)) B)),a,c,.ov (.dq (iD kk eo F)),s5,s6,s7]) ⟨[],_,_,_,fun x a h=>(by cases h),fun x hx=>by simp at hx,by simp,by simp,rfl⟩ ?_ ?_
  ·walk_at "px";unfold iD;rw[aD];have e:((fun p:List Key×D=>wJ p.1)∘fun p:Sd×List Sd=>(kk p.1,D.lst (p.2.map eo)))=eo∘(fun p:Sd×List Sd=>p.1):=rfl;rw[e,<-aD];exact h
  ·rintro i gh ρ hi ⟨F0,s5,s6,s7,C0,Gi,O8,Bh,rfl⟩;have Qk:gh∈B.map (·.1):=av hi;walk_at "px";refine⟨by omega,?_⟩;walk_at "go";have nF:∀F:List (Sd×Sd),(F.map (·.1)).Nodup->(∀p∈F,p.1∈B.map (·.1))->F.length<=3200:=fun F nd ky=>by
    have:=zY nd (ws:=B.map (·.1)) fun w hw=>by
     obtain⟨p,hp,rfl⟩:=aK.mp hw;exact ky p hp
    rw[af,af] at this;omega
   refine⟨fun m ρ=>∃(F:List (Sd×Sd)) (wt:List Sd) (s7:Sl),m=ou B F+wt.length/\m<=3200*3201+1/\nt links (nT links) (eU F0) (eU F) gh wt/\(F.map (·.1)).Nodup/\(∀p∈F,p.1∈B.map (·.1))/\(∀x∈wt,x∈B.map (·.1))/\
    ρ=[.fz (.lst (links.map lZ)),.fz (.dit (iD kk (fun g:List Sd=>D.lst (g.map eo)) B)),a,c,.ov (.dq (iD kk eo F)),.fz (eo gh),.ow (wt.map eo),s7],
    ⟨_,F0,[gh],s7,rfl,by have:=bs F0;simp only[aA,List.length_nil];omega,nt.start,O8,Bh,fun x hx=>by rw[a9.mp hx];exact Qk,rfl⟩,?_⟩
   rintro m ρ ⟨F,wt,s7,rfl,hm,D1,nd,ky,hw,rfl⟩;rcases List.eq_nil_or_concat wt with rfl | ⟨wr,x,rfl⟩
   ·walk_at "px";obtain⟨d1,d2,d3⟩:=D1.done Bv C0;refine⟨F,_,_,_,d1,fun x hx=>?_,nd,ky,rfl⟩;rw[List.take_add_one,hi] at hx;rcases aI.mp hx with hx | hx
    ·exact d3 x (Gi x hx)
    ·have:x=gh:=by simpa using hx
     rw[this];exact d2
   ·rw[List.concat_eq_append] at D1 hw hm ⊢;have Bn:x∈B.map (·.1):=hw x (by simp);have F3:∀y∈wr,y∈B.map (·.1):=fun y hy=>hw y (bp _ hy)
    have lw:((wr++[x]).map eo).length=wr.length+1:=by simp
    have dl:((wr++[x]).map eo).dropLast=wr.map eo:=by rw[aE];simp
    have ls:((wr++[x]).map eo)[wr.length+1-1]?=some (eo x):=by rw[aE];simp
    have lc:ou B F+(wr++[x]).length=ou B F+wr.length+1:=by simp;omega
    obtain⟨es,he,hk⟩:∃es,eo x=.tup es/\l7 es=some (kk x):=⟨_,rfl,uE x⟩
    walk_at "px";rw[lw,if_pos (by omega)];refine⟨_,ls,?_⟩;rw[dl,he];walk_at "go";refine⟨_,hk,?_⟩;show(if (!(kE (iD kk eo F) (kk x)).isSome)=true then _ else _);rw[zC rf];cases hx:eU F x with
    | some y=>
     rw[if_neg (by simp)];refine⟨_,?_,F,wr,_,rfl,?_,D1.skip (by rw[hx];exact nofun),nd,ky,F3,rfl⟩
     ·omega
     ·omega
    | none=>
     rw[if_pos (by simp)];walk_at "px";have hF:=nF F nd ky;have kq:(iD kk eo F).length=F.length:=by unfold iD;simp
     refine⟨_,hk,by omega,?_⟩;rw[JW rf x gh hx];walk_at "go";refine⟨_,_,hk,lB x Bn,?_⟩;obtain⟨g,hg,rfl⟩:=gB x Bn;have tt:=Ff (a:=gh) hx G.nd hg;have b0:=bs F;refine⟨by simp only[af];omega,?_⟩;refine⟨_,?_,F++[(x,gh)],wr++nT links x,_,rfl,?_,?_,?_,?_,?_,by rw[aE]⟩
     ·simp only[aC] at *;omega
     ·simp only[aC] at *;omega
     ·have:=D1.take PZ hx;have e:(fun y=>if y=x then some gh else eU F y)=eU (F++[(x,gh)]):=funext fun y=>(xq x y gh hx).symm
      rw[<-e];exact this
     ·rw[aE];refine List.nodup_append.mpr ⟨nd,by simp,fun a ha b hb z=>?_⟩;have lR:b=x:=by simpa using hb
      subst lR;subst z;obtain⟨p,hp,e⟩:=aK.mp ha;unfold eU at hx;rw[Option.map_eq_none_iff,List.find?_eq_none] at hx;exact hx p hp (by simpa using e)
     ·intro p hp;rcases aI.mp hp with hp | hp
      ·exact ky p hp
      ·have:p=(x,gh):=by simpa using hp
       rw[this];exact Bn
     ·intro y hy;rcases aI.mp hy with hy | hy
      ·exact F3 y hy
      ·exact kB x y hy
  ·rintro ρ ⟨F,s5,s6,s7,C,hk,nd,Pd,rfl⟩;rw[List.take_length] at hk;have hF:F.length<=3200:=by
    have:=zY nd (ws:=B.map (·.1)) fun w hw=>by
     obtain⟨p,hp,rfl⟩:=aK.mp hw;exact Pd p hp
    rw[af,af] at this;omega
   have:=q F (fun a b=>MJ C fun x y h=>⟨hk x (kB y x (gY.mpr (.inr h))),gY.mpr (.inl h)⟩) hF;simp only[ua,sP,gt];exact this
end Wc
namespace Wc
open PySem L2 PyProof.Rows
end Wc
open PySem L2 PyProof.Rows Wc
local macro_rules | `(tactic| walk_at "px")=>`(tactic| (repeat(first | walk_at "b" | simp only[yM,yU,uw,qT,y2,y0,xt])))
namespace Wc
open PySem L2 PyProof.Rows
theorem Fe{α:Type}{wi:i4}{m:List (Option Nat)}{g:i5}{te:TD}{ρ:Ev}{Q:R->Prop}(L:List α)(φ:α->D)(f:α->List D)(hw:∀Q':List D->Prop,Q' (L.map φ)->wi ρ Q')(hl:L.length<=sizeLine)
  (h:∀x∈L,∀(K1:List D->Prop),K1 (f x)->g (φ x) (ff m ρ) fun ee=>te ee fun r=>match r with | .ow es=>K1 es | _=>False) (q:Q (.ov (.ll (L.map f)))):rh wi m g ji te ρ Q:=by
 unfold rh;refine hw _ ⟨fun i acc=>acc=(L.take i).map f,by simp,fun i d acc hd ha=>?_,fun acc ha=>?_⟩
 ·subst ha;rw[aj] at hd;cases hx:L[i]? with
  | none=>rw[hx] at hd;cases hd
  | some x=>
   rw[hx] at hd;cases hd;have gf:i<L.length:=(ai.mp hx).1;have:=h x (av hx) (fun es=>((L.take i).map f).length<sizeLine/\(L.take i).map f++[es]=(L.take (i+1)).map f) ⟨by simp;omega,by rw[List.take_add_one,hx];simp⟩;exact this
 ·subst ha;simpa using q
def Gd(ends:List (Sd×cI))(links:List (Sd×Sd))(ij:List (List cI)):Prop:=∃(lab:Sd->Sd) (bF:List (Sd×List cI)),(∀a b,lab a=lab b↔Cn links a b)/\il (ends.map fun p=>(lab p.1,p.2)) bF/\ij=sG (bF.map fun p=>sE p.2)
def tw:eX:=fun ds Q=>∃(ends:List (Sd×cI)) (links:List (Sd×Sd)),ds=[.lst (ends.map oY),.lst (links.map lZ)]/\links.length<=1600/\ends.length<64/\(ends.map (·.2)).Nodup/\∀ij,Gd ends links ij->Q (.ov (.ll (ij.map fun g=>g.map gR)))
def Ae:TX:=(cp (eI 2 (fm 1 uS (bK (bH 1) bU)))
 (cp (l6 3 uw)
 (cp (jj (lb (bH 0)) (kc 2 (gn (dZ 4) (gn (dZ 5) jk))) (qT 3 (y2 (bH 2) (bH 4) (bH 4)) (bH 5)))
 (ud 3 (eF (xt (rh (y0 (bH 3)) [none] (dZ 0) ji (gS Dk (bK (bH 0) bU)))))))))
theorem ND(ds:List D)(Qr:R->Prop)(hl:ds.length=2)(h:tw ds Qr):Ae { nx:=fun _=>Qr (.fz .non),rt:=Qr } (gm ["ends","links","firsts","groups","strand","end"] ds):=by
 obtain⟨ends,links,rfl,Gg,hle,nd,q⟩:=h;show Ae _ [.fz (.lst (ends.map oY)),.fz (.lst (links.map lZ)),.un,.un,.un,.un];unfold Ae;have big:=iV;walk_at "px";refine⟨links,rfl,Gg,fun F hF _=>?_⟩;walk_at "go";walk_at "go";have Bf:∀k,(((ends.take k).map fun p:Sd×cI=>(((eU F p.1).getD p.1,p.2):Sd×cI))).length<=64:=fun k=>by
  rw[af,bj];omega
 refine oO ends oY (fun Q' h=>?_) (fun i ρ=>∃(B:List (Sd×List cI)) (a c:Sl),il ((ends.take i).map fun p=>((eU F p.1).getD p.1,p.2)) B/\ρ=[.fz (.lst (ends.map oY)),.fz (.lst (links.map lZ)),.fz (.dit (iD kk eo F)),.ov (.dt (gj kk gR B)),a,c]) ⟨[],_,_,by simpa using il.nil,rfl⟩ ?_ ?_
 ·walk_at "px";exact h
 ·rintro i ⟨x,en⟩ ρ hi ⟨B,a,c,G,rfl⟩;obtain⟨n1,Cf,B1,s1,s2,s3,G1,s4⟩:=zD (dv:=gR) rf G ((eU F x).getD x) en;have g1:=G.len;have g2:=Bf i;have k1:(gj kk gR B).length=B.length:=by unfold gj;simp
  obtain⟨es,he,hk⟩:∃es,eo x=.tup es/\l7 es=some (kk x):=⟨_,rfl,uE x⟩
  have e1:((kE (iD kk eo F) (kk x)).getD (.tup es))=eo ((eU F x).getD x):=by
   rw[zC rf,<-he];cases eU F x<;>rfl
  obtain⟨Cb,Qn,vQ⟩:∃Cb,eo ((eU F x).getD x)=.tup Cb/\l7 Cb=some (kk ((eU F x).getD x)):=⟨_,rfl,uE _⟩
  have tk:(ends.take (i+1)).map (fun p=>((eU F p.1).getD p.1,p.2))=(ends.take i).map (fun p=>((eU F p.1).getD p.1,p.2))++[((eU F x).getD x,en)]:=by
   rw[List.take_add_one,hi,aE];rfl
  rw[<-tk] at G1;rw[show oY (x,en)=.tup [eo x,gR en] from rfl,he];walk_at "px";refine⟨_,hk,?_⟩;rw[e1,Qn];walk_at "px";refine⟨_,n1,Cf,vQ,by omega,s1,s2,by omega,?_⟩;rw[s3];exact⟨B1,_,_,G1,rfl⟩
 ·rintro ρ ⟨B,a,c,G,rfl⟩;rw[List.take_length] at G;have g1:=G.len;rw[af] at g1;have qt:((ends.map fun p=>((eU F p.1).getD p.1,p.2)).map (·.2)).Nodup:=by
   rw[aD];exact nd
  have eD:(OV.dt (gj kk gR B)).val=.dit (iD kk (fun g:List cI=>D.lst (g.map gR)) B):=by
   show D.dit _=_;unfold gj iD;rw[aD];rfl
  walk_at "go";rw[eD];refine Fe B (fun p=>D.lst (p.2.map gR)) (fun p=>(sE p.2).map gR) (fun Q' h=>?_) (by omega) (fun p hp K1 k1=>?_) ?_
  ·walk_at "px";unfold iD;rw[aD];exact h
  ·walk_at "px";have:=G.sr hp;rw[af] at this;refine⟨p.2,rfl,by omega,fun mX h1 h2=>?_⟩;rw[GZ h1 h2];exact k1
  ·refine⟨B.map fun p=>sE p.2,by rw[aD];rfl,by rw[af];omega,fun g hg=>?_,G.pI qt,fun pJ h1 h2=>?_⟩
   ·obtain⟨p,hp,rfl⟩:=aK.mp hg;exact fun z=>G.ne hp (List.perm_nil.mp ((xp p.2).symm.trans (List.Perm.of_eq z)))
   ·rw[GX (G.pI qt) h1 h2];exact q _ ⟨_,B,hF,G,rfl⟩
end Wc
namespace Wc
open PySem L2 PyProof.Rows
end Wc
open PySem L2 PyProof.Rows Wc
local macro_rules | `(tactic| walk_at "px")=>`(tactic| (repeat(first | walk_at "b" | simp only[rg,sL])))
namespace Wc
open PySem L2 PyProof.Rows
noncomputable def endsF(rows:List (List Nat)):List (Sd×cI):=pU false "left" "right" rows++pU true "top" "bottom" (gP rows)
structure GN (rows:List (List Nat)) (t:Str):Prop where
 ne:rows≠[]
 rb:RB rows
 yk:cZ rows=true
 txt:Txt.split t "\n"=rows.map bS
 len:t.length<10000
 B6:rows.length<=40
 AL:wd rows<=40
 su:(endsF rows).length<64
 nd:((endsF rows).map (·.2)).Nodup
theorem zG{rows:List (List Nat)}(h:cZ rows=true):iT rows=true/\pd rows=true/\rows.all (kG 45 iY)=true/\(gP rows).all (kG 124 iu)=true:=by
 unfold cZ at h;simp only[aO] at h;exact⟨h.1.1.1,h.1.1.2,h.1.2,h.2⟩
theorem ux{rows:List (List Nat)}(h:iT rows=true):3<=wd rows/\∀l∈rows,l.length=wd rows:=by
 unfold iT at h;simp only[aO,aY,aP] at h;exact⟨h.1.2,h.2⟩
theorem HE{rows:List (List Nat)}{t:Str}(W:GN rows t):qM rows:=⟨W.rb,W.ne,(ux (zG W.yk).1).2⟩
structure Any (rows:List (List Nat)) (t:Str):Prop where
 ne:rows≠[]
 rb:RB rows
 txt:Txt.split t "\n"=rows.map bS
 len:t.length<10000
 B6:rows.length<=40
 AL:wd rows<=40
 su:cZ rows=true->(endsF rows).length<64/\((endsF rows).map (·.2)).Nodup
def uY:tZ:=fun ds Qr Qx=>∃(t:Str) (rows:List (List Nat)),ds=[.str t]/\Any rows t/\(cZ rows=true->∀ij:List (List cI),Qr (.ov (.ll (ij.map fun g=>g.map gR))))/\(cZ rows=false->Qx)
def xJ(Qx:Prop):TX:=(cp (eI 1 (dM "str" rg (bH 0) (bK (dC (.str "\n")) bU)))
 (cp (fh (mM (dh (fm 1 tE (bK (bH 1) bU)))) (zi Qx (dC (.str "the text is no drawing"))) fw)
 (cp (eI 2 (fm 1 rq (bK (bH 1) bU)))
 (cp (eI 3 (fm 2 rD (bK (bH 1) (bK (dC (.str "-")) bU))))
 (cp (eI 4 (fm 2 rD (bK (bH 2) (bK (dC (.str "|")) bU))))
 (cp (l6 5 (fm 4 rB (bK (bH 1) (bK (bH 3) (bK (dC (.str "-")) (bK (jH (bK (dC (.str "left")) (bK (dC (.str "right")) bU))) bU))))))
 (cp (sL 5 (fm 4 rB (bK (bH 2) (bK (bH 4) (bK (dC (.str "|")) (bK (jH (bK (dC (.str "top")) (bK (dC (.str "bottom")) bU))) bU))))))
 (ud 5 (eF (fm 2 tw (bK (bH 5) (bK (fm 3 tF (bK (bH 1) (bK (bH 3) (bK (bH 4) bU)))) bU))))))))))))
theorem Ng(ds:List D)(Qr:R->Prop)(Qx:Prop)(hl:ds.length=1)(h:uY ds Qr Qx):xJ Qx { nx:=fun _=>Qr (.fz .non),rt:=Qr } (gm ["text","rows","columns","stretches","uprights","ends"] ds):=by
 obtain⟨t,rows,rfl,W,q,qx⟩:=h;show xJ Qx _ [.fz (.str t),.un,.un,.un,.un,.un];unfold xJ;have big:=iV;have hlen:=W.len;have eR:D.lst ((rows.map bS).map D.str)=fS rows:=by rw[aD];rfl
 walk_at "px";refine⟨rfl,by decide,by omega,?_⟩;rw[W.txt,eR];walk_at "go";refine⟨rows,rfl,W.ne,W.rb,?_⟩;cases vX:cZ rows with
 | false=>
  walk_at "px";simp only[zi];walk_at "px";exact qx vX
 | true=>
  have V:GN rows t:=⟨W.ne,W.rb,vX,W.txt,W.len,W.B6,W.AL,(W.su vX).1,(W.su vX).2⟩
  have rw_:=HE V;have rc:=DR rw_;have wl:=W.AL;have P9:=W.B6;have cl:(gP rows).length=wd rows:=by unfold gP;simp
  have l1:∀b s0 s1 (ls:List (List Nat)),(pU b s0 s1 ls).length<=ls.length*2:=fun b s0 s1 ls=>by
   have:=xC (DP b s0 s1) ls.zipIdx;rw[List.length_zipIdx] at this;exact this
  have l2:(zB rows).length<=1600:=by
   have:=zX (f:=nX rows) (k:=40) (l:=rows.zipIdx) fun a ha=>by
    refine aR zA ?_;have:=List.mem_zipIdx ha;rw[this.2.2,rw_.w _ (aQ _)];exact wl
   rw[List.length_zipIdx] at this;refine aR this ?_;omega
  walk_at "go";refine⟨rows,rfl,rw_,?_⟩;walk_at "go";refine⟨rows,false,rfl,W.rb,?_⟩;walk_at "go";refine⟨gP rows,true,rfl,rc,?_⟩;walk_at "go";refine⟨by omega,?_⟩;refine⟨rows,false,"left","right",rfl,W.rb,fun l hl=>by rw[rw_.w l hl];have:=(ux (zG V.yk).1).1;omega,?_⟩;walk_at "go";refine⟨by omega,?_⟩;refine⟨gP rows,true,"top","bottom",rfl,rc,fun l hl=>?_,?_⟩
  ·unfold gP ft at hl;obtain⟨k,hk,rfl⟩:=aK.mp hl;rw[af];exact List.length_pos_iff.mpr W.ne
  have k1:=l1 false "left" "right" rows;have k2:=l1 true "top" "bottom" (gP rows);refine⟨by simp only[af];omega,?_⟩;walk_at "go";rw[<-aE];refine⟨rows,rfl,rw_,?_⟩;walk_at "px";exact⟨endsF rows,zB rows,rfl,l2,V.su,V.nd,fun ij _=>q vX ij⟩
end Wc
namespace Wc
open PySem L2 PyProof.Rows
noncomputable def gv(rows:List (List Nat))(r s:Nat):Nat:=(rows.getD r []).getD s 0
def k6(R S:Nat)(g:Nat->Nat->Nat)(r s:Nat):Prop:=
 (r%2=1->s%2=1->g r s∈[32,45,124,43,35])/\(r%2=0->s%2=0->g r s=32)/\
 (r%2=1->s%2=0->g r s=32\/g r s=45/\(0<s->iY (g r (s-1))=true)/\(s+1<S->iY (g r (s+1))=true))/\
 (r%2=0->s%2=1->g r s=32\/g r s=124/\(0<r->iu (g (r-1) s)=true)/\(r+1<R->iu (g (r+1) s)=true))
structure fT (R S:Nat) (rows:List (List Nat)):Prop where
 len:rows.length=R
 eG:∀l∈rows,l.length=S
 ok:∀r s,r<R->s<S->k6 R S (gv rows) r s
structure j3 (R S:Nat) (rows:List (List Nat)):Prop where
 len:rows.length=R
 eG:∀l∈rows,l.length=S
 ok:∀r s,r<R->s<S->gv rows r s∈[32,45,124,43,35]/\(¬(r%2=1/\s%2=1)->gv rows r s=32)
section
variable {R S:Nat} {rows:List (List Nat)}
theorem j3.OU(P:j3 R S rows):fT R S rows:=⟨P.len,P.eG,fun r s hr hs=>by
 obtain⟨h1,h2⟩:=P.ok r s hr hs
 exact⟨fun _ _=>h1,fun a b=>h2 (by omega),fun a b=>.inl (h2 (by omega)),fun a b=>.inl (h2 (by omega))⟩⟩
noncomputable def kD(rows:List (List Nat))(r s c:Nat):List (List Nat):=rows.set r ((rows.getD r []).set s c)
theorem Df(hl:rows.length=R)(hw:∀l∈rows,l.length=S){r s c:Nat}(hr:r<R)(hs:s<S)(r' s':Nat):gv (kD rows r s c) r' s'=if r'=r/\s'=s then c else gv rows r' s':=by
 unfold gv kD;have ju:r<rows.length:=by omega
 have hm:rows.getD r []∈rows:=by
  rw[ag,ae ju,aS];exact aQ _
 have qA:s<(rows.getD r []).length:=by rw[hw _ hm];exact hs
 by_cases h1:r'=r
 ·subst h1;rw[ag (l:=rows.set _ _),List.getElem?_set_self ju,aS];by_cases h2:s'=s
  ·subst h2;rw[if_pos ⟨rfl,rfl⟩,ag,List.getElem?_set_self qA,aS]
  ·rw[if_neg (fun z=>h2 z.2),ag,List.getElem?_set_ne (Ne.symm h2),<-ag]
 ·rw[if_neg (fun z=>h1 z.1),ag (l:=rows.set _ _),List.getElem?_set_ne (Ne.symm h1),<-ag]
theorem DN(hl:rows.length=R)(hw:∀l∈rows,l.length=S){r s c:Nat}(hr:r<R):(kD rows r s c).length=R/\∀l∈kD rows r s c,l.length=S:=by
 unfold kD;have ju:r<rows.length:=by omega
 have hm:rows.getD r []∈rows:=by
  rw[ag,ae ju,aS];exact aQ _
 refine⟨by rw[List.length_set];exact hl,fun l h=>?_⟩;rcases List.mem_or_eq_of_mem_set h with h | rfl
 ·exact hw l h
 ·rw[List.length_set];exact hw _ hm
theorem j3.set(P:j3 R S rows){r s c:Nat}(hr:r<R)(hs:s<S)(o1:r%2=1)(o2:s%2=1)(hc:c∈[32,45,124,43,35]):j3 R S (kD rows r s c):=by
 obtain⟨w1,w2⟩:=DN (s:=s) (c:=c) P.len P.eG hr;refine⟨w1,w2,fun r' s' ku kQ=>?_⟩;rw[Df P.len P.eG hr hs];obtain⟨h1,h2⟩:=P.ok r' s' ku kQ;by_cases h:r'=r/\s'=s
 ·rw[if_pos h];exact⟨hc,fun z=>absurd ⟨by omega,by omega⟩ z⟩
 ·rw[if_neg h];exact⟨h1,h2⟩
theorem fT.set(P:fT R S rows){r s c:Nat}(hr:r<R)(hs:s<S)(od:(r+s)%2=1)
  (hc:c=32\/(r%2=1/\c=45/\(0<s->iY (gv rows r (s-1))=true)/\(s+1<S->iY (gv rows r (s+1))=true))\/(r%2=0/\c=124/\(0<r->iu (gv rows (r-1) s)=true)/\(r+1<R->iu (gv rows (r+1) s)=true))):fT R S (kD rows r s c):=by
 obtain⟨w1,w2⟩:=DN (s:=s) (c:=c) P.len P.eG hr;have hg:=fun r' s'=>Df (c:=c) P.len P.eG hr hs r' s'
 refine⟨w1,w2,fun r' s' ku kQ=>?_⟩;obtain⟨h1,h2,h3,h4⟩:=P.ok r' s' ku kQ;have ne:∀a b,(a+b)%2=0->gv (kD rows r s c) a b=gv rows a b:=fun a b e=>by
  rw[hg,if_neg (by omega)]
 refine⟨fun a b=>?_,fun a b=>?_,fun a b=>?_,fun a b=>?_⟩
 ·rw[ne _ _ (by omega)];exact h1 a b
 ·rw[ne _ _ (by omega)];exact h2 a b
 ·have n1:0<s'->gv (kD rows r s c) r' (s'-1)=gv rows r' (s'-1):=fun z=>ne _ _ (by omega)
  have n2:gv (kD rows r s c) r' (s'+1)=gv rows r' (s'+1):=ne _ _ (by omega);by_cases h:r'=r/\s'=s
  ·obtain⟨rfl,rfl⟩:=h;rw[hg,if_pos ⟨rfl,rfl⟩,n2];rcases hc with hc | hc | hc
   ·exact .inl hc
   ·exact .inr ⟨hc.2.1,fun z=>by rw[n1 z];exact hc.2.2.1 z,hc.2.2.2⟩
   ·omega
  ·rw[hg r' s',if_neg h,n2];rcases h3 a b with z | z
   ·exact .inl z
   ·exact .inr ⟨z.1,fun y=>by rw[n1 y];exact z.2.1 y,z.2.2⟩
 ·have n1:0<r'->gv (kD rows r s c) (r'-1) s'=gv rows (r'-1) s':=fun z=>ne _ _ (by omega)
  have n2:gv (kD rows r s c) (r'+1) s'=gv rows (r'+1) s':=ne _ _ (by omega);by_cases h:r'=r/\s'=s
  ·obtain⟨rfl,rfl⟩:=h;rw[hg,if_pos ⟨rfl,rfl⟩,n2];rcases hc with hc | hc | hc
   ·exact .inl hc
   ·omega
   ·exact .inr ⟨hc.2.1,fun z=>by rw[n1 z];exact hc.2.2.1 z,hc.2.2.2⟩
  ·rw[hg r' s',if_neg h,n2];rcases h4 a b with z | z
   ·exact .inl z
   ·exact .inr ⟨z.1,fun y=>by rw[n1 y];exact z.2.1 y,z.2.2⟩
theorem fT.sg(P:fT R S rows){r s:Nat}(hr:r<R)(hs:s<S):gv rows r s∈[32,45,124,43,35]:=by
 obtain⟨h1,h2,h3,h4⟩:=P.ok r s hr hs;have c1:r%2=0\/r%2=1:=by omega
 have c2:s%2=0\/s%2=1:=by omega
 rcases c1 with c1 | c1<;>rcases c2 with c2 | c2
 ·rw[h2 c1 c2];simp
 ·rcases h4 c1 c2 with z | z
  ·rw[z];simp
  ·rw[z.1];simp
 ·rcases h3 c1 c2 with z | z
  ·rw[z];simp
  ·rw[z.1];simp
 ·exact h1 c1 c2
theorem nC(hl:rows.length=R)(hw:∀l∈rows,l.length=S){r s:Nat}{l:List Nat}(h:rows[r]?=some l)(hs:s<S):l[s]?=some (gv rows r s):=by
 have hr:=(ai.mp h).1;have hm:l∈rows:=av h;unfold gv;rw[ag (l:=rows),h,aS,ag,ae (by rw[hw l hm];exact hs)];rfl
theorem fT.wd(P:fT R S rows)(hR:0<R):wd rows=S:=by
 unfold Wc.wd;cases rows with
 | nil=>have:=P.len;simp at this;omega
 | cons a r=>exact P.eG a aF
theorem fT.ne(P:fT R S rows)(hR:0<R):rows≠[]:=fun z=>by have:=P.len;rw[z] at this;simp at this;omega
theorem fT.rb(P:fT R S rows)(hR:R<=100)(hS:S<=100):RB rows:=by
 refine⟨by rw[P.len];exact hR,fun l hl=>by rw[P.eG l hl];exact hS,fun l hl c hc=>?_⟩;obtain⟨r,hr⟩:=aW hl;obtain⟨s,hs⟩:=aW hc;have qA:s<S:=by rw[<-P.eG l hl];exact(ai.mp hs).1
 have ju:r<R:=by rw[<-P.len];exact(ai.mp hr).1
 rw[nC P.len P.eG hr qA] at hs;have:=P.sg ju qA;rw[aU hs] at this;revert this
 simp only[e7,au,List.not_mem_nil,or_false];omega
end
end Wc
namespace Wc
open PySem L2 PyProof.Rows
theorem M6{l:List Nat}{k c:Nat}(h:c∈kg l k):∃i,k-1<=i/\i<k+2/\l[i]?=some c:=by
 unfold kg at h;obtain⟨i,hi⟩:=aW h;rw[List.getElem?_take] at hi;split at hi
 ·rw[List.getElem?_drop] at hi;exact⟨k-1+i,by omega,by omega,hi⟩
 ·cases hi
theorem Ef{m:Nat}{p:Nat->Bool}{l:List Nat}(h:∀j,l[2*j]?=some m->∀i c,2*j-1<=i->i<2*j+2->l[i]?=some c->p c=true):kG m p l=true:=by
 unfold kG;rw[aP];intro j hj;rw[Bool.or_eq_true];by_cases e:l[2*j]?=some m
 ·right
  rw[aP];intro c hc;obtain⟨i,h1,h2,h3⟩:=M6 hc;exact h j e i c h1 h2 h3
 ·left
  simp[e]
section
variable {R S:Nat} {rows:List (List Nat)}
theorem De(hl:rows.length=R){k i:Nat}{c:Nat}(h:(ft rows k)[i]?=some c):i<R/\c=gv rows i k:=by
 unfold ft at h;rw[aj] at h;obtain⟨l,h1,h2⟩:=aN.mp h;refine⟨by rw[<-hl];exact(ai.mp h1).1,?_⟩;unfold gv;rw[ag (l:=rows),h1,aS];exact h2.symm
theorem y8(hl:rows.length=R)(hw:∀l∈rows,l.length=S){r i:Nat}{l:List Nat}{c:Nat}(hr:rows[r]?=some l)(h:l[i]?=some c):r<R/\i<S/\c=gv rows r i:=by
 have h1:=(ai.mp h).1;rw[hw l (av hr)] at h1;refine⟨by rw[<-hl];exact(ai.mp hr).1,h1,?_⟩;have:=nC hl hw hr h1;rw[h] at this;exact aU this
theorem fT.O4(P:fT R S rows){r s:Nat}(hr:r<R)(hs:s<S):ic r s (gv rows r s)=true:=by
 obtain⟨h1,h2,h3,h4⟩:=P.ok r s hr hs;have c1:r%2=0\/r%2=1:=by omega
 have c2:s%2=0\/s%2=1:=by omega
 unfold ic;rcases c1 with c1 | c1<;>rcases c2 with c2 | c2
 ·simp[h2 c1 c2]
 ·rcases h4 c1 c2 with z | z
  ·simp[z]
  ·simp[z.1,c2]
 ·rcases h3 c1 c2 with z | z
  ·simp[z]
  ·simp[z.1,c1]
 ·have:=h1 c1 c2;simp only[au,List.not_mem_nil,or_false] at this;rcases this with z | z | z | z | z<;>simp[z,c1,c2]
theorem fT.yk(P:fT R S rows)(hR:R%2=1)(hS:S%2=1)(h3:3<=S):cZ rows=true:=by
 have hw:=P.wd (by omega);unfold cZ;simp only[aO];refine⟨⟨⟨?_,?_⟩,?_⟩,?_⟩
 ·unfold iT;simp only[aO,aY,aP];exact⟨⟨⟨by rw[P.len];exact hR,by rw[hw];exact hS⟩,by rw[hw];exact h3⟩,fun l hl=>by rw[hw];exact P.eG l hl⟩
 ·unfold pd;rw[aP];rintro⟨l,r⟩ hp;rw[aP];rintro⟨c,s⟩ hq;have e1:rows[r]?=some l:=by
   have:=List.mem_zipIdx_iff_getElem?.mp hp;simpa using this
  have e2:l[s]?=some c:=by
   have:=List.mem_zipIdx_iff_getElem?.mp hq;simpa using this
  obtain⟨hr,hs,rfl⟩:=y8 P.len P.eG e1 e2;exact P.O4 hr hs
 ·rw[aP];intro l hl;obtain⟨r,hr⟩:=aW hl;refine Ef fun j hj i c h1 h2 h4=>?_
  obtain⟨ju,Qd,e⟩:=y8 P.len P.eG hr hj;obtain⟨_,BN,rfl⟩:=y8 P.len P.eG hr h4;obtain⟨_,k2,k3,_⟩:=P.ok r (2*j) ju Qd;have c1:r%2=0\/r%2=1:=by omega
  rcases c1 with c1 | c1
  ·rw[k2 c1 (by omega)] at e;omega
  ·rcases k3 c1 (by omega) with z | z
   ·omega
   ·have hi:i=2*j-1/\0<2*j\/i=2*j\/i=2*j+1:=by omega
    rcases hi with hi | hi | hi
    ·rw[hi.1];exact z.2.1 hi.2
    ·rw[hi,z.1];decide
    ·rw[hi];exact z.2.2 (by omega)
 ·rw[aP];intro l hl;unfold gP at hl;obtain⟨k,hk,rfl⟩:=aK.mp hl;have tN:k<S:=by rw[hw] at hk;simpa using hk
  refine Ef fun j hj i c h1 h2 h4=>?_
  obtain⟨Qe,e⟩:=De P.len hj;obtain⟨RI,rfl⟩:=De P.len h4;obtain⟨_,k2,_,k4⟩:=P.ok (2*j) k Qe tN;have c1:k%2=0\/k%2=1:=by omega
  rcases c1 with c1 | c1
  ·rw[k2 (by omega) c1] at e;omega
  ·rcases k4 (by omega) c1 with z | z
   ·omega
   ·have hi:i=2*j-1/\0<2*j\/i=2*j\/i=2*j+1:=by omega
    rcases hi with hi | hi | hi
    ·rw[hi.1];exact z.2.1 hi.2
    ·rw[hi,z.1];decide
    ·rw[hi];exact z.2.2 (by omega)
end
end Wc
namespace Wc
open PySem L2 PyProof.Rows
noncomputable def g9{α:Type}(b:Prop)[Decidable b](x:α):List α:=if b then [x] else []
noncomputable def tI(R S:Nat)(g:Nat->Nat->Nat):List (N3×cI):=(List.range (R/2)).flatMap fun k=>g9 (g (2*k+1) 0=45) (((2*k+1,0,0),("left",((k:Nat):Int))):N3×cI)++g9 (g (2*k+1) (S-1)=45) (((2*k+1,S-1,0),("right",((k:Nat):Int))):N3×cI)
noncomputable def tG(R S:Nat)(g:Nat->Nat->Nat):List (N3×cI):=(List.range (S/2)).flatMap fun k=>g9 (g 0 (2*k+1)=124) (((0,2*k+1,1),("top",((k:Nat):Int))):N3×cI)++g9 (g (R-1) (2*k+1)=124) (((R-1,2*k+1,1),("bottom",((k:Nat):Int))):N3×cI)
theorem Ey{α:Type}(d:α)(l:List α):l.zipIdx=(List.range l.length).map fun i=>(l.getD i d,i):=by
 apply List.ext_getElem?;intro i;rw[List.getElem?_zipIdx,aj];by_cases h:i<l.length
 ·rw[List.getElem?_range h,ae h];simp[h]
 ·rw[List.getElem?_eq_none (by omega),List.getElem?_eq_none (by simpa using h)];rfl
theorem zF{β:Type}(f:Nat->List β)(h:∀k,f (2*k)=[]):∀m,(List.range (2*m+1)).flatMap f=(List.range m).flatMap fun k=>f (2*k+1)
 | 0=>by
  have:=h 0;simp[List.range_succ,this]
 | m+1=>by
  rw[show 2*(m+1)+1=2*m+1+1+1 by omega,List.range_succ,List.range_succ (n:=2*m+1),List.range_succ (n:=m),List.flatMap_append,List.flatMap_append,List.flatMap_append,zF f h m];have:=h (m+1);rw[show 2*(m+1)=2*m+1+1 by omega] at this;simp[this]
theorem uK{α β:Type}{f g:α->List β}:∀{l:List α},(∀a∈l,f a=g a)->l.flatMap f=l.flatMap g
 | [],_=>rfl
 | a::l,h=>by
  rw[List.flatMap_cons,List.flatMap_cons,h a aF,uK fun b hb=>h b (ar _ hb)]
theorem y7{α β:Type}(s0 s1:Str)(hs:s0≠s1)(a b:Nat->Prop)[∀k,Decidable (a k)][∀k,Decidable (b k)](x y:Nat->α):∀n,(((List.range n).flatMap fun k=>g9 (a k) (x k,(s0,((k:Nat):Int)))++g9 (b k) (y k,(s1,((k:Nat):Int)))).map (·.2)).Nodup/\
  ∀e∈((List.range n).flatMap fun k=>g9 (a k) (x k,(s0,((k:Nat):Int)))++g9 (b k) (y k,(s1,((k:Nat):Int)))).map (·.2),(e.1=s0\/e.1=s1)/\e.2<(n:Int)
 | 0=>by simp
 | n+1=>by
  obtain⟨h1,h2⟩:=y7 (β:=β) s0 s1 hs a b x y n;have new:∀e∈(g9 (a n) (x n,(s0,((n:Nat):Int)))++g9 (b n) (y n,(s1,((n:Nat):Int)))).map (·.2),(e.1=s0\/e.1=s1)/\e.2=(n:Int):=fun e he=>by
   unfold g9 at he;split at he<;>split at he<;>simp at he
   ·rcases he with rfl | rfl
    ·exact⟨.inl rfl,rfl⟩
    ·exact⟨.inr rfl,rfl⟩
   ·subst he;exact⟨.inl rfl,rfl⟩
   ·subst he;exact⟨.inr rfl,rfl⟩
  rw[List.range_succ,List.flatMap_append,aE];refine⟨List.nodup_append.mpr ⟨h1,?_,fun e he e' yf z=>?_⟩,fun e he=>?_⟩
  ·simp only[List.flatMap_cons,List.flatMap_nil,List.append_nil];unfold g9;split<;>split<;>simp[hs]
  ·simp only[List.flatMap_cons,List.flatMap_nil,List.append_nil] at yf;have:=(h2 e he).2;have:=(new e' yf).2;rw[z] at *;omega
  ·rcases aI.mp he with he | he
   ·have:=h2 e he;exact⟨this.1,by omega⟩
   ·simp only[List.flatMap_cons,List.flatMap_nil,List.append_nil] at he;have:=new e he;exact⟨this.1,by omega⟩
theorem Ee{α:Type}(a b:Nat->Prop)[∀k,Decidable (a k)][∀k,Decidable (b k)](x y:Nat->α)(n:Nat):((List.range n).flatMap fun k=>g9 (a k) (x k)++g9 (b k) (y k)).length<=n*2:=by
 have:=xC (f:=fun k=>g9 (a k) (x k)++g9 (b k) (y k)) (k:=2) (fun k=>by unfold g9;split<;>split<;>simp) (List.range n);simpa using this
section
variable {R S:Nat} {rows:List (List Nat)} {g:Nat->Nat->Nat}
theorem JS:((tI R S g++tG R S g).map (·.2)).Nodup:=by
 rw[aE];have h1:=y7 (α:=N3) (β:=Nat) "left" "right" (by decide +kernel) (fun k=>g (2*k+1) 0=45) (fun k=>g (2*k+1) (S-1)=45) (fun k=>(2*k+1,0,0)) (fun k=>(2*k+1,S-1,0)) (R/2);have h2:=y7 (α:=N3) (β:=Nat) "top" "bottom" (by decide +kernel) (fun k=>g 0 (2*k+1)=124) (fun k=>g (R-1) (2*k+1)=124) (fun k=>(0,2*k+1,1)) (fun k=>(R-1,2*k+1,1)) (S/2);refine List.nodup_append.mpr ⟨h1.1,h2.1,fun e he e' yf z=>?_⟩;subst z;rcases(h1.2 e he).1 with a | a<;>rcases(h2.2 e yf).1 with b | b<;>(rw[a] at b;exact absurd b (by decide +kernel))
theorem LH(h:R/2*2+S/2*2<64):(tI R S g++tG R S g).length<64:=by
 have h1:=Ee (fun k=>g (2*k+1) 0=45) (fun k=>g (2*k+1) (S-1)=45) (fun k=>(((2*k+1,0,0),("left",((k:Nat):Int))):N3×cI)) (fun k=>((2*k+1,S-1,0),("right",((k:Nat):Int)))) (R/2);have h2:=Ee (fun k=>g 0 (2*k+1)=124) (fun k=>g (R-1) (2*k+1)=124) (fun k=>(((0,2*k+1,1),("top",((k:Nat):Int))):N3×cI)) (fun k=>((R-1,2*k+1,1),("bottom",((k:Nat):Int)))) (S/2);rw[aC];unfold tI tG;omega
theorem y4(a b:Nat->Bool):∀n,(∀i,i<n->a i=b i)->gO a n=gO b n
 | 0,_=>rfl
 | n+1,h=>by
  show(if a n=true then gO a n else n+1)=if b n=true then gO b n else n+1
  rw[h n (Nat.lt_succ_self n),y4 a b n fun i hi=>h i (Nat.lt_succ_of_lt hi)]
theorem xn{α β:Type}{b:Prop}[Decidable b](f:α->β)(x:α):(g9 b x).map f=g9 b (f x):=by
 unfold g9;split<;>rfl
theorem JR(P:fT R S rows)(hS:S%2=1){r:Nat}(hr:r<R)(ev:r%2=0):ik false "left" "right" (rows.getD r [],r)=[]:=by
 have ju:r<rows.length:=by rw[P.len];exact hr
 have e1:rows[r]?=some (rows.getD r []):=by rw[ag,ae ju];rfl
 have hl:(rows.getD r []).length=S:=P.eG _ (av e1);have k1:gv rows r 0=32:=(P.ok r 0 hr (by omega)).2.1 ev rfl;have k2:gv rows r (S-1)=32:=(P.ok r (S-1) hr (by omega)).2.1 ev (by omega);unfold ik;rw[hl,nC P.len P.eG e1 (s:=0) (by omega),nC P.len P.eG e1 (s:=S-1) (by omega),k1,k2,if_neg (by decide),if_neg (by decide)];rfl
theorem HD(P:fT R S rows)(hS:S%2=1){k:Nat}(hr:2*k+1<R):ik false "left" "right" (rows.getD (2*k+1) [],2*k+1) =
  (g9 (gv rows (2*k+1) 0=45) (((2*k+1,0,0),("left",((k:Nat):Int))):N3×cI)++g9 (gv rows (2*k+1) (S-1)=45) (((2*k+1,S-1,0),("right",((k:Nat):Int))):N3×cI)).map fun q=>(ph (gv rows) q.1,q.2):=by
 have ju:2*k+1<rows.length:=by rw[P.len];exact hr
 have e1:rows[2*k+1]?=some (rows.getD (2*k+1) []):=by rw[ag,ae ju];rfl
 have hl:(rows.getD (2*k+1) []).length=S:=P.eG _ (av e1);have hh:(2*k+1)/2=k:=by omega
 unfold ik;rw[hl,nC P.len P.eG e1 (s:=0) (by omega),nC P.len P.eG e1 (s:=S-1) (by omega),aE,xn,xn];simp only[hh];have er:gO (gr false (rows.getD (2*k+1) [])) (S-1)=gO (Bl (gv rows) (2*k+1)) (S-1):=y4 _ _ _ fun i hi=>by
  unfold gr Bl;have:=nC P.len P.eG e1 (s:=i) (by omega);rw[ag (l:=rows.getD (2*k+1) []),this];rfl
 rw[er];unfold g9;simp only[aH];rfl
theorem LG(P:fT R S rows)(hR:R%2=1)(hS:S%2=1):pU false "left" "right" rows=(tI R S (gv rows)).map fun q=>(ph (gv rows) q.1,q.2):=by
 unfold pU tI;rw[Ey [] rows,List.flatMap_map,List.map_flatMap,P.len];have hm:R=2*(R/2)+1:=by omega
 have key:=zF (fun r=>if r<R then ik false "left" "right" (rows.getD r [],r) else []) (fun k=>by
  split
  ·exact JR P hS (by assumption) (by omega)
  ·rfl) (R/2)
 rw[<-hm] at key;have e1:(List.range R).flatMap (fun a=>ik false "left" "right" (rows.getD a [],a))=(List.range R).flatMap fun r=>if r<R then ik false "left" "right" (rows.getD r [],r) else []:=uK fun r hr=>by rw[if_pos (by simpa using hr)]
 rw[e1,key];refine uK fun k hk=>?_
 have hk:k<R/2:=by simpa using hk
 rw[if_pos (by omega)];exact HD P hS (by omega)
theorem t9(P:fT R S rows){k i:Nat}(hi:i<R):(ft rows k)[i]?=some (gv rows i k):=by
 have ju:i<rows.length:=by rw[P.len];exact hi
 unfold ft gv;rw[aj,ae ju,ag (l:=rows),ae ju];rfl
theorem DM(P:fT R S rows)(k:Nat):(ft rows k).length=R:=by unfold ft;rw[af,P.len]
theorem JQ(P:fT R S rows)(hR:R%2=1){r:Nat}(hr:r<S)(ev:r%2=0):ik true "top" "bottom" (ft rows r,r)=[]:=by
 have k1:gv rows 0 r=32:=(P.ok 0 r (by omega) hr).2.1 rfl ev;have k2:gv rows (R-1) r=32:=(P.ok (R-1) r (by omega) hr).2.1 (by omega) ev;unfold ik;rw[DM P,t9 P (i:=0) (by omega),t9 P (i:=R-1) (by omega),k1,k2,if_neg (by decide),if_neg (by decide)];rfl
theorem HC(P:fT R S rows)(hR:R%2=1){k:Nat}(hr:2*k+1<S):ik true "top" "bottom" (ft rows (2*k+1),2*k+1) =
  (g9 (gv rows 0 (2*k+1)=124) (((0,2*k+1,1),("top",((k:Nat):Int))):N3×cI)++g9 (gv rows (R-1) (2*k+1)=124) (((R-1,2*k+1,1),("bottom",((k:Nat):Int))):N3×cI)).map fun q=>(ph (gv rows) q.1,q.2):=by
 have hh:(2*k+1)/2=k:=by omega
 unfold ik;rw[DM P,t9 P (i:=0) (by omega),t9 P (i:=R-1) (by omega),aE,xn,xn];simp only[hh];have er:gO (gr true (ft rows (2*k+1))) (R-1)=gO (AM (gv rows) (2*k+1)) (R-1):=y4 _ _ _ fun i hi=>by
  unfold gr AM;rw[ag,t9 P (by omega)];rfl
 rw[er];unfold g9;simp only[aH];rfl
theorem LF(P:fT R S rows)(hR:R%2=1)(hS:S%2=1):pU true "top" "bottom" (gP rows)=(tG R S (gv rows)).map fun q=>(ph (gv rows) q.1,q.2):=by
 unfold pU tG;have hw:=P.wd (by omega);have Qt:(gP rows).length=S:=by unfold gP;simp[hw]
 rw[Ey [] (gP rows),List.flatMap_map,List.map_flatMap,Qt];have hc:∀r,r<S->(gP rows).getD r []=ft rows r:=fun r hr=>by
  unfold gP;rw[ag,aj,List.getElem?_range (by rw[hw];exact hr)];rfl
 have hm:S=2*(S/2)+1:=by omega
 have key:=zF (fun r=>if r<S then ik true "top" "bottom" (ft rows r,r) else []) (fun k=>by
  split
  ·exact JQ P hR (by assumption) (by omega)
  ·rfl) (S/2)
 rw[<-hm] at key;have e1:(List.range S).flatMap (fun a=>ik true "top" "bottom" ((gP rows).getD a [],a))=(List.range S).flatMap fun r=>if r<S then ik true "top" "bottom" (ft rows r,r) else []:=uK fun r hr=>by rw[if_pos (by simpa using hr),hc r (by simpa using hr)]
 rw[e1,key];refine uK fun k hk=>?_
 have hk:k<S/2:=by simpa using hk
 rw[if_pos (by omega)];exact HC P hR (by omega)
theorem JP(P:fT R S rows)(hR:R%2=1)(hS:S%2=1):endsF rows=(tI R S (gv rows)++tG R S (gv rows)).map fun q=>(ph (gv rows) q.1,q.2):=by
 unfold endsF;rw[LG P hR hS,LF P hR hS,aE]
end
end Wc
namespace Wc
open PySem L2 PyProof.Rows
theorem L5{l:List Nat}{k i c:Nat}(h1:k-1<=i)(h2:i<k+2)(h:l[i]?=some c):c∈kg l k:=by
 unfold kg;refine av (i:=i-(k-1)) ?_;rw[List.getElem?_take,if_pos (by omega),List.getElem?_drop,show k-1+(i-(k-1))=i by omega];exact h
theorem xG{m:Nat}{p:Nat->Bool}{l:List Nat}(h:kG m p l=true){j i c:Nat}(hj:l[2*j]?=some m)(h1:2*j-1<=i)(h2:i<2*j+2)(hi:l[i]?=some c):p c=true:=by
 unfold kG at h;rw[aP] at h;have hl:=(ai.mp hj).1;have:=h j (by rw[List.mem_range];omega);rw[Bool.or_eq_true] at this;rcases this with z | z
 ·rw[hj] at z;simp at z
 ·rw[aP] at z;exact z c (L5 h1 h2 hi)
theorem DL{rows:List (List Nat)}(hd:cZ rows=true):fT rows.length (wd rows) rows/\rows.length%2=1/\wd rows%2=1/\3<=wd rows:=by
 obtain⟨hf,hs,hh,hv⟩:=zG hd;have hw:=ux hf;unfold iT at hf;simp only[aO,aY] at hf;refine⟨⟨rfl,hw.2,fun r s hr qA=>?_⟩,hf.1.1.1,hf.1.1.2,hf.1.2⟩;have nk:∀r s,r<rows.length->s<wd rows->(rows.getD r [])[s]?=some (gv rows r s):=fun r s hr hs=>nC rfl hw.2 (by rw[ag,ae hr];rfl) hs
 have mi:∀r,r<rows.length->rows.getD r []∈rows:=fun r hr=>by
  rw[ag,ae hr,aS];exact aQ _
 have ok:ic r s (gv rows r s)=true:=by
  unfold pd at hs;rw[aP] at hs
  have h1:=hs (rows.getD r [],r) (List.mem_zipIdx_iff_getElem?.mpr (by
   show rows[r]?=some (rows.getD r []);rw[ag,ae hr];rfl))
  rw[aP] at h1;exact h1 (gv rows r s,s) (List.mem_zipIdx_iff_getElem?.mpr (nk r s hr qA))
 have sC:∀i k,i<rows.length->(ft rows k)[i]?=some (gv rows i k):=fun i k hi=>by
  unfold ft gv;rw[aj,ae hi,ag (l:=rows),ae hi];rfl
 unfold ic at ok;simp only[Bool.or_eq_true,aO,aY] at ok;refine⟨fun a b=>?_,fun a b=>?_,fun a b=>?_,fun a b=>?_⟩
 ·simp only[au,List.not_mem_nil,or_false];omega
 ·omega
 ·by_cases e:gv rows r s=32
  ·exact .inl e
  ·have qH:gv rows r s=45:=by omega
   refine .inr ⟨qH,fun z=>?_,fun z=>?_⟩;all_goals
    have hl:=aP.mp hh _ (mi r hr);have hj:(rows.getD r [])[2*(s/2)]?=some 45:=by rw[show 2*(s/2)=s by omega,nk r s hr qA,qH]
   ·exact xG hl hj (i:=s-1) (by omega) (by omega) (nk r (s-1) hr (by omega))
   ·exact xG hl hj (i:=s+1) (by omega) (by omega) (nk r (s+1) hr (by omega))
 ·by_cases e:gv rows r s=32
  ·exact .inl e
  ·have wg:gv rows r s=124:=by omega
   refine .inr ⟨wg,fun z=>?_,fun z=>?_⟩;all_goals
    have hl:=aP.mp hv (ft rows s) (by unfold gP;exact aK.mpr ⟨s,List.mem_range.mpr qA,rfl⟩);have hj:(ft rows s)[2*(r/2)]?=some 124:=by rw[show 2*(r/2)=r by omega,sC r s hr,wg]
   ·exact xG hl hj (i:=r-1) (by omega) (by omega) (sC (r-1) s (by omega))
   ·exact xG hl hj (i:=r+1) (by omega) (by omega) (sC (r+1) s (by omega))
theorem JO{rows:List (List Nat)}(hd:cZ rows=true)(h:rows.length/2*2+wd rows/2*2<64):(endsF rows).length<64/\((endsF rows).map (·.2)).Nodup:=by
 obtain⟨P,oR,oS,_⟩:=DL hd;rw[JP P oR oS];exact⟨by rw[af];exact LH h,by rw[aD];exact JS⟩
end Wc
namespace Wc
open PySem L2 PyProof.Rows
end Wc
open PySem L2 PyProof.Rows Wc
local macro_rules | `(tactic| walk_at "px")=>`(tactic| (repeat(first | walk_at "b" | simp only[tj,yF,sP,yM,yU])))
namespace Wc
open PySem L2 PyProof.Rows
noncomputable def j0(c:Nat):D:=.str (bS [c])
noncomputable def gu(rows:List (List Nat)):List (List D):=rows.map fun l=>l.map j0
noncomputable def ym(rows:List (List Nat)):D:=.lst ((gu rows).map .lst)
theorem lr{α:Type}{l:List α}{j:Nat}(h:j<l.length):dz l (j:Int)=l[j]?:=by rw[oH h,ae h]
def rC:eX:=fun ds Q=>∃(ns:List Int) (k m:Nat),ds=[dI ns,.int k,.int m]/\ns.length<=1000/\0<m/\k<=100000/\∀d:Nat,d<m->Q (.fz (.int d))
def Ah:TX:=(cp (fh (dh (bJ (ie fun i j=>.bl (decide (i<j))) (bJ dX (bH 1) (dC (.int 2))) (gS jM (bK (bH 0) bU)))) (eF (bJ (oI (fun _ j=>0<j) fun i j=>.int (i%j)) (fm 2 qe (bK (bJ fq (bH 0) (bJ dX (bH 1) (dC (.int 2)))) (bK (bJ (oI (fun _ j=>0<j) fun i j=>.int (i%j)) (bH 1) (dC (.int 7))) bU))) (bH 2))) fw)
 (eF (bJ (oI (fun _ j=>0<j) fun i j=>.int (i%j)) (fm 2 qe (bK (gS sM (bK (lT (bH 0) m8 (ke (dC (.int 1)))) bU)) (bK (bH 1) bU))) (bH 2))))
theorem Oq(ds:List D)(Qr:R->Prop)(hl:ds.length=3)(h:rC ds Qr):Ah { nx:=fun _=>Qr (.fz .non),rt:=Qr } (gm ["_law_script","_law_k","_law_many"] ds):=by
 obtain⟨ns,k,m,rfl,hn,hm,hk,q⟩:=h;show Ah _ [.fz (dI ns),.fz (.int k),.fz (.int m)];unfold Ah dI;have big:=iV;have fin:∀x:Int,Qr (.fz (.int (x%(m:Int)))):=fun x=>by
  have h1:=Int.emod_nonneg x (show(m:Int)≠0 by omega);have h2:=Int.emod_lt_of_pos x (show(0:Int)<m by omega);have:=q (x%(m:Int)).toNat (by omega);rw[Int.toNat_of_nonneg h1] at this;exact this
 walk_at "px";split
 ·rename_i h;rw[af] at h;refine⟨ns[k+2]'(by omega),?_,_,_,rfl,by omega,by omega,by omega,fin _⟩;rw[show((k:Int)+2)=((k+2:Nat):Int) by omega,oH (by omega)]
 ·walk_at "go";exact⟨_,_,rfl,by omega,by omega,by omega,fin _⟩
noncomputable def tW(p:Int×Int):D:=.tup [.int p.1,.int p.2]
noncomputable def fV(R S:Nat)(g:Nat->Nat->Nat)(p:Nat->Bool)(q:Int×Int):Bool:=!(decide (0<=q.1/\q.1<R)&&decide (0<=q.2/\q.2<S))||p (g q.1.toNat q.2.toNat)
noncomputable def gF(b:Bool)(rows:List (List Nat)):D:=if b then fS rows else ym rows
def qd:eX:=fun ds Q=>∃(b:Bool) (R S:Nat) (rows:List (List Nat)) (mY:List (Int×Int)) (w:Str) (p:Nat->Bool),ds=[gF b rows,.lst (mY.map tW),.str w]/\rows.length=R/\(∀l∈rows,l.length=S)/\0<R/\S<=1000/\(∀l∈rows,∀c∈l,c∈e7)/\(∀c∈e7,ko w c=p c)/\mY.length<=100/\Q (.fz (.bl (mY.all (fV R S (gv rows) p))))
def zU:TX:=(cp (jj (lb (bH 1)) (kc 2 (gn (dZ 3) (gn (dZ 4) jk))) (fh (kC (dh (uz (ie fun i j=>.bl (decide (i<=j))) (ie fun i j=>.bl (decide (i<j))) (dC (.int 0)) (bH 3) (gS jM (bK (bH 0) bU)))) (kC (dh (uz (ie fun i j=>.bl (decide (i<=j))) (ie fun i j=>.bl (decide (i<j))) (dC (.int 0)) (bH 4) (gS jM (bK (bJ fq (bH 0) (dC (.int 0))) bU)))) (dh (bJ (mP true) (bJ fq (bJ fq (bH 0) (bH 3)) (bH 4)) (bH 2))))) (eF (dC (.bl false))) fw))
 (eF (dC (.bl true))))
theorem Nq(ds:List D)(Qr:R->Prop)(hl:ds.length=3)(h:qd ds Qr):zU { nx:=fun _=>Qr (.fz .non),rt:=Qr } (gm ["_law_grid","_law_places","_law_wanted","_law_r","_law_s"] ds):=by
 obtain⟨b,R,S,rows,mY,w,p,rfl,hR,hS,Gr,RL,rY,ky,g4,q⟩:=h;show zU _ [.fz (gF b rows),.fz (.lst (mY.map tW)),.fz (.str w),.un,.un];unfold zU;have big:=iV;have e0:∃l0,rows[0]?=some l0/\l0.length=S:=⟨rows[0]'(by omega),ae _,hS _ (aQ _)⟩
 obtain⟨l0,e0,h0⟩:=e0;refine oO mY tW (fun Q' h=>?_) (fun i ρ=>∃a c:Sl,(mY.take i).all (fV R S (gv rows) p)=true/\ρ=[.fz (gF b rows),.fz (.lst (mY.map tW)),.fz (.str w),a,c]) ⟨_,_,by simp,rfl⟩ ?_ ?_
 ·walk_at "px";exact h
 ·rintro i ⟨r,s⟩ ρ hi ⟨a,c,dF,rfl⟩;have eL:((gu rows).map D.lst).length=R:=by unfold gu;simp[hR]
  have eg:(gu rows).length=R:=by unfold gu;simp[hR]
  have QV:dz (gu rows) 0=some (l0.map j0):=by
   rw[show(0:Int)=((0:Nat):Int) from rfl,lr (by omega)];unfold gu;rw[aj,e0];rfl
  have tk:(mY.take (i+1)).all (fV R S (gv rows) p)=((mY.take i).all (fV R S (gv rows) p)&&fV R S (gv rows) p (r,s)):=by
   rw[List.take_add_one,hi,List.all_append];simp
  have bad:fV R S (gv rows) p (r,s)=false->mY.all (fV R S (gv rows) p)=false:=fun h=>by
   cases e:mY.all (fV R S (gv rows) p) with
   | false=>rfl
   | true=>
    rw[aP] at e;rw[e _ (av hi)] at h;cases h
  have eS:(rows.map fun l=>D.str (bS l)).length=R:=by rw[af,hR]
  have QU:dz rows 0=some l0:=by
   rw[show(0:Int)=((0:Nat):Int) from rfl,lr (by omega),e0]
  have fW:∀l:List Nat,(bS l).length=l.length:=fun l=>by simp[bS,Str.length]
  have O9:(bS l0).length=S:=by rw[fW,h0]
  cases b with
  | false=>
   rw[show tW (r,s)=.tup [.int r,.int s] from rfl,show gF false rows=.lst ((gu rows).map .lst) from rfl];walk_at "px";rw[eL];by_cases h1:0<=r
   ·rw[if_pos h1];by_cases h2:r<R
    ·rw[if_pos h2];by_cases h3:0<=s
     ·rw[if_pos h3];refine⟨_,QV,?_⟩;walk_at "px";rw[af,h0];by_cases h4:s<S
      ·rw[if_pos h4];obtain⟨rn,rfl⟩:∃n:Nat,r=n:=⟨r.toNat,by omega⟩
       obtain⟨sn,rfl⟩:∃n:Nat,s=n:=⟨s.toNat,by omega⟩
       have ju:rn<rows.length:=by omega
       have er:rows[rn]?=some rows[rn]:=ae ju;have es:=nC hR hS er (s:=sn) (by omega);have hm:gv rows rn sn∈e7:=rY _ (aQ _) _ (av es);have a1:dz (gu rows) (rn:Nat)=some (rows[rn].map j0):=by
        rw[lr (by omega)];unfold gu;rw[aj,er];rfl
       have a2:dz rows[rn] (sn:Nat)=some (gv rows rn sn):=by
        rw[lr (by rw[hS _ (aQ _)];omega),es]
       refine⟨_,a1,?_⟩;walk_at "px";refine⟨_,a2,?_⟩;have hp:(Builtin.Str.occurrences w ⟨#[gv rows rn sn]⟩ 0 w.length 1).isEmpty=!(p (gv rows rn sn)):=by
        rw[<-ky _ hm];unfold ko;rw[Bool.not_not]
       have lf:fV R S (gv rows) p ((rn:Int),(sn:Int))=p (gv rows rn sn):=by
        unfold fV;have g1:(0:Int)<=rn/\(rn:Int)<R:=⟨by omega,by omega⟩
        have g2:(0:Int)<=sn/\(sn:Int)<S:=⟨by omega,by omega⟩
        simp[g1,g2]
       show(if (!!(Builtin.Str.occurrences w ⟨#[gv rows rn sn]⟩ 0 w.length 1).isEmpty)=true then _ else _);rw[hp];cases hb:p (gv rows rn sn) with
       | false=>
        rw[if_pos (by decide)];rw[bad (by rw[lf,hb])] at q;exact q
       | true=>
        rw[if_neg (by simp)];exact⟨_,_,by rw[tk,dF,lf,hb];rfl,rfl⟩
      ·rw[if_neg h4];exact⟨_,_,by rw[tk,dF];unfold fV;simp[h4],rfl⟩
     ·rw[if_neg h3];exact⟨_,_,by rw[tk,dF];unfold fV;simp[h3],rfl⟩
    ·rw[if_neg h2];exact⟨_,_,by rw[tk,dF];unfold fV;simp[h2],rfl⟩
   ·rw[if_neg h1];exact⟨_,_,by rw[tk,dF];unfold fV;simp[h1],rfl⟩
  | true=>
   rw[show tW (r,s)=.tup [.int r,.int s] from rfl,show gF true rows=.lst (rows.map fun l=>.str (bS l)) from rfl];walk_at "px";rw[eS];by_cases h1:0<=r
   ·rw[if_pos h1];by_cases h2:r<R
    ·rw[if_pos h2];by_cases h3:0<=s
     ·rw[if_pos h3];refine⟨_,QU,?_⟩;walk_at "px";rw[O9];refine⟨by omega,?_⟩;by_cases h4:s<S
      ·rw[if_pos h4];obtain⟨rn,rfl⟩:∃n:Nat,r=n:=⟨r.toNat,by omega⟩
       obtain⟨sn,rfl⟩:∃n:Nat,s=n:=⟨s.toNat,by omega⟩
       have ju:rn<rows.length:=by omega
       have er:rows[rn]?=some rows[rn]:=ae ju;have es:=nC hR hS er (s:=sn) (by omega);have hm:gv rows rn sn∈e7:=rY _ (aQ _) _ (av es);have a1:dz rows (rn:Nat)=some rows[rn]:=by
        rw[lr (by omega),er]
       have PJ:rows[rn].length=S:=hS _ (aQ _);have a2:dz rows[rn] (sn:Nat)=some (gv rows rn sn):=by
        rw[lr (by rw[hS _ (aQ _)];omega),es]
       refine⟨_,a1,?_⟩;walk_at "px";refine⟨by rw[fW,PJ];omega,_,by rw[kl];exact a2,?_⟩;have hp:(Builtin.Str.occurrences w ⟨#[gv rows rn sn]⟩ 0 w.length 1).isEmpty=!(p (gv rows rn sn)):=by
        rw[<-ky _ hm];unfold ko;rw[Bool.not_not]
       have lf:fV R S (gv rows) p ((rn:Int),(sn:Int))=p (gv rows rn sn):=by
        unfold fV;have g1:(0:Int)<=rn/\(rn:Int)<R:=⟨by omega,by omega⟩
        have g2:(0:Int)<=sn/\(sn:Int)<S:=⟨by omega,by omega⟩
        simp[g1,g2]
       show(if (!!(Builtin.Str.occurrences w ⟨#[gv rows rn sn]⟩ 0 w.length 1).isEmpty)=true then _ else _);rw[hp];cases hb:p (gv rows rn sn) with
       | false=>
        rw[if_pos (by decide)];rw[bad (by rw[lf,hb])] at q;exact q
       | true=>
        rw[if_neg (by simp)];exact⟨_,_,by rw[tk,dF,lf,hb];rfl,rfl⟩
      ·rw[if_neg h4];exact⟨_,_,by rw[tk,dF];unfold fV;simp[h4],rfl⟩
     ·rw[if_neg h3];exact⟨_,_,by rw[tk,dF];unfold fV;simp[h3],rfl⟩
    ·rw[if_neg h2];exact⟨_,_,by rw[tk,dF];unfold fV;simp[h2],rfl⟩
   ·rw[if_neg h1];exact⟨_,_,by rw[tk,dF];unfold fV;simp[h1],rfl⟩
 ·rintro ρ ⟨a,c,dF,rfl⟩;rw[List.take_length] at dF;walk_at "go";rw[dF] at q;exact q
end Wc
namespace Wc
open PySem L2 PyProof.Rows
def u6:eX:=fun ds Q=>∃(ns:List Int) (high wide:Nat),ds=[dI ns,.int high,.int wide]/\ns.length<=1000/\high<=20/\1<=wide/\wide<=20/\∀(t w:Nat) (rows:List (List Nat)),t<=high->1<=w->w<=wide->fT (2*t+1) (2*w+1) rows->Q (.ov (.ll (gu rows)))
theorem xc{n k:Nat}(h:k<n):jV n (k:Int)=some k:=by
 unfold jV;rw[if_pos (by omega),if_pos (by omega),bh]
theorem zz{rows:List (List Nat)}{r s c:Nat}:(gu rows).set r (((rows.getD r []).map j0).set s (j0 c))=gu (kD rows r s c):=by
 unfold gu kD;rw[List.map_set,List.map_set]
theorem y3{rows:List (List Nat)}{r:Nat}(h:r<rows.length):(gu rows)[r]?=some ((rows.getD r []).map j0):=by
 unfold gu;rw[aj,ag,ae h];rfl
theorem OJ:∀d,d<8->∃c∈[32,45,124,43,35],dz (" -|+#+#-":Str).cps.toList ((d:Nat):Int)=some c:=by decide +kernel
theorem OI:∀d,d<3->∃c∈[32,45],dz (" --":Str).cps.toList ((d:Nat):Int)=some c:=by decide +kernel
theorem OH:∀d,d<3->∃c∈[32,124],dz (" ||":Str).cps.toList ((d:Nat):Int)=some c:=by decide +kernel
theorem wW{R S:Nat}{g:Nat->Nat->Nat}{p:Nat->Bool}{a b:Int×Int}(h:[a,b].all (fV R S g p)=true):((0<=a.1/\a.1<R)->(0<=a.2/\a.2<S)->p (g a.1.toNat a.2.toNat)=true)/\((0<=b.1/\b.1<R)->(0<=b.2/\b.2<S)->p (g b.1.toNat b.2.toNat)=true):=by
 simp only[List.all_cons,List.all_nil,Bool.and_true,aO] at h;unfold fV at h;refine⟨fun h1 h2=>?_,fun h1 h2=>?_⟩
 ·have:=h.1;rw[bf h1,bf h2] at this;simpa using this
 ·have:=h.2;rw[bf h1,bf h2] at this;simpa using this
def AB:TX:=(cp (eI 3 (fm 2 qe (bK (gS sM (bK (lT (bH 0) m8 (ke (dC (.int 1)))) bU)) (bK (dC (.int 801)) bU))))
 (cp (eI 4 (bJ (oI (fun _ j=>0<j) fun i j=>.int (i%j)) (bH 3) (bJ dX (bH 1) (dC (.int 1)))))
 (cp (eI 5 (bJ dX (dC (.int 1)) (bJ (oI (fun _ j=>0<j) fun i j=>.int (i%j)) (bJ (oI nA fun i j=>.int (i/j)) (bH 3) (dC (.int 64))) (bH 2))))
 (cp (l6 6 (rh (oC (bK (bJ dX (bJ (oI fU fun i j=>.int (i*j)) (dC (.int 2)) (bH 4)) (dC (.int 1))) bU)) [none,some 5] (dZ 0) ji (yF (jG (bK (dC (.str " ")) bU)) (bJ dX (bJ (oI fU fun i j=>.int (i*j)) (dC (.int 2)) (bH 1)) (dC (.int 1))))))
 (cp (eI 7 (dC (.int 0)))
 (cp (jj (oC (bK (bH 4) bU)) (dZ 8) (jj (oC (bK (bH 5) bU)) (dZ 9) (cp (tj 6 (bJ dX (bJ (oI fU fun i j=>.int (i*j)) (dC (.int 2)) (bH 8)) (dC (.int 1))) (bJ dX (bJ (oI fU fun i j=>.int (i*j)) (dC (.int 2)) (bH 9)) (dC (.int 1))) (bJ fq (dC (.str " -|+#+#-")) (fm 3 rC (bK (bH 0) (bK (bH 7) (bK (dC (.int 8)) bU))))))
 (eI 7 (bJ dX (bH 7) (dC (.int 1)))))))
 (cp (jj (oC (bK (bJ dX (bJ (oI fU fun i j=>.int (i*j)) (dC (.int 2)) (bH 4)) (dC (.int 1))) bU)) (dZ 10) (jj (oC (bK (bJ dX (bJ (oI fU fun i j=>.int (i*j)) (dC (.int 2)) (bH 5)) (dC (.int 1))) bU)) (dZ 11) (cp (fh (kC (dh (bJ oEq (bJ (oI (fun _ j=>0<j) fun i j=>.int (i%j)) (bH 10) (dC (.int 2))) (dC (.int 1)))) (kC (dh (bJ oEq (bJ (oI (fun _ j=>0<j) fun i j=>.int (i%j)) (bH 11) (dC (.int 2))) (dC (.int 0)))) (dh (wX 6 (fm 3 qd (bK (bH 6) (bK (jG (bK (jH (bK (bH 10) (bK (bJ (ie fun i j=>.int (i-j)) (bH 11) (dC (.int 1))) bU))) (bK (jH (bK (bH 10) (bK (bJ dX (bH 11) (dC (.int 1))) bU))) bU))) (bK (dC (.str "-+#")) bU)))))))) (cp (tj 6 (bH 10) (bH 11) (bJ fq (dC (.str " --")) (fm 3 rC (bK (bH 0) (bK (bH 7) (bK (dC (.int 3)) bU))))))
 (eI 7 (bJ dX (bH 7) (dC (.int 1))))) fw)
 (fh (kC (dh (bJ oEq (bJ (oI (fun _ j=>0<j) fun i j=>.int (i%j)) (bH 10) (dC (.int 2))) (dC (.int 0)))) (kC (dh (bJ oEq (bJ (oI (fun _ j=>0<j) fun i j=>.int (i%j)) (bH 11) (dC (.int 2))) (dC (.int 1)))) (dh (wX 6 (fm 3 qd (bK (bH 6) (bK (jG (bK (jH (bK (bJ (ie fun i j=>.int (i-j)) (bH 10) (dC (.int 1))) (bK (bH 11) bU))) (bK (jH (bK (bJ dX (bH 10) (dC (.int 1))) (bK (bH 11) bU))) bU))) (bK (dC (.str "|+#")) bU)))))))) (cp (tj 6 (bH 10) (bH 11) (bJ fq (dC (.str " ||")) (fm 3 rC (bK (bH 0) (bK (bH 7) (bK (dC (.int 3)) bU))))))
 (eI 7 (bJ dX (bH 7) (dC (.int 1))))) fw))))
 (sP 6))))))))
theorem Oc(ds:List D)(Qr:R->Prop)(hl:ds.length=3)(h:u6 ds Qr):AB { nx:=fun _=>Qr (.fz .non),rt:=Qr } (gm ["_law_script","_law_high","_law_wide","_law_seed","_law_tracks","_law_width","_law_grid","_law_k","_law_t","_law_c","_law_r","_law_s"] ds):=by
 obtain⟨ns,high,wide,rfl,hn,hh,F5,Pp,q⟩:=h;show AB _ [.fz (dI ns),.fz (.int high),.fz (.int wide),.un,.un,.un,.un,.un,.un,.un,.un,.un];unfold AB dI;have big:=iV;walk_at "px";refine⟨_,_,rfl,by decide,by decide,?_⟩;have sn:=Dj (ix ns none (some 1)).sum 801;generalize wI _ _=gx at sn ⊢;walk_at "go";refine⟨by omega,?_⟩;have t0:=Int.emod_nonneg gx (show(high:Int)+1≠0 by omega);have t1:=Int.emod_lt_of_pos gx (show(0:Int)<(high:Int)+1 by omega);obtain⟨t,ht⟩:∃t:Nat,gx%((high:Int)+1)=t:=⟨(gx%((high:Int)+1)).toNat,by omega⟩
 rw[ht] at t1 ⊢;walk_at "go";refine⟨by omega,?_⟩;have w0:=Int.emod_nonneg (gx/64) (show(wide:Int)≠0 by omega);have w1:=Int.emod_lt_of_pos (gx/64) (show(0:Int)<(wide:Int) by omega);obtain⟨w,hw⟩:∃w:Nat,1+gx/64%(wide:Int)=w:=⟨(1+gx/64%(wide:Int)).toNat,by omega⟩
 have F4:1<=w/\w<=wide:=by omega
 rw[hw];walk_at "go";have tt:(2*(t:Int)+1)=((2*t+1:Nat):Int):=by omega
 have ww:(2*(w:Int)+1)=((2*w+1:Nat):Int):=by omega
 refine Fe (List.range (2*t+1)) (fun i=>D.int (i:Nat)) (fun _=>List.replicate (2*w+1) (j0 32)) (fun Q' h=>?_) (by simp;omega) (fun _ _ K1 k1=>?_) ?_
 ·walk_at "px";rw[tt,bh];refine⟨by omega,by omega,?_⟩;have e:(fun i:Nat=>D.int (0+(i:Int)))=fun i:Nat=>D.int (i:Int):=funext fun i=>by rw[Int.zero_add]
  rw[e];exact h
 ·walk_at "px";rw[ww,bh];refine⟨by omega,by omega,by omega,by omega,?_⟩;have e:(List.replicate (2*w+1) [D.str " "]).flatten=List.replicate (2*w+1) (j0 32):=by
   rw[show j0 32=D.str " " by unfold j0;congr 1];simp
  rw[e];exact k1
 have e0:(List.range (2*t+1)).map (fun _=>List.replicate (2*w+1) (j0 32))=gu (List.replicate (2*t+1) (List.replicate (2*w+1) 32)):=by
  unfold gu;rw[List.map_replicate,List.map_replicate];apply List.ext_getElem
  ·simp
  ·intro i h1 h2;simp
 rw[e0];have P0:j3 (2*t+1) (2*w+1) (List.replicate (2*t+1) (List.replicate (2*w+1) 32)):=by
  refine⟨by simp,fun l hl=>by rw[List.eq_of_mem_replicate hl];simp,fun r s hr hs=>?_⟩;have:gv (List.replicate (2*t+1) (List.replicate (2*w+1) 32)) r s=32:=by
   unfold gv;rw[ag (l:=List.replicate _ _),List.getElem?_replicate,if_pos hr,aS,ag,List.getElem?_replicate,if_pos hs];rfl
  rw[this];exact⟨by simp,fun _=>rfl⟩
 generalize List.replicate (2*t+1) (List.replicate (2*w+1) 32)=rows0 at P0 ⊢;walk_at "px";walk_at "go";walk_at "go";have zr:∀(n:Nat),n<1000->∀Q':List D->Prop,Q' ((List.range n).map fun(i:Nat)=>.int (0+i))->-4611686018427387904<=(n:Int)/\(n:Int)<4611686018427387904/\Q' ((List.range (n:Int).toNat).map fun(i:Nat)=>D.int (0+i)):=fun n hn Q' h=>⟨by omega,by omega,by rw[bh];exact h⟩
 refine tD t (fun Q' h=>?_) (fun i ρ=>∃(rows:List (List Nat)) (k:Nat) (a b c d:Sl),j3 (2*t+1) (2*w+1) rows/\k<=i*20/\ρ=[.fz (.lst (ns.map D.int)),.fz (.int high),.fz (.int wide),.fz (.int gx),.fz (.int t),.fz (.int w),.ov (.ll (gu rows)),.fz (.int k),a,b,c,d]) ⟨rows0,0,_,_,_,_,P0,bc _,rfl⟩ ?_ ?_
 ·walk_at "px";exact zr t (by omega) Q' h
 ·rintro i ρ hi ⟨rows,k,a,b,c,d,P,hk,rfl⟩;walk_at "px";refine tD w (fun Q' h=>?_) (fun j ρ=>∃(rows:List (List Nat)) (k:Nat) (b c d:Sl),j3 (2*t+1) (2*w+1) rows/\k<=i*20+j/\ρ=[.fz (.lst (ns.map D.int)),.fz (.int high),.fz (.int wide),.fz (.int gx),.fz (.int t),.fz (.int w),.ov (.ll (gu rows)),.fz (.int k),.fz (.int i),b,c,d]) ⟨rows,k,_,_,_,P,by omega,rfl⟩ ?_ ?_
  ·walk_at "px";exact zr w (by omega) Q' h
  ·rintro j ρ hj ⟨rows,k,b,c,d,P,hk,rfl⟩;walk_at "px";refine⟨ns,k,8,rfl,hn,by decide,by omega,fun dg hd=>?_⟩;obtain⟨ch,jf,sA⟩:=OJ dg hd;have hg:(gu rows).length=2*t+1:=by unfold gu;rw[af,P.len]
   have hr:2*i+1<rows.length:=by rw[P.len];omega
   have hm:rows.getD (2*i+1) []∈rows:=by
    rw[ag,ae hr,aS];exact aQ _
   have yb:=P.eG _ hm;refine⟨by decide +kernel,ch,sA,2*i+1,_,?_,y3 hr,2*j+1,?_,?_⟩
   ·rw[show(2*(i:Int)+1)=((2*i+1:Nat):Int) by omega];exact xc (by omega)
   ·rw[show(2*(j:Int)+1)=((2*j+1:Nat):Int) by omega];exact xc (by rw[af,yb];omega)
   ·rw[show D.str ⟨#[ch]⟩=j0 ch from rfl,zz];walk_at "go";exact⟨kD rows (2*i+1) (2*j+1) ch,k+1,_,_,_,P.set (by omega) (by omega) (by omega) (by omega) jf,by omega,rfl⟩
  ·rintro ρ ⟨rows,k,b,c,d,P,hk,rfl⟩;exact⟨rows,k,_,_,_,_,P,by omega,rfl⟩
 ·rintro ρ ⟨rows,k,a,b,c,d,P,hk,rfl⟩;walk_at "go";refine tD (2*t+1) (fun Q' h=>?_) (fun i ρ=>∃(rows:List (List Nat)) (k:Nat) (a b c d:Sl),fT (2*t+1) (2*w+1) rows/\k<=400+i*82/\ρ=[.fz (.lst (ns.map D.int)),.fz (.int high),.fz (.int wide),.fz (.int gx),.fz (.int t),.fz (.int w),.ov (.ll (gu rows)),.fz (.int k),a,b,c,d]) ⟨rows,k,_,_,_,_,P.OU,by omega,rfl⟩ ?_ ?_
  ·walk_at "px";rw[tt];exact zr _ (by omega) Q' h
  ·rintro i ρ hi ⟨rows,k,a,b,c,d,P,hk,rfl⟩;walk_at "px";refine tD (2*w+1) (fun Q' h=>?_) (fun j ρ=>∃(rows:List (List Nat)) (k:Nat) (d:Sl),fT (2*t+1) (2*w+1) rows/\k<=400+i*82+j*2/\ρ=[.fz (.lst (ns.map D.int)),.fz (.int high),.fz (.int wide),.fz (.int gx),.fz (.int t),.fz (.int w),.ov (.ll (gu rows)),.fz (.int k),a,b,.fz (.int i),d]) ⟨rows,k,_,P,by omega,rfl⟩ ?_ ?_
   ·walk_at "px";rw[ww];exact zr _ (by omega) Q' h
   ·rintro j ρ hj ⟨rows,k,d,P,hk,rfl⟩;have hg:(gu rows).length=2*t+1:=by unfold gu;rw[af,P.len]
    have hr:i<rows.length:=by rw[P.len];omega
    have hm:rows.getD i []∈rows:=by
     rw[ag,ae hr,aS];exact aQ _
    have yb:=P.eG _ hm;have rY:=(P.rb (by omega) (by omega)).e7;have x1:jV (gu rows).length (i:Int)=some i:=xc (by omega);have x2:jV ((rows.getD i []).map j0).length (j:Int)=some j:=xc (by rw[af,yb];omega);walk_at "px";by_cases c1:i%2=1
    ·rw[if_pos (by omega)];have skip:∀(cw:List (List Nat)) (k':Nat),fT (2*t+1) (2*w+1) cw->k'<=400+i*82+(j+1)*2->∃(rows:List (List Nat)) (k:Nat) (d:Sl),fT (2*t+1) (2*w+1) rows/\k<=400+i*82+(j+1)*2/\
       [.fz (.lst (ns.map D.int)),.fz (.int high),.fz (.int wide),.fz (.int gx),.fz (.int t),.fz (.int w),.ov (.ll (gu cw)),.fz (.int k'),a,b,.fz (.int i),.fz (.int j)]=[Sl.fz (.lst (ns.map D.int)),.fz (.int high),.fz (.int wide),.fz (.int gx),.fz (.int t),.fz (.int w),.ov (.ll (gu rows)),.fz (.int k),a,b,.fz (.int i),d]:=
      fun cw k' P' nZ=>⟨cw,k',_,P',nZ,rfl⟩
     by_cases c2:j%2=0
     ·rw[if_pos (by omega)];refine⟨by omega,by omega,by omega,false,2*t+1,2*w+1,rows,[((i:Int),(j:Int)-1),((i:Int),(j:Int)+1)],"-+#",iY,rfl,P.len,P.eG,by omega,by omega,rY,yL,by simp,rfl,?_⟩;cases hb:[((i:Int),(j:Int)-1),((i:Int),(j:Int)+1)].all (fV (2*t+1) (2*w+1) (gv rows) iY) with
      | true=>
       obtain⟨l1,l2⟩:=wW hb;walk_at "px";refine⟨ns,k,3,rfl,hn,by decide,by omega,fun dg hd=>?_⟩;obtain⟨ch,jf,sA⟩:=OI dg hd;refine⟨by decide +kernel,ch,sA,i,_,x1,y3 hr,j,x2,?_⟩;rw[show D.str ⟨#[ch]⟩=j0 ch from rfl,zz];walk_at "go";walk_at "go";rw[if_neg (by omega)];refine skip _ (k+1) (P.set hi hj (by omega) ?_) (by omega);have h2:ch=32\/ch=45:=by simpa using jf
       rcases h2 with h2 | h2
       ·exact .inl h2
       ·refine .inr (.inl ⟨c1,h2,fun z=>?_,fun z=>?_⟩)
        ·have:=l1 ⟨by omega,by omega⟩ ⟨by omega,by omega⟩;rw[show((i:Int)).toNat=i by omega,show((j:Int)-1).toNat=j-1 by omega] at this;exact this
        ·have:=l2 ⟨by omega,by omega⟩ ⟨by omega,by omega⟩;rw[show((i:Int)).toNat=i by omega,show((j:Int)+1).toNat=j+1 by omega] at this;exact this
      | false=>
       walk_at "px";walk_at "go";rw[if_neg (by omega)];exact skip _ k P (by omega)
     ·rw[if_neg (by omega)];walk_at "go";rw[if_neg (by omega)];exact skip _ k P (by omega)
    ·rw[if_neg (by omega)];walk_at "go";rw[if_pos (by omega)];by_cases c2:j%2=1
     ·rw[if_pos (by omega)];refine⟨by omega,by omega,by omega,false,2*t+1,2*w+1,rows,[((i:Int)-1,(j:Int)),((i:Int)+1,(j:Int))],"|+#",iu,rfl,P.len,P.eG,by omega,by omega,rY,ui,by simp,rfl,?_⟩;cases hb:[((i:Int)-1,(j:Int)),((i:Int)+1,(j:Int))].all (fV (2*t+1) (2*w+1) (gv rows) iu) with
      | true=>
       obtain⟨l1,l2⟩:=wW hb;walk_at "px";refine⟨ns,k,3,rfl,hn,by decide,by omega,fun dg hd=>?_⟩;obtain⟨ch,jf,sA⟩:=OH dg hd;refine⟨by decide +kernel,ch,sA,i,_,x1,y3 hr,j,x2,?_⟩;rw[show D.str ⟨#[ch]⟩=j0 ch from rfl,zz];walk_at "go";refine⟨_,k+1,_,P.set hi hj (by omega) ?_,by omega,rfl⟩;have h2:ch=32\/ch=124:=by simpa using jf
       rcases h2 with h2 | h2
       ·exact .inl h2
       ·refine .inr (.inr ⟨by omega,h2,fun z=>?_,fun z=>?_⟩)
        ·have:=l1 ⟨by omega,by omega⟩ ⟨by omega,by omega⟩;rw[show((j:Int)).toNat=j by omega,show((i:Int)-1).toNat=i-1 by omega] at this;exact this
        ·have:=l2 ⟨by omega,by omega⟩ ⟨by omega,by omega⟩;rw[show((j:Int)).toNat=j by omega,show((i:Int)+1).toNat=i+1 by omega] at this;exact this
      | false=>
       walk_at "px";exact⟨rows,k,_,P,by omega,rfl⟩
     ·rw[if_neg (by omega)];exact⟨rows,k,_,P,by omega,rfl⟩
   ·rintro ρ ⟨rows,k,d,P,hk,rfl⟩;exact⟨rows,k,_,_,_,_,P,by omega,rfl⟩
  ·rintro ρ ⟨rows,k,a,b,c,d,P,hk,rfl⟩;walk_at "go";exact q t w rows (by omega) F4.1 F4.2 P
end Wc
namespace Wc
open PySem L2 PyProof.Rows
end Wc
open PySem L2 PyProof.Rows Wc
local macro_rules | `(tactic| walk_at "px")=>`(tactic| (repeat(first | walk_at "b" | simp only[oB])))
namespace Wc
open PySem L2 PyProof.Rows
noncomputable def kb(c:Nat):List Nat->List (List Nat)
 | []=>[[]]
 | x::r=>if x=c then []::kb c r else match kb c r with
  | []=>[[x]]
  | h::t=>(x::h)::t
theorem JN(c:Nat):∀l,kb c l≠[]
 | []=>by simp[kb]
 | x::r=>by
  unfold kb;split
  ·simp
  ·split<;>simp
theorem Ed(c:Nat)(b:List Nat):∀a:List Nat,kb c (a++c::b)=kb c a++kb c b
 | []=>by simp[kb]
 | x::r=>by
  rw[List.cons_append,kb,Ed c b r];conv=>rhs;rw[kb]
  by_cases h:x=c
  ·simp[h]
  ·simp only[h,br];cases e:kb c r with
   | nil=>exact absurd e (JN c r)
   | cons u v=>simp
theorem Ad(c:Nat):∀a:List Nat,c∉a->kb c a=[a]
 | [],_=>rfl
 | x::r,h=>by
  simp only[au,not_or] at h;rw[kb,if_neg (fun z=>h.1 z.symm),Ad c r h.2]
noncomputable def kd(c:Nat):List (List Nat)->List Nat
 | []=>[]
 | [a]=>a
 | a::b::r=>a++c::kd c (b::r)
theorem xI(c:Nat):∀l:List (List Nat),l≠[]->(∀a∈l,c∉a)->kb c (kd c l)=l
 | [],h,_=>absurd rfl h
 | [a],_,h=>Ad c a (h a (by simp))
 | a::b::r,_,h=>by
  rw[kd,Ed,Ad c a (h a (by simp)),xI c (b::r) (by simp) fun z hz=>h z (by simp[hz])];rfl
theorem uJ(c:Nat):∀(l:List Str),(Txt.join ⟨#[c]⟩ l).cps.toList=kd c (l.map fun s=>s.cps.toList)
 | []=>rfl
 | [a]=>by rw[zJ];simp[kd]
 | a::b::r=>by
  have ih:=uJ c (b::r);rw[zJ] at ih ⊢;simp only[ao,kd];simp only[ao] at ih;rw[<-ih];simp
theorem Ew(x:Str)(c:Nat):(Txt.split x ⟨#[c]⟩).map (fun s=>s.cps.toList)=kb c x.cps.toList:=by
 have h1:Txt.join ⟨#[c]⟩ (Txt.split x ⟨#[c]⟩)=x:=(StrLaws.glued_eq_join _ _).trans (StrLaws.join_split x ⟨#[c]⟩);have h2:=StrLaws.split_free x c;have h3:Txt.split x ⟨#[c]⟩≠[]:=fun z=>by
  have:=PyProof.Rows.split_pos x ⟨#[c]⟩;rw[z] at this;simp at this
 have e:x.cps.toList=kd c ((Txt.split x ⟨#[c]⟩).map fun s=>s.cps.toList):=by
  rw[<-uJ];exact congrArg (fun s:Str=>s.cps.toList) h1.symm
 rw[e,xI]
 ·simpa using h3
 ·intro a ha;obtain⟨s,hs,rfl⟩:=aK.mp ha;exact h2 s hs
theorem Ac(c k:Nat):∀l:List (List Nat),(∀a∈l,a.length<=k)->(kd c l).length<=l.length*(k+1)
 | [],_=>by simp[kd]
 | [a],h=>by have:=h a (by simp);simp[kd];omega
 | a::b::r,h=>by
  have h1:=h a (by simp);have h2:=Ac c k (b::r) fun z hz=>h z (by simp[hz])
  rw[kd,aC,aA,aA (a:=a),Nat.succ_mul];omega
theorem uk:("\n":Str)=⟨#[10]⟩:=by decide +kernel
def uV:eX:=fun ds Q=>∃(R S:Nat) (rows:List (List Nat)),ds=[ym rows]/\fT R S rows/\0<R/\R<=41/\S<=41/\∀t:Str,Txt.split t "\n"=rows.map bS->t.length<10000->Q (.fz (.str t))
def Ag:TX:=(eF (dM "str" oB (dC (.str "\n")) (bK (jn (lb (bH 0)) [none] (dZ 0) ji (dM "str" oB (dC (.str "")) (bK (bH 0) bU))) bU)))
theorem Oo(ds:List D)(Qr:R->Prop)(hl:ds.length=1)(h:uV ds Qr):Ag { nx:=fun _=>Qr (.fz .non),rt:=Qr } (gm ["_law_grid"] ds):=by
 obtain⟨R,S,rows,rfl,P,Gr,hR,hS,q⟩:=h;show Ag _ [.fz (ym rows)];unfold Ag ym;have big:=iV;have e1:∀L:List Nat,((L.map fun c=>(⟨#[c]⟩:Str)).map fun x=>x.length).sum=L.length:=fun L=>by
  induction L with
  | nil=>rfl
  | cons a r ih=>rw[ao,ao,List.sum_cons,ih,aA];show 1+r.length=_;omega
 walk_at "px";refine⟨rfl,?_⟩;refine mV rows (fun l=>.lst (l.map j0)) (fun l=>.str (bS l)) (fun Q' h=>?_) (by have:=P.len;omega) (fun l hm K1 k1=>?_) ?_
 ·walk_at "px";unfold gu;rw[aD];exact h
 ·walk_at "px";have e:l.map j0=(l.map fun c=>(⟨#[c]⟩:Str)).map D.str:=by rw[aD];rfl
  rw[e];simp only[uZ];rw[Fm,e1,af,show(Str.ofString "").length=0 by decide +kernel];have:=P.eG l hm;exact⟨rfl,by omega,k1⟩
 ·have e:rows.map (fun l=>D.str (bS l))=(rows.map bS).map D.str:=by rw[aD];rfl
  rw[e];simp only[oB,zg,uZ];have hl:(rows.map bS).map (fun s=>s.cps.toList)=rows:=by
   rw[aD];have:(fun s:Str=>s.cps.toList)∘bS=id:=funext fun l=>by simp[bS]
   rw[this,List.map_id]
  have hc:(Txt.join "\n" (rows.map bS)).cps.toList=kd 10 rows:=by rw[uk,uJ,hl]
  have hf:∀a∈rows,10∉a:=fun a ha B7=>by
   have:=(P.rb (by omega) (by omega)).e7 a ha 10 B7;revert this
   decide
  have h1:∀a∈rows,a.length<=41:=fun a ha=>by rw[P.eG a ha];exact hS
  have h2:=Ac 10 41 rows h1;have h3:=P.len;have h4:rows.length*(41+1)<=41*42:=Nat.mul_le_mul (by omega) (by omega);refine⟨?_,q _ ?_ ?_⟩
  ·have:((rows.map bS).map (·.length)).sum<=rows.length*41:=by
    rw[aD];have:∀l:List (List Nat),(∀a∈l,a.length<=41)->(l.map ((fun x:Str=>x.length)∘bS)).sum<=l.length*41:=fun l=>by
     induction l with
     | nil=>intro _;simp
     | cons a r ih=>
      intro h;rw[ao,List.sum_cons,aA,Nat.succ_mul];have:=ih fun b hb=>h b (ar _ hb)
      have h5:=h a aF;have:(bS a).length=a.length:=by simp[bS,Str.length]
      simp only[Function.comp_apply];omega
    exact this rows h1
   rw[af,show(Str.ofString "\n").length=1 by decide +kernel];omega
  ·have:=Ew (Txt.join "\n" (rows.map bS)) 10;rw[hc,xI 10 rows (P.ne Gr) hf,<-uk] at this;have e2:bS∘(fun s:Str=>s.cps.toList)=id:=funext fun s=>yV s
   have:=congrArg (List.map bS) this;rw[aD,e2,List.map_id] at this;exact this
  ·have:(Txt.join "\n" (rows.map bS)).length=(kd 10 rows).length:=by rw[<-hc];simp[Str.length]
   rw[this];omega
end Wc
namespace Wc
open PySem L2 PyProof.Rows
end Wc
open PySem L2 PyProof.Rows Wc
local macro_rules | `(tactic| walk_at "px")=>`(tactic| (repeat(first | walk_at "b" | simp only[wQ])))
namespace Wc
open PySem L2 PyProof.Rows
theorem HB:(" ":Str).cps.toList=[32]:=by decide +kernel
theorem o9{c x:Nat}{w:Str}(h:w.cps.toList=[x]):((⟨#[c]⟩:Str)=w)↔c=x:=by
 constructor
 ·intro e;have:=congrArg (fun s:Str=>s.cps.toList) e;simp only[h] at this;simpa using this
 ·rintro rfl;exact(yT h).symm
theorem zy{w:Str}{b:Bool}{x:Nat}(h:ko w x=b):(Builtin.Str.occurrences w ⟨#[x]⟩ 0 w.length 1).isEmpty=!b:=by
 rw[<-h];unfold ko;rw[Bool.not_not]
def uR:eX:=fun ds Q=>∃r s c:Nat,ds=[.int r,.int s,.str ⟨#[c]⟩]/\c∈e7/\Q (.fz (.bl (ic r s c)))
def Am:TX:=(cp (fh (kC (dh (bJ oEq (bJ (oI (fun _ j=>0<j) fun i j=>.int (i%j)) (bH 0) (dC (.int 2))) (dC (.int 1)))) (dh (bJ oEq (bJ (oI (fun _ j=>0<j) fun i j=>.int (i%j)) (bH 1) (dC (.int 2))) (dC (.int 1))))) (eF (bJ (mP false) (bH 2) (dC (.str " -|+#")))) fw)
 (cp (fh (dh (bJ oEq (bJ (oI (fun _ j=>0<j) fun i j=>.int (i%j)) (bH 0) (dC (.int 2))) (dC (.int 1)))) (eF (bJ (mP false) (bH 2) (dC (.str " -")))) fw)
 (cp (fh (dh (bJ oEq (bJ (oI (fun _ j=>0<j) fun i j=>.int (i%j)) (bH 1) (dC (.int 2))) (dC (.int 1)))) (eF (bJ (mP false) (bH 2) (dC (.str " |")))) fw)
 (eF (bJ oEq (bH 2) (dC (.str " ")))))))
theorem NK(ds:List D)(Qr:R->Prop)(hl:ds.length=3)(h:uR ds Qr):Am { nx:=fun _=>Qr (.fz .non),rt:=Qr } (gm ["_law_row","_law_place","_law_sign"] ds):=by
 obtain⟨r,s,c,rfl,hc,q⟩:=h;show Am _ [.fz (.int r),.fz (.int s),.fz (.str ⟨#[c]⟩)];unfold Am;have big:=iV;have hs:=Ei r s c hc;unfold sU at hs;walk_at "px";by_cases h1:r%2=1
 ·rw[if_pos h1] at hs;rw[if_pos (by omega)];by_cases h2:s%2=1
  ·rw[if_pos h2] at hs;rw[if_pos (by omega),zy hs,Bool.not_not];exact q
  ·rw[if_neg h2] at hs;rw[if_neg (by omega)];walk_at "go";rw[if_pos (by omega),zy hs,Bool.not_not];exact q
 ·rw[if_neg h1] at hs;rw[if_neg (by omega)];walk_at "go";rw[if_neg (by omega)];walk_at "go";by_cases h2:s%2=1
  ·rw[if_pos h2] at hs;rw[if_pos (by omega),zy hs,Bool.not_not];exact q
  ·rw[if_neg h2] at hs;rw[if_neg (by omega)];walk_at "go";have:ic r s c=decide ((⟨#[c]⟩:Str)=" "):=by
    unfold ic;have e1:decide (r%2=1)=false:=aw h1;have e2:decide (s%2=1)=false:=aw h2;rw[e1,e2];simp only[Bool.false_and,Bool.or_false];exact decide_eq_decide.mpr (o9 HB).symm
   rw[this] at q;exact q
end Wc
namespace Wc
open PySem L2 PyProof.Rows
section
variable {R S:Nat} {g:Nat->Nat->Nat} {rows:List (List Nat)}
noncomputable def pQ(R S:Nat)(g:Nat->Nat->Nat)(r s:Nat):Bool:=[((r:Int),(s:Int)-1),((r:Int),(s:Int)+1)].all (fV R S g iY)
noncomputable def ot(R S:Nat)(g:Nat->Nat->Nat)(r s:Nat):Bool:=[((r:Int)-1,(s:Int)),((r:Int)+1,(s:Int))].all (fV R S g iu)
theorem LD{r s:Nat}(hr:r<R)(hs:s<S):pQ R S g r s=true↔(0<s->iY (g r (s-1))=true)/\(s+1<S->iY (g r (s+1))=true):=by
 unfold pQ;constructor
 ·intro h;obtain⟨l1,l2⟩:=wW h;refine⟨fun z=>?_,fun z=>?_⟩
  ·have:=l1 ⟨by omega,by omega⟩ ⟨by omega,by omega⟩;rw[show((r:Int)).toNat=r by omega,show((s:Int)-1).toNat=s-1 by omega] at this;exact this
  ·have:=l2 ⟨by omega,by omega⟩ ⟨by omega,by omega⟩;rw[show((r:Int)).toNat=r by omega,show((s:Int)+1).toNat=s+1 by omega] at this;exact this
 ·rintro⟨h1,h2⟩;simp only[List.all_cons,List.all_nil,Bool.and_true,aO];unfold fV;simp only[Bool.or_eq_true];refine⟨?_,?_⟩
  ·by_cases z:0<s
   ·right
    rw[show((r:Int)).toNat=r by omega,show((s:Int)-1).toNat=s-1 by omega];exact h1 z
   ·left
    have:¬(0<=(s:Int)-1/\(s:Int)-1<S):=by omega
    simp[this]<;>omega
  ·by_cases z:s+1<S
   ·right
    rw[show((r:Int)).toNat=r by omega,show((s:Int)+1).toNat=s+1 by omega];exact h2 z
   ·left
    have:¬(0<=(s:Int)+1/\(s:Int)+1<S):=by omega
    simp[this]<;>omega
theorem LC{r s:Nat}(hr:r<R)(hs:s<S):ot R S g r s=true↔(0<r->iu (g (r-1) s)=true)/\(r+1<R->iu (g (r+1) s)=true):=by
 unfold ot;constructor
 ·intro h;obtain⟨l1,l2⟩:=wW h;refine⟨fun z=>?_,fun z=>?_⟩
  ·have:=l1 ⟨by omega,by omega⟩ ⟨by omega,by omega⟩;rw[show((s:Int)).toNat=s by omega,show((r:Int)-1).toNat=r-1 by omega] at this;exact this
  ·have:=l2 ⟨by omega,by omega⟩ ⟨by omega,by omega⟩;rw[show((s:Int)).toNat=s by omega,show((r:Int)+1).toNat=r+1 by omega] at this;exact this
 ·rintro⟨h1,h2⟩;simp only[List.all_cons,List.all_nil,Bool.and_true,aO];unfold fV;simp only[Bool.or_eq_true];refine⟨?_,?_⟩
  ·by_cases z:0<r
   ·right
    rw[show((s:Int)).toNat=s by omega,show((r:Int)-1).toNat=r-1 by omega];exact h1 z
   ·left
    have:¬(0<=(r:Int)-1/\(r:Int)-1<R):=by omega
    simp[this]<;>omega
  ·by_cases z:r+1<R
   ·right
    rw[show((s:Int)).toNat=s by omega,show((r:Int)+1).toNat=r+1 by omega];exact h2 z
   ·left
    have:¬(0<=(r:Int)+1/\(r:Int)+1<R):=by omega
    simp[this]<;>omega
noncomputable def cT(R S:Nat)(g:Nat->Nat->Nat)(r s:Nat):Bool:=ic r s (g r s)&&(!(decide (g r s=45)&&decide (s%2=0))||pQ R S g r s)&&(!(decide (g r s=124)&&decide (r%2=0))||ot R S g r s)
theorem Dd{r s:Nat}(hr:r<R)(hs:s<S):cT R S g r s=true↔k6 R S g r s:=by
 unfold cT k6;simp only[aO,Bool.or_eq_true,Bool.not_eq_true',Bool.and_eq_false_iff,decide_eq_false_iff_not,LD hr hs,LC hr hs];unfold ic;simp only[Bool.or_eq_true,aO,aY,au,List.not_mem_nil,or_false];constructor
 ·rintro⟨⟨h1,h2⟩,h3⟩;refine⟨fun a b=>by omega,fun a b=>by omega,fun a b=>?_,fun a b=>?_⟩
  ·by_cases e:g r s=32
   ·exact .inl e
   ·have qH:g r s=45:=by omega
    rcases h2 with(z | z) | z
    ·exact absurd qH z
    ·exact absurd b z
    ·exact .inr ⟨qH,z⟩
  ·by_cases e:g r s=32
   ·exact .inl e
   ·have qH:g r s=124:=by omega
    rcases h3 with(z | z) | z
    ·exact absurd qH z
    ·exact absurd a z
    ·exact .inr ⟨qH,z⟩
 ·rintro⟨h1,h2,h3,h4⟩;have c1:r%2=0\/r%2=1:=by omega
  have c2:s%2=0\/s%2=1:=by omega
  rcases c1 with c1 | c1<;>rcases c2 with c2 | c2
  ·have:=h2 c1 c2;exact⟨⟨by omega,.inl (.inl (by omega))⟩,.inl (.inl (by omega))⟩
  ·rcases h4 c1 c2 with z | z
   ·exact⟨⟨by omega,.inl (.inl (by omega))⟩,.inl (.inl (by omega))⟩
   ·exact⟨⟨by omega,.inl (.inl (by omega))⟩,.inr z.2⟩
  ·rcases h3 c1 c2 with z | z
   ·exact⟨⟨by omega,.inl (.inl (by omega))⟩,.inl (.inl (by omega))⟩
   ·exact⟨⟨by omega,.inr z.2⟩,.inl (.inl (by omega))⟩
  ·have:=h1 c1 c2;exact⟨⟨by omega,.inl (.inr (by omega))⟩,.inl (.inr (by omega))⟩
end
theorem uI{c:Prop}{i:Decidable c}{a b:Prop}(h:¬c)(hb:b):@ite Prop c i a b:=by rw[if_neg h];exact hb
theorem uM{c:Prop}{i:Decidable c}{a b:Prop}(h:c)(hb:a):@ite Prop c i a b:=by rw[if_pos h];exact hb
theorem Eu{rows:List (List Nat)}(hf:iT rows=true):cZ rows=true↔∀r s,r<rows.length->s<wd rows->cT rows.length (wd rows) (gv rows) r s=true:=by
 have hw:=ux hf;have vW:=hf;unfold iT at vW;simp only[aO,aY] at vW;constructor
 ·intro h r s hr hs;exact(Dd hr hs).mpr ((DL h).1.ok r s hr hs)
 ·intro h;exact fT.yk (R:=rows.length) (S:=wd rows) ⟨rfl,hw.2,fun r s hr hs=>(Dd hr hs).mp (h r s hr hs)⟩ vW.1.1.1 vW.1.1.2 vW.1.2
def uU:eX:=fun ds Q=>∃rows,ds=[fS rows]/\rows≠[]/\RB rows/\Q (.fz (.bl (cZ rows)))
def Af:TX:=(cp (eI 1 (gS jM (bK (bJ fq (bH 0) (dC (.int 0))) bU)))
 (cp (fh (tX (dh (bJ oEq (bJ (oI (fun _ j=>0<j) fun i j=>.int (i%j)) (gS jM (bK (bH 0) bU)) (dC (.int 2))) (dC (.int 0)))) (tX (dh (bJ oEq (bJ (oI (fun _ j=>0<j) fun i j=>.int (i%j)) (bH 1) (dC (.int 2))) (dC (.int 0)))) (dh (bJ (ie fun i j=>.bl (decide (i<j))) (bH 1) (dC (.int 3)))))) (eF (dC (.bl false))) fw)
 (cp (fh (dh (gS wQ (bK (jn (lb (bH 0)) [none,some 1] (dZ 0) ji (bJ A8 (gS jM (bK (bH 0) bU)) (bH 1))) bU))) (eF (dC (.bl false))) fw)
 (cp (jj (oC (bK (gS jM (bK (bH 0) bU)) bU)) (dZ 2) (jj (oC (bK (bH 1) bU)) (dZ 3) (cp (fh (mM (dh (fm 3 uR (bK (bH 2) (bK (bH 3) (bK (bJ fq (bJ fq (bH 0) (bH 2)) (bH 3)) bU)))))) (eF (dC (.bl false))) fw)
 (cp (eI 4 (jG (bK (jH (bK (bH 2) (bK (bJ (ie fun i j=>.int (i-j)) (bH 3) (dC (.int 1))) bU))) (bK (jH (bK (bH 2) (bK (bJ dX (bH 3) (dC (.int 1))) bU))) bU))))
 (cp (fh (kC (dh (bJ oEq (bJ fq (bJ fq (bH 0) (bH 2)) (bH 3)) (dC (.str "-")))) (kC (dh (bJ oEq (bJ (oI (fun _ j=>0<j) fun i j=>.int (i%j)) (bH 3) (dC (.int 2))) (dC (.int 0)))) (mM (dh (fm 3 qd (bK (bH 0) (bK (bH 4) (bK (dC (.str "-+#")) bU)))))))) (eF (dC (.bl false))) fw)
 (cp (eI 4 (jG (bK (jH (bK (bJ (ie fun i j=>.int (i-j)) (bH 2) (dC (.int 1))) (bK (bH 3) bU))) (bK (jH (bK (bJ dX (bH 2) (dC (.int 1))) (bK (bH 3) bU))) bU))))
 (fh (kC (dh (bJ oEq (bJ fq (bJ fq (bH 0) (bH 2)) (bH 3)) (dC (.str "|")))) (kC (dh (bJ oEq (bJ (oI (fun _ j=>0<j) fun i j=>.int (i%j)) (bH 2) (dC (.int 2))) (dC (.int 0)))) (mM (dh (fm 3 qd (bK (bH 0) (bK (bH 4) (bK (dC (.str "|+#")) bU)))))))) (eF (dC (.bl false))) fw)))))))
 (eF (dC (.bl true)))))))
theorem Om(ds:List D)(Qr:R->Prop)(hl:ds.length=1)(h:uU ds Qr):Af { nx:=fun _=>Qr (.fz .non),rt:=Qr } (gm ["_law_rows","_law_width","_law_r","_law_s","_law_beside"] ds):=by
 obtain⟨rows,rfl,dH,rb,q⟩:=h;show Af _ [.fz (fS rows),.un,.un,.un,.un];unfold Af fS;have big:=iV;have fW:∀l:List Nat,(bS l).length=l.length:=fun l=>by simp[bS,Str.length]
 have h0:0<rows.length:=List.length_pos_iff.mpr dH;have e0:dz rows 0=some (rows.headD []):=by
  rw[show(0:Int)=((0:Nat):Int) from rfl,lr h0];cases rows with
  | nil=>cases h0
  | cons a r=>rfl
 have Bq:(rows.headD []).length=wd rows:=rfl;have yc:=rb.len
 have F5:wd rows<=100:=rb.eG _ (by
  cases rows with
  | nil=>cases h0
  | cons a r=>exact aF)
 have no:iT rows=false->cZ rows=false:=fun h=>by unfold cZ;rw[h];rfl
 walk_at "px";refine⟨_,e0,?_⟩;walk_at "px";rw[fW,Bq];refine⟨by omega,?_⟩;walk_at "go";have QQ:∀b,iT rows=b->b=(decide (rows.length%2=1)&&decide (wd rows%2=1)&&decide (3<=wd rows)&&rows.all fun l=>decide (l.length=wd rows)):=fun b h=>by rw[<-h];rfl
 have bad:iT rows=false->Qr (.fz (.bl false)):=fun h=>by
  rw[no h] at q;exact q
 rw[af];by_cases a1:rows.length%2=0
 ·rw[if_pos (by omega)];exact bad (by unfold iT;rw[aw (show ¬rows.length%2=1 by omega)];rfl)
 rw[if_neg (by omega)];by_cases a2:wd rows%2=0
 ·rw[if_pos (by omega)];exact bad (by unfold iT;rw[aw (show ¬wd rows%2=1 by omega),Bool.and_false];rfl)
 rw[if_neg (by omega)];by_cases a3:wd rows<3
 ·rw[if_pos (by omega)];exact bad (by unfold iT;rw[aw (show ¬3<=wd rows by omega),Bool.and_false];rfl)
 rw[if_neg (by omega)];walk_at "go";refine mV rows (fun l=>.str (bS l)) (fun l=>.bl (decide (l.length≠wd rows))) (fun Q' h=>?_) (by omega) (fun l hm K1 k1=>?_) ?_
 ·walk_at "px";exact h
 ·walk_at "px";have e:(!decide (((bS l).length:Int)=(wd rows:Int)))=decide (l.length≠wd rows):=by
   rw[fW];by_cases z:l.length=wd rows
   ·simp[z]
   ·have:¬((l.length:Int)=(wd rows:Int)):=by omega
    simp[z,this]
  rw[e];have:=rb.eG l hm;exact⟨by rw[fW];omega,k1⟩
 walk_at "px";have eb:rows.map (fun l=>D.bl (decide (l.length≠wd rows)))=(rows.map fun l=>decide (l.length≠wd rows)).map D.bl:=by rw[aD];rfl
 rw[eb,Fh];by_cases a4:∀l∈rows,l.length=wd rows
 ·have hf:iT rows=true:=by
   unfold iT;simp only[aO,aY,aP];exact⟨⟨⟨by omega,by omega⟩,by omega⟩,a4⟩
  refine uI (fun z=>?_) ?_
  ·rw[List.any_map,List.any_eq_true] at z;obtain⟨l,BH,hz⟩:=z;have:=a4 l BH;simp[this] at hz
  have nk:∀r,r<rows.length->dz rows (r:Int)=some (rows.getD r []):=fun r hr=>by
   rw[lr hr,ag,ae hr];rfl
  have mi:∀r,r<rows.length->rows.getD r []∈rows:=fun r hr=>by
   rw[ag,ae hr,aS];exact aQ _
  have at2:∀r s,r<rows.length->s<wd rows->dz (rows.getD r []) (s:Int)=some (gv rows r s):=fun r s hr hs=>by
   rw[lr (by rw[a4 _ (mi r hr)];exact hs)];exact nC rfl a4 (by rw[ag,ae hr];rfl) hs
  have sg:∀r s,r<rows.length->s<wd rows->gv rows r s∈e7:=fun r s hr hs=>by
   have:=at2 r s hr hs;rw[lr (by rw[a4 _ (mi r hr)];exact hs)] at this;exact rb.e7 _ (mi r hr) _ (av this)
  have ll:∀r,r<rows.length->(bS (rows.getD r [])).length<=sizeLine:=fun r hr=>by rw[fW,a4 _ (mi r hr)];omega
  have zr:∀(n:Nat),n<1000->∀Q':List D->Prop,Q' ((List.range n).map fun(i:Nat)=>.int (0+i))->-4611686018427387904<=(n:Int)/\(n:Int)<4611686018427387904/\Q' ((List.range (n:Int).toNat).map fun(i:Nat)=>D.int (0+i)):=fun n hn Q' h=>⟨by omega,by omega,by rw[bh];exact h⟩
  have oo:∀r s,r<rows.length->s<wd rows->cT rows.length (wd rows) (gv rows) r s=false->Qr (.fz (.bl false)):=fun r s hr hs hc=>by
   have:cZ rows=false:=by
    cases e:cZ rows with
    | false=>rfl
    | true=>
     rw[(Eu hf).mp e r s hr hs] at hc;cases hc
   rw[this] at q;exact q
  walk_at "go";refine tD rows.length (fun Q' h=>?_) (fun i ρ=>∃a b c:Sl,(∀r s,r<i->s<wd rows->cT rows.length (wd rows) (gv rows) r s=true)/\ρ=[.fz (.lst (rows.map fun l=>.str (bS l))),.fz (.int (wd rows)),a,b,c]) ⟨_,_,_,fun r s h=>absurd h (Nat.not_lt_zero _),rfl⟩ ?_ ?_
  ·walk_at "px";rw[af];exact zr _ (by omega) Q' h
  ·rintro r ρ hr ⟨a,b,c,hi,rfl⟩;walk_at "px";refine tD (wd rows) (fun Q' h=>?_) (fun j ρ=>∃b c:Sl,(∀s,s<j->cT rows.length (wd rows) (gv rows) r s=true)/\ρ=[.fz (.lst (rows.map fun l=>.str (bS l))),.fz (.int (wd rows)),.fz (.int r),b,c]) ⟨_,_,fun s h=>absurd h (Nat.not_lt_zero _),rfl⟩ ?_ ?_
   ·walk_at "px";exact zr _ (by omega) Q' h
   ·rintro s ρ hs ⟨b,c,hj,rfl⟩;walk_at "px";have tY:dz (bS (rows.getD r [])).cps.toList (s:Int)=some (gv rows r s):=by rw[kl];exact at2 r s hr hs
    refine⟨_,nk r hr,ll r hr,_,tY,r,s,_,rfl,sg r s hr hs,?_⟩;cases b9:ic r s (gv rows r s) with
    | false=>exact oo r s hr hs (by unfold cT;rw[b9];rfl)
    | true=>
    walk_at "px";walk_at "go";refine⟨by omega,by omega,by omega,?_⟩;walk_at "go";refine⟨_,nk r hr,ll r hr,_,tY,?_⟩;have fin:(!(decide (gv rows r s=45)&&decide (s%2=0))||pQ rows.length (wd rows) (gv rows) r s)=true->(!(decide (gv rows r s=124)&&decide (r%2=0))||ot rows.length (wd rows) (gv rows) r s)=true->∀s',s'<s+1->cT rows.length (wd rows) (gv rows) r s'=true:=fun hH hV s' kQ=>by
     by_cases e:s'=s
     ·rw[e];unfold cT;rw[b9,hH,hV];rfl
     ·exact hj s' (by omega)
    by_cases e1:gv rows r s=45
    ·refine uM ((o9 (x:=45) (by decide +kernel)).mpr e1) ?_;by_cases e2:s%2=0
     ·rw[if_pos (by omega)];refine⟨true,rows.length,wd rows,rows,[((r:Int),(s:Int)-1),((r:Int),(s:Int)+1)],"-+#",iY,rfl,rfl,a4,h0,by omega,rb.e7,yL,by simp,?_⟩;cases hb:[((r:Int),(s:Int)-1),((r:Int),(s:Int)+1)].all (fV rows.length (wd rows) (gv rows) iY) with
      | false=>exact oo r s hr hs (by unfold cT pQ;rw[hb,e1,bf e2];simp)
      | true=>
       walk_at "px";walk_at "go";refine⟨by omega,by omega,by omega,?_⟩;walk_at "go";refine⟨_,nk r hr,ll r hr,_,tY,?_⟩;by_cases e3:gv rows r s=124
       ·refine uM ((o9 (x:=124) (by decide +kernel)).mpr e3) ?_;by_cases e4:r%2=0
        ·rw[if_pos (by omega)];refine⟨true,rows.length,wd rows,rows,[((r:Int)-1,(s:Int)),((r:Int)+1,(s:Int))],"|+#",iu,rfl,rfl,a4,h0,by omega,rb.e7,ui,by simp,?_⟩;cases yh:[((r:Int)-1,(s:Int)),((r:Int)+1,(s:Int))].all (fV rows.length (wd rows) (gv rows) iu) with
         | false=>exact oo r s hr hs (by unfold cT ot;rw[yh,e3,bf e4];simp)
         | true=>
          walk_at "px";exact⟨_,_,fin (by unfold pQ;rw[hb,Bool.or_true]) (by unfold ot;rw[yh,Bool.or_true]),rfl⟩
        ·rw[if_neg (by omega)];exact⟨_,_,fin (by unfold pQ;rw[hb,Bool.or_true]) (by rw[aw e4,Bool.and_false];rfl),rfl⟩
       ·refine uI (fun z=>e3 ((o9 (x:=124) (by decide +kernel)).mp z)) ?_;exact⟨_,_,fin (by unfold pQ;rw[hb,Bool.or_true]) (by rw[aw e3];rfl),rfl⟩
     ·rw[if_neg (by omega)];walk_at "go";refine⟨by omega,by omega,by omega,?_⟩;walk_at "go";refine⟨_,nk r hr,ll r hr,_,tY,?_⟩;by_cases e3:gv rows r s=124
      ·refine uM ((o9 (x:=124) (by decide +kernel)).mpr e3) ?_;by_cases e4:r%2=0
       ·rw[if_pos (by omega)];refine⟨true,rows.length,wd rows,rows,[((r:Int)-1,(s:Int)),((r:Int)+1,(s:Int))],"|+#",iu,rfl,rfl,a4,h0,by omega,rb.e7,ui,by simp,?_⟩;cases hb:[((r:Int)-1,(s:Int)),((r:Int)+1,(s:Int))].all (fV rows.length (wd rows) (gv rows) iu) with
        | false=>exact oo r s hr hs (by unfold cT ot;rw[hb,e3,bf e4];simp)
        | true=>
         walk_at "px";exact⟨_,_,fin (by rw[aw e2,Bool.and_false];rfl) (by unfold ot;rw[hb,Bool.or_true]),rfl⟩
       ·rw[if_neg (by omega)];exact⟨_,_,fin (by rw[aw e2,Bool.and_false];rfl) (by rw[aw e4,Bool.and_false];rfl),rfl⟩
      ·refine uI (fun z=>e3 ((o9 (x:=124) (by decide +kernel)).mp z)) ?_;exact⟨_,_,fin (by rw[aw e2,Bool.and_false];rfl) (by rw[aw e3];rfl),rfl⟩
    ·refine uI (fun z=>e1 ((o9 (x:=45) (by decide +kernel)).mp z)) ?_;walk_at "go";refine⟨by omega,by omega,by omega,?_⟩;walk_at "go";refine⟨_,nk r hr,ll r hr,_,tY,?_⟩;by_cases e3:gv rows r s=124
     ·refine uM ((o9 (x:=124) (by decide +kernel)).mpr e3) ?_;by_cases e4:r%2=0
      ·rw[if_pos (by omega)];refine⟨true,rows.length,wd rows,rows,[((r:Int)-1,(s:Int)),((r:Int)+1,(s:Int))],"|+#",iu,rfl,rfl,a4,h0,by omega,rb.e7,ui,by simp,?_⟩;cases hb:[((r:Int)-1,(s:Int)),((r:Int)+1,(s:Int))].all (fV rows.length (wd rows) (gv rows) iu) with
       | false=>exact oo r s hr hs (by unfold cT ot;rw[hb,e3,bf e4];simp)
       | true=>
        walk_at "px";exact⟨_,_,fin (by rw[aw e1];rfl) (by unfold ot;rw[hb,Bool.or_true]),rfl⟩
      ·rw[if_neg (by omega)];exact⟨_,_,fin (by rw[aw e1];rfl) (by rw[aw e4,Bool.and_false];rfl),rfl⟩
     ·refine uI (fun z=>e3 ((o9 (x:=124) (by decide +kernel)).mp z)) ?_;exact⟨_,_,fin (by rw[aw e1];rfl) (by rw[aw e3];rfl),rfl⟩
   ·rintro ρ ⟨b,c,hj,rfl⟩;refine⟨_,_,_,fun r' s' ku kQ=>?_,rfl⟩;by_cases e:r'=r
    ·rw[e];exact hj s' kQ
    ·exact hi r' s' (by omega) kQ
  ·rintro ρ ⟨a,b,c,hi,rfl⟩;walk_at "go";rw[(Eu hf).mpr hi] at q;exact q
 ·refine uM ?_ ?_
  ·rw[List.any_map,List.any_eq_true];refine Classical.byContradiction fun z=>a4 fun l BH=>?_
   refine Classical.byContradiction fun y=>z ⟨l,BH,?_⟩
   simp[y]
  ·refine bad ?_;cases e:iT rows with
   | false=>rfl
   | true=>exact absurd (ux e).2 a4
end Wc
namespace Wc
open PySem L2 PyProof.Rows
end Wc
open PySem L2 PyProof.Rows Wc
local macro_rules | `(tactic| walk_at "px")=>`(tactic| walk_at "b")
namespace Wc
open PySem L2 PyProof.Rows
noncomputable def dR(l:List Nat):D:=.str (bS l)
def iF(k:Nat)(l:List Nat):Prop:=l.length<=k/\∀c∈l,c∈e7
theorem uH(a b:List Nat):bS a++bS b=bS (a++b):=by
 refine yT ?_;show((bS a).cps++(bS b).cps).toList=a++b;rw[Array.toList_append,kl,kl]
theorem iF.app{k j:Nat}{a b:List Nat}(h1:iF k a)(h2:iF j b):iF (k+j) (a++b):=⟨by rw[aC];exact Nat.add_le_add h1.1 h2.1,fun c hc=>(aI.mp hc).elim (h1.2 c) (h2.2 c)⟩
theorem iF.take{k:Nat}{a:List Nat}(h1:iF k a)(n:Nat):iF k (a.take n):=⟨aR (List.length_take_le' _ _) h1.1,fun c hc=>h1.2 c (List.mem_of_mem_take hc)⟩
theorem iF.drop{k:Nat}{a:List Nat}(h1:iF k a)(n:Nat):iF k (a.drop n):=⟨by rw[List.length_drop];have:=h1.1;omega,fun c hc=>h1.2 c (List.mem_of_mem_drop hc)⟩
theorem iF.mono{k j:Nat}{a:List Nat}(h:iF k a)(hk:k<=j):iF j a:=⟨aR h.1 hk,h.2⟩
theorem GR:∀d,d<10->∃c∈e7,dz (" -|+#=x.-|":Str).cps.toList ((d:Nat):Int)=some c:=by decide +kernel
def u4:eX:=fun ds Q=>∃(rows:List (List Nat)) (m x:Int),ds=[.lst (rows.map dR),.int m,.int x]/\rows≠[]/\(∀l∈rows,0<l.length/\iF 19 l)/\rows.length<=20/\0<=x/\∀cw:List (List Nat),(∀l∈cw,iF 40 l)->cw.length<=22->Q (.ow (cw.map dR))
def Az:TX:=(cp (eI 3 (bJ (oI (fun _ j=>0<j) fun i j=>.int (i%j)) (bH 2) (gS jM (bK (bH 0) bU))))
 (cp (eI 4 (bJ fq (bH 0) (bH 3)))
 (cp (eI 5 (lT (bH 0) m8 (ke (bH 3))))
 (cp (eI 6 (lT (bH 0) (ke (bJ dX (bH 3) (dC (.int 1)))) m8))
 (cp (eI 7 (bJ (oI (fun _ j=>0<j) fun i j=>.int (i%j)) (bJ (oI nA fun i j=>.int (i/j)) (bH 2) (dC (.int 64))) (gS jM (bK (bH 4) bU))))
 (cp (eI 8 (bJ fq (dC (.str " -|+#=x.-|")) (bJ (oI (fun _ j=>0<j) fun i j=>.int (i%j)) (bJ (oI nA fun i j=>.int (i/j)) (bH 2) (dC (.int 4096))) (dC (.int 10)))))
 (cp (fh (dh (bJ oEq (bH 1) (dC (.int 0)))) (eF (bJ dX (bH 5) (bH 6))) fw)
 (cp (fh (dh (bJ oEq (bH 1) (dC (.int 1)))) (eF (bJ dX (bJ dX (bH 5) (jG (bK (bH 4) (bK (bH 4) bU)))) (bH 6))) fw)
 (cp (fh (dh (bJ oEq (bH 1) (dC (.int 2)))) (eF (bJ dX (bJ dX (bH 5) (jG (bK (bJ dX (lT (bH 4) m8 (ke (bH 7))) (lT (bH 4) (ke (bJ dX (bH 7) (dC (.int 1)))) m8)) bU))) (bH 6))) fw)
 (cp (fh (dh (bJ oEq (bH 1) (dC (.int 3)))) (eF (bJ dX (bJ dX (bH 5) (jG (bK (bJ dX (bH 4) (dC (.str " "))) bU))) (bH 6))) fw)
 (cp (fh (dh (bJ oEq (bH 1) (dC (.int 4)))) (eF (jn (lb (bH 0)) [none,some 7] (dZ 0) ji (bJ dX (lT (bH 0) m8 (ke (bH 1))) (lT (bH 0) (ke (bJ dX (bH 1) (dC (.int 1)))) m8)))) fw)
 (cp (fh (dh (bJ oEq (bH 1) (dC (.int 5)))) (eF (bJ dX (bH 0) (jG (bK (dC (.str "")) bU)))) fw)
 (cp (fh (dh (bJ oEq (bH 1) (dC (.int 6)))) (eF (jG (bK (bJ fq (jG (bK (dC (.str "")) (bK (dC (.str "|")) (bK (dC (.str " ")) (bK (dC (.str "-")) bU))))) (bJ (oI (fun _ j=>0<j) fun i j=>.int (i%j)) (bJ (oI nA fun i j=>.int (i/j)) (bH 2) (dC (.int 4096))) (dC (.int 4)))) bU))) fw)
 (eF (bJ dX (bJ dX (bH 5) (jG (bK (bJ dX (bJ dX (lT (bH 4) m8 (ke (bH 7))) (bH 8)) (lT (bH 4) (ke (bJ dX (bH 7) (dC (.int 1)))) m8)) bU))) (bH 6))))))))))))))))
theorem Ob(ds:List D)(Qr:R->Prop)(hl:ds.length=3)(h:u4 ds Qr):Az { nx:=fun _=>Qr (.fz .non),rt:=Qr } (gm ["_law_rows","_law_manner","_law_mix_here","_law_at","_law_row","_law_ahead","_law_behind","_law_place","_law_sign"] ds):=by
 obtain⟨rows,m,x,rfl,dH,ok,hlen,hx,q⟩:=h;show Az _ [.fz (.lst (rows.map dR)),.fz (.int m),.fz (.int x),.un,.un,.un,.un,.un,.un];unfold Az;have big:=iV;have h0:0<rows.length:=List.length_pos_iff.mpr dH;walk_at "px";rw[af];refine⟨by omega,?_⟩;have p0:=Int.emod_nonneg x (show(rows.length:Int)≠0 by omega);have p1:=Int.emod_lt_of_pos x (show(0:Int)<rows.length by omega);obtain⟨at_,B0⟩:∃n:Nat,x%(rows.length:Int)=n:=⟨(x%(rows.length:Int)).toNat,by omega⟩
 rw[B0] at p1 ⊢;have yi:at_<rows.length:=by omega
 walk_at "go";refine⟨_,oH yi,?_⟩;have m7:=ok _ (aQ yi);generalize rows[at_]=row at m7 ⊢;walk_at "go";rw[DJ _ (by omega),bh];walk_at "go";rw[Fl _ (by omega),show((at_:Int)+1).toNat=at_+1 by omega];rw[show dR row=.str (bS row) from rfl];walk_at "go";have fW:∀l:List Nat,(bS l).length=l.length:=fun l=>by simp[bS,Str.length]
 have Rt:=m7.2.1;rw[fW];refine⟨by omega,by omega,?_⟩;have t0:=Int.emod_nonneg (x/64) (show(row.length:Int)≠0 by omega);obtain⟨pl,g4⟩:∃n:Nat,x/64%(row.length:Int)=n:=⟨(x/64%(row.length:Int)).toNat,by omega⟩
 rw[g4];have u0:=Int.emod_nonneg (x/4096) (show(10:Int)≠0 by decide);have u1:=Int.emod_lt_of_pos (x/4096) (show(0:Int)<10 by decide);obtain⟨sg,rY⟩:∃n:Nat,x/4096%10=n:=⟨(x/4096%10).toNat,by omega⟩
 obtain⟨ch,jf,sA⟩:=GR sg (by omega);walk_at "go";rw[rY];refine⟨by decide +kernel,ch,sA,?_⟩;have FT:∀l∈rows.take at_,iF 40 l:=fun l hl=>(ok l (List.mem_of_mem_take hl)).2.mono (by decide)
 have FR:∀l∈rows.drop (at_+1),iF 40 l:=fun l hl=>(ok l (List.mem_of_mem_drop hl)).2.mono (by decide)
 have lA:(rows.take at_).length<=20:=by rw[bj];omega
 have lB:(rows.drop (at_+1)).length<=20:=by rw[List.length_drop];omega
 have FZ:(rows.take at_).length+(rows.drop (at_+1)).length+1<=20:=by rw[bj,List.length_drop];omega
 generalize rows.take at_=A at FT lA FZ ⊢;generalize rows.drop (at_+1)=B at FR lB FZ ⊢;have put:∀mid:List (List Nat),(∀l∈mid,iF 40 l)->mid.length<=2->Qr (.ow (A.map dR++mid.map dR++B.map dR)):=fun mid hm RD=>by
  rw[<-aE,<-aE];refine q _ (fun l hl=>?_) (by rw[aC,aC];omega);rcases aI.mp hl with hl | hl
  ·rcases aI.mp hl with hl | hl
   ·exact FT l hl
   ·exact hm l hl
  ·exact FR l hl
 have cA:lh (bS row) none (some (pl:Int))=bS (row.take pl):=by rw[DI _ (by omega),bh]
 have cB:lh (bS row) (some ((pl:Int)+1)) none=bS (row.drop (pl+1)):=by rw[Fj _ (by omega),show((pl:Int)+1).toNat=pl+1 by omega]
 walk_at "go";by_cases m0:m=0
 ·rw[if_pos m0];have:=put [] (by simp) (by simp);simp only[List.map_nil,List.append_nil] at this;exact⟨by simp only[af];omega,this⟩
 rw[if_neg m0];walk_at "go";by_cases m1:m=1
 ·rw[if_pos m1]
  have:=put [row,row] (fun l hl=>by
   have:l=row:=by simpa using hl
   rw[this]
   exact m7.2.mono (by decide)) (by simp)
  refine⟨by omega,by simp only[af];omega,by simp only[aC,af,aA,List.length_nil];omega,this⟩
 rw[if_neg m1];walk_at "go";by_cases m2:m=2
 ·rw[if_pos m2];rw[cA,cB,uH];have h1:iF 38 (row.take pl++row.drop (pl+1)):=(m7.2.take pl).app (m7.2.drop (pl+1))
  have:=put [row.take pl++row.drop (pl+1)] (fun l hl=>by
   have:l=row.take pl++row.drop (pl+1):=by simpa using hl
   rw[this]
   exact h1.mono (by decide)) (by simp)
  have l1:=(m7.2.take pl).1;have l2:=(m7.2.drop (pl+1)).1;exact⟨by rw[fW];omega,by rw[fW];omega,by rw[fW,fW];omega,by omega,by rw[af];omega,by simp only[aC,af,aA,List.length_nil];omega,this⟩
 rw[if_neg m2];walk_at "go";by_cases m3:m=3
 ·rw[if_pos m3];rw[show(Str.ofString " ")=bS [32] by decide +kernel,uH];have h1:iF 20 (row++[32]):=m7.2.app (j:=1) ⟨by simp,by simp[e7]⟩
  have:=put [row++[32]] (fun l hl=>by
   have:l=row++[32]:=by simpa using hl
   rw[this]
   exact h1.mono (by decide)) (by simp)
  exact⟨by rw[fW,fW];simp only[aA,List.length_nil];omega,by omega,by rw[af];omega,by simp only[aC,af,aA,List.length_nil];omega,this⟩
 rw[if_neg m3];walk_at "go";by_cases m4:m=4
 ·rw[if_pos m4];refine mV rows dR (fun l=>dR (l.take pl++l.drop (pl+1))) (fun Q' h=>?_) (by omega) (fun l hm K1 k1=>?_) ?_
  ·walk_at "px";exact h
  ·have A6:=(ok l hm).2;have l1:=(A6.take pl).1;have l2:=(A6.drop (pl+1)).1;have l3:=A6.1;rw[show dR l=.str (bS l) from rfl];walk_at "px";rw[DI _ (by omega),bh,Fj _ (by omega),show((pl:Int)+1).toNat=pl+1 by omega,uH];exact⟨by rw[fW];omega,by rw[fW];omega,by rw[fW,fW];omega,k1⟩
  ·have:=q (rows.map fun l=>l.take pl++l.drop (pl+1)) (fun l hl=>by
    obtain⟨l',tM,rfl⟩:=aK.mp hl
    exact(((ok l' tM).2.take pl).app ((ok l' tM).2.drop (pl+1))).mono (by decide)) (by rw[af];omega)
   rw[aD] at this;exact this
 rw[if_neg m4];walk_at "go";by_cases m5:m=5
 ·rw[if_pos m5];rw[show D.str (Str.ofString "")=dR [] by unfold dR;congr 1]
  have:=q (rows++[[]]) (fun l hl=>by
   rcases aI.mp hl with hl | hl
   ·exact(ok l hl).2.mono (by decide)
   ·have:l=[]:=by simpa using hl
    rw[this]
    exact⟨by simp,by simp⟩) (by rw[aC];simp only[aA,List.length_nil];omega)
  rw[aE] at this;exact⟨by omega,by rw[af];omega,this⟩
 rw[if_neg m5];walk_at "go";by_cases m6:m=6
 ·rw[if_pos m6];have v0:=Int.emod_nonneg (x/4096) (show(4:Int)≠0 by decide);have v1:=Int.emod_lt_of_pos (x/4096) (show(0:Int)<4 by decide);obtain⟨k,hk⟩:∃n:Nat,x/4096%4=n:=⟨(x/4096%4).toNat,by omega⟩
  rw[hk];have CT:∀k:Nat,k<4->∃l:List Nat,dz [D.str (Str.ofString ""),D.str (Str.ofString "|"),D.str (Str.ofString " "),D.str (Str.ofString "-")] (k:Int)=some (dR l)/\iF 40 l:=fun k hk=>by
   match k,hk with
   | 0,_=>exact⟨[],by rw[lr (by decide)];show some (D.str (Str.ofString ""))=_;unfold dR;congr 2,by simp,by simp⟩
   | 1,_=>exact⟨[124],by rw[lr (by decide)];show some (D.str (Str.ofString "|"))=_;unfold dR;congr 2,by simp,by simp[e7]⟩
   | 2,_=>exact⟨[32],by rw[lr (by decide)];show some (D.str (Str.ofString " "))=_;unfold dR;congr 2,by simp,by simp[e7]⟩
   | 3,_=>exact⟨[45],by rw[lr (by decide)];show some (D.str (Str.ofString "-"))=_;unfold dR;congr 2,by simp,by simp[e7]⟩
  obtain⟨l,yc,tL⟩:=CT k (by omega);refine⟨by omega,_,yc,by omega,?_⟩
  exact q [l] (fun l' tM=>by
   have:l'=l:=by simpa using tM
   rw[this]
   exact tL) (by simp)
 rw[if_neg m6];walk_at "go";rw[cA,cB,show(⟨#[ch]⟩:Str)=bS [ch] from rfl,uH,uH];have h1:iF 39 (row.take pl++[ch]++row.drop (pl+1)):=(((m7.2.take pl).app (j:=1) ⟨by simp,by simpa using jf⟩).app (m7.2.drop (pl+1))).mono (by decide)
 have:=put [row.take pl++[ch]++row.drop (pl+1)] (fun l hl=>by
  have:l=row.take pl++[ch]++row.drop (pl+1):=by simpa using hl
  rw[this]
  exact h1.mono (by decide)) (by simp)
 have l1:=(m7.2.take pl).1;have l2:=(m7.2.drop (pl+1)).1;exact⟨by rw[fW];omega,by rw[fW,fW];simp only[aA,List.length_nil];omega,by rw[fW];omega,by rw[fW,fW,aC];simp only[aA,List.length_nil];omega,by omega,by rw[af];omega,by simp only[aC,af,aA,List.length_nil];omega,this⟩
end Wc
namespace Wc
open PySem L2 PyProof.Rows
end Wc
open PySem L2 PyProof.Rows Wc
local macro_rules | `(tactic| walk_at "px")=>`(tactic| (repeat(first | walk_at "b" | simp only[yM,yU,rg,oB,yW,pT])))
namespace Wc
open PySem L2 PyProof.Rows
theorem L4(rows:List (List Nat))(h:∀a∈rows,10∉a):Txt.split (Txt.join "\n" (rows.map bS)) "\n"=(if rows=[] then [[]] else rows).map bS:=by
 have hl:(rows.map bS).map (fun s=>s.cps.toList)=rows:=by
  rw[aD];have:(fun s:Str=>s.cps.toList)∘bS=id:=funext fun l=>by simp[bS]
  rw[this,List.map_id]
 have hc:(Txt.join "\n" (rows.map bS)).cps.toList=kd 10 rows:=by rw[uk,uJ,hl]
 have:=Ew (Txt.join "\n" (rows.map bS)) 10;rw[hc,<-uk] at this;have e2:bS∘(fun s:Str=>s.cps.toList)=id:=funext fun s=>yV s
 have t:=congrArg (List.map bS) this;rw[aD,e2,List.map_id] at t;rw[t];by_cases e:rows=[]
 ·subst e;rfl
 ·rw[if_neg e,xI 10 rows e h]
def uj:TX:=(cp (eI 1 (dM "str" rg (fm 1 uV (bK (fm 3 u6 (bK (bH 0) (bK (dC (.int 4)) (bK (dC (.int 5)) bU)))) bU)) (bK (dC (.str "\n")) bU)))
 (cp (eI 2 (fm 2 qe (bK (gS sM (bK (lT (bH 0) (ke (dC (.int 1))) (ke (dC (.int 2)))) bU)) (bK (dC (.int 900)) bU))))
 (cp (eI 1 (fm 3 u4 (bK (bH 1) (bK (bJ (oI (fun _ j=>0<j) fun i j=>.int (i%j)) (bH 2) (dC (.int 12))) (bK (bJ (oI nA fun i j=>.int (i/j)) (bH 2) (dC (.int 12))) bU)))))
 (cp (eI 3 (dM "str" oB (dC (.str "\n")) (bK (bH 1) bU)))
 (cp (eI 4 (dC .non))
 (cp (l6 5 (dC .non))
 (cp (yW 5 6 4 1 uY (bK (bH 3) bU) "BadDrawing")
 (ud 5 (cp (fh (dh (fm 1 uU (bK (dM "str" rg (bH 3) (bK (dC (.str "\n")) bU)) bU))) (eF (qV (bJ (ue false) (bH 4) (dC .non)) (yA "list" (bH 5)))) fw)
 (cp (fh (tX (mM (dh (pT "BadDrawing" true (bH 4)))) (mM (dh (pT "BadDrawing" true (bH 4))))) (eF (dC (.bl false))) fw)
 (cp (fh (dh (pT "BadDrawing" false (bH 4))) (eF (dC (.bl false))) fw)
 (eF (yB (pT "BadDrawing" false (bH 4)))))))))))))))
theorem LB(ds:List D)(Qr:R->Prop)(hl:ds.length=1)(h:yS 63 ds Qr):uj { nx:=fun _=>Qr (.fz .non),rt:=Qr } (gm ["_law_script","_law_rows","_law_mix_here","_law_text","_law_caught","_law_found","error"] ds):=by
 obtain⟨ns,rfl,hn,q⟩:=h;show uj _ [.fz (dI ns),.un,.un,.un,.un,.un,.un];unfold uj dI;have big:=iV;walk_at "px";refine⟨ns,4,5,rfl,by omega,by decide,by decide,by decide,fun t w rows ht F5 Pp P=>?_⟩;walk_at "px";refine⟨2*t+1,2*w+1,rows,rfl,P,by omega,by omega,by omega,fun tx Px RE=>?_⟩;walk_at "px";refine⟨rfl,by decide,by omega,?_⟩;rw[Px];have eR:(rows.map bS).map D.str=rows.map dR:=by rw[aD];rfl
 rw[eR];walk_at "go";refine⟨_,_,rfl,by decide,by decide,?_⟩;have x0:=Dj (ix ns (some 1) (some 2)).sum 900;generalize wI _ _=x at x0 ⊢;walk_at "go";have rb:=P.rb (by omega) (by omega);refine⟨rows,_,_,rfl,P.ne (by omega),fun l hm=>⟨by rw[P.eG l hm];omega,⟨by rw[P.eG l hm];omega,rb.e7 l hm⟩⟩,by rw[P.len];omega,by omega,fun cw xY tM=>?_⟩;walk_at "go";have eS:cw.map dR=(cw.map bS).map D.str:=by rw[aD];rfl
 rw[eS,uZ];have fW:∀l:List Nat,(bS l).length=l.length:=fun l=>by simp[bS,Str.length]
 have Pz:((cw.map bS).map (fun x=>x.length)).sum<=cw.length*40:=by
  rw[aD];have:∀l:List (List Nat),(∀a∈l,a.length<=40)->(l.map ((fun x:Str=>x.length)∘bS)).sum<=l.length*40:=fun l=>by
   induction l with
   | nil=>intro _;simp
   | cons a r ih=>
    intro h;rw[ao,List.sum_cons,aA,Nat.succ_mul];have:=ih fun b hb=>h b (ar _ hb)
    have h5:=h a aF;have:=fW a;simp only[Function.comp_apply];omega
  exact this cw fun a ha=>(xY a ha).1
 have hf:∀a∈cw,10∉a:=fun a ha B7=>by
  have:=(xY a ha).2 10 B7;revert this
  decide
 have m9:=L4 cw hf;have vR:(Txt.join "\n" (cw.map bS)).length<10000:=by
  have tL:(cw.map bS).map (fun s=>s.cps.toList)=cw:=by
   rw[aD];have:(fun s:Str=>s.cps.toList)∘bS=id:=funext fun l=>by simp[bS]
   rw[this,List.map_id]
  have hc:(Txt.join "\n" (cw.map bS)).cps.toList=kd 10 cw:=by rw[uk,uJ,tL]
  have h2:=Ac 10 40 cw fun a ha=>(xY a ha).1
  have:(Txt.join "\n" (cw.map bS)).length=(kd 10 cw).length:=by rw[<-hc];simp[Str.length]
  rw[this];omega
 have hR:∃R':List (List Nat),(if cw=[] then [[]] else cw)=R'/\R'≠[]/\(∀l∈R',iF 40 l)/\R'.length<=22:=by
  by_cases e:cw=[]
  ·rw[if_pos e]
   exact⟨_,rfl,by simp,fun l hl=>by
    have:l=[]:=by simpa using hl
    rw[this]
    exact⟨by simp,by simp⟩,by simp⟩
  ·rw[if_neg e];exact⟨_,rfl,e,xY,tM⟩
 obtain⟨R',e',dH,A7,P9⟩:=hR;rw[e'] at m9;have Bq:wd R'<=40:=by
  unfold wd;cases R' with
  | nil=>exact absurd rfl dH
  | cons a r=>exact(A7 a aF).1
 have A2:RB R':=⟨by omega,fun l hl=>aR (A7 l hl).1 (by decide),fun l hl=>(A7 l hl).2⟩
 obtain⟨FG,GC⟩:∃s:Str,s=Txt.join "\n" (cw.map bS):=⟨_,rfl⟩
 rw[<-GC] at m9 vR;refine⟨rfl,by rw[af,show(Str.ofString "\n").length=1 by decide +kernel];omega,?_⟩;walk_at "go";walk_at "go";walk_at "go";rw[<-GC];have W:Any R' FG:=⟨dH,A2,m9,vR,by omega,Bq,fun hd=>JO hd (by omega)⟩
 have GI:D.lst ((R'.map bS).map D.str)=fS R':=by rw[aD];rfl
 refine⟨FG,R',rfl,W,fun hd ij=>?_,fun hd=>?_⟩
 ·walk_at "go";refine⟨rfl,by decide,by omega,?_⟩;rw[m9,GI];refine⟨R',rfl,dH,A2,?_⟩;rw[hd];walk_at "px";exact⟨rfl,q⟩
 ·walk_at "go";refine⟨rfl,by decide,by omega,?_⟩;rw[m9,GI];refine⟨R',rfl,dH,A2,?_⟩;rw[hd];walk_at "px";walk_at "go";walk_at "go";walk_at "go";exact q
end Wc
end
namespace Wc
open PySem PySem.Spec PyProof.Rows L2
local macro_rules | `(tactic| walk_at "sc")=>`(tactic| exact⟨rfl,rfl,rfl,by decide +kernel,rfl,by decide +kernel,by decide +kernel⟩)
local macro_rules | `(tactic| walk_at "bn")=>`(tactic| (intro _ _ _ _ _ _ us hl;first | (obtain⟨_,rfl⟩:=yz hl;exact rfl) | (obtain⟨_,_,rfl⟩:=CS hl;exact rfl) | (obtain⟨_,_,_,rfl⟩:=CQ hl;exact rfl) | (obtain⟨_,_,_,_,rfl⟩:=CP hl;exact rfl) | (obtain⟨_,_,_,_,_,rfl⟩:=CO hl;exact rfl) | (obtain⟨_,_,_,_,_,_,rfl⟩:=CM hl;exact rfl) | (obtain⟨_,_,_,_,_,_,_,rfl⟩:=CL hl;exact rfl)))
def top(i:Nat):Stmt:=PySem.Challenge.pw_wirechannel_k52_no_drawings.main.body.getD i (.Pass ⟨0,0,0,0⟩)
structure Txt (K:PySem.W.Frag) (mg:Str->Option Value):Prop where
 b_ValueError:mg "ValueError"=none
 b_all:mg "all"=none
 b_any:mg "any"=none
 b_enumerate:mg "enumerate"=none
 b_isinstance:mg "isinstance"=none
 b_len:mg "len"=none
 b_list:mg "list"=none
 b_max:mg "max"=none
 b_range:mg "range"=none
 b_sorted:mg "sorted"=none
 b_sum:mg "sum"=none
 bX:∃t,mg "CROSSINGS"=some (.str "+#" t)
 cj:∃t,mg "STRETCH"=some (.str "-" t)
 cg:∃t,mg "UPRIGHT"=some (.str "|" t)
theorem nK{K:PySem.W.Frag}{C C2:Addr}(h:PySem.W.mroIn K C (.ref C2)=some true):subIn K C C2=true:=by
 unfold PySem.W.mroIn PySem.W.clsIn at h;unfold subIn;split at h
 ·rename_i e;rw[e];simp only[Option.bind_some] at h;split at h
  ·cases h
  ·simpa using h
 ·cases h
section
variable {P:Program} {w:World} {K:PySem.W.Frag} {mg:Str->Option Value} {base:Heap} {bE cu cU cS cR cQ e6 cF dW cP cE dU:Addr}
theorem gz:bP ["rows","length","is_odd"] ["rows"] (bG (top 19)):=by walk_at "sc"
theorem NJ:(["row","length"]:List Str).Nodup:=by decide +kernel
theorem hU:bP ["row","place","signs"] ["row","place"] (bG (top 21)):=by walk_at "sc"
theorem f6:bP ["rows","number","row"] ["rows"] (bG (top 20)):=by walk_at "sc"
theorem FA:(["place","sign","number"]:List Str).Nodup:=by decide +kernel
theorem hX:bP ["line","mark","place","around"] ["line","mark"] (bG (top 22)):=by walk_at "sc"
theorem Np:(["sign","mark"]:List Str).Nodup:=by decide +kernel
theorem fY:bP ["rows","place"] ["rows","place"] (bG (top 24)):=by walk_at "sc"
theorem Ol:(["row","place"]:List Str).Nodup:=by decide +kernel
theorem je:bP ["rows"] ["rows"] (bG (top 23)):=by walk_at "sc"
theorem Nh:(["place","rows"]:List Str).Nodup:=by decide +kernel
theorem fZ:bP ["rows","stretches_hold"] ["rows"] (bG (top 18)):=by walk_at "sc"
theorem NY:(["row"]:List Str).Nodup:=by decide +kernel
theorem NX:(["column"]:List Str).Nodup:=by decide +kernel
theorem e8:bP ["number","line","mark","strands","strand","place","sign"] ["number","line","mark"] (bG (top 26)):=by walk_at "sc"
theorem fX:bP ["lines","mark"] ["lines","mark"] (bG (top 25)):=by walk_at "sc"
theorem Fz:(["number","line","mark"]:List Str).Nodup:=by decide +kernel
theorem gC:bP ["lines","strands","mark","sides","ends","number","line"] ["lines","strands","mark","sides"] (bG (top 27)):=by walk_at "sc"
theorem gA:bP ["links","beside","one","other","firsts","first","waiting","strand"] ["links"] (bG (top 30)):=by walk_at "sc"
theorem iz:bP ["ends","links","firsts","groups","strand","end"] ["ends","links"] (bG (top 29)):=by walk_at "sc"
theorem Nf:(["group"]:List Str).Nodup:=by decide +kernel
theorem gy:bP ["rows","stretches","uprights","joints","number","row","places"] ["rows","stretches","uprights"] (bG (top 28)):=by walk_at "sc"
theorem Fy:(["place","sign"]:List Str).Nodup:=by decide +kernel
theorem zev:(["place","number","stretches","uprights"]:List Str).Nodup:=by decide +kernel
theorem f7:bP ["_law_grid"] ["_law_grid"] (bG (top 36)):=by walk_at "sc"
theorem NW:(["_law_row"]:List Str).Nodup:=by decide +kernel
theorem hZ:bP ["_law_cell","_law_k"] ["_law_cell","_law_k"] (bG (top 32)):=by walk_at "sc"
theorem gc:bP ["_law_script","_law_k","_law_many"] ["_law_script","_law_k","_law_many"] (bG (top 33)):=by walk_at "sc"
theorem h7:bP ["_law_grid","_law_places","_law_wanted","_law_r","_law_s"] ["_law_grid","_law_places","_law_wanted"] (bG (top 34)):=by walk_at "sc"
theorem e9:bP ["_law_script","_law_high","_law_wide","_law_seed","_law_tracks","_law_width","_law_grid","_law_k","_law_t","_law_c","_law_r","_law_s"] ["_law_script","_law_high","_law_wide"] (bG (top 35)):=by walk_at "sc"
theorem Oa:(["_law_r","_law_width"]:List Str).Nodup:=by decide +kernel
theorem fb:bP ["_law_rows","_law_manner","_law_mix_here","_law_at","_law_row","_law_ahead","_law_behind","_law_place","_law_sign"] ["_law_rows","_law_manner","_law_mix_here"] (bG (top 39)):=by walk_at "sc"
theorem N9:(["_law_line","_law_place"]:List Str).Nodup:=by decide +kernel
theorem gD:bP ["_law_row","_law_place","_law_sign"] ["_law_row","_law_place","_law_sign"] (bG (top 37)):=by walk_at "sc"
theorem f9:bP ["_law_rows","_law_width","_law_r","_law_s","_law_beside"] ["_law_rows"] (bG (top 38)):=by walk_at "sc"
theorem NV:(["_law_row","_law_width"]:List Str).Nodup:=by decide +kernel
theorem nQ:bP ["_law_script","_law_rows","_law_mix_here","_law_text","_law_caught","_law_found","error"] ["_law_script"] (bG (top 40)):=by walk_at "sc"
variable (T:Txt K mg)
include T in
theorem NU(A:At K mg "have_form" (top 19)):Known P w K mg base 1 "have_form" 1 uT:=iU 0 A gz (fun f cG A outer s H E hr=>have hu:=hr.units;have nd:=gz.nd
 (cz (fg 1 (h9 lj T.b_len boot_len (bL (fR (bI 0) bR) bV)) nd)
   (cz (fg 2 (uA (mT (fM hu) (bZ gq (h9 lj T.b_len boot_len (bL (bI 0) bV)) bR) bR) (xg (mT (fM hu) (bZ gq (bI 1) bR) bR))) nd)
   (cL (eH (uA (bI 2) (uA (mT Ht (bI 1) bR) (xg (h9 (uv rfl) T.b_all boot_all (bL (mR rfl (.of (N':=["row","length"]) (m:=[none,some 1]) (by kernel_rfl)) lD (mS (bI 0)) (fun s3 H3 ex=>(eT 0 NJ)) (fun s3 H3 ex=>lq) (fun s3 H3 ex=>(mT (fM hu) (h9 lj T.b_len boot_len (bL (bI 0) bV)) (bI 1)))) bV)))))))))) NO (by walk_at "bn")
variable (eB:Known P w K mg base 1 "have_form" 1 uT)
include T in
theorem NI(A:At K mg "signs_at" (top 21)):Known P w K mg base 1 "signs_at" 2 u3:=iU 0 A hU (fun f cG A outer s H E hr=>have hu:=hr.units;have nd:=hU.nd
 have ⟨hJ,bX⟩:=T.bX;have ⟨jd,cj⟩:=T.cj;have ⟨jc,cg⟩:=T.cg
 (cz (fg 2 fA nd)
   (cz (fQ (fk (fM hu) (bZ gq (bI 0) bR) bR) (cL (fg 2 (bZ ej (bI 2) (nD cj)) nd)) fN)
   (cz (fQ (fk (fM hu) (bZ gq (bI 1) bR) bR) (cL (fg 2 (bZ ej (bI 2) (nD cg)) nd)) fN)
   (cz (fQ (l9 (fk (fM hu) (bZ gq (bI 0) bR) bR) (pZ (fk (fM hu) (bZ gq (bI 1) bR) bR))).pb (cL (fg 2 (bZ ej (bI 2) (nD bX)) nd)) fN)
   (cL (eH (bI 2)))))))) Nt (by walk_at "bn")
variable (eZ:Known P w K mg base 1 "signs_at" 2 u3)
include T eZ in
theorem N7(A:At K mg "have_signs" (top 20)):Known P w K mg base 2 "have_signs" 1 uX:=iU 1 A f6 (fun f cG A outer s H E hr=>have hu:=hr.units;have nd:=f6.nd
 (cz (kH ba rfl (xD T.b_enumerate (bL (bI 0) bV)) (oM rfl (i8 (eT 1 nd) (i8 (eT 2 nd) oK)))
    (cL (fQ (oG (kI (h9 (uv rfl) T.b_all boot_all (bL (mR rfl (.of (N':=["place","sign","number"]) (m:=[none,none,some 1]) (by kernel_rfl)) z8 (zZ T.b_enumerate (bL (bI 2) bV)) (fun s3 H3 ex=>(oM rfl (i8 (eT 0 FA) (i8 (eT 1 FA) oK)))) (fun s3 H3 ex=>lq) (fun s3 H3 ex=>(mT (uf hu) (bI 1) (fO eZ hr (bL (bI 2) (bL (bI 0) bV)))))) bV)))) (cL (eH kF)) fN)))
   (cL (eH kF)))) Oh (by walk_at "bn")
variable (dP:Known P w K mg base 2 "have_signs" 1 uX)
include T in
theorem NH(A:At K mg "holds_on" (top 22)):Known P w K mg base 1 "holds_on" 2 tq:=iU 0 A hX (fun f cG A outer s H E hr=>have hu:=hr.units;have nd:=hX.nd
 have ⟨hJ,bX⟩:=T.bX
 (cz (kH ba rfl (MM T.b_range (bL bR (bL (h9 lj T.b_len boot_len (bL (bI 0) bV)) (bL bR bV)))) (eT 2 nd)
    (cz (fg 3 (mW (bI 0) (lC (h9 (Io rfl) T.b_max boot_max (bL (bZ uo (bI 2) bR) (bL bR bV)))) (lC (bZ ej (bI 2) bR))) nd)
   (cL (fQ (l9 (fk (fM hu) (fR (bI 0) (bI 2)) (bI 1)) (pZ (oG (kI (h9 (uv rfl) T.b_all boot_all (bL (mR rfl (.of (N':=["sign","mark"]) (m:=[none,some 1]) (by kernel_rfl)) lD (mS (bI 3)) (fun s3 H3 ex=>(eT 0 Np)) (fun s3 H3 ex=>lq) (fun s3 H3 ex=>(mT (uf hu) (bI 0) (bZ ej (bI 1) (nD bX))))) bV)))))).pb (cL (eH kF)) fN))))
   (cL (eH kF)))) Nr (by walk_at "bn")
variable (d9:Known P w K mg base 1 "holds_on" 2 tq)
include T in
theorem N6(A:At K mg "signs_down" (top 24)):Known P w K mg base 1 "signs_down" 2 uW:=iU 0 A fY (fun f cG A outer s H E hr=>have hu:=hr.units;have nd:=fY.nd
 (cL (eH (rm xm (.inr rfl) PySem.F.plainAttrs_str PySem.F.slot_str_join PySem.F.type_str_join fA (bL (mR rfl (.of (N':=["row","place"]) (m:=[none,some 1]) (by kernel_rfl)) lD (mS (bI 0)) (fun s3 H3 ex=>(eT 0 Ol)) (fun s3 H3 ex=>lq) (fun s3 H3 ex=>(fR (bI 0) (bI 1)))) bV))))) Og (by walk_at "bn")
variable (dN:Known P w K mg base 1 "signs_down" 2 uW)
include T dN in
theorem Nd(A:At K mg "turned" (top 23)):Known P w K mg base 2 "turned" 1 rq:=iU 1 A je (fun f cG A outer s H E hr=>have hu:=hr.units;have nd:=je.nd
 (cL (eH (mR rfl (.of (N':=["place","rows"]) (m:=[none,some 0]) (by kernel_rfl)) lD (qf T.b_range (bL (h9 lj T.b_len boot_len (bL (fR (bI 0) bR) bV)) bV)) (fun s3 H3 ex=>(eT 0 Nh)) (fun s3 H3 ex=>lq) (fun s3 H3 ex=>(fO dN hr (bL (bI 1) (bL (bI 0) bV)))))))) Ni (by walk_at "bn")
variable (d8:Known P w K mg base 2 "turned" 1 rq)
include T eB dP d9 d8 in
theorem N5(A:At K mg "is_drawing" (top 18)):Known P w K mg base 3 "is_drawing" 1 tE:=iU 2 A fZ (fun f cG A outer s H E hr=>have hu:=hr.units;have nd:=fZ.nd
 have ⟨jd,cj⟩:=T.cj;have ⟨jc,cg⟩:=T.cg
 (cz (fQ (xh (oG (kI (fO eB hr (bL (bI 0) bV)))) (zo (oG (kI (fO dP hr (bL (bI 0) bV)))))).pb (cL (eH kF)) fN)
   (cz (fg 1 (h9 (uv rfl) T.b_all boot_all (bL (mR rfl (.of (N':=["row"]) (m:=[none]) (by kernel_rfl)) lD (mS (bI 0)) (fun s3 H3 ex=>(eT 0 NY)) (fun s3 H3 ex=>lq) (fun s3 H3 ex=>(fO d9 hr (bL (bI 0) (bL (nD cj) bV))))) bV)) nd)
   (cL (eH (uA (bI 1) (xg (h9 (uv rfl) T.b_all boot_all (bL (mR rfl (.of (N':=["column"]) (m:=[none]) (by kernel_rfl)) lD (mS (fO d8 hr (bL (bI 0) bV))) (fun s3 H3 ex=>(eT 0 NX)) (fun s3 H3 ex=>lq) (fun s3 H3 ex=>(fO d9 hr (bL (bI 0) (bL (nD cg) bV))))) bV))))))))) Of (by walk_at "bn")
variable (dO:Known P w K mg base 3 "is_drawing" 1 tE)
include T in
theorem Ow(A:At K mg "line_strands" (top 26)):Known P w K mg base 1 "line_strands" 3 u7:=iU 0 A e8 (fun f cG A outer s H E hr=>have hu:=hr.units;have nd:=e8.nd
 have ⟨hJ,bX⟩:=T.bX
 (cz (o8 3 (kh bV) nd)
   (cz (fg 4 sY nd)
   (cz (kH ba rfl (zZ T.b_enumerate (bL (bI 1) bV)) (oM rfl (i8 (eT 5 nd) (i8 (eT 6 nd) oK)))
    (cz (fQ (fk (DT hu) (bI 6) (bZ ej (bI 2) (nD bX))) (cL (fg 4 sY nd)) (cL (fQ (fk CU (bI 4) sY) (cL (fg 4 (kj (bL (bI 2) (bL (bI 0) (bL (bI 5) bV)))) nd)) fN)))
   (cL (y9 3 (bI 4)))))
   (cL (zm 3)))))) Od (by walk_at "bn")
variable (c9:Known P w K mg base 1 "line_strands" 3 u7)
include T c9 in
theorem N4(A:At K mg "strands_of" (top 25)):Known P w K mg base 2 "strands_of" 2 rD:=iU 1 A fX (fun f cG A outer s H E hr=>have hu:=hr.units;have nd:=fX.nd
 (cL (eH (mR rfl (.of (N':=["number","line","mark"]) (m:=[none,none,some 1]) (by kernel_rfl)) z8 (xD T.b_enumerate (bL (bI 0) bV)) (fun s3 H3 ex=>(oM rfl (i8 (eT 0 Fz) (i8 (eT 1 Fz) oK)))) (fun s3 H3 ex=>lq) (fun s3 H3 ex=>(fO c9 hr (bL (bI 0) (bL (bI 1) (bL (bI 2) bV))))))))) Oe (by walk_at "bn")
variable (c8:Known P w K mg base 2 "strands_of" 2 rD)
include T in
theorem NT(A:At K mg "edge_ends" (top 27)):Known P w K mg base 1 "edge_ends" 4 rB:=iU 0 A gC (fun f cG A outer s H E hr=>have hu:=hr.units;have nd:=gC.nd
 (cz (o8 4 (kh bV) nd)
   (cz (kH ba rfl (xD T.b_enumerate (bL (bI 0) bV)) (oM rfl (i8 (eT 5 nd) (i8 (eT 6 nd) oK)))
    (cz (fQ (fk (fM hu) (fR (bI 6) bR) (bI 2)) (cL (y9 4 (kj (bL (fR (fR (bI 1) (bI 5)) bR) (bL (kj (bL (fR (bI 3) bR) (bL (bZ pW (bI 5) bR) bV))) bV))))) fN)
   (cL (fQ (fk (fM hu) (fR (bI 6) (Dr bR)) (bI 2)) (cL (y9 4 (kj (bL (fR (fR (bI 1) (bI 5)) (Dr bR)) (bL (kj (bL (fR (bI 3) bR) (bL (bZ pW (bI 5) bR) bV))) bV))))) fN))))
   (cL (zm 4))))) NN (by walk_at "bn")
variable (dD:Known P w K mg base 1 "edge_ends" 4 rB)
include T in
theorem NS(A:At K mg "firsts_of" (top 30)):Known P w K mg base 1 "firsts_of" 1 uS:=iU 0 A gA (fun f cG A outer s H E hr=>have hu:=hr.units;have nd:=gA.nd
 (cz (o8 1 Es nd)
   (cz (kH ba rfl (mS (bI 0)) (oM rfl (i8 (eT 2 nd) (i8 (eT 3 nd) oK)))
    (cz (y1 hu 1 (bI 2) (bI 3))
   (cL (y1 hu 1 (bI 3) (bI 2)))))
   (cz (o8 4 Lw nd)
   (xB 1 (cz (kH ba rfl (Lp (bI 1)) (eT 5 nd)
    (cz (o8 6 (kh (bL (bI 5) bV)) nd)
   (cL (K6 ba (fk Hu (Kf 6 T.b_len) bR) (cz (LM 7 6 (hnd:=nd))
   (cL (fQ (KH 4 (fk (Lx hu) (bI 7) (bI 4))) (cz (JC hu 4 (bI 7) (bI 5))
   (cL (Ju 6 (JH hu (bI 1) (bI 7))))) fN)))))))
   (cL (DZ 4)))))))) NL (by walk_at "bn")
variable (eC:Known P w K mg base 1 "firsts_of" 1 uS)
include T eC in
theorem Nm(A:At K mg "grouped" (top 29)):Known P w K mg base 2 "grouped" 2 tw:=iU 1 A iz (fun f cG A outer s H E hr=>have hu:=hr.units;have nd:=iz.nd
 (cz (fg 2 (fO eC hr (bL (bI 1) bV)) nd)
   (cz (o8 3 Es nd)
   (cz (kH ba rfl (mS (bI 0)) (oM rfl (i8 (eT 4 nd) (i8 (eT 5 nd) oK)))
    (cL (y1 hu 3 (Lv hu (bI 2) (bI 4) (bI 4)) (bI 5))))
   (xB 3 (cL (eH (LN hu T.b_sorted (KS rfl (.of (N':=["group"]) (m:=[none]) (by kernel_rfl)) lD (LR (bI 3)) (fun s3 H3 ex=>(eT 0 Nf)) (fun s3 H3 ex=>lq) (fun s3 H3 ex=>(h9 (Jw rfl) T.b_sorted boot_sorted (bL (bI 0) bV)))))))))))) ND (by walk_at "bn")
variable (fL:Known P w K mg base 2 "grouped" 2 tw)
include T in
theorem NR(A:At K mg "joints_of" (top 28)):Known P w K mg base 1 "joints_of" 3 tF:=iU 0 A gy (fun f cG A outer s H E hr=>have hu:=hr.units;have nd:=gy.nd
 (cz (o8 3 (kh bV) nd)
   (cz (kH ba rfl (xD T.b_enumerate (bL (bI 0) bV)) (oM rfl (i8 (eT 4 nd) (i8 (eT 5 nd) oK)))
    (cz (K3 6 rfl (.of (N':=["place","sign"]) (m:=[none,none]) (by kernel_rfl)) z8 (zZ T.b_enumerate (bL (bI 5) bV)) (fun s3 H3 ex=>(oM rfl (i8 (eT 0 Fy) (i8 (eT 1 Fy) oK)))) (fun s3 H3 ex=>(Kh (fk (fM hu) (bI 1) fA))) (fun s3 H3 ex=>(bI 0)) nd)
   (cL (Dq 3 (mR rfl (.of (N':=["place","number","stretches","uprights"]) (m:=[none,some 4,some 1,some 2]) (by kernel_rfl)) lD (mS (bI 6)) (fun s3 H3 ex=>(eT 0 zev)) (fun s3 H3 ex=>lq) (fun s3 H3 ex=>(kj (bL (fR (fR (bI 2) (bI 1)) (bI 0)) (bL (fR (fR (bI 3) (bI 0)) (bI 1)) bV)))))))))
   (cL (zm 3))))) NM (by walk_at "bn")
variable (eA:Known P w K mg base 1 "joints_of" 3 tF)
include T in
theorem N2(A:At K mg "_law_shown" (top 36)):Known P w K mg base 1 "_law_shown" 1 uV:=iU 0 A f7 (fun f cG A outer s H E hr=>have hu:=hr.units;have nd:=f7.nd
 (cL (eH (rm xm (.inr rfl) PySem.F.plainAttrs_str PySem.F.slot_str_join PySem.F.type_str_join fA (bL (mR rfl (.of (N':=["_law_row"]) (m:=[none]) (by kernel_rfl)) lD (mS (bI 0)) (fun s3 H3 ex=>(eT 0 NW)) (fun s3 H3 ex=>lq) (fun s3 H3 ex=>(rm xm (.inr rfl) PySem.F.plainAttrs_str PySem.F.slot_str_join PySem.F.type_str_join fA (bL (bI 0) bV)))) bV))))) Oo (by walk_at "bn")
variable (dQ:Known P w K mg base 1 "_law_shown" 1 uV)
include T in
theorem NG(A:At K mg "_law_mix" (top 32)):Known P w K mg base 1 "_law_mix" 2 qe:=iU 0 A hZ (fun f cG A outer s H E hr=>have hu:=hr.units;have nd:=hZ.nd
 (cL (eH (bZ pW (bZ gq (bZ ej (bZ ej (bZ nB (bZ gq (bI 0) (bZ HP bR bR)) (bZ ej (bZ nB (bI 1) (bI 1)) bR)) (bZ nB (bZ nB (bZ nB bR (bI 1)) (bI 1)) (bI 1))) bR) bR) bR)))) Nu (by walk_at "bn")
variable (cf:Known P w K mg base 1 "_law_mix" 2 qe)
include T cf in
theorem N1(A:At K mg "_law_digit" (top 33)):Known P w K mg base 2 "_law_digit" 3 rC:=iU 1 A gc (fun f cG A outer s H E hr=>have hu:=hr.units;have nd:=gc.nd
 (cz (fQ (fk Cw (bZ ej (bI 1) bR) (h9 lj T.b_len boot_len (bL (bI 0) bV))) (cL (eH (bZ gq (fO cf hr (bL (fR (bI 0) (bZ ej (bI 1) bR)) (bL (bZ gq (bI 1) bR) bV))) (bI 2)))) fN)
   (cL (eH (bZ gq (fO cf hr (bL (h9 (yR rfl) T.b_sum boot_sum (bL (mW (bI 0) oJ (lC bR)) bV)) (bL (bI 1) bV))) (bI 2)))))) Oq (by walk_at "bn")
variable (cO:Known P w K mg base 2 "_law_digit" 3 rC)
include T in
theorem NF(A:At K mg "_law_led" (top 34)):Known P w K mg base 1 "_law_led" 3 qd:=iU 0 A h7 (fun f cG A outer s H E hr=>have hu:=hr.units;have nd:=h7.nd
 (cz (kH ba rfl (mS (bI 1)) (oM rfl (i8 (eT 3 nd) (i8 (eT 4 nd) oK)))
    (cL (fQ (l9 (EA C3 yP bR (bI 3) (h9 lj T.b_len boot_len (bL (bI 0) bV))) (l9 (EA C3 yP bR (bI 4) (h9 lj T.b_len boot_len (bL (fR (bI 0) bR) bV))) (pZ (fk (DT hu) (fR (fR (bI 0) (bI 3)) (bI 4)) (bI 2))))).pb (cL (eH kF)) fN)))
   (cL (eH kF)))) Nq (by walk_at "bn")
variable (cD:Known P w K mg base 1 "_law_led" 3 qd)
include T cf cO cD in
theorem Ov(A:At K mg "_law_picture" (top 35)):Known P w K mg base 3 "_law_picture" 3 u6:=iU 2 A e9 (fun f cG A outer s H E hr=>have hu:=hr.units;have nd:=e9.nd
 (cz (fg 3 (fO cf hr (bL (h9 (yR rfl) T.b_sum boot_sum (bL (mW (bI 0) oJ (lC bR)) bV)) (bL bR bV))) nd)
   (cz (fg 4 (bZ gq (bI 3) (bZ ej (bI 1) bR)) nd)
   (cz (fg 5 (bZ ej bR (bZ gq (bZ pW (bI 3) bR) (bI 2))) nd)
   (cz (KR 6 rfl (.of (N':=["_law_r","_law_width"]) (m:=[none,some 5]) (by kernel_rfl)) lD (qf T.b_range (bL (bZ ej (bZ nB bR (bI 4)) bR) bV)) (fun s3 H3 ex=>(eT 0 Oa)) (fun s3 H3 ex=>lq) (fun s3 H3 ex=>(IX (kh (bL fA bV)) (bZ ej (bZ nB bR (bI 1)) bR))) nd)
   (cz (fg 7 bR nd)
   (cz (kH ba rfl (qf T.b_range (bL (bI 4) bV)) (eT 8 nd)
    (cL (kH ba rfl (qf T.b_range (bL (bI 5) bV)) (eT 9 nd)
    (cz (Av 6 (bZ ej (bZ nB bR (bI 8)) bR) (bZ ej (bZ nB bR (bI 9)) bR) (fR fA (fO cO hr (bL (bI 0) (bL (bI 7) (bL bR bV))))))
   (cL (fg 7 (bZ ej (bI 7) bR) nd))))))
   (cz (kH ba rfl (qf T.b_range (bL (bZ ej (bZ nB bR (bI 4)) bR) bV)) (eT 10 nd)
    (cL (kH ba rfl (qf T.b_range (bL (bZ ej (bZ nB bR (bI 5)) bR) bV)) (eT 11 nd)
    (cz (fQ (l9 (fk (fM hu) (bZ gq (bI 10) bR) bR) (l9 (fk (fM hu) (bZ gq (bI 11) bR) bR) (pZ (kI (D2 6 (fO cD hr (bL (bI 6) (bL (kh (bL (kj (bL (bI 10) (bL (bZ uo (bI 11) bR) bV))) (bL (kj (bL (bI 10) (bL (bZ ej (bI 11) bR) bV))) bV))) (bL fA bV))))))))).pb (cz (Av 6 (bI 10) (bI 11) (fR fA (fO cO hr (bL (bI 0) (bL (bI 7) (bL bR bV))))))
   (cL (fg 7 (bZ ej (bI 7) bR) nd))) fN)
   (cL (fQ (l9 (fk (fM hu) (bZ gq (bI 10) bR) bR) (l9 (fk (fM hu) (bZ gq (bI 11) bR) bR) (pZ (kI (D2 6 (fO cD hr (bL (bI 6) (bL (kh (bL (kj (bL (bZ uo (bI 10) bR) (bL (bI 11) bV))) (bL (kj (bL (bZ ej (bI 10) bR) (bL (bI 11) bV))) bV))) (bL fA bV))))))))).pb (cz (Av 6 (bI 10) (bI 11) (fR fA (fO cO hr (bL (bI 0) (bL (bI 7) (bL bR bV))))))
   (cL (fg 7 (bZ ej (bI 7) bR) nd))) fN))))))
   (cL (DZ 6)))))))))) Oc (by walk_at "bn")
variable (de:Known P w K mg base 3 "_law_picture" 3 u6)
include T in
theorem Ou(A:At K mg "_law_changed" (top 39)):Known P w K mg base 1 "_law_changed" 3 u4:=iU 0 A fb (fun f cG A outer s H E hr=>have hu:=hr.units;have nd:=fb.nd
 (cz (fg 3 (bZ gq (bI 2) (h9 lj T.b_len boot_len (bL (bI 0) bV))) nd)
   (cz (fg 4 (fR (bI 0) (bI 3)) nd)
   (cz (fg 5 (mW (bI 0) oJ (lC (bI 3))) nd)
   (cz (fg 6 (mW (bI 0) (lC (bZ ej (bI 3) bR)) oJ) nd)
   (cz (fg 7 (bZ gq (bZ pW (bI 2) bR) (h9 lj T.b_len boot_len (bL (bI 4) bV))) nd)
   (cz (fg 8 (fR fA (bZ gq (bZ pW (bI 2) bR) bR)) nd)
   (cz (fQ (fk (fM hu) (bI 1) bR) (cL (eH (bZ ej (bI 5) (bI 6)))) fN)
   (cz (fQ (fk (fM hu) (bI 1) bR) (cL (eH (bZ ej (bZ ej (bI 5) (kh (bL (bI 4) (bL (bI 4) bV)))) (bI 6)))) fN)
   (cz (fQ (fk (fM hu) (bI 1) bR) (cL (eH (bZ ej (bZ ej (bI 5) (kh (bL (bZ ej (mW (bI 4) oJ (lC (bI 7))) (mW (bI 4) (lC (bZ ej (bI 7) bR)) oJ)) bV))) (bI 6)))) fN)
   (cz (fQ (fk (fM hu) (bI 1) bR) (cL (eH (bZ ej (bZ ej (bI 5) (kh (bL (bZ ej (bI 4) fA) bV))) (bI 6)))) fN)
   (cz (fQ (fk (fM hu) (bI 1) bR) (cL (eH (mR rfl (.of (N':=["_law_line","_law_place"]) (m:=[none,some 7]) (by kernel_rfl)) lD (mS (bI 0)) (fun s3 H3 ex=>(eT 0 N9)) (fun s3 H3 ex=>lq) (fun s3 H3 ex=>(bZ ej (mW (bI 0) oJ (lC (bI 1))) (mW (bI 0) (lC (bZ ej (bI 1) bR)) oJ)))))) fN)
   (cz (fQ (fk (fM hu) (bI 1) bR) (cL (eH (bZ ej (bI 0) (kh (bL fA bV))))) fN)
   (cz (fQ (fk (fM hu) (bI 1) bR) (cL (eH (kh (bL (fR (kh (bL fA (bL fA (bL fA (bL fA bV))))) (bZ gq (bZ pW (bI 2) bR) bR)) bV)))) fN)
   (cL (eH (bZ ej (bZ ej (bI 5) (kh (bL (bZ ej (bZ ej (mW (bI 4) oJ (lC (bI 7))) (bI 8)) (mW (bI 4) (lC (bZ ej (bI 7) bR)) oJ)) bV))) (bI 6)))))))))))))))))) Ob (by walk_at "bn")
variable (df:Known P w K mg base 1 "_law_changed" 3 u4)
include T in
theorem NQ(A:At K mg "_law_fits" (top 37)):Known P w K mg base 1 "_law_fits" 3 uR:=iU 0 A gD (fun f cG A outer s H E hr=>have hu:=hr.units;have nd:=gD.nd
 (cz (fQ (l9 (fk (fM hu) (bZ gq (bI 0) bR) bR) (pZ (fk (fM hu) (bZ gq (bI 1) bR) bR))).pb (cL (eH (mT (uf hu) (bI 2) fA))) fN)
   (cz (fQ (fk (fM hu) (bZ gq (bI 0) bR) bR) (cL (eH (mT (uf hu) (bI 2) fA))) fN)
   (cz (fQ (fk (fM hu) (bZ gq (bI 1) bR) bR) (cL (eH (mT (uf hu) (bI 2) fA))) fN)
   (cL (eH (mT (fM hu) (bI 2) fA))))))) NK (by walk_at "bn")
variable (eE:Known P w K mg base 1 "_law_fits" 3 uR)
include T cD eE in
theorem N0(A:At K mg "_law_right" (top 38)):Known P w K mg base 2 "_law_right" 1 uU:=iU 1 A f9 (fun f cG A outer s H E hr=>have hu:=hr.units;have nd:=f9.nd
 (cz (fg 1 (h9 lj T.b_len boot_len (bL (fR (bI 0) bR) bV)) nd)
   (cz (fQ (xh (fk (fM hu) (bZ gq (h9 lj T.b_len boot_len (bL (bI 0) bV)) bR) bR) (xh (fk (fM hu) (bZ gq (bI 1) bR) bR) (zo (fk Cw (bI 1) bR)))).pb (cL (eH kF)) fN)
   (cz (fQ (kI (h9 (HM rfl) T.b_any boot_any (bL (mR rfl (.of (N':=["_law_row","_law_width"]) (m:=[none,some 1]) (by kernel_rfl)) lD (mS (bI 0)) (fun s3 H3 ex=>(eT 0 NV)) (fun s3 H3 ex=>lq) (fun s3 H3 ex=>(mT (Hs hu) (h9 lj T.b_len boot_len (bL (bI 0) bV)) (bI 1)))) bV))) (cL (eH kF)) fN)
   (cz (kH ba rfl (qf T.b_range (bL (h9 lj T.b_len boot_len (bL (bI 0) bV)) bV)) (eT 2 nd)
    (cL (kH ba rfl (qf T.b_range (bL (bI 1) bV)) (eT 3 nd)
    (cz (fQ (oG (kI (fO eE hr (bL (bI 2) (bL (bI 3) (bL (fR (fR (bI 0) (bI 2)) (bI 3)) bV)))))) (cL (eH kF)) fN)
   (cz (fg 4 (kh (bL (kj (bL (bI 2) (bL (bZ uo (bI 3) bR) bV))) (bL (kj (bL (bI 2) (bL (bZ ej (bI 3) bR) bV))) bV))) nd)
   (cz (fQ (l9 (fk (fM hu) (fR (fR (bI 0) (bI 2)) (bI 3)) fA) (l9 (fk (fM hu) (bZ gq (bI 3) bR) bR) (pZ (oG (kI (fO cD hr (bL (bI 0) (bL (bI 4) (bL fA bV))))))))).pb (cL (eH kF)) fN)
   (cz (fg 4 (kh (bL (kj (bL (bZ uo (bI 2) bR) (bL (bI 3) bV))) (bL (kj (bL (bZ ej (bI 2) bR) (bL (bI 3) bV))) bV))) nd)
   (cL (fQ (l9 (fk (fM hu) (fR (fR (bI 0) (bI 2)) (bI 3)) fA) (l9 (fk (fM hu) (bZ gq (bI 2) bR) bR) (pZ (oG (kI (fO cD hr (bL (bI 0) (bL (bI 4) (bL fA bV))))))))).pb (cL (eH kF)) fN)))))))))
   (cL (eH kF))))))) Om (by walk_at "bn")
variable (dS:Known P w K mg base 2 "_law_right" 1 uU)
abbrev gE:Stmt:=top 17
theorem dY:bP ["text","rows","columns","stretches","uprights","ends"] ["text"] (bG gE):=by walk_at "sc"
theorem Nl(A:At K mg "traced" gE)(T:Txt K mg)(dO:Known P w K mg base 3 "is_drawing" 1 tE)(d8:Known P w K mg base 2 "turned" 1 rq)(c8:Known P w K mg base 2 "strands_of" 2 rD)(dD:Known P w K mg base 1 "edge_ends" 4 rB)(fL:Known P w K mg base 2 "grouped" 2 tw)(eA:Known P w K mg base 1 "joints_of" 3 tF)  (cq:eK K mg "BadDrawing" bE [.type "ValueError",.type "Exception",.type "BaseException",.type "object"] "ValueError.__new__"):iH P w K mg base bE 4 "traced" 1 uY:=MA (T:=xJ) 3 A dY (fun Qx f cG A outer s H E hr=>have hu:=hr.units
 have ⟨jd,cj⟩:=T.cj;have ⟨jc,cg⟩:=T.cg
 (ET (IU (fg 1 (rm zE (.inr rfl) PySem.F.plainAttrs_str PySem.F.slot_str_split PySem.F.type_str_split (bI 0) (bL fA bV)) dY.nd))
   (ET (IT (oG (kI (fO dO hr (bL (bI 1) bV)))) (Lz (Ly cq PySem.F.excBase_ValueError rfl JG fA)) (D9 fN))
   (D9 (cz (fg 2 (fO d8 hr (bL (bI 1) bV)) dY.nd)
   (cz (fg 3 (fO c8 hr (bL (bI 1) (bL (nD cj) bV))) dY.nd)
   (cz (fg 4 (fO c8 hr (bL (bI 2) (bL (nD cg) bV))) dY.nd)
   (cz (o8 5 (fO dD hr (bL (bI 1) (bL (bI 3) (bL (nD cj) (bL (kj (bL fA (bL fA bV))) bV))))) dY.nd)
   (cz (Dq 5 (fO dD hr (bL (bI 2) (bL (bI 4) (bL (nD cg) (bL (kj (bL fA (bL fA bV))) bV))))))
   (xB 5 (cL (eH (fO fL hr (bL (bI 5) (bL (fO eA hr (bL (bI 1) (bL (bI 3) (bL (bI 4) bV)))) bV))))))))))))))) Ng fun _ _ _ _ _ _ us hl=>by obtain⟨_,rfl⟩:=yz hl;exact rfl
include T dQ cf de df dS in
theorem HA  (iE:iH P w K mg base bE 4 "traced" 1 uY) (cq:eK K mg "BadDrawing" bE [.type "ValueError",.type "Exception",.type "BaseException",.type "object"] "ValueError.__new__") (dB:eK K mg "WireError" cu [.type "ValueError",.type "Exception",.type "BaseException",.type "object"] "ValueError.__new__") (b8:PySem.W.nsIn K mainGlobals "BadDrawing"=some (some (.ref bE))) (bT:subIn K bE cu=true) (EK:qQ K bE) (c7:mg "BadDrawing"=some (.ref bE)) (eQ:mg "BadBend"=some (.ref cU)) (eP:mg "BadKeep"=some (.ref cS)) (eO:mg "BadPile"=some (.ref cR)) (eN:mg "BadText"=some (.ref cQ)) (iG:mg "Lone"=some (.ref e6)) (d7:mg "NoLayout"=some (.ref cF)) (gM:mg "NoNet"=some (.ref dW)) (eM:mg "NoOrder"=some (.ref cP)) (d6:mg "PinTaken"=some (.ref cE)) (gL:mg "Taken"=some (.ref dU)) (I1:PySem.W.kitOne K (.ref bE) (.ref bE)=some true) (I2:PySem.W.kitOne K (.ref bE) (.type "ValueError")=some true) (I3:PySem.W.kitAny K (.ref bE) [.ref cU,.ref cS,.ref cR,.ref cQ,.ref e6,.ref cF]=some false) (I4:PySem.W.kitAny K (.ref bE) [.ref dW,.ref cP,.ref cE,.ref dU]=some false) {f:Addr} (cG:Value) (A:Around) (outer:List Env) (s:Shared) (H:Hp) (E:XK) (hr:dA 4 (A.deeper (envOfC "law" (bG (top 40)) s.heap.objs.size f cG))) :
  kX (lY mI P w K mg base ["_law_script","_law_rows","_law_mix_here","_law_text","_law_caught","_law_found","error"] "law" (bG (top 40)) f cG A outer s H E).qp (cK (top 40)) uj:=
 have hu:=hr.units;have nd:=nQ.nd
 (cz (fg 1 (rm zE (.inr rfl) PySem.F.plainAttrs_str PySem.F.slot_str_split PySem.F.type_str_split (fO dQ hr (bL (fO de hr (bL (bI 0) (bL bR (bL bR bV)))) bV)) (bL fA bV)) nd)
   (cz (fg 2 (fO cf hr (bL (h9 (yR rfl) T.b_sum boot_sum (bL (mW (bI 0) (lC bR) (lC bR)) bV)) (bL bR bV))) nd)
   (cz (fg 1 (fO df hr (bL (bI 1) (bL (bZ gq (bI 2) bR) (bL (bZ pW (bI 2) bR) bV)))) nd)
   (cz (fg 3 (rm xm (.inr rfl) PySem.F.plainAttrs_str PySem.F.slot_str_join PySem.F.type_str_join fA (bL (bI 1) bV)) nd)
   (cz (fg 4 sY nd)
   (cz (o8 5 sY nd)
   (cz (Lk 5 6 4 iE hr cq dB rfl b8 bT rfl nd (bL (bI 3) bV))
   (xB 5 (cz (fQ (kI (fO dS hr (bL (rm zE (.inr rfl) PySem.F.plainAttrs_str PySem.F.slot_str_split PySem.F.type_str_split (bI 3) (bL fA bV)) bV))) (cL (eH (uA (mT CU (bI 4) sY) (xg (Jc (bI 5) T.b_isinstance T.b_list boot_list))))) fN)
   (cz (fQ (xh (oG (kI (Js (b:=true) (bI 4) EK b8 T.b_isinstance c7 I1))) (zo (oG (kI (Jr (b:=true) (bI 4) EK b8 T.b_isinstance T.b_ValueError (by decide +kernel) I2))))).pb (cL (eH kF)) fN)
   (cz (fQ (kI (Ek (cs:=[("BadBend",cU,_),("BadKeep",cS,_),("BadPile",cR,_),("BadText",cQ,_),("Lone",e6,_),("NoLayout",cF,_)]) (b:=false) (bI 4) EK b8 T.b_isinstance (bx.mpr ⟨⟨eQ,rfl,show(("BadBend":Str)==("__debug__":Str))=false by decide⟩,(bx.mpr ⟨⟨eP,rfl,show(("BadKeep":Str)==("__debug__":Str))=false by decide⟩,(bx.mpr ⟨⟨eO,rfl,show(("BadPile":Str)==("__debug__":Str))=false by decide⟩,(bx.mpr ⟨⟨eN,rfl,show(("BadText":Str)==("__debug__":Str))=false by decide⟩,(bx.mpr ⟨⟨iG,rfl,show(("Lone":Str)==("__debug__":Str))=false by decide⟩,(bx.mpr ⟨⟨d7,rfl,show(("NoLayout":Str)==("__debug__":Str))=false by decide⟩,(fun _ h=>nomatch h)⟩)⟩)⟩)⟩)⟩)⟩) I3 (show 6<=sizeLine by decide +kernel) (by intro es h;obtain⟨l,e⟩:=h;subst e;rcases l with _ | _ | _ | _ | _ | _ | _ | _<;>rfl))) (cL (eH kF)) fN)
   (cL (eH (Je (Ek (cs:=[("NoNet",dW,_),("NoOrder",cP,_),("PinTaken",cE,_),("Taken",dU,_)]) (b:=false) (bI 4) EK b8 T.b_isinstance (bx.mpr ⟨⟨gM,rfl,show(("NoNet":Str)==("__debug__":Str))=false by decide⟩,(bx.mpr ⟨⟨eM,rfl,show(("NoOrder":Str)==("__debug__":Str))=false by decide⟩,(bx.mpr ⟨⟨d6,rfl,show(("PinTaken":Str)==("__debug__":Str))=false by decide⟩,(bx.mpr ⟨⟨gL,rfl,show(("Taken":Str)==("__debug__":Str))=false by decide⟩,(fun _ h=>nomatch h)⟩)⟩)⟩)⟩) I4 (show 4<=sizeLine by decide +kernel) (by intro es h;obtain⟨l,e⟩:=h;subst e;rcases l with _ | _ | _ | _ | _ | _<;>rfl))))))))))))))))
theorem rS{fa:Addr}(T:Txt K mg)  (AA:At K mg "have_form" (top 19)/\At K mg "signs_at" (top 21)/\At K mg "have_signs" (top 20)/\At K mg "holds_on" (top 22)/\At K mg "signs_down" (top 24)/\At K mg "turned" (top 23)/\At K mg "is_drawing" (top 18)/\At K mg "line_strands" (top 26)/\At K mg "strands_of" (top 25)/\At K mg "edge_ends" (top 27)/\At K mg "firsts_of" (top 30)/\At K mg "grouped" (top 29)/\At K mg "joints_of" (top 28)/\At K mg "_law_shown" (top 36)/\At K mg "_law_mix" (top 32)/\At K mg "_law_digit" (top 33)/\At K mg "_law_led" (top 34)/\At K mg "_law_picture" (top 35)/\At K mg "_law_changed" (top 39)/\At K mg "_law_fits" (top 37)/\At K mg "_law_right" (top 38)/\At K mg "law" (top 40)/\True) (iI:At K mg "traced" gE) (cq:eK K mg "BadDrawing" bE [.type "ValueError",.type "Exception",.type "BaseException",.type "object"] "ValueError.__new__") (dB:eK K mg "WireError" cu [.type "ValueError",.type "Exception",.type "BaseException",.type "object"] "ValueError.__new__") (b8:PySem.W.nsIn K mainGlobals "BadDrawing"=some (some (.ref bE))) (bT:subIn K bE cu=true) (EK:qQ K bE) (c7:mg "BadDrawing"=some (.ref bE)) (eQ:mg "BadBend"=some (.ref cU)) (eP:mg "BadKeep"=some (.ref cS)) (eO:mg "BadPile"=some (.ref cR)) (eN:mg "BadText"=some (.ref cQ)) (iG:mg "Lone"=some (.ref e6)) (d7:mg "NoLayout"=some (.ref cF)) (gM:mg "NoNet"=some (.ref dW)) (eM:mg "NoOrder"=some (.ref cP)) (d6:mg "PinTaken"=some (.ref cE)) (gL:mg "Taken"=some (.ref dU)) (I1:PySem.W.kitOne K (.ref bE) (.ref bE)=some true) (I2:PySem.W.kitOne K (.ref bE) (.type "ValueError")=some true) (I3:PySem.W.kitAny K (.ref bE) [.ref cU,.ref cS,.ref cR,.ref cQ,.ref e6,.ref cF]=some false) (I4:PySem.W.kitAny K (.ref bE) [.ref dW,.ref cP,.ref cE,.ref dU]=some false) (pG:mg "law"=some (.ref fa)):∃fd:FuncData,(∀(s:Shared) (u:Value),BindsTo s fd ⟨[u],[]⟩ [("_law_script",u)])/\∀base:Heap,g8 P w K mg base mI 5 fa fd ["_law_script"] (t7 K 1 (yS 63)):=by
 obtain⟨j5,k7,jC,k8,jA,oq,jB,iJ,jz,j7,j6,mJ,j4,jD,k9,jF,la,iK,iL,j8,jE,wH,_⟩:=AA;refine Jb (T:=fun _=>uj) wH pG nQ (by walk_at "bn") (fun base f cG A outer s H E hr=>?_) (fun _=>LB);have eB:Known P w K mg base 1 "have_form" 1 uT:=NU T j5;have eZ:Known P w K mg base 1 "signs_at" 2 u3:=NI T k7;have dP:Known P w K mg base 2 "have_signs" 1 uX:=N7 T eZ jC;have d9:Known P w K mg base 1 "holds_on" 2 tq:=NH T k8;have dN:Known P w K mg base 1 "signs_down" 2 uW:=N6 T jA;have d8:Known P w K mg base 2 "turned" 1 rq:=Nd T dN oq;have dO:Known P w K mg base 3 "is_drawing" 1 tE:=N5 T eB dP d9 d8 jB;have c9:Known P w K mg base 1 "line_strands" 3 u7:=Ow T iJ;have c8:Known P w K mg base 2 "strands_of" 2 rD:=N4 T c9 jz;have dD:Known P w K mg base 1 "edge_ends" 4 rB:=NT T j7;have eC:Known P w K mg base 1 "firsts_of" 1 uS:=NS T j6;have fL:Known P w K mg base 2 "grouped" 2 tw:=Nm T eC mJ;have eA:Known P w K mg base 1 "joints_of" 3 tF:=NR T j4;have dQ:Known P w K mg base 1 "_law_shown" 1 uV:=N2 T jD;have cf:Known P w K mg base 1 "_law_mix" 2 qe:=NG T k9;have cO:Known P w K mg base 2 "_law_digit" 3 rC:=N1 T cf jF;have cD:Known P w K mg base 1 "_law_led" 3 qd:=NF T la;have de:Known P w K mg base 3 "_law_picture" 3 u6:=Ov T cf cO cD iK;have df:Known P w K mg base 1 "_law_changed" 3 u4:=Ou T iL;have eE:Known P w K mg base 1 "_law_fits" 3 uR:=NQ T j8;have dS:Known P w K mg base 2 "_law_right" 1 uU:=N0 T cD eE jE;have iE:iH P w K mg base bE 4 "traced" 1 uY:=Nl iI T dO d8 c8 dD fL eA cq;exact HA T dQ cf de df dS iE cq dB b8 bT EK c7 eQ eP eO eN iG d7 gM eM d6 gL I1 I2 I3 I4 cG A outer s H E hr
end
end Wc
open PySem PySem.W PyProof.Rows
theorem PySem.W.Fast.te8315322167319374825:True:=trivial
noncomputable def PySem.W.Fast.tw10548743527580184600:PySem.Program:=PySem.Challenge.pw_wirechannel_k52_no_drawings
theorem PySem.W.Fast.te10548743527580184600:PySem.Challenge.pw_wirechannel_k52_no_drawings=PySem.W.Fast.tw10548743527580184600:=rfl
noncomputable def PySem.W.Fast.tw14071212245724493056:List PySem.Stmt:=(PySem.Challenge.pw_wirechannel_k52_no_drawings.main.body.drop 0).take 2
theorem PySem.W.Fast.te14071212245724493056:(PySem.Challenge.pw_wirechannel_k52_no_drawings.main.body.drop 0).take 2=PySem.W.Fast.tw14071212245724493056:=rfl
noncomputable def PySem.W.Fast.tw15883227569025491097:List PySem.Stmt:=(PySem.Challenge.pw_wirechannel_k52_no_drawings.main.body.drop 2).take 1
theorem PySem.W.Fast.te15883227569025491097:(PySem.Challenge.pw_wirechannel_k52_no_drawings.main.body.drop 2).take 1=PySem.W.Fast.tw15883227569025491097:=rfl
noncomputable def PySem.W.Fast.tw5501560313174473618:List PySem.Stmt:=(PySem.Challenge.pw_wirechannel_k52_no_drawings.main.body.drop 3).take 1
theorem PySem.W.Fast.te5501560313174473618:(PySem.Challenge.pw_wirechannel_k52_no_drawings.main.body.drop 3).take 1=PySem.W.Fast.tw5501560313174473618:=rfl
noncomputable def PySem.W.Fast.tw17494286497311003628:List PySem.Stmt:=(PySem.Challenge.pw_wirechannel_k52_no_drawings.main.body.drop 4).take 1
theorem PySem.W.Fast.te17494286497311003628:(PySem.Challenge.pw_wirechannel_k52_no_drawings.main.body.drop 4).take 1=PySem.W.Fast.tw17494286497311003628:=rfl
noncomputable def PySem.W.Fast.tw2914907168822297102:List PySem.Stmt:=(PySem.Challenge.pw_wirechannel_k52_no_drawings.main.body.drop 5).take 1
theorem PySem.W.Fast.te2914907168822297102:(PySem.Challenge.pw_wirechannel_k52_no_drawings.main.body.drop 5).take 1=PySem.W.Fast.tw2914907168822297102:=rfl
noncomputable def PySem.W.Fast.tw15641101981689759779:List PySem.Stmt:=(PySem.Challenge.pw_wirechannel_k52_no_drawings.main.body.drop 6).take 1
theorem PySem.W.Fast.te15641101981689759779:(PySem.Challenge.pw_wirechannel_k52_no_drawings.main.body.drop 6).take 1=PySem.W.Fast.tw15641101981689759779:=rfl
noncomputable def PySem.W.Fast.tw16056978583039679207:List PySem.Stmt:=(PySem.Challenge.pw_wirechannel_k52_no_drawings.main.body.drop 7).take 1
theorem PySem.W.Fast.te16056978583039679207:(PySem.Challenge.pw_wirechannel_k52_no_drawings.main.body.drop 7).take 1=PySem.W.Fast.tw16056978583039679207:=rfl
noncomputable def PySem.W.Fast.tw6368815435031755837:List PySem.Stmt:=(PySem.Challenge.pw_wirechannel_k52_no_drawings.main.body.drop 8).take 1
theorem PySem.W.Fast.te6368815435031755837:(PySem.Challenge.pw_wirechannel_k52_no_drawings.main.body.drop 8).take 1=PySem.W.Fast.tw6368815435031755837:=rfl
noncomputable def PySem.W.Fast.tw8553287858042530107:List PySem.Stmt:=(PySem.Challenge.pw_wirechannel_k52_no_drawings.main.body.drop 9).take 1
theorem PySem.W.Fast.te8553287858042530107:(PySem.Challenge.pw_wirechannel_k52_no_drawings.main.body.drop 9).take 1=PySem.W.Fast.tw8553287858042530107:=rfl
noncomputable def PySem.W.Fast.tw17871061580117788690:List PySem.Stmt:=(PySem.Challenge.pw_wirechannel_k52_no_drawings.main.body.drop 10).take 1
theorem PySem.W.Fast.te17871061580117788690:(PySem.Challenge.pw_wirechannel_k52_no_drawings.main.body.drop 10).take 1=PySem.W.Fast.tw17871061580117788690:=rfl
noncomputable def PySem.W.Fast.tw9138181443789690082:List PySem.Stmt:=(PySem.Challenge.pw_wirechannel_k52_no_drawings.main.body.drop 11).take 1
theorem PySem.W.Fast.te9138181443789690082:(PySem.Challenge.pw_wirechannel_k52_no_drawings.main.body.drop 11).take 1=PySem.W.Fast.tw9138181443789690082:=rfl
noncomputable def PySem.W.Fast.tw16151560269171825262:List PySem.Stmt:=(PySem.Challenge.pw_wirechannel_k52_no_drawings.main.body.drop 12).take 10
theorem PySem.W.Fast.te16151560269171825262:(PySem.Challenge.pw_wirechannel_k52_no_drawings.main.body.drop 12).take 10=PySem.W.Fast.tw16151560269171825262:=rfl
noncomputable def PySem.W.Fast.tw3941819864735894604:List PySem.Stmt:=(PySem.Challenge.pw_wirechannel_k52_no_drawings.main.body.drop 22).take 14
theorem PySem.W.Fast.te3941819864735894604:(PySem.Challenge.pw_wirechannel_k52_no_drawings.main.body.drop 22).take 14=PySem.W.Fast.tw3941819864735894604:=rfl
noncomputable def PySem.W.Fast.tw7948161454287175706:List PySem.Stmt:=(PySem.Challenge.pw_wirechannel_k52_no_drawings.main.body.drop 36).take 5
theorem PySem.W.Fast.te7948161454287175706:(PySem.Challenge.pw_wirechannel_k52_no_drawings.main.body.drop 36).take 5=PySem.W.Fast.tw7948161454287175706:=rfl
theorem PySem.W.Fast.tw6435554677551410616:True:=trivial
theorem PySem.W.Fast.tw2293793242187683422:True:=trivial
theorem PySem.W.Fast.tw12524328590395889316:True:=trivial
theorem PySem.W.Fast.tw18401119067907896227:True:=trivial
theorem PySem.W.Fast.tw9906514163499152698:True:=trivial
theorem PySem.W.Fast.tw18427977849937140223:True:=trivial
theorem PySem.W.Fast.tw7823793704429118753:True:=trivial
theorem PySem.W.Fast.tw12881797738806538887:True:=trivial
theorem PySem.W.Fast.tw13126638523570098144:True:=trivial
theorem PySem.W.Fast.tw18306150267432742842:True:=trivial
theorem PySem.W.Fast.tw10641779597624425213:True:=trivial
theorem PySem.W.Fast.tw15753724193766539757:True:=trivial
theorem PySem.W.Fast.tw7090847023705449371:True:=trivial
theorem PySem.W.Fast.tw13902511317097380447:True:=trivial
theorem PySem.W.Fast.tw500809244735062860:True:=trivial
theorem PySem.W.Fast.tw10720271242071395765:True:=trivial
theorem PySem.W.Fast.tw9139049031945398367:True:=trivial
theorem PySem.W.Fast.tw15329350742833104881:True:=trivial
theorem PySem.W.Fast.tw3001940499998647060:True:=trivial
theorem PySem.W.Fast.tw9301361542744909022:True:=trivial
theorem PySem.W.Fast.tw8658907902056310530:True:=trivial
theorem PySem.W.Fast.tw8963273556437327946:True:=trivial
theorem PySem.W.Fast.tw5928760770361883328:True:=trivial
theorem PySem.W.Fast.tw9095461553417253795:True:=trivial
theorem PySem.W.Fast.tw15537321877698805107:True:=trivial
theorem PySem.W.Fast.tw7354535496778200478:True:=trivial
theorem PySem.W.Fast.tw16969710806577388169:True:=trivial
theorem PySem.W.Fast.tw12946353280136234631:True:=trivial
theorem PySem.W.Fast.tw4543291109403258392:True:=trivial
theorem PySem.W.Fast.tw7212345534471584357:True:=trivial
theorem PySem.W.Fast.tw8347548242187770932:True:=trivial
theorem PySem.W.Fast.tw17328133655896163904:True:=trivial
theorem PySem.W.Fast.tw6444178504652298362:True:=trivial
theorem PySem.W.Fast.tw2600071391366340310:True:=trivial
theorem PySem.W.Fast.tw7018882033428777052:True:=trivial
theorem PySem.W.Fast.tw6969028354000481066:True:=trivial
theorem PySem.W.Fast.tw1837047150627856402:True:=trivial
theorem PySem.W.Fast.tw18324220201496382469:True:=trivial
theorem PySem.W.Fast.tw12495100579947270901:True:=trivial
theorem PySem.W.Fast.tw8442289259834687040:True:=trivial
theorem PySem.W.Fast.tw3967562755338690137:True:=trivial
theorem PySem.W.Fast.tw8251839549972700884:True:=trivial
theorem PySem.W.Fast.tw228303422885065463:True:=trivial
theorem PySem.W.Fast.tw12490035921907992386:True:=trivial
theorem PySem.W.Fast.tw11839742496376088069:True:=trivial
theorem PySem.W.Fast.tw15046189879619649661:True:=trivial
theorem PySem.W.Fast.tw163972333855594834:True:=trivial
theorem PySem.W.Fast.tw12373192858075980361:True:=trivial
theorem PySem.W.Fast.tw8386664407608855380:True:=trivial
theorem PySem.W.Fast.tw4185494909844690332:True:=trivial
theorem PySem.W.Fast.tw10810572055490857887:True:=trivial
theorem PySem.W.Fast.tw6893642395260060730:True:=trivial
theorem PySem.W.Fast.tw316145863798019749:True:=trivial
theorem PySem.W.Fast.tw586317289520414956:True:=trivial
theorem PySem.W.Fast.tw4729902970699684646:True:=trivial
theorem PySem.W.Fast.tw8823996990594208792:True:=trivial
theorem PySem.W.Fast.tw723264953326342499:True:=trivial
theorem PySem.W.Fast.tw17793880387137792686:True:=trivial
theorem PySem.W.Fast.tw2326590307326225476:True:=trivial
theorem PySem.W.Fast.tw9416997428000063866:True:=trivial
theorem PySem.W.Fast.tw11733117380717315390:True:=trivial
theorem PySem.W.Fast.tw1564948471374259264:True:=trivial
theorem PySem.W.Fast.tw4796944823784899397:True:=trivial
theorem PySem.W.Fast.tw840512298316261553:True:=trivial
theorem PySem.W.Fast.tw7264657050420133852:True:=trivial
theorem PySem.W.Fast.tw11978737369067799719:True:=trivial
theorem PySem.W.Fast.tw7875816387626135683:True:=trivial
theorem PySem.W.Fast.tw13104006289279500706:True:=trivial
theorem PySem.W.Fast.tw14278582066314848014:True:=trivial
theorem PySem.W.Fast.tw2846981596001699647:True:=trivial
theorem PySem.W.Fast.tw12580598332726894117:True:=trivial
theorem PySem.W.Fast.tw15790112123061747520:True:=trivial
theorem PySem.W.Fast.tw11560497125068617200:True:=trivial
theorem PySem.W.Fast.tw8527351793549517516:True:=trivial
theorem PySem.W.Fast.tw17921791859354946657:True:=trivial
theorem PySem.W.Fast.tw16141357724784600886:True:=trivial
theorem PySem.W.Fast.tw2593751869594842311:True:=trivial
theorem PySem.W.Fast.tw3437308895779247892:True:=trivial
theorem PySem.W.Fast.tw8413327614414866484:True:=trivial
theorem PySem.W.Fast.tw2234635489585884212:True:=trivial
theorem PySem.W.Fast.tw511031357256201160:True:=trivial
theorem PySem.W.Fast.tw4304138492159681219:True:=trivial
theorem PySem.W.Fast.tw6483168319092005386:True:=trivial
theorem PySem.W.Fast.tw4447004650854571897:True:=trivial
theorem PySem.W.Fast.tw11241993171694445749:True:=trivial
noncomputable def PySem.W.Fast.tw6896749464989849924:PySem.Program:={ PySem.Challenge.pw_wirechannel_k52_no_drawings with main:={ PySem.Challenge.pw_wirechannel_k52_no_drawings.main with body:=[1,2,3,4,5,6,7,8,9,10,11,12,14,15,16,17,18,19,20,21,22,23,24,25,26,27,28,29,30,32,33,34,35,36,37,38,39,40].map fun i=>PySem.Challenge.pw_wirechannel_k52_no_drawings.main.body.getD i (.Pass ⟨0,0,0,0⟩) } }
theorem PySem.W.Fast.te6896749464989849924:({ PySem.Challenge.pw_wirechannel_k52_no_drawings with main:={ PySem.Challenge.pw_wirechannel_k52_no_drawings.main with body:=[1,2,3,4,5,6,7,8,9,10,11,12,14,15,16,17,18,19,20,21,22,23,24,25,26,27,28,29,30,32,33,34,35,36,37,38,39,40].map fun i=>PySem.Challenge.pw_wirechannel_k52_no_drawings.main.body.getD i (.Pass ⟨0,0,0,0⟩) } }:PySem.Program)=PySem.W.Fast.tw6896749464989849924:=rfl
local macro_rules | `(tactic| walk_at "A")=>`(tactic| ((try dsimp only[L2.kY]);refine' L2.qK KX G ?a ?l ?c ?k;(case a=>k_is);(case l=>k_is);(case c=>k_is);(case k=>k_is)))
theorem PySem.Challenge.cw_wirechannel_k52_no_drawings_holds : PySem.Challenge.rw_wirechannel_k52_no_drawings.Holds := by
 w_on;o_law;k_head;(case hw=>w_witness2)
 k_fill
 refine L2.mf (l:=PySem.Challenge.rw_wirechannel_k52_no_drawings) (n:=63) (k:=5) (x:="_law_script") rfl (by decide) rfl ⟨rfl,by decide,by decide⟩ (fun w h Y=>PySem.W.kIn_of Y) ?F
 case F=>
  intro w mg fa h KX G pG;have iI:L2.At (L2.kY KX) mg "traced" Wc.gE:=by
   dsimp only[L2.kY];refine' L2.qK KX G ?a ?l ?c ?k
   (case a=>k_is);(case l=>k_is);(case c=>k_is);(case k=>k_is)
  have bX:∃t,mg "CROSSINGS"=some (.str "+#" t):=by
   refine' L2.jw KX G ?c ?e
   (case c=>k_is)
   (case e=>exact rfl)
  have cj:∃t,mg "STRETCH"=some (.str "-" t):=by
   refine' L2.jw KX G ?c ?e
   (case c=>k_is)
   (case e=>exact rfl)
  have cg:∃t,mg "UPRIGHT"=some (.str "|" t):=by
   refine' L2.jw KX G ?c ?e
   (case c=>k_is)
   (case e=>exact rfl)
  have T:Wc.Txt (L2.kY KX) mg:=by
   dsimp only[L2.kY];refine' ⟨bA KX G ?b_ValueError,bA KX G ?b_all,bA KX G ?b_any,bA KX G ?b_enumerate,bA KX G ?b_isinstance,bA KX G ?b_len,bA KX G ?b_list,bA KX G ?b_max,bA KX G ?b_range,bA KX G ?b_sorted,bA KX G ?b_sum,bX,cj,cg⟩
   (case b_ValueError=>k_is)
   (case b_all=>k_is)
   (case b_any=>k_is)
   (case b_enumerate=>k_is)
   (case b_isinstance=>k_is)
   (case b_len=>k_is)
   (case b_list=>k_is)
   (case b_max=>k_is)
   (case b_range=>k_is)
   (case b_sorted=>k_is)
   (case b_sum=>k_is)
  have wy:∃bE:Addr,mg "BadDrawing"=some (.ref bE)/\∃cu:Addr,mg "WireError"=some (.ref cu)/\∃cU:Addr,mg "BadBend"=some (.ref cU)/\∃cS:Addr,mg "BadKeep"=some (.ref cS)/\∃cR:Addr,mg "BadPile"=some (.ref cR)/\∃cQ:Addr,mg "BadText"=some (.ref cQ)/\∃e6:Addr,mg "Lone"=some (.ref e6)/\∃cF:Addr,mg "NoLayout"=some (.ref cF)/\∃dW:Addr,mg "NoNet"=some (.ref dW)/\∃cP:Addr,mg "NoOrder"=some (.ref cP)/\∃cE:Addr,mg "PinTaken"=some (.ref cE)/\∃dU:Addr,mg "Taken"=some (.ref dU)/\(L2.eK (L2.kY KX) mg "BadDrawing" bE [.type "ValueError",.type "Exception",.type "BaseException",.type "object"] "ValueError.__new__")/\(L2.eK (L2.kY KX) mg "WireError" cu [.type "ValueError",.type "Exception",.type "BaseException",.type "object"] "ValueError.__new__")/\(PySem.W.nsIn (L2.kY KX) mainGlobals "BadDrawing"=some (some (.ref bE)))/\(L2.subIn (L2.kY KX) bE cu=true)/\(L2.qQ (L2.kY KX) bE)/\(PySem.W.kitOne (L2.kY KX) (.ref bE) (.ref bE)=some true)/\(PySem.W.kitOne (L2.kY KX) (.ref bE) (.type "ValueError")=some true)/\(PySem.W.kitAny (L2.kY KX) (.ref bE) [.ref cU,.ref cS,.ref cR,.ref cQ,.ref e6,.ref cF]=some false)/\(PySem.W.kitAny (L2.kY KX) (.ref bE) [.ref dW,.ref cP,.ref cE,.ref dU]=some false):=by
   dsimp only[L2.kY];exact⟨_,bz KX G (by k_is),_,bz KX G (by k_is),_,bz KX G (by k_is),_,bz KX G (by k_is),_,bz KX G (by k_is),_,bz KX G (by k_is),_,bz KX G (by k_is),_,bz KX G (by k_is),_,bz KX G (by k_is),_,bz KX G (by k_is),_,bz KX G (by k_is),_,bz KX G (by k_is),⟨bz KX G (by k_is),by k_exc⟩,⟨bz KX G (by k_is),by k_exc⟩,by k_is,Wc.nK (by k_is),⟨by k_is,by k_is,by k_is,by k_is,by k_is,by k_is,by k_is,by k_is⟩,by kit_is,by kit_is,by kit_is,by kit_is⟩
  obtain⟨bE,c7,cu,qP,cU,eQ,cS,eP,cR,eO,cQ,eN,e6,iG,cF,d7,dW,gM,cP,eM,cE,d6,dU,gL,cq,dB,b8,bT,EK,I1,I2,I3,I4⟩:=wy;exact Wc.rS T  ⟨by walk_at "A",by walk_at "A",by walk_at "A",by walk_at "A",by walk_at "A",by walk_at "A",by walk_at "A",by walk_at "A",by walk_at "A",by walk_at "A",by walk_at "A",by walk_at "A",by walk_at "A",by walk_at "A",by walk_at "A",by walk_at "A",by walk_at "A",by walk_at "A",by walk_at "A",by walk_at "A",by walk_at "A",by walk_at "A",trivial⟩ iI cq dB b8 bT EK c7 eQ eP eO eN iG d7 gM eM d6 gL I1 I2 I3 I4 pG
#print axioms PySem.Challenge.cw_wirechannel_k52_no_drawings_holds
