import PyProof.Rows.All
import Wide.All
import OpenK.AllK
import Wide.FinOn
import Lean
import PyProof.EqAt
import PyProof.EqKinds
import PyProof.TupleCall
import PyProof.NeKinds
import PyProof.SliceStr2
import PyProof.ConsumeWalk
import KE.KDictSum
import PyProof.DictWalks
import PyProof.AttrMissSeq
import KE.KDictOf
import PyProof.WalksS
import PyProof.Walks
import PyProof.DictList
import PyProof.MeetsDict
import PyProof.FactsAll.dict_3
import PyProof.MinMaxWalk
import PyProof.WalkInts
import PyProof.Rows.CallKwBuiltin
import PyProof.MaxThree
import PyProof.Rows.SortRunsK
import KE.KSortAsk
import PyProof.Rows.SortShellK
import KE.KSortTup
import PyProof.DictRoadsH
import PyProof.DictIter
import KE.KDictList
import PyProof.ZipIter
import PyProof.TupleIter
import PyProof.WalksMore
import PyProof.SumWalkG
import PyProof.DictValues
import PyProof.FactsAll.dict_4
import PySem.SetOps
import OpenK.KMore
import PyProof.ListRange
import PyProof.DictItems
import PyProof.CallStr
import KE.KIntText
import PyProof.StrCalls2
import PyProof.Rows.StrItems
import PyProof.FactsAll.NoneType
import KE.KTryOn
import PyProof.Draws
import PyProof.EnumMake
import PyProof.Rows.Range3
import KE.KRevIter
import PyProof.ListStr
import PySem.Challenge.RW_wirechannel_k51_drawings_traced
set_option hygiene false
set_option compiler.extract_closed false
noncomputable section
local macro_rules | `(tactic| omega) => `(tactic| lia)
set_option Elab.async false
set_option linter.all false
set_option maxRecDepth 100000
def aa:=@PySem.wpAny_bind
def ab:=@List.getElem?_eq_getElem
def ae:=@List.length_map
def af:=@List.getD_eq_getElem?_getD
def ag:=@List.getElem?_eq_some_iff
def ah:=@PySem.wpAny_pure
def ai:=@List.getElem?_map
def aj:=@PySem.Heap.get?_push_of_some
def ao:=@List.map_cons
def aq:=@List.size_toArray
def ar:=@List.mem_cons
def au:=@List.mem_cons_of_mem
def av:=@List.mem_map
def aw:=@Bool.false_ne_true
def ax:=@List.mem_of_getElem?
def ay:=@Nat.le_refl
def az:=@PySem.Heap.get?_push_size
def aA:=@List.map_append
def aB:=@PySem.Heap.lt_size
def aC:=@List.length_append
def aD:=@List.mem_append
def aE:=@List.map_map
def aF:=@decide_eq_false
def aG:=@Option.some.injEq
def aH:=@List.mem_cons_self
def aI:=@List.length_cons
def aJ:=@PySem.PassesOwn.never
def aK:=@Option.map_eq_some_iff
def aM:=@Array.length_toList
def aN:=@List.getElem?_of_mem
def aO:=@Bool.false_eq_true
def aP:=@Nat.ne_of_lt
def aQ:=@Option.some.inj
def aR:=@Nat.lt_of_lt_of_le
def aS:=@List.nodup_cons
def aT:=@List.mem_append_right
def aU:=@Nat.zero_le
def aV:=@List.mem_singleton
def aW:=@decide_eq_true_eq
def aX:=@Option.getD_some
def aY:=@List.mem_append_left
def aZ:=@List.append_nil
def a9:=@Nat.le_trans
def ba:=@List.mem_filter
def bc:=@PySem.wpAny_newObj_type
def bg:=@List.getElem_mem
def bh:=@List.take_add_one
def bj:=@PySem.wpAny_loadPart'
def bo:=@PySem.W.mg_none_of
def bp:=@if_false
def br:=@PySem.wpAny_holding
def bx:=@List.take_length
def bz:=@Option.map_some
def bA:=@decide_eq_true
def bB:=@List.flatMap_append
def bC:=@List.find?_cons
def bD:=@PySem.wpAny_truthy_bool
def bE:=@if_true
def bF:=@PySem.Heap.get?_update_other
def bG:=@List.map_nil
def bH:=@List.length_take
def bI:=@List.all_eq_true
namespace L2
open PySem PySem.Spec PyProof.Rows
noncomputable abbrev Key:=Sum Int Str
noncomputable def si:Key->Value->Bool
 | .inl k,v=>Value.isInt k v
 | .inr x,v=>Value.isStrOf x v
noncomputable def Hu(w:World):Key->Int
 | .inl k=>hashInt k
 | .inr x=>hashStr w x
theorem oz:∀{k:Key} {v:Value},si k v=true->(∃i t,k=Sum.inl i/\v=Value.int i t)\/(∃x t,k=Sum.inr x/\v=Value.str x t)
 | .inl i,v,h=>by
  obtain⟨t,e⟩:=Value.isInt_shape (k:=i) (v:=v) h;exact .inl ⟨i,t,rfl,e⟩
 | .inr x,v,h=>by
  obtain⟨t,e⟩:=Value.isStrOf_shape (x:=x) (v:=v) h;exact .inr ⟨x,t,rfl,e⟩
theorem MO(i:Int)(t:Tok):si (.inl i) (.int i t)=true:=by simp[si,Value.isInt]
theorem MN(x:Str)(t:Tok):si (.inr x) (.str x t)=true:=by simp[si,Value.isStrOf]
theorem J9(a b:Int):decide ((Sum.inl a:Key)=Sum.inl b)=(a==b):=by
 by_cases e:a=b
 ·subst e;simp
 ·have h:¬(Sum.inl a:Key)=Sum.inl b:=fun q=>e (Sum.inl.inj q)
  rw[aF h];exact(beq_eq_false_iff_ne.mpr e).symm
theorem J8(a b:Str):decide ((Sum.inr a:Key)=Sum.inr b)=decide (a=b):=by
 by_cases e:a=b
 ·subst e;simp
 ·have h:¬(Sum.inr a:Key)=Sum.inr b:=fun q=>e (Sum.inr.inj q)
  rw[aF h,aF e]
theorem J7(a:Int)(b:Str):decide ((Sum.inl a:Key)=Sum.inr b)=false:=aF (fun q=>nomatch q)
theorem J6(a:Str)(b:Int):decide ((Sum.inr a:Key)=Sum.inl b)=false:=aF (fun q=>nomatch q)
noncomputable def j9(prog:Program)(w:World):PySem.KeyKind prog w Key where
 is:=si
 hash:=Hu w
 inj:=fun v a b ha hb=>by
  rcases oz ha with⟨i,t,rfl,rfl⟩ | ⟨x,t,rfl,rfl⟩
  ·rcases oz hb with⟨j,u,rfl,e⟩ | ⟨y,u,rfl,e⟩
   ·injection e with e1 _;rw[e1]
   ·exact nomatch e
  ·rcases oz hb with⟨j,u,rfl,e⟩ | ⟨y,u,rfl,e⟩
   ·exact nomatch e
   ·injection e with e1 _;rw[e1]
 byValue:=fun k v h=>by
  rcases oz h with⟨i,t,rfl,rfl⟩ | ⟨x,t,rfl,rfl⟩<;>rfl
 pyHash:=fun hv h=>by
  rcases oz hv with⟨i,t,rfl,rfl⟩ | ⟨x,t,rfl,rfl⟩
  ·exact wpAny_pyHash_int h
  ·exact wpAny_pyHash_str h
 eqBool:=fun hu hv h=>by
  rcases oz hu with⟨i,t,rfl,rfl⟩ | ⟨x,t,rfl,rfl⟩
  ·rcases oz hv with⟨j,u,rfl,rfl⟩ | ⟨y,u,rfl,rfl⟩
   ·rw[J9] at h;exact wpAny_eqBool_int h
   ·rw[J7] at h;exact SeqAt.EqAt.int_str i t y u _ _ _ _ h
  ·rcases oz hv with⟨j,u,rfl,rfl⟩ | ⟨y,u,rfl,rfl⟩
   ·rw[J6] at h;exact SeqAt.EqAt.str_int x t j u _ _ _ _ h
   ·rw[J8] at h;exact wpAny_eqBool_str h
 «strs»:=fun k x t v h=>by
  rcases oz h with⟨i,u,rfl,e⟩ | ⟨y,u,rfl,e⟩
  ·exact nomatch e
  ·injection e with e1 _
   subst e1;cases v<;>rfl
theorem Nl(prog:Program)(w:World)(i:Int)(t:Tok):(j9 prog w).is (.inl i) (.int i t)=true:=MO i t
theorem Nk(prog:Program)(w:World)(x:Str)(t:Tok):(j9 prog w).is (.inr x) (.str x t)=true:=MN x t
end L2
namespace L2
open PySem PySem.Spec PyProof.Rows
inductive V where
 | non | bl (b:Bool) | int (i:Int) | str (x:Str) | Cw (b:Array UInt8) | Ck (b:UInt64) | ref (a:Addr) | ty (n:String)
 deriving DecidableEq
def RelV:V->Value->Prop
 | .non,u=>u=Value.none
 | .bl b,u=>u=Value.bool b
 | .int i,u=>∃t,u=Value.int i t
 | .str x,u=>∃t,u=Value.str x t
 | .Cw b,u=>∃t,u=Value.bytes b t
 | .Ck b,u=>∃t,u=Value.float b t
 | .ref a,u=>u=Value.ref a
 | .ty n,u=>u=Value.type n
abbrev Vals:List V->List Value->Prop:=Paired RelV
theorem Vals.length{xs:List V}{us:List Value}(r:Vals xs us):xs.length=us.length:=Paired.length r
theorem Vals.get:∀{xs:List V} {us:List Value} {i:Nat} {x:V},Vals xs us->xs[i]?=some x->∃u,us[i]?=some u/\RelV x u
 | _,_,_,_,.nil,e=>by simp at e
 | _,_,0,_,.cons r _,e=>by simp at e;subst e;exact⟨_,rfl,r⟩
 | _,_,i+1,x,.cons _ t,e=>by
  obtain⟨u,h1,h2⟩:=Vals.get (i:=i) (x:=x) t (by simpa using e);exact⟨u,by simpa using h1,h2⟩
theorem Vals.set{x:V}{u:Value}(r:RelV x u):∀{xs:List V} {us:List Value} (i:Nat),Vals xs us->Vals (xs.set i x) (us.set i u)
 | _,_,_,.nil=>.nil
 | _,_,0,.cons _ t=>.cons r t
 | _,_,i+1,.cons q t=>.cons q (Vals.set r i t)
theorem Vals.append:∀{xs ys:List V} {us ws:List Value},Vals xs us->Vals ys ws->Vals (xs++ys) (us++ws)
 | _,_,_,_,.nil,s=>s
 | _,_,_,_,.cons r t,s=>.cons r (Vals.append t s)
theorem Vals.take:∀{xs:List V} {us:List Value} (n:Nat),Vals xs us->Vals (xs.take n) (us.take n)
 | _,_,0,_=>.nil
 | _,_,_+1,.nil=>.nil
 | _,_,n+1,.cons r t=>.cons r (Vals.take n t)
theorem Vals.drop:∀{xs:List V} {us:List Value} (n:Nat),Vals xs us->Vals (xs.drop n) (us.drop n)
 | _,_,0,r=>r
 | _,_,_+1,.nil=>.nil
 | _,_,n+1,.cons _ t=>Vals.drop n t
def iI:Option V->Option Value->Prop
 | some v,some u=>RelV v u
 | none,none=>True
 | _,_=>False
def KV{κ:Type}:List (κ×V)->List (κ×Value)->Prop:=Paired fun(p:κ×V) (q:κ×Value)=>p.1=q.1/\RelV p.2 q.2
noncomputable def kV:Key->V
 | .inl i=>.int i
 | .inr x=>.str x
inductive HO where
 /-- a list -/
 | lst (xs:List V)
 /-- a tuple (never changes) -/
 | tup (xs:List V)
 /-- a dict vc keys are ints and texts;one vc keys are tuples of ints and texts (mW empty one is both) -/
 | dK (bL:List (Key×V)) (ep:Nat) | dT (bL:List (List Key×V)) (bs:List Addr×Nat)
 /-- a set of ints: its members,its size -/
 | set (S:Int->Bool) (n:Nat)
 /-- an instance of mW class at C,its dict at dx,its attributes -/
 | ins (C dx:Addr) (fs:List (Str×V))
 /-- mW dict of mW instance at x -/
 | own (x:Addr)
 /-- mW dict of an exception -/
 | xd (fs:List (Str×V))
 /-- a bound method,f of x -/
 | met (f x:Addr)
 /-- a range object lo,lo+1,.. below hi -/
 | Be (lo hi:Int)
 /-- a vh ON is known to mW object (mW mZ;a dict while a loop walks it): read,never written while it is so -/
 | iE (o:Obj) (u:HO)
 /-- a code vx table -/
 | qK (ps:Array Value)
 /-- any other vh,by A0 is true of its one object (a def of Gm own: Rb a S n:=HO.ext fun h=>..) -/
 | ext (φ:Heap->Prop)
noncomputable abbrev Hp:=Addr->Option HO
noncomputable def upd(H:Hp)(a:Addr)(o:HO):Hp:=fun b=>if b=a then some o else H b
theorem fq{H:Hp}{a:Addr}{o:HO}:upd H a o a=some o:=by unfold upd;rw[if_pos rfl]
theorem cK{H:Hp}{a b:Addr}{o:HO}(h:b≠a):upd H a o b=H b:=by unfold upd;rw[if_neg h]
theorem Dq{H:Hp}{a b:Addr}{o u:HO}(h:H a=some o)(h':H b=some u)(d:o≠u):a≠b:=by
 intro e;subst e;rw[h] at h';exact d (aQ h')
theorem i3{H:Hp}{a b:Addr}{o:HO}(h:H a=some o)(h':H b=none):a≠b:=by
 intro e;subst e;rw[h] at h';cases h'
section
variable (P:Program) (w:World)
def cH(H:Hp)(h:Heap)(a:Addr):HO->Prop
 | .lst xs=>xs.length<=sizeLine/\∃(its:List Value) (n:Nat),Vals xs its/\h.get? a=some { cls:=.type "list",data:=.seq its.toArray n }
 | .tup xs=>xs.length<=sizeLine/\∃its:List Value,Vals xs its/\IsTup h a its.toArray
 | .dK bL ep=>bL.length<=sizeLine/\(a==sysModules)=false/\∃vs,KV bL vs/\h.DictAt (j9 P w) a vs ep
 | .dT bL bs=>bL.length<=sizeLine/\(a==sysModules)=false/\∃xs:List (List Key×Addr×Value),xs.map (fun x=>x.2.1)=bs.1/\
   Paired (fun(p:List Key×V) (q:List Key×Addr×Value)=>p.1=q.1/\H q.2.1=some (.tup (p.1.map kV))/\RelV p.2 q.2.2) bL xs/\
   ∃o es ep,h.get? a=some o/\o.ExactDict/\o.data=.dict es ep/\es.toList=xs.map (entryOfKey (tupleKind (j9 P w)))/\(xs.map (·.1)).Nodup/\ep=bs.2
 | .set S n=>h.SetOf (intKind P w) a S n
 | .ins C dx fs=>H dx=some (.own a)/\fs.length<=1000/\dx≠a/\h.get? a=some (PySem.W.instObj C dx)/\
   ∃mA,h.Ns1 dx mA/\(∀f,iI (fs.lookup f) (mA f))/\PySem.Within mA (fs.map (·.1))
 | .own _=>∃o,h.get? a=some o
 | .xd fs=>∃mA,h.Ns1 a mA/\∀f,iI (fs.lookup f) (mA f)
 | .Be lo hi=>∃t u v,h.get? a=some { cls:=.type "range",data:=.fields #[.int lo t,.int hi u,.int 1 v] }
 | .iE o u=>h.get? a=some o/\cH H h a u
 | .qK ps=>h.get? a=some { cls:=.none,data:=.fields ps }
 | .met f x=>h.get? a=some (PySem.W.methodObj (.ref f) (.ref x))
 | .ext φ=>φ h/\(∃o,h.get? a=some o)/\∀h1 h2:Heap,φ h1->(∀o,h1.get? a=some o->h2.get? a=some o)->φ h2
def gL(H:Hp)(h:Heap):Prop:=∀a o,H a=some o->cH P w H h a o
end
section
variable {P:Program} {w:World} {H H':Hp} {h h':Heap} {a:Addr} {o:HO}
theorem cH.lt(x:cH P w H h a o):a<h.objs.size:=by
 cases o with
 | lst xs=>obtain⟨_,_,_,_,e⟩:=x;exact aB e
 | tup xs=>obtain⟨_,_,_,p⟩:=x;exact p.lt
 | dK bL ep=>obtain⟨_,_,_,_,o,_,e,_⟩:=x;exact aB e
 | dT bL bs=>obtain⟨_,_,_,_,_,o,_,_,e,_⟩:=x;exact aB e
 | set S n=>obtain⟨o,_,_,_,e,_⟩:=x;exact aB e
 | ins C dx fs=>obtain⟨_,_,_,e,_⟩:=x;exact aB e
 | own y=>obtain⟨_,e⟩:=x;exact aB e
 | xd fs=>obtain⟨_,⟨_,_,_,e,_⟩,_⟩:=x;exact aB e
 | Be lo hi=>obtain⟨_,_,_,e⟩:=x;exact aB e
 | iE ob u=>obtain⟨e,_⟩:=x;exact aB e
 | qK ps=>exact aB (show h.get? a=some _ from x)
 | met f y=>exact aB (show h.get? a=some _ from x)
 | ext φ=>obtain⟨_,⟨_,e⟩,_⟩:=x;exact aB e
theorem Paired.qU{α β:Type}{F G:α->β->Prop}:∀{ni:List α} {nh:List β},Paired F ni nh->(∀a b,F a b->G a b)->Paired G ni nh
 | _,_,.nil,_=>.nil
 | _,_,.cons r t,f=>.cons (f _ _ r) (Paired.qU t f)
theorem cH.gD(x:cH P w H h a o)(k:∀b u,(b=a\/H b=some (.own a))->h.get? b=some u->h'.get? b=some u)
  (ho:∀b,H b=some (.own a)->H' b=some (.own a)) (ht:∀b xs,H b=some (.tup xs)->H' b=some (.tup xs)):cH P w H' h' a o:=by
 induction o with
 | lst xs=>obtain⟨z,its,n,r,e⟩:=x;exact⟨z,its,n,r,k _ _ (.inl rfl) e⟩
 | tup xs=>obtain⟨z,its,r,ob,e,c⟩:=x;exact⟨z,its,r,ob,k _ _ (.inl rfl) e,c⟩
 | dK bL ep=>obtain⟨z,y,vs,r,ob,es,e,c⟩:=x;exact⟨z,y,vs,r,ob,es,k _ _ (.inl rfl) e,c⟩
 | dT bL bs=>
  obtain⟨z,y,xs,bq,r,ob,es,ep,e,c⟩:=x;exact⟨z,y,xs,bq,Paired.qU r fun p q z=>⟨z.1,ht _ _ z.2.1,z.2.2⟩,ob,es,ep,k _ _ (.inl rfl) e,c⟩
 | set S n=>obtain⟨ob,es,ep,t,e,c⟩:=x;exact⟨ob,es,ep,t,k _ _ (.inl rfl) e,c⟩
 | ins C dx fs=>
  obtain⟨d,z,ne,e,mA,⟨od,es,ep,e2,c⟩,r⟩:=x;exact⟨ho _ d,z,ne,k _ _ (.inl rfl) e,mA,⟨od,es,ep,k _ _ (.inr d) e2,c⟩,r⟩
 | own y=>obtain⟨ob,e⟩:=x;exact⟨ob,k _ _ (.inl rfl) e⟩
 | xd fs=>obtain⟨mA,⟨od,es,ep,e,c⟩,r⟩:=x;exact⟨mA,⟨od,es,ep,k _ _ (.inl rfl) e,c⟩,r⟩
 | Be lo hi=>obtain⟨t,u,v,e⟩:=x;exact⟨t,u,v,k _ _ (.inl rfl) e⟩
 | iE ob u ih=>obtain⟨e,q⟩:=x;exact⟨k _ _ (.inl rfl) e,ih q⟩
 | qK ps=>
  have e:h.get? a=some { cls:=.none,data:=.fields ps }:=x;show h'.get? a=some { cls:=.none,data:=.fields ps };exact k a _ (.inl rfl) e
 | met f y=>
  have e:h.get? a=some (PySem.W.methodObj (.ref f) (.ref y)):=x;show h'.get? a=some (PySem.W.methodObj (.ref f) (.ref y));exact k a _ (.inl rfl) e
 | ext φ=>obtain⟨p,⟨o,e⟩,st⟩:=x;exact⟨st _ _ p fun o q=>k _ _ (.inl rfl) q,⟨o,k _ _ (.inl rfl) e⟩,st⟩
theorem gL.lt(x:gL P w H h)(e:H a=some o):a<h.objs.size:=(x a o e).lt
theorem gL.fresh(x:gL P w H h)(e:h.objs.size<=a):H a=none:=by
 cases q:H a with
 | none=>rfl
 | some u=>exact absurd (aR (x.lt q) e) (Nat.lt_irrefl _)
theorem gL.kept(x:gL P w H h)(k:∀b u,h.get? b=some u->h'.get? b=some u):gL P w H h':=fun a o e=>
 (x a o e).gD (fun b u _ q=>k b u q) (fun _ q=>q) fun _ _ q=>q
theorem gL.laid(x:gL P w H h)(k:∀b u,h.get? b=some u->h'.get? b=some u)(hp:h.objs.size<=a)(new:cH P w (upd H a o) h' a o):gL P w (upd H a o) h':=fun b u e=>by
 have hn:=x.fresh hp;by_cases hb:b=a
 ·subst hb;rw[fq] at e;cases e;exact new
 ·rw[cK hb] at e;exact(x b u e).gD (fun c v _ q=>k c v q) (fun c q=>by rw[cK (i3 q hn)];exact q) fun c xs q=>by rw[cK (i3 q hn)];exact q
end
def Rd(H:Hp)(a:Addr)(u:HO):Prop:=H a=some u\/∃o,H a=some (.iE o u)
theorem Rd.ok{P:Program}{w:World}{H:Hp}{h:Heap}{a:Addr}{u:HO}(r:Rd H a u)(x:gL P w H h):cH P w H h a u:=by
 rcases r with r | ⟨o,r⟩
 ·exact x a u r
 ·obtain⟨_,q⟩:=x a _ r;exact q
def wO:Option HO->Prop
 | some (.lst _)=>True
 | some (.dK _ _)=>True
 | some (.dT _ _)=>True
 | some (.set _ _)=>True
 | some (.ins _ _ _)=>True
 | some (.ext _)=>True
 | _=>False
section
variable {P:Program} {w:World} {H:Hp} {h h':Heap} {x e:Addr} {o':HO}
theorem gL.write(ok:gL P w H h)(mu:wO (H x))(he:e=x\/H e=some (.own x))(k:∀b u,b≠e->h.get? b=some u->h'.get? b=some u)(tu:∃u,h'.get? e=some u)
  (new:cH P w (upd H x o') h' x o'):gL P w (upd H x o') h':=fun b u q=>by
 have vE:∀c y,H c=some (.own y)->c≠x:=fun c y r z=>by subst z;rw[r] at mu;exact mu
 have Bm:∀c xs,H c=some (.tup xs)->c≠x:=fun c xs r z=>by subst z;rw[r] at mu;exact mu
 by_cases hb:b=x
 ·subst hb;rw[fq] at q;cases q;exact new
 ·rw[cK hb] at q;by_cases rC:b=e
  ·have q':H b=some (.own x):=by
    rcases he with z | z
    ·exact absurd (rC.trans z) hb
    ·rw[rC];exact z
   rw[q] at q';cases q';obtain⟨v,hv⟩:=tu;exact⟨v,by rw[rC];exact hv⟩
  ·refine(ok b u q).gD (fun c v hc r=>k c v ?_ r) (fun c r=>by rw[cK (vE c b r)];exact r) fun c xs r=>by rw[cK (Bm c xs r)];exact r
   rcases hc with rfl | hc
   ·exact rC
   ·rintro rfl;rcases he with z | z
    ·exact vE c b hc z
    ·rw[hc] at z;cases z;exact hb rfl
end
structure Un (fs ex:List Addr) (H H':Hp) (h h':Heap):Prop where
 keep:∀b o,h.get? b=some o->H b=none->b∉fs->b∉ex->h'.get? b=some o
 slot:∀b o,h.get? b=some o->H b=none->b∈fs->b∉ex->∃sl,h'.get? b=some { o with slots:=sl }
 free:∀b o,h.get? b=some o->H b=none->b∉ex->H' b=none
 there:∀b o,h.get? b=some o->b∉ex->∃o',h'.get? b=some o'
 jH:∀b xs,H b=some (.tup xs)->H' b=some (.tup xs)
 jc:∀b o u,H b=some (.iE o u)->H' b=some (.iE o u)
 jI:∀b ps,H b=some (.qK ps)->∃more,H' b=some (.qK (ps++more))
section
variable {fs RP ex RR:List Addr} {H H1 H2:Hp} {h h1 h2 h':Heap} {a x e:Addr} {o:HO}
theorem Un.any(u:Un fs ex H H1 h h1){b:Addr}{ob:Obj}(q:h.get? b=some ob)(n:H b=none)(hx:b∉ex):∃sl,h1.get? b=some { ob with slots:=sl }:=by
 by_cases hb:b∈fs
 ·exact u.slot b ob q n hb hx
 ·exact⟨ob.slots,u.keep b ob q n hb hx⟩
theorem Un.kept(k:∀b u,h.get? b=some u->h'.get? b=some u):Un fs ex H H h h':=
 ⟨fun b ob q _ _ _=>k b ob q,fun b ob q _ _ _=>⟨ob.slots,k b ob q⟩,fun _ _ _ n _=>n,fun b ob q _=>⟨ob,k b ob q⟩,fun _ _ q=>q,fun _ _ _ q=>q,fun _ ps q=>⟨#[],by rw[q];simp⟩⟩
theorem Un.refl:Un fs ex H H h h:=Un.kept fun _ _ q=>q
theorem Un.laid(k:∀b u,h.get? b=some u->h'.get? b=some u)(hp:h.objs.size<=a)(hn:H a=none):Un fs ex H (upd H a o) h h' where
 keep:=fun b u q _ _ _=>k b u q
 slot:=fun b u q _ _ _=>⟨u.slots,k b u q⟩
 free:=fun b u q n _=>by rw[cK (aP (aR (aB q) hp))];exact n
 there:=fun b u q _=>⟨u,k b u q⟩
 jH:=fun b xs q=>by rw[cK (i3 q hn)];exact q
 jc:=fun b u xs q=>by rw[cK (i3 q hn)];exact q
 jI:=fun b ps q=>⟨#[],by rw[cK (i3 q hn),q];simp⟩
theorem Un.write(mu:wO (H x))(he:e=x\/H e=some (.own x))(k:∀b u,b≠e->h.get? b=some u->h'.get? b=some u)(tu:∃u,h'.get? e=some u):Un fs ex H (upd H x o) h h':=by
 have hx:∀b,H b=none->b≠x:=fun b n z=>by subst z;rw[n] at mu;exact mu
 have hb:∀b,H b=none->b≠e:=fun b n z=>by
  subst z;rcases he with r | r
  ·exact hx b n r
  ·rw[n] at r;cases r
 have hm:∀b u,H b=some u->¬wO (some u)->b≠x:=fun b u q nm z=>by subst z;rw[q] at mu;exact nm mu
 refine⟨fun b u q n _ _=>k b u (hb b n) q,fun b u q n _ _=>⟨u.slots,k b u (hb b n) q⟩,fun b u q n _=>by rw[cK (hx b n)];exact n,fun b u q _=>?_,
  fun b xs q=>by rw[cK (hm b _ q fun z=>z)];exact q,fun b u xs q=>by rw[cK (hm b _ q fun z=>z)];exact q,fun b ps q=>⟨#[],by rw[cK (hm b _ q fun z=>z),q];simp⟩⟩
 by_cases rC:b=e
 ·subst rC;exact tu
 ·exact⟨u,k b u rC q⟩
end
noncomputable def yj(h:Heap)(H:Hp):List Addr:=(List.range h.objs.size).filter fun a=>(H a).isSome
noncomputable def oj(h:Heap)(H:Hp):Heap:=PySem.W.hideAll h (yj h H)
theorem MM(h:Heap)(H:Hp):(oj h H).objs.size=h.objs.size:=PySem.W.hideAll_size _ _
theorem LV{h:Heap}{H:Hp}{b:Addr}{o:Obj}(e:h.get? b=some o)(n:H b=none):(oj h H).get? b=some o:=
 PySem.W.hideAll_get _ e fun hm=>by
  have q:(H b).isSome=true:=(ba.mp hm).2;rw[n] at q;simp at q
theorem Kk{h:Heap}{H:Hp}{b:Addr}{o:Obj}(e:(oj h H).get? b=some o):h.get? b=some o/\H b=none:=by
 have e':h.get? b=some o:=PySem.W.of_hideAll (yj h H) e;refine⟨e',?_⟩;cases q:H b with
 | none=>rfl
 | some x=>
  have hm:b∈yj h H:=ba.mpr ⟨List.mem_range.mpr (aB e'),by simp[q]⟩;have z:(oj h H).get? b=none:=PySem.W.hideAll_none (yj h H) hm;rw[z] at e;cases e
noncomputable def Kj(g h:Heap)(L:Addr):List (Addr×Obj):=(List.range h.objs.size).filterMap fun a=>if a=L\/(g.get? a).isSome=true then none else(h.get? a).map fun o=>(a,o)
noncomputable def gW(g h:Heap)(L d:Addr):List (Addr×Obj):=(Kj g h L).filter fun p=>decide (p.1≠d)
end L2
namespace L2
open PySem PySem.Spec PyProof.Rows
structure Mod (K:PySem.W.Frag) (mg:Str->Option Value) (base:Heap):Prop where
 Br:K.In base
 glob:base.Ns mainGlobals mg
 blt:∃mb,base.Ns builtinsNs mb/\∀x:Str,x≠"__name__"->mb x=bootBuiltins x
 nolimit:base.NoLimit
structure Cx where
 prog:Program
 w:World
 K:PySem.W.Frag
 mg:Str->Option Value
 base:Heap
 A:Around
 N:List Str
 dy:Shared
 nC:Hp
 env:Env
 outer:List Env
 stack:List Env
 ex:List Addr
 fn:Str->Bool
 calm:Bool
 pn:List (Addr×Obj)
 xe:Value->Shared->Prop
noncomputable def nz(l:List Env):List Addr:=l.filterMap (·.frame)
noncomputable abbrev Cx.fs(X:Cx):List Addr:=nz X.outer
def jf(sc:Scope)(x:Str):Prop:=sc.names.lookup x=some .local\/sc.names.lookup x=some .cell\/sc.names.lookup x=some .free
def Loc(sc:Scope)(x:Str):Prop:=sc.names.lookup x=some .local\/sc.names.lookup x=some .cell
def Look(env:Env)(h:Heap)(m:Str->Option Value)(x:Str)(u:Value):Prop:=
 (env.kindOf x=some .local/\m x=some u)\/((env.kindOf x=some .cell\/env.kindOf x=some .free)/\∃c,env.cells.lookup x=some c/\h.IsCell c (some u))
structure Cx.Ok (X:Cx):Prop where
 mod:Mod X.K X.mg X.base
 kind:X.env.scope.kind=.function
 glob:X.env.globals=mainGlobals
 blt:X.env.builtins=builtinsNs
 above:X.dy.heap.objs.size<=X.env.locals
 inj:∀x y c,X.env.cells.lookup x=some c->X.env.cells.lookup y=some c->x=y
 has:∀x,(X.env.kindOf x=some .cell\/X.env.kindOf x=some .free)->∃c,X.env.cells.lookup x=some c
 cab:∀x c,X.fn x=true->X.env.cells.lookup x=some c->X.dy.heap.objs.size<=c
 hd:X.calm=true->X.A.handled=none
 frames:X.A.frames=some X.stack
 yo:X.stack=X.outer\/(X.stack=X.env::X.outer/\X.env.frame=some X.env.locals)
 exf:∀b∈X.ex,b≠X.env.locals/\∀x c,X.env.cells.lookup x=some c->c≠b
 bs:∀b o,X.base.get? b=some o->X.dy.heap.get? b=some o/\X.nC b=none
 rN:X.base.objs.size<=X.dy.heap.objs.size
 m9:∀b o,X.base.get? b=some o->b∉X.ex
 nB:∀b∈X.ex,b∉X.fs
 hU:X.dy.heap.FunFrames X.base X.outer
 tD:∀b∈X.fs,X.nC b=none
structure Inv (X:Cx) (pins:List (Addr×Obj)) (σ:List (Option V)) (H:Hp) (s:Shared):Prop where
 ok:X.Ok
 os:s.os=X.dy.os
 bare:AllBare s.gens
 base:Un X.fs X.ex X.nC H X.dy.heap s.heap
 loc:∃m,s.heap.Ns X.env.locals m/\∀(i:Nat) (x:Str) (v:V),X.N[i]?=some x->σ[i]?=some (some v)->jf X.env.scope x->∃u,RelV v u/\Look X.env s.heap m x u
 cell:∀x c,X.env.cells.lookup x=some c->∃v,s.heap.IsCell c v
 free:H X.env.locals=none
 fO:∀x c,X.env.cells.lookup x=some c->H c=none
 pin:∀p∈X.pn++pins,s.heap.get? p.1=some p.2/\H p.1=none/\p.1≠X.env.locals/\p.1∉X.fs/\∀v,p.2.data≠.cell v
 cB:gL X.prog X.w H s.heap
 len:σ.length=X.N.length
section
variable {X:Cx} {pins:List (Addr×Obj)} {σ:List (Option V)} {H H':Hp} {s:Shared} {h':Heap}
theorem Cx.Ok.Bo(ok:X.Ok){b:Addr}{o:Obj}(e:X.base.get? b=some o):b∉X.fs:=fun hb=>by
 have:=(ok.hU.mem hb).1;rw[e] at this;cases this
theorem Inv.bs(I:Inv X pins σ H s):∀b o,X.base.get? b=some o->s.heap.get? b=some o/\H b=none:=fun b o e=>
 ⟨I.base.keep b o (I.ok.bs b o e).1 (I.ok.bs b o e).2 (I.ok.Bo e) (I.ok.m9 b o e),I.base.free b o (I.ok.bs b o e).1 (I.ok.bs b o e).2 (I.ok.m9 b o e)⟩
theorem Inv.bk(I:Inv X pins σ H s):∀b o,X.base.get? b=some o->s.heap.get? b=some o:=fun b o e=>(I.bs b o e).1
theorem Inv.mod(I:Inv X pins σ H s):Mod X.K X.mg X.base:=I.ok.mod
theorem Inv.lV(I:Inv X pins σ H s):X.K.In s.heap:=I.ok.mod.Br.keeps I.bk
theorem Inv.lt(I:Inv X pins σ H s):X.env.locals<s.heap.objs.size:=let⟨_,hn,_⟩:=I.loc;hn.lt
theorem Inv.sz(I:Inv X pins σ H s):X.dy.heap.objs.size<=s.heap.objs.size:=a9 I.ok.above (Nat.le_of_lt I.lt)
theorem Inv.Bn(I:Inv X pins σ H s){a:Addr}(h:s.heap.objs.size<=a):a∉X.fs:=fun hb=>by
 obtain⟨_,o,ho,_⟩:=I.ok.hU.mem hb;exact absurd (aR (aB ho) (a9 I.sz h)) (Nat.lt_irrefl _)
theorem Inv.rL(I:Inv X pins σ H s):∀x c,X.env.cells.lookup x=some c->c≠X.env.locals:=fun x c e z=>by
 obtain⟨v,o,ho,hd⟩:=I.cell x c e;obtain⟨m,⟨o',es,ep,nq,we,_⟩,_⟩:=I.loc;rw[z,nq] at ho;cases ho;rw[we] at hd;cases hd
theorem Inv.hU(I:Inv X pins σ H s):s.heap.FunFrames X.base X.outer:=by
 have all:∀(l:List Env),(∀b∈nz l,b∈X.fs)->X.dy.heap.FunFrames X.base l->s.heap.FunFrames X.base l:=by
  intro l;induction l with
  | nil=>intro _ _;trivial
  | cons env r ih=>
   intro hs hl;obtain⟨hk,⟨L,o,hf,hn,ho,hd⟩,hr⟩:=hl;have hL:L∈X.fs:=hs L (by unfold nz;rw[List.filterMap_cons,hf];exact aH);obtain⟨sl,e⟩:=I.base.slot L o ho (I.ok.tD L hL) hL fun z=>I.ok.nB L z hL
   exact⟨hk,⟨L,_,hf,hn,e,hd⟩,ih (fun b hb=>hs b (by unfold nz;rw[List.filterMap_cons,hf];exact au _ hb)) hr⟩
 exact all X.outer (fun _ hb=>hb) I.ok.hU
theorem Inv.stack(I:Inv X pins σ H s):s.heap.FunFrames X.base X.stack:=by
 rcases I.ok.yo with e | ⟨e,hf⟩
 ·rw[e];exact I.hU
 ·rw[e];obtain⟨m,hn,_⟩:=I.loc;refine .cons (by rw[I.ok.kind];decide) hf hn ?_ I.hU;exact Heap.get?_none_of_le (a9 I.ok.rN I.ok.above)
theorem Inv.kj(I:Inv X pins σ H s):∀b∈nz X.stack,b∈X.env.locals::X.fs:=fun b hb=>by
 rcases I.ok.yo with e | ⟨e,hf⟩
 ·rw[e] at hb;exact au _ hb
 ·rw[e] at hb;unfold nz at hb;rw[List.filterMap_cons,hf] at hb;exact hb
theorem Inv.kQ(I:Inv X pins σ H s):∀b∈nz X.stack,H b=none:=fun b hb=>by
 rcases ar.mp (I.kj b hb) with e | hb
 ·rw[e];exact I.free
 ·obtain⟨_,o,ho,_⟩:=I.ok.hU.mem hb;exact I.base.free b o ho (I.ok.tD b hb) fun z=>I.ok.nB b z hb
theorem Inv.step{g':Array GenState}{t':Nat}{d':Drawn}{ch:List Addr}(I:Inv X pins σ H s)
  (jy:∀b∈ch,(b∈X.ex\/X.dy.heap.objs.size<=b)/\b≠X.env.locals/\(∀x c,X.env.cells.lookup x=some c->c≠b)/\∀p∈X.pn++pins,p.1≠b)
  (keep:∀b o,b≠X.env.locals->b∉X.fs->b∉ch->s.heap.get? b=some o->H b=none->h'.get? b=some o)
  (slot:∀b o,b≠X.env.locals->b∈X.fs->b∉ch->s.heap.get? b=some o->H b=none->∃sl,h'.get? b=some { o with slots:=sl }) (free:∀b o,b∉ch->s.heap.get? b=some o->H b=none->H' b=none)
  (there:∀b o,b∉ch->s.heap.get? b=some o->∃o',h'.get? b=some o')
  (jH:∀b xs,H b=some (.tup xs)->H' b=some (.tup xs)) (jc:∀b o u,H b=some (.iE o u)->H' b=some (.iE o u)) (jI:∀b ps,H b=some (.qK ps)->∃more,H' b=some (.qK (ps++more)))
  (ns:∀m,s.heap.Ns X.env.locals m->h'.Ns X.env.locals m) (cB:gL X.prog X.w H' h') (hg:AllBare g') :
  Inv X pins σ H' { s with heap:=h',gens:=g',drawn:=d',toks:=t' }:=by
 have Gp:∀b o,X.dy.heap.get? b=some o->b≠X.env.locals:=fun b o e=>aP (aR (aB e) I.ok.above)
 have yt:∀b o,X.dy.heap.get? b=some o->b∉X.ex->b∉ch:=fun b o e hx hb=>by
  rcases(jy b hb).1 with z | z
  ·exact hx z
  ·exact absurd (aR (aB e) z) (Nat.lt_irrefl _)
 have cellK:∀x c,X.env.cells.lookup x=some c->∀v,s.heap.IsCell c v->h'.IsCell c v:=fun x c e v ⟨o,ho,hd⟩=>by
  have vG:c∉ch:=fun z=>(jy c z).2.2.1 x c e rfl
  by_cases hc:c∈X.fs
  ·obtain⟨sl,q⟩:=slot c o (I.rL x c e) hc vG ho (I.fO x c e);exact⟨_,q,hd⟩
  ·exact⟨o,keep c o (I.rL x c e) hc vG ho (I.fO x c e),hd⟩
 refine⟨I.ok,I.os,hg,⟨fun b o e n hb hx=>?_,fun b o e n hb hx=>?_,fun b o e n hx=>?_,fun b o e hx=>?_,fun b xs e=>jH b xs (I.base.jH b xs e),fun b o xs e=>jc b o xs (I.base.jc b o xs e),fun b ps e=>?_⟩,?_,fun x c e=>?_,?_,fun x c e=>?_,fun p hp=>?_,cB,I.len⟩
 ·exact keep b o (Gp b o e) hb (yt b o e hx) (I.base.keep b o e n hb hx) (I.base.free b o e n hx)
 ·obtain⟨sl,e1⟩:=I.base.slot b o e n hb hx;obtain⟨OT,e2⟩:=slot b _ (Gp b o e) hb (yt b o e hx) e1 (I.base.free b o e n hx);exact⟨OT,e2⟩
 ·obtain⟨o',e1⟩:=I.base.there b o e hx;exact free b o' (yt b o e hx) e1 (I.base.free b o e n hx)
 ·obtain⟨o',e1⟩:=I.base.there b o e hx;exact there b o' (yt b o e hx) e1
 ·obtain⟨m1,e1⟩:=I.base.jI b ps e;obtain⟨m2,e2⟩:=jI b _ e1;exact⟨m1++m2,by rw[e2,Array.append_assoc]⟩
 ·obtain⟨m,hn,hl⟩:=I.loc;refine⟨m,ns m hn,fun i x v e1 e2 e3=>?_⟩;obtain⟨u,r,l⟩:=hl i x v e1 e2 e3;refine⟨u,r,?_⟩;rcases l with l | ⟨k,c,e,z⟩
  ·exact .inl l
  ·exact .inr ⟨k,c,e,cellK x c e _ z⟩
 ·obtain⟨v,z⟩:=I.cell x c e;exact⟨v,cellK x c e v z⟩
 ·obtain⟨m,⟨o,_,_,ho,_⟩,_⟩:=I.loc;exact free _ o (fun z=>(jy _ z).2.1 rfl) ho I.free
 ·obtain⟨v,o,ho,hd⟩:=I.cell x c e;exact free c o (fun z=>(jy c z).2.2.1 x c e rfl) ho (I.fO x c e)
 ·obtain⟨e,n,ne,nf,d⟩:=I.pin p hp;have vG:p.1∉ch:=fun z=>(jy p.1 z).2.2.2 p hp rfl
  exact⟨keep p.1 p.2 ne nf vG e n,free p.1 p.2 vG e n,ne,nf,d⟩
theorem Inv.un{t':Nat}(I:Inv X pins σ H s)(u:Un X.fs [] H H' s.heap h')(cB:gL X.prog X.w H' h'):Inv X pins σ H' { s with heap:=h',toks:=t' }:=by
 obtain⟨m,⟨o,es,ep,ho,r⟩,_⟩:=id I.loc;obtain⟨sl,hL⟩:=u.any ho I.free (by simp)
 exact I.step (g':=s.gens) (d':=s.drawn) (ch:=[]) (fun _ z=>nomatch z) (fun b o _ hb _ e n=>u.keep b o e n hb (by simp)) (fun b o _ hb _ e n=>u.slot b o e n hb (by simp)) (fun b o _ e n=>u.free b o e n (by simp)) (fun b o _ e=>u.there b o e (by simp)) u.jH u.jc u.jI (fun m' hm=>by
  obtain⟨o',rJ,Cr,nq,r'⟩:=hm;rw[ho] at nq;cases nq;exact⟨_,rJ,Cr,hL,r'⟩) cB I.bare
theorem Inv.call{g':Array GenState}{t':Nat}{d':Drawn}{ch:List Addr}(I:Inv X pins σ H s)(u:Un (nz X.stack) ch H H' s.heap h')(cB:gL X.prog X.w H' h')(hg:AllBare g')
  (jy:∀b∈ch,(b∈X.ex\/X.dy.heap.objs.size<=b)/\b≠X.env.locals/\(∀x c,X.env.cells.lookup x=some c->c≠b)/\∀p∈X.pn++pins,p.1≠b) :
  Inv X pins σ H' { s with heap:=h',gens:=g',drawn:=d',toks:=t' }:=by
 obtain⟨m,⟨o,es,ep,ho,r⟩,_⟩:=id I.loc;obtain⟨sl,hL⟩:=u.any ho I.free fun z=>(jy _ z).2.1 rfl
 exact I.step (ch:=ch) jy (fun b o hL hb hc e n=>u.keep b o e n (fun z=>(ar.mp (I.kj b z)).elim hL hb) hc) (fun b o _ _ hc e n=>u.any e n hc) (fun b o hc e n=>u.free b o e n hc) (fun b o hc e=>u.there b o e hc) u.jH u.jc u.jI (fun m' hm=>by
  obtain⟨o',rJ,Cr,nq,r'⟩:=hm;rw[ho] at nq;cases nq;exact⟨_,rJ,Cr,hL,r'⟩) cB hg
theorem Inv.turned{t':Nat}{it:Addr}(I:Inv X pins σ H s)(k:∀b o,b≠it->s.heap.get? b=some o->h'.get? b=some o)(hn:H it=none)(hL:it≠X.env.locals)
  (h1:it∈X.ex\/X.dy.heap.objs.size<=it) (h2:∀x c,X.env.cells.lookup x=some c->c≠it) (h3:∀p∈X.pn++pins,p.1≠it):Inv X pins σ H { s with heap:=h',toks:=t' }:=by
 have p9:∀b u,H b=some u->b≠it:=fun b u e z=>by rw[z,hn] at e;cases e
 refine I.step (g':=s.gens) (d':=s.drawn) (ch:=[it]) (fun b hb=>?_) (fun b o _ _ hc e _=>k b o (fun z=>hc (by simp[z])) e) (fun b o _ _ hc e _=>⟨o.slots,k b o (fun z=>hc (by simp[z])) e⟩) (fun _ _ _ _ n=>n)
  (fun b o hc e=>⟨o,k b o (fun z=>hc (by simp[z])) e⟩) (fun _ _ e=>e) (fun _ _ _ e=>e) (fun b ps e=>⟨#[],by rw[e];simp⟩) (fun m hm=>?_) (fun b u e=>?_) I.bare
 ·have e:b=it:=by simpa using hb
  subst e;exact⟨h1,hL,h2,h3⟩
 ·obtain⟨o,es,ep,ho,r⟩:=hm;exact⟨o,es,ep,k _ o (Ne.symm hL) ho,r⟩
 ·refine(I.cB b u e).gD (fun c v hc q=>k c v ?_ q) (fun _ q=>q) fun _ _ q=>q
  rcases hc with z | z
  ·rw[z];exact p9 b u e
  ·exact p9 c _ z
theorem Inv.tok(I:Inv X pins σ H s)(t:Nat):Inv X pins σ H { s with toks:=t }:=I.un (h':=s.heap) (t':=t) Un.refl I.cB
theorem Inv.kept{t':Nat}(I:Inv X pins σ H s)(k:∀b u,s.heap.get? b=some u->h'.get? b=some u):Inv X pins σ H { s with heap:=h',toks:=t' }:=I.un (Un.kept k) (I.cB.kept k)
theorem Inv.laid{a:Addr}{o:HO}{t':Nat}(I:Inv X pins σ H s)(k:∀b u,s.heap.get? b=some u->h'.get? b=some u)(hp:s.heap.objs.size<=a)(new:cH X.prog X.w (upd H a o) h' a o) :
  Inv X pins σ (upd H a o) { s with heap:=h',toks:=t' }:=I.un (Un.laid k hp (I.cB.fresh hp)) (I.cB.laid k hp new)
theorem Inv.write{x e:Addr}{o:HO}{t':Nat}(I:Inv X pins σ H s)(mu:wO (H x))(he:e=x\/H e=some (.own x))(k:∀b u,b≠e->s.heap.get? b=some u->h'.get? b=some u)(tu:∃u,h'.get? e=some u)
  (new:cH X.prog X.w (upd H x o) h' x o):Inv X pins σ (upd H x o) { s with heap:=h',toks:=t' }:=I.un (Un.write mu he k tu) (I.cB.write mu he k tu new)
theorem Inv.kT{pX:List (Addr×Obj)}(I:Inv X pins σ H s)(h:∀p∈pX,s.heap.get? p.1=some p.2/\H p.1=none/\p.1≠X.env.locals/\p.1∉X.fs/\∀v,p.2.data≠.cell v):Inv X pX σ H s:=
 ⟨I.ok,I.os,I.bare,I.base,I.loc,I.cell,I.free,I.fO,fun p hp=>(aD.mp hp).elim (fun z=>I.pin p (aY _ z)) (h p),I.cB,I.len⟩
theorem ES{N:List Str}(hN:N.Nodup){i j:Nat}{x:Str}(a:N[i]?=some x)(b:N[j]?=some x):i=j:=by
 obtain⟨h1,e1⟩:=ag.mp a;obtain⟨h2,e2⟩:=ag.mp b;exact(List.getElem_inj hN).mp (e1.trans e2.symm)
theorem FT{M:Model}{A:Around}{E:Value->Shared->Prop}{i:Nat}{x:Str}{v:V}{u:Value}{Q:Unit->Shared->Prop}(I:Inv X pins σ H s)(hN:X.N.Nodup)(hi:X.N[i]?=some x)(hx:Loc X.env.scope x)(r:RelV v u)
  (h:∀s',Inv X pins (σ.set i (some v)) H s'->(∃a,Heap.SameBut a s.heap s'.heap/\(a=X.env.locals\/X.env.cells.lookup x=some a))->Q () s') (hf:X.fn x=true\/X.env.scope.names.lookup x=some .local:=by first | exact .inl rfl | exact .inr rfl | assumption):wpAny M A (storeName X.env x u) Q E s:=by
 obtain⟨m,hn,hl⟩:=id I.loc;have Cb:(X.env.scope.kind==.class||(X.env.scope.kind==.module&&X.env.locals != X.env.globals))=false:=by rw[I.ok.kind];rfl
 have vY:i<σ.length:=by rw[I.len];exact(ag.mp hi).1
 have rL:=I.rL;have tracked:∀{a:Addr} {h':Heap},(∃o,s.heap.get? a=some o/\H a=none)->Heap.SameBut a s.heap h'->gL X.prog X.w H h':=fun{a h'} ha hs b ob e=>by
  obtain⟨_,_,cY⟩:=ha;refine(I.cB b ob e).gD (fun c w' hc q=>(hs.2 c ?_).trans q) (fun _ q=>q) fun _ _ q=>q
  rintro rfl;rcases hc with rfl | hc
  ·rw[cY] at e;cases e
  ·rw[cY] at hc;cases hc
 rcases hx with hk | hk
 ·refine wpAny_storeName_local hk hn (fun h' BS hs=>?_) Cb;obtain⟨oL,_,_,yz,_⟩:=id hn;refine h _ ⟨I.ok,I.os,I.bare,⟨fun b o e n hb hx=>?_,fun b o e n hb hx=>?_,I.base.free,fun b o e hx=>?_,I.base.jH,I.base.jc,I.base.jI⟩,⟨_,BS,fun j y v' e1 e2 e3=>?_⟩,fun y c e=>?_,I.free,I.fO,fun p hp=>?_,tracked ⟨oL,yz,I.free⟩ hs,by simpa using I.len⟩ ⟨_,hs,.inl rfl⟩
  ·exact(hs.2 b (aP (aR (aB e) I.ok.above))).trans (I.base.keep b o e n hb hx)
  ·obtain⟨sl,e1⟩:=I.base.slot b o e n hb hx;exact⟨sl,(hs.2 b (aP (aR (aB e) I.ok.above))).trans e1⟩
  ·obtain⟨o',e1⟩:=I.base.there b o e hx;exact⟨o',(hs.2 b (aP (aR (aB e) I.ok.above))).trans e1⟩
  ·by_cases hj:j=i
   ·subst hj;rw[hi] at e1;cases e1;rw[List.getElem?_set_self vY] at e2;cases e2;exact⟨u,r,.inl ⟨hk,by simp⟩⟩
   ·rw[List.getElem?_set_ne (Ne.symm hj)] at e2;obtain⟨u',r',q⟩:=hl j y v' e1 e2 e3;refine⟨u',r',?_⟩;rcases q with⟨k,e⟩ | ⟨k,c,e,z⟩
    ·refine .inl ⟨k,?_⟩;have:y≠x:=fun e=>hj (ES hN e1 (e▸hi))
     simp[this,e]
    ·exact .inr ⟨k,c,e,z.sameBut hs (rL y c e)⟩
  ·obtain⟨w',z⟩:=I.cell y c e;exact⟨w',z.sameBut hs (rL y c e)⟩
  ·obtain⟨e,n,ne,nf,d⟩:=I.pin p hp;exact⟨(hs.2 p.1 ne).trans e,n,ne,nf,d⟩
 ·have B6:X.fn x=true:=by
   rcases hf with z | z
   ·exact z
   ·rw[z] at hk;cases hk
  obtain⟨c,hc⟩:=I.ok.has x (.inl hk);obtain⟨w',z⟩:=I.cell x c hc;refine wpAny_storeName_cell I.ok.kind hk hc z (fun h' nu hs=>?_);obtain⟨oc,sZ,BP⟩:=id z;refine h { s with heap:=h' } ⟨I.ok,I.os,I.bare,⟨fun b o e n hb hx=>?_,fun b o e n hb hx=>?_,I.base.free,fun b o e hx=>?_,I.base.jH,I.base.jc,I.base.jI⟩,⟨m,hn.sameBut hs (Ne.symm (rL x c hc)),fun j y v' e1 e2 e3=>?_⟩,fun y c' e=>?_,I.free,I.fO,fun p hp=>?_,tracked ⟨oc,sZ,I.fO x c hc⟩ hs,by simpa using I.len⟩ ⟨c,hs,.inr hc⟩
  ·exact(hs.2 b (aP (aR (aB e) (I.ok.cab x c B6 hc)))).trans (I.base.keep b o e n hb hx)
  ·obtain⟨sl,e1⟩:=I.base.slot b o e n hb hx;exact⟨sl,(hs.2 b (aP (aR (aB e) (I.ok.cab x c B6 hc)))).trans e1⟩
  ·obtain⟨o',e1⟩:=I.base.there b o e hx;exact⟨o',(hs.2 b (aP (aR (aB e) (I.ok.cab x c B6 hc)))).trans e1⟩
  ·by_cases hj:j=i
   ·subst hj;rw[hi] at e1;cases e1;rw[List.getElem?_set_self vY] at e2;cases e2;exact⟨u,r,.inr ⟨.inl hk,c,hc,nu⟩⟩
   ·rw[List.getElem?_set_ne (Ne.symm hj)] at e2;obtain⟨u',r',q⟩:=hl j y v' e1 e2 e3;refine⟨u',r',?_⟩;rcases q with q | ⟨k,c',e,z'⟩
    ·exact .inl q
    ·refine .inr ⟨k,c',e,z'.sameBut hs ?_⟩;rintro rfl;exact hj (ES hN e1 (I.ok.inj _ _ _ e hc▸hi))
  ·by_cases wj:c'=c
   ·subst wj;exact⟨_,nu⟩
   ·obtain⟨w2,z2⟩:=I.cell y c' e;exact⟨w2,z2.sameBut hs wj⟩
  ·obtain⟨e,n,ne,nf,d⟩:=I.pin p hp;refine⟨(hs.2 p.1 ?_).trans e,n,ne,nf,d⟩;intro q;rw[q,sZ] at e;have q':oc=p.2:=aQ e;exact d w' (by rw[<-q'];exact BP)
theorem ER{M:Model}{A:Around}{E:Value->Shared->Prop}{i:Nat}{x:Str}{v:V}{u:Value}{Q:Unit->Shared->Prop}(I:Inv X pins σ H s)(hN:X.N.Nodup)(hi:X.N[i]?=some x)(hx:Loc X.env.scope x)(r:RelV v u)
  (h:∀s',Inv X pins (σ.set i (some v)) H s'->Q () s') (hf:X.fn x=true\/X.env.scope.names.lookup x=some .local:=by first | exact .inl rfl | exact .inr rfl | assumption):wpAny M A (storeName X.env x u) Q E s:=
 FT I hN hi hx r (fun s' I' _=>h s' I') hf
theorem Inv.wJ{s':Shared}{ch:List Addr}(I:Inv X pins σ H s)(ho:s'.os=s.os)(u:Un (nz X.stack) ch H H' s.heap s'.heap)(cB:gL X.prog X.w H' s'.heap)(hg:AllBare s'.gens)
  (jy:∀b∈ch,(b∈X.ex\/X.dy.heap.objs.size<=b)/\b≠X.env.locals/\(∀x c,X.env.cells.lookup x=some c->c≠b)/\∀p∈X.pn++pins,p.1≠b):Inv X pins σ H' s':=by
 obtain⟨h',g',d',t',o'⟩:=s';have e:o'=s.os:=ho;subst e;exact I.call (g':=g') (t':=t') (d':=d') u cB hg jy
end
noncomputable abbrev XK:=Value->Option Addr->Hp->Prop
noncomputable abbrev St:=List (Option V)
noncomputable abbrev VK:=V->Hp->Prop
noncomputable abbrev TE:=St->Hp->VK->Prop
noncomputable abbrev TT:=St->Hp->(Bool->Hp->Prop)->Prop
noncomputable abbrev TA:=St->Hp->(List V->Hp->Prop)->Prop
structure Ends where
 nx:St->Hp->Prop
 rt:VK
 bk:St->Hp->Prop:=fun _ _=>False
 ct:St->Hp->Prop:=fun _ _=>False
noncomputable abbrev TS:=Ends->St->Hp->Prop
def EP(X:Cx)(pins:List (Addr×Obj))(σ:St)(Q:VK)(u:Value)(s':Shared):Prop:=∃v H',Inv X pins σ H' s'/\RelV v u/\Q v H'
def TP(X:Cx)(pins:List (Addr×Obj))(σ:St)(Q:Bool->Hp->Prop)(b:Bool)(s':Shared):Prop:=∃H',Inv X pins σ H' s'/\Q b H'
def AP(X:Cx)(pins:List (Addr×Obj))(σ:St)(Q:List V->Hp->Prop)(us:List Value)(s':Shared):Prop:=∃vs H',Inv X pins σ H' s'/\Vals vs us/\Q vs H'
def SP(X:Cx)(pins:List (Addr×Obj))(D:Ends)(f:Flow)(s':Shared):Prop:=
 match f with
 | .next=>∃cf H',Inv X pins cf H' s'/\D.nx cf H'
 | .brk=>∃cf H',Inv X pins cf H' s'/\D.bk cf H'
 | .cont=>∃cf H',Inv X pins cf H' s'/\D.ct cf H'
 | .ret u=>∃v cf H',Inv X pins cf H' s'/\RelV v u/\D.rt v H'
def PE(X:Cx)(e:Expr)(t:TE):Prop:=
 ∀(pins:List (Addr×Obj)) (s:Shared) (σ:St) (H:Hp) (Q:VK),Inv X pins σ H s->t σ H Q->wpAny (model X.prog X.w) X.A (eval e X.env) (EP X pins σ Q) X.xe s
def PT(X:Cx)(e:Expr)(t:TT):Prop:=
 ∀(pins:List (Addr×Obj)) (s:Shared) (σ:St) (H:Hp) (Q:Bool->Hp->Prop),Inv X pins σ H s->t σ H Q->wpAny (model X.prog X.w) X.A (isTrue e X.env (eval e X.env)) (TP X pins σ Q) X.xe s
def PW(X:Cx)(e:Expr)(t:TT):Prop:=
 ∀(whole:Sem Value) (pins:List (Addr×Obj)) (s:Shared) (σ:St) (H:Hp) (Q:Bool->Hp->Prop),Inv X pins σ H s->t σ H Q->wpAny (model X.prog X.w) X.A (isTrue e X.env whole) (TP X pins σ Q) X.xe s
theorem PW.pt{X:Cx}{e:Expr}{t:TT}(h:PW X e t):PT X e t:=h _
def PA(X:Cx)(es:List Expr)(t:TA):Prop:=
 ∀(pos:Pos) (pins:List (Addr×Obj)) (s:Shared) (σ:St) (H:Hp) (Q:List V->Hp->Prop),Inv X pins σ H s->t σ H Q->wpAny (model X.prog X.w) X.A (spliced (backTo pos (starEach es X.env))) (AP X pins σ Q) X.xe s
def PS(X:Cx)(st:Stmt)(t:TS):Prop:=
 ∀(pins:List (Addr×Obj)) (s:Shared) (σ:St) (H:Hp) (D:Ends),Inv X pins σ H s->t D σ H->wpAny (model X.prog X.w) X.A (exec st X.env) (SP X pins D) X.xe s
def lq(X:Cx)(st:List Stmt)(t:TS):Prop:=
 ∀(pins:List (Addr×Obj)) (s:Shared) (σ:St) (H:Hp) (D:Ends),Inv X pins σ H s->t D σ H->wpAny (model X.prog X.w) X.A (execs st X.env) (SP X pins D) X.xe s
theorem cA{α:Type}{t:Sem α}{Q Q':α->Shared->Prop}{M:Model}{A:Around}{E:Value->Shared->Prop}{s:Shared}(h:wpAny M A t Q E s)(hQ:∀a s,Q a s->Q' a s):wpAny M A t Q' E s:=wpAny_mono h hQ fun _ _ x=>x
end L2
namespace L2
open PySem PySem.Spec PyProof.Rows
section
variable {X:Cx}
theorem bin{a b:Expr}{ta tb:TE}(ha:PE X a ta)(hb:PE X b tb){pins:List (Addr×Obj)}{s:Shared}{σ:St}{H:Hp}{R:V->V->Hp->Prop}(I:Inv X pins σ H s)(h:ta σ H fun x H1=>tb σ H1 fun y H2=>R x y H2)
  {α:Type} {Q:α->Shared->Prop} {f:Value->Value->Sem α}
  (hf:∀v u s2 x y H2,Inv X pins σ H2 s2->RelV x v->RelV y u->R x y H2->wpAny (model X.prog X.w) X.A (f v u) Q X.xe s2) :
  wpAny (model X.prog X.w) X.A (eval a X.env) (fun v bZ=>wpAny (model X.prog X.w) X.A (eval b X.env) (fun u fS=>wpAny (model X.prog X.w) X.A (f v u) Q X.xe fS) X.xe bZ) X.xe s:=by
 refine cA (ha pins s σ H _ I h) fun v s1 bW=>?_
 obtain⟨x,H1,I1,r1,q1⟩:=bW;refine cA (hb pins s1 σ H1 _ I1 q1) fun u s2 bW=>?_
 obtain⟨y,H2,I2,r2,q2⟩:=bW;exact hf v u s2 x y H2 I2 r1 r2 q2
def C8(i:Nat):TE:=fun σ H Q=>∃v,σ[i]?=some (some v)/\Q v H
def tC(v:V):TE:=fun _ H Q=>Q v H
theorem j8{i:Nat}{x:Str}{pos:Pos}(hN:X.N[i]?=some x)(hv:jf X.env.scope x)(hd:(x==("__debug__":Str))=false:=by decide)(eB:(x==("__classdict__":Str))=false:=by decide):PE X (.Name x pos) (C8 i):=by
 intro pins s σ H Q I h;obtain⟨v,e,h⟩:=h;obtain⟨m,hn,hl⟩:=I.loc;obtain⟨u,r,l⟩:=hl i x v hN e hv;have fin:EP X pins σ Q u s:=⟨v,H,I,r,h⟩
 rcases l with⟨hk,hm⟩ | ⟨hk,c,hc,qh⟩
 ·exact wpAny_Name (wpAny_loadName_local I.ok.kind hk hn hm fin) hd
 ·rcases hk with hk | hk
  ·exact wpAny_Name (wpAny_loadName_cell I.ok.kind hk hc qh fin) hd
  ·exact wpAny_Name (wpAny_loadName_free I.ok.kind hk hc qh fin eB) hd
theorem J5{i j pos}:PE X (.Constant (.int i) j pos) (tC (.int i)):=fun _ _ _ H _ I h=>wpAny_Constant_int ⟨.int i,H,I.tok _,⟨_,rfl⟩,h⟩
theorem Ig{b j pos}:PE X (.Constant (.bool b) j pos) (tC (.bl b)):=fun _ _ _ H _ I h=>Constant_bool ⟨.bl b,H,I,rfl,h⟩
theorem J4{j pos}:PE X (.Constant .none j pos) (tC .non):=fun _ _ _ H _ I h=>Constant_none ⟨.non,H,I,rfl,h⟩
theorem J3{x j pos}:PE X (.Constant (.str x) j pos) (tC (.str x)):=fun _ _ _ H _ I h=>Calls.Constant_str ⟨.str x,H,I.tok _,⟨_,rfl⟩,h⟩
def Gl(X:Cx)(x:Str):Prop:=X.env.kindOf x=some .globalImplicit
theorem EF{E:Value->Shared->Prop}{pins:List (Addr×Obj)}{s:Shared}{σ:St}{H:Hp}{x:Str}{u:Value}{pos:Pos}{Q:Value->Shared->Prop}(I:Inv X pins σ H s)(hg:Gl X x)(hm:X.mg x=some u)(h:Q u s)
  (hd:(x==("__debug__":Str))=false:=by decide):wpAny (model X.prog X.w) X.A (eval (.Name x pos) X.env) Q E s:=
 Calls.Name_function_global I.ok.kind hg (Calls.loadGlobal_global (by rw[I.ok.glob];exact I.mod.glob.keeps I.bk) hm h) hd
theorem pJ{E:Value->Shared->Prop}{pins:List (Addr×Obj)}{s:Shared}{σ:St}{H:Hp}{x:Str}{u:Value}{pos:Pos}{Q:Value->Shared->Prop}(I:Inv X pins σ H s)(hg:Gl X x)(hm:X.mg x=none)(hv:bootBuiltins x=some u)(h:Q u s)
  (hn:x≠"__name__":=by decide) (hd:(x==("__debug__":Str))=false:=by decide):wpAny (model X.prog X.w) X.A (eval (.Name x pos) X.env) Q E s:=by
 obtain⟨mb,h1,h2⟩:=I.mod.blt;exact Calls.Name_function_global I.ok.kind hg (Calls.loadGlobal_builtin (by rw[I.ok.glob];exact I.mod.glob.keeps I.bk) hm (by rw[I.ok.blt];exact h1.keeps I.bk) ((h2 x hn).trans hv) h) hd
theorem Ki{x:Str}{v:V}{u:Value}{pos:Pos}(hg:Gl X x)(hm:X.mg x=some u)(r:RelV v u)(hd:(x==("__debug__":Str))=false:=by decide):PE X (.Name x pos) (tC v):=
 fun _ _ _ H _ I h=>EF I hg hm ⟨v,H,I,r,h⟩ hd
theorem Kh{x:Str}{v:V}{u:Value}{pos:Pos}(hg:Gl X x)(hm:X.mg x=none)(hv:bootBuiltins x=some u)(r:RelV v u)(hn:x≠"__name__":=by decide)(hd:(x==("__debug__":Str))=false:=by decide):PE X (.Name x pos) (tC v):=
 fun _ _ _ H _ I h=>pJ I hg hm hv ⟨v,H,I,r,h⟩ hn hd
variable {a b:Expr} {ta tb:TE} {pos:Pos}
def PC(X:Cx)(op:CmpOp)(a b:Expr)(t:TE):Prop:=
 ∀(pins:List (Addr×Obj)) (s:Shared) (σ:St) (H:Hp) (Q:VK),Inv X pins σ H s->t σ H Q->
  wpAny (model X.prog X.w) X.A (eval a X.env) (fun v bZ=>wpAny (model X.prog X.w) X.A (eval b X.env) (fun u fS=>wpAny (model X.prog X.w) X.A (compareOp op v u) (EP X pins σ Q) X.xe fS) X.xe bZ) X.xe s
theorem LU(b:Expr){op:CmpOp}(h:op≠.In)(h2:op≠.NotIn):behindInMarks op b=false:=by
 have e1:(op==CmpOp.In)=false:=by cases op<;>first | rfl | exact absurd rfl h
 have e2:(op==CmpOp.NotIn)=false:=by cases op<;>first | rfl | exact absurd rfl h2
 cases b<;>simp[behindInMarks,e1,e2]
def tB(t:TE):TT:=fun σ H Q=>t σ H fun x H1=>∃c,x=.bl c/\Q c H1
theorem Rt{op:CmpOp}{t:TE}(h:PC X op a b t)(h1:behindInMarks op b=false:=by first | exact LU _ (by decide) (by decide) | rfl):PT X (.Compare a [op] [b] pos) (tB t):=by
 intro pins s σ H Q I hw;refine wpAny_isTrue_Compare1 (cA (h pins s σ H _ I hw) fun v s1 h1=>cA h1 fun u s2 h2=>cA h2 fun c s3 bW=>?_) h1;obtain⟨x,H1,I1,r1,q1⟩:=bW;obtain⟨d,rfl,q⟩:=q1;cases r1;exact bD ⟨H1,I1,q⟩
theorem J2{e:Expr}{t:TE}(h:PE X e t)(he:∀whole,isTrue e X.env whole=(do let v <-whole;standAt e.pos;holding [v] (truthy v)):=by intro _;rfl):PT X e (tB t):=by
 intro pins s σ H Q I hw;refine isTrue_plain (cA (h pins s σ H _ I hw) fun v s1 bW=>?_) (he _);obtain⟨x,H1,I1,r1,q1⟩:=bW;obtain⟨d,rfl,q⟩:=q1;cases r1;exact bD ⟨H1,I1,q⟩
variable {tA yk:TT} {gW:List Expr}
def Ht(t u:TT):TT:=fun σ H Q=>t σ H fun c H1=>if c=true then u σ H1 Q else Q false H1
def OS(t u:TT):TT:=fun σ H Q=>t σ H fun c H1=>if c=true then Q true H1 else u σ H1 Q
def Hs(t:TT):TT:=fun σ H Q=>t σ H fun c H1=>Q (!c) H1
theorem KJ(ha:PT X a tA):PW X (.BoolOp .And [a] pos) tA:=by
 intro wh pins s σ H Q I h;refine isTrue_and (cA (ha pins s σ H Q I h) fun c s1 e=>?_);cases c with
 | true=>exact isTrue_and_nil e
 | false=>exact e
theorem J1(ha:PT X a tA):PW X (.BoolOp .Or [a] pos) tA:=by
 intro wh pins s σ H Q I h;refine isTrue_or (cA (ha pins s σ H Q I h) fun c s1 e=>?_);cases c with
 | false=>exact isTrue_or_nil e
 | true=>exact e
theorem JZ(ha:PT X a tA)(hb:PW X (.BoolOp .And (b::gW) pos) yk):PW X (.BoolOp .And (a::b::gW) pos) (Ht tA yk):=by
 intro wh pins s σ H Q I h;refine isTrue_and (cA (ha pins s σ H _ I h) fun c s1 bW=>?_);obtain⟨H1,I1,q1⟩:=bW;cases c with
 | true=>exact hb wh pins s1 σ H1 Q I1 q1
 | false=>exact⟨H1,I1,q1⟩
theorem Ie(ha:PT X a tA)(hb:PW X (.BoolOp .Or (b::gW) pos) yk):PW X (.BoolOp .Or (a::b::gW) pos) (OS tA yk):=by
 intro wh pins s σ H Q I h;refine isTrue_or (cA (ha pins s σ H _ I h) fun c s1 bW=>?_);obtain⟨H1,I1,q1⟩:=bW;cases c with
 | true=>exact⟨H1,I1,q1⟩
 | false=>exact hb wh pins s1 σ H1 Q I1 q1
theorem JY(ha:PT X a tA):PT X (.UnaryOp .Not a pos) (Hs tA):=by
 intro pins s σ H Q I h;exact isTrue_not (ha pins s σ H (fun c H1=>Q (!c) H1) I h)
def Ic(ta tb:TE):TE:=fun σ H Q=>ta σ H fun x H1=>∃c,x=.bl c/\if c=true then tb σ H1 Q else Q (.bl false) H1
theorem JX{op}{t:TE}(h:PE X a t):PE X (.BoolOp op [a] pos) t:=fun pins s σ H Q I hw=>BoolOp_one (h pins s σ H Q I hw)
theorem JW(ha:PE X a ta)(hb:PE X (.BoolOp .And (b::gW) pos) tb):PE X (.BoolOp .And (a::b::gW) pos) (Ic ta tb):=by
 intro pins s σ H Q I h;refine BoolOp_and (cA (ha pins s σ H _ I h) fun v s1 bW=>?_);obtain⟨x,H1,I1,r1,q1⟩:=bW;obtain⟨c,rfl,q1⟩:=q1;cases r1;refine bD ?_;cases c with
 | true=>exact hb pins s1 σ H1 Q I1 q1
 | false=>exact⟨.bl false,H1,I1,rfl,q1⟩
end
end L2
namespace L2
open PySem PySem.Spec PyProof.Rows
def dP(K:PySem.W.Frag)(H:Hp)(a:Addr)(xs:List V):Prop:=
 Rd H a (.lst xs)\/
  ∃(o:Obj) (its:Array Value) (n:Nat),K.lookup a=some o/\o.cls=.type "list"/\o.dict=none/\o.data=.seq its n/\its.size<=sizeLine/\Vals xs its.toList
def dO(K:PySem.W.Frag)(H:Hp)(a:Addr)(xs:List V):Prop:=
 Rd H a (.tup xs)\/
  ∃(o:Obj) (its:Array Value) (n:Nat),K.lookup a=some o/\o.cls=.type "tuple"/\o.data=.seq its n/\its.size<=sizeLine/\Vals xs its.toList
noncomputable def Hr:Value->Option V
 | .none=>some .non
 | .bool b=>some (.bl b)
 | .int i _=>some (.int i)
 | .str x _=>some (.str x)
 | .bytes b _=>some (.Cw b)
 | .float b _=>some (.Ck b)
 | .ref a=>some (.ref a)
 | .type n=>some (.ty n)
 | _=>none
theorem RelV.abs{x:V}{u:Value}(r:RelV x u):Hr u=some x:=by
 cases x with
 | non=>cases r;rfl
 | bl _=>cases r;rfl
 | int _=>obtain⟨t,rfl⟩:=r;rfl
 | str _=>obtain⟨t,rfl⟩:=r;rfl
 | Cw _=>obtain⟨t,rfl⟩:=r;rfl
 | Ck _=>obtain⟨t,rfl⟩:=r;rfl
 | ref _=>cases r;rfl
 | ty _=>cases r;rfl
theorem RelV.inj{x y:V}{u:Value}(r:RelV x u)(q:RelV y u):x=y:=aQ (r.abs.symm.trans q.abs)
theorem Vals.inj:∀{xs ys:List V} {us:List Value},Vals xs us->Vals ys us->xs=ys
 | _,_,_,.nil,.nil=>rfl
 | _,_,_,.cons r t,.cons r' t'=>by rw[r.inj r',Vals.inj t t']
section
variable {X:Cx} {pins:List (Addr×Obj)} {σ:St} {H:Hp} {s:Shared} {a:Addr} {xs ys:List V}
theorem dP.of{K:PySem.W.Frag}(h:H a=some (.lst xs)):dP K H a xs:=.inl (.inl h)
theorem dO.of{K:PySem.W.Frag}(h:H a=some (.tup xs)):dO K H a xs:=.inl (.inl h)
theorem Inv.list(I:Inv X pins σ H s)(h:dP X.K H a xs):∃its:List Value,Vals xs its/\PlainL s.heap a its.toArray/\xs.length<=sizeLine:=by
 rcases h with h | ⟨o,its,n,hk,hc,hd,hs,hz,r⟩
 ·obtain⟨z,its,n,r,e⟩:=h.ok I.cB;exact⟨its,r,⟨_,n,e,rfl,rfl,rfl⟩,z⟩
 ·refine⟨its.toList,r,⟨o,n,I.lV a o hk,hc,hd,by simpa using hs⟩,?_⟩;have e:=r.length;simp only[aM] at e;omega
theorem Inv.tuple(I:Inv X pins σ H s)(h:dO X.K H a xs):∃its:List Value,Vals xs its/\IsTup s.heap a its.toArray/\xs.length<=sizeLine:=by
 rcases h with h | ⟨o,its,n,hk,hc,hs,hz,r⟩
 ·obtain⟨z,its,r,p⟩:=h.ok I.cB;exact⟨its,r,p,z⟩
 ·refine⟨its.toList,r,⟨o,I.lV a o hk,hc,n,by simpa using hs⟩,?_⟩;have e:=r.length;simp only[aM] at e;omega
theorem Inv.g8(I:Inv X pins σ H s)(h:dP X.K H a xs)(h':dP X.K H a ys):xs=ys:=by
 obtain⟨its,r,⟨o,n,e,_,_,d⟩,_⟩:=I.list h;obtain⟨its',r',⟨o',n',e',_,_,d'⟩,_⟩:=I.list h';rw[e] at e';cases e';rw[d] at d';injection d' with d1 _
 have:its=its':=by simpa using congrArg Array.toList d1
 subst this;exact r.inj r'
theorem Inv.iM(I:Inv X pins σ H s)(h:dO X.K H a xs)(h':dO X.K H a ys):xs=ys:=by
 obtain⟨its,r,⟨o,e,_,n,d⟩,_⟩:=I.tuple h;obtain⟨its',r',⟨o',e',_,n',d'⟩,_⟩:=I.tuple h';rw[e] at e';cases e';rw[d] at d';injection d' with d1 _
 have:its=its':=by simpa using congrArg Array.toList d1
 subst this;exact r.inj r'
end
noncomputable abbrev Cx.iA(X:Cx)(E:Value->Shared->Prop):Cx:={ X with xe:=E }
noncomputable abbrev Cx.pZ(X:Cx):Cx:=X.iA fun _ _=>False
theorem Cx.Ok.iA{X:Cx}(ok:X.Ok)(E:Value->Shared->Prop):(X.iA E).Ok:=
 ⟨ok.mod,ok.kind,ok.glob,ok.blt,ok.above,ok.inj,ok.has,ok.cab,ok.hd,ok.frames,ok.yo,ok.exf,ok.bs,ok.rN,ok.m9,ok.nB,ok.hU,ok.tD⟩
theorem Cx.Ok.e9{X:Cx}{E:Value->Shared->Prop}(ok:(X.iA E).Ok):X.Ok:=
 ⟨ok.mod,ok.kind,ok.glob,ok.blt,ok.above,ok.inj,ok.has,ok.cab,ok.hd,ok.frames,ok.yo,ok.exf,ok.bs,ok.rN,ok.m9,ok.nB,ok.hU,ok.tD⟩
section
variable {X:Cx} {pins:List (Addr×Obj)} {σ:St} {H:Hp} {s:Shared} {E:Value->Shared->Prop}
theorem Inv.iA(I:Inv X pins σ H s)(E:Value->Shared->Prop):Inv (X.iA E) pins σ H s:=⟨I.ok.iA E,I.os,I.bare,I.base,I.loc,I.cell,I.free,I.fO,I.pin,I.cB,I.len⟩
theorem Inv.e9(I:Inv (X.iA E) pins σ H s):Inv X pins σ H s:=⟨I.ok.e9,I.os,I.bare,I.base,I.loc,I.cell,I.free,I.fO,I.pin,I.cB,I.len⟩
theorem SP.e9{D:Ends}{f:Flow}{s':Shared}(h:SP (X.iA E) pins D f s'):SP X pins D f s':=by
 cases f with
 | next=>obtain⟨cf,H',I,q⟩:=h;exact⟨cf,H',I.e9,q⟩
 | brk=>obtain⟨cf,H',I,q⟩:=h;exact⟨cf,H',I.e9,q⟩
 | cont=>obtain⟨cf,H',I,q⟩:=h;exact⟨cf,H',I.e9,q⟩
 | ret u=>obtain⟨v,cf,H',I,r,q⟩:=h;exact⟨v,cf,H',I.e9,r,q⟩
theorem lq.pZ{st:List Stmt}{t:TS}(h:lq X.pZ st t):lq X st t:=fun pins s σ H D I hw=>
 wpAny_mono (h pins s σ H D (I.iA _) hw) (fun _ _ q=>q.e9) fun _ _ z=>False.elim z
end
section
variable {X:Cx} {st:Stmt} {gW:List Stmt} {t u:TS} {e:Expr} {te:TE} {pos:Pos}
def Ib:TS:=fun D σ H=>D.nx σ H
def Hq(t u:TS):TS:=fun D σ H=>t { D with nx:=u D } σ H
theorem KI:lq X [] Ib:=fun _ _ σ H _ I h=>wpAny_execs_nil ⟨σ,H,I,h⟩
theorem LS(h1:PS X st t)(h2:lq X gW u):lq X (st::gW) (Hq t u):=by
 intro pins s σ H D I h;refine wpAny_execs_cons (cA (h1 pins s σ H { D with nx:=u D } I h) fun f s1 q=>?_);cases f with
 | next=>
  obtain⟨cf,H',I',q⟩:=q;exact h2 pins s1 cf H' D I' q
 | ret v=>exact q
 | brk=>exact q
 | cont=>exact q
theorem EE(h1:PS X st t):lq X [st] t:=by
 intro pins s σ H D I h;refine wpAny_execs_cons (cA (h1 pins s σ H D I h) fun f s1 q=>?_);cases f with
 | next=>exact wpAny_execs_nil q
 | ret v=>exact q
 | brk=>exact q
 | cont=>exact q
theorem Inv.quiet{pins:List (Addr×Obj)}{σ:St}{H:Hp}{s:Shared}(I:Inv X pins σ H s):interactive X.env=false:=by simp[interactive,I.ok.kind]
def Ia(te:TE):TS:=fun D σ H=>te σ H fun _ H1=>D.nx σ H1
theorem sF(he:PE X e te)(hs:swapsWith e none pos.line X.env=pure false:=by rfl):PS X (.Expr e pos) (Ia te):=by
 intro pins s σ H D I h;exact wpAny_Expr_any (cA (he pins s σ H _ I h) fun v s1 bW=>by obtain⟨x,H1,I1,r1,q1⟩:=bW;exact⟨σ,H1,I1,q1⟩) I.quiet hs
def Ho(te:TE):TS:=fun D σ H=>te σ H D.rt
theorem zG(he:PE X e te):PS X (.Return (some e) pos) (Ho te):=by
 intro pins s σ H D I h;exact wpAny_Return_some (cA (he pins s σ H _ I h) fun v s1 bW=>by obtain⟨x,H1,I1,r1,q1⟩:=bW;exact⟨x,σ,H1,I1,r1,q1⟩)
def Hn(c:TT)(t u:TS):TS:=fun D σ H=>c σ H fun b H1=>if b=true then t D σ H1 else u D σ H1
theorem HZ{c:Expr}{a b:List Stmt}{tc:TT}(hc:PT X c tc)(ha:lq X a t)(hb:lq X b u):PS X (.If c a b pos) (Hn tc t u):=by
 intro pins s σ H D I h;refine wpAny_If (cA (hc pins s σ H _ I h) fun d s1 bW=>?_);obtain⟨H1,I1,q1⟩:=bW;cases d with
 | true=>exact ha pins s1 σ H1 D I1 q1
 | false=>exact hb pins s1 σ H1 D I1 q1
def JV:TS:=fun _ _ _=>False
theorem LR:PS X st JV:=fun _ _ _ _ _ _ h=>h.elim
end
noncomputable abbrev TG:=V->St->Hp->(St->Hp->Prop)->Prop
noncomputable abbrev o7:=List V->St->Hp->(St->Hp->Prop)->Prop
def PG(X:Cx)(target:Expr)(t:TG):Prop:=
 ∀(pins:List (Addr×Obj)) (s:Shared) (σ:St) (H:Hp) (v:V) (u:Value) (Q:St->Hp->Prop),Inv X pins σ H s->RelV v u->t v σ H Q->
  wpAny (model X.prog X.w) X.A (assign target X.env u) (fun _ s'=>∃cf H',Inv X pins cf H' s'/\Q cf H') X.xe s
def tO(X:Cx)(ts:List Expr)(t:o7):Prop:=
 ∀(pins:List (Addr×Obj)) (s:Shared) (σ:St) (H:Hp) (vs:List V) (us:List Value) (Q:St->Hp->Prop),Inv X pins σ H s->Vals vs us->t vs σ H Q->
  wpAny (model X.prog X.w) X.A (assignInOrder ((assignEach ts X.env).map (·.2)) us) (fun _ s'=>∃cf H',Inv X pins cf H' s'/\Q cf H') X.xe s
noncomputable abbrev yT:=V->V->V->Hp->(Hp->Prop)->Prop
def C7(X:Cx)(t:yT):Prop:=
 ∀(pins:List (Addr×Obj)) (s:Shared) (σ:St) (H:Hp) (o i v:V) (ov iv u:Value) (Q:Hp->Prop),Inv X pins σ H s->RelV o ov->RelV i iv->RelV v u->t o i v H Q->
  wpAny (model X.prog X.w) X.A (setItem ov iv u) (fun _ s'=>∃H',Inv X pins σ H' s'/\Q H') X.xe s
section
variable {X:Cx} {pos:Pos}
def za(i:Nat):TG:=fun v σ H Q=>Q (σ.set i (some v)) H
theorem ED{i:Nat}{x:Str}(hN:X.N.Nodup)(hi:X.N[i]?=some x)(hx:Loc X.env.scope x)(hf:X.fn x=true\/X.env.scope.names.lookup x=some .local:=by first | exact .inl rfl | exact .inr rfl | assumption):PG X (.Name x pos) (za i):=by
 intro pins s σ H v u Q I r h;exact wpAny_assign_Name (ER I hN hi hx r (fun s' I'=>⟨_,H,I',h⟩) hf)
noncomputable def HN:o7:=fun vs σ H Q=>vs=[]/\Q σ H
noncomputable def HY(t:TG)(u:o7):o7:=fun vs σ H Q=>∃v r,vs=v::r/\t v σ H fun cf H'=>u r cf H' Q
theorem KH:tO X [] HN:=by
 intro pins s σ H vs us Q I r h;obtain⟨e,h⟩:=h;subst e;cases r;exact assignInOrder_nil ⟨σ,H,I,h⟩
theorem LQ{e:Expr}{es:List Expr}{t:TG}{u:o7}(h1:PG X e t)(h2:tO X es u)
  (hs:(assignEach (e::es) X.env).map (·.2)=assign e X.env::(assignEach es X.env).map (·.2):=by rfl):tO X (e::es) (HY t u):=by
 intro pins s σ H vs us Q I r h;obtain⟨v,vr,e1,h⟩:=h;subst e1;cases r with
 | cons r rr=>
  rw[hs];refine assignInOrder_cons (cA (h1 pins s σ H _ _ _ I r h) fun _ s1 bW=>?_);obtain⟨rQ,H1,I1,q1⟩:=bW;exact h2 pins s1 rQ H1 _ _ Q I1 rr q1
def HM(K:PySem.W.Frag)(n:Nat)(t:o7):TG:=fun v σ H Q=>∃a xs,v=.ref a/\dO K H a xs/\xs.length=n/\t xs σ H Q
theorem JU{es:List Expr}{k:Nat}{t:o7}{n:Nat}(hc:X.calm=true)(h:tO X es t)
  (hn:(assignEach es X.env).length=n:=by rfl) (fW:(assignEach es X.env).findIdx? (·.1)=none:=by rfl):PG X (.Tuple es k pos) (HM X.K n t):=by
 intro pins s σ H v u Q I r hw;obtain⟨a,xs,e1,hq,hl,hw⟩:=hw;subst e1;cases r;obtain⟨its,rv,ht,hz⟩:=I.tuple hq;refine assign_Tuple_tuple (I.ok.hd hc) ht (by simp[hn,<-hl,rv.length]) fW fun h' hx=>?_
 have I1:Inv X pins σ H { s with heap:=h' }:=I.kept (t':=s.toks) fun b o e=>hx b o (aP (aB e)) e
 exact h pins _ σ H xs _ Q I1 (by simpa using rv) hw
def HL(to ti:TE)(t:yT):TG:=fun v σ H Q=>to σ H fun o H1=>ti σ H1 fun i H2=>t o i v H2 fun H3=>Q σ H3
theorem JT{o i:Expr}{to ti:TE}{t:yT}(ho:PE X o to)(hi:PE X i ti)(hs:C7 X t)
  (ha:∀v,assign (.Subscript o i pos) X.env v=(do
   let ov <-holding [v] (eval o X.env)
   let iv <-holding [v,ov] (eval i X.env)
   standAt pos
   holding [v,ov,iv] (setItem ov iv v)
   release [v,ov,iv] []):=by intro _;rfl):PG X (.Subscript o i pos) (HL to ti t):=by
 intro pins s σ H v u Q I r h;rw[ha];refine aa (br (cA (ho pins s σ H _ I h) fun ov s1 bW=>?_));obtain⟨x,H1,I1,r1,q1⟩:=bW;refine aa (br (cA (hi pins s1 σ H1 _ I1 q1) fun iv s2 bW=>?_));obtain⟨y,H2,I2,r2,q2⟩:=bW;refine aa (wpAny_standAt (aa (br (cA (hs pins s2 σ H2 x y v ov iv u _ I2 r1 r2 r q2) fun _ s3 bW=>?_))));obtain⟨H3,I3,q3⟩:=bW;exact wpAny_release ⟨σ,H3,I3,q3⟩
def yS(te:TE)(g:TG):TS:=fun D σ H=>te σ H fun x H1=>g x σ H1 D.nx
theorem JS{tg e:Expr}{te:TE}{g:TG}(he:PE X e te)(hg:PG X tg g)(hs:swapsWithSole [tg] e pos.line X.env=pure false:=by rfl)(hw:swappedStores [tg] e X.env=pure none:=by rfl)
  (h1:(assignEach [tg] X.env).map (·.2)=[assign tg X.env]:=by rfl):PS X (.Assign [tg] e pos) (yS te g):=by
 intro pins s σ H D I h;refine wpAny_Assign_stores (cA (he pins s σ H _ I h) fun v s1 bW=>?_) hs hw;obtain⟨x,H1,I1,r1,q1⟩:=bW;rw[h1];exact cA (hg pins s1 σ H1 x v _ I1 r1 q1) fun _ s2 q=>q
theorem zF{i:Nat}{x:Str}{e:Expr}{te:TE}{pos':Pos}(hN:X.N.Nodup)(hi:X.N[i]?=some x)(hx:Loc X.env.scope x)(he:PE X e te)(hs:swapsWith e (some (.Name x pos')) pos.line X.env=pure false:=by rfl)(hf:X.fn x=true\/X.env.scope.names.lookup x=some .local:=by first | exact .inl rfl | exact .inr rfl | assumption) :
  PS X (.Assign [.Name x pos'] e pos) (yS te (za i)):=by
 intro pins s σ H D I h;refine wpAny_Assign_Name (cA (he pins s σ H _ I h) fun v s1 bW=>?_) hs;obtain⟨y,H1,I1,r1,q1⟩:=bW;exact ER I1 hN hi hx r1 (fun s2 I2=>⟨_,H1,I2,q1⟩) hf
end
section
variable {X:Cx} {pos:Pos}
def JR(c:TT)(tb:TS):TS:=fun D σ H=>∃W:Nat->St->Hp->Prop,(∃m,W m σ H)/\∀m σ H,W m σ H->
 c σ H fun b H1=>if b=true then ∃N:St->Hp->Prop,(∀cf H',N cf H'->∃m',m'<m/\W m' cf H')/\tb { D with nx:=N,ct:=N,bk:=D.nx } σ H1 else D.nx σ H1
theorem LP{c:Expr}{body:List Stmt}{tc:TT}{tb:TS}(hp:PassesOwn (model X.prog X.w) X.A X.env X.xe)(hc:PT X c tc)(hb:lq X body tb):PS X (.While c body [] pos) (JR tc tb):=by
 intro pins s σ H D I h;obtain⟨W,⟨m0,w0⟩,turn⟩:=h;refine wpAny_While (codeAny_whileLoop (fun n s'=>∃cf H',Inv X pins cf H' s'/\W n cf H') ?_ m0 ⟨σ,H,I,w0⟩);rintro n s1 ⟨rQ,H1,I1,w1⟩;refine wpAny_passesOwn hp (cA (hc pins s1 rQ H1 _ I1 (turn n rQ H1 w1)) fun b s2 bW=>?_);obtain⟨H2,I2,q2⟩:=bW;cases b with
 | true=>
  obtain⟨N,hN,q2⟩:=q2;rw[if_pos rfl];refine wpAny_passesOwn hp (cA (hb pins s2 rQ H2 _ I2 q2) fun f s3 q3=>?_);cases f with
  | next=>
   obtain⟨iX,H3,I3,n3⟩:=q3;obtain⟨m',hm,w3⟩:=hN iX H3 n3;exact⟨m',hm,iX,H3,I3,w3⟩
  | cont=>
   obtain⟨iX,H3,I3,n3⟩:=q3;obtain⟨m',hm,w3⟩:=hN iX H3 n3;exact⟨m',hm,iX,H3,I3,w3⟩
  | brk=>exact q3
  | ret v=>exact q3
 | false=>
  rw[if_neg aw];exact wpAny_execs_nil ⟨rQ,H2,I2,q2⟩
end
structure It where
 go:Nat->Hp->Prop
 yh:Nat->Hp->V->Hp->Prop
 stop:Nat->Hp->Prop
def g0(X:Cx)(pins:List (Addr×Obj))(H:Hp)(b:Addr):Prop:=
 H b=none/\b≠X.env.locals/\b∉X.fs/\(b∈X.ex\/X.dy.heap.objs.size<=b)/\(∀x c,X.env.cells.lookup x=some c->c≠b)/\∀p∈X.pn++pins,p.1≠b
theorem Inv.hZ{X:Cx}{pins:List (Addr×Obj)}{σ:St}{H H':Hp}{s:Shared}{b:Addr}(I:Inv X pins σ H s)(hb:s.heap.objs.size<=b)(hn:H' b=none):g0 X pins H' b:=by
 refine⟨hn,Nat.ne_of_gt (aR I.lt hb),I.Bn hb,.inr (a9 I.sz hb),fun x c e z=>?_,fun p hp z=>?_⟩
 ·obtain⟨v,q⟩:=I.cell x c e;exact absurd (aR q.lt (by rw[z];exact hb)) (Nat.lt_irrefl _)
 ·exact absurd (aR (aB (I.pin p hp).1) (by rw[z];exact hb)) (Nat.lt_irrefl _)
structure Turn (P:Program) (w:World) (K:PySem.W.Frag) (tg:Expr) (J:It) (fp:List Addr) (it:Addr) (tn:Nat->Heap->Prop):Prop where
 mem:it∈fp
 obj:∀i h,tn i h->∀b∈fp,∃o,h.get? b=some o/\∀v,o.data≠.cell v
 keep:∀i h h',tn i h->(∀b∈fp,∀o,h.get? b=some o->h'.get? b=some o)->tn i h'
 item:∀(X:Cx),X.prog=P->X.w=w->X.K=K->X.calm=true->∀(i:Nat) (pins:List (Addr×Obj)) (s:Shared) (σ:St) (H:Hp) (E:Value->Shared->Prop),Inv X pins σ H s->(∀b∈fp,g0 X pins H b)->tn i s.heap->J.go i H->
  wpAny (model P w) X.A (pyNext (.ref it)) (fun r s1=>∃u,r=some u/\
   wpAny (model P w) X.A (letOwnedTupleGo tg (.ref it) u) (fun _ s2=>∃x H',Inv X pins σ H' s2/\RelV x u/\J.yh i H x H'/\tn (i+1) s2.heap/\∀b∈fp,H' b=none) E s1) E s
 done:∀(X:Cx),X.prog=P->X.w=w->X.K=K->X.calm=true->∀(i:Nat) (pins:List (Addr×Obj)) (s:Shared) (σ:St) (H:Hp) (E:Value->Shared->Prop),Inv X pins σ H s->(∀b∈fp,g0 X pins H b)->tn i s.heap->J.stop i H->
  wpAny (model P w) X.A (pyNext (.ref it)) (fun r s1=>r=none/\Inv X pins σ H s1) E s
 self:∀(A:Around) (i:Nat) (s:Shared) (Q:Value->Shared->Prop) (E:Value->Shared->Prop),tn i s.heap->Q (.ref it) s->wpAny (model P w) A (pyIter (.ref it)) Q E s
noncomputable abbrev TI:=St->Hp->(It->Hp->Prop)->Prop
def wN(X:Cx)(pins:List (Addr×Obj))(σ:St)(tg:Expr)(R:It->Hp->Prop)(Bs:Value)(s2:Shared):Prop:=
 ∃(it:Addr) (fp:List Addr) (tn:Nat->Heap->Prop) (J:It) (H':Hp),Bs=.ref it/\Inv X pins σ H' s2/\Turn X.prog X.w X.K tg J fp it tn/\tn 0 s2.heap/\(∀b∈fp,g0 X pins H' b)/\R J H'
def PI(X:Cx)(tg iter:Expr)(wi:TI):Prop:=
 ∀(pins:List (Addr×Obj)) (s:Shared) (σ:St) (H:Hp) (R:It->Hp->Prop),Inv X pins σ H s->wi σ H R->
  wpAny (model X.prog X.w) X.A (eval iter X.env) (fun v s1=>wpAny (model X.prog X.w) X.A (pyIter v) (wN X pins σ tg R) X.xe s1) X.xe s
theorem qv{M:Model}{A:Around}{E:Value->Shared->Prop}{s:Shared}{tg:Expr}{it:Addr}{u:Value}{o:Obj}{n:String}{vs:Array Value}{Q:Unit->Shared->Prop}(ho:s.heap.get? it=some o)(hc:o.cls=.type n)(hd:o.data=.fields vs)
  (hn:["enumerate","zip","dict_itemiterator","dict_reverseitemiterator","odict_iterator","itertools.zip_longest","itertools.pairwise"].contains n=false) (hQ:Q () s):wpAny M A (letOwnedTupleGo tg (.ref it) u) Q E s:=by
 unfold letOwnedTupleGo;cases tg<;>first
  | exact ah hQ
  | (cases u<;>first
    | exact ah hQ
    | (refine aa (wpAny_load ho ?_)
       rw[hc,hd];show wpAny M A (if (["enumerate","zip","dict_itemiterator","dict_reverseitemiterator","odict_iterator","itertools.zip_longest","itertools.pairwise"].contains n&&vs[0]?==some (rawInt _))=true then _ else _) Q E s;rw[if_neg (by intro h;rw[hn,Bool.false_and] at h;cases h)];exact ah hQ))
noncomputable def yP(K:PySem.W.Frag)(a:Addr):It:=
 ⟨fun i H=>∃xs x,dP K H a xs/\xs[i]?=some x,fun i H x H'=>H'=H/\∀xs,dP K H a xs->xs[i]?=some x,fun i H=>∃xs,dP K H a xs/\xs.length<=i⟩
noncomputable def CG(K:PySem.W.Frag)(a:Addr):It:=
 ⟨fun i H=>∃xs x,dO K H a xs/\xs[i]?=some x,fun i H x H'=>H'=H/\∀xs,dO K H a xs->xs[i]?=some x,fun i H=>∃xs,dO K H a xs/\xs.length<=i⟩
noncomputable def yO(lo:Int)(n:Nat):It:=⟨fun i _=>i<n,fun i H x H'=>H'=H/\x=.int (lo+i),fun i _=>n<=i⟩
theorem FR{P:Program}{w:World}{K:PySem.W.Frag}{tg:Expr}(a it:Addr):Turn P w K tg (yP K a) [it] it (fun i h=>h.IsListIter it a i) where
 mem:=by simp
 obj:=fun i h st b hb=>by
  have e:b=it:=by simpa using hb
  subst e;obtain⟨o,e,c,d⟩:=st;exact⟨o,e,fun v z=>by rw[d] at z;cases z⟩
 keep:=fun i h h' st k=>st.at fun o e=>k it (by simp) o e
 item:=by
  intro X hP hw hK hc i pins s σ H E I hf st hg;subst hP hw hK;obtain⟨xs,x,hq,hx⟩:=hg;obtain⟨its,rv,p,hz⟩:=I.list hq;obtain⟨u,hu,ru⟩:=rv.get hx;obtain⟨f0,f1,f2,f3,f4,f5⟩:=hf it (by simp);refine wpAny_pyNext_list_item st p.isList (x:=u) (by simpa using hu) fun h' dZ sb=>?_
  have I1:Inv X pins σ H { s with heap:=h' }:=I.turned (t':=s.toks) (fun b o hb e=>(sb.2 b hb).trans e) f0 f1 f3 f4 f5;obtain⟨o,e,c,d⟩:=id dZ;exact⟨u,rfl,qv (s:={ s with heap:=h' }) e c d (by decide) ⟨x,H,I1,ru,⟨rfl,fun ys hy=>by rw[I.g8 hy hq];exact hx⟩,dZ,fun b hb=>(hf b hb).1⟩⟩
 done:=by
  intro X hP hw hK hc i pins s σ H E I hf st hg;subst hP hw hK;obtain⟨xs,hq,hx⟩:=hg;obtain⟨its,rv,p,hz⟩:=I.list hq;obtain⟨f0,f1,f2,f3,f4,f5⟩:=hf it (by simp);have hl:=rv.length;exact wpAny_pyNext_list_end (I.ok.hd hc) st p.isList (by simp;omega) fun h' eb=>⟨rfl,I.turned (t':=s.toks) (fun b o hb e=>eb b o hb e) f0 f1 f3 f4 f5⟩
 self:=fun _ _ _ _ _ st h=>wpAny_pyIter_listiter st h
theorem ML{P:Program}{w:World}{K:PySem.W.Frag}{tg:Expr}(a it:Addr):Turn P w K tg (CG K a) [it] it (fun i h=>h.IsTupleIter it a i) where
 mem:=by simp
 obj:=fun i h st b hb=>by
  have e:b=it:=by simpa using hb
  subst e;obtain⟨o,e,c,d⟩:=st;exact⟨o,e,fun v z=>by rw[d] at z;cases z⟩
 keep:=fun i h h' st k=>st.at fun o e=>k it (by simp) o e
 item:=by
  intro X hP hw hK hc i pins s σ H E I hf st hg;subst hP hw hK;obtain⟨xs,x,hq,hx⟩:=hg;obtain⟨its,rv,p,hz⟩:=I.tuple hq;obtain⟨u,hu,ru⟩:=rv.get hx;obtain⟨f0,f1,f2,f3,f4,f5⟩:=hf it (by simp);refine wpAny_pyNext_tuple_item st (show s.heap.IsTuple a its.toArray from p) (x:=u) (by simpa using hu) fun h' dZ sb=>?_
  have I1:Inv X pins σ H { s with heap:=h' }:=I.turned (t':=s.toks) (fun b o hb e=>(sb.2 b hb).trans e) f0 f1 f3 f4 f5;obtain⟨o,e,c,d⟩:=id dZ;exact⟨u,rfl,qv (s:={ s with heap:=h' }) e c d (by decide) ⟨x,H,I1,ru,⟨rfl,fun ys hy=>by rw[I.iM hy hq];exact hx⟩,dZ,fun b hb=>(hf b hb).1⟩⟩
 done:=by
  intro X hP hw hK hc i pins s σ H E I hf st hg;subst hP hw hK;obtain⟨xs,hq,hx⟩:=hg;obtain⟨its,rv,p,hz⟩:=I.tuple hq;obtain⟨f0,f1,f2,f3,f4,f5⟩:=hf it (by simp);have hl:=rv.length;exact wpAny_pyNext_tuple_end (I.ok.hd hc) st (show s.heap.IsTuple a its.toArray from p) (by simp;omega) fun h' eb=>⟨rfl,I.turned (t':=s.toks) (fun b o hb e=>eb b o hb e) f0 f1 f3 f4 f5⟩
 self:=fun _ _ _ _ _ st h=>wpAny_pyIter_tupleiter st h
theorem MK{P:Program}{w:World}{K:PySem.W.Frag}{tg:Expr}(it:Addr)(lo:Int)(n:Nat):Turn P w K tg (yO lo n) [it] it (fun i h=>IsRangeIter h it (lo+(i:Nat)*1) ((n:Int)-(i:Nat)) 1) where
 mem:=by simp
 obj:=fun i h st b hb=>by
  have e:b=it:=by simpa using hb
  subst e
  exact⟨_,st,fun v z=>by
   have z':Data.fields _=Data.cell v:=z;cases z'⟩
 keep:=fun i h h' st k=>k it (by simp) _ st
 item:=by
  intro X hP hw hK hc i pins s σ H E I hf st hg;subst hP hw hK;obtain⟨f0,f1,f2,f3,f4,f5⟩:=hf it (by simp);have W:=Walks.range (prog:=X.prog) (w:=X.w) (I.ok.hd hc) it lo 1 n;refine W.item i s _ _ hg st fun v h' tk hv dZ kk=>?_
  obtain⟨t,rfl⟩:=hv;have I1:Inv X pins σ H { s with heap:=h',toks:=tk }:=I.turned (fun b o hb e=>kk b o (by simpa using hb) e) f0 f1 f3 f4 f5;refine⟨_,rfl,qv (s:={ s with heap:=h',toks:=tk }) (n:="range_iterator") dZ rfl rfl (by decide) ⟨.int (lo+i),H,I1,⟨t,?_⟩,⟨rfl,rfl⟩,dZ,fun b hb=>(hf b hb).1⟩⟩;rw[Int.mul_one]
 done:=by
  intro X hP hw hK hc i pins s σ H E I hf st hg;subst hP hw hK;obtain⟨f0,f1,f2,f3,f4,f5⟩:=hf it (by simp);exact wpAny_pyNext_range_end (I.ok.hd hc) st (by have:n<=i:=hg;omega) fun h' eb=>⟨rfl,I.turned (t':=s.toks) (fun b o hb e=>eb b o hb e) f0 f1 f3 f4 f5⟩
 self:=fun _ _ _ _ _ st h=>wpAny_pyIter_rangeiter st h
end L2
namespace L2
open PySem PySem.Spec PyProof.Rows
section
variable {X:Cx} {tg:Expr}
def HX(K:PySem.W.Frag)(tl:TE):TI:=fun σ H R=>tl σ H fun x H1=>∃a,x=.ref a/\(∃xs,dP K H1 a xs)/\R (yP K a) H1
theorem KG{l:Expr}{tl:TE}(hl:PE X l tl):PI X tg l (HX X.K tl):=by
 intro pins s σ H R I h;refine cA (hl pins s σ H _ I h) fun v s1 bW=>?_
 obtain⟨x,H1,I1,r1,q1⟩:=bW;obtain⟨a,e,⟨xs,hq⟩,q⟩:=q1;subst e;cases r1;obtain⟨its,rv,p,hz⟩:=I1.list hq;refine wpAny_pyIter_list p.isList ?_;refine⟨s1.heap.objs.size,[s1.heap.objs.size],_,_,H1,rfl,I1.kept (t':=s1.toks) fun b o e=>aj _ e,FR a _,⟨_,az _ rfl,rfl,rfl⟩,fun b hb=>?_,q⟩;have e:b=s1.heap.objs.size:=by simpa using hb
 subst e;exact I1.hZ (ay _) (I1.cB.fresh (ay _))
theorem LO{pins:List (Addr×Obj)}{σ:St}{H:Hp}{s:Shared}{R:It->Hp->Prop}{E:Value->Shared->Prop}{lo hi:Int}{t u v:Tok}{tk:Nat}(I:Inv X pins σ H s)(h1:-(2 ^ 62)<=lo)(h2:lo<2 ^ 62)(h3:-(2 ^ 62)<=hi)(h4:hi<2 ^ 62)
  (q:R (yO lo (hi-lo).toNat) H):wpAny (model X.prog X.w) X.A (pyIter (.ref s.heap.objs.size)) (wN X pins σ tg R) E { s with heap:=s.heap.push { cls:=.type "range",data:=.fields #[.int lo t,.int hi u,.int 1 v] },toks:=tk }:=by
 refine wpAny_pyIter_range (IsRange.new ..) (small_one h1 h2 h3 h4) ?_;have I1:Inv X pins σ H { s with heap:=s.heap.push { cls:=.type "range",data:=.fields #[.int lo t,.int hi u,.int 1 v] },toks:=tk }:=I.kept fun b o e=>aj _ e
 refine⟨(s.heap.push { cls:=.type "range",data:=.fields #[.int lo t,.int hi u,.int 1 v] }).objs.size,[(s.heap.push { cls:=.type "range",data:=.fields #[.int lo t,.int hi u,.int 1 v] }).objs.size],_,_,H,rfl,
  I1.kept (t':=tk) fun b o e=>aj _ e,MK _ lo (hi-lo).toNat,?_,fun b hb=>?_,q⟩
 ·have e1:lo+((0:Nat):Int)*1=lo:=by simp
  have e2:(((hi-lo).toNat:Nat):Int)-((0:Nat):Int)=Builtin.Range.rangeSize lo hi 1:=by rw[rangeSize_one];split<;>omega
  show IsRangeIter _ _ (lo+((0:Nat):Int)*1) ((((hi-lo).toNat:Nat):Int)-((0:Nat):Int)) 1;rw[e1,e2];exact az _ rfl
 ·have e:b=(s.heap.push { cls:=.type "range",data:=.fields #[.int lo t,.int hi u,.int 1 v] }).objs.size:=by simpa using hb
  subst e;exact I1.hZ (ay _) (I1.cB.fresh (ay _))
def HW(ta:TA):TI:=fun σ H R=>ta σ H fun vs H1=>∃j:Int,vs=[.int j]/\-(2 ^ 62)<=j/\j<2 ^ 62/\R (yO 0 j.toNat) H1
theorem M8{a:Expr}{ta:TA}{p pos:Pos}(hg:Gl X "range")(hm:X.mg "range"=none)(ha:PA X [a] ta)(hs:starEach [a] X.env=[(false,eval a X.env)]:=by rfl):PI X tg (.Call (.Name "range" p) [a] [] pos) (HW ta):=by
 intro pins s σ H R I h;refine Call_ (pJ I hg hm boot_range (PyProof.Rows.callWith_type1 (cA (ha pos pins s σ H _ I h) fun us s1 bW=>?_) hs rfl));obtain⟨vs,H1,I1,r1,q1⟩:=bW;obtain⟨j,e,q1,q2,q⟩:=q1;subst e;cases r1 with
 | cons r rr=>
  cases rr;obtain⟨t,rfl⟩:=r;exact call_range_1 (LO I1 (by omega) (by omega) q1 q2 (by simpa using q))
def HK(wi:TI)(g:TG)(tb:TS):TS:=fun D σ H=>wi σ H fun J H1=>∃W:Nat->Nat->St->Hp->Prop,(∃m,W 0 m σ H1)/\∀i m σ H,W i m σ H->
 (J.stop i H/\D.nx σ H)\/(J.go i H/\∃N:St->Hp->Prop,(∀cf H',N cf H'->∃m',m'<m/\W (i+1) m' cf H')/\∀x H',J.yh i H x H'->g x σ H' fun iw H2=>tb { D with nx:=N,ct:=N,bk:=D.nx } iw H2)
noncomputable def uq(fp:List Addr)(h:Heap):List (Addr×Obj):=fp.filterMap fun b=>(h.get? b).map fun o=>(b,o)
theorem yc{fp:List Addr}{h:Heap}{b:Addr}{o:Obj}(hb:b∈fp)(e:h.get? b=some o):(b,o)∈uq fp h:=List.mem_filterMap.mpr ⟨b,hb,by rw[e];rfl⟩
theorem M7{fp:List Addr}{h:Heap}{p:Addr×Obj}(hp:p∈uq fp h):p.1∈fp/\h.get? p.1=some p.2:=by
 obtain⟨b,hb,e⟩:=List.mem_filterMap.mp hp;cases q:h.get? b with
 | none=>rw[q] at e;cases e
 | some o=>
  rw[q] at e;have e':(b,o)=p:=aQ e;subst e';exact⟨hb,q⟩
theorem Inv.pinned{pins:List (Addr×Obj)}{σ:St}{H:Hp}{s:Shared}{fp:List Addr}(I:Inv X pins σ H s)(hf:∀b∈fp,g0 X pins H b)(ho:∀b∈fp,∃o,s.heap.get? b=some o/\∀v,o.data≠.cell v):Inv X (pins++uq fp s.heap) σ H s:=
 I.kT fun p hp=>(aD.mp hp).elim (fun z=>I.pin p (aT _ z)) fun z=>by
  obtain⟨hb,e⟩:=M7 z;obtain⟨f0,f1,f2,_⟩:=hf p.1 hb;obtain⟨o,e',d⟩:=ho p.1 hb;rw[e] at e';cases e';exact⟨e,f0,f1,f2,d⟩
theorem Inv.f6{pins pl:List (Addr×Obj)}{σ:St}{H:Hp}{s:Shared}(I:Inv X (pins++pl) σ H s):Inv X pins σ H s:=I.kT fun p hp=>I.pin p (aT _ (aY _ hp))
theorem DO{iter:Expr}{body:List Stmt}{wi:TI}{g:TG}{tb:TS}{pos:Pos}(hp:PassesOwn (model X.prog X.w) X.A X.env X.xe)(hc:X.calm=true)(hi:PI X tg iter wi)(hg:PG X tg g)(hb:lq X body tb)
  (hs:∀x,foldedSetIterable iter X.env x=pure x:=by intro _;rfl):PS X (.For tg iter body [] pos) (HK wi g tb):=by
 intro pins s σ H D I h;refine wpAny_For (cA (hi pins s σ H _ I h) fun v s1 h1=>cA h1 fun Bs s2 h2=>?_) hs;obtain⟨it,fp,tn,J,H2,e,I2,T,pV,f2,W,⟨m0,w0⟩,turn⟩:=h2;subst e
 -- A0 stays true of mW rf objects through mW loop
 have qL:∀{H':Hp},(∀b∈fp,H' b=none)->∀b∈fp,g0 X pins H' b:=fun hn b hb=>⟨hn b hb,(f2 b hb).2⟩
 refine codeAny_forLoop_any (fun n s'=>∃i cf H',Inv X pins cf H' s'/\tn i s'.heap/\(∀b∈fp,H' b=none)/\W i n cf H') ?_ m0 ⟨0,σ,H2,I2,pV,fun b hb=>(f2 b hb).1,w0⟩;rintro n s3 ⟨i,iX,H3,I3,Gf,GX,w3⟩;rcases turn i n iX H3 w3 with⟨stop,qn⟩ | ⟨go,N,hN,step⟩
 ·refine wpAny_passesOwn hp (cA (T.done X rfl rfl rfl hc i pins s3 iX H3 X.xe I3 (qL GX) Gf stop) fun r s4 bW=>?_);obtain⟨hr,I4⟩:=bW;subst hr;exact wpAny_execs_nil ⟨iX,H3,I4,qn⟩
 ·refine wpAny_passesOwn hp (cA (T.item X rfl rfl rfl hc i pins s3 iX H3 X.xe I3 (qL GX) Gf go) fun r s4 bW=>?_);obtain⟨u,hr,h4⟩:=bW;subst hr;refine wpAny_passesOwn hp (cA h4 fun _ s5 bW=>?_);obtain⟨x,H5,I5,r5,y5,A5,QV⟩:=bW;have Rf:=I5.pinned (qL QV) (T.obj _ _ A5);refine wpAny_passesOwn hp (cA (hg _ s5 iX H5 x u _ Rf r5 (step x H5 y5)) fun _ s6 bW=>?_);obtain⟨Hm,H6,I6,q6⟩:=bW;refine wpAny_passesOwn hp (cA (hb _ s6 Hm H6 _ I6 q6) fun f s7 q7=>?_);have again:∀{j5:St} {H7:Hp},Inv X (pins++uq fp s5.heap) j5 H7 s7->N j5 H7->∃m,m<n/\∃i cf H',Inv X pins cf H' s7/\tn i s7.heap/\(∀b∈fp,H' b=none)/\W i m cf H':=fun{j5 H7} I7 n7=>by
   obtain⟨m',hm,w7⟩:=hN j5 H7 n7;refine⟨m',hm,i+1,j5,H7,I7.f6,T.keep _ _ _ A5 fun b hb o e=>(I7.pin (b,o) (aT _ (aT _ (yc hb e)))).1,fun b hb=>?_,w7⟩;obtain⟨o,e,d⟩:=T.obj _ _ A5 b hb;exact(I7.pin (b,o) (aT _ (aT _ (yc hb e)))).2.1
  cases f with
  | next=>obtain⟨j5,H7,I7,n7⟩:=q7;exact again I7 n7
  | cont=>obtain⟨j5,H7,I7,n7⟩:=q7;exact again I7 n7
  | brk=>obtain⟨j5,H7,I7,q7⟩:=q7;exact⟨j5,H7,I7.f6,q7⟩
  | ret v=>obtain⟨x7,j5,H7,I7,r7,q7⟩:=q7;exact⟨x7,j5,H7,I7.f6,r7,q7⟩
end
end L2
namespace L2
open PySem PySem.Spec PyProof.Rows
noncomputable abbrev R2:=V->V->Hp->VK->Prop
def eW(X:Cx)(f:Value->Value->Sem Value)(r:R2):Prop:=
 ∀(pins:List (Addr×Obj)) (s:Shared) (σ:St) (H:Hp) (x y:V) (v u:Value) (Q:VK),Inv X pins σ H s->RelV x v->RelV y u->r x y H Q->
  wpAny (model X.prog X.w) X.A (f v u) (EP X pins σ Q) X.xe s
def CB(X:Cx)(f:Value->Sem Value)(r:V->Hp->VK->Prop):Prop:=
 ∀(pins:List (Addr×Obj)) (s:Shared) (σ:St) (H:Hp) (x:V) (v:Value) (Q:VK),Inv X pins σ H s->RelV x v->r x H Q->
  wpAny (model X.prog X.w) X.A (f v) (EP X pins σ Q) X.xe s
def dh(X:Cx)(f:Value)(r:List V->Hp->VK->Prop):Prop:=
 ∀(pins:List (Addr×Obj)) (s:Shared) (σ:St) (H:Hp) (xs:List V) (us:List Value) (Q:VK),Inv X pins σ H s->Vals xs us->r xs H Q->
  wpAny (model X.prog X.w) X.A (call f us) (EP X pins σ Q) X.xe s
def vn(r:R2)(ta tb:TE):TE:=fun σ H Q=>ta σ H fun x H1=>tb σ H1 fun y H2=>r x y H2 Q
def OQ(r:V->Hp->VK->Prop)(ta:TE):TE:=fun σ H Q=>ta σ H fun x H1=>r x H1 Q
def rI(C:Int->Int->Prop)(g:Int->Int->V):R2:=fun x y H Q=>∃i j,x=.int i/\y=.int j/\C i j/\Q (g i j) H
def lS(g:Int->Int->V):R2:=fun x y H Q=>∃i j,x=.int i/\y=.int j/\Q (g i j) H
def rU(g:Int->V):V->Hp->VK->Prop:=fun x H Q=>∃i,x=.int i/\Q (g i) H
section
variable {X:Cx} {a b c:Expr} {ta tb tc:TE} {pos:Pos}
theorem yR(ha:PE X a ta)(hb:PE X b tb){pins:List (Addr×Obj)}{s:Shared}{σ:St}{H:Hp}{R:V->V->Hp->Prop}(I:Inv X pins σ H s)
  (h:ta σ H fun x H1=>tb σ H1 fun y H2=>R x y H2) {Q:Value->Shared->Prop} {f:Value->Value->Sem Value}
  (hf:∀v u s2 x y H2,Inv X pins σ H2 s2->RelV x v->RelV y u->R x y H2->wpAny (model X.prog X.w) X.A (f v u) Q X.xe s2) :
  wpAny (model X.prog X.w) X.A (eval a X.env) (fun v bZ=>wpAny (model X.prog X.w) X.A (eval b X.env) (fun u fS=>wpAny (model X.prog X.w) X.A (f v u) Q X.xe fS) X.xe bZ) X.xe s:=by
 refine cA (ha pins s σ H _ I h) fun v s1 bW=>?_
 obtain⟨x,H1,I1,r1,q1⟩:=bW;refine cA (hb pins s1 σ H1 _ I1 q1) fun u s2 bW=>?_
 obtain⟨y,H2,I2,r2,q2⟩:=bW;exact hf v u s2 x y H2 I2 r1 r2 q2
theorem Dt{op:Operator}{r:R2}(ho:eW X (binaryOp op) r)(ha:PE X a ta)(hb:PE X b tb):PE X (.BinOp a op b pos) (vn r ta tb):=by
 intro pins s σ H Q I h;exact wpAny_BinOp (yR ha hb I h fun v u s2 x y H2 I2 rx ry q=>ho pins s2 σ H2 x y v u Q I2 rx ry q)
theorem HV{op:UnaryOp}{r:V->Hp->VK->Prop}(ho:CB X (unaryOp op) r)(ha:PE X a ta):PE X (.UnaryOp op a pos) (OQ r ta):=by
 intro pins s σ H Q I h;exact UnaryOp_ (cA (ha pins s σ H _ I h) fun v s1 bW=>by obtain⟨x,H1,I1,r1,q1⟩:=bW;exact ho pins s1 σ H1 x v Q I1 r1 q1)
theorem yq{f:Value->Value->Sem Value}{C:Int->Int->Prop}{g:Int->Int->Int}
  (rule:∀(i j:Int) (t u:Tok) (s:Shared) (Q:Value->Shared->Prop) (E:Value->Shared->Prop),C i j->Q (.int (g i j) s.toks) { s with toks:=s.toks+1 }->wpAny (model X.prog X.w) X.A (f (.int i t) (.int j u)) Q E s) :
  eW X f (rI C fun i j=>.int (g i j)):=by
 intro pins s σ H x y v u Q I rx ry h;obtain⟨i,j,rfl,rfl,hc,q⟩:=h;obtain⟨t,rfl⟩:=rx;obtain⟨t',rfl⟩:=ry;exact rule i j t t' s _ _ hc ⟨.int (g i j),H,I.tok _,⟨_,rfl⟩,q⟩
theorem C6{f:Value->Value->Sem Value}{g:Int->Int->Int}
  (rule:∀(i j:Int) (t u:Tok) (s:Shared) (Q:Value->Shared->Prop) (E:Value->Shared->Prop),Q (.int (g i j) s.toks) { s with toks:=s.toks+1 }->wpAny (model X.prog X.w) X.A (f (.int i t) (.int j u)) Q E s) :
  eW X f (lS fun i j=>.int (g i j)):=by
 intro pins s σ H x y v u Q I rx ry h;obtain⟨i,j,rfl,rfl,q⟩:=h;obtain⟨t,rfl⟩:=rx;obtain⟨t',rfl⟩:=ry;exact rule i j t t' s _ _ ⟨.int (g i j),H,I.tok _,⟨_,rfl⟩,q⟩
theorem xb{f:Value->Value->Sem Value}{g:Int->Int->Bool}
  (rule:∀(i j:Int) (t u:Tok) (s:Shared) (Q:Value->Shared->Prop) (E:Value->Shared->Prop),Q (.bool (g i j)) s->wpAny (model X.prog X.w) X.A (f (.int i t) (.int j u)) Q E s) :
  eW X f (lS fun i j=>.bl (g i j)):=by
 intro pins s σ H x y v u Q I rx ry h;obtain⟨i,j,rfl,rfl,q⟩:=h;obtain⟨t,rfl⟩:=rx;obtain⟨t',rfl⟩:=ry;exact rule i j t t' s _ _ ⟨.bl (g i j),H,I,rfl,q⟩
def kh(i j:Int):Prop:=0<j/\j<1073741824
def qu(i j:Int):Prop:=0<=j/\j<=1000000/\i.natAbs<2 ^ 64
def fA(i j:Int):Prop:=(-(2 ^ 64)<i/\i<2 ^ 64)\/(-(2 ^ 64)<j/\j<2 ^ 64)
theorem fA.ok{i j:Int}(h:fA i j):IntMulOk i j:=by
 rcases h with⟨h1,h2⟩ | ⟨h1,h2⟩
 ·exact .of_left (intBits_le_64 h1 h2)
 ·exact .of_right (intBits_le_64 h1 h2)
theorem qR:eW X (binaryOp .Add) (lS fun i j=>.int (i+j)):=C6 fun _ _ _ _ _ _ _ q=>add_int q
theorem Kg:eW X (binaryOp .Sub) (lS fun i j=>.int (i-j)):=C6 fun _ _ _ _ _ _ _ q=>sub_int q
theorem Kf:eW X (binaryOp .Mult) (rI fA fun i j=>.int (i*j)):=yq fun _ _ _ _ _ _ _ hc q=>mul_int q hc.ok
theorem KD:eW X (binaryOp .FloorDiv) (rI kh fun i j=>.int (i/j)):=yq fun i j _ _ _ _ _ hc q=>by
 have h1:(0:Int)<j:=hc.1;have h2:j<1073741824:=hc.2;exact floordiv_int (by omega) (by rw[Int.fdiv_eq_ediv_of_nonneg i (by omega)];exact q) (.inl (PyProof.noPylong_small (by omega)))
theorem Ke:eW X (binaryOp .Mod) (rI (fun _ j=>0<j) fun i j=>.int (i%j)):=yq fun i j _ _ _ _ _ hc q=>by
 have h1:(0:Int)<j:=hc;exact mod_int' (by omega) (by rw[Int.fmod_eq_emod_of_nonneg i (by omega)];exact q)
theorem Kd:eW X (binaryOp .Pow) (rI qu fun i j=>.int (i ^ j.toNat)):=yq fun _ _ _ _ _ _ _ hc q=>pow_int_small hc.1 hc.2.1 hc.2.2 q
theorem OM{f:Value->Sem Value}{g:Int->Int}
  (rule:∀(i:Int) (t:Tok) (s:Shared) (Q:Value->Shared->Prop) (E:Value->Shared->Prop),Q (.int (g i) s.toks) { s with toks:=s.toks+1 }->wpAny (model X.prog X.w) X.A (f (.int i t)) Q E s) :
  CB X f (rU fun i=>.int (g i)):=by
 intro pins s σ H x v Q I rx h;obtain⟨i,rfl,q⟩:=h;obtain⟨t,rfl⟩:=rx;exact rule i t s _ _ ⟨.int (g i),H,I.tok _,⟨_,rfl⟩,q⟩
theorem Kc:CB X (unaryOp .USub) (rU fun i=>.int (-i)):=OM fun _ _ _ _ _ q=>neg_int q
end
section
variable {X:Cx} {a b c:Expr} {ta tb tc:TE} {pos:Pos}
theorem DY{pins:List (Addr×Obj)}{σ:St}{H:Hp}{s:Shared}{Q:VK}{k k':Bool}(I:Inv X pins σ H s)(q:Q (.bl k) H)(e:k=k'):EP X pins σ Q (.bool k') s:=by
 subst e;exact⟨.bl k,H,I,rfl,q⟩
theorem y9:eW X (compareOp .Lt) (lS fun i j=>.bl (decide (i<j))):=xb fun _ _ _ _ _ _ _ q=>lt_int q
theorem Ds:eW X (compareOp .LtE) (lS fun i j=>.bl (decide (i<=j))):=xb fun _ _ _ _ _ _ _ q=>le_int q
theorem HU:eW X (compareOp .Gt) (lS fun i j=>.bl (decide (j<i))):=xb fun _ _ _ _ _ _ _ q=>gt_int q
theorem HS:eW X (compareOp .GtE) (lS fun i j=>.bl (decide (j<=i))):=xb fun _ _ _ _ _ _ _ q=>ge_int q
theorem lU:eW X (compareOp .In) (fun x y H Q=>∃i j,x=.str i/\y=.str j/\Q (.bl (!(Builtin.Str.occurrences j i 0 j.length 1).isEmpty)) H):=by
 intro pins s σ H x y v u Q I rx ry h;obtain⟨i,j,rfl,rfl,q⟩:=h;obtain⟨t,rfl⟩:=rx;obtain⟨t',rfl⟩:=ry;exact in_str (DY I q rfl)
theorem Kb:eW X (compareOp .Is) (fun x y H Q=>y=.non/\Q (.bl (decide (x=.non))) H):=by
 intro pins s σ H x y v u Q I rx ry h;obtain⟨rfl,q⟩:=h;cases ry;refine is_none_gen (DY I q ?_);cases x<;>first
  | (cases rx;rfl)
  | (obtain⟨t,rfl⟩:=rx;rfl)
theorem eW.or{f:Value->Value->Sem Value}{r r':R2}(h:eW X f r)(h':eW X f r'):eW X f (fun x y H Q=>r x y H Q\/r' x y H Q):=by
 intro pins s σ H x y v u Q I rx ry q;rcases q with q | q
 ·exact h pins s σ H x y v u Q I rx ry q
 ·exact h' pins s σ H x y v u Q I rx ry q
theorem DX(b:Expr){op:CmpOp}(h:op≠.In:=by decide)(h2:op≠.NotIn:=by decide):behindInMarks op b=false:=by
 have e1:(op==CmpOp.In)=false:=by cases op<;>first | rfl | exact absurd rfl h
 have e2:(op==CmpOp.NotIn)=false:=by cases op<;>first | rfl | exact absurd rfl h2
 cases b<;>simp[behindInMarks,e1,e2]
theorem KC{op:CmpOp}{r:R2}(ho:eW X (compareOp op) r)(ha:PE X a ta)(hb:PE X b tb)(hm:behindInMarks op b=false):PE X (.Compare a [op] [b] pos) (vn r ta tb):=by
 intro pins s σ H Q I h;exact wpAny_Compare1 (yR ha hb I h fun v u s2 x y H2 I2 rx ry q=>ho pins s2 σ H2 x y v u Q I2 rx ry q) hm
def y8(t:TE):TT:=fun σ H Q=>t σ H fun x H'=>∃k,x=.bl k/\Q k H'
theorem KA{op:CmpOp}{r:R2}(ho:eW X (compareOp op) r)(ha:PE X a ta)(hb:PE X b tb)(hm:behindInMarks op b=false):PT X (.Compare a [op] [b] pos) (y8 (vn r ta tb)):=by
 intro pins s σ H Q I h;refine wpAny_isTrue_Compare1 (cA (ha pins s σ H _ I h) fun v s1 bW=>?_) hm;obtain⟨x,H1,I1,r1,q1⟩:=bW;refine cA (hb pins s1 σ H1 _ I1 q1) fun u s2 bW=>?_
 obtain⟨y,H2,I2,r2,q2⟩:=bW;refine cA (ho pins s2 σ H2 x y v u _ I2 r1 r2 q2) fun c s3 bW=>?_
 obtain⟨z,H3,I3,r3,k,e,q3⟩:=bW;subst e;cases r3;exact bD ⟨H3,I3,q3⟩
def DW(r r':R2)(ta tb tc:TE):TE:=fun σ H Q=>ta σ H fun x H1=>tb σ H1 fun y H2=>r x y H2 fun z H3=>∃k,z=.bl k/\
 (if k=true then tc σ H3 fun w' H4=>r' y w' H4 Q else Q (.bl false) H3)
theorem LN{op qS:CmpOp}{r r':R2}(ho:eW X (compareOp op) r)(nq:eW X (compareOp qS) r')(ha:PE X a ta)(hb:PE X b tb)(hc:PE X c tc)
  (hm:lastMarks [op,qS] [b,c]=false:=by with_unfolding_all rfl):PT X (.Compare a [op,qS] [b,c] pos) (y8 (DW r r' ta tb tc)):=by
 intro pins s σ H Q I h;refine isTrue_chain (cA (ha pins s σ H _ I h) fun v s1 bW=>?_) hm;obtain⟨x,H1,I1,r1,q1⟩:=bW;refine test_link (cA (hb pins s1 σ H1 _ I1 q1) fun u s2 bW=>?_);obtain⟨y,H2,I2,r2,q2⟩:=bW;refine cA (ho pins s2 σ H2 x y v u _ I2 r1 r2 q2) fun d s3 bW=>?_
 obtain⟨z,H3,I3,r3,k,e,q3⟩:=bW;subst e;cases r3;refine bD ?_;cases k with
 | false=>
  obtain⟨k',e',q'⟩:=q3;cases e';exact ite_ff ⟨H3,I3,q'⟩
 | true=>
  refine ite_tt (test_last (cA (hc pins s3 σ H3 _ I3 q3) fun w' s4 bW=>?_));obtain⟨z',H4,I4,r4,q4⟩:=bW;refine cA (nq pins s4 σ H4 y z' u w' _ I4 r2 r4 q4) fun d' s5 bW=>?_
  obtain⟨z2,H5,I5,r5,k2,e2,q5⟩:=bW;subst e2;cases r5;exact bD ⟨H5,I5,q5⟩
theorem sk:(sizeLine:Nat)<2 ^ 63:=by rw[sizeLine_eq];decide
theorem ko:eW X (binaryOp .Add) (fun x y H Q=>∃i j,x=.str i/\y=.str j/\i.length+j.length<=sizeLine/\Q (.str (i++j)) H):=by
 intro pins s σ H x y v u Q I rx ry h;obtain⟨i,j,rfl,rfl,hz,q⟩:=h;obtain⟨t,rfl⟩:=rx;obtain⟨t',rfl⟩:=ry;exact add_str (fun t' tk=>⟨.str (i++j),H,I.tok _,⟨_,rfl⟩,q⟩) hz
theorem mi{x:V}{us:List Value}(r:Vals [x] us):∃u,us=[u]/\RelV x u:=by
 cases r with
 | cons r1 r2=>cases r2;exact⟨_,rfl,r1⟩
theorem uc{x y:V}{us:List Value}(r:Vals [x,y] us):∃u w',us=[u,w']/\RelV x u/\RelV y w':=by
 cases r with
 | cons r1 r2=>
  cases r2 with
  | cons r3 r4=>cases r4;exact⟨_,_,rfl,r1,r3⟩
theorem M6(hc:X.calm=true):dh X (.builtin "max") (fun xs H Q=>∃i j,xs=[.int i,.int j]/\Q (.int (if j>i then j else i)) H):=by
 intro pins s σ H xs us Q I r h;obtain⟨i,j,rfl,q⟩:=h;obtain⟨u,w',rfl,⟨t,rfl⟩,⟨t',rfl⟩⟩:=uc r;refine max_two_ints (I.ok.hd hc) fun h' tk k=>⟨_,H,I.kept k,?_,q⟩
 by_cases hj:j>i
 ·rw[if_pos hj,if_pos hj];exact⟨_,rfl⟩
 ·rw[if_neg hj,if_neg hj];exact⟨_,rfl⟩
theorem M5(hc:X.calm=true):dh X (.builtin "min") (fun xs H Q=>∃i j,xs=[.int i,.int j]/\Q (.int (if j<i then j else i)) H):=by
 intro pins s σ H xs us Q I r h;obtain⟨i,j,rfl,q⟩:=h;obtain⟨u,w',rfl,⟨t,rfl⟩,⟨t',rfl⟩⟩:=uc r;refine min_two_ints (I.ok.hd hc) fun h' tk k=>⟨_,H,I.kept k,?_,q⟩
 by_cases hj:j<i
 ·rw[if_pos hj,if_pos hj];exact⟨_,rfl⟩
 ·rw[if_neg hj,if_neg hj];exact⟨_,rfl⟩
end
end L2
namespace L2
open PySem PySem.Spec PyProof.Rows
theorem iI.some_of{v:V}{o:Option Value}(r:iI (some v) o):∃u,o=some u/\RelV v u:=by
 cases o with
 | none=>exact(show False from r).elim
 | some u=>exact⟨u,rfl,r⟩
structure Ri (K:PySem.W.Frag) (C:Addr):Prop where
 pg:PySem.W.plainGet K C Str.empty=true
 hd:PySem.W.hasDictIn K C=true
 po:PySem.W.plainOver K C=true
 sa:PySem.W.findIn K (.ref C) "__setattr__"=some (some (.builtin "object.__setattr__"))
def DV(K:PySem.W.Frag)(C:Addr)(f:Str):Prop:=PySem.W.findIn K (.ref C) f=some none
end L2
namespace L2
open PySem PySem.Spec PyProof.Rows
structure dQ (k:Nat) (A:Around):Prop where
 hd:A.handled=none
 dp:A.depth+3*k+5<recursionLimit
 un:A.units+16*k+200<cLine
theorem dQ.mono{j k:Nat}{A:Around}(r:dQ k A)(h:j<=k):dQ j A:=⟨r.hd,by have:=r.dp;omega,by have:=r.un;omega⟩
theorem dQ.deeper{k:Nat}{A:Around}(r:dQ (k+1) A)(env:Env):dQ k (A.deeper env):=
 ⟨r.hd,by have:=r.dp;show A.depth+1+3*k+5<_;omega,by have:=r.un;show A.units+3+16*k+200<_;omega⟩
theorem dQ.depth{k:Nat}{A:Around}(r:dQ k A):A.depth<recursionLimit:=by have:=r.dp;omega
theorem dQ.units{k:Nat}{A:Around}(r:dQ k A):A.units+64<cLine:=by have:=r.un;omega
noncomputable def C5:TA:=fun _ H Q=>Q [] H
noncomputable def Dr(ta:TE)(tr:TA):TA:=fun σ H Q=>ta σ H fun x H1=>tr σ H1 fun xs H2=>Q (x::xs) H2
section
variable {X:Cx} {e:Expr} {es:List Expr} {te:TE} {t:TA} {pos:Pos}
theorem mN:PA X [] C5:=fun _ _ _ _ H Q I h=>Calls.spliced_nil ⟨[],H,I,.nil,h⟩
theorem mP(ha:PE X e te)(hr:PA X es t)(hs:starEach (e::es) X.env=(false,eval e X.env)::starEach es X.env:=by rfl):PA X (e::es) (Dr te t):=by
 intro pos pins s σ H Q I h;rw[hs];show wpAny _ _ (spliced ((false,eval e X.env)::backTo pos (starEach es X.env))) _ _ s;refine Calls.spliced_cons (cA (ha pins s σ H _ I h) fun u s1 bW=>?_);obtain⟨x,H1,I1,r1,q1⟩:=bW;exact cA (hr pos pins s1 σ H1 _ I1 q1) fun us s2 bW=>by obtain⟨xs,H2,I2,r2,q2⟩:=bW;exact⟨x::xs,H2,I2,.cons r1 r2,q2⟩
def HJ(t:TA):TE:=fun σ H Q=>t σ H fun xs H1=>xs.length<=sizeLine/\∀p,H1 p=none->Q (.ref p) (upd H1 p (.tup xs))
def HI(t:TA):TE:=fun σ H Q=>t σ H fun xs H1=>xs.length<=sizeLine/\∀p,H1 p=none->Q (.ref p) (upd H1 p (.lst xs))
theorem Ka{x1}(h:PA X es t):PE X (.Tuple es x1 pos) (HJ t):=by
 intro pins s σ H Q I hq;refine wpAny_Tuple_spliced (cA (h pos pins s σ H _ I hq) fun us s1 ⟨xs,H1,I1,r,z,q⟩=>⟨by rw[<-r.length];exact z,?_⟩);have hf:H1 s1.heap.objs.size=none:=I1.cB.fresh (ay _);refine⟨.ref s1.heap.objs.size,upd H1 s1.heap.objs.size (.tup xs),I1.laid (t':=s1.toks) (fun b u e=>aj _ e) (ay _) ?_,rfl,q _ hf⟩;exact⟨z,us,r,⟨_,az _ rfl,rfl,_,rfl⟩⟩
theorem DU(h:PA X es t):PE X (.List es pos) (HI t):=by
 intro pins s σ H Q I hq;refine wpAny_List_spliced (cA (h pos pins s σ H _ I hq) fun us s1 ⟨xs,H1,I1,r,z,q⟩=>⟨by rw[<-r.length];exact z,?_⟩);have hf:H1 s1.heap.objs.size=none:=I1.cB.fresh (ay _);refine⟨.ref s1.heap.objs.size,upd H1 s1.heap.objs.size (.lst xs),I1.laid (t':=s1.toks) (fun b u e=>aj _ e) (ay _) ?_,rfl,q _ hf⟩;exact⟨z,us,0,r,az _ rfl⟩
end
noncomputable abbrev Sp:=List V->Hp->VK->XK->Prop
noncomputable abbrev pe:=List Env->Hp->Shared->XK->Value->Shared->Prop
structure pd (P:Program) (w:World) (K:PySem.W.Frag) (mg:Str->Option Value) (base:Heap) (A:Around) (outer:List Env) (s:Shared) (H:Hp):Prop where
 frames:A.frames=some outer
 mod:Mod K mg base
 bs:∀b o,base.get? b=some o->s.heap.get? b=some o/\H b=none
 rN:base.objs.size<=s.heap.objs.size
 hU:s.heap.FunFrames base outer
 tD:∀b∈nz outer,H b=none
 cB:gL P w H s.heap
 bare:AllBare s.gens
def CE(outer:List Env)(P:Program)(w:World)(H:Hp)(s:Shared)(Q:VK)(u:Value)(s':Shared):Prop:=
 ∃v H',s'.os=s.os/\AllBare s'.gens/\Un (nz outer) [] H H' s.heap s'.heap/\gL P w H' s'.heap/\RelV v u/\Q v H'
def CR(CX:pe)(outer:List Env)(P:Program)(w:World)(H:Hp)(s:Shared)(Q:VK)(E:XK)(r:Result)(s':Shared):Prop:=
 match r with
 | .ok (.ret u)=>CE outer P w H s Q u s'
 | .ok _=>False
 | .error e=>CX outer H s E e s'
structure h7 (P:Program) (w:World) (K:PySem.W.Frag) (mg:Str->Option Value) (base:Heap) (CX:pe) (k:Nat) (f:Addr) (fd:FuncData) (ps:List Str) (sp:Sp):Prop where
 len:∀vs H Q E,sp vs H Q E->vs.length=ps.length
 run:∀(A:Around) (outer:List Env) (s:Shared) (H:Hp) (args:Args) (us:List Value) (vs:List V) (Q:VK) (E:XK),dQ k A->pd P w K mg base A outer s H->BindsTo s fd args (ps.zip us)->Vals vs us->sp vs H Q E->
  codeAny (model P w) A (.call (.ref f) args) (CR CX outer P w H s Q E) s
section
variable {X:Cx} {pins:List (Addr×Obj)} {σ:St} {H:Hp} {s s':Shared}
theorem Inv.Cs(I:Inv X pins σ H s):pd X.prog X.w X.K X.mg X.base X.A X.stack s H:=
 ⟨I.ok.frames,I.ok.mod,I.bs,a9 I.ok.rN I.sz,I.stack,I.kQ,I.cB,I.bare⟩
theorem Inv.after{Q:VK}{u:Value}(I:Inv X pins σ H s)(h:CE X.stack X.prog X.w H s Q u s'):EP X pins σ Q u s':=by
 obtain⟨v,H',os,bare,un,cB,r,q⟩:=h;obtain⟨hh,g,d,t,Pg⟩:=s';obtain rfl:Pg=s.os:=os;exact⟨v,H',I.call (h':=hh) (g':=g) (d':=d) (t':=t) (ch:=[]) un cB bare (fun b z=>absurd z (by simp)),r,q⟩
end
def HR(sp:Sp)(ql:List V)(E:XK)(t:TA):TE:=fun σ H Q=>t σ H fun vs H1=>sp (vs++ql) H1 Q E
def Binds(K:PySem.W.Frag)(fd:FuncData)(ps:List Str)(ds:List Value):Prop:=
 ∀(s:Shared) (us:List Value),K.In s.heap->(us++ds).length=ps.length->BindsTo s fd ⟨us,[]⟩ (ps.zip (us++ds))
theorem Binds.all{K:PySem.W.Frag}{fd:FuncData}{ps:List Str}(h:∀us:List Value,us.length=ps.length->bindArgs fd ⟨us,[]⟩=pure (ps.zip us)):Binds K fd ps []:=fun s us _ hl=>by
 rw[aZ] at hl ⊢;exact .of_eq (h us hl)
def zH(CX:pe)(X:Cx)(E:XK):Prop:=∀(pins:List (Addr×Obj)) (σ:St) (H:Hp) (s:Shared) (e:Value) (s':Shared),Inv X pins σ H s->CX X.stack H s E e s'->X.xe e s'
section
variable {X:Cx} {CX:pe} {k:Nat} {f C:Addr} {fd:FuncData} {ps:List Str} {sp:Sp} {ql:List V} {ds:List Value} {E:XK} {x m:Str} {p pos apos:Pos} {e o:Expr} {es:List Expr} {ta:TE} {t:TA}
theorem IW{pins:List (Addr×Obj)}{σ:St}{H:Hp}{s:Shared}{Q:VK}{us:List Value}{vs:List V}(F:h7 X.prog X.w X.K X.mg X.base CX k f fd ps sp)(hr:dQ k X.A)(hb:Binds X.K fd ps ds)(hd:Vals ql ds)(hx:zH CX X E)
  (I:Inv X pins σ H s) (r:Vals vs us) (h:sp (vs++ql) H Q E):wpAny (model X.prog X.w) X.A (call (.ref f) us) (EP X pins σ Q) X.xe s:=by
 have r2:Vals (vs++ql) (us++ds):=r.append hd;have hl:(us++ds).length=ps.length:=by rw[<-r2.length];exact F.len _ _ _ _ h
 refine wpAny_call (codeAny_mono (F.run X.A X.stack s H ⟨us,[]⟩ (us++ds) (vs++ql) Q E hr I.Cs (hb s us I.lV hl) r2 h) fun r s' hq=>?_);cases r with
 | error e=>exact hx pins σ H s e s' I hq
 | ok fl=>
  cases fl with
  | ret u=>exact I.after hq
  | next=>exact False.elim hq
  | brk=>exact False.elim hq
  | cont=>exact False.elim hq
theorem Kz(F:h7 X.prog X.w X.K X.mg X.base CX k f fd ps sp)(hr:dQ k X.A)(hg:Gl X x)(hm:X.mg x=some (.ref f))(hk:PySem.W.keepIn X.K (.ref f)=true)(hb:Binds X.K fd ps ds)(hd:Vals ql ds)(hx:zH CX X E)
  (ha:PA X (e::es) t) (oY:(x==("__debug__":Str))=false:=by decide) (he:starEach (e::es) X.env=(false,eval e X.env)::starEach es X.env:=by rfl) (jU:(backTo pos (starEach es X.env)).any (·.1)=false:=by rfl) :
  PE X (.Call (.Name x p) (e::es) [] pos) (HR sp ql E t):=by
 intro pins s σ H Q I h;refine wpAny_Call_Name_kw (EF I hg hm ?_ oY);refine PySem.W.callWith_K (h₀:=X.base) I.ok.mod.Br hk (cA (ha pos pins s σ H _ I h) fun us s1 bW=>?_) he jU;obtain⟨vs,H1,I1,r,q⟩:=bW;refine⟨I1.lV,?_⟩;exact IW F hr hb hd hx I1 r q
end
structure bV (N P:List Str) (sc:Scope):Prop where
 kind:sc.kind=.function
 co:sc.isCoroutine=false
 gen:sc.isGenerator=false
 nd:N.Nodup
 pre:N.take P.length=P
 par:∀x∈P,sc.names.lookup x=some .local\/sc.names.lookup x=some .cell
 qT:∀y∈sc.names,y.2≠.free
theorem FQ{kindOf:Str->Option NameKind}{x:Str}:∀{binds:List (Str×Value)} {m:Str->Option Value},(∀v,(x,v)∉binds)->bindL kindOf binds m x=m x
 | [],_,_=>rfl
 | (n,v)::r,m,h=>by
  unfold bindL;rw[FQ fun w hw=>h w (au _ hw)];split
  ·have:x≠n:=by rintro rfl;exact h v aH
   simp[this]
  ·rfl
theorem FP{kindOf:Str->Option NameKind}{x:Str}:∀{binds:List (Str×Value)} {m:Str->Option Value},(∀v,(x,v)∉binds)->bindC kindOf binds m x=m x
 | [],_,_=>rfl
 | (n,v)::r,m,h=>by
  unfold bindC;rw[FP fun w hw=>h w (au _ hw)];split
  ·rfl
  ·have:x≠n:=by rintro rfl;exact h v aH
   simp[this]
theorem FO{kindOf:Str->Option NameKind}{x:Str}{v:Value}:∀{P:List Str} {vs:List Value} {i:Nat} {m:Str->Option Value},P.Nodup->P[i]?=some x->vs[i]?=some v->kindOf x=some .local->
  bindL kindOf (P.zip vs) m x=some v
 | [],_,_,_,_,h,_,_=>by simp at h
 | _::_,[],_,_,_,_,h,_=>by simp at h
 | p::P,w::vs,0,m,nd,h1,h2,hk=>by
  simp at h1 h2;subst h1;subst h2;show bindL kindOf ((p,w)::P.zip vs) m p=_;unfold bindL;rw[FQ fun v hv=>(aS.mp nd).1 (List.of_mem_zip hv).1,if_pos hk];simp
 | p::P,w::vs,i+1,m,nd,h1,h2,hk=>by
  show bindL kindOf ((p,w)::P.zip vs) m x=_;unfold bindL;exact FO (i:=i) (aS.mp nd).2 (by simpa using h1) (by simpa using h2) hk
theorem FE{kindOf:Str->Option NameKind}{x:Str}{v:Value}:∀{P:List Str} {vs:List Value} {i:Nat} {m:Str->Option Value},P.Nodup->P[i]?=some x->vs[i]?=some v->kindOf x≠some .local->
  bindC kindOf (P.zip vs) m x=some v
 | [],_,_,_,_,h,_,_=>by simp at h
 | _::_,[],_,_,_,_,h,_=>by simp at h
 | p::P,w::vs,0,m,nd,h1,h2,hk=>by
  simp at h1 h2;subst h1;subst h2;show bindC kindOf ((p,w)::P.zip vs) m p=_;unfold bindC;rw[FP fun v hv=>(aS.mp nd).1 (List.of_mem_zip hv).1,if_neg hk];simp
 | p::P,w::vs,i+1,m,nd,h1,h2,hk=>by
  show bindC kindOf ((p,w)::P.zip vs) m x=_;unfold bindC;exact FE (i:=i) (aS.mp nd).2 (by simpa using h1) (by simpa using h2) hk
noncomputable def start(N:List Str)(vs:List V):St:=vs.map some++List.replicate (N.length-vs.length) none
noncomputable def nJ(CX:pe)(P:Program)(w:World)(K:PySem.W.Frag)(mg:Str->Option Value)(base:Heap)(N:List Str)(qual:Str)(scope:Scope)(f:Addr)(cd:Value)(A:Around)(outer:List Env)(s:Shared)(H:Hp)(E:XK):Cx where
 prog:=P
 w:=w
 K:=K
 mg:=mg
 base:=base
 A:=A.deeper (envOfC qual scope s.heap.objs.size f cd)
 N:=N
 dy:=s
 nC:=H
 env:=envOfC qual scope s.heap.objs.size f cd
 outer:=outer
 stack:=envOfC qual scope s.heap.objs.size f cd::outer
 ex:=[]
 calm:=true
 fn:=fun _=>true
 pn:=[]
 xe:=fun e s'=>wpAny (model P w) (A.deeper (envOfC qual scope s.heap.objs.size f cd)) (leaving (envOfC qual scope s.heap.objs.size f cd) e) (fun _ A8=>CX outer H s E e A8) (fun e' A8=>CX outer H s E e' A8) s'
theorem EO{sc:Scope}{n:Nat}{x:Str}(h:sc.names.lookup x=some .cell):∃c,(cellsFrom n sc.names []).lookup x=some c:=by
 have q:=PySem.W.cellsFrom_some sc.names n [] (.inl h);exact Option.isSome_iff_exists.mp q
theorem M4{CX:pe}{P:Program}{w:World}{K:PySem.W.Frag}{mg:Str->Option Value}{base:Heap}{N ps:List Str}{qual:Str}{scope:Scope}{f:Addr}{cd:Value}{A:Around}{outer:List Env}{s s1:Shared}{H:Hp}{E:XK}{us:List Value}{vs:List V}
  (S:bV N ps scope) (hd:A.handled=none) (e0:pd P w K mg base A outer s H) (hl:vs.length=ps.length) (r:Vals vs us)
  (x:InCallC s s.heap.objs.size (bindL (envOfC qual scope s.heap.objs.size f cd).kindOf (ps.zip us) fun _=>none) (cellsFrom (s.heap.objs.size+1) scope.names []) (bindC (envOfC qual scope s.heap.objs.size f cd).kindOf (ps.zip us) fun _=>none) s1) :
  Inv (nJ CX P w K mg base N qual scope f cd A outer s H E) [] (start N vs) H s1:=by
 have jU:ps.length<=N.length:=by have:=congrArg List.length S.pre;rw[bH] at this;omega
 obtain⟨h1,tk,rfl,hk⟩:=x.done;have vF:∀b:Addr,b∉(nJ CX P w K mg base N qual scope f cd A outer s H E).ex:=fun b z=>absurd (show b∈([]:List Addr) from z) (by simp)
 refine⟨⟨e0.mod,S.kind,rfl,rfl,ay _,fun y z c h1 h2=>?_,fun y hy=>?_,fun y c _ h=>?_,fun _=>hd,Around.frames_deeper e0.frames,.inr ⟨rfl,rfl⟩,fun b z=>absurd z (vF b),e0.bs,e0.rN,fun b _ _=>vF b,fun b z=>absurd z (vF b),e0.hU,e0.tD⟩,
  rfl,e0.bare,Un.kept hk,⟨_,x.toInCall.ns,fun i y v h1 h2 h3=>?_⟩,fun y c h=>⟨_,x.cell y c h⟩,e0.cB.fresh (ay _),fun y c h=>?_,fun p hp=>absurd (show p∈([]:List (Addr×Obj)) from hp) (by simp),e0.cB.kept hk,?_⟩
 ·exact name_of_addr x.apart (PySem.mem_of_lookup h1) (PySem.mem_of_lookup h2)
 ·have hy:scope.names.lookup y=some .cell\/scope.names.lookup y=some .free:=hy;rcases hy with hy | hy
  ·exact EO hy
  ·exact absurd rfl (S.qT _ (PySem.mem_of_lookup hy))
 ·exact Nat.le_of_lt (x.above y c (PySem.mem_of_lookup h))
 ·have hi:i<vs.length:=by
   unfold start at h2;by_cases hi:i<vs.length
   ·exact hi
   ·rw[List.getElem?_append_right (by simpa using hi)] at h2;rw[List.getElem?_replicate] at h2;split at h2<;>cases h2
  have ha:vs[i]?=some v:=by
   unfold start at h2;rw[List.getElem?_append_left (by simpa using hi),ai] at h2;cases e:vs[i]? with
   | none=>rw[e] at h2;cases h2
   | some a=>rw[e] at h2;cases h2;rfl
  obtain⟨u,hu,rv⟩:=r.get ha;have hp:ps[i]?=some y:=by
   rw[<-S.pre,List.getElem?_take_of_lt (by omega)];exact h1
  have Gq:ps.Nodup:=by rw[<-S.pre];exact S.nd.sublist (List.take_sublist _ _)
  refine⟨u,rv,?_⟩;rcases S.par y (ax hp) with k | k
  ·exact .inl ⟨k,FO Gq hp hu k⟩
  ·obtain⟨c,e⟩:=EO (n:=s.heap.objs.size+1) k;refine .inr ⟨.inl k,c,e,?_⟩;have q:=x.cell y c e;rw[FE Gq hp hu (by show scope.names.lookup y≠_;rw[k];decide)] at q;exact q
 ·exact e0.cB.fresh (Nat.le_of_lt (x.above y c (PySem.mem_of_lookup h)))
 ·unfold start;show _=N.length;rw[aC,ae,List.length_replicate];omega
theorem HQ{CX:pe}{P:Program}{w:World}{K:PySem.W.Frag}{mg:Str->Option Value}{base:Heap}{k:Nat}{f:Addr}{name qual:Str}{params:Arguments}{body:List Stmt}{scope:Scope}{dV kV doc pm cG ct oc:Value}{an od:Option Addr}
  {m7:Array (Option Value)} {N ps:List Str} {sp:Sp} (lk:K.lookup f=some ⟨oc,od,.func (PySem.W.fnOf name qual params body scope dV kV doc pm an cG ct),m7⟩) (eB:PySem.W.codeIn K cG qual=true) (S:bV N ps scope)
  (len:∀vs H Q E,sp vs H Q E->vs.length=ps.length)
  (ny:∀(A:Around) (outer:List Env) (s:Shared) (H:Hp) (vs:List V) (Q:VK) (E:XK),dQ k (A.deeper (envOfC qual scope s.heap.objs.size f cG))->sp vs H Q E->
   ∃t,lq (nJ CX P w K mg base N qual scope f cG A outer s H E) body t/\t { nx:=fun _ H'=>Q .non H',rt:=Q } (start N vs) H) :
  h7 P w K mg base CX (k+1) f (PySem.W.fnOf name qual params body scope dV kV doc pm an cG ct) ps sp:=by
 refine⟨len,fun A outer s H args us vs Q E hr e0 hb r sW=>?_⟩;have hl:=len _ _ _ _ sW;have KX:K.In s.heap:=e0.mod.Br.keeps fun b o e=>(e0.bs b o e).1
 have lim:s.heap.NoLimit:=e0.mod.nolimit.keeps fun b o e=>(e0.bs b o e).1
 have k7:∀y∈ps.zip us,scope.names.lookup y.1=some .local\/(scope.names.lookup y.1=some .cell/\((cellsFrom (s.heap.objs.size+1) scope.names []).lookup y.1).isSome=true):=fun⟨n,v⟩ hy=>by
  rcases S.par n (List.of_mem_zip hy).1 with q | q
  ·exact .inl q
  ·exact .inr ⟨q,PySem.W.cellsFrom_some _ _ _ (.inl q)⟩
 refine codeAny_call_function hr.depth (KX _ _ lk) rfl S.co S.gen rfl (PySem.W.codeRec_of KX eB) (hb _ _ _ _ ?_);refine wpAny_newFunctionEnv_cells S.kind k7 fun env he s1 x=>?_
 subst he;refine⟨lim.keeps x.toInCall.keep,codeAny_func ?_⟩;obtain⟨t,ht,hq⟩:=ny A outer s H vs Q E (hr.deeper _) sW;have I:Inv (nJ CX P w K mg base N qual scope f cG A outer s H E) [] (start N vs) H s1:=M4 S hr.hd e0 hl r x;refine wpAny_mono (ht [] s1 (start N vs) H _ I hq) (fun fl s' hs=>?_) fun e s' hs=>hs
 have fin:∀{cf:St} {H':Hp} {v:V} {u:Value},Inv (nJ CX P w K mg base N qual scope f cG A outer s H E) [] cf H' s'->RelV v u->Q v H'->CE outer P w H s Q u s':=
  fun{cf H' v u} J rv q=>⟨v,H',J.os,J.bare,J.base,J.cB,rv,q⟩
 cases fl with
 | ret u=>
  obtain⟨v,cf,H',J,rv,q⟩:=hs;exact fin J rv q
 | next=>
  obtain⟨cf,H',J,q⟩:=hs;exact fin (v:=V.non) (u:=Value.none) J rfl q
 | brk=>
  obtain⟨_,_,_,q⟩:=hs;exact False.elim q
 | cont=>
  obtain⟨_,_,_,q⟩:=hs;exact False.elim q
end L2
namespace L2
open PySem PySem.Spec PyProof.Rows
section
variable {X:Cx} {x:Str} {p pos:Pos} {e:Expr} {es:List Expr} {t:TA} {id T:String} {r:List V->Hp->VK->Prop}
def A3(r:List V->Hp->VK->Prop)(t:TA):TE:=fun σ H Q=>t σ H fun vs H1=>r vs H1 Q
theorem xZ(hc:dh X (.builtin id) r)(hg:Gl X x)(hm:X.mg x=none)(hv:bootBuiltins x=some (.builtin id))(ha:PA X (e::es) t)(hn:x≠"__name__":=by decide)(oY:(x==("__debug__":Str))=false:=by decide)
  (he:starEach (e::es) X.env=(false,eval e X.env)::starEach es X.env:=by rfl) (jU:(backTo pos (starEach es X.env)).any (·.1)=false:=by rfl):PE X (.Call (.Name x p) (e::es) [] pos) (A3 r t):=by
 intro pins s σ H Q I h;refine wpAny_Call_Name_kw (pJ I hg hm hv ?_ hn oY);exact PyProof.Rows.callWith_builtin1 (cA (ha pos pins s σ H _ I h) fun us s1 bW=>by obtain⟨vs,H1,I1,r1,q1⟩:=bW;exact hc pins s1 σ H1 vs us Q I1 r1 q1) he jU
end
end L2
namespace HT
open PySem PyProof.Rows
noncomputable def lexLt:List Int->List Int->Bool
 | [],[]=>false
 | [],_::_=>true
 | _::_,[]=>false
 | x::xs,y::ys=>if x=y then lexLt xs ys else decide (x<y)
theorem MJ(x y:Int)(xs ys:List Int):lexLt (x::xs) (y::ys)=if x=y then lexLt xs ys else decide (x<y):=rfl
theorem NC:lexLt [] []=false:=rfl
theorem Oc(y:Int)(ys:List Int):lexLt [] (y::ys)=true:=rfl
theorem Ob(x:Int)(xs:List Int):lexLt (x::xs) []=false:=rfl
theorem LM(A:Around)(s:Shared)(a:Int)(t:Tok)(c:Int)(u:Tok):∃e,SeqAt.EqAt A s (.int a t) (.int c u) e/\(e=true↔a=c):=
 ⟨(a==c),SeqAt.EqAt.int_int a t c u,by simp⟩
theorem z3(A:Around)(s:Shared)(a:Int)(t:Tok)(c:Int)(u:Tok)(prog:Program)(w:World)(E:Value->Shared->Prop)(Q:Value->Shared->Prop)(h:Q (.bool (decide (a<c))) s) :
  wpAny (model prog w) A (richCompare .Lt (.int a t) (.int c u)) Q E s:=
 (PyProof.Rows.lt_int h:wpAny (model prog w) A (compareOp .Lt (.int a t) (.int c u)) Q E s)
section
open PySem.SeqAt
open PySem.AutoSeq1 (wpAny_loadPart')
open PySem.MeetsSeq PySem.MeetsSeq2 PySem.MeetsSeq3
theorem NB(l b:Addr)(items cg:Array Value)(n n2:Nat)(dd lg:Option Addr)(sl kR:Array (Option Value))(ns ms:List Int)(hi:IntsAre items.toList ns)(hj:IntsAre cg.toList ms) :
  Meets (Builtin.«tuple.__lt__» ⟨[.ref l,.ref b],[]⟩)
   (fun _ R s=>s.heap.get? l=some { cls:=.type "tuple",dict:=dd,data:=.seq items n,slots:=sl }/\s.heap.get? b=some { cls:=.type "tuple",dict:=lg,data:=.seq cg n2,slots:=kR }/\
    R (.ok (.ret (.bool (lexLt ns ms)))) s):=
 .of_wp fun prog w A R s h=>by
  obtain⟨hp,g,d,tk,os⟩:=s;obtain⟨hl,hb,h⟩:=h;have f2:=AutoSeq1.sub_tuple_tuple;have z1:items.size=ns.length:=by rw[<-hi.length];simp
  have z2:cg.size=ms.length:=by rw[<-hj.length];simp
  wp_walk using bj hl,bj hb,wpAny_forIn_list _ (fun gW b s'=>b.1=none/\s'=⟨hp,g,d,tk,os⟩/\∃(vs ws:List Value) (nW sR:List Int),gW=vs.zip ws/\
   IntsAre vs nW/\IntsAre ws sR/\nW.length+cg.size=sR.length+items.size/\R (.ok (.ret (.bool (lexLt nW sR)))) ⟨hp,g,d,tk,os⟩) _
  case turn=>
   rintro⟨y,x⟩ gW b s' ⟨iV,rfl,vs,ws,nW,sR,hz,BE,yv,hlen,hR⟩;cases BE with
   | nil=>rw[List.zip_nil_left] at hz;cases hz
   | cons a t BD=>
    cases yv with
    | nil=>rw[List.zip_nil_right] at hz;cases hz
    | cons c u BB=>
     rw[List.zip_cons_cons] at hz;injection hz with PL jT
     injection PL with hy hx
     subst hy hx;rw[MJ] at hR;simp only[aI] at hlen;obtain⟨e,he,v7⟩:=LM A.in1 ⟨hp,g,d,tk,os⟩ a t c u;refine aa (he prog w _ _ ?_);cases e with
     | true=>
      rw[if_pos (v7.mp rfl)] at hR;wp_walk
      exact⟨rfl,rfl,_,_,_,_,jT,BD,BB,by omega,hR⟩
     | false=>
      rw[if_neg (fun q=>absurd (v7.mpr q) aw)] at hR;have rh:=z3 A.in1 ⟨hp,g,d,tk,os⟩ a t c u prog w;wp_walk using rh
      exact⟨_,rfl,by simpa using hR⟩
  case fin=>
   rintro⟨b1,b2⟩ s' ⟨iV,rfl,vs,ws,nW,sR,hz,BE,yv,hlen,hR⟩;simp only at iV;subst iV;have hv:lexLt nW sR=decide (items.size<cg.size):=by
    cases BE with
    | nil=>
     cases yv with
     | nil=>
      simp only[List.length_nil] at hlen;rw[NC];exact(aF (by omega)).symm
     | cons c u hw=>
      simp only[List.length_nil,aI] at hlen;rw[Oc];exact(bA (by omega)).symm
    | cons a t hv=>
     cases yv with
     | nil=>
      simp only[List.length_nil,aI] at hlen;rw[Ob];exact(aF (by omega)).symm
     | cons c u hw=>
      rw[List.zip_cons_cons] at hz;cases hz
   rw[hv] at hR;wp_walk
   exact⟨_,rfl,by simpa[Builtin.Tuple.tupleCompareSizes] using hR⟩
  case h=>
   exact⟨rfl,rfl,items.toList,cg.toList,ns,ms,rfl,hi,hj,by omega,h⟩
end
section
variable {prog:Program} {w:World} {A:Around} {E:Value->Shared->Prop} {s:Shared}
theorem ku{l b:Addr}{items cg:Array Value}{ns ms:List Int}{Q:Value->Shared->Prop}(hl:IsTup s.heap l items)(hb:IsTup s.heap b cg)(hi:IntsAre items.toList ns)(hj:IntsAre cg.toList ms)
  (hu:A.units<cLine) (h:Q (.bool (lexLt ns ms)) s):wpAny (model prog w) A (compareOp .Lt (.ref l) (.ref b)) Q E s:=by
 obtain⟨⟨cls,dd,data,sl⟩,ho,hc,n,hd⟩:=id hl;obtain⟨⟨Q8,lg,data2,kR⟩,GC,GP,n2,hd2⟩:=id hb;simp only at hc hd GP hd2;subst hc hd GP hd2;exact richCompare_meets_room (op:=.Lt) ⟨_,ho,rfl⟩ ⟨_,GC,rfl⟩ PySem.F.slot_tuple_lt PySem.F.entry_tuple_lt (PySem.F.args_tuple_lt_2 _ _) (NB l b items cg n n2 dd lg sl kR ns ms hi hj)
  ⟨ho,GC,show Value.bool (lexLt ns ms)≠Value.notImplemented/\Q (.bool (lexLt ns ms)) s from⟨(fun x=>nomatch x),h⟩⟩ hu
noncomputable def cL(n d:Nat):Option Int->Nat
 | none=>d
 | some v=>if v<0 then(v+(n:Int)).toNat else min v.toNat n
theorem gE(n d:Nat)(hd:d<=n)(o:Option Int):cL n d o<=n:=by
 cases o with
 | none=>exact hd
 | some v=>
  show(if v<0 then(v+(n:Int)).toNat else min v.toNat n)<=n;by_cases hv:v<0
  ·rw[if_pos hv];omega
  ·rw[if_neg hv];exact Nat.min_le_right _ _
theorem je(v:Int)(n d:Nat):(if v<0 then max (v+(n:Int)) 0 else min v (n:Int))=((cL n d (some v):Nat):Int):=by
 show(if v<0 then max (v+(n:Int)) 0 else min v (n:Int))=(((if v<0 then(v+(n:Int)).toNat else min v.toNat n):Nat):Int)
 by_cases hv:v<0
 ·simp only[if_pos hv];omega
 ·simp only[if_neg hv];omega
theorem MI(lo hi:Option Int)(n:Nat):Builtin.Slice.sliceAdjust lo hi 1 (n:Int)=(((cL n 0 lo:Nat):Int),((cL n n hi:Nat):Int)):=by
 have h1:¬((1:Int)<0):=by omega
 unfold Builtin.Slice.sliceAdjust;simp only[h1,bp];refine Prod.ext ?_ ?_
 ·cases lo with
  | none=>rfl
  | some v=>exact je v n 0
 ·cases hi with
  | none=>rfl
  | some v=>exact je v n n
theorem MH(i j:Nat):Builtin.Slice.slicePlaces (i:Int) (j:Int) 1=j-i:=by
 unfold Builtin.Slice.slicePlaces;have h1:(1:Int)>0:=by omega
 simp only[h1,bE,Int.ediv_one];split<;>omega
theorem FV{v:Value}{o:Option Int}{Q:Option Int->Shared->Prop}(p:IsPart v o)(h:Q o s):wpAny (model prog w) A (Builtin.Slice.slicePartIndex v) Q E s:=by
 cases p with
 | none=>exact slicePart_none h
 | int i t=>exact slicePart_int h
theorem Oh{sl:Addr}{vl vu:Value}{lo hi:Option Int}{n:Nat}{Q:Int×Int×Nat->Shared->Prop}(hs:s.heap.IsSliceOf sl vl vu .none)(pl:IsPart vl lo)(pu:IsPart vu hi)
  (h:Q (((cL n 0 lo:Nat):Int),1,cL n n hi-cL n 0 lo) s):wpAny (model prog w) A (Builtin.Slice.sliceApplied (.ref sl) (pure (n:Int))) Q E s:=by
 obtain⟨os,vR,GO,mr⟩:=id hs;unfold Builtin.Slice.sliceApplied Builtin.Slice.sliceFields;refine aa (aa (wpAny_field vR mr (x:=vl) rfl (aa (wpAny_field vR mr (x:=vu) rfl (aa (wpAny_field vR mr (x:=.none) rfl (ah ?_)))))));refine aa (slicePart_none ?_);show wpAny _ _ (if ((1:Int)==0)=true then _ else _) _ _ s;rw[if_neg (by decide)];refine aa (FV pl (aa (FV pu (aa (ah ?_)))));show wpAny _ _ (match Builtin.Slice.sliceAdjust lo hi 1 (n:Int) with | (lo,hi)=>pure (lo,(1:Int),Builtin.Slice.slicePlaces lo hi 1)) _ _ s;rw[MI lo hi n];show wpAny _ _ (pure (((cL n 0 lo:Nat):Int),(1:Int),Builtin.Slice.slicePlaces ((cL n 0 lo:Nat):Int) ((cL n n hi:Nat):Int) 1)) _ _ s;rw[MH];exact ah h
theorem LK(xs:Array Value)(i k:Nat):((List.range k).filterMap fun(m:Nat)=>xs[((i:Int)+(m:Int)*1).toNat]?).toArray=((xs.toList.drop i).take k).toArray:=by
 have e:(fun(m:Nat)=>xs[((i:Int)+(m:Int)*1).toNat]?)=fun m=>xs[i+m]?:=by
  funext m
  have:((i:Int)+(m:Int)*1).toNat=i+m:=by omega
  rw[this]
 rw[e];have:=pick_run xs i k;rw[List.filterMap_map] at this;have e2:((fun x=>xs[x]?)∘fun x=>i+x)=fun m=>xs[i+m]?:=rfl
 rw[e2] at this;rw[this]
theorem gm{t sl:Addr}{items:Array Value}{vl vu:Value}{lo hi:Option Int}{Q:Value->Shared->Prop}(ht:IsTup s.heap t items)(hs:s.heap.IsSliceOf sl vl vu .none)(pl:IsPart vl lo)(pu:IsPart vu hi)
  (hw:¬(cL items.size 0 lo=0/\cL items.size items.size hi=items.size))
  (h:Q (.ref s.heap.objs.size) { s with heap:=s.heap.push { cls:=.type "tuple",data:=.seq ((items.toList.drop (cL items.size 0 lo)).take (cL items.size items.size hi-cL items.size 0 lo)).toArray } })
  (hsz:items.size<=sizeLine):wpAny (model prog w) A (getItem (.ref t) (.ref sl)) Q E s:=by
 have kY:sizeOk (.seq ((items.toList.drop (cL items.size 0 lo)).take (cL items.size items.size hi-cL items.size 0 lo)).toArray):=by
  show((items.toList.drop (cL items.size 0 lo)).take (cL items.size items.size hi-cL items.size 0 lo)).toArray.size<=sizeLine;rw[aq,bH,List.length_drop,aM];omega
 have hj:cL items.size items.size hi<=items.size:=gE _ _ (ay _) hi;obtain⟨os,vR,GO,mr⟩:=id hs;have QE:s.TypeIs (.ref sl) "slice":=⟨os,vR,GO⟩
 unfold getItem;try with_reducible refine br ?_
 first | refine aa (ah ?_) | skip
 refine aa (wpAny_sequenceKey ht.typeIs (by decide) ?_);refine aa (wpAny_callSpecial?_slot (name:=Str.ofString "__getitem__") ht.typeIs PyProof.Rows.slot_tuple_getitem
  (wpAny_call_entry PyProof.Rows.slot_tuple_getitem ht.typeIs entry_tuple_getitem ?_ (args_tuple_getitem _ _)))
 show wpAny _ _ (Builtin.Tuple.tupleItemsOf (.ref t) >>= _) _ _ s;refine aa (tupleItemsOf_ ht ?_);refine aa (wpAny_typeOf QE ?_);rw[if_pos (by decide)];refine aa (Oh hs pl pu ?_);have rj:¬((((cL items.size 0 lo:Nat):Int)==0&&(1:Int)==1&&(cL items.size items.size hi-cL items.size 0 lo)==items.size)=true):=by
  intro q;rw[Bool.and_eq_true,Bool.and_eq_true] at q;have q1:((cL items.size 0 lo:Nat):Int)=0:=eq_of_beq q.1.1;have q2:cL items.size items.size hi-cL items.size 0 lo=items.size:=eq_of_beq q.2;exact hw ⟨by omega,by omega⟩
 show wpAny _ _ (if (((cL items.size 0 lo:Nat):Int)==0&&(1:Int)==1&&(cL items.size items.size hi-cL items.size 0 lo)==items.size)=true then _ else _) _ _ s;rw[if_neg rj,LK];first
  | exact aa (m:=Builtin.Tuple.tupleExact _) (bc (ah ⟨_,rfl,ah h⟩) kY)
  | exact aa (m:=Builtin.Tuple.tupleExact _) (bc (aa (ah (ah ⟨_,rfl,ah h⟩))) kY)
  | exact aa (aa (m:=Builtin.Tuple.tupleExact _) (bc (ah (ah ⟨_,rfl,ah h⟩)) kY))
  | exact aa (aa (m:=Builtin.Tuple.tupleExact _) (bc (ah ⟨_,rfl,ah h⟩) kY))
end
end HT
namespace L2
open PySem PySem.Spec PyProof.Rows
noncomputable abbrev TO:=St->Hp->(Option Int->Hp->Prop)->Prop
def PO(X:Cx)(e:Option Expr)(t:TO):Prop:=
 ∀(pins:List (Addr×Obj)) (s:Shared) (σ:St) (H:Hp) (Q:Option Int->Hp->Prop),Inv X pins σ H s->t σ H Q->
  wpAny (model X.prog X.w) X.A (evalPart e X.env) (fun u s'=>∃o H',Inv X pins σ H' s'/\IsPart u o/\Q o H') X.xe s
noncomputable def Kx:TO:=fun _ H Q=>Q none H
noncomputable def HP(t:TE):TO:=fun σ H Q=>t σ H fun x H1=>∃i,x=.int i/\Q (some i) H1
theorem uX{ns:List Int}:∀{us:List Value},Vals (ns.map V.int) us->IntsAre us ns:=by
 induction ns with
 | nil=>intro us r;rw[bG] at r;cases r;exact .nil
 | cons n ns ih=>
  intro us r;rw[ao] at r;cases r with
  | cons r1 r2=>
   obtain⟨t,e⟩:=r1;subst e;exact .cons n t (ih r2)
section
variable {X:Cx} {e:Expr} {te:TE} {lo hi:Option Expr} {tl th:TO} {pos p2:Pos}
theorem Kw:PO X none Kx:=by
 intro pins s σ H Q I h;rw[evalPart_none];exact ah ⟨none,H,I,.none,h⟩
theorem Kv(h:PE X e te):PO X (some e) (HP te):=by
 intro pins s σ H Q I hw;rw[evalPart_some];refine cA (h pins s σ H _ I hw) fun u s1 bW=>?_
 obtain⟨x,H1,I1,r1,q1⟩:=bW;obtain⟨i,rfl,q⟩:=q1;obtain⟨t,rfl⟩:=r1;exact⟨some i,H1,I1,.int i t,q⟩
def qo(X:Cx)(r:V->Option Int->Option Int->Hp->VK->Prop):Prop:=
 ∀(pins:List (Addr×Obj)) (s:Shared) (σ:St) (H:Hp) (x:V) (v vl vu:Value) (lo hi:Option Int) (sl:Addr) (Q:VK),Inv X pins σ H s->RelV x v->s.heap.IsSliceOf sl vl vu .none->IsPart vl lo->IsPart vu hi->r x lo hi H Q->
  ∃T id,typeLookup (.type T) "__getitem__"=pure (some (.builtin id))/\s.TypeIs v T/\wpAny (model X.prog X.w) X.A (getItem v (.ref sl)) (EP X pins σ Q) X.xe s
theorem qo.or{r r':V->Option Int->Option Int->Hp->VK->Prop}(h:qo X r)(h':qo X r'):qo X (fun x lo hi H Q=>r x lo hi H Q\/r' x lo hi H Q):=by
 intro pins s σ H x v vl vu lo hi sl Q I rx hs pl pu q;rcases q with q | q
 ·exact h pins s σ H x v vl vu lo hi sl Q I rx hs pl pu q
 ·exact h' pins s σ H x v vl vu lo hi sl Q I rx hs pl pu q
def OR(r:V->Option Int->Option Int->Hp->VK->Prop)(te:TE)(tl th:TO):TE:=fun σ H Q=>te σ H fun x H1=>tl σ H1 fun l H2=>th σ H2 fun u H3=>r x l u H3 Q
theorem LJ{r:V->Option Int->Option Int->Hp->VK->Prop}(hr:qo X r)(he:PE X e te)(hl:PO X lo tl)(hu:PO X hi th):PE X (.Subscript e (.Slice lo hi none p2) pos) (OR r te tl th):=by
 intro pins s σ H Q I h;refine Subscript_ (cA (he pins s σ H _ I h) fun v s1 bW=>?_);obtain⟨x,H1,I1,r1,q1⟩:=bW;refine wpAny_Slice (cA (hl pins s1 σ H1 _ I1 q1) fun vl s2 bW=>?_);obtain⟨l,H2,I2,pl,q2⟩:=bW;refine cA (hu pins s2 σ H2 _ I2 q2) fun vu s3 bW=>?_
 obtain⟨u,H3,I3,pu,q3⟩:=bW;rw[evalPart_none];refine ah ?_;have I4:Inv X pins σ H3 { s3 with heap:=s3.heap.push { cls:=.type "slice",data:=.fields #[vl,vu,.none] } }:=I3.kept (t':=s3.toks) fun b ob q=>aj _ q
 obtain⟨T,id,hT,ht,hg⟩:=hr pins { s3 with heap:=s3.heap.push { cls:=.type "slice",data:=.fields #[vl,vu,.none] } } σ H3 x v vl vu l u s3.heap.objs.size Q I4 r1 (Heap.IsSliceOf.new ..) pl pu q3;show wpAny (model X.prog X.w) X.A (subscriptTail e (.Slice lo hi none p2) v (.ref s3.heap.objs.size)) (EP X pins σ Q) X.xe { s3 with heap:=s3.heap.push { cls:=.type "slice",data:=.fields #[vl,vu,.none] } };exact tail_any (ops:=[.ref s3.heap.objs.size,v]) ht hT hg (by with_unfolding_all rfl)
noncomputable def nI(xs:List V)(lo hi:Option Int):List V:=(xs.drop (HT.cL xs.length 0 lo)).take (HT.cL xs.length xs.length hi-HT.cL xs.length 0 lo)
theorem F5(xs:List V)(lo hi:Option Int):(nI xs lo hi).length<=xs.length:=by
 unfold nI;rw[bH,List.length_drop];omega
def HH(K:PySem.W.Frag):V->Option Int->Option Int->Hp->VK->Prop:=fun x lo hi H Q=>∃a xs,x=.ref a/\dO K H a xs/\
 ¬(HT.cL xs.length 0 lo=0/\HT.cL xs.length xs.length hi=xs.length)/\∀p,H p=none->Q (.ref p) (upd H p (.tup (nI xs lo hi)))
theorem IV:qo X (HH X.K):=by
 intro pins s σ H x v vl vu lo hi sl Q I rx hs pl pu h;obtain⟨a,xs,rfl,hx,hw,q⟩:=h;cases rx;obtain⟨its,r,ht,hz⟩:=I.tuple hx;have hlen:its.toArray.size=xs.length:=by rw[aq];exact r.length.symm
 refine⟨"tuple",_,PyProof.Rows.slot_tuple_getitem.lookup,ht.typeIs,?_⟩;refine HT.gm ht hs pl pu (by rw[hlen];exact hw) ?_ (by rw[hlen];exact hz);rw[hlen];refine⟨.ref s.heap.objs.size,_,I.laid (t':=s.toks) (o:=.tup (nI xs lo hi)) (fun b ob q=>aj _ q) (ay _) ?_,rfl,q _ (I.cB.fresh (ay _))⟩;exact⟨a9 (F5 xs lo hi) hz,_,(r.drop (HT.cL xs.length 0 lo)).take (HT.cL xs.length xs.length hi-HT.cL xs.length 0 lo),IsTup.new _ _⟩
end
end L2
namespace L2
open PySem PySem.Spec PyProof.Rows
noncomputable def jR(n:Nat)(i:Int):Option Nat:=if 0<=i then(if i<n then some i.toNat else none) else if -(n:Int)<=i then some (i+n).toNat else none
noncomputable def cT{α:Type}(xs:List α)(i:Int):Option α:=(jR xs.length i).bind fun j=>xs[j]?
theorem EH{n:Nat}{i:Int}{j:Nat}(h:jR n i=some j):seqIndex? i n=some j/\j<n/\-(n:Int)<=i/\i<n:=by
 unfold jR at h;by_cases h0:0<=i
 ·rw[if_pos h0] at h;by_cases h1:i<n
  ·rw[if_pos h1] at h;have e:i.toNat=j:=aQ h;exact⟨by rw[seqIndex_of h0 h1,e],by omega,by omega,h1⟩
  ·rw[if_neg h1] at h;cases h
 ·rw[if_neg h0] at h;by_cases h1:-(n:Int)<=i
  ·rw[if_pos h1] at h;have e:(i+n).toNat=j:=aQ h;exact⟨by rw[seqIndex_neg (by omega) h1,e],by omega,h1,by omega⟩
  ·rw[if_neg h1] at h;cases h
theorem uy{α:Type}{xs:List α}{i:Int}{v:α}(h:cT xs i=some v):∃j,seqIndex? i xs.length=some j/\xs[j]?=some v/\j<xs.length/\-(xs.length:Int)<=i/\i<xs.length:=by
 unfold cT at h;cases e:jR xs.length i with
 | none=>rw[e] at h;cases h
 | some j=>
  rw[e] at h;obtain⟨h1,h2,h3,h4⟩:=EH e;exact⟨j,h1,h,h2,h3,h4⟩
def zO(b:Expr):Prop:=∀o i,subscripted b false o i=operate [o,i] (getItem o i)
def o9(X:Cx)(r:R2):Prop:=
 ∀(value slice:Expr) (pins:List (Addr×Obj)) (s:Shared) (σ:St) (H:Hp) (x y:V) (v u:Value) (Q:VK),Inv X pins σ H s->RelV x v->RelV y u->r x y H Q->
  subscripted slice false v u=operate [v,u] (getItem v u)->wpAny (model X.prog X.w) X.A (subscriptTail value slice v u) (EP X pins σ Q) X.xe s
def CC(X:Cx)(id:String)(r:V->List V->Hp->VK->Prop):Prop:=
 ∀(pins:List (Addr×Obj)) (s:Shared) (σ:St) (H:Hp) (x:V) (xs:List V) (v:Value) (us:List Value) (Q:VK),Inv X pins σ H s->RelV x v->Vals xs us->r x xs H Q->
  wpAny (model X.prog X.w) X.A (call (.builtin id) (v::us)) (EP X pins σ Q) X.xe s
section
variable {X:Cx} {a b:Expr} {ta tb:TE} {pos:Pos}
theorem o9.or{r r':R2}(h:o9 X r)(h':o9 X r'):o9 X (fun x y H Q=>r x y H Q\/r' x y H Q):=by
 intro value slice pins s σ H x y v u Q I rx ry q hs;rcases q with q | q
 ·exact h value slice pins s σ H x y v u Q I rx ry q hs
 ·exact h' value slice pins s σ H x y v u Q I rx ry q hs
theorem Dd{r:R2}(hr:o9 X r)(ha:PE X a ta)(hb:PE X b tb)(hs:zO b):PE X (.Subscript a b pos) (vn r ta tb):=by
 intro pins s σ H Q I h;exact Subscript_ (yR ha hb I h fun v u s2 x y H2 I2 rx ry q=>hr a b pins s2 σ H2 x y v u Q I2 rx ry q (hs _ _))
def C4(K:PySem.W.Frag):R2:=fun x y H Q=>∃p xs i v,x=.ref p/\y=.int i/\dP K H p xs/\cT xs i=some v/\Q v H
def C3(K:PySem.W.Frag):R2:=fun x y H Q=>∃p xs i v,x=.ref p/\y=.int i/\dO K H p xs/\cT xs i=some v/\Q v H
def C2:R2:=fun x y H Q=>∃z i c,x=.str z/\y=.int i/\z.length<=sizeLine/\cT z.cps.toList i=some c/\Q (.str ⟨#[c]⟩) H
theorem kW:o9 X (C4 X.K):=by
 intro value slice pins s σ H x y v u Q I rx ry h hs;obtain⟨p,xs,i,z,rfl,rfl,hq,he,q⟩:=h;cases rx;obtain⟨t,rfl⟩:=ry;obtain⟨its,r,pl,hz⟩:=I.list hq;obtain⟨j,h1,h2,h3,h4,h5⟩:=uy he;obtain⟨w,ew,ik⟩:=r.get h2;have hl:=r.length;have hn:=sk;have fin:EP X pins σ Q w s:=⟨z,H,I,ik,q⟩
 by_cases h0:0<=i
 ·have hj:i.toNat=j:=by
   rw[seqIndex_of h0 h5] at h1;exact aQ h1
  exact item_listR pl.isList h0 (by omega) (by rw[hj];simpa using ew) fin hs
 ·have hj:(i+(its.toArray.size:Int)).toNat=j:=by
   rw[seqIndex_neg (by omega) h4] at h1;rw[aq,<-hl];exact aQ h1
  exact subscriptTail_builtinR (x:=w) pl.isList.typeIs slot_list_getitem.lookup
   (wpAny_getItem_list_neg (Q:=fun r s'=>r=w/\EP X pins σ Q r s') pl.isList (by omega) (by rw[aq]<;>omega) (by omega) (by rw[hj];simpa using ew) ⟨rfl,fin⟩) hs
theorem qZ:o9 X (C3 X.K):=by
 intro value slice pins s σ H x y v u Q I rx ry h hs;obtain⟨p,xs,i,z,rfl,rfl,hq,he,q⟩:=h;cases rx;obtain⟨t,rfl⟩:=ry;obtain⟨its,r,pl,hz⟩:=I.tuple hq;obtain⟨j,h1,h2,h3,h4,h5⟩:=uy he;obtain⟨w,ew,ik⟩:=r.get h2;have hl:=r.length;have hn:=sk;have fin:EP X pins σ Q w s:=⟨z,H,I,ik,q⟩
 exact subscriptTail_builtinR (x:=w) pl.typeIs slot_tuple_getitem.lookup
  (getItem_tuple (j:=j) (Q:=fun r s'=>r=w/\EP X pins σ Q r s') pl (by omega) (by omega) (by rw[aq,<-hl];exact h1) (by simpa using ew) ⟨rfl,fin⟩) hs
theorem IU:o9 X C2:=by
 intro value slice pins s σ H x y v u Q I rx ry h hs;obtain⟨z,i,c,rfl,rfl,hz,he,q⟩:=h;obtain⟨t,rfl⟩:=rx;obtain⟨t',rfl⟩:=ry;obtain⟨j,h1,h2,h3,h4,h5⟩:=uy he;have hl:z.cps.toList.length=z.length:=by simp[Str.length]
 rw[hl] at h1 h4 h5;have hn:=sk
 exact tail_any (typeIs_str s z t) slot_str_getitem.lookup (getItem_str (c:=c) (by
  have e1:decide (i < -(2 ^ 63:Int))=false:=aF (by omega);have e2:decide (i>=2 ^ 63)=false:=aF (by omega)
  rw[e1,e2,Bool.or_false]) (by rw[h1];simpa using h2) ⟨.str ⟨#[c]⟩,H,I.tok _,⟨_,rfl⟩,q⟩) hs
def Gj(K:PySem.W.Frag):R2:=fun x y H Q=>C4 K x y H Q\/C3 K x y H Q\/C2 x y H Q
theorem IT:o9 X (Gj X.K):=kW.or (qZ.or IU)
theorem MG(its:List Value)(n j:Nat)(u:Value):Obj.mapSeq (·.setIfInBounds j u) { cls:=.type "list",data:=.seq its.toArray n }={ cls:=.type "list",data:=.seq (its.set j u).toArray n }:=by
 simp[Obj.mapSeq]
theorem Inv.lst{pins:List (Addr×Obj)}{σ:St}{H:Hp}{s:Shared}{p:Addr}{xs:List V}(I:Inv X pins σ H s)(h:H p=some (.lst xs)) :
  ∃(its:List Value) (n:Nat),Vals xs its/\s.heap.get? p=some { cls:=.type "list",data:=.seq its.toArray n }/\xs.length<=sizeLine:=by
 obtain⟨z,its,n,r,e⟩:=I.cB p _ h;exact⟨its,n,r,e,z⟩
theorem Inv.qV{pins:List (Addr×Obj)}{σ:St}{H:Hp}{s:Shared}{p:Addr}{xs ys:List V}{its its':List Value}{n n':Nat}{f:Obj->Obj}(I:Inv X pins σ H s)(h:H p=some (.lst xs))
  (ho:s.heap.get? p=some { cls:=.type "list",data:=.seq its.toArray n }) (hf:f { cls:=.type "list",data:=.seq its.toArray n }={ cls:=.type "list",data:=.seq its'.toArray n' }) (r:Vals ys its') (hz:ys.length<=sizeLine) (t:Nat) :
  Inv X pins σ (upd H p (.lst ys)) { s with heap:=s.heap.update p f,toks:=t }:=by
 have e:(s.heap.update p f).get? p=some { cls:=.type "list",data:=.seq its'.toArray n' }:=by
  rw[Heap.get?_update_self f ho (by rw[hf]<;>rfl),hf]
 refine I.write (x:=p) (e:=p) (by rw[h];trivial) (.inl rfl) (fun b u hb q=>(bF _ _ (Ne.symm hb)).trans q) ⟨_,e⟩ ?_;exact⟨hz,its',n',r,e⟩
def IA:V->V->V->Hp->(Hp->Prop)->Prop:=fun o i v H Q=>∃p xs k j,o=.ref p/\i=.int k/\H p=some (.lst xs)/\jR xs.length k=some j/\Q (upd H p (.lst (xs.set j v)))
theorem LI:C7 X IA:=by
 intro pins s σ H o i v ov iv u Q I ro ri rv h;obtain⟨p,xs,k,j,rfl,rfl,hp,hj,q⟩:=h;cases ro;obtain⟨t,rfl⟩:=ri;obtain⟨its,n,r,ho,hz⟩:=I.lst hp;obtain⟨h1,h2,h3,h4⟩:=EH hj;have hl:=r.length;have hn:=sk;have I':Inv X pins σ (upd H p (.lst (xs.set j v))) { s with heap:=s.heap.update p (Obj.mapSeq (·.setIfInBounds j u)) }:=
  I.qV hp ho (MG its n j u) (r.set rv j) (by rw[List.length_set];exact hz) s.toks
 by_cases h0:0<=k
 ·have hk:k.toNat=j:=by
   rw[seqIndex_of h0 h4] at h1;exact aQ h1
  exact PySem.W.ki_setAt ho h0 (by omega) (by rw[aq,<-hl];exact h4) (by rw[hk];exact⟨_,I',q⟩)
 ·have hk:(k+(its.toArray.size:Int)).toNat=j:=by
   rw[seqIndex_neg (by omega) h3] at h1;rw[aq,<-hl];exact aQ h1
  exact PySem.W.ki_setBack ho (by omega) (by rw[aq,<-hl];exact h3) (by omega) (by rw[hk];exact⟨_,I',q⟩)
theorem Ni(lo hi:Option Int)(n:Nat):(sliceBounds lo hi none n).1=((HT.cL n 0 lo:Nat):Int)/\(sliceBounds lo hi none n).2.1=((HT.cL n n hi:Nat):Int)/\(sliceBounds lo hi none n).2.2=1:=by
 refine⟨?_,?_,rfl⟩
 ·cases lo with
  | none=>simp[sliceBounds,HT.cL]
  | some i=>
   simp only[sliceBounds,HT.cL,Option.getD_none,show(1:Int)>0 by decide,bE];by_cases h:i<0
   ·simp only[h,bE]<;>omega
   ·simp only[h,bp]<;>omega
 ·cases hi with
  | none=>simp[sliceBounds,HT.cL]
  | some i=>
   simp only[sliceBounds,HT.cL,Option.getD_none,show(1:Int)>0 by decide,bE];by_cases h:i<0
   ·simp only[h,bE]<;>omega
   ·simp only[h,bp]<;>omega
theorem NA(its:List Value)(lo hi:Option Int):slicePick its.toArray lo hi none=((its.drop (HT.cL its.length 0 lo)).take (HT.cL its.length its.length hi-HT.cL its.length 0 lo)).toArray:=by
 obtain⟨h1,h2,h3⟩:=Ni lo hi its.toArray.size;unfold slicePick;rw[h1,h2,h3];simp only[sliceRange_one,pick_run,aq]<;>rfl
def HG(K:PySem.W.Frag):V->Option Int->Option Int->Hp->VK->Prop:=fun x lo hi H Q=>∃a xs,x=.ref a/\dP K H a xs/\∀p,H p=none->Q (.ref p) (upd H p (.lst (nI xs lo hi)))
theorem oD:qo X (HG X.K):=by
 intro pins s σ H x v vl vu lo hi sl Q I rx hs pl pu h;obtain⟨a,xs,rfl,hx,q⟩:=h;cases rx;obtain⟨its,r,ht,hz⟩:=I.list hx;have hlen:=r.length;refine⟨"list",_,slot_list_getitem.lookup,ht.isList.typeIs,?_⟩;refine wpAny_getItem_list_slice ht.isList hs pl pu .none (by simp) ?_ (by rw[aq]<;>omega);rw[NA,<-hlen];refine⟨.ref s.heap.objs.size,_,I.laid (t':=s.toks) (o:=.lst (nI xs lo hi)) (fun b ob q=>aj _ q) (ay _) ?_,rfl,q _ (I.cB.fresh (ay _))⟩;exact⟨a9 (F5 xs lo hi) hz,_,0,(r.drop (HT.cL xs.length 0 lo)).take (HT.cL xs.length xs.length hi-HT.cL xs.length 0 lo),az _ rfl⟩
noncomputable def xn:V->Bool
 | .non=>true
 | .bl _=>true
 | .int _=>true
 | .str _=>true
 | _=>false
noncomputable def Cq:V->V->Bool
 | .non,.non=>true
 | .bl a,.bl b=>a==b
 | .bl a,.int b=>(if a then 1 else 0)==b
 | .int a,.bl b=>a==(if b then 1 else 0)
 | .int a,.int b=>a==b
 | .str a,.str b=>a==b
 | _,_=>false
theorem DT{A:Around}{s:Shared}{y x:V}{u v:Value}(ry:RelV y u)(rx:RelV x v)(fy:xn y=true)(fx:xn x=true):SeqAt.EqAt A s u v (Cq y x):=by
 cases y with
 | non=>
  cases ry;cases x with
  | non=>cases rx;exact SeqAt.EqAt.same _
  | bl b=>cases rx;exact SeqAt.EqAt.none_bool b
  | int b=>obtain⟨t,rfl⟩:=rx;exact SeqAt.EqAt.none_int b t
  | str b=>obtain⟨t,rfl⟩:=rx;exact SeqAt.EqAt.none_str b t
  | _=>exact absurd (show false=true from fx) aw
 | bl a=>
  cases ry;cases x with
  | non=>cases rx;exact SeqAt.EqAt.bool_none a
  | bl b=>cases rx;exact SeqAt.EqAt.bool_bool a b
  | int b=>obtain⟨t,rfl⟩:=rx;exact SeqAt.EqAt.bool_int a b t
  | str b=>obtain⟨t,rfl⟩:=rx;exact SeqAt.EqAt.bool_str a b t
  | _=>exact absurd (show false=true from fx) aw
 | int a=>
  obtain⟨t',rfl⟩:=ry;cases x with
  | non=>cases rx;exact SeqAt.EqAt.int_none a t'
  | bl b=>cases rx;exact SeqAt.EqAt.int_bool a t' b
  | int b=>obtain⟨t,rfl⟩:=rx;exact SeqAt.EqAt.int_int a t' b t
  | str b=>obtain⟨t,rfl⟩:=rx;exact SeqAt.EqAt.int_str a t' b t
  | _=>exact absurd (show false=true from fx) aw
 | str a=>
  obtain⟨t',rfl⟩:=ry;cases x with
  | non=>cases rx;exact SeqAt.EqAt.str_none a t'
  | bl b=>cases rx;exact SeqAt.EqAt.str_bool a t' b
  | int b=>obtain⟨t,rfl⟩:=rx;exact SeqAt.EqAt.str_int a t' b t
  | str b=>obtain⟨t,rfl⟩:=rx;exact SeqAt.EqAt.str_str a t' b t
  | _=>exact absurd (show false=true from fx) aw
 | _=>exact absurd (show false=true from fy) aw
theorem ja:eW X (compareOp .NotIn) (fun x y H Q=>∃i j,x=.str i/\y=.str j/\Q (.bl (!(!(Builtin.Str.occurrences j i 0 j.length 1).isEmpty))) H):=by
 intro pins s σ H x y v u Q I rx ry h;obtain⟨i,j,rfl,rfl,q⟩:=h;obtain⟨t,rfl⟩:=rx;obtain⟨t',rfl⟩:=ry;exact notIn_str ⟨.bl _,H,I,rfl,q⟩
theorem gn:dh X (.builtin "len") (fun xs H Q=>∃p ys,xs=[.ref p]/\(dP X.K H p ys\/dO X.K H p ys)/\Q (.int ys.length) H):=by
 intro pins s σ H xs us Q I r h;obtain⟨p,ys,rfl,hq,q⟩:=h;obtain⟨u,rfl,rx⟩:=mi r;cases rx;have hn:=sk;rcases hq with hq | hq
 ·obtain⟨its,r',pl,hz⟩:=I.list hq;have hlen:=r'.length;exact Calls.call_len_list pl.isList (by simp only[aq]<;>omega) ⟨.int ys.length,H,I.tok _,⟨s.toks+1,by rw[aq,hlen]⟩,q⟩
 ·obtain⟨its,r',pl,hz⟩:=I.tuple hq;have hlen:=r'.length;exact len_tuple pl (by simp only[aq]<;>omega) ⟨.int ys.length,H,I.tok _,⟨s.toks+1,by rw[aq,hlen]⟩,q⟩
theorem Nh:dh X (.builtin "len") (fun xs H Q=>∃z,xs=[.str z]/\z.length<=sizeLine/\Q (.int z.length) H):=by
 intro pins s σ H xs us Q I r h;obtain⟨z,rfl,hz,q⟩:=h;obtain⟨u,rfl,t,rfl⟩:=mi r;have hn:=sk;exact len_str (by omega) ⟨.int z.length,H,I.tok _,⟨_,rfl⟩,q⟩
theorem dh.or{f:Value}{r r':List V->Hp->VK->Prop}(h:dh X f r)(h':dh X f r'):dh X f (fun xs H Q=>r xs H Q\/r' xs H Q):=by
 intro pins s σ H xs us Q I rs q;rcases q with q | q
 ·exact h pins s σ H xs us Q I rs q
 ·exact h' pins s σ H xs us Q I rs q
def vd(K:PySem.W.Frag)(T:String)(x:V)(H:Hp):Prop:=match x with
 | .str _=>T="str"
 | .int _=>T="int"
 | .ref p=>(T="list"/\∃xs,dP K H p xs)\/(T="tuple"/\∃o,K.lookup p=some o/\o.cls=.type "tuple"/\o.dict=none)\/
   (T="dict"/\((∃bL ep,H p=some (.dK bL ep))\/∃bL bs,H p=some (.dT bL bs)))\/(T="set"/\∃S n,H p=some (.set S n))
 | _=>False
theorem DS{pins:List (Addr×Obj)}{σ:St}{H:Hp}{s:Shared}{T:String}{x:V}{v:Value}(I:Inv X pins σ H s)(r:RelV x v)(ty:vd X.K T x H) :
  s.TypeIs v T/\∀a,v=.ref a->∃ob,s.heap.get? a=some ob/\ob.dict=none:=by
 cases x with
 | str z=>
  obtain⟨t,rfl⟩:=r;cases (show T="str" from ty);exact⟨typeIs_str s z t,fun _ e=>nomatch e⟩
 | int i=>
  obtain⟨t,rfl⟩:=r;cases (show T="int" from ty);exact⟨typeIs_int s i t,fun _ e=>nomatch e⟩
 | ref p=>
  cases r;rcases ty with⟨rfl,xs,hq⟩ | ⟨rfl,o,hk,hc,hd⟩ | ⟨rfl,hk⟩ | ⟨rfl,S,n,hk⟩
  ·obtain⟨its,_,pl,_⟩:=I.list hq;refine⟨pl.isList.typeIs,fun a e=>?_⟩;cases e;obtain⟨o,n,e,c,hd,_⟩:=pl;exact⟨o,e,hd⟩
  ·refine⟨⟨o,I.lV p o hk,hc⟩,fun a e=>?_⟩;cases e;exact⟨o,I.lV _ o hk,hd⟩
  ·have z:∃o,s.heap.get? p=some o/\o.ExactDict:=by
    rcases hk with⟨bL,ep,hk⟩ | ⟨bL,bs,hk⟩
    ·obtain⟨_,_,_,_,o,_,e,ex,_⟩:=I.cB p _ hk;exact⟨o,e,ex⟩
    ·obtain⟨_,_,_,_,_,o,_,_,e,ex,_⟩:=I.cB p _ hk;exact⟨o,e,ex⟩
   obtain⟨o,e,ex⟩:=z;refine⟨⟨o,e,ex.1⟩,fun a e2=>?_⟩;cases e2;exact⟨o,e,ex.2.1⟩
  ·obtain⟨o,_,_,_,e,ex,_⟩:=I.cB p _ hk;refine⟨⟨o,e,ex.1⟩,fun a e2=>?_⟩;cases e2;exact⟨o,e,ex.2.1⟩
 | _=>exact False.elim ty
def y2(K:PySem.W.Frag)(T:String)(r:V->List V->Hp->VK->Prop)(to:TE):TE:=fun σ H Q=>to σ H fun x H1=>vd K T x H1/\r x [] H1 Q
def sQ(K:PySem.W.Frag)(T:String)(r:V->List V->Hp->VK->Prop)(to:TE)(t:TA):TE:=fun σ H Q=>to σ H fun x H1=>vd K T x H1/\t σ H1 fun xs H2=>r x xs H2 Q
variable {o e:Expr} {es:List Expr} {to:TE} {t:TA} {name:Str} {apos de:Pos} {T id:String} {r:V->List V->Hp->VK->Prop}
theorem DR(pa:PlainAttrs T)(slot:Slot T name id)(vO:typeOf (.builtin id)=pure (.type "method_descriptor"))(hm:CC X id r)(ho:PE X o to)
  (gk:attributeBase o name X.env (eval o X.env)=eval o X.env:=by rfl) (gj:(apos.endLine==de.line)=true:=by rfl):PE X (.Call (.Attribute o name apos) [] [] de) (y2 X.K T r to):=by
 intro pins s σ H Q I h;refine wpAny_Call_method0_late gk gj (cA (ho pins s σ H _ I h) fun v s1 bW=>?_);obtain⟨x,H1,I1,r1,ty,q1⟩:=bW;obtain⟨h1,h2⟩:=DS I1 r1 ty;exact⟨T,id,pa,slot,vO,h1,h2,Calls.callWith_builtin rfl (PySem.evalArgs_none (hm pins s1 σ H1 x [] v [] Q I1 r1 .nil q1))⟩
theorem sf(pa:PlainAttrs T)(slot:Slot T name id)(vO:typeOf (.builtin id)=pure (.type "method_descriptor"))(hm:CC X id r)(ho:PE X o to)(ha:PA X (e::es) t)
  (gk:attributeBase o name X.env (eval o X.env)=eval o X.env:=by rfl)
  (oX:((backTo de (starEach (e::es) X.env)).all (fun x=>!x.1)&&(backToKw de (keywordEach [] X.env)).all (fun x=>x.1.isSome)
   && decide ((e::es).length+([]:List Keyword).length+(if ([]:List Keyword).isEmpty then 0 else 1)<30))=true:=by rfl)
  (gj:(apos.endLine==de.line)=true:=by rfl) (hs:starEach (e::es) X.env=(false,eval e X.env)::starEach es X.env:=by rfl) (kA:(backTo de (starEach es X.env)).any (·.1)=false:=by rfl) :
  PE X (.Call (.Attribute o name apos) (e::es) [] de) (sQ X.K T r to t):=by
 intro pins s σ H Q I h;refine wpAny_Call_method_late gk oX gj rfl (cA (ho pins s σ H _ I h) fun v s1 bW=>?_);obtain⟨x,H1,I1,r1,ty,q1⟩:=bW;obtain⟨h1,h2⟩:=DS I1 r1 ty;refine⟨T,id,pa,slot,vO,h1,h2,?_⟩;have hA:=ha de pins s1 σ H1 _ I1 q1;rw[hs] at hA ⊢;refine Calls.callWith_builtin (by show(false||(backTo de (starEach es X.env)).any (·.1))=false;rw[kA]<;>rfl) (Calls.evalArgs_plain ?_);exact cA hA fun us s2 bW=>by obtain⟨vs,H2,I2,r2,q2⟩:=bW;exact hm pins s2 σ H2 x vs v us Q I2 r1 r2 q2
end
end L2
namespace L2
open PySem PySem.Spec PyProof.Rows
def wQ(X:Cx)(id:String)(r:V->List V->Hp->VK->Prop):Prop:=
 ∀(pins:List (Addr×Obj)) (s:Shared) (σ:St) (H:Hp) (x:V) (xs:List V) (v:Value) (us:List Value) (Q:VK),Inv X pins σ H s->RelV x v->Vals xs us->r x xs H Q->
  wpAny (model X.prog X.w) X.A (call (.builtin id) (v::us)) (EP X pins σ Q) X.xe s
theorem Vals.one:∀{x:V} {us:List Value},Vals [x] us->∃u,us=[u]/\RelV x u
 | _,_,.cons r .nil=>⟨_,rfl,r⟩
theorem Vals.zero:∀{us:List Value},Vals [] us->us=[]
 | _,.nil=>rfl
theorem Vals.dropLast{xs:List V}{us:List Value}(h:Vals xs us):Vals xs.dropLast us.dropLast:=by
 induction h with
 | nil=>exact .nil
 | cons r t ih=>
  cases t with
  | nil=>exact .nil
  | cons q t'=>exact .cons r ih
theorem Vals.rep{xs:List V}{us:List Value}(h:Vals xs us):∀k:Nat,Vals (List.replicate k xs).flatten (List.replicate k us).flatten
 | 0=>.nil
 | k+1=>by
  rw[List.replicate_succ,List.replicate_succ,List.flatten_cons,List.flatten_cons];exact Vals.append h (Vals.rep h k)
theorem MF{α:Type}(l:List α):l.eraseIdx (l.length-1)=l.dropLast:=by
 induction l with
 | nil=>rfl
 | cons a r ih=>
  cases r with
  | nil=>rfl
  | cons b r=>
   have e:(a::b::r).length-1=((b::r).length-1)+1:=by
    have h1:(a::b::r).length=r.length+2:=rfl;have h2:(b::r).length=r.length+1:=rfl;omega
   rw[e,List.eraseIdx_cons_succ,ih];all_goals rfl
theorem FD(its:List Value):∀(k:Nat) (acc:List Value),
  List.foldl (fun x1 x2=>x1++x2) acc.toArray (List.replicate k its.toArray)=(acc++(List.replicate k its).flatten).toArray
 | 0,acc=>by simp
 | k+1,acc=>by
  have e:acc.toArray++its.toArray=(acc++its).toArray:=by simp
  have e2:(acc++its)++(List.replicate k its).flatten=acc++(List.replicate (k+1) its).flatten:=by
   rw[List.replicate_succ,List.flatten_cons,List.append_assoc]
  rw[<-e2,<-FD its k (acc++its),<-e,List.replicate_succ,List.foldl_cons]
section
variable {X:Cx} {pins:List (Addr×Obj)} {σ:St} {H:Hp} {s:Shared} {l b:Addr} {xs ys zs:List V}
theorem Inv.nj{its its':List Value}{n:Nat}{f:Array Value->Array Value}{t':Nat}(I:Inv X pins σ H s)(hH:H l=some (.lst xs))
  (e:s.heap.get? l=some { cls:=.type "list",data:=.seq its.toArray n }) (hf:f its.toArray=its'.toArray) (hv:Vals ys its') (hz:ys.length<=sizeLine) :
  Inv X pins σ (upd H l (.lst ys)) { s with heap:=s.heap.update l (Obj.mapSeq f),toks:=t' }:=by
 have q:=PySem.IsL.update e f;rw[hf] at q;refine I.write (x:=l) (e:=l) (by rw[hH];exact trivial) (.inl rfl) (fun b' u hb hu=>(bF s.heap (Obj.mapSeq f) (Ne.symm hb)).trans hu) ⟨_,q⟩ ?_;exact⟨hz,its',_,hv,q⟩
theorem Inv.oH{its:List Value}{t':Nat}(I:Inv X pins σ H s)(hv:Vals ys its)(hz:ys.length<=sizeLine) :
  Inv X pins σ (upd H s.heap.objs.size (.lst ys)) { s with heap:=s.heap.push { cls:=.type "list",data:=.seq its.toArray },toks:=t' }:=
 I.laid (fun _ _ q=>aj _ q) (ay _) ⟨hz,its,0,hv,az _ rfl⟩
theorem Inv.fresh(I:Inv X pins σ H s):H s.heap.objs.size=none:=I.cB.fresh (ay _)
theorem Inv.kx(I:Inv X pins σ H s)(hH:H l=some (.lst xs)):xs.length<=sizeLine/\∃(its:List Value) (n:Nat),Vals xs its/\xs.length=its.length/\s.heap.get? l=some { cls:=.type "list",data:=.seq its.toArray n }:=by
 obtain⟨z,its,n,r,e⟩:=I.cB l _ hH;exact⟨z,its,n,r,r.length,e⟩
theorem z0{n:Nat}(h:n<=sizeLine):Builtin.List.listTooLong n=false:=by
 unfold Builtin.List.listTooLong;exact aF (by omega)
end
section
variable {X:Cx}
def ux:V->List V->Hp->VK->Prop:=fun x vs H Q=>∃l xs y,x=.ref l/\vs=[y]/\H l=some (.lst xs)/\xs.length<sizeLine/\Q .non (upd H l (.lst (xs++[y])))
theorem ye:wQ X "list.append" ux:=by
 intro pins s σ H x vs v us Q I rx rv h;obtain⟨l,xs,y,rfl,rfl,hH,hz,q⟩:=h;cases rx;obtain⟨u,rfl,ru⟩:=rv.one;obtain⟨z,its,n,r,hl,e⟩:=I.kx hH;refine call_meets F.slot_list_append ⟨_,e,rfl⟩ F.entry_list_append (F.args_list_append_2 _ _) (PySem.list_append l its.toArray n u (by rw[aq];omega)) ⟨e,?_⟩;refine⟨.non,_,I.nj (its':=its++[u]) hH e (by simp) (r.append (.cons ru .nil)) ?_,rfl,q⟩;rw[aC,List.length_singleton];omega
def EG:V->List V->Hp->VK->Prop:=fun x vs H Q=>∃l b xs zs,x=.ref l/\vs=[.ref b]/\H l=some (.lst xs)/\H b=some (.lst zs)/\xs.length+zs.length<=sizeLine/\Q .non (upd H l (.lst (xs++zs)))
theorem M3:wQ X "list.extend" EG:=by
 intro pins s σ H x vs v us Q I rx rv h;obtain⟨l,b,xs,zs,rfl,rfl,hH,hB,hz,q⟩:=h;cases rx;obtain⟨u,rfl,ru⟩:=rv.one;cases ru;obtain⟨z,its,n,r,hl,e⟩:=I.kx hH;obtain⟨z2,gI,n2,r2,yC,e2⟩:=I.kx hB;have hsz:its.toArray.size+gI.toArray.size<=sizeLine:=by rw[aq,aq];omega
 have jV:¬(!its.toArray.isEmpty&&Builtin.List.listTooLong (its.toArray.size+gI.toArray.size))=true:=by
  rw[z0 hsz,Bool.and_false];exact aw
 refine call_meets F.slot_list_extend ⟨_,e,rfl⟩ F.entry_list_extend (F.args_list_extend_2 _ _)
  (AutoSeq1.list_extend_list_list_0 l its.toArray n b gI.toArray n2 jV (by rw[aq];omega) (by omega)) ⟨e,e2,?_⟩
 refine⟨.non,_,I.nj (its':=its++gI) hH e (by simp) (r.append r2) ?_,rfl,q⟩;rw[aC];omega
def C1:V->List V->Hp->VK->Prop:=fun x vs H Q=>∃l xs y,x=.ref l/\vs=[]/\H l=some (.lst xs)/\xs[xs.length-1]?=some y/\Q y (upd H l (.lst xs.dropLast))
theorem IS:wQ X "list.pop" C1:=by
 intro pins s σ H x vs v us Q I rx rv h;obtain⟨l,xs,y,rfl,rfl,hH,hy,q⟩:=h;cases rx;have BG:=rv.zero;subst BG;obtain⟨z,its,n,r,hl,e⟩:=I.kx hH;obtain⟨u,hu,ru⟩:=r.get hy;have PM:its.toArray[its.toArray.size-1]?=some u:=by
  show its.toArray[its.length-1]?=some u;rw[<-Array.getElem?_toList,<-hl];exact hu
 refine call_meets F.slot_list_pop ⟨_,e,rfl⟩ F.entry_list_pop (F.args_list_pop_1 _) (MeetsSeq.list_pop_last l its.toArray n u PM (by rw[aq];omega)) ⟨e,?_⟩;refine⟨y,_,I.nj (its':=its.dropLast) hH e ?_ r.dropLast ?_,ru,q⟩
 ·show its.toArray.eraseIdxIfInBounds (its.toArray.size-1)=its.dropLast.toArray;rw[aq,List.eraseIdxIfInBounds_toArray,MF]
 ·rw[List.length_dropLast];omega
def DQ:V->List V->Hp->VK->Prop:=fun x vs H Q=>∃l xs,x=.ref l/\vs=[]/\H l=some (.lst xs)/\Q .non (upd H l (.lst []))
theorem L6:wQ X "list.clear" DQ:=by
 intro pins s σ H x vs v us Q I rx rv h;obtain⟨l,xs,rfl,rfl,hH,q⟩:=h;cases rx;have BG:=rv.zero;subst BG;obtain⟨z,its,n,r,hl,e⟩:=I.kx hH;refine call_meets F.slot_list_clear ⟨_,e,rfl⟩ F.entry_list_clear (F.args_list_clear_1 _) (AutoSeq1.list_clear_list_0 l its.toArray n (by rw[aq];omega)) ⟨e,?_⟩;exact⟨.non,_,I.nj (its':=[]) (ys:=[]) hH e rfl .nil (aU _),rfl,q⟩
def HF:R2:=fun x y H Q=>∃l k xs,x=.ref l/\y=.int k/\H l=some (.lst xs)/\-(2 ^ 63)<=k/\k<2 ^ 63/\xs.length*k.toNat<=sizeLine/\
 ∀p,H p=none->Q (.ref p) (upd H p (.lst (List.replicate k.toNat xs).flatten))
theorem Ku{α:Type}(xs:List α)(k:Nat):(List.replicate k xs).flatten.length=k*xs.length:=by
 induction k with
 | zero=>simp
 | succ k ih=>rw[List.replicate_succ,List.flatten_cons,aC,ih,Nat.succ_mul,Nat.add_comm]
theorem IQ:eW X (binaryOp .Mult) HF:=by
 intro pins s σ H x y v u Q I rx ry h;obtain⟨l,k,xs,rfl,rfl,hH,h1,h2,hz,q⟩:=h;cases rx;obtain⟨t,rfl⟩:=ry;obtain⟨z,its,n,r,hl,e⟩:=I.kx hH;have hlen:its.toArray.size*k.toNat<=sizeLine:=by rw[aq,<-hl];exact hz
 have Cd:¬its.toArray.size*k.toNat>(2 ^ 63-1)/8:=by
  have:(sizeLine:Nat)<=(2 ^ 63-1)/8:=by decide
  omega
 have B7:¬(!Builtin.List.listFitsIndex k)=true:=by
  rw[fitsIndex_both h1 h2];exact aw
 have jV:¬Builtin.List.listTooLong (its.toArray.size*k.toNat)=true:=by
  rw[z0 hlen];exact aw
 have BR:List.foldl (fun x1 x2=>x1++x2) #[] (List.replicate (if its.toArray.isEmpty=true then 0 else k.toNat) its.toArray)=(List.replicate k.toNat its).flatten.toArray:=by
  have f0:∀m:Nat,List.foldl (fun x1 x2=>x1++x2) #[] (List.replicate m its.toArray)=(List.replicate m its).flatten.toArray:=fun m=>by
   have:=FD its m [];rw[List.nil_append] at this;exact this
  rw[f0];cases its with
  | nil=>simp
  | cons a r'=>rw[if_neg (by simp)]
 refine wpAny_binaryOp_repeat_ref (T:="list") (U:="int") (by decide) ⟨_,e,rfl⟩ (fun s'=>typeIs_int s' k t) noFill_list_mul F.fills_int_mul F.slot_int_rmul repeat_list F.slot_int_index.lookup
  (call_meets F.slot_int_rmul (typeIs_int s k t) F.entry_int_rmul (F.args_int_rmul_2 _ _) (int___rmul___int_list k t l its.toArray n)
   ⟨e,rfl,⟨_,e,rfl⟩,call_meets F.slot_list_mul ⟨_,e,rfl⟩ F.entry_list_mul (F.args_list_mul_2 _ _) (AutoListH.list___mul___list_int_3 l its.toArray n k t B7 Cd jV) ⟨e,?_⟩⟩)
 rw[BR];exact⟨.ref _,_,I.oH (t':=s.toks) (r.rep k.toNat) (by rw[Ku,Nat.mul_comm];exact hz),rfl,q _ I.fresh⟩
end
section
variable {prog:Program} {w:World} {A:Around} {E:Value->Shared->Prop} {s:Shared}
end
end L2
namespace Hl
open PySem PySem.W PySem.Calls PyProof.Rows
theorem Oq{P:Params}{h:Heap}:∀(ns:List Int) (vs:List Value),WellAll P h vs (ns.map WData.int)->IntsAre vs ns:=by
 intro ns;induction ns with
 | nil=>
  intro vs w;rw[bG] at w;cases w;exact .nil
 | cons n ns ih=>
  intro vs w;rw[ao] at w;cases w with
  | cons a b=>
   cases a;exact .cons _ _ (ih _ b)
theorem Mg{l:OpenLaw}{n:Nat}(hn:l.most=some n){P:Params}{h:Heap}{args:List WData}{vals:List Value}
  (oT:l.row.toRowW.claim.pre args=true) (BA:WellAll P h vals args) :
  ∃a vs ns,vals=[Value.ref a]/\args=[WData.list (ns.map WData.int)]/\h.get? a=some { cls:=.type "list",data:=.seq vs.toArray }/\IntsAre vs ns/\ns.length<=n:=by
 have P2:WShape.hasAll [] args [.list .int]=true:=(pre_splitW oT).1;have hc:l.pre.holds [] { args:=args }=true:=(pre_splitW oT).2;obtain⟨d,r,rfl,h1,h2⟩:=hasAllW_cons P2;obtain rfl:=hasAllW_nil h2;obtain⟨xs,rfl,h3⟩:=hasW_list h1;obtain⟨ns,rfl⟩:=items_int h3;have hlen:ns.length<=n:=by
  unfold OpenLaw.pre at hc;have h4:(WTm.not (.lt (.lit (.int (n:Int))) (.len (.arg 0)))).holds [] { args:=[.list (ns.map .int)] }=true:=by
   have h4:=(holds_andW hc).1;rw[hn] at h4;exact h4
  have h5:=condW_of h4 (w_not (w_lt w_lit (w_len_list (w_arg rfl))));rw[ae] at h5;refine Nat.le_of_not_lt fun q=>?_
  have q':(n:Int)<((ns.length:Nat):Int):=by omega
  first
   | (rw[bA q'] at h5;exact absurd h5 (by decide))
   | (simp at h5;omega)
 cases BA with
 | cons w1 w2=>
  cases w2;cases w1 with
  | list ho et=>exact⟨_,_,ns,rfl,rfl,ho,Oq ns _ et,hlen⟩
theorem Mf(l:OpenLaw)(args:List WData):l.row.toRowW.claim.post args (.bool true) args=true:=
 postW_of (r:=l.row.toRowW) (X:=(true==true))
  (show WShape.has [] (.bool true) .bool=true by first | rfl | decide | simp[WShape.has,WShape.arms,WShape.armsAll])
  (show(WTm.eq .res (.lit (.bool true))).value [] { args:=args,res:=some (.bool true),after:=args }=some (.bool (true==true)) from w_eq_bool (w_res rfl) w_lit) rfl
theorem jY{l:OpenLaw}{n:Nat}{q:Program}{loose:List Str}{XP:(Str->Option Value)->Heap->Prop}{YP:World->Heap->Prop}{d:DefRec}
  (hn:l.most=some n) (B9:d.params.defaults=[])
  (call:∀(w:World) (dy bZ:Shared) (mg mb:Str->Option Value) (fa:Addr) (o:Obj) (pm cd doc:Value) (a:Addr) (vs:List Value) (ns:List Int),
   Ground q loose [] XP w dy mg mb bZ.heap->YP w bZ.heap->
   bZ.heap.get? fa=some o->o.data=.func (docDef d.name d.params d.body d.scope pm cd doc)->bZ.heap.CodeRec cd d.name->mg d.name=some (.ref fa)->
   bZ.heap.get? a=some { cls:=.type "list",data:=.seq vs.toArray }->IntsAre vs ns->ns.length<=n->bZ.gens=#[]->
   codeAny (model l.prog w) callerA (.call (.ref fa) ⟨[.ref a],[]⟩) (fun r s'=>r=.ok (.ret (.bool true))/\OldK bZ.heap s'.heap/\s'.os=bZ.os/\AllBare s'.gens) bZ) :
  WalkO q loose XP YP l.row.toRowW d [] (fun f vs=>PySem.call f vs):=by
 intro w dy bZ mg mb G Y fa o pm cd doc dV kV ho hd eB hD oV hg args vals as oT Qk RF BA RJ;obtain rfl:dV=.none:=Dflts.none hD B9;obtain rfl:kV=.none:=Dflts.noKw hD;obtain⟨a,vs,ns,rfl,rfl,oU,hints,hlen⟩:=Mg hn oT BA;refine enter_call (codeAny_mono (call w dy bZ mg mb fa o pm cd doc a vs ns G Y ho (fd_plain hd) eB oV oU hints hlen hg) fun r s' hq=>?_);obtain⟨rfl,h2,h3,h4⟩:=hq;exact⟨.inl ⟨.bool true,.bool true,[],rfl,fun _=>rfl,.bool true,Mf l _,fun _=>⟨List.Pairwise.nil,fun _ hm=>(nomatch hm)⟩⟩,h2,h3,h4⟩
end Hl
namespace L2
open PySem PySem.Spec PyProof.Rows
theorem FC:∀{vs:List Value} {ns:List Int},IntsAre vs ns->Vals (ns.map V.int) vs
 | _,_,.nil=>.nil
 | _,_,.cons n t h=>.cons ⟨t,rfl⟩ (FC h)
def CZ(H:Hp):Prop:=∀b,H b=none\/∃o xs,H b=some (.iE o (.lst xs))
theorem L5{P:Program}{w:World}{K:PySem.W.Frag}{mg mb:Str->Option Value}{CX:pe}{k:Nat}{fa a:Addr}{fd:FuncData}{x:Str}{sp:Sp}{bZ:Shared}{vs:List Value}{ns:List Int}
  (KX:K.In bZ.heap) (k6:bZ.heap.Ns mainGlobals mg) (hb:bZ.heap.Ns builtinsNs mb) (yG:∀x:Str,x≠"__name__"->mb x=bootBuiltins x) (BV:bZ.heap.NoLimit) (hg:bZ.gens=#[])
  (ha:bZ.heap.get? a=some { cls:=.type "list",data:=.seq vs.toArray }) (hi:IntsAre vs ns) (hl:ns.length<=sizeLine) (hr:dQ k callerA)
  (F:∀base:Heap,K.In base->base.Ns mainGlobals mg->h7 P w K mg base CX k fa fd [x] sp) (wo:∀(s:Shared) (u:Value),BindsTo s fd ⟨[u],[]⟩ [(x,u)])
  (sW:∀H:Hp,CZ H->dP K H a (ns.map V.int)->sp [.ref a] H (fun v _=>v=.bl true) fun _ _ _=>False)
  (QK:∀H e s',CX [] H bZ (fun _ _ _=>False) e s'->False) :
  codeAny (model P w) callerA (.call (.ref fa) ⟨[.ref a],[]⟩) (fun r s'=>r=.ok (.ret (.bool true))/\OldK bZ.heap s'.heap/\s'.os=bZ.os/\AllBare s'.gens) bZ:=by
 have rv:=FC hi;have Bq:=hi.length
 -- from an abstract heap in Gb nothing but mW mZ may be tracked
 have core:∀H:Hp,CZ H->dP K H a (ns.map V.int)->gL P w H bZ.heap->(∀b,H b≠none->b=a)->(H a≠none->K.lookup a=none)->
   codeAny (model P w) callerA (.call (.ref fa) ⟨[.ref a],[]⟩) (fun r s'=>r=.ok (.ret (.bool true))/\OldK bZ.heap s'.heap/\s'.os=bZ.os/\AllBare s'.gens) bZ:=by
  intro H hO hS cB hA hK;have lh:∀{b:Addr} {o:Obj},bZ.heap.get? b=some o->H b=none->(oj bZ.heap H).get? b=some o:=fun e n=>LV e n
  have vF:∀{b:Addr} {o:Obj} {es:Array DictEntry} {ep:Nat},bZ.heap.get? b=some o->o.data=.dict es ep->H b=none:=fun{b o es ep} e d=>by
   cases q:H b with
   | none=>rfl
   | some u=>
    have e':b=a:=hA b (by rw[q];simp);subst e';rw[ha] at e;cases e;have d':Data.seq vs.toArray _=Data.dict es ep:=d;cases d'
  have yr:∀{b:Addr} {m:Str->Option Value},bZ.heap.Ns b m->(oj bZ.heap H).Ns b m:=fun{b m} ⟨o,es,ep,e,d,r⟩=>⟨o,es,ep,lh e (vF e d),d,r⟩
  have GU:K.In (oj bZ.heap H):=fun b o e=>lh (KX b o e) (by
   cases q:H b with
   | none=>rfl
   | some u=>
    have e':b=a:=hA b (by rw[q];simp);subst e'
    rw[hK (by rw[q];simp)] at e;cases e)
  have hM:Mod K mg (oj bZ.heap H):=⟨GU,yr k6,⟨mb,yr hb,yG⟩,let⟨mc,h1,h2⟩:=BV;⟨mc,yr h1,h2⟩⟩
  have e0:pd P w K mg (oj bZ.heap H) callerA [] bZ H:=⟨rfl,hM,fun b o e=>Kk e,Nat.le_of_eq (MM _ _),trivial,fun b hb=>absurd (show b∈([]:List Addr) from hb) (by simp),cB,.of_eq hg⟩
  refine codeAny_mono ((F _ GU (yr k6)).run callerA [] bZ H ⟨[.ref a],[]⟩ [.ref a] [.ref a] _ _ hr e0 (wo bZ (.ref a)) (.cons rfl .nil) (sW H hO hS)) fun r s' h=>?_
  cases r with
  | error e=>exact(QK H e s' h).elim
  | ok fl=>
   cases fl with
   | next=>exact False.elim h
   | brk=>exact False.elim h
   | cont=>exact False.elim h
   | ret u=>
    obtain⟨v,H',os,bare,un,BO,r',q⟩:=h;have q':v=.bl true:=q;subst q';obtain rfl:u=Value.bool true:=r';refine⟨rfl,OldK.of_keep fun b o e=>?_,os,bare⟩;cases q:H b with
    | none=>exact un.keep b o e q (by intro z;exact absurd (show b∈([]:List Addr) from z) (by simp)) (by simp)
    | some u=>
     rcases hO b with z | ⟨ob,xs,z⟩
     ·rw[q] at z;cases z
     ·have z2:=un.jc b ob _ z;obtain⟨e1,_⟩:=cB b _ z;obtain⟨e2,_⟩:=BO b _ z2;rw[e] at e1;cases e1;exact e2
 cases hk:K.lookup a with
 | some o=>
  -- mW mZ is one of mW vH own objects
  have e:=KX a o hk;rw[ha] at e;cases e;refine core (fun _=>none) (fun _=>.inl rfl) (.inr ⟨_,vs.toArray,_,hk,rfl,rfl,rfl,by rw[aq,Bq];exact hl,by simpa using rv⟩) (fun b u z=>by have z':(none:Option HO)=some u:=z;cases z') (fun b z=>absurd rfl z) fun z=>absurd rfl z
 | none=>
  refine core (fun b=>if b=a then some (.iE { cls:=.type "list",data:=.seq vs.toArray } (.lst (ns.map V.int))) else none) (fun b=>?_) (.inl (.inr ⟨{ cls:=.type "list",data:=.seq vs.toArray },if_pos rfl⟩)) (fun b u z=>?_) (fun b z=>?_) fun _=>hk
  ·by_cases hb:b=a
   ·exact .inr ⟨_,_,if_pos hb⟩
   ·exact .inl (if_neg hb)
  ·by_cases hb:b=a
   ·have z':=(if_pos hb).symm.trans z;cases z';subst hb;exact⟨ha,by rw[ae];exact hl,vs,_,rv,ha⟩
   ·have z':=(if_neg hb).symm.trans z;cases z'
  ·by_cases hb:b=a
   ·exact hb
   ·exact absurd (if_neg hb) z
end L2
namespace L2
open PySem PySem.Spec PyProof.Rows
noncomputable abbrev CF{K:PySem.W.Frag}{h:Heap}(_:K.In h):PySem.W.Frag:=K
end L2
namespace L2
open PySem PySem.Spec PyProof.Rows
noncomputable def eH(s:Stmt):Arguments:=match s with
 | .FunctionDef _ a _ _ _ _ _ _ _ _=>a
 | _=>{ posonlyargs:=[],args:=[],vararg:=none,kwonlyargs:=[],kw_defaults:=[],kwarg:=none,defaults:=[] }
noncomputable def cP(s:Stmt):List Stmt:=match s with
 | .FunctionDef _ _ b _ _ _ _ _ _ _=>b
 | _=>[]
noncomputable def bO(s:Stmt):Scope:=match s with
 | .FunctionDef _ _ _ _ _ _ sc _ _ _=>sc
 | _=>{ kind:=.function,names:=[],isGenerator:=false,isCoroutine:=false }
abbrev l9:pe:=fun _ _ _ _ _ _=>False
abbrev E0:XK:=fun _ _ _=>False
theorem Iz{X:Cx}:zH l9 X E0:=fun _ _ _ _ _ _ _ h=>h.elim
structure l8 (dV:Value) (K:PySem.W.Frag) (x qual:Str) (st:Stmt) (f:Addr) (fd:FuncData):Prop where
 ex:∃(oc:Value) (od:Option Addr) (kV doc pm:Value) (an:Option Addr) (cG ct:Value) (m7:Array (Option Value)),
  fd=PySem.W.fnOf x qual (eH st) (cP st) (bO st) dV kV doc pm an cG ct/\K.lookup f=some ⟨oc,od,.func fd,m7⟩/\PySem.W.codeIn K cG qual=true
 kp:PySem.W.keepIn K (.ref f)=true
noncomputable abbrev Hi:=l8 .none
section
variable {P:Program} {w:World} {K:PySem.W.Frag} {mg:Str->Option Value} {base:Heap}
theorem l8.ok{dV:Value}{x qual:Str}{st:Stmt}{f:Addr}{fd:FuncData}{N ps:List Str}{k:Nat}{sp:Sp}(F:l8 dV K x qual st f fd)(S:bV N ps (bO st))(len:∀vs H Q E,sp vs H Q E->vs.length=ps.length)
  (ny:∀(cG:Value) (A:Around) (outer:List Env) (s:Shared) (H:Hp) (vs:List V) (Q:VK) (E:XK),dQ k (A.deeper (envOfC qual (bO st) s.heap.objs.size f cG))->sp vs H Q E->
   ∃t,lq (nJ l9 P w K mg base N qual (bO st) f cG A outer s H E).pZ (cP st) t/\t { nx:=fun _ H'=>Q .non H',rt:=Q } (start N vs) H):h7 P w K mg base l9 (k+1) f fd ps sp:=by
 obtain⟨oc,od,kV,doc,pm,an,cG,ct,m7,rfl,lk,eB⟩:=F.ex;refine HQ lk eB S len fun A outer s H vs Q E hr sW=>?_
 obtain⟨t,h,q⟩:=ny cG A outer s H vs Q E hr sW;exact⟨t,h.pZ,q⟩
theorem l8.binds{x qual:Str}{st:Stmt}{f:Addr}{fd:FuncData}{ps:List Str}(F:Hi K x qual st f fd)
  (h:∀(kV doc pm:Value) (an:Option Addr) (cG ct:Value) (us:List Value),us.length=ps.length->bindArgs (PySem.W.fnOf x qual (eH st) (cP st) (bO st) .none kV doc pm an cG ct) ⟨us,[]⟩=pure (ps.zip us)):Binds K fd ps []:=by
 obtain⟨oc,od,kV,doc,pm,an,cG,ct,m7,rfl,lk,eB⟩:=F.ex;exact .all (h kV doc pm an cG ct)
theorem IP{x qual:Str}{st:Stmt}{f:Addr}{oc:Value}{od an:Option Addr}{m7:Array (Option Value)}{dV kV doc pm cG ct:Value}(l:K.lookup f=some ⟨oc,od,.func (PySem.W.fnOf x qual (eH st) (cP st) (bO st) dV kV doc pm an cG ct),m7⟩)
  (c:PySem.W.codeIn K cG qual=true) (k:PySem.W.keepIn K (.ref f)=true):l8 dV K x qual st f (PySem.W.fnOf x qual (eH st) (cP st) (bO st) dV kV doc pm an cG ct):=⟨⟨oc,od,kV,doc,pm,an,cG,ct,m7,rfl,l,c⟩,k⟩
end
section
variable {X:Cx}
theorem pv(i:Nat){x:Str}{pos:Pos}(hN:X.N[i]?=some x:=by rfl)(hv:jf X.env.scope x:=by first | exact Or.inl rfl | exact Or.inr (Or.inl rfl) | exact Or.inr (Or.inr rfl))(hd:(x==("__debug__":Str))=false:=by decide)
  (eB:(x==("__classdict__":Str))=false:=by decide):PE X (.Name x pos) (C8 i):=j8 hN hv hd eB
end
def bT(H H':Hp):Prop:=∀b o,H b=some o->H' b=some o
theorem bT.refl(H:Hp):bT H H:=fun _ _ h=>h
theorem bT.trans{H H1 H2:Hp}(a:bT H H1)(b:bT H1 H2):bT H H2:=fun c o h=>b c o (a c o h)
theorem bT.free{H H':Hp}(e:bT H H'){l:Addr}(h:H' l=Option.none):H l=Option.none:=by
 cases q:H l with
 | none=>rfl
 | some o=>
  rw[e l o q] at h;cases h
end L2
set_option maxHeartbeats 0
namespace L2
open PySem PySem.Spec PyProof.Rows
def iu(K:PySem.W.Frag)(H:Hp)(a:Addr)(xs:List V):Prop:=
 Rd H a (.lst xs)\/∃(its:Array Value) (n:Nat),K.lookup a=some { cls:=.type "list",data:=.seq its n }/\its.size<=sizeLine/\Vals xs its.toList
theorem iu.of{K:PySem.W.Frag}{H:Hp}{a:Addr}{xs:List V}(h:H a=some (.lst xs)):iu K H a xs:=.inl (.inl h)
theorem iu.sq{K:PySem.W.Frag}{H:Hp}{a:Addr}{xs:List V}(h:iu K H a xs):dP K H a xs:=by
 rcases h with h | ⟨its,n,h1,h2,h3⟩
 ·exact .inl h
 ·exact .inr ⟨_,its,n,h1,rfl,rfl,rfl,h2,h3⟩
theorem bT.ft{K:PySem.W.Frag}{H H':Hp}{a:Addr}{xs:List V}(e:bT H H')(h:iu K H a xs):iu K H' a xs:=by
 rcases h with(h | ⟨o,h⟩) | h
 ·exact .inl (.inl (e _ _ h))
 ·exact .inl (.inr ⟨o,e _ _ h⟩)
 ·exact .inr h
theorem Inv.ft{X:Cx}{pins:List (Addr×Obj)}{σ:St}{H:Hp}{s:Shared}{a:Addr}{xs:List V}(I:Inv X pins σ H s)(h:iu X.K H a xs):xs.length<=sizeLine/\∃(its:List Value) (n:Nat),Vals xs its/\s.heap.get? a=some { cls:=.type "list",data:=.seq its.toArray n }:=by
 rcases h with h | ⟨its,n,h1,h2,h3⟩
 ·obtain⟨z,its,n,r,e⟩:=h.ok I.cB;exact⟨z,its,n,r,e⟩
 ·refine⟨by rw[h3.length];simpa using h2,its.toList,n,h3,?_⟩;rw[Array.toArray_toList];exact I.lV a _ h1
noncomputable def jr(cells:List (Str×Addr)):List (Str×NameKind)->List (Str×Addr)->List (Str×Addr)
 | [],acc=>acc
 | (n,k)::r,acc=>jr cells r (if k==.free then(n,(cells.lookup n).getD 0)::acc else acc)
theorem FU{env:Env}:∀(names:List (Str×NameKind)) (acc:List (Str×Addr)),(∀x∈names,x.2=.free->∃c,env.cells.lookup x.1=some c)->
  (forIn names acc fun(x:Str×NameKind) (r:List (Str×Addr))=>
   (if (x.2==NameKind.free)=true then do let a <-cellOf env x.1;pure (ForInStep.yield ((x.1,a)::r)) else pure (ForInStep.yield r):Sem (ForInStep (List (Str×Addr)))))=pure (jr env.cells names acc)
 | [],acc,_=>by simp[jr]
 | (n,k)::r,acc,h=>by
  have ih:=fun d7=>FU (env:=env) r d7 fun x hx=>h x (au _ hx)
  rw[List.forIn_cons];by_cases hk:k=.free
  ·subst hk;obtain⟨c,hc⟩:=h (n,.free) (by simp) rfl;have e1:cellOf env n=pure c:=by unfold cellOf;rw[hc]
   simp only[beq_self_eq_true,bE,e1,pure_bind];rw[ih];simp[jr,hc]
  ·have nr:(k==NameKind.free)=false:=by simpa using hk
   simp only[nr,aO,bp,pure_bind];rw[ih];simp[jr,nr]
theorem F4{env:Env}{scope:Scope}(h:∀x∈scope.names,x.2=.free->∃c,env.cells.lookup x.1=some c):closureFor scope env=pure (jr env.cells scope.names []):=by
 have e:closureFor scope env=(forIn scope.names ([]:List (Str×Addr)) fun(x:Str×NameKind) (r:List (Str×Addr))=>
   (if (x.2==NameKind.free)=true then do let a <-cellOf env x.1;pure (ForInStep.yield ((x.1,a)::r)) else pure (ForInStep.yield r):Sem (ForInStep (List (Str×Addr))))) >>= fun r=>pure r:=rfl
 rw[e,FU _ _ h];rfl
theorem EN{cells:List (Str×Addr)}:∀{names:List (Str×NameKind)} {acc:List (Str×Addr)} {x:Str} {c:Addr},(x,c)∈jr cells names acc->(x,c)∈acc\/((x,.free)∈names/\c=(cells.lookup x).getD 0)
 | [],acc,x,c,h=>.inl h
 | (n,k)::r,acc,x,c,h=>by
  rcases EN (names:=r) h with h | ⟨h,e⟩
  ·by_cases hk:k=.free
   ·subst hk;simp only[beq_self_eq_true,bE] at h;rcases ar.mp h with h | h
    ·cases h;exact .inr ⟨by simp,rfl⟩
    ·exact .inl h
   ·have nr:(k==NameKind.free)=false:=by simpa using hk
    simp only[nr,aO,bp] at h;exact .inl h
  ·exact .inr ⟨au _ h,e⟩
theorem EM{cells:List (Str×Addr)}:∀{names:List (Str×NameKind)} {acc:List (Str×Addr)} {p:Str×Addr},p∈acc->p∈jr cells names acc
 | [],acc,p,h=>h
 | (n,k)::r,acc,p,h=>EM (names:=r) (by split<;>simp[h])
theorem zZ{cells:List (Str×Addr)}:∀{names:List (Str×NameKind)} {acc:List (Str×Addr)} {x:Str},(x,.free)∈names->∃c,(x,c)∈jr cells names acc
 | (n,k)::r,acc,x,h=>by
  rcases ar.mp h with h | h
  ·have e1:x=n:=congrArg Prod.fst h;have e2:NameKind.free=k:=congrArg Prod.snd h;subst e1 e2;refine⟨(cells.lookup x).getD 0,?_⟩;show(x,(cells.lookup x).getD 0)∈jr cells r (if (NameKind.free==NameKind.free)=true then(x,(cells.lookup x).getD 0)::acc else acc);exact EM (by simp)
  ·exact zZ (names:=r) h
theorem yg{α:Type}:∀{l:List (Str×α)} {x:Str} {c:α},(x,c)∈l->∃c',l.lookup x=some c'
 | (n,k)::r,x,c,h=>by
  by_cases e:x=n
  ·subst e;exact⟨k,by simp[List.lookup_cons]⟩
  ·have e':(x==n)=false:=by simpa using e
   rcases ar.mp h with h | h
   ·cases h;exact absurd rfl e
   ·obtain⟨c',q⟩:=yg h;exact⟨c',by simp[List.lookup_cons,e',q]⟩
theorem AU{env:Env}:∀{names:List (Str×NameKind)} {x:Str},
  (names.map fun(n,k)=>if (k==NameKind.free&&env.scope.kind==.function&&env.kindOf n==some .cell) then(n,NameKind.cell) else(n,k)).lookup x
   = (names.lookup x).map fun k=>if (k==NameKind.free&&env.scope.kind==.function&&env.kindOf x==some .cell) then NameKind.cell else k
 | [],x=>rfl
 | (n,k)::r,x=>by
  have ih:=@AU env r x;rw[ao];have e0:(if (k==NameKind.free&&env.scope.kind==.function&&env.kindOf n==some .cell)=true then(n,NameKind.cell) else(n,k))=(n,if (k==NameKind.free&&env.scope.kind==.function&&env.kindOf n==some .cell)=true then NameKind.cell else k):=by split<;>rfl
  show List.lookup x ((if (k==NameKind.free&&env.scope.kind==.function&&env.kindOf n==some .cell)=true then(n,NameKind.cell) else(n,k))::_)=_;rw[e0];by_cases e:x=n
  ·subst e;rw[List.lookup_cons,List.lookup_cons,beq_self_eq_true];rfl
  ·have e':(x==n)=false:=by simpa using e
   rw[List.lookup_cons,List.lookup_cons,e'];exact ih
theorem AO:∀(names:List (Str×NameKind)) (n:Nat) (acc d7:List (Str×Addr)),cellsFrom n names (acc++d7)=cellsFrom n names acc++d7
 | [],_,_,_=>rfl
 | (x,k)::r,n,acc,d7=>by
  unfold cellsFrom;split
  ·exact AO r (n+1) ((x,n)::acc) d7
  ·exact AO r n acc d7
theorem AX:∀{names:List (Str×NameKind)} {n:Nat} {acc:List (Str×Addr)} {p:Str×Addr},p∈cellsFrom n names acc->p∈acc\/(p.1,.cell)∈names
 | [],_,_,_,h=>.inl h
 | (x,k)::r,n,acc,p,h=>by
  unfold cellsFrom at h;split at h
  ·rename_i hk;rcases AX h with h | h
   ·rcases ar.mp h with rfl | h
    ·rw[eq_of_beq hk];exact .inr (by simp)
    ·exact .inl h
   ·exact .inr (au _ h)
  ·exact(AX h).imp id (au _)
theorem u9:∀{names:List (Str×NameKind)} {n:Nat} {acc:List (Str×Addr)} {p:Str×Addr},p∈acc->p∈cellsFrom n names acc
 | [],_,_,_,h=>h
 | (x,k)::r,n,acc,p,h=>by
  unfold cellsFrom;split
  ·exact u9 (au _ h)
  ·exact u9 h
theorem AW:∀{names:List (Str×NameKind)} {n:Nat} {acc:List (Str×Addr)} {x:Str},(x,.cell)∈names->∃c,(x,c)∈cellsFrom n names acc
 | (y,k)::r,n,acc,x,h=>by
  unfold cellsFrom;rcases ar.mp h with h | h
  ·cases h;exact⟨n,u9 (by simp)⟩
  ·split
   ·exact AW h
   ·exact AW h
theorem L4{M:Model}{A:Around}{E:Value->Shared->Prop}{s:Shared}{scope:Scope}{globals:Addr}{closure:List (Str×Addr)}{qual:Str}{func:Option Addr}{code:Value}{out:Env}{Q:Env->Shared->Prop}
  (hQ:∀h',h'=pushCells (s.heap.push { cls:=.type "dict",data:=.dict #[] }) scope.names->Q (newEnv scope s.heap.objs.size globals (cellsFrom (s.heap.objs.size+1) scope.names closure) qual func code (some out) builtinsNs) { s with heap:=h' }) :
  wpAny M A (newFunctionEnv scope globals closure [] qual func code (some out)) Q E s:=by
 simp only[newFunctionEnv,Option.isSome_some,bE];refine aa (wpAny_alloc ?_);refine aa (wpAny_layCells _ (fun name kind cells=>by cases Ql:kind==NameKind.cell<;>simp[Ql]) _ _ _ _ ?_);rw[show({ s with heap:=s.heap.push { cls:=.type "dict",data:=.dict #[] } }:Shared).heap.objs.size=s.heap.objs.size+1 from Heap.size_push ..];rw[List.forIn_nil];exact aa (ah (ah (hQ _ rfl)))
noncomputable abbrev gy(X:Cx)(N':List Str)(scope:Scope)(s3:Shared)(H3:Hp)(ex:List Addr):Cx:=
 { X with N:=N',dy:=s3,nC:=H3,env:=compEnvC scope (cellsFrom (s3.heap.objs.size+1) scope.names (jr X.env.cells scope.names [])) s3.heap.objs.size X.env,outer:=X.stack,stack:=X.stack,ex:=ex,fn:=fun x=>scope.names.lookup x==some .cell,pn:=[],xe:=fun _ _=>False }
noncomputable def kX(m:List (Option Nat))(σ:St):St:=m.map fun o=>match o with
 | none=>none
 | some j=>(σ[j]?).join
structure cw (X:Cx) (N':List Str) (m:List (Option Nat)) (scope:Scope):Prop where
 kind:scope.kind=.function
 len:m.length=N'.length
 uniq:∀y∈scope.names,scope.names.lookup y.1=some y.2
 free:∀y∈scope.names,y.2=.free->X.env.kindOf y.1=some .cell\/X.env.kindOf y.1=some .free
 Q9:∀(i j:Nat) (x:Str),m[i]?=some (some j)->N'[i]?=some x->X.N[j]?=some x/\scope.names.lookup x=some .free
def tL(X:Cx)(ifs:List Expr)(t:TT):Prop:=
 ∀(pins:List (Addr×Obj)) (s:Shared) (σ:St) (H:Hp) (Q:Bool->Hp->Prop),Inv X pins σ H s->t σ H Q->
  wpAny (model X.prog X.w) X.A (forIn ifs true fun c r=>if r=true then do let ok <-isTrue c X.env (eval c X.env);pure (ForInStep.yield ok) else pure (ForInStep.yield r)) (TP X pins σ Q) X.xe s
def HE:TT:=fun _ H Q=>Q true H
theorem Kt{X:Cx}:tL X [] HE:=fun _ _ σ H _ I h=>wpAny_tests_nil ⟨H,I,h⟩
theorem Ks{X:Cx}{c:Expr}{t:TT}(h:PT X c t):tL X [c] t:=fun pins s σ H Q I q=>wpAny_tests_one (h pins s σ H Q I q)
section
variable {prog:Program} {w:World} {A:Around} {R:Result->Shared->Prop} {s:Shared}
theorem Nj{elt target iter:Expr}{ifs:List Expr}{scope:Scope}{pos:Pos}{it acc:Value}{env:Env}(I:Nat->Shared->Prop)
  (turn:∀n s,I n s->wpAny (model prog w) A (pyNext it) (fun r bZ=>match r with
   | none=>R (.ok .next) bZ
   | some v=>wpAny (model prog w) A (letOwnedTupleGo target it v) (fun _ pU=>wpAny (model prog w) A (assign target env v) (fun _ fS=>
     wpAny (model prog w) A (forIn ifs true fun c r=>if r=true then do let ok <-isTrue c env (eval c env);pure (ForInStep.yield ok) else pure (ForInStep.yield r)) (fun ok jJ=>
      if ok=true then wpAny (model prog w) A (eval elt env) (fun x oB=>
       wpAny (model prog w) A (call (.builtin "list.append") [acc,x]) (fun _ vo=>∃m,m<n/\I m vo) (fun _ _=>False) oB) (fun _ _=>False) jJ
      else ∃m,m<n/\I m jJ) (fun _ _=>False) fS) (fun _ _=>False) pU) (fun _ _=>False) bZ) (fun _ _=>False) s)
  (n:Nat) (h:I n s) :
  codeAny (model prog w) A (.compLoop (.ListComp elt [⟨target,iter,ifs,0⟩] scope pos) 0 it acc env) R s:=by
 refine codeAny_loop rfl I (fun n s hI=>?_) n h;show wpAny _ A ((compTurn (.ListComp elt [⟨target,iter,ifs,0⟩] scope pos) 0 it acc env).onRaise (fun x=>do noteFrame x env;theTreesLotGoes x)) _ _ s;refine wpAny_noted ?_;rw[compTurn_list];have nv:∀{E:Value->Shared->Prop} (x:Value) (s:Shared),(fun(_:Value) (_:Shared)=>False) x s->E x s:=fun _ _ f=>f.elim
 refine aa (wpAny_standAt (aa (wpAny_mono (turn n s hI) (fun r bZ fU=>?_) nv)));cases r with
 | none=>exact ah fU
 | some v=>
  refine aa (wpAny_mono fU (fun _ pU vM=>?_) nv);refine aa (wpAny_mono vM (fun _ fS nk=>aa (wpAny_mono nk (fun ok jJ oK=>?_) nv)) nv);cases ok with
  | false=>exact ah ⟨rfl,oK⟩
  | true=>
   exact aa (aa (wpAny_mono oK (fun x oB Bv=>aa (wpAny_mono Bv (fun _ vo Bu=>ah (ah ⟨rfl,Bu⟩)) nv)) nv))
end
end L2
namespace L2
open PySem PySem.Spec PyProof.Rows
noncomputable abbrev mG(α:Type):=Shared->Hp->List Addr->α
def t7(wi:TI)(m:List (Option Nat))(g:mG TG)(tc:mG TT)(te:mG TE):TE:=fun σ H Q=>wi σ H fun J H1=>∀D,H1 D=none->∀s3 ex,
 ∃W:Nat->Nat->St->Hp->Prop,(∃k,W 0 k (kX m σ) (upd H1 D (.lst [])))/\∀i k cf H',W i k cf H'->
  (J.stop i H'/\Q (.ref D) H')\/(J.go i H'/\∃N:St->Hp->Prop,(∀cf H',N cf H'->∃k',k'<k/\W (i+1) k' cf H')/\
   ∀x H2,J.yh i H' x H2->g s3 (upd H1 D (.lst [])) ex x cf H2 fun iw H3=>tc s3 (upd H1 D (.lst [])) ex iw H3 fun b H4=>
    if b=true then te s3 (upd H1 D (.lst [])) ex iw H4 fun v H5=>∃xs,H5 D=some (.lst xs)/\xs.length<sizeLine/\N iw (upd H5 D (.lst (xs++[v]))) else N iw H4)
section
variable {X:Cx} {elt iter tg:Expr} {ifs:List Expr} {scope:Scope} {pos:Pos} {N':List Str} {m:List (Option Nat)} {wi:TI} {g:mG TG} {tc:mG TT} {te:mG TE}
theorem L1{pins:List (Addr×Obj)}{σ:St}{H:Hp}{s:Shared}{fp:List Addr}{fU:Heap}{tk:Nat}(cs:cw X N' m scope)(I:Inv X pins σ H s)(f:∀b∈fp,g0 X pins H b)(fo:∀b∈fp,b<s.heap.objs.size)
  (hh:fU=pushCells (s.heap.push { cls:=.type "dict",data:=.dict #[] }) scope.names) :
  Inv (gy X N' scope s H fp) [] (kX m σ) H { s with heap:=fU,toks:=tk }:=by
 have hk:∀b o,s.heap.get? b=some o->fU.get? b=some o:=fun b o e=>by rw[hh];exact pushCells_keeps _ _ b o (aj _ e)
 have k6:fU.Ns s.heap.objs.size (fun _=>none):=by rw[hh];exact(Heap.Ns.new s.heap (.type "dict")).keeps (pushCells_keeps _ _)
 have ok:=cellsFrom_ok scope.names (s.heap.push { cls:=.type "dict",data:=.dict #[] }) (s.heap.objs.size+1) [] ⟨fun _ _ hm=>(nomatch hm),List.Pairwise.nil⟩ (by rw[Heap.size_push];exact ay _);rw[Heap.size_push,<-hh] at ok;have cY:∀y∈scope.names,y.2=.free->∃c,X.env.cells.lookup y.1=some c:=fun y hy hf=>I.ok.has y.1 (cs.free y hy hf)
 have app:cellsFrom (s.heap.objs.size+1) scope.names (jr X.env.cells scope.names [])=cellsFrom (s.heap.objs.size+1) scope.names []++jr X.env.cells scope.names []:=AO _ _ [] _
 /- a cell: of its own,or one from kO -/
 have rM:∀x c,(cellsFrom (s.heap.objs.size+1) scope.names (jr X.env.cells scope.names [])).lookup x=some c->((x,c)∈cellsFrom (s.heap.objs.size+1) scope.names []/\scope.names.lookup x=some .cell)\/(X.env.cells.lookup x=some c/\scope.names.lookup x=some .free):=fun x c e=>by
  have hm:=PySem.mem_of_lookup e;rw[app] at hm;rcases aD.mp hm with hm | hm
  ·refine .inl ⟨hm,?_⟩;rcases AX hm with z | z
   ·cases z
   ·exact cs.uniq _ z
  ·rcases EN hm with z | ⟨z,e'⟩
   ·cases z
   ·obtain⟨c',q⟩:=cY _ z rfl;rw[q] at e';exact .inr ⟨by rw[q,e'];rfl,cs.uniq _ z⟩
 have old:∀x c,X.env.cells.lookup x=some c->c<s.heap.objs.size:=fun x c e=>by obtain⟨v,z⟩:=I.cell x c e;exact z.lt
 refine⟨⟨I.ok.mod,cs.kind,I.ok.glob,I.ok.blt,ay _,fun x y c e1 e2=>?inj,fun x hx=>?_,fun x c hx e=>?cab,I.ok.hd,I.ok.frames,.inl rfl,fun b hb=>⟨aP (fo b hb),fun x c e=>?exf⟩,
  fun b o e=>I.bs b o e,a9 I.ok.rN I.sz,fun b o e hb=>?_,fun b hb z=>?_,I.stack,I.kQ⟩,
  rfl,I.bare,Un.kept hk,⟨_,k6,fun i x v h1 h2 h3=>?_⟩,fun x c e=>?_,I.cB.fresh (ay _),fun x c e=>?frc,fun p hp=>(by cases hp),I.cB.kept hk,?_⟩
 case inj=>
  rcases rM x c e1 with⟨m1,_⟩ | ⟨o1,_⟩<;>rcases rM y c e2 with⟨m2,_⟩ | ⟨o2,_⟩
  ·exact PySem.name_of_addr ok.apart m1 m2
  ·exact absurd (old y c o2) (Nat.not_lt.mpr (a9 (Nat.le_succ _) (ok.empty x c m1).2))
  ·exact absurd (old x c o1) (Nat.not_lt.mpr (a9 (Nat.le_succ _) (ok.empty y c m2).2))
  ·exact I.ok.inj x y c o1 o2
 case cab=>
  rcases rM x c e with⟨m1,_⟩ | ⟨_,z⟩
  ·exact a9 (Nat.le_succ _) (ok.empty x c m1).2
  ·have oN:(scope.names.lookup x==some .cell)=true:=hx;rw[z] at oN;cases oN
 case exf=>
  rcases rM x c e with⟨m1,_⟩ | ⟨o1,_⟩
  ·exact Nat.ne_of_gt (aR (Nat.lt_succ_of_lt (fo b hb)) (ok.empty x c m1).2)
  ·exact(f b hb).2.2.2.2.1 x c o1
 case frc=>
  rcases rM x c e with⟨m1,_⟩ | ⟨o1,_⟩
  ·exact I.cB.fresh (a9 (Nat.le_succ _) (ok.empty x c m1).2)
  ·exact I.fO x c o1
 ·have oN:(relabel scope X.env).names.lookup x=some .cell\/(relabel scope X.env).names.lookup x=some .free:=hx;have e:(relabel scope X.env).names.lookup x=(scope.names.lookup x).map fun k=>if (k==NameKind.free&&X.env.scope.kind==.function&&X.env.kindOf x==some .cell) then NameKind.cell else k:=AU
  rw[e] at oN;have hf:(x,NameKind.free)∈scope.names\/(x,NameKind.cell)∈scope.names:=by
   cases q:scope.names.lookup x with
   | none=>rw[q] at oN;simp at oN
   | some k=>
    rw[q] at oN;have hm:=PySem.mem_of_lookup q;by_cases rp:k=.free
    ·subst rp;exact .inl hm
    ·have nr:(k==NameKind.free)=false:=by simpa using rp
     simp only[nr,bz,Bool.false_and,aO,bp,aG] at oN;rcases oN with z | z
     ·subst z;exact .inr hm
     ·exact absurd z rp
  show ∃c,(cellsFrom (s.heap.objs.size+1) scope.names (jr X.env.cells scope.names [])).lookup x=some c
  rcases hf with hf | hf
  ·obtain⟨c,hc⟩:=zZ (cells:=X.env.cells) (acc:=[]) hf;exact yg (u9 hc)
  ·obtain⟨c,hc⟩:=AW (n:=s.heap.objs.size+1) (acc:=jr X.env.cells scope.names []) hf;exact yg hc
 ·rcases(f b hb).2.2.2.1 with z | z
  ·exact I.ok.m9 b o e z
  ·exact absurd (aR (aB (I.ok.bs b o e).1) z) (Nat.lt_irrefl _)
 ·rcases ar.mp (I.kj b z) with q | q
  ·exact(f b hb).2.1 q
  ·exact(f b hb).2.2.1 q
 ·unfold kX at h2;rw[ai] at h2;cases q:m[i]? with
  | none=>rw[q] at h2;cases h2
  | some o=>
   rw[q] at h2;cases o with
   | none=>cases h2
   | some j=>
    simp only[bz,aG] at h2;have GV:σ[j]?=some (some v):=by
     cases z:σ[j]? with
     | none=>rw[z] at h2;cases h2
     | some a=>rw[z] at h2;simp at h2;rw[h2]
    obtain⟨hN,wc⟩:=cs.Q9 i j x q h1;have GN:=PySem.mem_of_lookup wc;obtain⟨m0,RH,hl⟩:=I.loc;have k7:=cs.free _ GN rfl;have BC:jf X.env.scope x:=k7.elim (fun z=>.inr (.inl z)) (fun z=>.inr (.inr z));obtain⟨u,ru,lu⟩:=hl j x v hN GV BC;refine⟨u,ru,.inr ⟨?_,?_⟩⟩
    ·show(relabel scope X.env).names.lookup x=some .cell\/(relabel scope X.env).names.lookup x=some .free;have e:(relabel scope X.env).names.lookup x=(scope.names.lookup x).map fun k=>if (k==NameKind.free&&X.env.scope.kind==.function&&X.env.kindOf x==some .cell) then NameKind.cell else k:=AU
     rw[e,wc];simp only[bz];split
     ·exact .inl rfl
     ·exact .inr rfl
    ·rcases lu with⟨k,_⟩ | ⟨_,c,e,z⟩
     ·rcases k7 with z | z<;>· rw[k] at z;cases z
     ·obtain⟨c',nu⟩:=yg (u9 (names:=scope.names) (n:=s.heap.objs.size+1) (zZ (cells:=X.env.cells) (acc:=[]) GN).choose_spec);have:X.env.cells.lookup x=some c':=by
       rcases rM x c' nu with⟨_,z⟩ | ⟨z,_⟩
       ·rw[wc] at z;cases z
       ·exact z
      rw[e] at this;cases this;obtain⟨oc,sZ,hd⟩:=z;exact⟨c,nu,oc,hk c oc sZ,hd⟩
 ·rcases rM x c e with⟨m1,_⟩ | ⟨o1,_⟩
  ·exact⟨none,(ok.empty x c m1).1⟩
  ·obtain⟨v,oc,sZ,hd⟩:=I.cell x c o1;exact⟨v,oc,hk c oc sZ,hd⟩
 ·show(kX m σ).length=N'.length;unfold kX;rw[ae,cs.len]
theorem FA{use:Option (Value->Sem Unit)}{Q':Value->Shared->Prop}{pins:List (Addr×Obj)}{s:Shared}{σ:St}{H:Hp}{Q:VK}
  (hc:X.calm=true) (cs:cw X N' m scope) (hi:PI X tg iter wi) (hg:∀s3 H3 ex,PG (gy X N' scope s3 H3 ex) tg (g s3 H3 ex)) (ht:∀s3 H3 ex,tL (gy X N' scope s3 H3 ex) ifs (tc s3 H3 ex))
  (he:∀s3 H3 ex,PE (gy X N' scope s3 H3 ex) elt (te s3 H3 ex)) (I:Inv X pins σ H s) (h:t7 wi m g tc te σ H Q)
  (fin:∀D C s' H',Inv X pins σ H' s'->g0 X pins H' C->(∃m,s'.heap.Ns C m)->Q (.ref D) H'->compPost (model X.prog X.w) X.A X.xe use Q' (.ref D) C (.ok .next) s') :
  wpAny (model X.prog X.w) X.A (eval iter X.env) (fun x bZ=>wpAny (model X.prog X.w) X.A (pyIter x) (fun it fS=>wpAny (model X.prog X.w) X.A (newList []) (fun acc jJ=>
   wpAny (model X.prog X.w) X.A (newFunctionEnv scope X.env.globals (jr X.env.cells scope.names []) [] X.env.qual none .none (some X.env)) (fun wI oB=>
    codeAny (model X.prog X.w) X.A (.compStart (.ListComp elt [⟨tg,iter,ifs,0⟩] scope pos) 0 it acc { wI with scope:=relabel scope X.env }) (compPost (model X.prog X.w) X.A X.xe use Q' acc wI.locals) oB) X.xe jJ) X.xe fS) X.xe bZ) X.xe s:=by
 refine cA (hi pins s σ H _ I h) fun v s1 h1=>cA h1 fun Bs s2 h2=>?_
 obtain⟨it,fp,tn,J,H2,e,I2,T,pV,f2,h⟩:=h2;subst e;refine bc (L4 fun fU qf=>?_);have hf:H2 s2.heap.objs.size=none:=I2.cB.fresh (ay _);obtain⟨W,⟨k0,w0⟩,turn⟩:=h s2.heap.objs.size hf { s2 with heap:=s2.heap.push { cls:=.type "list",data:=.seq ([]:List Value).toArray } } fp;have I3:Inv X pins σ (upd H2 s2.heap.objs.size (.lst [])) { s2 with heap:=s2.heap.push { cls:=.type "list",data:=.seq ([]:List Value).toArray } }:=I2.oH (its:=[]) (t':=s2.toks) .nil (by simp);have GY:∀b∈fp,b<s2.heap.objs.size:=fun b hb=>by
  obtain⟨o,e,_⟩:=T.obj _ _ pV b hb;exact aB e
 have f3:∀b∈fp,g0 X pins (upd H2 s2.heap.objs.size (.lst [])) b:=fun b hb=>⟨by rw[cK (aP (GY b hb))];exact(f2 b hb).1,(f2 b hb).2⟩
 generalize Gy:({ s2 with heap:=s2.heap.push { cls:=.type "list",data:=.seq ([]:List Value).toArray } }:Shared)=s3 at *;have hC:s3.heap.objs.size=s2.heap.objs.size+1:=by rw[<-Gy];exact Heap.size_push ..
 have GZ:∀b∈fp,b<s3.heap.objs.size:=fun b hb=>by rw[hC];exact Nat.lt_succ_of_lt (GY b hb)
 have k3:∀b o,s2.heap.get? b=some o->s3.heap.get? b=some o:=fun b o e=>by rw[<-Gy];exact aj _ e
 have k1:∀b o,s3.heap.get? b=some o->fU.get? b=some o:=fun b o e=>by rw[qf];exact pushCells_keeps _ _ b o (aj _ e)
 have J0:=L1 (tk:=s3.toks) cs I3 f3 GZ qf;have oC:tn 0 fU:=T.keep _ _ _ pV fun b _ o e=>k1 b o (k3 b o e)
 have Cj:∀{H':Hp},(∀b∈fp,H' b=none)->∀b∈fp,g0 (gy X N' scope s3 (upd H2 s2.heap.objs.size (.lst [])) fp) [] H' b:=fun hn b hb=>
  ⟨hn b hb,aP (GZ b hb),J0.ok.nB b hb,.inl hb,(J0.ok.exf b hb).2,fun p hp=>by cases hp⟩
 have wc:∀b∈fp,(upd H2 s2.heap.objs.size (.lst [])) b=none:=fun b hb=>(f3 b hb).1
 have loop:codeAny (model X.prog X.w) X.A (.compLoop (.ListComp elt [⟨tg,iter,ifs,0⟩] scope pos) 0 (.ref it) (.ref s2.heap.objs.size) (compEnvC scope (cellsFrom (s3.heap.objs.size+1) scope.names (jr X.env.cells scope.names [])) s3.heap.objs.size X.env))
   (compPost (model X.prog X.w) X.A X.xe use Q' (.ref s2.heap.objs.size) s3.heap.objs.size) { s3 with heap:=fU }:=by
  refine Nj (fun n s'=>∃i cf H',Inv (gy X N' scope s3 (upd H2 s2.heap.objs.size (.lst [])) fp) [] cf H' s'/\tn i s'.heap/\(∀b∈fp,H' b=none)/\W i n cf H') ?_ k0 ⟨0,_,_,J0,oC,wc,w0⟩;rintro n s4 ⟨i,me,H4,I4,Ge,tE,w4⟩;rcases turn i n me H4 w4 with⟨stop,qn⟩ | ⟨go,N,hN,step⟩
  ·refine cA (T.done (gy X N' scope s3 (upd H2 s2.heap.objs.size (.lst [])) fp) rfl rfl rfl hc i [] s4 me H4 _ I4 (Cj tE) Ge stop) fun r s5 bW=>?_
   obtain⟨hr,I5⟩:=bW;subst hr;have jy:∀b∈fp,(b∈X.ex\/X.dy.heap.objs.size<=b)/\b≠X.env.locals/\(∀x c,X.env.cells.lookup x=some c->c≠b)/\∀p∈X.pn++pins,p.1≠b:=fun b hb=>⟨(f2 b hb).2.2.2.1,(f2 b hb).2.1,(f2 b hb).2.2.2.2.1,(f2 b hb).2.2.2.2.2⟩
   have I6:Inv X pins σ H4 s5:=I3.wJ (ch:=fp) I5.os I5.base I5.cB I5.bare jy;obtain⟨m5,Qe,_⟩:=id I5.loc;exact fin _ _ s5 H4 I6 (I3.hZ (ay _) I5.free) ⟨m5,Qe⟩ qn
  ·refine cA (T.item (gy X N' scope s3 (upd H2 s2.heap.objs.size (.lst [])) fp) rfl rfl rfl hc i [] s4 me H4 _ I4 (Cj tE) Ge go) fun r s5 bW=>?_
   obtain⟨u,hr,h5⟩:=bW;subst hr;refine cA h5 fun _ s6 bW=>?_
   obtain⟨x,H6,I6,r6,y6,A4,QU⟩:=bW;have Rc:=I6.pinned (Cj QU) (T.obj _ _ A4);refine cA (hg _ _ _ _ s6 me H6 x u _ Rc r6 (step x H6 y6)) fun _ s7 bW=>?_
   obtain⟨j5,H7,I7,q7⟩:=bW;refine cA (ht _ _ _ _ s7 j5 H7 _ I7 q7) fun b s8 bW=>?_
   obtain⟨H8,I8,q8⟩:=bW;have again:∀{s9:Shared} {tP:St} {H9:Hp},Inv (gy X N' scope s3 (upd H2 s2.heap.objs.size (.lst [])) fp) ([]++uq fp s6.heap) tP H9 s9->N tP H9->∃m,m<n/\∃i cf H',Inv (gy X N' scope s3 (upd H2 s2.heap.objs.size (.lst [])) fp) [] cf H' s9/\tn i s9.heap/\(∀b∈fp,H' b=none)/\W i m cf H':=fun{s9 tP H9} I9 n9=>by
    obtain⟨m',hm,w9⟩:=hN tP H9 n9;refine⟨m',hm,i+1,tP,H9,I9.f6,T.keep _ _ _ A4 fun b hb o e=>(I9.pin (b,o) (aT _ (aT _ (yc hb e)))).1,fun b hb=>?_,w9⟩;obtain⟨o,e,d⟩:=T.obj _ _ A4 b hb;exact(I9.pin (b,o) (aT _ (aT _ (yc hb e)))).2.1
   cases b with
   | false=>exact again I8 q8
   | true=>
    rw[if_pos rfl];refine cA (he _ _ _ _ s8 j5 H8 _ I8 q8) fun y s9 bW=>?_
    obtain⟨v9,H9,I9,r9,xs,hD,hz,q9⟩:=bW;refine cA (ye _ s9 j5 H9 (.ref s2.heap.objs.size) [v9] (.ref s2.heap.objs.size) [y] (fun _ H'=>N j5 H') I9 rfl (.cons r9 .nil) ⟨_,xs,v9,rfl,rfl,hD,hz,q9⟩) fun _ Rw bW=>?_
    obtain⟨_,RW,Rg,_,O9⟩:=bW;exact again Rg O9
 exact codeAny_compStart_list loop (T.self _ 0 _ _ _ oC loop)
theorem Eu(hc:X.calm=true)(cs:cw X N' m scope)(hi:PI X tg iter wi)(hg:∀s3 H3 ex,PG (gy X N' scope s3 H3 ex) tg (g s3 H3 ex))(ht:∀s3 H3 ex,tL (gy X N' scope s3 H3 ex) ifs (tc s3 H3 ex))
  (he:∀s3 H3 ex,PE (gy X N' scope s3 H3 ex) elt (te s3 H3 ex)) (hs:∀x,foldedSetIterable iter X.env x=pure x:=by intro _;rfl):PE X (.ListComp elt [⟨tg,iter,ifs,0⟩] scope pos) (t7 wi m g tc te):=by
 intro pins s σ H Q I h;rw[eval_ListComp];have cY:∀y∈scope.names,y.2=.free->∃c,X.env.cells.lookup y.1=some c:=fun y hy hf=>I.ok.has y.1 (cs.free y hy hf)
 refine wpAny_comprehension_free (use:=none) rfl hs (F4 cY) cs.kind (fun y hy hl=>by rw[cs.uniq y hy,hl]) (FA hc cs hi hg ht he I h fun D C s' H' I' fC ⟨mC,hn⟩ q=>?_);refine⟨mC,hn,fun h' sb=>⟨.ref D,H',I'.turned (t':=s'.toks) (fun b o hb e=>(sb.2 b hb).trans e) fC.1 fC.2.1 fC.2.2.2.1 fC.2.2.2.2.1 fC.2.2.2.2.2,rfl,q⟩⟩
theorem Et{i:Nat}{x:Str}{pos' jO:Pos}(hN:X.N.Nodup)(n0:X.N[i]?=some x)(hx:Loc X.env.scope x)
  (hc:X.calm=true) (cs:cw X N' m scope) (hi:PI X tg iter wi) (hg:∀s3 H3 ex,PG (gy X N' scope s3 H3 ex) tg (g s3 H3 ex)) (ht:∀s3 H3 ex,tL (gy X N' scope s3 H3 ex) ifs (tc s3 H3 ex))
  (he:∀s3 H3 ex,PE (gy X N' scope s3 H3 ex) elt (te s3 H3 ex)) (hs:∀x,foldedSetIterable iter X.env x=pure x:=by intro _;rfl)
  (vP:swapsWith (.ListComp elt [⟨tg,iter,ifs,0⟩] scope pos) (some (.Name x pos')) jO.line X.env=pure true:=by rfl)
  (hf:X.fn x=true\/X.env.scope.names.lookup x=some .local:=by first | exact .inl rfl | exact .inr rfl | assumption) :
  PS X (.Assign [.Name x pos'] (.ListComp elt [⟨tg,iter,ifs,0⟩] scope pos) jO) (yS (t7 wi m g tc te) (za i)):=by
 intro pins s σ H D I h;have cY:∀y∈scope.names,y.2=.free->∃c,X.env.cells.lookup y.1=some c:=fun y hy hf=>I.ok.has y.1 (cs.free y hy hf)
 rw[exec_Assign_Name_used _ _ _ _ vP];refine aa (wpAny_standAt (aa ?_));show wpAny _ _ (do let _ <-comprehension (.ListComp elt [⟨tg,iter,ifs,0⟩] scope pos) scope X.env _ (newList []) false (eval iter X.env) (some (assign (.Name x pos') X.env))) _ _ s;refine aa (wpAny_mono (wpAny_comprehension_free (use:=some (assign (.Name x pos') X.env)) (Q:=fun _ s'=>SP X pins D .next s') rfl hs (F4 cY) cs.kind (fun y hy hl=>by rw[cs.uniq y hy,hl]) (FA hc cs hi hg ht he I h fun A C s' H' I' fC ⟨mC,hn⟩ q=>?_)) (fun _ s' hq=>ah (ah hq)) fun _ _ e=>e);show wpAny _ _ (assign (.Name x pos') X.env (.ref A)) _ _ _;refine wpAny_assign_Name (FT I' hN n0 hx (show RelV (.ref A) (.ref A) from rfl) (fun s2 I2 P4=>?_) hf);obtain⟨a,OY,ha⟩:=P4;have QJ:C≠a:=by
  rcases ha with rfl | ha
  ·exact fC.2.1
  ·exact fun z=>fC.2.2.2.2.1 x a ha z.symm
 refine⟨mC,hn.sameBut OY QJ,fun h' sb=>⟨_,H',I2.turned (t':=s2.toks) (fun b o hb e=>(sb.2 b hb).trans e) fC.1 fC.2.1 fC.2.2.2.1 fC.2.2.2.2.1 fC.2.2.2.2.2,q⟩⟩
end
end L2
namespace L2
open PySem PySem.Spec PyProof.Rows
theorem DP:2<=sizeLine:=by decide
theorem Inv.cZ{X:Cx}{pins:List (Addr×Obj)}{σ:St}{H:Hp}{s:Shared}{h':Heap}{t':Nat}{fp:List Addr}(I:Inv X pins σ H s)(k:∀b o,b∉fp->s.heap.get? b=some o->h'.get? b=some o)(f:∀b∈fp,g0 X pins H b) :
  Inv X pins σ H { s with heap:=h',toks:=t' }:=by
 have p9:∀b u,H b=some u->b∉fp:=fun b u e z=>by rw[(f b z).1] at e;cases e
 refine I.step (g':=s.gens) (d':=s.drawn) (ch:=fp) (fun b hb=>⟨(f b hb).2.2.2.1,(f b hb).2.1,(f b hb).2.2.2.2.1,(f b hb).2.2.2.2.2⟩) (fun b o _ _ hc e _=>k b o hc e) (fun b o _ _ hc e _=>⟨o.slots,k b o hc e⟩) (fun _ _ _ _ n=>n)
  (fun b o hc e=>⟨o,k b o hc e⟩) (fun _ _ e=>e) (fun _ _ _ e=>e) (fun b ps e=>⟨#[],by rw[e];simp⟩) (fun m hm=>?_) (fun b u e=>?_) I.bare
 ·obtain⟨o,es,ep,ho,r⟩:=hm;exact⟨o,es,ep,k _ o (fun z=>(f _ z).2.1 rfl) ho,r⟩
 ·refine(I.cB b u e).gD (fun c v hc q=>k c v ?_ q) (fun _ q=>q) fun _ _ q=>q
  rcases hc with z | z
  ·rw[z];exact p9 b u e
  ·exact p9 c _ z
theorem Inv.iL{X:Cx}{pins:List (Addr×Obj)}{σ:St}{H:Hp}{s:Shared}{h':Heap}{t':Nat}{fp:List Addr}{a:Addr}{o:HO}(I:Inv X pins σ H s)(k:∀b o,b∉fp->s.heap.get? b=some o->h'.get? b=some o)(f:∀b∈fp,g0 X pins H b)
  (hp:s.heap.objs.size<=a) (new:cH X.prog X.w (upd H a o) h' a o):Inv X pins σ (upd H a o) { s with heap:=h',toks:=t' }:=by
 have cY:H a=none:=I.cB.fresh hp;have p9:∀b u,H b=some u->b∉fp:=fun b u e z=>by rw[(f b z).1] at e;cases e
 refine I.step (g':=s.gens) (d':=s.drawn) (ch:=fp) (fun b hb=>⟨(f b hb).2.2.2.1,(f b hb).2.1,(f b hb).2.2.2.2.1,(f b hb).2.2.2.2.2⟩) (fun b o _ _ hc e _=>k b o hc e) (fun b o _ _ hc e _=>⟨o.slots,k b o hc e⟩)
  (fun b o _ q n=>by rw[cK (aP (aR (aB q) hp))];exact n)
  (fun b o hc e=>⟨o,k b o hc e⟩) (fun b zs q=>by rw[cK (i3 q cY)];exact q) (fun b ob zs q=>by rw[cK (i3 q cY)];exact q) (fun b ps q=>⟨#[],by rw[cK (i3 q cY),q];simp⟩) (fun m hm=>?_) (fun b u q=>?_) I.bare
 ·obtain⟨o,es,ep,ho,r⟩:=hm;exact⟨o,es,ep,k _ o (fun z=>(f _ z).2.1 rfl) ho,r⟩
 ·by_cases hb:b=a
  ·subst hb;rw[fq] at q;cases q;exact new
  ·rw[cK hb] at q;refine(I.cB b u q).gD (fun c v hc z=>k c v ?_ z) (fun c z=>by rw[cK (i3 z cY)];exact z) fun c zs z=>by rw[cK (i3 z cY)];exact z
   rcases hc with rfl | hc
   ·exact p9 _ _ q
   ·exact p9 _ _ hc
noncomputable def yN(x:Str):It:=⟨fun i _=>i<x.cps.size,fun i H v H'=>H'=H/\∃c,x.cps[i]?=some c/\v=.str ⟨#[c]⟩,fun i _=>i=x.cps.size⟩
theorem L0{P:Program}{w:World}{K:PySem.W.Frag}{tg:Expr}{x:Str}{it:Addr}{n:String}{t:Tok}(hn:["enumerate","zip","dict_itemiterator","dict_reverseitemiterator","odict_iterator","itertools.zip_longest","itertools.pairwise"].contains n=false)
  (W:∀A':Around,A'.handled=none->Walks P w A' it [it] [it] x.cps.size (SignAt x) (fun i h=>h.IsStrIter it n x t i))
  (hs:∀(A:Around) (i:Nat) (s:Shared) (Q:Value->Shared->Prop) (E:Value->Shared->Prop),s.heap.IsStrIter it n x t i->Q (.ref it) s->wpAny (model P w) A (pyIter (.ref it)) Q E s):Turn P w K tg (yN x) [it] it (fun i h=>h.IsStrIter it n x t i) where
 mem:=by simp
 obj:=fun i h st b hb=>by
  have e:b=it:=by simpa using hb
  subst e;obtain⟨o,e,c,d⟩:=st;exact⟨o,e,fun v z=>by rw[d] at z;cases z⟩
 keep:=fun i h h' st k=>by
  obtain⟨o,e,r⟩:=st;exact⟨o,k it (by simp) o e,r⟩
 item:=by
  intro X hP hw hK hc i pins s σ H E I hf st hg;subst hP hw hK;refine(W X.A (I.ok.hd hc)).item i s _ _ hg st fun v h' tk hv dZ kk=>?_
  obtain⟨c,u,hx,rfl⟩:=hv;have I1:Inv X pins σ H { s with heap:=h',toks:=tk }:=I.cZ kk hf;obtain⟨o,e,c',d⟩:=id dZ;exact⟨_,rfl,qv (s:={ s with heap:=h',toks:=tk }) e c' d hn ⟨.str ⟨#[c]⟩,H,I1,⟨u,rfl⟩,⟨rfl,c,hx,rfl⟩,dZ,fun b hb=>(hf b hb).1⟩⟩
 done:=by
  intro X hP hw hK hc i pins s σ H E I hf st hg;subst hP hw hK;have e:i=x.cps.size:=hg;subst e;exact(W X.A (I.ok.hd hc)).done s _ _ st fun h' tk kk=>⟨rfl,I.cZ kk hf⟩
 self:=hs
section
variable {X:Cx} {tg:Expr}
theorem IM{pins:List (Addr×Obj)}{σ:St}{H:Hp}{s:Shared}{R:It->Hp->Prop}{E:Value->Shared->Prop}{x:Str}{t:Tok}(I:Inv X pins σ H s)(q:R (yN x) H) :
  wpAny (model X.prog X.w) X.A (pyIter (.str x t)) (wN X pins σ tg R) E s:=by
 have fin:∀(o:Obj) (n:String),(hn:["enumerate","zip","dict_itemiterator","dict_reverseitemiterator","odict_iterator","itertools.zip_longest","itertools.pairwise"].contains n=false)->
   (W:∀A':Around,A'.handled=none->Walks X.prog X.w A' s.heap.objs.size [s.heap.objs.size] [s.heap.objs.size] x.cps.size (SignAt x) (fun i h=>h.IsStrIter s.heap.objs.size n x t i))->
   (hs:∀(A:Around) (i:Nat) (s':Shared) (Q:Value->Shared->Prop) (E:Value->Shared->Prop),s'.heap.IsStrIter s.heap.objs.size n x t i->Q (.ref s.heap.objs.size) s'->wpAny (model X.prog X.w) A (pyIter (.ref s.heap.objs.size)) Q E s')->
   (s.heap.push o).IsStrIter s.heap.objs.size n x t 0->wN X pins σ tg R (.ref s.heap.objs.size) { s with heap:=s.heap.push o }:=fun o n hn W hs st=>by
  refine⟨s.heap.objs.size,[s.heap.objs.size],_,_,H,rfl,I.kept (t':=s.toks) fun b o e=>aj _ e,L0 hn W hs,st,fun b hb=>?_,q⟩;have e:b=s.heap.objs.size:=by simpa using hb
  subst e;exact I.hZ (ay _) (I.cB.fresh (ay _))
 cases ha:x.cps.all (·<128)
 ·exact wpAny_pyIter_wide ha (fin _ _ (by decide) (fun A' hA=>Walks.strWide hA _ x t) (fun _ _ _ _ _ st q=>wpAny_pyIter_striter_wide st q) ⟨_,az _ rfl,rfl,rfl⟩)
 ·exact wpAny_pyIter_ascii ha (fin _ _ (by decide) (fun A' hA=>Walks.strAscii hA _ x t) (fun _ _ _ _ _ st q=>wpAny_pyIter_striter_ascii st q) ⟨_,az _ rfl,rfl,rfl⟩)
def HD(K:PySem.W.Frag)(tl:TE):TI:=fun σ H R=>tl σ H fun x H1=>(∃a,x=.ref a/\(∃xs,dP K H1 a xs)/\R (yP K a) H1)\/(∃a,x=.ref a/\(∃xs,dO K H1 a xs)/\R (CG K a) H1)\/(∃z,x=.str z/\R (yN z) H1)
theorem IL{l:Expr}{tl:TE}(hl:PE X l tl):PI X tg l (HD X.K tl):=by
 intro pins s σ H R I h;refine cA (hl pins s σ H _ I h) fun v s1 bW=>?_
 obtain⟨x,H1,I1,r1,q1⟩:=bW;rcases q1 with⟨a,e,⟨xs,hq⟩,q⟩ | ⟨a,e,⟨xs,hq⟩,q⟩ | ⟨z,e,q⟩
 ·subst e;cases r1;obtain⟨its,rv,p,hz⟩:=I1.list hq;refine wpAny_pyIter_list p.isList ?_;refine⟨s1.heap.objs.size,[s1.heap.objs.size],_,_,H1,rfl,I1.kept (t':=s1.toks) fun b o e=>aj _ e,FR a _,⟨_,az _ rfl,rfl,rfl⟩,fun b hb=>?_,q⟩;have e:b=s1.heap.objs.size:=by simpa using hb
  subst e;exact I1.hZ (ay _) (I1.cB.fresh (ay _))
 ·subst e;cases r1;obtain⟨its,rv,p,hz⟩:=I1.tuple hq;refine wpAny_pyIter_tuple (show s1.heap.IsTuple a its.toArray from p) ?_;refine⟨s1.heap.objs.size,[s1.heap.objs.size],_,_,H1,rfl,I1.kept (t':=s1.toks) fun b o e=>aj _ e,ML a _,⟨_,az _ rfl,rfl,rfl⟩,fun b hb=>?_,q⟩;have e:b=s1.heap.objs.size:=by simpa using hb
  subst e;exact I1.hZ (ay _) (I1.cB.fresh (ay _))
 ·subst e;obtain⟨t,rfl⟩:=r1;exact IM I1 q
end
noncomputable def CH(K:PySem.W.Frag)(a:Addr):It:=
 ⟨fun i H=>∃xs x,dP K H a xs/\xs[i]?=some x,fun i H v H'=>∃t,v=.ref t/\H t=none/\∀xs,dP K H a xs->∃x,xs[i]?=some x/\H'=upd H t (.tup [.int i,x]),fun i H=>∃xs,dP K H a xs/\xs.length<=i⟩
theorem DN{H:Hp}{t:Addr}{o:HO}{fp:List Addr}(h:∀b∈fp,H b=none)(ht:∀b∈fp,b≠t):∀b∈fp,upd H t o b=none:=fun b hb=>by rw[cK (ht b hb)];exact h b hb
theorem F3{prog:Program}{w:World}{A:Around}{E:Value->Shared->Prop}{s:Shared}{elts:List Expr}{x1}{pos:Pos}{e it T:Addr}{i:Int}{old:Value}{Q:Unit->Shared->Prop}(he:IsEnumOut s.heap e it i old T)
  (hQ:∀h',IsEnum h' e it i old->Heap.SameBut e s.heap h'->Q () { s with heap:=h' }) :
  wpAny (model prog w) A (letOwnedTupleGo (.Tuple elts x1 pos) (.ref e) (.ref T)) Q E s:=by
 unfold letOwnedTupleGo;refine aa (wpAny_load he ?_);show wpAny _ _ (if (["enumerate","zip","dict_itemiterator","dict_reverseitemiterator","odict_iterator","itertools.zip_longest","itertools.pairwise"].contains "enumerate" &&
   (#[rawInt T,.bool false,.ref it,rawInt i,.none,old]:Array Value)[0]?==some (rawInt T))=true then _ else _) Q E s
 rw[if_pos (by simp)];refine aa (wpAny_rule ?_);show wpAny _ _ (setField (.ref e) 0 .none) Q E s;exact wpAny_setField_rec he (by simp) fun h' PK oP=>hQ h' PK oP
theorem Me{P:Program}{w:World}{K:PySem.W.Frag}{elts:List Expr}{x1}{pos:Pos}(a e it:Addr)(du:e≠it):Turn P w K (.Tuple elts x1 pos) (CH K a) [e,it] e (fun i h=>(∃old,IsEnum h e it i old)/\h.IsListIter it a i) where
 mem:=by simp
 obj:=fun i h st b hb=>by
  obtain⟨⟨old,h1⟩,o,h2,c,d⟩:=st;rcases ar.mp hb with rfl | hb
  ·exact⟨_,h1,fun v z=>by have z':Data.fields _=Data.cell v:=z;cases z'⟩
  ·have e:b=it:=by simpa using hb
   subst e;exact⟨o,h2,fun v z=>by rw[d] at z;cases z⟩
 keep:=fun i h h' st k=>by
  obtain⟨⟨old,h1⟩,h2⟩:=st;exact⟨⟨old,k e (by simp) _ h1⟩,h2.at fun o q=>k it (by simp) o q⟩
 item:=by
  intro X hP hw hK hc i pins s σ H E I hf st hg;subst hP hw hK;obtain⟨xs,x,hq,hx⟩:=hg;obtain⟨its,rv,p,hz⟩:=I.list hq;obtain⟨u,hu,ru⟩:=rv.get hx;obtain⟨⟨old,h1⟩,h2⟩:=st;refine wpAny_pyNext_enum_item h1 h2 p.isList (x:=u) (by simpa using hu) du fun h' e1 e2 e3 e4 kk=>?_
  refine⟨_,rfl,F3 e1 fun wx e5 sb=>?_⟩;have rg:s.heap.objs.size≠e:=Nat.ne_of_gt (aB h1);have BH:s.heap.objs.size≠it:=by obtain⟨o,q,_⟩:=h2;exact Nat.ne_of_gt (aB q)
  have hT:wx.get? s.heap.objs.size=some { cls:=.type "tuple",data:=.seq #[.int i s.toks,u] }:=sb.extBut _ _ rg e3;have cY:H s.heap.objs.size=none:=I.cB.fresh (ay _);have new:cH X.prog X.w (upd H s.heap.objs.size (.tup [.int i,x])) wx s.heap.objs.size (.tup [.int i,x]):=⟨DP,[.int i s.toks,u],.cons ⟨_,rfl⟩ (.cons ru .nil),⟨_,hT,rfl,_,rfl⟩⟩
  refine⟨.ref s.heap.objs.size,upd H s.heap.objs.size (.tup [.int i,x]),I.iL (fp:=[e,it]) (fun b o hb q=>sb.extBut b o (fun z=>hb (by simp[z])) (kk b o (fun z=>hb (by simp[z])) (fun z=>hb (by simp[z])) q)) hf (ay _) new,rfl,
   ⟨_,rfl,cY,fun ys hy=>⟨x,by rw[I.g8 hy hq];exact hx,rfl⟩⟩,⟨⟨u,e5⟩,e2.extBut sb.extBut (Ne.symm du)⟩,DN (fun b hb=>(hf b hb).1) fun b hb=>?_⟩
  rcases ar.mp hb with rfl | hb
  ·exact rg.symm
  ·have z:b=it:=by simpa using hb
   rw[z];exact BH.symm
 done:=by
  intro X hP hw hK hc i pins s σ H E I hf st hg;subst hP hw hK;obtain⟨xs,hq,hx⟩:=hg;obtain⟨its,rv,p,hz⟩:=I.list hq;obtain⟨⟨old,h1⟩,h2⟩:=st;have hl:=rv.length;exact wpAny_pyNext_enum_end (I.ok.hd hc) h1 h2 p.isList (by simp;omega) fun h' eb=>⟨rfl,I.cZ (fp:=[e,it]) (t':=s.toks) (fun b o hb q=>eb b o (fun z=>hb (by simp[z])) q) hf⟩
 self:=fun _ _ _ _ _ st h=>by
  obtain⟨⟨old,h1⟩,_⟩:=st;exact wpAny_pyIter_enum h1 h
end L2
namespace L2
open PySem PySem.Spec PyProof.Rows
section
variable {X:Cx} {elts:List Expr} {x1:Nat} {mT:Pos}
def Iy(K:PySem.W.Frag)(ta:TA):TI:=fun σ H R=>ta σ H fun vs H1=>∃a xs,vs=[.ref a]/\iu K H1 a xs/\R (CH K a) H1
theorem Kr{a:Expr}{ta:TA}{p pos:Pos}(hg:Gl X "enumerate")(hm:X.mg "enumerate"=none)(ha:PA X [a] ta)(hs:starEach [a] X.env=[(false,eval a X.env)]:=by rfl):PI X (.Tuple elts x1 mT) (.Call (.Name "enumerate" p) [a] [] pos) (Iy X.K ta):=by
 intro pins s σ H R I h;refine Call_ (pJ I hg hm boot_enumerate (PyProof.Rows.callWith_type1 (cA (ha pos pins s σ H _ I h) fun us s1 bW=>?_) hs rfl));obtain⟨vs,H1,I1,r1,q1⟩:=bW;obtain⟨l,xs,e,hl,q⟩:=q1;subst e;obtain⟨u,rfl,ru⟩:=mi r1;cases ru;obtain⟨z,its,n,r,e⟩:=I1.ft hl;refine call_enumerate_1 e fun h' e1 e2 e3 kk=>?_
 refine wpAny_pyIter_enum e1 ?_;have du:s1.heap.objs.size+1≠s1.heap.objs.size:=by omega
 refine⟨s1.heap.objs.size+1,[s1.heap.objs.size+1,s1.heap.objs.size],_,_,H1,rfl,I1.kept (t':=s1.toks) kk,Me l _ _ du,⟨⟨_,e1⟩,e2⟩,fun b hb=>?_,q⟩;have iV:s1.heap.objs.size<=b:=by
  rcases ar.mp hb with rfl | hb
  ·exact Nat.le_succ _
  ·have e:b=s1.heap.objs.size:=by simpa using hb
   exact Nat.le_of_eq e.symm
 exact I1.hZ iV (I1.cB.fresh iV)
end
end L2
namespace L2
open PySem PySem.Spec PyProof.Rows
inductive D where
 | non | bl (b:Bool) | int (i:Int) | str (x:Str) | tup (ds:List D) | lst (ds:List D) | obj (cn:Str) (fs:List (Str×D)) | dic (bL:List (Key×D)) | dit (bL:List (List Key×D)) | exc (cn:Str)
structure ClsAt (K:PySem.W.Frag) (cn:Str) (C:Addr):Prop where
 at_:PySem.W.nsIn K mainGlobals cn=some (some (.ref C))
 cls:Ri K C
def cC(H:Hp):List (List Key×V)->List Addr->Prop
 | [],[]=>True
 | p::ps,b::bs=>H b=some (.tup (p.1.map kV))/\cC H ps bs
 | _,_=>False
theorem cC.mono{H H':Hp}(e:bT H H'):∀{ps:List (List Key×V)} {bs:List Addr},cC H ps bs->cC H' ps bs
 | [],[],h=>h
 | p::ps,b::bs,h=>⟨e _ _ h.1,cC.mono e h.2⟩
 | [],_::_,h=>h.elim
 | _::_,[],h=>h.elim
mutual
def Rep(K:PySem.W.Frag)(H:Hp):V->D->Prop
 | v,.non=>v=.non
 | v,.bl b=>v=.bl b
 | v,.int i=>v=.int i
 | v,.str x=>v=.str x
 | v,.tup ds=>∃a xs,v=.ref a/\H a=some (.tup xs)/\bJ K H xs ds
 | v,.lst ds=>∃a xs,v=.ref a/\iu K H a xs/\bJ K H xs ds
 | v,.obj cn fs=>∃a C dx gs,v=.ref a/\H a=some (.ins C dx gs)/\ClsAt K cn C/\(∀p∈fs,DV K C p.1)/\ff K H gs fs
 | v,.dic bL=>∃a ks ep,v=.ref a/\H a=some (.dK ks ep)/\dR K H ks bL
 | v,.dit bL=>∃a ks bs,v=.ref a/\H a=some (.dT ks bs)/\cC H ks bs.1/\bS K H ks bL
 | v,.exc cn=>∃a φ C,v=.ref a/\H a=some (.ext φ)/\PySem.W.nsIn K mainGlobals cn=some (some (.ref C))/\∀h:Heap,φ h->∃o,h.get? a=some o/\o.cls=.ref C
def bJ(K:PySem.W.Frag)(H:Hp):List V->List D->Prop
 | [],[]=>True
 | v::vs,d::ds=>Rep K H v d/\bJ K H vs ds
 | _,_=>False
def ff(K:PySem.W.Frag)(H:Hp):List (Str×V)->List (Str×D)->Prop
 | [],[]=>True
 | v::vs,d::ds=>(v.1=d.1/\Rep K H v.2 d.2)/\ff K H vs ds
 | _,_=>False
def dR(K:PySem.W.Frag)(H:Hp):List (Key×V)->List (Key×D)->Prop
 | [],[]=>True
 | v::vs,d::ds=>(v.1=d.1/\Rep K H v.2 d.2)/\dR K H vs ds
 | _,_=>False
def bS(K:PySem.W.Frag)(H:Hp):List (List Key×V)->List (List Key×D)->Prop
 | [],[]=>True
 | v::vs,d::ds=>(v.1=d.1/\Rep K H v.2 d.2)/\bS K H vs ds
 | _,_=>False
end
theorem bT.jL{K:PySem.W.Frag}{H H':Hp}{a:Addr}{xs:List V}(e:bT H H')(h:H a=some (.tup xs)):dO K H' a xs:=dO.of (e _ _ h)
theorem bT.mY{K:PySem.W.Frag}{H H':Hp}{a:Addr}{xs:List V}(e:bT H H')(h:dO K H a xs):dO K H' a xs:=by
 rcases h with(h | ⟨o,h⟩) | h
 ·exact .inl (.inl (e _ _ h))
 ·exact .inl (.inr ⟨o,e _ _ h⟩)
 ·exact .inr h
mutual
theorem Rep.mono{K:PySem.W.Frag}{H H':Hp}(e:bT H H'):∀(v:V) (d:D),Rep K H v d->Rep K H' v d
 | v,.non,h=>by simpa only[Rep] using h
 | v,.bl b,h=>by simpa only[Rep] using h
 | v,.int i,h=>by simpa only[Rep] using h
 | v,.str x,h=>by simpa only[Rep] using h
 | v,.tup ds,h=>by
  simp only[Rep] at h ⊢;obtain⟨a,xs,h1,h2,h3⟩:=h;exact⟨a,xs,h1,e _ _ h2,bJ.mono e xs ds h3⟩
 | v,.lst ds,h=>by
  simp only[Rep] at h ⊢;obtain⟨a,xs,h1,h2,h3⟩:=h;exact⟨a,xs,h1,e.ft h2,bJ.mono e xs ds h3⟩
 | v,.obj cn fs,h=>by
  simp only[Rep] at h ⊢;obtain⟨a,C,dx,gs,h1,h2,h3,h4,h5⟩:=h;exact⟨a,C,dx,gs,h1,e _ _ h2,h3,h4,ff.mono e gs fs h5⟩
 | v,.dic bL,h=>by
  simp only[Rep] at h ⊢;obtain⟨a,ks,ep,h1,h2,h3⟩:=h;exact⟨a,ks,ep,h1,e _ _ h2,dR.mono e ks bL h3⟩
 | v,.dit bL,h=>by
  simp only[Rep] at h ⊢;obtain⟨a,ks,bs,h1,h2,h3,h4⟩:=h;exact⟨a,ks,bs,h1,e _ _ h2,h3.mono e,bS.mono e ks bL h4⟩
 | v,.exc cn,h=>by
  simp only[Rep] at h ⊢;obtain⟨a,φ,C,h1,h2,h3,h4⟩:=h;exact⟨a,φ,C,h1,e _ _ h2,h3,h4⟩
theorem bJ.mono{K:PySem.W.Frag}{H H':Hp}(e:bT H H'):∀(vs:List V) (ds:List D),bJ K H vs ds->bJ K H' vs ds
 | [],[],h=>by simp only[bJ]
 | v::vs,d::ds,h=>by
  simp only[bJ] at h ⊢;exact⟨Rep.mono e v d h.1,bJ.mono e vs ds h.2⟩
 | [],_::_,h=>by simp only[bJ] at h
 | _::_,[],h=>by simp only[bJ] at h
theorem ff.mono{K:PySem.W.Frag}{H H':Hp}(e:bT H H'):∀(vs:List (Str×V)) (ds:List (Str×D)),ff K H vs ds->ff K H' vs ds
 | [],[],h=>by simp only[ff]
 | (x,v)::vs,(y,d)::ds,h=>by
  simp only[ff] at h ⊢;exact⟨⟨h.1.1,Rep.mono e v d h.1.2⟩,ff.mono e vs ds h.2⟩
 | [],_::_,h=>by simp only[ff] at h
 | _::_,[],h=>by simp only[ff] at h
theorem dR.mono{K:PySem.W.Frag}{H H':Hp}(e:bT H H'):∀(vs:List (Key×V)) (ds:List (Key×D)),dR K H vs ds->dR K H' vs ds
 | [],[],h=>by simp only[dR]
 | (x,v)::vs,(y,d)::ds,h=>by
  simp only[dR] at h ⊢;exact⟨⟨h.1.1,Rep.mono e v d h.1.2⟩,dR.mono e vs ds h.2⟩
 | [],_::_,h=>by simp only[dR] at h
 | _::_,[],h=>by simp only[dR] at h
theorem bS.mono{K:PySem.W.Frag}{H H':Hp}(e:bT H H'):∀(vs:List (List Key×V)) (ds:List (List Key×D)),bS K H vs ds->bS K H' vs ds
 | [],[],h=>by simp only[bS]
 | (x,v)::vs,(y,d)::ds,h=>by
  simp only[bS] at h ⊢;exact⟨⟨h.1.1,Rep.mono e v d h.1.2⟩,bS.mono e vs ds h.2⟩
 | [],_::_,h=>by simp only[bS] at h
 | _::_,[],h=>by simp only[bS] at h
end
section
variable {K:PySem.W.Frag} {H H':Hp}
theorem bJ.length:∀{vs:List V} {ds:List D},bJ K H vs ds->vs.length=ds.length
 | [],[],_=>rfl
 | v::vs,d::ds,h=>by
  simp only[bJ] at h;simp only[aI,bJ.length h.2]
 | [],_::_,h=>by simp only[bJ] at h
 | _::_,[],h=>by simp only[bJ] at h
theorem bJ.get:∀{vs:List V} {ds:List D} {i:Nat} {d:D},bJ K H vs ds->ds[i]?=some d->∃v,vs[i]?=some v/\Rep K H v d
 | [],[],i,d,_,e=>by simp at e
 | v::vs,d'::ds,0,d,h,e=>by
  simp only[bJ] at h;simp only[List.getElem?_cons_zero,aG] at e;subst e;exact⟨v,rfl,h.1⟩
 | v::vs,d'::ds,i+1,d,h,e=>by
  simp only[bJ] at h;simp only[List.getElem?_cons_succ] at e ⊢;exact bJ.get h.2 e
 | [],_::_,_,_,h,_=>by simp only[bJ] at h
 | _::_,[],_,_,h,_=>by simp only[bJ] at h
theorem bJ.wy:∀{vs:List V} {ds:List D} {i:Nat} {v:V},bJ K H vs ds->vs[i]?=some v->∃d,ds[i]?=some d/\Rep K H v d
 | [],[],i,d,_,e=>by simp at e
 | v'::vs,d::ds,0,v,h,e=>by
  simp only[bJ] at h;simp only[List.getElem?_cons_zero,aG] at e;subst e;exact⟨d,rfl,h.1⟩
 | v'::vs,d::ds,i+1,v,h,e=>by
  simp only[bJ] at h;simp only[List.getElem?_cons_succ] at e ⊢;exact bJ.wy h.2 e
 | [],_::_,_,_,h,_=>by simp only[bJ] at h
 | _::_,[],_,_,h,_=>by simp only[bJ] at h
theorem bJ.nil:bJ K H [] []:=by simp only[bJ]
theorem bJ.cons{v:V}{vs:List V}{d:D}{ds:List D}(h:Rep K H v d)(hs:bJ K H vs ds):bJ K H (v::vs) (d::ds):=by simp only[bJ];exact⟨h,hs⟩
theorem bJ.append:∀{vs:List V} {ds:List D} {us:List V} {es:List D},bJ K H vs ds->bJ K H us es->bJ K H (vs++us) (ds++es)
 | [],[],_,_,_,h=>h
 | v::vs,d::ds,_,_,h,h'=>by
  simp only[bJ] at h;exact bJ.cons h.1 (bJ.append h.2 h')
 | [],_::_,_,_,h,_=>by simp only[bJ] at h
 | _::_,[],_,_,h,_=>by simp only[bJ] at h
theorem bJ.take:∀{vs:List V} {ds:List D} (n:Nat),bJ K H vs ds->bJ K H (vs.take n) (ds.take n)
 | _,_,0,_=>bJ.nil
 | [],[],_+1,_=>bJ.nil
 | v::vs,d::ds,n+1,h=>by
  simp only[bJ] at h;exact bJ.cons h.1 (bJ.take n h.2)
 | [],_::_,_+1,h=>by simp only[bJ] at h
 | _::_,[],_+1,h=>by simp only[bJ] at h
theorem bJ.drop:∀{vs:List V} {ds:List D} (n:Nat),bJ K H vs ds->bJ K H (vs.drop n) (ds.drop n)
 | _,_,0,h=>h
 | [],[],_+1,_=>bJ.nil
 | v::vs,d::ds,n+1,h=>by
  simp only[bJ] at h;exact bJ.drop n h.2
 | [],_::_,_+1,h=>by simp only[bJ] at h
 | _::_,[],_+1,h=>by simp only[bJ] at h
theorem bJ.set:∀{vs:List V} {ds:List D} {v:V} {d:D} (n:Nat),bJ K H vs ds->Rep K H v d->bJ K H (vs.set n v) (ds.set n d)
 | [],[],_,_,_,_,_=>bJ.nil
 | v'::vs,d'::ds,v,d,0,h,q=>by
  simp only[bJ] at h;exact bJ.cons q h.2
 | v'::vs,d'::ds,v,d,n+1,h,q=>by
  simp only[bJ] at h;exact bJ.cons h.1 (bJ.set n h.2 q)
 | [],_::_,_,_,_,h,_=>by simp only[bJ] at h
 | _::_,[],_,_,_,h,_=>by simp only[bJ] at h
end
structure Ext (G H G' H':Hp):Prop where
 g:bT G G'
 h:bT H H'
 s:bT G' H'
 n:∀p,G p=none->H p≠none->G' p=none
theorem Ext.refl{G H:Hp}(s:bT G H):Ext G H G H:=⟨bT.refl _,bT.refl _,s,fun _ h _=>h⟩
theorem Ext.trans{G H G1 H1 G2 H2:Hp}(a:Ext G H G1 H1)(b:Ext G1 H1 G2 H2):Ext G H G2 H2:=
 ⟨a.g.trans b.g,a.h.trans b.h,b.s,fun p h1 h2=>b.n p (a.n p h1 h2) fun z=>h2 (a.h.free z)⟩
theorem pP{H:Hp}{p:Addr}{o:HO}(h:H p=none):bT H (upd H p o):=fun b u e=>by rw[cK (i3 e h)];exact e
theorem Md{G H:Hp}{p:Addr}{o:HO}(s:bT G H):bT (upd G p o) (upd H p o):=fun b u e=>by
 by_cases hb:b=p
 ·subst hb;rw[fq] at e ⊢;exact e
 ·rw[cK hb] at e ⊢;exact s b u e
theorem Ext.new{G H:Hp}{p:Addr}{o:HO}(s:bT G H)(h:H p=none):Ext G H (upd G p o) (upd H p o):=
 ⟨pP (s.free h),pP h,Md s,fun q h1 h2=>by rw[cK (fun z=>h2 (by rw[z];exact h))];exact h1⟩
theorem Ext.own{G H:Hp}{p:Addr}{o:HO}(s:bT G H)(h:H p=none):Ext G H G (upd H p o):=
 ⟨bT.refl _,pP h,s.trans (pP h),fun q h1 _=>h1⟩
inductive OV where
 | ll (cj:List (List D))
 | dc (bL:List (Key×D))
 | dl (bL:List (Key×List D))
 | tl (d:D) (ds:List D)
 | ld (rG:List (List (Key×D)))
 | dt (bL:List (List Key×List D))
 | tp (ds:List D)
 | ob (cn:Str) (fs:List (Str×List D))
 | dq (bL:List (List Key×D))
noncomputable def OV.val:OV->D
 | .ll cj=>.lst (cj.map .lst)
 | .dc bL=>.dic bL
 | .dl bL=>.dic (bL.map fun p=>(p.1,.lst p.2))
 | .tl d ds=>.tup [d,.lst ds]
 | .ld rG=>.lst (rG.map .dic)
 | .dt bL=>.dit (bL.map fun p=>(p.1,.lst p.2))
 | .tp ds=>.tup ds
 | .ob cn fs=>.obj cn (fs.map fun p=>(p.1,.lst p.2))
 | .dq bL=>.dit bL
inductive R where
 | fz (d:D)
 | ow (ds:List D)
 | ov (o:OV)
noncomputable def R.val:R->D
 | .fz d=>d
 | .ow ds=>.lst ds
 | .ov o=>o.val
inductive Sl where
 | un
 | fz (d:D)
 | ow (ds:List D)
 | ov (o:OV)
noncomputable def R.sl:R->Sl
 | .fz d=>.fz d
 | .ow ds=>.ow ds
 | .ov o=>.ov o
def bR(K:PySem.W.Frag)(G H:Hp):List Addr->List (List D)->Prop
 | [],[]=>True
 | q::qs,ds::cj=>(∃xs,H q=some (.lst xs)/\bJ K G xs ds)/\bR K G H qs cj
 | _,_=>False
theorem bR.mono{K:PySem.W.Frag}{G H G' H':Hp}(g:bT G G'):∀{qs:List Addr} {cj:List (List D)},(∀q∈qs,∀xs,H q=some (.lst xs)->H' q=some (.lst xs))->bR K G H qs cj->bR K G' H' qs cj
 | [],[],_,_=>by simp only[bR]
 | q::qs,ds::cj,hh,h=>by
  simp only[bR] at h ⊢;obtain⟨⟨xs,h1,h2⟩,h3⟩:=h;exact⟨⟨xs,hh q (by simp) xs h1,h2.mono g⟩,bR.mono g (fun r hr=>hh r (by simp[hr])) h3⟩
 | [],_::_,_,h=>by simp only[bR] at h
 | _::_,[],_,h=>by simp only[bR] at h
theorem bR.here{K:PySem.W.Frag}{G H:Hp}:∀{qs:List Addr} {cj:List (List D)},bR K G H qs cj->∀q∈qs,H q≠none
 | [],[],_,q,hq=>by cases hq
 | q::qs,ds::cj,h,r,hr=>by
  simp only[bR] at h;obtain⟨⟨xs,h1,h2⟩,h3⟩:=h;rcases ar.mp hr with rfl | hr
  ·rw[h1];exact nofun
  ·exact bR.here h3 r hr
 | [],_::_,h,_,_=>by simp only[bR] at h
 | _::_,[],h,_,_=>by simp only[bR] at h
theorem bR.jN{K:PySem.W.Frag}{G H G':Hp}(g:bT G G'):∀{qs:List Addr} {cj:List (List D)},(∀q∈qs,∀xs,H q=some (.lst xs)->G' q=some (.lst xs))->bR K G H qs cj->bJ K G' (qs.map V.ref) (cj.map D.lst)
 | [],[],_,_=>bJ.nil
 | q::qs,ds::cj,hh,h=>by
  simp only[bR] at h;obtain⟨⟨xs,h1,h2⟩,h3⟩:=h;refine bJ.cons ?_ (bR.jN g (fun r hr=>hh r (by simp[hr])) h3);simp only[Rep];exact⟨q,xs,rfl,iu.of (hh q (by simp) xs h1),h2.mono g⟩
 | [],_::_,_,h=>by simp only[bR] at h
 | _::_,[],_,h=>by simp only[bR] at h
def dB(K:PySem.W.Frag)(G H:Hp):List Addr->List (List (Key×D))->Prop
 | [],[]=>True
 | q::qs,ds::cj=>(∃ks ep,H q=some (.dK ks ep)/\dR K G ks ds)/\dB K G H qs cj
 | _,_=>False
theorem dB.mono{K:PySem.W.Frag}{G H G' H':Hp}(g:bT G G'):∀{qs:List Addr} {cj:List (List (Key×D))},(∀q∈qs,∀u,H q=some u->H' q=some u)->dB K G H qs cj->dB K G' H' qs cj
 | [],[],_,_=>by simp only[dB]
 | q::qs,ds::cj,hh,h=>by
  simp only[dB] at h ⊢;obtain⟨⟨ks,ep,h1,h2⟩,h3⟩:=h;exact⟨⟨ks,ep,hh q (by simp) _ h1,dR.mono g _ _ h2⟩,dB.mono g (fun r hr=>hh r (by simp[hr])) h3⟩
 | [],_::_,_,h=>by simp only[dB] at h
 | _::_,[],_,h=>by simp only[dB] at h
theorem dB.kind{K:PySem.W.Frag}{G H:Hp}:∀{qs:List Addr} {cj:List (List (Key×D))},dB K G H qs cj->∀q∈qs,∃ks ep,H q=some (.dK ks ep)
 | [],[],_,q,hq=>by cases hq
 | q::qs,ds::cj,h,r,hr=>by
  simp only[dB] at h;obtain⟨⟨ks,ep,h1,h2⟩,h3⟩:=h;rcases ar.mp hr with rfl | hr
  ·exact⟨ks,ep,h1⟩
  ·exact dB.kind h3 r hr
 | [],_::_,h,_,_=>by simp only[dB] at h
 | _::_,[],h,_,_=>by simp only[dB] at h
theorem dB.here{K:PySem.W.Frag}{G H:Hp}{qs:List Addr}{cj:List (List (Key×D))}(h:dB K G H qs cj):∀q∈qs,H q≠none:=fun q hq=>by
 obtain⟨ks,ep,e⟩:=h.kind q hq;rw[e];exact nofun
theorem dB.jN{K:PySem.W.Frag}{G H G':Hp}(g:bT G G'):∀{qs:List Addr} {cj:List (List (Key×D))},(∀q∈qs,∀u,H q=some u->G' q=some u)->dB K G H qs cj->bJ K G' (qs.map V.ref) (cj.map D.dic)
 | [],[],_,_=>bJ.nil
 | q::qs,ds::cj,hh,h=>by
  simp only[dB] at h;obtain⟨⟨ks,ep,h1,h2⟩,h3⟩:=h;refine bJ.cons ?_ (dB.jN g (fun r hr=>hh r (by simp[hr])) h3);simp only[Rep];exact⟨q,ks,ep,rfl,hh q (by simp) _ h1,dR.mono g _ _ h2⟩
 | [],_::_,_,h=>by simp only[dB] at h
 | _::_,[],_,h=>by simp only[dB] at h
def gK(K:PySem.W.Frag)(G H:Hp)(p:Addr)(fp:List Addr):OV->Prop
 | .ll cj=>H p=some (.lst (fp.map V.ref))/\bR K G H fp cj
 | .dc bL=>fp=[]/\∃ks ep,H p=some (.dK ks ep)/\dR K G ks bL
 | .dl bL=>∃ks ep,H p=some (.dK ks ep)/\ks.map (·.1)=bL.map (·.1)/\ks.map (·.2)=fp.map V.ref/\bR K G H fp (bL.map (·.2))
 | .tl d ds=>∃q v xs,fp=[q]/\H p=some (.tup [v,.ref q])/\Rep K G v d/\H q=some (.lst xs)/\bJ K G xs ds
 | .ld rG=>H p=some (.lst (fp.map V.ref))/\dB K G H fp rG
 | .dt bL=>∃ks bs,H p=some (.dT ks bs)/\cC G ks bs.1/\ks.map (·.1)=bL.map (·.1)/\ks.map (·.2)=fp.map V.ref/\bR K G H fp (bL.map (·.2))
 | .tp ds=>fp=[]/\∃xs,H p=some (.tup xs)/\bJ K G xs ds
 | .ob cn fs=>∃C dx gs,H p=some (.ins C dx gs)/\ClsAt K cn C/\(∀p∈fs,DV K C p.1)/\gs.map (·.1)=fs.map (·.1)/\gs.map (·.2)=fp.map V.ref/\bR K G H fp (fs.map (·.2))
 | .dq bL=>fp=[]/\∃ks bs,H p=some (.dT ks bs)/\cC G ks bs.1/\bS K G ks bL
theorem gK.here{K:PySem.W.Frag}{G H:Hp}{p:Addr}{fp:List Addr}{o:OV}(h:gK K G H p fp o):∀q∈p::fp,H q≠none:=by
 intro q hq;cases o with
 | ll cj=>
  rcases ar.mp hq with rfl | hq
  ·rw[h.1];exact nofun
  ·exact h.2.here q hq
 | dc bL=>
  obtain⟨rfl,ks,ep,h1,_⟩:=h;simp only[aV] at hq;subst hq;rw[h1];exact nofun
 | dl bL=>
  obtain⟨ks,ep,h1,_,_,h4⟩:=h;rcases ar.mp hq with rfl | hq
  ·rw[h1];exact nofun
  ·exact h4.here q hq
 | tl d ds=>
  obtain⟨r,v,xs,rfl,h1,_,h2,_⟩:=h;simp only[ar,List.not_mem_nil,or_false] at hq;rcases hq with rfl | rfl
  ·rw[h1];exact nofun
  ·rw[h2];exact nofun
 | ld rG=>
  rcases ar.mp hq with rfl | hq
  ·rw[h.1];exact nofun
  ·exact h.2.here q hq
 | dt bL=>
  obtain⟨ks,bs,h1,_,_,_,h4⟩:=h;rcases ar.mp hq with rfl | hq
  ·rw[h1];exact nofun
  ·exact h4.here q hq
 | tp ds=>
  obtain⟨rfl,xs,h1,_⟩:=h;simp only[aV] at hq;subst hq;rw[h1];exact nofun
 | ob cn fs=>
  obtain⟨C,dx,gs,h1,_,_,_,_,h4⟩:=h;rcases ar.mp hq with rfl | hq
  ·rw[h1];exact nofun
  ·exact h4.here q hq
 | dq bL=>
  obtain⟨rfl,ks,bs,h1,_⟩:=h;simp only[aV] at hq;subst hq;rw[h1];exact nofun
theorem bR.kind{K:PySem.W.Frag}{G H:Hp}:∀{qs:List Addr} {cj:List (List D)},bR K G H qs cj->∀q∈qs,∃xs,H q=some (.lst xs)
 | [],[],_,q,hq=>by cases hq
 | q::qs,ds::cj,h,r,hr=>by
  simp only[bR] at h;obtain⟨⟨xs,h1,h2⟩,h3⟩:=h;rcases ar.mp hr with rfl | hr
  ·exact⟨xs,h1⟩
  ·exact bR.kind h3 r hr
 | [],_::_,h,_,_=>by simp only[bR] at h
 | _::_,[],h,_,_=>by simp only[bR] at h
theorem gK.mono{K:PySem.W.Frag}{G H G' H':Hp}{p:Addr}{fp:List Addr}{o:OV}(g:bT G G')(hh:∀q∈p::fp,∀u,H q=some u->H' q=some u)(h:gK K G H p fp o):gK K G' H' p fp o:=by
 cases o with
 | ll cj=>exact⟨hh p (by simp) _ h.1,h.2.mono g fun q hq xs=>hh q (by simp[hq]) _⟩
 | dc bL=>
  obtain⟨rfl,ks,ep,h1,h2⟩:=h;exact⟨rfl,ks,ep,hh p (by simp) _ h1,dR.mono g _ _ h2⟩
 | dl bL=>
  obtain⟨ks,ep,h1,h2,h3,h4⟩:=h;exact⟨ks,ep,hh p (by simp) _ h1,h2,h3,h4.mono g fun q hq xs=>hh q (by simp[hq]) _⟩
 | tl d ds=>
  obtain⟨r,v,xs,rfl,h1,h2,h3,h4⟩:=h;exact⟨r,v,xs,rfl,hh p (by simp) _ h1,h2.mono g,hh r (by simp) _ h3,h4.mono g⟩
 | ld rG=>exact⟨hh p (by simp) _ h.1,h.2.mono g fun q hq=>hh q (by simp[hq])⟩
 | dt bL=>
  obtain⟨ks,bs,h1,hk,h2,h3,h4⟩:=h;exact⟨ks,bs,hh p (by simp) _ h1,hk.mono g,h2,h3,h4.mono g fun q hq xs=>hh q (by simp[hq]) _⟩
 | tp ds=>
  obtain⟨rfl,xs,h1,h2⟩:=h;exact⟨rfl,xs,hh p (by simp) _ h1,h2.mono g⟩
 | ob cn fs=>
  obtain⟨C,dx,gs,h1,hc,hn,h2,h3,h4⟩:=h;exact⟨C,dx,gs,hh p (by simp) _ h1,hc,hn,h2,h3,h4.mono g fun q hq xs=>hh q (by simp[hq]) _⟩
 | dq bL=>
  obtain⟨rfl,ks,bs,h1,hk,h2⟩:=h;exact⟨rfl,ks,bs,hh p (by simp) _ h1,hk.mono g,bS.mono g _ _ h2⟩
theorem dR.c8{K:PySem.W.Frag}{G:Hp}:∀{ks:List (Key×V)} {bL:List (Key×List D)} {fp:List Addr},ks.map (·.1)=bL.map (·.1)->ks.map (·.2)=fp.map V.ref->bJ K G (fp.map V.ref) ((bL.map (·.2)).map D.lst)->dR K G ks (bL.map fun p=>(p.1,.lst p.2))
 | [],[],_,_,_,_=>by simp only[bG,dR]
 | a::ks,b::bL,fp,h1,h2,h3=>by
  simp only[ao,List.cons.injEq] at h1;cases fp with
  | nil=>simp at h2
  | cons q fp=>
   simp only[ao,List.cons.injEq] at h2;simp only[ao,bJ] at h3;simp only[ao,dR];exact⟨⟨h1.1,by rw[h2.1];exact h3.1⟩,dR.c8 h1.2 h2.2 h3.2⟩
 | [],_::_,_,h,_,_=>by simp at h
 | _::_,[],_,h,_,_=>by simp at h
theorem bS.c8{K:PySem.W.Frag}{G:Hp}:∀{ks:List (List Key×V)} {bL:List (List Key×List D)} {fp:List Addr},ks.map (·.1)=bL.map (·.1)->ks.map (·.2)=fp.map V.ref->bJ K G (fp.map V.ref) ((bL.map (·.2)).map D.lst)->bS K G ks (bL.map fun p=>(p.1,.lst p.2))
 | [],[],_,_,_,_=>by simp only[bG,bS]
 | a::ks,b::bL,fp,h1,h2,h3=>by
  simp only[ao,List.cons.injEq] at h1;cases fp with
  | nil=>simp at h2
  | cons q fp=>
   simp only[ao,List.cons.injEq] at h2;simp only[ao,bJ] at h3;simp only[ao,bS];exact⟨⟨h1.1,by rw[h2.1];exact h3.1⟩,bS.c8 h1.2 h2.2 h3.2⟩
 | [],_::_,_,h,_,_=>by simp at h
 | _::_,[],_,h,_,_=>by simp at h
theorem ff.c8{K:PySem.W.Frag}{G:Hp}:∀{ks:List (Str×V)} {bL:List (Str×List D)} {fp:List Addr},ks.map (·.1)=bL.map (·.1)->ks.map (·.2)=fp.map V.ref->bJ K G (fp.map V.ref) ((bL.map (·.2)).map D.lst)->ff K G ks (bL.map fun p=>(p.1,.lst p.2))
 | [],[],_,_,_,_=>by simp only[bG,ff]
 | a::ks,b::bL,fp,h1,h2,h3=>by
  simp only[ao,List.cons.injEq] at h1;cases fp with
  | nil=>simp at h2
  | cons q fp=>
   simp only[ao,List.cons.injEq] at h2;simp only[ao,bJ] at h3;simp only[ao,ff];exact⟨⟨h1.1,by rw[h2.1];exact h3.1⟩,ff.c8 h1.2 h2.2 h3.2⟩
 | [],_::_,_,h,_,_=>by simp at h
 | _::_,[],_,h,_,_=>by simp at h
noncomputable def lA(G H:Hp)(l:List Addr):Hp:=fun a=>if a∈l then H a else G a
theorem nU{G H:Hp}{l:List Addr}{a:Addr}(h:a∈l):lA G H l a=H a:=if_pos h
theorem mS{G H:Hp}{l:List Addr}{a:Addr}(h:a∉l):lA G H l a=G a:=if_neg h
theorem uH{G H:Hp}{l:List Addr}(h:∀q∈l,G q=none):bT G (lA G H l):=fun b u e=>by
 rw[mS (fun z=>by rw[h b z] at e;cases e)];exact e
theorem gK.freeze{K:PySem.W.Frag}{G H:Hp}{p:Addr}{fp:List Addr}{o:OV}(h:gK K G H p fp o)(hn:∀q∈p::fp,G q=none):Rep K (lA G H (p::fp)) (.ref p) o.val:=by
 have hs:=uH (H:=H) hn;have hp:lA G H (p::fp) p=H p:=nU (by simp);cases o with
 | ll cj=>
  simp only[OV.val,Rep];exact⟨p,_,rfl,iu.of (by rw[hp];exact h.1),h.2.jN hs fun q hq xs e=>by rw[nU (by simp[hq])];exact e⟩
 | dc bL=>
  obtain⟨rfl,ks,ep,h1,h2⟩:=h;simp only[OV.val,Rep];exact⟨p,ks,ep,rfl,by rw[hp];exact h1,dR.mono hs _ _ h2⟩
 | dl bL=>
  obtain⟨ks,ep,h1,h2,h3,h4⟩:=h;simp only[OV.val,Rep];exact⟨p,ks,ep,rfl,by rw[hp];exact h1,dR.c8 h2 h3 (h4.jN hs fun q hq xs e=>by rw[nU (by simp[hq])];exact e)⟩
 | tl d ds=>
  obtain⟨r,v,xs,rfl,h1,h2,h3,h4⟩:=h;simp only[OV.val,Rep];refine⟨p,_,rfl,(by rw[hp];exact h1),bJ.cons (h2.mono hs) (bJ.cons ?_ bJ.nil)⟩;simp only[Rep];exact⟨r,xs,rfl,iu.of (by rw[nU (by simp)];exact h3),h4.mono hs⟩
 | dt bL=>
  obtain⟨ks,bs,h1,hk,h2,h3,h4⟩:=h;simp only[OV.val,Rep];exact⟨p,ks,bs,rfl,by rw[hp];exact h1,hk.mono hs,bS.c8 h2 h3 (h4.jN hs fun q hq xs e=>by rw[nU (by simp[hq])];exact e)⟩
 | tp ds=>
  obtain⟨rfl,xs,h1,h2⟩:=h;simp only[OV.val,Rep];exact⟨p,xs,rfl,(by rw[hp];exact h1),h2.mono hs⟩
 | ob cn fs=>
  obtain⟨C,dx,gs,h1,hc,hn,h2,h3,h4⟩:=h;simp only[OV.val,Rep];refine⟨p,C,dx,gs,rfl,by rw[hp];exact h1,hc,fun u hu=>?_,ff.c8 h2 h3 (h4.jN hs fun q hq xs e=>by rw[nU (by simp[hq])];exact e)⟩;obtain⟨v,hv,rfl⟩:=av.mp hu;exact hn v hv
 | ld rG=>
  simp only[OV.val,Rep];exact⟨p,_,rfl,iu.of (by rw[hp];exact h.1),h.2.jN hs fun q hq u e=>by rw[nU (by simp[hq])];exact e⟩
 | dq bL=>
  obtain⟨rfl,ks,bs,h1,hk,h2⟩:=h;simp only[OV.val,Rep];exact⟨p,ks,bs,rfl,by rw[hp];exact h1,hk.mono hs,bS.mono hs _ _ h2⟩
noncomputable abbrev Ev:=List Sl
noncomputable def gt:Ev->Nat->Sl
 | [],_=>.un
 | a::_,0=>a
 | _::r,n+1=>gt r n
theorem ot{ρ:Ev}{i j:Nat}{s:Sl}:gt (ρ.set i s) j=if i=j/\j<ρ.length then s else gt ρ j:=by
 induction ρ generalizing i j with
 | nil=>simp[gt]
 | cons a r ih=>
  cases i with
  | zero=>
   cases j with
   | zero=>simp[gt]
   | succ j=>simp[gt]
  | succ i=>
   cases j with
   | zero=>simp[gt]
   | succ j=>simp[gt,ih]
def df(K:PySem.W.Frag)(G' H' H:Hp)(v:V):R->Prop
 | .fz d=>Rep K G' v d
 | .ow ds=>∃p xs,v=.ref p/\H p=none/\G' p=none/\H' p=some (.lst xs)/\bJ K G' xs ds
 | .ov o=>∃p fp,v=.ref p/\(p::fp).Nodup/\gK K G' H' p fp o/\∀q∈p::fp,H q=none/\G' q=none
structure cF (K:PySem.W.Frag) (G0 H0:Hp) (ρ:Ev) (σ:St) (G H:Hp):Prop where
 e:Ext G0 H0 G H
 len:σ.length=ρ.length
 fz:∀i d,gt ρ i=.fz d->∃v,σ[i]?=some (some v)/\Rep K G v d
 ow:∀i ds,gt ρ i=.ow ds->∃p xs,σ[i]?=some (some (.ref p))/\H p=some (.lst xs)/\G p=none/\H0 p=none/\bJ K G xs ds
 dj:∀i j ds es,i≠j->gt ρ i=.ow ds->gt ρ j=.ow es->σ[i]?≠σ[j]?
 on:∃own:Addr->Option Nat,(∀i ds p,gt ρ i=.ow ds->σ[i]?=some (some (.ref p))->own p=some i)/\∀i o,gt ρ i=.ov o->∃p fp,σ[i]?=some (some (.ref p))/\(p::fp).Nodup/\gK K G H p fp o/\∀q∈p::fp,G q=none/\H0 q=none/\own q=some i
section
variable {K:PySem.W.Frag} {G0 H0 G H G' H' G2 H2:Hp} {ρ:Ev} {σ:St} {v:V}
theorem cF.ext(E:cF K G0 H0 ρ σ G H)(x:Ext G H G' H'):cF K G0 H0 ρ σ G' H' where
 e:=E.e.trans x
 len:=E.len
 fz:=fun i d h=>let⟨v,h1,h2⟩:=E.fz i d h;⟨v,h1,h2.mono x.g⟩
 ow:=fun i ds h=>let⟨p,xs,h1,h2,h3,h4,h5⟩:=E.ow i ds h;⟨p,xs,h1,x.h _ _ h2,x.n p h3 (by rw[h2];exact nofun),h4,h5.mono x.g⟩
 dj:=E.dj
 on:=by
  obtain⟨own,h1,h2⟩:=E.on;refine⟨own,h1,fun i o h=>?_⟩;obtain⟨p,fp,b1,b2,b3,b4⟩:=h2 i o h;exact⟨p,fp,b1,b2,b3.mono x.g fun q _ u e=>x.h q u e,fun q hq=>⟨x.n q (b4 q hq).1 (b3.here q hq),(b4 q hq).2⟩⟩
theorem df.freeze{r:R}(x:Ext G H G' H')(h:df K G' H' H v r):∃G2,Ext G H G2 H'/\Rep K G2 v r.val/\bT G' G2:=by
 cases r with
 | fz d=>exact⟨G',x,h,bT.refl _⟩
 | ow ds=>
  obtain⟨p,xs,h1,h2,h3,h4,h5⟩:=h;refine⟨upd G' p (.lst xs),⟨x.g.trans (pP h3),x.h,fun b o e=>?_,fun q lY gY=>?_⟩,?_,pP h3⟩
  ·by_cases hb:b=p
   ·subst hb;rw[fq] at e;rw[h4];exact e
   ·rw[cK hb] at e;exact x.s b o e
  ·rw[cK (fun z=>gY (by rw[z];exact h2))];exact x.n q lY gY
  ·show Rep K (upd G' p (.lst xs)) v (.lst ds);simp only[Rep];exact⟨p,xs,h1,iu.of fq,h5.mono (pP h3)⟩
 | ov o=>
  obtain⟨p,fp,rfl,h1,h2,h3⟩:=h;have hn:∀q∈p::fp,G' q=none:=fun q hq=>(h3 q hq).2
  refine⟨lA G' H' (p::fp),⟨x.g.trans (uH hn),x.h,fun b u e=>?_,fun q lY gY=>?_⟩,h2.freeze hn,uH hn⟩
  ·by_cases hb:b∈p::fp
   ·rw[nU hb] at e;exact e
   ·rw[mS hb] at e;exact x.s b u e
  ·rw[mS (fun z=>gY (h3 q z).1)];exact x.n q lY gY
theorem df.g7{r:R}{H1 H3:Hp}(s:bT H3 H1)(h:df K G' H' H1 v r):df K G' H' H3 v r:=by
 cases r with
 | fz d=>exact h
 | ow ds=>
  obtain⟨p,xs,h1,h2,h3,h4,h5⟩:=h;exact⟨p,xs,h1,s.free h2,h3,h4,h5⟩
 | ov o=>
  obtain⟨p,fp,rfl,h1,h2,h3⟩:=h;exact⟨p,fp,rfl,h1,h2,fun q hq=>⟨s.free (h3 q hq).1,(h3 q hq).2⟩⟩
end
noncomputable abbrev TD:=Ev->(R->Prop)->Prop
noncomputable abbrev gz:=Ev->(Bool->Prop)->Prop
noncomputable abbrev iH:=Ev->(List D->Prop)->Prop
structure DE where
 nx:Ev->Prop
 rt:R->Prop
 bk:Ev->Prop:=fun _=>False
 ct:Ev->Prop:=fun _=>False
noncomputable abbrev TX:=DE->Ev->Prop
def PD(X:Cx)(e:Expr)(t:TD):Prop:=∃tt,PE X e tt/\∀(ρ:Ev) (σ:St) (G0 H0 G H:Hp) (Q:R->Prop) (P:VK),cF X.K G0 H0 ρ σ G H->t ρ Q->
 (∀v H' r G',Ext G H G' H'->df X.K G' H' H v r->Q r->P v H')->tt σ H P
def PB(X:Cx)(e:Expr)(t:gz):Prop:=∃tt,PT X e tt/\∀(ρ:Ev) (σ:St) (G0 H0 G H:Hp) (Q:Bool->Prop) (P:Bool->Hp->Prop),cF X.K G0 H0 ρ σ G H->t ρ Q->
 (∀b H' G',Ext G H G' H'->Q b->P b H')->tt σ H P
def l7(X:Cx)(es:List Expr)(t:iH):Prop:=∃tt,PA X es tt/\∀(ρ:Ev) (σ:St) (G0 H0 G H:Hp) (Q:List D->Prop) (P:List V->Hp->Prop),cF X.K G0 H0 ρ σ G H->t ρ Q->
 (∀vs H' ds G',Ext G H G' H'->bJ X.K G' vs ds->Q ds->P vs H')->tt σ H P
structure Goes (K:PySem.W.Frag) (G0 H0 G:Hp) (D:DE) (E:Ends):Prop where
 nx:∀ρ σ G' H',bT G G'->cF K G0 H0 ρ σ G' H'->D.nx ρ->E.nx σ H'
 rt:∀v H' r G',Ext G0 H0 G' H'->df K G' H' H0 v r->D.rt r->E.rt v H'
 bk:∀ρ σ G' H',bT G G'->cF K G0 H0 ρ σ G' H'->D.bk ρ->E.bk σ H'
 ct:∀ρ σ G' H',bT G G'->cF K G0 H0 ρ σ G' H'->D.ct ρ->E.ct σ H'
theorem Goes.shift{K:PySem.W.Frag}{G0 H0 G G':Hp}{D:DE}{E:Ends}(g:Goes K G0 H0 G D E)(s:bT G G'):Goes K G0 H0 G' D E:=
 ⟨fun ρ σ G2 H2 s2=>g.nx ρ σ G2 H2 (s.trans s2),g.rt,fun ρ σ G2 H2 s2=>g.bk ρ σ G2 H2 (s.trans s2),fun ρ σ G2 H2 s2=>g.ct ρ σ G2 H2 (s.trans s2)⟩
def PX(X:Cx)(st:Stmt)(t:TX):Prop:=∃tt,PS X st tt/\∀(ρ:Ev) (σ:St) (G0 H0 G H:Hp) (D:DE) (E:Ends),cF X.K G0 H0 ρ σ G H->t D ρ->Goes X.K G0 H0 G D E->tt E σ H
def lp(X:Cx)(st:List Stmt)(t:TX):Prop:=∃tt,lq X st tt/\∀(ρ:Ev) (σ:St) (G0 H0 G H:Hp) (D:DE) (E:Ends),cF X.K G0 H0 ρ σ G H->t D ρ->Goes X.K G0 H0 G D E->tt E σ H
end L2
namespace L2
open PySem PySem.Spec PyProof.Rows
section
variable {X:Cx} {pos:Pos} {a b c:Expr} {ta tb tc:TD}
theorem e7{K:PySem.W.Frag}{G' H' H:Hp}{v:V}{d:D}(h:Rep K G' v d):df K G' H' H v (.fz d):=h
def bK(i:Nat):TD:=fun ρ Q=>match gt ρ i with
 | .fz d=>Q (.fz d)
 | _=>False
theorem bN(i:Nat){x:Str}(hN:X.N[i]?=some x:=by rfl)(hv:jf X.env.scope x:=by first | exact Or.inl rfl | exact Or.inr (Or.inl rfl) | exact Or.inr (Or.inr rfl))(hd:(x==("__debug__":Str))=false:=by decide)
  (eB:(x==("__classdict__":Str))=false:=by decide):PD X (.Name x pos) (bK i):=by
 refine⟨_,j8 hN hv hd eB,fun ρ σ G0 H0 G H Q P E h k=>?_⟩;unfold bK at h;split at h
 ·rename_i d e;obtain⟨v,h1,h2⟩:=E.fz i d e;exact⟨v,h1,k v H (.fz d) G (.refl E.e.s) h2 h⟩
 ·exact h.elim
def dC(d:D):TD:=fun _ Q=>Q (.fz d)
theorem uN{e:Expr}{v:V}{d:D}(h:PE X e (tC v))(r:∀K G,Rep K G v d):PD X e (dC d):=
 ⟨_,h,fun ρ σ G0 H0 G H Q P E h k=>k v H (.fz d) G (.refl E.e.s) (r _ _) h⟩
theorem ie(K:PySem.W.Frag)(G:Hp)(i:Int):Rep K G (.int i) (.int i):=by simp only[Rep]
theorem i5(K:PySem.W.Frag)(G:Hp)(i:Bool):Rep K G (.bl i) (.bl i):=by simp only[Rep]
theorem pN(K:PySem.W.Frag)(G:Hp)(i:Str):Rep K G (.str i) (.str i):=by simp only[Rep]
theorem Es(K:PySem.W.Frag)(G:Hp):Rep K G .non .non:=by simp only[Rep]
theorem bY{i j}:PD X (.Constant (.int i) j pos) (dC (.int i)):=uN J5 fun K G=>ie K G i
theorem kM{i j}:PD X (.Constant (.bool i) j pos) (dC (.bl i)):=uN Ig fun K G=>i5 K G i
theorem fY{i j}:PD X (.Constant (.str i) j pos) (dC (.str i)):=uN J3 fun K G=>pN K G i
theorem zo{j}:PD X (.Constant .none j pos) (dC .non):=uN J4 fun K G=>Es K G
theorem mR{x:Str}{i:Str}{t:Tok}(hm:X.mg x=some (.str i t))(hg:Gl X x:=by rfl)(hd:(x==("__debug__":Str))=false:=by decide):PD X (.Name x pos) (dC (.str i)):=uN (Ki hg hm (v:=.str i) ⟨t,rfl⟩ hd) fun K G=>pN K G i
noncomputable abbrev O2:=D->D->(R->Prop)->Prop
def iW(X:Cx)(f:Value->Value->Sem Value)(o:O2):Prop:=∃r:R2,eW X f r/\∀(G H:Hp) (x y:V) (d e:D) (Q:R->Prop) (P:VK),bT G H->Rep X.K G x d->Rep X.K G y e->o d e Q->
 (∀v H' r' G',Ext G H G' H'->df X.K G' H' H v r'->Q r'->P v H')->r x y H P
def bQ(o:O2)(ta tb:TD):TD:=fun ρ Q=>ta ρ fun ra=>tb ρ fun rb=>o ra.val rb.val Q
theorem xu{r:R2}{o:O2}{vf ve:TE}
  (hr:∀(G H:Hp) (x y:V) (d e:D) (Q:R->Prop) (P:VK),bT G H->Rep X.K G x d->Rep X.K G y e->o d e Q->(∀v H' r' G',Ext G H G' H'->df X.K G' H' H v r'->Q r'->P v H')->r x y H P)
  (ha:∀(ρ:Ev) (σ:St) (G0 H0 G H:Hp) (Q:R->Prop) (P:VK),cF X.K G0 H0 ρ σ G H->ta ρ Q->(∀v H' r G',Ext G H G' H'->df X.K G' H' H v r->Q r->P v H')->vf σ H P)
  (hb:∀(ρ:Ev) (σ:St) (G0 H0 G H:Hp) (Q:R->Prop) (P:VK),cF X.K G0 H0 ρ σ G H->tb ρ Q->(∀v H' r G',Ext G H G' H'->df X.K G' H' H v r->Q r->P v H')->ve σ H P)
  (ρ:Ev) (σ:St) (G0 H0 G H:Hp) (Q:R->Prop) (P:VK) (E:cF X.K G0 H0 ρ σ G H) (h:bQ o ta tb ρ Q) (k:∀v H' r G',Ext G H G' H'->df X.K G' H' H v r->Q r->P v H'):vn r vf ve σ H P:=by
 refine ha ρ σ G0 H0 G H _ _ E h fun v H1 ra G1 x1 r1 h1=>?_
 obtain⟨CI,pT,q1,_⟩:=r1.freeze x1;refine hb ρ σ G0 H0 CI H1 _ _ (E.ext pT) h1 fun u H2 rb G2 x2 r2 h2=>?_
 obtain⟨yQ,pS,q2,_⟩:=r2.freeze x2;refine hr yQ H2 v u _ _ Q P pS.s (q1.mono pS.g) q2 h2 fun v' H' r' G' x3 r3 h3=>?_
 have x4:=(pT.trans pS).trans x3;exact k v' H' r' G' x4 (r3.g7 (pT.trans pS).h) h3
theorem cE{op:Operator}{o:O2}(ho:iW X (binaryOp op) o)(ha:PD X a ta)(hb:PD X b tb):PD X (.BinOp a op b pos) (bQ o ta tb):=by
 obtain⟨r,hr,kb⟩:=ho;obtain⟨vf,pa,qa⟩:=ha;obtain⟨ve,pb,qb⟩:=hb;exact⟨_,Dt hr pa pb,xu kb qa qb⟩
theorem qD{op:CmpOp}{o:O2}(ho:iW X (compareOp op) o)(ha:PD X a ta)(hb:PD X b tb)(hm:behindInMarks op b=false:=by first | exact DX _ | rfl):PD X (.Compare a [op] [b] pos) (bQ o ta tb):=by
 obtain⟨r,hr,kb⟩:=ho;obtain⟨vf,pa,qa⟩:=ha;obtain⟨ve,pb,qb⟩:=hb;exact⟨_,KC hr pa pb hm,xu kb qa qb⟩
def cQ(t:TD):gz:=fun ρ Q=>t ρ fun r=>match r with
 | .fz (.bl k)=>Q k
 | _=>False
theorem fB{op:CmpOp}{o:O2}(ho:iW X (compareOp op) o)(ha:PD X a ta)(hb:PD X b tb)(hm:behindInMarks op b=false:=by first | exact DX _ | rfl):PB X (.Compare a [op] [b] pos) (cQ (bQ o ta tb)):=by
 obtain⟨r,hr,kb⟩:=ho;obtain⟨vf,pa,qa⟩:=ha;obtain⟨ve,pb,qb⟩:=hb;refine⟨_,KA hr pa pb hm,fun ρ σ G0 H0 G H Q P E h k=>?_⟩;refine xu kb qa qb ρ σ G0 H0 G H _ _ E h fun v H' r G' x1 r1 h1=>?_
 split at h1
 ·rename_i kk;have e:v=.bl kk:=by simpa only[df,Rep] using r1
  exact⟨kk,e,k kk H' G' x1 h1⟩
 ·exact h1.elim
theorem lM{e:Expr}{t:TD}(h:PD X e t)(he:∀whole,isTrue e X.env whole=(do let v <-whole;standAt e.pos;holding [v] (truthy v)):=by intro _;rfl):PB X e (cQ t):=by
 obtain⟨tt,p,q⟩:=h;refine⟨_,J2 p he,fun ρ σ G0 H0 G H Q P E h k=>?_⟩;refine q ρ σ G0 H0 G H _ _ E h fun v H' r G' x1 r1 h1=>?_
 split at h1
 ·rename_i kk;have e:v=.bl kk:=by simpa only[df,Rep] using r1
  exact⟨kk,e,k kk H' G' x1 h1⟩
 ·exact h1.elim
def ez:O2:=fun d e Q=>match d,e with
 | .int i,.int j=>Q (.fz (.int (i+j)))
 | .str x,.str y=>x.length+y.length<=sizeLine/\Q (.fz (.str (x++y)))
 | .lst xs,.lst ys=>xs.length+ys.length<=sizeLine/\Q (.ow (xs++ys))
 | _,_=>False
def Iw(K:PySem.W.Frag):R2:=fun x y H Q=>∃l b xs zs,x=.ref l/\y=.ref b/\iu K H l xs/\iu K H b zs/\xs.length+zs.length<=sizeLine/\∀p,H p=none->Q (.ref p) (upd H p (.lst (xs++zs)))
theorem Kq:eW X (binaryOp .Add) (Iw X.K):=by
 intro pins s σ H x y v u Q I rx ry h;obtain⟨l,b,xs,zs,rfl,rfl,hH,hB,hz,q⟩:=h;cases rx;cases ry;obtain⟨z,its,n,r,e⟩:=I.ft hH;obtain⟨z2,gI,n2,r2,e2⟩:=I.ft hB;have hl:=r.length;have yC:=r2.length;refine PySem.P.add_list e e2 ?_ (by rw[aq,aq];omega);have ea:its.toArray++gI.toArray=(its++gI).toArray:=by simp
 rw[ea];exact⟨.ref _,_,I.oH (t':=s.toks) (r.append r2) (by rw[aC];omega),rfl,q _ I.fresh⟩
theorem xN{G H:Hp}{xs:List V}{ds:List D}{Q:R->Prop}{P:VK}(s:bT G H)(r:bJ X.K G xs ds)(q:Q (.ow ds))
  (k:∀v H' r' G',Ext G H G' H'->df X.K G' H' H v r'->Q r'->P v H'):∀p,H p=none->P (.ref p) (upd H p (.lst xs)):=fun p hp=>
 k _ _ (.ow ds) G (.own s hp) ⟨p,xs,rfl,hp,s.free hp,fq,r⟩ q
theorem fR:iW X (binaryOp .Add) ez:=by
 refine⟨_,qR.or (ko.or Kq),fun G H x y d e Q P s rx ry h k=>?_⟩;unfold ez at h;split at h
 ·simp only[Rep] at rx ry;exact .inl ⟨_,_,rx,ry,k _ _ _ G (.refl s) (e7 (ie _ _ _)) h⟩
 ·simp only[Rep] at rx ry;exact .inr (.inl ⟨_,_,rx,ry,h.1,k _ _ _ G (.refl s) (e7 (pN _ _ _)) h.2⟩)
 ·simp only[Rep] at rx ry;obtain⟨a,xs,rfl,hx,Gg⟩:=rx;obtain⟨b,ys,rfl,hy,iT⟩:=ry;refine .inr (.inr ⟨_,_,_,_,rfl,rfl,s.ft hx,s.ft hy,by rw[Gg.length,iT.length];exact h.1,xN s (Gg.append iT) h.2 k⟩)
 ·exact h.elim
def oI(C:Int->Int->Prop)(g:Int->Int->D):O2:=fun d e Q=>match d,e with
 | .int i,.int j=>C i j/\Q (.fz (g i j))
 | _,_=>False
def fT(g:Int->Int->D):O2:=fun d e Q=>match d,e with
 | .int i,.int j=>Q (.fz (g i j))
 | _,_=>False
theorem xp{f:Value->Value->Sem Value}{C:Int->Int->Prop}{g:Int->Int->V}{g':Int->Int->D}(h:eW X f (rI C g))(hg:∀K G i j,Rep K G (g i j) (g' i j)):iW X f (oI C g'):=by
 refine⟨_,h,fun G H x y d e Q P s rx ry h k=>?_⟩;unfold oI at h;split at h
 ·simp only[Rep] at rx ry;exact⟨_,_,rx,ry,h.1,k _ _ _ G (.refl s) (e7 (hg _ _ _ _)) h.2⟩
 ·exact h.elim
theorem xt{f:Value->Value->Sem Value}{g:Int->Int->V}{g':Int->Int->D}(h:eW X f (lS g))(hg:∀K G i j,Rep K G (g i j) (g' i j)):iW X f (fT g'):=by
 refine⟨_,h,fun G H x y d e Q P s rx ry h k=>?_⟩;unfold fT at h;split at h
 ·simp only[Rep] at rx ry;exact⟨_,_,rx,ry,k _ _ _ G (.refl s) (e7 (hg _ _ _ _)) h⟩
 ·exact h.elim
theorem se:iW X (binaryOp .Sub) (fT fun i j=>.int (i-j)):=xt Kg fun K G i j=>ie K G _
theorem mM:iW X (binaryOp .Mult) (oI fA fun i j=>.int (i*j)):=xp Kf fun K G i j=>ie K G _
theorem pI:iW X (binaryOp .FloorDiv) (oI kh fun i j=>.int (i/j)):=xp KD fun K G i j=>ie K G _
theorem jx:iW X (binaryOp .Mod) (oI (fun _ j=>0<j) fun i j=>.int (i%j)):=xp Ke fun K G i j=>ie K G _
theorem Iu:iW X (binaryOp .Pow) (oI qu fun i j=>.int (i ^ j.toNat)):=xp Kd fun K G i j=>ie K G _
theorem y1:iW X (compareOp .Lt) (fT fun i j=>.bl (decide (i<j))):=xt y9 fun K G i j=>i5 K G _
theorem HC:iW X (compareOp .Gt) (fT fun i j=>.bl (decide (j<i))):=xt HU fun K G i j=>i5 K G _
theorem HB:iW X (compareOp .GtE) (fT fun i j=>.bl (decide (j<=i))):=xt HS fun K G i j=>i5 K G _
end
end L2
namespace L2
open PySem PySem.Spec PyProof.Rows PySem.SeqAt
mutual
noncomputable def cS:D->D->Bool
 | .non,.non=>true
 | .bl a,.bl b=>a==b
 | .bl a,.int b=>(if a then 1 else 0)==b
 | .int a,.bl b=>a==(if b then 1 else 0)
 | .int a,.int b=>a==b
 | .str a,.str b=>a==b
 | .tup xs,.tup ys=>kg xs ys
 | .lst xs,.lst ys=>kg xs ys
 | _,_=>false
noncomputable def kg:List D->List D->Bool
 | [],[]=>true
 | x::xs,y::ys=>cS x y&&kg xs ys
 | _,_=>false
end
def d8:Nat->D->Prop
 | _,.non=>True
 | _,.bl _=>True
 | _,.int _=>True
 | _,.str _=>True
 | n+1,.tup ds=>∀d∈ds,d8 n d
 | n+1,.lst ds=>∀d∈ds,d8 n d
 | _,_=>False
mutual
theorem xY:∀(n:Nat) (d:D),d8 n d->cS d d=true
 | n,.non,_=>by simp only[cS]
 | n,.bl _,_=>by simp only[cS,beq_self_eq_true]
 | n,.int _,_=>by simp only[cS,beq_self_eq_true]
 | n,.str _,_=>by simp only[cS,beq_self_eq_true]
 | 0,.tup ds,h=>by cases h
 | 0,.lst ds,h=>by cases h
 | n+1,.tup ds,h=>by simp only[cS];exact Aq n ds h
 | n+1,.lst ds,h=>by simp only[cS];exact Aq n ds h
 | 0,.obj _ _,h=>by cases h
 | n+1,.obj _ _,h=>by cases h
 | 0,.dic _,h=>by cases h
 | 0,.dit _,h=>by cases h
 | 0,.exc _,h=>by cases h
 | n+1,.dic _,h=>by cases h
 | n+1,.dit _,h=>by cases h
 | n+1,.exc _,h=>by cases h
theorem Aq:∀(n:Nat) (ds:List D),(∀d∈ds,d8 n d)->kg ds ds=true
 | n,[],_=>by simp only[kg]
 | n,d::ds,h=>by simp only[kg,xY n d (h d (by simp)),Aq n ds (fun e he=>h e (by simp[he])),Bool.and_self]
end
theorem uM:∀{xs ys:List D},xs.length≠ys.length->kg xs ys=false
 | [],[],h=>absurd rfl h
 | x::xs,y::ys,h=>by
  rw[kg,uM (xs:=xs) (ys:=ys) (by simpa using h),Bool.and_false]
 | [],_::_,_=>by simp only[kg]
 | _::_,[],_=>by simp only[kg]
theorem uL:∀(xs ys:List D),xs.length=ys.length->kg xs ys=(List.range xs.length).all fun j=>cS (xs.getD j .non) (ys.getD j .non)
 | [],[],_=>by simp[kg]
 | x::xs,y::ys,h=>by
  rw[kg,uL xs ys (by simpa using h),aI,List.range_succ_eq_map,List.all_cons,List.all_map];congr 1
 | [],_::_,h=>by simp at h
 | _::_,[],h=>by simp at h
theorem zY(xs ys:List D):((List.range (min xs.length ys.length)).all (fun j=>cS (xs.getD j .non) (ys.getD j .non))&&xs.length==ys.length)=kg xs ys:=by
 by_cases h:xs.length=ys.length
 ·rw[uL xs ys h,h];simp
 ·rw[uM h];simp[h]
section
variable {X:Cx} {pins:List (Addr×Obj)} {σ:St} {H:Hp} {s:Shared}
mutual
theorem xM(I:Inv X pins σ H s):∀(n:Nat) (d e:D) (v:V),d8 n d->d8 n e->Rep X.K H v d->Rep X.K H v e->d=e
 | n,.non,e,v,h,h',r,r'=>by
  cases e<;>simp only[Rep] at r r'<;>subst r<;>first | rfl | (simp at r';done) | (simp only[V.bl.injEq,V.int.injEq,V.str.injEq] at r';rw[r'])
 | n,.bl b,e,v,h,h',r,r'=>by
  cases e<;>simp only[Rep] at r r'<;>subst r<;>first | rfl | (simp at r';done) | (simp only[V.bl.injEq,V.int.injEq,V.str.injEq] at r';rw[r'])
 | n,.int b,e,v,h,h',r,r'=>by
  cases e<;>simp only[Rep] at r r'<;>subst r<;>first | rfl | (simp at r';done) | (simp only[V.bl.injEq,V.int.injEq,V.str.injEq] at r';rw[r'])
 | n,.str b,e,v,h,h',r,r'=>by
  cases e<;>simp only[Rep] at r r'<;>subst r<;>first | rfl | (simp at r';done) | (simp only[V.bl.injEq,V.int.injEq,V.str.injEq] at r';rw[r'])
 | 0,.tup ds,e,v,h,h',r,r'=>by cases h
 | 0,.lst ds,e,v,h,h',r,r'=>by cases h
 | n+1,.tup ds,e,v,h,h',r,r'=>by
  simp only[Rep] at r;obtain⟨a,xs,rfl,q,rs⟩:=r;cases e<;>simp only[Rep] at r'
  case tup es=>
   obtain⟨b,ys,e1,q',gF⟩:=r';cases e1;rw[I.iM (dO.of q') (dO.of q)] at gF;rw[zX I n ds es xs h h' rs gF]
  case lst es=>
   obtain⟨b,ys,e1,q',gF⟩:=r';cases e1;obtain⟨its,_,ht,_⟩:=I.tuple (dO.of q);obtain⟨its',_,hl,_⟩:=I.list q'.sq;exact absurd rfl (ne_of_list_tuple hl.isList (show s.heap.IsTuple a its.toArray from ht))
  case obj=>cases h'
  case dic=>cases h'
  case dit=>cases h'
  case exc=>cases h'
  all_goals cases r'
 | n+1,.lst ds,e,v,h,h',r,r'=>by
  simp only[Rep] at r;obtain⟨a,xs,rfl,q,rs⟩:=r;cases e<;>simp only[Rep] at r'
  case lst es=>
   obtain⟨b,ys,e1,q',gF⟩:=r';cases e1;rw[I.g8 q'.sq q.sq] at gF;rw[zX I n ds es xs h h' rs gF]
  case tup es=>
   obtain⟨b,ys,e1,q',gF⟩:=r';cases e1;obtain⟨its,_,ht,_⟩:=I.tuple (dO.of q');obtain⟨its',_,hl,_⟩:=I.list q.sq;exact absurd rfl (ne_of_list_tuple hl.isList (show s.heap.IsTuple a its.toArray from ht))
  case obj=>cases h'
  case dic=>cases h'
  case dit=>cases h'
  case exc=>cases h'
  all_goals cases r'
 | 0,.obj _ _,_,_,h,_,_,_=>by cases h
 | n+1,.obj _ _,_,_,h,_,_,_=>by cases h
 | 0,.dic _,_,_,h,_,_,_=>by cases h
 | 0,.dit _,_,_,h,_,_,_=>by cases h
 | 0,.exc _,_,_,h,_,_,_=>by cases h
 | n+1,.dic _,_,_,h,_,_,_=>by cases h
 | n+1,.dit _,_,_,h,_,_,_=>by cases h
 | n+1,.exc _,_,_,h,_,_,_=>by cases h
theorem zX(I:Inv X pins σ H s):∀(n:Nat) (ds es:List D) (vs:List V),(∀d∈ds,d8 n d)->(∀d∈es,d8 n d)->bJ X.K H vs ds->bJ X.K H vs es->ds=es
 | n,[],[],_,_,_,_,_=>rfl
 | n,d::ds,e::es,v::vs,h,h',r,r'=>by
  simp only[bJ] at r r';rw[xM I n d e v (h d (by simp)) (h' e (by simp)) r.1 r'.1,zX I n ds es vs (fun x hx=>h x (by simp[hx])) (fun x hx=>h' x (by simp[hx])) r.2 r'.2]
 | n,[],_::_,[],_,_,_,r=>by simp only[bJ] at r
 | n,[],_::_,_::_,_,_,r,_=>by simp only[bJ] at r
 | n,_::_,[],[],_,_,r,_=>by simp only[bJ] at r
 | n,_::_,[],_::_,_,_,_,r=>by simp only[bJ] at r
 | n,_::_,_::_,[],_,_,r,_=>by simp only[bJ] at r
end
theorem lJ{vs:List V}{ds:List D}{us:List Value}{j:Nat}(rv:Vals vs us)(rd:bJ X.K H vs ds)(hj:j<us.toArray.size):∃v,RelV v us.toArray[j]/\Rep X.K H v (ds.getD j .non)/\ds.getD j .non∈ds:=by
 have h1:j<us.length:=by simpa using hj
 have h2:j<vs.length:=by rw[rv.length];exact h1
 have h3:j<ds.length:=by rw[<-rd.length];exact h2
 obtain⟨u,hu,ru⟩:=rv.get (ab h2);obtain⟨d,hd,O7⟩:=rd.wy (ab h2);rw[ab h1] at hu;rw[ab h3] at hd;cases hu;cases hd;refine⟨vs[j],?_,?_,?_⟩
 ·simpa using ru
 ·simpa[List.getD,h3] using O7
 ·simp[List.getD,h3]
noncomputable def sd:D->Bool
 | .non=>true
 | .bl _=>true
 | .int _=>true
 | .str _=>true
 | _=>false
theorem Er{d e:D}{x y:V}(hd:sd d=true)(he:sd e=true)(rx:Rep X.K H x d)(ry:Rep X.K H y e):xn x=true/\xn y=true/\Cq x y=cS d e:=by
 cases d<;>first | cases hd | skip
 all_goals (cases e<;>first | cases he | skip)
 all_goals
  simp only[Rep] at rx ry;subst rx ry;exact⟨rfl,rfl,by simp[Cq,cS]⟩
theorem uh(I:Inv X pins σ H s):∀(n:Nat) (A:Around) (d e:D) (x y:V) (v u:Value),d8 n d->d8 n e->A.units+n<cLine->Rep X.K H x d->Rep X.K H y e->RelV x v->RelV y u->EqAt A s v u (cS d e):=by
 intro n;induction n with
 | zero=>
  intro A d e x y v u hd he hu rx ry qx qy;have fd:sd d=true:=by cases d<;>first | rfl | cases hd
  have fe:sd e=true:=by cases e<;>first | rfl | cases he
  obtain⟨h1,h2,h3⟩:=Er fd fe rx ry;rw[<-h3];exact DT qx qy h1 h2
 | succ n ih=>
  intro A d e x y v u hd he hu rx ry qx qy;have cN:A.units<cLine:=by omega
  have nY:A.in1.units+n<cLine:=by show A.units+1+n<cLine;omega
  by_cases fd:sd d=true
  ·by_cases fe:sd e=true
   ·obtain⟨h1,h2,h3⟩:=Er fd fe rx ry;rw[<-h3];exact DT qx qy h1 h2
   ·cases e<;>first | exact absurd rfl fe | skip
    case tup es=>
     simp only[Rep] at ry;obtain⟨b,ys,rfl,q,rs⟩:=ry;cases qy;obtain⟨its,rv,ht,_⟩:=I.tuple (dO.of q);have c6:s.heap.IsTuple b its.toArray:=ht;cases d<;>first | cases fd | skip
     ·simp only[Rep] at rx;subst rx;cases qx;simpa only[cS] using EqAt.none_tuple c6 cN
     ·simp only[Rep] at rx;subst rx;cases qx;simpa only[cS] using EqAt.bool_tuple _ c6 cN
     ·simp only[Rep] at rx;subst rx;obtain⟨t,rfl⟩:=qx;simpa only[cS] using EqAt.int_tuple _ t c6 cN
     ·simp only[Rep] at rx;subst rx;obtain⟨t,rfl⟩:=qx;simpa only[cS] using EqAt.str_tuple _ t c6 cN
    case lst es=>
     simp only[Rep] at ry;obtain⟨b,ys,rfl,q,rs⟩:=ry;cases qy;obtain⟨its,rv,ht,_⟩:=I.list q.sq;have c6:=ht.isList;cases d<;>first | cases fd | skip
     ·simp only[Rep] at rx;subst rx;cases qx;simpa only[cS] using EqAt.none_list c6 cN
     ·simp only[Rep] at rx;subst rx;cases qx;simpa only[cS] using EqAt.bool_list _ c6 cN
     ·simp only[Rep] at rx;subst rx;obtain⟨t,rfl⟩:=qx;simpa only[cS] using EqAt.int_list _ t c6 cN
     ·simp only[Rep] at rx;subst rx;obtain⟨t,rfl⟩:=qx;simpa only[cS] using EqAt.str_list _ t c6 cN
    case obj=>cases he
    case dic=>cases he
    case dit=>cases he
    case exc=>cases he
  ·cases d<;>first | exact absurd rfl fd | skip
   case tup ds=>
    have Ba:=rx;simp only[Rep] at rx;obtain⟨a,xs,rfl,q,rs⟩:=rx;cases qx;obtain⟨its,rv,ht,_⟩:=I.tuple (dO.of q);have c6:s.heap.IsTuple a its.toArray:=ht;cases e
    case non=>simp only[Rep] at ry;subst ry;cases qy;simpa only[cS] using EqAt.tuple_none c6 cN
    case bl=>simp only[Rep] at ry;subst ry;cases qy;simpa only[cS] using EqAt.tuple_bool _ c6 cN
    case int=>simp only[Rep] at ry;subst ry;obtain⟨t,rfl⟩:=qy;simpa only[cS] using EqAt.tuple_int _ t c6 cN
    case str=>simp only[Rep] at ry;subst ry;obtain⟨t,rfl⟩:=qy;simpa only[cS] using EqAt.tuple_str _ t c6 cN
    case lst es=>
     simp only[Rep] at ry;obtain⟨b,ys,rfl,q',gF⟩:=ry;cases qy;obtain⟨its',i8,hl,_⟩:=I.list q'.sq;simpa only[cS] using EqAt.tuple_list c6 hl.isList cN
    case tup es=>
     have A9:=ry;simp only[Rep] at ry;obtain⟨b,ys,rfl,q',gF⟩:=ry;cases qy;obtain⟨its',i8,kZ,_⟩:=I.tuple (dO.of q');by_cases iD:a=b
     ·subst iD;have e0:=xM I (n+1) _ _ _ hd he Ba A9;rw[<-e0,xY (n+1) _ hd];exact EqAt.same _
     ·refine EqAt.of_refs iD ?_;have h:=RcAt.tuples (e:=fun j=>cS (ds.getD j .non) (es.getD j .non)) c6 (show s.heap.IsTuple b its'.toArray from kZ) cN fun j h1 h2=>by
       obtain⟨v1,a1,b1,c1⟩:=lJ rv rs h1;obtain⟨v2,a2,b2,c2⟩:=lJ i8 gF h2;exact ih A.in1 _ _ v1 v2 _ _ (hd _ c1) (he _ c2) nY b1 b2 a1 a2
      have l1:its.toArray.size=ds.length:=by rw[aq,<-rv.length,rs.length]
      have l2:its'.toArray.size=es.length:=by rw[aq,<-i8.length,gF.length]
      rw[l1,l2,zY] at h;simpa only[cS] using h
    case obj=>cases he
    case dic=>cases he
    case dit=>cases he
    case exc=>cases he
   case lst ds=>
    have Ba:=rx;simp only[Rep] at rx;obtain⟨a,xs,rfl,q,rs⟩:=rx;cases qx;obtain⟨its,rv,ht,_⟩:=I.list q.sq;have c6:=ht.isList;cases e
    case non=>simp only[Rep] at ry;subst ry;cases qy;simpa only[cS] using EqAt.list_none c6 cN
    case bl=>simp only[Rep] at ry;subst ry;cases qy;simpa only[cS] using EqAt.list_bool _ c6 cN
    case int=>simp only[Rep] at ry;subst ry;obtain⟨t,rfl⟩:=qy;simpa only[cS] using EqAt.list_int _ t c6 cN
    case str=>simp only[Rep] at ry;subst ry;obtain⟨t,rfl⟩:=qy;simpa only[cS] using EqAt.list_str _ t c6 cN
    case tup es=>
     simp only[Rep] at ry;obtain⟨b,ys,rfl,q',gF⟩:=ry;cases qy;obtain⟨its',i8,hl,_⟩:=I.tuple (dO.of q');simpa only[cS] using EqAt.list_tuple c6 (show s.heap.IsTuple b its'.toArray from hl) cN
    case lst es=>
     have A9:=ry;simp only[Rep] at ry;obtain⟨b,ys,rfl,q',gF⟩:=ry;cases qy;obtain⟨its',i8,kZ,_⟩:=I.list q'.sq;by_cases iD:a=b
     ·subst iD;have e0:=xM I (n+1) _ _ _ hd he Ba A9;rw[<-e0,xY (n+1) _ hd];exact EqAt.same _
     ·refine EqAt.of_refs iD ?_;have l1:its.toArray.size=ds.length:=by rw[aq,<-rv.length,rs.length]
      have l2:its'.toArray.size=es.length:=by rw[aq,<-i8.length,gF.length]
      by_cases hl:ds.length=es.length
      ·have h:=RcAt.lists (e:=fun j=>cS (ds.getD j .non) (es.getD j .non)) c6 kZ.isList (by rw[l1,l2,hl]) cN fun j h1 h2=>by
        obtain⟨v1,a1,b1,c1⟩:=lJ rv rs h1;obtain⟨v2,a2,b2,c2⟩:=lJ i8 gF h2;exact ih A.in1 _ _ v1 v2 _ _ (hd _ c1) (he _ c2) nY b1 b2 a1 a2
       rw[l1,<-uL ds es hl] at h;simpa only[cS] using h
      ·have h:=RcAt.lists_lengths (A:=A) c6 kZ.isList (by rw[l1,l2];simpa using hl) cN;simp only[cS,uM hl];exact h
    case obj=>cases he
    case dic=>cases he
    case dit=>cases he
    case exc=>cases he
   case obj=>cases hd
   case dic=>cases hd
   case dit=>cases hd
   case exc=>cases hd
end
end L2
namespace L2
open PySem PySem.Spec PyProof.Rows PySem.SeqAt
section
variable {X:Cx} {pins:List (Addr×Obj)} {σ:St} {H:Hp} {s:Shared}
theorem mz{y:V}{u:Value}(r:Rep X.K H y .non)(q:RelV y u):u=.none:=by simp only[Rep] at r;subst r;cases q;rfl
theorem mD{y:V}{u:Value}{c:Bool}(r:Rep X.K H y (.bl c))(q:RelV y u):u=.bool c:=by simp only[Rep] at r;subst r;cases q;rfl
theorem mB{y:V}{u:Value}{i:Int}(r:Rep X.K H y (.int i))(q:RelV y u):∃t,u=.int i t:=by simp only[Rep] at r;subst r;exact q
theorem mw{y:V}{u:Value}{x:Str}(r:Rep X.K H y (.str x))(q:RelV y u):∃t,u=.str x t:=by simp only[Rep] at r;subst r;exact q
theorem n4{y:V}{u:Value}{es:List D}(I:Inv X pins σ H s)(r:Rep X.K H y (.tup es))(q:RelV y u):∃b it,u=.ref b/\s.heap.IsTuple b (List.toArray it):=by
 simp only[Rep] at r;obtain⟨b,ys,rfl,h,_⟩:=r;cases q;obtain⟨it,_,ht,_⟩:=I.tuple (dO.of h);exact⟨b,it,rfl,ht⟩
theorem n5{y:V}{u:Value}{es:List D}(I:Inv X pins σ H s)(r:Rep X.K H y (.lst es))(q:RelV y u):∃b it,u=.ref b/\s.heap.IsList b (List.toArray it):=by
 simp only[Rep] at r;obtain⟨b,ys,rfl,h,_⟩:=r;cases q;obtain⟨it,_,ht,_⟩:=I.list h.sq;exact⟨b,it,rfl,ht.isList⟩
theorem IK(I:Inv X pins σ H s):∀(n:Nat) (A:Around) (d e:D) (x y:V) (v u:Value),d8 n d->d8 n e->A.units+n<cLine->Rep X.K H x d->Rep X.K H y e->RelV x v->RelV y u->RcAt A s v u (cS d e):=by
 intro n A d e x y v u hd he hu rx ry qx qy;have cN:A.units<cLine:=by omega
 cases d
 case non=>
  simp only[Rep] at rx;subst rx;cases qx;cases e
  case non=>cases mz ry qy;exact RcAt.none_none
  case bl=>cases mD ry qy;exact RcAt.none_bool _
  case int=>obtain⟨t,rfl⟩:=mB ry qy;exact RcAt.none_int _ t
  case str=>obtain⟨t,rfl⟩:=mw ry qy;exact RcAt.none_str _ t
  case tup=>obtain⟨b,it,rfl,h2⟩:=n4 I ry qy;exact RcAt.none_tuple h2 cN
  case lst=>obtain⟨b,it,rfl,h2⟩:=n5 I ry qy;exact RcAt.none_list h2 cN
  all_goals (cases n<;>cases he)
 case bl a=>
  simp only[Rep] at rx;subst rx;cases qx;cases e
  case non=>cases mz ry qy;exact RcAt.bool_none _
  case bl=>cases mD ry qy;exact RcAt.bool_bool _ _
  case int=>obtain⟨t,rfl⟩:=mB ry qy;exact RcAt.bool_int _ _ t
  case str=>obtain⟨t,rfl⟩:=mw ry qy;exact RcAt.bool_str _ _ t
  case tup=>obtain⟨b,it,rfl,h2⟩:=n4 I ry qy;exact RcAt.bool_tuple _ h2 cN
  case lst=>obtain⟨b,it,rfl,h2⟩:=n5 I ry qy;exact RcAt.bool_list _ h2 cN
  all_goals (cases n<;>cases he)
 case int a=>
  simp only[Rep] at rx;subst rx;obtain⟨t0,rfl⟩:=qx;cases e
  case non=>cases mz ry qy;exact RcAt.int_none _ t0
  case bl=>cases mD ry qy;exact RcAt.int_bool _ t0 _
  case int=>obtain⟨t,rfl⟩:=mB ry qy;exact RcAt.int_int _ t0 _ t
  case str=>obtain⟨t,rfl⟩:=mw ry qy;exact RcAt.int_str _ t0 _ t
  case tup=>obtain⟨b,it,rfl,h2⟩:=n4 I ry qy;exact RcAt.int_tuple _ t0 h2 cN
  case lst=>obtain⟨b,it,rfl,h2⟩:=n5 I ry qy;exact RcAt.int_list _ t0 h2 cN
  all_goals (cases n<;>cases he)
 case str a=>
  simp only[Rep] at rx;subst rx;obtain⟨t0,rfl⟩:=qx;cases e
  case non=>cases mz ry qy;exact RcAt.str_none _ t0
  case bl=>cases mD ry qy;exact RcAt.str_bool _ t0 _
  case int=>obtain⟨t,rfl⟩:=mB ry qy;exact RcAt.str_int _ t0 _ t
  case str=>obtain⟨t,rfl⟩:=mw ry qy;exact RcAt.str_str _ t0 _ t
  case tup=>obtain⟨b,it,rfl,h2⟩:=n4 I ry qy;exact RcAt.str_tuple _ t0 h2 cN
  case lst=>obtain⟨b,it,rfl,h2⟩:=n5 I ry qy;exact RcAt.str_list _ t0 h2 cN
  all_goals (cases n<;>cases he)
 case tup ds=>
  cases n with
  | zero=>cases hd
  | succ n=>
  have nY:A.in1.units+n<cLine:=by show A.units+1+n<cLine;omega
  simp only[Rep] at rx;obtain⟨a,xs,rfl,q,rs⟩:=rx;cases qx;obtain⟨its,rv,ht,_⟩:=I.tuple (dO.of q);have c6:s.heap.IsTuple a its.toArray:=ht;cases e
  case non=>cases mz ry qy;exact RcAt.tuple_none c6 cN
  case bl=>cases mD ry qy;exact RcAt.tuple_bool _ c6 cN
  case int=>obtain⟨t,rfl⟩:=mB ry qy;exact RcAt.tuple_int _ t c6 cN
  case str=>obtain⟨t,rfl⟩:=mw ry qy;exact RcAt.tuple_str _ t c6 cN
  case lst es=>obtain⟨b,it,rfl,h2⟩:=n5 I ry qy;exact RcAt.tuple_list c6 h2 cN
  case tup es=>
   simp only[Rep] at ry;obtain⟨b,ys,rfl,q',gF⟩:=ry;cases qy;obtain⟨its',i8,kZ,_⟩:=I.tuple (dO.of q');have h:=RcAt.tuples (e:=fun j=>cS (ds.getD j .non) (es.getD j .non)) c6 (show s.heap.IsTuple b its'.toArray from kZ) cN fun j h1 h2=>by
    obtain⟨v1,a1,b1,c1⟩:=lJ rv rs h1;obtain⟨v2,a2,b2,c2⟩:=lJ i8 gF h2;exact uh I n A.in1 _ _ v1 v2 _ _ (hd _ c1) (he _ c2) nY b1 b2 a1 a2
   have l1:its.toArray.size=ds.length:=by rw[aq,<-rv.length,rs.length]
   have l2:its'.toArray.size=es.length:=by rw[aq,<-i8.length,gF.length]
   rw[l1,l2,zY] at h;simpa only[cS] using h
  all_goals cases he
 case lst ds=>
  cases n with
  | zero=>cases hd
  | succ n=>
  have nY:A.in1.units+n<cLine:=by show A.units+1+n<cLine;omega
  simp only[Rep] at rx;obtain⟨a,xs,rfl,q,rs⟩:=rx;cases qx;obtain⟨its,rv,ht,_⟩:=I.list q.sq;have c6:=ht.isList;cases e
  case non=>cases mz ry qy;exact RcAt.list_none c6 cN
  case bl=>cases mD ry qy;exact RcAt.list_bool _ c6 cN
  case int=>obtain⟨t,rfl⟩:=mB ry qy;exact RcAt.list_int _ t c6 cN
  case str=>obtain⟨t,rfl⟩:=mw ry qy;exact RcAt.list_str _ t c6 cN
  case tup es=>obtain⟨b,it,rfl,h2⟩:=n4 I ry qy;exact RcAt.list_tuple c6 h2 cN
  case lst es=>
   simp only[Rep] at ry;obtain⟨b,ys,rfl,q',gF⟩:=ry;cases qy;obtain⟨its',i8,kZ,_⟩:=I.list q'.sq;have l1:its.toArray.size=ds.length:=by rw[aq,<-rv.length,rs.length]
   have l2:its'.toArray.size=es.length:=by rw[aq,<-i8.length,gF.length]
   by_cases hl:ds.length=es.length
   ·have h:=RcAt.lists (e:=fun j=>cS (ds.getD j .non) (es.getD j .non)) c6 kZ.isList (by rw[l1,l2,hl]) cN fun j h1 h2=>by
     obtain⟨v1,a1,b1,c1⟩:=lJ rv rs h1;obtain⟨v2,a2,b2,c2⟩:=lJ i8 gF h2;exact uh I n A.in1 _ _ v1 v2 _ _ (hd _ c1) (he _ c2) nY b1 b2 a1 a2
    rw[l1,<-uL ds es hl] at h;simpa only[cS] using h
   ·have h:=RcAt.lists_lengths (A:=A) c6 kZ.isList (by rw[l1,l2];simpa using hl) cN;simp only[cS,uM hl];exact h
  all_goals cases he
 all_goals (cases n<;>cases hd)
theorem LZ(I:Inv X pins σ H s):∀(n:Nat) (A:Around) (d e:D) (x y:V) (v u:Value),d8 n d->d8 n e->A.units+n<cLine->Rep X.K H x d->Rep X.K H y e->RelV x v->RelV y u->RcNeAt A s v u (!cS d e):=by
 intro n A d e x y v u hd he hu rx ry qx qy;have cN:A.units<cLine:=by omega
 cases d
 case non=>
  simp only[Rep] at rx;subst rx;cases qx;cases e
  case non=>cases mz ry qy;exact RcNeAt.none_none
  case bl=>cases mD ry qy;exact RcNeAt.none_bool _
  case int=>obtain⟨t,rfl⟩:=mB ry qy;exact RcNeAt.none_int _ t
  case str=>obtain⟨t,rfl⟩:=mw ry qy;exact RcNeAt.none_str _ t
  case tup=>obtain⟨b,it,rfl,h2⟩:=n4 I ry qy;exact RcNeAt.none_tuple h2 cN
  case lst=>obtain⟨b,it,rfl,h2⟩:=n5 I ry qy;exact RcNeAt.none_list h2 cN
  all_goals (cases n<;>cases he)
 case bl a=>
  simp only[Rep] at rx;subst rx;cases qx;cases e
  case non=>cases mz ry qy;exact RcNeAt.bool_none _
  case bl=>cases mD ry qy;exact RcNeAt.bool_bool _ _
  case int=>obtain⟨t,rfl⟩:=mB ry qy;exact RcNeAt.bool_int _ _ t
  case str=>obtain⟨t,rfl⟩:=mw ry qy;exact RcNeAt.bool_str _ _ t
  case tup=>obtain⟨b,it,rfl,h2⟩:=n4 I ry qy;exact RcNeAt.bool_tuple _ h2 cN
  case lst=>obtain⟨b,it,rfl,h2⟩:=n5 I ry qy;exact RcNeAt.bool_list _ h2 cN
  all_goals (cases n<;>cases he)
 case int a=>
  simp only[Rep] at rx;subst rx;obtain⟨t0,rfl⟩:=qx;cases e
  case non=>cases mz ry qy;exact RcNeAt.int_none _ t0
  case bl=>cases mD ry qy;exact RcNeAt.int_bool _ t0 _
  case int=>obtain⟨t,rfl⟩:=mB ry qy;exact RcNeAt.int_int _ t0 _ t
  case str=>obtain⟨t,rfl⟩:=mw ry qy;exact RcNeAt.int_str _ t0 _ t
  case tup=>obtain⟨b,it,rfl,h2⟩:=n4 I ry qy;exact RcNeAt.int_tuple _ t0 h2 cN
  case lst=>obtain⟨b,it,rfl,h2⟩:=n5 I ry qy;exact RcNeAt.int_list _ t0 h2 cN
  all_goals (cases n<;>cases he)
 case str a=>
  simp only[Rep] at rx;subst rx;obtain⟨t0,rfl⟩:=qx;cases e
  case non=>cases mz ry qy;exact RcNeAt.str_none _ t0
  case bl=>cases mD ry qy;exact RcNeAt.str_bool _ t0 _
  case int=>obtain⟨t,rfl⟩:=mB ry qy;exact RcNeAt.str_int _ t0 _ t
  case str=>obtain⟨t,rfl⟩:=mw ry qy;exact RcNeAt.str_str _ t0 _ t
  case tup=>obtain⟨b,it,rfl,h2⟩:=n4 I ry qy;exact RcNeAt.str_tuple _ t0 h2 cN
  case lst=>obtain⟨b,it,rfl,h2⟩:=n5 I ry qy;exact RcNeAt.str_list _ t0 h2 cN
  all_goals (cases n<;>cases he)
 case tup ds=>
  cases n with
  | zero=>cases hd
  | succ n=>
  have nY:A.in1.units+n<cLine:=by show A.units+1+n<cLine;omega
  simp only[Rep] at rx;obtain⟨a,xs,rfl,q,rs⟩:=rx;cases qx;obtain⟨its,rv,ht,_⟩:=I.tuple (dO.of q);have c6:s.heap.IsTuple a its.toArray:=ht;cases e
  case non=>cases mz ry qy;exact RcNeAt.tuple_none c6 cN
  case bl=>cases mD ry qy;exact RcNeAt.tuple_bool _ c6 cN
  case int=>obtain⟨t,rfl⟩:=mB ry qy;exact RcNeAt.tuple_int _ t c6 cN
  case str=>obtain⟨t,rfl⟩:=mw ry qy;exact RcNeAt.tuple_str _ t c6 cN
  case lst es=>obtain⟨b,it,rfl,h2⟩:=n5 I ry qy;exact RcNeAt.tuple_list c6 h2 cN
  case tup es=>
   simp only[Rep] at ry;obtain⟨b,ys,rfl,q',gF⟩:=ry;cases qy;obtain⟨its',i8,kZ,_⟩:=I.tuple (dO.of q');have h:=RcNeAt.tuples (e:=fun j=>cS (ds.getD j .non) (es.getD j .non)) c6 (show s.heap.IsTuple b its'.toArray from kZ) cN fun j h1 h2=>by
    obtain⟨v1,a1,b1,c1⟩:=lJ rv rs h1;obtain⟨v2,a2,b2,c2⟩:=lJ i8 gF h2;exact uh I n A.in1 _ _ v1 v2 _ _ (hd _ c1) (he _ c2) nY b1 b2 a1 a2
   have l1:its.toArray.size=ds.length:=by rw[aq,<-rv.length,rs.length]
   have l2:its'.toArray.size=es.length:=by rw[aq,<-i8.length,gF.length]
   rw[l1,l2,zY] at h;simpa only[cS] using h
  all_goals cases he
 case lst ds=>
  cases n with
  | zero=>cases hd
  | succ n=>
  have nY:A.in1.units+n<cLine:=by show A.units+1+n<cLine;omega
  simp only[Rep] at rx;obtain⟨a,xs,rfl,q,rs⟩:=rx;cases qx;obtain⟨its,rv,ht,_⟩:=I.list q.sq;have c6:=ht.isList;cases e
  case non=>cases mz ry qy;exact RcNeAt.list_none c6 cN
  case bl=>cases mD ry qy;exact RcNeAt.list_bool _ c6 cN
  case int=>obtain⟨t,rfl⟩:=mB ry qy;exact RcNeAt.list_int _ t c6 cN
  case str=>obtain⟨t,rfl⟩:=mw ry qy;exact RcNeAt.list_str _ t c6 cN
  case tup es=>obtain⟨b,it,rfl,h2⟩:=n4 I ry qy;exact RcNeAt.list_tuple c6 h2 cN
  case lst es=>
   simp only[Rep] at ry;obtain⟨b,ys,rfl,q',gF⟩:=ry;cases qy;obtain⟨its',i8,kZ,_⟩:=I.list q'.sq;have l1:its.toArray.size=ds.length:=by rw[aq,<-rv.length,rs.length]
   have l2:its'.toArray.size=es.length:=by rw[aq,<-i8.length,gF.length]
   by_cases hl:ds.length=es.length
   ·have h:=RcNeAt.lists (e:=fun j=>cS (ds.getD j .non) (es.getD j .non)) c6 kZ.isList (by rw[l1,l2,hl]) cN fun j h1 h2=>by
     obtain⟨v1,a1,b1,c1⟩:=lJ rv rs h1;obtain⟨v2,a2,b2,c2⟩:=lJ i8 gF h2;exact uh I n A.in1 _ _ v1 v2 _ _ (hd _ c1) (he _ c2) nY b1 b2 a1 a2
    rw[l1,<-uL ds es hl] at h;simpa only[cS] using h
   ·have h:=RcNeAt.lists_lengths (A:=A) c6 kZ.isList (by rw[l1,l2];simpa using hl) cN;simp only[cS,uM hl];exact h
  all_goals cases he
 all_goals (cases n<;>cases hd)
end
section
variable {X:Cx}
def oEq:O2:=fun d e Q=>d8 9 d/\d8 9 e/\Q (.fz (.bl (cS d e)))
def vz:O2:=fun d e Q=>d8 9 d/\d8 9 e/\Q (.fz (.bl (!cS d e)))
theorem iy(hu:X.A.units+64<cLine):iW X (compareOp .Eq) oEq:=by
 refine⟨fun x y H Q=>∃d e,d8 9 d/\d8 9 e/\Rep X.K H x d/\Rep X.K H y e/\Q (.bl (cS d e)) H,fun pins s σ H x y v u Q I rx ry h=>?_,fun G H x y d e Q P s rx ry h k=>?_⟩
 ·obtain⟨d,e,hd,he,rd,re,q⟩:=h;exact IK I 9 X.A d e x y v u hd he (by omega) rd re rx ry _ _ _ _ ⟨.bl _,H,I,rfl,q⟩
 ·exact⟨d,e,h.1,h.2.1,rx.mono s,ry.mono s,k _ _ _ G (.refl s) (e7 (i5 _ _ _)) h.2.2⟩
theorem y0(hu:X.A.units+64<cLine):iW X (compareOp .NotEq) vz:=by
 refine⟨fun x y H Q=>∃d e,d8 9 d/\d8 9 e/\Rep X.K H x d/\Rep X.K H y e/\Q (.bl (!cS d e)) H,fun pins s σ H x y v u Q I rx ry h=>?_,fun G H x y d e Q P s rx ry h k=>?_⟩
 ·obtain⟨d,e,hd,he,rd,re,q⟩:=h;exact LZ I 9 X.A d e x y v u hd he (by omega) rd re rx ry _ _ _ _ ⟨.bl _,H,I,rfl,q⟩
 ·exact⟨d,e,h.1,h.2.1,rx.mono s,ry.mono s,k _ _ _ G (.refl s) (e7 (i5 _ _ _)) h.2.2⟩
noncomputable def inD(d:D)(ds:List D):Bool:=ds.any fun e=>cS e d
def jC(neg:Bool):O2:=fun d e Q=>match d,e with
 | .str x,.str y=>Q (.fz (.bl (if neg then !(!(Builtin.Str.occurrences y x 0 y.length 1).isEmpty) else !(Builtin.Str.occurrences y x 0 y.length 1).isEmpty)))
 | d,.lst es=>d8 8 d/\(∀e∈es,d8 8 e)/\Q (.fz (.bl (if neg then !inD d es else inD d es)))
 | d,.tup es=>d8 8 d/\(∀e∈es,d8 8 e)/\Q (.fz (.bl (if neg then !inD d es else inD d es)))
 | _,_=>False
noncomputable def kc(X:Cx)(H:Hp)(d:D)(u:Value):Bool:=open Classical in if h:∃(v:V) (e:D),d8 8 e/\RelV v u/\Rep X.K H v e then cS h.choose_spec.choose d else false
theorem DM{pins:List (Addr×Obj)}{σ:St}{H:Hp}{s:Shared}(I:Inv X pins σ H s){d e:D}{v:V}{u:Value}(he:d8 8 e)(rv:RelV v u)(re:Rep X.K H v e):kc X H d u=cS e d:=by
 have h:∃(v:V) (e:D),d8 8 e/\RelV v u/\Rep X.K H v e:=⟨v,e,he,rv,re⟩
 unfold kc;rw[dif_pos h];obtain⟨h1,h2,h3⟩:=h.choose_spec.choose_spec;have e1:h.choose=v:=RelV.inj h2 rv;have h4:∀v',v'=v->∀e',d8 8 e'->Rep X.K H v' e'->e'=e:=fun v' hv e' o r=>by subst hv;exact xM I 8 _ e _ o he r re
 rw[h4 _ e1 _ h1 h3]
theorem ug{pins:List (Addr×Obj)}{σ:St}{H:Hp}{s:Shared}(I:Inv X pins σ H s){d:D}:∀{es:List D} {vs:List V} {us:List Value},(∀e∈es,d8 8 e)->Vals vs us->bJ X.K H vs es->us.any (kc X H d)=inD d es
 | [],_,_,_,rv,re=>by
  cases rv
  ·rfl
  ·simp only[bJ] at re
 | e::es,_,_,h,rv,re=>by
  cases rv with
  | nil=>simp only[bJ] at re
  | cons r t=>
   simp only[bJ] at re;rw[List.any_cons,DM I (h e (by simp)) r re.1,ug I (fun x hx=>h x (by simp[hx])) t re.2];rfl
theorem xX{pins:List (Addr×Obj)}{σ:St}{H:Hp}{s:Shared}{A:Around}(I:Inv X pins σ H s){d:D}{x:V}{v:Value}(hd:d8 8 d)(hu:A.units+8<cLine)(rx:Rep X.K H x d)(qx:RelV x v){es:List D}{vs:List V}{us:List Value}
  (he:∀e∈es,d8 8 e) (rv:Vals vs us) (re:bJ X.K H vs es):∀u∈us.toArray,EqAt A s u v (kc X H d u):=fun u PZ=>by
 obtain⟨j,hj,e⟩:=Array.mem_iff_getElem.mp PZ;obtain⟨w,a1,b1,c1⟩:=lJ rv re hj;rw[e] at a1;rw[DM I (he _ c1) a1 b1];exact uh I 8 A _ _ w x _ _ (he _ c1) hd hu b1 rx a1 qx
theorem IJ(hu:X.A.units+64<cLine):eW X (compareOp .In) (fun x y H Q=>∃p d es vs,y=.ref p/\(dP X.K H p vs\/dO X.K H p vs)/\d8 8 d/\(∀e∈es,d8 8 e)/\Rep X.K H x d/\bJ X.K H vs es/\Q (.bl (inD d es)) H):=by
 intro pins s σ H x y v u Q I rx ry h;obtain⟨p,d,es,vs,rfl,hq,hd,he,rd,re,q⟩:=h;cases ry;rcases hq with hq | hq
 ·obtain⟨its,r,pl,hz⟩:=I.list hq;refine SeqAt.in_listAt (kc X H d) pl.isList (xX I hd (by show X.A.units+1+8<cLine;omega) rd rx he r re) ⟨.bl _,H,I,rfl,?_⟩;rw[show its.toArray.any (kc X H d)=its.any (kc X H d) by simp,ug I he r re];exact q
 ·obtain⟨its,r,pl,hz⟩:=I.tuple hq;refine SeqAt.in_tupleAt (kc X H d) pl (xX I hd (by show X.A.units+1+8<cLine;omega) rd rx he r re) ⟨.bl _,H,I,rfl,?_⟩;rw[show its.toArray.any (kc X H d)=its.any (kc X H d) by simp,ug I he r re];exact q
theorem Mc(hu:X.A.units+64<cLine):eW X (compareOp .NotIn) (fun x y H Q=>∃p d es vs,y=.ref p/\(dP X.K H p vs\/dO X.K H p vs)/\d8 8 d/\(∀e∈es,d8 8 e)/\Rep X.K H x d/\bJ X.K H vs es/\Q (.bl (!inD d es)) H):=by
 intro pins s σ H x y v u Q I rx ry h;obtain⟨p,d,es,vs,rfl,hq,hd,he,rd,re,q⟩:=h;cases ry;rcases hq with hq | hq
 ·obtain⟨its,r,pl,hz⟩:=I.list hq;refine SeqAt.notIn_listAt (kc X H d) pl.isList (xX I hd (by show X.A.units+1+8<cLine;omega) rd rx he r re) ⟨.bl _,H,I,rfl,?_⟩;rw[show its.toArray.any (kc X H d)=its.any (kc X H d) by simp,ug I he r re];exact q
 ·obtain⟨its,r,pl,hz⟩:=I.tuple hq;refine SeqAt.notIn_tupleAt (kc X H d) pl (xX I hd (by show X.A.units+1+8<cLine;omega) rd rx he r re) ⟨.bl _,H,I,rfl,?_⟩;rw[show its.toArray.any (kc X H d)=its.any (kc X H d) by simp,ug I he r re];exact q
theorem rY(hu:X.A.units+64<cLine):iW X (compareOp .In) (jC false):=by
 refine⟨_,lU.or (IJ hu),fun G H x y d e Q P s rx ry h k=>?_⟩;unfold jC at h;split at h
 ·simp only[Rep] at rx ry;exact .inl ⟨_,_,rx,ry,k _ _ _ G (.refl s) (e7 (i5 _ _ _)) h⟩
 ·simp only[Rep] at ry;obtain⟨a,ys,rfl,hy,iT⟩:=ry;exact .inr ⟨a,_,_,ys,rfl,.inl ((s.ft hy).sq),h.1,h.2.1,rx.mono s,iT.mono s,k _ _ _ G (.refl s) (e7 (i5 _ _ _)) h.2.2⟩
 ·simp only[Rep] at ry;obtain⟨a,ys,rfl,hy,iT⟩:=ry;exact .inr ⟨a,_,_,ys,rfl,.inr (s.jL hy),h.1,h.2.1,rx.mono s,iT.mono s,k _ _ _ G (.refl s) (e7 (i5 _ _ _)) h.2.2⟩
 ·exact h.elim
theorem Ep(hu:X.A.units+64<cLine):iW X (compareOp .NotIn) (jC true):=by
 refine⟨_,ja.or (Mc hu),fun G H x y d e Q P s rx ry h k=>?_⟩;unfold jC at h;split at h
 ·simp only[Rep] at rx ry;exact .inl ⟨_,_,rx,ry,k _ _ _ G (.refl s) (e7 (i5 _ _ _)) h⟩
 ·simp only[Rep] at ry;obtain⟨a,ys,rfl,hy,iT⟩:=ry;exact .inr ⟨a,_,_,ys,rfl,.inl ((s.ft hy).sq),h.1,h.2.1,rx.mono s,iT.mono s,k _ _ _ G (.refl s) (e7 (i5 _ _ _)) h.2.2⟩
 ·simp only[Rep] at ry;obtain⟨a,ys,rfl,hy,iT⟩:=ry;exact .inr ⟨a,_,_,ys,rfl,.inr (s.jL hy),h.1,h.2.1,rx.mono s,iT.mono s,k _ _ _ G (.refl s) (e7 (i5 _ _ _)) h.2.2⟩
 ·exact h.elim
noncomputable def xo:D->Bool
 | .non=>true
 | _=>false
def xa(neg:Bool):O2:=fun d e Q=>match e with
 | .non=>Q (.fz (.bl (if neg then !xo d else xo d)))
 | _=>False
theorem LY{K:PySem.W.Frag}{G:Hp}{x:V}{d:D}(r:Rep K G x d):decide (x=.non)=xo d:=by
 cases d<;>simp only[Rep] at r
 case non=>subst r;rfl
 case bl=>subst r;rfl
 case int=>subst r;rfl
 case str=>subst r;rfl
 case tup=>obtain⟨_,_,rfl,_⟩:=r;rfl
 case lst=>obtain⟨_,_,rfl,_⟩:=r;rfl
 case obj=>obtain⟨_,_,_,_,rfl,_⟩:=r;rfl
 case dic=>obtain⟨_,_,_,rfl,_⟩:=r;rfl
 case dit=>obtain⟨_,_,_,rfl,_⟩:=r;rfl
 case exc=>obtain⟨_,_,_,rfl,_⟩:=r;rfl
theorem HA:iW X (compareOp .Is) (xa false):=by
 refine⟨_,Kb,fun G H x y d e Q P s rx ry h k=>?_⟩;unfold xa at h;split at h
 ·simp only[Rep] at ry;refine⟨ry,?_⟩;rw[LY rx];exact k _ _ _ G (.refl s) (e7 (i5 _ _ _)) h
 ·exact h.elim
end
end L2
namespace L2
open PySem PySem.Spec PyProof.Rows
section
variable {X:Cx} {pos:Pos} {a b c:Expr} {ta tb tc:TD} {pa yp:gz} {gW:List Expr}
def mL(t:gz):gz:=fun ρ Q=>t ρ fun k=>Q (!k)
def jq(t u:gz):gz:=fun ρ Q=>t ρ fun k=>if k=true then u ρ Q else Q false
def tK(t u:gz):gz:=fun ρ Q=>t ρ fun k=>if k=true then Q true else u ρ Q
theorem oq(h:PB X a pa):PB X (.UnaryOp .Not a pos) (mL pa):=by
 obtain⟨t,p,q⟩:=h;exact⟨_,JY p,fun ρ σ G0 H0 G H Q P E h k=>q ρ σ G0 H0 G H _ _ E h fun b H' G' x hq=>k _ H' G' x hq⟩
def qq(X:Cx)(e:Expr)(t:gz):Prop:=∃tt,PW X e tt/\∀(ρ:Ev) (σ:St) (G0 H0 G H:Hp) (Q:Bool->Prop) (P:Bool->Hp->Prop),cF X.K G0 H0 ρ σ G H->t ρ Q->
 (∀b H' G',Ext G H G' H'->Q b->P b H')->tt σ H P
theorem qq.pb{e:Expr}{t:gz}(h:qq X e t):PB X e t:=let⟨tt,p,q⟩:=h;⟨tt,p.pt,q⟩
theorem qH(h:PB X a pa):qq X (.BoolOp .And [a] pos) pa:=let⟨tt,p,q⟩:=h;⟨tt,KJ p,q⟩
theorem xK(h:PB X a pa):qq X (.BoolOp .Or [a] pos) pa:=let⟨tt,p,q⟩:=h;⟨tt,J1 p,q⟩
theorem ml(h:PB X a pa)(h':qq X (.BoolOp .And (b::gW) pos) yp):qq X (.BoolOp .And (a::b::gW) pos) (jq pa yp):=by
 obtain⟨t,p,q⟩:=h;obtain⟨t',p',q'⟩:=h';refine⟨_,JZ p p',fun ρ σ G0 H0 G H Q P E h k=>q ρ σ G0 H0 G H _ _ E h fun b H' G' x hq=>?_⟩;cases b with
 | true=>rw[if_pos rfl] at hq ⊢;exact q' ρ σ G0 H0 G' H' Q P (E.ext x) hq fun b2 H2 G2 x2 h2=>k b2 H2 G2 (x.trans x2) h2
 | false=>rw[if_neg aw] at hq ⊢;exact k false H' G' x hq
theorem xr(h:PB X a pa)(h':qq X (.BoolOp .Or (b::gW) pos) yp):qq X (.BoolOp .Or (a::b::gW) pos) (tK pa yp):=by
 obtain⟨t,p,q⟩:=h;obtain⟨t',p',q'⟩:=h';refine⟨_,Ie p p',fun ρ σ G0 H0 G H Q P E h k=>q ρ σ G0 H0 G H _ _ E h fun b H' G' x hq=>?_⟩;cases b with
 | true=>rw[if_pos rfl] at hq ⊢;exact k true H' G' x hq
 | false=>rw[if_neg aw] at hq ⊢;exact q' ρ σ G0 H0 G' H' Q P (E.ext x) hq fun b2 H2 G2 x2 h2=>k b2 H2 G2 (x.trans x2) h2
def Hz(t:TD):TD:=fun ρ Q=>t ρ fun r=>match r with
 | .fz (.bl k)=>Q (.fz (.bl (!k)))
 | _=>False
def rX(t u:TD):TD:=fun ρ Q=>t ρ fun r=>match r with
 | .fz (.bl k)=>if k=true then u ρ Q else Q (.fz (.bl false))
 | _=>False
theorem zm{op}(h:PD X a ta):PD X (.BoolOp op [a] pos) ta:=let⟨t,p,q⟩:=h;⟨t,JX p,q⟩
theorem xq(h:PD X a ta)(h':PD X (.BoolOp .And (b::gW) pos) tb):PD X (.BoolOp .And (a::b::gW) pos) (rX ta tb):=by
 obtain⟨t,p,q⟩:=h;obtain⟨t',p',q'⟩:=h';refine⟨_,JW p p',fun ρ σ G0 H0 G H Q P E h k=>q ρ σ G0 H0 G H _ _ E h fun v H' r G' x rr hq=>?_⟩;split at hq
 ·rename_i kk;have e:v=.bl kk:=by simpa only[df,Rep] using rr
  refine⟨kk,e,?_⟩;cases kk with
  | true=>rw[if_pos rfl] at hq ⊢;exact q' ρ σ G0 H0 G' H' Q P (E.ext x) hq fun b2 H2 r2 G2 x2 vt h2=>k b2 H2 r2 G2 (x.trans x2) (vt.g7 x.h) h2
  | false=>rw[if_neg aw] at hq ⊢;exact k _ H' _ G' x (e7 (i5 _ _ _)) hq
 ·exact hq.elim
def uf(o o':O2)(ta tb tc:TD):TD:=fun ρ Q=>ta ρ fun ra=>tb ρ fun rb=>o ra.val rb.val fun r=>match r with
 | .fz (.bl k)=>if k=true then tc ρ fun rc=>o' rb.val rc.val Q else Q (.fz (.bl false))
 | _=>False
abbrev mH(K:PySem.W.Frag)(t:TD)(tt:TE):Prop:=∀(ρ:Ev) (σ:St) (G0 H0 G H:Hp) (Q:R->Prop) (P:VK),cF K G0 H0 ρ σ G H->t ρ Q->(∀v H' r G',Ext G H G' H'->df K G' H' H v r->Q r->P v H')->tt σ H P
theorem LX{K:PySem.W.Frag}{g g':Int->Int->Bool}{t1 t2 t3:TE}(q1:mH K ta t1)(q2:mH K tb t2)(q3:mH K tc t3) :
  mH K (uf (fT fun i j=>.bl (g i j)) (fT fun i j=>.bl (g' i j)) ta tb tc) (DW (lS fun i j=>.bl (g i j)) (lS fun i j=>.bl (g' i j)) t1 t2 t3):=by
 refine fun ρ σ G0 H0 G H Q P E h k=>q1 ρ σ G0 H0 G H _ _ E h fun v1 H1 r1 G1 x1 Bc lY=>?_
 obtain⟨CI,pT,Bb,_⟩:=Bc.freeze x1;refine q2 ρ σ G0 H0 CI H1 _ _ (E.ext pT) lY fun v2 H2 r2 G2 x2 vt gY=>?_
 obtain⟨yQ,pS,pW,_⟩:=vt.freeze x2;unfold fT at gY;split at gY
 ·rename_i i j e1 e2;rw[e1] at Bb;rw[e2] at pW;simp only[Rep] at Bb pW;refine⟨i,j,Bb,pW,_,rfl,?_⟩;dsimp only at gY;cases hk:g i j with
  | false=>
   rw[hk,if_neg aw] at gY;rw[if_neg aw];exact k _ _ _ yQ (pT.trans pS) (e7 (i5 _ _ _)) gY
  | true=>
   rw[hk,if_pos rfl] at gY;rw[if_pos rfl];refine q3 ρ σ G0 H0 yQ H2 _ _ (E.ext (pT.trans pS)) gY fun v3 H3 r3 G3 x3 m4 dm=>?_
   obtain⟨Rh,OK,jM,_⟩:=m4.freeze x3;rw[e2] at dm;split at dm
   ·rename_i i' j' e3 e4;cases e3;rw[e4] at jM;simp only[Rep] at jM;exact⟨j,j',pW,jM,k _ _ _ Rh ((pT.trans pS).trans OK) (e7 (i5 _ _ _)) dm⟩
   ·exact dm.elim
 ·exact gY.elim
theorem II{K:PySem.W.Frag}{t:TD}{tt:TE}(q:mH K t tt)(ρ:Ev)(σ:St)(G0 H0 G H:Hp)(Q:Bool->Prop)(P:Bool->Hp->Prop)(E:cF K G0 H0 ρ σ G H)(h:cQ t ρ Q)(k:∀b H' G',Ext G H G' H'->Q b->P b H'):y8 tt σ H P:=by
 refine q ρ σ G0 H0 G H _ _ E h fun v H' r G' x1 r1 h1=>?_
 split at h1
 ·rename_i kk;have e:v=.bl kk:=by simpa only[df,Rep] using r1
  exact⟨kk,e,k kk H' G' x1 h1⟩
 ·exact h1.elim
theorem EL{op qS:CmpOp}{g g':Int->Int->Bool}(ho:eW X (compareOp op) (lS fun i j=>.bl (g i j)))(nq:eW X (compareOp qS) (lS fun i j=>.bl (g' i j)))(h1:PD X a ta)(h2:PD X b tb)(h3:PD X c tc)(hm:lastMarks [op,qS] [b,c]=false:=by with_unfolding_all rfl) :
  PB X (.Compare a [op,qS] [b,c] pos) (cQ (uf (fT fun i j=>.bl (g i j)) (fT fun i j=>.bl (g' i j)) ta tb tc)):=by
 obtain⟨t1,p1,q1⟩:=h1;obtain⟨t2,p2,q2⟩:=h2;obtain⟨t3,p3,q3⟩:=h3;exact⟨_,LN ho nq p1 p2 p3 hm,II (LX q1 q2 q3)⟩
def cR:O2:=fun d e Q=>match d,e with
 | .lst ds,.int i=>∃d,cT ds i=some d/\Q (.fz d)
 | .tup ds,.int i=>∃d,cT ds i=some d/\Q (.fz d)
 | .str z,.int i=>z.length<=sizeLine/\∃c,cT z.cps.toList i=some c/\Q (.fz (.str ⟨#[c]⟩))
 | _,_=>False
theorem Eo{K:PySem.W.Frag}{G:Hp}{xs:List V}{ds:List D}{i:Int}{d:D}(r:bJ K G xs ds)(h:cT ds i=some d):∃v,cT xs i=some v/\Rep K G v d:=by
 unfold cT at h ⊢;rw[r.length];cases e:jR ds.length i with
 | none=>rw[e] at h;cases h
 | some j=>
  rw[e] at h;simp only[Option.bind_some] at h ⊢;exact r.get h
theorem d0(h1:PD X a ta)(h2:PD X b tb)(hs:zO b:=by intro _ _;rfl):PD X (.Subscript a b pos) (bQ cR ta tb):=by
 obtain⟨t1,p1,q1⟩:=h1;obtain⟨t2,p2,q2⟩:=h2;refine⟨_,Dd IT p1 p2 hs,xu (r:=Gj X.K) (fun G H x y d e Q P s rx ry h k=>?_) q1 q2⟩;unfold cR at h;split at h
 ·simp only[Rep] at rx ry;obtain⟨p,xs,rfl,hq,rs⟩:=rx;obtain⟨d,hd,q⟩:=h;obtain⟨v,hv,rv⟩:=Eo rs hd;exact .inl ⟨p,xs,_,v,rfl,ry,(s.ft hq).sq,hv,k _ _ _ G (.refl s) (e7 rv) q⟩
 ·simp only[Rep] at rx ry;obtain⟨p,xs,rfl,hq,rs⟩:=rx;obtain⟨d,hd,q⟩:=h;obtain⟨v,hv,rv⟩:=Eo rs hd;exact .inr (.inl ⟨p,xs,_,v,rfl,ry,s.jL hq,hv,k _ _ _ G (.refl s) (e7 rv) q⟩)
 ·simp only[Rep] at rx ry;obtain⟨hz,c,hc,q⟩:=h;exact .inr (.inr ⟨_,_,c,rx,ry,hz,hc,k _ _ _ G (.refl s) (e7 (pN _ _ _)) q⟩)
 ·exact h.elim
variable {e:Expr} {es:List Expr} {te:TD} {ts:iH}
def bU:iH:=fun _ Q=>Q []
def bM(te:TD)(ts:iH):iH:=fun ρ Q=>te ρ fun r=>ts ρ fun ds=>Q (r.val::ds)
theorem bX:l7 X [] bU:=⟨_,mN,fun ρ σ G0 H0 G H Q P E h k=>k [] H [] G (.refl E.e.s) bJ.nil h⟩
theorem bP(h:PD X e te)(hr:l7 X es ts)(hs:starEach (e::es) X.env=(false,eval e X.env)::starEach es X.env:=by rfl):l7 X (e::es) (bM te ts):=by
 obtain⟨t1,p1,q1⟩:=h;obtain⟨t2,p2,q2⟩:=hr;refine⟨_,mP p1 p2 hs,fun ρ σ G0 H0 G H Q P E h k=>q1 ρ σ G0 H0 G H _ _ E h fun v H' r G' x1 rr hq=>?_⟩;obtain⟨G2,x2,rv,_⟩:=rr.freeze x1;refine q2 ρ σ G0 H0 G2 H' _ _ (E.ext x2) hq fun vs H3 ds G3 x3 rs dm=>?_
 exact k _ H3 _ G3 (x2.trans x3) (bJ.cons (rv.mono x3.g) rs) dm
def dN(ts:iH):TD:=fun ρ Q=>ts ρ fun ds=>ds.length<=sizeLine/\Q (.fz (.tup ds))
def ic(ts:iH):TD:=fun ρ Q=>ts ρ fun ds=>ds.length<=sizeLine/\Q (.ow ds)
theorem fX{x1}(h:l7 X es ts):PD X (.Tuple es x1 pos) (dN ts):=by
 obtain⟨t,p,q⟩:=h;refine⟨_,Ka p,fun ρ σ G0 H0 G H Q P E h k=>q ρ σ G0 H0 G H _ _ E h fun vs H' ds G' x rs hq=>⟨by rw[rs.length];exact hq.1,fun p hp=>?_⟩⟩;have x2:Ext G' H' (upd G' p (.tup vs)) (upd H' p (.tup vs)):=.new x.s hp;refine k _ _ (.fz (.tup ds)) _ (x.trans x2) ?_ hq.2;show Rep X.K _ _ (.tup ds);simp only[Rep];exact⟨p,vs,rfl,fq,rs.mono x2.g⟩
theorem j7(h:l7 X es ts):PD X (.List es pos) (ic ts):=by
 obtain⟨t,p,q⟩:=h;refine⟨_,DU p,fun ρ σ G0 H0 G H Q P E h k=>q ρ σ G0 H0 G H _ _ E h fun vs H' ds G' x rs hq=>⟨by rw[rs.length];exact hq.1,fun p hp=>?_⟩⟩;exact k _ _ (.ow ds) G' (x.trans (.own x.s hp)) ⟨p,vs,rfl,x.h.free hp,x.s.free hp,fq,rs⟩ hq.2
def pD(X:Cx)(f:Value)(o:List D->(R->Prop)->Prop):Prop:=∃r,dh X f r/\∀(G H:Hp) (vs:List V) (ds:List D) (Q:R->Prop) (P:VK),bT G H->bJ X.K G vs ds->o ds Q->
 (∀v H' r' G',Ext G H G' H'->df X.K G' H' H v r'->Q r'->P v H')->r vs H P
def eC(o:List D->(R->Prop)->Prop)(ts:iH):TD:=fun ρ Q=>ts ρ fun ds=>o ds Q
theorem Ir{o:List D->(R->Prop)->Prop}{r:List V->Hp->VK->Prop}{t:TA}
  (hr:∀(G H:Hp) (vs:List V) (ds:List D) (Q:R->Prop) (P:VK),bT G H->bJ X.K G vs ds->o ds Q->(∀v H' r' G',Ext G H G' H'->df X.K G' H' H v r'->Q r'->P v H')->r vs H P)
  (q:∀(ρ:Ev) (σ:St) (G0 H0 G H:Hp) (Q:List D->Prop) (P:List V->Hp->Prop),cF X.K G0 H0 ρ σ G H->ts ρ Q->(∀vs H' ds G',Ext G H G' H'->bJ X.K G' vs ds->Q ds->P vs H')->t σ H P):mH X.K (eC o ts) (A3 r t):=
 fun ρ σ G0 H0 G H Q P E h k=>q ρ σ G0 H0 G H _ _ E h fun vs H' ds G' x rs hq=>hr G' H' vs ds Q P x.s rs hq fun v H2 r' G2 x2 rr q2=>k v H2 r' G2 (x.trans x2) (rr.g7 x.h) q2
theorem fm{id:String}{x:Str}{p:Pos}{o:List D->(R->Prop)->Prop}(hc:pD X (.builtin id) o)(hm:X.mg x=none)(hv:bootBuiltins x=some (.builtin id))(ha:l7 X (e::es) ts)(hg:Gl X x:=by rfl)(hn:x≠"__name__":=by decide)(oY:(x==("__debug__":Str))=false:=by decide)
  (he:starEach (e::es) X.env=(false,eval e X.env)::starEach es X.env:=by rfl) (jU:(backTo pos (starEach es X.env)).any (·.1)=false:=by rfl):PD X (.Call (.Name x p) (e::es) [] pos) (eC o ts):=by
 obtain⟨r,hr,kb⟩:=hc;obtain⟨t,pp,q⟩:=ha;exact⟨_,xZ hr hg hm hv pp hn oY he jU,Ir kb q⟩
end
end L2
namespace L2
open PySem PySem.Spec PyProof.Rows
theorem lH{σ:St}{i j:Nat}{x:Option V}:(σ.set i x)[j]?=if i=j/\j<σ.length then some x else σ[j]?:=by
 by_cases h:i=j
 ·subst h;by_cases hl:i<σ.length
  ·simp[hl]
  ·simp[hl]
 ·simp[h]
section
variable {K:PySem.W.Frag} {G0 H0 G H G' H':Hp} {ρ:Ev} {σ:St}
theorem cF.put{i:Nat}{v:V}{r:R}(E:cF K G0 H0 ρ σ G H)(x:Ext G H G' H')(rr:df K G' H' H v r):cF K G0 H0 (ρ.set i r.sl) (σ.set i (some v)) G' H':=by
 have E':=E.ext x;have hl:=E.len;have gs:∀j s,gt (ρ.set i r.sl) j=s->(i=j/\j<ρ.length/\s=r.sl)\/(¬(i=j/\j<ρ.length)/\gt ρ j=s):=fun j s e=>by
  rw[ot] at e;by_cases h:i=j/\j<ρ.length
  ·rw[if_pos h] at e;exact .inl ⟨h.1,h.2,e.symm⟩
  ·rw[if_neg h] at e;exact .inr ⟨h,e⟩
 refine⟨E'.e,by simp[E.len],fun j d h=>?_,fun j ds h=>?_,fun j k ds es kD h1 h2=>?_,?_⟩
 ·rcases gs j _ h with⟨h1,h2,h3⟩ | ⟨h1,h2⟩
  ·cases r with
   | ow=>cases h3
   | ov=>cases h3
   | fz d'=>
    cases h3;exact⟨v,by rw[lH,if_pos ⟨h1,by omega⟩],rr⟩
  ·obtain⟨u,hu,ru⟩:=E'.fz j d h2;exact⟨u,by rw[lH,if_neg (by rw[hl];exact h1)];exact hu,ru⟩
 ·rcases gs j _ h with⟨h1,h2,h3⟩ | ⟨h1,h2⟩
  ·cases r with
   | fz=>cases h3
   | ov=>cases h3
   | ow tH=>
    cases h3;obtain⟨p,xs,rfl,a1,a2,a3,a4⟩:=rr;exact⟨p,xs,by rw[lH,if_pos ⟨h1,by omega⟩],a3,a2,E.e.h.free a1,a4⟩
  ·obtain⟨p,xs,b1,b2,b3,b4,b5⟩:=E'.ow j ds h2;exact⟨p,xs,by rw[lH,if_neg (by rw[hl];exact h1)];exact b1,b2,b3,b4,b5⟩
 ·have old:∀{j:Nat} {ds:List D},gt ρ j=.ow ds->∀es,r=.ow es->σ[j]?≠some (some v):=fun{j ds} h es e z=>by
   subst e;obtain⟨p,xs,rfl,a1,a2,a3,a4⟩:=rr;obtain⟨p',lP,b1,b2,b3,b4,b5⟩:=E.ow j ds h;rw[b1] at z;cases z;rw[a1] at b2;cases b2
  rcases gs j _ h1 with⟨c1,c2,c3⟩ | ⟨c1,c2⟩
  ·rcases gs k _ h2 with⟨d1,d2,d3⟩ | ⟨d1,d2⟩
   ·exact absurd (c1.symm.trans d1) kD
   ·rw[lH,if_pos ⟨c1,by omega⟩,lH,if_neg (by rw[hl];exact d1)];cases r with
    | fz=>cases c3
    | ov=>cases c3
    | ow rJ=>exact fun z=>old d2 rJ rfl z.symm
  ·rcases gs k _ h2 with⟨d1,d2,d3⟩ | ⟨d1,d2⟩
   ·rw[lH,if_neg (by rw[hl];exact c1),lH,if_pos ⟨d1,by omega⟩];cases r with
    | fz=>cases d3
    | ov=>cases d3
    | ow rJ=>exact old c2 rJ rfl
   ·rw[lH,if_neg (by rw[hl];exact c1),lH,if_neg (by rw[hl];exact d1)];exact E.dj j k ds es kD c2 d2
 ·obtain⟨own,o1,o2⟩:=E.on;have sT:∀j,¬(i=j/\j<ρ.length)->(σ.set i (some v))[j]?=σ[j]?:=fun j h=>by rw[lH,if_neg (by rw[hl];exact h)]
  have gen:∀L:List Addr,(∀q∈L,H q=none)->(∀j ds p,i=j->j<ρ.length->r.sl=.ow ds->v=.ref p->p∈L)->
    (∀j o,i=j->j<ρ.length->r.sl=.ov o->∃p fp,v=.ref p/\(p::fp).Nodup/\gK K G' H' p fp o/\∀q∈p::fp,G' q=none/\q∈L)->
    ∃own:Addr->Option Nat,(∀j ds p,gt (ρ.set i r.sl) j=.ow ds->(σ.set i (some v))[j]?=some (some (.ref p))->own p=some j)/\∀j o,gt (ρ.set i r.sl) j=.ov o->∃p fp,(σ.set i (some v))[j]?=some (some (.ref p))/\(p::fp).Nodup/\gK K G' H' p fp o/\∀q∈p::fp,G' q=none/\H0 q=none/\own q=some j:=by
   intro L hL hw ho;refine⟨fun q=>if q∈L then some i else own q,fun j ds p h hp=>?_,fun j o h=>?_⟩
   ·rcases gs j _ h with⟨h1,h2,h3⟩ | ⟨h1,h2⟩
    ·rw[lH,if_pos ⟨h1,by omega⟩] at hp;have hv:v=.ref p:=by injection hp with hp;injection hp
     dsimp only;rw[if_pos (hw j ds p h1 h2 h3.symm hv),h1]
    ·rw[sT j h1] at hp;obtain⟨p',lP,b1,b2,_⟩:=E.ow j ds h2;have du:p∉L:=fun z=>by
      rw[hp] at b1;cases b1;rw[hL p z] at b2;cases b2
     dsimp only;rw[if_neg du];exact o1 j ds p h2 hp
   ·rcases gs j _ h with⟨h1,h2,h3⟩ | ⟨h1,h2⟩
    ·obtain⟨p,fp,rfl,c1,c2,c3⟩:=ho j o h1 h2 h3.symm;refine⟨p,fp,by rw[lH,if_pos ⟨h1,by omega⟩],c1,c2,fun q hq=>⟨(c3 q hq).1,E.e.h.free (hL q (c3 q hq).2),?_⟩⟩;dsimp only;rw[if_pos (c3 q hq).2,h1]
    ·obtain⟨p,fp,b1,b2,b3,b4⟩:=o2 j o h2;refine⟨p,fp,by rw[sT j h1];exact b1,b2,b3.mono x.g fun q _ u e=>x.h q u e,fun q hq=>⟨x.n q (b4 q hq).1 (b3.here q hq),(b4 q hq).2.1,?_⟩⟩;dsimp only;rw[if_neg (fun z=>b3.here q hq (hL q z))];exact(b4 q hq).2.2
  cases r with
  | fz d=>exact gen [] (fun q hq=>by cases hq) (fun j ds p _ _ e=>by cases e) (fun j o _ _ e=>by cases e)
  | ow tH=>
   obtain⟨p,xs,rfl,a1,a2,a3,a4⟩:=rr;refine gen [p] (fun q hq=>?_) (fun j ds p' _ _ e e2=>?_) (fun j o _ _ e=>by cases e)
   ·simp only[aV] at hq;subst hq;exact a1
   ·cases e2;simp
  | ov o'=>
   obtain⟨p,fp,rfl,a1,a2,a3⟩:=rr;refine gen (p::fp) (fun q hq=>(a3 q hq).1) (fun j ds p' _ _ e=>by cases e) (fun j o _ _ e=>?_);cases e;exact⟨p,fp,rfl,a1,a2,fun q hq=>⟨(a3 q hq).2,hq⟩⟩
noncomputable def iE(i:Nat)(ρ:Ev):Ev:=match gt ρ i with
 | .ow ds=>ρ.set i (.fz (.lst ds))
 | .ov o=>ρ.set i (.fz o.val)
 | _=>ρ
theorem r8{ρ:Ev}{i:Nat}{s:Sl}(h:gt ρ i=s)(hs:s≠.un):i<ρ.length:=by
 induction ρ generalizing i with
 | nil=>simp[gt] at h;exact absurd h.symm hs
 | cons a r ih=>
  cases i with
  | zero=>simp
  | succ i=>simp only[gt] at h;have:=ih h;simp;omega
theorem bR.Gs{K:PySem.W.Frag}{G H:Hp}:∀{qs:List Addr} {cj:List (List D)},bR K G H qs cj->∀q∈qs,∃zs,H q=some (.lst zs)
 | [],[],_,q,hq=>by cases hq
 | p::qs,ds::cj,h,q,hq=>by
  simp only[bR] at h;rcases ar.mp hq with rfl | hq
  ·exact⟨_,h.1.choose_spec.1⟩
  ·exact bR.Gs h.2 q hq
 | [],_::_,h,_,_=>by simp only[bR] at h
 | _::_,[],h,_,_=>by simp only[bR] at h
theorem cF.nA(i:Nat)(E:cF K G0 H0 ρ σ G H):∃L:List Addr,(∀q∈L,G q=none)/\cF K G0 H0 (iE i ρ) σ (lA G H L) H/\(((∀o,gt ρ i=.ov o->(∃bL,o=.dc bL)\/∃cj,o=.ll cj)->∀q∈L,H q≠none/\∀xs,¬Rd H q (.tup xs)))/\∀o p,gt ρ i=.ov o->σ[i]?=some (some (.ref p))->p∈L:=by
 unfold iE;split
 ·rename_i ds hg;obtain⟨p,xs,h1,h2,h3,h4,h5⟩:=E.ow i ds hg;have dz:i<ρ.length:=r8 hg (by simp);have hs:bT G (upd G p (.lst xs)):=pP h3;have gs:∀j s,gt (ρ.set i (.fz (.lst ds))) j=s->(i=j/\s=.fz (.lst ds))\/(i≠j/\gt ρ j=s):=fun j s e=>by
   rw[ot] at e;by_cases h:i=j
   ·subst h;rw[if_pos ⟨rfl,dz⟩] at e;exact .inl ⟨rfl,e.symm⟩
   ·rw[if_neg (fun z=>h z.1)] at e;exact .inr ⟨h,e⟩
  have ep:lA G H [p]=upd G p (.lst xs):=by
   funext a
   by_cases ha:a=p
   ·subst ha;rw[fq,nU (by simp)];exact h2
   ·rw[cK ha,mS (by simpa using ha)]
  refine⟨[p],fun q hq=>?_,?_,fun _ q hq=>by
   simp only[aV] at hq;rw[hq]
   exact⟨(by rw[h2];exact nofun),fun lP e=>by rcases e with e | ⟨_,e⟩<;>(rw[h2] at e;cases e)⟩,fun o p z=>by rw[hg] at z;cases z⟩
  ·simp only[aV] at hq;subst hq;exact h3
  rw[ep];refine⟨⟨E.e.g.trans hs,E.e.h,fun b o e=>?_,fun q q1 q2=>?_⟩,by simp[E.len],fun j d h=>?_,fun j es h=>?_,fun j k es fs kD a1 a2=>?_,?_⟩
  ·by_cases hb:b=p
   ·subst hb;rw[fq] at e;rw[h2];exact e
   ·rw[cK hb] at e;exact E.e.s b o e
  ·rw[cK (fun z=>q2 (by rw[z];exact h4))];exact E.e.n q q1 q2
  ·rcases gs j _ h with⟨e,e2⟩ | ⟨e,e2⟩
   ·subst e;cases e2;exact⟨_,h1,by simp only[Rep];exact⟨p,xs,rfl,iu.of fq,h5.mono hs⟩⟩
   ·obtain⟨u,u1,u2⟩:=E.fz j d e2;exact⟨u,u1,u2.mono hs⟩
  ·rcases gs j _ h with⟨e,e2⟩ | ⟨e,e2⟩
   ·cases e2
   ·obtain⟨p',lP,b1,b2,b3,b4,b5⟩:=E.ow j es e2;have du:p'≠p:=fun z=>by
     subst z;exact E.dj i j ds es e hg e2 (by rw[h1,b1])
    exact⟨p',lP,b1,b2,by rw[cK du];exact b3,b4,b5.mono hs⟩
  ·rcases gs j _ a1 with⟨_,e2⟩ | ⟨e,e2⟩
   ·cases e2
   ·rcases gs k _ a2 with⟨_,e4⟩ | ⟨e3,e4⟩
    ·cases e4
    ·exact E.dj j k es fs kD e2 e4
  ·obtain⟨own,o1,o2⟩:=E.on;refine⟨own,fun j es p' h hp=>?_,fun j o h=>?_⟩
   ·rcases gs j _ h with⟨_,e2⟩ | ⟨_,e2⟩
    ·cases e2
    ·exact o1 j es p' e2 hp
   ·rcases gs j _ h with⟨_,e2⟩ | ⟨e,e2⟩
    ·cases e2
    ·obtain⟨p',fp,b1,b2,b3,b4⟩:=o2 j o e2;refine⟨p',fp,b1,b2,b3.mono hs fun q _ u e=>e,fun q hq=>⟨?_,(b4 q hq).2⟩⟩;rw[cK fun z=>?_]
     ·exact(b4 q hq).1
     ·have z1:=(b4 q hq).2.2;rw[z,o1 i ds p hg h1] at z1;injection z1 with z1
      exact e z1
 ·rename_i o hg;obtain⟨own,o1,o2⟩:=E.on;obtain⟨p,fp,h1,h2,h3,h4⟩:=o2 i o hg;have dz:i<ρ.length:=r8 hg (by simp);have hn:∀q∈p::fp,G q=none:=fun q hq=>(h4 q hq).1
  have hs:bT G (lA G H (p::fp)):=uH hn;have gs:∀j s,gt (ρ.set i (.fz o.val)) j=s->(i=j/\s=.fz o.val)\/(i≠j/\gt ρ j=s):=fun j s e=>by
   rw[ot] at e;by_cases h:i=j
   ·subst h;rw[if_pos ⟨rfl,dz⟩] at e;exact .inl ⟨rfl,e.symm⟩
   ·rw[if_neg (fun z=>h z.1)] at e;exact .inr ⟨h,e⟩
  suffices vS:cF K G0 H0 (ρ.set i (.fz o.val)) σ (lA G H (p::fp)) H from⟨p::fp,hn,vS,fun hd q hq=>by
   rcases hd o hg with⟨bL,rfl⟩ | ⟨cj,rfl⟩
   ·obtain⟨rfl,ks,ep,h5,_⟩:=h3;simp only[aV] at hq;rw[hq];exact⟨(by rw[h5];exact nofun),fun lP e=>by rcases e with e | ⟨_,e⟩<;>(rw[h5] at e;cases e)⟩
   ·obtain⟨zs,h5⟩:∃zs,H q=some (.lst zs):=by
     rcases ar.mp hq with rfl | hq
     ·exact⟨_,h3.1⟩
     ·exact bR.Gs h3.2 q hq
    exact⟨(by rw[h5];exact nofun),fun lP e=>by rcases e with e | ⟨_,e⟩<;>(rw[h5] at e;cases e)⟩,fun o' p' _ e=>by rw[h1] at e;cases e;simp⟩
  refine⟨⟨E.e.g.trans hs,E.e.h,fun b u e=>?_,fun q q1 q2=>?_⟩,by simp[E.len],fun j d h=>?_,fun j es h=>?_,fun j k es fs kD a1 a2=>?_,own,fun j es p' h hp=>?_,fun j o' h=>?_⟩
  ·by_cases hb:b∈p::fp
   ·rw[nU hb] at e;exact e
   ·rw[mS hb] at e;exact E.e.s b u e
  ·rw[mS (fun z=>q2 (h4 q z).2.1)];exact E.e.n q q1 q2
  ·rcases gs j _ h with⟨e,e2⟩ | ⟨e,e2⟩
   ·subst e;cases e2;exact⟨_,h1,h3.freeze hn⟩
   ·obtain⟨u,u1,u2⟩:=E.fz j d e2;exact⟨u,u1,u2.mono hs⟩
  ·rcases gs j _ h with⟨e,e2⟩ | ⟨e,e2⟩
   ·cases e2
   ·obtain⟨p',lP,b1,b2,b3,b4,b5⟩:=E.ow j es e2;refine⟨p',lP,b1,b2,?_,b4,b5.mono hs⟩;rw[mS fun z=>?_]
    ·exact b3
    ·have z1:=(h4 p' z).2.2;rw[o1 j es p' e2 b1] at z1;injection z1 with z1
     exact e z1.symm
  ·rcases gs j _ a1 with⟨_,e2⟩ | ⟨e,e2⟩
   ·cases e2
   ·rcases gs k _ a2 with⟨_,e4⟩ | ⟨e3,e4⟩
    ·cases e4
    ·exact E.dj j k es fs kD e2 e4
  ·rcases gs j _ h with⟨_,e2⟩ | ⟨_,e2⟩
   ·cases e2
   ·exact o1 j es p' e2 hp
  ·rcases gs j _ h with⟨_,e2⟩ | ⟨e,e2⟩
   ·cases e2
   ·obtain⟨p',gx,b1,b2,b3,b4⟩:=o2 j o' e2;refine⟨p',gx,b1,b2,b3.mono hs fun q _ u e=>e,fun q hq=>⟨?_,(b4 q hq).2⟩⟩;rw[mS fun z=>?_]
    ·exact(b4 q hq).1
    ·have z1:=(b4 q hq).2.2;rw[(h4 q z).2.2] at z1;injection z1 with z1
     exact e z1
 ·rename_i RA Po;have ep:lA G H []=G:=by funext a;exact mS (by simp)
  exact⟨[],fun q hq=>(by cases hq),by rw[ep];exact E,fun _ q hq=>(by cases hq),fun o p z=>(Po o z).elim⟩
theorem cF.la(i:Nat)(E:cF K G0 H0 ρ σ G H):∃L:List Addr,(∀q∈L,G q=none)/\cF K G0 H0 (iE i ρ) σ (lA G H L) H/\((∀o,gt ρ i=.ov o->(∃bL,o=.dc bL)\/∃cj,o=.ll cj)->∀q∈L,H q≠none/\∀xs,¬Rd H q (.tup xs)):=
 let⟨L,a,b,c,_⟩:=E.nA i
 ⟨L,a,b,c⟩
theorem cF.freeze(i:Nat)(E:cF K G0 H0 ρ σ G H):∃G',cF K G0 H0 (iE i ρ) σ G' H/\bT G G':=
 let⟨L,hL,E',_⟩:=E.la i
 ⟨_,E',uH hL⟩
theorem cF.change{i:Nat}{ds tH:List D}{p:Addr}{lP:List V}(E:cF K G0 H0 ρ σ G H)(hg:gt ρ i=.ow ds)(h1:σ[i]?=some (some (.ref p)))(hr:bJ K G lP tH) :
  cF K G0 H0 (ρ.set i (.ow tH)) σ G (upd H p (.lst lP)):=by
 obtain⟨p',Ru,b1,b2,b3,b4,b5⟩:=E.ow i ds hg;rw[h1] at b1;cases b1;have dz:i<ρ.length:=r8 hg (by simp);have gs:∀j s,gt (ρ.set i (.ow tH)) j=s->(i=j/\s=.ow tH)\/(i≠j/\gt ρ j=s):=fun j s e=>by
  rw[ot] at e;by_cases h:i=j
  ·subst h;rw[if_pos ⟨rfl,dz⟩] at e;exact .inl ⟨rfl,e.symm⟩
  ·rw[if_neg (fun z=>h z.1)] at e;exact .inr ⟨h,e⟩
 have hG:bT G (upd H p (.lst lP)):=fun b o e=>by rw[cK (i3 e b3)];exact E.e.s b o e
 refine⟨⟨E.e.g,fun b o e=>by rw[cK (i3 e b4)];exact E.e.h b o e,hG,E.e.n⟩,by simp[E.len],fun j d h=>?_,fun j es h=>?_,fun j k es fs kD a1 a2=>?_,?_⟩
 ·rcases gs j _ h with⟨_,e2⟩ | ⟨e,e2⟩
  ·cases e2
  ·exact E.fz j d e2
 ·rcases gs j _ h with⟨e,e2⟩ | ⟨e,e2⟩
  ·subst e;cases e2;exact⟨p,lP,h1,fq,b3,b4,hr⟩
  ·obtain⟨p',OJ,c1,c2,c3,c4,c5⟩:=E.ow j es e2;have du:p'≠p:=fun z=>by
    subst z;exact E.dj i j ds es e hg e2 (by rw[h1,c1])
   exact⟨p',OJ,c1,by rw[cK du];exact c2,c3,c4,c5⟩
 ·rcases gs j _ a1 with⟨e,e2⟩ | ⟨e,e2⟩
  ·subst e;rcases gs k _ a2 with⟨e3,e4⟩ | ⟨e3,e4⟩
   ·exact absurd e3 kD
   ·exact E.dj i k ds fs kD hg e4
  ·rcases gs k _ a2 with⟨e3,e4⟩ | ⟨e3,e4⟩
   ·subst e3;exact E.dj j i es ds kD e2 hg
   ·exact E.dj j k es fs kD e2 e4
 ·obtain⟨own,o1,o2⟩:=E.on;refine⟨own,fun j es p' h hp=>?_,fun j o h=>?_⟩
  ·rcases gs j _ h with⟨e,e2⟩ | ⟨_,e2⟩
   ·subst e;exact o1 i ds p' hg hp
   ·exact o1 j es p' e2 hp
  ·rcases gs j _ h with⟨_,e2⟩ | ⟨e,e2⟩
   ·cases e2
   ·obtain⟨p',fp,c1,c2,c3,c4⟩:=o2 j o e2;refine⟨p',fp,c1,c2,c3.mono (bT.refl _) fun q hq u e3=>?_,c4⟩;rw[cK fun z=>?_]
    ·exact e3
    ·have z1:=(c4 q hq).2.2;rw[z,o1 i ds p hg h1] at z1;injection z1 with z1
     exact e z1
theorem cF.eI{i:Nat}{o o':OV}{p:Addr}(E:cF K G0 H0 ρ σ G H)(hg:gt ρ i=.ov o)(h1:σ[i]?=some (some (.ref p)))
  (hc:∀fp,(p::fp).Nodup->gK K G H p fp o->∃gx,(p::gx).Nodup/\gK K G H' p gx o'/\(∀q∈p::gx,q∈p::fp\/H q=none)/\∀b,b∉p::fp->H b≠none->H' b=H b) :
  cF K G0 H0 (ρ.set i (.ov o')) σ G H':=by
 obtain⟨own,o1,o2⟩:=E.on;obtain⟨p',fp,b1,b2,b3,b4⟩:=o2 i o hg;rw[h1] at b1;cases b1;obtain⟨gx,c1,c2,c3,c4⟩:=hc fp b2 b3;have dz:i<ρ.length:=r8 hg (by simp);have gs:∀j s,gt (ρ.set i (.ov o')) j=s->(i=j/\s=.ov o')\/(i≠j/\gt ρ j=s):=fun j s e=>by
  rw[ot] at e;by_cases h:i=j
  ·subst h;rw[if_pos ⟨rfl,dz⟩] at e;exact .inl ⟨rfl,e.symm⟩
  ·rw[if_neg (fun z=>h z.1)] at e;exact .inr ⟨h,e⟩
 have hk:∀(F:Hp),(∀q∈p::fp,F q=none)->bT F H->bT F H':=fun F hF s b u e=>by
  have hb:b∉p::fp:=fun z=>by rw[hF b z] at e;cases e
  rw[c4 b hb (by rw[s b u e];exact nofun)];exact s b u e
 refine⟨⟨E.e.g,hk H0 (fun q hq=>(b4 q hq).2.1) E.e.h,hk G (fun q hq=>(b4 q hq).1) E.e.s,E.e.n⟩,by simp[E.len],fun j d h=>?_,fun j es h=>?_,fun j k es fs kD a1 a2=>?_,fun q=>if q∈p::gx then some i else own q,fun j es p' h hp=>?_,fun j Pn h=>?_⟩
 ·rcases gs j _ h with⟨_,e2⟩ | ⟨e,e2⟩
  ·cases e2
  ·exact E.fz j d e2
 ·rcases gs j _ h with⟨_,e2⟩ | ⟨e,e2⟩
  ·cases e2
  ·obtain⟨p',xs,d1,d2,d3,d4,d5⟩:=E.ow j es e2;refine⟨p',xs,d1,?_,d3,d4,d5⟩;rw[c4 p' (fun z=>?_) (by rw[d2];exact nofun)]
   ·exact d2
   ·have z1:=(b4 p' z).2.2;rw[o1 j es p' e2 d1] at z1;injection z1 with z1
    exact e z1.symm
 ·rcases gs j _ a1 with⟨_,e2⟩ | ⟨e,e2⟩
  ·cases e2
  ·rcases gs k _ a2 with⟨_,e4⟩ | ⟨e3,e4⟩
   ·cases e4
   ·exact E.dj j k es fs kD e2 e4
 ·rcases gs j _ h with⟨_,e2⟩ | ⟨e,e2⟩
  ·cases e2
  ·have w:=o1 j es p' e2 hp;obtain⟨p2,xs,d1,d2,_⟩:=E.ow j es e2;rw[hp] at d1;cases d1;dsimp only;rw[if_neg fun z=>?_]
   ·exact w
   ·rcases c3 p' z with z | z
    ·have z1:=(b4 p' z).2.2;rw[w] at z1;injection z1 with z1
     exact e z1.symm
    ·rw[z] at d2;cases d2
 ·rcases gs j _ h with⟨e,e2⟩ | ⟨e,e2⟩
  ·subst e;cases e2;refine⟨p,gx,h1,c1,c2,fun q hq=>?_⟩;dsimp only;rw[if_pos hq];rcases c3 q hq with z | z
   ·exact⟨(b4 q z).1,(b4 q z).2.1,rfl⟩
   ·exact⟨E.e.s.free z,E.e.h.free z,rfl⟩
  ·obtain⟨p2,G9,d1,d2,d3,d4⟩:=o2 j Pn e2;have rj:∀q∈p2::G9,q∉p::fp:=fun q hq z=>by
    have z1:=(b4 q z).2.2;rw[(d4 q hq).2.2] at z1;injection z1 with z1
    exact e z1.symm
   refine⟨p2,G9,d1,d2,d3.mono (bT.refl _) fun q hq u e3=>?_,fun q hq=>⟨(d4 q hq).1,(d4 q hq).2.1,?_⟩⟩
   ·rw[c4 q (rj q hq) (by rw[e3];exact nofun)];exact e3
   ·dsimp only;rw[if_neg fun z=>?_]
    ·exact(d4 q hq).2.2
    ·rcases c3 q z with z | z
     ·exact rj q hq z
     ·exact d3.here q hq z
theorem cF.weak{ρ':Ev}(E:cF K G0 H0 ρ σ G H)(hl:ρ'.length=ρ.length)(w:∀i,gt ρ' i=.un\/gt ρ' i=gt ρ i):cF K G0 H0 ρ' σ G H:=by
 have g:∀i s,gt ρ' i=s->s≠.un->gt ρ i=s:=fun i s e n=>by
  rcases w i with h | h
  ·exact absurd (e.symm.trans h) n
  ·rw[<-h];exact e
 exact⟨E.e,by rw[hl];exact E.len,fun i d h=>E.fz i d (g i _ h (by simp)),fun i d h=>E.ow i d (g i _ h (by simp)),fun i j ds es l3 h1 h2=>E.dj i j ds es l3 (g i _ h1 (by simp)) (g j _ h2 (by simp)),let⟨own,o1,o2⟩:=E.on;⟨own,fun i ds p h=>o1 i ds p (g i _ h (by simp)),fun i o h=>o2 i o (g i _ h (by simp))⟩⟩
end
section
variable {X:Cx} {pos:Pos} {e:Expr} {te:TD}
def cq(t u:TX):TX:=fun D ρ=>t { D with nx:=u D } ρ
def eX:TX:=fun D ρ=>D.nx ρ
theorem gC:lp X [] eX:=⟨_,KI,fun ρ σ G0 H0 G H D E k h g=>g.nx ρ σ G H (bT.refl _) k h⟩
theorem cy{st:Stmt}{vp:List Stmt}{t u:TX}(h1:PX X st t)(h2:lp X vp u):lp X (st::vp) (cq t u):=by
 obtain⟨t1,p1,q1⟩:=h1;obtain⟨t2,p2,q2⟩:=h2;refine⟨_,LS p1 p2,fun ρ σ G0 H0 G H D E k h g=>q1 ρ σ G0 H0 G H _ _ k h ⟨fun ρ' cf G' H' s' k' h'=>q2 ρ' cf G0 H0 G' H' D E k' h' (g.shift s'),g.rt,g.bk,g.ct⟩⟩
theorem cD{st:Stmt}{t:TX}(h1:PX X st t):lp X [st] t:=by
 obtain⟨t1,p1,q1⟩:=h1;exact⟨_,EE p1,q1⟩
theorem xJ(i:Nat){vp:List Stmt}{t:TX}(h:lp X vp t):lp X vp (fun D ρ=>t D (iE i ρ)):=by
 obtain⟨t1,p1,q1⟩:=h;refine⟨_,p1,fun ρ σ G0 H0 G H D E k h g=>?_⟩;obtain⟨G',k',s'⟩:=k.freeze i;exact q1 _ σ G0 H0 G' H D E k' h (g.shift s')
def gr(te:TD):TX:=fun D ρ=>te ρ D.rt
theorem gP(h:PD X e te):PX X (.Return (some e) pos) (gr te):=by
 obtain⟨t,p,q⟩:=h;exact⟨_,zG p,fun ρ σ G0 H0 G H D E k h g=>q ρ σ G0 H0 G H _ _ k h fun v H' r G' x rr hq=>g.rt v H' r G' (k.e.trans x) (rr.g7 k.e.h) hq⟩
def pC(i:Nat):TX:=fun D ρ=>match gt ρ i with
 | .ow ds=>D.rt (.ow ds)
 | _=>False
theorem uw(i:Nat){x:Str}{p':Pos}(hN:X.N[i]?=some x:=by rfl)(hv:jf X.env.scope x:=by first | exact Or.inl rfl | exact Or.inr (Or.inl rfl) | exact Or.inr (Or.inr rfl))(hd:(x==("__debug__":Str))=false:=by decide)
  (eB:(x==("__classdict__":Str))=false:=by decide):PX X (.Return (some (.Name x p')) pos) (pC i):=by
 refine⟨_,zG (j8 hN hv hd eB),fun ρ σ G0 H0 G H D E k h g=>?_⟩;unfold pC at h;split at h
 ·rename_i ds hg;obtain⟨p,xs,h1,h2,h3,h4,h5⟩:=k.ow i ds hg;exact⟨_,h1,g.rt _ H (.ow ds) G k.e ⟨p,xs,rfl,h4,h3,h2,h5⟩ h⟩
 ·exact h.elim
def eU(c:gz)(t u:TX):TX:=fun D ρ=>c ρ fun b=>if b=true then t D ρ else u D ρ
theorem gw{c:Expr}{a b:List Stmt}{tc:gz}{t u:TX}(hc:PB X c tc)(ha:lp X a t)(hb:lp X b u):PX X (.If c a b pos) (eU tc t u):=by
 obtain⟨t0,p0,q0⟩:=hc;obtain⟨t1,p1,q1⟩:=ha;obtain⟨t2,p2,q2⟩:=hb;refine⟨_,HZ p0 p1 p2,fun ρ σ G0 H0 G H D E k h g=>q0 ρ σ G0 H0 G H _ _ k h fun b H' G' x hq=>?_⟩;cases b with
 | true=>rw[if_pos rfl] at hq ⊢;exact q1 ρ σ G0 H0 G' H' D E (k.ext x) hq (g.shift x.g)
 | false=>rw[if_neg aw] at hq ⊢;exact q2 ρ σ G0 H0 G' H' D E (k.ext x) hq (g.shift x.g)
def jB(i:Nat)(te:TD):TX:=fun D ρ=>te ρ fun r=>D.nx (ρ.set i r.sl)
theorem lL(i:Nat){x:Str}{pos':Pos}(he:PD X e te)(hN:X.N.Nodup:=by assumption)(hi:X.N[i]?=some x:=by rfl)(hx:Loc X.env.scope x:=by first | exact Or.inl rfl | exact Or.inr rfl)(hs:swapsWith e (some (.Name x pos')) pos.line X.env=pure false:=by rfl)(hf:X.fn x=true\/X.env.scope.names.lookup x=some .local:=by first | exact .inl rfl | exact .inr rfl | assumption) :
  PX X (.Assign [.Name x pos'] e pos) (jB i te):=by
 obtain⟨t,p,q⟩:=he;exact⟨_,zF hN hi hx p hs hf,fun ρ σ G0 H0 G H D E k h g=>q ρ σ G0 H0 G H _ _ k h fun v H' r G' x rr hq=>g.nx _ _ G' H' x.g (k.put x rr) hq⟩
def eM(i:Nat)(te:TD):TX:=fun D ρ=>te ρ fun r=>D.nx (ρ.set i (.fz r.val))
theorem fi(i:Nat){x:Str}{pos':Pos}(he:PD X e te)(hN:X.N.Nodup:=by assumption)(hi:X.N[i]?=some x:=by rfl)(hx:Loc X.env.scope x:=by first | exact Or.inl rfl | exact Or.inr rfl)(hs:swapsWith e (some (.Name x pos')) pos.line X.env=pure false:=by rfl)(hf:X.fn x=true\/X.env.scope.names.lookup x=some .local:=by first | exact .inl rfl | exact .inr rfl | assumption) :
  PX X (.Assign [.Name x pos'] e pos) (eM i te):=by
 obtain⟨t,p,q⟩:=he;refine⟨_,zF hN hi hx p hs hf,fun ρ σ G0 H0 G H D E k h g=>q ρ σ G0 H0 G H _ _ k h fun v H' r G' x rr hq=>?_⟩;obtain⟨G2,x2,rv,_⟩:=rr.freeze x;exact g.nx _ _ G2 H' x2.g (k.put x2 (r:=.fz r.val) rv) hq
def iK(i:Nat)(te:TD):TX:=fun D ρ=>match gt ρ i with
 | .ow ds=>te ρ fun r=>ds.length<sizeLine/\D.nx (ρ.set i (.ow (ds++[r.val])))
 | _=>False
theorem nO(i:Nat){x:Str}{p1 p2 pos':Pos}(he:PD X e te)(hN:X.N[i]?=some x:=by rfl)(hv:jf X.env.scope x:=by first | exact Or.inl rfl | exact Or.inr (Or.inl rfl) | exact Or.inr (Or.inr rfl))(hd:(x==("__debug__":Str))=false:=by decide)
  (eB:(x==("__classdict__":Str))=false:=by decide) (fW:starEach [e] X.env=(false,eval e X.env)::starEach [] X.env:=by rfl)
  (hb:∀{ta:TE} {t:TA},PE X (.Name x p1) ta->PA X [e] t->PE X (.Call (.Attribute (.Name x p1) "append" p2) [e] [] pos') (sQ X.K "list" ux ta t):=by intro ta t h1 h2;exact sf PySem.F.plainAttrs_list PySem.F.slot_list_append PySem.F.type_list_append ye h1 h2) :
  PX X (.Expr (.Call (.Attribute (.Name x p1) "append" p2) [e] [] pos') pos) (iK i te):=by
 obtain⟨t,p,q⟩:=he;refine⟨_,sF (hb (j8 hN hv hd eB) (mP p mN fW)),fun ρ σ G0 H0 G H D E k h g=>?_⟩;unfold iK at h;split at h
 ·rename_i ds hg;obtain⟨a,xs,h1,h2,h3,h4,h5⟩:=k.ow i ds hg;refine⟨_,h1,.inl ⟨rfl,xs,dP.of h2⟩,?_⟩;refine q ρ σ G0 H0 G H _ _ k h fun v H' r G' x1 rr hq=>?_
  obtain⟨G2,x2,rv,_⟩:=rr.freeze x1;have k2:=k.ext x2;refine⟨a,xs,v,rfl,rfl,x2.h _ _ h2,by rw[h5.length];exact hq.1,?_⟩;exact g.nx _ _ G2 _ x2.g (k2.change hg h1 ((h5.mono x2.g).append (bJ.cons rv bJ.nil))) hq.2
 ·exact h.elim
end
end L2
namespace L2
open PySem PySem.Spec PyProof.Rows
section
variable {X:Cx} {pos:Pos} {tg:Expr}
noncomputable abbrev iq:=D->Ev->(Ev->Prop)->Prop
noncomputable abbrev lz:=List D->Ev->(Ev->Prop)->Prop
def o8(X:Cx)(tg:Expr)(g:iq):Prop:=∃gg,PG X tg gg/\∀(ρ:Ev) (σ:St) (G0 H0 G H:Hp) (d:D) (v:V) (Q:Ev->Prop) (P:St->Hp->Prop),cF X.K G0 H0 ρ σ G H->Rep X.K G v d->g d ρ Q->
 (∀ρ' cf G' H',cF X.K G0 H0 ρ' cf G' H'->Ext G H G' H'->Q ρ'->P cf H')->gg v σ H P
def tV(X:Cx)(OO:List Expr)(g:lz):Prop:=∃gg,tO X OO gg/\∀(ρ:Ev) (σ:St) (G0 H0 G H:Hp) (ds:List D) (vs:List V) (Q:Ev->Prop) (P:St->Hp->Prop),cF X.K G0 H0 ρ σ G H->bJ X.K G vs ds->g ds ρ Q->
 (∀ρ' cf G' H',cF X.K G0 H0 ρ' cf G' H'->Ext G H G' H'->Q ρ'->P cf H')->gg vs σ H P
def cX(i:Nat):iq:=fun d ρ Q=>Q (ρ.set i (.fz d))
theorem dw(i:Nat){x:Str}(hN:X.N.Nodup:=by assumption)(hi:X.N[i]?=some x:=by rfl)(hx:Loc X.env.scope x:=by first | exact Or.inl rfl | exact Or.inr rfl)(hf:X.fn x=true\/X.env.scope.names.lookup x=some .local:=by first | exact .inl rfl | exact .inr rfl | assumption):o8 X (.Name x pos) (cX i):=
 ⟨_,ED hN hi hx hf,fun ρ σ G0 H0 G H d v Q P E r h k=>k _ _ G H (E.put (.refl E.e.s) (r:=.fz d) r) (.refl E.e.s) h⟩
noncomputable def ib:lz:=fun ds ρ Q=>match ds with
 | []=>Q ρ
 | _=>False
noncomputable def eZ(t:iq)(u:lz):lz:=fun ds ρ Q=>match ds with
 | d::r=>t d ρ fun ρ'=>u r ρ' Q
 | []=>False
theorem lN:tV X [] ib:=by
 refine⟨_,KH,fun ρ σ G0 H0 G H ds vs Q P E r h k=>?_⟩;unfold ib at h;split at h
 ·cases vs with
  | nil=>exact⟨rfl,k _ _ G H E (.refl E.e.s) h⟩
  | cons=>simp only[bJ] at r
 ·exact h.elim
theorem gO{e:Expr}{es:List Expr}{t:iq}{u:lz}(h1:o8 X e t)(h2:tV X es u)(hs:(assignEach (e::es) X.env).map (·.2)=assign e X.env::(assignEach es X.env).map (·.2):=by rfl):tV X (e::es) (eZ t u):=by
 obtain⟨t1,p1,q1⟩:=h1;obtain⟨t2,p2,q2⟩:=h2;refine⟨_,LQ p1 p2 hs,fun ρ σ G0 H0 G H ds vs Q P E r h k=>?_⟩;unfold eZ at h;split at h
 ·cases vs with
  | nil=>simp only[bJ] at r
  | cons v vs=>
   simp only[bJ] at r;refine⟨v,vs,rfl,q1 ρ σ G0 H0 G H _ v _ _ E r.1 h fun ρ' cf G' H' E' x hq=>?_⟩;exact q2 ρ' cf G0 H0 G' H' _ vs Q P E' (r.2.mono x.g) hq fun dX iw G2 H2 E2 x2 gY=>k dX iw G2 H2 E2 (x.trans x2) gY
 ·exact h.elim
def jv(n:Nat)(t:lz):iq:=fun d ρ Q=>match d with
 | .tup ds=>ds.length=n/\t ds ρ Q
 | _=>False
theorem mj{es:List Expr}{k:Nat}{t:lz}{n:Nat}(hc:X.calm=true)(h:tV X es t)(hn:(assignEach es X.env).length=n:=by rfl)(fW:(assignEach es X.env).findIdx? (·.1)=none:=by rfl):o8 X (.Tuple es k pos) (jv n t):=by
 obtain⟨t1,p1,q1⟩:=h;refine⟨_,JU hc p1 hn fW,fun ρ σ G0 H0 G H d v Q P E r h k=>?_⟩;unfold jv at h;split at h
 ·simp only[Rep] at r;obtain⟨a,xs,rfl,hq,rs⟩:=r;exact⟨a,xs,rfl,E.e.s.jL hq,by rw[rs.length];exact h.1,q1 ρ σ G0 H0 G H _ xs Q P E rs h.2 k⟩
 ·exact h.elim
def mf(K:PySem.W.Frag)(J:It)(G:Hp)(ds:List D):Prop:=
 (∀i d G' H',ds[i]?=some d->bT G G'->bT G' H'->J.go i H'/\∀v H2,J.yh i H' v H2->∃G2,Ext G' H' G2 H2/\Rep K G2 v d)/\∀G' H',bT G G'->bT G' H'->J.stop ds.length H'
noncomputable abbrev iG:=Ev->(List D->Prop)->Prop
def PId(X:Cx)(tg iter:Expr)(wi:iG):Prop:=∃ww,PI X tg iter ww/\∀(ρ:Ev) (σ:St) (G0 H0 G H:Hp) (Q:List D->Prop) (P:It->Hp->Prop),cF X.K G0 H0 ρ σ G H->wi ρ Q->
 (∀J H' ds G',Ext G H G' H'->mf X.K J G' ds->Q ds->P J H')->ww σ H P
def zl(d:D)(Q:List D->Prop):Prop:=match d with
 | .lst ds=>Q ds
 | .tup ds=>Q ds
 | .str z=>Q (z.cps.toList.map fun c=>.str ⟨#[c]⟩)
 | _=>False
def jA(te:TD):iG:=fun ρ Q=>te ρ fun r=>zl r.val Q
theorem Mb{K:PySem.W.Frag}{G:Hp}{a:Addr}{xs:List V}{ds:List D}(h:iu K G a xs)(r:bJ K G xs ds):mf K (yP K a) G ds:=by
 refine⟨fun i d G' H' hd s1 s2=>?_,fun G' H' s1 s2=>⟨xs,(s2.ft (s1.ft h)).sq,by rw[r.length];exact ay _⟩⟩;obtain⟨v,hv,rv⟩:=r.get hd;have hs:dP K H' a xs:=(s2.ft (s1.ft h)).sq;refine⟨⟨xs,v,hs,hv⟩,fun u H2 hy=>?_⟩;obtain⟨e,y⟩:=hy;subst e;have:=y xs hs;rw[hv] at this;cases this;exact⟨G',.refl s2,rv.mono s1⟩
theorem Li{K:PySem.W.Frag}{G:Hp}{a:Addr}{xs:List V}{ds:List D}(h:dO K G a xs)(r:bJ K G xs ds):mf K (CG K a) G ds:=by
 refine⟨fun i d G' H' hd s1 s2=>?_,fun G' H' s1 s2=>⟨xs,s2.mY (s1.mY h),by rw[r.length];exact ay _⟩⟩;obtain⟨v,hv,rv⟩:=r.get hd;have hs:dO K H' a xs:=s2.mY (s1.mY h);refine⟨⟨xs,v,hs,hv⟩,fun u H2 hy=>?_⟩;obtain⟨e,y⟩:=hy;subst e;have:=y xs hs;rw[hv] at this;cases this;exact⟨G',.refl s2,rv.mono s1⟩
theorem Lh{K:PySem.W.Frag}{G:Hp}(z:Str):mf K (yN z) G (z.cps.toList.map fun c=>.str ⟨#[c]⟩):=by
 refine⟨fun i d G' H' hd s1 s2=>?_,fun G' H' s1 s2=>?_⟩
 ·rw[ai] at hd;cases e:z.cps.toList[i]? with
  | none=>rw[e] at hd;cases hd
  | some c=>
   rw[e] at hd;cases hd;have hc:z.cps[i]?=some c:=by simpa using e
   refine⟨(Array.getElem?_eq_some_iff.mp hc).1,fun v H2 hy=>?_⟩;obtain⟨e2,c',nu,rfl⟩:=hy;subst e2;rw[hc] at nu;cases nu;exact⟨G',.refl s2,pN _ _ _⟩
 ·show _=_;simp
theorem ME{K:PySem.W.Frag}{G:Hp}(lo:Int)(n:Nat):mf K (yO lo n) G ((List.range n).map fun(i:Nat)=>.int (lo+i)):=by
 refine⟨fun i d G' H' hd s1 s2=>?_,fun G' H' s1 s2=>?_⟩
 ·rw[ai] at hd;cases e:(List.range n)[i]? with
  | none=>rw[e] at hd;cases hd
  | some c=>
   rw[e] at hd;cases hd;obtain⟨h1,h2⟩:=ag.mp e;have h3:i<n:=by simpa using h1
   have h4:c=i:=by rw[<-h2];simp
   subst h4;refine⟨h3,fun v H2 hy=>?_⟩;obtain⟨e2,rfl⟩:=hy;subst e2;exact⟨G',.refl s2,ie _ _ _⟩
 ·show n<=_;simp
noncomputable def nL(ds:List D):List D:=ds.mapIdx fun i d=>.tup [.int (i:Nat),d]
theorem EK{K:PySem.W.Frag}{G:Hp}{t:Addr}{x y:V}{d e:D}(s1:G t=some (.tup [x,y]))(r1:Rep K G x d)(r2:Rep K G y e):Rep K G (.ref t) (.tup [d,e]):=by
 simp only[Rep];exact⟨t,[x,y],rfl,s1,bJ.cons r1 (bJ.cons r2 bJ.nil)⟩
theorem Ma{K:PySem.W.Frag}{G:Hp}{a:Addr}{xs:List V}{ds:List D}(h:iu K G a xs)(r:bJ K G xs ds):mf K (CH K a) G (nL ds):=by
 refine⟨fun i d G' H' hd s1 s2=>?_,fun G' H' s1 s2=>⟨xs,(s2.ft (s1.ft h)).sq,by rw[r.length];simp[nL]⟩⟩;unfold nL at hd;rw[List.getElem?_mapIdx] at hd;cases e:ds[i]? with
 | none=>rw[e] at hd;cases hd
 | some d'=>
  rw[e] at hd;cases hd;obtain⟨v,hv,rv⟩:=r.get e;have hs:dP K H' a xs:=(s2.ft (s1.ft h)).sq;refine⟨⟨xs,v,hs,hv⟩,fun u H2 hy=>?_⟩;obtain⟨t,rfl,ht,y⟩:=hy;obtain⟨x,hx,rfl⟩:=y xs hs;rw[hv] at hx;cases hx;have x2:Ext G' H' (upd G' t (.tup [.int i,v])) (upd H' t (.tup [.int i,v])):=.new s2 ht;exact⟨_,x2,EK fq (ie _ _ _) ((rv.mono s1).mono x2.g)⟩
theorem ki{l:Expr}{te:TD}(h:PD X l te):PId X tg l (jA te):=by
 obtain⟨t,p,q⟩:=h;refine⟨_,IL p,fun ρ σ G0 H0 G H Q P E h k=>q ρ σ G0 H0 G H _ _ E h fun v H' r G' x rr hq=>?_⟩;obtain⟨G2,x2,rv,_⟩:=rr.freeze x;unfold zl at hq;split at hq
 ·rename_i ds e;rw[e] at rv;simp only[Rep] at rv;obtain⟨a,xs,rfl,h1,h2⟩:=rv;exact .inl ⟨a,rfl,⟨xs,(x2.s.ft h1).sq⟩,k _ H' _ G2 x2 (Mb h1 h2) hq⟩
 ·rename_i ds e;rw[e] at rv;simp only[Rep] at rv;obtain⟨a,xs,rfl,h1,h2⟩:=rv;exact .inr (.inl ⟨a,rfl,⟨xs,x2.s.jL h1⟩,k _ H' _ G2 x2 (Li (dO.of h1) h2) hq⟩)
 ·rename_i z e;rw[e] at rv;simp only[Rep] at rv;exact .inr (.inr ⟨z,rv,k _ H' _ G2 x2 (Lh z) hq⟩)
 ·exact hq.elim
def nK(ts:iH):iG:=fun ρ Q=>ts ρ fun ds=>match ds with
 | [.int j]=>-(2 ^ 62)<=j/\j<2 ^ 62/\Q ((List.range j.toNat).map fun(i:Nat)=>.int (0+i))
 | _=>False
theorem kL{K:PySem.W.Frag}{G:Hp}{vs:List V}{d:D}(h:bJ K G vs [d]):∃v,vs=[v]/\Rep K G v d:=by
 match vs,h with
 | [],h=>simp only[bJ] at h
 | [v],h=>simp only[bJ] at h;exact⟨v,rfl,h.1⟩
 | v::w::r,h=>simp only[bJ] at h;exact absurd h.2 (by simp)
theorem t6{K:PySem.W.Frag}{G:Hp}{vs:List V}{d e:D}(h:bJ K G vs [d,e]):∃v w,vs=[v,w]/\Rep K G v d/\Rep K G w e:=by
 match vs,h with
 | [],h=>simp only[bJ] at h
 | v::r,h=>
  simp only[bJ] at h;obtain⟨w,rfl,hw⟩:=kL h.2;exact⟨v,w,rfl,h.1,hw⟩
theorem pQ{a:Expr}{ts:iH}{p:Pos}(hm:X.mg "range"=none)(ha:l7 X [a] ts)(hg:Gl X "range":=by rfl)(hs:starEach [a] X.env=[(false,eval a X.env)]:=by rfl):PId X tg (.Call (.Name "range" p) [a] [] pos) (nK ts):=by
 obtain⟨t,pp,q⟩:=ha;refine⟨_,M8 hg hm pp hs,fun ρ σ G0 H0 G H Q P E h k=>q ρ σ G0 H0 G H _ _ E h fun vs H' ds G' x rs hq=>?_⟩;split at hq
 ·obtain⟨v,rfl,rv⟩:=kL rs;simp only[Rep] at rv;subst rv;exact⟨_,rfl,hq.1,hq.2.1,k _ H' _ G' x (ME 0 _) hq.2.2⟩
 ·exact hq.elim
def r0(ts:iH):iG:=fun ρ Q=>ts ρ fun ds=>match ds with
 | [.lst es]=>Q (nL es)
 | _=>False
theorem xW{a:Expr}{ts:iH}{p tp:Pos}{elts:List Expr}{x1:Nat}(hm:X.mg "enumerate"=none)(ha:l7 X [a] ts)(hg:Gl X "enumerate":=by rfl)(hs:starEach [a] X.env=[(false,eval a X.env)]:=by rfl):PId X (.Tuple elts x1 tp) (.Call (.Name "enumerate" p) [a] [] pos) (r0 ts):=by
 obtain⟨t,pp,q⟩:=ha;refine⟨_,Kr hg hm pp hs,fun ρ σ G0 H0 G H Q P E h k=>q ρ σ G0 H0 G H _ _ E h fun vs H' ds G' x rs hq=>?_⟩;split at hq
 ·obtain⟨v,rfl,rv⟩:=kL rs;simp only[Rep] at rv;obtain⟨a,xs,rfl,h1,h2⟩:=rv;exact⟨a,xs,rfl,x.s.ft h1,k _ H' _ G' x (Ma h1 h2) hq⟩
 ·exact hq.elim
def gN(wi:iG)(g:iq)(tb:TX):TX:=fun D ρ=>wi ρ fun ds=>∃Iv:Nat->Ev->Prop,Iv 0 ρ/\
 (∀i d ρ',ds[i]?=some d->Iv i ρ'->g d ρ' fun dX=>tb { D with nx:=Iv (i+1),ct:=Iv (i+1),bk:=D.nx } dX)/\∀ρ',Iv ds.length ρ'->D.nx ρ'
theorem ij{iter:Expr}{body:List Stmt}{wi:iG}{g:iq}{tb:TX}(hp:PassesOwn (model X.prog X.w) X.A X.env X.xe)(hc:X.calm=true)(hi:PId X tg iter wi)(hg:o8 X tg g)(hb:lp X body tb)
  (hs:∀x,foldedSetIterable iter X.env x=pure x:=by intro _;rfl):PX X (.For tg iter body [] pos) (gN wi g tb):=by
 obtain⟨t1,p1,q1⟩:=hi;obtain⟨t2,p2,q2⟩:=hg;obtain⟨t3,p3,q3⟩:=hb;refine⟨_,DO hp hc p1 p2 p3 hs,fun ρ σ G0 H0 G H D E k h gg=>q1 ρ σ G0 H0 G H _ _ k h fun J H1 ds G1 x1 wk hq=>?_⟩;obtain⟨Iv,i0,turn,fin⟩:=hq;refine⟨fun i m cf H'=>m=ds.length-i/\i<=ds.length/\∃ρ' G',cF X.K G0 H0 ρ' cf G' H'/\bT G1 G'/\Iv i ρ',⟨ds.length,by simp,aU _,ρ,G1,k.ext x1,bT.refl _,i0⟩,?_⟩;rintro i m cf H' ⟨rfl,hi,ρ',G',k',s',iv⟩;by_cases dz:i<ds.length
 ·obtain⟨w1,w2⟩:=wk;obtain⟨go,yl⟩:=w1 i ds[i] G' H' (ab dz) s' k'.e.s;refine .inr ⟨go,fun iw H2=>∃dX G2,cF X.K G0 H0 dX iw G2 H2/\bT G1 G2/\Iv (i+1) dX,fun iw H2 ⟨dX,G2,k2,s2,Pt⟩=>⟨ds.length-(i+1),by omega,rfl,dz,dX,G2,k2,s2,Pt⟩,fun v H2 hy=>?_⟩;obtain⟨G2,x2,rv⟩:=yl v H2 hy;refine q2 ρ' cf G0 H0 G2 H2 ds[i] v _ _ (k'.ext x2) rv (turn i ds[i] ρ' (ab dz) iv) fun n8 iX G3 H3 k3 x3 dm=>?_
  have s3:bT G1 G3:=(s'.trans x2.g).trans x3.g;refine q3 n8 iX G0 H0 G3 H3 _ _ k3 dm ⟨fun mJ me G4 H4 s4 k4 h4=>⟨mJ,G4,k4,s3.trans s4,h4⟩,gg.rt,fun mJ me G4 H4 s4 k4 h4=>gg.nx mJ me G4 H4 ((x1.g.trans s3).trans s4) k4 h4,fun mJ me G4 H4 s4 k4 h4=>⟨mJ,G4,k4,s3.trans s4,h4⟩⟩
 ·have e:i=ds.length:=by omega
  subst e;exact .inl ⟨wk.2 G' H' s' k'.e.s,gg.nx ρ' cf G' H' (x1.g.trans s') k' (fin ρ' iv)⟩
def zk(c:gz)(tb:TX):TX:=fun D ρ=>∃W:Nat->Ev->Prop,(∃m,W m ρ)/\∀m ρ',W m ρ'->c ρ' fun b=>if b=true then tb { D with nx:=fun dX=>∃m',m'<m/\W m' dX,ct:=fun dX=>∃m',m'<m/\W m' dX,bk:=D.nx } ρ' else D.nx ρ'
theorem EJ{c:Expr}{body:List Stmt}{tc:gz}{tb:TX}(hp:PassesOwn (model X.prog X.w) X.A X.env X.xe)(hc:PB X c tc)(hb:lp X body tb):PX X (.While c body [] pos) (zk tc tb):=by
 obtain⟨t1,p1,q1⟩:=hc;obtain⟨t3,p3,q3⟩:=hb;refine⟨_,LP hp p1 p3,fun ρ σ G0 H0 G H D E k h gg=>?_⟩;obtain⟨W,⟨m0,w0⟩,turn⟩:=h;refine⟨fun m cf H'=>∃ρ' G',cF X.K G0 H0 ρ' cf G' H'/\bT G G'/\W m ρ',⟨m0,ρ,G,k,bT.refl _,w0⟩,?_⟩;rintro m cf H' ⟨ρ',G',k',s',wm⟩;refine q1 ρ' cf G0 H0 G' H' _ _ k' (turn m ρ' wm) fun b H2 G2 x2 hq=>?_
 cases b with
 | true=>
  rw[if_pos rfl] at hq ⊢;refine⟨fun iw H2=>∃m',m'<m/\∃dX G2,cF X.K G0 H0 dX iw G2 H2/\bT G G2/\W m' dX,fun iw H2 h2=>h2,?_⟩;have s2:bT G G2:=s'.trans x2.g;exact q3 ρ' cf G0 H0 G2 H2 _ _ (k'.ext x2) hq ⟨fun mJ me G4 H4 s4 k4 bW=>by obtain⟨m',hm,h4⟩:=bW;exact⟨m',hm,mJ,G4,k4,s2.trans s4,h4⟩,gg.rt,fun mJ me G4 H4 s4 k4 h4=>gg.nx mJ me G4 H4 (s2.trans s4) k4 h4,fun mJ me G4 H4 s4 k4 bW=>by obtain⟨m',hm,h4⟩:=bW;exact⟨m',hm,mJ,G4,k4,s2.trans s4,h4⟩⟩
 | false=>
  rw[if_neg aw] at hq ⊢;exact gg.nx ρ' cf G2 H2 (s'.trans x2.g) (k'.ext x2) hq
end
end L2
namespace L2
open PySem PySem.Spec PyProof.Rows
noncomputable def nH(ρ:Ev):Option Nat->Sl
 | none=>.un
 | some j=>match gt ρ j with
  | .fz d=>.fz d
  | _=>.un
noncomputable def eK(m:List (Option Nat))(ρ:Ev):Ev:=m.map (nH ρ)
theorem nN{m:List (Option Nat)}{ρ:Ev}{i:Nat}:gt (m.map (nH ρ)) i=match m[i]? with
  | some o=>nH ρ o
  | none=>.un:=by
 induction m generalizing i with
 | nil=>simp[gt]
 | cons a r ih=>
  cases i with
  | zero=>simp[gt]
  | succ i=>simp only[ao,gt,List.getElem?_cons_succ];exact ih
def nM(m:List (Option Nat))(g:iq):Prop:=∀d ρ Q,g d ρ Q->g d ρ fun dX=>Q dX/\dX.length=ρ.length/\∀j c,m[j]?=some (some c)->gt dX j=gt ρ j
def xI(m:List (Option Nat))(g:lz):Prop:=∀ds ρ Q,g ds ρ Q->g ds ρ fun dX=>Q dX/\dX.length=ρ.length/\∀j c,m[j]?=some (some c)->gt dX j=gt ρ j
theorem lO{m:List (Option Nat)}{i:Nat}(h:m[i]?=some none:=by rfl):nM m (cX i):=fun d ρ Q q=>by
 refine⟨q,by simp,fun j c hj=>?_⟩;rw[ot,if_neg];rintro⟨e,_⟩;subst e;rw[h] at hj;cases hj
theorem Lg{m:List (Option Nat)}:xI m ib:=fun ds ρ Q q=>by
 unfold ib at q ⊢;split at q
 ·exact⟨q,rfl,fun _ _ _=>rfl⟩
 ·exact q.elim
theorem Fz{m:List (Option Nat)}{t:iq}{u:lz}(mono:∀d ρ (Q Q':Ev->Prop),(∀ρ',Q ρ'->Q' ρ')->t d ρ Q->t d ρ Q')(ng:∀d ρ (Q Q':Ev->Prop),(∀ρ',Q ρ'->Q' ρ')->u d ρ Q->u d ρ Q')(h1:nM m t)(h2:xI m u):xI m (eZ t u):=fun ds ρ Q q=>by
 unfold eZ at q ⊢;split at q
 ·refine mono _ _ _ _ (fun ρ' bW=>?_) (h1 _ _ _ q);obtain⟨q',l',k'⟩:=bW;exact ng _ _ _ _ (fun dX bW=>by obtain⟨q2,l2,k2⟩:=bW;exact⟨q2,l2.trans l',fun j c hj=>(k2 j c hj).trans (k' j c hj)⟩) (h2 _ _ _ q')
 ·exact q.elim
theorem Lf{m:List (Option Nat)}{n:Nat}{u:lz}(h2:xI m u):nM m (jv n u):=fun d ρ Q q=>by
 unfold jv at q ⊢;split at q
 ·exact⟨q.1,h2 _ _ _ q.2⟩
 ·exact q.elim
theorem Ap{i:Nat}:∀d ρ (Q Q':Ev->Prop),(∀ρ',Q ρ'->Q' ρ')->cX i d ρ Q->cX i d ρ Q':=fun _ _ _ _ h q=>h _ q
theorem EI:∀d ρ (Q Q':Ev->Prop),(∀ρ',Q ρ'->Q' ρ')->ib d ρ Q->ib d ρ Q':=fun _ _ _ _ h q=>by
 unfold ib at q ⊢;split at q
 ·exact h _ q
 ·exact q.elim
theorem L9{t:iq}{u:lz}(mono:∀d ρ (Q Q':Ev->Prop),(∀ρ',Q ρ'->Q' ρ')->t d ρ Q->t d ρ Q')(ng:∀d ρ (Q Q':Ev->Prop),(∀ρ',Q ρ'->Q' ρ')->u d ρ Q->u d ρ Q'):∀d ρ (Q Q':Ev->Prop),(∀ρ',Q ρ'->Q' ρ')->eZ t u d ρ Q->eZ t u d ρ Q':=fun _ _ _ _ h q=>by
 unfold eZ at q ⊢;split at q
 ·exact mono _ _ _ _ (fun ρ' q'=>ng _ _ _ _ h q') q
 ·exact q.elim
theorem Ao{m:List (Option Nat)}{i j n:Nat}(h:m[i]?=some none:=by rfl)(h':m[j]?=some none:=by rfl):nM m (jv n (eZ (cX i) (eZ (cX j) ib))):=
 Lf (Fz Ap (L9 Ap EI) (lO h) (Fz Ap EI (lO h') Lg))
def tM(X:Cx)(ifs:List Expr)(t:gz):Prop:=∃tt,tL X ifs tt/\∀(ρ:Ev) (σ:St) (G0 H0 G H:Hp) (Q:Bool->Prop) (P:Bool->Hp->Prop),cF X.K G0 H0 ρ σ G H->t ρ Q->
 (∀b H' G',Ext G H G' H'->Q b->P b H')->tt σ H P
def ju:gz:=fun _ Q=>Q true
theorem lI{X:Cx}:tM X [] ju:=⟨_,Kt,fun ρ σ G0 H0 G H Q P E h k=>k true H G (.refl E.e.s) h⟩
theorem Kp{X:Cx}{c:Expr}{t:gz}(h:PB X c t):tM X [c] t:=let⟨tt,p,q⟩:=h;⟨tt,Ks p,q⟩
def jE(wi:iG)(m:List (Option Nat))(g:iq)(tc:gz)(te:TD):TD:=fun ρ Q=>wi ρ fun ds=>∃Iv:Nat->List D->Prop,Iv 0 []/\
 (∀i d acc,ds[i]?=some d->Iv i acc->g d (eK m ρ) fun dX=>tc dX fun b=>if b=true then te dX fun r=>acc.length<sizeLine/\Iv (i+1) (acc++[r.val]) else Iv (i+1) acc)/\∀acc,Iv ds.length acc->Q (.ow acc)
section
variable {X:Cx} {elt iter tg:Expr} {ifs:List Expr} {scope:Scope} {pos:Pos} {N':List Str} {m:List (Option Nat)} {wi:iG} {g:iq} {tc:gz} {te:TD}
theorem En(cs:cw X N' m scope)(hk:nM m g){ww:TI}{gg:mG TG}{vm:mG TT}{tee:mG TE}
  (q1:∀(ρ:Ev) (σ:St) (G0 H0 G H:Hp) (Q:List D->Prop) (P:It->Hp->Prop),cF X.K G0 H0 ρ σ G H->wi ρ Q->(∀J H' ds G',Ext G H G' H'->mf X.K J G' ds->Q ds->P J H')->ww σ H P)
  (q2:∀s3 H3 ex (ρ:Ev) (σ:St) (G0 H0 G H:Hp) (d:D) (v:V) (Q:Ev->Prop) (P:St->Hp->Prop),cF X.K G0 H0 ρ σ G H->Rep X.K G v d->g d ρ Q->(∀ρ' cf G' H',cF X.K G0 H0 ρ' cf G' H'->Ext G H G' H'->Q ρ'->P cf H')->gg s3 H3 ex v σ H P)
  (q3:∀s3 H3 ex (ρ:Ev) (σ:St) (G0 H0 G H:Hp) (Q:Bool->Prop) (P:Bool->Hp->Prop),cF X.K G0 H0 ρ σ G H->tc ρ Q->(∀b H' G',Ext G H G' H'->Q b->P b H')->vm s3 H3 ex σ H P)
  (q4:∀s3 H3 ex,mH X.K te (tee s3 H3 ex)):mH X.K (jE wi m g tc te) (t7 ww m gg vm tee):=by
 refine fun ρ σ G0 H0 G H Q P E h k=>q1 ρ σ G0 H0 G H _ _ E h fun J H1 ds G1 x1 wk hq=>?_
 obtain⟨Iv,i0,turn,fin⟩:=hq;intro D hD s3 ex;have E1:=E.ext x1;have Cf:G1 D=none:=x1.s.free hD;have gG:∀{i:Nat} {es:List L2.D},gt (eK m ρ) i=.ow es->False:=fun{i es} h=>by
  unfold eK at h;rw[nN] at h;split at h
  ·rename_i o _;unfold nH at h;split at h
   ·cases h
   ·split at h<;>cases h
  ·cases h
 have m8:∀{i:Nat} {o:OV},gt (eK m ρ) i=.ov o->False:=fun{i o} h=>by
  unfold eK at h;rw[nN] at h;split at h
  ·rename_i o _;unfold nH at h;split at h
   ·cases h
   ·split at h<;>cases h
  ·cases h
 have start:cF X.K G1 H1 (eK m ρ) (kX m σ) G1 (upd H1 D (.lst [])):=by
  refine⟨.own x1.s hD,by simp[kX,eK],fun i d h=>?_,fun i es h=>(gG h).elim,fun i j es fs _ h=>(gG h).elim,fun _=>none,fun i es _ h=>(gG h).elim,fun i o h=>(m8 h).elim⟩;unfold eK at h;rw[nN] at h;split at h
  ·rename_i o ho;unfold nH at h;split at h
   ·cases h
   ·rename_i j;split at h
    ·rename_i d' we;cases h;obtain⟨v,hv,rv⟩:=E1.fz j d we;refine⟨v,?_,rv⟩;unfold kX;rw[ai,ho];simp[hv]
    ·cases h
  ·cases h
 refine⟨fun i n cf H'=>n=ds.length-i/\i<=ds.length/\∃acc xs G',cF X.K G1 H1 (eK m ρ) cf G' H'/\H' D=some (.lst xs)/\G' D=none/\bJ X.K G' xs acc/\Iv i acc,
  ⟨ds.length,by simp,aU _,[],[],G1,start,fq,Cf,bJ.nil,i0⟩,?_⟩
 rintro i n cf H' ⟨rfl,hi,acc,xs,G',E',hx,wb,rx,iv⟩;by_cases dz:i<ds.length
 ·obtain⟨w1,w2⟩:=wk;obtain⟨go,yl⟩:=w1 i ds[i] G' H' (ab dz) E'.e.g E'.e.s;refine .inr ⟨go,fun iw H2=>∃acc xs G',cF X.K G1 H1 (eK m ρ) iw G' H2/\H2 D=some (.lst xs)/\G' D=none/\bJ X.K G' xs acc/\Iv (i+1) acc,fun iw H2 h2=>⟨ds.length-(i+1),by omega,rfl,dz,h2⟩,fun v H2 hy=>?_⟩;obtain⟨G2,x2,rv⟩:=yl v H2 hy;refine q2 _ _ _ (eK m ρ) cf G1 H1 G2 H2 ds[i] v _ _ (E'.ext x2) rv (hk _ _ _ (turn i ds[i] acc (ab dz) iv)) fun n8 iX G3 H3 E3 x3 dm=>?_
  obtain⟨dm,BY,B3⟩:=dm;have weak:∀j,gt (eK m ρ) j=.un\/gt (eK m ρ) j=gt n8 j:=fun j=>by
   cases hm:m[j]? with
   | none=>left;unfold eK;rw[nN,hm]
   | some o=>
    cases o with
    | none=>left;unfold eK;rw[nN,hm];rfl
    | some c=>right;exact(B3 j c hm).symm
  have AY:=x2.trans x3;refine q3 _ _ _ n8 iX G1 H1 G3 H3 _ _ E3 dm fun b H4 G4 x4 oQ=>?_
  have i6:=AY.trans x4;have E4:=(E3.ext x4).weak (ρ':=eK m ρ) (BY.symm) weak;have qd:H4 D=some (.lst xs):=i6.h _ _ hx;have wa:G4 D=none:=i6.n D wb (by rw[hx];exact nofun);cases b with
  | false=>
   rw[if_neg aw] at oQ ⊢;exact⟨acc,xs,G4,E4,qd,wa,rx.mono i6.g,oQ⟩
  | true=>
   rw[if_pos rfl] at oQ ⊢;refine q4 _ _ _ n8 iX G1 H1 G4 H4 _ _ (E3.ext x4) oQ fun v5 H5 r5 G5 x5 qP ip=>?_
   obtain⟨G6,x6,qO,_⟩:=qP.freeze x5;have E6:=E4.ext x6;have Bz:H5 D=some (.lst xs):=x6.h _ _ qd;have v8:G6 D=none:=x6.n D wa (by rw[qd];exact nofun);have r6:bJ X.K G6 xs acc:=(rx.mono i6.g).mono x6.g;refine⟨xs,Bz,by rw[r6.length];exact ip.1,acc++[r5.val],xs++[v5],G6,?_,fq,v8,r6.append (bJ.cons qO bJ.nil),ip.2⟩;refine⟨⟨E6.e.g,fun b o e=>by rw[cK (i3 e hD)];exact E6.e.h b o e,fun b o e=>by rw[cK (i3 e v8)];exact E6.e.s b o e,E6.e.n⟩,E6.len,E6.fz,fun i es h=>(gG h).elim,fun i j es fs _ h=>(gG h).elim,fun _=>none,fun i es _ h=>(gG h).elim,fun i o h=>(m8 h).elim⟩
 ·have e:i=ds.length:=by omega
  subst e;refine .inl ⟨wk.2 G' H' E'.e.g E'.e.s,k _ H' (.ow acc) G' (x1.trans E'.e) ⟨D,xs,rfl,x1.h.free hD,wb,hx,rx⟩ (fin acc iv)⟩
theorem nT(hc:X.calm=true)(cs:cw X N' m scope)(hk:nM m g)(hi:PId X tg iter wi)(hg:∀s3 H3 ex,o8 (gy X N' scope s3 H3 ex) tg g)(ht:∀s3 H3 ex,tM (gy X N' scope s3 H3 ex) ifs tc)
  (he:∀s3 H3 ex,PD (gy X N' scope s3 H3 ex) elt te) (hs:∀x,foldedSetIterable iter X.env x=pure x:=by intro _;rfl):PD X (.ListComp elt [⟨tg,iter,ifs,0⟩] scope pos) (jE wi m g tc te):=by
 obtain⟨ww,p1,q1⟩:=hi;exact⟨_,Eu (g:=fun s3 H3 ex=>(hg s3 H3 ex).choose) (tc:=fun s3 H3 ex=>(ht s3 H3 ex).choose) (te:=fun s3 H3 ex=>(he s3 H3 ex).choose) hc cs p1 (fun s3 H3 ex=>(hg s3 H3 ex).choose_spec.1) (fun s3 H3 ex=>(ht s3 H3 ex).choose_spec.1) (fun s3 H3 ex=>(he s3 H3 ex).choose_spec.1) hs,
  En cs hk q1 (fun s3 H3 ex=>(hg s3 H3 ex).choose_spec.2) (fun s3 H3 ex=>(ht s3 H3 ex).choose_spec.2) (fun s3 H3 ex=>(he s3 H3 ex).choose_spec.2)⟩
theorem Le(i:Nat){x:Str}{pos' jO:Pos}(hc:X.calm=true)(cs:cw X N' m scope)(hk:nM m g)(hi:PId X tg iter wi)(hg:∀s3 H3 ex,o8 (gy X N' scope s3 H3 ex) tg g)(ht:∀s3 H3 ex,tM (gy X N' scope s3 H3 ex) ifs tc)
  (he:∀s3 H3 ex,PD (gy X N' scope s3 H3 ex) elt te) (hN:X.N.Nodup:=by assumption) (n0:X.N[i]?=some x:=by rfl) (hx:Loc X.env.scope x:=by first | exact Or.inl rfl | exact Or.inr rfl) (hs:∀x,foldedSetIterable iter X.env x=pure x:=by intro _;rfl)
  (vP:swapsWith (.ListComp elt [⟨tg,iter,ifs,0⟩] scope pos) (some (.Name x pos')) jO.line X.env=pure true:=by rfl)
  (hf:X.fn x=true\/X.env.scope.names.lookup x=some .local:=by first | exact .inl rfl | exact .inr rfl | assumption) :
  PX X (.Assign [.Name x pos'] (.ListComp elt [⟨tg,iter,ifs,0⟩] scope pos) jO) (eM i (jE wi m g tc te)):=by
 obtain⟨ww,p1,q1⟩:=hi;refine⟨_,Et (g:=fun s3 H3 ex=>(hg s3 H3 ex).choose) (tc:=fun s3 H3 ex=>(ht s3 H3 ex).choose) (te:=fun s3 H3 ex=>(he s3 H3 ex).choose) hN n0 hx hc cs p1 (fun s3 H3 ex=>(hg s3 H3 ex).choose_spec.1) (fun s3 H3 ex=>(ht s3 H3 ex).choose_spec.1) (fun s3 H3 ex=>(he s3 H3 ex).choose_spec.1) hs vP hf,fun ρ σ G0 H0 G H D E k h gg=>?_⟩;refine En cs hk q1 (fun s3 H3 ex=>(hg s3 H3 ex).choose_spec.2) (fun s3 H3 ex=>(ht s3 H3 ex).choose_spec.2) (fun s3 H3 ex=>(he s3 H3 ex).choose_spec.2) ρ σ G0 H0 G H _ _ k h fun v H' r G' x rr hq=>?_
 obtain⟨G2,x2,rv,_⟩:=rr.freeze x;exact gg.nx _ _ G2 H' x2.g (k.put x2 (r:=.fz r.val) rv) hq
end
noncomputable abbrev ei:=List D->(R->Prop)->Prop
def tN(K:PySem.W.Frag)(n:Nat)(t:ei):Sp:=fun vs H Q _=>∃G ds Qr,bT G H/\bJ K G vs ds/\ds.length=n/\t ds Qr/\∀v H' r G',Ext G H G' H'->df K G' H' H v r->Qr r->Q v H'
noncomputable def fQ(N:List Str)(ds:List D):Ev:=ds.map Sl.fz++List.replicate (N.length-ds.length) .un
theorem Ng{ds:List D}{l:List Sl}{i:Nat}{s:Sl}(h:gt (ds.map Sl.fz++l) i=s):(∃d,ds[i]?=some d/\s=.fz d)\/(ds.length<=i/\gt l (i-ds.length)=s):=by
 induction ds generalizing i with
 | nil=>exact .inr ⟨aU _,by simpa using h⟩
 | cons d ds ih=>
  cases i with
  | zero=>simp only[ao,List.cons_append,gt] at h;exact .inl ⟨d,rfl,h.symm⟩
  | succ i=>
   simp only[ao,List.cons_append,gt] at h;rcases ih h with⟨e,h1,h2⟩ | ⟨h1,h2⟩
   ·exact .inl ⟨e,by simpa using h1,h2⟩
   ·refine .inr ⟨by simp;omega,?_⟩;rw[aI];rw[show i+1-(ds.length+1)=i-ds.length by omega];exact h2
theorem L8{n i:Nat}:gt (List.replicate n Sl.un) i=.un:=by
 induction n generalizing i with
 | zero=>simp[gt]
 | succ n ih=>
  cases i with
  | zero=>rfl
  | succ i=>exact ih
theorem Ld{K:PySem.W.Frag}{G H:Hp}{N:List Str}{vs:List V}{ds:List D}(s:bT G H)(r:bJ K G vs ds):cF K G H (fQ N ds) (start N vs) G H:=by
 have hl:=r.length;have c:∀{i:Nat} {t:Sl},gt (fQ N ds) i=t->t≠.un->∃d,ds[i]?=some d/\t=.fz d:=fun{i t} h n=>by
  rcases Ng h with h | ⟨_,h⟩
  ·exact h
  ·rw[L8] at h;exact absurd h.symm n
 refine⟨.refl s,by simp[start,fQ,hl],fun i d h=>?_,fun i es h=>?_,fun i j es fs _ h=>?_,fun _=>none,fun i es _ h=>?_,fun i o h=>?_⟩
 ·obtain⟨d',h1,h2⟩:=c h (by simp);cases h2;obtain⟨v,hv,rv⟩:=r.get h1;have hi:i<vs.length:=(ag.mp hv).1;refine⟨v,?_,rv⟩;unfold start;rw[List.getElem?_append_left (by simpa using hi),ai,hv];rfl
 ·obtain⟨d',h1,h2⟩:=c h (by simp);cases h2
 ·obtain⟨d',h1,h2⟩:=c h (by simp);cases h2
 ·obtain⟨d',h1,h2⟩:=c h (by simp);cases h2
 ·obtain⟨d',h1,h2⟩:=c h (by simp);cases h2
section
variable {P:Program} {w:World} {K:PySem.W.Frag} {mg:Str->Option Value} {base:Heap}
theorem Em{x qual:Str}{st:Stmt}{f:Addr}{fd:FuncData}{N ps:List Str}{k:Nat}{t:ei}{T:TX}{dV:Value}(F:l8 dV K x qual st f fd)(S:bV N ps (bO st))
  (body:∀(cG:Value) (A:Around) (outer:List Env) (s:Shared) (H:Hp) (E:XK),dQ k (A.deeper (envOfC qual (bO st) s.heap.objs.size f cG))->lp (nJ l9 P w K mg base N qual (bO st) f cG A outer s H E).pZ (cP st) T)
  (spec:∀(ds:List D) (Qr:R->Prop),ds.length=ps.length->t ds Qr->T { nx:=fun _=>Qr (.fz .non),rt:=Qr } (fQ N ds)):h7 P w K mg base l9 (k+1) f fd ps (tN K ps.length t):=by
 refine F.ok S (fun vs H Q E h=>?_) (fun cG A outer s H vs Q E hr h=>?_)
 ·obtain⟨G,ds,Qr,_,r,hl,_⟩:=h;rw[r.length,hl]
 ·obtain⟨G,ds,Qr,s0,r,hl,ht,k0⟩:=h;obtain⟨tt,p,q⟩:=body cG A outer s H E hr;exact⟨tt,p,q _ _ G H G H _ _ (Ld s0 r) (spec ds Qr hl ht) ⟨fun ρ σ G' H' _ e h=>k0 _ H' _ G' e.e (e7 (Es _ _)) h,k0,fun _ _ _ _ _ _ h=>h.elim,fun _ _ _ _ _ _ h=>h.elim⟩⟩
end
section
variable {X:Cx} {k n:Nat} {f:Addr} {fd:FuncData} {ps:List Str} {t:ei} {x:Str} {p pos:Pos} {e:Expr} {es:List Expr} {ts:iH}
def eE(n:Nat)(t:ei)(ts:iH):TD:=fun ρ Q=>ts ρ fun ds=>ds.length=n/\t ds Q
theorem Ko(F:h7 X.prog X.w X.K X.mg X.base l9 k f fd ps (tN X.K n t))(hr:dQ k X.A)(hm:X.mg x=some (.ref f))(hk:PySem.W.keepIn X.K (.ref f)=true)(hb:Binds X.K fd ps [])(ha:l7 X (e::es) ts)(hg:Gl X x:=by rfl)(oY:(x==("__debug__":Str))=false:=by decide)
  (he:starEach (e::es) X.env=(false,eval e X.env)::starEach es X.env:=by rfl) (jU:(backTo pos (starEach es X.env)).any (·.1)=false:=by rfl):PD X (.Call (.Name x p) (e::es) [] pos) (eE n t ts):=by
 obtain⟨tt,pp,q⟩:=ha;refine⟨_,Kz F hr hg hm hk hb .nil Iz pp oY he jU,fun ρ σ G0 H0 G H Q P E h k=>q ρ σ G0 H0 G H _ _ E h fun vs H' ds G' x rs hq=>?_⟩;rw[aZ];exact⟨G',ds,Q,x.s,rs,hq.1,hq.2,fun v H2 r G2 x2 rr q2=>k v H2 r G2 (x.trans x2) (rr.g7 x.h) q2⟩
end
end L2
namespace L2
open PySem PySem.Spec PyProof.Rows PySem.StrLaws
noncomputable def jt{α:Type}(xs:List α)(lo hi:Option Int):List α:=(xs.drop (HT.cL xs.length 0 lo)).take (HT.cL xs.length xs.length hi-HT.cL xs.length 0 lo)
noncomputable def px(z:Str)(lo hi:Option Int):Str:=⟨(jt z.cps.toList lo hi).toArray⟩
theorem pB(v:Int)(n d:Nat):max 0 (min (if v<0 then v+(n:Int) else v) (n:Int))=((HT.cL n d (some v):Nat):Int):=by
 rw[<-HT.je];by_cases h:v<0
 ·rw[if_pos h,if_pos h];omega
 ·rw[if_neg h,if_neg h];omega
theorem FZ(z:Str)(lo hi:Option Int):(Builtin.Str.strSliceIndices lo hi 1 z.length).filterMap (z.cps[·]?)=jt z.cps.toList lo hi:=by
 have hl:z.cps.toList.length=z.length:=by simp[Str.length]
 have e:Builtin.Str.strSliceIndices lo hi 1 z.length=sliceRange ((HT.cL z.length 0 lo:Nat):Int) ((HT.cL z.length z.length hi:Nat):Int) 1:=by
  unfold Builtin.Str.strSliceIndices;cases lo with
  | none=>
   cases hi with
   | none=>rfl
   | some v=>simp only[show((1:Int)>0) from by decide,bE,pB v z.length z.length];rfl
  | some u=>
   cases hi with
   | none=>simp only[show((1:Int)>0) from by decide,bE,pB u z.length 0];rfl
   | some v=>simp only[show((1:Int)>0) from by decide,bE,pB v z.length z.length,pB u z.length 0]
 rw[e];unfold jt;rw[hl];generalize ha:HT.cL z.length 0 lo=a;generalize hb:HT.cL z.length z.length hi=b;have GQ:b<=z.length:=by rw[<-hb];exact HT.gE _ _ (ay _) _
 have QB:a<=z.length:=by rw[<-ha];exact HT.gE _ _ (aU _) _
 by_cases iD:a<=b
 ·have:=sliced_plain z iD GQ;rw[strSliceIndices_plain iD GQ] at this;rw[<-this];unfold sliceRange;simp only[show((1:Int)>0) from by decide,bE];congr 1
  by_cases h:a<b
  ·rw[if_pos (by omega)];rw[show(((b:Int)-(a:Int)+1-1)/1).toNat=b-a by omega];apply List.map_congr_left;intro k _;show((a:Int)+1*(k:Int)).toNat=a+k;omega
  ·rw[if_neg (by omega),show b-a=0 by omega];rfl
 ·rw[show b-a=0 by omega,List.take_zero];unfold sliceRange;simp only[show((1:Int)>0) from by decide,bE];rw[if_neg (by omega)];rfl
theorem L7(z:Str)(lo hi:Option Int):Txt.slice z lo hi=px z lo hi:=by
 unfold Txt.slice px;split
 ·rename_i h;have h':(Builtin.Str.strSliceIndices lo hi 1 z.length).length=z.length:=by simpa using h
  have hl:z.cps.toList.length=z.length:=by simp[Str.length]
  have e:=FZ z lo hi;have h2:(jt z.cps.toList lo hi).length=z.length:=by
   unfold jt;rw[bH,List.length_drop,hl];have e1:Builtin.Str.strSliceIndices lo hi 1 z.length=sliceRange ((HT.cL z.length 0 lo:Nat):Int) ((HT.cL z.length z.length hi:Nat):Int) 1:=by
    unfold Builtin.Str.strSliceIndices;cases lo with
    | none=>
     cases hi with
     | none=>rfl
     | some v=>simp only[show((1:Int)>0) from by decide,bE,pB v z.length z.length];rfl
    | some u=>
     cases hi with
     | none=>simp only[show((1:Int)>0) from by decide,bE,pB u z.length 0];rfl
     | some v=>simp only[show((1:Int)>0) from by decide,bE,pB v z.length z.length,pB u z.length 0]
   rw[e1] at h';unfold sliceRange at h';simp only[show((1:Int)>0) from by decide,bE,ae,List.length_range] at h';have b1:=HT.gE z.length z.length (ay _) hi;have b2:=HT.gE z.length 0 (aU _) lo;by_cases h3:((HT.cL z.length 0 lo:Nat):Int)<((HT.cL z.length z.length hi:Nat):Int)
   ·rw[if_pos h3] at h';omega
   ·rw[if_neg h3] at h';simp at h';omega
  apply Str.ext';show z.cps=(jt z.cps.toList lo hi).toArray;have h3:jt z.cps.toList lo hi=z.cps.toList:=by
   unfold jt at h2 ⊢;rw[bH,List.length_drop,hl] at h2;rw[hl];have b1:=HT.gE z.length z.length (ay _) hi;have a0:HT.cL z.length 0 lo=0\/z.length=0:=by omega
   rcases a0 with a0 | a0
   ·rw[a0,List.drop_zero,Nat.sub_zero];exact List.take_of_length_le (by omega)
   ·have:z.cps.toList=[]:=List.eq_nil_of_length_eq_zero (by omega);rw[this];simp
  rw[h3]
 ·rw[FZ]
section
variable {X:Cx} {pos:Pos} {e:Expr} {te:TD}
theorem qM:qo X (fun x lo hi H Q=>∃z,x=.str z/\z.length<=sizeLine/\Q (.str (px z lo hi)) H):=by
 intro pins s σ H x v vl vu lo hi sl Q I rx hs pl pu h;obtain⟨z,rfl,hz,q⟩:=h;obtain⟨t,rfl⟩:=rx;refine⟨"str",_,F.slot_str_getitem.lookup,typeIs_str _ _ _,?_⟩;have part:∀{u:Value} {o:Option Int},IsPart u o->∃p:Option (Int×Tok),u=partValue p/\p.map (·.1)=o:=fun h=>by
  cases h with
  | none=>exact⟨none,rfl,rfl⟩
  | int i t=>exact⟨some (i,t),rfl,rfl⟩
 obtain⟨p1,rfl,e1⟩:=part pl;obtain⟨p2,rfl,e2⟩:=part pu;obtain⟨o,ho,hc,hd⟩:=hs;refine wpAny_getItem_str_slice (l:=p1) (u:=p2) (st:=none) ⟨o,ho,hc,hd⟩ rfl ?_;have fin:∀t' k,EP X pins σ Q (.str (Txt.slice z lo hi) t') { s with toks:=k }:=fun t' k=>⟨.str (px z lo hi),H,I.tok k,⟨t',by rw[L7]⟩,q⟩
 have hle:=a9 (Txt.slice_le z lo hi) hz;subst e1 e2;exact post_val_or_str ⟨hle,fin⟩
noncomputable abbrev wM:=Ev->(Option Int->Prop)->Prop
def yL(X:Cx)(e:Option Expr)(t:wM):Prop:=∃tt,PO X e tt/\∀(ρ:Ev) (σ:St) (G0 H0 G H:Hp) (Q:Option Int->Prop) (P:Option Int->Hp->Prop),cF X.K G0 H0 ρ σ G H->t ρ Q->(∀o H' G',Ext G H G' H'->Q o->P o H')->tt σ H P
def vy:wM:=fun _ Q=>Q none
def qA(te:TD):wM:=fun ρ Q=>te ρ fun r=>match r.val with
 | .int i=>Q (some i)
 | _=>False
theorem zW:yL X none vy:=⟨_,Kw,fun ρ σ G0 H0 G H Q P E h k=>k none H G (.refl E.e.s) h⟩
theorem uK(h:PD X e te):yL X (some e) (qA te):=by
 obtain⟨t,p,q⟩:=h;refine⟨_,Kv p,fun ρ σ G0 H0 G H Q P E h k=>q ρ σ G0 H0 G H _ _ E h fun v H' r G' x rr hq=>?_⟩;obtain⟨G2,x2,rv,_⟩:=rr.freeze x;split at hq
 ·rename_i i e1;rw[e1] at rv;simp only[Rep] at rv;exact⟨i,rv,k _ H' G2 x2 hq⟩
 ·exact hq.elim
def tI(te:TD)(tl th:wM):TD:=fun ρ Q=>te ρ fun r=>tl ρ fun lo=>th ρ fun hi=>match r.val with
 | .lst ds=>Q (.ow (jt ds lo hi))
 | .str z=>z.length<=sizeLine/\Q (.fz (.str (px z lo hi)))
 | .tup ds=>¬(HT.cL ds.length 0 lo=0/\HT.cL ds.length ds.length hi=ds.length)/\Q (.fz (.tup (jt ds lo hi)))
 | _=>False
theorem El{K:PySem.W.Frag}{G:Hp}{xs:List V}{ds:List D}(r:bJ K G xs ds)(lo hi:Option Int):bJ K G (nI xs lo hi) (jt ds lo hi):=by
 unfold nI jt;rw[r.length];exact(r.drop _).take _
theorem xV{lo hi:Option Expr}{tl th:wM}{p2:Pos}(he:PD X e te)(hl:yL X lo tl)(hh:yL X hi th):PD X (.Subscript e (.Slice lo hi none p2) pos) (tI te tl th):=by
 obtain⟨t1,p1,q1⟩:=he;obtain⟨t2,p2,q2⟩:=hl;obtain⟨t3,p3,q3⟩:=hh;refine⟨_,LJ (oD.or (qM.or IV)) p1 p2 p3,fun ρ σ G0 H0 G H Q P E h k=>q1 ρ σ G0 H0 G H _ _ E h fun v H' r G' x rr hq=>?_⟩;obtain⟨G1,x1,rv,_⟩:=rr.freeze x;refine q2 ρ σ G0 H0 G1 H' _ _ (E.ext x1) hq fun lo H2 G2 x2 gY=>?_
 refine q3 ρ σ G0 H0 G2 H2 _ _ ((E.ext x1).ext x2) gY fun hi H3 G3 x3 dm=>?_
 have kP:=(x1.trans x2).trans x3;have jM:=(rv.mono x2.g).mono x3.g;split at dm
 ·rename_i ds e1;rw[e1] at jM;simp only[Rep] at jM;obtain⟨a,xs,rfl,h1,h2⟩:=jM;refine .inl ⟨a,xs,rfl,(kP.s.ft h1).sq,fun p hp=>?_⟩;exact k _ _ (.ow _) G3 (kP.trans (.own kP.s hp)) ⟨p,_,rfl,kP.h.free hp,kP.s.free hp,fq,El h2 lo hi⟩ dm
 ·rename_i z e1;rw[e1] at jM;simp only[Rep] at jM;exact .inr (.inl ⟨z,jM,dm.1,k _ _ _ G3 kP (e7 (pN _ _ _)) dm.2⟩)
 ·rename_i ds e1;rw[e1] at jM;simp only[Rep] at jM;obtain⟨a,xs,rfl,h1,h2⟩:=jM;refine .inr (.inr ⟨a,xs,rfl,kP.s.jL h1,by rw[h2.length];exact dm.1,fun p hp=>?_⟩);have x4:Ext G3 H3 (upd G3 p (.tup (nI xs lo hi))) (upd H3 p (.tup (nI xs lo hi))):=.new kP.s hp;refine k _ _ (.fz _) _ (kP.trans x4) ?_ dm.2;show Rep X.K _ _ (.tup _);simp only[Rep];exact⟨p,_,rfl,fq,(El h2 lo hi).mono x4.g⟩
 ·exact dm.elim
def gM:ei:=fun ds Q=>match ds with
 | [.lst es]=>Q (.fz (.int es.length))
 | [.tup es]=>Q (.fz (.int es.length))
 | [.str z]=>z.length<=sizeLine/\Q (.fz (.int z.length))
 | _=>False
theorem iZ:pD X (.builtin "len") gM:=by
 refine⟨_,gn.or Nh,fun G H vs ds Q P s rs h k=>?_⟩;unfold gM at h;split at h
 ·obtain⟨v,rfl,rv⟩:=kL rs;simp only[Rep] at rv;obtain⟨a,xs,rfl,h1,h2⟩:=rv;refine .inl ⟨a,xs,rfl,.inl ((s.ft h1).sq),?_⟩;rw[h2.length];exact k _ _ _ G (.refl s) (e7 (ie _ _ _)) h
 ·obtain⟨v,rfl,rv⟩:=kL rs;simp only[Rep] at rv;obtain⟨a,xs,rfl,h1,h2⟩:=rv;refine .inl ⟨a,xs,rfl,.inr (s.jL h1),?_⟩;rw[h2.length];exact k _ _ _ G (.refl s) (e7 (ie _ _ _)) h
 ·obtain⟨v,rfl,rv⟩:=kL rs;simp only[Rep] at rv;subst rv;exact .inr ⟨_,rfl,h.1,k _ _ _ G (.refl s) (e7 (ie _ _ _)) h.2⟩
 ·exact h.elim
def xf(i:Nat):TD:=fun ρ Q=>match gt ρ i with
 | .ow ds=>Q (.fz (.int ds.length))
 | _=>False
theorem Kn(i:Nat){x:Str}{p p':Pos}(hm:X.mg "len"=none)(hN:X.N[i]?=some x:=by rfl)(hv:jf X.env.scope x:=by first | exact Or.inl rfl | exact Or.inr (Or.inl rfl) | exact Or.inr (Or.inr rfl))(hg:Gl X "len":=by rfl)(hd:(x==("__debug__":Str))=false:=by decide)
  (eB:(x==("__classdict__":Str))=false:=by decide) (fW:starEach [Expr.Name x p'] X.env=(false,eval (.Name x p') X.env)::starEach [] X.env:=by rfl):PD X (.Call (.Name "len" p) [.Name x p'] [] pos) (xf i):=by
 refine⟨_,xZ gn hg hm boot_len (mP (j8 hN hv hd eB) mN fW),fun ρ σ G0 H0 G H Q P E h k=>?_⟩;unfold xf at h;split at h
 ·rename_i ds hg;obtain⟨a,xs,h1,h2,h3,h4,h5⟩:=E.ow i ds hg;refine⟨_,h1,a,xs,rfl,.inl (dP.of h2),?_⟩;rw[h5.length];exact k _ _ _ G (.refl E.e.s) (e7 (ie _ _ _)) h
 ·exact h.elim
noncomputable def jD:List D->Option (List Bool)
 | []=>some []
 | .bl b::r=>(jD r).map (b::·)
 | _=>none
theorem Fy:∀{ds:List D} {bs:List Bool},jD ds=some bs->ds=bs.map D.bl
 | [],bs,h=>by simp[jD] at h;subst h;rfl
 | .bl b::r,bs,h=>by
  simp only[jD,aK] at h;obtain⟨qm,h1,rfl⟩:=h;rw[Fy h1];rfl
 | .non::r,bs,h=>by simp[jD] at h
 | .int _::r,bs,h=>by simp[jD] at h
 | .str _::r,bs,h=>by simp[jD] at h
 | .tup _::r,bs,h=>by simp[jD] at h
 | .lst _::r,bs,h=>by simp[jD] at h
 | .obj _ _::r,bs,h=>by simp[jD] at h
 | .dic _::r,bs,h=>by simp[jD] at h
 | .dit _::r,bs,h=>by simp[jD] at h
 | .exc _::r,bs,h=>by simp[jD] at h
theorem EC{K:PySem.W.Frag}{G:Hp}:∀{bs:List Bool} {vs:List V},bJ K G vs (bs.map D.bl)->vs=bs.map V.bl
 | [],[],_=>rfl
 | b::bs,v::vs,h=>by
  simp only[ao,bJ,Rep] at h;rw[h.1,EC h.2];rfl
 | [],_::_,h=>by simp only[bG,bJ] at h
 | _::_,[],h=>by simp only[ao,bJ] at h
theorem Lc{bs:List Bool}{us:List Value}(h:Vals (bs.map V.bl) us){i:Nat}{v:Value}(hv:us[i]?=some v):∃b,bs[i]?=some b/\v=.bool b:=by
 have hl:=h.length;have hi:i<us.length:=(ag.mp hv).1;have oW:i<bs.length:=by rw[ae] at hl;omega
 obtain⟨u,hu,ru⟩:=h.get (i:=i) (x:=V.bl bs[i]) (by simp[oW]);rw[hv] at hu;cases hu;exact⟨bs[i],by simp[oW],ru⟩
theorem Km{s:Shared}{h':Heap}{o:Obj}(hk:∀b x,b∉[s.heap.objs.size]->(s.heap.push o).get? b=some x->h'.get? b=some x):∀b x,s.heap.get? b=some x->h'.get? b=some x:=
 fun b x e=>hk b x (fun hm=>by rw[aV.mp hm] at e;exact Nat.lt_irrefl _ (aB e)) (aj _ e)
theorem Kl(bs:List Bool):((List.range bs.length).all fun i=>(bs[i]?).getD true)=bs.all id:=by
 rw[Bool.eq_iff_iff];simp only[bI,List.mem_range,id];constructor
 ·intro h b hb;obtain⟨i,hi,rfl⟩:=List.mem_iff_getElem.mp hb;simpa[hi] using h i hi
 ·intro h i hi;simpa[hi] using h _ (bg hi)
theorem Mp(hc:X.calm=true):dh X (.builtin "all") (fun xs H Q=>∃(p:Addr) (bs:List Bool),xs=[.ref p]/\dP X.K H p (bs.map V.bl)/\Q (.bl (bs.all id)) H):=by
 intro pins s σ H xs us Q I r h;obtain⟨p,bs,rfl,hq,q⟩:=h;obtain⟨u,rfl,ru⟩:=mi r;cases ru;obtain⟨its,rv,pl,hz⟩:=I.list hq;have dz:p<s.heap.objs.size:=by obtain⟨_,_,e,_⟩:=pl;exact aB e
 have hl:its.length=bs.length:=by rw[<-rv.length,ae]
 refine call_all_walk (wpAny_pyIter_list pl.isList ?_);refine⟨s.heap.objs.size,[s.heap.objs.size,p],[s.heap.objs.size],its.toArray.size,_,_,fun i=>(bs[i]?).getD true,rfl,Walks.list (A:=X.A.in1) (I.ok.hd hc) _ p (aP dz) its.toArray,
  ⟨⟨_,az _ rfl,rfl,rfl⟩,pl.isList.push _⟩,fun i v s' Q' E' hP hQ=>?_,fun h' tk hk=>?_⟩
 ·obtain⟨b,e,rfl⟩:=Lc rv (i:=i) (v:=v) (by simpa using hP);simp only[e,aX] at hQ;exact bD hQ
 ·rw[aq,hl,Kl];exact⟨.bl _,H,I.kept (Km hk),rfl,q⟩
def pw:ei:=fun ds Q=>match ds with
 | [.lst es]=>match jD es with
  | some bs=>Q (.fz (.bl (bs.all id)))
  | none=>False
 | _=>False
theorem ua(hc:X.calm=true):pD X (.builtin "all") pw:=by
 refine⟨_,Mp hc,fun G H vs ds Q P s rs h k=>?_⟩;unfold pw at h;split at h
 ·split at h
  ·rename_i es bs hb;obtain⟨v,rfl,rv⟩:=kL rs;simp only[Rep] at rv;obtain⟨a,xs,rfl,h1,h2⟩:=rv;rw[Fy hb] at h2;rw[EC h2] at h1;exact⟨a,bs,rfl,(s.ft h1).sq,k _ _ _ G (.refl s) (e7 (i5 _ _ _)) h⟩
  ·exact h.elim
 ·exact h.elim
end
end L2
namespace L2
open PySem PySem.Spec PyProof.Rows
section
variable {X:Cx} {pos:Pos} {e:Expr} {te:TD}
noncomputable def lR:D->String
 | .non=>"NoneType"
 | .bl _=>"bool"
 | .int _=>"int"
 | .str _=>"str"
 | .tup _=>"tuple"
 | .lst _=>"list"
 | .obj _ _=>"object"
 | .dic _=>"dict"
 | .dit _=>"dict"
 | .exc _=>"object"
noncomputable def w8(t T:String):Bool:=(t==T)||(t=="bool"&&T=="int")
theorem su{K:PySem.W.Frag}{t T:String}(ht:t∈["NoneType","bool","int","str","tuple","list"])(hT:T∈["bool","int","str","tuple","list"]):PySem.W.kitOne K (.type t) (.type T)=some (w8 t T):=by
 simp only[ar,List.not_mem_nil,or_false] at ht hT;rcases ht with rfl | rfl | rfl | rfl | rfl | rfl<;>rcases hT with rfl | rfl | rfl | rfl | rfl<;>(first | rfl | decide | (unfold PySem.W.kitOne PySem.W.kitCls;decide +kernel))
noncomputable def Dc:D->Bool
 | .obj _ _=>false
 | .dic _=>false
 | .dit _=>false
 | .exc _=>false
 | _=>true
theorem Lb{T:String}(hT:T∈["bool","int","str","tuple","list"]):dh X (.builtin "isinstance") (fun xs H Q=>∃x d,xs=[x,.ty T]/\Rep X.K H x d/\Dc d=true/\Q (.bl (w8 (lR d) T)) H):=by
 intro pins s σ H xs us Q I r h;obtain⟨x,d,rfl,rd,ho,q⟩:=h;obtain⟨u,c,rfl,ru,rc⟩:=uc r;cases (show c=Value.type T from rc);have fin:∀tk,EP X pins σ Q (.bool (w8 (lR d) T)) { s with toks:=tk }:=fun tk=>⟨.bl _,H,I.tok tk,rfl,q⟩
 cases d with
 | non=>simp only[Rep] at rd;subst rd;cases (show u=Value.none from ru);exact PySem.W.kia_one PySem.W.kitx_none I.lV True.intro (su (by simp) hT) (fun z=>nomatch z) fin
 | bl y=>simp only[Rep] at rd;subst rd;cases (show u=Value.bool y from ru);exact PySem.W.kia_one PySem.W.kitx_bool I.lV True.intro (su (by simp) hT) (fun z=>nomatch z) fin
 | int i=>simp only[Rep] at rd;subst rd;obtain⟨t,q'⟩:=(show ∃t,u=Value.int i t from ru);cases q';exact PySem.W.kia_one PySem.W.kitx_int I.lV True.intro (su (by simp) hT) (fun z=>nomatch z) fin
 | str y=>simp only[Rep] at rd;subst rd;obtain⟨t,q'⟩:=(show ∃t,u=Value.str y t from ru);cases q';exact PySem.W.kia_one PySem.W.kitx_str I.lV True.intro (su (by simp) hT) (fun z=>nomatch z) fin
 | tup ds=>
  simp only[Rep] at rd;obtain⟨a,xs,rfl,hq,_⟩:=rd;cases (show u=Value.ref a from ru);obtain⟨its,_,ht,_⟩:=I.tuple (dO.of hq);obtain⟨o,h1,h2,_⟩:=ht;exact PySem.W.kia_one PySem.W.kitx_tuple I.lV ⟨o,h1,h2⟩ (su (by simp) hT) (fun z=>nomatch z) fin
 | lst ds=>
  simp only[Rep] at rd;obtain⟨a,xs,rfl,hq,_⟩:=rd;cases (show u=Value.ref a from ru);obtain⟨its,_,ht,_⟩:=I.list hq.sq;obtain⟨o,n,h1,h2,_⟩:=ht;exact PySem.W.kia_one PySem.W.kitx_list I.lV ⟨o,h1,h2⟩ (su (by simp) hT) (fun z=>nomatch z) fin
 | obj=>cases ho
 | dic=>cases ho
 | dit=>cases ho
 | exc=>cases ho
def rW(T:String)(te:TD):TD:=fun ρ Q=>te ρ fun r=>Dc r.val=true/\Q (.fz (.bl (w8 (lR r.val) T)))
theorem xA{T:String}{TN:Str}{p p':Pos}(he:PD X e te)(hm:X.mg "isinstance"=none)(vT:X.mg TN=none)(hv:bootBuiltins TN=some (.type T))(hT:T∈["bool","int","str","tuple","list"]:=by decide)(hg:Gl X "isinstance":=by rfl)(qg:Gl X TN:=by rfl)(hn:TN≠"__name__":=by decide)
  (hd:(TN==("__debug__":Str))=false:=by decide) (fW:starEach [e,Expr.Name TN p'] X.env=(false,eval e X.env)::starEach [Expr.Name TN p'] X.env:=by rfl) (lX:starEach [Expr.Name TN p'] X.env=(false,eval (.Name TN p') X.env)::starEach [] X.env:=by rfl)
  (jU:(backTo pos (starEach [Expr.Name TN p'] X.env)).any (·.1)=false:=by rfl):PD X (.Call (.Name "isinstance" p) [e,.Name TN p'] [] pos) (rW T te):=by
 obtain⟨t,pp,q⟩:=he;refine⟨_,xZ (Lb hT) hg hm boot_isinstance (mP pp (mP (Kh (v:=.ty T) qg vT hv rfl hn hd) mN lX) fW) (by decide) (by decide) fW jU,fun ρ σ G0 H0 G H Q P E h k=>q ρ σ G0 H0 G H _ _ E h fun v H' r G' x rr hq=>?_⟩;obtain⟨G2,x2,rv,_⟩:=rr.freeze x;exact⟨v,r.val,rfl,rv.mono x2.s,hq.1,k _ _ _ G2 x2 (e7 (i5 _ _ _)) hq.2⟩
end
end L2
namespace L2
open PySem PySem.Spec PyProof.Rows
section
variable {P:Program} {w:World} {K:PySem.W.Frag} {mg:Str->Option Value} {base:Heap}
structure Known (P:Program) (w:World) (K:PySem.W.Frag) (mg:Str->Option Value) (base:Heap) (k:Nat) (x:Str) (n:Nat) (t:ei):Prop where
 ex:∃(f:Addr) (fd:FuncData) (ps:List Str),h7 P w K mg base l9 k f fd ps (tN K n t)/\mg x=some (.ref f)/\PySem.W.keepIn K (.ref f)=true/\Binds K fd ps []
structure At (K:PySem.W.Frag) (mg:Str->Option Value) (x:Str) (st:Stmt):Prop where
 ex:∃(f:Addr) (fd:FuncData),Hi K x x st f fd/\mg x=some (.ref f)
theorem wL{h:Heap}{x:Str}{st:Stmt}{f:Addr}{oc:Value}{od an:Option Addr}{m7:Array (Option Value)}{kV doc pm cG ct:Value}(X:K.In h)(G:h.Ns mainGlobals mg)(a:PySem.W.nsIn K mainGlobals x=some (some (.ref f)))
  (l:K.lookup f=some ⟨oc,od,.func (PySem.W.fnOf x x (eH st) (cP st) (bO st) .none kV doc pm an cG ct),m7⟩) (c:PySem.W.codeIn K cG x=true) (k:PySem.W.keepIn K (.ref f)=true):At K mg x st:=
 ⟨f,_,IP l c k,PySem.W.mg_of X G a⟩
theorem jd{h:Heap}{x:Str}{u:Value}{z:Str}{t:Tok}(X:K.In h)(G:h.Ns mainGlobals mg)(c:PySem.W.nsIn K mainGlobals x=some (some u))(e:u=.str z t):∃t,mg x=some (.str z t):=⟨t,by rw[PySem.W.mg_of X G c,e]⟩
end
section
variable {X:Cx} {k k' n:Nat} {t:ei} {x:Str} {p pos:Pos} {e:Expr} {es:List Expr} {ts:iH}
theorem eY(C:Known X.prog X.w X.K X.mg X.base k x n t)(hr:dQ k' X.A)(ha:l7 X (e::es) ts)(hk:k<=k':=by decide)(hg:Gl X x:=by rfl)(oY:(x==("__debug__":Str))=false:=by decide)
  (he:starEach (e::es) X.env=(false,eval e X.env)::starEach es X.env:=by rfl) (jU:(backTo pos (starEach es X.env)).any (·.1)=false:=by rfl):PD X (.Call (.Name x p) (e::es) [] pos) (eE n t ts):=by
 obtain⟨f,fd,ps,F,hm,kp,hb⟩:=C.ex;exact Ko F (hr.mono hk) hm kp hb ha hg oY he jU
end
noncomputable def EB(kindOf:Str->Option NameKind)(N N':List Str)(m:List (Option Nat))(scope:Scope):Bool:=
 (scope.kind==.function)&&(m.length==N'.length)&&(scope.names.all fun y=>scope.names.lookup y.1==some y.2) &&
 (scope.names.all fun y=>y.2 != .free||kindOf y.1==some .cell||kindOf y.1==some .free) &&
 ((m.zip N').all fun p=>match p.1 with
   | none=>true
   | some j=>N[j]?==some p.2&&scope.names.lookup p.2==some .free)
theorem cw.of{X:Cx}{N':List Str}{m:List (Option Nat)}{scope:Scope}(h:EB X.env.kindOf X.N N' m scope=true):cw X N' m scope:=by
 unfold EB at h;simp only[Bool.and_eq_true,beq_iff_eq,bI,Bool.or_eq_true,bne_iff_ne,ne_eq] at h;obtain⟨⟨⟨⟨h1,h2⟩,h3⟩,h5⟩,h6⟩:=h;refine⟨h1,h2,fun y hy=>h3 y hy,fun y hy e=>?_,fun i j x hm hN=>?_⟩
 ·rcases h5 y hy with(z | z) | z
  ·exact absurd e z
  ·exact .inl z
  ·exact .inr z
 ·have hz:(some j,x)∈m.zip N':=by
   apply ax (i:=i);rw[List.getElem?_zip_eq_some];exact⟨hm,hN⟩
  have:=h6 _ hz;simpa using this
theorem MD{K:PySem.W.Frag}{G:Hp}{a:Addr}{ns:List Int}(h:iu K G a (ns.map V.int)):Rep K G (.ref a) (.lst (ns.map D.int)):=by
 simp only[Rep];refine⟨a,_,rfl,h,?_⟩;clear h;induction ns with
 | nil=>exact bJ.nil
 | cons n r ih=>exact bJ.cons (ie _ _ _) ih
def y7(n:Nat):ei:=fun ds Q=>∃ns:List Int,ds=[.lst (ns.map .int)]/\ns.length<=n/\Q (.fz (.bl true))
theorem lQ{l:PySem.W.OpenLaw}{n k:Nat}{q:Program}{loose:List Str}{XP:(Str->Option Value)->Heap->Prop}{YP:World->Heap->Prop}{d:DefRec}{K:Params->PySem.W.Frag}{x:Str}
  (hn:l.most=some n) (Qf:n<=sizeLine) (B9:d.params.defaults=[]) (hr:dQ k callerA) (hY:∀(w:World) (h:Heap),YP w h->(K w.params).In h)
  (F:∀(w:World) (mg:Str->Option Value) (fa:Addr) (h:Heap),(K w.params).In h->h.Ns mainGlobals mg->mg d.name=some (.ref fa)->
   ∃fd:FuncData,(∀(s:Shared) (u:Value),BindsTo s fd ⟨[u],[]⟩ [(x,u)])/\∀base:Heap,h7 l.prog w (K w.params) mg base l9 k fa fd [x] (tN (K w.params) 1 (y7 n))) :
  PySem.W.WalkO q loose XP YP l.row.toRowW d [] (fun f vs=>PySem.call f vs):=by
 refine Hl.jY hn B9 fun w dy bZ mg mb fa o pm cd doc a vs ns G Y ho hd eB oV oU hints hlen hg=>?_
 have KX:=hY w _ Y;obtain⟨fd,hb,hF⟩:=F w mg fa _ KX G.T.g oV;refine L5 KX G.T.g G.T.b G.T.builtins G.T.nolimit hg oU hints (a9 hlen Qf) hr (fun base _ _=>hF base) hb (fun H hO hS=>?_) fun H e s' z=>z
 have hL:iu (K w.params) H a (ns.map V.int):=by
  rcases hS with hS | ⟨o,its,m,h1,h2,h3,h4,h5,h6⟩
  ·exact .inl hS
  ·have e:=KX a o h1;rw[oU] at e;cases e;have QM:Data.seq vs.toArray _=Data.seq its m:=h4;injection QM with e1 e2
   subst e1;exact .inr ⟨_,_,h1,h5,h6⟩
 refine⟨H,[.lst (ns.map .int)],fun r=>r=.fz (.bl true),bT.refl _,bJ.cons (MD hL) bJ.nil,rfl,⟨ns,rfl,hlen,rfl⟩,fun v H' r G' _ rr e=>?_⟩;subst e;simpa only[df,Rep] using rr
theorem IH{P:Program}{w:World}{K:PySem.W.Frag}{mg:Str->Option Value}{st:Stmt}{N:List Str}{x:Str}{k:Nat}{t:ei}{T:Heap->TX}{fa:Addr}(DA:At K mg "law" st)(oV:mg "law"=some (.ref fa))(S:bV N [x] (bO st))
  (hb:∀(kV doc pm:Value) (an:Option Addr) (cG ct:Value) (us:List Value),us.length=1->bindArgs (PySem.W.fnOf "law" "law" (eH st) (cP st) (bO st) .none kV doc pm an cG ct) ⟨us,[]⟩=pure ([x].zip us))
  (body:∀(base:Heap) (f:Addr) (cG:Value) (A:Around) (outer:List Env) (s:Shared) (H:Hp) (E:XK),dQ k (A.deeper (envOfC "law" (bO st) s.heap.objs.size f cG))->lp (nJ l9 P w K mg base N "law" (bO st) f cG A outer s H E).pZ (cP st) (T base))
  (spec:∀(base:Heap) (ds:List D) (Qr:R->Prop),ds.length=1->t ds Qr->T base { nx:=fun _=>Qr (.fz .non),rt:=Qr } (fQ N ds)) :
  ∃fd:FuncData,(∀(s:Shared) (u:Value),BindsTo s fd ⟨[u],[]⟩ [(x,u)])/\∀base:Heap,h7 P w K mg base l9 (k+1) fa fd [x] (tN K 1 t):=by
 obtain⟨f,fd,F,hm⟩:=DA.ex;rw[oV] at hm;cases hm;refine⟨fd,fun s u=>?_,fun base=>Em F S (body base fa) (spec base)⟩;obtain⟨oc,od,kV,doc,pm,an,cG,ct,m7,rfl,lk,eB⟩:=F.ex;exact .of_eq (hb kV doc pm an cG ct [u] rfl)
end L2
namespace L2
open PySem PySem.Spec PyProof.Rows
def tU(i:Nat)(t:TX):TX:=fun D ρ=>t D (iE i ρ)
theorem IG(d:D):(R.fz d).val=d:=rfl
theorem zA(ds:List D):(R.ow ds).val=.lst ds:=rfl
theorem Iq(d:D):(R.fz d).sl=.fz d:=rfl
theorem Ip(ds:List D):(R.ow ds).sl=.ow ds:=rfl
theorem EA{α:Type}{wi:iG}{m:List (Option Nat)}{g:iq}{tc:gz}{te:TD}{ρ:Ev}{Q:R->Prop}(L:List α)(φ:α->D)(f:α->Option D)(hw:∀Q':List D->Prop,Q' (L.map φ)->wi ρ Q')(hl:L.length<=sizeLine)
  (h:∀x∈L,∀(K1:D->Prop) (K0:Prop),(∀e,f x=some e->K1 e)->(f x=none->K0)->g (φ x) (eK m ρ) fun dX=>tc dX fun b=>if b=true then te dX fun r=>K1 r.val else K0)
  (q:Q (.ow (L.filterMap f))):jE wi m g tc te ρ Q:=by
 refine hw _ ⟨fun i acc=>acc=(L.take i).filterMap f,rfl,fun i d acc hd ha=>?_,fun acc ha=>?_⟩
 ·rw[ai] at hd;cases hx:L[i]? with
  | none=>rw[hx] at hd;cases hd
  | some x=>
   rw[hx] at hd;cases hd;have hi:i<L.length:=(ag.mp hx).1;have e:L.take (i+1)=L.take i++[x]:=by rw[bh,hx];rfl
   have hlen:acc.length<sizeLine:=by
    rw[ha];refine Nat.lt_of_le_of_lt (List.length_filterMap_le _ _) ?_;rw[bH];omega
   exact h x (ax hx) (fun e=>acc.length<sizeLine/\acc++[e]=(L.take (i+1)).filterMap f) (acc=(L.take (i+1)).filterMap f)
    (fun z hz=>⟨hlen,by rw[e,List.filterMap_append,ha];simp[hz]⟩) (fun hz=>by rw[e,List.filterMap_append,ha];simp[hz])
 ·dsimp only at ha;rw[ae,bx] at ha;rw[ha];exact q
theorem nP{α:Type}{wi:iG}{m:List (Option Nat)}{g:iq}{te:TD}{ρ:Ev}{Q:R->Prop}(L:List α)(φ f:α->D)(hw:∀Q':List D->Prop,Q' (L.map φ)->wi ρ Q')(hl:L.length<=sizeLine)
  (h:∀x∈L,∀(K1:D->Prop),K1 (f x)->g (φ x) (eK m ρ) fun dX=>te dX fun r=>K1 r.val) (q:Q (.ow (L.map f))):jE wi m g ju te ρ Q:=by
 refine EA L φ (fun x=>some (f x)) hw hl (fun x hx K1 K0 h1 _=>?_) ?_
 ·have:=h x hx K1 (h1 _ rfl);simpa[ju] using this
 ·have e:L.filterMap (fun x=>some (f x))=L.map f:=by
   induction L with
   | nil=>rfl
   | cons a r ih=>simp
  rw[e];exact q
theorem Nx{α:Type}{wi:iG}{m:List (Option Nat)}{g:iq}{tc:gz}{te:TD}{ρ:Ev}{Q:R->Prop}(L:List α)(φ f:α->D)(p:α->Bool)(hw:∀Q':List D->Prop,Q' (L.map φ)->wi ρ Q')(hl:L.length<=sizeLine)
  (h:∀x∈L,∀(K1:D->Prop) (K0:Prop),(p x=true->K1 (f x))->(p x=false->K0)->g (φ x) (eK m ρ) fun dX=>tc dX fun b=>if b=true then te dX fun r=>K1 r.val else K0)
  (q:Q (.ow ((L.filter p).map f))):jE wi m g tc te ρ Q:=by
 refine EA L φ (fun x=>if p x=true then some (f x) else none) hw hl (fun x hx K1 K0 h1 h0=>h x hx K1 K0 (fun z=>h1 _ (by simp[z])) (fun z=>h0 (by simp[z]))) ?_;have e:L.filterMap (fun x=>if p x=true then some (f x) else none)=(L.filter p).map f:=by
  clear h hl hw q;induction L with
  | nil=>rfl
  | cons a r ih=>by_cases z:p a=true<;>simp[z,ih]
 rw[e];exact q
theorem La{wi:iG}{g:iq}{tb:TX}{D:DE}{ρ:Ev}(ds:List L2.D)(hw:∀Q':List L2.D->Prop,Q' ds->wi ρ Q')(Iv:Nat->Ev->Prop)(h0:Iv 0 ρ)
  (turn:∀i d ρ',ds[i]?=some d->Iv i ρ'->g d ρ' fun dX=>tb { D with nx:=Iv (i+1),ct:=Iv (i+1),bk:=D.nx } dX) (fin:∀ρ',Iv ds.length ρ'->D.nx ρ'):gN wi g tb D ρ:=hw _ ⟨Iv,h0,turn,fin⟩
theorem jG{α:Type}{wi:iG}{g:iq}{tb:TX}{D:DE}{ρ:Ev}(L:List α)(φ:α->L2.D)(hw:∀Q':List L2.D->Prop,Q' (L.map φ)->wi ρ Q')(Iv:Nat->Ev->Prop)(h0:Iv 0 ρ)
  (turn:∀i x ρ',L[i]?=some x->Iv i ρ'->g (φ x) ρ' fun dX=>tb { D with nx:=Iv (i+1),ct:=Iv (i+1),bk:=D.nx } dX) (fin:∀ρ',Iv L.length ρ'->D.nx ρ'):gN wi g tb D ρ:=by
 refine La (L.map φ) hw Iv h0 (fun i d ρ' hd iv=>?_) (fun ρ' iv=>fin ρ' (by simpa using iv));rw[ai] at hd;cases hx:L[i]? with
 | none=>rw[hx] at hd;cases hd
 | some x=>rw[hx] at hd;cases hd;exact turn i x ρ' hx iv
theorem sH{g:iq}{tb:TX}{D:DE}{ρ:Ev}{wi:iG}(n:Nat)(hw:∀Q':List L2.D->Prop,Q' ((List.range n).map fun(i:Nat)=>.int (0+i))->wi ρ Q')(Iv:Nat->Ev->Prop)(h0:Iv 0 ρ)
  (turn:∀(i:Nat) ρ',i<n->Iv i ρ'->g (.int i) ρ' fun dX=>tb { D with nx:=Iv (i+1),ct:=Iv (i+1),bk:=D.nx } dX) (fin:∀ρ',Iv n ρ'->D.nx ρ'):gN wi g tb D ρ:=by
 refine jG (List.range n) (fun(i:Nat)=>.int (0+i)) hw Iv h0 (fun i x ρ' hx iv=>?_) (fun ρ' iv=>fin ρ' (by simpa using iv));obtain⟨h1,h2⟩:=ag.mp hx;have h3:i<n:=by simpa using h1
 have h4:x=i:=by rw[<-h2];simp
 subst h4;rw[Int.zero_add];exact turn x ρ' h3 iv
theorem Pd:(10:Int) ^ Int.toNat 24=1000000000000000000000000:=by decide
theorem Pb:(10:Int) ^ Int.toNat 30=1000000000000000000000000000000:=by decide
theorem IF:qu 10 24=True:=by simp only[qu,eq_iff_iff,iff_true];decide
theorem IE:qu 10 30=True:=by simp only[qu,eq_iff_iff,iff_true];decide
end L2
namespace L2
open PySem PySem.Spec PyProof.Rows
section
variable {X:Cx} {pos:Pos} {e:Expr} {te:TD} {es:List Expr} {ts:iH}
def tT(t:TD):TD:=fun ρ Q=>t ρ fun r=>match r.val with
 | .int i=>Q (.fz (.int (-i)))
 | _=>False
theorem zz(h:PD X e te):PD X (.UnaryOp .USub e pos) (tT te):=by
 obtain⟨t,p,q⟩:=h;refine⟨_,HV Kc p,fun ρ σ G0 H0 G H Q P E h k=>q ρ σ G0 H0 G H _ _ E h fun v H' r G' x rr hq=>?_⟩;obtain⟨G2,x2,rv,_⟩:=rr.freeze x;split at hq
 ·rename_i i e1;rw[e1] at rv;simp only[Rep] at rv;exact⟨i,rv,k _ _ _ G2 x2 (e7 (ie _ _ _)) hq⟩
 ·exact hq.elim
def Io:ei:=fun ds Q=>match ds with
 | [.lst es]=>Q (.ow es)
 | [.tup es]=>Q (.ow es)
 | _=>False
noncomputable def i4:List D->Option (List Int)
 | []=>some []
 | .int b::r=>(i4 r).map (b::·)
 | _=>none
theorem yb:∀{ds:List D} {bs:List Int},i4 ds=some bs->ds=bs.map D.int
 | [],bs,h=>by simp[i4] at h;subst h;rfl
 | .int b::r,bs,h=>by
  simp only[i4,aK] at h;obtain⟨qm,h1,rfl⟩:=h;rw[yb h1];rfl
 | .non::r,bs,h=>by simp[i4] at h
 | .bl _::r,bs,h=>by simp[i4] at h
 | .str _::r,bs,h=>by simp[i4] at h
 | .tup _::r,bs,h=>by simp[i4] at h
 | .lst _::r,bs,h=>by simp[i4] at h
 | .obj _ _::r,bs,h=>by simp[i4] at h
 | .dic _::r,bs,h=>by simp[i4] at h
 | .dit _::r,bs,h=>by simp[i4] at h
 | .exc _::r,bs,h=>by simp[i4] at h
theorem MC(bs:List Int):i4 (bs.map D.int)=some bs:=by
 induction bs with
 | nil=>rfl
 | cons b r ih=>simp[i4,ih]
theorem xU{K:PySem.W.Frag}{G:Hp}:∀{bs:List Int} {vs:List V},bJ K G vs (bs.map D.int)->vs=bs.map V.int
 | [],[],_=>rfl
 | b::bs,v::vs,h=>by
  simp only[ao,bJ,Rep] at h;rw[h.1,xU h.2];rfl
 | [],_::_,h=>by simp only[bG,bJ] at h
 | _::_,[],h=>by simp only[ao,bJ] at h
theorem AN{vs:List Value}{ns:List Int}(hi:IntsAre vs ns):∃xs:Array (Int×Tok),vs.toArray=intItems xs/\ns=xs.toList.map (·.1):=by
 obtain⟨xs,e⟩:=hi.allInts.items;exact⟨xs,e,by rw[<-hi.numsOf,<-nums_intItems,<-e]⟩
theorem Mo(hc:X.calm=true):dh X (.builtin "sum") (fun xs H Q=>∃(p:Addr) (ns:List Int),xs=[.ref p]/\dP X.K H p (ns.map V.int)/\Q (.int ns.sum) H):=by
 intro pins s σ H xs us Q I r h;obtain⟨p,ns,rfl,hq,q⟩:=h;obtain⟨u,rfl,ru⟩:=mi r;cases ru;obtain⟨its,rv,pl,hz⟩:=I.list hq;obtain⟨ys,e,k6⟩:=AN (uX rv);have hl:=pl.isList;rw[e] at hl;refine sum_intListG (I.ok.hd hc) hl fun h' tk t' hk=>?_
 have e2:preSum (numAt ys) ys.size=ns.sum:=by
  rw[preSum_eq,List.take_of_length_le (by simp),k6]
 rw[e2];exact⟨.int _,H,I.kept hk,⟨_,rfl⟩,q⟩
theorem Mn(hc:X.calm=true):dh X (.builtin "min") (fun xs H Q=>∃(p:Addr) (ns:List Int),xs=[.ref p]/\dP X.K H p (ns.map V.int)/\ns≠[]/\∀M,M∈ns->(∀a∈ns,M<=a)->Q (.int M) H):=by
 intro pins s σ H xs us Q I r h;obtain⟨p,ns,rfl,hq,du,q⟩:=h;obtain⟨u,rfl,ru⟩:=mi r;cases ru;obtain⟨its,rv,pl,hz⟩:=I.list hq;obtain⟨ys,e,k6⟩:=AN (uX rv);have hl:=pl.isList;rw[e] at hl;have hsz:0<ys.size:=by
  cases vN:ys.toList with
  | nil=>rw[k6,vN] at du;exact absurd rfl du
  | cons a b=>have:ys.toList.length=b.length+1:=by rw[vN];rfl
              rw[aM] at this;omega
 refine min_intList (I.ok.hd hc) hl hsz fun v h' tk hv hk=>?_
 obtain⟨t,rfl⟩:=intItems_at hv;obtain⟨h1,h2⟩:=argBest_lt (numAt ys) (ys.size-1);refine⟨.int _,H,I.kept hk,⟨_,rfl⟩,q _ ?_ fun a ha=>?_⟩
 ·rw[k6,numAt_eq];exact getD_mem (by rw[ae,aM];omega)
 ·rw[k6] at ha;obtain⟨j,hj,rfl⟩:=mem_getD ha;rw[ae,aM] at hj;rw[<-numAt_eq];exact h2 j (by omega)
theorem Mm(hc:X.calm=true):dh X (.builtin "max") (fun xs H Q=>∃(p:Addr) (ns:List Int),xs=[.ref p]/\dP X.K H p (ns.map V.int)/\ns≠[]/\∀M,M∈ns->(∀a∈ns,a<=M)->Q (.int M) H):=by
 intro pins s σ H xs us Q I r h;obtain⟨p,ns,rfl,hq,du,q⟩:=h;obtain⟨u,rfl,ru⟩:=mi r;cases ru;obtain⟨its,rv,pl,hz⟩:=I.list hq;obtain⟨ys,e,k6⟩:=AN (uX rv);have hl:=pl.isList;rw[e] at hl;have hsz:0<ys.size:=by
  cases vN:ys.toList with
  | nil=>rw[k6,vN] at du;exact absurd rfl du
  | cons a b=>have:ys.toList.length=b.length+1:=by rw[vN];rfl
              rw[aM] at this;omega
 refine max_intList (I.ok.hd hc) hl hsz fun v h' tk hv hk=>?_
 obtain⟨t,rfl⟩:=intItems_at hv;obtain⟨h1,h2⟩:=argBest_gt (numAt ys) (ys.size-1);refine⟨.int _,H,I.kept hk,⟨_,rfl⟩,q _ ?_ fun a ha=>?_⟩
 ·rw[k6,numAt_eq];exact getD_mem (by rw[ae,aM];omega)
 ·rw[k6] at ha;obtain⟨j,hj,rfl⟩:=mem_getD ha;rw[ae,aM] at hj;rw[<-numAt_eq];exact h2 j (by omega)
def rV:ei:=fun ds Q=>match ds with
 | [.lst es]=>match i4 es with
  | some ns=>Q (.fz (.int ns.sum))
  | none=>False
 | _=>False
theorem zd(hc:X.calm=true):pD X (.builtin "sum") rV:=by
 refine⟨_,Mo hc,fun G H vs ds Q P s rs h k=>?_⟩;unfold rV at h;split at h
 ·split at h
  ·rename_i es bs hb;obtain⟨v,rfl,rv⟩:=kL rs;simp only[Rep] at rv;obtain⟨a,xs,rfl,h1,h2⟩:=rv;rw[yb hb] at h2;rw[xU h2] at h1;exact⟨a,bs,rfl,(s.ft h1).sq,k _ _ _ G (.refl s) (e7 (ie _ _ _)) h⟩
  ·exact h.elim
 ·exact h.elim
def tS:ei:=fun ds Q=>match ds with
 | [.lst es]=>match i4 es with
  | some ns=>ns≠[]/\∀M,M∈ns->(∀a∈ns,M<=a)->Q (.fz (.int M))
  | none=>False
 | [.int i,.int j]=>Q (.fz (.int (if j<i then j else i)))
 | _=>False
def w6:ei:=fun ds Q=>match ds with
 | [.lst es]=>match i4 es with
  | some ns=>ns≠[]/\∀M,M∈ns->(∀a∈ns,a<=M)->Q (.fz (.int M))
  | none=>False
 | [.int i,.int j]=>Q (.fz (.int (if j>i then j else i)))
 | _=>False
theorem C9(hc:X.calm=true):pD X (.builtin "min") tS:=by
 refine⟨_,(Mn hc).or (M5 hc),fun G H vs ds Q P s rs h k=>?_⟩;unfold tS at h;split at h
 ·split at h
  ·rename_i es bs hb;obtain⟨v,rfl,rv⟩:=kL rs;simp only[Rep] at rv;obtain⟨a,xs,rfl,h1,h2⟩:=rv;rw[yb hb] at h2;rw[xU h2] at h1;exact .inl ⟨a,bs,rfl,(s.ft h1).sq,h.1,fun M h3 h4=>k _ _ _ G (.refl s) (e7 (ie _ _ _)) (h.2 M h3 h4)⟩
  ·exact h.elim
 ·obtain⟨v,u,rfl,rv,ru⟩:=t6 rs;simp only[Rep] at rv ru;subst rv ru;exact .inr ⟨_,_,rfl,k _ _ _ G (.refl s) (e7 (ie _ _ _)) h⟩
 ·exact h.elim
theorem Im(hc:X.calm=true):pD X (.builtin "max") w6:=by
 refine⟨_,(Mm hc).or (M6 hc),fun G H vs ds Q P s rs h k=>?_⟩;unfold w6 at h;split at h
 ·split at h
  ·rename_i es bs hb;obtain⟨v,rfl,rv⟩:=kL rs;simp only[Rep] at rv;obtain⟨a,xs,rfl,h1,h2⟩:=rv;rw[yb hb] at h2;rw[xU h2] at h1;exact .inl ⟨a,bs,rfl,(s.ft h1).sq,h.1,fun M h3 h4=>k _ _ _ G (.refl s) (e7 (ie _ _ _)) (h.2 M h3 h4)⟩
  ·exact h.elim
 ·obtain⟨v,u,rfl,rv,ru⟩:=t6 rs;simp only[Rep] at rv ru;subst rv ru;exact .inr ⟨_,_,rfl,k _ _ _ G (.refl s) (e7 (ie _ _ _)) h⟩
 ·exact h.elim
noncomputable def jF:List D->Option (List Str)
 | []=>some []
 | .str b::r=>(jF r).map (b::·)
 | _=>none
theorem FY:∀{ds:List D} {bs:List Str},jF ds=some bs->ds=bs.map D.str
 | [],bs,h=>by simp[jF] at h;subst h;rfl
 | .str b::r,bs,h=>by
  simp only[jF,aK] at h;obtain⟨qm,h1,rfl⟩:=h;rw[FY h1];rfl
 | .non::r,bs,h=>by simp[jF] at h
 | .bl _::r,bs,h=>by simp[jF] at h
 | .int _::r,bs,h=>by simp[jF] at h
 | .tup _::r,bs,h=>by simp[jF] at h
 | .lst _::r,bs,h=>by simp[jF] at h
 | .obj _ _::r,bs,h=>by simp[jF] at h
 | .dic _::r,bs,h=>by simp[jF] at h
 | .dit _::r,bs,h=>by simp[jF] at h
 | .exc _::r,bs,h=>by simp[jF] at h
theorem ya(bs:List Str):jF (bs.map D.str)=some bs:=by
 induction bs with
 | nil=>rfl
 | cons b r ih=>simp[jF,ih]
theorem Fn{K:PySem.W.Frag}{G:Hp}:∀{bs:List Str} {vs:List V},bJ K G vs (bs.map D.str)->vs=bs.map V.str
 | [],[],_=>rfl
 | b::bs,v::vs,h=>by
  simp only[ao,bJ,Rep] at h;rw[h.1,Fn h.2];rfl
 | [],_::_,h=>by simp only[bG,bJ] at h
 | _::_,[],h=>by simp only[ao,bJ] at h
theorem MB{ss:List Str}:∀{us:List Value},Vals (ss.map V.str) us->StrsAre us ss:=by
 induction ss with
 | nil=>
  intro us h;cases h;exact .nil
 | cons n r ih=>
  intro us h;cases h with
  | cons a b=>
   obtain⟨t,rfl⟩:=a;exact .cons _ _ (ih b)
def Rr:ei:=fun ds Q=>match ds with
 | [.lst es]=>match jF es with
  | some ss=>ss.length<64/\∀A7:List Str,A7.Perm ss->sortedS A7=true->Q (.ow (A7.map D.str))
  | none=>match i4 es with
   | some ns=>ns.length<64/\∀nW:List Int,nW.Perm ns->nW.Pairwise (·<=·)->Q (.ow (nW.map D.int))
   | none=>False
 | _=>False
def CD(X:Cx)(id:String)(o:D->List D->(R->Prop)->Prop):Prop:=∃r,CC X id r/\∀(G H:Hp) (x:V) (d:D) (vs:List V) (ds:List D) (Q:R->Prop) (P:VK),bT G H->Rep X.K G x d->bJ X.K G vs ds->o d ds Q->
 (∀v H' r' G',Ext G H G' H'->df X.K G' H' H v r'->Q r'->P v H')->r x vs H P
def dM(T:String)(o:D->List D->(R->Prop)->Prop)(te:TD)(ts:iH):TD:=fun ρ Q=>te ρ fun r=>lR r.val=T/\ts ρ fun ds=>o r.val ds Q
theorem KS{K:PySem.W.Frag}{G H:Hp}{x:V}{d:D}{T:String}(s:bT G H)(r:Rep K G x d)(h:lR d=T)(hT:T="list"\/T="str"):vd K T x H:=by
 cases d with
 | str z=>simp only[Rep] at r;subst r;exact h.symm
 | lst ds=>
  simp only[Rep] at r;obtain⟨a,xs,rfl,h1,_⟩:=r;exact .inl ⟨h.symm,xs,(s.ft h1).sq⟩
 | non=>subst h;rcases hT with h | h<;>simp[lR] at h
 | bl=>subst h;rcases hT with h | h<;>simp[lR] at h
 | int=>subst h;rcases hT with h | h<;>simp[lR] at h
 | tup=>subst h;rcases hT with h | h<;>simp[lR] at h
 | obj=>subst h;rcases hT with h | h<;>simp[lR] at h
 | dic=>subst h;rcases hT with h | h<;>simp[lR] at h
 | dit=>subst h;rcases hT with h | h<;>simp[lR] at h
 | exc=>subst h;rcases hT with h | h<;>simp[lR] at h
theorem xH{T id:String}{name:Str}{p':Pos}{e1:Expr}{o:D->List D->(R->Prop)->Prop}(hm:CD X id o)(hT:T="list"\/T="str")(pa:PlainAttrs T)(slot:Slot T name id)(vO:typeOf (.builtin id)=pure (.type "method_descriptor"))
  (he:PD X e te) (ha:l7 X (e1::es) ts) (gk:attributeBase e name X.env (eval e X.env)=eval e X.env:=by rfl)
  (oX:((backTo pos (starEach (e1::es) X.env)).all (fun x=>!x.1)&&(backToKw pos (keywordEach [] X.env)).all (fun x=>x.1.isSome)
   && decide ((e1::es).length+([]:List Keyword).length+(if ([]:List Keyword).isEmpty then 0 else 1)<30))=true:=by rfl)
  (gj:(p'.endLine==pos.line)=true:=by rfl) (hs:starEach (e1::es) X.env=(false,eval e1 X.env)::starEach es X.env:=by rfl) (kA:(backTo pos (starEach es X.env)).any (·.1)=false:=by rfl) :
  PD X (.Call (.Attribute e name p') (e1::es) [] pos) (dM T o te ts):=by
 obtain⟨r,hr,kb⟩:=hm;obtain⟨t1,p1,q1⟩:=he;obtain⟨t2,p2,q2⟩:=ha;refine⟨_,sf pa slot vO hr p1 p2 gk oX gj hs kA,fun ρ σ G0 H0 G H Q P E h k=>q1 ρ σ G0 H0 G H _ _ E h fun v H' r1 G' x rr hq=>?_⟩;obtain⟨G2,x2,rv,_⟩:=rr.freeze x;refine⟨KS x2.s rv hq.1 hT,q2 ρ σ G0 H0 G2 H' _ _ (E.ext x2) hq.2 fun vs H3 ds G3 x3 rs dm=>?_⟩;exact kb G3 H3 v r1.val vs ds Q P x3.s (rv.mono x3.g) rs dm fun w' H4 r4 G4 x4 O6 q4=>k w' H4 r4 G4 ((x2.trans x3).trans x4) (O6.g7 (x2.trans x3).h) q4
def pA:D->List D->(R->Prop)->Prop:=fun d ds Q=>match d,ds with
 | .str x,[.lst es]=>match jF es with
  | some ys=>(ys.map (·.length)).sum+ys.length*x.length<=16777216/\Q (.fz (.str (Txt.join x ys)))
  | none=>False
 | _,_=>False
theorem zy:CD X "str.join" pA:=by
 refine⟨fun x vs H Q=>∃(z:Str) (p:Addr) (ys:List Str),x=.str z/\vs=[.ref p]/\dP X.K H p (ys.map V.str)/\(ys.map (·.length)).sum+ys.length*z.length<=16777216/\Q (.str (Txt.join z ys)) H,fun pins s σ H x xs v us Q I rx rs h=>?_,fun G H x d vs ds Q P s rx rs h k=>?_⟩
 ·obtain⟨z,p,ys,rfl,rfl,hq,hz,q⟩:=h;obtain⟨t,rfl⟩:=rx;obtain⟨u,rfl,ru⟩:=mi rs;cases ru;obtain⟨its,rv,pl,_⟩:=I.list hq;exact join_list pl.isList (by simpa using MB rv) hz fun t' k=>⟨.str _,H,I.tok _,⟨_,rfl⟩,q⟩
 ·unfold pA at h;split at h
  ·split at h
   ·rename_i z es ys hy;obtain⟨v,rfl,rv⟩:=kL rs;simp only[Rep] at rv rx;obtain⟨a,xs,rfl,h1,h2⟩:=rv;rw[FY hy] at h2;rw[Fn h2] at h1;exact⟨_,a,ys,rx,rfl,(s.ft h1).sq,h.1,k _ _ _ G (.refl s) (e7 (pN _ _ _)) h.2⟩
   ·exact h.elim
  ·exact h.elim
end
end L2
namespace L2
open PySem PySem.Spec PyProof.Rows
theorem FX{prog:Program}{w:World}{A:Around}{E:Value->Shared->Prop}{it l:Addr}{items:Array Value}(du:l≠it) :
  ∀(n i:Nat) (s:Shared) (Q:List Value->Shared->Prop),s.heap.IsListIter it l i->s.heap.IsList l items->i+n<=items.size->
   (∀h':Heap,h'.IsListIter it l (i+n)->Heap.SameBut it s.heap h'->Q ((items.toList.drop i).take n) { s with heap:=h' })->wpAny (model prog w) A (draw (.ref it) n) Q E s
 | 0,i,s,Q,st,hl,hn,q=>by
  rw[draw.eq_1];exact ah (by have:=q s.heap st ⟨rfl,fun _ _=>rfl⟩;simpa using this)
 | n+1,i,s,Q,st,hl,hn,q=>by
  rw[draw.eq_2];have hi:i<items.size:=by omega
  refine aa (wpAny_pyNext_list_item st hl (x:=items[i]) (by simp[hi]) fun h1 oC sb=>?_);dsimp only;have tf:h1.IsList l items:=by
   obtain⟨o,e,c⟩:=hl;exact⟨o,(sb.2 l du).trans e,c⟩
  refine aa (br (FX du n (i+1) { s with heap:=h1 } _ oC tf (by omega) fun h2 pV vq=>ah ?_));have:=q h2 (by rw[show i+(n+1)=i+1+n by omega];exact pV) ⟨vq.1.trans sb.1,fun b hb=>(vq.2 b hb).trans (sb.2 b hb)⟩;have e:(items.toList.drop i).take (n+1)=items[i]::(items.toList.drop (i+1)).take n:=by
   rw[List.drop_eq_getElem_cons (by simpa using hi)];simp
  rw[e] at this;exact this
theorem OG{prog:Program}{w:World}{A:Around}{E:Value->Shared->Prop}{s:Shared}{l:Addr}{items:Array Value}{Q:List Value->Shared->Prop}(hd:A.handled=none)(hl:s.heap.IsList l items)
  (q:∀h':Heap,Heap.ExtBut s.heap.objs.size s.heap h'->Q items.toList { s with heap:=h' }):wpAny (model prog w) A (unpackItems (.ref l) items.size none) Q E s:=by
 unfold unpackItems;have dz:l<s.heap.objs.size:=by obtain⟨o,e,_⟩:=hl;exact aB e
 have ty:s.TypeIs (.ref l) "list":=by obtain⟨o,e,c,_⟩:=hl;exact⟨o,e,c⟩
 refine aa ?_;unfold notIterableAtAll;refine aa (wpAny_specialOf ty F.slot_list_iter.lookup ?_);rw[if_pos (show((some (Value.builtin "list.__iter__")).isSome=true) from rfl)];refine ah ?_;rw[if_neg aw];refine aa (br (wpAny_pyIter_list hl ?_));dsimp only;have tf:(s.heap.push { cls:=Value.type "list_iterator",data:=Data.fields #[Value.ref l,Value.int 0 0] }).IsList l items:=by
  obtain⟨o,e,c⟩:=hl;exact⟨o,aj _ e,c⟩
 refine aa (br (FX (aP dz) items.size 0 _ _ ⟨_,az _ rfl,rfl,rfl⟩ tf (by omega) fun h2 pV vq=>?_));have yC:h2.IsList l items:=by
  obtain⟨o,e,c⟩:=tf;exact⟨o,(vq.2 l (aP dz)).trans e,c⟩
 have el:List.take items.size (List.drop 0 items.toList)=items.toList:=by rw[List.drop_zero,show items.size=items.toList.length by simp,bx]
 rw[el,if_neg (by simp)];refine aa (br (wpAny_pyNext_list_end hd pV yC (by simp) fun h3 eb=>?_));rw[if_neg (by simp)];refine ah (q h3 fun b o hb e=>eb b o hb ?_);rw[vq.2 b hb];exact aj _ e
section
variable {X:Cx} {pos:Pos}
def Hy(K:PySem.W.Frag)(n:Nat)(t:o7):TG:=fun v σ H Q=>∃a xs,v=.ref a/\dP K H a xs/\xs.length=n/\t xs σ H Q
theorem KR{es:List Expr}{k:Nat}{t:o7}{n:Nat}(hc:X.calm=true)(h:tO X es t)
  (hn:(assignEach es X.env).length=n:=by rfl) (fW:(assignEach es X.env).findIdx? (·.1)=none:=by rfl):PG X (.Tuple es k pos) (Hy X.K n t):=by
 intro pins s σ H v u Q I r hw;obtain⟨a,xs,e1,hq,hl,hw⟩:=hw;subst e1;cases r;obtain⟨its,rv,pl,hz⟩:=I.list hq;rw[assign_Tuple];refine aa (wpAny_standAt ?_);unfold unpack;have hlen:(assignEach es X.env).length=its.toArray.size:=by rw[hn,<-hl,rv.length];simp
 rw[hlen,fW];refine aa (br (OG (I.ok.hd hc) pl.isList fun h' hx=>?_));have I1:Inv X pins σ H { s with heap:=h' }:=I.kept (t':=s.toks) fun b o e=>hx b o (aP (aB e)) e
 exact h pins _ σ H xs _ Q I1 (by simpa using rv) hw
def tR(n:Nat)(t:lz):iq:=fun d ρ Q=>match d with
 | .lst ds=>ds.length=n/\t ds ρ Q
 | _=>False
theorem KQ{es:List Expr}{k:Nat}{t:lz}{n:Nat}(hc:X.calm=true)(h:tV X es t)(hn:(assignEach es X.env).length=n:=by rfl)(fW:(assignEach es X.env).findIdx? (·.1)=none:=by rfl):o8 X (.Tuple es k pos) (tR n t):=by
 obtain⟨t1,p1,q1⟩:=h;refine⟨_,KR hc p1 hn fW,fun ρ σ G0 H0 G H d v Q P E r h k=>?_⟩;unfold tR at h;split at h
 ·simp only[Rep] at r;obtain⟨a,xs,rfl,hq,rs⟩:=r;exact⟨a,xs,rfl,(E.e.s.ft hq).sq,by rw[rs.length];exact h.1,q1 ρ σ G0 H0 G H _ xs Q P E rs h.2 k⟩
 ·exact h.elim
end
end L2
namespace L2
open PySem PySem.Spec PyProof.Rows
end L2
namespace L2
open PySem PySem.Spec PyProof.Rows
noncomputable def zc:D->Bool
 | .non=>true
 | .bl _=>true
 | .int _=>true
 | .str _=>true
 | _=>false
def t9(i:Nat)(te:TD):TD:=fun ρ Q=>te (iE i ρ) fun r=>match r with
 | .fz d=>zc d=true/\Q (.fz d)
 | _=>False
def t8(i:Nat)(t:gz):gz:=fun ρ Q=>t (iE i ρ) Q
theorem K9{K:PySem.W.Frag}{G G':Hp}{v:V}{d:D}(h:zc d=true)(r:Rep K G v d):Rep K G' v d:=by
 cases d<;>first | (simp only[Rep] at r ⊢;exact r) | cases h
noncomputable def wZ(G:Hp)(L:List Addr):Hp:=fun a=>if a∈L then none else G a
theorem K8{G H G' H':Hp}{L:List Addr}(gp:∀q∈L,G q=none)(x:Ext (lA G H L) H G' H'):Ext G H (wZ G' L) H':=by
 refine⟨fun b u e=>?_,x.h,fun b u e=>?_,fun q h1 h2=>?_⟩
 ·have hb:b∉L:=fun z=>by rw[gp b z] at e;cases e
  unfold wZ;rw[if_neg hb];exact x.g b u (by rw[mS hb];exact e)
 ·unfold wZ at e;split at e
  ·cases e
  ·exact x.s b u e
 ·unfold wZ;split
  ·rfl
  ·rename_i hq;exact x.n q (by rw[mS hq];exact h1) h2
section
variable {X:Cx} {e:Expr} {te:TD} {t:gz}
theorem cF.vJ{K:PySem.W.Frag}{G0 H0 G H:Hp}{ρ:Ev}{σ:St}(i:Nat)(E:cF K G0 H0 ρ σ G H):∃G1,cF K G0 H0 (iE i ρ) σ G1 H/\∀G' H',Ext G1 H G' H'->∃G2,Ext G H G2 H':=
 let⟨L,hL,E',_⟩:=E.la i
 ⟨_,E',fun G' H' x=>⟨_,K8 hL x⟩⟩
theorem zS(i:Nat)(h:PD X e te):PD X e (t9 i te):=by
 obtain⟨tt,p,q⟩:=h;refine⟨tt,p,fun ρ σ G0 H0 G H Q P E h k=>?_⟩;obtain⟨G1,E1,back⟩:=E.vJ i;refine q _ σ G0 H0 G1 H _ _ E1 h fun v H' r G' x rr hq=>?_
 split at hq
 ·rename_i d;obtain⟨G2,x2⟩:=back G' H' x;exact k v H' (.fz d) G2 x2 (K9 hq.1 rr) hq.2
 ·exact hq.elim
theorem zR(i:Nat)(h:PB X e t):PB X e (t8 i t):=by
 obtain⟨tt,p,q⟩:=h;refine⟨tt,p,fun ρ σ G0 H0 G H Q P E h k=>?_⟩;obtain⟨G1,E1,back⟩:=E.vJ i;refine q _ σ G0 H0 G1 H _ _ E1 h fun b H' G' x hq=>?_
 obtain⟨G2,x2⟩:=back G' H' x;exact k b H' G2 x2 hq
end
end L2
namespace L2
open PySem PySem.Spec PyProof.Rows
end L2
namespace L2
open PySem PySem.Spec PyProof.Rows
end L2
namespace L2
open PySem PySem.Spec PyProof.Rows
end L2
namespace L2
open PySem PySem.Spec PyProof.Rows
end L2
namespace L2
open PySem PySem.Spec PyProof.Rows
end L2
namespace L2
open PySem PySem.Spec PyProof.Rows
end L2
namespace L2
open PySem PySem.Spec PyProof.Rows
section
variable {X:Cx} {pos:Pos} {e i':Expr} {te ti:TD}
def Rm(i:Nat):TX:=fun D ρ=>match gt ρ i with
 | .ow _=>D.nx (ρ.set i (.ow []))
 | _=>False
def rT(i:Nat)(te:TD):TX:=fun D ρ=>match gt ρ i with
 | .ow ds=>te ρ fun r=>match r with
  | .ow es=>ds.length+es.length<=sizeLine/\D.nx (ρ.set i (.ow (ds++es)))
  | _=>False
 | _=>False
theorem DL(i:Nat){x:Str}{p1 p2 pos':Pos}(he:PD X e te)(hN:X.N[i]?=some x:=by rfl)(hv:jf X.env.scope x:=by first | exact Or.inl rfl | exact Or.inr (Or.inl rfl) | exact Or.inr (Or.inr rfl))(hd:(x==("__debug__":Str))=false:=by decide)(eB:(x==("__classdict__":Str))=false:=by decide)
  (fW:starEach [e] X.env=(false,eval e X.env)::starEach [] X.env:=by rfl)
  (hb:∀{ta:TE} {t:TA},PE X (.Name x p1) ta->PA X [e] t->PE X (.Call (.Attribute (.Name x p1) "extend" p2) [e] [] pos') (sQ X.K "list" EG ta t):=by intro ta t h1 h2;exact sf PySem.F.plainAttrs_list PySem.F.slot_list_extend PySem.F.type_list_extend M3 h1 h2) :
  PX X (.Expr (.Call (.Attribute (.Name x p1) "extend" p2) [e] [] pos') pos) (rT i te):=by
 obtain⟨t,p,q⟩:=he;refine⟨_,sF (hb (j8 hN hv hd eB) (mP p mN fW)),fun ρ σ G0 H0 G H D E k h g=>?_⟩;unfold rT at h;split at h
 ·rename_i ds hg;obtain⟨a,xs,h1,h2,h3,h4,h5⟩:=k.ow i ds hg;refine⟨_,h1,.inl ⟨rfl,xs,dP.of h2⟩,q ρ σ G0 H0 G H _ _ k h fun v H' r G' x1 rr hq=>?_⟩;split at hq
  ·rename_i es;obtain⟨b,zs,rfl,b1,b2,b3,b4⟩:=rr;have k2:=k.ext x1;refine⟨a,b,xs,zs,rfl,rfl,x1.h _ _ h2,b3,by rw[h5.length,b4.length];exact hq.1,?_⟩;exact g.nx _ _ G' _ x1.g (k2.change hg h1 ((h5.mono x1.g).append b4)) hq.2
  ·exact hq.elim
 ·exact h.elim
def xG(j i:Nat):TX:=fun D ρ=>match gt ρ i with
 | .ow ds=>∃d,ds[ds.length-1]?=some d/\D.nx ((ρ.set i (.ow ds.dropLast)).set j (.fz d))
 | _=>False
theorem bJ.dropLast{K:PySem.W.Frag}{H:Hp}{vs:List V}{ds:List D}(h:bJ K H vs ds):bJ K H vs.dropLast ds.dropLast:=by
 rw[List.dropLast_eq_take,List.dropLast_eq_take,h.length];exact h.take _
def DK:TX:=fun _ _=>False
theorem K7{st:Stmt}:PX X st DK:=⟨_,LR,fun _ _ _ _ _ _ _ _ _ h _=>h.elim⟩
end
end L2
namespace L2
open PySem PySem.Spec PyProof.Rows
section
variable {κ:Type} [DecidableEq κ]
noncomputable def gq(bL:List (κ×V))(k:κ):Option V:=(bL.find? fun kv=>decide (kv.1=k)).map (·.2)
noncomputable def oh(bL:List (κ×V))(k:κ)(v:V):List (κ×V):=
 if (bL.any fun kv=>decide (kv.1=k))=true then bL.map (fun kv=>if kv.1=k then(kv.1,v) else kv) else bL++[(k,v)]
theorem Fm{p:κ×V}{r:List (κ×V)}{k:κ}(e:p.1=k):gq (p::r) k=some p.2:=by simp[gq,bC,e]
theorem Fl{p:κ×V}{r:List (κ×V)}{k:κ}(e:¬p.1=k):gq (p::r) k=gq r k:=by simp[gq,bC,e]
theorem zV(k:κ):∀bL:List (κ×V),(bL.any fun kv=>decide (kv.1=k))=(gq bL k).isSome
 | []=>rfl
 | p::r=>by
  rw[List.any_cons];by_cases e:p.1=k
  ·simp only[Fm e,bA e,Bool.true_or,Option.isSome_some]
  ·rw[Fl e,aF e,Bool.false_or];exact zV k r
theorem Nw(bL:List (κ×V))(k:κ)(v:V):(oh bL k v).length<=bL.length+1:=by
 unfold oh;split
 ·rw[ae];omega
 ·rw[aC,aI,List.length_nil];omega
theorem iI.fj{o:Option V}{u:Option Value}(r:iI o u):o.isSome=u.isSome:=by
 cases o with
 | none=>cases u with
  | none=>rfl
  | some _=>exact(show False from r).elim
 | some _=>cases u with
  | none=>exact(show False from r).elim
  | some _=>rfl
theorem iI.getD{o:Option V}{u:Option Value}{d:V}{d':Value}(r:iI o u)(rd:RelV d d'):RelV (o.getD d) (u.getD d'):=by
 cases o with
 | none=>cases u with
  | none=>exact rd
  | some _=>exact(show False from r).elim
 | some _=>cases u with
  | none=>exact(show False from r).elim
  | some _=>exact r
end
theorem Il{P:Program}{w:World}{k:Key}{u:Value}(r:RelV (kV k) u):(j9 P w).is k u=true:=by
 cases k with
 | inl i=>obtain⟨t,e⟩:=(show ∃t,u=Value.int i t from r);subst e;exact Nl P w i t
 | inr x=>obtain⟨t,e⟩:=(show ∃t,u=Value.str x t from r);subst e;exact Nk P w x t
def wY(i:Expr):Prop:=∀ov iv,subscripted i false ov iv=operate [ov,iv] (getItem ov iv)
theorem KP{prog:Program}{w:World}{A:Around}{E:Value->Shared->Prop}{s:Shared}{env:Env}{value slice:Expr}{pos:Pos}{T id:String}{Q:Value->Shared->Prop}
  (hl:typeLookup (.type T) "__getitem__"=pure (some (.builtin id))) (hs:wY slice)
  (h:wpAny (model prog w) A (eval value env) (fun o bZ=>wpAny (model prog w) A (eval slice env) (fun i fS=>fS.TypeIs o T/\wpAny (model prog w) A (getItem o i) Q E fS) E bZ) E s) :
  wpAny (model prog w) A (eval (.Subscript value slice pos) env) Q E s:=by
 refine Subscript_ (wpAny_mono h (fun o bZ fU=>wpAny_mono fU (fun i fS nk=>?_) fun _ _ x=>x) fun _ _ x=>x);obtain⟨hT,nk⟩:=nk;unfold subscriptTail;refine aa ?_;rw[getitemInPython_of_ne hT.not_modules];refine aa (wpAny_specialOf hT hl ?_);have fin:wpAny (model prog w) A (subscripted slice false o i) (fun r jJ=>wpAny (model prog w) A (letTemporaryGo value o r >>= fun _=>pure r) Q E jJ) E fS:=by
  rw[hs o i];exact wpAny_operating (wpAny_mono nk (fun r jJ oK=>aa (wpAny_letTemporaryGo (ah oK))) fun _ _ x=>x)
 first
  | exact ah (aa fin)
  | exact aa (ah (aa fin))
  | exact aa fin
structure M2 (X:Cx) (o:Expr) (m:Str) (apos:Pos) (e f:Expr) (de:Pos):Prop where
 base:attributeBase o m X.env (eval o X.env)=eval o X.env
 wz:((backTo de (starEach [e,f] X.env)).all (fun x=>!x.1)&&(backToKw de (keywordEach [] X.env)).all (fun x=>x.1.isSome)
  && decide (([e,f]:List Expr).length+([]:List Keyword).length+(if ([]:List Keyword).isEmpty then 0 else 1)<30))=true
 line:(apos.endLine==de.line)=true
 trees:backTo de (starEach [e,f] X.env)=[(false,eval e X.env),(false,eval f X.env)]
section
variable {X:Cx} {pins:List (Addr×Obj)} {σ:St} {H:Hp} {s:Shared} {a:Addr} {y v:V} {u r:Value} {o:Option V} {A:Around} {E:Value->Shared->Prop}
theorem Inv.big(I:Inv X pins σ H s):sysModules<s.heap.objs.size:=by
 have h:mainGlobals<s.heap.objs.size:=(I.mod.glob.keeps I.bk).lt;exact Nat.lt_trans (by decide) h
theorem Ez{h':Heap}{t':Nat}{ob:HO}(I:Inv X pins σ H s)(mu:wO (H a))(hs:Heap.SameBut a s.heap h')(he:∃q,h'.get? a=some q)(new:cH X.prog X.w (upd H a ob) h' a ob) :
  Inv X pins σ (upd H a ob) { s with heap:=h',toks:=t' }:=
 I.write (x:=a) (e:=a) mu (.inl rfl) (fun b q hb z=>(hs.2 b hb).trans z) he new
end
end L2
namespace PySem
open Sem (wp)
end PySem
namespace PySem
open Sem (wp)
end PySem
namespace PySem
open Sem (wp)
end PySem
namespace L2
open PySem PySem.Spec PyProof.Rows
noncomputable def tQ:D->Option Key
 | .int i=>some (.inl i)
 | .str x=>some (.inr x)
 | _=>none
noncomputable def wX:Key->D
 | .inl i=>.int i
 | .inr x=>.str x
theorem K6{K:PySem.W.Frag}{G:Hp}{v:V}{d:D}{k:Key}(r:Rep K G v d)(h:tQ d=some k):v=kV k:=by
 cases d<;>simp only[tQ,aG,reduceCtorEq] at h<;>subst h<;>simp only[Rep] at r<;>subst r<;>rfl
noncomputable def look(bL:List (Key×D))(k:Key):Option D:=(bL.find? fun kv=>decide (kv.1=k)).map (·.2)
section
variable {X:Cx} {pos:Pos} {e i':Expr} {te ti tv:TD}
def Rp(i:Nat)(ti:TD):TD:=fun ρ Q=>match gt ρ i with
 | .ov (.dc bL)=>ti ρ fun rk=>∃k d,tQ rk.val=some k/\look bL k=some d/\Q (.fz d)
 | _=>False
def pz(i:Nat):TX:=fun D ρ=>match gt ρ i with
 | .ov o=>D.rt (.ov o)
 | _=>False
theorem zQ(i:Nat){x:Str}{p':Pos}(hN:X.N[i]?=some x:=by rfl)(hv:jf X.env.scope x:=by first | exact Or.inl rfl | exact Or.inr (Or.inl rfl) | exact Or.inr (Or.inr rfl))(hd:(x==("__debug__":Str))=false:=by decide)
  (eB:(x==("__classdict__":Str))=false:=by decide):PX X (.Return (some (.Name x p')) pos) (pz i):=by
 refine⟨_,zG (j8 hN hv hd eB),fun ρ σ G0 H0 G H D E k h g=>?_⟩;unfold pz at h;split at h
 ·rename_i o hg;obtain⟨own,o1,o2⟩:=k.on;obtain⟨a,fp,b1,b2,b3,b4⟩:=o2 i _ hg;exact⟨_,b1,g.rt _ H (.ov o) G k.e ⟨a,fp,rfl,b2,b3,fun q hq=>⟨(b4 q hq).2.1,(b4 q hq).1⟩⟩ h⟩
 ·exact h.elim
end
end L2
namespace L2
open PySem PySem.Spec PyProof.Rows
section
variable {K:PySem.W.Frag} {G H:Hp}
theorem bR.length:∀{qs:List Addr} {cj:List (List D)},bR K G H qs cj->qs.length=cj.length
 | [],[],_=>rfl
 | q::qs,ds::cj,h=>by
  simp only[bR] at h;simp only[aI,bR.length h.2]
 | [],_::_,h=>by simp only[bR] at h
 | _::_,[],h=>by simp only[bR] at h
theorem bR.snoc{p:Addr}{ds:List D}{zs:List V}:∀{qs:List Addr} {cj:List (List D)},bR K G H qs cj->H p=some (.lst zs)->bJ K G zs ds->bR K G H (qs++[p]) (cj++[ds])
 | [],[],_,h1,h2=>by simp only[List.nil_append,bR];exact⟨⟨zs,h1,h2⟩,trivial⟩
 | q::qs,es::cj,h,h1,h2=>by
  simp only[bR] at h;simp only[List.cons_append,bR];exact⟨h.1,bR.snoc h.2 h1 h2⟩
 | [],_::_,h,_,_=>by simp only[bR] at h
 | _::_,[],h,_,_=>by simp only[bR] at h
theorem bR.get:∀{qs:List Addr} {cj:List (List D)} {j:Nat} {ds:List D},bR K G H qs cj->cj[j]?=some ds->∃q xs,qs[j]?=some q/\H q=some (.lst xs)/\bJ K G xs ds
 | [],[],j,ds,_,e=>by simp at e
 | q::qs,es::cj,0,ds,h,e=>by
  simp only[bR] at h;simp only[List.getElem?_cons_zero,aG] at e;subst e;obtain⟨⟨xs,h1,h2⟩,_⟩:=h;exact⟨q,xs,rfl,h1,h2⟩
 | q::qs,es::cj,j+1,ds,h,e=>by
  simp only[bR] at h;simp only[List.getElem?_cons_succ] at e ⊢;exact bR.get h.2 e
 | [],_::_,_,_,h,_=>by simp only[bR] at h
 | _::_,[],_,_,h,_=>by simp only[bR] at h
theorem bR.set{q:Addr}{ys:List V}{es:List D}(hy:bJ K G ys es):∀{qs:List Addr} {cj:List (List D)} {j:Nat},bR K G H qs cj->qs.Nodup->qs[j]?=some q->bR K G (upd H q (.lst ys)) qs (cj.set j es)
 | [],[],j,_,_,e=>by simp at e
 | r::qs,ds::cj,0,h,nd,e=>by
  simp only[bR] at h;simp only[List.getElem?_cons_zero,aG] at e;subst e;simp only[List.set_cons_zero,bR];refine⟨⟨ys,fq,hy⟩,h.2.mono (bT.refl _) fun p hp xs e=>?_⟩;rw[cK (fun z:p=r=>(aS.mp nd).1 (z▸hp))];exact e
 | r::qs,ds::cj,j+1,h,nd,e=>by
  simp only[bR] at h;simp only[List.getElem?_cons_succ] at e;simp only[List.set_cons_succ,bR];refine⟨?_,bR.set hy h.2 (aS.mp nd).2 e⟩;obtain⟨⟨xs,h1,h2⟩,_⟩:=h;refine⟨xs,?_,h2⟩;rw[cK (fun z:r=q=>(aS.mp nd).1 (z▸ax e))];exact h1
 | [],_::_,_,h,_,_=>by simp only[bR] at h
 | _::_,[],_,h,_,_=>by simp only[bR] at h
end
def pH(wi:iG)(m:List (Option Nat))(g:iq)(tc:gz)(te:TD):TD:=fun ρ Q=>wi ρ fun ds=>∃Iv:Nat->List (List D)->Prop,Iv 0 []/\
 (∀i d acc,ds[i]?=some d->Iv i acc->g d (eK m ρ) fun dX=>tc dX fun b=>if b=true then te dX fun r=>match r with
  | .ow es=>acc.length<sizeLine/\Iv (i+1) (acc++[es])
  | _=>False
  else Iv (i+1) acc)/\∀acc,Iv ds.length acc->Q (.ov (.ll acc))
section
variable {X:Cx} {elt iter tg:Expr} {ifs:List Expr} {scope:Scope} {pos:Pos} {N':List Str} {m:List (Option Nat)} {wi:iG} {g:iq} {tc:gz} {te:TD}
theorem Fj(cs:cw X N' m scope)(hk:nM m g){ww:TI}{gg:mG TG}{vm:mG TT}{tee:mG TE}
  (q1:∀(ρ:Ev) (σ:St) (G0 H0 G H:Hp) (Q:List D->Prop) (P:It->Hp->Prop),cF X.K G0 H0 ρ σ G H->wi ρ Q->(∀J H' ds G',Ext G H G' H'->mf X.K J G' ds->Q ds->P J H')->ww σ H P)
  (q2:∀s3 H3 ex (ρ:Ev) (σ:St) (G0 H0 G H:Hp) (d:D) (v:V) (Q:Ev->Prop) (P:St->Hp->Prop),cF X.K G0 H0 ρ σ G H->Rep X.K G v d->g d ρ Q->(∀ρ' cf G' H',cF X.K G0 H0 ρ' cf G' H'->Ext G H G' H'->Q ρ'->P cf H')->gg s3 H3 ex v σ H P)
  (q3:∀s3 H3 ex (ρ:Ev) (σ:St) (G0 H0 G H:Hp) (Q:Bool->Prop) (P:Bool->Hp->Prop),cF X.K G0 H0 ρ σ G H->tc ρ Q->(∀b H' G',Ext G H G' H'->Q b->P b H')->vm s3 H3 ex σ H P)
  (q4:∀s3 H3 ex,mH X.K te (tee s3 H3 ex)):mH X.K (pH wi m g tc te) (t7 ww m gg vm tee):=by
 refine fun ρ σ G0 H0 G H Q P E h k=>q1 ρ σ G0 H0 G H _ _ E h fun J H1 ds G1 x1 wk hq=>?_
 obtain⟨Iv,i0,turn,fin⟩:=hq;intro D hD s3 ex;have E1:=E.ext x1;have Cf:G1 D=none:=x1.s.free hD;have gG:∀{i:Nat} {es:List L2.D},gt (eK m ρ) i=.ow es->False:=fun{i es} h=>by
  unfold eK at h;rw[nN] at h;split at h
  ·rename_i o _;unfold nH at h;split at h
   ·cases h
   ·split at h<;>cases h
  ·cases h
 have m8:∀{i:Nat} {o:OV},gt (eK m ρ) i=.ov o->False:=fun{i o} h=>by
  unfold eK at h;rw[nN] at h;split at h
  ·rename_i o _;unfold nH at h;split at h
   ·cases h
   ·split at h<;>cases h
  ·cases h
 have start:cF X.K G1 H1 (eK m ρ) (kX m σ) G1 (upd H1 D (.lst [])):=by
  refine⟨.own x1.s hD,by simp[kX,eK],fun i d h=>?_,fun i es h=>(gG h).elim,fun i j es fs _ h=>(gG h).elim,fun _=>none,fun i es _ h=>(gG h).elim,fun i o h=>(m8 h).elim⟩;unfold eK at h;rw[nN] at h;split at h
  ·rename_i o ho;unfold nH at h;split at h
   ·cases h
   ·rename_i j;split at h
    ·rename_i d' we;cases h;obtain⟨v,hv,rv⟩:=E1.fz j d we;refine⟨v,?_,rv⟩;unfold kX;rw[ai,ho];simp[hv]
    ·cases h
  ·cases h
 refine⟨fun i n cf H'=>n=ds.length-i/\i<=ds.length/\∃acc fp G',cF X.K G1 H1 (eK m ρ) cf G' H'/\H' D=some (.lst (fp.map V.ref))/\G' D=none/\bR X.K G' H' fp acc/\(D::fp).Nodup/\(∀q∈fp,H1 q=none/\G' q=none)/\Iv i acc,
  ⟨ds.length,by simp,aU _,[],[],G1,start,fq,Cf,by simp only[bR],by simp,fun q hq=>(by cases hq),i0⟩,?_⟩
 rintro i n cf H' ⟨rfl,hi,acc,fp,G',E',hx,wb,rx,nd,fr,iv⟩;by_cases dz:i<ds.length
 ·obtain⟨w1,w2⟩:=wk;obtain⟨go,yl⟩:=w1 i ds[i] G' H' (ab dz) E'.e.g E'.e.s;refine .inr ⟨go,fun iw H2=>∃acc fp G',cF X.K G1 H1 (eK m ρ) iw G' H2/\H2 D=some (.lst (fp.map V.ref))/\G' D=none/\bR X.K G' H2 fp acc/\(D::fp).Nodup/\(∀q∈fp,H1 q=none/\G' q=none)/\Iv (i+1) acc,fun iw H2 h2=>⟨ds.length-(i+1),by omega,rfl,dz,h2⟩,fun v H2 hy=>?_⟩;obtain⟨G2,x2,rv⟩:=yl v H2 hy;refine q2 _ _ _ (eK m ρ) cf G1 H1 G2 H2 ds[i] v _ _ (E'.ext x2) rv (hk _ _ _ (turn i ds[i] acc (ab dz) iv)) fun n8 iX G3 H3 E3 x3 dm=>?_
  obtain⟨dm,BY,B3⟩:=dm;have weak:∀j,gt (eK m ρ) j=.un\/gt (eK m ρ) j=gt n8 j:=fun j=>by
   cases hm:m[j]? with
   | none=>left;unfold eK;rw[nN,hm]
   | some o=>
    cases o with
    | none=>left;unfold eK;rw[nN,hm];rfl
    | some c=>right;exact(B3 j c hm).symm
  have AY:=x2.trans x3;refine q3 _ _ _ n8 iX G1 H1 G3 H3 _ _ E3 dm fun b H4 G4 x4 oQ=>?_
  have i6:=AY.trans x4;have E4:=(E3.ext x4).weak (ρ':=eK m ρ) (BY.symm) weak;have qd:H4 D=some (.lst (fp.map V.ref)):=i6.h _ _ hx;have wa:G4 D=none:=i6.n D wb (by rw[hx];exact nofun);have r4:bR X.K G4 H4 fp acc:=rx.mono i6.g fun q _ zs e=>i6.h _ _ e
  have tE:∀q∈fp,H1 q=none/\G4 q=none:=fun q hq=>⟨(fr q hq).1,i6.n q (fr q hq).2 (rx.here q hq)⟩
  cases b with
  | false=>
   rw[if_neg aw] at oQ ⊢;exact⟨acc,fp,G4,E4,qd,wa,r4,nd,tE,oQ⟩
  | true=>
   rw[if_pos rfl] at oQ ⊢;refine q4 _ _ _ n8 iX G1 H1 G4 H4 _ _ (E3.ext x4) oQ fun v5 H5 r5 G5 x5 qP ip=>?_
   split at ip
   ·rename_i es;obtain⟨p,zs,rfl,c1,c2,c3,c4⟩:=qP;have E6:=E4.ext x5;have Bz:H5 D=some (.lst (fp.map V.ref)):=x5.h _ _ qd;have v8:G5 D=none:=x5.n D wa (by rw[qd];exact nofun);have GB:p≠D:=fun z=>by rw[z,qd] at c1;cases c1
    have BM:p∉fp:=fun z=>r4.here p z c1
    have QI:D∉fp:=fun z=>(aS.mp nd).1 z
    have r6:bR X.K G5 (upd H5 D (.lst ((fp++[p]).map V.ref))) (fp++[p]) (acc++[es]):=by
     refine bR.snoc (r4.mono x5.g fun q hq ys e=>?_) ?_ c4
     ·rw[cK (fun z:q=D=>QI (z▸hq))];exact x5.h _ _ e
     ·rw[cK GB];exact c3
    refine⟨fp.map V.ref,Bz,by rw[ae,r4.length];exact ip.1,acc++[es],fp++[p],G5,?_,by rw[show fp.map V.ref++[V.ref p]=(fp++[p]).map V.ref by simp];exact fq,v8,by rw[show fp.map V.ref++[V.ref p]=(fp++[p]).map V.ref by simp];exact r6,?_,fun q hq=>?_,ip.2⟩
    ·refine⟨⟨E6.e.g,fun b o e=>by rw[cK (i3 e hD)];exact E6.e.h b o e,fun b o e=>by rw[cK (i3 e v8)];exact E6.e.s b o e,E6.e.n⟩,E6.len,E6.fz,fun i es h=>(gG h).elim,fun i j es fs _ h=>(gG h).elim,fun _=>none,fun i es _ h=>(gG h).elim,fun i o h=>(m8 h).elim⟩
    ·rw[aS] at nd ⊢;refine⟨fun z=>?_,?_⟩
     ·rcases aD.mp z with z | z
      ·exact nd.1 z
      ·simp at z;exact GB z.symm
     ·rw[List.nodup_append];refine⟨nd.2,by simp,fun a ha b hb=>?_⟩;simp at hb;subst hb;exact fun z=>BM (z▸ha)
    ·rcases aD.mp hq with hq | hq
     ·exact⟨(tE q hq).1,x5.n q (tE q hq).2 (r4.here q hq)⟩
     ·simp at hq;subst hq;exact⟨E4.e.h.free c1,c2⟩
   ·exact ip.elim
 ·have e:i=ds.length:=by omega
  subst e;refine .inl ⟨wk.2 G' H' E'.e.g E'.e.s,k _ H' (.ov (.ll acc)) G' (x1.trans E'.e) ⟨D,fp,rfl,nd,⟨hx,rx⟩,fun q hq=>?_⟩ (fin acc iv)⟩;rcases ar.mp hq with rfl | hq
  ·exact⟨x1.h.free hD,wb⟩
  ·exact⟨x1.h.free (fr q hq).1,(fr q hq).2⟩
theorem Fi(hc:X.calm=true)(cs:cw X N' m scope)(hk:nM m g)(hi:PId X tg iter wi)(hg:∀s3 H3 ex,o8 (gy X N' scope s3 H3 ex) tg g)(ht:∀s3 H3 ex,tM (gy X N' scope s3 H3 ex) ifs tc)
  (he:∀s3 H3 ex,PD (gy X N' scope s3 H3 ex) elt te) (hs:∀x,foldedSetIterable iter X.env x=pure x:=by intro _;rfl):PD X (.ListComp elt [⟨tg,iter,ifs,0⟩] scope pos) (pH wi m g tc te):=by
 obtain⟨ww,p1,q1⟩:=hi;exact⟨_,Eu (g:=fun s3 H3 ex=>(hg s3 H3 ex).choose) (tc:=fun s3 H3 ex=>(ht s3 H3 ex).choose) (te:=fun s3 H3 ex=>(he s3 H3 ex).choose) hc cs p1 (fun s3 H3 ex=>(hg s3 H3 ex).choose_spec.1) (fun s3 H3 ex=>(ht s3 H3 ex).choose_spec.1) (fun s3 H3 ex=>(he s3 H3 ex).choose_spec.1) hs,
  Fj cs hk q1 (fun s3 H3 ex=>(hg s3 H3 ex).choose_spec.2) (fun s3 H3 ex=>(ht s3 H3 ex).choose_spec.2) (fun s3 H3 ex=>(he s3 H3 ex).choose_spec.2)⟩
theorem K5(i:Nat){x:Str}{pos' jO:Pos}(hc:X.calm=true)(cs:cw X N' m scope)(hk:nM m g)(hi:PId X tg iter wi)(hg:∀s3 H3 ex,o8 (gy X N' scope s3 H3 ex) tg g)(ht:∀s3 H3 ex,tM (gy X N' scope s3 H3 ex) ifs tc)
  (he:∀s3 H3 ex,PD (gy X N' scope s3 H3 ex) elt te) (hN:X.N.Nodup:=by assumption) (n0:X.N[i]?=some x:=by rfl) (hx:Loc X.env.scope x:=by first | exact Or.inl rfl | exact Or.inr rfl) (hs:∀x,foldedSetIterable iter X.env x=pure x:=by intro _;rfl)
  (vP:swapsWith (.ListComp elt [⟨tg,iter,ifs,0⟩] scope pos) (some (.Name x pos')) jO.line X.env=pure true:=by rfl)
  (hf:X.fn x=true\/X.env.scope.names.lookup x=some .local:=by first | exact .inl rfl | exact .inr rfl | assumption) :
  PX X (.Assign [.Name x pos'] (.ListComp elt [⟨tg,iter,ifs,0⟩] scope pos) jO) (jB i (pH wi m g tc te)):=by
 obtain⟨ww,p1,q1⟩:=hi;refine⟨_,Et (g:=fun s3 H3 ex=>(hg s3 H3 ex).choose) (tc:=fun s3 H3 ex=>(ht s3 H3 ex).choose) (te:=fun s3 H3 ex=>(he s3 H3 ex).choose) hN n0 hx hc cs p1 (fun s3 H3 ex=>(hg s3 H3 ex).choose_spec.1) (fun s3 H3 ex=>(ht s3 H3 ex).choose_spec.1) (fun s3 H3 ex=>(he s3 H3 ex).choose_spec.1) hs vP hf,fun ρ σ G0 H0 G H D E k h gg=>?_⟩;exact Fj cs hk q1 (fun s3 H3 ex=>(hg s3 H3 ex).choose_spec.2) (fun s3 H3 ex=>(ht s3 H3 ex).choose_spec.2) (fun s3 H3 ex=>(he s3 H3 ex).choose_spec.2) ρ σ G0 H0 G H _ _ k h fun v H' r G' x rr hq=>gg.nx _ _ G' H' x.g (k.put x rr) hq
end
end L2
namespace L2
open PySem PySem.Spec PyProof.Rows
end L2
namespace L2
open PySem PySem.Spec PyProof.Rows
section
variable {X:Cx} {pos:Pos} {e i':Expr} {te ti:TD}
noncomputable def pairsOf:List D->Option (List (Key×D))
 | []=>some []
 | .tup [k,v]::r=>match tQ k with
  | some key=>(pairsOf r).map ((key,v)::·)
  | none=>none
 | _=>none
def Rl(j i:Nat)(ti:TD):TX:=fun D ρ=>match gt ρ i with
 | .ow ds=>ti ρ fun rk=>match rk.val with
  | .int k=>∃n d,-(2 ^ 63)<=k/\k<2 ^ 63/\jR ds.length k=some n/\ds[n]?=some d/\D.nx ((ρ.set i (.ow (ds.eraseIdx n))).set j (.fz d))
  | _=>False
 | _=>False
def yZ(ta tb:TD):TD:=fun ρ Q=>ta ρ fun ra=>tb ρ fun rb=>match ra,rb.val with
 | .ow ds,.int k=>-(2 ^ 63)<=k/\k<2 ^ 63/\ds.length*k.toNat<=sizeLine/\Q (.ow (List.replicate k.toNat ds).flatten)
 | _,_=>False
theorem bJ.rep{K:PySem.W.Frag}{H:Hp}{vs:List V}{ds:List D}(h:bJ K H vs ds):∀k:Nat,bJ K H (List.replicate k vs).flatten (List.replicate k ds).flatten
 | 0=>bJ.nil
 | k+1=>by
  rw[List.replicate_succ,List.replicate_succ,List.flatten_cons,List.flatten_cons];exact h.append (bJ.rep h k)
theorem ID{a b:Expr}{ta tb:TD}(ha:PD X a ta)(hb:PD X b tb):PD X (.BinOp a .Mult b pos) (yZ ta tb):=by
 obtain⟨t1,p1,q1⟩:=ha;obtain⟨t2,p2,q2⟩:=hb;refine⟨_,Dt IQ p1 p2,fun ρ σ G0 H0 G H Q P E h k=>?_⟩;refine q1 ρ σ G0 H0 G H _ _ E h fun v H1 ra G1 x1 Bc lY=>?_
 refine q2 ρ σ G0 H0 G1 H1 _ _ (E.ext x1) lY fun u H2 rb G2 x2 vt gY=>?_
 obtain⟨G3,x3,jM,_⟩:=vt.freeze x2;split at gY
 ·rename_i ds kk e1;obtain⟨p,xs,rfl,c1,c2,c3,c4⟩:=Bc;rw[e1] at jM;simp only[Rep] at jM;have kP:=x1.trans x3;refine⟨p,kk,xs,rfl,jM,x3.h _ _ c3,gY.1,gY.2.1,by rw[c4.length];exact gY.2.2.1,fun l hl=>?_⟩;exact k _ _ (.ow _) G3 (kP.trans (.own kP.s hl)) ⟨l,_,rfl,kP.h.free hl,kP.s.free hl,fq,(c4.mono x3.g).rep kk.toNat⟩ gY.2.2.2
 ·exact gY.elim
end
end L2
namespace L2
open PySem PySem.Spec PyProof.Rows
section
variable {X:Cx} {tg:Expr}
theorem KO{K:PySem.W.Frag}{G:Hp}(k:Key):Rep K G (kV k) (wX k):=by
 cases k<;>simp only[wX,Rep]<;>rfl
end
end L2
namespace HT
open PySem PyProof.Rows
noncomputable def qc:List Int->List Int->Bool
 | [],[]=>false
 | [],_::_=>false
 | _::_,[]=>true
 | x::xs,y::ys=>if x=y then qc xs ys else decide (y<x)
end HT
namespace L2
open PySem PySem.Spec PyProof.Rows
def zb(prog:Program)(w:World)(A:Around)(op:CmpOp)(P:Nat->Value->Prop)(Hk:Heap->Prop)(bt:Nat->Nat->Bool):Prop:=
 ∀i j vi vj (z:Shared) (Q:Value->Shared->Prop) (E:Value->Shared->Prop),Hk z.heap->P i vi->P j vj->Q (.bool (bt i j)) z->wpAny (model prog w) A (richCompare op vi vj) Q E z
end L2
namespace HT
end HT
namespace L2
open PySem PySem.Spec PyProof.Rows
end L2
namespace L2
open PySem PySem.Spec PyProof.Rows
end L2
namespace L2
open PySem PySem.Spec PyProof.Rows
section
variable {X:Cx} {pos:Pos} {e:Expr} {te:TD}
theorem Ik{K:PySem.W.Frag}{G:Hp}{vs:List V}{a b c:D}(r:bJ K G vs [a,b,c]):∃x y z,vs=[x,y,z]/\Rep K G x a/\Rep K G y b/\Rep K G z c:=by
 match vs,r with
 | [x,y,z],r=>simp only[bJ] at r;exact⟨x,y,z,rfl,r.1,r.2.1,r.2.2.1⟩
 | [],r=>simp only[bJ] at r
 | [_],r=>simp only[bJ] at r;exact r.2.elim
 | [_,_],r=>simp only[bJ] at r;exact r.2.2.elim
 | _::_::_::_::_,r=>simp only[bJ] at r;exact r.2.2.2.elim
end
end L2
namespace Ts
open PySem PyProof.Rows
variable {M:Model} {A:Around} {E:Value->Shared->Prop} {s:Shared}
end Ts
namespace Ts
open PySem PyProof.Rows
variable {α:Type} (rk:α->Int)
variable {rk}
end Ts
namespace Ts
open PySem PyProof.Rows
variable {M:Model} {A:Around} {E:Value->Shared->Prop} {s:Shared}
def rO(rk:Keyed->Int)(l:List Keyed):Prop:=l.Pairwise fun x y=>rk x<=rk y
noncomputable abbrev dk:Keyed:=(Value.none,Value.none)
end Ts
namespace Ts
open PySem PyProof.Rows
end Ts
namespace Ts
open PySem PyProof.Rows
variable {M:Model} {A:Around} {E:Value->Shared->Prop} {s:Shared}
end Ts
namespace Ts
open PySem PyProof.Rows
variable {M:Model} {A:Around} {E:Value->Shared->Prop} {s:Shared}
end Ts
namespace Ts
open PySem PyProof.Rows
noncomputable def kr(rk:Keyed->Int)(xs:Array Keyed)(i:Nat):Int:=rk (xs.getD i dk)
variable {M:Model} {A:Around} {E:Value->Shared->Prop} {s:Shared}
end Ts
namespace Ts
open PySem PyProof.Rows
variable {M:Model} {A:Around} {E:Value->Shared->Prop} {s:Shared}
end Ts
namespace Ts
open PySem PyProof.Rows
variable {M:Model} {A:Around} {E:Value->Shared->Prop} {s:Shared}
end Ts
namespace Ts
open PySem PyProof.Rows
variable {M:Model} {A:Around} {E:Value->Shared->Prop} {s:Shared}
end Ts
namespace Ts
open PySem PySem.W PyProof.Rows
section
variable {n N:Nat} {r:Nat->Int} {cmp:Nat->Nat->(Bool->Shared->Prop)->Shared->Prop} {s:Shared} {p:Array Nat} {i j k m:Nat}
noncomputable def kp(r:Nat->Int)(p:Array Nat)(i:Nat):Int:=r (p.getD i 0)
def Pm(n:Nat)(p:Array Nat):Prop:=p.toList.Perm (List.range n)
def Up(r:Nat->Int)(p:Array Nat)(m:Nat):Prop:=∀i j,i<=j->j<m->kp r p i<=kp r p j
abbrev Dn(r:Nat->Int):Array Nat->Nat->Prop:=Up fun x=>-r x
abbrev Cm(n:Nat)(r:Nat->Int)(cmp:Nat->Nat->(Bool->Shared->Prop)->Shared->Prop)(s:Shared):Prop:=∀i j (C:Bool->Shared->Prop),i<n->j<n->C (decide (r i<r j)) s->cmp i j C s
theorem Pm.size(h:Pm n p):p.size=n:=by have:=h.length_eq;simpa using this
theorem Pm.lt(h:Pm n p)(hn:0<n)(i:Nat):p.getD i 0<n:=by
 by_cases hi:i<p.size
 ·have e:p.getD i 0=p[i]:=by simp[Array.getD,hi]
  rw[e];exact List.mem_range.mp (h.mem_iff.mp (by simp))
 ·have e:p.getD i 0=0:=by simp[Array.getD,hi]
  rw[e];exact hn
theorem Pm.to{q:Array Nat}(h:Pm n p)(k:q.Perm p):Pm n q:=(Array.perm_iff_toList_perm.mp k).trans h
theorem uJ{q:Array Nat}(h:p[i]?=q[j]?):kp r p i=kp r q j:=by
 unfold kp;rw[Array.getD_eq_getD_getElem?,Array.getD_eq_getD_getElem?,h]
theorem jw:kp (fun x=>-r x) p i=-kp r p i:=rfl
theorem Up.more(u:Up r p m)(h1:1<=m)(h:kp r p (m-1)<=kp r p m):Up r p (m+1):=fun i j l3 hj=>by
 by_cases e:j<m
 ·exact u i j l3 e
 ·obtain rfl:j=m:=by omega
  by_cases e2:i=j
  ·subst e2;exact Int.le_refl _
  ·exact Int.le_trans (u i (j-1) (by omega) (by omega)) h
theorem Up.same{q:Array Nat}(u:Up r p m)(h:∀i,kp r q i=kp r p i):Up r q m:=fun i j a b=>by rw[h,h];exact u i j a b
theorem zx(hj:j<=p.size)(k:Nat):kp r (kas_rev p i j) k=if i<=k/\k<j then kp r p (i+j-1-k) else kp r p k:=by
 have e:=getElem?_mirror_all (i:=i) hj k;by_cases h1:i<=k/\k<j
 ·rw[if_pos h1] at e ⊢;exact uJ e
 ·rw[if_neg h1] at e ⊢;exact uJ e
theorem zu(hj:j<=p.size)(heq:∀k,i<=k->k<j->kp r p k=kp r p (j-1))(k:Nat):kp r (kas_rev p i j) k=kp r p k:=by
 rw[zx hj];by_cases h:i<=k/\k<j
 ·rw[if_pos h,heq _ (by omega) (by omega),heq k h.1 h.2]
 ·rw[if_neg h]
theorem Up.turn(u:Dn r p m)(hm:m<=p.size):Up r (kas_rev p 0 m) m:=fun i j l3 hj=>by
 rw[zx hm,zx hm,if_pos ⟨aU _,by omega⟩,if_pos ⟨aU _,hj⟩];have:=u (0+m-1-j) (0+m-1-i) (by omega) (by omega);rw[jw,jw] at this;omega
theorem Pm.rev(h:Pm n p):Pm n (kas_rev p i j):=h.to (mirror_perm _ _ _ _)
theorem zt(hc:Cm n r cmp s)(hn:0<n)(hp:Pm n p){G:Nat->Shared->Prop}:∀k m,1<=m->m+k=N->Up r p m->(∀m',1<=m'->m'<=N->Up r p m'->(m'<N->kp r p m'<kp r p (m'-1))->G m' s)->(kas_asc p k m).kasWp cmp G s
 | 0,m,h1,e,u,g=>g m h1 (by omega) u (by omega)
 | k+1,m,h1,e,u,g=>by
  refine hc _ _ _ (hp.lt hn _) (hp.lt hn _) ?_;by_cases h:kp r p m<kp r p (m-1)
  ·rw[show decide (r (p.getD m 0)<r (p.getD (m-1) 0))=true from bA h];exact g m h1 (by omega) u fun _=>h
  ·rw[show decide (r (p.getD m 0)<r (p.getD (m-1) 0))=false from aF h];exact zt hc hn hp k (m+1) (by omega) (by omega) (u.more h1 (by omega)) g
theorem xF(hc:Cm n r cmp s)(hn:0<n)(hN:N<=n){G:Array Nat×Nat×Nat->Shared->Prop}(g:∀p m q,Pm n p->1<=m->m<=N->Dn r p m->q<m->(∀t,t<=q->kp r p (m-1-t)=kp r p (m-1))->G (p,m,q) s) :
  ∀k p m q,Pm n p->1<=m->m+k=N->Dn r p m->q<m->(∀t,t<=q->kp r p (m-1-t)=kp r p (m-1))->(kas_desc k p m q).kasWp cmp G s
 | 0,p,m,q,hp,h1,e,d,hq,eq=>g p m q hp h1 (by omega) d hq eq
 | k+1,p,m,q,hp,h1,e,d,hq,eq=>by
  have hsz:=hp.size;refine hc _ _ _ (hp.lt hn _) (hp.lt hn _) ?_;by_cases h:kp r p m<kp r p (m-1)
  ·rw[show decide (r (p.getD m 0)<r (p.getD (m-1) 0))=true from bA h];simp only[bE];by_cases c:q>0
   ·rw[if_pos c];have km:=zu (r:=r) (p:=p) (i:=m-(q+1)) (j:=m) (by omega) fun x a b=>by
     have:=eq (m-1-x) (by omega);rwa [show m-1-(m-1-x)=x by omega] at this
    refine xF hc hn hN g k _ (m+1) 0 hp.rev (by omega) (by omega) (Up.more (d.same fun x=>by rw[jw,jw,km]) h1 ?_) (by omega) fun t ht=>by rw[show t=0 by omega];rfl
    rw[jw,jw,km,km];omega
   ·rw[if_neg c];refine xF hc hn hN g k _ (m+1) 0 hp (by omega) (by omega) (Up.more d h1 ?_) (by omega) fun t ht=>by rw[show t=0 by omega];rfl
    rw[jw,jw];omega
  ·rw[show decide (r (p.getD m 0)<r (p.getD (m-1) 0))=false from aF h];simp only[aO,bp];refine hc _ _ _ (hp.lt hn _) (hp.lt hn _) ?_;by_cases h2:kp r p (m-1)<kp r p m
   ·rw[show decide (r (p.getD (m-1) 0)<r (p.getD m 0))=true from bA h2];exact g p m q hp h1 (by omega) d hq eq
   ·rw[show decide (r (p.getD (m-1) 0)<r (p.getD m 0))=false from aF h2];refine xF hc hn hN g k _ (m+1) (q+1) hp (by omega) (by omega) (Up.more d h1 ?_) (by omega) fun t ht=>?_
    ·rw[jw,jw];omega
    ·by_cases t0:t=0
     ·subst t0;rfl
     ·have:=eq (t-1) (by omega);rw[show m+1-1-t=m-1-(t-1) by omega,this,show m+1-1=m by omega];omega
section
variable {G:Nat×Array Nat->Shared->Prop} (g:∀m p,Pm n p->1<=m->m<=N->Up r p m->G (m,p) s)
include g
theorem Fh(hc:Cm n r cmp s)(hn:0<n)(hN:N<=n)(hp:Pm n p)(h1:1<=m)(hm:m<=N)(d:Dn r p m):(kas_tail3 m N p).kasWp cmp G s:=by
 unfold kas_tail3;rw[KasT.kasWp_bind];exact zt (N:=N) hc hn hp.rev (N-m) m h1 (by omega) (Up.turn d (by rw[hp.size];omega)) fun m' a b u _=>g m' _ hp.rev a b u
theorem F6(hc:Cm n r cmp s)(hn:0<n)(hN:N<=n)(hp:Pm n p)(hm:m+1<=N)(d:Dn r p (m+1)):(kas_descPart m N p).kasWp cmp G s:=by
 unfold kas_descPart;rw[KasT.kasWp_bind];refine xF hc hn hN (fun p m q hp h1 hm d hq eq=>?_) (N-(m+1)) p (m+1) 0 hp (by omega) (by omega) d (by omega) fun t ht=>by rw[show t=0 by omega];rfl
 have hsz:=hp.size;dsimp only;by_cases c:q>0
 ·rw[if_pos c];have km:=zu (r:=r) (p:=p) (i:=m-(q+1)) (j:=m) (by omega) fun x a b=>by
   have:=eq (m-1-x) (by omega);rwa [show m-1-(m-1-x)=x by omega] at this
  exact Fh g hc hn hN hp.rev h1 hm (d.same fun x=>by rw[jw,jw,km])
 ·rw[if_neg c];exact Fh g hc hn hN hp h1 hm d
theorem K4(hc:Cm n r cmp s)(hn:0<n)(hN:N<=n)(h1:1<=N)(hp:Pm n p):(kas_count N p).kasWp cmp G s:=by
 unfold kas_count;rw[KasT.kasWp_bind];refine zt (N:=N) hc hn hp (N-1) 1 (ay _) (by omega) (fun i j a b=>by rw[show i=j by omega];exact Int.le_refl _) fun m a b u hd=>?_
 by_cases e:m=N
 ·rw[if_pos (by simpa using e)];exact g m p hp a b u
 rw[if_neg (by simpa using e)];have RN:=hd (by omega);have hsz:=hp.size;by_cases c:m>1
 ·rw[if_pos c];refine hc _ _ _ (hp.lt hn _) (hp.lt hn _) ?_;by_cases h:kp r p 0<kp r p (m-1)
  ·rw[show decide (r (p.getD 0 0)<r (p.getD (m-1) 0))=true from bA h];exact g m p hp a b u
  ·rw[show decide (r (p.getD 0 0)<r (p.getD (m-1) 0))=false from aF h];have same:∀x,0<=x->x<m->kp r p x=kp r p (m-1):=fun x _ hx=>by
    have:=u 0 x (aU _) hx;have:=u x (m-1) (by omega) (by omega);omega
   have km:=zu (r:=r) (p:=p) (i:=0) (j:=m) (by omega) same;refine F6 g hc hn hN hp.rev (by omega) (Up.more (fun i j l3 hj=>?_) a ?_)
   ·rw[jw,jw,km,km,same i (aU _) (by omega),same j (aU _) hj];exact Int.le_refl _
   ·rw[jw,jw,km,km];omega
 ·rw[if_neg c];obtain rfl:m=1:=by omega
  refine F6 g hc hn hN hp (by omega) (Up.more (fun i j l3 hj=>by rw[show i=j by omega];exact Int.le_refl _) (ay _) ?_);rw[jw,jw];omega
end
theorem zU(hc:Cm n r cmp s)(hn:0<n)(hp:Pm n p)(u:Up r p k){G:Nat->Shared->Prop}(g:∀l,l<=k->(∀i,i<l->kp r p i<=kp r p k)->(∀i,l<=i->i<k->kp r p k<kp r p i)->G l s) :
  ∀f l h,l<=h->h<=k->h-l<=f->(∀i,i<l->kp r p i<=kp r p k)->(∀i,h<=i->i<k->kp r p k<kp r p i)->(kas_place p k f l h).kasWp cmp G s
 | 0,l,h,a,b,c,lo,hi=>g l (by omega) lo fun i x y=>hi i (by omega) y
 | f+1,l,h,a,b,c,lo,hi=>by
  unfold kas_place;by_cases e:l>=h
  ·rw[if_pos e];exact g l (by omega) lo fun i x y=>hi i (by omega) y
  ·rw[if_neg e];refine hc _ _ _ (hp.lt hn _) (hp.lt hn _) ?_;by_cases q:kp r p k<kp r p ((l+h)/2)
   ·rw[show decide (r (p.getD k 0)<r (p.getD ((l+h)/2) 0))=true from bA q];exact zU hc hn hp u g f l _ (by omega) (by omega) (by omega) lo fun i x y=>Int.lt_of_lt_of_le q (u _ i x y)
   ·rw[show decide (r (p.getD k 0)<r (p.getD ((l+h)/2) 0))=false from aF q];exact zU hc hn hp u g f _ h (by omega) b (by omega) (fun i x=>Int.le_trans (u i _ (by omega) (by omega)) (Int.not_lt.mp q)) hi
theorem DJ(hc:Cm n r cmp s)(hn:0<n){G:Array Nat->Shared->Prop}(g:∀p,Pm n p->Up r p n->G p s):∀f p k,Pm n p->k+f=n->Up r p k->(kas_bin f p k).kasWp cmp G s
 | 0,p,k,hp,e,u=>g p hp (by rwa [show n=k by omega])
 | f+1,p,k,hp,e,u=>by
  unfold kas_bin;rw[KasT.kasWp_bind];refine zU hc hn hp u (fun l hl lo hi=>?_) k 0 k (aU _) (ay _) (by omega) (fun i h=>by omega) fun i h h'=>by omega
  have hb:∀i,kp r (bubble p k (k-l)) i=if i=l then kp r p k else if l<i/\i<=k then kp r p (i-1) else kp r p i:=fun i=>by
   have e:=getElem?_bubble (xs:=p) (src:=k) (by rw[hp.size];omega) (k-l) (by omega) i;rw[show k-(k-l)=l by omega] at e;by_cases c1:i=l
   ·rw[if_pos c1] at e ⊢;exact uJ e
   ·rw[if_neg c1] at e ⊢;by_cases c2:l<i/\i<=k
    ·rw[if_pos c2] at e ⊢;exact uJ e
    ·rw[if_neg c2] at e ⊢;exact uJ e
  refine DJ hc hn g f _ (k+1) (hp.to (bubble_perm _ _ _)) (by omega) fun i j l3 hj=>?_
  rw[hb,hb];by_cases c1:i=l
  ·rw[if_pos c1];by_cases c2:j=l
   ·rw[if_pos c2];exact Int.le_refl _
   ·rw[if_neg c2,if_pos (by omega)];exact Int.le_of_lt (hi _ (by omega) (by omega))
  ·rw[if_neg c1];by_cases c3:l<i/\i<=k
   ·rw[if_pos c3,if_neg (by omega),if_pos (by omega)];exact u _ _ (by omega) (by omega)
   ·rw[if_neg c3];by_cases c2:j=l
    ·rw[if_pos c2];exact lo i (by omega)
    ·rw[if_neg c2];by_cases c4:l<j/\j<=k
     ·rw[if_pos c4];exact u _ _ (by omega) (by omega)
     ·rw[if_neg c4];exact u _ _ l3 (by omega)
theorem KN(hc:Cm n r cmp s)(hn:0<n){G:Array Nat->Shared->Prop}(g:∀p,Pm n p->Up r p n->G p s):(kas_sort n).kasWp cmp G s:=by
 unfold kas_sort;rw[KasT.kasWp_bind];refine K4 (fun m p hp a b u=>?_) hc hn (ay n) hn (show Pm n _ by unfold Pm;simp);dsimp only;by_cases e:m<n
 ·rw[if_pos e,show max m 1=m by omega];exact DJ hc hn g _ p m hp (by omega) u
 ·rw[if_neg e];exact g p hp (by rwa [show n=m by omega])
end
end Ts
namespace Ts
open PySem PyProof.Rows
section
variable {prog:Program} {w:World} {A:Around} {E:Value->Shared->Prop} {s:Shared}
structure Ky (prog:Program) (w:World) (A:Around) (s:Shared) (κ:SortKind) (ok:Keyed->Prop) (rk:Keyed->Int):Prop where
 key:∀x y (C:Bool->Shared->Prop),ok x->ok y->C (decide (rk x<rk y)) s->wpAny (model prog w) A (keyLt' κ x.1 y.1) C (fun _ _=>False) s
def zq(n:Nat):Prop:=∀{prog:Program} {w:World} {A:Around} {E:Value->Shared->Prop} {s:Shared} {κ:SortKind} {rk:Keyed->Int} {it:Array Keyed} (R:Ky prog w A s κ (fun x=>x∈it) rk) {Q:Unit->SortSt->Prop},it.size=n->
 (∀dZ,(arrOf dZ).toList.Perm it.toList->rO rk (arrOf dZ).toList->failedOf dZ=none->Q () dZ)->wpS (model prog w) A E s sortRuns' Q (SortSt.mk' κ it #[] 7 none)
structure Ask (prog:Program) (w:World) (A:Around) (E:Value->Shared->Prop) (vs:List Value) (rk:Keyed->Int) (s:Shared):Prop where
 ask:2<=vs.length->∃κ,(∀Q':SortKind->Shared->Prop,Q' κ s->wpAny (model prog w) A (keyKind' vs.toArray) Q' E s)/\Ky prog w A s κ (fun x=>x∈pairsOf vs) rk
theorem Ml{rk:Keyed->Int}{l:List Keyed}(h:l.length<2):rO rk l:=by
 cases l with
 | nil=>exact .nil
 | cons a r=>
  cases r with
  | nil=>exact List.pairwise_singleton _ _
  | cons b t=>
   simp only[aI] at h;omega
theorem Nv{a:Addr}{vs:List Value}{n:Nat}{P:Fin->Shared->Prop}{rk:Keyed->Int}(ho:s.heap.get? a=some (seqObj "list" vs.toArray n))(hl:vs.length<=sizeLine)(hr:2<=vs.length->zq vs.length)
  (R:∀h',(∀b o,b≠a->s.heap.get? b=some o->h'.get? b=some o)->Ask prog w A E vs rk { s with heap:=h' })
  (h:∀dZ:SortSt,(arrOf dZ).toList.Perm (pairsOf vs).toList->rO rk (arrOf dZ).toList->P (.done (.ret .none)) { s with heap:=sortedHeap s.heap a vs ((arrOf dZ).map (·.2)) }) :
  wpAny (model prog w) A (Builtin.«list.sort» ⟨[.ref a],[]⟩) P E s:=by
 rw[list_sort_plain];have ha:a<s.heap.objs.size:=aB ho;refine aa (listItems_at ho rfl ?_);refine aa (listUpdate_at ho rfl ?_ (by simpa using hl) (aU _));obtain⟨e1,GD⟩:∃e1,(s.heap.update a (Obj.mapSeq fun _=>#[])).get? a=some (seqObj "list" #[] e1):=⟨_,get?_update_seq ho (fun _=>#[])⟩
 refine aa (seqEpoch_at GD rfl ?_);refine aa (wpAny_newTuple ?_ (by show vs.length<=_;exact hl));refine aa (wpAny_newList ?_ (aU _));refine br ?_;have yA:(((s.heap.update a (Obj.mapSeq fun _=>#[])).push (seqObj "tuple" vs.toArray 0)).push (seqObj "list" #[] 0)).get? a=some (seqObj "list" #[] e1):=by
  rw[Heap.get?_push_ne _ _ _ (by rw[size_push',Heap.size_update];exact aP (Nat.lt_succ_of_lt ha)),Heap.get?_push_ne _ _ _ (by rw[Heap.size_update];exact aP ha)];exact GD
 have ak:=R (((s.heap.update a (Obj.mapSeq fun _=>#[])).push (seqObj "tuple" vs.toArray 0)).push (seqObj "list" #[] 0)) (fun b o hb e=>aj _ (aj _ ((bF _ _ (Ne.symm hb)).trans e)));show wpAny (model prog w) A _ P E { s with heap:=((s.heap.update a (Obj.mapSeq fun _=>#[])).push (seqObj "tuple" vs.toArray 0)).push (seqObj "list" #[] 0) };dsimp only;have hsz:vs.toArray.size=vs.length:=by simp
 have fin:=h;by_cases h2:vs.toArray.size<2
 ·rw[if_pos h2,if_pos h2];refine aa (ah ?_);rw[StateT.run_pure];refine aa (ah ?_);dsimp only;refine aa (seqEpoch_at yA rfl ?_);refine aa (listUpdate_at yA rfl ?_ (aU _) (by rw[Array.size_map];show(pairsOf vs).size<=_;rw[pairsOf_size];exact Nat.le_succ_of_le hl));simp only[bne_self_eq_false,aO,bp];refine ah (fin (SortSt.mk' general' (vs.toArray.zip vs.toArray) #[] 7 none) (List.Perm.refl _) ?_);show rO rk (pairsOf vs).toList;exact Ml (by rw[aM,pairsOf_size];omega)
 ·rw[if_neg h2,if_neg h2];obtain⟨κ,ka,kr⟩:=ak.ask (by omega);refine aa (ka _ ?_)
  refine aa (wpAny_mono (hr (by omega) kr
   (Q:=fun _ dZ=>(arrOf dZ).toList.Perm (pairsOf vs).toList/\rO rk (arrOf dZ).toList/\failedOf dZ=none) (pairsOf_size vs) fun dZ a1 a2 a3=>⟨a1,a2,a3⟩) ?_ fun _ _ e=>e)
  rintro⟨⟨⟩,dZ⟩ s' ⟨rfl,hp,hs,hf⟩;dsimp only;refine aa (seqEpoch_at yA rfl ?_)
  refine aa (listUpdate_at yA rfl ?_ (aU _) (by
   rw[Array.size_map,<-aM,hp.length_eq,aM,pairsOf_size];exact Nat.le_succ_of_le hl))
  rw[hf];simp only[bne_self_eq_false,aO,bp];exact ah (fin dZ hp hs)
theorem mX{l:Addr}{vs:List Value}{Q:Value->Shared->Prop}{rk:Keyed->Int}(hl:s.heap.IsList l vs.toArray)(hz:vs.length<=sizeLine)(hr:2<=vs.length->zq vs.length)
  (R:∀h',(∀b o,s.heap.get? b=some o->h'.get? b=some o)->Ask prog w A.in1.in1 E vs rk { s with heap:=h' })
  (h:∀dZ:SortSt,(arrOf dZ).toList.Perm (pairsOf vs).toList->rO rk (arrOf dZ).toList->Q (.ref (s.heap.objs.size+1)) { s with heap:=sortedAll s.heap vs ((arrOf dZ).map (·.2)) }) :
  wpAny (model prog w) A (call (.builtin "sorted") [.ref l]) Q E s:=by
 refine Calls.call_function_entry kind_sorted plain_sorted entry_sorted (args_sorted1 _) ?_;unfold Builtin.«sorted»;refine aa (m:=checkCount "sorted" 1 1 _) (ah ?_);refine aa (collect_list hl ?_ hz);refine aa (wpAny_newList ?_ hz);have hsz:((s.heap.push (seqObj "list" #[] 0)).update s.heap.objs.size (Obj.mapSeq (·++vs.toArray))).objs.size=s.heap.objs.size+1:=by
  rw[Heap.size_update,size_push']
 have yz:(((s.heap.push (seqObj "list" #[] 0)).update s.heap.objs.size (Obj.mapSeq (·++vs.toArray))).push (seqObj "list" vs.toArray 0)).get? (s.heap.objs.size+1)=some (seqObj "list" vs.toArray 0):=by
  rw[<-hsz];exact az _ rfl
 have keep:∀b o,s.heap.get? b=some o->(((s.heap.push (seqObj "list" #[] 0)).update s.heap.objs.size (Obj.mapSeq (·++vs.toArray))).push (seqObj "list" vs.toArray 0)).get? b=some o:=fun b o q=>by
  have dz:b<s.heap.objs.size:=aB q;rw[Heap.get?_push_ne _ _ _ (by rw[hsz];exact aP (Nat.lt_succ_of_lt dz)),Heap.get?_update_ne _ _ _ _ (aP dz),Heap.get?_push_ne _ _ _ (aP dz)];exact q
 show wpAny _ _ _ _ _ { s with heap:=((s.heap.push (seqObj "list" #[] 0)).update s.heap.objs.size (Obj.mapSeq (·++vs.toArray))).push (seqObj "list" vs.toArray 0) };rw[hsz];refine aa (br (wpAny_call_entry slot_list_sort ⟨_,yz,rfl⟩ entry_list_sort (Nv (rk:=rk) yz hz hr (fun h' k=>R h' fun b o e=>k b o (aP (Nat.lt_succ_of_lt (aB e))) (keep b o e)) fun dZ a1 a2=>⟨_,rfl,?_⟩) (args_list_sort _)));exact ah ⟨_,rfl,h dZ a1 a2⟩
end
end Ts
namespace HT
end HT
namespace Ts
open PySem PySem.W PyProof.Rows
section
variable {prog:Program} {w:World} {A:Around} {E:Value->Shared->Prop} {s:Shared} {fin:Bool} {Q:Bool->Shared->Prop}
noncomputable def yY(h:Heap)(v:Value):List Int:=match v with
 | .ref a=>match h.get? a with
  | some o=>match o.data with
   | .seq xs _=>numsOf xs.toList
   | _=>[]
  | none=>[]
 | _=>[]
def Ij(h:Heap)(v:Value):Prop:=∃a o xs n,v=.ref a/\h.get? a=some o/\o.cls=.type "tuple"/\o.data=.seq xs n/\IntsAre xs.toList (yY h v)/\yY h v≠[]
theorem Mj{h h':Heap}(k:∀b o,h.get? b=some o->h'.get? b=some o):∀{its:List Value},(∀v∈its,Ij h v)->∃fs,KatTups h' its fs/\fs.length=its.length/\∀v∈fs,∃n t,v=Value.int n t
 | [],_=>⟨[],.nil,rfl,fun v hv=>by cases hv⟩
 | v::r,hv=>by
  obtain⟨fs,h1,h2,h3⟩:=Mj k (its:=r) fun x hx=>hv x (au _ hx)
  obtain⟨a,o,xs,n,rfl,ho,hc,hd,hi,du⟩:=hv v aH;generalize yY h (.ref a)=t at hi du;generalize hx:xs.toList=l at hi;cases hi with
  | nil=>exact absurd rfl du
  | cons m u hr=>
   have h0:xs[0]?=some (.int m u):=by rw[<-Array.getElem?_toList,hx];rfl
   exact⟨.int m u::fs,KatTups.cons (k _ _ ho) hc hd h0 h1,by simp[h2],fun x hx=>by
    rcases ar.mp hx with rfl | hx
    ·exact⟨_,_,rfl⟩
    ·exact h3 x hx⟩
end
end Ts
namespace Ts
open PySem PySem.W PyProof.Rows
theorem oE{n:Nat}(h1:2<=n)(yI:n<64):zq n:=by
 intro prog w A E s κ rk it R Q hn q;have mem:∀i,i<n->kas_item it i∈it:=fun i hi=>by
  have e:kas_item it i=it[i]:=by unfold kas_item;simp[Array.getD,hn,hi]
  rw[e];exact Array.getElem_mem _
 have hit:(List.toArray (List.range n)).map (kas_item it)=it:=by rw[<-hn];exact kas_range it
 have hl:(List.range n).map (kas_item it)=it.toList:=by
  have:=congrArg Array.toList hit;simpa using this
 have:=kas_runs (prog:=prog) (w:=w) (A:=A) (E:=E) (κ:=κ) (it:=it) (Q:=fun u st s'=>s'=s/\Q u st) (G:=fun p s'=>s'=s/\Pm n p/\Up (fun i=>rk (kas_item it i)) p n) (s:=s) h1 yI (fun p st s' hz ha hf ⟨e,hp,hu⟩=>⟨e,?_⟩)
  (KN (r:=fun i=>rk (kas_item it i)) (fun i j C hi hj hC=>R.key _ _ C (mem i hi) (mem j hj) hC) (by omega) fun p hp hu=>⟨rfl,hp,hu⟩)
 ·unfold kas_st at this;rw[hit] at this;exact this
 ·refine q st ?_ ?_ hf
  ·rw[ha,Array.toList_map,<-hl];exact hp.map _
  ·rw[ha,Array.toList_map];refine List.pairwise_iff_getElem.mpr fun i j hi hj l3=>?_
   have oW:i<p.size:=by simpa using hi
   have yE:j<p.size:=by simpa using hj
   have:=hu i j (by omega) (by omega);unfold kp at this;simp only[Array.getD,oW,yE,dif_pos] at this;simpa using this
end Ts
namespace L2
open PySem PySem.Spec PyProof.Rows
theorem Fx{α β:Type}{f:α->β}{a b:List β}(h:a.Perm b):∀{L:List α},b=L.map f->∃L':List α,L'.Perm L/\a=L'.map f:=by
 induction h with
 | nil=>intro L e;exact⟨[],by rw[show L=[] from by simpa using e.symm],rfl⟩
 | cons x h ih=>
  intro L e;cases L with
  | nil=>cases e
  | cons y L=>
   rw[ao] at e;injection e with e1 e2
   obtain⟨L',h1,h2⟩:=ih e2;exact⟨y::L',h1.cons y,by rw[ao,e1,h2]⟩
 | swap x y l=>
  intro L e;match L,e with
  | [],e=>cases e
  | [_],e=>cases e
  | u::v::L,e=>
   simp only[ao,List.cons.injEq] at e;exact⟨v::u::L,List.Perm.swap u v L,by simp[e]⟩
 | trans h1 h2 PH PF=>
  intro L e;obtain⟨L2,a1,a2⟩:=PF e;obtain⟨L3,b1,b2⟩:=PH a2;exact⟨L3,b1.trans a1,b2⟩
section
variable {X:Cx} {pos:Pos} {e:Expr} {te:TD}
theorem Ey{α:Type}{f:α->V}{g:α->Value}:∀{L:List α},(∀q∈L,RelV (f q) (g q))->Vals (L.map f) (L.map g)
 | [],_=>.nil
 | q::L,h=>.cons (h q aH) (Ey fun x hx=>h x (au _ hx))
theorem Ex{α:Type}{K:PySem.W.Frag}{G:Hp}{f:α->V}{g:α->D}:∀{L:List α},(∀q∈L,Rep K G (f q) (g q))->bJ K G (L.map f) (L.map g)
 | [],_=>bJ.nil
 | q::L,h=>bJ.cons (h q aH) (Ex fun x hx=>h x (au _ hx))
end
end L2
namespace L2
open PySem PySem.Spec PyProof.Rows
end L2
namespace L2
open PySem PySem.Spec PyProof.Rows
end L2
namespace L2
open PySem PySem.Spec PyProof.Rows
theorem Av{P:Program}{w:World}:∀{ks:List Key} {us:List Value},Vals (ks.map kV) us->ItemsAre (j9 P w) ks us
 | [],_,r=>by rw[bG] at r;cases r;exact .nil
 | k::ks,_,r=>by
  rw[ao] at r;cases r with
  | cons h t=>exact .cons (Il h) (Av t)
abbrev KT(H:Hp):List (List Key×V)->List (List Key×Addr×Value)->Prop:=Paired fun p q=>p.1=q.1/\H q.2.1=some (.tup (p.1.map kV))/\RelV p.2 q.2.2
theorem KT.val{H:Hp}{bL:List (List Key×V)}{xs:List (List Key×Addr×Value)}(r:KT H bL xs)(k:List Key):iI (gq bL k) ((atKey xs k).map (·.2)):=by
 induction r with
 | nil=>exact True.intro
 | @cons p q ps qs h t ih=>
  obtain⟨h1,_,h2⟩:=h;by_cases e:p.1=k
  ·have e':q.1=k:=h1.symm.trans e;have b:atKey (q::qs) k=some q.2:=by simp[atKey,bC,e']
   rw[Fm e,b];exact h2
  ·have e':¬q.1=k:=fun z=>e (h1.trans z)
   have b:atKey (q::qs) k=atKey qs k:=by simp[atKey,bC,e']
   rw[Fl e,b];exact ih
theorem KT.kl{H:Hp}{bL:List (List Key×V)}{xs:List (List Key×Addr×Value)}(r:KT H bL xs)(k:List Key){y:V}{u:Value}(ry:RelV y u) :
  KT H (bL.map fun kv=>if kv.1=k then(kv.1,y) else kv) (xs.map (putAt k u)):=by
 induction r with
 | nil=>exact .nil
 | @cons p q ps qs h t ih=>
  rw[ao,ao];refine .cons ?_ ih;obtain⟨h1,h2,h3⟩:=h;unfold putAt;by_cases e:p.1=k
  ·rw[if_pos e,if_pos (h1.symm.trans e)];exact⟨h1,h2,ry⟩
  ·rw[if_neg e,if_neg (fun z=>e (h1.trans z))];exact⟨h1,h2,h3⟩
theorem KT.put{H:Hp}{bL:List (List Key×V)}{xs:List (List Key×Addr×Value)}(r:KT H bL xs)(k:List Key){b:Addr}{y:V}{u:Value}(hb:H b=some (.tup (k.map kV)))(ry:RelV y u) :
  KT H (oh bL k y) (storedH xs k b u):=by
 have e:(bL.any fun kv=>decide (kv.1=k))=(atKey xs k).isSome:=by
  rw[zV,(r.val k).fj,Option.isSome_map]
 unfold oh storedH;rw[e];by_cases q:(atKey xs k).isSome=true
 ·rw[if_pos q,if_pos q];exact r.kl k ry
 ·rw[if_neg q,if_neg q];exact Paired.snoc r ⟨rfl,hb,ry⟩
theorem KT.keeps{H H':Hp}{bL:List (List Key×V)}{xs:List (List Key×Addr×Value)}(r:KT H bL xs)(ht:∀b ys,H b=some (.tup ys)->H' b=some (.tup ys)):KT H' bL xs:=
 Paired.qU r fun _ _ z=>⟨z.1,ht _ _ z.2.1,z.2.2⟩
section
variable {P:Program} {w:World} {H:Hp} {h:Heap} {a:Addr}
theorem Dl{u:HO}(ok:gL P w H h)(e:Rd H a u):cH P w H h a u:=e.ok ok
theorem sr{ks:List Key}(ok:gL P w H h)(e:H a=some (.tup (ks.map kV))):(tupleKind (j9 P w)).is h ks a:=by
 obtain⟨_,its,r,o,h1,h2,n,h3⟩:=(show cH P w H h a (.tup (ks.map kV)) from ok a _ e)
 exact⟨o,its.toArray,n,h1,h2,h3,by simpa using Av r⟩
end
end L2
namespace PySem
open Sem (wp)
section
variable {prog:Program} {w:World} {K:Type} [DecidableEq K] {knd:HeapKind prog w K} {A:Around} {E:Value->Shared->Prop} {s:Shared}
theorem OD{d a:Addr}{xs:List (K×Addr×Value)}{k:K}{dflt:Value}{Q:Value->Shared->Prop}(hu:knd.room A)(kC:knd.is s.heap k a)(hm:s.heap.DictOfH knd d xs)
  (there:∀p,atKey xs k=some p->Q p.2 { s with toks:=s.toks+knd.draws k })
  (new:atKey xs k=none->∀h',h'.DictOfH knd d (storedH xs k a dflt)->Heap.SameBut d s.heap h'->Q dflt { s with heap:=h',toks:=s.toks+knd.draws k })
  (hsz:xs.length<=sizeLine):wpAny (model prog w) A (dictSetDefault d (.ref a) dflt) Q E s:=by
 obtain⟨o,es,ep,ho,hc,hd,he,B4,hn⟩:=hm;unfold dictSetDefault;try with_reducible refine br ?_
 refine aa (knd.pyHash hu kC (aa (wpAny_dictFind_heap (s:={ s with toks:=s.toks+knd.draws k }) hu kC ho hd he B4 hn (fun rj=>?_) fun j p hj=>?_)))
 ·have e:=atKey_none_of_get rj;have nw:=new e;rw[storedH_new e] at nw;have BQ:k∉xs.map (·.1):=not_mem_keys_of_get rj;have bW:es.size<=sizeLine:=by have:=size_of_entries he;omega
  refine aa (wpAny_rule (aa (wpAny_updateDictKeys (hz:=bW) (s:={ s with toks:=s.toks+knd.draws k }) ho hd (ah (nw _ ⟨_,_,ep+1,Heap.get?_update_self _ ho (Obj.isFreed_of_dict (Obj.data_mapDictKeys hd _)),
   hc.mapDictKeys _,Obj.data_mapDictKeys hd _,by simp[he,entryOfKey],fun x hx=>?_,?_⟩ (Heap.SameBut.update ..))))))
  ·have keep:∀{k':K} {a':Addr},knd.is s.heap k' a'->knd.is (s.heap.update d (Obj.mapDictKeys fun es=>es.push ⟨knd.hash k,.ref a,dflt⟩)) k' a':=fun h=>knd.keeps h ho hd (Heap.SameBut.update ..)
   rcases aD.mp hx with hx | hx
   ·exact keep (B4 x hx)
   ·rw[aV.mp hx];exact keep kC
  ·rw[aA,List.nodup_append];exact⟨hn,by simp,fun x hx y hy z=>BQ (by rw[List.map_singleton,aV] at hy;rw[<-show x=k from z.trans hy];exact hx)⟩
 ·refine aa (wpAny_dictEntries (s:={ s with toks:=s.toks+knd.draws k }) ho hd ?_);rw[entry_at he j,hj];exact aa (wpAny_rule (ah (there p (atKey_of_get hn hj))))
theorem OE{d a:Addr}(hd:(d==sysModules)=false)(dflt:Value) :
  MeetsIn prog w (Builtin.«dict.setdefault» ⟨[.ref d,.ref a,dflt],[]⟩) (fun A R s=>∃k xs,knd.room A.in1/\knd.is s.heap k a/\s.heap.DictOfH knd d xs/\xs.length<=sizeLine/\
   (∀p,atKey xs k=some p->R (.ok (.ret p.2)) { s with toks:=s.toks+knd.draws k })/\
   (atKey xs k=none->∀h',h'.DictOfH knd d (storedH xs k a dflt)->Heap.SameBut d s.heap h'->R (.ok (.ret dflt)) { s with heap:=h',toks:=s.toks+knd.draws k })):=
 .of_wp fun A R s ⟨k,xs,hu,hk,hm,hz,h1,h2⟩=>by
  unfold Builtin.«dict.setdefault»;refine aa ?_;unfold Builtin.Dict.keyAndDefault;refine aa (wpAny_notOrdered_dict hm.typeIs ?_);show wpAny _ _ (pure (d,Value.ref a,some dflt)) _ _ s;refine ah ?_;show wpAny _ _ (if (d==sysModules)=true then _ else(dictSetDefault d (.ref a) dflt >>= _)) _ _ s;rw[if_neg (by rw[hd];exact aw)];exact aa (OD hu hk hm (fun p hp=>ah ⟨p.2,rfl,h1 p hp⟩) (fun hn h' Qh oP=>ah ⟨dflt,rfl,h2 hn h' Qh oP⟩) hz)
end
end PySem
namespace PySem
open Sem (wp)
def eS(h:Heap)(d:Addr)(es:Array DictEntry)(ep:Nat):Prop:=∃o,h.get? d=some o/\o.ExactDict/\o.data=.dict es ep
theorem eS.kept{h h':Heap}{d:Addr}{es:Array DictEntry}{ep:Nat}(x:eS h d es ep)(k:∀o,h.get? d=some o->h'.get? d=some o):eS h' d es ep:=let⟨o,ho,r⟩:=x;⟨o,k o ho,r⟩
section
variable {prog:Program} {w:World} {A:Around} {E:Value->Shared->Prop} {s:Shared} {d it:Addr} {es:Array DictEntry} {ep i:Nat}
theorem eS.ty(x:eS s.heap d es ep):s.TypeIs (.ref d) "dict":=let⟨o,ho,hc,_⟩:=x;⟨o,ho,hc.1⟩
theorem K3{Q:Value->Shared->Prop}(hd:(d==sysModules)=false)(x:eS s.heap d es ep)
  (q:Q (.ref s.heap.objs.size) { s with heap:=s.heap.push { cls:=.type "dict_keyiterator",data:=.fields #[.ref d,.int 0 0,.int es.size 0,.int ep 0] } }):wpAny (model prog w) A (pyIter (.ref d)) Q E s:=by
 obtain⟨od,jW,_,jX⟩:=id x;refine wpAny_pyIter_slot x.ty F.slot_dict_iter (wpAny_call_entry F.slot_dict_iter x.ty F.entry_dict_iter ?_ (F.args_dict_iter_1 _));unfold Builtin.«dict.__iter__»;refine aa (m:=Builtin.Dict.dictSlotNone _ _) ?_;unfold Builtin.Dict.dictSlotNone;refine aa (wpAny_notOrdered_dict x.ty (show wpAny _ _ (pure (Value.ref d)) _ _ s from ah ?_));show wpAny _ _ (Builtin.Dict.showsAll d >>= _) _ _ s;unfold Builtin.Dict.showsAll;rw[if_neg (by rw[hd];exact aw)];refine aa (ah (aa (wpAny_dictEntries jW jX (aa (wpAny_dictEpoch jW jX (aa (bc (ah ⟨_,rfl,"dict_keyiterator",_,⟨_,az _ rfl,rfl⟩,F.slot_dict_keyiterator_next.lookup,?_⟩))))))));simpa[rawInt] using q
theorem K2{Q:Option Value->Shared->Prop}(t:s.heap.IsKeyIter it d i es.size ep)(x:eS s.heap d es ep)(hi:i<es.size)
  (q:∀h',h'.IsKeyIter it d (i+1) es.size ep->Heap.SameBut it s.heap h'->Q (some es[i].key) { s with heap:=h' }):wpAny (model prog w) A (pyNext (.ref it)) Q E s:=by
 obtain⟨oi,l5,wH,kF⟩:=id t;obtain⟨od,jW,_,jX⟩:=id x;unfold pyNext;refine aa (wpAny_attempt (wpAny_callSpecial?_slot (name:=Str.ofString "__next__") t.typeIs F.slot_dict_keyiterator_next
  (wpAny_call_entry F.slot_dict_keyiterator_next t.typeIs F.entry_dict_keyiterator_next ?_ (F.args_dict_keyiterator_next_1 _))))
 refine aa (ah (aa (aa ?_)));refine aa (wpAny_typeNameOfWhole_keyiter t.typeIs (ah (aa (wpAny_fieldsOf l5 kF ?_))));simp only[show Builtin.Dict_items.ownsTuple "dict_keyiterator"=false by decide,aO,bp];show wpAny _ _ (if (Value.ref d==Value.none)=true then _ else _) _ _ s;rw[if_neg (show ¬((Value.ref d==Value.none)=true) from aw)];refine aa (ah (aa (wpAny_dictEntries jW jX ?_)));rw[if_neg (by simp)];refine aa (ah (aa (wpAny_dictEpoch jW jX ?_)));rw[if_neg (by simp)];refine ah ?_;simp only[show ¬((i:Int)<0) from by omega,bp,Int.toNat_natCast,Array.getElem?_eq_getElem hi];refine aa (aa (wpAny_typeNameOfWhole_keyiter t.typeIs (ah (aa (wpAny_isOneOf_keyiter t.typeIs ?_)))));show wpAny _ _ (setField (.ref it) 1 (rawInt ((i:Int)+1)) >>= _) _ _ s;refine aa (wpAny_setField l5 kF (by simp) ?_);have t':(s.heap.update it (Obj.mapFields (·.setIfInBounds 1 (rawInt ((i:Int)+1))))).IsKeyIter it d (i+1) es.size ep:=
  ⟨_,Heap.get?_update_self _ l5 (Obj.isFreed_of_fields (Obj.data_mapFields kF _)),(Obj.cls_mapFields ..).trans wH,by rw[Obj.data_mapFields kF];simp[rawInt]⟩
 refine aa (br (aa (wpAny_isOneOf_keyiter (s:={ s with heap:=s.heap.update it (Obj.mapFields (·.setIfInBounds 1 (rawInt ((i:Int)+1)))) }) t'.typeIs ?_)));show wpAny _ _ (pure es[i].key) _ _ _;exact ah (ah ⟨_,rfl,ah (q _ t' (Heap.SameBut.update ..))⟩)
theorem KL{Q:Option Value->Shared->Prop}(hh:A.handled=none)(t:s.heap.IsKeyIter it d i es.size ep)(x:eS s.heap d es ep)(hi:es.size<=i)
  (q:∀h',Heap.ExtBut it s.heap h'->Q none { s with heap:=h' }):wpAny (model prog w) A (pyNext (.ref it)) Q E s:=by
 obtain⟨oi,l5,wH,kF⟩:=id t;obtain⟨od,jW,_,jX⟩:=id x;unfold pyNext;refine aa (wpAny_attempt (wpAny_callSpecial?_slot (name:=Str.ofString "__next__") t.typeIs F.slot_dict_keyiterator_next
  (wpAny_call_entry F.slot_dict_keyiterator_next t.typeIs F.entry_dict_keyiterator_next ?_ (F.args_dict_keyiterator_next_1 _))))
 refine aa (ah (aa (aa ?_)));refine aa (wpAny_typeNameOfWhole_keyiter t.typeIs (ah (aa (wpAny_fieldsOf l5 kF ?_))));simp only[show Builtin.Dict_items.ownsTuple "dict_keyiterator"=false by decide,aO,bp];show wpAny _ _ (if (Value.ref d==Value.none)=true then _ else _) _ _ s;rw[if_neg (show ¬((Value.ref d==Value.none)=true) from aw)];refine aa (ah (aa (wpAny_dictEntries jW jX ?_)));rw[if_neg (by simp)];refine aa (ah (aa (wpAny_dictEpoch jW jX ?_)));rw[if_neg (by simp)];refine ah ?_;simp only[show ¬((i:Int)<0) from by omega,bp,Int.toNat_natCast,Array.getElem?_eq_none hi];refine aa (aa (wpAny_typeNameOfWhole_keyiter t.typeIs (ah ?_)));show wpAny _ _ (setField (.ref it) 0 .none >>= _) _ _ s;refine aa (wpAny_setField l5 kF (by simp) ?_);show wpAny _ _ (newExc (.type "StopIteration") [] >>= _) _ _ _;refine aa ?_;simp only[newExc,newTuple];refine aa (bc (aa (m:=firstArgMember _ _) (wpAny_of_eq (a:=Value.none) (by first | rfl | (simp only[firstArgMember];rfl)) (bc ?_ (by size_fits)))) (by size_fits));simp only[raiseNew];refine aa (wpAny_handled ?_);rw[show A.in1.handled=none from hh];refine aa (ah (wpAny_throw ?_));refine aa (wpAny_isInstance (T:="StopIteration") (b:=true) ⟨_,az _ rfl,rfl⟩ isSubtype_stop ?_);exact ah (q _ (((Heap.SameBut.update ..).extBut.push _).push _))
end
end PySem
namespace L2
open PySem PySem.Spec PyProof.Rows
def IsT(H:Hp)(a:Addr):Prop:=∃bL bs,Rd H a (.dT bL bs)
section
variable {P:Program} {w:World} {H:Hp} {h:Heap} {a:Addr}
theorem qz{bL:List (List Key×V)}{bs:List Addr×Nat}(ok:gL P w H h)(e:Rd H a (.dT bL bs)):bL.length<=sizeLine/\(a==sysModules)=false/\
  ∃xs,xs.map (fun x=>x.2.1)=bs.1/\KT H bL xs/\h.DictOfH (tupleKind (j9 P w)) a xs:=by
 obtain⟨z,y,xs,bq,r,o,es,ep,h1,h2,h3,h4,h5⟩:=(show cH P w H h a (.dT bL bs) from Dl ok e)
 have all:∀{l:List (List Key×V)} {m:List (List Key×Addr×Value)},KT H l m->∀x∈m,(tupleKind (j9 P w)).is h x.1 x.2.1:=fun{l m} q=>by
  induction q with
  | nil=>exact fun x hx=>nomatch hx
  | @cons p q ps qs hq t ih=>
   intro x hx;cases hx with
   | head=>exact sr ok (by rw[<-hq.1];exact hq.2.1)
   | tail _ hx=>exact ih x hx
 exact⟨z,y,xs,bq,r,o,es,ep,h1,h2,h3,h4,all r,h5.1⟩
end
def Ii:TE:=fun _ H Q=>∀p,H p=none->Q (.ref p) (upd H p (.dT [] ([],0)))
section
variable {X:Cx} {pos:Pos} {e i':Expr} {te ti:TD}
theorem Ew:PE X (.Dict [] [] pos) Ii:=fun pins s σ H Q I h=>by
 have ok:cH X.prog X.w (upd H s.heap.objs.size (.dT [] ([],0))) (s.heap.push { cls:=.type "dict",data:=.dict #[] }) s.heap.objs.size (.dT [] ([],0)):=
  ⟨aU _,beq_eq_false_iff_ne.mpr (Ne.symm (aP I.big)),[],rfl,.nil,_,#[],0,az _ rfl,⟨rfl,rfl,rfl⟩,rfl,rfl,List.nodup_nil,rfl⟩
 exact wpAny_Dict_empty ⟨.ref s.heap.objs.size,_,I.laid (a:=s.heap.objs.size) (o:=.dT [] ([],0)) (t':=s.toks) (fun _ _ q=>aj _ q) (ay _) ok,rfl,h _ (I.cB.fresh (ay _))⟩
theorem zp{pins:List (Addr×Obj)}{σ:St}{H:Hp}{s:Shared}{a:Addr}(I:Inv X pins σ H s)(d:IsT H a) :
  s.TypeIs (.ref a) "dict"/\(∀b,Value.ref a=.ref b->∃ob,s.heap.get? b=some ob/\ob.dict=none)/\(a==sysModules)=false:=by
 obtain⟨bL,bs,e⟩:=d;obtain⟨_,hd,xs,_,_,dd⟩:=qz I.cB e;refine⟨dd.typeIs,fun b q=>?_,hd⟩;cases q;obtain⟨ob,_,_,h1,h2,_⟩:=dd;exact⟨ob,h1,h2.2.1⟩
def Ih(td ty tx:TE):TE:=fun σ H Q=>td σ H fun x H1=>∃a,x=.ref a/\IsT H1 a/\ty σ H1 fun y H2=>tx σ H2 fun z H3=>∃bL bs k b,H3 a=some (.dT bL bs)/\y=.ref b/\H3 b=some (.tup (k.map kV))/\bL.length<sizeLine/\
 (∀v,gq bL k=some v->Q v H3)/\(gq bL k=none->∀ep,Q z (upd H3 a (.dT (bL++[(k,z)]) (bs.1++[b],ep))))
theorem JQ{o e f:Expr}{apos de:Pos}{td ty tx:TE}(hu:X.A.units+64<cLine)(ho:PE X o td)(he:PE X e ty)(hf:PE X f tx)(m:M2 X o "setdefault" apos e f de):PE X (.Call (.Attribute o "setdefault" apos) [e,f] [] de) (Ih td ty tx):=by
 intro pins s σ H Q I h;refine wpAny_Call_method m.base m.wz m.line PySem.F.plainAttrs_dict PySem.F.slot_dict_setdefault PySem.F.type_dict_setdefault (cA (ho pins s σ H _ I h) fun u s1 bW=>?_);obtain⟨x,H1,I1,rx,a,ex,d,q1⟩:=bW;subst ex;obtain rfl:u=Value.ref a:=rx;obtain⟨t1,t2,_⟩:=zp I1 d;refine⟨t1,t2,?_⟩;rw[m.trees];refine Calls.callWith_builtin rfl (Calls.evalArgs_plain (Calls.spliced_cons (cA (he pins s1 σ H1 _ I1 q1) fun iv s2 bW=>?_)));obtain⟨y,H2,I2,ry,q2⟩:=bW;refine Calls.spliced_cons (cA (hf pins s2 σ H2 _ I2 q2) fun fv s3 bW=>?_);obtain⟨z,H3,I3,rz,bL,bs,k,b,hk,ey,hb,hl,q3,q4⟩:=bW;refine Calls.spliced_nil ?_;subst ey;obtain rfl:iv=Value.ref b:=ry;obtain⟨hz,hd,xs,bq,rel,dd⟩:=qz I3.cB (.inl hk);have hlen:bL.length=xs.length:=Paired.length rel;refine call_meetsIn PySem.F.slot_dict_setdefault dd.typeIs PySem.F.entry_dict_setdefault (PySem.F.args_dict_setdefault_3 _ _ _) (OE (knd:=tupleKind (j9 X.prog X.w)) hd fv)
  ⟨k,xs,tupleKind_room_in1 (by show X.A.units+1<cLine;omega),sr I3.cB hb,dd,by rw[<-hlen];exact hz,fun p hp=>?_,fun hn h' Cv hs=>?_⟩
 ·have r:=rel.val k;rw[hp] at r;cases hx:gq bL k with
  | none=>rw[hx] at r;exact r.elim
  | some x=>
   rw[hx] at r;exact⟨x,H3,I3.tok _,r,q3 x hx⟩
 ·have r:=rel.val k;rw[hn] at r;cases hx:gq bL k with
  | some=>rw[hx] at r;exact r.elim
  | none=>
   obtain⟨q,es,ep,hq,h2,h3,h4,_,h5⟩:=Cv;rw[storedH_new hn] at h4 h5;have Bh:KT H3 (bL++[(k,z)]) (xs++[(k,b,fv)]):=Paired.snoc rel ⟨rfl,hb,rz⟩;have ok:cH X.prog X.w (upd H3 a (.dT (bL++[(k,z)]) (bs.1++[b],ep))) h' a (.dT (bL++[(k,z)]) (bs.1++[b],ep)):=by
    refine⟨by rw[aC];simp;omega,hd,_,by rw[aA,bq];rfl,Bh.keeps fun c ys ec=>?_,q,es,ep,hq,h2,h3,h4,h5,rfl⟩;rw[cK (Dq ec hk (fun z=>nomatch z))];exact ec
   exact⟨z,_,Ez I3 (by rw[hk];exact True.intro) hs ⟨q,hq⟩ ok,rz,q4 hx ep⟩
def qw:TD:=fun _ Q=>Q (.ov (.dt []))
theorem zT:PD X (.Dict [] [] pos) qw:=by
 refine⟨_,Ew,fun ρ σ G0 H0 G H Q P E h k=>fun d hd=>?_⟩;refine k _ _ (.ov (.dt [])) G (.own E.e.s hd) ⟨d,[],rfl,by simp,⟨[],([],0),fq,trivial,rfl,rfl,by simp only[bG,bR]⟩,fun q hq=>?_⟩ h;simp only[aV] at hq;subst hq;exact⟨hd,E.e.s.free hd⟩
theorem MA{ks:List (List Key×V)}{k:List Key}{j:Nat}{v:V}(h:ks[j]?=some (k,v))(hf:∀j'<j,∀p,ks[j']?=some p->p.1≠k):gq ks k=some v:=by
 induction ks generalizing j with
 | nil=>simp at h
 | cons a ks ih=>
  unfold gq;rw[bC];cases j with
  | zero=>
   simp only[List.getElem?_cons_zero,aG] at h;subst h;simp
  | succ j=>
   have ha:a.1≠k:=hf 0 (Nat.succ_pos _) a rfl;simp only[ha,decide_false];simp only[List.getElem?_cons_succ] at h;exact ih h fun j' hj p hp=>hf (j'+1) (Nat.succ_lt_succ hj) p (by simpa using hp)
theorem yf{ks:List (List Key×V)}{k:List Key}:(ks.any fun kv=>decide (kv.1=k))=(gq ks k).isSome:=by
 induction ks with
 | nil=>rfl
 | cons a ks ih=>
  unfold gq;rw[List.any_cons,bC];by_cases h:a.1=k
  ·simp[h]
  ·simp only[h,decide_false,Bool.false_or];exact ih
theorem Fw{α β:Type}{ks:List (List Key×α)}{bL:List (List Key×β)}(h:ks.map (·.1)=bL.map (·.1))(k:List Key):(ks.any fun kv=>decide (kv.1=k))=bL.any fun kv=>decide (kv.1=k):=by
 have e1:(ks.any fun kv=>decide (kv.1=k))=(ks.map (·.1)).any fun x=>decide (x=k):=by rw[List.any_map];rfl
 have e2:(bL.any fun kv=>decide (kv.1=k))=(bL.map (·.1)).any fun x=>decide (x=k):=by rw[List.any_map];rfl
 rw[e1,e2,h]
theorem cC.snoc{H:Hp}{k:List Key}{v:V}{b:Addr}(hb:H b=some (.tup (k.map kV))):∀{ps:List (List Key×V)} {bs:List Addr},cC H ps bs->cC H (ps++[(k,v)]) (bs++[b])
 | [],[],_=>⟨hb,trivial⟩
 | p::ps,c::bs,h=>⟨h.1,cC.snoc hb h.2⟩
 | [],_::_,h=>h.elim
 | _::_,[],h=>h.elim
theorem Mi{ks:List (List Key×V)}{k:List Key}{v:V}(h:gq ks k=none):gq (ks++[(k,v)]) k=some v:=by
 unfold gq at h ⊢;rw[List.find?_append];rw[Option.map_eq_none_iff] at h;rw[h];simp
noncomputable def iY:List D->Option (List Key)
 | []=>some []
 | d::r=>match tQ d,iY r with
  | some k,some ks=>some (k::ks)
  | _,_=>none
theorem qG{K:PySem.W.Frag}{G:Hp}:∀{ds:List D} {vs:List V} {ks:List Key},bJ K G vs ds->iY ds=some ks->vs=ks.map kV
 | [],[],ks,_,h=>by simp only[iY,aG] at h;subst h;rfl
 | d::ds,v::vs,ks,r,h=>by
  simp only[bJ] at r;simp only[iY] at h;split at h
  ·rename_i k qY h1 h2;simp only[aG] at h;subst h;rw[K6 r.1 h1,qG r.2 h2];rfl
  ·cases h
 | [],_::_,_,r,_=>by simp only[bJ] at r
 | _::_,[],_,r,_=>by simp only[bJ] at r
noncomputable def ig(bL:List (List Key×List D))(k:List Key):List (List Key×List D):=if (bL.any fun kv=>decide (kv.1=k))=true then bL else bL++[(k,[])]
end
end L2
namespace L2
open PySem PySem.Spec PyProof.Rows
section
variable {X:Cx} {pos:Pos} {e i':Expr} {te ti:TD}
theorem Fg{α β:Type}{F:α->β->Prop}:∀{ni:List α} {nh:List β},Paired F ni nh->∀{i:Nat} {a:α} {b:β},ni[i]?=some a->nh[i]?=some b->F a b
 | _,_,.nil,i,a,b,e,_=>by simp at e
 | _,_,.cons r t,0,a,b,e1,e2=>by
  simp only[List.getElem?_cons_zero,aG] at e1 e2;subst e1 e2;exact r
 | _,_,.cons r t,i+1,a,b,e1,e2=>by
  simp only[List.getElem?_cons_succ] at e1 e2;exact Fg t e1 e2
def Rq:ei:=fun ds Q=>match ds with
 | [.dit bL]=>∃yi:List (List Int),bL.map (·.1)=yi.map (fun t=>t.map Sum.inl)/\yi.length<64/\(∀t∈yi,t≠[])/\∀qJ:List (List Int),qJ.Perm yi->qJ.Pairwise (fun x y=>HT.qc x y=false)->Q (.ow (qJ.map fun t=>.tup (t.map D.int)))
 | _=>False
theorem bS.keys{K:PySem.W.Frag}{G:Hp}:∀{ks:List (List Key×V)} {bL:List (List Key×D)},bS K G ks bL->ks.map (·.1)=bL.map (·.1)
 | [],[],_=>rfl
 | a::ks,b::bL,h=>by
  simp only[bS] at h;rw[ao,ao,h.1.1,bS.keys h.2]
 | [],_::_,h=>by simp only[bS] at h
 | _::_,[],h=>by simp only[bS] at h
theorem cC.at{H:Hp}:∀{ps:List (List Key×V)} {bs:List Addr} {i:Nat} {b:Addr} {k:List Key},cC H ps bs->bs[i]?=some b->(ps.map (·.1))[i]?=some k->H b=some (.tup (k.map kV))
 | p::ps,c::bs,0,b,k,h,e1,e2=>by
  simp only[List.getElem?_cons_zero,aG,ao] at e1 e2;subst e1 e2;exact h.1
 | p::ps,c::bs,i+1,b,k,h,e1,e2=>by
  simp only[List.getElem?_cons_succ,ao] at e1 e2;exact cC.at h.2 e1 e2
 | [],[],_,_,_,_,e1,_=>by simp at e1
 | [],_::_,_,_,_,h,_,_=>h.elim
 | _::_,[],_,_,_,h,_,_=>h.elim
def Jm(K:PySem.W.Frag)(td ty:TE):TE:=fun σ H Q=>td σ H fun x H1=>ty σ H1 fun y H2=>∃a b bL bs k v,x=.ref a/\y=.ref b/\Rd H2 a (.dT bL bs)/\dO K H2 b (k.map kV)/\gq bL k=some v/\Q v H2
theorem Ff{o i:Expr}{td ty:TE}(hu:X.A.units+64<cLine)(ho:PE X o td)(hi:PE X i ty)(hs:wY i):PE X (.Subscript o i pos) (Jm X.K td ty):=by
 intro pins s σ H Q I h;refine KP PySem.F.slot_dict_getitem.lookup hs (cA (ho pins s σ H _ I h) fun u s1 bW=>?_);obtain⟨x,H1,I1,rx,q1⟩:=bW;refine cA (hi pins s1 σ H1 _ I1 q1) fun iv s2 bW=>?_
 obtain⟨y,H2,I2,ry,a,b,bL,bs,k,v,ex,ey,ha,hb,hv,q2⟩:=bW;subst ex ey;obtain rfl:u=Value.ref a:=rx;obtain rfl:iv=Value.ref b:=ry;obtain⟨_,hd,xs,_,rel,dd⟩:=qz I2.cB ha;obtain⟨its,rv,⟨o1,g1,c1,n1,d1⟩,_⟩:=I2.tuple hb;have key:(tupleKind (j9 X.prog X.w)).is s2.heap k b:=⟨o1,its.toArray,n1,g1,c1,d1,by simpa using Av rv⟩
 obtain⟨w',hw,ik⟩:=iI.some_of (v:=v) (o:=(atKey xs k).map (·.2)) (by rw[<-hv];exact rel.val k);obtain⟨p,hp,P8⟩:=aK.mp hw;refine⟨dd.typeIs,wpAny_getItem_heap (tupleKind_room_in1 (by show X.A.units+1<cLine;omega)) key dd hp ?_⟩;rw[P8];exact⟨v,H2,I2.tok _,ik,q2⟩
noncomputable def iz(bL:List (List Key×D))(k:List Key):Option D:=(bL.find? fun kv=>decide (kv.1=k)).map (·.2)
def rZ(te ti:TD):TD:=fun ρ Q=>te ρ fun r=>ti ρ fun rk=>match r.val,rk.val with
 | .dit bL,.tup es=>∃k d,iY es=some k/\iz bL k=some d/\Q (.fz d)
 | _,_=>False
theorem bS.look{K:PySem.W.Frag}{G:Hp}{k:List Key}{d:D}:∀{ks:List (List Key×V)} {bL:List (List Key×D)},bS K G ks bL->iz bL k=some d->∃v,gq ks k=some v/\Rep K G v d
 | [],[],_,e=>by simp[iz] at e
 | a::ks,b::bL,h,e=>by
  simp only[bS] at h;unfold iz at e;unfold gq;rw[bC] at e ⊢;rw[h.1.1];by_cases hk:b.1=k
  ·simp only[hk,decide_true,bz,aG] at e ⊢;subst e;exact⟨_,rfl,h.1.2⟩
  ·simp only[hk,decide_false] at e ⊢;exact bS.look h.2 e
 | [],_::_,h,_=>by simp only[bS] at h
 | _::_,[],h,_=>by simp only[bS] at h
theorem zP(hu:X.A.units+64<cLine)(he:PD X e te)(hi:PD X i' ti)(hs:wY i':=by intro _ _;rfl):PD X (.Subscript e i' pos) (rZ te ti):=by
 obtain⟨t,p,q⟩:=he;obtain⟨t2,p2,q2⟩:=hi;refine⟨_,Ff hu p p2 hs,fun ρ σ G0 H0 G H Q P E h k=>q ρ σ G0 H0 G H _ _ E h fun v H1 r G1 x1 rr hq=>?_⟩;obtain⟨G2,x2,rv,_⟩:=rr.freeze x1;refine q2 ρ σ G0 H0 G2 H1 _ _ (E.ext x2) hq fun u H3 rk G3 x3 m4 dm=>?_
 obtain⟨G4,x4,i7,_⟩:=m4.freeze x3;split at dm
 ·rename_i bL es e1 e2;obtain⟨key,d,hk,hl,dm⟩:=dm;rw[e1] at rv;rw[e2] at i7;simp only[Rep] at rv i7;obtain⟨a,ks,bs,rfl,ha,vW,oF⟩:=rv;obtain⟨b,ys,rfl,hb,iT⟩:=i7;obtain⟨w,hw,ik⟩:=(bS.mono x4.g _ _ oF).look hl;exact⟨a,b,ks,bs,key,w,rfl,rfl,.inl (x4.s _ _ (x4.g _ _ ha)),by rw[<-qG iT hk];exact x4.s.jL hb,hw,k w H3 (.fz d) G4 (x2.trans x4) ik dm⟩
 ·exact dm.elim
end
end L2
namespace L2
open PySem PySem.Spec PyProof.Rows
section
variable {K:PySem.W.Frag} {G0 H0 G H G' H' G2 H2:Hp} {ρ:Ev} {σ:St} {v:V}
theorem cF.unset{i:Nat}{u:Option V}(E:cF K G0 H0 ρ σ G H):cF K G0 H0 (ρ.set i .un) (σ.set i u) G H:=by
 have gs:∀j s,gt (ρ.set i .un) j=s->s≠.un->i≠j/\gt ρ j=s:=fun j s e hs=>by
  rw[ot] at e;by_cases h:i=j/\j<ρ.length
  ·rw[if_pos h] at e;exact absurd e.symm hs
  ·rw[if_neg h] at e;exact⟨fun z=>h ⟨z,r8 e hs⟩,e⟩
 have ss:∀j,i≠j->(σ.set i u)[j]?=σ[j]?:=fun j h=>by rw[List.getElem?_set,if_neg h]
 obtain⟨own,o1,o2⟩:=E.on;refine⟨E.e,by simp[E.len],fun j d h=>?_,fun j ds h=>?_,fun j k ds es kD h1 h2=>?_,own,fun j ds p h hp=>?_,fun j o h=>?_⟩
 ·obtain⟨n,h⟩:=gs j _ h (by simp);rw[ss j n];exact E.fz j d h
 ·obtain⟨n,h⟩:=gs j _ h (by simp);rw[ss j n];exact E.ow j ds h
 ·obtain⟨n,h1⟩:=gs j _ h1 (by simp);obtain⟨n2,h2⟩:=gs k _ h2 (by simp);rw[ss j n,ss k n2];exact E.dj j k ds es kD h1 h2
 ·obtain⟨n,h⟩:=gs j _ h (by simp);rw[ss j n] at hp;exact o1 j ds p h hp
 ·obtain⟨n,h⟩:=gs j _ h (by simp);rw[ss j n];exact o2 j o h
end
noncomputable def CY(f:List D->Bool)(l:List (Addr×List D)):List V:=(l.filter fun p=>f p.2).map fun p=>.ref p.1
section
variable {X:Cx} {pos:Pos} {scope:Scope} {N':List Str} {m:List (Option Nat)}
def Ro(iF iS iN:Nat)(m:List (Option Nat))(tc A2:gz)(ta:TX):TX:=fun D ρ=>iF<ρ.length/\iF≠iS/\iF≠iN/\match gt ρ iS,gt ρ iN with
 | .ov (.ll cj),.fz d=>cj.length<=sizeLine/\∃f:List L2.D->Bool,(∀ds∈cj,tc ((eK m (ρ.set iS (.fz (.lst (cj.map .lst))))).set 0 (.fz (.lst ds))) fun b=>b=f ds)/\
   A2 ((ρ.set iS (.fz (.lst (cj.map .lst)))).set iF (.ow ((cj.filter f).map .lst))) (fun b=>b=true↔cj.filter f=[])/\
   (cj.findIdx? f=none->ta D (ρ.set iF .un))/\
   ∀j ds,cj.findIdx? f=some j->cj[j]?=some ds->ds.length<sizeLine/\D.nx ((ρ.set iF .un).set iS (.ov (.ll (cj.set j (ds++[d])))))
 | _,_=>False
def xc(i:Nat)(te:TD):TX:=fun D ρ=>match gt ρ i with
 | .ov (.ll cj)=>te ρ fun r=>match r with
  | .ow ds=>cj.length<sizeLine/\D.nx (ρ.set i (.ov (.ll (cj++[ds]))))
  | _=>False
 | _=>False
theorem JP(i:Nat){x:Str}{e:Expr}{te:TD}{p1 p2 pos':Pos}(he:PD X e te)(hN:X.N[i]?=some x:=by rfl)(hv:jf X.env.scope x:=by first | exact Or.inl rfl | exact Or.inr (Or.inl rfl) | exact Or.inr (Or.inr rfl))(hd:(x==("__debug__":Str))=false:=by decide)
  (eB:(x==("__classdict__":Str))=false:=by decide) (fW:starEach [e] X.env=(false,eval e X.env)::starEach [] X.env:=by rfl)
  (hb:∀{ta:TE} {t:TA},PE X (.Name x p1) ta->PA X [e] t->PE X (.Call (.Attribute (.Name x p1) "append" p2) [e] [] pos') (sQ X.K "list" ux ta t):=by intro ta t h1 h2;exact sf PySem.F.plainAttrs_list PySem.F.slot_list_append PySem.F.type_list_append ye h1 h2) :
  PX X (.Expr (.Call (.Attribute (.Name x p1) "append" p2) [e] [] pos') pos) (xc i te):=by
 obtain⟨t,p,q⟩:=he;refine⟨_,sF (hb (j8 hN hv hd eB) (mP p mN fW)),fun ρ σ G0 H0 G H D E k h g=>?_⟩;unfold xc at h;split at h
 ·rename_i cj hg;obtain⟨own,o1,o2⟩:=k.on;obtain⟨a,fp,b1,b2,⟨ha,hr⟩,b4⟩:=o2 i _ hg;refine⟨_,b1,.inl ⟨rfl,_,dP.of ha⟩,?_⟩;refine q ρ σ G0 H0 G H _ _ k h fun v H' r G' x1 rr hq=>?_
  split at hq
  ·rename_i ds;obtain⟨qn,xs,rfl,c1,c2,c3,c4⟩:=rr;have GF:qn≠a:=fun z=>by rw[z,ha] at c1;cases c1
   refine⟨a,fp.map V.ref,.ref qn,rfl,rfl,x1.h _ _ ha,by rw[ae,hr.length];exact hq.1,?_⟩;let H2:Hp:=fun b=>if b=qn then none else H' b
   have Cg:∀b,b≠qn->H2 b=H' b:=fun b h=>if_neg h
   have x2:Ext G H G' H2:=⟨x1.g,fun b u e=>by rw[Cg b (i3 e c1)];exact x1.h b u e,fun b u e=>by rw[Cg b (i3 e c2)];exact x1.s b u e,x1.n⟩
   refine g.nx _ _ G' _ x1.g ((k.ext x2).eI hg b1 fun gx nd ow=>?_) hq.2;obtain⟨qi,kb⟩:=ow;have e3:gx=fp:=by
    have:=(x2.h _ _ ha).symm.trans qi;injection this with this
    injection this with this
    exact((List.map_inj_right fun a b h=>by cases h;rfl).mp this).symm
   subst e3;have iU:=aS.mp nd;have Qc:qn∉gx:=fun z=>hr.here qn z c1
   refine⟨gx++[qn],?_,⟨by rw[fq];simp,bR.snoc (hr.mono x1.g fun q hq zs e=>?_) (by rw[cK GF];exact c3) c4⟩,fun q hq=>?_,fun b hb rD=>?_⟩
   ·rw[aS,List.nodup_append];refine⟨fun z=>?_,iU.2,by simp,fun u hu w hw=>?_⟩
    ·rcases aD.mp z with z | z
     ·exact iU.1 z
     ·simp at z;exact GF z.symm
    ·simp at hw;subst hw;exact fun z=>Qc (z▸hu)
   ·rw[cK (fun z:q=a=>iU.1 (z▸hq))];exact x1.h _ _ e
   ·rcases ar.mp hq with rfl | hq
    ·exact .inl (by simp)
    ·rcases aD.mp hq with hq | hq
     ·exact .inl (by simp[hq])
     ·simp at hq;subst hq;exact .inr (if_pos rfl)
   ·have Qy:b≠qn:=fun z=>rD (by rw[z];exact if_pos rfl)
    rw[cK (fun z=>hb (by simp[z])),Cg b Qy]
  ·exact hq.elim
 ·exact h.elim
end
end L2
namespace PySem
open Sem (wp)
end PySem
namespace L2
open PySem PySem.Spec PyProof.Rows
end L2
namespace L2
open PySem PySem.Spec PyProof.Rows
end L2
namespace PySem
open Sem (wp)
end PySem
namespace L2
open PySem PySem.Spec PyProof.Rows
end L2
namespace L2
open PySem
end L2
namespace L2
namespace SI
open PySem PySem.Spec PyProof.Rows
end SI
end L2
namespace L2
open PySem PySem.Spec PyProof.Rows
namespace SI
end SI
end L2
namespace L2
open PySem PySem.Spec PyProof.Rows
end L2
namespace L2
open PySem PySem.Spec PyProof.Rows
section
variable {P:Program} {w:World} {K:PySem.W.Frag} {mg:Str->Option Value} {base:Heap}
theorem g4{x:Str}{st:Stmt}{N ps:List Str}{t:ei}{T:TX}{n d:Nat}(k:Nat)(A:At K mg x st)(S:bV N ps (bO st))
  (body:∀(f:Addr) (cG:Value) (A:Around) (outer:List Env) (s:Shared) (H:Hp) (E:XK),dQ k (A.deeper (envOfC x (bO st) s.heap.objs.size f cG))->lp (nJ l9 P w K mg base N x (bO st) f cG A outer s H E).pZ (cP st) T)
  (spec:∀(ds:List D) (Qr:R->Prop),ds.length=n->t ds Qr->T { nx:=fun _=>Qr (.fz .non),rt:=Qr } (fQ N ds))
  (b:∀(kV doc pm:Value) (an:Option Addr) (cG ct:Value) (us:List Value),us.length=n->bindArgs (PySem.W.fnOf x x (eH st) (cP st) (bO st) .none kV doc pm an cG ct) ⟨us,[]⟩=pure (ps.zip us)) (hn:ps.length=n:=by rfl) (hd:k+1=d:=by rfl):Known P w K mg base d x n t:=by
 subst hn hd;obtain⟨f,fd,F,hm⟩:=A.ex;exact⟨f,fd,ps,Em F S (body f) spec,hm,F.kp,F.binds b⟩
end
end L2
namespace L2
open PySem PySem.Spec PyProof.Rows
end L2
namespace L2
open PySem PySem.Spec PyProof.Rows
end L2
namespace Ts
open PySem PySem.W PyProof.Rows
end Ts
namespace L2
open PySem PySem.Spec PyProof.Rows
end L2
namespace L2
open PySem PySem.Spec PyProof.Rows
end L2
namespace L2
open PySem PySem.Spec PyProof.Rows
theorem og{α:Type}{l:List α}{n:Nat}(h:l.length=n+1):∃a r,l=a::r/\r.length=n:=by
 cases l with
 | nil=>cases h
 | cons a r=>exact⟨a,r,rfl,Nat.succ.inj h⟩
theorem Hx{α:Type}{l:List α}(h:l.length=0):l=[]:=List.eq_nil_of_length_eq_zero h
theorem CW{α:Type}{l:List α}(h:l.length=1):∃a0,l=[a0]:=by
 obtain⟨a,r,e,h⟩:=og h;exact⟨a,by rw[e,Hx h]⟩
theorem CV{α:Type}{l:List α}(h:l.length=2):∃a0 a1,l=[a0,a1]:=by
 obtain⟨a,r,e,h⟩:=og h;obtain⟨b0,e2⟩:=CW h;exact⟨a,b0,by rw[e,e2]⟩
theorem CU{α:Type}{l:List α}(h:l.length=3):∃a0 a1 a2,l=[a0,a1,a2]:=by
 obtain⟨a,r,e,h⟩:=og h;obtain⟨b0,b1,e2⟩:=CV h;exact⟨a,b0,b1,by rw[e,e2]⟩
theorem CT{α:Type}{l:List α}(h:l.length=4):∃a0 a1 a2 a3,l=[a0,a1,a2,a3]:=by
 obtain⟨a,r,e,h⟩:=og h;obtain⟨b0,b1,b2,e2⟩:=CU h;exact⟨a,b0,b1,b2,by rw[e,e2]⟩
theorem CS{α:Type}{l:List α}(h:l.length=5):∃a0 a1 a2 a3 a4,l=[a0,a1,a2,a3,a4]:=by
 obtain⟨a,r,e,h⟩:=og h;obtain⟨b0,b1,b2,b3,e2⟩:=CT h;exact⟨a,b0,b1,b2,b3,by rw[e,e2]⟩
theorem CQ{α:Type}{l:List α}(h:l.length=6):∃a0 a1 a2 a3 a4 a5,l=[a0,a1,a2,a3,a4,a5]:=by
 obtain⟨a,r,e,h⟩:=og h;obtain⟨b0,b1,b2,b3,b4,e2⟩:=CS h;exact⟨a,b0,b1,b2,b3,b4,by rw[e,e2]⟩
theorem CP{α:Type}{l:List α}(h:l.length=7):∃a0 a1 a2 a3 a4 a5 a6,l=[a0,a1,a2,a3,a4,a5,a6]:=by
 obtain⟨a,r,e,h⟩:=og h;obtain⟨b0,b1,b2,b3,b4,b5,e2⟩:=CQ h;exact⟨a,b0,b1,b2,b3,b4,b5,by rw[e,e2]⟩
theorem Hw{α:Type}{l:List α}(h:l.length=8):∃a0 a1 a2 a3 a4 a5 a6 a7,l=[a0,a1,a2,a3,a4,a5,a6,a7]:=by
 obtain⟨a,r,e,h⟩:=og h;obtain⟨b0,b1,b2,b3,b4,b5,b6,e2⟩:=CP h;exact⟨a,b0,b1,b2,b3,b4,b5,b6,by rw[e,e2]⟩
theorem Rn{α:Type}{l:List α}(h:l.length=9):∃a0 a1 a2 a3 a4 a5 a6 a7 a8,l=[a0,a1,a2,a3,a4,a5,a6,a7,a8]:=by
 obtain⟨a,r,e,h⟩:=og h;obtain⟨b0,b1,b2,b3,b4,b5,b6,b7,e2⟩:=Hw h;exact⟨a,b0,b1,b2,b3,b4,b5,b6,b7,by rw[e,e2]⟩
end L2
namespace L2
open PySem PySem.Spec PyProof.Rows PySem.Builtin PySem.Builtin.Str
section
variable {X:Cx}
theorem Mz{A:Around}{E:Value->Shared->Prop}{prog:Program}{w:World}{s:Shared}{Q:Value->Shared->Prop}{x y:Str}{t u:Tok}(hy:(y.length==0)=false)
  (hq:∀l tk,l.map (·.1)=Txt.split x y->Q (.ref s.heap.objs.size) { s with heap:=s.heap.push { cls:=.type "list",data:=.seq (strValues l).toArray },toks:=tk })
  (hsz:x.length+2<=sizeLine):wpAny (model prog w) A (call (.builtin "str.split") [.str x t,.str y u]) Q E s:=by
 have BI:(partsBetween x (occurrences x y 0 x.length (x.length+1)) y.length).length<=sizeLine:=by
  rw[len_partsBetween];have:=StrLaws.occ_length_le x y 0 x.length (x.length+1);omega
 cases h1:(decide (x.length<y.length)||decide (strKind x<strKind y))
 ·cases hf:(occurrences x y 0 x.length (x.length+1)).isEmpty
  ·refine call_meets PySem.F.slot_str_split (typeIs_str _ _ _) PySem.F.entry_str_split (PySem.F.args_str_split_2 _ _) (meets_str_split_sep x y t u h1 hy hf (by omega) BI) ?_;show wants Q E _ { s with toks:=_,heap:=s.heap.push { cls:=.type "list",data:=.seq (strsFrom s.toks (partsBetween x (occurrences x y 0 x.length (x.length+1)) y.length)).toArray } };rw[strsFrom_eq];exact hq (numbered s.toks _) _ ((numbered_texts _ _).trans ((if_neg (ne_true_of_eq_false h1)).trans (if_neg (ne_true_of_eq_false hf))).symm)
  ·exact call_meets PySem.F.slot_str_split (typeIs_str _ _ _) PySem.F.entry_str_split (PySem.F.args_str_split_2 _ _) (meets_str_split_not_found x y t u h1 hy hf)
    (hq [(x,t)] s.toks ((if_neg (ne_true_of_eq_false h1)).trans (if_pos hf)).symm)
 ·exact call_meets PySem.F.slot_str_split (typeIs_str _ _ _) PySem.F.entry_str_split (PySem.F.args_str_split_2 _ _) (meets_str_split_cannot_occur x y t u h1)
   (hq [(x,t)] s.toks (if_pos h1).symm)
theorem Fe:∀(l:List (Str×Tok)),Vals ((l.map (·.1)).map V.str) (strValues l)
 | []=>.nil
 | (x,t)::r=>.cons ⟨t,rfl⟩ (Fe r)
theorem Fv{K:PySem.W.Frag}{G:Hp}:∀(l:List Str),bJ K G (l.map V.str) (l.map D.str)
 | []=>bJ.nil
 | x::r=>bJ.cons (pN _ _ _) (Fv r)
def xy:D->List D->(R->Prop)->Prop:=fun d ds Q=>match d,ds with
 | .str x,[.str y]=>y.length≠0/\x.length+2<=sizeLine/\Q (.ow ((Txt.split x y).map D.str))
 | _,_=>False
theorem JO:CD X "str.split" xy:=by
 refine⟨fun x vs H Q=>∃(z y:Str),x=.str z/\vs=[.str y]/\y.length≠0/\z.length+2<=sizeLine/\∀p,H p=none->Q (.ref p) (upd H p (.lst ((Txt.split z y).map V.str))),fun pins s σ H x xs v us Q I rx rs h=>?_,fun G H x d vs ds Q P s rx rs h k=>?_⟩
 ·obtain⟨z,y,rfl,rfl,hy,hz,q⟩:=h;obtain⟨t,rfl⟩:=rx;obtain⟨u,rfl,ru⟩:=mi rs;obtain⟨t2,rfl⟩:=ru;refine Mz (by simpa using hy) (fun l tk hl=>?_) hz;have hv:=Fe l;rw[hl] at hv;exact⟨.ref _,_,I.oH (t':=tk) hv (by rw[ae];exact a9 (split_le z y) hz),rfl,q _ I.fresh⟩
 ·unfold xy at h;split at h
  ·obtain⟨y,rfl,ry⟩:=kL rs;simp only[Rep] at rx ry;subst rx ry;exact⟨_,_,rfl,rfl,h.1,h.2.1,xN s (Fv _) h.2.2 k⟩
  ·exact h.elim
end
end L2
namespace L2
open PySem PySem.Spec PyProof.Rows
end L2
namespace L2
open PySem PySem.Spec PyProof.Rows
end L2
namespace L2.SO
open PySem PySem.Spec PyProof.Rows L2
end L2.SO
namespace L2.SO
open PySem PySem.Spec PyProof.Rows L2
end L2.SO
namespace L2.SO
open PySem PySem.Spec PyProof.Rows L2
end L2.SO
namespace L2.SO
open PySem PySem.Spec PyProof.Rows L2
end L2.SO
namespace L2.SO
open PySem PySem.Spec PyProof.Rows L2
end L2.SO
namespace L2.SO
open PySem PySem.Spec PyProof.Rows L2
end L2.SO
namespace L2.SO
open PySem PySem.Spec PyProof.Rows L2
end L2.SO
namespace L2.SO
open PySem PySem.Spec PyProof.Rows L2
end L2.SO
namespace L2.SO
open PySem PySem.Spec PyProof.Rows L2
end L2.SO
namespace L2
open PySem PySem.Spec PyProof.Rows
end L2
namespace L2
open PySem PySem.Spec PyProof.Rows
end L2
namespace L2
open PySem PySem.Spec PyProof.Rows
end L2
namespace L2
open PySem PySem.Spec PyProof.Rows
end L2
namespace L2
open PySem PySem.Spec PyProof.Rows
end L2
namespace L2
open PySem PySem.Spec PyProof.Rows
end L2
namespace L2
open PySem PySem.Spec PyProof.Rows
end L2
namespace L2
open PySem PySem.Spec PyProof.Rows
section
variable {prog:Program} {w:World} {K:Type} [DecidableEq K] {knd:HeapKind prog w K} {A:Around} {E:Value->Shared->Prop} {s:Shared} {d a:Addr} {k:K} {xs:List (K×Addr×Value)}
theorem F9{Q:Bool->Shared->Prop}(hu:knd.room A.in1)(kC:knd.is s.heap k a)(hd:(d==sysModules)=false)(hm:s.heap.DictOfH knd d xs)
  (h:Q (atKey xs k).isSome { s with toks:=s.toks+knd.draws k }):wpAny (model prog w) A (contains (.ref d) (.ref a)) Q E s:=by
 unfold contains;try with_reducible refine br ?_
 refine aa (wpAny_specialOf hm.typeIs slot_dict_contains.lookup ?_);show wpAny _ _ (if (some (Value.builtin "dict.__contains__")==some Value.none)=true then _ else _) _ E s;rw[if_neg (by rw[beq_builtin_none];exact aw)];refine aa (wpAny_callSpecialUnlessNone?_slot (name:=Str.ofString "__contains__") hm.typeIs slot_dict_contains
  (wpAny_call_entry slot_dict_contains hm.typeIs entry_dict_contains ?_ (args_dict_contains _ _)))
 show wpAny _ _ (dictGet d (.ref a) >>= _) _ _ s;refine aa (wpAny_dictGet_heap hu kC hm ?_);cases hf:atKey xs k with
 | some p=>
  rw[hf] at h;show wpAny _ _ (ret (.bool true)) _ _ _;exact ah ⟨_,rfl,bD h⟩
 | none=>
  rw[hf] at h;show wpAny _ _ (Builtin.Dict.pendingKey? d (.ref a) >>= _) _ _ _;exact aa (wpAny_pendingKey_other hd (ah ⟨_,rfl,bD h⟩))
end
section
variable {X:Cx} {pos:Pos} {e i':Expr} {te ti tv:TD}
def yX(n:Bool):R2:=fun x y H Q=>∃a b bL bs k,y=.ref a/\x=.ref b/\Rd H a (.dT bL bs)/\H b=some (.tup (k.map kV))/\Q (.bl (if n then !(gq bL k).isSome else(gq bL k).isSome)) H
theorem Rk(hu:X.A.units+64<cLine):eW X (compareOp .In) (yX false):=by
 intro pins s σ H x y v u Q I rx ry h;obtain⟨a,b,bL,bs,k,rfl,rfl,ha,hb,q⟩:=h;cases rx;cases ry;obtain⟨_,hd,xs,_,rel,dd⟩:=qz I.cB ha;refine aa (F9 (knd:=tupleKind (j9 X.prog X.w)) (tupleKind_room_in1 (by show X.A.units+1<cLine;omega)) (sr I.cB hb) hd dd (ah ⟨.bl _,H,I.tok _,rfl,?_⟩));have:=(rel.val k).fj;rw[Option.isSome_map] at this;rw[<-this];exact q
theorem Mh(hu:X.A.units+64<cLine):eW X (compareOp .NotIn) (yX true):=by
 intro pins s σ H x y v u Q I rx ry h;obtain⟨a,b,bL,bs,k,rfl,rfl,ha,hb,q⟩:=h;cases rx;cases ry;obtain⟨_,hd,xs,_,rel,dd⟩:=qz I.cB ha;refine aa (F9 (knd:=tupleKind (j9 X.prog X.w)) (tupleKind_room_in1 (by show X.A.units+1<cLine;omega)) (sr I.cB hb) hd dd (ah ⟨.bl _,H,I.tok _,rfl,?_⟩));have:=(rel.val k).fj;rw[Option.isSome_map] at this;rw[<-this];exact q
theorem bS.isSome{K:PySem.W.Frag}{G:Hp}(k:List Key):∀{ks:List (List Key×V)} {bL:List (List Key×D)},bS K G ks bL->(gq ks k).isSome=(iz bL k).isSome
 | [],[],_=>rfl
 | a::ks,b::bL,h=>by
  simp only[bS] at h;unfold iz gq;rw[bC,bC,h.1.1];by_cases hk:b.1=k
  ·simp only[hk,decide_true,bz,Option.isSome_some]
  ·simp only[hk,decide_false];exact bS.isSome k h.2
 | [],_::_,h=>by simp only[bS] at h
 | _::_,[],h=>by simp only[bS] at h
def tW(neg:Bool):O2:=fun d e Q=>match d,e with
 | .tup es,.dit bL=>∃k,iY es=some k/\Q (.fz (.bl (if neg then !(iz bL k).isSome else(iz bL k).isSome)))
 | _,_=>False
theorem JN{n:Bool}{G H:Hp}{x y:V}{d e:D}{Q:R->Prop}{P:VK}(s:bT G H)(rx:Rep X.K G x d)(ry:Rep X.K G y e)(h:tW n d e Q)(k:∀v H' r G',Ext G H G' H'->df X.K G' H' H v r->Q r->P v H'):yX n x y H P:=by
 unfold tW at h;split at h
 ·simp only[Rep] at rx ry;obtain⟨b,ys,rfl,hb,iT⟩:=rx;obtain⟨a,ks,bs,rfl,ha,vW,oF⟩:=ry;obtain⟨key,hk,q⟩:=h;refine⟨a,b,ks,bs,key,rfl,rfl,.inl (s _ _ ha),by rw[<-qG iT hk];exact s _ _ hb,?_⟩;rw[oF.isSome key];exact k _ _ _ G (.refl s) (e7 (i5 _ _ _)) q
 ·exact h.elim
theorem KZ(hu:X.A.units+64<cLine):iW X (compareOp .NotIn) (tW true):=⟨_,Mh hu,fun G H x y d e Q P s rx ry h k=>JN s rx ry h k⟩
def ub:TD:=fun _ Q=>Q (.ov (.dq []))
theorem Fd:PD X (.Dict [] [] pos) ub:=by
 refine⟨_,Ew,fun ρ σ G0 H0 G H Q P E h k=>fun d hd=>?_⟩;refine k _ _ (.ov (.dq [])) G (.own E.e.s hd) ⟨d,[],rfl,by simp,⟨rfl,[],([],0),fq,trivial,by simp only[bS]⟩,fun q hq=>?_⟩ h;simp only[aV] at hq;subst hq;exact⟨hd,E.e.s.free hd⟩
def JM(td ty tx:TE):TE:=fun σ H Q=>td σ H fun x H1=>∃a,x=.ref a/\IsT H1 a/\ty σ H1 fun y H2=>tx σ H2 fun z H3=>∃bL bs k b,Rd H3 a (.dT bL bs)/\y=.ref b/\H3 b=some (.tup (k.map kV))/\Q ((gq bL k).getD z) H3
theorem Mu{o e f:Expr}{apos de:Pos}{td ty tx:TE}(hu:X.A.units+64<cLine)(ho:PE X o td)(he:PE X e ty)(hf:PE X f tx)(m:M2 X o "get" apos e f de):PE X (.Call (.Attribute o "get" apos) [e,f] [] de) (JM td ty tx):=by
 intro pins s σ H Q I h;refine wpAny_Call_method m.base m.wz m.line PySem.F.plainAttrs_dict PySem.F.slot_dict_get PySem.F.type_dict_get (cA (ho pins s σ H _ I h) fun u s1 bW=>?_);obtain⟨x,H1,I1,rx,a,ex,d,q1⟩:=bW;subst ex;obtain rfl:u=Value.ref a:=rx;obtain⟨t1,t2,_⟩:=zp I1 d;refine⟨t1,t2,?_⟩;rw[m.trees];refine Calls.callWith_builtin rfl (Calls.evalArgs_plain (Calls.spliced_cons (cA (he pins s1 σ H1 _ I1 q1) fun iv s2 bW=>?_)));obtain⟨y,H2,I2,ry,q2⟩:=bW;refine Calls.spliced_cons (cA (hf pins s2 σ H2 _ I2 q2) fun fv s3 bW=>?_);obtain⟨z,H3,I3,rz,bL,bs,k,b,hk,ey,hb,q3⟩:=bW;refine Calls.spliced_nil ?_;subst ey;obtain rfl:iv=Value.ref b:=ry;obtain⟨hz,hd,xs,bq,rel,dd⟩:=qz I3.cB hk;refine call_meetsIn PySem.F.slot_dict_get dd.typeIs PySem.F.entry_dict_get (PySem.F.args_dict_get_3 _ _ _) (meetsH_dict_get_default (tupleKind (j9 X.prog X.w)) a b hd fv) ⟨tupleKind_room_in1 (by show X.A.units+1<cLine;omega),k,xs,sr I3.cB hb,dd,?_⟩;exact⟨_,H3,I3.tok _,(rel.val k).getD rz,q3⟩
def ue(te ti tx:TD):TD:=fun ρ Q=>te ρ fun r=>match r.val with
 | .dit bL=>ti ρ fun rk=>tx ρ fun rx=>match rk.val with
  | .tup es=>∃k,iY es=some k/\Q (.fz ((iz bL k).getD rx.val))
  | _=>False
 | _=>False
theorem Fc(hu:X.A.units+64<cLine){f:Expr}{apos:Pos}{tx:TD}(he:PD X e te)(hi:PD X i' ti)(hf:PD X f tx)(m:M2 X e "get" apos i' f pos:=by exact⟨rfl,rfl,rfl,rfl⟩):PD X (.Call (.Attribute e "get" apos) [i',f] [] pos) (ue te ti tx):=by
 obtain⟨t,p,q⟩:=he;obtain⟨t2,p2,q2⟩:=hi;obtain⟨t3,p3,q3⟩:=hf;refine⟨_,Mu hu p p2 p3 m,fun ρ σ G0 H0 G H Q P E h k=>q ρ σ G0 H0 G H _ _ E h fun v H1 r G1 x1 rr hq=>?_⟩;obtain⟨G2,x2,rv,_⟩:=rr.freeze x1;split at hq
 ·rename_i bL hk;rw[hk] at rv;simp only[Rep] at rv;obtain⟨a,ks,bs,rfl,ha,vW,oF⟩:=rv;refine⟨a,rfl,⟨ks,bs,.inl (x2.s _ _ ha)⟩,?_⟩;refine q2 ρ σ G0 H0 G2 H1 _ _ (E.ext x2) hq fun u H3 rk G3 x3 m4 dm=>?_
  obtain⟨G4,x4,i7,_⟩:=m4.freeze x3;refine q3 ρ σ G0 H0 G4 H3 _ _ ((E.ext x2).ext x4) dm fun z H5 rx G5 x5 qP ip=>?_
  obtain⟨G6,x6,qO,_⟩:=qP.freeze x5;split at ip
  ·rename_i es e2;obtain⟨key,h1,ip⟩:=ip;have va:=x4.trans x6;rw[e2] at i7;simp only[Rep] at i7;obtain⟨b,ys,rfl,hb,iT⟩:=i7;refine⟨ks,bs,key,b,.inl (va.s _ _ (va.g _ _ ha)),rfl,by rw[<-qG iT h1];exact x6.s _ _ (x6.g _ _ hb),?_⟩;have Gi:=bS.mono va.g _ _ oF;cases hl:iz bL key with
   | none=>
    have:=Gi.isSome key;rw[hl] at this;cases hv:gq ks key with
    | some=>rw[hv] at this;cases this
    | none=>
     rw[hl] at ip;exact k _ H5 (.fz rx.val) G6 (x2.trans va) qO ip
   | some d=>
    obtain⟨w,hw,ik⟩:=Gi.look hl;rw[hw];rw[hl] at ip;exact k _ H5 (.fz d) G6 (x2.trans va) ik ip
  ·exact ip.elim
 ·exact hq.elim
def Jl(td ty tv:TE):TS:=fun D σ H=>tv σ H fun v H1=>td σ H1 fun x H2=>ty σ H2 fun y H3=>∃a b bL bs k,x=.ref a/\y=.ref b/\H3 a=some (.dT bL bs)/\H3 b=some (.tup (k.map kV))/\bL.length<sizeLine/\∀ep,D.nx σ (upd H3 a (.dT (oh bL k v) (if (bL.any fun kv=>decide (kv.1=k))=true then bs.1 else bs.1++[b],ep)))
theorem KY{o i value:Expr}{pos':Pos}{td ty tv:TE}(hu:X.A.units+64<cLine)(ho:PE X o td)(hi:PE X i ty)(hv:PE X value tv)(hs:swapsWith value (some (.Subscript o i pos')) pos.line X.env=pure false) :
  PS X (.Assign [.Subscript o i pos'] value pos) (Jl td ty tv):=by
 intro pins s σ H D I h;refine wpAny_Assign_Subscript (cA (hv pins s σ H _ I h) fun r s1 bW=>?_) hs;obtain⟨v,H1,I1,rv,q1⟩:=bW;refine cA (ho pins s1 σ H1 _ I1 q1) fun u s2 bW=>?_
 obtain⟨x,H2,I2,rx,q2⟩:=bW;refine cA (hi pins s2 σ H2 _ I2 q2) fun iv s3 bW=>?_
 obtain⟨y,H3,I3,ry,a,b,bL,bs,k,ex,ey,ha,hb,hl,q3⟩:=bW;subst ex ey;obtain rfl:u=Value.ref a:=rx;obtain rfl:iv=Value.ref b:=ry;obtain⟨hz,hd,xs,bq,rel,dd⟩:=qz I3.cB (.inl ha);have hlen:bL.length=xs.length:=Paired.length rel;refine wpAny_setItem_heap (knd:=tupleKind (j9 X.prog X.w)) (hsz:=by rw[<-hlen];exact hz) (tupleKind_room_in1 (by show X.A.units+1<cLine;omega)) (sr I3.cB hb) dd fun h' Cv oP=>?_
 obtain⟨q,es,ep,hq,h2,h3,h4,_,h5⟩:=Cv;refine⟨σ,_,?_,q3 ep⟩;refine Ez I3 (by rw[ha];exact True.intro) oP ⟨q,hq⟩ ⟨by have:=Nw bL k v;omega,hd,_,?_,(rel.put k hb rv).keeps fun c ys ec=>?_,q,es,ep,hq,h2,h3,h4,h5,rfl⟩
 ·have e:(bL.any fun kv=>decide (kv.1=k))=(atKey xs k).isSome:=by
   rw[zV,(rel.val k).fj,Option.isSome_map]
  unfold storedH;rw[e];by_cases z:(atKey xs k).isSome=true
  ·rw[if_pos z,if_pos z,aE,<-bq];refine List.map_congr_left fun p _=>?_
   show(putAt k r p).2.1=p.2.1;unfold putAt;split<;>rfl
  ·rw[if_neg z,if_neg z,aA,bq];rfl
 ·rw[cK (Dq ec ha (fun z=>nomatch z))];exact ec
end
end L2
namespace L2
open PySem PySem.Spec PyProof.Rows
noncomputable def qt(bL:List (List Key×D))(k:List Key)(d:D):List (List Key×D):=
 if (bL.any fun kv=>decide (kv.1=k))=true then bL.map (fun kv=>if kv.1=k then(kv.1,d) else kv) else bL++[(k,d)]
section
variable {K:PySem.W.Frag} {G:Hp}
theorem bS.length:∀{ks:List (List Key×V)} {bL:List (List Key×D)},bS K G ks bL->ks.length=bL.length
 | [],[],_=>rfl
 | a::ks,b::bL,h=>by
  simp only[bS] at h;simp only[aI,bS.length h.2]
 | [],_::_,h=>by simp only[bS] at h
 | _::_,[],h=>by simp only[bS] at h
theorem bS.any(k:List Key):∀{ks:List (List Key×V)} {bL:List (List Key×D)},bS K G ks bL->(ks.any fun kv=>decide (kv.1=k))=bL.any fun kv=>decide (kv.1=k)
 | [],[],_=>rfl
 | a::ks,b::bL,h=>by
  simp only[bS] at h;rw[List.any_cons,List.any_cons,h.1.1,bS.any k h.2]
 | [],_::_,h=>by simp only[bS] at h
 | _::_,[],h=>by simp only[bS] at h
theorem bS.snoc{k:List Key}{v:V}{d:D}(r:Rep K G v d):∀{ks:List (List Key×V)} {bL:List (List Key×D)},bS K G ks bL->bS K G (ks++[(k,v)]) (bL++[(k,d)])
 | [],[],_=>by simp only[List.nil_append,bS];exact⟨⟨trivial,r⟩,trivial⟩
 | a::ks,b::bL,h=>by
  simp only[bS] at h;simp only[List.cons_append,bS];exact⟨h.1,bS.snoc r h.2⟩
 | [],_::_,h=>by simp only[bS] at h
 | _::_,[],h=>by simp only[bS] at h
theorem bS.kl{k:List Key}{v:V}{d:D}(r:Rep K G v d):∀{ks:List (List Key×V)} {bL:List (List Key×D)},bS K G ks bL->bS K G (ks.map fun kv=>if kv.1=k then(kv.1,v) else kv) (bL.map fun kv=>if kv.1=k then(kv.1,d) else kv)
 | [],[],_=>by simp only[bG,bS]
 | a::ks,b::bL,h=>by
  simp only[bS] at h;simp only[ao,bS];refine⟨?_,bS.kl r h.2⟩;rw[h.1.1];split
  ·exact⟨rfl,r⟩
  ·exact⟨h.1.1,h.1.2⟩
 | [],_::_,h=>by simp only[bS] at h
 | _::_,[],h=>by simp only[bS] at h
theorem bS.put{ks:List (List Key×V)}{bL:List (List Key×D)}{k:List Key}{v:V}{d:D}(h:bS K G ks bL)(r:Rep K G v d):bS K G (oh ks k v) (qt bL k d):=by
 unfold oh qt;rw[h.any k];split
 ·exact h.kl r
 ·exact h.snoc r
theorem cC.kl{k:List Key}{v:V}:∀{ps:List (List Key×V)} {bs:List Addr},cC G ps bs->cC G (ps.map fun kv=>if kv.1=k then(kv.1,v) else kv) bs
 | [],[],h=>h
 | p::ps,b::bs,h=>by
  rw[ao];refine⟨?_,cC.kl h.2⟩;split
  ·exact h.1
  ·exact h.1
 | [],_::_,h=>h.elim
 | _::_,[],h=>h.elim
theorem cC.put{ks:List (List Key×V)}{bs:List Addr}{k:List Key}{v:V}{b:Addr}(h:cC G ks bs)(hb:G b=some (.tup (k.map kV))):cC G (oh ks k v) (if (ks.any fun kv=>decide (kv.1=k))=true then bs else bs++[b]):=by
 unfold oh;split
 ·exact h.kl
 ·exact h.snoc hb
end
section
variable {X:Cx} {pos:Pos} {e i':Expr} {te ti tv:TD}
def om(i:Nat)(ti tv:TD):TX:=fun D ρ=>match gt ρ i with
 | .ov (.dq bL)=>tv ρ fun r=>ti ρ fun rk=>match rk.val with
  | .tup es=>∃k,iY es=some k/\bL.length<sizeLine/\D.nx (ρ.set i (.ov (.dq (qt bL k r.val))))
  | _=>False
 | _=>False
theorem uF(hu:X.A.units+64<cLine)(i:Nat){x:Str}{p1 p2:Pos}(hi:PD X i' ti)(he:PD X e tv)(hN:X.N[i]?=some x:=by rfl)(hv:jf X.env.scope x:=by first | exact Or.inl rfl | exact Or.inr (Or.inl rfl) | exact Or.inr (Or.inr rfl))(hd:(x==("__debug__":Str))=false:=by decide)(eB:(x==("__classdict__":Str))=false:=by decide)
  (hs:swapsWith e (some (.Subscript (.Name x p1) i' p2)) pos.line X.env=pure false:=by rfl) :
  PX X (.Assign [.Subscript (.Name x p1) i' p2] e pos) (om i ti tv):=by
 obtain⟨t,p,q⟩:=he;obtain⟨t2,Bi,q2⟩:=hi;refine⟨_,KY hu (j8 hN hv hd eB) Bi p hs,fun ρ σ G0 H0 G H D E k h g=>?_⟩;unfold om at h;split at h
 ·rename_i bL hg;obtain⟨own,o1,o2⟩:=k.on;obtain⟨a,fp,b1,b2,⟨rfl,ks,bs,ha,vW,oF⟩,b4⟩:=o2 i _ hg;refine q ρ σ G0 H0 G H _ _ k h fun v H' r G' x1 rr hq=>?_
  obtain⟨G2,x2,rv,_⟩:=rr.freeze x1;refine⟨_,b1,q2 ρ σ G0 H0 G2 H' _ _ (k.ext x2) hq fun u H3 rk G3 x3 m4 dm=>?_⟩;obtain⟨G4,x4,i7,_⟩:=m4.freeze x3;split at dm
  ·rename_i es e2;obtain⟨key,hk,hlen,dm⟩:=dm;rw[e2] at i7;simp only[Rep] at i7;obtain⟨b,ys,rfl,hb,iT⟩:=i7;have iV:G4 b=some (.tup (key.map kV)):=by rw[<-qG iT hk];exact hb
   have i6:=x2.trans x4;refine⟨a,b,ks,bs,key,rfl,rfl,i6.h _ _ ha,x4.s _ _ iV,by rw[oF.length];exact hlen,fun ep=>?_⟩;refine g.nx _ _ G4 _ i6.g ((k.ext i6).eI hg b1 fun fp nd ow=>?_) dm;obtain⟨rfl,qY,qm,qi,B0,Bf⟩:=ow;have e1:qY=ks/\qm=bs:=by
    have:=(i6.h _ _ ha).symm.trans qi;injection this with this
    injection this with mV mU
    exact⟨mV.symm,mU.symm⟩
   obtain⟨rfl,rfl⟩:=e1;refine⟨[],by simp,⟨rfl,_,_,fq,B0.put iV,Bf.put (rv.mono x4.g)⟩,fun q hq=>.inl hq,fun b hb _=>cK fun z=>hb (by simp[z])⟩
  ·exact dm.elim
 ·exact h.elim
end
end L2
namespace L2
open PySem PySem.Spec PyProof.Rows
section
variable {X:Cx} {pos:Pos} {e i':Expr} {te ti:TD}
def oe(i:Nat)(tk te:TD):TX:=fun D ρ=>match gt ρ i with
 | .ov (.dt bL)=>tk ρ fun rk=>match rk.val with
  | .tup es=>∃k n ds,iY es=some k/\bL.length<sizeLine/\(ig bL k)[n]?=some (k,ds)/\(∀j'<n,∀p,(ig bL k)[j']?=some p->p.1≠k)/\
   te (ρ.set i (.ov (.dt (ig bL k)))) fun r=>ds.length<sizeLine/\D.nx (ρ.set i (.ov (.dt ((ig bL k).set n (k,ds++[r.val])))))
  | _=>False
 | _=>False
theorem xx(hu:X.A.units+64<cLine)(i:Nat){x:Str}{y:Expr}{p1 p2 p3 p4 p5 pos':Pos}{tk:TD}(hk:PD X y tk)(he:PD X e te)(hN:X.N[i]?=some x:=by rfl)(hv:jf X.env.scope x:=by first | exact Or.inl rfl | exact Or.inr (Or.inl rfl) | exact Or.inr (Or.inr rfl))(hd:(x==("__debug__":Str))=false:=by decide)(eB:(x==("__classdict__":Str))=false:=by decide)
  (fW:starEach [e] X.env=(false,eval e X.env)::starEach [] X.env:=by rfl) (m:M2 X (.Name x p1) "setdefault" p2 y (.List [] p3) p4:=by exact⟨rfl,rfl,rfl,rfl⟩)
  (hb:∀{ta:TE} {t:TA},PE X (.Call (.Attribute (.Name x p1) "setdefault" p2) [y,.List [] p3] [] p4) ta->PA X [e] t->PE X (.Call (.Attribute (.Call (.Attribute (.Name x p1) "setdefault" p2) [y,.List [] p3] [] p4) "append" p5) [e] [] pos') (sQ X.K "list" ux ta t):=by intro ta t h1 h2;exact sf PySem.F.plainAttrs_list PySem.F.slot_list_append PySem.F.type_list_append ye h1 h2) :
  PX X (.Expr (.Call (.Attribute (.Call (.Attribute (.Name x p1) "setdefault" p2) [y,.List [] p3] [] p4) "append" p5) [e] [] pos') pos) (oe i tk te):=by
 obtain⟨t,p,q⟩:=he;obtain⟨Rv,pk,qk⟩:=hk;refine⟨_,sF (hb (JQ hu (j8 hN hv hd eB) pk (DU mN) m) (mP p mN fW)),fun ρ σ G0 H0 G H D E k h g=>?_⟩;unfold oe at h;split at h
 ·rename_i bL hg;obtain⟨own,o1,o2⟩:=k.on;obtain⟨a,RQ,b1,RV,⟨Pr,Ra,QD,_⟩,RU⟩:=o2 i _ hg;refine⟨_,b1,a,rfl,⟨Pr,Ra,.inl QD⟩,qk ρ σ G0 H0 G H _ _ k h fun vk Hk rk Gk xk O4 BK=>?_⟩;obtain⟨G2,x2,pW,_⟩:=O4.freeze xk;split at BK;rotate_left
  ·exact BK.elim
  rename_i es e2;obtain⟨key,n,ds,yD,hlen,hj,rA,lY⟩:=BK;rw[e2] at pW;simp only[Rep] at pW;obtain⟨bb,vs,rfl,yG,O0⟩:=pW;have E2:=k.ext x2;have s2:bT G G2:=x2.g;have dz:i<ρ.length:=r8 hg (by simp);obtain⟨Pf,Ry,Pl⟩:=E2.on;obtain⟨a2,fp,Hh,b2,⟨ks,bs,ha,vW,BZ,RL,hr⟩,b4⟩:=Pl i _ hg;rw[b1] at Hh;cases Hh;have hb:Hk bb=some (.tup vs):=E2.e.s _ _ yG;have Ha:=qG O0 yD;have tj:ks.length=bL.length:=by have:=congrArg List.length BZ;simpa using this
  have qg:=hg;have BU:=dz;have QS:=yG;generalize RE:ρ=ρ' at *;generalize hH:Hk=H1 at *
  -- behind qN
  have fin:∀(H5:Hp) (v:V) (Q5:VK),cF X.K G0 H0 (ρ'.set i (.ov (.dt (ig bL key)))) σ G2 H5->(∀oJ wK,H5 a=some (.dT oJ wK)->gq oJ key=some v)->(∀H',E.nx σ H'->Q5 .non H')->
    vd X.K "list" v H5/\t σ H5 fun w H6=>ux v [w] H6 Q5:=by
   intro H5 v Q5 E5 PY QG;have GL:gt (ρ'.set i (.ov (.dt (ig bL key)))) i=.ov (.dt (ig bL key)):=by rw[ot,if_pos ⟨rfl,BU⟩]
   obtain⟨Pe,_,o5⟩:=E5.on;obtain⟨a',QW,c1,c2,⟨oJ,wK,d1,dk,d2,d3,d4⟩,c4⟩:=o5 i _ GL;rw[b1] at c1;cases c1;obtain⟨qa,xs,f1,f2,f3⟩:=d4.get (j:=n) (ds:=ds) (by rw[ai,hj];rfl);have Qm:oJ[n]?=some (key,.ref qa):=by
    have e1:=congrArg (fun l=>l[n]?) d2;have e2:=congrArg (fun l=>l[n]?) d3;simp only[ai,hj,f1,bz] at e1 e2;cases tj:oJ[n]? with
    | none=>rw[tj] at e1;cases e1
    | some p=>
     rw[tj] at e1 e2;simp only[bz,aG] at e1 e2;obtain⟨p1,p2⟩:=p;simp only at e1 e2;rw[e1,e2]
   have hv:v=.ref qa:=by
    have e1:=MA Qm fun j' Qp p hp z=>by
     have e1:=congrArg (fun l=>l[j']?) d2;simp only[ai,hp,bz] at e1;cases ht:(ig bL key)[j']? with
     | none=>rw[ht] at e1;cases e1
     | some p'=>
      rw[ht] at e1;simp only[bz,aG] at e1;exact rA j' Qp p' ht (by rw[<-e1];exact z)
    rw[PY oJ wK d1] at e1;injection e1
   subst hv;refine⟨.inl ⟨rfl,xs,dP.of f2⟩,q _ σ G0 H0 G2 H5 _ _ E5 lY fun w H7 r G7 x7 O5 GA=>?_⟩;obtain⟨G8,x8,O1,_⟩:=O5.freeze x7;refine⟨qa,xs,w,rfl,rfl,x8.h _ _ f2,by rw[f3.length];exact GA.1,QG _ (g.nx _ _ G8 _ (s2.trans x8.g) ?_ GA.2)⟩;have E9:=(E5.ext x8).eI (o':=.dt ((ig bL key).set n (key,ds++[r.val]))) (H':=upd H7 qa (.lst (xs++[w]))) GL b1 fun gx nd ow=>?_
   ·rw[List.set_set] at E9;exact E9
   ·obtain⟨qY,qm,e1,ek,e2,e3,e4⟩:=ow;have Cu:qY=oJ:=by
     have:=(x8.h _ _ d1).symm.trans e1;injection this with this
     injection this with this
     exact this.symm
    subst Cu;have Q2:gx=QW:=(List.map_inj_right fun a b h=>by cases h;rfl).mp (e3.symm.trans d3);subst Q2;have iU:=aS.mp nd;have Gz:qa∈gx:=ax f1;refine⟨gx,nd,⟨qY,qm,?_,ek,?_,e3,?_⟩,fun q hq=>.inl hq,fun b hb _=>cK fun z=>hb (by rw[z];exact au _ Gz)⟩
    ·rw[cK (fun z:a=qa=>iU.1 (z▸Gz))];exact e1
    ·rw[e2,List.map_set];apply List.ext_getElem?;intro m;rw[List.getElem?_set];split
     ·rename_i hn;subst hn;rw[ai,hj];simp only[bz,ae];rw[if_pos (ag.mp hj).1]
     ·rfl
    ·rw[List.map_set];exact e4.set ((f3.mono x8.g).append (bJ.cons O1 bJ.nil)) iU.2 f1
  refine⟨aU _,fun l hl=>?_⟩;have nZ:a≠l:=fun z=>by rw[<-z,ha] at hl;cases hl
  have BW:bb≠l:=fun z=>by rw[<-z,hb] at hl;cases hl
  refine⟨ks,bs,key,bb,by rw[cK nZ];exact ha,rfl,by rw[cK BW,<-Ha];exact hb,by rw[tj];exact hlen,fun v hv=>?_,fun hn ep=>?_⟩
  ·have ht:ig bL key=bL:=by
    unfold ig;rw[if_pos];rw[<-Fw BZ,yf,hv];rfl
   have E3:=E2.ext (.own E2.e.s hl (o:=.lst []));have E4:cF X.K G0 H0 (ρ'.set i (.ov (.dt (ig bL key)))) σ G2 (upd H1 l (.lst [])):=by
    rw[ht];exact E3.eI qg b1 fun gx nd ow=>⟨gx,nd,ow,fun q hq=>.inl hq,fun _ _ _=>rfl⟩
   refine fin _ v (fun _ H'=>E.nx σ H') E4 (fun oJ wK h5=>?_) fun H' h'=>h'
   rw[cK nZ,ha] at h5;cases h5;exact hv
  ·have Ce:(bL.any fun kv=>decide (kv.1=key))=false:=by rw[<-Fw BZ,yf,hn];rfl
   have GR:(ks.any fun kv=>decide (kv.1=key))=false:=by rw[yf,hn];rfl
   have ht:ig bL key=bL++[(key,[])]:=by
    unfold ig;rw[Ce];rfl
   have E4:cF X.K G0 H0 (ρ'.set i (.ov (.dt (ig bL key)))) σ G2 (upd (upd H1 l (.lst [])) a (.dT (ks++[(key,.ref l)]) (bs.1++[bb],ep))):=by
    rw[ht];refine E2.eI qg b1 fun gx nd ow=>?_
    obtain⟨qY,qm,e1,ek,e2,e3,e4⟩:=ow;have Cu:qY=ks/\qm=bs:=by
     have:=ha.symm.trans e1;injection this with this
     injection this with mV mU
     exact⟨mV.symm,mU.symm⟩
    obtain⟨rfl,rfl⟩:=Cu;have vV:l∉a::gx:=fun z=>by
     rcases ar.mp z with z | z
     ·exact nZ z.symm
     ·exact e4.here l z hl
    have QC:a∉gx:=(aS.mp nd).1;refine⟨gx++[l],?_,⟨_,_,fq,?_,by simp[e2],by simp[e3],?_⟩,fun q hq=>?_,fun b hb hn=>?_⟩
    ·rw[aS] at nd ⊢;refine⟨fun z=>?_,?_⟩
     ·rcases aD.mp z with z | z
      ·exact nd.1 z
      ·simp at z;exact nZ z
     ·rw[List.nodup_append];refine⟨nd.2,by simp,fun x hx y hy=>?_⟩;simp at hy;subst hy;exact fun z=>vV (au _ (z▸hx))
    ·exact cC.snoc (by rw[<-Ha];exact QS) ek
    ·rw[aA];refine bR.snoc (zs:=[]) (e4.mono (bT.refl _) fun q hq xs e=>?_) ?_ bJ.nil
     ·rw[cK (fun z:q=a=>QC (z▸hq)),cK (fun z:q=l=>vV (au _ (z▸hq)))];exact e
     ·rw[cK nZ.symm];exact fq
    ·rcases ar.mp hq with rfl | hq
     ·exact .inl (by simp)
     ·rcases aD.mp hq with hq | hq
      ·exact .inl (au _ hq)
      ·simp at hq;subst hq;exact .inr hl
    ·rw[cK (fun z:b=a=>hb (by rw[z];simp)),cK (fun z:b=l=>hn (by rw[z];exact hl))]
   refine fin _ _ (fun _ H'=>E.nx σ H') E4 (fun oJ wK h5=>?_) fun H' h'=>h'
   rw[fq] at h5;cases h5;have:=yf (ks:=ks) (k:=key);exact Mi hn
 ·exact h.elim
end
end L2
namespace PySem
open Sem (wp)
section
variable {prog:Program} {w:World} {A:Around} {E:Value->Shared->Prop} {s:Shared} {d it v:Addr} {es:Array DictEntry} {ep i:Nat}
theorem My(d:Addr)(hd:(d==sysModules)=false) :
  MeetsIn prog w (Builtin.«dict.values» ⟨[.ref d],[]⟩) (fun _ R s=>s.TypeIs (.ref d) "dict"/\R (.ok (.ret (.ref s.heap.objs.size))) { s with heap:=s.heap.push { cls:=.type "dict_values",data:=.fields #[.ref d] } }):=
 .of_wp fun A R s ⟨hT,h⟩=>by
  refine aa (m:=Builtin.Dict.noArgs _ _) ?_;unfold Builtin.Dict.noArgs;refine aa (wpAny_notOrdered_dict hT (show wpAny _ _ (pure d) _ _ s from ah ?_));show wpAny _ _ (Builtin.Dict.showsAll d >>= _) _ _ s;unfold Builtin.Dict.showsAll;rw[if_neg (by rw[hd];exact aw)];exact aa (ah (aa (bc (ah ⟨_,rfl,h⟩))))
theorem Mt{Q:Value->Shared->Prop}(hv:s.heap.IsValuesView v d)(x:eS s.heap d es ep)
  (q:Q (.ref s.heap.objs.size) { s with heap:=s.heap.push { cls:=.type "dict_valueiterator",data:=.fields #[.ref d,.int 0 0,.int es.size 0,.int ep 0] } }):wpAny (model prog w) A (pyIter (.ref v)) Q E s:=by
 obtain⟨ov,Qa,RO,Qu⟩:=id hv;obtain⟨od,jW,_,jX⟩:=id x;refine wpAny_pyIter_slot hv.typeIs F.slot_dict_values_iter (wpAny_call_entry F.slot_dict_values_iter hv.typeIs F.entry_dict_values_iter ?_ (F.args_dict_values_iter_1 _));unfold Builtin.«dict_values.__iter__»;refine aa (ah (aa (m:=Builtin.Dict_items.dictOf _) ?_));unfold Builtin.Dict_items.dictOf;refine aa (wpAny_field Qa Qu (x:=.ref d) rfl (ah (aa (m:=Builtin.Dict_items.newIterator _ _) ?_)));unfold Builtin.Dict_items.newIterator;refine aa (wpAny_dictEntries jW jX (aa (wpAny_dictEpoch jW jX ?_)));simp only[show Builtin.Dict_items.ownsTuple "dict_valueiterator"=false by decide,aO,bp];refine bc (ah ⟨_,rfl,"dict_valueiterator",_,⟨_,az _ rfl,rfl⟩,F.slot_dict_valueiterator_next.lookup,?_⟩);simpa[rawInt] using q
theorem Ms{Q:Option Value->Shared->Prop}(t:s.heap.IsValIter it d i es.size ep)(x:eS s.heap d es ep)(hi:i<es.size)
  (q:∀h',h'.IsValIter it d (i+1) es.size ep->Heap.SameBut it s.heap h'->Q (some es[i].val) { s with heap:=h' }):wpAny (model prog w) A (pyNext (.ref it)) Q E s:=by
 obtain⟨oi,l5,wH,kF⟩:=id t;obtain⟨od,jW,_,jX⟩:=id x;unfold pyNext;refine aa (wpAny_attempt (wpAny_callSpecial?_slot (name:=Str.ofString "__next__") t.typeIs F.slot_dict_valueiterator_next
  (wpAny_call_entry F.slot_dict_valueiterator_next t.typeIs F.entry_dict_valueiterator_next ?_ (F.args_dict_valueiterator_next_1 _))))
 refine aa (ah (aa (aa ?_)));refine aa (wpAny_typeNameOfWhole_valiter t.typeIs (ah (aa (wpAny_fieldsOf l5 kF ?_))));simp only[show Builtin.Dict_items.ownsTuple "dict_valueiterator"=false by decide,aO,bp];show wpAny _ _ (if (Value.ref d==Value.none)=true then _ else _) _ _ s;rw[if_neg (show ¬((Value.ref d==Value.none)=true) from aw)];refine aa (ah (aa (wpAny_dictEntries jW jX ?_)));rw[if_neg (by simp)];refine aa (ah (aa (wpAny_dictEpoch jW jX ?_)));rw[if_neg (by simp)];refine ah ?_;simp only[show ¬((i:Int)<0) from by omega,bp,Int.toNat_natCast,Array.getElem?_eq_getElem hi];refine aa (aa (wpAny_typeNameOfWhole_valiter t.typeIs (ah (aa (wpAny_isOneOf_valiter t.typeIs ?_)))));show wpAny _ _ (setField (.ref it) 1 (rawInt ((i:Int)+1)) >>= _) _ _ s;refine aa (wpAny_setField l5 kF (by simp) ?_);have t':(s.heap.update it (Obj.mapFields (·.setIfInBounds 1 (rawInt ((i:Int)+1))))).IsValIter it d (i+1) es.size ep:=
  ⟨_,Heap.get?_update_self _ l5 (Obj.isFreed_of_fields (Obj.data_mapFields kF _)),(Obj.cls_mapFields ..).trans wH,by rw[Obj.data_mapFields kF];simp[rawInt]⟩
 refine aa (br ?_);refine aa (wpAny_isOneOf_valiter (s:={ s with heap:=s.heap.update it (Obj.mapFields (·.setIfInBounds 1 (rawInt ((i:Int)+1)))) }) t'.typeIs ?_);refine aa (wpAny_isOneOf_valiter (s:={ s with heap:=s.heap.update it (Obj.mapFields (·.setIfInBounds 1 (rawInt ((i:Int)+1)))) }) t'.typeIs ?_);show wpAny _ _ (pure es[i].val) _ _ _;exact ah (ah ⟨_,rfl,ah (q _ t' (Heap.SameBut.update ..))⟩)
theorem KW{Q:Option Value->Shared->Prop}(hh:A.handled=none)(t:s.heap.IsValIter it d i es.size ep)(x:eS s.heap d es ep)(hi:es.size<=i)
  (q:∀h',Heap.ExtBut it s.heap h'->Q none { s with heap:=h' }):wpAny (model prog w) A (pyNext (.ref it)) Q E s:=by
 obtain⟨oi,l5,wH,kF⟩:=id t;obtain⟨od,jW,_,jX⟩:=id x;unfold pyNext;refine aa (wpAny_attempt (wpAny_callSpecial?_slot (name:=Str.ofString "__next__") t.typeIs F.slot_dict_valueiterator_next
  (wpAny_call_entry F.slot_dict_valueiterator_next t.typeIs F.entry_dict_valueiterator_next ?_ (F.args_dict_valueiterator_next_1 _))))
 refine aa (ah (aa (aa ?_)));refine aa (wpAny_typeNameOfWhole_valiter t.typeIs (ah (aa (wpAny_fieldsOf l5 kF ?_))));simp only[show Builtin.Dict_items.ownsTuple "dict_valueiterator"=false by decide,aO,bp];show wpAny _ _ (if (Value.ref d==Value.none)=true then _ else _) _ _ s;rw[if_neg (show ¬((Value.ref d==Value.none)=true) from aw)];refine aa (ah (aa (wpAny_dictEntries jW jX ?_)));rw[if_neg (by simp)];refine aa (ah (aa (wpAny_dictEpoch jW jX ?_)));rw[if_neg (by simp)];refine ah ?_;simp only[show ¬((i:Int)<0) from by omega,bp,Int.toNat_natCast,Array.getElem?_eq_none hi];refine aa (aa (wpAny_typeNameOfWhole_valiter t.typeIs (ah ?_)));show wpAny _ _ (setField (.ref it) 0 .none >>= _) _ _ s;refine aa (wpAny_setField l5 kF (by simp) ?_);show wpAny _ _ (newExc (.type "StopIteration") [] >>= _) _ _ _;refine aa ?_;simp only[newExc,newTuple];refine aa (bc (aa (m:=firstArgMember _ _) (wpAny_of_eq (a:=Value.none) (by first | rfl | (simp only[firstArgMember];rfl)) (bc ?_ (by size_fits)))) (by size_fits));simp only[raiseNew];refine aa (wpAny_handled ?_);rw[show A.in1.handled=none from hh];refine aa (ah (wpAny_throw ?_));refine aa (wpAny_isInstance (T:="StopIteration") (b:=true) ⟨_,az _ rfl,rfl⟩ isSubtype_stop ?_);exact ah (q _ (((Heap.SameBut.update ..).extBut.push _).push _))
end
end PySem
namespace L2
open PySem PySem.Spec PyProof.Rows
theorem sm{P:Program}{w:World}{H:Hp}{h:Heap}{a:Addr}{bL:List (List Key×V)}{bs:List Addr×Nat}(ok:gL P w H h)(e:H a=some (.dT bL bs)):(a==sysModules)=false/\
  ∃xs es,xs.map (fun x=>x.2.1)=bs.1/\KT H bL xs/\eS h a es bs.2/\es.toList=xs.map (entryOfKey (tupleKind (j9 P w))):=by
 obtain⟨z,y,xs,bq,r,o,es,ep,h1,h2,h3,h4,h5,h6⟩:=(show cH P w H h a (.dT bL bs) from Dl ok (.inl e))
 rw[h6] at h3;exact⟨y,xs,es,bq,r,⟨o,h1,h2,h3⟩,h4⟩
noncomputable def yW(a:Addr)(ks:List (List Key×V))(bs:List Addr×Nat):It:=⟨fun i H=>i<bs.1.length/\H a=some (.dT ks bs),fun i H v H'=>H'=H/\∃b,bs.1[i]?=some b/\v=.ref b,fun i H=>i=bs.1.length/\H a=some (.dT ks bs)⟩
theorem Mx{P:Program}{w:World}{K:PySem.W.Frag}{tg:Expr}{a it:Addr}{ks:List (List Key×V)}{bs:List Addr×Nat}:Turn P w K tg (yW a ks bs) [it] it (fun i h=>h.IsKeyIter it a i bs.1.length bs.2) where
 mem:=by simp
 obj:=fun i h st b hb=>by
  have e:b=it:=by simpa using hb
  subst e;obtain⟨o,e,c,d⟩:=st;exact⟨o,e,fun v z=>by rw[d] at z;cases z⟩
 keep:=fun i h h' st k=>by
  obtain⟨o,e,r⟩:=st;exact⟨o,k it (by simp) o e,r⟩
 item:=by
  intro X hP hw hK hc i pins s σ H E I hf st hg;subst hP hw hK;obtain⟨hi,ha⟩:=(show i<bs.1.length/\H a=some (.dT ks bs) from hg)
  obtain⟨hd,xs,es,bq,rel,raw,l4⟩:=sm I.cB ha;have hlen:bs.1.length=es.size:=by rw[<-bq,<-aM,l4,ae,ae]
  rw[hlen] at st;have tq:i<es.size:=by omega
  refine K2 st raw tq fun h' dZ sb=>?_
  have kk:∀b o,b∉[it]->s.heap.get? b=some o->h'.get? b=some o:=fun b o hb e=>sb.extBut b o (fun z=>hb (by simp[z])) e
  have I1:Inv X pins σ H { s with heap:=h',toks:=s.toks }:=I.cZ (fp:=[it]) kk hf;obtain⟨o,e,c',d⟩:=id dZ;have kC:es[i].key=Value.ref (bs.1[i]):=by
   have e1:es.toList[i]?=some es[i]:=by rw[Array.getElem?_toList,Array.getElem?_eq_getElem tq]
   rw[l4,ai] at e1;obtain⟨x,hx,e2⟩:=aK.mp e1;rw[<-e2];have e3:=congrArg (fun l=>l[i]?) bq;simp only[ai,hx,bz,ab hi,aG] at e3;rw[<-e3];rfl
  rw[kC];refine⟨_,rfl,qv (s:={ s with heap:=h',toks:=s.toks }) e c' d (by decide) ⟨.ref bs.1[i],H,I1,rfl,⟨rfl,_,ab hi,rfl⟩,?_,fun b hb=>(hf b hb).1⟩⟩;rw[hlen];exact dZ
 done:=by
  intro X hP hw hK hc i pins s σ H E I hf st hg;subst hP hw hK;obtain⟨hi,ha⟩:=(show i=bs.1.length/\H a=some (.dT ks bs) from hg)
  obtain⟨hd,xs,es,bq,rel,raw,l4⟩:=sm I.cB ha;have hlen:bs.1.length=es.size:=by rw[<-bq,<-aM,l4,ae,ae]
  subst hi;rw[hlen] at st;exact KL (I.ok.hd hc) st raw (ay _) fun h' eb=>⟨rfl,I.cZ (fp:=[it]) (t':=s.toks) (fun b o hb q=>eb b o (fun z=>hb (by simp[z])) q) hf⟩
 self:=fun A i s Q E st q=>wpAny_pyIter_keyiter st q
noncomputable def yV(a:Addr)(ks:List (List Key×V))(bs:List Addr×Nat):It:=⟨fun i H=>i<ks.length/\H a=some (.dT ks bs),fun i H v H'=>H'=H/\∃p,ks[i]?=some p/\v=p.2,fun i H=>i=ks.length/\H a=some (.dT ks bs)⟩
theorem Mw:entryFor table "dict_valueiterator.__iter__"=some Builtin.«dict_keyiterator.__iter__»:=entryFor_alias (id':="dict_keyiterator.__iter__") (by kernel_rfl) rfl (by decide +kernel) (by kernel_rfl)
theorem Mv{P:Program}{w:World}{K:PySem.W.Frag}{tg:Expr}{a it:Addr}{ks:List (List Key×V)}{bs:List Addr×Nat}:Turn P w K tg (yV a ks bs) [it] it (fun i h=>h.IsValIter it a i ks.length bs.2) where
 mem:=by simp
 obj:=fun i h st b hb=>by
  have e:b=it:=by simpa using hb
  subst e;obtain⟨o,e,c,d⟩:=st;exact⟨o,e,fun v z=>by rw[d] at z;cases z⟩
 keep:=fun i h h' st k=>by
  obtain⟨o,e,r⟩:=st;exact⟨o,k it (by simp) o e,r⟩
 item:=by
  intro X hP hw hK hc i pins s σ H E I hf st hg;subst hP hw hK;obtain⟨hi,ha⟩:=(show i<ks.length/\H a=some (.dT ks bs) from hg)
  obtain⟨hd,xs,es,bq,rel,raw,l4⟩:=sm I.cB ha;have hlen:ks.length=es.size:=by rw[Paired.length rel,<-aM,l4,ae]
  rw[hlen] at st;have tq:i<es.size:=by omega
  refine Ms st raw tq fun h' dZ sb=>?_
  have kk:∀b o,b∉[it]->s.heap.get? b=some o->h'.get? b=some o:=fun b o hb e=>sb.extBut b o (fun z=>hb (by simp[z])) e
  have I1:Inv X pins σ H { s with heap:=h',toks:=s.toks }:=I.cZ (fp:=[it]) kk hf;obtain⟨o,e,c',d⟩:=id dZ;have n0:i<xs.length:=by rw[<-Paired.length rel];exact hi
  have BF:es[i].val=xs[i].2.2:=by
   have e1:es.toList[i]?=some es[i]:=by rw[Array.getElem?_toList,Array.getElem?_eq_getElem tq]
   rw[l4,ai,ab n0] at e1;simp only[bz,aG] at e1;rw[<-e1];rfl
  have pr:=Fg rel (ab hi) (ab n0);rw[BF];refine⟨_,rfl,qv (s:={ s with heap:=h',toks:=s.toks }) e c' d (by decide) ⟨ks[i].2,H,I1,pr.2.2,⟨rfl,_,ab hi,rfl⟩,?_,fun b hb=>(hf b hb).1⟩⟩;rw[hlen];exact dZ
 done:=by
  intro X hP hw hK hc i pins s σ H E I hf st hg;subst hP hw hK;obtain⟨hi,ha⟩:=(show i=ks.length/\H a=some (.dT ks bs) from hg)
  obtain⟨hd,xs,es,bq,rel,raw,l4⟩:=sm I.cB ha;have hlen:ks.length=es.size:=by rw[Paired.length rel,<-aM,l4,ae]
  subst hi;rw[hlen] at st;exact KW (I.ok.hd hc) st raw (ay _) fun h' eb=>⟨rfl,I.cZ (fp:=[it]) (t':=s.toks) (fun b o hb q=>eb b o (fun z=>hb (by simp[z])) q) hf⟩
 self:=fun A i s Q E st q=>by
  have hT:s.TypeIs (.ref it) "dict_valueiterator":=st.typeIs;refine wpAny_pyIter_slot hT PySem.F.slot_dict_valueiterator_iter (wpAny_call_entry PySem.F.slot_dict_valueiterator_iter hT Mw ?_ (PySem.F.args_dict_valueiterator_iter_1 _));show wpAny _ _ (ret (.ref it)) _ _ s;exact ah ⟨_,rfl,"dict_valueiterator",_,hT,PySem.F.slot_dict_valueiterator_next.lookup,q⟩
section
variable {X:Cx} {tg:Expr}
def Jk(tl:TE):TI:=fun σ H R=>tl σ H fun x H1=>∃a ks bs,x=.ref a/\H1 a=some (.dT ks bs)/\R (yW a ks bs) H1
theorem KU{l:Expr}{tl:TE}(hl:PE X l tl):PI X tg l (Jk tl):=by
 intro pins s σ H R I h;refine cA (hl pins s σ H _ I h) fun v s1 bW=>?_
 obtain⟨x,H1,I1,r1,q1⟩:=bW;obtain⟨a,ks,bs,e,ha,q⟩:=q1;subst e;cases r1;obtain⟨hd,xs,es,bq,rel,raw,l4⟩:=sm I1.cB ha;have hlen:bs.1.length=es.size:=by rw[<-bq,<-aM,l4,ae,ae]
 refine K3 hd raw ?_;refine⟨s1.heap.objs.size,[s1.heap.objs.size],_,_,H1,rfl,I1.kept (t':=s1.toks) fun b o e=>aj _ e,Mx,⟨_,az _ rfl,rfl,by rw[hlen];rfl⟩,fun b hb=>?_,q⟩;have e:b=s1.heap.objs.size:=by simpa using hb
 subst e;exact I1.hZ (ay _) (I1.cB.fresh (ay _))
def Jj(tl:TE):TI:=fun σ H R=>tl σ H fun x H1=>∃a ks bs,x=.ref a/\H1 a=some (.dT ks bs)/\R (yV a ks bs) H1
theorem LC{o:Expr}{to:TE}{apos de:Pos}(ho:PE X o to)(gk:attributeBase o "values" X.env (eval o X.env)=eval o X.env:=by rfl)(gj:(apos.endLine==de.line)=true:=by rfl) :
  PI X tg (.Call (.Attribute o "values" apos) [] [] de) (Jj to):=by
 intro pins s σ H R I h;refine wpAny_Call_method0_late gk gj (cA (ho pins s σ H _ I h) fun v s1 bW=>?_);obtain⟨x,H1,I1,r1,a,ks,bs,ex,hk,q⟩:=bW;subst ex;obtain⟨h1,h2,_⟩:=zp I1 ⟨ks,bs,.inl hk⟩;obtain rfl:v=Value.ref a:=r1;refine⟨"dict","dict.values",PySem.F.plainAttrs_dict,PySem.F.slot_dict_values,PySem.F.type_dict_values,h1,h2,Calls.callWith_builtin rfl (PySem.evalArgs_none ?_)⟩;obtain⟨hd,xs,es,bq,rel,raw,l4⟩:=sm I1.cB hk;have hlen:ks.length=es.size:=by rw[Paired.length rel,<-aM,l4,ae]
 refine call_meetsIn PySem.F.slot_dict_values h1 PySem.F.entry_dict_values (PySem.F.args_dict_values_1 _) (My a hd) ⟨h1,?_⟩;have PV:(s1.heap.push { cls:=.type "dict_values",data:=.fields #[.ref a] }).IsValuesView s1.heap.objs.size a:=⟨_,az _ rfl,rfl,rfl⟩
 refine Mt PV (raw.kept fun o e=>aj _ e) ?_;refine⟨_,[_],_,_,H1,rfl,(I1.kept (t':=s1.toks) fun b o e=>aj _ e).kept (t':=s1.toks) fun b o e=>aj _ e,Mv,⟨_,az _ rfl,rfl,by rw[hlen];rfl⟩,fun b hb=>?_,q⟩;have e:b=(s1.heap.push { cls:=.type "dict_values",data:=.fields #[.ref a] }).objs.size:=by simpa using hb
 subst e;rw[Heap.size_push];exact I1.hZ (Nat.le_succ _) (I1.cB.fresh (Nat.le_succ _))
noncomputable def wW(k:List Key):D:=.tup (k.map wX)
theorem cC.length{G:Hp}:∀{ps:List (List Key×V)} {bs:List Addr},cC G ps bs->ps.length=bs.length
 | [],[],_=>rfl
 | p::ps,b::bs,h=>by rw[aI,aI,cC.length h.2]
 | [],_::_,h=>h.elim
 | _::_,[],h=>h.elim
theorem Fu{K:PySem.W.Frag}{G:Hp}:∀(k:List Key),bJ K G (k.map kV) (k.map wX)
 | []=>bJ.nil
 | a::k=>bJ.cons (KO a) (Fu k)
theorem M1{K:PySem.W.Frag}{G:Hp}{a:Addr}{ks:List (List Key×V)}{bs:List Addr×Nat}{bL:List (List Key×D)}(h:G a=some (.dT ks bs))(hk:cC G ks bs.1)(r:bS K G ks bL):mf K (yW a ks bs) G (bL.map fun p=>wW p.1):=by
 have hl:=r.length;have hb:=hk.length;refine⟨fun i d G' H' hd s1 s2=>?_,fun G' H' s1 s2=>⟨by rw[ae];omega,s2 _ _ (s1 _ _ h)⟩⟩;rw[ai] at hd;obtain⟨p,hp,rfl⟩:=aK.mp hd;have hi:i<bL.length:=(ag.mp hp).1;refine⟨⟨by omega,s2 _ _ (s1 _ _ h)⟩,fun v H2 hy=>?_⟩;obtain⟨rfl,b,rD,rfl⟩:=hy;refine⟨G',.refl s2,?_⟩;have e:H2 b=some (.tup (p.1.map kV))/\G' b=some (.tup (p.1.map kV)):=by
  have:=hk.at rD (k:=p.1) (by rw[r.keys,ai,hp];rfl);exact⟨s2 _ _ (s1 _ _ this),s1 _ _ this⟩
 simp only[wW,Rep];exact⟨b,_,rfl,e.2,Fu p.1⟩
theorem bS.at{K:PySem.W.Frag}{G:Hp}:∀{ks:List (List Key×V)} {bL:List (List Key×D)},bS K G ks bL->∀(i:Nat) {p:List Key×V} {q:List Key×D},ks[i]?=some p->bL[i]?=some q->Rep K G p.2 q.2
 | [],[],_,i,_,_,h,_=>by simp at h
 | a::ks,b::bL,r,i,p,q,h,h'=>by
  simp only[bS] at r;cases i with
  | zero=>
   simp only[List.getElem?_cons_zero,aG] at h h';subst h h';exact r.1.2
  | succ i=>exact bS.at r.2 i (by simpa using h) (by simpa using h')
 | [],_::_,r,_,_,_,_,_=>by simp only[bS] at r
 | _::_,[],r,_,_,_,_,_=>by simp only[bS] at r
theorem M0{K:PySem.W.Frag}{G:Hp}{a:Addr}{ks:List (List Key×V)}{bs:List Addr×Nat}{bL:List (List Key×D)}(h:G a=some (.dT ks bs))(r:bS K G ks bL):mf K (yV a ks bs) G (bL.map (·.2)):=by
 have hl:=r.length;refine⟨fun i d G' H' hd s1 s2=>?_,fun G' H' s1 s2=>⟨by rw[ae];exact hl.symm,s2 _ _ (s1 _ _ h)⟩⟩;rw[ai] at hd;obtain⟨p,hp,rfl⟩:=aK.mp hd;have hi:i<bL.length:=(ag.mp hp).1;refine⟨⟨by omega,s2 _ _ (s1 _ _ h)⟩,fun v H2 hy=>?_⟩;obtain⟨rfl,q,hq,rfl⟩:=hy;exact⟨G',.refl s2,(r.at i hq hp).mono s1⟩
def y4(te:TD):iG:=fun ρ Q=>te ρ fun r=>match r.val with
 | .dit bL=>Q (bL.map fun p=>wW p.1)
 | _=>False
theorem LB{l:Expr}{te:TD}(h:PD X l te):PId X tg l (y4 te):=by
 obtain⟨t,p,q⟩:=h;refine⟨_,KU p,fun ρ σ G0 H0 G H Q P E h k=>q ρ σ G0 H0 G H _ _ E h fun v H' r G' x rr hq=>?_⟩;obtain⟨G2,x2,rv,_⟩:=rr.freeze x;split at hq
 ·rename_i bL e;rw[e] at rv;simp only[Rep] at rv;obtain⟨a,ks,bs,rfl,h1,h2,h3⟩:=rv;exact⟨a,ks,bs,rfl,x2.s _ _ h1,k _ H' _ G2 x2 (M1 h1 h2 h3) hq⟩
 ·exact hq.elim
def ud(te:TD):iG:=fun ρ Q=>te ρ fun r=>match r.val with
 | .dit bL=>Q (bL.map (·.2))
 | _=>False
theorem FK{o:Expr}{te:TD}{apos de:Pos}(h:PD X o te)(gk:attributeBase o "values" X.env (eval o X.env)=eval o X.env:=by rfl)(gj:(apos.endLine==de.line)=true:=by rfl):PId X tg (.Call (.Attribute o "values" apos) [] [] de) (ud te):=by
 obtain⟨t,p,q⟩:=h;refine⟨_,LC p gk gj,fun ρ σ G0 H0 G H Q P E h k=>q ρ σ G0 H0 G H _ _ E h fun v H' r G' x rr hq=>?_⟩;obtain⟨G2,x2,rv,_⟩:=rr.freeze x;split at hq
 ·rename_i bL e;rw[e] at rv;simp only[Rep] at rv;obtain⟨a,ks,bs,rfl,h1,h2,h3⟩:=rv;exact⟨a,ks,bs,rfl,x2.s _ _ h1,k _ H' _ G2 x2 (M0 h1 h3) hq⟩
 ·exact hq.elim
end
end L2
namespace Ts
open PySem PySem.W PyProof.Rows
section
variable {α:Type} {lt:α->α->Bool} {l:List α} {a b:α}
noncomputable def i9(lt:α->α->Bool)(l:List α)(a:α):Int:=((l.countP fun b=>lt b a:Nat):Int)
theorem DI{p q:α->Bool}(h:∀x∈l,p x=true->q x=true):l.countP p<=l.countP q:=by
 induction l with
 | nil=>exact ay _
 | cons a r ih=>
  have:=ih fun x hx=>h x (au _ hx)
  rw[List.countP_cons,List.countP_cons];by_cases hp:p a=true
  ·rw[if_pos hp,if_pos (h a aH hp)];omega
  ·rw[if_neg hp];omega
theorem Ji{p q:α->Bool}(h:∀x∈l,p x=true->q x=true)(ha:a∈l)(hp:p a=false)(hq:q a=true):l.countP p<l.countP q:=by
 induction l with
 | nil=>cases ha
 | cons c r ih=>
  have h1:=DI (l:=r) fun x hx=>h x (au _ hx)
  rw[List.countP_cons,List.countP_cons];rcases ar.mp ha with z | ha
  ·subst z;rw[hp,hq];simp only[aO,bp,bE];omega
  ·have:=ih (fun x hx=>h x (au _ hx)) ha;by_cases hc:p c=true
   ·rw[if_pos hc,if_pos (h c aH hc)];omega
   ·rw[if_neg hc];omega
structure Ord (lt:α->α->Bool):Prop where
 tr:∀a b c,lt a b=true->lt b c=true->lt a c=true
 ir:∀a,lt a a=false
 A1:∀a b,a≠b->lt a b=true\/lt b a=true
theorem zE(O:Ord lt)(ha:a∈l):lt a b=decide (i9 lt l a<i9 lt l b):=by
 unfold i9;cases h:lt a b with
 | true=>
  symm
  rw[decide_eq_true_iff];have:=Ji (l:=l) (p:=fun c=>lt c a) (q:=fun c=>lt c b) (fun x _ hx=>O.tr _ _ _ hx h) ha (O.ir a) h;omega
 | false=>
  symm
  rw[decide_eq_false_iff_not];have:l.countP (fun c=>lt c b)<=l.countP (fun c=>lt c a):=by
   refine DI fun x _ hx=>?_
   by_cases e:a=b
   ·rw[e];exact hx
   ·rcases O.A1 a b e with z | z
    ·rw[z] at h;cases h
    ·exact O.tr _ _ _ hx z
  omega
theorem vv(O:Ord lt)(ha:a∈l)(hb:b∈l)(h:i9 lt l a<=i9 lt l b):lt b a=false:=by
 rw[zE O hb,decide_eq_false_iff_not];omega
end
noncomputable def dr(p q:Str×Int):Bool:=if p.1=q.1 then decide (p.2<q.2) else decide (p.1.cps.toList<q.1.cps.toList)
theorem JL{a b:Str}(h:a.cps.toList=b.cps.toList):a=b:=by
 cases a;cases b;simp only[Str.mk.injEq];exact Array.toList_inj.mp h
theorem eG:Ord dr:=by
 refine⟨fun a b c h1 h2=>?_,fun a=>?_,fun a b h=>?_⟩
 ·unfold dr at *;by_cases e1:a.1=b.1
  ·rw[if_pos e1] at h1;by_cases e2:b.1=c.1
   ·rw[if_pos e2] at h2;rw[if_pos (e1.trans e2)];simp only[aW] at *;omega
   ·rw[if_neg e2] at h2;rw[if_neg (by rw[e1];exact e2),e1];exact h2
  ·rw[if_neg e1] at h1;by_cases e2:b.1=c.1
   ·rw[if_neg (by rw[<-e2];exact e1),<-e2];exact h1
   ·rw[if_neg e2] at h2;simp only[aW] at h1 h2;have h3:=List.lt_trans h1 h2;rw[if_neg (fun z=>by rw[z] at h3;exact absurd h3 (List.lt_irrefl _))];simp only[aW];exact h3
 ·unfold dr;rw[if_pos rfl];simp
 ·unfold dr;by_cases e:a.1=b.1
  ·rw[if_pos e,if_pos e.symm];simp only[aW];have:a.2≠b.2:=fun z=>h (Prod.ext e z)
   omega
  ·rw[if_neg e,if_neg (fun z=>e z.symm)];simp only[aW];rcases Decidable.em (a.1.cps.toList<b.1.cps.toList) with z | z
   ·exact .inl z
   ·rcases Decidable.em (b.1.cps.toList<a.1.cps.toList) with y | y
    ·exact .inr y
    ·exact absurd (JL (List.le_antisymm (List.not_lt.mp y) (List.not_lt.mp z))) e
section
variable {prog:Program} {w:World} {A:Around} {E:Value->Shared->Prop} {s:Shared}
noncomputable def fc(h:Heap)(v:Value):Str×Int:=match v with
 | .ref a=>match h.get? a with
  | some o=>match o.data with
   | .seq xs _=>match xs.toList with
    | [.str x _,.int i _]=>(x,i)
    | _=>("",0)
   | _=>("",0)
  | none=>("",0)
 | _=>("",0)
def kG(h:Heap)(v:Value):Prop:=∃a o t u n,v=.ref a/\h.get? a=some o/\o.cls=.type "tuple"/\o.data=.seq #[.str (fc h v).1 t,.int (fc h v).2 u] n
theorem FW{h h':Heap}(k:∀b o,h.get? b=some o->h'.get? b=some o):∀{its:List Value},(∀v∈its,kG h v)->∃fs,KatTups h' its fs/\fs.length=its.length/\∀v∈fs,∃n t,v=Value.str n t
 | [],_=>⟨[],.nil,rfl,fun v hv=>by cases hv⟩
 | v::r,hv=>by
  obtain⟨fs,h1,h2,h3⟩:=FW k (its:=r) fun x hx=>hv x (au _ hx)
  obtain⟨a,o,t,u,n,rfl,ho,hc,hd⟩:=hv v aH
  exact⟨_,KatTups.cons (k _ _ ho) hc hd rfl h1,by simp[h2],fun x hx=>by
   rcases ar.mp hx with rfl | hx
   ·exact⟨_,_,rfl⟩
   ·exact h3 x hx⟩
theorem yd{its:List Value}{z:Keyed}(hz:z∈pairsOf its):z.1∈its:=by
 unfold pairsOf at hz;have Bx:z∈its.zip its:=by simpa using hz
 exact(List.of_mem_zip Bx).1
theorem o6{h h':Heap}{its:List Value}(k:∀b o,h.get? b=some o->h'.get? b=some o)(hv:∀v∈its,kG h v):Ask prog w A E its (fun x=>i9 dr (its.map (fc h)) (fc h x.1)) { s with heap:=h' }:=by
 refine⟨fun h2=>⟨tuples' (Value.type "str" != Value.type "tuple"),fun Q' q=>?_,⟨fun x y Q ox oy q=>?_⟩⟩⟩
 ·obtain⟨fs,h1,GV,h3⟩:=FW k hv;refine kat_kind (s:={ s with heap:=h' }) (T:=.type "str") h1 (by omega) (fun v hv=>?_) (by decide +kernel) q;obtain⟨n,t,rfl⟩:=h3 v hv;exact Looks.of_pure rfl
 ·have mx:=yd ox;have my:=yd oy;obtain⟨a,oa,t,u,n,ea,ga,ca,da⟩:=hv _ mx;obtain⟨b,ob,t',u',m,eb,gb,cb,db⟩:=hv _ my;rw[<-zE eG (List.mem_map_of_mem mx)] at q;generalize fc h x.1=p at *;generalize fc h y.1=p' at *;rw[ea,eb];have e2:(Value.type "str" != Value.type "tuple")=true:=by decide +kernel
  rw[e2];refine kat_lt (k _ _ ga) da (k _ _ gb) db ?_;refine kat_cons (wpAny_eqBool_str ?_);unfold dr at q;by_cases e:p.1=p'.1
  ·rw[if_pos e] at q;rw[bA e];refine kat_yes (kat_cons (wpAny_eqBool_int ?_));by_cases e3:p.2=p'.2
   ·simp only[beq_iff_eq.mpr e3];refine kat_yes (kat_nil ?_);rw[aF (by omega)] at q;exact q
   ·simp only[beq_eq_false_iff_ne.mpr e3];exact kat_no (kat_one _ _ (PyProof.Rows.lt_int q))
  ·rw[if_neg e] at q;rw[aF e];exact kat_no (oneLt_str q)
end
end Ts
namespace L2
open PySem PySem.Spec PyProof.Rows
noncomputable def yU(x:Str):It:=⟨fun i _=>i<x.cps.size,fun i H v H'=>∃t c,v=.ref t/\H t=none/\x.cps[i]?=some c/\H'=upd H t (.tup [.int i,.str ⟨#[c]⟩]),fun i _=>i=x.cps.size⟩
theorem MZ{P:Program}{w:World}{K:PySem.W.Frag}{elts:List Expr}{x1}{pos:Pos}{x:Str}{n:String}{t:Tok}(e it:Addr)(du:e≠it)
  (D:∀A':Around,A'.handled=none->Draws P w A' it [it] x.cps.size (fun i v=>∃c u,x.cps[i]?=some c/\v=.str ⟨#[c]⟩ u) (fun i h=>h.IsStrIter it n x t i)) :
  Turn P w K (.Tuple elts x1 pos) (yU x) [e,it] e (fun i h=>(∃old,IsEnum h e it i old)/\h.IsStrIter it n x t i) where
 mem:=by simp
 obj:=fun i h st b hb=>by
  obtain⟨⟨old,h1⟩,o,h2,c,d⟩:=st;rcases ar.mp hb with rfl | hb
  ·exact⟨_,h1,fun v z=>by have z':Data.fields _=Data.cell v:=z;cases z'⟩
  ·have e:b=it:=by simpa using hb
   subst e;exact⟨o,h2,fun v z=>by rw[d] at z;cases z⟩
 keep:=fun i h h' st k=>by
  obtain⟨⟨old,h1⟩,o,h2,r⟩:=st;exact⟨⟨old,k e (by simp) _ h1⟩,o,k it (by simp) o h2,r⟩
 item:=by
  intro X hP hw hK hc i pins s σ H E I hf st hg;subst hP hw hK;obtain⟨⟨old,h1⟩,h2⟩:=st;have rg:s.heap.objs.size≠e:=Nat.ne_of_gt (aB h1);have BH:s.heap.objs.size≠it:=by obtain⟨o,q,_⟩:=h2;exact Nat.ne_of_gt (aB q)
  refine wpAny_pyNext_enum_itemD (D _ (I.ok.hd hc)) h1 h2 hg du (by simpa using du) fun u h' tk hu e1 e2 e3 e4 kk=>?_
  obtain⟨c,t',hx,rfl⟩:=hu;refine⟨_,rfl,F3 e1 fun wx e5 sb=>?_⟩;have hT:=sb.extBut _ _ rg e3;have cY:H s.heap.objs.size=none:=I.cB.fresh (ay _);have new:cH X.prog X.w (upd H s.heap.objs.size (.tup [.int i,.str ⟨#[c]⟩])) wx s.heap.objs.size (.tup [.int i,.str ⟨#[c]⟩]):=⟨DP,[.int i tk,.str ⟨#[c]⟩ t'],.cons ⟨_,rfl⟩ (.cons ⟨_,rfl⟩ .nil),⟨_,hT,rfl,_,rfl⟩⟩
  have Q3:wx.IsStrIter it n x t (i+1):=by
   obtain⟨o,q,r⟩:=e2;exact⟨o,sb.extBut _ _ (Ne.symm du) q,r⟩
  refine⟨.ref s.heap.objs.size,upd H s.heap.objs.size (.tup [.int i,.str ⟨#[c]⟩]),I.iL (fp:=[e,it]) (fun b o hb q=>sb.extBut b o (fun z=>hb (by simp[z])) (kk b o (fun z=>hb (by simp[z])) (fun z=>hb (by simp[z])) q)) hf (ay _) new,rfl,
   ⟨_,c,rfl,cY,hx,rfl⟩,⟨⟨_,e5⟩,Q3⟩,DN (fun b hb=>(hf b hb).1) fun b hb=>?_⟩
  rcases ar.mp hb with rfl | hb
  ·exact rg.symm
  ·have z:b=it:=by simpa using hb
   rw[z];exact BH.symm
 done:=by
  intro X hP hw hK hc i pins s σ H E I hf st hg;subst hP hw hK;obtain⟨⟨old,h1⟩,h2⟩:=st;have e:i=x.cps.size:=hg;subst e;exact wpAny_pyNext_enum_endD (D _ (I.ok.hd hc)) h1 h2 fun h' eb=>⟨rfl,I.cZ (fp:=[e,it]) (t':=s.toks) (fun b o hb q=>eb b o (fun z=>hb (by simp[z])) q) hf⟩
 self:=fun _ _ _ _ _ st h=>by
  obtain⟨⟨old,h1⟩,_⟩:=st;exact wpAny_pyIter_enum h1 h
section
variable {X:Cx} {elts:List Expr} {x1:Nat} {mT:Pos}
def Jh(ta:TA):TI:=fun σ H R=>ta σ H fun vs H1=>∃z,vs=[.str z]/\R (yU z) H1
theorem LA{a:Expr}{ta:TA}{p pos:Pos}(hg:Gl X "enumerate")(hm:X.mg "enumerate"=none)(ha:PA X [a] ta)(hs:starEach [a] X.env=[(false,eval a X.env)]:=by rfl):PI X (.Tuple elts x1 mT) (.Call (.Name "enumerate" p) [a] [] pos) (Jh ta):=by
 intro pins s σ H R I h;refine Call_ (pJ I hg hm boot_enumerate (PyProof.Rows.callWith_type1 (cA (ha pos pins s σ H _ I h) fun us s1 bW=>?_) hs rfl));obtain⟨vs,H1,I1,r1,q1⟩:=bW;obtain⟨z,e,q⟩:=q1;subst e;obtain⟨u,rfl,t,rfl⟩:=mi r1;refine call_enumerate_str fun h' e1 e2 e3 kk=>wpAny_pyIter_enum e1 ?_
 have du:s1.heap.objs.size+1≠s1.heap.objs.size:=by omega
 have fin:∀n,(D:∀A':Around,A'.handled=none->Draws X.prog X.w A' s1.heap.objs.size [s1.heap.objs.size] z.cps.size (fun i v=>∃c u,z.cps[i]?=some c/\v=.str ⟨#[c]⟩ u) (fun i h=>h.IsStrIter s1.heap.objs.size n z t i))->
   h'.IsStrIter s1.heap.objs.size n z t 0->wN X pins σ (.Tuple elts x1 mT) R (.ref (s1.heap.objs.size+1)) { s1 with heap:=h' }:=fun n D st=>by
  refine⟨s1.heap.objs.size+1,[s1.heap.objs.size+1,s1.heap.objs.size],_,_,H1,rfl,I1.kept (t':=s1.toks) kk,MZ _ _ du D,⟨⟨_,e1⟩,st⟩,fun b hb=>?_,q⟩;have iV:s1.heap.objs.size<=b:=by
   rcases ar.mp hb with rfl | hb
   ·exact Nat.le_succ _
   ·have e:b=s1.heap.objs.size:=by simpa using hb
    exact Nat.le_of_eq e.symm
  exact I1.hZ iV (I1.cB.fresh iV)
 cases ha:z.cps.all (·<128)
 ·exact fin "str_iterator" (fun A' hA=>Draws.strWide hA _ z t) (by simpa[strIterType,ha] using e2)
 ·exact fin "str_ascii_iterator" (fun A' hA=>Draws.strAscii hA _ z t) (by simpa[strIterType,ha] using e2)
theorem MY{K:PySem.W.Frag}{G:Hp}(z:Str):mf K (yU z) G (nL (z.cps.toList.map fun c=>.str ⟨#[c]⟩)):=by
 refine⟨fun i d G' H' hd s1 s2=>?_,fun G' H' s1 s2=>by show _=_;simp[nL]⟩;unfold nL at hd;rw[List.getElem?_mapIdx,ai] at hd;cases e:z.cps.toList[i]? with
 | none=>rw[e] at hd;cases hd
 | some c=>
  rw[e] at hd;cases hd;have hc:z.cps[i]?=some c:=by simpa using e
  refine⟨(Array.getElem?_eq_some_iff.mp hc).1,fun v H2 hy=>?_⟩;obtain⟨t,c',rfl,ht,nu,rfl⟩:=hy;rw[hc] at nu;cases nu;have x2:Ext G' H' (upd G' t (.tup [.int i,.str ⟨#[c]⟩])) (upd H' t (.tup [.int i,.str ⟨#[c]⟩])):=.new s2 ht;exact⟨_,x2,EK fq (ie _ _ _) (by simp only[Rep])⟩
def pG(ts:iH):iG:=fun ρ Q=>ts ρ fun ds=>match ds with
 | [.str z]=>Q (nL (z.cps.toList.map fun c=>.str ⟨#[c]⟩))
 | _=>False
theorem Au{a:Expr}{ts:iH}{p pos:Pos}(hm:X.mg "enumerate"=none)(ha:l7 X [a] ts)(hg:Gl X "enumerate":=by rfl)(hs:starEach [a] X.env=[(false,eval a X.env)]:=by rfl):PId X (.Tuple elts x1 mT) (.Call (.Name "enumerate" p) [a] [] pos) (pG ts):=by
 obtain⟨t,pp,q⟩:=ha;refine⟨_,LA hg hm pp hs,fun ρ σ G0 H0 G H Q P E h k=>q ρ σ G0 H0 G H _ _ E h fun vs H' ds G' x rs hq=>?_⟩;split at hq
 ·obtain⟨v,rfl,rv⟩:=kL rs;simp only[Rep] at rv;subst rv;exact⟨_,rfl,k _ H' _ G' x (MY _) hq⟩
 ·exact hq.elim
end
noncomputable def y3(lo:Int)(n:Nat):It:=⟨fun i _=>i<n,fun i H x H'=>H'=H/\x=.int (lo+i*2),fun i _=>n<=i⟩
theorem Nf{P:Program}{w:World}{K:PySem.W.Frag}{tg:Expr}(it:Addr)(lo:Int)(n:Nat):Turn P w K tg (y3 lo n) [it] it (fun i h=>IsRangeIter h it (lo+(i:Nat)*2) ((n:Int)-(i:Nat)) 2) where
 mem:=by simp
 obj:=fun i h st b hb=>by
  have e:b=it:=by simpa using hb
  subst e
  exact⟨_,st,fun v z=>by
   have z':Data.fields _=Data.cell v:=z;cases z'⟩
 keep:=fun i h h' st k=>k it (by simp) _ st
 item:=by
  intro X hP hw hK hc i pins s σ H E I hf st hg;subst hP hw hK;have W:=Walks.range (prog:=X.prog) (w:=X.w) (I.ok.hd hc) it lo 2 n;refine W.item i s _ _ hg st fun v h' tk hv dZ kk=>?_
  obtain⟨t,rfl⟩:=hv;have I1:Inv X pins σ H { s with heap:=h',toks:=tk }:=I.cZ kk hf;exact⟨_,rfl,qv (s:={ s with heap:=h',toks:=tk }) (n:="range_iterator") dZ rfl rfl (by decide) ⟨.int (lo+i*2),H,I1,⟨t,rfl⟩,⟨rfl,rfl⟩,dZ,fun b hb=>(hf b hb).1⟩⟩
 done:=by
  intro X hP hw hK hc i pins s σ H E I hf st hg;subst hP hw hK;exact wpAny_pyNext_range_end (I.ok.hd hc) st (by have:n<=i:=hg;omega) fun h' eb=>⟨rfl,I.cZ (fp:=[it]) (t':=s.toks) (fun b o hb e=>eb b o (fun z=>hb (by simp[z])) e) hf⟩
 self:=fun _ _ _ _ _ st h=>wpAny_pyIter_rangeiter st h
theorem Fb{lo hi:Int}:Builtin.Range.rangeSize lo hi 2=(((hi-lo+1)/2).toNat:Int):=by
 unfold Builtin.Range.rangeSize;simp only[show(2:Int)>0 by decide,bE];split<;>omega
theorem Mr{lo hi:Int}(h:0<=lo/\lo<1000000/\0<=hi/\hi<1000000):Builtin.Range.small lo hi 2=true:=by
 unfold Builtin.Range.small;rw[Fb];simp only[Builtin.Range.rangeFitsLong,Bool.and_eq_true,Bool.or_eq_true,aW,beq_iff_eq,show(2:Int)>0 by decide,bE];omega
section
variable {X:Cx} {tg:Expr} {pos:Pos}
def IC(ta:TA):TI:=fun σ H R=>ta σ H fun vs H1=>∃i j:Int,vs=[.int i,.int j,.int 2]/\(0<=i/\i<1000000/\0<=j/\j<1000000)/\R (y3 i ((j-i+1)/2).toNat) H1
theorem Mq{a b c:Expr}{ta:TA}{p:Pos}(hg:Gl X "range")(hm:X.mg "range"=none)(ha:PA X [a,b,c] ta)(hs:starEach [a,b,c] X.env=(false,eval a X.env)::starEach [b,c] X.env:=by rfl)(vQ:(backTo pos (starEach [b,c] X.env)).any (·.1)=false:=by rfl) :
  PI X tg (.Call (.Name "range" p) [a,b,c] [] pos) (IC ta):=by
 intro pins s σ H R I h;refine Call_ (pJ I hg hm boot_range (PyProof.Rows.callWith_type1 (cA (ha pos pins s σ H _ I h) fun us s1 bW=>?_) hs vQ));obtain⟨vs,H1,I1,r1,q1⟩:=bW;obtain⟨lo,hi,e,hb,q⟩:=q1;subst e;cases r1 with
 | cons r rr=>
  cases rr with
  | cons r' rr=>
   cases rr with
   | cons O8 rr=>
    cases rr;obtain⟨t,rfl⟩:=r;obtain⟨t',rfl⟩:=r';obtain⟨yn,rfl⟩:=O8;refine call_range_3 (by decide) ?_ (Or.inl (PyProof.noPylong_small (by decide)));refine wpAny_pyIter_range (IsRange.new ..) (Mr hb) ?_;have I2:Inv X pins σ H1 { s1 with heap:=s1.heap.push { cls:=.type "range",data:=.fields #[.int lo t,.int hi t',.int 2 yn] },toks:=s1.toks }:=I1.kept fun b o e=>aj _ e
    refine⟨(s1.heap.push { cls:=.type "range",data:=.fields #[.int lo t,.int hi t',.int 2 yn] }).objs.size,[(s1.heap.push { cls:=.type "range",data:=.fields #[.int lo t,.int hi t',.int 2 yn] }).objs.size],_,_,H1,rfl,
     I2.kept (t':=s1.toks) fun b o e=>aj _ e,Nf _ lo _,?_,fun b hb=>?_,q⟩
    ·have e1:lo+((0:Nat):Int)*2=lo:=by simp
     have e2:((((hi-lo+1)/2).toNat:Nat):Int)-((0:Nat):Int)=Builtin.Range.rangeSize lo hi 2:=by rw[Fb];simp
     show IsRangeIter _ _ (lo+((0:Nat):Int)*2) (((((hi-lo+1)/2).toNat:Nat):Int)-((0:Nat):Int)) 2;rw[e1,e2];exact az _ rfl
    ·have e:b=(s1.heap.push { cls:=.type "range",data:=.fields #[.int lo t,.int hi t',.int 2 yn] }).objs.size:=by simpa using hb
     subst e;exact I2.hZ (ay _) (I2.cB.fresh (ay _))
theorem Nd{K:PySem.W.Frag}{G:Hp}(lo:Int)(n:Nat):mf K (y3 lo n) G ((List.range n).map fun(i:Nat)=>.int (lo+i*2)):=by
 refine⟨fun i d G' H' hd s1 s2=>?_,fun G' H' s1 s2=>?_⟩
 ·rw[ai] at hd;obtain⟨c,e,rfl⟩:=aK.mp hd;obtain⟨h1,h2⟩:=ag.mp e;have h3:i<n:=by simpa using h1
  have h4:c=i:=by rw[<-h2];simp
  subst h4;refine⟨h3,fun v H2 hy=>?_⟩;obtain⟨e2,rfl⟩:=hy;subst e2;exact⟨G',.refl s2,ie _ _ _⟩
 ·show n<=_;simp
def sh(ts:iH):iG:=fun ρ Q=>ts ρ fun ds=>match ds with
 | [.int i,.int j,.int k]=>k=2/\(0<=i/\i<1000000/\0<=j/\j<1000000)/\Q ((List.range ((j-i+1)/2).toNat).map fun(n:Nat)=>.int (i+n*2))
 | _=>False
theorem AM{a b c:Expr}{ts:iH}{p:Pos}(hm:X.mg "range"=none)(ha:l7 X [a,b,c] ts)(hg:Gl X "range":=by rfl)(hs:starEach [a,b,c] X.env=(false,eval a X.env)::starEach [b,c] X.env:=by rfl)(vQ:(backTo pos (starEach [b,c] X.env)).any (·.1)=false:=by rfl):PId X tg (.Call (.Name "range" p) [a,b,c] [] pos) (sh ts):=by
 obtain⟨t,pp,q⟩:=ha;refine⟨_,Mq hg hm pp hs vQ,fun ρ σ G0 H0 G H Q P E h k=>q ρ σ G0 H0 G H _ _ E h fun vs H' ds G' x rs hq=>?_⟩;split at hq
 ·obtain⟨v,w',u,rfl,rv,ik,ru⟩:=Ik rs;simp only[Rep] at rv ik ru;subst rv ik ru;obtain⟨rfl,hb,hq⟩:=hq;exact⟨_,_,rfl,hb,k _ H' _ G' x (Nd _ _) hq⟩
 ·exact hq.elim
end
end L2
namespace Ts
open PySem PySem.W PyProof.Rows
section
open PySem.SeqAt
open PySem.AutoSeq1 (wpAny_loadPart')
open PySem.MeetsSeq PySem.MeetsSeq2 PySem.MeetsSeq3
theorem Lz(A:Around)(s:Shared)(a:Str)(t:Tok)(c:Str)(u:Tok)(prog:Program)(w:World)(E:Value->Shared->Prop)(Q:Value->Shared->Prop)(h:Q (.bool (decide (a.cps.toList<c.cps.toList))) s) :
  wpAny (model prog w) A (richCompare .Lt (.str a t) (.str c u)) Q E s:=
 (PyProof.Rows.lt_str h:wpAny (model prog w) A (compareOp .Lt (.str a t) (.str c u)) Q E s)
theorem z3(A:Around)(s:Shared)(a:Int)(t:Tok)(c:Int)(u:Tok)(prog:Program)(w:World)(E:Value->Shared->Prop)(Q:Value->Shared->Prop)(h:Q (.bool (decide (a<c))) s) :
  wpAny (model prog w) A (richCompare .Lt (.int a t) (.int c u)) Q E s:=
 (PyProof.Rows.lt_int h:wpAny (model prog w) A (compareOp .Lt (.int a t) (.int c u)) Q E s)
theorem JK(l b:Addr)(x y:Str)(i j:Int)(t u t' u':Tok)(n n2:Nat)(dd lg:Option Addr)(sl kR:Array (Option Value)) :
  Meets (Builtin.«tuple.__lt__» ⟨[.ref l,.ref b],[]⟩)
   (fun _ R s=>s.heap.get? l=some { cls:=.type "tuple",dict:=dd,data:=.seq #[.str x t,.int i u] n,slots:=sl }/\s.heap.get? b=some { cls:=.type "tuple",dict:=lg,data:=.seq #[.str y t',.int j u'] n2,slots:=kR }/\
    R (.ok (.ret (.bool (dr (x,i) (y,j))))) s):=
 .of_wp fun prog w A R s h=>by
  obtain⟨hp,g,d,tk,os⟩:=s;obtain⟨hl,hb,h⟩:=h;have f2:=AutoSeq1.sub_tuple_tuple;unfold dr at h;wp_walk using bj hl,bj hb,wpAny_forIn_list _ (fun gW b s'=>b.1=none/\s'=⟨hp,g,d,tk,os⟩/\(gW=[(.str x t,.str y t'),(.int i u,.int j u')]\/(gW=[(.int i u,.int j u')]/\x=y)\/(gW=[]/\x=y/\i=j))) _
  case turn=>
   rintro⟨p,q⟩ gW b s' ⟨iV,rfl,hr⟩;rcases hr with hr | ⟨hr,sU⟩ | ⟨hr,_⟩
   ·injection hr with sY jT
    injection sY with BN lY
    subst BN lY;refine aa (wpAny_eqBool_str ?_);by_cases e:x=y
    ·rw[bA e];wp_walk
     exact⟨rfl,rfl,.inr (.inl ⟨jT,e⟩)⟩
    ·rw[aF e];rw[if_neg e] at h;have rh:=Lz A.in1 ⟨hp,g,d,tk,os⟩ x t y t' prog w;wp_walk using rh
     exact⟨_,rfl,by simpa using h⟩
   ·injection hr with sY jT
    injection sY with BN lY
    subst BN lY;refine aa (wpAny_eqBool_int ?_);by_cases e:i=j
    ·simp only[beq_iff_eq.mpr e];wp_walk
     exact⟨rfl,rfl,.inr (.inr ⟨jT,sU,e⟩)⟩
    ·simp only[beq_eq_false_iff_ne.mpr e];rw[if_pos sU] at h;have rh:=z3 A.in1 ⟨hp,g,d,tk,os⟩ i u j u' prog w;wp_walk using rh
     exact⟨_,rfl,by simpa using h⟩
   ·cases hr
  case fin=>
   rintro⟨b1,b2⟩ s' ⟨iV,rfl,hr⟩;simp only at iV;subst iV;rcases hr with hr | ⟨hr,_⟩ | ⟨_,sU,l3⟩
   ·cases hr
   ·cases hr
   ·rw[if_pos sU,aF (by omega)] at h;wp_walk
    exact⟨_,rfl,by simpa[Builtin.Tuple.tupleCompareSizes] using h⟩
  case h=>exact⟨rfl,rfl,.inl rfl⟩
def zD(A:Around)(s:Shared)(y x:Value)(b:Bool):Prop:=
 ∀(prog:Program) (w:World) (E:Value->Shared->Prop) (Q:Value->Shared->Prop),Q (.bool b) s->wpAny (model prog w) A (richCompare .Lt y x) Q E s
theorem Nz(l b:Addr)(items cg:Array Value)(n n2:Nat)(dd lg:Option Addr)(sl kR:Array (Option Value))(h1:0<items.size)(h2:0<cg.size)(c:Bool) :
  Meets (Builtin.«list.__eq__.loop» ⟨[.ref l,.ref b,rawInt 0,rawInt 0],[]⟩)
   (fun A R s=>s.heap.get? l=some { cls:=.type "list",dict:=dd,data:=.seq items n,slots:=sl }/\s.heap.get? b=some { cls:=.type "list",dict:=lg,data:=.seq cg n2,slots:=kR }/\
    EqAt A.in1 s items[0] cg[0] false/\zD A.in1 s items[0] cg[0] c/\R (.ok (.ret (.bool c))) s):=by
 intro prog w A R s h;obtain⟨hp,g,d,tk,os⟩:=s;obtain⟨hl,hb,he,hr,h⟩:=h;wp_walk using bj hl,bj hb
 have tm:items[(0:Int).toNat]?=some items[0]:=by simp[h1]
 have oW:cg[(0:Int).toNat]?=some cg[0]:=by simp[h2]
 rw[tm,oW];refine aa (he prog w _ _ ?_);wp_walk using bj hl,bj hb
 rw[tm,oW];have rh:=hr prog w;wp_walk using rh
 exact h
theorem Nu(l:Addr)(items:Array Value)(n:Nat)(dd:Option Addr)(sl:Array (Option Value))(k:Nat) :
  ∀i:Nat,items.size-i=k->Meets (Builtin.«list.__eq__.loop» ⟨[.ref l,.ref l,rawInt i,rawInt 0],[]⟩)
   (fun A R s=>s.heap.get? l=some { cls:=.type "list",dict:=dd,data:=.seq items n,slots:=sl }/\R (.ok (.ret (.bool false))) s):=by
 induction k with
 | zero=>
  intro i hk prog w A R s h;obtain⟨hp,g,d,tk,os⟩:=s;obtain⟨hl,h⟩:=h;wp_walk using bj hl
  have tm:items[((i:Nat):Int).toNat]?=none:=by simp;omega
  rw[tm];wp_walk using bj hl
  show R (.ok (.ret (.bool (decide (items.size<items.size))))) _;simpa using h
 | succ k ih=>
  intro i hk prog w A R s h;obtain⟨hp,g,d,tk,os⟩:=s;obtain⟨hl,h⟩:=h;wp_walk using bj hl
  have dz:i<items.size:=by omega
  have tm:items[((i:Nat):Int).toNat]?=some items[i]:=by simp[dz]
  have hc:((i:Int)+1)=((i+1:Nat):Int):=by push_cast;rfl
  rw[tm];refine aa (EqAt.same _ prog w _ _ ?_);wp_walk
  rw[hc]
  exact⟨plainId_quiet plain_eq_loop _,codeAny_builtin entry_eq_loop (by
   rw[Around.under_plainId plain_eq_loop _]
   exact ih (i+1) (by omega) prog w A R _ ⟨hl,h⟩)⟩
theorem Ny(l b:Addr)(items cg:Array Value)(n n2:Nat)(dd lg:Option Addr)(sl kR:Array (Option Value))(h1:0<items.size)(h2:0<cg.size)(c:Bool) :
  Meets (Builtin.«list.__lt__» ⟨[.ref l,.ref b],[]⟩)
   (fun A R s=>s.heap.get? l=some { cls:=.type "list",dict:=dd,data:=.seq items n,slots:=sl }/\s.heap.get? b=some { cls:=.type "list",dict:=lg,data:=.seq cg n2,slots:=kR }/\
    EqAt A.in1 s items[0] cg[0] false/\zD A.in1 s items[0] cg[0] c/\R (.ok (.ret (.bool c))) s):=by
 intro prog w A R s h;obtain⟨hp,g,d,tk,os⟩:=s;obtain⟨hl,hb,he,hr,h⟩:=h;have f3:=AutoSeq1.sub_list_list;wp_walk using bj hl,bj hb
 exact⟨plainId_quiet plain_eq_loop _,codeAny_builtin entry_eq_loop (by
  rw[Around.under_plainId plain_eq_loop _];exact Nz l b items cg n n2 dd lg sl kR h1 h2 c prog w A R _ ⟨hl,hb,he,hr,h⟩)⟩
theorem Nt(l:Addr)(items:Array Value)(n:Nat)(dd:Option Addr)(sl:Array (Option Value)) :
  Meets (Builtin.«list.__lt__» ⟨[.ref l,.ref l],[]⟩)
   (fun A R s=>s.heap.get? l=some { cls:=.type "list",dict:=dd,data:=.seq items n,slots:=sl }/\R (.ok (.ret (.bool false))) s):=by
 intro prog w A R s h;obtain⟨hp,g,d,tk,os⟩:=s;obtain⟨hl,h⟩:=h;have f3:=AutoSeq1.sub_list_list;wp_walk using bj hl
 exact⟨plainId_quiet plain_eq_loop _,codeAny_builtin entry_eq_loop (by
  rw[Around.under_plainId plain_eq_loop _];exact Nu l items n dd sl _ 0 rfl prog w A R _ ⟨hl,h⟩)⟩
end
end Ts
namespace Ts
open PySem PySem.W PyProof.Rows PySem.SeqAt
section
variable {prog:Program} {w:World} {A:Around} {E:Value->Shared->Prop} {s:Shared}
noncomputable def gJ(h:Heap)(v:Value):Str×Int:=match v with
 | .ref a=>match h.get? a with
  | some o=>match o.data with
   | .seq xs _=>fc h (xs.getD 0 .none)
   | _=>("",0)
  | none=>("",0)
 | _=>("",0)
def wR(h:Heap)(v:Value):Prop:=∃a o xs n,v=.ref a/\h.get? a=some o/\o.cls=.type "list"/\o.data=.seq xs n/\∃hx:0<xs.size,kG h xs[0]/\fc h xs[0]=gJ h v
theorem kG.keep{h h':Heap}(k:∀b o,h.get? b=some o->h'.get? b=some o){v:Value}(e:kG h v):∃a o t u n,v=.ref a/\h'.get? a=some o/\o.cls=.type "tuple"/\o.data=.seq #[.str (fc h v).1 t,.int (fc h v).2 u] n:=by
 obtain⟨a,o,t,u,n,h1,h2,h3⟩:=e;exact⟨a,o,t,u,n,h1,k _ _ h2,h3⟩
theorem JJ{v u:Value}{p q:Str×Int}(hu:A.units<cLine)(hv:∃a o t t' n,v=.ref a/\s.heap.get? a=some o/\o.cls=.type "tuple"/\o.data=.seq #[.str p.1 t,.int p.2 t'] n)(hw:∃a o t t' n,u=.ref a/\s.heap.get? a=some o/\o.cls=.type "tuple"/\o.data=.seq #[.str q.1 t,.int q.2 t'] n):zD A s v u (dr p q):=fun prog w E Q h=>by
 obtain⟨a,⟨c1,dd,da,sl⟩,t,t',n,rfl,g1,e1,e2⟩:=hv;obtain⟨b,⟨c2,lg,db,kR⟩,t2,ym,n2,rfl,g2,e3,e4⟩:=hw;simp only at e1 e2 e3 e4;subst e1 e2 e3 e4;exact richCompare_meets_room (op:=.Lt) ⟨_,g1,rfl⟩ ⟨_,g2,rfl⟩ PySem.F.slot_tuple_lt PySem.F.entry_tuple_lt (PySem.F.args_tuple_lt_2 _ _) (JK a b p.1 q.1 p.2 q.2 t t' t2 ym n n2 dd lg sl kR)
  ⟨g1,g2,show Value.bool (dr p q)≠Value.notImplemented/\Q (.bool (dr p q)) s from⟨(fun x=>nomatch x),h⟩⟩ hu
theorem JI{v u:Value}{p q:Str×Int}(hu:A.units<cLine)(sY:p≠q)(hv:∃a o t t' n,v=.ref a/\s.heap.get? a=some o/\o.cls=.type "tuple"/\o.data=.seq #[.str p.1 t,.int p.2 t'] n)(hw:∃a o t t' n,u=.ref a/\s.heap.get? a=some o/\o.cls=.type "tuple"/\o.data=.seq #[.str q.1 t,.int q.2 t'] n):EqAt A s v u false:=by
 obtain⟨a,oa,t,t',n,rfl,g1,e1,e2⟩:=hv;obtain⟨b,ob,t2,ym,n2,rfl,g2,e3,e4⟩:=hw;have iD:a≠b:=fun z=>by
  subst z;rw[g1] at g2;cases g2;rw[e2] at e4;simp only[Data.seq.injEq,Array.mk.injEq,List.cons.injEq,Value.str.injEq,Value.int.injEq] at e4;exact sY (Prod.ext e4.1.1.1 e4.1.2.1.1)
 have R:=RcAt.tuples (A:=A) (s:=s) (e:=fun j=>if j=0 then decide (p.1=q.1) else(p.2==q.2)) ⟨oa,g1,e1,_,e2⟩ ⟨ob,g2,e3,_,e4⟩ hu fun j h1 h2=>by
  have:j=0\/j=1:=by simp at h1;omega
  rcases this with rfl | rfl
  ·exact fun prog w E Q h=>wpAny_eqBool_str h
  ·exact fun prog w E Q h=>wpAny_eqBool_int h
 have e:((List.range (min (#[Value.str p.1 t,.int p.2 t']:Array Value).size (#[Value.str q.1 t2,.int q.2 ym]:Array Value).size)).all (fun j=>if j=0 then decide (p.1=q.1) else(p.2==q.2))&&(#[Value.str p.1 t,.int p.2 t']:Array Value).size==(#[Value.str q.1 t2,.int q.2 ym]:Array Value).size)=false:=by
  show((List.range 2).all _&&true)=false;rw[show List.range 2=[0,1] from rfl];simp only[List.all_cons,List.all_nil,bE,Bool.and_true];rw[if_neg (by decide)];by_cases e1:p.1=q.1
  ·have:p.2≠q.2:=fun z=>sY (Prod.ext e1 z)
   simp[e1,this]
  ·simp[e1]
 rw[e] at R;exact EqAt.of_refs iD R
theorem o4{h h':Heap}{its:List Value}(hu:A.units+8<cLine)(k:∀b o,h.get? b=some o->h'.get? b=some o)(hv:∀v∈its,wR h v)(hd:∀v∈its,∀u∈its,gJ h v=gJ h u->v=u):Ask prog w A E its (fun x=>i9 dr (its.map (gJ h)) (gJ h x.1)) { s with heap:=h' }:=by
 refine⟨fun h2=>⟨oneType',fun Q' q=>?_,⟨fun x y Q ox oy q=>?_⟩⟩⟩
 ·refine kas_kind (s:={ s with heap:=h' }) (T:=.type "list") h2 (fun v hm=>?_) (by decide +kernel) (by decide +kernel) q;obtain⟨a,o,xs,n,rfl,g1,c1,_⟩:=hv v hm;rw[<-c1];exact(Looks.ld (k _ _ g1)).andThen .now
 ·have mx:=yd ox;have my:=yd oy;rw[<-zE eG (List.mem_map_of_mem mx)] at q;have lx:=hv _ mx;have ly:=hv _ my;have sU:=hd _ mx _ my;generalize x.1=v at *;generalize y.1=u at *;obtain⟨a,⟨c1,dd,da,sl⟩,xs,n,rfl,g1,e1,e2,hx,Hd,Hf⟩:=lx;obtain⟨b,⟨c2,lg,db,kR⟩,ys,n2,rfl,g2,e3,e4,hy,Hc,He⟩:=ly;simp only at e1 e2 e3 e4;subst e1 e2 e3 e4;rw[keyLt'_oneType,oneLt'_eq];simp only[bE];refine aa (wpAny_cRoomFor (by omega) ?_);have tw:=k _ _ g1;have QT:=k _ _ g2;have fin:∀c,c=dr (gJ h (.ref a)) (gJ h (.ref b))->Q c { s with heap:=h' }:=fun c e=>e▸q
  by_cases iD:gJ h (.ref a)=gJ h (.ref b)
  ·have:=sU iD;cases this;refine aa (wpAny_callSpecialIfBound?_slot (T:="list") ⟨_,tw,rfl⟩ PySem.F.slot_list_lt (call_meets PySem.F.slot_list_lt ⟨_,tw,rfl⟩ PySem.F.entry_list_lt (PySem.F.args_list_lt_2 _ _) (Nt a xs n dd sl) ⟨tw,?_⟩));exact bD (fin _ (eG.ir _).symm)
  ·refine aa (wpAny_callSpecialIfBound?_slot (T:="list") ⟨_,tw,rfl⟩ PySem.F.slot_list_lt (call_meets PySem.F.slot_list_lt ⟨_,tw,rfl⟩ PySem.F.entry_list_lt (PySem.F.args_list_lt_2 _ _) (Ny a b xs ys n n2 dd lg sl kR hx hy (dr (fc h xs[0]) (fc h ys[0])))
    ⟨tw,QT,JI (by show A.units+1<cLine;omega) (by rw[Hf,He];exact iD) (Hd.keep k) (Hc.keep k),JJ (by show A.units+1<cLine;omega) (Hd.keep k) (Hc.keep k),?_⟩))
   exact bD (fin _ (by rw[Hf,He]))
end
end Ts
namespace L2
open PySem PySem.Spec PyProof.Rows
noncomputable abbrev b8:=Str×Int
noncomputable def dA(p:b8):D:=.tup [.str p.1,.int p.2]
section
variable {X:Cx}
def zC(X:Cx)(kf:Heap->Value->b8)(C:Hp->List (V×b8)->Prop):Prop:=∀{pins:List (Addr×Obj)} {s:Shared} {σ:St} {H:Hp} (I:Inv X pins σ H s) {ps:List (V×b8)} {its:List Value},C H ps->Vals (ps.map (·.1)) its->
 (∀z∈ps.zip its,kf s.heap z.2=z.1.2)/\∀h',(∀b o,s.heap.get? b=some o->h'.get? b=some o)->Ts.Ask X.prog X.w X.A.in1.in1 X.xe its (fun x=>Ts.i9 Ts.dr (its.map (kf s.heap)) (kf s.heap x.1)) { s with heap:=h' }
def DH(K:PySem.W.Frag)(C:Hp->List (V×b8)->Prop):List V->Hp->VK->Prop:=fun xs H Q=>∃(p:Addr) (ps:List (V×b8)),xs=[.ref p]/\dP K H p (ps.map (·.1))/\C H ps/\ps.length<64/\
  ∀lT:List (V×b8),lT.Perm ps->lT.Pairwise (fun x y=>Ts.dr y.2 x.2=false)->∀l,H l=none->Q (.ref l) (upd H l (.lst (lT.map (·.1))))
theorem FN{kf:Heap->Value->b8}{C:Hp->List (V×b8)->Prop}(hC:zC X kf C):dh X (.builtin "sorted") (DH X.K C):=by
 intro pins s σ H xs us Q I r h;obtain⟨p,ps,rfl,hq,hk,hr,q⟩:=h;obtain⟨u,rfl,ru⟩:=mi r;cases ru;obtain⟨its,rv,pl,hz⟩:=I.list hq;obtain⟨kk,ask⟩:=hC I hk rv;have hl:ps.length=its.length:=by rw[<-rv.length,ae]
 obtain⟨LL,eL⟩:∃LL,LL=ps.zip its:=⟨_,rfl⟩
 have e1:ps=LL.map (·.1):=by rw[eL];exact(List.map_fst_zip (by omega)).symm
 have e2:its=LL.map (·.2):=by rw[eL];exact(List.map_snd_zip (by omega)).symm
 have rel:∀z∈LL,RelV z.1.1 z.2:=fun z hz=>by
  obtain⟨i,hi⟩:=aN hz;have h1:(ps.map (·.1))[i]?=some z.1.1:=by rw[e1];simp[hi]
  obtain⟨v',Gx,rx⟩:=rv.get h1;have h2:its[i]?=some z.2:=by rw[e2];simp[hi]
  rw[h2] at Gx;cases Gx;exact rx
 rw[<-eL] at kk;refine Ts.mX (rk:=fun x=>Ts.i9 Ts.dr (its.map (kf s.heap)) (kf s.heap x.1)) pl.isList (by rw[<-hl,<-ae (f:=(·.1))];exact hz) (fun h2=>Ts.oE (by omega) (by omega)) ask fun dZ hp hs=>?_
 have ep:(PyProof.Rows.pairsOf its).toList=LL.map fun z=>((z.2,z.2):Keyed):=by
  unfold PyProof.Rows.pairsOf;rw[e2];simp only[List.zip_toArray];clear eL e1 e2 rel kk hp hs;induction LL with
  | nil=>rfl
  | cons a r ih=>simp at ih ⊢;exact ih
 obtain⟨L',h1,h2⟩:=Fx (hp.trans (List.Perm.of_eq ep)) rfl;have Bg:∀z∈L',RelV z.1.1 z.2:=fun z hz=>rel z (h1.subset hz)
 have out:((arrOf dZ).map (·.2)).toList=L'.map (·.2):=by
  rw[Array.toList_map,h2,aE];rfl
 obtain⟨en,he⟩:=sortedAll_at s.heap its ((arrOf dZ).map (·.2));have hf:H (s.heap.objs.size+1)=none:=I.cB.fresh (Nat.le_succ _)
 have q':=q (L'.map (·.1)) (by rw[e1];exact h1.map _) (by
  rw[List.pairwise_map];unfold Ts.rO at hs;rw[h2,List.pairwise_map] at hs;refine hs.imp_of_mem fun{a b} ha hb iD=>?_
  have ta:=kk a (h1.subset ha);have tb:=kk b (h1.subset hb);rw[<-ta,<-tb];have ma:kf s.heap a.2∈its.map (kf s.heap):=List.mem_map_of_mem (by rw[e2];exact List.mem_map_of_mem (h1.subset ha));have mb:kf s.heap b.2∈its.map (kf s.heap):=List.mem_map_of_mem (by rw[e2];exact List.mem_map_of_mem (h1.subset hb))
  exact Ts.vv Ts.eG ma mb (by simp only at iD;omega)) _ hf
 rw[aE] at q';refine⟨.ref (s.heap.objs.size+1),_,I.laid (a:=s.heap.objs.size+1) (o:=.lst (L'.map ((·.1)∘(·.1)))) (t':=s.toks) (fun b o e=>sortedAll_old e) (Nat.le_succ _) ?_,rfl,q'⟩;have el:LL.length=its.length:=by rw[e2,ae]
 refine⟨by rw[ae,h1.length_eq,el,<-hl,<-ae (f:=(·.1))];exact hz,((arrOf dZ).map (·.2)).toList,en,?_,?_⟩
 ·rw[out];exact Ey Bg
 ·rw[Array.toArray_toList];exact he
def Rj(K:PySem.W.Frag):Hp->List (V×b8)->Prop:=fun H ps=>∀q∈ps,∃b,q.1=.ref b/\dO K H b [.str q.2.1,.int q.2.2]
theorem Dk{pins:List (Addr×Obj)}{s:Shared}{σ:St}{H:Hp}(I:Inv X pins σ H s){v:V}{u:Value}{e:b8}(h:∃b,v=.ref b/\dO X.K H b [.str e.1,.int e.2])(r:RelV v u):Ts.kG s.heap u/\Ts.fc s.heap u=e:=by
 obtain⟨b,rfl,sq⟩:=h;cases r;obtain⟨i1,v1,p1,_⟩:=I.tuple sq;obtain⟨o1,g1,c1,n1,d1⟩:=p1;obtain⟨u1,u2,rfl,⟨t1,rfl⟩,⟨t2,rfl⟩⟩:=uc v1;have e':Ts.fc s.heap (.ref b)=e:=by
  unfold Ts.fc;simp only[g1,d1]
 exact⟨⟨b,o1,t1,t2,n1,rfl,g1,c1,by rw[e'];exact d1⟩,e'⟩
theorem Ab{α:Type}{f:α->V}:∀{ps:List α} {its:List Value},Vals (ps.map f) its->∀z∈ps.zip its,RelV (f z.1) z.2
 | [],_,_,z,hz=>by cases hz
 | p::ps,_,r,z,hz=>by
  cases r with
  | cons a b=>
   rw[List.zip_cons_cons] at hz;rcases ar.mp hz with rfl | hz
   ·exact a
   ·exact Ab b z hz
theorem AL{α β:Type}:∀{l:List α} {m:List β},l.length=m.length->∀b∈m,∃a,(a,b)∈l.zip m
 | [],[],_,b,hb=>by cases hb
 | a::l,c::m,h,b,hb=>by
  rcases ar.mp hb with rfl | hb
  ·exact⟨a,by simp⟩
  ·obtain⟨x,hx⟩:=AL (l:=l) (m:=m) (by simpa using h) b hb;exact⟨x,by simp[hx]⟩
 | [],_::_,h,_,_=>by simp at h
 | _::_,[],h,_,_=>by simp at h
theorem JH:zC X Ts.fc (Rj X.K):=fun{pins s σ H} I {ps its} hc r=>by
 have hl:ps.length=its.length:=by rw[<-r.length,ae]
 have at_:∀z∈ps.zip its,Ts.kG s.heap z.2/\Ts.fc s.heap z.2=z.1.2:=fun z hz=>Dk I (hc _ (List.of_mem_zip hz).1) (Ab r z hz)
 refine⟨fun z hz=>(at_ z hz).2,fun h' k=>Ts.o6 k fun v hv=>?_⟩;obtain⟨a,ha⟩:=AL hl v hv;exact(at_ _ ha).1
def zB:ei:=fun ds Q=>∃ps:List b8,ds=[.lst (ps.map dA)]/\ps.length<64/\∀lT:List b8,lT.Perm ps->lT.Pairwise (fun x y=>Ts.dr y x=false)->Q (.ow (lT.map dA))
theorem E8{K:PySem.W.Frag}{G:Hp}:∀{xs:List V} {ps:List b8},bJ K G xs (ps.map dA)->xs.length=ps.length/\∀q∈xs.zip ps,Rep K G q.1 (dA q.2)/\∃b,q.1=.ref b/\dO K G b [.str q.2.1,.int q.2.2]
 | [],[],_=>⟨rfl,fun q hq=>by cases hq⟩
 | v::xs,p::ps,r=>by
  rw[ao] at r;simp only[bJ] at r;obtain⟨h1,h2⟩:=E8 r.2;refine⟨by simp[h1],fun q hq=>?_⟩;rw[List.zip_cons_cons] at hq;rcases ar.mp hq with rfl | hq
  ·refine⟨r.1,?_⟩;have rr:=r.1;unfold dA at rr;simp only[Rep] at rr;obtain⟨a,ys,rfl,sq,ry⟩:=rr;obtain⟨y,z,rfl,r1,r2⟩:=t6 ry;simp only[Rep] at r1 r2;subst r1 r2;exact⟨a,rfl,dO.of sq⟩
  ·exact h2 q hq
 | [],_::_,r=>by rw[ao] at r;simp only[bJ] at r
 | _::_,[],r=>by rw[bG] at r;simp only[bJ] at r
theorem Ee(_:X.calm=true):pD X (.builtin "sorted") zB:=by
 refine⟨_,FN JH,fun G H vs ds Q P s rs h k=>?_⟩;obtain⟨ps,rfl,hl,q⟩:=h;obtain⟨v,rfl,rv⟩:=kL rs;simp only[Rep] at rv;obtain⟨a,xs,rfl,h1,h2⟩:=rv;obtain⟨h3,hz⟩:=E8 h2;have e1:(xs.zip ps).map (·.1)=xs:=List.map_fst_zip (by omega);have e2:(xs.zip ps).map (·.2)=ps:=List.map_snd_zip (by omega);have el:(xs.zip ps).length=ps.length:=by rw[List.length_zip];omega
 refine⟨a,xs.zip ps,rfl,by rw[e1];exact(s.ft h1).sq,fun z hq=>?_,by omega,fun lT p1 p2=>?_⟩
 ·obtain⟨_,b,e,sq⟩:=hz z hq;exact⟨b,e,s.mY sq⟩
 ·refine xN s (ds:=(lT.map (·.2)).map dA) ?_ (q (lT.map (·.2)) ((p1.map _).trans (List.Perm.of_eq e2)) (by rw[List.pairwise_map];exact p2)) k;rw[aE];exact Ex fun q hq=>(hz q (p1.subset hq)).1
end
end L2
namespace L2
open PySem PySem.Spec PyProof.Rows
section
variable {X:Cx}
def Hj(K:PySem.W.Frag):Hp->List (V×b8)->Prop:=fun H ps=>(ps.map (·.2)).Nodup/\∀q∈ps,∃b c xs,q.1=.ref b/\dP K H b (.ref c::xs)/\dO K H c [.str q.2.1,.int q.2.2]
theorem JG(hu:X.A.units+64<cLine):zC X Ts.gJ (Hj X.K):=fun{pins s σ H} I {ps its} hc r=>by
 have hl:ps.length=its.length:=by rw[<-r.length,ae]
 have at_:∀z∈ps.zip its,Ts.wR s.heap z.2/\Ts.gJ s.heap z.2=z.1.2:=fun z hz=>by
  obtain⟨b,c,xs,e,sl,st⟩:=hc.2 _ (List.of_mem_zip hz).1;have rz:=Ab r z hz;rw[e] at rz;obtain⟨⟨zv,ze⟩,zw⟩:=z;simp only at rz st ⊢;cases rz;obtain⟨it,rv,⟨o,n,g,c1,_,d⟩,_⟩:=I.list sl;cases rv with
  | @cons _ _ _ ys ra rb=>
   obtain⟨e1,e2⟩:=Dk (e:=ze) I ⟨c,rfl,st⟩ ra;have hh:Ts.gJ s.heap (.ref b)=ze:=by
    unfold Ts.gJ;simp only[g,d];exact e2
   exact⟨⟨b,o,_,n,rfl,g,c1,d,by simp,e1,by rw[hh];exact e2⟩,hh⟩
 refine⟨fun z hz=>(at_ z hz).2,fun h' k=>Ts.o4 (by show X.A.units+1+1+8<cLine;omega) k (fun v hv=>?_) fun v hv u hw e=>?_⟩
 ·obtain⟨a,ha⟩:=AL hl v hv;exact(at_ _ ha).1
 ·obtain⟨i,hi⟩:=aN hv;obtain⟨j,hj⟩:=aN hw;have vZ:i<ps.length:=by rw[hl];exact(ag.mp hi).1
  have vX:j<ps.length:=by rw[hl];exact(ag.mp hj).1
  have z1:(ps[i],v)∈ps.zip its:=ax (i:=i) (by rw[List.getElem?_zip_eq_some];exact⟨ab vZ,hi⟩);have z2:(ps[j],u)∈ps.zip its:=ax (i:=j) (by rw[List.getElem?_zip_eq_some];exact⟨ab vX,hj⟩);rw[(at_ _ z1).2,(at_ _ z2).2] at e;have:i=j:=(List.getElem?_inj (l:=ps.map (·.2)) (by simpa using vZ) hc.1).mp (by rw[ai,ai,ab vZ,ab vX];exact congrArg some e);subst this;rw[hi] at hj;exact aQ hj
noncomputable def eQ(g:List b8):b8:=g.headD ("",0)
def sD(te:TD):TD:=fun ρ Q=>te ρ fun r=>match r with
 | .ov (.ll cj)=>∃c9:List (List b8),cj=c9.map (fun g=>g.map dA)/\c9.length<64/\(∀g∈c9,g≠[])/\(c9.map eQ).Nodup/\
  ∀hJ:List (List b8),hJ.Perm c9->hJ.Pairwise (fun x y=>Ts.dr (eQ y) (eQ x)=false)->Q (.ov (.ll (hJ.map fun g=>g.map dA)))
 | _=>False
theorem bR.at{K:PySem.W.Frag}{G H:Hp}:∀{qs:List Addr} {c9:List (List b8)},bR K G H qs (c9.map fun g=>g.map dA)->∀z∈qs.zip c9,∃xs,H z.1=some (.lst xs)/\bJ K G xs (z.2.map dA)
 | [],[],_,z,hz=>by cases hz
 | q::qs,g::c9,h,z,hz=>by
  rw[ao] at h;simp only[bR] at h;rw[List.zip_cons_cons] at hz;rcases ar.mp hz with rfl | hz
  ·exact h.1
  ·exact bR.at h.2 z hz
 | [],_::_,h,_,_=>by rw[ao] at h;simp only[bR] at h
 | _::_,[],h,_,_=>by rw[bG] at h;simp only[bR] at h
theorem Ed{K:PySem.W.Frag}{G H:Hp}:∀{L:List (Addr×List b8)},(∀z∈L,∃xs,H z.1=some (.lst xs)/\bJ K G xs (z.2.map dA))->bR K G H (L.map (·.1)) ((L.map (·.2)).map fun g=>g.map dA)
 | [],_=>by simp only[bG,bR]
 | z::L,h=>by
  simp only[ao,bR];exact⟨h z aH,Ed fun y hy=>h y (au _ hy)⟩
theorem LH{te:TD}{tt:TE}(q:mH X.K te tt):mH X.K (sD te) (A3 (DH X.K (Hj X.K)) (fun σ H Q=>tt σ H fun v H1=>Q [v] H1)):=by
 intro ρ σ G0 H0 G H Q P E h k;refine q ρ σ G0 H0 G H _ _ E h fun v H1 r G1 x1 rr hq=>?_
 split at hq;rotate_left
 ·exact hq.elim
 rename_i cj;obtain⟨c9,rfl,yI,du,nd,hq⟩:=hq;obtain⟨p,fp,rfl,yu,⟨hp,rl⟩,fr⟩:=rr;have hlen:fp.length=c9.length:=by have:=rl.length;simpa using this
 have at_:=rl.at;have e1:(fp.zip c9).map (·.1)=fp:=List.map_fst_zip (by omega);have e2:(fp.zip c9).map (·.2)=c9:=List.map_snd_zip (by omega);refine⟨p,(fp.zip c9).map fun z=>(V.ref z.1,eQ z.2),rfl,?_,⟨?_,fun y hy=>?_⟩,by rw[ae,List.length_zip];omega,fun lT p1 p2 l hl=>?_⟩
 ·rw[aE];have:((fun x:V×b8=>x.1)∘fun z:Addr×List b8=>(V.ref z.1,eQ z.2))=V.ref∘(fun z:Addr×List b8=>z.1):=rfl;rw[this,<-aE,e1];exact dP.of hp
 ·rw[aE];have:((fun x:V×b8=>x.2)∘fun z:Addr×List b8=>(V.ref z.1,eQ z.2))=eQ∘(fun z:Addr×List b8=>z.2):=rfl;rw[this,<-aE,e2];exact nd
 ·obtain⟨z,hz,rfl⟩:=av.mp hy;obtain⟨xs,g1,g2⟩:=at_ z hz;have Bw:=du z.2 (List.of_mem_zip hz).2;cases hg:z.2 with
  | nil=>exact absurd hg Bw
  | cons e g=>
   rw[hg,ao] at g2;cases xs with
   | nil=>simp only[bJ] at g2
   | cons y ys=>
    simp only[bJ] at g2;have r1:=g2.1;unfold dA at r1;simp only[Rep] at r1;obtain⟨c,zs,rfl,hc,rz⟩:=r1;obtain⟨a,b,rfl,r1,r2⟩:=t6 rz;simp only[Rep] at r1 r2;subst r1 r2;exact⟨z.1,c,ys,rfl,dP.of g1,dO.of (x1.s _ _ hc)⟩
 ·obtain⟨L',f1,rfl⟩:=Fx p1 rfl;have RI:l≠p:=fun z=>by rw[z,hp] at hl;cases hl
  have m6:(L'.map (·.1)).Perm fp:=(f1.map _).trans (List.Perm.of_eq e1);have vV:∀q∈fp,q≠l:=fun q hq z=>rl.here q hq (by rw[z];exact hl)
  have x2:Ext G1 H1 G1 (upd H1 l (.lst (L'.map fun z=>V.ref z.1))):=.own x1.s hl;have q':=hq (L'.map (·.2)) ((f1.map _).trans (List.Perm.of_eq e2)) (by rw[List.pairwise_map] at p2 ⊢;exact p2);have el:((L'.map fun z:Addr×List b8=>(V.ref z.1,eQ z.2)).map fun x:V×b8=>x.1)=L'.map fun z=>V.ref z.1:=by rw[aE];rfl
  rw[el];refine k _ _ (.ov (.ll ((L'.map (·.2)).map fun g=>g.map dA))) G1 (x1.trans x2) ⟨l,L'.map (·.1),rfl,?_,⟨?_,?_⟩,fun q hq=>?_⟩ q'
  ·rw[aS] at yu ⊢;exact⟨fun z=>vV l (m6.subset z) rfl,m6.nodup_iff.mpr yu.2⟩
  ·rw[fq,aE];rfl
  ·refine Ed fun z hz=>?_
   obtain⟨xs,g1,g2⟩:=at_ z (f1.subset hz);refine⟨xs,?_,g2⟩;rw[cK (vV z.1 (List.of_mem_zip (f1.subset hz)).1)];exact g1
  ·rcases ar.mp hq with rfl | hq
   ·exact⟨x1.h.free hl,x1.s.free hl⟩
   ·exact fr q (au _ (m6.subset hq))
theorem FJ{e:Expr}{te:TD}{p pos:Pos}(hu:X.A.units+64<cLine)(hm:X.mg "sorted"=none)(h:PD X e te)(hg:Gl X "sorted":=by rfl)(fW:starEach [e] X.env=(false,eval e X.env)::starEach [] X.env:=by rfl):PD X (.Call (.Name "sorted" p) [e] [] pos) (sD te):=by
 obtain⟨tt,pp,q⟩:=h;have:=xZ (pos:=pos) (p:=p) (FN (JG hu)) hg hm boot_sorted (mP pp mN fW) (he:=fW);exact⟨_,this,LH q⟩
end
end L2
namespace L2
open PySem PySem.Spec PyProof.Rows
section
variable {X:Cx} {pos:Pos} {e i' i2:Expr} {te ti tk:TD}
def sA(i:Nat)(ti tk te:TD):TX:=fun D ρ=>match gt ρ i with
 | .ov (.ll cj)=>te ρ fun r=>ti ρ fun rk=>match rk.val with
  | .int n=>∃j ds,jR cj.length n=some j/\cj[j]?=some ds/\tk ρ fun r2=>match r2.val with
   | .int m=>∃c,jR ds.length m=some c/\D.nx (ρ.set i (.ov (.ll (cj.set j (ds.set c r.val)))))
   | _=>False
  | _=>False
 | _=>False
theorem An(i:Nat){x:Str}{p1 p2 p3:Pos}(hi:PD X i' ti)(hk:PD X i2 tk)(he:PD X e te)(hN:X.N[i]?=some x:=by rfl)(hv:jf X.env.scope x:=by first | exact Or.inl rfl | exact Or.inr (Or.inl rfl) | exact Or.inr (Or.inr rfl))(hd:(x==("__debug__":Str))=false:=by decide)
  (eB:(x==("__classdict__":Str))=false:=by decide) (P6:zO i':=by intro _ _;rfl)
  (ha:∀v,assign (.Subscript (.Subscript (.Name x p1) i' p2) i2 p3) X.env v=(do
   let ov <-holding [v] (eval (.Subscript (.Name x p1) i' p2) X.env)
   let iv <-holding [v,ov] (eval i2 X.env)
   standAt p3
   holding [v,ov,iv] (setItem ov iv v)
   release [v,ov,iv] []):=by intro _;rfl)
  (hs:swapsWithSole [.Subscript (.Subscript (.Name x p1) i' p2) i2 p3] e pos.line X.env=pure false:=by rfl) (hw:swappedStores [.Subscript (.Subscript (.Name x p1) i' p2) i2 p3] e X.env=pure none:=by rfl)
  (h1:(assignEach [.Subscript (.Subscript (.Name x p1) i' p2) i2 p3] X.env).map (·.2)=[assign (.Subscript (.Subscript (.Name x p1) i' p2) i2 p3) X.env]:=by rfl) :
  PX X (.Assign [.Subscript (.Subscript (.Name x p1) i' p2) i2 p3] e pos) (sA i ti tk te):=by
 obtain⟨t,p,q⟩:=he;obtain⟨t2,Bi,q2⟩:=hi;obtain⟨t3,Pc,q3⟩:=hk;refine⟨_,JS p (JT (Dd kW (j8 hN hv hd eB) Bi P6) Pc LI ha) hs hw h1,fun ρ σ G0 H0 G H D E k h g=>?_⟩;unfold sA at h;split at h
 ·rename_i cj hg;obtain⟨own,o1,o2⟩:=k.on;obtain⟨a,fp,b1,b2,⟨ha,hr⟩,b4⟩:=o2 i _ hg;refine q ρ σ G0 H0 G H _ _ k h fun v H' r G' x1 rr hq=>?_
  obtain⟨G2,x2,rv,_⟩:=rr.freeze x1;refine⟨_,b1,q2 ρ σ G0 H0 G2 H' _ _ (k.ext x2) hq fun u H3 rk G3 x3 m4 dm=>?_⟩;obtain⟨G4,x4,i7,_⟩:=m4.freeze x3;split at dm
  ·rename_i kk e1;obtain⟨j,ds,hj,mr,dm⟩:=dm;rw[e1] at i7;simp only[Rep] at i7;obtain⟨qa,ks,c1,c2,c3⟩:=hr.get mr;have Qz:cT (fp.map V.ref) kk=some (.ref qa):=by
    unfold cT;rw[ae,hr.length,hj];simp[c1]
   have i6:=x2.trans x4;refine⟨a,fp.map V.ref,kk,_,rfl,i7,dP.of (i6.h _ _ ha),Qz,?_⟩;refine q3 ρ σ G0 H0 G4 H3 _ _ (k.ext i6) dm fun u5 H5 r5 G5 x5 qP ip=>?_
   obtain⟨G6,x6,qO,_⟩:=qP.freeze x5;split at ip
   ·rename_i mm e5;obtain⟨c,hc,ip⟩:=ip;rw[e5] at qO;simp only[Rep] at qO;have vb:=i6.trans x6;refine⟨qa,ks,mm,c,rfl,qO,vb.h _ _ c2,by rw[c3.length];exact hc,?_⟩;refine g.nx _ _ G6 _ vb.g ((k.ext vb).eI hg b1 fun gx nd ow=>?_) ip;obtain⟨qi,kb⟩:=ow;have e3:gx=fp:=by
     have:=(vb.h _ _ ha).symm.trans qi;injection this with this
     injection this with this
     exact((List.map_inj_right fun a b h=>by cases h;rfl).mp this).symm
    subst e3;have iU:=aS.mp nd;refine⟨gx,nd,⟨?_,kb.set ((c3.mono vb.g).set c (rv.mono (x4.trans x6).g)) iU.2 c1⟩,fun q hq=>.inl hq,fun b hb _=>cK fun z=>hb (by rw[z];exact au _ (ax c1))⟩;rw[cK (fun z:a=qa=>iU.1 (z▸ax c1))];exact qi
   ·exact ip.elim
  ·exact dm.elim
 ·exact h.elim
theorem LG(j i:Nat){x y:Str}{p1 p2 p3 pos':Pos}(hN:X.N[i]?=some x:=by rfl)(hv:jf X.env.scope x:=by first | exact Or.inl rfl | exact Or.inr (Or.inl rfl) | exact Or.inr (Or.inr rfl))(hd:(x==("__debug__":Str))=false:=by decide)(eB:(x==("__classdict__":Str))=false:=by decide)
  (hnd:X.N.Nodup:=by assumption) (hj:X.N[j]?=some y:=by rfl) (hy:Loc X.env.scope y:=by first | exact Or.inl rfl | exact Or.inr rfl)
  (hb:∀{ta:TE},PE X (.Name x p1) ta->PE X (.Call (.Attribute (.Name x p1) "pop" p2) [] [] pos') (y2 X.K "list" C1 ta):=by intro ta h1;exact DR PySem.F.plainAttrs_list PySem.F.slot_list_pop PySem.F.type_list_pop IS h1)
  (hs:swapsWith (.Call (.Attribute (.Name x p1) "pop" p2) [] [] pos') (some (.Name y p3)) pos.line X.env=pure false:=by rfl) (hf:X.fn y=true\/X.env.scope.names.lookup y=some .local:=by first | exact .inl rfl | exact .inr rfl | assumption) :
  PX X (.Assign [.Name y p3] (.Call (.Attribute (.Name x p1) "pop" p2) [] [] pos') pos) (xG j i):=by
 refine⟨_,zF hnd hj hy (hb (j8 hN hv hd eB)) hs hf,fun ρ σ G0 H0 G H D E k h g=>?_⟩;unfold xG at h;split at h
 ·rename_i ds hg;obtain⟨d,Qv,hq⟩:=h;obtain⟨a,xs,h1,h2,h3,h4,h5⟩:=k.ow i ds hg;have hl:=h5.length;obtain⟨w,hw,ik⟩:=h5.get Qv;have PR:xs[xs.length-1]?=some w:=by rw[hl];exact hw
  refine⟨_,h1,.inl ⟨rfl,xs,dP.of h2⟩,a,xs,w,rfl,rfl,h2,PR,?_⟩;have E2:=k.change hg h1 h5.dropLast;exact g.nx _ _ G _ (bT.refl _) (E2.put (.refl E2.e.s) (r:=.fz d) ik) hq
 ·exact h.elim
def x9(i j:Nat):TX:=fun D ρ=>match gt ρ i with
 | .ov (.ll cj)=>i≠j/\j<ρ.length/\D.nx ((ρ.set j .un).set i (.ov (.ll (cj.map fun _=>[]))))
 | _=>False
theorem E7{K:PySem.W.Frag}{G H:Hp}:∀{qs:List Addr} {cj:List (List D)},qs.length=cj.length->(∀q∈qs,H q=some (.lst []))->bR K G H qs (cj.map fun _=>[])
 | [],[],_,_=>by simp only[bG,bR]
 | q::qs,ds::cj,hl,h=>by
  simp only[ao,bR];exact⟨⟨[],h q aH,bJ.nil⟩,E7 (by simpa using hl) fun q hq=>h q (au _ hq)⟩
 | [],_::_,h,_=>by simp at h
 | _::_,[],h,_=>by simp at h
theorem Nr(i j:Nat){c y:Str}{p1 p2 p5 p6 p7 p8:Pos}(hc:X.calm=true)(hX:X.N.Nodup)
  (hp:PassesOwn (model X.prog X.w) X.A X.env X.xe) (hN:X.N[i]?=some c:=by rfl) (hv:jf X.env.scope c:=by first | exact Or.inl rfl | exact Or.inr (Or.inl rfl) | exact Or.inr (Or.inr rfl)) (hd:(c==("__debug__":Str))=false:=by decide) (eB:(c==("__classdict__":Str))=false:=by decide)
  (GS:X.N[j]?=some y:=by rfl) (PU:jf X.env.scope y:=by first | exact Or.inl rfl | exact Or.inr (Or.inl rfl) | exact Or.inr (Or.inr rfl)) (Qt:(y==("__debug__":Str))=false:=by decide) (Cc:(y==("__classdict__":Str))=false:=by decide) (hx:Loc X.env.scope y:=by first | exact Or.inl rfl | exact Or.inr rfl) (hf:X.fn y=true\/X.env.scope.names.lookup y=some .local:=by first | exact .inl rfl | exact .inr rfl)
  (hb:∀{ta:TE},PE X (.Name y p5) ta->PE X (.Call (.Attribute (.Name y p5) "clear" p6) [] [] p7) (y2 X.K "list" DQ ta):=by intro ta h1;exact DR PySem.F.plainAttrs_list PySem.F.slot_list_clear PySem.F.type_list_clear L6 h1)
  (vQ:swapsWith (.Call (.Attribute (.Name y p5) "clear" p6) [] [] p7) none p8.line X.env=pure false:=by rfl)
  (hs:∀x,foldedSetIterable (.Name c p2) X.env x=pure x:=by intro _;rfl) :
  PX X (.For (.Name y p1) (.Name c p2) [.Expr (.Call (.Attribute (.Name y p5) "clear" p6) [] [] p7) p8] [] pos) (x9 i j):=by
 refine⟨_,DO hp hc (KG (j8 hN hv hd eB)) (ED hX GS hx hf) (EE (sF (hb (j8 GS PU Qt Cc)) vQ)) hs,fun ρ σ G0 H0 G H D E k h gg=>?_⟩;unfold x9 at h;split at h
 ·rename_i cj GK;obtain⟨l3,vX,hD⟩:=h;rw[<-k.len] at vX;obtain⟨own,o1,o2⟩:=k.on;obtain⟨p,fp,s1,yu,⟨g1,g2⟩,fr⟩:=o2 i _ GK;have BM:p∉fp:=(aS.mp yu).1;refine⟨_,s1,p,rfl,⟨_,dP.of g1⟩,?_⟩;refine⟨fun t m cf H2=>m=fp.length-t/\t<=fp.length/\cf.length=σ.length/\(∀n,n≠j->cf[n]?=σ[n]?)/\(∀b,b∉fp->H2 b=H b)/\(∀q∈fp,∃xs,H2 q=some (.lst xs))/\∀q∈fp.take t,H2 q=some (.lst []),
   ⟨_,rfl,aU _,rfl,fun _ _=>rfl,fun b _=>rfl,fun q hq=>g2.kind q hq,fun q hq=>by simp at hq⟩,?_⟩
  rintro t m cf H2 ⟨rfl,ht,GH,sT,hH,hq,hz⟩;have nZ:H2 p=some (.lst (fp.map V.ref)):=by rw[hH p BM];exact g1
  by_cases dz:t<fp.length
  ·refine .inr ⟨⟨_,.ref fp[t],dP.of nZ,by simp[dz]⟩,_,fun iw H3 hN=>hN,fun x H3 hy=>?_⟩;obtain⟨rfl,hy⟩:=hy;have Gu:=hy _ (dP.of nZ);simp only[ai,ab dz,bz,aG] at Gu;subst Gu;obtain⟨xs,e⟩:=hq fp[t] (bg dz);refine⟨.ref fp[t],by simp[GH,vX],.inl ⟨rfl,xs,dP.of e⟩,fp[t],xs,rfl,rfl,e,fp.length-(t+1),by omega,rfl,dz,by simp[GH],fun n hn=>?_,fun b hb=>?_,fun q k5=>?_,fun q k5=>?_⟩
   ·rw[List.getElem?_set_ne (fun z=>hn z.symm)];exact sT n hn
   ·rw[cK (fun z:b=fp[t]=>hb (by rw[z];exact bg dz))];exact hH b hb
   ·by_cases sX:q=fp[t]
    ·exact⟨_,by rw[sX];exact fq⟩
    ·obtain⟨ys,e2⟩:=hq q k5;exact⟨ys,by rw[cK sX];exact e2⟩
   ·by_cases sX:q=fp[t]
    ·rw[sX];exact fq
    ·rw[cK sX];refine hz q ?_;rw[bh,ab dz] at k5;rcases aD.mp k5 with z | z
     ·exact z
     ·simp at z;exact absurd z sX
  ·refine .inl ⟨⟨_,dP.of nZ,by simp;omega⟩,gg.nx _ cf G H2 (bT.refl _) ?_ hD⟩;have rg:t=fp.length:=by omega
   rw[rg,bx] at hz;have QX:cf=σ.set j (cf[j]?.getD none):=by
    apply List.ext_getElem?;intro n;by_cases hn:n=j
    ·subst hn;rw[List.getElem?_set_self (by omega),ab (by omega)];simp
    ·rw[List.getElem?_set_ne (fun z=>hn z.symm)];exact sT n hn
   have E1:=k.unset (i:=j) (u:=cf[j]?.getD none);rw[<-QX] at E1;have B5:gt (ρ.set j .un) i=.ov (.ll cj):=by rw[ot,if_neg (fun z=>l3 z.1.symm)];exact GK
   refine E1.eI B5 (by rw[sT i l3];exact s1) fun gx nd ow=>?_
   obtain⟨w1,w2⟩:=ow;have e3:gx=fp:=by
    rw[g1] at w1;injection w1 with w1
    injection w1 with w1
    exact((List.map_inj_right fun a b h=>by cases h;rfl).mp w1).symm
   subst e3;exact⟨gx,nd,⟨nZ,E7 (by have:=w2.length;exact this) hz⟩,fun q hq=>.inl hq,fun b hb _=>hH b fun z=>hb (au _ z)⟩
 ·exact h.elim
end
end L2
namespace L2
open PySem PySem.Spec PyProof.Rows
section
variable {prog:Program} {w:World} {A:Around} {Rz:Result->Shared->Prop} {I:Addr} {fp wr:List Addr} {n:Nat} {P:Nat->Value->Prop} {St:Nat->Heap->Prop} {Hk:Heap->Prop}
theorem xT:(toString "min"++toString ".loop":String)="min.loop":=by decide
theorem Ly(W:Walks prog w A.in1 I fp wr n P St)(bt:Nat->Nat->Bool)(S:Addr)(cmp:zb prog w A.in1 .Lt P Hk bt)(off:S∉fp)(kw:List (Str×Value))(gD:∀h h',Hk h->(∀b o,b∉wr->b≠S->h.get? b=some o->h'.get? b=some o)->Hk h') :
  ∀(m j:Nat) (z:Shared) (best:Value) (c:Nat),n-(j+1)=m->j<n->St (j+1) z.heap->Hk z.heap->P (argBest bt j) best->z.heap.get? S=some { cls:=.type "list",dict:=none,data:=.seq #[best,best] c,slots:=#[] }->
   (∀v h' tk,P (argBest bt (n-1)) v->(∀b o,b∉wr->b≠S->z.heap.get? b=some o->h'.get? b=some o)->Rz (.ok (.ret v)) { z with heap:=h',toks:=tk })->
   codeAny (model prog w) A (.builtin "min.loop" ⟨[.ref I,.none,.ref S],kw⟩) Rz z:=by
 have oG:S∉wr:=fun h=>off (W.sub _ h)
 intro m;induction m with
 | zero=>
  intro j z best c em lj st hk pb gS fin;have ej:j+1=n:=by omega
  refine codeAny_builtin F.entry_min_loop ?_;rw[Around.under_plainId F.plain_min_loop _];show wpAny _ A.in1 (seqItems? (.ref S) >>= _) _ _ z;refine aa (wpAny_seqItems gS rfl ?_);show wpAny _ A.in1 (tryCatch (pyNext (.ref I)) _ >>= _) _ _ z;refine aa (wpAny_tryCatch (W.done z _ _ (ej▸st) fun h1 tk kp=>?_));have qj:=kp S _ oG gS;show wpAny _ A.in1 (updateSeq S (fun _=>#[]) >>= _) _ _ _;refine aa ?_;refine wpAny_updateSeq qj rfl (aa (wpAny_letGo (ah ?_)));exact fin best _ tk (by rw[<-ej];exact pb) fun b o b1 b2 e=>(bF _ _ (Ne.symm b2)).trans (kp b o b1 e)
 | succ m ih=>
  intro j z best c em lj st hk pb gS fin;have Bp:j+1<n:=by omega
  refine codeAny_builtin F.entry_min_loop ?_;rw[Around.under_plainId F.plain_min_loop _];show wpAny _ A.in1 (seqItems? (.ref S) >>= _) _ _ z;refine aa (wpAny_seqItems gS rfl ?_);show wpAny _ A.in1 (tryCatch (pyNext (.ref I)) _ >>= _) _ _ z;refine aa (wpAny_tryCatch (W.item (j+1) z _ _ Bp st fun v h1 tk pv oC kp=>?_));have qj:=kp S _ oG gS;have yD:Hk h1:=gD _ _ hk fun b o b1 _ e=>kp b o b1 e
  show wpAny _ A.in1 (tryCatch (holding [v,v] (richCompare .Lt v best >>= _)) _ >>= _) _ _ _;refine aa (wpAny_tryCatch (br (aa (cmp (j+1) (argBest bt j) v best _ _ _ yD pv pb ?_))));refine aa (br (bD ?_));refine aa (wpAny_letGo (ah ?_));cases hb:bt (j+1) (argBest bt j) with
  | true=>
   simp only[bE];refine aa ?_;refine wpAny_updateSeq qj rfl (aa (wpAny_letGo ?_));rw[xT];have vL:∀f b o,b∉wr->b≠S->z.heap.get? b=some o->(h1.update S f).get? b=some o:=fun f b o b1 b2 e=>(bF _ _ (Ne.symm b2)).trans (kp b o b1 e)
   refine ah ⟨plainId_quiet F.plain_min_loop _,ih (j+1) _ v _ (by omega) Bp (W.frame _ _ _ oC fun b bf o e=>?_) (gD _ _ hk (vL _)) (by simp only[argBest,hb,bE];exact pv) (Heap.get?_update_self _ qj rfl) fun v' h2 vg vw vK=>?_⟩
   ·exact(bF _ _ (fun h:S=b=>off (by rw[h];exact bf))).trans e
   ·exact fin v' h2 vg vw fun b o b1 b2 e=>vK b o b1 b2 (vL _ b o b1 b2 e)
  | false=>
   simp only[aO,bp];refine aa (wpAny_letGo ?_);rw[xT];refine ah ⟨plainId_quiet F.plain_min_loop _,ih (j+1) _ best c (by omega) Bp oC yD (by simp only[argBest,hb,aO,bp];exact pb) qj fun v' h2 vg vw vK=>?_⟩;exact fin v' h2 vg vw fun b o b1 b2 e=>vK b o b1 b2 (kp b o b1 e)
theorem Lx(W:Walks prog w A.in1 I fp wr n P St)(bt:Nat->Nat->Bool)(S:Addr)(cmp:zb prog w A.in1 .Lt P Hk bt)(off:S∉fp)(kw:List (Str×Value))(gD:∀h h',Hk h->(∀b o,b∉wr->b≠S->h.get? b=some o->h'.get? b=some o)->Hk h')(pos:0<n){z:Shared}{c:Nat}(st:St 0 z.heap)(hk:Hk z.heap)
  (gS:z.heap.get? S=some { cls:=.type "list",dict:=none,data:=.seq #[] c,slots:=#[] })
  (fin:∀v h' tk,P (argBest bt (n-1)) v->(∀b o,b∉wr->b≠S->z.heap.get? b=some o->h'.get? b=some o)->Rz (.ok (.ret v)) { z with heap:=h',toks:=tk }) :
  codeAny (model prog w) A (.builtin "min.loop" ⟨[.ref I,.none,.ref S],kw⟩) Rz z:=by
 have oG:S∉wr:=fun h=>off (W.sub _ h)
 refine codeAny_builtin F.entry_min_loop ?_;rw[Around.under_plainId F.plain_min_loop _];show wpAny _ A.in1 (seqItems? (.ref S) >>= _) _ _ z;refine aa (wpAny_seqItems gS rfl ?_);show wpAny _ A.in1 (tryCatch (pyNext (.ref I)) _ >>= _) _ _ z;refine aa (wpAny_tryCatch (W.item 0 z _ _ pos st fun v h1 tk pv oC kp=>?_));have qj:=kp S _ oG gS;show wpAny _ A.in1 (updateSeq S (fun _=>#[v,v]) >>= _) _ _ _;refine aa ?_;refine wpAny_updateSeq qj rfl ?_;rw[xT];have vL:∀f b o,b∉wr->b≠S->z.heap.get? b=some o->(h1.update S f).get? b=some o:=fun f b o b1 b2 e=>(bF _ _ (Ne.symm b2)).trans (kp b o b1 e)
 refine ah ⟨plainId_quiet F.plain_min_loop _,Ly W bt S cmp off kw gD _ 0 _ v _ rfl pos (W.frame _ _ _ oC fun b bf o e=>?_) (gD _ _ hk (vL _)) pv (Heap.get?_update_self _ qj rfl) fun v' h2 vg vw vK=>?_⟩
 ·exact(bF _ _ (fun h:S=b=>off (by rw[h];exact bf))).trans e
 ·exact fin v' h2 vg vw fun b o b1 b2 e=>vK b o b1 b2 (vL _ b o b1 b2 e)
end
section
variable {prog:Program} {w:World} {A:Around} {E:Value->Shared->Prop} {s:Shared}
theorem MX{a b:Value}{bt:Nat->Nat->Bool}{Q:Value->Shared->Prop}(hh:A.handled=none)(cmp:zb prog w A.in1 .Lt (fun i v=>(#[a,b]:Array Value)[i]?=some v) (fun h=>∀c o,s.heap.get? c=some o->h.get? c=some o) bt)
  (h:∀h' tk,(∀c o,s.heap.get? c=some o->h'.get? c=some o)->Q (if bt 1 0=true then b else a) { s with heap:=h',toks:=tk }) :
  wpAny (model prog w) A (call (.builtin "min") [a,b]) Q E s:=by
 refine call_function_tree F.kind_min F.plain_min F.entry_min (F.args_min2 _ _) ?_;show wpAny _ A.in1 (Builtin.Builtins.bindParams "min" ["key","default"] 0 ⟨[],[]⟩ >>= _) _ _ s;refine aa (wpAny_of_eq (show Builtin.Builtins.bindParams "min" ["key","default"] 0 ⟨[],[]⟩=pure [none,none] from rfl) ?_);show wpAny _ A.in1 (newTuple [a,b] >>= _) _ _ s;refine aa (bc ?_);have hT:(s.heap.push { cls:=.type "tuple",data:=.seq #[a,b] }).IsTuple s.heap.objs.size #[a,b]:=⟨_,az _ rfl,rfl,0,rfl⟩
 have hsz:(s.heap.push { cls:=.type "tuple",data:=.seq #[a,b] }).objs.size=s.heap.objs.size+1:=Heap.size_push ..;refine aa (wpAny_pyIter_tuple hT ?_);refine aa (bc ?_);rw[xT];generalize Qq:s.heap.push { cls:=.type "tuple",data:=.seq #[a,b] }=h2 at *;have W:=Walks.tuple (prog:=prog) (w:=w) (A:=A.in1) hh h2.objs.size s.heap.objs.size (by rw[hsz];exact aP (Nat.lt_succ_self _)) #[a,b];have keep:∀c o,s.heap.get? c=some o->h2.get? c=some o:=fun c o e=>by rw[<-Qq];exact aj _ e
 have nS:∀c o,s.heap.get? c=some o->c∉[h2.objs.size]/\c≠(h2.push { cls:=.type "tuple_iterator",data:=.fields #[.ref s.heap.objs.size,.int 0 0] }).objs.size:=fun c o e=>by
  have:=aB e;refine⟨fun hm=>?_,fun h=>?_⟩
  ·have e1:c=h2.objs.size:=by simpa using hm
   rw[e1,hsz] at this;exact Nat.lt_irrefl _ (Nat.lt_of_succ_lt this)
  ·rw[Heap.size_push,hsz] at h;rw[h] at this;exact Nat.lt_irrefl _ (Nat.lt_of_succ_lt (Nat.lt_of_succ_lt this))
 refine ah ⟨plainId_quiet F.plain_min_loop _,?_⟩;have A6:=W.frame 0 _ ((h2.push { cls:=.type "tuple_iterator",data:=.fields #[.ref s.heap.objs.size,.int 0 0] }).push { cls:=.type "list",dict:=none,data:=.seq #[] 0,slots:=#[] }) ⟨⟨_,az _ rfl,rfl,rfl⟩,hT.push _⟩ fun b _ o e=>aj _ e
 have off:(h2.push { cls:=.type "tuple_iterator",data:=.fields #[.ref s.heap.objs.size,.int 0 0] }).objs.size∉[h2.objs.size,s.heap.objs.size]:=fun hm=>by
  rw[Heap.size_push] at hm;simp only[ar,List.not_mem_nil,or_false] at hm;omega
 refine Lx (bt:=bt) W _ (Hk:=fun h=>∀c o,s.heap.get? c=some o->h.get? c=some o) cmp off _ (fun h h' x y c o e=>y c o (nS c o e).1 (nS c o e).2 (x c o e)) (by simp) A6 (fun c o e=>aj _ (aj _ (keep c o e))) (az _ rfl) fun v h' tk pv kp=>?_
 have hv:v=if bt 1 0=true then b else a:=by
  have e:argBest bt ((#[a,b]:Array Value).size-1)=if bt 1 0=true then 1 else 0:=rfl
  rw[e] at pv;cases hb:bt 1 0 with
  | true=>rw[hb] at pv;simpa using pv.symm
  | false=>rw[hb] at pv;simpa using pv.symm
 rw[hv];exact h h' tk fun c o e=>kp c o (nS c o e).1 (nS c o e).2 (aj _ (aj _ (keep c o e)))
end
section
variable {X:Cx}
theorem LF(hu:X.A.units+64<cLine)(hc:X.calm=true):dh X (.builtin "min") (fun xs H Q=>∃a b ns ms,xs=[.ref a,.ref b]/\dO X.K H a (ns.map V.int)/\dO X.K H b (ms.map V.int)/\Q (if HT.lexLt ms ns=true then .ref b else .ref a) H):=by
 intro pins s σ H xs us Q I r h;obtain⟨a,b,ns,ms,rfl,ha,hb,q⟩:=h;obtain⟨u,w',rfl,ru,ik⟩:=uc r;cases ru;cases ik;obtain⟨Pw,r1,⟨o1,g1,c1⟩,_⟩:=I.tuple ha;obtain⟨Pu,r2,⟨o2,g2,c2⟩,_⟩:=I.tuple hb;have ky:∀i (v:Value),(#[Value.ref a,.ref b]:Array Value)[i]?=some v->∀z:Shared,(∀c o,s.heap.get? c=some o->z.heap.get? c=some o)->∃p it,v=.ref p/\IsTup z.heap p (List.toArray it)/\IntsAre it (if i=0 then ns else ms):=fun i v hv z kz=>by
  have hi:i=0\/i=1:=by
   have:=(Array.getElem?_eq_some_iff.mp hv).1;simp at this;omega
  rcases hi with rfl | rfl
  ·simp at hv;exact⟨a,Pw,hv.symm,⟨o1,kz _ _ g1,c1⟩,by simpa using uX r1⟩
  ·simp at hv;exact⟨b,Pu,hv.symm,⟨o2,kz _ _ g2,c2⟩,by simpa using uX r2⟩
 refine MX (bt:=fun i j=>HT.lexLt (if i=0 then ns else ms) (if j=0 then ns else ms)) (I.ok.hd hc) (fun i j vi vj z Q' E' hk pi pj hq=>?_) fun h' tk k=>?_
 ·obtain⟨p,it,rfl,t1,i1⟩:=ky i vi pi z hk;obtain⟨p',RD,rfl,t2,i2⟩:=ky j vj pj z hk;exact HT.ku t1 t2 i1 i2 (by show X.A.units+1<cLine;omega) hq
 ·show EP X pins σ Q (if HT.lexLt ms ns=true then .ref b else .ref a) _;refine⟨if HT.lexLt ms ns=true then .ref b else .ref a,H,I.kept k,?_,q⟩;split<;>rfl
def xm:ei:=fun ds Q=>match ds with
 | [.tup a,.tup b]=>∃ns ms,a=List.map D.int ns/\b=List.map D.int ms/\Q (.fz (if HT.lexLt ms ns=true then .tup b else .tup a))
 | _=>False
theorem As{K:PySem.W.Frag}{G:Hp}:∀{xs:List V} {ns:List Int},bJ K G xs (ns.map D.int)->xs=ns.map V.int
 | [],[],_=>rfl
 | x::xs,n::ns,r=>by
  rw[ao] at r;simp only[bJ,Rep] at r;rw[ao,r.1,As r.2]
 | [],_::_,r=>by rw[ao] at r;simp only[bJ] at r
 | _::_,[],r=>by rw[bG] at r;simp only[bJ] at r
theorem Jg(hu:X.A.units+64<cLine)(hc:X.calm=true):pD X (.builtin "min") xm:=by
 refine⟨_,LF hu hc,fun G H vs ds Q P s rs h k=>?_⟩;unfold xm at h;split at h
 ·obtain⟨ns,ms,rfl,rfl,q⟩:=h;obtain⟨v,w',rfl,rv,ik⟩:=t6 rs;have O3:=rv;have OZ:=ik;simp only[Rep] at rv ik;obtain⟨a,xs,rfl,h1,h2⟩:=rv;obtain⟨b,ys,rfl,h3,h4⟩:=ik;rw[As h2] at h1;rw[As h4] at h3;refine⟨a,b,ns,ms,rfl,dO.of (s _ _ h1),dO.of (s _ _ h3),k _ _ _ G (.refl s) (e7 ?_) q⟩;split
  ·exact OZ
  ·exact O3
 ·exact h.elim
end
end L2
namespace L2
open PySem PySem.Spec PyProof.Rows
section
variable {X:Cx} {pos:Pos} {i':Expr} {ti:TD}
def uo(i:Nat)(ti:TD):TD:=fun ρ Q=>match gt ρ i with
 | .ov (.dq bL)=>ti ρ fun rk=>match rk.val with
  | .tup es=>∃k d,iY es=some k/\iz bL k=some d/\Q (.fz d)
  | _=>False
 | _=>False
theorem EZ(hu:X.A.units+64<cLine)(i:Nat){x:Str}{p':Pos}(hi:PD X i' ti)(hs:wY i':=by intro _ _;rfl)(hN:X.N[i]?=some x:=by rfl)(hv:jf X.env.scope x:=by first | exact Or.inl rfl | exact Or.inr (Or.inl rfl) | exact Or.inr (Or.inr rfl))(hd:(x==("__debug__":Str))=false:=by decide)(eB:(x==("__classdict__":Str))=false:=by decide):PD X (.Subscript (.Name x p') i' pos) (uo i ti):=by
 obtain⟨t2,p2,q2⟩:=hi;refine⟨_,Ff hu (j8 hN hv hd eB) p2 hs,fun ρ σ G0 H0 G H Q P E h k=>?_⟩;unfold uo at h;split at h
 ·rename_i bL hg;obtain⟨own,o1,o2⟩:=E.on;obtain⟨a,fp,b1,b2,⟨rfl,ks,bs,ha,vW,oF⟩,b4⟩:=o2 i _ hg;refine⟨_,b1,q2 ρ σ G0 H0 G H _ _ E h fun u H3 rk G3 x3 m4 dm=>?_⟩;obtain⟨G4,x4,i7,_⟩:=m4.freeze x3;split at dm
  ·rename_i es e2;obtain⟨key,d,hk,hl,dm⟩:=dm;rw[e2] at i7;simp only[Rep] at i7;obtain⟨b,ys,rfl,hb,iT⟩:=i7;obtain⟨w,hw,ik⟩:=(bS.mono x4.g _ _ oF).look hl;exact⟨a,b,ks,bs,key,w,rfl,rfl,.inl (x4.h _ _ ha),dO.of (by rw[<-qG iT hk];exact x4.s _ _ hb),hw,k w H3 (.fz d) G4 x4 ik dm⟩
  ·exact dm.elim
 ·exact h.elim
end
end L2
namespace L2
open PySem PySem.Spec PyProof.Rows
section
variable {X:Cx} {pos:Pos} {e:Expr} {te:TD}
def EY(K:PySem.W.Frag):V->List V->Hp->VK->Prop:=fun x vs H Q=>∃l b xs zs,x=.ref l/\vs=[.ref b]/\H l=some (.lst xs)/\iu K H b zs/\xs.length+zs.length<=sizeLine/\Q .non (upd H l (.lst (xs++zs)))
theorem MW:wQ X "list.extend" (EY X.K):=by
 intro pins s σ H x vs v us Q I rx rv h;obtain⟨l,b,xs,zs,rfl,rfl,hH,hB,hz,q⟩:=h;cases rx;obtain⟨u,rfl,ru⟩:=rv.one;cases ru;obtain⟨z,its,n,r,hl,e⟩:=I.kx hH;obtain⟨z2,gI,n2,r2,e2⟩:=I.ft hB;have yC:zs.length=gI.length:=r2.length;have hsz:its.toArray.size+gI.toArray.size<=sizeLine:=by rw[aq,aq];omega
 have jV:¬(!its.toArray.isEmpty&&Builtin.List.listTooLong (its.toArray.size+gI.toArray.size))=true:=by
  rw[z0 hsz,Bool.and_false];exact aw
 refine call_meets F.slot_list_extend ⟨_,e,rfl⟩ F.entry_list_extend (F.args_list_extend_2 _ _)
  (AutoSeq1.list_extend_list_list_0 l its.toArray n b gI.toArray n2 jV (by rw[aq];omega) (by omega)) ⟨e,e2,?_⟩
 refine⟨.non,_,I.nj (its':=its++gI) hH e (by simp) (r.append r2) ?_,rfl,q⟩;rw[aC];exact hz
def xl(i:Nat)(te:TD):TX:=fun D ρ=>match gt ρ i with
 | .ow ds=>te ρ fun r=>match r with
  | .fz (.lst es)=>ds.length+es.length<=sizeLine/\D.nx (ρ.set i (.ow (ds++es)))
  | _=>False
 | _=>False
theorem JF(i:Nat){x:Str}{p1 p2 pos':Pos}(he:PD X e te)(hN:X.N[i]?=some x:=by rfl)(hv:jf X.env.scope x:=by first | exact Or.inl rfl | exact Or.inr (Or.inl rfl) | exact Or.inr (Or.inr rfl))(hd:(x==("__debug__":Str))=false:=by decide)(eB:(x==("__classdict__":Str))=false:=by decide)
  (fW:starEach [e] X.env=(false,eval e X.env)::starEach [] X.env:=by rfl)
  (hb:∀{ta:TE} {t:TA},PE X (.Name x p1) ta->PA X [e] t->PE X (.Call (.Attribute (.Name x p1) "extend" p2) [e] [] pos') (sQ X.K "list" (EY X.K) ta t):=by intro ta t h1 h2;exact sf PySem.F.plainAttrs_list PySem.F.slot_list_extend PySem.F.type_list_extend MW h1 h2) :
  PX X (.Expr (.Call (.Attribute (.Name x p1) "extend" p2) [e] [] pos') pos) (xl i te):=by
 obtain⟨t,p,q⟩:=he;refine⟨_,sF (hb (j8 hN hv hd eB) (mP p mN fW)),fun ρ σ G0 H0 G H D E k h g=>?_⟩;unfold xl at h;split at h
 ·rename_i ds hg;obtain⟨a,xs,h1,h2,h3,h4,h5⟩:=k.ow i ds hg;refine⟨_,h1,.inl ⟨rfl,xs,dP.of h2⟩,q ρ σ G0 H0 G H _ _ k h fun v H' r G' x1 rr hq=>?_⟩;split at hq
  ·rename_i es;have Gh:Rep X.K G' v (.lst es):=rr;simp only[Rep] at Gh;obtain⟨b,zs,rfl,b3,b4⟩:=Gh;have k2:=k.ext x1;refine⟨a,b,xs,zs,rfl,rfl,x1.h _ _ h2,x1.s.ft b3,by rw[h5.length,b4.length];exact hq.1,?_⟩;exact g.nx _ _ G' _ x1.g (k2.change hg h1 ((h5.mono x1.g).append b4)) hq.2
  ·exact hq.elim
 ·exact h.elim
end
end L2
namespace L2
open PySem PySem.Spec PyProof.Rows
theorem MV:typeLookup (.type "list_reverseiterator") "__len__"=pure none:=by rw[typeLookup_type,builtinLookup_eq_fast];kernel_rfl
theorem Lw:typeLookup (.type "list_reverseiterator") "__length_hint__"=pure (some (.builtin "list_reverseiterator.__length_hint__")):=by rw[typeLookup_type,builtinLookup_eq_fast];kernel_rfl
theorem NM:bootBuiltins "reversed"=some (.type "reversed"):=by decide +kernel
section
variable {prog:Program} {w:World} {A:Around} {E:Value->Shared->Prop} {s:Shared} {R:Result->Shared->Prop} {I l:Addr} {items:Array Value}
theorem MU(hh:A.handled=none)(S:Addr)(res:Value)(c₀:Nat)(hit:s.heap.IsRevIter I l ((items.size:Int)-1))(hl:s.heap.IsList l items)(du:l≠I)(wu:S≠I)(yH:S≠l)
  (hS:s.heap.get? S=some { cls:=.type "list",data:=.seq #[] c₀ })
  (hR:∀h' tk d7 c',(∀b o,b≠S->b≠I->s.heap.get? b=some o->h'.get? b=some o)->h'.get? S=some { cls:=.type "list",dict:=none,data:=.seq d7 c',slots:=#[] }->
   ItemsOf (fun i v=>items[items.size-1-i]?=some v) d7 items.size->R (.ok (.ret res)) { s with heap:=h',toks:=tk }) (hn:items.size<=sizeLine) :
  wpAny (model prog w) A.in1 (Builtin.List.listExtendWith (.ref S) (.ref I) res)
   (fun fin s'=>match fin with | .done f=>R (.ok f) s' | .again c'=>c'.quiet=true/\codeAny (model prog w) A c' R s') (fun e s'=>R (.error e) s') s:=by
 have QF:S∉[I,l]:=fun hm=>by
  rcases ar.mp hm with e | hm
  ·exact wu e
  ·exact yH (aV.mp hm)
 unfold Builtin.List.listExtendWith;refine aa (wpAny_typeOf (T:="list_reverseiterator") hit.typeIs ?_);have h1:Builtin.List.listSameRef (.ref S) (.ref I)=false:=by simp[Builtin.List.listSameRef,wu]
 have h2:(Value.type "list_reverseiterator"==Value.type "list")=false:=by decide
 have h3:(Value.type "list_reverseiterator"==Value.type "tuple")=false:=by decide
 simp only[h1,h2,h3,Bool.or_false,aO,bp];refine aa (wpAny_pyIter_revIter hit ?_);refine aa (br ?_);unfold Builtin.List.listLengthHint;refine aa (wpAny_specialOf (T:="list_reverseiterator") hit.typeIs MV ?_);show wpAny _ A.in1 (specialOf (Value.ref I) (Str.ofString "__length_hint__") >>= _) _ _ _;refine aa (wpAny_specialOf (T:="list_reverseiterator") hit.typeIs Lw ?_);wp_delta
 refine aa (wpAny_isInstance (T:="list_reverseiterator") (b:=true) hit.typeIs (by rw[isSubtype_type];kernel_rfl) ?_);rw[if_neg (by decide)];show wpAny _ _ (pure false) _ _ _;refine ah ?_;rw[if_neg (by decide)];have W:=(Walks.listRev (prog:=prog) (w:=w) (A:=A.in1) hh I l du items).toS;have A6:0<=items.size/\s.heap.IsRevIter I l ((items.size:Int)-1-((0:Nat):Int))/\s.heap.IsList l items:=⟨aU _,by simpa using hit,hl⟩
 refine ah ⟨plainId_quiet F.plain_extend_loop _,codeAny_extend_loopS W hn _ QF _ items.size 0 _ _ _ rfl (aU _) A6 hS (ItemsOf.nil _) fun s' d7 c' hm rE kE=>?_⟩;rw[Moved.eq_with hm];refine hR s'.heap s'.toks d7 c' (fun b ob hb rD e=>hm.heap b ob (fun lZ=>?_) e) rE kE;rcases ar.mp lZ with e' | lZ
 ·exact hb e'
 ·exact rD (aV.mp lZ)
theorem NL(hh:A.handled=none)(S:Addr)(hit:s.heap.IsRevIter I l ((items.size:Int)-1))(hl:s.heap.IsList l items)(du:l≠I)(wu:S≠I)(yH:S≠l)
  (hS:s.heap.get? S=some { cls:=.type "list",data:=.seq #[] })
  (hR:∀h' tk d7 c',(∀b o,b≠S->b≠I->s.heap.get? b=some o->h'.get? b=some o)->h'.get? S=some { cls:=.type "list",dict:=none,data:=.seq d7 c',slots:=#[] }->
   ItemsOf (fun i v=>items[items.size-1-i]?=some v) d7 items.size->R (.ok (.ret .none)) { s with heap:=h',toks:=tk }) (hn:items.size<=sizeLine) :
  wpAny (model prog w) A.in1 (Builtin.«list.__init__» ⟨[.ref S,.ref I],[]⟩)
   (fun fin s'=>match fin with | .done f=>R (.ok f) s' | .again c'=>c'.quiet=true/\codeAny (model prog w) A c' R s') (fun e s'=>R (.error e) s') s:=by
 show wpAny _ _ (do let old <-Builtin.List.listItems (.ref S);Builtin.List.listUpdate (.ref S) (fun _=>#[]);letGo old.toList.reverse;Builtin.List.listExtendWith (.ref S) (.ref I) .none) _ _ s;refine aa ?_;unfold Builtin.List.listItems;refine aa (wpAny_seqItems hS rfl (ah ?_));show wpAny _ _ (updateSeq S (fun _=>#[]) >>= fun _=>letGo (#[]:Array Value).toList.reverse >>= fun _=>Builtin.List.listExtendWith (.ref S) (.ref I) .none) _ _ s;refine aa (wpAny_updateSeq hS rfl ?_);have wq:=Heap.get?_update_self (Obj.mapSeq (fun _=>(#[]:Array Value))) hS rfl;have Bj:∀b o,b≠S->s.heap.get? b=some o->(s.heap.update S (Obj.mapSeq (fun _=>(#[]:Array Value)))).get? b=some o:=
  fun b o hb e=>(bF _ _ (Ne.symm hb)).trans e
 refine aa (wpAny_letGo ?_);refine MU hh S .none _ (hit.at fun o e=>Bj I o (Ne.symm wu) e) (hl.at fun o e=>Bj l o (Ne.symm yH) e) du wu yH wq (fun h' tk d7 c' hk rE kE=>?_) hn;exact hR h' tk d7 c' (fun b o hb rD e=>hk b o hb rD (Bj b o hb e)) rE kE
theorem NK{Q:Value->Shared->Prop}(hh:A.handled=none)(hit:s.heap.IsRevIter I l ((items.size:Int)-1))(hl:s.heap.IsList l items)(du:l≠I)
  (hQ:∀h' tk d7 c',(∀b o,b≠I->s.heap.get? b=some o->h'.get? b=some o)->
   h'.get? s.heap.objs.size=some { cls:=.type "list",dict:=none,data:=.seq d7 c',slots:=#[] }->ItemsOf (fun i v=>items[items.size-1-i]?=some v) d7 items.size->Q (.ref s.heap.objs.size) { s with heap:=h',toks:=tk }) (hn:items.size<=sizeLine) :
  wpAny (model prog w) A (call (.type "list") [.ref I]) Q E s:=by
 refine callType_codes (Q₁:=fun obj bZ=>obj=.ref s.heap.objs.size/\bZ={ s with heap:=s.heap.push { cls:=.type "list",data:=.seq #[] } }) F.called_list (F.typeCall_list_1 _) F.entry_list_init
  (code_list_new _ ⟨rfl,rfl⟩) fun obj bZ fU=>?_
 obtain⟨rfl,rfl⟩:=fU;have hS:(s.heap.push { cls:=.type "list",data:=.seq #[] }).get? s.heap.objs.size=some { cls:=.type "list",data:=.seq #[] }:=az _ rfl;have hI:s.heap.objs.size≠I:=by obtain⟨o,ho,_⟩:=hit;exact Nat.ne_of_gt (aB ho)
 have hL:s.heap.objs.size≠l:=by obtain⟨o,ho,_⟩:=hl;exact Nat.ne_of_gt (aB ho)
 refine⟨⟨_,hS,rfl⟩,F.args_list_init_2 _ _,NL (A:=A.in1) hh _ (hit.at fun o e=>aj _ e) (hl.at fun o e=>aj _ e) du hI hL hS (fun h' tk d7 c' hk rE kE=>?_) hn⟩;exact⟨rfl,hQ h' tk d7 c' (fun b o hb e=>hk b o (aP (aB e)) hb (aj _ e)) rE kE⟩
end
theorem Lv{xs:List V}{its:List Value}(h:Vals xs its){acc:Array Value}(ha:ItemsOf (fun i v=>its.toArray[its.toArray.size-1-i]?=some v) acc its.toArray.size):acc.toList=its.reverse:=by
 apply List.ext_getElem?;intro i;have hs:=ha.1;simp only[aq] at hs;by_cases hi:i<its.length
 ·have h2:i<acc.size:=by omega
  have:=ha.2 i acc[i] (Array.getElem?_eq_getElem h2);simp only[aq,List.getElem?_toArray] at this;rw[List.getElem?_reverse hi,this];simp[h2]
 ·rw[List.getElem?_eq_none (by simp;omega),List.getElem?_eq_none (by simp;omega)]
theorem Lu{xs:List V}{its:List Value}(h:Vals xs its):Vals xs.reverse its.reverse:=by
 induction h with
 | nil=>exact .nil
 | cons a b ih=>
  rw[List.reverse_cons,List.reverse_cons];exact ih.append (.cons a .nil)
theorem EX{K:PySem.W.Frag}{G:Hp}:∀{vs:List V} {ds:List D},bJ K G vs ds->bJ K G vs.reverse ds.reverse
 | [],[],_=>by simp[bJ]
 | v::vs,d::ds,h=>by
  simp only[bJ] at h;rw[List.reverse_cons,List.reverse_cons];exact(EX h.2).append (by simp only[bJ];exact⟨h.1,trivial⟩)
 | [],_::_,h=>by simp only[bJ] at h
 | _::_,[],h=>by simp only[bJ] at h
section
variable {X:Cx} {p p2 pos kn:Pos} {e:Expr} {te:TE}
def Ls(K:PySem.W.Frag)(te:TE):TE:=fun σ H Q=>Dr te C5 σ H fun vs H1=>∃q ys,vs=[.ref q]/\dP K H1 q ys/\∀l,H1 l=none->Q (.ref l) (upd H1 l (.lst ys.reverse))
theorem MT(hc:X.calm=true)(hm:X.mg "list"=none)(vT:X.mg "reversed"=none)(ha:PE X e te)(hg:Gl X "list")(qg:Gl X "reversed")(fW:starEach [e] X.env=(false,eval e X.env)::starEach [] X.env)
  (lX:starEach [Expr.Call (.Name "reversed" p2) [e] [] kn] X.env=(false,eval (.Call (.Name "reversed" p2) [e] [] kn) X.env)::starEach [] X.env):PE X (.Call (.Name "list" p) [.Call (.Name "reversed" p2) [e] [] kn] [] pos) (Ls X.K te):=by
 intro pins s σ H Q I h;refine wpAny_Call_Name_kw (pJ I hg hm boot_list (PyProof.Rows.callWith_type1 ?_ lX rfl));rw[lX];show wpAny _ _ (spliced ((false,eval _ X.env)::backTo pos (starEach [] X.env))) _ _ s;refine Calls.spliced_cons (wpAny_Call_Name_kw (pJ I qg vT NM (PyProof.Rows.callWith_type1 (cA (mP (te:=te) ha mN fW kn pins s σ H _ I h) fun us s1 bW=>?_) fW rfl)));obtain⟨vs,H1,I1,r1,q1⟩:=bW;obtain⟨q,ys,rfl,hq,kq⟩:=q1;obtain⟨u,rfl,rx⟩:=mi r1;cases rx;obtain⟨its,r',pl,hz⟩:=I1.list hq;have hlen:=r'.length;have hl:=pl.isList;refine call_reversed_list hl ?_;refine Calls.spliced_nil ?_;have P5:q<s1.heap.objs.size:=by obtain⟨o,ho,_⟩:=hl;exact aB ho
 refine NK (I.ok.hd hc) (I:=s1.heap.objs.size) (l:=q) (items:=its.toArray) ⟨_,az _ rfl,rfl,rfl⟩ (hl.at fun o e=>aj _ e) (aP P5) (fun h' tk acc c hk rE kE=>?_) (by simp only[aq];omega);have e1:=Lv r' kE;have e2:acc=its.reverse.toArray:=by rw[<-e1]
 subst e2;have hsz:s1.heap.objs.size<=(s1.heap.push (revObj q ((its.toArray.size:Int)-1))).objs.size:=by simp[Heap.push]
 exact⟨.ref _,_,I1.laid (t':=tk) (fun b u e=>hk b u (aP (aB e)) (aj _ e)) hsz (show cH X.prog X.w _ h' _ (.lst ys.reverse) from⟨by simpa using hz,its.reverse,c,Lu r',rE⟩),rfl,kq _ (I1.cB.fresh hsz)⟩
def Aa(te:TD):TD:=fun ρ Q=>te ρ fun r=>match r.val with
 | .lst es=>Q (.ow es.reverse)
 | _=>False
theorem MS{td:TD}(hc:X.calm=true)(hm:X.mg "list"=none)(vT:X.mg "reversed"=none)(ha:PD X e td)(hg:Gl X "list":=by rfl)(qg:Gl X "reversed":=by rfl)(fW:starEach [e] X.env=(false,eval e X.env)::starEach [] X.env:=by rfl)
  (lX:starEach [Expr.Call (.Name "reversed" p2) [e] [] kn] X.env=(false,eval (.Call (.Name "reversed" p2) [e] [] kn) X.env)::starEach [] X.env:=by rfl):PD X (.Call (.Name "list" p) [.Call (.Name "reversed" p2) [e] [] kn] [] pos) (Aa td):=by
 obtain⟨t,pp,q⟩:=ha;refine⟨_,MT hc hm vT pp hg qg fW lX,fun ρ σ G0 H0 G H Q P E h k=>q ρ σ G0 H0 G H _ _ E h fun v H' r G' x rr hq=>?_⟩;obtain⟨G2,x2,rv,_⟩:=rr.freeze x;split at hq
 ·rename_i es e1;rw[e1] at rv;simp only[Rep] at rv;obtain⟨a,xs,rfl,h1,h2⟩:=rv;refine⟨a,xs,rfl,(x2.s.ft h1).sq,xN x2.s (EX h2) hq fun v H2 r G3 x3 rr q2=>k v H2 r G3 (x2.trans x3) (rr.g7 x2.h) q2⟩
 ·exact hq.elim
end
end L2
section
namespace Wc
open PySem L2
noncomputable def cO(l:List Nat):Str:=⟨l.toArray⟩
theorem nR(l:List Nat):(cO l).cps.toList=l:=by simp[cO]
theorem xS(l:List Nat):(cO l).length=l.length:=by simp[cO,Str.length]
theorem uE{a b:List Nat}:cO a=cO b↔a=b:=by
 constructor
 ·intro h;have:(cO a).cps.toList=(cO b).cps.toList:=by rw[h]
  simpa[cO] using this
 ·rintro rfl;rfl
theorem DG(w:Str):cO w.cps.toList=w:=by cases w;simp[cO]
theorem vI(c:Nat):(⟨#[c]⟩:Str)=cO [c]:=rfl
theorem nQ{α β:Type}(f:α->β)(l:List α)(i:Int):cT (l.map f) i=(cT l i).map f:=by
 unfold cT;rw[ae];cases jR l.length i with
 | none=>rfl
 | some j=>simp
theorem Jf{α β:Type}{f:α->β}{o:Option α}{p:β->Prop}:(∃d,o.map f=some d/\p d)↔∃x,o=some x/\p (f x):=by
 cases o with
 | none=>simp
 | some x=>simp
theorem Je{α β:Type}{f:α->β}{l:List α}{i:Int}{p:β->Prop}:(∃d,cT (l.map f) i=some d/\p d)↔∃x,cT l i=some x/\p (f x):=by rw[nQ];exact Jf
theorem uy{α:Type}{l:List α}{i:Int}(h0:0<=i)(h1:i<l.length):∃h:i.toNat<l.length,cT l i=some (l[i.toNat]'h):=by
 refine⟨by omega,?_⟩;unfold cT jR;rw[if_pos h0,if_pos h1];simp only[Option.bind_some];exact ab _
theorem ou{α:Type}{l:List α}{j:Nat}(h:j<l.length):cT l (j:Int)=some l[j]:=by
 obtain⟨h',e⟩:=uy (l:=l) (i:=(j:Int)) (by omega) (by omega);simpa using e
theorem Ec{n d:Nat}{j:Int}(h:0<=j):HT.cL n d (some j)=min j.toNat n:=by show(if j<0 then _ else _)=_;rw[if_neg (by omega)]
theorem Lr{α:Type}(l:List α){i j:Int}(hi:0<=i)(h:0<=j):jt l (some i) (some j)=(l.drop i.toNat).take (j.toNat-i.toNat):=by
 unfold jt;rw[Ec h,Ec hi];by_cases hl:l.length<=i.toNat
 ·rw[Nat.min_eq_right hl,List.drop_of_length_le hl,List.drop_of_length_le (ay _)];simp
 ·rw[Nat.min_eq_left (a:=i.toNat) (by omega)];by_cases hj:l.length<=j.toNat
  ·rw[Nat.min_eq_right hj,List.take_of_length_le (by simp),List.take_of_length_le (by simp;omega)]
  ·rw[Nat.min_eq_left (by omega)]
theorem Lq(l:List Nat){i j:Int}(hi:0<=i)(h:0<=j):px (cO l) (some i) (some j)=cO ((l.drop i.toNat).take (j.toNat-i.toNat)):=by unfold px;rw[nR,Lr _ hi h];rfl
theorem Lp{α β:Type}(f:α->β)(l:List α)(lo hi:Option Int):jt (l.map f) lo hi=(jt l lo hi).map f:=by unfold jt;rw[ae,List.map_take,List.map_drop]
theorem zN(n:Nat)(i:Int):d8 n (.int i)=True:=by cases n<;>exact eq_true trivial
theorem sy(n:Nat)(i:Str):d8 n (.str i)=True:=by cases n<;>exact eq_true trivial
theorem Jd(n:Nat)(i:Bool):d8 n (.bl i)=True:=by cases n<;>exact eq_true trivial
theorem JE(n:Nat):d8 n .non=True:=by cases n<;>exact eq_true trivial
theorem Eb{α:Type}[BEq α][LawfulBEq α][DecidableEq α](a b:α):(a==b)=decide (a=b):=by rw[Bool.eq_iff_iff];simp
theorem uD(a b:Str):cS (.str a) (.str b)=decide (a=b):=by simp only[cS,Eb]
theorem JD(a b:Int):cS (.int a) (.int b)=decide (a=b):=by simp only[cS,Eb]
theorem fV:sizeLine=16777216:=by decide
@[irreducible] def rS(u:TX)(D:DE):Ev->Prop:=u D
theorem Jc(t u:TX)(D:DE)(ρ:Ev):cq t u D ρ=t { nx:=rS u D,rt:=D.rt,bk:=D.bk,ct:=D.ct } ρ:=by unfold rS;rfl
end Wc
open PySem L2 Wc
local macro_rules | `(tactic| walk_at "b")=>`(tactic| simp only[Jc,eU,mL,jq,tK,cQ,uf,dC,IG,zA,Iq,Ip,eC,bM,bU,bK,ao,bG,List.cons_append,List.nil_append,List.set,gt,gM,fT,oI,bQ,ez,gr,eX,jB,eM,ic,dN,eK,nH,cX,ib,eZ,jv,tR,jC,oEq,vz,cR,tI,vy,qA,eE,rX,Hz,rW,xf,tT,dM,iK,pC,tU,iE,xa,xo,ju,jA,zl,nK,r0,rV,Io,IF,IE,Pd,Pb,kh,fA,Int.reduceLT,Int.reduceLE,Int.reduceAdd,Int.reduceSub,Int.reduceMul,Int.reduceNeg,Int.reducePow,Int.reduceToNat,decide_true,decide_false,true_and,and_true,and_self,or_true,true_or,zN,sy,Jd,JE,Je,aO,bp,bE,Bool.not_true,Bool.not_false,aI,List.length_nil,Nat.reduceAdd,aW,JD,uD,Lp,MC,ya,t9,t8])
local macro_rules | `(tactic| walk_at "all")=>`(tactic| ((try walk_at "px");repeat(simp only[rS];try walk_at "px")))
local macro_rules | `(tactic| walk_at "px")=>`(tactic| walk_at "b")
local macro_rules | `(tactic| walk_at "go")=>`(tactic| (simp only[rS];walk_at "px"))
namespace Wc
open PySem L2
noncomputable def wV(c k:Int):Int:=(c%1000000000000000000000000000000*(k*k+48271)+7919*k*k*k+11)%2147483647/7
theorem Jb(c k:Int):0<=wV c k:=Int.ediv_nonneg (Int.emod_nonneg _ (by decide)) (by decide)
def pR:ei:=fun ds Q=>∃c k:Int,ds=[.int c,.int k]/\0<=k/\k<=1000000/\Q (.fz (.int (wV c k)))
def Am:TX:=(gr (bQ (oI kh fun i j=>.int (i/j)) (bQ (oI (fun _ j=>0<j) fun i j=>.int (i%j)) (bQ ez (bQ ez (bQ (oI fA fun i j=>.int (i*j)) (bQ (oI (fun _ j=>0<j) fun i j=>.int (i%j)) (bK 0) (bQ (oI qu fun i j=>.int (i ^ j.toNat)) (dC (.int 10)) (dC (.int 30)))) (bQ ez (bQ (oI fA fun i j=>.int (i*j)) (bK 1) (bK 1)) (dC (.int 48271)))) (bQ (oI fA fun i j=>.int (i*j)) (bQ (oI fA fun i j=>.int (i*j)) (bQ (oI fA fun i j=>.int (i*j)) (dC (.int 7919)) (bK 1)) (bK 1)) (bK 1))) (dC (.int 11))) (dC (.int 2147483647))) (dC (.int 7))))
theorem NJ(ds:List D)(Qr:R->Prop)(hl:ds.length=2)(h:pR ds Qr):Am { nx:=fun _=>Qr (.fz .non),rt:=Qr } (fQ ["_law_cell","_law_k"] ds):=by
 obtain⟨c,k,rfl,h0,h1,q⟩:=h;show Am _ [.fz (.int c),.fz (.int k)];unfold Am;walk_at "all";have hk:k*k<=1000000*1000000:=Int.mul_le_mul h1 h1 h0 (by decide);have GJ:0<=k*k:=Int.mul_nonneg h0 h0;refine⟨.inl ⟨by omega,by omega⟩,.inr ⟨by omega,by omega⟩,.inr ⟨by omega,by omega⟩,.inr ⟨by omega,by omega⟩,?_⟩;exact q
end Wc
namespace Wc
open PySem L2 PyProof.Rows
noncomputable def dI(l:List Int):D:=.lst (l.map .int)
noncomputable def Q7(p:Int×Int×Int):D:=.tup [.int p.1,.int p.2.1,.int p.2.2]
noncomputable def dK(l:List (Int×Int×Int)):D:=.lst (l.map Q7)
theorem Lo{α:Type}(a:α)(r:List α):cT (a::r) 0=some a:=by
 unfold cT jR;rw[if_pos (by decide),if_pos (by simp only[aI];omega)];rfl
theorem tZ(o:OV):(R.ov o).sl=.ov o:=rfl
theorem um(o:OV):(R.ov o).val=o.val:=rfl
end Wc
namespace Wc
inductive Cn {α:Type} (E:List (α×α)):α->α->Prop
 | refl (a:α):Cn E a a
 | step {a b c:α}:Cn E a b->(b,c)∈E\/(c,b)∈E->Cn E a c
section
variable {α β:Type} {E:List (α×α)} {F:List (β×β)} {a b c:α}
theorem Cn.one(h:(a,b)∈E):Cn E a b:=.step (.refl a) (.inl h)
theorem Cn.Hb(h:(a,b)∈E):Cn E b a:=.step (.refl b) (.inr h)
theorem Cn.trans(h:Cn E a b)(k:Cn E b c):Cn E a c:=by
 induction k with
 | refl=>exact h
 | step _ e ih=>exact .step ih e
theorem Cn.symm(h:Cn E a b):Cn E b a:=by
 induction h with
 | refl=>exact .refl _
 | step _ e ih=>exact(Cn.step (.refl _) e.symm).trans ih
theorem Cn.to{f:α->β}(h:∀x y,(x,y)∈E->Cn F (f x) (f y))(k:Cn E a b):Cn F (f a) (f b):=by
 induction k with
 | refl=>exact .refl _
 | step _ e ih=>
  refine ih.trans ?_;rcases e with e | e
  ·exact h _ _ e
  ·exact(h _ _ e).symm
theorem DF{lab:α->α}(h1:∀x y,(x,y)∈E->lab x=lab y)(h2:∀x,Cn E x (lab x)):lab a=lab b↔Cn E a b:=by
 constructor
 ·intro h;refine(h2 a).trans ?_;rw[h];exact(h2 b).symm
 ·intro h;induction h with
  | refl=>rfl
  | step _ e ih=>
   rw[ih];rcases e with e | e
   ·exact h1 _ _ e
   ·exact(h1 _ _ e).symm
theorem Ja{f:α->β}{g:β->α}(h1:∀x y,(x,y)∈E->Cn F (f x) (f y))(h2:∀x y,(x,y)∈F->Cn E (g x) (g y))(ha:Cn E a (g (f a)))(hb:Cn E b (g (f b))):Cn E a b↔Cn F (f a) (f b):=
 ⟨fun h=>h.to h1,fun h=>(ha.trans (h.to h2)).trans hb.symm⟩
end
structure e8 {κ α:Type} [DecidableEq κ] (l:List (κ×α)) (bL:List (κ×List α)):Prop where
 nd:(bL.map (·.1)).Nodup
 is:∀p∈bL,p.2=(l.filter fun q=>decide (q.1=p.1)).map (·.2)
 all:∀p∈l,∃g,(p.1,g)∈bL
 ex:∀p∈bL,∃q∈l,q.1=p.1
section
variable {κ qr α:Type} [DecidableEq κ] [DecidableEq qr] {l:List (κ×α)} {bL:List (κ×List α)} {m:List (qr×α)} {nX:List (qr×List α)}
theorem e8.nil:e8 (κ:=κ) (α:=α) [] []:=⟨by simp,by simp,by simp,by simp⟩
theorem zj{p q:κ×List α}(nd:(bL.map (·.1)).Nodup)(hp:p∈bL)(hq:q∈bL)(e:p.1=q.1):p=q:=by
 induction bL with
 | nil=>cases hp
 | cons a r ih=>
  rw[ao,aS] at nd;rcases ar.mp hp with rfl | hp
  ·rcases ar.mp hq with rfl | hq
   ·rfl
   ·exact absurd (av.mpr ⟨q,hq,e.symm⟩) nd.1
  ·rcases ar.mp hq with z | hq
   ·exact absurd (av.mpr ⟨p,hp,by rw[e,z]⟩) nd.1
   ·exact ih nd.2 hp hq
theorem e8.fresh(G:e8 l bL){k:κ}{e:α}(h:∀p∈bL,p.1≠k):e8 (l++[(k,e)]) (bL++[(k,[e])]):=by
 have hl:∀p∈l,p.1≠k:=fun p hp z=>by
  obtain⟨g,hg⟩:=G.all p hp;exact h _ hg z
 refine⟨?_,fun p hp=>?_,fun p hp=>?_,fun p hp=>?_⟩
 ·rw[aA,List.nodup_append];refine⟨G.nd,by simp,fun x hx y hy z=>?_⟩;obtain⟨p,hp,rfl⟩:=av.mp hx;simp at hy;exact h p hp (z.trans hy)
 ·rw[List.filter_append,aA];rcases aD.mp hp with hp | hp
  ·rw[<-G.is p hp];have:decide (k=p.1)=false:=aF fun z=>h p hp z.symm
   simp[List.filter_cons,this]
  ·simp at hp;subst hp;have:(l.filter fun q=>decide (q.1=k))=[]:=List.filter_eq_nil_iff.mpr fun q hq=>by simpa using hl q hq
   simp[this]
 ·rcases aD.mp hp with hp | hp
  ·obtain⟨g,hg⟩:=G.all p hp;exact⟨g,aY _ hg⟩
  ·simp at hp;subst hp;exact⟨[e],by simp⟩
 ·rcases aD.mp hp with hp | hp
  ·obtain⟨q,hq,e1⟩:=G.ex p hp;exact⟨q,aY _ hq,e1⟩
  ·simp at hp;subst hp;exact⟨(k,e),by simp,rfl⟩
theorem e8.more(G:e8 l bL){k:κ}{e:α}{n:Nat}{g:List α}(h:bL[n]?=some (k,g)):e8 (l++[(k,e)]) (bL.set n (k,g++[e])):=by
 have hn:n<bL.length:=(ag.mp h).1;have lZ:(k,g)∈bL:=ax h;have keys:(bL.set n (k,g++[e])).map (·.1)=bL.map (·.1):=by
  rw[List.map_set];apply List.ext_getElem?;intro i;rw[List.getElem?_set];split
  ·rename_i z;subst z;rw[if_pos (by simpa using hn),ai,h];rfl
  ·rfl
 have other:∀p∈bL.set n (k,g++[e]),p=(k,g++[e])\/(p∈bL/\p.1≠k):=fun p hp=>by
  obtain⟨i,hi⟩:=aN hp;rw[List.getElem?_set] at hi;split at hi
  ·rename_i z;subst z;simp[hn] at hi;exact .inl hi.symm
  ·rename_i z;refine .inr ⟨ax hi,fun z2=>z ?_⟩;have e1:(bL.map (·.1))[i]?=some k:=by rw[ai,hi];simp[z2]
   have e2:(bL.map (·.1))[n]?=some k:=by rw[ai,h];rfl
   have tq:i<(bL.map (·.1)).length:=(ag.mp e1).1;have BS:n<(bL.map (·.1)).length:=(ag.mp e2).1;exact(List.getElem?_inj BS G.nd).mp (by rw[e1,e2])
 refine⟨by rw[keys];exact G.nd,fun p hp=>?_,fun p hp=>?_,fun p hp=>?_⟩
 ·rw[List.filter_append,aA];rcases other p hp with rfl | ⟨hp,hk⟩
  ·have:=G.is _ lZ;simp only at this;simp[<-this]
  ·rw[<-G.is p hp];have:decide (k=p.1)=false:=aF fun z=>hk z.symm
   simp[List.filter_cons,this]
 ·have:p.1∈(bL.set n (k,g++[e])).map (·.1):=by
   rw[keys];rcases aD.mp hp with hp | hp
   ·obtain⟨g,hg⟩:=G.all p hp;exact av.mpr ⟨_,hg,rfl⟩
   ·simp at hp;subst hp;exact av.mpr ⟨_,lZ,rfl⟩
  obtain⟨q,hq,e1⟩:=av.mp this;exact⟨q.2,by rw[<-e1];exact hq⟩
 ·rcases other p hp with rfl | ⟨hp,hk⟩
  ·exact⟨(k,e),by simp,rfl⟩
  ·obtain⟨q,hq,e1⟩:=G.ex p hp;exact⟨q,aY _ hq,e1⟩
theorem Ea(G:e8 l bL)(M:e8 m nX)(hp:(l.map (·.2)).Perm (m.map (·.2)))(nd:(l.map (·.2)).Nodup)
  (same:∀p∈l,∀q∈l,∀p'∈m,∀q'∈m,p.2=p'.2->q.2=q'.2->(p.1=q.1↔p'.1=q'.1)) {p:κ×List α} (hk:p∈bL):∃q∈nX,q.2.Perm p.2:=by
 obtain⟨x,hx,ex⟩:=G.ex p hk;obtain⟨y,hy,ey⟩:=av.mp (hp.subset (av.mpr ⟨x,hx,rfl⟩));obtain⟨g,hg⟩:=M.all y hy;refine⟨_,hg,?_⟩;have iU:(m.map (·.2)).Nodup:=hp.nodup_iff.mp nd;rw[G.is p hk,M.is _ hg];have n1:((m.filter fun q=>decide (q.1=y.1)).map (·.2)).Nodup:=iU.sublist ((List.filter_sublist).map _);have n2:((l.filter fun q=>decide (q.1=p.1)).map (·.2)).Nodup:=nd.sublist ((List.filter_sublist).map _);refine(List.perm_ext_iff_of_nodup n1 n2).mpr fun e=>?_
 constructor
 ·intro h;obtain⟨q',k5,rfl⟩:=av.mp h;obtain⟨k5,e1⟩:=ba.mp k5;obtain⟨q,hq,e2⟩:=av.mp (hp.symm.subset (av.mpr ⟨q',k5,rfl⟩));refine av.mpr ⟨q,ba.mpr ⟨hq,?_⟩,e2⟩;have:=(same q hq x hx q' k5 y hy e2 ey.symm).mpr (by simpa using e1);rw[ex] at this;simpa using this
 ·intro h;obtain⟨q,hq,rfl⟩:=av.mp h;obtain⟨hq,e1⟩:=ba.mp hq;obtain⟨q',k5,e2⟩:=av.mp (hp.subset (av.mpr ⟨q,hq,rfl⟩));refine av.mpr ⟨q',ba.mpr ⟨k5,?_⟩,e2⟩;have:=(same q hq x hx q' k5 y hy e2.symm ey.symm).mp (by rw[ex];simpa using e1);simpa using this
theorem I0(G:e8 l bL)(nd:(l.map (·.2)).Nodup){p q:κ×List α}(hp:p∈bL)(hq:q∈bL)(h:p.2.Perm q.2):p=q:=by
 obtain⟨x,hx,ex⟩:=G.ex p hp;have h1:x.2∈p.2:=by rw[G.is p hp];exact av.mpr ⟨x,ba.mpr ⟨hx,by simpa using ex⟩,rfl⟩
 have h2:=h.subset h1;rw[G.is q hq] at h2;obtain⟨y,hy,ey⟩:=av.mp h2;obtain⟨hy,e1⟩:=ba.mp hy;have:x=y:=by
  obtain⟨i,hi⟩:=aN hx;obtain⟨j,hj⟩:=aN hy;have e2:(l.map (·.2))[i]?=some x.2:=by rw[ai,hi];rfl
  have e3:(l.map (·.2))[j]?=some x.2:=by rw[ai,hj];simp[ey]
  have:i=j:=(List.getElem?_inj (ag.mp e2).1 nd).mp (by rw[e2,e3]);subst this;rw[hi] at hj;exact aQ hj
 subst this;exact zj G.nd hp hq (by rw[<-ex];simpa using e1)
theorem JC(G:e8 l bL)(M:e8 m nX)(hp:(l.map (·.2)).Perm (m.map (·.2)))(nd:(l.map (·.2)).Nodup)
  (same:∀p∈l,∀q∈l,∀p'∈m,∀q'∈m,p.2=p'.2->q.2=q'.2->(p.1=q.1↔p'.1=q'.1))
  {f:List α->List α} (f1:∀g,(f g).Perm g) (f2:∀g g',g.Perm g'->f g=f g'):(bL.map fun p=>f p.2).Perm (nX.map fun p=>f p.2):=by
 have iU:(m.map (·.2)).Nodup:=hp.nodup_iff.mp nd;have Gn:∀{κ:Type} [DecidableEq κ] {l:List (κ×α)} {bL:List (κ×List α)},e8 l bL->(l.map (·.2)).Nodup->(bL.map fun p=>f p.2).Nodup:=fun{κ} _ {l bL} G nd=>by
  have h1:bL.Pairwise (·≠·):=by
   have:=G.nd;rw[List.nodup_iff_pairwise_ne,List.pairwise_map] at this;exact this.imp fun h z=>h (by rw[z])
  rw[List.nodup_iff_pairwise_ne,List.pairwise_map];refine h1.imp_of_mem fun{a b} ha hb iD z=>iD (I0 G nd ha hb ?_)
  exact((f1 a.2).symm.trans (List.Perm.of_eq z)).trans (f1 b.2)
 refine(List.perm_ext_iff_of_nodup (Gn G nd) (Gn M iU)).mpr fun g=>?_
 constructor
 ·intro h;obtain⟨p,BL,rfl⟩:=av.mp h;obtain⟨q,hq,e⟩:=Ea G M hp nd same BL;exact av.mpr ⟨q,hq,f2 _ _ e⟩
 ·intro h;obtain⟨p,BL,rfl⟩:=av.mp h;obtain⟨q,hq,e⟩:=Ea M G hp.symm iU (fun a ha b hb a' qi b' iV e1 e2=>(same a' qi b' iV a ha b hb e1.symm e2.symm).symm) BL;exact av.mpr ⟨q,hq,f2 _ _ e⟩
end
end Wc
namespace Wc
section
variable {κ:Type} {E:List (κ×κ)} {nb:κ->List κ} {F F0:κ->Option κ} {first:κ} {wt:List κ}
def xw(E:List (κ×κ))(nb:κ->List κ)(F:κ->Option κ):Prop:=∀x a,F x=some a->Cn E x a/\∀y∈nb x,F y=some a
structure mI (E:List (κ×κ)) (nb:κ->List κ) (F0 F:κ->Option κ) (first:κ) (wt:List κ):Prop where
 old:∀x,F0 x≠none->F x=F0 x
 new:∀x y,F x=some y->F0 x=none->y=first/\Cn E first x
 rK:∀x y,F x≠none->F0 x=none->y∈nb x->F y≠none\/y∈wt
 wait:∀x∈wt,Cn E first x
 fst:F first≠none\/first∈wt
theorem mI.start:mI E nb F F first [first]:=⟨fun _ _=>rfl,fun x y h1 h2=>(by rw[h1] at h2;cases h2),fun x y h1 h2=>absurd h2 h1,fun x hx=>by
 have:x=first:=by simpa using hx
 rw[this]
 exact .refl _,.inr (by simp)⟩
theorem mI.skip{x:κ}(D:mI E nb F0 F first (wt++[x]))(h:F x≠none):mI E nb F0 F first wt:=by
 refine⟨D.old,D.new,fun a b h1 h2 h3=>?_,fun a ha=>D.wait a (aY _ ha),?_⟩
 ·rcases D.rK a b h1 h2 h3 with z | z
  ·exact .inl z
  ·rcases aD.mp z with z | z
   ·exact .inr z
   ·have:b=x:=by simpa using z
    rw[this];exact .inl h
 ·rcases D.fst with z | z
  ·exact .inl z
  ·rcases aD.mp z with z | z
   ·exact .inr z
   ·have:first=x:=by simpa using z
    rw[this];exact .inl h
theorem mI.take[DecidableEq κ]{x:κ}(hn:∀x y,y∈nb x->(x,y)∈E\/(y,x)∈E)(D:mI E nb F0 F first (wt++[x]))(h:F x=none):mI E nb F0 (fun y=>if y=x then some first else F y) first (wt++nb x):=by
 have h0:F0 x=none:=by
  cases e:F0 x with
  | none=>rfl
  | some a=>
   have:=D.old x (by rw[e];exact nofun);rw[h,e] at this;cases this
 have cx:Cn E first x:=D.wait x (by simp);refine⟨fun y hy=>?_,fun y z h1 h2=>?_,fun a b h1 h2 h3=>?_,fun a ha=>?_,?_⟩
 ·have:y≠x:=fun z=>by rw[z,h0] at hy;exact hy rfl
  simp only[if_neg this];exact D.old y hy
 ·by_cases e:y=x
  ·subst e;simp only[bE,aG] at h1;exact⟨h1.symm,cx⟩
  ·simp only[if_neg e] at h1;exact D.new y z h1 h2
 ·by_cases e:b=x
  ·simp only[if_pos e];exact .inl nofun
  ·simp only[if_neg e];by_cases ea:a=x
   ·subst ea;exact .inr (aT _ h3)
   ·simp only[if_neg ea] at h1;rcases D.rK a b h1 h2 h3 with z | z
    ·exact .inl z
    ·rcases aD.mp z with z | z
     ·exact .inr (aY _ z)
     ·exact absurd (by simpa using z) e
 ·rcases aD.mp ha with ha | ha
  ·exact D.wait a (aY _ ha)
  ·exact .step cx (hn _ _ ha)
 ·by_cases e:first=x
  ·simp only[if_pos e];exact .inl nofun
  ·simp only[if_neg e];rcases D.fst with z | z
   ·exact .inl z
   ·rcases aD.mp z with z | z
    ·exact .inr (aY _ z)
    ·exact absurd (by simpa using z) e
theorem mI.done(hs:∀x y,y∈nb x->x∈nb y)(C:xw E nb F0)(D:mI E nb F0 F first []):xw E nb F/\F first≠none/\∀x,F0 x≠none->F x≠none:=by
 refine⟨fun x a h=>?_,?_,fun x h=>by rw[D.old x h];exact h⟩
 ·cases e0:F0 x with
  | some b=>
   have:=D.old x (by rw[e0];exact nofun);rw[h,e0] at this;cases this;obtain⟨c1,c2⟩:=C x a e0;refine⟨c1,fun y hy=>?_⟩;rw[D.old y (by rw[c2 y hy];exact nofun)];exact c2 y hy
  | none=>
   obtain⟨rfl,cx⟩:=D.new x a h e0;refine⟨cx.symm,fun y hy=>?_⟩;rcases D.rK x y (by rw[h];exact nofun) e0 hy with z | z
   ·cases e1:F y with
    | none=>exact absurd e1 z
    | some c=>
     cases e2:F0 y with
     | none=>rw[(D.new y c e1 e2).1]
     | some b=>
      have:=(C y b e2).2 x (hs _ _ hy);rw[e0] at this;cases this
   ·cases z
 ·rcases D.fst with z | z
  ·exact z
  ·cases z
theorem MR(C:xw E nb F)(hk:∀x y,(x,y)∈E->F x≠none/\y∈nb x){a b:κ}:((F a).getD a=(F b).getD b)↔Cn E a b:=by
 refine DF (lab:=fun x=>(F x).getD x) (fun x y h=>?_) fun x=>?_
 ·obtain⟨h1,h2⟩:=hk x y h;cases e:F x with
  | none=>exact absurd e h1
  | some c=>simp only[(C x c e).2 y h2,aX]
 ·cases e:F x with
  | none=>exact .refl _
  | some c=>exact(C x c e).1
end
end Wc
namespace Wc
section
variable {κ:Type}
theorem IZ{l:List κ}{g h:κ->Nat}(H:∀k∈l,g k<=h k):(l.map g).sum<=(l.map h).sum:=by
 induction l with
 | nil=>exact ay _
 | cons a r ih=>
  simp only[ao,List.sum_cons];have:=ih fun k hk=>H k (au _ hk)
  have:=H a aH;omega
theorem DD{l:List κ}{g h:κ->Nat}{x:κ}(H:∀k∈l,g k<=h k)(hx:x∈l)(dz:g x<h x):(l.map g).sum<(l.map h).sum:=by
 induction l with
 | nil=>cases hx
 | cons a r ih=>
  simp only[ao,List.sum_cons];have h1:=IZ fun k hk=>H k (au _ hk)
  have h2:=H a aH;rcases ar.mp hx with z | hx
  ·rw[<-z] at h2 ⊢;omega
  ·have:=ih (fun k hk=>H k (au _ hk)) hx;omega
variable [DecidableEq κ] {E:List (κ×κ)} {ks:List κ} {code:κ->Nat} {f f0:κ->κ}
noncomputable def lF(f:κ->κ)(x a:κ):κ->κ:=fun k=>if k=x then a else f k
noncomputable def mu(code:κ->Nat)(ks:List κ)(f:κ->κ):Nat:=(ks.map fun k=>code (f k)).sum
structure Pass (E:List (κ×κ)) (code:κ->Nat) (ks:List κ) (f0 f:κ->κ) (moved:Bool) (l:List (κ×κ)):Prop where
 cn:∀x,Cn E x (f x)
 le:mu code ks f<=mu code ks f0
 lt:moved=true->mu code ks f<mu code ks f0
 eq:moved=false->f=f0/\∀p∈l,f p.1=f p.2
theorem Pass.start(h:∀x,Cn E x (f x)):Pass E code ks f f false []:=⟨h,ay _,nofun,fun _=>⟨rfl,fun p hp=>by cases hp⟩⟩
theorem Pass.same{b:Bool}{l:List (κ×κ)}{p:κ×κ}(P:Pass E code ks f0 f b l)(h:f p.1=f p.2):Pass E code ks f0 f b (l++[p]):=
 ⟨P.cn,P.le,P.lt,fun z=>⟨(P.eq z).1,fun q hq=>by
  rcases aD.mp hq with hq | hq
  ·exact(P.eq z).2 q hq
  ·have:q=p:=by simpa using hq
   rw[this];exact h⟩⟩
theorem Pass.change{b:Bool}{l:List (κ×κ)}{p:κ×κ}{low:κ}(P:Pass E code ks f0 f b l)(hp:p∈E\/(p.2,p.1)∈E)(m1:p.1∈ks)(m2:p.2∈ks)(hl:low=f p.1\/low=f p.2)
  (c1:code low<=code (f p.1)) (c2:code low<=code (f p.2)) (dz:code low<code (f p.1)\/code low<code (f p.2)):Pass E code ks f0 (lF (lF f p.1 low) p.2 low) true (l++[p]):=by
 have cp:Cn E p.1 p.2:=by
  rcases hp with h | h
  ·exact .one h
  ·exact .Hb h
 have le:∀k,code (lF (lF f p.1 low) p.2 low k)<=code (f k):=fun k=>by
  unfold lF;by_cases h2:k=p.2
  ·rw[if_pos h2,h2];exact c2
  ·rw[if_neg h2];by_cases h1:k=p.1
   ·rw[if_pos h1,h1];exact c1
   ·rw[if_neg h1];exact ay _
 have lt:mu code ks (lF (lF f p.1 low) p.2 low)<mu code ks f:=by
  unfold mu;rcases dz with h | h
  ·refine DD (fun k _=>le k) m1 ?_;unfold lF;by_cases h2:p.1=p.2
   ·rw[if_pos h2];exact h
   ·rw[if_neg h2,if_pos rfl];exact h
  ·refine DD (fun k _=>le k) m2 ?_;unfold lF;rw[if_pos rfl];exact h
 refine⟨fun x=>?_,by have:=P.le;omega,fun _=>by have:=P.le;omega,nofun⟩;have l1:Cn E p.1 low/\Cn E p.2 low:=by
  rcases hl with h | h
  ·rw[h];exact⟨P.cn _,cp.symm.trans (P.cn _)⟩
  ·rw[h];exact⟨cp.trans (P.cn _),P.cn _⟩
 unfold lF;by_cases h2:x=p.2
 ·rw[if_pos h2,h2];exact l1.2
 ·rw[if_neg h2];by_cases h1:x=p.1
  ·rw[if_pos h1,h1];exact l1.1
  ·rw[if_neg h1];exact P.cn x
end
noncomputable def fh(p:Nat->Bool):Nat->Nat
 | 0=>0
 | s+1=>if p s=true then fh p s else s+1
theorem zM{α:Type}{E:List (α×α)}{p:Nat->Bool}{n:Nat->α}{S:Nat}(h:∀s,s+1<S->p s=true->p (s+1)=true->(n s,n (s+1))∈E):∀{s:Nat},s<S->p s=true->Cn E (n s) (n (fh p s))
 | 0,_,_=>.refl _
 | s+1,hs,hp=>by
  unfold fh;split
  ·rename_i e;exact(Cn.Hb (h s hs e hp)).trans (zM h (by omega) e)
  ·exact .refl _
end Wc
namespace Wc
noncomputable abbrev N3:=Nat×Nat×Nat
noncomputable abbrev Sd:=Bool×Nat×Nat
noncomputable def fM(c:Nat):Bool:=decide (c=45\/c=43\/c=35)
noncomputable def fZ(c:Nat):Bool:=decide (c=124\/c=43\/c=35)
noncomputable def oM(g:Nat->Nat->Nat)(r:Nat):Nat->Bool:=fun s=>fM (g r s)
noncomputable def oA(g:Nat->Nat->Nat)(s:Nat):Nat->Bool:=fun r=>fZ (g r s)
noncomputable def pq(g:Nat->Nat->Nat)(r s:Nat):Sd:=(false,r,fh (oM g r) s)
noncomputable def pf(g:Nat->Nat->Nat)(r s:Nat):Sd:=(true,s,fh (oA g s) r)
def xv(R S:Nat)(g:Nat->Nat->Nat)(r s:Nat)(p:N3×N3):Prop:=
 (fM (g r s)=true/\s+1<S/\fM (g r (s+1))=true/\p=((r,s,0),(r,s+1,0)))\/(fZ (g r s)=true/\r+1<R/\fZ (g (r+1) s)=true/\p=((r,s,1),(r+1,s,1)))\/(g r s=43/\p=((r,s,0),(r,s,1)))
def rR(R S:Nat)(g:Nat->Nat->Nat)(E:List (N3×N3)):Prop:=∀p,p∈E↔∃r s,r<R/\s<S/\xv R S g r s p
def Dj(R S:Nat)(g:Nat->Nat->Nat)(F:List (Sd×Sd)):Prop:=∀p,p∈F↔∃r s,r<R/\s<S/\g r s=43/\p=(pq g r s,pf g r s)
noncomputable def ph(g:Nat->Nat->Nat)(x:N3):Sd:=if x.2.2=0 then pq g x.1 x.2.1 else pf g x.1 x.2.1
noncomputable def ps(y:Sd):N3:=if y.1=true then(y.2.2,y.2.1,1) else(y.2.1,y.2.2,0)
def yM(R S:Nat)(g:Nat->Nat->Nat)(x:N3):Prop:=x.1<R/\x.2.1<S/\((x.2.2=0/\fM (g x.1 x.2.1)=true)\/(x.2.2=1/\fZ (g x.1 x.2.1)=true))
theorem D9:fM 43=true:=by decide
theorem D8:fZ 43=true:=by decide
section
variable {R S:Nat} {g:Nat->Nat->Nat} {E:List (N3×N3)} {F:List (Sd×Sd)}
theorem CO(h:rR R S g E){r s:Nat}(hr:r<R)(hs:s<S)(hp:fM (g r s)=true):Cn E (r,s,0) (ps (pq g r s)):=
 zM (n:=fun s=>((r,s,0):N3)) (p:=oM g r) (S:=S) (fun s' h1 h2 h3=>(h _).mpr ⟨r,s',hr,by omega,.inl ⟨h2,h1,h3,rfl⟩⟩) hs hp
theorem CN(h:rR R S g E){r s:Nat}(hr:r<R)(hs:s<S)(hp:fZ (g r s)=true):Cn E (r,s,1) (ps (pf g r s)):=
 zM (n:=fun r=>((r,s,1):N3)) (p:=oA g s) (S:=R) (fun r' h1 h2 h3=>(h _).mpr ⟨r',s,by omega,hs,.inr (.inl ⟨h2,h1,h3,rfl⟩)⟩) hr hp
theorem z9{p:Nat->Bool}{s:Nat}(h:p s=true):fh p (s+1)=fh p s:=by
 show(if p s=true then fh p s else s+1)=_;rw[if_pos h]
theorem Di(h:rR R S g E){x:N3}(hx:yM R S g x):Cn E x (ps (ph g x)):=by
 obtain⟨r,s,k⟩:=x;obtain⟨hr,hs,hk⟩:=hx;rcases hk with⟨rfl,hp⟩ | ⟨rfl,hp⟩
 ·exact CO h hr hs hp
 ·exact CN h hr hs hp
theorem Nc(h:rR R S g E)(hF:Dj R S g F){x y:N3}(hx:yM R S g x)(hy:yM R S g y):Cn E x y↔Cn F (ph g x) (ph g y):=by
 refine Ja (fun a b e=>?_) (fun a b e=>?_) (Di h hx) (Di h hy)
 ·obtain⟨r,s,hr,hs,e1⟩:=(h _).mp e;rcases e1 with⟨p1,p2,p3,e1⟩ | ⟨p1,p2,p3,e1⟩ | ⟨p1,e1⟩
  ·obtain⟨rfl,rfl⟩:=Prod.mk.inj e1;have:ph g (r,s+1,0)=ph g (r,s,0):=by
    show pq g r (s+1)=pq g r s;unfold pq;rw[z9 (show oM g r s=true from p1)]
   rw[this];exact .refl _
  ·obtain⟨rfl,rfl⟩:=Prod.mk.inj e1;have:ph g (r+1,s,1)=ph g (r,s,1):=by
    show pf g (r+1) s=pf g r s;unfold pf;rw[z9 (show oA g s r=true from p1)]
   rw[this];exact .refl _
  ·obtain⟨rfl,rfl⟩:=Prod.mk.inj e1;exact .one ((hF _).mpr ⟨r,s,hr,hs,p1,rfl⟩)
 ·obtain⟨r,s,hr,hs,p1,e1⟩:=(hF _).mp e;obtain⟨rfl,rfl⟩:=Prod.mk.inj e1;have l:((r,s,0),(r,s,1))∈E:=(h _).mpr ⟨r,s,hr,hs,.inr (.inr ⟨p1,rfl⟩)⟩;exact((CO h hr hs (by rw[p1];exact D9)).symm.trans (.one l)).trans (CN h hr hs (by rw[p1];exact D8))
end
end Wc
namespace Wc
open PySem L2 PyProof.Rows
theorem Ar{α:Type}[DecidableEq α]{l ws:List α}(nd:l.Nodup)(h:∀w∈l,w∈ws):l.length<=ws.length:=by
 induction l generalizing ws with
 | nil=>simp
 | cons a r ih=>
  rw[aS] at nd;have ha:a∈ws:=h a (by simp);have:=ih (ws:=ws.erase a) nd.2 fun w hw=>(List.mem_erase_of_ne fun(z:w=a)=>nd.1 (z▸hw)).mpr (h w (by simp[hw]))
  rw[List.length_erase_of_mem ha] at this;have hp:0<ws.length:=List.length_pos_of_mem ha;simp only[aI];omega
section
variable {κ α:Type} [DecidableEq κ] {l:List (κ×α)} {B:List (κ×List α)} {kk:κ->List Key} {dv:α->D}
theorem e8.len(G:e8 l B):B.length<=l.length:=by
 have:=Ar G.nd (ws:=l.map (·.1)) fun w hw=>by
  obtain⟨p,hp,rfl⟩:=av.mp hw;obtain⟨q,hq,e⟩:=G.ex p hp;exact av.mpr ⟨q,hq,e⟩
 simpa using this
theorem e8.oZ(G:e8 l B){p:κ×List α}(hp:p∈B):p.2.length<=l.length:=by
 rw[G.is p hp,ae];exact List.length_filter_le _ _
noncomputable def e6(kk:κ->List Key)(dv:α->D)(B:List (κ×List α)):List (List Key×List D):=B.map fun p=>(kk p.1,p.2.map dv)
theorem DC(inj:∀a b,kk a=kk b->a=b)(x:κ):((e6 kk dv B).any fun kv=>decide (kv.1=kk x))=B.any fun p=>decide (p.1=x):=by
 unfold e6;rw[List.any_map];congr 1
 funext p
 simp only[Function.comp_apply];by_cases h:p.1=x
 ·simp[h]
 ·rw[aF h,aF fun z=>h (inj _ _ z)]
theorem xR(inj:∀a b,kk a=kk b->a=b)(G:e8 l B)(x:κ)(e:α):∃n ds B',(ig (e6 kk dv B) (kk x))[n]?=some (kk x,ds)/\(∀j'<n,∀p,(ig (e6 kk dv B) (kk x))[j']?=some p->p.1≠kk x)/\
  (ig (e6 kk dv B) (kk x)).set n (kk x,ds++[dv e])=e6 kk dv B'/\e8 (l++[(x,e)]) B'/\ds.length<=l.length:=by
 by_cases h:∃p∈B,p.1=x
 ·obtain⟨⟨y,g⟩,hp,rfl⟩:=h;have ha:((e6 kk dv B).any fun kv=>decide (kv.1=kk y))=true:=by
   rw[DC inj];exact List.any_eq_true.mpr ⟨_,hp,by simp⟩
  obtain⟨n,hn⟩:=aN hp;have ht:ig (e6 kk dv B) (kk y)=e6 kk dv B:=by unfold ig;rw[if_pos ha]
  rw[ht];refine⟨n,g.map dv,B.set n (y,g++[e]),?_,fun j' hj p qe z=>?_,?_,G.more hn,?_⟩
  ·unfold e6;rw[ai,hn];rfl
  ·unfold e6 at qe;rw[ai] at qe;obtain⟨q,hq,rfl⟩:=aK.mp qe;have e1:q.1=y:=inj _ _ z;have i1:(B.map (·.1))[j']?=some y:=by rw[ai,hq];simp[e1]
   have i2:(B.map (·.1))[n]?=some y:=by rw[ai,hn];rfl
   have:j'=n:=(List.getElem?_inj (ag.mp i1).1 G.nd).mp (i1.trans i2.symm);omega
  ·unfold e6;rw[List.map_set,aA];rfl
  ·rw[ae];exact G.oZ hp
 ·have du:∀p∈B,p.1≠x:=fun p hp z=>h ⟨p,hp,z⟩
  have ha:¬((e6 kk dv B).any fun kv=>decide (kv.1=kk x))=true:=by
   rw[DC inj,List.any_eq_true];rintro⟨p,hp,z⟩;exact du p hp (by simpa using z)
  have ht:ig (e6 kk dv B) (kk x)=e6 kk dv B++[(kk x,[])]:=by unfold ig;rw[if_neg ha]
  have hl:(e6 kk dv B).length=B.length:=by unfold e6;simp
  rw[ht];refine⟨B.length,[],B++[(x,[e])],by rw[<-hl];simp,fun j' hj p qe z=>?_,?_,G.fresh du,aU _⟩
  ·rw[List.getElem?_append_left (by omega)] at qe;unfold e6 at qe;rw[ai] at qe;obtain⟨q,hq,rfl⟩:=aK.mp qe;exact du q (ax hq) (inj _ _ z)
  ·rw[<-hl,List.set_append_right _ _ (ay _),Nat.sub_self];unfold e6;rw[aA];rfl
end
section
variable {κ α:Type} [DecidableEq κ] {F:List (κ×α)} {kk:κ->List Key} {dv:α->D}
noncomputable def cz(F:List (κ×α))(x:κ):Option α:=(F.find? fun p=>decide (p.1=x)).map (·.2)
noncomputable def eo(kk:κ->List Key)(dv:α->D)(F:List (κ×α)):List (List Key×D):=F.map fun p=>(kk p.1,dv p.2)
theorem sx(inj:∀a b,kk a=kk b->a=b)(x:κ):iz (eo kk dv F) (kk x)=(cz F x).map dv:=by
 unfold iz eo cz;induction F with
 | nil=>rfl
 | cons p r ih=>
  rw[ao,bC,bC];by_cases h:p.1=x
  ·simp[h]
  ·rw[aF h,aF fun z=>h (inj _ _ z)];exact ih
theorem uz(x y:κ)(a:α)(h:cz F x=none):cz (F++[(x,a)]) y=if y=x then some a else cz F y:=by
 unfold cz at h ⊢;rw[List.find?_append];by_cases e:y=x
 ·subst e;rw[Option.map_eq_none_iff] at h;rw[h,if_pos rfl];simp
 ·rw[if_neg e];have:[(x,a)].find? (fun p=>decide (p.1=y))=none:=by simp[Ne.symm e]
  rw[this,Option.or_none]
theorem D7(inj:∀a b,kk a=kk b->a=b)(x:κ)(a:α)(h:cz F x=none):qt (eo kk dv F) (kk x) (dv a)=eo kk dv (F++[(x,a)]):=by
 have hn:¬((eo kk dv F).any fun kv=>decide (kv.1=kk x))=true:=by
  rw[List.any_eq_true];rintro⟨p,hp,z⟩;obtain⟨q,hq,rfl⟩:=av.mp hp;have z2:q.1=x:=inj _ _ (by simpa using z);unfold cz at h;rw[Option.map_eq_none_iff,List.find?_eq_none] at h;exact h q hq (by simpa using z2)
 unfold qt;rw[if_neg hn];unfold eo;rw[aA];rfl
end
end Wc
namespace Wc
open PySem L2 PyProof.Rows
noncomputable def ix(x y:b8):Bool:=!Ts.dr y x
theorem D6(a b c:b8)(h1:ix a b=true)(h2:ix b c=true):ix a c=true:=by
 unfold ix at *;simp only[Bool.not_eq_true'] at *;cases h:Ts.dr c a with
 | false=>rfl
 | true=>
  by_cases e:a=b
  ·subst e;rw[h2] at h;cases h
  ·rcases Ts.eG.A1 _ _ e with z | z
   ·rw[Ts.eG.tr _ _ _ h z] at h2;cases h2
   ·rw[z] at h1;cases h1
theorem EW(a b:b8):(ix a b||ix b a)=true:=by
 unfold ix;cases h1:Ts.dr b a<;>cases h2:Ts.dr a b<;>simp
 have:=Ts.eG.tr _ _ _ h1 h2;rw[Ts.eG.ir] at this;cases this
theorem Ai(a b:b8)(h1:ix a b=true)(h2:ix b a=true):a=b:=by
 unfold ix at *;simp only[Bool.not_eq_true'] at *;refine Decidable.byContradiction fun e=>?_
 rcases Ts.eG.A1 _ _ e with z | z
 ·rw[z] at h2;cases h2
 ·rw[z] at h1;cases h1
noncomputable def sE(g:List b8):List b8:=g.mergeSort ix
theorem pM(g:List b8):(sE g).Perm g:=List.mergeSort_perm _ _
theorem uW{α:Type}{le:α->α->Prop}:∀{l m:List α},(∀a∈l,∀b∈l,le a b->le b a->a=b)->l.Perm m->l.Pairwise le->m.Pairwise le->l=m
 | [],m,_,p,_,_=>p.nil_eq
 | a::l,[],_,p,_,_=>absurd p.length_eq (by simp)
 | a::l,b::m,an,p,h1,h2=>by
  have hb:b∈a::l:=p.symm.subset aH;have ha:a∈b::m:=p.subset aH;obtain⟨QQ,QP⟩:=List.pairwise_cons.mp h1;obtain⟨QO,QN⟩:=List.pairwise_cons.mp h2;have e:a=b:=by
   rcases ar.mp hb with z | z
   ·exact z.symm
   ·rcases ar.mp ha with y | y
    ·exact y
    ·exact an _ aH _ hb (QQ _ z) (QO _ y)
  subst e;rw[uW (fun x hx y hy=>an x (au _ hx) y (au _ hy)) ((List.perm_cons a).mp p) QP QN]
theorem zi(g:List b8):(sE g).Pairwise (fun x y=>ix x y=true):=List.pairwise_mergeSort D6 EW g
theorem IY{g g':List b8}(h:g.Perm g'):sE g=sE g':=uW (fun a _ b _=>Ai a b) (((pM g).trans h).trans (pM g').symm) (zi g) (zi g')
theorem Dh{g s:List b8}(h:s.Perm g)(p:s.Pairwise (fun x y=>Ts.dr y x=false)):s=sE g:=
 uW (le:=fun x y=>ix x y=true) (fun a _ b _=>Ai a b) (h.trans (pM g).symm) (p.imp fun h=>by unfold ix;rw[h];rfl) (zi g)
theorem DB{g:List b8}(h:g≠[]):eQ (sE g)∈g:=by
 cases e:sE g with
 | nil=>exact absurd (List.perm_nil.mp ((pM g).symm.trans (List.Perm.of_eq e))) h
 | cons a r=>exact(pM g).subset (by rw[e];exact aH)
noncomputable def sG(gs:List (List b8)):List (List b8):=gs.mergeSort fun x y=>ix (eQ x) (eQ y)
theorem sv(g:List (List b8)):(sG g).Perm g:=List.mergeSort_perm _ _
theorem zh(g:List (List b8)):(sG g).Pairwise (fun x y=>ix (eQ x) (eQ y)=true):=List.pairwise_mergeSort (le:=fun x y=>ix (eQ x) (eQ y)) (fun a b c=>D6 (eQ a) (eQ b) (eQ c)) (fun a b=>EW (eQ a) (eQ b)) g
theorem Dg{gs:List (List b8)}(nd:(gs.map eQ).Nodup):∀a∈gs,∀b∈gs,ix (eQ a) (eQ b)=true->ix (eQ b) (eQ a)=true->a=b:=fun a ha b hb h1 h2=>by
 have e:=Ai _ _ h1 h2;obtain⟨i,hi⟩:=aN ha;obtain⟨j,hj⟩:=aN hb;have e1:(gs.map eQ)[i]?=some (eQ a):=by rw[ai,hi];rfl
 have e2:(gs.map eQ)[j]?=some (eQ a):=by rw[ai,hj,e];rfl
 have:i=j:=(List.getElem?_inj (ag.mp e1).1 nd).mp (e1.trans e2.symm);subst this;rw[hi] at hj;exact aQ hj
theorem Df{gs s:List (List b8)}(nd:(gs.map eQ).Nodup)(h:s.Perm gs)(p:s.Pairwise (fun x y=>Ts.dr (eQ y) (eQ x)=false)):s=sG gs:=by
 refine uW (le:=fun x y=>ix (eQ x) (eQ y)=true) (fun a ha b hb=>Dg nd a (h.subset ha) b (h.subset hb)) (h.trans (sv gs).symm) (p.imp fun h=>?_) (zh gs);unfold ix;rw[h];rfl
theorem IX{gs yJ:List (List b8)}(nd:(gs.map eQ).Nodup)(h:gs.Perm yJ):sG gs=sG yJ:=
 uW (fun a ha b hb=>Dg nd a ((sv gs).subset ha) b ((sv gs).subset hb)) (((sv gs).trans h).trans (sv yJ).symm) (zh gs) (zh yJ)
section
variable {κ qr:Type} [DecidableEq κ] [DecidableEq qr] {l:List (κ×b8)} {bL:List (κ×List b8)} {m:List (qr×b8)} {nX:List (qr×List b8)}
theorem e8.ne(G:e8 l bL){p:κ×List b8}(h:p∈bL):p.2≠[]:=by
 obtain⟨q,hq,e⟩:=G.ex p h;rw[G.is p h];refine List.ne_nil_of_mem (a:=q.2) (av.mpr ⟨q,ba.mpr ⟨hq,by simpa using e⟩,rfl⟩)
theorem e8.at(G:e8 l bL)(nd:(l.map (·.2)).Nodup){p q:κ×List b8}(hp:p∈bL)(hq:q∈bL){e:b8}(h1:e∈p.2)(h2:e∈q.2):p=q:=by
 rw[G.is p hp] at h1;rw[G.is q hq] at h2;obtain⟨x,hx,ex⟩:=av.mp h1;obtain⟨y,hy,ey⟩:=av.mp h2;obtain⟨hx,e1⟩:=ba.mp hx;obtain⟨hy,e2⟩:=ba.mp hy;have:x=y:=by
  obtain⟨i,hi⟩:=aN hx;obtain⟨j,hj⟩:=aN hy;have e3:(l.map (·.2))[i]?=some e:=by rw[ai,hi];simp[ex]
  have e4:(l.map (·.2))[j]?=some e:=by rw[ai,hj];simp[ey]
  have:i=j:=(List.getElem?_inj (ag.mp e3).1 nd).mp (e3.trans e4.symm);subst this;rw[hi] at hj;exact aQ hj
 subst this;refine zj G.nd hp hq ?_;have a1:x.1=p.1:=by simpa using e1
 have a2:x.1=q.1:=by simpa using e2
 rw[<-a1,a2]
theorem e8.mr(G:e8 l bL)(nd:(l.map (·.2)).Nodup):((bL.map fun p=>sE p.2).map eQ).Nodup:=by
 have h1:bL.Pairwise (·≠·):=by
  have:=G.nd;rw[List.nodup_iff_pairwise_ne,List.pairwise_map] at this;exact this.imp fun h z=>h (by rw[z])
 rw[aE,List.nodup_iff_pairwise_ne,List.pairwise_map];refine h1.imp_of_mem fun{a b} ha hb iD z=>iD (G.at nd ha hb (DB (G.ne ha)) ?_)
 have z:eQ (sE a.2)=eQ (sE b.2):=z;rw[z];exact DB (G.ne hb)
theorem JB(G:e8 l bL)(M:e8 m nX)(hp:(l.map (·.2)).Perm (m.map (·.2)))(nd:(l.map (·.2)).Nodup)
  (same:∀p∈l,∀q∈l,∀p'∈m,∀q'∈m,p.2=p'.2->q.2=q'.2->(p.1=q.1↔p'.1=q'.1)):sG (bL.map fun p=>sE p.2)=sG (nX.map fun p=>sE p.2):=
 IX (G.mr nd) (JC G M hp nd same pM fun _ _=>IY)
end
end Wc
namespace Wc
open PySem L2 PyProof.Rows
noncomputable def gu(rows:List (List Nat)):D:=.lst (rows.map fun l=>.str (cO l))
noncomputable def f7:List Nat:=[32,45,124,43,35,61,120,46]
noncomputable def jS(S:Str)(c:Nat):Bool:=!(Builtin.Str.occurrences S ⟨#[c]⟩ 0 S.length 1).isEmpty
theorem xj:∀c∈f7,jS "-+#" c=fM c:=by decide +kernel
theorem xi:∀c∈f7,jS "|+#" c=fZ c:=by decide +kernel
noncomputable def jP(r p:Nat)(c:Nat):Bool:=decide (c=32)||(decide (r%2=1)&&decide (c=45))||(decide (p%2=1)&&decide (c=124))||(decide (r%2=1)&&decide (p%2=1)&&(decide (c=43)||decide (c=35)))
noncomputable def uk(r p:Nat):Str:=if r%2=1 then(if p%2=1 then " -|+#" else " -") else(if p%2=1 then " |" else " ")
theorem Bt:∀c∈f7,jS " " c=jP 0 0 c:=by decide +kernel
theorem in1:∀c∈f7,jS " -" c=jP 1 0 c:=by decide +kernel
theorem Pz:∀c∈f7,jS " |" c=jP 0 1 c:=by decide +kernel
theorem Py:∀c∈f7,jS " -|+#" c=jP 1 1 c:=by decide +kernel
theorem Ln(r p c:Nat)(h:c∈f7):jS (uk r p) c=jP r p c:=by
 unfold uk;by_cases h1:r%2=1
 ·by_cases h2:p%2=1
  ·rw[if_pos h1,if_pos h2,Py c h];simp[jP,h1,h2]
  ·rw[if_pos h1,if_neg h2,in1 c h];simp[jP,h1,h2]
 ·by_cases h2:p%2=1
  ·rw[if_neg h1,if_pos h2,Pz c h];simp[jP,h1,h2]
  ·rw[if_neg h1,if_neg h2,Bt c h];simp[jP,h1,h2]
structure RB (rows:List (List Nat)):Prop where
 len:rows.length<=100
 dY:∀l∈rows,l.length<=100
 f7:∀l∈rows,∀c∈l,c∈Wc.f7
noncomputable def wd(rows:List (List Nat)):Nat:=(rows.headD []).length
noncomputable def oo(rows:List (List Nat)):Bool:=decide (rows.length%2=1)&&decide (wd rows%2=1)&&decide (3<=wd rows)&&rows.all fun l=>decide (l.length=wd rows)
noncomputable def pL(rows:List (List Nat)):Bool:=rows.zipIdx.all fun p=>p.1.zipIdx.all fun q=>jP p.2 q.2 q.1
theorem LD(l:List Bool):jD (l.map D.bl)=some l:=by
 induction l with
 | nil=>rfl
 | cons a r ih=>simp[jD,ih]
theorem uj{α:Type}(L:List α)(f:α->Bool){Q:R->Prop}(q:Q (.fz (.bl (L.all f)))):pw [R.val (.ow (L.map fun a=>D.bl (f a)))] Q:=by
 show match jD _ with | some bs=>Q (.fz (.bl (bs.all id))) | none=>False
 have e:(L.map fun a=>D.bl (f a))=(L.map f).map D.bl:=by simp
 rw[e,LD];simpa[List.all_map] using q
end Wc
namespace Wc
open PySem L2 PyProof.Rows
end Wc
open PySem L2 PyProof.Rows Wc
local macro_rules | `(tactic| walk_at "px")=>`(tactic| (repeat(first | walk_at "b" | simp only[pG,xS])))
namespace Wc
open PySem L2 PyProof.Rows
theorem CM{rows:List (List Nat)}(h:rows≠[]):cT rows 0=some (rows.headD []):=by
 cases rows with
 | nil=>exact absurd rfl h
 | cons a r=>simp[Lo]
theorem EV{rows:List (List Nat)}(h:rows≠[]):rows.headD []∈rows:=by
 cases rows with
 | nil=>exact absurd rfl h
 | cons a r=>simp
def uR:ei:=fun ds Q=>∃rows,ds=[gu rows]/\rows≠[]/\RB rows/\Q (.fz (.bl (oo rows)))
def AK:TX:=(cq (eM 1 (eC gM (bM (bQ cR (bK 0) (dC (.int 0))) bU)))
 (cq (eM 2 (rX (bQ oEq (bQ (oI (fun _ j=>0<j) fun i j=>.int (i%j)) (eC gM (bM (bK 0) bU)) (dC (.int 2))) (dC (.int 1))) (bQ oEq (bQ (oI (fun _ j=>0<j) fun i j=>.int (i%j)) (bK 1) (dC (.int 2))) (dC (.int 1)))))
 (gr (rX (bK 2) (rX (bQ (fT fun i j=>.bl (decide (j<=i))) (bK 1) (dC (.int 3))) (eC pw (bM (jE (jA (bK 0)) [none,some 1] (cX 0) ju (bQ oEq (eC gM (bM (bK 0) bU)) (bK 1))) bU)))))))
theorem Oa(ds:List D)(Qr:R->Prop)(hl:ds.length=1)(h:uR ds Qr):AK { nx:=fun _=>Qr (.fz .non),rt:=Qr } (fQ ["rows","length","is_odd"] ds):=by
 obtain⟨rows,rfl,du,b,q⟩:=h;show AK _ [.fz (gu rows),.un,.un];unfold AK gu;have big:=fV;have b1:=b.len;have e0:=CM du;have hw:(rows.headD []).length=wd rows:=rfl;have b2:=b.dY _ (EV du);walk_at "px";refine⟨_,e0,by omega,?_⟩;rw[hw];walk_at "go";generalize hW:wd rows=W at *;have q':Qr (.fz (.bl (decide (rows.length%2=1)&&decide (W%2=1)&&decide (3<=W)&&rows.all fun l=>decide (l.length=W)))):=by rw[<-hW];exact q
 rw[ae];have c1:((rows.length:Int)%2=1)↔rows.length%2=1:=by omega
 have c2:((W:Int)%2=1)↔W%2=1:=by omega
 have c3:((3:Int)<=(W:Int))↔3<=W:=by omega
 simp only[c1,c2];by_cases h1:rows.length%2=1
 ·rw[if_pos h1];by_cases h2:W%2=1
  ·simp only[h1,h2,decide_true,Bool.true_and] at q' ⊢;walk_at "go";by_cases h3:3<=W
   ·simp only[h3,decide_true,Bool.true_and] at q';simp only[c3,h3,decide_true,bE];refine nP rows (fun l=>.str (cO l)) (fun l=>.bl (decide (l.length=W))) (fun Q' h=>?_) (by omega) (fun l hm K1 k1=>?_) (uj rows _ q')
    ·walk_at "px";exact h
    ·have:=b.dY l hm;walk_at "px";simp only[show((l.length:Int)=(W:Int))↔l.length=W by omega];exact⟨by omega,k1⟩
   ·simp only[h3,decide_false,Bool.false_and] at q';simp only[c3,h3,decide_false,aO,bp];exact q'
  ·simp only[h1,h2,decide_true,decide_false,Bool.true_and,Bool.false_and] at q' ⊢;walk_at "go";exact q'
 ·rw[if_neg h1];simp only[h1,decide_false,Bool.false_and] at q';walk_at "go";exact q'
def uY:ei:=fun ds Q=>∃r p:Nat,ds=[.int r,.int p]/\Q (.fz (.str (uk r p)))
def Al:TX:=(cq (eM 2 (dC (.str " ")))
 (cq (eU (cQ (bQ oEq (bQ (oI (fun _ j=>0<j) fun i j=>.int (i%j)) (bK 0) (dC (.int 2))) (dC (.int 1)))) (eM 2 (bQ ez (bK 2) (dC (.str "-")))) eX)
 (cq (eU (cQ (bQ oEq (bQ (oI (fun _ j=>0<j) fun i j=>.int (i%j)) (bK 1) (dC (.int 2))) (dC (.int 1)))) (eM 2 (bQ ez (bK 2) (dC (.str "|")))) eX)
 (cq (eU (jq (cQ (bQ oEq (bQ (oI (fun _ j=>0<j) fun i j=>.int (i%j)) (bK 0) (dC (.int 2))) (dC (.int 1)))) (cQ (bQ oEq (bQ (oI (fun _ j=>0<j) fun i j=>.int (i%j)) (bK 1) (dC (.int 2))) (dC (.int 1))))) (eM 2 (bQ ez (bK 2) (dC (.str "+#")))) eX)
 (gr (bK 2))))))
theorem NI(ds:List D)(Qr:R->Prop)(hl:ds.length=2)(h:uY ds Qr):Al { nx:=fun _=>Qr (.fz .non),rt:=Qr } (fQ ["row","place","signs"] ds):=by
 obtain⟨r,p,rfl,q⟩:=h;show Al _ [.fz (.int r),.fz (.int p),.un];unfold Al;have s1:(" ":Str)++"-"=" -":=by decide +kernel
 have s2:(" ":Str)++"|"=" |":=by decide +kernel
 have s3:(" -":Str)++"|"=" -|":=by decide +kernel
 have s4:(" -|":Str)++"+#"=" -|+#":=by decide +kernel
 unfold uk at q;by_cases h1:r%2=1
 ·have e1:((r:Int)%2=1)=True:=eq_true (by omega);rw[if_pos h1] at q;by_cases h2:p%2=1
  ·have e2:((p:Int)%2=1)=True:=eq_true (by omega);rw[if_pos h2] at q;walk_at "px";walk_at "go";simp only[e1,bE,s1];walk_at "go";simp only[e2,bE,s3];walk_at "go";simp only[e1,e2,bE,s4];walk_at "go";exact⟨by decide +kernel,by decide +kernel,by decide +kernel,q⟩
  ·have e2:((p:Int)%2=1)=False:=eq_false (by omega);rw[if_neg h2] at q;walk_at "px";walk_at "go";simp only[e1,bE,s1];walk_at "go";simp only[e2,bp];walk_at "go";simp only[e1,e2,bE,bp];walk_at "go";exact⟨by decide +kernel,q⟩
 ·have e1:((r:Int)%2=1)=False:=eq_false (by omega);rw[if_neg h1] at q;by_cases h2:p%2=1
  ·have e2:((p:Int)%2=1)=True:=eq_true (by omega);rw[if_pos h2] at q;walk_at "px";walk_at "go";simp only[e1,bp];walk_at "go";simp only[e2,bE,s2];walk_at "go";simp only[e1,bp];walk_at "go";exact⟨by decide +kernel,q⟩
  ·have e2:((p:Int)%2=1)=False:=eq_false (by omega);rw[if_neg h2] at q;walk_at "px";walk_at "go";simp only[e1,bp];walk_at "go";simp only[e2,bp];walk_at "go";simp only[e1,bp];walk_at "go";exact q
theorem qF{α:Type}(f:α->D)(l:List α):nL (l.map f)=l.zipIdx.map fun p=>.tup [.int (p.2:Nat),f p.1]:=by
 unfold nL;apply List.ext_getElem?;intro i;simp only[List.getElem?_mapIdx,ai,List.getElem?_zipIdx];cases l[i]?<;>simp
theorem mem_zipIdx{α:Type}{l:List α}{a:α}{i:Nat}(h:(a,i)∈l.zipIdx):a∈l:=(List.mem_zipIdx h).2.2▸bg _
def u7:ei:=fun ds Q=>∃rows,ds=[gu rows]/\RB rows/\Q (.fz (.bl (pL rows)))
def AF:TX:=(cq (gN (r0 (bM (bK 0) bU)) (jv 2 (eZ (cX 1) (eZ (cX 2) ib))) (eU (mL (cQ (eC pw (bM (jE (pG (bM (bK 2) bU)) [none,none,some 1] (jv 2 (eZ (cX 0) (eZ (cX 1) ib))) ju (bQ (jC false) (bK 1) (eE 2 uY (bM (bK 2) (bM (bK 0) bU))))) bU)))) (gr (dC (.bl false))) eX))
 (gr (dC (.bl true))))
theorem NY(ds:List D)(Qr:R->Prop)(hl:ds.length=1)(h:u7 ds Qr):AF { nx:=fun _=>Qr (.fz .non),rt:=Qr } (fQ ["rows","number","row"] ds):=by
 obtain⟨rows,rfl,b,q⟩:=h;show AF _ [.fz (gu rows),.un,.un];unfold AF gu;have big:=fV;walk_at "px";refine jG rows.zipIdx (fun p=>.tup [.int (p.2:Nat),.str (cO p.1)]) (fun Q' h=>?_) (fun i ρ=>((rows.zipIdx.take i).all fun p=>p.1.zipIdx.all fun q=>jP p.2 q.2 q.1)=true/\∃a c:Sl,ρ=[.fz (.lst (rows.map fun l=>D.str (cO l))),a,c]) ⟨rfl,_,_,rfl⟩ ?_ ?_
 ·walk_at "px";rw[qF];exact h
 ·rintro i ⟨l,r⟩ ρ hi ⟨et,a,c,rfl⟩;have hm:l∈rows:=mem_zipIdx (ax hi);have hw:=b.dY l hm;walk_at "px";refine nP l.zipIdx (fun p=>.tup [.int (p.2:Nat),.str ⟨#[p.1]⟩]) (fun p=>.bl (jP r p.2 p.1)) (fun Q' h=>?_) (by rw[List.length_zipIdx];omega) (fun p hp K1 k1=>?_) (uj _ _ ?_)
  ·walk_at "px";rw[nR,qF];exact h
  ·obtain⟨cc,pp⟩:=p;walk_at "px";refine⟨r,pp,rfl,?_⟩;show K1 (.bl (jS (uk r pp) cc));rw[Ln r pp cc (b.f7 l hm cc (mem_zipIdx hp))];exact k1
  ·have tk:((rows.zipIdx.take (i+1)).all fun p=>p.1.zipIdx.all fun q=>jP p.2 q.2 q.1)=(l.zipIdx.all fun q=>jP r q.2 q.1):=by
    rw[bh,hi,List.all_append,et];simp
   cases hb:l.zipIdx.all fun q=>jP r q.2 q.1 with
   | true=>
    dsimp only;rw[if_neg (by simp)];exact⟨by rw[tk];exact hb,_,_,rfl⟩
   | false=>
    dsimp only;rw[if_pos (by simp)];have:pL rows=false:=by
     unfold pL;rw[List.all_eq_false];exact⟨(l,r),ax hi,by simp only[hb];exact aw⟩
    rw[this] at q;exact q
 ·rintro ρ ⟨et,a,c,rfl⟩;walk_at "go";rw[bx] at et;rw[show pL rows=true from et] at q;exact q
end Wc
namespace Wc
open PySem L2 PyProof.Rows
end Wc
open PySem L2 PyProof.Rows Wc
local macro_rules | `(tactic| walk_at "px")=>`(tactic| (repeat(first | walk_at "b" | simp only[pG,xS,sh,w6])))
namespace Wc
open PySem L2 PyProof.Rows
structure Mk (mk:Str) (m:Nat) (p:Nat->Bool):Prop where
 is:mk=cO [m]
 kX:∀c∈f7,jS (mk++"+#") c=p c
theorem De:Mk "-" 45 fM:=⟨by decide +kernel,fun c h=>by rw[show("-":Str)++"+#"="-+#" by decide +kernel];exact xj c h⟩
theorem Dp:Mk "|" 124 fZ:=⟨by decide +kernel,fun c h=>by rw[show("|":Str)++"+#"="|+#" by decide +kernel];exact xi c h⟩
noncomputable def kO(l:List Nat)(k:Nat):List Nat:=(l.drop (k-1)).take (k+2-(k-1))
noncomputable def lK(m:Nat)(p:Nat->Bool)(l:List Nat):Bool:=(List.range ((l.length+1)/2)).all fun j=>!decide (l[2*j]?=some m)||(kO l (2*j)).all p
def sJ:ei:=fun ds Q=>∃(l:List Nat) (mk:Str) (m:Nat) (p:Nat->Bool),ds=[.str (cO l),.str mk]/\Mk mk m p/\l.length<=100/\(∀c∈l,c∈f7)/\Q (.fz (.bl (lK m p l)))
def Ak:TX:=(cq (gN (sh (bM (dC (.int 0)) (bM (eC gM (bM (bK 0) bU)) (bM (dC (.int 2)) bU)))) (cX 2) (cq (eM 3 (tI (bK 0) (qA (eC w6 (bM (bQ (fT fun i j=>.int (i-j)) (bK 2) (dC (.int 1))) (bM (dC (.int 0)) bU)))) (qA (bQ ez (bK 2) (dC (.int 2))))))
 (eU (jq (cQ (bQ oEq (bQ cR (bK 0) (bK 2)) (bK 1))) (mL (cQ (eC pw (bM (jE (jA (bK 3)) [none,some 1] (cX 0) ju (bQ (jC false) (bK 0) (bQ ez (bK 1) (dC (.str "+#"))))) bU))))) (gr (dC (.bl false))) eX)))
 (gr (dC (.bl true))))
theorem NH(ds:List D)(Qr:R->Prop)(hl:ds.length=2)(h:sJ ds Qr):Ak { nx:=fun _=>Qr (.fz .non),rt:=Qr } (fQ ["line","mark","place","around"] ds):=by
 obtain⟨l,mk,m,p,rfl,M,tf,hs,q⟩:=h;show Ak _ [.fz (.str (cO l)),.fz (.str mk),.un,.un];unfold Ak;have big:=fV;walk_at "px";refine jG (List.range ((l.length+1)/2)) (fun j=>.int (0+(j:Nat)*2)) (fun Q' h=>?_) (fun i ρ=>(((List.range ((l.length+1)/2)).take i).all fun j=>!decide (l[2*j]?=some m)||(kO l (2*j)).all p)=true/\∃a c:Sl,ρ=[.fz (.str (cO l)),.fz (.str mk),a,c]) ⟨rfl,_,_,rfl⟩ ?_ ?_
 ·walk_at "px";rw[show(((l.length:Int)-0+1)/2).toNat=(l.length+1)/2 by omega];exact⟨by omega,by omega,h⟩
 ·rintro i j ρ hi ⟨et,a,c,rfl⟩;have hj:j<(l.length+1)/2:=by simpa using ax hi
  have yE:2*j<l.length:=by omega
  have Ca:px (cO l) (some (if (0:Int)>0+(j:Int)*2-1 then 0 else 0+(j:Int)*2-1)) (some (0+(j:Int)*2+2))=cO (kO l (2*j)):=by
   rw[show(if (0:Int)>0+(j:Int)*2-1 then(0:Int) else 0+(j:Int)*2-1)=((2*j-1:Nat):Int) by split<;>omega,show(0:Int)+(j:Int)*2+2=((2*j+2:Nat):Int) by omega,Lq l (by omega) (by omega)];rfl
  have QA:∀c∈kO l (2*j),c∈l:=fun c hc=>List.mem_of_mem_drop (List.mem_of_mem_take hc)
  have QB:(kO l (2*j)).length<=100:=by unfold kO;rw[bH,List.length_drop];omega
  have tk:(((List.range ((l.length+1)/2)).take (i+1)).all fun j=>!decide (l[2*j]?=some m)||(kO l (2*j)).all p)=(!decide (l[2*j]?=some m)||(kO l (2*j)).all p):=by
   rw[bh,hi,List.all_append,et];simp
  have bad:(!decide (l[2*j]?=some m)||(kO l (2*j)).all p)=false->lK m p l=false:=fun h=>by
   unfold lK;rw[List.all_eq_false];exact⟨j,ax hi,by rw[h];exact aw⟩
  have n0:cT l (0+(j:Int)*2)=some l[2*j]:=by rw[show(0:Int)+(j:Int)*2=((2*j:Nat):Int) by omega];exact ou yE
  walk_at "px";refine⟨by omega,?_⟩;rw[Ca,M.is];walk_at "go";rw[nR];refine⟨by omega,_,n0,?_⟩;rw[ab yE] at tk bad;simp only[vI,uE,List.cons.injEq,and_true,aG] at tk bad ⊢;by_cases hm:l[2*j]=m
  ·simp only[hm,decide_true,Bool.not_true,Bool.false_or,bE] at tk bad ⊢;refine nP (kO l (2*j)) (fun c=>.str ⟨#[c]⟩) (fun c=>.bl (p c)) (fun Q' h=>?_) (by omega) (fun c hc K1 k1=>?_) (uj _ _ ?_)
   ·walk_at "px";rw[nR];exact h
   ·walk_at "px";refine⟨by rw[big];decide +kernel,?_⟩;have:=M.kX c (hs c (QA c hc));rw[M.is] at this;unfold jS at this;rw[this];exact k1
   ·cases hb:(kO l (2*j)).all p with
    | true=>
     dsimp only;rw[if_neg (by simp)];exact⟨tk.trans hb,_,_,trivial,trivial,rfl,rfl⟩
    | false=>
     dsimp only;rw[if_pos (by simp)];rw[bad hb] at q;exact q
  ·simp only[hm,decide_false,Bool.not_false,Bool.true_or,aO,bp] at tk ⊢;exact⟨tk,_,_,trivial,trivial,rfl,rfl⟩
 ·rintro ρ ⟨et,a,c,rfl⟩;walk_at "go";rw[bx] at et;rw[show lK m p l=true from et] at q;exact q
noncomputable def eT(rows:List (List Nat))(k:Nat):List Nat:=rows.map fun l=>l.getD k 0
noncomputable def gA(rows:List (List Nat)):List (List Nat):=(List.range (wd rows)).map (eT rows)
structure qp (rows:List (List Nat)):Prop where
 b:RB rows
 ne:rows≠[]
 w:∀l∈rows,l.length=wd rows
theorem qp.AZ{rows:List (List Nat)}(h:qp rows):wd rows<=100:=h.b.dY _ (EV h.ne)
theorem FI(z:Array Nat):∀(l:List Str) (a:Array Nat),(l.foldl (fun acc p=>acc++z++p.cps) a).toList=a.toList++(l.map fun p=>z.toList++p.cps.toList).flatten
 | [],a=>by simp
 | x::l,a=>by
  rw[List.foldl_cons,FI z l];simp
theorem z8(x:Str)(a:Str)(l:List Str):(Txt.join x (a::l)).cps.toList=a.cps.toList++(l.map fun p=>x.cps.toList++p.cps.toList).flatten:=by
 unfold Txt.join Builtin.Str.glued;exact FI _ l a.cps
theorem Dz{a:Str}{l:List Nat}(h:a.cps.toList=l):a=cO l:=by rw[<-h,DG]
theorem FL(L:List Nat):Txt.join "" (L.map fun c=>(⟨#[c]⟩:Str))=cO L:=by
 refine Dz ?_;cases L with
 | nil=>rfl
 | cons a L=>
  rw[ao,z8];show [a]++_=_;rw[aE];have:∀L:List Nat,(L.map ((fun p:Str=>(("":Str).cps.toList++p.cps.toList))∘fun c=>(⟨#[c]⟩:Str))).flatten=L:=fun L=>by
   induction L with
   | nil=>rfl
   | cons b r ih=>rw[ao,List.flatten_cons,ih];rfl
  rw[this];rfl
def u6:ei:=fun ds Q=>∃(rows:List (List Nat)) (k:Nat),ds=[gu rows,.int k]/\qp rows/\k<wd rows/\Q (.fz (.str (cO (eT rows k))))
def AE:TX:=(gr (dM "str" pA (dC (.str "")) (bM (jE (jA (bK 0)) [none,some 1] (cX 0) ju (bQ cR (bK 0) (bK 1))) bU)))
theorem NX(ds:List D)(Qr:R->Prop)(hl:ds.length=2)(h:u6 ds Qr):AE { nx:=fun _=>Qr (.fz .non),rt:=Qr } (fQ ["rows","place"] ds):=by
 obtain⟨rows,k,rfl,b,hk,q⟩:=h;show AE _ [.fz (gu rows),.fz (.int k)];unfold AE gu;have big:=fV;have b1:=b.b.len;walk_at "px";refine⟨rfl,?_⟩;refine nP rows (fun l=>.str (cO l)) (fun l=>.str ⟨#[l.getD k 0]⟩) (fun Q' h=>?_) (by omega) (fun l hm K1 k1=>?_) ?_
 ·walk_at "px";exact h
 ·have hw:=b.b.dY l hm;have GI:k<l.length:=by rw[b.w l hm];exact hk
  walk_at "px";rw[nR];refine⟨by omega,_,ou GI,?_⟩;rw[af,ab GI] at k1;exact k1
 ·have e:(rows.map fun l=>D.str ⟨#[l.getD k 0]⟩)=((eT rows k).map fun c=>(⟨#[c]⟩:Str)).map D.str:=by unfold eT;simp
  rw[e];simp only[pA,zA,ya];rw[FL];refine⟨?_,q⟩;have e1:∀L:List Nat,((L.map fun c=>(⟨#[c]⟩:Str)).map fun x=>x.length).sum=L.length:=fun L=>by
   induction L with
   | nil=>rfl
   | cons a r ih=>rw[ao,ao,List.sum_cons,ih,aI];show 1+r.length=_;omega
  rw[e1,ae,show(Str.ofString "").length=0 by decide +kernel];unfold eT;rw[ae];omega
def sM:ei:=fun ds Q=>∃(rows:List (List Nat)),ds=[gu rows]/\qp rows/\Q (.ow ((gA rows).map fun l=>.str (cO l)))
def z7:TX:=(gr (jE (nK (bM (eC gM (bM (bQ cR (bK 0) (dC (.int 0))) bU)) bU)) [none,some 0] (cX 0) ju (eE 2 u6 (bM (bK 1) (bM (bK 0) bU)))))
theorem Nb(ds:List D)(Qr:R->Prop)(hl:ds.length=1)(h:sM ds Qr):z7 { nx:=fun _=>Qr (.fz .non),rt:=Qr } (fQ ["rows"] ds):=by
 obtain⟨rows,rfl,b,q⟩:=h;show z7 _ [.fz (gu rows)];unfold z7 gu;have big:=fV;have b1:=b.AZ;walk_at "px";refine nP (List.range (wd rows)) (fun k=>.int (0+(k:Nat))) (fun k=>.str (cO (eT rows k))) (fun Q' h=>?_) (by rw[List.length_range];omega) (fun k hk K1 k1=>?_) ?_
 ·walk_at "px";refine⟨_,CM b.ne,?_⟩;rw[show(rows.headD []).length=wd rows from rfl,Int.toNat_natCast];exact⟨by omega,by omega,by omega,h⟩
 ·have:=List.mem_range.mp hk;walk_at "px";exact⟨rows,k,by simp[gu],b,this,k1⟩
 ·unfold gA at q;rw[aE] at q;exact q
theorem D5{rows:List (List Nat)}(b:qp rows):RB (gA rows):=by
 have h1:=b.AZ;have h2:=b.b.len;refine⟨by unfold gA;rw[ae,List.length_range];exact h1,fun l hl=>?_,fun l hl c hc=>?_⟩
 ·obtain⟨k,_,rfl⟩:=av.mp hl;unfold eT;rw[ae];exact h2
 ·obtain⟨k,hk,rfl⟩:=av.mp hl;obtain⟨r,hr,rfl⟩:=av.mp hc;have nr:k<r.length:=by rw[b.w r hr];exact List.mem_range.mp hk
  rw[af,ab nr];exact b.b.f7 r hr _ (bg nr)
theorem JA{rows:List (List Nat)}(b:RB rows)(du:rows≠[])(h:oo rows=true):qp rows:=by
 refine⟨b,du,fun l hl=>?_⟩;unfold oo at h;simp only[Bool.and_eq_true,bI] at h;simpa using h.2 l hl
noncomputable def g9(rows:List (List Nat)):Bool:=oo rows&&pL rows&&rows.all (lK 45 fM)&&(gA rows).all (lK 124 fZ)
def u4:ei:=fun ds Q=>∃rows,ds=[gu rows]/\rows≠[]/\RB rows/\Q (.fz (.bl (g9 rows)))
def AD:TX:=(cq (eU (tK (mL (cQ (eE 1 uR (bM (bK 0) bU)))) (mL (cQ (eE 1 u7 (bM (bK 0) bU))))) (gr (dC (.bl false))) eX)
 (cq (eM 1 (eC pw (bM (jE (jA (bK 0)) [none] (cX 0) ju (eE 2 sJ (bM (bK 0) (bM (dC (.str "-")) bU)))) bU)))
 (gr (rX (bK 1) (eC pw (bM (jE (jA (eE 1 sM (bM (bK 0) bU))) [none] (cX 0) ju (eE 2 sJ (bM (bK 0) (bM (dC (.str "|")) bU)))) bU))))))
theorem NW(ds:List D)(Qr:R->Prop)(hl:ds.length=1)(h:u4 ds Qr):AD { nx:=fun _=>Qr (.fz .non),rt:=Qr } (fQ ["rows","stretches_hold"] ds):=by
 obtain⟨rows,rfl,du,b,q⟩:=h;show AD _ [.fz (gu rows),.un];unfold AD;have big:=fV;have b1:=b.len;unfold g9 at q;walk_at "px";refine⟨rows,rfl,du,b,?_⟩;cases h1:oo rows with
 | false=>
  rw[h1] at q;walk_at "px";exact q
 | true=>
  have bw:=JA b du h1;rw[h1] at q;walk_at "px";refine⟨rows,rfl,b,?_⟩;cases h2:pL rows with
  | false=>
   rw[h2] at q;walk_at "px";exact q
  | true=>
   rw[h2] at q;walk_at "px";walk_at "go";refine nP rows (fun l=>.str (cO l)) (fun l=>.bl (lK 45 fM l)) (fun Q' h=>?_) (by omega) (fun l hm K1 k1=>?_) (uj _ _ ?_)
   ·unfold gu;walk_at "px";exact h
   ·walk_at "px";exact⟨l,_,45,fM,rfl,De,b.dY l hm,b.f7 l hm,k1⟩
   ·have cb:=D5 bw;have c1:=cb.len;walk_at "go";cases h3:rows.all (lK 45 fM) with
    | false=>
     rw[if_neg aw];rw[h3] at q;exact q
    | true=>
     rw[if_pos rfl];rw[h3] at q;simp only[Bool.true_and] at q;refine nP (gA rows) (fun l=>.str (cO l)) (fun l=>.bl (lK 124 fZ l)) (fun Q' h=>?_) (by omega) (fun l hm K1 k1=>?_) (uj _ _ q)
     ·walk_at "px";exact⟨rows,rfl,bw,h⟩
     ·walk_at "px";exact⟨l,_,124,fZ,rfl,Dp,cb.dY l hm,cb.f7 l hm,k1⟩
end Wc
namespace Wc
open PySem L2 PyProof.Rows
end Wc
open PySem L2 PyProof.Rows Wc
local macro_rules | `(tactic| walk_at "px")=>`(tactic| (repeat(first | walk_at "b" | simp only[pG,xS])))
namespace Wc
open PySem L2 PyProof.Rows
noncomputable def jb(b:Bool):Str:=if b then "|" else "-"
noncomputable def mO(b:Bool):Nat:=if b then 124 else 45
noncomputable def pO(b:Bool):Nat->Bool:=if b then fZ else fM
theorem CL(b:Bool):Mk (jb b) (mO b) (pO b):=by
 cases b
 ·exact De
 ·exact Dp
theorem Hv(b:Bool):pO b (mO b)=true:=by cases b<;>decide
noncomputable def d6(s:Sd):D:=.tup [.str (jb s.1),.int s.2.1,.int s.2.2]
noncomputable def mE:Option Sd->D
 | none=>.non
 | some s=>d6 s
noncomputable def eA(b:Bool)(l:List Nat):Nat->Bool:=fun i=>pO b (l.getD i 0)
noncomputable def jK(b:Bool)(n:Nat)(l:List Nat)(k:Nat):Option Sd:=if eA b l k=true then some (b,n,fh (eA b l) k) else none
noncomputable def gX(b:Bool)(n:Nat)(l:List Nat):List (Option Sd):=(List.range l.length).map (jK b n l)
def u3:ei:=fun ds Q=>∃(n:Nat) (l:List Nat) (b:Bool),ds=[.int n,.str (cO l),.str (jb b)]/\l.length<=100/\(∀c∈l,c∈f7)/\Q (.ow ((gX b n l).map mE))
def AS:TX:=(cq (jB 3 (ic bU))
 (cq (eM 4 (dC .non))
 (cq (gN (pG (bM (bK 1) bU)) (jv 2 (eZ (cX 5) (eZ (cX 6) ib))) (cq (eU (cQ (bQ (jC true) (bK 6) (bQ ez (bK 2) (dC (.str "+#"))))) (eM 4 (dC .non)) (eU (cQ (bQ (xa false) (bK 4) (dC .non))) (eM 4 (dN (bM (bK 2) (bM (bK 0) (bM (bK 5) bU))))) eX))
 (iK 3 (bK 4))))
 (pC 3))))
theorem Oo(ds:List D)(Qr:R->Prop)(hl:ds.length=3)(h:u3 ds Qr):AS { nx:=fun _=>Qr (.fz .non),rt:=Qr } (fQ ["number","line","mark","strands","strand","place","sign"] ds):=by
 obtain⟨n,l,b,rfl,tf,hs,q⟩:=h;show AS _ [.fz (.int n),.fz (.str (cO l)),.fz (.str (jb b)),.un,.un,.un,.un];unfold AS;have big:=fV;have M:=CL b;walk_at "px";walk_at "go";refine⟨aU _,?_⟩;walk_at "go";refine jG l.zipIdx (fun p=>.tup [.int (p.2:Nat),.str ⟨#[p.1]⟩]) (fun Q' h=>?_) (fun i ρ=>∃a c:Sl,ρ=[.fz (.int n),.fz (.str (cO l)),.fz (.str (jb b)),.ow (((List.range i).map (jK b n l)).map mE),.fz (mE (if i=0 then none else jK b n l (i-1))),a,c]) ⟨_,_,rfl⟩ ?_ ?_
 ·walk_at "px";rw[nR,qF];exact h
 ·rintro i ⟨cc,pp⟩ ρ hi ⟨a,c,rfl⟩;rw[List.getElem?_zipIdx] at hi;obtain⟨c0,rB,e0⟩:=aK.mp hi;simp only[Prod.mk.injEq] at e0;obtain⟨rfl,rfl⟩:=e0;have vZ:i<l.length:=(ag.mp rB).1;have Qw:c0∈l:=ax rB;have Qb:eA b l i=pO b c0:=by unfold eA;rw[af,rB];rfl
  rw[Nat.zero_add];have nt:=M.kX c0 (hs c0 Qw);unfold jS at nt;have Qg:(jb b).length+(Str.ofString "+#").length<=sizeLine:=by rw[big];cases b<;>decide +kernel
  have rs:(List.range (i+1)).map (jK b n l)=(List.range i).map (jK b n l)++[jK b n l i]:=by rw[List.range_succ,aA];rfl
  have Bl:(if i+1=0 then none else jK b n l (i+1-1))=jK b n l i:=by rw[if_neg (by omega),Nat.add_sub_cancel]
  walk_at "px";refine⟨Qg,?_⟩;rw[nt,<-Qb];cases hp:eA b l i with
  | false=>
   have e1:jK b n l i=none:=by unfold jK;rw[hp];rfl
   rw[if_pos (by simp)];walk_at "go";rw[rs,Bl,e1];exact⟨by simp;omega,.fz (.int i),.fz (.str ⟨#[c0]⟩),by rw[aA];rfl⟩
  | true=>
   rw[if_neg (by simp)];have e1:jK b n l i=some (b,n,fh (eA b l) i):=by unfold jK;rw[hp];rfl
   cases fN:(if i=0 then none else jK b n l (i-1)) with
   | none=>
    have e2:fh (eA b l) i=i:=by
     cases i with
     | zero=>rfl
     | succ j=>
      rw[if_neg (by omega),Nat.add_sub_cancel] at fN;unfold jK at fN;split at fN
      ·cases fN
      ·rename_i hj;unfold fh;rw[if_neg hj]
    rw[e2] at e1;refine(if_pos rfl:ite _ _ _=_).mpr ?_;refine⟨by omega,?_⟩;walk_at "go";rw[rs,Bl,e1];exact⟨by simp;omega,.fz (.int i),.fz (.str ⟨#[c0]⟩),by rw[aA];rfl⟩
   | some z=>
    have e2:jK b n l i=some z:=by
     cases i with
     | zero=>cases fN
     | succ j=>
      rw[if_neg (by omega),Nat.add_sub_cancel] at fN;rw[e1];unfold jK at fN;split at fN
      ·rename_i hj;rw[z9 hj];exact fN
      ·cases fN
    refine(if_neg (by simp[mE,d6]):ite _ _ _=_).mpr ?_;walk_at "go";rw[rs,Bl,e2];exact⟨by simp;omega,.fz (.int i),.fz (.str ⟨#[c0]⟩),by rw[aA];rfl⟩
 ·rintro ρ ⟨a,c,rfl⟩;walk_at "go";rw[List.length_zipIdx];exact q
noncomputable def z6(b:Bool)(ls:List (List Nat)):List (List (Option Sd)):=ls.zipIdx.map fun q=>gX b q.2 q.1
noncomputable def lD(b:Bool)(ls:List (List Nat)):List D:=(z6 b ls).map fun l=>.lst (l.map mE)
def sN:ei:=fun ds Q=>∃(ls:List (List Nat)) (b:Bool),ds=[gu ls,.str (jb b)]/\RB ls/\Q (.ow (lD b ls))
def AB:TX:=(gr (jE (r0 (bM (bK 0) bU)) [none,none,some 1] (jv 2 (eZ (cX 0) (eZ (cX 1) ib))) ju (eE 3 u3 (bM (bK 0) (bM (bK 1) (bM (bK 2) bU))))))
theorem NV(ds:List D)(Qr:R->Prop)(hl:ds.length=2)(h:sN ds Qr):AB { nx:=fun _=>Qr (.fz .non),rt:=Qr } (fQ ["lines","mark"] ds):=by
 obtain⟨ls,b,rfl,rb,q⟩:=h;show AB _ [.fz (gu ls),.fz (.str (jb b))];unfold AB;have big:=fV;have b1:=rb.len;walk_at "px";refine nP ls.zipIdx (fun p=>.tup [.int (p.2:Nat),.str (cO p.1)]) (fun p=>.lst ((gX b p.2 p.1).map mE)) (fun Q' h=>?_) (by rw[List.length_zipIdx];omega) (fun p hp K1 k1=>?_) ?_
 ·unfold gu;walk_at "px";rw[qF];exact h
 ·obtain⟨l,n⟩:=p;have hm:=mem_zipIdx hp;walk_at "px";exact⟨n,l,b,rfl,rb.dY l hm,rb.f7 l hm,k1⟩
 ·unfold lD z6 at q;rw[aE] at q;exact q
end Wc
namespace Wc
open PySem L2 PyProof.Rows
end Wc
open PySem L2 PyProof.Rows Wc
local macro_rules | `(tactic| walk_at "px")=>`(tactic| (repeat(first | walk_at "b" | simp only[pG,xS,rT])))
namespace Wc
open PySem L2 PyProof.Rows
theorem D4{α:Type}{l:List α}(h:0<l.length):cT l (-1)=some (l[l.length-1]'(by omega)):=by
 unfold cT jR;rw[if_neg (by omega),if_pos (by omega)];simp only[Option.bind_some];rw[show((-1:Int)+(l.length:Int)).toNat=l.length-1 by omega];exact ab _
noncomputable def n6(p:Sd×b8):D:=.tup [d6 p.1,dA p.2]
noncomputable def gZ(b:Bool)(s0 s1:Str)(q:List Nat×Nat):List (Sd×b8):=
 (if q.1[0]?=some (mO b) then [((b,q.2,0),(s0,((q.2/2:Nat):Int)))] else [])++(if q.1[q.1.length-1]?=some (mO b) then [((b,q.2,fh (eA b q.1) (q.1.length-1)),(s1,((q.2/2:Nat):Int)))] else [])
noncomputable def pF(b:Bool)(s0 s1:Str)(ls:List (List Nat)):List (Sd×b8):=ls.zipIdx.flatMap (gZ b s0 s1)
theorem D3(b:Bool)(s0 s1:Str)(q:List Nat×Nat):(gZ b s0 s1 q).length<=2:=by
 unfold gZ;rw[aC];split<;>split<;>simp
theorem sC{α β:Type}{f:α->List β}{k:Nat}(hf:∀a,(f a).length<=k):∀l:List α,(l.flatMap f).length<=l.length*k
 | []=>by simp
 | a::l=>by
  rw[List.flatMap_cons,aC,aI,Nat.succ_mul];have:=hf a;have:=sC hf l;omega
theorem tY{b:Bool}{ls:List (List Nat)}{l:List Nat}{n:Nat}(h:ls[n]?=some l):cT (lD b ls) (n:Nat)=some (.lst ((gX b n l).map mE)):=by
 have hn:n<ls.length:=(ag.mp h).1;unfold lD z6;rw[nQ,nQ,ou (by simpa using hn)];simp only[bz,List.getElem_zipIdx];rw[show ls[n]=l from(ag.mp h).2,Nat.zero_add]
theorem xQ{b:Bool}{n k:Nat}{l:List Nat}(hk:k<l.length)(hp:eA b l k=true):(gX b n l)[k]?=some (some (b,n,fh (eA b l) k)):=by
 unfold gX;rw[ai,List.getElem?_range hk];simp[jK,hp]
theorem Lm{b:Bool}{n:Nat}{l:List Nat}(h0:0<l.length)(hp:eA b l 0=true):cT ((gX b n l).map mE) 0=some (d6 (b,n,0)):=by
 have h:=xQ (n:=n) h0 hp;have hl:0<(gX b n l).length:=by unfold gX;simpa using h0
 rw[nQ,show cT (gX b n l) 0=some (gX b n l)[0] from ou (j:=0) hl];rw[ab hl] at h;rw[aQ h];rfl
theorem EU{b:Bool}{n:Nat}{l:List Nat}(h0:0<l.length)(hp:eA b l (l.length-1)=true):cT ((gX b n l).map mE) (-1)=some (d6 (b,n,fh (eA b l) (l.length-1))):=by
 have h:=xQ (n:=n) (show l.length-1<l.length by omega) hp;have e:(gX b n l).length=l.length:=by unfold gX;simp
 have hl:0<(gX b n l).length:=by omega
 rw[nQ,D4 hl];simp only[e];rw[ab (by omega)] at h;rw[aQ h];rfl
def sP:ei:=fun ds Q=>∃(ls:List (List Nat)) (b:Bool) (s0 s1:Str),ds=[gu ls,.lst (lD b ls),.str (jb b),.tup [.str s0,.str s1]]/\RB ls/\(∀l∈ls,0<l.length)/\Q (.ow ((pF b s0 s1 ls).map n6))
def AJ:TX:=(cq (jB 4 (ic bU))
 (cq (gN (r0 (bM (bK 0) bU)) (jv 2 (eZ (cX 5) (eZ (cX 6) ib))) (cq (eU (cQ (bQ oEq (bQ cR (bK 6) (dC (.int 0))) (bK 2))) (iK 4 (dN (bM (bQ cR (bQ cR (bK 1) (bK 5)) (dC (.int 0))) (bM (dN (bM (bQ cR (bK 3) (dC (.int 0))) (bM (bQ (oI kh fun i j=>.int (i/j)) (bK 5) (dC (.int 2))) bU))) bU)))) eX)
 (eU (cQ (bQ oEq (bQ cR (bK 6) (tT (dC (.int 1)))) (bK 2))) (iK 4 (dN (bM (bQ cR (bQ cR (bK 1) (bK 5)) (tT (dC (.int 1)))) (bM (dN (bM (bQ cR (bK 3) (dC (.int 1))) (bM (bQ (oI kh fun i j=>.int (i/j)) (bK 5) (dC (.int 2))) bU))) bU)))) eX)))
 (pC 4)))
theorem N9(ds:List D)(Qr:R->Prop)(hl:ds.length=4)(h:sP ds Qr):AJ { nx:=fun _=>Qr (.fz .non),rt:=Qr } (fQ ["lines","strands","mark","sides","ends","number","line"] ds):=by
 obtain⟨ls,b,s0,s1,rfl,rb,du,q⟩:=h;show AJ _ [.fz (gu ls),.fz (.lst (lD b ls)),.fz (.str (jb b)),.fz (.tup [.str s0,.str s1]),.un,.un,.un];unfold AJ;have big:=fV;have M:=CL b;have b1:=rb.len;walk_at "px";refine⟨aU _,?_⟩;walk_at "go";refine jG ls.zipIdx (fun p=>.tup [.int (p.2:Nat),.str (cO p.1)]) (fun Q' h=>?_) (fun i ρ=>∃a c:Sl,ρ=[.fz (gu ls),.fz (.lst (lD b ls)),.fz (.str (jb b)),.fz (.tup [.str s0,.str s1]),.ow (((ls.zipIdx.take i).flatMap (gZ b s0 s1)).map n6),a,c]) ⟨_,_,rfl⟩ ?_ ?_
 ·unfold gu;walk_at "px";rw[qF];exact h
 ·rintro i ⟨l,n⟩ ρ hi ⟨a,c,rfl⟩;have hm:l∈ls:=mem_zipIdx (ax hi);have mq:=du l hm;have hw:=rb.dY l hm;have rm:ls[n]?=some l:=by
   rw[List.getElem?_zipIdx] at hi;obtain⟨c0,rB,e0⟩:=aK.mp hi;simp only[Prod.mk.injEq] at e0;obtain⟨rfl,rfl⟩:=e0;rw[Nat.zero_add];exact rB
  have tk:(ls.zipIdx.take (i+1)).flatMap (gZ b s0 s1)=(ls.zipIdx.take i).flatMap (gZ b s0 s1)++gZ b s0 s1 (l,n):=by
   rw[bh,hi,bB];simp
  have Cz:=sC (D3 b s0 s1) (ls.zipIdx.take i);have Cy:(ls.zipIdx.take i).length<=100:=by rw[bH,List.length_zipIdx];omega
  rw[tk];have ed:gZ b s0 s1 (l,n)=(if l[0]=mO b then [((b,n,0),(s0,((n/2:Nat):Int)))] else [])++(if l[l.length-1]'(by omega)=mO b then [((b,n,fh (eA b l) (l.length-1)),(s1,((n/2:Nat):Int)))] else []):=by
   unfold gZ;simp only[ab mq,ab (show l.length-1<l.length by omega),aG]
  generalize gZ b s0 s1 (l,n)=e at ed ⊢;generalize (ls.zipIdx.take i).flatMap (gZ b s0 s1)=acc at Cz ⊢;have a0:cT l 0=some l[0]:=ou (l:=l) (j:=0) mq;have aL:=D4 mq;have cm:jb b=cO [mO b]:=M.is;have Bk:∀k (hk:k<l.length),l[k]=mO b->eA b l k=true:=fun k hk h=>by
   unfold eA;rw[af,ab hk,aX,h];exact Hv b
  have d2:((n:Int)/2)=((n/2:Nat):Int):=by omega
  have ll:((gX b n l).map mE).length=l.length:=by unfold gX;simp
  have RC:(gX b n l).length=l.length:=by unfold gX;simp
  walk_at "px";rw[nR];refine⟨by omega,_,a0,?_⟩;rw[cm];simp only[vI,uE,List.cons.injEq,and_true];by_cases h0:l[0]=mO b
  ·rw[if_pos h0] at ed;rw[if_pos h0];refine⟨_,tY rm,_,Lm mq (Bk _ mq h0),_,rfl,by omega,by omega,by simp;omega,?_⟩;walk_at "go";rw[nR];refine⟨by omega,_,aL,?_⟩;simp only[vI,uE,List.cons.injEq,and_true];by_cases h1:l[l.length-1]'(by omega)=mO b
   ·rw[if_pos h1] at ed;rw[if_pos h1];refine⟨_,tY rm,_,EU mq (Bk _ (by omega) h1),_,rfl,by omega,by omega,by simp;omega,.fz (.int n),.fz (.str (cO l)),?_⟩;rw[ed,d2];simp[n6,dA]
   ·rw[if_neg h1] at ed;rw[if_neg h1,ed,d2];exact⟨.fz (.int n),.fz (.str (cO l)),by simp[n6,dA]⟩
  ·rw[if_neg h0] at ed;rw[if_neg h0];walk_at "go";rw[nR];refine⟨by omega,_,aL,?_⟩;simp only[vI,uE,List.cons.injEq,and_true];by_cases h1:l[l.length-1]'(by omega)=mO b
   ·rw[if_pos h1] at ed;rw[if_pos h1];refine⟨_,tY rm,_,EU mq (Bk _ (by omega) h1),_,rfl,by omega,by omega,by simp;omega,.fz (.int n),.fz (.str (cO l)),?_⟩;rw[ed,d2];simp[n6,dA]
   ·rw[if_neg h1] at ed;rw[if_neg h1,ed];exact⟨.fz (.int n),.fz (.str (cO l)),by simp⟩
 ·rintro ρ ⟨a,c,rfl⟩;walk_at "go";rw[bx];exact q
noncomputable def lW(rows:List (List Nat))(q:List Nat×Nat):List (Sd×Sd):=(q.1.zipIdx.filter fun p=>decide (p.1=43)).map fun p=>((false,q.2,fh (eA false q.1) p.2),(true,p.2,fh (eA true (eT rows p.2)) q.2))
noncomputable def pK(rows:List (List Nat)):List (Sd×Sd):=rows.zipIdx.flatMap (lW rows)
noncomputable def lC(p:Sd×Sd):D:=.tup [d6 p.1,d6 p.2]
theorem zL{rows:List (List Nat)}{q:List Nat×Nat}:(lW rows q).length<=q.1.length:=by
 unfold lW;rw[ae];exact a9 (List.length_filter_le _ _) (by simp)
theorem Ah{α β:Type}{f:α->List β}{k:Nat}:∀{l:List α},(∀a∈l,(f a).length<=k)->(l.flatMap f).length<=l.length*k
 | [],_=>by simp
 | a::l,hf=>by
  rw[List.flatMap_cons,aC,aI,Nat.succ_mul];have:=hf a aH;have:=Ah (l:=l) fun b hb=>hf b (au _ hb)
  omega
def uQ:ei:=fun ds Q=>∃(rows:List (List Nat)),ds=[gu rows,.lst (lD false rows),.lst (lD true (gA rows))]/\qp rows/\Q (.ow ((pK rows).map lC))
def AI:TX:=(cq (jB 3 (ic bU))
 (cq (gN (r0 (bM (bK 0) bU)) (jv 2 (eZ (cX 4) (eZ (cX 5) ib))) (cq (eM 6 (jE (pG (bM (bK 5) bU)) [none,none] (jv 2 (eZ (cX 0) (eZ (cX 1) ib))) (cQ (bQ oEq (bK 1) (dC (.str "+")))) (bK 0)))
 (rT 3 (jE (jA (bK 6)) [none,some 4,some 1,some 2] (cX 0) ju (dN (bM (bQ cR (bQ cR (bK 2) (bK 1)) (bK 0)) (bM (bQ cR (bQ cR (bK 3) (bK 0)) (bK 1)) bU)))))))
 (pC 3)))
theorem N8(ds:List D)(Qr:R->Prop)(hl:ds.length=3)(h:uQ ds Qr):AI { nx:=fun _=>Qr (.fz .non),rt:=Qr } (fQ ["rows","stretches","uprights","joints","number","row","places"] ds):=by
 obtain⟨rows,rfl,b,q⟩:=h;show AI _ [.fz (gu rows),.fz (.lst (lD false rows)),.fz (.lst (lD true (gA rows))),.un,.un,.un,.un];unfold AI;have big:=fV;have b1:=b.b.len;have bw:=b.AZ;walk_at "px";refine⟨aU _,?_⟩;walk_at "go";refine jG rows.zipIdx (fun p=>.tup [.int (p.2:Nat),.str (cO p.1)]) (fun Q' h=>?_) (fun i ρ=>∃a c d:Sl,ρ=[.fz (gu rows),.fz (.lst (lD false rows)),.fz (.lst (lD true (gA rows))),.ow (((rows.zipIdx.take i).flatMap (lW rows)).map lC),a,c,d]) ⟨_,_,_,rfl⟩ ?_ ?_
 ·unfold gu;walk_at "px";rw[qF];exact h
 ·rintro i ⟨l,n⟩ ρ hi ⟨a,c,d,rfl⟩;have hm:l∈rows:=mem_zipIdx (ax hi);have hw:=b.b.dY l hm;have yB:=b.w l hm;have rm:rows[n]?=some l:=by
   rw[List.getElem?_zipIdx] at hi;obtain⟨c0,rB,e0⟩:=aK.mp hi;simp only[Prod.mk.injEq] at e0;obtain⟨rfl,rfl⟩:=e0;rw[Nat.zero_add];exact rB
  have tk:(rows.zipIdx.take (i+1)).flatMap (lW rows)=(rows.zipIdx.take i).flatMap (lW rows)++lW rows (l,n):=by
   rw[bh,hi,bB];simp
  have Cz:((rows.zipIdx.take i).flatMap (lW rows)).length<=(rows.zipIdx.take i).length*100:=Ah fun q hq=>a9 zL (b.b.dY _ (mem_zipIdx (i:=q.2) (List.mem_of_mem_take hq)))
  have Cy:(rows.zipIdx.take i).length<=100:=by rw[bH,List.length_zipIdx];omega
  rw[tk];have jl:=zL (rows:=rows) (q:=(l,n));generalize (rows.zipIdx.take i).flatMap (lW rows)=acc at Cz ⊢;have pl:(l.zipIdx.filter fun p=>decide (p.1=43)).length<=100:=a9 (List.length_filter_le _ _) (by simpa using hw);walk_at "px";refine Nx l.zipIdx (fun p=>.tup [.int (p.2:Nat),.str ⟨#[p.1]⟩]) (fun p=>.int (p.2:Nat)) (fun p=>decide (p.1=43)) (fun Q' h=>?_) (by rw[List.length_zipIdx];omega) (fun p hp K1 K0 k1 k0=>?_) ?_
  ·walk_at "px";rw[nR,qF];exact h
  ·obtain⟨cc,pp⟩:=p;have ep:(⟨#[cc]⟩:Str)="+"↔cc=43:=by
    rw[show("+":Str)=cO [43] by decide +kernel,vI,uE];simp
   walk_at "px";simp only[ep];by_cases k9:cc=43
   ·rw[if_pos k9];exact k1 (by simpa using k9)
   ·rw[if_neg k9];exact k0 (by simpa using k9)
  ·walk_at "go";refine nP (l.zipIdx.filter fun p=>decide (p.1=43)) (fun p=>.int (p.2:Nat)) (fun p=>lC ((false,n,fh (eA false l) p.2),(true,p.2,fh (eA true (eT rows p.2)) n))) (fun Q' h=>?_) (by omega) (fun p hp K1 k1=>?_) ?_
   ·walk_at "px";exact h
   ·obtain⟨cc,pp⟩:=p;obtain⟨hz,k9⟩:=ba.mp hp;have k9:cc=43:=by simpa using k9
    have Bx:=List.mem_zipIdx hz;have jU:pp<l.length:=by omega
    have wj:l[pp]=43:=by
     have:=Bx.2.2;simp only[Nat.sub_zero] at this;rw[<-this];exact k9
    have RG:n<rows.length:=(ag.mp rm).1;have wg:(gA rows)[pp]?=some (eT rows pp):=by
     unfold gA;rw[ai,List.getElem?_range (by omega)];rfl
    have Pj:eA false l pp=true:=by
     unfold eA;rw[af,ab jU,aX,wj];exact D9
    have Ph:eA true (eT rows pp) n=true:=by
     unfold eA eT;rw[af,ai,rm,bz,aX,af,ab jU,aX,wj];exact D8
    have mF:cT ((gX false n l).map mE) (pp:Nat)=some (d6 (false,n,fh (eA false l) pp)):=by
     have h:=xQ (n:=n) jU Pj;have e:(gX false n l).length=l.length:=by unfold gX;simp
     rw[nQ,ou (by omega)];rw[ab (by omega)] at h;rw[aQ h];rfl
    have at2:cT ((gX true pp (eT rows pp)).map mE) (n:Nat)=some (d6 (true,pp,fh (eA true (eT rows pp)) n)):=by
     have e0:(eT rows pp).length=rows.length:=by unfold eT;simp
     have h:=xQ (n:=pp) (l:=eT rows pp) (k:=n) (by omega) Ph;have e:(gX true pp (eT rows pp)).length=rows.length:=by unfold gX;simp[e0]
     rw[nQ,ou (by omega)];rw[ab (by omega)] at h;rw[aQ h];rfl
    walk_at "px";exact⟨_,tY rm,_,mF,_,tY wg,_,at2,by omega,k1⟩
   ·walk_at "px";refine⟨by rw[ae,ae];omega,.fz (.int n),.fz (.str (cO l)),.fz (.lst (List.map (fun p=>D.int (p.2:Nat)) (List.filter (fun p=>decide (p.1=43)) l.zipIdx))),?_⟩;rw[aA];unfold lW;rw[aE];rfl
 ·rintro ρ ⟨a,c,d,rfl⟩;walk_at "go";rw[bx];exact q
end Wc
namespace Wc
open PySem L2 PyProof.Rows
end Wc
open PySem L2 PyProof.Rows Wc
local macro_rules | `(tactic| walk_at "px")=>`(tactic| (repeat(first | walk_at "b" | simp only[xl,qw,ub,oe,om,xG,y4,rZ,tW])))
namespace Wc
open PySem L2 PyProof.Rows
noncomputable def kk(s:Sd):List Key:=[.inr (jb s.1),.inl (s.2.1:Nat),.inl (s.2.2:Nat)]
theorem qC:∀a b:Sd,kk a=kk b->a=b:=by
 rintro⟨a,n,k⟩ ⟨b,m,j⟩ h;unfold kk at h;simp only[List.cons.injEq,Sum.inr.injEq,Sum.inl.injEq,and_true] at h;obtain⟨h1,h2,h3⟩:=h;have iD:a=b:=by
  cases a<;>cases b
  ·rfl
  ·exact absurd h1 (by decide +kernel)
  ·exact absurd h1 (by decide +kernel)
  ·rfl
 have h2:n=m:=by omega
 have h3:k=j:=by omega
 rw[iD,h2,h3]
theorem uv(s:Sd):iY [.str (jb s.1),.int (s.2.1:Nat),.int (s.2.2:Nat)]=some (kk s):=rfl
noncomputable def mK(links:List (Sd×Sd)):List (Sd×Sd):=links.flatMap fun p=>[(p.1,p.2),(p.2,p.1)]
noncomputable def nc(links:List (Sd×Sd))(x:Sd):List Sd:=((mK links).filter fun q=>decide (q.1=x)).map (·.2)
theorem kU{links:List (Sd×Sd)}{x y:Sd}:(x,y)∈mK links↔(x,y)∈links\/(y,x)∈links:=by
 unfold mK;simp only[List.mem_flatMap,ar,List.not_mem_nil,or_false,Prod.mk.injEq];constructor
 ·rintro⟨p,hp,⟨rfl,rfl⟩ | ⟨rfl,rfl⟩⟩
  ·exact .inl hp
  ·exact .inr hp
 ·rintro(h | h)
  ·exact⟨_,h,.inl ⟨rfl,rfl⟩⟩
  ·exact⟨_,h,.inr ⟨rfl,rfl⟩⟩
theorem gH{links:List (Sd×Sd)}{x y:Sd}:y∈nc links x↔(x,y)∈links\/(y,x)∈links:=by
 rw[<-kU];unfold nc;rw[av];constructor
 ·rintro⟨⟨a,b⟩,h,rfl⟩;obtain⟨h1,h2⟩:=ba.mp h;have:a=x:=by simpa using h2
  rw[<-this];exact h1
 ·intro h;exact⟨(x,y),ba.mpr ⟨h,by simp⟩,rfl⟩
noncomputable def nG(B:List (Sd×List Sd))(F:List (Sd×Sd)):Nat:=((B.filter fun p=>(cz F p.1).isNone).map fun p=>1+p.2.length).sum
theorem FH{F:List (Sd×Sd)}{x a:Sd}{g:List Sd}(hx:cz F x=none):∀{B:List (Sd×List Sd)},(B.map (·.1)).Nodup->(x,g)∈B->nG B (F++[(x,a)])+(1+g.length)<=nG B F
 | [],_,h=>by cases h
 | p::B,nd,h=>by
  rw[ao,aS] at nd;unfold nG;by_cases hp:p.1=x
  ·have P7:p=(x,g):=by
    rcases ar.mp h with z | z
    ·exact z.symm
    ·exact absurd (av.mpr ⟨_,z,hp.symm⟩) nd.1
   subst P7;have e1:(cz (F++[(x,a)]) x).isNone=false:=by rw[uz _ _ _ hx,if_pos rfl];rfl
   have e2:(cz F x).isNone=true:=by rw[hx];rfl
   rw[List.filter_cons_of_neg (by simp[e1]),List.filter_cons_of_pos (by simpa using e2),ao,List.sum_cons];have:((B.filter fun p=>(cz (F++[(x,a)]) p.1).isNone).map fun p=>1+p.2.length).sum=((B.filter fun p=>(cz F p.1).isNone).map fun p=>1+p.2.length).sum:=by
    congr 2
    refine List.filter_congr fun q hq=>?_
    have:q.1≠x:=fun z=>nd.1 (av.mpr ⟨q,hq,z⟩)
    rw[uz _ _ _ hx,if_neg this]
   rw[this];simp only;omega
  ·have ih:=FH (F:=F) (a:=a) hx nd.2 (by
    rcases ar.mp h with z | z
    ·exact absurd (by rw[<-z]) hp
    ·exact z)
   unfold nG at ih;have e:(cz (F++[(x,a)]) p.1).isNone=(cz F p.1).isNone:=by rw[uz _ _ _ hx,if_neg hp]
   cases hb:(cz F p.1).isNone with
   | true=>
    rw[List.filter_cons_of_pos (by rw[e,hb]),List.filter_cons_of_pos (by simpa using hb),ao,ao,List.sum_cons,List.sum_cons];omega
   | false=>
    rw[List.filter_cons_of_neg (by rw[e,hb];exact aw),List.filter_cons_of_neg (by rw[hb];exact aw)];exact ih
theorem Jz{B:List (Sd×List Sd)}{F:List (Sd×Sd)}{k:Nat}(h:∀p∈B,p.2.length<=k):nG B F<=B.length*(1+k):=by
 unfold nG;have:∀B':List (Sd×List Sd),(∀p∈B',p.2.length<=k)->(B'.map fun p=>1+p.2.length).sum<=B'.length*(1+k):=fun B'=>by
  induction B' with
  | nil=>intro _;simp
  | cons p r ih=>
   intro h;rw[ao,List.sum_cons,aI,Nat.succ_mul];have:=ih fun q hq=>h q (au _ hq)
   have:=h p aH;omega
 refine a9 (this _ fun p hp=>h p (ba.mp hp).1) ?_;exact Nat.mul_le_mul_right _ (List.length_filter_le _ _)
theorem D2(links:List (Sd×Sd)):(mK links).length=2*links.length:=by
 unfold mK;induction links with
 | nil=>rfl
 | cons a r ih=>rw[List.flatMap_cons,aC,ih];simp;omega
def uP:ei:=fun ds Q=>∃links:List (Sd×Sd),ds=[.lst (links.map lC)]/\links.length<=1600/\∀F:List (Sd×Sd),(∀a b,(cz F a).getD a=(cz F b).getD b↔Cn links a b)->F.length<=3200->Q (.ov (.dq (eo kk d6 F)))
def AH:TX:=(cq (jB 1 qw)
 (cq (gN (jA (bK 0)) (jv 2 (eZ (cX 2) (eZ (cX 3) ib))) (cq (oe 1 (bK 2) (bK 3))
 (oe 1 (bK 3) (bK 2))))
 (cq (jB 4 ub)
 (tU 1 (cq (gN (y4 (bK 1)) (cX 5) (cq (jB 6 (ic (bM (bK 5) bU)))
 (zk (cQ (bQ (fT fun i j=>.bl (decide (j<i))) (xf 6) (dC (.int 0)))) (cq (xG 7 6)
 (eU (t8 4 (cQ (bQ (tW true) (bK 7) (bK 4)))) (cq (om 4 (bK 7) (bK 5))
 (xl 6 (rZ (bK 1) (bK 7)))) eX)))))
 (pz 4))))))
theorem N7(ds:List D)(Qr:R->Prop)(hl:ds.length=1)(h:uP ds Qr):AH { nx:=fun _=>Qr (.fz .non),rt:=Qr } (fQ ["links","beside","one","other","firsts","first","waiting","strand"] ds):=by
 obtain⟨links,rfl,GG,q⟩:=h;show AH _ [.fz (.lst (links.map lC)),.un,.un,.un,.un,.un,.un,.un];unfold AH;have big:=fV;walk_at "px";walk_at "go";refine jG links lC (fun Q' h=>?_) (fun i ρ=>∃(B:List (Sd×List Sd)) (a c:Sl),e8 (mK (links.take i)) B/\ρ=[.fz (.lst (links.map lC)),.ov (.dt (e6 kk d6 B)),a,c,.un,.un,.un,.un]) ⟨[],_,_,by simpa[mK] using e8.nil,rfl⟩ ?_ ?_
 ·walk_at "px";exact h
 ·rintro i ⟨x,y⟩ ρ hi ⟨B,a,c,G,rfl⟩;have tk:mK (links.take (i+1))=mK (links.take i)++[(x,y)]++[(y,x)]:=by
   unfold mK;rw[bh,hi,bB];simp
  have l1:=D2 (links.take i);have l2:(links.take i).length<=1600:=by rw[bH];omega
  have g1:=G.len;obtain⟨n1,wD,B1,s1,s2,s3,G1,s4⟩:=xR (dv:=d6) qC G x y;obtain⟨n2,Q6,B2,t1,t2,t3,G2,t4⟩:=xR (dv:=d6) qC G1 y x;have g2:=G1.len;rw[aC] at g2 t4;simp only[aI,List.length_nil] at g2 t4;have k1:(e6 kk d6 B).length=B.length:=by unfold e6;simp
  have k2:(e6 kk d6 B1).length=B1.length:=by unfold e6;simp
  rw[<-tk] at G2;rw[show lC (x,y)=.tup [.tup [.str (jb x.1),.int (x.2.1:Nat),.int (x.2.2:Nat)],.tup [.str (jb y.1),.int (y.2.1:Nat),.int (y.2.2:Nat)]] from rfl];walk_at "px";refine⟨_,n1,wD,uv x,by omega,s1,s2,by omega,?_⟩;rw[show D.tup [.str (jb y.1),.int (y.2.1:Nat),.int (y.2.2:Nat)]=d6 y from rfl,s3];rw[show d6 y=D.tup [.str (jb y.1),.int (y.2.1:Nat),.int (y.2.2:Nat)] from rfl];walk_at "go";refine⟨_,n2,Q6,uv y,by omega,t1,t2,by omega,?_⟩;rw[show D.tup [.str (jb x.1),.int (x.2.1:Nat),.int (x.2.2:Nat)]=d6 x from rfl,t3];exact⟨B2,_,_,G2,rfl⟩
 ·rintro ρ ⟨B,a,c,G,rfl⟩;rw[bx] at G;have g1:=G.len;have g2:=D2 links;have gl:∀p∈B,p.2.length<=3200:=fun p hp=>a9 (G.oZ hp) (by omega)
  have bs:∀F,nG B F<=3200*3201:=fun F=>a9 (Jz gl) (Nat.mul_le_mul (by omega) (by omega))
  have BJ:∀x y,y∈nc links x->x∈nc links y:=fun x y h=>gH.mpr (gH.mp h).symm
  have Qd:∀x y,y∈nc links x->(x,y)∈links\/(y,x)∈links:=fun x y h=>gH.mp h
  have kB:∀x y,y∈nc links x->y∈B.map (·.1):=fun x y h=>by
   have:(y,x)∈mK links:=kU.mpr (gH.mp h).symm;obtain⟨g,hg⟩:=G.all _ this;exact av.mpr ⟨_,hg,rfl⟩
  have gB:∀x∈B.map (·.1),∃g,(x,g)∈B/\g=nc links x:=fun x hx=>by
   obtain⟨p,hp,rfl⟩:=av.mp hx;exact⟨p.2,hp,G.is p hp⟩
  have lB:∀x∈B.map (·.1),iz (eo kk (fun g:List Sd=>D.lst (g.map d6)) B) (kk x)=some (.lst ((nc links x).map d6)):=fun x hx=>by
   rw[sx qC];obtain⟨g,hg,e⟩:=gB x hx;have:cz B x=some g:=by
    unfold cz;cases hf:B.find? fun p=>decide (p.1=x) with
    | none=>exact absurd (by simp) (List.find?_eq_none.mp hf _ hg)
    | some p=>
     have h1:=List.find?_some hf;have h2:=List.mem_of_find?_eq_some hf;rw[zj G.nd h2 hg (by simpa using h1)];rfl
   rw[this,e];rfl
  have eD:(OV.dt (e6 kk d6 B)).val=.dit (eo kk (fun g:List Sd=>D.lst (g.map d6)) B):=by
   show D.dit _=_;unfold e6 eo;rw[aE];rfl
  walk_at "go";walk_at "go";rw[eD];refine jG (B.map (·.1)) d6 (fun Q' h=>?_) (fun i ρ=>∃(F:List (Sd×Sd)) (s5 s6 s7:Sl),xw links (nc links) (cz F)/\(∀x∈(B.map (·.1)).take i,cz F x≠none)/\(F.map (·.1)).Nodup/\(∀p∈F,p.1∈B.map (·.1))/\
   ρ=[.fz (.lst (links.map lC)),.fz (.dit (eo kk (fun g:List Sd=>D.lst (g.map d6)) B)),a,c,.ov (.dq (eo kk d6 F)),s5,s6,s7]) ⟨[],_,_,_,fun x a h=>(by cases h),fun x hx=>by simp at hx,by simp,by simp,rfl⟩ ?_ ?_
  ·walk_at "px";unfold eo;rw[aE];have e:((fun p:List Key×D=>wW p.1)∘fun p:Sd×List Sd=>(kk p.1,D.lst (p.2.map d6)))=d6∘(fun p:Sd×List Sd=>p.1):=rfl;rw[e,<-aE];exact h
  ·rintro i first ρ hi ⟨F0,s5,s6,s7,C0,GJ,Pp,Bt,rfl⟩;have Qs:first∈B.map (·.1):=ax hi;walk_at "px";refine⟨by omega,?_⟩;walk_at "go";have nF:∀F:List (Sd×Sd),(F.map (·.1)).Nodup->(∀p∈F,p.1∈B.map (·.1))->F.length<=3200:=fun F nd nt=>by
    have:=Ar nd (ws:=B.map (·.1)) fun w hw=>by
     obtain⟨p,hp,rfl⟩:=av.mp hw;exact nt p hp
    rw[ae,ae] at this;omega
   refine⟨fun m ρ=>∃(F:List (Sd×Sd)) (wt:List Sd) (s7:Sl),m=nG B F+wt.length/\m<=3200*3201+1/\mI links (nc links) (cz F0) (cz F) first wt/\(F.map (·.1)).Nodup/\(∀p∈F,p.1∈B.map (·.1))/\(∀x∈wt,x∈B.map (·.1))/\
    ρ=[.fz (.lst (links.map lC)),.fz (.dit (eo kk (fun g:List Sd=>D.lst (g.map d6)) B)),a,c,.ov (.dq (eo kk d6 F)),.fz (d6 first),.ow (wt.map d6),s7],
    ⟨_,F0,[first],s7,rfl,by have:=bs F0;simp only[aI,List.length_nil];omega,mI.start,Pp,Bt,fun x hx=>by rw[aV.mp hx];exact Qs,rfl⟩,?_⟩
   rintro m ρ ⟨F,wt,s7,rfl,hm,D1,nd,nt,hw,rfl⟩;rcases List.eq_nil_or_concat wt with rfl | ⟨wr,x,rfl⟩
   ·walk_at "px";obtain⟨d1,d2,d3⟩:=D1.done BJ C0;refine⟨F,_,_,_,d1,fun x hx=>?_,nd,nt,rfl⟩;rw[bh,hi] at hx;rcases aD.mp hx with hx | hx
    ·exact d3 x (GJ x hx)
    ·have:x=first:=by simpa using hx
     rw[this];exact d2
   ·rw[List.concat_eq_append] at D1 hw hm ⊢;have By:x∈B.map (·.1):=hw x (by simp);have Gv:∀y∈wr,y∈B.map (·.1):=fun y hy=>hw y (aY _ hy)
    have lw:((wr++[x]).map d6).length=wr.length+1:=by simp
    have dl:((wr++[x]).map d6).dropLast=wr.map d6:=by rw[aA];simp
    have ls:((wr++[x]).map d6)[wr.length+1-1]?=some (d6 x):=by rw[aA];simp
    have lc:nG B F+(wr++[x]).length=nG B F+wr.length+1:=by simp;omega
    obtain⟨es,he,hk⟩:∃es,d6 x=.tup es/\iY es=some (kk x):=⟨_,rfl,uv x⟩
    walk_at "px";rw[lw,if_pos (by omega)];refine⟨_,ls,?_⟩;rw[dl,he];walk_at "go";refine⟨_,hk,?_⟩;show(if (!(iz (eo kk d6 F) (kk x)).isSome)=true then _ else _);rw[sx qC];cases hx:cz F x with
    | some y=>
     rw[if_neg (by simp)];refine⟨_,?_,F,wr,_,rfl,?_,D1.skip (by rw[hx];exact nofun),nd,nt,Gv,rfl⟩
     ·omega
     ·omega
    | none=>
     rw[if_pos (by simp)];walk_at "px";have hF:=nF F nd nt;have kq:(eo kk d6 F).length=F.length:=by unfold eo;simp
     refine⟨_,hk,by omega,?_⟩;rw[D7 qC x first hx];walk_at "go";refine⟨_,_,hk,lB x By,?_⟩;obtain⟨g,hg,rfl⟩:=gB x By;have tt:=FH (a:=first) hx G.nd hg;have b0:=bs F;refine⟨by simp only[ae];omega,?_⟩;refine⟨_,?_,F++[(x,first)],wr++nc links x,_,rfl,?_,?_,?_,?_,?_,by rw[aA]⟩
     ·simp only[aC] at *;omega
     ·simp only[aC] at *;omega
     ·have:=D1.take Qd hx;have e:(fun y=>if y=x then some first else cz F y)=cz (F++[(x,first)]):=funext fun y=>(uz x y first hx).symm
      rw[<-e];exact this
     ·rw[aA];refine List.nodup_append.mpr ⟨nd,by simp,fun a ha b hb z=>?_⟩;have iV:b=x:=by simpa using hb
      subst iV;subst z;obtain⟨p,hp,e⟩:=av.mp ha;unfold cz at hx;rw[Option.map_eq_none_iff,List.find?_eq_none] at hx;exact hx p hp (by simpa using e)
     ·intro p hp;rcases aD.mp hp with hp | hp
      ·exact nt p hp
      ·have:p=(x,first):=by simpa using hp
       rw[this];exact By
     ·intro y hy;rcases aD.mp hy with hy | hy
      ·exact Gv y hy
      ·exact kB x y hy
  ·rintro ρ ⟨F,s5,s6,s7,C,hk,nd,Px,rfl⟩;rw[bx] at hk;have hF:F.length<=3200:=by
    have:=Ar nd (ws:=B.map (·.1)) fun w hw=>by
     obtain⟨p,hp,rfl⟩:=av.mp hw;exact Px p hp
    rw[ae,ae] at this;omega
   have:=q F (fun a b=>MR C fun x y h=>⟨hk x (kB y x (gH.mpr (.inr h))),gH.mpr (.inl h)⟩) hF;simp only[rS,pz,gt];exact this
end Wc
namespace Wc
open PySem L2 PyProof.Rows
end Wc
open PySem L2 PyProof.Rows Wc
local macro_rules | `(tactic| walk_at "px")=>`(tactic| (repeat(first | walk_at "b" | simp only[tZ,um,qw,oe,ue,ud,sD])))
namespace Wc
open PySem L2 PyProof.Rows
theorem Ag{α:Type}{wi:iG}{m:List (Option Nat)}{g:iq}{te:TD}{ρ:Ev}{Q:R->Prop}(L:List α)(φ:α->D)(f:α->List D)(hw:∀Q':List D->Prop,Q' (L.map φ)->wi ρ Q')(hl:L.length<=sizeLine)
  (h:∀x∈L,∀(K1:List D->Prop),K1 (f x)->g (φ x) (eK m ρ) fun dX=>te dX fun r=>match r with | .ow es=>K1 es | _=>False) (q:Q (.ov (.ll (L.map f)))):pH wi m g ju te ρ Q:=by
 unfold pH;refine hw _ ⟨fun i acc=>acc=(L.take i).map f,by simp,fun i d acc hd ha=>?_,fun acc ha=>?_⟩
 ·subst ha;rw[ai] at hd;cases hx:L[i]? with
  | none=>rw[hx] at hd;cases hd
  | some x=>
   rw[hx] at hd;cases hd;have dz:i<L.length:=(ag.mp hx).1;have:=h x (ax hx) (fun es=>((L.take i).map f).length<sizeLine/\(L.take i).map f++[es]=(L.take (i+1)).map f) ⟨by simp;omega,by rw[bh,hx];simp⟩;exact this
 ·subst ha;simpa using q
def Gd(ends:List (Sd×b8))(links:List (Sd×Sd))(c9:List (List b8)):Prop:=∃(lab:Sd->Sd) (bL:List (Sd×List b8)),(∀a b,lab a=lab b↔Cn links a b)/\e8 (ends.map fun p=>(lab p.1,p.2)) bL/\c9=sG (bL.map fun p=>sE p.2)
def uV:ei:=fun ds Q=>∃(ends:List (Sd×b8)) (links:List (Sd×Sd)),ds=[.lst (ends.map n6),.lst (links.map lC)]/\links.length<=1600/\ends.length<64/\(ends.map (·.2)).Nodup/\∀c9,Gd ends links c9->Q (.ov (.ll (c9.map fun g=>g.map dA)))
def Af:TX:=(cq (eM 2 (eE 1 uP (bM (bK 1) bU)))
 (cq (jB 3 qw)
 (cq (gN (jA (bK 0)) (jv 2 (eZ (cX 4) (eZ (cX 5) ib))) (oe 3 (ue (bK 2) (bK 4) (bK 4)) (bK 5)))
 (tU 3 (gr (sD (pH (ud (bK 3)) [none] (cX 0) ju (eC zB (bM (bK 0) bU)))))))))
theorem Nq(ds:List D)(Qr:R->Prop)(hl:ds.length=2)(h:uV ds Qr):Af { nx:=fun _=>Qr (.fz .non),rt:=Qr } (fQ ["ends","links","firsts","groups","strand","end"] ds):=by
 obtain⟨ends,links,rfl,GG,hle,nd,q⟩:=h;show Af _ [.fz (.lst (ends.map n6)),.fz (.lst (links.map lC)),.un,.un,.un,.un];unfold Af;have big:=fV;walk_at "px";refine⟨links,rfl,GG,fun F hF _=>?_⟩;walk_at "go";walk_at "go";have qX:∀k,(((ends.take k).map fun p:Sd×b8=>(((cz F p.1).getD p.1,p.2):Sd×b8))).length<=64:=fun k=>by
  rw[ae,bH];omega
 refine jG ends n6 (fun Q' h=>?_) (fun i ρ=>∃(B:List (Sd×List b8)) (a c:Sl),e8 ((ends.take i).map fun p=>((cz F p.1).getD p.1,p.2)) B/\ρ=[.fz (.lst (ends.map n6)),.fz (.lst (links.map lC)),.fz (.dit (eo kk d6 F)),.ov (.dt (e6 kk dA B)),a,c]) ⟨[],_,_,by simpa using e8.nil,rfl⟩ ?_ ?_
 ·walk_at "px";exact h
 ·rintro i ⟨x,en⟩ ρ hi ⟨B,a,c,G,rfl⟩;obtain⟨n1,wD,B1,s1,s2,s3,G1,s4⟩:=xR (dv:=dA) qC G ((cz F x).getD x) en;have g1:=G.len;have g2:=qX i;have k1:(e6 kk dA B).length=B.length:=by unfold e6;simp
  obtain⟨es,he,hk⟩:∃es,d6 x=.tup es/\iY es=some (kk x):=⟨_,rfl,uv x⟩
  have e1:((iz (eo kk d6 F) (kk x)).getD (.tup es))=d6 ((cz F x).getD x):=by
   rw[sx qC,<-he];cases cz F x<;>rfl
  obtain⟨rH,B8,rp⟩:∃rH,d6 ((cz F x).getD x)=.tup rH/\iY rH=some (kk ((cz F x).getD x)):=⟨_,rfl,uv _⟩
  have tk:(ends.take (i+1)).map (fun p=>((cz F p.1).getD p.1,p.2))=(ends.take i).map (fun p=>((cz F p.1).getD p.1,p.2))++[((cz F x).getD x,en)]:=by
   rw[bh,hi,aA];rfl
  rw[<-tk] at G1;rw[show n6 (x,en)=.tup [d6 x,dA en] from rfl,he];walk_at "px";refine⟨_,hk,?_⟩;rw[e1,B8];walk_at "px";refine⟨_,n1,wD,rp,by omega,s1,s2,by omega,?_⟩;rw[s3];exact⟨B1,_,_,G1,rfl⟩
 ·rintro ρ ⟨B,a,c,G,rfl⟩;rw[bx] at G;have g1:=G.len;rw[ae] at g1;have iU:((ends.map fun p=>((cz F p.1).getD p.1,p.2)).map (·.2)).Nodup:=by
   rw[aE];exact nd
  have eD:(OV.dt (e6 kk dA B)).val=.dit (eo kk (fun g:List b8=>D.lst (g.map dA)) B):=by
   show D.dit _=_;unfold e6 eo;rw[aE];rfl
  walk_at "go";rw[eD];refine Ag B (fun p=>D.lst (p.2.map dA)) (fun p=>(sE p.2).map dA) (fun Q' h=>?_) (by omega) (fun p hp K1 k1=>?_) ?_
  ·walk_at "px";unfold eo;rw[aE];exact h
  ·walk_at "px";have:=G.oZ hp;rw[ae] at this;refine⟨p.2,rfl,by omega,fun lT h1 h2=>?_⟩;rw[Dh h1 h2];exact k1
  ·refine⟨B.map fun p=>sE p.2,by rw[aE];rfl,by rw[ae];omega,fun g hg=>?_,G.mr iU,fun hJ h1 h2=>?_⟩
   ·obtain⟨p,hp,rfl⟩:=av.mp hg;exact fun z=>G.ne hp (List.perm_nil.mp ((pM p.2).symm.trans (List.Perm.of_eq z)))
   ·rw[Df (G.mr iU) h1 h2];exact q _ ⟨_,B,hF,G,rfl⟩
end Wc
namespace Wc
open PySem L2 PyProof.Rows
end Wc
open PySem L2 PyProof.Rows Wc
local macro_rules | `(tactic| walk_at "px")=>`(tactic| (repeat(first | walk_at "b" | simp only[xy,rT])))
namespace Wc
open PySem L2 PyProof.Rows
noncomputable def endsF(rows:List (List Nat)):List (Sd×b8):=pF false "left" "right" rows++pF true "top" "bottom" (gA rows)
structure CJ (rows:List (List Nat)) (t:Str):Prop where
 ne:rows≠[]
 rb:RB rows
 wF:g9 rows=true
 txt:Txt.split t "\n"=rows.map cO
 len:t.length<10000
 QL:rows.length<=40
 OL:wd rows<=40
 wz:(endsF rows).length<64
 nd:((endsF rows).map (·.2)).Nodup
def sL:ei:=fun ds Q=>∃(t:Str) (rows:List (List Nat)),ds=[.str t]/\CJ rows t/\∀c9,Gd (endsF rows) (pK rows) c9->Q (.ov (.ll (c9.map fun g=>g.map dA)))
theorem ET{rows:List (List Nat)}(h:g9 rows=true):oo rows=true/\pL rows=true/\rows.all (lK 45 fM)=true/\(gA rows).all (lK 124 fZ)=true:=by
 unfold g9 at h;simp only[Bool.and_eq_true] at h;exact⟨h.1.1.1,h.1.1.2,h.1.2,h.2⟩
theorem Dy{rows:List (List Nat)}(h:oo rows=true):3<=wd rows/\∀l∈rows,l.length=wd rows:=by
 unfold oo at h;simp only[Bool.and_eq_true,aW,bI] at h;exact⟨h.1.2,h.2⟩
theorem Js{rows:List (List Nat)}{t:Str}(W:CJ rows t):qp rows:=⟨W.rb,W.ne,(Dy (ET W.wF).1).2⟩
def z5:TX:=(cq (eM 1 (dM "str" xy (bK 0) (bM (dC (.str "\n")) bU)))
 (cq (eU (mL (cQ (eE 1 u4 (bM (bK 1) bU)))) DK eX)
 (cq (eM 2 (eE 1 sM (bM (bK 1) bU)))
 (cq (eM 3 (eE 2 sN (bM (bK 1) (bM (dC (.str "-")) bU))))
 (cq (eM 4 (eE 2 sN (bM (bK 2) (bM (dC (.str "|")) bU))))
 (cq (jB 5 (eE 4 sP (bM (bK 1) (bM (bK 3) (bM (dC (.str "-")) (bM (dN (bM (dC (.str "left")) (bM (dC (.str "right")) bU))) bU))))))
 (cq (rT 5 (eE 4 sP (bM (bK 2) (bM (bK 4) (bM (dC (.str "|")) (bM (dN (bM (dC (.str "top")) (bM (dC (.str "bottom")) bU))) bU))))))
 (tU 5 (gr (eE 2 uV (bM (bK 5) (bM (eE 3 uQ (bM (bK 1) (bM (bK 3) (bM (bK 4) bU)))) bU))))))))))))
theorem Na(ds:List D)(Qr:R->Prop)(hl:ds.length=1)(h:sL ds Qr):z5 { nx:=fun _=>Qr (.fz .non),rt:=Qr } (fQ ["text","rows","columns","stretches","uprights","ends"] ds):=by
 obtain⟨t,rows,rfl,W,q⟩:=h;show z5 _ [.fz (.str t),.un,.un,.un,.un,.un];unfold z5;have big:=fV;have hlen:=W.len;walk_at "px";have eR:D.lst ((rows.map cO).map D.str)=gu rows:=by rw[aE];rfl
 have rw_:=Js W;have rc:=D5 rw_;have wl:=W.OL;have RK:=W.QL;have cl:(gA rows).length=wd rows:=by unfold gA;simp
 have l1:∀b s0 s1 (ls:List (List Nat)),(pF b s0 s1 ls).length<=ls.length*2:=fun b s0 s1 ls=>by
  have:=sC (D3 b s0 s1) ls.zipIdx;rw[List.length_zipIdx] at this;exact this
 have l2:(pK rows).length<=1600:=by
  have:=Ah (f:=lW rows) (k:=40) (l:=rows.zipIdx) fun a ha=>by
   refine a9 zL ?_;have:=List.mem_zipIdx ha;rw[this.2.2,rw_.w _ (bg _)];exact wl
  rw[List.length_zipIdx] at this;refine a9 this ?_;omega
 refine⟨rfl,by decide,by omega,?_⟩;rw[W.txt,eR];walk_at "go";refine⟨rows,rfl,W.ne,W.rb,?_⟩;rw[W.wF];walk_at "go";refine⟨rows,rfl,rw_,?_⟩;walk_at "go";refine⟨rows,false,rfl,W.rb,?_⟩;walk_at "go";refine⟨gA rows,true,rfl,rc,?_⟩;walk_at "go";refine⟨by omega,?_⟩;refine⟨rows,false,"left","right",rfl,W.rb,fun l hl=>by rw[rw_.w l hl];have:=(Dy (ET W.wF).1).1;omega,?_⟩;walk_at "go";refine⟨by omega,?_⟩;refine⟨gA rows,true,"top","bottom",rfl,rc,fun l hl=>?_,?_⟩
 ·unfold gA eT at hl;obtain⟨k,hk,rfl⟩:=av.mp hl;rw[ae];exact List.length_pos_iff.mpr W.ne
 have k1:=l1 false "left" "right" rows;have k2:=l1 true "top" "bottom" (gA rows);refine⟨by simp only[ae];omega,?_⟩;walk_at "go";rw[<-aA];refine⟨rows,rfl,rw_,?_⟩;walk_at "px";exact⟨endsF rows,pK rows,rfl,l2,W.wz,W.nd,q⟩
end Wc
namespace Wc
open PySem L2 PyProof.Rows
noncomputable def gv(rows:List (List Nat))(r s:Nat):Nat:=(rows.getD r []).getD s 0
def rP(R S:Nat)(g:Nat->Nat->Nat)(r s:Nat):Prop:=
 (r%2=1->s%2=1->g r s∈[32,45,124,43,35])/\(r%2=0->s%2=0->g r s=32)/\
 (r%2=1->s%2=0->g r s=32\/g r s=45/\(0<s->fM (g r (s-1))=true)/\(s+1<S->fM (g r (s+1))=true))/\
 (r%2=0->s%2=1->g r s=32\/g r s=124/\(0<r->fZ (g (r-1) s)=true)/\(r+1<R->fZ (g (r+1) s)=true))
structure eV (R S:Nat) (rows:List (List Nat)):Prop where
 len:rows.length=R
 dY:∀l∈rows,l.length=S
 ok:∀r s,r<R->s<S->rP R S (gv rows) r s
structure jZ (R S:Nat) (rows:List (List Nat)):Prop where
 len:rows.length=R
 dY:∀l∈rows,l.length=S
 ok:∀r s,r<R->s<S->gv rows r s∈[32,45,124,43,35]/\(¬(r%2=1/\s%2=1)->gv rows r s=32)
section
variable {R S:Nat} {rows:List (List Nat)}
theorem jZ.Pa(P:jZ R S rows):eV R S rows:=⟨P.len,P.dY,fun r s hr hs=>by
 obtain⟨h1,h2⟩:=P.ok r s hr hs
 exact⟨fun _ _=>h1,fun a b=>h2 (by omega),fun a b=>.inl (h2 (by omega)),fun a b=>.inl (h2 (by omega))⟩⟩
noncomputable def ke(rows:List (List Nat))(r s c:Nat):List (List Nat):=rows.set r ((rows.getD r []).set s c)
theorem Dx(hl:rows.length=R)(hw:∀l∈rows,l.length=S){r s c:Nat}(hr:r<R)(hs:s<S)(r' s':Nat):gv (ke rows r s c) r' s'=if r'=r/\s'=s then c else gv rows r' s':=by
 unfold gv ke;have il:r<rows.length:=by omega
 have hm:rows.getD r []∈rows:=by
  rw[af,ab il,aX];exact bg _
 have yy:s<(rows.getD r []).length:=by rw[hw _ hm];exact hs
 by_cases h1:r'=r
 ·subst h1;rw[af (l:=rows.set _ _),List.getElem?_set_self il,aX];by_cases h2:s'=s
  ·subst h2;rw[if_pos ⟨rfl,rfl⟩,af,List.getElem?_set_self yy,aX]
  ·rw[if_neg (fun z=>h2 z.2),af,List.getElem?_set_ne (Ne.symm h2),<-af]
 ·rw[if_neg (fun z=>h1 z.1),af (l:=rows.set _ _),List.getElem?_set_ne (Ne.symm h1),<-af]
theorem DZ(hl:rows.length=R)(hw:∀l∈rows,l.length=S){r s c:Nat}(hr:r<R):(ke rows r s c).length=R/\∀l∈ke rows r s c,l.length=S:=by
 unfold ke;have il:r<rows.length:=by omega
 have hm:rows.getD r []∈rows:=by
  rw[af,ab il,aX];exact bg _
 refine⟨by rw[List.length_set];exact hl,fun l h=>?_⟩;rcases List.mem_or_eq_of_mem_set h with h | rfl
 ·exact hw l h
 ·rw[List.length_set];exact hw _ hm
theorem jZ.set(P:jZ R S rows){r s c:Nat}(hr:r<R)(hs:s<S)(o1:r%2=1)(o2:s%2=1)(hc:c∈[32,45,124,43,35]):jZ R S (ke rows r s c):=by
 obtain⟨w1,w2⟩:=DZ (s:=s) (c:=c) P.len P.dY hr;refine⟨w1,w2,fun r' s' kb oP=>?_⟩;rw[Dx P.len P.dY hr hs];obtain⟨h1,h2⟩:=P.ok r' s' kb oP;by_cases h:r'=r/\s'=s
 ·rw[if_pos h];exact⟨hc,fun z=>absurd ⟨by omega,by omega⟩ z⟩
 ·rw[if_neg h];exact⟨h1,h2⟩
theorem eV.set(P:eV R S rows){r s c:Nat}(hr:r<R)(hs:s<S)(od:(r+s)%2=1)
  (hc:c=32\/(r%2=1/\c=45/\(0<s->fM (gv rows r (s-1))=true)/\(s+1<S->fM (gv rows r (s+1))=true))\/(r%2=0/\c=124/\(0<r->fZ (gv rows (r-1) s)=true)/\(r+1<R->fZ (gv rows (r+1) s)=true))):eV R S (ke rows r s c):=by
 obtain⟨w1,w2⟩:=DZ (s:=s) (c:=c) P.len P.dY hr;have hg:=fun r' s'=>Dx (c:=c) P.len P.dY hr hs r' s'
 refine⟨w1,w2,fun r' s' kb oP=>?_⟩;obtain⟨h1,h2,h3,h4⟩:=P.ok r' s' kb oP;have ne:∀a b,(a+b)%2=0->gv (ke rows r s c) a b=gv rows a b:=fun a b e=>by
  rw[hg,if_neg (by omega)]
 refine⟨fun a b=>?_,fun a b=>?_,fun a b=>?_,fun a b=>?_⟩
 ·rw[ne _ _ (by omega)];exact h1 a b
 ·rw[ne _ _ (by omega)];exact h2 a b
 ·have n1:0<s'->gv (ke rows r s c) r' (s'-1)=gv rows r' (s'-1):=fun z=>ne _ _ (by omega)
  have n2:gv (ke rows r s c) r' (s'+1)=gv rows r' (s'+1):=ne _ _ (by omega);by_cases h:r'=r/\s'=s
  ·obtain⟨rfl,rfl⟩:=h;rw[hg,if_pos ⟨rfl,rfl⟩,n2];rcases hc with hc | hc | hc
   ·exact .inl hc
   ·exact .inr ⟨hc.2.1,fun z=>by rw[n1 z];exact hc.2.2.1 z,hc.2.2.2⟩
   ·omega
  ·rw[hg r' s',if_neg h,n2];rcases h3 a b with z | z
   ·exact .inl z
   ·exact .inr ⟨z.1,fun y=>by rw[n1 y];exact z.2.1 y,z.2.2⟩
 ·have n1:0<r'->gv (ke rows r s c) (r'-1) s'=gv rows (r'-1) s':=fun z=>ne _ _ (by omega)
  have n2:gv (ke rows r s c) (r'+1) s'=gv rows (r'+1) s':=ne _ _ (by omega);by_cases h:r'=r/\s'=s
  ·obtain⟨rfl,rfl⟩:=h;rw[hg,if_pos ⟨rfl,rfl⟩,n2];rcases hc with hc | hc | hc
   ·exact .inl hc
   ·omega
   ·exact .inr ⟨hc.2.1,fun z=>by rw[n1 z];exact hc.2.2.1 z,hc.2.2.2⟩
  ·rw[hg r' s',if_neg h,n2];rcases h4 a b with z | z
   ·exact .inl z
   ·exact .inr ⟨z.1,fun y=>by rw[n1 y];exact z.2.1 y,z.2.2⟩
theorem eV.sg(P:eV R S rows){r s:Nat}(hr:r<R)(hs:s<S):gv rows r s∈[32,45,124,43,35]:=by
 obtain⟨h1,h2,h3,h4⟩:=P.ok r s hr hs;have c1:r%2=0\/r%2=1:=by omega
 have c2:s%2=0\/s%2=1:=by omega
 rcases c1 with c1 | c1<;>rcases c2 with c2 | c2
 ·rw[h2 c1 c2];simp
 ·rcases h4 c1 c2 with z | z
  ·rw[z];simp
  ·rw[z.1];simp
 ·rcases h3 c1 c2 with z | z
  ·rw[z];simp
  ·rw[z.1];simp
 ·exact h1 c1 c2
theorem mh(hl:rows.length=R)(hw:∀l∈rows,l.length=S){r s:Nat}{l:List Nat}(h:rows[r]?=some l)(hs:s<S):l[s]?=some (gv rows r s):=by
 have hr:=(ag.mp h).1;have hm:l∈rows:=ax h;unfold gv;rw[af (l:=rows),h,aX,af,ab (by rw[hw l hm];exact hs)];rfl
theorem eV.wd(P:eV R S rows)(hR:0<R):wd rows=S:=by
 unfold Wc.wd;cases rows with
 | nil=>have:=P.len;simp at this;omega
 | cons a r=>exact P.dY a aH
theorem eV.ne(P:eV R S rows)(hR:0<R):rows≠[]:=fun z=>by have:=P.len;rw[z] at this;simp at this;omega
theorem eV.rb(P:eV R S rows)(hR:R<=100)(hS:S<=100):RB rows:=by
 refine⟨by rw[P.len];exact hR,fun l hl=>by rw[P.dY l hl];exact hS,fun l hl c hc=>?_⟩;obtain⟨r,hr⟩:=aN hl;obtain⟨s,hs⟩:=aN hc;have yy:s<S:=by rw[<-P.dY l hl];exact(ag.mp hs).1
 have il:r<R:=by rw[<-P.len];exact(ag.mp hr).1
 rw[mh P.len P.dY hr yy] at hs;have:=P.sg il yy;rw[aQ hs] at this;revert this
 simp only[f7,ar,List.not_mem_nil,or_false];omega
end
end Wc
namespace Wc
open PySem L2 PyProof.Rows
theorem MQ{l:List Nat}{k c:Nat}(h:c∈kO l k):∃i,k-1<=i/\i<k+2/\l[i]?=some c:=by
 unfold kO at h;obtain⟨i,hi⟩:=aN h;rw[List.getElem?_take] at hi;split at hi
 ·rw[List.getElem?_drop] at hi;exact⟨k-1+i,by omega,by omega,hi⟩
 ·cases hi
theorem Ft{m:Nat}{p:Nat->Bool}{l:List Nat}(h:∀j,l[2*j]?=some m->∀i c,2*j-1<=i->i<2*j+2->l[i]?=some c->p c=true):lK m p l=true:=by
 unfold lK;rw[bI];intro j hj;rw[Bool.or_eq_true];by_cases e:l[2*j]?=some m
 ·right
  rw[bI];intro c hc;obtain⟨i,h1,h2,h3⟩:=MQ hc;exact h j e i c h1 h2 h3
 ·left
  simp[e]
section
variable {R S:Nat} {rows:List (List Nat)}
theorem Dw(hl:rows.length=R){k i:Nat}{c:Nat}(h:(eT rows k)[i]?=some c):i<R/\c=gv rows i k:=by
 unfold eT at h;rw[ai] at h;obtain⟨l,h1,h2⟩:=aK.mp h;refine⟨by rw[<-hl];exact(ag.mp h1).1,?_⟩;unfold gv;rw[af (l:=rows),h1,aX];exact h2.symm
theorem xE(hl:rows.length=R)(hw:∀l∈rows,l.length=S){r i:Nat}{l:List Nat}{c:Nat}(hr:rows[r]?=some l)(h:l[i]?=some c):r<R/\i<S/\c=gv rows r i:=by
 have h1:=(ag.mp h).1;rw[hw l (ax hr)] at h1;refine⟨by rw[<-hl];exact(ag.mp hr).1,h1,?_⟩;have:=mh hl hw hr h1;rw[h] at this;exact aQ this
theorem eV.Pk(P:eV R S rows){r s:Nat}(hr:r<R)(hs:s<S):jP r s (gv rows r s)=true:=by
 obtain⟨h1,h2,h3,h4⟩:=P.ok r s hr hs;have c1:r%2=0\/r%2=1:=by omega
 have c2:s%2=0\/s%2=1:=by omega
 unfold jP;rcases c1 with c1 | c1<;>rcases c2 with c2 | c2
 ·simp[h2 c1 c2]
 ·rcases h4 c1 c2 with z | z
  ·simp[z]
  ·simp[z.1,c2]
 ·rcases h3 c1 c2 with z | z
  ·simp[z]
  ·simp[z.1,c1]
 ·have:=h1 c1 c2;simp only[ar,List.not_mem_nil,or_false] at this;rcases this with z | z | z | z | z<;>simp[z,c1,c2]
theorem eV.wF(P:eV R S rows)(hR:R%2=1)(hS:S%2=1)(h3:3<=S):g9 rows=true:=by
 have hw:=P.wd (by omega);unfold g9;simp only[Bool.and_eq_true];refine⟨⟨⟨?_,?_⟩,?_⟩,?_⟩
 ·unfold oo;simp only[Bool.and_eq_true,aW,bI];exact⟨⟨⟨by rw[P.len];exact hR,by rw[hw];exact hS⟩,by rw[hw];exact h3⟩,fun l hl=>by rw[hw];exact P.dY l hl⟩
 ·unfold pL;rw[bI];rintro⟨l,r⟩ hp;rw[bI];rintro⟨c,s⟩ hq;have e1:rows[r]?=some l:=by
   have:=List.mem_zipIdx_iff_getElem?.mp hp;simpa using this
  have e2:l[s]?=some c:=by
   have:=List.mem_zipIdx_iff_getElem?.mp hq;simpa using this
  obtain⟨hr,hs,rfl⟩:=xE P.len P.dY e1 e2;exact P.Pk hr hs
 ·rw[bI];intro l hl;obtain⟨r,hr⟩:=aN hl;refine Ft fun j hj i c h1 h2 h4=>?_
  obtain⟨il,Qn,e⟩:=xE P.len P.dY hr hj;obtain⟨_,B4,rfl⟩:=xE P.len P.dY hr h4;obtain⟨_,k2,k3,_⟩:=P.ok r (2*j) il Qn;have c1:r%2=0\/r%2=1:=by omega
  rcases c1 with c1 | c1
  ·rw[k2 c1 (by omega)] at e;omega
  ·rcases k3 c1 (by omega) with z | z
   ·omega
   ·have hi:i=2*j-1/\0<2*j\/i=2*j\/i=2*j+1:=by omega
    rcases hi with hi | hi | hi
    ·rw[hi.1];exact z.2.1 hi.2
    ·rw[hi,z.1];decide
    ·rw[hi];exact z.2.2 (by omega)
 ·rw[bI];intro l hl;unfold gA at hl;obtain⟨k,hk,rfl⟩:=av.mp hl;have tj:k<S:=by rw[hw] at hk;simpa using hk
  refine Ft fun j hj i c h1 h2 h4=>?_
  obtain⟨Qo,e⟩:=Dw P.len hj;obtain⟨RM,rfl⟩:=Dw P.len h4;obtain⟨_,k2,_,k4⟩:=P.ok (2*j) k Qo tj;have c1:k%2=0\/k%2=1:=by omega
  rcases c1 with c1 | c1
  ·rw[k2 (by omega) c1] at e;omega
  ·rcases k4 (by omega) c1 with z | z
   ·omega
   ·have hi:i=2*j-1/\0<2*j\/i=2*j\/i=2*j+1:=by omega
    rcases hi with hi | hi | hi
    ·rw[hi.1];exact z.2.1 hi.2
    ·rw[hi,z.1];decide
    ·rw[hi];exact z.2.2 (by omega)
theorem eV.link(P:eV R S rows):Dj R S (gv rows) (pK rows):=by
 intro p;unfold pK;rw[List.mem_flatMap];have wg:∀k,(fun r=>eA true (eT rows k) r)=fun r=>eA true (eT rows k) r:=fun _=>rfl
 have hH:∀r l,rows[r]?=some l->∀s,s<S->eA false l s=oM (gv rows) r s:=fun r l hr s hs=>by
  unfold eA oM;have:=mh P.len P.dY hr hs;rw[af,this];rfl
 have hV:∀s r,r<R->eA true (eT rows s) r=oA (gv rows) s r:=fun s r hr=>by
  have il:r<rows.length:=by rw[P.len];exact hr
  unfold eA oA eT gv;rw[af,ai,ab il,af (l:=rows),ab il];rfl
 have yK:∀(a b:Nat->Bool) n,(∀i,i<n->a i=b i)->fh a n=fh b n:=fun a b n=>by
  induction n with
  | zero=>intro _;rfl
  | succ n ih=>
   intro h;show(if a n=true then fh a n else n+1)=if b n=true then fh b n else n+1
   rw[h n (Nat.lt_succ_self n),ih fun i hi=>h i (Nat.lt_succ_of_lt hi)]
 constructor
 ·rintro⟨⟨l,r⟩,hq,hp⟩;have e1:rows[r]?=some l:=by simpa using List.mem_zipIdx_iff_getElem?.mp hq
  unfold lW at hp;obtain⟨⟨c,s⟩,hz,rfl⟩:=av.mp hp;obtain⟨hz,k9⟩:=ba.mp hz;have e2:l[s]?=some c:=by simpa using List.mem_zipIdx_iff_getElem?.mp hz
  obtain⟨hr,hs,e3⟩:=xE P.len P.dY e1 e2;have k9:c=43:=by simpa using k9
  refine⟨r,s,hr,hs,by rw[<-e3];exact k9,?_⟩;unfold pq pf;rw[yK (eA false l) (oM (gv rows) r) s fun i hi=>hH r l e1 i (by omega),yK (eA true (eT rows s)) (oA (gv rows) s) r fun i hi=>hV s i (by omega)]
 ·rintro⟨r,s,hr,hs,k9,rfl⟩;have il:r<rows.length:=by rw[P.len];exact hr
  have e1:rows[r]?=some rows[r]:=ab il;refine⟨(rows[r],r),List.mem_zipIdx_iff_getElem?.mpr (by simpa using e1),?_⟩;unfold lW;refine av.mpr ⟨(43,s),ba.mpr ⟨List.mem_zipIdx_iff_getElem?.mpr ?_,by simp⟩,?_⟩
  ·have:=mh P.len P.dY e1 hs;rw[k9] at this;simpa using this
  ·unfold pq pf;rw[yK (eA false rows[r]) (oM (gv rows) r) s fun i hi=>hH r _ e1 i (by omega),yK (eA true (eT rows s)) (oA (gv rows) s) r fun i hi=>hV s i (by omega)]
end
end Wc
namespace Wc
open PySem L2 PyProof.Rows
noncomputable def dn{α:Type}(b:Prop)[Decidable b](x:α):List α:=if b then [x] else []
noncomputable def jQ(R S:Nat)(g:Nat->Nat->Nat):List (N3×b8):=(List.range (R/2)).flatMap fun k=>dn (g (2*k+1) 0=45) (((2*k+1,0,0),("left",((k:Nat):Int))):N3×b8)++dn (g (2*k+1) (S-1)=45) (((2*k+1,S-1,0),("right",((k:Nat):Int))):N3×b8)
noncomputable def iB(R S:Nat)(g:Nat->Nat->Nat):List (N3×b8):=(List.range (S/2)).flatMap fun k=>dn (g 0 (2*k+1)=124) (((0,2*k+1,1),("top",((k:Nat):Int))):N3×b8)++dn (g (R-1) (2*k+1)=124) (((R-1,2*k+1,1),("bottom",((k:Nat):Int))):N3×b8)
theorem FG{α:Type}(d:α)(l:List α):l.zipIdx=(List.range l.length).map fun i=>(l.getD i d,i):=by
 apply List.ext_getElem?;intro i;rw[List.getElem?_zipIdx,ai];by_cases h:i<l.length
 ·rw[List.getElem?_range h,ab h];simp[h]
 ·rw[List.getElem?_eq_none (by omega),List.getElem?_eq_none (by simpa using h)];rfl
theorem z4{β:Type}(f:Nat->List β)(h:∀k,f (2*k)=[]):∀m,(List.range (2*m+1)).flatMap f=(List.range m).flatMap fun k=>f (2*k+1)
 | 0=>by
  have:=h 0;simp[List.range_succ,this]
 | m+1=>by
  rw[show 2*(m+1)+1=2*m+1+1+1 by omega,List.range_succ,List.range_succ (n:=2*m+1),List.range_succ (n:=m),bB,bB,bB,z4 f h m];have:=h (m+1);rw[show 2*(m+1)=2*m+1+1 by omega] at this;simp[this]
theorem uG{α β:Type}{f g:α->List β}:∀{l:List α},(∀a∈l,f a=g a)->l.flatMap f=l.flatMap g
 | [],_=>rfl
 | a::l,h=>by
  rw[List.flatMap_cons,List.flatMap_cons,h a aH,uG fun b hb=>h b (au _ hb)]
theorem zg{α β:Type}(s0 s1:Str)(hs:s0≠s1)(a b:Nat->Prop)[∀k,Decidable (a k)][∀k,Decidable (b k)](x y:Nat->α):∀n,(((List.range n).flatMap fun k=>dn (a k) (x k,(s0,((k:Nat):Int)))++dn (b k) (y k,(s1,((k:Nat):Int)))).map (·.2)).Nodup/\
  ∀e∈((List.range n).flatMap fun k=>dn (a k) (x k,(s0,((k:Nat):Int)))++dn (b k) (y k,(s1,((k:Nat):Int)))).map (·.2),(e.1=s0\/e.1=s1)/\e.2<(n:Int)
 | 0=>by simp
 | n+1=>by
  obtain⟨h1,h2⟩:=zg (β:=β) s0 s1 hs a b x y n;have new:∀e∈(dn (a n) (x n,(s0,((n:Nat):Int)))++dn (b n) (y n,(s1,((n:Nat):Int)))).map (·.2),(e.1=s0\/e.1=s1)/\e.2=(n:Int):=fun e he=>by
   unfold dn at he;split at he<;>split at he<;>simp at he
   ·rcases he with rfl | rfl
    ·exact⟨.inl rfl,rfl⟩
    ·exact⟨.inr rfl,rfl⟩
   ·subst he;exact⟨.inl rfl,rfl⟩
   ·subst he;exact⟨.inr rfl,rfl⟩
  rw[List.range_succ,bB,aA];refine⟨List.nodup_append.mpr ⟨h1,?_,fun e he e' yF z=>?_⟩,fun e he=>?_⟩
  ·simp only[List.flatMap_cons,List.flatMap_nil,aZ];unfold dn;split<;>split<;>simp[hs]
  ·simp only[List.flatMap_cons,List.flatMap_nil,aZ] at yF;have:=(h2 e he).2;have:=(new e' yF).2;rw[z] at *;omega
  ·rcases aD.mp he with he | he
   ·have:=h2 e he;exact⟨this.1,by omega⟩
   ·simp only[List.flatMap_cons,List.flatMap_nil,aZ] at he;have:=new e he;exact⟨this.1,by omega⟩
theorem uI{α:Type}(a b:Nat->Prop)[∀k,Decidable (a k)][∀k,Decidable (b k)](x y:Nat->α)(n:Nat):((List.range n).flatMap fun k=>dn (a k) (x k)++dn (b k) (y k)).length<=n*2:=by
 have:=sC (f:=fun k=>dn (a k) (x k)++dn (b k) (y k)) (k:=2) (fun k=>by unfold dn;split<;>split<;>simp) (List.range n);simpa using this
section
variable {R S:Nat} {rows:List (List Nat)} {g:Nat->Nat->Nat}
theorem zK:((jQ R S g++iB R S g).map (·.2)).Nodup:=by
 rw[aA];have h1:=zg (α:=N3) (β:=Nat) "left" "right" (by decide +kernel) (fun k=>g (2*k+1) 0=45) (fun k=>g (2*k+1) (S-1)=45) (fun k=>(2*k+1,0,0)) (fun k=>(2*k+1,S-1,0)) (R/2);have h2:=zg (α:=N3) (β:=Nat) "top" "bottom" (by decide +kernel) (fun k=>g 0 (2*k+1)=124) (fun k=>g (R-1) (2*k+1)=124) (fun k=>(0,2*k+1,1)) (fun k=>(R-1,2*k+1,1)) (S/2);refine List.nodup_append.mpr ⟨h1.1,h2.1,fun e he e' yF z=>?_⟩;subst z;rcases(h1.2 e he).1 with a | a<;>rcases(h2.2 e yF).1 with b | b<;>(rw[a] at b;exact absurd b (by decide +kernel))
theorem Fs(h:R/2*2+S/2*2<64):(jQ R S g++iB R S g).length<64:=by
 have h1:=uI (fun k=>g (2*k+1) 0=45) (fun k=>g (2*k+1) (S-1)=45) (fun k=>(((2*k+1,0,0),("left",((k:Nat):Int))):N3×b8)) (fun k=>((2*k+1,S-1,0),("right",((k:Nat):Int)))) (R/2);have h2:=uI (fun k=>g 0 (2*k+1)=124) (fun k=>g (R-1) (2*k+1)=124) (fun k=>(((0,2*k+1,1),("top",((k:Nat):Int))):N3×b8)) (fun k=>((R-1,2*k+1,1),("bottom",((k:Nat):Int)))) (S/2);rw[aC];unfold jQ iB;omega
theorem uu{α:Type}{b:Prop}[Decidable b]{x y:α}(h:x∈dn b y):b/\x=y:=by
 unfold dn at h;split at h
 ·exact⟨by assumption,by simpa using h⟩
 ·cases h
theorem Jy(hR:R%2=1)(hS:S%2=1):∀q∈jQ R S g++iB R S g,yM R S g q.1:=fun q hq=>by
 rcases aD.mp hq with hq | hq
 ·unfold jQ at hq;obtain⟨k,hk,hq⟩:=List.mem_flatMap.mp hq;have hk:k<R/2:=by simpa using hk
  rcases aD.mp hq with hq | hq
  ·obtain⟨e,rfl⟩:=uu hq;exact⟨by show 2*k+1<R;omega,by show 0<S;omega,.inl ⟨rfl,by show fM (g (2*k+1) 0)=true;rw[e];decide⟩⟩
  ·obtain⟨e,rfl⟩:=uu hq;exact⟨by show 2*k+1<R;omega,by show S-1<S;omega,.inl ⟨rfl,by show fM (g (2*k+1) (S-1))=true;rw[e];decide⟩⟩
 ·unfold iB at hq;obtain⟨k,hk,hq⟩:=List.mem_flatMap.mp hq;have hk:k<S/2:=by simpa using hk
  rcases aD.mp hq with hq | hq
  ·obtain⟨e,rfl⟩:=uu hq;exact⟨by show 0<R;omega,by show 2*k+1<S;omega,.inr ⟨rfl,by show fZ (g 0 (2*k+1))=true;rw[e];decide⟩⟩
  ·obtain⟨e,rfl⟩:=uu hq;exact⟨by show R-1<R;omega,by show 2*k+1<S;omega,.inr ⟨rfl,by show fZ (g (R-1) (2*k+1))=true;rw[e];decide⟩⟩
theorem zf(a b:Nat->Bool):∀n,(∀i,i<n->a i=b i)->fh a n=fh b n
 | 0,_=>rfl
 | n+1,h=>by
  show(if a n=true then fh a n else n+1)=if b n=true then fh b n else n+1
  rw[h n (Nat.lt_succ_self n),zf a b n fun i hi=>h i (Nat.lt_succ_of_lt hi)]
theorem xP{α β:Type}{b:Prop}[Decidable b](f:α->β)(x:α):(dn b x).map f=dn b (f x):=by
 unfold dn;split<;>rfl
theorem mQ{α:Type}{b:Prop}[Decidable b](x:α)(h:¬b):dn b x=[]:=if_neg h
theorem Jx(P:eV R S rows)(hS:S%2=1){r:Nat}(hr:r<R)(ev:r%2=0):gZ false "left" "right" (rows.getD r [],r)=[]:=by
 have il:r<rows.length:=by rw[P.len];exact hr
 have e1:rows[r]?=some (rows.getD r []):=by rw[af,ab il];rfl
 have hl:(rows.getD r []).length=S:=P.dY _ (ax e1);have k1:gv rows r 0=32:=(P.ok r 0 hr (by omega)).2.1 ev rfl;have k2:gv rows r (S-1)=32:=(P.ok r (S-1) hr (by omega)).2.1 ev (by omega);unfold gZ;rw[hl,mh P.len P.dY e1 (s:=0) (by omega),mh P.len P.dY e1 (s:=S-1) (by omega),k1,k2,if_neg (by decide),if_neg (by decide)];rfl
theorem Jr(P:eV R S rows)(hS:S%2=1){k:Nat}(hr:2*k+1<R):gZ false "left" "right" (rows.getD (2*k+1) [],2*k+1) =
  (dn (gv rows (2*k+1) 0=45) (((2*k+1,0,0),("left",((k:Nat):Int))):N3×b8)++dn (gv rows (2*k+1) (S-1)=45) (((2*k+1,S-1,0),("right",((k:Nat):Int))):N3×b8)).map fun q=>(ph (gv rows) q.1,q.2):=by
 have il:2*k+1<rows.length:=by rw[P.len];exact hr
 have e1:rows[2*k+1]?=some (rows.getD (2*k+1) []):=by rw[af,ab il];rfl
 have hl:(rows.getD (2*k+1) []).length=S:=P.dY _ (ax e1);have hh:(2*k+1)/2=k:=by omega
 unfold gZ;rw[hl,mh P.len P.dY e1 (s:=0) (by omega),mh P.len P.dY e1 (s:=S-1) (by omega),aA,xP,xP];simp only[hh];have er:fh (eA false (rows.getD (2*k+1) [])) (S-1)=fh (oM (gv rows) (2*k+1)) (S-1):=zf _ _ _ fun i hi=>by
  unfold eA oM;have:=mh P.len P.dY e1 (s:=i) (by omega);rw[af (l:=rows.getD (2*k+1) []),this];rfl
 rw[er];unfold dn;simp only[aG];rfl
theorem Ll(P:eV R S rows)(hR:R%2=1)(hS:S%2=1):pF false "left" "right" rows=(jQ R S (gv rows)).map fun q=>(ph (gv rows) q.1,q.2):=by
 unfold pF jQ;rw[FG [] rows,List.flatMap_map,List.map_flatMap,P.len];have hm:R=2*(R/2)+1:=by omega
 have key:=z4 (fun r=>if r<R then gZ false "left" "right" (rows.getD r [],r) else []) (fun k=>by
  split
  ·exact Jx P hS (by assumption) (by omega)
  ·rfl) (R/2)
 rw[<-hm] at key;have e1:(List.range R).flatMap (fun a=>gZ false "left" "right" (rows.getD a [],a))=(List.range R).flatMap fun r=>if r<R then gZ false "left" "right" (rows.getD r [],r) else []:=uG fun r hr=>by rw[if_pos (by simpa using hr)]
 rw[e1,key];refine uG fun k hk=>?_
 have hk:k<R/2:=by simpa using hk
 rw[if_pos (by omega)];exact Jr P hS (by omega)
theorem tX(P:eV R S rows){k i:Nat}(hi:i<R):(eT rows k)[i]?=some (gv rows i k):=by
 have il:i<rows.length:=by rw[P.len];exact hi
 unfold eT gv;rw[ai,ab il,af (l:=rows),ab il];rfl
theorem Ek(P:eV R S rows)(k:Nat):(eT rows k).length=R:=by unfold eT;rw[ae,P.len]
theorem Jw(P:eV R S rows)(hR:R%2=1){r:Nat}(hr:r<S)(ev:r%2=0):gZ true "top" "bottom" (eT rows r,r)=[]:=by
 have k1:gv rows 0 r=32:=(P.ok 0 r (by omega) hr).2.1 rfl ev;have k2:gv rows (R-1) r=32:=(P.ok (R-1) r (by omega) hr).2.1 (by omega) ev;unfold gZ;rw[Ek P,tX P (i:=0) (by omega),tX P (i:=R-1) (by omega),k1,k2,if_neg (by decide),if_neg (by decide)];rfl
theorem Jq(P:eV R S rows)(hR:R%2=1){k:Nat}(hr:2*k+1<S):gZ true "top" "bottom" (eT rows (2*k+1),2*k+1) =
  (dn (gv rows 0 (2*k+1)=124) (((0,2*k+1,1),("top",((k:Nat):Int))):N3×b8)++dn (gv rows (R-1) (2*k+1)=124) (((R-1,2*k+1,1),("bottom",((k:Nat):Int))):N3×b8)).map fun q=>(ph (gv rows) q.1,q.2):=by
 have hh:(2*k+1)/2=k:=by omega
 unfold gZ;rw[Ek P,tX P (i:=0) (by omega),tX P (i:=R-1) (by omega),aA,xP,xP];simp only[hh];have er:fh (eA true (eT rows (2*k+1))) (R-1)=fh (oA (gv rows) (2*k+1)) (R-1):=zf _ _ _ fun i hi=>by
  unfold eA oA;rw[af,tX P (by omega)];rfl
 rw[er];unfold dn;simp only[aG];rfl
theorem Lk(P:eV R S rows)(hR:R%2=1)(hS:S%2=1):pF true "top" "bottom" (gA rows)=(iB R S (gv rows)).map fun q=>(ph (gv rows) q.1,q.2):=by
 unfold pF iB;have hw:=P.wd (by omega);have Qx:(gA rows).length=S:=by unfold gA;simp[hw]
 rw[FG [] (gA rows),List.flatMap_map,List.map_flatMap,Qx];have hc:∀r,r<S->(gA rows).getD r []=eT rows r:=fun r hr=>by
  unfold gA;rw[af,ai,List.getElem?_range (by rw[hw];exact hr)];rfl
 have hm:S=2*(S/2)+1:=by omega
 have key:=z4 (fun r=>if r<S then gZ true "top" "bottom" (eT rows r,r) else []) (fun k=>by
  split
  ·exact Jw P hR (by assumption) (by omega)
  ·rfl) (S/2)
 rw[<-hm] at key;have e1:(List.range S).flatMap (fun a=>gZ true "top" "bottom" ((gA rows).getD a [],a))=(List.range S).flatMap fun r=>if r<S then gZ true "top" "bottom" (eT rows r,r) else []:=uG fun r hr=>by rw[if_pos (by simpa using hr),hc r (by simpa using hr)]
 rw[e1,key];refine uG fun k hk=>?_
 have hk:k<S/2:=by simpa using hk
 rw[if_pos (by omega)];exact Jq P hR (by omega)
theorem zJ(P:eV R S rows)(hR:R%2=1)(hS:S%2=1):endsF rows=(jQ R S (gv rows)++iB R S (gv rows)).map fun q=>(ph (gv rows) q.1,q.2):=by
 unfold endsF;rw[Ll P hR hS,Lk P hR hS,aA]
theorem MP(P:eV R S rows)(hR:R%2=1)(hS:S%2=1){E:List (N3×N3)}(hE:rR R S (gv rows) E){lab:N3->N3}(BX:∀a b,lab a=lab b↔Cn E a b){nX:List (N3×List b8)}
  (M:e8 ((iB R S (gv rows)++jQ R S (gv rows)).map fun q=>(lab q.1,q.2)) nX) {c9:List (List b8)} (G:Gd (endsF rows) (pK rows) c9):c9=sG (nX.map fun p=>sE p.2):=by
 obtain⟨lb,bL,BW,G,rfl⟩:=G;rw[zJ P hR hS,aE] at G;have nd:=zK (R:=R) (S:=S) (g:=gv rows);have on:=Jy (R:=R) (S:=S) (g:=gv rows) hR hS;have one:∀a∈jQ R S (gv rows)++iB R S (gv rows),∀b∈jQ R S (gv rows)++iB R S (gv rows),a.2=b.2->a=b:=fun a ha b hb e=>by
  obtain⟨i,hi⟩:=aN ha;obtain⟨j,hj⟩:=aN hb;have e1:((jQ R S (gv rows)++iB R S (gv rows)).map (·.2))[i]?=some a.2:=by rw[ai,hi];rfl
  have e2:((jQ R S (gv rows)++iB R S (gv rows)).map (·.2))[j]?=some a.2:=by rw[ai,hj,e];rfl
  have:i=j:=(List.getElem?_inj (ag.mp e1).1 nd).mp (e1.trans e2.symm);subst this;rw[hi] at hj;exact aQ hj
 have fl:∀b,b∈iB R S (gv rows)++jQ R S (gv rows)->b∈jQ R S (gv rows)++iB R S (gv rows):=fun b hb=>by
  rcases aD.mp hb with h | h
  ·exact aT _ h
  ·exact aY _ h
 refine JB G M ?_ ?_ ?_
 ·rw[aE,aE];exact List.Perm.map _ List.perm_append_comm
 ·rw[aE];exact nd
 ·intro p hp q hq p' P9 q' k5 e1 e2;obtain⟨a,ha,rfl⟩:=av.mp hp;obtain⟨c,hc,rfl⟩:=av.mp hq;obtain⟨b,hb,rfl⟩:=av.mp P9;obtain⟨d,hd,rfl⟩:=av.mp k5;have z1:=one a ha b (fl b hb) e1;have z2:=one c hc d (fl d hd) e2;subst z1;subst z2;show lb (ph (gv rows) a.1)=lb (ph (gv rows) c.1)↔lab a.1=lab c.1;rw[BW,BX];exact(Nc hE P.link (on a ha) (on c hc)).symm
end
end Wc
namespace Wc
open PySem L2 PyProof.Rows
end Wc
open PySem L2 PyProof.Rows Wc
local macro_rules | `(tactic| walk_at "px")=>`(tactic| (repeat(first | walk_at "b" | simp only[sA,yZ,pz,tZ,um])))
namespace Wc
open PySem L2 PyProof.Rows
noncomputable def fw(c:Nat):D:=.str (cO [c])
noncomputable def cM(rows:List (List Nat)):List (List D):=rows.map fun l=>l.map fw
noncomputable def kd(rows:List (List Nat)):D:=.lst ((cM rows).map .lst)
theorem qB{α:Type}{l:List α}{j:Nat}(h:j<l.length):cT l (j:Int)=l[j]?:=by rw[ou h,ab h]
def qI:ei:=fun ds Q=>∃(ns:List Int) (k m:Nat),ds=[dI ns,.int k,.int m]/\ns.length<=1000/\0<m/\k<=100000/\∀d:Nat,d<m->Q (.fz (.int d))
def Az:TX:=(cq (eU (cQ (bQ (fT fun i j=>.bl (decide (i<j))) (bQ ez (bK 1) (dC (.int 2))) (eC gM (bM (bK 0) bU)))) (gr (bQ (oI (fun _ j=>0<j) fun i j=>.int (i%j)) (eE 2 pR (bM (bQ cR (bK 0) (bQ ez (bK 1) (dC (.int 2)))) (bM (bQ (oI (fun _ j=>0<j) fun i j=>.int (i%j)) (bK 1) (dC (.int 7))) bU))) (bK 2))) eX)
 (gr (bQ (oI (fun _ j=>0<j) fun i j=>.int (i%j)) (eE 2 pR (bM (eC rV (bM (tI (bK 0) vy (qA (dC (.int 1)))) bU)) (bM (bK 1) bU))) (bK 2))))
theorem NU(ds:List D)(Qr:R->Prop)(hl:ds.length=3)(h:qI ds Qr):Az { nx:=fun _=>Qr (.fz .non),rt:=Qr } (fQ ["_law_script","_law_k","_law_many"] ds):=by
 obtain⟨ns,k,m,rfl,hn,hm,hk,q⟩:=h;show Az _ [.fz (dI ns),.fz (.int k),.fz (.int m)];unfold Az dI;have big:=fV;have fin:∀x:Int,Qr (.fz (.int (x%(m:Int)))):=fun x=>by
  have h1:=Int.emod_nonneg x (show(m:Int)≠0 by omega);have h2:=Int.emod_lt_of_pos x (show(0:Int)<m by omega);have:=q (x%(m:Int)).toNat (by omega);rw[Int.toNat_of_nonneg h1] at this;exact this
 walk_at "px";split
 ·rename_i h;rw[ae] at h;refine⟨ns[k+2]'(by omega),?_,_,_,rfl,by omega,by omega,by omega,fin _⟩;rw[show((k:Int)+2)=((k+2:Nat):Int) by omega,ou (by omega)]
 ·walk_at "go";exact⟨_,_,rfl,by omega,by omega,by omega,fin _⟩
noncomputable def wG(p:Int×Int):D:=.tup [.int p.1,.int p.2]
noncomputable def js(R S:Nat)(g:Nat->Nat->Nat)(p:Nat->Bool)(q:Int×Int):Bool:=!(decide (0<=q.1/\q.1<R)&&decide (0<=q.2/\q.2<S))||p (g q.1.toNat q.2.toNat)
def sI:ei:=fun ds Q=>∃(R S:Nat) (rows:List (List Nat)) (mn:List (Int×Int)) (w:Str) (p:Nat->Bool),ds=[kd rows,.lst (mn.map wG),.str w]/\rows.length=R/\(∀l∈rows,l.length=S)/\0<R/\(∀l∈rows,∀c∈l,c∈f7)/\(∀c∈f7,jS w c=p c)/\mn.length<=100/\Q (.fz (.bl (mn.all (js R S (gv rows) p))))
def Aj:TX:=(cq (gN (jA (bK 1)) (jv 2 (eZ (cX 3) (eZ (cX 4) ib))) (eU (jq (cQ (uf (fT fun i j=>.bl (decide (i<=j))) (fT fun i j=>.bl (decide (i<j))) (dC (.int 0)) (bK 3) (eC gM (bM (bK 0) bU)))) (jq (cQ (uf (fT fun i j=>.bl (decide (i<=j))) (fT fun i j=>.bl (decide (i<j))) (dC (.int 0)) (bK 4) (eC gM (bM (bQ cR (bK 0) (dC (.int 0))) bU)))) (cQ (bQ (jC true) (bQ cR (bQ cR (bK 0) (bK 3)) (bK 4)) (bK 2))))) (gr (dC (.bl false))) eX))
 (gr (dC (.bl true))))
theorem NG(ds:List D)(Qr:R->Prop)(hl:ds.length=3)(h:sI ds Qr):Aj { nx:=fun _=>Qr (.fz .non),rt:=Qr } (fQ ["_law_grid","_law_places","_law_wanted","_law_r","_law_s"] ds):=by
 obtain⟨R,S,rows,mn,w,p,rfl,hR,hS,rF,oO,nt,jU,q⟩:=h;show Aj _ [.fz (kd rows),.fz (.lst (mn.map wG)),.fz (.str w),.un,.un];unfold Aj;have big:=fV;have e0:∃l0,rows[0]?=some l0/\l0.length=S:=⟨rows[0]'(by omega),ab _,hS _ (bg _)⟩
 obtain⟨l0,e0,h0⟩:=e0;refine jG mn wG (fun Q' h=>?_) (fun i ρ=>∃a c:Sl,(mn.take i).all (js R S (gv rows) p)=true/\ρ=[.fz (kd rows),.fz (.lst (mn.map wG)),.fz (.str w),a,c]) ⟨_,_,by simp,rfl⟩ ?_ ?_
 ·walk_at "px";exact h
 ·rintro i ⟨r,s⟩ ρ hi ⟨a,c,et,rfl⟩;have eL:((cM rows).map D.lst).length=R:=by unfold cM;simp[hR]
  have eg:(cM rows).length=R:=by unfold cM;simp[hR]
  have Q4:cT (cM rows) 0=some (l0.map fw):=by
   rw[show(0:Int)=((0:Nat):Int) from rfl,qB (by omega)];unfold cM;rw[ai,e0];rfl
  have tk:(mn.take (i+1)).all (js R S (gv rows) p)=((mn.take i).all (js R S (gv rows) p)&&js R S (gv rows) p (r,s)):=by
   rw[bh,hi,List.all_append];simp
  have bad:js R S (gv rows) p (r,s)=false->mn.all (js R S (gv rows) p)=false:=fun h=>by
   cases e:mn.all (js R S (gv rows) p) with
   | false=>rfl
   | true=>
    rw[bI] at e;rw[e _ (ax hi)] at h;cases h
  rw[show wG (r,s)=.tup [.int r,.int s] from rfl,show kd rows=.lst ((cM rows).map .lst) from rfl];walk_at "px";rw[eL];by_cases h1:0<=r
  ·rw[if_pos h1];by_cases h2:r<R
   ·rw[if_pos h2];by_cases h3:0<=s
    ·rw[if_pos h3];refine⟨_,Q4,?_⟩;walk_at "px";rw[ae,h0];by_cases h4:s<S
     ·rw[if_pos h4];obtain⟨rn,rfl⟩:∃n:Nat,r=n:=⟨r.toNat,by omega⟩
      obtain⟨sn,rfl⟩:∃n:Nat,s=n:=⟨s.toNat,by omega⟩
      have il:rn<rows.length:=by omega
      have er:rows[rn]?=some rows[rn]:=ab il;have es:=mh hR hS er (s:=sn) (by omega);have hm:gv rows rn sn∈f7:=oO _ (bg _) _ (ax es);have a1:cT (cM rows) (rn:Nat)=some (rows[rn].map fw):=by
       rw[qB (by omega)];unfold cM;rw[ai,er];rfl
      have a2:cT rows[rn] (sn:Nat)=some (gv rows rn sn):=by
       rw[qB (by rw[hS _ (bg _)];omega),es]
      refine⟨_,a1,?_⟩;walk_at "px";refine⟨_,a2,?_⟩;have hp:(Builtin.Str.occurrences w ⟨#[gv rows rn sn]⟩ 0 w.length 1).isEmpty=!(p (gv rows rn sn)):=by
       rw[<-nt _ hm];unfold jS;rw[Bool.not_not]
      have lf:js R S (gv rows) p ((rn:Int),(sn:Int))=p (gv rows rn sn):=by
       unfold js;have g1:(0:Int)<=rn/\(rn:Int)<R:=⟨by omega,by omega⟩
       have g2:(0:Int)<=sn/\(sn:Int)<S:=⟨by omega,by omega⟩
       simp[g1,g2]
      show(if (!!(Builtin.Str.occurrences w ⟨#[gv rows rn sn]⟩ 0 w.length 1).isEmpty)=true then _ else _);rw[hp];cases hb:p (gv rows rn sn) with
      | false=>
       rw[if_pos (by decide)];rw[bad (by rw[lf,hb])] at q;exact q
      | true=>
       rw[if_neg (by simp)];exact⟨_,_,by rw[tk,et,lf,hb];rfl,rfl⟩
     ·rw[if_neg h4];exact⟨_,_,by rw[tk,et];unfold js;simp[h4],rfl⟩
    ·rw[if_neg h3];exact⟨_,_,by rw[tk,et];unfold js;simp[h3],rfl⟩
   ·rw[if_neg h2];exact⟨_,_,by rw[tk,et];unfold js;simp[h2],rfl⟩
  ·rw[if_neg h1];exact⟨_,_,by rw[tk,et];unfold js;simp[h1],rfl⟩
 ·rintro ρ ⟨a,c,et,rfl⟩;rw[bx] at et;walk_at "go";rw[et] at q;exact q
end Wc
namespace Wc
open PySem L2 PyProof.Rows
def u0:ei:=fun ds Q=>∃(ns:List Int) (high wide:Nat),ds=[dI ns,.int high,.int wide]/\ns.length<=1000/\high<=20/\1<=wide/\wide<=20/\∀(t w:Nat) (rows:List (List Nat)),t<=high->1<=w->w<=wide->eV (2*t+1) (2*w+1) rows->Q (.ov (.ll (cM rows)))
theorem xD{n k:Nat}(h:k<n):jR n (k:Int)=some k:=by
 unfold jR;rw[if_pos (by omega),if_pos (by omega),Int.toNat_natCast]
theorem zI{rows:List (List Nat)}{r s c:Nat}:(cM rows).set r (((rows.getD r []).map fw).set s (fw c))=cM (ke rows r s c):=by
 unfold cM ke;rw[List.map_set,List.map_set]
theorem ui{rows:List (List Nat)}{r:Nat}(h:r<rows.length):(cM rows)[r]?=some ((rows.getD r []).map fw):=by
 unfold cM;rw[ai,af,ab h];rfl
theorem OX:∀d,d<8->∃c∈[32,45,124,43,35],cT (" -|+#+#-":Str).cps.toList ((d:Nat):Int)=some c:=by decide +kernel
theorem OW:∀d,d<3->∃c∈[32,45],cT (" --":Str).cps.toList ((d:Nat):Int)=some c:=by decide +kernel
theorem OU:∀d,d<3->∃c∈[32,124],cT (" ||":Str).cps.toList ((d:Nat):Int)=some c:=by decide +kernel
theorem CK{R S:Nat}{g:Nat->Nat->Nat}{p:Nat->Bool}{a b:Int×Int}(h:[a,b].all (js R S g p)=true):((0<=a.1/\a.1<R)->(0<=a.2/\a.2<S)->p (g a.1.toNat a.2.toNat)=true)/\((0<=b.1/\b.1<R)->(0<=b.2/\b.2<S)->p (g b.1.toNat b.2.toNat)=true):=by
 simp only[List.all_cons,List.all_nil,Bool.and_true,Bool.and_eq_true] at h;unfold js at h;refine⟨fun h1 h2=>?_,fun h1 h2=>?_⟩
 ·have:=h.1;rw[bA h1,bA h2] at this;simpa using this
 ·have:=h.2;rw[bA h1,bA h2] at this;simpa using this
def AR:TX:=(cq (eM 3 (eE 2 pR (bM (eC rV (bM (tI (bK 0) vy (qA (dC (.int 1)))) bU)) (bM (dC (.int 801)) bU))))
 (cq (eM 4 (bQ (oI (fun _ j=>0<j) fun i j=>.int (i%j)) (bK 3) (bQ ez (bK 1) (dC (.int 1)))))
 (cq (eM 5 (bQ ez (dC (.int 1)) (bQ (oI (fun _ j=>0<j) fun i j=>.int (i%j)) (bQ (oI kh fun i j=>.int (i/j)) (bK 3) (dC (.int 64))) (bK 2))))
 (cq (jB 6 (pH (nK (bM (bQ ez (bQ (oI fA fun i j=>.int (i*j)) (dC (.int 2)) (bK 4)) (dC (.int 1))) bU)) [none,some 5] (cX 0) ju (yZ (ic (bM (dC (.str " ")) bU)) (bQ ez (bQ (oI fA fun i j=>.int (i*j)) (dC (.int 2)) (bK 1)) (dC (.int 1))))))
 (cq (eM 7 (dC (.int 0)))
 (cq (gN (nK (bM (bK 4) bU)) (cX 8) (gN (nK (bM (bK 5) bU)) (cX 9) (cq (sA 6 (bQ ez (bQ (oI fA fun i j=>.int (i*j)) (dC (.int 2)) (bK 8)) (dC (.int 1))) (bQ ez (bQ (oI fA fun i j=>.int (i*j)) (dC (.int 2)) (bK 9)) (dC (.int 1))) (bQ cR (dC (.str " -|+#+#-")) (eE 3 qI (bM (bK 0) (bM (bK 7) (bM (dC (.int 8)) bU))))))
 (eM 7 (bQ ez (bK 7) (dC (.int 1)))))))
 (cq (gN (nK (bM (bQ ez (bQ (oI fA fun i j=>.int (i*j)) (dC (.int 2)) (bK 4)) (dC (.int 1))) bU)) (cX 10) (gN (nK (bM (bQ ez (bQ (oI fA fun i j=>.int (i*j)) (dC (.int 2)) (bK 5)) (dC (.int 1))) bU)) (cX 11) (cq (eU (jq (cQ (bQ oEq (bQ (oI (fun _ j=>0<j) fun i j=>.int (i%j)) (bK 10) (dC (.int 2))) (dC (.int 1)))) (jq (cQ (bQ oEq (bQ (oI (fun _ j=>0<j) fun i j=>.int (i%j)) (bK 11) (dC (.int 2))) (dC (.int 0)))) (cQ (t9 6 (eE 3 sI (bM (bK 6) (bM (ic (bM (dN (bM (bK 10) (bM (bQ (fT fun i j=>.int (i-j)) (bK 11) (dC (.int 1))) bU))) (bM (dN (bM (bK 10) (bM (bQ ez (bK 11) (dC (.int 1))) bU))) bU))) (bM (dC (.str "-+#")) bU)))))))) (cq (sA 6 (bK 10) (bK 11) (bQ cR (dC (.str " --")) (eE 3 qI (bM (bK 0) (bM (bK 7) (bM (dC (.int 3)) bU))))))
 (eM 7 (bQ ez (bK 7) (dC (.int 1))))) eX)
 (eU (jq (cQ (bQ oEq (bQ (oI (fun _ j=>0<j) fun i j=>.int (i%j)) (bK 10) (dC (.int 2))) (dC (.int 0)))) (jq (cQ (bQ oEq (bQ (oI (fun _ j=>0<j) fun i j=>.int (i%j)) (bK 11) (dC (.int 2))) (dC (.int 1)))) (cQ (t9 6 (eE 3 sI (bM (bK 6) (bM (ic (bM (dN (bM (bQ (fT fun i j=>.int (i-j)) (bK 10) (dC (.int 1))) (bM (bK 11) bU))) (bM (dN (bM (bQ ez (bK 10) (dC (.int 1))) (bM (bK 11) bU))) bU))) (bM (dC (.str "|+#")) bU)))))))) (cq (sA 6 (bK 10) (bK 11) (bQ cR (dC (.str " ||")) (eE 3 qI (bM (bK 0) (bM (bK 7) (bM (dC (.int 3)) bU))))))
 (eM 7 (bQ ez (bK 7) (dC (.int 1))))) eX))))
 (pz 6))))))))
theorem Om(ds:List D)(Qr:R->Prop)(hl:ds.length=3)(h:u0 ds Qr):AR { nx:=fun _=>Qr (.fz .non),rt:=Qr } (fQ ["_law_script","_law_high","_law_wide","_law_seed","_law_tracks","_law_width","_law_grid","_law_k","_law_t","_law_c","_law_r","_law_s"] ds):=by
 obtain⟨ns,high,wide,rfl,hn,hh,PQ,PN,q⟩:=h;show AR _ [.fz (dI ns),.fz (.int high),.fz (.int wide),.un,.un,.un,.un,.un,.un,.un,.un,.un];unfold AR dI;have big:=fV;walk_at "px";refine⟨_,_,rfl,by decide,by decide,?_⟩;have sn:=Jb (jt ns none (some 1)).sum 801;generalize wV _ _=f9 at sn ⊢;walk_at "go";refine⟨by omega,?_⟩;have t0:=Int.emod_nonneg f9 (show(high:Int)+1≠0 by omega);have t1:=Int.emod_lt_of_pos f9 (show(0:Int)<(high:Int)+1 by omega);obtain⟨t,ht⟩:∃t:Nat,f9%((high:Int)+1)=t:=⟨(f9%((high:Int)+1)).toNat,by omega⟩
 rw[ht] at t1 ⊢;walk_at "go";refine⟨by omega,?_⟩;have w0:=Int.emod_nonneg (f9/64) (show(wide:Int)≠0 by omega);have w1:=Int.emod_lt_of_pos (f9/64) (show(0:Int)<(wide:Int) by omega);obtain⟨w,hw⟩:∃w:Nat,1+f9/64%(wide:Int)=w:=⟨(1+f9/64%(wide:Int)).toNat,by omega⟩
 have Gw:1<=w/\w<=wide:=by omega
 rw[hw];walk_at "go";have tt:(2*(t:Int)+1)=((2*t+1:Nat):Int):=by omega
 have ww:(2*(w:Int)+1)=((2*w+1:Nat):Int):=by omega
 refine Ag (List.range (2*t+1)) (fun i=>D.int (i:Nat)) (fun _=>List.replicate (2*w+1) (fw 32)) (fun Q' h=>?_) (by simp;omega) (fun _ _ K1 k1=>?_) ?_
 ·walk_at "px";rw[tt,Int.toNat_natCast];refine⟨by omega,by omega,?_⟩;have e:(fun i:Nat=>D.int (0+(i:Int)))=fun i:Nat=>D.int (i:Int):=funext fun i=>by rw[Int.zero_add]
  rw[e];exact h
 ·walk_at "px";rw[ww,Int.toNat_natCast];refine⟨by omega,by omega,by omega,by omega,?_⟩;have e:(List.replicate (2*w+1) [D.str " "]).flatten=List.replicate (2*w+1) (fw 32):=by
   rw[show fw 32=D.str " " by unfold fw;congr 1];simp
  rw[e];exact k1
 have e0:(List.range (2*t+1)).map (fun _=>List.replicate (2*w+1) (fw 32))=cM (List.replicate (2*t+1) (List.replicate (2*w+1) 32)):=by
  unfold cM;rw[List.map_replicate,List.map_replicate];apply List.ext_getElem
  ·simp
  ·intro i h1 h2;simp
 rw[e0];have P0:jZ (2*t+1) (2*w+1) (List.replicate (2*t+1) (List.replicate (2*w+1) 32)):=by
  refine⟨by simp,fun l hl=>by rw[List.eq_of_mem_replicate hl];simp,fun r s hr hs=>?_⟩;have:gv (List.replicate (2*t+1) (List.replicate (2*w+1) 32)) r s=32:=by
   unfold gv;rw[af (l:=List.replicate _ _),List.getElem?_replicate,if_pos hr,aX,af,List.getElem?_replicate,if_pos hs];rfl
  rw[this];exact⟨by simp,fun _=>rfl⟩
 generalize List.replicate (2*t+1) (List.replicate (2*w+1) 32)=rows0 at P0 ⊢;walk_at "px";walk_at "go";walk_at "go";have zr:∀(n:Nat),n<1000->∀Q':List D->Prop,Q' ((List.range n).map fun(i:Nat)=>.int (0+i))->-4611686018427387904<=(n:Int)/\(n:Int)<4611686018427387904/\Q' ((List.range (n:Int).toNat).map fun(i:Nat)=>D.int (0+i)):=fun n hn Q' h=>⟨by omega,by omega,by rw[Int.toNat_natCast];exact h⟩
 refine sH t (fun Q' h=>?_) (fun i ρ=>∃(rows:List (List Nat)) (k:Nat) (a b c d:Sl),jZ (2*t+1) (2*w+1) rows/\k<=i*20/\ρ=[.fz (.lst (ns.map D.int)),.fz (.int high),.fz (.int wide),.fz (.int f9),.fz (.int t),.fz (.int w),.ov (.ll (cM rows)),.fz (.int k),a,b,c,d]) ⟨rows0,0,_,_,_,_,P0,aU _,rfl⟩ ?_ ?_
 ·walk_at "px";exact zr t (by omega) Q' h
 ·rintro i ρ hi ⟨rows,k,a,b,c,d,P,hk,rfl⟩;walk_at "px";refine sH w (fun Q' h=>?_) (fun j ρ=>∃(rows:List (List Nat)) (k:Nat) (b c d:Sl),jZ (2*t+1) (2*w+1) rows/\k<=i*20+j/\ρ=[.fz (.lst (ns.map D.int)),.fz (.int high),.fz (.int wide),.fz (.int f9),.fz (.int t),.fz (.int w),.ov (.ll (cM rows)),.fz (.int k),.fz (.int i),b,c,d]) ⟨rows,k,_,_,_,P,by omega,rfl⟩ ?_ ?_
  ·walk_at "px";exact zr w (by omega) Q' h
  ·rintro j ρ hj ⟨rows,k,b,c,d,P,hk,rfl⟩;walk_at "px";refine⟨ns,k,8,rfl,hn,by decide,by omega,fun dg hd=>?_⟩;obtain⟨ch,jy,wC⟩:=OX dg hd;have hg:(cM rows).length=2*t+1:=by unfold cM;rw[ae,P.len]
   have hr:2*i+1<rows.length:=by rw[P.len];omega
   have hm:rows.getD (2*i+1) []∈rows:=by
    rw[af,ab hr,aX];exact bg _
   have yB:=P.dY _ hm;refine⟨by decide +kernel,ch,wC,2*i+1,_,?_,ui hr,2*j+1,?_,?_⟩
   ·rw[show(2*(i:Int)+1)=((2*i+1:Nat):Int) by omega];exact xD (by omega)
   ·rw[show(2*(j:Int)+1)=((2*j+1:Nat):Int) by omega];exact xD (by rw[ae,yB];omega)
   ·rw[show D.str ⟨#[ch]⟩=fw ch from rfl,zI];walk_at "go";exact⟨ke rows (2*i+1) (2*j+1) ch,k+1,_,_,_,P.set (by omega) (by omega) (by omega) (by omega) jy,by omega,rfl⟩
  ·rintro ρ ⟨rows,k,b,c,d,P,hk,rfl⟩;exact⟨rows,k,_,_,_,_,P,by omega,rfl⟩
 ·rintro ρ ⟨rows,k,a,b,c,d,P,hk,rfl⟩;walk_at "go";refine sH (2*t+1) (fun Q' h=>?_) (fun i ρ=>∃(rows:List (List Nat)) (k:Nat) (a b c d:Sl),eV (2*t+1) (2*w+1) rows/\k<=400+i*82/\ρ=[.fz (.lst (ns.map D.int)),.fz (.int high),.fz (.int wide),.fz (.int f9),.fz (.int t),.fz (.int w),.ov (.ll (cM rows)),.fz (.int k),a,b,c,d]) ⟨rows,k,_,_,_,_,P.Pa,by omega,rfl⟩ ?_ ?_
  ·walk_at "px";rw[tt];exact zr _ (by omega) Q' h
  ·rintro i ρ hi ⟨rows,k,a,b,c,d,P,hk,rfl⟩;walk_at "px";refine sH (2*w+1) (fun Q' h=>?_) (fun j ρ=>∃(rows:List (List Nat)) (k:Nat) (d:Sl),eV (2*t+1) (2*w+1) rows/\k<=400+i*82+j*2/\ρ=[.fz (.lst (ns.map D.int)),.fz (.int high),.fz (.int wide),.fz (.int f9),.fz (.int t),.fz (.int w),.ov (.ll (cM rows)),.fz (.int k),a,b,.fz (.int i),d]) ⟨rows,k,_,P,by omega,rfl⟩ ?_ ?_
   ·walk_at "px";rw[ww];exact zr _ (by omega) Q' h
   ·rintro j ρ hj ⟨rows,k,d,P,hk,rfl⟩;have hg:(cM rows).length=2*t+1:=by unfold cM;rw[ae,P.len]
    have hr:i<rows.length:=by rw[P.len];omega
    have hm:rows.getD i []∈rows:=by
     rw[af,ab hr,aX];exact bg _
    have yB:=P.dY _ hm;have oO:=(P.rb (by omega) (by omega)).f7;have x1:jR (cM rows).length (i:Int)=some i:=xD (by omega);have x2:jR ((rows.getD i []).map fw).length (j:Int)=some j:=xD (by rw[ae,yB];omega);walk_at "px";by_cases c1:i%2=1
    ·rw[if_pos (by omega)];have skip:∀(kS:List (List Nat)) (k':Nat),eV (2*t+1) (2*w+1) kS->k'<=400+i*82+(j+1)*2->∃(rows:List (List Nat)) (k:Nat) (d:Sl),eV (2*t+1) (2*w+1) rows/\k<=400+i*82+(j+1)*2/\
       [.fz (.lst (ns.map D.int)),.fz (.int high),.fz (.int wide),.fz (.int f9),.fz (.int t),.fz (.int w),.ov (.ll (cM kS)),.fz (.int k'),a,b,.fz (.int i),.fz (.int j)]=[Sl.fz (.lst (ns.map D.int)),.fz (.int high),.fz (.int wide),.fz (.int f9),.fz (.int t),.fz (.int w),.ov (.ll (cM rows)),.fz (.int k),a,b,.fz (.int i),d]:=
      fun kS k' P' nr=>⟨kS,k',_,P',nr,rfl⟩
     by_cases c2:j%2=0
     ·rw[if_pos (by omega)];refine⟨by omega,by omega,by omega,2*t+1,2*w+1,rows,[((i:Int),(j:Int)-1),((i:Int),(j:Int)+1)],"-+#",fM,rfl,P.len,P.dY,by omega,oO,xj,by simp,rfl,?_⟩;cases hb:[((i:Int),(j:Int)-1),((i:Int),(j:Int)+1)].all (js (2*t+1) (2*w+1) (gv rows) fM) with
      | true=>
       obtain⟨l1,l2⟩:=CK hb;walk_at "px";refine⟨ns,k,3,rfl,hn,by decide,by omega,fun dg hd=>?_⟩;obtain⟨ch,jy,wC⟩:=OW dg hd;refine⟨by decide +kernel,ch,wC,i,_,x1,ui hr,j,x2,?_⟩;rw[show D.str ⟨#[ch]⟩=fw ch from rfl,zI];walk_at "go";walk_at "go";rw[if_neg (by omega)];refine skip _ (k+1) (P.set hi hj (by omega) ?_) (by omega);have h2:ch=32\/ch=45:=by simpa using jy
       rcases h2 with h2 | h2
       ·exact .inl h2
       ·refine .inr (.inl ⟨c1,h2,fun z=>?_,fun z=>?_⟩)
        ·have:=l1 ⟨by omega,by omega⟩ ⟨by omega,by omega⟩;rw[show((i:Int)).toNat=i by omega,show((j:Int)-1).toNat=j-1 by omega] at this;exact this
        ·have:=l2 ⟨by omega,by omega⟩ ⟨by omega,by omega⟩;rw[show((i:Int)).toNat=i by omega,show((j:Int)+1).toNat=j+1 by omega] at this;exact this
      | false=>
       walk_at "px";walk_at "go";rw[if_neg (by omega)];exact skip _ k P (by omega)
     ·rw[if_neg (by omega)];walk_at "go";rw[if_neg (by omega)];exact skip _ k P (by omega)
    ·rw[if_neg (by omega)];walk_at "go";rw[if_pos (by omega)];by_cases c2:j%2=1
     ·rw[if_pos (by omega)];refine⟨by omega,by omega,by omega,2*t+1,2*w+1,rows,[((i:Int)-1,(j:Int)),((i:Int)+1,(j:Int))],"|+#",fZ,rfl,P.len,P.dY,by omega,oO,xi,by simp,rfl,?_⟩;cases hb:[((i:Int)-1,(j:Int)),((i:Int)+1,(j:Int))].all (js (2*t+1) (2*w+1) (gv rows) fZ) with
      | true=>
       obtain⟨l1,l2⟩:=CK hb;walk_at "px";refine⟨ns,k,3,rfl,hn,by decide,by omega,fun dg hd=>?_⟩;obtain⟨ch,jy,wC⟩:=OU dg hd;refine⟨by decide +kernel,ch,wC,i,_,x1,ui hr,j,x2,?_⟩;rw[show D.str ⟨#[ch]⟩=fw ch from rfl,zI];walk_at "go";refine⟨_,k+1,_,P.set hi hj (by omega) ?_,by omega,rfl⟩;have h2:ch=32\/ch=124:=by simpa using jy
       rcases h2 with h2 | h2
       ·exact .inl h2
       ·refine .inr (.inr ⟨by omega,h2,fun z=>?_,fun z=>?_⟩)
        ·have:=l1 ⟨by omega,by omega⟩ ⟨by omega,by omega⟩;rw[show((j:Int)).toNat=j by omega,show((i:Int)-1).toNat=i-1 by omega] at this;exact this
        ·have:=l2 ⟨by omega,by omega⟩ ⟨by omega,by omega⟩;rw[show((j:Int)).toNat=j by omega,show((i:Int)+1).toNat=i+1 by omega] at this;exact this
      | false=>
       walk_at "px";exact⟨rows,k,_,P,by omega,rfl⟩
     ·rw[if_neg (by omega)];exact⟨rows,k,_,P,by omega,rfl⟩
   ·rintro ρ ⟨rows,k,d,P,hk,rfl⟩;exact⟨rows,k,_,_,_,_,P,by omega,rfl⟩
  ·rintro ρ ⟨rows,k,a,b,c,d,P,hk,rfl⟩;walk_at "go";exact q t w rows (by omega) Gw.1 Gw.2 P
end Wc
namespace Wc
open PySem L2 PyProof.Rows
end Wc
open PySem L2 PyProof.Rows Wc
local macro_rules | `(tactic| walk_at "px")=>`(tactic| (repeat(first | walk_at "b" | simp only[pA])))
namespace Wc
open PySem L2 PyProof.Rows
noncomputable def j6(c:Nat):List Nat->List (List Nat)
 | []=>[[]]
 | x::r=>if x=c then []::j6 c r else match j6 c r with
  | []=>[[x]]
  | h::t=>(x::h)::t
theorem Jv(c:Nat):∀l,j6 c l≠[]
 | []=>by simp[j6]
 | x::r=>by
  unfold j6;split
  ·simp
  ·split<;>simp
theorem Fq(c:Nat)(b:List Nat):∀a:List Nat,j6 c (a++c::b)=j6 c a++j6 c b
 | []=>by simp[j6]
 | x::r=>by
  rw[List.cons_append,j6,Fq c b r];conv=>rhs;rw[j6]
  by_cases h:x=c
  ·simp[h]
  ·simp only[h,bp];cases e:j6 c r with
   | nil=>exact absurd e (Jv c r)
   | cons u v=>simp
theorem Ae(c:Nat):∀a:List Nat,c∉a->j6 c a=[a]
 | [],_=>rfl
 | x::r,h=>by
  simp only[ar,not_or] at h;rw[j6,if_neg (fun z=>h.1 z.symm),Ae c r h.2]
noncomputable def lG(c:Nat):List (List Nat)->List Nat
 | []=>[]
 | [a]=>a
 | a::b::r=>a++c::lG c (b::r)
theorem Ad(c:Nat):∀l:List (List Nat),l≠[]->(∀a∈l,c∉a)->j6 c (lG c l)=l
 | [],h,_=>absurd rfl h
 | [a],_,h=>Ae c a (h a (by simp))
 | a::b::r,_,h=>by
  rw[lG,Fq,Ae c a (h a (by simp)),Ad c (b::r) (by simp) fun z hz=>h z (by simp[hz])];rfl
theorem Ac(c:Nat):∀(l:List Str),(Txt.join ⟨#[c]⟩ l).cps.toList=lG c (l.map fun s=>s.cps.toList)
 | []=>rfl
 | [a]=>by rw[z8];simp[lG]
 | a::b::r=>by
  have ih:=Ac c (b::r);rw[z8] at ih ⊢;simp only[ao,lG];simp only[ao] at ih;rw[<-ih];simp
theorem LW(x:Str)(c:Nat):(Txt.split x ⟨#[c]⟩).map (fun s=>s.cps.toList)=j6 c x.cps.toList:=by
 have h1:Txt.join ⟨#[c]⟩ (Txt.split x ⟨#[c]⟩)=x:=(StrLaws.glued_eq_join _ _).trans (StrLaws.join_split x ⟨#[c]⟩);have h2:=StrLaws.split_free x c;have h3:Txt.split x ⟨#[c]⟩≠[]:=fun z=>by
  have:=PyProof.Rows.split_pos x ⟨#[c]⟩;rw[z] at this;simp at this
 have e:x.cps.toList=lG c ((Txt.split x ⟨#[c]⟩).map fun s=>s.cps.toList):=by
  rw[<-Ac];exact congrArg (fun s:Str=>s.cps.toList) h1.symm
 rw[e,Ad]
 ·simpa using h3
 ·intro a ha;obtain⟨s,hs,rfl⟩:=av.mp ha;exact h2 s hs
theorem FF(c k:Nat):∀l:List (List Nat),(∀a∈l,a.length<=k)->(lG c l).length<=l.length*(k+1)
 | [],_=>by simp[lG]
 | [a],h=>by have:=h a (by simp);simp[lG];omega
 | a::b::r,h=>by
  have h1:=h a (by simp);have h2:=FF c k (b::r) fun z hz=>h z (by simp[hz])
  rw[lG,aC,aI,aI (a:=a),Nat.succ_mul];omega
theorem Dm:("\n":Str)=⟨#[10]⟩:=by decide +kernel
def uU:ei:=fun ds Q=>∃(R S:Nat) (rows:List (List Nat)),ds=[kd rows]/\eV R S rows/\0<R/\R<=41/\S<=41/\∀t:Str,Txt.split t "\n"=rows.map cO->t.length<10000->Q (.fz (.str t))
def Ay:TX:=(gr (dM "str" pA (dC (.str "\n")) (bM (jE (jA (bK 0)) [none] (cX 0) ju (dM "str" pA (dC (.str "")) (bM (bK 0) bU))) bU)))
theorem NT(ds:List D)(Qr:R->Prop)(hl:ds.length=1)(h:uU ds Qr):Ay { nx:=fun _=>Qr (.fz .non),rt:=Qr } (fQ ["_law_grid"] ds):=by
 obtain⟨R,S,rows,rfl,P,rF,hR,hS,q⟩:=h;show Ay _ [.fz (kd rows)];unfold Ay kd;have big:=fV;have e1:∀L:List Nat,((L.map fun c=>(⟨#[c]⟩:Str)).map fun x=>x.length).sum=L.length:=fun L=>by
  induction L with
  | nil=>rfl
  | cons a r ih=>rw[ao,ao,List.sum_cons,ih,aI];show 1+r.length=_;omega
 walk_at "px";refine⟨rfl,?_⟩;refine nP rows (fun l=>.lst (l.map fw)) (fun l=>.str (cO l)) (fun Q' h=>?_) (by have:=P.len;omega) (fun l hm K1 k1=>?_) ?_
 ·walk_at "px";unfold cM;rw[aE];exact h
 ·walk_at "px";have e:l.map fw=(l.map fun c=>(⟨#[c]⟩:Str)).map D.str:=by rw[aE];rfl
  rw[e];simp only[ya];rw[FL,e1,ae,show(Str.ofString "").length=0 by decide +kernel];have:=P.dY l hm;exact⟨rfl,by omega,k1⟩
 ·have e:rows.map (fun l=>D.str (cO l))=(rows.map cO).map D.str:=by rw[aE];rfl
  rw[e];simp only[pA,zA,ya];have hl:(rows.map cO).map (fun s=>s.cps.toList)=rows:=by
   rw[aE];have:(fun s:Str=>s.cps.toList)∘cO=id:=funext fun l=>by simp[cO]
   rw[this,List.map_id]
  have hc:(Txt.join "\n" (rows.map cO)).cps.toList=lG 10 rows:=by rw[Dm,Ac,hl]
  have hf:∀a∈rows,10∉a:=fun a ha QR=>by
   have:=(P.rb (by omega) (by omega)).f7 a ha 10 QR;revert this
   decide
  have h1:∀a∈rows,a.length<=41:=fun a ha=>by rw[P.dY a ha];exact hS
  have h2:=FF 10 41 rows h1;have h3:=P.len;have h4:rows.length*(41+1)<=41*42:=Nat.mul_le_mul (by omega) (by omega);refine⟨?_,q _ ?_ ?_⟩
  ·have:((rows.map cO).map (·.length)).sum<=rows.length*41:=by
    rw[aE];have:∀l:List (List Nat),(∀a∈l,a.length<=41)->(l.map ((fun x:Str=>x.length)∘cO)).sum<=l.length*41:=fun l=>by
     induction l with
     | nil=>intro _;simp
     | cons a r ih=>
      intro h;rw[ao,List.sum_cons,aI,Nat.succ_mul];have:=ih fun b hb=>h b (au _ hb)
      have h5:=h a aH;have:(cO a).length=a.length:=by simp[cO,Str.length]
      simp only[Function.comp_apply];omega
    exact this rows h1
   rw[ae,show(Str.ofString "\n").length=1 by decide +kernel];omega
  ·have:=LW (Txt.join "\n" (rows.map cO)) 10;rw[hc,Ad 10 rows (P.ne rF) hf,<-Dm] at this;have e2:cO∘(fun s:Str=>s.cps.toList)=id:=funext fun s=>DG s
   have:=congrArg (List.map cO) this;rw[aE,e2,List.map_id] at this;exact this
  ·have:(Txt.join "\n" (rows.map cO)).length=(lG 10 rows).length:=by rw[<-hc];simp[Str.length]
   rw[this];omega
end Wc
namespace Wc
open PySem L2 PyProof.Rows
end Wc
open PySem L2 PyProof.Rows Wc
local macro_rules | `(tactic| walk_at "px")=>`(tactic| (repeat(first | walk_at "b" | simp only[sh])))
namespace Wc
open PySem L2 PyProof.Rows
noncomputable def fP(n:N3):D:=.tup [.int (n.1:Nat),.int (n.2.1:Nat),.int (n.2.2:Nat)]
noncomputable def g5(p:N3×N3):D:=.tup [fP p.1,fP p.2]
noncomputable def iC(R S:Nat)(g:Nat->Nat->Nat)(r s:Nat):List (N3×N3):=
 dn (fM (g r s)=true/\s+1<S/\fM (g r (s+1))=true) ((r,s,0),(r,s+1,0))++dn (fZ (g r s)=true/\r+1<R/\fZ (g (r+1) s)=true) ((r,s,1),(r+1,s,1))++dn (g r s=43) ((r,s,0),(r,s,1))
noncomputable def qQ(R S:Nat)(g:Nat->Nat->Nat):List (N3×N3):=(List.range R).flatMap fun r=>(List.range S).flatMap fun s=>iC R S g r s
theorem Ej{α:Type}{b:Prop}[Decidable b]{x y:α}:x∈dn b y↔b/\x=y:=⟨uu,fun⟨h,e⟩=>by unfold dn;rw[if_pos h,e];simp⟩
theorem Ei(R S:Nat)(g:Nat->Nat->Nat):rR R S g (qQ R S g):=by
 intro p;unfold qQ;simp only[List.mem_flatMap,List.mem_range];constructor
 ·rintro⟨r,hr,s,hs,hp⟩;refine⟨r,s,hr,hs,?_⟩;unfold iC at hp;simp only[aD,Ej] at hp;unfold xv;rcases hp with(hp | hp) | hp
  ·exact .inl ⟨hp.1.1,hp.1.2.1,hp.1.2.2,hp.2⟩
  ·exact .inr (.inl ⟨hp.1.1,hp.1.2.1,hp.1.2.2,hp.2⟩)
  ·exact .inr (.inr hp)
 ·rintro⟨r,s,hr,hs,hp⟩;refine⟨r,hr,s,hs,?_⟩;unfold iC;simp only[aD,Ej];unfold xv at hp;rcases hp with hp | hp | hp
  ·exact .inl (.inl ⟨⟨hp.1,hp.2.1,hp.2.2.1⟩,hp.2.2.2⟩)
  ·exact .inl (.inr ⟨⟨hp.1,hp.2.1,hp.2.2.1⟩,hp.2.2.2⟩)
  ·exact .inr hp
theorem Ju(R S:Nat)(g:Nat->Nat->Nat)(r s:Nat):(iC R S g r s).length<=3:=by
 unfold iC dn;split<;>split<;>split<;>simp
theorem Eh(R S:Nat)(g:Nat->Nat->Nat)(r n:Nat):((List.range n).flatMap fun s=>iC R S g r s).length<=n*3:=by
 have:=sC (Ju R S g r) (List.range n);simpa using this
theorem Fp(R S:Nat)(g:Nat->Nat->Nat)(n:Nat):((List.range n).flatMap fun r=>(List.range S).flatMap fun s=>iC R S g r s).length<=n*(S*3):=by
 have:=sC (f:=fun r=>(List.range S).flatMap fun s=>iC R S g r s) (fun r=>Eh R S g r S) (List.range n);simpa using this
theorem qE{α:Type}{b:Prop}[Decidable b]{x:α}(h:b):dn b x=[x]:=if_pos h
theorem ur{α:Type}(b:Prop)[Decidable b](x:α):(dn b x).length<=1:=by
 unfold dn;split<;>simp
theorem xC{w:Str}{p:Nat->Bool}{x:Nat}(h:jS w x=p x):(Builtin.Str.occurrences w ⟨#[x]⟩ 0 w.length 1).isEmpty=!(p x):=by
 rw[<-h];unfold jS;rw[Bool.not_not]
section
variable {D0:DE} {rows:List (List Nat)} {R S r s:Nat} {L:List (N3×N3)} {l0 lr:List Nat}
theorem uA(hg:gv rows r s∈f7)(h0:cT (cM rows) 0=some (l0.map fw))(mq:l0.length=S)(h1:cT (cM rows) (r:Int)=some (lr.map fw))(h2:s+1<S->cT lr ((s+1:Nat):Int)=some (gv rows r (s+1)))(h3:s+1<S->gv rows r (s+1)∈f7)(hL:L.length<=9000)
  (q:D0.nx [Sl.fz (D.lst ((cM rows).map D.lst)),Sl.ow ((L++dn (fM (gv rows r s)=true/\s+1<S/\fM (gv rows r (s+1))=true) (((r,s,0),(r,s+1,0)):N3×N3)).map g5),Sl.fz (D.int (r:Nat)),Sl.fz (D.int (s:Nat)),Sl.fz (fw (gv rows r s))]) :
  (eU (jq (cQ (bQ (jC false) (bK 4) (dC (.str "-+#")))) (jq (cQ (bQ (fT fun i j=>.bl (decide (i<j))) (bQ ez (bK 3) (dC (.int 1))) (eC gM (bM (bQ cR (bK 0) (dC (.int 0))) bU)))) (cQ (bQ (jC false) (bQ cR (bQ cR (bK 0) (bK 2)) (bQ ez (bK 3) (dC (.int 1)))) (dC (.str "-+#")))))) (iK 1 (dN (bM (dN (bM (bK 2) (bM (bK 3) (bM (dC (.int 0)) bU)))) (bM (dN (bM (bK 2) (bM (bQ ez (bK 3) (dC (.int 1))) (bM (dC (.int 0)) bU)))) bU)))) eX) D0 [Sl.fz (D.lst ((cM rows).map D.lst)),Sl.ow (L.map g5),Sl.fz (D.int (r:Nat)),Sl.fz (D.int (s:Nat)),Sl.fz (fw (gv rows r s))]:=by
 have big:=fV;rw[show fw (gv rows r s)=D.str ⟨#[gv rows r s]⟩ from rfl] at q ⊢;walk_at "px";rw[xC (xj _ hg),Bool.not_not];by_cases c1:fM (gv rows r s)=true
 ·rw[if_pos c1];refine⟨_,h0,?_⟩;rw[ae,mq];by_cases c2:s+1<S
  ·rw[if_pos (by omega)];refine⟨_,h1,D.str ⟨#[gv rows r (s+1)]⟩,?_,?_⟩
   ·have:=h2 c2;rw[show((s:Int)+1)=((s+1:Nat):Int) by omega,nQ,this];rfl
   ·show(if (!(Builtin.Str.occurrences "-+#" ⟨#[gv rows r (s+1)]⟩ 0 ("-+#":Str).length 1).isEmpty)=true then _ else _);rw[xC (xj _ (h3 c2)),Bool.not_not];by_cases c3:fM (gv rows r (s+1))=true
    ·rw[if_pos c3];rw[qE ⟨c1,c2,c3⟩,aA] at q;exact⟨by omega,by omega,by omega,by rw[ae];omega,q⟩
    ·rw[if_neg c3];rw[mQ _ (fun z=>c3 z.2.2),aZ] at q;exact q
  ·rw[if_neg (by omega)];rw[mQ _ (fun z=>c2 z.2.1),aZ] at q;exact q
 ·rw[if_neg c1];rw[mQ _ (fun z=>c1 z.1),aZ] at q;exact q
theorem uB(rq:((cM rows).map D.lst).length=R)(hg:gv rows r s∈f7)(h1:r+1<R->cT (cM rows) ((r+1:Nat):Int)=some ((rows.getD (r+1) []).map fw))(h2:r+1<R->cT (rows.getD (r+1) []) (s:Int)=some (gv rows (r+1) s))(h3:r+1<R->gv rows (r+1) s∈f7)(hL:L.length<=9001)
  (q:D0.nx [Sl.fz (D.lst ((cM rows).map D.lst)),Sl.ow ((L++dn (fZ (gv rows r s)=true/\r+1<R/\fZ (gv rows (r+1) s)=true) (((r,s,1),(r+1,s,1)):N3×N3)).map g5),Sl.fz (D.int (r:Nat)),Sl.fz (D.int (s:Nat)),Sl.fz (fw (gv rows r s))]) :
  (eU (jq (cQ (bQ (jC false) (bK 4) (dC (.str "|+#")))) (jq (cQ (bQ (fT fun i j=>.bl (decide (i<j))) (bQ ez (bK 2) (dC (.int 1))) (eC gM (bM (bK 0) bU)))) (cQ (bQ (jC false) (bQ cR (bQ cR (bK 0) (bQ ez (bK 2) (dC (.int 1)))) (bK 3)) (dC (.str "|+#")))))) (iK 1 (dN (bM (dN (bM (bK 2) (bM (bK 3) (bM (dC (.int 1)) bU)))) (bM (dN (bM (bQ ez (bK 2) (dC (.int 1))) (bM (bK 3) (bM (dC (.int 1)) bU)))) bU)))) eX) D0 [Sl.fz (D.lst ((cM rows).map D.lst)),Sl.ow (L.map g5),Sl.fz (D.int (r:Nat)),Sl.fz (D.int (s:Nat)),Sl.fz (fw (gv rows r s))]:=by
 have big:=fV;rw[show fw (gv rows r s)=D.str ⟨#[gv rows r s]⟩ from rfl] at q ⊢;walk_at "px";rw[xC (xi _ hg),Bool.not_not,rq];by_cases c1:fZ (gv rows r s)=true
 ·rw[if_pos c1];by_cases c2:r+1<R
  ·rw[if_pos (by omega)];refine⟨_,by rw[show((r:Int)+1)=((r+1:Nat):Int) by omega];exact h1 c2,D.str ⟨#[gv rows (r+1) s]⟩,?_,?_⟩
   ·rw[nQ,h2 c2];rfl
   ·show(if (!(Builtin.Str.occurrences "|+#" ⟨#[gv rows (r+1) s]⟩ 0 ("|+#":Str).length 1).isEmpty)=true then _ else _);rw[xC (xi _ (h3 c2)),Bool.not_not];by_cases c3:fZ (gv rows (r+1) s)=true
    ·rw[if_pos c3];rw[qE ⟨c1,c2,c3⟩,aA] at q;exact⟨by omega,by omega,by omega,by rw[ae];omega,q⟩
    ·rw[if_neg c3];rw[mQ _ (fun z=>c3 z.2.2),aZ] at q;exact q
  ·rw[if_neg (by omega)];rw[mQ _ (fun z=>c2 z.2.1),aZ] at q;exact q
 ·rw[if_neg c1];rw[mQ _ (fun z=>c1 z.1),aZ] at q;exact q
theorem uC(hL:L.length<=9002)(q:D0.nx [Sl.fz (D.lst ((cM rows).map D.lst)),Sl.ow ((L++dn (gv rows r s=43) (((r,s,0),(r,s,1)):N3×N3)).map g5),Sl.fz (D.int (r:Nat)),Sl.fz (D.int (s:Nat)),Sl.fz (fw (gv rows r s))]) :
  (eU (cQ (bQ oEq (bK 4) (dC (.str "+")))) (iK 1 (dN (bM (dN (bM (bK 2) (bM (bK 3) (bM (dC (.int 0)) bU)))) (bM (dN (bM (bK 2) (bM (bK 3) (bM (dC (.int 1)) bU)))) bU)))) eX) D0 [Sl.fz (D.lst ((cM rows).map D.lst)),Sl.ow (L.map g5),Sl.fz (D.int (r:Nat)),Sl.fz (D.int (s:Nat)),Sl.fz (fw (gv rows r s))]:=by
 have big:=fV;rw[show fw (gv rows r s)=D.str ⟨#[gv rows r s]⟩ from rfl] at q ⊢;walk_at "px";by_cases c1:gv rows r s=43
 ·rw[if_pos (by rw[c1];decide +kernel)];rw[qE c1,aA] at q;exact⟨by omega,by omega,by omega,by rw[ae];omega,q⟩
 ·rw[if_neg (fun z=>c1 (by
   have:=congrArg (fun x:Str=>x.cps.toList) z;rw[show("+":Str).cps.toList=[43] by decide +kernel] at this;simpa using this))]
  rw[mQ _ c1,aZ] at q;exact q
end
def uT:ei:=fun ds Q=>∃(R S:Nat) (rows:List (List Nat)),ds=[kd rows]/\eV R S rows/\0<R/\R<=41/\S<=41/\Q (.ow ((qQ R S (gv rows)).map g5))
def Ax:TX:=(cq (jB 1 (ic bU))
 (cq (gN (nK (bM (eC gM (bM (bK 0) bU)) bU)) (cX 2) (gN (nK (bM (eC gM (bM (bQ cR (bK 0) (dC (.int 0))) bU)) bU)) (cX 3) (cq (eM 4 (bQ cR (bQ cR (bK 0) (bK 2)) (bK 3)))
 (cq (eU (jq (cQ (bQ (jC false) (bK 4) (dC (.str "-+#")))) (jq (cQ (bQ (fT fun i j=>.bl (decide (i<j))) (bQ ez (bK 3) (dC (.int 1))) (eC gM (bM (bQ cR (bK 0) (dC (.int 0))) bU)))) (cQ (bQ (jC false) (bQ cR (bQ cR (bK 0) (bK 2)) (bQ ez (bK 3) (dC (.int 1)))) (dC (.str "-+#")))))) (iK 1 (dN (bM (dN (bM (bK 2) (bM (bK 3) (bM (dC (.int 0)) bU)))) (bM (dN (bM (bK 2) (bM (bQ ez (bK 3) (dC (.int 1))) (bM (dC (.int 0)) bU)))) bU)))) eX)
 (cq (eU (jq (cQ (bQ (jC false) (bK 4) (dC (.str "|+#")))) (jq (cQ (bQ (fT fun i j=>.bl (decide (i<j))) (bQ ez (bK 2) (dC (.int 1))) (eC gM (bM (bK 0) bU)))) (cQ (bQ (jC false) (bQ cR (bQ cR (bK 0) (bQ ez (bK 2) (dC (.int 1)))) (bK 3)) (dC (.str "|+#")))))) (iK 1 (dN (bM (dN (bM (bK 2) (bM (bK 3) (bM (dC (.int 1)) bU)))) (bM (dN (bM (bQ ez (bK 2) (dC (.int 1))) (bM (bK 3) (bM (dC (.int 1)) bU)))) bU)))) eX)
 (eU (cQ (bQ oEq (bK 4) (dC (.str "+")))) (iK 1 (dN (bM (dN (bM (bK 2) (bM (bK 3) (bM (dC (.int 0)) bU)))) (bM (dN (bM (bK 2) (bM (bK 3) (bM (dC (.int 1)) bU)))) bU)))) eX))))))
 (pC 1)))
theorem NS(ds:List D)(Qr:R->Prop)(hl:ds.length=1)(h:uT ds Qr):Ax { nx:=fun _=>Qr (.fz .non),rt:=Qr } (fQ ["_law_grid","_law_pairs_here","_law_r","_law_s","_law_sign"] ds):=by
 obtain⟨R,S,rows,rfl,P,rF,hR,hS,q⟩:=h;show Ax _ [.fz (kd rows),.un,.un,.un,.un];unfold Ax;have big:=fV;have hg:(cM rows).length=R:=by unfold cM;rw[ae,P.len]
 have rq:((cM rows).map D.lst).length=R:=by rw[ae,hg]
 have zr:∀(n:Nat),n<1000->∀Q':List D->Prop,Q' ((List.range n).map fun(i:Nat)=>.int (0+i))->-4611686018427387904<=(n:Int)/\(n:Int)<4611686018427387904/\Q' ((List.range (n:Int).toNat).map fun(i:Nat)=>D.int (0+i)):=fun n hn Q' h=>⟨by omega,by omega,by rw[Int.toNat_natCast];exact h⟩
 have mF:∀r,r<R->cT (cM rows) (r:Int)=some ((rows.getD r []).map fw):=fun r hr=>by
  rw[qB (by omega),ui (by rw[P.len];exact hr)]
 have hlen:∀r,r<R->(rows.getD r []).length=S:=fun r hr=>by
  have h1:r<rows.length:=by rw[P.len];exact hr
  have hm:rows.getD r []∈rows:=by
   rw[af,ab h1,aX];exact bg _
  exact P.dY _ hm
 have at2:∀r s,r<R->s<S->cT (rows.getD r []) (s:Int)=some (gv rows r s):=fun r s hr hs=>by
  rw[qB (by rw[hlen r hr];exact hs)];have h1:r<rows.length:=by rw[P.len];exact hr
  exact mh P.len P.dY (by rw[af,ab h1];rfl) hs
 have oO:∀r s,r<R->s<S->gv rows r s∈f7:=fun r s hr hs=>by
  have:=P.sg hr hs;revert this
  simp only[f7,ar,List.not_mem_nil,or_false];omega
 unfold kd;walk_at "px";walk_at "go";refine⟨by omega,?_⟩;refine sH R (fun Q' h=>?_) (fun i ρ=>∃a b c:Sl,ρ=[.fz (.lst ((cM rows).map .lst)),.ow (((List.range i).flatMap fun r=>(List.range S).flatMap fun s=>iC R S (gv rows) r s).map g5),a,b,c]) ⟨_,_,_,rfl⟩ ?_ ?_
 ·walk_at "px";rw[rq];exact zr R (by omega) Q' h
 ·rintro r ρ hr ⟨a,b,c,rfl⟩;walk_at "px";refine sH S (fun Q' h=>?_) (fun j ρ=>∃b c:Sl,ρ=[.fz (.lst ((cM rows).map .lst)),.ow ((((List.range r).flatMap fun r=>(List.range S).flatMap fun s=>iC R S (gv rows) r s)++(List.range j).flatMap fun s=>iC R S (gv rows) r s).map g5),.fz (.int r),b,c]) ⟨b,c,by simp⟩ ?_ ?_
  ·walk_at "px";refine⟨_,mF 0 rF,?_⟩;walk_at "px";rw[ae,hlen 0 rF];exact zr S (by omega) Q' h
  ·rintro s ρ hs ⟨b,c,rfl⟩;walk_at "px";refine⟨_,mF r hr,?_⟩;walk_at "px";refine⟨_,at2 r s hr hs,?_⟩;have QH:(((List.range r).flatMap fun r=>(List.range S).flatMap fun s=>iC R S (gv rows) r s)++(List.range s).flatMap fun s=>iC R S (gv rows) r s).length<=9000:=by
    have h1:=Fp R S (gv rows) r;have h2:=Eh R S (gv rows) r s;have h3:r*(S*3)<=41*123:=Nat.mul_le_mul (by omega) (by omega);rw[aC];omega
   have fin:∀c':Sl,∃b c:Sl,[Sl.fz (.lst ((cM rows).map .lst)),.ow (((((List.range r).flatMap fun r=>(List.range S).flatMap fun s=>iC R S (gv rows) r s)++(List.range s).flatMap fun s=>iC R S (gv rows) r s)++iC R S (gv rows) r s).map g5),.fz (.int r),.fz (.int s),c'] =
     [.fz (.lst ((cM rows).map .lst)),.ow ((((List.range r).flatMap fun r=>(List.range S).flatMap fun s=>iC R S (gv rows) r s)++(List.range (s+1)).flatMap fun s=>iC R S (gv rows) r s).map g5),.fz (.int r),b,c]:=fun c'=>⟨.fz (.int s),c',by
    rw[List.range_succ,bB];simp⟩
   generalize (((List.range r).flatMap fun r=>(List.range S).flatMap fun s=>iC R S (gv rows) r s)++(List.range s).flatMap fun s=>iC R S (gv rows) r s)=L at QH fin ⊢;have Rx:∀(w:Str) (p:Nat->Bool) (x:Nat),jS w x=p x->(Builtin.Str.occurrences w ⟨#[x]⟩ 0 w.length 1).isEmpty=!(p x):=fun w p x h=>by
    rw[<-h];unfold jS;rw[Bool.not_not]
   simp only[rS,cq];refine uA (oO r s hr hs) (mF 0 rF) (hlen 0 rF) (mF r hr) (fun h=>at2 r (s+1) hr h) (fun h=>oO r (s+1) hr h) (by omega) ?_;refine uB rq (oO r s hr hs) (fun h=>mF (r+1) h) (fun h=>at2 (r+1) s h hs) (fun h=>oO (r+1) s h hs) (by rw[aC];have:=ur (fM (gv rows r s)=true/\s+1<S/\fM (gv rows r (s+1))=true) (((r,s,0),(r,s+1,0)):N3×N3);omega) ?_;refine uC (by rw[aC,aC];have:=ur (fM (gv rows r s)=true/\s+1<S/\fM (gv rows r (s+1))=true) (((r,s,0),(r,s+1,0)):N3×N3);have:=ur (fZ (gv rows r s)=true/\r+1<R/\fZ (gv rows (r+1) s)=true) (((r,s,1),(r+1,s,1)):N3×N3);omega) ?_;have:=fin (.fz (fw (gv rows r s)));unfold iC at this;rw[List.append_assoc L,List.append_assoc L];exact this
  ·rintro ρ ⟨b,c,rfl⟩;refine⟨.fz (.int r),b,c,?_⟩;rw[List.range_succ,bB];simp
 ·rintro ρ ⟨a,b,c,rfl⟩;walk_at "go";exact q
end Wc
namespace Wc
open PySem L2 PyProof.Rows
noncomputable def l6(q:N3×b8):D:=.lst [dA q.2,fP q.1]
theorem xB{c x:Nat}{w:Str}(h:w.cps.toList=[x]):((⟨#[c]⟩:Str)=w)↔c=x:=by
 constructor
 ·intro e;have:=congrArg (fun s:Str=>s.cps.toList) e;simp only[h] at this;simpa using this
 ·rintro rfl;exact(Dz h).symm
theorem Eg:("|":Str).cps.toList=[124]:=by decide +kernel
theorem Fo:("-":Str).cps.toList=[45]:=by decide +kernel
theorem vA{D0:DE}{rows:List (List Nat)}{R S k:Nat}{L:List (N3×b8)}{a:Sl}{l:List D}(h0:cT (cM rows) 0=some l)(h1:cT l ((2*k+1:Nat):Int)=some (D.str ⟨#[gv rows 0 (2*k+1)]⟩))(hL:L.length<=100)
  (q:D0.nx [.fz (.lst ((cM rows).map .lst)),.ow ((L++dn (gv rows 0 (2*k+1)=124) (((0,2*k+1,1),("top",((k:Nat):Int))):N3×b8)).map l6),.fz (.int ((R-1:Nat):Int)),.fz (.int ((2*k+1:Nat):Int)),a]):(eU (cQ (bQ oEq (bQ cR (bQ cR (bK 0) (dC (.int 0))) (bK 3)) (dC (.str "|")))) (iK 1 (ic (bM (dN (bM (dC (.str "top")) (bM (bQ (oI kh fun i j=>.int (i/j)) (bK 3) (dC (.int 2))) bU))) (bM (dN (bM (dC (.int 0)) (bM (bK 3) (bM (dC (.int 1)) bU)))) bU)))) eX) D0 [.fz (.lst ((cM rows).map .lst)),.ow (L.map l6),.fz (.int ((R-1:Nat):Int)),.fz (.int ((2*k+1:Nat):Int)),a]:=by
 have big:=fV;have dv:((2*k+1:Nat):Int)/2=(k:Int):=by omega
 walk_at "px";refine⟨_,h0,_,h1,?_⟩;refine⟨by rw[sy];trivial,?_⟩;simp only[uD,aW,xB Eg];by_cases c:gv rows 0 (2*k+1)=124
 ·rw[if_pos c];rw[qE c,aA] at q;rw[dv];exact⟨by omega,by omega,by omega,by rw[ae];omega,q⟩
 ·rw[if_neg c];rw[mQ _ c,aZ] at q;exact q
theorem vB{D0:DE}{rows:List (List Nat)}{R S k:Nat}{L:List (N3×b8)}{a:Sl}{l:List D}(h0:cT (cM rows) ((R-1:Nat):Int)=some l)(h1:cT l ((2*k+1:Nat):Int)=some (D.str ⟨#[gv rows (R-1) (2*k+1)]⟩))(hL:L.length<=100)
  (q:D0.nx [.fz (.lst ((cM rows).map .lst)),.ow ((L++dn (gv rows (R-1) (2*k+1)=124) (((R-1,2*k+1,1),("bottom",((k:Nat):Int))):N3×b8)).map l6),.fz (.int ((R-1:Nat):Int)),.fz (.int ((2*k+1:Nat):Int)),a]):(eU (cQ (bQ oEq (bQ cR (bQ cR (bK 0) (bK 2)) (bK 3)) (dC (.str "|")))) (iK 1 (ic (bM (dN (bM (dC (.str "bottom")) (bM (bQ (oI kh fun i j=>.int (i/j)) (bK 3) (dC (.int 2))) bU))) (bM (dN (bM (bK 2) (bM (bK 3) (bM (dC (.int 1)) bU)))) bU)))) eX) D0 [.fz (.lst ((cM rows).map .lst)),.ow (L.map l6),.fz (.int ((R-1:Nat):Int)),.fz (.int ((2*k+1:Nat):Int)),a]:=by
 have big:=fV;have dv:((2*k+1:Nat):Int)/2=(k:Int):=by omega
 walk_at "px";refine⟨_,h0,_,h1,?_⟩;refine⟨by rw[sy];trivial,?_⟩;simp only[uD,aW,xB Eg];by_cases c:gv rows (R-1) (2*k+1)=124
 ·rw[if_pos c];rw[qE c,aA] at q;rw[dv];exact⟨by omega,by omega,by omega,by rw[ae];omega,q⟩
 ·rw[if_neg c];rw[mQ _ c,aZ] at q;exact q
theorem vC{D0:DE}{rows:List (List Nat)}{R S k:Nat}{L:List (N3×b8)}{a:Sl}{l:List D}(h0:cT (cM rows) ((2*k+1:Nat):Int)=some l)(h1:cT l 0=some (D.str ⟨#[gv rows (2*k+1) 0]⟩))(hL:L.length<=100)
  (q:D0.nx [.fz (.lst ((cM rows).map .lst)),.ow ((L++dn (gv rows (2*k+1) 0=45) (((2*k+1,0,0),("left",((k:Nat):Int))):N3×b8)).map l6),.fz (.int ((R-1:Nat):Int)),a,.fz (.int ((2*k+1:Nat):Int))]):(eU (cQ (bQ oEq (bQ cR (bQ cR (bK 0) (bK 4)) (dC (.int 0))) (dC (.str "-")))) (iK 1 (ic (bM (dN (bM (dC (.str "left")) (bM (bQ (oI kh fun i j=>.int (i/j)) (bK 4) (dC (.int 2))) bU))) (bM (dN (bM (bK 4) (bM (dC (.int 0)) (bM (dC (.int 0)) bU)))) bU)))) eX) D0 [.fz (.lst ((cM rows).map .lst)),.ow (L.map l6),.fz (.int ((R-1:Nat):Int)),a,.fz (.int ((2*k+1:Nat):Int))]:=by
 have big:=fV;have dv:((2*k+1:Nat):Int)/2=(k:Int):=by omega
 walk_at "px";refine⟨_,h0,_,h1,?_⟩;refine⟨by rw[sy];trivial,?_⟩;simp only[uD,aW,xB Fo];by_cases c:gv rows (2*k+1) 0=45
 ·rw[if_pos c];rw[qE c,aA] at q;rw[dv];exact⟨by omega,by omega,by omega,by rw[ae];omega,q⟩
 ·rw[if_neg c];rw[mQ _ c,aZ] at q;exact q
theorem vD{D0:DE}{rows:List (List Nat)}{R S k:Nat}{L:List (N3×b8)}{a:Sl}{l l0:List D}(GW:cT (cM rows) 0=some l0)(mq:((l0.length:Int)-1)=((S-1:Nat):Int))(h0:cT (cM rows) ((2*k+1:Nat):Int)=some l)(h1:cT l ((S-1:Nat):Int)=some (D.str ⟨#[gv rows (2*k+1) (S-1)]⟩))(hL:L.length<=100)
  (q:D0.nx [.fz (.lst ((cM rows).map .lst)),.ow ((L++dn (gv rows (2*k+1) (S-1)=45) (((2*k+1,S-1,0),("right",((k:Nat):Int))):N3×b8)).map l6),.fz (.int ((R-1:Nat):Int)),a,.fz (.int ((2*k+1:Nat):Int))]):(eU (cQ (bQ oEq (bQ cR (bQ cR (bK 0) (bK 4)) (bQ (fT fun i j=>.int (i-j)) (eC gM (bM (bQ cR (bK 0) (dC (.int 0))) bU)) (dC (.int 1)))) (dC (.str "-")))) (iK 1 (ic (bM (dN (bM (dC (.str "right")) (bM (bQ (oI kh fun i j=>.int (i/j)) (bK 4) (dC (.int 2))) bU))) (bM (dN (bM (bK 4) (bM (bQ (fT fun i j=>.int (i-j)) (eC gM (bM (bQ cR (bK 0) (dC (.int 0))) bU)) (dC (.int 1))) (bM (dC (.int 0)) bU)))) bU)))) eX) D0 [.fz (.lst ((cM rows).map .lst)),.ow (L.map l6),.fz (.int ((R-1:Nat):Int)),a,.fz (.int ((2*k+1:Nat):Int))]:=by
 have big:=fV;have dv:((2*k+1:Nat):Int)/2=(k:Int):=by omega
 walk_at "px";refine⟨_,h0,_,GW,D.str ⟨#[gv rows (2*k+1) (S-1)]⟩,by rw[mq];exact h1,by rw[sy];trivial,?_⟩;simp only[uD,aW,xB Fo];by_cases c:gv rows (2*k+1) (S-1)=45
 ·rw[if_pos c];rw[qE c,aA] at q;refine⟨by omega,_,GW,by omega,by omega,by rw[ae];omega,?_⟩;rw[dv,mq];exact q
 ·rw[if_neg c];rw[mQ _ c,aZ] at q;exact q
def uO:ei:=fun ds Q=>∃(R S:Nat) (rows:List (List Nat)),ds=[kd rows]/\eV R S rows/\R%2=1/\S%2=1/\R<=41/\S<=41/\Q (.ow ((iB R S (gv rows)++jQ R S (gv rows)).map l6))
def AG:TX:=(cq (jB 1 (ic bU))
 (cq (eM 2 (bQ (fT fun i j=>.int (i-j)) (eC gM (bM (bK 0) bU)) (dC (.int 1))))
 (cq (gN (sh (bM (dC (.int 1)) (bM (eC gM (bM (bQ cR (bK 0) (dC (.int 0))) bU)) (bM (dC (.int 2)) bU)))) (cX 3) (cq (eU (cQ (bQ oEq (bQ cR (bQ cR (bK 0) (dC (.int 0))) (bK 3)) (dC (.str "|")))) (iK 1 (ic (bM (dN (bM (dC (.str "top")) (bM (bQ (oI kh fun i j=>.int (i/j)) (bK 3) (dC (.int 2))) bU))) (bM (dN (bM (dC (.int 0)) (bM (bK 3) (bM (dC (.int 1)) bU)))) bU)))) eX)
 (eU (cQ (bQ oEq (bQ cR (bQ cR (bK 0) (bK 2)) (bK 3)) (dC (.str "|")))) (iK 1 (ic (bM (dN (bM (dC (.str "bottom")) (bM (bQ (oI kh fun i j=>.int (i/j)) (bK 3) (dC (.int 2))) bU))) (bM (dN (bM (bK 2) (bM (bK 3) (bM (dC (.int 1)) bU)))) bU)))) eX)))
 (cq (gN (sh (bM (dC (.int 1)) (bM (eC gM (bM (bK 0) bU)) (bM (dC (.int 2)) bU)))) (cX 4) (cq (eU (cQ (bQ oEq (bQ cR (bQ cR (bK 0) (bK 4)) (dC (.int 0))) (dC (.str "-")))) (iK 1 (ic (bM (dN (bM (dC (.str "left")) (bM (bQ (oI kh fun i j=>.int (i/j)) (bK 4) (dC (.int 2))) bU))) (bM (dN (bM (bK 4) (bM (dC (.int 0)) (bM (dC (.int 0)) bU)))) bU)))) eX)
 (eU (cQ (bQ oEq (bQ cR (bQ cR (bK 0) (bK 4)) (bQ (fT fun i j=>.int (i-j)) (eC gM (bM (bQ cR (bK 0) (dC (.int 0))) bU)) (dC (.int 1)))) (dC (.str "-")))) (iK 1 (ic (bM (dN (bM (dC (.str "right")) (bM (bQ (oI kh fun i j=>.int (i/j)) (bK 4) (dC (.int 2))) bU))) (bM (dN (bM (bK 4) (bM (bQ (fT fun i j=>.int (i-j)) (eC gM (bM (bQ cR (bK 0) (dC (.int 0))) bU)) (dC (.int 1))) (bM (dC (.int 0)) bU)))) bU)))) eX)))
 (pC 1)))))
theorem N6(ds:List D)(Qr:R->Prop)(hl:ds.length=1)(h:uO ds Qr):AG { nx:=fun _=>Qr (.fz .non),rt:=Qr } (fQ ["_law_grid","_law_ends_here","_law_last","_law_s","_law_r"] ds):=by
 obtain⟨R,S,rows,rfl,P,oR,oS,hR,hS,q⟩:=h;show AG _ [.fz (kd rows),.un,.un,.un,.un];unfold AG;have big:=fV;have hg:(cM rows).length=R:=by unfold cM;rw[ae,P.len]
 have rq:((cM rows).map D.lst).length=R:=by rw[ae,hg]
 have mF:∀r,r<R->cT (cM rows) (r:Int)=some ((rows.getD r []).map fw):=fun r hr=>by
  rw[qB (by omega),ui (by rw[P.len];exact hr)]
 have hlen:∀r,r<R->(rows.getD r []).length=S:=fun r hr=>by
  have h1:r<rows.length:=by rw[P.len];exact hr
  have hm:rows.getD r []∈rows:=by
   rw[af,ab h1,aX];exact bg _
  exact P.dY _ hm
 have at2:∀r s,r<R->s<S->cT ((rows.getD r []).map fw) (s:Int)=some (D.str ⟨#[gv rows r s]⟩):=fun r s hr hs=>by
  have h1:r<rows.length:=by rw[P.len];exact hr
  have:=mh P.len P.dY (rows:=rows) (r:=r) (l:=rows.getD r []) (by rw[af,ab h1];rfl) hs;rw[nQ,qB (by rw[hlen r hr];exact hs),this];rfl
 have CA:=mF 0 (by omega);have lst:((R:Int)-1)=((R-1:Nat):Int):=by omega
 have Pq:((S:Int)-1)=((S-1:Nat):Int):=by omega
 have z1:∀n:Nat,n%2=1->(((n:Int)-1+1)/2).toNat=n/2:=fun n hn=>by omega
 unfold kd;walk_at "px";walk_at "go";rw[rq,lst];walk_at "go";refine⟨by omega,?_⟩;refine jG (List.range (S/2)) (fun n:Nat=>D.int (1+(n:Int)*2)) (fun Q' h=>?_) (fun i ρ=>∃a b:Sl,ρ=[.fz (.lst ((cM rows).map .lst)),.ow (((List.range i).flatMap fun k=>dn (gv rows 0 (2*k+1)=124) (((0,2*k+1,1),("top",((k:Nat):Int))):N3×b8)++dn (gv rows (R-1) (2*k+1)=124) (((R-1,2*k+1,1),("bottom",((k:Nat):Int))):N3×b8)).map l6),.fz (.int ((R-1:Nat):Int)),a,b]) ⟨_,_,rfl⟩ ?_ ?_
 ·walk_at "px";refine⟨_,CA,?_⟩;walk_at "px";rw[ae,hlen 0 (by omega),z1 S oS];exact⟨⟨by omega,by omega⟩,h⟩
 ·rintro i x ρ hi ⟨a,b,rfl⟩;obtain⟨dz,hx⟩:=ag.mp hi;have hx:i=x:=by simpa using hx
  subst hx;have oW:i<S/2:=by simpa using dz
  have ev:(1+(i:Int)*2)=((2*i+1:Nat):Int):=by omega
  rw[ev];have bl:=uI (fun k=>gv rows 0 (2*k+1)=124) (fun k=>gv rows (R-1) (2*k+1)=124) (fun k=>(((0,2*k+1,1),("top",((k:Nat):Int))):N3×b8)) (fun k=>((R-1,2*k+1,1),("bottom",((k:Nat):Int)))) i;simp only[cX,List.set,cq];refine vA (S:=S) CA (at2 0 (2*i+1) (by omega) (by omega)) (by omega) ?_;refine vB (S:=S) (mF (R-1) (by omega)) (at2 (R-1) (2*i+1) (by omega) (by omega)) (by rw[aC];have:=ur (gv rows 0 (2*i+1)=124) (((0,2*i+1,1),("top",((i:Nat):Int))):N3×b8);omega) ?_;refine⟨.fz (.int ((2*i+1:Nat):Int)),b,?_⟩;rw[List.range_succ,bB,List.flatMap_cons,List.flatMap_nil,aZ,List.append_assoc]
 ·rintro ρ ⟨a,b,rfl⟩;have OP:((List.range (S/2)).flatMap fun k=>dn (gv rows 0 (2*k+1)=124) (((0,2*k+1,1),("top",((k:Nat):Int))):N3×b8)++dn (gv rows (R-1) (2*k+1)=124) (((R-1,2*k+1,1),("bottom",((k:Nat):Int))):N3×b8))=iB R S (gv rows):=rfl;rw[List.length_range,OP];have tl:(iB R S (gv rows)).length<=50:=by
   have:=uI (fun k=>gv rows 0 (2*k+1)=124) (fun k=>gv rows (R-1) (2*k+1)=124) (fun k=>(((0,2*k+1,1),("top",((k:Nat):Int))):N3×b8)) (fun k=>((R-1,2*k+1,1),("bottom",((k:Nat):Int)))) (S/2);unfold iB;omega
  walk_at "go";refine jG (List.range (R/2)) (fun n:Nat=>D.int (1+(n:Int)*2)) (fun Q' h=>?_) (fun i ρ=>∃a b:Sl,ρ=[.fz (.lst ((cM rows).map .lst)),.ow ((iB R S (gv rows)++(List.range i).flatMap fun k=>dn (gv rows (2*k+1) 0=45) (((2*k+1,0,0),("left",((k:Nat):Int))):N3×b8)++dn (gv rows (2*k+1) (S-1)=45) (((2*k+1,S-1,0),("right",((k:Nat):Int))):N3×b8)).map l6),.fz (.int ((R-1:Nat):Int)),a,b]) ⟨a,b,by simp⟩ ?_ ?_
  ·walk_at "px";rw[rq,z1 R oR];exact⟨⟨by omega,by omega⟩,h⟩
  ·rintro i x ρ hi ⟨a,b,rfl⟩;obtain⟨dz,hx⟩:=ag.mp hi;have hx:i=x:=by simpa using hx
   subst hx;have oW:i<R/2:=by simpa using dz
   have ev:(1+(i:Int)*2)=((2*i+1:Nat):Int):=by omega
   rw[ev];have bl:=uI (fun k=>gv rows (2*k+1) 0=45) (fun k=>gv rows (2*k+1) (S-1)=45) (fun k=>(((2*k+1,0,0),("left",((k:Nat):Int))):N3×b8)) (fun k=>((2*k+1,S-1,0),("right",((k:Nat):Int)))) i;simp only[cX,List.set,cq];refine vC (S:=S) (mF (2*i+1) (by omega)) (at2 (2*i+1) 0 (by omega) (by omega)) (by rw[aC];omega) ?_;refine vD (S:=S) CA (by rw[ae,hlen 0 (by omega)];exact Pq) (mF (2*i+1) (by omega)) (at2 (2*i+1) (S-1) (by omega) (by omega)) (by rw[aC,aC];have:=ur (gv rows (2*i+1) 0=45) (((2*i+1,0,0),("left",((i:Nat):Int))):N3×b8);omega) ?_;refine⟨a,.fz (.int ((2*i+1:Nat):Int)),?_⟩;rw[List.range_succ,bB,List.flatMap_cons,List.flatMap_nil,aZ,List.append_assoc,List.append_assoc]
  ·rintro ρ ⟨a,b,rfl⟩;rw[List.length_range];walk_at "go";exact q
end Wc
namespace Wc
open PySem L2 PyProof.Rows
end Wc
open PySem L2 PyProof.Rows Wc
local macro_rules | `(tactic| walk_at "px")=>`(tactic| (repeat(first | walk_at "b" | simp only[ub,om,tZ,um,uo,rZ,Aa,pz,xm])))
namespace Wc
open PySem L2 PyProof.Rows
section
variable {κ α:Type} [DecidableEq κ] {F:List (κ×α)} {kk:κ->List Key} {dv:α->D}
theorem xO(inj:∀a b,kk a=kk b->a=b)(F:List (κ×α))(x:κ)(a:α):∃F',qt (eo kk dv F) (kk x) (dv a)=eo kk dv F'/\(∀y,cz F' y=if y=x then some a else cz F y)/\F'.length<=F.length+1/\(∀p∈F',p.2=a\/p∈F)/\((∃b,cz F x=some b)->F'.map (·.1)=F.map (·.1)):=by
 cases h:cz F x with
 | none=>
  refine⟨F++[(x,a)],D7 inj x a h,fun y=>uz x y a h,by simp,fun p hp=>?_,fun⟨b,e⟩=>by cases e⟩;rcases aD.mp hp with hp | hp
  ·exact .inr hp
  ·have:p=(x,a):=by simpa using hp
   rw[this];exact .inl rfl
 | some b=>
  have hy:((eo kk dv F).any fun kv=>decide (kv.1=kk x))=true:=by
   unfold cz at h;obtain⟨p,hp,rfl⟩:=aK.mp h;have h1:=List.find?_some hp;have h2:=List.mem_of_find?_eq_some hp;refine List.any_eq_true.mpr ⟨_,av.mpr ⟨p,h2,rfl⟩,?_⟩;have:p.1=x:=by simpa using h1
   simp[this]
  refine⟨F.map fun p=>if p.1=x then(p.1,a) else p,?_,fun y=>?_,by simp,fun p hp=>?_,fun _=>?_⟩
  ·unfold qt;rw[if_pos hy];unfold eo;rw[aE,aE];refine List.map_congr_left fun p _=>?_
   simp only[Function.comp_apply];by_cases e:p.1=x
   ·rw[if_pos (by rw[e]),if_pos e]
   ·rw[if_neg (fun z=>e (inj _ _ z)),if_neg e]
  ·have key:∀F:List (κ×α),cz (F.map fun p=>if p.1=x then(p.1,a) else p) y=if y=x then(cz F x).map fun _=>a else cz F y:=fun F=>by
    induction F with
    | nil=>unfold cz;split<;>rfl
    | cons p r ih=>
     unfold cz at ih ⊢;rw[ao,bC,bC];have e1:((if p.1=x then(p.1,a) else p:κ×α)).1=p.1:=by split<;>rfl
     rw[e1];by_cases e:y=x
     ·subst e;rw[if_pos rfl] at ih ⊢;by_cases e2:p.1=y
      ·simp[e2]
      ·simp only[e2,decide_false,bp];exact ih
     ·rw[if_neg e] at ih ⊢;rw[bC];by_cases e2:p.1=y
      ·have:p.1≠x:=fun z=>e (e2.symm.trans z)
       simp[e2,this,e]
      ·simp only[e2,decide_false];exact ih
   rw[key F];split
   ·rw[h];rfl
   ·rfl
  ·obtain⟨q,hq,rfl⟩:=av.mp hp;split
   ·exact .inl rfl
   ·exact .inr hq
  ·rw[aE];refine List.map_congr_left fun p _=>?_
   simp only[Function.comp_apply];split<;>rfl
end
noncomputable def kN(n:N3):List Key:=[.inl (n.1:Nat),.inl (n.2.1:Nat),.inl (n.2.2:Nat)]
theorem pE:∀a b:N3,kN a=kN b->a=b:=by
 rintro⟨a,b,c⟩ ⟨d,e,f⟩ h;unfold kN at h;simp only[List.cons.injEq,Sum.inl.injEq,and_true] at h;obtain⟨h1,h2,h3⟩:=h;have:a=d:=by omega
 have:b=e:=by omega
 have:c=f:=by omega
 subst_vars
 rfl
def Bd(n:N3):Prop:=n.2.1<200/\n.2.2<2
noncomputable def jz(n:N3):Nat:=n.1*1000+n.2.1*2+n.2.2
noncomputable def nV(n:N3):List Int:=[(n.1:Int),(n.2.1:Int),(n.2.2:Int)]
theorem Dv{a b:N3}(ha:Bd a)(hb:Bd b):HT.lexLt (nV a) (nV b)=true↔jz a<jz b:=by
 obtain⟨a1,a2,a3⟩:=a;obtain⟨b1,b2,b3⟩:=b;unfold Bd at ha hb;simp only at ha hb;unfold nV jz;simp only[HT.lexLt];by_cases e1:(a1:Int)=b1
 ·rw[if_pos e1];by_cases e2:(a2:Int)=b2
  ·rw[if_pos e2];by_cases e3:(a3:Int)=b3
   ·rw[if_pos e3];simp only[aO,false_iff];omega
   ·rw[if_neg e3,aW];omega
  ·rw[if_neg e2,aW];omega
 ·rw[if_neg e1,aW];omega
theorem Du{a b:N3}(ha:Bd a)(hb:Bd b)(h:jz a=jz b):a=b:=by
 obtain⟨a1,a2,a3⟩:=a;obtain⟨b1,b2,b3⟩:=b;unfold Bd at ha hb;unfold jz at h;simp only at ha hb h;have:a1=b1:=by omega
 have:a2=b2:=by omega
 have:a3=b3:=by omega
 subst_vars
 rfl
theorem xh(a b:N3):cS (fP a) (fP b)=decide (a=b):=by
 obtain⟨a1,a2,a3⟩:=a;obtain⟨b1,b2,b3⟩:=b;unfold fP;rw[Bool.eq_iff_iff];simp[cS,kg];omega
theorem xg(n:Nat)(a:N3):d8 (n+1) (fP a):=by
 intro d hd;simp only[ar,List.not_mem_nil,or_false] at hd;rcases hd with rfl | rfl | rfl<;>(rw[zN];trivial)
theorem sj{c:Prop}{i:Decidable c}{a b:Prop}(h:¬c)(hb:b):@ite Prop c i a b:=by rw[if_neg h];exact hb
theorem Ef{c:Prop}{i:Decidable c}{a b:Prop}(h:c)(hb:a):@ite Prop c i a b:=by rw[if_pos h];exact hb
def uS:ei:=fun ds Q=>∃E:List (N3×N3),ds=[.lst (E.map g5)]/\E.length<=10000/\(∀p∈E,Bd p.1/\Bd p.2)/\∀F:List (N3×N3),(∀a b,(cz F a).getD a=(cz F b).getD b↔Cn E a b)->Q (.ov (.dq (eo kN fP F)))
def Aw:TX:=(cq (jB 1 ub)
 (cq (gN (jA (bK 0)) (jv 2 (eZ (cX 2) (eZ (cX 3) ib))) (cq (om 1 (bK 2) (bK 2))
 (om 1 (bK 3) (bK 3))))
 (cq (eM 4 (dC (.bl true)))
 (cq (zk (cQ (bK 4)) (cq (eM 4 (dC (.bl false)))
 (gN (jA (bQ ez (bK 0) (Aa (bK 0)))) (jv 2 (eZ (cX 2) (eZ (cX 3) ib))) (cq (eM 5 (eC xm (bM (uo 1 (bK 2)) (bM (uo 1 (bK 3)) bU))))
 (eU (tK (t8 1 (cQ (bQ vz (rZ (bK 1) (bK 2)) (bK 5)))) (t8 1 (cQ (bQ vz (rZ (bK 1) (bK 3)) (bK 5))))) (cq (om 1 (bK 2) (bK 5))
 (cq (om 1 (bK 3) (bK 5))
 (eM 4 (dC (.bl true))))) eX)))))
 (pz 1)))))
theorem NR(ds:List D)(Qr:R->Prop)(hl:ds.length=1)(h:uS ds Qr):Aw { nx:=fun _=>Qr (.fz .non),rt:=Qr } (fQ ["_law_pairs_here","_law_least_here","_law_one","_law_other","_law_moved","_law_low"] ds):=by
 obtain⟨E,rfl,hE,bd,q⟩:=h;show Aw _ [.fz (.lst (E.map g5)),.un,.un,.un,.un,.un];unfold Aw;have big:=fV;have tup:∀n:N3,∃es,fP n=.tup es/\iY es=some (kN n)/\es=(nV n).map D.int:=fun n=>⟨_,rfl,rfl,rfl⟩
 have sS:∀F:List (N3×N3),(eo kN fP F).length=F.length:=fun F=>by unfold eo;simp
 walk_at "px";walk_at "go";refine jG E g5 (fun Q' h=>?_) (fun i ρ=>∃(F:List (N3×N3)) (a c:Sl),(∀p∈E.take i,cz F p.1≠none/\cz F p.2≠none)/\(∀x y,cz F x=some y->y=x)/\(∀p∈F,Bd p.2)/\F.length<=2*i/\ρ=[.fz (.lst (E.map g5)),.ov (.dq (eo kN fP F)),a,c,.un,.un]) ⟨[],_,_,by simp,(fun x y h=>by cases h),by simp,by simp,rfl⟩ ?_ ?_
 ·walk_at "px";exact h
 ·rintro i ⟨x,y⟩ ρ hi ⟨F,a,c,h1,h2,h3,h4,rfl⟩;have vZ:i<E.length:=(ag.mp hi).1;have hm:=ax hi;obtain⟨ex,Cp,tG,QZ⟩:=tup x;obtain⟨ey,Co,tF,QY⟩:=tup y;obtain⟨F1,p1,p2,p3,p4,_⟩:=xO (dv:=fP) pE F x x;obtain⟨F2,q1,q2,q3,q4,_⟩:=xO (dv:=fP) pE F1 y y;have l0:=sS F;have l1:=sS F1;rw[show g5 (x,y)=.tup [fP x,fP y] from rfl];rw[Cp] at p1 ⊢;rw[Co] at q1 ⊢;walk_at "px";refine⟨_,tG,by omega,?_⟩;rw[p1];walk_at "go";refine⟨_,tF,by omega,?_⟩;rw[q1];refine⟨F2,_,_,fun p hp=>?_,fun u v sV=>?_,fun p hp=>?_,by omega,rfl⟩
  ·have t1:∀z,cz F z≠none->cz F2 z≠none:=fun z hz=>by
    rw[q2,p2];split
    ·exact nofun
    ·split
     ·exact nofun
     ·exact hz
   rw[bh,hi] at hp;rcases aD.mp hp with hp | hp
   ·exact⟨t1 _ (h1 p hp).1,t1 _ (h1 p hp).2⟩
   ·have:p=(x,y):=by simpa using hp
    subst this;refine⟨?_,?_⟩
    ·rw[q2,p2,if_pos rfl];split<;>exact nofun
    ·rw[q2,if_pos rfl];exact nofun
  ·rw[q2,p2] at sV;split at sV
   ·cases sV;rename_i e;exact e.symm
   ·split at sV
    ·cases sV;rename_i e;exact e.symm
    ·exact h2 u v sV
  ·rcases q4 p hp with e | hp
   ·rw[e];exact(bd _ hm).2
   ·rcases p4 p hp with e | hp
    ·rw[e];exact(bd _ hm).1
    ·exact h3 p hp
 ·rintro ρ ⟨F0,a,c,k1,k2,k3,k4,rfl⟩;rw[bx] at k1;walk_at "go";walk_at "go";let fF:List (N3×N3)->N3->N3:=fun F x=>(cz F x).getD x
  let ks:List N3:=E.map (·.1)++E.map (·.2)
  have Gr:∀p∈E,p.1∈ks/\p.2∈ks:=fun p hp=>⟨aY _ (av.mpr ⟨p,hp,rfl⟩),aT _ (av.mpr ⟨p,hp,rfl⟩)⟩
  have PJ:∀x,fF F0 x=x:=fun x=>by
   show(cz F0 x).getD x=x;cases h:cz F0 x with
   | none=>rfl
   | some y=>exact k2 x y h
  have Hg:∀(F:List (N3×N3)),(∀p∈F,Bd p.2)->∀x y,cz F x=some y->Bd y:=fun F hB x y h=>by
   unfold cz at h;obtain⟨p,hp,rfl⟩:=aK.mp h;exact hB p (List.mem_of_find?_eq_some hp)
  refine⟨fun m ρ=>∃(F:List (N3×N3)) (mv:Bool) (a c d:Sl),m=(if mv=true then mu jz ks (fF F)+1 else 0)/\(∀p∈E,cz F p.1≠none/\cz F p.2≠none)/\(∀p∈F,Bd p.2)/\F.length<=2*E.length/\(∀x,Cn E x (fF F x))/\(mv=false->∀p∈E,fF F p.1=fF F p.2)/\ρ=[.fz (.lst (E.map g5)),.ov (.dq (eo kN fP F)),a,c,.fz (.bl mv),d],
   ⟨_,F0,true,a,c,_,rfl,k1,k3,k4,fun x=>by rw[PJ];exact .refl _,nofun,rfl⟩,?_⟩
  rintro m ρ ⟨F,mv,a,c,d,rfl,w1,w2,w3,w4,w5,rfl⟩;cases mv with
  | false=>
   walk_at "px";walk_at "go";exact q F fun a b=>DF (lab:=fF F) (fun x y h=>w5 rfl _ h) w4
  | true=>
   walk_at "px";walk_at "go";have eL:E.map g5++(E.map g5).reverse=(E++E.reverse).map g5:=by rw[aA,List.map_reverse]
   refine jG (E++E.reverse) g5 (fun Q' h=>?_) (fun i ρ=>∃(G:List (N3×N3)) (mv:Bool) (a c d:Sl),(∀p∈E,cz G p.1≠none/\cz G p.2≠none)/\(∀p∈G,Bd p.2)/\G.length<=2*E.length/\Pass E jz ks (fF F) (fF G) mv ((E++E.reverse).take i)/\ρ=[.fz (.lst (E.map g5)),.ov (.dq (eo kN fP G)),a,c,.fz (.bl mv),d]) ⟨F,false,a,c,d,w1,w2,w3,by rw[List.take_zero];exact Pass.start w4,rfl⟩ ?_ ?_
   ·walk_at "px";rw[eL];refine⟨by simp only[ae,aC,List.length_reverse];omega,h⟩
   ·rintro i ⟨x,y⟩ ρ hi ⟨G,mv,a,c,d,g1,g2,g3,Ps,rfl⟩;have hm:(x,y)∈E:=by
     rcases aD.mp (ax hi) with h | h
     ·exact h
     ·exact List.mem_reverse.mp h
    have tk:(E++E.reverse).take (i+1)=(E++E.reverse).take i++[(x,y)]:=by rw[bh,hi];rfl
    obtain⟨u,hu⟩:∃u,cz G x=some u:=Option.ne_none_iff_exists'.mp (g1 _ hm).1
    obtain⟨v,hv⟩:∃v,cz G y=some v:=Option.ne_none_iff_exists'.mp (g1 _ hm).2
    have bu:=Hg G g2 x u hu;have bv:=Hg G g2 y v hv;have fu:fF G x=u:=by show(cz G x).getD x=u;rw[hu];rfl
    have fv:fF G y=v:=by show(cz G y).getD y=v;rw[hv];rfl
    obtain⟨ex,Cp,tG,QZ⟩:=tup x;obtain⟨ey,Co,tF,QY⟩:=tup y;obtain⟨eu,wB,RT,Q1⟩:=tup u;obtain⟨ev,wA,RS,Q0⟩:=tup v;have lu:iz (eo kN fP G) (kN x)=some (.tup eu):=by rw[sx pE,hu,<-wB];rfl
    have lv:iz (eo kN fP G) (kN y)=some (.tup ev):=by rw[sx pE,hv,<-wA];rfl
    obtain⟨low,vU,c1,c2,Ct⟩:∃low:N3,(low=u\/low=v)/\jz low<=jz u/\jz low<=jz v/\(if HT.lexLt (nV v) (nV u)=true then D.tup ev else D.tup eu)=fP low:=by
     by_cases h:HT.lexLt (nV v) (nV u)=true
     ·refine⟨v,.inr rfl,?_,ay _,by rw[if_pos h,wA]⟩;have:=(Dv bv bu).mp h;omega
     ·refine⟨u,.inl rfl,ay _,?_,by rw[if_neg h,wB]⟩;have:=mt (Dv bv bu).mpr h;omega
    have o3:Bd low:=by rcases vU with h | h<;>rw[h]<;>assumption
    rw[show g5 (x,y)=.tup [fP x,fP y] from rfl,Cp,Co];walk_at "px";refine⟨_,_,tG,lu,_,_,tF,lv,?_⟩;refine⟨nV u,nV v,Q1,Q0,?_⟩;rw[Ct];walk_at "go";obtain⟨G1,p1,p2,p3,p4,p5⟩:=xO (dv:=fP) pE G x low;obtain⟨G2,q1,q2,q3,q4,q5⟩:=xO (dv:=fP) pE G1 y low;have t1:∀z,cz G z≠none->cz G2 z≠none:=fun z hz=>by
     rw[q2,p2];split
     ·exact nofun
     ·split
      ·exact nofun
      ·exact hz
    have n1:∀p∈E,cz G2 p.1≠none/\cz G2 p.2≠none:=fun p hp=>⟨t1 _ (g1 p hp).1,t1 _ (g1 p hp).2⟩
    have n2:∀p∈G2,Bd p.2:=fun p hp=>by
     rcases q4 p hp with e | hp
     ·rw[e];exact o3
     ·rcases p4 p hp with e | hp
      ·rw[e];exact o3
      ·exact g2 p hp
    have e1:=congrArg List.length (p5 ⟨u,hu⟩);have e2:=congrArg List.length (q5 (by rw[p2];split;exact⟨_,rfl⟩;exact⟨v,hv⟩));simp only[ae] at e1 e2;have n3:G2.length<=2*E.length:=by omega
    have pY:(u≠low\/v≠low)->Pass E jz ks (fF F) (fF G2) true ((E++E.reverse).take (i+1)):=fun h=>by
     have dz:jz low<jz u\/jz low<jz v:=by
      rcases h with h | h
      ·refine .inl (Nat.lt_of_le_of_ne c1 fun z=>h (Du bu o3 z.symm))
      ·refine .inr (Nat.lt_of_le_of_ne c2 fun z=>h (Du bv o3 z.symm))
     have:=Ps.change (p:=(x,y)) (low:=low) (.inl hm) (Gr _ hm).1 (Gr _ hm).2 (by rw[fu,fv];exact vU) (by rw[fu];exact c1) (by rw[fv];exact c2) (by rw[fu,fv];exact dz);rw[tk];have e:fF G2=lF (lF (fF G) x low) y low:=funext fun z=>by
      show(cz G2 z).getD z=_;unfold lF;rw[q2,p2];by_cases h1:z=y
      ·rw[if_pos h1,if_pos h1];rfl
      ·rw[if_neg h1,if_neg h1];by_cases h2:z=x
       ·rw[if_pos h2,if_pos h2];rfl
       ·rw[if_neg h2,if_neg h2]
     rw[e];exact this
    show ∃k d,iY ex=some k/\iz (eo kN fP G) k=some d/\_
    refine⟨_,_,tG,lu,by rw[<-wB];exact xg 8 u,xg 8 low,?_⟩;by_cases yx:u=low
    ·refine sj (by rw[<-wB,xh,bA yx];simp) ?_;show ∃k d,iY ey=some k/\iz (eo kN fP G) k=some d/\_
     refine⟨_,_,tF,lv,by rw[<-wA];exact xg 8 v,xg 8 low,?_⟩;by_cases yw:v=low
     ·refine sj (by rw[<-wA,xh,bA yw];simp) ?_;exact⟨G,mv,_,_,_,g1,g2,g3,by rw[tk];exact Ps.same (by show fF G x=fF G y;rw[fu,fv,yx,yw]),rfl⟩
     ·refine Ef (by rw[<-wA,xh,aF yw];simp) ?_;refine⟨_,tG,by rw[sS];omega,?_⟩;rw[p1];walk_at "go";refine⟨_,tF,by rw[sS];omega,?_⟩;rw[q1];walk_at "go";exact⟨G2,true,_,_,_,n1,n2,n3,pY (.inr yw),rfl⟩
    ·refine Ef (by rw[<-wB,xh,aF yx];simp) ?_;refine⟨_,tG,by rw[sS];omega,?_⟩;rw[p1];walk_at "go";refine⟨_,tF,by rw[sS];omega,?_⟩;rw[q1];walk_at "go";exact⟨G2,true,_,_,_,n1,n2,n3,pY (.inl yx),rfl⟩
   ·rintro ρ ⟨G,mv,a,c,d,g1,g2,g3,Ps,rfl⟩;rw[bx] at Ps;refine⟨if mv=true then mu jz ks (fF G)+1 else 0,?_,G,mv,a,c,d,rfl,g1,g2,g3,Ps.cn,fun h p hp=>?_,rfl⟩
    ·cases mv with
     | false=>simp
     | true=>
      have:=Ps.lt rfl;simp only[bE];omega
    ·exact(Ps.eq h).2 p (aY _ hp)
end Wc
namespace Wc
open PySem L2 PyProof.Rows
end Wc
open PySem L2 PyProof.Rows Wc
local macro_rules | `(tactic| walk_at "px")=>`(tactic| (repeat(first | walk_at "b" | simp only[tZ,um,qw,oe,ue,ud,sD,tR])))
namespace Wc
open PySem L2 PyProof.Rows
theorem IB{R S:Nat}{g:Nat->Nat->Nat}(hR:R<=41)(hS:S<=41):∀p∈qQ R S g,Bd p.1/\Bd p.2:=fun p hp=>by
 obtain⟨r,s,hr,hs,h⟩:=(Ei R S g p).mp hp;unfold xv at h;unfold Bd;rcases h with h | h | h
 ·rw[h.2.2.2];exact⟨⟨by show s<200;omega,by show 0<2;omega⟩,⟨by show s+1<200;omega,by show 0<2;omega⟩⟩
 ·rw[h.2.2.2];exact⟨⟨by show s<200;omega,by show 1<2;omega⟩,⟨by show s<200;omega,by show 1<2;omega⟩⟩
 ·rw[h.2];exact⟨⟨by show s<200;omega,by show 0<2;omega⟩,⟨by show s<200;omega,by show 1<2;omega⟩⟩
def uZ:ei:=fun ds Q=>∃(R S:Nat) (rows:List (List Nat)),ds=[kd rows]/\eV R S rows/\R%2=1/\S%2=1/\R<=41/\S<=41/\R/2*2+S/2*2<64/\∀c9,(∀hJ,Gd (endsF rows) (pK rows) hJ->hJ=c9)->Q (.ov (.ll (c9.map fun g=>g.map dA)))
def AV:TX:=(cq (eM 1 (eE 1 uS (bM (eE 1 uT (bM (bK 0) bU)) bU)))
 (cq (jB 2 qw)
 (cq (gN (jA (eE 1 uO (bM (bK 0) bU))) (tR 2 (eZ (cX 3) (eZ (cX 4) ib))) (oe 2 (ue (bK 1) (bK 4) (bK 4)) (bK 3)))
 (tU 2 (gr (sD (pH (ud (bK 2)) [none] (cX 0) ju (eC zB (bM (bK 0) bU)))))))))
theorem OC(ds:List D)(Qr:R->Prop)(hl:ds.length=1)(h:uZ ds Qr):AV { nx:=fun _=>Qr (.fz .non),rt:=Qr } (fQ ["_law_grid","_law_least_here","_law_groups_here","_law_end","_law_strand"] ds):=by
 obtain⟨R,S,rows,rfl,P,oR,oS,hR,hS,yI,q⟩:=h;show AV _ [.fz (kd rows),.un,.un,.un,.un];unfold AV;have big:=fV;have lE:(qQ R S (gv rows)).length<=10000:=by
  have h1:=Fp R S (gv rows) R;have h3:R*(S*3)<=41*123:=Nat.mul_le_mul (by omega) (by omega);unfold qQ;omega
 walk_at "px";refine⟨R,S,rows,rfl,P,by omega,hR,hS,?_⟩;walk_at "px";refine⟨qQ R S (gv rows),rfl,lE,IB hR hS,fun F hF=>?_⟩;walk_at "go";walk_at "go";generalize k8:iB R S (gv rows)++jQ R S (gv rows)=ends;have le:ends.length<64:=by
  have:=Fs (R:=R) (S:=S) (g:=gv rows) yI;rw[<-k8,aC];rw[aC] at this;omega
 have nd:(ends.map (·.2)).Nodup:=by
  rw[<-k8];exact(List.Perm.map _ List.perm_append_comm).nodup_iff.mp (zK (R:=R) (S:=S) (g:=gv rows))
 have qX:∀k,(((ends.take k).map fun p:N3×b8=>(((cz F p.1).getD p.1,p.2):N3×b8))).length<=64:=fun k=>by
  rw[ae,bH];omega
 refine jG ends l6 (fun Q' h=>?_) (fun i ρ=>∃(B:List (N3×List b8)) (a c:Sl),e8 ((ends.take i).map fun p=>((cz F p.1).getD p.1,p.2)) B/\ρ=[.fz (kd rows),.fz (.dit (eo kN fP F)),.ov (.dt (e6 kN dA B)),a,c]) ⟨[],_,_,by simpa using e8.nil,rfl⟩ ?_ ?_
 ·walk_at "px";refine⟨R,S,rows,rfl,P,oR,oS,hR,hS,?_⟩;rw[k8];exact h
 ·rintro i ⟨x,en⟩ ρ hi ⟨B,a,c,G,rfl⟩;obtain⟨n1,wD,B1,s1,s2,s3,G1,s4⟩:=xR (dv:=dA) pE G ((cz F x).getD x) en;have g1:=G.len;have g2:=qX i;have k1:(e6 kN dA B).length=B.length:=by unfold e6;simp
  obtain⟨es,he,hk⟩:∃es,fP x=.tup es/\iY es=some (kN x):=⟨_,rfl,rfl⟩
  have e1:((iz (eo kN fP F) (kN x)).getD (.tup es))=fP ((cz F x).getD x):=by
   rw[sx pE,<-he];cases cz F x<;>rfl
  obtain⟨rH,B8,rp⟩:∃rH,fP ((cz F x).getD x)=.tup rH/\iY rH=some (kN ((cz F x).getD x)):=⟨_,rfl,rfl⟩
  have tk:(ends.take (i+1)).map (fun p=>((cz F p.1).getD p.1,p.2))=(ends.take i).map (fun p=>((cz F p.1).getD p.1,p.2))++[((cz F x).getD x,en)]:=by
   rw[bh,hi,aA];rfl
  rw[<-tk] at G1;rw[show l6 (x,en)=.lst [dA en,fP x] from rfl,he];walk_at "px";refine⟨_,hk,?_⟩;rw[e1,B8];walk_at "px";refine⟨_,n1,wD,rp,by omega,s1,s2,by omega,?_⟩;rw[s3];exact⟨B1,_,_,G1,rfl⟩
 ·rintro ρ ⟨B,a,c,G,rfl⟩;rw[bx] at G;have g1:=G.len;rw[ae] at g1;have iU:((ends.map fun p=>((cz F p.1).getD p.1,p.2)).map (·.2)).Nodup:=by
   rw[aE];exact nd
  have eD:(OV.dt (e6 kN dA B)).val=.dit (eo kN (fun g:List b8=>D.lst (g.map dA)) B):=by
   show D.dit _=_;unfold e6 eo;rw[aE];rfl
  walk_at "go";rw[eD];refine Ag B (fun p=>D.lst (p.2.map dA)) (fun p=>(sE p.2).map dA) (fun Q' h=>?_) (by omega) (fun p hp K1 k1=>?_) ?_
  ·walk_at "px";unfold eo;rw[aE];exact h
  ·walk_at "px";have:=G.oZ hp;rw[ae] at this;refine⟨p.2,rfl,by omega,fun lT h1 h2=>?_⟩;rw[Dh h1 h2];exact k1
  ·refine⟨B.map fun p=>sE p.2,by rw[aE];rfl,by rw[ae];omega,fun g hg=>?_,G.mr iU,fun hJ h1 h2=>?_⟩
   ·obtain⟨p,hp,rfl⟩:=av.mp hg;exact fun z=>G.ne hp (List.perm_nil.mp ((pM p.2).symm.trans (List.Perm.of_eq z)))
   ·rw[Df (G.mr iU) h1 h2];refine q _ fun hJ hg=>?_
    rw[<-k8] at G;exact MP P oR oS (Ei R S (gv rows)) hF G hg
end Wc
namespace Wc
open PySem L2 PyProof.Rows
end Wc
open PySem L2 PyProof.Rows Wc
local macro_rules | `(tactic| walk_at "px")=>`(tactic| (repeat(first | walk_at "b" | simp only[tZ,um,xc,x9,tS,zc])))
namespace Wc
open PySem L2 PyProof.Rows
noncomputable def tJ(c9:List (List b8)):D:=.lst ((c9.map fun g=>g.map dA).map .lst)
theorem Jt(n:Nat)(e:b8):d8 (n+1) (dA e):=by
 intro d hd;simp only[ar,List.not_mem_nil,or_false] at hd;rcases hd with rfl | rfl
 ·rw[sy];trivial
 ·rw[zN];trivial
theorem Jp(c9:List (List b8)):d8 9 (tJ c9):=by
 intro d hd;obtain⟨l,hl,rfl⟩:=av.mp hd;obtain⟨g,hg,rfl⟩:=av.mp hl;intro e he;obtain⟨x,hx,rfl⟩:=av.mp he;exact Jt 6 x
theorem Jo{ends:List (Sd×b8)}{links:List (Sd×Sd)}{c9:List (List b8)}(h:Gd ends links c9):c9.length<=ends.length:=by
 obtain⟨lab,bL,_,G,rfl⟩:=h;have h1:=(sv (bL.map fun p=>sE p.2)).length_eq;have h2:=G.len;rw[ae] at h1 h2;omega
def sO:ei:=fun ds Q=>∃c9:List (List b8),ds=[tJ c9,tJ c9]/\Q (.fz (.bl true))
def AQ:TX:=(cq (eU (tK (mL (cQ (rW "list" (bK 0)))) (cQ (bQ vz (eC gM (bM (bK 0) bU)) (eC gM (bM (bK 1) bU))))) (gr (dC (.bl false))) eX)
 (cq (gN (jA (bK 0)) (cX 2) (cq (eU (mL (cQ (rW "list" (bK 2)))) (gr (dC (.bl false))) eX)
 (gN (jA (bK 2)) (cX 3) (eU (tK (mL (cQ (rW "tuple" (bK 3)))) (cQ (rW "bool" (bQ cR (bK 3) (tT (dC (.int 1))))))) (gr (dC (.bl false))) eX))))
 (gr (bQ oEq (bK 0) (bK 1)))))
theorem Ol(ds:List D)(Qr:R->Prop)(hl:ds.length=2)(h:sO ds Qr):AQ { nx:=fun _=>Qr (.fz .non),rt:=Qr } (fQ ["_law_found","_law_due","_law_row","_law_end"] ds):=by
 obtain⟨c9,rfl,q⟩:=h;show AQ _ [.fz (tJ c9),.fz (tJ c9),.un,.un];unfold AQ;have big:=fV;have ok:=Jp c9;have eq:=xY 9 _ ok;unfold tJ at *;walk_at "px";refine⟨rfl,?_⟩;refine sj (fun z=>by cases z) ?_;walk_at "go";have eF:(c9.map fun g=>g.map dA).map D.lst=c9.map fun g=>D.lst (g.map dA):=by rw[aE];rfl
 refine jG c9 (fun g=>D.lst (g.map dA)) (fun Q' h=>?_) (fun i ρ=>∃a b:Sl,ρ=[.fz (.lst ((c9.map fun g=>g.map dA).map .lst)),.fz (.lst ((c9.map fun g=>g.map dA).map .lst)),a,b]) ⟨_,_,rfl⟩ ?_ ?_
 ·walk_at "px";rw[eF];exact h
 ·rintro i g ρ hi ⟨a,b,rfl⟩;walk_at "px";refine⟨rfl,?_⟩;refine sj (fun z=>by cases z) ?_;walk_at "go";refine jG g dA (fun Q' h=>?_) (fun i ρ=>∃a b:Sl,ρ=[.fz (.lst ((c9.map fun g=>g.map dA).map .lst)),.fz (.lst ((c9.map fun g=>g.map dA).map .lst)),a,b]) ⟨_,_,rfl⟩ ?_ ?_
  ·walk_at "px";exact h
  ·rintro j ⟨w,n⟩ ρ hj ⟨a,b,rfl⟩;rw[show dA (w,n)=.tup [.str w,.int n] from rfl];walk_at "px";exact⟨rfl,sj (fun z=>by cases z) ⟨.int n,rfl,rfl,sj (fun z=>by cases z) ⟨_,_,rfl⟩⟩⟩
  ·rintro ρ ⟨a,b,rfl⟩;exact⟨_,_,rfl⟩
 ·rintro ρ ⟨a,b,rfl⟩;walk_at "go";rw[eq];exact⟨ok,ok,q⟩
def t5:TX:=(cq (eM 1 (bQ (oI (fun _ j=>0<j) fun i j=>.int (i%j)) (eE 2 pR (bM (eC rV (bM (tI (bK 0) vy (qA (dC (.int 1)))) bU)) (bM (dC (.int 804)) bU))) (dC (.int 8))))
 (cq (eM 2 (eE 3 u0 (bM (bK 0) (bM (bQ cR (ic (bM (dC (.int 2)) (bM (dC (.int 13)) (bM (dC (.int 6)) bU)))) (eC tS (bM (bK 1) (bM (dC (.int 2)) bU)))) (bM (bQ cR (ic (bM (dC (.int 14)) (bM (dC (.int 2)) (bM (dC (.int 6)) bU)))) (eC tS (bM (bK 1) (bM (dC (.int 2)) bU)))) bU)))))
 (cq (eM 3 (eE 1 uZ (bM (bK 2) bU)))
 (cq (eM 4 (eE 1 uU (bM (bK 2) bU)))
 (cq (jB 5 (eE 1 sL (bM (bK 4) bU)))
 (cq (eU (mL (cQ (t9 5 (eE 2 sO (bM (bK 5) (bM (bK 3) bU)))))) (gr (dC (.bl false))) eX)
 (cq (x9 5 6)
 (cq (xc 5 (ic bU))
 (gr (eE 2 sO (bM (eE 1 sL (bM (bK 4) bU)) (bM (bK 3) bU))))))))))))
theorem Lj(ds:List D)(Qr:R->Prop)(hl:ds.length=1)(h:y7 63 ds Qr):t5 { nx:=fun _=>Qr (.fz .non),rt:=Qr } (fQ ["_law_script","_law_way","_law_grid","_law_due","_law_text","_law_found","_law_group"] ds):=by
 obtain⟨ns,rfl,hn,q⟩:=h;show t5 _ [.fz (dI ns),.un,.un,.un,.un,.un,.un];unfold t5 dI;have big:=fV;walk_at "px";refine⟨_,_,rfl,by decide,by decide,by decide,?_⟩;generalize wV _ _=x;have x0:=Int.emod_nonneg x (show(8:Int)≠0 by decide);have x1:=Int.emod_lt_of_pos x (show(0:Int)<8 by decide);generalize x%8=y at x0 x1 ⊢;have CY:∃high wide:Nat,cT [D.int 2,D.int 13,D.int 6] (if 2<y then 2 else y)=some (.int high)/\cT [D.int 14,D.int 2,D.int 6] (if 2<y then 2 else y)=some (.int wide)/\high<=13/\1<=wide/\wide<=14/\high+wide<=16:=by
  by_cases h:2<y
  ·rw[if_pos h];exact⟨6,6,rfl,rfl,by decide,by decide,by decide,by decide⟩
  ·rw[if_neg h];have:y=0\/y=1\/y=2:=by omega
   rcases this with rfl | rfl | rfl
   ·exact⟨2,14,rfl,rfl,by decide,by decide,by decide,by decide⟩
   ·exact⟨13,2,rfl,rfl,by decide,by decide,by decide,by decide⟩
   ·exact⟨6,6,rfl,rfl,by decide,by decide,by decide,by decide⟩
 obtain⟨high,wide,a1,a2,b1,b2,b3,b4⟩:=CY;walk_at "go";refine⟨by omega,_,a1,by omega,_,a2,?_⟩;refine⟨ns,high,wide,rfl,by omega,by omega,b2,by omega,fun t w rows ht PQ PN P=>?_⟩;walk_at "go";refine⟨2*t+1,2*w+1,rows,rfl,P,by omega,by omega,by omega,by omega,by omega,fun c9 hg=>?_⟩;walk_at "go";refine⟨2*t+1,2*w+1,rows,rfl,P,by omega,by omega,by omega,fun tx P1 Qi=>?_⟩
 have W:CJ rows tx:=⟨P.ne (by omega),P.rb (by omega) (by omega),P.wF (by omega) (by omega) (by omega),P1,Qi,by rw[P.len];omega,by rw[P.wd (by omega)];omega,
  by rw[zJ P (by omega) (by omega),ae];exact Fs (by omega),
  by rw[zJ P (by omega) (by omega),aE];exact zK⟩
 walk_at "go";refine⟨tx,rows,rfl,W,fun hJ h'=>?_⟩;have Qj:=Jo h';have oX:=W.wz;rw[hg hJ h'] at Qj ⊢;walk_at "go";refine⟨c9,rfl,rfl,?_⟩;walk_at "px";walk_at "go";refine⟨by decide,by decide,?_⟩;walk_at "go";refine⟨by omega,by simp only[ae];omega,?_⟩;walk_at "go";refine⟨tx,rows,rfl,W,fun Ci h2=>?_⟩;rw[hg Ci h2];walk_at "px";exact⟨c9,rfl,q⟩
end Wc
end
namespace Wc
open PySem PySem.Spec PyProof.Rows L2
local macro_rules | `(tactic| walk_at "sc")=>`(tactic| exact⟨rfl,rfl,rfl,by decide +kernel,rfl,by decide +kernel,by decide +kernel⟩)
local macro_rules | `(tactic| walk_at "bn")=>`(tactic| (intro _ _ _ _ _ _ us hl;first | (obtain⟨_,rfl⟩:=CW hl;exact rfl) | (obtain⟨_,_,rfl⟩:=CV hl;exact rfl) | (obtain⟨_,_,_,rfl⟩:=CU hl;exact rfl) | (obtain⟨_,_,_,_,rfl⟩:=CT hl;exact rfl) | (obtain⟨_,_,_,_,_,rfl⟩:=CS hl;exact rfl) | (obtain⟨_,_,_,_,_,_,rfl⟩:=CQ hl;exact rfl) | (obtain⟨_,_,_,_,_,_,_,rfl⟩:=CP hl;exact rfl)))
def top(i:Nat):Stmt:=PySem.Challenge.pw_wirechannel_k51_drawings_traced.main.body.getD i (.Pass ⟨0,0,0,0⟩)
structure Txt (K:PySem.W.Frag) (mg:Str->Option Value):Prop where
 b_all:mg "all"=none
 b_bool:mg "bool"=none
 b_enumerate:mg "enumerate"=none
 b_isinstance:mg "isinstance"=none
 b_len:mg "len"=none
 b_list:mg "list"=none
 b_max:mg "max"=none
 b_min:mg "min"=none
 b_range:mg "range"=none
 b_reversed:mg "reversed"=none
 b_sorted:mg "sorted"=none
 b_sum:mg "sum"=none
 b_tuple:mg "tuple"=none
 b9:∃t,mg "CROSSINGS"=some (.str "+#" t)
 cv:∃t,mg "STRETCH"=some (.str "-" t)
 cu:∃t,mg "UPRIGHT"=some (.str "|" t)
section
variable {P:Program} {w:World} {K:PySem.W.Frag} {mg:Str->Option Value} {base:Heap}
theorem gU:bV ["_law_cell","_law_k"] ["_law_cell","_law_k"] (bO (top 22)):=by walk_at "sc"
theorem fL:bV ["_law_script","_law_k","_law_many"] ["_law_script","_law_k","_law_many"] (bO (top 23)):=by walk_at "sc"
theorem gV:bV ["_law_grid","_law_places","_law_wanted","_law_r","_law_s"] ["_law_grid","_law_places","_law_wanted"] (bO (top 24)):=by walk_at "sc"
theorem eO:bV ["_law_script","_law_high","_law_wide","_law_seed","_law_tracks","_law_width","_law_grid","_law_k","_law_t","_law_c","_law_r","_law_s"] ["_law_script","_law_high","_law_wide"] (bO (top 25)):=by walk_at "sc"
theorem Oj:(["_law_r","_law_width"]:List Str).Nodup:=by decide +kernel
theorem fK:bV ["_law_pairs_here","_law_least_here","_law_one","_law_other","_law_moved","_law_low"] ["_law_pairs_here"] (bO (top 28)):=by walk_at "sc"
theorem fJ:bV ["_law_grid","_law_pairs_here","_law_r","_law_s","_law_sign"] ["_law_grid"] (bO (top 27)):=by walk_at "sc"
theorem gi:bV ["_law_grid","_law_ends_here","_law_last","_law_s","_law_r"] ["_law_grid"] (bO (top 29)):=by walk_at "sc"
theorem fb:bV ["_law_grid","_law_least_here","_law_groups_here","_law_end","_law_strand"] ["_law_grid"] (bO (top 30)):=by walk_at "sc"
theorem OB:(["_law_group"]:List Str).Nodup:=by decide +kernel
theorem fI:bV ["_law_grid"] ["_law_grid"] (bO (top 26)):=by walk_at "sc"
theorem zev:(["_law_row"]:List Str).Nodup:=by decide +kernel
theorem gd:bV ["rows","length","is_odd"] ["rows"] (bO (top 9)):=by walk_at "sc"
theorem N5:(["row","length"]:List Str).Nodup:=by decide +kernel
theorem gR:bV ["row","place","signs"] ["row","place"] (bO (top 11)):=by walk_at "sc"
theorem fH:bV ["rows","number","row"] ["rows"] (bO (top 10)):=by walk_at "sc"
theorem F8:(["place","sign","number"]:List Str).Nodup:=by decide +kernel
theorem gT:bV ["line","mark","place","around"] ["line","mark"] (bO (top 12)):=by walk_at "sc"
theorem NF:(["sign","mark"]:List Str).Nodup:=by decide +kernel
theorem fE:bV ["rows","place"] ["rows","place"] (bO (top 14)):=by walk_at "sc"
theorem NQ:(["row","place"]:List Str).Nodup:=by decide +kernel
theorem iQ:bV ["rows"] ["rows"] (bO (top 13)):=by walk_at "sc"
theorem M9:(["place","rows"]:List Str).Nodup:=by decide +kernel
theorem fG:bV ["rows","stretches_hold"] ["rows"] (bO (top 8)):=by walk_at "sc"
theorem NP:(["row"]:List Str).Nodup:=by decide +kernel
theorem NO:(["column"]:List Str).Nodup:=by decide +kernel
theorem eN:bV ["number","line","mark","strands","strand","place","sign"] ["number","line","mark"] (bO (top 16)):=by walk_at "sc"
theorem fD:bV ["lines","mark"] ["lines","mark"] (bO (top 15)):=by walk_at "sc"
theorem F7:(["number","line","mark"]:List Str).Nodup:=by decide +kernel
theorem gh:bV ["lines","strands","mark","sides","ends","number","line"] ["lines","strands","mark","sides"] (bO (top 17)):=by walk_at "sc"
theorem gf:bV ["links","beside","one","other","firsts","first","waiting","strand"] ["links"] (bO (top 20)):=by walk_at "sc"
theorem g6:bV ["ends","links","firsts","groups","strand","end"] ["ends","links"] (bO (top 19)):=by walk_at "sc"
theorem Np:(["group"]:List Str).Nodup:=by decide +kernel
theorem gc:bV ["rows","stretches","uprights","joints","number","row","places"] ["rows","stretches","uprights"] (bO (top 18)):=by walk_at "sc"
theorem Ga:(["place","sign"]:List Str).Nodup:=by decide +kernel
theorem N4:(["place","number","stretches","uprights"]:List Str).Nodup:=by decide +kernel
theorem iR:bV ["text","rows","columns","stretches","uprights","ends"] ["text"] (bO (top 7)):=by walk_at "sc"
theorem eP:bV ["_law_found","_law_due","_law_row","_law_end"] ["_law_found","_law_due"] (bO (top 31)):=by walk_at "sc"
theorem m3:bV ["_law_script","_law_way","_law_grid","_law_due","_law_text","_law_found","_law_group"] ["_law_script"] (bO (top 32)):=by walk_at "sc"
variable (T:Txt K mg)
include T in
theorem N2(A:At K mg "_law_mix" (top 22)):Known P w K mg base 1 "_law_mix" 2 pR:=g4 0 A gU (fun f cG A outer s H E hr=>have hu:=hr.units;have nd:=gU.nd
 (cD (gP (cE pI (cE jx (cE fR (cE fR (cE mM (cE jx (bN 0) (cE Iu bY bY)) (cE fR (cE mM (bN 1) (bN 1)) bY)) (cE mM (cE mM (cE mM bY (bN 1)) (bN 1)) (bN 1))) bY) bY) bY)))) NJ (by walk_at "bn")
variable (ck:Known P w K mg base 1 "_law_mix" 2 pR)
include T ck in
theorem OA(A:At K mg "_law_digit" (top 23)):Known P w K mg base 2 "_law_digit" 3 qI:=g4 1 A fL (fun f cG A outer s H E hr=>have hu:=hr.units;have nd:=fL.nd
 (cy (gw (fB y1 (cE fR (bN 1) bY) (fm iZ T.b_len boot_len (bP (bN 0) bX))) (cD (gP (cE jx (eY ck hr (bP (d0 (bN 0) (cE fR (bN 1) bY)) (bP (cE jx (bN 1) bY) bX))) (bN 2)))) gC)
   (cD (gP (cE jx (eY ck hr (bP (fm (zd rfl) T.b_sum boot_sum (bP (xV (bN 0) zW (uK bY)) bX)) (bP (bN 1) bX))) (bN 2)))))) NU (by walk_at "bn")
variable (cJ:Known P w K mg base 2 "_law_digit" 3 qI)
include T in
theorem N1(A:At K mg "_law_led" (top 24)):Known P w K mg base 1 "_law_led" 3 sI:=g4 0 A gV (fun f cG A outer s H E hr=>have hu:=hr.units;have nd:=gV.nd
 (cy (ij aJ rfl (ki (bN 1)) (mj rfl (gO (dw 3 nd) (gO (dw 4 nd) lN)))
    (cD (gw (ml (EL Ds y9 bY (bN 3) (fm iZ T.b_len boot_len (bP (bN 0) bX))) (ml (EL Ds y9 bY (bN 4) (fm iZ T.b_len boot_len (bP (d0 (bN 0) bY) bX))) (qH (fB (Ep hu) (d0 (d0 (bN 0) (bN 3)) (bN 4)) (bN 2))))).pb (cD (gP kM)) gC)))
   (cD (gP kM)))) NG (by walk_at "bn")
variable (dW:Known P w K mg base 1 "_law_led" 3 sI)
include T ck cJ dW in
theorem OF(A:At K mg "_law_picture" (top 25)):Known P w K mg base 3 "_law_picture" 3 u0:=g4 2 A eO (fun f cG A outer s H E hr=>have hu:=hr.units;have nd:=eO.nd
 (cy (fi 3 (eY ck hr (bP (fm (zd rfl) T.b_sum boot_sum (bP (xV (bN 0) zW (uK bY)) bX)) (bP bY bX))) nd)
   (cy (fi 4 (cE jx (bN 3) (cE fR (bN 1) bY)) nd)
   (cy (fi 5 (cE fR bY (cE jx (cE pI (bN 3) bY) (bN 2))) nd)
   (cy (K5 6 rfl (.of (N':=["_law_r","_law_width"]) (m:=[none,some 5]) (by kernel_rfl)) lO (pQ T.b_range (bP (cE fR (cE mM bY (bN 4)) bY) bX)) (fun s3 H3 ex=>(dw 0 Oj)) (fun s3 H3 ex=>lI) (fun s3 H3 ex=>(ID (j7 (bP fY bX)) (cE fR (cE mM bY (bN 1)) bY))) nd)
   (cy (fi 7 bY nd)
   (cy (ij aJ rfl (pQ T.b_range (bP (bN 4) bX)) (dw 8 nd)
    (cD (ij aJ rfl (pQ T.b_range (bP (bN 5) bX)) (dw 9 nd)
    (cy (An 6 (cE fR (cE mM bY (bN 8)) bY) (cE fR (cE mM bY (bN 9)) bY) (d0 fY (eY cJ hr (bP (bN 0) (bP (bN 7) (bP bY bX))))))
   (cD (fi 7 (cE fR (bN 7) bY) nd))))))
   (cy (ij aJ rfl (pQ T.b_range (bP (cE fR (cE mM bY (bN 4)) bY) bX)) (dw 10 nd)
    (cD (ij aJ rfl (pQ T.b_range (bP (cE fR (cE mM bY (bN 5)) bY) bX)) (dw 11 nd)
    (cy (gw (ml (fB (iy hu) (cE jx (bN 10) bY) bY) (ml (fB (iy hu) (cE jx (bN 11) bY) bY) (qH (lM (zS 6 (eY dW hr (bP (bN 6) (bP (j7 (bP (fX (bP (bN 10) (bP (cE se (bN 11) bY) bX))) (bP (fX (bP (bN 10) (bP (cE fR (bN 11) bY) bX))) bX))) (bP fY bX))))))))).pb (cy (An 6 (bN 10) (bN 11) (d0 fY (eY cJ hr (bP (bN 0) (bP (bN 7) (bP bY bX))))))
   (cD (fi 7 (cE fR (bN 7) bY) nd))) gC)
   (cD (gw (ml (fB (iy hu) (cE jx (bN 10) bY) bY) (ml (fB (iy hu) (cE jx (bN 11) bY) bY) (qH (lM (zS 6 (eY dW hr (bP (bN 6) (bP (j7 (bP (fX (bP (cE se (bN 10) bY) (bP (bN 11) bX))) (bP (fX (bP (cE fR (bN 10) bY) (bP (bN 11) bX))) bX))) (bP fY bX))))))))).pb (cy (An 6 (bN 10) (bN 11) (d0 fY (eY cJ hr (bP (bN 0) (bP (bN 7) (bP bY bX))))))
   (cD (fi 7 (cE fR (bN 7) bY) nd))) gC))))))
   (cD (zQ 6)))))))))) Om (by walk_at "bn")
variable (cW:Known P w K mg base 3 "_law_picture" 3 u0)
include T in
theorem Oz(A:At K mg "_law_least" (top 28)):Known P w K mg base 1 "_law_least" 1 uS:=g4 0 A fK (fun f cG A outer s H E hr=>have hu:=hr.units;have nd:=fK.nd
 (cy (lL 1 Fd nd)
   (cy (ij aJ rfl (ki (bN 0)) (mj rfl (gO (dw 2 nd) (gO (dw 3 nd) lN)))
    (cy (uF hu 1 (bN 2) (bN 2))
   (cD (uF hu 1 (bN 3) (bN 3)))))
   (cy (fi 4 kM nd)
   (cy (EJ aJ (lM (bN 4)) (cy (fi 4 kM nd)
   (cD (ij aJ rfl (ki (cE fR (bN 0) (MS rfl T.b_list T.b_reversed (bN 0)))) (mj rfl (gO (dw 2 nd) (gO (dw 3 nd) lN)))
    (cy (fi 5 (fm (Jg hu rfl) T.b_min boot_min (bP (EZ hu 1 (bN 2)) (bP (EZ hu 1 (bN 3)) bX))) nd)
   (cD (gw (xr (zR 1 (fB (y0 hu) (zP hu (bN 1) (bN 2)) (bN 5))) (xK (zR 1 (fB (y0 hu) (zP hu (bN 1) (bN 3)) (bN 5))))).pb (cy (uF hu 1 (bN 2) (bN 5))
   (cy (uF hu 1 (bN 3) (bN 5))
   (cD (fi 4 kM nd)))) gC)))))))
   (cD (zQ 1))))))) NR (by walk_at "bn")
variable (dJ:Known P w K mg base 1 "_law_least" 1 uS)
include T in
theorem Oy(A:At K mg "_law_pairs" (top 27)):Known P w K mg base 1 "_law_pairs" 1 uT:=g4 0 A fJ (fun f cG A outer s H E hr=>have hu:=hr.units;have nd:=fJ.nd
 (cy (lL 1 (j7 bX) nd)
   (cy (ij aJ rfl (pQ T.b_range (bP (fm iZ T.b_len boot_len (bP (bN 0) bX)) bX)) (dw 2 nd)
    (cD (ij aJ rfl (pQ T.b_range (bP (fm iZ T.b_len boot_len (bP (d0 (bN 0) bY) bX)) bX)) (dw 3 nd)
    (cy (fi 4 (d0 (d0 (bN 0) (bN 2)) (bN 3)) nd)
   (cy (gw (ml (fB (rY hu) (bN 4) fY) (ml (fB y1 (cE fR (bN 3) bY) (fm iZ T.b_len boot_len (bP (d0 (bN 0) bY) bX))) (qH (fB (rY hu) (d0 (d0 (bN 0) (bN 2)) (cE fR (bN 3) bY)) fY)))).pb (cD (nO 1 (fX (bP (fX (bP (bN 2) (bP (bN 3) (bP bY bX)))) (bP (fX (bP (bN 2) (bP (cE fR (bN 3) bY) (bP bY bX)))) bX))))) gC)
   (cy (gw (ml (fB (rY hu) (bN 4) fY) (ml (fB y1 (cE fR (bN 2) bY) (fm iZ T.b_len boot_len (bP (bN 0) bX))) (qH (fB (rY hu) (d0 (d0 (bN 0) (cE fR (bN 2) bY)) (bN 3)) fY)))).pb (cD (nO 1 (fX (bP (fX (bP (bN 2) (bP (bN 3) (bP bY bX)))) (bP (fX (bP (cE fR (bN 2) bY) (bP (bN 3) (bP bY bX)))) bX))))) gC)
   (cD (gw (fB (iy hu) (bN 4) fY) (cD (nO 1 (fX (bP (fX (bP (bN 2) (bP (bN 3) (bP bY bX)))) (bP (fX (bP (bN 2) (bP (bN 3) (bP bY bX)))) bX))))) gC))))))))
   (cD (uw 1))))) NS (by walk_at "bn")
variable (dH:Known P w K mg base 1 "_law_pairs" 1 uT)
include T in
theorem NN(A:At K mg "_law_ends" (top 29)):Known P w K mg base 1 "_law_ends" 1 uO:=g4 0 A gi (fun f cG A outer s H E hr=>have hu:=hr.units;have nd:=gi.nd
 (cy (lL 1 (j7 bX) nd)
   (cy (fi 2 (cE se (fm iZ T.b_len boot_len (bP (bN 0) bX)) bY) nd)
   (cy (ij aJ rfl (AM T.b_range (bP bY (bP (fm iZ T.b_len boot_len (bP (d0 (bN 0) bY) bX)) (bP bY bX)))) (dw 3 nd)
    (cy (gw (fB (iy hu) (d0 (d0 (bN 0) bY) (bN 3)) fY) (cD (nO 1 (j7 (bP (fX (bP fY (bP (cE pI (bN 3) bY) bX))) (bP (fX (bP bY (bP (bN 3) (bP bY bX)))) bX))))) gC)
   (cD (gw (fB (iy hu) (d0 (d0 (bN 0) (bN 2)) (bN 3)) fY) (cD (nO 1 (j7 (bP (fX (bP fY (bP (cE pI (bN 3) bY) bX))) (bP (fX (bP (bN 2) (bP (bN 3) (bP bY bX)))) bX))))) gC))))
   (cy (ij aJ rfl (AM T.b_range (bP bY (bP (fm iZ T.b_len boot_len (bP (bN 0) bX)) (bP bY bX)))) (dw 4 nd)
    (cy (gw (fB (iy hu) (d0 (d0 (bN 0) (bN 4)) bY) fY) (cD (nO 1 (j7 (bP (fX (bP fY (bP (cE pI (bN 4) bY) bX))) (bP (fX (bP (bN 4) (bP bY (bP bY bX)))) bX))))) gC)
   (cD (gw (fB (iy hu) (d0 (d0 (bN 0) (bN 4)) (cE se (fm iZ T.b_len boot_len (bP (d0 (bN 0) bY) bX)) bY)) fY) (cD (nO 1 (j7 (bP (fX (bP fY (bP (cE pI (bN 4) bY) bX))) (bP (fX (bP (bN 4) (bP (cE se (fm iZ T.b_len boot_len (bP (d0 (bN 0) bY) bX)) bY) (bP bY bX)))) bX))))) gC))))
   (cD (uw 1))))))) N6 (by walk_at "bn")
variable (eh:Known P w K mg base 1 "_law_ends" 1 uO)
include T dJ dH eh in
theorem Oi(A:At K mg "_law_groups" (top 30)):Known P w K mg base 2 "_law_groups" 1 uZ:=g4 1 A fb (fun f cG A outer s H E hr=>have hu:=hr.units;have nd:=fb.nd
 (cy (fi 1 (eY dJ hr (bP (eY dH hr (bP (bN 0) bX)) bX)) nd)
   (cy (lL 2 zT nd)
   (cy (ij aJ rfl (ki (eY eh hr (bP (bN 0) bX))) (KQ rfl (gO (dw 3 nd) (gO (dw 4 nd) lN)))
    (cD (xx hu 2 (Fc hu (bN 1) (bN 4) (bN 4)) (bN 3))))
   (xJ 2 (cD (gP (FJ hu T.b_sorted (Fi rfl (.of (N':=["_law_group"]) (m:=[none]) (by kernel_rfl)) lO (FK (bN 2)) (fun s3 H3 ex=>(dw 0 OB)) (fun s3 H3 ex=>lI) (fun s3 H3 ex=>(fm (Ee rfl) T.b_sorted boot_sorted (bP (bN 0) bX)))))))))))) OC (by walk_at "bn")
variable (c7:Known P w K mg base 2 "_law_groups" 1 uZ)
include T in
theorem Ox(A:At K mg "_law_shown" (top 26)):Known P w K mg base 1 "_law_shown" 1 uU:=g4 0 A fI (fun f cG A outer s H E hr=>have hu:=hr.units;have nd:=fI.nd
 (cD (gP (xH zy (.inr rfl) PySem.F.plainAttrs_str PySem.F.slot_str_join PySem.F.type_str_join fY (bP (nT rfl (.of (N':=["_law_row"]) (m:=[none]) (by kernel_rfl)) lO (ki (bN 0)) (fun s3 H3 ex=>(dw 0 zev)) (fun s3 H3 ex=>lI) (fun s3 H3 ex=>(xH zy (.inr rfl) PySem.F.plainAttrs_str PySem.F.slot_str_join PySem.F.type_str_join fY (bP (bN 0) bX)))) bX))))) NT (by walk_at "bn")
variable (dG:Known P w K mg base 1 "_law_shown" 1 uU)
include T in
theorem Og(A:At K mg "have_form" (top 9)):Known P w K mg base 1 "have_form" 1 uR:=g4 0 A gd (fun f cG A outer s H E hr=>have hu:=hr.units;have nd:=gd.nd
 (cy (fi 1 (fm iZ T.b_len boot_len (bP (d0 (bN 0) bY) bX)) nd)
   (cy (fi 2 (xq (qD (iy hu) (cE jx (fm iZ T.b_len boot_len (bP (bN 0) bX)) bY) bY) (zm (qD (iy hu) (cE jx (bN 1) bY) bY))) nd)
   (cD (gP (xq (bN 2) (xq (qD HB (bN 1) bY) (zm (fm (ua rfl) T.b_all boot_all (bP (nT rfl (.of (N':=["row","length"]) (m:=[none,some 1]) (by kernel_rfl)) lO (ki (bN 0)) (fun s3 H3 ex=>(dw 0 N5)) (fun s3 H3 ex=>lI) (fun s3 H3 ex=>(qD (iy hu) (fm iZ T.b_len boot_len (bP (bN 0) bX)) (bN 1)))) bX)))))))))) Oa (by walk_at "bn")
variable (ee:Known P w K mg base 1 "have_form" 1 uR)
include T in
theorem N0(A:At K mg "signs_at" (top 11)):Known P w K mg base 1 "signs_at" 2 uY:=g4 0 A gR (fun f cG A outer s H E hr=>have hu:=hr.units;have nd:=gR.nd
 have ⟨gQ,b9⟩:=T.b9;have ⟨iP,cv⟩:=T.cv;have ⟨iO,cu⟩:=T.cu
 (cy (fi 2 fY nd)
   (cy (gw (fB (iy hu) (cE jx (bN 0) bY) bY) (cD (fi 2 (cE fR (bN 2) (mR cv)) nd)) gC)
   (cy (gw (fB (iy hu) (cE jx (bN 1) bY) bY) (cD (fi 2 (cE fR (bN 2) (mR cu)) nd)) gC)
   (cy (gw (ml (fB (iy hu) (cE jx (bN 0) bY) bY) (qH (fB (iy hu) (cE jx (bN 1) bY) bY))).pb (cD (fi 2 (cE fR (bN 2) (mR b9)) nd)) gC)
   (cD (gP (bN 2)))))))) NI (by walk_at "bn")
variable (eJ:Known P w K mg base 1 "signs_at" 2 uY)
include T eJ in
theorem Ow(A:At K mg "have_signs" (top 10)):Known P w K mg base 2 "have_signs" 1 u7:=g4 1 A fH (fun f cG A outer s H E hr=>have hu:=hr.units;have nd:=fH.nd
 (cy (ij aJ rfl (xW T.b_enumerate (bP (bN 0) bX)) (mj rfl (gO (dw 1 nd) (gO (dw 2 nd) lN)))
    (cD (gw (oq (lM (fm (ua rfl) T.b_all boot_all (bP (nT rfl (.of (N':=["place","sign","number"]) (m:=[none,none,some 1]) (by kernel_rfl)) Ao (Au T.b_enumerate (bP (bN 2) bX)) (fun s3 H3 ex=>(mj rfl (gO (dw 0 F8) (gO (dw 1 F8) lN)))) (fun s3 H3 ex=>lI) (fun s3 H3 ex=>(qD (rY hu) (bN 1) (eY eJ hr (bP (bN 2) (bP (bN 0) bX)))))) bX)))) (cD (gP kM)) gC)))
   (cD (gP kM)))) NY (by walk_at "bn")
variable (dF:Known P w K mg base 2 "have_signs" 1 u7)
include T in
theorem NZ(A:At K mg "holds_on" (top 12)):Known P w K mg base 1 "holds_on" 2 sJ:=g4 0 A gT (fun f cG A outer s H E hr=>have hu:=hr.units;have nd:=gT.nd
 have ⟨gQ,b9⟩:=T.b9
 (cy (ij aJ rfl (AM T.b_range (bP bY (bP (fm iZ T.b_len boot_len (bP (bN 0) bX)) (bP bY bX)))) (dw 2 nd)
    (cy (fi 3 (xV (bN 0) (uK (fm (Im rfl) T.b_max boot_max (bP (cE se (bN 2) bY) (bP bY bX)))) (uK (cE fR (bN 2) bY))) nd)
   (cD (gw (ml (fB (iy hu) (d0 (bN 0) (bN 2)) (bN 1)) (qH (oq (lM (fm (ua rfl) T.b_all boot_all (bP (nT rfl (.of (N':=["sign","mark"]) (m:=[none,some 1]) (by kernel_rfl)) lO (ki (bN 3)) (fun s3 H3 ex=>(dw 0 NF)) (fun s3 H3 ex=>lI) (fun s3 H3 ex=>(qD (rY hu) (bN 0) (cE fR (bN 1) (mR b9))))) bX)))))).pb (cD (gP kM)) gC))))
   (cD (gP kM)))) NH (by walk_at "bn")
variable (dU:Known P w K mg base 1 "holds_on" 2 sJ)
include T in
theorem Ov(A:At K mg "signs_down" (top 14)):Known P w K mg base 1 "signs_down" 2 u6:=g4 0 A fE (fun f cG A outer s H E hr=>have hu:=hr.units;have nd:=fE.nd
 (cD (gP (xH zy (.inr rfl) PySem.F.plainAttrs_str PySem.F.slot_str_join PySem.F.type_str_join fY (bP (nT rfl (.of (N':=["row","place"]) (m:=[none,some 1]) (by kernel_rfl)) lO (ki (bN 0)) (fun s3 H3 ex=>(dw 0 NQ)) (fun s3 H3 ex=>lI) (fun s3 H3 ex=>(d0 (bN 0) (bN 1)))) bX))))) NX (by walk_at "bn")
variable (dD:Known P w K mg base 1 "signs_down" 2 u6)
include T dD in
theorem Nn(A:At K mg "turned" (top 13)):Known P w K mg base 2 "turned" 1 sM:=g4 1 A iQ (fun f cG A outer s H E hr=>have hu:=hr.units;have nd:=iQ.nd
 (cD (gP (nT rfl (.of (N':=["place","rows"]) (m:=[none,some 0]) (by kernel_rfl)) lO (pQ T.b_range (bP (fm iZ T.b_len boot_len (bP (d0 (bN 0) bY) bX)) bX)) (fun s3 H3 ex=>(dw 0 M9)) (fun s3 H3 ex=>lI) (fun s3 H3 ex=>(eY dD hr (bP (bN 1) (bP (bN 0) bX)))))))) Nb (by walk_at "bn")
variable (dS:Known P w K mg base 2 "turned" 1 sM)
include T ee dF dU dS in
theorem Ou(A:At K mg "is_drawing" (top 8)):Known P w K mg base 3 "is_drawing" 1 u4:=g4 2 A fG (fun f cG A outer s H E hr=>have hu:=hr.units;have nd:=fG.nd
 have ⟨iP,cv⟩:=T.cv;have ⟨iO,cu⟩:=T.cu
 (cy (gw (xr (oq (lM (eY ee hr (bP (bN 0) bX)))) (xK (oq (lM (eY dF hr (bP (bN 0) bX)))))).pb (cD (gP kM)) gC)
   (cy (fi 1 (fm (ua rfl) T.b_all boot_all (bP (nT rfl (.of (N':=["row"]) (m:=[none]) (by kernel_rfl)) lO (ki (bN 0)) (fun s3 H3 ex=>(dw 0 NP)) (fun s3 H3 ex=>lI) (fun s3 H3 ex=>(eY dU hr (bP (bN 0) (bP (mR cv) bX))))) bX)) nd)
   (cD (gP (xq (bN 1) (zm (fm (ua rfl) T.b_all boot_all (bP (nT rfl (.of (N':=["column"]) (m:=[none]) (by kernel_rfl)) lO (ki (eY dS hr (bP (bN 0) bX))) (fun s3 H3 ex=>(dw 0 NO)) (fun s3 H3 ex=>lI) (fun s3 H3 ex=>(eY dU hr (bP (bN 0) (bP (mR cu) bX))))) bX))))))))) NW (by walk_at "bn")
variable (dE:Known P w K mg base 3 "is_drawing" 1 u4)
include T in
theorem OI(A:At K mg "line_strands" (top 16)):Known P w K mg base 1 "line_strands" 3 u3:=g4 0 A eN (fun f cG A outer s H E hr=>have hu:=hr.units;have nd:=eN.nd
 have ⟨gQ,b9⟩:=T.b9
 (cy (lL 3 (j7 bX) nd)
   (cy (fi 4 zo nd)
   (cy (ij aJ rfl (Au T.b_enumerate (bP (bN 1) bX)) (mj rfl (gO (dw 5 nd) (gO (dw 6 nd) lN)))
    (cy (gw (fB (Ep hu) (bN 6) (cE fR (bN 2) (mR b9))) (cD (fi 4 zo nd)) (cD (gw (fB HA (bN 4) zo) (cD (fi 4 (fX (bP (bN 2) (bP (bN 0) (bP (bN 5) bX)))) nd)) gC)))
   (cD (nO 3 (bN 4)))))
   (cD (uw 3)))))) Oo (by walk_at "bn")
variable (cV:Known P w K mg base 1 "line_strands" 3 u3)
include T cV in
theorem Ot(A:At K mg "strands_of" (top 15)):Known P w K mg base 2 "strands_of" 2 sN:=g4 1 A fD (fun f cG A outer s H E hr=>have hu:=hr.units;have nd:=fD.nd
 (cD (gP (nT rfl (.of (N':=["number","line","mark"]) (m:=[none,none,some 1]) (by kernel_rfl)) Ao (xW T.b_enumerate (bP (bN 0) bX)) (fun s3 H3 ex=>(mj rfl (gO (dw 0 F7) (gO (dw 1 F7) lN)))) (fun s3 H3 ex=>lI) (fun s3 H3 ex=>(eY cV hr (bP (bN 0) (bP (bN 1) (bP (bN 2) bX))))))))) NV (by walk_at "bn")
variable (cU:Known P w K mg base 2 "strands_of" 2 sN)
include T in
theorem Of(A:At K mg "edge_ends" (top 17)):Known P w K mg base 1 "edge_ends" 4 sP:=g4 0 A gh (fun f cG A outer s H E hr=>have hu:=hr.units;have nd:=gh.nd
 (cy (lL 4 (j7 bX) nd)
   (cy (ij aJ rfl (xW T.b_enumerate (bP (bN 0) bX)) (mj rfl (gO (dw 5 nd) (gO (dw 6 nd) lN)))
    (cy (gw (fB (iy hu) (d0 (bN 6) bY) (bN 2)) (cD (nO 4 (fX (bP (d0 (d0 (bN 1) (bN 5)) bY) (bP (fX (bP (d0 (bN 3) bY) (bP (cE pI (bN 5) bY) bX))) bX))))) gC)
   (cD (gw (fB (iy hu) (d0 (bN 6) (zz bY)) (bN 2)) (cD (nO 4 (fX (bP (d0 (d0 (bN 1) (bN 5)) (zz bY)) (bP (fX (bP (d0 (bN 3) bY) (bP (cE pI (bN 5) bY) bX))) bX))))) gC))))
   (cD (uw 4))))) N9 (by walk_at "bn")
variable (di:Known P w K mg base 1 "edge_ends" 4 sP)
include T in
theorem Oe(A:At K mg "firsts_of" (top 20)):Known P w K mg base 1 "firsts_of" 1 uP:=g4 0 A gf (fun f cG A outer s H E hr=>have hu:=hr.units;have nd:=gf.nd
 (cy (lL 1 zT nd)
   (cy (ij aJ rfl (ki (bN 0)) (mj rfl (gO (dw 2 nd) (gO (dw 3 nd) lN)))
    (cy (xx hu 1 (bN 2) (bN 3))
   (cD (xx hu 1 (bN 3) (bN 2)))))
   (cy (lL 4 Fd nd)
   (xJ 1 (cy (ij aJ rfl (LB (bN 1)) (dw 5 nd)
    (cy (lL 6 (j7 (bP (bN 5) bX)) nd)
   (cD (EJ aJ (fB HC (Kn 6 T.b_len) bY) (cy (LG 7 6 (hnd:=nd))
   (cD (gw (zR 4 (fB (KZ hu) (bN 7) (bN 4))) (cy (uF hu 4 (bN 7) (bN 5))
   (cD (JF 6 (zP hu (bN 1) (bN 7))))) gC)))))))
   (cD (zQ 4)))))))) N7 (by walk_at "bn")
variable (ef:Known P w K mg base 1 "firsts_of" 1 uP)
include T ef in
theorem ND(A:At K mg "grouped" (top 19)):Known P w K mg base 2 "grouped" 2 uV:=g4 1 A g6 (fun f cG A outer s H E hr=>have hu:=hr.units;have nd:=g6.nd
 (cy (fi 2 (eY ef hr (bP (bN 1) bX)) nd)
   (cy (lL 3 zT nd)
   (cy (ij aJ rfl (ki (bN 0)) (mj rfl (gO (dw 4 nd) (gO (dw 5 nd) lN)))
    (cD (xx hu 3 (Fc hu (bN 2) (bN 4) (bN 4)) (bN 5))))
   (xJ 3 (cD (gP (FJ hu T.b_sorted (Fi rfl (.of (N':=["group"]) (m:=[none]) (by kernel_rfl)) lO (FK (bN 3)) (fun s3 H3 ex=>(dw 0 Np)) (fun s3 H3 ex=>lI) (fun s3 H3 ex=>(fm (Ee rfl) T.b_sorted boot_sorted (bP (bN 0) bX)))))))))))) Nq (by walk_at "bn")
variable (fk:Known P w K mg base 2 "grouped" 2 uV)
include T in
theorem Od(A:At K mg "joints_of" (top 18)):Known P w K mg base 1 "joints_of" 3 uQ:=g4 0 A gc (fun f cG A outer s H E hr=>have hu:=hr.units;have nd:=gc.nd
 (cy (lL 3 (j7 bX) nd)
   (cy (ij aJ rfl (xW T.b_enumerate (bP (bN 0) bX)) (mj rfl (gO (dw 4 nd) (gO (dw 5 nd) lN)))
    (cy (Le 6 rfl (.of (N':=["place","sign"]) (m:=[none,none]) (by kernel_rfl)) Ao (Au T.b_enumerate (bP (bN 5) bX)) (fun s3 H3 ex=>(mj rfl (gO (dw 0 Ga) (gO (dw 1 Ga) lN)))) (fun s3 H3 ex=>(Kp (fB (iy hu) (bN 1) fY))) (fun s3 H3 ex=>(bN 0)) nd)
   (cD (DL 3 (nT rfl (.of (N':=["place","number","stretches","uprights"]) (m:=[none,some 4,some 1,some 2]) (by kernel_rfl)) lO (ki (bN 6)) (fun s3 H3 ex=>(dw 0 N4)) (fun s3 H3 ex=>lI) (fun s3 H3 ex=>(fX (bP (d0 (d0 (bN 2) (bN 1)) (bN 0)) (bP (d0 (d0 (bN 3) (bN 0)) (bN 1)) bX)))))))))
   (cD (uw 3))))) N8 (by walk_at "bn")
variable (d9:Known P w K mg base 1 "joints_of" 3 uQ)
include T dS dE cU di fk d9 in
theorem Nm(A:At K mg "traced" (top 7)):Known P w K mg base 4 "traced" 1 sL:=g4 3 A iR (fun f cG A outer s H E hr=>have hu:=hr.units;have nd:=iR.nd
 have ⟨iP,cv⟩:=T.cv;have ⟨iO,cu⟩:=T.cu
 (cy (fi 1 (xH JO (.inr rfl) PySem.F.plainAttrs_str PySem.F.slot_str_split PySem.F.type_str_split (bN 0) (bP fY bX)) nd)
   (cy (gw (oq (lM (eY dE hr (bP (bN 1) bX)))) (cD K7) gC)
   (cy (fi 2 (eY dS hr (bP (bN 1) bX)) nd)
   (cy (fi 3 (eY cU hr (bP (bN 1) (bP (mR cv) bX))) nd)
   (cy (fi 4 (eY cU hr (bP (bN 2) (bP (mR cu) bX))) nd)
   (cy (lL 5 (eY di hr (bP (bN 1) (bP (bN 3) (bP (mR cv) (bP (fX (bP fY (bP fY bX))) bX))))) nd)
   (cy (DL 5 (eY di hr (bP (bN 2) (bP (bN 4) (bP (mR cu) (bP (fX (bP fY (bP fY bX))) bX))))))
   (xJ 5 (cD (gP (eY fk hr (bP (bN 5) (bP (eY d9 hr (bP (bN 1) (bP (bN 3) (bP (bN 4) bX)))) bX)))))))))))))) Na (by walk_at "bn")
variable (fg:Known P w K mg base 4 "traced" 1 sL)
include T in
theorem OH(A:At K mg "_law_grouped" (top 31)):Known P w K mg base 1 "_law_grouped" 2 sO:=g4 0 A eP (fun f cG A outer s H E hr=>have hu:=hr.units;have nd:=eP.nd
 (cy (gw (xr (oq (lM (xA (bN 0) T.b_isinstance T.b_list boot_list))) (xK (fB (y0 hu) (fm iZ T.b_len boot_len (bP (bN 0) bX)) (fm iZ T.b_len boot_len (bP (bN 1) bX))))).pb (cD (gP kM)) gC)
   (cy (ij aJ rfl (ki (bN 0)) (dw 2 nd)
    (cy (gw (oq (lM (xA (bN 2) T.b_isinstance T.b_list boot_list))) (cD (gP kM)) gC)
   (cD (ij aJ rfl (ki (bN 2)) (dw 3 nd)
    (cD (gw (xr (oq (lM (xA (bN 3) T.b_isinstance T.b_tuple boot_tuple))) (xK (lM (xA (d0 (bN 3) (zz bY)) T.b_isinstance T.b_bool boot_bool)))).pb (cD (gP kM)) gC))))))
   (cD (gP (qD (iy hu) (bN 0) (bN 1))))))) Ol (by walk_at "bn")
variable (cI:Known P w K mg base 1 "_law_grouped" 2 sO)
include T ck cW c7 dG fg cI in
theorem Jn  {f:Addr} (cG:Value) (A:Around) (outer:List Env) (s:Shared) (H:Hp) (E:XK) (hr:dQ 4 (A.deeper (envOfC "law" (bO (top 32)) s.heap.objs.size f cG))) :
  lp (nJ l9 P w K mg base ["_law_script","_law_way","_law_grid","_law_due","_law_text","_law_found","_law_group"] "law" (bO (top 32)) f cG A outer s H E).pZ (cP (top 32)) t5:=
 have hu:=hr.units;have nd:=m3.nd
 (cy (fi 1 (cE jx (eY ck hr (bP (fm (zd rfl) T.b_sum boot_sum (bP (xV (bN 0) zW (uK bY)) bX)) (bP bY bX))) bY) nd)
   (cy (fi 2 (eY cW hr (bP (bN 0) (bP (d0 (j7 (bP bY (bP bY (bP bY bX)))) (fm (C9 rfl) T.b_min boot_min (bP (bN 1) (bP bY bX)))) (bP (d0 (j7 (bP bY (bP bY (bP bY bX)))) (fm (C9 rfl) T.b_min boot_min (bP (bN 1) (bP bY bX)))) bX)))) nd)
   (cy (fi 3 (eY c7 hr (bP (bN 2) bX)) nd)
   (cy (fi 4 (eY dG hr (bP (bN 2) bX)) nd)
   (cy (lL 5 (eY fg hr (bP (bN 4) bX)) nd)
   (cy (gw (oq (lM (zS 5 (eY cI hr (bP (bN 5) (bP (bN 3) bX)))))) (cD (gP kM)) gC)
   (cy (Nr 5 6 rfl nd aJ)
   (cy (JP 5 (j7 bX))
   (cD (gP (eY cI hr (bP (eY fg hr (bP (bN 4) bX)) (bP (bN 3) bX)))))))))))))
theorem qW{fa:Addr}(T:Txt K mg)  (AA:At K mg "_law_mix" (top 22)/\At K mg "_law_digit" (top 23)/\At K mg "_law_led" (top 24)/\At K mg "_law_picture" (top 25)/\At K mg "_law_least" (top 28)/\At K mg "_law_pairs" (top 27)/\At K mg "_law_ends" (top 29)/\At K mg "_law_groups" (top 30)/\At K mg "_law_shown" (top 26)/\At K mg "have_form" (top 9)/\At K mg "signs_at" (top 11)/\At K mg "have_signs" (top 10)/\At K mg "holds_on" (top 12)/\At K mg "signs_down" (top 14)/\At K mg "turned" (top 13)/\At K mg "is_drawing" (top 8)/\At K mg "line_strands" (top 16)/\At K mg "strands_of" (top 15)/\At K mg "edge_ends" (top 17)/\At K mg "firsts_of" (top 20)/\At K mg "grouped" (top 19)/\At K mg "joints_of" (top 18)/\At K mg "traced" (top 7)/\At K mg "_law_grouped" (top 31)/\At K mg "law" (top 32)/\True)   (oV:mg "law"=some (.ref fa)):∃fd:FuncData,(∀(s:Shared) (u:Value),BindsTo s fd ⟨[u],[]⟩ [("_law_script",u)])/\∀base:Heap,h7 P w K mg base l9 5 fa fd ["_law_script"] (tN K 1 (y7 63)):=by
 obtain⟨kJ,jo,kK,h9,jn,jm,j4,iJ,jk,j1,kH,jj,kI,jh,nD,ji,h8,jg,j3,j2,md,j0,nE,ia,wU,_⟩:=AA;refine IH (T:=fun _=>t5) wU oV m3 (by walk_at "bn") (fun base f cG A outer s H E hr=>?_) (fun _=>Lj);have ck:Known P w K mg base 1 "_law_mix" 2 pR:=N2 T kJ;have cJ:Known P w K mg base 2 "_law_digit" 3 qI:=OA T ck jo;have dW:Known P w K mg base 1 "_law_led" 3 sI:=N1 T kK;have cW:Known P w K mg base 3 "_law_picture" 3 u0:=OF T ck cJ dW h9;have dJ:Known P w K mg base 1 "_law_least" 1 uS:=Oz T jn;have dH:Known P w K mg base 1 "_law_pairs" 1 uT:=Oy T jm;have eh:Known P w K mg base 1 "_law_ends" 1 uO:=NN T j4;have c7:Known P w K mg base 2 "_law_groups" 1 uZ:=Oi T dJ dH eh iJ;have dG:Known P w K mg base 1 "_law_shown" 1 uU:=Ox T jk;have ee:Known P w K mg base 1 "have_form" 1 uR:=Og T j1;have eJ:Known P w K mg base 1 "signs_at" 2 uY:=N0 T kH;have dF:Known P w K mg base 2 "have_signs" 1 u7:=Ow T eJ jj;have dU:Known P w K mg base 1 "holds_on" 2 sJ:=NZ T kI;have dD:Known P w K mg base 1 "signs_down" 2 u6:=Ov T jh;have dS:Known P w K mg base 2 "turned" 1 sM:=Nn T dD nD;have dE:Known P w K mg base 3 "is_drawing" 1 u4:=Ou T ee dF dU dS ji;have cV:Known P w K mg base 1 "line_strands" 3 u3:=OI T h8;have cU:Known P w K mg base 2 "strands_of" 2 sN:=Ot T cV jg;have di:Known P w K mg base 1 "edge_ends" 4 sP:=Of T j3;have ef:Known P w K mg base 1 "firsts_of" 1 uP:=Oe T j2;have fk:Known P w K mg base 2 "grouped" 2 uV:=ND T ef md;have d9:Known P w K mg base 1 "joints_of" 3 uQ:=Od T j0;have fg:Known P w K mg base 4 "traced" 1 sL:=Nm T dS dE cU di fk d9 nE;have cI:Known P w K mg base 1 "_law_grouped" 2 sO:=OH T ia;exact Jn T ck cW c7 dG fg cI cG A outer s H E hr
end
end Wc
open PySem PySem.W PyProof.Rows
theorem PySem.W.Fast.te6954679781226907896:True:=trivial
noncomputable def PySem.W.Fast.tw17190760837506039428:PySem.Program:=PySem.Challenge.pw_wirechannel_k51_drawings_traced
theorem PySem.W.Fast.te17190760837506039428:PySem.Challenge.pw_wirechannel_k51_drawings_traced=PySem.W.Fast.tw17190760837506039428:=rfl
noncomputable def PySem.W.Fast.tw451350683928106977:List PySem.Stmt:=(PySem.Challenge.pw_wirechannel_k51_drawings_traced.main.body.drop 0).take 2
theorem PySem.W.Fast.te451350683928106977:(PySem.Challenge.pw_wirechannel_k51_drawings_traced.main.body.drop 0).take 2=PySem.W.Fast.tw451350683928106977:=rfl
noncomputable def PySem.W.Fast.tw1081055592729358600:List PySem.Stmt:=(PySem.Challenge.pw_wirechannel_k51_drawings_traced.main.body.drop 2).take 10
theorem PySem.W.Fast.te1081055592729358600:(PySem.Challenge.pw_wirechannel_k51_drawings_traced.main.body.drop 2).take 10=PySem.W.Fast.tw1081055592729358600:=rfl
noncomputable def PySem.W.Fast.tw16777798038111858789:List PySem.Stmt:=(PySem.Challenge.pw_wirechannel_k51_drawings_traced.main.body.drop 12).take 14
theorem PySem.W.Fast.te16777798038111858789:(PySem.Challenge.pw_wirechannel_k51_drawings_traced.main.body.drop 12).take 14=PySem.W.Fast.tw16777798038111858789:=rfl
noncomputable def PySem.W.Fast.tw1437969523514579207:List PySem.Stmt:=(PySem.Challenge.pw_wirechannel_k51_drawings_traced.main.body.drop 26).take 7
theorem PySem.W.Fast.te1437969523514579207:(PySem.Challenge.pw_wirechannel_k51_drawings_traced.main.body.drop 26).take 7=PySem.W.Fast.tw1437969523514579207:=rfl
theorem PySem.W.Fast.tw2637471227320592252:True:=trivial
theorem PySem.W.Fast.tw14400822394879147509:True:=trivial
theorem PySem.W.Fast.tw4672034298936065158:True:=trivial
theorem PySem.W.Fast.tw85414999012582829:True:=trivial
theorem PySem.W.Fast.tw9700066325985217078:True:=trivial
theorem PySem.W.Fast.tw17979739021531949718:True:=trivial
theorem PySem.W.Fast.tw11896930289165476908:True:=trivial
theorem PySem.W.Fast.tw5134861886084163235:True:=trivial
theorem PySem.W.Fast.tw15640842021692592533:True:=trivial
theorem PySem.W.Fast.tw13254284959031503728:True:=trivial
theorem PySem.W.Fast.tw13212952507423334971:True:=trivial
theorem PySem.W.Fast.tw7774838183561632293:True:=trivial
theorem PySem.W.Fast.tw14089079790093572737:True:=trivial
theorem PySem.W.Fast.tw5136767593079787300:True:=trivial
theorem PySem.W.Fast.tw15170779645309066461:True:=trivial
theorem PySem.W.Fast.tw1775027193402220046:True:=trivial
theorem PySem.W.Fast.tw5222989813886453115:True:=trivial
theorem PySem.W.Fast.tw16213871739548391254:True:=trivial
theorem PySem.W.Fast.tw3466132667238823287:True:=trivial
theorem PySem.W.Fast.tw9103960929059015463:True:=trivial
theorem PySem.W.Fast.tw2312858728848570038:True:=trivial
theorem PySem.W.Fast.tw9312487048395367277:True:=trivial
theorem PySem.W.Fast.tw11256700008173853349:True:=trivial
theorem PySem.W.Fast.tw3818096969787535936:True:=trivial
theorem PySem.W.Fast.tw11500083065849408867:True:=trivial
theorem PySem.W.Fast.tw9052655539801532947:True:=trivial
theorem PySem.W.Fast.tw6698006950333370721:True:=trivial
theorem PySem.W.Fast.tw2321783253357230722:True:=trivial
theorem PySem.W.Fast.tw13505418578245939679:True:=trivial
theorem PySem.W.Fast.tw3923811557125995098:True:=trivial
theorem PySem.W.Fast.tw4259265394667380289:True:=trivial
theorem PySem.W.Fast.tw6085885386003756523:True:=trivial
theorem PySem.W.Fast.tw12460171428270374828:True:=trivial
theorem PySem.W.Fast.tw14039444123469219235:True:=trivial
theorem PySem.W.Fast.tw8588367590915253590:True:=trivial
theorem PySem.W.Fast.tw5249982587809270900:True:=trivial
theorem PySem.W.Fast.tw12026382648049936031:True:=trivial
theorem PySem.W.Fast.tw5276166592773568389:True:=trivial
theorem PySem.W.Fast.tw969094277735175374:True:=trivial
theorem PySem.W.Fast.tw3130876521764526887:True:=trivial
theorem PySem.W.Fast.tw6822211699769259174:True:=trivial
theorem PySem.W.Fast.tw3379930721940943649:True:=trivial
theorem PySem.W.Fast.tw5516263136494078821:True:=trivial
theorem PySem.W.Fast.tw12665135226161944611:True:=trivial
theorem PySem.W.Fast.tw13892852175162595015:True:=trivial
theorem PySem.W.Fast.tw12805431922914644329:True:=trivial
theorem PySem.W.Fast.tw13491252754228738681:True:=trivial
theorem PySem.W.Fast.tw5431179288109525393:True:=trivial
theorem PySem.W.Fast.tw11979123399018502209:True:=trivial
theorem PySem.W.Fast.tw12980604930525037868:True:=trivial
theorem PySem.W.Fast.tw9696420027539458253:True:=trivial
theorem PySem.W.Fast.tw3837595242400720673:True:=trivial
theorem PySem.W.Fast.tw6098663414016474964:True:=trivial
theorem PySem.W.Fast.tw3644506914467285351:True:=trivial
theorem PySem.W.Fast.tw5082943865564397451:True:=trivial
theorem PySem.W.Fast.tw13592721472500392688:True:=trivial
theorem PySem.W.Fast.tw11368959858751103644:True:=trivial
theorem PySem.W.Fast.tw9587271149831809838:True:=trivial
theorem PySem.W.Fast.tw2300920703830005474:True:=trivial
theorem PySem.W.Fast.tw1799455826607162043:True:=trivial
noncomputable def PySem.W.Fast.tw2228236486412245213:PySem.Program:={ PySem.Challenge.pw_wirechannel_k51_drawings_traced with main:={ PySem.Challenge.pw_wirechannel_k51_drawings_traced.main with body:=[1,2,4,5,6,7,8,9,10,11,12,13,14,15,16,17,18,19,20,22,23,24,25,26,27,28,29,30,31,32].map fun i=>PySem.Challenge.pw_wirechannel_k51_drawings_traced.main.body.getD i (.Pass ⟨0,0,0,0⟩) } }
theorem PySem.W.Fast.te2228236486412245213:({ PySem.Challenge.pw_wirechannel_k51_drawings_traced with main:={ PySem.Challenge.pw_wirechannel_k51_drawings_traced.main with body:=[1,2,4,5,6,7,8,9,10,11,12,13,14,15,16,17,18,19,20,22,23,24,25,26,27,28,29,30,31,32].map fun i=>PySem.Challenge.pw_wirechannel_k51_drawings_traced.main.body.getD i (.Pass ⟨0,0,0,0⟩) } }:PySem.Program)=PySem.W.Fast.tw2228236486412245213:=rfl
local macro_rules | `(tactic| walk_at "A")=>`(tactic| ((try dsimp only[L2.CF]);refine' L2.wL KX G ?a ?l ?c ?k;(case a=>k_is);(case l=>k_is);(case c=>k_is);(case k=>k_is)))
theorem PySem.Challenge.cw_wirechannel_k51_drawings_traced_holds : PySem.Challenge.rw_wirechannel_k51_drawings_traced.Holds := by
 w_on;o_law;k_head;(case hw=>w_witness2)
 k_fill
 refine L2.lQ (l:=PySem.Challenge.rw_wirechannel_k51_drawings_traced) (n:=63) (k:=5) (x:="_law_script") rfl (by decide) rfl ⟨rfl,by decide,by decide⟩ (fun w h Y=>PySem.W.kIn_of Y) ?F
 case F=>
  intro w mg fa h KX G oV;have b9:∃t,mg "CROSSINGS"=some (.str "+#" t):=by
   refine' L2.jd KX G ?c ?e
   (case c=>k_is)
   (case e=>exact rfl)
  have cv:∃t,mg "STRETCH"=some (.str "-" t):=by
   refine' L2.jd KX G ?c ?e
   (case c=>k_is)
   (case e=>exact rfl)
  have cu:∃t,mg "UPRIGHT"=some (.str "|" t):=by
   refine' L2.jd KX G ?c ?e
   (case c=>k_is)
   (case e=>exact rfl)
  have T:Wc.Txt (L2.CF KX) mg:=by
   dsimp only[L2.CF];refine' ⟨bo KX G ?b_all,bo KX G ?b_bool,bo KX G ?b_enumerate,bo KX G ?b_isinstance,bo KX G ?b_len,bo KX G ?b_list,bo KX G ?b_max,bo KX G ?b_min,bo KX G ?b_range,bo KX G ?b_reversed,bo KX G ?b_sorted,bo KX G ?b_sum,bo KX G ?b_tuple,b9,cv,cu⟩
   (case b_all=>k_is)
   (case b_bool=>k_is)
   (case b_enumerate=>k_is)
   (case b_isinstance=>k_is)
   (case b_len=>k_is)
   (case b_list=>k_is)
   (case b_max=>k_is)
   (case b_min=>k_is)
   (case b_range=>k_is)
   (case b_reversed=>k_is)
   (case b_sorted=>k_is)
   (case b_sum=>k_is)
   (case b_tuple=>k_is)
  exact Wc.qW T  ⟨by walk_at "A",by walk_at "A",by walk_at "A",by walk_at "A",by walk_at "A",by walk_at "A",by walk_at "A",by walk_at "A",by walk_at "A",by walk_at "A",by walk_at "A",by walk_at "A",by walk_at "A",by walk_at "A",by walk_at "A",by walk_at "A",by walk_at "A",by walk_at "A",by walk_at "A",by walk_at "A",by walk_at "A",by walk_at "A",by walk_at "A",by walk_at "A",by walk_at "A",trivial⟩  oV
#print axioms PySem.Challenge.cw_wirechannel_k51_drawings_traced_holds
