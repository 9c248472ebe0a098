import PyProof.Rows.All
import Wide.All
import OpenK.AllK
import Wide.FinOn
import OpenK.KMore
import KE.KTryOn
import KE.KxBytes
import KE.KItem
import Lean
import PyProof.EqAt
import PyProof.EqKinds
import PyProof.TupleCall
import PyProof.NeKinds
import PyProof.SliceStr2
import PyProof.ConsumeWalk
import KE.KDictSum
import PyProof.DictWalks
import PyProof.AttrMissSeq
import KE.KDictOf
import PyProof.WalksS
import PyProof.Walks
import PyProof.DictList
import PyProof.MeetsDict
import PyProof.FactsAll.dict_3
import PyProof.MinMaxWalk
import PyProof.WalkInts
import PyProof.Rows.CallKwBuiltin
import PyProof.MaxThree
import PyProof.Rows.SortRunsK
import PyProof.Rows.SortShellK
import KE.KSortTup
import PyProof.DictRoadsH
import PyProof.DictIter
import KE.KDictList
import PyProof.ZipIter
import PyProof.TupleIter
import PyProof.WalksMore
import PyProof.SumWalkG
import PyProof.DictValues
import PyProof.FactsAll.dict_4
import PySem.SetOps
import PyProof.ListRange
import PyProof.DictItems
import PyProof.CallStr
import KE.KIntText
import PyProof.StrCalls2
import PyProof.Rows.StrItems
import PySem.Challenge.RW_wirechannel_k03_read
local macro_rules | `(tactic| omega) => `(tactic| lia)
set_option Elab.async false
set_option linter.all false
set_option maxRecDepth 100000
namespace L2
open PySem PySem.Spec PyProof.Rows
noncomputable abbrev Key:=Sum Int Str
noncomputable def zo0:Key→Value→Bool
 | .inl k,v=>Value.isInt k v
 | .inr x,v=>Value.isStrOf x v
noncomputable def zry(w:World):Key→Int
 | .inl k=>hashInt k
 | .inr x=>hashStr w x
theorem za4:∀{k:Key} {v:Value},zo0 k v=true→(∃i t,k=Sum.inl i∧v=Value.int i t)∨(∃x t,k=Sum.inr x∧v=Value.str x t)
 | .inl i,v,h=>by
  obtain⟨t,e⟩:=Value.isInt_shape (k:=i) (v:=v) h
  exact .inl ⟨i,t,rfl,e⟩
 | .inr x,v,h=>by
  obtain⟨t,e⟩:=Value.isStrOf_shape (x:=x) (v:=v) h
  exact .inr ⟨x,t,rfl,e⟩
theorem zo1(a b:Int):decide ((Sum.inl a:Key)=Sum.inl b)=(a==b):=by
 by_cases e:a=b
 ·subst e;simp
 ·have h:¬(Sum.inl a:Key)=Sum.inl b:=fun q=>e (Sum.inl.inj q)
  rw[decide_eq_false h]
  exact(beq_eq_false_iff_ne.mpr e).symm
theorem zo2(a b:Str):decide ((Sum.inr a:Key)=Sum.inr b)=decide (a=b):=by
 by_cases e:a=b
 ·subst e;simp
 ·have h:¬(Sum.inr a:Key)=Sum.inr b:=fun q=>e (Sum.inr.inj q)
  rw[decide_eq_false h,decide_eq_false e]
theorem zo3(a:Int)(b:Str):decide ((Sum.inl a:Key)=Sum.inr b)=false:=decide_eq_false (fun q=>nomatch q)
theorem zo4(a:Str)(b:Int):decide ((Sum.inr a:Key)=Sum.inl b)=false:=decide_eq_false (fun q=>nomatch q)
noncomputable def zky(prog:Program)(w:World):PySem.KeyKind prog w Key where
 is:=zo0
 hash:=zry w
 inj:=fun v a b ha hb=>by
  rcases za4 ha with⟨i,t,rfl,rfl⟩ | ⟨x,t,rfl,rfl⟩
  ·rcases za4 hb with⟨j,u,rfl,e⟩ | ⟨y,u,rfl,e⟩
   ·injection e with e1 _;rw[e1]
   ·exact nomatch e
  ·rcases za4 hb with⟨j,u,rfl,e⟩ | ⟨y,u,rfl,e⟩
   ·exact nomatch e
   ·injection e with e1 _;rw[e1]
 byValue:=fun k v h=>by
  rcases za4 h with⟨i,t,rfl,rfl⟩ | ⟨x,t,rfl,rfl⟩<;>rfl
 pyHash:=fun hv h=>by
  rcases za4 hv with⟨i,t,rfl,rfl⟩ | ⟨x,t,rfl,rfl⟩
  ·exact wpAny_pyHash_int h
  ·exact wpAny_pyHash_str h
 eqBool:=fun hu hv h=>by
  rcases za4 hu with⟨i,t,rfl,rfl⟩ | ⟨x,t,rfl,rfl⟩
  ·rcases za4 hv with⟨j,u,rfl,rfl⟩ | ⟨y,u,rfl,rfl⟩
   ·rw[zo1] at h;exact wpAny_eqBool_int h
   ·rw[zo3] at h;exact SeqAt.EqAt.int_str i t y u _ _ _ _ h
  ·rcases za4 hv with⟨j,u,rfl,rfl⟩ | ⟨y,u,rfl,rfl⟩
   ·rw[zo4] at h;exact SeqAt.EqAt.str_int x t j u _ _ _ _ h
   ·rw[zo2] at h;exact wpAny_eqBool_str h
 «strs»:=fun k x t v h=>by
  rcases za4 h with⟨i,u,rfl,e⟩ | ⟨y,u,rfl,e⟩
  ·exact nomatch e
  ·injection e with e1 _
   subst e1
   cases v<;>rfl
end L2
namespace L2
open PySem PySem.Spec PyProof.Rows
inductive V where
 | non | bl (b:Bool) | int (i:Int) | str (x:Str) | byt (b:Array UInt8) | flt (b:UInt64) | ref (a:Addr) | ty (n:String)
 deriving DecidableEq
noncomputable def RelV:V→Value→Prop
 | .non,u=>u=Value.none
 | .bl b,u=>u=Value.bool b
 | .int i,u=>∃t,u=Value.int i t
 | .str x,u=>∃t,u=Value.str x t
 | .byt b,u=>∃t,u=Value.bytes b t
 | .flt b,u=>∃t,u=Value.float b t
 | .ref a,u=>u=Value.ref a
 | .ty n,u=>u=Value.type n
noncomputable abbrev Vals:List V→List Value→Prop:=Paired RelV
theorem Vals.length{xs:List V}{us:List Value}(r:Vals xs us):xs.length=us.length:=Paired.length r
theorem Vals.get:∀{xs:List V} {us:List Value} {i:Nat} {x:V},Vals xs us→xs[i]?=some x→∃u,us[i]?=some u∧RelV x u
 | _,_,_,_,.nil,e=>by simp at e
 | _,_,0,_,.cons r _,e=>by simp at e;subst e;exact⟨_,rfl,r⟩
 | _,_,i+1,x,.cons _ t,e=>by
  obtain⟨u,h1,h2⟩:=Vals.get (i:=i) (x:=x) t (by simpa using e)
  exact⟨u,by simpa using h1,h2⟩
theorem Vals.set{x:V}{u:Value}(r:RelV x u):∀{xs:List V} {us:List Value} (i:Nat),Vals xs us→Vals (xs.set i x) (us.set i u)
 | _,_,_,.nil=>.nil
 | _,_,0,.cons _ t=>.cons r t
 | _,_,i+1,.cons q t=>.cons q (Vals.set r i t)
theorem Vals.append:∀{xs ys:List V} {us ws:List Value},Vals xs us→Vals ys ws→Vals (xs++ys) (us++ws)
 | _,_,_,_,.nil,s=>s
 | _,_,_,_,.cons r t,s=>.cons r (Vals.append t s)
theorem Vals.take:∀{xs:List V} {us:List Value} (n:Nat),Vals xs us→Vals (xs.take n) (us.take n)
 | _,_,0,_=>.nil
 | _,_,_+1,.nil=>.nil
 | _,_,n+1,.cons r t=>.cons r (Vals.take n t)
theorem Vals.drop:∀{xs:List V} {us:List Value} (n:Nat),Vals xs us→Vals (xs.drop n) (us.drop n)
 | _,_,0,r=>r
 | _,_,_+1,.nil=>.nil
 | _,_,n+1,.cons _ t=>Vals.drop n t
noncomputable def RelO:Option V→Option Value→Prop
 | some v,some u=>RelV v u
 | none,none=>True
 | _,_=>False
noncomputable def KV{κ:Type}:List (κ×V)→List (κ×Value)→Prop:=Paired fun(p:κ×V) (q:κ×Value)=>p.1=q.1∧RelV p.2 q.2
noncomputable def kV:Key→V
 | .inl i=>.int i
 | .inr x=>.str x
inductive HO where
 /-- a list -/
 | lst (xs:List V)
 /-- a tuple (never changes) -/
 | tup (xs:List V)
 /-- a dict whose keys are ints and texts;one whose keys are tuples of ints and texts (the empty one is both) -/
 | dK (kvs:List (Key×V)) (ep:Nat) | dT (kvs:List (List Key×V)) (bs:List Addr)
 /-- a set of ints: its members,its size -/
 | set (S:Int→Bool) (n:Nat)
 /-- an instance of the class at C,its dict at dx,its attributes -/
 | ins (C dx:Addr) (fs:List (Str×V))
 /-- the dict of the instance at x -/
 | own (x:Addr)
 /-- the dict of an exception -/
 | xd (fs:List (Str×V))
 /-- a bound method,f of x -/
 | met (f x:Addr)
 /-- a range object lo,lo+1,.. below hi -/
 | rng (lo hi:Int)
 /-- a thing that is known to the object (the script;a dict while a loop walks it): read,never written while it is so -/
 | frz (o:Obj) (u:HO)
 /-- a code object's table -/
 | tbl (ps:Array Value)
 /-- any other thing,by what is true of its one object (a def of one's own: SetO a S n:=HO.ext fun h=>..) -/
 | ext (φ:Heap→Prop)
noncomputable abbrev Hp:=Addr→Option HO
noncomputable def upd(H:Hp)(a:Addr)(o:HO):Hp:=fun b=>if b=a then some o else H b
theorem zaq{H:Hp}{a:Addr}{o:HO}:upd H a o a=some o:=by unfold upd;rw[if_pos rfl]
theorem zal{H:Hp}{a b:Addr}{o:HO}(h:b≠a):upd H a o b=H b:=by unfold upd;rw[if_neg h]
theorem zqx{H:Hp}{a b:Addr}{o u:HO}(h:H a=some o)(h':H b=some u)(d:o≠u):a≠b:=by
 intro e;subst e;rw[h] at h';exact d (Option.some.inj h')
theorem zar{H:Hp}{a b:Addr}{o:HO}(h:H a=some o)(h':H b=none):a≠b:=by
 intro e;subst e;rw[h] at h';cases h'
section
variable (P:Program) (w:World)
noncomputable def ObjOk(H:Hp)(h:Heap)(a:Addr):HO→Prop
 | .lst xs=>xs.length≤sizeLine∧∃(its:List Value) (n:Nat),Vals xs its∧h.get? a=some { cls:=.type "list",data:=.seq its.toArray n }
 | .tup xs=>xs.length≤sizeLine∧∃its:List Value,Vals xs its∧IsTup h a its.toArray
 | .dK kvs ep=>kvs.length≤sizeLine∧(a==sysModules)=false∧∃vs,KV kvs vs∧h.DictAt (zky P w) a vs ep
 | .dT kvs bs=>kvs.length≤sizeLine∧(a==sysModules)=false∧∃xs:List (List Key×Addr×Value),xs.map (fun x=>x.2.1)=bs∧
   Paired (fun(p:List Key×V) (q:List Key×Addr×Value)=>p.1=q.1∧H q.2.1=some (.tup (p.1.map kV))∧RelV p.2 q.2.2) kvs xs∧
   ∃o es ep,h.get? a=some o∧o.ExactDict∧o.data=.dict es ep∧es.toList=xs.map (entryOfKey (tupleKind (zky P w)))∧(xs.map (·.1)).Nodup
 | .set S n=>h.SetOf (intKind P w) a S n
 | .ins C dx fs=>H dx=some (.own a)∧fs.length≤1000∧dx≠a∧h.get? a=some (PySem.W.instObj C dx)∧
   ∃mA,h.Ns1 dx mA∧(∀f,RelO (fs.lookup f) (mA f))∧PySem.Within mA (fs.map (·.1))
 | .own _=>∃o,h.get? a=some o
 | .xd fs=>∃mA,h.Ns1 a mA∧∀f,RelO (fs.lookup f) (mA f)
 | .rng lo hi=>∃t u v,h.get? a=some { cls:=.type "range",data:=.fields #[.int lo t,.int hi u,.int 1 v] }
 | .frz o u=>h.get? a=some o∧ObjOk H h a u
 | .tbl ps=>h.get? a=some { cls:=.none,data:=.fields ps }
 | .met f x=>h.get? a=some (PySem.W.methodObj (.ref f) (.ref x))
 | .ext φ=>φ h∧(∃o,h.get? a=some o)∧∀h1 h2:Heap,φ h1→(∀o,h1.get? a=some o→h2.get? a=some o)→φ h2
noncomputable def HOk(H:Hp)(h:Heap):Prop:=∀a o,H a=some o→ObjOk P w H h a o
end
section
variable {P:Program} {w:World} {H H':Hp} {h h':Heap} {a:Addr} {o:HO}
theorem ObjOk.lt(x:ObjOk P w H h a o):a<h.objs.size:=by
 cases o with
 | lst xs=>obtain⟨_,_,_,_,e⟩:=x;exact Heap.lt_size e
 | tup xs=>obtain⟨_,_,_,p⟩:=x;exact p.lt
 | dK kvs ep=>obtain⟨_,_,_,_,o,_,e,_⟩:=x;exact Heap.lt_size e
 | dT kvs bs=>obtain⟨_,_,_,_,_,o,_,_,e,_⟩:=x;exact Heap.lt_size e
 | set S n=>obtain⟨o,_,_,_,e,_⟩:=x;exact Heap.lt_size e
 | ins C dx fs=>obtain⟨_,_,_,e,_⟩:=x;exact Heap.lt_size e
 | own y=>obtain⟨_,e⟩:=x;exact Heap.lt_size e
 | xd fs=>obtain⟨_,⟨_,_,_,e,_⟩,_⟩:=x;exact Heap.lt_size e
 | rng lo hi=>obtain⟨_,_,_,e⟩:=x;exact Heap.lt_size e
 | frz ob u=>obtain⟨e,_⟩:=x;exact Heap.lt_size e
 | tbl ps=>exact Heap.lt_size (show h.get? a=some _ from x)
 | met f y=>exact Heap.lt_size (show h.get? a=some _ from x)
 | ext φ=>obtain⟨_,⟨_,e⟩,_⟩:=x;exact Heap.lt_size e
theorem Paired.mapP{α β:Type}{F G:α→β→Prop}:∀{l₁:List α} {l₂:List β},Paired F l₁ l₂→(∀a b,F a b→G a b)→Paired G l₁ l₂
 | _,_,.nil,_=>.nil
 | _,_,.cons r t,f=>.cons (f _ _ r) (Paired.mapP t f)
theorem ObjOk.stay(x:ObjOk P w H h a o)(k:∀b u,(b=a∨H b=some (.own a))→h.get? b=some u→h'.get? b=some u)
  (ho:∀b,H b=some (.own a)→H' b=some (.own a)) (ht:∀b xs,H b=some (.tup xs)→H' b=some (.tup xs)):ObjOk P w H' h' a o:=by
 induction o with
 | lst xs=>obtain⟨z,its,n,r,e⟩:=x;exact⟨z,its,n,r,k _ _ (.inl rfl) e⟩
 | tup xs=>obtain⟨z,its,r,ob,e,c⟩:=x;exact⟨z,its,r,ob,k _ _ (.inl rfl) e,c⟩
 | dK kvs ep=>obtain⟨z,y,vs,r,ob,es,e,c⟩:=x;exact⟨z,y,vs,r,ob,es,k _ _ (.inl rfl) e,c⟩
 | dT kvs bs=>
  obtain⟨z,y,xs,bq,r,ob,es,ep,e,c⟩:=x
  exact⟨z,y,xs,bq,Paired.mapP r fun p q z=>⟨z.1,ht _ _ z.2.1,z.2.2⟩,ob,es,ep,k _ _ (.inl rfl) e,c⟩
 | set S n=>obtain⟨ob,es,ep,t,e,c⟩:=x;exact⟨ob,es,ep,t,k _ _ (.inl rfl) e,c⟩
 | ins C dx fs=>
  obtain⟨d,z,ne,e,mA,⟨od,es,ep,e2,c⟩,r⟩:=x
  exact⟨ho _ d,z,ne,k _ _ (.inl rfl) e,mA,⟨od,es,ep,k _ _ (.inr d) e2,c⟩,r⟩
 | own y=>obtain⟨ob,e⟩:=x;exact⟨ob,k _ _ (.inl rfl) e⟩
 | xd fs=>obtain⟨mA,⟨od,es,ep,e,c⟩,r⟩:=x;exact⟨mA,⟨od,es,ep,k _ _ (.inl rfl) e,c⟩,r⟩
 | rng lo hi=>obtain⟨t,u,v,e⟩:=x;exact⟨t,u,v,k _ _ (.inl rfl) e⟩
 | frz ob u ih=>obtain⟨e,q⟩:=x;exact⟨k _ _ (.inl rfl) e,ih q⟩
 | tbl ps=>
  have e:h.get? a=some { cls:=.none,data:=.fields ps }:=x
  show h'.get? a=some { cls:=.none,data:=.fields ps }
  exact k a _ (.inl rfl) e
 | met f y=>
  have e:h.get? a=some (PySem.W.methodObj (.ref f) (.ref y)):=x
  show h'.get? a=some (PySem.W.methodObj (.ref f) (.ref y))
  exact k a _ (.inl rfl) e
 | ext φ=>obtain⟨p,⟨o,e⟩,st⟩:=x;exact⟨st _ _ p fun o q=>k _ _ (.inl rfl) q,⟨o,k _ _ (.inl rfl) e⟩,st⟩
theorem HOk.lt(x:HOk P w H h)(e:H a=some o):a<h.objs.size:=(x a o e).lt
theorem HOk.fresh(x:HOk P w H h)(e:h.objs.size≤a):H a=none:=by
 cases q:H a with
 | none=>rfl
 | some u=>exact absurd (Nat.lt_of_lt_of_le (x.lt q) e) (Nat.lt_irrefl _)
theorem HOk.kept(x:HOk P w H h)(k:∀b u,h.get? b=some u→h'.get? b=some u):HOk P w H h':=fun a o e=>
 (x a o e).stay (fun b u _ q=>k b u q) (fun _ q=>q) fun _ _ q=>q
theorem HOk.laid(x:HOk P w H h)(k:∀b u,h.get? b=some u→h'.get? b=some u)(hp:h.objs.size≤a)(new:ObjOk P w (upd H a o) h' a o):HOk P w (upd H a o) h':=fun b u e=>by
 have hn:=x.fresh hp
 by_cases hb:b=a
 ·subst hb;rw[zaq] at e;cases e;exact new
 ·rw[zal hb] at e
  exact(x b u e).stay (fun c v _ q=>k c v q) (fun c q=>by rw[zal (zar q hn)];exact q) fun c xs q=>by rw[zal (zar q hn)];exact q
end
noncomputable def Rd(H:Hp)(a:Addr)(u:HO):Prop:=H a=some u∨∃o,H a=some (.frz o u)
theorem Rd.ok{P:Program}{w:World}{H:Hp}{h:Heap}{a:Addr}{u:HO}(r:Rd H a u)(x:HOk P w H h):ObjOk P w H h a u:=by
 rcases r with r | ⟨o,r⟩
 ·exact x a u r
 ·obtain⟨_,q⟩:=x a _ r
  exact q
noncomputable def Mut:Option HO→Prop
 | some (.lst _)=>True
 | some (.dK _ _)=>True
 | some (.dT _ _)=>True
 | some (.set _ _)=>True
 | some (.ins _ _ _)=>True
 | some (.ext _)=>True
 | _=>False
section
variable {P:Program} {w:World} {H:Hp} {h h':Heap} {x e:Addr} {o':HO}
theorem HOk.write(ok:HOk P w H h)(mu:Mut (H x))(he:e=x∨H e=some (.own x))(k:∀b u,b≠e→h.get? b=some u→h'.get? b=some u)(heo:∃u,h'.get? e=some u)
  (new:ObjOk P w (upd H x o') h' x o'):HOk P w (upd H x o') h':=fun b u q=>by
 have nown:∀c y,H c=some (.own y)→c≠x:=fun c y r z=>by subst z;rw[r] at mu;exact mu
 have ntup:∀c xs,H c=some (.tup xs)→c≠x:=fun c xs r z=>by subst z;rw[r] at mu;exact mu
 by_cases hb:b=x
 ·subst hb;rw[zaq] at q;cases q;exact new
 ·rw[zal hb] at q
  by_cases hbe:b=e
  ·have q':H b=some (.own x):=by
    rcases he with z | z
    ·exact absurd (hbe.trans z) hb
    ·rw[hbe];exact z
   rw[q] at q';cases q'
   obtain⟨v,hv⟩:=heo
   exact⟨v,by rw[hbe];exact hv⟩
  ·refine(ok b u q).stay (fun c v hc r=>k c v ?_ r) (fun c r=>by rw[zal (nown c b r)];exact r) fun c xs r=>by rw[zal (ntup c xs r)];exact r
   rcases hc with rfl | hc
   ·exact hbe
   ·rintro rfl
    rcases he with z | z
    ·exact nown c b hc z
    ·rw[hc] at z;cases z;exact hb rfl
end
structure Un (fs ex:List Addr) (H H':Hp) (h h':Heap):Prop where
 keep:∀b o,h.get? b=some o→H b=none→b∉fs→b∉ex→h'.get? b=some o
 slot:∀b o,h.get? b=some o→H b=none→b∈fs→b∉ex→∃sl,h'.get? b=some { o with slots:=sl }
 free:∀b o,h.get? b=some o→H b=none→b∉ex→H' b=none
 there:∀b o,h.get? b=some o→b∉ex→∃o',h'.get? b=some o'
 tups:∀b xs,H b=some (.tup xs)→H' b=some (.tup xs)
 frzs:∀b o u,H b=some (.frz o u)→H' b=some (.frz o u)
 tbls:∀b ps,H b=some (.tbl ps)→∃more,H' b=some (.tbl (ps++more))
section
variable {fs fs' ex ex':List Addr} {H H1 H2:Hp} {h h1 h2 h':Heap} {a x e:Addr} {o:HO}
theorem Un.any(u:Un fs ex H H1 h h1){b:Addr}{ob:Obj}(q:h.get? b=some ob)(n:H b=none)(hx:b∉ex):∃sl,h1.get? b=some { ob with slots:=sl }:=by
 by_cases hb:b∈fs
 ·exact u.slot b ob q n hb hx
 ·exact⟨ob.slots,u.keep b ob q n hb hx⟩
theorem Un.kept(k:∀b u,h.get? b=some u→h'.get? b=some u):Un fs ex H H h h':=
 ⟨fun b ob q _ _ _=>k b ob q,fun b ob q _ _ _=>⟨ob.slots,k b ob q⟩,fun _ _ _ n _=>n,fun b ob q _=>⟨ob,k b ob q⟩,fun _ _ q=>q,fun _ _ _ q=>q,fun _ ps q=>⟨#[],by rw[q];simp⟩⟩
theorem Un.refl:Un fs ex H H h h:=Un.kept fun _ _ q=>q
theorem Un.laid(k:∀b u,h.get? b=some u→h'.get? b=some u)(hp:h.objs.size≤a)(hn:H a=none):Un fs ex H (upd H a o) h h' where
 keep:=fun b u q _ _ _=>k b u q
 slot:=fun b u q _ _ _=>⟨u.slots,k b u q⟩
 free:=fun b u q n _=>by rw[zal (Nat.ne_of_lt (Nat.lt_of_lt_of_le (Heap.lt_size q) hp))];exact n
 there:=fun b u q _=>⟨u,k b u q⟩
 tups:=fun b xs q=>by rw[zal (zar q hn)];exact q
 frzs:=fun b u xs q=>by rw[zal (zar q hn)];exact q
 tbls:=fun b ps q=>⟨#[],by rw[zal (zar q hn),q];simp⟩
theorem Un.write(mu:Mut (H x))(he:e=x∨H e=some (.own x))(k:∀b u,b≠e→h.get? b=some u→h'.get? b=some u)(heo:∃u,h'.get? e=some u):Un fs ex H (upd H x o) h h':=by
 have hx:∀b,H b=none→b≠x:=fun b n z=>by subst z;rw[n] at mu;exact mu
 have hb:∀b,H b=none→b≠e:=fun b n z=>by
  subst z
  rcases he with r | r
  ·exact hx b n r
  ·rw[n] at r;cases r
 have hm:∀b u,H b=some u→¬Mut (some u)→b≠x:=fun b u q nm z=>by subst z;rw[q] at mu;exact nm mu
 refine⟨fun b u q n _ _=>k b u (hb b n) q,fun b u q n _ _=>⟨u.slots,k b u (hb b n) q⟩,fun b u q n _=>by rw[zal (hx b n)];exact n,fun b u q _=>?_,
  fun b xs q=>by rw[zal (hm b _ q fun z=>z)];exact q,fun b u xs q=>by rw[zal (hm b _ q fun z=>z)];exact q,fun b ps q=>⟨#[],by rw[zal (hm b _ q fun z=>z),q];simp⟩⟩
 by_cases hbe:b=e
 ·subst hbe;exact heo
 ·exact⟨u,k b u hbe q⟩
end
noncomputable def trk(h:Heap)(H:Hp):List Addr:=(List.range h.objs.size).filter fun a=>(H a).isSome
noncomputable def zmo(h:Heap)(H:Hp):Heap:=PySem.W.hideAll h (trk h H)
theorem zkz(h:Heap)(H:Hp):(zmo h H).objs.size=h.objs.size:=PySem.W.hideAll_size _ _
theorem zmp{h:Heap}{H:Hp}{b:Addr}{o:Obj}(e:h.get? b=some o)(n:H b=none):(zmo h H).get? b=some o:=
 PySem.W.hideAll_get _ e fun hm=>by
  have q:(H b).isSome=true:=(List.mem_filter.mp hm).2
  rw[n] at q;simp at q
theorem znY{h:Heap}{H:Hp}{b:Addr}{o:Obj}(e:(zmo h H).get? b=some o):h.get? b=some o∧H b=none:=by
 have e':h.get? b=some o:=PySem.W.of_hideAll (trk h H) e
 refine⟨e',?_⟩
 cases q:H b with
 | none=>rfl
 | some x=>
  have hm:b∈trk h H:=List.mem_filter.mpr ⟨List.mem_range.mpr (Heap.lt_size e'),by simp[q]⟩
  have z:(zmo h H).get? b=none:=PySem.W.hideAll_none (trk h H) hm
  rw[z] at e;cases e
noncomputable def znZ(g h:Heap)(L:Addr):List (Addr×Obj):=(List.range h.objs.size).filterMap fun a=>if a=L∨(g.get? a).isSome=true then none else(h.get? a).map fun o=>(a,o)
noncomputable def zcD(g h:Heap)(L d:Addr):List (Addr×Obj):=(znZ g h L).filter fun p=>decide (p.1≠d)
end L2
namespace L2
open PySem PySem.Spec PyProof.Rows
structure Mod (K:PySem.W.Frag) (mg:Str→Option Value) (base:Heap):Prop where
 kin:K.In base
 glob:base.Ns mainGlobals mg
 blt:∃mb,base.Ns builtinsNs mb∧∀x:Str,x≠"__name__"→mb x=bootBuiltins x
 nolimit:base.NoLimit
structure Cx where
 prog:Program
 w:World
 K:PySem.W.Frag
 mg:Str→Option Value
 base:Heap
 A:Around
 N:List Str
 s₀:Shared
 H₀:Hp
 env:Env
 outer:List Env
 stack:List Env
 ex:List Addr
 fn:Str→Bool
 calm:Bool
 pn:List (Addr×Obj)
 xe:Value→Shared→Prop
noncomputable def frs(l:List Env):List Addr:=l.filterMap (·.frame)
noncomputable abbrev Cx.fs(X:Cx):List Addr:=frs X.outer
noncomputable def Vis(sc:Scope)(x:Str):Prop:=sc.names.lookup x=some .local∨sc.names.lookup x=some .cell∨sc.names.lookup x=some .free
noncomputable def Loc(sc:Scope)(x:Str):Prop:=sc.names.lookup x=some .local∨sc.names.lookup x=some .cell
noncomputable def Look(env:Env)(h:Heap)(m:Str→Option Value)(x:Str)(u:Value):Prop:=
 (env.kindOf x=some .local∧m x=some u)∨((env.kindOf x=some .cell∨env.kindOf x=some .free)∧∃c,env.cells.lookup x=some c∧h.IsCell c (some u))
structure Cx.Ok (X:Cx):Prop where
 mod:Mod X.K X.mg X.base
 kind:X.env.scope.kind=.function
 glob:X.env.globals=mainGlobals
 blt:X.env.builtins=builtinsNs
 above:X.s₀.heap.objs.size≤X.env.locals
 inj:∀x y c,X.env.cells.lookup x=some c→X.env.cells.lookup y=some c→x=y
 has:∀x,(X.env.kindOf x=some .cell∨X.env.kindOf x=some .free)→∃c,X.env.cells.lookup x=some c
 cab:∀x c,X.fn x=true→X.env.cells.lookup x=some c→X.s₀.heap.objs.size≤c
 hd:X.calm=true→X.A.handled=none
 frames:X.A.frames=some X.stack
 stk:X.stack=X.outer∨(X.stack=X.env::X.outer∧X.env.frame=some X.env.locals)
 exf:∀b∈X.ex,b≠X.env.locals∧∀x c,X.env.cells.lookup x=some c→c≠b
 bs:∀b o,X.base.get? b=some o→X.s₀.heap.get? b=some o∧X.H₀ b=none
 bsz:X.base.objs.size≤X.s₀.heap.objs.size
 noex:∀b o,X.base.get? b=some o→b∉X.ex
 exfs:∀b∈X.ex,b∉X.fs
 funs:X.s₀.heap.FunFrames X.base X.outer
 frf:∀b∈X.fs,X.H₀ b=none
structure Inv (X:Cx) (pins:List (Addr×Obj)) (σ:List (Option V)) (H:Hp) (s:Shared):Prop where
 ok:X.Ok
 os:s.os=X.s₀.os
 bare:AllBare s.gens
 base:Un X.fs X.ex X.H₀ H X.s₀.heap s.heap
 loc:∃m,s.heap.Ns X.env.locals m∧∀(i:Nat) (x:Str) (v:V),X.N[i]?=some x→σ[i]?=some (some v)→Vis X.env.scope x→∃u,RelV v u∧Look X.env s.heap m x u
 cell:∀x c,X.env.cells.lookup x=some c→∃v,s.heap.IsCell c v
 free:H X.env.locals=none
 freeC:∀x c,X.env.cells.lookup x=some c→H c=none
 pin:∀p∈X.pn++pins,s.heap.get? p.1=some p.2∧H p.1=none∧p.1≠X.env.locals∧p.1∉X.fs∧∀v,p.2.data≠.cell v
 hok:HOk X.prog X.w H s.heap
 len:σ.length=X.N.length
section
variable {X:Cx} {pins:List (Addr×Obj)} {σ:List (Option V)} {H H':Hp} {s:Shared} {h':Heap}
theorem Cx.Ok.nofr(ok:X.Ok){b:Addr}{o:Obj}(e:X.base.get? b=some o):b∉X.fs:=fun hb=>by
 have:=(ok.funs.mem hb).1
 rw[e] at this;cases this
theorem Inv.bs(I:Inv X pins σ H s):∀b o,X.base.get? b=some o→s.heap.get? b=some o∧H b=none:=fun b o e=>
 ⟨I.base.keep b o (I.ok.bs b o e).1 (I.ok.bs b o e).2 (I.ok.nofr e) (I.ok.noex b o e),I.base.free b o (I.ok.bs b o e).1 (I.ok.bs b o e).2 (I.ok.noex b o e)⟩
theorem Inv.bk(I:Inv X pins σ H s):∀b o,X.base.get? b=some o→s.heap.get? b=some o:=fun b o e=>(I.bs b o e).1
theorem Inv.mod(I:Inv X pins σ H s):Mod X.K X.mg X.base:=I.ok.mod
theorem Inv.kIn(I:Inv X pins σ H s):X.K.In s.heap:=I.ok.mod.kin.keeps I.bk
theorem Inv.lt(I:Inv X pins σ H s):X.env.locals<s.heap.objs.size:=let⟨_,hn,_⟩:=I.loc;hn.lt
theorem Inv.sz(I:Inv X pins σ H s):X.s₀.heap.objs.size≤s.heap.objs.size:=Nat.le_trans I.ok.above (Nat.le_of_lt I.lt)
theorem Inv.nofs(I:Inv X pins σ H s){a:Addr}(h:s.heap.objs.size≤a):a∉X.fs:=fun hb=>by
 obtain⟨_,o,ho,_⟩:=I.ok.funs.mem hb
 exact absurd (Nat.lt_of_lt_of_le (Heap.lt_size ho) (Nat.le_trans I.sz h)) (Nat.lt_irrefl _)
theorem Inv.cne(I:Inv X pins σ H s):∀x c,X.env.cells.lookup x=some c→c≠X.env.locals:=fun x c e z=>by
 obtain⟨v,o,ho,hd⟩:=I.cell x c e
 obtain⟨m,⟨o',es,ep,ho',hd',_⟩,_⟩:=I.loc
 rw[z,ho'] at ho;cases ho;rw[hd'] at hd;cases hd
theorem Inv.funs(I:Inv X pins σ H s):s.heap.FunFrames X.base X.outer:=by
 have all:∀(l:List Env),(∀b∈frs l,b∈X.fs)→X.s₀.heap.FunFrames X.base l→s.heap.FunFrames X.base l:=by
  intro l
  induction l with
  | nil=>intro _ _;trivial
  | cons env r ih=>
   intro hs hl
   obtain⟨hk,⟨L,o,hf,hn,ho,hd⟩,hr⟩:=hl
   have hL:L∈X.fs:=hs L (by unfold frs;rw[List.filterMap_cons,hf];exact List.mem_cons_self)
   obtain⟨sl,e⟩:=I.base.slot L o ho (I.ok.frf L hL) hL fun z=>I.ok.exfs L z hL
   exact⟨hk,⟨L,_,hf,hn,e,hd⟩,ih (fun b hb=>hs b (by unfold frs;rw[List.filterMap_cons,hf];exact List.mem_cons_of_mem _ hb)) hr⟩
 exact all X.outer (fun _ hb=>hb) I.ok.funs
theorem Inv.stack(I:Inv X pins σ H s):s.heap.FunFrames X.base X.stack:=by
 rcases I.ok.stk with e | ⟨e,hf⟩
 ·rw[e];exact I.funs
 ·rw[e]
  obtain⟨m,hn,_⟩:=I.loc
  refine .cons (by rw[I.ok.kind];decide) hf hn ?_ I.funs
  exact Heap.get?_none_of_le (Nat.le_trans I.ok.bsz I.ok.above)
theorem Inv.stkSub(I:Inv X pins σ H s):∀b∈frs X.stack,b∈X.env.locals::X.fs:=fun b hb=>by
 rcases I.ok.stk with e | ⟨e,hf⟩
 ·rw[e] at hb;exact List.mem_cons_of_mem _ hb
 ·rw[e] at hb
  unfold frs at hb
  rw[List.filterMap_cons,hf] at hb
  exact hb
theorem Inv.stkFree(I:Inv X pins σ H s):∀b∈frs X.stack,H b=none:=fun b hb=>by
 rcases List.mem_cons.mp (I.stkSub b hb) with e | hb
 ·rw[e];exact I.free
 ·obtain⟨_,o,ho,_⟩:=I.ok.funs.mem hb
  exact I.base.free b o ho (I.ok.frf b hb) fun z=>I.ok.exfs b z hb
theorem Inv.step{g':Array GenState}{t':Nat}{d':Drawn}{ch:List Addr}(I:Inv X pins σ H s)
  (hch:∀b∈ch,(b∈X.ex∨X.s₀.heap.objs.size≤b)∧b≠X.env.locals∧(∀x c,X.env.cells.lookup x=some c→c≠b)∧∀p∈X.pn++pins,p.1≠b)
  (keep:∀b o,b≠X.env.locals→b∉X.fs→b∉ch→s.heap.get? b=some o→H b=none→h'.get? b=some o)
  (slot:∀b o,b≠X.env.locals→b∈X.fs→b∉ch→s.heap.get? b=some o→H b=none→∃sl,h'.get? b=some { o with slots:=sl }) (free:∀b o,b∉ch→s.heap.get? b=some o→H b=none→H' b=none)
  (there:∀b o,b∉ch→s.heap.get? b=some o→∃o',h'.get? b=some o')
  (tups:∀b xs,H b=some (.tup xs)→H' b=some (.tup xs)) (frzs:∀b o u,H b=some (.frz o u)→H' b=some (.frz o u)) (tbls:∀b ps,H b=some (.tbl ps)→∃more,H' b=some (.tbl (ps++more)))
  (ns:∀m,s.heap.Ns X.env.locals m→h'.Ns X.env.locals m) (hok:HOk X.prog X.w H' h') (hg:AllBare g') :
  Inv X pins σ H' { s with heap:=h',gens:=g',drawn:=d',toks:=t' }:=by
 have neL:∀b o,X.s₀.heap.get? b=some o→b≠X.env.locals:=fun b o e=>Nat.ne_of_lt (Nat.lt_of_lt_of_le (Heap.lt_size e) I.ok.above)
 have neC:∀b o,X.s₀.heap.get? b=some o→b∉X.ex→b∉ch:=fun b o e hx hb=>by
  rcases(hch b hb).1 with z | z
  ·exact hx z
  ·exact absurd (Nat.lt_of_lt_of_le (Heap.lt_size e) z) (Nat.lt_irrefl _)
 have cellK:∀x c,X.env.cells.lookup x=some c→∀v,s.heap.IsCell c v→h'.IsCell c v:=fun x c e v ⟨o,ho,hd⟩=>by
  have nch:c∉ch:=fun z=>(hch c z).2.2.1 x c e rfl
  by_cases hc:c∈X.fs
  ·obtain⟨sl,q⟩:=slot c o (I.cne x c e) hc nch ho (I.freeC x c e)
   exact⟨_,q,hd⟩
  ·exact⟨o,keep c o (I.cne x c e) hc nch ho (I.freeC x c e),hd⟩
 refine⟨I.ok,I.os,hg,⟨fun b o e n hb hx=>?_,fun b o e n hb hx=>?_,fun b o e n hx=>?_,fun b o e hx=>?_,fun b xs e=>tups b xs (I.base.tups b xs e),fun b o xs e=>frzs b o xs (I.base.frzs b o xs e),fun b ps e=>?_⟩,?_,fun x c e=>?_,?_,fun x c e=>?_,fun p hp=>?_,hok,I.len⟩
 ·exact keep b o (neL b o e) hb (neC b o e hx) (I.base.keep b o e n hb hx) (I.base.free b o e n hx)
 ·obtain⟨sl,e1⟩:=I.base.slot b o e n hb hx
  obtain⟨sl',e2⟩:=slot b _ (neL b o e) hb (neC b o e hx) e1 (I.base.free b o e n hx)
  exact⟨sl',e2⟩
 ·obtain⟨o',e1⟩:=I.base.there b o e hx
  exact free b o' (neC b o e hx) e1 (I.base.free b o e n hx)
 ·obtain⟨o',e1⟩:=I.base.there b o e hx
  exact there b o' (neC b o e hx) e1
 ·obtain⟨m1,e1⟩:=I.base.tbls b ps e
  obtain⟨m2,e2⟩:=tbls b _ e1
  exact⟨m1++m2,by rw[e2,Array.append_assoc]⟩
 ·obtain⟨m,hn,hl⟩:=I.loc
  refine⟨m,ns m hn,fun i x v e1 e2 e3=>?_⟩
  obtain⟨u,r,l⟩:=hl i x v e1 e2 e3
  refine⟨u,r,?_⟩
  rcases l with l | ⟨k,c,e,z⟩
  ·exact .inl l
  ·exact .inr ⟨k,c,e,cellK x c e _ z⟩
 ·obtain⟨v,z⟩:=I.cell x c e
  exact⟨v,cellK x c e v z⟩
 ·obtain⟨m,⟨o,_,_,ho,_⟩,_⟩:=I.loc
  exact free _ o (fun z=>(hch _ z).2.1 rfl) ho I.free
 ·obtain⟨v,o,ho,hd⟩:=I.cell x c e
  exact free c o (fun z=>(hch c z).2.2.1 x c e rfl) ho (I.freeC x c e)
 ·obtain⟨e,n,ne,nf,d⟩:=I.pin p hp
  have nch:p.1∉ch:=fun z=>(hch p.1 z).2.2.2 p hp rfl
  exact⟨keep p.1 p.2 ne nf nch e n,free p.1 p.2 nch e n,ne,nf,d⟩
theorem Inv.un{t':Nat}(I:Inv X pins σ H s)(u:Un X.fs [] H H' s.heap h')(hok:HOk X.prog X.w H' h'):Inv X pins σ H' { s with heap:=h',toks:=t' }:=by
 obtain⟨m,⟨o,es,ep,ho,r⟩,_⟩:=id I.loc
 obtain⟨sl,hL⟩:=u.any ho I.free (by simp)
 exact I.step (g':=s.gens) (d':=s.drawn) (ch:=[]) (fun _ z=>nomatch z) (fun b o _ hb _ e n=>u.keep b o e n hb (by simp)) (fun b o _ hb _ e n=>u.slot b o e n hb (by simp)) (fun b o _ e n=>u.free b o e n (by simp)) (fun b o _ e=>u.there b o e (by simp)) u.tups u.frzs u.tbls (fun m' hm=>by
  obtain⟨o',es',ep',ho',r'⟩:=hm
  rw[ho] at ho';cases ho'
  exact⟨_,es',ep',hL,r'⟩) hok I.bare
theorem Inv.call{g':Array GenState}{t':Nat}{d':Drawn}{ch:List Addr}(I:Inv X pins σ H s)(u:Un (frs X.stack) ch H H' s.heap h')(hok:HOk X.prog X.w H' h')(hg:AllBare g')
  (hch:∀b∈ch,(b∈X.ex∨X.s₀.heap.objs.size≤b)∧b≠X.env.locals∧(∀x c,X.env.cells.lookup x=some c→c≠b)∧∀p∈X.pn++pins,p.1≠b) :
  Inv X pins σ H' { s with heap:=h',gens:=g',drawn:=d',toks:=t' }:=by
 obtain⟨m,⟨o,es,ep,ho,r⟩,_⟩:=id I.loc
 obtain⟨sl,hL⟩:=u.any ho I.free fun z=>(hch _ z).2.1 rfl
 exact I.step (ch:=ch) hch (fun b o hL hb hc e n=>u.keep b o e n (fun z=>(List.mem_cons.mp (I.stkSub b z)).elim hL hb) hc) (fun b o _ _ hc e n=>u.any e n hc) (fun b o hc e n=>u.free b o e n hc) (fun b o hc e=>u.there b o e hc) u.tups u.frzs u.tbls (fun m' hm=>by
  obtain⟨o',es',ep',ho',r'⟩:=hm
  rw[ho] at ho';cases ho'
  exact⟨_,es',ep',hL,r'⟩) hok hg
theorem Inv.turned{t':Nat}{it:Addr}(I:Inv X pins σ H s)(k:∀b o,b≠it→s.heap.get? b=some o→h'.get? b=some o)(hn:H it=none)(hL:it≠X.env.locals)
  (h1:it∈X.ex∨X.s₀.heap.objs.size≤it) (h2:∀x c,X.env.cells.lookup x=some c→c≠it) (h3:∀p∈X.pn++pins,p.1≠it):Inv X pins σ H { s with heap:=h',toks:=t' }:=by
 have nit:∀b u,H b=some u→b≠it:=fun b u e z=>by rw[z,hn] at e;cases e
 refine I.step (g':=s.gens) (d':=s.drawn) (ch:=[it]) (fun b hb=>?_) (fun b o _ _ hc e _=>k b o (fun z=>hc (by simp[z])) e) (fun b o _ _ hc e _=>⟨o.slots,k b o (fun z=>hc (by simp[z])) e⟩) (fun _ _ _ _ n=>n)
  (fun b o hc e=>⟨o,k b o (fun z=>hc (by simp[z])) e⟩) (fun _ _ e=>e) (fun _ _ _ e=>e) (fun b ps e=>⟨#[],by rw[e];simp⟩) (fun m hm=>?_) (fun b u e=>?_) I.bare
 ·have e:b=it:=by simpa using hb
  subst e
  exact⟨h1,hL,h2,h3⟩
 ·obtain⟨o,es,ep,ho,r⟩:=hm
  exact⟨o,es,ep,k _ o (Ne.symm hL) ho,r⟩
 ·refine(I.hok b u e).stay (fun c v hc q=>k c v ?_ q) (fun _ q=>q) fun _ _ q=>q
  rcases hc with z | z
  ·rw[z];exact nit b u e
  ·exact nit c _ z
theorem Inv.tok(I:Inv X pins σ H s)(t:Nat):Inv X pins σ H { s with toks:=t }:=I.un (h':=s.heap) (t':=t) Un.refl I.hok
theorem Inv.kept{t':Nat}(I:Inv X pins σ H s)(k:∀b u,s.heap.get? b=some u→h'.get? b=some u):Inv X pins σ H { s with heap:=h',toks:=t' }:=I.un (Un.kept k) (I.hok.kept k)
theorem Inv.laid{a:Addr}{o:HO}{t':Nat}(I:Inv X pins σ H s)(k:∀b u,s.heap.get? b=some u→h'.get? b=some u)(hp:s.heap.objs.size≤a)(new:ObjOk X.prog X.w (upd H a o) h' a o) :
  Inv X pins σ (upd H a o) { s with heap:=h',toks:=t' }:=I.un (Un.laid k hp (I.hok.fresh hp)) (I.hok.laid k hp new)
theorem Inv.write{x e:Addr}{o:HO}{t':Nat}(I:Inv X pins σ H s)(mu:Mut (H x))(he:e=x∨H e=some (.own x))(k:∀b u,b≠e→s.heap.get? b=some u→h'.get? b=some u)(heo:∃u,h'.get? e=some u)
  (new:ObjOk X.prog X.w (upd H x o) h' x o):Inv X pins σ (upd H x o) { s with heap:=h',toks:=t' }:=I.un (Un.write mu he k heo) (I.hok.write mu he k heo new)
theorem Inv.pins_of{pins':List (Addr×Obj)}(I:Inv X pins σ H s)(h:∀p∈pins',s.heap.get? p.1=some p.2∧H p.1=none∧p.1≠X.env.locals∧p.1∉X.fs∧∀v,p.2.data≠.cell v):Inv X pins' σ H s:=
 ⟨I.ok,I.os,I.bare,I.base,I.loc,I.cell,I.free,I.freeC,fun p hp=>(List.mem_append.mp hp).elim (fun z=>I.pin p (List.mem_append_left _ z)) (h p),I.hok,I.len⟩
theorem zi9{N:List Str}(hN:N.Nodup){i j:Nat}{x:Str}(a:N[i]?=some x)(b:N[j]?=some x):i=j:=by
 obtain⟨h1,e1⟩:=List.getElem?_eq_some_iff.mp a
 obtain⟨h2,e2⟩:=List.getElem?_eq_some_iff.mp b
 exact(List.getElem_inj hN).mp (e1.trans e2.symm)
theorem zhz{M:Model}{A:Around}{E:Value→Shared→Prop}{i:Nat}{x:Str}{v:V}{u:Value}{Q:Unit→Shared→Prop}(I:Inv X pins σ H s)(hN:X.N.Nodup)(hi:X.N[i]?=some x)(hx:Loc X.env.scope x)(r:RelV v u)
  (h:∀s',Inv X pins (σ.set i (some v)) H s'→(∃a,Heap.SameBut a s.heap s'.heap∧(a=X.env.locals∨X.env.cells.lookup x=some a))→Q () s') (hf:X.fn x=true∨X.env.scope.names.lookup x=some .local:=by first | exact .inl rfl | exact .inr rfl | assumption):wpAny M A (storeName X.env x u) Q E s:=by
 obtain⟨m,hn,hl⟩:=id I.loc
 have hcls:(X.env.scope.kind==.class||(X.env.scope.kind==.module&&X.env.locals != X.env.globals))=false:=by rw[I.ok.kind];rfl
 have hiσ:i<σ.length:=by rw[I.len];exact(List.getElem?_eq_some_iff.mp hi).1
 have cne:=I.cne
 have tracked:∀{a:Addr} {h':Heap},(∃o,s.heap.get? a=some o∧H a=none)→Heap.SameBut a s.heap h'→HOk X.prog X.w H h':=fun{a h'} ha hs b ob e=>by
  obtain⟨_,_,hfree⟩:=ha
  refine(I.hok b ob e).stay (fun c w' hc q=>(hs.2 c ?_).trans q) (fun _ q=>q) fun _ _ q=>q
  rintro rfl
  rcases hc with rfl | hc
  ·rw[hfree] at e;cases e
  ·rw[hfree] at hc;cases hc
 rcases hx with hk | hk
 ·refine wpAny_storeName_local hk hn (fun h' hn' hs=>?_) hcls
  obtain⟨oL,_,_,hoL,_⟩:=id hn
  refine h _ ⟨I.ok,I.os,I.bare,⟨fun b o e n hb hx=>?_,fun b o e n hb hx=>?_,I.base.free,fun b o e hx=>?_,I.base.tups,I.base.frzs,I.base.tbls⟩,⟨_,hn',fun j y v' e1 e2 e3=>?_⟩,fun y c e=>?_,I.free,I.freeC,fun p hp=>?_,tracked ⟨oL,hoL,I.free⟩ hs,by simpa using I.len⟩ ⟨_,hs,.inl rfl⟩
  ·exact(hs.2 b (Nat.ne_of_lt (Nat.lt_of_lt_of_le (Heap.lt_size e) I.ok.above))).trans (I.base.keep b o e n hb hx)
  ·obtain⟨sl,e1⟩:=I.base.slot b o e n hb hx
   exact⟨sl,(hs.2 b (Nat.ne_of_lt (Nat.lt_of_lt_of_le (Heap.lt_size e) I.ok.above))).trans e1⟩
  ·obtain⟨o',e1⟩:=I.base.there b o e hx
   exact⟨o',(hs.2 b (Nat.ne_of_lt (Nat.lt_of_lt_of_le (Heap.lt_size e) I.ok.above))).trans e1⟩
  ·by_cases hj:j=i
   ·subst hj
    rw[hi] at e1;cases e1
    rw[List.getElem?_set_self hiσ] at e2
    cases e2
    exact⟨u,r,.inl ⟨hk,by simp⟩⟩
   ·rw[List.getElem?_set_ne (Ne.symm hj)] at e2
    obtain⟨u',r',q⟩:=hl j y v' e1 e2 e3
    refine⟨u',r',?_⟩
    rcases q with⟨k,e⟩ | ⟨k,c,e,z⟩
    ·refine .inl ⟨k,?_⟩
     have:y≠x:=fun e=>hj (zi9 hN e1 (e▸hi))
     simp[this,e]
    ·exact .inr ⟨k,c,e,z.sameBut hs (cne y c e)⟩
  ·obtain⟨w',z⟩:=I.cell y c e
   exact⟨w',z.sameBut hs (cne y c e)⟩
  ·obtain⟨e,n,ne,nf,d⟩:=I.pin p hp
   exact⟨(hs.2 p.1 ne).trans e,n,ne,nf,d⟩
 ·have hfn:X.fn x=true:=by
   rcases hf with z | z
   ·exact z
   ·rw[z] at hk;cases hk
  obtain⟨c,hc⟩:=I.ok.has x (.inl hk)
  obtain⟨w',z⟩:=I.cell x c hc
  refine wpAny_storeName_cell I.ok.kind hk hc z (fun h' hc' hs=>?_)
  obtain⟨oc,hoc,hocd⟩:=id z
  refine h { s with heap:=h' } ⟨I.ok,I.os,I.bare,⟨fun b o e n hb hx=>?_,fun b o e n hb hx=>?_,I.base.free,fun b o e hx=>?_,I.base.tups,I.base.frzs,I.base.tbls⟩,⟨m,hn.sameBut hs (Ne.symm (cne x c hc)),fun j y v' e1 e2 e3=>?_⟩,fun y c' e=>?_,I.free,I.freeC,fun p hp=>?_,tracked ⟨oc,hoc,I.freeC x c hc⟩ hs,by simpa using I.len⟩ ⟨c,hs,.inr hc⟩
  ·exact(hs.2 b (Nat.ne_of_lt (Nat.lt_of_lt_of_le (Heap.lt_size e) (I.ok.cab x c hfn hc)))).trans (I.base.keep b o e n hb hx)
  ·obtain⟨sl,e1⟩:=I.base.slot b o e n hb hx
   exact⟨sl,(hs.2 b (Nat.ne_of_lt (Nat.lt_of_lt_of_le (Heap.lt_size e) (I.ok.cab x c hfn hc)))).trans e1⟩
  ·obtain⟨o',e1⟩:=I.base.there b o e hx
   exact⟨o',(hs.2 b (Nat.ne_of_lt (Nat.lt_of_lt_of_le (Heap.lt_size e) (I.ok.cab x c hfn hc)))).trans e1⟩
  ·by_cases hj:j=i
   ·subst hj
    rw[hi] at e1;cases e1
    rw[List.getElem?_set_self hiσ] at e2
    cases e2
    exact⟨u,r,.inr ⟨.inl hk,c,hc,hc'⟩⟩
   ·rw[List.getElem?_set_ne (Ne.symm hj)] at e2
    obtain⟨u',r',q⟩:=hl j y v' e1 e2 e3
    refine⟨u',r',?_⟩
    rcases q with q | ⟨k,c',e,z'⟩
    ·exact .inl q
    ·refine .inr ⟨k,c',e,z'.sameBut hs ?_⟩
     rintro rfl
     exact hj (zi9 hN e1 (I.ok.inj _ _ _ e hc▸hi))
  ·by_cases hcc:c'=c
   ·subst hcc;exact⟨_,hc'⟩
   ·obtain⟨w2,z2⟩:=I.cell y c' e
    exact⟨w2,z2.sameBut hs hcc⟩
  ·obtain⟨e,n,ne,nf,d⟩:=I.pin p hp
   refine⟨(hs.2 p.1 ?_).trans e,n,ne,nf,d⟩
   intro q
   rw[q,hoc] at e
   have q':oc=p.2:=Option.some.inj e
   exact d w' (by rw[←q'];exact hocd)
theorem zja{M:Model}{A:Around}{E:Value→Shared→Prop}{i:Nat}{x:Str}{v:V}{u:Value}{Q:Unit→Shared→Prop}(I:Inv X pins σ H s)(hN:X.N.Nodup)(hi:X.N[i]?=some x)(hx:Loc X.env.scope x)(r:RelV v u)
  (h:∀s',Inv X pins (σ.set i (some v)) H s'→Q () s') (hf:X.fn x=true∨X.env.scope.names.lookup x=some .local:=by first | exact .inl rfl | exact .inr rfl | assumption):wpAny M A (storeName X.env x u) Q E s:=
 zhz I hN hi hx r (fun s' I' _=>h s' I') hf
theorem Inv.call'{s':Shared}{ch:List Addr}(I:Inv X pins σ H s)(ho:s'.os=s.os)(u:Un (frs X.stack) ch H H' s.heap s'.heap)(hok:HOk X.prog X.w H' s'.heap)(hg:AllBare s'.gens)
  (hch:∀b∈ch,(b∈X.ex∨X.s₀.heap.objs.size≤b)∧b≠X.env.locals∧(∀x c,X.env.cells.lookup x=some c→c≠b)∧∀p∈X.pn++pins,p.1≠b):Inv X pins σ H' s':=by
 obtain⟨h',g',d',t',o'⟩:=s'
 have e:o'=s.os:=ho
 subst e
 exact I.call (g':=g') (t':=t') (d':=d') u hok hg hch
end
noncomputable abbrev XK:=Value→Option Addr→Hp→Prop
noncomputable abbrev St:=List (Option V)
noncomputable abbrev VK:=V→Hp→Prop
noncomputable abbrev TE:=St→Hp→VK→Prop
noncomputable abbrev TT:=St→Hp→(Bool→Hp→Prop)→Prop
noncomputable abbrev TA:=St→Hp→(List V→Hp→Prop)→Prop
structure Ends where
 nx:St→Hp→Prop
 rt:VK
 bk:St→Hp→Prop:=fun _ _=>False
 ct:St→Hp→Prop:=fun _ _=>False
noncomputable abbrev TS:=Ends→St→Hp→Prop
noncomputable def EP(X:Cx)(pins:List (Addr×Obj))(σ:St)(Q:VK)(u:Value)(s':Shared):Prop:=∃v H',Inv X pins σ H' s'∧RelV v u∧Q v H'
noncomputable def TP(X:Cx)(pins:List (Addr×Obj))(σ:St)(Q:Bool→Hp→Prop)(b:Bool)(s':Shared):Prop:=∃H',Inv X pins σ H' s'∧Q b H'
noncomputable def AP(X:Cx)(pins:List (Addr×Obj))(σ:St)(Q:List V→Hp→Prop)(us:List Value)(s':Shared):Prop:=∃vs H',Inv X pins σ H' s'∧Vals vs us∧Q vs H'
noncomputable def SP(X:Cx)(pins:List (Addr×Obj))(D:Ends)(f:Flow)(s':Shared):Prop:=
 match f with
 | .next=>∃σ' H',Inv X pins σ' H' s'∧D.nx σ' H'
 | .brk=>∃σ' H',Inv X pins σ' H' s'∧D.bk σ' H'
 | .cont=>∃σ' H',Inv X pins σ' H' s'∧D.ct σ' H'
 | .ret u=>∃v σ' H',Inv X pins σ' H' s'∧RelV v u∧D.rt v H'
noncomputable def PE(X:Cx)(e:Expr)(t:TE):Prop:=
 ∀(pins:List (Addr×Obj)) (s:Shared) (σ:St) (H:Hp) (Q:VK),Inv X pins σ H s→t σ H Q→wpAny (model X.prog X.w) X.A (eval e X.env) (EP X pins σ Q) X.xe s
noncomputable def PT(X:Cx)(e:Expr)(t:TT):Prop:=
 ∀(pins:List (Addr×Obj)) (s:Shared) (σ:St) (H:Hp) (Q:Bool→Hp→Prop),Inv X pins σ H s→t σ H Q→wpAny (model X.prog X.w) X.A (isTrue e X.env (eval e X.env)) (TP X pins σ Q) X.xe s
noncomputable def PW(X:Cx)(e:Expr)(t:TT):Prop:=
 ∀(whole:Sem Value) (pins:List (Addr×Obj)) (s:Shared) (σ:St) (H:Hp) (Q:Bool→Hp→Prop),Inv X pins σ H s→t σ H Q→wpAny (model X.prog X.w) X.A (isTrue e X.env whole) (TP X pins σ Q) X.xe s
theorem PW.pt{X:Cx}{e:Expr}{t:TT}(h:PW X e t):PT X e t:=h _
noncomputable def PA(X:Cx)(es:List Expr)(t:TA):Prop:=
 ∀(pos:Pos) (pins:List (Addr×Obj)) (s:Shared) (σ:St) (H:Hp) (Q:List V→Hp→Prop),Inv X pins σ H s→t σ H Q→wpAny (model X.prog X.w) X.A (spliced (backTo pos (starEach es X.env))) (AP X pins σ Q) X.xe s
noncomputable def PS(X:Cx)(st:Stmt)(t:TS):Prop:=
 ∀(pins:List (Addr×Obj)) (s:Shared) (σ:St) (H:Hp) (D:Ends),Inv X pins σ H s→t D σ H→wpAny (model X.prog X.w) X.A (exec st X.env) (SP X pins D) X.xe s
noncomputable def PSs(X:Cx)(st:List Stmt)(t:TS):Prop:=
 ∀(pins:List (Addr×Obj)) (s:Shared) (σ:St) (H:Hp) (D:Ends),Inv X pins σ H s→t D σ H→wpAny (model X.prog X.w) X.A (execs st X.env) (SP X pins D) X.xe s
theorem thn{α:Type}{t:Sem α}{Q Q':α→Shared→Prop}{M:Model}{A:Around}{E:Value→Shared→Prop}{s:Shared}(h:wpAny M A t Q E s)(hQ:∀a s,Q a s→Q' a s):wpAny M A t Q' E s:=wpAny_mono h hQ fun _ _ x=>x
end L2
namespace L2
open PySem PySem.Spec PyProof.Rows
section
variable {X:Cx}
theorem bin{a b:Expr}{ta tb:TE}(ha:PE X a ta)(hb:PE X b tb){pins:List (Addr×Obj)}{s:Shared}{σ:St}{H:Hp}{R:V→V→Hp→Prop}(I:Inv X pins σ H s)(h:ta σ H fun x H1=>tb σ H1 fun y H2=>R x y H2)
  {α:Type} {Q:α→Shared→Prop} {f:Value→Value→Sem α}
  (hf:∀v u s2 x y H2,Inv X pins σ H2 s2→RelV x v→RelV y u→R x y H2→wpAny (model X.prog X.w) X.A (f v u) Q X.xe s2) :
  wpAny (model X.prog X.w) X.A (eval a X.env) (fun v s₁=>wpAny (model X.prog X.w) X.A (eval b X.env) (fun u s₂=>wpAny (model X.prog X.w) X.A (f v u) Q X.xe s₂) X.xe s₁) X.xe s:=by
 refine thn (ha pins s σ H _ I h) fun v s1 ⟨x,H1,I1,r1,q1⟩=>?_
 refine thn (hb pins s1 σ H1 _ I1 q1) fun u s2 ⟨y,H2,I2,r2,q2⟩=>?_
 exact hf v u s2 x y H2 I2 r1 r2 q2
noncomputable def zqm(i:Nat):TE:=fun σ H Q=>∃v,σ[i]?=some (some v)∧Q v H
noncomputable def tC(v:V):TE:=fun _ H Q=>Q v H
theorem zbY{i:Nat}{x:Str}{pos:Pos}(hN:X.N[i]?=some x)(hv:Vis X.env.scope x)(hd:(x==("__debug__":Str))=false:=by decide)(hcd:(x==("__classdict__":Str))=false:=by decide):PE X (.Name x pos) (zqm i):=by
 intro pins s σ H Q I h
 obtain⟨v,e,h⟩:=h
 obtain⟨m,hn,hl⟩:=I.loc
 obtain⟨u,r,l⟩:=hl i x v hN e hv
 have fin:EP X pins σ Q u s:=⟨v,H,I,r,h⟩
 rcases l with⟨hk,hm⟩ | ⟨hk,c,hc,hcell⟩
 ·exact wpAny_Name (wpAny_loadName_local I.ok.kind hk hn hm fin) hd
 ·rcases hk with hk | hk
  ·exact wpAny_Name (wpAny_loadName_cell I.ok.kind hk hc hcell fin) hd
  ·exact wpAny_Name (wpAny_loadName_free I.ok.kind hk hc hcell fin hcd) hd
theorem zo5{i j pos}:PE X (.Constant (.int i) j pos) (tC (.int i)):=fun _ _ _ H _ I h=>wpAny_Constant_int ⟨.int i,H,I.tok _,⟨_,rfl⟩,h⟩
theorem zqy{b j pos}:PE X (.Constant (.bool b) j pos) (tC (.bl b)):=fun _ _ _ H _ I h=>Constant_bool ⟨.bl b,H,I,rfl,h⟩
theorem zo6{j pos}:PE X (.Constant .none j pos) (tC .non):=fun _ _ _ H _ I h=>Constant_none ⟨.non,H,I,rfl,h⟩
theorem zo7{x j pos}:PE X (.Constant (.str x) j pos) (tC (.str x)):=fun _ _ _ H _ I h=>Calls.Constant_str ⟨.str x,H,I.tok _,⟨_,rfl⟩,h⟩
noncomputable def Gl(X:Cx)(x:Str):Prop:=X.env.kindOf x=some .globalImplicit
theorem ziA{E:Value→Shared→Prop}{pins:List (Addr×Obj)}{s:Shared}{σ:St}{H:Hp}{x:Str}{u:Value}{pos:Pos}{Q:Value→Shared→Prop}(I:Inv X pins σ H s)(hg:Gl X x)(hm:X.mg x=some u)(h:Q u s)
  (hd:(x==("__debug__":Str))=false:=by decide):wpAny (model X.prog X.w) X.A (eval (.Name x pos) X.env) Q E s:=
 Calls.Name_function_global I.ok.kind hg (Calls.loadGlobal_global (by rw[I.ok.glob];exact I.mod.glob.keeps I.bk) hm h) hd
theorem zeI{E:Value→Shared→Prop}{pins:List (Addr×Obj)}{s:Shared}{σ:St}{H:Hp}{x:Str}{u:Value}{pos:Pos}{Q:Value→Shared→Prop}(I:Inv X pins σ H s)(hg:Gl X x)(hm:X.mg x=none)(hv:bootBuiltins x=some u)(h:Q u s)
  (hn:x≠"__name__":=by decide) (hd:(x==("__debug__":Str))=false:=by decide):wpAny (model X.prog X.w) X.A (eval (.Name x pos) X.env) Q E s:=by
 obtain⟨mb,h1,h2⟩:=I.mod.blt
 exact Calls.Name_function_global I.ok.kind hg (Calls.loadGlobal_builtin (by rw[I.ok.glob];exact I.mod.glob.keeps I.bk) hm (by rw[I.ok.blt];exact h1.keeps I.bk) ((h2 x hn).trans hv) h) hd
theorem ziB{x:Str}{v:V}{u:Value}{pos:Pos}(hg:Gl X x)(hm:X.mg x=some u)(r:RelV v u)(hd:(x==("__debug__":Str))=false:=by decide):PE X (.Name x pos) (tC v):=
 fun _ _ _ H _ I h=>ziA I hg hm ⟨v,H,I,r,h⟩ hd
theorem ziC{x:Str}{v:V}{u:Value}{pos:Pos}(hg:Gl X x)(hm:X.mg x=none)(hv:bootBuiltins x=some u)(r:RelV v u)(hn:x≠"__name__":=by decide)(hd:(x==("__debug__":Str))=false:=by decide):PE X (.Name x pos) (tC v):=
 fun _ _ _ H _ I h=>zeI I hg hm hv ⟨v,H,I,r,h⟩ hn hd
variable {a b:Expr} {ta tb:TE} {pos:Pos}
noncomputable def PC(X:Cx)(op:CmpOp)(a b:Expr)(t:TE):Prop:=
 ∀(pins:List (Addr×Obj)) (s:Shared) (σ:St) (H:Hp) (Q:VK),Inv X pins σ H s→t σ H Q→
  wpAny (model X.prog X.w) X.A (eval a X.env) (fun v s₁=>wpAny (model X.prog X.w) X.A (eval b X.env) (fun u s₂=>wpAny (model X.prog X.w) X.A (compareOp op v u) (EP X pins σ Q) X.xe s₂) X.xe s₁) X.xe s
theorem zmq(b:Expr){op:CmpOp}(h:op≠.In)(h2:op≠.NotIn):behindInMarks op b=false:=by
 have e1:(op==CmpOp.In)=false:=by cases op<;>first | rfl | exact absurd rfl h
 have e2:(op==CmpOp.NotIn)=false:=by cases op<;>first | rfl | exact absurd rfl h2
 cases b<;>simp[behindInMarks,e1,e2]
noncomputable def tB(t:TE):TT:=fun σ H Q=>t σ H fun x H1=>∃c,x=.bl c∧Q c H1
theorem zrg{op:CmpOp}{t:TE}(h:PC X op a b t)(h1:behindInMarks op b=false:=by first | exact zmq _ (by decide) (by decide) | rfl):PT X (.Compare a [op] [b] pos) (tB t):=by
 intro pins s σ H Q I hw
 refine wpAny_isTrue_Compare1 (thn (h pins s σ H _ I hw) fun v s1 h1=>thn h1 fun u s2 h2=>thn h2 fun c s3 ⟨x,H1,I1,r1,q1⟩=>?_) h1
 obtain⟨d,rfl,q⟩:=q1
 cases r1
 exact wpAny_truthy_bool ⟨H1,I1,q⟩
theorem zo8{e:Expr}{t:TE}(h:PE X e t)(he:∀whole,isTrue e X.env whole=(do let v ←whole;standAt e.pos;holding [v] (truthy v)):=by intro _;rfl):PT X e (tB t):=by
 intro pins s σ H Q I hw
 refine isTrue_plain (thn (h pins s σ H _ I hw) fun v s1 ⟨x,H1,I1,r1,q1⟩=>?_) (he _)
 obtain⟨d,rfl,q⟩:=q1
 cases r1
 exact wpAny_truthy_bool ⟨H1,I1,q⟩
variable {tA tB':TT} {zcD:List Expr}
noncomputable def zrz(t u:TT):TT:=fun σ H Q=>t σ H fun c H1=>if c=true then u σ H1 Q else Q false H1
noncomputable def tOr(t u:TT):TT:=fun σ H Q=>t σ H fun c H1=>if c=true then Q true H1 else u σ H1 Q
noncomputable def zrA(t:TT):TT:=fun σ H Q=>t σ H fun c H1=>Q (!c) H1
theorem zn0(ha:PT X a tA):PW X (.BoolOp .And [a] pos) tA:=by
 intro wh pins s σ H Q I h
 refine isTrue_and (thn (ha pins s σ H Q I h) fun c s1 e=>?_)
 cases c with
 | true=>exact isTrue_and_nil e
 | false=>exact e
theorem zo9(ha:PT X a tA):PW X (.BoolOp .Or [a] pos) tA:=by
 intro wh pins s σ H Q I h
 refine isTrue_or (thn (ha pins s σ H Q I h) fun c s1 e=>?_)
 cases c with
 | false=>exact isTrue_or_nil e
 | true=>exact e
theorem zpa(ha:PT X a tA)(hb:PW X (.BoolOp .And (b::zcD) pos) tB'):PW X (.BoolOp .And (a::b::zcD) pos) (zrz tA tB'):=by
 intro wh pins s σ H Q I h
 refine isTrue_and (thn (ha pins s σ H _ I h) fun c s1 ⟨H1,I1,q1⟩=>?_)
 cases c with
 | true=>exact hb wh pins s1 σ H1 Q I1 q1
 | false=>exact⟨H1,I1,q1⟩
theorem zqz(ha:PT X a tA)(hb:PW X (.BoolOp .Or (b::zcD) pos) tB'):PW X (.BoolOp .Or (a::b::zcD) pos) (tOr tA tB'):=by
 intro wh pins s σ H Q I h
 refine isTrue_or (thn (ha pins s σ H _ I h) fun c s1 ⟨H1,I1,q1⟩=>?_)
 cases c with
 | true=>exact⟨H1,I1,q1⟩
 | false=>exact hb wh pins s1 σ H1 Q I1 q1
theorem zpb(ha:PT X a tA):PT X (.UnaryOp .Not a pos) (zrA tA):=by
 intro pins s σ H Q I h
 exact isTrue_not (ha pins s σ H (fun c H1=>Q (!c) H1) I h)
noncomputable def zqA(ta tb:TE):TE:=fun σ H Q=>ta σ H fun x H1=>∃c,x=.bl c∧if c=true then tb σ H1 Q else Q (.bl false) H1
noncomputable def zrB(ta tb:TE):TE:=fun σ H Q=>ta σ H fun x H1=>∃c,x=.bl c∧if c=true then Q (.bl true) H1 else tb σ H1 Q
noncomputable def zqB(ta:TE):TE:=fun σ H Q=>ta σ H fun x H1=>∃c,x=.bl c∧Q (.bl (!c)) H1
theorem zpc{op}{t:TE}(h:PE X a t):PE X (.BoolOp op [a] pos) t:=fun pins s σ H Q I hw=>BoolOp_one (h pins s σ H Q I hw)
theorem zpd(ha:PE X a ta)(hb:PE X (.BoolOp .And (b::zcD) pos) tb):PE X (.BoolOp .And (a::b::zcD) pos) (zqA ta tb):=by
 intro pins s σ H Q I h
 refine BoolOp_and (thn (ha pins s σ H _ I h) fun v s1 ⟨x,H1,I1,r1,q1⟩=>?_)
 obtain⟨c,rfl,q1⟩:=q1
 cases r1
 refine wpAny_truthy_bool ?_
 cases c with
 | true=>exact hb pins s1 σ H1 Q I1 q1
 | false=>exact⟨.bl false,H1,I1,rfl,q1⟩
theorem zqC(ha:PE X a ta)(hb:PE X (.BoolOp .Or (b::zcD) pos) tb):PE X (.BoolOp .Or (a::b::zcD) pos) (zrB ta tb):=by
 intro pins s σ H Q I h
 refine BoolOp_or (thn (ha pins s σ H _ I h) fun v s1 ⟨x,H1,I1,r1,q1⟩=>?_)
 obtain⟨c,rfl,q1⟩:=q1
 cases r1
 refine wpAny_truthy_bool ?_
 cases c with
 | false=>exact hb pins s1 σ H1 Q I1 q1
 | true=>exact⟨.bl true,H1,I1,rfl,q1⟩
theorem zpe(ha:PE X a ta):PE X (.UnaryOp .Not a pos) (zqB ta):=by
 intro pins s σ H Q I h
 refine UnaryOp_ (thn (ha pins s σ H _ I h) fun v s1 ⟨x,H1,I1,r1,q1⟩=>?_)
 obtain⟨c,rfl,q1⟩:=q1
 cases r1
 exact not_of (wpAny_truthy_bool ⟨.bl (!c),H1,I1,rfl,q1⟩)
noncomputable def tIf(t:TT)(ta tb:TE):TE:=fun σ H Q=>t σ H fun c H1=>if c=true then ta σ H1 Q else tb σ H1 Q
theorem zmr{c:Expr}(hc:PT X c tA)(ha:PE X a ta)(hb:PE X b tb):PE X (.IfExp c a b pos) (tIf tA ta tb):=by
 intro pins s σ H Q I h
 refine wpAny_IfExp (thn (hc pins s σ H _ I h) fun d s1 ⟨H1,I1,q1⟩=>?_)
 cases d with
 | true=>exact ha pins s1 σ H1 Q I1 q1
 | false=>exact hb pins s1 σ H1 Q I1 q1
end
end L2
namespace L2
open PySem PySem.Spec PyProof.Rows
noncomputable def SqL(K:PySem.W.Frag)(H:Hp)(a:Addr)(xs:List V):Prop:=
 Rd H a (.lst xs)∨
  ∃(o:Obj) (its:Array Value) (n:Nat),K.lookup a=some o∧o.cls=.type "list"∧o.dict=none∧o.data=.seq its n∧its.size≤sizeLine∧Vals xs its.toList
noncomputable def SqT(K:PySem.W.Frag)(H:Hp)(a:Addr)(xs:List V):Prop:=
 Rd H a (.tup xs)∨
  ∃(o:Obj) (its:Array Value) (n:Nat),K.lookup a=some o∧o.cls=.type "tuple"∧o.data=.seq its n∧its.size≤sizeLine∧Vals xs its.toList
noncomputable def zrC:Value→Option V
 | .none=>some .non
 | .bool b=>some (.bl b)
 | .int i _=>some (.int i)
 | .str x _=>some (.str x)
 | .bytes b _=>some (.byt b)
 | .float b _=>some (.flt b)
 | .ref a=>some (.ref a)
 | .type n=>some (.ty n)
 | _=>none
theorem RelV.abs{x:V}{u:Value}(r:RelV x u):zrC u=some x:=by
 cases x with
 | non=>cases r;rfl
 | bl _=>cases r;rfl
 | int _=>obtain⟨t,rfl⟩:=r;rfl
 | str _=>obtain⟨t,rfl⟩:=r;rfl
 | byt _=>obtain⟨t,rfl⟩:=r;rfl
 | flt _=>obtain⟨t,rfl⟩:=r;rfl
 | ref _=>cases r;rfl
 | ty _=>cases r;rfl
theorem RelV.inj{x y:V}{u:Value}(r:RelV x u)(q:RelV y u):x=y:=Option.some.inj (r.abs.symm.trans q.abs)
theorem Vals.inj:∀{xs ys:List V} {us:List Value},Vals xs us→Vals ys us→xs=ys
 | _,_,_,.nil,.nil=>rfl
 | _,_,_,.cons r t,.cons r' t'=>by rw[r.inj r',Vals.inj t t']
section
variable {X:Cx} {pins:List (Addr×Obj)} {σ:St} {H:Hp} {s:Shared} {a:Addr} {xs ys:List V}
theorem SqL.of{K:PySem.W.Frag}(h:H a=some (.lst xs)):SqL K H a xs:=.inl (.inl h)
theorem SqT.of{K:PySem.W.Frag}(h:H a=some (.tup xs)):SqT K H a xs:=.inl (.inl h)
theorem Inv.list(I:Inv X pins σ H s)(h:SqL X.K H a xs):∃its:List Value,Vals xs its∧PlainL s.heap a its.toArray∧xs.length≤sizeLine:=by
 rcases h with h | ⟨o,its,n,hk,hc,hd,hs,hz,r⟩
 ·obtain⟨z,its,n,r,e⟩:=h.ok I.hok
  exact⟨its,r,⟨_,n,e,rfl,rfl,rfl⟩,z⟩
 ·refine⟨its.toList,r,⟨o,n,I.kIn a o hk,hc,hd,by simpa using hs⟩,?_⟩
  have e:=r.length
  simp only[Array.length_toList] at e
  omega
theorem Inv.tuple(I:Inv X pins σ H s)(h:SqT X.K H a xs):∃its:List Value,Vals xs its∧IsTup s.heap a its.toArray∧xs.length≤sizeLine:=by
 rcases h with h | ⟨o,its,n,hk,hc,hs,hz,r⟩
 ·obtain⟨z,its,r,p⟩:=h.ok I.hok
  exact⟨its,r,p,z⟩
 ·refine⟨its.toList,r,⟨o,I.kIn a o hk,hc,n,by simpa using hs⟩,?_⟩
  have e:=r.length
  simp only[Array.length_toList] at e
  omega
theorem Inv.list_inj(I:Inv X pins σ H s)(h:SqL X.K H a xs)(h':SqL X.K H a ys):xs=ys:=by
 obtain⟨its,r,⟨o,n,e,_,_,d⟩,_⟩:=I.list h
 obtain⟨its',r',⟨o',n',e',_,_,d'⟩,_⟩:=I.list h'
 rw[e] at e';cases e'
 rw[d] at d'
 injection d' with d1 _
 have:its=its':=by simpa using congrArg Array.toList d1
 subst this
 exact r.inj r'
theorem Inv.tuple_inj(I:Inv X pins σ H s)(h:SqT X.K H a xs)(h':SqT X.K H a ys):xs=ys:=by
 obtain⟨its,r,⟨o,e,_,n,d⟩,_⟩:=I.tuple h
 obtain⟨its',r',⟨o',e',_,n',d'⟩,_⟩:=I.tuple h'
 rw[e] at e';cases e'
 rw[d] at d'
 injection d' with d1 _
 have:its=its':=by simpa using congrArg Array.toList d1
 subst this
 exact r.inj r'
end
noncomputable abbrev Cx.wish(X:Cx)(E:Value→Shared→Prop):Cx:={ X with xe:=E }
noncomputable abbrev Cx.nox(X:Cx):Cx:=X.wish fun _ _=>False
theorem Cx.Ok.wish{X:Cx}(ok:X.Ok)(E:Value→Shared→Prop):(X.wish E).Ok:=
 ⟨ok.mod,ok.kind,ok.glob,ok.blt,ok.above,ok.inj,ok.has,ok.cab,ok.hd,ok.frames,ok.stk,ok.exf,ok.bs,ok.bsz,ok.noex,ok.exfs,ok.funs,ok.frf⟩
theorem Cx.Ok.unwish{X:Cx}{E:Value→Shared→Prop}(ok:(X.wish E).Ok):X.Ok:=
 ⟨ok.mod,ok.kind,ok.glob,ok.blt,ok.above,ok.inj,ok.has,ok.cab,ok.hd,ok.frames,ok.stk,ok.exf,ok.bs,ok.bsz,ok.noex,ok.exfs,ok.funs,ok.frf⟩
section
variable {X:Cx} {pins:List (Addr×Obj)} {σ:St} {H:Hp} {s:Shared} {E:Value→Shared→Prop}
theorem Inv.wish(I:Inv X pins σ H s)(E:Value→Shared→Prop):Inv (X.wish E) pins σ H s:=⟨I.ok.wish E,I.os,I.bare,I.base,I.loc,I.cell,I.free,I.freeC,I.pin,I.hok,I.len⟩
theorem Inv.unwish(I:Inv (X.wish E) pins σ H s):Inv X pins σ H s:=⟨I.ok.unwish,I.os,I.bare,I.base,I.loc,I.cell,I.free,I.freeC,I.pin,I.hok,I.len⟩
theorem SP.unwish{D:Ends}{f:Flow}{s':Shared}(h:SP (X.wish E) pins D f s'):SP X pins D f s':=by
 cases f with
 | next=>obtain⟨σ',H',I,q⟩:=h;exact⟨σ',H',I.unwish,q⟩
 | brk=>obtain⟨σ',H',I,q⟩:=h;exact⟨σ',H',I.unwish,q⟩
 | cont=>obtain⟨σ',H',I,q⟩:=h;exact⟨σ',H',I.unwish,q⟩
 | ret u=>obtain⟨v,σ',H',I,r,q⟩:=h;exact⟨v,σ',H',I.unwish,r,q⟩
theorem PSs.nox{st:List Stmt}{t:TS}(h:PSs X.nox st t):PSs X st t:=fun pins s σ H D I hw=>
 wpAny_mono (h pins s σ H D (I.wish _) hw) (fun _ _ q=>q.unwish) fun _ _ z=>False.elim z
end
section
variable {X:Cx} {st:Stmt} {zcD:List Stmt} {t u:TS} {e:Expr} {te:TE} {pos:Pos}
noncomputable def zqD:TS:=fun D σ H=>D.nx σ H
noncomputable def zrh(t u:TS):TS:=fun D σ H=>t { D with nx:=u D } σ H
theorem zkA:PSs X [] zqD:=fun _ _ σ H _ I h=>wpAny_execs_nil ⟨σ,H,I,h⟩
theorem zgR(h1:PS X st t)(h2:PSs X zcD u):PSs X (st::zcD) (zrh t u):=by
 intro pins s σ H D I h
 refine wpAny_execs_cons (thn (h1 pins s σ H { D with nx:=u D } I h) fun f s1 q=>?_)
 cases f with
 | next=>
  obtain⟨σ',H',I',q⟩:=q
  exact h2 pins s1 σ' H' D I' q
 | ret v=>exact q
 | brk=>exact q
 | cont=>exact q
theorem ziD(h1:PS X st t):PSs X [st] t:=by
 intro pins s σ H D I h
 refine wpAny_execs_cons (thn (h1 pins s σ H D I h) fun f s1 q=>?_)
 cases f with
 | next=>exact wpAny_execs_nil q
 | ret v=>exact q
 | brk=>exact q
 | cont=>exact q
theorem Inv.quiet{pins:List (Addr×Obj)}{σ:St}{H:Hp}{s:Shared}(I:Inv X pins σ H s):interactive X.env=false:=by simp[interactive,I.ok.kind]
noncomputable def zqE(te:TE):TS:=fun D σ H=>te σ H fun _ H1=>D.nx σ H1
theorem zd2(he:PE X e te)(hs:swapsWith e none pos.line X.env=pure false:=by rfl):PS X (.Expr e pos) (zqE te):=by
 intro pins s σ H D I h
 exact wpAny_Expr_any (thn (he pins s σ H _ I h) fun v s1 ⟨x,H1,I1,r1,q1⟩=>⟨σ,H1,I1,q1⟩) I.quiet hs
noncomputable def zri(te:TE):TS:=fun D σ H=>te σ H D.rt
theorem zhA(he:PE X e te):PS X (.Return (some e) pos) (zri te):=by
 intro pins s σ H D I h
 exact wpAny_Return_some (thn (he pins s σ H _ I h) fun v s1 ⟨x,H1,I1,r1,q1⟩=>⟨x,σ,H1,I1,r1,q1⟩)
noncomputable def zrD(c:TT)(t u:TS):TS:=fun D σ H=>c σ H fun b H1=>if b=true then t D σ H1 else u D σ H1
theorem zqF{c:Expr}{a b:List Stmt}{tc:TT}(hc:PT X c tc)(ha:PSs X a t)(hb:PSs X b u):PS X (.If c a b pos) (zrD tc t u):=by
 intro pins s σ H D I h
 refine wpAny_If (thn (hc pins s σ H _ I h) fun d s1 ⟨H1,I1,q1⟩=>?_)
 cases d with
 | true=>exact ha pins s1 σ H1 D I1 q1
 | false=>exact hb pins s1 σ H1 D I1 q1
noncomputable def zpf:TS:=fun _ _ _=>False
theorem zms:PS X st zpf:=fun _ _ _ _ _ _ h=>h.elim
end
noncomputable abbrev TG:=V→St→Hp→(St→Hp→Prop)→Prop
noncomputable abbrev TGs:=List V→St→Hp→(St→Hp→Prop)→Prop
noncomputable def PG(X:Cx)(target:Expr)(t:TG):Prop:=
 ∀(pins:List (Addr×Obj)) (s:Shared) (σ:St) (H:Hp) (v:V) (u:Value) (Q:St→Hp→Prop),Inv X pins σ H s→RelV v u→t v σ H Q→
  wpAny (model X.prog X.w) X.A (assign target X.env u) (fun _ s'=>∃σ' H',Inv X pins σ' H' s'∧Q σ' H') X.xe s
noncomputable def PGs(X:Cx)(ts:List Expr)(t:TGs):Prop:=
 ∀(pins:List (Addr×Obj)) (s:Shared) (σ:St) (H:Hp) (vs:List V) (us:List Value) (Q:St→Hp→Prop),Inv X pins σ H s→Vals vs us→t vs σ H Q→
  wpAny (model X.prog X.w) X.A (assignInOrder ((assignEach ts X.env).map (·.2)) us) (fun _ s'=>∃σ' H',Inv X pins σ' H' s'∧Q σ' H') X.xe s
noncomputable abbrev zqG:=V→V→V→Hp→(Hp→Prop)→Prop
noncomputable def zrj(X:Cx)(t:zqG):Prop:=
 ∀(pins:List (Addr×Obj)) (s:Shared) (σ:St) (H:Hp) (o i v:V) (ov iv u:Value) (Q:Hp→Prop),Inv X pins σ H s→RelV o ov→RelV i iv→RelV v u→t o i v H Q→
  wpAny (model X.prog X.w) X.A (setItem ov iv u) (fun _ s'=>∃H',Inv X pins σ H' s'∧Q H') X.xe s
section
variable {X:Cx} {pos:Pos}
noncomputable def zmt(i:Nat):TG:=fun v σ H Q=>Q (σ.set i (some v)) H
theorem zkB{i:Nat}{x:Str}(hN:X.N.Nodup)(hi:X.N[i]?=some x)(hx:Loc X.env.scope x)(hf:X.fn x=true∨X.env.scope.names.lookup x=some .local:=by first | exact .inl rfl | exact .inr rfl | assumption):PG X (.Name x pos) (zmt i):=by
 intro pins s σ H v u Q I r h
 exact wpAny_assign_Name (zja I hN hi hx r (fun s' I'=>⟨_,H,I',h⟩) hf)
noncomputable def zrE:TGs:=fun vs σ H Q=>vs=[]∧Q σ H
noncomputable def zqH(t:TG)(u:TGs):TGs:=fun vs σ H Q=>∃v r,vs=v::r∧t v σ H fun σ' H'=>u r σ' H' Q
theorem zn1:PGs X [] zrE:=by
 intro pins s σ H vs us Q I r h
 obtain⟨e,h⟩:=h
 subst e
 cases r
 exact assignInOrder_nil ⟨σ,H,I,h⟩
theorem zmu{e:Expr}{es:List Expr}{t:TG}{u:TGs}(h1:PG X e t)(h2:PGs X es u)
  (hs:(assignEach (e::es) X.env).map (·.2)=assign e X.env::(assignEach es X.env).map (·.2):=by rfl):PGs X (e::es) (zqH t u):=by
 intro pins s σ H vs us Q I r h
 obtain⟨v,vr,e1,h⟩:=h
 subst e1
 cases r with
 | cons r rr=>
  rw[hs]
  refine assignInOrder_cons (thn (h1 pins s σ H _ _ _ I r h) fun _ s1 ⟨σ1,H1,I1,q1⟩=>?_)
  exact h2 pins s1 σ1 H1 _ _ Q I1 rr q1
noncomputable def zrF(K:PySem.W.Frag)(n:Nat)(t:TGs):TG:=fun v σ H Q=>∃a xs,v=.ref a∧SqT K H a xs∧xs.length=n∧t xs σ H Q
theorem zpg{es:List Expr}{k:Nat}{t:TGs}{n:Nat}(hc:X.calm=true)(h:PGs X es t)
  (hn:(assignEach es X.env).length=n:=by rfl) (hst:(assignEach es X.env).findIdx? (·.1)=none:=by rfl):PG X (.Tuple es k pos) (zrF X.K n t):=by
 intro pins s σ H v u Q I r hw
 obtain⟨a,xs,e1,hq,hl,hw⟩:=hw
 subst e1
 cases r
 obtain⟨its,rv,ht,hz⟩:=I.tuple hq
 refine assign_Tuple_tuple (I.ok.hd hc) ht (by simp[hn,←hl,rv.length]) hst fun h' hx=>?_
 have I1:Inv X pins σ H { s with heap:=h' }:=I.kept (t':=s.toks) fun b o e=>hx b o (Nat.ne_of_lt (Heap.lt_size e)) e
 exact h pins _ σ H xs _ Q I1 (by simpa using rv) hw
noncomputable def zrG(to ti:TE)(t:zqG):TG:=fun v σ H Q=>to σ H fun o H1=>ti σ H1 fun i H2=>t o i v H2 fun H3=>Q σ H3
theorem zph{o i:Expr}{to ti:TE}{t:zqG}(ho:PE X o to)(hi:PE X i ti)(hs:zrj X t)
  (ha:∀v,assign (.Subscript o i pos) X.env v=(do
   let ov ←holding [v] (eval o X.env)
   let iv ←holding [v,ov] (eval i X.env)
   standAt pos
   holding [v,ov,iv] (setItem ov iv v)
   release [v,ov,iv] []):=by intro _;rfl):PG X (.Subscript o i pos) (zrG to ti t):=by
 intro pins s σ H v u Q I r h
 rw[ha]
 refine wpAny_bind (wpAny_holding (thn (ho pins s σ H _ I h) fun ov s1 ⟨x,H1,I1,r1,q1⟩=>?_))
 refine wpAny_bind (wpAny_holding (thn (hi pins s1 σ H1 _ I1 q1) fun iv s2 ⟨y,H2,I2,r2,q2⟩=>?_))
 refine wpAny_bind (wpAny_standAt (wpAny_bind (wpAny_holding (thn (hs pins s2 σ H2 x y v ov iv u _ I2 r1 r2 r q2) fun _ s3 ⟨H3,I3,q3⟩=>?_))))
 exact wpAny_release ⟨σ,H3,I3,q3⟩
noncomputable def zqn(te:TE)(g:TG):TS:=fun D σ H=>te σ H fun x H1=>g x σ H1 D.nx
theorem znr{tg e:Expr}{te:TE}{g:TG}(he:PE X e te)(hg:PG X tg g)(hs:swapsWithSole [tg] e pos.line X.env=pure false:=by rfl)(hw:swappedStores [tg] e X.env=pure none:=by rfl)
  (h1:(assignEach [tg] X.env).map (·.2)=[assign tg X.env]:=by rfl):PS X (.Assign [tg] e pos) (zqn te g):=by
 intro pins s σ H D I h
 refine wpAny_Assign_stores (thn (he pins s σ H _ I h) fun v s1 ⟨x,H1,I1,r1,q1⟩=>?_) hs hw
 rw[h1]
 exact thn (hg pins s1 σ H1 x v _ I1 r1 q1) fun _ s2 q=>q
theorem zkC{i:Nat}{x:Str}{e:Expr}{te:TE}{pos':Pos}(hN:X.N.Nodup)(hi:X.N[i]?=some x)(hx:Loc X.env.scope x)(he:PE X e te)(hs:swapsWith e (some (.Name x pos')) pos.line X.env=pure false:=by rfl)(hf:X.fn x=true∨X.env.scope.names.lookup x=some .local:=by first | exact .inl rfl | exact .inr rfl | assumption) :
  PS X (.Assign [.Name x pos'] e pos) (zqn te (zmt i)):=by
 intro pins s σ H D I h
 refine wpAny_Assign_Name (thn (he pins s σ H _ I h) fun v s1 ⟨y,H1,I1,r1,q1⟩=>?_) hs
 exact zja I1 hN hi hx r1 (fun s2 I2=>⟨_,H1,I2,q1⟩) hf
end
structure It where
 go:Nat→Hp→Prop
 yld:Nat→Hp→V→Hp→Prop
 stop:Nat→Hp→Prop
noncomputable def FpOk(X:Cx)(pins:List (Addr×Obj))(H:Hp)(b:Addr):Prop:=
 H b=none∧b≠X.env.locals∧b∉X.fs∧(b∈X.ex∨X.s₀.heap.objs.size≤b)∧(∀x c,X.env.cells.lookup x=some c→c≠b)∧∀p∈X.pn++pins,p.1≠b
theorem Inv.fpOk{X:Cx}{pins:List (Addr×Obj)}{σ:St}{H H':Hp}{s:Shared}{b:Addr}(I:Inv X pins σ H s)(hb:s.heap.objs.size≤b)(hn:H' b=none):FpOk X pins H' b:=by
 refine⟨hn,Nat.ne_of_gt (Nat.lt_of_lt_of_le I.lt hb),I.nofs hb,.inr (Nat.le_trans I.sz hb),fun x c e z=>?_,fun p hp z=>?_⟩
 ·obtain⟨v,q⟩:=I.cell x c e
  exact absurd (Nat.lt_of_lt_of_le q.lt (by rw[z];exact hb)) (Nat.lt_irrefl _)
 ·exact absurd (Nat.lt_of_lt_of_le (Heap.lt_size (I.pin p hp).1) (by rw[z];exact hb)) (Nat.lt_irrefl _)
structure Turn (P:Program) (w:World) (K:PySem.W.Frag) (tg:Expr) (J:It) (fp:List Addr) (it:Addr) (tn:Nat→Heap→Prop):Prop where
 mem:it∈fp
 obj:∀i h,tn i h→∀b∈fp,∃o,h.get? b=some o∧∀v,o.data≠.cell v
 keep:∀i h h',tn i h→(∀b∈fp,∀o,h.get? b=some o→h'.get? b=some o)→tn i h'
 item:∀(X:Cx),X.prog=P→X.w=w→X.K=K→X.calm=true→∀(i:Nat) (pins:List (Addr×Obj)) (s:Shared) (σ:St) (H:Hp) (E:Value→Shared→Prop),Inv X pins σ H s→(∀b∈fp,FpOk X pins H b)→tn i s.heap→J.go i H→
  wpAny (model P w) X.A (pyNext (.ref it)) (fun r s1=>∃u,r=some u∧
   wpAny (model P w) X.A (letOwnedTupleGo tg (.ref it) u) (fun _ s2=>∃x H',Inv X pins σ H' s2∧RelV x u∧J.yld i H x H'∧tn (i+1) s2.heap∧∀b∈fp,H' b=none) E s1) E s
 done:∀(X:Cx),X.prog=P→X.w=w→X.K=K→X.calm=true→∀(i:Nat) (pins:List (Addr×Obj)) (s:Shared) (σ:St) (H:Hp) (E:Value→Shared→Prop),Inv X pins σ H s→(∀b∈fp,FpOk X pins H b)→tn i s.heap→J.stop i H→
  wpAny (model P w) X.A (pyNext (.ref it)) (fun r s1=>r=none∧Inv X pins σ H s1) E s
 self:∀(A:Around) (i:Nat) (s:Shared) (Q:Value→Shared→Prop) (E:Value→Shared→Prop),tn i s.heap→Q (.ref it) s→wpAny (model P w) A (pyIter (.ref it)) Q E s
noncomputable abbrev TI:=St→Hp→(It→Hp→Prop)→Prop
noncomputable def PIE(X:Cx)(pins:List (Addr×Obj))(σ:St)(tg:Expr)(R:It→Hp→Prop)(itv:Value)(s2:Shared):Prop:=
 ∃(it:Addr) (fp:List Addr) (tn:Nat→Heap→Prop) (J:It) (H':Hp),itv=.ref it∧Inv X pins σ H' s2∧Turn X.prog X.w X.K tg J fp it tn∧tn 0 s2.heap∧(∀b∈fp,FpOk X pins H' b)∧R J H'
noncomputable def PI(X:Cx)(tg iter:Expr)(wi:TI):Prop:=
 ∀(pins:List (Addr×Obj)) (s:Shared) (σ:St) (H:Hp) (R:It→Hp→Prop),Inv X pins σ H s→wi σ H R→
  wpAny (model X.prog X.w) X.A (eval iter X.env) (fun v s1=>wpAny (model X.prog X.w) X.A (pyIter v) (PIE X pins σ tg R) X.xe s1) X.xe s
theorem zmv{M:Model}{A:Around}{E:Value→Shared→Prop}{s:Shared}{tg:Expr}{it:Addr}{u:Value}{o:Obj}{n:String}{vs:Array Value}{Q:Unit→Shared→Prop}(ho:s.heap.get? it=some o)(hc:o.cls=.type n)(hd:o.data=.fields vs)
  (hn:["enumerate","zip","dict_itemiterator","dict_reverseitemiterator","odict_iterator","itertools.zip_longest","itertools.pairwise"].contains n=false) (hQ:Q () s):wpAny M A (letOwnedTupleGo tg (.ref it) u) Q E s:=by
 unfold letOwnedTupleGo
 cases tg<;>first
  | exact wpAny_pure hQ
  | (cases u<;>first
    | exact wpAny_pure hQ
    | (refine wpAny_bind (wpAny_load ho ?_)
       rw[hc,hd]
       show wpAny M A (if (["enumerate","zip","dict_itemiterator","dict_reverseitemiterator","odict_iterator","itertools.zip_longest","itertools.pairwise"].contains n&&vs[0]?==some (rawInt _))=true then _ else _) Q E s
       rw[if_neg (by intro h;rw[hn,Bool.false_and] at h;cases h)]
       exact wpAny_pure hQ))
noncomputable def Itl(K:PySem.W.Frag)(a:Addr):It:=
 ⟨fun i H=>∃xs x,SqL K H a xs∧xs[i]?=some x,fun i H x H'=>H'=H∧∀xs,SqL K H a xs→xs[i]?=some x,fun i H=>∃xs,SqL K H a xs∧xs.length≤i⟩
noncomputable def Itt(K:PySem.W.Frag)(a:Addr):It:=
 ⟨fun i H=>∃xs x,SqT K H a xs∧xs[i]?=some x,fun i H x H'=>H'=H∧∀xs,SqT K H a xs→xs[i]?=some x,fun i H=>∃xs,SqT K H a xs∧xs.length≤i⟩
noncomputable def Itr(lo:Int)(n:Nat):It:=⟨fun i _=>i<n,fun i H x H'=>H'=H∧x=.int (lo+i),fun i _=>n≤i⟩
theorem zhB{P:Program}{w:World}{K:PySem.W.Frag}{tg:Expr}(a it:Addr):Turn P w K tg (Itl K a) [it] it (fun i h=>h.IsListIter it a i) where
 mem:=by simp
 obj:=fun i h st b hb=>by
  have e:b=it:=by simpa using hb
  subst e
  obtain⟨o,e,c,d⟩:=st
  exact⟨o,e,fun v z=>by rw[d] at z;cases z⟩
 keep:=fun i h h' st k=>st.at fun o e=>k it (by simp) o e
 item:=by
  intro X hP hw hK hc i pins s σ H E I hf st hg
  subst hP hw hK
  obtain⟨xs,x,hq,hx⟩:=hg
  obtain⟨its,rv,p,hz⟩:=I.list hq
  obtain⟨u,hu,ru⟩:=rv.get hx
  obtain⟨f0,f1,f2,f3,f4,f5⟩:=hf it (by simp)
  refine wpAny_pyNext_list_item st p.isList (x:=u) (by simpa using hu) fun h' st' sb=>?_
  have I1:Inv X pins σ H { s with heap:=h' }:=I.turned (t':=s.toks) (fun b o hb e=>(sb.2 b hb).trans e) f0 f1 f3 f4 f5
  obtain⟨o,e,c,d⟩:=id st'
  exact⟨u,rfl,zmv (s:={ s with heap:=h' }) e c d (by decide) ⟨x,H,I1,ru,⟨rfl,fun ys hy=>by rw[I.list_inj hy hq];exact hx⟩,st',fun b hb=>(hf b hb).1⟩⟩
 done:=by
  intro X hP hw hK hc i pins s σ H E I hf st hg
  subst hP hw hK
  obtain⟨xs,hq,hx⟩:=hg
  obtain⟨its,rv,p,hz⟩:=I.list hq
  obtain⟨f0,f1,f2,f3,f4,f5⟩:=hf it (by simp)
  have hl:=rv.length
  exact wpAny_pyNext_list_end (I.ok.hd hc) st p.isList (by simp;omega) fun h' eb=>⟨rfl,I.turned (t':=s.toks) (fun b o hb e=>eb b o hb e) f0 f1 f3 f4 f5⟩
 self:=fun _ _ _ _ _ st h=>wpAny_pyIter_listiter st h
theorem zjT{P:Program}{w:World}{K:PySem.W.Frag}{tg:Expr}(a it:Addr):Turn P w K tg (Itt K a) [it] it (fun i h=>h.IsTupleIter it a i) where
 mem:=by simp
 obj:=fun i h st b hb=>by
  have e:b=it:=by simpa using hb
  subst e
  obtain⟨o,e,c,d⟩:=st
  exact⟨o,e,fun v z=>by rw[d] at z;cases z⟩
 keep:=fun i h h' st k=>st.at fun o e=>k it (by simp) o e
 item:=by
  intro X hP hw hK hc i pins s σ H E I hf st hg
  subst hP hw hK
  obtain⟨xs,x,hq,hx⟩:=hg
  obtain⟨its,rv,p,hz⟩:=I.tuple hq
  obtain⟨u,hu,ru⟩:=rv.get hx
  obtain⟨f0,f1,f2,f3,f4,f5⟩:=hf it (by simp)
  refine wpAny_pyNext_tuple_item st (show s.heap.IsTuple a its.toArray from p) (x:=u) (by simpa using hu) fun h' st' sb=>?_
  have I1:Inv X pins σ H { s with heap:=h' }:=I.turned (t':=s.toks) (fun b o hb e=>(sb.2 b hb).trans e) f0 f1 f3 f4 f5
  obtain⟨o,e,c,d⟩:=id st'
  exact⟨u,rfl,zmv (s:={ s with heap:=h' }) e c d (by decide) ⟨x,H,I1,ru,⟨rfl,fun ys hy=>by rw[I.tuple_inj hy hq];exact hx⟩,st',fun b hb=>(hf b hb).1⟩⟩
 done:=by
  intro X hP hw hK hc i pins s σ H E I hf st hg
  subst hP hw hK
  obtain⟨xs,hq,hx⟩:=hg
  obtain⟨its,rv,p,hz⟩:=I.tuple hq
  obtain⟨f0,f1,f2,f3,f4,f5⟩:=hf it (by simp)
  have hl:=rv.length
  exact wpAny_pyNext_tuple_end (I.ok.hd hc) st (show s.heap.IsTuple a its.toArray from p) (by simp;omega) fun h' eb=>⟨rfl,I.turned (t':=s.toks) (fun b o hb e=>eb b o hb e) f0 f1 f3 f4 f5⟩
 self:=fun _ _ _ _ _ st h=>wpAny_pyIter_tupleiter st h
theorem zjU{P:Program}{w:World}{K:PySem.W.Frag}{tg:Expr}(it:Addr)(lo:Int)(n:Nat):Turn P w K tg (Itr lo n) [it] it (fun i h=>IsRangeIter h it (lo+(i:Nat)*1) ((n:Int)-(i:Nat)) 1) where
 mem:=by simp
 obj:=fun i h st b hb=>by
  have e:b=it:=by simpa using hb
  subst e
  exact⟨_,st,fun v z=>by
   have z':Data.fields _=Data.cell v:=z
   cases z'⟩
 keep:=fun i h h' st k=>k it (by simp) _ st
 item:=by
  intro X hP hw hK hc i pins s σ H E I hf st hg
  subst hP hw hK
  obtain⟨f0,f1,f2,f3,f4,f5⟩:=hf it (by simp)
  have W:=Walks.range (prog:=X.prog) (w:=X.w) (I.ok.hd hc) it lo 1 n
  refine W.item i s _ _ hg st fun v h' tk hv st' kk=>?_
  obtain⟨t,rfl⟩:=hv
  have I1:Inv X pins σ H { s with heap:=h',toks:=tk }:=I.turned (fun b o hb e=>kk b o (by simpa using hb) e) f0 f1 f3 f4 f5
  refine⟨_,rfl,zmv (s:={ s with heap:=h',toks:=tk }) (n:="range_iterator") st' rfl rfl (by decide) ⟨.int (lo+i),H,I1,⟨t,?_⟩,⟨rfl,rfl⟩,st',fun b hb=>(hf b hb).1⟩⟩
  rw[Int.mul_one]
 done:=by
  intro X hP hw hK hc i pins s σ H E I hf st hg
  subst hP hw hK
  obtain⟨f0,f1,f2,f3,f4,f5⟩:=hf it (by simp)
  exact wpAny_pyNext_range_end (I.ok.hd hc) st (by have:n≤i:=hg;omega) fun h' eb=>⟨rfl,I.turned (t':=s.toks) (fun b o hb e=>eb b o hb e) f0 f1 f3 f4 f5⟩
 self:=fun _ _ _ _ _ st h=>wpAny_pyIter_rangeiter st h
end L2
namespace L2
open PySem PySem.Spec PyProof.Rows
section
variable {X:Cx} {tg:Expr}
noncomputable def zqI(K:PySem.W.Frag)(tl:TE):TI:=fun σ H R=>tl σ H fun x H1=>∃a,x=.ref a∧(∃xs,SqL K H1 a xs)∧R (Itl K a) H1
theorem zn2{l:Expr}{tl:TE}(hl:PE X l tl):PI X tg l (zqI X.K tl):=by
 intro pins s σ H R I h
 refine thn (hl pins s σ H _ I h) fun v s1 ⟨x,H1,I1,r1,q1⟩=>?_
 obtain⟨a,e,⟨xs,hq⟩,q⟩:=q1
 subst e
 cases r1
 obtain⟨its,rv,p,hz⟩:=I1.list hq
 refine wpAny_pyIter_list p.isList ?_
 refine⟨s1.heap.objs.size,[s1.heap.objs.size],_,_,H1,rfl,I1.kept (t':=s1.toks) fun b o e=>Heap.get?_push_of_some _ e,zhB a _,⟨_,Heap.get?_push_size _ rfl,rfl,rfl⟩,fun b hb=>?_,q⟩
 have e:b=s1.heap.objs.size:=by simpa using hb
 subst e
 exact I1.fpOk (Nat.le_refl _) (I1.hok.fresh (Nat.le_refl _))
theorem zmw{pins:List (Addr×Obj)}{σ:St}{H:Hp}{s:Shared}{R:It→Hp→Prop}{E:Value→Shared→Prop}{lo hi:Int}{t u v:Tok}{tk:Nat}(I:Inv X pins σ H s)(h1:-(2 ^ 62)≤lo)(h2:lo<2 ^ 62)(h3:-(2 ^ 62)≤hi)(h4:hi<2 ^ 62)
  (q:R (Itr lo (hi-lo).toNat) H):wpAny (model X.prog X.w) X.A (pyIter (.ref s.heap.objs.size)) (PIE X pins σ tg R) E { s with heap:=s.heap.push { cls:=.type "range",data:=.fields #[.int lo t,.int hi u,.int 1 v] },toks:=tk }:=by
 refine wpAny_pyIter_range (IsRange.new ..) (small_one h1 h2 h3 h4) ?_
 have I1:Inv X pins σ H { s with heap:=s.heap.push { cls:=.type "range",data:=.fields #[.int lo t,.int hi u,.int 1 v] },toks:=tk }:=I.kept fun b o e=>Heap.get?_push_of_some _ e
 refine⟨(s.heap.push { cls:=.type "range",data:=.fields #[.int lo t,.int hi u,.int 1 v] }).objs.size,[(s.heap.push { cls:=.type "range",data:=.fields #[.int lo t,.int hi u,.int 1 v] }).objs.size],_,_,H,rfl,
  I1.kept (t':=tk) fun b o e=>Heap.get?_push_of_some _ e,zjU _ lo (hi-lo).toNat,?_,fun b hb=>?_,q⟩
 ·have e1:lo+((0:Nat):Int)*1=lo:=by simp
  have e2:(((hi-lo).toNat:Nat):Int)-((0:Nat):Int)=Builtin.Range.rangeSize lo hi 1:=by rw[rangeSize_one];split<;>omega
  show IsRangeIter _ _ (lo+((0:Nat):Int)*1) ((((hi-lo).toNat:Nat):Int)-((0:Nat):Int)) 1
  rw[e1,e2]
  exact Heap.get?_push_size _ rfl
 ·have e:b=(s.heap.push { cls:=.type "range",data:=.fields #[.int lo t,.int hi u,.int 1 v] }).objs.size:=by simpa using hb
  subst e
  exact I1.fpOk (Nat.le_refl _) (I1.hok.fresh (Nat.le_refl _))
noncomputable def zqJ(ta:TA):TI:=fun σ H R=>ta σ H fun vs H1=>∃j:Int,vs=[.int j]∧-(2 ^ 62)≤j∧j<2 ^ 62∧R (Itr 0 j.toNat) H1
theorem zkD{a:Expr}{ta:TA}{p pos:Pos}(hg:Gl X "range")(hm:X.mg "range"=none)(ha:PA X [a] ta)(hs:starEach [a] X.env=[(false,eval a X.env)]:=by rfl):PI X tg (.Call (.Name "range" p) [a] [] pos) (zqJ ta):=by
 intro pins s σ H R I h
 refine Call_ (zeI I hg hm boot_range (PyProof.Rows.callWith_type1 (thn (ha pos pins s σ H _ I h) fun us s1 ⟨vs,H1,I1,r1,q1⟩=>?_) hs rfl))
 obtain⟨j,e,q1,q2,q⟩:=q1
 subst e
 cases r1 with
 | cons r rr=>
  cases rr
  obtain⟨t,rfl⟩:=r
  exact call_range_1 (zmw I1 (by omega) (by omega) q1 q2 (by simpa using q))
noncomputable def zrH(wi:TI)(g:TG)(tb:TS):TS:=fun D σ H=>wi σ H fun J H1=>∃W:Nat→Nat→St→Hp→Prop,(∃m,W 0 m σ H1)∧∀i m σ H,W i m σ H→
 (J.stop i H∧D.nx σ H)∨(J.go i H∧∃N:St→Hp→Prop,(∀σ' H',N σ' H'→∃m',m'<m∧W (i+1) m' σ' H')∧∀x H',J.yld i H x H'→g x σ H' fun σ2 H2=>tb { D with nx:=N,ct:=N,bk:=D.nx } σ2 H2)
noncomputable def zhC(fp:List Addr)(h:Heap):List (Addr×Obj):=fp.filterMap fun b=>(h.get? b).map fun o=>(b,o)
theorem zcZ{fp:List Addr}{h:Heap}{b:Addr}{o:Obj}(hb:b∈fp)(e:h.get? b=some o):(b,o)∈zhC fp h:=List.mem_filterMap.mpr ⟨b,hb,by rw[e];rfl⟩
theorem zkE{fp:List Addr}{h:Heap}{p:Addr×Obj}(hp:p∈zhC fp h):p.1∈fp∧h.get? p.1=some p.2:=by
 obtain⟨b,hb,e⟩:=List.mem_filterMap.mp hp
 cases q:h.get? b with
 | none=>rw[q] at e;cases e
 | some o=>
  rw[q] at e
  have e':(b,o)=p:=Option.some.inj e
  subst e'
  exact⟨hb,q⟩
theorem Inv.pinned{pins:List (Addr×Obj)}{σ:St}{H:Hp}{s:Shared}{fp:List Addr}(I:Inv X pins σ H s)(hf:∀b∈fp,FpOk X pins H b)(ho:∀b∈fp,∃o,s.heap.get? b=some o∧∀v,o.data≠.cell v):Inv X (pins++zhC fp s.heap) σ H s:=
 I.pins_of fun p hp=>(List.mem_append.mp hp).elim (fun z=>I.pin p (List.mem_append_right _ z)) fun z=>by
  obtain⟨hb,e⟩:=zkE z
  obtain⟨f0,f1,f2,_⟩:=hf p.1 hb
  obtain⟨o,e',d⟩:=ho p.1 hb
  rw[e] at e';cases e'
  exact⟨e,f0,f1,f2,d⟩
theorem Inv.unpinned{pins pl:List (Addr×Obj)}{σ:St}{H:Hp}{s:Shared}(I:Inv X (pins++pl) σ H s):Inv X pins σ H s:=I.pins_of fun p hp=>I.pin p (List.mem_append_right _ (List.mem_append_left _ hp))
theorem zns{iter:Expr}{body:List Stmt}{wi:TI}{g:TG}{tb:TS}{pos:Pos}(hp:PassesOwn (model X.prog X.w) X.A X.env X.xe)(hc:X.calm=true)(hi:PI X tg iter wi)(hg:PG X tg g)(hb:PSs X body tb)
  (hs:∀x,foldedSetIterable iter X.env x=pure x:=by intro _;rfl):PS X (.For tg iter body [] pos) (zrH wi g tb):=by
 intro pins s σ H D I h
 refine wpAny_For (thn (hi pins s σ H _ I h) fun v s1 h1=>thn h1 fun itv s2 h2=>?_) hs
 obtain⟨it,fp,tn,J,H2,e,I2,T,st2,f2,W,⟨m0,w0⟩,turn⟩:=h2
 subst e
 -- what stays true of the iterator's objects through the loop
 have stat:∀{H':Hp},(∀b∈fp,H' b=none)→∀b∈fp,FpOk X pins H' b:=fun hn b hb=>⟨hn b hb,(f2 b hb).2⟩
 refine codeAny_forLoop_any (fun n s'=>∃i σ' H',Inv X pins σ' H' s'∧tn i s'.heap∧(∀b∈fp,H' b=none)∧W i n σ' H') ?_ m0 ⟨0,σ,H2,I2,st2,fun b hb=>(f2 b hb).1,w0⟩
 rintro n s3 ⟨i,σ3,H3,I3,st3,fr3,w3⟩
 rcases turn i n σ3 H3 w3 with⟨stop,qn⟩ | ⟨go,N,hN,step⟩
 ·refine wpAny_passesOwn hp (thn (T.done X rfl rfl rfl hc i pins s3 σ3 H3 X.xe I3 (stat fr3) st3 stop) fun r s4 ⟨hr,I4⟩=>?_)
  subst hr
  exact wpAny_execs_nil ⟨σ3,H3,I4,qn⟩
 ·refine wpAny_passesOwn hp (thn (T.item X rfl rfl rfl hc i pins s3 σ3 H3 X.xe I3 (stat fr3) st3 go) fun r s4 ⟨u,hr,h4⟩=>?_)
  subst hr
  refine wpAny_passesOwn hp (thn h4 fun _ s5 ⟨x,H5,I5,r5,y5,st5,fr5⟩=>?_)
  have I5':=I5.pinned (stat fr5) (T.obj _ _ st5)
  refine wpAny_passesOwn hp (thn (hg _ s5 σ3 H5 x u _ I5' r5 (step x H5 y5)) fun _ s6 ⟨σ6,H6,I6,q6⟩=>?_)
  refine wpAny_passesOwn hp (thn (hb _ s6 σ6 H6 _ I6 q6) fun f s7 q7=>?_)
  have again:∀{σ7:St} {H7:Hp},Inv X (pins++zhC fp s5.heap) σ7 H7 s7→N σ7 H7→∃m,m<n∧∃i σ' H',Inv X pins σ' H' s7∧tn i s7.heap∧(∀b∈fp,H' b=none)∧W i m σ' H':=fun{σ7 H7} I7 n7=>by
   obtain⟨m',hm,w7⟩:=hN σ7 H7 n7
   refine⟨m',hm,i+1,σ7,H7,I7.unpinned,T.keep _ _ _ st5 fun b hb o e=>(I7.pin (b,o) (List.mem_append_right _ (List.mem_append_right _ (zcZ hb e)))).1,fun b hb=>?_,w7⟩
   obtain⟨o,e,d⟩:=T.obj _ _ st5 b hb
   exact(I7.pin (b,o) (List.mem_append_right _ (List.mem_append_right _ (zcZ hb e)))).2.1
  cases f with
  | next=>obtain⟨σ7,H7,I7,n7⟩:=q7;exact again I7 n7
  | cont=>obtain⟨σ7,H7,I7,n7⟩:=q7;exact again I7 n7
  | brk=>obtain⟨σ7,H7,I7,q7⟩:=q7;exact⟨σ7,H7,I7.unpinned,q7⟩
  | ret v=>obtain⟨x7,σ7,H7,I7,r7,q7⟩:=q7;exact⟨x7,σ7,H7,I7.unpinned,r7,q7⟩
end
end L2
namespace L2
open PySem PySem.Spec PyProof.Rows
noncomputable abbrev R2:=V→V→Hp→VK→Prop
noncomputable def OpR(X:Cx)(f:Value→Value→Sem Value)(r:R2):Prop:=
 ∀(pins:List (Addr×Obj)) (s:Shared) (σ:St) (H:Hp) (x y:V) (v u:Value) (Q:VK),Inv X pins σ H s→RelV x v→RelV y u→r x y H Q→
  wpAny (model X.prog X.w) X.A (f v u) (EP X pins σ Q) X.xe s
noncomputable def UnR(X:Cx)(f:Value→Sem Value)(r:V→Hp→VK→Prop):Prop:=
 ∀(pins:List (Addr×Obj)) (s:Shared) (σ:St) (H:Hp) (x:V) (v:Value) (Q:VK),Inv X pins σ H s→RelV x v→r x H Q→
  wpAny (model X.prog X.w) X.A (f v) (EP X pins σ Q) X.xe s
noncomputable def CallR(X:Cx)(f:Value)(r:List V→Hp→VK→Prop):Prop:=
 ∀(pins:List (Addr×Obj)) (s:Shared) (σ:St) (H:Hp) (xs:List V) (us:List Value) (Q:VK),Inv X pins σ H s→Vals xs us→r xs H Q→
  wpAny (model X.prog X.w) X.A (call f us) (EP X pins σ Q) X.xe s
noncomputable def tOp(r:R2)(ta tb:TE):TE:=fun σ H Q=>ta σ H fun x H1=>tb σ H1 fun y H2=>r x y H2 Q
noncomputable def tUn(r:V→Hp→VK→Prop)(ta:TE):TE:=fun σ H Q=>ta σ H fun x H1=>r x H1 Q
noncomputable def rI(C:Int→Int→Prop)(g:Int→Int→V):R2:=fun x y H Q=>∃i j,x=.int i∧y=.int j∧C i j∧Q (g i j) H
noncomputable def rI0(g:Int→Int→V):R2:=fun x y H Q=>∃i j,x=.int i∧y=.int j∧Q (g i j) H
noncomputable def rU(g:Int→V):V→Hp→VK→Prop:=fun x H Q=>∃i,x=.int i∧Q (g i) H
section
variable {X:Cx} {a b c:Expr} {ta tb tc:TE} {pos:Pos}
theorem zqK(ha:PE X a ta)(hb:PE X b tb){pins:List (Addr×Obj)}{s:Shared}{σ:St}{H:Hp}{R:V→V→Hp→Prop}(I:Inv X pins σ H s)
  (h:ta σ H fun x H1=>tb σ H1 fun y H2=>R x y H2) {Q:Value→Shared→Prop} {f:Value→Value→Sem Value}
  (hf:∀v u s2 x y H2,Inv X pins σ H2 s2→RelV x v→RelV y u→R x y H2→wpAny (model X.prog X.w) X.A (f v u) Q X.xe s2) :
  wpAny (model X.prog X.w) X.A (eval a X.env) (fun v s₁=>wpAny (model X.prog X.w) X.A (eval b X.env) (fun u s₂=>wpAny (model X.prog X.w) X.A (f v u) Q X.xe s₂) X.xe s₁) X.xe s:=by
 refine thn (ha pins s σ H _ I h) fun v s1 ⟨x,H1,I1,r1,q1⟩=>?_
 refine thn (hb pins s1 σ H1 _ I1 q1) fun u s2 ⟨y,H2,I2,r2,q2⟩=>?_
 exact hf v u s2 x y H2 I2 r1 r2 q2
theorem zn3{op:Operator}{r:R2}(ho:OpR X (binaryOp op) r)(ha:PE X a ta)(hb:PE X b tb):PE X (.BinOp a op b pos) (tOp r ta tb):=by
 intro pins s σ H Q I h
 exact wpAny_BinOp (zqK ha hb I h fun v u s2 x y H2 I2 rx ry q=>ho pins s2 σ H2 x y v u Q I2 rx ry q)
theorem zqL{op:UnaryOp}{r:V→Hp→VK→Prop}(ho:UnR X (unaryOp op) r)(ha:PE X a ta):PE X (.UnaryOp op a pos) (tUn r ta):=by
 intro pins s σ H Q I h
 exact UnaryOp_ (thn (ha pins s σ H _ I h) fun v s1 ⟨x,H1,I1,r1,q1⟩=>ho pins s1 σ H1 x v Q I1 r1 q1)
theorem opI{f:Value→Value→Sem Value}{C:Int→Int→Prop}{g:Int→Int→Int}
  (rule:∀(i j:Int) (t u:Tok) (s:Shared) (Q:Value→Shared→Prop) (E:Value→Shared→Prop),C i j→Q (.int (g i j) s.toks) { s with toks:=s.toks+1 }→wpAny (model X.prog X.w) X.A (f (.int i t) (.int j u)) Q E s) :
  OpR X f (rI C fun i j=>.int (g i j)):=by
 intro pins s σ H x y v u Q I rx ry h
 obtain⟨i,j,rfl,rfl,hc,q⟩:=h
 obtain⟨t,rfl⟩:=rx
 obtain⟨t',rfl⟩:=ry
 exact rule i j t t' s _ _ hc ⟨.int (g i j),H,I.tok _,⟨_,rfl⟩,q⟩
theorem zrk{f:Value→Value→Sem Value}{g:Int→Int→Int}
  (rule:∀(i j:Int) (t u:Tok) (s:Shared) (Q:Value→Shared→Prop) (E:Value→Shared→Prop),Q (.int (g i j) s.toks) { s with toks:=s.toks+1 }→wpAny (model X.prog X.w) X.A (f (.int i t) (.int j u)) Q E s) :
  OpR X f (rI0 fun i j=>.int (g i j)):=by
 intro pins s σ H x y v u Q I rx ry h
 obtain⟨i,j,rfl,rfl,q⟩:=h
 obtain⟨t,rfl⟩:=rx
 obtain⟨t',rfl⟩:=ry
 exact rule i j t t' s _ _ ⟨.int (g i j),H,I.tok _,⟨_,rfl⟩,q⟩
theorem zqM{f:Value→Value→Sem Value}{g:Int→Int→Bool}
  (rule:∀(i j:Int) (t u:Tok) (s:Shared) (Q:Value→Shared→Prop) (E:Value→Shared→Prop),Q (.bool (g i j)) s→wpAny (model X.prog X.w) X.A (f (.int i t) (.int j u)) Q E s) :
  OpR X f (rI0 fun i j=>.bl (g i j)):=by
 intro pins s σ H x y v u Q I rx ry h
 obtain⟨i,j,rfl,rfl,q⟩:=h
 obtain⟨t,rfl⟩:=rx
 obtain⟨t',rfl⟩:=ry
 exact rule i j t t' s _ _ ⟨.bl (g i j),H,I,rfl,q⟩
noncomputable def zcH(i j:Int):Prop:=0<j∧j<1073741824
noncomputable def zkv(i j:Int):Prop:=0≤j∧j≤1000000∧i.natAbs<2 ^ 64
noncomputable def CMul(i j:Int):Prop:=(-(2 ^ 64)<i∧i<2 ^ 64)∨(-(2 ^ 64)<j∧j<2 ^ 64)
theorem CMul.ok{i j:Int}(h:CMul i j):IntMulOk i j:=by
 rcases h with⟨h1,h2⟩ | ⟨h1,h2⟩
 ·exact .of_left (intBits_le_64 h1 h2)
 ·exact .of_right (intBits_le_64 h1 h2)
theorem op_add:OpR X (binaryOp .Add) (rI0 fun i j=>.int (i+j)):=zrk fun _ _ _ _ _ _ _ q=>add_int q
theorem zpi:OpR X (binaryOp .Sub) (rI0 fun i j=>.int (i-j)):=zrk fun _ _ _ _ _ _ _ q=>sub_int q
theorem zpj:OpR X (binaryOp .Mult) (rI CMul fun i j=>.int (i*j)):=opI fun _ _ _ _ _ _ _ hc q=>mul_int q hc.ok
theorem zn4:OpR X (binaryOp .FloorDiv) (rI zcH fun i j=>.int (i/j)):=opI fun i j _ _ _ _ _ hc q=>by
 have h1:(0:Int)<j:=hc.1
 have h2:j<1073741824:=hc.2
 exact floordiv_int (by omega) (by rw[Int.fdiv_eq_ediv_of_nonneg i (by omega)];exact q) (.inl (PyProof.noPylong_small (by omega)))
theorem zpk:OpR X (binaryOp .Mod) (rI (fun _ j=>0<j) fun i j=>.int (i%j)):=opI fun i j _ _ _ _ _ hc q=>by
 have h1:(0:Int)<j:=hc
 exact mod_int' (by omega) (by rw[Int.fmod_eq_emod_of_nonneg i (by omega)];exact q)
theorem zpl:OpR X (binaryOp .Pow) (rI zkv fun i j=>.int (i ^ j.toNat)):=opI fun _ _ _ _ _ _ _ hc q=>pow_int_small hc.1 hc.2.1 hc.2.2 q
theorem unI{f:Value→Sem Value}{g:Int→Int}
  (rule:∀(i:Int) (t:Tok) (s:Shared) (Q:Value→Shared→Prop) (E:Value→Shared→Prop),Q (.int (g i) s.toks) { s with toks:=s.toks+1 }→wpAny (model X.prog X.w) X.A (f (.int i t)) Q E s) :
  UnR X f (rU fun i=>.int (g i)):=by
 intro pins s σ H x v Q I rx h
 obtain⟨i,rfl,q⟩:=h
 obtain⟨t,rfl⟩:=rx
 exact rule i t s _ _ ⟨.int (g i),H,I.tok _,⟨_,rfl⟩,q⟩
theorem zpm:UnR X (unaryOp .USub) (rU fun i=>.int (-i)):=unI fun _ _ _ _ _ q=>neg_int q
end
section
variable {X:Cx} {a b c:Expr} {ta tb tc:TE} {pos:Pos}
theorem zjb{pins:List (Addr×Obj)}{σ:St}{H:Hp}{s:Shared}{Q:VK}{k k':Bool}(I:Inv X pins σ H s)(q:Q (.bl k) H)(e:k=k'):EP X pins σ Q (.bool k') s:=by
 subst e
 exact⟨.bl k,H,I,rfl,q⟩
theorem op_lt:OpR X (compareOp .Lt) (rI0 fun i j=>.bl (decide (i<j))):=zqM fun _ _ _ _ _ _ _ q=>lt_int q
theorem ziE:OpR X (compareOp .LtE) (rI0 fun i j=>.bl (decide (i≤j))):=zqM fun _ _ _ _ _ _ _ q=>le_int q
theorem zqN:OpR X (compareOp .Gt) (rI0 fun i j=>.bl (decide (j<i))):=zqM fun _ _ _ _ _ _ _ q=>gt_int q
theorem zkF:OpR X (compareOp .Lt) (fun x y H Q=>∃i j,x=.str i∧y=.str j∧Q (.bl (decide (i.cps.toList<j.cps.toList))) H):=by
 intro pins s σ H x y v u Q I rx ry h
 obtain⟨i,j,rfl,rfl,q⟩:=h
 obtain⟨t,rfl⟩:=rx
 obtain⟨t',rfl⟩:=ry
 exact lt_str (zjb I q rfl)
theorem op_in_str:OpR X (compareOp .In) (fun x y H Q=>∃i j,x=.str i∧y=.str j∧Q (.bl (!(Builtin.Str.occurrences j i 0 j.length 1).isEmpty)) H):=by
 intro pins s σ H x y v u Q I rx ry h
 obtain⟨i,j,rfl,rfl,q⟩:=h
 obtain⟨t,rfl⟩:=rx
 obtain⟨t',rfl⟩:=ry
 exact in_str (zjb I q rfl)
theorem zpn:OpR X (compareOp .Is) (fun x y H Q=>y=.non∧Q (.bl (decide (x=.non))) H):=by
 intro pins s σ H x y v u Q I rx ry h
 obtain⟨rfl,q⟩:=h
 cases ry
 refine is_none_gen (zjb I q ?_)
 cases x<;>first
  | (cases rx;rfl)
  | (obtain⟨t,rfl⟩:=rx;rfl)
theorem zn5:OpR X (compareOp .IsNot) (fun x y H Q=>y=.non∧Q (.bl (!decide (x=.non))) H):=by
 intro pins s σ H x y v u Q I rx ry h
 obtain⟨rfl,q⟩:=h
 cases ry
 refine isnot_none_gen (zjb I q ?_)
 cases x<;>first
  | (cases rx;rfl)
  | (obtain⟨t,rfl⟩:=rx;rfl)
theorem OpR.or{f:Value→Value→Sem Value}{r r':R2}(h:OpR X f r)(h':OpR X f r'):OpR X f (fun x y H Q=>r x y H Q∨r' x y H Q):=by
 intro pins s σ H x y v u Q I rx ry q
 rcases q with q | q
 ·exact h pins s σ H x y v u Q I rx ry q
 ·exact h' pins s σ H x y v u Q I rx ry q
theorem znt(b:Expr){op:CmpOp}(h:op≠.In:=by decide)(h2:op≠.NotIn:=by decide):behindInMarks op b=false:=by
 have e1:(op==CmpOp.In)=false:=by cases op<;>first | rfl | exact absurd rfl h
 have e2:(op==CmpOp.NotIn)=false:=by cases op<;>first | rfl | exact absurd rfl h2
 cases b<;>simp[behindInMarks,e1,e2]
theorem zn6{op:CmpOp}{r:R2}(ho:OpR X (compareOp op) r)(ha:PE X a ta)(hb:PE X b tb)(hm:behindInMarks op b=false):PE X (.Compare a [op] [b] pos) (tOp r ta tb):=by
 intro pins s σ H Q I h
 exact wpAny_Compare1 (zqK ha hb I h fun v u s2 x y H2 I2 rx ry q=>ho pins s2 σ H2 x y v u Q I2 rx ry q) hm
noncomputable def zn7(t:TE):TT:=fun σ H Q=>t σ H fun x H'=>∃k,x=.bl k∧Q k H'
theorem zn8{op:CmpOp}{r:R2}(ho:OpR X (compareOp op) r)(ha:PE X a ta)(hb:PE X b tb)(hm:behindInMarks op b=false):PT X (.Compare a [op] [b] pos) (zn7 (tOp r ta tb)):=by
 intro pins s σ H Q I h
 refine wpAny_isTrue_Compare1 (thn (ha pins s σ H _ I h) fun v s1 ⟨x,H1,I1,r1,q1⟩=>thn (hb pins s1 σ H1 _ I1 q1) fun u s2 ⟨y,H2,I2,r2,q2⟩=>
  thn (ho pins s2 σ H2 x y v u _ I2 r1 r2 q2) fun c s3 ⟨z,H3,I3,r3,k,e,q3⟩=>?_) hm
 subst e
 cases r3
 exact wpAny_truthy_bool ⟨H3,I3,q3⟩
noncomputable def zkG(r r':R2)(ta tb tc:TE):TE:=fun σ H Q=>ta σ H fun x H1=>tb σ H1 fun y H2=>r x y H2 fun z H3=>∃k,z=.bl k∧
 (if k=true then tc σ H3 fun w' H4=>r' y w' H4 Q else Q (.bl false) H3)
theorem zmx{op op':CmpOp}{r r':R2}(ho:OpR X (compareOp op) r)(ho':OpR X (compareOp op') r')(ha:PE X a ta)(hb:PE X b tb)(hc:PE X c tc)
  (hm:lastMarks [op,op'] [b,c]=false:=by with_unfolding_all rfl):PE X (.Compare a [op,op'] [b,c] pos) (zkG r r' ta tb tc):=by
 intro pins s σ H Q I h
 refine Compare_chain (thn (ha pins s σ H _ I h) fun v s1 ⟨x,H1,I1,r1,q1⟩=>chain_link (thn (hb pins s1 σ H1 _ I1 q1) fun u s2 ⟨y,H2,I2,r2,q2⟩=>
  thn (ho pins s2 σ H2 x y v u _ I2 r1 r2 q2) fun d s3 ⟨z,H3,I3,r3,k,e,q3⟩=>?_)) hm
 subst e
 cases r3
 refine wpAny_truthy_bool ?_
 cases k with
 | false=>exact ite_ff ⟨.bl false,H3,I3,rfl,q3⟩
 | true=>exact ite_tt (chain_last (thn (hc pins s3 σ H3 _ I3 q3) fun w' s4 ⟨z',H4,I4,r4,q4⟩=>ho' pins s4 σ H4 y z' u w' Q I4 r2 r4 q4))
theorem zmy{op op':CmpOp}{r r':R2}(ho:OpR X (compareOp op) r)(ho':OpR X (compareOp op') r')(ha:PE X a ta)(hb:PE X b tb)(hc:PE X c tc)
  (hm:lastMarks [op,op'] [b,c]=false:=by with_unfolding_all rfl):PT X (.Compare a [op,op'] [b,c] pos) (zn7 (zkG r r' ta tb tc)):=by
 intro pins s σ H Q I h
 refine isTrue_chain (thn (ha pins s σ H _ I h) fun v s1 ⟨x,H1,I1,r1,q1⟩=>test_link (thn (hb pins s1 σ H1 _ I1 q1) fun u s2 ⟨y,H2,I2,r2,q2⟩=>
  thn (ho pins s2 σ H2 x y v u _ I2 r1 r2 q2) fun d s3 ⟨z,H3,I3,r3,k,e,q3⟩=>?_)) hm
 subst e
 cases r3
 refine wpAny_truthy_bool ?_
 cases k with
 | false=>
  obtain⟨k',e',q'⟩:=q3
  cases e'
  exact ite_ff ⟨H3,I3,q'⟩
 | true=>
  refine ite_tt (test_last (thn (hc pins s3 σ H3 _ I3 q3) fun w' s4 ⟨z',H4,I4,r4,q4⟩=>thn (ho' pins s4 σ H4 y z' u w' _ I4 r2 r4 q4) fun d' s5 ⟨z2,H5,I5,r5,k2,e2,q5⟩=>?_))
  subst e2
  cases r5
  exact wpAny_truthy_bool ⟨H5,I5,q5⟩
theorem zgz:(sizeLine:Nat)<2 ^ 63:=by rw[sizeLine_eq];decide
theorem op_add_str:OpR X (binaryOp .Add) (fun x y H Q=>∃i j,x=.str i∧y=.str j∧i.length+j.length≤sizeLine∧Q (.str (i++j)) H):=by
 intro pins s σ H x y v u Q I rx ry h
 obtain⟨i,j,rfl,rfl,hz,q⟩:=h
 obtain⟨t,rfl⟩:=rx
 obtain⟨t',rfl⟩:=ry
 exact add_str (fun t' tk=>⟨.str (i++j),H,I.tok _,⟨_,rfl⟩,q⟩) hz
theorem zcw{x:V}{us:List Value}(r:Vals [x] us):∃u,us=[u]∧RelV x u:=by
 cases r with
 | cons r1 r2=>cases r2;exact⟨_,rfl,r1⟩
theorem ziF{x y:V}{us:List Value}(r:Vals [x,y] us):∃u w',us=[u,w']∧RelV x u∧RelV y w':=by
 cases r with
 | cons r1 r2=>
  cases r2 with
  | cons r3 r4=>cases r4;exact⟨_,_,rfl,r1,r3⟩
theorem zkH(hc:X.calm=true):CallR X (.builtin "max") (fun xs H Q=>∃i j,xs=[.int i,.int j]∧Q (.int (if j>i then j else i)) H):=by
 intro pins s σ H xs us Q I r h
 obtain⟨i,j,rfl,q⟩:=h
 obtain⟨u,w',rfl,⟨t,rfl⟩,⟨t',rfl⟩⟩:=ziF r
 refine max_two_ints (I.ok.hd hc) fun h' tk k=>⟨_,H,I.kept k,?_,q⟩
 by_cases hj:j>i
 ·rw[if_pos hj,if_pos hj];exact⟨_,rfl⟩
 ·rw[if_neg hj,if_neg hj];exact⟨_,rfl⟩
theorem zkI(hc:X.calm=true):CallR X (.builtin "min") (fun xs H Q=>∃i j,xs=[.int i,.int j]∧Q (.int (if j<i then j else i)) H):=by
 intro pins s σ H xs us Q I r h
 obtain⟨i,j,rfl,q⟩:=h
 obtain⟨u,w',rfl,⟨t,rfl⟩,⟨t',rfl⟩⟩:=ziF r
 refine min_two_ints (I.ok.hd hc) fun h' tk k=>⟨_,H,I.kept k,?_,q⟩
 by_cases hj:j<i
 ·rw[if_pos hj,if_pos hj];exact⟨_,rfl⟩
 ·rw[if_neg hj,if_neg hj];exact⟨_,rfl⟩
theorem zkJ:CallR X (.type "int") (fun xs H Q=>(∃i,xs=[.int i]∧Q (.int i) H)∨∃k,xs=[.bl k]∧Q (.int (if k then 1 else 0)) H):=by
 intro pins s σ H xs us Q I r h
 rcases h with⟨i,rfl,q⟩ | ⟨k,rfl,q⟩
 ·obtain⟨u,rfl,t,rfl⟩:=zcw r
  exact call_int_int ⟨.int i,H,I,⟨_,rfl⟩,q⟩
 ·obtain⟨u,rfl,r1⟩:=zcw r
  cases r1
  exact call_int_bool ⟨.int (if k then 1 else 0),H,I.tok _,⟨_,rfl⟩,q⟩
end
end L2
namespace L2
open PySem PySem.Spec PyProof.Rows
structure ObjM (h:Heap) (x dx C:Addr) (mA:Str→Option Value):Prop where
 obj:h.get? x=some (PySem.W.instObj C dx)
 ns:h.Ns1 dx mA
 ne:dx≠x
theorem zkK{h:Heap}{dx:Addr}{mA:Str→Option Value}(n:h.Ns1 dx mA):∃od,h.get? dx=some od∧∀name,PySem.W.lookIn name od=some (mA name):=by
 obtain⟨o,es,ep,ho,hd,hk,_,hm⟩:=n
 refine⟨o,ho,fun name=>?_⟩
 have e:=hm name
 unfold nsFind findBy at e
 rw[←Array.find?_toList] at e
 unfold PySem.W.lookIn
 rw[hd]
 dsimp only
 split
 ·rename_i y q
  rw[q] at e
  exact congrArg some e
 ·rename_i q
  rw[q] at e
  have a:es.toList.any (·.refKey)=false:=by
   rw[List.any_eq_false]
   intro y hy
   obtain⟨z,t,hkey⟩:=hk y (Array.mem_toList_iff.mp hy)
   simp[DictEntry.refKey,hkey]
  have a':¬es.toList.any (·.refKey)=true:=by rw[a];exact Bool.false_ne_true
  rw[if_neg a']
  exact congrArg some e
theorem ObjM.look{h:Heap}{x dx C:Addr}{mA:Str→Option Value}(I:ObjM h x dx C mA):∃od,PySem.W.InstAt h x (PySem.W.instObj C dx) C (some od)∧∀name,PySem.W.lookIn name od=some (mA name):=
 let⟨od,ho,hl⟩:=zkK I.ns
 ⟨od,⟨I.obj,rfl,rfl,ho⟩,hl⟩
section
variable {prog:Program} {w:World} {A:Around} {E:Value→Shared→Prop} {s:Shared} {K:PySem.W.Frag} {x dx C f:Addr} {mA:Str→Option Value} {name:Str} {v:Value}
theorem zn9{expr:Bool}{Q:Value→Shared→Prop}(X:K.In s.heap)(I:ObjM s.heap x dx C mA)(hg:PySem.W.plainGet K C name=true)(hh:PySem.W.hasDictIn K C=true)
  (ha:PySem.W.findIn K (.ref C) name=some none) (hv:mA name=some v) (hv':PySem.W.handedIn v=true) (h:Q v { s with toks:=s.toks+1 }) :
  wpAny (model prog w) A (getAttr (.ref x) name expr) Q E s:=by
 obtain⟨od,J,hl⟩:=I.look
 exact PySem.W.get_value X J (PySem.W.plainGet_of hg).1 (PySem.W.findObj_own hh ha rfl (by rw[hl,hv])) hv' h
theorem zoa{ns:List Str}{Q:Unit→Shared→Prop}(X:K.In s.heap)(I:ObjM s.heap x dx C mA)
  (hs:PySem.W.findIn K (.ref C) "__setattr__"=some (some (.builtin "object.__setattr__"))) (hp:PySem.W.plainOver K C=true) (ht:PySem.W.takerIn K C name=some none) (hh:PySem.W.hasDictIn K C=true)
  (hw:PySem.Within mA ns) (hsz:ns.length≤sizeLine)
  (h:∀h',ObjM h' x dx C (fun y=>if y=name then some v else mA y)→Heap.SameBut dx s.heap h'→Q () { s with heap:=h',toks:=s.toks+2 }) :
  wpAny (model prog w) A (setAttr (.ref x) name v) Q E s:=by
 obtain⟨od,J,hl⟩:=I.look
 refine PySem.W.set_plain X J hs (PySem.W.osa_open (s:={ s with toks:=s.toks+1 }) (r:=none) X J hp ht fun b=>?_)
 obtain⟨cd,hc,hd'⟩:=PySem.W.any_some hh
 have hx:s.heap.get? x=some ⟨.ref C,some dx,.plain,#[]⟩:=I.obj
 refine wpAny_bind (wpAny_pure (wpAny_bind (wpAny_bind (wpAny_loadPart hx (wpAny_bind (PySem.W.Looks.here (s:={ s with toks:=s.toks+1 }) (PySem.W.looks_clsIn X hc) ?_))))))
 rw[hd']
 refine wpAny_pure (a:=some dx) (wpAny_bind (wpAny_pure (wpAny_bind ?_)))
 refine wpAny_nsSet1 (s:={ s with toks:=s.toks+1 }) I.ns fun h' hn2 hs2=>?_
 obtain⟨oD,esD,epD,hoD,hdD,hcD⟩:=hn2.count (PySem.Within.cons name v hw)
 refine wpAny_bind (wpAny_lookBehind hoD (by rw[hdD];exact pastItsLine_dict (Nat.le_trans hcD (by rw[List.length_cons];omega))) ?_)
 exact wpAny_pure (h _ ⟨(hs2.2 _ (Ne.symm I.ne)).trans I.obj,hn2,I.ne⟩ hs2)
theorem zmz{R:Result→Shared→Prop}{vs:List Value}{kw:List (Str×Value)}(X:K.In s.heap)(hm:PySem.W.makesIn K C=true)
  (hi:PySem.W.findIn K (.ref C) "__init__"=some (some (.ref f))) (hf:PySem.W.typeIn K (.ref f)=some (.type "function"))
  (h:codeAny (model prog w) (A.under (.builtin "type.__call__" ⟨.ref C::vs,kw⟩)) (.call (.ref f) ⟨.ref (s.heap.objs.size+1)::vs,kw⟩) (PySem.W.InitBack (s.heap.objs.size+1) R)
   { s with heap:=(s.heap.push PySem.W.emptyDict).push (PySem.W.instObj C s.heap.objs.size) }) :
  codeAny (model prog w) A (.call (.ref C) ⟨vs,kw⟩) R s:=by
 obtain⟨hh,g,d,t,os⟩:=s
 exact PySem.W.make_core (PySem.W.makes_of X hm) (PySem.W.looks_findIn X hi) (fun self=>PySem.W.bind_fn X self hf) (.inl rfl) h
end
noncomputable def zhy(f:Str)(v:V):List (Str×V)→List (Str×V)
 | []=>[(f,v)]
 | (g,x)::r=>if g=f then(g,v)::r else(g,x)::zhy f v r
theorem zfj(f g:Str)(v:V):∀fs:List (Str×V),(zhy f v fs).lookup g=if g=f then some v else fs.lookup g
 | []=>by
  show List.lookup g [(f,v)]=_
  by_cases h:g=f
  ·have hb:(g==f)=true:=beq_iff_eq.mpr h
   simp only[List.lookup,hb,if_pos h]
  ·have hb:(g==f)=false:=beq_eq_false_iff_ne.mpr h
   simp only[List.lookup,hb,if_neg h]
 | (k,x)::r=>by
  have ih:=zfj f g v r
  rw[show zhy f v ((k,x)::r)=(if k=f then(k,v)::r else(k,x)::zhy f v r) from rfl]
  by_cases hk:k=f
  ·rw[if_pos hk]
   by_cases h:g=k
   ·have hb:(g==k)=true:=beq_iff_eq.mpr h
    simp only[List.lookup,hb,if_pos (h.trans hk)]
   ·have hb:(g==k)=false:=beq_eq_false_iff_ne.mpr h
    simp only[List.lookup,hb,if_neg (fun e:g=f=>h (e.trans hk.symm))]
  ·rw[if_neg hk]
   by_cases h:g=k
   ·have hb:(g==k)=true:=beq_iff_eq.mpr h
    simp only[List.lookup,hb,if_neg (fun e:g=f=>hk (h.symm.trans e))]
   ·have hb:(g==k)=false:=beq_eq_false_iff_ne.mpr h
    simp only[List.lookup,hb]
    exact ih
theorem zfk(f:Str)(v:V):∀fs:List (Str×V),f∈(zhy f v fs).map (·.1)∧∀g,g∈fs.map (·.1)→g∈(zhy f v fs).map (·.1)
 | []=>⟨by simp[zhy],fun g h=>by simp at h⟩
 | (k,x)::r=>by
  obtain⟨i1,i2⟩:=zfk f v r
  rw[show zhy f v ((k,x)::r)=(if k=f then(k,v)::r else(k,x)::zhy f v r) from rfl]
  by_cases hk:k=f
  ·rw[if_pos hk]
   subst hk
   exact⟨by simp,fun g h=>by simpa using h⟩
  ·rw[if_neg hk]
   refine⟨?_,fun g h=>?_⟩
   ·rw[List.map_cons]
    exact List.mem_cons_of_mem _ i1
   ·rw[List.map_cons] at h ⊢
    rcases List.mem_cons.mp h with e | e
    ·exact List.mem_cons.mpr (.inl e)
    ·exact List.mem_cons_of_mem _ (i2 g e)
theorem zfl(f:Str)(v:V):∀fs:List (Str×V),(zhy f v fs).length≤fs.length+1
 | []=>by simp[zhy]
 | (k,x)::r=>by
  have ih:=zfl f v r
  rw[show zhy f v ((k,x)::r)=(if k=f then(k,v)::r else(k,x)::zhy f v r) from rfl]
  by_cases hk:k=f
  ·rw[if_pos hk,List.length_cons,List.length_cons];omega
  ·rw[if_neg hk,List.length_cons,List.length_cons];omega
theorem RelO.some_of{v:V}{o:Option Value}(r:RelO (some v) o):∃u,o=some u∧RelV v u:=by
 cases o with
 | none=>exact(show False from r).elim
 | some u=>exact⟨u,rfl,r⟩
theorem zkL{v:V}{u:Value}(r:RelV v u):PySem.W.handedIn u=true:=by
 cases v with
 | non=>cases (show u=Value.none from r);rfl
 | bl b=>cases (show u=Value.bool b from r);rfl
 | int i=>obtain⟨t,e⟩:=(show ∃t,u=Value.int i t from r);cases e;rfl
 | str x=>obtain⟨t,e⟩:=(show ∃t,u=Value.str x t from r);cases e;rfl
 | byt b=>obtain⟨t,e⟩:=(show ∃t,u=Value.bytes b t from r);cases e;rfl
 | flt b=>obtain⟨t,e⟩:=(show ∃t,u=Value.float b t from r);cases e;rfl
 | ref a=>cases (show u=Value.ref a from r);rfl
 | ty n=>cases (show u=Value.type n from r);rfl
section
variable {P:Program} {w:World} {H H':Hp} {h h':Heap} {a C dx:Addr} {fs fs':List (Str×V)}
theorem zkM(hok:HOk P w H h)(e:H a=some (.ins C dx fs)):∃mA,ObjM h a dx C mA∧(∀f,RelO (fs.lookup f) (mA f))∧PySem.Within mA (fs.map (·.1))∧fs.length≤1000∧H dx=some (.own a):=by
 obtain⟨d,z,ne,ob,mA,n,r,q⟩:=(show ObjOk P w H h a (.ins C dx fs) from hok a _ e)
 exact⟨mA,⟨ob,n,ne⟩,r,q,z,d⟩
end
structure Cls (K:PySem.W.Frag) (C:Addr):Prop where
 pg:PySem.W.plainGet K C Str.empty=true
 hd:PySem.W.hasDictIn K C=true
 po:PySem.W.plainOver K C=true
 sa:PySem.W.findIn K (.ref C) "__setattr__"=some (some (.builtin "object.__setattr__"))
theorem Cls.get{K:PySem.W.Frag}{C:Addr}(c:Cls K C)(f:Str):PySem.W.plainGet K C f=true:=c.pg
noncomputable def NoAttr(K:PySem.W.Frag)(C:Addr)(f:Str):Prop:=PySem.W.findIn K (.ref C) f=some none
theorem NoAttr.taker{K:PySem.W.Frag}{C:Addr}{f:Str}(n:NoAttr K C f):PySem.W.takerIn K C f=some none:=by
 unfold PySem.W.takerIn
 rw[show PySem.W.findIn K (.ref C) f=some none from n]
 rfl
section
variable {X:Cx} {pins:List (Addr×Obj)} {σ:St} {H:Hp} {s:Shared} {a C dx:Addr} {fs:List (Str×V)} {f:Str} {v:V} {A:Around} {E:Value→Shared→Prop}
theorem zjV{b:Bool}{Q:Value→Shared→Prop}(I:Inv X pins σ H s)(e:H a=some (.ins C dx fs))(c:Cls X.K C)(n:NoAttr X.K C f)(l:fs.lookup f=some v)
  (h:∀u s',Inv X pins σ H s'→RelV v u→Q u s'):wpAny (model X.prog X.w) A (getAttr (.ref a) f b) Q E s:=by
 obtain⟨mA,O,r,_,_,_⟩:=zkM I.hok e
 obtain⟨u,hu,ru⟩:=RelO.some_of (v:=v) (o:=mA f) (by rw[←l];exact r f)
 exact zn9 I.kIn O (c.get f) c.hd n hu (zkL ru) (h u _ (I.tok _) ru)
theorem zjW{y:V}{u:Value}{Q:Unit→Shared→Prop}(I:Inv X pins σ H s)(e:H a=some (.ins C dx fs))(c:Cls X.K C)(n:NoAttr X.K C f)(hl:fs.length<1000)(ry:RelV y u)
  (h:∀s',Inv X pins σ (upd H a (.ins C dx (zhy f y fs))) s'→Q () s'):wpAny (model X.prog X.w) A (setAttr (.ref a) f u) Q E s:=by
 obtain⟨mA,O,r,wi,_,ho⟩:=zkM I.hok e
 have hz:(fs.map (·.1)).length≤sizeLine:=by rw[List.length_map,sizeLine_eq];omega
 refine zoa I.kIn O c.sa c.po n.taker c.hd wi hz fun h' O' sb=>h _ ?_
 have hd:∃o,h'.get? dx=some o:=let⟨o,_,_,e',_⟩:=O'.ns;⟨o,e'⟩
 refine I.write (x:=a) (e:=dx) (by rw[e];exact True.intro) (.inr ho) (fun b q hb z=>(sb.2 b hb).trans z) hd ?_
 refine⟨by rw[zal O.ne];exact ho,?_,O.ne,O'.obj,_,O'.ns,fun g=>?_,fun g hg=>?_⟩
 ·have:=zfl f y fs;omega
 ·show RelO ((zhy f y fs).lookup g) (if g=f then some u else mA g)
  rw[zfj]
  by_cases q:g=f
  ·rw[if_pos q,if_pos q];exact ry
  ·rw[if_neg q,if_neg q];exact r g
 ·by_cases q:g=f
  ·rw[q];exact(zfk f y fs).1
  ·refine(zfk f y fs).2 g (wi g fun z=>hg ?_)
   show(if g=f then some u else mA g)=none
   rw[if_neg q];exact z
theorem Inv.made(I:Inv X pins σ H s):Inv X pins σ (upd (upd H s.heap.objs.size (.own (s.heap.objs.size+1))) (s.heap.objs.size+1) (.ins C s.heap.objs.size []))
  { s with heap:=(s.heap.push PySem.W.emptyDict).push (PySem.W.instObj C s.heap.objs.size) }:=by
 have e1:(s.heap.push PySem.W.emptyDict).get? s.heap.objs.size=some PySem.W.emptyDict:=Heap.get?_push_size s.heap rfl
 have e2:((s.heap.push PySem.W.emptyDict).push (PySem.W.instObj C s.heap.objs.size)).get? (s.heap.objs.size+1)=some (PySem.W.instObj C s.heap.objs.size):=by
  have:=Heap.get?_push_size (s.heap.push PySem.W.emptyDict) (o:=PySem.W.instObj C s.heap.objs.size) rfl
  rwa [Heap.size_push] at this
 have e3:(s.heap.push PySem.W.emptyDict).Ns s.heap.objs.size (fun _=>none):=⟨PySem.W.emptyDict,#[],_,e1,rfl,(fun e he=>absurd he (by simp)),fun _=>rfl⟩
 have I1:=I.laid (a:=s.heap.objs.size) (o:=.own (s.heap.objs.size+1)) (h':=s.heap.push PySem.W.emptyDict) (t':=s.toks) (fun b u q=>Heap.get?_push_of_some _ q) (Nat.le_refl _) ⟨_,e1⟩
 refine I1.laid (a:=s.heap.objs.size+1) (o:=.ins C s.heap.objs.size []) (t':=s.toks) (fun b u q=>Heap.get?_push_of_some _ q) (Nat.le_of_eq (Heap.size_push _ _)) ?_
 have ne:s.heap.objs.size≠s.heap.objs.size+1:=Nat.ne_of_lt (Nat.lt_succ_self _)
 refine⟨by rw[zal ne,zaq],Nat.zero_le _,ne,e2,fun _=>none,(Heap.Ns1.of_empty e3).at fun o q=>Heap.get?_push_of_some _ q,fun _=>True.intro,fun y hy=>absurd rfl hy⟩
theorem zob{prog:Program}{w:World}{env:Env}{e:Expr}{f:Str}{pos:Pos}{s:Shared}{Q:Value→Shared→Prop}(hb:attributeBase e f env (eval e env)=eval e env)
  (h:wpAny (model prog w) A (eval e env) (fun o s₁=>wpAny (model prog w) A (getAttr o f true) Q E s₁) E s):wpAny (model prog w) A (eval (.Attribute e f pos) env) Q E s:=
 Attribute_any_ h (by rw[arm_eval_Attribute,hb])
end
noncomputable def zrl(K:PySem.W.Frag)(ta:TE)(f:Str):TE:=fun σ H Q=>ta σ H fun x H1=>∃a C dx fs v,x=.ref a∧H1 a=some (.ins C dx fs)∧Cls K C∧NoAttr K C f∧fs.lookup f=some v∧Q v H1
noncomputable def zrI(K:PySem.W.Frag)(ta tv:TE)(f:Str):TS:=fun D σ H=>tv σ H fun y H1=>ta σ H1 fun x H2=>∃a C dx fs,x=.ref a∧H2 a=some (.ins C dx fs)∧Cls K C∧NoAttr K C f∧fs.length<1000∧
 D.nx σ (upd H2 a (.ins C dx (zhy f y fs)))
section
variable {X:Cx} {o e value:Expr} {f:Str} {pos pos' tpos:Pos} {ta tv:TE}
theorem znu(he:PE X e ta)(hb:attributeBase e f X.env (eval e X.env)=eval e X.env):PE X (.Attribute e f pos) (zrl X.K ta f):=by
 intro pins s σ H Q I h
 refine zob hb (thn (he pins s σ H _ I h) fun u s1 ⟨x,H1,I1,rx,a,C,dx,fs,v,ex,ea,c,n,l,q⟩=>?_)
 subst ex
 obtain rfl:u=Value.ref a:=rx
 exact zjV I1 ea c n l fun u' s2 I2 ru=>⟨v,H1,I2,ru,q⟩
theorem zpo(ha:PE X o ta)(hv:PE X value tv)(hs:swapsWith value (some (.Attribute o f pos')) pos.line X.env=pure false):PS X (.Assign [.Attribute o f pos'] value pos) (zrI X.K ta tv f):=by
 intro pins s σ H D I h
 refine plainObj_wpAny_Assign_Attribute (thn (hv pins s σ H _ I h) fun u s1 ⟨y,H1,I1,ry,q⟩=>thn (ha pins s1 σ H1 _ I1 q) fun ov s2 ⟨x,H2,I2,rx,a,C,dx,fs,ex,ea,c,n,l,q2⟩=>?_) hs
 subst ex
 obtain rfl:ov=Value.ref a:=rx
 exact zjW I2 ea c n l ry fun s3 I3=>⟨σ,_,I3,q2⟩
end
end L2
namespace L2
open PySem PySem.Spec PyProof.Rows
structure Room (k:Nat) (A:Around):Prop where
 hd:A.handled=none
 dp:A.depth+3*k+5<recursionLimit
 un:A.units+16*k+200<cLine
theorem Room.mono{j k:Nat}{A:Around}(r:Room k A)(h:j≤k):Room j A:=⟨r.hd,by have:=r.dp;omega,by have:=r.un;omega⟩
theorem Room.deeper{k:Nat}{A:Around}(r:Room (k+1) A)(env:Env):Room k (A.deeper env):=
 ⟨r.hd,by have:=r.dp;show A.depth+1+3*k+5<_;omega,by have:=r.un;show A.units+3+16*k+200<_;omega⟩
theorem zjX{A:Around}{C:Addr}{us:List Value}{kw:List (Str×Value)}:(A.under (.builtin "type.__call__" ⟨.ref C::us,kw⟩)).depth=A.depth+1:=by
 first | rfl | simp[Around.under,Code.weight,Code.isCreation,Code.isGuard,Code.isCaller,Code.frames,Code.isFrame,guardIds]
theorem zjY{A:Around}{C:Addr}{us:List Value}{kw:List (Str×Value)}:(A.under (.builtin "type.__call__" ⟨.ref C::us,kw⟩)).units=A.units+1:=by
 first | rfl | simp[Around.under,Code.cUnits,Code.frames,Code.isFrame]
theorem Room.make{k:Nat}{A:Around}(r:Room (k+1) A)(C:Addr)(us:List Value)(kw:List (Str×Value)):Room k (A.under (.builtin "type.__call__" ⟨.ref C::us,kw⟩)):=
 ⟨r.hd,by have:=r.dp;rw[zjX];omega,by have:=r.un;rw[zjY];omega⟩
theorem Room.depth{k:Nat}{A:Around}(r:Room k A):A.depth<recursionLimit:=by have:=r.dp;omega
theorem Room.units{k:Nat}{A:Around}(r:Room k A):A.units+64<cLine:=by have:=r.un;omega
noncomputable def zqO:TA:=fun _ H Q=>Q [] H
noncomputable def zoc(ta:TE)(tr:TA):TA:=fun σ H Q=>ta σ H fun x H1=>tr σ H1 fun xs H2=>Q (x::xs) H2
section
variable {X:Cx} {e:Expr} {es:List Expr} {te:TE} {t:TA} {pos:Pos}
theorem zcE:PA X [] zqO:=fun _ _ _ _ H Q I h=>Calls.spliced_nil ⟨[],H,I,.nil,h⟩
theorem zbp(ha:PE X e te)(hr:PA X es t)(hs:starEach (e::es) X.env=(false,eval e X.env)::starEach es X.env:=by rfl):PA X (e::es) (zoc te t):=by
 intro pos pins s σ H Q I h
 rw[hs]
 show wpAny _ _ (spliced ((false,eval e X.env)::backTo pos (starEach es X.env))) _ _ s
 refine Calls.spliced_cons (thn (ha pins s σ H _ I h) fun u s1 ⟨x,H1,I1,r1,q1⟩=>?_)
 exact thn (hr pos pins s1 σ H1 _ I1 q1) fun us s2 ⟨xs,H2,I2,r2,q2⟩=>⟨x::xs,H2,I2,.cons r1 r2,q2⟩
noncomputable def zrJ(t:TA):TE:=fun σ H Q=>t σ H fun xs H1=>xs.length≤sizeLine∧∀p,H1 p=none→Q (.ref p) (upd H1 p (.tup xs))
noncomputable def zqP(t:TA):TE:=fun σ H Q=>t σ H fun xs H1=>xs.length≤sizeLine∧∀p,H1 p=none→Q (.ref p) (upd H1 p (.lst xs))
theorem znv{x1}(h:PA X es t):PE X (.Tuple es x1 pos) (zrJ t):=by
 intro pins s σ H Q I hq
 refine wpAny_Tuple_spliced (thn (h pos pins s σ H _ I hq) fun us s1 ⟨xs,H1,I1,r,z,q⟩=>⟨by rw[←r.length];exact z,?_⟩)
 have hf:H1 s1.heap.objs.size=none:=I1.hok.fresh (Nat.le_refl _)
 refine⟨.ref s1.heap.objs.size,upd H1 s1.heap.objs.size (.tup xs),I1.laid (t':=s1.toks) (fun b u e=>Heap.get?_push_of_some _ e) (Nat.le_refl _) ?_,rfl,q _ hf⟩
 exact⟨z,us,r,⟨_,Heap.get?_push_size _ rfl,rfl,_,rfl⟩⟩
theorem zhD(h:PA X es t):PE X (.List es pos) (zqP t):=by
 intro pins s σ H Q I hq
 refine wpAny_List_spliced (thn (h pos pins s σ H _ I hq) fun us s1 ⟨xs,H1,I1,r,z,q⟩=>⟨by rw[←r.length];exact z,?_⟩)
 have hf:H1 s1.heap.objs.size=none:=I1.hok.fresh (Nat.le_refl _)
 refine⟨.ref s1.heap.objs.size,upd H1 s1.heap.objs.size (.lst xs),I1.laid (t':=s1.toks) (fun b u e=>Heap.get?_push_of_some _ e) (Nat.le_refl _) ?_,rfl,q _ hf⟩
 exact⟨z,us,0,r,Heap.get?_push_size _ rfl⟩
end
noncomputable abbrev Sp:=List V→Hp→VK→XK→Prop
noncomputable abbrev CXT:=List Env→Hp→Shared→XK→Value→Shared→Prop
structure Env0 (P:Program) (w:World) (K:PySem.W.Frag) (mg:Str→Option Value) (base:Heap) (A:Around) (outer:List Env) (s:Shared) (H:Hp):Prop where
 frames:A.frames=some outer
 mod:Mod K mg base
 bs:∀b o,base.get? b=some o→s.heap.get? b=some o∧H b=none
 bsz:base.objs.size≤s.heap.objs.size
 funs:s.heap.FunFrames base outer
 frf:∀b∈frs outer,H b=none
 hok:HOk P w H s.heap
 bare:AllBare s.gens
noncomputable def CE(outer:List Env)(P:Program)(w:World)(H:Hp)(s:Shared)(Q:VK)(u:Value)(s':Shared):Prop:=
 ∃v H',s'.os=s.os∧AllBare s'.gens∧Un (frs outer) [] H H' s.heap s'.heap∧HOk P w H' s'.heap∧RelV v u∧Q v H'
noncomputable def CR(CX:CXT)(outer:List Env)(P:Program)(w:World)(H:Hp)(s:Shared)(Q:VK)(E:XK)(r:Result)(s':Shared):Prop:=
 match r with
 | .ok (.ret u)=>CE outer P w H s Q u s'
 | .ok _=>False
 | .error e=>CX outer H s E e s'
structure FnOk (P:Program) (w:World) (K:PySem.W.Frag) (mg:Str→Option Value) (base:Heap) (CX:CXT) (k:Nat) (f:Addr) (fd:FuncData) (ps:List Str) (sp:Sp):Prop where
 len:∀vs H Q E,sp vs H Q E→vs.length=ps.length
 run:∀(A:Around) (outer:List Env) (s:Shared) (H:Hp) (args:Args) (us:List Value) (vs:List V) (Q:VK) (E:XK),Room k A→Env0 P w K mg base A outer s H→BindsTo s fd args (ps.zip us)→Vals vs us→sp vs H Q E→
  codeAny (model P w) A (.call (.ref f) args) (CR CX outer P w H s Q E) s
theorem Env0.make{P:Program}{w:World}{K:PySem.W.Frag}{mg:Str→Option Value}{base:Heap}{A:Around}{outer:List Env}{s:Shared}{H:Hp}(e:Env0 P w K mg base A outer s H)(C:Addr)(us:List Value)(kw:List (Str×Value)) :
  Env0 P w K mg base (A.under (.builtin "type.__call__" ⟨.ref C::us,kw⟩)) outer s H:=⟨by first | exact e.frames | (simpa[Around.under,Code.envs,Code.isFrame,pushEnvs] using e.frames),e.mod,e.bs,e.bsz,e.funs,e.frf,e.hok,e.bare⟩
section
variable {X:Cx} {pins:List (Addr×Obj)} {σ:St} {H:Hp} {s s':Shared}
theorem Inv.env0(I:Inv X pins σ H s):Env0 X.prog X.w X.K X.mg X.base X.A X.stack s H:=
 ⟨I.ok.frames,I.ok.mod,I.bs,Nat.le_trans I.ok.bsz I.sz,I.stack,I.stkFree,I.hok,I.bare⟩
theorem Inv.after{Q:VK}{u:Value}(I:Inv X pins σ H s)(h:CE X.stack X.prog X.w H s Q u s'):EP X pins σ Q u s':=by
 obtain⟨v,H',os,bare,un,hok,r,q⟩:=h
 obtain⟨hh,g,d,t,os'⟩:=s'
 obtain rfl:os'=s.os:=os
 exact⟨v,H',I.call (h':=hh) (g':=g) (d':=d) (t':=t) (ch:=[]) un hok bare (fun b z=>absurd z (by simp)),r,q⟩
end
noncomputable def zqQ(sp:Sp)(dvs:List V)(E:XK)(t:TA):TE:=fun σ H Q=>t σ H fun vs H1=>sp (vs++dvs) H1 Q E
noncomputable def zqR(C:Addr)(sp:Sp)(dvs:List V)(E:XK)(t:TA):TE:=fun σ H Q=>t σ H fun vs H1=>∀x dx,H1 x=none→H1 dx=none→dx≠x→
 sp (.ref x::(vs++dvs)) (upd (upd H1 dx (.own x)) x (.ins C dx [])) (fun v H2=>v=.non∧Q (.ref x) H2) E
noncomputable def Binds(K:PySem.W.Frag)(fd:FuncData)(ps:List Str)(ds:List Value):Prop:=
 ∀(s:Shared) (us:List Value),K.In s.heap→(us++ds).length=ps.length→BindsTo s fd ⟨us,[]⟩ (ps.zip (us++ds))
theorem Binds.all{K:PySem.W.Frag}{fd:FuncData}{ps:List Str}(h:∀us:List Value,us.length=ps.length→bindArgs fd ⟨us,[]⟩=pure (ps.zip us)):Binds K fd ps []:=fun s us _ hl=>by
 rw[List.append_nil] at hl ⊢
 exact .of_eq (h us hl)
noncomputable def zhE(CX:CXT)(X:Cx)(E:XK):Prop:=∀(pins:List (Addr×Obj)) (σ:St) (H:Hp) (s:Shared) (e:Value) (s':Shared),Inv X pins σ H s→CX X.stack H s E e s'→X.xe e s'
section
variable {X:Cx} {CX:CXT} {k:Nat} {f C:Addr} {fd:FuncData} {ps:List Str} {sp:Sp} {dvs:List V} {ds:List Value} {E:XK} {x m:Str} {p pos apos:Pos} {e o:Expr} {es:List Expr} {ta:TE} {t:TA}
theorem zpp{pins:List (Addr×Obj)}{σ:St}{H:Hp}{s:Shared}{Q:VK}{us:List Value}{vs:List V}(F:FnOk X.prog X.w X.K X.mg X.base CX k f fd ps sp)(hr:Room k X.A)(hb:Binds X.K fd ps ds)(hd:Vals dvs ds)(hx:zhE CX X E)
  (I:Inv X pins σ H s) (r:Vals vs us) (h:sp (vs++dvs) H Q E):wpAny (model X.prog X.w) X.A (call (.ref f) us) (EP X pins σ Q) X.xe s:=by
 have r2:Vals (vs++dvs) (us++ds):=r.append hd
 have hl:(us++ds).length=ps.length:=by rw[←r2.length];exact F.len _ _ _ _ h
 refine wpAny_call (codeAny_mono (F.run X.A X.stack s H ⟨us,[]⟩ (us++ds) (vs++dvs) Q E hr I.env0 (hb s us I.kIn hl) r2 h) fun r s' hq=>?_)
 cases r with
 | error e=>exact hx pins σ H s e s' I hq
 | ok fl=>
  cases fl with
  | ret u=>exact I.after hq
  | next=>exact False.elim hq
  | brk=>exact False.elim hq
  | cont=>exact False.elim hq
theorem zkN(F:FnOk X.prog X.w X.K X.mg X.base CX k f fd ps sp)(hr:Room k X.A)(hg:Gl X x)(hm:X.mg x=some (.ref f))(hk:PySem.W.keepIn X.K (.ref f)=true)(hb:Binds X.K fd ps ds)(hd:Vals dvs ds)(hx:zhE CX X E)
  (ha:PA X (e::es) t) (hdb:(x==("__debug__":Str))=false:=by decide) (he:starEach (e::es) X.env=(false,eval e X.env)::starEach es X.env:=by rfl) (hpl:(backTo pos (starEach es X.env)).any (·.1)=false:=by rfl) :
  PE X (.Call (.Name x p) (e::es) [] pos) (zqQ sp dvs E t):=by
 intro pins s σ H Q I h
 refine wpAny_Call_Name_kw (ziA I hg hm ?_ hdb)
 refine PySem.W.callWith_K (h₀:=X.base) I.ok.mod.kin hk (thn (ha pos pins s σ H _ I h) fun us s1 ⟨vs,H1,I1,r,q⟩=>⟨I1.kIn,?_⟩) he hpl
 exact zpp F hr hb hd hx I1 r q
structure Mk (K:PySem.W.Frag) (C f:Addr):Prop where
 makes:PySem.W.makesIn K C=true
 init:PySem.W.findIn K (.ref C) "__init__"=some (some (.ref f))
 fn:PySem.W.isFn K (.ref f)=true
 kp:PySem.W.keepIn K (.ref C)=true
theorem zmA{pins:List (Addr×Obj)}{σ:St}{H:Hp}{s:Shared}{Q:VK}{us:List Value}{vs:List V}(M:Mk X.K C f)(F:FnOk X.prog X.w X.K X.mg X.base CX k f fd ps sp)(hr:Room (k+1) X.A)(hb:Binds X.K fd ps ds)(hd:Vals dvs ds)
  (hx:zhE CX X E) (I:Inv X pins σ H s) (r:Vals vs us)
  (h:∀x dx,H x=none→H dx=none→dx≠x→sp (.ref x::(vs++dvs)) (upd (upd H dx (.own x)) x (.ins C dx [])) (fun v H2=>v=.non∧Q (.ref x) H2) E) :
  wpAny (model X.prog X.w) X.A (call (.ref C) us) (EP X pins σ Q) X.xe s:=by
 have hq:=h (s.heap.objs.size+1) s.heap.objs.size (I.hok.fresh (Nat.le_succ _)) (I.hok.fresh (Nat.le_refl _)) (Nat.ne_of_lt (Nat.lt_succ_self _))
 have I2:=Inv.made (C:=C) I
 have r2:Vals (V.ref (s.heap.objs.size+1)::(vs++dvs)) (Value.ref (s.heap.objs.size+1)::(us++ds)):=.cons rfl (r.append hd)
 have hl:(Value.ref (s.heap.objs.size+1)::us++ds).length=ps.length:=by
  have e:=r2.length
  rw[F.len _ _ _ _ hq] at e
  exact e.symm
 refine wpAny_call (zmz (f:=f) I.kIn M.makes M.init (beq_iff_eq.mp M.fn) (codeAny_mono (F.run _ X.stack _ _ ⟨Value.ref (s.heap.objs.size+1)::us,[]⟩ (Value.ref (s.heap.objs.size+1)::(us++ds)) _ _ E (hr.make C us [])
  (I2.env0.make C us []) (hb _ (Value.ref (s.heap.objs.size+1)::us) I2.kIn hl) r2 hq) fun r s' hq'=>?_))
 cases r with
 | error e=>exact hx pins σ _ _ e s' I2 hq'
 | ok fl=>
  cases fl with
  | ret u=>
   obtain⟨v,H',I3,rv,ev,q3⟩:=I2.after hq'
   subst ev
   exact⟨rv,⟨V.ref (s.heap.objs.size+1),H',I3,rfl,q3⟩⟩
  | next=>exact False.elim hq'
  | brk=>exact False.elim hq'
  | cont=>exact False.elim hq'
theorem zod(M:Mk X.K C f)(F:FnOk X.prog X.w X.K X.mg X.base CX k f fd ps sp)(hr:Room (k+1) X.A)(hg:Gl X x)(hm:X.mg x=some (.ref C))(hb:Binds X.K fd ps ds)(hd:Vals dvs ds)(hx:zhE CX X E)
  (ha:PA X (e::es) t) (hdb:(x==("__debug__":Str))=false:=by decide) (he:starEach (e::es) X.env=(false,eval e X.env)::starEach es X.env:=by rfl) (hpl:(backTo pos (starEach es X.env)).any (·.1)=false:=by rfl) :
  PE X (.Call (.Name x p) (e::es) [] pos) (zqR C sp dvs E t):=by
 intro pins s σ H Q I h
 refine wpAny_Call_Name_kw (ziA I hg hm ?_ hdb)
 refine PySem.W.callWith_K (h₀:=X.base) I.ok.mod.kin M.kp (thn (ha pos pins s σ H _ I h) fun us s1 ⟨vs,H1,I1,r,q⟩=>⟨I1.kIn,?_⟩) he hpl
 exact zmA M F hr hb hd hx I1 r q
end
structure FnScope (N P:List Str) (sc:Scope):Prop where
 kind:sc.kind=.function
 co:sc.isCoroutine=false
 gen:sc.isGenerator=false
 nd:N.Nodup
 pre:N.take P.length=P
 par:∀x∈P,sc.names.lookup x=some .local∨sc.names.lookup x=some .cell
 nofree:∀y∈sc.names,y.2≠.free
theorem zhF{kindOf:Str→Option NameKind}{x:Str}:∀{binds:List (Str×Value)} {m:Str→Option Value},(∀v,(x,v)∉binds)→bindL kindOf binds m x=m x
 | [],_,_=>rfl
 | (n,v)::r,m,h=>by
  unfold bindL
  rw[zhF fun w hw=>h w (List.mem_cons_of_mem _ hw)]
  split
  ·have:x≠n:=by rintro rfl;exact h v List.mem_cons_self
   simp[this]
  ·rfl
theorem zhG{kindOf:Str→Option NameKind}{x:Str}:∀{binds:List (Str×Value)} {m:Str→Option Value},(∀v,(x,v)∉binds)→bindC kindOf binds m x=m x
 | [],_,_=>rfl
 | (n,v)::r,m,h=>by
  unfold bindC
  rw[zhG fun w hw=>h w (List.mem_cons_of_mem _ hw)]
  split
  ·rfl
  ·have:x≠n:=by rintro rfl;exact h v List.mem_cons_self
   simp[this]
theorem zhH{kindOf:Str→Option NameKind}{x:Str}{v:Value}:∀{P:List Str} {vs:List Value} {i:Nat} {m:Str→Option Value},P.Nodup→P[i]?=some x→vs[i]?=some v→kindOf x=some .local→
  bindL kindOf (P.zip vs) m x=some v
 | [],_,_,_,_,h,_,_=>by simp at h
 | _::_,[],_,_,_,_,h,_=>by simp at h
 | p::P,w::vs,0,m,nd,h1,h2,hk=>by
  simp at h1 h2;subst h1;subst h2
  show bindL kindOf ((p,w)::P.zip vs) m p=_
  unfold bindL
  rw[zhF fun v hv=>(List.nodup_cons.mp nd).1 (List.of_mem_zip hv).1,if_pos hk]
  simp
 | p::P,w::vs,i+1,m,nd,h1,h2,hk=>by
  show bindL kindOf ((p,w)::P.zip vs) m x=_
  unfold bindL
  exact zhH (i:=i) (List.nodup_cons.mp nd).2 (by simpa using h1) (by simpa using h2) hk
theorem zhI{kindOf:Str→Option NameKind}{x:Str}{v:Value}:∀{P:List Str} {vs:List Value} {i:Nat} {m:Str→Option Value},P.Nodup→P[i]?=some x→vs[i]?=some v→kindOf x≠some .local→
  bindC kindOf (P.zip vs) m x=some v
 | [],_,_,_,_,h,_,_=>by simp at h
 | _::_,[],_,_,_,_,h,_=>by simp at h
 | p::P,w::vs,0,m,nd,h1,h2,hk=>by
  simp at h1 h2;subst h1;subst h2
  show bindC kindOf ((p,w)::P.zip vs) m p=_
  unfold bindC
  rw[zhG fun v hv=>(List.nodup_cons.mp nd).1 (List.of_mem_zip hv).1,if_neg hk]
  simp
 | p::P,w::vs,i+1,m,nd,h1,h2,hk=>by
  show bindC kindOf ((p,w)::P.zip vs) m x=_
  unfold bindC
  exact zhI (i:=i) (List.nodup_cons.mp nd).2 (by simpa using h1) (by simpa using h2) hk
noncomputable def zb8(N:List Str)(vs:List V):St:=vs.map some++List.replicate (N.length-vs.length) none
noncomputable def zjZ(CX:CXT)(P:Program)(w:World)(K:PySem.W.Frag)(mg:Str→Option Value)(base:Heap)(N:List Str)(qual:Str)(scope:Scope)(f:Addr)(cd:Value)(A:Around)(outer:List Env)(s:Shared)(H:Hp)(E:XK):Cx where
 prog:=P
 w:=w
 K:=K
 mg:=mg
 base:=base
 A:=A.deeper (envOfC qual scope s.heap.objs.size f cd)
 N:=N
 s₀:=s
 H₀:=H
 env:=envOfC qual scope s.heap.objs.size f cd
 outer:=outer
 stack:=envOfC qual scope s.heap.objs.size f cd::outer
 ex:=[]
 calm:=true
 fn:=fun _=>true
 pn:=[]
 xe:=fun e s'=>wpAny (model P w) (A.deeper (envOfC qual scope s.heap.objs.size f cd)) (leaving (envOfC qual scope s.heap.objs.size f cd) e) (fun _ s''=>CX outer H s E e s'') (fun e' s''=>CX outer H s E e' s'') s'
theorem zjc{sc:Scope}{n:Nat}{x:Str}(h:sc.names.lookup x=some .cell):∃c,(cellsFrom n sc.names []).lookup x=some c:=by
 have q:=PySem.W.cellsFrom_some sc.names n [] (.inl h)
 exact Option.isSome_iff_exists.mp q
theorem zkO{CX:CXT}{P:Program}{w:World}{K:PySem.W.Frag}{mg:Str→Option Value}{base:Heap}{N ps:List Str}{qual:Str}{scope:Scope}{f:Addr}{cd:Value}{A:Around}{outer:List Env}{s s1:Shared}{H:Hp}{E:XK}{us:List Value}{vs:List V}
  (S:FnScope N ps scope) (hd:A.handled=none) (e0:Env0 P w K mg base A outer s H) (hl:vs.length=ps.length) (r:Vals vs us)
  (x:InCallC s s.heap.objs.size (bindL (envOfC qual scope s.heap.objs.size f cd).kindOf (ps.zip us) fun _=>none) (cellsFrom (s.heap.objs.size+1) scope.names []) (bindC (envOfC qual scope s.heap.objs.size f cd).kindOf (ps.zip us) fun _=>none) s1) :
  Inv (zjZ CX P w K mg base N qual scope f cd A outer s H E) [] (zb8 N vs) H s1:=by
 have hpl:ps.length≤N.length:=by have:=congrArg List.length S.pre;rw[List.length_take] at this;omega
 obtain⟨h1,tk,rfl,hk⟩:=x.done
 have noA:∀b:Addr,b∉(zjZ CX P w K mg base N qual scope f cd A outer s H E).ex:=fun b z=>absurd (show b∈([]:List Addr) from z) (by simp)
 refine⟨⟨e0.mod,S.kind,rfl,rfl,Nat.le_refl _,fun y z c h1 h2=>?_,fun y hy=>?_,fun y c _ h=>?_,fun _=>hd,Around.frames_deeper e0.frames,.inr ⟨rfl,rfl⟩,fun b z=>absurd z (noA b),e0.bs,e0.bsz,fun b _ _=>noA b,fun b z=>absurd z (noA b),e0.funs,e0.frf⟩,
  rfl,e0.bare,Un.kept hk,⟨_,x.toInCall.ns,fun i y v h1 h2 h3=>?_⟩,fun y c h=>⟨_,x.cell y c h⟩,e0.hok.fresh (Nat.le_refl _),fun y c h=>?_,fun p hp=>absurd (show p∈([]:List (Addr×Obj)) from hp) (by simp),e0.hok.kept hk,?_⟩
 ·exact name_of_addr x.apart (PySem.mem_of_lookup h1) (PySem.mem_of_lookup h2)
 ·have hy:scope.names.lookup y=some .cell∨scope.names.lookup y=some .free:=hy
  rcases hy with hy | hy
  ·exact zjc hy
  ·exact absurd rfl (S.nofree _ (PySem.mem_of_lookup hy))
 ·exact Nat.le_of_lt (x.above y c (PySem.mem_of_lookup h))
 ·have hi:i<vs.length:=by
   unfold zb8 at h2
   by_cases hi:i<vs.length
   ·exact hi
   ·rw[List.getElem?_append_right (by simpa using hi)] at h2
    rw[List.getElem?_replicate] at h2
    split at h2<;>cases h2
  have ha:vs[i]?=some v:=by
   unfold zb8 at h2
   rw[List.getElem?_append_left (by simpa using hi),List.getElem?_map] at h2
   cases e:vs[i]? with
   | none=>rw[e] at h2;cases h2
   | some a=>rw[e] at h2;cases h2;rfl
  obtain⟨u,hu,rv⟩:=r.get ha
  have hp:ps[i]?=some y:=by
   rw[←S.pre,List.getElem?_take_of_lt (by omega)];exact h1
  have ndP:ps.Nodup:=by rw[←S.pre];exact S.nd.sublist (List.take_sublist _ _)
  refine⟨u,rv,?_⟩
  rcases S.par y (List.mem_of_getElem? hp) with k | k
  ·exact .inl ⟨k,zhH ndP hp hu k⟩
  ·obtain⟨c,e⟩:=zjc (n:=s.heap.objs.size+1) k
   refine .inr ⟨.inl k,c,e,?_⟩
   have q:=x.cell y c e
   rw[zhI ndP hp hu (by show scope.names.lookup y≠_;rw[k];decide)] at q
   exact q
 ·exact e0.hok.fresh (Nat.le_of_lt (x.above y c (PySem.mem_of_lookup h)))
 ·unfold zb8
  show _=N.length
  rw[List.length_append,List.length_map,List.length_replicate]
  omega
theorem zqS{CX:CXT}{P:Program}{w:World}{K:PySem.W.Frag}{mg:Str→Option Value}{base:Heap}{k:Nat}{f:Addr}{name qual:Str}{params:Arguments}{body:List Stmt}{scope:Scope}{dV kV doc pm cdv ct oc:Value}{an od:Option Addr}
  {osl:Array (Option Value)} {N ps:List Str} {sp:Sp} (lk:K.lookup f=some ⟨oc,od,.func (PySem.W.fnOf name qual params body scope dV kV doc pm an cdv ct),osl⟩) (hcd:PySem.W.codeIn K cdv qual=true) (S:FnScope N ps scope)
  (len:∀vs H Q E,sp vs H Q E→vs.length=ps.length)
  (hbody:∀(A:Around) (outer:List Env) (s:Shared) (H:Hp) (vs:List V) (Q:VK) (E:XK),Room k (A.deeper (envOfC qual scope s.heap.objs.size f cdv))→sp vs H Q E→
   ∃t,PSs (zjZ CX P w K mg base N qual scope f cdv A outer s H E) body t∧t { nx:=fun _ H'=>Q .non H',rt:=Q } (zb8 N vs) H) :
  FnOk P w K mg base CX (k+1) f (PySem.W.fnOf name qual params body scope dV kV doc pm an cdv ct) ps sp:=by
 refine⟨len,fun A outer s H args us vs Q E hr e0 hb r hsp=>?_⟩
 have hl:=len _ _ _ _ hsp
 have KX:K.In s.heap:=e0.mod.kin.keeps fun b o e=>(e0.bs b o e).1
 have lim:s.heap.NoLimit:=e0.mod.nolimit.keeps fun b o e=>(e0.bs b o e).1
 have hkind:∀y∈ps.zip us,scope.names.lookup y.1=some .local∨(scope.names.lookup y.1=some .cell∧((cellsFrom (s.heap.objs.size+1) scope.names []).lookup y.1).isSome=true):=fun⟨n,v⟩ hy=>by
  rcases S.par n (List.of_mem_zip hy).1 with q | q
  ·exact .inl q
  ·exact .inr ⟨q,PySem.W.cellsFrom_some _ _ _ (.inl q)⟩
 refine codeAny_call_function hr.depth (KX _ _ lk) rfl S.co S.gen rfl (PySem.W.codeRec_of KX hcd) (hb _ _ _ _ ?_)
 refine wpAny_newFunctionEnv_cells S.kind hkind fun env he s1 x=>?_
 subst he
 refine⟨lim.keeps x.toInCall.keep,codeAny_func ?_⟩
 obtain⟨t,ht,hq⟩:=hbody A outer s H vs Q E (hr.deeper _) hsp
 have I:Inv (zjZ CX P w K mg base N qual scope f cdv A outer s H E) [] (zb8 N vs) H s1:=zkO S hr.hd e0 hl r x
 refine wpAny_mono (ht [] s1 (zb8 N vs) H _ I hq) (fun fl s' hs=>?_) fun e s' hs=>hs
 have fin:∀{σ':St} {H':Hp} {v:V} {u:Value},Inv (zjZ CX P w K mg base N qual scope f cdv A outer s H E) [] σ' H' s'→RelV v u→Q v H'→CE outer P w H s Q u s':=
  fun{σ' H' v u} J rv q=>⟨v,H',J.os,J.bare,J.base,J.hok,rv,q⟩
 cases fl with
 | ret u=>
  obtain⟨v,σ',H',J,rv,q⟩:=hs
  exact fin J rv q
 | next=>
  obtain⟨σ',H',J,q⟩:=hs
  exact fin (v:=V.non) (u:=Value.none) J rfl q
 | brk=>
  obtain⟨_,_,_,q⟩:=hs
  exact False.elim q
 | cont=>
  obtain⟨_,_,_,q⟩:=hs
  exact False.elim q
end L2
namespace L2
open PySem PySem.Spec PyProof.Rows
section
variable {X:Cx} {x:Str} {p pos:Pos} {e:Expr} {es:List Expr} {t:TA} {id T:String} {r:List V→Hp→VK→Prop}
noncomputable def tCB(r:List V→Hp→VK→Prop)(t:TA):TE:=fun σ H Q=>t σ H fun vs H1=>r vs H1 Q
theorem zgS(hc:CallR X (.builtin id) r)(hg:Gl X x)(hm:X.mg x=none)(hv:bootBuiltins x=some (.builtin id))(ha:PA X (e::es) t)(hn:x≠"__name__":=by decide)(hdb:(x==("__debug__":Str))=false:=by decide)
  (he:starEach (e::es) X.env=(false,eval e X.env)::starEach es X.env:=by rfl) (hpl:(backTo pos (starEach es X.env)).any (·.1)=false:=by rfl):PE X (.Call (.Name x p) (e::es) [] pos) (tCB r t):=by
 intro pins s σ H Q I h
 refine wpAny_Call_Name_kw (zeI I hg hm hv ?_ hn hdb)
 exact PyProof.Rows.callWith_builtin1 (thn (ha pos pins s σ H _ I h) fun us s1 ⟨vs,H1,I1,r1,q1⟩=>hc pins s1 σ H1 vs us Q I1 r1 q1) he hpl
theorem zkP(hc:CallR X (.type T) r)(hg:Gl X x)(hm:X.mg x=none)(hv:bootBuiltins x=some (.type T))(ha:PA X (e::es) t)(hn:x≠"__name__":=by decide)(hdb:(x==("__debug__":Str))=false:=by decide)
  (he:starEach (e::es) X.env=(false,eval e X.env)::starEach es X.env:=by rfl) (hpl:(backTo pos (starEach es X.env)).any (·.1)=false:=by rfl):PE X (.Call (.Name x p) (e::es) [] pos) (tCB r t):=by
 intro pins s σ H Q I h
 refine wpAny_Call_Name_kw (zeI I hg hm hv ?_ hn hdb)
 exact PyProof.Rows.callWith_type1 (thn (ha pos pins s σ H _ I h) fun us s1 ⟨vs,H1,I1,r1,q1⟩=>hc pins s1 σ H1 vs us Q I1 r1 q1) he hpl
end
end L2
namespace HT
open PySem PyProof.Rows
section
variable {prog:Program} {w:World} {A:Around} {E:Value→Shared→Prop} {s:Shared}
noncomputable def sIx(n d:Nat):Option Int→Nat
 | none=>d
 | some v=>if v<0 then(v+(n:Int)).toNat else min v.toNat n
theorem sIx_le(n d:Nat)(hd:d≤n)(o:Option Int):sIx n d o≤n:=by
 cases o with
 | none=>exact hd
 | some v=>
  show(if v<0 then(v+(n:Int)).toNat else min v.toNat n)≤n
  by_cases hv:v<0
  ·rw[if_pos hv];omega
  ·rw[if_neg hv];exact Nat.min_le_right _ _
theorem clip_eq(v:Int)(n d:Nat):(if v<0 then max (v+(n:Int)) 0 else min v (n:Int))=((sIx n d (some v):Nat):Int):=by
 show(if v<0 then max (v+(n:Int)) 0 else min v (n:Int))=(((if v<0 then(v+(n:Int)).toNat else min v.toNat n):Nat):Int)
 by_cases hv:v<0
 ·simp only[if_pos hv];omega
 ·simp only[if_neg hv];omega
theorem zj0(lo hi:Option Int)(n:Nat):Builtin.Slice.sliceAdjust lo hi 1 (n:Int)=(((sIx n 0 lo:Nat):Int),((sIx n n hi:Nat):Int)):=by
 have h1:¬((1:Int)<0):=by omega
 unfold Builtin.Slice.sliceAdjust
 simp only[h1,if_false]
 refine Prod.ext ?_ ?_
 ·cases lo with
  | none=>rfl
  | some v=>exact clip_eq v n 0
 ·cases hi with
  | none=>rfl
  | some v=>exact clip_eq v n n
theorem zj1(i j:Nat):Builtin.Slice.slicePlaces (i:Int) (j:Int) 1=j-i:=by
 unfold Builtin.Slice.slicePlaces
 have h1:(1:Int)>0:=by omega
 simp only[h1,if_true,Int.ediv_one]
 split<;>omega
theorem zgA{v:Value}{o:Option Int}{Q:Option Int→Shared→Prop}(p:IsPart v o)(h:Q o s):wpAny (model prog w) A (Builtin.Slice.slicePartIndex v) Q E s:=by
 cases p with
 | none=>exact slicePart_none h
 | int i t=>exact slicePart_int h
theorem zeS{sl:Addr}{vl vu:Value}{lo hi:Option Int}{n:Nat}{Q:Int×Int×Nat→Shared→Prop}(hs:s.heap.IsSliceOf sl vl vu .none)(pl:IsPart vl lo)(pu:IsPart vu hi)
  (h:Q (((sIx n 0 lo:Nat):Int),1,sIx n n hi-sIx n 0 lo) s):wpAny (model prog w) A (Builtin.Slice.sliceApplied (.ref sl) (pure (n:Int))) Q E s:=by
 obtain⟨os,hos,hcs,hds⟩:=id hs
 unfold Builtin.Slice.sliceApplied Builtin.Slice.sliceFields
 refine wpAny_bind (wpAny_bind (wpAny_field hos hds (x:=vl) rfl (wpAny_bind (wpAny_field hos hds (x:=vu) rfl (wpAny_bind (wpAny_field hos hds (x:=.none) rfl (wpAny_pure ?_)))))))
 refine wpAny_bind (slicePart_none ?_)
 show wpAny _ _ (if ((1:Int)==0)=true then _ else _) _ _ s
 rw[if_neg (by decide)]
 refine wpAny_bind (zgA pl (wpAny_bind (zgA pu (wpAny_bind (wpAny_pure ?_)))))
 show wpAny _ _ (match Builtin.Slice.sliceAdjust lo hi 1 (n:Int) with | (lo,hi)=>pure (lo,(1:Int),Builtin.Slice.slicePlaces lo hi 1)) _ _ s
 rw[zj0 lo hi n]
 show wpAny _ _ (pure (((sIx n 0 lo:Nat):Int),(1:Int),Builtin.Slice.slicePlaces ((sIx n 0 lo:Nat):Int) ((sIx n n hi:Nat):Int) 1)) _ _ s
 rw[zj1]
 exact wpAny_pure h
theorem zmB(xs:Array Value)(i k:Nat):((List.range k).filterMap fun(m:Nat)=>xs[((i:Int)+(m:Int)*1).toNat]?).toArray=((xs.toList.drop i).take k).toArray:=by
 have e:(fun(m:Nat)=>xs[((i:Int)+(m:Int)*1).toNat]?)=fun m=>xs[i+m]?:=by
  funext m
  have:((i:Int)+(m:Int)*1).toNat=i+m:=by omega
  rw[this]
 rw[e]
 have:=pick_run xs i k
 rw[List.filterMap_map] at this
 have e2:((fun x=>xs[x]?)∘fun x=>i+x)=fun m=>xs[i+m]?:=rfl
 rw[e2] at this
 rw[this]
theorem getItem_tuple_cut{t sl:Addr}{items:Array Value}{vl vu:Value}{lo hi:Option Int}{Q:Value→Shared→Prop}(ht:IsTup s.heap t items)(hs:s.heap.IsSliceOf sl vl vu .none)(pl:IsPart vl lo)(pu:IsPart vu hi)
  (hw:¬(sIx items.size 0 lo=0∧sIx items.size items.size hi=items.size))
  (h:Q (.ref s.heap.objs.size) { s with heap:=s.heap.push { cls:=.type "tuple",data:=.seq ((items.toList.drop (sIx items.size 0 lo)).take (sIx items.size items.size hi-sIx items.size 0 lo)).toArray } })
  (hsz:items.size≤sizeLine):wpAny (model prog w) A (getItem (.ref t) (.ref sl)) Q E s:=by
 have htake:sizeOk (.seq ((items.toList.drop (sIx items.size 0 lo)).take (sIx items.size items.size hi-sIx items.size 0 lo)).toArray):=by
  show((items.toList.drop (sIx items.size 0 lo)).take (sIx items.size items.size hi-sIx items.size 0 lo)).toArray.size≤sizeLine
  rw[List.size_toArray,List.length_take,List.length_drop,Array.length_toList]
  omega
 have hj:sIx items.size items.size hi≤items.size:=sIx_le _ _ (Nat.le_refl _) hi
 obtain⟨os,hos,hcs,hds⟩:=id hs
 have hTs:s.TypeIs (.ref sl) "slice":=⟨os,hos,hcs⟩
 unfold getItem
 try with_reducible refine wpAny_holding ?_
 first | refine wpAny_bind (wpAny_pure ?_) | skip
 refine wpAny_bind (wpAny_sequenceKey ht.typeIs (by decide) ?_)
 refine wpAny_bind (wpAny_callSpecial?_slot (name:=Str.ofString "__getitem__") ht.typeIs PyProof.Rows.slot_tuple_getitem
  (wpAny_call_entry PyProof.Rows.slot_tuple_getitem ht.typeIs entry_tuple_getitem ?_ (args_tuple_getitem _ _)))
 show wpAny _ _ (Builtin.Tuple.tupleItemsOf (.ref t) >>= _) _ _ s
 refine wpAny_bind (tupleItemsOf_ ht ?_)
 refine wpAny_bind (wpAny_typeOf hTs ?_)
 rw[if_pos (by decide)]
 refine wpAny_bind (zeS hs pl pu ?_)
 have hno:¬((((sIx items.size 0 lo:Nat):Int)==0&&(1:Int)==1&&(sIx items.size items.size hi-sIx items.size 0 lo)==items.size)=true):=by
  intro q
  rw[Bool.and_eq_true,Bool.and_eq_true] at q
  have q1:((sIx items.size 0 lo:Nat):Int)=0:=eq_of_beq q.1.1
  have q2:sIx items.size items.size hi-sIx items.size 0 lo=items.size:=eq_of_beq q.2
  exact hw ⟨by omega,by omega⟩
 show wpAny _ _ (if (((sIx items.size 0 lo:Nat):Int)==0&&(1:Int)==1&&(sIx items.size items.size hi-sIx items.size 0 lo)==items.size)=true then _ else _) _ _ s
 rw[if_neg hno,zmB]
 first
  | exact wpAny_bind (m:=Builtin.Tuple.tupleExact _) (wpAny_newObj_type (wpAny_pure ⟨_,rfl,wpAny_pure h⟩) htake)
  | exact wpAny_bind (m:=Builtin.Tuple.tupleExact _) (wpAny_newObj_type (wpAny_bind (wpAny_pure (wpAny_pure ⟨_,rfl,wpAny_pure h⟩))) htake)
  | exact wpAny_bind (wpAny_bind (m:=Builtin.Tuple.tupleExact _) (wpAny_newObj_type (wpAny_pure (wpAny_pure ⟨_,rfl,wpAny_pure h⟩)) htake))
  | exact wpAny_bind (wpAny_bind (m:=Builtin.Tuple.tupleExact _) (wpAny_newObj_type (wpAny_pure ⟨_,rfl,wpAny_pure h⟩) htake))
end
end HT
namespace L2
open PySem PySem.Spec PyProof.Rows
noncomputable abbrev TO:=St→Hp→(Option Int→Hp→Prop)→Prop
noncomputable def PO(X:Cx)(e:Option Expr)(t:TO):Prop:=
 ∀(pins:List (Addr×Obj)) (s:Shared) (σ:St) (H:Hp) (Q:Option Int→Hp→Prop),Inv X pins σ H s→t σ H Q→
  wpAny (model X.prog X.w) X.A (evalPart e X.env) (fun u s'=>∃o H',Inv X pins σ H' s'∧IsPart u o∧Q o H') X.xe s
noncomputable def zoe:TO:=fun _ H Q=>Q none H
noncomputable def zqT(t:TE):TO:=fun σ H Q=>t σ H fun x H1=>∃i,x=.int i∧Q (some i) H1
theorem zc0{ns:List Int}:∀{us:List Value},Vals (ns.map V.int) us→IntsAre us ns:=by
 induction ns with
 | nil=>intro us r;rw[List.map_nil] at r;cases r;exact .nil
 | cons n ns ih=>
  intro us r
  rw[List.map_cons] at r
  cases r with
  | cons r1 r2=>
   obtain⟨t,e⟩:=r1
   subst e
   exact .cons n t (ih r2)
section
variable {X:Cx} {e:Expr} {te:TE} {lo hi:Option Expr} {tl th:TO} {pos p2:Pos}
theorem zof:PO X none zoe:=by
 intro pins s σ H Q I h
 rw[evalPart_none]
 exact wpAny_pure ⟨none,H,I,.none,h⟩
theorem zog(h:PE X e te):PO X (some e) (zqT te):=by
 intro pins s σ H Q I hw
 rw[evalPart_some]
 refine thn (h pins s σ H _ I hw) fun u s1 ⟨x,H1,I1,r1,q1⟩=>?_
 obtain⟨i,rfl,q⟩:=q1
 obtain⟨t,rfl⟩:=r1
 exact⟨some i,H1,I1,.int i t,q⟩
noncomputable def SlR(X:Cx)(r:V→Option Int→Option Int→Hp→VK→Prop):Prop:=
 ∀(pins:List (Addr×Obj)) (s:Shared) (σ:St) (H:Hp) (x:V) (v vl vu:Value) (lo hi:Option Int) (sl:Addr) (Q:VK),Inv X pins σ H s→RelV x v→s.heap.IsSliceOf sl vl vu .none→IsPart vl lo→IsPart vu hi→r x lo hi H Q→
  ∃T id,typeLookup (.type T) "__getitem__"=pure (some (.builtin id))∧s.TypeIs v T∧wpAny (model X.prog X.w) X.A (getItem v (.ref sl)) (EP X pins σ Q) X.xe s
theorem SlR.or{r r':V→Option Int→Option Int→Hp→VK→Prop}(h:SlR X r)(h':SlR X r'):SlR X (fun x lo hi H Q=>r x lo hi H Q∨r' x lo hi H Q):=by
 intro pins s σ H x v vl vu lo hi sl Q I rx hs pl pu q
 rcases q with q | q
 ·exact h pins s σ H x v vl vu lo hi sl Q I rx hs pl pu q
 ·exact h' pins s σ H x v vl vu lo hi sl Q I rx hs pl pu q
noncomputable def tSl(r:V→Option Int→Option Int→Hp→VK→Prop)(te:TE)(tl th:TO):TE:=fun σ H Q=>te σ H fun x H1=>tl σ H1 fun l H2=>th σ H2 fun u H3=>r x l u H3 Q
theorem zmC{r:V→Option Int→Option Int→Hp→VK→Prop}(hr:SlR X r)(he:PE X e te)(hl:PO X lo tl)(hu:PO X hi th):PE X (.Subscript e (.Slice lo hi none p2) pos) (tSl r te tl th):=by
 intro pins s σ H Q I h
 refine Subscript_ (thn (he pins s σ H _ I h) fun v s1 ⟨x,H1,I1,r1,q1⟩=>?_)
 refine wpAny_Slice (thn (hl pins s1 σ H1 _ I1 q1) fun vl s2 ⟨l,H2,I2,pl,q2⟩=>thn (hu pins s2 σ H2 _ I2 q2) fun vu s3 ⟨u,H3,I3,pu,q3⟩=>?_)
 rw[evalPart_none]
 refine wpAny_pure ?_
 have I4:Inv X pins σ H3 { s3 with heap:=s3.heap.push { cls:=.type "slice",data:=.fields #[vl,vu,.none] } }:=I3.kept (t':=s3.toks) fun b ob q=>Heap.get?_push_of_some _ q
 obtain⟨T,id,hT,ht,hg⟩:=hr pins { s3 with heap:=s3.heap.push { cls:=.type "slice",data:=.fields #[vl,vu,.none] } } σ H3 x v vl vu l u s3.heap.objs.size Q I4 r1 (Heap.IsSliceOf.new ..) pl pu q3
 show wpAny (model X.prog X.w) X.A (subscriptTail e (.Slice lo hi none p2) v (.ref s3.heap.objs.size)) (EP X pins σ Q) X.xe { s3 with heap:=s3.heap.push { cls:=.type "slice",data:=.fields #[vl,vu,.none] } }
 exact tail_any (ops:=[.ref s3.heap.objs.size,v]) ht hT hg (by with_unfolding_all rfl)
noncomputable def zmk(xs:List V)(lo hi:Option Int):List V:=(xs.drop (HT.sIx xs.length 0 lo)).take (HT.sIx xs.length xs.length hi-HT.sIx xs.length 0 lo)
theorem zfm(xs:List V)(lo hi:Option Int):(zmk xs lo hi).length≤xs.length:=by
 unfold zmk
 rw[List.length_take,List.length_drop]
 omega
noncomputable def zrK(K:PySem.W.Frag):V→Option Int→Option Int→Hp→VK→Prop:=fun x lo hi H Q=>∃a xs,x=.ref a∧SqT K H a xs∧
 ¬(HT.sIx xs.length 0 lo=0∧HT.sIx xs.length xs.length hi=xs.length)∧∀p,H p=none→Q (.ref p) (upd H p (.tup (zmk xs lo hi)))
theorem zpq:SlR X (zrK X.K):=by
 intro pins s σ H x v vl vu lo hi sl Q I rx hs pl pu h
 obtain⟨a,xs,rfl,hx,hw,q⟩:=h
 cases rx
 obtain⟨its,r,ht,hz⟩:=I.tuple hx
 have hlen:its.toArray.size=xs.length:=by rw[List.size_toArray];exact r.length.symm
 refine⟨"tuple",_,PyProof.Rows.slot_tuple_getitem.lookup,ht.typeIs,?_⟩
 refine HT.getItem_tuple_cut ht hs pl pu (by rw[hlen];exact hw) ?_ (by rw[hlen];exact hz)
 rw[hlen]
 refine⟨.ref s.heap.objs.size,_,I.laid (t':=s.toks) (o:=.tup (zmk xs lo hi)) (fun b ob q=>Heap.get?_push_of_some _ q) (Nat.le_refl _) ?_,rfl,q _ (I.hok.fresh (Nat.le_refl _))⟩
 exact⟨Nat.le_trans (zfm xs lo hi) hz,_,(r.drop (HT.sIx xs.length 0 lo)).take (HT.sIx xs.length xs.length hi-HT.sIx xs.length 0 lo),IsTup.new _ _⟩
end
end L2
namespace L2
open PySem PySem.Spec PyProof.Rows
noncomputable def ixN(n:Nat)(i:Int):Option Nat:=if 0≤i then(if i<n then some i.toNat else none) else if -(n:Int)≤i then some (i+n).toNat else none
noncomputable def atI{α:Type}(xs:List α)(i:Int):Option α:=(ixN xs.length i).bind fun j=>xs[j]?
theorem zkQ{n:Nat}{i:Int}{j:Nat}(h:ixN n i=some j):seqIndex? i n=some j∧j<n∧-(n:Int)≤i∧i<n:=by
 unfold ixN at h
 by_cases h0:0≤i
 ·rw[if_pos h0] at h
  by_cases h1:i<n
  ·rw[if_pos h1] at h
   have e:i.toNat=j:=Option.some.inj h
   exact⟨by rw[seqIndex_of h0 h1,e],by omega,by omega,h1⟩
  ·rw[if_neg h1] at h;cases h
 ·rw[if_neg h0] at h
  by_cases h1:-(n:Int)≤i
  ·rw[if_pos h1] at h
   have e:(i+n).toNat=j:=Option.some.inj h
   exact⟨by rw[seqIndex_neg (by omega) h1,e],by omega,h1,by omega⟩
  ·rw[if_neg h1] at h;cases h
theorem zd3{α:Type}{xs:List α}{i:Int}{v:α}(h:atI xs i=some v):∃j,seqIndex? i xs.length=some j∧xs[j]?=some v∧j<xs.length∧-(xs.length:Int)≤i∧i<xs.length:=by
 unfold atI at h
 cases e:ixN xs.length i with
 | none=>rw[e] at h;cases h
 | some j=>
  rw[e] at h
  obtain⟨h1,h2,h3,h4⟩:=zkQ e
  exact⟨j,h1,h,h2,h3,h4⟩
noncomputable def zgT(b:Expr):Prop:=∀o i,subscripted b false o i=operate [o,i] (getItem o i)
noncomputable def IxR(X:Cx)(r:R2):Prop:=
 ∀(value slice:Expr) (pins:List (Addr×Obj)) (s:Shared) (σ:St) (H:Hp) (x y:V) (v u:Value) (Q:VK),Inv X pins σ H s→RelV x v→RelV y u→r x y H Q→
  subscripted slice false v u=operate [v,u] (getItem v u)→wpAny (model X.prog X.w) X.A (subscriptTail value slice v u) (EP X pins σ Q) X.xe s
noncomputable def MtR(X:Cx)(id:String)(r:V→List V→Hp→VK→Prop):Prop:=
 ∀(pins:List (Addr×Obj)) (s:Shared) (σ:St) (H:Hp) (x:V) (xs:List V) (v:Value) (us:List Value) (Q:VK),Inv X pins σ H s→RelV x v→Vals xs us→r x xs H Q→
  wpAny (model X.prog X.w) X.A (call (.builtin id) (v::us)) (EP X pins σ Q) X.xe s
section
variable {X:Cx} {a b:Expr} {ta tb:TE} {pos:Pos}
theorem IxR.or{r r':R2}(h:IxR X r)(h':IxR X r'):IxR X (fun x y H Q=>r x y H Q∨r' x y H Q):=by
 intro value slice pins s σ H x y v u Q I rx ry q hs
 rcases q with q | q
 ·exact h value slice pins s σ H x y v u Q I rx ry q hs
 ·exact h' value slice pins s σ H x y v u Q I rx ry q hs
theorem zoh{r:R2}(hr:IxR X r)(ha:PE X a ta)(hb:PE X b tb)(hs:zgT b):PE X (.Subscript a b pos) (tOp r ta tb):=by
 intro pins s σ H Q I h
 exact Subscript_ (zqK ha hb I h fun v u s2 x y H2 I2 rx ry q=>hr a b pins s2 σ H2 x y v u Q I2 rx ry q (hs _ _))
noncomputable def zrm(K:PySem.W.Frag):R2:=fun x y H Q=>∃p xs i v,x=.ref p∧y=.int i∧SqL K H p xs∧atI xs i=some v∧Q v H
noncomputable def zrn(K:PySem.W.Frag):R2:=fun x y H Q=>∃p xs i v,x=.ref p∧y=.int i∧SqT K H p xs∧atI xs i=some v∧Q v H
noncomputable def zro:R2:=fun x y H Q=>∃z i c,x=.str z∧y=.int i∧z.length≤sizeLine∧atI z.cps.toList i=some c∧Q (.str ⟨#[c]⟩) H
theorem ix_list:IxR X (zrm X.K):=by
 intro value slice pins s σ H x y v u Q I rx ry h hs
 obtain⟨p,xs,i,z,rfl,rfl,hq,he,q⟩:=h
 cases rx
 obtain⟨t,rfl⟩:=ry
 obtain⟨its,r,pl,hz⟩:=I.list hq
 obtain⟨j,h1,h2,h3,h4,h5⟩:=zd3 he
 obtain⟨w,ew,rw'⟩:=r.get h2
 have hl:=r.length
 have hn:=zgz
 have fin:EP X pins σ Q w s:=⟨z,H,I,rw',q⟩
 by_cases h0:0≤i
 ·have hj:i.toNat=j:=by
   rw[seqIndex_of h0 h5] at h1
   exact Option.some.inj h1
  exact item_listR pl.isList h0 (by omega) (by rw[hj];simpa using ew) fin hs
 ·have hj:(i+(its.toArray.size:Int)).toNat=j:=by
   rw[seqIndex_neg (by omega) h4] at h1
   rw[List.size_toArray,←hl]
   exact Option.some.inj h1
  exact subscriptTail_builtinR (x:=w) pl.isList.typeIs slot_list_getitem.lookup
   (wpAny_getItem_list_neg (Q:=fun r s'=>r=w∧EP X pins σ Q r s') pl.isList (by omega) (by rw[List.size_toArray]<;>omega) (by omega) (by rw[hj];simpa using ew) ⟨rfl,fin⟩) hs
theorem ix_tup:IxR X (zrn X.K):=by
 intro value slice pins s σ H x y v u Q I rx ry h hs
 obtain⟨p,xs,i,z,rfl,rfl,hq,he,q⟩:=h
 cases rx
 obtain⟨t,rfl⟩:=ry
 obtain⟨its,r,pl,hz⟩:=I.tuple hq
 obtain⟨j,h1,h2,h3,h4,h5⟩:=zd3 he
 obtain⟨w,ew,rw'⟩:=r.get h2
 have hl:=r.length
 have hn:=zgz
 have fin:EP X pins σ Q w s:=⟨z,H,I,rw',q⟩
 exact subscriptTail_builtinR (x:=w) pl.typeIs slot_tuple_getitem.lookup
  (getItem_tuple (j:=j) (Q:=fun r s'=>r=w∧EP X pins σ Q r s') pl (by omega) (by omega) (by rw[List.size_toArray,←hl];exact h1) (by simpa using ew) ⟨rfl,fin⟩) hs
theorem zpr:IxR X zro:=by
 intro value slice pins s σ H x y v u Q I rx ry h hs
 obtain⟨z,i,c,rfl,rfl,hz,he,q⟩:=h
 obtain⟨t,rfl⟩:=rx
 obtain⟨t',rfl⟩:=ry
 obtain⟨j,h1,h2,h3,h4,h5⟩:=zd3 he
 have hl:z.cps.toList.length=z.length:=by simp[Str.length]
 rw[hl] at h1 h4 h5
 have hn:=zgz
 exact tail_any (typeIs_str s z t) slot_str_getitem.lookup (getItem_str (c:=c) (by
  have e1:decide (i < -(2 ^ 63:Int))=false:=decide_eq_false (by omega)
  have e2:decide (i≥2 ^ 63)=false:=decide_eq_false (by omega)
  rw[e1,e2,Bool.or_false]) (by rw[h1];simpa using h2) ⟨.str ⟨#[c]⟩,H,I.tok _,⟨_,rfl⟩,q⟩) hs
noncomputable def rIx(K:PySem.W.Frag):R2:=fun x y H Q=>zrm K x y H Q∨zrn K x y H Q∨zro x y H Q
theorem znw:IxR X (rIx X.K):=ix_list.or (ix_tup.or zpr)
theorem zj2(its:List Value)(n j:Nat)(u:Value):Obj.mapSeq (·.setIfInBounds j u) { cls:=.type "list",data:=.seq its.toArray n }={ cls:=.type "list",data:=.seq (its.set j u).toArray n }:=by
 simp[Obj.mapSeq]
theorem Inv.lst{pins:List (Addr×Obj)}{σ:St}{H:Hp}{s:Shared}{p:Addr}{xs:List V}(I:Inv X pins σ H s)(h:H p=some (.lst xs)) :
  ∃(its:List Value) (n:Nat),Vals xs its∧s.heap.get? p=some { cls:=.type "list",data:=.seq its.toArray n }∧xs.length≤sizeLine:=by
 obtain⟨z,its,n,r,e⟩:=I.hok p _ h
 exact⟨its,n,r,e,z⟩
theorem Inv.lstUpd{pins:List (Addr×Obj)}{σ:St}{H:Hp}{s:Shared}{p:Addr}{xs ys:List V}{its its':List Value}{n n':Nat}{f:Obj→Obj}(I:Inv X pins σ H s)(h:H p=some (.lst xs))
  (ho:s.heap.get? p=some { cls:=.type "list",data:=.seq its.toArray n }) (hf:f { cls:=.type "list",data:=.seq its.toArray n }={ cls:=.type "list",data:=.seq its'.toArray n' }) (r:Vals ys its') (hz:ys.length≤sizeLine) (t:Nat) :
  Inv X pins σ (upd H p (.lst ys)) { s with heap:=s.heap.update p f,toks:=t }:=by
 have e:(s.heap.update p f).get? p=some { cls:=.type "list",data:=.seq its'.toArray n' }:=by
  rw[Heap.get?_update_self f ho (by rw[hf]<;>rfl),hf]
 refine I.write (x:=p) (e:=p) (by rw[h];trivial) (.inl rfl) (fun b u hb q=>(Heap.get?_update_other _ _ (Ne.symm hb)).trans q) ⟨_,e⟩ ?_
 exact⟨hz,its',n',r,e⟩
noncomputable def zqU:V→V→V→Hp→(Hp→Prop)→Prop:=fun o i v H Q=>∃p xs k j,o=.ref p∧i=.int k∧H p=some (.lst xs)∧ixN xs.length k=some j∧Q (upd H p (.lst (xs.set j v)))
theorem zmD:zrj X zqU:=by
 intro pins s σ H o i v ov iv u Q I ro ri rv h
 obtain⟨p,xs,k,j,rfl,rfl,hp,hj,q⟩:=h
 cases ro
 obtain⟨t,rfl⟩:=ri
 obtain⟨its,n,r,ho,hz⟩:=I.lst hp
 obtain⟨h1,h2,h3,h4⟩:=zkQ hj
 have hl:=r.length
 have hn:=zgz
 have I':Inv X pins σ (upd H p (.lst (xs.set j v))) { s with heap:=s.heap.update p (Obj.mapSeq (·.setIfInBounds j u)) }:=
  I.lstUpd hp ho (zj2 its n j u) (r.set rv j) (by rw[List.length_set];exact hz) s.toks
 by_cases h0:0≤k
 ·have hk:k.toNat=j:=by
   rw[seqIndex_of h0 h4] at h1
   exact Option.some.inj h1
  exact PySem.W.ki_setAt ho h0 (by omega) (by rw[List.size_toArray,←hl];exact h4) (by rw[hk];exact⟨_,I',q⟩)
 ·have hk:(k+(its.toArray.size:Int)).toNat=j:=by
   rw[seqIndex_neg (by omega) h3] at h1
   rw[List.size_toArray,←hl]
   exact Option.some.inj h1
  exact PySem.W.ki_setBack ho (by omega) (by rw[List.size_toArray,←hl];exact h3) (by omega) (by rw[hk];exact⟨_,I',q⟩)
theorem zhJ(lo hi:Option Int)(n:Nat):(sliceBounds lo hi none n).1=((HT.sIx n 0 lo:Nat):Int)∧(sliceBounds lo hi none n).2.1=((HT.sIx n n hi:Nat):Int)∧(sliceBounds lo hi none n).2.2=1:=by
 refine⟨?_,?_,rfl⟩
 ·cases lo with
  | none=>simp[sliceBounds,HT.sIx]
  | some i=>
   simp only[sliceBounds,HT.sIx,Option.getD_none,show(1:Int)>0 by decide,if_true]
   by_cases h:i<0
   ·simp only[h,if_true]<;>omega
   ·simp only[h,if_false]<;>omega
 ·cases hi with
  | none=>simp[sliceBounds,HT.sIx]
  | some i=>
   simp only[sliceBounds,HT.sIx,Option.getD_none,show(1:Int)>0 by decide,if_true]
   by_cases h:i<0
   ·simp only[h,if_true]<;>omega
   ·simp only[h,if_false]<;>omega
theorem zgU(its:List Value)(lo hi:Option Int):slicePick its.toArray lo hi none=((its.drop (HT.sIx its.length 0 lo)).take (HT.sIx its.length its.length hi-HT.sIx its.length 0 lo)).toArray:=by
 obtain⟨h1,h2,h3⟩:=zhJ lo hi its.toArray.size
 unfold slicePick
 rw[h1,h2,h3]
 simp only[sliceRange_one,pick_run,List.size_toArray]<;>rfl
noncomputable def zrL(K:PySem.W.Frag):V→Option Int→Option Int→Hp→VK→Prop:=fun x lo hi H Q=>∃a xs,x=.ref a∧SqL K H a xs∧∀p,H p=none→Q (.ref p) (upd H p (.lst (zmk xs lo hi)))
theorem sl_list:SlR X (zrL X.K):=by
 intro pins s σ H x v vl vu lo hi sl Q I rx hs pl pu h
 obtain⟨a,xs,rfl,hx,q⟩:=h
 cases rx
 obtain⟨its,r,ht,hz⟩:=I.list hx
 have hlen:=r.length
 refine⟨"list",_,slot_list_getitem.lookup,ht.isList.typeIs,?_⟩
 refine wpAny_getItem_list_slice ht.isList hs pl pu .none (by simp) ?_ (by rw[List.size_toArray]<;>omega)
 rw[zgU,←hlen]
 refine⟨.ref s.heap.objs.size,_,I.laid (t':=s.toks) (o:=.lst (zmk xs lo hi)) (fun b ob q=>Heap.get?_push_of_some _ q) (Nat.le_refl _) ?_,rfl,q _ (I.hok.fresh (Nat.le_refl _))⟩
 exact⟨Nat.le_trans (zfm xs lo hi) hz,_,0,(r.drop (HT.sIx xs.length 0 lo)).take (HT.sIx xs.length xs.length hi-HT.sIx xs.length 0 lo),Heap.get?_push_size _ rfl⟩
noncomputable def zmE:V→Bool
 | .non=>true
 | .bl _=>true
 | .int _=>true
 | .str _=>true
 | _=>false
noncomputable def eqV:V→V→Bool
 | .non,.non=>true
 | .bl a,.bl b=>a==b
 | .bl a,.int b=>(if a then 1 else 0)==b
 | .int a,.bl b=>a==(if b then 1 else 0)
 | .int a,.int b=>a==b
 | .str a,.str b=>a==b
 | _,_=>false
theorem znx{A:Around}{s:Shared}{y x:V}{u v:Value}(ry:RelV y u)(rx:RelV x v)(fy:zmE y=true)(fx:zmE x=true):SeqAt.EqAt A s u v (eqV y x):=by
 cases y with
 | non=>
  cases ry
  cases x with
  | non=>cases rx;exact SeqAt.EqAt.same _
  | bl b=>cases rx;exact SeqAt.EqAt.none_bool b
  | int b=>obtain⟨t,rfl⟩:=rx;exact SeqAt.EqAt.none_int b t
  | str b=>obtain⟨t,rfl⟩:=rx;exact SeqAt.EqAt.none_str b t
  | _=>exact absurd (show false=true from fx) Bool.false_ne_true
 | bl a=>
  cases ry
  cases x with
  | non=>cases rx;exact SeqAt.EqAt.bool_none a
  | bl b=>cases rx;exact SeqAt.EqAt.bool_bool a b
  | int b=>obtain⟨t,rfl⟩:=rx;exact SeqAt.EqAt.bool_int a b t
  | str b=>obtain⟨t,rfl⟩:=rx;exact SeqAt.EqAt.bool_str a b t
  | _=>exact absurd (show false=true from fx) Bool.false_ne_true
 | int a=>
  obtain⟨t',rfl⟩:=ry
  cases x with
  | non=>cases rx;exact SeqAt.EqAt.int_none a t'
  | bl b=>cases rx;exact SeqAt.EqAt.int_bool a t' b
  | int b=>obtain⟨t,rfl⟩:=rx;exact SeqAt.EqAt.int_int a t' b t
  | str b=>obtain⟨t,rfl⟩:=rx;exact SeqAt.EqAt.int_str a t' b t
  | _=>exact absurd (show false=true from fx) Bool.false_ne_true
 | str a=>
  obtain⟨t',rfl⟩:=ry
  cases x with
  | non=>cases rx;exact SeqAt.EqAt.str_none a t'
  | bl b=>cases rx;exact SeqAt.EqAt.str_bool a t' b
  | int b=>obtain⟨t,rfl⟩:=rx;exact SeqAt.EqAt.str_int a t' b t
  | str b=>obtain⟨t,rfl⟩:=rx;exact SeqAt.EqAt.str_str a t' b t
  | _=>exact absurd (show false=true from fx) Bool.false_ne_true
 | _=>exact absurd (show false=true from fy) Bool.false_ne_true
theorem op_notIn_str:OpR X (compareOp .NotIn) (fun x y H Q=>∃i j,x=.str i∧y=.str j∧Q (.bl (!(!(Builtin.Str.occurrences j i 0 j.length 1).isEmpty))) H):=by
 intro pins s σ H x y v u Q I rx ry h
 obtain⟨i,j,rfl,rfl,q⟩:=h
 obtain⟨t,rfl⟩:=rx
 obtain⟨t',rfl⟩:=ry
 exact notIn_str ⟨.bl _,H,I,rfl,q⟩
theorem call_len_seq:CallR X (.builtin "len") (fun xs H Q=>∃p ys,xs=[.ref p]∧(SqL X.K H p ys∨SqT X.K H p ys)∧Q (.int ys.length) H):=by
 intro pins s σ H xs us Q I r h
 obtain⟨p,ys,rfl,hq,q⟩:=h
 obtain⟨u,rfl,rx⟩:=zcw r
 cases rx
 have hn:=zgz
 rcases hq with hq | hq
 ·obtain⟨its,r',pl,hz⟩:=I.list hq
  have hlen:=r'.length
  exact Calls.call_len_list pl.isList (by simp only[List.size_toArray]<;>omega) ⟨.int ys.length,H,I.tok _,⟨s.toks+1,by rw[List.size_toArray,hlen]⟩,q⟩
 ·obtain⟨its,r',pl,hz⟩:=I.tuple hq
  have hlen:=r'.length
  exact len_tuple pl (by simp only[List.size_toArray]<;>omega) ⟨.int ys.length,H,I.tok _,⟨s.toks+1,by rw[List.size_toArray,hlen]⟩,q⟩
theorem zhK:CallR X (.builtin "len") (fun xs H Q=>∃z,xs=[.str z]∧z.length≤sizeLine∧Q (.int z.length) H):=by
 intro pins s σ H xs us Q I r h
 obtain⟨z,rfl,hz,q⟩:=h
 obtain⟨u,rfl,t,rfl⟩:=zcw r
 have hn:=zgz
 exact len_str (by omega) ⟨.int z.length,H,I.tok _,⟨_,rfl⟩,q⟩
theorem CallR.or{f:Value}{r r':List V→Hp→VK→Prop}(h:CallR X f r)(h':CallR X f r'):CallR X f (fun xs H Q=>r xs H Q∨r' xs H Q):=by
 intro pins s σ H xs us Q I rs q
 rcases q with q | q
 ·exact h pins s σ H xs us Q I rs q
 ·exact h' pins s σ H xs us Q I rs q
theorem zhL:CallR X (.type "list") (fun xs H Q=>∃p ys,xs=[.ref p]∧(SqL X.K H p ys∨SqT X.K H p ys)∧∀l,H l=none→Q (.ref l) (upd H l (.lst ys))):=by
 intro pins s σ H xs us Q I r h
 obtain⟨p,ys,rfl,hq,q⟩:=h
 obtain⟨u,rfl,rx⟩:=zcw r
 cases rx
 have fin:∀(its:List Value),Vals ys its→ys.length≤sizeLine→∀(h':Heap) (c':Nat),(∀b o',s.heap.get? b=some o'→h'.get? b=some o')→
   h'.get? s.heap.objs.size=some { cls:=.type "list",dict:=none,data:=.seq its.toArray c',slots:=#[] }→EP X pins σ Q (.ref s.heap.objs.size) { s with heap:=h' }:=fun its r' hz h' c' kp e=>
  ⟨.ref s.heap.objs.size,_,I.laid (t':=s.toks) kp (Nat.le_refl _) (show ObjOk X.prog X.w _ h' _ (.lst ys) from⟨hz,its,c',r',e⟩),rfl,q _ (I.hok.fresh (Nat.le_refl _))⟩
 rcases hq with hq | hq
 ·obtain⟨its,r',pl,hz⟩:=I.list hq
  have hlen:=r'.length
  obtain⟨o,ho,hc,n,hd⟩:=pl.isList
  exact call_list_seq p (.inl rfl) ho hc hd (fun h' c' kp e=>fin its r' hz h' c' kp e) (by simp only[List.size_toArray]<;>omega)
 ·obtain⟨its,r',pl,hz⟩:=I.tuple hq
  have hlen:=r'.length
  obtain⟨o,ho,hc,n,hd⟩:=pl
  exact call_list_seq p (.inr rfl) ho hc hd (fun h' c' kp e=>fin its r' hz h' c' kp e) (by simp only[List.size_toArray]<;>omega)
noncomputable def tyV(K:PySem.W.Frag)(T:String)(x:V)(H:Hp):Prop:=match x with
 | .str _=>T="str"
 | .int _=>T="int"
 | .ref p=>(T="list"∧∃xs,SqL K H p xs)∨(T="tuple"∧∃o,K.lookup p=some o∧o.cls=.type "tuple"∧o.dict=none)∨
   (T="dict"∧((∃kvs ep,H p=some (.dK kvs ep))∨∃kvs bs,H p=some (.dT kvs bs)))∨(T="set"∧∃S n,H p=some (.set S n))
 | _=>False
theorem zny{pins:List (Addr×Obj)}{σ:St}{H:Hp}{s:Shared}{T:String}{x:V}{v:Value}(I:Inv X pins σ H s)(r:RelV x v)(ty:tyV X.K T x H) :
  s.TypeIs v T∧∀a,v=.ref a→∃ob,s.heap.get? a=some ob∧ob.dict=none:=by
 cases x with
 | str z=>
  obtain⟨t,rfl⟩:=r
  cases (show T="str" from ty)
  exact⟨typeIs_str s z t,fun _ e=>nomatch e⟩
 | int i=>
  obtain⟨t,rfl⟩:=r
  cases (show T="int" from ty)
  exact⟨typeIs_int s i t,fun _ e=>nomatch e⟩
 | ref p=>
  cases r
  rcases ty with⟨rfl,xs,hq⟩ | ⟨rfl,o,hk,hc,hd⟩ | ⟨rfl,hk⟩ | ⟨rfl,S,n,hk⟩
  ·obtain⟨its,_,pl,_⟩:=I.list hq
   refine⟨pl.isList.typeIs,fun a e=>?_⟩
   cases e
   obtain⟨o,n,e,c,hd,_⟩:=pl
   exact⟨o,e,hd⟩
  ·refine⟨⟨o,I.kIn p o hk,hc⟩,fun a e=>?_⟩
   cases e
   exact⟨o,I.kIn _ o hk,hd⟩
  ·have z:∃o,s.heap.get? p=some o∧o.ExactDict:=by
    rcases hk with⟨kvs,ep,hk⟩ | ⟨kvs,bs,hk⟩
    ·obtain⟨_,_,_,_,o,_,e,ex,_⟩:=I.hok p _ hk
     exact⟨o,e,ex⟩
    ·obtain⟨_,_,_,_,_,o,_,_,e,ex,_⟩:=I.hok p _ hk
     exact⟨o,e,ex⟩
   obtain⟨o,e,ex⟩:=z
   refine⟨⟨o,e,ex.1⟩,fun a e2=>?_⟩
   cases e2
   exact⟨o,e,ex.2.1⟩
  ·obtain⟨o,_,_,_,e,ex,_⟩:=I.hok p _ hk
   refine⟨⟨o,e,ex.1⟩,fun a e2=>?_⟩
   cases e2
   exact⟨o,e,ex.2.1⟩
 | _=>exact False.elim ty
noncomputable def zrp(K:PySem.W.Frag)(T:String)(r:V→List V→Hp→VK→Prop)(to:TE):TE:=fun σ H Q=>to σ H fun x H1=>tyV K T x H1∧r x [] H1 Q
noncomputable def tBM(K:PySem.W.Frag)(T:String)(r:V→List V→Hp→VK→Prop)(to:TE)(t:TA):TE:=fun σ H Q=>to σ H fun x H1=>tyV K T x H1∧t σ H1 fun xs H2=>r x xs H2 Q
variable {o e:Expr} {es:List Expr} {to:TE} {t:TA} {name:Str} {apos cpos:Pos} {T id:String} {r:V→List V→Hp→VK→Prop}
theorem zps(pa:PlainAttrs T)(slot:Slot T name id)(hty:typeOf (.builtin id)=pure (.type "method_descriptor"))(hm:MtR X id r)(ho:PE X o to)
  (hbase:attributeBase o name X.env (eval o X.env)=eval o X.env:=by rfl) (hline:(apos.endLine==cpos.line)=true:=by rfl):PE X (.Call (.Attribute o name apos) [] [] cpos) (zrp X.K T r to):=by
 intro pins s σ H Q I h
 refine wpAny_Call_method0_late hbase hline (thn (ho pins s σ H _ I h) fun v s1 ⟨x,H1,I1,r1,ty,q1⟩=>?_)
 obtain⟨h1,h2⟩:=zny I1 r1 ty
 exact⟨T,id,pa,slot,hty,h1,h2,Calls.callWith_builtin rfl (PySem.evalArgs_none (hm pins s1 σ H1 x [] v [] Q I1 r1 .nil q1))⟩
theorem zkR(pa:PlainAttrs T)(slot:Slot T name id)(hty:typeOf (.builtin id)=pure (.type "method_descriptor"))(hm:MtR X id r)(ho:PE X o to)(ha:PA X (e::es) t)
  (hbase:attributeBase o name X.env (eval o X.env)=eval o X.env:=by rfl)
  (hfew:((backTo cpos (starEach (e::es) X.env)).all (fun x=>!x.1)&&(backToKw cpos (keywordEach [] X.env)).all (fun x=>x.1.isSome)
   && decide ((e::es).length+([]:List Keyword).length+(if ([]:List Keyword).isEmpty then 0 else 1)<30))=true:=by rfl)
  (hline:(apos.endLine==cpos.line)=true:=by rfl) (hs:starEach (e::es) X.env=(false,eval e X.env)::starEach es X.env:=by rfl) (hplain:(backTo cpos (starEach es X.env)).any (·.1)=false:=by rfl) :
  PE X (.Call (.Attribute o name apos) (e::es) [] cpos) (tBM X.K T r to t):=by
 intro pins s σ H Q I h
 refine wpAny_Call_method_late hbase hfew hline rfl (thn (ho pins s σ H _ I h) fun v s1 ⟨x,H1,I1,r1,ty,q1⟩=>?_)
 obtain⟨h1,h2⟩:=zny I1 r1 ty
 refine⟨T,id,pa,slot,hty,h1,h2,?_⟩
 have hA:=ha cpos pins s1 σ H1 _ I1 q1
 rw[hs] at hA ⊢
 refine Calls.callWith_builtin (by show(false||(backTo cpos (starEach es X.env)).any (·.1))=false;rw[hplain]<;>rfl) (Calls.evalArgs_plain ?_)
 exact thn hA fun us s2 ⟨vs,H2,I2,r2,q2⟩=>hm pins s2 σ H2 x vs v us Q I2 r1 r2 q2
end
end L2
namespace L2
open PySem PySem.Spec PyProof.Rows
noncomputable def MtM(X:Cx)(id:String)(r:V→List V→Hp→VK→Prop):Prop:=
 ∀(pins:List (Addr×Obj)) (s:Shared) (σ:St) (H:Hp) (x:V) (xs:List V) (v:Value) (us:List Value) (Q:VK),Inv X pins σ H s→RelV x v→Vals xs us→r x xs H Q→
  wpAny (model X.prog X.w) X.A (call (.builtin id) (v::us)) (EP X pins σ Q) X.xe s
theorem Vals.one:∀{x:V} {us:List Value},Vals [x] us→∃u,us=[u]∧RelV x u
 | _,_,.cons r .nil=>⟨_,rfl,r⟩
theorem Vals.zero:∀{us:List Value},Vals [] us→us=[]
 | _,.nil=>rfl
theorem Vals.rep{xs:List V}{us:List Value}(h:Vals xs us):∀k:Nat,Vals (List.replicate k xs).flatten (List.replicate k us).flatten
 | 0=>.nil
 | k+1=>by
  rw[List.replicate_succ,List.replicate_succ,List.flatten_cons,List.flatten_cons]
  exact Vals.append h (Vals.rep h k)
theorem zoU{α:Type}(l:List α):l.eraseIdx (l.length-1)=l.dropLast:=by
 induction l with
 | nil=>rfl
 | cons a r ih=>
  cases r with
  | nil=>rfl
  | cons b r=>
   have e:(a::b::r).length-1=((b::r).length-1)+1:=by
    have h1:(a::b::r).length=r.length+2:=rfl
    have h2:(b::r).length=r.length+1:=rfl
    omega
   rw[e,List.eraseIdx_cons_succ,ih]
   all_goals rfl
theorem zhM(its:List Value):∀(k:Nat) (acc:List Value),
  List.foldl (fun x1 x2=>x1++x2) acc.toArray (List.replicate k its.toArray)=(acc++(List.replicate k its).flatten).toArray
 | 0,acc=>by simp
 | k+1,acc=>by
  have e:acc.toArray++its.toArray=(acc++its).toArray:=by simp
  have e2:(acc++its)++(List.replicate k its).flatten=acc++(List.replicate (k+1) its).flatten:=by
   rw[List.replicate_succ,List.flatten_cons,List.append_assoc]
  rw[←e2,←zhM its k (acc++its),←e,List.replicate_succ,List.foldl_cons]
section
variable {X:Cx} {pins:List (Addr×Obj)} {σ:St} {H:Hp} {s:Shared} {l b:Addr} {xs ys zs:List V}
theorem Inv.lset{its its':List Value}{n:Nat}{f:Array Value→Array Value}{t':Nat}(I:Inv X pins σ H s)(hH:H l=some (.lst xs))
  (e:s.heap.get? l=some { cls:=.type "list",data:=.seq its.toArray n }) (hf:f its.toArray=its'.toArray) (hv:Vals ys its') (hz:ys.length≤sizeLine) :
  Inv X pins σ (upd H l (.lst ys)) { s with heap:=s.heap.update l (Obj.mapSeq f),toks:=t' }:=by
 have q:=PySem.IsL.update e f
 rw[hf] at q
 refine I.write (x:=l) (e:=l) (by rw[hH];exact trivial) (.inl rfl) (fun b' u hb hu=>(Heap.get?_update_other s.heap (Obj.mapSeq f) (Ne.symm hb)).trans hu) ⟨_,q⟩ ?_
 exact⟨hz,its',_,hv,q⟩
theorem Inv.lnew{its:List Value}{t':Nat}(I:Inv X pins σ H s)(hv:Vals ys its)(hz:ys.length≤sizeLine) :
  Inv X pins σ (upd H s.heap.objs.size (.lst ys)) { s with heap:=s.heap.push { cls:=.type "list",data:=.seq its.toArray },toks:=t' }:=
 I.laid (fun _ _ q=>Heap.get?_push_of_some _ q) (Nat.le_refl _) ⟨hz,its,0,hv,Heap.get?_push_size _ rfl⟩
theorem Inv.fresh(I:Inv X pins σ H s):H s.heap.objs.size=none:=I.hok.fresh (Nat.le_refl _)
theorem Inv.lstM(I:Inv X pins σ H s)(hH:H l=some (.lst xs)):xs.length≤sizeLine∧∃(its:List Value) (n:Nat),Vals xs its∧xs.length=its.length∧s.heap.get? l=some { cls:=.type "list",data:=.seq its.toArray n }:=by
 obtain⟨z,its,n,r,e⟩:=I.hok l _ hH
 exact⟨z,its,n,r,r.length,e⟩
theorem zjd{n:Nat}(h:n≤sizeLine):Builtin.List.listTooLong n=false:=by
 unfold Builtin.List.listTooLong
 exact decide_eq_false (by omega)
end
section
variable {X:Cx}
noncomputable def zgV:V→List V→Hp→VK→Prop:=fun x vs H Q=>∃l xs y,x=.ref l∧vs=[y]∧H l=some (.lst xs)∧xs.length<sizeLine∧Q .non (upd H l (.lst (xs++[y])))
theorem zdy:MtM X "list.append" zgV:=by
 intro pins s σ H x vs v us Q I rx rv h
 obtain⟨l,xs,y,rfl,rfl,hH,hz,q⟩:=h
 cases rx
 obtain⟨u,rfl,ru⟩:=rv.one
 obtain⟨z,its,n,r,hl,e⟩:=I.lstM hH
 refine call_meets F.slot_list_append ⟨_,e,rfl⟩ F.entry_list_append (F.args_list_append_2 _ _) (PySem.list_append l its.toArray n u (by rw[List.size_toArray];omega)) ⟨e,?_⟩
 refine⟨.non,_,I.lset (its':=its++[u]) hH e (by simp) (r.append (.cons ru .nil)) ?_,rfl,q⟩
 rw[List.length_append,List.length_singleton]
 omega
noncomputable def zkS:V→List V→Hp→VK→Prop:=fun x vs H Q=>∃l b xs zs,x=.ref l∧vs=[.ref b]∧H l=some (.lst xs)∧H b=some (.lst zs)∧xs.length+zs.length≤sizeLine∧Q .non (upd H l (.lst (xs++zs)))
theorem zkT:MtM X "list.extend" zkS:=by
 intro pins s σ H x vs v us Q I rx rv h
 obtain⟨l,b,xs,zs,rfl,rfl,hH,hB,hz,q⟩:=h
 cases rx
 obtain⟨u,rfl,ru⟩:=rv.one
 cases ru
 obtain⟨z,its,n,r,hl,e⟩:=I.lstM hH
 obtain⟨z2,its2,n2,r2,hl2,e2⟩:=I.lstM hB
 have hsz:its.toArray.size+its2.toArray.size≤sizeLine:=by rw[List.size_toArray,List.size_toArray];omega
 have hlong:¬(!its.toArray.isEmpty&&Builtin.List.listTooLong (its.toArray.size+its2.toArray.size))=true:=by
  rw[zjd hsz,Bool.and_false]
  exact Bool.false_ne_true
 refine call_meets F.slot_list_extend ⟨_,e,rfl⟩ F.entry_list_extend (F.args_list_extend_2 _ _)
  (AutoSeq1.list_extend_list_list_0 l its.toArray n b its2.toArray n2 hlong (by rw[List.size_toArray];omega) (by omega)) ⟨e,e2,?_⟩
 refine⟨.non,_,I.lset (its':=its++its2) hH e (by simp) (r.append r2) ?_,rfl,q⟩
 rw[List.length_append]
 omega
noncomputable def znz:V→List V→Hp→VK→Prop:=fun x vs H Q=>∃l xs,x=.ref l∧vs=[]∧H l=some (.lst xs)∧Q .non (upd H l (.lst []))
theorem zmF:MtM X "list.clear" znz:=by
 intro pins s σ H x vs v us Q I rx rv h
 obtain⟨l,xs,rfl,rfl,hH,q⟩:=h
 cases rx
 have hus:=rv.zero
 subst hus
 obtain⟨z,its,n,r,hl,e⟩:=I.lstM hH
 refine call_meets F.slot_list_clear ⟨_,e,rfl⟩ F.entry_list_clear (F.args_list_clear_1 _) (AutoSeq1.list_clear_list_0 l its.toArray n (by rw[List.size_toArray];omega)) ⟨e,?_⟩
 exact⟨.non,_,I.lset (its':=[]) (ys:=[]) hH e rfl .nil (Nat.zero_le _),rfl,q⟩
noncomputable def zrM:R2:=fun x y H Q=>∃l k xs,x=.ref l∧y=.int k∧H l=some (.lst xs)∧-(2 ^ 63)≤k∧k<2 ^ 63∧xs.length*k.toNat≤sizeLine∧
 ∀p,H p=none→Q (.ref p) (upd H p (.lst (List.replicate k.toNat xs).flatten))
theorem zoi{α:Type}(xs:List α)(k:Nat):(List.replicate k xs).flatten.length=k*xs.length:=by
 induction k with
 | zero=>simp
 | succ k ih=>rw[List.replicate_succ,List.flatten_cons,List.length_append,ih,Nat.succ_mul,Nat.add_comm]
theorem zpt:OpR X (binaryOp .Mult) zrM:=by
 intro pins s σ H x y v u Q I rx ry h
 obtain⟨l,k,xs,rfl,rfl,hH,h1,h2,hz,q⟩:=h
 cases rx
 obtain⟨t,rfl⟩:=ry
 obtain⟨z,its,n,r,hl,e⟩:=I.lstM hH
 have hlen:its.toArray.size*k.toNat≤sizeLine:=by rw[List.size_toArray,←hl];exact hz
 have hcap:¬its.toArray.size*k.toNat>(2 ^ 63-1)/8:=by
  have:(sizeLine:Nat)≤(2 ^ 63-1)/8:=by decide
  omega
 have hfit:¬(!Builtin.List.listFitsIndex k)=true:=by
  rw[fitsIndex_both h1 h2]
  exact Bool.false_ne_true
 have hlong:¬Builtin.List.listTooLong (its.toArray.size*k.toNat)=true:=by
  rw[zjd hlen]
  exact Bool.false_ne_true
 have hnew:List.foldl (fun x1 x2=>x1++x2) #[] (List.replicate (if its.toArray.isEmpty=true then 0 else k.toNat) its.toArray)=(List.replicate k.toNat its).flatten.toArray:=by
  have f0:∀m:Nat,List.foldl (fun x1 x2=>x1++x2) #[] (List.replicate m its.toArray)=(List.replicate m its).flatten.toArray:=fun m=>by
   have:=zhM its m []
   rw[List.nil_append] at this
   exact this
  rw[f0]
  cases its with
  | nil=>simp
  | cons a r'=>rw[if_neg (by simp)]
 refine wpAny_binaryOp_repeat_ref (T:="list") (U:="int") (by decide) ⟨_,e,rfl⟩ (fun s'=>typeIs_int s' k t) noFill_list_mul F.fills_int_mul F.slot_int_rmul repeat_list F.slot_int_index.lookup
  (call_meets F.slot_int_rmul (typeIs_int s k t) F.entry_int_rmul (F.args_int_rmul_2 _ _) (int___rmul___int_list k t l its.toArray n)
   ⟨e,rfl,⟨_,e,rfl⟩,call_meets F.slot_list_mul ⟨_,e,rfl⟩ F.entry_list_mul (F.args_list_mul_2 _ _) (AutoListH.list___mul___list_int_3 l its.toArray n k t hfit hcap hlong) ⟨e,?_⟩⟩)
 rw[hnew]
 exact⟨.ref _,_,I.lnew (t':=s.toks) (r.rep k.toNat) (by rw[zoi,Nat.mul_comm];exact hz),rfl,q _ I.fresh⟩
end
section
variable {prog:Program} {w:World} {A:Around} {E:Value→Shared→Prop} {s:Shared}
end
end L2
namespace Att
open PySem PySem.W PySem.Calls PyProof.Rows
theorem zfn{P:Params}{h:Heap}:∀(ns:List Int) (vs:List Value),WellAll P h vs (ns.map WData.int)→IntsAre vs ns:=by
 intro ns
 induction ns with
 | nil=>
  intro vs w
  rw[List.map_nil] at w
  cases w
  exact .nil
 | cons n ns ih=>
  intro vs w
  rw[List.map_cons] at w
  cases w with
  | cons a b=>
   cases a
   exact .cons _ _ (ih _ b)
theorem zkU{l:OpenLaw}{n:Nat}(hn:l.most=some n){P:Params}{h:Heap}{args:List WData}{vals:List Value}
  (hpre:l.row.toRowW.claim.pre args=true) (hwl:WellAll P h vals args) :
  ∃a vs ns,vals=[Value.ref a]∧args=[WData.list (ns.map WData.int)]∧h.get? a=some { cls:=.type "list",data:=.seq vs.toArray }∧IntsAre vs ns∧ns.length≤n:=by
 have hsh:WShape.hasAll [] args [.list .int]=true:=(pre_splitW hpre).1
 have hc:l.pre.holds [] { args:=args }=true:=(pre_splitW hpre).2
 obtain⟨d,r,rfl,h1,h2⟩:=hasAllW_cons hsh
 obtain rfl:=hasAllW_nil h2
 obtain⟨xs,rfl,h3⟩:=hasW_list h1
 obtain⟨ns,rfl⟩:=items_int h3
 have hlen:ns.length≤n:=by
  unfold OpenLaw.pre at hc
  have h4:(WTm.not (.lt (.lit (.int (n:Int))) (.len (.arg 0)))).holds [] { args:=[.list (ns.map .int)] }=true:=by
   have h4:=(holds_andW hc).1
   rw[hn] at h4
   exact h4
  have h5:=condW_of h4 (w_not (w_lt w_lit (w_len_list (w_arg rfl))))
  rw[List.length_map] at h5
  refine Nat.le_of_not_lt fun q=>?_
  have q':(n:Int)<((ns.length:Nat):Int):=by omega
  first
   | (rw[decide_eq_true q'] at h5;exact absurd h5 (by decide))
   | (simp at h5;omega)
 cases hwl with
 | cons w1 w2=>
  cases w2
  cases w1 with
  | list ho hall=>exact⟨_,_,ns,rfl,rfl,ho,zfn ns _ hall,hlen⟩
theorem zkV(l:OpenLaw)(args:List WData):l.row.toRowW.claim.post args (.bool true) args=true:=
 postW_of (r:=l.row.toRowW) (X:=(true==true))
  (show WShape.has [] (.bool true) .bool=true by first | rfl | decide | simp[WShape.has,WShape.arms,WShape.armsAll])
  (show(WTm.eq .res (.lit (.bool true))).value [] { args:=args,res:=some (.bool true),after:=args }=some (.bool (true==true)) from w_eq_bool (w_res rfl) w_lit) rfl
theorem attach_call{l:OpenLaw}{n:Nat}{q:Program}{loose:List Str}{XP:(Str→Option Value)→Heap→Prop}{YP:World→Heap→Prop}{d:DefRec}
  (hn:l.most=some n) (hdf:d.params.defaults=[])
  (call:∀(w:World) (s₀ s₁:Shared) (mg mb:Str→Option Value) (fa:Addr) (o:Obj) (pm cd doc:Value) (a:Addr) (vs:List Value) (ns:List Int),
   Ground q loose [] XP w s₀ mg mb s₁.heap→YP w s₁.heap→
   s₁.heap.get? fa=some o→o.data=.func (docDef d.name d.params d.body d.scope pm cd doc)→s₁.heap.CodeRec cd d.name→mg d.name=some (.ref fa)→
   s₁.heap.get? a=some { cls:=.type "list",data:=.seq vs.toArray }→IntsAre vs ns→ns.length≤n→s₁.gens=#[]→
   codeAny (model l.prog w) callerA (.call (.ref fa) ⟨[.ref a],[]⟩) (fun r s'=>r=.ok (.ret (.bool true))∧OldK s₁.heap s'.heap∧s'.os=s₁.os∧AllBare s'.gens) s₁) :
  WalkO q loose XP YP l.row.toRowW d [] (fun f vs=>PySem.call f vs):=by
 intro w s₀ s₁ mg mb G Y fa o pm cd doc dV kV ho hd hcd hD hmg hg args vals as hpre hlay hrd hwl hlo
 obtain rfl:dV=.none:=Dflts.none hD hdf
 obtain rfl:kV=.none:=Dflts.noKw hD
 obtain⟨a,vs,ns,rfl,rfl,hobj,hints,hlen⟩:=zkU hn hpre hwl
 refine enter_call (codeAny_mono (call w s₀ s₁ mg mb fa o pm cd doc a vs ns G Y ho (fd_plain hd) hcd hmg hobj hints hlen hg) fun r s' hq=>?_)
 obtain⟨rfl,h2,h3,h4⟩:=hq
 exact⟨.inl ⟨.bool true,.bool true,[],rfl,fun _=>rfl,.bool true,zkV l _,fun _=>⟨List.Pairwise.nil,fun _ hm=>(nomatch hm)⟩⟩,h2,h3,h4⟩
end Att
namespace L2
open PySem PySem.Spec PyProof.Rows
theorem zfo:∀{vs:List Value} {ns:List Int},IntsAre vs ns→Vals (ns.map V.int) vs
 | _,_,.nil=>.nil
 | _,_,.cons n t h=>.cons ⟨t,rfl⟩ (zfo h)
noncomputable def zrq(H:Hp):Prop:=∀b,H b=none∨∃o xs,H b=some (.frz o (.lst xs))
theorem zmG{P:Program}{w:World}{K:PySem.W.Frag}{mg mb:Str→Option Value}{CX:CXT}{k:Nat}{fa a:Addr}{fd:FuncData}{x:Str}{sp:Sp}{s₁:Shared}{vs:List Value}{ns:List Int}
  (KX:K.In s₁.heap) (hns:s₁.heap.Ns mainGlobals mg) (hb:s₁.heap.Ns builtinsNs mb) (hbb:∀x:Str,x≠"__name__"→mb x=bootBuiltins x) (hlim:s₁.heap.NoLimit) (hg:s₁.gens=#[])
  (ha:s₁.heap.get? a=some { cls:=.type "list",data:=.seq vs.toArray }) (hi:IntsAre vs ns) (hl:ns.length≤sizeLine) (hr:Room k callerA)
  (F:∀base:Heap,K.In base→base.Ns mainGlobals mg→FnOk P w K mg base CX k fa fd [x] sp) (hbind:∀(s:Shared) (u:Value),BindsTo s fd ⟨[u],[]⟩ [(x,u)])
  (hsp:∀H:Hp,zrq H→SqL K H a (ns.map V.int)→sp [.ref a] H (fun v _=>v=.bl true) fun _ _ _=>False)
  (hCX:∀H e s',CX [] H s₁ (fun _ _ _=>False) e s'→False) :
  codeAny (model P w) callerA (.call (.ref fa) ⟨[.ref a],[]⟩) (fun r s'=>r=.ok (.ret (.bool true))∧OldK s₁.heap s'.heap∧s'.os=s₁.os∧AllBare s'.gens) s₁:=by
 have rv:=zfo hi
 have lenV:=hi.length
 -- from an abstract heap in which nothing but the script may be tracked
 have core:∀H:Hp,zrq H→SqL K H a (ns.map V.int)→HOk P w H s₁.heap→(∀b,H b≠none→b=a)→(H a≠none→K.lookup a=none)→
   codeAny (model P w) callerA (.call (.ref fa) ⟨[.ref a],[]⟩) (fun r s'=>r=.ok (.ret (.bool true))∧OldK s₁.heap s'.heap∧s'.os=s₁.os∧AllBare s'.gens) s₁:=by
  intro H hO hS hok hA hK
  have base_of:∀{b:Addr} {o:Obj},s₁.heap.get? b=some o→H b=none→(zmo s₁.heap H).get? b=some o:=fun e n=>zmp e n
  have noA:∀{b:Addr} {o:Obj} {es:Array DictEntry} {ep:Nat},s₁.heap.get? b=some o→o.data=.dict es ep→H b=none:=fun{b o es ep} e d=>by
   cases q:H b with
   | none=>rfl
   | some u=>
    have e':b=a:=hA b (by rw[q];simp)
    subst e'
    rw[ha] at e;cases e
    have d':Data.seq vs.toArray _=Data.dict es ep:=d
    cases d'
  have nsK:∀{b:Addr} {m:Str→Option Value},s₁.heap.Ns b m→(zmo s₁.heap H).Ns b m:=fun{b m} ⟨o,es,ep,e,d,r⟩=>⟨o,es,ep,base_of e (noA e d),d,r⟩
  have hKb:K.In (zmo s₁.heap H):=fun b o e=>base_of (KX b o e) (by
   cases q:H b with
   | none=>rfl
   | some u=>
    have e':b=a:=hA b (by rw[q];simp)
    subst e'
    rw[hK (by rw[q];simp)] at e;cases e)
  have hM:Mod K mg (zmo s₁.heap H):=⟨hKb,nsK hns,⟨mb,nsK hb,hbb⟩,let⟨mc,h1,h2⟩:=hlim;⟨mc,nsK h1,h2⟩⟩
  have e0:Env0 P w K mg (zmo s₁.heap H) callerA [] s₁ H:=⟨rfl,hM,fun b o e=>znY e,Nat.le_of_eq (zkz _ _),trivial,fun b hb=>absurd (show b∈([]:List Addr) from hb) (by simp),hok,.of_eq hg⟩
  refine codeAny_mono ((F _ hKb (nsK hns)).run callerA [] s₁ H ⟨[.ref a],[]⟩ [.ref a] [.ref a] _ _ hr e0 (hbind s₁ (.ref a)) (.cons rfl .nil) (hsp H hO hS)) fun r s' h=>?_
  cases r with
  | error e=>exact(hCX H e s' h).elim
  | ok fl=>
   cases fl with
   | next=>exact False.elim h
   | brk=>exact False.elim h
   | cont=>exact False.elim h
   | ret u=>
    obtain⟨v,H',os,bare,un,hok',r',q⟩:=h
    have q':v=.bl true:=q
    subst q'
    obtain rfl:u=Value.bool true:=r'
    refine⟨rfl,OldK.of_keep fun b o e=>?_,os,bare⟩
    cases q:H b with
    | none=>exact un.keep b o e q (by intro z;exact absurd (show b∈([]:List Addr) from z) (by simp)) (by simp)
    | some u=>
     rcases hO b with z | ⟨ob,xs,z⟩
     ·rw[q] at z;cases z
     ·have z2:=un.frzs b ob _ z
      obtain⟨e1,_⟩:=hok b _ z
      obtain⟨e2,_⟩:=hok' b _ z2
      rw[e] at e1;cases e1
      exact e2
 cases hk:K.lookup a with
 | some o=>
  -- the script is one of the module's own objects
  have e:=KX a o hk
  rw[ha] at e
  cases e
  refine core (fun _=>none) (fun _=>.inl rfl) (.inr ⟨_,vs.toArray,_,hk,rfl,rfl,rfl,by rw[List.size_toArray,lenV];exact hl,by simpa using rv⟩) (fun b u z=>by have z':(none:Option HO)=some u:=z;cases z') (fun b z=>absurd rfl z) fun z=>absurd rfl z
 | none=>
  refine core (fun b=>if b=a then some (.frz { cls:=.type "list",data:=.seq vs.toArray } (.lst (ns.map V.int))) else none) (fun b=>?_) (.inl (.inr ⟨{ cls:=.type "list",data:=.seq vs.toArray },if_pos rfl⟩)) (fun b u z=>?_) (fun b z=>?_) fun _=>hk
  ·by_cases hb:b=a
   ·exact .inr ⟨_,_,if_pos hb⟩
   ·exact .inl (if_neg hb)
  ·by_cases hb:b=a
   ·have z':=(if_pos hb).symm.trans z
    cases z'
    subst hb
    exact⟨ha,by rw[List.length_map];exact hl,vs,_,rv,ha⟩
   ·have z':=(if_neg hb).symm.trans z
    cases z'
  ·by_cases hb:b=a
   ·exact hb
   ·exact absurd (if_neg hb) z
end L2
namespace L2
open PySem PySem.Spec PyProof.Rows
noncomputable abbrev KOf{K:PySem.W.Frag}{h:Heap}(_:K.In h):PySem.W.Frag:=K
end L2
namespace L2
open PySem PySem.Spec PyProof.Rows
noncomputable def zoj(s:Stmt)(j:Nat):Stmt:=match s with
 | .ClassDef _ _ _ body _ _ _ _ _ _ _=>body.getD j (.Pass ⟨0,0,0,0⟩)
 | _=>.Pass ⟨0,0,0,0⟩
noncomputable def defArgs(s:Stmt):Arguments:=match s with
 | .FunctionDef _ a _ _ _ _ _ _ _ _=>a
 | _=>{ posonlyargs:=[],args:=[],vararg:=none,kwonlyargs:=[],kw_defaults:=[],kwarg:=none,defaults:=[] }
noncomputable def defBody(s:Stmt):List Stmt:=match s with
 | .FunctionDef _ _ b _ _ _ _ _ _ _=>b
 | _=>[]
noncomputable def defScope(s:Stmt):Scope:=match s with
 | .FunctionDef _ _ _ _ _ _ sc _ _ _=>sc
 | _=>{ kind:=.function,names:=[],isGenerator:=false,isCoroutine:=false }
noncomputable abbrev CX0:CXT:=fun _ _ _ _ _ _=>False
noncomputable abbrev E0:XK:=fun _ _ _=>False
theorem zok{X:Cx}:zhE CX0 X E0:=fun _ _ _ _ _ _ _ h=>h.elim
structure FunV (dV:Value) (K:PySem.W.Frag) (x qual:Str) (st:Stmt) (f:Addr) (fd:FuncData):Prop where
 ex:∃(oc:Value) (od:Option Addr) (kV doc pm:Value) (an:Option Addr) (cdv ct:Value) (osl:Array (Option Value)),
  fd=PySem.W.fnOf x qual (defArgs st) (defBody st) (defScope st) dV kV doc pm an cdv ct∧K.lookup f=some ⟨oc,od,.func fd,osl⟩∧PySem.W.codeIn K cdv qual=true
 kp:PySem.W.keepIn K (.ref f)=true
noncomputable abbrev Fun:=FunV .none
section
variable {P:Program} {w:World} {K:PySem.W.Frag} {mg:Str→Option Value} {base:Heap}
theorem FunV.ok{dV:Value}{x qual:Str}{st:Stmt}{f:Addr}{fd:FuncData}{N ps:List Str}{k:Nat}{sp:Sp}(F:FunV dV K x qual st f fd)(S:FnScope N ps (defScope st))(len:∀vs H Q E,sp vs H Q E→vs.length=ps.length)
  (hbody:∀(cdv:Value) (A:Around) (outer:List Env) (s:Shared) (H:Hp) (vs:List V) (Q:VK) (E:XK),Room k (A.deeper (envOfC qual (defScope st) s.heap.objs.size f cdv))→sp vs H Q E→
   ∃t,PSs (zjZ CX0 P w K mg base N qual (defScope st) f cdv A outer s H E).nox (defBody st) t∧t { nx:=fun _ H'=>Q .non H',rt:=Q } (zb8 N vs) H):FnOk P w K mg base CX0 (k+1) f fd ps sp:=by
 obtain⟨oc,od,kV,doc,pm,an,cdv,ct,osl,rfl,lk,hcd⟩:=F.ex
 refine zqS lk hcd S len fun A outer s H vs Q E hr hsp=>?_
 obtain⟨t,h,q⟩:=hbody cdv A outer s H vs Q E hr hsp
 exact⟨t,h.nox,q⟩
theorem FunV.binds{x qual:Str}{st:Stmt}{f:Addr}{fd:FuncData}{ps:List Str}(F:Fun K x qual st f fd)
  (h:∀(kV doc pm:Value) (an:Option Addr) (cdv ct:Value) (us:List Value),us.length=ps.length→bindArgs (PySem.W.fnOf x qual (defArgs st) (defBody st) (defScope st) .none kV doc pm an cdv ct) ⟨us,[]⟩=pure (ps.zip us)):Binds K fd ps []:=by
 obtain⟨oc,od,kV,doc,pm,an,cdv,ct,osl,rfl,lk,hcd⟩:=F.ex
 exact .all (h kV doc pm an cdv ct)
theorem znA{x qual:Str}{st:Stmt}{f:Addr}{oc:Value}{od an:Option Addr}{osl:Array (Option Value)}{dV kV doc pm cdv ct:Value}(l:K.lookup f=some ⟨oc,od,.func (PySem.W.fnOf x qual (defArgs st) (defBody st) (defScope st) dV kV doc pm an cdv ct),osl⟩)
  (c:PySem.W.codeIn K cdv qual=true) (k:PySem.W.keepIn K (.ref f)=true):FunV dV K x qual st f (PySem.W.fnOf x qual (defArgs st) (defBody st) (defScope st) dV kV doc pm an cdv ct):=⟨⟨oc,od,kV,doc,pm,an,cdv,ct,osl,rfl,l,c⟩,k⟩
end
noncomputable def Same(H H':Hp):Prop:=∀b o,H b=some o→H' b=some o
theorem Same.refl(H:Hp):Same H H:=fun _ _ h=>h
theorem Same.trans{H H1 H2:Hp}(a:Same H H1)(b:Same H1 H2):Same H H2:=fun c o h=>b c o (a c o h)
theorem Same.free{H H':Hp}(e:Same H H'){l:Addr}(h:H' l=Option.none):H l=Option.none:=by
 cases q:H l with
 | none=>rfl
 | some o=>
  rw[e l o q] at h
  cases h
end L2
set_option maxHeartbeats 0
namespace L2
open PySem PySem.Spec PyProof.Rows
noncomputable def RdL(K:PySem.W.Frag)(H:Hp)(a:Addr)(xs:List V):Prop:=
 Rd H a (.lst xs)∨∃(its:Array Value) (n:Nat),K.lookup a=some { cls:=.type "list",data:=.seq its n }∧its.size≤sizeLine∧Vals xs its.toList
theorem RdL.of{K:PySem.W.Frag}{H:Hp}{a:Addr}{xs:List V}(h:H a=some (.lst xs)):RdL K H a xs:=.inl (.inl h)
theorem RdL.sq{K:PySem.W.Frag}{H:Hp}{a:Addr}{xs:List V}(h:RdL K H a xs):SqL K H a xs:=by
 rcases h with h | ⟨its,n,h1,h2,h3⟩
 ·exact .inl h
 ·exact .inr ⟨_,its,n,h1,rfl,rfl,rfl,h2,h3⟩
theorem Same.rdl{K:PySem.W.Frag}{H H':Hp}{a:Addr}{xs:List V}(e:Same H H')(h:RdL K H a xs):RdL K H' a xs:=by
 rcases h with(h | ⟨o,h⟩) | h
 ·exact .inl (.inl (e _ _ h))
 ·exact .inl (.inr ⟨o,e _ _ h⟩)
 ·exact .inr h
theorem Inv.rdl{X:Cx}{pins:List (Addr×Obj)}{σ:St}{H:Hp}{s:Shared}{a:Addr}{xs:List V}(I:Inv X pins σ H s)(h:RdL X.K H a xs):xs.length≤sizeLine∧∃(its:List Value) (n:Nat),Vals xs its∧s.heap.get? a=some { cls:=.type "list",data:=.seq its.toArray n }:=by
 rcases h with h | ⟨its,n,h1,h2,h3⟩
 ·obtain⟨z,its,n,r,e⟩:=h.ok I.hok
  exact⟨z,its,n,r,e⟩
 ·refine⟨by rw[h3.length];simpa using h2,its.toList,n,h3,?_⟩
  rw[Array.toArray_toList]
  exact I.kIn a _ h1
noncomputable def ziG(cells:List (Str×Addr)):List (Str×NameKind)→List (Str×Addr)→List (Str×Addr)
 | [],acc=>acc
 | (n,k)::r,acc=>ziG cells r (if k==.free then(n,(cells.lookup n).getD 0)::acc else acc)
theorem zgB{env:Env}:∀(names:List (Str×NameKind)) (acc:List (Str×Addr)),(∀x∈names,x.2=.free→∃c,env.cells.lookup x.1=some c)→
  (forIn names acc fun(x:Str×NameKind) (r:List (Str×Addr))=>
   (if (x.2==NameKind.free)=true then do let a ←cellOf env x.1;pure (ForInStep.yield ((x.1,a)::r)) else pure (ForInStep.yield r):Sem (ForInStep (List (Str×Addr)))))=pure (ziG env.cells names acc)
 | [],acc,_=>by simp[ziG]
 | (n,k)::r,acc,h=>by
  have ih:=fun acc'=>zgB (env:=env) r acc' fun x hx=>h x (List.mem_cons_of_mem _ hx)
  rw[List.forIn_cons]
  by_cases hk:k=.free
  ·subst hk
   obtain⟨c,hc⟩:=h (n,.free) (by simp) rfl
   have e1:cellOf env n=pure c:=by unfold cellOf;rw[hc]
   simp only[beq_self_eq_true,if_true,e1,pure_bind]
   rw[ih]
   simp[ziG,hc]
  ·have hk':(k==NameKind.free)=false:=by simpa using hk
   simp only[hk',Bool.false_eq_true,if_false,pure_bind]
   rw[ih]
   simp[ziG,hk']
theorem zgC{env:Env}{scope:Scope}(h:∀x∈scope.names,x.2=.free→∃c,env.cells.lookup x.1=some c):closureFor scope env=pure (ziG env.cells scope.names []):=by
 have e:closureFor scope env=(forIn scope.names ([]:List (Str×Addr)) fun(x:Str×NameKind) (r:List (Str×Addr))=>
   (if (x.2==NameKind.free)=true then do let a ←cellOf env x.1;pure (ForInStep.yield ((x.1,a)::r)) else pure (ForInStep.yield r):Sem (ForInStep (List (Str×Addr))))) >>= fun r=>pure r:=rfl
 rw[e,zgB _ _ h]
 rfl
theorem zje{cells:List (Str×Addr)}:∀{names:List (Str×NameKind)} {acc:List (Str×Addr)} {x:Str} {c:Addr},(x,c)∈ziG cells names acc→(x,c)∈acc∨((x,.free)∈names∧c=(cells.lookup x).getD 0)
 | [],acc,x,c,h=>.inl h
 | (n,k)::r,acc,x,c,h=>by
  rcases zje (names:=r) h with h | ⟨h,e⟩
  ·by_cases hk:k=.free
   ·subst hk
    simp only[beq_self_eq_true,if_true] at h
    rcases List.mem_cons.mp h with h | h
    ·cases h;exact .inr ⟨by simp,rfl⟩
    ·exact .inl h
   ·have hk':(k==NameKind.free)=false:=by simpa using hk
    simp only[hk',Bool.false_eq_true,if_false] at h
    exact .inl h
  ·exact .inr ⟨List.mem_cons_of_mem _ h,e⟩
theorem zjf{cells:List (Str×Addr)}:∀{names:List (Str×NameKind)} {acc:List (Str×Addr)} {p:Str×Addr},p∈acc→p∈ziG cells names acc
 | [],acc,p,h=>h
 | (n,k)::r,acc,p,h=>zjf (names:=r) (by split<;>simp[h])
theorem zgW{cells:List (Str×Addr)}:∀{names:List (Str×NameKind)} {acc:List (Str×Addr)} {x:Str},(x,.free)∈names→∃c,(x,c)∈ziG cells names acc
 | (n,k)::r,acc,x,h=>by
  rcases List.mem_cons.mp h with h | h
  ·have e1:x=n:=congrArg Prod.fst h
   have e2:NameKind.free=k:=congrArg Prod.snd h
   subst e1 e2
   refine⟨(cells.lookup x).getD 0,?_⟩
   show(x,(cells.lookup x).getD 0)∈ziG cells r (if (NameKind.free==NameKind.free)=true then(x,(cells.lookup x).getD 0)::acc else acc)
   exact zjf (by simp)
  ·exact zgW (names:=r) h
theorem zbz{α:Type}:∀{l:List (Str×α)} {x:Str} {c:α},(x,c)∈l→∃c',l.lookup x=some c'
 | (n,k)::r,x,c,h=>by
  by_cases e:x=n
  ·subst e;exact⟨k,by simp[List.lookup_cons]⟩
  ·have e':(x==n)=false:=by simpa using e
   rcases List.mem_cons.mp h with h | h
   ·cases h;exact absurd rfl e
   ·obtain⟨c',q⟩:=zbz h
    exact⟨c',by simp[List.lookup_cons,e',q]⟩
theorem ziH{cells:List (Str×Addr)}{names:List (Str×NameKind)}{x:Str}{c:Addr}(h:(ziG cells names []).lookup x=some c)(hh:∀y∈names,y.2=.free→∃c,cells.lookup y.1=some c):cells.lookup x=some c:=by
 rcases zje (PySem.mem_of_lookup h) with h | ⟨h,e⟩
 ·cases h
 ·obtain⟨c',q⟩:=hh _ h rfl
  rw[q] at e
  simp at e
  rw[e]
  exact q
theorem zcf{env:Env}:∀{names:List (Str×NameKind)} {x:Str},
  (names.map fun(n,k)=>if (k==NameKind.free&&env.scope.kind==.function&&env.kindOf n==some .cell) then(n,NameKind.cell) else(n,k)).lookup x
   = (names.lookup x).map fun k=>if (k==NameKind.free&&env.scope.kind==.function&&env.kindOf x==some .cell) then NameKind.cell else k
 | [],x=>rfl
 | (n,k)::r,x=>by
  have ih:=@zcf env r x
  rw[List.map_cons]
  have e0:(if (k==NameKind.free&&env.scope.kind==.function&&env.kindOf n==some .cell)=true then(n,NameKind.cell) else(n,k))=(n,if (k==NameKind.free&&env.scope.kind==.function&&env.kindOf n==some .cell)=true then NameKind.cell else k):=by split<;>rfl
  show List.lookup x ((if (k==NameKind.free&&env.scope.kind==.function&&env.kindOf n==some .cell)=true then(n,NameKind.cell) else(n,k))::_)=_
  rw[e0]
  by_cases e:x=n
  ·subst e
   rw[List.lookup_cons,List.lookup_cons,beq_self_eq_true]
   rfl
  ·have e':(x==n)=false:=by simpa using e
   rw[List.lookup_cons,List.lookup_cons,e']
   exact ih
noncomputable abbrev cxC(X:Cx)(N':List Str)(scope:Scope)(s3:Shared)(H3:Hp)(ex:List Addr):Cx:=
 { X with N:=N',s₀:=s3,H₀:=H3,env:=compEnvC scope (ziG X.env.cells scope.names []) s3.heap.objs.size X.env,outer:=X.stack,stack:=X.stack,ex:=ex,fn:=fun _=>false,pn:=[],xe:=fun _ _=>False }
noncomputable def inn(m:List (Option Nat))(σ:St):St:=m.map fun o=>match o with
 | none=>none
 | some j=>(σ[j]?).join
structure CompScope (X:Cx) (N':List Str) (m:List (Option Nat)) (scope:Scope):Prop where
 kind:scope.kind=.function
 len:m.length=N'.length
 nocell:∀y∈scope.names,y.2≠.cell
 names:∀y∈scope.names,y.2=.local→scope.names.lookup y.1=some .local
 free:∀y∈scope.names,y.2=.free→X.env.kindOf y.1=some .cell∨X.env.kindOf y.1=some .free
 cap:∀(i j:Nat) (x:Str),m[i]?=some (some j)→N'[i]?=some x→X.N[j]?=some x∧scope.names.lookup x=some .free
noncomputable def PTs(X:Cx)(ifs:List Expr)(t:TT):Prop:=
 ∀(pins:List (Addr×Obj)) (s:Shared) (σ:St) (H:Hp) (Q:Bool→Hp→Prop),Inv X pins σ H s→t σ H Q→
  wpAny (model X.prog X.w) X.A (forIn ifs true fun c r=>if r=true then do let ok ←isTrue c X.env (eval c X.env);pure (ForInStep.yield ok) else pure (ForInStep.yield r)) (TP X pins σ Q) X.xe s
noncomputable def zrN:TT:=fun _ H Q=>Q true H
theorem zol{X:Cx}:PTs X [] zrN:=fun _ _ σ H _ I h=>wpAny_tests_nil ⟨H,I,h⟩
theorem zom{X:Cx}{c:Expr}{t:TT}(h:PT X c t):PTs X [c] t:=fun pins s σ H Q I q=>wpAny_tests_one (h pins s σ H Q I q)
section
variable {prog:Program} {w:World} {A:Around} {R:Result→Shared→Prop} {s:Shared}
theorem ziI{elt target iter:Expr}{ifs:List Expr}{scope:Scope}{pos:Pos}{it acc:Value}{env:Env}(I:Nat→Shared→Prop)
  (turn:∀n s,I n s→wpAny (model prog w) A (pyNext it) (fun r s₁=>match r with
   | none=>R (.ok .next) s₁
   | some v=>wpAny (model prog w) A (letOwnedTupleGo target it v) (fun _ s₁'=>wpAny (model prog w) A (assign target env v) (fun _ s₂=>
     wpAny (model prog w) A (forIn ifs true fun c r=>if r=true then do let ok ←isTrue c env (eval c env);pure (ForInStep.yield ok) else pure (ForInStep.yield r)) (fun ok s₃=>
      if ok=true then wpAny (model prog w) A (eval elt env) (fun x s₄=>
       wpAny (model prog w) A (call (.builtin "list.append") [acc,x]) (fun _ s₅=>∃m,m<n∧I m s₅) (fun _ _=>False) s₄) (fun _ _=>False) s₃
      else ∃m,m<n∧I m s₃) (fun _ _=>False) s₂) (fun _ _=>False) s₁') (fun _ _=>False) s₁) (fun _ _=>False) s)
  (n:Nat) (h:I n s) :
  codeAny (model prog w) A (.compLoop (.ListComp elt [⟨target,iter,ifs,0⟩] scope pos) 0 it acc env) R s:=by
 refine codeAny_loop rfl I (fun n s hI=>?_) n h
 show wpAny _ A ((compTurn (.ListComp elt [⟨target,iter,ifs,0⟩] scope pos) 0 it acc env).onRaise (fun x=>do noteFrame x env;theTreesLotGoes x)) _ _ s
 refine wpAny_noted ?_
 rw[compTurn_list]
 have nv:∀{E:Value→Shared→Prop} (x:Value) (s:Shared),(fun(_:Value) (_:Shared)=>False) x s→E x s:=fun _ _ f=>f.elim
 refine wpAny_bind (wpAny_standAt (wpAny_bind (wpAny_mono (turn n s hI) (fun r s₁ h₁=>?_) nv)))
 cases r with
 | none=>exact wpAny_pure h₁
 | some v=>
  refine wpAny_bind (wpAny_mono h₁ (fun _ s₁' h₁'=>?_) nv)
  refine wpAny_bind (wpAny_mono h₁' (fun _ s₂ h₂=>wpAny_bind (wpAny_mono h₂ (fun ok s₃ h₃=>?_) nv)) nv)
  cases ok with
  | false=>exact wpAny_pure ⟨rfl,h₃⟩
  | true=>
   exact wpAny_bind (wpAny_bind (wpAny_mono h₃ (fun x s₄ h₄=>wpAny_bind (wpAny_mono h₄ (fun _ s₅ h₅=>wpAny_pure (wpAny_pure ⟨rfl,h₅⟩)) nv)) nv))
end
end L2
namespace L2
open PySem PySem.Spec PyProof.Rows
noncomputable abbrev TIn(α:Type):=Shared→Hp→List Addr→α
noncomputable def zmH(wi:TI)(m:List (Option Nat))(g:TIn TG)(tc:TIn TT)(te:TIn TE):TE:=fun σ H Q=>wi σ H fun J H1=>∀D,H1 D=none→∀s3 ex,
 ∃W:Nat→Nat→St→Hp→Prop,(∃k,W 0 k (inn m σ) (upd H1 D (.lst [])))∧∀i k σ' H',W i k σ' H'→
  (J.stop i H'∧Q (.ref D) H')∨(J.go i H'∧∃N:St→Hp→Prop,(∀σ' H',N σ' H'→∃k',k'<k∧W (i+1) k' σ' H')∧
   ∀x H2,J.yld i H' x H2→g s3 (upd H1 D (.lst [])) ex x σ' H2 fun σ2 H3=>tc s3 (upd H1 D (.lst [])) ex σ2 H3 fun b H4=>
    if b=true then te s3 (upd H1 D (.lst [])) ex σ2 H4 fun v H5=>∃xs,H5 D=some (.lst xs)∧xs.length<sizeLine∧N σ2 (upd H5 D (.lst (xs++[v]))) else N σ2 H4)
section
variable {X:Cx} {elt iter tg:Expr} {ifs:List Expr} {scope:Scope} {pos:Pos} {N':List Str} {m:List (Option Nat)} {wi:TI} {g:TIn TG} {tc:TIn TT} {te:TIn TE}
theorem zmI{pins:List (Addr×Obj)}{σ:St}{H:Hp}{s:Shared}{fp:List Addr}{h₁:Heap}{tk:Nat}(cs:CompScope X N' m scope)(I:Inv X pins σ H s)(f:∀b∈fp,FpOk X pins H b)(fo:∀b∈fp,b<s.heap.objs.size)
  (hns:h₁.Ns s.heap.objs.size (fun x=>(([]:List (Str×Value)).reverse.lookup x))) (hk:∀b o,s.heap.get? b=some o→h₁.get? b=some o) :
  Inv (cxC X N' scope s H fp) [] (inn m σ) H { s with heap:=h₁,toks:=tk }:=by
 have hfree:∀y∈scope.names,y.2=.free→∃c,X.env.cells.lookup y.1=some c:=fun y hy hf=>I.ok.has y.1 (cs.free y hy hf)
 have hcl:∀x c,(ziG X.env.cells scope.names []).lookup x=some c→X.env.cells.lookup x=some c:=fun x c e=>ziH e hfree
 refine⟨⟨I.ok.mod,cs.kind,I.ok.glob,I.ok.blt,Nat.le_refl _,fun x y c e1 e2=>I.ok.inj x y c (hcl x c e1) (hcl y c e2),fun x hx=>?_,fun x c hx=>(by cases hx),I.ok.hd,I.ok.frames,.inl rfl,fun b hb=>⟨Nat.ne_of_lt (fo b hb),fun x c e=>(f b hb).2.2.2.2.1 x c (hcl x c e)⟩,
  fun b o e=>I.bs b o e,Nat.le_trans I.ok.bsz I.sz,fun b o e hb=>?_,fun b hb z=>?_,I.stack,I.stkFree⟩,
  rfl,I.bare,Un.kept hk,⟨_,hns,fun i x v h1 h2 h3=>?_⟩,fun x c e=>?_,I.hok.fresh (Nat.le_refl _),fun x c e=>I.freeC x c (hcl x c e),fun p hp=>(by cases hp),I.hok.kept hk,?_⟩
 ·have hx':(relabel scope X.env).names.lookup x=some .cell∨(relabel scope X.env).names.lookup x=some .free:=hx
  have e:(relabel scope X.env).names.lookup x=(scope.names.lookup x).map fun k=>if (k==NameKind.free&&X.env.scope.kind==.function&&X.env.kindOf x==some .cell) then NameKind.cell else k:=zcf
  rw[e] at hx'
  have hf:(x,NameKind.free)∈scope.names:=by
   cases q:scope.names.lookup x with
   | none=>rw[q] at hx';simp at hx'
   | some k=>
    rw[q] at hx'
    have hm:=PySem.mem_of_lookup q
    by_cases hk2:k=.free
    ·subst hk2;exact hm
    ·have hk':(k==NameKind.free)=false:=by simpa using hk2
     simp only[hk',Option.map_some,Bool.false_and,Bool.false_eq_true,if_false,Option.some.injEq] at hx'
     rcases hx' with z | z
     ·exact absurd z (cs.nocell _ hm)
     ·exact absurd z hk2
  obtain⟨c,hc⟩:=zgW (cells:=X.env.cells) (acc:=[]) hf
  exact zbz hc
 ·rcases(f b hb).2.2.2.1 with z | z
  ·exact I.ok.noex b o e z
  ·exact absurd (Nat.lt_of_lt_of_le (Heap.lt_size (I.ok.bs b o e).1) z) (Nat.lt_irrefl _)
 ·rcases List.mem_cons.mp (I.stkSub b z) with q | q
  ·exact(f b hb).2.1 q
  ·exact(f b hb).2.2.1 q
 ·unfold inn at h2
  rw[List.getElem?_map] at h2
  cases q:m[i]? with
  | none=>rw[q] at h2;cases h2
  | some o=>
   rw[q] at h2
   cases o with
   | none=>cases h2
   | some j=>
    simp only[Option.map_some,Option.some.injEq] at h2
    have h2':σ[j]?=some (some v):=by
     cases z:σ[j]? with
     | none=>rw[z] at h2;cases h2
     | some a=>rw[z] at h2;simp at h2;rw[h2]
    obtain⟨hN,hfr⟩:=cs.cap i j x q h1
    have hfm:=PySem.mem_of_lookup hfr
    obtain⟨m0,hn0,hl⟩:=I.loc
    have hkind:=cs.free _ hfm rfl
    have hvis:Vis X.env.scope x:=hkind.elim (fun z=>.inr (.inl z)) (fun z=>.inr (.inr z))
    obtain⟨u,ru,lu⟩:=hl j x v hN h2' hvis
    refine⟨u,ru,.inr ⟨?_,?_⟩⟩
    ·show(relabel scope X.env).names.lookup x=some .cell∨(relabel scope X.env).names.lookup x=some .free
     have e:(relabel scope X.env).names.lookup x=(scope.names.lookup x).map fun k=>if (k==NameKind.free&&X.env.scope.kind==.function&&X.env.kindOf x==some .cell) then NameKind.cell else k:=zcf
     rw[e,hfr]
     simp only[Option.map_some]
     split
     ·exact .inl rfl
     ·exact .inr rfl
    ·rcases lu with⟨k,_⟩ | ⟨_,c,e,z⟩
     ·rcases hkind with z | z<;>· rw[k] at z;cases z
     ·obtain⟨c',hc'⟩:=zbz (zgW (cells:=X.env.cells) (acc:=[]) hfm).choose_spec
      have:=hcl x c' hc'
      rw[e] at this
      cases this
      obtain⟨oc,hoc,hd⟩:=z
      exact⟨c,hc',oc,hk c oc hoc,hd⟩
 ·obtain⟨v,oc,hoc,hd⟩:=I.cell x c (hcl x c e)
  exact⟨v,oc,hk c oc hoc,hd⟩
 ·show(inn m σ).length=N'.length
  unfold inn
  rw[List.length_map,cs.len]
theorem zhN{use:Option (Value→Sem Unit)}{Q':Value→Shared→Prop}{pins:List (Addr×Obj)}{s:Shared}{σ:St}{H:Hp}{Q:VK}
  (hc:X.calm=true) (cs:CompScope X N' m scope) (hi:PI X tg iter wi) (hg:∀s3 H3 ex,PG (cxC X N' scope s3 H3 ex) tg (g s3 H3 ex)) (ht:∀s3 H3 ex,PTs (cxC X N' scope s3 H3 ex) ifs (tc s3 H3 ex))
  (he:∀s3 H3 ex,PE (cxC X N' scope s3 H3 ex) elt (te s3 H3 ex)) (I:Inv X pins σ H s) (h:zmH wi m g tc te σ H Q)
  (fin:∀D C s' H',Inv X pins σ H' s'→FpOk X pins H' C→(∃m,s'.heap.Ns C m)→Q (.ref D) H'→compPost (model X.prog X.w) X.A X.xe use Q' (.ref D) C (.ok .next) s') :
  wpAny (model X.prog X.w) X.A (eval iter X.env) (fun x s₁=>wpAny (model X.prog X.w) X.A (pyIter x) (fun it s₂=>wpAny (model X.prog X.w) X.A (newList []) (fun acc s₃=>
   wpAny (model X.prog X.w) X.A (newFunctionEnv scope X.env.globals (ziG X.env.cells scope.names []) [] X.env.qual none .none (some X.env)) (fun cenv s₄=>
    codeAny (model X.prog X.w) X.A (.compStart (.ListComp elt [⟨tg,iter,ifs,0⟩] scope pos) 0 it acc { cenv with scope:=relabel scope X.env }) (compPost (model X.prog X.w) X.A X.xe use Q' acc cenv.locals) s₄) X.xe s₃) X.xe s₂) X.xe s₁) X.xe s:=by
 refine thn (hi pins s σ H _ I h) fun v s1 h1=>thn h1 fun itv s2 h2=>?_
 obtain⟨it,fp,tn,J,H2,e,I2,T,st2,f2,h⟩:=h2
 subst e
 refine wpAny_newObj_type (wpAny_newFunctionEnv cs.nocell (by intro y hy;simp at hy) (fun h₁ hns₁ hsb₁=>?_) cs.kind)
 have hf:H2 s2.heap.objs.size=none:=I2.hok.fresh (Nat.le_refl _)
 obtain⟨W,⟨k0,w0⟩,turn⟩:=h s2.heap.objs.size hf { s2 with heap:=s2.heap.push { cls:=.type "list",data:=.seq ([]:List Value).toArray } } fp
 have I3:Inv X pins σ (upd H2 s2.heap.objs.size (.lst [])) { s2 with heap:=s2.heap.push { cls:=.type "list",data:=.seq ([]:List Value).toArray } }:=I2.lnew (its:=[]) (t':=s2.toks) .nil (by simp)
 have fpO:∀b∈fp,b<s2.heap.objs.size:=fun b hb=>by
  obtain⟨o,e,_⟩:=T.obj _ _ st2 b hb
  exact Heap.lt_size e
 have f3:∀b∈fp,FpOk X pins (upd H2 s2.heap.objs.size (.lst [])) b:=fun b hb=>⟨by rw[zal (Nat.ne_of_lt (fpO b hb))];exact(f2 b hb).1,(f2 b hb).2⟩
 generalize hs3:({ s2 with heap:=s2.heap.push { cls:=.type "list",data:=.seq ([]:List Value).toArray } }:Shared)=s3 at *
 have hC:s3.heap.objs.size=s2.heap.objs.size+1:=by rw[←hs3];exact Heap.size_push ..
 have fp3:∀b∈fp,b<s3.heap.objs.size:=fun b hb=>by rw[hC];exact Nat.lt_succ_of_lt (fpO b hb)
 have k3:∀b o,s2.heap.get? b=some o→s3.heap.get? b=some o:=fun b o e=>by rw[←hs3];exact Heap.get?_push_of_some _ e
 have k1:∀b o,s3.heap.get? b=some o→h₁.get? b=some o:=fun b o e=>hsb₁.extBut b o (Nat.ne_of_lt (Heap.lt_size e)) (Heap.get?_push_of_some _ e)
 have J0:=zmI (tk:=s3.toks+([]:List (Str×Value)).length) cs I3 f3 fp3 hns₁ k1
 have st1:tn 0 h₁:=T.keep _ _ _ st2 fun b _ o e=>k1 b o (k3 b o e)
 have fpY:∀{H':Hp},(∀b∈fp,H' b=none)→∀b∈fp,FpOk (cxC X N' scope s3 (upd H2 s2.heap.objs.size (.lst [])) fp) [] H' b:=fun hn b hb=>
  ⟨hn b hb,Nat.ne_of_lt (fp3 b hb),J0.ok.exfs b hb,.inl hb,(J0.ok.exf b hb).2,fun p hp=>by cases hp⟩
 have hfr:∀b∈fp,(upd H2 s2.heap.objs.size (.lst [])) b=none:=fun b hb=>(f3 b hb).1
 have loop:codeAny (model X.prog X.w) X.A (.compLoop (.ListComp elt [⟨tg,iter,ifs,0⟩] scope pos) 0 (.ref it) (.ref s2.heap.objs.size) (compEnvC scope (ziG X.env.cells scope.names []) s3.heap.objs.size X.env))
   (compPost (model X.prog X.w) X.A X.xe use Q' (.ref s2.heap.objs.size) s3.heap.objs.size) { s3 with heap:=h₁,toks:=s3.toks+([]:List (Str×Value)).length }:=by
  refine ziI (fun n s'=>∃i σ' H',Inv (cxC X N' scope s3 (upd H2 s2.heap.objs.size (.lst [])) fp) [] σ' H' s'∧tn i s'.heap∧(∀b∈fp,H' b=none)∧W i n σ' H') ?_ k0 ⟨0,_,_,J0,st1,hfr,w0⟩
  rintro n s4 ⟨i,σ4,H4,I4,st4,fr4,w4⟩
  rcases turn i n σ4 H4 w4 with⟨stop,qn⟩ | ⟨go,N,hN,step⟩
  ·refine thn (T.done (cxC X N' scope s3 (upd H2 s2.heap.objs.size (.lst [])) fp) rfl rfl rfl hc i [] s4 σ4 H4 _ I4 (fpY fr4) st4 stop) fun r s5 ⟨hr,I5⟩=>?_
   subst hr
   have hch:∀b∈fp,(b∈X.ex∨X.s₀.heap.objs.size≤b)∧b≠X.env.locals∧(∀x c,X.env.cells.lookup x=some c→c≠b)∧∀p∈X.pn++pins,p.1≠b:=fun b hb=>⟨(f2 b hb).2.2.2.1,(f2 b hb).2.1,(f2 b hb).2.2.2.2.1,(f2 b hb).2.2.2.2.2⟩
   have I6:Inv X pins σ H4 s5:=I3.call' (ch:=fp) I5.os I5.base I5.hok I5.bare hch
   obtain⟨m5,hn5,_⟩:=id I5.loc
   exact fin _ _ s5 H4 I6 (I3.fpOk (Nat.le_refl _) I5.free) ⟨m5,hn5⟩ qn
  ·refine thn (T.item (cxC X N' scope s3 (upd H2 s2.heap.objs.size (.lst [])) fp) rfl rfl rfl hc i [] s4 σ4 H4 _ I4 (fpY fr4) st4 go) fun r s5 ⟨u,hr,h5⟩=>?_
   subst hr
   refine thn h5 fun _ s6 ⟨x,H6,I6,r6,y6,st6,fr6⟩=>?_
   have I6':=I6.pinned (fpY fr6) (T.obj _ _ st6)
   refine thn (hg _ _ _ _ s6 σ4 H6 x u _ I6' r6 (step x H6 y6)) fun _ s7 ⟨σ7,H7,I7,q7⟩=>?_
   refine thn (ht _ _ _ _ s7 σ7 H7 _ I7 q7) fun b s8 ⟨H8,I8,q8⟩=>?_
   have again:∀{s9:Shared} {σ9:St} {H9:Hp},Inv (cxC X N' scope s3 (upd H2 s2.heap.objs.size (.lst [])) fp) ([]++zhC fp s6.heap) σ9 H9 s9→N σ9 H9→∃m,m<n∧∃i σ' H',Inv (cxC X N' scope s3 (upd H2 s2.heap.objs.size (.lst [])) fp) [] σ' H' s9∧tn i s9.heap∧(∀b∈fp,H' b=none)∧W i m σ' H':=fun{s9 σ9 H9} I9 n9=>by
    obtain⟨m',hm,w9⟩:=hN σ9 H9 n9
    refine⟨m',hm,i+1,σ9,H9,I9.unpinned,T.keep _ _ _ st6 fun b hb o e=>(I9.pin (b,o) (List.mem_append_right _ (List.mem_append_right _ (zcZ hb e)))).1,fun b hb=>?_,w9⟩
    obtain⟨o,e,d⟩:=T.obj _ _ st6 b hb
    exact(I9.pin (b,o) (List.mem_append_right _ (List.mem_append_right _ (zcZ hb e)))).2.1
   cases b with
   | false=>exact again I8 q8
   | true=>
    rw[if_pos rfl]
    refine thn (he _ _ _ _ s8 σ7 H8 _ I8 q8) fun y s9 ⟨v9,H9,I9,r9,xs,hD,hz,q9⟩=>?_
    refine thn (zdy _ s9 σ7 H9 (.ref s2.heap.objs.size) [v9] (.ref s2.heap.objs.size) [y] (fun _ H'=>N σ7 H') I9 rfl (.cons r9 .nil) ⟨_,xs,v9,rfl,rfl,hD,hz,q9⟩) fun _ s10 ⟨_,H10,I10,_,q10⟩=>?_
    exact again I10 q10
 exact codeAny_compStart_list loop (T.self _ 0 _ _ _ st1 loop)
theorem zon(hc:X.calm=true)(cs:CompScope X N' m scope)(hi:PI X tg iter wi)(hg:∀s3 H3 ex,PG (cxC X N' scope s3 H3 ex) tg (g s3 H3 ex))(ht:∀s3 H3 ex,PTs (cxC X N' scope s3 H3 ex) ifs (tc s3 H3 ex))
  (he:∀s3 H3 ex,PE (cxC X N' scope s3 H3 ex) elt (te s3 H3 ex)) (hs:∀x,foldedSetIterable iter X.env x=pure x:=by intro _;rfl):PE X (.ListComp elt [⟨tg,iter,ifs,0⟩] scope pos) (zmH wi m g tc te):=by
 intro pins s σ H Q I h
 rw[eval_ListComp]
 have hfree:∀y∈scope.names,y.2=.free→∃c,X.env.cells.lookup y.1=some c:=fun y hy hf=>I.ok.has y.1 (cs.free y hy hf)
 refine wpAny_comprehension_free (use:=none) rfl hs (zgC hfree) cs.kind cs.names (zhN hc cs hi hg ht he I h fun D C s' H' I' fC ⟨mC,hn⟩ q=>?_)
 refine⟨mC,hn,fun h' sb=>⟨.ref D,H',I'.turned (t':=s'.toks) (fun b o hb e=>(sb.2 b hb).trans e) fC.1 fC.2.1 fC.2.2.2.1 fC.2.2.2.2.1 fC.2.2.2.2.2,rfl,q⟩⟩
theorem ziJ{i:Nat}{x:Str}{pos' posS:Pos}(hN:X.N.Nodup)(hix:X.N[i]?=some x)(hx:Loc X.env.scope x)
  (hc:X.calm=true) (cs:CompScope X N' m scope) (hi:PI X tg iter wi) (hg:∀s3 H3 ex,PG (cxC X N' scope s3 H3 ex) tg (g s3 H3 ex)) (ht:∀s3 H3 ex,PTs (cxC X N' scope s3 H3 ex) ifs (tc s3 H3 ex))
  (he:∀s3 H3 ex,PE (cxC X N' scope s3 H3 ex) elt (te s3 H3 ex)) (hs:∀x,foldedSetIterable iter X.env x=pure x:=by intro _;rfl)
  (hsw:swapsWith (.ListComp elt [⟨tg,iter,ifs,0⟩] scope pos) (some (.Name x pos')) posS.line X.env=pure true:=by rfl)
  (hf:X.fn x=true∨X.env.scope.names.lookup x=some .local:=by first | exact .inl rfl | exact .inr rfl | assumption) :
  PS X (.Assign [.Name x pos'] (.ListComp elt [⟨tg,iter,ifs,0⟩] scope pos) posS) (zqn (zmH wi m g tc te) (zmt i)):=by
 intro pins s σ H D I h
 have hfree:∀y∈scope.names,y.2=.free→∃c,X.env.cells.lookup y.1=some c:=fun y hy hf=>I.ok.has y.1 (cs.free y hy hf)
 rw[exec_Assign_Name_used _ _ _ _ hsw]
 refine wpAny_bind (wpAny_standAt (wpAny_bind ?_))
 show wpAny _ _ (do let _ ←comprehension (.ListComp elt [⟨tg,iter,ifs,0⟩] scope pos) scope X.env _ (newList []) false (eval iter X.env) (some (assign (.Name x pos') X.env))) _ _ s
 refine wpAny_bind (wpAny_mono (wpAny_comprehension_free (use:=some (assign (.Name x pos') X.env)) (Q:=fun _ s'=>SP X pins D .next s') rfl hs (zgC hfree) cs.kind cs.names (zhN hc cs hi hg ht he I h fun A C s' H' I' fC ⟨mC,hn⟩ q=>?_)) (fun _ s' hq=>wpAny_pure (wpAny_pure hq)) fun _ _ e=>e)
 show wpAny _ _ (assign (.Name x pos') X.env (.ref A)) _ _ _
 refine wpAny_assign_Name (zhz I' hN hix hx (show RelV (.ref A) (.ref A) from rfl) (fun s2 I2 hsb=>?_) hf)
 obtain⟨a,sba,ha⟩:=hsb
 have hCa:C≠a:=by
  rcases ha with rfl | ha
  ·exact fC.2.1
  ·exact fun z=>fC.2.2.2.2.1 x a ha z.symm
 refine⟨mC,hn.sameBut sba hCa,fun h' sb=>⟨_,H',I2.turned (t':=s2.toks) (fun b o hb e=>(sb.2 b hb).trans e) fC.1 fC.2.1 fC.2.2.2.1 fC.2.2.2.2.1 fC.2.2.2.2.2,q⟩⟩
end
end L2
namespace L2
open PySem PySem.Spec PyProof.Rows
theorem znB:2≤sizeLine:=by decide
theorem Inv.turnedS{X:Cx}{pins:List (Addr×Obj)}{σ:St}{H:Hp}{s:Shared}{h':Heap}{t':Nat}{fp:List Addr}(I:Inv X pins σ H s)(k:∀b o,b∉fp→s.heap.get? b=some o→h'.get? b=some o)(f:∀b∈fp,FpOk X pins H b) :
  Inv X pins σ H { s with heap:=h',toks:=t' }:=by
 have nit:∀b u,H b=some u→b∉fp:=fun b u e z=>by rw[(f b z).1] at e;cases e
 refine I.step (g':=s.gens) (d':=s.drawn) (ch:=fp) (fun b hb=>⟨(f b hb).2.2.2.1,(f b hb).2.1,(f b hb).2.2.2.2.1,(f b hb).2.2.2.2.2⟩) (fun b o _ _ hc e _=>k b o hc e) (fun b o _ _ hc e _=>⟨o.slots,k b o hc e⟩) (fun _ _ _ _ n=>n)
  (fun b o hc e=>⟨o,k b o hc e⟩) (fun _ _ e=>e) (fun _ _ _ e=>e) (fun b ps e=>⟨#[],by rw[e];simp⟩) (fun m hm=>?_) (fun b u e=>?_) I.bare
 ·obtain⟨o,es,ep,ho,r⟩:=hm
  exact⟨o,es,ep,k _ o (fun z=>(f _ z).2.1 rfl) ho,r⟩
 ·refine(I.hok b u e).stay (fun c v hc q=>k c v ?_ q) (fun _ q=>q) fun _ _ q=>q
  rcases hc with z | z
  ·rw[z];exact nit b u e
  ·exact nit c _ z
theorem Inv.turnedNew{X:Cx}{pins:List (Addr×Obj)}{σ:St}{H:Hp}{s:Shared}{h':Heap}{t':Nat}{fp:List Addr}{a:Addr}{o:HO}(I:Inv X pins σ H s)(k:∀b o,b∉fp→s.heap.get? b=some o→h'.get? b=some o)(f:∀b∈fp,FpOk X pins H b)
  (hp:s.heap.objs.size≤a) (new:ObjOk X.prog X.w (upd H a o) h' a o):Inv X pins σ (upd H a o) { s with heap:=h',toks:=t' }:=by
 have hfree:H a=none:=I.hok.fresh hp
 have nit:∀b u,H b=some u→b∉fp:=fun b u e z=>by rw[(f b z).1] at e;cases e
 refine I.step (g':=s.gens) (d':=s.drawn) (ch:=fp) (fun b hb=>⟨(f b hb).2.2.2.1,(f b hb).2.1,(f b hb).2.2.2.2.1,(f b hb).2.2.2.2.2⟩) (fun b o _ _ hc e _=>k b o hc e) (fun b o _ _ hc e _=>⟨o.slots,k b o hc e⟩)
  (fun b o _ q n=>by rw[zal (Nat.ne_of_lt (Nat.lt_of_lt_of_le (Heap.lt_size q) hp))];exact n)
  (fun b o hc e=>⟨o,k b o hc e⟩) (fun b zs q=>by rw[zal (zar q hfree)];exact q) (fun b ob zs q=>by rw[zal (zar q hfree)];exact q) (fun b ps q=>⟨#[],by rw[zal (zar q hfree),q];simp⟩) (fun m hm=>?_) (fun b u q=>?_) I.bare
 ·obtain⟨o,es,ep,ho,r⟩:=hm
  exact⟨o,es,ep,k _ o (fun z=>(f _ z).2.1 rfl) ho,r⟩
 ·by_cases hb:b=a
  ·subst hb;rw[zaq] at q;cases q;exact new
  ·rw[zal hb] at q
   refine(I.hok b u q).stay (fun c v hc z=>k c v ?_ z) (fun c z=>by rw[zal (zar z hfree)];exact z) fun c zs z=>by rw[zal (zar z hfree)];exact z
   rcases hc with rfl | hc
   ·exact nit _ _ q
   ·exact nit _ _ hc
noncomputable def Its(x:Str):It:=⟨fun i _=>i<x.cps.size,fun i H v H'=>H'=H∧∃c,x.cps[i]?=some c∧v=.str ⟨#[c]⟩,fun i _=>i=x.cps.size⟩
theorem zmJ{P:Program}{w:World}{K:PySem.W.Frag}{tg:Expr}{x:Str}{it:Addr}{n:String}{t:Tok}(hn:["enumerate","zip","dict_itemiterator","dict_reverseitemiterator","odict_iterator","itertools.zip_longest","itertools.pairwise"].contains n=false)
  (W:∀A':Around,A'.handled=none→Walks P w A' it [it] [it] x.cps.size (SignAt x) (fun i h=>h.IsStrIter it n x t i))
  (hs:∀(A:Around) (i:Nat) (s:Shared) (Q:Value→Shared→Prop) (E:Value→Shared→Prop),s.heap.IsStrIter it n x t i→Q (.ref it) s→wpAny (model P w) A (pyIter (.ref it)) Q E s):Turn P w K tg (Its x) [it] it (fun i h=>h.IsStrIter it n x t i) where
 mem:=by simp
 obj:=fun i h st b hb=>by
  have e:b=it:=by simpa using hb
  subst e
  obtain⟨o,e,c,d⟩:=st
  exact⟨o,e,fun v z=>by rw[d] at z;cases z⟩
 keep:=fun i h h' st k=>by
  obtain⟨o,e,r⟩:=st
  exact⟨o,k it (by simp) o e,r⟩
 item:=by
  intro X hP hw hK hc i pins s σ H E I hf st hg
  subst hP hw hK
  refine(W X.A (I.ok.hd hc)).item i s _ _ hg st fun v h' tk hv st' kk=>?_
  obtain⟨c,u,hx,rfl⟩:=hv
  have I1:Inv X pins σ H { s with heap:=h',toks:=tk }:=I.turnedS kk hf
  obtain⟨o,e,c',d⟩:=id st'
  exact⟨_,rfl,zmv (s:={ s with heap:=h',toks:=tk }) e c' d hn ⟨.str ⟨#[c]⟩,H,I1,⟨u,rfl⟩,⟨rfl,c,hx,rfl⟩,st',fun b hb=>(hf b hb).1⟩⟩
 done:=by
  intro X hP hw hK hc i pins s σ H E I hf st hg
  subst hP hw hK
  have e:i=x.cps.size:=hg
  subst e
  exact(W X.A (I.ok.hd hc)).done s _ _ st fun h' tk kk=>⟨rfl,I.turnedS kk hf⟩
 self:=hs
section
variable {X:Cx} {tg:Expr}
theorem zpu{pins:List (Addr×Obj)}{σ:St}{H:Hp}{s:Shared}{R:It→Hp→Prop}{E:Value→Shared→Prop}{x:Str}{t:Tok}(I:Inv X pins σ H s)(q:R (Its x) H) :
  wpAny (model X.prog X.w) X.A (pyIter (.str x t)) (PIE X pins σ tg R) E s:=by
 have fin:∀(o:Obj) (n:String),(hn:["enumerate","zip","dict_itemiterator","dict_reverseitemiterator","odict_iterator","itertools.zip_longest","itertools.pairwise"].contains n=false)→
   (W:∀A':Around,A'.handled=none→Walks X.prog X.w A' s.heap.objs.size [s.heap.objs.size] [s.heap.objs.size] x.cps.size (SignAt x) (fun i h=>h.IsStrIter s.heap.objs.size n x t i))→
   (hs:∀(A:Around) (i:Nat) (s':Shared) (Q:Value→Shared→Prop) (E:Value→Shared→Prop),s'.heap.IsStrIter s.heap.objs.size n x t i→Q (.ref s.heap.objs.size) s'→wpAny (model X.prog X.w) A (pyIter (.ref s.heap.objs.size)) Q E s')→
   (s.heap.push o).IsStrIter s.heap.objs.size n x t 0→PIE X pins σ tg R (.ref s.heap.objs.size) { s with heap:=s.heap.push o }:=fun o n hn W hs st=>by
  refine⟨s.heap.objs.size,[s.heap.objs.size],_,_,H,rfl,I.kept (t':=s.toks) fun b o e=>Heap.get?_push_of_some _ e,zmJ hn W hs,st,fun b hb=>?_,q⟩
  have e:b=s.heap.objs.size:=by simpa using hb
  subst e
  exact I.fpOk (Nat.le_refl _) (I.hok.fresh (Nat.le_refl _))
 cases ha:x.cps.all (·<128)
 ·exact wpAny_pyIter_wide ha (fin _ _ (by decide) (fun A' hA=>Walks.strWide hA _ x t) (fun _ _ _ _ _ st q=>wpAny_pyIter_striter_wide st q) ⟨_,Heap.get?_push_size _ rfl,rfl,rfl⟩)
 ·exact wpAny_pyIter_ascii ha (fin _ _ (by decide) (fun A' hA=>Walks.strAscii hA _ x t) (fun _ _ _ _ _ st q=>wpAny_pyIter_striter_ascii st q) ⟨_,Heap.get?_push_size _ rfl,rfl,rfl⟩)
noncomputable def zrO(K:PySem.W.Frag)(tl:TE):TI:=fun σ H R=>tl σ H fun x H1=>(∃a,x=.ref a∧(∃xs,SqL K H1 a xs)∧R (Itl K a) H1)∨(∃a,x=.ref a∧(∃xs,SqT K H1 a xs)∧R (Itt K a) H1)∨(∃z,x=.str z∧R (Its z) H1)
theorem zpv{l:Expr}{tl:TE}(hl:PE X l tl):PI X tg l (zrO X.K tl):=by
 intro pins s σ H R I h
 refine thn (hl pins s σ H _ I h) fun v s1 ⟨x,H1,I1,r1,q1⟩=>?_
 rcases q1 with⟨a,e,⟨xs,hq⟩,q⟩ | ⟨a,e,⟨xs,hq⟩,q⟩ | ⟨z,e,q⟩
 ·subst e
  cases r1
  obtain⟨its,rv,p,hz⟩:=I1.list hq
  refine wpAny_pyIter_list p.isList ?_
  refine⟨s1.heap.objs.size,[s1.heap.objs.size],_,_,H1,rfl,I1.kept (t':=s1.toks) fun b o e=>Heap.get?_push_of_some _ e,zhB a _,⟨_,Heap.get?_push_size _ rfl,rfl,rfl⟩,fun b hb=>?_,q⟩
  have e:b=s1.heap.objs.size:=by simpa using hb
  subst e
  exact I1.fpOk (Nat.le_refl _) (I1.hok.fresh (Nat.le_refl _))
 ·subst e
  cases r1
  obtain⟨its,rv,p,hz⟩:=I1.tuple hq
  refine wpAny_pyIter_tuple (show s1.heap.IsTuple a its.toArray from p) ?_
  refine⟨s1.heap.objs.size,[s1.heap.objs.size],_,_,H1,rfl,I1.kept (t':=s1.toks) fun b o e=>Heap.get?_push_of_some _ e,zjT a _,⟨_,Heap.get?_push_size _ rfl,rfl,rfl⟩,fun b hb=>?_,q⟩
  have e:b=s1.heap.objs.size:=by simpa using hb
  subst e
  exact I1.fpOk (Nat.le_refl _) (I1.hok.fresh (Nat.le_refl _))
 ·subst e
  obtain⟨t,rfl⟩:=r1
  exact zpu I1 q
end
noncomputable def Ite(K:PySem.W.Frag)(a:Addr):It:=
 ⟨fun i H=>∃xs x,SqL K H a xs∧xs[i]?=some x,fun i H v H'=>∃t,v=.ref t∧H t=none∧∀xs,SqL K H a xs→∃x,xs[i]?=some x∧H'=upd H t (.tup [.int i,x]),fun i H=>∃xs,SqL K H a xs∧xs.length≤i⟩
noncomputable def Itz(K:PySem.W.Frag)(a b:Addr):It:=
 ⟨fun i H=>∃xs ys x y,SqL K H a xs∧SqL K H b ys∧xs[i]?=some x∧ys[i]?=some y,fun i H v H'=>∃t,v=.ref t∧H t=none∧∀xs ys,SqL K H a xs→SqL K H b ys→∃x y,xs[i]?=some x∧ys[i]?=some y∧H'=upd H t (.tup [x,y]),
  fun i H=>∃xs ys,SqL K H a xs∧SqL K H b ys∧(xs.length≤i∨ys.length≤i)⟩
theorem znC{H:Hp}{t:Addr}{o:HO}{fp:List Addr}(h:∀b∈fp,H b=none)(ht:∀b∈fp,b≠t):∀b∈fp,upd H t o b=none:=fun b hb=>by rw[zal (ht b hb)];exact h b hb
theorem zj3{prog:Program}{w:World}{A:Around}{E:Value→Shared→Prop}{s:Shared}{elts:List Expr}{x1}{pos:Pos}{e it T:Addr}{i:Int}{old:Value}{Q:Unit→Shared→Prop}(he:IsEnumOut s.heap e it i old T)
  (hQ:∀h',IsEnum h' e it i old→Heap.SameBut e s.heap h'→Q () { s with heap:=h' }) :
  wpAny (model prog w) A (letOwnedTupleGo (.Tuple elts x1 pos) (.ref e) (.ref T)) Q E s:=by
 unfold letOwnedTupleGo
 refine wpAny_bind (wpAny_load he ?_)
 show wpAny _ _ (if (["enumerate","zip","dict_itemiterator","dict_reverseitemiterator","odict_iterator","itertools.zip_longest","itertools.pairwise"].contains "enumerate" &&
   (#[rawInt T,.bool false,.ref it,rawInt i,.none,old]:Array Value)[0]?==some (rawInt T))=true then _ else _) Q E s
 rw[if_pos (by simp)]
 refine wpAny_bind (wpAny_rule ?_)
 show wpAny _ _ (setField (.ref e) 0 .none) Q E s
 exact wpAny_setField_rec he (by simp) fun h' hz' hs'=>hQ h' hz' hs'
theorem zkW{P:Program}{w:World}{K:PySem.W.Frag}{elts:List Expr}{x1}{pos:Pos}(a e it:Addr)(hne:e≠it):Turn P w K (.Tuple elts x1 pos) (Ite K a) [e,it] e (fun i h=>(∃old,IsEnum h e it i old)∧h.IsListIter it a i) where
 mem:=by simp
 obj:=fun i h st b hb=>by
  obtain⟨⟨old,h1⟩,o,h2,c,d⟩:=st
  rcases List.mem_cons.mp hb with rfl | hb
  ·exact⟨_,h1,fun v z=>by have z':Data.fields _=Data.cell v:=z;cases z'⟩
  ·have e:b=it:=by simpa using hb
   subst e
   exact⟨o,h2,fun v z=>by rw[d] at z;cases z⟩
 keep:=fun i h h' st k=>by
  obtain⟨⟨old,h1⟩,h2⟩:=st
  exact⟨⟨old,k e (by simp) _ h1⟩,h2.at fun o q=>k it (by simp) o q⟩
 item:=by
  intro X hP hw hK hc i pins s σ H E I hf st hg
  subst hP hw hK
  obtain⟨xs,x,hq,hx⟩:=hg
  obtain⟨its,rv,p,hz⟩:=I.list hq
  obtain⟨u,hu,ru⟩:=rv.get hx
  obtain⟨⟨old,h1⟩,h2⟩:=st
  refine wpAny_pyNext_enum_item h1 h2 p.isList (x:=u) (by simpa using hu) hne fun h' e1 e2 e3 e4 kk=>?_
  refine⟨_,rfl,zj3 e1 fun h'' e5 sb=>?_⟩
  have hte:s.heap.objs.size≠e:=Nat.ne_of_gt (Heap.lt_size h1)
  have hti:s.heap.objs.size≠it:=by obtain⟨o,q,_⟩:=h2;exact Nat.ne_of_gt (Heap.lt_size q)
  have hT:h''.get? s.heap.objs.size=some { cls:=.type "tuple",data:=.seq #[.int i s.toks,u] }:=sb.extBut _ _ hte e3
  have hfree:H s.heap.objs.size=none:=I.hok.fresh (Nat.le_refl _)
  have new:ObjOk X.prog X.w (upd H s.heap.objs.size (.tup [.int i,x])) h'' s.heap.objs.size (.tup [.int i,x]):=⟨znB,[.int i s.toks,u],.cons ⟨_,rfl⟩ (.cons ru .nil),⟨_,hT,rfl,_,rfl⟩⟩
  refine⟨.ref s.heap.objs.size,upd H s.heap.objs.size (.tup [.int i,x]),I.turnedNew (fp:=[e,it]) (fun b o hb q=>sb.extBut b o (fun z=>hb (by simp[z])) (kk b o (fun z=>hb (by simp[z])) (fun z=>hb (by simp[z])) q)) hf (Nat.le_refl _) new,rfl,
   ⟨_,rfl,hfree,fun ys hy=>⟨x,by rw[I.list_inj hy hq];exact hx,rfl⟩⟩,⟨⟨u,e5⟩,e2.extBut sb.extBut (Ne.symm hne)⟩,znC (fun b hb=>(hf b hb).1) fun b hb=>?_⟩
  rcases List.mem_cons.mp hb with rfl | hb
  ·exact hte.symm
  ·have z:b=it:=by simpa using hb
   rw[z];exact hti.symm
 done:=by
  intro X hP hw hK hc i pins s σ H E I hf st hg
  subst hP hw hK
  obtain⟨xs,hq,hx⟩:=hg
  obtain⟨its,rv,p,hz⟩:=I.list hq
  obtain⟨⟨old,h1⟩,h2⟩:=st
  have hl:=rv.length
  exact wpAny_pyNext_enum_end (I.ok.hd hc) h1 h2 p.isList (by simp;omega) fun h' eb=>⟨rfl,I.turnedS (fp:=[e,it]) (t':=s.toks) (fun b o hb q=>eb b o (fun z=>hb (by simp[z])) q) hf⟩
 self:=fun _ _ _ _ _ st h=>by
  obtain⟨⟨old,h1⟩,_⟩:=st
  exact wpAny_pyIter_enum h1 h
end L2
namespace L2
open PySem PySem.Spec PyProof.Rows
section
variable {X:Cx} {elts:List Expr} {x1:Nat} {tpos:Pos}
noncomputable def zqV(K:PySem.W.Frag)(ta:TA):TI:=fun σ H R=>ta σ H fun vs H1=>∃a xs,vs=[.ref a]∧RdL K H1 a xs∧R (Ite K a) H1
theorem zoo{a:Expr}{ta:TA}{p pos:Pos}(hg:Gl X "enumerate")(hm:X.mg "enumerate"=none)(ha:PA X [a] ta)(hs:starEach [a] X.env=[(false,eval a X.env)]:=by rfl):PI X (.Tuple elts x1 tpos) (.Call (.Name "enumerate" p) [a] [] pos) (zqV X.K ta):=by
 intro pins s σ H R I h
 refine Call_ (zeI I hg hm boot_enumerate (PyProof.Rows.callWith_type1 (thn (ha pos pins s σ H _ I h) fun us s1 ⟨vs,H1,I1,r1,q1⟩=>?_) hs rfl))
 obtain⟨l,xs,e,hl,q⟩:=q1
 subst e
 obtain⟨u,rfl,ru⟩:=zcw r1
 cases ru
 obtain⟨z,its,n,r,e⟩:=I1.rdl hl
 refine call_enumerate_1 e fun h' e1 e2 e3 kk=>?_
 refine wpAny_pyIter_enum e1 ?_
 have hne:s1.heap.objs.size+1≠s1.heap.objs.size:=by omega
 refine⟨s1.heap.objs.size+1,[s1.heap.objs.size+1,s1.heap.objs.size],_,_,H1,rfl,I1.kept (t':=s1.toks) kk,zkW l _ _ hne,⟨⟨_,e1⟩,e2⟩,fun b hb=>?_,q⟩
 have hb':s1.heap.objs.size≤b:=by
  rcases List.mem_cons.mp hb with rfl | hb
  ·exact Nat.le_succ _
  ·have e:b=s1.heap.objs.size:=by simpa using hb
   exact Nat.le_of_eq e.symm
 exact I1.fpOk hb' (I1.hok.fresh hb')
theorem zmK{P:Program}{w:World}{K:PySem.W.Frag}(a b z TI TO i1 i2:Addr)(D1:TI≠z∧TO≠z∧i1≠z∧i2≠z∧TI≠TO∧TI≠i1∧TI≠i2∧TO≠i1∧TO≠i2∧i1≠i2):Turn P w K (.Tuple elts x1 tpos) (Itz K a b) [z,TI,TO,i1,i2] z
  (fun i h=>IsZip h z TI TO .none∧IsPair h TI (.ref i1) (.ref i2)∧(∃a b,IsPair h TO a b)∧h.IsListIter i1 a i∧h.IsListIter i2 b i) where
 mem:=by simp
 obj:=fun i h st c hc=>by
  obtain⟨h1,h2,⟨u,v,h3⟩,⟨o1,g1,_,d1⟩,⟨o2,g2,_,d2⟩⟩:=st
  simp only[List.mem_cons,List.not_mem_nil,or_false] at hc
  rcases hc with rfl | rfl | rfl | rfl | rfl
  ·exact⟨_,h1,fun v z=>by have z':Data.fields _=Data.cell v:=z;cases z'⟩
  ·exact⟨_,h2,fun v z=>by have z':Data.seq _ _=Data.cell v:=z;cases z'⟩
  ·exact⟨_,h3,fun v z=>by have z':Data.seq _ _=Data.cell v:=z;cases z'⟩
  ·exact⟨_,g1,fun v z=>by rw[d1] at z;cases z⟩
  ·exact⟨_,g2,fun v z=>by rw[d2] at z;cases z⟩
 keep:=fun i h h' st k=>by
  obtain⟨h1,h2,⟨u,v,h3⟩,h4,h5⟩:=st
  exact⟨k z (by simp) _ h1,k TI (by simp) _ h2,⟨u,v,k TO (by simp) _ h3⟩,h4.at fun o q=>k i1 (by simp) o q,h5.at fun o q=>k i2 (by simp) o q⟩
 item:=by
  intro X hP hw hK hc i pins s σ H E I hf st hg
  subst hP hw hK
  obtain⟨xs,ys,x,y,hq,hq2,hx,hy⟩:=hg
  obtain⟨its,rv,p,hz⟩:=I.list hq
  obtain⟨its2,rv2,p2,hz2⟩:=I.list hq2
  obtain⟨u,hu,ru⟩:=rv.get hx
  obtain⟨v,hv,rw2⟩:=rv2.get hy
  obtain⟨h1,h2,⟨c,d,h3⟩,h4,h5⟩:=st
  obtain⟨d1,d2,d3,d4,d5,d6,d7,d8,d9,d10⟩:=D1
  have lne:∀{l:Addr} {its:List Value},PlainL s.heap l its.toArray→l≠z∧l≠TO∧l≠i1∧l≠i2:=fun{l its} pl=>by
   obtain⟨o,n,e,c1,_,dd⟩:=pl
   obtain⟨o1,g1,c4,_⟩:=h4
   obtain⟨o2,g2,c5,_⟩:=h5
   refine⟨?_,?_,?_,?_⟩
   ·rintro rfl;rw[h1] at e;cases e;simp at c1
   ·rintro rfl;rw[h3] at e;cases e;simp at c1
   ·rintro rfl;rw[g1] at e;cases e;rw[c4] at c1;simp at c1
   ·rintro rfl;rw[g2] at e;cases e;rw[c5] at c1;simp at c1
  obtain⟨e1,e2,e3,e4⟩:=lne p
  obtain⟨f1,f2,f3,f4⟩:=lne p2
  have D:ZipApart z TI TO i1 i2 a b:=⟨d1,d2,d3,d4,d5,d6,d7,d8,d9,d10,e1,e2,e3,e4,f1,f2,f3,f4⟩
  refine wpAny_pyNext_zip_item D h1 h2 h3 h4 h5 p.isList p2.isList (x:=u) (y:=v) (by simpa using hu) (by simpa using hv) fun h' a1 a2 a3 a4 a5 a6 kk=>?_
  refine⟨_,rfl,wpAny_letOwnedTupleGo_zip a1 fun h'' b1 sb=>?_⟩
  have hTz:s.heap.objs.size≠z:=Nat.ne_of_gt (Heap.lt_size h1)
  have hfree:H s.heap.objs.size=none:=I.hok.fresh (Nat.le_refl _)
  have hT:h''.get? s.heap.objs.size=some { cls:=.type "tuple",data:=.seq #[u,v] }:=sb.extBut _ _ hTz a5
  have new:ObjOk X.prog X.w (upd H s.heap.objs.size (.tup [x,y])) h'' s.heap.objs.size (.tup [x,y]):=⟨znB,[u,v],.cons ru (.cons rw2 .nil),⟨_,hT,rfl,_,rfl⟩⟩
  have lt:∀{c o},s.heap.get? c=some o→c≠s.heap.objs.size:=fun e=>Nat.ne_of_lt (Heap.lt_size e)
  refine⟨.ref s.heap.objs.size,upd H s.heap.objs.size (.tup [x,y]),I.turnedNew (fp:=[z,TI,TO,i1,i2]) (t':=s.toks) (fun c o hc q=>sb.extBut c o (fun e=>hc (by simp[e])) (kk c o (fun e=>hc (by simp[e])) (fun e=>hc (by simp[e])) (fun e=>hc (by simp[e])) (fun e=>hc (by simp[e])) q)) hf (Nat.le_refl _) new,rfl,
   ⟨_,rfl,hfree,fun zs ws h6 h7=>⟨x,y,by rw[I.list_inj h6 hq];exact hx,by rw[I.list_inj h7 hq2];exact hy,rfl⟩⟩,
   ⟨b1,sb.extBut _ _ d1 (kk _ _ d1 d5 d6 d7 h2),⟨_,_,sb.extBut _ _ d2 a2⟩,a3.extBut sb.extBut d3,a4.extBut sb.extBut d4⟩,znC (fun b hb=>(hf b hb).1) fun c hc=>?_⟩
  simp only[List.mem_cons,List.not_mem_nil,or_false] at hc
  rcases hc with rfl | rfl | rfl | rfl | rfl
  ·exact lt h1
  ·exact lt h2
  ·exact lt h3
  ·obtain⟨_,g,_⟩:=h4;exact lt g
  ·obtain⟨_,g,_⟩:=h5;exact lt g
 done:=by
  intro X hP hw hK hc i pins s σ H E I hf st hg
  subst hP hw hK
  obtain⟨xs,ys,hq,hq2,hx⟩:=hg
  obtain⟨its,rv,p,hz⟩:=I.list hq
  obtain⟨its2,rv2,p2,hz2⟩:=I.list hq2
  obtain⟨h1,h2,⟨c,d,h3⟩,h4,h5⟩:=st
  obtain⟨d1,d2,d3,d4,d5,d6,d7,d8,d9,d10⟩:=D1
  have lne:∀{l:Addr} {its:List Value},PlainL s.heap l its.toArray→l≠z∧l≠TO∧l≠i1∧l≠i2:=fun{l its} pl=>by
   obtain⟨o,n,e,c1,_,dd⟩:=pl
   obtain⟨o1,g1,c4,_⟩:=h4
   obtain⟨o2,g2,c5,_⟩:=h5
   refine⟨?_,?_,?_,?_⟩
   ·rintro rfl;rw[h1] at e;cases e;simp at c1
   ·rintro rfl;rw[h3] at e;cases e;simp at c1
   ·rintro rfl;rw[g1] at e;cases e;rw[c4] at c1;simp at c1
   ·rintro rfl;rw[g2] at e;cases e;rw[c5] at c1;simp at c1
  obtain⟨e1,e2,e3,e4⟩:=lne p
  obtain⟨f1,f2,f3,f4⟩:=lne p2
  have D:ZipApart z TI TO i1 i2 a b:=⟨d1,d2,d3,d4,d5,d6,d7,d8,d9,d10,e1,e2,e3,e4,f1,f2,f3,f4⟩
  have l1:=rv.length
  have l2:=rv2.length
  have hend:its.toArray[i]?=none∨its2.toArray[i]?=none:=by
   rcases hx with hx | hx
   ·exact .inl (by simp;omega)
   ·exact .inr (by simp;omega)
  exact wpAny_pyNext_zip_end (I.ok.hd hc) D h1 h2 h3 h4 h5 p.isList p2.isList hend fun h' kk=>⟨rfl,I.turnedS (fp:=[z,TI,TO,i1,i2]) (t':=s.toks) (fun c o hc q=>kk c o (fun e=>hc (by simp[e])) (fun e=>hc (by simp[e])) (fun e=>hc (by simp[e])) (fun e=>hc (by simp[e])) q) hf⟩
 self:=fun _ _ _ _ _ st h=>wpAny_pyIter_zip st.1 h
theorem zkX(n:Nat):(n+2:Nat)≠n+4∧(n+3:Nat)≠n+4∧n≠n+4∧(n+1:Nat)≠n+4∧(n+2:Nat)≠n+3∧(n+2:Nat)≠n∧(n+2:Nat)≠n+1∧(n+3:Nat)≠n∧(n+3:Nat)≠n+1∧n≠n+1:=by omega
noncomputable def zrP(K:PySem.W.Frag)(ta:TA):TI:=fun σ H R=>ta σ H fun vs H1=>∃a b,vs=[.ref a,.ref b]∧(∃xs,SqL K H1 a xs)∧(∃ys,SqL K H1 b ys)∧R (Itz K a b) H1
theorem zpw{a b:Expr}{ta:TA}{p pos:Pos}(hg:Gl X "zip")(hm:X.mg "zip"=none)(ha:PA X [a,b] ta)(hs:starEach [a,b] X.env=[(false,eval a X.env),(false,eval b X.env)]:=by rfl)(hs2:starEach [b] X.env=[(false,eval b X.env)]:=by rfl) :
  PI X (.Tuple elts x1 tpos) (.Call (.Name "zip" p) [a,b] [] pos) (zrP X.K ta):=by
 intro pins s σ H R I h
 refine Call_ (zeI I hg hm boot_zip (PyProof.Rows.callWith_type1 (thn (ha pos pins s σ H _ I h) fun us s1 ⟨vs,H1,I1,r1,q1⟩=>?_) (by rw[hs,hs2]) (by rw[hs2];rfl)))
 obtain⟨l,l',e,⟨xs,hl⟩,⟨ys,hl'⟩,q⟩:=q1
 subst e
 obtain⟨u,v,rfl,ru,rv⟩:=ziF r1
 cases ru
 cases rv
 obtain⟨its,_,p1,_⟩:=I1.list hl
 obtain⟨its',_,p2,_⟩:=I1.list hl'
 refine call_zip_2 p1.isList p2.isList fun h' e1 e2 e3 e4 e5 e6 kk=>?_
 refine wpAny_pyIter_zip e1 ?_
 refine⟨s1.heap.objs.size+4,[s1.heap.objs.size+4,s1.heap.objs.size+2,s1.heap.objs.size+3,s1.heap.objs.size,s1.heap.objs.size+1],_,_,H1,rfl,I1.kept (t':=s1.toks) kk,zmK l l' _ _ _ _ _ (zkX _),
  ⟨e1,e2,⟨_,_,e3⟩,e4,e5⟩,fun b hb=>?_,q⟩
 have hb':s1.heap.objs.size≤b:=by
  simp only[List.mem_cons,List.not_mem_nil,or_false] at hb
  rcases hb with rfl | rfl | rfl | rfl | rfl<;>first | exact Nat.le_add_right _ _ | exact Nat.le_refl _
 exact I1.fpOk hb' (I1.hok.fresh hb')
end
end L2
namespace L2
open PySem PySem.Spec PyProof.Rows
inductive D where
 | non | bl (b:Bool) | int (i:Int) | str (x:Str) | tup (ds:List D) | lst (ds:List D) | obj (cn:Str) (fs:List (Str×D)) | dic (kvs:List (Key×D)) | dit (kvs:List (List Key×D))
structure ClsAt (K:PySem.W.Frag) (cn:Str) (C:Addr):Prop where
 at_:PySem.W.nsIn K mainGlobals cn=some (some (.ref C))
 cls:Cls K C
noncomputable def KeyIn(H:Hp):List (List Key×V)→List Addr→Prop
 | [],[]=>True
 | p::ps,b::bs=>H b=some (.tup (p.1.map kV))∧KeyIn H ps bs
 | _,_=>False
theorem KeyIn.mono{H H':Hp}(e:Same H H'):∀{ps:List (List Key×V)} {bs:List Addr},KeyIn H ps bs→KeyIn H' ps bs
 | [],[],h=>h
 | p::ps,b::bs,h=>⟨e _ _ h.1,KeyIn.mono e h.2⟩
 | [],_::_,h=>h.elim
 | _::_,[],h=>h.elim
mutual
noncomputable def Rep(K:PySem.W.Frag)(H:Hp):V→D→Prop
 | v,.non=>v=.non
 | v,.bl b=>v=.bl b
 | v,.int i=>v=.int i
 | v,.str x=>v=.str x
 | v,.tup ds=>∃a xs,v=.ref a∧SqT K H a xs∧Reps K H xs ds
 | v,.lst ds=>∃a xs,v=.ref a∧RdL K H a xs∧Reps K H xs ds
 | v,.obj cn fs=>∃a C dx gs,v=.ref a∧H a=some (.ins C dx gs)∧ClsAt K cn C∧(∀p∈fs,NoAttr K C p.1)∧RepF K H gs fs
 | v,.dic kvs=>∃a ks ep,v=.ref a∧H a=some (.dK ks ep)∧RepK K H ks kvs
 | v,.dit kvs=>∃a ks bs,v=.ref a∧H a=some (.dT ks bs)∧KeyIn H ks bs∧RepT K H ks kvs
noncomputable def Reps(K:PySem.W.Frag)(H:Hp):List V→List D→Prop
 | [],[]=>True
 | v::vs,d::ds=>Rep K H v d∧Reps K H vs ds
 | _,_=>False
noncomputable def RepF(K:PySem.W.Frag)(H:Hp):List (Str×V)→List (Str×D)→Prop
 | [],[]=>True
 | v::vs,d::ds=>(v.1=d.1∧Rep K H v.2 d.2)∧RepF K H vs ds
 | _,_=>False
noncomputable def RepK(K:PySem.W.Frag)(H:Hp):List (Key×V)→List (Key×D)→Prop
 | [],[]=>True
 | v::vs,d::ds=>(v.1=d.1∧Rep K H v.2 d.2)∧RepK K H vs ds
 | _,_=>False
noncomputable def RepT(K:PySem.W.Frag)(H:Hp):List (List Key×V)→List (List Key×D)→Prop
 | [],[]=>True
 | v::vs,d::ds=>(v.1=d.1∧Rep K H v.2 d.2)∧RepT K H vs ds
 | _,_=>False
end
theorem Same.seqT{K:PySem.W.Frag}{H H':Hp}{a:Addr}{xs:List V}(e:Same H H')(h:SqT K H a xs):SqT K H' a xs:=by
 rcases h with(h | ⟨o,h⟩) | h
 ·exact .inl (.inl (e _ _ h))
 ·exact .inl (.inr ⟨o,e _ _ h⟩)
 ·exact .inr h
mutual
theorem Rep.mono{K:PySem.W.Frag}{H H':Hp}(e:Same H H'):∀(v:V) (d:D),Rep K H v d→Rep K H' v d
 | v,.non,h=>by simpa only[Rep] using h
 | v,.bl b,h=>by simpa only[Rep] using h
 | v,.int i,h=>by simpa only[Rep] using h
 | v,.str x,h=>by simpa only[Rep] using h
 | v,.tup ds,h=>by
  simp only[Rep] at h ⊢
  obtain⟨a,xs,h1,h2,h3⟩:=h
  exact⟨a,xs,h1,e.seqT h2,Reps.mono e xs ds h3⟩
 | v,.lst ds,h=>by
  simp only[Rep] at h ⊢
  obtain⟨a,xs,h1,h2,h3⟩:=h
  exact⟨a,xs,h1,e.rdl h2,Reps.mono e xs ds h3⟩
 | v,.obj cn fs,h=>by
  simp only[Rep] at h ⊢
  obtain⟨a,C,dx,gs,h1,h2,h3,h4,h5⟩:=h
  exact⟨a,C,dx,gs,h1,e _ _ h2,h3,h4,RepF.mono e gs fs h5⟩
 | v,.dic kvs,h=>by
  simp only[Rep] at h ⊢
  obtain⟨a,ks,ep,h1,h2,h3⟩:=h
  exact⟨a,ks,ep,h1,e _ _ h2,RepK.mono e ks kvs h3⟩
 | v,.dit kvs,h=>by
  simp only[Rep] at h ⊢
  obtain⟨a,ks,bs,h1,h2,h3,h4⟩:=h
  exact⟨a,ks,bs,h1,e _ _ h2,h3.mono e,RepT.mono e ks kvs h4⟩
theorem Reps.mono{K:PySem.W.Frag}{H H':Hp}(e:Same H H'):∀(vs:List V) (ds:List D),Reps K H vs ds→Reps K H' vs ds
 | [],[],h=>by simp only[Reps]
 | v::vs,d::ds,h=>by
  simp only[Reps] at h ⊢
  exact⟨Rep.mono e v d h.1,Reps.mono e vs ds h.2⟩
 | [],_::_,h=>by simp only[Reps] at h
 | _::_,[],h=>by simp only[Reps] at h
theorem RepF.mono{K:PySem.W.Frag}{H H':Hp}(e:Same H H'):∀(vs:List (Str×V)) (ds:List (Str×D)),RepF K H vs ds→RepF K H' vs ds
 | [],[],h=>by simp only[RepF]
 | (x,v)::vs,(y,d)::ds,h=>by
  simp only[RepF] at h ⊢
  exact⟨⟨h.1.1,Rep.mono e v d h.1.2⟩,RepF.mono e vs ds h.2⟩
 | [],_::_,h=>by simp only[RepF] at h
 | _::_,[],h=>by simp only[RepF] at h
theorem RepK.mono{K:PySem.W.Frag}{H H':Hp}(e:Same H H'):∀(vs:List (Key×V)) (ds:List (Key×D)),RepK K H vs ds→RepK K H' vs ds
 | [],[],h=>by simp only[RepK]
 | (x,v)::vs,(y,d)::ds,h=>by
  simp only[RepK] at h ⊢
  exact⟨⟨h.1.1,Rep.mono e v d h.1.2⟩,RepK.mono e vs ds h.2⟩
 | [],_::_,h=>by simp only[RepK] at h
 | _::_,[],h=>by simp only[RepK] at h
theorem RepT.mono{K:PySem.W.Frag}{H H':Hp}(e:Same H H'):∀(vs:List (List Key×V)) (ds:List (List Key×D)),RepT K H vs ds→RepT K H' vs ds
 | [],[],h=>by simp only[RepT]
 | (x,v)::vs,(y,d)::ds,h=>by
  simp only[RepT] at h ⊢
  exact⟨⟨h.1.1,Rep.mono e v d h.1.2⟩,RepT.mono e vs ds h.2⟩
 | [],_::_,h=>by simp only[RepT] at h
 | _::_,[],h=>by simp only[RepT] at h
end
section
variable {K:PySem.W.Frag} {H H':Hp}
theorem Reps.length:∀{vs:List V} {ds:List D},Reps K H vs ds→vs.length=ds.length
 | [],[],_=>rfl
 | v::vs,d::ds,h=>by
  simp only[Reps] at h
  simp only[List.length_cons,Reps.length h.2]
 | [],_::_,h=>by simp only[Reps] at h
 | _::_,[],h=>by simp only[Reps] at h
theorem Reps.get:∀{vs:List V} {ds:List D} {i:Nat} {d:D},Reps K H vs ds→ds[i]?=some d→∃v,vs[i]?=some v∧Rep K H v d
 | [],[],i,d,_,e=>by simp at e
 | v::vs,d'::ds,0,d,h,e=>by
  simp only[Reps] at h
  simp only[List.getElem?_cons_zero,Option.some.injEq] at e
  subst e
  exact⟨v,rfl,h.1⟩
 | v::vs,d'::ds,i+1,d,h,e=>by
  simp only[Reps] at h
  simp only[List.getElem?_cons_succ] at e ⊢
  exact Reps.get h.2 e
 | [],_::_,_,_,h,_=>by simp only[Reps] at h
 | _::_,[],_,_,h,_=>by simp only[Reps] at h
theorem Reps.getV:∀{vs:List V} {ds:List D} {i:Nat} {v:V},Reps K H vs ds→vs[i]?=some v→∃d,ds[i]?=some d∧Rep K H v d
 | [],[],i,d,_,e=>by simp at e
 | v'::vs,d::ds,0,v,h,e=>by
  simp only[Reps] at h
  simp only[List.getElem?_cons_zero,Option.some.injEq] at e
  subst e
  exact⟨d,rfl,h.1⟩
 | v'::vs,d::ds,i+1,v,h,e=>by
  simp only[Reps] at h
  simp only[List.getElem?_cons_succ] at e ⊢
  exact Reps.getV h.2 e
 | [],_::_,_,_,h,_=>by simp only[Reps] at h
 | _::_,[],_,_,h,_=>by simp only[Reps] at h
theorem Reps.nil:Reps K H [] []:=by simp only[Reps]
theorem Reps.cons{v:V}{vs:List V}{d:D}{ds:List D}(h:Rep K H v d)(hs:Reps K H vs ds):Reps K H (v::vs) (d::ds):=by simp only[Reps];exact⟨h,hs⟩
theorem Reps.append:∀{vs:List V} {ds:List D} {us:List V} {es:List D},Reps K H vs ds→Reps K H us es→Reps K H (vs++us) (ds++es)
 | [],[],_,_,_,h=>h
 | v::vs,d::ds,_,_,h,h'=>by
  simp only[Reps] at h
  exact Reps.cons h.1 (Reps.append h.2 h')
 | [],_::_,_,_,h,_=>by simp only[Reps] at h
 | _::_,[],_,_,h,_=>by simp only[Reps] at h
theorem Reps.take:∀{vs:List V} {ds:List D} (n:Nat),Reps K H vs ds→Reps K H (vs.take n) (ds.take n)
 | _,_,0,_=>Reps.nil
 | [],[],_+1,_=>Reps.nil
 | v::vs,d::ds,n+1,h=>by
  simp only[Reps] at h
  exact Reps.cons h.1 (Reps.take n h.2)
 | [],_::_,_+1,h=>by simp only[Reps] at h
 | _::_,[],_+1,h=>by simp only[Reps] at h
theorem Reps.drop:∀{vs:List V} {ds:List D} (n:Nat),Reps K H vs ds→Reps K H (vs.drop n) (ds.drop n)
 | _,_,0,h=>h
 | [],[],_+1,_=>Reps.nil
 | v::vs,d::ds,n+1,h=>by
  simp only[Reps] at h
  exact Reps.drop n h.2
 | [],_::_,_+1,h=>by simp only[Reps] at h
 | _::_,[],_+1,h=>by simp only[Reps] at h
end
structure Ext (G H G' H':Hp):Prop where
 g:Same G G'
 h:Same H H'
 s:Same G' H'
 n:∀p,G p=none→H p≠none→G' p=none
theorem Ext.refl{G H:Hp}(s:Same G H):Ext G H G H:=⟨Same.refl _,Same.refl _,s,fun _ h _=>h⟩
theorem Ext.trans{G H G1 H1 G2 H2:Hp}(a:Ext G H G1 H1)(b:Ext G1 H1 G2 H2):Ext G H G2 H2:=
 ⟨a.g.trans b.g,a.h.trans b.h,b.s,fun p h1 h2=>b.n p (a.n p h1 h2) fun z=>h2 (a.h.free z)⟩
theorem zcb{H:Hp}{p:Addr}{o:HO}(h:H p=none):Same H (upd H p o):=fun b u e=>by rw[zal (zar e h)];exact e
theorem zkY{G H:Hp}{p:Addr}{o:HO}(s:Same G H):Same (upd G p o) (upd H p o):=fun b u e=>by
 by_cases hb:b=p
 ·subst hb;rw[zaq] at e ⊢;exact e
 ·rw[zal hb] at e ⊢;exact s b u e
theorem Ext.new{G H:Hp}{p:Addr}{o:HO}(s:Same G H)(h:H p=none):Ext G H (upd G p o) (upd H p o):=
 ⟨zcb (s.free h),zcb h,zkY s,fun q h1 h2=>by rw[zal (fun z=>h2 (by rw[z];exact h))];exact h1⟩
theorem Ext.own{G H:Hp}{p:Addr}{o:HO}(s:Same G H)(h:H p=none):Ext G H G (upd H p o):=
 ⟨Same.refl _,zcb h,s.trans (zcb h),fun q h1 _=>h1⟩
inductive OV where
 | ll (dss:List (List D))
 | dc (kvs:List (Key×D))
 | dl (kvs:List (Key×List D))
 | tl (d:D) (ds:List D)
 | ld (ess:List (List (Key×D)))
 | dt (kvs:List (List Key×List D))
 | tp (ds:List D)
 | ob (cn:Str) (fs:List (Str×List D))
noncomputable def OV.val:OV→D
 | .ll dss=>.lst (dss.map .lst)
 | .dc kvs=>.dic kvs
 | .dl kvs=>.dic (kvs.map fun p=>(p.1,.lst p.2))
 | .tl d ds=>.tup [d,.lst ds]
 | .ld ess=>.lst (ess.map .dic)
 | .dt kvs=>.dit (kvs.map fun p=>(p.1,.lst p.2))
 | .tp ds=>.tup ds
 | .ob cn fs=>.obj cn (fs.map fun p=>(p.1,.lst p.2))
inductive R where
 | fz (d:D)
 | ow (ds:List D)
 | ov (o:OV)
noncomputable def R.val:R→D
 | .fz d=>d
 | .ow ds=>.lst ds
 | .ov o=>o.val
inductive Sl where
 | un
 | fz (d:D)
 | ow (ds:List D)
 | ov (o:OV)
noncomputable def R.sl:R→Sl
 | .fz d=>.fz d
 | .ow ds=>.ow ds
 | .ov o=>.ov o
noncomputable def RepL(K:PySem.W.Frag)(G H:Hp):List Addr→List (List D)→Prop
 | [],[]=>True
 | q::qs,ds::dss=>(∃xs,H q=some (.lst xs)∧Reps K G xs ds)∧RepL K G H qs dss
 | _,_=>False
theorem RepL.mono{K:PySem.W.Frag}{G H G' H':Hp}(g:Same G G'):∀{qs:List Addr} {dss:List (List D)},(∀q∈qs,∀xs,H q=some (.lst xs)→H' q=some (.lst xs))→RepL K G H qs dss→RepL K G' H' qs dss
 | [],[],_,_=>by simp only[RepL]
 | q::qs,ds::dss,hh,h=>by
  simp only[RepL] at h ⊢
  obtain⟨⟨xs,h1,h2⟩,h3⟩:=h
  exact⟨⟨xs,hh q (by simp) xs h1,h2.mono g⟩,RepL.mono g (fun r hr=>hh r (by simp[hr])) h3⟩
 | [],_::_,_,h=>by simp only[RepL] at h
 | _::_,[],_,h=>by simp only[RepL] at h
theorem RepL.here{K:PySem.W.Frag}{G H:Hp}:∀{qs:List Addr} {dss:List (List D)},RepL K G H qs dss→∀q∈qs,H q≠none
 | [],[],_,q,hq=>by cases hq
 | q::qs,ds::dss,h,r,hr=>by
  simp only[RepL] at h
  obtain⟨⟨xs,h1,h2⟩,h3⟩:=h
  rcases List.mem_cons.mp hr with rfl | hr
  ·rw[h1];exact nofun
  ·exact RepL.here h3 r hr
 | [],_::_,h,_,_=>by simp only[RepL] at h
 | _::_,[],h,_,_=>by simp only[RepL] at h
theorem RepL.reps{K:PySem.W.Frag}{G H G':Hp}(g:Same G G'):∀{qs:List Addr} {dss:List (List D)},(∀q∈qs,∀xs,H q=some (.lst xs)→G' q=some (.lst xs))→RepL K G H qs dss→Reps K G' (qs.map V.ref) (dss.map D.lst)
 | [],[],_,_=>Reps.nil
 | q::qs,ds::dss,hh,h=>by
  simp only[RepL] at h
  obtain⟨⟨xs,h1,h2⟩,h3⟩:=h
  refine Reps.cons ?_ (RepL.reps g (fun r hr=>hh r (by simp[hr])) h3)
  simp only[Rep]
  exact⟨q,xs,rfl,RdL.of (hh q (by simp) xs h1),h2.mono g⟩
 | [],_::_,_,h=>by simp only[RepL] at h
 | _::_,[],_,h=>by simp only[RepL] at h
noncomputable def RepE(K:PySem.W.Frag)(G H:Hp):List Addr→List (List (Key×D))→Prop
 | [],[]=>True
 | q::qs,ds::dss=>(∃ks ep,H q=some (.dK ks ep)∧RepK K G ks ds)∧RepE K G H qs dss
 | _,_=>False
theorem RepE.mono{K:PySem.W.Frag}{G H G' H':Hp}(g:Same G G'):∀{qs:List Addr} {dss:List (List (Key×D))},(∀q∈qs,∀u,H q=some u→H' q=some u)→RepE K G H qs dss→RepE K G' H' qs dss
 | [],[],_,_=>by simp only[RepE]
 | q::qs,ds::dss,hh,h=>by
  simp only[RepE] at h ⊢
  obtain⟨⟨ks,ep,h1,h2⟩,h3⟩:=h
  exact⟨⟨ks,ep,hh q (by simp) _ h1,RepK.mono g _ _ h2⟩,RepE.mono g (fun r hr=>hh r (by simp[hr])) h3⟩
 | [],_::_,_,h=>by simp only[RepE] at h
 | _::_,[],_,h=>by simp only[RepE] at h
theorem RepE.kind{K:PySem.W.Frag}{G H:Hp}:∀{qs:List Addr} {dss:List (List (Key×D))},RepE K G H qs dss→∀q∈qs,∃ks ep,H q=some (.dK ks ep)
 | [],[],_,q,hq=>by cases hq
 | q::qs,ds::dss,h,r,hr=>by
  simp only[RepE] at h
  obtain⟨⟨ks,ep,h1,h2⟩,h3⟩:=h
  rcases List.mem_cons.mp hr with rfl | hr
  ·exact⟨ks,ep,h1⟩
  ·exact RepE.kind h3 r hr
 | [],_::_,h,_,_=>by simp only[RepE] at h
 | _::_,[],h,_,_=>by simp only[RepE] at h
theorem RepE.here{K:PySem.W.Frag}{G H:Hp}{qs:List Addr}{dss:List (List (Key×D))}(h:RepE K G H qs dss):∀q∈qs,H q≠none:=fun q hq=>by
 obtain⟨ks,ep,e⟩:=h.kind q hq
 rw[e];exact nofun
theorem RepE.reps{K:PySem.W.Frag}{G H G':Hp}(g:Same G G'):∀{qs:List Addr} {dss:List (List (Key×D))},(∀q∈qs,∀u,H q=some u→G' q=some u)→RepE K G H qs dss→Reps K G' (qs.map V.ref) (dss.map D.dic)
 | [],[],_,_=>Reps.nil
 | q::qs,ds::dss,hh,h=>by
  simp only[RepE] at h
  obtain⟨⟨ks,ep,h1,h2⟩,h3⟩:=h
  refine Reps.cons ?_ (RepE.reps g (fun r hr=>hh r (by simp[hr])) h3)
  simp only[Rep]
  exact⟨q,ks,ep,rfl,hh q (by simp) _ h1,RepK.mono g _ _ h2⟩
 | [],_::_,_,h=>by simp only[RepE] at h
 | _::_,[],_,h=>by simp only[RepE] at h
noncomputable def Owns(K:PySem.W.Frag)(G H:Hp)(p:Addr)(fp:List Addr):OV→Prop
 | .ll dss=>H p=some (.lst (fp.map V.ref))∧RepL K G H fp dss
 | .dc kvs=>fp=[]∧∃ks ep,H p=some (.dK ks ep)∧RepK K G ks kvs
 | .dl kvs=>∃ks ep,H p=some (.dK ks ep)∧ks.map (·.1)=kvs.map (·.1)∧ks.map (·.2)=fp.map V.ref∧RepL K G H fp (kvs.map (·.2))
 | .tl d ds=>∃q v xs,fp=[q]∧H p=some (.tup [v,.ref q])∧Rep K G v d∧H q=some (.lst xs)∧Reps K G xs ds
 | .ld ess=>H p=some (.lst (fp.map V.ref))∧RepE K G H fp ess
 | .dt kvs=>∃ks bs,H p=some (.dT ks bs)∧KeyIn G ks bs∧ks.map (·.1)=kvs.map (·.1)∧ks.map (·.2)=fp.map V.ref∧RepL K G H fp (kvs.map (·.2))
 | .tp ds=>fp=[]∧∃xs,H p=some (.tup xs)∧Reps K G xs ds
 | .ob cn fs=>∃C dx gs,H p=some (.ins C dx gs)∧ClsAt K cn C∧(∀p∈fs,NoAttr K C p.1)∧gs.map (·.1)=fs.map (·.1)∧gs.map (·.2)=fp.map V.ref∧RepL K G H fp (fs.map (·.2))
theorem Owns.here{K:PySem.W.Frag}{G H:Hp}{p:Addr}{fp:List Addr}{o:OV}(h:Owns K G H p fp o):∀q∈p::fp,H q≠none:=by
 intro q hq
 cases o with
 | ll dss=>
  rcases List.mem_cons.mp hq with rfl | hq
  ·rw[h.1];exact nofun
  ·exact h.2.here q hq
 | dc kvs=>
  obtain⟨rfl,ks,ep,h1,_⟩:=h
  simp only[List.mem_singleton] at hq
  subst hq
  rw[h1];exact nofun
 | dl kvs=>
  obtain⟨ks,ep,h1,_,_,h4⟩:=h
  rcases List.mem_cons.mp hq with rfl | hq
  ·rw[h1];exact nofun
  ·exact h4.here q hq
 | tl d ds=>
  obtain⟨r,v,xs,rfl,h1,_,h2,_⟩:=h
  simp only[List.mem_cons,List.not_mem_nil,or_false] at hq
  rcases hq with rfl | rfl
  ·rw[h1];exact nofun
  ·rw[h2];exact nofun
 | ld ess=>
  rcases List.mem_cons.mp hq with rfl | hq
  ·rw[h.1];exact nofun
  ·exact h.2.here q hq
 | dt kvs=>
  obtain⟨ks,bs,h1,_,_,_,h4⟩:=h
  rcases List.mem_cons.mp hq with rfl | hq
  ·rw[h1];exact nofun
  ·exact h4.here q hq
 | tp ds=>
  obtain⟨rfl,xs,h1,_⟩:=h
  simp only[List.mem_singleton] at hq
  subst hq
  rw[h1];exact nofun
 | ob cn fs=>
  obtain⟨C,dx,gs,h1,_,_,_,_,h4⟩:=h
  rcases List.mem_cons.mp hq with rfl | hq
  ·rw[h1];exact nofun
  ·exact h4.here q hq
theorem RepL.kind{K:PySem.W.Frag}{G H:Hp}:∀{qs:List Addr} {dss:List (List D)},RepL K G H qs dss→∀q∈qs,∃xs,H q=some (.lst xs)
 | [],[],_,q,hq=>by cases hq
 | q::qs,ds::dss,h,r,hr=>by
  simp only[RepL] at h
  obtain⟨⟨xs,h1,h2⟩,h3⟩:=h
  rcases List.mem_cons.mp hr with rfl | hr
  ·exact⟨xs,h1⟩
  ·exact RepL.kind h3 r hr
 | [],_::_,h,_,_=>by simp only[RepL] at h
 | _::_,[],h,_,_=>by simp only[RepL] at h
theorem Owns.mono{K:PySem.W.Frag}{G H G' H':Hp}{p:Addr}{fp:List Addr}{o:OV}(g:Same G G')(hh:∀q∈p::fp,∀u,H q=some u→H' q=some u)(h:Owns K G H p fp o):Owns K G' H' p fp o:=by
 cases o with
 | ll dss=>exact⟨hh p (by simp) _ h.1,h.2.mono g fun q hq xs=>hh q (by simp[hq]) _⟩
 | dc kvs=>
  obtain⟨rfl,ks,ep,h1,h2⟩:=h
  exact⟨rfl,ks,ep,hh p (by simp) _ h1,RepK.mono g _ _ h2⟩
 | dl kvs=>
  obtain⟨ks,ep,h1,h2,h3,h4⟩:=h
  exact⟨ks,ep,hh p (by simp) _ h1,h2,h3,h4.mono g fun q hq xs=>hh q (by simp[hq]) _⟩
 | tl d ds=>
  obtain⟨r,v,xs,rfl,h1,h2,h3,h4⟩:=h
  exact⟨r,v,xs,rfl,hh p (by simp) _ h1,h2.mono g,hh r (by simp) _ h3,h4.mono g⟩
 | ld ess=>exact⟨hh p (by simp) _ h.1,h.2.mono g fun q hq=>hh q (by simp[hq])⟩
 | dt kvs=>
  obtain⟨ks,bs,h1,hk,h2,h3,h4⟩:=h
  exact⟨ks,bs,hh p (by simp) _ h1,hk.mono g,h2,h3,h4.mono g fun q hq xs=>hh q (by simp[hq]) _⟩
 | tp ds=>
  obtain⟨rfl,xs,h1,h2⟩:=h
  exact⟨rfl,xs,hh p (by simp) _ h1,h2.mono g⟩
 | ob cn fs=>
  obtain⟨C,dx,gs,h1,hc,hn,h2,h3,h4⟩:=h
  exact⟨C,dx,gs,hh p (by simp) _ h1,hc,hn,h2,h3,h4.mono g fun q hq xs=>hh q (by simp[hq]) _⟩
theorem RepK.of_lists{K:PySem.W.Frag}{G:Hp}:∀{ks:List (Key×V)} {kvs:List (Key×List D)} {fp:List Addr},ks.map (·.1)=kvs.map (·.1)→ks.map (·.2)=fp.map V.ref→Reps K G (fp.map V.ref) ((kvs.map (·.2)).map D.lst)→RepK K G ks (kvs.map fun p=>(p.1,.lst p.2))
 | [],[],_,_,_,_=>by simp only[List.map_nil,RepK]
 | a::ks,b::kvs,fp,h1,h2,h3=>by
  simp only[List.map_cons,List.cons.injEq] at h1
  cases fp with
  | nil=>simp at h2
  | cons q fp=>
   simp only[List.map_cons,List.cons.injEq] at h2
   simp only[List.map_cons,Reps] at h3
   simp only[List.map_cons,RepK]
   exact⟨⟨h1.1,by rw[h2.1];exact h3.1⟩,RepK.of_lists h1.2 h2.2 h3.2⟩
 | [],_::_,_,h,_,_=>by simp at h
 | _::_,[],_,h,_,_=>by simp at h
theorem RepT.of_lists{K:PySem.W.Frag}{G:Hp}:∀{ks:List (List Key×V)} {kvs:List (List Key×List D)} {fp:List Addr},ks.map (·.1)=kvs.map (·.1)→ks.map (·.2)=fp.map V.ref→Reps K G (fp.map V.ref) ((kvs.map (·.2)).map D.lst)→RepT K G ks (kvs.map fun p=>(p.1,.lst p.2))
 | [],[],_,_,_,_=>by simp only[List.map_nil,RepT]
 | a::ks,b::kvs,fp,h1,h2,h3=>by
  simp only[List.map_cons,List.cons.injEq] at h1
  cases fp with
  | nil=>simp at h2
  | cons q fp=>
   simp only[List.map_cons,List.cons.injEq] at h2
   simp only[List.map_cons,Reps] at h3
   simp only[List.map_cons,RepT]
   exact⟨⟨h1.1,by rw[h2.1];exact h3.1⟩,RepT.of_lists h1.2 h2.2 h3.2⟩
 | [],_::_,_,h,_,_=>by simp at h
 | _::_,[],_,h,_,_=>by simp at h
theorem RepF.of_lists{K:PySem.W.Frag}{G:Hp}:∀{ks:List (Str×V)} {kvs:List (Str×List D)} {fp:List Addr},ks.map (·.1)=kvs.map (·.1)→ks.map (·.2)=fp.map V.ref→Reps K G (fp.map V.ref) ((kvs.map (·.2)).map D.lst)→RepF K G ks (kvs.map fun p=>(p.1,.lst p.2))
 | [],[],_,_,_,_=>by simp only[List.map_nil,RepF]
 | a::ks,b::kvs,fp,h1,h2,h3=>by
  simp only[List.map_cons,List.cons.injEq] at h1
  cases fp with
  | nil=>simp at h2
  | cons q fp=>
   simp only[List.map_cons,List.cons.injEq] at h2
   simp only[List.map_cons,Reps] at h3
   simp only[List.map_cons,RepF]
   exact⟨⟨h1.1,by rw[h2.1];exact h3.1⟩,RepF.of_lists h1.2 h2.2 h3.2⟩
 | [],_::_,_,h,_,_=>by simp at h
 | _::_,[],_,h,_,_=>by simp at h
noncomputable def zj4(G H:Hp)(l:List Addr):Hp:=fun a=>if a∈l then H a else G a
theorem zcg{G H:Hp}{l:List Addr}{a:Addr}(h:a∈l):zj4 G H l a=H a:=if_pos h
theorem zbA{G H:Hp}{l:List Addr}{a:Addr}(h:a∉l):zj4 G H l a=G a:=if_neg h
theorem zcJ{G H:Hp}{l:List Addr}(h:∀q∈l,G q=none):Same G (zj4 G H l):=fun b u e=>by
 rw[zbA (fun z=>by rw[h b z] at e;cases e)];exact e
theorem Owns.freeze{K:PySem.W.Frag}{G H:Hp}{p:Addr}{fp:List Addr}{o:OV}(h:Owns K G H p fp o)(hn:∀q∈p::fp,G q=none):Rep K (zj4 G H (p::fp)) (.ref p) o.val:=by
 have hs:=zcJ (H:=H) hn
 have hp:zj4 G H (p::fp) p=H p:=zcg (by simp)
 cases o with
 | ll dss=>
  simp only[OV.val,Rep]
  exact⟨p,_,rfl,RdL.of (by rw[hp];exact h.1),h.2.reps hs fun q hq xs e=>by rw[zcg (by simp[hq])];exact e⟩
 | dc kvs=>
  obtain⟨rfl,ks,ep,h1,h2⟩:=h
  simp only[OV.val,Rep]
  exact⟨p,ks,ep,rfl,by rw[hp];exact h1,RepK.mono hs _ _ h2⟩
 | dl kvs=>
  obtain⟨ks,ep,h1,h2,h3,h4⟩:=h
  simp only[OV.val,Rep]
  exact⟨p,ks,ep,rfl,by rw[hp];exact h1,RepK.of_lists h2 h3 (h4.reps hs fun q hq xs e=>by rw[zcg (by simp[hq])];exact e)⟩
 | tl d ds=>
  obtain⟨r,v,xs,rfl,h1,h2,h3,h4⟩:=h
  simp only[OV.val,Rep]
  refine⟨p,_,rfl,SqT.of (by rw[hp];exact h1),Reps.cons (h2.mono hs) (Reps.cons ?_ Reps.nil)⟩
  simp only[Rep]
  exact⟨r,xs,rfl,RdL.of (by rw[zcg (by simp)];exact h3),h4.mono hs⟩
 | dt kvs=>
  obtain⟨ks,bs,h1,hk,h2,h3,h4⟩:=h
  simp only[OV.val,Rep]
  exact⟨p,ks,bs,rfl,by rw[hp];exact h1,hk.mono hs,RepT.of_lists h2 h3 (h4.reps hs fun q hq xs e=>by rw[zcg (by simp[hq])];exact e)⟩
 | tp ds=>
  obtain⟨rfl,xs,h1,h2⟩:=h
  simp only[OV.val,Rep]
  exact⟨p,xs,rfl,SqT.of (by rw[hp];exact h1),h2.mono hs⟩
 | ob cn fs=>
  obtain⟨C,dx,gs,h1,hc,hn,h2,h3,h4⟩:=h
  simp only[OV.val,Rep]
  refine⟨p,C,dx,gs,rfl,by rw[hp];exact h1,hc,fun u hu=>?_,RepF.of_lists h2 h3 (h4.reps hs fun q hq xs e=>by rw[zcg (by simp[hq])];exact e)⟩
  obtain⟨v,hv,rfl⟩:=List.mem_map.mp hu
  exact hn v hv
 | ld ess=>
  simp only[OV.val,Rep]
  exact⟨p,_,rfl,RdL.of (by rw[hp];exact h.1),h.2.reps hs fun q hq u e=>by rw[zcg (by simp[hq])];exact e⟩
noncomputable abbrev Ev:=List Sl
noncomputable def gt:Ev→Nat→Sl
 | [],_=>.un
 | a::_,0=>a
 | _::r,n+1=>gt r n
theorem zeJ{ρ:Ev}{i j:Nat}{s:Sl}:gt (ρ.set i s) j=if i=j∧j<ρ.length then s else gt ρ j:=by
 induction ρ generalizing i j with
 | nil=>simp[gt]
 | cons a r ih=>
  cases i with
  | zero=>
   cases j with
   | zero=>simp[gt]
   | succ j=>simp[gt]
  | succ i=>
   cases j with
   | zero=>simp[gt]
   | succ j=>simp[gt,ih]
noncomputable def RepR(K:PySem.W.Frag)(G' H' H:Hp)(v:V):R→Prop
 | .fz d=>Rep K G' v d
 | .ow ds=>∃p xs,v=.ref p∧H p=none∧G' p=none∧H' p=some (.lst xs)∧Reps K G' xs ds
 | .ov o=>∃p fp,v=.ref p∧(p::fp).Nodup∧Owns K G' H' p fp o∧∀q∈p::fp,H q=none∧G' q=none
structure EOk (K:PySem.W.Frag) (G0 H0:Hp) (ρ:Ev) (σ:St) (G H:Hp):Prop where
 e:Ext G0 H0 G H
 len:σ.length=ρ.length
 fz:∀i d,gt ρ i=.fz d→∃v,σ[i]?=some (some v)∧Rep K G v d
 ow:∀i ds,gt ρ i=.ow ds→∃p xs,σ[i]?=some (some (.ref p))∧H p=some (.lst xs)∧G p=none∧H0 p=none∧Reps K G xs ds
 dj:∀i j ds es,i≠j→gt ρ i=.ow ds→gt ρ j=.ow es→σ[i]?≠σ[j]?
 on:∃own:Addr→Option Nat,(∀i ds p,gt ρ i=.ow ds→σ[i]?=some (some (.ref p))→own p=some i)∧∀i o,gt ρ i=.ov o→∃p fp,σ[i]?=some (some (.ref p))∧(p::fp).Nodup∧Owns K G H p fp o∧∀q∈p::fp,G q=none∧H0 q=none∧own q=some i
section
variable {K:PySem.W.Frag} {G0 H0 G H G' H' G2 H2:Hp} {ρ:Ev} {σ:St} {v:V}
theorem EOk.ext(E:EOk K G0 H0 ρ σ G H)(x:Ext G H G' H'):EOk K G0 H0 ρ σ G' H' where
 e:=E.e.trans x
 len:=E.len
 fz:=fun i d h=>let⟨v,h1,h2⟩:=E.fz i d h;⟨v,h1,h2.mono x.g⟩
 ow:=fun i ds h=>let⟨p,xs,h1,h2,h3,h4,h5⟩:=E.ow i ds h;⟨p,xs,h1,x.h _ _ h2,x.n p h3 (by rw[h2];exact nofun),h4,h5.mono x.g⟩
 dj:=E.dj
 on:=by
  obtain⟨own,h1,h2⟩:=E.on
  refine⟨own,h1,fun i o h=>?_⟩
  obtain⟨p,fp,b1,b2,b3,b4⟩:=h2 i o h
  exact⟨p,fp,b1,b2,b3.mono x.g fun q _ u e=>x.h q u e,fun q hq=>⟨x.n q (b4 q hq).1 (b3.here q hq),(b4 q hq).2⟩⟩
theorem RepR.freeze{r:R}(x:Ext G H G' H')(h:RepR K G' H' H v r):∃G2,Ext G H G2 H'∧Rep K G2 v r.val∧Same G' G2:=by
 cases r with
 | fz d=>exact⟨G',x,h,Same.refl _⟩
 | ow ds=>
  obtain⟨p,xs,h1,h2,h3,h4,h5⟩:=h
  refine⟨upd G' p (.lst xs),⟨x.g.trans (zcb h3),x.h,fun b o e=>?_,fun q hq1 hq2=>?_⟩,?_,zcb h3⟩
  ·by_cases hb:b=p
   ·subst hb;rw[zaq] at e;rw[h4];exact e
   ·rw[zal hb] at e;exact x.s b o e
  ·rw[zal (fun z=>hq2 (by rw[z];exact h2))];exact x.n q hq1 hq2
  ·show Rep K (upd G' p (.lst xs)) v (.lst ds)
   simp only[Rep]
   exact⟨p,xs,h1,RdL.of zaq,h5.mono (zcb h3)⟩
 | ov o=>
  obtain⟨p,fp,rfl,h1,h2,h3⟩:=h
  have hn:∀q∈p::fp,G' q=none:=fun q hq=>(h3 q hq).2
  refine⟨zj4 G' H' (p::fp),⟨x.g.trans (zcJ hn),x.h,fun b u e=>?_,fun q hq1 hq2=>?_⟩,h2.freeze hn,zcJ hn⟩
  ·by_cases hb:b∈p::fp
   ·rw[zcg hb] at e;exact e
   ·rw[zbA hb] at e;exact x.s b u e
  ·rw[zbA (fun z=>hq2 (h3 q z).1)];exact x.n q hq1 hq2
theorem RepR.older{r:R}{H1 H3:Hp}(s:Same H3 H1)(h:RepR K G' H' H1 v r):RepR K G' H' H3 v r:=by
 cases r with
 | fz d=>exact h
 | ow ds=>
  obtain⟨p,xs,h1,h2,h3,h4,h5⟩:=h
  exact⟨p,xs,h1,s.free h2,h3,h4,h5⟩
 | ov o=>
  obtain⟨p,fp,rfl,h1,h2,h3⟩:=h
  exact⟨p,fp,rfl,h1,h2,fun q hq=>⟨s.free (h3 q hq).1,(h3 q hq).2⟩⟩
end
noncomputable abbrev TD:=Ev→(R→Prop)→Prop
noncomputable abbrev TDb:=Ev→(Bool→Prop)→Prop
noncomputable abbrev TDa:=Ev→(List D→Prop)→Prop
structure DE where
 nx:Ev→Prop
 rt:R→Prop
 bk:Ev→Prop:=fun _=>False
 ct:Ev→Prop:=fun _=>False
noncomputable abbrev TX:=DE→Ev→Prop
noncomputable def PD(X:Cx)(e:Expr)(t:TD):Prop:=∃tt,PE X e tt∧∀(ρ:Ev) (σ:St) (G0 H0 G H:Hp) (Q:R→Prop) (P:VK),EOk X.K G0 H0 ρ σ G H→t ρ Q→
 (∀v H' r G',Ext G H G' H'→RepR X.K G' H' H v r→Q r→P v H')→tt σ H P
noncomputable def PB(X:Cx)(e:Expr)(t:TDb):Prop:=∃tt,PT X e tt∧∀(ρ:Ev) (σ:St) (G0 H0 G H:Hp) (Q:Bool→Prop) (P:Bool→Hp→Prop),EOk X.K G0 H0 ρ σ G H→t ρ Q→
 (∀b H' G',Ext G H G' H'→Q b→P b H')→tt σ H P
noncomputable def PDa(X:Cx)(es:List Expr)(t:TDa):Prop:=∃tt,PA X es tt∧∀(ρ:Ev) (σ:St) (G0 H0 G H:Hp) (Q:List D→Prop) (P:List V→Hp→Prop),EOk X.K G0 H0 ρ σ G H→t ρ Q→
 (∀vs H' ds G',Ext G H G' H'→Reps X.K G' vs ds→Q ds→P vs H')→tt σ H P
structure Goes (K:PySem.W.Frag) (G0 H0 G:Hp) (D:DE) (E:Ends):Prop where
 nx:∀ρ σ G' H',Same G G'→EOk K G0 H0 ρ σ G' H'→D.nx ρ→E.nx σ H'
 rt:∀v H' r G',Ext G0 H0 G' H'→RepR K G' H' H0 v r→D.rt r→E.rt v H'
 bk:∀ρ σ G' H',Same G G'→EOk K G0 H0 ρ σ G' H'→D.bk ρ→E.bk σ H'
 ct:∀ρ σ G' H',Same G G'→EOk K G0 H0 ρ σ G' H'→D.ct ρ→E.ct σ H'
theorem Goes.shift{K:PySem.W.Frag}{G0 H0 G G':Hp}{D:DE}{E:Ends}(g:Goes K G0 H0 G D E)(s:Same G G'):Goes K G0 H0 G' D E:=
 ⟨fun ρ σ G2 H2 s2=>g.nx ρ σ G2 H2 (s.trans s2),g.rt,fun ρ σ G2 H2 s2=>g.bk ρ σ G2 H2 (s.trans s2),fun ρ σ G2 H2 s2=>g.ct ρ σ G2 H2 (s.trans s2)⟩
noncomputable def PX(X:Cx)(st:Stmt)(t:TX):Prop:=∃tt,PS X st tt∧∀(ρ:Ev) (σ:St) (G0 H0 G H:Hp) (D:DE) (E:Ends),EOk X.K G0 H0 ρ σ G H→t D ρ→Goes X.K G0 H0 G D E→tt E σ H
noncomputable def PXs(X:Cx)(st:List Stmt)(t:TX):Prop:=∃tt,PSs X st tt∧∀(ρ:Ev) (σ:St) (G0 H0 G H:Hp) (D:DE) (E:Ends),EOk X.K G0 H0 ρ σ G H→t D ρ→Goes X.K G0 H0 G D E→tt E σ H
end L2
namespace L2
open PySem PySem.Spec PyProof.Rows
section
variable {X:Cx} {pos:Pos} {a b c:Expr} {ta tb tc:TD}
theorem fzR{K:PySem.W.Frag}{G' H' H:Hp}{v:V}{d:D}(h:Rep K G' v d):RepR K G' H' H v (.fz d):=h
noncomputable def zag(i:Nat):TD:=fun ρ Q=>match gt ρ i with
 | .fz d=>Q (.fz d)
 | _=>False
theorem zab(i:Nat){x:Str}(hN:X.N[i]?=some x:=by rfl)(hv:Vis X.env.scope x:=by first | exact Or.inl rfl | exact Or.inr (Or.inl rfl) | exact Or.inr (Or.inr rfl))(hd:(x==("__debug__":Str))=false:=by decide)
  (hcd:(x==("__classdict__":Str))=false:=by decide):PD X (.Name x pos) (zag i):=by
 refine⟨_,zbY hN hv hd hcd,fun ρ σ G0 H0 G H Q P E h k=>?_⟩
 unfold zag at h
 split at h
 ·rename_i d e
  obtain⟨v,h1,h2⟩:=E.fz i d e
  exact⟨v,h1,k v H (.fz d) G (.refl E.e.s) h2 h⟩
 ·exact h.elim
noncomputable def dC(d:D):TD:=fun _ Q=>Q (.fz d)
theorem zc1{e:Expr}{v:V}{d:D}(h:PE X e (tC v))(r:∀K G,Rep K G v d):PD X e (dC d):=
 ⟨_,h,fun ρ σ G0 H0 G H Q P E h k=>k v H (.fz d) G (.refl E.e.s) (r _ _) h⟩
theorem zaN(K:PySem.W.Frag)(G:Hp)(i:Int):Rep K G (.int i) (.int i):=by simp only[Rep]
theorem za8(K:PySem.W.Frag)(G:Hp)(i:Bool):Rep K G (.bl i) (.bl i):=by simp only[Rep]
theorem zch(K:PySem.W.Frag)(G:Hp)(i:Str):Rep K G (.str i) (.str i):=by simp only[Rep]
theorem zkZ(K:PySem.W.Frag)(G:Hp):Rep K G .non .non:=by simp only[Rep]
theorem zad{i j}:PD X (.Constant (.int i) j pos) (dC (.int i)):=zc1 zo5 fun K G=>zaN K G i
theorem zmL{i j}:PD X (.Constant (.bool i) j pos) (dC (.bl i)):=zc1 zqy fun K G=>za8 K G i
theorem zan{i j}:PD X (.Constant (.str i) j pos) (dC (.str i)):=zc1 zo7 fun K G=>zch K G i
theorem zdz{j}:PD X (.Constant .none j pos) (dC .non):=zc1 zo6 fun K G=>zkZ K G
theorem ze7{x:Str}{i:Int}{t:Tok}(hm:X.mg x=some (.int i t))(hg:Gl X x:=by rfl)(hd:(x==("__debug__":Str))=false:=by decide):PD X (.Name x pos) (dC (.int i)):=zc1 (ziB hg hm (v:=.int i) ⟨t,rfl⟩ hd) fun K G=>zaN K G i
theorem zjg{x:Str}{i:Str}{t:Tok}(hm:X.mg x=some (.str i t))(hg:Gl X x:=by rfl)(hd:(x==("__debug__":Str))=false:=by decide):PD X (.Name x pos) (dC (.str i)):=zc1 (ziB hg hm (v:=.str i) ⟨t,rfl⟩ hd) fun K G=>zch K G i
noncomputable abbrev O2:=D→D→(R→Prop)→Prop
noncomputable def OpP(X:Cx)(f:Value→Value→Sem Value)(o:O2):Prop:=∃r:R2,OpR X f r∧∀(G H:Hp) (x y:V) (d e:D) (Q:R→Prop) (P:VK),Same G H→Rep X.K G x d→Rep X.K G y e→o d e Q→
 (∀v H' r' G',Ext G H G' H'→RepR X.K G' H' H v r'→Q r'→P v H')→r x y H P
noncomputable def dOp(o:O2)(ta tb:TD):TD:=fun ρ Q=>ta ρ fun ra=>tb ρ fun rb=>o ra.val rb.val Q
theorem zjh{r:R2}{o:O2}{tta ttb:TE}
  (hr:∀(G H:Hp) (x y:V) (d e:D) (Q:R→Prop) (P:VK),Same G H→Rep X.K G x d→Rep X.K G y e→o d e Q→(∀v H' r' G',Ext G H G' H'→RepR X.K G' H' H v r'→Q r'→P v H')→r x y H P)
  (ha:∀(ρ:Ev) (σ:St) (G0 H0 G H:Hp) (Q:R→Prop) (P:VK),EOk X.K G0 H0 ρ σ G H→ta ρ Q→(∀v H' r G',Ext G H G' H'→RepR X.K G' H' H v r→Q r→P v H')→tta σ H P)
  (hb:∀(ρ:Ev) (σ:St) (G0 H0 G H:Hp) (Q:R→Prop) (P:VK),EOk X.K G0 H0 ρ σ G H→tb ρ Q→(∀v H' r G',Ext G H G' H'→RepR X.K G' H' H v r→Q r→P v H')→ttb σ H P)
  (ρ:Ev) (σ:St) (G0 H0 G H:Hp) (Q:R→Prop) (P:VK) (E:EOk X.K G0 H0 ρ σ G H) (h:dOp o ta tb ρ Q) (k:∀v H' r G',Ext G H G' H'→RepR X.K G' H' H v r→Q r→P v H'):tOp r tta ttb σ H P:=by
 refine ha ρ σ G0 H0 G H _ _ E h fun v H1 ra G1 x1 r1 h1=>?_
 obtain⟨G1',x1',q1,_⟩:=r1.freeze x1
 refine hb ρ σ G0 H0 G1' H1 _ _ (E.ext x1') h1 fun u H2 rb G2 x2 r2 h2=>?_
 obtain⟨G2',x2',q2,_⟩:=r2.freeze x2
 refine hr G2' H2 v u _ _ Q P x2'.s (q1.mono x2'.g) q2 h2 fun v' H' r' G' x3 r3 h3=>?_
 have x4:=(x1'.trans x2').trans x3
 exact k v' H' r' G' x4 (r3.older (x1'.trans x2').h) h3
theorem zaj{op:Operator}{o:O2}(ho:OpP X (binaryOp op) o)(ha:PD X a ta)(hb:PD X b tb):PD X (.BinOp a op b pos) (dOp o ta tb):=by
 obtain⟨r,hr,hr'⟩:=ho
 obtain⟨tta,pa,qa⟩:=ha
 obtain⟨ttb,pb,qb⟩:=hb
 exact⟨_,zn3 hr pa pb,zjh hr' qa qb⟩
theorem zbZ{op:CmpOp}{o:O2}(ho:OpP X (compareOp op) o)(ha:PD X a ta)(hb:PD X b tb)(hm:behindInMarks op b=false:=by first | exact znt _ | rfl):PD X (.Compare a [op] [b] pos) (dOp o ta tb):=by
 obtain⟨r,hr,hr'⟩:=ho
 obtain⟨tta,pa,qa⟩:=ha
 obtain⟨ttb,pb,qb⟩:=hb
 exact⟨_,zn6 hr pa pb hm,zjh hr' qa qb⟩
noncomputable def zbL(t:TD):TDb:=fun ρ Q=>t ρ fun r=>match r with
 | .fz (.bl k)=>Q k
 | _=>False
theorem zaD{op:CmpOp}{o:O2}(ho:OpP X (compareOp op) o)(ha:PD X a ta)(hb:PD X b tb)(hm:behindInMarks op b=false:=by first | exact znt _ | rfl):PB X (.Compare a [op] [b] pos) (zbL (dOp o ta tb)):=by
 obtain⟨r,hr,hr'⟩:=ho
 obtain⟨tta,pa,qa⟩:=ha
 obtain⟨ttb,pb,qb⟩:=hb
 refine⟨_,zn8 hr pa pb hm,fun ρ σ G0 H0 G H Q P E h k=>?_⟩
 refine zjh hr' qa qb ρ σ G0 H0 G H _ _ E h fun v H' r G' x1 r1 h1=>?_
 split at h1
 ·rename_i kk
  have e:v=.bl kk:=by simpa only[RepR,Rep] using r1
  exact⟨kk,e,k kk H' G' x1 h1⟩
 ·exact h1.elim
theorem zk0{e:Expr}{t:TD}(h:PD X e t)(he:∀whole,isTrue e X.env whole=(do let v ←whole;standAt e.pos;holding [v] (truthy v)):=by intro _;rfl):PB X e (zbL t):=by
 obtain⟨tt,p,q⟩:=h
 refine⟨_,zo8 p he,fun ρ σ G0 H0 G H Q P E h k=>?_⟩
 refine q ρ σ G0 H0 G H _ _ E h fun v H' r G' x1 r1 h1=>?_
 split at h1
 ·rename_i kk
  have e:v=.bl kk:=by simpa only[RepR,Rep] using r1
  exact⟨kk,e,k kk H' G' x1 h1⟩
 ·exact h1.elim
noncomputable def zbs:O2:=fun d e Q=>match d,e with
 | .int i,.int j=>Q (.fz (.int (i+j)))
 | .str x,.str y=>x.length+y.length≤sizeLine∧Q (.fz (.str (x++y)))
 | .lst xs,.lst ys=>xs.length+ys.length≤sizeLine∧Q (.ow (xs++ys))
 | _,_=>False
noncomputable def zpx(K:PySem.W.Frag):R2:=fun x y H Q=>∃l b xs zs,x=.ref l∧y=.ref b∧RdL K H l xs∧RdL K H b zs∧xs.length+zs.length≤sizeLine∧∀p,H p=none→Q (.ref p) (upd H p (.lst (xs++zs)))
theorem zk1:OpR X (binaryOp .Add) (zpx X.K):=by
 intro pins s σ H x y v u Q I rx ry h
 obtain⟨l,b,xs,zs,rfl,rfl,hH,hB,hz,q⟩:=h
 cases rx
 cases ry
 obtain⟨z,its,n,r,e⟩:=I.rdl hH
 obtain⟨z2,its2,n2,r2,e2⟩:=I.rdl hB
 have hl:=r.length
 have hl2:=r2.length
 refine PySem.P.add_list e e2 ?_ (by rw[List.size_toArray,List.size_toArray];omega)
 have ea:its.toArray++its2.toArray=(its++its2).toArray:=by simp
 rw[ea]
 exact⟨.ref _,_,I.lnew (t':=s.toks) (r.append r2) (by rw[List.length_append];omega),rfl,q _ I.fresh⟩
theorem zdf{G H:Hp}{xs:List V}{ds:List D}{Q:R→Prop}{P:VK}(s:Same G H)(r:Reps X.K G xs ds)(q:Q (.ow ds))
  (k:∀v H' r' G',Ext G H G' H'→RepR X.K G' H' H v r'→Q r'→P v H'):∀p,H p=none→P (.ref p) (upd H p (.lst xs)):=fun p hp=>
 k _ _ (.ow ds) G (.own s hp) ⟨p,xs,rfl,hp,s.free hp,zaq,r⟩ q
theorem zaJ:OpP X (binaryOp .Add) zbs:=by
 refine⟨_,op_add.or (op_add_str.or zk1),fun G H x y d e Q P s rx ry h k=>?_⟩
 unfold zbs at h
 split at h
 ·simp only[Rep] at rx ry
  exact .inl ⟨_,_,rx,ry,k _ _ _ G (.refl s) (fzR (zaN _ _ _)) h⟩
 ·simp only[Rep] at rx ry
  exact .inr (.inl ⟨_,_,rx,ry,h.1,k _ _ _ G (.refl s) (fzR (zch _ _ _)) h.2⟩)
 ·simp only[Rep] at rx ry
  obtain⟨a,xs,rfl,hx,rxs⟩:=rx
  obtain⟨b,ys,rfl,hy,rys⟩:=ry
  refine .inr (.inr ⟨_,_,_,_,rfl,rfl,s.rdl hx,s.rdl hy,by rw[rxs.length,rys.length];exact h.1,zdf s (rxs.append rys) h.2 k⟩)
 ·exact h.elim
noncomputable def oI(C:Int→Int→Prop)(g:Int→Int→D):O2:=fun d e Q=>match d,e with
 | .int i,.int j=>C i j∧Q (.fz (g i j))
 | _,_=>False
noncomputable def oI0(g:Int→Int→D):O2:=fun d e Q=>match d,e with
 | .int i,.int j=>Q (.fz (g i j))
 | _,_=>False
theorem zmM{f:Value→Value→Sem Value}{C:Int→Int→Prop}{g:Int→Int→V}{g':Int→Int→D}(h:OpR X f (rI C g))(hg:∀K G i j,Rep K G (g i j) (g' i j)):OpP X f (oI C g'):=by
 refine⟨_,h,fun G H x y d e Q P s rx ry h k=>?_⟩
 unfold oI at h
 split at h
 ·simp only[Rep] at rx ry
  exact⟨_,_,rx,ry,h.1,k _ _ _ G (.refl s) (fzR (hg _ _ _ _)) h.2⟩
 ·exact h.elim
theorem zji{f:Value→Value→Sem Value}{g:Int→Int→V}{g':Int→Int→D}(h:OpR X f (rI0 g))(hg:∀K G i j,Rep K G (g i j) (g' i j)):OpP X f (oI0 g'):=by
 refine⟨_,h,fun G H x y d e Q P s rx ry h k=>?_⟩
 unfold oI0 at h
 split at h
 ·simp only[Rep] at rx ry
  exact⟨_,_,rx,ry,k _ _ _ G (.refl s) (fzR (hg _ _ _ _)) h⟩
 ·exact h.elim
theorem zqW:OpP X (binaryOp .Sub) (oI0 fun i j=>.int (i-j)):=zji zpi fun K G i j=>zaN K G _
theorem zfp:OpP X (binaryOp .Mult) (oI CMul fun i j=>.int (i*j)):=zmM zpj fun K G i j=>zaN K G _
theorem zaU:OpP X (binaryOp .FloorDiv) (oI zcH fun i j=>.int (i/j)):=zmM zn4 fun K G i j=>zaN K G _
theorem zaL:OpP X (binaryOp .Mod) (oI (fun _ j=>0<j) fun i j=>.int (i%j)):=zmM zpk fun K G i j=>zaN K G _
theorem zj5:OpP X (binaryOp .Pow) (oI zkv fun i j=>.int (i ^ j.toNat)):=zmM zpl fun K G i j=>zaN K G _
theorem zqX:OpP X (compareOp .Lt) (oI0 fun i j=>.bl (decide (i<j))):=zji op_lt fun K G i j=>za8 K G _
theorem zrr:OpP X (compareOp .LtE) (oI0 fun i j=>.bl (decide (i≤j))):=zji ziE fun K G i j=>za8 K G _
theorem zqo:OpP X (compareOp .Gt) (oI0 fun i j=>.bl (decide (j<i))):=zji zqN fun K G i j=>za8 K G _
end
end L2
namespace L2
open PySem PySem.Spec PyProof.Rows PySem.SeqAt
mutual
noncomputable def eqD:D→D→Bool
 | .non,.non=>true
 | .bl a,.bl b=>a==b
 | .bl a,.int b=>(if a then 1 else 0)==b
 | .int a,.bl b=>a==(if b then 1 else 0)
 | .int a,.int b=>a==b
 | .str a,.str b=>a==b
 | .tup xs,.tup ys=>zhO xs ys
 | .lst xs,.lst ys=>zhO xs ys
 | _,_=>false
noncomputable def zhO:List D→List D→Bool
 | [],[]=>true
 | x::xs,y::ys=>eqD x y&&zhO xs ys
 | _,_=>false
end
noncomputable def okE:Nat→D→Prop
 | _,.non=>True
 | _,.bl _=>True
 | _,.int _=>True
 | _,.str _=>True
 | n+1,.tup ds=>∀d∈ds,okE n d
 | n+1,.lst ds=>∀d∈ds,okE n d
 | _,_=>False
theorem okE.mono:∀{n m:Nat} {d:D},n≤m→okE n d→okE m d
 | n,m,.non,_,_=>by cases m<;>exact trivial
 | n,m,.bl _,_,_=>by cases m<;>exact trivial
 | n,m,.int _,_,_=>by cases m<;>exact trivial
 | n,m,.str _,_,_=>by cases m<;>exact trivial
 | 0,m,.tup ds,_,h=>by cases h
 | 0,m,.lst ds,_,h=>by cases h
 | n+1,0,.tup ds,l,h=>by omega
 | n+1,0,.lst ds,l,h=>by omega
 | n+1,m+1,.tup ds,l,h=>fun d hd=>okE.mono (by omega) (h d hd)
 | n+1,m+1,.lst ds,l,h=>fun d hd=>okE.mono (by omega) (h d hd)
 | 0,m,.obj _ _,_,h=>by cases h
 | n+1,m,.obj _ _,_,h=>by cases h
 | 0,m,.dic _,_,h=>by cases h
 | 0,m,.dit _,_,h=>by cases h
 | n+1,m,.dic _,_,h=>by cases h
 | n+1,m,.dit _,_,h=>by cases h
mutual
theorem zdA:∀(n:Nat) (d:D),okE n d→eqD d d=true
 | n,.non,_=>by simp only[eqD]
 | n,.bl _,_=>by simp only[eqD,beq_self_eq_true]
 | n,.int _,_=>by simp only[eqD,beq_self_eq_true]
 | n,.str _,_=>by simp only[eqD,beq_self_eq_true]
 | 0,.tup ds,h=>by cases h
 | 0,.lst ds,h=>by cases h
 | n+1,.tup ds,h=>by simp only[eqD];exact zfq n ds h
 | n+1,.lst ds,h=>by simp only[eqD];exact zfq n ds h
 | 0,.obj _ _,h=>by cases h
 | n+1,.obj _ _,h=>by cases h
 | 0,.dic _,h=>by cases h
 | 0,.dit _,h=>by cases h
 | n+1,.dic _,h=>by cases h
 | n+1,.dit _,h=>by cases h
theorem zfq:∀(n:Nat) (ds:List D),(∀d∈ds,okE n d)→zhO ds ds=true
 | n,[],_=>by simp only[zhO]
 | n,d::ds,h=>by simp only[zhO,zdA n d (h d (by simp)),zfq n ds (fun e he=>h e (by simp[he])),Bool.and_self]
end
theorem zdB:∀{xs ys:List D},xs.length≠ys.length→zhO xs ys=false
 | [],[],h=>absurd rfl h
 | x::xs,y::ys,h=>by
  rw[zhO,zdB (xs:=xs) (ys:=ys) (by simpa using h),Bool.and_false]
 | [],_::_,_=>by simp only[zhO]
 | _::_,[],_=>by simp only[zhO]
theorem zdC:∀(xs ys:List D),xs.length=ys.length→zhO xs ys=(List.range xs.length).all fun j=>eqD (xs.getD j .non) (ys.getD j .non)
 | [],[],_=>by simp[zhO]
 | x::xs,y::ys,h=>by
  rw[zhO,zdC xs ys (by simpa using h),List.length_cons,List.range_succ_eq_map,List.all_cons,List.all_map]
  congr 1
 | [],_::_,h=>by simp at h
 | _::_,[],h=>by simp at h
theorem zgX(xs ys:List D):((List.range (min xs.length ys.length)).all (fun j=>eqD (xs.getD j .non) (ys.getD j .non))&&xs.length==ys.length)=zhO xs ys:=by
 by_cases h:xs.length=ys.length
 ·rw[zdC xs ys h,h]
  simp
 ·rw[zdB h]
  simp[h]
section
variable {X:Cx} {pins:List (Addr×Obj)} {σ:St} {H:Hp} {s:Shared}
mutual
theorem zgY(I:Inv X pins σ H s):∀(n:Nat) (d e:D) (v:V),okE n d→okE n e→Rep X.K H v d→Rep X.K H v e→d=e
 | n,.non,e,v,h,h',r,r'=>by
  cases e<;>simp only[Rep] at r r'<;>subst r<;>first | rfl | (simp at r';done) | (simp only[V.bl.injEq,V.int.injEq,V.str.injEq] at r';rw[r'])
 | n,.bl b,e,v,h,h',r,r'=>by
  cases e<;>simp only[Rep] at r r'<;>subst r<;>first | rfl | (simp at r';done) | (simp only[V.bl.injEq,V.int.injEq,V.str.injEq] at r';rw[r'])
 | n,.int b,e,v,h,h',r,r'=>by
  cases e<;>simp only[Rep] at r r'<;>subst r<;>first | rfl | (simp at r';done) | (simp only[V.bl.injEq,V.int.injEq,V.str.injEq] at r';rw[r'])
 | n,.str b,e,v,h,h',r,r'=>by
  cases e<;>simp only[Rep] at r r'<;>subst r<;>first | rfl | (simp at r';done) | (simp only[V.bl.injEq,V.int.injEq,V.str.injEq] at r';rw[r'])
 | 0,.tup ds,e,v,h,h',r,r'=>by cases h
 | 0,.lst ds,e,v,h,h',r,r'=>by cases h
 | n+1,.tup ds,e,v,h,h',r,r'=>by
  simp only[Rep] at r
  obtain⟨a,xs,rfl,q,rs⟩:=r
  cases e<;>simp only[Rep] at r'
  case tup es=>
   obtain⟨b,ys,e1,q',rs'⟩:=r'
   cases e1
   rw[I.tuple_inj q' q] at rs'
   rw[zgZ I n ds es xs h h' rs rs']
  case lst es=>
   obtain⟨b,ys,e1,q',rs'⟩:=r'
   cases e1
   obtain⟨its,_,ht,_⟩:=I.tuple q
   obtain⟨its',_,hl,_⟩:=I.list q'.sq
   exact absurd rfl (ne_of_list_tuple hl.isList (show s.heap.IsTuple a its.toArray from ht))
  case obj=>cases h'
  case dic=>cases h'
  case dit=>cases h'
  all_goals cases r'
 | n+1,.lst ds,e,v,h,h',r,r'=>by
  simp only[Rep] at r
  obtain⟨a,xs,rfl,q,rs⟩:=r
  cases e<;>simp only[Rep] at r'
  case lst es=>
   obtain⟨b,ys,e1,q',rs'⟩:=r'
   cases e1
   rw[I.list_inj q'.sq q.sq] at rs'
   rw[zgZ I n ds es xs h h' rs rs']
  case tup es=>
   obtain⟨b,ys,e1,q',rs'⟩:=r'
   cases e1
   obtain⟨its,_,ht,_⟩:=I.tuple q'
   obtain⟨its',_,hl,_⟩:=I.list q.sq
   exact absurd rfl (ne_of_list_tuple hl.isList (show s.heap.IsTuple a its.toArray from ht))
  case obj=>cases h'
  case dic=>cases h'
  case dit=>cases h'
  all_goals cases r'
 | 0,.obj _ _,_,_,h,_,_,_=>by cases h
 | n+1,.obj _ _,_,_,h,_,_,_=>by cases h
 | 0,.dic _,_,_,h,_,_,_=>by cases h
 | 0,.dit _,_,_,h,_,_,_=>by cases h
 | n+1,.dic _,_,_,h,_,_,_=>by cases h
 | n+1,.dit _,_,_,h,_,_,_=>by cases h
theorem zgZ(I:Inv X pins σ H s):∀(n:Nat) (ds es:List D) (vs:List V),(∀d∈ds,okE n d)→(∀d∈es,okE n d)→Reps X.K H vs ds→Reps X.K H vs es→ds=es
 | n,[],[],_,_,_,_,_=>rfl
 | n,d::ds,e::es,v::vs,h,h',r,r'=>by
  simp only[Reps] at r r'
  rw[zgY I n d e v (h d (by simp)) (h' e (by simp)) r.1 r'.1,zgZ I n ds es vs (fun x hx=>h x (by simp[hx])) (fun x hx=>h' x (by simp[hx])) r.2 r'.2]
 | n,[],_::_,[],_,_,_,r=>by simp only[Reps] at r
 | n,[],_::_,_::_,_,_,r,_=>by simp only[Reps] at r
 | n,_::_,[],[],_,_,r,_=>by simp only[Reps] at r
 | n,_::_,[],_::_,_,_,_,r=>by simp only[Reps] at r
 | n,_::_,_::_,[],_,_,r,_=>by simp only[Reps] at r
end
theorem zbI{vs:List V}{ds:List D}{us:List Value}{j:Nat}(rv:Vals vs us)(rd:Reps X.K H vs ds)(hj:j<us.toArray.size):∃v,RelV v us.toArray[j]∧Rep X.K H v (ds.getD j .non)∧ds.getD j .non∈ds:=by
 have h1:j<us.length:=by simpa using hj
 have h2:j<vs.length:=by rw[rv.length];exact h1
 have h3:j<ds.length:=by rw[←rd.length];exact h2
 obtain⟨u,hu,ru⟩:=rv.get (List.getElem?_eq_getElem h2)
 obtain⟨d,hd,rd'⟩:=rd.getV (List.getElem?_eq_getElem h2)
 rw[List.getElem?_eq_getElem h1] at hu
 rw[List.getElem?_eq_getElem h3] at hd
 cases hu
 cases hd
 refine⟨vs[j],?_,?_,?_⟩
 ·simpa using ru
 ·simpa[List.getD,h3] using rd'
 ·simp[List.getD,h3]
noncomputable def zj6:D→Bool
 | .non=>true
 | .bl _=>true
 | .int _=>true
 | .str _=>true
 | _=>false
theorem zk2{d e:D}{x y:V}(hd:zj6 d=true)(he:zj6 e=true)(rx:Rep X.K H x d)(ry:Rep X.K H y e):zmE x=true∧zmE y=true∧eqV x y=eqD d e:=by
 cases d<;>first | cases hd | skip
 all_goals (cases e<;>first | cases he | skip)
 all_goals
  simp only[Rep] at rx ry
  subst rx ry
  exact⟨rfl,rfl,by simp[eqV,eqD]⟩
theorem zhP(I:Inv X pins σ H s):∀(n:Nat) (A:Around) (d e:D) (x y:V) (v u:Value),okE n d→okE n e→A.units+n<cLine→Rep X.K H x d→Rep X.K H y e→RelV x v→RelV y u→EqAt A s v u (eqD d e):=by
 intro n
 induction n with
 | zero=>
  intro A d e x y v u hd he hu rx ry qx qy
  have fd:zj6 d=true:=by cases d<;>first | rfl | cases hd
  have fe:zj6 e=true:=by cases e<;>first | rfl | cases he
  obtain⟨h1,h2,h3⟩:=zk2 fd fe rx ry
  rw[←h3]
  exact znx qx qy h1 h2
 | succ n ih=>
  intro A d e x y v u hd he hu rx ry qx qy
  have hu0:A.units<cLine:=by omega
  have hu1:A.in1.units+n<cLine:=by show A.units+1+n<cLine;omega
  by_cases fd:zj6 d=true
  ·by_cases fe:zj6 e=true
   ·obtain⟨h1,h2,h3⟩:=zk2 fd fe rx ry
    rw[←h3]
    exact znx qx qy h1 h2
   ·cases e<;>first | exact absurd rfl fe | skip
    case tup es=>
     simp only[Rep] at ry
     obtain⟨b,ys,rfl,q,rs⟩:=ry
     cases qy
     obtain⟨its,rv,ht,_⟩:=I.tuple q
     have ht':s.heap.IsTuple b its.toArray:=ht
     cases d<;>first | cases fd | skip
     ·simp only[Rep] at rx;subst rx;cases qx;simpa only[eqD] using EqAt.none_tuple ht' hu0
     ·simp only[Rep] at rx;subst rx;cases qx;simpa only[eqD] using EqAt.bool_tuple _ ht' hu0
     ·simp only[Rep] at rx;subst rx;obtain⟨t,rfl⟩:=qx;simpa only[eqD] using EqAt.int_tuple _ t ht' hu0
     ·simp only[Rep] at rx;subst rx;obtain⟨t,rfl⟩:=qx;simpa only[eqD] using EqAt.str_tuple _ t ht' hu0
    case lst es=>
     simp only[Rep] at ry
     obtain⟨b,ys,rfl,q,rs⟩:=ry
     cases qy
     obtain⟨its,rv,ht,_⟩:=I.list q.sq
     have ht':=ht.isList
     cases d<;>first | cases fd | skip
     ·simp only[Rep] at rx;subst rx;cases qx;simpa only[eqD] using EqAt.none_list ht' hu0
     ·simp only[Rep] at rx;subst rx;cases qx;simpa only[eqD] using EqAt.bool_list _ ht' hu0
     ·simp only[Rep] at rx;subst rx;obtain⟨t,rfl⟩:=qx;simpa only[eqD] using EqAt.int_list _ t ht' hu0
     ·simp only[Rep] at rx;subst rx;obtain⟨t,rfl⟩:=qx;simpa only[eqD] using EqAt.str_list _ t ht' hu0
    case obj=>cases he
    case dic=>cases he
    case dit=>cases he
  ·cases d<;>first | exact absurd rfl fd | skip
   case tup ds=>
    have rx0:=rx
    simp only[Rep] at rx
    obtain⟨a,xs,rfl,q,rs⟩:=rx
    cases qx
    obtain⟨its,rv,ht,_⟩:=I.tuple q
    have ht':s.heap.IsTuple a its.toArray:=ht
    cases e
    case non=>simp only[Rep] at ry;subst ry;cases qy;simpa only[eqD] using EqAt.tuple_none ht' hu0
    case bl=>simp only[Rep] at ry;subst ry;cases qy;simpa only[eqD] using EqAt.tuple_bool _ ht' hu0
    case int=>simp only[Rep] at ry;subst ry;obtain⟨t,rfl⟩:=qy;simpa only[eqD] using EqAt.tuple_int _ t ht' hu0
    case str=>simp only[Rep] at ry;subst ry;obtain⟨t,rfl⟩:=qy;simpa only[eqD] using EqAt.tuple_str _ t ht' hu0
    case lst es=>
     simp only[Rep] at ry
     obtain⟨b,ys,rfl,q',rs'⟩:=ry
     cases qy
     obtain⟨its',rv',hl,_⟩:=I.list q'.sq
     simpa only[eqD] using EqAt.tuple_list ht' hl.isList hu0
    case tup es=>
     have ry0:=ry
     simp only[Rep] at ry
     obtain⟨b,ys,rfl,q',rs'⟩:=ry
     cases qy
     obtain⟨its',rv',ht2,_⟩:=I.tuple q'
     by_cases hab:a=b
     ·subst hab
      have e0:=zgY I (n+1) _ _ _ hd he rx0 ry0
      rw[←e0,zdA (n+1) _ hd]
      exact EqAt.same _
     ·refine EqAt.of_refs hab ?_
      have h:=RcAt.tuples (e:=fun j=>eqD (ds.getD j .non) (es.getD j .non)) ht' (show s.heap.IsTuple b its'.toArray from ht2) hu0 fun j h1 h2=>by
       obtain⟨v1,a1,b1,c1⟩:=zbI rv rs h1
       obtain⟨v2,a2,b2,c2⟩:=zbI rv' rs' h2
       exact ih A.in1 _ _ v1 v2 _ _ (hd _ c1) (he _ c2) hu1 b1 b2 a1 a2
      have l1:its.toArray.size=ds.length:=by rw[List.size_toArray,←rv.length,rs.length]
      have l2:its'.toArray.size=es.length:=by rw[List.size_toArray,←rv'.length,rs'.length]
      rw[l1,l2,zgX] at h
      simpa only[eqD] using h
    case obj=>cases he
    case dic=>cases he
    case dit=>cases he
   case lst ds=>
    have rx0:=rx
    simp only[Rep] at rx
    obtain⟨a,xs,rfl,q,rs⟩:=rx
    cases qx
    obtain⟨its,rv,ht,_⟩:=I.list q.sq
    have ht':=ht.isList
    cases e
    case non=>simp only[Rep] at ry;subst ry;cases qy;simpa only[eqD] using EqAt.list_none ht' hu0
    case bl=>simp only[Rep] at ry;subst ry;cases qy;simpa only[eqD] using EqAt.list_bool _ ht' hu0
    case int=>simp only[Rep] at ry;subst ry;obtain⟨t,rfl⟩:=qy;simpa only[eqD] using EqAt.list_int _ t ht' hu0
    case str=>simp only[Rep] at ry;subst ry;obtain⟨t,rfl⟩:=qy;simpa only[eqD] using EqAt.list_str _ t ht' hu0
    case tup es=>
     simp only[Rep] at ry
     obtain⟨b,ys,rfl,q',rs'⟩:=ry
     cases qy
     obtain⟨its',rv',hl,_⟩:=I.tuple q'
     simpa only[eqD] using EqAt.list_tuple ht' (show s.heap.IsTuple b its'.toArray from hl) hu0
    case lst es=>
     have ry0:=ry
     simp only[Rep] at ry
     obtain⟨b,ys,rfl,q',rs'⟩:=ry
     cases qy
     obtain⟨its',rv',ht2,_⟩:=I.list q'.sq
     by_cases hab:a=b
     ·subst hab
      have e0:=zgY I (n+1) _ _ _ hd he rx0 ry0
      rw[←e0,zdA (n+1) _ hd]
      exact EqAt.same _
     ·refine EqAt.of_refs hab ?_
      have l1:its.toArray.size=ds.length:=by rw[List.size_toArray,←rv.length,rs.length]
      have l2:its'.toArray.size=es.length:=by rw[List.size_toArray,←rv'.length,rs'.length]
      by_cases hl:ds.length=es.length
      ·have h:=RcAt.lists (e:=fun j=>eqD (ds.getD j .non) (es.getD j .non)) ht' ht2.isList (by rw[l1,l2,hl]) hu0 fun j h1 h2=>by
        obtain⟨v1,a1,b1,c1⟩:=zbI rv rs h1
        obtain⟨v2,a2,b2,c2⟩:=zbI rv' rs' h2
        exact ih A.in1 _ _ v1 v2 _ _ (hd _ c1) (he _ c2) hu1 b1 b2 a1 a2
       rw[l1,←zdC ds es hl] at h
       simpa only[eqD] using h
      ·have h:=RcAt.lists_lengths (A:=A) ht' ht2.isList (by rw[l1,l2];simpa using hl) hu0
       simp only[eqD,zdB hl]
       exact h
    case obj=>cases he
    case dic=>cases he
    case dit=>cases he
   case obj=>cases hd
   case dic=>cases hd
   case dit=>cases hd
end
end L2
namespace L2
open PySem PySem.Spec PyProof.Rows PySem.SeqAt
section
variable {X:Cx} {pins:List (Addr×Obj)} {σ:St} {H:Hp} {s:Shared}
theorem zpy(I:Inv X pins σ H s):∀(n:Nat) (A:Around) (d e:D) (x y:V) (v u:Value),okE n d→okE n e→A.units+n<cLine→Rep X.K H x d→Rep X.K H y e→RelV x v→RelV y u→RcAt A s v u (eqD d e):=by
 intro n A d e x y v u hd he hu rx ry qx qy
 have hu0:A.units<cLine:=by omega
 cases d
 case non=>
  simp only[Rep] at rx;subst rx;cases qx
  cases e
  case non=>simp only[Rep] at ry;subst ry;cases qy;simpa only[eqD,Bool.not_true] using RcAt.none_none
  case bl=>simp only[Rep] at ry;subst ry;cases qy;simpa only[eqD,Bool.not_false] using RcAt.none_bool _
  case int=>simp only[Rep] at ry;subst ry;obtain⟨t,rfl⟩:=qy;simpa only[eqD,Bool.not_false] using RcAt.none_int _ t
  case str=>simp only[Rep] at ry;subst ry;obtain⟨t,rfl⟩:=qy;simpa only[eqD,Bool.not_false] using RcAt.none_str _ t
  case tup=>
   simp only[Rep] at ry;obtain⟨b,ys,rfl,q,rs⟩:=ry;cases qy;obtain⟨its,rv,ht,_⟩:=I.tuple q
   simpa only[eqD,Bool.not_false] using RcAt.none_tuple (show s.heap.IsTuple b its.toArray from ht) hu0
  case lst=>
   simp only[Rep] at ry;obtain⟨b,ys,rfl,q,rs⟩:=ry;cases qy;obtain⟨its,rv,ht,_⟩:=I.list q.sq
   simpa only[eqD,Bool.not_false] using RcAt.none_list ht.isList hu0
  case obj=>cases n<;>cases he
  case dic=>cases n<;>cases he
  case dit=>cases n<;>cases he
 case bl a=>
  simp only[Rep] at rx;subst rx;cases qx
  cases e
  case non=>simp only[Rep] at ry;subst ry;cases qy;simpa only[eqD,Bool.not_false] using RcAt.bool_none _
  case bl=>simp only[Rep] at ry;subst ry;cases qy;simpa only[eqD] using RcAt.bool_bool _ _
  case int=>simp only[Rep] at ry;subst ry;obtain⟨t,rfl⟩:=qy;simpa only[eqD] using RcAt.bool_int _ _ t
  case str=>simp only[Rep] at ry;subst ry;obtain⟨t,rfl⟩:=qy;simpa only[eqD,Bool.not_false] using RcAt.bool_str _ _ t
  case tup=>
   simp only[Rep] at ry;obtain⟨b,ys,rfl,q,rs⟩:=ry;cases qy;obtain⟨its,rv,ht,_⟩:=I.tuple q
   simpa only[eqD,Bool.not_false] using RcAt.bool_tuple _ (show s.heap.IsTuple b its.toArray from ht) hu0
  case lst=>
   simp only[Rep] at ry;obtain⟨b,ys,rfl,q,rs⟩:=ry;cases qy;obtain⟨its,rv,ht,_⟩:=I.list q.sq
   simpa only[eqD,Bool.not_false] using RcAt.bool_list _ ht.isList hu0
  case obj=>cases n<;>cases he
  case dic=>cases n<;>cases he
  case dit=>cases n<;>cases he
 case int a=>
  simp only[Rep] at rx;subst rx;obtain⟨t0,rfl⟩:=qx
  cases e
  case non=>simp only[Rep] at ry;subst ry;cases qy;simpa only[eqD,Bool.not_false] using RcAt.int_none _ t0
  case bl=>simp only[Rep] at ry;subst ry;cases qy;simpa only[eqD] using RcAt.int_bool _ t0 _
  case int=>simp only[Rep] at ry;subst ry;obtain⟨t,rfl⟩:=qy;simpa only[eqD] using RcAt.int_int _ t0 _ t
  case str=>simp only[Rep] at ry;subst ry;obtain⟨t,rfl⟩:=qy;simpa only[eqD,Bool.not_false] using RcAt.int_str _ t0 _ t
  case tup=>
   simp only[Rep] at ry;obtain⟨b,ys,rfl,q,rs⟩:=ry;cases qy;obtain⟨its,rv,ht,_⟩:=I.tuple q
   simpa only[eqD,Bool.not_false] using RcAt.int_tuple _ t0 (show s.heap.IsTuple b its.toArray from ht) hu0
  case lst=>
   simp only[Rep] at ry;obtain⟨b,ys,rfl,q,rs⟩:=ry;cases qy;obtain⟨its,rv,ht,_⟩:=I.list q.sq
   simpa only[eqD,Bool.not_false] using RcAt.int_list _ t0 ht.isList hu0
  case obj=>cases n<;>cases he
  case dic=>cases n<;>cases he
  case dit=>cases n<;>cases he
 case str a=>
  simp only[Rep] at rx;subst rx;obtain⟨t0,rfl⟩:=qx
  cases e
  case non=>simp only[Rep] at ry;subst ry;cases qy;simpa only[eqD,Bool.not_false] using RcAt.str_none _ t0
  case bl=>simp only[Rep] at ry;subst ry;cases qy;simpa only[eqD,Bool.not_false] using RcAt.str_bool _ t0 _
  case int=>simp only[Rep] at ry;subst ry;obtain⟨t,rfl⟩:=qy;simpa only[eqD,Bool.not_false] using RcAt.str_int _ t0 _ t
  case str=>simp only[Rep] at ry;subst ry;obtain⟨t,rfl⟩:=qy;simpa only[eqD] using RcAt.str_str _ t0 _ t
  case tup=>
   simp only[Rep] at ry;obtain⟨b,ys,rfl,q,rs⟩:=ry;cases qy;obtain⟨its,rv,ht,_⟩:=I.tuple q
   simpa only[eqD,Bool.not_false] using RcAt.str_tuple _ t0 (show s.heap.IsTuple b its.toArray from ht) hu0
  case lst=>
   simp only[Rep] at ry;obtain⟨b,ys,rfl,q,rs⟩:=ry;cases qy;obtain⟨its,rv,ht,_⟩:=I.list q.sq
   simpa only[eqD,Bool.not_false] using RcAt.str_list _ t0 ht.isList hu0
  case obj=>cases n<;>cases he
  case dic=>cases n<;>cases he
  case dit=>cases n<;>cases he
 case tup ds=>
  cases n with
  | zero=>cases hd
  | succ n=>
  have hu1:A.in1.units+n<cLine:=by show A.units+1+n<cLine;omega
  simp only[Rep] at rx
  obtain⟨a,xs,rfl,q,rs⟩:=rx
  cases qx
  obtain⟨its,rv,ht,_⟩:=I.tuple q
  have ht':s.heap.IsTuple a its.toArray:=ht
  cases e
  case non=>simp only[Rep] at ry;subst ry;cases qy;simpa only[eqD,Bool.not_false] using RcAt.tuple_none ht' hu0
  case bl=>simp only[Rep] at ry;subst ry;cases qy;simpa only[eqD,Bool.not_false] using RcAt.tuple_bool _ ht' hu0
  case int=>simp only[Rep] at ry;subst ry;obtain⟨t,rfl⟩:=qy;simpa only[eqD,Bool.not_false] using RcAt.tuple_int _ t ht' hu0
  case str=>simp only[Rep] at ry;subst ry;obtain⟨t,rfl⟩:=qy;simpa only[eqD,Bool.not_false] using RcAt.tuple_str _ t ht' hu0
  case lst es=>
   simp only[Rep] at ry
   obtain⟨b,ys,rfl,q',rs'⟩:=ry
   cases qy
   obtain⟨its',rv',hl,_⟩:=I.list q'.sq
   simpa only[eqD,Bool.not_false] using RcAt.tuple_list ht' hl.isList hu0
  case tup es=>
   simp only[Rep] at ry
   obtain⟨b,ys,rfl,q',rs'⟩:=ry
   cases qy
   obtain⟨its',rv',ht2,_⟩:=I.tuple q'
   have h:=RcAt.tuples (e:=fun j=>eqD (ds.getD j .non) (es.getD j .non)) ht' (show s.heap.IsTuple b its'.toArray from ht2) hu0 fun j h1 h2=>by
    obtain⟨v1,a1,b1,c1⟩:=zbI rv rs h1
    obtain⟨v2,a2,b2,c2⟩:=zbI rv' rs' h2
    exact zhP I n A.in1 _ _ v1 v2 _ _ (hd _ c1) (he _ c2) hu1 b1 b2 a1 a2
   have l1:its.toArray.size=ds.length:=by rw[List.size_toArray,←rv.length,rs.length]
   have l2:its'.toArray.size=es.length:=by rw[List.size_toArray,←rv'.length,rs'.length]
   rw[l1,l2,zgX] at h
   simpa only[eqD] using h
  case obj=>cases he
  case dic=>cases he
  case dit=>cases he
 case lst ds=>
  cases n with
  | zero=>cases hd
  | succ n=>
  have hu1:A.in1.units+n<cLine:=by show A.units+1+n<cLine;omega
  simp only[Rep] at rx
  obtain⟨a,xs,rfl,q,rs⟩:=rx
  cases qx
  obtain⟨its,rv,ht,_⟩:=I.list q.sq
  have ht':=ht.isList
  cases e
  case non=>simp only[Rep] at ry;subst ry;cases qy;simpa only[eqD,Bool.not_false] using RcAt.list_none ht' hu0
  case bl=>simp only[Rep] at ry;subst ry;cases qy;simpa only[eqD,Bool.not_false] using RcAt.list_bool _ ht' hu0
  case int=>simp only[Rep] at ry;subst ry;obtain⟨t,rfl⟩:=qy;simpa only[eqD,Bool.not_false] using RcAt.list_int _ t ht' hu0
  case str=>simp only[Rep] at ry;subst ry;obtain⟨t,rfl⟩:=qy;simpa only[eqD,Bool.not_false] using RcAt.list_str _ t ht' hu0
  case tup es=>
   simp only[Rep] at ry
   obtain⟨b,ys,rfl,q',rs'⟩:=ry
   cases qy
   obtain⟨its',rv',hl,_⟩:=I.tuple q'
   simpa only[eqD,Bool.not_false] using RcAt.list_tuple ht' (show s.heap.IsTuple b its'.toArray from hl) hu0
  case lst es=>
   simp only[Rep] at ry
   obtain⟨b,ys,rfl,q',rs'⟩:=ry
   cases qy
   obtain⟨its',rv',ht2,_⟩:=I.list q'.sq
   have l1:its.toArray.size=ds.length:=by rw[List.size_toArray,←rv.length,rs.length]
   have l2:its'.toArray.size=es.length:=by rw[List.size_toArray,←rv'.length,rs'.length]
   by_cases hl:ds.length=es.length
   ·have h:=RcAt.lists (e:=fun j=>eqD (ds.getD j .non) (es.getD j .non)) ht' ht2.isList (by rw[l1,l2,hl]) hu0 fun j h1 h2=>by
     obtain⟨v1,a1,b1,c1⟩:=zbI rv rs h1
     obtain⟨v2,a2,b2,c2⟩:=zbI rv' rs' h2
     exact zhP I n A.in1 _ _ v1 v2 _ _ (hd _ c1) (he _ c2) hu1 b1 b2 a1 a2
    rw[l1,←zdC ds es hl] at h
    simpa only[eqD] using h
   ·have h:=RcAt.lists_lengths (A:=A) ht' ht2.isList (by rw[l1,l2];simpa using hl) hu0
    simp only[eqD,zdB hl]
    exact h
  case obj=>cases he
  case dic=>cases he
  case dit=>cases he
 case obj=>cases n<;>cases hd
 case dic=>cases n<;>cases hd
 case dit=>cases n<;>cases hd
theorem zmN(I:Inv X pins σ H s):∀(n:Nat) (A:Around) (d e:D) (x y:V) (v u:Value),okE n d→okE n e→A.units+n<cLine→Rep X.K H x d→Rep X.K H y e→RelV x v→RelV y u→RcNeAt A s v u (!eqD d e):=by
 intro n A d e x y v u hd he hu rx ry qx qy
 have hu0:A.units<cLine:=by omega
 cases d
 case non=>
  simp only[Rep] at rx;subst rx;cases qx
  cases e
  case non=>simp only[Rep] at ry;subst ry;cases qy;simpa only[eqD,Bool.not_true] using RcNeAt.none_none
  case bl=>simp only[Rep] at ry;subst ry;cases qy;simpa only[eqD,Bool.not_false] using RcNeAt.none_bool _
  case int=>simp only[Rep] at ry;subst ry;obtain⟨t,rfl⟩:=qy;simpa only[eqD,Bool.not_false] using RcNeAt.none_int _ t
  case str=>simp only[Rep] at ry;subst ry;obtain⟨t,rfl⟩:=qy;simpa only[eqD,Bool.not_false] using RcNeAt.none_str _ t
  case tup=>
   simp only[Rep] at ry;obtain⟨b,ys,rfl,q,rs⟩:=ry;cases qy;obtain⟨its,rv,ht,_⟩:=I.tuple q
   simpa only[eqD,Bool.not_false] using RcNeAt.none_tuple (show s.heap.IsTuple b its.toArray from ht) hu0
  case lst=>
   simp only[Rep] at ry;obtain⟨b,ys,rfl,q,rs⟩:=ry;cases qy;obtain⟨its,rv,ht,_⟩:=I.list q.sq
   simpa only[eqD,Bool.not_false] using RcNeAt.none_list ht.isList hu0
  case obj=>cases n<;>cases he
  case dic=>cases n<;>cases he
  case dit=>cases n<;>cases he
 case bl a=>
  simp only[Rep] at rx;subst rx;cases qx
  cases e
  case non=>simp only[Rep] at ry;subst ry;cases qy;simpa only[eqD,Bool.not_false] using RcNeAt.bool_none _
  case bl=>simp only[Rep] at ry;subst ry;cases qy;simpa only[eqD] using RcNeAt.bool_bool _ _
  case int=>simp only[Rep] at ry;subst ry;obtain⟨t,rfl⟩:=qy;simpa only[eqD] using RcNeAt.bool_int _ _ t
  case str=>simp only[Rep] at ry;subst ry;obtain⟨t,rfl⟩:=qy;simpa only[eqD,Bool.not_false] using RcNeAt.bool_str _ _ t
  case tup=>
   simp only[Rep] at ry;obtain⟨b,ys,rfl,q,rs⟩:=ry;cases qy;obtain⟨its,rv,ht,_⟩:=I.tuple q
   simpa only[eqD,Bool.not_false] using RcNeAt.bool_tuple _ (show s.heap.IsTuple b its.toArray from ht) hu0
  case lst=>
   simp only[Rep] at ry;obtain⟨b,ys,rfl,q,rs⟩:=ry;cases qy;obtain⟨its,rv,ht,_⟩:=I.list q.sq
   simpa only[eqD,Bool.not_false] using RcNeAt.bool_list _ ht.isList hu0
  case obj=>cases n<;>cases he
  case dic=>cases n<;>cases he
  case dit=>cases n<;>cases he
 case int a=>
  simp only[Rep] at rx;subst rx;obtain⟨t0,rfl⟩:=qx
  cases e
  case non=>simp only[Rep] at ry;subst ry;cases qy;simpa only[eqD,Bool.not_false] using RcNeAt.int_none _ t0
  case bl=>simp only[Rep] at ry;subst ry;cases qy;simpa only[eqD] using RcNeAt.int_bool _ t0 _
  case int=>simp only[Rep] at ry;subst ry;obtain⟨t,rfl⟩:=qy;simpa only[eqD] using RcNeAt.int_int _ t0 _ t
  case str=>simp only[Rep] at ry;subst ry;obtain⟨t,rfl⟩:=qy;simpa only[eqD,Bool.not_false] using RcNeAt.int_str _ t0 _ t
  case tup=>
   simp only[Rep] at ry;obtain⟨b,ys,rfl,q,rs⟩:=ry;cases qy;obtain⟨its,rv,ht,_⟩:=I.tuple q
   simpa only[eqD,Bool.not_false] using RcNeAt.int_tuple _ t0 (show s.heap.IsTuple b its.toArray from ht) hu0
  case lst=>
   simp only[Rep] at ry;obtain⟨b,ys,rfl,q,rs⟩:=ry;cases qy;obtain⟨its,rv,ht,_⟩:=I.list q.sq
   simpa only[eqD,Bool.not_false] using RcNeAt.int_list _ t0 ht.isList hu0
  case obj=>cases n<;>cases he
  case dic=>cases n<;>cases he
  case dit=>cases n<;>cases he
 case str a=>
  simp only[Rep] at rx;subst rx;obtain⟨t0,rfl⟩:=qx
  cases e
  case non=>simp only[Rep] at ry;subst ry;cases qy;simpa only[eqD,Bool.not_false] using RcNeAt.str_none _ t0
  case bl=>simp only[Rep] at ry;subst ry;cases qy;simpa only[eqD,Bool.not_false] using RcNeAt.str_bool _ t0 _
  case int=>simp only[Rep] at ry;subst ry;obtain⟨t,rfl⟩:=qy;simpa only[eqD,Bool.not_false] using RcNeAt.str_int _ t0 _ t
  case str=>simp only[Rep] at ry;subst ry;obtain⟨t,rfl⟩:=qy;simpa only[eqD] using RcNeAt.str_str _ t0 _ t
  case tup=>
   simp only[Rep] at ry;obtain⟨b,ys,rfl,q,rs⟩:=ry;cases qy;obtain⟨its,rv,ht,_⟩:=I.tuple q
   simpa only[eqD,Bool.not_false] using RcNeAt.str_tuple _ t0 (show s.heap.IsTuple b its.toArray from ht) hu0
  case lst=>
   simp only[Rep] at ry;obtain⟨b,ys,rfl,q,rs⟩:=ry;cases qy;obtain⟨its,rv,ht,_⟩:=I.list q.sq
   simpa only[eqD,Bool.not_false] using RcNeAt.str_list _ t0 ht.isList hu0
  case obj=>cases n<;>cases he
  case dic=>cases n<;>cases he
  case dit=>cases n<;>cases he
 case tup ds=>
  cases n with
  | zero=>cases hd
  | succ n=>
  have hu1:A.in1.units+n<cLine:=by show A.units+1+n<cLine;omega
  simp only[Rep] at rx
  obtain⟨a,xs,rfl,q,rs⟩:=rx
  cases qx
  obtain⟨its,rv,ht,_⟩:=I.tuple q
  have ht':s.heap.IsTuple a its.toArray:=ht
  cases e
  case non=>simp only[Rep] at ry;subst ry;cases qy;simpa only[eqD,Bool.not_false] using RcNeAt.tuple_none ht' hu0
  case bl=>simp only[Rep] at ry;subst ry;cases qy;simpa only[eqD,Bool.not_false] using RcNeAt.tuple_bool _ ht' hu0
  case int=>simp only[Rep] at ry;subst ry;obtain⟨t,rfl⟩:=qy;simpa only[eqD,Bool.not_false] using RcNeAt.tuple_int _ t ht' hu0
  case str=>simp only[Rep] at ry;subst ry;obtain⟨t,rfl⟩:=qy;simpa only[eqD,Bool.not_false] using RcNeAt.tuple_str _ t ht' hu0
  case lst es=>
   simp only[Rep] at ry
   obtain⟨b,ys,rfl,q',rs'⟩:=ry
   cases qy
   obtain⟨its',rv',hl,_⟩:=I.list q'.sq
   simpa only[eqD,Bool.not_false] using RcNeAt.tuple_list ht' hl.isList hu0
  case tup es=>
   simp only[Rep] at ry
   obtain⟨b,ys,rfl,q',rs'⟩:=ry
   cases qy
   obtain⟨its',rv',ht2,_⟩:=I.tuple q'
   have h:=RcNeAt.tuples (e:=fun j=>eqD (ds.getD j .non) (es.getD j .non)) ht' (show s.heap.IsTuple b its'.toArray from ht2) hu0 fun j h1 h2=>by
    obtain⟨v1,a1,b1,c1⟩:=zbI rv rs h1
    obtain⟨v2,a2,b2,c2⟩:=zbI rv' rs' h2
    exact zhP I n A.in1 _ _ v1 v2 _ _ (hd _ c1) (he _ c2) hu1 b1 b2 a1 a2
   have l1:its.toArray.size=ds.length:=by rw[List.size_toArray,←rv.length,rs.length]
   have l2:its'.toArray.size=es.length:=by rw[List.size_toArray,←rv'.length,rs'.length]
   rw[l1,l2,zgX] at h
   simpa only[eqD] using h
  case obj=>cases he
  case dic=>cases he
  case dit=>cases he
 case lst ds=>
  cases n with
  | zero=>cases hd
  | succ n=>
  have hu1:A.in1.units+n<cLine:=by show A.units+1+n<cLine;omega
  simp only[Rep] at rx
  obtain⟨a,xs,rfl,q,rs⟩:=rx
  cases qx
  obtain⟨its,rv,ht,_⟩:=I.list q.sq
  have ht':=ht.isList
  cases e
  case non=>simp only[Rep] at ry;subst ry;cases qy;simpa only[eqD,Bool.not_false] using RcNeAt.list_none ht' hu0
  case bl=>simp only[Rep] at ry;subst ry;cases qy;simpa only[eqD,Bool.not_false] using RcNeAt.list_bool _ ht' hu0
  case int=>simp only[Rep] at ry;subst ry;obtain⟨t,rfl⟩:=qy;simpa only[eqD,Bool.not_false] using RcNeAt.list_int _ t ht' hu0
  case str=>simp only[Rep] at ry;subst ry;obtain⟨t,rfl⟩:=qy;simpa only[eqD,Bool.not_false] using RcNeAt.list_str _ t ht' hu0
  case tup es=>
   simp only[Rep] at ry
   obtain⟨b,ys,rfl,q',rs'⟩:=ry
   cases qy
   obtain⟨its',rv',hl,_⟩:=I.tuple q'
   simpa only[eqD,Bool.not_false] using RcNeAt.list_tuple ht' (show s.heap.IsTuple b its'.toArray from hl) hu0
  case lst es=>
   simp only[Rep] at ry
   obtain⟨b,ys,rfl,q',rs'⟩:=ry
   cases qy
   obtain⟨its',rv',ht2,_⟩:=I.list q'.sq
   have l1:its.toArray.size=ds.length:=by rw[List.size_toArray,←rv.length,rs.length]
   have l2:its'.toArray.size=es.length:=by rw[List.size_toArray,←rv'.length,rs'.length]
   by_cases hl:ds.length=es.length
   ·have h:=RcNeAt.lists (e:=fun j=>eqD (ds.getD j .non) (es.getD j .non)) ht' ht2.isList (by rw[l1,l2,hl]) hu0 fun j h1 h2=>by
     obtain⟨v1,a1,b1,c1⟩:=zbI rv rs h1
     obtain⟨v2,a2,b2,c2⟩:=zbI rv' rs' h2
     exact zhP I n A.in1 _ _ v1 v2 _ _ (hd _ c1) (he _ c2) hu1 b1 b2 a1 a2
    rw[l1,←zdC ds es hl] at h
    simpa only[eqD] using h
   ·have h:=RcNeAt.lists_lengths (A:=A) ht' ht2.isList (by rw[l1,l2];simpa using hl) hu0
    simp only[eqD,zdB hl]
    exact h
  case obj=>cases he
  case dic=>cases he
  case dit=>cases he
 case obj=>cases n<;>cases hd
 case dic=>cases n<;>cases hd
 case dit=>cases n<;>cases hd
end
section
variable {X:Cx}
noncomputable def oEq:O2:=fun d e Q=>okE 9 d∧okE 9 e∧Q (.fz (.bl (eqD d e)))
noncomputable def oNe:O2:=fun d e Q=>okE 9 d∧okE 9 e∧Q (.fz (.bl (!eqD d e)))
theorem zeK(hu:X.A.units+64<cLine):OpP X (compareOp .Eq) oEq:=by
 refine⟨fun x y H Q=>∃d e,okE 9 d∧okE 9 e∧Rep X.K H x d∧Rep X.K H y e∧Q (.bl (eqD d e)) H,fun pins s σ H x y v u Q I rx ry h=>?_,fun G H x y d e Q P s rx ry h k=>?_⟩
 ·obtain⟨d,e,hd,he,rd,re,q⟩:=h
  exact zpy I 9 X.A d e x y v u hd he (by omega) rd re rx ry _ _ _ _ ⟨.bl _,H,I,rfl,q⟩
 ·exact⟨d,e,h.1,h.2.1,rx.mono s,ry.mono s,k _ _ _ G (.refl s) (fzR (za8 _ _ _)) h.2.2⟩
theorem zqp(hu:X.A.units+64<cLine):OpP X (compareOp .NotEq) oNe:=by
 refine⟨fun x y H Q=>∃d e,okE 9 d∧okE 9 e∧Rep X.K H x d∧Rep X.K H y e∧Q (.bl (!eqD d e)) H,fun pins s σ H x y v u Q I rx ry h=>?_,fun G H x y d e Q P s rx ry h k=>?_⟩
 ·obtain⟨d,e,hd,he,rd,re,q⟩:=h
  exact zmN I 9 X.A d e x y v u hd he (by omega) rd re rx ry _ _ _ _ ⟨.bl _,H,I,rfl,q⟩
 ·exact⟨d,e,h.1,h.2.1,rx.mono s,ry.mono s,k _ _ _ G (.refl s) (fzR (za8 _ _ _)) h.2.2⟩
noncomputable def inD(d:D)(ds:List D):Bool:=ds.any fun e=>eqD e d
noncomputable def zf8(neg:Bool):O2:=fun d e Q=>match d,e with
 | .str x,.str y=>Q (.fz (.bl (if neg then !(!(Builtin.Str.occurrences y x 0 y.length 1).isEmpty) else !(Builtin.Str.occurrences y x 0 y.length 1).isEmpty)))
 | d,.lst es=>okE 8 d∧(∀e∈es,okE 8 e)∧Q (.fz (.bl (if neg then !inD d es else inD d es)))
 | d,.tup es=>okE 8 d∧(∀e∈es,okE 8 e)∧Q (.fz (.bl (if neg then !inD d es else inD d es)))
 | _,_=>False
noncomputable def eqW(X:Cx)(H:Hp)(d:D)(u:Value):Bool:=open Classical in if h:∃(v:V) (e:D),okE 8 e∧RelV v u∧Rep X.K H v e then eqD h.choose_spec.choose d else false
theorem zk3{pins:List (Addr×Obj)}{σ:St}{H:Hp}{s:Shared}(I:Inv X pins σ H s){d e:D}{v:V}{u:Value}(he:okE 8 e)(rv:RelV v u)(re:Rep X.K H v e):eqW X H d u=eqD e d:=by
 have h:∃(v:V) (e:D),okE 8 e∧RelV v u∧Rep X.K H v e:=⟨v,e,he,rv,re⟩
 unfold eqW
 rw[dif_pos h]
 obtain⟨h1,h2,h3⟩:=h.choose_spec.choose_spec
 have e1:h.choose=v:=RelV.inj h2 rv
 have h4:∀v',v'=v→∀e',okE 8 e'→Rep X.K H v' e'→e'=e:=fun v' hv e' o r=>by subst hv;exact zgY I 8 _ e _ o he r re
 rw[h4 _ e1 _ h1 h3]
theorem zhQ{pins:List (Addr×Obj)}{σ:St}{H:Hp}{s:Shared}(I:Inv X pins σ H s){d:D}:∀{es:List D} {vs:List V} {us:List Value},(∀e∈es,okE 8 e)→Vals vs us→Reps X.K H vs es→us.any (eqW X H d)=inD d es
 | [],_,_,_,rv,re=>by
  cases rv
  ·rfl
  ·simp only[Reps] at re
 | e::es,_,_,h,rv,re=>by
  cases rv with
  | nil=>simp only[Reps] at re
  | cons r t=>
   simp only[Reps] at re
   rw[List.any_cons,zk3 I (h e (by simp)) r re.1,zhQ I (fun x hx=>h x (by simp[hx])) t re.2]
   rfl
theorem zdD{pins:List (Addr×Obj)}{σ:St}{H:Hp}{s:Shared}{A:Around}(I:Inv X pins σ H s){d:D}{x:V}{v:Value}(hd:okE 8 d)(hu:A.units+8<cLine)(rx:Rep X.K H x d)(qx:RelV x v){es:List D}{vs:List V}{us:List Value}
  (he:∀e∈es,okE 8 e) (rv:Vals vs us) (re:Reps X.K H vs es):∀u∈us.toArray,EqAt A s u v (eqW X H d u):=fun u hu'=>by
 obtain⟨j,hj,e⟩:=Array.mem_iff_getElem.mp hu'
 obtain⟨w,a1,b1,c1⟩:=zbI rv re hj
 rw[e] at a1
 rw[zk3 I (he _ c1) a1 b1]
 exact zhP I 8 A _ _ w x _ _ (he _ c1) hd hu b1 rx a1 qx
theorem zpz(hu:X.A.units+64<cLine):OpR X (compareOp .In) (fun x y H Q=>∃p d es vs,y=.ref p∧(SqL X.K H p vs∨SqT X.K H p vs)∧okE 8 d∧(∀e∈es,okE 8 e)∧Rep X.K H x d∧Reps X.K H vs es∧Q (.bl (inD d es)) H):=by
 intro pins s σ H x y v u Q I rx ry h
 obtain⟨p,d,es,vs,rfl,hq,hd,he,rd,re,q⟩:=h
 cases ry
 rcases hq with hq | hq
 ·obtain⟨its,r,pl,hz⟩:=I.list hq
  refine SeqAt.in_listAt (eqW X H d) pl.isList (zdD I hd (by show X.A.units+1+8<cLine;omega) rd rx he r re) ⟨.bl _,H,I,rfl,?_⟩
  rw[show its.toArray.any (eqW X H d)=its.any (eqW X H d) by simp,zhQ I he r re]
  exact q
 ·obtain⟨its,r,pl,hz⟩:=I.tuple hq
  refine SeqAt.in_tupleAt (eqW X H d) pl (zdD I hd (by show X.A.units+1+8<cLine;omega) rd rx he r re) ⟨.bl _,H,I,rfl,?_⟩
  rw[show its.toArray.any (eqW X H d)=its.any (eqW X H d) by simp,zhQ I he r re]
  exact q
theorem zk4(hu:X.A.units+64<cLine):OpR X (compareOp .NotIn) (fun x y H Q=>∃p d es vs,y=.ref p∧(SqL X.K H p vs∨SqT X.K H p vs)∧okE 8 d∧(∀e∈es,okE 8 e)∧Rep X.K H x d∧Reps X.K H vs es∧Q (.bl (!inD d es)) H):=by
 intro pins s σ H x y v u Q I rx ry h
 obtain⟨p,d,es,vs,rfl,hq,hd,he,rd,re,q⟩:=h
 cases ry
 rcases hq with hq | hq
 ·obtain⟨its,r,pl,hz⟩:=I.list hq
  refine SeqAt.notIn_listAt (eqW X H d) pl.isList (zdD I hd (by show X.A.units+1+8<cLine;omega) rd rx he r re) ⟨.bl _,H,I,rfl,?_⟩
  rw[show its.toArray.any (eqW X H d)=its.any (eqW X H d) by simp,zhQ I he r re]
  exact q
 ·obtain⟨its,r,pl,hz⟩:=I.tuple hq
  refine SeqAt.notIn_tupleAt (eqW X H d) pl (zdD I hd (by show X.A.units+1+8<cLine;omega) rd rx he r re) ⟨.bl _,H,I,rfl,?_⟩
  rw[show its.toArray.any (eqW X H d)=its.any (eqW X H d) by simp,zhQ I he r re]
  exact q
theorem zmO(hu:X.A.units+64<cLine):OpP X (compareOp .In) (zf8 false):=by
 refine⟨_,op_in_str.or (zpz hu),fun G H x y d e Q P s rx ry h k=>?_⟩
 unfold zf8 at h
 split at h
 ·simp only[Rep] at rx ry
  exact .inl ⟨_,_,rx,ry,k _ _ _ G (.refl s) (fzR (za8 _ _ _)) h⟩
 ·simp only[Rep] at ry
  obtain⟨a,ys,rfl,hy,rys⟩:=ry
  exact .inr ⟨a,_,_,ys,rfl,.inl ((s.rdl hy).sq),h.1,h.2.1,rx.mono s,rys.mono s,k _ _ _ G (.refl s) (fzR (za8 _ _ _)) h.2.2⟩
 ·simp only[Rep] at ry
  obtain⟨a,ys,rfl,hy,rys⟩:=ry
  exact .inr ⟨a,_,_,ys,rfl,.inr (s.seqT hy),h.1,h.2.1,rx.mono s,rys.mono s,k _ _ _ G (.refl s) (fzR (za8 _ _ _)) h.2.2⟩
 ·exact h.elim
theorem ziK(hu:X.A.units+64<cLine):OpP X (compareOp .NotIn) (zf8 true):=by
 refine⟨_,op_notIn_str.or (zk4 hu),fun G H x y d e Q P s rx ry h k=>?_⟩
 unfold zf8 at h
 split at h
 ·simp only[Rep] at rx ry
  exact .inl ⟨_,_,rx,ry,k _ _ _ G (.refl s) (fzR (za8 _ _ _)) h⟩
 ·simp only[Rep] at ry
  obtain⟨a,ys,rfl,hy,rys⟩:=ry
  exact .inr ⟨a,_,_,ys,rfl,.inl ((s.rdl hy).sq),h.1,h.2.1,rx.mono s,rys.mono s,k _ _ _ G (.refl s) (fzR (za8 _ _ _)) h.2.2⟩
 ·simp only[Rep] at ry
  obtain⟨a,ys,rfl,hy,rys⟩:=ry
  exact .inr ⟨a,_,_,ys,rfl,.inr (s.seqT hy),h.1,h.2.1,rx.mono s,rys.mono s,k _ _ _ G (.refl s) (fzR (za8 _ _ _)) h.2.2⟩
 ·exact h.elim
noncomputable def zdE:D→Bool
 | .non=>true
 | _=>false
noncomputable def zk5(neg:Bool):O2:=fun d e Q=>match e with
 | .non=>Q (.fz (.bl (if neg then !zdE d else zdE d)))
 | _=>False
theorem zjj{K:PySem.W.Frag}{G:Hp}{x:V}{d:D}(r:Rep K G x d):decide (x=.non)=zdE d:=by
 cases d<;>simp only[Rep] at r
 case non=>subst r;rfl
 case bl=>subst r;rfl
 case int=>subst r;rfl
 case str=>subst r;rfl
 case tup=>obtain⟨_,_,rfl,_⟩:=r;rfl
 case lst=>obtain⟨_,_,rfl,_⟩:=r;rfl
 case obj=>obtain⟨_,_,_,_,rfl,_⟩:=r;rfl
 case dic=>obtain⟨_,_,_,rfl,_⟩:=r;rfl
 case dit=>obtain⟨_,_,_,rfl,_⟩:=r;rfl
theorem zrs:OpP X (compareOp .Is) (zk5 false):=by
 refine⟨_,zpn,fun G H x y d e Q P s rx ry h k=>?_⟩
 unfold zk5 at h
 split at h
 ·simp only[Rep] at ry
  refine⟨ry,?_⟩
  rw[zjj rx]
  exact k _ _ _ G (.refl s) (fzR (za8 _ _ _)) h
 ·exact h.elim
theorem ziL:OpP X (compareOp .IsNot) (zk5 true):=by
 refine⟨_,zn5,fun G H x y d e Q P s rx ry h k=>?_⟩
 unfold zk5 at h
 split at h
 ·simp only[Rep] at ry
  refine⟨ry,?_⟩
  rw[zjj rx]
  exact k _ _ _ G (.refl s) (fzR (za8 _ _ _)) h
 ·exact h.elim
end
end L2
namespace L2
open PySem PySem.Spec PyProof.Rows
section
variable {X:Cx} {pos:Pos} {a b c:Expr} {ta tb tc:TD} {pa pb':TDb} {zcD:List Expr}
noncomputable def zoV(t:TDb):TDb:=fun ρ Q=>t ρ fun k=>Q (!k)
noncomputable def zmP(t u:TDb):TDb:=fun ρ Q=>t ρ fun k=>if k=true then u ρ Q else Q false
noncomputable def bOr(t u:TDb):TDb:=fun ρ Q=>t ρ fun k=>if k=true then Q true else u ρ Q
theorem zk6(h:PB X a pa):PB X (.UnaryOp .Not a pos) (zoV pa):=by
 obtain⟨t,p,q⟩:=h
 exact⟨_,zpb p,fun ρ σ G0 H0 G H Q P E h k=>q ρ σ G0 H0 G H _ _ E h fun b H' G' x hq=>k _ H' G' x hq⟩
noncomputable def PWb(X:Cx)(e:Expr)(t:TDb):Prop:=∃tt,PW X e tt∧∀(ρ:Ev) (σ:St) (G0 H0 G H:Hp) (Q:Bool→Prop) (P:Bool→Hp→Prop),EOk X.K G0 H0 ρ σ G H→t ρ Q→
 (∀b H' G',Ext G H G' H'→Q b→P b H')→tt σ H P
theorem PWb.pb{e:Expr}{t:TDb}(h:PWb X e t):PB X e t:=let⟨tt,p,q⟩:=h;⟨tt,p.pt,q⟩
theorem ze8(h:PB X a pa):PWb X (.BoolOp .And [a] pos) pa:=let⟨tt,p,q⟩:=h;⟨tt,zn0 p,q⟩
theorem zk7(h:PB X a pa):PWb X (.BoolOp .Or [a] pos) pa:=let⟨tt,p,q⟩:=h;⟨tt,zo9 p,q⟩
theorem zd4(h:PB X a pa)(h':PWb X (.BoolOp .And (b::zcD) pos) pb'):PWb X (.BoolOp .And (a::b::zcD) pos) (zmP pa pb'):=by
 obtain⟨t,p,q⟩:=h
 obtain⟨t',p',q'⟩:=h'
 refine⟨_,zpa p p',fun ρ σ G0 H0 G H Q P E h k=>q ρ σ G0 H0 G H _ _ E h fun b H' G' x hq=>?_⟩
 cases b with
 | true=>rw[if_pos rfl] at hq ⊢;exact q' ρ σ G0 H0 G' H' Q P (E.ext x) hq fun b2 H2 G2 x2 h2=>k b2 H2 G2 (x.trans x2) h2
 | false=>rw[if_neg Bool.false_ne_true] at hq ⊢;exact k false H' G' x hq
theorem znD(h:PB X a pa)(h':PWb X (.BoolOp .Or (b::zcD) pos) pb'):PWb X (.BoolOp .Or (a::b::zcD) pos) (bOr pa pb'):=by
 obtain⟨t,p,q⟩:=h
 obtain⟨t',p',q'⟩:=h'
 refine⟨_,zqz p p',fun ρ σ G0 H0 G H Q P E h k=>q ρ σ G0 H0 G H _ _ E h fun b H' G' x hq=>?_⟩
 cases b with
 | true=>rw[if_pos rfl] at hq ⊢;exact k true H' G' x hq
 | false=>rw[if_neg Bool.false_ne_true] at hq ⊢;exact q' ρ σ G0 H0 G' H' Q P (E.ext x) hq fun b2 H2 G2 x2 h2=>k b2 H2 G2 (x.trans x2) h2
noncomputable def zqq(t:TD):TD:=fun ρ Q=>t ρ fun r=>match r with
 | .fz (.bl k)=>Q (.fz (.bl (!k)))
 | _=>False
noncomputable def zqr(t u:TD):TD:=fun ρ Q=>t ρ fun r=>match r with
 | .fz (.bl k)=>if k=true then u ρ Q else Q (.fz (.bl false))
 | _=>False
noncomputable def dOr(t u:TD):TD:=fun ρ Q=>t ρ fun r=>match r with
 | .fz (.bl k)=>if k=true then Q (.fz (.bl true)) else u ρ Q
 | _=>False
theorem zpA(h:PD X a ta):PD X (.UnaryOp .Not a pos) (zqq ta):=by
 obtain⟨t,p,q⟩:=h
 refine⟨_,zpe p,fun ρ σ G0 H0 G H Q P E h k=>q ρ σ G0 H0 G H _ _ E h fun v H' r G' x rr hq=>?_⟩
 split at hq
 ·rename_i kk
  have e:v=.bl kk:=by simpa only[RepR,Rep] using rr
  exact⟨kk,e,k _ H' _ G' x (fzR (za8 _ _ _)) hq⟩
 ·exact hq.elim
theorem zk8{op}(h:PD X a ta):PD X (.BoolOp op [a] pos) ta:=let⟨t,p,q⟩:=h;⟨t,zpc p,q⟩
theorem zpB(h:PD X a ta)(h':PD X (.BoolOp .And (b::zcD) pos) tb):PD X (.BoolOp .And (a::b::zcD) pos) (zqr ta tb):=by
 obtain⟨t,p,q⟩:=h
 obtain⟨t',p',q'⟩:=h'
 refine⟨_,zpd p p',fun ρ σ G0 H0 G H Q P E h k=>q ρ σ G0 H0 G H _ _ E h fun v H' r G' x rr hq=>?_⟩
 split at hq
 ·rename_i kk
  have e:v=.bl kk:=by simpa only[RepR,Rep] using rr
  refine⟨kk,e,?_⟩
  cases kk with
  | true=>rw[if_pos rfl] at hq ⊢;exact q' ρ σ G0 H0 G' H' Q P (E.ext x) hq fun b2 H2 r2 G2 x2 rr2 h2=>k b2 H2 r2 G2 (x.trans x2) (rr2.older x.h) h2
  | false=>rw[if_neg Bool.false_ne_true] at hq ⊢;exact k _ H' _ G' x (fzR (za8 _ _ _)) hq
 ·exact hq.elim
theorem zop(h:PD X a ta)(h':PD X (.BoolOp .Or (b::zcD) pos) tb):PD X (.BoolOp .Or (a::b::zcD) pos) (dOr ta tb):=by
 obtain⟨t,p,q⟩:=h
 obtain⟨t',p',q'⟩:=h'
 refine⟨_,zqC p p',fun ρ σ G0 H0 G H Q P E h k=>q ρ σ G0 H0 G H _ _ E h fun v H' r G' x rr hq=>?_⟩
 split at hq
 ·rename_i kk
  have e:v=.bl kk:=by simpa only[RepR,Rep] using rr
  refine⟨kk,e,?_⟩
  cases kk with
  | true=>rw[if_pos rfl] at hq ⊢;exact k _ H' _ G' x (fzR (za8 _ _ _)) hq
  | false=>rw[if_neg Bool.false_ne_true] at hq ⊢;exact q' ρ σ G0 H0 G' H' Q P (E.ext x) hq fun b2 H2 r2 G2 x2 rr2 h2=>k b2 H2 r2 G2 (x.trans x2) (rr2.older x.h) h2
 ·exact hq.elim
noncomputable def dIf(t:TDb)(ta tb:TD):TD:=fun ρ Q=>t ρ fun k=>if k=true then ta ρ Q else tb ρ Q
theorem ze9(h:PB X c pa)(h1:PD X a ta)(h2:PD X b tb):PD X (.IfExp c a b pos) (dIf pa ta tb):=by
 obtain⟨t,p,q⟩:=h
 obtain⟨t1,p1,q1⟩:=h1
 obtain⟨t2,p2,q2⟩:=h2
 refine⟨_,zmr p p1 p2,fun ρ σ G0 H0 G H Q P E h k=>q ρ σ G0 H0 G H _ _ E h fun b H' G' x hq=>?_⟩
 cases b with
 | true=>rw[if_pos rfl] at hq ⊢;exact q1 ρ σ G0 H0 G' H' Q P (E.ext x) hq fun b2 H2 r2 G2 x2 rr2 h2=>k b2 H2 r2 G2 (x.trans x2) (rr2.older x.h) h2
 | false=>rw[if_neg Bool.false_ne_true] at hq ⊢;exact q2 ρ σ G0 H0 G' H' Q P (E.ext x) hq fun b2 H2 r2 G2 x2 rr2 h2=>k b2 H2 r2 G2 (x.trans x2) (rr2.older x.h) h2
noncomputable def zeL(o o':O2)(ta tb tc:TD):TD:=fun ρ Q=>ta ρ fun ra=>tb ρ fun rb=>o ra.val rb.val fun r=>match r with
 | .fz (.bl k)=>if k=true then tc ρ fun rc=>o' rb.val rc.val Q else Q (.fz (.bl false))
 | _=>False
noncomputable abbrev Rdg(K:PySem.W.Frag)(t:TD)(tt:TE):Prop:=∀(ρ:Ev) (σ:St) (G0 H0 G H:Hp) (Q:R→Prop) (P:VK),EOk K G0 H0 ρ σ G H→t ρ Q→(∀v H' r G',Ext G H G' H'→RepR K G' H' H v r→Q r→P v H')→tt σ H P
theorem zjk{K:PySem.W.Frag}{g g':Int→Int→Bool}{t1 t2 t3:TE}(q1:Rdg K ta t1)(q2:Rdg K tb t2)(q3:Rdg K tc t3) :
  Rdg K (zeL (oI0 fun i j=>.bl (g i j)) (oI0 fun i j=>.bl (g' i j)) ta tb tc) (zkG (rI0 fun i j=>.bl (g i j)) (rI0 fun i j=>.bl (g' i j)) t1 t2 t3):=by
 refine fun ρ σ G0 H0 G H Q P E h k=>q1 ρ σ G0 H0 G H _ _ E h fun v1 H1 r1 G1 x1 rr1 hq1=>?_
 obtain⟨G1',x1',rv1,_⟩:=rr1.freeze x1
 refine q2 ρ σ G0 H0 G1' H1 _ _ (E.ext x1') hq1 fun v2 H2 r2 G2 x2 rr2 hq2=>?_
 obtain⟨G2',x2',rv2,_⟩:=rr2.freeze x2
 unfold oI0 at hq2
 split at hq2
 ·rename_i i j e1 e2
  rw[e1] at rv1
  rw[e2] at rv2
  simp only[Rep] at rv1 rv2
  refine⟨i,j,rv1,rv2,_,rfl,?_⟩
  dsimp only at hq2
  cases hk:g i j with
  | false=>
   rw[hk,if_neg Bool.false_ne_true] at hq2
   rw[if_neg Bool.false_ne_true]
   exact k _ _ _ G2' (x1'.trans x2') (fzR (za8 _ _ _)) hq2
  | true=>
   rw[hk,if_pos rfl] at hq2
   rw[if_pos rfl]
   refine q3 ρ σ G0 H0 G2' H2 _ _ (E.ext (x1'.trans x2')) hq2 fun v3 H3 r3 G3 x3 rr3 hq3=>?_
   obtain⟨G3',x3',rv3,_⟩:=rr3.freeze x3
   rw[e2] at hq3
   split at hq3
   ·rename_i i' j' e3 e4
    cases e3
    rw[e4] at rv3
    simp only[Rep] at rv3
    exact⟨j,j',rv2,rv3,k _ _ _ G3' ((x1'.trans x2').trans x3') (fzR (za8 _ _ _)) hq3⟩
   ·exact hq3.elim
 ·exact hq2.elim
theorem zpC{K:PySem.W.Frag}{t:TD}{tt:TE}(q:Rdg K t tt)(ρ:Ev)(σ:St)(G0 H0 G H:Hp)(Q:Bool→Prop)(P:Bool→Hp→Prop)(E:EOk K G0 H0 ρ σ G H)(h:zbL t ρ Q)(k:∀b H' G',Ext G H G' H'→Q b→P b H'):zn7 tt σ H P:=by
 refine q ρ σ G0 H0 G H _ _ E h fun v H' r G' x1 r1 h1=>?_
 split at h1
 ·rename_i kk
  have e:v=.bl kk:=by simpa only[RepR,Rep] using r1
  exact⟨kk,e,k kk H' G' x1 h1⟩
 ·exact h1.elim
theorem zjl{op op':CmpOp}{g g':Int→Int→Bool}(ho:OpR X (compareOp op) (rI0 fun i j=>.bl (g i j)))(ho':OpR X (compareOp op') (rI0 fun i j=>.bl (g' i j)))(h1:PD X a ta)(h2:PD X b tb)(h3:PD X c tc)(hm:lastMarks [op,op'] [b,c]=false:=by with_unfolding_all rfl) :
  PD X (.Compare a [op,op'] [b,c] pos) (zeL (oI0 fun i j=>.bl (g i j)) (oI0 fun i j=>.bl (g' i j)) ta tb tc):=by
 obtain⟨t1,p1,q1⟩:=h1
 obtain⟨t2,p2,q2⟩:=h2
 obtain⟨t3,p3,q3⟩:=h3
 exact⟨_,zmx ho ho' p1 p2 p3 hm,zjk q1 q2 q3⟩
theorem zmQ{op op':CmpOp}{g g':Int→Int→Bool}(ho:OpR X (compareOp op) (rI0 fun i j=>.bl (g i j)))(ho':OpR X (compareOp op') (rI0 fun i j=>.bl (g' i j)))(h1:PD X a ta)(h2:PD X b tb)(h3:PD X c tc)(hm:lastMarks [op,op'] [b,c]=false:=by with_unfolding_all rfl) :
  PB X (.Compare a [op,op'] [b,c] pos) (zbL (zeL (oI0 fun i j=>.bl (g i j)) (oI0 fun i j=>.bl (g' i j)) ta tb tc)):=by
 obtain⟨t1,p1,q1⟩:=h1
 obtain⟨t2,p2,q2⟩:=h2
 obtain⟨t3,p3,q3⟩:=h3
 exact⟨_,zmy ho ho' p1 p2 p3 hm,zpC (zjk q1 q2 q3)⟩
noncomputable def oIx:O2:=fun d e Q=>match d,e with
 | .lst ds,.int i=>∃d,atI ds i=some d∧Q (.fz d)
 | .tup ds,.int i=>∃d,atI ds i=some d∧Q (.fz d)
 | .str z,.int i=>z.length≤sizeLine∧∃c,atI z.cps.toList i=some c∧Q (.fz (.str ⟨#[c]⟩))
 | _,_=>False
theorem ziM{K:PySem.W.Frag}{G:Hp}{xs:List V}{ds:List D}{i:Int}{d:D}(r:Reps K G xs ds)(h:atI ds i=some d):∃v,atI xs i=some v∧Rep K G v d:=by
 unfold atI at h ⊢
 rw[r.length]
 cases e:ixN ds.length i with
 | none=>rw[e] at h;cases h
 | some j=>
  rw[e] at h
  simp only[Option.bind_some] at h ⊢
  exact r.get h
theorem zaM(h1:PD X a ta)(h2:PD X b tb)(hs:zgT b:=by intro _ _;rfl):PD X (.Subscript a b pos) (dOp oIx ta tb):=by
 obtain⟨t1,p1,q1⟩:=h1
 obtain⟨t2,p2,q2⟩:=h2
 refine⟨_,zoh znw p1 p2 hs,zjh (r:=rIx X.K) (fun G H x y d e Q P s rx ry h k=>?_) q1 q2⟩
 unfold oIx at h
 split at h
 ·simp only[Rep] at rx ry
  obtain⟨p,xs,rfl,hq,rs⟩:=rx
  obtain⟨d,hd,q⟩:=h
  obtain⟨v,hv,rv⟩:=ziM rs hd
  exact .inl ⟨p,xs,_,v,rfl,ry,(s.rdl hq).sq,hv,k _ _ _ G (.refl s) (fzR rv) q⟩
 ·simp only[Rep] at rx ry
  obtain⟨p,xs,rfl,hq,rs⟩:=rx
  obtain⟨d,hd,q⟩:=h
  obtain⟨v,hv,rv⟩:=ziM rs hd
  exact .inr (.inl ⟨p,xs,_,v,rfl,ry,s.seqT hq,hv,k _ _ _ G (.refl s) (fzR rv) q⟩)
 ·simp only[Rep] at rx ry
  obtain⟨hz,c,hc,q⟩:=h
  exact .inr (.inr ⟨_,_,c,rx,ry,hz,hc,k _ _ _ G (.refl s) (fzR (zch _ _ _)) q⟩)
 ·exact h.elim
noncomputable def zoW(i:Nat)(tb:TD):TD:=fun ρ Q=>match gt ρ i with
 | .ow ds=>tb ρ fun rb=>match rb.val with
  | .int j=>∃d,atI ds j=some d∧Q (.fz d)
  | _=>False
 | _=>False
theorem znE(i:Nat){x:Str}{p':Pos}(h2:PD X b tb)(hN:X.N[i]?=some x:=by rfl)(hv:Vis X.env.scope x:=by first | exact Or.inl rfl | exact Or.inr (Or.inl rfl) | exact Or.inr (Or.inr rfl))(hs:zgT b:=by intro _ _;rfl)(hd:(x==("__debug__":Str))=false:=by decide)
  (hcd:(x==("__classdict__":Str))=false:=by decide):PD X (.Subscript (.Name x p') b pos) (zoW i tb):=by
 obtain⟨t2,p2,q2⟩:=h2
 refine⟨_,zoh znw (zbY hN hv hd hcd) p2 hs,fun ρ σ G0 H0 G H Q P E h k=>?_⟩
 unfold zoW at h
 split at h
 ·rename_i ds hg
  obtain⟨p,xs,h1,h2,h3,h4,h5⟩:=E.ow i ds hg
  refine⟨_,h1,q2 ρ σ G0 H0 G H _ _ E h fun v H' r G' x1 rr hq=>?_⟩
  obtain⟨G2,x2,rv,_⟩:=rr.freeze x1
  split at hq
  ·rename_i j e2
   obtain⟨d,hd',q⟩:=hq
   obtain⟨w',hw,rw'⟩:=ziM (h5.mono x2.g) hd'
   rw[e2] at rv
   simp only[Rep] at rv
   exact .inl ⟨p,xs,_,w',rfl,rv,SqL.of (x2.h _ _ h2),hw,k _ _ _ G2 x2 (fzR rw') q⟩
  ·exact hq.elim
 ·exact h.elim
variable {e:Expr} {es:List Expr} {te:TD} {ts:TDa}
noncomputable def zao:TDa:=fun _ Q=>Q []
noncomputable def zae(te:TD)(ts:TDa):TDa:=fun ρ Q=>te ρ fun r=>ts ρ fun ds=>Q (r.val::ds)
theorem zac:PDa X [] zao:=⟨_,zcE,fun ρ σ G0 H0 G H Q P E h k=>k [] H [] G (.refl E.e.s) Reps.nil h⟩
theorem zaa(h:PD X e te)(hr:PDa X es ts)(hs:starEach (e::es) X.env=(false,eval e X.env)::starEach es X.env:=by rfl):PDa X (e::es) (zae te ts):=by
 obtain⟨t1,p1,q1⟩:=h
 obtain⟨t2,p2,q2⟩:=hr
 refine⟨_,zbp p1 p2 hs,fun ρ σ G0 H0 G H Q P E h k=>q1 ρ σ G0 H0 G H _ _ E h fun v H' r G' x1 rr hq=>?_⟩
 obtain⟨G2,x2,rv,_⟩:=rr.freeze x1
 refine q2 ρ σ G0 H0 G2 H' _ _ (E.ext x2) hq fun vs H3 ds G3 x3 rs hq3=>?_
 exact k _ H3 _ G3 (x2.trans x3) (Reps.cons (rv.mono x3.g) rs) hq3
noncomputable def ziN(ts:TDa):TD:=fun ρ Q=>ts ρ fun ds=>ds.length≤sizeLine∧Q (.fz (.tup ds))
noncomputable def zcI(ts:TDa):TD:=fun ρ Q=>ts ρ fun ds=>ds.length≤sizeLine∧Q (.ow ds)
theorem zcF{x1}(h:PDa X es ts):PD X (.Tuple es x1 pos) (ziN ts):=by
 obtain⟨t,p,q⟩:=h
 refine⟨_,znv p,fun ρ σ G0 H0 G H Q P E h k=>q ρ σ G0 H0 G H _ _ E h fun vs H' ds G' x rs hq=>⟨by rw[rs.length];exact hq.1,fun p hp=>?_⟩⟩
 have x2:Ext G' H' (upd G' p (.tup vs)) (upd H' p (.tup vs)):=.new x.s hp
 refine k _ _ (.fz (.tup ds)) _ (x.trans x2) ?_ hq.2
 show Rep X.K _ _ (.tup ds)
 simp only[Rep]
 exact⟨p,vs,rfl,SqT.of zaq,rs.mono x2.g⟩
theorem zaS(h:PDa X es ts):PD X (.List es pos) (zcI ts):=by
 obtain⟨t,p,q⟩:=h
 refine⟨_,zhD p,fun ρ σ G0 H0 G H Q P E h k=>q ρ σ G0 H0 G H _ _ E h fun vs H' ds G' x rs hq=>⟨by rw[rs.length];exact hq.1,fun p hp=>?_⟩⟩
 exact k _ _ (.ow ds) G' (x.trans (.own x.s hp)) ⟨p,vs,rfl,x.h.free hp,x.s.free hp,zaq,rs⟩ hq.2
noncomputable def zd5(X:Cx)(f:Value)(o:List D→(R→Prop)→Prop):Prop:=∃r,CallR X f r∧∀(G H:Hp) (vs:List V) (ds:List D) (Q:R→Prop) (P:VK),Same G H→Reps X.K G vs ds→o ds Q→
 (∀v H' r' G',Ext G H G' H'→RepR X.K G' H' H v r'→Q r'→P v H')→r vs H P
noncomputable def dCB(o:List D→(R→Prop)→Prop)(ts:TDa):TD:=fun ρ Q=>ts ρ fun ds=>o ds Q
theorem zpD{o:List D→(R→Prop)→Prop}{r:List V→Hp→VK→Prop}{t:TA}
  (hr:∀(G H:Hp) (vs:List V) (ds:List D) (Q:R→Prop) (P:VK),Same G H→Reps X.K G vs ds→o ds Q→(∀v H' r' G',Ext G H G' H'→RepR X.K G' H' H v r'→Q r'→P v H')→r vs H P)
  (q:∀(ρ:Ev) (σ:St) (G0 H0 G H:Hp) (Q:List D→Prop) (P:List V→Hp→Prop),EOk X.K G0 H0 ρ σ G H→ts ρ Q→(∀vs H' ds G',Ext G H G' H'→Reps X.K G' vs ds→Q ds→P vs H')→t σ H P):Rdg X.K (dCB o ts) (tCB r t):=
 fun ρ σ G0 H0 G H Q P E h k=>q ρ σ G0 H0 G H _ _ E h fun vs H' ds G' x rs hq=>hr G' H' vs ds Q P x.s rs hq fun v H2 r' G2 x2 rr q2=>k v H2 r' G2 (x.trans x2) (rr.older x.h) q2
theorem zaw{id:String}{x:Str}{p:Pos}{o:List D→(R→Prop)→Prop}(hc:zd5 X (.builtin id) o)(hm:X.mg x=none)(hv:bootBuiltins x=some (.builtin id))(ha:PDa X (e::es) ts)(hg:Gl X x:=by rfl)(hn:x≠"__name__":=by decide)(hdb:(x==("__debug__":Str))=false:=by decide)
  (he:starEach (e::es) X.env=(false,eval e X.env)::starEach es X.env:=by rfl) (hpl:(backTo pos (starEach es X.env)).any (·.1)=false:=by rfl):PD X (.Call (.Name x p) (e::es) [] pos) (dCB o ts):=by
 obtain⟨r,hr,hr'⟩:=hc
 obtain⟨t,pp,q⟩:=ha
 exact⟨_,zgS hr hg hm hv pp hn hdb he hpl,zpD hr' q⟩
theorem zaX{T:String}{x:Str}{p:Pos}{o:List D→(R→Prop)→Prop}(hc:zd5 X (.type T) o)(hm:X.mg x=none)(hv:bootBuiltins x=some (.type T))(ha:PDa X (e::es) ts)(hg:Gl X x:=by rfl)(hn:x≠"__name__":=by decide)(hdb:(x==("__debug__":Str))=false:=by decide)
  (he:starEach (e::es) X.env=(false,eval e X.env)::starEach es X.env:=by rfl) (hpl:(backTo pos (starEach es X.env)).any (·.1)=false:=by rfl):PD X (.Call (.Name x p) (e::es) [] pos) (dCB o ts):=by
 obtain⟨r,hr,hr'⟩:=hc
 obtain⟨t,pp,q⟩:=ha
 exact⟨_,zkP hr hg hm hv pp hn hdb he hpl,zpD hr' q⟩
end
end L2
namespace L2
open PySem PySem.Spec PyProof.Rows
theorem zd6{σ:St}{i j:Nat}{x:Option V}:(σ.set i x)[j]?=if i=j∧j<σ.length then some x else σ[j]?:=by
 by_cases h:i=j
 ·subst h
  by_cases hl:i<σ.length
  ·simp[hl]
  ·simp[hl]
 ·simp[h]
section
variable {K:PySem.W.Frag} {G0 H0 G H G' H':Hp} {ρ:Ev} {σ:St}
theorem EOk.put{i:Nat}{v:V}{r:R}(E:EOk K G0 H0 ρ σ G H)(x:Ext G H G' H')(rr:RepR K G' H' H v r):EOk K G0 H0 (ρ.set i r.sl) (σ.set i (some v)) G' H':=by
 have E':=E.ext x
 have hl:=E.len
 have gs:∀j s,gt (ρ.set i r.sl) j=s→(i=j∧j<ρ.length∧s=r.sl)∨(¬(i=j∧j<ρ.length)∧gt ρ j=s):=fun j s e=>by
  rw[zeJ] at e
  by_cases h:i=j∧j<ρ.length
  ·rw[if_pos h] at e;exact .inl ⟨h.1,h.2,e.symm⟩
  ·rw[if_neg h] at e;exact .inr ⟨h,e⟩
 refine⟨E'.e,by simp[E.len],fun j d h=>?_,fun j ds h=>?_,fun j k ds es hjk h1 h2=>?_,?_⟩
 ·rcases gs j _ h with⟨h1,h2,h3⟩ | ⟨h1,h2⟩
  ·cases r with
   | ow=>cases h3
   | ov=>cases h3
   | fz d'=>
    cases h3
    exact⟨v,by rw[zd6,if_pos ⟨h1,by omega⟩],rr⟩
  ·obtain⟨u,hu,ru⟩:=E'.fz j d h2
   exact⟨u,by rw[zd6,if_neg (by rw[hl];exact h1)];exact hu,ru⟩
 ·rcases gs j _ h with⟨h1,h2,h3⟩ | ⟨h1,h2⟩
  ·cases r with
   | fz=>cases h3
   | ov=>cases h3
   | ow ds'=>
    cases h3
    obtain⟨p,xs,rfl,a1,a2,a3,a4⟩:=rr
    exact⟨p,xs,by rw[zd6,if_pos ⟨h1,by omega⟩],a3,a2,E.e.h.free a1,a4⟩
  ·obtain⟨p,xs,b1,b2,b3,b4,b5⟩:=E'.ow j ds h2
   exact⟨p,xs,by rw[zd6,if_neg (by rw[hl];exact h1)];exact b1,b2,b3,b4,b5⟩
 ·have old:∀{j:Nat} {ds:List D},gt ρ j=.ow ds→∀es,r=.ow es→σ[j]?≠some (some v):=fun{j ds} h es e z=>by
   subst e
   obtain⟨p,xs,rfl,a1,a2,a3,a4⟩:=rr
   obtain⟨p',xs',b1,b2,b3,b4,b5⟩:=E.ow j ds h
   rw[b1] at z
   cases z
   rw[a1] at b2
   cases b2
  rcases gs j _ h1 with⟨c1,c2,c3⟩ | ⟨c1,c2⟩
  ·rcases gs k _ h2 with⟨d1,d2,d3⟩ | ⟨d1,d2⟩
   ·exact absurd (c1.symm.trans d1) hjk
   ·rw[zd6,if_pos ⟨c1,by omega⟩,zd6,if_neg (by rw[hl];exact d1)]
    cases r with
    | fz=>cases c3
    | ov=>cases c3
    | ow es'=>exact fun z=>old d2 es' rfl z.symm
  ·rcases gs k _ h2 with⟨d1,d2,d3⟩ | ⟨d1,d2⟩
   ·rw[zd6,if_neg (by rw[hl];exact c1),zd6,if_pos ⟨d1,by omega⟩]
    cases r with
    | fz=>cases d3
    | ov=>cases d3
    | ow es'=>exact old c2 es' rfl
   ·rw[zd6,if_neg (by rw[hl];exact c1),zd6,if_neg (by rw[hl];exact d1)]
    exact E.dj j k ds es hjk c2 d2
 ·obtain⟨own,o1,o2⟩:=E.on
  have hσ:∀j,¬(i=j∧j<ρ.length)→(σ.set i (some v))[j]?=σ[j]?:=fun j h=>by rw[zd6,if_neg (by rw[hl];exact h)]
  have gen:∀L:List Addr,(∀q∈L,H q=none)→(∀j ds p,i=j→j<ρ.length→r.sl=.ow ds→v=.ref p→p∈L)→
    (∀j o,i=j→j<ρ.length→r.sl=.ov o→∃p fp,v=.ref p∧(p::fp).Nodup∧Owns K G' H' p fp o∧∀q∈p::fp,G' q=none∧q∈L)→
    ∃own:Addr→Option Nat,(∀j ds p,gt (ρ.set i r.sl) j=.ow ds→(σ.set i (some v))[j]?=some (some (.ref p))→own p=some j)∧∀j o,gt (ρ.set i r.sl) j=.ov o→∃p fp,(σ.set i (some v))[j]?=some (some (.ref p))∧(p::fp).Nodup∧Owns K G' H' p fp o∧∀q∈p::fp,G' q=none∧H0 q=none∧own q=some j:=by
   intro L hL hw ho
   refine⟨fun q=>if q∈L then some i else own q,fun j ds p h hp=>?_,fun j o h=>?_⟩
   ·rcases gs j _ h with⟨h1,h2,h3⟩ | ⟨h1,h2⟩
    ·rw[zd6,if_pos ⟨h1,by omega⟩] at hp
     have hv:v=.ref p:=by injection hp with hp;injection hp
     dsimp only
     rw[if_pos (hw j ds p h1 h2 h3.symm hv),h1]
    ·rw[hσ j h1] at hp
     obtain⟨p',xs',b1,b2,_⟩:=E.ow j ds h2
     have hne:p∉L:=fun z=>by
      rw[hp] at b1
      cases b1
      rw[hL p z] at b2
      cases b2
     dsimp only
     rw[if_neg hne]
     exact o1 j ds p h2 hp
   ·rcases gs j _ h with⟨h1,h2,h3⟩ | ⟨h1,h2⟩
    ·obtain⟨p,fp,rfl,c1,c2,c3⟩:=ho j o h1 h2 h3.symm
     refine⟨p,fp,by rw[zd6,if_pos ⟨h1,by omega⟩],c1,c2,fun q hq=>⟨(c3 q hq).1,E.e.h.free (hL q (c3 q hq).2),?_⟩⟩
     dsimp only
     rw[if_pos (c3 q hq).2,h1]
    ·obtain⟨p,fp,b1,b2,b3,b4⟩:=o2 j o h2
     refine⟨p,fp,by rw[hσ j h1];exact b1,b2,b3.mono x.g fun q _ u e=>x.h q u e,fun q hq=>⟨x.n q (b4 q hq).1 (b3.here q hq),(b4 q hq).2.1,?_⟩⟩
     dsimp only
     rw[if_neg (fun z=>b3.here q hq (hL q z))]
     exact(b4 q hq).2.2
  cases r with
  | fz d=>exact gen [] (fun q hq=>by cases hq) (fun j ds p _ _ e=>by cases e) (fun j o _ _ e=>by cases e)
  | ow ds'=>
   obtain⟨p,xs,rfl,a1,a2,a3,a4⟩:=rr
   refine gen [p] (fun q hq=>?_) (fun j ds p' _ _ e e2=>?_) (fun j o _ _ e=>by cases e)
   ·simp only[List.mem_singleton] at hq
    subst hq;exact a1
   ·cases e2;simp
  | ov o'=>
   obtain⟨p,fp,rfl,a1,a2,a3⟩:=rr
   refine gen (p::fp) (fun q hq=>(a3 q hq).1) (fun j ds p' _ _ e=>by cases e) (fun j o _ _ e=>?_)
   cases e
   exact⟨p,fp,rfl,a1,a2,fun q hq=>⟨(a3 q hq).2,hq⟩⟩
noncomputable def frz(i:Nat)(ρ:Ev):Ev:=match gt ρ i with
 | .ow ds=>ρ.set i (.fz (.lst ds))
 | .ov o=>ρ.set i (.fz o.val)
 | _=>ρ
theorem zk9{ρ:Ev}{i:Nat}{s:Sl}(h:gt ρ i=s)(hs:s≠.un):i<ρ.length:=by
 induction ρ generalizing i with
 | nil=>simp[gt] at h;exact absurd h.symm hs
 | cons a r ih=>
  cases i with
  | zero=>simp
  | succ i=>simp only[gt] at h;have:=ih h;simp;omega
theorem RepL.isL{K:PySem.W.Frag}{G H:Hp}:∀{qs:List Addr} {dss:List (List D)},RepL K G H qs dss→∀q∈qs,∃zs,H q=some (.lst zs)
 | [],[],_,q,hq=>by cases hq
 | p::qs,ds::dss,h,q,hq=>by
  simp only[RepL] at h
  rcases List.mem_cons.mp hq with rfl | hq
  ·exact⟨_,h.1.choose_spec.1⟩
  ·exact RepL.isL h.2 q hq
 | [],_::_,h,_,_=>by simp only[RepL] at h
 | _::_,[],h,_,_=>by simp only[RepL] at h
theorem EOk.freezeL2(i:Nat)(E:EOk K G0 H0 ρ σ G H):∃L:List Addr,(∀q∈L,G q=none)∧EOk K G0 H0 (frz i ρ) σ (zj4 G H L) H∧(((∀o,gt ρ i=.ov o→(∃kvs,o=.dc kvs)∨∃dss,o=.ll dss)→∀q∈L,H q≠none∧∀xs,¬Rd H q (.tup xs)))∧∀o p,gt ρ i=.ov o→σ[i]?=some (some (.ref p))→p∈L:=by
 unfold frz
 split
 ·rename_i ds hg
  obtain⟨p,xs,h1,h2,h3,h4,h5⟩:=E.ow i ds hg
  have hlt:i<ρ.length:=zk9 hg (by simp)
  have hs:Same G (upd G p (.lst xs)):=zcb h3
  have gs:∀j s,gt (ρ.set i (.fz (.lst ds))) j=s→(i=j∧s=.fz (.lst ds))∨(i≠j∧gt ρ j=s):=fun j s e=>by
   rw[zeJ] at e
   by_cases h:i=j
   ·subst h;rw[if_pos ⟨rfl,hlt⟩] at e;exact .inl ⟨rfl,e.symm⟩
   ·rw[if_neg (fun z=>h z.1)] at e;exact .inr ⟨h,e⟩
  have ep:zj4 G H [p]=upd G p (.lst xs):=by
   funext a
   by_cases ha:a=p
   ·subst ha;rw[zaq,zcg (by simp)];exact h2
   ·rw[zal ha,zbA (by simpa using ha)]
  refine⟨[p],fun q hq=>?_,?_,fun _ q hq=>by
   simp only[List.mem_singleton] at hq
   rw[hq]
   exact⟨(by rw[h2];exact nofun),fun xs' e=>by rcases e with e | ⟨_,e⟩<;>(rw[h2] at e;cases e)⟩,fun o p z=>by rw[hg] at z;cases z⟩
  ·simp only[List.mem_singleton] at hq
   subst hq;exact h3
  rw[ep]
  refine⟨⟨E.e.g.trans hs,E.e.h,fun b o e=>?_,fun q q1 q2=>?_⟩,by simp[E.len],fun j d h=>?_,fun j es h=>?_,fun j k es fs hjk a1 a2=>?_,?_⟩
  ·by_cases hb:b=p
   ·subst hb;rw[zaq] at e;rw[h2];exact e
   ·rw[zal hb] at e;exact E.e.s b o e
  ·rw[zal (fun z=>q2 (by rw[z];exact h4))]
   exact E.e.n q q1 q2
  ·rcases gs j _ h with⟨e,e2⟩ | ⟨e,e2⟩
   ·subst e
    cases e2
    exact⟨_,h1,by simp only[Rep];exact⟨p,xs,rfl,RdL.of zaq,h5.mono hs⟩⟩
   ·obtain⟨u,u1,u2⟩:=E.fz j d e2
    exact⟨u,u1,u2.mono hs⟩
  ·rcases gs j _ h with⟨e,e2⟩ | ⟨e,e2⟩
   ·cases e2
   ·obtain⟨p',xs',b1,b2,b3,b4,b5⟩:=E.ow j es e2
    have hne:p'≠p:=fun z=>by
     subst z
     exact E.dj i j ds es e hg e2 (by rw[h1,b1])
    exact⟨p',xs',b1,b2,by rw[zal hne];exact b3,b4,b5.mono hs⟩
  ·rcases gs j _ a1 with⟨_,e2⟩ | ⟨e,e2⟩
   ·cases e2
   ·rcases gs k _ a2 with⟨_,e4⟩ | ⟨e3,e4⟩
    ·cases e4
    ·exact E.dj j k es fs hjk e2 e4
  ·obtain⟨own,o1,o2⟩:=E.on
   refine⟨own,fun j es p' h hp=>?_,fun j o h=>?_⟩
   ·rcases gs j _ h with⟨_,e2⟩ | ⟨_,e2⟩
    ·cases e2
    ·exact o1 j es p' e2 hp
   ·rcases gs j _ h with⟨_,e2⟩ | ⟨e,e2⟩
    ·cases e2
    ·obtain⟨p',fp,b1,b2,b3,b4⟩:=o2 j o e2
     refine⟨p',fp,b1,b2,b3.mono hs fun q _ u e=>e,fun q hq=>⟨?_,(b4 q hq).2⟩⟩
     rw[zal fun z=>?_]
     ·exact(b4 q hq).1
     ·have z1:=(b4 q hq).2.2
      rw[z,o1 i ds p hg h1] at z1
      injection z1 with z1
      exact e z1
 ·rename_i o hg
  obtain⟨own,o1,o2⟩:=E.on
  obtain⟨p,fp,h1,h2,h3,h4⟩:=o2 i o hg
  have hlt:i<ρ.length:=zk9 hg (by simp)
  have hn:∀q∈p::fp,G q=none:=fun q hq=>(h4 q hq).1
  have hs:Same G (zj4 G H (p::fp)):=zcJ hn
  have gs:∀j s,gt (ρ.set i (.fz o.val)) j=s→(i=j∧s=.fz o.val)∨(i≠j∧gt ρ j=s):=fun j s e=>by
   rw[zeJ] at e
   by_cases h:i=j
   ·subst h;rw[if_pos ⟨rfl,hlt⟩] at e;exact .inl ⟨rfl,e.symm⟩
   ·rw[if_neg (fun z=>h z.1)] at e;exact .inr ⟨h,e⟩
  suffices hmain:EOk K G0 H0 (ρ.set i (.fz o.val)) σ (zj4 G H (p::fp)) H from⟨p::fp,hn,hmain,fun hd q hq=>by
   rcases hd o hg with⟨kvs,rfl⟩ | ⟨dss,rfl⟩
   ·obtain⟨rfl,ks,ep,h5,_⟩:=h3
    simp only[List.mem_singleton] at hq
    rw[hq]
    exact⟨(by rw[h5];exact nofun),fun xs' e=>by rcases e with e | ⟨_,e⟩<;>(rw[h5] at e;cases e)⟩
   ·obtain⟨zs,h5⟩:∃zs,H q=some (.lst zs):=by
     rcases List.mem_cons.mp hq with rfl | hq
     ·exact⟨_,h3.1⟩
     ·exact RepL.isL h3.2 q hq
    exact⟨(by rw[h5];exact nofun),fun xs' e=>by rcases e with e | ⟨_,e⟩<;>(rw[h5] at e;cases e)⟩,fun o' p' _ e=>by rw[h1] at e;cases e;simp⟩
  refine⟨⟨E.e.g.trans hs,E.e.h,fun b u e=>?_,fun q q1 q2=>?_⟩,by simp[E.len],fun j d h=>?_,fun j es h=>?_,fun j k es fs hjk a1 a2=>?_,own,fun j es p' h hp=>?_,fun j o' h=>?_⟩
  ·by_cases hb:b∈p::fp
   ·rw[zcg hb] at e;exact e
   ·rw[zbA hb] at e;exact E.e.s b u e
  ·rw[zbA (fun z=>q2 (h4 q z).2.1)];exact E.e.n q q1 q2
  ·rcases gs j _ h with⟨e,e2⟩ | ⟨e,e2⟩
   ·subst e
    cases e2
    exact⟨_,h1,h3.freeze hn⟩
   ·obtain⟨u,u1,u2⟩:=E.fz j d e2
    exact⟨u,u1,u2.mono hs⟩
  ·rcases gs j _ h with⟨e,e2⟩ | ⟨e,e2⟩
   ·cases e2
   ·obtain⟨p',xs',b1,b2,b3,b4,b5⟩:=E.ow j es e2
    refine⟨p',xs',b1,b2,?_,b4,b5.mono hs⟩
    rw[zbA fun z=>?_]
    ·exact b3
    ·have z1:=(h4 p' z).2.2
     rw[o1 j es p' e2 b1] at z1
     injection z1 with z1
     exact e z1.symm
  ·rcases gs j _ a1 with⟨_,e2⟩ | ⟨e,e2⟩
   ·cases e2
   ·rcases gs k _ a2 with⟨_,e4⟩ | ⟨e3,e4⟩
    ·cases e4
    ·exact E.dj j k es fs hjk e2 e4
  ·rcases gs j _ h with⟨_,e2⟩ | ⟨_,e2⟩
   ·cases e2
   ·exact o1 j es p' e2 hp
  ·rcases gs j _ h with⟨_,e2⟩ | ⟨e,e2⟩
   ·cases e2
   ·obtain⟨p',fp',b1,b2,b3,b4⟩:=o2 j o' e2
    refine⟨p',fp',b1,b2,b3.mono hs fun q _ u e=>e,fun q hq=>⟨?_,(b4 q hq).2⟩⟩
    rw[zbA fun z=>?_]
    ·exact(b4 q hq).1
    ·have z1:=(b4 q hq).2.2
     rw[(h4 q z).2.2] at z1
     injection z1 with z1
     exact e z1
 ·rename_i no1 no2
  have ep:zj4 G H []=G:=by funext a;exact zbA (by simp)
  exact⟨[],fun q hq=>(by cases hq),by rw[ep];exact E,fun _ q hq=>(by cases hq),fun o p z=>(no2 o z).elim⟩
theorem EOk.freezeL(i:Nat)(E:EOk K G0 H0 ρ σ G H):∃L:List Addr,(∀q∈L,G q=none)∧EOk K G0 H0 (frz i ρ) σ (zj4 G H L) H∧((∀o,gt ρ i=.ov o→(∃kvs,o=.dc kvs)∨∃dss,o=.ll dss)→∀q∈L,H q≠none∧∀xs,¬Rd H q (.tup xs)):=
 let⟨L,a,b,c,_⟩:=E.freezeL2 i
 ⟨L,a,b,c⟩
theorem EOk.freeze(i:Nat)(E:EOk K G0 H0 ρ σ G H):∃G',EOk K G0 H0 (frz i ρ) σ G' H∧Same G G':=
 let⟨L,hL,E',_⟩:=E.freezeL i
 ⟨_,E',zcJ hL⟩
theorem EOk.change{i:Nat}{ds ds':List D}{p:Addr}{xs':List V}(E:EOk K G0 H0 ρ σ G H)(hg:gt ρ i=.ow ds)(h1:σ[i]?=some (some (.ref p)))(hr:Reps K G xs' ds') :
  EOk K G0 H0 (ρ.set i (.ow ds')) σ G (upd H p (.lst xs')):=by
 obtain⟨p',xs0,b1,b2,b3,b4,b5⟩:=E.ow i ds hg
 rw[h1] at b1
 cases b1
 have hlt:i<ρ.length:=zk9 hg (by simp)
 have gs:∀j s,gt (ρ.set i (.ow ds')) j=s→(i=j∧s=.ow ds')∨(i≠j∧gt ρ j=s):=fun j s e=>by
  rw[zeJ] at e
  by_cases h:i=j
  ·subst h;rw[if_pos ⟨rfl,hlt⟩] at e;exact .inl ⟨rfl,e.symm⟩
  ·rw[if_neg (fun z=>h z.1)] at e;exact .inr ⟨h,e⟩
 have hG:Same G (upd H p (.lst xs')):=fun b o e=>by rw[zal (zar e b3)];exact E.e.s b o e
 refine⟨⟨E.e.g,fun b o e=>by rw[zal (zar e b4)];exact E.e.h b o e,hG,E.e.n⟩,by simp[E.len],fun j d h=>?_,fun j es h=>?_,fun j k es fs hjk a1 a2=>?_,?_⟩
 ·rcases gs j _ h with⟨_,e2⟩ | ⟨e,e2⟩
  ·cases e2
  ·exact E.fz j d e2
 ·rcases gs j _ h with⟨e,e2⟩ | ⟨e,e2⟩
  ·subst e
   cases e2
   exact⟨p,xs',h1,zaq,b3,b4,hr⟩
  ·obtain⟨p',xs2,c1,c2,c3,c4,c5⟩:=E.ow j es e2
   have hne:p'≠p:=fun z=>by
    subst z
    exact E.dj i j ds es e hg e2 (by rw[h1,c1])
   exact⟨p',xs2,c1,by rw[zal hne];exact c2,c3,c4,c5⟩
 ·rcases gs j _ a1 with⟨e,e2⟩ | ⟨e,e2⟩
  ·subst e
   rcases gs k _ a2 with⟨e3,e4⟩ | ⟨e3,e4⟩
   ·exact absurd e3 hjk
   ·exact E.dj i k ds fs hjk hg e4
  ·rcases gs k _ a2 with⟨e3,e4⟩ | ⟨e3,e4⟩
   ·subst e3
    exact E.dj j i es ds hjk e2 hg
   ·exact E.dj j k es fs hjk e2 e4
 ·obtain⟨own,o1,o2⟩:=E.on
  refine⟨own,fun j es p' h hp=>?_,fun j o h=>?_⟩
  ·rcases gs j _ h with⟨e,e2⟩ | ⟨_,e2⟩
   ·subst e;exact o1 i ds p' hg hp
   ·exact o1 j es p' e2 hp
  ·rcases gs j _ h with⟨_,e2⟩ | ⟨e,e2⟩
   ·cases e2
   ·obtain⟨p',fp,c1,c2,c3,c4⟩:=o2 j o e2
    refine⟨p',fp,c1,c2,c3.mono (Same.refl _) fun q hq u e3=>?_,c4⟩
    rw[zal fun z=>?_]
    ·exact e3
    ·have z1:=(c4 q hq).2.2
     rw[z,o1 i ds p hg h1] at z1
     injection z1 with z1
     exact e z1
theorem EOk.changeO{i:Nat}{o o':OV}{p:Addr}(E:EOk K G0 H0 ρ σ G H)(hg:gt ρ i=.ov o)(h1:σ[i]?=some (some (.ref p)))
  (hc:∀fp,(p::fp).Nodup→Owns K G H p fp o→∃fp',(p::fp').Nodup∧Owns K G H' p fp' o'∧(∀q∈p::fp',q∈p::fp∨H q=none)∧∀b,b∉p::fp→H b≠none→H' b=H b) :
  EOk K G0 H0 (ρ.set i (.ov o')) σ G H':=by
 obtain⟨own,o1,o2⟩:=E.on
 obtain⟨p',fp,b1,b2,b3,b4⟩:=o2 i o hg
 rw[h1] at b1
 cases b1
 obtain⟨fp',c1,c2,c3,c4⟩:=hc fp b2 b3
 have hlt:i<ρ.length:=zk9 hg (by simp)
 have gs:∀j s,gt (ρ.set i (.ov o')) j=s→(i=j∧s=.ov o')∨(i≠j∧gt ρ j=s):=fun j s e=>by
  rw[zeJ] at e
  by_cases h:i=j
  ·subst h;rw[if_pos ⟨rfl,hlt⟩] at e;exact .inl ⟨rfl,e.symm⟩
  ·rw[if_neg (fun z=>h z.1)] at e;exact .inr ⟨h,e⟩
 have hk:∀(F:Hp),(∀q∈p::fp,F q=none)→Same F H→Same F H':=fun F hF s b u e=>by
  have hb:b∉p::fp:=fun z=>by rw[hF b z] at e;cases e
  rw[c4 b hb (by rw[s b u e];exact nofun)]
  exact s b u e
 refine⟨⟨E.e.g,hk H0 (fun q hq=>(b4 q hq).2.1) E.e.h,hk G (fun q hq=>(b4 q hq).1) E.e.s,E.e.n⟩,by simp[E.len],fun j d h=>?_,fun j es h=>?_,fun j k es fs hjk a1 a2=>?_,fun q=>if q∈p::fp' then some i else own q,fun j es p' h hp=>?_,fun j o2' h=>?_⟩
 ·rcases gs j _ h with⟨_,e2⟩ | ⟨e,e2⟩
  ·cases e2
  ·exact E.fz j d e2
 ·rcases gs j _ h with⟨_,e2⟩ | ⟨e,e2⟩
  ·cases e2
  ·obtain⟨p',xs,d1,d2,d3,d4,d5⟩:=E.ow j es e2
   refine⟨p',xs,d1,?_,d3,d4,d5⟩
   rw[c4 p' (fun z=>?_) (by rw[d2];exact nofun)]
   ·exact d2
   ·have z1:=(b4 p' z).2.2
    rw[o1 j es p' e2 d1] at z1
    injection z1 with z1
    exact e z1.symm
 ·rcases gs j _ a1 with⟨_,e2⟩ | ⟨e,e2⟩
  ·cases e2
  ·rcases gs k _ a2 with⟨_,e4⟩ | ⟨e3,e4⟩
   ·cases e4
   ·exact E.dj j k es fs hjk e2 e4
 ·rcases gs j _ h with⟨_,e2⟩ | ⟨e,e2⟩
  ·cases e2
  ·have w:=o1 j es p' e2 hp
   obtain⟨p2,xs,d1,d2,_⟩:=E.ow j es e2
   rw[hp] at d1
   cases d1
   dsimp only
   rw[if_neg fun z=>?_]
   ·exact w
   ·rcases c3 p' z with z | z
    ·have z1:=(b4 p' z).2.2
     rw[w] at z1
     injection z1 with z1
     exact e z1.symm
    ·rw[z] at d2;cases d2
 ·rcases gs j _ h with⟨e,e2⟩ | ⟨e,e2⟩
  ·subst e
   cases e2
   refine⟨p,fp',h1,c1,c2,fun q hq=>?_⟩
   dsimp only
   rw[if_pos hq]
   rcases c3 q hq with z | z
   ·exact⟨(b4 q z).1,(b4 q z).2.1,rfl⟩
   ·exact⟨E.e.s.free z,E.e.h.free z,rfl⟩
  ·obtain⟨p2,fp2,d1,d2,d3,d4⟩:=o2 j o2' e2
   have hno:∀q∈p2::fp2,q∉p::fp:=fun q hq z=>by
    have z1:=(b4 q z).2.2
    rw[(d4 q hq).2.2] at z1
    injection z1 with z1
    exact e z1.symm
   refine⟨p2,fp2,d1,d2,d3.mono (Same.refl _) fun q hq u e3=>?_,fun q hq=>⟨(d4 q hq).1,(d4 q hq).2.1,?_⟩⟩
   ·rw[c4 q (hno q hq) (by rw[e3];exact nofun)];exact e3
   ·dsimp only
    rw[if_neg fun z=>?_]
    ·exact(d4 q hq).2.2
    ·rcases c3 q z with z | z
     ·exact hno q hq z
     ·exact d3.here q hq z
theorem EOk.weak{ρ':Ev}(E:EOk K G0 H0 ρ σ G H)(hl:ρ'.length=ρ.length)(w:∀i,gt ρ' i=.un∨gt ρ' i=gt ρ i):EOk K G0 H0 ρ' σ G H:=by
 have g:∀i s,gt ρ' i=s→s≠.un→gt ρ i=s:=fun i s e n=>by
  rcases w i with h | h
  ·exact absurd (e.symm.trans h) n
  ·rw[←h];exact e
 exact⟨E.e,by rw[hl];exact E.len,fun i d h=>E.fz i d (g i _ h (by simp)),fun i d h=>E.ow i d (g i _ h (by simp)),fun i j ds es hij h1 h2=>E.dj i j ds es hij (g i _ h1 (by simp)) (g j _ h2 (by simp)),let⟨own,o1,o2⟩:=E.on;⟨own,fun i ds p h=>o1 i ds p (g i _ h (by simp)),fun i o h=>o2 i o (g i _ h (by simp))⟩⟩
end
section
variable {X:Cx} {pos:Pos} {e:Expr} {te:TD}
noncomputable def zaH(t u:TX):TX:=fun D ρ=>t { D with nx:=u D } ρ
noncomputable def zeT:TX:=fun D ρ=>D.nx ρ
theorem zaZ:PXs X [] zeT:=⟨_,zkA,fun ρ σ G0 H0 G H D E k h g=>g.nx ρ σ G H (Same.refl _) k h⟩
theorem zaf{st:Stmt}{sts:List Stmt}{t u:TX}(h1:PX X st t)(h2:PXs X sts u):PXs X (st::sts) (zaH t u):=by
 obtain⟨t1,p1,q1⟩:=h1
 obtain⟨t2,p2,q2⟩:=h2
 refine⟨_,zgR p1 p2,fun ρ σ G0 H0 G H D E k h g=>q1 ρ σ G0 H0 G H _ _ k h ⟨fun ρ' σ' G' H' s' k' h'=>q2 ρ' σ' G0 H0 G' H' D E k' h' (g.shift s'),g.rt,g.bk,g.ct⟩⟩
theorem zak{st:Stmt}{t:TX}(h1:PX X st t):PXs X [st] t:=by
 obtain⟨t1,p1,q1⟩:=h1
 exact⟨_,ziD p1,q1⟩
theorem zdg(i:Nat){sts:List Stmt}{t:TX}(h:PXs X sts t):PXs X sts (fun D ρ=>t D (frz i ρ)):=by
 obtain⟨t1,p1,q1⟩:=h
 refine⟨_,p1,fun ρ σ G0 H0 G H D E k h g=>?_⟩
 obtain⟨G',k',s'⟩:=k.freeze i
 exact q1 _ σ G0 H0 G' H D E k' h (g.shift s')
noncomputable def zcK(te:TD):TX:=fun D ρ=>te ρ D.rt
theorem zaV(h:PD X e te):PX X (.Return (some e) pos) (zcK te):=by
 obtain⟨t,p,q⟩:=h
 exact⟨_,zhA p,fun ρ σ G0 H0 G H D E k h g=>q ρ σ G0 H0 G H _ _ k h fun v H' r G' x rr hq=>g.rt v H' r G' (k.e.trans x) (rr.older k.e.h) hq⟩
noncomputable def ziO(i:Nat):TX:=fun D ρ=>match gt ρ i with
 | .ow ds=>D.rt (.ow ds)
 | _=>False
theorem ziP(i:Nat){x:Str}{p':Pos}(hN:X.N[i]?=some x:=by rfl)(hv:Vis X.env.scope x:=by first | exact Or.inl rfl | exact Or.inr (Or.inl rfl) | exact Or.inr (Or.inr rfl))(hd:(x==("__debug__":Str))=false:=by decide)
  (hcd:(x==("__classdict__":Str))=false:=by decide):PX X (.Return (some (.Name x p')) pos) (ziO i):=by
 refine⟨_,zhA (zbY hN hv hd hcd),fun ρ σ G0 H0 G H D E k h g=>?_⟩
 unfold ziO at h
 split at h
 ·rename_i ds hg
  obtain⟨p,xs,h1,h2,h3,h4,h5⟩:=k.ow i ds hg
  exact⟨_,h1,g.rt _ H (.ow ds) G k.e ⟨p,xs,rfl,h4,h3,h2,h5⟩ h⟩
 ·exact h.elim
noncomputable def zb9(te:TD):TX:=fun D ρ=>te ρ fun _=>D.nx ρ
theorem za5(h:PD X e te)(hs:swapsWith e none pos.line X.env=pure false:=by rfl):PX X (.Expr e pos) (zb9 te):=by
 obtain⟨t,p,q⟩:=h
 exact⟨_,zd2 p hs,fun ρ σ G0 H0 G H D E k h g=>q ρ σ G0 H0 G H _ _ k h fun v H' r G' x rr hq=>g.nx ρ σ G' H' x.g (k.ext x) hq⟩
noncomputable def xIf(c:TDb)(t u:TX):TX:=fun D ρ=>c ρ fun b=>if b=true then t D ρ else u D ρ
theorem zca{c:Expr}{a b:List Stmt}{tc:TDb}{t u:TX}(hc:PB X c tc)(ha:PXs X a t)(hb:PXs X b u):PX X (.If c a b pos) (xIf tc t u):=by
 obtain⟨t0,p0,q0⟩:=hc
 obtain⟨t1,p1,q1⟩:=ha
 obtain⟨t2,p2,q2⟩:=hb
 refine⟨_,zqF p0 p1 p2,fun ρ σ G0 H0 G H D E k h g=>q0 ρ σ G0 H0 G H _ _ k h fun b H' G' x hq=>?_⟩
 cases b with
 | true=>rw[if_pos rfl] at hq ⊢;exact q1 ρ σ G0 H0 G' H' D E (k.ext x) hq (g.shift x.g)
 | false=>rw[if_neg Bool.false_ne_true] at hq ⊢;exact q2 ρ σ G0 H0 G' H' D E (k.ext x) hq (g.shift x.g)
noncomputable def zdF(i:Nat)(te:TD):TX:=fun D ρ=>te ρ fun r=>D.nx (ρ.set i r.sl)
theorem zbq(i:Nat){x:Str}{pos':Pos}(he:PD X e te)(hN:X.N.Nodup:=by assumption)(hi:X.N[i]?=some x:=by rfl)(hx:Loc X.env.scope x:=by first | exact Or.inl rfl | exact Or.inr rfl)(hs:swapsWith e (some (.Name x pos')) pos.line X.env=pure false:=by rfl)(hf:X.fn x=true∨X.env.scope.names.lookup x=some .local:=by first | exact .inl rfl | exact .inr rfl | assumption) :
  PX X (.Assign [.Name x pos'] e pos) (zdF i te):=by
 obtain⟨t,p,q⟩:=he
 exact⟨_,zkC hN hi hx p hs hf,fun ρ σ G0 H0 G H D E k h g=>q ρ σ G0 H0 G H _ _ k h fun v H' r G' x rr hq=>g.nx _ _ G' H' x.g (k.put x rr) hq⟩
noncomputable def zaR(i:Nat)(te:TD):TX:=fun D ρ=>te ρ fun r=>D.nx (ρ.set i (.fz r.val))
theorem zas(i:Nat){x:Str}{pos':Pos}(he:PD X e te)(hN:X.N.Nodup:=by assumption)(hi:X.N[i]?=some x:=by rfl)(hx:Loc X.env.scope x:=by first | exact Or.inl rfl | exact Or.inr rfl)(hs:swapsWith e (some (.Name x pos')) pos.line X.env=pure false:=by rfl)(hf:X.fn x=true∨X.env.scope.names.lookup x=some .local:=by first | exact .inl rfl | exact .inr rfl | assumption) :
  PX X (.Assign [.Name x pos'] e pos) (zaR i te):=by
 obtain⟨t,p,q⟩:=he
 refine⟨_,zkC hN hi hx p hs hf,fun ρ σ G0 H0 G H D E k h g=>q ρ σ G0 H0 G H _ _ k h fun v H' r G' x rr hq=>?_⟩
 obtain⟨G2,x2,rv,_⟩:=rr.freeze x
 exact g.nx _ _ G2 H' x2.g (k.put x2 (r:=.fz r.val) rv) hq
noncomputable def zjm(i:Nat)(te:TD):TX:=fun D ρ=>match gt ρ i with
 | .ow ds=>te ρ fun r=>ds.length<sizeLine∧D.nx (ρ.set i (.ow (ds++[r.val])))
 | _=>False
theorem zc9(i:Nat){x:Str}{p1 p2 pos':Pos}(he:PD X e te)(hN:X.N[i]?=some x:=by rfl)(hv:Vis X.env.scope x:=by first | exact Or.inl rfl | exact Or.inr (Or.inl rfl) | exact Or.inr (Or.inr rfl))(hd:(x==("__debug__":Str))=false:=by decide)
  (hcd:(x==("__classdict__":Str))=false:=by decide) (hst:starEach [e] X.env=(false,eval e X.env)::starEach [] X.env:=by rfl)
  (hb:∀{ta:TE} {t:TA},PE X (.Name x p1) ta→PA X [e] t→PE X (.Call (.Attribute (.Name x p1) "append" p2) [e] [] pos') (tBM X.K "list" zgV ta t):=by intro ta t h1 h2;exact zkR PySem.F.plainAttrs_list PySem.F.slot_list_append PySem.F.type_list_append zdy h1 h2) :
  PX X (.Expr (.Call (.Attribute (.Name x p1) "append" p2) [e] [] pos') pos) (zjm i te):=by
 obtain⟨t,p,q⟩:=he
 refine⟨_,zd2 (hb (zbY hN hv hd hcd) (zbp p zcE hst)),fun ρ σ G0 H0 G H D E k h g=>?_⟩
 unfold zjm at h
 split at h
 ·rename_i ds hg
  obtain⟨a,xs,h1,h2,h3,h4,h5⟩:=k.ow i ds hg
  refine⟨_,h1,.inl ⟨rfl,xs,SqL.of h2⟩,?_⟩
  refine q ρ σ G0 H0 G H _ _ k h fun v H' r G' x1 rr hq=>?_
  obtain⟨G2,x2,rv,_⟩:=rr.freeze x1
  have k2:=k.ext x2
  refine⟨a,xs,v,rfl,rfl,x2.h _ _ h2,by rw[h5.length];exact hq.1,?_⟩
  exact g.nx _ _ G2 _ x2.g (k2.change hg h1 ((h5.mono x2.g).append (Reps.cons rv Reps.nil))) hq.2
 ·exact h.elim
end
end L2
namespace L2
open PySem PySem.Spec PyProof.Rows
section
variable {X:Cx} {pos:Pos} {tg:Expr}
noncomputable abbrev TGd:=D→Ev→(Ev→Prop)→Prop
noncomputable abbrev zj7:=List D→Ev→(Ev→Prop)→Prop
noncomputable def PGd(X:Cx)(tg:Expr)(g:TGd):Prop:=∃gg,PG X tg gg∧∀(ρ:Ev) (σ:St) (G0 H0 G H:Hp) (d:D) (v:V) (Q:Ev→Prop) (P:St→Hp→Prop),EOk X.K G0 H0 ρ σ G H→Rep X.K G v d→g d ρ Q→
 (∀ρ' σ' G' H',EOk X.K G0 H0 ρ' σ' G' H'→Ext G H G' H'→Q ρ'→P σ' H')→gg v σ H P
noncomputable def zpE(X:Cx)(tgs:List Expr)(g:zj7):Prop:=∃gg,PGs X tgs gg∧∀(ρ:Ev) (σ:St) (G0 H0 G H:Hp) (ds:List D) (vs:List V) (Q:Ev→Prop) (P:St→Hp→Prop),EOk X.K G0 H0 ρ σ G H→Reps X.K G vs ds→g ds ρ Q→
 (∀ρ' σ' G' H',EOk X.K G0 H0 ρ' σ' G' H'→Ext G H G' H'→Q ρ'→P σ' H')→gg vs σ H P
noncomputable def zau(i:Nat):TGd:=fun d ρ Q=>Q (ρ.set i (.fz d))
theorem zai(i:Nat){x:Str}(hN:X.N.Nodup:=by assumption)(hi:X.N[i]?=some x:=by rfl)(hx:Loc X.env.scope x:=by first | exact Or.inl rfl | exact Or.inr rfl)(hf:X.fn x=true∨X.env.scope.names.lookup x=some .local:=by first | exact .inl rfl | exact .inr rfl | assumption):PGd X (.Name x pos) (zau i):=
 ⟨_,zkB hN hi hx hf,fun ρ σ G0 H0 G H d v Q P E r h k=>k _ _ G H (E.put (.refl E.e.s) (r:=.fz d) r) (.refl E.e.s) h⟩
noncomputable def zeU:zj7:=fun ds ρ Q=>match ds with
 | []=>Q ρ
 | _=>False
noncomputable def za0(t:TGd)(u:zj7):zj7:=fun ds ρ Q=>match ds with
 | d::r=>t d ρ fun ρ'=>u r ρ' Q
 | []=>False
theorem za9:zpE X [] zeU:=by
 refine⟨_,zn1,fun ρ σ G0 H0 G H ds vs Q P E r h k=>?_⟩
 unfold zeU at h
 split at h
 ·cases vs with
  | nil=>exact⟨rfl,k _ _ G H E (.refl E.e.s) h⟩
  | cons=>simp only[Reps] at r
 ·exact h.elim
theorem zap{e:Expr}{es:List Expr}{t:TGd}{u:zj7}(h1:PGd X e t)(h2:zpE X es u)(hs:(assignEach (e::es) X.env).map (·.2)=assign e X.env::(assignEach es X.env).map (·.2):=by rfl):zpE X (e::es) (za0 t u):=by
 obtain⟨t1,p1,q1⟩:=h1
 obtain⟨t2,p2,q2⟩:=h2
 refine⟨_,zmu p1 p2 hs,fun ρ σ G0 H0 G H ds vs Q P E r h k=>?_⟩
 unfold za0 at h
 split at h
 ·cases vs with
  | nil=>simp only[Reps] at r
  | cons v vs=>
   simp only[Reps] at r
   refine⟨v,vs,rfl,q1 ρ σ G0 H0 G H _ v _ _ E r.1 h fun ρ' σ' G' H' E' x hq=>?_⟩
   exact q2 ρ' σ' G0 H0 G' H' _ vs Q P E' (r.2.mono x.g) hq fun ρ2 σ2 G2 H2 E2 x2 hq2=>k ρ2 σ2 G2 H2 E2 (x.trans x2) hq2
 ·exact h.elim
noncomputable def zf9(n:Nat)(t:zj7):TGd:=fun d ρ Q=>match d with
 | .tup ds=>ds.length=n∧t ds ρ Q
 | _=>False
theorem zbJ{es:List Expr}{k:Nat}{t:zj7}{n:Nat}(hc:X.calm=true)(h:zpE X es t)(hn:(assignEach es X.env).length=n:=by rfl)(hst:(assignEach es X.env).findIdx? (·.1)=none:=by rfl):PGd X (.Tuple es k pos) (zf9 n t):=by
 obtain⟨t1,p1,q1⟩:=h
 refine⟨_,zpg hc p1 hn hst,fun ρ σ G0 H0 G H d v Q P E r h k=>?_⟩
 unfold zf9 at h
 split at h
 ·simp only[Rep] at r
  obtain⟨a,xs,rfl,hq,rs⟩:=r
  exact⟨a,xs,rfl,E.e.s.seqT hq,by rw[rs.length];exact h.1,q1 ρ σ G0 H0 G H _ xs Q P E rs h.2 k⟩
 ·exact h.elim
noncomputable def zoX(te:TD)(g:TGd):TX:=fun D ρ=>te ρ fun r=>g r.val ρ D.nx
theorem zla{e:Expr}{te:TD}{g:TGd}(he:PD X e te)(hg:PGd X tg g)(hs:swapsWithSole [tg] e pos.line X.env=pure false:=by rfl)(hw:swappedStores [tg] e X.env=pure none:=by rfl)(h1:(assignEach [tg] X.env).map (·.2)=[assign tg X.env]:=by rfl):PX X (.Assign [tg] e pos) (zoX te g):=by
 obtain⟨t,p,q⟩:=he
 obtain⟨t2,p2,q2⟩:=hg
 refine⟨_,znr p p2 hs hw h1,fun ρ σ G0 H0 G H D E k h g=>q ρ σ G0 H0 G H _ _ k h fun v H' r G' x rr hq=>?_⟩
 obtain⟨G2,x2,rv,_⟩:=rr.freeze x
 exact q2 ρ σ G0 H0 G2 H' _ v _ _ (k.ext x2) rv hq fun ρ' σ' G' H' E' x' hq'=>g.nx ρ' σ' G' H' (x2.g.trans x'.g) E' hq'
noncomputable def znF(K:PySem.W.Frag)(J:It)(G:Hp)(ds:List D):Prop:=
 (∀i d G' H',ds[i]?=some d→Same G G'→Same G' H'→J.go i H'∧∀v H2,J.yld i H' v H2→∃G2,Ext G' H' G2 H2∧Rep K G2 v d)∧∀G' H',Same G G'→Same G' H'→J.stop ds.length H'
noncomputable abbrev TId:=Ev→(List D→Prop)→Prop
noncomputable def PId(X:Cx)(tg iter:Expr)(wi:TId):Prop:=∃ww,PI X tg iter ww∧∀(ρ:Ev) (σ:St) (G0 H0 G H:Hp) (Q:List D→Prop) (P:It→Hp→Prop),EOk X.K G0 H0 ρ σ G H→wi ρ Q→
 (∀J H' ds G',Ext G H G' H'→znF X.K J G' ds→Q ds→P J H')→ww σ H P
noncomputable def zhR(d:D)(Q:List D→Prop):Prop:=match d with
 | .lst ds=>Q ds
 | .tup ds=>Q ds
 | .str z=>Q (z.cps.toList.map fun c=>.str ⟨#[c]⟩)
 | _=>False
noncomputable def zcc(te:TD):TId:=fun ρ Q=>te ρ fun r=>zhR r.val Q
theorem zlb{K:PySem.W.Frag}{G:Hp}{a:Addr}{xs:List V}{ds:List D}(h:RdL K G a xs)(r:Reps K G xs ds):znF K (Itl K a) G ds:=by
 refine⟨fun i d G' H' hd s1 s2=>?_,fun G' H' s1 s2=>⟨xs,(s2.rdl (s1.rdl h)).sq,by rw[r.length];exact Nat.le_refl _⟩⟩
 obtain⟨v,hv,rv⟩:=r.get hd
 have hs:SqL K H' a xs:=(s2.rdl (s1.rdl h)).sq
 refine⟨⟨xs,v,hs,hv⟩,fun u H2 hy=>?_⟩
 obtain⟨e,y⟩:=hy
 subst e
 have:=y xs hs
 rw[hv] at this
 cases this
 exact⟨G',.refl s2,rv.mono s1⟩
theorem zmR{K:PySem.W.Frag}{G:Hp}{a:Addr}{xs:List V}{ds:List D}(h:SqT K G a xs)(r:Reps K G xs ds):znF K (Itt K a) G ds:=by
 refine⟨fun i d G' H' hd s1 s2=>?_,fun G' H' s1 s2=>⟨xs,s2.seqT (s1.seqT h),by rw[r.length];exact Nat.le_refl _⟩⟩
 obtain⟨v,hv,rv⟩:=r.get hd
 have hs:SqT K H' a xs:=s2.seqT (s1.seqT h)
 refine⟨⟨xs,v,hs,hv⟩,fun u H2 hy=>?_⟩
 obtain⟨e,y⟩:=hy
 subst e
 have:=y xs hs
 rw[hv] at this
 cases this
 exact⟨G',.refl s2,rv.mono s1⟩
theorem zmS{K:PySem.W.Frag}{G:Hp}(z:Str):znF K (Its z) G (z.cps.toList.map fun c=>.str ⟨#[c]⟩):=by
 refine⟨fun i d G' H' hd s1 s2=>?_,fun G' H' s1 s2=>?_⟩
 ·rw[List.getElem?_map] at hd
  cases e:z.cps.toList[i]? with
  | none=>rw[e] at hd;cases hd
  | some c=>
   rw[e] at hd
   cases hd
   have hc:z.cps[i]?=some c:=by simpa using e
   refine⟨(Array.getElem?_eq_some_iff.mp hc).1,fun v H2 hy=>?_⟩
   obtain⟨e2,c',hc',rfl⟩:=hy
   subst e2
   rw[hc] at hc'
   cases hc'
   exact⟨G',.refl s2,zch _ _ _⟩
 ·show _=_
  simp
theorem zj8{K:PySem.W.Frag}{G:Hp}(lo:Int)(n:Nat):znF K (Itr lo n) G ((List.range n).map fun(i:Nat)=>.int (lo+i)):=by
 refine⟨fun i d G' H' hd s1 s2=>?_,fun G' H' s1 s2=>?_⟩
 ·rw[List.getElem?_map] at hd
  cases e:(List.range n)[i]? with
  | none=>rw[e] at hd;cases hd
  | some c=>
   rw[e] at hd
   cases hd
   obtain⟨h1,h2⟩:=List.getElem?_eq_some_iff.mp e
   have h3:i<n:=by simpa using h1
   have h4:c=i:=by rw[←h2];simp
   subst h4
   refine⟨h3,fun v H2 hy=>?_⟩
   obtain⟨e2,rfl⟩:=hy
   subst e2
   exact⟨G',.refl s2,zaN _ _ _⟩
 ·show n≤_
  simp
noncomputable def zeV(ds:List D):List D:=ds.mapIdx fun i d=>.tup [.int (i:Nat),d]
theorem zjn{K:PySem.W.Frag}{G:Hp}{t:Addr}{x y:V}{d e:D}(s1:SqT K G t [x,y])(r1:Rep K G x d)(r2:Rep K G y e):Rep K G (.ref t) (.tup [d,e]):=by
 simp only[Rep]
 exact⟨t,[x,y],rfl,s1,Reps.cons r1 (Reps.cons r2 Reps.nil)⟩
theorem zlc{K:PySem.W.Frag}{G:Hp}{a:Addr}{xs:List V}{ds:List D}(h:RdL K G a xs)(r:Reps K G xs ds):znF K (Ite K a) G (zeV ds):=by
 refine⟨fun i d G' H' hd s1 s2=>?_,fun G' H' s1 s2=>⟨xs,(s2.rdl (s1.rdl h)).sq,by rw[r.length];simp[zeV]⟩⟩
 unfold zeV at hd
 rw[List.getElem?_mapIdx] at hd
 cases e:ds[i]? with
 | none=>rw[e] at hd;cases hd
 | some d'=>
  rw[e] at hd
  cases hd
  obtain⟨v,hv,rv⟩:=r.get e
  have hs:SqL K H' a xs:=(s2.rdl (s1.rdl h)).sq
  refine⟨⟨xs,v,hs,hv⟩,fun u H2 hy=>?_⟩
  obtain⟨t,rfl,ht,y⟩:=hy
  obtain⟨x,hx,rfl⟩:=y xs hs
  rw[hv] at hx
  cases hx
  have x2:Ext G' H' (upd G' t (.tup [.int i,v])) (upd H' t (.tup [.int i,v])):=.new s2 ht
  exact⟨_,x2,zjn (SqT.of zaq) (zaN _ _ _) ((rv.mono s1).mono x2.g)⟩
noncomputable def zoY(ds es:List D):List D:=List.zipWith (fun d e=>.tup [d,e]) ds es
theorem zmT{K:PySem.W.Frag}{G:Hp}{a b:Addr}{xs ys:List V}{ds es:List D}(h:RdL K G a xs)(r:Reps K G xs ds)(h':RdL K G b ys)(r':Reps K G ys es):znF K (Itz K a b) G (zoY ds es):=by
 refine⟨fun i d G' H' hd s1 s2=>?_,fun G' H' s1 s2=>⟨xs,ys,(s2.rdl (s1.rdl h)).sq,(s2.rdl (s1.rdl h')).sq,?_⟩⟩
 ·unfold zoY at hd
  rw[List.getElem?_zipWith] at hd
  cases e:ds[i]? with
  | none=>rw[e] at hd;cases hd
  | some d'=>
   cases e2:es[i]? with
   | none=>rw[e,e2] at hd;cases hd
   | some d2=>
    rw[e,e2] at hd
    cases hd
    obtain⟨v,hv,rv⟩:=r.get e
    obtain⟨v',hv',rv'⟩:=r'.get e2
    have hs:SqL K H' a xs:=(s2.rdl (s1.rdl h)).sq
    have hs':SqL K H' b ys:=(s2.rdl (s1.rdl h')).sq
    refine⟨⟨xs,ys,v,v',hs,hs',hv,hv'⟩,fun u H2 hy=>?_⟩
    obtain⟨t,rfl,ht,y⟩:=hy
    obtain⟨x,x',hx,hx',rfl⟩:=y xs ys hs hs'
    rw[hv] at hx
    rw[hv'] at hx'
    cases hx
    cases hx'
    have x2:Ext G' H' (upd G' t (.tup [v,v'])) (upd H' t (.tup [v,v'])):=.new s2 ht
    exact⟨_,x2,zjn (SqT.of zaq) ((rv.mono s1).mono x2.g) ((rv'.mono s1).mono x2.g)⟩
 ·rw[r.length,r'.length]
  unfold zoY
  rw[List.length_zipWith]
  omega
theorem zaA{l:Expr}{te:TD}(h:PD X l te):PId X tg l (zcc te):=by
 obtain⟨t,p,q⟩:=h
 refine⟨_,zpv p,fun ρ σ G0 H0 G H Q P E h k=>q ρ σ G0 H0 G H _ _ E h fun v H' r G' x rr hq=>?_⟩
 obtain⟨G2,x2,rv,_⟩:=rr.freeze x
 unfold zhR at hq
 split at hq
 ·rename_i ds e
  rw[e] at rv
  simp only[Rep] at rv
  obtain⟨a,xs,rfl,h1,h2⟩:=rv
  exact .inl ⟨a,rfl,⟨xs,(x2.s.rdl h1).sq⟩,k _ H' _ G2 x2 (zlb h1 h2) hq⟩
 ·rename_i ds e
  rw[e] at rv
  simp only[Rep] at rv
  obtain⟨a,xs,rfl,h1,h2⟩:=rv
  exact .inr (.inl ⟨a,rfl,⟨xs,x2.s.seqT h1⟩,k _ H' _ G2 x2 (zmR h1 h2) hq⟩)
 ·rename_i z e
  rw[e] at rv
  simp only[Rep] at rv
  exact .inr (.inr ⟨z,rv,k _ H' _ G2 x2 (zmS z) hq⟩)
 ·exact hq.elim
noncomputable def zeW(ts:TDa):TId:=fun ρ Q=>ts ρ fun ds=>match ds with
 | [.int j]=>-(2 ^ 62)≤j∧j<2 ^ 62∧Q ((List.range j.toNat).map fun(i:Nat)=>.int (0+i))
 | _=>False
theorem zb0{K:PySem.W.Frag}{G:Hp}{vs:List V}{d:D}(h:Reps K G vs [d]):∃v,vs=[v]∧Rep K G v d:=by
 match vs,h with
 | [],h=>simp only[Reps] at h
 | [v],h=>simp only[Reps] at h;exact⟨v,rfl,h.1⟩
 | v::w::r,h=>simp only[Reps] at h;exact absurd h.2 (by simp)
theorem zmU{K:PySem.W.Frag}{G:Hp}{vs:List V}{d e:D}(h:Reps K G vs [d,e]):∃v w,vs=[v,w]∧Rep K G v d∧Rep K G w e:=by
 match vs,h with
 | [],h=>simp only[Reps] at h
 | v::r,h=>
  simp only[Reps] at h
  obtain⟨w,rfl,hw⟩:=zb0 h.2
  exact⟨v,w,rfl,h.1,hw⟩
theorem zbl{a:Expr}{ts:TDa}{p:Pos}(hm:X.mg "range"=none)(ha:PDa X [a] ts)(hg:Gl X "range":=by rfl)(hs:starEach [a] X.env=[(false,eval a X.env)]:=by rfl):PId X tg (.Call (.Name "range" p) [a] [] pos) (zeW ts):=by
 obtain⟨t,pp,q⟩:=ha
 refine⟨_,zkD hg hm pp hs,fun ρ σ G0 H0 G H Q P E h k=>q ρ σ G0 H0 G H _ _ E h fun vs H' ds G' x rs hq=>?_⟩
 split at hq
 ·obtain⟨v,rfl,rv⟩:=zb0 rs
  simp only[Rep] at rv
  subst rv
  exact⟨_,rfl,hq.1,hq.2.1,k _ H' _ G' x (zj8 0 _) hq.2.2⟩
 ·exact hq.elim
noncomputable def zg0(ts:TDa):TId:=fun ρ Q=>ts ρ fun ds=>match ds with
 | [.lst es]=>Q (zeV es)
 | _=>False
theorem zc2{a:Expr}{ts:TDa}{p tp:Pos}{elts:List Expr}{x1:Nat}(hm:X.mg "enumerate"=none)(ha:PDa X [a] ts)(hg:Gl X "enumerate":=by rfl)(hs:starEach [a] X.env=[(false,eval a X.env)]:=by rfl):PId X (.Tuple elts x1 tp) (.Call (.Name "enumerate" p) [a] [] pos) (zg0 ts):=by
 obtain⟨t,pp,q⟩:=ha
 refine⟨_,zoo hg hm pp hs,fun ρ σ G0 H0 G H Q P E h k=>q ρ σ G0 H0 G H _ _ E h fun vs H' ds G' x rs hq=>?_⟩
 split at hq
 ·obtain⟨v,rfl,rv⟩:=zb0 rs
  simp only[Rep] at rv
  obtain⟨a,xs,rfl,h1,h2⟩:=rv
  exact⟨a,xs,rfl,x.s.rdl h1,k _ H' _ G' x (zlc h1 h2) hq⟩
 ·exact hq.elim
noncomputable def zqY(ts:TDa):TId:=fun ρ Q=>ts ρ fun ds=>match ds with
 | [.lst es,.lst fs]=>Q (zoY es fs)
 | _=>False
theorem zoq{a b:Expr}{ts:TDa}{p tp:Pos}{elts:List Expr}{x1:Nat}(hm:X.mg "zip"=none)(ha:PDa X [a,b] ts)(hg:Gl X "zip":=by rfl)(hs:starEach [a,b] X.env=[(false,eval a X.env),(false,eval b X.env)]:=by rfl)(hs2:starEach [b] X.env=[(false,eval b X.env)]:=by rfl) :
  PId X (.Tuple elts x1 tp) (.Call (.Name "zip" p) [a,b] [] pos) (zqY ts):=by
 obtain⟨t,pp,q⟩:=ha
 refine⟨_,zpw hg hm pp hs hs2,fun ρ σ G0 H0 G H Q P E h k=>q ρ σ G0 H0 G H _ _ E h fun vs H' ds G' x rs hq=>?_⟩
 split at hq
 ·obtain⟨v,w',rfl,rv,rw'⟩:=zmU rs
  simp only[Rep] at rv rw'
  obtain⟨a,xs,rfl,h1,h2⟩:=rv
  obtain⟨b,ys,rfl,h3,h4⟩:=rw'
  exact⟨a,b,rfl,⟨xs,(x.s.rdl h1).sq⟩,⟨ys,(x.s.rdl h3).sq⟩,k _ H' _ G' x (zmT h1 h2 h3 h4) hq⟩
 ·exact hq.elim
noncomputable def zgD(wi:TId)(g:TGd)(tb:TX):TX:=fun D ρ=>wi ρ fun ds=>∃Iv:Nat→Ev→Prop,Iv 0 ρ∧
 (∀i d ρ',ds[i]?=some d→Iv i ρ'→g d ρ' fun ρ2=>tb { D with nx:=Iv (i+1),ct:=Iv (i+1),bk:=D.nx } ρ2)∧∀ρ',Iv ds.length ρ'→D.nx ρ'
theorem zcd{iter:Expr}{body:List Stmt}{wi:TId}{g:TGd}{tb:TX}(hp:PassesOwn (model X.prog X.w) X.A X.env X.xe)(hc:X.calm=true)(hi:PId X tg iter wi)(hg:PGd X tg g)(hb:PXs X body tb)
  (hs:∀x,foldedSetIterable iter X.env x=pure x:=by intro _;rfl):PX X (.For tg iter body [] pos) (zgD wi g tb):=by
 obtain⟨t1,p1,q1⟩:=hi
 obtain⟨t2,p2,q2⟩:=hg
 obtain⟨t3,p3,q3⟩:=hb
 refine⟨_,zns hp hc p1 p2 p3 hs,fun ρ σ G0 H0 G H D E k h gg=>q1 ρ σ G0 H0 G H _ _ k h fun J H1 ds G1 x1 wk hq=>?_⟩
 obtain⟨Iv,i0,turn,fin⟩:=hq
 refine⟨fun i m σ' H'=>m=ds.length-i∧i≤ds.length∧∃ρ' G',EOk X.K G0 H0 ρ' σ' G' H'∧Same G1 G'∧Iv i ρ',⟨ds.length,by simp,Nat.zero_le _,ρ,G1,k.ext x1,Same.refl _,i0⟩,?_⟩
 rintro i m σ' H' ⟨rfl,hi,ρ',G',k',s',iv⟩
 by_cases hlt:i<ds.length
 ·obtain⟨w1,w2⟩:=wk
  obtain⟨go,yl⟩:=w1 i ds[i] G' H' (List.getElem?_eq_getElem hlt) s' k'.e.s
  refine .inr ⟨go,fun σ2 H2=>∃ρ2 G2,EOk X.K G0 H0 ρ2 σ2 G2 H2∧Same G1 G2∧Iv (i+1) ρ2,fun σ2 H2 ⟨ρ2,G2,k2,s2,iv2⟩=>⟨ds.length-(i+1),by omega,rfl,hlt,ρ2,G2,k2,s2,iv2⟩,fun v H2 hy=>?_⟩
  obtain⟨G2,x2,rv⟩:=yl v H2 hy
  refine q2 ρ' σ' G0 H0 G2 H2 ds[i] v _ _ (k'.ext x2) rv (turn i ds[i] ρ' (List.getElem?_eq_getElem hlt) iv) fun ρ3 σ3 G3 H3 k3 x3 hq3=>?_
  have s3:Same G1 G3:=(s'.trans x2.g).trans x3.g
  refine q3 ρ3 σ3 G0 H0 G3 H3 _ _ k3 hq3 ⟨fun ρ4 σ4 G4 H4 s4 k4 h4=>⟨ρ4,G4,k4,s3.trans s4,h4⟩,gg.rt,fun ρ4 σ4 G4 H4 s4 k4 h4=>gg.nx ρ4 σ4 G4 H4 ((x1.g.trans s3).trans s4) k4 h4,fun ρ4 σ4 G4 H4 s4 k4 h4=>⟨ρ4,G4,k4,s3.trans s4,h4⟩⟩
 ·have e:i=ds.length:=by omega
  subst e
  exact .inl ⟨wk.2 G' H' s' k'.e.s,gg.nx ρ' σ' G' H' (x1.g.trans s') k' (fin ρ' iv)⟩
end
end L2
namespace L2
open PySem PySem.Spec PyProof.Rows
noncomputable def zml(ρ:Ev):Option Nat→Sl
 | none=>.un
 | some j=>match gt ρ j with
  | .fz d=>.fz d
  | _=>.un
noncomputable def zfa(m:List (Option Nat))(ρ:Ev):Ev:=m.map (zml ρ)
theorem zhS{m:List (Option Nat)}{ρ:Ev}{i:Nat}:gt (m.map (zml ρ)) i=match m[i]? with
  | some o=>zml ρ o
  | none=>.un:=by
 induction m generalizing i with
 | nil=>simp[gt]
 | cons a r ih=>
  cases i with
  | zero=>simp[gt]
  | succ i=>simp only[List.map_cons,gt,List.getElem?_cons_succ];exact ih
noncomputable def zda(m:List (Option Nat))(g:TGd):Prop:=∀d ρ Q,g d ρ Q→g d ρ fun ρ2=>Q ρ2∧ρ2.length=ρ.length∧∀j c,m[j]?=some (some c)→gt ρ2 j=gt ρ j
noncomputable def zg1(m:List (Option Nat))(g:zj7):Prop:=∀ds ρ Q,g ds ρ Q→g ds ρ fun ρ2=>Q ρ2∧ρ2.length=ρ.length∧∀j c,m[j]?=some (some c)→gt ρ2 j=gt ρ j
theorem zam{m:List (Option Nat)}{i:Nat}(h:m[i]?=some none:=by rfl):zda m (zau i):=fun d ρ Q q=>by
 refine⟨q,by simp,fun j c hj=>?_⟩
 rw[zeJ,if_neg]
 rintro⟨e,_⟩
 subst e
 rw[h] at hj
 cases hj
theorem zjo{m:List (Option Nat)}:zg1 m zeU:=fun ds ρ Q q=>by
 unfold zeU at q ⊢
 split at q
 ·exact⟨q,rfl,fun _ _ _=>rfl⟩
 ·exact q.elim
theorem zcL{m:List (Option Nat)}{t:TGd}{u:zj7}(mono:∀d ρ (Q Q':Ev→Prop),(∀ρ',Q ρ'→Q' ρ')→t d ρ Q→t d ρ Q')(monos:∀d ρ (Q Q':Ev→Prop),(∀ρ',Q ρ'→Q' ρ')→u d ρ Q→u d ρ Q')(h1:zda m t)(h2:zg1 m u):zg1 m (za0 t u):=fun ds ρ Q q=>by
 unfold za0 at q ⊢
 split at q
 ·refine mono _ _ _ _ (fun ρ' ⟨q',l',k'⟩=>?_) (h1 _ _ _ q)
  exact monos _ _ _ _ (fun ρ2 ⟨q2,l2,k2⟩=>⟨q2,l2.trans l',fun j c hj=>(k2 j c hj).trans (k' j c hj)⟩) (h2 _ _ _ q')
 ·exact q.elim
theorem zjp{m:List (Option Nat)}{n:Nat}{u:zj7}(h2:zg1 m u):zda m (zf9 n u):=fun d ρ Q q=>by
 unfold zf9 at q ⊢
 split at q
 ·exact⟨q.1,h2 _ _ _ q.2⟩
 ·exact q.elim
theorem zbB{i:Nat}:∀d ρ (Q Q':Ev→Prop),(∀ρ',Q ρ'→Q' ρ')→zau i d ρ Q→zau i d ρ Q':=fun _ _ _ _ h q=>h _ q
theorem zdG:∀d ρ (Q Q':Ev→Prop),(∀ρ',Q ρ'→Q' ρ')→zeU d ρ Q→zeU d ρ Q':=fun _ _ _ _ h q=>by
 unfold zeU at q ⊢
 split at q
 ·exact h _ q
 ·exact q.elim
theorem zdH{t:TGd}{u:zj7}(mono:∀d ρ (Q Q':Ev→Prop),(∀ρ',Q ρ'→Q' ρ')→t d ρ Q→t d ρ Q')(monos:∀d ρ (Q Q':Ev→Prop),(∀ρ',Q ρ'→Q' ρ')→u d ρ Q→u d ρ Q'):∀d ρ (Q Q':Ev→Prop),(∀ρ',Q ρ'→Q' ρ')→za0 t u d ρ Q→za0 t u d ρ Q':=fun _ _ _ _ h q=>by
 unfold za0 at q ⊢
 split at q
 ·exact mono _ _ _ _ (fun ρ' q'=>monos _ _ _ _ h q') q
 ·exact q.elim
theorem zdI{m:List (Option Nat)}{i j n:Nat}(h:m[i]?=some none:=by rfl)(h':m[j]?=some none:=by rfl):zda m (zf9 n (za0 (zau i) (za0 (zau j) zeU))):=
 zjp (zcL zbB (zdH zbB zdG) (zam h) (zcL zbB zdG (zam h') zjo))
theorem ziQ{m:List (Option Nat)}{i j k n:Nat}(h:m[i]?=some none:=by rfl)(h':m[j]?=some none:=by rfl)(h'':m[k]?=some none:=by rfl):zda m (zf9 n (za0 (zau i) (za0 (zau j) (za0 (zau k) zeU)))):=
 zjp (zcL zbB (zdH zbB (zdH zbB zdG)) (zam h) (zcL zbB (zdH zbB zdG) (zam h') (zcL zbB zdG (zam h'') zjo)))
noncomputable def PTd(X:Cx)(ifs:List Expr)(t:TDb):Prop:=∃tt,PTs X ifs tt∧∀(ρ:Ev) (σ:St) (G0 H0 G H:Hp) (Q:Bool→Prop) (P:Bool→Hp→Prop),EOk X.K G0 H0 ρ σ G H→t ρ Q→
 (∀b H' G',Ext G H G' H'→Q b→P b H')→tt σ H P
noncomputable def zdb:TDb:=fun _ Q=>Q true
theorem zaY{X:Cx}:PTd X [] zdb:=⟨_,zol,fun ρ σ G0 H0 G H Q P E h k=>k true H G (.refl E.e.s) h⟩
theorem zbV{X:Cx}{c:Expr}{t:TDb}(h:PB X c t):PTd X [c] t:=let⟨tt,p,q⟩:=h;⟨tt,zom p,q⟩
noncomputable def zaW(wi:TId)(m:List (Option Nat))(g:TGd)(tc:TDb)(te:TD):TD:=fun ρ Q=>wi ρ fun ds=>∃Iv:Nat→List D→Prop,Iv 0 []∧
 (∀i d acc,ds[i]?=some d→Iv i acc→g d (zfa m ρ) fun ρ2=>tc ρ2 fun b=>if b=true then te ρ2 fun r=>acc.length<sizeLine∧Iv (i+1) (acc++[r.val]) else Iv (i+1) acc)∧∀acc,Iv ds.length acc→Q (.ow acc)
section
variable {X:Cx} {elt iter tg:Expr} {ifs:List Expr} {scope:Scope} {pos:Pos} {N':List Str} {m:List (Option Nat)} {wi:TId} {g:TGd} {tc:TDb} {te:TD}
theorem zg2(cs:CompScope X N' m scope)(hk:zda m g){ww:TI}{gg:TIn TG}{tcc:TIn TT}{tee:TIn TE}
  (q1:∀(ρ:Ev) (σ:St) (G0 H0 G H:Hp) (Q:List D→Prop) (P:It→Hp→Prop),EOk X.K G0 H0 ρ σ G H→wi ρ Q→(∀J H' ds G',Ext G H G' H'→znF X.K J G' ds→Q ds→P J H')→ww σ H P)
  (q2:∀s3 H3 ex (ρ:Ev) (σ:St) (G0 H0 G H:Hp) (d:D) (v:V) (Q:Ev→Prop) (P:St→Hp→Prop),EOk X.K G0 H0 ρ σ G H→Rep X.K G v d→g d ρ Q→(∀ρ' σ' G' H',EOk X.K G0 H0 ρ' σ' G' H'→Ext G H G' H'→Q ρ'→P σ' H')→gg s3 H3 ex v σ H P)
  (q3:∀s3 H3 ex (ρ:Ev) (σ:St) (G0 H0 G H:Hp) (Q:Bool→Prop) (P:Bool→Hp→Prop),EOk X.K G0 H0 ρ σ G H→tc ρ Q→(∀b H' G',Ext G H G' H'→Q b→P b H')→tcc s3 H3 ex σ H P)
  (q4:∀s3 H3 ex,Rdg X.K te (tee s3 H3 ex)):Rdg X.K (zaW wi m g tc te) (zmH ww m gg tcc tee):=by
 refine fun ρ σ G0 H0 G H Q P E h k=>q1 ρ σ G0 H0 G H _ _ E h fun J H1 ds G1 x1 wk hq=>?_
 obtain⟨Iv,i0,turn,fin⟩:=hq
 intro D hD s3 ex
 have E1:=E.ext x1
 have hGD:G1 D=none:=x1.s.free hD
 have noow:∀{i:Nat} {es:List L2.D},gt (zfa m ρ) i=.ow es→False:=fun{i es} h=>by
  unfold zfa at h
  rw[zhS] at h
  split at h
  ·rename_i o _
   unfold zml at h
   split at h
   ·cases h
   ·split at h<;>cases h
  ·cases h
 have noov:∀{i:Nat} {o:OV},gt (zfa m ρ) i=.ov o→False:=fun{i o} h=>by
  unfold zfa at h
  rw[zhS] at h
  split at h
  ·rename_i o _
   unfold zml at h
   split at h
   ·cases h
   ·split at h<;>cases h
  ·cases h
 have zb8:EOk X.K G1 H1 (zfa m ρ) (inn m σ) G1 (upd H1 D (.lst [])):=by
  refine⟨.own x1.s hD,by simp[inn,zfa],fun i d h=>?_,fun i es h=>(noow h).elim,fun i j es fs _ h=>(noow h).elim,fun _=>none,fun i es _ h=>(noow h).elim,fun i o h=>(noov h).elim⟩
  unfold zfa at h
  rw[zhS] at h
  split at h
  ·rename_i o ho
   unfold zml at h
   split at h
   ·cases h
   ·rename_i j
    split at h
    ·rename_i d' hd'
     cases h
     obtain⟨v,hv,rv⟩:=E1.fz j d hd'
     refine⟨v,?_,rv⟩
     unfold inn
     rw[List.getElem?_map,ho]
     simp[hv]
    ·cases h
  ·cases h
 refine⟨fun i n σ' H'=>n=ds.length-i∧i≤ds.length∧∃acc xs G',EOk X.K G1 H1 (zfa m ρ) σ' G' H'∧H' D=some (.lst xs)∧G' D=none∧Reps X.K G' xs acc∧Iv i acc,
  ⟨ds.length,by simp,Nat.zero_le _,[],[],G1,zb8,zaq,hGD,Reps.nil,i0⟩,?_⟩
 rintro i n σ' H' ⟨rfl,hi,acc,xs,G',E',hx,hg',rx,iv⟩
 by_cases hlt:i<ds.length
 ·obtain⟨w1,w2⟩:=wk
  obtain⟨go,yl⟩:=w1 i ds[i] G' H' (List.getElem?_eq_getElem hlt) E'.e.g E'.e.s
  refine .inr ⟨go,fun σ2 H2=>∃acc xs G',EOk X.K G1 H1 (zfa m ρ) σ2 G' H2∧H2 D=some (.lst xs)∧G' D=none∧Reps X.K G' xs acc∧Iv (i+1) acc,fun σ2 H2 h2=>⟨ds.length-(i+1),by omega,rfl,hlt,h2⟩,fun v H2 hy=>?_⟩
  obtain⟨G2,x2,rv⟩:=yl v H2 hy
  refine q2 _ _ _ (zfa m ρ) σ' G1 H1 G2 H2 ds[i] v _ _ (E'.ext x2) rv (hk _ _ _ (turn i ds[i] acc (List.getElem?_eq_getElem hlt) iv)) fun ρ3 σ3 G3 H3 E3 x3 hq3=>?_
  obtain⟨hq3,hl3,hk3⟩:=hq3
  have weak:∀j,gt (zfa m ρ) j=.un∨gt (zfa m ρ) j=gt ρ3 j:=fun j=>by
   cases hm:m[j]? with
   | none=>left;unfold zfa;rw[zhS,hm]
   | some o=>
    cases o with
    | none=>left;unfold zfa;rw[zhS,hm];rfl
    | some c=>right;exact(hk3 j c hm).symm
  have x23:=x2.trans x3
  refine q3 _ _ _ ρ3 σ3 G1 H1 G3 H3 _ _ E3 hq3 fun b H4 G4 x4 hq4=>?_
  have x24:=x23.trans x4
  have E4:=(E3.ext x4).weak (ρ':=zfa m ρ) (hl3.symm) weak
  have hx4:H4 D=some (.lst xs):=x24.h _ _ hx
  have hg4:G4 D=none:=x24.n D hg' (by rw[hx];exact nofun)
  cases b with
  | false=>
   rw[if_neg Bool.false_ne_true] at hq4 ⊢
   exact⟨acc,xs,G4,E4,hx4,hg4,rx.mono x24.g,hq4⟩
  | true=>
   rw[if_pos rfl] at hq4 ⊢
   refine q4 _ _ _ ρ3 σ3 G1 H1 G4 H4 _ _ (E3.ext x4) hq4 fun v5 H5 r5 G5 x5 rr5 hq5=>?_
   obtain⟨G6,x6,rv6,_⟩:=rr5.freeze x5
   have E6:=E4.ext x6
   have hx6:H5 D=some (.lst xs):=x6.h _ _ hx4
   have hg6:G6 D=none:=x6.n D hg4 (by rw[hx4];exact nofun)
   have r6:Reps X.K G6 xs acc:=(rx.mono x24.g).mono x6.g
   refine⟨xs,hx6,by rw[r6.length];exact hq5.1,acc++[r5.val],xs++[v5],G6,?_,zaq,hg6,r6.append (Reps.cons rv6 Reps.nil),hq5.2⟩
   refine⟨⟨E6.e.g,fun b o e=>by rw[zal (zar e hD)];exact E6.e.h b o e,fun b o e=>by rw[zal (zar e hg6)];exact E6.e.s b o e,E6.e.n⟩,E6.len,E6.fz,fun i es h=>(noow h).elim,fun i j es fs _ h=>(noow h).elim,fun _=>none,fun i es _ h=>(noow h).elim,fun i o h=>(noov h).elim⟩
 ·have e:i=ds.length:=by omega
  subst e
  refine .inl ⟨wk.2 G' H' E'.e.g E'.e.s,k _ H' (.ow acc) G' (x1.trans E'.e) ⟨D,xs,rfl,x1.h.free hD,hg',hx,rx⟩ (fin acc iv)⟩
theorem zaI(hc:X.calm=true)(cs:CompScope X N' m scope)(hk:zda m g)(hi:PId X tg iter wi)(hg:∀s3 H3 ex,PGd (cxC X N' scope s3 H3 ex) tg g)(ht:∀s3 H3 ex,PTd (cxC X N' scope s3 H3 ex) ifs tc)
  (he:∀s3 H3 ex,PD (cxC X N' scope s3 H3 ex) elt te) (hs:∀x,foldedSetIterable iter X.env x=pure x:=by intro _;rfl):PD X (.ListComp elt [⟨tg,iter,ifs,0⟩] scope pos) (zaW wi m g tc te):=by
 obtain⟨ww,p1,q1⟩:=hi
 exact⟨_,zon (g:=fun s3 H3 ex=>(hg s3 H3 ex).choose) (tc:=fun s3 H3 ex=>(ht s3 H3 ex).choose) (te:=fun s3 H3 ex=>(he s3 H3 ex).choose) hc cs p1 (fun s3 H3 ex=>(hg s3 H3 ex).choose_spec.1) (fun s3 H3 ex=>(ht s3 H3 ex).choose_spec.1) (fun s3 H3 ex=>(he s3 H3 ex).choose_spec.1) hs,
  zg2 cs hk q1 (fun s3 H3 ex=>(hg s3 H3 ex).choose_spec.2) (fun s3 H3 ex=>(ht s3 H3 ex).choose_spec.2) (fun s3 H3 ex=>(he s3 H3 ex).choose_spec.2)⟩
theorem zld(i:Nat){x:Str}{pos' posS:Pos}(hc:X.calm=true)(cs:CompScope X N' m scope)(hk:zda m g)(hi:PId X tg iter wi)(hg:∀s3 H3 ex,PGd (cxC X N' scope s3 H3 ex) tg g)(ht:∀s3 H3 ex,PTd (cxC X N' scope s3 H3 ex) ifs tc)
  (he:∀s3 H3 ex,PD (cxC X N' scope s3 H3 ex) elt te) (hN:X.N.Nodup:=by assumption) (hix:X.N[i]?=some x:=by rfl) (hx:Loc X.env.scope x:=by first | exact Or.inl rfl | exact Or.inr rfl) (hs:∀x,foldedSetIterable iter X.env x=pure x:=by intro _;rfl)
  (hsw:swapsWith (.ListComp elt [⟨tg,iter,ifs,0⟩] scope pos) (some (.Name x pos')) posS.line X.env=pure true:=by rfl)
  (hf:X.fn x=true∨X.env.scope.names.lookup x=some .local:=by first | exact .inl rfl | exact .inr rfl | assumption) :
  PX X (.Assign [.Name x pos'] (.ListComp elt [⟨tg,iter,ifs,0⟩] scope pos) posS) (zdF i (zaW wi m g tc te)):=by
 obtain⟨ww,p1,q1⟩:=hi
 refine⟨_,ziJ (g:=fun s3 H3 ex=>(hg s3 H3 ex).choose) (tc:=fun s3 H3 ex=>(ht s3 H3 ex).choose) (te:=fun s3 H3 ex=>(he s3 H3 ex).choose) hN hix hx hc cs p1 (fun s3 H3 ex=>(hg s3 H3 ex).choose_spec.1) (fun s3 H3 ex=>(ht s3 H3 ex).choose_spec.1) (fun s3 H3 ex=>(he s3 H3 ex).choose_spec.1) hs hsw hf,fun ρ σ G0 H0 G H D E k h gg=>?_⟩
 exact zg2 cs hk q1 (fun s3 H3 ex=>(hg s3 H3 ex).choose_spec.2) (fun s3 H3 ex=>(ht s3 H3 ex).choose_spec.2) (fun s3 H3 ex=>(he s3 H3 ex).choose_spec.2) ρ σ G0 H0 G H _ _ k h fun v H' r G' x rr hq=>gg.nx _ _ G' H' x.g (k.put x rr) hq
theorem zjq(i:Nat){x:Str}{pos' posS:Pos}(hc:X.calm=true)(cs:CompScope X N' m scope)(hk:zda m g)(hi:PId X tg iter wi)(hg:∀s3 H3 ex,PGd (cxC X N' scope s3 H3 ex) tg g)(ht:∀s3 H3 ex,PTd (cxC X N' scope s3 H3 ex) ifs tc)
  (he:∀s3 H3 ex,PD (cxC X N' scope s3 H3 ex) elt te) (hN:X.N.Nodup:=by assumption) (hix:X.N[i]?=some x:=by rfl) (hx:Loc X.env.scope x:=by first | exact Or.inl rfl | exact Or.inr rfl) (hs:∀x,foldedSetIterable iter X.env x=pure x:=by intro _;rfl)
  (hsw:swapsWith (.ListComp elt [⟨tg,iter,ifs,0⟩] scope pos) (some (.Name x pos')) posS.line X.env=pure true:=by rfl)
  (hf:X.fn x=true∨X.env.scope.names.lookup x=some .local:=by first | exact .inl rfl | exact .inr rfl | assumption) :
  PX X (.Assign [.Name x pos'] (.ListComp elt [⟨tg,iter,ifs,0⟩] scope pos) posS) (zaR i (zaW wi m g tc te)):=by
 obtain⟨ww,p1,q1⟩:=hi
 refine⟨_,ziJ (g:=fun s3 H3 ex=>(hg s3 H3 ex).choose) (tc:=fun s3 H3 ex=>(ht s3 H3 ex).choose) (te:=fun s3 H3 ex=>(he s3 H3 ex).choose) hN hix hx hc cs p1 (fun s3 H3 ex=>(hg s3 H3 ex).choose_spec.1) (fun s3 H3 ex=>(ht s3 H3 ex).choose_spec.1) (fun s3 H3 ex=>(he s3 H3 ex).choose_spec.1) hs hsw hf,fun ρ σ G0 H0 G H D E k h gg=>?_⟩
 refine zg2 cs hk q1 (fun s3 H3 ex=>(hg s3 H3 ex).choose_spec.2) (fun s3 H3 ex=>(ht s3 H3 ex).choose_spec.2) (fun s3 H3 ex=>(he s3 H3 ex).choose_spec.2) ρ σ G0 H0 G H _ _ k h fun v H' r G' x rr hq=>?_
 obtain⟨G2,x2,rv,_⟩:=rr.freeze x
 exact gg.nx _ _ G2 H' x2.g (k.put x2 (r:=.fz r.val) rv) hq
end
noncomputable abbrev SpD:=List D→(R→Prop)→Prop
noncomputable def PSp(K:PySem.W.Frag)(n:Nat)(t:SpD):Sp:=fun vs H Q _=>∃G ds Qr,Same G H∧Reps K G vs ds∧ds.length=n∧t ds Qr∧∀v H' r G',Ext G H G' H'→RepR K G' H' H v r→Qr r→Q v H'
noncomputable def zaF(N:List Str)(ds:List D):Ev:=ds.map Sl.fz++List.replicate (N.length-ds.length) .un
theorem zhT{ds:List D}{l:List Sl}{i:Nat}{s:Sl}(h:gt (ds.map Sl.fz++l) i=s):(∃d,ds[i]?=some d∧s=.fz d)∨(ds.length≤i∧gt l (i-ds.length)=s):=by
 induction ds generalizing i with
 | nil=>exact .inr ⟨Nat.zero_le _,by simpa using h⟩
 | cons d ds ih=>
  cases i with
  | zero=>simp only[List.map_cons,List.cons_append,gt] at h;exact .inl ⟨d,rfl,h.symm⟩
  | succ i=>
   simp only[List.map_cons,List.cons_append,gt] at h
   rcases ih h with⟨e,h1,h2⟩ | ⟨h1,h2⟩
   ·exact .inl ⟨e,by simpa using h1,h2⟩
   ·refine .inr ⟨by simp;omega,?_⟩
    rw[List.length_cons]
    rw[show i+1-(ds.length+1)=i-ds.length by omega]
    exact h2
theorem zle{n i:Nat}:gt (List.replicate n Sl.un) i=.un:=by
 induction n generalizing i with
 | zero=>simp[gt]
 | succ n ih=>
  cases i with
  | zero=>rfl
  | succ i=>exact ih
theorem zjr{K:PySem.W.Frag}{G H:Hp}{N:List Str}{vs:List V}{ds:List D}(s:Same G H)(r:Reps K G vs ds):EOk K G H (zaF N ds) (zb8 N vs) G H:=by
 have hl:=r.length
 have c:∀{i:Nat} {t:Sl},gt (zaF N ds) i=t→t≠.un→∃d,ds[i]?=some d∧t=.fz d:=fun{i t} h n=>by
  rcases zhT h with h | ⟨_,h⟩
  ·exact h
  ·rw[zle] at h;exact absurd h.symm n
 refine⟨.refl s,by simp[zb8,zaF,hl],fun i d h=>?_,fun i es h=>?_,fun i j es fs _ h=>?_,fun _=>none,fun i es _ h=>?_,fun i o h=>?_⟩
 ·obtain⟨d',h1,h2⟩:=c h (by simp)
  cases h2
  obtain⟨v,hv,rv⟩:=r.get h1
  have hi:i<vs.length:=(List.getElem?_eq_some_iff.mp hv).1
  refine⟨v,?_,rv⟩
  unfold zb8
  rw[List.getElem?_append_left (by simpa using hi),List.getElem?_map,hv]
  rfl
 ·obtain⟨d',h1,h2⟩:=c h (by simp)
  cases h2
 ·obtain⟨d',h1,h2⟩:=c h (by simp)
  cases h2
 ·obtain⟨d',h1,h2⟩:=c h (by simp)
  cases h2
 ·obtain⟨d',h1,h2⟩:=c h (by simp)
  cases h2
section
variable {P:Program} {w:World} {K:PySem.W.Frag} {mg:Str→Option Value} {base:Heap}
theorem zcx{x qual:Str}{st:Stmt}{f:Addr}{fd:FuncData}{N ps:List Str}{k:Nat}{t:SpD}{T:TX}{dV:Value}(F:FunV dV K x qual st f fd)(S:FnScope N ps (defScope st))
  (body:∀(cdv:Value) (A:Around) (outer:List Env) (s:Shared) (H:Hp) (E:XK),Room k (A.deeper (envOfC qual (defScope st) s.heap.objs.size f cdv))→PXs (zjZ CX0 P w K mg base N qual (defScope st) f cdv A outer s H E).nox (defBody st) T)
  (spec:∀(ds:List D) (Qr:R→Prop),ds.length=ps.length→t ds Qr→T { nx:=fun _=>Qr (.fz .non),rt:=Qr } (zaF N ds)):FnOk P w K mg base CX0 (k+1) f fd ps (PSp K ps.length t):=by
 refine F.ok S (fun vs H Q E h=>?_) (fun cdv A outer s H vs Q E hr h=>?_)
 ·obtain⟨G,ds,Qr,_,r,hl,_⟩:=h
  rw[r.length,hl]
 ·obtain⟨G,ds,Qr,s0,r,hl,ht,k0⟩:=h
  obtain⟨tt,p,q⟩:=body cdv A outer s H E hr
  exact⟨tt,p,q _ _ G H G H _ _ (zjr s0 r) (spec ds Qr hl ht) ⟨fun ρ σ G' H' _ e h=>k0 _ H' _ G' e.e (fzR (zkZ _ _)) h,k0,fun _ _ _ _ _ _ h=>h.elim,fun _ _ _ _ _ _ h=>h.elim⟩⟩
end
section
variable {X:Cx} {k n:Nat} {f:Addr} {fd:FuncData} {ps:List Str} {t:SpD} {x:Str} {p pos:Pos} {e:Expr} {es:List Expr} {ts:TDa}
noncomputable def zav(n:Nat)(t:SpD)(ts:TDa):TD:=fun ρ Q=>ts ρ fun ds=>ds.length=n∧t ds Q
theorem zor(F:FnOk X.prog X.w X.K X.mg X.base CX0 k f fd ps (PSp X.K n t))(hr:Room k X.A)(hm:X.mg x=some (.ref f))(hk:PySem.W.keepIn X.K (.ref f)=true)(hb:Binds X.K fd ps [])(ha:PDa X (e::es) ts)(hg:Gl X x:=by rfl)(hdb:(x==("__debug__":Str))=false:=by decide)
  (he:starEach (e::es) X.env=(false,eval e X.env)::starEach es X.env:=by rfl) (hpl:(backTo pos (starEach es X.env)).any (·.1)=false:=by rfl):PD X (.Call (.Name x p) (e::es) [] pos) (zav n t ts):=by
 obtain⟨tt,pp,q⟩:=ha
 refine⟨_,zkN F hr hg hm hk hb .nil zok pp hdb he hpl,fun ρ σ G0 H0 G H Q P E h k=>q ρ σ G0 H0 G H _ _ E h fun vs H' ds G' x rs hq=>?_⟩
 rw[List.append_nil]
 exact⟨G',ds,Q,x.s,rs,hq.1,hq.2,fun v H2 r G2 x2 rr q2=>k v H2 r G2 (x.trans x2) (rr.older x.h) q2⟩
end
end L2
namespace L2
open PySem PySem.Spec PyProof.Rows PySem.StrLaws
noncomputable def zdh{α:Type}(xs:List α)(lo hi:Option Int):List α:=(xs.drop (HT.sIx xs.length 0 lo)).take (HT.sIx xs.length xs.length hi-HT.sIx xs.length 0 lo)
noncomputable def zj9(z:Str)(lo hi:Option Int):Str:=⟨(zdh z.cps.toList lo hi).toArray⟩
theorem zhU(v:Int)(n d:Nat):max 0 (min (if v<0 then v+(n:Int) else v) (n:Int))=((HT.sIx n d (some v):Nat):Int):=by
 rw[←HT.clip_eq]
 by_cases h:v<0
 ·rw[if_pos h,if_pos h];omega
 ·rw[if_neg h,if_neg h];omega
theorem zgE(z:Str)(lo hi:Option Int):(Builtin.Str.strSliceIndices lo hi 1 z.length).filterMap (z.cps[·]?)=zdh z.cps.toList lo hi:=by
 have hl:z.cps.toList.length=z.length:=by simp[Str.length]
 have e:Builtin.Str.strSliceIndices lo hi 1 z.length=sliceRange ((HT.sIx z.length 0 lo:Nat):Int) ((HT.sIx z.length z.length hi:Nat):Int) 1:=by
  unfold Builtin.Str.strSliceIndices
  cases lo with
  | none=>
   cases hi with
   | none=>rfl
   | some v=>simp only[show((1:Int)>0) from by decide,if_true,zhU v z.length z.length];rfl
  | some u=>
   cases hi with
   | none=>simp only[show((1:Int)>0) from by decide,if_true,zhU u z.length 0];rfl
   | some v=>simp only[show((1:Int)>0) from by decide,if_true,zhU v z.length z.length,zhU u z.length 0]
 rw[e]
 unfold zdh
 rw[hl]
 generalize ha:HT.sIx z.length 0 lo=a
 generalize hb:HT.sIx z.length z.length hi=b
 have hbl:b≤z.length:=by rw[←hb];exact HT.sIx_le _ _ (Nat.le_refl _) _
 have hal:a≤z.length:=by rw[←ha];exact HT.sIx_le _ _ (Nat.zero_le _) _
 by_cases hab:a≤b
 ·have:=sliced_plain z hab hbl
  rw[strSliceIndices_plain hab hbl] at this
  rw[←this]
  unfold sliceRange
  simp only[show((1:Int)>0) from by decide,if_true]
  congr 1
  by_cases h:a<b
  ·rw[if_pos (by omega)]
   rw[show(((b:Int)-(a:Int)+1-1)/1).toNat=b-a by omega]
   apply List.map_congr_left
   intro k _
   show((a:Int)+1*(k:Int)).toNat=a+k
   omega
  ·rw[if_neg (by omega),show b-a=0 by omega]
   rfl
 ·rw[show b-a=0 by omega,List.take_zero]
  unfold sliceRange
  simp only[show((1:Int)>0) from by decide,if_true]
  rw[if_neg (by omega)]
  rfl
theorem zlf(z:Str)(lo hi:Option Int):Txt.slice z lo hi=zj9 z lo hi:=by
 unfold Txt.slice zj9
 split
 ·rename_i h
  have h':(Builtin.Str.strSliceIndices lo hi 1 z.length).length=z.length:=by simpa using h
  have hl:z.cps.toList.length=z.length:=by simp[Str.length]
  have e:=zgE z lo hi
  have h2:(zdh z.cps.toList lo hi).length=z.length:=by
   unfold zdh
   rw[List.length_take,List.length_drop,hl]
   have e1:Builtin.Str.strSliceIndices lo hi 1 z.length=sliceRange ((HT.sIx z.length 0 lo:Nat):Int) ((HT.sIx z.length z.length hi:Nat):Int) 1:=by
    unfold Builtin.Str.strSliceIndices
    cases lo with
    | none=>
     cases hi with
     | none=>rfl
     | some v=>simp only[show((1:Int)>0) from by decide,if_true,zhU v z.length z.length];rfl
    | some u=>
     cases hi with
     | none=>simp only[show((1:Int)>0) from by decide,if_true,zhU u z.length 0];rfl
     | some v=>simp only[show((1:Int)>0) from by decide,if_true,zhU v z.length z.length,zhU u z.length 0]
   rw[e1] at h'
   unfold sliceRange at h'
   simp only[show((1:Int)>0) from by decide,if_true,List.length_map,List.length_range] at h'
   have b1:=HT.sIx_le z.length z.length (Nat.le_refl _) hi
   have b2:=HT.sIx_le z.length 0 (Nat.zero_le _) lo
   by_cases h3:((HT.sIx z.length 0 lo:Nat):Int)<((HT.sIx z.length z.length hi:Nat):Int)
   ·rw[if_pos h3] at h';omega
   ·rw[if_neg h3] at h';simp at h';omega
  apply Str.ext'
  show z.cps=(zdh z.cps.toList lo hi).toArray
  have h3:zdh z.cps.toList lo hi=z.cps.toList:=by
   unfold zdh at h2 ⊢
   rw[List.length_take,List.length_drop,hl] at h2
   rw[hl]
   have b1:=HT.sIx_le z.length z.length (Nat.le_refl _) hi
   have a0:HT.sIx z.length 0 lo=0∨z.length=0:=by omega
   rcases a0 with a0 | a0
   ·rw[a0,List.drop_zero,Nat.sub_zero]
    exact List.take_of_length_le (by omega)
   ·have:z.cps.toList=[]:=List.eq_nil_of_length_eq_zero (by omega)
    rw[this];simp
  rw[h3]
 ·rw[zgE]
section
variable {X:Cx} {pos:Pos} {e:Expr} {te:TD}
theorem sl_str:SlR X (fun x lo hi H Q=>∃z,x=.str z∧z.length≤sizeLine∧Q (.str (zj9 z lo hi)) H):=by
 intro pins s σ H x v vl vu lo hi sl Q I rx hs pl pu h
 obtain⟨z,rfl,hz,q⟩:=h
 obtain⟨t,rfl⟩:=rx
 refine⟨"str",_,F.slot_str_getitem.lookup,typeIs_str _ _ _,?_⟩
 have part:∀{u:Value} {o:Option Int},IsPart u o→∃p:Option (Int×Tok),u=partValue p∧p.map (·.1)=o:=fun h=>by
  cases h with
  | none=>exact⟨none,rfl,rfl⟩
  | int i t=>exact⟨some (i,t),rfl,rfl⟩
 obtain⟨p1,rfl,e1⟩:=part pl
 obtain⟨p2,rfl,e2⟩:=part pu
 obtain⟨o,ho,hc,hd⟩:=hs
 refine wpAny_getItem_str_slice (l:=p1) (u:=p2) (st:=none) ⟨o,ho,hc,hd⟩ rfl ?_
 have fin:∀t' k,EP X pins σ Q (.str (Txt.slice z lo hi) t') { s with toks:=k }:=fun t' k=>⟨.str (zj9 z lo hi),H,I.tok k,⟨t',by rw[zlf]⟩,q⟩
 have hle:=Nat.le_trans (Txt.slice_le z lo hi) hz
 subst e1 e2
 exact post_val_or_str ⟨hle,fin⟩
noncomputable abbrev TOd:=Ev→(Option Int→Prop)→Prop
noncomputable def POd(X:Cx)(e:Option Expr)(t:TOd):Prop:=∃tt,PO X e tt∧∀(ρ:Ev) (σ:St) (G0 H0 G H:Hp) (Q:Option Int→Prop) (P:Option Int→Hp→Prop),EOk X.K G0 H0 ρ σ G H→t ρ Q→(∀o H' G',Ext G H G' H'→Q o→P o H')→tt σ H P
noncomputable def oNo:TOd:=fun _ Q=>Q none
noncomputable def zbu(te:TD):TOd:=fun ρ Q=>te ρ fun r=>match r.val with
 | .int i=>Q (some i)
 | _=>False
theorem zaP:POd X none oNo:=⟨_,zof,fun ρ σ G0 H0 G H Q P E h k=>k none H G (.refl E.e.s) h⟩
theorem zaz(h:PD X e te):POd X (some e) (zbu te):=by
 obtain⟨t,p,q⟩:=h
 refine⟨_,zog p,fun ρ σ G0 H0 G H Q P E h k=>q ρ σ G0 H0 G H _ _ E h fun v H' r G' x rr hq=>?_⟩
 obtain⟨G2,x2,rv,_⟩:=rr.freeze x
 split at hq
 ·rename_i i e1
  rw[e1] at rv
  simp only[Rep] at rv
  exact⟨i,rv,k _ H' G2 x2 hq⟩
 ·exact hq.elim
noncomputable def dSl(te:TD)(tl th:TOd):TD:=fun ρ Q=>te ρ fun r=>tl ρ fun lo=>th ρ fun hi=>match r.val with
 | .lst ds=>Q (.ow (zdh ds lo hi))
 | .str z=>z.length≤sizeLine∧Q (.fz (.str (zj9 z lo hi)))
 | .tup ds=>¬(HT.sIx ds.length 0 lo=0∧HT.sIx ds.length ds.length hi=ds.length)∧Q (.fz (.tup (zdh ds lo hi)))
 | _=>False
theorem zlg{K:PySem.W.Frag}{G:Hp}{xs:List V}{ds:List D}(r:Reps K G xs ds)(lo hi:Option Int):Reps K G (zmk xs lo hi) (zdh ds lo hi):=by
 unfold zmk zdh
 rw[r.length]
 exact(r.drop _).take _
theorem zaG{lo hi:Option Expr}{tl th:TOd}{p2:Pos}(he:PD X e te)(hl:POd X lo tl)(hh:POd X hi th):PD X (.Subscript e (.Slice lo hi none p2) pos) (dSl te tl th):=by
 obtain⟨t1,p1,q1⟩:=he
 obtain⟨t2,p2,q2⟩:=hl
 obtain⟨t3,p3,q3⟩:=hh
 refine⟨_,zmC (sl_list.or (sl_str.or zpq)) p1 p2 p3,fun ρ σ G0 H0 G H Q P E h k=>q1 ρ σ G0 H0 G H _ _ E h fun v H' r G' x rr hq=>?_⟩
 obtain⟨G1,x1,rv,_⟩:=rr.freeze x
 refine q2 ρ σ G0 H0 G1 H' _ _ (E.ext x1) hq fun lo H2 G2 x2 hq2=>?_
 refine q3 ρ σ G0 H0 G2 H2 _ _ ((E.ext x1).ext x2) hq2 fun hi H3 G3 x3 hq3=>?_
 have x13:=(x1.trans x2).trans x3
 have rv3:=(rv.mono x2.g).mono x3.g
 split at hq3
 ·rename_i ds e1
  rw[e1] at rv3
  simp only[Rep] at rv3
  obtain⟨a,xs,rfl,h1,h2⟩:=rv3
  refine .inl ⟨a,xs,rfl,(x13.s.rdl h1).sq,fun p hp=>?_⟩
  exact k _ _ (.ow _) G3 (x13.trans (.own x13.s hp)) ⟨p,_,rfl,x13.h.free hp,x13.s.free hp,zaq,zlg h2 lo hi⟩ hq3
 ·rename_i z e1
  rw[e1] at rv3
  simp only[Rep] at rv3
  exact .inr (.inl ⟨z,rv3,hq3.1,k _ _ _ G3 x13 (fzR (zch _ _ _)) hq3.2⟩)
 ·rename_i ds e1
  rw[e1] at rv3
  simp only[Rep] at rv3
  obtain⟨a,xs,rfl,h1,h2⟩:=rv3
  refine .inr (.inr ⟨a,xs,rfl,x13.s.seqT h1,by rw[h2.length];exact hq3.1,fun p hp=>?_⟩)
  have x4:Ext G3 H3 (upd G3 p (.tup (zmk xs lo hi))) (upd H3 p (.tup (zmk xs lo hi))):=.new x13.s hp
  refine k _ _ (.fz _) _ (x13.trans x4) ?_ hq3.2
  show Rep X.K _ _ (.tup _)
  simp only[Rep]
  exact⟨p,_,rfl,SqT.of zaq,(zlg h2 lo hi).mono x4.g⟩
 ·exact hq3.elim
noncomputable def zgF:SpD:=fun ds Q=>match ds with
 | [.lst es]=>Q (.fz (.int es.length))
 | [.tup es]=>Q (.fz (.int es.length))
 | [.str z]=>z.length≤sizeLine∧Q (.fz (.int z.length))
 | _=>False
theorem zc8:zd5 X (.builtin "len") zgF:=by
 refine⟨_,call_len_seq.or zhK,fun G H vs ds Q P s rs h k=>?_⟩
 unfold zgF at h
 split at h
 ·obtain⟨v,rfl,rv⟩:=zb0 rs
  simp only[Rep] at rv
  obtain⟨a,xs,rfl,h1,h2⟩:=rv
  refine .inl ⟨a,xs,rfl,.inl ((s.rdl h1).sq),?_⟩
  rw[h2.length]
  exact k _ _ _ G (.refl s) (fzR (zaN _ _ _)) h
 ·obtain⟨v,rfl,rv⟩:=zb0 rs
  simp only[Rep] at rv
  obtain⟨a,xs,rfl,h1,h2⟩:=rv
  refine .inl ⟨a,xs,rfl,.inr (s.seqT h1),?_⟩
  rw[h2.length]
  exact k _ _ _ G (.refl s) (fzR (zaN _ _ _)) h
 ·obtain⟨v,rfl,rv⟩:=zb0 rs
  simp only[Rep] at rv
  subst rv
  exact .inr ⟨_,rfl,h.1,k _ _ _ G (.refl s) (fzR (zaN _ _ _)) h.2⟩
 ·exact h.elim
noncomputable def zcM:List D→Option (List Bool)
 | []=>some []
 | .bl b::r=>(zcM r).map (b::·)
 | _=>none
theorem zhV:∀{ds:List D} {bs:List Bool},zcM ds=some bs→ds=bs.map D.bl
 | [],bs,h=>by simp[zcM] at h;subst h;rfl
 | .bl b::r,bs,h=>by
  simp only[zcM,Option.map_eq_some_iff] at h
  obtain⟨bs',h1,rfl⟩:=h
  rw[zhV h1];rfl
 | .non::r,bs,h=>by simp[zcM] at h
 | .int _::r,bs,h=>by simp[zcM] at h
 | .str _::r,bs,h=>by simp[zcM] at h
 | .tup _::r,bs,h=>by simp[zcM] at h
 | .lst _::r,bs,h=>by simp[zcM] at h
 | .obj _ _::r,bs,h=>by simp[zcM] at h
 | .dic _::r,bs,h=>by simp[zcM] at h
 | .dit _::r,bs,h=>by simp[zcM] at h
theorem zlh{K:PySem.W.Frag}{G:Hp}:∀{bs:List Bool} {vs:List V},Reps K G vs (bs.map D.bl)→vs=bs.map V.bl
 | [],[],_=>rfl
 | b::bs,v::vs,h=>by
  simp only[List.map_cons,Reps,Rep] at h
  rw[h.1,zlh h.2];rfl
 | [],_::_,h=>by simp only[List.map_nil,Reps] at h
 | _::_,[],h=>by simp only[List.map_cons,Reps] at h
theorem zmV{bs:List Bool}{us:List Value}(h:Vals (bs.map V.bl) us){i:Nat}{v:Value}(hv:us[i]?=some v):∃b,bs[i]?=some b∧v=.bool b:=by
 have hl:=h.length
 have hi:i<us.length:=(List.getElem?_eq_some_iff.mp hv).1
 have hi2:i<bs.length:=by rw[List.length_map] at hl;omega
 obtain⟨u,hu,ru⟩:=h.get (i:=i) (x:=V.bl bs[i]) (by simp[hi2])
 rw[hv] at hu
 cases hu
 exact⟨bs[i],by simp[hi2],ru⟩
theorem zos{s:Shared}{h':Heap}{o:Obj}(hk:∀b x,b∉[s.heap.objs.size]→(s.heap.push o).get? b=some x→h'.get? b=some x):∀b x,s.heap.get? b=some x→h'.get? b=some x:=
 fun b x e=>hk b x (fun hm=>by rw[List.mem_singleton.mp hm] at e;exact Nat.lt_irrefl _ (Heap.lt_size e)) (Heap.get?_push_of_some _ e)
theorem zot(bs:List Bool):((List.range bs.length).all fun i=>(bs[i]?).getD true)=bs.all id:=by
 rw[Bool.eq_iff_iff]
 simp only[List.all_eq_true,List.mem_range,id]
 constructor
 ·intro h b hb
  obtain⟨i,hi,rfl⟩:=List.mem_iff_getElem.mp hb
  simpa[hi] using h i hi
 ·intro h i hi
  simpa[hi] using h _ (List.getElem_mem hi)
theorem zli(hc:X.calm=true):CallR X (.builtin "all") (fun xs H Q=>∃(p:Addr) (bs:List Bool),xs=[.ref p]∧SqL X.K H p (bs.map V.bl)∧Q (.bl (bs.all id)) H):=by
 intro pins s σ H xs us Q I r h
 obtain⟨p,bs,rfl,hq,q⟩:=h
 obtain⟨u,rfl,ru⟩:=zcw r
 cases ru
 obtain⟨its,rv,pl,hz⟩:=I.list hq
 have hlt:p<s.heap.objs.size:=by obtain⟨_,_,e,_⟩:=pl;exact Heap.lt_size e
 have hl:its.length=bs.length:=by rw[←rv.length,List.length_map]
 refine call_all_walk (wpAny_pyIter_list pl.isList ?_)
 refine⟨s.heap.objs.size,[s.heap.objs.size,p],[s.heap.objs.size],its.toArray.size,_,_,fun i=>(bs[i]?).getD true,rfl,Walks.list (A:=X.A.in1) (I.ok.hd hc) _ p (Nat.ne_of_lt hlt) its.toArray,
  ⟨⟨_,Heap.get?_push_size _ rfl,rfl,rfl⟩,pl.isList.push _⟩,fun i v s' Q' E' hP hQ=>?_,fun h' tk hk=>?_⟩
 ·obtain⟨b,e,rfl⟩:=zmV rv (i:=i) (v:=v) (by simpa using hP)
  simp only[e,Option.getD_some] at hQ
  exact wpAny_truthy_bool hQ
 ·rw[List.size_toArray,hl,zot]
  exact⟨.bl _,H,I.kept (zos hk),rfl,q⟩
noncomputable def zmm:SpD:=fun ds Q=>match ds with
 | [.lst es]=>match zcM es with
  | some bs=>Q (.fz (.bl (bs.all id)))
  | none=>False
 | _=>False
theorem zlj(hc:X.calm=true):zd5 X (.builtin "all") zmm:=by
 refine⟨_,zli hc,fun G H vs ds Q P s rs h k=>?_⟩
 unfold zmm at h
 split at h
 ·split at h
  ·rename_i es bs hb
   obtain⟨v,rfl,rv⟩:=zb0 rs
   simp only[Rep] at rv
   obtain⟨a,xs,rfl,h1,h2⟩:=rv
   rw[zhV hb] at h2
   rw[zlh h2] at h1
   exact⟨a,bs,rfl,(s.rdl h1).sq,k _ _ _ G (.refl s) (fzR (za8 _ _ _)) h⟩
  ·exact h.elim
 ·exact h.elim
end
end L2
namespace L2
open PySem PySem.Spec PyProof.Rows
section
variable {X:Cx} {pos:Pos} {e:Expr} {te:TD}
noncomputable def tyD:D→String
 | .non=>"NoneType"
 | .bl _=>"bool"
 | .int _=>"int"
 | .str _=>"str"
 | .tup _=>"tuple"
 | .lst _=>"list"
 | .obj _ _=>"object"
 | .dic _=>"dict"
 | .dit _=>"dict"
noncomputable def zbX(t T:String):Bool:=(t==T)||(t=="bool"&&T=="int")
theorem zeM{K:PySem.W.Frag}{t T:String}(ht:t∈["NoneType","bool","int","str","tuple","list"])(hT:T∈["bool","int","str","tuple","list"]):PySem.W.kitOne K (.type t) (.type T)=some (zbX t T):=by
 simp only[List.mem_cons,List.not_mem_nil,or_false] at ht hT
 rcases ht with rfl | rfl | rfl | rfl | rfl | rfl<;>rcases hT with rfl | rfl | rfl | rfl | rfl<;>(first | rfl | decide | (unfold PySem.W.kitOne PySem.W.kitCls;decide +kernel))
noncomputable def zmW:D→Bool
 | .obj _ _=>false
 | .dic _=>false
 | .dit _=>false
 | _=>true
theorem zmX{T:String}(hT:T∈["bool","int","str","tuple","list"]):CallR X (.builtin "isinstance") (fun xs H Q=>∃x d,xs=[x,.ty T]∧Rep X.K H x d∧zmW d=true∧Q (.bl (zbX (tyD d) T)) H):=by
 intro pins s σ H xs us Q I r h
 obtain⟨x,d,rfl,rd,ho,q⟩:=h
 obtain⟨u,c,rfl,ru,rc⟩:=ziF r
 cases (show c=Value.type T from rc)
 have fin:∀tk,EP X pins σ Q (.bool (zbX (tyD d) T)) { s with toks:=tk }:=fun tk=>⟨.bl _,H,I.tok tk,rfl,q⟩
 cases d with
 | non=>simp only[Rep] at rd;subst rd;cases (show u=Value.none from ru);exact PySem.W.kia_one PySem.W.kitx_none I.kIn True.intro (zeM (by simp) hT) (fun z=>nomatch z) fin
 | bl y=>simp only[Rep] at rd;subst rd;cases (show u=Value.bool y from ru);exact PySem.W.kia_one PySem.W.kitx_bool I.kIn True.intro (zeM (by simp) hT) (fun z=>nomatch z) fin
 | int i=>simp only[Rep] at rd;subst rd;obtain⟨t,q'⟩:=(show ∃t,u=Value.int i t from ru);cases q';exact PySem.W.kia_one PySem.W.kitx_int I.kIn True.intro (zeM (by simp) hT) (fun z=>nomatch z) fin
 | str y=>simp only[Rep] at rd;subst rd;obtain⟨t,q'⟩:=(show ∃t,u=Value.str y t from ru);cases q';exact PySem.W.kia_one PySem.W.kitx_str I.kIn True.intro (zeM (by simp) hT) (fun z=>nomatch z) fin
 | tup ds=>
  simp only[Rep] at rd
  obtain⟨a,xs,rfl,hq,_⟩:=rd
  cases (show u=Value.ref a from ru)
  obtain⟨its,_,ht,_⟩:=I.tuple hq
  obtain⟨o,h1,h2,_⟩:=ht
  exact PySem.W.kia_one PySem.W.kitx_tuple I.kIn ⟨o,h1,h2⟩ (zeM (by simp) hT) (fun z=>nomatch z) fin
 | lst ds=>
  simp only[Rep] at rd
  obtain⟨a,xs,rfl,hq,_⟩:=rd
  cases (show u=Value.ref a from ru)
  obtain⟨its,_,ht,_⟩:=I.list hq.sq
  obtain⟨o,n,h1,h2,_⟩:=ht
  exact PySem.W.kia_one PySem.W.kitx_list I.kIn ⟨o,h1,h2⟩ (zeM (by simp) hT) (fun z=>nomatch z) fin
 | obj=>cases ho
 | dic=>cases ho
 | dit=>cases ho
noncomputable def zou(T:String)(te:TD):TD:=fun ρ Q=>te ρ fun r=>zmW r.val=true∧Q (.fz (.bl (zbX (tyD r.val) T)))
theorem zlk{T:String}{TN:Str}{p p':Pos}(he:PD X e te)(hm:X.mg "isinstance"=none)(hm2:X.mg TN=none)(hv:bootBuiltins TN=some (.type T))(hT:T∈["bool","int","str","tuple","list"]:=by decide)(hg:Gl X "isinstance":=by rfl)(hg2:Gl X TN:=by rfl)(hn:TN≠"__name__":=by decide)
  (hd:(TN==("__debug__":Str))=false:=by decide) (hst:starEach [e,Expr.Name TN p'] X.env=(false,eval e X.env)::starEach [Expr.Name TN p'] X.env:=by rfl) (hst2:starEach [Expr.Name TN p'] X.env=(false,eval (.Name TN p') X.env)::starEach [] X.env:=by rfl)
  (hpl:(backTo pos (starEach [Expr.Name TN p'] X.env)).any (·.1)=false:=by rfl):PD X (.Call (.Name "isinstance" p) [e,.Name TN p'] [] pos) (zou T te):=by
 obtain⟨t,pp,q⟩:=he
 refine⟨_,zgS (zmX hT) hg hm boot_isinstance (zbp pp (zbp (ziC (v:=.ty T) hg2 hm2 hv rfl hn hd) zcE hst2) hst) (by decide) (by decide) hst hpl,fun ρ σ G0 H0 G H Q P E h k=>q ρ σ G0 H0 G H _ _ E h fun v H' r G' x rr hq=>?_⟩
 obtain⟨G2,x2,rv,_⟩:=rr.freeze x
 exact⟨v,r.val,rfl,rv.mono x2.s,hq.1,k _ _ _ G2 x2 (fzR (za8 _ _ _)) hq.2⟩
end
end L2
namespace L2
open PySem PySem.Spec PyProof.Rows
section
variable {P:Program} {w:World} {K:PySem.W.Frag} {mg:Str→Option Value} {base:Heap}
structure Known (P:Program) (w:World) (K:PySem.W.Frag) (mg:Str→Option Value) (base:Heap) (k:Nat) (x:Str) (n:Nat) (t:SpD):Prop where
 ex:∃(f:Addr) (fd:FuncData) (ps:List Str),FnOk P w K mg base CX0 k f fd ps (PSp K n t)∧mg x=some (.ref f)∧PySem.W.keepIn K (.ref f)=true∧Binds K fd ps []
structure At (K:PySem.W.Frag) (mg:Str→Option Value) (x:Str) (st:Stmt):Prop where
 ex:∃(f:Addr) (fd:FuncData),Fun K x x st f fd∧mg x=some (.ref f)
theorem at_mk{h:Heap}{x:Str}{st:Stmt}{f:Addr}{oc:Value}{od an:Option Addr}{osl:Array (Option Value)}{kV doc pm cdv ct:Value}(X:K.In h)(G:h.Ns mainGlobals mg)(a:PySem.W.nsIn K mainGlobals x=some (some (.ref f)))
  (l:K.lookup f=some ⟨oc,od,.func (PySem.W.fnOf x x (defArgs st) (defBody st) (defScope st) .none kV doc pm an cdv ct),osl⟩) (c:PySem.W.codeIn K cdv x=true) (k:PySem.W.keepIn K (.ref f)=true):At K mg x st:=
 ⟨f,_,znA l c k,PySem.W.mg_of X G a⟩
theorem conS_mk{h:Heap}{x:Str}{u:Value}{z:Str}{t:Tok}(X:K.In h)(G:h.Ns mainGlobals mg)(c:PySem.W.nsIn K mainGlobals x=some (some u))(e:u=.str z t):∃t,mg x=some (.str z t):=⟨t,by rw[PySem.W.mg_of X G c,e]⟩
theorem conI_mk{h:Heap}{x:Str}{u:Value}{z:Int}{t:Tok}(X:K.In h)(G:h.Ns mainGlobals mg)(c:PySem.W.nsIn K mainGlobals x=some (some u))(e:u=.int z t):∃t,mg x=some (.int z t):=⟨t,by rw[PySem.W.mg_of X G c,e]⟩
end
section
variable {X:Cx} {k k' n:Nat} {t:SpD} {x:Str} {p pos:Pos} {e:Expr} {es:List Expr} {ts:TDa}
theorem zah(C:Known X.prog X.w X.K X.mg X.base k x n t)(hr:Room k' X.A)(ha:PDa X (e::es) ts)(hk:k≤k':=by decide)(hg:Gl X x:=by rfl)(hdb:(x==("__debug__":Str))=false:=by decide)
  (he:starEach (e::es) X.env=(false,eval e X.env)::starEach es X.env:=by rfl) (hpl:(backTo pos (starEach es X.env)).any (·.1)=false:=by rfl):PD X (.Call (.Name x p) (e::es) [] pos) (zav n t ts):=by
 obtain⟨f,fd,ps,F,hm,kp,hb⟩:=C.ex
 exact zor F (hr.mono hk) hm kp hb ha hg hdb he hpl
end
noncomputable def zll(kindOf:Str→Option NameKind)(N N':List Str)(m:List (Option Nat))(scope:Scope):Bool:=
 (scope.kind==.function)&&(m.length==N'.length)&&(scope.names.all fun y=>y.2 != .cell)&&(scope.names.all fun y=>y.2 != .local||scope.names.lookup y.1==some .local) &&
 (scope.names.all fun y=>y.2 != .free||kindOf y.1==some .cell||kindOf y.1==some .free) &&
 ((m.zip N').all fun p=>match p.1 with
   | none=>true
   | some j=>N[j]?==some p.2&&scope.names.lookup p.2==some .free)
theorem CompScope.of{X:Cx}{N':List Str}{m:List (Option Nat)}{scope:Scope}(h:zll X.env.kindOf X.N N' m scope=true):CompScope X N' m scope:=by
 unfold zll at h
 simp only[Bool.and_eq_true,beq_iff_eq,List.all_eq_true,Bool.or_eq_true,bne_iff_ne,ne_eq] at h
 obtain⟨⟨⟨⟨⟨h1,h2⟩,h3⟩,h4⟩,h5⟩,h6⟩:=h
 refine⟨h1,h2,fun y hy=>h3 y hy,fun y hy e=>(h4 y hy).resolve_left fun z=>z e,fun y hy e=>?_,fun i j x hm hN=>?_⟩
 ·rcases h5 y hy with(z | z) | z
  ·exact absurd e z
  ·exact .inl z
  ·exact .inr z
 ·have hz:(some j,x)∈m.zip N':=by
   apply List.mem_of_getElem? (i:=i)
   rw[List.getElem?_zip_eq_some]
   exact⟨hm,hN⟩
  have:=h6 _ hz
  simpa using this
theorem zka{K:PySem.W.Frag}{G:Hp}{a:Addr}{ns:List Int}(h:RdL K G a (ns.map V.int)):Rep K G (.ref a) (.lst (ns.map D.int)):=by
 simp only[Rep]
 refine⟨a,_,rfl,h,?_⟩
 clear h
 induction ns with
 | nil=>exact Reps.nil
 | cons n r ih=>exact Reps.cons (zaN _ _ _) ih
noncomputable def zov(n:Nat):SpD:=fun ds Q=>∃ns:List Int,ds=[.lst (ns.map .int)]∧ns.length≤n∧Q (.fz (.bl true))
theorem walk_pure{l:PySem.W.OpenLaw}{n k:Nat}{q:Program}{loose:List Str}{XP:(Str→Option Value)→Heap→Prop}{YP:World→Heap→Prop}{d:DefRec}{K:Params→PySem.W.Frag}{x:Str}
  (hn:l.most=some n) (hn2:n≤sizeLine) (hdf:d.params.defaults=[]) (hr:Room k callerA) (hY:∀(w:World) (h:Heap),YP w h→(K w.params).In h)
  (F:∀(w:World) (mg:Str→Option Value) (fa:Addr) (h:Heap),(K w.params).In h→h.Ns mainGlobals mg→mg d.name=some (.ref fa)→
   ∃fd:FuncData,(∀(s:Shared) (u:Value),BindsTo s fd ⟨[u],[]⟩ [(x,u)])∧∀base:Heap,FnOk l.prog w (K w.params) mg base CX0 k fa fd [x] (PSp (K w.params) 1 (zov n))) :
  PySem.W.WalkO q loose XP YP l.row.toRowW d [] (fun f vs=>PySem.call f vs):=by
 refine Att.attach_call hn hdf fun w s₀ s₁ mg mb fa o pm cd doc a vs ns G Y ho hd hcd hmg hobj hints hlen hg=>?_
 have KX:=hY w _ Y
 obtain⟨fd,hb,hF⟩:=F w mg fa _ KX G.T.g hmg
 refine zmG KX G.T.g G.T.b G.T.builtins G.T.nolimit hg hobj hints (Nat.le_trans hlen hn2) hr (fun base _ _=>hF base) hb (fun H hO hS=>?_) fun H e s' z=>z
 have hL:RdL (K w.params) H a (ns.map V.int):=by
  rcases hS with hS | ⟨o,its,m,h1,h2,h3,h4,h5,h6⟩
  ·exact .inl hS
  ·have e:=KX a o h1
   rw[hobj] at e
   cases e
   have h4':Data.seq vs.toArray _=Data.seq its m:=h4
   injection h4' with e1 e2
   subst e1
   exact .inr ⟨_,_,h1,h5,h6⟩
 refine⟨H,[.lst (ns.map .int)],fun r=>r=.fz (.bl true),Same.refl _,Reps.cons (zka hL) Reps.nil,rfl,⟨ns,rfl,hlen,rfl⟩,fun v H' r G' _ rr e=>?_⟩
 subst e
 simpa only[RepR,Rep] using rr
theorem zpF{P:Program}{w:World}{K:PySem.W.Frag}{mg:Str→Option Value}{st:Stmt}{N:List Str}{x:Str}{k:Nat}{t:SpD}{T:Heap→TX}{fa:Addr}(DA:At K mg "law" st)(hmg:mg "law"=some (.ref fa))(S:FnScope N [x] (defScope st))
  (hb:∀(kV doc pm:Value) (an:Option Addr) (cdv ct:Value) (us:List Value),us.length=1→bindArgs (PySem.W.fnOf "law" "law" (defArgs st) (defBody st) (defScope st) .none kV doc pm an cdv ct) ⟨us,[]⟩=pure ([x].zip us))
  (body:∀(base:Heap) (f:Addr) (cdv:Value) (A:Around) (outer:List Env) (s:Shared) (H:Hp) (E:XK),Room k (A.deeper (envOfC "law" (defScope st) s.heap.objs.size f cdv))→PXs (zjZ CX0 P w K mg base N "law" (defScope st) f cdv A outer s H E).nox (defBody st) (T base))
  (spec:∀(base:Heap) (ds:List D) (Qr:R→Prop),ds.length=1→t ds Qr→T base { nx:=fun _=>Qr (.fz .non),rt:=Qr } (zaF N ds)) :
  ∃fd:FuncData,(∀(s:Shared) (u:Value),BindsTo s fd ⟨[u],[]⟩ [(x,u)])∧∀base:Heap,FnOk P w K mg base CX0 (k+1) fa fd [x] (PSp K 1 t):=by
 obtain⟨f,fd,F,hm⟩:=DA.ex
 rw[hmg] at hm
 cases hm
 refine⟨fd,fun s u=>?_,fun base=>zcx F S (body base fa) (spec base)⟩
 obtain⟨oc,od,kV,doc,pm,an,cdv,ct,osl,rfl,lk,hcd⟩:=F.ex
 exact .of_eq (hb kV doc pm an cdv ct [u] rfl)
end L2
namespace L2
open PySem PySem.Spec PyProof.Rows
noncomputable def zkb(i:Nat)(t:TX):TX:=fun D ρ=>t D (frz i ρ)
theorem zhW(d:D):(R.fz d).val=d:=rfl
theorem zgG(ds:List D):(R.ow ds).val=.lst ds:=rfl
theorem zpG(d:D):(R.fz d).sl=.fz d:=rfl
theorem zpH(ds:List D):(R.ow ds).sl=.ow ds:=rfl
theorem zfr{α:Type}{wi:TId}{m:List (Option Nat)}{g:TGd}{tc:TDb}{te:TD}{ρ:Ev}{Q:R→Prop}(L:List α)(φ:α→D)(f:α→Option D)(hw:∀Q':List D→Prop,Q' (L.map φ)→wi ρ Q')(hl:L.length≤sizeLine)
  (h:∀x∈L,∀(K1:D→Prop) (K0:Prop),(∀e,f x=some e→K1 e)→(f x=none→K0)→g (φ x) (zfa m ρ) fun ρ2=>tc ρ2 fun b=>if b=true then te ρ2 fun r=>K1 r.val else K0)
  (q:Q (.ow (L.filterMap f))):zaW wi m g tc te ρ Q:=by
 refine hw _ ⟨fun i acc=>acc=(L.take i).filterMap f,rfl,fun i d acc hd ha=>?_,fun acc ha=>?_⟩
 ·rw[List.getElem?_map] at hd
  cases hx:L[i]? with
  | none=>rw[hx] at hd;cases hd
  | some x=>
   rw[hx] at hd
   cases hd
   have hi:i<L.length:=(List.getElem?_eq_some_iff.mp hx).1
   have e:L.take (i+1)=L.take i++[x]:=by rw[List.take_add_one,hx];rfl
   have hlen:acc.length<sizeLine:=by
    rw[ha]
    refine Nat.lt_of_le_of_lt (List.length_filterMap_le _ _) ?_
    rw[List.length_take];omega
   exact h x (List.mem_of_getElem? hx) (fun e=>acc.length<sizeLine∧acc++[e]=(L.take (i+1)).filterMap f) (acc=(L.take (i+1)).filterMap f)
    (fun z hz=>⟨hlen,by rw[e,List.filterMap_append,ha];simp[hz]⟩) (fun hz=>by rw[e,List.filterMap_append,ha];simp[hz])
 ·dsimp only at ha
  rw[List.length_map,List.take_length] at ha
  rw[ha];exact q
theorem zaK{α:Type}{wi:TId}{m:List (Option Nat)}{g:TGd}{te:TD}{ρ:Ev}{Q:R→Prop}(L:List α)(φ f:α→D)(hw:∀Q':List D→Prop,Q' (L.map φ)→wi ρ Q')(hl:L.length≤sizeLine)
  (h:∀x∈L,∀(K1:D→Prop),K1 (f x)→g (φ x) (zfa m ρ) fun ρ2=>te ρ2 fun r=>K1 r.val) (q:Q (.ow (L.map f))):zaW wi m g zdb te ρ Q:=by
 refine zfr L φ (fun x=>some (f x)) hw hl (fun x hx K1 K0 h1 _=>?_) ?_
 ·have:=h x hx K1 (h1 _ rfl)
  simpa[zdb] using this
 ·have e:L.filterMap (fun x=>some (f x))=L.map f:=by
   induction L with
   | nil=>rfl
   | cons a r ih=>simp
  rw[e];exact q
theorem zbb{α:Type}{wi:TId}{m:List (Option Nat)}{g:TGd}{tc:TDb}{te:TD}{ρ:Ev}{Q:R→Prop}(L:List α)(φ f:α→D)(p:α→Bool)(hw:∀Q':List D→Prop,Q' (L.map φ)→wi ρ Q')(hl:L.length≤sizeLine)
  (h:∀x∈L,∀(K1:D→Prop) (K0:Prop),(p x=true→K1 (f x))→(p x=false→K0)→g (φ x) (zfa m ρ) fun ρ2=>tc ρ2 fun b=>if b=true then te ρ2 fun r=>K1 r.val else K0)
  (q:Q (.ow ((L.filter p).map f))):zaW wi m g tc te ρ Q:=by
 refine zfr L φ (fun x=>if p x=true then some (f x) else none) hw hl (fun x hx K1 K0 h1 h0=>h x hx K1 K0 (fun z=>h1 _ (by simp[z])) (fun z=>h0 (by simp[z]))) ?_
 have e:L.filterMap (fun x=>if p x=true then some (f x) else none)=(L.filter p).map f:=by
  clear h hl hw q
  induction L with
  | nil=>rfl
  | cons a r ih=>by_cases z:p a=true<;>simp[z,ih]
 rw[e];exact q
theorem zjs{wi:TId}{g:TGd}{tb:TX}{D:DE}{ρ:Ev}(ds:List L2.D)(hw:∀Q':List L2.D→Prop,Q' ds→wi ρ Q')(Iv:Nat→Ev→Prop)(h0:Iv 0 ρ)
  (turn:∀i d ρ',ds[i]?=some d→Iv i ρ'→g d ρ' fun ρ2=>tb { D with nx:=Iv (i+1),ct:=Iv (i+1),bk:=D.nx } ρ2) (fin:∀ρ',Iv ds.length ρ'→D.nx ρ'):zgD wi g tb D ρ:=hw _ ⟨Iv,h0,turn,fin⟩
theorem zdJ{α:Type}{wi:TId}{g:TGd}{tb:TX}{D:DE}{ρ:Ev}(L:List α)(φ:α→L2.D)(hw:∀Q':List L2.D→Prop,Q' (L.map φ)→wi ρ Q')(Iv:Nat→Ev→Prop)(h0:Iv 0 ρ)
  (turn:∀i x ρ',L[i]?=some x→Iv i ρ'→g (φ x) ρ' fun ρ2=>tb { D with nx:=Iv (i+1),ct:=Iv (i+1),bk:=D.nx } ρ2) (fin:∀ρ',Iv L.length ρ'→D.nx ρ'):zgD wi g tb D ρ:=by
 refine zjs (L.map φ) hw Iv h0 (fun i d ρ' hd iv=>?_) (fun ρ' iv=>fin ρ' (by simpa using iv))
 rw[List.getElem?_map] at hd
 cases hx:L[i]? with
 | none=>rw[hx] at hd;cases hd
 | some x=>rw[hx] at hd;cases hd;exact turn i x ρ' hx iv
theorem zcn{g:TGd}{tb:TX}{D:DE}{ρ:Ev}{wi:TId}(n:Nat)(hw:∀Q':List L2.D→Prop,Q' ((List.range n).map fun(i:Nat)=>.int (0+i))→wi ρ Q')(Iv:Nat→Ev→Prop)(h0:Iv 0 ρ)
  (turn:∀(i:Nat) ρ',i<n→Iv i ρ'→g (.int i) ρ' fun ρ2=>tb { D with nx:=Iv (i+1),ct:=Iv (i+1),bk:=D.nx } ρ2) (fin:∀ρ',Iv n ρ'→D.nx ρ'):zgD wi g tb D ρ:=by
 refine zdJ (List.range n) (fun(i:Nat)=>.int (0+i)) hw Iv h0 (fun i x ρ' hx iv=>?_) (fun ρ' iv=>fin ρ' (by simpa using iv))
 obtain⟨h1,h2⟩:=List.getElem?_eq_some_iff.mp hx
 have h3:i<n:=by simpa using h1
 have h4:x=i:=by rw[←h2];simp
 subst h4
 rw[Int.zero_add]
 exact turn x ρ' h3 iv
theorem p24:(10:Int) ^ Int.toNat 24=1000000000000000000000000:=by decide
theorem p30:(10:Int) ^ Int.toNat 30=1000000000000000000000000000000:=by decide
theorem znG:zkv 10 24=True:=by simp only[zkv,eq_iff_iff,iff_true];decide
theorem znH:zkv 10 30=True:=by simp only[zkv,eq_iff_iff,iff_true];decide
theorem zjt:100000≤sizeLine:=by decide
end L2
namespace L2
open PySem PySem.Spec PyProof.Rows
section
variable {X:Cx} {pos:Pos} {e:Expr} {te:TD} {es:List Expr} {ts:TDa}
noncomputable def zoZ(t:TD):TD:=fun ρ Q=>t ρ fun r=>match r.val with
 | .int i=>Q (.fz (.int (-i)))
 | _=>False
theorem zlm(h:PD X e te):PD X (.UnaryOp .USub e pos) (zoZ te):=by
 obtain⟨t,p,q⟩:=h
 refine⟨_,zqL zpm p,fun ρ σ G0 H0 G H Q P E h k=>q ρ σ G0 H0 G H _ _ E h fun v H' r G' x rr hq=>?_⟩
 obtain⟨G2,x2,rv,_⟩:=rr.freeze x
 split at hq
 ·rename_i i e1
  rw[e1] at rv
  simp only[Rep] at rv
  exact⟨i,rv,k _ _ _ G2 x2 (fzR (zaN _ _ _)) hq⟩
 ·exact hq.elim
noncomputable def zdK:SpD:=fun ds Q=>match ds with
 | [.lst es]=>Q (.ow es)
 | [.tup es]=>Q (.ow es)
 | _=>False
theorem zeN:zd5 X (.type "list") zdK:=by
 refine⟨_,zhL,fun G H vs ds Q P s rs h k=>?_⟩
 unfold zdK at h
 split at h
 ·obtain⟨v,rfl,rv⟩:=zb0 rs
  simp only[Rep] at rv
  obtain⟨a,xs,rfl,h1,h2⟩:=rv
  exact⟨a,xs,rfl,.inl (s.rdl h1).sq,zdf s h2 h k⟩
 ·obtain⟨v,rfl,rv⟩:=zb0 rs
  simp only[Rep] at rv
  obtain⟨a,xs,rfl,h1,h2⟩:=rv
  exact⟨a,xs,rfl,.inr (s.seqT h1),zdf s h2 h k⟩
 ·exact h.elim
noncomputable def zpI:SpD:=fun ds Q=>match ds with
 | [.int i]=>Q (.fz (.int i))
 | [.bl b]=>Q (.fz (.int (if b then 1 else 0)))
 | _=>False
theorem zqZ:zd5 X (.type "int") zpI:=by
 refine⟨_,zkJ,fun G H vs ds Q P s rs h k=>?_⟩
 unfold zpI at h
 split at h
 ·obtain⟨v,rfl,rv⟩:=zb0 rs
  simp only[Rep] at rv
  subst rv
  exact .inl ⟨_,rfl,k _ _ _ G (.refl s) (fzR (zaN _ _ _)) h⟩
 ·obtain⟨v,rfl,rv⟩:=zb0 rs
  simp only[Rep] at rv
  subst rv
  exact .inr ⟨_,rfl,k _ _ _ G (.refl s) (fzR (zaN _ _ _)) h⟩
 ·exact h.elim
noncomputable def zbH:List D→Option (List Int)
 | []=>some []
 | .int b::r=>(zbH r).map (b::·)
 | _=>none
theorem zco:∀{ds:List D} {bs:List Int},zbH ds=some bs→ds=bs.map D.int
 | [],bs,h=>by simp[zbH] at h;subst h;rfl
 | .int b::r,bs,h=>by
  simp only[zbH,Option.map_eq_some_iff] at h
  obtain⟨bs',h1,rfl⟩:=h
  rw[zco h1];rfl
 | .non::r,bs,h=>by simp[zbH] at h
 | .bl _::r,bs,h=>by simp[zbH] at h
 | .str _::r,bs,h=>by simp[zbH] at h
 | .tup _::r,bs,h=>by simp[zbH] at h
 | .lst _::r,bs,h=>by simp[zbH] at h
 | .obj _ _::r,bs,h=>by simp[zbH] at h
 | .dic _::r,bs,h=>by simp[zbH] at h
 | .dit _::r,bs,h=>by simp[zbH] at h
theorem zc3(bs:List Int):zbH (bs.map D.int)=some bs:=by
 induction bs with
 | nil=>rfl
 | cons b r ih=>simp[zbH,ih]
theorem zdL{K:PySem.W.Frag}{G:Hp}:∀{bs:List Int} {vs:List V},Reps K G vs (bs.map D.int)→vs=bs.map V.int
 | [],[],_=>rfl
 | b::bs,v::vs,h=>by
  simp only[List.map_cons,Reps,Rep] at h
  rw[h.1,zdL h.2];rfl
 | [],_::_,h=>by simp only[List.map_nil,Reps] at h
 | _::_,[],h=>by simp only[List.map_cons,Reps] at h
theorem zd7{vs:List Value}{ns:List Int}(hi:IntsAre vs ns):∃xs:Array (Int×Tok),vs.toArray=intItems xs∧ns=xs.toList.map (·.1):=by
 obtain⟨xs,e⟩:=hi.allInts.items
 exact⟨xs,e,by rw[←hi.numsOf,←nums_intItems,←e]⟩
theorem zln(hc:X.calm=true):CallR X (.builtin "sum") (fun xs H Q=>∃(p:Addr) (ns:List Int),xs=[.ref p]∧SqL X.K H p (ns.map V.int)∧Q (.int ns.sum) H):=by
 intro pins s σ H xs us Q I r h
 obtain⟨p,ns,rfl,hq,q⟩:=h
 obtain⟨u,rfl,ru⟩:=zcw r
 cases ru
 obtain⟨its,rv,pl,hz⟩:=I.list hq
 obtain⟨ys,e,hns⟩:=zd7 (zc0 rv)
 have hl:=pl.isList
 rw[e] at hl
 refine sum_intListG (I.ok.hd hc) hl fun h' tk t' hk=>?_
 have e2:preSum (numAt ys) ys.size=ns.sum:=by
  rw[preSum_eq,List.take_of_length_le (by simp),hns]
 rw[e2]
 exact⟨.int _,H,I.kept hk,⟨_,rfl⟩,q⟩
theorem zlo(hc:X.calm=true):CallR X (.builtin "min") (fun xs H Q=>∃(p:Addr) (ns:List Int),xs=[.ref p]∧SqL X.K H p (ns.map V.int)∧ns≠[]∧∀M,M∈ns→(∀a∈ns,M≤a)→Q (.int M) H):=by
 intro pins s σ H xs us Q I r h
 obtain⟨p,ns,rfl,hq,hne,q⟩:=h
 obtain⟨u,rfl,ru⟩:=zcw r
 cases ru
 obtain⟨its,rv,pl,hz⟩:=I.list hq
 obtain⟨ys,e,hns⟩:=zd7 (zc0 rv)
 have hl:=pl.isList
 rw[e] at hl
 have hsz:0<ys.size:=by
  cases hys:ys.toList with
  | nil=>rw[hns,hys] at hne;exact absurd rfl hne
  | cons a b=>have:ys.toList.length=b.length+1:=by rw[hys];rfl
              rw[Array.length_toList] at this;omega
 refine min_intList (I.ok.hd hc) hl hsz fun v h' tk hv hk=>?_
 obtain⟨t,rfl⟩:=intItems_at hv
 obtain⟨h1,h2⟩:=argBest_lt (numAt ys) (ys.size-1)
 refine⟨.int _,H,I.kept hk,⟨_,rfl⟩,q _ ?_ fun a ha=>?_⟩
 ·rw[hns,numAt_eq];exact getD_mem (by rw[List.length_map,Array.length_toList];omega)
 ·rw[hns] at ha
  obtain⟨j,hj,rfl⟩:=mem_getD ha
  rw[List.length_map,Array.length_toList] at hj
  rw[←numAt_eq];exact h2 j (by omega)
theorem zlp(hc:X.calm=true):CallR X (.builtin "max") (fun xs H Q=>∃(p:Addr) (ns:List Int),xs=[.ref p]∧SqL X.K H p (ns.map V.int)∧ns≠[]∧∀M,M∈ns→(∀a∈ns,a≤M)→Q (.int M) H):=by
 intro pins s σ H xs us Q I r h
 obtain⟨p,ns,rfl,hq,hne,q⟩:=h
 obtain⟨u,rfl,ru⟩:=zcw r
 cases ru
 obtain⟨its,rv,pl,hz⟩:=I.list hq
 obtain⟨ys,e,hns⟩:=zd7 (zc0 rv)
 have hl:=pl.isList
 rw[e] at hl
 have hsz:0<ys.size:=by
  cases hys:ys.toList with
  | nil=>rw[hns,hys] at hne;exact absurd rfl hne
  | cons a b=>have:ys.toList.length=b.length+1:=by rw[hys];rfl
              rw[Array.length_toList] at this;omega
 refine max_intList (I.ok.hd hc) hl hsz fun v h' tk hv hk=>?_
 obtain⟨t,rfl⟩:=intItems_at hv
 obtain⟨h1,h2⟩:=argBest_gt (numAt ys) (ys.size-1)
 refine⟨.int _,H,I.kept hk,⟨_,rfl⟩,q _ ?_ fun a ha=>?_⟩
 ·rw[hns,numAt_eq];exact getD_mem (by rw[List.length_map,Array.length_toList];omega)
 ·rw[hns] at ha
  obtain⟨j,hj,rfl⟩:=mem_getD ha
  rw[List.length_map,Array.length_toList] at hj
  rw[←numAt_eq];exact h2 j (by omega)
noncomputable def zmn:SpD:=fun ds Q=>match ds with
 | [.lst es]=>match zbH es with
  | some ns=>Q (.fz (.int ns.sum))
  | none=>False
 | _=>False
theorem zkc(hc:X.calm=true):zd5 X (.builtin "sum") zmn:=by
 refine⟨_,zln hc,fun G H vs ds Q P s rs h k=>?_⟩
 unfold zmn at h
 split at h
 ·split at h
  ·rename_i es bs hb
   obtain⟨v,rfl,rv⟩:=zb0 rs
   simp only[Rep] at rv
   obtain⟨a,xs,rfl,h1,h2⟩:=rv
   rw[zco hb] at h2
   rw[zdL h2] at h1
   exact⟨a,bs,rfl,(s.rdl h1).sq,k _ _ _ G (.refl s) (fzR (zaN _ _ _)) h⟩
  ·exact h.elim
 ·exact h.elim
noncomputable def zqs:SpD:=fun ds Q=>match ds with
 | [.lst es]=>match zbH es with
  | some ns=>ns≠[]∧∀M,M∈ns→(∀a∈ns,M≤a)→Q (.fz (.int M))
  | none=>False
 | [.int i,.int j]=>Q (.fz (.int (if j<i then j else i)))
 | _=>False
noncomputable def zqt:SpD:=fun ds Q=>match ds with
 | [.lst es]=>match zbH es with
  | some ns=>ns≠[]∧∀M,M∈ns→(∀a∈ns,a≤M)→Q (.fz (.int M))
  | none=>False
 | [.int i,.int j]=>Q (.fz (.int (if j>i then j else i)))
 | _=>False
theorem zq0(hc:X.calm=true):zd5 X (.builtin "min") zqs:=by
 refine⟨_,(zlo hc).or (zkI hc),fun G H vs ds Q P s rs h k=>?_⟩
 unfold zqs at h
 split at h
 ·split at h
  ·rename_i es bs hb
   obtain⟨v,rfl,rv⟩:=zb0 rs
   simp only[Rep] at rv
   obtain⟨a,xs,rfl,h1,h2⟩:=rv
   rw[zco hb] at h2
   rw[zdL h2] at h1
   exact .inl ⟨a,bs,rfl,(s.rdl h1).sq,h.1,fun M h3 h4=>k _ _ _ G (.refl s) (fzR (zaN _ _ _)) (h.2 M h3 h4)⟩
  ·exact h.elim
 ·obtain⟨v,u,rfl,rv,ru⟩:=zmU rs
  simp only[Rep] at rv ru
  subst rv ru
  exact .inr ⟨_,_,rfl,k _ _ _ G (.refl s) (fzR (zaN _ _ _)) h⟩
 ·exact h.elim
theorem zq1(hc:X.calm=true):zd5 X (.builtin "max") zqt:=by
 refine⟨_,(zlp hc).or (zkH hc),fun G H vs ds Q P s rs h k=>?_⟩
 unfold zqt at h
 split at h
 ·split at h
  ·rename_i es bs hb
   obtain⟨v,rfl,rv⟩:=zb0 rs
   simp only[Rep] at rv
   obtain⟨a,xs,rfl,h1,h2⟩:=rv
   rw[zco hb] at h2
   rw[zdL h2] at h1
   exact .inl ⟨a,bs,rfl,(s.rdl h1).sq,h.1,fun M h3 h4=>k _ _ _ G (.refl s) (fzR (zaN _ _ _)) (h.2 M h3 h4)⟩
  ·exact h.elim
 ·obtain⟨v,u,rfl,rv,ru⟩:=zmU rs
  simp only[Rep] at rv ru
  subst rv ru
  exact .inr ⟨_,_,rfl,k _ _ _ G (.refl s) (fzR (zaN _ _ _)) h⟩
 ·exact h.elim
noncomputable def zbM:List D→Option (List Str)
 | []=>some []
 | .str b::r=>(zbM r).map (b::·)
 | _=>none
theorem zc4:∀{ds:List D} {bs:List Str},zbM ds=some bs→ds=bs.map D.str
 | [],bs,h=>by simp[zbM] at h;subst h;rfl
 | .str b::r,bs,h=>by
  simp only[zbM,Option.map_eq_some_iff] at h
  obtain⟨bs',h1,rfl⟩:=h
  rw[zc4 h1];rfl
 | .non::r,bs,h=>by simp[zbM] at h
 | .bl _::r,bs,h=>by simp[zbM] at h
 | .int _::r,bs,h=>by simp[zbM] at h
 | .tup _::r,bs,h=>by simp[zbM] at h
 | .lst _::r,bs,h=>by simp[zbM] at h
 | .obj _ _::r,bs,h=>by simp[zbM] at h
 | .dic _::r,bs,h=>by simp[zbM] at h
 | .dit _::r,bs,h=>by simp[zbM] at h
theorem zcp(bs:List Str):zbM (bs.map D.str)=some bs:=by
 induction bs with
 | nil=>rfl
 | cons b r ih=>simp[zbM,ih]
theorem zfb{K:PySem.W.Frag}{G:Hp}:∀{bs:List Str} {vs:List V},Reps K G vs (bs.map D.str)→vs=bs.map V.str
 | [],[],_=>rfl
 | b::bs,v::vs,h=>by
  simp only[List.map_cons,Reps,Rep] at h
  rw[h.1,zfb h.2];rfl
 | [],_::_,h=>by simp only[List.map_nil,Reps] at h
 | _::_,[],h=>by simp only[List.map_cons,Reps] at h
theorem zlq{K:PySem.W.Frag}{G:Hp}(bs:List Str):Reps K G (bs.map V.str) (bs.map D.str):=by
 induction bs with
 | nil=>exact Reps.nil
 | cons b r ih=>exact Reps.cons (zch _ _ _) ih
theorem zd8{ss:List Str}:∀{us:List Value},Vals (ss.map V.str) us→StrsAre us ss:=by
 induction ss with
 | nil=>
  intro us h
  cases h
  exact .nil
 | cons n r ih=>
  intro us h
  cases h with
  | cons a b=>
   obtain⟨t,rfl⟩:=a
   exact .cons _ _ (ih b)
theorem zhX:∀{vs:List Value} {ss:List Str},StrsAre vs ss→Vals (ss.map V.str) vs
 | _,_,.nil=>.nil
 | _,_,.cons _ _ h=>.cons ⟨_,rfl⟩ (zhX h)
theorem call_sortS:CallR X (.builtin "sorted") (fun xs H Q=>∃(p:Addr) (ss:List Str),xs=[.ref p]∧SqL X.K H p (ss.map V.str)∧ss.length<64∧∀ss':List Str,ss'.Perm ss→sortedS ss'=true→∀l,H l=none→Q (.ref l) (upd H l (.lst (ss'.map V.str)))):=by
 intro pins s σ H xs us Q I r h
 obtain⟨p,ss,rfl,hq,h64,q⟩:=h
 obtain⟨u,rfl,ru⟩:=zcw r
 cases ru
 obtain⟨its,rv,pl,hz⟩:=I.list hq
 have hl:its.length=ss.length:=by rw[←rv.length,List.length_map]
 refine sorted_strs pl.isList (zd8 rv) (by omega) fun out ss' a1 a2 a3=>?_
 obtain⟨en,he⟩:=sortedAll_at s.heap its out
 have hf:H (s.heap.objs.size+1)=none:=I.hok.fresh (Nat.le_succ _)
 refine⟨.ref (s.heap.objs.size+1),_,I.laid (a:=s.heap.objs.size+1) (o:=.lst (ss'.map V.str)) (t':=s.toks) (fun b o e=>sortedAll_old e) (Nat.le_succ _) ?_,rfl,q ss' a2 a3 _ hf⟩
 refine⟨by rw[List.length_map,a2.length_eq];have:=zjt;omega,out.toList,en,zhX a1,?_⟩
 rw[Array.toArray_toList]
 exact he
theorem zkd:CallR X (.builtin "sorted") (fun xs H Q=>∃(p:Addr) (ns:List Int),xs=[.ref p]∧SqL X.K H p (ns.map V.int)∧ns.length<64∧∀ns':List Int,ns'.Perm ns→ns'.Pairwise (·≤·)→∀l,H l=none→Q (.ref l) (upd H l (.lst (ns'.map V.int)))):=by
 intro pins s σ H xs us Q I r h
 obtain⟨p,ss,rfl,hq,h64,q⟩:=h
 obtain⟨u,rfl,ru⟩:=zcw r
 cases ru
 obtain⟨its,rv,pl,hz⟩:=I.list hq
 have hl:its.length=ss.length:=by rw[←rv.length,List.length_map]
 refine sorted_ints pl.isList (zc0 rv) (by omega) fun out ss' a1 a2 a3=>?_
 obtain⟨en,he⟩:=sortedAll_at s.heap its out
 have hf:H (s.heap.objs.size+1)=none:=I.hok.fresh (Nat.le_succ _)
 refine⟨.ref (s.heap.objs.size+1),_,I.laid (a:=s.heap.objs.size+1) (o:=.lst (ss'.map V.int)) (t':=s.toks) (fun b o e=>sortedAll_old e) (Nat.le_succ _) ?_,rfl,q ss' a2 a3 _ hf⟩
 refine⟨by rw[List.length_map,a2.length_eq];have:=zjt;omega,out.toList,en,zfo a1,?_⟩
 rw[Array.toArray_toList]
 exact he
noncomputable def zdi:SpD:=fun ds Q=>match ds with
 | [.lst es]=>match zbM es with
  | some ss=>ss.length<64∧∀ss':List Str,ss'.Perm ss→sortedS ss'=true→Q (.ow (ss'.map D.str))
  | none=>match zbH es with
   | some ns=>ns.length<64∧∀ns':List Int,ns'.Perm ns→ns'.Pairwise (·≤·)→Q (.ow (ns'.map D.int))
   | none=>False
 | _=>False
theorem zlr{K:PySem.W.Frag}{G:Hp}(bs:List Int):Reps K G (bs.map V.int) (bs.map D.int):=by
 induction bs with
 | nil=>exact Reps.nil
 | cons b r ih=>exact Reps.cons (zaN _ _ _) ih
theorem zju(_:X.calm=true):zd5 X (.builtin "sorted") zdi:=by
 refine⟨_,call_sortS.or zkd,fun G H vs ds Q P s rs h k=>?_⟩
 unfold zdi at h
 split at h
 ·split at h
  ·rename_i es bs hb
   obtain⟨v,rfl,rv⟩:=zb0 rs
   simp only[Rep] at rv
   obtain⟨a,xs,rfl,h1,h2⟩:=rv
   rw[zc4 hb] at h2
   rw[zfb h2] at h1
   exact .inl ⟨a,bs,rfl,(s.rdl h1).sq,h.1,fun ss' p1 p2=>zdf s (zlq ss') (h.2 ss' p1 p2) k⟩
  ·split at h
   ·rename_i es _ bs hb
    obtain⟨v,rfl,rv⟩:=zb0 rs
    simp only[Rep] at rv
    obtain⟨a,xs,rfl,h1,h2⟩:=rv
    rw[zco hb] at h2
    rw[zdL h2] at h1
    exact .inr ⟨a,bs,rfl,(s.rdl h1).sq,h.1,fun ss' p1 p2=>zdf s (zlr ss') (h.2 ss' p1 p2) k⟩
   ·exact h.elim
 ·exact h.elim
noncomputable def MtP(X:Cx)(id:String)(o:D→List D→(R→Prop)→Prop):Prop:=∃r,MtR X id r∧∀(G H:Hp) (x:V) (d:D) (vs:List V) (ds:List D) (Q:R→Prop) (P:VK),Same G H→Rep X.K G x d→Reps X.K G vs ds→o d ds Q→
 (∀v H' r' G',Ext G H G' H'→RepR X.K G' H' H v r'→Q r'→P v H')→r x vs H P
noncomputable def dM(T:String)(o:D→List D→(R→Prop)→Prop)(te:TD)(ts:TDa):TD:=fun ρ Q=>te ρ fun r=>tyD r.val=T∧ts ρ fun ds=>o r.val ds Q
theorem zow{K:PySem.W.Frag}{G H:Hp}{x:V}{d:D}{T:String}(s:Same G H)(r:Rep K G x d)(h:tyD d=T)(hT:T="list"∨T="str"):tyV K T x H:=by
 cases d with
 | str z=>simp only[Rep] at r;subst r;exact h.symm
 | lst ds=>
  simp only[Rep] at r
  obtain⟨a,xs,rfl,h1,_⟩:=r
  exact .inl ⟨h.symm,xs,(s.rdl h1).sq⟩
 | non=>subst h;rcases hT with h | h<;>simp[tyD] at h
 | bl=>subst h;rcases hT with h | h<;>simp[tyD] at h
 | int=>subst h;rcases hT with h | h<;>simp[tyD] at h
 | tup=>subst h;rcases hT with h | h<;>simp[tyD] at h
 | obj=>subst h;rcases hT with h | h<;>simp[tyD] at h
 | dic=>subst h;rcases hT with h | h<;>simp[tyD] at h
 | dit=>subst h;rcases hT with h | h<;>simp[tyD] at h
theorem zd9{T id:String}{name:Str}{p':Pos}{e1:Expr}{o:D→List D→(R→Prop)→Prop}(hm:MtP X id o)(hT:T="list"∨T="str")(pa:PlainAttrs T)(slot:Slot T name id)(hty:typeOf (.builtin id)=pure (.type "method_descriptor"))
  (he:PD X e te) (ha:PDa X (e1::es) ts) (hbase:attributeBase e name X.env (eval e X.env)=eval e X.env:=by rfl)
  (hfew:((backTo pos (starEach (e1::es) X.env)).all (fun x=>!x.1)&&(backToKw pos (keywordEach [] X.env)).all (fun x=>x.1.isSome)
   && decide ((e1::es).length+([]:List Keyword).length+(if ([]:List Keyword).isEmpty then 0 else 1)<30))=true:=by rfl)
  (hline:(p'.endLine==pos.line)=true:=by rfl) (hs:starEach (e1::es) X.env=(false,eval e1 X.env)::starEach es X.env:=by rfl) (hplain:(backTo pos (starEach es X.env)).any (·.1)=false:=by rfl) :
  PD X (.Call (.Attribute e name p') (e1::es) [] pos) (dM T o te ts):=by
 obtain⟨r,hr,hr'⟩:=hm
 obtain⟨t1,p1,q1⟩:=he
 obtain⟨t2,p2,q2⟩:=ha
 refine⟨_,zkR pa slot hty hr p1 p2 hbase hfew hline hs hplain,fun ρ σ G0 H0 G H Q P E h k=>q1 ρ σ G0 H0 G H _ _ E h fun v H' r1 G' x rr hq=>?_⟩
 obtain⟨G2,x2,rv,_⟩:=rr.freeze x
 refine⟨zow x2.s rv hq.1 hT,q2 ρ σ G0 H0 G2 H' _ _ (E.ext x2) hq.2 fun vs H3 ds G3 x3 rs hq3=>?_⟩
 exact hr' G3 H3 v r1.val vs ds Q P x3.s (rv.mono x3.g) rs hq3 fun w' H4 r4 G4 x4 rr4 q4=>k w' H4 r4 G4 ((x2.trans x3).trans x4) (rr4.older (x2.trans x3).h) q4
noncomputable def zkw(d:D)(ds:List D):Nat:=ds.countP fun e=>eqD e d
noncomputable def zgH:D→List D→(R→Prop)→Prop:=fun d ds Q=>match d,ds with
 | .lst es,[x]=>okE 8 x∧(∀e∈es,okE 8 e)∧Q (.fz (.int (zkw x es)))
 | _,_=>False
theorem zls{pins:List (Addr×Obj)}{σ:St}{H:Hp}{s:Shared}(I:Inv X pins σ H s){d:D}:∀{es:List D} {vs:List V} {us:List Value},(∀e∈es,okE 8 e)→Vals vs us→Reps X.K H vs es→us.countP (eqW X H d)=zkw d es
 | [],_,_,_,rv,re=>by
  cases rv
  ·rfl
  ·simp only[Reps] at re
 | e::es,_,_,h,rv,re=>by
  cases rv with
  | nil=>simp only[Reps] at re
  | cons r t=>
   simp only[Reps] at re
   unfold zkw
   rw[List.countP_cons,List.countP_cons,zk3 I (h e (by simp)) r re.1,zls I (fun x hx=>h x (by simp[hx])) t re.2]
   rfl
theorem zlt(hu:X.A.units+64<cLine):MtP X "list.count" zgH:=by
 refine⟨fun x vs H Q=>∃p d es ws y,x=.ref p∧vs=[y]∧SqL X.K H p ws∧okE 8 d∧(∀e∈es,okE 8 e)∧Rep X.K H y d∧Reps X.K H ws es∧Q (.int (zkw d es)) H,fun pins s σ H x xs v us Q I rx rs h=>?_,fun G H x d vs ds Q P s rx rs h k=>?_⟩
 ·obtain⟨p,d,es,ws,y,rfl,rfl,hq,hd,he,rd,re,q⟩:=h
  cases rx
  obtain⟨u,rfl,ru⟩:=zcw rs
  obtain⟨its,rv,pl,hz⟩:=I.list hq
  obtain⟨⟨cls,dd,data,sl⟩,n,ho,hc,hdn,hdt⟩:=id pl
  simp only at hc hdt
  subst hc hdt
  refine call_meets PySem.F.slot_list_count ⟨_,ho,rfl⟩ PySem.F.entry_list_count (PySem.F.args_list_count_2 _ _) (SeqAt.list_countAt p its.toArray n dd sl u (eqW X H d)) ⟨ho,zdD (A:=X.A.in1) I hd (by show X.A.units+1+8<cLine;omega) rd ru he rv re,?_⟩
  rw[show its.toArray.toList=its from rfl,zls I he rv re]
  exact⟨.int _,H,I.tok _,⟨_,rfl⟩,q⟩
 ·unfold zgH at h
  split at h
  ·obtain⟨y,rfl,ry⟩:=zb0 rs
   simp only[Rep] at rx
   obtain⟨a,xs,rfl,h1,h2⟩:=rx
   exact⟨a,_,_,xs,y,rfl,rfl,(s.rdl h1).sq,h.1,h.2.1,ry.mono s,h2.mono s,k _ _ _ G (.refl s) (fzR (zaN _ _ _)) h.2.2⟩
  ·exact h.elim
noncomputable def zhY:D→List D→(R→Prop)→Prop:=fun d ds Q=>match d,ds with
 | .str x,[.lst es]=>match zbM es with
  | some ys=>(ys.map (·.length)).sum+ys.length*x.length≤16777216∧Q (.fz (.str (Txt.join x ys)))
  | none=>False
 | _,_=>False
theorem znI:MtP X "str.join" zhY:=by
 refine⟨fun x vs H Q=>∃(z:Str) (p:Addr) (ys:List Str),x=.str z∧vs=[.ref p]∧SqL X.K H p (ys.map V.str)∧(ys.map (·.length)).sum+ys.length*z.length≤16777216∧Q (.str (Txt.join z ys)) H,fun pins s σ H x xs v us Q I rx rs h=>?_,fun G H x d vs ds Q P s rx rs h k=>?_⟩
 ·obtain⟨z,p,ys,rfl,rfl,hq,hz,q⟩:=h
  obtain⟨t,rfl⟩:=rx
  obtain⟨u,rfl,ru⟩:=zcw rs
  cases ru
  obtain⟨its,rv,pl,_⟩:=I.list hq
  exact join_list pl.isList (by simpa using zd8 rv) hz fun t' k=>⟨.str _,H,I.tok _,⟨_,rfl⟩,q⟩
 ·unfold zhY at h
  split at h
  ·split at h
   ·rename_i z es ys hy
    obtain⟨v,rfl,rv⟩:=zb0 rs
    simp only[Rep] at rv rx
    obtain⟨a,xs,rfl,h1,h2⟩:=rv
    rw[zc4 hy] at h2
    rw[zfb h2] at h1
    exact⟨_,a,ys,rx,rfl,(s.rdl h1).sq,h.1,k _ _ _ G (.refl s) (fzR (zch _ _ _)) h.2⟩
   ·exact h.elim
  ·exact h.elim
end
end L2
namespace L2
open PySem PySem.Spec PyProof.Rows
theorem zgI{prog:Program}{w:World}{A:Around}{E:Value→Shared→Prop}{it l:Addr}{items:Array Value}(hne:l≠it) :
  ∀(n i:Nat) (s:Shared) (Q:List Value→Shared→Prop),s.heap.IsListIter it l i→s.heap.IsList l items→i+n≤items.size→
   (∀h':Heap,h'.IsListIter it l (i+n)→Heap.SameBut it s.heap h'→Q ((items.toList.drop i).take n) { s with heap:=h' })→wpAny (model prog w) A (draw (.ref it) n) Q E s
 | 0,i,s,Q,st,hl,hn,q=>by
  rw[draw.eq_1]
  exact wpAny_pure (by have:=q s.heap st ⟨rfl,fun _ _=>rfl⟩;simpa using this)
 | n+1,i,s,Q,st,hl,hn,q=>by
  rw[draw.eq_2]
  have hi:i<items.size:=by omega
  refine wpAny_bind (wpAny_pyNext_list_item st hl (x:=items[i]) (by simp[hi]) fun h1 st1 sb=>?_)
  dsimp only
  have hl1:h1.IsList l items:=by
   obtain⟨o,e,c⟩:=hl
   exact⟨o,(sb.2 l hne).trans e,c⟩
  refine wpAny_bind (wpAny_holding (zgI hne n (i+1) { s with heap:=h1 } _ st1 hl1 (by omega) fun h2 st2 sb2=>wpAny_pure ?_))
  have:=q h2 (by rw[show i+(n+1)=i+1+n by omega];exact st2) ⟨sb2.1.trans sb.1,fun b hb=>(sb2.2 b hb).trans (sb.2 b hb)⟩
  have e:(items.toList.drop i).take (n+1)=items[i]::(items.toList.drop (i+1)).take n:=by
   rw[List.drop_eq_getElem_cons (by simpa using hi)]
   simp
  rw[e] at this
  exact this
theorem zea{prog:Program}{w:World}{A:Around}{E:Value→Shared→Prop}{s:Shared}{l:Addr}{items:Array Value}{Q:List Value→Shared→Prop}(hd:A.handled=none)(hl:s.heap.IsList l items)
  (q:∀h':Heap,Heap.ExtBut s.heap.objs.size s.heap h'→Q items.toList { s with heap:=h' }):wpAny (model prog w) A (unpackItems (.ref l) items.size none) Q E s:=by
 unfold unpackItems
 have hlt:l<s.heap.objs.size:=by obtain⟨o,e,_⟩:=hl;exact Heap.lt_size e
 have ty:s.TypeIs (.ref l) "list":=by obtain⟨o,e,c,_⟩:=hl;exact⟨o,e,c⟩
 refine wpAny_bind ?_
 unfold notIterableAtAll
 refine wpAny_bind (wpAny_specialOf ty F.slot_list_iter.lookup ?_)
 rw[if_pos (show((some (Value.builtin "list.__iter__")).isSome=true) from rfl)]
 refine wpAny_pure ?_
 rw[if_neg Bool.false_ne_true]
 refine wpAny_bind (wpAny_holding (wpAny_pyIter_list hl ?_))
 dsimp only
 have hl1:(s.heap.push { cls:=Value.type "list_iterator",data:=Data.fields #[Value.ref l,Value.int 0 0] }).IsList l items:=by
  obtain⟨o,e,c⟩:=hl
  exact⟨o,Heap.get?_push_of_some _ e,c⟩
 refine wpAny_bind (wpAny_holding (zgI (Nat.ne_of_lt hlt) items.size 0 _ _ ⟨_,Heap.get?_push_size _ rfl,rfl,rfl⟩ hl1 (by omega) fun h2 st2 sb2=>?_))
 have hl2:h2.IsList l items:=by
  obtain⟨o,e,c⟩:=hl1
  exact⟨o,(sb2.2 l (Nat.ne_of_lt hlt)).trans e,c⟩
 have el:List.take items.size (List.drop 0 items.toList)=items.toList:=by rw[List.drop_zero,show items.size=items.toList.length by simp,List.take_length]
 rw[el,if_neg (by simp)]
 refine wpAny_bind (wpAny_holding (wpAny_pyNext_list_end hd st2 hl2 (by simp) fun h3 eb=>?_))
 rw[if_neg (by simp)]
 refine wpAny_pure (q h3 fun b o hb e=>eb b o hb ?_)
 rw[sb2.2 b hb]
 exact Heap.get?_push_of_some _ e
section
variable {X:Cx} {pos:Pos}
noncomputable def zrQ(K:PySem.W.Frag)(n:Nat)(t:TGs):TG:=fun v σ H Q=>∃a xs,v=.ref a∧SqL K H a xs∧xs.length=n∧t xs σ H Q
theorem zox{es:List Expr}{k:Nat}{t:TGs}{n:Nat}(hc:X.calm=true)(h:PGs X es t)
  (hn:(assignEach es X.env).length=n:=by rfl) (hst:(assignEach es X.env).findIdx? (·.1)=none:=by rfl):PG X (.Tuple es k pos) (zrQ X.K n t):=by
 intro pins s σ H v u Q I r hw
 obtain⟨a,xs,e1,hq,hl,hw⟩:=hw
 subst e1
 cases r
 obtain⟨its,rv,pl,hz⟩:=I.list hq
 rw[assign_Tuple]
 refine wpAny_bind (wpAny_standAt ?_)
 unfold unpack
 have hlen:(assignEach es X.env).length=its.toArray.size:=by rw[hn,←hl,rv.length];simp
 rw[hlen,hst]
 refine wpAny_bind (wpAny_holding (zea (I.ok.hd hc) pl.isList fun h' hx=>?_))
 have I1:Inv X pins σ H { s with heap:=h' }:=I.kept (t':=s.toks) fun b o e=>hx b o (Nat.ne_of_lt (Heap.lt_size e)) e
 exact h pins _ σ H xs _ Q I1 (by simpa using rv) hw
noncomputable def zpJ(n:Nat)(t:zj7):TGd:=fun d ρ Q=>match d with
 | .lst ds=>ds.length=n∧t ds ρ Q
 | _=>False
theorem zoy{es:List Expr}{k:Nat}{t:zj7}{n:Nat}(hc:X.calm=true)(h:zpE X es t)(hn:(assignEach es X.env).length=n:=by rfl)(hst:(assignEach es X.env).findIdx? (·.1)=none:=by rfl):PGd X (.Tuple es k pos) (zpJ n t):=by
 obtain⟨t1,p1,q1⟩:=h
 refine⟨_,zox hc p1 hn hst,fun ρ σ G0 H0 G H d v Q P E r h k=>?_⟩
 unfold zpJ at h
 split at h
 ·simp only[Rep] at r
  obtain⟨a,xs,rfl,hq,rs⟩:=r
  exact⟨a,xs,rfl,(E.e.s.rdl hq).sq,by rw[rs.length];exact h.1,q1 ρ σ G0 H0 G H _ xs Q P E rs h.2 k⟩
 ·exact h.elim
end
section
variable {X:Cx} {pos:Pos} {e:Expr} {te:TD} {es:List Expr} {ts:TDa}
theorem zlu:bootBuiltins "set"=some (.type "set"):=by rfl
theorem RepF.look{K:PySem.W.Frag}{H:Hp}{f:Str}:∀{gs:List (Str×V)} {fs:List (Str×D)} {d:D},RepF K H gs fs→fs.lookup f=some d→∃v,gs.lookup f=some v∧Rep K H v d
 | [],[],d,_,h=>by simp at h
 | (x,v)::gs,(y,d')::fs,d,r,h=>by
  simp only[RepF] at r
  obtain⟨⟨rfl,r1⟩,r2⟩:=r
  rw[List.lookup_cons] at h ⊢
  cases hb:f==x with
  | true=>rw[hb] at h;cases h;exact⟨v,rfl,r1⟩
  | false=>rw[hb] at h;exact RepF.look r2 h
 | [],_::_,_,r,_=>by simp only[RepF] at r
 | _::_,[],_,r,_=>by simp only[RepF] at r
theorem zjv{f:Str}:∀{fs:List (Str×D)} {d:D},fs.lookup f=some d→∃p∈fs,p.1=f
 | [],d,h=>by simp at h
 | (y,d')::fs,d,h=>by
  rw[List.lookup_cons] at h
  cases hb:f==y with
  | true=>exact⟨(y,d'),by simp,(beq_iff_eq.mp hb).symm⟩
  | false=>
   rw[hb] at h
   obtain⟨p,h1,h2⟩:=zjv h
   exact⟨p,by simp[h1],h2⟩
noncomputable def zeX(f:Str)(te:TD):TD:=fun ρ Q=>te ρ fun r=>match r.val with
 | .obj _ fs=>∃d,fs.lookup f=some d∧Q (.fz d)
 | _=>False
theorem zbo{f:Str}(he:PD X e te)(hb:attributeBase e f X.env (eval e X.env)=eval e X.env:=by rfl):PD X (.Attribute e f pos) (zeX f te):=by
 obtain⟨t,p,q⟩:=he
 refine⟨_,znu p hb,fun ρ σ G0 H0 G H Q P E h k=>q ρ σ G0 H0 G H _ _ E h fun v H' r G' x rr hq=>?_⟩
 obtain⟨G2,x2,rv,_⟩:=rr.freeze x
 split at hq
 ·rename_i cn fs e1
  rw[e1] at rv
  simp only[Rep] at rv
  obtain⟨a,C,dx,gs,rfl,h1,h2,h3,h4⟩:=rv
  obtain⟨d,hd,hq⟩:=hq
  obtain⟨v,hv,rv⟩:=h4.look hd
  obtain⟨pr,hp,rfl⟩:=zjv hd
  exact⟨a,C,dx,gs,v,rfl,x2.s _ _ h1,h2.cls,h3 pr hp,hv,k _ _ _ G2 x2 (fzR rv) hq⟩
 ·exact hq.elim
end
noncomputable def ISp(K:PySem.W.Frag)(C:Addr)(n:Nat)(t:SpD):Sp:=fun vs H Q _=>∃x dx H1 G ds vs' Qr,vs=.ref x::vs'∧H=upd (upd H1 dx (.own x)) x (.ins C dx [])∧H1 x=none∧H1 dx=none∧dx≠x∧Same G H1∧Reps K G vs' ds∧ds.length=n∧t ds Qr∧
 ∀H' r G',Ext G H1 G' H'→RepR K G' H' H1 (.ref x) r→Qr r→Q .non H'
section
variable {P:Program} {w:World} {K:PySem.W.Frag} {mg:Str→Option Value} {base:Heap}
noncomputable def zeO(N:List Str)(ds:List D):Ev:=.un::(ds.map Sl.fz++List.replicate (N.length-1-ds.length) .un)
theorem zlv{G H:Hp}{N:List Str}{x:V}{vs:List V}{ds:List D}(s:Same G H)(r:Reps K G vs ds):EOk K G H (zeO N ds) (zb8 N (x::vs)) G H:=by
 have E:=zjr (N:=N.drop 1) s r
 have hl:=r.length
 have e1:zeO N ds=.un::zaF (N.drop 1) ds:=by simp[zeO,zaF]
 have e2:zb8 N (x::vs)=some x::zb8 (N.drop 1) vs:=by simp[zb8,Nat.sub_sub,Nat.add_comm]
 rw[e1,e2]
 refine⟨E.e,congrArg (·+1) E.len,fun i d h=>?_,fun i d h=>?_,fun i j d d' hij h h'=>?_,?_⟩
 ·cases i with
  | zero=>cases h
  | succ i=>exact E.fz i d h
 ·cases i with
  | zero=>cases h
  | succ i=>exact E.ow i d h
 ·cases i with
  | zero=>cases h
  | succ i=>
   cases j with
   | zero=>cases h'
   | succ j=>exact E.dj i j d d' (fun z=>hij (by rw[z])) h h'
 ·obtain⟨own,o1,o2⟩:=E.on
  refine⟨fun q=>(own q).map (·+1),fun i ds p h hp=>?_,fun i o h=>?_⟩
  ·cases i with
   | zero=>cases h
   | succ i=>
    dsimp only
    rw[o1 i ds p h hp];rfl
  ·cases i with
   | zero=>cases h
   | succ i=>
    obtain⟨p,fp,b1,b2,b3,b4⟩:=o2 i o h
    refine⟨p,fp,b1,b2,b3,fun q hq=>⟨(b4 q hq).1,(b4 q hq).2.1,?_⟩⟩
    dsimp only
    rw[(b4 q hq).2.2];rfl
theorem ziR(N:List Str)(ds:List D):∀i o,gt (zeO N ds) i≠.ov o:=by
 have key:∀(l:List Sl),(∀s∈l,∀o,s≠.ov o)→∀i o,gt l i≠.ov o:=by
  intro l
  induction l with
  | nil=>intro _ i o h;cases h
  | cons a r ih=>
   intro h i o
   cases i with
   | zero=>exact h a (by simp) o
   | succ i=>exact ih (fun s hs=>h s (by simp[hs])) i o
 refine key _ fun s hs o e=>?_
 subst e
 unfold zeO at hs
 simp at hs
structure KnownC (P:Program) (w:World) (K:PySem.W.Frag) (mg:Str→Option Value) (base:Heap) (k:Nat) (x:Str) (n:Nat) (t:SpD):Prop where
 ex:∃(C f:Addr) (fd:FuncData) (ps:List Str),Mk K C f∧FnOk P w K mg base CX0 k f fd ps (ISp K C n t)∧mg x=some (.ref C)∧Binds K fd ps []
end
section
variable {X:Cx} {k k' n:Nat} {t:SpD} {x:Str} {p pos:Pos} {e:Expr} {es:List Expr} {ts:TDa}
theorem zmY(C:KnownC X.prog X.w X.K X.mg X.base k x n t)(hr:Room k' X.A)(ha:PDa X (e::es) ts)(hk:k+1≤k':=by decide)(hg:Gl X x:=by rfl)(hdb:(x==("__debug__":Str))=false:=by decide)
  (he:starEach (e::es) X.env=(false,eval e X.env)::starEach es X.env:=by rfl) (hpl:(backTo pos (starEach es X.env)).any (·.1)=false:=by rfl):PD X (.Call (.Name x p) (e::es) [] pos) (zav n t ts):=by
 obtain⟨C,f,fd,ps,M,F,hm,hb⟩:=C.ex
 obtain⟨tt,pp,q⟩:=ha
 refine⟨_,zod M F (hr.mono hk) hg hm hb .nil zok pp hdb he hpl,fun ρ σ G0 H0 G H Q P E h k=>q ρ σ G0 H0 G H _ _ E h fun vs H' ds G' y rs hq=>?_⟩
 intro a dx ha hdx hne
 rw[List.append_nil]
 exact⟨a,dx,H',G',ds,vs,Q,rfl,rfl,ha,hdx,hne,y.s,rs,hq.1,hq.2,fun H2 r G2 x2 rr q2=>⟨rfl,k _ H2 r G2 (y.trans x2) (rr.older y.h) q2⟩⟩
end
end L2
namespace L2
open PySem PySem.Spec PyProof.Rows
noncomputable def NoAttrs(K:PySem.W.Frag)(C:Addr):List Str→Prop
 | []=>True
 | x::r=>NoAttr K C x∧NoAttrs K C r
theorem NoAttrs.all{K:PySem.W.Frag}{C:Addr}:∀{l:List Str},NoAttrs K C l→∀x∈l,NoAttr K C x
 | [],_,x,h=>by cases h
 | y::r,n,x,h=>by
  rcases List.mem_cons.mp h with rfl | h
  ·exact n.1
  ·exact NoAttrs.all n.2 x h
structure AtC (K:PySem.W.Frag) (mg:Str→Option Value) (cn qual:Str) (st:Stmt) (fields:List Str):Prop where
 ex:∃(C f:Addr) (fd:FuncData),ClsAt K cn C∧Mk K C f∧Fun K "__init__" qual st f fd∧mg cn=some (.ref C)∧NoAttrs K C fields
theorem atC_mk{K:PySem.W.Frag}{mg:Str→Option Value}{h:Heap}{cn qual:Str}{st:Stmt}{fields:List Str}{C f:Addr}{oc:Value}{od an:Option Addr}{osl:Array (Option Value)}{kV doc pm cdv ct:Value}(X:K.In h)(G:h.Ns mainGlobals mg)
  (aC:PySem.W.nsIn K mainGlobals cn=some (some (.ref C))) (a1:PySem.W.findIn K (.ref C) "__init__"=some (some (.ref f))) (i1:PySem.W.isFn K (.ref f)=true)
  (l1:K.lookup f=some ⟨oc,od,.func (PySem.W.fnOf "__init__" qual (defArgs st) (defBody st) (defScope st) .none kV doc pm an cdv ct),osl⟩) (c1:PySem.W.codeIn K cdv qual=true) (k1:PySem.W.keepIn K (.ref f)=true)
  (pg:PySem.W.plainGet K C Str.empty=true) (hd:PySem.W.hasDictIn K C=true) (po:PySem.W.plainOver K C=true) (sa:PySem.W.findIn K (.ref C) "__setattr__"=some (some (.builtin "object.__setattr__"))) (mk:PySem.W.makesIn K C=true) (kc:PySem.W.keepIn K (.ref C)=true)
  (nf:NoAttrs K C fields):AtC K mg cn qual st fields:=
 ⟨C,f,_,⟨aC,⟨pg,hd,po,sa⟩⟩,⟨mk,a1,i1,kc⟩,znA l1 c1 k1,PySem.W.mg_of X G aC,nf⟩
end L2
namespace L2
open PySem PySem.Spec PyProof.Rows
noncomputable def zcN:D→Bool
 | .non=>true
 | .bl _=>true
 | .int _=>true
 | .str _=>true
 | _=>false
noncomputable def zg3(i:Nat)(te:TD):TD:=fun ρ Q=>te (frz i ρ) fun r=>match r with
 | .fz d=>zcN d=true∧Q (.fz d)
 | _=>False
noncomputable def zlw(i:Nat)(t:TDb):TDb:=fun ρ Q=>t (frz i ρ) Q
theorem zdM{K:PySem.W.Frag}{G G':Hp}{v:V}{d:D}(h:zcN d=true)(r:Rep K G v d):Rep K G' v d:=by
 cases d<;>first | (simp only[Rep] at r ⊢;exact r) | cases h
noncomputable def zjw(G:Hp)(L:List Addr):Hp:=fun a=>if a∈L then none else G a
theorem zg4{G H G' H':Hp}{L:List Addr}(gp:∀q∈L,G q=none)(x:Ext (zj4 G H L) H G' H'):Ext G H (zjw G' L) H':=by
 refine⟨fun b u e=>?_,x.h,fun b u e=>?_,fun q h1 h2=>?_⟩
 ·have hb:b∉L:=fun z=>by rw[gp b z] at e;cases e
  unfold zjw
  rw[if_neg hb]
  exact x.g b u (by rw[zbA hb];exact e)
 ·unfold zjw at e
  split at e
  ·cases e
  ·exact x.s b u e
 ·unfold zjw
  split
  ·rfl
  ·rename_i hq
   exact x.n q (by rw[zbA hq];exact h1) h2
section
variable {X:Cx} {e:Expr} {te:TD} {t:TDb}
theorem EOk.lent{K:PySem.W.Frag}{G0 H0 G H:Hp}{ρ:Ev}{σ:St}(i:Nat)(E:EOk K G0 H0 ρ σ G H):∃G1,EOk K G0 H0 (frz i ρ) σ G1 H∧∀G' H',Ext G1 H G' H'→∃G2,Ext G H G2 H':=
 let⟨L,hL,E',_⟩:=E.freezeL i
 ⟨_,E',fun G' H' x=>⟨_,zg4 hL x⟩⟩
theorem zeb(i:Nat)(h:PD X e te):PD X e (zg3 i te):=by
 obtain⟨tt,p,q⟩:=h
 refine⟨tt,p,fun ρ σ G0 H0 G H Q P E h k=>?_⟩
 obtain⟨G1,E1,back⟩:=E.lent i
 refine q _ σ G0 H0 G1 H _ _ E1 h fun v H' r G' x rr hq=>?_
 split at hq
 ·rename_i d
  obtain⟨G2,x2⟩:=back G' H' x
  exact k v H' (.fz d) G2 x2 (zdM hq.1 rr) hq.2
 ·exact hq.elim
theorem zlx(i:Nat)(h:PB X e t):PB X e (zlw i t):=by
 obtain⟨tt,p,q⟩:=h
 refine⟨tt,p,fun ρ σ G0 H0 G H Q P E h k=>?_⟩
 obtain⟨G1,E1,back⟩:=E.lent i
 refine q _ σ G0 H0 G1 H _ _ E1 h fun b H' G' x hq=>?_
 obtain⟨G2,x2⟩:=back G' H' x
 exact k b H' G2 x2 hq
end
end L2
namespace L2
open PySem PySem.Spec PyProof.Rows
theorem zg5(t:SetTable)(n:Nat):(t.orStandIn n).led=t.led:=by
 unfold SetTable.orStandIn
 split<;>rfl
theorem zke(t:SetTable)(es:Array (Int×Value))(h:Int)(x:Value):(layNew t es h x).2.1.led=t.led:=by
 unfold layNew
 split
 ·exact zg5 _ _
 ·rfl
theorem zhZ{t t':SetTable}{hs:Array Int}{wanted:Nat}{order:Array Nat}(h:t.relaid hs wanted=some (t',order)):t'.led=t.led∧t'.plain=t.plain:=by
 unfold SetTable.relaid SetTable.laid at h
 cases hc:SetTable.layClean (SetTable.sizeAbove wanted-1) hs with
 | none=>rw[hc] at h;cases h
 | some owner=>
  rw[hc] at h
  cases h
  exact⟨rfl,rfl⟩
theorem zga(t:SetTable)(es:Array (Int×Value))(wanted:Nat)(hp:t.plain=false):(relayAll t es wanted).2.1.led=t.led∧(relayAll t es wanted).2.1.plain=false:=by
 unfold relayAll
 split
 ·rename_i t' order hr
  obtain⟨h1,h2⟩:=zhZ hr
  dsimp only
  split
  ·exact⟨h1,h2.trans hp⟩
  ·exact⟨rfl,rfl⟩
 ·exact⟨rfl,rfl⟩
section
variable {prog:Program} {w:World} {A:Around} {E:Value→Shared→Prop} {s:Shared}
structure Marks (w:World) (es:Array (Int×Value)) (t:SetTable):Prop where
 led:t.led=!(w.params.followText "set-order")
 plain:es.size=0∨t.plain=false
structure SetAt (prog:Program) (w:World) (h:Heap) (a:Addr) (es:Array (Int×Value)) (ep:Nat) (t:SetTable):Prop where
 at_:h.get? a=some { cls:=.type "set",dict:=none,data:=.set es ep t,slots:=#[] }
 el:ElemsOf (strKind prog w) es.toList
 small:es.size<scanBound
 fits:t.fits es.size=true
 marks:Marks w es t
noncomputable def Mem(prog:Program)(w:World)(es:Array (Int×Value))(k:Str):Prop:=∃e∈es.toList,(strKind prog w).is k e.2=true
theorem zh0{a:Addr}{es es':Array (Int×Value)}{ep:Nat}{t t':SetTable}{Q:Unit→Shared→Prop}(ho:s.heap.get? a=some { cls:=.type "set",dict:=none,data:=.set es ep t,slots:=#[] })(hb:es'.size<scanBound)
  (h:∀h',Heap.SameBut a s.heap h'→h'.get? a=some { cls:=.type "set",dict:=none,data:=.set es' (ep+1) t',slots:=#[] }→Q () { s with heap:=h' }):wpAny (model prog w) A (storeSet a es' t') Q E s:=by
 refine wpAny_storeSet_of ho rfl ?_ (fits_of_scanBound hb)
 refine h _ (Heap.SameBut.update s.heap a (Obj.putSet es' t')) ?_
 have:=Heap.get?_update_self (Obj.putSet es' t') ho (by rw[putSet_of es' t' (ep:=ep) (t:=t) (es:=es) rfl];rfl)
 rw[putSet_of es' t' (ep:=ep) (t:=t) (es:=es) rfl] at this
 exact this
theorem zoz{a:Addr}{es:Array (Int×Value)}{ep:Nat}{t:SetTable}{x:Str}{tk:Tok}{Q:Bool→Shared→Prop}(S:SetAt prog w s.heap a es ep t)(room:es.size+1<scanBound)
  (h:∀h' es' ep' t',Heap.SameBut a s.heap h'→SetAt prog w h' a es' ep' t'→((es'=es∧Mem prog w es x)∨(¬Mem prog w es x∧List.Perm es'.toList (es.toList++[(hashStr w x,.str x tk)])))→∀b,Q b { s with heap:=h' }) :
  wpAny (model prog w) A (setAddHashed a (.str x tk) ((strKind prog w).hash x)) Q E s:=by
 have hkey:(strKind prog w).is x (.str x tk)=true:=by show Value.isStrOf x (.str x tk)=true;simp[Value.isStrOf]
 have hsc:(Value.str x tk).scannable=true:=rfl
 have ho:=S.at_
 unfold setAddHashed setAddHashedIn
 refine wpAny_holding (wpAny_bind (wpAny_setState_of ho rfl S.fits ?_))
 dsimp only
 rw[byScan_of hsc S.small S.el]
 simp only[↓reduceIte]
 unfold setAddByScan
 refine wpAny_bind (wpAny_bind (wpAny_rule (wpAny_bind (wpAny_setScan_of hkey ho rfl S.fits S.el ?_))))
 cases hr:List.findIdx? (fun e=>(strKind prog w).is x e.2) es.toList with
 | some j=>
  dsimp only
  obtain⟨hj,hpj,_⟩:=List.findIdx?_eq_some_iff_getElem.mp hr
  refine wpAny_pure (wpAny_pure ?_)
  exact h s.heap es ep t (Heap.SameBut.refl a s.heap) S (.inl ⟨rfl,es.toList[j],List.getElem_mem hj,hpj⟩) _
 | none=>
  dsimp only
  have hno:¬Mem prog w es x:=fun⟨e,he,hp⟩=>by
   have:=List.findIdx?_eq_none_iff.mp hr e he
   rw[hp] at this
   cases this
  have way:∀(b:Bool) {s1:Shared} {Q':Unit→Shared→Prop},Q' () s1→wpAny (model prog w) A (match b with | true=>rule "set.scan.the-table-gave-way" | false=>pure ()) Q' E s1:=fun b s1 Q' q=>by
   cases b
   ·exact wpAny_pure q
   ·exact wpAny_rule q
  have hperm:=layNew_perm t es ((strKind prog w).hash x) (.str x tk)
  have hfits:=layNew_fits t es ((strKind prog w).hash x) (.str x tk)
  have hled:=zke t es ((strKind prog w).hash x) (.str x tk)
  generalize layNew t es ((strKind prog w).hash x) (.str x tk)=L at hperm hfits hled ⊢
  obtain⟨es1,t1,dum,gave⟩:=L
  dsimp only at hperm hfits hled ⊢
  rw[Array.toList_push] at hperm
  have hel1:ElemsOf (strKind prog w) es1.toList:=(S.el.push hkey hsc).perm hperm
  have hsz:es1.size=es.size+1:=by rw[←Array.length_toList,hperm.length_eq,List.length_append,Array.length_toList];rfl
  have hb1:es1.size<scanBound:=by omega
  refine wpAny_bind (way _ ?_)
  -- the table,not plain any more
  have tail:∀(g:Bool→Sem Unit),(∀(b:Bool) (s1:Shared) (Q':Unit→Shared→Prop),Q' () s1→wpAny (model prog w) A (g b) Q' E s1)→∀t2:SetTable,t2.fits es1.size=true→t2.led=t.led→t2.plain=false→wpAny (model prog w) A (do
    storeSet a es1 t2
    if (!dum&&t2.tooFull)=true then do
        g (relayAll t2 es1 (SetTable.grown es1.size)).2.2
        storeSet a (relayAll t2 es1 (SetTable.grown es1.size)).1 (relayAll t2 es1 (SetTable.grown es1.size)).2.1
        pure (some true)
     else pure (some true)) (fun r s'=>wpAny (model prog w) A (match r with | some added=>pure added | none=>setAddHashedIn a (Value.str x tk) ((strKind prog w).hash x) 99999) Q E s') E s:=by
   intro g hg t2 f2 l2 p2
   refine wpAny_bind (zh0 ho hb1 fun h1 sb1 g1=>?_)
   have fin1:∀b,Q b { s with heap:=h1 }:=h h1 es1 _ t2 sb1 ⟨g1,hel1,hb1,f2,⟨l2.trans S.marks.led,.inr p2⟩⟩ (.inr ⟨hno,hperm⟩)
   split
   ·have hp:=relayAll_perm t2 es1 (SetTable.grown es1.size)
    have hfr:=relayAll_fits t2 es1 (SetTable.grown es1.size)
    have hmk:=zga t2 es1 (SetTable.grown es1.size) p2
    generalize relayAll t2 es1 (SetTable.grown es1.size)=Rl at hp hfr hmk ⊢
    obtain⟨es2,t3,gave2⟩:=Rl
    dsimp only at hp hfr hmk ⊢
    have hs2:es2.size=es1.size:=by rw[←Array.length_toList,hp.length_eq,Array.length_toList]
    refine wpAny_bind (hg _ _ _ ?_)
    refine wpAny_bind (zh0 (s:={ s with heap:=h1 }) g1 (by rw[hs2];exact hb1) fun h2 sb2 g2=>wpAny_pure (wpAny_pure ?_))
    exact h h2 es2 _ t3 (sb1.trans sb2) ⟨g2,hel1.perm hp,by rw[hs2];exact hb1,hfr,⟨(hmk.1.trans l2).trans S.marks.led,.inr hmk.2⟩⟩ (.inr ⟨hno,hp.trans hperm⟩) _
   ·exact wpAny_pure (wpAny_pure (fin1 _))
  by_cases hpl:t1.plain=true
  ·rw[if_pos hpl]
   refine wpAny_bind ?_
   rw[hashByValue_scannable 8 hsc]
   refine wpAny_pure ?_
   have hk:plainKind (.str x tk)=false:=rfl
   rw[hk]
   simp only[Bool.false_eq_true,if_false]
   exact tail _ (fun b s1 Q' q=>by cases b<;>first | exact wpAny_pure q | exact wpAny_rule q) { t1 with plain:=false } (SetTable.fits_plain_off hfits) hled rfl
  ·rw[if_neg hpl]
   refine wpAny_bind (wpAny_pure ?_)
   simp only[if_true]
   exact tail _ (fun b s1 Q' q=>by cases b<;>first | exact wpAny_pure q | exact wpAny_rule q) t1 hfits hled (by simpa using hpl)
noncomputable def keysOf(es:Array (Int×Value)):List Str:=es.toList.map fun e=>strOf e.2
theorem zjx{es:Array (Int×Value)}(el:ElemsOf (strKind prog w) es.toList)(k:Str):Mem prog w es k↔k∈keysOf es:=by
 unfold Mem keysOf
 rw[List.mem_map]
 constructor
 ·rintro⟨e,he,hk⟩
  obtain⟨t,ht⟩:=Value.isStrOf_shape hk
  exact⟨e,he,by rw[ht];rfl⟩
 ·rintro⟨e,he,rfl⟩
  obtain⟨⟨k,hk,_⟩,_⟩:=el e he
  obtain⟨t,ht⟩:=Value.isStrOf_shape hk
  refine⟨e,he,?_⟩
  rw[ht]
  show Value.isStrOf k (.str k t)=true
  simp[Value.isStrOf]
theorem zly{es es':Array (Int×Value)}{x:Str}{tk:Tok}{hs:Int}(p:List.Perm es'.toList (es.toList++[(hs,.str x tk)])):List.Perm (keysOf es') (keysOf es++[x]):=by
 have:=p.map fun e=>strOf e.2
 rw[List.map_append] at this
 exact this
structure Holds (es:Array (Int×Value)) (xs:List Str):Prop where
 nd:(keysOf es).Nodup
 mem:∀x,x∈keysOf es↔x∈xs
 len:es.size≤xs.length
theorem Holds.put{es es':Array (Int×Value)}{xs:List Str}{x:Str}{tk:Tok}(H:Holds es xs)(el:ElemsOf (strKind prog w) es.toList)
  (h:(es'=es∧Mem prog w es x)∨(¬Mem prog w es x∧List.Perm es'.toList (es.toList++[(hashStr w x,.str x tk)]))):Holds es' (xs++[x]):=by
 rcases h with⟨rfl,hm⟩ | ⟨hm,hp⟩
 ·refine⟨H.nd,fun y=>?_,by simp;have:=H.len;omega⟩
  rw[List.mem_append,←H.mem,List.mem_singleton]
  constructor
  ·exact .inl
  ·rintro(h | rfl)
   ·exact h
   ·exact(zjx el _).mp hm
 ·have hk:=zly hp
  refine⟨hk.nodup_iff.mpr ?_,fun y=>?_,?_⟩
  ·rw[List.nodup_append]
   refine⟨H.nd,by simp,fun a ha b hb=>?_⟩
   rw[List.mem_singleton.mp hb]
   rintro rfl
   exact hm ((zjx el _).mpr ha)
  ·rw[hk.mem_iff,List.mem_append,List.mem_append,H.mem]
  ·have e1:=hk.length_eq
   have e2:(keysOf es').length=es'.size:=by simp[keysOf]
   have e3:(keysOf es).length=es.size:=by simp[keysOf]
   have:=H.len
   simp only[List.length_append,List.length_cons,List.length_nil] at e1 ⊢
   omega
theorem SetAt.kept{h h':Heap}{a:Addr}{es:Array (Int×Value)}{ep:Nat}{t:SetTable}(S:SetAt prog w h a es ep t)(k:∀o,h.get? a=some o→h'.get? a=some o):SetAt prog w h' a es ep t:=⟨k _ S.at_,S.el,S.small,S.fits,S.marks⟩
end
section
variable {prog:Program} {w:World} {A:Around} {R:Result→Shared→Prop} {I:Addr} {fp wr:List Addr} {G:Array GenState→Array GenState→Prop} {n:Nat} {P:Nat→Value→Prop} {St:Nat→Shared→Prop}
theorem zlz(W:WalksS prog w A.in1 I fp wr G n P St)(S:Addr)(hSf:S∉fp)(xs:List Str)(hx:xs.length=n)(hval:∀i v,P i v→∃x t,xs[i]?=some x∧v=.str x t)(hb:n+1<scanBound) :
  ∀(k i:Nat) (s:Shared) (es:Array (Int×Value)) (ep:Nat) (t:SetTable),n-i=k→i≤n→St i s→SetAt prog w s.heap S es ep t→Holds es (xs.take i)→
   (∀s' es' ep' t',Moved (S::wr) G s s'→SetAt prog w s'.heap S es' ep' t'→Holds es' xs→R (.ok (.ret .none)) s')→codeAny (model prog w) A (.builtin "set.update.loop" ⟨[.ref S,.ref I],[]⟩) R s:=by
 have offW:S∉wr:=fun h=>hSf (W.sub _ h)
 have more:∀b∈wr,b∈S::wr:=fun b hb=>List.mem_cons_of_mem _ hb
 intro k
 induction k with
 | zero=>
  intro i s es ep t hk hi st T H q
  have e:i=n:=by omega
  subst e
  refine codeAny_builtin PyProof.Rows.F.entry_set_update_loop ?_
  rw[Around.under_plainId PyProof.Rows.F.plain_set_update_loop _]
  show wpAny _ A.in1 (pyNext (.ref I) >>= _) _ _ s
  refine wpAny_bind (W.done s _ _ st fun s' hm=>?_)
  show wpAny _ A.in1 (ret Value.none) _ _ s'
  rw[←hx,List.take_length] at H
  exact wpAny_pure (q s' es ep t (hm.mono more) (T.kept fun o e=>hm.heap S _ offW e) H)
 | succ k ih=>
  intro i s es ep t hk hi st T H q
  have hlt:i<n:=by omega
  refine codeAny_builtin PyProof.Rows.F.entry_set_update_loop ?_
  rw[Around.under_plainId PyProof.Rows.F.plain_set_update_loop _]
  show wpAny _ A.in1 (pyNext (.ref I) >>= _) _ _ s
  refine wpAny_bind (W.item i s _ _ hlt st fun v s' hP st' hm=>?_)
  obtain⟨x,tk,hxi,rfl⟩:=hval i v hP
  have T':SetAt prog w s'.heap S es ep t:=T.kept fun o e=>hm.heap S _ offW e
  show wpAny _ A.in1 (holding [Value.str x tk] (setAdd S (.str x tk)) >>= _) _ _ s'
  refine wpAny_bind (wpAny_holding ?_)
  unfold setAdd
  refine wpAny_holding (wpAny_bind ((strKind prog w).pyHash (k:=x) (by show Value.isStrOf x (.str x tk)=true;simp[Value.isStrOf]) ?_))
  have hl:=H.len
  rw[List.length_take] at hl
  refine zoz (s:={ s' with toks:=s'.toks+1 }) T' (by omega) fun h' es' ep' t' sb T2 hput b=>?_
  have tk1:xs.take (i+1)=xs.take i++[x]:=by rw[List.take_add_one,hxi];rfl
  have H2:Holds es' (xs.take (i+1)):=by rw[tk1];exact H.put T.el hput
  refine wpAny_pure ⟨plainId_quiet PyProof.Rows.F.plain_set_update_loop _,ih (i+1) _ es' ep' t' (by omega) hlt (W.frame _ s' _ _ st' (Nat.le_succ _) fun b hb o e=>?_) T2 H2 fun s2 es2 ep2 t2 hm2 T3 H3=>?_⟩
  ·rw[sb.2 b (fun z:b=S=>hSf (by rw[←z];exact hb))];exact e
  ·refine q s2 es2 ep2 t2 (Moved.trans W.gtrans ((hm.mono more).then_heap (Nat.le_succ _) fun b o hb e=>?_) hm2) T3 H3
   rw[sb.2 b (fun z:b=S=>hb (by rw[z];exact List.mem_cons_self))];exact e
end
end L2
namespace L2
open PySem PySem.Spec PyProof.Rows
section
variable {prog:Program} {w:World} {A:Around} {E:Value→Shared→Prop} {s:Shared}
noncomputable abbrev zb1(w:World):Obj:={ cls:=.type "set",dict:=none,data:=.set #[] 0 (.fresh 0 0 (!(w.params.followText "set-order"))) }
theorem zmZ(a:Value){Q1:Value→Shared→Prop}(h:Q1 (.ref s.heap.objs.size) { s with heap:=s.heap.push (zb1 w) }) :
  codeAny (model prog w) A (.call (.builtin "set.__new__") ⟨[.type "set",a],[]⟩) (wants Q1 E) s:=by
 refine codeAny_of_tree ?_
 show wpAny _ A.in1 (do checkBuiltinCall "set.__new__" ⟨[.type "set",a],[]⟩;again (.builtin "set.__new__" ⟨[.type "set",a],[]⟩)) _ _ s
 refine wpAny_bind (wpAny_of_eq (PySem.F.newCall_set_1 a) (wpAny_pure ⟨plainId_quiet PySem.F.plain_set_new _,codeAny_builtin PySem.F.entry_set_new ?_⟩))
 rw[Around.under_plainId PySem.F.plain_set_new _]
 unfold Builtin.«set.__new__» Builtin.Frozenset.newClass
 have hsub:=PySem.sub_set_self
 obtain⟨hp,g,d,tk,os⟩:=s
 dsimp only
 wp_walk
 refine wpAny_askSetting (wpAny_pure ?_)
 dsimp only
 simp only[newObj]
 refine wpAny_bind (wpAny_alloc (wpAny_pure ?_))
 exact wpAny_pure h
theorem zoA{h:Heap}{a:Addr}(e:h.get? a=some (zb1 w)):SetAt prog w h a #[] 0 (.fresh 0 0 (!(w.params.followText "set-order"))):=
 ⟨e,fun x hx=>by simp at hx,by show 0<4096;decide,by simp[SetTable.fits,SetTable.fresh,SetTable.fill],⟨rfl,.inl rfl⟩⟩
theorem zlA{l:Addr}{items:List Value}{xs:List Str}{Q:Value→Shared→Prop}(hh:A.handled=none)(hl:s.heap.IsList l items.toArray)(hi:StrsAre items xs)(hb:xs.length+1<scanBound)
  (h:∀(h':Heap) (tk:Nat) es ep t,SetAt prog w h' s.heap.objs.size es ep t→L2.Holds es xs→(∀b o,b<s.heap.objs.size→s.heap.get? b=some o→h'.get? b=some o)→Q (.ref s.heap.objs.size) { s with heap:=h',toks:=tk }) :
  wpAny (model prog w) A (call (.type "set") [.ref l]) Q E s:=by
 obtain⟨c,tl,hmro⟩:=PySem.F.called_set.mro
 have hmade:=PySem.F.called_set.made
 have hsub:=PySem.F.called_set.sub
 refine wpAny_call (codeAny_of_tree ?_)
 show wpAny _ _ (callAny (.type "set") _) _ _ _
 refine wpAny_pure ⟨Code.quiet_builtin _ (by decide +kernel),codeAny_builtin PySem.F.entry_type_call ?_⟩
 rw[Around.under_plain (weight_type_call_type "set" [.ref l] []) rfl]
 have h1:=PySem.F.called_set.notType
 have h2:=PySem.F.called_set.canCreate
 have hct:=PySem.F.typeCall_set_1 (.ref l)
 repeat(any_goals (first | assumption | wp_step))
 refine codeAny_mono (zmZ (.ref l) (E:=E) (Q1:=fun obj s1=>obj=.ref s.heap.objs.size∧s1={ s with heap:=s.heap.push (zb1 w) }) ⟨rfl,rfl⟩) fun r s1 hr=>?_
 cases r with
 | error e=>exact hr
 | ok fl=>
  cases fl with
  | ret obj=>
   obtain⟨rfl,rfl⟩:=hr
   have hS:(s.heap.push (zb1 w)).get? s.heap.objs.size=some (zb1 w):=Heap.get?_push_size _ rfl
   have hT:Shared.TypeIs { s with heap:=s.heap.push (zb1 w) } (.ref s.heap.objs.size) "set":=⟨_,hS,rfl⟩
   have hli:=PySem.F.called_set.init.lookup
   have hbi:=PySem.F.called_set.init.bind (.ref s.heap.objs.size)
   repeat(any_goals (first | assumption | wp_step))
   refine codeAny_mono (codeAny_call_builtin (R:=wants (fun r s2=>r=.none∧∃h' tk es ep t,s2={ s with heap:=h',toks:=tk }∧SetAt prog w h' s.heap.objs.size es ep t∧L2.Holds es xs∧
     (∀b o,b<s.heap.objs.size→s.heap.get? b=some o→h'.get? b=some o)) E) PySem.F.called_set.init.plain PySem.F.entry_set_init (check_set_init_1 hT ?_)) fun r2 s2 hr2=>?_
   ·obtain⟨ol,hol,hcl,nl,hdl⟩:=hl
    obtain⟨ocls,odict,odata,oslots⟩:=ol
    simp only at hcl hdl
    subst hcl hdl
    have hol':(s.heap.push (zb1 w)).get? l=some { cls:=.type "list",dict:=odict,data:=.seq items.toArray nl,slots:=oslots }:=Heap.get?_push_of_some _ hol
    have hsls:=PySem.F.sub_list_set
    have hslf:=PySem.F.sub_list_frozenset
    have hne:(Value.type "list"==Value.type "dict")=false:=by decide
    have hl1:(s.heap.push (zb1 w)).IsList l items.toArray:=⟨_,hol',rfl,nl,rfl⟩
    unfold Builtin.«set.__init__» noKeywords Builtin.Frozenset.updateFrom
    generalize hPI:pyIter=PI
    wp_walk
    subst hPI
    refine wpAny_pyIter_list hl1 (wpAny_bind (wpAny_runValue ?_))
    have hlS:l<s.heap.objs.size:=Heap.lt_size hol
    have hh3:A.in1.in1.in1.handled=none:=by simp[hh]
    have hsz:(s.heap.push (zb1 w)).objs.size=s.heap.objs.size+1:=Heap.size_push ..
    have hneI:l≠(s.heap.push (zb1 w)).objs.size:=by rw[hsz];exact Nat.ne_of_lt (Nat.lt_succ_of_lt hlS)
    have hSf:s.heap.objs.size∉[(s.heap.push (zb1 w)).objs.size,l]:=by
     rw[hsz]
     simp only[List.mem_cons,List.not_mem_nil,or_false,not_or]
     exact⟨Nat.ne_of_lt (Nat.lt_succ_self _),Nat.ne_of_gt hlS⟩
    have hxn:xs.length=items.toArray.size:=by
     rw[List.size_toArray]
     clear hol hol' hl1 h hb
     induction hi with
     | nil=>rfl
     | cons _ _ _ ih=>simp[ih]
    have hval:∀(i:Nat) (v:Value),items.toArray[i]?=some v→∃x t,xs[i]?=some x∧v=.str x t:=fun i v hv=>by
     rw[List.getElem?_toArray] at hv
     clear hol hol' hl1 h hb hxn
     induction hi generalizing i with
     | nil=>simp at hv
     | cons x t hr ih=>
      cases i with
      | zero=>simp at hv;exact⟨x,t,rfl,hv.symm⟩
      | succ i=>simp only[List.getElem?_cons_succ] at hv ⊢;exact ih i hv
    refine zlz ((Walks.list hh3 _ l hneI items.toArray).toS) s.heap.objs.size hSf xs hxn hval (by omega) (items.toArray.size-0) 0 _ #[] 0 _ (by omega) (Nat.zero_le _)
     ⟨⟨_,Heap.get?_push_size _ rfl,rfl,rfl⟩,(hl1.push _)⟩ (zoA (Heap.get?_push_of_some _ hS)) ⟨by simp[keysOf],by simp[keysOf],by simp⟩ ?hR
    case hR=>
     intro s' es ep t hm T H
     obtain⟨h',g',d',tk',os'⟩:=s'
     have eg:g'=s.gens:=hm.gens
     have ed:d'=s.drawn:=hm.drawn
     have eo:os'=s.os:=hm.os
     subst eg ed eo
     show wpAny _ _ _ _ _ _
     refine wpAny_pure ?_
     show wpAny _ _ (ret Value.none) _ _ _
     refine wpAny_pure ⟨rfl,h',tk',es,ep,t,rfl,T,H,fun b o hb e=>?_⟩
     refine hm.heap b o ?_ (Heap.get?_push_of_some _ (Heap.get?_push_of_some _ e))
     rw[hsz]
     simp only[List.mem_cons,List.not_mem_nil,or_false,not_or]
     exact⟨Nat.ne_of_lt hb,Nat.ne_of_lt (Nat.lt_succ_of_lt hb)⟩
   ·cases r2 with
    | error e=>exact hr2
    | ok fl2=>
     cases fl2 with
     | ret r=>
      obtain⟨rfl,h',tk,es,ep,t,rfl,T,H,hk'⟩:=hr2
      repeat(any_goals (first | assumption | wp_step))
      exact h _ _ es ep t T H hk'
     | _=>exact hr2.elim
  | _=>exact hr.elim
end
end L2
namespace L2
open PySem PySem.Spec PyProof.Rows
end L2
namespace L2
open PySem PySem.Spec PyProof.Rows
end L2
namespace L2
open PySem PySem.Spec PyProof.Rows
end L2
namespace L2
open PySem PySem.Spec PyProof.Rows
end L2
namespace L2
open PySem PySem.Spec PyProof.Rows
section
variable {X:Cx} {pos:Pos} {e i':Expr} {te ti:TD}
noncomputable def zrt(i:Nat):TX:=fun D ρ=>match gt ρ i with
 | .ow _=>D.nx (ρ.set i (.ow []))
 | _=>False
noncomputable def znJ(i:Nat)(te:TD):TX:=fun D ρ=>match gt ρ i with
 | .ow ds=>te ρ fun r=>match r with
  | .ow es=>ds.length+es.length≤sizeLine∧D.nx (ρ.set i (.ow (ds++es)))
  | _=>False
 | _=>False
theorem zjy(i:Nat){x:Str}{p1 p2 pos':Pos}(he:PD X e te)(hN:X.N[i]?=some x:=by rfl)(hv:Vis X.env.scope x:=by first | exact Or.inl rfl | exact Or.inr (Or.inl rfl) | exact Or.inr (Or.inr rfl))(hd:(x==("__debug__":Str))=false:=by decide)(hcd:(x==("__classdict__":Str))=false:=by decide)
  (hst:starEach [e] X.env=(false,eval e X.env)::starEach [] X.env:=by rfl)
  (hb:∀{ta:TE} {t:TA},PE X (.Name x p1) ta→PA X [e] t→PE X (.Call (.Attribute (.Name x p1) "extend" p2) [e] [] pos') (tBM X.K "list" zkS ta t):=by intro ta t h1 h2;exact zkR PySem.F.plainAttrs_list PySem.F.slot_list_extend PySem.F.type_list_extend zkT h1 h2) :
  PX X (.Expr (.Call (.Attribute (.Name x p1) "extend" p2) [e] [] pos') pos) (znJ i te):=by
 obtain⟨t,p,q⟩:=he
 refine⟨_,zd2 (hb (zbY hN hv hd hcd) (zbp p zcE hst)),fun ρ σ G0 H0 G H D E k h g=>?_⟩
 unfold znJ at h
 split at h
 ·rename_i ds hg
  obtain⟨a,xs,h1,h2,h3,h4,h5⟩:=k.ow i ds hg
  refine⟨_,h1,.inl ⟨rfl,xs,SqL.of h2⟩,q ρ σ G0 H0 G H _ _ k h fun v H' r G' x1 rr hq=>?_⟩
  split at hq
  ·rename_i es
   obtain⟨b,zs,rfl,b1,b2,b3,b4⟩:=rr
   have k2:=k.ext x1
   refine⟨a,b,xs,zs,rfl,rfl,x1.h _ _ h2,b3,by rw[h5.length,b4.length];exact hq.1,?_⟩
   exact g.nx _ _ G' _ x1.g (k2.change hg h1 ((h5.mono x1.g).append b4)) hq.2
  ·exact hq.elim
 ·exact h.elim
noncomputable def zjz:TX:=fun _ _=>False
theorem zm0{st:Stmt}:PX X st zjz:=⟨_,zms,fun _ _ _ _ _ _ _ _ _ h _=>h.elim⟩
end
end L2
namespace L2
open PySem PySem.Spec PyProof.Rows
structure M2 (X:Cx) (o:Expr) (m:Str) (apos:Pos) (e f:Expr) (cpos:Pos):Prop where
 base:attributeBase o m X.env (eval o X.env)=eval o X.env
 few:((backTo cpos (starEach [e,f] X.env)).all (fun x=>!x.1)&&(backToKw cpos (keywordEach [] X.env)).all (fun x=>x.1.isSome)
  && decide (([e,f]:List Expr).length+([]:List Keyword).length+(if ([]:List Keyword).isEmpty then 0 else 1)<30))=true
 line:(apos.endLine==cpos.line)=true
 trees:backTo cpos (starEach [e,f] X.env)=[(false,eval e X.env),(false,eval f X.env)]
end L2
namespace PySem
open Sem (wp)
end PySem
namespace PySem
open Sem (wp)
end PySem
namespace PySem
open Sem (wp)
end PySem
namespace L2
open PySem PySem.Spec PyProof.Rows
noncomputable def zru:D→Option Key
 | .int i=>some (.inl i)
 | .str x=>some (.inr x)
 | _=>none
noncomputable def look(kvs:List (Key×D))(k:Key):Option D:=(kvs.find? fun kv=>decide (kv.1=k)).map (·.2)
section
variable {K:PySem.W.Frag} {G:Hp}
theorem RepK.nil:RepK K G [] []:=by simp only[RepK]
end
section
variable {X:Cx} {pos:Pos} {e i':Expr} {te ti tv:TD}
noncomputable def zrR(i:Nat)(ti:TD):TD:=fun ρ Q=>match gt ρ i with
 | .ov (.dc kvs)=>ti ρ fun rk=>∃k d,zru rk.val=some k∧look kvs k=some d∧Q (.fz d)
 | _=>False
noncomputable def zkf(i:Nat):TX:=fun D ρ=>match gt ρ i with
 | .ov o=>D.rt (.ov o)
 | _=>False
theorem zlB(i:Nat){x:Str}{p':Pos}(hN:X.N[i]?=some x:=by rfl)(hv:Vis X.env.scope x:=by first | exact Or.inl rfl | exact Or.inr (Or.inl rfl) | exact Or.inr (Or.inr rfl))(hd:(x==("__debug__":Str))=false:=by decide)
  (hcd:(x==("__classdict__":Str))=false:=by decide):PX X (.Return (some (.Name x p')) pos) (zkf i):=by
 refine⟨_,zhA (zbY hN hv hd hcd),fun ρ σ G0 H0 G H D E k h g=>?_⟩
 unfold zkf at h
 split at h
 ·rename_i o hg
  obtain⟨own,o1,o2⟩:=k.on
  obtain⟨a,fp,b1,b2,b3,b4⟩:=o2 i _ hg
  exact⟨_,b1,g.rt _ H (.ov o) G k.e ⟨a,fp,rfl,b2,b3,fun q hq=>⟨(b4 q hq).2.1,(b4 q hq).1⟩⟩ h⟩
 ·exact h.elim
end
end L2
namespace L2
open PySem PySem.Spec PyProof.Rows
section
variable {K:PySem.W.Frag} {G H:Hp}
theorem RepL.length:∀{qs:List Addr} {dss:List (List D)},RepL K G H qs dss→qs.length=dss.length
 | [],[],_=>rfl
 | q::qs,ds::dss,h=>by
  simp only[RepL] at h
  simp only[List.length_cons,RepL.length h.2]
 | [],_::_,h=>by simp only[RepL] at h
 | _::_,[],h=>by simp only[RepL] at h
theorem RepL.snoc{p:Addr}{ds:List D}{zs:List V}:∀{qs:List Addr} {dss:List (List D)},RepL K G H qs dss→H p=some (.lst zs)→Reps K G zs ds→RepL K G H (qs++[p]) (dss++[ds])
 | [],[],_,h1,h2=>by simp only[List.nil_append,RepL];exact⟨⟨zs,h1,h2⟩,trivial⟩
 | q::qs,es::dss,h,h1,h2=>by
  simp only[RepL] at h
  simp only[List.cons_append,RepL]
  exact⟨h.1,RepL.snoc h.2 h1 h2⟩
 | [],_::_,h,_,_=>by simp only[RepL] at h
 | _::_,[],h,_,_=>by simp only[RepL] at h
theorem RepL.get:∀{qs:List Addr} {dss:List (List D)} {j:Nat} {ds:List D},RepL K G H qs dss→dss[j]?=some ds→∃q xs,qs[j]?=some q∧H q=some (.lst xs)∧Reps K G xs ds
 | [],[],j,ds,_,e=>by simp at e
 | q::qs,es::dss,0,ds,h,e=>by
  simp only[RepL] at h
  simp only[List.getElem?_cons_zero,Option.some.injEq] at e
  subst e
  obtain⟨⟨xs,h1,h2⟩,_⟩:=h
  exact⟨q,xs,rfl,h1,h2⟩
 | q::qs,es::dss,j+1,ds,h,e=>by
  simp only[RepL] at h
  simp only[List.getElem?_cons_succ] at e ⊢
  exact RepL.get h.2 e
 | [],_::_,_,_,h,_=>by simp only[RepL] at h
 | _::_,[],_,_,h,_=>by simp only[RepL] at h
theorem RepL.set{q:Addr}{ys:List V}{es:List D}(hy:Reps K G ys es):∀{qs:List Addr} {dss:List (List D)} {j:Nat},RepL K G H qs dss→qs.Nodup→qs[j]?=some q→RepL K G (upd H q (.lst ys)) qs (dss.set j es)
 | [],[],j,_,_,e=>by simp at e
 | r::qs,ds::dss,0,h,nd,e=>by
  simp only[RepL] at h
  simp only[List.getElem?_cons_zero,Option.some.injEq] at e
  subst e
  simp only[List.set_cons_zero,RepL]
  refine⟨⟨ys,zaq,hy⟩,h.2.mono (Same.refl _) fun p hp xs e=>?_⟩
  rw[zal (fun z:p=r=>(List.nodup_cons.mp nd).1 (z▸hp))]
  exact e
 | r::qs,ds::dss,j+1,h,nd,e=>by
  simp only[RepL] at h
  simp only[List.getElem?_cons_succ] at e
  simp only[List.set_cons_succ,RepL]
  refine⟨?_,RepL.set hy h.2 (List.nodup_cons.mp nd).2 e⟩
  obtain⟨⟨xs,h1,h2⟩,_⟩:=h
  refine⟨xs,?_,h2⟩
  rw[zal (fun z:r=q=>(List.nodup_cons.mp nd).1 (z▸List.mem_of_getElem? e))]
  exact h1
 | [],_::_,_,h,_,_=>by simp only[RepL] at h
 | _::_,[],_,h,_,_=>by simp only[RepL] at h
end
section
variable {X:Cx} {pos:Pos} {e i':Expr} {te ti:TD}
noncomputable def zkg(i:Nat)(ti te:TD):TX:=fun D ρ=>match gt ρ i with
 | .ov (.ll dss)=>ti ρ fun rk=>match rk.val with
  | .int k=>∃j ds,ixN dss.length k=some j∧dss[j]?=some ds∧te ρ fun r=>ds.length<sizeLine∧D.nx (ρ.set i (.ov (.ll (dss.set j (ds++[r.val])))))
  | _=>False
 | _=>False
theorem zlC(i:Nat){x:Str}{p1 p2 p3 pos':Pos}(hi:PD X i' ti)(he:PD X e te)(hN:X.N[i]?=some x:=by rfl)(hv:Vis X.env.scope x:=by first | exact Or.inl rfl | exact Or.inr (Or.inl rfl) | exact Or.inr (Or.inr rfl))(hd:(x==("__debug__":Str))=false:=by decide)
  (hcd:(x==("__classdict__":Str))=false:=by decide) (hpi:zgT i':=by intro _ _;rfl) (hst:starEach [e] X.env=(false,eval e X.env)::starEach [] X.env:=by rfl)
  (hb:∀{ta:TE} {t:TA},PE X (.Subscript (.Name x p1) i' p2) ta→PA X [e] t→PE X (.Call (.Attribute (.Subscript (.Name x p1) i' p2) "append" p3) [e] [] pos') (tBM X.K "list" zgV ta t):=by intro ta t h1 h2;exact zkR PySem.F.plainAttrs_list PySem.F.slot_list_append PySem.F.type_list_append zdy h1 h2) :
  PX X (.Expr (.Call (.Attribute (.Subscript (.Name x p1) i' p2) "append" p3) [e] [] pos') pos) (zkg i ti te):=by
 obtain⟨t,p,q⟩:=he
 obtain⟨t2,p2',q2⟩:=hi
 refine⟨_,zd2 (hb (zoh ix_list (zbY hN hv hd hcd) p2' hpi) (zbp p zcE hst)),fun ρ σ G0 H0 G H D E k h g=>?_⟩
 unfold zkg at h
 split at h
 ·rename_i dss hg
  obtain⟨own,o1,o2⟩:=k.on
  obtain⟨a,fp,b1,b2,⟨ha,hr⟩,b4⟩:=o2 i _ hg
  refine⟨_,b1,q2 ρ σ G0 H0 G H _ _ k h fun u H1 rk G1 x1 rr1 hq1=>?_⟩
  obtain⟨G2,x2,rv2,_⟩:=rr1.freeze x1
  split at hq1
  ·rename_i kk e1
   obtain⟨j,ds,hj,hds,hq1⟩:=hq1
   rw[e1] at rv2
   simp only[Rep] at rv2
   obtain⟨qa,xs,c1,c2,c3⟩:=hr.get hds
   have hat:atI (fp.map V.ref) kk=some (.ref qa):=by
    unfold atI
    rw[List.length_map,hr.length,hj]
    simp[c1]
   refine⟨a,fp.map V.ref,kk,_,rfl,rv2,SqL.of (x2.h _ _ ha),hat,.inl ⟨rfl,xs,SqL.of (x2.h _ _ c2)⟩,?_⟩
   refine q ρ σ G0 H0 G2 H1 _ _ (k.ext x2) hq1 fun v H3 r G3 x3 rr3 hq3=>?_
   obtain⟨G4,x4,rv4,_⟩:=rr3.freeze x3
   have x24:=x2.trans x4
   refine⟨qa,xs,v,rfl,rfl,x24.h _ _ c2,by rw[c3.length];exact hq3.1,?_⟩
   refine g.nx _ _ G4 _ x24.g ((k.ext x24).changeO hg b1 fun fp' nd ow=>?_) hq3.2
   obtain⟨ha',hr'⟩:=ow
   have e3:fp'=fp:=by
    have:=(x24.h _ _ ha).symm.trans ha'
    injection this with this
    injection this with this
    exact((List.map_inj_right fun a b h=>by cases h;rfl).mp this).symm
   subst e3
   have nd':=List.nodup_cons.mp nd
   refine⟨fp',nd,⟨?_,hr'.set ((c3.mono x24.g).append (Reps.cons rv4 Reps.nil)) nd'.2 c1⟩,fun q hq=>.inl hq,fun b hb _=>zal fun z=>hb (by rw[z];exact List.mem_cons_of_mem _ (List.mem_of_getElem? c1))⟩
   rw[zal (fun z:a=qa=>nd'.1 (z▸List.mem_of_getElem? c1))]
   exact ha'
  ·exact hq1.elim
 ·exact h.elim
end
end L2
namespace L2
open PySem PySem.Spec PyProof.Rows
noncomputable def zpK:R→Bool
 | .fz d=>zcN d
 | .ow ds=>ds.all zcN
 | .ov (.dc kvs)=>kvs.all fun p=>zcN p.2
 | _=>false
noncomputable def zh1(i:Nat)(te:TD):TD:=fun ρ Q=>te (frz i ρ) fun r=>zpK r=true∧Q r
theorem zfs{K:PySem.W.Frag}{G G':Hp}:∀{vs:List V} {ds:List D},ds.all zcN=true→Reps K G vs ds→Reps K G' vs ds
 | [],[],_,_=>Reps.nil
 | v::vs,d::ds,h,r=>by
  simp only[Reps] at r
  rw[List.all_cons,Bool.and_eq_true] at h
  exact Reps.cons (zdM h.1 r.1) (zfs h.2 r.2)
 | [],_::_,_,r=>by simp only[Reps] at r
 | _::_,[],_,r=>by simp only[Reps] at r
theorem zh2{K:PySem.W.Frag}{G G':Hp}:∀{ks:List (Key×V)} {kvs:List (Key×D)},(kvs.all fun p=>zcN p.2)=true→RepK K G ks kvs→RepK K G' ks kvs
 | [],[],_,_=>RepK.nil
 | v::vs,d::ds,h,r=>by
  simp only[RepK] at r ⊢
  rw[List.all_cons,Bool.and_eq_true] at h
  exact⟨⟨r.1.1,zdM h.1 r.1.2⟩,zh2 h.2 r.2⟩
 | [],_::_,_,r=>by simp only[RepK] at r
 | _::_,[],_,r=>by simp only[RepK] at r
theorem zoB{K:PySem.W.Frag}{te:TD}{tt:TE}(i:Nat)(q:Rdg K te tt):Rdg K (zh1 i te) tt:=by
 intro ρ σ G0 H0 G H Q P E h k
 obtain⟨L,hL,E1,_⟩:=E.freezeL i
 refine q _ σ G0 H0 _ H _ _ E1 h fun v H' r G' x rr hq=>?_
 have x2:=zg4 hL x
 refine k v H' r (zjw G' L) x2 ?_ hq.2
 have hs:=hq.1
 cases r with
 | fz d=>exact zdM hs rr
 | ow ds=>
  obtain⟨p,xs,rfl,c1,c2,c3,c4⟩:=rr
  refine⟨p,xs,rfl,c1,?_,c3,zfs hs c4⟩
  unfold zjw
  split
  ·rfl
  ·exact c2
 | ov o=>
  cases o with
  | dc kvs=>
   obtain⟨p,fp,rfl,c1,⟨rfl,ks,ep,c2,c3⟩,c4⟩:=rr
   refine⟨p,[],rfl,c1,⟨rfl,ks,ep,c2,zh2 hs c3⟩,fun q hq=>⟨(c4 q hq).1,?_⟩⟩
   unfold zjw
   split
   ·rfl
   ·exact(c4 q hq).2
  | ll=>cases hs
  | dl=>cases hs
  | tl=>cases hs
  | ld=>cases hs
  | dt=>cases hs
  | tp=>cases hs
  | ob=>cases hs
section
variable {X:Cx} {elt iter tg:Expr} {ifs:List Expr} {scope:Scope} {pos:Pos} {N':List Str} {m:List (Option Nat)} {wi:TId} {g:TGd} {tc:TDb} {te:TD}
theorem zm1(j i:Nat){x:Str}{pos' posS:Pos}(hc:X.calm=true)(cs:CompScope X N' m scope)(hk:zda m g)(hi:PId X tg iter wi)(hg:∀s3 H3 ex,PGd (cxC X N' scope s3 H3 ex) tg g)(ht:∀s3 H3 ex,PTd (cxC X N' scope s3 H3 ex) ifs tc)
  (he:∀s3 H3 ex,PD (cxC X N' scope s3 H3 ex) elt te) (hN:X.N.Nodup:=by assumption) (hix:X.N[i]?=some x:=by rfl) (hx:Loc X.env.scope x:=by first | exact Or.inl rfl | exact Or.inr rfl) (hs:∀x,foldedSetIterable iter X.env x=pure x:=by intro _;rfl)
  (hsw:swapsWith (.ListComp elt [⟨tg,iter,ifs,0⟩] scope pos) (some (.Name x pos')) posS.line X.env=pure true:=by rfl)
  (hf:X.fn x=true∨X.env.scope.names.lookup x=some .local:=by first | exact .inl rfl | exact .inr rfl | assumption) :
  PX X (.Assign [.Name x pos'] (.ListComp elt [⟨tg,iter,ifs,0⟩] scope pos) posS) (zdF i (zh1 j (zaW wi m g tc te))):=by
 obtain⟨ww,p1,q1⟩:=hi
 refine⟨_,ziJ (g:=fun s3 H3 ex=>(hg s3 H3 ex).choose) (tc:=fun s3 H3 ex=>(ht s3 H3 ex).choose) (te:=fun s3 H3 ex=>(he s3 H3 ex).choose) hN hix hx hc cs p1 (fun s3 H3 ex=>(hg s3 H3 ex).choose_spec.1) (fun s3 H3 ex=>(ht s3 H3 ex).choose_spec.1) (fun s3 H3 ex=>(he s3 H3 ex).choose_spec.1) hs hsw hf,fun ρ σ G0 H0 G H D E k h gg=>?_⟩
 exact zoB j (zg2 cs hk q1 (fun s3 H3 ex=>(hg s3 H3 ex).choose_spec.2) (fun s3 H3 ex=>(ht s3 H3 ex).choose_spec.2) (fun s3 H3 ex=>(he s3 H3 ex).choose_spec.2)) ρ σ G0 H0 G H _ _ k h fun v H' r G' x rr hq=>gg.nx _ _ G' H' x.g (k.put x rr) hq
end
end L2
namespace L2
open PySem PySem.Spec PyProof.Rows
section
variable {X:Cx} {pos:Pos} {e i':Expr} {te ti:TD}
noncomputable def pairsOf:List D→Option (List (Key×D))
 | []=>some []
 | .tup [k,v]::r=>match zru k with
  | some key=>(pairsOf r).map ((key,v)::·)
  | none=>none
 | _=>none
noncomputable def zrv(j i:Nat)(ti:TD):TX:=fun D ρ=>match gt ρ i with
 | .ow ds=>ti ρ fun rk=>match rk.val with
  | .int k=>∃n d,-(2 ^ 63)≤k∧k<2 ^ 63∧ixN ds.length k=some n∧ds[n]?=some d∧D.nx ((ρ.set i (.ow (ds.eraseIdx n))).set j (.fz d))
  | _=>False
 | _=>False
noncomputable def zqu(ta tb:TD):TD:=fun ρ Q=>ta ρ fun ra=>tb ρ fun rb=>match ra,rb.val with
 | .ow ds,.int k=>-(2 ^ 63)≤k∧k<2 ^ 63∧ds.length*k.toNat≤sizeLine∧Q (.ow (List.replicate k.toNat ds).flatten)
 | _,_=>False
theorem Reps.rep{K:PySem.W.Frag}{H:Hp}{vs:List V}{ds:List D}(h:Reps K H vs ds):∀k:Nat,Reps K H (List.replicate k vs).flatten (List.replicate k ds).flatten
 | 0=>Reps.nil
 | k+1=>by
  rw[List.replicate_succ,List.replicate_succ,List.flatten_cons,List.flatten_cons]
  exact h.append (Reps.rep h k)
theorem zpL{a b:Expr}{ta tb:TD}(ha:PD X a ta)(hb:PD X b tb):PD X (.BinOp a .Mult b pos) (zqu ta tb):=by
 obtain⟨t1,p1,q1⟩:=ha
 obtain⟨t2,p2,q2⟩:=hb
 refine⟨_,zn3 zpt p1 p2,fun ρ σ G0 H0 G H Q P E h k=>?_⟩
 refine q1 ρ σ G0 H0 G H _ _ E h fun v H1 ra G1 x1 rr1 hq1=>?_
 refine q2 ρ σ G0 H0 G1 H1 _ _ (E.ext x1) hq1 fun u H2 rb G2 x2 rr2 hq2=>?_
 obtain⟨G3,x3,rv3,_⟩:=rr2.freeze x2
 split at hq2
 ·rename_i ds kk e1
  obtain⟨p,xs,rfl,c1,c2,c3,c4⟩:=rr1
  rw[e1] at rv3
  simp only[Rep] at rv3
  have x13:=x1.trans x3
  refine⟨p,kk,xs,rfl,rv3,x3.h _ _ c3,hq2.1,hq2.2.1,by rw[c4.length];exact hq2.2.2.1,fun l hl=>?_⟩
  exact k _ _ (.ow _) G3 (x13.trans (.own x13.s hl)) ⟨l,_,rfl,x13.h.free hl,x13.s.free hl,zaq,(c4.mono x3.g).rep kk.toNat⟩ hq2.2.2.2
 ·exact hq2.elim
end
end L2
namespace L2
open PySem PySem.Spec PyProof.Rows
end L2
namespace HT
open PySem PyProof.Rows
end HT
namespace L2
open PySem PySem.Spec PyProof.Rows
end L2
namespace HT
end HT
namespace L2
open PySem PySem.Spec PyProof.Rows
end L2
namespace L2
open PySem PySem.Spec PyProof.Rows
theorem zm2{K:PySem.W.Frag}{G H0 H:Hp}{L:List Addr}{p:Addr}{xs:List V}(hs:Same G H)(hH:Same H0 H)(h0:∀q∈L,H0 q≠none)(hL:∀q∈L,∀xs,¬Rd H0 q (.tup xs))(h:SqT K G p xs):SqT K (zjw G L) p xs:=by
 rcases h with h | h
 ·left
  have hp:p∉L:=fun hp=>by
   cases e:H0 p with
   | none=>exact h0 p hp e
   | some u=>
    have e2:=hH p u e
    refine hL p hp xs ?_
    rcases h with h | ⟨o,h⟩
    ·left;have:=hs _ _ h;rw[e2] at this;rw[e,this]
    ·right;have:=hs _ _ h;rw[e2] at this;exact⟨o,by rw[e,this]⟩
  rcases h with h | ⟨o,h⟩
  ·left;unfold zjw;rw[if_neg hp];exact h
  ·right;refine⟨o,?_⟩;unfold zjw;rw[if_neg hp];exact h
 ·exact .inr h
end L2
namespace L2
open PySem PySem.Spec PyProof.Rows
section
variable {X:Cx} {pos:Pos} {e:Expr} {te:TD}
theorem zec{K:PySem.W.Frag}{t S T:String}(ht:t∈["NoneType","bool","int","str","tuple","list"])(hS:S∈["bool","int","str","tuple","list"])(hT:T∈["bool","int","str","tuple","list"]):PySem.W.kitAny K (.type t) [.type S,.type T]=some (zbX t S||zbX t T):=by
 simp only[PySem.W.kitAny,zeM ht hS,zeM ht hT]
 cases zbX t S<;>cases zbX t T<;>rfl
theorem zlD{S T:String}(hS:S∈["bool","int","str","tuple","list"])(hT:T∈["bool","int","str","tuple","list"]):CallR X (.builtin "isinstance") (fun xs H Q=>∃x d p,xs=[x,.ref p]∧SqT X.K H p [.ty S,.ty T]∧Rep X.K H x d∧zmW d=true∧Q (.bl (zbX (tyD d) S||zbX (tyD d) T)) H):=by
 intro pins s σ H xs us Q I r h
 obtain⟨x,d,p,rfl,hp,rd,ho,q⟩:=h
 obtain⟨u,c,rfl,ru,rc⟩:=ziF r
 cases (show c=Value.ref p from rc)
 obtain⟨cs,rv,ht,_⟩:=I.tuple hp
 obtain⟨c1,c2,rfl,r1,r2⟩:=ziF rv
 cases (show c1=Value.type S from r1)
 cases (show c2=Value.type T from r2)
 obtain⟨⟨cls,dd,data,sl⟩,g1,g2,n,g3⟩:=ht
 simp only at g2 g3
 subst g2 g3
 have fin:∀tk,EP X pins σ Q (.bool (zbX (tyD d) S||zbX (tyD d) T)) { s with toks:=tk }:=fun tk=>⟨.bl _,H,I.tok tk,rfl,q⟩
 cases d with
 | non=>simp only[Rep] at rd;subst rd;cases (show u=Value.none from ru);exact PySem.W.kia_tup PySem.W.kitx_none I.kIn True.intro g1 (zec (by simp) hS hT) (fun z=>nomatch z) fin
 | bl y=>simp only[Rep] at rd;subst rd;cases (show u=Value.bool y from ru);exact PySem.W.kia_tup PySem.W.kitx_bool I.kIn True.intro g1 (zec (by simp) hS hT) (fun z=>nomatch z) fin
 | int i=>simp only[Rep] at rd;subst rd;obtain⟨t,q'⟩:=(show ∃t,u=Value.int i t from ru);cases q';exact PySem.W.kia_tup PySem.W.kitx_int I.kIn True.intro g1 (zec (by simp) hS hT) (fun z=>nomatch z) fin
 | str y=>simp only[Rep] at rd;subst rd;obtain⟨t,q'⟩:=(show ∃t,u=Value.str y t from ru);cases q';exact PySem.W.kia_tup PySem.W.kitx_str I.kIn True.intro g1 (zec (by simp) hS hT) (fun z=>nomatch z) fin
 | tup ds=>
  simp only[Rep] at rd
  obtain⟨a,xs,rfl,hq,_⟩:=rd
  cases (show u=Value.ref a from ru)
  obtain⟨its,_,ht,_⟩:=I.tuple hq
  obtain⟨o,h1,h2,_⟩:=ht
  exact PySem.W.kia_tup PySem.W.kitx_tuple I.kIn ⟨o,h1,h2⟩ g1 (zec (by simp) hS hT) (fun z=>nomatch z) fin
 | lst ds=>
  simp only[Rep] at rd
  obtain⟨a,xs,rfl,hq,_⟩:=rd
  cases (show u=Value.ref a from ru)
  obtain⟨its,_,ht,_⟩:=I.list hq.sq
  obtain⟨o,n,h1,h2,_⟩:=ht
  exact PySem.W.kia_tup PySem.W.kitx_list I.kIn ⟨o,h1,h2⟩ g1 (zec (by simp) hS hT) (fun z=>nomatch z) fin
 | obj=>cases ho
 | dic=>cases ho
 | dit=>cases ho
noncomputable def zoC(S T:String)(te:TD):TD:=fun ρ Q=>te ρ fun r=>zmW r.val=true∧Q (.fz (.bl (zbX (tyD r.val) S||zbX (tyD r.val) T)))
theorem zoD{S T:String}{SN TN:Str}{p p1 p2 p3:Pos}{x1:Nat}(he:PD X e te)(hm:X.mg "isinstance"=none)(hm1:X.mg SN=none)(hm2:X.mg TN=none)(hv1:bootBuiltins SN=some (.type S))(hv2:bootBuiltins TN=some (.type T))(hS:S∈["bool","int","str","tuple","list"]:=by decide)(hT:T∈["bool","int","str","tuple","list"]:=by decide)
  (hg:Gl X "isinstance":=by rfl) (hg1:Gl X SN:=by rfl) (hg2:Gl X TN:=by rfl) (hn1:SN≠"__name__":=by decide) (hn2:TN≠"__name__":=by decide) (hd1:(SN==("__debug__":Str))=false:=by decide) (hd2:(TN==("__debug__":Str))=false:=by decide)
  (hst:starEach [e,Expr.Tuple [.Name SN p1,.Name TN p2] x1 p3] X.env=(false,eval e X.env)::starEach [Expr.Tuple [.Name SN p1,.Name TN p2] x1 p3] X.env:=by rfl) (hst2:starEach [Expr.Tuple [.Name SN p1,.Name TN p2] x1 p3] X.env=(false,eval (Expr.Tuple [.Name SN p1,.Name TN p2] x1 p3) X.env)::starEach [] X.env:=by rfl)
  (hst3:starEach [Expr.Name SN p1,.Name TN p2] X.env=(false,eval (.Name SN p1) X.env)::starEach [Expr.Name TN p2] X.env:=by rfl) (hst4:starEach [Expr.Name TN p2] X.env=(false,eval (.Name TN p2) X.env)::starEach [] X.env:=by rfl)
  (hpl:(backTo pos (starEach [Expr.Tuple [.Name SN p1,.Name TN p2] x1 p3] X.env)).any (·.1)=false:=by rfl):PD X (.Call (.Name "isinstance" p) [e,.Tuple [.Name SN p1,.Name TN p2] x1 p3] [] pos) (zoC S T te):=by
 obtain⟨t,pp,q⟩:=he
 refine⟨_,zgS (zlD hS hT) hg hm boot_isinstance (zbp pp (zbp (znv (zbp (ziC (v:=.ty S) hg1 hm1 hv1 rfl hn1 hd1) (zbp (ziC (v:=.ty T) hg2 hm2 hv2 rfl hn2 hd2) zcE hst4) hst3)) zcE hst2) hst) (by decide) (by decide) hst hpl,fun ρ σ G0 H0 G H Q P E h k=>q ρ σ G0 H0 G H _ _ E h fun v H' r G' x rr hq=>?_⟩
 obtain⟨G2,x2,rv,_⟩:=rr.freeze x
 refine⟨by show 2≤sizeLine;decide,fun p hp=>?_⟩
 have x3:=x2.trans (Ext.own (o:=.tup [.ty S,.ty T]) x2.s hp)
 exact⟨v,r.val,p,rfl,SqT.of zaq,rv.mono x3.s,hq.1,k _ _ _ G2 x3 (fzR (za8 _ _ _)) hq.2⟩
end
end L2
namespace Ts
open PySem PyProof.Rows
variable {M:Model} {A:Around} {E:Value→Shared→Prop} {s:Shared}
structure Rk (M:Model) (A:Around) (E:Value→Shared→Prop) (s:Shared) (κ:SortKind) (ok:Keyed→Prop) (rk:Keyed→Int):Prop where
 lt:∀x y (st:SortSt) (Q:Option Bool→SortSt→Prop),ok x→ok y→kindOf st=κ→Q (some (decide (rk x<rk y))) st→wpS M A E s (lt' x y) Q st
theorem zjA{arr:Array Keyed}{i:Nat}{Q:Keyed→SortSt→Prop}{st:SortSt}(h:i<arr.size)(q:Q arr[i] st):wpS M A E s (elem' arr i) Q st:=by
 rw[elem'_eq,Array.getElem?_eq_getElem h]
 exact wpS_pure q
noncomputable def Cut(b:Nat→Bool)(n k:Nat):Prop:=k≤n∧∀i,i<n→(b i=true↔i<k)
end Ts
namespace Ts
open PySem PyProof.Rows
variable {α:Type} (rk:α→Int)
variable {rk}
end Ts
namespace Ts
open PySem PyProof.Rows
variable {M:Model} {A:Around} {E:Value→Shared→Prop} {s:Shared}
theorem zg6{x:String}{Q:Unit→SortSt→Prop}{st:SortSt}(q:Q () st):wpS M A E s (liftM (rule x):StateT SortSt Sem Unit) Q st:=wpS_lift (wpAny_rule ⟨rfl,q⟩)
noncomputable def Srt(rk:Keyed→Int)(l:List Keyed):Prop:=l.Pairwise fun x y=>rk x≤rk y
theorem znK(p:Nat→Bool):∀n,(∀i j,i≤j→j<n→p j=true→p i=true)→∃k,Cut p n k
 | 0,_=>⟨0,Nat.le_refl _,fun i hi=>absurd hi (Nat.not_lt_zero i)⟩
 | n+1,h=>by
  obtain⟨k,k1,k2⟩:=znK p n fun i j hij hj=>h i j hij (by omega)
  cases hp:p n with
  | true=>
   refine⟨n+1,Nat.le_refl _,fun i hi=>⟨fun _=>hi,fun _=>?_⟩⟩
   exact h i n (by omega) (by omega) hp
  | false=>
   refine⟨k,by omega,fun i hi=>?_⟩
   by_cases e:i=n
   ·subst e
    rw[hp]
    exact⟨fun z=>(by cases z),fun z=>by omega⟩
   ·exact k2 i (by omega)
noncomputable abbrev dk:Keyed:=(Value.none,Value.none)
theorem zg7{a:Array Keyed}{i:Nat}(h:i<a.size):a.getD i dk=a[i]:=by simp[Array.getD,h]
end Ts
namespace Ts
open PySem PyProof.Rows
end Ts
namespace Ts
open PySem PyProof.Rows
variable {M:Model} {A:Around} {E:Value→Shared→Prop} {s:Shared}
end Ts
namespace Ts
open PySem PyProof.Rows
variable {M:Model} {A:Around} {E:Value→Shared→Prop} {s:Shared}
end Ts
namespace Ts
open PySem PyProof.Rows
noncomputable def kr(rk:Keyed→Int)(xs:Array Keyed)(i:Nat):Int:=rk (xs.getD i dk)
noncomputable def SrtI(rk:Keyed→Int)(xs:Array Keyed)(lo n:Nat):Prop:=∀i j,i≤j→j<n→kr rk xs (lo+i)≤kr rk xs (lo+j)
structure Sl (xs ys:Array Keyed) (lo n:Nat):Prop where
 pm:ys.Perm xs
 out:∀j,j<lo∨lo+n≤j→ys[j]?=xs[j]?
theorem Sl.size{xs ys:Array Keyed}{lo n:Nat}(h:Sl xs ys lo n):ys.size=xs.size:=h.pm.size_eq
theorem Sl.refl(xs:Array Keyed)(lo n:Nat):Sl xs xs lo n:=⟨Array.Perm.refl _,fun _ _=>rfl⟩
theorem Sl.trans{xs ys zs:Array Keyed}{lo n:Nat}(h:Sl xs ys lo n)(h':Sl ys zs lo n):Sl xs zs lo n:=⟨h'.pm.trans h.pm,fun j hj=>(h'.out j hj).trans (h.out j hj)⟩
theorem zdN{rk:Keyed→Int}{xs ys:Array Keyed}{i j:Nat}(h:ys[i]?=xs[j]?):kr rk ys i=kr rk xs j:=by
 unfold kr
 rw[Array.getD_eq_getD_getElem?,Array.getD_eq_getD_getElem?,h]
variable {M:Model} {A:Around} {E:Value→Shared→Prop} {s:Shared}
theorem zbc{κ:SortKind}{ok:Keyed→Prop}{rk:Keyed→Int}(R:Rk M A E s κ ok rk){i j:Nat}{Q:Option Bool→SortSt→Prop}{st:SortSt}(hk:kindOf st=κ)(oa:∀x∈arrOf st,ok x)(hi:i<(arrOf st).size)(hj:j<(arrOf st).size)
  (q:Q (some (decide (kr rk (arrOf st) i<kr rk (arrOf st) j))) st):wpS M A E s (ltAt' i j) Q st:=by
 rw[ltAt'_eq]
 refine wpS_bind (wpS_get (wpS_bind (zjA hi (wpS_bind (zjA hj ?_)))))
 refine R.lt _ _ _ _ (oa _ (Array.getElem_mem _)) (oa _ (Array.getElem_mem _)) hk ?_
 unfold kr at q
 rwa [zg7 hi,zg7 hj] at q
theorem Sl.ok{xs ys:Array Keyed}{lo n:Nat}(h:Sl xs ys lo n){ok:Keyed→Prop}(oa:∀x∈xs,ok x):∀x∈ys,ok x:=fun x hx=>oa x (h.pm.mem_iff.mp hx)
theorem zkh{κ:SortKind}{ok:Keyed→Prop}{rk:Keyed→Int}(R:Rk M A E s κ ok rk){lo n k0:Nat}{Q:Bool→SortSt→Prop}{st:SortSt}(hk:kindOf st=κ)(oa:∀x∈arrOf st,ok x)(hn:lo+n≤(arrOf st).size)(hs:SrtI rk (arrOf st) lo k0)(hkn:k0≤n)
  (q:∀ys,Sl (arrOf st) ys lo n→SrtI rk ys lo n→Q true (setArr st ys)):wpS M A E s (binarySort' lo n k0) Q st:=by
 rw[binarySort'_eq]
 refine wpS_bind (wpS_mono (wpS_forRange (I:=fun k (c:Option Bool×Unit) st'=>c.1=none∧∃ys,st'=setArr st ys∧Sl (arrOf st) ys lo n∧SrtI rk ys lo (min k n))
  (Q:=fun c st'=>c.1=none∧∃ys,st'=setArr st ys∧Sl (arrOf st) ys lo n∧SrtI rk ys lo n) ?step ?fin ?init) ?post)
 case post=>
  rintro⟨c,⟨⟩⟩ st' ⟨hc,ys,rfl,h1,h2⟩
  dsimp only at hc
  subst hc
  exact wpS_pure (q ys h1 h2)
 case init=>
  refine⟨rfl,arrOf st,rfl,Sl.refl _ _ _,fun i j hij hj=>?_⟩
  by_cases h1:k0=0
  ·have:i=j:=by omega
   subst this;exact Int.le_refl _
  ·exact hs i j hij (by omega)
 case fin=>
  rintro c st' ⟨hc,ys,rfl,h1,h2⟩
  exact⟨hc,ys,rfl,h1,by rwa [show min (max (max k0 1) n) n=n by omega] at h2⟩
 case step=>
  rintro k ⟨c,⟨⟩⟩ st' hk1 hk2 ⟨hc,ys,rfl,h1,h2⟩
  dsimp only at hc ⊢
  subst hc
  rw[show min k n=k by omega] at h2
  have hsz:=h1.size
  have oy:=h1.ok oa
  obtain⟨p,cp⟩:∃p,Cut (fun m=>!decide (kr rk ys (lo+k)<kr rk ys (lo+m))) k p:=by
   refine znK _ _ fun i j hij hj h=>?_
   have:=h2 i j hij hj
   simp only[Bool.not_eq_true',decide_eq_false_iff_not] at h ⊢
   omega
  have cpn:=cp.1
  refine wpS_bind (wpS_mono (wpS_forRange (I:=fun j (c:Option Bool×Nat×Nat) st'=>st'=setArr st ys∧c.1=none∧c.2.1≤p∧p≤c.2.2∧c.2.2≤k∧c.2.2-c.2.1+j≤k)
   (Q:=fun(c:Option Bool×Nat×Nat) st'=>st'=setArr st ys∧c.1=none∧c.2.1=p) ?_ ?_ ⟨rfl,rfl,Nat.zero_le _,cpn,Nat.le_refl _,by show k-0+0≤k;omega⟩) ?_)
  ·rintro j ⟨c,l,r⟩ st' _ hj ⟨rfl,hc,e1,e2,e3,e4⟩
   dsimp only at hc e1 e2 e3 e4 ⊢
   subst hc
   by_cases hd:l≥r
   ·rw[if_pos hd]
    exact wpS_pure ⟨rfl,rfl,by dsimp only;omega⟩
   ·rw[if_neg hd]
    refine wpS_bind (zbc R hk oy (show lo+k<ys.size by omega) (show lo+(l+r)/2<ys.size by omega) ?_)
    have hm:=cp.2 ((l+r)/2) (by omega)
    simp only[Bool.not_eq_true',decide_eq_false_iff_not] at hm
    dsimp only
    by_cases hlt:kr rk ys (lo+k)<kr rk ys (lo+(l+r)/2)
    ·have:¬(l+r)/2<p:=fun z=>hm.mpr z hlt
     rw[show decide (kr rk (arrOf (setArr st ys)) (lo+k)<kr rk (arrOf (setArr st ys)) (lo+(l+r)/2))=true from decide_eq_true hlt]
     simp only[if_true]
     exact wpS_pure ⟨rfl,rfl,e1,by dsimp only;omega,by dsimp only;omega,by dsimp only;omega⟩
    ·have:(l+r)/2<p:=hm.mp hlt
     rw[show decide (kr rk (arrOf (setArr st ys)) (lo+k)<kr rk (arrOf (setArr st ys)) (lo+(l+r)/2))=false from decide_eq_false hlt]
     simp only[Bool.false_eq_true,if_false]
     exact wpS_pure ⟨rfl,rfl,by dsimp only;omega,e2,e3,by dsimp only;omega⟩
  ·rintro⟨c,l,r⟩ st' ⟨rfl,hc,e1,e2,e3,e4⟩
   dsimp only at hc e1 e2 e3 e4 ⊢
   exact⟨rfl,hc,by rw[Nat.max_eq_right (Nat.zero_le k)] at e4;omega⟩
  ·rintro⟨c,l,r⟩ st' ⟨rfl,hc,e1⟩
   dsimp only at hc e1 ⊢
   subst hc e1
   dsimp only
   rw[moveDown'_eq]
   refine wpS_bind (wpS_modify (wpS_pure ⟨rfl,bubble ys (lo+k) (lo+k-(lo+l)),rfl,h1.trans ⟨bubble_perm _ _ _,fun j hj=>?_⟩,?_⟩))
   ·rw[getElem?_bubble (by omega) _ (by omega),if_neg (by omega),if_neg (by omega)]
   ·rw[show min (k+1) n=k+1 by omega]
    have kb:∀j,kr rk (bubble ys (lo+k) (lo+k-(lo+l))) (lo+j)=if j=l then kr rk ys (lo+k) else if l<j∧j≤k then kr rk ys (lo+(j-1)) else kr rk ys (lo+j):=fun j=>by
     have e:=getElem?_bubble (xs:=ys) (src:=lo+k) (by omega) (lo+k-(lo+l)) (by omega) (lo+j)
     by_cases c1:j=l
     ·rw[if_pos (by omega)] at e
      rw[if_pos c1]
      exact zdN e
     ·rw[if_neg (by omega)] at e
      rw[if_neg c1]
      by_cases c2:l<j∧j≤k
      ·rw[if_pos (by omega),show lo+j-1=lo+(j-1) by omega] at e
       rw[if_pos c2]
       exact zdN e
      ·rw[if_neg (by omega)] at e
       rw[if_neg c2]
       exact zdN e
    have below:∀m,m<l→kr rk ys (lo+m)≤kr rk ys (lo+k):=fun m hm=>by
     have:=(cp.2 m (by omega)).mpr hm
     simp only[Bool.not_eq_true',decide_eq_false_iff_not] at this
     omega
    have above:∀m,l≤m→m<k→kr rk ys (lo+k)≤kr rk ys (lo+m):=fun m hm hmk=>by
     have:=mt (cp.2 m hmk).mp (by omega)
     simp only[Bool.not_eq_true',decide_eq_false_iff_not] at this
     omega
    intro i j hij hj
    rw[kb,kb]
    by_cases a1:i=l
    ·rw[if_pos a1]
     by_cases b1:j=l
     ·rw[if_pos b1];exact Int.le_refl _
     ·rw[if_neg b1,if_pos (by omega)]
      exact above _ (by omega) (by omega)
    ·rw[if_neg a1]
     by_cases a2:l<i∧i≤k
     ·rw[if_pos a2,if_neg (by omega),if_pos (by omega)]
      exact h2 _ _ (by omega) (by omega)
     ·rw[if_neg a2]
      by_cases b1:j=l
      ·rw[if_pos b1]
       exact below i (by omega)
      ·rw[if_neg b1]
       by_cases b2:l<j∧j≤k
       ·rw[if_pos b2]
        exact h2 _ _ (by omega) (by omega)
       ·rw[if_neg b2]
        exact h2 _ _ hij (by omega)
end Ts
namespace Ts
open PySem PyProof.Rows
theorem zft{rk:Keyed→Int}{xs:Array Keyed}{i j:Nat}(hj:j≤xs.size)(k:Nat):kr rk (mirror xs i j ((j-i)/2)) k=if i≤k∧k<j then kr rk xs (i+j-1-k) else kr rk xs k:=by
 have e:=getElem?_mirror_all (i:=i) hj k
 by_cases h1:i≤k∧k<j
 ·rw[if_pos h1] at e ⊢;exact zdN e
 ·rw[if_neg h1] at e ⊢;exact zdN e
theorem zbC{xs:Array Keyed}{i j lo n:Nat}(hj:j≤xs.size)(hi:lo≤i)(hn:j≤lo+n):Sl xs (mirror xs i j ((j-i)/2)) lo n:=
 ⟨mirror_perm _ _ _ _,fun k hk=>by rw[getElem?_mirror_all hj,if_neg (by omega)]⟩
theorem zbN{rk:Keyed→Int}{xs:Array Keyed}{i j:Nat}(hj:j≤xs.size)(heq:∀k,i≤k→k<j→kr rk xs k=kr rk xs (j-1))(k:Nat):kr rk (mirror xs i j ((j-i)/2)) k=kr rk xs k:=by
 rw[zft hj]
 split
 ·rw[heq _ (by omega) (by omega),heq k (by omega) (by omega)]
 ·rfl
noncomputable def Dec(rk:Keyed→Int)(xs:Array Keyed)(lo n:Nat):Prop:=∀i j,i≤j→j<n→kr rk xs (lo+j)≤kr rk xs (lo+i)
theorem SrtI.more{rk:Keyed→Int}{xs:Array Keyed}{lo n:Nat}(h:SrtI rk xs lo n)(hn:1≤n)(hl:kr rk xs (lo+n-1)≤kr rk xs (lo+n)):SrtI rk xs lo (n+1):=fun i j hij hj=>by
 by_cases e:j=n
 ·subst e
  by_cases e2:i=j
  ·subst e2;exact Int.le_refl _
  ·have:=h i (j-1) (by omega) (by omega)
   rw[show lo+(j-1)=lo+j-1 by omega] at this
   omega
 ·exact h i j hij (by omega)
theorem Dec.more{rk:Keyed→Int}{xs:Array Keyed}{lo n:Nat}(h:Dec rk xs lo n)(hn:1≤n)(hl:kr rk xs (lo+n)≤kr rk xs (lo+n-1)):Dec rk xs lo (n+1):=fun i j hij hj=>by
 by_cases e:j=n
 ·subst e
  by_cases e2:i=j
  ·subst e2;exact Int.le_refl _
  ·have:=h i (j-1) (by omega) (by omega)
   rw[show lo+(j-1)=lo+j-1 by omega] at this
   omega
 ·exact h i j hij (by omega)
theorem Dec.turn{rk:Keyed→Int}{xs:Array Keyed}{lo n:Nat}(h:Dec rk xs lo n)(hn:lo+n≤xs.size):SrtI rk (mirror xs lo (lo+n) ((lo+n-lo)/2)) lo n:=fun i j hij hj=>by
 rw[zft hn,zft hn,if_pos (by omega),if_pos (by omega)]
 have:=h (n-1-j) (n-1-i) (by omega) (by omega)
 rw[show lo+(lo+n)-1-(lo+i)=lo+(n-1-i) by omega,show lo+(lo+n)-1-(lo+j)=lo+(n-1-j) by omega]
 exact this
variable {M:Model} {A:Around} {E:Value→Shared→Prop} {s:Shared}
theorem zcy{i j:Nat}{Q:Unit→SortSt→Prop}{st:SortSt}(h:Q () (setArr st (mirror (arrOf st) i j ((j-i)/2)))):wpS M A E s (reverseSlice' i j) Q st:=by
 rw[reverseSlice'_eq]
 exact wpS_modify h
theorem zlE{κ:SortKind}{ok:Keyed→Prop}{rk:Keyed→Int}(R:Rk M A E s κ ok rk){lo nrem:Nat}{Q:Option Nat→SortSt→Prop}{st:SortSt}(hk:kindOf st=κ)(oa:∀x∈arrOf st,ok x)(hn:lo+nrem≤(arrOf st).size)(h1:1≤nrem)
  (q:∀ys n,1≤n→n≤nrem→Sl (arrOf st) ys lo nrem→SrtI rk ys lo n→Q (some n) (setArr st ys)):wpS M A E s (countRun' lo nrem) Q st:=by
 rw[countRun'_eq]
 refine wpS_bind (wpS_mono (wpS_forRange (I:=fun i (c:Option (Option Nat)×Nat) st'=>st'=st∧c.1=none∧c.2=i∧SrtI rk (arrOf st) lo i)
  (Q:=fun(c:Option (Option Nat)×Nat) st'=>st'=st∧c.1=none∧1≤c.2∧c.2≤nrem∧SrtI rk (arrOf st) lo c.2∧(c.2<nrem→kr rk (arrOf st) (lo+c.2)<kr rk (arrOf st) (lo+c.2-1))) ?_ ?_ ⟨rfl,rfl,rfl,fun i j hij hj=>by rw[show i=j by omega];exact Int.le_refl _⟩) ?_)
 ·rintro i ⟨c,n⟩ st' h2 h3 ⟨rfl,hc,e,hs⟩
  dsimp only at hc e ⊢
  subst hc e
  refine wpS_bind (zbc R hk oa (by omega) (by omega) ?_)
  dsimp only
  by_cases hlt:kr rk (arrOf st') (lo+n)<kr rk (arrOf st') (lo+n-1)
  ·simp only[hlt,decide_true,if_true]
   exact wpS_pure ⟨rfl,rfl,h2,by dsimp only;omega,hs,fun _=>hlt⟩
  ·simp only[hlt,decide_false,Bool.false_eq_true,if_false]
   exact wpS_pure ⟨rfl,rfl,rfl,hs.more h2 (by omega)⟩
 ·rintro⟨c,n⟩ st' ⟨rfl,hc,e,hs⟩
  dsimp only at hc e ⊢
  subst e
  exact⟨rfl,hc,by omega,by omega,hs,fun z=>by omega⟩
 ·rintro⟨c,n⟩ st' ⟨rfl,hc,n1,n2,hs,hd⟩
  dsimp only at hc n1 n2 hs hd ⊢
  subst hc
  dsimp only
  by_cases e1:n=nrem
  ·rw[if_pos (by simpa using e1)]
   exact wpS_pure (q (arrOf st') n n1 n2 (Sl.refl _ _ _) hs)
  rw[if_neg (by simpa using e1)]
  have hdn:=hd (by omega)
  by_cases e2:n>1
  ·rw[if_pos e2]
   refine wpS_bind (zbc R hk oa (by omega) (by omega) ?_)
   dsimp only
   by_cases hr:kr rk (arrOf st') lo<kr rk (arrOf st') (lo+n-1)
   ·simp only[hr,decide_true,if_true]
    exact wpS_pure (q (arrOf st') n n1 n2 (Sl.refl _ _ _) hs)
   ·simp only[hr,decide_false,Bool.false_eq_true,if_false]
    have same:∀k,lo≤k→k<lo+n→kr rk (arrOf st') k=kr rk (arrOf st') (lo+n-1):=fun k k1 k2=>by
     have a1:=hs 0 (k-lo) (by omega) (by omega)
     have a2:=hs (k-lo) (n-1) (by omega) (by omega)
     rw[show lo+(k-lo)=k by omega] at a1 a2
     rw[show lo+(n-1)=lo+n-1 by omega] at a2
     simp only[Nat.add_zero] at a1
     omega
    have km:=zbN (rk:=rk) (xs:=arrOf st') (i:=lo) (j:=lo+n) (by omega) same
    have l0:=zbC (xs:=arrOf st') (i:=lo) (j:=lo+n) (lo:=lo) (n:=nrem) (by omega) (by omega) (by omega)
    refine wpS_bind (zcy ?_)
    generalize mirror (arrOf st') lo (lo+n) ((lo+n-lo)/2)=y0 at km l0
    have d0:Dec rk y0 lo (n+1):=by
     have dd:Dec rk y0 lo n:=fun i j hij hj=>by
      rw[km,km,same _ (by omega) (by omega),same (lo+i) (by omega) (by omega)]
      exact Int.le_refl _
     refine dd.more n1 ?_
     rw[km,km]
     omega
    refine wpS_bind (zg6 ?_)
    refine wpS_bind (wpS_mono (wpS_forRange (I:=fun i (c:Option (Option Nat)×Nat×Nat) st2=>∃ys,st2=setArr st' ys∧Sl (arrOf st') ys lo nrem∧c.1=none∧c.2.1=i∧Dec rk ys lo i∧c.2.2<i∧∀t,t≤c.2.2→kr rk ys (lo+i-1-t)=kr rk ys (lo+i-1))
     (Q:=fun(c:Option (Option Nat)×Nat×Nat) st2=>∃ys,st2=setArr st' ys∧Sl (arrOf st') ys lo nrem∧c.1=none∧1≤c.2.1∧c.2.1≤nrem∧Dec rk ys lo c.2.1∧c.2.2<c.2.1∧∀t,t≤c.2.2→kr rk ys (lo+c.2.1-1-t)=kr rk ys (lo+c.2.1-1)) ?_ ?_ ⟨y0,rfl,l0,rfl,rfl,d0,by dsimp only;omega,fun t ht=>by rw[show t=0 by dsimp only at ht;omega];rfl⟩) ?_)
    ·rintro i ⟨c,n,e⟩ st2 h2 h3 ⟨ys,rfl,ly,hc,ei,dy,en,eq⟩
     dsimp only at hc ei en eq ⊢
     subst hc ei
     have hsz:=ly.size
     refine wpS_bind (zbc R hk (ly.ok oa) (show lo+n<ys.size by omega) (show lo+n-1<ys.size by omega) ?_)
     dsimp only
     by_cases hlt:kr rk ys (lo+n)<kr rk ys (lo+n-1)
     ·rw[show decide (kr rk (arrOf (setArr st' ys)) (lo+n)<kr rk (arrOf (setArr st' ys)) (lo+n-1))=true from decide_eq_true hlt]
      simp only[if_true]
      have dm:=dy.more (by omega) (Int.le_of_lt hlt)
      by_cases ep:e>0
      ·rw[if_pos ep]
       have km:=zbN (rk:=rk) (xs:=ys) (i:=lo+n-(e+1)) (j:=lo+n) (by omega) (fun k k1 k2=>by
        have:=eq (lo+n-1-k) (by omega)
        rwa [show lo+n-1-(lo+n-1-k)=k by omega] at this)
       refine wpS_bind (zcy ?_)
       refine wpS_pure ⟨_,rfl,ly.trans (zbC (by show lo+n≤ys.size;omega) (by omega) (by omega)),rfl,rfl,fun i j hij hj=>?_,by dsimp only;omega,fun t ht=>by rw[show t=0 by dsimp only at ht;omega];rfl⟩
       have:=dm i j hij hj
       rw[←km,←km] at this
       exact this
      ·rw[if_neg ep]
       exact wpS_pure ⟨ys,rfl,ly,rfl,rfl,dm,by dsimp only;omega,fun t ht=>by rw[show t=0 by dsimp only at ht;omega];rfl⟩
     ·rw[show decide (kr rk (arrOf (setArr st' ys)) (lo+n)<kr rk (arrOf (setArr st' ys)) (lo+n-1))=false from decide_eq_false hlt]
      simp only[Bool.false_eq_true,if_false]
      refine wpS_bind (zbc R hk (ly.ok oa) (show lo+n-1<ys.size by omega) (show lo+n<ys.size by omega) ?_)
      dsimp only
      by_cases hgt:kr rk ys (lo+n-1)<kr rk ys (lo+n)
      ·rw[show decide (kr rk (arrOf (setArr st' ys)) (lo+n-1)<kr rk (arrOf (setArr st' ys)) (lo+n))=true from decide_eq_true hgt]
       simp only[if_true]
       exact wpS_pure ⟨ys,rfl,ly,rfl,by dsimp only;omega,by dsimp only;omega,dy,en,eq⟩
      ·rw[show decide (kr rk (arrOf (setArr st' ys)) (lo+n-1)<kr rk (arrOf (setArr st' ys)) (lo+n))=false from decide_eq_false hgt]
       simp only[Bool.false_eq_true,if_false]
       refine wpS_pure ⟨ys,rfl,ly,rfl,rfl,dy.more (by omega) (by omega),by dsimp only;omega,fun t ht=>?_⟩
       dsimp only at ht
       rw[show lo+(n+1)-1=lo+n by omega]
       by_cases t0:t=0
       ·subst t0;rfl
       ·have:=eq (t-1) (by omega)
        rw[show lo+n-1-(t-1)=lo+n-t by omega] at this
        omega
    ·rintro⟨c,n,e⟩ st2 ⟨ys,rfl,ly,hc,ei,dy,en,eq⟩
     dsimp only at hc ei en eq ⊢
     subst ei
     exact⟨ys,rfl,ly,hc,by omega,by omega,dy,en,eq⟩
    ·rintro⟨c,n,e⟩ st2 ⟨ys,rfl,ly,hc,n1,n2,dy,en,eq⟩
     dsimp only at hc n1 n2 dy en eq ⊢
     subst hc
     dsimp only
     have hsz:=ly.size
     by_cases ep:e>0
     ·rw[if_pos ep]
      have km:=zbN (rk:=rk) (xs:=ys) (i:=lo+n-(e+1)) (j:=lo+n) (by omega) (fun k k1 k2=>by
       have:=eq (lo+n-1-k) (by omega)
       rwa [show lo+n-1-(lo+n-1-k)=k by omega] at this)
      refine wpS_bind (zcy ?_)
      have lw:=ly.trans (zbC (xs:=ys) (i:=lo+n-(e+1)) (j:=lo+n) (lo:=lo) (n:=nrem) (by omega) (by omega) (by omega))
      show wpS M A E s _ Q (setArr st' (mirror ys (lo+n-(e+1)) (lo+n) ((lo+n-(lo+n-(e+1)))/2)))
      generalize mirror ys (lo+n-(e+1)) (lo+n) ((lo+n-(lo+n-(e+1)))/2)=ws at km lw
      have dw:Dec rk ws lo n:=fun i j hij hj=>by
       have:=dy i j hij hj
       rw[←km,←km] at this
       exact this
      have hw:=lw.size
      refine wpS_bind (zcy ?_)
      have lz:=lw.trans (zbC (xs:=ws) (i:=lo) (j:=lo+n) (lo:=lo) (n:=nrem) (by omega) (by omega) (by omega))
      have hz:=dw.turn (by omega)
      show wpS M A E s _ Q (setArr st' (mirror ws lo (lo+n) ((lo+n-lo)/2)))
      generalize mirror ws lo (lo+n) ((lo+n-lo)/2)=zs at lz hz
      refine wpS_bind (wpS_mono (wpS_forRange (I:=fun i (c:Option (Option Nat)×Nat) st2=>st2=setArr st' zs∧c.1=none∧c.2=i∧SrtI rk zs lo i)
       (Q:=fun(c:Option (Option Nat)×Nat) st2=>st2=setArr st' zs∧c.1=none∧1≤c.2∧c.2≤nrem∧SrtI rk zs lo c.2) ?_ ?_ ⟨rfl,rfl,rfl,hz⟩) ?_)
      ·rintro i ⟨c,n⟩ st2 h2 h3 ⟨rfl,hc,e,hs⟩
       dsimp only at hc e ⊢
       subst hc e
       refine wpS_bind (zbc R hk (lz.ok oa) (show lo+n<zs.size by have:=lz.size;omega) (show lo+n-1<zs.size by have:=lz.size;omega) ?_)
       dsimp only
       by_cases hlt:kr rk zs (lo+n)<kr rk zs (lo+n-1)
       ·rw[show decide (kr rk (arrOf (setArr st' zs)) (lo+n)<kr rk (arrOf (setArr st' zs)) (lo+n-1))=true from decide_eq_true hlt]
        simp only[if_true]
        exact wpS_pure ⟨rfl,rfl,by dsimp only;omega,by dsimp only;omega,hs⟩
       ·rw[show decide (kr rk (arrOf (setArr st' zs)) (lo+n)<kr rk (arrOf (setArr st' zs)) (lo+n-1))=false from decide_eq_false hlt]
        simp only[Bool.false_eq_true,if_false]
        exact wpS_pure ⟨rfl,rfl,rfl,hs.more (by omega) (by omega)⟩
      ·rintro⟨c,n⟩ st2 ⟨rfl,hc,e,hs⟩
       dsimp only at hc e ⊢
       subst e
       exact⟨rfl,hc,by omega,by omega,hs⟩
      ·rintro⟨c,n⟩ st2 ⟨rfl,hc,n1,n2,hs⟩
       dsimp only at hc n1 n2 hs ⊢
       subst hc
       exact wpS_pure (q zs n n1 n2 lz hs)
     ·rw[if_neg ep]
      refine wpS_bind (zcy ?_)
      have lz:=ly.trans (zbC (xs:=ys) (i:=lo) (j:=lo+n) (lo:=lo) (n:=nrem) (by omega) (by omega) (by omega))
      have hz:=dy.turn (by omega)
      show wpS M A E s _ Q (setArr st' (mirror ys lo (lo+n) ((lo+n-lo)/2)))
      generalize mirror ys lo (lo+n) ((lo+n-lo)/2)=zs at lz hz
      refine wpS_bind (wpS_mono (wpS_forRange (I:=fun i (c:Option (Option Nat)×Nat) st2=>st2=setArr st' zs∧c.1=none∧c.2=i∧SrtI rk zs lo i)
       (Q:=fun(c:Option (Option Nat)×Nat) st2=>st2=setArr st' zs∧c.1=none∧1≤c.2∧c.2≤nrem∧SrtI rk zs lo c.2) ?_ ?_ ⟨rfl,rfl,rfl,hz⟩) ?_)
      ·rintro i ⟨c,n⟩ st2 h2 h3 ⟨rfl,hc,e,hs⟩
       dsimp only at hc e ⊢
       subst hc e
       refine wpS_bind (zbc R hk (lz.ok oa) (show lo+n<zs.size by have:=lz.size;omega) (show lo+n-1<zs.size by have:=lz.size;omega) ?_)
       dsimp only
       by_cases hlt:kr rk zs (lo+n)<kr rk zs (lo+n-1)
       ·rw[show decide (kr rk (arrOf (setArr st' zs)) (lo+n)<kr rk (arrOf (setArr st' zs)) (lo+n-1))=true from decide_eq_true hlt]
        simp only[if_true]
        exact wpS_pure ⟨rfl,rfl,by dsimp only;omega,by dsimp only;omega,hs⟩
       ·rw[show decide (kr rk (arrOf (setArr st' zs)) (lo+n)<kr rk (arrOf (setArr st' zs)) (lo+n-1))=false from decide_eq_false hlt]
        simp only[Bool.false_eq_true,if_false]
        exact wpS_pure ⟨rfl,rfl,rfl,hs.more (by omega) (by omega)⟩
      ·rintro⟨c,n⟩ st2 ⟨rfl,hc,e,hs⟩
       dsimp only at hc e ⊢
       subst e
       exact⟨rfl,hc,by omega,by omega,hs⟩
      ·rintro⟨c,n⟩ st2 ⟨rfl,hc,n1,n2,hs⟩
       dsimp only at hc n1 n2 hs ⊢
       subst hc
       exact wpS_pure (q zs n n1 n2 lz hs)
  ·rw[if_neg e2]
   have en1:n=1:=by omega
   have d0:Dec rk (arrOf st') lo (n+1):=by
    have dd:Dec rk (arrOf st') lo n:=fun i j hij hj=>by rw[show i=j by omega];exact Int.le_refl _
    exact dd.more n1 (by omega)
   have l0:=Sl.refl (arrOf st') lo nrem
   obtain⟨y0,hy0⟩:∃y,y=arrOf st':=⟨_,rfl⟩
   rw[show st'=setArr st' y0 by rw[hy0]]
   rw[←hy0] at d0
   have l0:Sl (arrOf st') y0 lo nrem:=by rw[hy0];exact Sl.refl _ _ _
   refine wpS_bind (zg6 ?_)
   refine wpS_bind (wpS_mono (wpS_forRange (I:=fun i (c:Option (Option Nat)×Nat×Nat) st2=>∃ys,st2=setArr st' ys∧Sl (arrOf st') ys lo nrem∧c.1=none∧c.2.1=i∧Dec rk ys lo i∧c.2.2<i∧∀t,t≤c.2.2→kr rk ys (lo+i-1-t)=kr rk ys (lo+i-1))
    (Q:=fun(c:Option (Option Nat)×Nat×Nat) st2=>∃ys,st2=setArr st' ys∧Sl (arrOf st') ys lo nrem∧c.1=none∧1≤c.2.1∧c.2.1≤nrem∧Dec rk ys lo c.2.1∧c.2.2<c.2.1∧∀t,t≤c.2.2→kr rk ys (lo+c.2.1-1-t)=kr rk ys (lo+c.2.1-1)) ?_ ?_ ⟨y0,rfl,l0,rfl,rfl,d0,by dsimp only;omega,fun t ht=>by rw[show t=0 by dsimp only at ht;omega];rfl⟩) ?_)
   ·rintro i ⟨c,n,e⟩ st2 h2 h3 ⟨ys,rfl,ly,hc,ei,dy,en,eq⟩
    dsimp only at hc ei en eq ⊢
    subst hc ei
    have hsz:=ly.size
    refine wpS_bind (zbc R hk (ly.ok oa) (show lo+n<ys.size by omega) (show lo+n-1<ys.size by omega) ?_)
    dsimp only
    by_cases hlt:kr rk ys (lo+n)<kr rk ys (lo+n-1)
    ·rw[show decide (kr rk (arrOf (setArr st' ys)) (lo+n)<kr rk (arrOf (setArr st' ys)) (lo+n-1))=true from decide_eq_true hlt]
     simp only[if_true]
     have dm:=dy.more (by omega) (Int.le_of_lt hlt)
     by_cases ep:e>0
     ·rw[if_pos ep]
      have km:=zbN (rk:=rk) (xs:=ys) (i:=lo+n-(e+1)) (j:=lo+n) (by omega) (fun k k1 k2=>by
       have:=eq (lo+n-1-k) (by omega)
       rwa [show lo+n-1-(lo+n-1-k)=k by omega] at this)
      refine wpS_bind (zcy ?_)
      refine wpS_pure ⟨_,rfl,ly.trans (zbC (by show lo+n≤ys.size;omega) (by omega) (by omega)),rfl,rfl,fun i j hij hj=>?_,by dsimp only;omega,fun t ht=>by rw[show t=0 by dsimp only at ht;omega];rfl⟩
      have:=dm i j hij hj
      rw[←km,←km] at this
      exact this
     ·rw[if_neg ep]
      exact wpS_pure ⟨ys,rfl,ly,rfl,rfl,dm,by dsimp only;omega,fun t ht=>by rw[show t=0 by dsimp only at ht;omega];rfl⟩
    ·rw[show decide (kr rk (arrOf (setArr st' ys)) (lo+n)<kr rk (arrOf (setArr st' ys)) (lo+n-1))=false from decide_eq_false hlt]
     simp only[Bool.false_eq_true,if_false]
     refine wpS_bind (zbc R hk (ly.ok oa) (show lo+n-1<ys.size by omega) (show lo+n<ys.size by omega) ?_)
     dsimp only
     by_cases hgt:kr rk ys (lo+n-1)<kr rk ys (lo+n)
     ·rw[show decide (kr rk (arrOf (setArr st' ys)) (lo+n-1)<kr rk (arrOf (setArr st' ys)) (lo+n))=true from decide_eq_true hgt]
      simp only[if_true]
      exact wpS_pure ⟨ys,rfl,ly,rfl,by dsimp only;omega,by dsimp only;omega,dy,en,eq⟩
     ·rw[show decide (kr rk (arrOf (setArr st' ys)) (lo+n-1)<kr rk (arrOf (setArr st' ys)) (lo+n))=false from decide_eq_false hgt]
      simp only[Bool.false_eq_true,if_false]
      refine wpS_pure ⟨ys,rfl,ly,rfl,rfl,dy.more (by omega) (by omega),by dsimp only;omega,fun t ht=>?_⟩
      dsimp only at ht
      rw[show lo+(n+1)-1=lo+n by omega]
      by_cases t0:t=0
      ·subst t0;rfl
      ·have:=eq (t-1) (by omega)
       rw[show lo+n-1-(t-1)=lo+n-t by omega] at this
       omega
   ·rintro⟨c,n,e⟩ st2 ⟨ys,rfl,ly,hc,ei,dy,en,eq⟩
    dsimp only at hc ei en eq ⊢
    subst ei
    exact⟨ys,rfl,ly,hc,by omega,by omega,dy,en,eq⟩
   ·rintro⟨c,n,e⟩ st2 ⟨ys,rfl,ly,hc,n1,n2,dy,en,eq⟩
    dsimp only at hc n1 n2 dy en eq ⊢
    subst hc
    dsimp only
    have hsz:=ly.size
    by_cases ep:e>0
    ·rw[if_pos ep]
     have km:=zbN (rk:=rk) (xs:=ys) (i:=lo+n-(e+1)) (j:=lo+n) (by omega) (fun k k1 k2=>by
      have:=eq (lo+n-1-k) (by omega)
      rwa [show lo+n-1-(lo+n-1-k)=k by omega] at this)
     refine wpS_bind (zcy ?_)
     have lw:=ly.trans (zbC (xs:=ys) (i:=lo+n-(e+1)) (j:=lo+n) (lo:=lo) (n:=nrem) (by omega) (by omega) (by omega))
     show wpS M A E s _ Q (setArr st' (mirror ys (lo+n-(e+1)) (lo+n) ((lo+n-(lo+n-(e+1)))/2)))
     generalize mirror ys (lo+n-(e+1)) (lo+n) ((lo+n-(lo+n-(e+1)))/2)=ws at km lw
     have dw:Dec rk ws lo n:=fun i j hij hj=>by
      have:=dy i j hij hj
      rw[←km,←km] at this
      exact this
     have hw:=lw.size
     refine wpS_bind (zcy ?_)
     have lz:=lw.trans (zbC (xs:=ws) (i:=lo) (j:=lo+n) (lo:=lo) (n:=nrem) (by omega) (by omega) (by omega))
     have hz:=dw.turn (by omega)
     show wpS M A E s _ Q (setArr st' (mirror ws lo (lo+n) ((lo+n-lo)/2)))
     generalize mirror ws lo (lo+n) ((lo+n-lo)/2)=zs at lz hz
     refine wpS_bind (wpS_mono (wpS_forRange (I:=fun i (c:Option (Option Nat)×Nat) st2=>st2=setArr st' zs∧c.1=none∧c.2=i∧SrtI rk zs lo i)
      (Q:=fun(c:Option (Option Nat)×Nat) st2=>st2=setArr st' zs∧c.1=none∧1≤c.2∧c.2≤nrem∧SrtI rk zs lo c.2) ?_ ?_ ⟨rfl,rfl,rfl,hz⟩) ?_)
     ·rintro i ⟨c,n⟩ st2 h2 h3 ⟨rfl,hc,e,hs⟩
      dsimp only at hc e ⊢
      subst hc e
      refine wpS_bind (zbc R hk (lz.ok oa) (show lo+n<zs.size by have:=lz.size;omega) (show lo+n-1<zs.size by have:=lz.size;omega) ?_)
      dsimp only
      by_cases hlt:kr rk zs (lo+n)<kr rk zs (lo+n-1)
      ·rw[show decide (kr rk (arrOf (setArr st' zs)) (lo+n)<kr rk (arrOf (setArr st' zs)) (lo+n-1))=true from decide_eq_true hlt]
       simp only[if_true]
       exact wpS_pure ⟨rfl,rfl,by dsimp only;omega,by dsimp only;omega,hs⟩
      ·rw[show decide (kr rk (arrOf (setArr st' zs)) (lo+n)<kr rk (arrOf (setArr st' zs)) (lo+n-1))=false from decide_eq_false hlt]
       simp only[Bool.false_eq_true,if_false]
       exact wpS_pure ⟨rfl,rfl,rfl,hs.more (by omega) (by omega)⟩
     ·rintro⟨c,n⟩ st2 ⟨rfl,hc,e,hs⟩
      dsimp only at hc e ⊢
      subst e
      exact⟨rfl,hc,by omega,by omega,hs⟩
     ·rintro⟨c,n⟩ st2 ⟨rfl,hc,n1,n2,hs⟩
      dsimp only at hc n1 n2 hs ⊢
      subst hc
      exact wpS_pure (q zs n n1 n2 lz hs)
    ·rw[if_neg ep]
     refine wpS_bind (zcy ?_)
     have lz:=ly.trans (zbC (xs:=ys) (i:=lo) (j:=lo+n) (lo:=lo) (n:=nrem) (by omega) (by omega) (by omega))
     have hz:=dy.turn (by omega)
     show wpS M A E s _ Q (setArr st' (mirror ys lo (lo+n) ((lo+n-lo)/2)))
     generalize mirror ys lo (lo+n) ((lo+n-lo)/2)=zs at lz hz
     refine wpS_bind (wpS_mono (wpS_forRange (I:=fun i (c:Option (Option Nat)×Nat) st2=>st2=setArr st' zs∧c.1=none∧c.2=i∧SrtI rk zs lo i)
      (Q:=fun(c:Option (Option Nat)×Nat) st2=>st2=setArr st' zs∧c.1=none∧1≤c.2∧c.2≤nrem∧SrtI rk zs lo c.2) ?_ ?_ ⟨rfl,rfl,rfl,hz⟩) ?_)
     ·rintro i ⟨c,n⟩ st2 h2 h3 ⟨rfl,hc,e,hs⟩
      dsimp only at hc e ⊢
      subst hc e
      refine wpS_bind (zbc R hk (lz.ok oa) (show lo+n<zs.size by have:=lz.size;omega) (show lo+n-1<zs.size by have:=lz.size;omega) ?_)
      dsimp only
      by_cases hlt:kr rk zs (lo+n)<kr rk zs (lo+n-1)
      ·rw[show decide (kr rk (arrOf (setArr st' zs)) (lo+n)<kr rk (arrOf (setArr st' zs)) (lo+n-1))=true from decide_eq_true hlt]
       simp only[if_true]
       exact wpS_pure ⟨rfl,rfl,by dsimp only;omega,by dsimp only;omega,hs⟩
      ·rw[show decide (kr rk (arrOf (setArr st' zs)) (lo+n)<kr rk (arrOf (setArr st' zs)) (lo+n-1))=false from decide_eq_false hlt]
       simp only[Bool.false_eq_true,if_false]
       exact wpS_pure ⟨rfl,rfl,rfl,hs.more (by omega) (by omega)⟩
     ·rintro⟨c,n⟩ st2 ⟨rfl,hc,e,hs⟩
      dsimp only at hc e ⊢
      subst e
      exact⟨rfl,hc,by omega,by omega,hs⟩
     ·rintro⟨c,n⟩ st2 ⟨rfl,hc,n1,n2,hs⟩
      dsimp only at hc n1 n2 hs ⊢
      subst hc
      exact wpS_pure (q zs n n1 n2 lz hs)
end Ts
namespace Ts
open PySem PyProof.Rows
variable {M:Model} {A:Around} {E:Value→Shared→Prop} {s:Shared}
end Ts
namespace Ts
open PySem PyProof.Rows
variable {M:Model} {A:Around} {E:Value→Shared→Prop} {s:Shared}
end Ts
namespace Ts
open PySem PyProof.Rows
section
variable {prog:Program} {w:World} {A:Around} {E:Value→Shared→Prop} {s:Shared}
noncomputable def zlF(n:Nat):Prop:=∀{M:Model} {A:Around} {E:Value→Shared→Prop} {s:Shared} {κ:SortKind} {ok:Keyed→Prop} {rk:Keyed→Int} (R:Rk M A E s κ ok rk) {Q:Unit→SortSt→Prop} {st:SortSt},kindOf st=κ→failedOf st=none→pendingOf st=#[]→(arrOf st).size=n→(∀x∈arrOf st,ok x)→
 (∀st',(arrOf st').toList.Perm (arrOf st).toList→Srt rk (arrOf st').toList→failedOf st'=none→Q () st')→wpS M A E s sortRuns' Q st
structure Ask (prog:Program) (w:World) (A:Around) (E:Value→Shared→Prop) (vs:List Value) (rk:Keyed→Int) (s:Shared):Prop where
 ask:2≤vs.length→∃κ,(∀Q':SortKind→Shared→Prop,Q' κ s→wpAny (model prog w) A (keyKind' vs.toArray) Q' E s)∧Rk (model prog w) A E s κ (fun x=>x∈pairsOf vs) rk
theorem zlG{rk:Keyed→Int}{l:List Keyed}(h:l.length<2):Srt rk l:=by
 cases l with
 | nil=>exact .nil
 | cons a r=>
  cases r with
  | nil=>exact List.pairwise_singleton _ _
  | cons b t=>
   simp only[List.length_cons] at h
   omega
theorem ziS{a:Addr}{vs:List Value}{n:Nat}{P:Fin→Shared→Prop}{rk:Keyed→Int}(ho:s.heap.get? a=some (seqObj "list" vs.toArray n))(hl:vs.length≤sizeLine)(hr:2≤vs.length→zlF vs.length)
  (R:∀h',(∀b o,b≠a→s.heap.get? b=some o→h'.get? b=some o)→Ask prog w A E vs rk { s with heap:=h' })
  (h:∀st':SortSt,(arrOf st').toList.Perm (pairsOf vs).toList→Srt rk (arrOf st').toList→P (.done (.ret .none)) { s with heap:=sortedHeap s.heap a vs ((arrOf st').map (·.2)) }) :
  wpAny (model prog w) A (Builtin.«list.sort» ⟨[.ref a],[]⟩) P E s:=by
 rw[list_sort_plain]
 have ha:a<s.heap.objs.size:=Heap.lt_size ho
 refine wpAny_bind (listItems_at ho rfl ?_)
 refine wpAny_bind (listUpdate_at ho rfl ?_ (by simpa using hl) (Nat.zero_le _))
 obtain⟨e1,ho1⟩:∃e1,(s.heap.update a (Obj.mapSeq fun _=>#[])).get? a=some (seqObj "list" #[] e1):=⟨_,get?_update_seq ho (fun _=>#[])⟩
 refine wpAny_bind (seqEpoch_at ho1 rfl ?_)
 refine wpAny_bind (wpAny_newTuple ?_ (by show vs.length≤_;exact hl))
 refine wpAny_bind (wpAny_newList ?_ (Nat.zero_le _))
 refine wpAny_holding ?_
 have ho6:(((s.heap.update a (Obj.mapSeq fun _=>#[])).push (seqObj "tuple" vs.toArray 0)).push (seqObj "list" #[] 0)).get? a=some (seqObj "list" #[] e1):=by
  rw[Heap.get?_push_ne _ _ _ (by rw[size_push',Heap.size_update];exact Nat.ne_of_lt (Nat.lt_succ_of_lt ha)),Heap.get?_push_ne _ _ _ (by rw[Heap.size_update];exact Nat.ne_of_lt ha)]
  exact ho1
 have ak:=R (((s.heap.update a (Obj.mapSeq fun _=>#[])).push (seqObj "tuple" vs.toArray 0)).push (seqObj "list" #[] 0)) (fun b o hb e=>Heap.get?_push_of_some _ (Heap.get?_push_of_some _ ((Heap.get?_update_other _ _ (Ne.symm hb)).trans e)))
 show wpAny (model prog w) A _ P E { s with heap:=((s.heap.update a (Obj.mapSeq fun _=>#[])).push (seqObj "tuple" vs.toArray 0)).push (seqObj "list" #[] 0) }
 dsimp only
 have hsz:vs.toArray.size=vs.length:=by simp
 have fin:=h
 by_cases h2:vs.toArray.size<2
 ·rw[if_pos h2,if_pos h2]
  refine wpAny_bind (wpAny_pure ?_)
  rw[StateT.run_pure]
  refine wpAny_bind (wpAny_pure ?_)
  dsimp only
  refine wpAny_bind (seqEpoch_at ho6 rfl ?_)
  refine wpAny_bind (listUpdate_at ho6 rfl ?_ (Nat.zero_le _) (by rw[Array.size_map];show(pairsOf vs).size≤_;rw[pairsOf_size];exact Nat.le_succ_of_le hl))
  simp only[bne_self_eq_false,Bool.false_eq_true,if_false]
  refine wpAny_pure (fin (SortSt.mk' general' (vs.toArray.zip vs.toArray) #[] 7 none) (List.Perm.refl _) ?_)
  show Srt rk (pairsOf vs).toList
  exact zlG (by rw[Array.length_toList,pairsOf_size];omega)
 ·rw[if_neg h2,if_neg h2]
  obtain⟨κ,ka,kr⟩:=ak.ask (by omega)
  refine wpAny_bind (ka _ ?_)
  refine wpAny_bind (wpAny_mono (hr (by omega) kr (st:=SortSt.mk' κ (vs.toArray.zip vs.toArray) #[] 7 none)
   (Q:=fun _ st'=>(arrOf st').toList.Perm (pairsOf vs).toList∧Srt rk (arrOf st').toList∧failedOf st'=none) rfl rfl rfl (by rw[←pairsOf_size vs];rfl) (fun x hx=>hx) fun st' a1 a2 a3=>⟨a1,a2,a3⟩) ?_ fun _ _ e=>e)
  rintro⟨⟨⟩,st'⟩ s' ⟨rfl,hp,hs,hf⟩
  dsimp only
  refine wpAny_bind (seqEpoch_at ho6 rfl ?_)
  refine wpAny_bind (listUpdate_at ho6 rfl ?_ (Nat.zero_le _) (by
   rw[Array.size_map,←Array.length_toList,hp.length_eq,Array.length_toList,pairsOf_size];exact Nat.le_succ_of_le hl))
  rw[hf]
  simp only[bne_self_eq_false,Bool.false_eq_true,if_false]
  exact wpAny_pure (fin st' hp hs)
theorem sorted_R{l:Addr}{vs:List Value}{Q:Value→Shared→Prop}{rk:Keyed→Int}(hl:s.heap.IsList l vs.toArray)(hz:vs.length≤sizeLine)(hr:2≤vs.length→zlF vs.length)
  (R:∀h',(∀b o,s.heap.get? b=some o→h'.get? b=some o)→Ask prog w A.in1.in1 E vs rk { s with heap:=h' })
  (h:∀st':SortSt,(arrOf st').toList.Perm (pairsOf vs).toList→Srt rk (arrOf st').toList→Q (.ref (s.heap.objs.size+1)) { s with heap:=sortedAll s.heap vs ((arrOf st').map (·.2)) }) :
  wpAny (model prog w) A (call (.builtin "sorted") [.ref l]) Q E s:=by
 refine Calls.call_function_entry kind_sorted plain_sorted entry_sorted (args_sorted1 _) ?_
 unfold Builtin.«sorted»
 refine wpAny_bind (m:=checkCount "sorted" 1 1 _) (wpAny_pure ?_)
 refine wpAny_bind (collect_list hl ?_ hz)
 refine wpAny_bind (wpAny_newList ?_ hz)
 have hsz:((s.heap.push (seqObj "list" #[] 0)).update s.heap.objs.size (Obj.mapSeq (·++vs.toArray))).objs.size=s.heap.objs.size+1:=by
  rw[Heap.size_update,size_push']
 have hoL:(((s.heap.push (seqObj "list" #[] 0)).update s.heap.objs.size (Obj.mapSeq (·++vs.toArray))).push (seqObj "list" vs.toArray 0)).get? (s.heap.objs.size+1)=some (seqObj "list" vs.toArray 0):=by
  rw[←hsz];exact Heap.get?_push_size _ rfl
 have keep:∀b o,s.heap.get? b=some o→(((s.heap.push (seqObj "list" #[] 0)).update s.heap.objs.size (Obj.mapSeq (·++vs.toArray))).push (seqObj "list" vs.toArray 0)).get? b=some o:=fun b o q=>by
  have hlt:b<s.heap.objs.size:=Heap.lt_size q
  rw[Heap.get?_push_ne _ _ _ (by rw[hsz];exact Nat.ne_of_lt (Nat.lt_succ_of_lt hlt)),Heap.get?_update_ne _ _ _ _ (Nat.ne_of_lt hlt),Heap.get?_push_ne _ _ _ (Nat.ne_of_lt hlt)]
  exact q
 show wpAny _ _ _ _ _ { s with heap:=((s.heap.push (seqObj "list" #[] 0)).update s.heap.objs.size (Obj.mapSeq (·++vs.toArray))).push (seqObj "list" vs.toArray 0) }
 rw[hsz]
 refine wpAny_bind (wpAny_holding (wpAny_call_entry slot_list_sort ⟨_,hoL,rfl⟩ entry_list_sort (ziS (rk:=rk) hoL hz hr (fun h' k=>R h' fun b o e=>k b o (Nat.ne_of_lt (Nat.lt_succ_of_lt (Heap.lt_size e))) (keep b o e)) fun st' a1 a2=>⟨_,rfl,?_⟩) (args_list_sort _)))
 exact wpAny_pure ⟨_,rfl,h st' a1 a2⟩
end
end Ts
namespace HT
end HT
namespace Ts
open PySem PySem.W PyProof.Rows
end Ts
namespace Ts
open PySem PyProof.Rows
theorem zoE{rk:Keyed→Int}{ys:Array Keyed}(h:SrtI rk ys 0 ys.size):Srt rk ys.toList:=by
 refine List.pairwise_iff_getElem.mpr fun i j hi hj hij=>?_
 have hi2:i<ys.size:=by simpa using hi
 have hj2:j<ys.size:=by simpa using hj
 have:=h i j (by omega) hj2
 unfold kr at this
 rw[zg7 (by omega),zg7 (by omega)] at this
 simpa using this
theorem runs_64{n:Nat}(h1:1≤n)(h64:n<64):zlF n:=by
 intro M A E s κ ok rk R Q st hk hf hp hn oa q
 rw[sortRuns'_eq]
 refine wpS_bind (wpS_get ?_)
 dsimp only
 have hm:minRun' n n 0=n:=by
  obtain⟨f,e⟩:∃f,n=f+1:=⟨n-1,by omega⟩
  rw[show minRun' n n 0=minRun' (f+1) n 0 by rw[←e],minRun'_succ,if_pos h64]
  rfl
 rw[hn,hm]
 refine wpS_bind (wpS_mono (wpS_forRange (I:=fun i (c:Option Unit×Nat) st'=>c.1=none∧((i=0∧c.2=0∧st'=st)∨(1≤i∧c.2=n∧failedOf st'=none∧(pendingOf st').size≤1∧(arrOf st').toList.Perm (arrOf st).toList∧Srt rk (arrOf st').toList)))
  (Q:=fun(c:Option Unit×Nat) st'=>c.1=none∧failedOf st'=none∧(pendingOf st').size≤1∧(arrOf st').toList.Perm (arrOf st).toList∧Srt rk (arrOf st').toList) ?_ ?_ ⟨rfl,.inl ⟨rfl,rfl,rfl⟩⟩) ?_)
 ·rintro i ⟨c,lo⟩ st' _ hi ⟨hc,h⟩
  dsimp only at hc h ⊢
  subst hc
  rcases h with⟨rfl,rfl,rfl⟩ | ⟨i1,rfl,h⟩
  ·rw[if_neg (by omega),Nat.sub_zero]
   have fin:∀zs:Array Keyed,Sl (arrOf st') zs 0 n→SrtI rk zs 0 n→(arrOf (setArr st' zs)).toList.Perm (arrOf st').toList∧Srt rk (arrOf (setArr st' zs)).toList:=fun zs sl so=>by
    have hz:zs.size=n:=by rw[sl.size,hn]
    exact⟨Array.perm_iff_toList_perm.mp sl.pm,zoE (by rw[hz];exact so)⟩
   have pb:∀zs:Array Keyed,(pendingOf (setArr st' zs)).back?=none:=fun zs=>by show(pendingOf st').back?=none;rw[hp];rfl
   have ps:∀(zs:Array Keyed) (x:Nat×Nat×Nat),((pendingOf (setArr st' zs)).push x).size≤1:=fun zs x=>by show((pendingOf st').push x).size≤1;rw[hp];exact Nat.le_refl _
   refine wpS_bind (zlE R hk oa (by omega) (by omega) fun ys m m1 m2 sly soy=>?_)
   dsimp only
   split
   ·refine wpS_bind (zg6 ?_)
    refine wpS_bind (zkh R (st:=setArr st' ys) hk (sly.ok oa) (show 0+min n n≤ys.size by rw[sly.size,hn];omega) soy (by omega) fun zs slz soz=>?_)
    rw[Nat.min_self] at slz soz ⊢
    simp only[Bool.not_true,Bool.false_eq_true,if_false]
    refine wpS_bind (wpS_get ?_)
    have f2:=fin zs (sly.trans slz) soz
    rw[show(pendingOf (setArr (setArr st' ys) zs)).back?=none from pb zs]
    dsimp only
    exact wpS_bind (wpS_modify (wpS_pure ⟨rfl,.inr ⟨Nat.le_add_left _ _,by dsimp only;omega,hf,ps zs _,f2.1,f2.2⟩⟩))
   ·have hm2:m=n:=by omega
    subst hm2
    refine wpS_bind (wpS_get ?_)
    have f2:=fin ys sly soy
    rw[pb ys]
    dsimp only
    exact wpS_bind (wpS_modify (wpS_pure ⟨rfl,.inr ⟨Nat.le_add_left _ _,by dsimp only;omega,hf,ps ys _,f2.1,f2.2⟩⟩))
  ·rw[if_pos (Nat.le_refl _)]
   exact wpS_pure ⟨rfl,h⟩
 ·rintro⟨c,lo⟩ st' ⟨hc,h⟩
  dsimp only at hc h ⊢
  rcases h with⟨h,_⟩ | ⟨_,_,h⟩
  ·omega
  ·exact⟨hc,h⟩
 ·rintro⟨c,lo⟩ st' ⟨hc,f',p',pm,so⟩
  dsimp only at hc ⊢
  subst hc
  dsimp only
  refine wpS_bind (wpS_mono (wpS_forRange (I:=fun _ (c:Option Unit×Unit) st2=>c.1=none∧st2=st') (Q:=fun(c:Option Unit×Unit) st2=>c.1=none∧st2=st') ?_ (fun c st2 h=>h) ⟨rfl,rfl⟩) ?_)
  ·rintro j ⟨c,⟨⟩⟩ st2 _ hj ⟨hc,rfl⟩
   dsimp only at hc ⊢
   subst hc
   refine wpS_bind (wpS_get ?_)
   rw[if_pos p']
   exact wpS_pure ⟨rfl,rfl⟩
  ·rintro⟨c,⟨⟩⟩ st2 ⟨hc,rfl⟩
   dsimp only at hc ⊢
   subst hc
   exact wpS_pure (q st2 pm so f')
end Ts
namespace L2
open PySem PySem.Spec PyProof.Rows
theorem zlH{α β:Type}{f:α→β}{a b:List β}(h:a.Perm b):∀{L:List α},b=L.map f→∃L':List α,L'.Perm L∧a=L'.map f:=by
 induction h with
 | nil=>intro L e;exact⟨[],by rw[show L=[] from by simpa using e.symm],rfl⟩
 | cons x h ih=>
  intro L e
  cases L with
  | nil=>cases e
  | cons y L=>
   rw[List.map_cons] at e
   injection e with e1 e2
   obtain⟨L',h1,h2⟩:=ih e2
   exact⟨y::L',h1.cons y,by rw[List.map_cons,e1,h2]⟩
 | swap x y l=>
  intro L e
  match L,e with
  | [],e=>cases e
  | [_],e=>cases e
  | u::v::L,e=>
   simp only[List.map_cons,List.cons.injEq] at e
   exact⟨v::u::L,List.Perm.swap u v L,by simp[e]⟩
 | trans h1 h2 ih1 ih2=>
  intro L e
  obtain⟨L2,a1,a2⟩:=ih2 e
  obtain⟨L3,b1,b2⟩:=ih1 a2
  exact⟨L3,b1.trans a1,b2⟩
section
variable {X:Cx} {pos:Pos} {e:Expr} {te:TD}
theorem zlI{α:Type}{f:α→V}{g:α→Value}:∀{L:List α},(∀q∈L,RelV (f q) (g q))→Vals (L.map f) (L.map g)
 | [],_=>.nil
 | q::L,h=>.cons (h q List.mem_cons_self) (zlI fun x hx=>h x (List.mem_cons_of_mem _ hx))
theorem zlJ{α:Type}{K:PySem.W.Frag}{G:Hp}{f:α→V}{g:α→D}:∀{L:List α},(∀q∈L,Rep K G (f q) (g q))→Reps K G (L.map f) (L.map g)
 | [],_=>Reps.nil
 | q::L,h=>Reps.cons (h q List.mem_cons_self) (zlJ fun x hx=>h x (List.mem_cons_of_mem _ hx))
end
end L2
namespace L2
open PySem PySem.Spec PyProof.Rows
end L2
namespace L2
open PySem PySem.Spec PyProof.Rows
theorem zlK{X:Cx}{sts:List Stmt}:PXs X sts (fun _ _=>False):=⟨fun _ _ _=>False,fun _ _ _ _ _ _ h=>h.elim,fun _ _ _ _ _ _ _ _ _ h _=>h.elim⟩
end L2
namespace L2
open PySem PySem.Spec PyProof.Rows
end L2
namespace PySem
open Sem (wp)
end PySem
namespace PySem
open Sem (wp)
end PySem
namespace L2
open PySem PySem.Spec PyProof.Rows
end L2
namespace L2
open PySem PySem.Spec PyProof.Rows
end L2
namespace L2
open PySem PySem.Spec PyProof.Rows
section
variable {X:Cx} {pos:Pos} {scope:Scope} {N':List Str} {m:List (Option Nat)}
noncomputable def zrV(iF iS iN:Nat)(m:List (Option Nat))(tc tcnd:TDb)(ta:TX):TX:=fun D ρ=>iF<ρ.length∧iF≠iS∧iF≠iN∧match gt ρ iS,gt ρ iN with
 | .ov (.ll dss),.fz d=>dss.length≤sizeLine∧∃f:List L2.D→Bool,(∀ds∈dss,tc ((zfa m (ρ.set iS (.fz (.lst (dss.map .lst))))).set 0 (.fz (.lst ds))) fun b=>b=f ds)∧
   tcnd ((ρ.set iS (.fz (.lst (dss.map .lst)))).set iF (.ow ((dss.filter f).map .lst))) (fun b=>b=true↔dss.filter f=[])∧
   (dss.findIdx? f=none→ta D (ρ.set iF .un))∧
   ∀j ds,dss.findIdx? f=some j→dss[j]?=some ds→ds.length<sizeLine∧D.nx ((ρ.set iF .un).set iS (.ov (.ll (dss.set j (ds++[d])))))
 | _,_=>False
noncomputable def zlL(i:Nat)(te:TD):TX:=fun D ρ=>match gt ρ i with
 | .ov (.ll dss)=>te ρ fun r=>match r with
  | .ow ds=>dss.length<sizeLine∧D.nx (ρ.set i (.ov (.ll (dss++[ds]))))
  | _=>False
 | _=>False
theorem zlM(i:Nat){x:Str}{e:Expr}{te:TD}{p1 p2 pos':Pos}(he:PD X e te)(hN:X.N[i]?=some x:=by rfl)(hv:Vis X.env.scope x:=by first | exact Or.inl rfl | exact Or.inr (Or.inl rfl) | exact Or.inr (Or.inr rfl))(hd:(x==("__debug__":Str))=false:=by decide)
  (hcd:(x==("__classdict__":Str))=false:=by decide) (hst:starEach [e] X.env=(false,eval e X.env)::starEach [] X.env:=by rfl)
  (hb:∀{ta:TE} {t:TA},PE X (.Name x p1) ta→PA X [e] t→PE X (.Call (.Attribute (.Name x p1) "append" p2) [e] [] pos') (tBM X.K "list" zgV ta t):=by intro ta t h1 h2;exact zkR PySem.F.plainAttrs_list PySem.F.slot_list_append PySem.F.type_list_append zdy h1 h2) :
  PX X (.Expr (.Call (.Attribute (.Name x p1) "append" p2) [e] [] pos') pos) (zlL i te):=by
 obtain⟨t,p,q⟩:=he
 refine⟨_,zd2 (hb (zbY hN hv hd hcd) (zbp p zcE hst)),fun ρ σ G0 H0 G H D E k h g=>?_⟩
 unfold zlL at h
 split at h
 ·rename_i dss hg
  obtain⟨own,o1,o2⟩:=k.on
  obtain⟨a,fp,b1,b2,⟨ha,hr⟩,b4⟩:=o2 i _ hg
  refine⟨_,b1,.inl ⟨rfl,_,SqL.of ha⟩,?_⟩
  refine q ρ σ G0 H0 G H _ _ k h fun v H' r G' x1 rr hq=>?_
  split at hq
  ·rename_i ds
   obtain⟨qn,xs,rfl,c1,c2,c3,c4⟩:=rr
   have hna:qn≠a:=fun z=>by rw[z,ha] at c1;cases c1
   refine⟨a,fp.map V.ref,.ref qn,rfl,rfl,x1.h _ _ ha,by rw[List.length_map,hr.length];exact hq.1,?_⟩
   let H2:Hp:=fun b=>if b=qn then none else H' b
   have h2n:∀b,b≠qn→H2 b=H' b:=fun b h=>if_neg h
   have x2:Ext G H G' H2:=⟨x1.g,fun b u e=>by rw[h2n b (zar e c1)];exact x1.h b u e,fun b u e=>by rw[h2n b (zar e c2)];exact x1.s b u e,x1.n⟩
   refine g.nx _ _ G' _ x1.g ((k.ext x2).changeO hg b1 fun fp' nd ow=>?_) hq.2
   obtain⟨ha',hr'⟩:=ow
   have e3:fp'=fp:=by
    have:=(x2.h _ _ ha).symm.trans ha'
    injection this with this
    injection this with this
    exact((List.map_inj_right fun a b h=>by cases h;rfl).mp this).symm
   subst e3
   have nd':=List.nodup_cons.mp nd
   have hnf:qn∉fp':=fun z=>hr.here qn z c1
   refine⟨fp'++[qn],?_,⟨by rw[zaq];simp,RepL.snoc (hr.mono x1.g fun q hq zs e=>?_) (by rw[zal hna];exact c3) c4⟩,fun q hq=>?_,fun b hb hb2=>?_⟩
   ·rw[List.nodup_cons,List.nodup_append]
    refine⟨fun z=>?_,nd'.2,by simp,fun u hu w hw=>?_⟩
    ·rcases List.mem_append.mp z with z | z
     ·exact nd'.1 z
     ·simp at z;exact hna z.symm
    ·simp at hw
     subst hw
     exact fun z=>hnf (z▸hu)
   ·rw[zal (fun z:q=a=>nd'.1 (z▸hq))];exact x1.h _ _ e
   ·rcases List.mem_cons.mp hq with rfl | hq
    ·exact .inl (by simp)
    ·rcases List.mem_append.mp hq with hq | hq
     ·exact .inl (by simp[hq])
     ·simp at hq
      subst hq
      exact .inr (if_pos rfl)
   ·have hbq:b≠qn:=fun z=>hb2 (by rw[z];exact if_pos rfl)
    rw[zal (fun z=>hb (by simp[z])),h2n b hbq]
  ·exact hq.elim
 ·exact h.elim
end
end L2
namespace PySem
open Sem (wp)
end PySem
namespace L2
open PySem PySem.Spec PyProof.Rows
end L2
namespace L2
open PySem PySem.Spec PyProof.Rows
end L2
namespace PySem
open Sem (wp)
end PySem
namespace L2
open PySem PySem.Spec PyProof.Rows
end L2
namespace L2
open PySem
end L2
namespace L2
namespace SI
open PySem PySem.Spec PyProof.Rows
end SI
end L2
namespace L2
open PySem PySem.Spec PyProof.Rows
namespace SI
end SI
end L2
namespace L2
open PySem PySem.Spec PyProof.Rows
end L2
namespace L2
open PySem PySem.Spec PyProof.Rows
section
variable {P:Program} {w:World} {K:PySem.W.Frag} {mg:Str→Option Value} {base:Heap}
theorem zax{x:Str}{st:Stmt}{N ps:List Str}{t:SpD}{T:TX}{n d:Nat}(k:Nat)(A:At K mg x st)(S:FnScope N ps (defScope st))
  (body:∀(f:Addr) (cdv:Value) (A:Around) (outer:List Env) (s:Shared) (H:Hp) (E:XK),Room k (A.deeper (envOfC x (defScope st) s.heap.objs.size f cdv))→PXs (zjZ CX0 P w K mg base N x (defScope st) f cdv A outer s H E).nox (defBody st) T)
  (spec:∀(ds:List D) (Qr:R→Prop),ds.length=n→t ds Qr→T { nx:=fun _=>Qr (.fz .non),rt:=Qr } (zaF N ds))
  (b:∀(kV doc pm:Value) (an:Option Addr) (cdv ct:Value) (us:List Value),us.length=n→bindArgs (PySem.W.fnOf x x (defArgs st) (defBody st) (defScope st) .none kV doc pm an cdv ct) ⟨us,[]⟩=pure (ps.zip us)) (hn:ps.length=n:=by rfl) (hd:k+1=d:=by rfl):Known P w K mg base d x n t:=by
 subst hn hd
 obtain⟨f,fd,F,hm⟩:=A.ex
 exact⟨f,fd,ps,zcx F S (body f) spec,hm,F.kp,F.binds b⟩
end
end L2
namespace L2
open PySem PySem.Spec PyProof.Rows
end L2
namespace L2
open PySem PySem.Spec PyProof.Rows
section
variable {X:Cx}
noncomputable def zby(i:Int):Str:=Str.ofString (toString i)
theorem zlN:CallR X (.type "str") (fun xs H Q=>∃i:Int,xs=[.int i]∧i.natAbs<1000000000∧Q (.str (zby i)) H):=by
 intro pins s σ H xs us Q I r h
 obtain⟨i,rfl,hi,q⟩:=h
 obtain⟨u,rfl,t,rfl⟩:=zcw r
 refine PySem.P.str_of_int ?_ ⟨.str (zby i),H,I.tok _,⟨_,rfl⟩,q⟩
 by_cases h0:i.natAbs=0
 ·rw[h0];decide
 ·have:i.natAbs.log2<30:=by rw[Nat.log2_lt h0];omega
  omega
noncomputable def zh3:SpD:=fun ds Q=>match ds with
 | [.int i]=>i.natAbs<1000000000∧Q (.fz (.str (zby i)))
 | _=>False
theorem zh4:zd5 X (.type "str") zh3:=by
 refine⟨_,zlN,fun G H vs ds Q P s rs h k=>?_⟩
 unfold zh3 at h
 split at h
 ·obtain⟨v,rfl,rv⟩:=zb0 rs
  simp only[Rep] at rv
  subst rv
  exact⟨_,rfl,h.1,k _ _ _ G (.refl s) (fzR (by simp only[Rep])) h.2⟩
 ·exact h.elim
end
end L2
namespace Ts
open PySem PySem.W PyProof.Rows
section
variable {prog:Program} {w:World} {A:Around} {E:Value→Shared→Prop} {s:Shared}
noncomputable def pfOf(h:Heap)(v:Value):Int×Str:=match v with
 | .ref a=>match h.get? a with
  | some o=>match o.data with
   | .seq xs _=>match xs.toList with
    | [.int i _,.str x _]=>(i,x)
    | _=>(0,"")
   | _=>(0,"")
  | none=>(0,"")
 | _=>(0,"")
noncomputable def PairAt(h:Heap)(v:Value):Prop:=∃a o t u n,v=.ref a∧h.get? a=some o∧o.cls=.type "tuple"∧o.data=.seq #[.int (pfOf h v).1 t,.str (pfOf h v).2 u] n
theorem zeP{h h':Heap}(k:∀b o,h.get? b=some o→h'.get? b=some o):∀{its:List Value},(∀v∈its,PairAt h v)→∃fs,KatTups h' its fs∧fs.length=its.length∧∀v∈fs,∃n t,v=Value.int n t
 | [],_=>⟨[],.nil,rfl,fun v hv=>by cases hv⟩
 | v::r,hv=>by
  obtain⟨fs,h1,h2,h3⟩:=zeP k (its:=r) fun x hx=>hv x (List.mem_cons_of_mem _ hx)
  obtain⟨a,o,t,u,n,rfl,ho,hc,hd⟩:=hv v List.mem_cons_self
  exact⟨_,KatTups.cons (k _ _ ho) hc hd rfl h1,by simp[h2],fun x hx=>by
   rcases List.mem_cons.mp hx with rfl | hx
   ·exact⟨_,_,rfl⟩
   ·exact h3 x hx⟩
theorem ask_pairs{h h':Heap}{its:List Value}(k:∀b o,h.get? b=some o→h'.get? b=some o)(hv:∀v∈its,PairAt h v)(hd:∀v∈its,∀u∈its,(pfOf h v).1=(pfOf h u).1→(pfOf h v).2=(pfOf h u).2):Ask prog w A E its (fun x=>(pfOf h x.1).1) { s with heap:=h' }:=by
 refine⟨fun h2=>⟨tuples' (Value.type "int" != Value.type "tuple"),fun Q' q=>?_,⟨fun x y st Q ox oy hk q=>?_⟩⟩⟩
 ·obtain⟨fs,h1,h2',h3⟩:=zeP k hv
  refine kat_kind (s:={ s with heap:=h' }) (T:=.type "int") h1 (by omega) (fun v hv=>?_) (by decide +kernel) q
  obtain⟨n,t,rfl⟩:=h3 v hv
  exact Looks.of_pure rfl
 ·have mem:∀z,z∈pairsOf its→PairAt h z.1∧z.1∈its:=fun z hz=>by
   have:z.1∈its:=by
    unfold pairsOf at hz
    have hz2:z∈its.zip its:=by simpa using hz
    exact(List.of_mem_zip hz2).1
   exact⟨hv _ this,this⟩
  obtain⟨⟨a,oa,t,u,n,ea,ga,ca,da⟩,ma⟩:=mem x ox
  obtain⟨⟨b,ob,t',u',m,eb,gb,cb,db⟩,mb⟩:=mem y oy
  have hs:=hd _ ma _ mb
  rw[lt'_eq]
  refine wpS_bind (wpS_get ?_)
  rw[hk]
  generalize pfOf h x.1=p at *
  generalize pfOf h y.1=p' at *
  rw[ea,eb]
  have e2:(Value.type "int" != Value.type "tuple")=true:=by decide +kernel
  rw[e2]
  refine wpS_bind (wpS_lift (wpAny_attempt (kat_lt (k _ _ ga) da (k _ _ gb) db ?_)))
  refine kat_cons (wpAny_eqBool_int ?_)
  by_cases e:p.1=p'.1
  ·rw[e]
   simp only[BEq.rfl]
   refine kat_yes (kat_cons (wpAny_eqBool_str ?_))
   rw[hs e]
   simp only[decide_true]
   refine kat_yes (kat_nil ⟨rfl,?_⟩)
   rw[e,decide_eq_false (Int.lt_irrefl _)] at q
   exact wpS_pure q
  ·simp only[beq_eq_false_iff_ne.mpr e]
   exact kat_no (oneLt_int ⟨rfl,wpS_pure q⟩)
end
end Ts
namespace L2
open PySem PySem.Spec PyProof.Rows
noncomputable def dPr(p:Int×Str):D:=.tup [.int p.1,.str p.2]
section
variable {X:Cx}
theorem zki:CallR X (.builtin "sorted") (fun xs H Q=>∃(p:Addr) (ps:List (V×Int×Str)),xs=[.ref p]∧SqL X.K H p (ps.map (·.1))∧(∀q∈ps,∃b,q.1=.ref b∧SqT X.K H b [.int q.2.1,.str q.2.2])∧ps.length<64∧(∀a∈ps,∀b∈ps,a.2.1=b.2.1→a.2.2=b.2.2)∧
  ∀ps':List (V×Int×Str),ps'.Perm ps→ps'.Pairwise (fun x y=>x.2.1≤y.2.1)→∀l,H l=none→Q (.ref l) (upd H l (.lst (ps'.map (·.1))))):=by
 intro pins s σ H xs us Q I r h
 obtain⟨p,ps,rfl,hq,hk,hr,hdd,q⟩:=h
 obtain⟨u,rfl,ru⟩:=zcw r
 cases ru
 obtain⟨its,rv,pl,hz⟩:=I.list hq
 have hl:ps.length=its.length:=by rw[←rv.length,List.length_map]
 obtain⟨LL,e1,e2⟩:∃LL:List ((V×Int×Str)×Value),ps=LL.map (·.1)∧its=LL.map (·.2):=
  ⟨ps.zip its,(List.map_fst_zip (by omega)).symm,(List.map_snd_zip (by omega)).symm⟩
 have rel:∀z∈LL,RelV z.1.1 z.2:=fun z hz=>by
  obtain⟨i,hi⟩:=List.getElem?_of_mem hz
  have h1:(ps.map (·.1))[i]?=some z.1.1:=by rw[e1];simp[hi]
  obtain⟨v',hv',rx⟩:=rv.get h1
  have h2:its[i]?=some z.2:=by rw[e2];simp[hi]
  rw[h2] at hv';cases hv'
  exact rx
 have tup:∀z∈LL,Ts.PairAt s.heap z.2∧Ts.pfOf s.heap z.2=z.1.2:=fun z hz=>by
  obtain⟨b,eb,sq⟩:=hk z.1 (by rw[e1];exact List.mem_map_of_mem hz)
  have rz:=rel z hz
  obtain⟨i1,v1,p1,_⟩:=I.tuple sq
  obtain⟨o1,g1,c1,n1,d1⟩:=p1
  obtain⟨⟨zv,zi,zs⟩,zw⟩:=z
  simp only at eb rz v1 ⊢
  subst eb
  cases rz
  obtain⟨u1,u2,rfl,⟨t1,rfl⟩,⟨t2,rfl⟩⟩:=ziF v1
  have e:Ts.pfOf s.heap (.ref b)=(zi,zs):=by
   unfold Ts.pfOf
   simp only[g1,d1]
  exact⟨⟨b,o1,t1,t2,n1,rfl,g1,c1,by rw[e];exact d1⟩,e⟩
 refine Ts.sorted_R (rk:=fun x=>(Ts.pfOf s.heap x.1).1) pl.isList (by rw[←hl,←List.length_map (f:=(·.1))];exact hz) (fun h2=>Ts.runs_64 (by omega) (by omega)) (fun h' k=>Ts.ask_pairs k (fun v hv=>?_) fun v hv u hu=>?_) fun st' hp hs=>?_
 ·rw[e2] at hv
  obtain⟨z,hz,rfl⟩:=List.mem_map.mp hv
  exact(tup z hz).1
 ·rw[e2] at hv hu
  obtain⟨z,hz,rfl⟩:=List.mem_map.mp hv
  obtain⟨y,hy,rfl⟩:=List.mem_map.mp hu
  rw[(tup z hz).2,(tup y hy).2]
  exact hdd _ (by rw[e1];exact List.mem_map_of_mem hz) _ (by rw[e1];exact List.mem_map_of_mem hy)
 ·have ep:(PyProof.Rows.pairsOf its).toList=LL.map fun z=>((z.2,z.2):Keyed):=by
   unfold PyProof.Rows.pairsOf
   rw[e2]
   simp only[List.zip_toArray]
   clear e1 e2 rel tup hp hs
   induction LL with
   | nil=>rfl
   | cons a r ih=>simp at ih ⊢;exact ih
  obtain⟨L',h1,h2⟩:=zlH (hp.trans (List.Perm.of_eq ep)) rfl
  have relp:∀z∈L',RelV z.1.1 z.2:=fun z hz=>rel z (h1.subset hz)
  have out:((arrOf st').map (·.2)).toList=L'.map (·.2):=by
   rw[Array.toList_map,h2,List.map_map];rfl
  obtain⟨en,he⟩:=sortedAll_at s.heap its ((arrOf st').map (·.2))
  have hf:H (s.heap.objs.size+1)=none:=I.hok.fresh (Nat.le_succ _)
  have q':=q (L'.map (·.1)) (by rw[e1];exact h1.map _) (by
   rw[List.pairwise_map]
   unfold Ts.Srt at hs
   rw[h2,List.pairwise_map] at hs
   refine hs.imp_of_mem fun{a b} ha hb hab=>?_
   have ta:=(tup a (h1.subset ha)).2
   have tb:=(tup b (h1.subset hb)).2
   simp only[ta,tb] at hab
   omega) _ hf
  rw[List.map_map] at q'
  refine⟨.ref (s.heap.objs.size+1),_,I.laid (a:=s.heap.objs.size+1) (o:=.lst (L'.map ((·.1)∘(·.1)))) (t':=s.toks) (fun b o e=>sortedAll_old e) (Nat.le_succ _) ?_,rfl,q'⟩
  refine⟨by rw[List.length_map,h1.length_eq];have:LL.length=its.length:=by rw[e2,List.length_map]
            rw[this,←hl,←List.length_map (f:=(·.1))];exact hz,((arrOf st').map (·.2)).toList,en,?_,?_⟩
  ·rw[out];exact zlI relp
  ·rw[Array.toArray_toList];exact he
noncomputable def zfc:SpD:=fun ds Q=>∃ps:List (Int×Str),ds=[.lst (ps.map dPr)]∧ps.length<64∧(∀a∈ps,∀b∈ps,a.1=b.1→a.2=b.2)∧∀ps':List (Int×Str),ps'.Perm ps→ps'.Pairwise (fun x y=>x.1≤y.1)→Q (.ow (ps'.map dPr))
theorem zgJ{K:PySem.W.Frag}{G:Hp}:∀{xs:List V} {ps:List (Int×Str)},Reps K G xs (ps.map dPr)→xs.length=ps.length∧∀q∈xs.zip ps,Rep K G q.1 (dPr q.2)∧∃b,q.1=.ref b∧SqT K G b [.int q.2.1,.str q.2.2]
 | [],[],_=>⟨rfl,fun q hq=>by cases hq⟩
 | v::xs,p::ps,r=>by
  rw[List.map_cons] at r
  simp only[Reps] at r
  obtain⟨h1,h2⟩:=zgJ r.2
  refine⟨by simp[h1],fun q hq=>?_⟩
  rw[List.zip_cons_cons] at hq
  rcases List.mem_cons.mp hq with rfl | hq
  ·refine⟨r.1,?_⟩
   have rr:=r.1
   unfold dPr at rr
   simp only[Rep] at rr
   obtain⟨a,ys,rfl,sq,ry⟩:=rr
   obtain⟨y,z,rfl,r1,r2⟩:=zmU ry
   simp only[Rep] at r1 r2
   subst r1 r2
   exact⟨a,rfl,sq⟩
  ·exact h2 q hq
 | [],_::_,r=>by rw[List.map_cons] at r;simp only[Reps] at r
 | _::_,[],r=>by rw[List.map_nil] at r;simp only[Reps] at r
theorem zlO(_:X.calm=true):zd5 X (.builtin "sorted") zfc:=by
 refine⟨_,zki,fun G H vs ds Q P s rs h k=>?_⟩
 obtain⟨ps,rfl,hl,hd,q⟩:=h
 obtain⟨v,rfl,rv⟩:=zb0 rs
 simp only[Rep] at rv
 obtain⟨a,xs,rfl,h1,h2⟩:=rv
 obtain⟨h3,hz⟩:=zgJ h2
 have e1:(xs.zip ps).map (·.1)=xs:=List.map_fst_zip (by omega)
 have e2:(xs.zip ps).map (·.2)=ps:=List.map_snd_zip (by omega)
 have el:(xs.zip ps).length=ps.length:=by rw[List.length_zip];omega
 have inp:∀z∈xs.zip ps,z.2∈ps:=fun z hq=>by
  have:=List.mem_map_of_mem (f:=(·.2)) hq
  rw[e2] at this
  exact this
 refine⟨a,xs.zip ps,rfl,by rw[e1];exact(s.rdl h1).sq,fun z hq=>?_,by omega,fun y hy z hq=>hd _ (inp y hy) _ (inp z hq),fun ps' p1 p2=>?_⟩
 ·obtain⟨_,b,e,sq⟩:=hz z hq
  exact⟨b,e,s.seqT sq⟩
 ·refine zdf s (ds:=(ps'.map (·.2)).map dPr) ?_ (q (ps'.map (·.2)) ((p1.map _).trans (List.Perm.of_eq e2)) (by rw[List.pairwise_map];exact p2)) k
  rw[List.map_map]
  exact zlJ fun q hq=>(hz q (p1.subset hq)).1
end
end L2
namespace L2
open PySem PySem.Spec PyProof.Rows
noncomputable def zg8:D→Bool
 | .tup ds=>ds.all zcN
 | d=>zcN d
noncomputable def zm3:Sl→Prop
 | .ov (.dc _)=>True
 | .ov (.ll _)=>True
 | .ov _=>False
 | _=>True
noncomputable def zdc(i:Nat)(te:TD):TD:=fun ρ Q=>zm3 (gt ρ i)∧te (frz i ρ) fun r=>match r with
 | .ow ds=>ds.all zg8=true∧Q (.ow ds)
 | _=>False
theorem zm4{K:PySem.W.Frag}{G H0 H:Hp}{L:List Addr}{v:V}{d:D}(hs:Same G H)(hH:Same H0 H)(hT:∀q∈L,H0 q≠none∧∀xs,¬Rd H0 q (.tup xs))(hf:zg8 d=true)(r:Rep K G v d):Rep K (zjw G L) v d:=by
 cases d with
 | tup ds=>
  simp only[Rep] at r ⊢
  obtain⟨a,xs,rfl,h1,h2⟩:=r
  exact⟨a,xs,rfl,zm2 hs hH (fun q hq=>(hT q hq).1) (fun q hq=>(hT q hq).2) h1,zfs hf h2⟩
 | _=>exact zdM hf r
theorem zh5{K:PySem.W.Frag}{G H0 H:Hp}{L:List Addr}(hs:Same G H)(hH:Same H0 H)(hT:∀q∈L,H0 q≠none∧∀xs,¬Rd H0 q (.tup xs)):∀{vs:List V} {ds:List D},ds.all zg8=true→Reps K G vs ds→Reps K (zjw G L) vs ds
 | [],[],_,_=>Reps.nil
 | v::vs,d::ds,h,r=>by
  simp only[Reps] at r
  rw[List.all_cons,Bool.and_eq_true] at h
  exact Reps.cons (zm4 hs hH hT h.1 r.1) (zh5 hs hH hT h.2 r.2)
 | [],_::_,_,r=>by simp only[Reps] at r
 | _::_,[],_,r=>by simp only[Reps] at r
section
variable {X:Cx} {pos:Pos} {e i':Expr} {te ti:TD}
theorem zc5(i:Nat)(h:PD X e te):PD X e (zdc i te):=by
 obtain⟨tt,p,q⟩:=h
 refine⟨tt,p,fun ρ σ G0 H0 G H Q P E h k=>?_⟩
 obtain⟨L,hL,E1,hT⟩:=E.freezeL i
 have hT':=hT fun o ho=>by
  have:=h.1
  rw[ho] at this
  cases o with
  | dc kvs=>exact .inl ⟨kvs,rfl⟩
  | ll dss=>exact .inr ⟨dss,rfl⟩
  | dl=>exact this.elim
  | tl=>exact this.elim
  | ld=>exact this.elim
  | dt=>exact this.elim
  | tp=>exact this.elim
  | ob=>exact this.elim
 refine q _ σ G0 H0 _ H _ _ E1 h.2 fun v H' r G' x rr hq=>?_
 have x2:=zg4 hL x
 split at hq
 ·rename_i ds
  obtain⟨p,xs,rfl,c1,c2,c3,c4⟩:=rr
  refine k _ H' (.ow ds) (zjw G' L) x2 ⟨p,xs,rfl,c1,?_,c3,zh5 x.s x.h hT' hq.1 c4⟩ hq.2
  unfold zjw
  split
  ·rfl
  ·exact c2
 ·exact hq.elim
noncomputable def zoF(ta tb:TD):TD:=fun ρ Q=>ta ρ fun ra=>match ra with
 | .ow ds=>tb ρ fun rb=>match rb with
  | .ow es=>Q (.ov (.ll [ds,es]))
  | _=>False
 | _=>False
theorem zoG{a b:Expr}{ta tb:TD}(ha:PD X a ta)(hb:PD X b tb)(hst:starEach [a,b] X.env=(false,eval a X.env)::starEach [b] X.env:=by rfl)(hst2:starEach [b] X.env=(false,eval b X.env)::starEach [] X.env:=by rfl):PD X (.List [a,b] pos) (zoF ta tb):=by
 obtain⟨t1,p1,q1⟩:=ha
 obtain⟨t2,p2,q2⟩:=hb
 refine⟨_,zhD (zbp p1 (zbp p2 zcE hst2) hst),fun ρ σ G0 H0 G H Q P E h k=>?_⟩
 refine q1 ρ σ G0 H0 G H _ _ E h fun v H1 ra G1 x1 rr1 hq1=>?_
 split at hq1
 ·rename_i ds
  obtain⟨p,xs,rfl,b1,b2,b3,b4⟩:=rr1
  refine q2 ρ σ G0 H0 G1 H1 _ _ (E.ext x1) hq1 fun u H3 rb G3 x3 rr3 hq3=>?_
  split at hq3
  ·rename_i es
   obtain⟨q,ys,rfl,c1,c2,c3,c4⟩:=rr3
   refine⟨by show 2≤sizeLine;decide,fun a ha=>?_⟩
   have x23:=x1.trans x3
   have haq:a≠q:=fun z=>by rw[z,c3] at ha;cases ha
   have h3p:H3 p=some (.lst xs):=x3.h _ _ b3
   have hap:a≠p:=fun z=>by rw[z,h3p] at ha;cases ha
   have hpq:p≠q:=fun z=>by rw[z,c1] at b3;cases b3
   refine k _ _ (.ov (.ll [ds,es])) G3 (x23.trans (.own x23.s ha)) ⟨a,[p,q],rfl,by simp[haq,hap,hpq],⟨zaq,?_⟩,fun r hr=>?_⟩ hq3
   ·simp only[RepL]
    exact⟨⟨xs,by rw[zal hap.symm];exact h3p,b4.mono x3.g⟩,⟨ys,by rw[zal haq.symm];exact c3,c4⟩,trivial⟩
   ·simp only[List.mem_cons,List.not_mem_nil,or_false] at hr
    rcases hr with rfl | rfl | rfl
    ·exact⟨x23.h.free ha,x23.s.free ha⟩
    ·exact⟨b1,x3.n _ b2 (by rw[b3];exact nofun)⟩
    ·exact⟨x1.h.free c1,c2⟩
  ·exact hq3.elim
 ·exact hq1.elim
noncomputable def zoH:List Nat→TA
 | []=>zqO
 | i::r=>zoc (zqm i) (zoH r)
noncomputable def PV(X:Cx)(es:List Expr)(is:List Nat):Prop:=PA X es (zoH is)
theorem zpM:PV X [] []:=zcE
theorem zdj(i:Nat){is:List Nat}{es:List Expr}{x:Str}{p':Pos}(h:PV X es is)(hN:X.N[i]?=some x:=by rfl)(hv:Vis X.env.scope x:=by first | exact Or.inl rfl | exact Or.inr (Or.inl rfl) | exact Or.inr (Or.inr rfl))(hd:(x==("__debug__":Str))=false:=by decide)
  (hcd:(x==("__classdict__":Str))=false:=by decide) (hs:starEach (.Name x p'::es) X.env=(false,eval (.Name x p') X.env)::starEach es X.env:=by rfl):PV X (.Name x p'::es) (i::is):=zbp (zbY hN hv hd hcd) h hs
noncomputable def zkj(ρ:Ev):List Nat→(List (List D)→Prop)→Prop
 | [],Q=>Q []
 | i::r,Q=>match gt ρ i with
  | .ow ds=>zkj ρ r fun dss=>Q (ds::dss)
  | _=>False
theorem znL{K:PySem.W.Frag}{G0 H0 G H:Hp}{ρ:Ev}{σ:St}(E:EOk K G0 H0 ρ σ G H):∀{is:List Nat} {Q:List (List D)→Prop},is.Nodup→zkj ρ is Q→∃(ps:List Addr) (dss:List (List D)),Q dss∧RepL K G H ps dss∧ps.Nodup∧ps.length=is.length∧(∀q∈ps,G q=none∧H0 q=none∧H q≠none∧∃j∈is,∃ds,gt ρ j=.ow ds∧σ[j]?=some (some (.ref q)))∧∀P,P (ps.map V.ref) H→zoH is σ H P
 | [],Q,_,h=>⟨[],[],h,by simp only[RepL],by simp,rfl,fun q hq=>(by cases hq),fun P h=>h⟩
 | i::r,Q,nd,h=>by
  unfold zkj at h
  split at h
  ·rename_i ds hg
   rw[List.nodup_cons] at nd
   obtain⟨ps,dss,h1,h2,h3,h4,h5,h6⟩:=znL E nd.2 h
   obtain⟨p,xs,a1,a2,a3,a4,a5⟩:=E.ow i ds hg
   refine⟨p::ps,ds::dss,h1,?_,?_,by simp[h4],fun q hq=>?_,fun P hP=>⟨_,a1,h6 _ hP⟩⟩
   ·simp only[RepL]
    exact⟨⟨xs,a2,a5⟩,h2⟩
   ·rw[List.nodup_cons]
    refine⟨fun z=>?_,h3⟩
    obtain⟨_,_,_,j,hj,es,g1,g2⟩:=h5 p z
    exact E.dj i j ds es (fun z=>nd.1 (z▸hj)) hg g1 (by rw[a1,g2])
   ·rcases List.mem_cons.mp hq with rfl | hq
    ·exact⟨a3,a4,by rw[a2];exact nofun,i,by simp,ds,hg,a1⟩
    ·obtain⟨b1,b2,b3,j,hj,b4⟩:=h5 q hq
     exact⟨b1,b2,b3,j,List.mem_cons_of_mem _ hj,b4⟩
  ·exact h.elim
noncomputable def zjB(is:List Nat):TX:=fun D ρ=>zkj ρ is fun dss=>D.rt (.ov (.ll dss))
theorem zm5(is:List Nat){es:List Expr}{p':Pos}(h:PV X es is)(nd:is.Nodup:=by decide)(hl:is.length≤sizeLine:=by decide):PX X (.Return (some (.List es p')) pos) (zjB is):=by
 refine⟨_,zhA (zhD h),fun ρ σ G0 H0 G H D E k h g=>?_⟩
 obtain⟨ps,dss,h1,h2,h3,h4,h5,h6⟩:=znL k nd h
 refine h6 _ ⟨by rw[List.length_map,h4];exact hl,fun a ha=>?_⟩
 have hn:a∉ps:=fun z=>(h5 a z).2.2.1 ha
 refine g.rt _ _ (.ov (.ll dss)) G (k.e.trans (.own k.e.s ha)) ⟨a,ps,rfl,List.nodup_cons.mpr ⟨hn,h3⟩,⟨zaq,h2.mono (Same.refl _) fun q hq xs e=>?_⟩,fun q hq=>?_⟩ h1
 ·rw[zal (fun z:q=a=>hn (z▸hq))];exact e
 ·rcases List.mem_cons.mp hq with rfl | hq
  ·exact⟨k.e.h.free ha,k.e.s.free ha⟩
  ·exact⟨(h5 q hq).2.1,(h5 q hq).1⟩
theorem RepL.put{K:PySem.W.Frag}{G H:Hp}{q:Addr}{xs:List V}{es:List D}(hq:H q=some (.lst xs))(hr:Reps K G xs es):∀{qs:List Addr} {dss:List (List D)} (j:Nat),RepL K G H qs dss→RepL K G H (qs.set j q) (dss.set j es)
 | [],[],j,h=>by simpa using h
 | p::qs,ds::dss,0,h=>by
  simp only[RepL] at h
  simp only[List.set_cons_zero,RepL]
  exact⟨⟨xs,hq,hr⟩,h.2⟩
 | p::qs,ds::dss,j+1,h=>by
  simp only[RepL] at h
  simp only[List.set_cons_succ,RepL]
  exact⟨h.1,RepL.put hq hr j h.2⟩
 | [],_::_,_,h=>by simp only[RepL] at h
 | _::_,[],_,h=>by simp only[RepL] at h
theorem zh6{α:Type}{q:α}:∀{l:List α} (j:Nat),l.Nodup→q∉l→(l.set j q).Nodup
 | [],_,_,_=>by simp
 | a::l,0,h,hn=>by
  rw[List.nodup_cons] at h
  rw[List.set_cons_zero,List.nodup_cons]
  exact⟨fun z=>hn (List.mem_cons_of_mem _ z),h.2⟩
 | a::l,j+1,h,hn=>by
  rw[List.nodup_cons] at h
  rw[List.set_cons_succ,List.nodup_cons]
  refine⟨fun z=>?_,zh6 j h.2 fun z=>hn (List.mem_cons_of_mem _ z)⟩
  rcases List.mem_or_eq_of_mem_set z with z | z
  ·exact h.1 z
  ·exact hn (by rw[z];simp)
noncomputable def zed(i:Nat)(ti te:TD):TX:=fun D ρ=>match gt ρ i with
 | .ov (.ll dss)=>te ρ fun r=>match r with
  | .ow es=>ti ρ fun rk=>match rk.val with
   | .int k=>∃j,ixN dss.length k=some j∧D.nx (ρ.set i (.ov (.ll (dss.set j es))))
   | _=>False
  | _=>False
 | _=>False
theorem zh7(i:Nat){x:Str}{p1 p2:Pos}(hi:PD X i' ti)(he:PD X e te)(hN:X.N[i]?=some x:=by rfl)(hv:Vis X.env.scope x:=by first | exact Or.inl rfl | exact Or.inr (Or.inl rfl) | exact Or.inr (Or.inr rfl))(hd:(x==("__debug__":Str))=false:=by decide)(hcd:(x==("__classdict__":Str))=false:=by decide)
  (ha:∀v,assign (.Subscript (.Name x p1) i' p2) X.env v=(do
   let ov ←holding [v] (eval (.Name x p1) X.env)
   let iv ←holding [v,ov] (eval i' X.env)
   standAt p2
   holding [v,ov,iv] (setItem ov iv v)
   release [v,ov,iv] []):=by intro _;rfl)
  (hs:swapsWithSole [.Subscript (.Name x p1) i' p2] e pos.line X.env=pure false:=by rfl) (hw:swappedStores [.Subscript (.Name x p1) i' p2] e X.env=pure none:=by rfl)
  (h1:(assignEach [.Subscript (.Name x p1) i' p2] X.env).map (·.2)=[assign (.Subscript (.Name x p1) i' p2) X.env]:=by rfl) :
  PX X (.Assign [.Subscript (.Name x p1) i' p2] e pos) (zed i ti te):=by
 obtain⟨t,p,q⟩:=he
 obtain⟨t2,p2',q2⟩:=hi
 refine⟨_,znr p (zph (zbY hN hv hd hcd) p2' zmD ha) hs hw h1,fun ρ σ G0 H0 G H D E k h g=>?_⟩
 unfold zed at h
 split at h
 ·rename_i dss hg
  obtain⟨own,o1,o2⟩:=k.on
  obtain⟨a,fp,b1,b2,⟨ha,hr⟩,b4⟩:=o2 i _ hg
  refine q ρ σ G0 H0 G H _ _ k h fun v H' r G' x1 rr hq=>?_
  split at hq
  ·rename_i es
   obtain⟨qn,xs,rfl,c1,c2,c3,c4⟩:=rr
   refine⟨_,b1,q2 ρ σ G0 H0 G' H' _ _ (k.ext x1) hq fun u H3 rk G3 x3 rr3 hq3=>?_⟩
   obtain⟨G4,x4,rv4,_⟩:=rr3.freeze x3
   split at hq3
   ·rename_i kk e1
    obtain⟨j,hj,hq3⟩:=hq3
    rw[e1] at rv4
    simp only[Rep] at rv4
    have x14:=x1.trans x4
    have d3:H3 qn=some (.lst xs):=x4.h _ _ c3
    have d2:G4 qn=none:=x4.n _ c2 (by rw[c3];exact nofun)
    refine⟨a,fp.map V.ref,kk,j,rfl,rv4,x14.h _ _ ha,by rw[List.length_map,hr.length];exact hj,?_⟩
    have hna:qn≠a:=fun z=>by rw[z,ha] at c1;cases c1
    let H2:Hp:=fun b=>if b=qn then none else H3 b
    have h2n:∀b,b≠qn→H2 b=H3 b:=fun b h=>if_neg h
    have x2:Ext G H G4 H2:=⟨x14.g,fun b u e=>by rw[h2n b (zar e c1)];exact x14.h b u e,fun b u e=>by rw[h2n b (zar e d2)];exact x14.s b u e,x14.n⟩
    refine g.nx _ _ G4 _ x14.g ((k.ext x2).changeO hg b1 fun fp' nd ow=>?_) hq3
    obtain⟨ha',hr'⟩:=ow
    have e3:fp'=fp:=by
     have:=(x2.h _ _ ha).symm.trans ha'
     injection this with this
     injection this with this
     exact((List.map_inj_right fun a b h=>by cases h;rfl).mp this).symm
    subst e3
    have nd':=List.nodup_cons.mp nd
    have hnf:qn∉fp':=fun z=>hr.here qn z c1
    refine⟨fp'.set j qn,?_,⟨by rw[zaq,List.map_set],RepL.put (xs:=xs) (by rw[zal hna];exact d3) (c4.mono x4.g) j (hr.mono x14.g fun q hq zs e=>?_)⟩,fun q hq=>?_,fun b hb hb2=>?_⟩
    ·rw[List.nodup_cons]
     refine⟨fun z=>?_,zh6 j nd'.2 hnf⟩
     rcases List.mem_or_eq_of_mem_set z with z | z
     ·exact nd'.1 z
     ·exact hna z.symm
    ·rw[zal (fun z:q=a=>nd'.1 (z▸hq))];exact x14.h _ _ e
    ·rcases List.mem_cons.mp hq with rfl | hq
     ·exact .inl (by simp)
     ·rcases List.mem_or_eq_of_mem_set hq with hq | rfl
      ·exact .inl (by simp[hq])
      ·exact .inr (if_pos rfl)
    ·have hbq:b≠qn:=fun z=>hb2 (by rw[z];exact if_pos rfl)
     rw[zal (fun z=>hb (by simp[z])),h2n b hbq]
   ·exact hq3.elim
  ·exact hq.elim
 ·exact h.elim
end
end L2
namespace L2
open PySem PySem.Spec PyProof.Rows
theorem zm6{α:Type}{l:List α}{n:Nat}(h:l.length=n+1):∃a r,l=a::r∧r.length=n:=by
 cases l with
 | nil=>cases h
 | cons a r=>exact⟨a,r,rfl,Nat.succ.inj h⟩
theorem zrS{α:Type}{l:List α}(h:l.length=0):l=[]:=List.eq_nil_of_length_eq_zero h
theorem zdx{α:Type}{l:List α}(h:l.length=1):∃a0,l=[a0]:=by
 obtain⟨a,r,e,h⟩:=zm6 h
 exact⟨a,by rw[e,zrS h]⟩
theorem zoI{α:Type}{l:List α}(h:l.length=2):∃a0 a1,l=[a0,a1]:=by
 obtain⟨a,r,e,h⟩:=zm6 h
 obtain⟨b0,e2⟩:=zdx h
 exact⟨a,b0,by rw[e,e2]⟩
theorem zrw{α:Type}{l:List α}(h:l.length=3):∃a0 a1 a2,l=[a0,a1,a2]:=by
 obtain⟨a,r,e,h⟩:=zm6 h
 obtain⟨b0,b1,e2⟩:=zoI h
 exact⟨a,b0,b1,by rw[e,e2]⟩
theorem zq2{α:Type}{l:List α}(h:l.length=4):∃a0 a1 a2 a3,l=[a0,a1,a2,a3]:=by
 obtain⟨a,r,e,h⟩:=zm6 h
 obtain⟨b0,b1,b2,e2⟩:=zrw h
 exact⟨a,b0,b1,b2,by rw[e,e2]⟩
theorem zq3{α:Type}{l:List α}(h:l.length=5):∃a0 a1 a2 a3 a4,l=[a0,a1,a2,a3,a4]:=by
 obtain⟨a,r,e,h⟩:=zm6 h
 obtain⟨b0,b1,b2,b3,e2⟩:=zq2 h
 exact⟨a,b0,b1,b2,b3,by rw[e,e2]⟩
theorem zrT{α:Type}{l:List α}(h:l.length=6):∃a0 a1 a2 a3 a4 a5,l=[a0,a1,a2,a3,a4,a5]:=by
 obtain⟨a,r,e,h⟩:=zm6 h
 obtain⟨b0,b1,b2,b3,b4,e2⟩:=zq3 h
 exact⟨a,b0,b1,b2,b3,b4,by rw[e,e2]⟩
theorem zrU{α:Type}{l:List α}(h:l.length=7):∃a0 a1 a2 a3 a4 a5 a6,l=[a0,a1,a2,a3,a4,a5,a6]:=by
 obtain⟨a,r,e,h⟩:=zm6 h
 obtain⟨b0,b1,b2,b3,b4,b5,e2⟩:=zrT h
 exact⟨a,b0,b1,b2,b3,b4,b5,by rw[e,e2]⟩
theorem zrx{α:Type}{l:List α}(h:l.length=8):∃a0 a1 a2 a3 a4 a5 a6 a7,l=[a0,a1,a2,a3,a4,a5,a6,a7]:=by
 obtain⟨a,r,e,h⟩:=zm6 h
 obtain⟨b0,b1,b2,b3,b4,b5,b6,e2⟩:=zrU h
 exact⟨a,b0,b1,b2,b3,b4,b5,b6,by rw[e,e2]⟩
theorem zrW{α:Type}{l:List α}(h:l.length=9):∃a0 a1 a2 a3 a4 a5 a6 a7 a8,l=[a0,a1,a2,a3,a4,a5,a6,a7,a8]:=by
 obtain⟨a,r,e,h⟩:=zm6 h
 obtain⟨b0,b1,b2,b3,b4,b5,b6,b7,e2⟩:=zrx h
 exact⟨a,b0,b1,b2,b3,b4,b5,b6,b7,by rw[e,e2]⟩
theorem zjC{f:Str}{v:V}:∀{gs:List (Str×V)},f∉gs.map (·.1)→zhy f v gs=gs++[(f,v)]
 | [],_=>rfl
 | (g,x)::r,h=>by
  simp only[List.map_cons,List.mem_cons,not_or] at h
  simp only[zhy,List.cons_append]
  rw[if_neg (fun z=>h.1 z.symm),zjC h.2]
structure MakingO (K:PySem.W.Frag) (C:Addr) (x dx:Addr) (G0 H0:Hp) (ρ:Ev) (σ:St) (G H:Hp) (fs:List (Str×List D)) (gs:List (Str×V)) (fp:List Addr):Prop where
 e:EOk K G0 H0 ρ σ G H
 sl:σ[0]?=some (some (.ref x))
 hx:H x=some (.ins C dx gs)
 hdx:H dx=some (.own x)
 gx:G x=none
 gdx:G dx=none
 n:gs.map (·.1)=fs.map (·.1)
 v:gs.map (·.2)=fp.map V.ref
 nd:fp.Nodup
 r:RepL K G H fp (fs.map (·.2))
 fr:∀q∈fp,H0 q=none∧G q=none
theorem MakingO.ext{K:PySem.W.Frag}{C x dx:Addr}{G0 H0:Hp}{ρ:Ev}{σ:St}{G H G' H':Hp}{fs:List (Str×List D)}{gs:List (Str×V)}{fp:List Addr}(M:MakingO K C x dx G0 H0 ρ σ G H fs gs fp)(y:Ext G H G' H'):MakingO K C x dx G0 H0 ρ σ G' H' fs gs fp:=
 ⟨M.e.ext y,M.sl,y.h _ _ M.hx,y.h _ _ M.hdx,y.n _ M.gx (by rw[M.hx];exact nofun),y.n _ M.gdx (by rw[M.hdx];exact nofun),M.n,M.v,M.nd,M.r.mono y.g fun q _ xs e=>y.h _ _ e,fun q hq=>⟨(M.fr q hq).1,y.n q (M.fr q hq).2 (M.r.here q hq)⟩⟩
noncomputable abbrev TIO:=Ev→List (Str×List D)→(List (Str×List D)→Prop)→Prop
section
variable {X:Cx} {pos:Pos} {e:Expr} {te:TD}
noncomputable def zqv(X:Cx)(C:Addr)(sts:List Stmt)(t:TIO):Prop:=∃tt,PSs X sts tt∧∀(x dx:Addr) (ρ:Ev) (σ:St) (G0 H0 G H:Hp) (fs:List (Str×List D)) (gs:List (Str×V)) (fp:List Addr) (Q:List (Str×List D)→Prop) (E:Ends),H0 x=none→H0 dx=none→dx≠x→(∀i o,gt ρ i≠.ov o)→
 MakingO X.K C x dx G0 H0 ρ σ G H fs gs fp→t ρ fs Q→(∀σ' G' H' fs' gs' fp',MakingO X.K C x dx G0 H0 ρ σ' G' H' fs' gs' fp'→Q fs'→E.nx σ' H')→tt E σ H
noncomputable def zoJ:TIO:=fun _ fs Q=>Q fs
noncomputable def zg9(f:Str)(te:TD)(u:TIO):TIO:=fun ρ fs Q=>te ρ fun r=>match r with
 | .ow ds=>fs.length<1000∧f∉fs.map (·.1)∧u ρ (fs++[(f,ds)]) Q
 | _=>False
theorem zm7{C:Addr}:zqv X C [] zoJ:=⟨_,zkA,fun x dx ρ σ G0 H0 G H fs gs fp Q E _ _ _ _ M h k=>k σ G H fs gs fp M h⟩
theorem zcz{C:Addr}{f x:Str}{p1 p2:Pos}{sts:List Stmt}{u:TIO}(c:Cls X.K C)(n:NoAttr X.K C f)(he:PD X e te)(hr:zqv X C sts u)(hN:X.N[0]?=some x:=by rfl)(hv:Vis X.env.scope x:=by first | exact Or.inl rfl | exact Or.inr (Or.inl rfl) | exact Or.inr (Or.inr rfl))
  (hs:swapsWith e (some (.Attribute (.Name x p1) f p2)) pos.line X.env=pure false:=by rfl) (hd:(x==("__debug__":Str))=false:=by decide) (hcd:(x==("__classdict__":Str))=false:=by decide) :
  zqv X C (.Assign [.Attribute (.Name x p1) f p2] e pos::sts) (zg9 f te u):=by
 obtain⟨t1,h1,q1⟩:=he
 obtain⟨t2,h2,q2⟩:=hr
 refine⟨_,zgR (zpo (zbY hN hv hd hcd) h1 hs) h2,fun x dx ρ σ G0 H0 G H fs gs fp Q E z1 z2 z3 z4 M h k=>?_⟩
 refine q1 ρ σ G0 H0 G H _ _ M.e h fun v H' r G' y rr hq=>?_
 split at hq
 ·rename_i ds
  obtain⟨p,xs,rfl,a1,a2,a3,a4⟩:=rr
  have M2:=M.ext y
  have lg:gs.length=fs.length:=by have:=congrArg List.length M.n;simpa using this
  have hfg:f∉gs.map (·.1):=by rw[M.n];exact hq.2.1
  have hpx:p≠x:=fun z=>by rw[z,M.hx] at a1;cases a1
  have hpf:p∉fp:=fun z=>M.r.here p z a1
  refine⟨_,M.sl,x,C,dx,gs,rfl,M2.hx,c,n,by rw[lg];exact hq.1,?_⟩
  rw[zjC hfg]
  have hfx:∀q∈fp,q≠x:=fun q hq z=>by
   obtain⟨zs,hz⟩:=M2.r.kind q hq
   rw[z,M2.hx] at hz;cases hz
  refine q2 x dx ρ σ G0 H0 G' _ (fs++[(f,ds)]) (gs++[(f,.ref p)]) (fp++[p]) Q E z1 z2 z3 z4 ?_ hq.2.2 k
  refine⟨⟨⟨M2.e.e.g,fun b o e=>by rw[zal (zar e z1)];exact M2.e.e.h b o e,fun b o e=>by rw[zal (zar e M2.gx)];exact M2.e.e.s b o e,M2.e.e.n⟩,M2.e.len,M2.e.fz,fun i ds h=>?_,M2.e.dj,?_⟩,M2.sl,zaq,by rw[zal z3];exact M2.hdx,M2.gx,M2.gdx,by simp[M2.n],by simp[M2.v],?_,?_,fun q hq=>?_⟩
  ·obtain⟨p,xs,b1,b2,b3,b4,b5⟩:=M2.e.ow i ds h
   exact⟨p,xs,b1,by rw[zal (zqx b2 M2.hx (by simp))];exact b2,b3,b4,b5⟩
  ·obtain⟨own,o1,o2⟩:=M2.e.on
   exact⟨own,o1,fun i o h=>(z4 i o h).elim⟩
  ·rw[List.nodup_append]
   refine⟨M.nd,by simp,fun a ha b hb=>?_⟩
   simp only[List.mem_singleton] at hb
   subst hb
   exact fun z=>hpf (z▸ha)
  ·rw[List.map_append]
   refine RepL.snoc (M2.r.mono (Same.refl _) fun q hq xs e=>?_) (by rw[zal hpx];exact a3) a4
   rw[zal (hfx q hq)];exact e
  ·rcases List.mem_append.mp hq with hq | hq
   ·exact M2.fr q hq
   ·simp only[List.mem_singleton] at hq
    subst hq
    exact⟨M.e.e.h.free a1,a2⟩
 ·exact hq.elim
end
section
variable {P:Program} {w:World} {K:PySem.W.Frag} {mg:Str→Option Value} {base:Heap}
theorem zm8{x qual cn:Str}{st:Stmt}{f C:Addr}{fd:FuncData}{N ps:List Str}{k:Nat}{t:SpD}{T:TIO}(F:Fun K x qual st f fd)(S:FnScope N ("self"::ps) (defScope st))(hC:ClsAt K cn C)
  (body:∀(cdv:Value) (A:Around) (outer:List Env) (s:Shared) (H:Hp) (E:XK),Room k (A.deeper (envOfC qual (defScope st) s.heap.objs.size f cdv))→zqv (zjZ CX0 P w K mg base N qual (defScope st) f cdv A outer s H E).nox C (defBody st) T)
  (spec:∀(ds:List D) (Qr:R→Prop),ds.length=ps.length→t ds Qr→T (zeO N ds) [] fun fs=>(∀p∈fs,NoAttr K C p.1)∧Qr (.ov (.ob cn fs))):FnOk P w K mg base CX0 (k+1) f fd ("self"::ps) (ISp K C ps.length t):=by
 refine F.ok S (fun vs H Q E h=>?_) (fun cdv A outer s H vs Q E hr h=>?_)
 ·obtain⟨x,dx,H1,G,ds,vs',Qr,rfl,_,_,_,_,_,r,hl,_⟩:=h
  simp[r.length,hl]
 ·obtain⟨x,dx,H1,G,ds,vs',Qr,rfl,rfl,hx,hdx,hne,s0,r,hl,ht,k0⟩:=h
  obtain⟨tt,p,q⟩:=body cdv A outer s _ E hr
  have E0:=zlv (N:=N) (x:=.ref x) s0 r
  have gx:=s0.free hx
  have gdx:=s0.free hdx
  have sH:Same H1 (upd (upd H1 dx (.own x)) x (.ins C dx [])):=fun b o e=>by rw[zal (zar e hx),zal (zar e hdx)];exact e
  have M0:MakingO K C x dx G H1 (zeO N ds) (zb8 N (.ref x::vs')) G (upd (upd H1 dx (.own x)) x (.ins C dx [])) [] [] []:=
   ⟨⟨⟨Same.refl _,sH,s0.trans sH,fun _ h _=>h⟩,E0.len,E0.fz,fun i ds h=>let⟨p,xs,b1,b2,b3,b4,b5⟩:=E0.ow i ds h;⟨p,xs,b1,sH _ _ b2,b3,b4,b5⟩,E0.dj,let⟨own,o1,o2⟩:=E0.on;⟨own,o1,fun i o h=>let⟨p,fp,b1,b2,b3,b4⟩:=o2 i o h;⟨p,fp,b1,b2,b3.mono (Same.refl _) fun q _ u e=>sH q u e,b4⟩⟩⟩,by simp[zb8],zaq,by rw[zal hne];exact zaq,gx,gdx,rfl,rfl,by simp,by simp only[List.map_nil,RepL],fun q hq=>(by cases hq)⟩
  refine⟨tt,p,q x dx _ _ G H1 G _ [] [] [] _ _ hx hdx hne (ziR _ _) M0 (spec ds Qr hl ht) fun σ' G' H' fs gs fp M hq=>?_⟩
  refine k0 H' (.ov (.ob cn fs)) G' M.e.e ⟨x,fp,rfl,List.nodup_cons.mpr ⟨fun z=>?_,M.nd⟩,⟨C,dx,gs,M.hx,hC,hq.1,M.n,M.v,M.r⟩,fun q hq=>?_⟩ hq.2
  ·obtain⟨zs,hz⟩:=M.r.kind x z
   rw[M.hx] at hz;cases hz
  ·rcases List.mem_cons.mp hq with rfl | hq
   ·exact⟨hx,M.gx⟩
   ·exact M.fr q hq
noncomputable def zjD(K:PySem.W.Frag)(names:List Str):Sp:=fun vs H Q _=>∃x C dx fs us,vs=[.ref x]∧H x=some (.ins C dx fs)∧Cls K C∧(∀f∈names,NoAttr K C f)∧names.map (fs.lookup ·)=us.map some∧∀H' a,Same H H'→H a=none→H' a=some (.lst us)→Q (.ref a) H'
structure KnownV (P:Program) (w:World) (K:PySem.W.Frag) (mg:Str→Option Value) (base:Heap) (k:Nat) (x:Str) (sp:Sp):Prop where
 ex:∃(f:Addr) (fd:FuncData) (ps:List Str),FnOk P w K mg base CX0 k f fd ps sp∧mg x=some (.ref f)∧PySem.W.keepIn K (.ref f)=true∧Binds K fd ps []
noncomputable def zha(K:PySem.W.Frag)(i:Nat):List Str→TA
 | []=>zqO
 | f::r=>zoc (zrl K (zqm i) f) (zha K i r)
theorem zhb{i:Nat}{σ:St}{H:Hp}{x C dx:Addr}{fs:List (Str×V)}(hs:σ[i]?=some (some (.ref x)))(hx:H x=some (.ins C dx fs))(c:Cls K C):∀{names:List Str} {us:List V} {P:List V→Hp→Prop},(∀f∈names,NoAttr K C f)→names.map (fs.lookup ·)=us.map some→P us H→zha K i names σ H P
 | [],[],P,_,_,h=>h
 | f::r,u::us,P,hn,he,h=>by
  simp only[List.map_cons,List.cons.injEq] at he
  exact⟨_,hs,x,C,dx,fs,u,rfl,hx,c,hn f (by simp),he.1,zhb hs hx c (fun g hg=>hn g (by simp[hg])) he.2 h⟩
 | [],_::_,_,_,he,_=>by simp at he
 | _::_,[],_,_,he,_=>by simp at he
noncomputable def zpN(K:PySem.W.Frag)(n1 n2:List Str):TS:=zrh (zqn (zqP (zha K 0 n1)) (zmt 1)) (zri (tOp (zpx K) (zqm 1) (zqP (zha K 0 n2))))
theorem zoK{x c v:Str}{st:Stmt}{n1 n2:List Str}{d:Nat}(k:Nat)(A:At K mg x st)(S:FnScope [c,v] [c] (defScope st))
  (body:∀(f:Addr) (cdv:Value) (A:Around) (outer:List Env) (s:Shared) (H:Hp) (E:XK),PSs (zjZ CX0 P w K mg base [c,v] x (defScope st) f cdv A outer s H E).nox (defBody st) (zpN K n1 n2))
  (b:∀(kV doc pm:Value) (an:Option Addr) (cdv ct:Value) (us:List Value),us.length=1→bindArgs (PySem.W.fnOf x x (defArgs st) (defBody st) (defScope st) .none kV doc pm an cdv ct) ⟨us,[]⟩=pure ([c].zip us)) (hl:n1.length+n2.length≤sizeLine:=by decide) (hd:k+1=d:=by rfl):KnownV P w K mg base d x (zjD K (n1++n2)):=by
 subst hd
 obtain⟨f,fd,F,hm⟩:=A.ex
 refine⟨f,fd,[c],F.ok S (fun vs H Q E h=>?_) (fun cdv A outer s H vs Q E hr h=>⟨_,body f cdv A outer s H E,?_⟩),hm,F.kp,F.binds b⟩
 ·obtain⟨y,C,dx,fs,us,rfl,_⟩:=h
  rfl
 ·obtain⟨y,C,dx,fs,us,rfl,hx,cl,hn,hu,q⟩:=h
  rw[List.map_append] at hu
  obtain⟨us1,us2,rfl,h1,h2⟩:=List.map_eq_append_iff.mp hu.symm
  have l1:us1.length=n1.length:=by have:=congrArg List.length h1;simpa using this
  have l2:us2.length=n2.length:=by have:=congrArg List.length h2;simpa using this
  refine zhb (us:=us1) (by simp[zb8]) hx cl (fun g hg=>hn g (by simp[hg])) h1.symm ⟨by omega,fun p hp=>?_⟩
  refine⟨.ref p,by simp[zb8],?_⟩
  have hxp:y≠p:=fun z=>by rw[z,hp] at hx;cases hx
  refine zhb (us:=us2) (x:=y) (C:=C) (dx:=dx) (fs:=fs) (by simp[zb8]) (by rw[zal hxp];exact hx) cl (fun g hg=>hn g (by simp[hg])) h2.symm ⟨by omega,fun p2 hp2=>?_⟩
  have hpp:p≠p2:=fun z=>by rw[z,zaq] at hp2;cases hp2
  refine⟨p,p2,us1,us2,rfl,rfl,RdL.of (by rw[zal hpp];exact zaq),RdL.of zaq,by omega,fun a ha=>?_⟩
  have hap2:a≠p2:=fun z=>by rw[z,zaq] at ha;cases ha
  rw[zal hap2] at ha
  have hap:a≠p:=fun z=>by rw[z,zaq] at ha;cases ha
  rw[zal hap] at ha
  refine q _ a (fun b o e=>?_) ha zaq
  rw[zal (zar e ha),zal (fun z=>?_),zal (zar e hp)]
  ·exact e
  ·rw[←z,zal (zar e hp),e] at hp2;cases hp2
end
section
variable {X:Cx} {pos:Pos}
theorem zlP{i:Nat}:PA X [] (zha X.K i []):=zcE
theorem zcA{i:Nat}{f x:Str}{p1 p2:Pos}{es:List Expr}{r:List Str}(h:PA X es (zha X.K i r))(hN:X.N[i]?=some x:=by rfl)(hv:Vis X.env.scope x:=by first | exact Or.inl rfl | exact Or.inr (Or.inl rfl) | exact Or.inr (Or.inr rfl))(hd:(x==("__debug__":Str))=false:=by decide)
  (hcd:(x==("__classdict__":Str))=false:=by decide) (hb:attributeBase (.Name x p1) f X.env (eval (.Name x p1) X.env)=eval (.Name x p1) X.env:=by rfl) (hs:starEach (.Attribute (.Name x p1) f p2::es) X.env=(false,eval (.Attribute (.Name x p1) f p2) X.env)::starEach es X.env:=by rfl):PA X (.Attribute (.Name x p1) f p2::es) (zha X.K i (f::r)):=
 zbp (znu (zbY hN hv hd hcd) hb) h hs
theorem zoL{v:Str}{p1 p2 p3 p4 p5 p6 p7:Pos}{es1 es2:List Expr}{n1 n2:List Str}(h1:PA X es1 (zha X.K 0 n1))(h2:PA X es2 (zha X.K 0 n2))(hN:X.N.Nodup)(hi:X.N[1]?=some v:=by rfl)(hx:Loc X.env.scope v:=by first | exact Or.inl rfl | exact Or.inr rfl)(hv:Vis X.env.scope v:=by first | exact Or.inl rfl | exact Or.inr (Or.inl rfl) | exact Or.inr (Or.inr rfl))
  (hs:swapsWith (.List es1 p2) (some (.Name v p1)) p3.line X.env=pure false:=by rfl) (hf:X.fn v=true∨X.env.scope.names.lookup v=some .local:=by first | exact .inl rfl | exact .inr rfl) (hd:(v==("__debug__":Str))=false:=by decide) (hcd:(v==("__classdict__":Str))=false:=by decide) :
  PSs X [.Assign [.Name v p1] (.List es1 p2) p3,.Return (some (.BinOp (.Name v p4) .Add (.List es2 p5) p6)) p7] (zpN X.K n1 n2):=
 zgR (zkC hN hi hx (zhD h1) hs hf) (ziD (zhA (zn3 zk1 (zbY hi hv hd hcd) (zhD h2))))
noncomputable def zdO(i j:Nat)(names:List Str):TX:=fun D ρ=>match gt ρ i with
 | .ov (.ob _ fs)=>fs.map (·.1)=names∧j<ρ.length∧D.nx ((ρ.set i .un).set j .un)
 | _=>False
theorem zgK:∀{gs:List (Str×V)},(gs.map (·.1)).Nodup→(gs.map (·.1)).map (gs.lookup ·)=(gs.map (·.2)).map some
 | [],_=>rfl
 | (f,v)::r,h=>by
  rw[List.map_cons,List.nodup_cons] at h
  have ih:=zgK h.2
  simp only[List.map_cons,List.lookup_cons_self,List.cons.injEq,true_and]
  rw[←ih]
  refine List.map_congr_left fun g hg=>?_
  rw[List.lookup_cons]
  have:(g==f)=false:=by
   simp only[beq_eq_false_iff_ne,ne_eq]
   exact fun z=>h.1 (z▸hg)
  rw[this]
theorem EOk.cleared{K:PySem.W.Frag}{G0 H0 G H H':Hp}{ρ:Ev}{σ σ':St}{i j:Nat}{o:OV}{p:Addr}{fp:List Addr}{own:Addr→Option Nat}(E:EOk K G0 H0 ρ σ G H)(hg:gt ρ i=.ov o)(o1:∀i ds p,gt ρ i=.ow ds→σ[i]?=some (some (.ref p))→own p=some i)(o2:∀i o,gt ρ i=.ov o→∃p fp,σ[i]?=some (some (.ref p))∧(p::fp).Nodup∧Owns K G H p fp o∧∀q∈p::fp,G q=none∧H0 q=none∧own q=some i)
  (fr:∀q∈fp,G q=none∧H0 q=none∧own q=some i) (hσ:∀k,k≠j→σ'[k]?=σ[k]?) (hl:σ'.length=σ.length) (hH:∀b,b∉fp→H b≠none→H' b=H b):EOk K G0 H0 ((ρ.set i .un).set j .un) σ' G H':=by
 have gs:∀k s,gt ((ρ.set i .un).set j .un) k=s→s≠.un→k≠j∧k≠i∧gt ρ k=s:=fun k s e hs=>by
  rw[zeJ] at e
  by_cases h:j=k∧k<(ρ.set i .un).length
  ·rw[if_pos h] at e;exact absurd e.symm hs
  ·rw[if_neg h,zeJ] at e
   by_cases h2:i=k∧k<ρ.length
   ·rw[if_pos h2] at e;exact absurd e.symm hs
   ·rw[if_neg h2] at e
    have hk:k<ρ.length:=zk9 e hs
    exact⟨fun z=>h ⟨z.symm,by simpa using hk⟩,fun z=>h2 ⟨z.symm,hk⟩,e⟩
 have out:∀b,own b≠some i→b∉fp:=fun b h z=>h (fr b z).2.2
 refine⟨⟨E.e.g,fun b u e=>?_,fun b u e=>?_,E.e.n⟩,by rw[hl];simp[E.len],fun k d h=>?_,fun k ds h=>?_,fun k l ds es hkl h1 h2=>?_,own,fun k ds q h hq=>?_,fun k o' h=>?_⟩
 ·have:=E.e.h b u e
  rw[hH b (fun z=>by rw[(fr b z).2.1] at e;cases e) (by rw[this];exact nofun)];exact this
 ·have:=E.e.s b u e
  rw[hH b (fun z=>by rw[(fr b z).1] at e;cases e) (by rw[this];exact nofun)];exact this
 ·obtain⟨c1,c2,c3⟩:=gs k _ h (by simp)
  obtain⟨v,b1,b2⟩:=E.fz k d c3
  exact⟨v,by rw[hσ k c1];exact b1,b2⟩
 ·obtain⟨c1,c2,c3⟩:=gs k _ h (by simp)
  obtain⟨q,xs,b1,b2,b3,b4,b5⟩:=E.ow k ds c3
  refine⟨q,xs,by rw[hσ k c1];exact b1,?_,b3,b4,b5⟩
  rw[hH q (out q ?_) (by rw[b2];exact nofun)]
  ·exact b2
  ·rw[o1 k ds q c3 b1]
   exact fun z=>c2 (by injection z)
 ·obtain⟨c1,c2,c3⟩:=gs k _ h1 (by simp)
  obtain⟨d1,d2,d3⟩:=gs l _ h2 (by simp)
  rw[hσ k c1,hσ l d1]
  exact E.dj k l ds es hkl c3 d3
 ·obtain⟨c1,c2,c3⟩:=gs k _ h (by simp)
  rw[hσ k c1] at hq
  exact o1 k ds q c3 hq
 ·obtain⟨c1,c2,c3⟩:=gs k _ h (by simp)
  obtain⟨q,fq,b1,b2,b3,b4⟩:=o2 k o' c3
  refine⟨q,fq,by rw[hσ k c1];exact b1,b2,b3.mono (Same.refl _) fun r hr u e=>?_,b4⟩
  rw[hH r (out r ?_) (by rw[e];exact nofun)]
  ·exact e
  ·rw[(b4 r hr).2.2]
   exact fun z=>c2 (by injection z)
theorem ziT(i j:Nat){names:List Str}{k k':Nat}{f c y:Str}{p1 p2 p3 p4 p5 p6 p7 p8:Pos}(C:KnownV X.prog X.w X.K X.mg X.base k f (zjD X.K names))(hr:Room k' X.A)(hc:X.calm=true)(hX:X.N.Nodup)(nd:names.Nodup:=by decide)(hk:k≤k':=by decide)(hg:Gl X f:=by rfl)(hdb:(f==("__debug__":Str))=false:=by decide)
  (hp:PassesOwn (model X.prog X.w) X.A X.env X.xe) (hN:X.N[i]?=some c:=by rfl) (hv:Vis X.env.scope c:=by first | exact Or.inl rfl | exact Or.inr (Or.inl rfl) | exact Or.inr (Or.inr rfl)) (hd:(c==("__debug__":Str))=false:=by decide) (hcd:(c==("__classdict__":Str))=false:=by decide)
  (hNy:X.N[j]?=some y:=by rfl) (hvy:Vis X.env.scope y:=by first | exact Or.inl rfl | exact Or.inr (Or.inl rfl) | exact Or.inr (Or.inr rfl)) (hdy:(y==("__debug__":Str))=false:=by decide) (hcdy:(y==("__classdict__":Str))=false:=by decide) (hx:Loc X.env.scope y:=by first | exact Or.inl rfl | exact Or.inr rfl) (hf:X.fn y=true∨X.env.scope.names.lookup y=some .local:=by first | exact .inl rfl | exact .inr rfl)
  (he:starEach [.Name c p3] X.env=(false,eval (.Name c p3) X.env)::starEach [] X.env:=by rfl) (hpl:(backTo p4 (starEach [] X.env)).any (·.1)=false:=by rfl)
  (hb:∀{ta:TE},PE X (.Name y p5) ta→PE X (.Call (.Attribute (.Name y p5) "clear" p6) [] [] p7) (zrp X.K "list" znz ta):=by intro ta h1;exact zps PySem.F.plainAttrs_list PySem.F.slot_list_clear PySem.F.type_list_clear zmF h1)
  (hs2:swapsWith (.Call (.Attribute (.Name y p5) "clear" p6) [] [] p7) none p8.line X.env=pure false:=by rfl)
  (hs:∀x,foldedSetIterable (.Call (.Name f p2) [.Name c p3] [] p4) X.env x=pure x:=by intro _;rfl) :
  PX X (.For (.Name y p1) (.Call (.Name f p2) [.Name c p3] [] p4) [.Expr (.Call (.Attribute (.Name y p5) "clear" p6) [] [] p7) p8] [] pos) (zdO i j names):=by
 obtain⟨fa,fd,ps,F,hm,kp,hbd⟩:=C.ex
 refine⟨_,zns hp hc (zn2 (zkN F (hr.mono hk) hg hm kp hbd .nil zok (zbp (zbY hN hv hd hcd) zcE he) hdb he hpl)) (zkB hX hNy hx hf) (ziD (zd2 (hb (zbY hNy hvy hdy hcdy)) hs2)) hs,fun ρ σ G0 H0 G H D E k h gg=>?_⟩
 unfold zdO at h
 split at h
 ·rename_i cn fs hgi
  obtain⟨hfn,hjl,hD⟩:=h
  rw[←k.len] at hjl
  obtain⟨own,o1,o2⟩:=k.on
  obtain⟨p,fp,s1,ndp,⟨Cc,dx,gs,g1,g2,g3,g4,g5,g6⟩,fr⟩:=o2 i _ hgi
  refine⟨_,s1,p,Cc,dx,gs,fp.map V.ref,rfl,g1,g2.cls,fun f hf=>?_,?_,fun H' a hs ha hl=>⟨a,rfl,⟨_,SqL.of hl⟩,?_⟩⟩
  ·rw[←hfn] at hf
   obtain⟨u,hu,rfl⟩:=List.mem_map.mp hf
   exact g3 u hu
  ·rw[←g5,←zgK (by rw[g4,hfn];exact nd),g4,hfn]
  have hfp:∀q∈fp,∃xs,H' q=some (.lst xs):=fun q hq=>by
   obtain⟨xs,e⟩:=g6.kind q hq
   exact⟨xs,hs _ _ e⟩
  have haf:a∉fp:=fun z=>by
   obtain⟨xs,e⟩:=g6.kind a z
   rw[ha] at e;cases e
  refine⟨fun t m σ' H2=>m=fp.length-t∧t≤fp.length∧σ'.length=σ.length∧(∀n,n≠j→σ'[n]?=σ[n]?)∧H2 a=some (.lst (fp.map V.ref))∧(∀b,b∉fp→H b≠none→H2 b=H b)∧∀q∈fp,∃xs,H2 q=some (.lst xs),⟨_,rfl,Nat.zero_le _,rfl,fun _ _=>rfl,hl,fun b _ hb=>?_,hfp⟩,?_⟩
  ·cases e:H b with
   | none=>exact absurd e hb
   | some o=>exact hs _ _ e
  rintro t m σ' H2 ⟨rfl,ht,hl',hσ,hla,hH,hq⟩
  by_cases hlt:t<fp.length
  ·refine .inr ⟨⟨_,.ref fp[t],SqL.of hla,by simp[hlt]⟩,_,fun σ2 H3 hN=>hN,fun x H3 hy=>?_⟩
   obtain⟨rfl,hy⟩:=hy
   have hxe:=hy _ (SqL.of hla)
   simp only[List.getElem?_map,List.getElem?_eq_getElem hlt,Option.map_some,Option.some.injEq] at hxe
   subst hxe
   obtain⟨xs,e⟩:=hq fp[t] (List.getElem_mem hlt)
   refine⟨.ref fp[t],by simp[hl',hjl],.inl ⟨rfl,xs,SqL.of e⟩,fp[t],xs,rfl,rfl,e,fp.length-(t+1),by omega,rfl,hlt,by simp[hl'],fun n hn=>?_,?_,fun b hb hb2=>?_,fun q hq'=>?_⟩
   ·rw[List.getElem?_set_ne (fun z=>hn z.symm)];exact hσ n hn
   ·rw[zal (fun z:a=fp[t]=>haf (by rw[z];exact List.getElem_mem hlt))];exact hla
   ·rw[zal (fun z:b=fp[t]=>hb (by rw[z];exact List.getElem_mem hlt))];exact hH b hb hb2
   ·by_cases hqt:q=fp[t]
    ·exact⟨_,by rw[hqt];exact zaq⟩
    ·obtain⟨ys,e2⟩:=hq q hq'
     exact⟨ys,by rw[zal hqt];exact e2⟩
  ·refine .inl ⟨⟨_,SqL.of hla,by simp;omega⟩,gg.nx _ σ' G H2 (Same.refl _) ?_ hD⟩
   exact k.cleared hgi o1 o2 (p:=p) (fp:=fp) (fun q hq=>fr q (by simp[hq])) hσ hl' hH
 ·exact h.elim
end
end L2
namespace L2
open PySem PySem.Spec PyProof.Rows PySem.Builtin PySem.Builtin.Str
section
variable {X:Cx}
theorem zkk{A:Around}{E:Value→Shared→Prop}{prog:Program}{w:World}{s:Shared}{Q:Value→Shared→Prop}{x y:Str}{t u:Tok}(hy:(y.length==0)=false)
  (hq:∀l tk,l.map (·.1)=Txt.split x y→Q (.ref s.heap.objs.size) { s with heap:=s.heap.push { cls:=.type "list",data:=.seq (strValues l).toArray },toks:=tk })
  (hsz:x.length+2≤sizeLine):wpAny (model prog w) A (call (.builtin "str.split") [.str x t,.str y u]) Q E s:=by
 have hsz2:(partsBetween x (occurrences x y 0 x.length (x.length+1)) y.length).length≤sizeLine:=by
  rw[len_partsBetween]
  have:=StrLaws.occ_length_le x y 0 x.length (x.length+1)
  omega
 cases h1:(decide (x.length<y.length)||decide (strKind x<strKind y))
 ·cases hf:(occurrences x y 0 x.length (x.length+1)).isEmpty
  ·refine call_meets PySem.F.slot_str_split (typeIs_str _ _ _) PySem.F.entry_str_split (PySem.F.args_str_split_2 _ _) (meets_str_split_sep x y t u h1 hy hf (by omega) hsz2) ?_
   show wants Q E _ { s with toks:=_,heap:=s.heap.push { cls:=.type "list",data:=.seq (strsFrom s.toks (partsBetween x (occurrences x y 0 x.length (x.length+1)) y.length)).toArray } }
   rw[strsFrom_eq]
   exact hq (numbered s.toks _) _ ((numbered_texts _ _).trans ((if_neg (ne_true_of_eq_false h1)).trans (if_neg (ne_true_of_eq_false hf))).symm)
  ·exact call_meets PySem.F.slot_str_split (typeIs_str _ _ _) PySem.F.entry_str_split (PySem.F.args_str_split_2 _ _) (meets_str_split_not_found x y t u h1 hy hf)
    (hq [(x,t)] s.toks ((if_neg (ne_true_of_eq_false h1)).trans (if_pos hf)).symm)
 ·exact call_meets PySem.F.slot_str_split (typeIs_str _ _ _) PySem.F.entry_str_split (PySem.F.args_str_split_2 _ _) (meets_str_split_cannot_occur x y t u h1)
   (hq [(x,t)] s.toks (if_pos h1).symm)
theorem zjE:∀(l:List (Str×Tok)),Vals ((l.map (·.1)).map V.str) (strValues l)
 | []=>.nil
 | (x,t)::r=>.cons ⟨t,rfl⟩ (zjE r)
theorem zfu{K:PySem.W.Frag}{G:Hp}:∀(l:List Str),Reps K G (l.map V.str) (l.map D.str)
 | []=>Reps.nil
 | x::r=>Reps.cons (zch _ _ _) (zfu r)
noncomputable def zh8:D→List D→(R→Prop)→Prop:=fun d ds Q=>match d,ds with
 | .str x,[.str y]=>y.length≠0∧x.length+2≤sizeLine∧Q (.ow ((Txt.split x y).map D.str))
 | _,_=>False
theorem zlQ:MtP X "str.split" zh8:=by
 refine⟨fun x vs H Q=>∃(z y:Str),x=.str z∧vs=[.str y]∧y.length≠0∧z.length+2≤sizeLine∧∀p,H p=none→Q (.ref p) (upd H p (.lst ((Txt.split z y).map V.str))),fun pins s σ H x xs v us Q I rx rs h=>?_,fun G H x d vs ds Q P s rx rs h k=>?_⟩
 ·obtain⟨z,y,rfl,rfl,hy,hz,q⟩:=h
  obtain⟨t,rfl⟩:=rx
  obtain⟨u,rfl,ru⟩:=zcw rs
  obtain⟨t2,rfl⟩:=ru
  refine zkk (by simpa using hy) (fun l tk hl=>?_) hz
  have hv:=zjE l
  rw[hl] at hv
  exact⟨.ref _,_,I.lnew (t':=tk) hv (by rw[List.length_map];exact Nat.le_trans (split_le z y) hz),rfl,q _ I.fresh⟩
 ·unfold zh8 at h
  split at h
  ·obtain⟨y,rfl,ry⟩:=zb0 rs
   simp only[Rep] at rx ry
   subst rx ry
   exact⟨_,_,rfl,rfl,h.1,h.2.1,zdf s (zfu _) h.2.2 k⟩
  ·exact h.elim
noncomputable def zlR:SpD:=fun ds Q=>match ds with
 | [.str x]=>∃n,PySem.intText? x=some n∧x.length≤640∧Q (.fz (.int n))
 | _=>False
theorem zpO:zd5 X (.type "int") zlR:=by
 refine⟨fun vs H Q=>∃x n,vs=[.str x]∧PySem.intText? x=some n∧x.length≤640∧Q (.int n) H,fun pins s σ H xs us Q I r h=>?_,fun G H vs ds Q P s rs h k=>?_⟩
 ·obtain⟨x,n,rfl,hn,hl,q⟩:=h
  obtain⟨u,rfl,t,rfl⟩:=zcw r
  exact PySem.W.KIN.call_text hn hl ⟨.int n,H,I.tok _,⟨_,rfl⟩,q⟩
 ·unfold zlR at h
  split at h
  ·obtain⟨n,h1,h2,h3⟩:=h
   obtain⟨v,rfl,rv⟩:=zb0 rs
   simp only[Rep] at rv
   subst rv
   exact⟨_,n,rfl,h1,h2,k _ _ _ G (.refl s) (fzR (zaN _ _ _)) h3⟩
  ·exact h.elim
noncomputable def ziU:O2:=fun d e Q=>match d,e with
 | .str x,.int n=>x.length=1∧0≤n∧n<1000∧Q (.fz (.str (Txt.mul x n)))
 | _,_=>False
theorem zq4{x:Str}{n:Int}(h1:x.length=1)(h2:0≤n)(h3:n<1000):MulOk x n:=by
 refine⟨?_,fun a b=>?_,fun a b=>?_⟩
 ·rw[decide_eq_false (by omega),decide_eq_false (by omega)];rfl
 ·rw[h1]
  have:1≤(2 ^ 63-1)/n:=Int.le_ediv_of_mul_le (by omega) (by omega)
  omega
 ·rw[h1]
  unfold tooLong
  simp only[decide_eq_false_iff_not]
  have:(1000:Nat)≤sizeLine:=by decide
  omega
theorem zjF:OpP X (binaryOp .Mult) ziU:=by
 refine⟨fun x y H Q=>∃(z:Str) (n:Int),x=.str z∧y=.int n∧z.length=1∧0≤n∧n<1000∧Q (.str (Txt.mul z n)) H,fun pins s σ H x y v u Q I rx ry h=>?_,fun G H x y d e Q P s rx ry h k=>?_⟩
 ·obtain⟨z,n,rfl,rfl,h1,h2,h3,q⟩:=h
  obtain⟨t,rfl⟩:=rx
  obtain⟨t2,rfl⟩:=ry
  exact SB.mul (zq4 h1 h2 h3) fun t' kk=>⟨.str _,H,I.tok _,⟨_,rfl⟩,q⟩
 ·unfold ziU at h
  split at h
  ·simp only[Rep] at rx ry
   exact⟨_,_,rx,ry,h.1,h.2.1,h.2.2.1,k _ _ _ G (.refl s) (fzR (zch _ _ _)) h.2.2.2⟩
  ·exact h.elim
noncomputable def zpP:O2:=fun d e Q=>match d,e with
 | .int i,.int j=>Q (.fz (.bl (decide (i<j))))
 | .str x,.str y=>Q (.fz (.bl (decide (x.cps.toList<y.cps.toList))))
 | _,_=>False
theorem zq5:OpP X (compareOp .Lt) zpP:=by
 refine⟨_,op_lt.or zkF,fun G H x y d e Q P s rx ry h k=>?_⟩
 unfold zpP at h
 split at h
 ·simp only[Rep] at rx ry
  exact .inl ⟨_,_,rx,ry,k _ _ _ G (.refl s) (fzR (za8 _ _ _)) h⟩
 ·simp only[Rep] at rx ry
  exact .inr ⟨_,_,rx,ry,k _ _ _ G (.refl s) (fzR (za8 _ _ _)) h⟩
 ·exact h.elim
noncomputable def ConT(K:PySem.W.Frag)(mg:Str→Option Value)(x:Str)(ss:List Str):Prop:=∃a,mg x=some (.ref a)∧∀G,Rep K G (.ref a) (.tup (ss.map D.str))
noncomputable def zq6(o:Obj)(ss:List Str):Prop:=o.cls=.type "tuple"∧∃(its:Array Value) (n:Nat),o.data=.seq its n∧its.size≤sizeLine∧Vals (ss.map V.str) its.toList
theorem conT_mk{K:PySem.W.Frag}{mg:Str→Option Value}{h:Heap}{x:Str}{a:Addr}{o:Obj}{ss:List Str}(X:K.In h)(G:h.Ns mainGlobals mg)(c:PySem.W.nsIn K mainGlobals x=some (some (.ref a)))(l:K.lookup a=some o)(hs:zq6 o ss):ConT K mg x ss:=by
 obtain⟨h1,its,n,h2,h3,h4⟩:=hs
 refine⟨a,PySem.W.mg_of X G c,fun G=>?_⟩
 simp only[Rep]
 exact⟨a,_,rfl,.inr ⟨o,its,n,l,h1,h2,h3,h4⟩,zfu ss⟩
theorem zm9{pos:Pos}{x:Str}{ss:List Str}(hm:ConT X.K X.mg x ss)(hg:Gl X x:=by rfl)(hd:(x==("__debug__":Str))=false:=by decide):PD X (.Name x pos) (dC (.tup (ss.map D.str))):=by
 obtain⟨a,h1,h2⟩:=hm
 exact⟨_,ziB hg h1 (v:=.ref a) rfl hd,fun ρ σ G0 H0 G H Q P E h k=>k _ H (.fz (.tup (ss.map D.str))) G (.refl E.e.s) (fzR (h2 _)) h⟩
end
end L2
namespace L2
open PySem PySem.Spec PyProof.Rows
section
variable {X:Cx} {pos:Pos} {e:Expr} {ts:TDa} {t:TA}
noncomputable def zna(K:PySem.W.Frag)(t:TA):TE:=fun σ H Q=>t σ H fun vs H1=>∃(p:Addr) (ss:List Str),vs=[.ref p]∧SqL K H1 p (ss.map V.str)∧ss.length<4000∧∀l:List Str,l.Nodup→(∀x,x∈l↔x∈ss)→Q (.int l.length) H1
theorem zkl{p1 p2 pos2:Pos}(hc:X.calm=true)(hm1:X.mg "len"=none)(hm2:X.mg "set"=none)(ha:PA X [e] t)(hg1:Gl X "len":=by rfl)(hg2:Gl X "set":=by rfl)
  (he:starEach [e] X.env=(false,eval e X.env)::starEach [] X.env:=by rfl) (he2:starEach [.Call (.Name "set" p2) [e] [] pos2] X.env=(false,eval (.Call (.Name "set" p2) [e] [] pos2) X.env)::starEach [] X.env:=by rfl) :
  PE X (.Call (.Name "len" p1) [.Call (.Name "set" p2) [e] [] pos2] [] pos) (zna X.K t):=by
 intro pins s σ H Q I h
 refine wpAny_Call_Name_kw (zeI I hg1 hm1 boot_len ?_ (by decide) (by decide))
 refine PyProof.Rows.callWith_builtin1 ?_ he2 rfl
 rw[he2]
 show wpAny _ _ (spliced ((false,eval (.Call (.Name "set" p2) [e] [] pos2) X.env)::backTo pos (starEach [] X.env))) _ _ s
 refine Calls.spliced_cons ?_
 refine wpAny_Call_Name_kw (zeI I hg2 hm2 zlu ?_ (by decide) (by decide))
 refine PyProof.Rows.callWith_type1 (thn (ha pos2 pins s σ H _ I h) fun us s1 ⟨vs,H1,I1,r1,q1⟩=>?_) he rfl
 obtain⟨p,ss,rfl,hq,hn,q⟩:=q1
 obtain⟨u,rfl,ru⟩:=zcw r1
 cases ru
 obtain⟨its,rv,pl,hz⟩:=I1.list hq
 have hS:=zd8 rv
 refine zlA (I1.ok.hd hc) pl.isList hS (by have:scanBound=4096:=rfl
                                           omega) fun h1 tk1 es ep tb T Hd hk1=>?_
 have I2:Inv X pins σ H1 { s1 with heap:=h1,toks:=tk1 }:=I1.kept fun b o e=>hk1 b o (Heap.lt_size e) e
 refine Calls.spliced_nil ?_
 have hlen:(keysOf es).length=es.size:=by simp[keysOf]
 refine call_len_set (s:={ s1 with heap:=h1,toks:=tk1 }) T.at_ ⟨rfl,rfl,rfl⟩ rfl T.fits ?_ ?_
 ·have h8:=T.small
  have:scanBound=4096:=rfl
  omega
 ·refine⟨.int _,H1,I2.tok _,⟨_,rfl⟩,?_⟩
  have:=q (keysOf es) Hd.nd fun x=>Hd.mem x
  rw[hlen] at this
  exact this
noncomputable def zfd:SpD:=fun ds Q=>match ds with
 | [.lst es]=>match zbM es with
  | some ss=>ss.length<4000∧∀l:List Str,l.Nodup→(∀w,w∈l↔w∈ss)→Q (.fz (.int l.length))
  | none=>False
 | _=>False
theorem zkm{p1 p2 pos2:Pos}(hc:X.calm=true)(hm1:X.mg "len"=none)(hm2:X.mg "set"=none)(ha:PDa X [e] ts)(hg1:Gl X "len":=by rfl)(hg2:Gl X "set":=by rfl)
  (he:starEach [e] X.env=(false,eval e X.env)::starEach [] X.env:=by rfl) (he2:starEach [.Call (.Name "set" p2) [e] [] pos2] X.env=(false,eval (.Call (.Name "set" p2) [e] [] pos2) X.env)::starEach [] X.env:=by rfl) :
  PD X (.Call (.Name "len" p1) [.Call (.Name "set" p2) [e] [] pos2] [] pos) (dCB zfd ts):=by
 obtain⟨t,pp,q⟩:=ha
 refine⟨_,zkl hc hm1 hm2 pp hg1 hg2 he he2,fun ρ σ G0 H0 G H Q P E h k=>q ρ σ G0 H0 G H _ _ E h fun vs H' ds G' x rs hq=>?_⟩
 unfold zfd at hq
 split at hq
 ·split at hq
  ·rename_i es ss hs
   obtain⟨v,rfl,rv⟩:=zb0 rs
   simp only[Rep] at rv
   obtain⟨a,xs,rfl,h1,h2⟩:=rv
   rw[zc4 hs] at h2
   rw[zfb h2] at h1
   exact⟨a,ss,rfl,(x.s.rdl h1).sq,hq.1,fun l nd hm=>k _ _ _ G' x (fzR (zaN _ _ _)) (hq.2 l nd hm)⟩
  ·exact hq.elim
 ·exact hq.elim
end
end L2
section
namespace Wc
open PySem L2
noncomputable def mkS(l:List Nat):Str:=⟨l.toArray⟩
theorem zfv(l:List Nat):(mkS l).cps.toList=l:=by simp[mkS]
theorem zbd(l:List Nat):(mkS l).length=l.length:=by simp[mkS,Str.length]
theorem zdk(a b:List Nat):mkS a++mkS b=mkS (a++b):=by
 show(⟨(mkS a).cps++(mkS b).cps⟩:Str)=_
 simp[mkS]
theorem mkS_inj{a b:List Nat}:mkS a=mkS b↔a=b:=by
 constructor
 ·intro h
  have:(mkS a).cps.toList=(mkS b).cps.toList:=by rw[h]
  simpa[mkS] using this
 ·rintro rfl;rfl
theorem znM(w:Str):mkS w.cps.toList=w:=by cases w;simp[mkS]
theorem mk1(c:Nat):(⟨#[c]⟩:Str)=mkS [c]:=rfl
theorem ziV{α β:Type}(f:α→β)(l:List α)(i:Int):atI (l.map f) i=(atI l i).map f:=by
 unfold atI
 rw[List.length_map]
 cases ixN l.length i with
 | none=>rfl
 | some j=>simp
theorem zpQ{α β:Type}{f:α→β}{o:Option α}{p:β→Prop}:(∃d,o.map f=some d∧p d)↔∃x,o=some x∧p (f x):=by
 cases o with
 | none=>simp
 | some x=>simp
theorem zlS{α β:Type}{f:α→β}{l:List α}{i:Int}{p:β→Prop}:(∃d,atI (l.map f) i=some d∧p d)↔∃x,atI l i=some x∧p (f x):=by rw[ziV];exact zpQ
theorem zd3{α:Type}{l:List α}{i:Int}(h0:0≤i)(h1:i<l.length):∃h:i.toNat<l.length,atI l i=some (l[i.toNat]'h):=by
 refine⟨by omega,?_⟩
 unfold atI ixN
 rw[if_pos h0,if_pos h1]
 simp only[Option.bind_some]
 exact List.getElem?_eq_getElem _
theorem ziW{α:Type}{l:List α}{i:Int}(h0:0≤i)(h1:i<l.length):∃z,atI l i=some z∧z∈l:=by
 obtain⟨h,e⟩:=zd3 h0 h1
 exact⟨_,e,List.getElem_mem h⟩
theorem zjG{α:Type}{l:List α}{n:Nat}(i:Int)(hl:n≤l.length)(h:0<n):∃z,atI l (i%(n:Int))=some z∧z∈l:=
 ziW (Int.emod_nonneg _ (by omega)) (by have:=Int.emod_lt_of_pos i (show(0:Int)<n by omega);omega)
theorem at8{α:Type}{l:List α}(i:Int)(hl:l.length=8):∃z,atI l (i%8)=some z∧z∈l:=zjG (n:=8) i (by omega) (by omega)
theorem at5{α:Type}{l:List α}(i:Int)(hl:l.length=8):∃z,atI l (i%5)=some z∧z∈l:=zjG (n:=5) i (by omega) (by omega)
theorem at3{α:Type}{l:List α}(i:Int)(hl:l.length=8):∃z,atI l (i%3)=some z∧z∈l:=zjG (n:=3) i (by omega) (by omega)
theorem zbt{α:Type}{l:List α}{j:Nat}(h:j<l.length):atI l (j:Int)=some l[j]:=by
 obtain⟨h',e⟩:=zd3 (l:=l) (i:=(j:Int)) (by omega) (by omega)
 simpa using e
theorem zhc{n d:Nat}{j:Int}(h:0≤j):HT.sIx n d (some j)=min j.toNat n:=by show(if j<0 then _ else _)=_;rw[if_neg (by omega)]
theorem zhd{α:Type}(l:List α){j:Int}(h:0≤j):zdh l none (some j)=l.take j.toNat:=by
 unfold zdh
 rw[zhc h]
 show((l.drop 0).take (min j.toNat l.length-0))=_
 rw[List.drop_zero,Nat.sub_zero,Nat.min_comm]
 by_cases hl:l.length≤j.toNat
 ·rw[Nat.min_eq_left hl,List.take_of_length_le hl,List.take_of_length_le (Nat.le_refl _)]
 ·rw[Nat.min_eq_right (by omega)]
theorem zcO{α:Type}(l:List α){j:Int}(h:0≤j):zdh l (some j) none=l.drop j.toNat:=by
 unfold zdh
 rw[zhc h]
 show((l.drop (min j.toNat l.length)).take (l.length-_))=_
 by_cases hl:l.length≤j.toNat
 ·rw[Nat.min_eq_right hl,List.drop_of_length_le hl,List.drop_of_length_le (Nat.le_refl _)];simp
 ·rw[Nat.min_eq_left (by omega),List.take_of_length_le (by simp)]
theorem zdP{α:Type}(l:List α){i j:Int}(hi:0≤i)(h:0≤j):zdh l (some i) (some j)=(l.drop i.toNat).take (j.toNat-i.toNat):=by
 unfold zdh
 rw[zhc h,zhc hi]
 by_cases hl:l.length≤i.toNat
 ·rw[Nat.min_eq_right hl,List.drop_of_length_le hl,List.drop_of_length_le (Nat.le_refl _)];simp
 ·rw[Nat.min_eq_left (a:=i.toNat) (by omega)]
  by_cases hj:l.length≤j.toNat
  ·rw[Nat.min_eq_right hj,List.take_of_length_le (by simp),List.take_of_length_le (by simp;omega)]
  ·rw[Nat.min_eq_left (by omega)]
theorem zfw(l:List Nat){j:Int}(h:0≤j):zj9 (mkS l) none (some j)=mkS (l.take j.toNat):=by unfold zj9;rw[zfv,zhd _ h];rfl
theorem zlT(l:List Nat){j:Int}(h:0≤j):zj9 (mkS l) (some j) none=mkS (l.drop j.toNat):=by unfold zj9;rw[zfv,zcO _ h];rfl
theorem znb(l:List Nat){i j:Int}(hi:0≤i)(h:0≤j):zj9 (mkS l) (some i) (some j)=mkS ((l.drop i.toNat).take (j.toNat-i.toNat)):=by unfold zj9;rw[zfv,zdP _ hi h];rfl
theorem zhe{α β:Type}(f:α→β)(l:List α)(lo hi:Option Int):zdh (l.map f) lo hi=(zdh l lo hi).map f:=by unfold zdh;rw[List.length_map,List.map_take,List.map_drop]
theorem zcP(n:Nat)(i:Int):okE n (.int i)=True:=by cases n<;>exact eq_true trivial
theorem zdl(n:Nat)(i:Str):okE n (.str i)=True:=by cases n<;>exact eq_true trivial
theorem znN(n:Nat)(i:Bool):okE n (.bl i)=True:=by cases n<;>exact eq_true trivial
theorem ziX(n:Nat):okE n .non=True:=by cases n<;>exact eq_true trivial
theorem zee{α:Type}[BEq α][LawfulBEq α][DecidableEq α](a b:α):(a==b)=decide (a=b):=by rw[Bool.eq_iff_iff];simp
theorem ziY(a b:Str):eqD (.str a) (.str b)=decide (a=b):=by simp only[eqD,zee]
theorem ziZ(a b:Int):eqD (.int a) (.int b)=decide (a=b):=by simp only[eqD,zee]
theorem zaE:sizeLine=16777216:=by decide
@[irreducible] noncomputable def zkn(u:TX)(D:DE):Ev→Prop:=u D
theorem zpR(t u:TX)(D:DE)(ρ:Ev):zaH t u D ρ=t { nx:=zkn u D,rt:=D.rt,bk:=D.bk,ct:=D.ct } ρ:=by unfold zkn;rfl
end Wc
open PySem L2 Wc
local macro_rules | `(tactic| walk_at "ba")=>`(tactic| simp only[zaH,xIf,zoV,zmP,bOr,zbL,zeL,dC,zhW,zgG,zpG,zpH,dCB,zae,zao,zag,List.map_cons,List.map_nil,List.cons_append,List.nil_append,List.set,gt,zgF,oI0,oI,dOp,zbs,zcK,zeT,zdF,zaR,zcI,ziN,zfa,zml,zau,zeU,za0,zf9,zpJ,zf8,oEq,oNe,oIx,dSl,oNo,zbu,zav,zqr,dOr,zqq,zou,dIf,zoW,zoZ,dM,zgH,zjm,ziO,zb9,zoX,zkb,frz,zeX,zk5,zdE,zdb,zcc,zhR,zeW,zg0,zmn,zpI,zdK,znG,znH,p24,p30,zcH,CMul,Int.reduceLT,Int.reduceLE,Int.reduceAdd,Int.reduceSub,Int.reduceMul,Int.reduceNeg,Int.reducePow,Int.reduceToNat,decide_true,decide_false,true_and,and_true,and_self,or_true,true_or,zcP,zdl,znN,ziX,zlS,Bool.false_eq_true,if_false,if_true,Bool.not_true,Bool.not_false,List.length_cons,List.length_nil,Nat.reduceAdd,decide_eq_true_eq,ziZ,ziY,zhe,zc3,zcp,zg3,zlw])
local macro_rules | `(tactic| walk_at "b")=>`(tactic| simp only[zpR,xIf,zoV,zmP,bOr,zbL,zeL,dC,zhW,zgG,zpG,zpH,dCB,zae,zao,zag,List.map_cons,List.map_nil,List.cons_append,List.nil_append,List.set,gt,zgF,oI0,oI,dOp,zbs,zcK,zeT,zdF,zaR,zcI,ziN,zfa,zml,zau,zeU,za0,zf9,zpJ,zf8,oEq,oNe,oIx,dSl,oNo,zbu,zav,zqr,dOr,zqq,zou,dIf,zoW,zoZ,dM,zgH,zjm,ziO,zb9,zoX,zkb,frz,zeX,zk5,zdE,zdb,zcc,zhR,zeW,zg0,zmn,zpI,zdK,znG,znH,p24,p30,zcH,CMul,Int.reduceLT,Int.reduceLE,Int.reduceAdd,Int.reduceSub,Int.reduceMul,Int.reduceNeg,Int.reducePow,Int.reduceToNat,decide_true,decide_false,true_and,and_true,and_self,or_true,true_or,zcP,zdl,znN,ziX,zlS,Bool.false_eq_true,if_false,if_true,Bool.not_true,Bool.not_false,List.length_cons,List.length_nil,Nat.reduceAdd,decide_eq_true_eq,ziZ,ziY,zhe,zc3,zcp,zg3,zlw])
local macro_rules | `(tactic| walk_at "all")=>`(tactic| walk_at "ba")
local macro_rules | `(tactic| walk_at "px")=>`(tactic| walk_at "b")
local macro_rules | `(tactic| walk_at "go")=>`(tactic| (simp only[zkn];walk_at "px"))
namespace Wc
open PySem L2
noncomputable def zkx(c k:Int):Int:=(c%1000000000000000000000000000000*(k*k+48271)+7919*k*k*k+11)%2147483647/7
theorem zjH(c k:Int):0≤zkx c k:=Int.ediv_nonneg (Int.emod_nonneg _ (by decide)) (by decide)
theorem zpS(c k:Int):zkx c k<306783379:=by
 unfold zkx
 generalize c%1000000000000000000000000000000*(k*k+48271)+7919*k*k*k+11=x
 omega
noncomputable def zay:SpD:=fun ds Q=>∃c k:Int,ds=[.int c,.int k]∧0≤k∧k≤1000000∧Q (.fz (.int (zkx c k)))
noncomputable def zef:TX:=(zcK (dOp (oI zcH fun i j=>.int (i/j)) (dOp (oI (fun _ j=>0<j) fun i j=>.int (i%j)) (dOp zbs (dOp zbs (dOp (oI CMul fun i j=>.int (i*j)) (dOp (oI (fun _ j=>0<j) fun i j=>.int (i%j)) (zag 0) (dOp (oI zkv fun i j=>.int (i ^ j.toNat)) (dC (.int 10)) (dC (.int 30)))) (dOp zbs (dOp (oI CMul fun i j=>.int (i*j)) (zag 1) (zag 1)) (dC (.int 48271)))) (dOp (oI CMul fun i j=>.int (i*j)) (dOp (oI CMul fun i j=>.int (i*j)) (dOp (oI CMul fun i j=>.int (i*j)) (dC (.int 7919)) (zag 1)) (zag 1)) (zag 1))) (dC (.int 11))) (dC (.int 2147483647))) (dC (.int 7))))
theorem zhf(ds:List D)(Qr:R→Prop)(hl:ds.length=2)(h:zay ds Qr):zef { nx:=fun _=>Qr (.fz .non),rt:=Qr } (zaF ["_law_cell","_law_k"] ds):=by
 obtain⟨c,k,rfl,h0,h1,q⟩:=h
 show zef _ [.fz (.int c),.fz (.int k)]
 unfold zef
 walk_at "all"
 have hk:k*k≤1000000*1000000:=Int.mul_le_mul h1 h1 h0 (by decide)
 have hk0:0≤k*k:=Int.mul_nonneg h0 h0
 refine⟨.inl ⟨by omega,by omega⟩,.inr ⟨by omega,by omega⟩,.inr ⟨by omega,by omega⟩,.inr ⟨by omega,by omega⟩,?_⟩
 exact q
end Wc
namespace Wc
open PySem L2 PyProof.Rows
noncomputable def dO:Option Str→D
 | none=>.non
 | some s=>.str s
noncomputable def dP(l:List (Option Str)):D:=.lst (l.map dO)
noncomputable def dS(l:List Str):D:=.lst (l.map .str)
noncomputable def dI(l:List Int):D:=.lst (l.map .int)
noncomputable def dWp(p:Str×Int):D:=.tup [.str p.1,.int p.2]
noncomputable def dBp(p:Int×Str):D:=.tup [.int p.1,.str p.2]
noncomputable def dKp(p:Int×Int×Int):D:=.tup [.int p.1,.int p.2.1,.int p.2.2]
noncomputable def dW(l:List (Str×Int)):D:=.lst (l.map dWp)
noncomputable def dB(l:List (Int×Str)):D:=.lst (l.map dBp)
noncomputable def dK(l:List (Int×Int×Int)):D:=.lst (l.map dKp)
structure Chan where
 top:List (Option Str)
 bottom:List (Option Str)
 left:List Str
 right:List Str
 wide:List (Str×Int)
 bends:List (Int×Str)
 keeps:List (Int×Int×Int)
noncomputable def Chan.parts(c:Chan):List D:=[dP c.top,dP c.bottom,dS c.left,dS c.right,dW c.wide,dB c.bends,dK c.keeps]
noncomputable def Chan.obj(c:Chan):D:=.obj "Channel" [("top",dP c.top),("bottom",dP c.bottom),("left",dS c.left),("right",dS c.right),("wide",dW c.wide),("bends",dB c.bends),("keeps",dK c.keeps)]
theorem zjI(n:Nat)(o:Option Str):okE n (dO o)=True:=by
 cases o with
 | none=>exact ziX n
 | some s=>exact zdl n s
theorem zpT(a b:Option Str):eqD (dO a) (dO b)=decide (a=b):=by
 cases a<;>cases b<;>simp only[dO,eqD,zee,Option.some.injEq,reduceCtorEq,decide_true,decide_false]
theorem zeg(a:Option Str)(b:Str):eqD (dO a) (.str b)=decide (a=some b):=zpT a (some b)
theorem znc(w:Str)(l:List Str):inD (.str w) (l.map .str)=decide (w∈l):=by
 unfold inD
 rw[List.any_map]
 induction l with
 | nil=>rfl
 | cons a r ih=>
  rw[List.any_cons,ih,Function.comp_apply,ziY]
  by_cases h:a=w
  ·subst h;simp
  ·simp[h,Ne.symm h]
theorem zq7(w:Str)(l:List (Option Str)):inD (.str w) (l.map dO)=decide (some w∈l):=by
 unfold inD
 rw[List.any_map]
 induction l with
 | nil=>rfl
 | cons a r ih=>
  rw[List.any_cons,ih,Function.comp_apply,zeg]
  by_cases h:a=some w
  ·subst h;simp
  ·simp[h,Ne.symm h]
theorem zcB(n:Nat)(l:List Str):∀e∈l.map D.str,okE n e:=by
 intro e he
 rw[List.mem_map] at he
 obtain⟨x,_,rfl⟩:=he
 rw[zdl];trivial
theorem zfe(n:Nat)(l:List (Option Str)):∀e∈l.map dO,okE n e:=by
 intro e he
 rw[List.mem_map] at he
 obtain⟨x,_,rfl⟩:=he
 rw[zjI];trivial
noncomputable def Pool(ws:List Str)(l:List (Option Str)):Prop:=∀w,some w∈l→w∈ws
theorem zcQ{α:Type}{wi:TId}{g:TGd}{tb:TX}{D:DE}{ρ:Ev}(L:List α)(φ:α→L2.D)(hw:∀Q':List L2.D→Prop,Q' (zeV (L.map φ))→wi ρ Q')(Iv:Nat→Ev→Prop)(h0:Iv 0 ρ)
  (turn:∀(i:Nat) x ρ',L[i]?=some x→Iv i ρ'→g (.tup [.int i,φ x]) ρ' fun ρ2=>tb { D with nx:=Iv (i+1),ct:=Iv (i+1),bk:=D.nx } ρ2) (fin:∀ρ',Iv L.length ρ'→D.nx ρ'):zgD wi g tb D ρ:=by
 refine zjs (zeV (L.map φ)) hw Iv h0 (fun i d ρ' hd iv=>?_) (fun ρ' iv=>fin ρ' (by simpa[zeV] using iv))
 unfold zeV at hd
 rw[List.getElem?_mapIdx,List.getElem?_map] at hd
 cases hx:L[i]? with
 | none=>rw[hx] at hd;cases hd
 | some x=>rw[hx] at hd;cases hd;exact turn i x ρ' hx iv
theorem zh9:∀{a b c:List Nat},Spec.ltCps a b=true→Spec.ltCps b c=true→Spec.ltCps a c=true
 | [],[],c,h,_=>by simp[Spec.ltCps] at h
 | [],b::bs,[],_,h=>by simp[Spec.ltCps] at h
 | [],b::bs,c::cs,_,_=>by simp[Spec.ltCps]
 | a::as,[],c,h,_=>by simp[Spec.ltCps] at h
 | a::as,b::bs,[],_,h=>by simp[Spec.ltCps] at h
 | a::as,b::bs,c::cs,h,h'=>by
  simp only[Spec.ltCps,Bool.or_eq_true,decide_eq_true_eq,Bool.and_eq_true,beq_iff_eq] at h h' ⊢
  rcases h with h | ⟨rfl,h⟩
  ·rcases h' with h' | ⟨rfl,h'⟩
   ·left;omega
   ·left;omega
  ·rcases h' with h' | ⟨rfl,h'⟩
   ·left;omega
   ·right;exact⟨rfl,zh9 h h'⟩
theorem zlU:∀{a b:List Nat},Spec.ltCps a b=false→Spec.ltCps b a=false→a=b
 | [],[],_,_=>rfl
 | [],b::bs,h,_=>by simp[Spec.ltCps] at h
 | a::as,[],_,h=>by simp[Spec.ltCps] at h
 | a::as,b::bs,h,h'=>by
  simp only[Spec.ltCps,Bool.or_eq_false_iff,decide_eq_false_iff_not,Bool.and_eq_false_iff,beq_eq_false_iff_ne] at h h'
  have e:a=b:=by omega
  subst e
  rw[zlU (h.2.resolve_left fun z=>z rfl) (h'.2.resolve_left fun z=>z rfl)]
noncomputable def ltS(a b:Str):Prop:=Spec.ltCps a.cps.toList b.cps.toList=true
theorem zlV{a b c:Str}(h:ltS a b)(h':ltS b c):ltS a c:=zh9 h h'
theorem zlW{a b:Str}(h:a.cps.toList=b.cps.toList):a=b:=by rw[←znM a,←znM b,h]
theorem zia:∀{p:Str} {l:List Str},risingS p l=true→(p::l).Nodup→(p::l).Pairwise ltS
 | p,[],_,_=>by simp
 | p,x::r,h,nd=>by
  simp only[risingS,Bool.and_eq_true,Bool.not_eq_true'] at h
  have nd':=nd
  rw[List.nodup_cons] at nd
  have ih:=zia h.2 nd.2
  have hne:p≠x:=fun z=>nd.1 (by simp[z])
  have hpx:ltS p x:=by
   unfold ltS
   cases e:Spec.ltCps p.cps.toList x.cps.toList with
   | true=>rfl
   | false=>exact absurd (zlW (zlU e h.1)) hne
  rw[List.pairwise_cons]
  refine⟨fun b hb=>?_,ih⟩
  rcases List.mem_cons.mp hb with rfl | hb
  ·exact hpx
  ·exact zlV hpx ((List.pairwise_cons.mp ih).1 b hb)
theorem zfx{l:List Str}(h:sortedS l=true)(nd:l.Nodup):l.Pairwise ltS:=by
 cases l with
 | nil=>exact .nil
 | cons x r=>exact zia h nd
noncomputable def zoM(g:TGd)(tb:TX)(D:DE)(ρ:Ev)(ds:List L2.D):Prop:=∃Iv:Nat→Ev→Prop,Iv 0 ρ∧
 (∀i d ρ',ds[i]?=some d→Iv i ρ'→g d ρ' fun ρ2=>tb { D with nx:=Iv (i+1),ct:=Iv (i+1),bk:=D.nx } ρ2)∧∀ρ',Iv ds.length ρ'→D.nx ρ'
theorem zjJ{wi:TId}{g:TGd}{tb:TX}{D:DE}{ρ:Ev}(P:List L2.D→Prop)(hw:∀Q':List L2.D→Prop,(∀ds,P ds→Q' ds)→wi ρ Q')(h:∀ds,P ds→zoM g tb D ρ ds):zgD wi g tb D ρ:=hw _ h
theorem zko{α:Type}{g:TGd}{tb:TX}{D:DE}{ρ:Ev}(L:List α)(φ:α→L2.D)(Iv:Nat→Ev→Prop)(h0:Iv 0 ρ)
  (turn:∀i x ρ',L[i]?=some x→Iv i ρ'→g (φ x) ρ' fun ρ2=>tb { D with nx:=Iv (i+1),ct:=Iv (i+1),bk:=D.nx } ρ2) (fin:∀ρ',Iv L.length ρ'→D.nx ρ'):zoM g tb D ρ (L.map φ):=by
 refine⟨Iv,h0,fun i d ρ' hd iv=>?_,fun ρ' iv=>fin ρ' (by simpa using iv)⟩
 rw[List.getElem?_map] at hd
 cases hx:L[i]? with
 | none=>rw[hx] at hd;cases hd
 | some x=>rw[hx] at hd;cases hd;exact turn i x ρ' hx iv
theorem zkp{α:Type}{g:TGd}{tb:TX}{D:DE}{ρ:Ev}(L:List α)(φ:α→L2.D)(Iv:Nat→Ev→Prop)(h0:Iv 0 ρ)
  (turn:∀(i:Nat) x ρ',L[i]?=some x→Iv i ρ'→g (.tup [.int i,φ x]) ρ' fun ρ2=>tb { D with nx:=Iv (i+1),ct:=Iv (i+1),bk:=D.nx } ρ2) (fin:∀ρ',Iv L.length ρ'→D.nx ρ'):zoM g tb D ρ (zeV (L.map φ)):=by
 refine⟨Iv,h0,fun i d ρ' hd iv=>?_,fun ρ' iv=>fin ρ' (by simpa[zeV] using iv)⟩
 unfold zeV at hd
 rw[List.getElem?_mapIdx,List.getElem?_map] at hd
 cases hx:L[i]? with
 | none=>rw[hx] at hd;cases hd
 | some x=>rw[hx] at hd;cases hd;exact turn i x ρ' hx iv
theorem zlX(n:Nat)(p:Str×Int):okE (n+1) (dWp p):=by
 intro d hd
 simp only[List.mem_cons,List.not_mem_nil,or_false] at hd
 rcases hd with rfl | rfl
 ·rw[zdl];trivial
 ·rw[zcP];trivial
theorem zlY(n:Nat)(p:Int×Str):okE (n+1) (dBp p):=by
 intro d hd
 simp only[List.mem_cons,List.not_mem_nil,or_false] at hd
 rcases hd with rfl | rfl
 ·rw[zcP];trivial
 ·rw[zdl];trivial
theorem znd(n:Nat)(p:Int×Int×Int):okE (n+1) (dKp p):=by
 intro d hd
 simp only[List.mem_cons,List.not_mem_nil,or_false] at hd
 rcases hd with rfl | rfl | rfl<;>(rw[zcP];trivial)
theorem zfy{n:Nat}{α:Type}(f:α→D)(l:List α)(h:∀x∈l,okE n (f x)):okE (n+1) (.lst (l.map f)):=by
 intro d hd
 rw[List.mem_map] at hd
 obtain⟨x,hx,rfl⟩:=hd
 exact h x hx
theorem znO(n:Nat)(l:List (Option Str)):okE (n+1) (dP l):=zfy dO l fun x _=>by rw[zjI];trivial
theorem zlZ(n:Nat)(l:List Str):okE (n+1) (dS l):=zfy D.str l fun x _=>by rw[zdl];trivial
theorem zl0(c:Chan):okE 3 (.lst c.parts):=by
 intro d hd
 simp only[Chan.parts,List.mem_cons,List.not_mem_nil,or_false] at hd
 rcases hd with rfl | rfl | rfl | rfl | rfl | rfl | rfl
 ·exact znO 1 _
 ·exact znO 1 _
 ·exact zlZ 1 _
 ·exact zlZ 1 _
 ·exact zfy dWp _ fun x _=>zlX 0 x
 ·exact zfy dBp _ fun x _=>zlY 0 x
 ·exact zfy dKp _ fun x _=>znd 0 x
theorem zpU(l:List D):zbX (tyD (.tup l)) "tuple"=true:=by show zbX "tuple" "tuple"=true;decide
theorem zpV(l:List D):zbX (tyD (.tup l)) "list"=false:=by show zbX "tuple" "list"=false;decide
theorem zpW(l:List D):zbX (tyD (.lst l)) "list"=true:=by show zbX "list" "list"=true;decide
theorem zpX(z:Int):zbX (tyD (.int z)) "bool"=false:=by show zbX "int" "bool"=false;decide
theorem zpY(z:Int):zbX (tyD (.int z)) "int"=true:=by show zbX "int" "int"=true;decide
theorem zpZ(z:Str):zbX (tyD (.str z)) "str"=true:=by show zbX "str" "str"=true;decide
theorem zp0(z:Str):zbX (tyD (.str z)) "list"=false:=by show zbX "str" "list"=false;decide
noncomputable def hdS(ns:List Int):Int:=(ns.take 1).sum
theorem zne{α:Type}(a:α)(r:List α):atI (a::r) 0=some a:=by
 unfold atI ixN
 rw[if_pos (by decide),if_pos (by simp only[List.length_cons];omega)]
 rfl
theorem zp1(o:OV):(R.ov o).sl=.ov o:=rfl
end Wc
namespace Wc
open PySem L2
noncomputable def zbW:Nat→Int→List Nat
 | 0,_=>[]
 | n+1,c=>(97+(c%26).toNat)::zbW n (c/26)
theorem zib(n:Nat)(c:Int):(zbW n c).length=n:=by
 induction n generalizing c with
 | zero=>rfl
 | succ n ih=>simp[zbW,ih]
theorem zjK(n:Nat)(c:Int):∀x∈zbW n c,97≤x∧x≤122:=by
 induction n generalizing c with
 | zero=>intro x hx;cases hx
 | succ n ih=>
  intro x hx
  rcases List.mem_cons.mp hx with rfl | h
  ·have h0:=Int.emod_nonneg c (show(26:Int)≠0 by decide)
   have h1:=Int.emod_lt_of_pos c (show(0:Int)<26 by decide)
   omega
  ·exact ih _ x h
noncomputable def abc:Str:="abcdefghijklmnopqrstuvwxyz"
theorem zp2:∀k:Fin 26,atI abc.cps.toList (k.val:Int)=some (97+k.val):=by decide +kernel
theorem zoN(c:Int):atI abc.cps.toList (c%26)=some (97+(c%26).toNat):=by
 have h0:=Int.emod_nonneg c (show(26:Int)≠0 by decide)
 have h1:=Int.emod_lt_of_pos c (show(0:Int)<26 by decide)
 have:=zp2 ⟨(c%26).toNat,by omega⟩
 simp only at this
 rwa [Int.toNat_of_nonneg h0] at this
noncomputable def zbO:SpD:=fun ds Q=>∃(c:Int) (n:Nat),ds=[.int c,.int n]∧n≤1000∧Q (.fz (.str (mkS (zbW n c))))
noncomputable def zdm:TX:=(zaH (zaR 2 (dC (.str "abcdefghijklmnopqrstuvwxyz")))
 (zaH (zaR 3 (dC (.str "")))
 (zaH (zgD (zeW (zae (zag 1) zao)) (zau 4) (zaH (zaR 3 (dOp zbs (zag 3) (dOp oIx (zag 2) (dOp (oI (fun _ j=>0<j) fun i j=>.int (i%j)) (zag 0) (dC (.int 26))))))
 (zaR 0 (dOp (oI zcH fun i j=>.int (i/j)) (zag 0) (dC (.int 26))))))
 (zcK (zag 3)))))
theorem zgb(ds:List D)(Qr:R→Prop)(hl:ds.length=2)(h:zbO ds Qr):zdm { nx:=fun _=>Qr (.fz .non),rt:=Qr } (zaF ["_law_cell","_law_size","_law_signs","_law_stem_here","_law_k"] ds):=by
 obtain⟨c,n,rfl,hn,q⟩:=h
 show zdm _ [.fz (.int c),.fz (.int n),.un,.un,.un]
 unfold zdm
 walk_at "all"
 refine zcn n (fun Q' h=>?_) (fun i ρ=>∃(c':Int) (acc:List Nat) (k:Sl),ρ=[.fz (.int c'),.fz (.int n),.fz (.str abc),.fz (.str (mkS acc)),k]∧acc.length=i∧acc++zbW (n-i) c'=zbW n c) ⟨_,[],_,rfl,rfl,rfl⟩ ?_ ?_
 ·walk_at "all"
  exact⟨by omega,by omega,by simpa using h⟩
 ·rintro i ρ hi ⟨c',acc,k,rfl,hac,he⟩
  walk_at "all"
  refine⟨by decide,_,zoN c',?_,_,acc++[97+(c'%26).toNat],_,by rw[mk1,zdk],by simp[hac],?_⟩
  ·rw[zbd,mk1,zbd,zaE];simp;omega
  ·rw[←he,show n-i=(n-(i+1))+1 by omega,zbW];simp
 ·rintro ρ ⟨c',acc,k,rfl,hac,he⟩
  walk_at "all"
  rw[Nat.sub_self] at he
  simp only[zbW,List.append_nil] at he
  rw[he];exact q
end Wc
namespace Wc
open PySem L2
noncomputable def zgL(c:Int):List (List Nat):=
 if c/64%3=0 then [104,103,102,101,100,99,98,97].map fun s=>(zbW 6 (c/512)).take (c/8%(c%6+1)).toNat++[s]++((zbW 6 (c/512)).drop (c/8%(c%6+1)).toNat).take ((c%6).toNat-(c/8%(c%6+1)).toNat)
 else if c/64%3=1 then(List.range 8).map fun k=>(zbW 6 (c/512)).take (c%6%4).toNat++[if k/4=0 then 109 else 116]++[if k/2%2=0 then 110 else 117]++[if k%2=0 then 111 else 118]
 else(List.range 6).map (fun k=>(zbW 6 (c/512)).take (k+1))++[([if (zbW 6 (c/512)).headD 0=97 then 98 else 97]++(zbW 6 (c/512)).drop 1).take 1,([if (zbW 6 (c/512)).headD 0=97 then 98 else 97]++(zbW 6 (c/512)).drop 1).take 3]
noncomputable def zoO(i:Int):Int:=(i%1000000000000000000000000+5)*7046029254386353131%1000000000000000000000007
noncomputable def zdQ(i:Int):List Str:=(zgL (zoO i)).map mkS
structure Words (ws:List Str):Prop where
 len:ws.length=8
 sz:∀w∈ws,1≤w.length∧w.length≤6
 abc:∀w∈ws,∀x∈w.cps.toList,97≤x∧x≤122
 nd:ws.Nodup
theorem zp3(x:Int):∃a b c d e f:Nat,zbW 6 x=[a,b,c,d,e,f]∧(97≤a∧a≤122)∧(97≤b∧b≤122)∧(97≤c∧c≤122)∧(97≤d∧d≤122)∧(97≤e∧e≤122)∧(97≤f∧f≤122):=by
 have h:=zjK 6 x
 simp only[zbW,List.mem_cons,List.not_mem_nil,or_false,forall_eq_or_imp,forall_eq] at h
 exact⟨_,_,_,_,_,_,by simp only[zbW],h.1,h.2.1,h.2.2.1,h.2.2.2.1,h.2.2.2.2.1,h.2.2.2.2.2⟩
theorem znf{l:List (List Nat)}(h:l.Nodup):(l.map mkS).Nodup:=by
 unfold List.Nodup at *
 rw[List.pairwise_map]
 exact h.imp fun hab e=>hab (mkS_inj.mp e)
theorem zl1(c:Int):(zgL c).length=8∧(∀w∈zgL c,(1≤w.length∧w.length≤6)∧∀x∈w,97≤x∧x≤122)∧(zgL c).Nodup:=by
 have hst:=zjK 6 (c/512)
 have hln:=zib 6 (c/512)
 have s0:0≤c%6:=Int.emod_nonneg _ (by decide)
 have s1:c%6<6:=Int.emod_lt_of_pos _ (by decide)
 unfold zgL
 by_cases h0:c/64%3=0
 ·rw[if_pos h0]
  have t0:0≤c/8%(c%6+1):=Int.emod_nonneg _ (by omega)
  have t1:c/8%(c%6+1)<c%6+1:=Int.emod_lt_of_pos _ (by omega)
  generalize c/8%(c%6+1)=at' at *
  generalize zbW 6 (c/512)=st at *
  refine⟨rfl,fun w hw=>?_,?_⟩
  ·rw[List.mem_map] at hw
   obtain⟨s,hs,rfl⟩:=hw
   have hs':97≤s∧s≤122:=by
    simp only[List.mem_cons,List.not_mem_nil,or_false] at hs
    omega
   refine⟨?_,fun x hx=>?_⟩
   ·simp only[List.length_append,List.length_take,List.length_drop,List.length_cons,List.length_nil,hln]
    omega
   ·simp only[List.mem_append,List.mem_singleton] at hx
    rcases hx with(hx | rfl) | hx
    ·exact hst x (List.mem_of_mem_take hx)
    ·exact hs'
    ·exact hst x (List.mem_of_mem_drop (List.mem_of_mem_take hx))
  ·simp[List.append_assoc]
 ·rw[if_neg h0]
  by_cases h1:c/64%3=1
  ·rw[if_pos h1]
   have u0:0≤c%6%4:=Int.emod_nonneg _ (by decide)
   have u1:c%6%4<4:=Int.emod_lt_of_pos _ (by decide)
   generalize c%6%4=m at *
   generalize zbW 6 (c/512)=st at *
   refine⟨by simp,fun w hw=>?_,?_⟩
   ·rw[List.mem_map] at hw
    obtain⟨s,hs,rfl⟩:=hw
    refine⟨?_,fun x hx=>?_⟩
    ·simp only[List.length_append,List.length_take,List.length_drop,List.length_cons,List.length_nil,hln]
     omega
    ·simp only[List.mem_append,List.mem_singleton] at hx
     rcases hx with((hx | rfl) | rfl) | rfl
     ·exact hst x (List.mem_of_mem_take hx)
     ·split<;>omega
     ·split<;>omega
     ·split<;>omega
   ·simp[List.range,List.range.loop,List.append_assoc]
  ·rw[if_neg h1]
   obtain⟨a,b,c',d,e,f,hs,ha,hb,hc,hd,he,hf⟩:=zp3 (c/512)
   rw[hs]
   have ho:97≤(if a=97 then 98 else 97)∧(if a=97 then 98 else 97)≤122∧(if a=97 then 98 else 97)≠a:=by split<;>omega
   generalize (if a=97 then 98 else 97)=o at ho
   refine⟨by simp,?_,?_⟩
   ·intro w hw
    simp[List.range,List.range.loop] at hw
    rcases hw with rfl | rfl | rfl | rfl | rfl | rfl | rfl | rfl<;>(refine⟨by simp,fun x hx=>?_⟩)<;>simp at hx<;>(try split at hx)<;>omega
   ·have:¬a=o:=fun z=>ho.2.2 z.symm
    simp[List.range,List.range.loop]
    split<;>omega
theorem zic(i:Int):Words (zdQ i):=by
 obtain⟨h1,h2,h3⟩:=zl1 (zoO i)
 refine⟨by simp[zdQ,h1],fun w hw=>?_,fun w hw=>?_,znf h3⟩
 ·unfold zdQ at hw
  rw[List.mem_map] at hw
  obtain⟨l,hl,rfl⟩:=hw
  rw[zbd];exact(h2 l hl).1
 ·unfold zdQ at hw
  rw[List.mem_map] at hw
  obtain⟨l,hl,rfl⟩:=hw
  rw[zfv];exact(h2 l hl).2
noncomputable def za6:SpD:=fun ds Q=>∃i:Int,ds=[.int i]∧Q (.ow ((zdQ i).map .str))
noncomputable def zcR:TX:=(zaH (zaR 0 (dOp (oI (fun _ j=>0<j) fun i j=>.int (i%j)) (dOp (oI CMul fun i j=>.int (i*j)) (dOp zbs (dOp (oI (fun _ j=>0<j) fun i j=>.int (i%j)) (zag 0) (dOp (oI zkv fun i j=>.int (i ^ j.toNat)) (dC (.int 10)) (dC (.int 24)))) (dC (.int 5))) (dC (.int 7046029254386353131))) (dOp zbs (dOp (oI zkv fun i j=>.int (i ^ j.toNat)) (dC (.int 10)) (dC (.int 24))) (dC (.int 7)))))
 (zaH (zaR 1 (dOp (oI (fun _ j=>0<j) fun i j=>.int (i%j)) (zag 0) (dC (.int 6))))
 (zaH (zaR 2 (zav 2 zbO (zae (dOp (oI zcH fun i j=>.int (i/j)) (zag 0) (dC (.int 512))) (zae (dC (.int 6)) zao))))
 (zaH (zaR 3 (dOp (oI (fun _ j=>0<j) fun i j=>.int (i%j)) (dOp (oI zcH fun i j=>.int (i/j)) (zag 0) (dC (.int 8))) (dOp zbs (zag 1) (dC (.int 1)))))
 (zaH (xIf (zbL (dOp oEq (dOp (oI (fun _ j=>0<j) fun i j=>.int (i%j)) (dOp (oI zcH fun i j=>.int (i/j)) (zag 0) (dC (.int 64))) (dC (.int 3))) (dC (.int 0)))) (zcK (zaW (zcc (dC (.str "hgfedcba"))) [none,some 2,some 3,some 1] (zau 0) zdb (dOp zbs (dOp zbs (dSl (zag 1) oNo (zbu (zag 2))) (zag 0)) (dSl (zag 1) (zbu (zag 2)) (zbu (zag 3)))))) zeT)
 (zaH (xIf (zbL (dOp oEq (dOp (oI (fun _ j=>0<j) fun i j=>.int (i%j)) (dOp (oI zcH fun i j=>.int (i/j)) (zag 0) (dC (.int 64))) (dC (.int 3))) (dC (.int 1)))) (zcK (zaW (zeW (zae (dC (.int 8)) zao)) [none,some 2,some 1] (zau 0) zdb (dOp zbs (dOp zbs (dOp zbs (dSl (zag 1) oNo (zbu (dOp (oI (fun _ j=>0<j) fun i j=>.int (i%j)) (zag 2) (dC (.int 4))))) (dOp oIx (dC (.str "mt")) (dOp (oI zcH fun i j=>.int (i/j)) (zag 0) (dC (.int 4))))) (dOp oIx (dC (.str "nu")) (dOp (oI (fun _ j=>0<j) fun i j=>.int (i%j)) (dOp (oI zcH fun i j=>.int (i/j)) (zag 0) (dC (.int 2))) (dC (.int 2))))) (dOp oIx (dC (.str "ov")) (dOp (oI (fun _ j=>0<j) fun i j=>.int (i%j)) (zag 0) (dC (.int 2))))))) zeT)
 (zaH (zaR 4 (dOp zbs (dOp oIx (dC (.str "ab")) (dCB zpI (zae (dOp oEq (dOp oIx (zag 2) (dC (.int 0))) (dC (.str "a"))) zao))) (dSl (zag 2) (zbu (dC (.int 1))) oNo)))
 (zcK (dOp zbs (zaW (zeW (zae (dC (.int 6)) zao)) [none,some 2] (zau 0) zdb (dSl (zag 1) oNo (zbu (dOp zbs (zag 0) (dC (.int 1)))))) (zcI (zae (dSl (zag 4) oNo (zbu (dC (.int 1)))) (zae (dSl (zag 4) oNo (zbu (dC (.int 3)))) zao))))))))))))
theorem zp4:(Str.ofString "hgfedcba").cps.toList=[104,103,102,101,100,99,98,97]:=by decide +kernel
theorem zq8(k:Nat)(h:k<8):atI (Str.ofString "mt").cps.toList ((k:Int)/4)=some (if k/4=0 then 109 else 116):=by
 have:∀k:Fin 8,atI (Str.ofString "mt").cps.toList ((k.val:Int)/4)=some (if k.val/4=0 then 109 else 116):=by decide +kernel
 exact this ⟨k,h⟩
theorem zq9(k:Nat)(h:k<8):atI (Str.ofString "nu").cps.toList ((k:Int)/2%2)=some (if k/2%2=0 then 110 else 117):=by
 have:∀k:Fin 8,atI (Str.ofString "nu").cps.toList ((k.val:Int)/2%2)=some (if k.val/2%2=0 then 110 else 117):=by decide +kernel
 exact this ⟨k,h⟩
theorem zra(k:Nat)(h:k<8):atI (Str.ofString "ov").cps.toList ((k:Int)%2)=some (if k%2=0 then 111 else 118):=by
 have:∀k:Fin 8,atI (Str.ofString "ov").cps.toList ((k.val:Int)%2)=some (if k.val%2=0 then 111 else 118):=by decide +kernel
 exact this ⟨k,h⟩
theorem zfz(ds:List D)(Qr:R→Prop)(hl:ds.length=1)(h:za6 ds Qr):zcR { nx:=fun _=>Qr (.fz .non),rt:=Qr } (zaF ["_law_cell","_law_size","_law_stem_here","_law_at","_law_other"] ds):=by
 obtain⟨i,rfl,q⟩:=h
 show zcR _ [.fz (.int i),.un,.un,.un,.un]
 unfold zcR
 walk_at "all"
 unfold zdQ zgL zoO at q
 generalize (i%1000000000000000000000000+5)*7046029254386353131%1000000000000000000000007=c at q ⊢
 have s0:0≤c%6:=Int.emod_nonneg _ (by decide)
 have s1:c%6<6:=Int.emod_lt_of_pos _ (by decide)
 refine⟨c/512,6,rfl,by decide,by omega,?_⟩
 have t0:0≤c/8%(c%6+1):=Int.emod_nonneg _ (by omega)
 have t1:c/8%(c%6+1)<c%6+1:=Int.emod_lt_of_pos _ (by omega)
 have hln:=zib 6 (c/512)
 have big:=zaE
 by_cases h0:c/64%3=0
 ·rw[if_pos h0] at q
  rw[if_pos h0]
  refine zaK [104,103,102,101,100,99,98,97] (fun c=>.str ⟨#[c]⟩) (fun s=>.str (mkS ((zbW 6 (c/512)).take (c/8%(c%6+1)).toNat++[s]++((zbW 6 (c/512)).drop (c/8%(c%6+1)).toNat).take ((c%6).toNat-(c/8%(c%6+1)).toNat)))) (fun Q' h=>?_) (by decide) (fun s hs K1 k=>?_) ?_
  ·walk_at "all"
   rw[zp4];exact h
  ·walk_at "all"
   rw[zfw _ t0,znb _ t0 s0,mk1,zdk,zdk]
   refine⟨by rw[zbd];omega,?_,by rw[zbd];omega,?_,k⟩
   ·simp only[zbd,List.length_take,List.length_cons,List.length_nil];omega
   ·simp only[zbd,List.length_append,List.length_take,List.length_drop,List.length_cons,List.length_nil];omega
  ·exact q
 ·rw[if_neg h0] at q
  rw[if_neg h0]
  by_cases h1:c/64%3=1
  ·rw[if_pos h1] at q
   rw[if_pos h1]
   have u0:0≤c%6%4:=Int.emod_nonneg _ (by decide)
   refine zaK (List.range 8) (fun(i:Nat)=>.int (0+i)) (fun k=>.str (mkS ((zbW 6 (c/512)).take (c%6%4).toNat++[if k/4=0 then 109 else 116]++[if k/2%2=0 then 110 else 117]++[if k%2=0 then 111 else 118]))) (fun Q' h=>?_) (by decide) (fun s hs K1 k=>?_) ?_
   ·walk_at "all"
    exact h
   ·have hs8:s<8:=by simpa using hs
    rw[Int.zero_add]
    walk_at "all"
    rw[zfw _ u0]
    refine⟨by rw[zbd];omega,by decide,_,zq8 s hs8,?_,by decide,_,zq9 s hs8,?_,by decide,_,zra s hs8,?_,?_⟩
    ·simp only[zbd,mk1,List.length_take,List.length_cons,List.length_nil];omega
    ·simp only[zbd,mk1,zdk,List.length_append,List.length_take,List.length_cons,List.length_nil];omega
    ·simp only[zbd,mk1,zdk,List.length_append,List.length_take,List.length_cons,List.length_nil];omega
    ·simp only[mk1,zdk];exact k
   ·rw[List.map_map] at q
    exact q
  ·rw[if_neg h1] at q
   rw[if_neg h1]
   obtain⟨a,b,c',d,e,f,hs,ha,hb,hc,hd,he,hf⟩:=zp3 (c/512)
   rw[hs] at q ⊢
   have hat:atI (mkS [a,b,c',d,e,f]).cps.toList 0=some a:=by rw[zfv];rfl
   refine⟨by rw[zbd];simp;omega,a,hat,?_⟩
   have ho:atI (Str.ofString "ab").cps.toList (if (⟨#[a]⟩:Str)=Str.ofString "a" then 1 else 0)=some (if a=97 then 98 else 97):=by
    by_cases h97:a=97
    ·subst h97;decide +kernel
    ·have:¬((⟨#[a]⟩:Str)=Str.ofString "a"):=by
      intro z
      have z2:(⟨#[a]⟩:Str).cps.toList=(Str.ofString "a").cps.toList:=by rw[z]
      have z3:(Str.ofString "a").cps.toList=[97]:=by decide +kernel
      rw[z3] at z2
      simp at z2
      exact h97 z2
     rw[if_neg this,if_neg h97]
     decide +kernel
   refine⟨by decide,_,ho,?_⟩
   walk_at "all"
   rw[zlT _ (by decide),mk1,zdk]
   refine⟨by rw[zbd];simp;omega,by simp only[zbd];simp;omega,?_⟩
   refine zaK (List.range 6) (fun(i:Nat)=>.int (0+i)) (fun k=>.str (mkS ([a,b,c',d,e,f].take (k+1)))) (fun Q' h=>?_) (by decide) (fun s hs K1 k=>?_) ?_
   ·walk_at "all"
    exact h
   ·walk_at "all"
    rw[zfw _ (by omega),show(0+(s:Int)+1).toNat=s+1 by omega]
    exact⟨by rw[zbd];simp;omega,k⟩
   ·walk_at "all"
    rw[zfw _ (by decide),zfw _ (by decide)]
    refine⟨by rw[zbd];simp;omega,by rw[zbd];simp;omega,by decide,by simp;omega,?_⟩
    simp only[List.map_append,List.map_map,List.map_cons,List.map_nil] at q
    exact q
end Wc
namespace Wc
open PySem L2
end Wc
open PySem L2 Wc
local macro_rules | `(tactic| walk_at "px")=>`(tactic| (repeat(first | walk_at "b" | simp only[OV.val,zou,zoC,zdc,zh1,zoF,zqu,zm3,zlR,zhY,zfd,zdK,zpP,ziU,zfc,zh8,zh3,zkj,zcN,zp1,zkg,zlL,zdO,znJ,zjz,zjB,zkf,zed,zqY])))
namespace Wc
open PySem L2
noncomputable def zbP:SpD:=fun ds Q=>∃(ws:List Str) (cells:List Int) (seed:Int) (W:Nat),ds=[dS ws,dI cells,.int seed,.int W]∧ws.length=8∧W≤40∧
 ∀top bottom:List (Option Str),top.length=W→bottom.length=W→Pool ws top→Pool ws bottom→Q (.fz (.tup [dP top,dP bottom]))
noncomputable def zdn:TX:=(zaH (zdF 4 (zcI zao))
 (zaH (zdF 5 (zcI zao))
 (zaH (zgD (zeW (zae (zag 3) zao)) (zau 6) (zaH (zdF 7 (zcI zao))
 (zaH (zgD (zeW (zae (dC (.int 2)) zao)) (zau 8) (zaH (zaR 9 (dOp zbs (dOp (oI CMul fun i j=>.int (i*j)) (dC (.int 2)) (zag 6)) (zag 8)))
 (zaH (zaR 10 (zav 2 zay (zae (zag 2) (zae (zag 9) zao))))
 (zaH (xIf (zbL (dOp (oI0 fun i j=>.bl (decide (i<j))) (zag 9) (dCB zgF (zae (zag 1) zao)))) (zaR 10 (zav 2 zay (zae (dOp oIx (zag 1) (zag 9)) (zae (zag 9) zao)))) zeT)
 (zjm 7 (dOp oIx (zcI (zae (dOp oIx (zag 0) (dOp (oI (fun _ j=>0<j) fun i j=>.int (i%j)) (zag 10) (dC (.int 8)))) (zae (dOp oIx (zag 0) (dOp (oI (fun _ j=>0<j) fun i j=>.int (i%j)) (dOp (oI zcH fun i j=>.int (i/j)) (zag 10) (dC (.int 8))) (dC (.int 3)))) (zae (dOp oIx (zag 0) (dOp (oI (fun _ j=>0<j) fun i j=>.int (i%j)) (dOp (oI zcH fun i j=>.int (i/j)) (zag 10) (dC (.int 8))) (dC (.int 5)))) (zae (dC .non) zao))))) (dOp (oI (fun _ j=>0<j) fun i j=>.int (i%j)) (dOp (oI zcH fun i j=>.int (i/j)) (zag 10) (dC (.int 64))) (dC (.int 4)))))))))
 (zaH (zjm 4 (zoW 7 (dC (.int 0))))
 (zjm 5 (zoW 7 (dC (.int 1))))))))
 (zkb 5 (zkb 4 (zcK (ziN (zae (zag 4) (zae (zag 5) zao)))))))))
theorem zhg(ws:List Str):Pool ws []:=fun w h=>by cases h
theorem zfA{ws:List Str}{l:List (Option Str)}{x:Option Str}(h:Pool ws l)(hx:∀w,x=some w→w∈ws):Pool ws (l++[x]):=fun w hw=>by
 rcases List.mem_append.mp hw with h1 | h1
 ·exact h w h1
 ·exact hx w (List.mem_singleton.mp h1).symm
theorem zgc(ds:List D)(Qr:R→Prop)(hl:ds.length=4)(h:zbP ds Qr):zdn { nx:=fun _=>Qr (.fz .non),rt:=Qr } (zaF ["_law_words","_law_cells","_law_seed","_law_width","_law_top","_law_bottom","_law_c","_law_row","_law_side","_law_k","_law_one"] ds):=by
 obtain⟨ws,cells,seed,W,rfl,hws,hW,q⟩:=h
 show zdn _ [.fz (dS ws),.fz (dI cells),.fz (.int seed),.fz (.int W),.un,.un,.un,.un,.un,.un,.un]
 unfold zdn
 have big:=zaE
 walk_at "px"
 refine⟨by omega,?_⟩
 walk_at "go"
 refine⟨by omega,?_⟩
 walk_at "go"
 refine zcn W (fun Q' h=>?_) (fun i ρ=>∃(top bottom:List (Option Str)) (a b c d e:Sl),ρ=[.fz (dS ws),.fz (dI cells),.fz (.int seed),.fz (.int W),.ow (top.map dO),.ow (bottom.map dO),a,b,c,d,e]∧top.length=i∧bottom.length=i∧Pool ws top∧Pool ws bottom) ⟨[],[],_,_,_,_,_,rfl,rfl,rfl,zhg _,zhg _⟩ ?_ ?_
 ·walk_at "px"
  exact⟨by omega,by omega,by simpa using h⟩
 ·rintro i ρ hi ⟨top,bottom,a,b,c,d,e,rfl,ht,hb,pt,pb⟩
  walk_at "px"
  refine⟨by omega,?_⟩
  walk_at "go"
  refine zcn 2 (fun Q' h=>?_) (fun j ρ=>∃(row:List (Option Str)) (c d e:Sl),ρ=[.fz (dS ws),.fz (dI cells),.fz (.int seed),.fz (.int W),.ow (top.map dO),.ow (bottom.map dO),.fz (.int i),.ow (row.map dO),c,d,e]∧row.length=j∧Pool ws row) ⟨[],_,_,_,rfl,rfl,zhg _⟩ ?_ ?_
  ·walk_at "px"
   exact h
  ·rintro j ρ hj ⟨row,c,d,e,rfl,hr,pr⟩
   walk_at "px"
   walk_at "go"
   have k0:(0:Int)≤2*(i:Int)+j:=by omega
   have k1:2*(i:Int)+j≤1000000:=by omega
   refine⟨seed,_,rfl,k0,k1,?_⟩
   walk_at "go"
   unfold dI
   walk_at "px"
   split
   focus
    rename_i hc
    rw[List.length_map] at hc
    obtain⟨z,hz,_⟩:=ziW (l:=cells) k0 hc
    refine⟨z,hz,z,_,rfl,k0,k1,?_⟩
   all_goals
    generalize zkx _ _=one
    walk_at "go"
    unfold dS
    walk_at "px"
    obtain⟨z1,h1,m1⟩:=at8 one hws
    obtain⟨z2,h2,m2⟩:=at3 (one/8) hws
    obtain⟨z3,h3,m3⟩:=at5 (one/8) hws
    refine⟨z1,h1,z2,h2,z3,h3,by omega,?_⟩
    have h4:=zjG (l:=[some z1,some z2,some z3,none]) (n:=4) (one/64) (by simp) (by decide)
    obtain⟨z,hz,mz⟩:=h4
    refine⟨dO z,?_,by simp;omega,row++[z],_,_,_,by rw[List.map_append];rfl,by simp[hr],zfA pr ?_⟩
    ·have:=congrArg (Option.map dO) hz
     rw[←ziV] at this
     exact this
    ·intro w hw
     subst hw
     simp only[List.mem_cons,Option.some.injEq,List.not_mem_nil,or_false,reduceCtorEq] at mz
     rcases mz with rfl | rfl | rfl
     ·exact m1
     ·exact m2
     ·exact m3
  ·rintro ρ ⟨row,c,d,e,rfl,hr,pr⟩
   obtain⟨x,y,rfl⟩:∃x y,row=[x,y]:=by
    match row,hr with
    | [x,y],_=>exact⟨x,y,rfl⟩
   walk_at "go"
   refine⟨dO x,rfl,by simp;omega,?_⟩
   walk_at "go"
   refine⟨dO y,rfl,by simp;omega,top++[x],bottom++[y],_,_,_,_,_,by rw[List.map_append,List.map_append];rfl,by simp[ht],by simp[hb],zfA pt fun w hw=>pr w (by simp[hw]),zfA pb fun w hw=>pr w (by simp[hw])⟩
 ·rintro ρ ⟨top,bottom,a,b,c,d,e,rfl,ht,hb,pt,pb⟩
  walk_at "go"
  exact⟨by omega,q top bottom ht hb pt pb⟩
noncomputable def cntN(top bottom:List (Option Str))(left right:List Str)(w:Str):Nat:=top.count (some w)+bottom.count (some w)+left.count w+right.count w
noncomputable def zbv:SpD:=fun ds Q=>∃(top bottom:List (Option Str)) (left right:List Str) (w:Str),ds=[dP top,dP bottom,dS left,dS right,.str w]∧top.length+bottom.length+left.length+right.length≤100000∧Q (.fz (.int (cntN top bottom left right w)))
noncomputable def zdo:TX:=(zaH (zaR 5 (dOp zbs (dOp zbs (dOp zbs (zag 0) (zag 1)) (zag 2)) (zag 3)))
 (zcK (dM "list" zgH (zag 5) (zae (zag 4) zao))))
theorem znP(w:Str)(l:List (Option Str)):zkw (.str w) (l.map dO)=l.count (some w):=by
 unfold zkw
 rw[List.countP_map,List.count]
 congr 1
 funext x
 simp only[Function.comp_apply,zeg]
 rw[zee]
theorem zl2(w:Str)(l:List Str):zkw (.str w) (l.map D.str)=l.count w:=by
 unfold zkw
 rw[List.countP_map,List.count]
 congr 1
theorem zhh(d:D)(a b:List D):zkw d (a++b)=zkw d a+zkw d b:=by unfold zkw;exact List.countP_append
theorem zgd(ds:List D)(Qr:R→Prop)(hl:ds.length=5)(h:zbv ds Qr):zdo { nx:=fun _=>Qr (.fz .non),rt:=Qr } (zaF ["_law_top","_law_bottom","_law_left","_law_right","_law_word","_law_some"] ds):=by
 obtain⟨top,bottom,left,right,w,rfl,hz,q⟩:=h
 show zdo _ [.fz (dP top),.fz (dP bottom),.fz (dS left),.fz (dS right),.fz (.str w),.un]
 unfold zdo
 have big:=zaE
 unfold dP dS
 walk_at "px"
 refine⟨by simp;omega,by simp;omega,by simp;omega,?_⟩
 walk_at "go"
 refine⟨rfl,?_,?_⟩
 ·intro e he
  simp only[List.mem_append] at he
  rcases he with((he | he) | he) | he
  ·exact zfe 8 top e he
  ·exact zfe 8 bottom e he
  ·exact zcB 8 left e he
  ·exact zcB 8 right e he
 ·rw[zhh,zhh,zhh,znP,znP,zl2,zl2]
  exact q
theorem zqw(l:List Int)(a:Int):l.map D.int++[D.int a]=(l++[a]).map D.int:=by simp
noncomputable def places(top bottom:List (Option Str))(left right:List Str)(w:Str):List Int:=
 (((List.range top.length).filter fun c=>top[c]?==some (some w)||bottom[c]?==some (some w)).map fun(c:Nat)=>(c:Int))++(if w∈left then [-1] else [])++(if w∈right then [(top.length:Int)] else [])
noncomputable def IsMin(m:Int)(l:List Int):Prop:=m∈l∧∀a∈l,m≤a
noncomputable def IsMax(m:Int)(l:List Int):Prop:=m∈l∧∀a∈l,a≤m
noncomputable def zbe:SpD:=fun ds Q=>∃(top bottom:List (Option Str)) (left right:List Str) (w:Str),ds=[dP top,dP bottom,dS left,dS right,.str w]∧bottom.length=top.length∧top.length≤100∧left.length≤100∧right.length≤100∧
 ∀m M,IsMin m (places top bottom left right w++[99])→IsMax M (places top bottom left right w++[-9])→Q (.fz (.tup [.int m,.int M]))
noncomputable def zci:TX:=(zaH (zdF 5 (zaW (zeW (zae (dCB zgF (zae (zag 0) zao)) zao)) [none,some 4,some 0,some 1] (zau 0) (zbL (dOp (zf8 false) (zag 1) (zcI (zae (dOp oIx (zag 2) (zag 0)) (zae (dOp oIx (zag 3) (zag 0)) zao))))) (zag 0)))
 (zaH (xIf (zbL (dOp (zf8 false) (zag 4) (zag 2))) (zjm 5 (zoZ (dC (.int 1)))) zeT)
 (zaH (xIf (zbL (dOp (zf8 false) (zag 4) (zag 3))) (zjm 5 (dCB zgF (zae (zag 0) zao))) zeT)
 (zkb 5 (zcK (ziN (zae (dCB zqs (zae (dOp zbs (zag 5) (zcI (zae (dC (.int 99)) zao))) zao)) (zae (dCB zqt (zae (dOp zbs (zag 5) (zcI (zae (zoZ (dC (.int 9))) zao))) zao)) zao))))))))
theorem zeh(ds:List D)(Qr:R→Prop)(hl:ds.length=5)(h:zbe ds Qr):zci { nx:=fun _=>Qr (.fz .non),rt:=Qr } (zaF ["_law_top","_law_bottom","_law_left","_law_right","_law_word","_law_places"] ds):=by
 obtain⟨top,bottom,left,right,w,rfl,hb,ht,hlf,hr,q⟩:=h
 show zci _ [.fz (dP top),.fz (dP bottom),.fz (dS left),.fz (dS right),.fz (.str w),.un]
 unfold zci
 have big:=zaE
 unfold dP dS
 walk_at "px"
 refine zbb (List.range top.length) (fun(i:Nat)=>.int (0+i)) (fun(i:Nat)=>.int i) (fun c=>top[c]?==some (some w)||bottom[c]?==some (some w)) (fun Q' h=>?_) (by simp;omega) (fun c hc K1 K0 k1 k0=>?_) ?_
 ·walk_at "px"
  rw[List.length_map]
  exact⟨by omega,by omega,by simpa using h⟩
 ·have hc':c<top.length:=by simpa using hc
  rw[Int.zero_add]
  walk_at "px"
  refine⟨_,zbt hc',_,zbt (l:=bottom) (by omega),by omega,?_,?_⟩
  ·intro e he
   simp only[List.mem_cons,List.not_mem_nil,or_false] at he
   rcases he with rfl | rfl<;>(rw[zjI];trivial)
  ·have e1:inD (.str w) [dO top[c],dO bottom[c]]=(top[c]?==some (some w)||bottom[c]?==some (some w)):=by
    unfold inD
    simp only[List.any_cons,List.any_nil,Bool.or_false,zeg]
    rw[List.getElem?_eq_getElem hc',List.getElem?_eq_getElem (l:=bottom) (by omega),zee,zee]
    simp
   rw[e1]
   cases hb:(top[c]?==some (some w)||bottom[c]?==some (some w)) with
   | true=>exact k1 hb
   | false=>exact k0 hb
 ·have e:∀L:List Nat,(L.map fun(i:Nat)=>D.int i)=(L.map (fun(c:Nat)=>(c:Int))).map D.int:=fun L=>by simp
  rw[e]
  have hlen:(((List.range top.length).filter fun c=>top[c]?==some (some w)||bottom[c]?==some (some w)).map fun(c:Nat)=>(c:Int)).length≤100:=by
   rw[List.length_map]
   refine Nat.le_trans (List.length_filter_le _ _) ?_
   simp;omega
  unfold places at q
  generalize (((List.range top.length).filter fun c=>top[c]?==some (some w)||bottom[c]?==some (some w)).map fun(c:Nat)=>(c:Int))=base at q hlen ⊢
  walk_at "go"
  refine⟨zcB 8 left,?_⟩
  rw[znc]
  by_cases h1:w∈left<;>by_cases h2:w∈right
  all_goals
   simp only[h1,h2,if_true,if_false,List.append_nil] at q
   simp only[h1,decide_true,decide_false,if_true,Bool.false_eq_true,if_false]
   try(refine⟨by simp;omega,?_⟩)
   walk_at "go"
   refine⟨zcB 8 right,?_⟩
   rw[znc]
   simp only[h2,decide_true,decide_false,if_true,Bool.false_eq_true,if_false]
   try(refine⟨by simp;omega,?_⟩)
   try simp only[zqw,List.length_map]
   walk_at "go"
   refine⟨by omega,by simp;omega,?_⟩
   try simp only[zqw,zqs,zqt,zc3]
   refine⟨by simp,fun m hm1 hm2=>?_⟩
   refine⟨by omega,by simp;omega,?_⟩
   try simp only[zqw,zc3]
   refine⟨by simp,fun M hM1 hM2=>?_⟩
   exact⟨by omega,q m M ⟨by simpa using hm1,by simpa using hm2⟩ ⟨by simpa using hM1,by simpa using hM2⟩⟩
end Wc
namespace Wc
open PySem L2 PyProof.Rows
structure BendsOK (top bottom:List (Option Str)) (left right ws:List Str) (bends:List (Int×Str)):Prop where
 len:bends.length≤top.length
 up:bends.Pairwise fun a b=>a.1<b.1
 at_:∀p∈bends,∃n:Nat,p.1=n∧n<top.length∧p.2∈ws∧(∃m M,IsMin m (places top bottom left right p.2++[99])∧IsMax M (places top bottom left right p.2++[-9])∧m<p.1∧p.1<M)∧((top[n]?=some none∧bottom[n]?=some none)∨top[n]?=some (some p.2)∨bottom[n]?=some (some p.2))
noncomputable def zbD:SpD:=fun ds Q=>∃(top bottom:List (Option Str)) (left right ws:List Str) (cells:List Int) (seed:Int),ds=[.lst [dP top,dP bottom,dS left,dS right],dS ws,dI cells,.int seed]∧bottom.length=top.length∧top.length≤40∧left.length≤100∧right.length≤100∧ws.length=8∧Pool ws top∧cells.length≤1000∧
 ∀bends,BendsOK top bottom left right ws bends→Q (.ow (bends.map dBp))
noncomputable def zcS:TX:=(zaH (zoX (zag 0) (zpJ 4 (za0 (zau 4) (za0 (zau 5) (za0 (zau 6) (za0 (zau 7) zeU))))))
 (zaH (zdF 8 (zcI zao))
 (zaH (zgD (zeW (zae (dCB zgF (zae (zag 4) zao)) zao)) (zau 9) (zaH (zaR 10 (zav 2 zay (zae (dOp oIx (dOp zbs (zag 2) (zcI (zae (zag 3) zao))) (dOp (oI (fun _ j=>0<j) fun i j=>.int (i%j)) (zag 9) (dOp zbs (dCB zgF (zae (zag 2) zao)) (dC (.int 1))))) (zae (dOp zbs (zag 9) (dC (.int 200))) zao))))
 (zaH (zaR 11 (dOp oIx (zag 1) (dOp (oI (fun _ j=>0<j) fun i j=>.int (i%j)) (zag 10) (dC (.int 8)))))
 (zaH (xIf (zmP (zbL (dOp oEq (dOp (oI (fun _ j=>0<j) fun i j=>.int (i%j)) (dOp (oI zcH fun i j=>.int (i/j)) (zag 10) (dC (.int 8))) (dC (.int 3))) (dC (.int 0)))) (zbL (dOp (zk5 true) (dOp oIx (zag 4) (zag 9)) (dC .non)))) (zaR 11 (dOp oIx (zag 4) (zag 9))) zeT)
 (zaH (zoX (zav 5 zbe (zae (zag 4) (zae (zag 5) (zae (zag 6) (zae (zag 7) (zae (zag 11) zao)))))) (zf9 2 (za0 (zau 12) (za0 (zau 13) zeU))))
 (zaH (zaR 14 (zaW (zcc (zcI (zae (dOp oIx (zag 4) (zag 9)) (zae (dOp oIx (zag 5) (zag 9)) zao)))) [none] (zau 0) (zbL (dOp (zk5 true) (zag 0) (dC .non))) (zag 0)))
 (xIf (zmP (zbL (dOp (oI0 fun i j=>.bl (decide (i<j))) (zag 12) (zag 9))) (zmP (zbL (dOp (oI0 fun i j=>.bl (decide (i<j))) (zag 9) (zag 13))) (zmP (bOr (zbL (dOp oEq (zag 14) (zcI zao))) (zbL (dOp (zf8 false) (zag 11) (zag 14)))) (zbL (dOp (oI0 fun i j=>.bl (decide (j<i))) (dOp (oI (fun _ j=>0<j) fun i j=>.int (i%j)) (dOp (oI zcH fun i j=>.int (i/j)) (zag 10) (dC (.int 24))) (dC (.int 3))) (dC (.int 0))))))) (zjm 8 (ziN (zae (zag 9) (zae (zag 11) zao)))) zeT)))))))
 (ziO 8))))
theorem zng(l:List D):zhO l []=l.isEmpty:=by cases l<;>simp[zhO]
theorem zfB(ds:List D)(Qr:R→Prop)(hl:ds.length=4)(h:zbD ds Qr):zcS { nx:=fun _=>Qr (.fz .non),rt:=Qr } (zaF ["_law_lists","_law_words","_law_cells","_law_seed","_law_top","_law_bottom","_law_left","_law_right","_law_bends_here","_law_c","_law_one","_law_word","_law_l","_law_r","_law_here"] ds):=by
 obtain⟨top,bottom,left,right,ws,cells,seed,rfl,hb,ht,hlf,hr,hws,pt,hcl,q⟩:=h
 show zcS _ [.fz (.lst [dP top,dP bottom,dS left,dS right]),.fz (dS ws),.fz (dI cells),.fz (.int seed),.un,.un,.un,.un,.un,.un,.un,.un,.un,.un,.un]
 unfold zcS
 have big:=zaE
 walk_at "px"
 walk_at "go"
 refine⟨by omega,?_⟩
 walk_at "go"
 refine zcn top.length (fun Q' h=>?_) (fun i ρ=>∃(bends:List (Int×Str)) (a b c d e f:Sl),ρ=[.fz (.lst [dP top,dP bottom,dS left,dS right]),.fz (dS ws),.fz (dI cells),.fz (.int seed),.fz (dP top),.fz (dP bottom),.fz (dS left),.fz (dS right),.ow (bends.map dBp),a,b,c,d,e,f]∧BendsOK top bottom left right ws bends∧(∀p∈bends,p.1<i)∧bends.length≤i) ⟨[],_,_,_,_,_,_,rfl,⟨by simp,by simp,by simp⟩,by simp,by simp⟩ ?_ ?_
 ·unfold dP
  walk_at "px"
  rw[List.length_map]
  exact⟨by omega,by omega,by simpa using h⟩
 ·rintro i ρ hi ⟨bends,a,b,c,d,e,f,rfl,bo,lt,ln⟩
  unfold dI
  walk_at "px"
  rw[List.length_map]
  refine⟨by omega,by omega,by omega,?_⟩
  have m0:0≤(i:Int)%((cells.length:Int)+1):=Int.emod_nonneg _ (by omega)
  have m1:(i:Int)%((cells.length:Int)+1)<(cells.length:Int)+1:=Int.emod_lt_of_pos _ (by omega)
  rw[zqw]
  obtain⟨z,hz,_⟩:=ziW (l:=cells++[seed]) m0 (by simp;omega)
  rw[zlS]
  refine⟨z,hz,z,_,rfl,by omega,by omega,?_⟩
  generalize zkx _ _=one
  unfold dS
  walk_at "go"
  obtain⟨z1,h1,mz1⟩:=at8 one hws
  refine⟨z1,h1,?_⟩
  unfold dP
  walk_at "go"
  have hat:top[i]?=some top[i]:=List.getElem?_eq_getElem hi
  have hab:bottom[i]?=some bottom[i]:=List.getElem?_eq_getElem (by omega)
  have key:∃w:Str,w∈ws∧∀K:D→Prop,K (.str w)→(if one/8%3=0 then ∃x,atI top (i:Int)=some x∧(if (!zdE (dO x))=true then ∃x,atI top (i:Int)=some x∧K (dO x) else K (.str z1)) else K (.str z1)):=by
   by_cases hc:one/8%3=0
   ·cases hx:top[i] with
    | none=>exact⟨z1,mz1,fun K k=>by rw[if_pos hc];exact⟨none,by rw[zbt hi,hx],by simpa[dO,zdE] using k⟩⟩
    | some w=>
     refine⟨w,pt w (by rw[←hx];exact List.getElem_mem hi),fun K k=>?_⟩
     rw[if_pos hc]
     exact⟨some w,by rw[zbt hi,hx],by simp only[dO,zdE,Bool.not_false,if_true];exact⟨some w,by rw[zbt hi,hx],k⟩⟩
   ·exact⟨z1,mz1,fun K k=>by rw[if_neg hc];exact k⟩
  obtain⟨w,hw,kw⟩:=key
  refine kw (fun d=>zkn _ _ [_,_,_,_,_,_,_,_,_,_,_,.fz d,_,_,_]) ?_
  walk_at "go"
  refine⟨top,bottom,left,right,w,rfl,hb,by omega,hlf,hr,fun m M hm hM=>?_⟩
  walk_at "go"
  refine zbb [top[i],bottom[i]] dO dO (fun x=>x.isSome) (fun Q' h=>?_) (by simp;omega) (fun c hc K1 K0 k1 k0=>?_) ?_
  ·walk_at "px"
   exact⟨_,zbt hi,_,zbt (l:=bottom) (by omega),by omega,h⟩
  ·walk_at "px"
   cases c with
   | none=>exact k0 rfl
   | some x=>exact k1 rfl
  ·walk_at "go"
   have skip:∀(a b c d e f:Sl) (X Y Z:D),∃(bends':List (Int×Str)) (a' b' c' d' e' f':Sl),[Sl.fz (D.lst [D.lst (List.map dO top),D.lst (List.map dO bottom),D.lst (List.map D.str left),D.lst (List.map D.str right)]),Sl.fz (D.lst (List.map D.str ws)),Sl.fz (D.lst (List.map D.int cells)),Sl.fz (D.int seed),Sl.fz (D.lst (List.map dO top)),Sl.fz (D.lst (List.map dO bottom)),Sl.fz (D.lst (List.map D.str left)),Sl.fz (D.lst (List.map D.str right)),Sl.ow (List.map dBp bends),a,b,c,d,e,f]=[Sl.fz (D.lst [D.lst (List.map dO top),D.lst (List.map dO bottom),D.lst (List.map D.str left),D.lst (List.map D.str right)]),Sl.fz (D.lst (List.map D.str ws)),Sl.fz (D.lst (List.map D.int cells)),Sl.fz (D.int seed),Sl.fz (D.lst (List.map dO top)),Sl.fz (D.lst (List.map dO bottom)),Sl.fz (D.lst (List.map D.str left)),Sl.fz (D.lst (List.map D.str right)),Sl.ow (List.map dBp bends'),a',b',c',d',e',f']∧BendsOK top bottom left right ws bends'∧(∀p∈bends',p.1<((i+1:Nat):Int))∧bends'.length≤i+1:=
    fun a b c d e f _ _ _=>⟨bends,a,b,c,d,e,f,rfl,bo,fun p hp=>by have:=lt p hp;omega,by omega⟩
   have hmem:some w∈[top[i],bottom[i]].filter (fun x=>x.isSome)↔top[i]=some w∨bottom[i]=some w:=by
    simp only[List.mem_filter,List.mem_cons,List.not_mem_nil,or_false,Option.isSome_some,and_true]
    constructor
    ·rintro(h | h)
     ·exact .inl h.symm
     ·exact .inr h.symm
    ·rintro(h | h)
     ·exact .inl h.symm
     ·exact .inr h.symm
   have hemp:([top[i],bottom[i]].filter (fun x=>x.isSome)=[])→top[i]=none∧bottom[i]=none:=by
    intro h
    rw[List.filter_eq_nil_iff] at h
    exact⟨by simpa using h top[i] (by simp),by simpa using h bottom[i] (by simp)⟩
   generalize [top[i],bottom[i]].filter (fun x=>x.isSome)=here at hmem hemp ⊢
   split
   ·rename_i c1
    split
    ·rename_i c2
     refine⟨by omega,okE.mono (n:=1) (by omega) (by intro d hd;exact zfe 0 here d hd),okE.mono (n:=1) (by omega) (by intro d hd;cases hd),?_⟩
     have fin:(top[i]=none∧bottom[i]=none)∨top[i]=some w∨bottom[i]=some w→BendsOK top bottom left right ws (bends++[((i:Int),w)]):=fun hp=>by
      refine⟨by simp;omega,?_,?_⟩
      ·rw[List.pairwise_append]
       refine⟨bo.up,by simp,fun a ha b hb=>?_⟩
       have:b=((i:Int),w):=by simpa using hb
       subst this
       exact lt a ha
      ·intro p hp'
       rcases List.mem_append.mp hp' with h | h
       ·exact bo.at_ p h
       ·have:p=((i:Int),w):=by simpa using h
        subst this
        refine⟨i,rfl,hi,hw,⟨m,M,hm,hM,c1,c2⟩,?_⟩
        rw[hat,hab]
        simpa using hp
     have put:(top[i]=none∧bottom[i]=none)∨top[i]=some w∨bottom[i]=some w→2≤sizeLine∧(List.map dBp bends).length<sizeLine∧∃(bends':List (Int×Str)) (a' b' c' d' e' f':Sl),[Sl.fz (D.lst [D.lst (List.map dO top),D.lst (List.map dO bottom),D.lst (List.map D.str left),D.lst (List.map D.str right)]),Sl.fz (D.lst (List.map D.str ws)),Sl.fz (D.lst (List.map D.int cells)),Sl.fz (D.int seed),Sl.fz (D.lst (List.map dO top)),Sl.fz (D.lst (List.map dO bottom)),Sl.fz (D.lst (List.map D.str left)),Sl.fz (D.lst (List.map D.str right)),Sl.ow (List.map dBp bends++[D.tup [D.int i,D.str w]]),Sl.fz (D.int i),Sl.fz (D.int one),Sl.fz (D.str w),Sl.fz (D.int m),Sl.fz (D.int M),Sl.fz (D.lst (here.map dO))]=[Sl.fz (D.lst [D.lst (List.map dO top),D.lst (List.map dO bottom),D.lst (List.map D.str left),D.lst (List.map D.str right)]),Sl.fz (D.lst (List.map D.str ws)),Sl.fz (D.lst (List.map D.int cells)),Sl.fz (D.int seed),Sl.fz (D.lst (List.map dO top)),Sl.fz (D.lst (List.map dO bottom)),Sl.fz (D.lst (List.map D.str left)),Sl.fz (D.lst (List.map D.str right)),Sl.ow (List.map dBp bends'),a',b',c',d',e',f']∧BendsOK top bottom left right ws bends'∧(∀p∈bends',p.1<((i+1:Nat):Int))∧bends'.length≤i+1:=fun hp=>by
      refine⟨by omega,by simp;omega,bends++[((i:Int),w)],_,_,_,_,_,_,by rw[List.map_append];rfl,fin hp,?_,by simp;omega⟩
      intro p hp'
      rcases List.mem_append.mp hp' with h | h
      ·have:=lt p h;omega
      ·have:p=((i:Int),w):=by simpa using h
       subst this
       show(i:Int)<_
       omega
     by_cases ce:here=[]
     ·simp only[ce,List.map_nil,eqD,zhO,if_true]
      split
      ·have:=put (.inl (hemp ce));rw[ce] at this;exact this
      ·have:=skip (.fz (D.int i)) (.fz (D.int one)) (.fz (D.str w)) (.fz (D.int m)) (.fz (D.int M)) (.fz (D.lst [])) .non .non .non
       exact this
     ·have e1:eqD (D.lst (here.map dO)) (D.lst [])=false:=by
       simp only[eqD,zng]
       cases here with
       | nil=>exact absurd rfl ce
       | cons=>rfl
      simp only[e1,Bool.false_eq_true,if_false]
      refine⟨zfe 8 here,?_⟩
      rw[zq7]
      simp only[decide_eq_true_eq]
      split
      ·rename_i hin
       split
       ·exact put (.inr (hmem.mp hin))
       ·exact skip _ _ _ _ _ _ .non .non .non
      ·exact skip _ _ _ _ _ _ .non .non .non
    ·exact skip _ _ _ _ _ _ .non .non .non
   ·exact skip _ _ _ _ _ _ .non .non .non
 ·rintro ρ ⟨bends,a,b,c,d,e,f,rfl,bo,lt,ln⟩
  walk_at "go"
  exact q bends bo
noncomputable def KeepsOK(W:Nat)(keeps:List (Int×Int×Int)):Prop:=keeps.length≤6∧∀p∈keeps,0≤p.1∧p.1≤p.2.1∧p.2.1<W∧1≤p.2.2∧p.2.2≤3
noncomputable def zbE:SpD:=fun ds Q=>∃(W:Nat) (cells:List Int) (seed:Int),ds=[.int W,dI cells,.int seed]∧1≤W∧W≤40∧∀keeps,KeepsOK W keeps→Q (.ow (keeps.map dKp))
noncomputable def zcT:TX:=(zaH (zdF 3 (zcI zao))
 (zaH (zgD (zg0 (zae (dSl (zag 1) oNo (zbu (dC (.int 6)))) zao)) (zf9 2 (za0 (zau 4) (za0 (zau 5) zeU))) (zaH (zaR 6 (zav 2 zay (zae (dOp zbs (zag 5) (zag 2)) (zae (dOp zbs (zag 4) (dC (.int 300))) zao))))
 (zaH (zaR 7 (dOp (oI (fun _ j=>0<j) fun i j=>.int (i%j)) (zag 6) (zag 0)))
 (xIf (zbL (dOp oEq (dOp (oI (fun _ j=>0<j) fun i j=>.int (i%j)) (dOp (oI zcH fun i j=>.int (i/j)) (zag 6) (dC (.int 64))) (dC (.int 4))) (dC (.int 0)))) (zjm 3 (ziN (zae (zag 7) (zae (dOp zbs (zag 7) (dOp (oI (fun _ j=>0<j) fun i j=>.int (i%j)) (dOp (oI zcH fun i j=>.int (i/j)) (zag 6) (dC (.int 256))) (dOp (oI0 fun i j=>.int (i-j)) (zag 0) (zag 7)))) (zae (dOp zbs (dC (.int 1)) (dOp (oI (fun _ j=>0<j) fun i j=>.int (i%j)) (dOp (oI zcH fun i j=>.int (i/j)) (zag 6) (dC (.int 1024))) (dC (.int 3)))) zao))))) zeT))))
 (ziO 3)))
theorem zfC(ds:List D)(Qr:R→Prop)(hl:ds.length=3)(h:zbE ds Qr):zcT { nx:=fun _=>Qr (.fz .non),rt:=Qr } (zaF ["_law_width","_law_cells","_law_seed","_law_keeps_here","_law_k","_law_cell","_law_one","_law_first"] ds):=by
 obtain⟨W,cells,seed,rfl,hW,hW2,q⟩:=h
 show zcT _ [.fz (.int W),.fz (dI cells),.fz (.int seed),.un,.un,.un,.un,.un]
 unfold zcT dI
 have big:=zaE
 walk_at "px"
 refine⟨by omega,?_⟩
 walk_at "go"
 refine zcQ (cells.take 6) D.int (fun Q' h=>?_) (fun i ρ=>∃(keeps:List (Int×Int×Int)) (a b c d:Sl),ρ=[.fz (.int W),.fz (D.lst (List.map D.int cells)),.fz (.int seed),.ow (keeps.map dKp),a,b,c,d]∧keeps.length≤i∧∀p∈keeps,0≤p.1∧p.1≤p.2.1∧p.2.1<W∧1≤p.2.2∧p.2.2≤3) ⟨[],_,_,_,_,rfl,by simp,by simp⟩ ?_ ?_
 ·walk_at "px"
  rw[zhd _ (by decide)]
  exact h
 ·rintro i x ρ hx ⟨keeps,a,b,c,d,rfl,kl,ko⟩
  have hi:i<6:=by
   have:=(List.getElem?_eq_some_iff.mp hx).1
   simp at this
   omega
  walk_at "px"
  refine⟨x+seed,(i:Int)+300,rfl,by omega,by omega,?_⟩
  have n0:=zjH (x+seed) ((i:Int)+300)
  generalize zkx _ _=one at n0 ⊢
  walk_at "go"
  have f0:0≤one%(W:Int):=Int.emod_nonneg _ (by omega)
  have f1:one%(W:Int)<W:=Int.emod_lt_of_pos _ (by omega)
  refine⟨by omega,?_⟩
  generalize one%(W:Int)=fst at f0 f1 ⊢
  walk_at "go"
  have g0:0≤one/256%((W:Int)-fst):=Int.emod_nonneg _ (by omega)
  have g1:one/256%((W:Int)-fst)<(W:Int)-fst:=Int.emod_lt_of_pos _ (by omega)
  have k0:0≤one/1024%3:=Int.emod_nonneg _ (by omega)
  have k1:one/1024%3<3:=Int.emod_lt_of_pos _ (by omega)
  generalize one/256%((W:Int)-fst)=sp at g0 g1 ⊢
  generalize one/1024%3=kk at k0 k1 ⊢
  split
  ·refine⟨by omega,by omega,by simp;omega,keeps++[(fst,fst+sp,1+kk)],_,_,_,_,by rw[List.map_append];rfl,by simp;omega,fun p hp=>?_⟩
   rcases List.mem_append.mp hp with h | h
   ·exact ko p h
   ·have:p=(fst,fst+sp,1+kk):=by simpa using h
    subst this
    refine⟨f0,?_,?_,?_,?_⟩<;>dsimp only<;>omega
  ·exact⟨keeps,_,_,_,_,rfl,by omega,ko⟩
 ·rintro ρ ⟨keeps,a,b,c,d,rfl,kl,ko⟩
  walk_at "go"
  refine q keeps ⟨?_,ko⟩
  rw[List.length_take] at kl
  omega
noncomputable def zbw:SpD:=fun ds Q=>∃(ws:List Str) (bits:Int),ds=[dS ws,.int bits]∧ws.length=8∧ws.Nodup∧∀l:List Str,l.length≤8→l.Nodup→(∀w∈l,w∈ws)→sortedS l=true→Q (.ow (l.map .str))
noncomputable def zdp:TX:=(zaH (xIf (zbL (dOp oEq (dOp (oI (fun _ j=>0<j) fun i j=>.int (i%j)) (dOp (oI zcH fun i j=>.int (i/j)) (zag 1) (dC (.int 256))) (dC (.int 2))) (dC (.int 0)))) (zcK (zcI zao)) zeT)
 (zcK (dCB zdi (zae (zaW (zeW (zae (dC (.int 8)) zao)) [none,some 0,some 1] (zau 0) (zbL (dOp oEq (dOp (oI (fun _ j=>0<j) fun i j=>.int (i%j)) (dOp (oI zcH fun i j=>.int (i/j)) (zag 2) (dOp oIx (zcI (zae (dC (.int 1)) (zae (dC (.int 2)) (zae (dC (.int 4)) (zae (dC (.int 8)) (zae (dC (.int 16)) (zae (dC (.int 32)) (zae (dC (.int 64)) (zae (dC (.int 128)) zao))))))))) (zag 0))) (dC (.int 2))) (dC (.int 1)))) (dOp oIx (zag 1) (zag 0))) zao))))
theorem zoP(k:Nat)(h:k<8):atI ([1,2,4,8,16,32,64,128]:List Int) (k:Int)=some ((2:Int) ^ k):=by
 have:∀k:Fin 8,atI ([1,2,4,8,16,32,64,128]:List Int) (k.val:Int)=some ((2:Int) ^ k.val):=by decide +kernel
 exact this ⟨k,h⟩
theorem zp5(k:Nat)(h:k<8):0<(2:Int) ^ k∧(2:Int) ^ k<1073741824:=by
 have:∀k:Fin 8,0<(2:Int) ^ k.val∧(2:Int) ^ k.val<1073741824:=by decide +kernel
 exact this ⟨k,h⟩
theorem zkq{α:Type}(ws:List α)(d:α):(List.range ws.length).map (fun k=>ws.getD k d)=ws:=by
 apply List.ext_getElem
 ·simp
 ·intro i h1 h2
  simp[h2]
theorem zge(ds:List D)(Qr:R→Prop)(hl:ds.length=2)(h:zbw ds Qr):zdp { nx:=fun _=>Qr (.fz .non),rt:=Qr } (zaF ["_law_words","_law_bits"] ds):=by
 obtain⟨ws,bits,rfl,hws,nd,q⟩:=h
 show zdp _ [.fz (dS ws),.fz (.int bits)]
 unfold zdp dS
 have big:=zaE
 walk_at "px"
 split
 ·exact⟨by omega,q [] (by simp) (by simp) (by simp) rfl⟩
 ·walk_at "go"
  refine zbb (List.range 8) (fun(i:Nat)=>.int (0+i)) (fun k=>.str (ws.getD k "")) (fun k=>decide (bits/2 ^ k%2=1)) (fun Q' h=>?_) (by simp;omega) (fun c hc K1 K0 k1 k0=>?_) ?_
  ·walk_at "px"
   exact h
  ·have hc8:c<8:=by simpa using hc
   rw[Int.zero_add]
   walk_at "px"
   refine⟨by omega,D.int (2 ^ c),?_,?_⟩
   ·have:=congrArg (Option.map D.int) (zoP c hc8)
    rw[←ziV] at this
    exact this
   ·walk_at "px"
    refine⟨zp5 c hc8,?_⟩
    by_cases hb:bits/2 ^ c%2=1
    ·simp only[hb,eqD,beq_self_eq_true,if_true]
     refine⟨ws[c],zbt (by omega),?_⟩
     have:=k1 (by simpa using hb)
     rwa [show ws.getD c ""=ws[c] by simp[show c<ws.length by omega]] at this
    ·rw[if_neg hb]
     exact k0 (by simpa using hb)
  ·have e:∀L:List Nat,(L.map fun k=>D.str (ws.getD k ""))=(L.map fun k=>ws.getD k "").map D.str:=fun L=>by simp
   show zdi [D.lst _] _
   rw[e]
   have sub:List.Sublist (((List.range 8).filter fun k=>decide (bits/2 ^ k%2=1)).map fun k=>ws.getD k "") ws:=by
    have:=List.Sublist.map (fun k=>ws.getD k "") (List.filter_sublist (p:=fun k=>decide (bits/2 ^ k%2=1)) (l:=List.range 8))
    rwa [←hws,zkq,hws] at this
   generalize (((List.range 8).filter fun k=>decide (bits/2 ^ k%2=1)).map fun k=>ws.getD k "")=ss at sub ⊢
   unfold zdi
   simp only[zcp]
   have hle:=sub.length_le
   refine⟨by omega,fun ss' hp hs=>q ss' (by rw[hp.length_eq];omega) (hp.nodup_iff.mpr (sub.nodup nd)) (fun w hw=>sub.subset (hp.subset hw)) hs⟩
end Wc
namespace Wc
open PySem L2 PyProof.Rows
local macro_rules | `(tactic| walk_at "px")=>`(tactic| (repeat(first | walk_at "b" | simp only[zcN,zm3,zdc,zjB,zkj])))
noncomputable def zbr(lone:List Str):Option Str→Option Str
 | none=>none
 | some w=>if w∈lone then none else some w
theorem zrb(x:Option Str)(l:List Str):inD (dO x) (l.map .str)=(match x with | none=>false | some w=>decide (w∈l)):=by
 cases x with
 | none=>
  unfold inD
  rw[List.any_map]
  induction l with
  | nil=>rfl
  | cons a r ih=>rw[List.any_cons,ih];simp[dO,eqD]
 | some w=>exact znc w l
theorem zeQ(lone:List Str)(w:Str)(l:List (Option Str)):(l.map (zbr lone)).count (some w)=if w∈lone then 0 else l.count (some w):=by
 induction l with
 | nil=>simp
 | cons a r ih=>
  rw[List.map_cons,List.count_cons,ih,List.count_cons]
  cases a with
  | none=>simp[zbr]
  | some v=>
   unfold zbr
   by_cases h:v∈lone
   ·by_cases hw:w∈lone
    ·simp[h,hw]
    ·have:v≠w:=fun z=>hw (z▸h)
     simp[h,hw,this]
   ·by_cases hw:w∈lone
    ·have:v≠w:=fun z=>h (z▸hw)
     simp[h,hw,this]
    ·simp[h,hw]
theorem zgM(lone:List Str)(w:Str)(l:List Str):(l.filter fun x=>decide (x∉lone)).count w=if w∈lone then 0 else l.count w:=by
 by_cases hw:w∈lone
 ·rw[if_pos hw,List.count_eq_zero]
  intro h
  rw[List.mem_filter] at h
  simpa[hw] using h.2
 ·rw[if_neg hw,List.count_filter]
  simpa using hw
theorem zfD{ws lone:List Str}{l:List (Option Str)}(h:Pool ws l):Pool ws (l.map (zbr lone)):=fun w hw=>by
 rw[List.mem_map] at hw
 obtain⟨x,hx,e⟩:=hw
 cases x with
 | none=>cases e
 | some v=>
  by_cases hv:v∈lone
  ·simp[zbr,hv] at e
  ·simp[zbr,hv] at e
   subst e
   exact h _ hx
theorem zoQ{ws:List Str}{top bottom:List (Option Str)}{left right:List Str}(pt:Pool ws top)(pb:Pool ws bottom)(lf:∀w∈left,w∈ws)(rt:∀w∈right,w∈ws){w:Str}(h:w∉ws):cntN top bottom left right w=0:=by
 unfold cntN
 rw[List.count_eq_zero.mpr fun z=>h (pt w z),List.count_eq_zero.mpr fun z=>h (pb w z),List.count_eq_zero.mpr fun z=>h (lf w z),List.count_eq_zero.mpr fun z=>h (rt w z)]
theorem zkr{ws:List Str}{top bottom:List (Option Str)}{left right:List Str}(pt:Pool ws top)(pb:Pool ws bottom)(lf:∀w∈left,w∈ws)(rt:∀w∈right,w∈ws)(lone:List Str)(hl:lone=ws.filter fun w=>decide (cntN top bottom left right w=1))(w:Str) :
  cntN (top.map (zbr lone)) (bottom.map (zbr lone)) (left.filter fun x=>decide (x∉lone)) (right.filter fun x=>decide (x∉lone)) w≠1:=by
 have e:cntN (top.map (zbr lone)) (bottom.map (zbr lone)) (left.filter fun x=>decide (x∉lone)) (right.filter fun x=>decide (x∉lone)) w=if w∈lone then 0 else cntN top bottom left right w:=by
  unfold cntN
  rw[zeQ,zeQ,zgM,zgM]
  split<;>simp
 rw[e]
 by_cases h:w∈lone
 ·rw[if_pos h];decide
 ·rw[if_neg h]
  by_cases hws:w∈ws
  ·intro z
   apply h
   rw[hl,List.mem_filter]
   exact⟨hws,by simpa using z⟩
  ·rw[zoQ pt pb lf rt hws];decide
structure GoodCh (ws:List Str) (most:Nat) (c:Chan):Prop where
 w1:1≤c.top.length
 w2:c.top.length≤most
 bl:c.bottom.length=c.top.length
 pt:Pool ws c.top
 pb:Pool ws c.bottom
 ll:c.left.length≤8
 lw:∀w∈c.left,w∈ws
 lo:c.left.Pairwise ltS
 rl:c.right.length≤8
 rw_:∀w∈c.right,w∈ws
 ro:c.right.Pairwise ltS
 cnt:∀w,cntN c.top c.bottom c.left c.right w≠1
 wl:c.wide.length≤8
 wo:(c.wide.map (·.1)).Pairwise ltS
 ww:∀p∈c.wide,p.1∈ws∧(p.2=2∨p.2=3)∧1<cntN c.top c.bottom c.left c.right p.1
 be:BendsOK c.top c.bottom c.left c.right ws c.bends
 ke:KeepsOK c.top.length c.keeps
noncomputable def Chan.rows(c:Chan):List (List D):=[c.top.map dO,c.bottom.map dO,c.left.map .str,c.right.map .str,c.wide.map dWp,c.bends.map dBp,c.keeps.map dKp]
noncomputable def zbf:SpD:=fun ds Q=>∃(ns:List Int) (most:Nat),ds=[dI ns,.int most]∧ns.length≤1000∧1≤most∧most≤40∧∀ws c,Words ws→GoodCh ws most c→Q (.ov (.ll c.rows))
theorem zl3:Words ["next","keep","left","top","wide","bend","right","bottom"]:=⟨rfl,by decide +kernel,by decide +kernel,by decide +kernel⟩
theorem znh{c:Prop}[Decidable c]{A:Prop}{t:TX}{D:DE}{r1 r2:Ev}(r3:Ev)(ha:A)(e1:c→r1=r3)(e2:¬c→r2=r3)(h:zkn t D r3):if c then(A∧zkn t D r1) else zkn t D r2:=by
 split
 ·rename_i hc;rw[e1 hc];exact⟨ha,h⟩
 ·rename_i hc;rw[e2 hc];exact h
noncomputable def zcj:TX:=(zaH (zaR 2 (dOp (oI (fun _ j=>0<j) fun i j=>.int (i%j)) (dOp (oI CMul fun i j=>.int (i*j)) (dOp (oI (fun _ j=>0<j) fun i j=>.int (i%j)) (dCB zmn (zae (dSl (zag 0) oNo (zbu (dC (.int 1)))) zao)) (dOp (oI zkv fun i j=>.int (i ^ j.toNat)) (dC (.int 10)) (dC (.int 30)))) (dC (.int 40014))) (dC (.int 2147483563))))
 (zaH (zaR 3 (zav 1 za6 (zae (dCB zmn (zae (dSl (zag 0) oNo (zbu (dC (.int 1)))) zao)) zao)))
 (zaH (xIf (zbL (dOp oEq (dOp (oI (fun _ j=>0<j) fun i j=>.int (i%j)) (dOp (oI zcH fun i j=>.int (i/j)) (zag 2) (dC (.int 11))) (dC (.int 4))) (dC (.int 0)))) (zaR 3 (zcI (zae (dC (.str "next")) (zae (dC (.str "keep")) (zae (dC (.str "left")) (zae (dC (.str "top")) (zae (dC (.str "wide")) (zae (dC (.str "bend")) (zae (dC (.str "right")) (zae (dC (.str "bottom")) zao)))))))))) zeT)
 (zaH (zaR 4 (dOp zbs (dC (.int 1)) (dOp (oI (fun _ j=>0<j) fun i j=>.int (i%j)) (zag 2) (zag 1))))
 (zaH (zaR 5 (dSl (zag 0) (zbu (dC (.int 1))) oNo))
 (zaH (zoX (zav 4 zbP (zae (zag 3) (zae (zag 5) (zae (zag 2) (zae (zag 4) zao))))) (zf9 2 (za0 (zau 6) (za0 (zau 7) zeU))))
 (zaH (zaR 8 (zav 2 zay (zae (dCB zmn (zae (dSl (zag 0) (zbu (dC (.int 1))) (zbu (dC (.int 2)))) zao)) (zae (dOp zbs (dC (.int 400)) (dOp (oI (fun _ j=>0<j) fun i j=>.int (i%j)) (zag 2) (dC (.int 7)))) zao))))
 (zaH (zaR 9 (zav 2 zbw (zae (zag 3) (zae (zag 8) zao))))
 (zaH (zaR 10 (zav 2 zbw (zae (zag 3) (zae (dOp (oI zcH fun i j=>.int (i/j)) (zag 8) (dC (.int 512))) zao))))
 (zaH (zaR 11 (zaW (zcc (zag 3)) [none,some 6,some 7,some 9,some 10] (zau 0) (zbL (dOp oEq (zav 5 zbv (zae (zag 1) (zae (zag 2) (zae (zag 3) (zae (zag 4) (zae (zag 0) zao)))))) (dC (.int 1)))) (zag 0)))
 (zaH (zdF 6 (zaW (zcc (zag 6)) [none,some 11] (zau 0) zdb (dIf (zbL (dOp (zf8 false) (zag 0) (zag 1))) (dC .non) (zag 0))))
 (zaH (zdF 7 (zaW (zcc (zag 7)) [none,some 11] (zau 0) zdb (dIf (zbL (dOp (zf8 false) (zag 0) (zag 1))) (dC .non) (zag 0))))
 (zaH (zdF 9 (zaW (zcc (zag 9)) [none,some 11] (zau 0) (zbL (dOp (zf8 true) (zag 0) (zag 1))) (zag 0)))
 (zaH (zdF 10 (zaW (zcc (zag 10)) [none,some 11] (zau 0) (zbL (dOp (zf8 true) (zag 0) (zag 1))) (zag 0)))
 (zaH (zdF 12 (zcI zao))
 (zaH (zgD (zg0 (zae (dCB zdi (zae (zag 3) zao)) zao)) (zf9 2 (za0 (zau 13) (za0 (zau 14) zeU))) (zaH (zaR 15 (zav 2 zay (zae (dOp zbs (zag 2) (zag 13)) (zae (dC (.int 500)) zao))))
 (xIf (zmP (zbL (dOp oEq (dOp (oI (fun _ j=>0<j) fun i j=>.int (i%j)) (zag 15) (dC (.int 4))) (dC (.int 0)))) (zbL (dOp (oI0 fun i j=>.bl (decide (j<i))) (zg3 10 (zg3 9 (zg3 7 (zg3 6 (zav 5 zbv (zae (zag 6) (zae (zag 7) (zae (zag 9) (zae (zag 10) (zae (zag 14) zao)))))))))) (dC (.int 1))))) (zjm 12 (ziN (zae (zag 14) (zae (dOp zbs (dC (.int 2)) (dOp (oI (fun _ j=>0<j) fun i j=>.int (i%j)) (dOp (oI zcH fun i j=>.int (i/j)) (zag 15) (dC (.int 4))) (dC (.int 2)))) zao)))) zeT)))
 (zaH (zdF 16 (zdc 10 (zdc 9 (zdc 7 (zdc 6 (zav 4 zbD (zae (zcI (zae (zag 6) (zae (zag 7) (zae (zag 9) (zae (zag 10) zao))))) (zae (zag 3) (zae (zag 5) (zae (zag 2) zao))))))))))
 (zaH (zdF 17 (zcI zao))
 (zaH (xIf (zbL (dOp oEq (dOp (oI (fun _ j=>0<j) fun i j=>.int (i%j)) (dOp (oI zcH fun i j=>.int (i/j)) (zag 2) (dC (.int 97))) (dC (.int 3))) (dC (.int 0)))) (zdF 17 (zav 3 zbE (zae (zag 4) (zae (zag 5) (zae (zag 2) zao))))) zeT)
 (zjB [6,7,9,10,12,16,17]))))))))))))))))))))
theorem zei(ds:List D)(Qr:R→Prop)(hl:ds.length=2)(h:zbf ds Qr):zcj { nx:=fun _=>Qr (.fz .non),rt:=Qr } (zaF ["_law_script","_law_most","_law_seed","_law_words","_law_width","_law_cells","_law_top","_law_bottom","_law_bits","_law_left","_law_right","_law_lone","_law_wide","_law_k","_law_word","_law_one","_law_bends_here","_law_keeps_here"] ds):=by
 obtain⟨ns,most,rfl,hn,hm,hm2,q⟩:=h
 show zcj _ [.fz (dI ns),.fz (.int most),.un,.un,.un,.un,.un,.un,.un,.un,.un,.un,.un,.un,.un,.un,.un,.un]
 unfold zcj dI
 have big:=zaE
 walk_at "px"
 generalize hseed:((zdh ns none (some 1)).sum%1000000000000000000000000000000*40014)%2147483563=seed
 have s0:0≤seed:=by rw[←hseed];exact Int.emod_nonneg _ (by decide)
 clear hseed
 walk_at "go"
 refine⟨_,rfl,?_⟩
 rw[zhd _ (by decide)]
 have hw:=zic (hdS ns)
 change zkn _ _ [_,_,_,.fz (.lst ((zdQ (hdS ns)).map .str)),_,_,_,_,_,_,_,_,_,_,_,_,_,_]
 generalize zdQ (hdS ns)=ws at hw ⊢
 walk_at "go"
 refine znh [.fz (D.lst (List.map D.int ns)),.fz (D.int most),.fz (D.int seed),.fz (D.lst (List.map D.str (if seed/11%4=0 then ["next","keep","left","top","wide","bend","right","bottom"] else ws))),.un,.un,.un,.un,.un,.un,.un,.un,.un,.un,.un,.un,.un,.un] (by omega) (fun h=>by rw[if_pos h];rfl) (fun h=>by rw[if_neg h]) ?_
 have hw':∀(c:Prop) [Decidable c],Words (if c then ["next","keep","left","top","wide","bend","right","bottom"] else ws):=by
  intro c _
  split
  ·exact zl3
  ·exact hw
 replace hw:=hw' (seed/11%4=0)
 clear hw'
 generalize (if seed/11%4=0 then(["next","keep","left","top","wide","bend","right","bottom"]:List Str) else ws)=ws at hw ⊢
 walk_at "go"
 refine⟨by omega,?_⟩
 have m0:0≤seed%(most:Int):=Int.emod_nonneg _ (by omega)
 have m1:seed%(most:Int)<most:=Int.emod_lt_of_pos _ (by omega)
 obtain⟨W,hW⟩:∃W:Nat,1+seed%(most:Int)=W:=⟨(1+seed%(most:Int)).toNat,by omega⟩
 rw[hW]
 walk_at "go"
 rw[zcO _ (by decide)]
 walk_at "go"
 refine⟨ws,ns.drop 1,seed,W,rfl,hw.len,by omega,fun top bottom ht hb pt pb=>?_⟩
 walk_at "px"
 walk_at "go"
 refine⟨_,_,rfl,by have:=Int.emod_nonneg seed (show(7:Int)≠0 by decide);omega,by have:=Int.emod_lt_of_pos seed (show(0:Int)<7 by decide);omega,?_⟩
 generalize zkx _ _=bits
 walk_at "go"
 refine⟨ws,bits,rfl,hw.len,hw.nd,fun left lf1 lf2 lf3 lf4=>?_⟩
 walk_at "go"
 refine⟨ws,_,rfl,hw.len,hw.nd,fun right rt1 rt2 rt3 rt4=>?_⟩
 walk_at "go"
 refine zbb ws D.str D.str (fun w=>decide (cntN top bottom left right w=1)) (fun Q' h=>?_) (by have:=hw.len;omega) (fun w _ K1 K0 k1 k0=>?_) ?_
 ·walk_at "px"
  exact h
 ·walk_at "px"
  refine⟨top,bottom,left,right,w,rfl,by omega,?_⟩
  walk_at "px"
  by_cases hc:cntN top bottom left right w=1
  ·rw[if_pos (by omega)]
   exact k1 (by simpa using hc)
  ·rw[if_neg (by omega)]
   exact k0 (by simpa using hc)
 generalize hlone:ws.filter (fun w=>decide (cntN top bottom left right w=1))=lone
 have cnt':=zkr pt pb lf3 rt3 lone hlone.symm
 have hll:lone.length≤8:=by rw[←hlone];have:=List.length_filter_le (fun w=>decide (cntN top bottom left right w=1)) ws;have:=hw.len;omega
 have un:∀(l:List (Option Str)) (j:Nat) (ρ:Ev) (Q:R→Prop),l.length≤100→gt ρ j=.fz (dP l)→gt ρ 11=.fz (.lst (lone.map .str))→Q (.ow ((l.map (zbr lone)).map dO))→zaW (zcc (zag j)) [none,some 11] (zau 0) zdb (dIf (zbL (dOp (zf8 false) (zag 0) (zag 1))) (dC D.non) (zag 0)) ρ Q:=by
  intro l j ρ Q hl hj h11 hq
  refine zaK l dO (fun x=>dO (zbr lone x)) (fun Q' h=>?_) (by omega) (fun x hx K1 k=>?_) ?_
  ·simp only[zcc,zag,hj]
   exact h
  ·simp only[zfa,List.map_cons,List.map_nil,zml,h11]
   walk_at "px"
   have h2:okE 8 (dO x)∧(∀e∈lone.map D.str,okE 8 e):=⟨by rw[zjI];trivial,zcB 8 lone⟩
   have h3:if inD (dO x) (lone.map D.str)=true then K1 D.non else K1 (dO x):=by
    rw[zrb]
    cases x with
    | none=>simpa[zbr] using k
    | some v=>
     by_cases hv:v∈lone
     ·simpa[zbr,hv,dO] using k
     ·simpa[zbr,hv,dO] using k
   cases x with
   | none=>exact⟨h2.1,h2.2,h3⟩
   | some v=>exact⟨h2.1,h2.2,h3⟩
  ·rw[List.map_map] at hq
   exact hq
 have un2:∀(l:List Str) (j:Nat) (ρ:Ev) (Q:R→Prop),l.length≤100→gt ρ j=.fz (dS l)→gt ρ 11=.fz (.lst (lone.map .str))→Q (.ow ((l.filter fun x=>decide (x∉lone)).map D.str))→zaW (zcc (zag j)) [none,some 11] (zau 0) (zbL (dOp (zf8 true) (zag 0) (zag 1))) (zag 0) ρ Q:=by
  intro l j ρ Q hl hj h11 hq
  refine zbb l D.str D.str (fun x=>decide (x∉lone)) (fun Q' h=>?_) (by omega) (fun x hx K1 K0 k1 k0=>?_) hq
  ·simp only[zcc,zag,hj]
   exact h
  ·simp only[zfa,List.map_cons,List.map_nil,zml,h11]
   walk_at "px"
   refine⟨zcB 8 lone,?_⟩
   rw[znc]
   by_cases hv:x∈lone
   ·simpa[hv] using k0 (by simpa using hv)
   ·simpa[hv] using k1 (by simpa using hv)
 walk_at "go"
 refine un top 6 _ _ (by omega) rfl rfl ?_
 walk_at "go"
 refine un bottom 7 _ _ (by omega) rfl rfl ?_
 walk_at "go"
 refine un2 left 9 _ _ (by omega) rfl rfl ?_
 walk_at "go"
 refine un2 right 10 _ _ (by omega) rfl rfl ?_
 clear un un2
 have pt':Pool ws (top.map (zbr lone)):=zfD pt
 have pb':Pool ws (bottom.map (zbr lone)):=zfD pb
 have ht':(top.map (zbr lone)).length=W:=by simpa using ht
 have hb':(bottom.map (zbr lone)).length=W:=by simpa using hb
 have lo':(left.filter fun x=>decide (x∉lone)).Pairwise ltS:=(zfx lf4 lf2).sublist List.filter_sublist
 have ro':(right.filter fun x=>decide (x∉lone)).Pairwise ltS:=(zfx rt4 rt2).sublist List.filter_sublist
 have lw':∀w∈(left.filter fun x=>decide (x∉lone)),w∈ws:=fun w h=>lf3 w (List.mem_filter.mp h).1
 have rw':∀w∈(right.filter fun x=>decide (x∉lone)),w∈ws:=fun w h=>rt3 w (List.mem_filter.mp h).1
 have ll':(left.filter fun x=>decide (x∉lone)).length≤8:=Nat.le_trans (List.length_filter_le _ _) lf1
 have rl':(right.filter fun x=>decide (x∉lone)).length≤8:=Nat.le_trans (List.length_filter_le _ _) rt1
 generalize top.map (zbr lone)=top' at *
 generalize bottom.map (zbr lone)=bottom' at *
 generalize (left.filter fun x=>decide (x∉lone))=left' at *
 generalize (right.filter fun x=>decide (x∉lone))=right' at *
 walk_at "go"
 refine⟨by omega,?_⟩
 walk_at "go"
 refine zjJ (fun ds=>∃ss:List Str,ss.Perm ws∧sortedS ss=true∧ds=zeV (ss.map .str)) (fun Q' h=>?_) ?_
 ·walk_at "px"
  simp only[zdi,zcp]
  refine⟨by have:=hw.len;omega,fun ss hp hs=>?_⟩
  walk_at "px"
  exact h _ ⟨ss,hp,hs,rfl⟩
 rintro _ ⟨ss,hp,hs,rfl⟩
 have ssl:ss.length=8:=by rw[hp.length_eq];exact hw.len
 have sso:ss.Pairwise ltS:=zfx hs (hp.nodup_iff.mpr hw.nd)
 refine zkp ss D.str (fun i ρ=>∃(wide:List (Str×Int)) (a b c:Sl),ρ=[.fz (D.lst (List.map D.int ns)),.fz (D.int most),.fz (D.int seed),.fz (D.lst (List.map D.str ws)),.fz (D.int W),.fz (D.lst (List.map D.int (List.drop 1 ns))),.ow (top'.map dO),.ow (bottom'.map dO),.fz (D.int bits),.ow (left'.map D.str),.ow (right'.map D.str),.fz (D.lst (lone.map D.str)),.ow (wide.map dWp),a,b,c,.un,.un]∧List.Sublist (wide.map (·.1)) (ss.take i)∧(∀p∈wide,(p.2=2∨p.2=3)∧1<cntN top' bottom' left' right' p.1)) ⟨[],_,_,_,rfl,by simp,by simp⟩ ?_ ?_
 ·rintro i x ρ hx ⟨wide,a,b,c,rfl,sub,wo⟩
  have hi:i<8:=by have:=(List.getElem?_eq_some_iff.mp hx).1;omega
  have tk:ss.take (i+1)=ss.take i++[x]:=by rw[List.take_add_one,hx];rfl
  have hwl:wide.length≤8:=by have:=sub.length_le;simp at this;omega
  walk_at "px"
  refine⟨_,_,rfl,by omega,by omega,?_⟩
  generalize zkx _ _=one
  walk_at "go"
  have skip:∃(wide':List (Str×Int)) (a' b' c':Sl),[Sl.fz (D.lst (List.map D.int ns)),.fz (D.int most),.fz (D.int seed),.fz (D.lst (List.map D.str ws)),.fz (D.int W),.fz (D.lst (List.map D.int (List.drop 1 ns))),.ow (top'.map dO),.ow (bottom'.map dO),.fz (D.int bits),.ow (left'.map D.str),.ow (right'.map D.str),.fz (D.lst (lone.map D.str)),.ow (wide.map dWp),.fz (D.int i),.fz (D.str x),.fz (D.int one),.un,.un]=[Sl.fz (D.lst (List.map D.int ns)),.fz (D.int most),.fz (D.int seed),.fz (D.lst (List.map D.str ws)),.fz (D.int W),.fz (D.lst (List.map D.int (List.drop 1 ns))),.ow (top'.map dO),.ow (bottom'.map dO),.fz (D.int bits),.ow (left'.map D.str),.ow (right'.map D.str),.fz (D.lst (lone.map D.str)),.ow (wide'.map dWp),a',b',c',.un,.un]∧List.Sublist (wide'.map (·.1)) (ss.take (i+1))∧(∀p∈wide',(p.2=2∨p.2=3)∧1<cntN top' bottom' left' right' p.1):=
   ⟨wide,_,_,_,rfl,by rw[tk];exact sub.trans (List.sublist_append_left _ _),wo⟩
  split
  ·refine⟨top',bottom',left',right',x,rfl,by omega,?_⟩
   walk_at "px"
   split
   ·rename_i hc
    have e2:one/4%2=0∨one/4%2=1:=by omega
    refine⟨by omega,by simp;omega,wide++[(x,2+one/4%2)],_,_,_,by rw[List.map_append];rfl,?_,fun p hp=>?_⟩
    ·rw[tk,List.map_append]
     exact sub.append (List.Sublist.refl _)
    ·rcases List.mem_append.mp hp with h | h
     ·exact wo p h
     ·have:p=(x,2+one/4%2):=by simpa using h
      subst this
      exact⟨by dsimp only;omega,by dsimp only;omega⟩
   ·exact skip
  ·exact skip
 rintro ρ ⟨wide,a,b,c,rfl,sub,wo⟩
 rw[List.take_length] at sub
 have hwl:wide.length≤8:=by have:=sub.length_le;simp at this;omega
 have wo2:(wide.map (·.1)).Pairwise ltS:=sso.sublist sub
 have ww:∀p∈wide,p.1∈ws∧(p.2=2∨p.2=3)∧1<cntN top' bottom' left' right' p.1:=fun p h=>⟨hp.subset (sub.subset (List.mem_map_of_mem h)),wo p h⟩
 walk_at "go"
 refine⟨by omega,top',bottom',left',right',ws,ns.drop 1,seed,rfl,by omega,by omega,by omega,by omega,hw.len,pt',by simp;omega,fun bends bo=>?_⟩
 have fl:(List.map dBp bends).all zg8=true:=by simp[List.all_eq_true,dBp,zg8,zcN]
 walk_at "px"
 refine⟨fl,fl,fl,fl,?_⟩
 walk_at "go"
 refine⟨by omega,?_⟩
 have fin:∀keeps,KeepsOK W keeps→Qr (R.ov (.ll [top'.map dO,bottom'.map dO,left'.map .str,right'.map .str,wide.map dWp,bends.map dBp,keeps.map dKp])):=fun keeps ko=>q ws ⟨top',bottom',left',right',wide,bends,keeps⟩ hw ⟨by dsimp only;omega,by dsimp only;omega,by dsimp only;omega,pt',pb',ll',lw',lo',rl',rw',ro',cnt',hwl,wo2,ww,bo,by dsimp only;rw[ht'];exact ko⟩
 walk_at "go"
 split
 ·refine⟨W,ns.drop 1,seed,rfl,by omega,by omega,fun keeps ko=>?_⟩
  walk_at "go"
  exact fin keeps ko
 ·walk_at "go"
  exact fin [] ⟨by simp,by simp⟩
end Wc
namespace Wc
open PySem L2 PyProof.Rows
noncomputable def zhi(c:Nat):List Nat→List (List Nat)
 | []=>[[]]
 | x::r=>if x=c then []::zhi c r else match zhi c r with
  | []=>[[x]]
  | h::t=>(x::h)::t
theorem zoR(c:Nat):∀l,zhi c l≠[]
 | []=>by simp[zhi]
 | x::r=>by
  unfold zhi
  split
  ·simp
  ·split<;>simp
theorem zff(c:Nat)(b:List Nat):∀a:List Nat,zhi c (a++c::b)=zhi c a++zhi c b
 | []=>by simp[zhi]
 | x::r=>by
  rw[List.cons_append,zhi,zff c b r]
  conv=>rhs;rw[zhi]
  by_cases h:x=c
  ·simp[h]
  ·simp only[h,if_false]
   cases e:zhi c r with
   | nil=>exact absurd e (zoR c r)
   | cons u v=>simp
theorem zcq(c:Nat):∀a:List Nat,c∉a→zhi c a=[a]
 | [],_=>rfl
 | x::r,h=>by
  simp only[List.mem_cons,not_or] at h
  rw[zhi,if_neg (fun z=>h.1 z.symm),zcq c r h.2]
noncomputable def zej(c:Nat):List (List Nat)→List Nat
 | []=>[]
 | [a]=>a
 | a::b::r=>a++c::zej c (b::r)
theorem zid(c:Nat):∀l:List (List Nat),l≠[]→(∀a∈l,c∉a)→zhi c (zej c l)=l
 | [],h,_=>absurd rfl h
 | [a],_,h=>zcq c a (h a (by simp))
 | a::b::r,_,h=>by
  rw[zej,zff,zcq c a (h a (by simp)),zid c (b::r) (by simp) fun z hz=>h z (by simp[hz])]
  rfl
theorem zie(z:Array Nat):∀(l:List Str) (a:Array Nat),(l.foldl (fun acc p=>acc++z++p.cps) a).toList=a.toList++(l.map fun p=>z.toList++p.cps.toList).flatten
 | [],a=>by simp
 | x::l,a=>by
  rw[List.foldl_cons,zie z l]
  simp
theorem zhj(x:Str)(a:Str)(l:List Str):(Txt.join x (a::l)).cps.toList=a.cps.toList++(l.map fun p=>x.cps.toList++p.cps.toList).flatten:=by
 unfold Txt.join Builtin.Str.glued
 exact zie _ l a.cps
theorem zfE(c:Nat):∀(l:List Str),(Txt.join ⟨#[c]⟩ l).cps.toList=zej c (l.map fun s=>s.cps.toList)
 | []=>rfl
 | [a]=>by rw[zhj];simp[zej]
 | a::b::r=>by
  have ih:=zfE c (b::r)
  rw[zhj] at ih ⊢
  simp only[List.map_cons,zej]
  simp only[List.map_cons] at ih
  rw[←ih]
  simp
theorem zif(x:Str)(c:Nat):(Txt.split x ⟨#[c]⟩).map (fun s=>s.cps.toList)=zhi c x.cps.toList:=by
 have h1:Txt.join ⟨#[c]⟩ (Txt.split x ⟨#[c]⟩)=x:=(StrLaws.glued_eq_join _ _).trans (StrLaws.join_split x ⟨#[c]⟩)
 have h2:=StrLaws.split_free x c
 have h3:Txt.split x ⟨#[c]⟩≠[]:=fun z=>by
  have:=PyProof.Rows.split_pos x ⟨#[c]⟩
  rw[z] at this
  simp at this
 have e:x.cps.toList=zej c ((Txt.split x ⟨#[c]⟩).map fun s=>s.cps.toList):=by
  rw[←zfE]
  exact congrArg (fun s:Str=>s.cps.toList) h1.symm
 rw[e,zid]
 ·simpa using h3
 ·intro a ha
  obtain⟨s,hs,rfl⟩:=List.mem_map.mp ha
  exact h2 s hs
noncomputable def wordsC(l:List Nat):List (List Nat):=(zhi 32 l).filter fun w=>!w.isEmpty
noncomputable def zbg(t:List Nat):List (List (List Nat)):=((zhi 10 t).map wordsC).filter fun w=>!w.isEmpty
theorem zc6(a b:List Nat):wordsC (a++32::b)=wordsC a++wordsC b:=by unfold wordsC;rw[zff,List.filter_append]
theorem zbK(a b:List Nat):zbg (a++10::b)=zbg a++zbg b:=by unfold zbg;rw[zff,List.map_append,List.filter_append]
theorem zgN:wordsC []=[]:=rfl
theorem zcr:zbg []=[]:=rfl
theorem zc7{w:List Nat}(h:32∉w)(hn:w≠[]):wordsC w=[w]:=by
 unfold wordsC
 rw[zcq 32 w h]
 cases w with
 | nil=>exact absurd rfl hn
 | cons a r=>rfl
theorem zcs(b:List Nat):∀n:Nat,wordsC (List.replicate n 32++b)=wordsC b
 | 0=>rfl
 | n+1=>by
  have:=zc6 [] (List.replicate n 32++b)
  rw[List.replicate_succ,List.cons_append]
  rw[List.nil_append] at this
  rw[this,zgN,List.nil_append,zcs b n]
theorem zfF(a:List Nat):∀n:Nat,wordsC (a++List.replicate n 32)=wordsC a
 | 0=>by simp
 | n+1=>by
  rw[List.replicate_succ,zc6]
  have:=zcs [] n
  rw[List.append_nil] at this
  rw[this,zgN,List.append_nil]
theorem zfG{l:List Nat}(h:10∉l)(hn:wordsC l≠[]):zbg l=[wordsC l]:=by
 unfold zbg
 rw[zcq 10 l h]
 cases e:wordsC l with
 | nil=>exact absurd e hn
 | cons a r=>simp[e]
theorem zig{l:List Nat}(h:10∉l)(hn:wordsC l=[]):zbg l=[]:=by
 unfold zbg
 rw[zcq 10 l h]
 simp[hn]
noncomputable def Wd(w:List Nat):Prop:=w≠[]∧32∉w∧10∉w
theorem zek:∀l:List (List Nat),(∀w∈l,Wd w)→wordsC (zej 32 l)=l
 | [],_=>rfl
 | [a],h=>zc7 (h a (by simp)).2.1 (h a (by simp)).1
 | a::b::r,h=>by
  rw[zej,zc6,zc7 (h a (by simp)).2.1 (h a (by simp)).1,zek (b::r) fun w hw=>h w (by simp[hw])]
  rfl
theorem zih:∀l:List (List Nat),(∀w∈l,Wd w)→10∉zej 32 l
 | [],_=>by simp[zej]
 | [a],h=>(h a (by simp)).2.2
 | a::b::r,h=>by
  rw[zej]
  simp only[List.mem_append,List.mem_cons,not_or]
  exact⟨(h a (by simp)).2.2,by decide,zih (b::r) fun w hw=>h w (by simp[hw])⟩
noncomputable def cp(s:Str):List Nat:=s.cps.toList
noncomputable def WdS(w:Str):Prop:=Wd (cp w)
theorem zdR(x y:Str):cp (x++y)=cp x++cp y:=by
 show(x.cps++y.cps).toList=_
 simp[cp]
theorem zii(x:Str):(cp x).length=x.length:=by simp[cp,Str.length]
theorem zfg:(Str.ofString " ")=⟨#[32]⟩:=by decide +kernel
theorem zl4:(Str.ofString "\n")=⟨#[10]⟩:=by decide +kernel
theorem zgO:cp (Str.ofString "\n")=[10]:=by decide +kernel
noncomputable def zdd(l:Str):List Str:=(Txt.split l " ").filter fun w=>decide (w≠"")
noncomputable def zeR(t:Str):List (List Str):=((Txt.split t "\n").map zdd).filter fun ws=>decide (ws≠[])
theorem znQ{a b:Str}(h:cp a=cp b):a=b:=zlW h
theorem zp6{w:Str}:(cp w).isEmpty=decide (w=""):=by
 by_cases h:w=""
 ·subst h;decide +kernel
 ·have:cp w≠[]:=fun z=>h (znQ (by rw[z];decide +kernel))
  simp[h,this]
theorem zl5(l:Str):(zdd l).map cp=wordsC (cp l):=by
 unfold zdd wordsC
 rw[zfg]
 have:=zif l 32
 unfold cp
 rw[←this,List.filter_map]
 congr 1
 refine List.filter_congr fun w _=>?_
 have:=zp6 (w:=w)
 unfold cp at this
 simp[this]
theorem zl6(t:Str):(zeR t).map (fun ws=>ws.map cp)=zbg (cp t):=by
 unfold zeR zbg
 rw[zl4]
 have h:=zif t 10
 have e:(zhi 10 (cp t)).map wordsC=((Txt.split t ⟨#[10]⟩).map zdd).map fun ws=>ws.map cp:=by
  unfold cp
  rw[←h,List.map_map,List.map_map]
  refine List.map_congr_left fun s _=>?_
  exact(zl5 s).symm
 rw[e]
 generalize (Txt.split t ⟨#[10]⟩).map zdd=L
 rw[List.filter_map]
 congr 1
 refine List.filter_congr fun w _=>?_
 cases w with
 | nil=>rfl
 | cons a r=>simp
theorem zgP:∀{a b:List Str},a.map cp=b.map cp→a=b
 | [],[],_=>rfl
 | x::a,y::b,h=>by
  simp only[List.map_cons,List.cons.injEq] at h
  rw[znQ h.1,zgP h.2]
 | [],_::_,h=>by simp at h
 | _::_,[],h=>by simp at h
theorem zfH:∀{a b:List (List Str)},a.map (fun ws=>ws.map cp)=b.map (fun ws=>ws.map cp)→a=b
 | [],[],_=>rfl
 | x::a,y::b,h=>by
  simp only[List.map_cons,List.cons.injEq] at h
  rw[zgP h.1,zfH h.2]
 | [],_::_,h=>by simp at h
 | _::_,[],h=>by simp at h
end Wc
namespace Wc
open PySem L2 PyProof.Rows
noncomputable def pinS:Option Str→Str
 | none=>"."
 | some w=>w
noncomputable def zaQ(c:Chan):List (List Str):=("top"::c.top.map pinS)::("bottom"::c.bottom.map pinS)::("left"::c.left)::("right"::c.right)::(c.wide.map (fun p=>(["wide",p.1,zby p.2]:List Str))++c.bends.map (fun p=>(["bend",zby p.1,p.2]:List Str))++c.keeps.map (fun p=>(["keep",zby p.1,zby p.2.1,zby p.2.2]:List Str)))
noncomputable def zi0(ls:List (List Str)):Str:=Txt.join "" (ls.map fun ws=>Txt.join " " ws++"\n")
noncomputable def In100(i:Int):Prop:=0≤i∧i<100
structure AnyCh (c:Chan):Prop where
 tl:c.top.length≤40
 bl:c.bottom.length≤40
 ll:c.left.length≤8
 rl:c.right.length≤8
 wl:c.wide.length≤8
 el:c.bends.length≤51
 kl:c.keeps.length≤14
 ts:∀x∈c.top,(pinS x).length≤6
 bs:∀x∈c.bottom,(pinS x).length≤6
 ls:∀w∈c.left,w.length≤6
 rs:∀w∈c.right,w.length≤6
 ws:∀p∈c.wide,p.1.length≤6∧In100 p.2
 es:∀p∈c.bends,In100 p.1∧p.2.length≤6
 ks:∀p∈c.keeps,In100 p.1∧In100 p.2.1∧In100 p.2.2
theorem zdS{i:Int}(h:In100 i):(zby i).length≤6:=by
 have:∀k:Fin 100,(zby (k.val:Int)).length≤6:=by decide +kernel
 obtain⟨h0,h1⟩:=h
 have e:=this ⟨i.toNat,by omega⟩
 simpa[Int.toNat_of_nonneg h0] using e
theorem zbh(x y:Str):(x++y).length=x.length+y.length:=by
 show(x.cps++y.cps).size=_
 rw[Array.size_append];rfl
theorem zij(z:Array Nat):∀(l:List Str) (a:Array Nat),(l.foldl (fun acc p=>acc++z++p.cps) a).size=a.size+(l.map (·.length)).sum+l.length*z.size
 | [],a=>by simp
 | x::l,a=>by
  rw[List.foldl_cons,zij z l]
  simp only[Array.size_append,List.map_cons,List.sum_cons,List.length_cons,Nat.succ_mul,Str.length]
  omega
theorem zjL(x:Str)(l:List Str):(Txt.join x l).length≤(l.map (·.length)).sum+l.length*x.length:=by
 unfold Txt.join Builtin.Str.glued
 cases l with
 | nil=>simp[Str.length,Str.empty]
 | cons a l=>
  show(List.foldl _ a.cps l).size≤_
  rw[zij]
  simp only[List.map_cons,List.sum_cons,List.length_cons,Nat.succ_mul,Str.length]
  omega
theorem zi1{l:List Str}{B:Nat}(h:∀w∈l,w.length≤B):(l.map (·.length)).sum≤l.length*B:=by
 induction l with
 | nil=>simp
 | cons a r ih=>
  rw[List.map_cons,List.sum_cons,List.length_cons,Nat.succ_mul]
  have:=ih fun w hw=>h w (List.mem_cons_of_mem _ hw)
  have:=h a List.mem_cons_self
  omega
noncomputable def zfI(l:List Str):Prop:=l.length≤50∧∀w∈l,w.length≤6
theorem zjM{l:List Str}(h:zfI l):(l.map (·.length)).sum+l.length*(Str.ofString " ").length≤350:=by
 have h1:=zi1 h.2
 have h2:=h.1
 have e:(Str.ofString " ").length=1:=by decide +kernel
 rw[e]
 omega
theorem zhk{l:List Str}(h:zfI l):(Txt.join " " l++"\n").length≤351:=by
 rw[zbh]
 have h1:=zjL " " l
 have h2:=zjM h
 have e:(Str.ofString "\n").length=1:=by decide +kernel
 rw[e]
 omega
theorem zhl{c:Chan}(h:AnyCh c):(zaQ c).length≤100∧∀l∈zaQ c,zfI l:=by
 have s3:(Str.ofString "top").length≤6:=by decide +kernel
 have s6:(Str.ofString "bottom").length≤6:=by decide +kernel
 have s4:(Str.ofString "left").length≤6:=by decide +kernel
 have s5:(Str.ofString "right").length≤6:=by decide +kernel
 have sw:(Str.ofString "wide").length≤6:=by decide +kernel
 have sb:(Str.ofString "bend").length≤6:=by decide +kernel
 have sk:(Str.ofString "keep").length≤6:=by decide +kernel
 constructor
 ·have:=h.wl;have:=h.el;have:=h.kl
  simp only[zaQ,List.length_cons,List.length_append,List.length_map]
  omega
 ·intro l hl
  simp only[zaQ,List.mem_cons,List.mem_append,List.mem_map] at hl
  rcases hl with rfl | rfl | rfl | rfl | (⟨p,hp,rfl⟩ | ⟨p,hp,rfl⟩) | ⟨p,hp,rfl⟩
  ·refine⟨by have:=h.tl;simp;omega,fun w hw=>?_⟩
   rcases List.mem_cons.mp hw with rfl | hw
   ·exact s3
   ·obtain⟨x,hx,rfl⟩:=List.mem_map.mp hw
    exact h.ts x hx
  ·refine⟨by have:=h.bl;simp;omega,fun w hw=>?_⟩
   rcases List.mem_cons.mp hw with rfl | hw
   ·exact s6
   ·obtain⟨x,hx,rfl⟩:=List.mem_map.mp hw
    exact h.bs x hx
  ·refine⟨by have:=h.ll;simp;omega,fun w hw=>?_⟩
   rcases List.mem_cons.mp hw with rfl | hw
   ·exact s4
   ·exact h.ls w hw
  ·refine⟨by have:=h.rl;simp;omega,fun w hw=>?_⟩
   rcases List.mem_cons.mp hw with rfl | hw
   ·exact s5
   ·exact h.rs w hw
  ·have:=h.ws p hp
   refine⟨by simp,fun w hw=>?_⟩
   simp only[List.mem_cons,List.not_mem_nil,or_false] at hw
   rcases hw with rfl | rfl | rfl
   ·exact sw
   ·exact this.1
   ·exact zdS this.2
  ·have:=h.es p hp
   refine⟨by simp,fun w hw=>?_⟩
   simp only[List.mem_cons,List.not_mem_nil,or_false] at hw
   rcases hw with rfl | rfl | rfl
   ·exact sb
   ·exact zdS this.1
   ·exact this.2
  ·have:=h.ks p hp
   refine⟨by simp,fun w hw=>?_⟩
   simp only[List.mem_cons,List.not_mem_nil,or_false] at hw
   rcases hw with rfl | rfl | rfl | rfl
   ·exact sk
   ·exact zdS this.1
   ·exact zdS this.2.1
   ·exact zdS this.2.2
theorem zni{ls:List (List Str)}(h1:ls.length≤100)(h:∀l∈ls,zfI l):((ls.map fun ws=>Txt.join " " ws++"\n").map (·.length)).sum+(ls.map fun ws=>Txt.join " " ws++"\n").length*(Str.ofString "").length≤16777216:=by
 have e:(Str.ofString "").length=0:=by decide +kernel
 rw[e]
 have:=zi1 (l:=ls.map fun ws=>Txt.join " " ws++"\n") (B:=351) fun w hw=>by
  obtain⟨l,hl,rfl⟩:=List.mem_map.mp hw
  exact zhk (h l hl)
 rw[List.length_map] at this ⊢
 omega
end Wc
namespace Wc
open PySem L2 PyProof.Rows
theorem zl7{ls:List (List Str)}(h1:ls.length≤100)(h:∀l∈ls,zfI l){j:Nat}{ρ:Ev}{Q:R→Prop}(hj:gt ρ j=.fz (.lst (ls.map dS)))(q:Q (.fz (.str (zi0 ls)))) :
  dM "str" zhY (dC (.str "")) (zae (zaW (zcc (zag j)) [none] (zau 0) zdb (dOp zbs (dM "str" zhY (dC (.str " ")) (zae (zag 0) zao)) (dC (.str "\n")))) zao) ρ Q:=by
 have big:=zaE
 simp only[dM,dC,zhW,zae]
 refine⟨rfl,?_⟩
 refine zaK ls dS (fun ws=>.str (Txt.join " " ws++"\n")) (fun Q' h=>?_) (by omega) (fun ws hw K1 k=>?_) ?_
 ·simp only[zcc,zag,hj,zhW,zhR]
  exact h
 ·unfold dS
  walk_at "px"
  have h3:=zjM (h ws hw)
  have h4:=zhk (h ws hw)
  rw[zbh] at h4
  exact⟨rfl,by omega,by omega,k⟩
 ·simp only[zao,zgG,zhY]
  rw[show(ls.map fun ws=>D.str (Txt.join " " ws++"\n"))=(ls.map fun ws=>Txt.join " " ws++"\n").map D.str by rw[List.map_map];rfl,zcp]
  exact⟨zni h1 h,q⟩
noncomputable def hd4(c:Chan):List (List Str):=["top"::c.top.map pinS,"bottom"::c.bottom.map pinS,"left"::c.left,"right"::c.right]
noncomputable def zbQ:SpD:=fun ds Q=>∃ls:List (List Str),ds=[.lst (ls.map dS)]∧ls.length≤100∧(∀l∈ls,zfI l)∧Q (.fz (.str (zi0 ls)))
noncomputable def zi2:TX:=(zcK (dM "str" zhY (dC (.str "")) (zae (zaW (zcc (zag 0)) [none] (zau 0) zdb (dOp zbs (dM "str" zhY (dC (.str " ")) (zae (zag 0) zao)) (dC (.str "\n")))) zao)))
theorem zgf(ds:List D)(Qr:R→Prop)(hl:ds.length=1)(h:zbQ ds Qr):zi2 { nx:=fun _=>Qr (.fz .non),rt:=Qr } (zaF ["_law_lines_here"] ds):=by
 obtain⟨ls,rfl,h1,h2,q⟩:=h
 exact zl7 h1 h2 rfl q
noncomputable def zbF:SpD:=fun ds Q=>∃c:Chan,ds=[.lst c.parts]∧AnyCh c∧Q (.ow ((zaQ c).map dS))
noncomputable def zcU:TX:=(zaH (zdF 1 (zoF (zcI (zae (dC (.str "top")) zao)) (zcI (zae (dC (.str "bottom")) zao))))
 (zaH (zgD (zeW (zae (dC (.int 2)) zao)) (zau 2) (zgD (zcc (dOp oIx (zag 0) (zag 2))) (zau 3) (zkg 1 (zag 2) (dIf (zbL (dOp (zk5 false) (zag 3) (dC .non))) (dC (.str ".")) (zag 3)))))
 (zaH (zlL 1 (dOp zbs (zcI (zae (dC (.str "left")) zao)) (dOp oIx (zag 0) (dC (.int 2)))))
 (zaH (zlL 1 (dOp zbs (zcI (zae (dC (.str "right")) zao)) (dOp oIx (zag 0) (dC (.int 3)))))
 (zkb 1 (zaH (zdF 1 (dOp zbs (zag 1) (zaW (zcc (dOp oIx (zag 0) (dC (.int 4)))) [none,none] (zf9 2 (za0 (zau 0) (za0 (zau 1) zeU))) zdb (zcI (zae (dC (.str "wide")) (zae (zag 0) (zae (dCB zh3 (zae (zag 1) zao)) zao)))))))
 (zkb 1 (zaH (zdF 1 (dOp zbs (zag 1) (zaW (zcc (dOp oIx (zag 0) (dC (.int 5)))) [none,none] (zf9 2 (za0 (zau 0) (za0 (zau 1) zeU))) zdb (zcI (zae (dC (.str "bend")) (zae (dCB zh3 (zae (zag 0) zao)) (zae (zag 1) zao)))))))
 (zkb 1 (zcK (dOp zbs (zag 1) (zaW (zcc (dOp oIx (zag 0) (dC (.int 6)))) [none,none,none] (zf9 3 (za0 (zau 0) (za0 (zau 1) (za0 (zau 2) zeU)))) zdb (zcI (zae (dC (.str "keep")) (zae (dCB zh3 (zae (zag 0) zao)) (zae (dCB zh3 (zae (zag 1) zao)) (zae (dCB zh3 (zae (zag 2) zao)) zao)))))))))))))))))
theorem zfJ(ds:List D)(Qr:R→Prop)(hl:ds.length=1)(h:zbF ds Qr):zcU { nx:=fun _=>Qr (.fz .non),rt:=Qr } (zaF ["_law_lists","_law_lines_here","_law_side","_law_word"] ds):=by
 obtain⟨c,rfl,hc,q⟩:=h
 show zcU _ [.fz (.lst c.parts),.un,.un,.un]
 unfold zcU Chan.parts
 have big:=zaE
 have l1:=hc.tl
 have l2:=hc.bl
 have l3:=hc.ll
 have l4:=hc.rl
 have l5:=hc.wl
 have l6:=hc.el
 have l7:=hc.kl
 walk_at "px"
 refine⟨by omega,by omega,?_⟩
 walk_at "go"
 refine zcn 2 (fun Q' h=>?_) (fun i ρ=>∃a b:Sl,ρ=[.fz (D.lst [dP c.top,dP c.bottom,dS c.left,dS c.right,dW c.wide,dB c.bends,dK c.keeps]),.ov (.ll [D.str "top"::(if 1≤i then c.top else []).map (fun x=>D.str (pinS x)),D.str "bottom"::(if 2≤i then c.bottom else []).map (fun x=>D.str (pinS x))]),a,b]) ⟨_,_,rfl⟩ ?_ ?_
 ·walk_at "px"
  exact h
 ·rintro i ρ hi ⟨a,b,rfl⟩
  obtain rfl | rfl:i=0∨i=1:=by omega
  ·walk_at "px"
   refine zdJ c.top dO (fun Q' h=>?_) (fun i ρ=>∃b:Sl,ρ=[.fz (D.lst [dP c.top,dP c.bottom,dS c.left,dS c.right,dW c.wide,dB c.bends,dK c.keeps]),.ov (.ll [D.str "top"::(c.top.take i).map (fun x=>D.str (pinS x)),[D.str "bottom"]]),.fz (.int 0),b]) ⟨_,rfl⟩ ?_ ?_
   ·walk_at "px"
    exact⟨_,rfl,h⟩
   ·rintro i x ρ hx ⟨b,rfl⟩
    have hlt:=(List.getElem?_eq_some_iff.mp hx).1
    have tk:c.top.take (i+1)=c.top.take i++[x]:=by rw[List.take_add_one,hx];rfl
    walk_at "px"
    refine⟨0,_,rfl,rfl,?_⟩
    cases x with
    | none=>
     simp only[dO,zdE,if_true]
     refine⟨by simp;omega,_,by rw[tk,List.map_append];rfl⟩
    | some w=>
     simp only[dO,zdE,Bool.false_eq_true,if_false]
     refine⟨by simp;omega,_,by rw[tk,List.map_append];rfl⟩
   ·rintro ρ ⟨b,rfl⟩
    rw[List.take_length]
    exact⟨_,_,rfl⟩
  ·walk_at "px"
   refine zdJ c.bottom dO (fun Q' h=>?_) (fun i ρ=>∃b:Sl,ρ=[.fz (D.lst [dP c.top,dP c.bottom,dS c.left,dS c.right,dW c.wide,dB c.bends,dK c.keeps]),.ov (.ll [D.str "top"::c.top.map (fun x=>D.str (pinS x)),D.str "bottom"::(c.bottom.take i).map (fun x=>D.str (pinS x))]),.fz (.int 1),b]) ⟨_,rfl⟩ ?_ ?_
   ·walk_at "px"
    exact⟨_,rfl,h⟩
   ·rintro i x ρ hx ⟨b,rfl⟩
    have hlt:=(List.getElem?_eq_some_iff.mp hx).1
    have tk:c.bottom.take (i+1)=c.bottom.take i++[x]:=by rw[List.take_add_one,hx];rfl
    walk_at "px"
    refine⟨1,_,rfl,rfl,?_⟩
    cases x with
    | none=>
     simp only[dO,zdE,if_true]
     refine⟨by simp;omega,_,by rw[tk,List.map_append];rfl⟩
    | some w=>
     simp only[dO,zdE,Bool.false_eq_true,if_false]
     refine⟨by simp;omega,_,by rw[tk,List.map_append];rfl⟩
   ·rintro ρ ⟨b,rfl⟩
    rw[List.take_length]
    exact⟨_,_,rfl⟩
 rintro ρ ⟨a,b,rfl⟩
 simp only[Nat.reduceLeDiff,if_true,Nat.le_refl]
 walk_at "go"
 refine⟨by omega,_,rfl,?_⟩
 unfold dS
 dsimp only
 refine⟨by simp;omega,by omega,?_⟩
 walk_at "go"
 refine⟨by omega,_,rfl,?_⟩
 dsimp only
 refine⟨by simp;omega,by omega,?_⟩
 have h4:OV.val (.ll [D.str (Str.ofString "top")::List.map (fun x=>D.str (pinS x)) c.top,D.str (Str.ofString "bottom")::List.map (fun x=>D.str (pinS x)) c.bottom,[D.str (Str.ofString "left")]++List.map D.str c.left,[D.str (Str.ofString "right")]++List.map D.str c.right])=.lst ((hd4 c).map dS):=by
  simp[hd4,dS,OV.val]
 have hl4:(hd4 c).length=4:=rfl
 simp only[zkn,zkb,frz,gt]
 simp only[h4,List.set]
 walk_at "px"
 refine zaK c.wide dWp (fun p=>dS ["wide",p.1,zby p.2]) (fun Q' h=>?_) (by omega) (fun p hp K1 k=>?_) ?_
 ·walk_at "px"
  exact⟨_,rfl,h⟩
 ·obtain⟨_,h0,h1⟩:=hc.ws p hp
  unfold dWp
  walk_at "px"
  exact⟨by omega,by omega,k⟩
 walk_at "px"
 refine⟨by simp;omega,?_⟩
 simp only[zkn,zkb,frz,gt,List.set]
 walk_at "px"
 refine zaK c.bends dBp (fun p=>dS ["bend",zby p.1,p.2]) (fun Q' h=>?_) (by omega) (fun p hp K1 k=>?_) ?_
 ·walk_at "px"
  exact⟨_,rfl,h⟩
 ·obtain⟨⟨h0,h1⟩,_⟩:=hc.es p hp
  unfold dBp
  walk_at "px"
  exact⟨by omega,by omega,k⟩
 walk_at "px"
 refine⟨by simp;omega,?_⟩
 simp only[zkn,zkb,frz,gt,List.set]
 walk_at "px"
 refine zaK c.keeps dKp (fun p=>dS ["keep",zby p.1,zby p.2.1,zby p.2.2]) (fun Q' h=>?_) (by omega) (fun p hp K1 k=>?_) ?_
 ·walk_at "px"
  exact⟨_,rfl,h⟩
 ·obtain⟨⟨h0,h1⟩,⟨h2,h3⟩,⟨h5,h6⟩⟩:=hc.ks p hp
  unfold dKp
  walk_at "px"
  exact⟨by omega,by omega,by omega,by omega,k⟩
 walk_at "px"
 refine⟨by simp;omega,?_⟩
 simpa[zaQ,dS,Function.comp_def] using q
end Wc
namespace Wc
open PySem L2 PyProof.Rows
local macro_rules | `(tactic| walk_at "px")=>`(tactic| (repeat(first | walk_at "b" | simp only[zkg,zed,zdc,zh1,zm3,zcN,zfc,zkf,zp1,OV.val])))
noncomputable def IsNm(w:Str):Prop:=(1≤w.length∧w.length≤6)∧∀x∈w.cps.toList,97≤x∧x≤122
structure AnyC2 (ps:List Str) (c:Chan):Prop where
 any:AnyCh c
 t1:1≤c.top.length
 tb:c.bottom.length=c.top.length
 lo:c.left.Pairwise ltS
 ro:c.right.Pairwise ltS
 wo:(c.wide.map (·.1)).Pairwise ltS
 w23:∀p∈c.wide,p.2=2∨p.2=3
 eo:(c.bends.map (·.1)).Pairwise (·<·)
 k8:c.keeps.length≤8
 pl:ps.length≤24
 pn:∀w∈ps,IsNm w
 pt:Pool ps c.top
 pb:Pool ps c.bottom
 pL:∀w∈c.left,w∈ps
 pR:∀w∈c.right,w∈ps
 pW:∀p∈c.wide,p.1∈ps
 pE:∀p∈c.bends,p.2∈ps
noncomputable def zb2:SpD:=fun ds Q=>∃ns:List Int,ds=[dI ns]∧ns.length≤1000∧∀ps c,AnyC2 ps c→Q (.ov (.ll c.rows))
theorem zrc(x:Int)(l:List Int):inD (.int x) (l.map .int)=decide (x∈l):=by
 unfold inD
 rw[List.any_map]
 induction l with
 | nil=>rfl
 | cons a r ih=>
  rw[List.any_cons,ih,Function.comp_apply,ziZ]
  by_cases h:a=x
  ·subst h;simp
  ·simp[h,Ne.symm h]
theorem zp7(l:List (Int×Int×Int)):(l.map dKp).all zg8=true:=by simp[List.all_eq_true,dKp,zg8,zcN]
theorem zp8(l:List (Int×Str)):(l.map dBp).all zg8=true:=by simp[List.all_eq_true,dBp,zg8,zcN]
noncomputable def zel:TX:=(zaH (zdF 1 (zav 2 zbf (zae (zag 0) (zae (dC (.int 40)) zao))))
 (zaH (zaR 2 (dOp (oI (fun _ j=>0<j) fun i j=>.int (i%j)) (dOp (oI CMul fun i j=>.int (i*j)) (dOp zbs (dOp (oI (fun _ j=>0<j) fun i j=>.int (i%j)) (dCB zmn (zae (dSl (zag 0) oNo (zbu (dC (.int 1)))) zao)) (dOp (oI zkv fun i j=>.int (i ^ j.toNat)) (dC (.int 10)) (dC (.int 30)))) (dC (.int 17))) (dC (.int 40692))) (dC (.int 2147483399))))
 (zaH (zdF 3 (zcI zao))
 (zaH (zgD (zg0 (zae (dSl (zag 0) (zbu (dC (.int 1))) (zbu (dC (.int 9)))) zao)) (zf9 2 (za0 (zau 4) (za0 (zau 5) zeU))) (zaH (zaR 6 (zav 2 zay (zae (dOp zbs (zag 5) (zag 2)) (zae (dOp zbs (zag 4) (dC (.int 700))) zao))))
 (zjm 3 (ziN (zae (dOp (oI (fun _ j=>0<j) fun i j=>.int (i%j)) (zag 6) (dC (.int 100))) (zae (dOp (oI (fun _ j=>0<j) fun i j=>.int (i%j)) (dOp (oI zcH fun i j=>.int (i/j)) (zag 6) (dC (.int 128))) (dC (.int 100))) (zae (dOp (oI (fun _ j=>0<j) fun i j=>.int (i%j)) (dOp (oI zcH fun i j=>.int (i/j)) (zag 6) (dC (.int 16384))) (dC (.int 100))) zao)))))))
 (zkb 3 (zaH (zed 1 (dC (.int 6)) (zdc 1 (dSl (dOp zbs (dOp oIx (zag 1) (dC (.int 6))) (zag 3)) oNo (zbu (dOp (oI (fun _ j=>0<j) fun i j=>.int (i%j)) (zag 2) (dC (.int 9)))))))
 (zaH (zdF 7 (zh1 1 (zaW (zcc (dOp oIx (zag 1) (dC (.int 5)))) [none,none] (zf9 2 (za0 (zau 0) (za0 (zau 1) zeU))) zdb (zag 0))))
 (zaH (zaR 8 (zav 1 za6 (zae (dCB zmn (zae (dSl (zag 0) oNo (zbu (dC (.int 1)))) zao)) zao)))
 (zaH (zgD (zg0 (zae (dSl (zag 0) (zbu (dC (.int 9))) (zbu (dC (.int 20)))) zao)) (zf9 2 (za0 (zau 4) (za0 (zau 5) zeU))) (zaH (zaR 6 (zav 2 zay (zae (dOp zbs (zag 5) (zag 2)) (zae (dOp zbs (zag 4) (dC (.int 800))) zao))))
 (xIf (zlw 7 (zbL (dOp (zf8 true) (dOp (oI (fun _ j=>0<j) fun i j=>.int (i%j)) (zag 6) (dC (.int 100))) (zag 7)))) (zaH (zkg 1 (dC (.int 5)) (ziN (zae (dOp (oI (fun _ j=>0<j) fun i j=>.int (i%j)) (zag 6) (dC (.int 100))) (zae (dOp oIx (zag 8) (dOp (oI (fun _ j=>0<j) fun i j=>.int (i%j)) (dOp (oI zcH fun i j=>.int (i/j)) (zag 6) (dC (.int 128))) (dC (.int 8)))) zao))))
 (zjm 7 (dOp (oI (fun _ j=>0<j) fun i j=>.int (i%j)) (zag 6) (dC (.int 100))))) zeT)))
 (zaH (zed 1 (dC (.int 5)) (zdc 1 (dCB zfc (zae (dOp oIx (zag 1) (dC (.int 5))) zao))))
 (zkf 1)))))))))))
theorem znR{ws:List Str}(hw:Words ws){l:List (Option Str)}(h:Pool ws l):∀x∈l,(pinS x).length≤6:=by
 intro x hx
 cases x with
 | none=>exact(by decide +kernel:(Str.ofString ".").length≤6)
 | some w=>exact(hw.sz w (h w hx)).2
theorem zhm(ds:List D)(Qr:R→Prop)(hl:ds.length=1)(h:zb2 ds Qr):zel { nx:=fun _=>Qr (.fz .non),rt:=Qr } (zaF ["_law_script","_law_lists","_law_seed","_law_more","_law_k","_law_cell","_law_one","_law_columns","_law_names"] ds):=by
 obtain⟨ns,rfl,hn,q⟩:=h
 show zel _ [.fz (dI ns),.un,.un,.un,.un,.un,.un,.un,.un]
 unfold zel dI
 have big:=zaE
 walk_at "px"
 refine⟨ns,40,rfl,hn,by omega,by omega,fun ws c hw gc=>?_⟩
 walk_at "px"
 walk_at "go"
 generalize hseed:((zdh ns none (some 1)).sum%1000000000000000000000000000000+17)*40692%2147483399=seed
 have s0:0≤seed:=by rw[←hseed];exact Int.emod_nonneg _ (by decide)
 clear hseed
 walk_at "go"
 refine⟨by omega,?_⟩
 walk_at "go"
 unfold Chan.rows
 refine zcQ (zdh ns (some 1) (some 9)) D.int (fun Q' h=>?_) (fun i ρ=>∃(more:List (Int×Int×Int)) (a b d:Sl),ρ=[.fz (D.lst (List.map D.int ns)),.ov (.ll [c.top.map dO,c.bottom.map dO,c.left.map .str,c.right.map .str,c.wide.map dWp,c.bends.map dBp,c.keeps.map dKp]),.fz (.int seed),.ow (more.map dKp),a,b,d,.un,.un]∧more.length≤i∧∀p∈more,In100 p.1∧In100 p.2.1∧In100 p.2.2) ⟨[],_,_,_,rfl,by simp,by simp⟩ ?_ ?_
 ·walk_at "px"
  exact h
 ·rintro i x ρ hx ⟨more,a,b,d,rfl,ml,mo⟩
  have hi:i<8:=by
   have:=(List.getElem?_eq_some_iff.mp hx).1
   rw[zdP _ (by decide) (by decide)] at this
   simp at this
   omega
  walk_at "px"
  refine⟨x+seed,(i:Int)+700,rfl,by omega,by omega,?_⟩
  have n0:=zjH (x+seed) ((i:Int)+700)
  generalize zkx _ _=one at n0 ⊢
  walk_at "go"
  refine⟨by omega,by simp;omega,more++[(one%100,one/128%100,one/16384%100)],_,_,_,by rw[List.map_append];rfl,by simp;omega,fun p hp=>?_⟩
  rcases List.mem_append.mp hp with h | h
  ·exact mo p h
  ·have:p=(one%100,one/128%100,one/16384%100):=by simpa using h
   subst this
   unfold In100
   dsimp only
   omega
 rintro ρ ⟨more,a,b,d,rfl,ml,mo⟩
 have ml8:more.length≤8:=by
  rw[zdP _ (by decide) (by decide)] at ml
  simp at ml
  omega
 simp only[zkn,zkb,frz,gt,List.set]
 walk_at "px"
 refine⟨_,rfl,?_⟩
 dsimp only
 rw[←List.map_append,zhe,zhd _ (Int.emod_nonneg _ (by decide))]
 have kl:=gc.ke.1
 have w2:=gc.w2
 have k1:((c.keeps++more).take (seed%9).toNat).length≤8:=by simp;omega
 have k2:∀p∈(c.keeps++more).take (seed%9).toNat,In100 p.1∧In100 p.2.1∧In100 p.2.2:=fun p hp=>by
  rcases List.mem_append.mp (List.mem_of_mem_take hp) with h | h
  ·have:=gc.ke.2 p h
   unfold In100
   omega
  ·exact mo p h
 refine⟨by simp;omega,zp7 _,6,rfl,?_⟩
 generalize (c.keeps++more).take (seed%9).toNat=keeps at k1 k2 ⊢
 walk_at "go"
 refine zaK c.bends dBp (fun p=>.int p.1) (fun Q' h=>?_) (by have:=gc.be.len;omega) (fun p hp K1 k=>?_) ?_
 ·walk_at "px"
  exact⟨_,rfl,h⟩
 ·unfold dBp
  walk_at "px"
  exact k
 rw[show(c.bends.map fun p=>D.int p.1)=(c.bends.map (·.1)).map D.int by rw[List.map_map];rfl]
 refine⟨by simp[zpK,zcN],?_⟩
 walk_at "go"
 refine⟨_,rfl,?_⟩
 have hv:=zic (zdh ns none (some 1)).sum
 generalize zdQ (zdh ns none (some 1)).sum=vs at hv ⊢
 walk_at "go"
 have b0:∀p∈c.bends,In100 p.1∧p.2∈ws++vs:=fun p hp=>by
  obtain⟨n,e,hn2,hp2,_⟩:=gc.be.at_ p hp
  exact⟨by unfold In100;omega,List.mem_append_left _ hp2⟩
 have bl:=gc.be.len
 have bn:(c.bends.map (·.1)).Nodup:=by
  unfold List.Nodup
  rw[List.pairwise_map]
  exact gc.be.up.imp fun h=>Int.ne_of_lt h
 refine zcQ (zdh ns (some 9) (some 20)) D.int (fun Q' h=>?_) (fun i ρ=>∃(bends:List (Int×Str)) (a b d:Sl),ρ=[.fz (D.lst (List.map D.int ns)),.ov (.ll [c.top.map dO,c.bottom.map dO,c.left.map .str,c.right.map .str,c.wide.map dWp,bends.map dBp,keeps.map dKp]),.fz (.int seed),.fz (D.lst (more.map dKp)),a,b,d,.ow ((bends.map (·.1)).map D.int),.fz (D.lst (vs.map D.str))]∧bends.length≤40+i∧(bends.map (·.1)).Nodup∧∀p∈bends,In100 p.1∧p.2∈ws++vs) ⟨c.bends,_,_,_,rfl,by omega,bn,b0⟩ ?_ ?_
 ·walk_at "px"
  exact h
 ·rintro i x ρ hx ⟨bends,a,b,d,rfl,ml,mn,mo⟩
  have hi:i<11:=by
   have:=(List.getElem?_eq_some_iff.mp hx).1
   rw[zdP _ (by decide) (by decide)] at this
   simp at this
   omega
  walk_at "px"
  refine⟨x+seed,(i:Int)+800,rfl,by omega,by omega,?_⟩
  have n0:=zjH (x+seed) ((i:Int)+800)
  generalize zkx _ _=one at n0 ⊢
  walk_at "go"
  refine⟨fun e he=>?_,?_⟩
  ·obtain⟨z,_,rfl⟩:=List.mem_map.mp he
   rw[zcP];trivial
  rw[zrc]
  by_cases hm:one%100∈bends.map (·.1)
  ·simp only[hm,decide_true,Bool.not_true,Bool.false_eq_true,if_false]
   exact⟨bends,_,_,_,rfl,by omega,mn,mo⟩
  ·simp only[hm,decide_false,Bool.not_false,if_true]
   walk_at "px"
   obtain⟨w,hw1,hw2⟩:=at8 (one/128) hv.len
   refine⟨5,_,rfl,rfl,w,hw1,by omega,by simp;omega,?_⟩
   walk_at "go"
   refine⟨by simp;omega,bends++[(one%100,w)],_,_,_,by rw[List.map_append,List.map_append,List.map_append];rfl,by simp;omega,?_,fun p hp=>?_⟩
   ·rw[List.map_append,List.nodup_append]
    exact⟨mn,by simp,fun u hu v hv2=>by
     simp only[List.map_cons,List.map_nil,List.mem_singleton] at hv2
     subst hv2
     exact fun z=>hm (z▸hu)⟩
   ·rcases List.mem_append.mp hp with h | h
    ·exact mo p h
    ·have:p=(one%100,w):=by simpa using h
     subst this
     exact⟨by unfold In100;dsimp only;omega,List.mem_append_right _ hw2⟩
 rintro ρ ⟨bends,a,b,d,rfl,ml,mn,mo⟩
 have ml51:bends.length≤51:=by
  rw[zdP _ (by decide) (by decide)] at ml
  simp at ml
  omega
 walk_at "go"
 refine⟨_,rfl,bends,rfl,by omega,fun x hx y hy e=>?_,fun ps hp hs=>?_⟩
 ·have key:∀(l:List (Int×Str)),(l.map (·.1)).Nodup→∀x∈l,∀y∈l,x.1=y.1→x=y:=fun l hl x hx y hy e=>by
   induction l with
   | nil=>cases hx
   | cons z l ih=>
    rw[List.map_cons,List.nodup_cons] at hl
    rcases List.mem_cons.mp hx with h1 | h1
    ·rcases List.mem_cons.mp hy with h2 | h2
     ·rw[h1,h2]
     ·have:=List.mem_map_of_mem (f:=Prod.fst) h2
      rw[←e,h1] at this
      exact absurd this hl.1
    ·rcases List.mem_cons.mp hy with h2 | h2
     ·have:=List.mem_map_of_mem (f:=Prod.fst) h1
      rw[e,h2] at this
      exact absurd this hl.1
     ·exact ih hl.2 h1 h2
  rw[key bends mn x hx y hy e]
 have pb:∀p∈ps,In100 p.1∧p.2∈ws++vs:=fun p h=>mo p (hp.subset h)
 have pl:ps.length≤51:=by rw[hp.length_eq];exact ml51
 refine⟨zp8 ps,5,rfl,?_⟩
 walk_at "go"
 have so:(ps.map (·.1)).Pairwise (·<·):=by
  have h1:(ps.map (·.1)).Pairwise (·≤·):=by rw[List.pairwise_map];exact hs
  have h2:(ps.map (·.1)).Nodup:=(hp.map _).nodup_iff.mpr mn
  exact(h1.and h2).imp fun h=>Int.lt_iff_le_and_ne.mpr h
 have sz6:∀w∈ws++vs,IsNm w:=fun w h=>by
  rcases List.mem_append.mp h with h | h
  ·exact⟨hw.sz w h,hw.abc w h⟩
  ·exact⟨hv.sz w h,hv.abc w h⟩
 have al:∀w∈ws,w∈ws++vs:=fun w h=>List.mem_append_left _ h
 exact q (ws++vs) ⟨c.top,c.bottom,c.left,c.right,c.wide,ps,keeps⟩ ⟨⟨by dsimp only;omega,by have:=gc.bl;dsimp only;omega,gc.ll,gc.rl,gc.wl,pl,by dsimp only;omega,znR hw gc.pt,znR hw gc.pb,fun w h=>(hw.sz w (gc.lw w h)).2,fun w h=>(hw.sz w (gc.rw_ w h)).2,fun p h=>⟨(hw.sz _ (gc.ww p h).1).2,by have:=(gc.ww p h).2.1;unfold In100;omega⟩,fun p h=>⟨(pb p h).1,(sz6 _ (pb p h).2).1.2⟩,k2⟩,gc.w1,gc.bl,gc.lo,gc.ro,gc.wo,fun p h=>(gc.ww p h).2.1,so,k1,by rw[List.length_append,hw.len,hv.len];decide,sz6,fun w h=>al w (gc.pt w h),fun w h=>al w (gc.pb w h),fun w h=>al w (gc.lw w h),fun w h=>al w (gc.rw_ w h),fun p h=>al _ (gc.ww p h).1,fun p h=>(pb p h).2⟩
end Wc
namespace Wc
open PySem L2 PyProof.Rows
theorem zjN:∀(k:Nat) (a:Array Nat),((List.replicate k #[32]).foldl (·++·) a).toList=a.toList++List.replicate k 32
 | 0,a=>by simp
 | k+1,a=>by
  rw[List.replicate_succ,List.foldl_cons,zjN k]
  simp[List.replicate_succ]
theorem zl8{n:Int}(h:0≤n):cp (Txt.mul (Str.ofString " ") n)=List.replicate n.toNat 32:=by
 rw[zfg]
 unfold Txt.mul
 by_cases h1:n<1
 ·rw[if_pos h1]
  have:n.toNat=0:=by omega
  rw[this];rfl
 ·rw[if_neg h1]
  by_cases h2:n=1
  ·subst h2;rfl
  ·have e:((n==1||(⟨#[32]⟩:Str).length==0)=true)=False:=by
    simp[h2,Str.length]
   rw[if_neg (by rw[e];exact not_false)]
   unfold cp
   rw[zjN]
   rfl
theorem zhn{n:Int}(h:0≤n):(Txt.mul (Str.ofString " ") n).length=n.toNat:=by rw[←zii,zl8 h,List.length_replicate]
theorem zl9:(Str.ofString " ").length=1:=by decide +kernel
noncomputable def znS(P:List Nat):Prop:=∀zcD,zbg (P++zcD)=zbg zcD
theorem zjO:znS []:=fun _=>rfl
theorem zdT:znS [10]:=fun zcD=>by
 have:=zbK [] zcD
 rw[List.nil_append] at this
 simpa[zcr] using this
theorem zjP{P Q:List Nat}(h:znS P)(h':znS Q):znS (P++Q):=fun zcD=>by rw[List.append_assoc,h,h']
theorem zem(n:Nat):znS (List.replicate n 32++[10]):=fun zcD=>by
 rw[List.append_assoc]
 have h:=zbK (List.replicate n 32) zcD
 rw[List.singleton_append,h]
 have e:zbg (List.replicate n 32)=[]:=zig (by simp) (by have:=zcs [] n;rw[List.append_nil] at this;rw[this];rfl)
 rw[e];rfl
theorem zrd:cp (Str.ofString " \n")=List.replicate 1 32++[10]:=by decide +kernel
theorem zp9:cp (Str.ofString "  \n")=List.replicate 2 32++[10]:=by decide +kernel
theorem zre:cp (Str.ofString "\n \n\n")=[10]++((List.replicate 1 32++[10])++[10]):=by decide +kernel
theorem zoS:cp (Str.ofString "")=[]:=by decide +kernel
theorem zqa(b:Int):∃P:Str,atI [D.str "",D.str " \n",D.str "\n",D.str ""] (b%4)=some (.str P)∧znS (cp P)∧P.length≤2:=by
 have hb:b%4=0∨b%4=1∨b%4=2∨b%4=3:=by omega
 rcases hb with h | h | h | h<;>rw[h]
 ·exact⟨_,rfl,by rw[zoS];exact zjO,by decide +kernel⟩
 ·exact⟨_,rfl,by rw[zrd];exact zem 1,by decide +kernel⟩
 ·exact⟨_,rfl,by rw[zgO];exact zdT,by decide +kernel⟩
 ·exact⟨_,rfl,by rw[zoS];exact zjO,by decide +kernel⟩
theorem zoT(b:Int):∃P:Str,atI [D.str "\n",D.str "  \n",D.str "\n \n\n"] (b%3)=some (.str P)∧znS (cp P)∧P.length≤5∧∃B,cp P=B++[10]:=by
 have hb:b%3=0∨b%3=1∨b%3=2:=by omega
 rcases hb with h | h | h<;>rw[h]
 ·exact⟨_,rfl,by rw[zgO];exact zdT,by decide +kernel,[],zgO⟩
 ·exact⟨_,rfl,by rw[zp9];exact zem 2,by decide +kernel,_,zp9⟩
 ·exact⟨_,rfl,by rw[zre];exact zjP zdT (zjP (zem 1) zdT),by decide +kernel,[10,32,10],by decide +kernel⟩
structure Cur (A cur:List Nat) (ws:List Str) (t:Str):Prop where
 at_:cp t=A++cur
 fr:10∉cur
 wd:wordsC cur=ws.map cp
 st:ws=[]→∃m,cur=List.replicate m 32
theorem Cur.blank{A cur:List Nat}{ws:List Str}{t:Str}(h:Cur A cur ws t){n:Int}(hn:0≤n):Cur A (cur++List.replicate n.toNat 32) ws (t++Txt.mul (Str.ofString " ") n):=by
 refine⟨by rw[zdR,zl8 hn,h.at_,List.append_assoc],?_,by rw[zfF,h.wd],fun e=>?_⟩
 ·simp only[List.mem_append,not_or]
  exact⟨h.fr,by simp⟩
 ·obtain⟨m,rfl⟩:=h.st e
  exact⟨m+n.toNat,by rw[List.replicate_append_replicate]⟩
theorem Cur.word{A cur:List Nat}{ws:List Str}{t w:Str}(h:Cur A cur ws t)(hw:WdS w)(hb:ws=[]∨∃c2,cur=c2++[32]∧wordsC c2=ws.map cp):Cur A (cur++cp w) (ws++[w]) (t++w):=by
 refine⟨by rw[zdR,h.at_,List.append_assoc],?_,?_,fun e=>by simp at e⟩
 ·simp only[List.mem_append,not_or]
  exact⟨h.fr,hw.2.2⟩
 ·rw[List.map_append]
  rcases hb with e | ⟨c2,rfl,e⟩
  ·obtain⟨m,rfl⟩:=h.st e
   rw[zcs,zc7 hw.2.1 hw.1,e];rfl
  ·rw[List.append_assoc,List.singleton_append,zc6,e,zc7 hw.2.1 hw.1];rfl
theorem Cur.last{A cur:List Nat}{ws:List Str}{t:Str}{c:List Nat}{n:Nat}(h:wordsC c=ws.map cp)(hn:0<n):∃c2,c++List.replicate n 32=c2++[32]∧wordsC c2=ws.map cp:=by
 obtain⟨m,rfl⟩:∃m,n=m+1:=⟨n-1,by omega⟩
 refine⟨c++List.replicate m 32,?_,by rw[zfF,h]⟩
 rw[List.append_assoc,List.replicate_succ']
end Wc
namespace Wc
open PySem L2 PyProof.Rows
noncomputable def zqb(l:List Str):Prop:=zfI l∧l≠[]∧∀w∈l,WdS w
noncomputable def zbG:SpD:=fun ds Q=>∃(ls:List (List Str)) (seed:Int),ds=[.lst (ls.map dS),.int seed]∧ls≠[]∧ls.length≤100∧(∀l∈ls,zqb l)∧∀t:Str,zbg (cp t)=ls.map (·.map cp)→t.length≤400000→Q (.fz (.str t))
noncomputable def zcV:TX:=(zaH (zaR 2 (dC (.str "")))
 (zaH (zgD (zg0 (zae (zag 0) zao)) (zf9 2 (za0 (zau 3) (za0 (zau 4) zeU))) (zaH (zaR 5 (zav 2 zay (zae (zag 1) (zae (dOp zbs (zag 3) (dC (.int 900))) zao))))
 (zaH (zaR 2 (dOp zbs (dOp zbs (zag 2) (dOp oIx (zcI (zae (dC (.str "")) (zae (dC (.str " \n")) (zae (dC (.str "\n")) (zae (dC (.str "")) zao))))) (dOp (oI (fun _ j=>0<j) fun i j=>.int (i%j)) (zag 5) (dC (.int 4))))) (dOp ziU (dC (.str " ")) (dOp (oI (fun _ j=>0<j) fun i j=>.int (i%j)) (dOp (oI zcH fun i j=>.int (i/j)) (zag 5) (dC (.int 4))) (dC (.int 7))))))
 (zaH (zgD (zg0 (zae (zag 4) zao)) (zf9 2 (za0 (zau 6) (za0 (zau 7) zeU))) (zaH (xIf (zbL (dOp (oI0 fun i j=>.bl (decide (j<i))) (zag 6) (dC (.int 0)))) (zaR 2 (dOp zbs (zag 2) (dOp ziU (dC (.str " ")) (dOp zbs (dC (.int 1)) (dOp (oI (fun _ j=>0<j) fun i j=>.int (i%j)) (dOp (oI zcH fun i j=>.int (i/j)) (zag 5) (dOp zbs (dC (.int 16)) (dOp (oI CMul fun i j=>.int (i*j)) (zag 6) (zag 6)))) (dC (.int 3))))))) zeT)
 (zaH (xIf (zmP (zbL (dOp oEq (zag 6) (dC (.int 1)))) (zbL (dOp oEq (dOp (oI (fun _ j=>0<j) fun i j=>.int (i%j)) (dOp (oI zcH fun i j=>.int (i/j)) (zag 5) (dC (.int 512))) (dC (.int 4))) (dC (.int 1))))) (zaR 2 (dOp zbs (zag 2) (dOp ziU (dC (.str " ")) (dOp (oI (fun _ j=>0<j) fun i j=>.int (i%j)) (dOp (oI zcH fun i j=>.int (i/j)) (zag 5) (dC (.int 2048))) (dC (.int 40)))))) zeT)
 (zaR 2 (dOp zbs (zag 2) (zag 7))))))
 (zaR 2 (dOp zbs (dOp zbs (zag 2) (dOp ziU (dC (.str " ")) (dOp (oI (fun _ j=>0<j) fun i j=>.int (i%j)) (dOp (oI zcH fun i j=>.int (i/j)) (zag 5) (dC (.int 128))) (dC (.int 3))))) (dC (.str "\n"))))))))
 (zaH (xIf (zbL (dOp oEq (dOp (oI (fun _ j=>0<j) fun i j=>.int (i%j)) (dOp (oI zcH fun i j=>.int (i/j)) (zag 1) (dC (.int 2))) (dC (.int 4))) (dC (.int 1)))) (zaR 2 (dOp zbs (zag 2) (dOp oIx (zcI (zae (dC (.str "\n")) (zae (dC (.str "  \n")) (zae (dC (.str "\n \n\n")) zao)))) (dOp (oI (fun _ j=>0<j) fun i j=>.int (i%j)) (dOp (oI zcH fun i j=>.int (i/j)) (zag 1) (dC (.int 8))) (dC (.int 3)))))) zeT)
 (zaH (xIf (zbL (dOp oEq (dOp (oI (fun _ j=>0<j) fun i j=>.int (i%j)) (zag 1) (dC (.int 2))) (dC (.int 1)))) (zcK (dSl (zag 2) oNo (zbu (zoZ (dC (.int 1)))))) zeT)
 (zcK (zag 2))))))
theorem zfK(ds:List D)(Qr:R→Prop)(hl:ds.length=2)(h:zbG ds Qr):zcV { nx:=fun _=>Qr (.fz .non),rt:=Qr } (zaF ["_law_lines_here","_law_seed","_law_text_here","_law_k","_law_line","_law_bits","_law_j","_law_word"] ds):=by
 obtain⟨ls,seed,rfl,hne,hlen,hok,q⟩:=h
 show zcV _ [.fz (.lst (ls.map dS)),.fz (.int seed),.un,.un,.un,.un,.un,.un]
 unfold zcV
 have big:=zaE
 have bl:=zl9
 walk_at "px"
 walk_at "go"
 refine zcQ ls dS (fun Q' h=>?_) (fun i ρ=>∃(t:Str) (a b c d e:Sl),ρ=[.fz (.lst (ls.map dS)),.fz (.int seed),.fz (.str t),a,b,c,d,e]∧(∀zcD,zbg (cp t++zcD)=(ls.take i).map (·.map cp)++zbg zcD)∧t.length≤3200*i∧(0<i→∃B,cp t=B++[10])) ⟨"",_,_,_,_,_,rfl,fun zcD=>by rw[zoS];simp,by decide +kernel,by simp⟩ ?_ ?_
 ·walk_at "px"
  exact h
 ·rintro i l ρ hx ⟨t,a,b,c,d,e,rfl,hA,tl,_⟩
  have hi:i<100:=by have:=(List.getElem?_eq_some_iff.mp hx).1;omega
  have hL:=hok l (List.mem_of_getElem? hx)
  have tk:ls.take (i+1)=ls.take i++[l]:=by rw[List.take_add_one,hx];rfl
  walk_at "px"
  refine⟨seed,(i:Int)+900,rfl,by omega,by omega,?_⟩
  have n0:=zjH seed ((i:Int)+900)
  have n1:=zpS seed ((i:Int)+900)
  generalize zkx _ _=bits at n0 n1 ⊢
  walk_at "go"
  obtain⟨P,hP,idP,lP⟩:=zqa bits
  refine⟨by omega,_,hP,?_⟩
  dsimp only
  have lm:=zhn (n:=bits/4%7) (by omega)
  refine⟨by omega,bl,by omega,by omega,by rw[zbh,lm];omega,?_⟩
  have c0:Cur (cp t++cp P) (List.replicate (bits/4%7).toNat 32) [] (t++P++Txt.mul (Str.ofString " ") (bits/4%7)):=
   ⟨by rw[zdR,zdR,zl8 (by omega)],by simp,by have:=zcs [] (bits/4%7).toNat;rw[List.append_nil] at this;rw[this];rfl,fun _=>⟨_,rfl⟩⟩
  have hA':∀zcD,zbg ((cp t++cp P)++zcD)=(ls.take i).map (·.map cp)++zbg zcD:=fun zcD=>by rw[List.append_assoc,hA,idP]
  have l0:(t++P++Txt.mul (Str.ofString " ") (bits/4%7)).length≤3200*i+10:=by rw[zbh,zbh,lm];omega
  generalize (t++P++Txt.mul (Str.ofString " ") (bits/4%7))=t0 at c0 l0 ⊢
  generalize cp t++cp P=A at c0 hA'
  generalize List.replicate (bits/4%7).toNat 32=cur0 at c0
  clear hP idP lP lm hA tl
  simp only[dS]
  walk_at "go"
  refine zcQ l D.str (fun Q' h=>?_) (fun j ρ=>∃(t':Str) (cur:List Nat) (d e:Sl),ρ=[.fz (.lst (ls.map dS)),.fz (.int seed),.fz (.str t'),.fz (.int i),.fz (.lst (l.map D.str)),.fz (.int bits),d,e]∧Cur A cur (l.take j) t'∧t'.length≤3200*i+10+60*j) ⟨t0,cur0,_,_,rfl,c0,by omega⟩ ?_ ?_
  ·walk_at "px"
   exact h
  ·rintro j w ρ hj ⟨t',cur,d,e,rfl,hc,hl'⟩
   have hjl:=(List.getElem?_eq_some_iff.mp hj).1
   have hj50:j<50:=by have:=hL.1.1;omega
   have hw:=hL.2.2 w (List.mem_of_getElem? hj)
   have hw6:=hL.1.2 w (List.mem_of_getElem? hj)
   have tkj:l.take (j+1)=l.take j++[w]:=by rw[List.take_add_one,hj];rfl
   have lne:l.take j=[]↔j=0:=by
    rw[List.take_eq_nil_iff]
    have:l≠[]:=hL.2.1
    simp[this]
   walk_at "px"
   by_cases hj0:j=0
   ·subst hj0
    rw[if_neg (by omega)]
    walk_at "go"
    rw[if_neg (by omega)]
    walk_at "go"
    exact⟨by omega,_,_,_,_,rfl,by rw[tkj];exact hc.word hw (.inl rfl),by rw[zbh];omega⟩
   ·rw[if_pos (by omega)]
    have jj:0≤(j:Int)*j∧(j:Int)*j<2500:=by
     have h1:(j:Int)*j≤49*49:=Int.mul_le_mul (by omega) (by omega) (by omega) (by omega)
     exact⟨Int.mul_nonneg (by omega) (by omega),by omega⟩
    generalize hsq:(j:Int)*j=sq at jj ⊢
    have nn:0≤1+bits/(16+sq)%3∧1+bits/(16+sq)%3≤3∧1≤1+bits/(16+sq)%3:=by omega
    generalize 1+bits/(16+sq)%3=n1' at nn ⊢
    have lm:=zhn (n:=n1') (by omega)
    refine⟨by omega,by omega,bl,by omega,by omega,by omega,?_⟩
    have c1:=hc.blank (n:=n1') (by omega)
    have l1:(t'++Txt.mul (Str.ofString " ") n1').length≤3200*i+13+60*j:=by rw[zbh];omega
    have b1:=Cur.last (A:=A) (cur:=cur) (t:=t') (n:=n1'.toNat) hc.wd (by omega)
    generalize (t'++Txt.mul (Str.ofString " ") n1')=t1 at c1 l1 ⊢
    walk_at "go"
    by_cases hj1:(j:Int)=1
    ·rw[if_pos hj1]
     by_cases hb4:bits/512%4=1
     ·rw[if_pos hb4]
      have lm2:=zhn (n:=bits/2048%40) (by omega)
      refine⟨bl,by omega,by omega,by omega,?_⟩
      have c2:=c1.blank (n:=bits/2048%40) (by omega)
      have b2:∃c2,(cur++List.replicate n1'.toNat 32)++List.replicate (bits/2048%40).toNat 32=c2++[32]∧wordsC c2=(l.take j).map cp:=by
       rw[List.append_assoc,List.replicate_append_replicate]
       exact Cur.last (A:=A) (cur:=cur) (t:=t') hc.wd (by omega)
      walk_at "go"
      exact⟨by rw[zbh];omega,_,_,_,_,rfl,by rw[tkj];exact c2.word hw (.inr b2),by rw[zbh,zbh];omega⟩
     ·rw[if_neg hb4]
      walk_at "go"
      exact⟨by omega,_,_,_,_,rfl,by rw[tkj];exact c1.word hw (.inr b1),by rw[zbh];omega⟩
    ·rw[if_neg hj1]
     walk_at "go"
     exact⟨by omega,_,_,_,_,rfl,by rw[tkj];exact c1.word hw (.inr b1),by rw[zbh];omega⟩
  rintro ρ ⟨t',cur,d,e,rfl,hc,hl'⟩
  rw[List.take_length] at hc
  walk_at "go"
  have lm:=zhn (n:=bits/128%3) (by omega)
  have l50:=hL.1.1
  have fl:(Str.ofString "\n").length=1:=by decide +kernel
  have c1:=hc.blank (n:=bits/128%3) (by omega)
  refine⟨bl,by omega,by omega,by omega,by rw[zbh];omega,_,_,_,_,_,_,rfl,fun zcD=>?_,by rw[zbh,zbh];omega,fun _=>⟨_,by rw[zdR,zgO]⟩⟩
  rw[zdR,zgO,c1.at_,List.append_assoc,List.append_assoc,List.singleton_append,hA',zbK,zfG c1.fr (by rw[c1.wd];simpa using hL.2.1),c1.wd,tk,List.map_append,←List.append_assoc]
  rfl
 rintro ρ ⟨t,a,b,c,d,e,rfl,hA,tl,hB⟩
 rw[List.take_length] at hA
 have hpos:0<ls.length:=List.length_pos_iff.mpr hne
 obtain⟨B,hB⟩:=hB hpos
 have hA0:=hA []
 rw[List.append_nil,zcr,List.append_nil] at hA0
 have tl2:t.length≤320000:=by omega
 clear hA tl
 have fin:∀t1:Str,zbg (cp t1)=ls.map (·.map cp)→t1.length≤330000→(∃B,cp t1=B++[10])→(seed%2=1→Qr (.fz (.str (zj9 t1 none (some (-1))))))∧Qr (.fz (.str t1)):=fun t1 h1 h2 ⟨B,h3⟩=>by
  refine⟨fun _=>?_,q t1 h1 (by omega)⟩
  have e1:cp (zj9 t1 none (some (-1)))=B:=by
   show zdh (cp t1) none (some (-1))=B
   rw[h3]
   unfold zdh HT.sIx
   simp only[List.length_append,List.length_cons,List.length_nil,List.drop_zero,Nat.sub_zero,Int.reduceNeg,Int.reduceLT,if_true]
   have e2:(-1+((B.length+(0+1):Nat):Int)).toNat=B.length:=by omega
   rw[e2,List.take_left' rfl]
  refine q _ ?_ ?_
  ·rw[e1]
   rw[h3,zbK B [],zcr,List.append_nil] at h1
   exact h1
  ·rw[←zii,e1]
   have:=congrArg List.length h3
   rw[zii,List.length_append] at this
   simp at this
   omega
 walk_at "go"
 by_cases hs:seed/2%4=1
 ·rw[if_pos hs]
  obtain⟨P,hP,idP,lP,B',hB'⟩:=zoT (seed/8)
  refine⟨by omega,_,hP,?_⟩
  dsimp only
  refine⟨by omega,?_⟩
  have f1:=fin (t++P) (by rw[zdR];have:=idP [];rw[List.append_nil] at this;rw[hB,List.append_assoc,List.singleton_append,zbK,this,zcr,List.append_nil];rw[hB,zbK B [],zcr,List.append_nil] at hA0;exact hA0) (by rw[zbh];omega) ⟨cp t++B',by rw[zdR,hB',List.append_assoc]⟩
  walk_at "go"
  split
  ·rename_i h2;exact⟨by rw[zbh];omega,f1.1 h2⟩
  ·walk_at "go"
   exact f1.2
 ·rw[if_neg hs]
  have f1:=fin t hA0 (by omega) ⟨B,hB⟩
  walk_at "go"
  split
  ·rename_i h2;exact⟨by omega,f1.1 h2⟩
  ·walk_at "go"
   exact f1.2
end Wc
namespace Wc
open PySem L2 PyProof.Rows
noncomputable def zb3:SpD:=fun ds Q=>∃l:Str,ds=[.str l]∧l.length≤1000000∧Q (.ow ((zdd l).map .str))
noncomputable def zen:TX:=(zcK (zaW (zcc (dM "str" zh8 (zag 0) (zae (dC (.str " ")) zao))) [none] (zau 0) (zbL (dOp oNe (zag 0) (dC (.str "")))) (zag 0)))
theorem zik(l:Str)(c:Str)(h:l.length≤1000000):(Txt.split l c).length≤1000002:=by
 have:=PyProof.Rows.split_le l c
 omega
theorem zho(ds:List D)(Qr:R→Prop)(hl:ds.length=1)(h:zb3 ds Qr):zen { nx:=fun _=>Qr (.fz .non),rt:=Qr } (zaF ["line"] ds):=by
 obtain⟨l,rfl,hl2,q⟩:=h
 show zen _ [.fz (.str l)]
 unfold zen
 have big:=zaE
 walk_at "px"
 refine zbb (Txt.split l " ") D.str D.str (fun w=>decide (w≠"")) (fun Q' h=>?_) (by have:=zik l " " hl2;omega) (fun w _ K1 K0 k1 k0=>?_) q
 ·walk_at "px"
  exact⟨rfl,by rw[zfg];decide,by omega,h⟩
 ·walk_at "px"
  by_cases hw:w=""
  ·subst hw
   simpa using k0 (by simp)
  ·simpa[hw] using k1 (by simpa using hw)
noncomputable def zb4:SpD:=fun ds Q=>∃t:Str,ds=[.str t]∧t.length≤1000000∧Q (.ow ((zeR t).map dS))
noncomputable def zeo:TX:=(zaH (zaR 1 (zaW (zcc (dM "str" zh8 (zag 0) (zae (dC (.str "\n")) zao))) [none] (zau 0) zdb (zav 1 zb3 (zae (zag 0) zao))))
 (zcK (zaW (zcc (zag 1)) [none] (zau 0) (zbL (dOp (oI0 fun i j=>.bl (decide (j<i))) (dCB zgF (zae (zag 0) zao)) (dC (.int 0)))) (zag 0))))
theorem zhp(ds:List D)(Qr:R→Prop)(hl:ds.length=1)(h:zb4 ds Qr):zeo { nx:=fun _=>Qr (.fz .non),rt:=Qr } (zaF ["text","lines"] ds):=by
 obtain⟨t,rfl,hl2,q⟩:=h
 show zeo _ [.fz (.str t),.un]
 unfold zeo
 have big:=zaE
 have sl:=zik t "\n" hl2
 walk_at "px"
 refine zaK (Txt.split t "\n") D.str (fun l=>dS (zdd l)) (fun Q' h=>?_) (by omega) (fun l hm K1 k=>?_) ?_
 ·walk_at "px"
  exact⟨rfl,by rw[zl4];decide,by omega,h⟩
 ·walk_at "px"
  refine⟨l,rfl,?_,k⟩
  have:=PyProof.Rows.part_short hm
  omega
 walk_at "go"
 rw[show((Txt.split t (Str.ofString "\n")).map fun l=>dS (zdd l))=((Txt.split t (Str.ofString "\n")).map zdd).map dS by rw[List.map_map];rfl]
 refine zbb ((Txt.split t (Str.ofString "\n")).map zdd) dS dS (fun ws=>decide (ws≠[])) (fun Q' h=>?_) (by rw[List.length_map];omega) (fun ws _ K1 K0 k1 k0=>?_) q
 ·walk_at "px"
  exact h
 ·unfold dS at *
  walk_at "px"
  cases ws with
  | nil=>simpa using k0 (by simp)
  | cons a r=>simpa using k1 (by simp)
noncomputable def zat:SpD:=fun ds Q=>∃w:Str,ds=[.bl true,.str w]∧Q (.fz .non)
noncomputable def zhq:TX:=(xIf (zoV (zbL (zag 0))) zjz zeT)
theorem zi3(ds:List D)(Qr:R→Prop)(hl:ds.length=2)(h:zat ds Qr):zhq { nx:=fun _=>Qr (.fz .non),rt:=Qr } (zaF ["holds","words"] ds):=by
 obtain⟨w,rfl,q⟩:=h
 show zhq _ [.fz (.bl true),.fz (.str w)]
 unfold zhq
 walk_at "px"
 exact q
end Wc
namespace Wc
open PySem L2 PyProof.Rows
local macro_rules | `(tactic| walk_at "px")=>`(tactic| (repeat(first | walk_at "b" | simp only[zlR,zpP,zjz,znJ,zqu])))
noncomputable def inT(S:Str)(c:Nat):Bool:=!(Builtin.Str.occurrences S ⟨#[c]⟩ 0 S.length 1).isEmpty
theorem zil(l:List Bool):zcM (l.map D.bl)=some l:=by
 induction l with
 | nil=>rfl
 | cons a r ih=>simp[zcM,ih]
theorem znT(S w:Str){Q:R→Prop}(h:w.length≤100)(hc:∀c∈w.cps.toList,inT S c=true)(q:Q (.fz (.bl true))):zaW (zcc (zag 0)) [none] (zau 0) zdb (dOp (zf8 false) (zag 0) (dC (.str S))) [.fz (.str w)] fun r=>zmm [r.val] Q:=by
 have big:=zaE
 refine zaK w.cps.toList (fun c=>.str ⟨#[c]⟩) (fun c=>.bl true) (fun Q' h=>h) (by have:=zii w;unfold cp at this;omega) (fun c hm K1 k=>?_) ?_
 ·show K1 (.bl (inT S c))
  rw[hc c hm]
  exact k
 ·show match zcM _ with | some bs=>Q (.fz (.bl (bs.all id))) | none=>False
  have e:(List.map (fun _=>D.bl true) w.cps.toList)=(w.cps.toList.map fun _=>true).map D.bl:=by simp
  rw[e,zil]
  have e2:(w.cps.toList.map fun _=>true).all id=true:=by simp[List.all_eq_true]
  simp only[e2]
  exact q
theorem zqc(c:Nat)(h:97≤c∧c≤122):inT "abcdefghijklmnopqrstuvwxyz" c=true:=by
 have:∀k:Fin 26,inT "abcdefghijklmnopqrstuvwxyz" (97+k.val)=true:=by decide +kernel
 have e:=this ⟨c-97,by omega⟩
 have e2:97+(c-97)=c:=by omega
 simpa[e2] using e
noncomputable def zct:SpD:=fun ds Q=>∃w:Str,ds=[.str w]∧IsNm w∧Q (.fz (.bl true))
noncomputable def zfL:TX:=(zaH (xIf (zoV (zbL (zeL (oI0 fun i j=>.bl (decide (i≤j))) (oI0 fun i j=>.bl (decide (i≤j))) (dC (.int 1)) (dCB zgF (zae (zag 0) zao)) (dC (.int 6))))) (zcK (dC (.bl false))) zeT)
 (zcK (dCB zmm (zae (zaW (zcc (zag 0)) [none] (zau 0) zdb (dOp (zf8 false) (zag 0) (dC (.str "abcdefghijklmnopqrstuvwxyz")))) zao))))
theorem zim(ds:List D)(Qr:R→Prop)(hl:ds.length=1)(h:zct ds Qr):zfL { nx:=fun _=>Qr (.fz .non),rt:=Qr } (zaF ["word"] ds):=by
 obtain⟨w,rfl,hw,q⟩:=h
 show zfL _ [.fz (.str w)]
 unfold zfL
 have big:=zaE
 obtain⟨⟨w1,w6⟩,wa⟩:=hw
 walk_at "px"
 refine⟨by omega,?_⟩
 have h1:1≤(w.length:Int):=by omega
 have h2:(w.length:Int)≤6:=by omega
 simp only[h1,h2,decide_true,Bool.true_and,if_true,Bool.not_true,Bool.false_eq_true,if_false]
 walk_at "go"
 exact znT _ w (by omega) (fun c hc=>zqc c (wa c hc)) q
noncomputable def zaO:SpD:=fun ds Q=>∃w:Str,ds=[.str w]∧IsNm w∧Q (.fz (.str w))
noncomputable def zdq:TX:=(zaH (zb9 (zav 2 zat (zae (zav 1 zct (zae (zag 0) zao)) (zae (dC (.str "a word is no NAME where one is due")) zao))))
 (zcK (zag 0)))
theorem zgg(ds:List D)(Qr:R→Prop)(hl:ds.length=1)(h:zaO ds Qr):zdq { nx:=fun _=>Qr (.fz .non),rt:=Qr } (zaF ["word"] ds):=by
 obtain⟨w,rfl,hw,q⟩:=h
 show zdq _ [.fz (.str w)]
 unfold zdq
 walk_at "px"
 refine⟨w,rfl,hw,_,rfl,?_⟩
 walk_at "go"
 exact q
theorem zin(i:Int)(h:In100 i):1≤(zby i).length∧(zby i).length≤2∧(∀c∈(zby i).cps.toList,inT "0123456789" c=true)∧(∃c,atI (zby i).cps.toList 0=some c∧((zby i).length=1∨(⟨#[c]⟩:Str)≠"0"))∧WdS (zby i):=by
 have key:∀k:Fin 100,(1≤(zby (k.val:Int)).length∧(zby (k.val:Int)).length≤2)∧((zby (k.val:Int)).cps.toList.all fun c=>inT "0123456789" c)=true∧((atI (zby (k.val:Int)).cps.toList 0).any fun c=>decide ((zby (k.val:Int)).length=1)||decide ((⟨#[c]⟩:Str)≠"0"))=true∧((zby (k.val:Int)).cps.toList≠[]∧32∉(zby (k.val:Int)).cps.toList∧10∉(zby (k.val:Int)).cps.toList):=by decide +kernel
 obtain⟨h0,h1⟩:=h
 have e:=key ⟨i.toNat,by omega⟩
 simp only[Int.toNat_of_nonneg h0] at e
 obtain⟨⟨e1,e2⟩,e3,e4,e5⟩:=e
 refine⟨e1,e2,fun c hc=>List.all_eq_true.mp e3 c hc,?_,e5⟩
 cases hc:atI (zby i).cps.toList 0 with
 | none=>rw[hc] at e4;cases e4
 | some c=>
  rw[hc] at e4
  exact⟨c,rfl,by simpa using e4⟩
theorem zep(i:Int)(h:In100 i):PySem.intText? (zby i)=some i:=PySem.W.KIN.num_reads h.1 (by have:=h.2;omega)
noncomputable def zaB:SpD:=fun ds Q=>∃i:Int,ds=[.str (zby i)]∧In100 i∧Q (.fz (.int i))
noncomputable def zcC:TX:=(zaH (zb9 (zav 2 zat (zae (zeL (oI0 fun i j=>.bl (decide (i≤j))) (oI0 fun i j=>.bl (decide (i≤j))) (dC (.int 1)) (dCB zgF (zae (zag 0) zao)) (dC (.int 2))) (zae (dC (.str "a number has not one or two figures")) zao))))
 (zaH (zb9 (zav 2 zat (zae (dCB zmm (zae (zaW (zcc (zag 0)) [none] (zau 0) zdb (dOp (zf8 false) (zag 0) (dC (.str "0123456789")))) zao)) (zae (dC (.str "a number has a sign that is no figure")) zao))))
 (zaH (zb9 (zav 2 zat (zae (dOr (dOp oEq (dCB zgF (zae (zag 0) zao)) (dC (.int 1))) (dOp oNe (dOp oIx (zag 0) (dC (.int 0))) (dC (.str "0")))) (zae (dC (.str "a number of two figures begins with a nought")) zao))))
 (zcK (dCB zlR (zae (zag 0) zao))))))
theorem zeY(ds:List D)(Qr:R→Prop)(hl:ds.length=1)(h:zaB ds Qr):zcC { nx:=fun _=>Qr (.fz .non),rt:=Qr } (zaF ["word"] ds):=by
 obtain⟨i,rfl,hi,q⟩:=h
 obtain⟨f1,f2,f3,⟨c,f4,f5⟩,_⟩:=zin i hi
 have f6:=zep i hi
 show zcC _ [.fz (.str (zby i))]
 unfold zcC
 have big:=zaE
 generalize zby i=w at f1 f2 f3 f4 f5 f6 ⊢
 walk_at "px"
 refine⟨by omega,?_⟩
 have h1:1≤(w.length:Int):=by omega
 have h2:(w.length:Int)≤2:=by omega
 simp only[h1,h2,decide_true,if_true]
 refine⟨_,rfl,?_⟩
 walk_at "go"
 refine znT _ w (by omega) f3 ?_
 refine⟨_,rfl,?_⟩
 walk_at "go"
 refine⟨by omega,?_⟩
 split
 ·refine⟨_,rfl,?_⟩
  walk_at "go"
  exact⟨i,f6,by omega,q⟩
 ·rename_i h3
  have f7:(⟨#[c]⟩:Str)≠"0":=f5.resolve_left (by omega)
  refine⟨by omega,c,f4,Str.ofString "a number of two figures begins with a nought",by simp[f7],?_⟩
  walk_at "go"
  exact⟨i,f6,by omega,q⟩
noncomputable def zbm:SpD:=fun ds Q=>∃l:List Str,ds=[dS l]∧l.length≤100∧(∀w∈l,IsNm w)∧Q (.ow (l.map .str))
noncomputable def zcW:TX:=(zcK (zaW (zcc (zag 0)) [none] (zau 0) zdb (zav 1 zaO (zae (zag 0) zao))))
theorem zfM(ds:List D)(Qr:R→Prop)(hl:ds.length=1)(h:zbm ds Qr):zcW { nx:=fun _=>Qr (.fz .non),rt:=Qr } (zaF ["words"] ds):=by
 obtain⟨l,rfl,h1,h2,q⟩:=h
 show zcW _ [.fz (dS l)]
 unfold zcW dS
 have big:=zaE
 walk_at "px"
 refine zaK l D.str D.str (fun Q' h=>?_) (by omega) (fun w hw K1 k=>?_) q
 ·walk_at "px"
  exact h
 ·walk_at "px"
  exact⟨w,rfl,h2 w hw,k⟩
noncomputable def zbx:SpD:=fun ds Q=>∃l:List (Option Str),ds=[dS (l.map pinS)]∧l.length≤100∧(∀w,some w∈l→IsNm w)∧Q (.ow (l.map dO))
noncomputable def zdr:TX:=(zcK (zaW (zcc (zag 0)) [none] (zau 0) zdb (dIf (zbL (dOp oEq (zag 0) (dC (.str ".")))) (dC .non) (zav 1 zaO (zae (zag 0) zao)))))
theorem zqd{w:Str}(h:IsNm w):w≠".":=fun e=>by
 subst e
 have:=h.2 46 (by decide +kernel)
 omega
theorem zgh(ds:List D)(Qr:R→Prop)(hl:ds.length=1)(h:zbx ds Qr):zdr { nx:=fun _=>Qr (.fz .non),rt:=Qr } (zaF ["words"] ds):=by
 obtain⟨l,rfl,h1,h2,q⟩:=h
 show zdr _ [.fz (dS (l.map pinS))]
 unfold zdr dS
 have big:=zaE
 walk_at "px"
 refine zaK l (fun x=>.str (pinS x)) dO (fun Q' h=>?_) (by omega) (fun x hx K1 k=>?_) q
 ·walk_at "px"
  rw[List.map_map]
  exact h
 ·walk_at "px"
  cases x with
  | none=>simpa[pinS,dO] using k
  | some w=>
   have:=zqd (h2 w hx)
   simp only[pinS,this,if_false]
   exact⟨w,rfl,h2 w hx,k⟩
noncomputable def zbR:SpD:=fun ds Q=>∃p:Str×Int,ds=[dS ["wide",p.1,zby p.2]]∧IsNm p.1∧In100 p.2∧Q (.fz (dWp p))
noncomputable def zds:TX:=(zaH (zb9 (zav 2 zat (zae (dOp oEq (dCB zgF (zae (zag 0) zao)) (dC (.int 3))) (zae (dC (.str "a wide line has not three words")) zao))))
 (zcK (ziN (zae (zav 1 zaO (zae (dOp oIx (zag 0) (dC (.int 1))) zao)) (zae (zav 1 zaB (zae (dOp oIx (zag 0) (dC (.int 2))) zao)) zao)))))
theorem zgi(ds:List D)(Qr:R→Prop)(hl:ds.length=1)(h:zbR ds Qr):zds { nx:=fun _=>Qr (.fz .non),rt:=Qr } (zaF ["words"] ds):=by
 obtain⟨p,rfl,h1,h2,q⟩:=h
 show zds _ [.fz (dS ["wide",p.1,zby p.2])]
 unfold zds dS
 have big:=zaE
 walk_at "px"
 refine⟨_,rfl,?_⟩
 walk_at "go"
 refine⟨_,rfl,p.1,rfl,h1,_,rfl,p.2,rfl,h2,by omega,q⟩
noncomputable def zbS:SpD:=fun ds Q=>∃p:Int×Str,ds=[dS ["bend",zby p.1,p.2]]∧IsNm p.2∧In100 p.1∧Q (.fz (dBp p))
noncomputable def zdt:TX:=(zaH (zb9 (zav 2 zat (zae (dOp oEq (dCB zgF (zae (zag 0) zao)) (dC (.int 3))) (zae (dC (.str "a bend line has not three words")) zao))))
 (zcK (ziN (zae (zav 1 zaB (zae (dOp oIx (zag 0) (dC (.int 1))) zao)) (zae (zav 1 zaO (zae (dOp oIx (zag 0) (dC (.int 2))) zao)) zao)))))
theorem zgj(ds:List D)(Qr:R→Prop)(hl:ds.length=1)(h:zbS ds Qr):zdt { nx:=fun _=>Qr (.fz .non),rt:=Qr } (zaF ["words"] ds):=by
 obtain⟨p,rfl,h1,h2,q⟩:=h
 show zdt _ [.fz (dS ["bend",zby p.1,p.2])]
 unfold zdt dS
 have big:=zaE
 walk_at "px"
 refine⟨_,rfl,?_⟩
 walk_at "go"
 refine⟨_,rfl,p.1,rfl,h2,_,rfl,p.2,rfl,h1,by omega,q⟩
noncomputable def zbT:SpD:=fun ds Q=>∃p:Int×Int×Int,ds=[dS ["keep",zby p.1,zby p.2.1,zby p.2.2]]∧In100 p.1∧In100 p.2.1∧In100 p.2.2∧Q (.fz (dKp p))
noncomputable def zdu:TX:=(zaH (zb9 (zav 2 zat (zae (dOp oEq (dCB zgF (zae (zag 0) zao)) (dC (.int 4))) (zae (dC (.str "a keep line has not four words")) zao))))
 (zcK (ziN (zae (zav 1 zaB (zae (dOp oIx (zag 0) (dC (.int 1))) zao)) (zae (zav 1 zaB (zae (dOp oIx (zag 0) (dC (.int 2))) zao)) (zae (zav 1 zaB (zae (dOp oIx (zag 0) (dC (.int 3))) zao)) zao))))))
theorem zgk(ds:List D)(Qr:R→Prop)(hl:ds.length=1)(h:zbT ds Qr):zdu { nx:=fun _=>Qr (.fz .non),rt:=Qr } (zaF ["words"] ds):=by
 obtain⟨p,rfl,h1,h2,h3,q⟩:=h
 show zdu _ [.fz (dS ["keep",zby p.1,zby p.2.1,zby p.2.2])]
 unfold zdu dS
 have big:=zaE
 walk_at "px"
 refine⟨_,rfl,?_⟩
 walk_at "go"
 refine⟨_,rfl,p.1,rfl,h1,_,rfl,p.2.1,rfl,h2,_,rfl,p.2.2,rfl,h3,by omega,q⟩
noncomputable def zba(a b c:Nat):List Str:=(["top","bottom","left","right"]:List Str)++List.replicate a (Str.ofString "wide")++List.replicate b (Str.ofString "bend")++List.replicate c (Str.ofString "keep")
noncomputable def zbi:SpD:=fun ds Q=>∃a b c:Nat,ds=[dS (zba a b c)]∧a≤100∧b≤100∧c≤100∧Q (.fz .non)
theorem zma(a b c:Nat):(zba a b c).count (Str.ofString "wide")=a∧(zba a b c).count (Str.ofString "bend")=b∧(zba a b c).count (Str.ofString "keep")=c:=by
 have e1:(Str.ofString "bend"==Str.ofString "wide")=false:=by decide +kernel
 have e2:(Str.ofString "keep"==Str.ofString "wide")=false:=by decide +kernel
 have e3:(Str.ofString "wide"==Str.ofString "bend")=false:=by decide +kernel
 have e4:(Str.ofString "keep"==Str.ofString "bend")=false:=by decide +kernel
 have e5:(Str.ofString "wide"==Str.ofString "keep")=false:=by decide +kernel
 have e6:(Str.ofString "bend"==Str.ofString "keep")=false:=by decide +kernel
 have f1:(["top","bottom","left","right"]:List Str).count (Str.ofString "wide")=0:=by decide +kernel
 have f2:(["top","bottom","left","right"]:List Str).count (Str.ofString "bend")=0:=by decide +kernel
 have f3:(["top","bottom","left","right"]:List Str).count (Str.ofString "keep")=0:=by decide +kernel
 unfold zba
 simp only[List.count_append,List.count_replicate,f1,f2,f3,e1,e2,e3,e4,e5,e6,beq_self_eq_true,if_true,Bool.false_eq_true,if_false]
 omega
noncomputable def zck:TX:=(zaH (zdF 1 (dCB zdK (zae (dC (.tup [.str "top",.str "bottom",.str "left",.str "right"])) zao)))
 (zaH (zgD (zcc (ziN (zae (dC (.str "wide")) (zae (dC (.str "bend")) (zae (dC (.str "keep")) zao))))) (zau 2) (znJ 1 (zqu (zcI (zae (zag 2) zao)) (dM "list" zgH (zag 0) (zae (zag 2) zao)))))
 (zb9 (zav 2 zat (zae (zg3 1 (dOp oEq (zag 0) (zag 1))) (zae (dC (.str "the lines are not those of a channel, in their order")) zao))))))
theorem zeq(ds:List D)(Qr:R→Prop)(hl:ds.length=1)(h:zbi ds Qr):zck { nx:=fun _=>Qr (.fz .non),rt:=Qr } (zaF ["heads","due","head"] ds):=by
 obtain⟨a,b,c,rfl,ha,hb,hc,q⟩:=h
 show zck _ [.fz (dS (zba a b c)),.un,.un]
 unfold zck dS
 have big:=zaE
 obtain⟨n1,n2,n3⟩:=zma a b c
 walk_at "px"
 walk_at "go"
 refine zdJ (["wide","bend","keep"]:List Str) D.str (fun Q' h=>?_) (fun i ρ=>∃s:Sl,ρ=[.fz (.lst ((zba a b c).map .str)),.ow ((zba (if 1≤i then a else 0) (if 2≤i then b else 0) (if 3≤i then c else 0)).map .str),s]) ⟨_,rfl⟩ ?_ ?_
 ·walk_at "px"
  exact⟨by omega,h⟩
 ·rintro i x ρ hx ⟨s,rfl⟩
  walk_at "px"
  rw[zl2]
  have rp:∀n:Nat,(List.replicate n [D.str x]).flatten=(List.replicate n x).map D.str:=fun n=>by
   induction n with
   | zero=>rfl
   | succ n ih=>rw[List.replicate_succ,List.flatten_cons,ih,List.replicate_succ,List.map_cons];rfl
  have cx:(zba a b c).count x≤100:=by
   match i,hx with
   | 0,hx=>cases hx;omega
   | 1,hx=>cases hx;omega
   | 2,hx=>cases hx;omega
   | n+3,hx=>simp at hx
  have hL:∀a' b' c':Nat,(zba a' b' c').length=4+a'+b'+c':=fun a' b' c'=>by unfold zba;simp;omega
  rw[show((zba a b c).count x:Int).toNat=(zba a b c).count x by omega,rp]
  refine⟨by omega,rfl,zcB 8 _,by omega,by omega,by omega,?_,?_⟩
  ·rw[List.length_map,List.length_map,hL,List.length_replicate]
   split<;>split<;>split<;>omega
  ·refine⟨.fz (.str x),?_⟩
   rw[←List.map_append]
   match i,hx with
   | 0,hx=>cases hx;rw[n1];simp[zba]
   | 1,hx=>cases hx;rw[n2];simp[zba]
   | 2,hx=>cases hx;rw[n3];simp[zba]
   | n+3,hx=>simp at hx
 ·rintro ρ ⟨s,rfl⟩
  walk_at "go"
  have e3:zba (if 1≤3 then a else 0) (if 2≤3 then b else 0) (if 3≤3 then c else 0)=zba a b c:=rfl
  change _∧okE 9 (.lst ((zba (if 1≤3 then a else 0) (if 2≤3 then b else 0) (if 3≤3 then c else 0)).map .str))∧zcN (.bl (eqD _ (.lst ((zba (if 1≤3 then a else 0) (if 2≤3 then b else 0) (if 3≤3 then c else 0)).map .str))))=true∧zat [.bl (eqD _ (.lst ((zba (if 1≤3 then a else 0) (if 2≤3 then b else 0) (if 3≤3 then c else 0)).map .str))),_] _
  rw[e3]
  have ok:=zlZ 8 (zba a b c)
  unfold dS at ok
  rw[zdA 9 _ ok]
  exact⟨ok,ok,rfl,_,rfl,q⟩
end Wc
namespace Wc
open PySem L2 PyProof.Rows
theorem znU:∀{a b:List Nat},Spec.ltCps a b=true→a<b
 | [],[],h=>by simp[Spec.ltCps] at h
 | [],b::bs,_=>List.Lex.nil
 | a::as,[],h=>by simp[Spec.ltCps] at h
 | a::as,b::bs,h=>by
  unfold Spec.ltCps at h
  by_cases h1:a<b
  ·exact List.Lex.rel h1
  ·by_cases h2:a=b
   ·subst h2
    simp at h
    exact List.Lex.cons (znU h)
   ·simp[h1,h2] at h
theorem zmb{α:Type}{r:α→α→Prop}:∀{l:List α},l.Pairwise r→∀p∈l.zip (l.drop 1),r p.1 p.2
 | [],_,p,hp=>by simp at hp
 | [a],_,p,hp=>by simp at hp
 | a::b::t,h,p,hp=>by
  simp only[List.drop_one,List.tail_cons,List.zip_cons_cons,List.mem_cons] at hp
  rw[List.pairwise_cons] at h
  rcases hp with rfl | hp
  ·exact h.1 b (by simp)
  ·have:=zmb h.2 p (by simpa using hp)
   exact this
noncomputable def za3:SpD:=fun ds Q=>(∃l:List Str,ds=[dS l]∧l.length≤100∧l.Pairwise ltS∧Q (.fz (.bl true)))∨∃l:List Int,ds=[dI l]∧l.length≤100∧l.Pairwise (·<·)∧Q (.fz (.bl true))
theorem zfh{α:Type}(l:List α){Q:R→Prop}(q:Q (.fz (.bl true))):zmm [.lst (l.map fun _=>D.bl true)] Q:=by
 show match zcM _ with | some bs=>Q (.fz (.bl (bs.all id))) | none=>False
 have e:(List.map (fun _=>D.bl true) l)=(l.map fun _=>true).map D.bl:=by simp
 rw[e,zil]
 have e2:(l.map fun _=>true).all id=true:=by simp[List.all_eq_true]
 simp only[e2]
 exact q
theorem zjQ{α:Type}(f:α→D)(l m:List α):zoY (l.map f) (m.map f)=(l.zip m).map fun p=>.tup [f p.1,f p.2]:=by
 unfold zoY
 induction l generalizing m with
 | nil=>simp
 | cons a r ih=>
  cases m with
  | nil=>simp
  | cons b t=>simp[ih]
noncomputable def zb5:TX:=(zcK (dCB zmm (zae (zaW (zqY (zae (zag 0) (zae (dSl (zag 0) (zbu (dC (.int 1))) oNo) zao))) [none,none] (zf9 2 (za0 (zau 0) (za0 (zau 1) zeU))) zdb (dOp zpP (zag 0) (zag 1))) zao)))
theorem zgl(ds:List D)(Qr:R→Prop)(hl:ds.length=1)(h:za3 ds Qr):zb5 { nx:=fun _=>Qr (.fz .non),rt:=Qr } (zaF ["members"] ds):=by
 have big:=zaE
 rcases h with⟨l,rfl,h1,h2,q⟩ | ⟨l,rfl,h1,h2,q⟩
 ·show zb5 _ [.fz (dS l)]
  unfold zb5 dS
  have hp:=zmb h2
  walk_at "px"
  refine zaK (l.zip (l.drop 1)) (fun p=>.tup [.str p.1,.str p.2]) (fun _=>.bl true) (fun Q' h=>?_) (by rw[List.length_zip];omega) (fun p hm K1 k=>?_) ?_
  ·walk_at "px"
   rw[zcO _ (by decide),zjQ]
   exact h
  ·walk_at "px"
   rw[decide_eq_true (znU (hp p hm))]
   exact k
  ·exact zfh _ q
 ·show zb5 _ [.fz (dI l)]
  unfold zb5 dI
  have hp:=zmb h2
  walk_at "px"
  refine zaK (l.zip (l.drop 1)) (fun p=>.tup [.int p.1,.int p.2]) (fun _=>.bl true) (fun Q' h=>?_) (by rw[List.length_zip];omega) (fun p hm K1 k=>?_) ?_
  ·walk_at "px"
   rw[zcO _ (by decide),zjQ]
   exact h
  ·walk_at "px"
   rw[decide_eq_true (hp p hm)]
   exact k
  ·exact zfh _ q
noncomputable def zfN(c:Chan):List Str:=((c.top++c.bottom).filterMap id)++(c.left++c.right)++c.wide.map (·.1)++c.bends.map (·.2)
noncomputable def zbU:SpD:=fun ds Q=>∃c:Chan,ds=[c.obj]∧AnyCh c∧Q (.ow ((zfN c).map .str))
theorem zrf(l:List (Option Str)):(l.filter fun x=>x.isSome).map dO=(l.filterMap id).map D.str:=by
 induction l with
 | nil=>rfl
 | cons a r ih=>
  cases a with
  | none=>simpa using ih
  | some w=>simp[dO,ih]
noncomputable def zdv:TX:=(zaH (zdF 1 (zaW (zcc (dOp zbs (zeX "top" (zag 0)) (zeX "bottom" (zag 0)))) [none] (zau 0) (zbL (dOp (zk5 true) (zag 0) (dC .non))) (zag 0)))
 (zaH (znJ 1 (dOp zbs (zeX "left" (zag 0)) (zeX "right" (zag 0))))
 (zaH (znJ 1 (zaW (zcc (zeX "wide" (zag 0))) [none] (zau 0) zdb (dOp oIx (zag 0) (dC (.int 0)))))
 (zaH (znJ 1 (zaW (zcc (zeX "bends" (zag 0))) [none] (zau 0) zdb (dOp oIx (zag 0) (dC (.int 1)))))
 (ziO 1)))))
theorem zgm(ds:List D)(Qr:R→Prop)(hl:ds.length=1)(h:zbU ds Qr):zdv { nx:=fun _=>Qr (.fz .non),rt:=Qr } (zaF ["channel","names"] ds):=by
 obtain⟨c,rfl,hc,q⟩:=h
 show zdv _ [.fz c.obj,.un]
 unfold zdv Chan.obj
 have big:=zaE
 have l1:=hc.tl
 have l2:=hc.bl
 have l3:=hc.ll
 have l4:=hc.rl
 have l5:=hc.wl
 have l6:=hc.el
 have fl:((c.top++c.bottom).filterMap id).length≤80:=by have:=List.length_filterMap_le id (c.top++c.bottom);rw[List.length_append] at this;omega
 walk_at "px"
 refine zbb (c.top++c.bottom) dO dO (fun x=>x.isSome) (fun Q' h=>?_) (by rw[List.length_append];omega) (fun x _ K1 K0 k1 k0=>?_) ?_
 ·walk_at "px"
  unfold dP
  walk_at "px"
  rw[List.map_append] at h
  exact⟨_,rfl,_,rfl,by simp only[List.length_append,List.length_map];omega,h⟩
 ·walk_at "px"
  cases x with
  | none=>simpa[dO,zdE] using k0 rfl
  | some w=>simpa[dO,zdE] using k1 rfl
 rw[zrf]
 walk_at "go"
 unfold dS
 refine⟨_,rfl,_,rfl,?_⟩
 dsimp only
 refine⟨by simp only[List.length_append,List.length_map];omega,by simp only[List.length_append,List.length_map];omega,?_⟩
 walk_at "go"
 refine zaK c.wide dWp (fun p=>.str p.1) (fun Q' h=>?_) (by omega) (fun p hp K1 k=>?_) ?_
 ·walk_at "px"
  exact⟨_,rfl,h⟩
 ·unfold dWp
  walk_at "px"
  exact⟨_,rfl,k⟩
 walk_at "px"
 refine⟨by simp only[List.length_append,List.length_map];omega,?_⟩
 walk_at "go"
 refine zaK c.bends dBp (fun p=>.str p.2) (fun Q' h=>?_) (by omega) (fun p hp K1 k=>?_) ?_
 ·walk_at "px"
  exact⟨_,rfl,h⟩
 ·unfold dBp
  walk_at "px"
  exact⟨_,rfl,k⟩
 walk_at "px"
 refine⟨by simp only[List.length_append,List.length_map];omega,?_⟩
 walk_at "go"
 have e:((((c.top++c.bottom).filterMap id).map D.str++(c.left.map D.str++c.right.map D.str))++c.wide.map fun p=>D.str p.1)++(c.bends.map fun p=>D.str p.2)=(zfN c).map .str:=by
  simp[zfN,Function.comp_def]
 rw[e]
 exact q
noncomputable def zbj:SpD:=fun ds Q=>∃(ps:List Str) (c:Chan),ds=[c.obj]∧AnyC2 ps c∧Q (.fz .non)
theorem zqe{k:Int}(h:k=2∨k=3):inD (.int k) [.int 2,.int 3]=true:=by
 rcases h with rfl | rfl<;>simp[inD,eqD]
theorem dem{b:Bool}{w:Str}{Q:R→Prop}(hb:b=true)(q:Q (.fz .non)):zat [.bl b,.str w] Q:=⟨w,by rw[hb],q⟩
theorem zmc{α:Type}[BEq α][LawfulBEq α]:∀{l m:List α},l.Nodup→(∀x∈l,x∈m)→l.length≤m.length
 | [],m,_,_=>by simp
 | a::l,m,nd,h=>by
  rw[List.nodup_cons] at nd
  have ha:a∈m:=h a (by simp)
  have:=zmc (l:=l) (m:=m.erase a) nd.2 fun x hx=>(List.mem_erase_of_ne (fun z:x=a=>nd.1 (by rw[←z];exact hx))).mpr (h x (by simp[hx]))
  rw[List.length_erase_of_mem ha] at this
  have:=List.length_pos_of_mem ha
  simp only[List.length_cons]
  omega
theorem znj{ps:List Str}{c:Chan}(hc:AnyC2 ps c):∀w∈zfN c,w∈ps:=fun w hw=>by
 simp only[zfN,List.mem_append,List.mem_filterMap,List.mem_map,id] at hw
 rcases hw with((⟨x,hx | hx,rfl⟩ | hx | hx) | ⟨p,hp,rfl⟩) | ⟨p,hp,rfl⟩
 ·exact hc.pt w hx
 ·exact hc.pb w hx
 ·exact hc.pL w hx
 ·exact hc.pR w hx
 ·exact hc.pW p hp
 ·exact hc.pE p hp
theorem zmd{c:Chan}(hc:AnyCh c):(zfN c).length<4000:=by
 have l1:=hc.tl
 have l2:=hc.bl
 have l3:=hc.ll
 have l4:=hc.rl
 have l5:=hc.wl
 have l6:=hc.el
 have fl:=List.length_filterMap_le id (c.top++c.bottom)
 simp only[zfN,List.length_append,List.length_map] at fl ⊢
 omega
noncomputable def zcl:TX:=(zaH (zb9 (zav 2 zat (zae (dOp oEq (dCB zgF (zae (zeX "top" (zag 0)) zao)) (dCB zgF (zae (zeX "bottom" (zag 0)) zao))) (zae (dC (.str "top and bottom have not as many words")) zao))))
 (zaH (zb9 (zav 2 zat (zae (zeL (oI0 fun i j=>.bl (decide (i≤j))) (oI0 fun i j=>.bl (decide (i≤j))) (dC (.int 1)) (dCB zgF (zae (zeX "top" (zag 0)) zao)) (dC (.int 40))) (zae (dC (.str "the columns are too few or too many")) zao))))
 (zaH (zb9 (zav 2 zat (zae (zav 1 za3 (zae (zeX "left" (zag 0)) zao)) (zae (dC (.str "the NAMEs of left are not rising")) zao))))
 (zaH (zb9 (zav 2 zat (zae (zav 1 za3 (zae (zeX "right" (zag 0)) zao)) (zae (dC (.str "the NAMEs of right are not rising")) zao))))
 (zaH (zb9 (zav 2 zat (zae (zav 1 za3 (zae (zaW (zcc (zeX "wide" (zag 0))) [none] (zau 0) zdb (dOp oIx (zag 0) (dC (.int 0)))) zao)) (zae (dC (.str "the NAMEs of wide are not rising")) zao))))
 (zaH (zb9 (zav 2 zat (zae (dCB zmm (zae (zaW (zcc (zeX "wide" (zag 0))) [none] (zau 0) zdb (dOp (zf8 false) (dOp oIx (zag 0) (dC (.int 1))) (ziN (zae (dC (.int 2)) (zae (dC (.int 3)) zao))))) zao)) (zae (dC (.str "a width is not 2 or 3")) zao))))
 (zaH (zb9 (zav 2 zat (zae (zav 1 za3 (zae (zaW (zcc (zeX "bends" (zag 0))) [none] (zau 0) zdb (dOp oIx (zag 0) (dC (.int 0)))) zao)) (zae (dC (.str "the columns of bends are not rising")) zao))))
 (zaH (zb9 (zav 2 zat (zae (dOp (oI0 fun i j=>.bl (decide (i≤j))) (dCB zgF (zae (zeX "keeps" (zag 0)) zao)) (dC (.int 8))) (zae (dC (.str "the keeps are too many")) zao))))
 (zb9 (zav 2 zat (zae (dOp (oI0 fun i j=>.bl (decide (i≤j))) (dCB zfd (zae (zav 1 zbU (zae (zag 0) zao)) zao)) (dC (.int 24))) (zae (dC (.str "the NAMEs are too many")) zao))))))))))))
theorem zer(ds:List D)(Qr:R→Prop)(hl:ds.length=1)(h:zbj ds Qr):zcl { nx:=fun _=>Qr (.fz .non),rt:=Qr } (zaF ["channel"] ds):=by
 obtain⟨ps,c,rfl,hc,q⟩:=h
 show zcl _ [.fz c.obj]
 unfold zcl
 have big:=zaE
 have l1:=hc.any.tl
 have l2:=hc.any.bl
 have l3:=hc.any.ll
 have l4:=hc.any.rl
 have l5:=hc.any.wl
 have l6:=hc.any.el
 have l7:=hc.any.kl
 have l8:=hc.k8
 have l9:=hc.t1
 have l0:=hc.tb
 unfold Chan.obj dP dS dW dB dK
 walk_at "px"
 refine⟨_,rfl,?_⟩
 dsimp only
 refine⟨_,rfl,?_⟩
 dsimp only
 refine dem (decide_eq_true (by simp only[List.length_map];omega)) ?_
 walk_at "go"
 refine⟨_,rfl,?_⟩
 dsimp only
 have t1:1≤((c.top.map dO).length:Int):=by simp only[List.length_map];omega
 have t2:((c.top.map dO).length:Int)≤40:=by simp only[List.length_map];omega
 simp only[t1,t2,decide_true,if_true]
 refine dem rfl ?_
 walk_at "go"
 refine⟨_,rfl,?_⟩
 refine .inl ⟨c.left,rfl,by omega,hc.lo,dem rfl ?_⟩
 walk_at "go"
 refine⟨_,rfl,?_⟩
 refine .inl ⟨c.right,rfl,by omega,hc.ro,dem rfl ?_⟩
 walk_at "go"
 refine zaK c.wide dWp (fun p=>.str p.1) (fun Q' h=>?_) (by omega) (fun p hp K1 k=>?_) ?_
 ·walk_at "px"
  exact⟨_,rfl,h⟩
 ·unfold dWp
  walk_at "px"
  exact⟨_,rfl,k⟩
 refine .inl ⟨c.wide.map (·.1),by unfold dS;rw[List.map_map];rfl,by rw[List.length_map];omega,hc.wo,dem rfl ?_⟩
 walk_at "go"
 refine zaK c.wide dWp (fun _=>.bl true) (fun Q' h=>?_) (by omega) (fun p hp K1 k=>?_) ?_
 ·walk_at "px"
  exact⟨_,rfl,h⟩
 ·unfold dWp
  walk_at "px"
  have e23:=zqe (hc.w23 p hp)
  refine⟨_,rfl,by omega,?_⟩
  rw[e23]
  refine⟨by rw[zcP];trivial,fun e he=>?_,k⟩
  simp only[List.mem_cons,List.not_mem_nil,or_false] at he
  rcases he with rfl | rfl<;>(rw[zcP];trivial)
 refine zfh _ (dem rfl ?_)
 walk_at "go"
 refine zaK c.bends dBp (fun p=>.int p.1) (fun Q' h=>?_) (by omega) (fun p hp K1 k=>?_) ?_
 ·walk_at "px"
  exact⟨_,rfl,h⟩
 ·unfold dBp
  walk_at "px"
  exact⟨_,rfl,k⟩
 refine .inr ⟨c.bends.map (·.1),by unfold dI;rw[List.map_map];rfl,by rw[List.length_map];omega,hc.eo,dem rfl ?_⟩
 walk_at "go"
 refine⟨_,rfl,?_⟩
 dsimp only
 refine dem (decide_eq_true (by simp only[List.length_map];omega)) ?_
 walk_at "go"
 refine⟨c,rfl,hc.any,?_⟩
 walk_at "px"
 refine⟨zmd hc.any,fun l nd hm=>dem (decide_eq_true ?_) q⟩
 have h1:=zmc nd fun x hx=>znj hc x ((hm x).mp hx)
 have h2:=hc.pl
 omega
end Wc
namespace Wc
open PySem L2 PyProof.Rows
noncomputable def Chan.own(c:Chan):List (Str×List D):=[("top",c.top.map dO),("bottom",c.bottom.map dO),("left",c.left.map .str),("right",c.right.map .str),("wide",c.wide.map dWp),("bends",c.bends.map dBp),("keeps",c.keeps.map dKp)]
noncomputable def zcu:SpD:=fun ds Q=>∃c:Chan,ds=c.parts∧Q (.ov (.ob "Channel" c.own))
noncomputable def zdU:TIO:=(zg9 "top" (dCB zdK (zae (zag 1) zao)) (zg9 "bottom" (dCB zdK (zae (zag 2) zao)) (zg9 "left" (dCB zdK (zae (zag 3) zao)) (zg9 "right" (dCB zdK (zae (zag 4) zao)) (zg9 "wide" (dCB zdK (zae (zag 5) zao)) (zg9 "bends" (dCB zdK (zae (zag 6) zao)) (zg9 "keeps" (dCB zdK (zae (zag 7) zao)) zoJ)))))))
theorem zio(ds:List D)(Qr:R→Prop)(NA:List (Str×List D)→Prop)(na:∀fs:List (Str×List D),fs.map (·.1)=(["top","bottom","left","right","wide","bends","keeps"]:List Str)→NA fs)(h:zcu ds Qr) :
  zdU (zeO ["self","top","bottom","left","right","wide","bends","keeps"] ds) [] fun fs=>NA fs∧Qr (.ov (.ob "Channel" fs)):=by
 obtain⟨c,rfl,q⟩:=h
 show zdU [.un,.fz (dP c.top),.fz (dP c.bottom),.fz (dS c.left),.fz (dS c.right),.fz (dW c.wide),.fz (dB c.bends),.fz (dK c.keeps)] [] _
 unfold zdU dP dS dW dB dK
 simp only[zg9,zoJ,dCB,zae,zao,zag,gt,zdK,zhW,zgG]
 exact⟨show 0<1000 by decide,show Str.ofString "top"∉([]:List Str) by decide +kernel,show 1<1000 by decide,show Str.ofString "bottom"∉(["top"]:List Str) by decide +kernel,show 2<1000 by decide,show Str.ofString "left"∉(["top","bottom"]:List Str) by decide +kernel,show 3<1000 by decide,show Str.ofString "right"∉(["top","bottom","left"]:List Str) by decide +kernel,show 4<1000 by decide,show Str.ofString "wide"∉(["top","bottom","left","right"]:List Str) by decide +kernel,show 5<1000 by decide,show Str.ofString "bends"∉(["top","bottom","left","right","wide"]:List Str) by decide +kernel,show 6<1000 by decide,show Str.ofString "keeps"∉(["top","bottom","left","right","wide","bends"]:List Str) by decide +kernel,na _ rfl,q⟩
noncomputable def za1:SpD:=fun ds Q=>∃(t:Str) (ps:List Str) (c:Chan),ds=[.str t]∧t.length≤1000000∧zeR t=zaQ c∧AnyC2 ps c∧Q (.ov (.ob "Channel" c.own))
theorem zme{c:Chan}(h:AnyCh c):(zaQ c).length≤100:=(zhl h).1
theorem znk(c:Chan):(zaQ c).map (fun ws=>ws.headD "")=zba c.wide.length c.bends.length c.keeps.length:=by
 simp[zaQ,zba,List.map_const',Function.comp_def]
theorem zhr{ws:List Str}(h:ws≠[]):atI ws 0=some (ws.headD ""):=by
 cases ws with
 | nil=>exact absurd rfl h
 | cons a r=>simp[zne]
theorem zdV(c:Chan):∀ws∈zaQ c,ws≠[]:=by
 intro ws h
 simp only[zaQ,List.mem_cons,List.mem_append,List.mem_map] at h
 rcases h with rfl | rfl | rfl | rfl | (⟨p,_,rfl⟩ | ⟨p,_,rfl⟩) | ⟨p,_,rfl⟩<;>simp
theorem zmf{α:Type}(l:List α)(u:α→List Str)(f:List Str→Option D)(g:α→D)(h:∀x∈l,f (u x)=some (g x)):(l.map u).filterMap f=l.map g:=by
 induction l with
 | nil=>rfl
 | cons a r ih=>rw[List.map_cons,List.filterMap_cons,h a (by simp),ih fun x hx=>h x (by simp[hx])];rfl
theorem zes{α:Type}(l:List α)(u:α→List Str)(f:List Str→Option D)(h:∀x∈l,f (u x)=none):(l.map u).filterMap f=[]:=by
 induction l with
 | nil=>rfl
 | cons a r ih=>rw[List.map_cons,List.filterMap_cons,h a (by simp),ih fun x hx=>h x (by simp[hx])]
noncomputable def fH(h:Str)(g:List Str→D)(ws:List Str):Option D:=if ws.headD ""=h then some (g ws) else none
noncomputable def rdN(ws:List Str)(k:Nat):D:=.int ((PySem.intText? (ws.getD k "")).getD 0)
noncomputable def rdW(ws:List Str):D:=.tup [.str (ws.getD 1 ""),rdN ws 2]
noncomputable def rdB(ws:List Str):D:=.tup [rdN ws 1,.str (ws.getD 2 "")]
noncomputable def rdK(ws:List Str):D:=.tup [rdN ws 1,rdN ws 2,rdN ws 3]
theorem znV(p:Str×Int)(h:In100 p.2):rdW ["wide",p.1,zby p.2]=dWp p:=by simp[rdW,rdN,zep _ h,dWp]
theorem znW(p:Int×Str)(h:In100 p.1):rdB ["bend",zby p.1,p.2]=dBp p:=by simp[rdB,rdN,zep _ h,dBp]
theorem znX(p:Int×Int×Int)(h:In100 p.1)(h2:In100 p.2.1)(h3:In100 p.2.2):rdK ["keep",zby p.1,zby p.2.1,zby p.2.2]=dKp p:=by simp[rdK,rdN,zep _ h,zep _ h2,zep _ h3,dKp]
theorem zcG{a h:Str}{g:List Str→D}{l:List Str}(hn:a≠h):fH h g (a::l)=none:=if_neg hn
theorem zks{h:Str}{g:List Str→D}{l:List Str}:fH h g (h::l)=some (g (h::l)):=if_pos rfl
theorem fmW{c:Chan}(hc:AnyCh c):(zaQ c).filterMap (fH "wide" rdW)=c.wide.map dWp:=by
 unfold zaQ
 rw[List.filterMap_cons,zcG (by decide +kernel),List.filterMap_cons,zcG (by decide +kernel),List.filterMap_cons,zcG (by decide +kernel),List.filterMap_cons,zcG (by decide +kernel)]
 dsimp only
 rw[List.filterMap_append,List.filterMap_append,zmf c.wide _ _ dWp fun p hp=>by rw[zks,znV p (hc.ws p hp).2],zes c.bends _ _ fun p _=>zcG (by decide +kernel),zes c.keeps _ _ fun p _=>zcG (by decide +kernel),List.append_nil,List.append_nil]
theorem fmB{c:Chan}(hc:AnyCh c):(zaQ c).filterMap (fH "bend" rdB)=c.bends.map dBp:=by
 unfold zaQ
 rw[List.filterMap_cons,zcG (by decide +kernel),List.filterMap_cons,zcG (by decide +kernel),List.filterMap_cons,zcG (by decide +kernel),List.filterMap_cons,zcG (by decide +kernel)]
 dsimp only
 rw[List.filterMap_append,List.filterMap_append,zes c.wide _ _ fun p _=>zcG (by decide +kernel),zmf c.bends _ _ dBp fun p hp=>by rw[zks,znW p (hc.es p hp).1],zes c.keeps _ _ fun p _=>zcG (by decide +kernel),List.append_nil,List.nil_append]
theorem fmK{c:Chan}(hc:AnyCh c):(zaQ c).filterMap (fH "keep" rdK)=c.keeps.map dKp:=by
 unfold zaQ
 rw[List.filterMap_cons,zcG (by decide +kernel),List.filterMap_cons,zcG (by decide +kernel),List.filterMap_cons,zcG (by decide +kernel),List.filterMap_cons,zcG (by decide +kernel)]
 dsimp only
 rw[List.filterMap_append,List.filterMap_append,zes c.wide _ _ fun p _=>zcG (by decide +kernel),zes c.bends _ _ fun p _=>zcG (by decide +kernel),zmf c.keeps _ _ dKp fun p hp=>by rw[zks,znX p (hc.ks p hp).1 (hc.ks p hp).2.1 (hc.ks p hp).2.2],List.append_nil,List.nil_append]
theorem zi4{c:Chan}{ws:List Str}(h:ws∈zaQ c):(ws.headD ""="wide"→∃p∈c.wide,ws=([Str.ofString "wide",p.1,zby p.2]:List Str))∧(ws.headD ""="bend"→∃p∈c.bends,ws=([Str.ofString "bend",zby p.1,p.2]:List Str))∧(ws.headD ""="keep"→∃p∈c.keeps,ws=([Str.ofString "keep",zby p.1,zby p.2.1,zby p.2.2]:List Str)):=by
 have no:∀(a b:String) {l:List Str} {P:Prop},Str.ofString a≠Str.ofString b→((Str.ofString a::l).headD ""=Str.ofString b)→P:=fun a b _ _ h e=>absurd e h
 simp only[zaQ,List.mem_cons,List.mem_append,List.mem_map] at h
 rcases h with rfl | rfl | rfl | rfl | (⟨p,hp,rfl⟩ | ⟨p,hp,rfl⟩) | ⟨p,hp,rfl⟩
 ·exact⟨no "top" "wide" (by decide +kernel),no "top" "bend" (by decide +kernel),no "top" "keep" (by decide +kernel)⟩
 ·exact⟨no "bottom" "wide" (by decide +kernel),no "bottom" "bend" (by decide +kernel),no "bottom" "keep" (by decide +kernel)⟩
 ·exact⟨no "left" "wide" (by decide +kernel),no "left" "bend" (by decide +kernel),no "left" "keep" (by decide +kernel)⟩
 ·exact⟨no "right" "wide" (by decide +kernel),no "right" "bend" (by decide +kernel),no "right" "keep" (by decide +kernel)⟩
 ·exact⟨fun _=>⟨p,hp,rfl⟩,no "wide" "bend" (by decide +kernel),no "wide" "keep" (by decide +kernel)⟩
 ·exact⟨no "bend" "wide" (by decide +kernel),fun _=>⟨p,hp,rfl⟩,no "bend" "keep" (by decide +kernel)⟩
 ·exact⟨no "keep" "wide" (by decide +kernel),no "keep" "bend" (by decide +kernel),fun _=>⟨p,hp,rfl⟩⟩
theorem at4(a b c' d:List Str)(r:List (List Str)):atI (a::b::c'::d::r) 0=some a∧atI (a::b::c'::d::r) 1=some b∧atI (a::b::c'::d::r) 2=some c'∧atI (a::b::c'::d::r) 3=some d:=
 ⟨zbt (j:=0) (by simp),zbt (j:=1) (by simp),zbt (j:=2) (by simp),zbt (j:=3) (by simp)⟩
noncomputable def zcm:TX:=(zaH (zaR 1 (zav 1 zb4 (zae (zag 0) zao)))
 (zaH (zb9 (zav 1 zbi (zae (zaW (zcc (zag 1)) [none] (zau 0) zdb (dOp oIx (zag 0) (dC (.int 0)))) zao)))
 (zaH (zdF 2 (zav 7 zcu (zae (zav 1 zbx (zae (dSl (dOp oIx (zag 1) (dC (.int 0))) (zbu (dC (.int 1))) oNo) zao)) (zae (zav 1 zbx (zae (dSl (dOp oIx (zag 1) (dC (.int 1))) (zbu (dC (.int 1))) oNo) zao)) (zae (zav 1 zbm (zae (dSl (dOp oIx (zag 1) (dC (.int 2))) (zbu (dC (.int 1))) oNo) zao)) (zae (zav 1 zbm (zae (dSl (dOp oIx (zag 1) (dC (.int 3))) (zbu (dC (.int 1))) oNo) zao)) (zae (zaW (zcc (zag 1)) [none] (zau 0) (zbL (dOp oEq (dOp oIx (zag 0) (dC (.int 0))) (dC (.str "wide")))) (zav 1 zbR (zae (zag 0) zao))) (zae (zaW (zcc (zag 1)) [none] (zau 0) (zbL (dOp oEq (dOp oIx (zag 0) (dC (.int 0))) (dC (.str "bend")))) (zav 1 zbS (zae (zag 0) zao))) (zae (zaW (zcc (zag 1)) [none] (zau 0) (zbL (dOp oEq (dOp oIx (zag 0) (dC (.int 0))) (dC (.str "keep")))) (zav 1 zbT (zae (zag 0) zao))) zao)))))))))
 (zaH (zb9 (zg3 2 (zav 1 zbj (zae (zag 2) zao))))
 (zkf 2)))))
theorem zet(ds:List D)(Qr:R→Prop)(hl:ds.length=1)(h:za1 ds Qr):zcm { nx:=fun _=>Qr (.fz .non),rt:=Qr } (zaF ["text","lines","channel"] ds):=by
 obtain⟨t,ps,c,rfl,ht,hlc,hc,q⟩:=h
 show zcm _ [.fz (.str t),.un,.un]
 unfold zcm
 have big:=zaE
 have ll:=zme hc.any
 walk_at "px"
 refine⟨t,rfl,ht,?_⟩
 rw[hlc]
 walk_at "go"
 refine zaK (zaQ c) dS (fun ws=>.str (ws.headD "")) (fun Q' h=>?_) (by omega) (fun ws hw K1 k=>?_) ?_
 ·walk_at "px"
  exact h
 ·unfold dS
  walk_at "px"
  exact⟨_,zhr (zdV c ws hw),k⟩
 refine⟨c.wide.length,c.bends.length,c.keeps.length,?_,by have:=hc.any.wl;omega,by have:=hc.any.el;omega,by have:=hc.k8;omega,?_⟩
 ·show [D.lst _]=[dS _]
  rw[←znk]
  unfold dS
  rw[List.map_map]
  rfl
 walk_at "go"
 obtain⟨a0,a1,a2,a3⟩:=at4 ("top"::c.top.map pinS) ("bottom"::c.bottom.map pinS) ("left"::c.left) ("right"::c.right) (c.wide.map (fun p=>(["wide",p.1,zby p.2]:List Str))++c.bends.map (fun p=>(["bend",zby p.1,p.2]:List Str))++c.keeps.map (fun p=>(["keep",zby p.1,zby p.2.1,zby p.2.2]:List Str)))
 have l1:=hc.any.tl
 have l2:=hc.any.bl
 have l3:=hc.any.ll
 have l4:=hc.any.rl
 have nt:∀w,some w∈c.top→IsNm w:=fun w hw=>hc.pn w (hc.pt w hw)
 have nb:∀w,some w∈c.bottom→IsNm w:=fun w hw=>hc.pn w (hc.pb w hw)
 have nl:∀w∈c.left,IsNm w:=fun w hw=>hc.pn w (hc.pL w hw)
 have nr:∀w∈c.right,IsNm w:=fun w hw=>hc.pn w (hc.pR w hw)
 have cut1:∀(a:Str) (l:List Str),D.lst (zdh ((a::l).map D.str) (some 1) none)=dS l:=fun a l=>by rw[zcO _ (by decide)];rfl
 refine⟨_,a0,?_⟩
 unfold dS
 dsimp only
 rw[cut1]
 refine⟨c.top,rfl,by omega,nt,?_⟩
 refine⟨_,a1,?_⟩
 rw[cut1]
 refine⟨c.bottom,rfl,by omega,nb,?_⟩
 refine⟨_,a2,?_⟩
 rw[cut1]
 refine⟨c.left,rfl,by omega,nl,?_⟩
 refine⟨_,a3,?_⟩
 rw[cut1]
 refine⟨c.right,rfl,by omega,nr,?_⟩
 clear a0 a1 a2 a3
 refine zfr (zaQ c) dS (fH "wide" rdW) (fun Q' h=>?_) (by omega) (fun ws hw K1 K0 k1 k0=>?_) ?_
 ·walk_at "px"
  exact h
 ·have hd:=zhr (zdV c ws hw)
  unfold dS
  walk_at "px"
  refine⟨_,hd,?_⟩
  by_cases hh:ws.headD ""=Str.ofString "wide"
  ·obtain⟨p,hp,rfl⟩:=(zi4 hw).1 hh
   rw[if_pos hh]
   refine⟨p,rfl,hc.pn _ (hc.pW p hp),(hc.any.ws p hp).2,?_⟩
   exact k1 _ (by rw[zks,znV p (hc.any.ws p hp).2];rfl)
  ·rw[if_neg hh]
   exact k0 (if_neg hh)
 rw[fmW hc.any]
 refine zfr (zaQ c) dS (fH "bend" rdB) (fun Q' h=>?_) (by omega) (fun ws hw K1 K0 k1 k0=>?_) ?_
 ·walk_at "px"
  exact h
 ·have hd:=zhr (zdV c ws hw)
  unfold dS
  walk_at "px"
  refine⟨_,hd,?_⟩
  by_cases hh:ws.headD ""=Str.ofString "bend"
  ·obtain⟨p,hp,rfl⟩:=(zi4 hw).2.1 hh
   rw[if_pos hh]
   refine⟨p,rfl,hc.pn _ (hc.pE p hp),(hc.any.es p hp).1,?_⟩
   exact k1 _ (by rw[zks,znW p (hc.any.es p hp).1];rfl)
  ·rw[if_neg hh]
   exact k0 (if_neg hh)
 rw[fmB hc.any]
 refine zfr (zaQ c) dS (fH "keep" rdK) (fun Q' h=>?_) (by omega) (fun ws hw K1 K0 k1 k0=>?_) ?_
 ·walk_at "px"
  exact h
 ·have hd:=zhr (zdV c ws hw)
  unfold dS
  walk_at "px"
  refine⟨_,hd,?_⟩
  by_cases hh:ws.headD ""=Str.ofString "keep"
  ·obtain⟨p,hp,rfl⟩:=(zi4 hw).2.2 hh
   rw[if_pos hh]
   refine⟨p,rfl,(hc.any.ks p hp).1,(hc.any.ks p hp).2.1,(hc.any.ks p hp).2.2,?_⟩
   exact k1 _ (by rw[zks,znX p (hc.any.ks p hp).1 (hc.any.ks p hp).2.1 (hc.any.ks p hp).2.2];rfl)
  ·rw[if_neg hh]
   exact k0 (if_neg hh)
 rw[fmK hc.any]
 refine⟨c,rfl,?_⟩
 walk_at "go"
 refine⟨ps,c,rfl,hc,rfl,?_⟩
 walk_at "go"
 exact q
end Wc
namespace Wc
open PySem L2 PyProof.Rows
noncomputable def zcv:Nat→D→Prop
 | 0,_=>False
 | n+1,.lst ds=>ds.length≤100000∧∀d∈ds,zcv n d
 | n+1,.tup ds=>ds.length≤100000∧∀d∈ds,zcv n d
 | _+1,.int _=>True
 | _+1,.str _=>True
 | _+1,.non=>True
 | _+1,_=>False
noncomputable def zaC:Nat→SpD
 | 0=>fun _ _=>False
 | n+1=>fun ds Q=>∃d,ds=[d]∧zcv (n+1) d∧Q (.fz (.bl true))
noncomputable def zaT:SpD:=zaC 6
noncomputable def zce(zaT:SpD):TX:=(zaH (xIf (zbL (zoC "list" "tuple" (zag 0))) (zcK (dCB zmm (zae (zaW (zcc (zag 0)) [none] (zau 0) zdb (zav 1 zaT (zae (zag 0) zao))) zao))) zeT)
 (zcK (dOr (dOp (zk5 false) (zag 0) (dC .non)) (dOr (zou "str" (zag 0)) (zqr (zou "int" (zag 0)) (zqq (zou "bool" (zag 0))))))))
theorem zqf:zbX (tyD .non) "list"=false:=by show zbX "NoneType" "list"=false;decide
theorem zqg:zbX (tyD .non) "tuple"=false:=by show zbX "NoneType" "tuple"=false;decide
theorem zqh(i:Int):zbX (tyD (.int i)) "str"=false:=by show zbX "int" "str"=false;decide
theorem zqi(i:Int):zbX (tyD (.int i)) "list"=false:=by show zbX "int" "list"=false;decide
theorem zqj(i:Int):zbX (tyD (.int i)) "tuple"=false:=by show zbX "int" "tuple"=false;decide
theorem zqk(i:Str):zbX (tyD (.str i)) "tuple"=false:=by show zbX "str" "tuple"=false;decide
theorem za2(j:Nat)(ds:List D)(Qr:R→Prop)(hl:ds.length=1)(h:zaC (j+1) ds Qr):zce (zaC j) { nx:=fun _=>Qr (.fz .non),rt:=Qr } (zaF ["_law_thing"] ds):=by
 obtain⟨d,rfl,hd,q⟩:=h
 show zce _ _ [.fz d]
 unfold zce
 have big:=zaE
 have go:∀(es:List D),es.length≤100000→(∀e∈es,zcv j e)→(d=.lst es∨d=.tup es)→zaW (zcc (zag 0)) [none] (zau 0) zdb (zav 1 (zaC j) (zae (zag 0) zao)) [.fz d] fun r=>zmm [r.val] Qr:=fun es h1 h2 h3=>by
  refine zaK es id (fun _=>.bl true) (fun Q' h=>?_) (by omega) (fun e he K1 k=>?_) (zfh es q)
  ·rw[List.map_id] at h
   rcases h3 with rfl | rfl<;>exact h
  ·walk_at "px"
   have h4:=h2 e he
   cases j with
   | zero=>exact h4.elim
   | succ j=>exact⟨e,rfl,h4,k⟩
 cases d with
 | lst es=>
  obtain⟨h1,h2⟩:=hd
  walk_at "px"
  refine⟨rfl,?_⟩
  have hc:(zbX (tyD (.lst es)) "list"||zbX (tyD (.lst es)) "tuple")=true:=by rw[zpW];rfl
  exact Eq.mpr (if_pos hc) (go es h1 h2 (.inl rfl))
 | tup es=>
  obtain⟨h1,h2⟩:=hd
  walk_at "px"
  refine⟨rfl,?_⟩
  have hc:(zbX (tyD (.tup es)) "list"||zbX (tyD (.tup es)) "tuple")=true:=by rw[zpU,zpV];rfl
  exact Eq.mpr (if_pos hc) (go es h1 h2 (.inr rfl))
 | int i=>
  walk_at "px"
  refine⟨rfl,?_⟩
  have hc:¬(zbX (tyD (.int i)) "list"||zbX (tyD (.int i)) "tuple")=true:=by rw[zqi,zqj];decide
  refine Eq.mpr (if_neg hc) ?_
  walk_at "go"
  refine⟨rfl,Eq.mpr (if_neg (by rw[zqh];decide)) ⟨rfl,Eq.mpr (if_pos (zpY i)) ⟨rfl,?_⟩⟩⟩
  rw[zpX]
  exact q
 | str x=>
  walk_at "px"
  refine⟨rfl,?_⟩
  have hc:¬(zbX (tyD (.str x)) "list"||zbX (tyD (.str x)) "tuple")=true:=by rw[zp0,zqk];decide
  refine Eq.mpr (if_neg hc) ?_
  walk_at "go"
  exact⟨rfl,Eq.mpr (if_pos (zpZ x)) q⟩
 | non=>
  walk_at "px"
  refine⟨rfl,?_⟩
  have hc:¬(zbX (tyD .non) "list"||zbX (tyD .non) "tuple")=true:=by rw[zqf,zqg];decide
  refine Eq.mpr (if_neg hc) ?_
  walk_at "go"
  exact q
 | bl b=>exact hd.elim
 | obj _ _=>exact hd.elim
 | dic _=>exact hd.elim
 | dit _=>exact hd.elim
theorem zjR(n:Nat)(x:Option Str):zcv (n+1) (dO x):=by cases x<;>exact trivial
theorem zb6{α:Type}(n:Nat)(l:List α)(f:α→D)(hl:l.length≤100000)(h:∀x∈l,zcv n (f x)):zcv (n+1) (.lst (l.map f)):=⟨by rw[List.length_map];exact hl,fun d hd=>by
 obtain⟨x,hx,rfl⟩:=List.mem_map.mp hd
 exact h x hx⟩
theorem znl(p:Str×Int):zcv 2 (dWp p):=⟨by show 2≤100000;decide,fun d hd=>by
 simp only[List.mem_cons,List.not_mem_nil,or_false] at hd
 rcases hd with rfl | rfl<;>exact trivial⟩
theorem znm(p:Int×Str):zcv 2 (dBp p):=⟨by show 2≤100000;decide,fun d hd=>by
 simp only[List.mem_cons,List.not_mem_nil,or_false] at hd
 rcases hd with rfl | rfl<;>exact trivial⟩
theorem znn(p:Int×Int×Int):zcv 2 (dKp p):=⟨by show 3≤100000;decide,fun d hd=>by
 simp only[List.mem_cons,List.not_mem_nil,or_false] at hd
 rcases hd with rfl | rfl | rfl<;>exact trivial⟩
theorem zfi:∀(n:Nat) (d:D),zcv n d→zcv (n+1) d
 | 0,_,h=>h.elim
 | n+1,.lst ds,h=>⟨h.1,fun d hd=>zfi n d (h.2 d hd)⟩
 | n+1,.tup ds,h=>⟨h.1,fun d hd=>zfi n d (h.2 d hd)⟩
 | n+1,.int _,_=>trivial
 | n+1,.str _,_=>trivial
 | n+1,.non,_=>trivial
 | n+1,.bl _,h=>h.elim
 | n+1,.obj _ _,h=>h.elim
 | n+1,.dic _,h=>h.elim
 | n+1,.dit _,h=>h.elim
theorem zi5{c:Chan}(h:AnyCh c):zcv 6 (.lst c.parts):=by
 refine zfi 5 _ (zfi 4 _ ⟨by show 7≤100000;decide,fun d hd=>?_⟩)
 have l1:=h.tl
 have l2:=h.bl
 have l3:=h.ll
 have l4:=h.rl
 have l5:=h.wl
 have l6:=h.el
 have l7:=h.kl
 simp only[Chan.parts,List.mem_cons,List.not_mem_nil,or_false] at hd
 rcases hd with rfl | rfl | rfl | rfl | rfl | rfl | rfl
 ·exact zb6 2 _ _ (by omega) fun x _=>zjR 1 x
 ·exact zb6 2 _ _ (by omega) fun x _=>zjR 1 x
 ·exact zb6 2 _ _ (by omega) fun x _=>trivial
 ·exact zb6 2 _ _ (by omega) fun x _=>trivial
 ·exact zb6 2 _ _ (by omega) fun x _=>znl x
 ·exact zb6 2 _ _ (by omega) fun x _=>znm x
 ·exact zb6 2 _ _ (by omega) fun x _=>znn x
noncomputable def zbk:SpD:=fun ds Q=>∃c:Chan,ds=[c.obj]∧Q (.ow c.parts)
noncomputable def zdw:TX:=(zaH (zaR 1 (zcI (zae (zeX "top" (zag 0)) (zae (zeX "bottom" (zag 0)) (zae (zeX "left" (zag 0)) (zae (zeX "right" (zag 0)) (zae (zeX "wide" (zag 0)) (zae (zeX "bends" (zag 0)) zao))))))))
 (zcK (dOp zbs (zag 1) (zcI (zae (zeX "keeps" (zag 0)) zao)))))
theorem zgn(ds:List D)(Qr:R→Prop)(hl:ds.length=1)(h:zbk ds Qr):zdw { nx:=fun _=>Qr (.fz .non),rt:=Qr } (zaF ["_law_channel_here","_law_told_here"] ds):=by
 obtain⟨c,rfl,q⟩:=h
 show zdw _ [.fz c.obj,.un]
 unfold zdw Chan.obj
 have big:=zaE
 walk_at "px"
 refine⟨_,rfl,_,rfl,_,rfl,_,rfl,_,rfl,_,rfl,by omega,?_⟩
 walk_at "go"
 exact⟨_,rfl,by omega,by omega,q⟩
end Wc
namespace Wc
open PySem L2 PyProof.Rows
theorem zmg{w:Str}(h:IsNm w):WdS w:=by
 refine⟨fun z=>?_,fun z=>?_,fun z=>?_⟩
 ·have:=zii w
  rw[z] at this
  have:=h.1.1
  simp at *
  omega
 ·have:=h.2 32 z;omega
 ·have:=h.2 10 z;omega
theorem zno{ps:List Str}{c:Chan}(hc:AnyC2 ps c):∀l∈zaQ c,zqb l:=by
 intro l hl
 refine⟨(zhl hc.any).2 l hl,zdV c l hl,?_⟩
 have hp:∀(m:List (Option Str)),Pool ps m→∀x∈m,WdS (pinS x):=fun m hm x hx=>by
  cases x with
  | none=>exact(by decide +kernel:(Str.ofString ".").cps.toList≠[]∧32∉(Str.ofString ".").cps.toList∧10∉(Str.ofString ".").cps.toList)
  | some w=>exact zmg (hc.pn w (hm w hx))
 have hh:∀s:String,((Str.ofString s).cps.toList≠[]∧32∉(Str.ofString s).cps.toList∧10∉(Str.ofString s).cps.toList)→WdS (Str.ofString s):=fun s h=>h
 have w1:=hh "top" (by decide +kernel)
 have w2:=hh "bottom" (by decide +kernel)
 have w3:=hh "left" (by decide +kernel)
 have w4:=hh "right" (by decide +kernel)
 have w5:=hh "wide" (by decide +kernel)
 have w6:=hh "bend" (by decide +kernel)
 have w7:=hh "keep" (by decide +kernel)
 have nn:∀i,In100 i→WdS (zby i):=fun i h=>(zin i h).2.2.2.2
 simp only[zaQ,List.mem_cons,List.mem_append,List.mem_map] at hl
 rcases hl with rfl | rfl | rfl | rfl | (⟨p,hpm,rfl⟩ | ⟨p,hpm,rfl⟩) | ⟨p,hpm,rfl⟩<;>intro w hw
 ·rcases List.mem_cons.mp hw with rfl | hw
  ·exact w1
  ·obtain⟨x,hx,rfl⟩:=List.mem_map.mp hw
   exact hp _ hc.pt x hx
 ·rcases List.mem_cons.mp hw with rfl | hw
  ·exact w2
  ·obtain⟨x,hx,rfl⟩:=List.mem_map.mp hw
   exact hp _ hc.pb x hx
 ·rcases List.mem_cons.mp hw with rfl | hw
  ·exact w3
  ·exact zmg (hc.pn w (hc.pL w hw))
 ·rcases List.mem_cons.mp hw with rfl | hw
  ·exact w4
  ·exact zmg (hc.pn w (hc.pR w hw))
 ·simp only[List.mem_cons,List.not_mem_nil,or_false] at hw
  rcases hw with rfl | rfl | rfl
  ·exact w5
  ·exact zmg (hc.pn _ (hc.pW p hpm))
  ·exact nn _ (hc.any.ws p hpm).2
 ·simp only[List.mem_cons,List.not_mem_nil,or_false] at hw
  rcases hw with rfl | rfl | rfl
  ·exact w6
  ·exact nn _ (hc.any.es p hpm).1
  ·exact zmg (hc.pn _ (hc.pE p hpm))
 ·simp only[List.mem_cons,List.not_mem_nil,or_false] at hw
  have:=hc.any.ks p hpm
  rcases hw with rfl | rfl | rfl | rfl
  ·exact w7
  ·exact nn _ this.1
  ·exact nn _ this.2.1
  ·exact nn _ this.2.2
theorem znp(l:List Str):cp (Txt.join (Str.ofString "") l)=(l.map cp).flatten:=by
 cases l with
 | nil=>decide +kernel
 | cons a r=>
  have e:(Str.ofString "").cps.toList=[]:=by decide +kernel
  unfold cp
  rw[zhj,e]
  simp
theorem zgQ:∀(ls:List (List Str)),(∀l∈ls,zqb l)→zbg ((ls.map fun ws=>cp (Txt.join " " ws++"\n")).flatten)=ls.map (·.map cp)
 | [],_=>rfl
 | l::r,h=>by
  have hl:=h l (by simp)
  have hw:∀w∈l.map cp,Wd w:=fun w hw=>by
   obtain⟨s,hs,rfl⟩:=List.mem_map.mp hw
   exact hl.2.2 s hs
  have e:cp (Txt.join (Str.ofString " ") l)=zej 32 (l.map cp):=by rw[zfg];exact zfE 32 l
  rw[List.map_cons,List.flatten_cons,zdR,zgO,e,List.append_assoc,List.singleton_append,zbK,zfG (zih _ hw) (by rw[zek _ hw];simpa using hl.2.1),zek _ hw,zgQ r fun x hx=>h x (by simp[hx])]
  rfl
theorem zi6{ls:List (List Str)}(h:∀l∈ls,zqb l):zbg (cp (zi0 ls))=ls.map (·.map cp):=by
 unfold zi0
 rw[znp,List.map_map]
 exact zgQ ls h
theorem zmh{ls:List (List Str)}(h1:ls.length≤100)(h:∀l∈ls,zqb l):(zi0 ls).length≤400000:=by
 have h2:=zjL (Str.ofString "") (ls.map fun ws=>Txt.join " " ws++"\n")
 have h3:=zi1 (l:=ls.map fun ws=>Txt.join " " ws++"\n") (B:=351) fun w hw=>by
  obtain⟨l,hl,rfl⟩:=List.mem_map.mp hw
  exact zhk (h l hl).1
 have e:(Str.ofString "").length=0:=by decide +kernel
 rw[e] at h2
 rw[List.length_map] at h3
 unfold zi0
 omega
theorem zjS{t:Str}{ls:List (List Str)}(h:zbg (cp t)=ls.map (·.map cp)):zeR t=ls:=zfH (by rw[zl6,h])
noncomputable def zmi:TX:=(zaH (zaR 1 (zav 1 zb2 (zae (zag 0) zao)))
 (zaH (zaR 2 (zav 1 zbF (zae (zag 1) zao)))
 (zaH (zaR 3 (dOp (oI (fun _ j=>0<j) fun i j=>.int (i%j)) (dOp (oI CMul fun i j=>.int (i*j)) (dOp zbs (dOp (oI (fun _ j=>0<j) fun i j=>.int (i%j)) (dCB zmn (zae (dSl (zag 0) oNo (zbu (dC (.int 1)))) zao)) (dOp (oI zkv fun i j=>.int (i ^ j.toNat)) (dC (.int 10)) (dC (.int 30)))) (dC (.int 3))) (dC (.int 48271))) (dC (.int 2147483647))))
 (zaH (zgD (zcc (zcI (zae (zav 1 zbQ (zae (zag 2) zao)) (zae (zav 2 zbG (zae (zag 2) (zae (zag 3) zao))) zao)))) (zau 4) (zaH (zdF 5 (zav 1 za1 (zae (zag 4) zao)))
 (zaH (xIf (zlw 5 (bOr (zoV (zbL (zav 1 zaT (zae (zav 1 zbk (zae (zag 5) zao)) zao)))) (zbL (dOp oNe (zav 1 zbk (zae (zag 5) zao)) (zag 1))))) (zcK (dC (.bl false))) zeT)
 (zaH (zdO 5 6 ["top","bottom","left","right","wide","bends","keeps"])
 (xIf (zbL (dOp oNe (zav 1 zbk (zae (zav 1 za1 (zae (zag 4) zao)) zao)) (zag 1))) (zcK (dC (.bl false))) zeT)))))
 (zcK (dC (.bl true)))))))
theorem znq(ds:List D)(Qr:R→Prop)(hl:ds.length=1)(h:zov 63 ds Qr):zmi { nx:=fun _=>Qr (.fz .non),rt:=Qr } (zaF ["_law_script","_law_lists","_law_lines_here","_law_seed","_law_text_here","_law_channel_here","_law_part"] ds):=by
 obtain⟨ns,rfl,hn,q⟩:=h
 show zmi _ [.fz (dI ns),.un,.un,.un,.un,.un,.un]
 unfold zmi
 have big:=zaE
 walk_at "px"
 refine⟨ns,rfl,by omega,fun ps c hc=>?_⟩
 change zkn _ _ [.fz (dI ns),.fz (.lst c.parts),.un,.un,.un,.un,.un]
 have ok:=zhl hc.any
 have lo:=zno hc
 have okp:=zl0 c
 have pp:=zi5 hc.any
 walk_at "go"
 refine⟨c,rfl,hc.any,?_⟩
 unfold dI
 walk_at "go"
 generalize hseed:((zdh ns none (some 1)).sum%1000000000000000000000000000000+3)*48271%2147483647=seed
 clear hseed
 walk_at "go"
 refine zjJ (fun ds=>∃t1 t2:Str,zeR t1=zaQ c∧zeR t2=zaQ c∧t1.length≤400000∧t2.length≤400000∧ds=([t1,t2]:List Str).map .str) (fun Q' h=>?_) ?_
 ·walk_at "px"
  refine⟨zaQ c,rfl,ok.1,ok.2,zaQ c,seed,rfl,by simp[zaQ],ok.1,lo,fun t2 h2 h3=>?_⟩
  walk_at "px"
  exact⟨by omega,h _ ⟨zi0 (zaQ c),t2,zjS (zi6 lo),zjS h2,zmh ok.1 lo,h3,rfl⟩⟩
 rintro _ ⟨t1,t2,r1,r2,l1,l2,rfl⟩
 refine zko ([t1,t2]:List Str) D.str (fun i ρ=>∃a b:Sl,ρ=[.fz (.lst (ns.map .int)),.fz (.lst c.parts),.fz (.lst ((zaQ c).map dS)),.fz (.int seed),a,.un,b]) ⟨_,_,rfl⟩ ?_ ?_
 ·rintro i t ρ ht ⟨a,b,rfl⟩
  have htt:zeR t=zaQ c∧t.length≤400000:=by
   rcases List.mem_cons.mp (List.mem_of_getElem? ht) with rfl | hm
   ·exact⟨r1,l1⟩
   ·have:t=t2:=by simpa using hm
    subst this
    exact⟨r2,l2⟩
  walk_at "px"
  refine⟨t,ps,c,rfl,by omega,htt.1,hc,?_⟩
  walk_at "go"
  have ok9:okE 9 (.lst c.parts):=okp.mono (by decide)
  have er:=zdA 3 _ okp
  refine⟨c,rfl,.lst c.parts,rfl,pp,?_⟩
  refine⟨c,rfl,ok9,ok9,?_⟩
  simp only[zgG,er,Bool.not_true,Bool.false_eq_true,if_false]
  walk_at "go"
  refine⟨rfl,by show 6<7;decide,?_⟩
  walk_at "go"
  refine⟨t,ps,c,rfl,by omega,htt.1,hc,c,rfl,ok9,ok9,?_⟩
  simp only[zgG,er,Bool.not_true,Bool.false_eq_true,if_false]
  exact⟨_,_,rfl⟩
 ·rintro ρ ⟨a,b,rfl⟩
  walk_at "go"
  exact q
end Wc
end
namespace Wc
open PySem PySem.Spec PyProof.Rows L2
noncomputable def top(i:Nat):Stmt:=PySem.Challenge.pw_wirechannel_k03_read.main.body.getD i (.Pass ⟨0,0,0,0⟩)
structure Txt (K:PySem.W.Frag) (mg:Str→Option Value):Prop where
 b_all:mg "all"=none
 b_bool:mg "bool"=none
 b_enumerate:mg "enumerate"=none
 b_int:mg "int"=none
 b_isinstance:mg "isinstance"=none
 b_len:mg "len"=none
 b_list:mg "list"=none
 b_max:mg "max"=none
 b_min:mg "min"=none
 b_range:mg "range"=none
 b_set:mg "set"=none
 b_sorted:mg "sorted"=none
 b_str:mg "str"=none
 b_sum:mg "sum"=none
 b_tuple:mg "tuple"=none
 b_zip:mg "zip"=none
 c_FIGURES:∃t,mg "FIGURES"=some (.str "0123456789" t)
 c_FIRST_HEADS:ConT K mg "FIRST_HEADS" ["top","bottom","left","right"]
 c_LETTERS:∃t,mg "LETTERS"=some (.str "abcdefghijklmnopqrstuvwxyz" t)
 c_LONGEST_NAME:∃t,mg "LONGEST_NAME"=some (.int 6 t)
 c_MOST_COLUMNS:∃t,mg "MOST_COLUMNS"=some (.int 40 t)
 c_MOST_KEEPS:∃t,mg "MOST_KEEPS"=some (.int 8 t)
 c_MOST_NAMES:∃t,mg "MOST_NAMES"=some (.int 24 t)
section
variable {P:Program} {w:World} {K:PySem.W.Frag} {mg:Str→Option Value} {base:Heap}
noncomputable abbrev s_Channel:Stmt:=zoj (top 3) 0
theorem zkt:FnScope ["self","top","bottom","left","right","wide","bends","keeps"] ("self"::["top","bottom","left","right","wide","bends","keeps"]) (defScope s_Channel):=⟨rfl,rfl,rfl,by decide +kernel,rfl,by decide +kernel,by decide +kernel⟩
theorem zhs(A:AtC K mg "Channel" "Channel.__init__" s_Channel ["top","bottom","left","right","wide","bends","keeps"])(T:Txt K mg):KnownC P w K mg base 1 "Channel" 7 zcu:=by
 obtain⟨C,f,fd,hC,M,F,hm,na⟩:=A.ex
 refine⟨C,f,fd,_,M,zm8 (T:=zdU) F zkt hC (fun cdv A outer s H E hr=>?_) (fun ds Qr _ h=>zio ds Qr _ (fun fs e p hp=>na.all _ (by rw[←e];exact List.mem_map_of_mem hp)) h),hm,F.binds fun _ _ _ _ _ _ us hl=>by obtain⟨_,_,_,_,_,_,_,_,rfl⟩:=zrx hl;exact rfl⟩
 have hu:=hr.units
 exact(zcz hC.cls na.1 (zaX zeN T.b_list boot_list (zaa (zab 1) zac))
  (zcz hC.cls na.2.1 (zaX zeN T.b_list boot_list (zaa (zab 2) zac))
  (zcz hC.cls na.2.2.1 (zaX zeN T.b_list boot_list (zaa (zab 3) zac))
  (zcz hC.cls na.2.2.2.1 (zaX zeN T.b_list boot_list (zaa (zab 4) zac))
  (zcz hC.cls na.2.2.2.2.1 (zaX zeN T.b_list boot_list (zaa (zab 5) zac))
  (zcz hC.cls na.2.2.2.2.2.1 (zaX zeN T.b_list boot_list (zaa (zab 6) zac))
  (zcz hC.cls na.2.2.2.2.2.2.1 (zaX zeN T.b_list boot_list (zaa (zab 7) zac))
  zm7)))))))
noncomputable abbrev s__law_stem:Stmt:=top 30
theorem sc__law_stem:FnScope ["_law_cell","_law_size","_law_signs","_law_stem_here","_law_k"] ["_law_cell","_law_size"] (defScope s__law_stem):=⟨rfl,rfl,rfl,by decide +kernel,rfl,by decide +kernel,by decide +kernel⟩
theorem zfO(A:At K mg "_law_stem" s__law_stem)(T:Txt K mg) :Known P w K mg base 1 "_law_stem" 2 zbO:=zax 0 A sc__law_stem (fun f cdv A outer s H E hr=>have hu:=hr.units
 (zaf (zas 2 zan sc__law_stem.nd)
   (zaf (zas 3 zan sc__law_stem.nd)
   (zaf (zcd PassesOwn.never rfl (zbl T.b_range (zaa (zab 1) zac)) (zai 4 sc__law_stem.nd)
    (zaf (zas 3 (zaj zaJ (zab 3) (zaM (zab 2) (zaj zaL (zab 0) zad))) sc__law_stem.nd)
   (zak (zas 0 (zaj zaU (zab 0) zad) sc__law_stem.nd))))
   (zak (zaV (zab 3))))))) zgb fun _ _ _ _ _ _ us hl=>by obtain⟨_,_,rfl⟩:=zoI hl;exact rfl
noncomputable abbrev s__law_named:Stmt:=top 31
theorem sc__law_named:FnScope ["_law_cell","_law_size","_law_stem_here","_law_at","_law_other"] ["_law_cell"] (defScope s__law_named):=⟨rfl,rfl,rfl,by decide +kernel,rfl,by decide +kernel,by decide +kernel⟩
theorem zfP:(["_law_sign","_law_stem_here","_law_at","_law_size"]:List Str).Nodup:=by decide +kernel
theorem zfQ:(["_law_k","_law_stem_here","_law_size"]:List Str).Nodup:=by decide +kernel
theorem zfR:(["_law_k","_law_stem_here"]:List Str).Nodup:=by decide +kernel
theorem zeZ(A:At K mg "_law_named" s__law_named)(T:Txt K mg)(C__law_stem:Known P w K mg base 1 "_law_stem" 2 zbO):Known P w K mg base 2 "_law_named" 1 za6:=zax 1 A sc__law_named (fun f cdv A outer s H E hr=>have hu:=hr.units
 (zaf (zas 0 (zaj zaL (zaj zfp (zaj zaJ (zaj zaL (zab 0) (zaj zj5 zad zad)) zad) zad) (zaj zaJ (zaj zj5 zad zad) zad)) sc__law_named.nd)
   (zaf (zas 1 (zaj zaL (zab 0) zad) sc__law_named.nd)
   (zaf (zas 2 (zah C__law_stem hr (zaa (zaj zaU (zab 0) zad) (zaa zad zac))) sc__law_named.nd)
   (zaf (zas 3 (zaj zaL (zaj zaU (zab 0) zad) (zaj zaJ (zab 1) zad)) sc__law_named.nd)
   (zaf (zca (zaD (zeK hu) (zaj zaL (zaj zaU (zab 0) zad) zad) zad) (zak (zaV (zaI rfl (.of (N':=["_law_sign","_law_stem_here","_law_at","_law_size"]) (m:=[none,some 2,some 3,some 1]) (by kernel_rfl)) zam (zaA zan) (fun s3 H3 ex=>(zai 0 zfP)) (fun s3 H3 ex=>zaY) (fun s3 H3 ex=>(zaj zaJ (zaj zaJ (zaG (zab 1) zaP (zaz (zab 2))) (zab 0)) (zaG (zab 1) (zaz (zab 2)) (zaz (zab 3)))))))) zaZ)
   (zaf (zca (zaD (zeK hu) (zaj zaL (zaj zaU (zab 0) zad) zad) zad) (zak (zaV (zaI rfl (.of (N':=["_law_k","_law_stem_here","_law_size"]) (m:=[none,some 2,some 1]) (by kernel_rfl)) zam (zbl T.b_range (zaa zad zac)) (fun s3 H3 ex=>(zai 0 zfQ)) (fun s3 H3 ex=>zaY) (fun s3 H3 ex=>(zaj zaJ (zaj zaJ (zaj zaJ (zaG (zab 1) zaP (zaz (zaj zaL (zab 2) zad))) (zaM zan (zaj zaU (zab 0) zad))) (zaM zan (zaj zaL (zaj zaU (zab 0) zad) zad))) (zaM zan (zaj zaL (zab 0) zad))))))) zaZ)
   (zaf (zas 4 (zaj zaJ (zaM zan (zaX zqZ T.b_int boot_int (zaa (zbZ (zeK hu) (zaM (zab 2) zad) zan) zac))) (zaG (zab 2) (zaz zad) zaP)) sc__law_named.nd)
   (zak (zaV (zaj zaJ (zaI rfl (.of (N':=["_law_k","_law_stem_here"]) (m:=[none,some 2]) (by kernel_rfl)) zam (zbl T.b_range (zaa zad zac)) (fun s3 H3 ex=>(zai 0 zfR)) (fun s3 H3 ex=>zaY) (fun s3 H3 ex=>(zaG (zab 1) zaP (zaz (zaj zaJ (zab 0) zad))))) (zaS (zaa (zaG (zab 4) zaP (zaz zad)) (zaa (zaG (zab 4) zaP (zaz zad)) zac)))))))))))))) zfz fun _ _ _ _ _ _ us hl=>by obtain⟨_,rfl⟩:=zdx hl;exact rfl
noncomputable abbrev s__law_mix:Stmt:=top 32
theorem zi7:FnScope ["_law_cell","_law_k"] ["_law_cell","_law_k"] (defScope s__law_mix):=⟨rfl,rfl,rfl,by decide +kernel,rfl,by decide +kernel,by decide +kernel⟩
theorem zgo(A:At K mg "_law_mix" s__law_mix)(T:Txt K mg) :Known P w K mg base 1 "_law_mix" 2 zay:=zax 0 A zi7 (fun f cdv A outer s H E hr=>have hu:=hr.units
 (zak (zaV (zaj zaU (zaj zaL (zaj zaJ (zaj zaJ (zaj zfp (zaj zaL (zab 0) (zaj zj5 zad zad)) (zaj zaJ (zaj zfp (zab 1) (zab 1)) zad)) (zaj zfp (zaj zfp (zaj zfp zad (zab 1)) (zab 1)) (zab 1))) zad) zad) zad)))) zhf fun _ _ _ _ _ _ us hl=>by obtain⟨_,_,rfl⟩:=zoI hl;exact rfl
noncomputable abbrev s__law_pins:Stmt:=top 33
theorem sc__law_pins:FnScope ["_law_words","_law_cells","_law_seed","_law_width","_law_top","_law_bottom","_law_c","_law_row","_law_side","_law_k","_law_one"] ["_law_words","_law_cells","_law_seed","_law_width"] (defScope s__law_pins):=⟨rfl,rfl,rfl,by decide +kernel,rfl,by decide +kernel,by decide +kernel⟩
theorem zfS(A:At K mg "_law_pins" s__law_pins)(T:Txt K mg)(C__law_mix:Known P w K mg base 1 "_law_mix" 2 zay):Known P w K mg base 2 "_law_pins" 4 zbP:=zax 1 A sc__law_pins (fun f cdv A outer s H E hr=>have hu:=hr.units
 (zaf (zbq 4 (zaS zac) sc__law_pins.nd)
   (zaf (zbq 5 (zaS zac) sc__law_pins.nd)
   (zaf (zcd PassesOwn.never rfl (zbl T.b_range (zaa (zab 3) zac)) (zai 6 sc__law_pins.nd)
    (zaf (zbq 7 (zaS zac) sc__law_pins.nd)
   (zaf (zcd PassesOwn.never rfl (zbl T.b_range (zaa zad zac)) (zai 8 sc__law_pins.nd)
    (zaf (zas 9 (zaj zaJ (zaj zfp zad (zab 6)) (zab 8)) sc__law_pins.nd)
   (zaf (zas 10 (zah C__law_mix hr (zaa (zab 2) (zaa (zab 9) zac))) sc__law_pins.nd)
   (zaf (zca (zaD zqX (zab 9) (zaw zc8 T.b_len boot_len (zaa (zab 1) zac))) (zak (zas 10 (zah C__law_mix hr (zaa (zaM (zab 1) (zab 9)) (zaa (zab 9) zac))) sc__law_pins.nd)) zaZ)
   (zak (zc9 7 (zaM (zaS (zaa (zaM (zab 0) (zaj zaL (zab 10) zad)) (zaa (zaM (zab 0) (zaj zaL (zaj zaU (zab 10) zad) zad)) (zaa (zaM (zab 0) (zaj zaL (zaj zaU (zab 10) zad) zad)) (zaa zdz zac))))) (zaj zaL (zaj zaU (zab 10) zad) zad))))))))
   (zaf (zc9 4 (znE 7 zad))
   (zak (zc9 5 (znE 7 zad)))))))
   (zdg 5 (zdg 4 (zak (zaV (zcF (zaa (zab 4) (zaa (zab 5) zac))))))))))) zgc fun _ _ _ _ _ _ us hl=>by obtain⟨_,_,_,_,rfl⟩:=zq2 hl;exact rfl
noncomputable abbrev s__law_open:Stmt:=top 38
theorem ziq:FnScope ["_law_words","_law_bits"] ["_law_words","_law_bits"] (defScope s__law_open):=⟨rfl,rfl,rfl,by decide +kernel,rfl,by decide +kernel,by decide +kernel⟩
theorem zgp:(["_law_k","_law_words","_law_bits"]:List Str).Nodup:=by decide +kernel
theorem zfT(A:At K mg "_law_open" s__law_open)(T:Txt K mg) :Known P w K mg base 1 "_law_open" 2 zbw:=zax 0 A ziq (fun f cdv A outer s H E hr=>have hu:=hr.units
 (zaf (zca (zaD (zeK hu) (zaj zaL (zaj zaU (zab 1) zad) zad) zad) (zak (zaV (zaS zac))) zaZ)
   (zak (zaV (zaw (zju rfl) T.b_sorted boot_sorted (zaa (zaI rfl (.of (N':=["_law_k","_law_words","_law_bits"]) (m:=[none,some 0,some 1]) (by kernel_rfl)) zam (zbl T.b_range (zaa zad zac)) (fun s3 H3 ex=>(zai 0 zgp)) (fun s3 H3 ex=>(zbV (zaD (zeK hu) (zaj zaL (zaj zaU (zab 2) (zaM (zaS (zaa zad (zaa zad (zaa zad (zaa zad (zaa zad (zaa zad (zaa zad (zaa zad zac))))))))) (zab 0))) zad) zad))) (fun s3 H3 ex=>(zaM (zab 1) (zab 0)))) zac)))))) zge fun _ _ _ _ _ _ us hl=>by obtain⟨_,_,rfl⟩:=zoI hl;exact rfl
noncomputable abbrev s__law_many:Stmt:=top 34
theorem sc__law_many:FnScope ["_law_top","_law_bottom","_law_left","_law_right","_law_word","_law_some"] ["_law_top","_law_bottom","_law_left","_law_right","_law_word"] (defScope s__law_many):=⟨rfl,rfl,rfl,by decide +kernel,rfl,by decide +kernel,by decide +kernel⟩
theorem zfU(A:At K mg "_law_many" s__law_many)(T:Txt K mg) :Known P w K mg base 1 "_law_many" 5 zbv:=zax 0 A sc__law_many (fun f cdv A outer s H E hr=>have hu:=hr.units
 (zaf (zas 5 (zaj zaJ (zaj zaJ (zaj zaJ (zab 0) (zab 1)) (zab 2)) (zab 3)) sc__law_many.nd)
   (zak (zaV (zd9 (zlt hu) (.inl rfl) PySem.F.plainAttrs_list PySem.F.slot_list_count PySem.F.type_list_count (zab 5) (zaa (zab 4) zac)))))) zgd fun _ _ _ _ _ _ us hl=>by obtain⟨_,_,_,_,_,rfl⟩:=zq3 hl;exact rfl
noncomputable abbrev s__law_stretch:Stmt:=top 35
theorem sc__law_stretch:FnScope ["_law_top","_law_bottom","_law_left","_law_right","_law_word","_law_places"] ["_law_top","_law_bottom","_law_left","_law_right","_law_word"] (defScope s__law_stretch):=⟨rfl,rfl,rfl,by decide +kernel,rfl,by decide +kernel,by decide +kernel⟩
theorem zeu:(["_law_c","_law_word","_law_top","_law_bottom"]:List Str).Nodup:=by decide +kernel
theorem zdW(A:At K mg "_law_stretch" s__law_stretch)(T:Txt K mg) :Known P w K mg base 1 "_law_stretch" 5 zbe:=zax 0 A sc__law_stretch (fun f cdv A outer s H E hr=>have hu:=hr.units
 (zaf (zld 5 rfl (.of (N':=["_law_c","_law_word","_law_top","_law_bottom"]) (m:=[none,some 4,some 0,some 1]) (by kernel_rfl)) zam (zbl T.b_range (zaa (zaw zc8 T.b_len boot_len (zaa (zab 0) zac)) zac)) (fun s3 H3 ex=>(zai 0 zeu)) (fun s3 H3 ex=>(zbV (zaD (zmO hu) (zab 1) (zaS (zaa (zaM (zab 2) (zab 0)) (zaa (zaM (zab 3) (zab 0)) zac)))))) (fun s3 H3 ex=>(zab 0)) sc__law_stretch.nd)
   (zaf (zca (zaD (zmO hu) (zab 4) (zab 2)) (zak (zc9 5 (zlm zad))) zaZ)
   (zaf (zca (zaD (zmO hu) (zab 4) (zab 3)) (zak (zc9 5 (zaw zc8 T.b_len boot_len (zaa (zab 0) zac)))) zaZ)
   (zdg 5 (zak (zaV (zcF (zaa (zaw (zq0 rfl) T.b_min boot_min (zaa (zaj zaJ (zab 5) (zaS (zaa zad zac))) zac)) (zaa (zaw (zq1 rfl) T.b_max boot_max (zaa (zaj zaJ (zab 5) (zaS (zaa (zlm zad) zac))) zac)) zac)))))))))) zeh fun _ _ _ _ _ _ us hl=>by obtain⟨_,_,_,_,_,rfl⟩:=zq3 hl;exact rfl
noncomputable abbrev s__law_bends:Stmt:=top 36
theorem sc__law_bends:FnScope ["_law_lists","_law_words","_law_cells","_law_seed","_law_top","_law_bottom","_law_left","_law_right","_law_bends_here","_law_c","_law_one","_law_word","_law_l","_law_r","_law_here"] ["_law_lists","_law_words","_law_cells","_law_seed"] (defScope s__law_bends):=⟨rfl,rfl,rfl,by decide +kernel,rfl,by decide +kernel,by decide +kernel⟩
theorem zfV:(["_law_x"]:List Str).Nodup:=by decide +kernel
theorem ze0(A:At K mg "_law_bends" s__law_bends)(T:Txt K mg)(C__law_mix:Known P w K mg base 1 "_law_mix" 2 zay)(C__law_stretch:Known P w K mg base 1 "_law_stretch" 5 zbe):Known P w K mg base 2 "_law_bends" 4 zbD:=zax 1 A sc__law_bends (fun f cdv A outer s H E hr=>have hu:=hr.units
 (zaf (zla (zab 0) (zoy rfl (zap (zai 4 sc__law_bends.nd) (zap (zai 5 sc__law_bends.nd) (zap (zai 6 sc__law_bends.nd) (zap (zai 7 sc__law_bends.nd) za9))))))
   (zaf (zbq 8 (zaS zac) sc__law_bends.nd)
   (zaf (zcd PassesOwn.never rfl (zbl T.b_range (zaa (zaw zc8 T.b_len boot_len (zaa (zab 4) zac)) zac)) (zai 9 sc__law_bends.nd)
    (zaf (zas 10 (zah C__law_mix hr (zaa (zaM (zaj zaJ (zab 2) (zaS (zaa (zab 3) zac))) (zaj zaL (zab 9) (zaj zaJ (zaw zc8 T.b_len boot_len (zaa (zab 2) zac)) zad))) (zaa (zaj zaJ (zab 9) zad) zac))) sc__law_bends.nd)
   (zaf (zas 11 (zaM (zab 1) (zaj zaL (zab 10) zad)) sc__law_bends.nd)
   (zaf (zca (zd4 (zaD (zeK hu) (zaj zaL (zaj zaU (zab 10) zad) zad) zad) (ze8 (zaD ziL (zaM (zab 4) (zab 9)) zdz))).pb (zak (zas 11 (zaM (zab 4) (zab 9)) sc__law_bends.nd)) zaZ)
   (zaf (zla (zah C__law_stretch hr (zaa (zab 4) (zaa (zab 5) (zaa (zab 6) (zaa (zab 7) (zaa (zab 11) zac)))))) (zbJ rfl (zap (zai 12 sc__law_bends.nd) (zap (zai 13 sc__law_bends.nd) za9))))
   (zaf (zjq 14 rfl (.of (N':=["_law_x"]) (m:=[none]) (by kernel_rfl)) zam (zaA (zaS (zaa (zaM (zab 4) (zab 9)) (zaa (zaM (zab 5) (zab 9)) zac)))) (fun s3 H3 ex=>(zai 0 zfV)) (fun s3 H3 ex=>(zbV (zaD ziL (zab 0) zdz))) (fun s3 H3 ex=>(zab 0)) sc__law_bends.nd)
   (zak (zca (zd4 (zaD zqX (zab 12) (zab 9)) (zd4 (zaD zqX (zab 9) (zab 13)) (zd4 (znD (zaD (zeK hu) (zab 14) (zaS zac)) (zk7 (zaD (zmO hu) (zab 11) (zab 14)))).pb (ze8 (zaD zqo (zaj zaL (zaj zaU (zab 10) zad) zad) zad))))).pb (zak (zc9 8 (zcF (zaa (zab 9) (zaa (zab 11) zac))))) zaZ))))))))
   (zak (ziP 8)))))) zfB fun _ _ _ _ _ _ us hl=>by obtain⟨_,_,_,_,rfl⟩:=zq2 hl;exact rfl
noncomputable abbrev s__law_keeps:Stmt:=top 37
theorem sc__law_keeps:FnScope ["_law_width","_law_cells","_law_seed","_law_keeps_here","_law_k","_law_cell","_law_one","_law_first"] ["_law_width","_law_cells","_law_seed"] (defScope s__law_keeps):=⟨rfl,rfl,rfl,by decide +kernel,rfl,by decide +kernel,by decide +kernel⟩
theorem ze1(A:At K mg "_law_keeps" s__law_keeps)(T:Txt K mg)(C__law_mix:Known P w K mg base 1 "_law_mix" 2 zay):Known P w K mg base 2 "_law_keeps" 3 zbE:=zax 1 A sc__law_keeps (fun f cdv A outer s H E hr=>have hu:=hr.units
 (zaf (zbq 3 (zaS zac) sc__law_keeps.nd)
   (zaf (zcd PassesOwn.never rfl (zc2 T.b_enumerate (zaa (zaG (zab 1) zaP (zaz zad)) zac)) (zbJ rfl (zap (zai 4 sc__law_keeps.nd) (zap (zai 5 sc__law_keeps.nd) za9)))
    (zaf (zas 6 (zah C__law_mix hr (zaa (zaj zaJ (zab 5) (zab 2)) (zaa (zaj zaJ (zab 4) zad) zac))) sc__law_keeps.nd)
   (zaf (zas 7 (zaj zaL (zab 6) (zab 0)) sc__law_keeps.nd)
   (zak (zca (zaD (zeK hu) (zaj zaL (zaj zaU (zab 6) zad) zad) zad) (zak (zc9 3 (zcF (zaa (zab 7) (zaa (zaj zaJ (zab 7) (zaj zaL (zaj zaU (zab 6) zad) (zaj zqW (zab 0) (zab 7)))) (zaa (zaj zaJ zad (zaj zaL (zaj zaU (zab 6) zad) zad)) zac)))))) zaZ)))))
   (zak (ziP 3))))) zfC fun _ _ _ _ _ _ us hl=>by obtain⟨_,_,_,rfl⟩:=zrw hl;exact rfl
noncomputable abbrev s__law_channel:Stmt:=top 39
theorem sc__law_channel:FnScope ["_law_script","_law_most","_law_seed","_law_words","_law_width","_law_cells","_law_top","_law_bottom","_law_bits","_law_left","_law_right","_law_lone","_law_wide","_law_k","_law_word","_law_one","_law_bends_here","_law_keeps_here"] ["_law_script","_law_most"] (defScope s__law_channel):=⟨rfl,rfl,rfl,by decide +kernel,rfl,by decide +kernel,by decide +kernel⟩
theorem zev:(["_law_word","_law_top","_law_bottom","_law_left","_law_right"]:List Str).Nodup:=by decide +kernel
theorem zew:(["_law_word","_law_lone"]:List Str).Nodup:=by decide +kernel
theorem zex:(["_law_word","_law_lone"]:List Str).Nodup:=by decide +kernel
theorem zey:(["_law_word","_law_lone"]:List Str).Nodup:=by decide +kernel
theorem zez:(["_law_word","_law_lone"]:List Str).Nodup:=by decide +kernel
theorem zdX(A:At K mg "_law_channel" s__law_channel)(T:Txt K mg)(C__law_named:Known P w K mg base 2 "_law_named" 1 za6)(C__law_pins:Known P w K mg base 2 "_law_pins" 4 zbP)(C__law_mix:Known P w K mg base 1 "_law_mix" 2 zay)(C__law_open:Known P w K mg base 1 "_law_open" 2 zbw)(C__law_many:Known P w K mg base 1 "_law_many" 5 zbv)(C__law_bends:Known P w K mg base 2 "_law_bends" 4 zbD)(C__law_keeps:Known P w K mg base 2 "_law_keeps" 3 zbE):Known P w K mg base 3 "_law_channel" 2 zbf:=zax 2 A sc__law_channel (fun f cdv A outer s H E hr=>have hu:=hr.units
 (zaf (zas 2 (zaj zaL (zaj zfp (zaj zaL (zaw (zkc rfl) T.b_sum boot_sum (zaa (zaG (zab 0) zaP (zaz zad)) zac)) (zaj zj5 zad zad)) zad) zad) sc__law_channel.nd)
   (zaf (zas 3 (zah C__law_named hr (zaa (zaw (zkc rfl) T.b_sum boot_sum (zaa (zaG (zab 0) zaP (zaz zad)) zac)) zac)) sc__law_channel.nd)
   (zaf (zca (zaD (zeK hu) (zaj zaL (zaj zaU (zab 2) zad) zad) zad) (zak (zas 3 (zaS (zaa zan (zaa zan (zaa zan (zaa zan (zaa zan (zaa zan (zaa zan (zaa zan zac))))))))) sc__law_channel.nd)) zaZ)
   (zaf (zas 4 (zaj zaJ zad (zaj zaL (zab 2) (zab 1))) sc__law_channel.nd)
   (zaf (zas 5 (zaG (zab 0) (zaz zad) zaP) sc__law_channel.nd)
   (zaf (zla (zah C__law_pins hr (zaa (zab 3) (zaa (zab 5) (zaa (zab 2) (zaa (zab 4) zac))))) (zbJ rfl (zap (zai 6 sc__law_channel.nd) (zap (zai 7 sc__law_channel.nd) za9))))
   (zaf (zas 8 (zah C__law_mix hr (zaa (zaw (zkc rfl) T.b_sum boot_sum (zaa (zaG (zab 0) (zaz zad) (zaz zad)) zac)) (zaa (zaj zaJ zad (zaj zaL (zab 2) zad)) zac))) sc__law_channel.nd)
   (zaf (zas 9 (zah C__law_open hr (zaa (zab 3) (zaa (zab 8) zac))) sc__law_channel.nd)
   (zaf (zas 10 (zah C__law_open hr (zaa (zab 3) (zaa (zaj zaU (zab 8) zad) zac))) sc__law_channel.nd)
   (zaf (zas 11 (zaI rfl (.of (N':=["_law_word","_law_top","_law_bottom","_law_left","_law_right"]) (m:=[none,some 6,some 7,some 9,some 10]) (by kernel_rfl)) zam (zaA (zab 3)) (fun s3 H3 ex=>(zai 0 zev)) (fun s3 H3 ex=>(zbV (zaD (zeK hu) (zah C__law_many hr (zaa (zab 1) (zaa (zab 2) (zaa (zab 3) (zaa (zab 4) (zaa (zab 0) zac)))))) zad))) (fun s3 H3 ex=>(zab 0))) sc__law_channel.nd)
   (zaf (zbq 6 (zaI rfl (.of (N':=["_law_word","_law_lone"]) (m:=[none,some 11]) (by kernel_rfl)) zam (zaA (zab 6)) (fun s3 H3 ex=>(zai 0 zew)) (fun s3 H3 ex=>zaY) (fun s3 H3 ex=>(ze9 (zaD (zmO hu) (zab 0) (zab 1)) zdz (zab 0)))) sc__law_channel.nd)
   (zaf (zbq 7 (zaI rfl (.of (N':=["_law_word","_law_lone"]) (m:=[none,some 11]) (by kernel_rfl)) zam (zaA (zab 7)) (fun s3 H3 ex=>(zai 0 zex)) (fun s3 H3 ex=>zaY) (fun s3 H3 ex=>(ze9 (zaD (zmO hu) (zab 0) (zab 1)) zdz (zab 0)))) sc__law_channel.nd)
   (zaf (zbq 9 (zaI rfl (.of (N':=["_law_word","_law_lone"]) (m:=[none,some 11]) (by kernel_rfl)) zam (zaA (zab 9)) (fun s3 H3 ex=>(zai 0 zey)) (fun s3 H3 ex=>(zbV (zaD (ziK hu) (zab 0) (zab 1)))) (fun s3 H3 ex=>(zab 0))) sc__law_channel.nd)
   (zaf (zbq 10 (zaI rfl (.of (N':=["_law_word","_law_lone"]) (m:=[none,some 11]) (by kernel_rfl)) zam (zaA (zab 10)) (fun s3 H3 ex=>(zai 0 zez)) (fun s3 H3 ex=>(zbV (zaD (ziK hu) (zab 0) (zab 1)))) (fun s3 H3 ex=>(zab 0))) sc__law_channel.nd)
   (zaf (zbq 12 (zaS zac) sc__law_channel.nd)
   (zaf (zcd PassesOwn.never rfl (zc2 T.b_enumerate (zaa (zaw (zju rfl) T.b_sorted boot_sorted (zaa (zab 3) zac)) zac)) (zbJ rfl (zap (zai 13 sc__law_channel.nd) (zap (zai 14 sc__law_channel.nd) za9)))
    (zaf (zas 15 (zah C__law_mix hr (zaa (zaj zaJ (zab 2) (zab 13)) (zaa zad zac))) sc__law_channel.nd)
   (zak (zca (zd4 (zaD (zeK hu) (zaj zaL (zab 15) zad) zad) (ze8 (zaD zqo (zeb 10 (zeb 9 (zeb 7 (zeb 6 (zah C__law_many hr (zaa (zab 6) (zaa (zab 7) (zaa (zab 9) (zaa (zab 10) (zaa (zab 14) zac)))))))))) zad))).pb (zak (zc9 12 (zcF (zaa (zab 14) (zaa (zaj zaJ zad (zaj zaL (zaj zaU (zab 15) zad) zad)) zac))))) zaZ))))
   (zaf (zbq 16 (zc5 10 (zc5 9 (zc5 7 (zc5 6 (zah C__law_bends hr (zaa (zaS (zaa (zab 6) (zaa (zab 7) (zaa (zab 9) (zaa (zab 10) zac))))) (zaa (zab 3) (zaa (zab 5) (zaa (zab 2) zac))))))))) sc__law_channel.nd)
   (zaf (zbq 17 (zaS zac) sc__law_channel.nd)
   (zaf (zca (zaD (zeK hu) (zaj zaL (zaj zaU (zab 2) zad) zad) zad) (zak (zbq 17 (zah C__law_keeps hr (zaa (zab 4) (zaa (zab 5) (zaa (zab 2) zac)))) sc__law_channel.nd)) zaZ)
   (zak (zm5 [6,7,9,10,12,16,17] (zdj 6 (zdj 7 (zdj 9 (zdj 10 (zdj 12 (zdj 16 (zdj 17 zpM))))))))))))))))))))))))))))) zei fun _ _ _ _ _ _ us hl=>by obtain⟨_,_,rfl⟩:=zoI hl;exact rfl
noncomputable abbrev s__law_any:Stmt:=top 40
theorem sc__law_any:FnScope ["_law_script","_law_lists","_law_seed","_law_more","_law_k","_law_cell","_law_one","_law_columns","_law_names"] ["_law_script"] (defScope s__law_any):=⟨rfl,rfl,rfl,by decide +kernel,rfl,by decide +kernel,by decide +kernel⟩
theorem zdY:(["_law_c","_law_word"]:List Str).Nodup:=by decide +kernel
theorem zgq(A:At K mg "_law_any" s__law_any)(T:Txt K mg)(C__law_channel:Known P w K mg base 3 "_law_channel" 2 zbf)(C__law_mix:Known P w K mg base 1 "_law_mix" 2 zay)(C__law_named:Known P w K mg base 2 "_law_named" 1 za6):Known P w K mg base 4 "_law_any" 1 zb2:=zax 3 A sc__law_any (fun f cdv A outer s H E hr=>have hu:=hr.units
 (zaf (zbq 1 (zah C__law_channel hr (zaa (zab 0) (zaa zad zac))) sc__law_any.nd)
   (zaf (zas 2 (zaj zaL (zaj zfp (zaj zaJ (zaj zaL (zaw (zkc rfl) T.b_sum boot_sum (zaa (zaG (zab 0) zaP (zaz zad)) zac)) (zaj zj5 zad zad)) zad) zad) zad) sc__law_any.nd)
   (zaf (zbq 3 (zaS zac) sc__law_any.nd)
   (zaf (zcd PassesOwn.never rfl (zc2 T.b_enumerate (zaa (zaG (zab 0) (zaz zad) (zaz zad)) zac)) (zbJ rfl (zap (zai 4 sc__law_any.nd) (zap (zai 5 sc__law_any.nd) za9)))
    (zaf (zas 6 (zah C__law_mix hr (zaa (zaj zaJ (zab 5) (zab 2)) (zaa (zaj zaJ (zab 4) zad) zac))) sc__law_any.nd)
   (zak (zc9 3 (zcF (zaa (zaj zaL (zab 6) zad) (zaa (zaj zaL (zaj zaU (zab 6) zad) zad) (zaa (zaj zaL (zaj zaU (zab 6) zad) zad) zac))))))))
   (zdg 3 (zaf (zh7 1 zad (zc5 1 (zaG (zaj zaJ (zaM (zab 1) zad) (zab 3)) zaP (zaz (zaj zaL (zab 2) zad)))))
   (zaf (zm1 1 7 rfl (.of (N':=["_law_c","_law_word"]) (m:=[none,none]) (by kernel_rfl)) zdI (zaA (zaM (zab 1) zad)) (fun s3 H3 ex=>(zbJ rfl (zap (zai 0 zdY) (zap (zai 1 zdY) za9)))) (fun s3 H3 ex=>zaY) (fun s3 H3 ex=>(zab 0)) sc__law_any.nd)
   (zaf (zas 8 (zah C__law_named hr (zaa (zaw (zkc rfl) T.b_sum boot_sum (zaa (zaG (zab 0) zaP (zaz zad)) zac)) zac)) sc__law_any.nd)
   (zaf (zcd PassesOwn.never rfl (zc2 T.b_enumerate (zaa (zaG (zab 0) (zaz zad) (zaz zad)) zac)) (zbJ rfl (zap (zai 4 sc__law_any.nd) (zap (zai 5 sc__law_any.nd) za9)))
    (zaf (zas 6 (zah C__law_mix hr (zaa (zaj zaJ (zab 5) (zab 2)) (zaa (zaj zaJ (zab 4) zad) zac))) sc__law_any.nd)
   (zak (zca (zlx 7 (zaD (ziK hu) (zaj zaL (zab 6) zad) (zab 7))) (zaf (zlC 1 zad (zcF (zaa (zaj zaL (zab 6) zad) (zaa (zaM (zab 8) (zaj zaL (zaj zaU (zab 6) zad) zad)) zac))))
   (zak (zc9 7 (zaj zaL (zab 6) zad)))) zaZ))))
   (zaf (zh7 1 zad (zc5 1 (zaw (zlO rfl) T.b_sorted boot_sorted (zaa (zaM (zab 1) zad) zac))))
   (zak (zlB 1))))))))))))) zhm fun _ _ _ _ _ _ us hl=>by obtain⟨_,rfl⟩:=zdx hl;exact rfl
noncomputable abbrev s__law_lines:Stmt:=top 41
theorem sc__law_lines:FnScope ["_law_lists","_law_lines_here","_law_side","_law_word"] ["_law_lists"] (defScope s__law_lines):=⟨rfl,rfl,rfl,by decide +kernel,rfl,by decide +kernel,by decide +kernel⟩
theorem zcX:(["_law_word","_law_k"]:List Str).Nodup:=by decide +kernel
theorem zcY:(["_law_c","_law_word"]:List Str).Nodup:=by decide +kernel
theorem zb7:(["_law_l","_law_r","_law_k"]:List Str).Nodup:=by decide +kernel
theorem ze2(A:At K mg "_law_lines" s__law_lines)(T:Txt K mg) :Known P w K mg base 1 "_law_lines" 1 zbF:=zax 0 A sc__law_lines (fun f cdv A outer s H E hr=>have hu:=hr.units
 (zaf (zbq 1 (zoG (zaS (zaa zan zac)) (zaS (zaa zan zac))) sc__law_lines.nd)
   (zaf (zcd PassesOwn.never rfl (zbl T.b_range (zaa zad zac)) (zai 2 sc__law_lines.nd)
    (zak (zcd PassesOwn.never rfl (zaA (zaM (zab 0) (zab 2))) (zai 3 sc__law_lines.nd)
    (zak (zlC 1 (zab 2) (ze9 (zaD zrs (zab 3) zdz) zan (zab 3)))))))
   (zaf (zlM 1 (zaj zaJ (zaS (zaa zan zac)) (zaM (zab 0) zad)))
   (zaf (zlM 1 (zaj zaJ (zaS (zaa zan zac)) (zaM (zab 0) zad)))
   (zdg 1 (zaf (zbq 1 (zaj zaJ (zab 1) (zaI rfl (.of (N':=["_law_word","_law_k"]) (m:=[none,none]) (by kernel_rfl)) zdI (zaA (zaM (zab 0) zad)) (fun s3 H3 ex=>(zbJ rfl (zap (zai 0 zcX) (zap (zai 1 zcX) za9)))) (fun s3 H3 ex=>zaY) (fun s3 H3 ex=>(zaS (zaa zan (zaa (zab 0) (zaa (zaX zh4 T.b_str boot_str (zaa (zab 1) zac)) zac))))))) sc__law_lines.nd)
   (zdg 1 (zaf (zbq 1 (zaj zaJ (zab 1) (zaI rfl (.of (N':=["_law_c","_law_word"]) (m:=[none,none]) (by kernel_rfl)) zdI (zaA (zaM (zab 0) zad)) (fun s3 H3 ex=>(zbJ rfl (zap (zai 0 zcY) (zap (zai 1 zcY) za9)))) (fun s3 H3 ex=>zaY) (fun s3 H3 ex=>(zaS (zaa zan (zaa (zaX zh4 T.b_str boot_str (zaa (zab 0) zac)) (zaa (zab 1) zac))))))) sc__law_lines.nd)
   (zdg 1 (zak (zaV (zaj zaJ (zab 1) (zaI rfl (.of (N':=["_law_l","_law_r","_law_k"]) (m:=[none,none,none]) (by kernel_rfl)) ziQ (zaA (zaM (zab 0) zad)) (fun s3 H3 ex=>(zbJ rfl (zap (zai 0 zb7) (zap (zai 1 zb7) (zap (zai 2 zb7) za9))))) (fun s3 H3 ex=>zaY) (fun s3 H3 ex=>(zaS (zaa zan (zaa (zaX zh4 T.b_str boot_str (zaa (zab 0) zac)) (zaa (zaX zh4 T.b_str boot_str (zaa (zab 1) zac)) (zaa (zaX zh4 T.b_str boot_str (zaa (zab 2) zac)) zac)))))))))))))))))))) zfJ fun _ _ _ _ _ _ us hl=>by obtain⟨_,rfl⟩:=zdx hl;exact rfl
noncomputable abbrev s__law_loose:Stmt:=top 43
theorem sc__law_loose:FnScope ["_law_lines_here","_law_seed","_law_text_here","_law_k","_law_line","_law_bits","_law_j","_law_word"] ["_law_lines_here","_law_seed"] (defScope s__law_loose):=⟨rfl,rfl,rfl,by decide +kernel,rfl,by decide +kernel,by decide +kernel⟩
theorem ze3(A:At K mg "_law_loose" s__law_loose)(T:Txt K mg)(C__law_mix:Known P w K mg base 1 "_law_mix" 2 zay):Known P w K mg base 2 "_law_loose" 2 zbG:=zax 1 A sc__law_loose (fun f cdv A outer s H E hr=>have hu:=hr.units
 (zaf (zas 2 zan sc__law_loose.nd)
   (zaf (zcd PassesOwn.never rfl (zc2 T.b_enumerate (zaa (zab 0) zac)) (zbJ rfl (zap (zai 3 sc__law_loose.nd) (zap (zai 4 sc__law_loose.nd) za9)))
    (zaf (zas 5 (zah C__law_mix hr (zaa (zab 1) (zaa (zaj zaJ (zab 3) zad) zac))) sc__law_loose.nd)
   (zaf (zas 2 (zaj zaJ (zaj zaJ (zab 2) (zaM (zaS (zaa zan (zaa zan (zaa zan (zaa zan zac))))) (zaj zaL (zab 5) zad))) (zaj zjF zan (zaj zaL (zaj zaU (zab 5) zad) zad))) sc__law_loose.nd)
   (zaf (zcd PassesOwn.never rfl (zc2 T.b_enumerate (zaa (zab 4) zac)) (zbJ rfl (zap (zai 6 sc__law_loose.nd) (zap (zai 7 sc__law_loose.nd) za9)))
    (zaf (zca (zaD zqo (zab 6) zad) (zak (zas 2 (zaj zaJ (zab 2) (zaj zjF zan (zaj zaJ zad (zaj zaL (zaj zaU (zab 5) (zaj zaJ zad (zaj zfp (zab 6) (zab 6)))) zad)))) sc__law_loose.nd)) zaZ)
   (zaf (zca (zd4 (zaD (zeK hu) (zab 6) zad) (ze8 (zaD (zeK hu) (zaj zaL (zaj zaU (zab 5) zad) zad) zad))).pb (zak (zas 2 (zaj zaJ (zab 2) (zaj zjF zan (zaj zaL (zaj zaU (zab 5) zad) zad))) sc__law_loose.nd)) zaZ)
   (zak (zas 2 (zaj zaJ (zab 2) (zab 7)) sc__law_loose.nd)))))
   (zak (zas 2 (zaj zaJ (zaj zaJ (zab 2) (zaj zjF zan (zaj zaL (zaj zaU (zab 5) zad) zad))) zan) sc__law_loose.nd))))))
   (zaf (zca (zaD (zeK hu) (zaj zaL (zaj zaU (zab 1) zad) zad) zad) (zak (zas 2 (zaj zaJ (zab 2) (zaM (zaS (zaa zan (zaa zan (zaa zan zac)))) (zaj zaL (zaj zaU (zab 1) zad) zad))) sc__law_loose.nd)) zaZ)
   (zaf (zca (zaD (zeK hu) (zaj zaL (zab 1) zad) zad) (zak (zaV (zaG (zab 2) zaP (zaz (zlm zad))))) zaZ)
   (zak (zaV (zab 2)))))))) zfK fun _ _ _ _ _ _ us hl=>by obtain⟨_,_,rfl⟩:=zoI hl;exact rfl
noncomputable abbrev s__law_text:Stmt:=top 42
theorem zir:FnScope ["_law_lines_here"] ["_law_lines_here"] (defScope s__law_text):=⟨rfl,rfl,rfl,by decide +kernel,rfl,by decide +kernel,by decide +kernel⟩
theorem zgr:(["_law_line"]:List Str).Nodup:=by decide +kernel
theorem zfW(A:At K mg "_law_text" s__law_text)(T:Txt K mg) :Known P w K mg base 1 "_law_text" 1 zbQ:=zax 0 A zir (fun f cdv A outer s H E hr=>have hu:=hr.units
 (zak (zaV (zd9 znI (.inr rfl) PySem.F.plainAttrs_str PySem.F.slot_str_join PySem.F.type_str_join zan (zaa (zaI rfl (.of (N':=["_law_line"]) (m:=[none]) (by kernel_rfl)) zam (zaA (zab 0)) (fun s3 H3 ex=>(zai 0 zgr)) (fun s3 H3 ex=>zaY) (fun s3 H3 ex=>(zaj zaJ (zd9 znI (.inr rfl) PySem.F.plainAttrs_str PySem.F.slot_str_join PySem.F.type_str_join zan (zaa (zab 0) zac)) zan))) zac))))) zgf fun _ _ _ _ _ _ us hl=>by obtain⟨_,rfl⟩:=zdx hl;exact rfl
noncomputable abbrev s_words_of:Stmt:=top 16
theorem zi8:FnScope ["line"] ["line"] (defScope s_words_of):=⟨rfl,rfl,rfl,by decide +kernel,rfl,by decide +kernel,by decide +kernel⟩
theorem zht:(["word"]:List Str).Nodup:=by decide +kernel
theorem zgs(A:At K mg "words_of" s_words_of)(T:Txt K mg) :Known P w K mg base 1 "words_of" 1 zb3:=zax 0 A zi8 (fun f cdv A outer s H E hr=>have hu:=hr.units
 (zak (zaV (zaI rfl (.of (N':=["word"]) (m:=[none]) (by kernel_rfl)) zam (zaA (zd9 zlQ (.inr rfl) PySem.F.plainAttrs_str PySem.F.slot_str_split PySem.F.type_str_split (zab 0) (zaa zan zac))) (fun s3 H3 ex=>(zai 0 zht)) (fun s3 H3 ex=>(zbV (zaD (zqp hu) (zab 0) zan))) (fun s3 H3 ex=>(zab 0)))))) zho fun _ _ _ _ _ _ us hl=>by obtain⟨_,rfl⟩:=zdx hl;exact rfl
noncomputable abbrev s_lines_of:Stmt:=top 15
theorem sc_lines_of:FnScope ["text","lines"] ["text"] (defScope s_lines_of):=⟨rfl,rfl,rfl,by decide +kernel,rfl,by decide +kernel,by decide +kernel⟩
theorem zhu:(["line"]:List Str).Nodup:=by decide +kernel
theorem zhv:(["words"]:List Str).Nodup:=by decide +kernel
theorem zgt(A:At K mg "lines_of" s_lines_of)(T:Txt K mg)(C_words_of:Known P w K mg base 1 "words_of" 1 zb3):Known P w K mg base 2 "lines_of" 1 zb4:=zax 1 A sc_lines_of (fun f cdv A outer s H E hr=>have hu:=hr.units
 (zaf (zjq 1 rfl (.of (N':=["line"]) (m:=[none]) (by kernel_rfl)) zam (zaA (zd9 zlQ (.inr rfl) PySem.F.plainAttrs_str PySem.F.slot_str_split PySem.F.type_str_split (zab 0) (zaa zan zac))) (fun s3 H3 ex=>(zai 0 zhu)) (fun s3 H3 ex=>zaY) (fun s3 H3 ex=>(zah C_words_of hr (zaa (zab 0) zac))) sc_lines_of.nd)
   (zak (zaV (zaI rfl (.of (N':=["words"]) (m:=[none]) (by kernel_rfl)) zam (zaA (zab 1)) (fun s3 H3 ex=>(zai 0 zhv)) (fun s3 H3 ex=>(zbV (zaD zqo (zaw zc8 T.b_len boot_len (zaa (zab 0) zac)) zad))) (fun s3 H3 ex=>(zab 0))))))) zhp fun _ _ _ _ _ _ us hl=>by obtain⟨_,rfl⟩:=zdx hl;exact rfl
noncomputable abbrev s_demand:Stmt:=top 17
theorem zmj:FnScope ["holds","words"] ["holds","words"] (defScope s_demand):=⟨rfl,rfl,rfl,by decide +kernel,rfl,by decide +kernel,by decide +kernel⟩
theorem zis(A:At K mg "demand" s_demand)(T:Txt K mg) :Known P w K mg base 1 "demand" 2 zat:=zax 0 A zmj (fun f cdv A outer s H E hr=>have hu:=hr.units
 (zak (zca (zk6 (zk0 (zab 0))) (zak zm0) zaZ))) zi3 fun _ _ _ _ _ _ us hl=>by obtain⟨_,_,rfl⟩:=zoI hl;exact rfl
noncomputable abbrev s_demand_heads:Stmt:=top 18
theorem sc_demand_heads:FnScope ["heads","due","head"] ["heads"] (defScope s_demand_heads):=⟨rfl,rfl,rfl,by decide +kernel,rfl,by decide +kernel,by decide +kernel⟩
theorem zdZ(A:At K mg "demand_heads" s_demand_heads)(T:Txt K mg)(C_demand:Known P w K mg base 1 "demand" 2 zat):Known P w K mg base 2 "demand_heads" 1 zbi:=zax 1 A sc_demand_heads (fun f cdv A outer s H E hr=>have hu:=hr.units
 (zaf (zbq 1 (zaX zeN T.b_list boot_list (zaa (zm9 T.c_FIRST_HEADS) zac)) sc_demand_heads.nd)
   (zaf (zcd PassesOwn.never rfl (zaA (zcF (zaa zan (zaa zan (zaa zan zac))))) (zai 2 sc_demand_heads.nd)
    (zak (zjy 1 (zpL (zaS (zaa (zab 2) zac)) (zd9 (zlt hu) (.inl rfl) PySem.F.plainAttrs_list PySem.F.slot_list_count PySem.F.type_list_count (zab 0) (zaa (zab 2) zac))))))
   (zak (za5 (zah C_demand hr (zaa (zeb 1 (zbZ (zeK hu) (zab 0) (zab 1))) (zaa zan zac)))))))) zeq fun _ _ _ _ _ _ us hl=>by obtain⟨_,rfl⟩:=zdx hl;exact rfl
noncomputable abbrev s_read_number:Stmt:=top 25
theorem zgu:FnScope ["word"] ["word"] (defScope s_read_number):=⟨rfl,rfl,rfl,by decide +kernel,rfl,by decide +kernel,by decide +kernel⟩
theorem ze4:(["sign"]:List Str).Nodup:=by decide +kernel
theorem zeA(A:At K mg "read_number" s_read_number)(T:Txt K mg)(C_demand:Known P w K mg base 1 "demand" 2 zat):Known P w K mg base 2 "read_number" 1 zaB:=zax 1 A zgu (fun f cdv A outer s H E hr=>have hu:=hr.units
 have ⟨t_FIGURES,c_FIGURES⟩:=T.c_FIGURES
 (zaf (za5 (zah C_demand hr (zaa (zjl ziE ziE zad (zaw zc8 T.b_len boot_len (zaa (zab 0) zac)) zad) (zaa zan zac))))
   (zaf (za5 (zah C_demand hr (zaa (zaw (zlj rfl) T.b_all boot_all (zaa (zaI rfl (.of (N':=["sign"]) (m:=[none]) (by kernel_rfl)) zam (zaA (zab 0)) (fun s3 H3 ex=>(zai 0 ze4)) (fun s3 H3 ex=>zaY) (fun s3 H3 ex=>(zbZ (zmO hu) (zab 0) (zjg c_FIGURES)))) zac)) (zaa zan zac))))
   (zaf (za5 (zah C_demand hr (zaa (zop (zbZ (zeK hu) (zaw zc8 T.b_len boot_len (zaa (zab 0) zac)) zad) (zk8 (zbZ (zqp hu) (zaM (zab 0) zad) zan))) (zaa zan zac))))
   (zak (zaV (zaX zpO T.b_int boot_int (zaa (zab 0) zac)))))))) zeY fun _ _ _ _ _ _ us hl=>by obtain⟨_,rfl⟩:=zdx hl;exact rfl
noncomputable abbrev s_read_keep:Stmt:=top 23
theorem zit:FnScope ["words"] ["words"] (defScope s_read_keep):=⟨rfl,rfl,rfl,by decide +kernel,rfl,by decide +kernel,by decide +kernel⟩
theorem zfX(A:At K mg "read_keep" s_read_keep)(T:Txt K mg)(C_demand:Known P w K mg base 1 "demand" 2 zat)(C_read_number:Known P w K mg base 2 "read_number" 1 zaB):Known P w K mg base 3 "read_keep" 1 zbT:=zax 2 A zit (fun f cdv A outer s H E hr=>have hu:=hr.units
 (zaf (za5 (zah C_demand hr (zaa (zbZ (zeK hu) (zaw zc8 T.b_len boot_len (zaa (zab 0) zac)) zad) (zaa zan zac))))
   (zak (zaV (zcF (zaa (zah C_read_number hr (zaa (zaM (zab 0) zad) zac)) (zaa (zah C_read_number hr (zaa (zaM (zab 0) zad) zac)) (zaa (zah C_read_number hr (zaa (zaM (zab 0) zad) zac)) zac)))))))) zgk fun _ _ _ _ _ _ us hl=>by obtain⟨_,rfl⟩:=zdx hl;exact rfl
noncomputable abbrev s_is_name:Stmt:=top 4
theorem zku:FnScope ["word"] ["word"] (defScope s_is_name):=⟨rfl,rfl,rfl,by decide +kernel,rfl,by decide +kernel,by decide +kernel⟩
theorem ziu:(["sign"]:List Str).Nodup:=by decide +kernel
theorem zhw(A:At K mg "is_name" s_is_name)(T:Txt K mg) :Known P w K mg base 1 "is_name" 1 zct:=zax 0 A zku (fun f cdv A outer s H E hr=>have hu:=hr.units
 have ⟨t_LETTERS,c_LETTERS⟩:=T.c_LETTERS
 have ⟨t_LONGEST_NAME,c_LONGEST_NAME⟩:=T.c_LONGEST_NAME
 (zaf (zca (zk6 (zmQ ziE ziE zad (zaw zc8 T.b_len boot_len (zaa (zab 0) zac)) (ze7 c_LONGEST_NAME))) (zak (zaV zmL)) zaZ)
   (zak (zaV (zaw (zlj rfl) T.b_all boot_all (zaa (zaI rfl (.of (N':=["sign"]) (m:=[none]) (by kernel_rfl)) zam (zaA (zab 0)) (fun s3 H3 ex=>(zai 0 ziu)) (fun s3 H3 ex=>zaY) (fun s3 H3 ex=>(zbZ (zmO hu) (zab 0) (zjg c_LETTERS)))) zac)))))) zim fun _ _ _ _ _ _ us hl=>by obtain⟨_,rfl⟩:=zdx hl;exact rfl
noncomputable abbrev s_read_name:Stmt:=top 24
theorem ziv:FnScope ["word"] ["word"] (defScope s_read_name):=⟨rfl,rfl,rfl,by decide +kernel,rfl,by decide +kernel,by decide +kernel⟩
theorem zfY(A:At K mg "read_name" s_read_name)(T:Txt K mg)(C_demand:Known P w K mg base 1 "demand" 2 zat)(C_is_name:Known P w K mg base 1 "is_name" 1 zct):Known P w K mg base 2 "read_name" 1 zaO:=zax 1 A ziv (fun f cdv A outer s H E hr=>have hu:=hr.units
 (zaf (za5 (zah C_demand hr (zaa (zah C_is_name hr (zaa (zab 0) zac)) (zaa zan zac))))
   (zak (zaV (zab 0))))) zgg fun _ _ _ _ _ _ us hl=>by obtain⟨_,rfl⟩:=zdx hl;exact rfl
noncomputable abbrev s_read_bend:Stmt:=top 22
theorem ziw:FnScope ["words"] ["words"] (defScope s_read_bend):=⟨rfl,rfl,rfl,by decide +kernel,rfl,by decide +kernel,by decide +kernel⟩
theorem zfZ(A:At K mg "read_bend" s_read_bend)(T:Txt K mg)(C_demand:Known P w K mg base 1 "demand" 2 zat)(C_read_name:Known P w K mg base 2 "read_name" 1 zaO)(C_read_number:Known P w K mg base 2 "read_number" 1 zaB):Known P w K mg base 3 "read_bend" 1 zbS:=zax 2 A ziw (fun f cdv A outer s H E hr=>have hu:=hr.units
 (zaf (za5 (zah C_demand hr (zaa (zbZ (zeK hu) (zaw zc8 T.b_len boot_len (zaa (zab 0) zac)) zad) (zaa zan zac))))
   (zak (zaV (zcF (zaa (zah C_read_number hr (zaa (zaM (zab 0) zad) zac)) (zaa (zah C_read_name hr (zaa (zaM (zab 0) zad) zac)) zac))))))) zgj fun _ _ _ _ _ _ us hl=>by obtain⟨_,rfl⟩:=zdx hl;exact rfl
noncomputable abbrev s_read_wide:Stmt:=top 21
theorem zix:FnScope ["words"] ["words"] (defScope s_read_wide):=⟨rfl,rfl,rfl,by decide +kernel,rfl,by decide +kernel,by decide +kernel⟩
theorem zf0(A:At K mg "read_wide" s_read_wide)(T:Txt K mg)(C_demand:Known P w K mg base 1 "demand" 2 zat)(C_read_number:Known P w K mg base 2 "read_number" 1 zaB)(C_read_name:Known P w K mg base 2 "read_name" 1 zaO):Known P w K mg base 3 "read_wide" 1 zbR:=zax 2 A zix (fun f cdv A outer s H E hr=>have hu:=hr.units
 (zaf (za5 (zah C_demand hr (zaa (zbZ (zeK hu) (zaw zc8 T.b_len boot_len (zaa (zab 0) zac)) zad) (zaa zan zac))))
   (zak (zaV (zcF (zaa (zah C_read_name hr (zaa (zaM (zab 0) zad) zac)) (zaa (zah C_read_number hr (zaa (zaM (zab 0) zad) zac)) zac))))))) zgi fun _ _ _ _ _ _ us hl=>by obtain⟨_,rfl⟩:=zdx hl;exact rfl
noncomputable abbrev s_read_names:Stmt:=top 20
theorem zhx:FnScope ["words"] ["words"] (defScope s_read_names):=⟨rfl,rfl,rfl,by decide +kernel,rfl,by decide +kernel,by decide +kernel⟩
theorem zf1:(["word"]:List Str).Nodup:=by decide +kernel
theorem ze5(A:At K mg "read_names" s_read_names)(T:Txt K mg)(C_read_name:Known P w K mg base 2 "read_name" 1 zaO):Known P w K mg base 3 "read_names" 1 zbm:=zax 2 A zhx (fun f cdv A outer s H E hr=>have hu:=hr.units
 (zak (zaV (zaI rfl (.of (N':=["word"]) (m:=[none]) (by kernel_rfl)) zam (zaA (zab 0)) (fun s3 H3 ex=>(zai 0 zf1)) (fun s3 H3 ex=>zaY) (fun s3 H3 ex=>(zah C_read_name hr (zaa (zab 0) zac))))))) zfM fun _ _ _ _ _ _ us hl=>by obtain⟨_,rfl⟩:=zdx hl;exact rfl
noncomputable abbrev s_read_pins:Stmt:=top 19
theorem ziy:FnScope ["words"] ["words"] (defScope s_read_pins):=⟨rfl,rfl,rfl,by decide +kernel,rfl,by decide +kernel,by decide +kernel⟩
theorem zgv:(["word"]:List Str).Nodup:=by decide +kernel
theorem zf2(A:At K mg "read_pins" s_read_pins)(T:Txt K mg)(C_read_name:Known P w K mg base 2 "read_name" 1 zaO):Known P w K mg base 3 "read_pins" 1 zbx:=zax 2 A ziy (fun f cdv A outer s H E hr=>have hu:=hr.units
 (zak (zaV (zaI rfl (.of (N':=["word"]) (m:=[none]) (by kernel_rfl)) zam (zaA (zab 0)) (fun s3 H3 ex=>(zai 0 zgv)) (fun s3 H3 ex=>zaY) (fun s3 H3 ex=>(ze9 (zaD (zeK hu) (zab 0) zan) zdz (zah C_read_name hr (zaa (zab 0) zac)))))))) zgh fun _ _ _ _ _ _ us hl=>by obtain⟨_,rfl⟩:=zdx hl;exact rfl
noncomputable abbrev s_is_rising:Stmt:=top 27
theorem ziz:FnScope ["members"] ["members"] (defScope s_is_rising):=⟨rfl,rfl,rfl,by decide +kernel,rfl,by decide +kernel,by decide +kernel⟩
theorem zde:(["one","other"]:List Str).Nodup:=by decide +kernel
theorem zf3(A:At K mg "is_rising" s_is_rising)(T:Txt K mg) :Known P w K mg base 1 "is_rising" 1 za3:=zax 0 A ziz (fun f cdv A outer s H E hr=>have hu:=hr.units
 (zak (zaV (zaw (zlj rfl) T.b_all boot_all (zaa (zaI rfl (.of (N':=["one","other"]) (m:=[none,none]) (by kernel_rfl)) zdI (zoq T.b_zip (zaa (zab 0) (zaa (zaG (zab 0) (zaz zad) zaP) zac))) (fun s3 H3 ex=>(zbJ rfl (zap (zai 0 zde) (zap (zai 1 zde) za9)))) (fun s3 H3 ex=>zaY) (fun s3 H3 ex=>(zbZ zq5 (zab 0) (zab 1)))) zac))))) zgl fun _ _ _ _ _ _ us hl=>by obtain⟨_,rfl⟩:=zdx hl;exact rfl
noncomputable abbrev s_all_names:Stmt:=top 28
theorem sc_all_names:FnScope ["channel","names"] ["channel"] (defScope s_all_names):=⟨rfl,rfl,rfl,by decide +kernel,rfl,by decide +kernel,by decide +kernel⟩
theorem zgw:(["name"]:List Str).Nodup:=by decide +kernel
theorem zgx:(["pair"]:List Str).Nodup:=by decide +kernel
theorem zgy:(["pair"]:List Str).Nodup:=by decide +kernel
theorem zf4(A:At K mg "all_names" s_all_names)(T:Txt K mg) :Known P w K mg base 1 "all_names" 1 zbU:=zax 0 A sc_all_names (fun f cdv A outer s H E hr=>have hu:=hr.units
 (zaf (zld 1 rfl (.of (N':=["name"]) (m:=[none]) (by kernel_rfl)) zam (zaA (zaj zaJ (zbo (zab 0)) (zbo (zab 0)))) (fun s3 H3 ex=>(zai 0 zgw)) (fun s3 H3 ex=>(zbV (zaD ziL (zab 0) zdz))) (fun s3 H3 ex=>(zab 0)) sc_all_names.nd)
   (zaf (zjy 1 (zaj zaJ (zbo (zab 0)) (zbo (zab 0))))
   (zaf (zjy 1 (zaI rfl (.of (N':=["pair"]) (m:=[none]) (by kernel_rfl)) zam (zaA (zbo (zab 0))) (fun s3 H3 ex=>(zai 0 zgx)) (fun s3 H3 ex=>zaY) (fun s3 H3 ex=>(zaM (zab 0) zad))))
   (zaf (zjy 1 (zaI rfl (.of (N':=["pair"]) (m:=[none]) (by kernel_rfl)) zam (zaA (zbo (zab 0))) (fun s3 H3 ex=>(zai 0 zgy)) (fun s3 H3 ex=>zaY) (fun s3 H3 ex=>(zaM (zab 0) zad))))
   (zak (ziP 1))))))) zgm fun _ _ _ _ _ _ us hl=>by obtain⟨_,rfl⟩:=zdx hl;exact rfl
noncomputable abbrev s_demand_lists:Stmt:=top 26
theorem zf5:FnScope ["channel"] ["channel"] (defScope s_demand_lists):=⟨rfl,rfl,rfl,by decide +kernel,rfl,by decide +kernel,by decide +kernel⟩
theorem zeB:(["pair"]:List Str).Nodup:=by decide +kernel
theorem zeC:(["pair"]:List Str).Nodup:=by decide +kernel
theorem zeD:(["pair"]:List Str).Nodup:=by decide +kernel
theorem zd0(A:At K mg "demand_lists" s_demand_lists)(T:Txt K mg)(C_demand:Known P w K mg base 1 "demand" 2 zat)(C_is_rising:Known P w K mg base 1 "is_rising" 1 za3)(C_all_names:Known P w K mg base 1 "all_names" 1 zbU):Known P w K mg base 2 "demand_lists" 1 zbj:=zax 1 A zf5 (fun f cdv A outer s H E hr=>have hu:=hr.units
 have ⟨t_MOST_COLUMNS,c_MOST_COLUMNS⟩:=T.c_MOST_COLUMNS
 have ⟨t_MOST_KEEPS,c_MOST_KEEPS⟩:=T.c_MOST_KEEPS
 have ⟨t_MOST_NAMES,c_MOST_NAMES⟩:=T.c_MOST_NAMES
 (zaf (za5 (zah C_demand hr (zaa (zbZ (zeK hu) (zaw zc8 T.b_len boot_len (zaa (zbo (zab 0)) zac)) (zaw zc8 T.b_len boot_len (zaa (zbo (zab 0)) zac))) (zaa zan zac))))
   (zaf (za5 (zah C_demand hr (zaa (zjl ziE ziE zad (zaw zc8 T.b_len boot_len (zaa (zbo (zab 0)) zac)) (ze7 c_MOST_COLUMNS)) (zaa zan zac))))
   (zaf (za5 (zah C_demand hr (zaa (zah C_is_rising hr (zaa (zbo (zab 0)) zac)) (zaa zan zac))))
   (zaf (za5 (zah C_demand hr (zaa (zah C_is_rising hr (zaa (zbo (zab 0)) zac)) (zaa zan zac))))
   (zaf (za5 (zah C_demand hr (zaa (zah C_is_rising hr (zaa (zaI rfl (.of (N':=["pair"]) (m:=[none]) (by kernel_rfl)) zam (zaA (zbo (zab 0))) (fun s3 H3 ex=>(zai 0 zeB)) (fun s3 H3 ex=>zaY) (fun s3 H3 ex=>(zaM (zab 0) zad))) zac)) (zaa zan zac))))
   (zaf (za5 (zah C_demand hr (zaa (zaw (zlj rfl) T.b_all boot_all (zaa (zaI rfl (.of (N':=["pair"]) (m:=[none]) (by kernel_rfl)) zam (zaA (zbo (zab 0))) (fun s3 H3 ex=>(zai 0 zeC)) (fun s3 H3 ex=>zaY) (fun s3 H3 ex=>(zbZ (zmO hu) (zaM (zab 0) zad) (zcF (zaa zad (zaa zad zac)))))) zac)) (zaa zan zac))))
   (zaf (za5 (zah C_demand hr (zaa (zah C_is_rising hr (zaa (zaI rfl (.of (N':=["pair"]) (m:=[none]) (by kernel_rfl)) zam (zaA (zbo (zab 0))) (fun s3 H3 ex=>(zai 0 zeD)) (fun s3 H3 ex=>zaY) (fun s3 H3 ex=>(zaM (zab 0) zad))) zac)) (zaa zan zac))))
   (zaf (za5 (zah C_demand hr (zaa (zbZ zrr (zaw zc8 T.b_len boot_len (zaa (zbo (zab 0)) zac)) (ze7 c_MOST_KEEPS)) (zaa zan zac))))
   (zak (za5 (zah C_demand hr (zaa (zbZ zrr (zkm rfl T.b_len T.b_set (zaa (zah C_all_names hr (zaa (zab 0) zac)) zac)) (ze7 c_MOST_NAMES)) (zaa zan zac)))))))))))))) zer fun _ _ _ _ _ _ us hl=>by obtain⟨_,rfl⟩:=zdx hl;exact rfl
noncomputable abbrev s_read_channel:Stmt:=top 14
theorem sc_read_channel:FnScope ["text","lines","channel"] ["text"] (defScope s_read_channel):=⟨rfl,rfl,rfl,by decide +kernel,rfl,by decide +kernel,by decide +kernel⟩
theorem zeE:(["words"]:List Str).Nodup:=by decide +kernel
theorem zeF:(["words"]:List Str).Nodup:=by decide +kernel
theorem zeG:(["words"]:List Str).Nodup:=by decide +kernel
theorem zeH:(["words"]:List Str).Nodup:=by decide +kernel
theorem zd1(A:At K mg "read_channel" s_read_channel)(T:Txt K mg)(C_lines_of:Known P w K mg base 2 "lines_of" 1 zb4)(C_demand_heads:Known P w K mg base 2 "demand_heads" 1 zbi)(C_Channel:KnownC P w K mg base 1 "Channel" 7 zcu)(C_read_keep:Known P w K mg base 3 "read_keep" 1 zbT)(C_read_bend:Known P w K mg base 3 "read_bend" 1 zbS)(C_read_wide:Known P w K mg base 3 "read_wide" 1 zbR)(C_read_names:Known P w K mg base 3 "read_names" 1 zbm)(C_read_pins:Known P w K mg base 3 "read_pins" 1 zbx)(C_demand_lists:Known P w K mg base 2 "demand_lists" 1 zbj):Known P w K mg base 4 "read_channel" 1 za1:=zax 3 A sc_read_channel (fun f cdv A outer s H E hr=>have hu:=hr.units
 (zaf (zas 1 (zah C_lines_of hr (zaa (zab 0) zac)) sc_read_channel.nd)
   (zaf (za5 (zah C_demand_heads hr (zaa (zaI rfl (.of (N':=["words"]) (m:=[none]) (by kernel_rfl)) zam (zaA (zab 1)) (fun s3 H3 ex=>(zai 0 zeE)) (fun s3 H3 ex=>zaY) (fun s3 H3 ex=>(zaM (zab 0) zad))) zac)))
   (zaf (zbq 2 (zmY C_Channel hr (zaa (zah C_read_pins hr (zaa (zaG (zaM (zab 1) zad) (zaz zad) zaP) zac)) (zaa (zah C_read_pins hr (zaa (zaG (zaM (zab 1) zad) (zaz zad) zaP) zac)) (zaa (zah C_read_names hr (zaa (zaG (zaM (zab 1) zad) (zaz zad) zaP) zac)) (zaa (zah C_read_names hr (zaa (zaG (zaM (zab 1) zad) (zaz zad) zaP) zac)) (zaa (zaI rfl (.of (N':=["words"]) (m:=[none]) (by kernel_rfl)) zam (zaA (zab 1)) (fun s3 H3 ex=>(zai 0 zeH)) (fun s3 H3 ex=>(zbV (zaD (zeK hu) (zaM (zab 0) zad) zan))) (fun s3 H3 ex=>(zah C_read_wide hr (zaa (zab 0) zac)))) (zaa (zaI rfl (.of (N':=["words"]) (m:=[none]) (by kernel_rfl)) zam (zaA (zab 1)) (fun s3 H3 ex=>(zai 0 zeG)) (fun s3 H3 ex=>(zbV (zaD (zeK hu) (zaM (zab 0) zad) zan))) (fun s3 H3 ex=>(zah C_read_bend hr (zaa (zab 0) zac)))) (zaa (zaI rfl (.of (N':=["words"]) (m:=[none]) (by kernel_rfl)) zam (zaA (zab 1)) (fun s3 H3 ex=>(zai 0 zeF)) (fun s3 H3 ex=>(zbV (zaD (zeK hu) (zaM (zab 0) zad) zan))) (fun s3 H3 ex=>(zah C_read_keep hr (zaa (zab 0) zac)))) zac)))))))) sc_read_channel.nd)
   (zaf (za5 (zeb 2 (zah C_demand_lists hr (zaa (zab 2) zac))))
   (zak (zlB 2))))))) zet fun _ _ _ _ _ _ us hl=>by obtain⟨_,rfl⟩:=zdx hl;exact rfl
noncomputable abbrev s__law_plain:Stmt:=top 44
theorem za7:FnScope ["_law_thing"] ["_law_thing"] (defScope s__law_plain):=⟨rfl,rfl,rfl,by decide +kernel,rfl,by decide +kernel,by decide +kernel⟩
theorem zf6:(["_law_one"]:List Str).Nodup:=by decide +kernel
theorem zbn(T:Txt K mg)  {zaT:SpD} {k kk:Nat} (hk0:0≤k) (hkk:kk≤k) (C__law_plain:Known P w K mg base kk "_law_plain" 1 zaT) {f:Addr} (cdv:Value) (A:Around) (outer:List Env) (s:Shared) (H:Hp) (E:XK) (hr:Room k (A.deeper (envOfC "_law_plain" (defScope s__law_plain) s.heap.objs.size f cdv))) :
  PXs (zjZ CX0 P w K mg base ["_law_thing"] "_law_plain" (defScope s__law_plain) f cdv A outer s H E).nox (defBody s__law_plain) (zce zaT):=by
 have hu:=hr.units
 exact(zaf (zca (zk0 (zoD (zab 0) T.b_isinstance T.b_list T.b_tuple boot_list boot_tuple)) (zak (zaV (zaw (zlj rfl) T.b_all boot_all (zaa (zaI rfl (.of (N':=["_law_one"]) (m:=[none]) (by kernel_rfl)) zam (zaA (zab 0)) (fun s3 H3 ex=>(zai 0 zf6)) (fun s3 H3 ex=>zaY) (fun s3 H3 ex=>(zah (hk:=hkk) C__law_plain hr (zaa (zab 0) zac)))) zac)))) zaZ)
   (zak (zaV (zop (zbZ zrs (zab 0) zdz) (zop (zlk (zab 0) T.b_isinstance T.b_str boot_str) (zk8 (zpB (zlk (zab 0) T.b_isinstance T.b_int boot_int) (zk8 (zpA (zlk (zab 0) T.b_isinstance T.b_bool boot_bool))))))))))
theorem ze6(A:At K mg "_law_plain" s__law_plain)(T:Txt K mg) :Known P w K mg base 7 "_law_plain" 1 zaT:=by
 obtain⟨f,fd,F,hm⟩:=A.ex
 have k0:Known P w K mg base 1 "_law_plain" 1 (zaC 0):=⟨⟨f,fd,["_law_thing"],zcx (k:=0) (T:=fun _ _=>False) F za7 (fun _ _ _ _ _ _ _=>zlK) (fun _ _ _ h=>h),hm,F.kp,F.binds fun _ _ _ _ _ _ us hl=>by obtain⟨_,rfl⟩:=zdx hl;exact rfl⟩⟩
 have k1:Known P w K mg base 2 "_law_plain" 1 (zaC 1):=⟨⟨f,fd,["_law_thing"],zcx (k:=1) F za7 (zbn T  (by decide) (Nat.le_refl _) k0) (za2 0),hm,F.kp,F.binds fun _ _ _ _ _ _ us hl=>by obtain⟨_,rfl⟩:=zdx hl;exact rfl⟩⟩
 have k2:Known P w K mg base 3 "_law_plain" 1 (zaC 2):=⟨⟨f,fd,["_law_thing"],zcx (k:=2) F za7 (zbn T  (by decide) (Nat.le_refl _) k1) (za2 1),hm,F.kp,F.binds fun _ _ _ _ _ _ us hl=>by obtain⟨_,rfl⟩:=zdx hl;exact rfl⟩⟩
 have k3:Known P w K mg base 4 "_law_plain" 1 (zaC 3):=⟨⟨f,fd,["_law_thing"],zcx (k:=3) F za7 (zbn T  (by decide) (Nat.le_refl _) k2) (za2 2),hm,F.kp,F.binds fun _ _ _ _ _ _ us hl=>by obtain⟨_,rfl⟩:=zdx hl;exact rfl⟩⟩
 have k4:Known P w K mg base 5 "_law_plain" 1 (zaC 4):=⟨⟨f,fd,["_law_thing"],zcx (k:=4) F za7 (zbn T  (by decide) (Nat.le_refl _) k3) (za2 3),hm,F.kp,F.binds fun _ _ _ _ _ _ us hl=>by obtain⟨_,rfl⟩:=zdx hl;exact rfl⟩⟩
 have k5:Known P w K mg base 6 "_law_plain" 1 (zaC 5):=⟨⟨f,fd,["_law_thing"],zcx (k:=5) F za7 (zbn T  (by decide) (Nat.le_refl _) k4) (za2 4),hm,F.kp,F.binds fun _ _ _ _ _ _ us hl=>by obtain⟨_,rfl⟩:=zdx hl;exact rfl⟩⟩
 have k6:Known P w K mg base 7 "_law_plain" 1 (zaC 6):=⟨⟨f,fd,["_law_thing"],zcx (k:=6) F za7 (zbn T  (by decide) (Nat.le_refl _) k5) (za2 5),hm,F.kp,F.binds fun _ _ _ _ _ _ us hl=>by obtain⟨_,rfl⟩:=zdx hl;exact rfl⟩⟩
 exact k6
noncomputable abbrev s__law_told:Stmt:=top 45
theorem sc__law_told:FnScope ["_law_channel_here","_law_told_here"] ["_law_channel_here"] (defScope s__law_told):=⟨rfl,rfl,rfl,by decide +kernel,rfl,by decide +kernel,by decide +kernel⟩
theorem zf7(A:At K mg "_law_told" s__law_told)(T:Txt K mg) :Known P w K mg base 1 "_law_told" 1 zbk:=zax 0 A sc__law_told (fun f cdv A outer s H E hr=>have hu:=hr.units
 (zaf (zas 1 (zaS (zaa (zbo (zab 0)) (zaa (zbo (zab 0)) (zaa (zbo (zab 0)) (zaa (zbo (zab 0)) (zaa (zbo (zab 0)) (zaa (zbo (zab 0)) zac))))))) sc__law_told.nd)
   (zak (zaV (zaj zaJ (zab 1) (zaS (zaa (zbo (zab 0)) zac))))))) zgn fun _ _ _ _ _ _ us hl=>by obtain⟨_,rfl⟩:=zdx hl;exact rfl
noncomputable abbrev s_law:Stmt:=top 46
theorem sc_law:FnScope ["_law_script","_law_lists","_law_lines_here","_law_seed","_law_text_here","_law_channel_here","_law_part"] ["_law_script"] (defScope s_law):=⟨rfl,rfl,rfl,by decide +kernel,rfl,by decide +kernel,by decide +kernel⟩
theorem zql(T:Txt K mg)(C__law_any:Known P w K mg base 4 "_law_any" 1 zb2)(C__law_lines:Known P w K mg base 1 "_law_lines" 1 zbF)(C__law_loose:Known P w K mg base 2 "_law_loose" 2 zbG)(C__law_text:Known P w K mg base 1 "_law_text" 1 zbQ)(C_read_channel:Known P w K mg base 4 "read_channel" 1 za1)(C__law_plain:Known P w K mg base 7 "_law_plain" 1 zaT)(C__law_told:Known P w K mg base 1 "_law_told" 1 zbk)(V__law_told:KnownV P w K mg base 1 "_law_told" (zjD K ["top","bottom","left","right","wide","bends","keeps"])){f:Addr}(cdv:Value)(A:Around)(outer:List Env)(s:Shared)(H:Hp)(E:XK)(hr:Room 7 (A.deeper (envOfC "law" (defScope s_law) s.heap.objs.size f cdv))) :
  PXs (zjZ CX0 P w K mg base ["_law_script","_law_lists","_law_lines_here","_law_seed","_law_text_here","_law_channel_here","_law_part"] "law" (defScope s_law) f cdv A outer s H E).nox (defBody s_law) zmi:=by
 have hu:=hr.units
 exact(zaf (zas 1 (zah C__law_any hr (zaa (zab 0) zac)) sc_law.nd)
   (zaf (zas 2 (zah C__law_lines hr (zaa (zab 1) zac)) sc_law.nd)
   (zaf (zas 3 (zaj zaL (zaj zfp (zaj zaJ (zaj zaL (zaw (zkc rfl) T.b_sum boot_sum (zaa (zaG (zab 0) zaP (zaz zad)) zac)) (zaj zj5 zad zad)) zad) zad) zad) sc_law.nd)
   (zaf (zcd PassesOwn.never rfl (zaA (zaS (zaa (zah C__law_text hr (zaa (zab 2) zac)) (zaa (zah C__law_loose hr (zaa (zab 2) (zaa (zab 3) zac))) zac)))) (zai 4 sc_law.nd)
    (zaf (zbq 5 (zah C_read_channel hr (zaa (zab 4) zac)) sc_law.nd)
   (zaf (zca (zlx 5 (znD (zk6 (zk0 (zah C__law_plain hr (zaa (zah C__law_told hr (zaa (zab 5) zac)) zac)))) (zk7 (zaD (zqp hu) (zah C__law_told hr (zaa (zab 5) zac)) (zab 1)))).pb) (zak (zaV zmL)) zaZ)
   (zaf (ziT 5 6 V__law_told hr rfl sc_law.nd (nd:=by decide +kernel) (hp:=PassesOwn.never))
   (zak (zca (zaD (zqp hu) (zah C__law_told hr (zaa (zah C_read_channel hr (zaa (zab 4) zac)) zac)) (zab 1)) (zak (zaV zmL)) zaZ))))))
   (zak (zaV zmL))))))
theorem law_ok{fa:Addr}(T:Txt K mg)(A_Channel:AtC K mg "Channel" "Channel.__init__" s_Channel ["top","bottom","left","right","wide","bends","keeps"])(A__law_stem:At K mg "_law_stem" s__law_stem)(A__law_named:At K mg "_law_named" s__law_named)(A__law_mix:At K mg "_law_mix" s__law_mix)(A__law_pins:At K mg "_law_pins" s__law_pins)(A__law_open:At K mg "_law_open" s__law_open)(A__law_many:At K mg "_law_many" s__law_many)(A__law_stretch:At K mg "_law_stretch" s__law_stretch)(A__law_bends:At K mg "_law_bends" s__law_bends)(A__law_keeps:At K mg "_law_keeps" s__law_keeps)(A__law_channel:At K mg "_law_channel" s__law_channel)(A__law_any:At K mg "_law_any" s__law_any)(A__law_lines:At K mg "_law_lines" s__law_lines)(A__law_loose:At K mg "_law_loose" s__law_loose)(A__law_text:At K mg "_law_text" s__law_text)(A_words_of:At K mg "words_of" s_words_of)(A_lines_of:At K mg "lines_of" s_lines_of)(A_demand:At K mg "demand" s_demand)(A_demand_heads:At K mg "demand_heads" s_demand_heads)(A_read_number:At K mg "read_number" s_read_number)(A_read_keep:At K mg "read_keep" s_read_keep)(A_is_name:At K mg "is_name" s_is_name)(A_read_name:At K mg "read_name" s_read_name)(A_read_bend:At K mg "read_bend" s_read_bend)(A_read_wide:At K mg "read_wide" s_read_wide)(A_read_names:At K mg "read_names" s_read_names)(A_read_pins:At K mg "read_pins" s_read_pins)(A_is_rising:At K mg "is_rising" s_is_rising)(A_all_names:At K mg "all_names" s_all_names)(A_demand_lists:At K mg "demand_lists" s_demand_lists)(A_read_channel:At K mg "read_channel" s_read_channel)(A__law_plain:At K mg "_law_plain" s__law_plain)(A__law_told:At K mg "_law_told" s__law_told)(A_law:At K mg "law" s_law)  (hmg:mg "law"=some (.ref fa)):∃fd:FuncData,(∀(s:Shared) (u:Value),BindsTo s fd ⟨[u],[]⟩ [("_law_script",u)])∧∀base:Heap,FnOk P w K mg base CX0 8 fa fd ["_law_script"] (PSp K 1 (zov 63)):=by
 refine zpF (T:=fun _=>zmi) A_law hmg sc_law (fun _ _ _ _ _ _ us hl=>by obtain⟨_,rfl⟩:=zdx hl;exact rfl) (fun base f cdv A outer s H E hr=>?_) (fun _=>znq)
 have C_Channel:KnownC P w K mg base 1 "Channel" 7 zcu:=zhs A_Channel T
 have C__law_stem:Known P w K mg base 1 "_law_stem" 2 zbO:=zfO A__law_stem T 
 have C__law_named:Known P w K mg base 2 "_law_named" 1 za6:=zeZ A__law_named T C__law_stem
 have C__law_mix:Known P w K mg base 1 "_law_mix" 2 zay:=zgo A__law_mix T 
 have C__law_pins:Known P w K mg base 2 "_law_pins" 4 zbP:=zfS A__law_pins T C__law_mix
 have C__law_open:Known P w K mg base 1 "_law_open" 2 zbw:=zfT A__law_open T 
 have C__law_many:Known P w K mg base 1 "_law_many" 5 zbv:=zfU A__law_many T 
 have C__law_stretch:Known P w K mg base 1 "_law_stretch" 5 zbe:=zdW A__law_stretch T 
 have C__law_bends:Known P w K mg base 2 "_law_bends" 4 zbD:=ze0 A__law_bends T C__law_mix C__law_stretch
 have C__law_keeps:Known P w K mg base 2 "_law_keeps" 3 zbE:=ze1 A__law_keeps T C__law_mix
 have C__law_channel:Known P w K mg base 3 "_law_channel" 2 zbf:=zdX A__law_channel T C__law_named C__law_pins C__law_mix C__law_open C__law_many C__law_bends C__law_keeps
 have C__law_any:Known P w K mg base 4 "_law_any" 1 zb2:=zgq A__law_any T C__law_channel C__law_mix C__law_named
 have C__law_lines:Known P w K mg base 1 "_law_lines" 1 zbF:=ze2 A__law_lines T 
 have C__law_loose:Known P w K mg base 2 "_law_loose" 2 zbG:=ze3 A__law_loose T C__law_mix
 have C__law_text:Known P w K mg base 1 "_law_text" 1 zbQ:=zfW A__law_text T 
 have C_words_of:Known P w K mg base 1 "words_of" 1 zb3:=zgs A_words_of T 
 have C_lines_of:Known P w K mg base 2 "lines_of" 1 zb4:=zgt A_lines_of T C_words_of
 have C_demand:Known P w K mg base 1 "demand" 2 zat:=zis A_demand T 
 have C_demand_heads:Known P w K mg base 2 "demand_heads" 1 zbi:=zdZ A_demand_heads T C_demand
 have C_read_number:Known P w K mg base 2 "read_number" 1 zaB:=zeA A_read_number T C_demand
 have C_read_keep:Known P w K mg base 3 "read_keep" 1 zbT:=zfX A_read_keep T C_demand C_read_number
 have C_is_name:Known P w K mg base 1 "is_name" 1 zct:=zhw A_is_name T 
 have C_read_name:Known P w K mg base 2 "read_name" 1 zaO:=zfY A_read_name T C_demand C_is_name
 have C_read_bend:Known P w K mg base 3 "read_bend" 1 zbS:=zfZ A_read_bend T C_demand C_read_name C_read_number
 have C_read_wide:Known P w K mg base 3 "read_wide" 1 zbR:=zf0 A_read_wide T C_demand C_read_number C_read_name
 have C_read_names:Known P w K mg base 3 "read_names" 1 zbm:=ze5 A_read_names T C_read_name
 have C_read_pins:Known P w K mg base 3 "read_pins" 1 zbx:=zf2 A_read_pins T C_read_name
 have C_is_rising:Known P w K mg base 1 "is_rising" 1 za3:=zf3 A_is_rising T 
 have C_all_names:Known P w K mg base 1 "all_names" 1 zbU:=zf4 A_all_names T 
 have C_demand_lists:Known P w K mg base 2 "demand_lists" 1 zbj:=zd0 A_demand_lists T C_demand C_is_rising C_all_names
 have C_read_channel:Known P w K mg base 4 "read_channel" 1 za1:=zd1 A_read_channel T C_lines_of C_demand_heads C_Channel C_read_keep C_read_bend C_read_wide C_read_names C_read_pins C_demand_lists
 have C__law_plain:Known P w K mg base 7 "_law_plain" 1 zaT:=ze6 A__law_plain T 
 have C__law_told:Known P w K mg base 1 "_law_told" 1 zbk:=zf7 A__law_told T 
 have V__law_told:KnownV P w K mg base 1 "_law_told" (zjD K ((["top","bottom","left","right","wide","bends"]:List Str)++(["keeps"]:List Str))):=zoK 0 A__law_told sc__law_told (fun f cdv A outer s H E=>zoL (zcA (zcA (zcA (zcA (zcA (zcA zlP)))))) (zcA zlP) sc__law_told.nd) (fun _ _ _ _ _ _ us hl=>by obtain⟨_,rfl⟩:=zdx hl;exact rfl)
 exact zql T C__law_any C__law_lines C__law_loose C__law_text C_read_channel C__law_plain C__law_told V__law_told cdv A outer s H E hr
end
end Wc
open PySem PySem.W PyProof.Rows
theorem PySem.W.Fast.te10874839739566424796:True:=trivial
noncomputable def PySem.W.Fast.tw2990657671932822889:PySem.Program:=PySem.Challenge.pw_wirechannel_k03_read
theorem PySem.W.Fast.te2990657671932822889:PySem.Challenge.pw_wirechannel_k03_read=PySem.W.Fast.tw2990657671932822889:=rfl
noncomputable def PySem.W.Fast.tw17872010040660592161:PySem.Program:={ PySem.Challenge.pw_wirechannel_k03_read with main:={ PySem.Challenge.pw_wirechannel_k03_read.main with body:=[1,2,3,4,6,7,9,10,11,12,13,14,15,16,17,18,19,20,21,22,23,24,25,26,27,28,30,31,32,33,34,35,36,37,38,39,40,41,42,43,44,45,46].map fun i=>PySem.Challenge.pw_wirechannel_k03_read.main.body.getD i (.Pass ⟨0,0,0,0⟩) } }
theorem PySem.W.Fast.te17872010040660592161:({ PySem.Challenge.pw_wirechannel_k03_read with main:={ PySem.Challenge.pw_wirechannel_k03_read.main with body:=[1,2,3,4,6,7,9,10,11,12,13,14,15,16,17,18,19,20,21,22,23,24,25,26,27,28,30,31,32,33,34,35,36,37,38,39,40,41,42,43,44,45,46].map fun i=>PySem.Challenge.pw_wirechannel_k03_read.main.body.getD i (.Pass ⟨0,0,0,0⟩) } }:PySem.Program)=PySem.W.Fast.tw17872010040660592161:=rfl
theorem PySem.Challenge.cw_wirechannel_k03_read_holds : PySem.Challenge.rw_wirechannel_k03_read.Holds := by
 w_on;o_law;k_head;(case hw=>w_witness2)
 k_fill
 refine L2.walk_pure (l:=PySem.Challenge.rw_wirechannel_k03_read) (n:=63) (k:=8) (x:="_law_script") rfl (by decide) rfl ⟨rfl,by decide,by decide⟩ (fun w h Y=>PySem.W.kIn_of Y) ?F
 case F=>
  intro w mg fa h KX G hmg
  have A_Channel:L2.AtC (L2.KOf KX) mg "Channel" "Channel.__init__" Wc.s_Channel ["top","bottom","left","right","wide","bends","keeps"]:=by
   dsimp only[L2.KOf]
   refine' L2.atC_mk KX G ?aC ?a1 ?i1 ?l1 ?c1 ?k1 ?pg ?hd ?po ?sa ?mk ?kc ⟨?n0,?n1,?n2,?n3,?n4,?n5,?n6,trivial⟩
   (case aC=>k_is)
   (case a1=>k_is)
   (case i1=>k_is)
   (case l1=>k_is)
   (case c1=>k_is)
   (case k1=>k_is)
   (case pg=>k_is)
   (case hd=>k_is)
   (case po=>k_is)
   (case sa=>k_is)
   (case mk=>k_is)
   (case kc=>k_is)
   (case n0=>unfold L2.NoAttr;k_is)
   (case n1=>unfold L2.NoAttr;k_is)
   (case n2=>unfold L2.NoAttr;k_is)
   (case n3=>unfold L2.NoAttr;k_is)
   (case n4=>unfold L2.NoAttr;k_is)
   (case n5=>unfold L2.NoAttr;k_is)
   (case n6=>unfold L2.NoAttr;k_is)
  have A__law_stem:L2.At (L2.KOf KX) mg "_law_stem" Wc.s__law_stem:=by
   dsimp only[L2.KOf]
   refine' L2.at_mk KX G ?a ?l ?c ?k
   (case a=>k_is);(case l=>k_is);(case c=>k_is);(case k=>k_is)
  have A__law_named:L2.At (L2.KOf KX) mg "_law_named" Wc.s__law_named:=by
   dsimp only[L2.KOf]
   refine' L2.at_mk KX G ?a ?l ?c ?k
   (case a=>k_is);(case l=>k_is);(case c=>k_is);(case k=>k_is)
  have A__law_mix:L2.At (L2.KOf KX) mg "_law_mix" Wc.s__law_mix:=by
   dsimp only[L2.KOf]
   refine' L2.at_mk KX G ?a ?l ?c ?k
   (case a=>k_is);(case l=>k_is);(case c=>k_is);(case k=>k_is)
  have A__law_pins:L2.At (L2.KOf KX) mg "_law_pins" Wc.s__law_pins:=by
   dsimp only[L2.KOf]
   refine' L2.at_mk KX G ?a ?l ?c ?k
   (case a=>k_is);(case l=>k_is);(case c=>k_is);(case k=>k_is)
  have A__law_open:L2.At (L2.KOf KX) mg "_law_open" Wc.s__law_open:=by
   dsimp only[L2.KOf]
   refine' L2.at_mk KX G ?a ?l ?c ?k
   (case a=>k_is);(case l=>k_is);(case c=>k_is);(case k=>k_is)
  have A__law_many:L2.At (L2.KOf KX) mg "_law_many" Wc.s__law_many:=by
   dsimp only[L2.KOf]
   refine' L2.at_mk KX G ?a ?l ?c ?k
   (case a=>k_is);(case l=>k_is);(case c=>k_is);(case k=>k_is)
  have A__law_stretch:L2.At (L2.KOf KX) mg "_law_stretch" Wc.s__law_stretch:=by
   dsimp only[L2.KOf]
   refine' L2.at_mk KX G ?a ?l ?c ?k
   (case a=>k_is);(case l=>k_is);(case c=>k_is);(case k=>k_is)
  have A__law_bends:L2.At (L2.KOf KX) mg "_law_bends" Wc.s__law_bends:=by
   dsimp only[L2.KOf]
   refine' L2.at_mk KX G ?a ?l ?c ?k
   (case a=>k_is);(case l=>k_is);(case c=>k_is);(case k=>k_is)
  have A__law_keeps:L2.At (L2.KOf KX) mg "_law_keeps" Wc.s__law_keeps:=by
   dsimp only[L2.KOf]
   refine' L2.at_mk KX G ?a ?l ?c ?k
   (case a=>k_is);(case l=>k_is);(case c=>k_is);(case k=>k_is)
  have A__law_channel:L2.At (L2.KOf KX) mg "_law_channel" Wc.s__law_channel:=by
   dsimp only[L2.KOf]
   refine' L2.at_mk KX G ?a ?l ?c ?k
   (case a=>k_is);(case l=>k_is);(case c=>k_is);(case k=>k_is)
  have A__law_any:L2.At (L2.KOf KX) mg "_law_any" Wc.s__law_any:=by
   dsimp only[L2.KOf]
   refine' L2.at_mk KX G ?a ?l ?c ?k
   (case a=>k_is);(case l=>k_is);(case c=>k_is);(case k=>k_is)
  have A__law_lines:L2.At (L2.KOf KX) mg "_law_lines" Wc.s__law_lines:=by
   dsimp only[L2.KOf]
   refine' L2.at_mk KX G ?a ?l ?c ?k
   (case a=>k_is);(case l=>k_is);(case c=>k_is);(case k=>k_is)
  have A__law_loose:L2.At (L2.KOf KX) mg "_law_loose" Wc.s__law_loose:=by
   dsimp only[L2.KOf]
   refine' L2.at_mk KX G ?a ?l ?c ?k
   (case a=>k_is);(case l=>k_is);(case c=>k_is);(case k=>k_is)
  have A__law_text:L2.At (L2.KOf KX) mg "_law_text" Wc.s__law_text:=by
   dsimp only[L2.KOf]
   refine' L2.at_mk KX G ?a ?l ?c ?k
   (case a=>k_is);(case l=>k_is);(case c=>k_is);(case k=>k_is)
  have A_words_of:L2.At (L2.KOf KX) mg "words_of" Wc.s_words_of:=by
   dsimp only[L2.KOf]
   refine' L2.at_mk KX G ?a ?l ?c ?k
   (case a=>k_is);(case l=>k_is);(case c=>k_is);(case k=>k_is)
  have A_lines_of:L2.At (L2.KOf KX) mg "lines_of" Wc.s_lines_of:=by
   dsimp only[L2.KOf]
   refine' L2.at_mk KX G ?a ?l ?c ?k
   (case a=>k_is);(case l=>k_is);(case c=>k_is);(case k=>k_is)
  have A_demand:L2.At (L2.KOf KX) mg "demand" Wc.s_demand:=by
   dsimp only[L2.KOf]
   refine' L2.at_mk KX G ?a ?l ?c ?k
   (case a=>k_is);(case l=>k_is);(case c=>k_is);(case k=>k_is)
  have A_demand_heads:L2.At (L2.KOf KX) mg "demand_heads" Wc.s_demand_heads:=by
   dsimp only[L2.KOf]
   refine' L2.at_mk KX G ?a ?l ?c ?k
   (case a=>k_is);(case l=>k_is);(case c=>k_is);(case k=>k_is)
  have A_read_number:L2.At (L2.KOf KX) mg "read_number" Wc.s_read_number:=by
   dsimp only[L2.KOf]
   refine' L2.at_mk KX G ?a ?l ?c ?k
   (case a=>k_is);(case l=>k_is);(case c=>k_is);(case k=>k_is)
  have A_read_keep:L2.At (L2.KOf KX) mg "read_keep" Wc.s_read_keep:=by
   dsimp only[L2.KOf]
   refine' L2.at_mk KX G ?a ?l ?c ?k
   (case a=>k_is);(case l=>k_is);(case c=>k_is);(case k=>k_is)
  have A_is_name:L2.At (L2.KOf KX) mg "is_name" Wc.s_is_name:=by
   dsimp only[L2.KOf]
   refine' L2.at_mk KX G ?a ?l ?c ?k
   (case a=>k_is);(case l=>k_is);(case c=>k_is);(case k=>k_is)
  have A_read_name:L2.At (L2.KOf KX) mg "read_name" Wc.s_read_name:=by
   dsimp only[L2.KOf]
   refine' L2.at_mk KX G ?a ?l ?c ?k
   (case a=>k_is);(case l=>k_is);(case c=>k_is);(case k=>k_is)
  have A_read_bend:L2.At (L2.KOf KX) mg "read_bend" Wc.s_read_bend:=by
   dsimp only[L2.KOf]
   refine' L2.at_mk KX G ?a ?l ?c ?k
   (case a=>k_is);(case l=>k_is);(case c=>k_is);(case k=>k_is)
  have A_read_wide:L2.At (L2.KOf KX) mg "read_wide" Wc.s_read_wide:=by
   dsimp only[L2.KOf]
   refine' L2.at_mk KX G ?a ?l ?c ?k
   (case a=>k_is);(case l=>k_is);(case c=>k_is);(case k=>k_is)
  have A_read_names:L2.At (L2.KOf KX) mg "read_names" Wc.s_read_names:=by
   dsimp only[L2.KOf]
   refine' L2.at_mk KX G ?a ?l ?c ?k
   (case a=>k_is);(case l=>k_is);(case c=>k_is);(case k=>k_is)
  have A_read_pins:L2.At (L2.KOf KX) mg "read_pins" Wc.s_read_pins:=by
   dsimp only[L2.KOf]
   refine' L2.at_mk KX G ?a ?l ?c ?k
   (case a=>k_is);(case l=>k_is);(case c=>k_is);(case k=>k_is)
  have A_is_rising:L2.At (L2.KOf KX) mg "is_rising" Wc.s_is_rising:=by
   dsimp only[L2.KOf]
   refine' L2.at_mk KX G ?a ?l ?c ?k
   (case a=>k_is);(case l=>k_is);(case c=>k_is);(case k=>k_is)
  have A_all_names:L2.At (L2.KOf KX) mg "all_names" Wc.s_all_names:=by
   dsimp only[L2.KOf]
   refine' L2.at_mk KX G ?a ?l ?c ?k
   (case a=>k_is);(case l=>k_is);(case c=>k_is);(case k=>k_is)
  have A_demand_lists:L2.At (L2.KOf KX) mg "demand_lists" Wc.s_demand_lists:=by
   dsimp only[L2.KOf]
   refine' L2.at_mk KX G ?a ?l ?c ?k
   (case a=>k_is);(case l=>k_is);(case c=>k_is);(case k=>k_is)
  have A_read_channel:L2.At (L2.KOf KX) mg "read_channel" Wc.s_read_channel:=by
   dsimp only[L2.KOf]
   refine' L2.at_mk KX G ?a ?l ?c ?k
   (case a=>k_is);(case l=>k_is);(case c=>k_is);(case k=>k_is)
  have A__law_plain:L2.At (L2.KOf KX) mg "_law_plain" Wc.s__law_plain:=by
   dsimp only[L2.KOf]
   refine' L2.at_mk KX G ?a ?l ?c ?k
   (case a=>k_is);(case l=>k_is);(case c=>k_is);(case k=>k_is)
  have A__law_told:L2.At (L2.KOf KX) mg "_law_told" Wc.s__law_told:=by
   dsimp only[L2.KOf]
   refine' L2.at_mk KX G ?a ?l ?c ?k
   (case a=>k_is);(case l=>k_is);(case c=>k_is);(case k=>k_is)
  have A_law:L2.At (L2.KOf KX) mg "law" Wc.s_law:=by
   dsimp only[L2.KOf]
   refine' L2.at_mk KX G ?a ?l ?c ?k
   (case a=>k_is);(case l=>k_is);(case c=>k_is);(case k=>k_is)
  have c_FIGURES:∃t,mg "FIGURES"=some (.str "0123456789" t):=by
   refine' L2.conS_mk KX G ?c ?e
   (case c=>k_is)
   (case e=>exact rfl)
  have c_FIRST_HEADS:L2.ConT (L2.KOf KX) mg "FIRST_HEADS" ["top","bottom","left","right"]:=by
   dsimp only[L2.KOf]
   refine' L2.conT_mk KX G ?c ?l ?h
   (case c=>k_is)
   (case l=>k_is)
   (case h=>exact⟨rfl,_,_,rfl,by decide,(.cons ⟨_,rfl⟩ (.cons ⟨_,rfl⟩ (.cons ⟨_,rfl⟩ (.cons ⟨_,rfl⟩ .nil))))⟩)
  have c_LETTERS:∃t,mg "LETTERS"=some (.str "abcdefghijklmnopqrstuvwxyz" t):=by
   refine' L2.conS_mk KX G ?c ?e
   (case c=>k_is)
   (case e=>exact rfl)
  have c_LONGEST_NAME:∃t,mg "LONGEST_NAME"=some (.int 6 t):=by
   refine' L2.conI_mk KX G ?c ?e
   (case c=>k_is)
   (case e=>exact rfl)
  have c_MOST_COLUMNS:∃t,mg "MOST_COLUMNS"=some (.int 40 t):=by
   refine' L2.conI_mk KX G ?c ?e
   (case c=>k_is)
   (case e=>exact rfl)
  have c_MOST_KEEPS:∃t,mg "MOST_KEEPS"=some (.int 8 t):=by
   refine' L2.conI_mk KX G ?c ?e
   (case c=>k_is)
   (case e=>exact rfl)
  have c_MOST_NAMES:∃t,mg "MOST_NAMES"=some (.int 24 t):=by
   refine' L2.conI_mk KX G ?c ?e
   (case c=>k_is)
   (case e=>exact rfl)
  have T:Wc.Txt (L2.KOf KX) mg:=by
   dsimp only[L2.KOf]
   refine' ⟨PySem.W.mg_none_of KX G ?b_all,PySem.W.mg_none_of KX G ?b_bool,PySem.W.mg_none_of KX G ?b_enumerate,PySem.W.mg_none_of KX G ?b_int,PySem.W.mg_none_of KX G ?b_isinstance,PySem.W.mg_none_of KX G ?b_len,PySem.W.mg_none_of KX G ?b_list,PySem.W.mg_none_of KX G ?b_max,PySem.W.mg_none_of KX G ?b_min,PySem.W.mg_none_of KX G ?b_range,PySem.W.mg_none_of KX G ?b_set,PySem.W.mg_none_of KX G ?b_sorted,PySem.W.mg_none_of KX G ?b_str,PySem.W.mg_none_of KX G ?b_sum,PySem.W.mg_none_of KX G ?b_tuple,PySem.W.mg_none_of KX G ?b_zip,c_FIGURES,c_FIRST_HEADS,c_LETTERS,c_LONGEST_NAME,c_MOST_COLUMNS,c_MOST_KEEPS,c_MOST_NAMES⟩
   (case b_all=>k_is)
   (case b_bool=>k_is)
   (case b_enumerate=>k_is)
   (case b_int=>k_is)
   (case b_isinstance=>k_is)
   (case b_len=>k_is)
   (case b_list=>k_is)
   (case b_max=>k_is)
   (case b_min=>k_is)
   (case b_range=>k_is)
   (case b_set=>k_is)
   (case b_sorted=>k_is)
   (case b_str=>k_is)
   (case b_sum=>k_is)
   (case b_tuple=>k_is)
   (case b_zip=>k_is)
  exact Wc.law_ok T A_Channel A__law_stem A__law_named A__law_mix A__law_pins A__law_open A__law_many A__law_stretch A__law_bends A__law_keeps A__law_channel A__law_any A__law_lines A__law_loose A__law_text A_words_of A_lines_of A_demand A_demand_heads A_read_number A_read_keep A_is_name A_read_name A_read_bend A_read_wide A_read_names A_read_pins A_is_rising A_all_names A_demand_lists A_read_channel A__law_plain A__law_told A_law hmg
#print axioms PySem.Challenge.cw_wirechannel_k03_read_holds
