import PyProof.Rows.All
import Wide.All
import OpenK.AllK
import Wide.FinOn
import OpenK.KMore
import KE.KTryOn
import KE.KxBytes
import KE.KItem
import Lean
import PyProof.EqAt
import PyProof.EqKinds
import PyProof.TupleCall
import PyProof.NeKinds
import PyProof.SliceStr2
import PyProof.ConsumeWalk
import KE.KDictSum
import PyProof.DictWalks
import PyProof.AttrMissSeq
import KE.KDictOf
import PyProof.WalksS
import PyProof.Walks
import PyProof.DictList
import PyProof.MeetsDict
import PyProof.FactsAll.dict_3
import PyProof.MinMaxWalk
import PyProof.WalkInts
import PyProof.Rows.CallKwBuiltin
import PyProof.MaxThree
import PyProof.Rows.SortRunsK
import PyProof.Rows.SortShellK
import KE.KSortTup
import PyProof.DictRoadsH
import PyProof.DictIter
import KE.KDictList
import PyProof.ZipIter
import PyProof.TupleIter
import PyProof.WalksMore
import PyProof.SumWalkG
import PyProof.DictValues
import PyProof.FactsAll.dict_4
import PySem.SetOps
import PyProof.ListRange
import PyProof.DictItems
import PyProof.CallStr
import KE.KIntText
import PyProof.StrCalls2
import PyProof.Rows.StrItems
import PySem.Challenge.RW_wirechannel_k20_what_must_lie_above
set_option hygiene false
set_option compiler.extract_closed false
local macro_rules | `(tactic| omega) => `(tactic| lia)
set_option Elab.async false
set_option linter.all false
set_option maxRecDepth 100000
namespace L2
open PySem PySem.Spec PyProof.Rows
noncomputable abbrev Key:=Sum Int Str
noncomputable def zoi:Key→Value→Bool
 | .inl k,v=>Value.isInt k v
 | .inr x,v=>Value.isStrOf x v
noncomputable def zqI(w:World):Key→Int
 | .inl k=>hashInt k
 | .inr x=>hashStr w x
theorem zaU:∀{k:Key} {v:Value},zoi k v=true→(∃i t,k=Sum.inl i∧v=Value.int i t)∨(∃x t,k=Sum.inr x∧v=Value.str x t)
 | .inl i,v,h=>by
  obtain⟨t,e⟩:=Value.isInt_shape (k:=i) (v:=v) h
  exact .inl ⟨i,t,rfl,e⟩
 | .inr x,v,h=>by
  obtain⟨t,e⟩:=Value.isStrOf_shape (x:=x) (v:=v) h
  exact .inr ⟨x,t,rfl,e⟩
theorem zoj(a b:Int):decide ((Sum.inl a:Key)=Sum.inl b)=(a==b):=by
 by_cases e:a=b
 ·subst e;simp
 ·have h:¬(Sum.inl a:Key)=Sum.inl b:=fun q=>e (Sum.inl.inj q)
  rw[decide_eq_false h]
  exact(beq_eq_false_iff_ne.mpr e).symm
theorem zok(a b:Str):decide ((Sum.inr a:Key)=Sum.inr b)=decide (a=b):=by
 by_cases e:a=b
 ·subst e;simp
 ·have h:¬(Sum.inr a:Key)=Sum.inr b:=fun q=>e (Sum.inr.inj q)
  rw[decide_eq_false h,decide_eq_false e]
theorem zol(a:Int)(b:Str):decide ((Sum.inl a:Key)=Sum.inr b)=false:=decide_eq_false (fun q=>nomatch q)
theorem zom(a:Str)(b:Int):decide ((Sum.inr a:Key)=Sum.inl b)=false:=decide_eq_false (fun q=>nomatch q)
noncomputable def zjL(prog:Program)(w:World):PySem.KeyKind prog w Key where
 is:=zoi
 hash:=zqI w
 inj:=fun v a b ha hb=>by
  rcases zaU ha with⟨i,t,rfl,rfl⟩ | ⟨x,t,rfl,rfl⟩
  ·rcases zaU hb with⟨j,u,rfl,e⟩ | ⟨y,u,rfl,e⟩
   ·injection e with e1 _;rw[e1]
   ·exact nomatch e
  ·rcases zaU hb with⟨j,u,rfl,e⟩ | ⟨y,u,rfl,e⟩
   ·exact nomatch e
   ·injection e with e1 _;rw[e1]
 byValue:=fun k v h=>by
  rcases zaU h with⟨i,t,rfl,rfl⟩ | ⟨x,t,rfl,rfl⟩<;>rfl
 pyHash:=fun hv h=>by
  rcases zaU hv with⟨i,t,rfl,rfl⟩ | ⟨x,t,rfl,rfl⟩
  ·exact wpAny_pyHash_int h
  ·exact wpAny_pyHash_str h
 eqBool:=fun hu hv h=>by
  rcases zaU hu with⟨i,t,rfl,rfl⟩ | ⟨x,t,rfl,rfl⟩
  ·rcases zaU hv with⟨j,u,rfl,rfl⟩ | ⟨y,u,rfl,rfl⟩
   ·rw[zoj] at h;exact wpAny_eqBool_int h
   ·rw[zol] at h;exact SeqAt.EqAt.int_str i t y u _ _ _ _ h
  ·rcases zaU hv with⟨j,u,rfl,rfl⟩ | ⟨y,u,rfl,rfl⟩
   ·rw[zom] at h;exact SeqAt.EqAt.str_int x t j u _ _ _ _ h
   ·rw[zok] at h;exact wpAny_eqBool_str h
 «strs»:=fun k x t v h=>by
  rcases zaU h with⟨i,u,rfl,e⟩ | ⟨y,u,rfl,e⟩
  ·exact nomatch e
  ·injection e with e1 _
   subst e1
   cases v<;>rfl
end L2
namespace L2
open PySem PySem.Spec PyProof.Rows
inductive V where
 | non | bl (b:Bool) | int (i:Int) | str (x:Str) | byt (b:Array UInt8) | flt (b:UInt64) | ref (a:Addr) | ty (n:String)
 deriving DecidableEq
noncomputable def RelV:V→Value→Prop
 | .non,u=>u=Value.none
 | .bl b,u=>u=Value.bool b
 | .int i,u=>∃t,u=Value.int i t
 | .str x,u=>∃t,u=Value.str x t
 | .byt b,u=>∃t,u=Value.bytes b t
 | .flt b,u=>∃t,u=Value.float b t
 | .ref a,u=>u=Value.ref a
 | .ty n,u=>u=Value.type n
noncomputable abbrev Vals:List V→List Value→Prop:=Paired RelV
theorem Vals.length{xs:List V}{us:List Value}(r:Vals xs us):xs.length=us.length:=Paired.length r
theorem Vals.get:∀{xs:List V} {us:List Value} {i:Nat} {x:V},Vals xs us→xs[i]?=some x→∃u,us[i]?=some u∧RelV x u
 | _,_,_,_,.nil,e=>by simp at e
 | _,_,0,_,.cons r _,e=>by simp at e;subst e;exact⟨_,rfl,r⟩
 | _,_,i+1,x,.cons _ t,e=>by
  obtain⟨u,h1,h2⟩:=Vals.get (i:=i) (x:=x) t (by simpa using e)
  exact⟨u,by simpa using h1,h2⟩
theorem Vals.append:∀{xs ys:List V} {us ws:List Value},Vals xs us→Vals ys ws→Vals (xs++ys) (us++ws)
 | _,_,_,_,.nil,s=>s
 | _,_,_,_,.cons r t,s=>.cons r (Vals.append t s)
theorem Vals.take:∀{xs:List V} {us:List Value} (n:Nat),Vals xs us→Vals (xs.take n) (us.take n)
 | _,_,0,_=>.nil
 | _,_,_+1,.nil=>.nil
 | _,_,n+1,.cons r t=>.cons r (Vals.take n t)
theorem Vals.drop:∀{xs:List V} {us:List Value} (n:Nat),Vals xs us→Vals (xs.drop n) (us.drop n)
 | _,_,0,r=>r
 | _,_,_+1,.nil=>.nil
 | _,_,n+1,.cons _ t=>Vals.drop n t
noncomputable def RelO:Option V→Option Value→Prop
 | some v,some u=>RelV v u
 | none,none=>True
 | _,_=>False
noncomputable def KV{κ:Type}:List (κ×V)→List (κ×Value)→Prop:=Paired fun(p:κ×V) (q:κ×Value)=>p.1=q.1∧RelV p.2 q.2
noncomputable def kV:Key→V
 | .inl i=>.int i
 | .inr x=>.str x
inductive HO where
 /-- a list -/
 | lst (xs:List V)
 /-- a tuple (never changes) -/
 | tup (xs:List V)
 /-- a dict whose keys are ints and texts;one whose keys are tuples of ints and texts (the empty one is both) -/
 | dK (kvs:List (Key×V)) (ep:Nat) | dT (kvs:List (List Key×V)) (bs:List Addr)
 /-- a set of ints: its members,its size -/
 | set (S:Int→Bool) (n:Nat)
 /-- an instance of the class at C,its dict at dx,its attributes -/
 | ins (C dx:Addr) (fs:List (Str×V))
 /-- the dict of the instance at x -/
 | own (x:Addr)
 /-- the dict of an exception -/
 | xd (fs:List (Str×V))
 /-- a bound method,f of x -/
 | met (f x:Addr)
 /-- a range object lo,lo+1,.. below hi -/
 | rng (lo hi:Int)
 /-- a thing that is known to the object (the script;a dict while a loop walks it): read,never written while it is so -/
 | frz (o:Obj) (u:HO)
 /-- a code object's table -/
 | tbl (ps:Array Value)
 /-- any other thing,by what is true of its one object (a def of one's own: SetO a S n:=HO.ext fun h=>..) -/
 | ext (φ:Heap→Prop)
noncomputable abbrev Hp:=Addr→Option HO
noncomputable def upd(H:Hp)(a:Addr)(o:HO):Hp:=fun b=>if b=a then some o else H b
theorem zau{H:Hp}{a:Addr}{o:HO}:upd H a o a=some o:=by unfold upd;rw[if_pos rfl]
theorem zar{H:Hp}{a b:Addr}{o:HO}(h:b≠a):upd H a o b=H b:=by unfold upd;rw[if_neg h]
theorem zpT{H:Hp}{a b:Addr}{o u:HO}(h:H a=some o)(h':H b=some u)(d:o≠u):a≠b:=by
 intro e;subst e;rw[h] at h';exact d (Option.some.inj h')
theorem zat{H:Hp}{a b:Addr}{o:HO}(h:H a=some o)(h':H b=none):a≠b:=by
 intro e;subst e;rw[h] at h';cases h'
section
variable (P:Program) (w:World)
noncomputable def ObjOk(H:Hp)(h:Heap)(a:Addr):HO→Prop
 | .lst xs=>xs.length≤sizeLine∧∃(its:List Value) (n:Nat),Vals xs its∧h.get? a=some { cls:=.type "list",data:=.seq its.toArray n }
 | .tup xs=>xs.length≤sizeLine∧∃its:List Value,Vals xs its∧IsTup h a its.toArray
 | .dK kvs ep=>kvs.length≤sizeLine∧(a==sysModules)=false∧∃vs,KV kvs vs∧h.DictAt (zjL P w) a vs ep
 | .dT kvs bs=>kvs.length≤sizeLine∧(a==sysModules)=false∧∃xs:List (List Key×Addr×Value),xs.map (fun x=>x.2.1)=bs∧
   Paired (fun(p:List Key×V) (q:List Key×Addr×Value)=>p.1=q.1∧H q.2.1=some (.tup (p.1.map kV))∧RelV p.2 q.2.2) kvs xs∧
   ∃o es ep,h.get? a=some o∧o.ExactDict∧o.data=.dict es ep∧es.toList=xs.map (entryOfKey (tupleKind (zjL P w)))∧(xs.map (·.1)).Nodup
 | .set S n=>h.SetOf (intKind P w) a S n
 | .ins C dx fs=>H dx=some (.own a)∧fs.length≤1000∧dx≠a∧h.get? a=some (PySem.W.instObj C dx)∧
   ∃mA,h.Ns1 dx mA∧(∀f,RelO (fs.lookup f) (mA f))∧PySem.Within mA (fs.map (·.1))
 | .own _=>∃o,h.get? a=some o
 | .xd fs=>∃mA,h.Ns1 a mA∧∀f,RelO (fs.lookup f) (mA f)
 | .rng lo hi=>∃t u v,h.get? a=some { cls:=.type "range",data:=.fields #[.int lo t,.int hi u,.int 1 v] }
 | .frz o u=>h.get? a=some o∧ObjOk H h a u
 | .tbl ps=>h.get? a=some { cls:=.none,data:=.fields ps }
 | .met f x=>h.get? a=some (PySem.W.methodObj (.ref f) (.ref x))
 | .ext φ=>φ h∧(∃o,h.get? a=some o)∧∀h1 h2:Heap,φ h1→(∀o,h1.get? a=some o→h2.get? a=some o)→φ h2
noncomputable def HOk(H:Hp)(h:Heap):Prop:=∀a o,H a=some o→ObjOk P w H h a o
end
section
variable {P:Program} {w:World} {H H':Hp} {h h':Heap} {a:Addr} {o:HO}
theorem ObjOk.lt(x:ObjOk P w H h a o):a<h.objs.size:=by
 cases o with
 | lst xs=>obtain⟨_,_,_,_,e⟩:=x;exact Heap.lt_size e
 | tup xs=>obtain⟨_,_,_,p⟩:=x;exact p.lt
 | dK kvs ep=>obtain⟨_,_,_,_,o,_,e,_⟩:=x;exact Heap.lt_size e
 | dT kvs bs=>obtain⟨_,_,_,_,_,o,_,_,e,_⟩:=x;exact Heap.lt_size e
 | set S n=>obtain⟨o,_,_,_,e,_⟩:=x;exact Heap.lt_size e
 | ins C dx fs=>obtain⟨_,_,_,e,_⟩:=x;exact Heap.lt_size e
 | own y=>obtain⟨_,e⟩:=x;exact Heap.lt_size e
 | xd fs=>obtain⟨_,⟨_,_,_,e,_⟩,_⟩:=x;exact Heap.lt_size e
 | rng lo hi=>obtain⟨_,_,_,e⟩:=x;exact Heap.lt_size e
 | frz ob u=>obtain⟨e,_⟩:=x;exact Heap.lt_size e
 | tbl ps=>exact Heap.lt_size (show h.get? a=some _ from x)
 | met f y=>exact Heap.lt_size (show h.get? a=some _ from x)
 | ext φ=>obtain⟨_,⟨_,e⟩,_⟩:=x;exact Heap.lt_size e
theorem Paired.mapP{α β:Type}{F G:α→β→Prop}:∀{l₁:List α} {l₂:List β},Paired F l₁ l₂→(∀a b,F a b→G a b)→Paired G l₁ l₂
 | _,_,.nil,_=>.nil
 | _,_,.cons r t,f=>.cons (f _ _ r) (Paired.mapP t f)
theorem ObjOk.stay(x:ObjOk P w H h a o)(k:∀b u,(b=a∨H b=some (.own a))→h.get? b=some u→h'.get? b=some u)
  (ho:∀b,H b=some (.own a)→H' b=some (.own a)) (ht:∀b xs,H b=some (.tup xs)→H' b=some (.tup xs)):ObjOk P w H' h' a o:=by
 induction o with
 | lst xs=>obtain⟨z,its,n,r,e⟩:=x;exact⟨z,its,n,r,k _ _ (.inl rfl) e⟩
 | tup xs=>obtain⟨z,its,r,ob,e,c⟩:=x;exact⟨z,its,r,ob,k _ _ (.inl rfl) e,c⟩
 | dK kvs ep=>obtain⟨z,y,vs,r,ob,es,e,c⟩:=x;exact⟨z,y,vs,r,ob,es,k _ _ (.inl rfl) e,c⟩
 | dT kvs bs=>
  obtain⟨z,y,xs,bq,r,ob,es,ep,e,c⟩:=x
  exact⟨z,y,xs,bq,Paired.mapP r fun p q z=>⟨z.1,ht _ _ z.2.1,z.2.2⟩,ob,es,ep,k _ _ (.inl rfl) e,c⟩
 | set S n=>obtain⟨ob,es,ep,t,e,c⟩:=x;exact⟨ob,es,ep,t,k _ _ (.inl rfl) e,c⟩
 | ins C dx fs=>
  obtain⟨d,z,ne,e,mA,⟨od,es,ep,e2,c⟩,r⟩:=x
  exact⟨ho _ d,z,ne,k _ _ (.inl rfl) e,mA,⟨od,es,ep,k _ _ (.inr d) e2,c⟩,r⟩
 | own y=>obtain⟨ob,e⟩:=x;exact⟨ob,k _ _ (.inl rfl) e⟩
 | xd fs=>obtain⟨mA,⟨od,es,ep,e,c⟩,r⟩:=x;exact⟨mA,⟨od,es,ep,k _ _ (.inl rfl) e,c⟩,r⟩
 | rng lo hi=>obtain⟨t,u,v,e⟩:=x;exact⟨t,u,v,k _ _ (.inl rfl) e⟩
 | frz ob u ih=>obtain⟨e,q⟩:=x;exact⟨k _ _ (.inl rfl) e,ih q⟩
 | tbl ps=>
  have e:h.get? a=some { cls:=.none,data:=.fields ps }:=x
  show h'.get? a=some { cls:=.none,data:=.fields ps }
  exact k a _ (.inl rfl) e
 | met f y=>
  have e:h.get? a=some (PySem.W.methodObj (.ref f) (.ref y)):=x
  show h'.get? a=some (PySem.W.methodObj (.ref f) (.ref y))
  exact k a _ (.inl rfl) e
 | ext φ=>obtain⟨p,⟨o,e⟩,st⟩:=x;exact⟨st _ _ p fun o q=>k _ _ (.inl rfl) q,⟨o,k _ _ (.inl rfl) e⟩,st⟩
theorem HOk.lt(x:HOk P w H h)(e:H a=some o):a<h.objs.size:=(x a o e).lt
theorem HOk.fresh(x:HOk P w H h)(e:h.objs.size≤a):H a=none:=by
 cases q:H a with
 | none=>rfl
 | some u=>exact absurd (Nat.lt_of_lt_of_le (x.lt q) e) (Nat.lt_irrefl _)
theorem HOk.kept(x:HOk P w H h)(k:∀b u,h.get? b=some u→h'.get? b=some u):HOk P w H h':=fun a o e=>
 (x a o e).stay (fun b u _ q=>k b u q) (fun _ q=>q) fun _ _ q=>q
theorem HOk.laid(x:HOk P w H h)(k:∀b u,h.get? b=some u→h'.get? b=some u)(hp:h.objs.size≤a)(new:ObjOk P w (upd H a o) h' a o):HOk P w (upd H a o) h':=fun b u e=>by
 have hn:=x.fresh hp
 by_cases hb:b=a
 ·subst hb;rw[zau] at e;cases e;exact new
 ·rw[zar hb] at e
  exact(x b u e).stay (fun c v _ q=>k c v q) (fun c q=>by rw[zar (zat q hn)];exact q) fun c xs q=>by rw[zar (zat q hn)];exact q
end
noncomputable def Rd(H:Hp)(a:Addr)(u:HO):Prop:=H a=some u∨∃o,H a=some (.frz o u)
theorem Rd.ok{P:Program}{w:World}{H:Hp}{h:Heap}{a:Addr}{u:HO}(r:Rd H a u)(x:HOk P w H h):ObjOk P w H h a u:=by
 rcases r with r | ⟨o,r⟩
 ·exact x a u r
 ·obtain⟨_,q⟩:=x a _ r
  exact q
noncomputable def Mut:Option HO→Prop
 | some (.lst _)=>True
 | some (.dK _ _)=>True
 | some (.dT _ _)=>True
 | some (.set _ _)=>True
 | some (.ins _ _ _)=>True
 | some (.ext _)=>True
 | _=>False
section
variable {P:Program} {w:World} {H:Hp} {h h':Heap} {x e:Addr} {o':HO}
theorem HOk.write(ok:HOk P w H h)(mu:Mut (H x))(he:e=x∨H e=some (.own x))(k:∀b u,b≠e→h.get? b=some u→h'.get? b=some u)(heo:∃u,h'.get? e=some u)
  (new:ObjOk P w (upd H x o') h' x o'):HOk P w (upd H x o') h':=fun b u q=>by
 have nown:∀c y,H c=some (.own y)→c≠x:=fun c y r z=>by subst z;rw[r] at mu;exact mu
 have ntup:∀c xs,H c=some (.tup xs)→c≠x:=fun c xs r z=>by subst z;rw[r] at mu;exact mu
 by_cases hb:b=x
 ·subst hb;rw[zau] at q;cases q;exact new
 ·rw[zar hb] at q
  by_cases hbe:b=e
  ·have q':H b=some (.own x):=by
    rcases he with z | z
    ·exact absurd (hbe.trans z) hb
    ·rw[hbe];exact z
   rw[q] at q';cases q'
   obtain⟨v,hv⟩:=heo
   exact⟨v,by rw[hbe];exact hv⟩
  ·refine(ok b u q).stay (fun c v hc r=>k c v ?_ r) (fun c r=>by rw[zar (nown c b r)];exact r) fun c xs r=>by rw[zar (ntup c xs r)];exact r
   rcases hc with rfl | hc
   ·exact hbe
   ·rintro rfl
    rcases he with z | z
    ·exact nown c b hc z
    ·rw[hc] at z;cases z;exact hb rfl
end
structure Un (fs ex:List Addr) (H H':Hp) (h h':Heap):Prop where
 keep:∀b o,h.get? b=some o→H b=none→b∉fs→b∉ex→h'.get? b=some o
 slot:∀b o,h.get? b=some o→H b=none→b∈fs→b∉ex→∃sl,h'.get? b=some { o with slots:=sl }
 free:∀b o,h.get? b=some o→H b=none→b∉ex→H' b=none
 there:∀b o,h.get? b=some o→b∉ex→∃o',h'.get? b=some o'
 tups:∀b xs,H b=some (.tup xs)→H' b=some (.tup xs)
 frzs:∀b o u,H b=some (.frz o u)→H' b=some (.frz o u)
 tbls:∀b ps,H b=some (.tbl ps)→∃more,H' b=some (.tbl (ps++more))
section
variable {fs fs' ex ex':List Addr} {H H1 H2:Hp} {h h1 h2 h':Heap} {a x e:Addr} {o:HO}
theorem Un.any(u:Un fs ex H H1 h h1){b:Addr}{ob:Obj}(q:h.get? b=some ob)(n:H b=none)(hx:b∉ex):∃sl,h1.get? b=some { ob with slots:=sl }:=by
 by_cases hb:b∈fs
 ·exact u.slot b ob q n hb hx
 ·exact⟨ob.slots,u.keep b ob q n hb hx⟩
theorem Un.kept(k:∀b u,h.get? b=some u→h'.get? b=some u):Un fs ex H H h h':=
 ⟨fun b ob q _ _ _=>k b ob q,fun b ob q _ _ _=>⟨ob.slots,k b ob q⟩,fun _ _ _ n _=>n,fun b ob q _=>⟨ob,k b ob q⟩,fun _ _ q=>q,fun _ _ _ q=>q,fun _ ps q=>⟨#[],by rw[q];simp⟩⟩
theorem Un.refl:Un fs ex H H h h:=Un.kept fun _ _ q=>q
theorem Un.laid(k:∀b u,h.get? b=some u→h'.get? b=some u)(hp:h.objs.size≤a)(hn:H a=none):Un fs ex H (upd H a o) h h' where
 keep:=fun b u q _ _ _=>k b u q
 slot:=fun b u q _ _ _=>⟨u.slots,k b u q⟩
 free:=fun b u q n _=>by rw[zar (Nat.ne_of_lt (Nat.lt_of_lt_of_le (Heap.lt_size q) hp))];exact n
 there:=fun b u q _=>⟨u,k b u q⟩
 tups:=fun b xs q=>by rw[zar (zat q hn)];exact q
 frzs:=fun b u xs q=>by rw[zar (zat q hn)];exact q
 tbls:=fun b ps q=>⟨#[],by rw[zar (zat q hn),q];simp⟩
theorem Un.write(mu:Mut (H x))(he:e=x∨H e=some (.own x))(k:∀b u,b≠e→h.get? b=some u→h'.get? b=some u)(heo:∃u,h'.get? e=some u):Un fs ex H (upd H x o) h h':=by
 have hx:∀b,H b=none→b≠x:=fun b n z=>by subst z;rw[n] at mu;exact mu
 have hb:∀b,H b=none→b≠e:=fun b n z=>by
  subst z
  rcases he with r | r
  ·exact hx b n r
  ·rw[n] at r;cases r
 have hm:∀b u,H b=some u→¬Mut (some u)→b≠x:=fun b u q nm z=>by subst z;rw[q] at mu;exact nm mu
 refine⟨fun b u q n _ _=>k b u (hb b n) q,fun b u q n _ _=>⟨u.slots,k b u (hb b n) q⟩,fun b u q n _=>by rw[zar (hx b n)];exact n,fun b u q _=>?_,
  fun b xs q=>by rw[zar (hm b _ q fun z=>z)];exact q,fun b u xs q=>by rw[zar (hm b _ q fun z=>z)];exact q,fun b ps q=>⟨#[],by rw[zar (hm b _ q fun z=>z),q];simp⟩⟩
 by_cases hbe:b=e
 ·subst hbe;exact heo
 ·exact⟨u,k b u hbe q⟩
end
noncomputable def trk(h:Heap)(H:Hp):List Addr:=(List.range h.objs.size).filter fun a=>(H a).isSome
noncomputable def zlB(h:Heap)(H:Hp):Heap:=PySem.W.hideAll h (trk h H)
theorem zjM(h:Heap)(H:Hp):(zlB h H).objs.size=h.objs.size:=PySem.W.hideAll_size _ _
theorem zlC{h:Heap}{H:Hp}{b:Addr}{o:Obj}(e:h.get? b=some o)(n:H b=none):(zlB h H).get? b=some o:=
 PySem.W.hideAll_get _ e fun hm=>by
  have q:(H b).isSome=true:=(List.mem_filter.mp hm).2
  rw[n] at q;simp at q
theorem zm9{h:Heap}{H:Hp}{b:Addr}{o:Obj}(e:(zlB h H).get? b=some o):h.get? b=some o∧H b=none:=by
 have e':h.get? b=some o:=PySem.W.of_hideAll (trk h H) e
 refine⟨e',?_⟩
 cases q:H b with
 | none=>rfl
 | some x=>
  have hm:b∈trk h H:=List.mem_filter.mpr ⟨List.mem_range.mpr (Heap.lt_size e'),by simp[q]⟩
  have z:(zlB h H).get? b=none:=PySem.W.hideAll_none (trk h H) hm
  rw[z] at e;cases e
noncomputable def zna(g h:Heap)(L:Addr):List (Addr×Obj):=(List.range h.objs.size).filterMap fun a=>if a=L∨(g.get? a).isSome=true then none else(h.get? a).map fun o=>(a,o)
noncomputable def zes(g h:Heap)(L d:Addr):List (Addr×Obj):=(zna g h L).filter fun p=>decide (p.1≠d)
end L2
namespace L2
open PySem PySem.Spec PyProof.Rows
structure Mod (K:PySem.W.Frag) (mg:Str→Option Value) (base:Heap):Prop where
 kin:K.In base
 glob:base.Ns mainGlobals mg
 blt:∃mb,base.Ns builtinsNs mb∧∀x:Str,x≠"__name__"→mb x=bootBuiltins x
 nolimit:base.NoLimit
structure Cx where
 prog:Program
 w:World
 K:PySem.W.Frag
 mg:Str→Option Value
 base:Heap
 A:Around
 N:List Str
 s₀:Shared
 H₀:Hp
 env:Env
 outer:List Env
 stack:List Env
 ex:List Addr
 fn:Str→Bool
 calm:Bool
 pn:List (Addr×Obj)
 xe:Value→Shared→Prop
noncomputable def frs(l:List Env):List Addr:=l.filterMap (·.frame)
noncomputable abbrev Cx.fs(X:Cx):List Addr:=frs X.outer
noncomputable def Vis(sc:Scope)(x:Str):Prop:=sc.names.lookup x=some .local∨sc.names.lookup x=some .cell∨sc.names.lookup x=some .free
noncomputable def Loc(sc:Scope)(x:Str):Prop:=sc.names.lookup x=some .local∨sc.names.lookup x=some .cell
noncomputable def Look(env:Env)(h:Heap)(m:Str→Option Value)(x:Str)(u:Value):Prop:=
 (env.kindOf x=some .local∧m x=some u)∨((env.kindOf x=some .cell∨env.kindOf x=some .free)∧∃c,env.cells.lookup x=some c∧h.IsCell c (some u))
structure Cx.Ok (X:Cx):Prop where
 mod:Mod X.K X.mg X.base
 kind:X.env.scope.kind=.function
 glob:X.env.globals=mainGlobals
 blt:X.env.builtins=builtinsNs
 above:X.s₀.heap.objs.size≤X.env.locals
 inj:∀x y c,X.env.cells.lookup x=some c→X.env.cells.lookup y=some c→x=y
 has:∀x,(X.env.kindOf x=some .cell∨X.env.kindOf x=some .free)→∃c,X.env.cells.lookup x=some c
 cab:∀x c,X.fn x=true→X.env.cells.lookup x=some c→X.s₀.heap.objs.size≤c
 hd:X.calm=true→X.A.handled=none
 frames:X.A.frames=some X.stack
 stk:X.stack=X.outer∨(X.stack=X.env::X.outer∧X.env.frame=some X.env.locals)
 exf:∀b∈X.ex,b≠X.env.locals∧∀x c,X.env.cells.lookup x=some c→c≠b
 bs:∀b o,X.base.get? b=some o→X.s₀.heap.get? b=some o∧X.H₀ b=none
 bsz:X.base.objs.size≤X.s₀.heap.objs.size
 noex:∀b o,X.base.get? b=some o→b∉X.ex
 exfs:∀b∈X.ex,b∉X.fs
 funs:X.s₀.heap.FunFrames X.base X.outer
 frf:∀b∈X.fs,X.H₀ b=none
structure Inv (X:Cx) (pins:List (Addr×Obj)) (σ:List (Option V)) (H:Hp) (s:Shared):Prop where
 ok:X.Ok
 os:s.os=X.s₀.os
 bare:AllBare s.gens
 base:Un X.fs X.ex X.H₀ H X.s₀.heap s.heap
 loc:∃m,s.heap.Ns X.env.locals m∧∀(i:Nat) (x:Str) (v:V),X.N[i]?=some x→σ[i]?=some (some v)→Vis X.env.scope x→∃u,RelV v u∧Look X.env s.heap m x u
 cell:∀x c,X.env.cells.lookup x=some c→∃v,s.heap.IsCell c v
 free:H X.env.locals=none
 freeC:∀x c,X.env.cells.lookup x=some c→H c=none
 pin:∀p∈X.pn++pins,s.heap.get? p.1=some p.2∧H p.1=none∧p.1≠X.env.locals∧p.1∉X.fs∧∀v,p.2.data≠.cell v
 hok:HOk X.prog X.w H s.heap
 len:σ.length=X.N.length
section
variable {X:Cx} {pins:List (Addr×Obj)} {σ:List (Option V)} {H H':Hp} {s:Shared} {h':Heap}
theorem Cx.Ok.nofr(ok:X.Ok){b:Addr}{o:Obj}(e:X.base.get? b=some o):b∉X.fs:=fun hb=>by
 have:=(ok.funs.mem hb).1
 rw[e] at this;cases this
theorem Inv.bs(I:Inv X pins σ H s):∀b o,X.base.get? b=some o→s.heap.get? b=some o∧H b=none:=fun b o e=>
 ⟨I.base.keep b o (I.ok.bs b o e).1 (I.ok.bs b o e).2 (I.ok.nofr e) (I.ok.noex b o e),I.base.free b o (I.ok.bs b o e).1 (I.ok.bs b o e).2 (I.ok.noex b o e)⟩
theorem Inv.bk(I:Inv X pins σ H s):∀b o,X.base.get? b=some o→s.heap.get? b=some o:=fun b o e=>(I.bs b o e).1
theorem Inv.mod(I:Inv X pins σ H s):Mod X.K X.mg X.base:=I.ok.mod
theorem Inv.kIn(I:Inv X pins σ H s):X.K.In s.heap:=I.ok.mod.kin.keeps I.bk
theorem Inv.lt(I:Inv X pins σ H s):X.env.locals<s.heap.objs.size:=let⟨_,hn,_⟩:=I.loc;hn.lt
theorem Inv.sz(I:Inv X pins σ H s):X.s₀.heap.objs.size≤s.heap.objs.size:=Nat.le_trans I.ok.above (Nat.le_of_lt I.lt)
theorem Inv.nofs(I:Inv X pins σ H s){a:Addr}(h:s.heap.objs.size≤a):a∉X.fs:=fun hb=>by
 obtain⟨_,o,ho,_⟩:=I.ok.funs.mem hb
 exact absurd (Nat.lt_of_lt_of_le (Heap.lt_size ho) (Nat.le_trans I.sz h)) (Nat.lt_irrefl _)
theorem Inv.cne(I:Inv X pins σ H s):∀x c,X.env.cells.lookup x=some c→c≠X.env.locals:=fun x c e z=>by
 obtain⟨v,o,ho,hd⟩:=I.cell x c e
 obtain⟨m,⟨o',es,ep,ho',hd',_⟩,_⟩:=I.loc
 rw[z,ho'] at ho;cases ho;rw[hd'] at hd;cases hd
theorem Inv.funs(I:Inv X pins σ H s):s.heap.FunFrames X.base X.outer:=by
 have all:∀(l:List Env),(∀b∈frs l,b∈X.fs)→X.s₀.heap.FunFrames X.base l→s.heap.FunFrames X.base l:=by
  intro l
  induction l with
  | nil=>intro _ _;trivial
  | cons env r ih=>
   intro hs hl
   obtain⟨hk,⟨L,o,hf,hn,ho,hd⟩,hr⟩:=hl
   have hL:L∈X.fs:=hs L (by unfold frs;rw[List.filterMap_cons,hf];exact List.mem_cons_self)
   obtain⟨sl,e⟩:=I.base.slot L o ho (I.ok.frf L hL) hL fun z=>I.ok.exfs L z hL
   exact⟨hk,⟨L,_,hf,hn,e,hd⟩,ih (fun b hb=>hs b (by unfold frs;rw[List.filterMap_cons,hf];exact List.mem_cons_of_mem _ hb)) hr⟩
 exact all X.outer (fun _ hb=>hb) I.ok.funs
theorem Inv.stack(I:Inv X pins σ H s):s.heap.FunFrames X.base X.stack:=by
 rcases I.ok.stk with e | ⟨e,hf⟩
 ·rw[e];exact I.funs
 ·rw[e]
  obtain⟨m,hn,_⟩:=I.loc
  refine .cons (by rw[I.ok.kind];decide) hf hn ?_ I.funs
  exact Heap.get?_none_of_le (Nat.le_trans I.ok.bsz I.ok.above)
theorem Inv.stkSub(I:Inv X pins σ H s):∀b∈frs X.stack,b∈X.env.locals::X.fs:=fun b hb=>by
 rcases I.ok.stk with e | ⟨e,hf⟩
 ·rw[e] at hb;exact List.mem_cons_of_mem _ hb
 ·rw[e] at hb
  unfold frs at hb
  rw[List.filterMap_cons,hf] at hb
  exact hb
theorem Inv.stkFree(I:Inv X pins σ H s):∀b∈frs X.stack,H b=none:=fun b hb=>by
 rcases List.mem_cons.mp (I.stkSub b hb) with e | hb
 ·rw[e];exact I.free
 ·obtain⟨_,o,ho,_⟩:=I.ok.funs.mem hb
  exact I.base.free b o ho (I.ok.frf b hb) fun z=>I.ok.exfs b z hb
theorem Inv.step{g':Array GenState}{t':Nat}{d':Drawn}{ch:List Addr}(I:Inv X pins σ H s)
  (hch:∀b∈ch,(b∈X.ex∨X.s₀.heap.objs.size≤b)∧b≠X.env.locals∧(∀x c,X.env.cells.lookup x=some c→c≠b)∧∀p∈X.pn++pins,p.1≠b)
  (keep:∀b o,b≠X.env.locals→b∉X.fs→b∉ch→s.heap.get? b=some o→H b=none→h'.get? b=some o)
  (slot:∀b o,b≠X.env.locals→b∈X.fs→b∉ch→s.heap.get? b=some o→H b=none→∃sl,h'.get? b=some { o with slots:=sl }) (free:∀b o,b∉ch→s.heap.get? b=some o→H b=none→H' b=none)
  (there:∀b o,b∉ch→s.heap.get? b=some o→∃o',h'.get? b=some o')
  (tups:∀b xs,H b=some (.tup xs)→H' b=some (.tup xs)) (frzs:∀b o u,H b=some (.frz o u)→H' b=some (.frz o u)) (tbls:∀b ps,H b=some (.tbl ps)→∃more,H' b=some (.tbl (ps++more)))
  (ns:∀m,s.heap.Ns X.env.locals m→h'.Ns X.env.locals m) (hok:HOk X.prog X.w H' h') (hg:AllBare g') :
  Inv X pins σ H' { s with heap:=h',gens:=g',drawn:=d',toks:=t' }:=by
 have neL:∀b o,X.s₀.heap.get? b=some o→b≠X.env.locals:=fun b o e=>Nat.ne_of_lt (Nat.lt_of_lt_of_le (Heap.lt_size e) I.ok.above)
 have neC:∀b o,X.s₀.heap.get? b=some o→b∉X.ex→b∉ch:=fun b o e hx hb=>by
  rcases(hch b hb).1 with z | z
  ·exact hx z
  ·exact absurd (Nat.lt_of_lt_of_le (Heap.lt_size e) z) (Nat.lt_irrefl _)
 have cellK:∀x c,X.env.cells.lookup x=some c→∀v,s.heap.IsCell c v→h'.IsCell c v:=fun x c e v ⟨o,ho,hd⟩=>by
  have nch:c∉ch:=fun z=>(hch c z).2.2.1 x c e rfl
  by_cases hc:c∈X.fs
  ·obtain⟨sl,q⟩:=slot c o (I.cne x c e) hc nch ho (I.freeC x c e)
   exact⟨_,q,hd⟩
  ·exact⟨o,keep c o (I.cne x c e) hc nch ho (I.freeC x c e),hd⟩
 refine⟨I.ok,I.os,hg,⟨fun b o e n hb hx=>?_,fun b o e n hb hx=>?_,fun b o e n hx=>?_,fun b o e hx=>?_,fun b xs e=>tups b xs (I.base.tups b xs e),fun b o xs e=>frzs b o xs (I.base.frzs b o xs e),fun b ps e=>?_⟩,?_,fun x c e=>?_,?_,fun x c e=>?_,fun p hp=>?_,hok,I.len⟩
 ·exact keep b o (neL b o e) hb (neC b o e hx) (I.base.keep b o e n hb hx) (I.base.free b o e n hx)
 ·obtain⟨sl,e1⟩:=I.base.slot b o e n hb hx
  obtain⟨sl',e2⟩:=slot b _ (neL b o e) hb (neC b o e hx) e1 (I.base.free b o e n hx)
  exact⟨sl',e2⟩
 ·obtain⟨o',e1⟩:=I.base.there b o e hx
  exact free b o' (neC b o e hx) e1 (I.base.free b o e n hx)
 ·obtain⟨o',e1⟩:=I.base.there b o e hx
  exact there b o' (neC b o e hx) e1
 ·obtain⟨m1,e1⟩:=I.base.tbls b ps e
  obtain⟨m2,e2⟩:=tbls b _ e1
  exact⟨m1++m2,by rw[e2,Array.append_assoc]⟩
 ·obtain⟨m,hn,hl⟩:=I.loc
  refine⟨m,ns m hn,fun i x v e1 e2 e3=>?_⟩
  obtain⟨u,r,l⟩:=hl i x v e1 e2 e3
  refine⟨u,r,?_⟩
  rcases l with l | ⟨k,c,e,z⟩
  ·exact .inl l
  ·exact .inr ⟨k,c,e,cellK x c e _ z⟩
 ·obtain⟨v,z⟩:=I.cell x c e
  exact⟨v,cellK x c e v z⟩
 ·obtain⟨m,⟨o,_,_,ho,_⟩,_⟩:=I.loc
  exact free _ o (fun z=>(hch _ z).2.1 rfl) ho I.free
 ·obtain⟨v,o,ho,hd⟩:=I.cell x c e
  exact free c o (fun z=>(hch c z).2.2.1 x c e rfl) ho (I.freeC x c e)
 ·obtain⟨e,n,ne,nf,d⟩:=I.pin p hp
  have nch:p.1∉ch:=fun z=>(hch p.1 z).2.2.2 p hp rfl
  exact⟨keep p.1 p.2 ne nf nch e n,free p.1 p.2 nch e n,ne,nf,d⟩
theorem Inv.un{t':Nat}(I:Inv X pins σ H s)(u:Un X.fs [] H H' s.heap h')(hok:HOk X.prog X.w H' h'):Inv X pins σ H' { s with heap:=h',toks:=t' }:=by
 obtain⟨m,⟨o,es,ep,ho,r⟩,_⟩:=id I.loc
 obtain⟨sl,hL⟩:=u.any ho I.free (by simp)
 exact I.step (g':=s.gens) (d':=s.drawn) (ch:=[]) (fun _ z=>nomatch z) (fun b o _ hb _ e n=>u.keep b o e n hb (by simp)) (fun b o _ hb _ e n=>u.slot b o e n hb (by simp)) (fun b o _ e n=>u.free b o e n (by simp)) (fun b o _ e=>u.there b o e (by simp)) u.tups u.frzs u.tbls (fun m' hm=>by
  obtain⟨o',es',ep',ho',r'⟩:=hm
  rw[ho] at ho';cases ho'
  exact⟨_,es',ep',hL,r'⟩) hok I.bare
theorem Inv.call{g':Array GenState}{t':Nat}{d':Drawn}{ch:List Addr}(I:Inv X pins σ H s)(u:Un (frs X.stack) ch H H' s.heap h')(hok:HOk X.prog X.w H' h')(hg:AllBare g')
  (hch:∀b∈ch,(b∈X.ex∨X.s₀.heap.objs.size≤b)∧b≠X.env.locals∧(∀x c,X.env.cells.lookup x=some c→c≠b)∧∀p∈X.pn++pins,p.1≠b) :
  Inv X pins σ H' { s with heap:=h',gens:=g',drawn:=d',toks:=t' }:=by
 obtain⟨m,⟨o,es,ep,ho,r⟩,_⟩:=id I.loc
 obtain⟨sl,hL⟩:=u.any ho I.free fun z=>(hch _ z).2.1 rfl
 exact I.step (ch:=ch) hch (fun b o hL hb hc e n=>u.keep b o e n (fun z=>(List.mem_cons.mp (I.stkSub b z)).elim hL hb) hc) (fun b o _ _ hc e n=>u.any e n hc) (fun b o hc e n=>u.free b o e n hc) (fun b o hc e=>u.there b o e hc) u.tups u.frzs u.tbls (fun m' hm=>by
  obtain⟨o',es',ep',ho',r'⟩:=hm
  rw[ho] at ho';cases ho'
  exact⟨_,es',ep',hL,r'⟩) hok hg
theorem Inv.turned{t':Nat}{it:Addr}(I:Inv X pins σ H s)(k:∀b o,b≠it→s.heap.get? b=some o→h'.get? b=some o)(hn:H it=none)(hL:it≠X.env.locals)
  (h1:it∈X.ex∨X.s₀.heap.objs.size≤it) (h2:∀x c,X.env.cells.lookup x=some c→c≠it) (h3:∀p∈X.pn++pins,p.1≠it):Inv X pins σ H { s with heap:=h',toks:=t' }:=by
 have nit:∀b u,H b=some u→b≠it:=fun b u e z=>by rw[z,hn] at e;cases e
 refine I.step (g':=s.gens) (d':=s.drawn) (ch:=[it]) (fun b hb=>?_) (fun b o _ _ hc e _=>k b o (fun z=>hc (by simp[z])) e) (fun b o _ _ hc e _=>⟨o.slots,k b o (fun z=>hc (by simp[z])) e⟩) (fun _ _ _ _ n=>n)
  (fun b o hc e=>⟨o,k b o (fun z=>hc (by simp[z])) e⟩) (fun _ _ e=>e) (fun _ _ _ e=>e) (fun b ps e=>⟨#[],by rw[e];simp⟩) (fun m hm=>?_) (fun b u e=>?_) I.bare
 ·have e:b=it:=by simpa using hb
  subst e
  exact⟨h1,hL,h2,h3⟩
 ·obtain⟨o,es,ep,ho,r⟩:=hm
  exact⟨o,es,ep,k _ o (Ne.symm hL) ho,r⟩
 ·refine(I.hok b u e).stay (fun c v hc q=>k c v ?_ q) (fun _ q=>q) fun _ _ q=>q
  rcases hc with z | z
  ·rw[z];exact nit b u e
  ·exact nit c _ z
theorem Inv.tok(I:Inv X pins σ H s)(t:Nat):Inv X pins σ H { s with toks:=t }:=I.un (h':=s.heap) (t':=t) Un.refl I.hok
theorem Inv.kept{t':Nat}(I:Inv X pins σ H s)(k:∀b u,s.heap.get? b=some u→h'.get? b=some u):Inv X pins σ H { s with heap:=h',toks:=t' }:=I.un (Un.kept k) (I.hok.kept k)
theorem Inv.laid{a:Addr}{o:HO}{t':Nat}(I:Inv X pins σ H s)(k:∀b u,s.heap.get? b=some u→h'.get? b=some u)(hp:s.heap.objs.size≤a)(new:ObjOk X.prog X.w (upd H a o) h' a o) :
  Inv X pins σ (upd H a o) { s with heap:=h',toks:=t' }:=I.un (Un.laid k hp (I.hok.fresh hp)) (I.hok.laid k hp new)
theorem Inv.write{x e:Addr}{o:HO}{t':Nat}(I:Inv X pins σ H s)(mu:Mut (H x))(he:e=x∨H e=some (.own x))(k:∀b u,b≠e→s.heap.get? b=some u→h'.get? b=some u)(heo:∃u,h'.get? e=some u)
  (new:ObjOk X.prog X.w (upd H x o) h' x o):Inv X pins σ (upd H x o) { s with heap:=h',toks:=t' }:=I.un (Un.write mu he k heo) (I.hok.write mu he k heo new)
theorem Inv.pins_of{pins':List (Addr×Obj)}(I:Inv X pins σ H s)(h:∀p∈pins',s.heap.get? p.1=some p.2∧H p.1=none∧p.1≠X.env.locals∧p.1∉X.fs∧∀v,p.2.data≠.cell v):Inv X pins' σ H s:=
 ⟨I.ok,I.os,I.bare,I.base,I.loc,I.cell,I.free,I.freeC,fun p hp=>(List.mem_append.mp hp).elim (fun z=>I.pin p (List.mem_append_left _ z)) (h p),I.hok,I.len⟩
theorem zik{N:List Str}(hN:N.Nodup){i j:Nat}{x:Str}(a:N[i]?=some x)(b:N[j]?=some x):i=j:=by
 obtain⟨h1,e1⟩:=List.getElem?_eq_some_iff.mp a
 obtain⟨h2,e2⟩:=List.getElem?_eq_some_iff.mp b
 exact(List.getElem_inj hN).mp (e1.trans e2.symm)
theorem zgS{M:Model}{A:Around}{E:Value→Shared→Prop}{i:Nat}{x:Str}{v:V}{u:Value}{Q:Unit→Shared→Prop}(I:Inv X pins σ H s)(hN:X.N.Nodup)(hi:X.N[i]?=some x)(hx:Loc X.env.scope x)(r:RelV v u)
  (h:∀s',Inv X pins (σ.set i (some v)) H s'→(∃a,Heap.SameBut a s.heap s'.heap∧(a=X.env.locals∨X.env.cells.lookup x=some a))→Q () s') (hf:X.fn x=true∨X.env.scope.names.lookup x=some .local:=by first | exact .inl rfl | exact .inr rfl | assumption):wpAny M A (storeName X.env x u) Q E s:=by
 obtain⟨m,hn,hl⟩:=id I.loc
 have hcls:(X.env.scope.kind==.class||(X.env.scope.kind==.module&&X.env.locals != X.env.globals))=false:=by rw[I.ok.kind];rfl
 have hiσ:i<σ.length:=by rw[I.len];exact(List.getElem?_eq_some_iff.mp hi).1
 have cne:=I.cne
 have tracked:∀{a:Addr} {h':Heap},(∃o,s.heap.get? a=some o∧H a=none)→Heap.SameBut a s.heap h'→HOk X.prog X.w H h':=fun{a h'} ha hs b ob e=>by
  obtain⟨_,_,hfree⟩:=ha
  refine(I.hok b ob e).stay (fun c w' hc q=>(hs.2 c ?_).trans q) (fun _ q=>q) fun _ _ q=>q
  rintro rfl
  rcases hc with rfl | hc
  ·rw[hfree] at e;cases e
  ·rw[hfree] at hc;cases hc
 rcases hx with hk | hk
 ·refine wpAny_storeName_local hk hn (fun h' hn' hs=>?_) hcls
  obtain⟨oL,_,_,hoL,_⟩:=id hn
  refine h _ ⟨I.ok,I.os,I.bare,⟨fun b o e n hb hx=>?_,fun b o e n hb hx=>?_,I.base.free,fun b o e hx=>?_,I.base.tups,I.base.frzs,I.base.tbls⟩,⟨_,hn',fun j y v' e1 e2 e3=>?_⟩,fun y c e=>?_,I.free,I.freeC,fun p hp=>?_,tracked ⟨oL,hoL,I.free⟩ hs,by simpa using I.len⟩ ⟨_,hs,.inl rfl⟩
  ·exact(hs.2 b (Nat.ne_of_lt (Nat.lt_of_lt_of_le (Heap.lt_size e) I.ok.above))).trans (I.base.keep b o e n hb hx)
  ·obtain⟨sl,e1⟩:=I.base.slot b o e n hb hx
   exact⟨sl,(hs.2 b (Nat.ne_of_lt (Nat.lt_of_lt_of_le (Heap.lt_size e) I.ok.above))).trans e1⟩
  ·obtain⟨o',e1⟩:=I.base.there b o e hx
   exact⟨o',(hs.2 b (Nat.ne_of_lt (Nat.lt_of_lt_of_le (Heap.lt_size e) I.ok.above))).trans e1⟩
  ·by_cases hj:j=i
   ·subst hj
    rw[hi] at e1;cases e1
    rw[List.getElem?_set_self hiσ] at e2
    cases e2
    exact⟨u,r,.inl ⟨hk,by simp⟩⟩
   ·rw[List.getElem?_set_ne (Ne.symm hj)] at e2
    obtain⟨u',r',q⟩:=hl j y v' e1 e2 e3
    refine⟨u',r',?_⟩
    rcases q with⟨k,e⟩ | ⟨k,c,e,z⟩
    ·refine .inl ⟨k,?_⟩
     have:y≠x:=fun e=>hj (zik hN e1 (e▸hi))
     simp[this,e]
    ·exact .inr ⟨k,c,e,z.sameBut hs (cne y c e)⟩
  ·obtain⟨w',z⟩:=I.cell y c e
   exact⟨w',z.sameBut hs (cne y c e)⟩
  ·obtain⟨e,n,ne,nf,d⟩:=I.pin p hp
   exact⟨(hs.2 p.1 ne).trans e,n,ne,nf,d⟩
 ·have hfn:X.fn x=true:=by
   rcases hf with z | z
   ·exact z
   ·rw[z] at hk;cases hk
  obtain⟨c,hc⟩:=I.ok.has x (.inl hk)
  obtain⟨w',z⟩:=I.cell x c hc
  refine wpAny_storeName_cell I.ok.kind hk hc z (fun h' hc' hs=>?_)
  obtain⟨oc,hoc,hocd⟩:=id z
  refine h { s with heap:=h' } ⟨I.ok,I.os,I.bare,⟨fun b o e n hb hx=>?_,fun b o e n hb hx=>?_,I.base.free,fun b o e hx=>?_,I.base.tups,I.base.frzs,I.base.tbls⟩,⟨m,hn.sameBut hs (Ne.symm (cne x c hc)),fun j y v' e1 e2 e3=>?_⟩,fun y c' e=>?_,I.free,I.freeC,fun p hp=>?_,tracked ⟨oc,hoc,I.freeC x c hc⟩ hs,by simpa using I.len⟩ ⟨c,hs,.inr hc⟩
  ·exact(hs.2 b (Nat.ne_of_lt (Nat.lt_of_lt_of_le (Heap.lt_size e) (I.ok.cab x c hfn hc)))).trans (I.base.keep b o e n hb hx)
  ·obtain⟨sl,e1⟩:=I.base.slot b o e n hb hx
   exact⟨sl,(hs.2 b (Nat.ne_of_lt (Nat.lt_of_lt_of_le (Heap.lt_size e) (I.ok.cab x c hfn hc)))).trans e1⟩
  ·obtain⟨o',e1⟩:=I.base.there b o e hx
   exact⟨o',(hs.2 b (Nat.ne_of_lt (Nat.lt_of_lt_of_le (Heap.lt_size e) (I.ok.cab x c hfn hc)))).trans e1⟩
  ·by_cases hj:j=i
   ·subst hj
    rw[hi] at e1;cases e1
    rw[List.getElem?_set_self hiσ] at e2
    cases e2
    exact⟨u,r,.inr ⟨.inl hk,c,hc,hc'⟩⟩
   ·rw[List.getElem?_set_ne (Ne.symm hj)] at e2
    obtain⟨u',r',q⟩:=hl j y v' e1 e2 e3
    refine⟨u',r',?_⟩
    rcases q with q | ⟨k,c',e,z'⟩
    ·exact .inl q
    ·refine .inr ⟨k,c',e,z'.sameBut hs ?_⟩
     rintro rfl
     exact hj (zik hN e1 (I.ok.inj _ _ _ e hc▸hi))
  ·by_cases hcc:c'=c
   ·subst hcc;exact⟨_,hc'⟩
   ·obtain⟨w2,z2⟩:=I.cell y c' e
    exact⟨w2,z2.sameBut hs hcc⟩
  ·obtain⟨e,n,ne,nf,d⟩:=I.pin p hp
   refine⟨(hs.2 p.1 ?_).trans e,n,ne,nf,d⟩
   intro q
   rw[q,hoc] at e
   have q':oc=p.2:=Option.some.inj e
   exact d w' (by rw[←q'];exact hocd)
theorem zil{M:Model}{A:Around}{E:Value→Shared→Prop}{i:Nat}{x:Str}{v:V}{u:Value}{Q:Unit→Shared→Prop}(I:Inv X pins σ H s)(hN:X.N.Nodup)(hi:X.N[i]?=some x)(hx:Loc X.env.scope x)(r:RelV v u)
  (h:∀s',Inv X pins (σ.set i (some v)) H s'→Q () s') (hf:X.fn x=true∨X.env.scope.names.lookup x=some .local:=by first | exact .inl rfl | exact .inr rfl | assumption):wpAny M A (storeName X.env x u) Q E s:=
 zgS I hN hi hx r (fun s' I' _=>h s' I') hf
theorem Inv.call'{s':Shared}{ch:List Addr}(I:Inv X pins σ H s)(ho:s'.os=s.os)(u:Un (frs X.stack) ch H H' s.heap s'.heap)(hok:HOk X.prog X.w H' s'.heap)(hg:AllBare s'.gens)
  (hch:∀b∈ch,(b∈X.ex∨X.s₀.heap.objs.size≤b)∧b≠X.env.locals∧(∀x c,X.env.cells.lookup x=some c→c≠b)∧∀p∈X.pn++pins,p.1≠b):Inv X pins σ H' s':=by
 obtain⟨h',g',d',t',o'⟩:=s'
 have e:o'=s.os:=ho
 subst e
 exact I.call (g':=g') (t':=t') (d':=d') u hok hg hch
end
noncomputable abbrev XK:=Value→Option Addr→Hp→Prop
noncomputable abbrev St:=List (Option V)
noncomputable abbrev VK:=V→Hp→Prop
noncomputable abbrev TE:=St→Hp→VK→Prop
noncomputable abbrev TT:=St→Hp→(Bool→Hp→Prop)→Prop
noncomputable abbrev TA:=St→Hp→(List V→Hp→Prop)→Prop
structure Ends where
 nx:St→Hp→Prop
 rt:VK
 bk:St→Hp→Prop:=fun _ _=>False
 ct:St→Hp→Prop:=fun _ _=>False
noncomputable abbrev TS:=Ends→St→Hp→Prop
noncomputable def EP(X:Cx)(pins:List (Addr×Obj))(σ:St)(Q:VK)(u:Value)(s':Shared):Prop:=∃v H',Inv X pins σ H' s'∧RelV v u∧Q v H'
noncomputable def TP(X:Cx)(pins:List (Addr×Obj))(σ:St)(Q:Bool→Hp→Prop)(b:Bool)(s':Shared):Prop:=∃H',Inv X pins σ H' s'∧Q b H'
noncomputable def AP(X:Cx)(pins:List (Addr×Obj))(σ:St)(Q:List V→Hp→Prop)(us:List Value)(s':Shared):Prop:=∃vs H',Inv X pins σ H' s'∧Vals vs us∧Q vs H'
noncomputable def SP(X:Cx)(pins:List (Addr×Obj))(D:Ends)(f:Flow)(s':Shared):Prop:=
 match f with
 | .next=>∃σ' H',Inv X pins σ' H' s'∧D.nx σ' H'
 | .brk=>∃σ' H',Inv X pins σ' H' s'∧D.bk σ' H'
 | .cont=>∃σ' H',Inv X pins σ' H' s'∧D.ct σ' H'
 | .ret u=>∃v σ' H',Inv X pins σ' H' s'∧RelV v u∧D.rt v H'
noncomputable def PE(X:Cx)(e:Expr)(t:TE):Prop:=
 ∀(pins:List (Addr×Obj)) (s:Shared) (σ:St) (H:Hp) (Q:VK),Inv X pins σ H s→t σ H Q→wpAny (model X.prog X.w) X.A (eval e X.env) (EP X pins σ Q) X.xe s
noncomputable def PT(X:Cx)(e:Expr)(t:TT):Prop:=
 ∀(pins:List (Addr×Obj)) (s:Shared) (σ:St) (H:Hp) (Q:Bool→Hp→Prop),Inv X pins σ H s→t σ H Q→wpAny (model X.prog X.w) X.A (isTrue e X.env (eval e X.env)) (TP X pins σ Q) X.xe s
noncomputable def PW(X:Cx)(e:Expr)(t:TT):Prop:=
 ∀(whole:Sem Value) (pins:List (Addr×Obj)) (s:Shared) (σ:St) (H:Hp) (Q:Bool→Hp→Prop),Inv X pins σ H s→t σ H Q→wpAny (model X.prog X.w) X.A (isTrue e X.env whole) (TP X pins σ Q) X.xe s
theorem PW.pt{X:Cx}{e:Expr}{t:TT}(h:PW X e t):PT X e t:=h _
noncomputable def PA(X:Cx)(es:List Expr)(t:TA):Prop:=
 ∀(pos:Pos) (pins:List (Addr×Obj)) (s:Shared) (σ:St) (H:Hp) (Q:List V→Hp→Prop),Inv X pins σ H s→t σ H Q→wpAny (model X.prog X.w) X.A (spliced (backTo pos (starEach es X.env))) (AP X pins σ Q) X.xe s
noncomputable def PS(X:Cx)(st:Stmt)(t:TS):Prop:=
 ∀(pins:List (Addr×Obj)) (s:Shared) (σ:St) (H:Hp) (D:Ends),Inv X pins σ H s→t D σ H→wpAny (model X.prog X.w) X.A (exec st X.env) (SP X pins D) X.xe s
noncomputable def PSs(X:Cx)(st:List Stmt)(t:TS):Prop:=
 ∀(pins:List (Addr×Obj)) (s:Shared) (σ:St) (H:Hp) (D:Ends),Inv X pins σ H s→t D σ H→wpAny (model X.prog X.w) X.A (execs st X.env) (SP X pins D) X.xe s
theorem thn{α:Type}{t:Sem α}{Q Q':α→Shared→Prop}{M:Model}{A:Around}{E:Value→Shared→Prop}{s:Shared}(h:wpAny M A t Q E s)(hQ:∀a s,Q a s→Q' a s):wpAny M A t Q' E s:=wpAny_mono h hQ fun _ _ x=>x
end L2
namespace L2
open PySem PySem.Spec PyProof.Rows
section
variable {X:Cx}
theorem bin{a b:Expr}{ta tb:TE}(ha:PE X a ta)(hb:PE X b tb){pins:List (Addr×Obj)}{s:Shared}{σ:St}{H:Hp}{R:V→V→Hp→Prop}(I:Inv X pins σ H s)(h:ta σ H fun x H1=>tb σ H1 fun y H2=>R x y H2)
  {α:Type} {Q:α→Shared→Prop} {f:Value→Value→Sem α}
  (hf:∀v u s2 x y H2,Inv X pins σ H2 s2→RelV x v→RelV y u→R x y H2→wpAny (model X.prog X.w) X.A (f v u) Q X.xe s2) :
  wpAny (model X.prog X.w) X.A (eval a X.env) (fun v s₁=>wpAny (model X.prog X.w) X.A (eval b X.env) (fun u s₂=>wpAny (model X.prog X.w) X.A (f v u) Q X.xe s₂) X.xe s₁) X.xe s:=by
 refine thn (ha pins s σ H _ I h) fun v s1 ⟨x,H1,I1,r1,q1⟩=>?_
 refine thn (hb pins s1 σ H1 _ I1 q1) fun u s2 ⟨y,H2,I2,r2,q2⟩=>?_
 exact hf v u s2 x y H2 I2 r1 r2 q2
noncomputable def zqJ(i:Nat):TE:=fun σ H Q=>∃v,σ[i]?=some (some v)∧Q v H
noncomputable def tC(v:V):TE:=fun _ H Q=>Q v H
theorem zfT{i:Nat}{x:Str}{pos:Pos}(hN:X.N[i]?=some x)(hv:Vis X.env.scope x)(hd:(x==("__debug__":Str))=false:=by decide)(hcd:(x==("__classdict__":Str))=false:=by decide):PE X (.Name x pos) (zqJ i):=by
 intro pins s σ H Q I h
 obtain⟨v,e,h⟩:=h
 obtain⟨m,hn,hl⟩:=I.loc
 obtain⟨u,r,l⟩:=hl i x v hN e hv
 have fin:EP X pins σ Q u s:=⟨v,H,I,r,h⟩
 rcases l with⟨hk,hm⟩ | ⟨hk,c,hc,hcell⟩
 ·exact wpAny_Name (wpAny_loadName_local I.ok.kind hk hn hm fin) hd
 ·rcases hk with hk | hk
  ·exact wpAny_Name (wpAny_loadName_cell I.ok.kind hk hc hcell fin) hd
  ·exact wpAny_Name (wpAny_loadName_free I.ok.kind hk hc hcell fin hcd) hd
theorem zon{i j pos}:PE X (.Constant (.int i) j pos) (tC (.int i)):=fun _ _ _ H _ I h=>wpAny_Constant_int ⟨.int i,H,I.tok _,⟨_,rfl⟩,h⟩
theorem zpU{b j pos}:PE X (.Constant (.bool b) j pos) (tC (.bl b)):=fun _ _ _ H _ I h=>Constant_bool ⟨.bl b,H,I,rfl,h⟩
theorem zoo{j pos}:PE X (.Constant .none j pos) (tC .non):=fun _ _ _ H _ I h=>Constant_none ⟨.non,H,I,rfl,h⟩
theorem zop{x j pos}:PE X (.Constant (.str x) j pos) (tC (.str x)):=fun _ _ _ H _ I h=>Calls.Constant_str ⟨.str x,H,I.tok _,⟨_,rfl⟩,h⟩
noncomputable def Gl(X:Cx)(x:Str):Prop:=X.env.kindOf x=some .globalImplicit
theorem zjN{E:Value→Shared→Prop}{pins:List (Addr×Obj)}{s:Shared}{σ:St}{H:Hp}{x:Str}{u:Value}{pos:Pos}{Q:Value→Shared→Prop}(I:Inv X pins σ H s)(hg:Gl X x)(hm:X.mg x=some u)(h:Q u s)
  (hd:(x==("__debug__":Str))=false:=by decide):wpAny (model X.prog X.w) X.A (eval (.Name x pos) X.env) Q E s:=
 Calls.Name_function_global I.ok.kind hg (Calls.loadGlobal_global (by rw[I.ok.glob];exact I.mod.glob.keeps I.bk) hm h) hd
theorem zc6{E:Value→Shared→Prop}{pins:List (Addr×Obj)}{s:Shared}{σ:St}{H:Hp}{x:Str}{u:Value}{pos:Pos}{Q:Value→Shared→Prop}(I:Inv X pins σ H s)(hg:Gl X x)(hm:X.mg x=none)(hv:bootBuiltins x=some u)(h:Q u s)
  (hn:x≠"__name__":=by decide) (hd:(x==("__debug__":Str))=false:=by decide):wpAny (model X.prog X.w) X.A (eval (.Name x pos) X.env) Q E s:=by
 obtain⟨mb,h1,h2⟩:=I.mod.blt
 exact Calls.Name_function_global I.ok.kind hg (Calls.loadGlobal_builtin (by rw[I.ok.glob];exact I.mod.glob.keeps I.bk) hm (by rw[I.ok.blt];exact h1.keeps I.bk) ((h2 x hn).trans hv) h) hd
theorem zhS{x:Str}{v:V}{u:Value}{pos:Pos}(hg:Gl X x)(hm:X.mg x=none)(hv:bootBuiltins x=some u)(r:RelV v u)(hn:x≠"__name__":=by decide)(hd:(x==("__debug__":Str))=false:=by decide):PE X (.Name x pos) (tC v):=
 fun _ _ _ H _ I h=>zc6 I hg hm hv ⟨v,H,I,r,h⟩ hn hd
variable {a b:Expr} {ta tb:TE} {pos:Pos}
noncomputable def PC(X:Cx)(op:CmpOp)(a b:Expr)(t:TE):Prop:=
 ∀(pins:List (Addr×Obj)) (s:Shared) (σ:St) (H:Hp) (Q:VK),Inv X pins σ H s→t σ H Q→
  wpAny (model X.prog X.w) X.A (eval a X.env) (fun v s₁=>wpAny (model X.prog X.w) X.A (eval b X.env) (fun u s₂=>wpAny (model X.prog X.w) X.A (compareOp op v u) (EP X pins σ Q) X.xe s₂) X.xe s₁) X.xe s
theorem zlD(b:Expr){op:CmpOp}(h:op≠.In)(h2:op≠.NotIn):behindInMarks op b=false:=by
 have e1:(op==CmpOp.In)=false:=by cases op<;>first | rfl | exact absurd rfl h
 have e2:(op==CmpOp.NotIn)=false:=by cases op<;>first | rfl | exact absurd rfl h2
 cases b<;>simp[behindInMarks,e1,e2]
noncomputable def tB(t:TE):TT:=fun σ H Q=>t σ H fun x H1=>∃c,x=.bl c∧Q c H1
theorem zqx{op:CmpOp}{t:TE}(h:PC X op a b t)(h1:behindInMarks op b=false:=by first | exact zlD _ (by decide) (by decide) | rfl):PT X (.Compare a [op] [b] pos) (tB t):=by
 intro pins s σ H Q I hw
 refine wpAny_isTrue_Compare1 (thn (h pins s σ H _ I hw) fun v s1 h1=>thn h1 fun u s2 h2=>thn h2 fun c s3 ⟨x,H1,I1,r1,q1⟩=>?_) h1
 obtain⟨d,rfl,q⟩:=q1
 cases r1
 exact wpAny_truthy_bool ⟨H1,I1,q⟩
theorem zoq{e:Expr}{t:TE}(h:PE X e t)(he:∀whole,isTrue e X.env whole=(do let v ←whole;standAt e.pos;holding [v] (truthy v)):=by intro _;rfl):PT X e (tB t):=by
 intro pins s σ H Q I hw
 refine isTrue_plain (thn (h pins s σ H _ I hw) fun v s1 ⟨x,H1,I1,r1,q1⟩=>?_) (he _)
 obtain⟨d,rfl,q⟩:=q1
 cases r1
 exact wpAny_truthy_bool ⟨H1,I1,q⟩
variable {tA tB':TT} {zes:List Expr}
noncomputable def zqK(t u:TT):TT:=fun σ H Q=>t σ H fun c H1=>if c=true then u σ H1 Q else Q false H1
noncomputable def tOr(t u:TT):TT:=fun σ H Q=>t σ H fun c H1=>if c=true then Q true H1 else u σ H1 Q
noncomputable def zqL(t:TT):TT:=fun σ H Q=>t σ H fun c H1=>Q (!c) H1
theorem znb(ha:PT X a tA):PW X (.BoolOp .And [a] pos) tA:=by
 intro wh pins s σ H Q I h
 refine isTrue_and (thn (ha pins s σ H Q I h) fun c s1 e=>?_)
 cases c with
 | true=>exact isTrue_and_nil e
 | false=>exact e
theorem zor(ha:PT X a tA):PW X (.BoolOp .Or [a] pos) tA:=by
 intro wh pins s σ H Q I h
 refine isTrue_or (thn (ha pins s σ H Q I h) fun c s1 e=>?_)
 cases c with
 | false=>exact isTrue_or_nil e
 | true=>exact e
theorem zos(ha:PT X a tA)(hb:PW X (.BoolOp .And (b::zes) pos) tB'):PW X (.BoolOp .And (a::b::zes) pos) (zqK tA tB'):=by
 intro wh pins s σ H Q I h
 refine isTrue_and (thn (ha pins s σ H _ I h) fun c s1 ⟨H1,I1,q1⟩=>?_)
 cases c with
 | true=>exact hb wh pins s1 σ H1 Q I1 q1
 | false=>exact⟨H1,I1,q1⟩
theorem zpV(ha:PT X a tA)(hb:PW X (.BoolOp .Or (b::zes) pos) tB'):PW X (.BoolOp .Or (a::b::zes) pos) (tOr tA tB'):=by
 intro wh pins s σ H Q I h
 refine isTrue_or (thn (ha pins s σ H _ I h) fun c s1 ⟨H1,I1,q1⟩=>?_)
 cases c with
 | true=>exact⟨H1,I1,q1⟩
 | false=>exact hb wh pins s1 σ H1 Q I1 q1
theorem zot(ha:PT X a tA):PT X (.UnaryOp .Not a pos) (zqL tA):=by
 intro pins s σ H Q I h
 exact isTrue_not (ha pins s σ H (fun c H1=>Q (!c) H1) I h)
noncomputable def zpW(ta tb:TE):TE:=fun σ H Q=>ta σ H fun x H1=>∃c,x=.bl c∧if c=true then tb σ H1 Q else Q (.bl false) H1
noncomputable def zpX(ta:TE):TE:=fun σ H Q=>ta σ H fun x H1=>∃c,x=.bl c∧Q (.bl (!c)) H1
theorem zou{op}{t:TE}(h:PE X a t):PE X (.BoolOp op [a] pos) t:=fun pins s σ H Q I hw=>BoolOp_one (h pins s σ H Q I hw)
theorem zov(ha:PE X a ta)(hb:PE X (.BoolOp .And (b::zes) pos) tb):PE X (.BoolOp .And (a::b::zes) pos) (zpW ta tb):=by
 intro pins s σ H Q I h
 refine BoolOp_and (thn (ha pins s σ H _ I h) fun v s1 ⟨x,H1,I1,r1,q1⟩=>?_)
 obtain⟨c,rfl,q1⟩:=q1
 cases r1
 refine wpAny_truthy_bool ?_
 cases c with
 | true=>exact hb pins s1 σ H1 Q I1 q1
 | false=>exact⟨.bl false,H1,I1,rfl,q1⟩
theorem zow(ha:PE X a ta):PE X (.UnaryOp .Not a pos) (zpX ta):=by
 intro pins s σ H Q I h
 refine UnaryOp_ (thn (ha pins s σ H _ I h) fun v s1 ⟨x,H1,I1,r1,q1⟩=>?_)
 obtain⟨c,rfl,q1⟩:=q1
 cases r1
 exact not_of (wpAny_truthy_bool ⟨.bl (!c),H1,I1,rfl,q1⟩)
noncomputable def tIf(t:TT)(ta tb:TE):TE:=fun σ H Q=>t σ H fun c H1=>if c=true then ta σ H1 Q else tb σ H1 Q
theorem zlE{c:Expr}(hc:PT X c tA)(ha:PE X a ta)(hb:PE X b tb):PE X (.IfExp c a b pos) (tIf tA ta tb):=by
 intro pins s σ H Q I h
 refine wpAny_IfExp (thn (hc pins s σ H _ I h) fun d s1 ⟨H1,I1,q1⟩=>?_)
 cases d with
 | true=>exact ha pins s1 σ H1 Q I1 q1
 | false=>exact hb pins s1 σ H1 Q I1 q1
end
end L2
namespace L2
open PySem PySem.Spec PyProof.Rows
noncomputable def SqL(K:PySem.W.Frag)(H:Hp)(a:Addr)(xs:List V):Prop:=
 Rd H a (.lst xs)∨
  ∃(o:Obj) (its:Array Value) (n:Nat),K.lookup a=some o∧o.cls=.type "list"∧o.dict=none∧o.data=.seq its n∧its.size≤sizeLine∧Vals xs its.toList
noncomputable def SqT(K:PySem.W.Frag)(H:Hp)(a:Addr)(xs:List V):Prop:=
 Rd H a (.tup xs)∨
  ∃(o:Obj) (its:Array Value) (n:Nat),K.lookup a=some o∧o.cls=.type "tuple"∧o.data=.seq its n∧its.size≤sizeLine∧Vals xs its.toList
noncomputable def zqM:Value→Option V
 | .none=>some .non
 | .bool b=>some (.bl b)
 | .int i _=>some (.int i)
 | .str x _=>some (.str x)
 | .bytes b _=>some (.byt b)
 | .float b _=>some (.flt b)
 | .ref a=>some (.ref a)
 | .type n=>some (.ty n)
 | _=>none
theorem RelV.abs{x:V}{u:Value}(r:RelV x u):zqM u=some x:=by
 cases x with
 | non=>cases r;rfl
 | bl _=>cases r;rfl
 | int _=>obtain⟨t,rfl⟩:=r;rfl
 | str _=>obtain⟨t,rfl⟩:=r;rfl
 | byt _=>obtain⟨t,rfl⟩:=r;rfl
 | flt _=>obtain⟨t,rfl⟩:=r;rfl
 | ref _=>cases r;rfl
 | ty _=>cases r;rfl
theorem RelV.inj{x y:V}{u:Value}(r:RelV x u)(q:RelV y u):x=y:=Option.some.inj (r.abs.symm.trans q.abs)
theorem Vals.inj:∀{xs ys:List V} {us:List Value},Vals xs us→Vals ys us→xs=ys
 | _,_,_,.nil,.nil=>rfl
 | _,_,_,.cons r t,.cons r' t'=>by rw[r.inj r',Vals.inj t t']
section
variable {X:Cx} {pins:List (Addr×Obj)} {σ:St} {H:Hp} {s:Shared} {a:Addr} {xs ys:List V}
theorem SqL.of{K:PySem.W.Frag}(h:H a=some (.lst xs)):SqL K H a xs:=.inl (.inl h)
theorem SqT.of{K:PySem.W.Frag}(h:H a=some (.tup xs)):SqT K H a xs:=.inl (.inl h)
theorem Inv.list(I:Inv X pins σ H s)(h:SqL X.K H a xs):∃its:List Value,Vals xs its∧PlainL s.heap a its.toArray∧xs.length≤sizeLine:=by
 rcases h with h | ⟨o,its,n,hk,hc,hd,hs,hz,r⟩
 ·obtain⟨z,its,n,r,e⟩:=h.ok I.hok
  exact⟨its,r,⟨_,n,e,rfl,rfl,rfl⟩,z⟩
 ·refine⟨its.toList,r,⟨o,n,I.kIn a o hk,hc,hd,by simpa using hs⟩,?_⟩
  have e:=r.length
  simp only[Array.length_toList] at e
  omega
theorem Inv.tuple(I:Inv X pins σ H s)(h:SqT X.K H a xs):∃its:List Value,Vals xs its∧IsTup s.heap a its.toArray∧xs.length≤sizeLine:=by
 rcases h with h | ⟨o,its,n,hk,hc,hs,hz,r⟩
 ·obtain⟨z,its,r,p⟩:=h.ok I.hok
  exact⟨its,r,p,z⟩
 ·refine⟨its.toList,r,⟨o,I.kIn a o hk,hc,n,by simpa using hs⟩,?_⟩
  have e:=r.length
  simp only[Array.length_toList] at e
  omega
theorem Inv.list_inj(I:Inv X pins σ H s)(h:SqL X.K H a xs)(h':SqL X.K H a ys):xs=ys:=by
 obtain⟨its,r,⟨o,n,e,_,_,d⟩,_⟩:=I.list h
 obtain⟨its',r',⟨o',n',e',_,_,d'⟩,_⟩:=I.list h'
 rw[e] at e';cases e'
 rw[d] at d'
 injection d' with d1 _
 have:its=its':=by simpa using congrArg Array.toList d1
 subst this
 exact r.inj r'
theorem Inv.tuple_inj(I:Inv X pins σ H s)(h:SqT X.K H a xs)(h':SqT X.K H a ys):xs=ys:=by
 obtain⟨its,r,⟨o,e,_,n,d⟩,_⟩:=I.tuple h
 obtain⟨its',r',⟨o',e',_,n',d'⟩,_⟩:=I.tuple h'
 rw[e] at e';cases e'
 rw[d] at d'
 injection d' with d1 _
 have:its=its':=by simpa using congrArg Array.toList d1
 subst this
 exact r.inj r'
end
noncomputable abbrev Cx.wish(X:Cx)(E:Value→Shared→Prop):Cx:={ X with xe:=E }
noncomputable abbrev Cx.nox(X:Cx):Cx:=X.wish fun _ _=>False
theorem Cx.Ok.wish{X:Cx}(ok:X.Ok)(E:Value→Shared→Prop):(X.wish E).Ok:=
 ⟨ok.mod,ok.kind,ok.glob,ok.blt,ok.above,ok.inj,ok.has,ok.cab,ok.hd,ok.frames,ok.stk,ok.exf,ok.bs,ok.bsz,ok.noex,ok.exfs,ok.funs,ok.frf⟩
theorem Cx.Ok.unwish{X:Cx}{E:Value→Shared→Prop}(ok:(X.wish E).Ok):X.Ok:=
 ⟨ok.mod,ok.kind,ok.glob,ok.blt,ok.above,ok.inj,ok.has,ok.cab,ok.hd,ok.frames,ok.stk,ok.exf,ok.bs,ok.bsz,ok.noex,ok.exfs,ok.funs,ok.frf⟩
section
variable {X:Cx} {pins:List (Addr×Obj)} {σ:St} {H:Hp} {s:Shared} {E:Value→Shared→Prop}
theorem Inv.wish(I:Inv X pins σ H s)(E:Value→Shared→Prop):Inv (X.wish E) pins σ H s:=⟨I.ok.wish E,I.os,I.bare,I.base,I.loc,I.cell,I.free,I.freeC,I.pin,I.hok,I.len⟩
theorem Inv.unwish(I:Inv (X.wish E) pins σ H s):Inv X pins σ H s:=⟨I.ok.unwish,I.os,I.bare,I.base,I.loc,I.cell,I.free,I.freeC,I.pin,I.hok,I.len⟩
theorem SP.unwish{D:Ends}{f:Flow}{s':Shared}(h:SP (X.wish E) pins D f s'):SP X pins D f s':=by
 cases f with
 | next=>obtain⟨σ',H',I,q⟩:=h;exact⟨σ',H',I.unwish,q⟩
 | brk=>obtain⟨σ',H',I,q⟩:=h;exact⟨σ',H',I.unwish,q⟩
 | cont=>obtain⟨σ',H',I,q⟩:=h;exact⟨σ',H',I.unwish,q⟩
 | ret u=>obtain⟨v,σ',H',I,r,q⟩:=h;exact⟨v,σ',H',I.unwish,r,q⟩
theorem PSs.nox{st:List Stmt}{t:TS}(h:PSs X.nox st t):PSs X st t:=fun pins s σ H D I hw=>
 wpAny_mono (h pins s σ H D (I.wish _) hw) (fun _ _ q=>q.unwish) fun _ _ z=>False.elim z
end
section
variable {X:Cx} {st:Stmt} {zes:List Stmt} {t u:TS} {e:Expr} {te:TE} {pos:Pos}
noncomputable def zpY:TS:=fun D σ H=>D.nx σ H
noncomputable def zqN(t u:TS):TS:=fun D σ H=>t { D with nx:=u D } σ H
theorem zjO:PSs X [] zpY:=fun _ _ σ H _ I h=>wpAny_execs_nil ⟨σ,H,I,h⟩
theorem zim(h1:PS X st t)(h2:PSs X zes u):PSs X (st::zes) (zqN t u):=by
 intro pins s σ H D I h
 refine wpAny_execs_cons (thn (h1 pins s σ H { D with nx:=u D } I h) fun f s1 q=>?_)
 cases f with
 | next=>
  obtain⟨σ',H',I',q⟩:=q
  exact h2 pins s1 σ' H' D I' q
 | ret v=>exact q
 | brk=>exact q
 | cont=>exact q
theorem znc(h1:PS X st t):PSs X [st] t:=by
 intro pins s σ H D I h
 refine wpAny_execs_cons (thn (h1 pins s σ H D I h) fun f s1 q=>?_)
 cases f with
 | next=>exact wpAny_execs_nil q
 | ret v=>exact q
 | brk=>exact q
 | cont=>exact q
theorem Inv.quiet{pins:List (Addr×Obj)}{σ:St}{H:Hp}{s:Shared}(I:Inv X pins σ H s):interactive X.env=false:=by simp[interactive,I.ok.kind]
noncomputable def zpZ(te:TE):TS:=fun D σ H=>te σ H fun _ H1=>D.nx σ H1
theorem zjP(he:PE X e te)(hs:swapsWith e none pos.line X.env=pure false:=by rfl):PS X (.Expr e pos) (zpZ te):=by
 intro pins s σ H D I h
 exact wpAny_Expr_any (thn (he pins s σ H _ I h) fun v s1 ⟨x,H1,I1,r1,q1⟩=>⟨σ,H1,I1,q1⟩) I.quiet hs
noncomputable def zqO(te:TE):TS:=fun D σ H=>te σ H D.rt
theorem zmI(he:PE X e te):PS X (.Return (some e) pos) (zqO te):=by
 intro pins s σ H D I h
 exact wpAny_Return_some (thn (he pins s σ H _ I h) fun v s1 ⟨x,H1,I1,r1,q1⟩=>⟨x,σ,H1,I1,r1,q1⟩)
noncomputable def zqP(c:TT)(t u:TS):TS:=fun D σ H=>c σ H fun b H1=>if b=true then t D σ H1 else u D σ H1
theorem zp0{c:Expr}{a b:List Stmt}{tc:TT}(hc:PT X c tc)(ha:PSs X a t)(hb:PSs X b u):PS X (.If c a b pos) (zqP tc t u):=by
 intro pins s σ H D I h
 refine wpAny_If (thn (hc pins s σ H _ I h) fun d s1 ⟨H1,I1,q1⟩=>?_)
 cases d with
 | true=>exact ha pins s1 σ H1 D I1 q1
 | false=>exact hb pins s1 σ H1 D I1 q1
end
noncomputable abbrev TG:=V→St→Hp→(St→Hp→Prop)→Prop
noncomputable abbrev TGs:=List V→St→Hp→(St→Hp→Prop)→Prop
noncomputable def PG(X:Cx)(target:Expr)(t:TG):Prop:=
 ∀(pins:List (Addr×Obj)) (s:Shared) (σ:St) (H:Hp) (v:V) (u:Value) (Q:St→Hp→Prop),Inv X pins σ H s→RelV v u→t v σ H Q→
  wpAny (model X.prog X.w) X.A (assign target X.env u) (fun _ s'=>∃σ' H',Inv X pins σ' H' s'∧Q σ' H') X.xe s
noncomputable def PGs(X:Cx)(ts:List Expr)(t:TGs):Prop:=
 ∀(pins:List (Addr×Obj)) (s:Shared) (σ:St) (H:Hp) (vs:List V) (us:List Value) (Q:St→Hp→Prop),Inv X pins σ H s→Vals vs us→t vs σ H Q→
  wpAny (model X.prog X.w) X.A (assignInOrder ((assignEach ts X.env).map (·.2)) us) (fun _ s'=>∃σ' H',Inv X pins σ' H' s'∧Q σ' H') X.xe s
section
variable {X:Cx} {pos:Pos}
noncomputable def znd(i:Nat):TG:=fun v σ H Q=>Q (σ.set i (some v)) H
theorem zne{i:Nat}{x:Str}(hN:X.N.Nodup)(hi:X.N[i]?=some x)(hx:Loc X.env.scope x)(hf:X.fn x=true∨X.env.scope.names.lookup x=some .local:=by first | exact .inl rfl | exact .inr rfl | assumption):PG X (.Name x pos) (znd i):=by
 intro pins s σ H v u Q I r h
 exact wpAny_assign_Name (zil I hN hi hx r (fun s' I'=>⟨_,H,I',h⟩) hf)
noncomputable def zqQ:TGs:=fun vs σ H Q=>vs=[]∧Q σ H
noncomputable def zp1(t:TG)(u:TGs):TGs:=fun vs σ H Q=>∃v r,vs=v::r∧t v σ H fun σ' H'=>u r σ' H' Q
theorem znf:PGs X [] zqQ:=by
 intro pins s σ H vs us Q I r h
 obtain⟨e,h⟩:=h
 subst e
 cases r
 exact assignInOrder_nil ⟨σ,H,I,h⟩
theorem zlF{e:Expr}{es:List Expr}{t:TG}{u:TGs}(h1:PG X e t)(h2:PGs X es u)
  (hs:(assignEach (e::es) X.env).map (·.2)=assign e X.env::(assignEach es X.env).map (·.2):=by rfl):PGs X (e::es) (zp1 t u):=by
 intro pins s σ H vs us Q I r h
 obtain⟨v,vr,e1,h⟩:=h
 subst e1
 cases r with
 | cons r rr=>
  rw[hs]
  refine assignInOrder_cons (thn (h1 pins s σ H _ _ _ I r h) fun _ s1 ⟨σ1,H1,I1,q1⟩=>?_)
  exact h2 pins s1 σ1 H1 _ _ Q I1 rr q1
noncomputable def zqR(K:PySem.W.Frag)(n:Nat)(t:TGs):TG:=fun v σ H Q=>∃a xs,v=.ref a∧SqT K H a xs∧xs.length=n∧t xs σ H Q
theorem zox{es:List Expr}{k:Nat}{t:TGs}{n:Nat}(hc:X.calm=true)(h:PGs X es t)
  (hn:(assignEach es X.env).length=n:=by rfl) (hst:(assignEach es X.env).findIdx? (·.1)=none:=by rfl):PG X (.Tuple es k pos) (zqR X.K n t):=by
 intro pins s σ H v u Q I r hw
 obtain⟨a,xs,e1,hq,hl,hw⟩:=hw
 subst e1
 cases r
 obtain⟨its,rv,ht,hz⟩:=I.tuple hq
 refine assign_Tuple_tuple (I.ok.hd hc) ht (by simp[hn,←hl,rv.length]) hst fun h' hx=>?_
 have I1:Inv X pins σ H { s with heap:=h' }:=I.kept (t':=s.toks) fun b o e=>hx b o (Nat.ne_of_lt (Heap.lt_size e)) e
 exact h pins _ σ H xs _ Q I1 (by simpa using rv) hw
noncomputable def zp2(te:TE)(g:TG):TS:=fun D σ H=>te σ H fun x H1=>g x σ H1 D.nx
theorem zoy{tg e:Expr}{te:TE}{g:TG}(he:PE X e te)(hg:PG X tg g)(hs:swapsWithSole [tg] e pos.line X.env=pure false:=by rfl)(hw:swappedStores [tg] e X.env=pure none:=by rfl)
  (h1:(assignEach [tg] X.env).map (·.2)=[assign tg X.env]:=by rfl):PS X (.Assign [tg] e pos) (zp2 te g):=by
 intro pins s σ H D I h
 refine wpAny_Assign_stores (thn (he pins s σ H _ I h) fun v s1 ⟨x,H1,I1,r1,q1⟩=>?_) hs hw
 rw[h1]
 exact thn (hg pins s1 σ H1 x v _ I1 r1 q1) fun _ s2 q=>q
theorem zmJ{i:Nat}{x:Str}{e:Expr}{te:TE}{pos':Pos}(hN:X.N.Nodup)(hi:X.N[i]?=some x)(hx:Loc X.env.scope x)(he:PE X e te)(hs:swapsWith e (some (.Name x pos')) pos.line X.env=pure false:=by rfl)(hf:X.fn x=true∨X.env.scope.names.lookup x=some .local:=by first | exact .inl rfl | exact .inr rfl | assumption) :
  PS X (.Assign [.Name x pos'] e pos) (zp2 te (znd i)):=by
 intro pins s σ H D I h
 refine wpAny_Assign_Name (thn (he pins s σ H _ I h) fun v s1 ⟨y,H1,I1,r1,q1⟩=>?_) hs
 exact zil I1 hN hi hx r1 (fun s2 I2=>⟨_,H1,I2,q1⟩) hf
end
structure It where
 go:Nat→Hp→Prop
 yld:Nat→Hp→V→Hp→Prop
 stop:Nat→Hp→Prop
noncomputable def FpOk(X:Cx)(pins:List (Addr×Obj))(H:Hp)(b:Addr):Prop:=
 H b=none∧b≠X.env.locals∧b∉X.fs∧(b∈X.ex∨X.s₀.heap.objs.size≤b)∧(∀x c,X.env.cells.lookup x=some c→c≠b)∧∀p∈X.pn++pins,p.1≠b
theorem Inv.fpOk{X:Cx}{pins:List (Addr×Obj)}{σ:St}{H H':Hp}{s:Shared}{b:Addr}(I:Inv X pins σ H s)(hb:s.heap.objs.size≤b)(hn:H' b=none):FpOk X pins H' b:=by
 refine⟨hn,Nat.ne_of_gt (Nat.lt_of_lt_of_le I.lt hb),I.nofs hb,.inr (Nat.le_trans I.sz hb),fun x c e z=>?_,fun p hp z=>?_⟩
 ·obtain⟨v,q⟩:=I.cell x c e
  exact absurd (Nat.lt_of_lt_of_le q.lt (by rw[z];exact hb)) (Nat.lt_irrefl _)
 ·exact absurd (Nat.lt_of_lt_of_le (Heap.lt_size (I.pin p hp).1) (by rw[z];exact hb)) (Nat.lt_irrefl _)
structure Turn (P:Program) (w:World) (K:PySem.W.Frag) (tg:Expr) (J:It) (fp:List Addr) (it:Addr) (tn:Nat→Heap→Prop):Prop where
 mem:it∈fp
 obj:∀i h,tn i h→∀b∈fp,∃o,h.get? b=some o∧∀v,o.data≠.cell v
 keep:∀i h h',tn i h→(∀b∈fp,∀o,h.get? b=some o→h'.get? b=some o)→tn i h'
 item:∀(X:Cx),X.prog=P→X.w=w→X.K=K→X.calm=true→∀(i:Nat) (pins:List (Addr×Obj)) (s:Shared) (σ:St) (H:Hp) (E:Value→Shared→Prop),Inv X pins σ H s→(∀b∈fp,FpOk X pins H b)→tn i s.heap→J.go i H→
  wpAny (model P w) X.A (pyNext (.ref it)) (fun r s1=>∃u,r=some u∧
   wpAny (model P w) X.A (letOwnedTupleGo tg (.ref it) u) (fun _ s2=>∃x H',Inv X pins σ H' s2∧RelV x u∧J.yld i H x H'∧tn (i+1) s2.heap∧∀b∈fp,H' b=none) E s1) E s
 done:∀(X:Cx),X.prog=P→X.w=w→X.K=K→X.calm=true→∀(i:Nat) (pins:List (Addr×Obj)) (s:Shared) (σ:St) (H:Hp) (E:Value→Shared→Prop),Inv X pins σ H s→(∀b∈fp,FpOk X pins H b)→tn i s.heap→J.stop i H→
  wpAny (model P w) X.A (pyNext (.ref it)) (fun r s1=>r=none∧Inv X pins σ H s1) E s
 self:∀(A:Around) (i:Nat) (s:Shared) (Q:Value→Shared→Prop) (E:Value→Shared→Prop),tn i s.heap→Q (.ref it) s→wpAny (model P w) A (pyIter (.ref it)) Q E s
noncomputable abbrev TI:=St→Hp→(It→Hp→Prop)→Prop
noncomputable def PIE(X:Cx)(pins:List (Addr×Obj))(σ:St)(tg:Expr)(R:It→Hp→Prop)(itv:Value)(s2:Shared):Prop:=
 ∃(it:Addr) (fp:List Addr) (tn:Nat→Heap→Prop) (J:It) (H':Hp),itv=.ref it∧Inv X pins σ H' s2∧Turn X.prog X.w X.K tg J fp it tn∧tn 0 s2.heap∧(∀b∈fp,FpOk X pins H' b)∧R J H'
noncomputable def PI(X:Cx)(tg iter:Expr)(wi:TI):Prop:=
 ∀(pins:List (Addr×Obj)) (s:Shared) (σ:St) (H:Hp) (R:It→Hp→Prop),Inv X pins σ H s→wi σ H R→
  wpAny (model X.prog X.w) X.A (eval iter X.env) (fun v s1=>wpAny (model X.prog X.w) X.A (pyIter v) (PIE X pins σ tg R) X.xe s1) X.xe s
theorem zlG{M:Model}{A:Around}{E:Value→Shared→Prop}{s:Shared}{tg:Expr}{it:Addr}{u:Value}{o:Obj}{n:String}{vs:Array Value}{Q:Unit→Shared→Prop}(ho:s.heap.get? it=some o)(hc:o.cls=.type n)(hd:o.data=.fields vs)
  (hn:["enumerate","zip","dict_itemiterator","dict_reverseitemiterator","odict_iterator","itertools.zip_longest","itertools.pairwise"].contains n=false) (hQ:Q () s):wpAny M A (letOwnedTupleGo tg (.ref it) u) Q E s:=by
 unfold letOwnedTupleGo
 cases tg<;>first
  | exact wpAny_pure hQ
  | (cases u<;>first
    | exact wpAny_pure hQ
    | (refine wpAny_bind (wpAny_load ho ?_)
       rw[hc,hd]
       show wpAny M A (if (["enumerate","zip","dict_itemiterator","dict_reverseitemiterator","odict_iterator","itertools.zip_longest","itertools.pairwise"].contains n&&vs[0]?==some (rawInt _))=true then _ else _) Q E s
       rw[if_neg (by intro h;rw[hn,Bool.false_and] at h;cases h)]
       exact wpAny_pure hQ))
noncomputable def Itl(K:PySem.W.Frag)(a:Addr):It:=
 ⟨fun i H=>∃xs x,SqL K H a xs∧xs[i]?=some x,fun i H x H'=>H'=H∧∀xs,SqL K H a xs→xs[i]?=some x,fun i H=>∃xs,SqL K H a xs∧xs.length≤i⟩
noncomputable def Itt(K:PySem.W.Frag)(a:Addr):It:=
 ⟨fun i H=>∃xs x,SqT K H a xs∧xs[i]?=some x,fun i H x H'=>H'=H∧∀xs,SqT K H a xs→xs[i]?=some x,fun i H=>∃xs,SqT K H a xs∧xs.length≤i⟩
noncomputable def Itr(lo:Int)(n:Nat):It:=⟨fun i _=>i<n,fun i H x H'=>H'=H∧x=.int (lo+i),fun i _=>n≤i⟩
theorem zjQ{P:Program}{w:World}{K:PySem.W.Frag}{tg:Expr}(a it:Addr):Turn P w K tg (Itl K a) [it] it (fun i h=>h.IsListIter it a i) where
 mem:=by simp
 obj:=fun i h st b hb=>by
  have e:b=it:=by simpa using hb
  subst e
  obtain⟨o,e,c,d⟩:=st
  exact⟨o,e,fun v z=>by rw[d] at z;cases z⟩
 keep:=fun i h h' st k=>st.at fun o e=>k it (by simp) o e
 item:=by
  intro X hP hw hK hc i pins s σ H E I hf st hg
  subst hP hw hK
  obtain⟨xs,x,hq,hx⟩:=hg
  obtain⟨its,rv,p,hz⟩:=I.list hq
  obtain⟨u,hu,ru⟩:=rv.get hx
  obtain⟨f0,f1,f2,f3,f4,f5⟩:=hf it (by simp)
  refine wpAny_pyNext_list_item st p.isList (x:=u) (by simpa using hu) fun h' st' sb=>?_
  have I1:Inv X pins σ H { s with heap:=h' }:=I.turned (t':=s.toks) (fun b o hb e=>(sb.2 b hb).trans e) f0 f1 f3 f4 f5
  obtain⟨o,e,c,d⟩:=id st'
  exact⟨u,rfl,zlG (s:={ s with heap:=h' }) e c d (by decide) ⟨x,H,I1,ru,⟨rfl,fun ys hy=>by rw[I.list_inj hy hq];exact hx⟩,st',fun b hb=>(hf b hb).1⟩⟩
 done:=by
  intro X hP hw hK hc i pins s σ H E I hf st hg
  subst hP hw hK
  obtain⟨xs,hq,hx⟩:=hg
  obtain⟨its,rv,p,hz⟩:=I.list hq
  obtain⟨f0,f1,f2,f3,f4,f5⟩:=hf it (by simp)
  have hl:=rv.length
  exact wpAny_pyNext_list_end (I.ok.hd hc) st p.isList (by simp;omega) fun h' eb=>⟨rfl,I.turned (t':=s.toks) (fun b o hb e=>eb b o hb e) f0 f1 f3 f4 f5⟩
 self:=fun _ _ _ _ _ st h=>wpAny_pyIter_listiter st h
theorem zi2{P:Program}{w:World}{K:PySem.W.Frag}{tg:Expr}(a it:Addr):Turn P w K tg (Itt K a) [it] it (fun i h=>h.IsTupleIter it a i) where
 mem:=by simp
 obj:=fun i h st b hb=>by
  have e:b=it:=by simpa using hb
  subst e
  obtain⟨o,e,c,d⟩:=st
  exact⟨o,e,fun v z=>by rw[d] at z;cases z⟩
 keep:=fun i h h' st k=>st.at fun o e=>k it (by simp) o e
 item:=by
  intro X hP hw hK hc i pins s σ H E I hf st hg
  subst hP hw hK
  obtain⟨xs,x,hq,hx⟩:=hg
  obtain⟨its,rv,p,hz⟩:=I.tuple hq
  obtain⟨u,hu,ru⟩:=rv.get hx
  obtain⟨f0,f1,f2,f3,f4,f5⟩:=hf it (by simp)
  refine wpAny_pyNext_tuple_item st (show s.heap.IsTuple a its.toArray from p) (x:=u) (by simpa using hu) fun h' st' sb=>?_
  have I1:Inv X pins σ H { s with heap:=h' }:=I.turned (t':=s.toks) (fun b o hb e=>(sb.2 b hb).trans e) f0 f1 f3 f4 f5
  obtain⟨o,e,c,d⟩:=id st'
  exact⟨u,rfl,zlG (s:={ s with heap:=h' }) e c d (by decide) ⟨x,H,I1,ru,⟨rfl,fun ys hy=>by rw[I.tuple_inj hy hq];exact hx⟩,st',fun b hb=>(hf b hb).1⟩⟩
 done:=by
  intro X hP hw hK hc i pins s σ H E I hf st hg
  subst hP hw hK
  obtain⟨xs,hq,hx⟩:=hg
  obtain⟨its,rv,p,hz⟩:=I.tuple hq
  obtain⟨f0,f1,f2,f3,f4,f5⟩:=hf it (by simp)
  have hl:=rv.length
  exact wpAny_pyNext_tuple_end (I.ok.hd hc) st (show s.heap.IsTuple a its.toArray from p) (by simp;omega) fun h' eb=>⟨rfl,I.turned (t':=s.toks) (fun b o hb e=>eb b o hb e) f0 f1 f3 f4 f5⟩
 self:=fun _ _ _ _ _ st h=>wpAny_pyIter_tupleiter st h
theorem zi3{P:Program}{w:World}{K:PySem.W.Frag}{tg:Expr}(it:Addr)(lo:Int)(n:Nat):Turn P w K tg (Itr lo n) [it] it (fun i h=>IsRangeIter h it (lo+(i:Nat)*1) ((n:Int)-(i:Nat)) 1) where
 mem:=by simp
 obj:=fun i h st b hb=>by
  have e:b=it:=by simpa using hb
  subst e
  exact⟨_,st,fun v z=>by
   have z':Data.fields _=Data.cell v:=z
   cases z'⟩
 keep:=fun i h h' st k=>k it (by simp) _ st
 item:=by
  intro X hP hw hK hc i pins s σ H E I hf st hg
  subst hP hw hK
  obtain⟨f0,f1,f2,f3,f4,f5⟩:=hf it (by simp)
  have W:=Walks.range (prog:=X.prog) (w:=X.w) (I.ok.hd hc) it lo 1 n
  refine W.item i s _ _ hg st fun v h' tk hv st' kk=>?_
  obtain⟨t,rfl⟩:=hv
  have I1:Inv X pins σ H { s with heap:=h',toks:=tk }:=I.turned (fun b o hb e=>kk b o (by simpa using hb) e) f0 f1 f3 f4 f5
  refine⟨_,rfl,zlG (s:={ s with heap:=h',toks:=tk }) (n:="range_iterator") st' rfl rfl (by decide) ⟨.int (lo+i),H,I1,⟨t,?_⟩,⟨rfl,rfl⟩,st',fun b hb=>(hf b hb).1⟩⟩
  rw[Int.mul_one]
 done:=by
  intro X hP hw hK hc i pins s σ H E I hf st hg
  subst hP hw hK
  obtain⟨f0,f1,f2,f3,f4,f5⟩:=hf it (by simp)
  exact wpAny_pyNext_range_end (I.ok.hd hc) st (by have:n≤i:=hg;omega) fun h' eb=>⟨rfl,I.turned (t':=s.toks) (fun b o hb e=>eb b o hb e) f0 f1 f3 f4 f5⟩
 self:=fun _ _ _ _ _ st h=>wpAny_pyIter_rangeiter st h
end L2
namespace L2
open PySem PySem.Spec PyProof.Rows
section
variable {X:Cx} {tg:Expr}
theorem zin{pins:List (Addr×Obj)}{σ:St}{H:Hp}{s:Shared}{R:It→Hp→Prop}{E:Value→Shared→Prop}{lo hi:Int}{t u v:Tok}{tk:Nat}(I:Inv X pins σ H s)(h1:-(2 ^ 62)≤lo)(h2:lo<2 ^ 62)(h3:-(2 ^ 62)≤hi)(h4:hi<2 ^ 62)
  (q:R (Itr lo (hi-lo).toNat) H):wpAny (model X.prog X.w) X.A (pyIter (.ref s.heap.objs.size)) (PIE X pins σ tg R) E { s with heap:=s.heap.push { cls:=.type "range",data:=.fields #[.int lo t,.int hi u,.int 1 v] },toks:=tk }:=by
 refine wpAny_pyIter_range (IsRange.new ..) (small_one h1 h2 h3 h4) ?_
 have I1:Inv X pins σ H { s with heap:=s.heap.push { cls:=.type "range",data:=.fields #[.int lo t,.int hi u,.int 1 v] },toks:=tk }:=I.kept fun b o e=>Heap.get?_push_of_some _ e
 refine⟨(s.heap.push { cls:=.type "range",data:=.fields #[.int lo t,.int hi u,.int 1 v] }).objs.size,[(s.heap.push { cls:=.type "range",data:=.fields #[.int lo t,.int hi u,.int 1 v] }).objs.size],_,_,H,rfl,
  I1.kept (t':=tk) fun b o e=>Heap.get?_push_of_some _ e,zi3 _ lo (hi-lo).toNat,?_,fun b hb=>?_,q⟩
 ·have e1:lo+((0:Nat):Int)*1=lo:=by simp
  have e2:(((hi-lo).toNat:Nat):Int)-((0:Nat):Int)=Builtin.Range.rangeSize lo hi 1:=by rw[rangeSize_one];split<;>omega
  show IsRangeIter _ _ (lo+((0:Nat):Int)*1) ((((hi-lo).toNat:Nat):Int)-((0:Nat):Int)) 1
  rw[e1,e2]
  exact Heap.get?_push_size _ rfl
 ·have e:b=(s.heap.push { cls:=.type "range",data:=.fields #[.int lo t,.int hi u,.int 1 v] }).objs.size:=by simpa using hb
  subst e
  exact I1.fpOk (Nat.le_refl _) (I1.hok.fresh (Nat.le_refl _))
noncomputable def zp3(ta:TA):TI:=fun σ H R=>ta σ H fun vs H1=>∃j:Int,vs=[.int j]∧-(2 ^ 62)≤j∧j<2 ^ 62∧R (Itr 0 j.toNat) H1
noncomputable def zp4(ta:TA):TI:=fun σ H R=>ta σ H fun vs H1=>∃i j:Int,vs=[.int i,.int j]∧(-(2 ^ 62)≤i∧i<2 ^ 62∧-(2 ^ 62)≤j∧j<2 ^ 62)∧R (Itr i (j-i).toNat) H1
theorem zjR{a:Expr}{ta:TA}{p pos:Pos}(hg:Gl X "range")(hm:X.mg "range"=none)(ha:PA X [a] ta)(hs:starEach [a] X.env=[(false,eval a X.env)]:=by rfl):PI X tg (.Call (.Name "range" p) [a] [] pos) (zp3 ta):=by
 intro pins s σ H R I h
 refine Call_ (zc6 I hg hm boot_range (PyProof.Rows.callWith_type1 (thn (ha pos pins s σ H _ I h) fun us s1 ⟨vs,H1,I1,r1,q1⟩=>?_) hs rfl))
 obtain⟨j,e,q1,q2,q⟩:=q1
 subst e
 cases r1 with
 | cons r rr=>
  cases rr
  obtain⟨t,rfl⟩:=r
  exact call_range_1 (zin I1 (by omega) (by omega) q1 q2 (by simpa using q))
theorem zjS{a b:Expr}{ta:TA}{p pos:Pos}(hg:Gl X "range")(hm:X.mg "range"=none)(ha:PA X [a,b] ta)(hs:starEach [a,b] X.env=[(false,eval a X.env),(false,eval b X.env)]:=by rfl)(hs2:starEach [b] X.env=[(false,eval b X.env)]:=by rfl) :
  PI X tg (.Call (.Name "range" p) [a,b] [] pos) (zp4 ta):=by
 intro pins s σ H R I h
 refine Call_ (zc6 I hg hm boot_range (PyProof.Rows.callWith_type1 (thn (ha pos pins s σ H _ I h) fun us s1 ⟨vs,H1,I1,r1,q1⟩=>?_) (by rw[hs,hs2]) (by rw[hs2];rfl)))
 obtain⟨i,j,e,⟨q1,q2,q3,q4⟩,q⟩:=q1
 subst e
 cases r1 with
 | cons r rr=>
  cases rr with
  | cons r' rr=>
   cases rr
   obtain⟨t,rfl⟩:=r
   obtain⟨t',rfl⟩:=r'
   exact call_range_2 (zin I1 q1 q2 q3 q4 q)
noncomputable def zqS(wi:TI)(g:TG)(tb:TS):TS:=fun D σ H=>wi σ H fun J H1=>∃W:Nat→Nat→St→Hp→Prop,(∃m,W 0 m σ H1)∧∀i m σ H,W i m σ H→
 (J.stop i H∧D.nx σ H)∨(J.go i H∧∃N:St→Hp→Prop,(∀σ' H',N σ' H'→∃m',m'<m∧W (i+1) m' σ' H')∧∀x H',J.yld i H x H'→g x σ H' fun σ2 H2=>tb { D with nx:=N,ct:=N,bk:=D.nx } σ2 H2)
noncomputable def zgT(fp:List Addr)(h:Heap):List (Addr×Obj):=fp.filterMap fun b=>(h.get? b).map fun o=>(b,o)
theorem zc1{fp:List Addr}{h:Heap}{b:Addr}{o:Obj}(hb:b∈fp)(e:h.get? b=some o):(b,o)∈zgT fp h:=List.mem_filterMap.mpr ⟨b,hb,by rw[e];rfl⟩
theorem zjT{fp:List Addr}{h:Heap}{p:Addr×Obj}(hp:p∈zgT fp h):p.1∈fp∧h.get? p.1=some p.2:=by
 obtain⟨b,hb,e⟩:=List.mem_filterMap.mp hp
 cases q:h.get? b with
 | none=>rw[q] at e;cases e
 | some o=>
  rw[q] at e
  have e':(b,o)=p:=Option.some.inj e
  subst e'
  exact⟨hb,q⟩
theorem Inv.pinned{pins:List (Addr×Obj)}{σ:St}{H:Hp}{s:Shared}{fp:List Addr}(I:Inv X pins σ H s)(hf:∀b∈fp,FpOk X pins H b)(ho:∀b∈fp,∃o,s.heap.get? b=some o∧∀v,o.data≠.cell v):Inv X (pins++zgT fp s.heap) σ H s:=
 I.pins_of fun p hp=>(List.mem_append.mp hp).elim (fun z=>I.pin p (List.mem_append_right _ z)) fun z=>by
  obtain⟨hb,e⟩:=zjT z
  obtain⟨f0,f1,f2,_⟩:=hf p.1 hb
  obtain⟨o,e',d⟩:=ho p.1 hb
  rw[e] at e';cases e'
  exact⟨e,f0,f1,f2,d⟩
theorem Inv.unpinned{pins pl:List (Addr×Obj)}{σ:St}{H:Hp}{s:Shared}(I:Inv X (pins++pl) σ H s):Inv X pins σ H s:=I.pins_of fun p hp=>I.pin p (List.mem_append_right _ (List.mem_append_left _ hp))
theorem zoz{iter:Expr}{body:List Stmt}{wi:TI}{g:TG}{tb:TS}{pos:Pos}(hp:PassesOwn (model X.prog X.w) X.A X.env X.xe)(hc:X.calm=true)(hi:PI X tg iter wi)(hg:PG X tg g)(hb:PSs X body tb)
  (hs:∀x,foldedSetIterable iter X.env x=pure x:=by intro _;rfl):PS X (.For tg iter body [] pos) (zqS wi g tb):=by
 intro pins s σ H D I h
 refine wpAny_For (thn (hi pins s σ H _ I h) fun v s1 h1=>thn h1 fun itv s2 h2=>?_) hs
 obtain⟨it,fp,tn,J,H2,e,I2,T,st2,f2,W,⟨m0,w0⟩,turn⟩:=h2
 subst e
 -- what stays true of the iterator's objects through the loop
 have stat:∀{H':Hp},(∀b∈fp,H' b=none)→∀b∈fp,FpOk X pins H' b:=fun hn b hb=>⟨hn b hb,(f2 b hb).2⟩
 refine codeAny_forLoop_any (fun n s'=>∃i σ' H',Inv X pins σ' H' s'∧tn i s'.heap∧(∀b∈fp,H' b=none)∧W i n σ' H') ?_ m0 ⟨0,σ,H2,I2,st2,fun b hb=>(f2 b hb).1,w0⟩
 rintro n s3 ⟨i,σ3,H3,I3,st3,fr3,w3⟩
 rcases turn i n σ3 H3 w3 with⟨stop,qn⟩ | ⟨go,N,hN,step⟩
 ·refine wpAny_passesOwn hp (thn (T.done X rfl rfl rfl hc i pins s3 σ3 H3 X.xe I3 (stat fr3) st3 stop) fun r s4 ⟨hr,I4⟩=>?_)
  subst hr
  exact wpAny_execs_nil ⟨σ3,H3,I4,qn⟩
 ·refine wpAny_passesOwn hp (thn (T.item X rfl rfl rfl hc i pins s3 σ3 H3 X.xe I3 (stat fr3) st3 go) fun r s4 ⟨u,hr,h4⟩=>?_)
  subst hr
  refine wpAny_passesOwn hp (thn h4 fun _ s5 ⟨x,H5,I5,r5,y5,st5,fr5⟩=>?_)
  have I5':=I5.pinned (stat fr5) (T.obj _ _ st5)
  refine wpAny_passesOwn hp (thn (hg _ s5 σ3 H5 x u _ I5' r5 (step x H5 y5)) fun _ s6 ⟨σ6,H6,I6,q6⟩=>?_)
  refine wpAny_passesOwn hp (thn (hb _ s6 σ6 H6 _ I6 q6) fun f s7 q7=>?_)
  have again:∀{σ7:St} {H7:Hp},Inv X (pins++zgT fp s5.heap) σ7 H7 s7→N σ7 H7→∃m,m<n∧∃i σ' H',Inv X pins σ' H' s7∧tn i s7.heap∧(∀b∈fp,H' b=none)∧W i m σ' H':=fun{σ7 H7} I7 n7=>by
   obtain⟨m',hm,w7⟩:=hN σ7 H7 n7
   refine⟨m',hm,i+1,σ7,H7,I7.unpinned,T.keep _ _ _ st5 fun b hb o e=>(I7.pin (b,o) (List.mem_append_right _ (List.mem_append_right _ (zc1 hb e)))).1,fun b hb=>?_,w7⟩
   obtain⟨o,e,d⟩:=T.obj _ _ st5 b hb
   exact(I7.pin (b,o) (List.mem_append_right _ (List.mem_append_right _ (zc1 hb e)))).2.1
  cases f with
  | next=>obtain⟨σ7,H7,I7,n7⟩:=q7;exact again I7 n7
  | cont=>obtain⟨σ7,H7,I7,n7⟩:=q7;exact again I7 n7
  | brk=>obtain⟨σ7,H7,I7,q7⟩:=q7;exact⟨σ7,H7,I7.unpinned,q7⟩
  | ret v=>obtain⟨x7,σ7,H7,I7,r7,q7⟩:=q7;exact⟨x7,σ7,H7,I7.unpinned,r7,q7⟩
end
end L2
namespace L2
open PySem PySem.Spec PyProof.Rows
noncomputable abbrev R2:=V→V→Hp→VK→Prop
noncomputable def OpR(X:Cx)(f:Value→Value→Sem Value)(r:R2):Prop:=
 ∀(pins:List (Addr×Obj)) (s:Shared) (σ:St) (H:Hp) (x y:V) (v u:Value) (Q:VK),Inv X pins σ H s→RelV x v→RelV y u→r x y H Q→
  wpAny (model X.prog X.w) X.A (f v u) (EP X pins σ Q) X.xe s
noncomputable def UnR(X:Cx)(f:Value→Sem Value)(r:V→Hp→VK→Prop):Prop:=
 ∀(pins:List (Addr×Obj)) (s:Shared) (σ:St) (H:Hp) (x:V) (v:Value) (Q:VK),Inv X pins σ H s→RelV x v→r x H Q→
  wpAny (model X.prog X.w) X.A (f v) (EP X pins σ Q) X.xe s
noncomputable def CallR(X:Cx)(f:Value)(r:List V→Hp→VK→Prop):Prop:=
 ∀(pins:List (Addr×Obj)) (s:Shared) (σ:St) (H:Hp) (xs:List V) (us:List Value) (Q:VK),Inv X pins σ H s→Vals xs us→r xs H Q→
  wpAny (model X.prog X.w) X.A (call f us) (EP X pins σ Q) X.xe s
noncomputable def tOp(r:R2)(ta tb:TE):TE:=fun σ H Q=>ta σ H fun x H1=>tb σ H1 fun y H2=>r x y H2 Q
noncomputable def tUn(r:V→Hp→VK→Prop)(ta:TE):TE:=fun σ H Q=>ta σ H fun x H1=>r x H1 Q
noncomputable def rI(C:Int→Int→Prop)(g:Int→Int→V):R2:=fun x y H Q=>∃i j,x=.int i∧y=.int j∧C i j∧Q (g i j) H
noncomputable def rI0(g:Int→Int→V):R2:=fun x y H Q=>∃i j,x=.int i∧y=.int j∧Q (g i j) H
noncomputable def rU(g:Int→V):V→Hp→VK→Prop:=fun x H Q=>∃i,x=.int i∧Q (g i) H
section
variable {X:Cx} {a b c:Expr} {ta tb tc:TE} {pos:Pos}
theorem zp5(ha:PE X a ta)(hb:PE X b tb){pins:List (Addr×Obj)}{s:Shared}{σ:St}{H:Hp}{R:V→V→Hp→Prop}(I:Inv X pins σ H s)
  (h:ta σ H fun x H1=>tb σ H1 fun y H2=>R x y H2) {Q:Value→Shared→Prop} {f:Value→Value→Sem Value}
  (hf:∀v u s2 x y H2,Inv X pins σ H2 s2→RelV x v→RelV y u→R x y H2→wpAny (model X.prog X.w) X.A (f v u) Q X.xe s2) :
  wpAny (model X.prog X.w) X.A (eval a X.env) (fun v s₁=>wpAny (model X.prog X.w) X.A (eval b X.env) (fun u s₂=>wpAny (model X.prog X.w) X.A (f v u) Q X.xe s₂) X.xe s₁) X.xe s:=by
 refine thn (ha pins s σ H _ I h) fun v s1 ⟨x,H1,I1,r1,q1⟩=>?_
 refine thn (hb pins s1 σ H1 _ I1 q1) fun u s2 ⟨y,H2,I2,r2,q2⟩=>?_
 exact hf v u s2 x y H2 I2 r1 r2 q2
theorem zp6{op:Operator}{r:R2}(ho:OpR X (binaryOp op) r)(ha:PE X a ta)(hb:PE X b tb):PE X (.BinOp a op b pos) (tOp r ta tb):=by
 intro pins s σ H Q I h
 exact wpAny_BinOp (zp5 ha hb I h fun v u s2 x y H2 I2 rx ry q=>ho pins s2 σ H2 x y v u Q I2 rx ry q)
theorem zp7{op:UnaryOp}{r:V→Hp→VK→Prop}(ho:UnR X (unaryOp op) r)(ha:PE X a ta):PE X (.UnaryOp op a pos) (tUn r ta):=by
 intro pins s σ H Q I h
 exact UnaryOp_ (thn (ha pins s σ H _ I h) fun v s1 ⟨x,H1,I1,r1,q1⟩=>ho pins s1 σ H1 x v Q I1 r1 q1)
theorem opI{f:Value→Value→Sem Value}{C:Int→Int→Prop}{g:Int→Int→Int}
  (rule:∀(i j:Int) (t u:Tok) (s:Shared) (Q:Value→Shared→Prop) (E:Value→Shared→Prop),C i j→Q (.int (g i j) s.toks) { s with toks:=s.toks+1 }→wpAny (model X.prog X.w) X.A (f (.int i t) (.int j u)) Q E s) :
  OpR X f (rI C fun i j=>.int (g i j)):=by
 intro pins s σ H x y v u Q I rx ry h
 obtain⟨i,j,rfl,rfl,hc,q⟩:=h
 obtain⟨t,rfl⟩:=rx
 obtain⟨t',rfl⟩:=ry
 exact rule i j t t' s _ _ hc ⟨.int (g i j),H,I.tok _,⟨_,rfl⟩,q⟩
theorem zqy{f:Value→Value→Sem Value}{g:Int→Int→Int}
  (rule:∀(i j:Int) (t u:Tok) (s:Shared) (Q:Value→Shared→Prop) (E:Value→Shared→Prop),Q (.int (g i j) s.toks) { s with toks:=s.toks+1 }→wpAny (model X.prog X.w) X.A (f (.int i t) (.int j u)) Q E s) :
  OpR X f (rI0 fun i j=>.int (g i j)):=by
 intro pins s σ H x y v u Q I rx ry h
 obtain⟨i,j,rfl,rfl,q⟩:=h
 obtain⟨t,rfl⟩:=rx
 obtain⟨t',rfl⟩:=ry
 exact rule i j t t' s _ _ ⟨.int (g i j),H,I.tok _,⟨_,rfl⟩,q⟩
theorem zp8{f:Value→Value→Sem Value}{g:Int→Int→Bool}
  (rule:∀(i j:Int) (t u:Tok) (s:Shared) (Q:Value→Shared→Prop) (E:Value→Shared→Prop),Q (.bool (g i j)) s→wpAny (model X.prog X.w) X.A (f (.int i t) (.int j u)) Q E s) :
  OpR X f (rI0 fun i j=>.bl (g i j)):=by
 intro pins s σ H x y v u Q I rx ry h
 obtain⟨i,j,rfl,rfl,q⟩:=h
 obtain⟨t,rfl⟩:=rx
 obtain⟨t',rfl⟩:=ry
 exact rule i j t t' s _ _ ⟨.bl (g i j),H,I,rfl,q⟩
noncomputable def zet(i j:Int):Prop:=0<j∧j<1073741824
noncomputable def zlu(i j:Int):Prop:=0≤j∧j≤1000000∧i.natAbs<2 ^ 64
noncomputable def CMul(i j:Int):Prop:=(-(2 ^ 64)<i∧i<2 ^ 64)∨(-(2 ^ 64)<j∧j<2 ^ 64)
theorem CMul.ok{i j:Int}(h:CMul i j):IntMulOk i j:=by
 rcases h with⟨h1,h2⟩ | ⟨h1,h2⟩
 ·exact .of_left (intBits_le_64 h1 h2)
 ·exact .of_right (intBits_le_64 h1 h2)
theorem op_add:OpR X (binaryOp .Add) (rI0 fun i j=>.int (i+j)):=zqy fun _ _ _ _ _ _ _ q=>add_int q
theorem zoA:OpR X (binaryOp .Sub) (rI0 fun i j=>.int (i-j)):=zqy fun _ _ _ _ _ _ _ q=>sub_int q
theorem zoB:OpR X (binaryOp .Mult) (rI CMul fun i j=>.int (i*j)):=opI fun _ _ _ _ _ _ _ hc q=>mul_int q hc.ok
theorem zng:OpR X (binaryOp .FloorDiv) (rI zet fun i j=>.int (i/j)):=opI fun i j _ _ _ _ _ hc q=>by
 have h1:(0:Int)<j:=hc.1
 have h2:j<1073741824:=hc.2
 exact floordiv_int (by omega) (by rw[Int.fdiv_eq_ediv_of_nonneg i (by omega)];exact q) (.inl (PyProof.noPylong_small (by omega)))
theorem zoC:OpR X (binaryOp .Mod) (rI (fun _ j=>0<j) fun i j=>.int (i%j)):=opI fun i j _ _ _ _ _ hc q=>by
 have h1:(0:Int)<j:=hc
 exact mod_int' (by omega) (by rw[Int.fmod_eq_emod_of_nonneg i (by omega)];exact q)
theorem zoD:OpR X (binaryOp .Pow) (rI zlu fun i j=>.int (i ^ j.toNat)):=opI fun _ _ _ _ _ _ _ hc q=>pow_int_small hc.1 hc.2.1 hc.2.2 q
theorem unI{f:Value→Sem Value}{g:Int→Int}
  (rule:∀(i:Int) (t:Tok) (s:Shared) (Q:Value→Shared→Prop) (E:Value→Shared→Prop),Q (.int (g i) s.toks) { s with toks:=s.toks+1 }→wpAny (model X.prog X.w) X.A (f (.int i t)) Q E s) :
  UnR X f (rU fun i=>.int (g i)):=by
 intro pins s σ H x v Q I rx h
 obtain⟨i,rfl,q⟩:=h
 obtain⟨t,rfl⟩:=rx
 exact rule i t s _ _ ⟨.int (g i),H,I.tok _,⟨_,rfl⟩,q⟩
theorem zoE:UnR X (unaryOp .USub) (rU fun i=>.int (-i)):=unI fun _ _ _ _ _ q=>neg_int q
end
section
variable {X:Cx} {a b c:Expr} {ta tb tc:TE} {pos:Pos}
theorem zjU{pins:List (Addr×Obj)}{σ:St}{H:Hp}{s:Shared}{Q:VK}{k k':Bool}(I:Inv X pins σ H s)(q:Q (.bl k) H)(e:k=k'):EP X pins σ Q (.bool k') s:=by
 subst e
 exact⟨.bl k,H,I,rfl,q⟩
theorem zp9:OpR X (compareOp .Lt) (rI0 fun i j=>.bl (decide (i<j))):=zp8 fun _ _ _ _ _ _ _ q=>lt_int q
theorem zoF:OpR X (compareOp .LtE) (rI0 fun i j=>.bl (decide (i≤j))):=zp8 fun _ _ _ _ _ _ _ q=>le_int q
theorem zqa:OpR X (compareOp .Gt) (rI0 fun i j=>.bl (decide (j<i))):=zp8 fun _ _ _ _ _ _ _ q=>gt_int q
theorem op_in_str:OpR X (compareOp .In) (fun x y H Q=>∃i j,x=.str i∧y=.str j∧Q (.bl (!(Builtin.Str.occurrences j i 0 j.length 1).isEmpty)) H):=by
 intro pins s σ H x y v u Q I rx ry h
 obtain⟨i,j,rfl,rfl,q⟩:=h
 obtain⟨t,rfl⟩:=rx
 obtain⟨t',rfl⟩:=ry
 exact in_str (zjU I q rfl)
theorem zoG:OpR X (compareOp .Is) (fun x y H Q=>y=.non∧Q (.bl (decide (x=.non))) H):=by
 intro pins s σ H x y v u Q I rx ry h
 obtain⟨rfl,q⟩:=h
 cases ry
 refine is_none_gen (zjU I q ?_)
 cases x<;>first
  | (cases rx;rfl)
  | (obtain⟨t,rfl⟩:=rx;rfl)
theorem znh:OpR X (compareOp .IsNot) (fun x y H Q=>y=.non∧Q (.bl (!decide (x=.non))) H):=by
 intro pins s σ H x y v u Q I rx ry h
 obtain⟨rfl,q⟩:=h
 cases ry
 refine isnot_none_gen (zjU I q ?_)
 cases x<;>first
  | (cases rx;rfl)
  | (obtain⟨t,rfl⟩:=rx;rfl)
theorem OpR.or{f:Value→Value→Sem Value}{r r':R2}(h:OpR X f r)(h':OpR X f r'):OpR X f (fun x y H Q=>r x y H Q∨r' x y H Q):=by
 intro pins s σ H x y v u Q I rx ry q
 rcases q with q | q
 ·exact h pins s σ H x y v u Q I rx ry q
 ·exact h' pins s σ H x y v u Q I rx ry q
theorem zmK(b:Expr){op:CmpOp}(h:op≠.In:=by decide)(h2:op≠.NotIn:=by decide):behindInMarks op b=false:=by
 have e1:(op==CmpOp.In)=false:=by cases op<;>first | rfl | exact absurd rfl h
 have e2:(op==CmpOp.NotIn)=false:=by cases op<;>first | rfl | exact absurd rfl h2
 cases b<;>simp[behindInMarks,e1,e2]
theorem zni{op:CmpOp}{r:R2}(ho:OpR X (compareOp op) r)(ha:PE X a ta)(hb:PE X b tb)(hm:behindInMarks op b=false):PE X (.Compare a [op] [b] pos) (tOp r ta tb):=by
 intro pins s σ H Q I h
 exact wpAny_Compare1 (zp5 ha hb I h fun v u s2 x y H2 I2 rx ry q=>ho pins s2 σ H2 x y v u Q I2 rx ry q) hm
noncomputable def znj(t:TE):TT:=fun σ H Q=>t σ H fun x H'=>∃k,x=.bl k∧Q k H'
theorem znk{op:CmpOp}{r:R2}(ho:OpR X (compareOp op) r)(ha:PE X a ta)(hb:PE X b tb)(hm:behindInMarks op b=false):PT X (.Compare a [op] [b] pos) (znj (tOp r ta tb)):=by
 intro pins s σ H Q I h
 refine wpAny_isTrue_Compare1 (thn (ha pins s σ H _ I h) fun v s1 ⟨x,H1,I1,r1,q1⟩=>thn (hb pins s1 σ H1 _ I1 q1) fun u s2 ⟨y,H2,I2,r2,q2⟩=>
  thn (ho pins s2 σ H2 x y v u _ I2 r1 r2 q2) fun c s3 ⟨z,H3,I3,r3,k,e,q3⟩=>?_) hm
 subst e
 cases r3
 exact wpAny_truthy_bool ⟨H3,I3,q3⟩
noncomputable def zmL(r r':R2)(ta tb tc:TE):TE:=fun σ H Q=>ta σ H fun x H1=>tb σ H1 fun y H2=>r x y H2 fun z H3=>∃k,z=.bl k∧
 (if k=true then tc σ H3 fun w' H4=>r' y w' H4 Q else Q (.bl false) H3)
theorem zlH{op op':CmpOp}{r r':R2}(ho:OpR X (compareOp op) r)(ho':OpR X (compareOp op') r')(ha:PE X a ta)(hb:PE X b tb)(hc:PE X c tc)
  (hm:lastMarks [op,op'] [b,c]=false:=by with_unfolding_all rfl):PT X (.Compare a [op,op'] [b,c] pos) (znj (zmL r r' ta tb tc)):=by
 intro pins s σ H Q I h
 refine isTrue_chain (thn (ha pins s σ H _ I h) fun v s1 ⟨x,H1,I1,r1,q1⟩=>test_link (thn (hb pins s1 σ H1 _ I1 q1) fun u s2 ⟨y,H2,I2,r2,q2⟩=>
  thn (ho pins s2 σ H2 x y v u _ I2 r1 r2 q2) fun d s3 ⟨z,H3,I3,r3,k,e,q3⟩=>?_)) hm
 subst e
 cases r3
 refine wpAny_truthy_bool ?_
 cases k with
 | false=>
  obtain⟨k',e',q'⟩:=q3
  cases e'
  exact ite_ff ⟨H3,I3,q'⟩
 | true=>
  refine ite_tt (test_last (thn (hc pins s3 σ H3 _ I3 q3) fun w' s4 ⟨z',H4,I4,r4,q4⟩=>thn (ho' pins s4 σ H4 y z' u w' _ I4 r2 r4 q4) fun d' s5 ⟨z2,H5,I5,r5,k2,e2,q5⟩=>?_))
  subst e2
  cases r5
  exact wpAny_truthy_bool ⟨H5,I5,q5⟩
theorem zgU:(sizeLine:Nat)<2 ^ 63:=by rw[sizeLine_eq];decide
theorem op_add_str:OpR X (binaryOp .Add) (fun x y H Q=>∃i j,x=.str i∧y=.str j∧i.length+j.length≤sizeLine∧Q (.str (i++j)) H):=by
 intro pins s σ H x y v u Q I rx ry h
 obtain⟨i,j,rfl,rfl,hz,q⟩:=h
 obtain⟨t,rfl⟩:=rx
 obtain⟨t',rfl⟩:=ry
 exact add_str (fun t' tk=>⟨.str (i++j),H,I.tok _,⟨_,rfl⟩,q⟩) hz
theorem zcN{x:V}{us:List Value}(r:Vals [x] us):∃u,us=[u]∧RelV x u:=by
 cases r with
 | cons r1 r2=>cases r2;exact⟨_,rfl,r1⟩
theorem zgc{x y:V}{us:List Value}(r:Vals [x,y] us):∃u w',us=[u,w']∧RelV x u∧RelV y w':=by
 cases r with
 | cons r1 r2=>
  cases r2 with
  | cons r3 r4=>cases r4;exact⟨_,_,rfl,r1,r3⟩
theorem zjV(hc:X.calm=true):CallR X (.builtin "max") (fun xs H Q=>∃i j,xs=[.int i,.int j]∧Q (.int (if j>i then j else i)) H):=by
 intro pins s σ H xs us Q I r h
 obtain⟨i,j,rfl,q⟩:=h
 obtain⟨u,w',rfl,⟨t,rfl⟩,⟨t',rfl⟩⟩:=zgc r
 refine max_two_ints (I.ok.hd hc) fun h' tk k=>⟨_,H,I.kept k,?_,q⟩
 by_cases hj:j>i
 ·rw[if_pos hj,if_pos hj];exact⟨_,rfl⟩
 ·rw[if_neg hj,if_neg hj];exact⟨_,rfl⟩
theorem zjW(hc:X.calm=true):CallR X (.builtin "min") (fun xs H Q=>∃i j,xs=[.int i,.int j]∧Q (.int (if j<i then j else i)) H):=by
 intro pins s σ H xs us Q I r h
 obtain⟨i,j,rfl,q⟩:=h
 obtain⟨u,w',rfl,⟨t,rfl⟩,⟨t',rfl⟩⟩:=zgc r
 refine min_two_ints (I.ok.hd hc) fun h' tk k=>⟨_,H,I.kept k,?_,q⟩
 by_cases hj:j<i
 ·rw[if_pos hj,if_pos hj];exact⟨_,rfl⟩
 ·rw[if_neg hj,if_neg hj];exact⟨_,rfl⟩
theorem zjX:CallR X (.type "int") (fun xs H Q=>(∃i,xs=[.int i]∧Q (.int i) H)∨∃k,xs=[.bl k]∧Q (.int (if k then 1 else 0)) H):=by
 intro pins s σ H xs us Q I r h
 rcases h with⟨i,rfl,q⟩ | ⟨k,rfl,q⟩
 ·obtain⟨u,rfl,t,rfl⟩:=zcN r
  exact call_int_int ⟨.int i,H,I,⟨_,rfl⟩,q⟩
 ·obtain⟨u,rfl,r1⟩:=zcN r
  cases r1
  exact call_int_bool ⟨.int (if k then 1 else 0),H,I.tok _,⟨_,rfl⟩,q⟩
end
end L2
namespace L2
open PySem PySem.Spec PyProof.Rows
structure ObjM (h:Heap) (x dx C:Addr) (mA:Str→Option Value):Prop where
 obj:h.get? x=some (PySem.W.instObj C dx)
 ns:h.Ns1 dx mA
 ne:dx≠x
theorem zjY{h:Heap}{dx:Addr}{mA:Str→Option Value}(n:h.Ns1 dx mA):∃od,h.get? dx=some od∧∀name,PySem.W.lookIn name od=some (mA name):=by
 obtain⟨o,es,ep,ho,hd,hk,_,hm⟩:=n
 refine⟨o,ho,fun name=>?_⟩
 have e:=hm name
 unfold nsFind findBy at e
 rw[←Array.find?_toList] at e
 unfold PySem.W.lookIn
 rw[hd]
 dsimp only
 split
 ·rename_i y q
  rw[q] at e
  exact congrArg some e
 ·rename_i q
  rw[q] at e
  have a:es.toList.any (·.refKey)=false:=by
   rw[List.any_eq_false]
   intro y hy
   obtain⟨z,t,hkey⟩:=hk y (Array.mem_toList_iff.mp hy)
   simp[DictEntry.refKey,hkey]
  have a':¬es.toList.any (·.refKey)=true:=by rw[a];exact Bool.false_ne_true
  rw[if_neg a']
  exact congrArg some e
theorem ObjM.look{h:Heap}{x dx C:Addr}{mA:Str→Option Value}(I:ObjM h x dx C mA):∃od,PySem.W.InstAt h x (PySem.W.instObj C dx) C (some od)∧∀name,PySem.W.lookIn name od=some (mA name):=
 let⟨od,ho,hl⟩:=zjY I.ns
 ⟨od,⟨I.obj,rfl,rfl,ho⟩,hl⟩
section
variable {prog:Program} {w:World} {A:Around} {E:Value→Shared→Prop} {s:Shared} {K:PySem.W.Frag} {x dx C f:Addr} {mA:Str→Option Value} {name:Str} {v:Value}
theorem znl{expr:Bool}{Q:Value→Shared→Prop}(X:K.In s.heap)(I:ObjM s.heap x dx C mA)(hg:PySem.W.plainGet K C name=true)(hh:PySem.W.hasDictIn K C=true)
  (ha:PySem.W.findIn K (.ref C) name=some none) (hv:mA name=some v) (hv':PySem.W.handedIn v=true) (h:Q v { s with toks:=s.toks+1 }) :
  wpAny (model prog w) A (getAttr (.ref x) name expr) Q E s:=by
 obtain⟨od,J,hl⟩:=I.look
 exact PySem.W.get_value X J (PySem.W.plainGet_of hg).1 (PySem.W.findObj_own hh ha rfl (by rw[hl,hv])) hv' h
theorem znm{ns:List Str}{Q:Unit→Shared→Prop}(X:K.In s.heap)(I:ObjM s.heap x dx C mA)
  (hs:PySem.W.findIn K (.ref C) "__setattr__"=some (some (.builtin "object.__setattr__"))) (hp:PySem.W.plainOver K C=true) (ht:PySem.W.takerIn K C name=some none) (hh:PySem.W.hasDictIn K C=true)
  (hw:PySem.Within mA ns) (hsz:ns.length≤sizeLine)
  (h:∀h',ObjM h' x dx C (fun y=>if y=name then some v else mA y)→Heap.SameBut dx s.heap h'→Q () { s with heap:=h',toks:=s.toks+2 }) :
  wpAny (model prog w) A (setAttr (.ref x) name v) Q E s:=by
 obtain⟨od,J,hl⟩:=I.look
 refine PySem.W.set_plain X J hs (PySem.W.osa_open (s:={ s with toks:=s.toks+1 }) (r:=none) X J hp ht fun b=>?_)
 obtain⟨cd,hc,hd'⟩:=PySem.W.any_some hh
 have hx:s.heap.get? x=some ⟨.ref C,some dx,.plain,#[]⟩:=I.obj
 refine wpAny_bind (wpAny_pure (wpAny_bind (wpAny_bind (wpAny_loadPart hx (wpAny_bind (PySem.W.Looks.here (s:={ s with toks:=s.toks+1 }) (PySem.W.looks_clsIn X hc) ?_))))))
 rw[hd']
 refine wpAny_pure (a:=some dx) (wpAny_bind (wpAny_pure (wpAny_bind ?_)))
 refine wpAny_nsSet1 (s:={ s with toks:=s.toks+1 }) I.ns fun h' hn2 hs2=>?_
 obtain⟨oD,esD,epD,hoD,hdD,hcD⟩:=hn2.count (PySem.Within.cons name v hw)
 refine wpAny_bind (wpAny_lookBehind hoD (by rw[hdD];exact pastItsLine_dict (Nat.le_trans hcD (by rw[List.length_cons];omega))) ?_)
 exact wpAny_pure (h _ ⟨(hs2.2 _ (Ne.symm I.ne)).trans I.obj,hn2,I.ne⟩ hs2)
theorem zlI{R:Result→Shared→Prop}{vs:List Value}{kw:List (Str×Value)}(X:K.In s.heap)(hm:PySem.W.makesIn K C=true)
  (hi:PySem.W.findIn K (.ref C) "__init__"=some (some (.ref f))) (hf:PySem.W.typeIn K (.ref f)=some (.type "function"))
  (h:codeAny (model prog w) (A.under (.builtin "type.__call__" ⟨.ref C::vs,kw⟩)) (.call (.ref f) ⟨.ref (s.heap.objs.size+1)::vs,kw⟩) (PySem.W.InitBack (s.heap.objs.size+1) R)
   { s with heap:=(s.heap.push PySem.W.emptyDict).push (PySem.W.instObj C s.heap.objs.size) }) :
  codeAny (model prog w) A (.call (.ref C) ⟨vs,kw⟩) R s:=by
 obtain⟨hh,g,d,t,os⟩:=s
 exact PySem.W.make_core (PySem.W.makes_of X hm) (PySem.W.looks_findIn X hi) (fun self=>PySem.W.bind_fn X self hf) (.inl rfl) h
end
noncomputable def zfU(f:Str)(v:V):List (Str×V)→List (Str×V)
 | []=>[(f,v)]
 | (g,x)::r=>if g=f then(g,v)::r else(g,x)::zfU f v r
theorem zeK(f g:Str)(v:V):∀fs:List (Str×V),(zfU f v fs).lookup g=if g=f then some v else fs.lookup g
 | []=>by
  show List.lookup g [(f,v)]=_
  by_cases h:g=f
  ·have hb:(g==f)=true:=beq_iff_eq.mpr h
   simp only[List.lookup,hb,if_pos h]
  ·have hb:(g==f)=false:=beq_eq_false_iff_ne.mpr h
   simp only[List.lookup,hb,if_neg h]
 | (k,x)::r=>by
  have ih:=zeK f g v r
  rw[show zfU f v ((k,x)::r)=(if k=f then(k,v)::r else(k,x)::zfU f v r) from rfl]
  by_cases hk:k=f
  ·rw[if_pos hk]
   by_cases h:g=k
   ·have hb:(g==k)=true:=beq_iff_eq.mpr h
    simp only[List.lookup,hb,if_pos (h.trans hk)]
   ·have hb:(g==k)=false:=beq_eq_false_iff_ne.mpr h
    simp only[List.lookup,hb,if_neg (fun e:g=f=>h (e.trans hk.symm))]
  ·rw[if_neg hk]
   by_cases h:g=k
   ·have hb:(g==k)=true:=beq_iff_eq.mpr h
    simp only[List.lookup,hb,if_neg (fun e:g=f=>hk (h.symm.trans e))]
   ·have hb:(g==k)=false:=beq_eq_false_iff_ne.mpr h
    simp only[List.lookup,hb]
    exact ih
theorem zeL(f:Str)(v:V):∀fs:List (Str×V),f∈(zfU f v fs).map (·.1)∧∀g,g∈fs.map (·.1)→g∈(zfU f v fs).map (·.1)
 | []=>⟨by simp[zfU],fun g h=>by simp at h⟩
 | (k,x)::r=>by
  obtain⟨i1,i2⟩:=zeL f v r
  rw[show zfU f v ((k,x)::r)=(if k=f then(k,v)::r else(k,x)::zfU f v r) from rfl]
  by_cases hk:k=f
  ·rw[if_pos hk]
   subst hk
   exact⟨by simp,fun g h=>by simpa using h⟩
  ·rw[if_neg hk]
   refine⟨?_,fun g h=>?_⟩
   ·rw[List.map_cons]
    exact List.mem_cons_of_mem _ i1
   ·rw[List.map_cons] at h ⊢
    rcases List.mem_cons.mp h with e | e
    ·exact List.mem_cons.mpr (.inl e)
    ·exact List.mem_cons_of_mem _ (i2 g e)
theorem zeM(f:Str)(v:V):∀fs:List (Str×V),(zfU f v fs).length≤fs.length+1
 | []=>by simp[zfU]
 | (k,x)::r=>by
  have ih:=zeM f v r
  rw[show zfU f v ((k,x)::r)=(if k=f then(k,v)::r else(k,x)::zfU f v r) from rfl]
  by_cases hk:k=f
  ·rw[if_pos hk,List.length_cons,List.length_cons];omega
  ·rw[if_neg hk,List.length_cons,List.length_cons];omega
theorem RelO.some_of{v:V}{o:Option Value}(r:RelO (some v) o):∃u,o=some u∧RelV v u:=by
 cases o with
 | none=>exact(show False from r).elim
 | some u=>exact⟨u,rfl,r⟩
theorem zjZ{v:V}{u:Value}(r:RelV v u):PySem.W.handedIn u=true:=by
 cases v with
 | non=>cases (show u=Value.none from r);rfl
 | bl b=>cases (show u=Value.bool b from r);rfl
 | int i=>obtain⟨t,e⟩:=(show ∃t,u=Value.int i t from r);cases e;rfl
 | str x=>obtain⟨t,e⟩:=(show ∃t,u=Value.str x t from r);cases e;rfl
 | byt b=>obtain⟨t,e⟩:=(show ∃t,u=Value.bytes b t from r);cases e;rfl
 | flt b=>obtain⟨t,e⟩:=(show ∃t,u=Value.float b t from r);cases e;rfl
 | ref a=>cases (show u=Value.ref a from r);rfl
 | ty n=>cases (show u=Value.type n from r);rfl
section
variable {P:Program} {w:World} {H H':Hp} {h h':Heap} {a C dx:Addr} {fs fs':List (Str×V)}
theorem zj0(hok:HOk P w H h)(e:H a=some (.ins C dx fs)):∃mA,ObjM h a dx C mA∧(∀f,RelO (fs.lookup f) (mA f))∧PySem.Within mA (fs.map (·.1))∧fs.length≤1000∧H dx=some (.own a):=by
 obtain⟨d,z,ne,ob,mA,n,r,q⟩:=(show ObjOk P w H h a (.ins C dx fs) from hok a _ e)
 exact⟨mA,⟨ob,n,ne⟩,r,q,z,d⟩
end
structure Cls (K:PySem.W.Frag) (C:Addr):Prop where
 pg:PySem.W.plainGet K C Str.empty=true
 hd:PySem.W.hasDictIn K C=true
 po:PySem.W.plainOver K C=true
 sa:PySem.W.findIn K (.ref C) "__setattr__"=some (some (.builtin "object.__setattr__"))
theorem Cls.get{K:PySem.W.Frag}{C:Addr}(c:Cls K C)(f:Str):PySem.W.plainGet K C f=true:=c.pg
noncomputable def NoAttr(K:PySem.W.Frag)(C:Addr)(f:Str):Prop:=PySem.W.findIn K (.ref C) f=some none
theorem NoAttr.taker{K:PySem.W.Frag}{C:Addr}{f:Str}(n:NoAttr K C f):PySem.W.takerIn K C f=some none:=by
 unfold PySem.W.takerIn
 rw[show PySem.W.findIn K (.ref C) f=some none from n]
 rfl
section
variable {X:Cx} {pins:List (Addr×Obj)} {σ:St} {H:Hp} {s:Shared} {a C dx:Addr} {fs:List (Str×V)} {f:Str} {v:V} {A:Around} {E:Value→Shared→Prop}
theorem zi4{b:Bool}{Q:Value→Shared→Prop}(I:Inv X pins σ H s)(e:H a=some (.ins C dx fs))(c:Cls X.K C)(n:NoAttr X.K C f)(l:fs.lookup f=some v)
  (h:∀u s',Inv X pins σ H s'→RelV v u→Q u s'):wpAny (model X.prog X.w) A (getAttr (.ref a) f b) Q E s:=by
 obtain⟨mA,O,r,_,_,_⟩:=zj0 I.hok e
 obtain⟨u,hu,ru⟩:=RelO.some_of (v:=v) (o:=mA f) (by rw[←l];exact r f)
 exact znl I.kIn O (c.get f) c.hd n hu (zjZ ru) (h u _ (I.tok _) ru)
theorem zi5{y:V}{u:Value}{Q:Unit→Shared→Prop}(I:Inv X pins σ H s)(e:H a=some (.ins C dx fs))(c:Cls X.K C)(n:NoAttr X.K C f)(hl:fs.length<1000)(ry:RelV y u)
  (h:∀s',Inv X pins σ (upd H a (.ins C dx (zfU f y fs))) s'→Q () s'):wpAny (model X.prog X.w) A (setAttr (.ref a) f u) Q E s:=by
 obtain⟨mA,O,r,wi,_,ho⟩:=zj0 I.hok e
 have hz:(fs.map (·.1)).length≤sizeLine:=by rw[List.length_map,sizeLine_eq];omega
 refine znm I.kIn O c.sa c.po n.taker c.hd wi hz fun h' O' sb=>h _ ?_
 have hd:∃o,h'.get? dx=some o:=let⟨o,_,_,e',_⟩:=O'.ns;⟨o,e'⟩
 refine I.write (x:=a) (e:=dx) (by rw[e];exact True.intro) (.inr ho) (fun b q hb z=>(sb.2 b hb).trans z) hd ?_
 refine⟨by rw[zar O.ne];exact ho,?_,O.ne,O'.obj,_,O'.ns,fun g=>?_,fun g hg=>?_⟩
 ·have:=zeM f y fs;omega
 ·show RelO ((zfU f y fs).lookup g) (if g=f then some u else mA g)
  rw[zeK]
  by_cases q:g=f
  ·rw[if_pos q,if_pos q];exact ry
  ·rw[if_neg q,if_neg q];exact r g
 ·by_cases q:g=f
  ·rw[q];exact(zeL f y fs).1
  ·refine(zeL f y fs).2 g (wi g fun z=>hg ?_)
   show(if g=f then some u else mA g)=none
   rw[if_neg q];exact z
theorem Inv.made(I:Inv X pins σ H s):Inv X pins σ (upd (upd H s.heap.objs.size (.own (s.heap.objs.size+1))) (s.heap.objs.size+1) (.ins C s.heap.objs.size []))
  { s with heap:=(s.heap.push PySem.W.emptyDict).push (PySem.W.instObj C s.heap.objs.size) }:=by
 have e1:(s.heap.push PySem.W.emptyDict).get? s.heap.objs.size=some PySem.W.emptyDict:=Heap.get?_push_size s.heap rfl
 have e2:((s.heap.push PySem.W.emptyDict).push (PySem.W.instObj C s.heap.objs.size)).get? (s.heap.objs.size+1)=some (PySem.W.instObj C s.heap.objs.size):=by
  have:=Heap.get?_push_size (s.heap.push PySem.W.emptyDict) (o:=PySem.W.instObj C s.heap.objs.size) rfl
  rwa [Heap.size_push] at this
 have e3:(s.heap.push PySem.W.emptyDict).Ns s.heap.objs.size (fun _=>none):=⟨PySem.W.emptyDict,#[],_,e1,rfl,(fun e he=>absurd he (by simp)),fun _=>rfl⟩
 have I1:=I.laid (a:=s.heap.objs.size) (o:=.own (s.heap.objs.size+1)) (h':=s.heap.push PySem.W.emptyDict) (t':=s.toks) (fun b u q=>Heap.get?_push_of_some _ q) (Nat.le_refl _) ⟨_,e1⟩
 refine I1.laid (a:=s.heap.objs.size+1) (o:=.ins C s.heap.objs.size []) (t':=s.toks) (fun b u q=>Heap.get?_push_of_some _ q) (Nat.le_of_eq (Heap.size_push _ _)) ?_
 have ne:s.heap.objs.size≠s.heap.objs.size+1:=Nat.ne_of_lt (Nat.lt_succ_self _)
 refine⟨by rw[zar ne,zau],Nat.zero_le _,ne,e2,fun _=>none,(Heap.Ns1.of_empty e3).at fun o q=>Heap.get?_push_of_some _ q,fun _=>True.intro,fun y hy=>absurd rfl hy⟩
theorem znn{prog:Program}{w:World}{env:Env}{e:Expr}{f:Str}{pos:Pos}{s:Shared}{Q:Value→Shared→Prop}(hb:attributeBase e f env (eval e env)=eval e env)
  (h:wpAny (model prog w) A (eval e env) (fun o s₁=>wpAny (model prog w) A (getAttr o f true) Q E s₁) E s):wpAny (model prog w) A (eval (.Attribute e f pos) env) Q E s:=
 Attribute_any_ h (by rw[arm_eval_Attribute,hb])
end
noncomputable def zqT(K:PySem.W.Frag)(ta:TE)(f:Str):TE:=fun σ H Q=>ta σ H fun x H1=>∃a C dx fs v,x=.ref a∧H1 a=some (.ins C dx fs)∧Cls K C∧NoAttr K C f∧fs.lookup f=some v∧Q v H1
noncomputable def zqU(K:PySem.W.Frag)(ta tv:TE)(f:Str):TS:=fun D σ H=>tv σ H fun y H1=>ta σ H1 fun x H2=>∃a C dx fs,x=.ref a∧H2 a=some (.ins C dx fs)∧Cls K C∧NoAttr K C f∧fs.length<1000∧
 D.nx σ (upd H2 a (.ins C dx (zfU f y fs)))
section
variable {X:Cx} {o e value:Expr} {f:Str} {pos pos' tpos:Pos} {ta tv:TE}
theorem zoH(he:PE X e ta)(hb:attributeBase e f X.env (eval e X.env)=eval e X.env):PE X (.Attribute e f pos) (zqT X.K ta f):=by
 intro pins s σ H Q I h
 refine znn hb (thn (he pins s σ H _ I h) fun u s1 ⟨x,H1,I1,rx,a,C,dx,fs,v,ex,ea,c,n,l,q⟩=>?_)
 subst ex
 obtain rfl:u=Value.ref a:=rx
 exact zi4 I1 ea c n l fun u' s2 I2 ru=>⟨v,H1,I2,ru,q⟩
theorem zoI(ha:PE X o ta)(hv:PE X value tv)(hs:swapsWith value (some (.Attribute o f pos')) pos.line X.env=pure false):PS X (.Assign [.Attribute o f pos'] value pos) (zqU X.K ta tv f):=by
 intro pins s σ H D I h
 refine plainObj_wpAny_Assign_Attribute (thn (hv pins s σ H _ I h) fun u s1 ⟨y,H1,I1,ry,q⟩=>thn (ha pins s1 σ H1 _ I1 q) fun ov s2 ⟨x,H2,I2,rx,a,C,dx,fs,ex,ea,c,n,l,q2⟩=>?_) hs
 subst ex
 obtain rfl:ov=Value.ref a:=rx
 exact zi5 I2 ea c n l ry fun s3 I3=>⟨σ,_,I3,q2⟩
end
end L2
namespace L2
open PySem PySem.Spec PyProof.Rows
structure Room (k:Nat) (A:Around):Prop where
 hd:A.handled=none
 dp:A.depth+3*k+5<recursionLimit
 un:A.units+16*k+200<cLine
theorem Room.mono{j k:Nat}{A:Around}(r:Room k A)(h:j≤k):Room j A:=⟨r.hd,by have:=r.dp;omega,by have:=r.un;omega⟩
theorem Room.deeper{k:Nat}{A:Around}(r:Room (k+1) A)(env:Env):Room k (A.deeper env):=
 ⟨r.hd,by have:=r.dp;show A.depth+1+3*k+5<_;omega,by have:=r.un;show A.units+3+16*k+200<_;omega⟩
theorem zi6{A:Around}{C:Addr}{us:List Value}{kw:List (Str×Value)}:(A.under (.builtin "type.__call__" ⟨.ref C::us,kw⟩)).depth=A.depth+1:=by
 first | rfl | simp[Around.under,Code.weight,Code.isCreation,Code.isGuard,Code.isCaller,Code.frames,Code.isFrame,guardIds]
theorem zi7{A:Around}{C:Addr}{us:List Value}{kw:List (Str×Value)}:(A.under (.builtin "type.__call__" ⟨.ref C::us,kw⟩)).units=A.units+1:=by
 first | rfl | simp[Around.under,Code.cUnits,Code.frames,Code.isFrame]
theorem Room.make{k:Nat}{A:Around}(r:Room (k+1) A)(C:Addr)(us:List Value)(kw:List (Str×Value)):Room k (A.under (.builtin "type.__call__" ⟨.ref C::us,kw⟩)):=
 ⟨r.hd,by have:=r.dp;rw[zi6];omega,by have:=r.un;rw[zi7];omega⟩
theorem Room.depth{k:Nat}{A:Around}(r:Room k A):A.depth<recursionLimit:=by have:=r.dp;omega
theorem Room.units{k:Nat}{A:Around}(r:Room k A):A.units+64<cLine:=by have:=r.un;omega
noncomputable def zqV:TA:=fun _ H Q=>Q [] H
noncomputable def zqb(ta:TE)(tr:TA):TA:=fun σ H Q=>ta σ H fun x H1=>tr σ H1 fun xs H2=>Q (x::xs) H2
section
variable {X:Cx} {e:Expr} {es:List Expr} {te:TE} {t:TA} {pos:Pos}
theorem zeN:PA X [] zqV:=fun _ _ _ _ H Q I h=>Calls.spliced_nil ⟨[],H,I,.nil,h⟩
theorem zcg(ha:PE X e te)(hr:PA X es t)(hs:starEach (e::es) X.env=(false,eval e X.env)::starEach es X.env:=by rfl):PA X (e::es) (zqb te t):=by
 intro pos pins s σ H Q I h
 rw[hs]
 show wpAny _ _ (spliced ((false,eval e X.env)::backTo pos (starEach es X.env))) _ _ s
 refine Calls.spliced_cons (thn (ha pins s σ H _ I h) fun u s1 ⟨x,H1,I1,r1,q1⟩=>?_)
 exact thn (hr pos pins s1 σ H1 _ I1 q1) fun us s2 ⟨xs,H2,I2,r2,q2⟩=>⟨x::xs,H2,I2,.cons r1 r2,q2⟩
noncomputable def zqW(t:TA):TE:=fun σ H Q=>t σ H fun xs H1=>xs.length≤sizeLine∧∀p,H1 p=none→Q (.ref p) (upd H1 p (.tup xs))
noncomputable def zqX(t:TA):TE:=fun σ H Q=>t σ H fun xs H1=>xs.length≤sizeLine∧∀p,H1 p=none→Q (.ref p) (upd H1 p (.lst xs))
theorem zmM{x1}(h:PA X es t):PE X (.Tuple es x1 pos) (zqW t):=by
 intro pins s σ H Q I hq
 refine wpAny_Tuple_spliced (thn (h pos pins s σ H _ I hq) fun us s1 ⟨xs,H1,I1,r,z,q⟩=>⟨by rw[←r.length];exact z,?_⟩)
 have hf:H1 s1.heap.objs.size=none:=I1.hok.fresh (Nat.le_refl _)
 refine⟨.ref s1.heap.objs.size,upd H1 s1.heap.objs.size (.tup xs),I1.laid (t':=s1.toks) (fun b u e=>Heap.get?_push_of_some _ e) (Nat.le_refl _) ?_,rfl,q _ hf⟩
 exact⟨z,us,r,⟨_,Heap.get?_push_size _ rfl,rfl,_,rfl⟩⟩
theorem zoJ(h:PA X es t):PE X (.List es pos) (zqX t):=by
 intro pins s σ H Q I hq
 refine wpAny_List_spliced (thn (h pos pins s σ H _ I hq) fun us s1 ⟨xs,H1,I1,r,z,q⟩=>⟨by rw[←r.length];exact z,?_⟩)
 have hf:H1 s1.heap.objs.size=none:=I1.hok.fresh (Nat.le_refl _)
 refine⟨.ref s1.heap.objs.size,upd H1 s1.heap.objs.size (.lst xs),I1.laid (t':=s1.toks) (fun b u e=>Heap.get?_push_of_some _ e) (Nat.le_refl _) ?_,rfl,q _ hf⟩
 exact⟨z,us,0,r,Heap.get?_push_size _ rfl⟩
end
noncomputable abbrev Sp:=List V→Hp→VK→XK→Prop
noncomputable abbrev CXT:=List Env→Hp→Shared→XK→Value→Shared→Prop
structure Env0 (P:Program) (w:World) (K:PySem.W.Frag) (mg:Str→Option Value) (base:Heap) (A:Around) (outer:List Env) (s:Shared) (H:Hp):Prop where
 frames:A.frames=some outer
 mod:Mod K mg base
 bs:∀b o,base.get? b=some o→s.heap.get? b=some o∧H b=none
 bsz:base.objs.size≤s.heap.objs.size
 funs:s.heap.FunFrames base outer
 frf:∀b∈frs outer,H b=none
 hok:HOk P w H s.heap
 bare:AllBare s.gens
noncomputable def CE(outer:List Env)(P:Program)(w:World)(H:Hp)(s:Shared)(Q:VK)(u:Value)(s':Shared):Prop:=
 ∃v H',s'.os=s.os∧AllBare s'.gens∧Un (frs outer) [] H H' s.heap s'.heap∧HOk P w H' s'.heap∧RelV v u∧Q v H'
noncomputable def CR(CX:CXT)(outer:List Env)(P:Program)(w:World)(H:Hp)(s:Shared)(Q:VK)(E:XK)(r:Result)(s':Shared):Prop:=
 match r with
 | .ok (.ret u)=>CE outer P w H s Q u s'
 | .ok _=>False
 | .error e=>CX outer H s E e s'
structure FnOk (P:Program) (w:World) (K:PySem.W.Frag) (mg:Str→Option Value) (base:Heap) (CX:CXT) (k:Nat) (f:Addr) (fd:FuncData) (ps:List Str) (sp:Sp):Prop where
 len:∀vs H Q E,sp vs H Q E→vs.length=ps.length
 run:∀(A:Around) (outer:List Env) (s:Shared) (H:Hp) (args:Args) (us:List Value) (vs:List V) (Q:VK) (E:XK),Room k A→Env0 P w K mg base A outer s H→BindsTo s fd args (ps.zip us)→Vals vs us→sp vs H Q E→
  codeAny (model P w) A (.call (.ref f) args) (CR CX outer P w H s Q E) s
theorem Env0.make{P:Program}{w:World}{K:PySem.W.Frag}{mg:Str→Option Value}{base:Heap}{A:Around}{outer:List Env}{s:Shared}{H:Hp}(e:Env0 P w K mg base A outer s H)(C:Addr)(us:List Value)(kw:List (Str×Value)) :
  Env0 P w K mg base (A.under (.builtin "type.__call__" ⟨.ref C::us,kw⟩)) outer s H:=⟨by first | exact e.frames | (simpa[Around.under,Code.envs,Code.isFrame,pushEnvs] using e.frames),e.mod,e.bs,e.bsz,e.funs,e.frf,e.hok,e.bare⟩
section
variable {X:Cx} {pins:List (Addr×Obj)} {σ:St} {H:Hp} {s s':Shared}
theorem Inv.env0(I:Inv X pins σ H s):Env0 X.prog X.w X.K X.mg X.base X.A X.stack s H:=
 ⟨I.ok.frames,I.ok.mod,I.bs,Nat.le_trans I.ok.bsz I.sz,I.stack,I.stkFree,I.hok,I.bare⟩
theorem Inv.after{Q:VK}{u:Value}(I:Inv X pins σ H s)(h:CE X.stack X.prog X.w H s Q u s'):EP X pins σ Q u s':=by
 obtain⟨v,H',os,bare,un,hok,r,q⟩:=h
 obtain⟨hh,g,d,t,os'⟩:=s'
 obtain rfl:os'=s.os:=os
 exact⟨v,H',I.call (h':=hh) (g':=g) (d':=d) (t':=t) (ch:=[]) un hok bare (fun b z=>absurd z (by simp)),r,q⟩
end
noncomputable def zqc(sp:Sp)(dvs:List V)(E:XK)(t:TA):TE:=fun σ H Q=>t σ H fun vs H1=>sp (vs++dvs) H1 Q E
noncomputable def zqd(C:Addr)(sp:Sp)(dvs:List V)(E:XK)(t:TA):TE:=fun σ H Q=>t σ H fun vs H1=>∀x dx,H1 x=none→H1 dx=none→dx≠x→
 sp (.ref x::(vs++dvs)) (upd (upd H1 dx (.own x)) x (.ins C dx [])) (fun v H2=>v=.non∧Q (.ref x) H2) E
noncomputable def Binds(K:PySem.W.Frag)(fd:FuncData)(ps:List Str)(ds:List Value):Prop:=
 ∀(s:Shared) (us:List Value),K.In s.heap→(us++ds).length=ps.length→BindsTo s fd ⟨us,[]⟩ (ps.zip (us++ds))
theorem Binds.all{K:PySem.W.Frag}{fd:FuncData}{ps:List Str}(h:∀us:List Value,us.length=ps.length→bindArgs fd ⟨us,[]⟩=pure (ps.zip us)):Binds K fd ps []:=fun s us _ hl=>by
 rw[List.append_nil] at hl ⊢
 exact .of_eq (h us hl)
noncomputable def zgV(CX:CXT)(X:Cx)(E:XK):Prop:=∀(pins:List (Addr×Obj)) (σ:St) (H:Hp) (s:Shared) (e:Value) (s':Shared),Inv X pins σ H s→CX X.stack H s E e s'→X.xe e s'
section
variable {X:Cx} {CX:CXT} {k:Nat} {f C:Addr} {fd:FuncData} {ps:List Str} {sp:Sp} {dvs:List V} {ds:List Value} {E:XK} {x m:Str} {p pos apos:Pos} {e o:Expr} {es:List Expr} {ta:TE} {t:TA}
theorem zoK{pins:List (Addr×Obj)}{σ:St}{H:Hp}{s:Shared}{Q:VK}{us:List Value}{vs:List V}(F:FnOk X.prog X.w X.K X.mg X.base CX k f fd ps sp)(hr:Room k X.A)(hb:Binds X.K fd ps ds)(hd:Vals dvs ds)(hx:zgV CX X E)
  (I:Inv X pins σ H s) (r:Vals vs us) (h:sp (vs++dvs) H Q E):wpAny (model X.prog X.w) X.A (call (.ref f) us) (EP X pins σ Q) X.xe s:=by
 have r2:Vals (vs++dvs) (us++ds):=r.append hd
 have hl:(us++ds).length=ps.length:=by rw[←r2.length];exact F.len _ _ _ _ h
 refine wpAny_call (codeAny_mono (F.run X.A X.stack s H ⟨us,[]⟩ (us++ds) (vs++dvs) Q E hr I.env0 (hb s us I.kIn hl) r2 h) fun r s' hq=>?_)
 cases r with
 | error e=>exact hx pins σ H s e s' I hq
 | ok fl=>
  cases fl with
  | ret u=>exact I.after hq
  | next=>exact False.elim hq
  | brk=>exact False.elim hq
  | cont=>exact False.elim hq
theorem zno(F:FnOk X.prog X.w X.K X.mg X.base CX k f fd ps sp)(hr:Room k X.A)(hg:Gl X x)(hm:X.mg x=some (.ref f))(hk:PySem.W.keepIn X.K (.ref f)=true)(hb:Binds X.K fd ps ds)(hd:Vals dvs ds)(hx:zgV CX X E)
  (ha:PA X (e::es) t) (hdb:(x==("__debug__":Str))=false:=by decide) (he:starEach (e::es) X.env=(false,eval e X.env)::starEach es X.env:=by rfl) (hpl:(backTo pos (starEach es X.env)).any (·.1)=false:=by rfl) :
  PE X (.Call (.Name x p) (e::es) [] pos) (zqc sp dvs E t):=by
 intro pins s σ H Q I h
 refine wpAny_Call_Name_kw (zjN I hg hm ?_ hdb)
 refine PySem.W.callWith_K (h₀:=X.base) I.ok.mod.kin hk (thn (ha pos pins s σ H _ I h) fun us s1 ⟨vs,H1,I1,r,q⟩=>⟨I1.kIn,?_⟩) he hpl
 exact zoK F hr hb hd hx I1 r q
structure Mk (K:PySem.W.Frag) (C f:Addr):Prop where
 makes:PySem.W.makesIn K C=true
 init:PySem.W.findIn K (.ref C) "__init__"=some (some (.ref f))
 fn:PySem.W.isFn K (.ref f)=true
 kp:PySem.W.keepIn K (.ref C)=true
theorem zlJ{pins:List (Addr×Obj)}{σ:St}{H:Hp}{s:Shared}{Q:VK}{us:List Value}{vs:List V}(M:Mk X.K C f)(F:FnOk X.prog X.w X.K X.mg X.base CX k f fd ps sp)(hr:Room (k+1) X.A)(hb:Binds X.K fd ps ds)(hd:Vals dvs ds)
  (hx:zgV CX X E) (I:Inv X pins σ H s) (r:Vals vs us)
  (h:∀x dx,H x=none→H dx=none→dx≠x→sp (.ref x::(vs++dvs)) (upd (upd H dx (.own x)) x (.ins C dx [])) (fun v H2=>v=.non∧Q (.ref x) H2) E) :
  wpAny (model X.prog X.w) X.A (call (.ref C) us) (EP X pins σ Q) X.xe s:=by
 have hq:=h (s.heap.objs.size+1) s.heap.objs.size (I.hok.fresh (Nat.le_succ _)) (I.hok.fresh (Nat.le_refl _)) (Nat.ne_of_lt (Nat.lt_succ_self _))
 have I2:=Inv.made (C:=C) I
 have r2:Vals (V.ref (s.heap.objs.size+1)::(vs++dvs)) (Value.ref (s.heap.objs.size+1)::(us++ds)):=.cons rfl (r.append hd)
 have hl:(Value.ref (s.heap.objs.size+1)::us++ds).length=ps.length:=by
  have e:=r2.length
  rw[F.len _ _ _ _ hq] at e
  exact e.symm
 refine wpAny_call (zlI (f:=f) I.kIn M.makes M.init (beq_iff_eq.mp M.fn) (codeAny_mono (F.run _ X.stack _ _ ⟨Value.ref (s.heap.objs.size+1)::us,[]⟩ (Value.ref (s.heap.objs.size+1)::(us++ds)) _ _ E (hr.make C us [])
  (I2.env0.make C us []) (hb _ (Value.ref (s.heap.objs.size+1)::us) I2.kIn hl) r2 hq) fun r s' hq'=>?_))
 cases r with
 | error e=>exact hx pins σ _ _ e s' I2 hq'
 | ok fl=>
  cases fl with
  | ret u=>
   obtain⟨v,H',I3,rv,ev,q3⟩:=I2.after hq'
   subst ev
   exact⟨rv,⟨V.ref (s.heap.objs.size+1),H',I3,rfl,q3⟩⟩
  | next=>exact False.elim hq'
  | brk=>exact False.elim hq'
  | cont=>exact False.elim hq'
theorem znp(M:Mk X.K C f)(F:FnOk X.prog X.w X.K X.mg X.base CX k f fd ps sp)(hr:Room (k+1) X.A)(hg:Gl X x)(hm:X.mg x=some (.ref C))(hb:Binds X.K fd ps ds)(hd:Vals dvs ds)(hx:zgV CX X E)
  (ha:PA X (e::es) t) (hdb:(x==("__debug__":Str))=false:=by decide) (he:starEach (e::es) X.env=(false,eval e X.env)::starEach es X.env:=by rfl) (hpl:(backTo pos (starEach es X.env)).any (·.1)=false:=by rfl) :
  PE X (.Call (.Name x p) (e::es) [] pos) (zqd C sp dvs E t):=by
 intro pins s σ H Q I h
 refine wpAny_Call_Name_kw (zjN I hg hm ?_ hdb)
 refine PySem.W.callWith_K (h₀:=X.base) I.ok.mod.kin M.kp (thn (ha pos pins s σ H _ I h) fun us s1 ⟨vs,H1,I1,r,q⟩=>⟨I1.kIn,?_⟩) he hpl
 exact zlJ M F hr hb hd hx I1 r q
end
structure FnScope (N P:List Str) (sc:Scope):Prop where
 kind:sc.kind=.function
 co:sc.isCoroutine=false
 gen:sc.isGenerator=false
 nd:N.Nodup
 pre:N.take P.length=P
 par:∀x∈P,sc.names.lookup x=some .local∨sc.names.lookup x=some .cell
 nofree:∀y∈sc.names,y.2≠.free
theorem zgW{kindOf:Str→Option NameKind}{x:Str}:∀{binds:List (Str×Value)} {m:Str→Option Value},(∀v,(x,v)∉binds)→bindL kindOf binds m x=m x
 | [],_,_=>rfl
 | (n,v)::r,m,h=>by
  unfold bindL
  rw[zgW fun w hw=>h w (List.mem_cons_of_mem _ hw)]
  split
  ·have:x≠n:=by rintro rfl;exact h v List.mem_cons_self
   simp[this]
  ·rfl
theorem zgX{kindOf:Str→Option NameKind}{x:Str}:∀{binds:List (Str×Value)} {m:Str→Option Value},(∀v,(x,v)∉binds)→bindC kindOf binds m x=m x
 | [],_,_=>rfl
 | (n,v)::r,m,h=>by
  unfold bindC
  rw[zgX fun w hw=>h w (List.mem_cons_of_mem _ hw)]
  split
  ·rfl
  ·have:x≠n:=by rintro rfl;exact h v List.mem_cons_self
   simp[this]
theorem zgY{kindOf:Str→Option NameKind}{x:Str}{v:Value}:∀{P:List Str} {vs:List Value} {i:Nat} {m:Str→Option Value},P.Nodup→P[i]?=some x→vs[i]?=some v→kindOf x=some .local→
  bindL kindOf (P.zip vs) m x=some v
 | [],_,_,_,_,h,_,_=>by simp at h
 | _::_,[],_,_,_,_,h,_=>by simp at h
 | p::P,w::vs,0,m,nd,h1,h2,hk=>by
  simp at h1 h2;subst h1;subst h2
  show bindL kindOf ((p,w)::P.zip vs) m p=_
  unfold bindL
  rw[zgW fun v hv=>(List.nodup_cons.mp nd).1 (List.of_mem_zip hv).1,if_pos hk]
  simp
 | p::P,w::vs,i+1,m,nd,h1,h2,hk=>by
  show bindL kindOf ((p,w)::P.zip vs) m x=_
  unfold bindL
  exact zgY (i:=i) (List.nodup_cons.mp nd).2 (by simpa using h1) (by simpa using h2) hk
theorem zgZ{kindOf:Str→Option NameKind}{x:Str}{v:Value}:∀{P:List Str} {vs:List Value} {i:Nat} {m:Str→Option Value},P.Nodup→P[i]?=some x→vs[i]?=some v→kindOf x≠some .local→
  bindC kindOf (P.zip vs) m x=some v
 | [],_,_,_,_,h,_,_=>by simp at h
 | _::_,[],_,_,_,_,h,_=>by simp at h
 | p::P,w::vs,0,m,nd,h1,h2,hk=>by
  simp at h1 h2;subst h1;subst h2
  show bindC kindOf ((p,w)::P.zip vs) m p=_
  unfold bindC
  rw[zgX fun v hv=>(List.nodup_cons.mp nd).1 (List.of_mem_zip hv).1,if_neg hk]
  simp
 | p::P,w::vs,i+1,m,nd,h1,h2,hk=>by
  show bindC kindOf ((p,w)::P.zip vs) m x=_
  unfold bindC
  exact zgZ (i:=i) (List.nodup_cons.mp nd).2 (by simpa using h1) (by simpa using h2) hk
noncomputable def zcA(N:List Str)(vs:List V):St:=vs.map some++List.replicate (N.length-vs.length) none
noncomputable def zi8(CX:CXT)(P:Program)(w:World)(K:PySem.W.Frag)(mg:Str→Option Value)(base:Heap)(N:List Str)(qual:Str)(scope:Scope)(f:Addr)(cd:Value)(A:Around)(outer:List Env)(s:Shared)(H:Hp)(E:XK):Cx where
 prog:=P
 w:=w
 K:=K
 mg:=mg
 base:=base
 A:=A.deeper (envOfC qual scope s.heap.objs.size f cd)
 N:=N
 s₀:=s
 H₀:=H
 env:=envOfC qual scope s.heap.objs.size f cd
 outer:=outer
 stack:=envOfC qual scope s.heap.objs.size f cd::outer
 ex:=[]
 calm:=true
 fn:=fun _=>true
 pn:=[]
 xe:=fun e s'=>wpAny (model P w) (A.deeper (envOfC qual scope s.heap.objs.size f cd)) (leaving (envOfC qual scope s.heap.objs.size f cd) e) (fun _ s''=>CX outer H s E e s'') (fun e' s''=>CX outer H s E e' s'') s'
theorem zio{sc:Scope}{n:Nat}{x:Str}(h:sc.names.lookup x=some .cell):∃c,(cellsFrom n sc.names []).lookup x=some c:=by
 have q:=PySem.W.cellsFrom_some sc.names n [] (.inl h)
 exact Option.isSome_iff_exists.mp q
theorem zj1{CX:CXT}{P:Program}{w:World}{K:PySem.W.Frag}{mg:Str→Option Value}{base:Heap}{N ps:List Str}{qual:Str}{scope:Scope}{f:Addr}{cd:Value}{A:Around}{outer:List Env}{s s1:Shared}{H:Hp}{E:XK}{us:List Value}{vs:List V}
  (S:FnScope N ps scope) (hd:A.handled=none) (e0:Env0 P w K mg base A outer s H) (hl:vs.length=ps.length) (r:Vals vs us)
  (x:InCallC s s.heap.objs.size (bindL (envOfC qual scope s.heap.objs.size f cd).kindOf (ps.zip us) fun _=>none) (cellsFrom (s.heap.objs.size+1) scope.names []) (bindC (envOfC qual scope s.heap.objs.size f cd).kindOf (ps.zip us) fun _=>none) s1) :
  Inv (zi8 CX P w K mg base N qual scope f cd A outer s H E) [] (zcA N vs) H s1:=by
 have hpl:ps.length≤N.length:=by have:=congrArg List.length S.pre;rw[List.length_take] at this;omega
 obtain⟨h1,tk,rfl,hk⟩:=x.done
 have noA:∀b:Addr,b∉(zi8 CX P w K mg base N qual scope f cd A outer s H E).ex:=fun b z=>absurd (show b∈([]:List Addr) from z) (by simp)
 refine⟨⟨e0.mod,S.kind,rfl,rfl,Nat.le_refl _,fun y z c h1 h2=>?_,fun y hy=>?_,fun y c _ h=>?_,fun _=>hd,Around.frames_deeper e0.frames,.inr ⟨rfl,rfl⟩,fun b z=>absurd z (noA b),e0.bs,e0.bsz,fun b _ _=>noA b,fun b z=>absurd z (noA b),e0.funs,e0.frf⟩,
  rfl,e0.bare,Un.kept hk,⟨_,x.toInCall.ns,fun i y v h1 h2 h3=>?_⟩,fun y c h=>⟨_,x.cell y c h⟩,e0.hok.fresh (Nat.le_refl _),fun y c h=>?_,fun p hp=>absurd (show p∈([]:List (Addr×Obj)) from hp) (by simp),e0.hok.kept hk,?_⟩
 ·exact name_of_addr x.apart (PySem.mem_of_lookup h1) (PySem.mem_of_lookup h2)
 ·have hy:scope.names.lookup y=some .cell∨scope.names.lookup y=some .free:=hy
  rcases hy with hy | hy
  ·exact zio hy
  ·exact absurd rfl (S.nofree _ (PySem.mem_of_lookup hy))
 ·exact Nat.le_of_lt (x.above y c (PySem.mem_of_lookup h))
 ·have hi:i<vs.length:=by
   unfold zcA at h2
   by_cases hi:i<vs.length
   ·exact hi
   ·rw[List.getElem?_append_right (by simpa using hi)] at h2
    rw[List.getElem?_replicate] at h2
    split at h2<;>cases h2
  have ha:vs[i]?=some v:=by
   unfold zcA at h2
   rw[List.getElem?_append_left (by simpa using hi),List.getElem?_map] at h2
   cases e:vs[i]? with
   | none=>rw[e] at h2;cases h2
   | some a=>rw[e] at h2;cases h2;rfl
  obtain⟨u,hu,rv⟩:=r.get ha
  have hp:ps[i]?=some y:=by
   rw[←S.pre,List.getElem?_take_of_lt (by omega)];exact h1
  have ndP:ps.Nodup:=by rw[←S.pre];exact S.nd.sublist (List.take_sublist _ _)
  refine⟨u,rv,?_⟩
  rcases S.par y (List.mem_of_getElem? hp) with k | k
  ·exact .inl ⟨k,zgY ndP hp hu k⟩
  ·obtain⟨c,e⟩:=zio (n:=s.heap.objs.size+1) k
   refine .inr ⟨.inl k,c,e,?_⟩
   have q:=x.cell y c e
   rw[zgZ ndP hp hu (by show scope.names.lookup y≠_;rw[k];decide)] at q
   exact q
 ·exact e0.hok.fresh (Nat.le_of_lt (x.above y c (PySem.mem_of_lookup h)))
 ·unfold zcA
  show _=N.length
  rw[List.length_append,List.length_map,List.length_replicate]
  omega
theorem zqe{CX:CXT}{P:Program}{w:World}{K:PySem.W.Frag}{mg:Str→Option Value}{base:Heap}{k:Nat}{f:Addr}{name qual:Str}{params:Arguments}{body:List Stmt}{scope:Scope}{dV kV doc pm cdv ct oc:Value}{an od:Option Addr}
  {osl:Array (Option Value)} {N ps:List Str} {sp:Sp} (lk:K.lookup f=some ⟨oc,od,.func (PySem.W.fnOf name qual params body scope dV kV doc pm an cdv ct),osl⟩) (hcd:PySem.W.codeIn K cdv qual=true) (S:FnScope N ps scope)
  (len:∀vs H Q E,sp vs H Q E→vs.length=ps.length)
  (hbody:∀(A:Around) (outer:List Env) (s:Shared) (H:Hp) (vs:List V) (Q:VK) (E:XK),Room k (A.deeper (envOfC qual scope s.heap.objs.size f cdv))→sp vs H Q E→
   ∃t,PSs (zi8 CX P w K mg base N qual scope f cdv A outer s H E) body t∧t { nx:=fun _ H'=>Q .non H',rt:=Q } (zcA N vs) H) :
  FnOk P w K mg base CX (k+1) f (PySem.W.fnOf name qual params body scope dV kV doc pm an cdv ct) ps sp:=by
 refine⟨len,fun A outer s H args us vs Q E hr e0 hb r hsp=>?_⟩
 have hl:=len _ _ _ _ hsp
 have KX:K.In s.heap:=e0.mod.kin.keeps fun b o e=>(e0.bs b o e).1
 have lim:s.heap.NoLimit:=e0.mod.nolimit.keeps fun b o e=>(e0.bs b o e).1
 have hkind:∀y∈ps.zip us,scope.names.lookup y.1=some .local∨(scope.names.lookup y.1=some .cell∧((cellsFrom (s.heap.objs.size+1) scope.names []).lookup y.1).isSome=true):=fun⟨n,v⟩ hy=>by
  rcases S.par n (List.of_mem_zip hy).1 with q | q
  ·exact .inl q
  ·exact .inr ⟨q,PySem.W.cellsFrom_some _ _ _ (.inl q)⟩
 refine codeAny_call_function hr.depth (KX _ _ lk) rfl S.co S.gen rfl (PySem.W.codeRec_of KX hcd) (hb _ _ _ _ ?_)
 refine wpAny_newFunctionEnv_cells S.kind hkind fun env he s1 x=>?_
 subst he
 refine⟨lim.keeps x.toInCall.keep,codeAny_func ?_⟩
 obtain⟨t,ht,hq⟩:=hbody A outer s H vs Q E (hr.deeper _) hsp
 have I:Inv (zi8 CX P w K mg base N qual scope f cdv A outer s H E) [] (zcA N vs) H s1:=zj1 S hr.hd e0 hl r x
 refine wpAny_mono (ht [] s1 (zcA N vs) H _ I hq) (fun fl s' hs=>?_) fun e s' hs=>hs
 have fin:∀{σ':St} {H':Hp} {v:V} {u:Value},Inv (zi8 CX P w K mg base N qual scope f cdv A outer s H E) [] σ' H' s'→RelV v u→Q v H'→CE outer P w H s Q u s':=
  fun{σ' H' v u} J rv q=>⟨v,H',J.os,J.bare,J.base,J.hok,rv,q⟩
 cases fl with
 | ret u=>
  obtain⟨v,σ',H',J,rv,q⟩:=hs
  exact fin J rv q
 | next=>
  obtain⟨σ',H',J,q⟩:=hs
  exact fin (v:=V.non) (u:=Value.none) J rfl q
 | brk=>
  obtain⟨_,_,_,q⟩:=hs
  exact False.elim q
 | cont=>
  obtain⟨_,_,_,q⟩:=hs
  exact False.elim q
end L2
namespace L2
open PySem PySem.Spec PyProof.Rows
section
variable {X:Cx} {x:Str} {p pos:Pos} {e:Expr} {es:List Expr} {t:TA} {id T:String} {r:List V→Hp→VK→Prop}
noncomputable def tCB(r:List V→Hp→VK→Prop)(t:TA):TE:=fun σ H Q=>t σ H fun vs H1=>r vs H1 Q
theorem zeE(hc:CallR X (.builtin id) r)(hg:Gl X x)(hm:X.mg x=none)(hv:bootBuiltins x=some (.builtin id))(ha:PA X (e::es) t)(hn:x≠"__name__":=by decide)(hdb:(x==("__debug__":Str))=false:=by decide)
  (he:starEach (e::es) X.env=(false,eval e X.env)::starEach es X.env:=by rfl) (hpl:(backTo pos (starEach es X.env)).any (·.1)=false:=by rfl):PE X (.Call (.Name x p) (e::es) [] pos) (tCB r t):=by
 intro pins s σ H Q I h
 refine wpAny_Call_Name_kw (zc6 I hg hm hv ?_ hn hdb)
 exact PyProof.Rows.callWith_builtin1 (thn (ha pos pins s σ H _ I h) fun us s1 ⟨vs,H1,I1,r1,q1⟩=>hc pins s1 σ H1 vs us Q I1 r1 q1) he hpl
theorem zg0(hc:CallR X (.type T) r)(hg:Gl X x)(hm:X.mg x=none)(hv:bootBuiltins x=some (.type T))(ha:PA X (e::es) t)(hn:x≠"__name__":=by decide)(hdb:(x==("__debug__":Str))=false:=by decide)
  (he:starEach (e::es) X.env=(false,eval e X.env)::starEach es X.env:=by rfl) (hpl:(backTo pos (starEach es X.env)).any (·.1)=false:=by rfl):PE X (.Call (.Name x p) (e::es) [] pos) (tCB r t):=by
 intro pins s σ H Q I h
 refine wpAny_Call_Name_kw (zc6 I hg hm hv ?_ hn hdb)
 exact PyProof.Rows.callWith_type1 (thn (ha pos pins s σ H _ I h) fun us s1 ⟨vs,H1,I1,r1,q1⟩=>hc pins s1 σ H1 vs us Q I1 r1 q1) he hpl
end
end L2
namespace HT
open PySem PyProof.Rows
noncomputable def lexLt:List Int→List Int→Bool
 | [],[]=>false
 | [],_::_=>true
 | _::_,[]=>false
 | x::xs,y::ys=>if x=y then lexLt xs ys else decide (x<y)
theorem lexLt_cons(x y:Int)(xs ys:List Int):lexLt (x::xs) (y::ys)=if x=y then lexLt xs ys else decide (x<y):=rfl
theorem rcLt_int(A:Around)(s:Shared)(a:Int)(t:Tok)(c:Int)(u:Tok)(prog:Program)(w:World)(E:Value→Shared→Prop)(Q:Value→Shared→Prop)(h:Q (.bool (decide (a<c))) s) :
  wpAny (model prog w) A (richCompare .Lt (.int a t) (.int c u)) Q E s:=
 (PyProof.Rows.lt_int h:wpAny (model prog w) A (compareOp .Lt (.int a t) (.int c u)) Q E s)
section
variable {prog:Program} {w:World} {A:Around} {E:Value→Shared→Prop} {s:Shared}
noncomputable def sIx(n d:Nat):Option Int→Nat
 | none=>d
 | some v=>if v<0 then(v+(n:Int)).toNat else min v.toNat n
theorem sIx_le(n d:Nat)(hd:d≤n)(o:Option Int):sIx n d o≤n:=by
 cases o with
 | none=>exact hd
 | some v=>
  show(if v<0 then(v+(n:Int)).toNat else min v.toNat n)≤n
  by_cases hv:v<0
  ·rw[if_pos hv];omega
  ·rw[if_neg hv];exact Nat.min_le_right _ _
theorem clip_eq(v:Int)(n d:Nat):(if v<0 then max (v+(n:Int)) 0 else min v (n:Int))=((sIx n d (some v):Nat):Int):=by
 show(if v<0 then max (v+(n:Int)) 0 else min v (n:Int))=(((if v<0 then(v+(n:Int)).toNat else min v.toNat n):Nat):Int)
 by_cases hv:v<0
 ·simp only[if_pos hv];omega
 ·simp only[if_neg hv];omega
theorem zi9(lo hi:Option Int)(n:Nat):Builtin.Slice.sliceAdjust lo hi 1 (n:Int)=(((sIx n 0 lo:Nat):Int),((sIx n n hi:Nat):Int)):=by
 have h1:¬((1:Int)<0):=by omega
 unfold Builtin.Slice.sliceAdjust
 simp only[h1,if_false]
 refine Prod.ext ?_ ?_
 ·cases lo with
  | none=>rfl
  | some v=>exact clip_eq v n 0
 ·cases hi with
  | none=>rfl
  | some v=>exact clip_eq v n n
theorem zja(i j:Nat):Builtin.Slice.slicePlaces (i:Int) (j:Int) 1=j-i:=by
 unfold Builtin.Slice.slicePlaces
 have h1:(1:Int)>0:=by omega
 simp only[h1,if_true,Int.ediv_one]
 split<;>omega
theorem zfV{v:Value}{o:Option Int}{Q:Option Int→Shared→Prop}(p:IsPart v o)(h:Q o s):wpAny (model prog w) A (Builtin.Slice.slicePartIndex v) Q E s:=by
 cases p with
 | none=>exact slicePart_none h
 | int i t=>exact slicePart_int h
theorem zeu{sl:Addr}{vl vu:Value}{lo hi:Option Int}{n:Nat}{Q:Int×Int×Nat→Shared→Prop}(hs:s.heap.IsSliceOf sl vl vu .none)(pl:IsPart vl lo)(pu:IsPart vu hi)
  (h:Q (((sIx n 0 lo:Nat):Int),1,sIx n n hi-sIx n 0 lo) s):wpAny (model prog w) A (Builtin.Slice.sliceApplied (.ref sl) (pure (n:Int))) Q E s:=by
 obtain⟨os,hos,hcs,hds⟩:=id hs
 unfold Builtin.Slice.sliceApplied Builtin.Slice.sliceFields
 refine wpAny_bind (wpAny_bind (wpAny_field hos hds (x:=vl) rfl (wpAny_bind (wpAny_field hos hds (x:=vu) rfl (wpAny_bind (wpAny_field hos hds (x:=.none) rfl (wpAny_pure ?_)))))))
 refine wpAny_bind (slicePart_none ?_)
 show wpAny _ _ (if ((1:Int)==0)=true then _ else _) _ _ s
 rw[if_neg (by decide)]
 refine wpAny_bind (zfV pl (wpAny_bind (zfV pu (wpAny_bind (wpAny_pure ?_)))))
 show wpAny _ _ (match Builtin.Slice.sliceAdjust lo hi 1 (n:Int) with | (lo,hi)=>pure (lo,(1:Int),Builtin.Slice.slicePlaces lo hi 1)) _ _ s
 rw[zi9 lo hi n]
 show wpAny _ _ (pure (((sIx n 0 lo:Nat):Int),(1:Int),Builtin.Slice.slicePlaces ((sIx n 0 lo:Nat):Int) ((sIx n n hi:Nat):Int) 1)) _ _ s
 rw[zja]
 exact wpAny_pure h
theorem zlK(xs:Array Value)(i k:Nat):((List.range k).filterMap fun(m:Nat)=>xs[((i:Int)+(m:Int)*1).toNat]?).toArray=((xs.toList.drop i).take k).toArray:=by
 have e:(fun(m:Nat)=>xs[((i:Int)+(m:Int)*1).toNat]?)=fun m=>xs[i+m]?:=by
  funext m
  have:((i:Int)+(m:Int)*1).toNat=i+m:=by omega
  rw[this]
 rw[e]
 have:=pick_run xs i k
 rw[List.filterMap_map] at this
 have e2:((fun x=>xs[x]?)∘fun x=>i+x)=fun m=>xs[i+m]?:=rfl
 rw[e2] at this
 rw[this]
theorem getItem_tuple_cut{t sl:Addr}{items:Array Value}{vl vu:Value}{lo hi:Option Int}{Q:Value→Shared→Prop}(ht:IsTup s.heap t items)(hs:s.heap.IsSliceOf sl vl vu .none)(pl:IsPart vl lo)(pu:IsPart vu hi)
  (hw:¬(sIx items.size 0 lo=0∧sIx items.size items.size hi=items.size))
  (h:Q (.ref s.heap.objs.size) { s with heap:=s.heap.push { cls:=.type "tuple",data:=.seq ((items.toList.drop (sIx items.size 0 lo)).take (sIx items.size items.size hi-sIx items.size 0 lo)).toArray } })
  (hsz:items.size≤sizeLine):wpAny (model prog w) A (getItem (.ref t) (.ref sl)) Q E s:=by
 have htake:sizeOk (.seq ((items.toList.drop (sIx items.size 0 lo)).take (sIx items.size items.size hi-sIx items.size 0 lo)).toArray):=by
  show((items.toList.drop (sIx items.size 0 lo)).take (sIx items.size items.size hi-sIx items.size 0 lo)).toArray.size≤sizeLine
  rw[List.size_toArray,List.length_take,List.length_drop,Array.length_toList]
  omega
 have hj:sIx items.size items.size hi≤items.size:=sIx_le _ _ (Nat.le_refl _) hi
 obtain⟨os,hos,hcs,hds⟩:=id hs
 have hTs:s.TypeIs (.ref sl) "slice":=⟨os,hos,hcs⟩
 unfold getItem
 try with_reducible refine wpAny_holding ?_
 first | refine wpAny_bind (wpAny_pure ?_) | skip
 refine wpAny_bind (wpAny_sequenceKey ht.typeIs (by decide) ?_)
 refine wpAny_bind (wpAny_callSpecial?_slot (name:=Str.ofString "__getitem__") ht.typeIs PyProof.Rows.slot_tuple_getitem
  (wpAny_call_entry PyProof.Rows.slot_tuple_getitem ht.typeIs entry_tuple_getitem ?_ (args_tuple_getitem _ _)))
 show wpAny _ _ (Builtin.Tuple.tupleItemsOf (.ref t) >>= _) _ _ s
 refine wpAny_bind (tupleItemsOf_ ht ?_)
 refine wpAny_bind (wpAny_typeOf hTs ?_)
 rw[if_pos (by decide)]
 refine wpAny_bind (zeu hs pl pu ?_)
 have hno:¬((((sIx items.size 0 lo:Nat):Int)==0&&(1:Int)==1&&(sIx items.size items.size hi-sIx items.size 0 lo)==items.size)=true):=by
  intro q
  rw[Bool.and_eq_true,Bool.and_eq_true] at q
  have q1:((sIx items.size 0 lo:Nat):Int)=0:=eq_of_beq q.1.1
  have q2:sIx items.size items.size hi-sIx items.size 0 lo=items.size:=eq_of_beq q.2
  exact hw ⟨by omega,by omega⟩
 show wpAny _ _ (if (((sIx items.size 0 lo:Nat):Int)==0&&(1:Int)==1&&(sIx items.size items.size hi-sIx items.size 0 lo)==items.size)=true then _ else _) _ _ s
 rw[if_neg hno,zlK]
 first
  | exact wpAny_bind (m:=Builtin.Tuple.tupleExact _) (wpAny_newObj_type (wpAny_pure ⟨_,rfl,wpAny_pure h⟩) htake)
  | exact wpAny_bind (m:=Builtin.Tuple.tupleExact _) (wpAny_newObj_type (wpAny_bind (wpAny_pure (wpAny_pure ⟨_,rfl,wpAny_pure h⟩))) htake)
  | exact wpAny_bind (wpAny_bind (m:=Builtin.Tuple.tupleExact _) (wpAny_newObj_type (wpAny_pure (wpAny_pure ⟨_,rfl,wpAny_pure h⟩)) htake))
  | exact wpAny_bind (wpAny_bind (m:=Builtin.Tuple.tupleExact _) (wpAny_newObj_type (wpAny_pure ⟨_,rfl,wpAny_pure h⟩) htake))
end
end HT
namespace L2
open PySem PySem.Spec PyProof.Rows
noncomputable abbrev TO:=St→Hp→(Option Int→Hp→Prop)→Prop
noncomputable def PO(X:Cx)(e:Option Expr)(t:TO):Prop:=
 ∀(pins:List (Addr×Obj)) (s:Shared) (σ:St) (H:Hp) (Q:Option Int→Hp→Prop),Inv X pins σ H s→t σ H Q→
  wpAny (model X.prog X.w) X.A (evalPart e X.env) (fun u s'=>∃o H',Inv X pins σ H' s'∧IsPart u o∧Q o H') X.xe s
noncomputable def znq:TO:=fun _ H Q=>Q none H
noncomputable def zqf(t:TE):TO:=fun σ H Q=>t σ H fun x H1=>∃i,x=.int i∧Q (some i) H1
theorem zb0{ns:List Int}:∀{us:List Value},Vals (ns.map V.int) us→IntsAre us ns:=by
 induction ns with
 | nil=>intro us r;rw[List.map_nil] at r;cases r;exact .nil
 | cons n ns ih=>
  intro us r
  rw[List.map_cons] at r
  cases r with
  | cons r1 r2=>
   obtain⟨t,e⟩:=r1
   subst e
   exact .cons n t (ih r2)
section
variable {X:Cx} {e:Expr} {te:TE} {lo hi:Option Expr} {tl th:TO} {pos p2:Pos}
theorem znr:PO X none znq:=by
 intro pins s σ H Q I h
 rw[evalPart_none]
 exact wpAny_pure ⟨none,H,I,.none,h⟩
theorem zns(h:PE X e te):PO X (some e) (zqf te):=by
 intro pins s σ H Q I hw
 rw[evalPart_some]
 refine thn (h pins s σ H _ I hw) fun u s1 ⟨x,H1,I1,r1,q1⟩=>?_
 obtain⟨i,rfl,q⟩:=q1
 obtain⟨t,rfl⟩:=r1
 exact⟨some i,H1,I1,.int i t,q⟩
noncomputable def SlR(X:Cx)(r:V→Option Int→Option Int→Hp→VK→Prop):Prop:=
 ∀(pins:List (Addr×Obj)) (s:Shared) (σ:St) (H:Hp) (x:V) (v vl vu:Value) (lo hi:Option Int) (sl:Addr) (Q:VK),Inv X pins σ H s→RelV x v→s.heap.IsSliceOf sl vl vu .none→IsPart vl lo→IsPart vu hi→r x lo hi H Q→
  ∃T id,typeLookup (.type T) "__getitem__"=pure (some (.builtin id))∧s.TypeIs v T∧wpAny (model X.prog X.w) X.A (getItem v (.ref sl)) (EP X pins σ Q) X.xe s
theorem SlR.or{r r':V→Option Int→Option Int→Hp→VK→Prop}(h:SlR X r)(h':SlR X r'):SlR X (fun x lo hi H Q=>r x lo hi H Q∨r' x lo hi H Q):=by
 intro pins s σ H x v vl vu lo hi sl Q I rx hs pl pu q
 rcases q with q | q
 ·exact h pins s σ H x v vl vu lo hi sl Q I rx hs pl pu q
 ·exact h' pins s σ H x v vl vu lo hi sl Q I rx hs pl pu q
noncomputable def tSl(r:V→Option Int→Option Int→Hp→VK→Prop)(te:TE)(tl th:TO):TE:=fun σ H Q=>te σ H fun x H1=>tl σ H1 fun l H2=>th σ H2 fun u H3=>r x l u H3 Q
theorem zlL{r:V→Option Int→Option Int→Hp→VK→Prop}(hr:SlR X r)(he:PE X e te)(hl:PO X lo tl)(hu:PO X hi th):PE X (.Subscript e (.Slice lo hi none p2) pos) (tSl r te tl th):=by
 intro pins s σ H Q I h
 refine Subscript_ (thn (he pins s σ H _ I h) fun v s1 ⟨x,H1,I1,r1,q1⟩=>?_)
 refine wpAny_Slice (thn (hl pins s1 σ H1 _ I1 q1) fun vl s2 ⟨l,H2,I2,pl,q2⟩=>thn (hu pins s2 σ H2 _ I2 q2) fun vu s3 ⟨u,H3,I3,pu,q3⟩=>?_)
 rw[evalPart_none]
 refine wpAny_pure ?_
 have I4:Inv X pins σ H3 { s3 with heap:=s3.heap.push { cls:=.type "slice",data:=.fields #[vl,vu,.none] } }:=I3.kept (t':=s3.toks) fun b ob q=>Heap.get?_push_of_some _ q
 obtain⟨T,id,hT,ht,hg⟩:=hr pins { s3 with heap:=s3.heap.push { cls:=.type "slice",data:=.fields #[vl,vu,.none] } } σ H3 x v vl vu l u s3.heap.objs.size Q I4 r1 (Heap.IsSliceOf.new ..) pl pu q3
 show wpAny (model X.prog X.w) X.A (subscriptTail e (.Slice lo hi none p2) v (.ref s3.heap.objs.size)) (EP X pins σ Q) X.xe { s3 with heap:=s3.heap.push { cls:=.type "slice",data:=.fields #[vl,vu,.none] } }
 exact tail_any (ops:=[.ref s3.heap.objs.size,v]) ht hT hg (by with_unfolding_all rfl)
noncomputable def zlv(xs:List V)(lo hi:Option Int):List V:=(xs.drop (HT.sIx xs.length 0 lo)).take (HT.sIx xs.length xs.length hi-HT.sIx xs.length 0 lo)
theorem zeO(xs:List V)(lo hi:Option Int):(zlv xs lo hi).length≤xs.length:=by
 unfold zlv
 rw[List.length_take,List.length_drop]
 omega
noncomputable def zqY(K:PySem.W.Frag):V→Option Int→Option Int→Hp→VK→Prop:=fun x lo hi H Q=>∃a xs,x=.ref a∧SqT K H a xs∧
 ¬(HT.sIx xs.length 0 lo=0∧HT.sIx xs.length xs.length hi=xs.length)∧∀p,H p=none→Q (.ref p) (upd H p (.tup (zlv xs lo hi)))
theorem zoL:SlR X (zqY X.K):=by
 intro pins s σ H x v vl vu lo hi sl Q I rx hs pl pu h
 obtain⟨a,xs,rfl,hx,hw,q⟩:=h
 cases rx
 obtain⟨its,r,ht,hz⟩:=I.tuple hx
 have hlen:its.toArray.size=xs.length:=by rw[List.size_toArray];exact r.length.symm
 refine⟨"tuple",_,PyProof.Rows.slot_tuple_getitem.lookup,ht.typeIs,?_⟩
 refine HT.getItem_tuple_cut ht hs pl pu (by rw[hlen];exact hw) ?_ (by rw[hlen];exact hz)
 rw[hlen]
 refine⟨.ref s.heap.objs.size,_,I.laid (t':=s.toks) (o:=.tup (zlv xs lo hi)) (fun b ob q=>Heap.get?_push_of_some _ q) (Nat.le_refl _) ?_,rfl,q _ (I.hok.fresh (Nat.le_refl _))⟩
 exact⟨Nat.le_trans (zeO xs lo hi) hz,_,(r.drop (HT.sIx xs.length 0 lo)).take (HT.sIx xs.length xs.length hi-HT.sIx xs.length 0 lo),IsTup.new _ _⟩
end
end L2
namespace L2
open PySem PySem.Spec PyProof.Rows
noncomputable def ixN(n:Nat)(i:Int):Option Nat:=if 0≤i then(if i<n then some i.toNat else none) else if -(n:Int)≤i then some (i+n).toNat else none
noncomputable def atI{α:Type}(xs:List α)(i:Int):Option α:=(ixN xs.length i).bind fun j=>xs[j]?
theorem znt{n:Nat}{i:Int}{j:Nat}(h:ixN n i=some j):seqIndex? i n=some j∧j<n∧-(n:Int)≤i∧i<n:=by
 unfold ixN at h
 by_cases h0:0≤i
 ·rw[if_pos h0] at h
  by_cases h1:i<n
  ·rw[if_pos h1] at h
   have e:i.toNat=j:=Option.some.inj h
   exact⟨by rw[seqIndex_of h0 h1,e],by omega,by omega,h1⟩
  ·rw[if_neg h1] at h;cases h
 ·rw[if_neg h0] at h
  by_cases h1:-(n:Int)≤i
  ·rw[if_pos h1] at h
   have e:(i+n).toNat=j:=Option.some.inj h
   exact⟨by rw[seqIndex_neg (by omega) h1,e],by omega,h1,by omega⟩
  ·rw[if_neg h1] at h;cases h
theorem zdN{α:Type}{xs:List α}{i:Int}{v:α}(h:atI xs i=some v):∃j,seqIndex? i xs.length=some j∧xs[j]?=some v∧j<xs.length∧-(xs.length:Int)≤i∧i<xs.length:=by
 unfold atI at h
 cases e:ixN xs.length i with
 | none=>rw[e] at h;cases h
 | some j=>
  rw[e] at h
  obtain⟨h1,h2,h3,h4⟩:=znt e
  exact⟨j,h1,h,h2,h3,h4⟩
noncomputable def zhT(b:Expr):Prop:=∀o i,subscripted b false o i=operate [o,i] (getItem o i)
noncomputable def IxR(X:Cx)(r:R2):Prop:=
 ∀(value slice:Expr) (pins:List (Addr×Obj)) (s:Shared) (σ:St) (H:Hp) (x y:V) (v u:Value) (Q:VK),Inv X pins σ H s→RelV x v→RelV y u→r x y H Q→
  subscripted slice false v u=operate [v,u] (getItem v u)→wpAny (model X.prog X.w) X.A (subscriptTail value slice v u) (EP X pins σ Q) X.xe s
noncomputable def MtR(X:Cx)(id:String)(r:V→List V→Hp→VK→Prop):Prop:=
 ∀(pins:List (Addr×Obj)) (s:Shared) (σ:St) (H:Hp) (x:V) (xs:List V) (v:Value) (us:List Value) (Q:VK),Inv X pins σ H s→RelV x v→Vals xs us→r x xs H Q→
  wpAny (model X.prog X.w) X.A (call (.builtin id) (v::us)) (EP X pins σ Q) X.xe s
section
variable {X:Cx} {a b:Expr} {ta tb:TE} {pos:Pos}
theorem IxR.or{r r':R2}(h:IxR X r)(h':IxR X r'):IxR X (fun x y H Q=>r x y H Q∨r' x y H Q):=by
 intro value slice pins s σ H x y v u Q I rx ry q hs
 rcases q with q | q
 ·exact h value slice pins s σ H x y v u Q I rx ry q hs
 ·exact h' value slice pins s σ H x y v u Q I rx ry q hs
theorem zoM{r:R2}(hr:IxR X r)(ha:PE X a ta)(hb:PE X b tb)(hs:zhT b):PE X (.Subscript a b pos) (tOp r ta tb):=by
 intro pins s σ H Q I h
 exact Subscript_ (zp5 ha hb I h fun v u s2 x y H2 I2 rx ry q=>hr a b pins s2 σ H2 x y v u Q I2 rx ry q (hs _ _))
noncomputable def zqz(K:PySem.W.Frag):R2:=fun x y H Q=>∃p xs i v,x=.ref p∧y=.int i∧SqL K H p xs∧atI xs i=some v∧Q v H
noncomputable def zqA(K:PySem.W.Frag):R2:=fun x y H Q=>∃p xs i v,x=.ref p∧y=.int i∧SqT K H p xs∧atI xs i=some v∧Q v H
noncomputable def zqB:R2:=fun x y H Q=>∃z i c,x=.str z∧y=.int i∧z.length≤sizeLine∧atI z.cps.toList i=some c∧Q (.str ⟨#[c]⟩) H
theorem ix_list:IxR X (zqz X.K):=by
 intro value slice pins s σ H x y v u Q I rx ry h hs
 obtain⟨p,xs,i,z,rfl,rfl,hq,he,q⟩:=h
 cases rx
 obtain⟨t,rfl⟩:=ry
 obtain⟨its,r,pl,hz⟩:=I.list hq
 obtain⟨j,h1,h2,h3,h4,h5⟩:=zdN he
 obtain⟨w,ew,rw'⟩:=r.get h2
 have hl:=r.length
 have hn:=zgU
 have fin:EP X pins σ Q w s:=⟨z,H,I,rw',q⟩
 by_cases h0:0≤i
 ·have hj:i.toNat=j:=by
   rw[seqIndex_of h0 h5] at h1
   exact Option.some.inj h1
  exact item_listR pl.isList h0 (by omega) (by rw[hj];simpa using ew) fin hs
 ·have hj:(i+(its.toArray.size:Int)).toNat=j:=by
   rw[seqIndex_neg (by omega) h4] at h1
   rw[List.size_toArray,←hl]
   exact Option.some.inj h1
  exact subscriptTail_builtinR (x:=w) pl.isList.typeIs slot_list_getitem.lookup
   (wpAny_getItem_list_neg (Q:=fun r s'=>r=w∧EP X pins σ Q r s') pl.isList (by omega) (by rw[List.size_toArray]<;>omega) (by omega) (by rw[hj];simpa using ew) ⟨rfl,fin⟩) hs
theorem ix_tup:IxR X (zqA X.K):=by
 intro value slice pins s σ H x y v u Q I rx ry h hs
 obtain⟨p,xs,i,z,rfl,rfl,hq,he,q⟩:=h
 cases rx
 obtain⟨t,rfl⟩:=ry
 obtain⟨its,r,pl,hz⟩:=I.tuple hq
 obtain⟨j,h1,h2,h3,h4,h5⟩:=zdN he
 obtain⟨w,ew,rw'⟩:=r.get h2
 have hl:=r.length
 have hn:=zgU
 have fin:EP X pins σ Q w s:=⟨z,H,I,rw',q⟩
 exact subscriptTail_builtinR (x:=w) pl.typeIs slot_tuple_getitem.lookup
  (getItem_tuple (j:=j) (Q:=fun r s'=>r=w∧EP X pins σ Q r s') pl (by omega) (by omega) (by rw[List.size_toArray,←hl];exact h1) (by simpa using ew) ⟨rfl,fin⟩) hs
theorem zoN:IxR X zqB:=by
 intro value slice pins s σ H x y v u Q I rx ry h hs
 obtain⟨z,i,c,rfl,rfl,hz,he,q⟩:=h
 obtain⟨t,rfl⟩:=rx
 obtain⟨t',rfl⟩:=ry
 obtain⟨j,h1,h2,h3,h4,h5⟩:=zdN he
 have hl:z.cps.toList.length=z.length:=by simp[Str.length]
 rw[hl] at h1 h4 h5
 have hn:=zgU
 exact tail_any (typeIs_str s z t) slot_str_getitem.lookup (getItem_str (c:=c) (by
  have e1:decide (i < -(2 ^ 63:Int))=false:=decide_eq_false (by omega)
  have e2:decide (i≥2 ^ 63)=false:=decide_eq_false (by omega)
  rw[e1,e2,Bool.or_false]) (by rw[h1];simpa using h2) ⟨.str ⟨#[c]⟩,H,I.tok _,⟨_,rfl⟩,q⟩) hs
noncomputable def rIx(K:PySem.W.Frag):R2:=fun x y H Q=>zqz K x y H Q∨zqA K x y H Q∨zqB x y H Q
theorem zmN:IxR X (rIx X.K):=ix_list.or (ix_tup.or zoN)
theorem zg1(lo hi:Option Int)(n:Nat):(sliceBounds lo hi none n).1=((HT.sIx n 0 lo:Nat):Int)∧(sliceBounds lo hi none n).2.1=((HT.sIx n n hi:Nat):Int)∧(sliceBounds lo hi none n).2.2=1:=by
 refine⟨?_,?_,rfl⟩
 ·cases lo with
  | none=>simp[sliceBounds,HT.sIx]
  | some i=>
   simp only[sliceBounds,HT.sIx,Option.getD_none,show(1:Int)>0 by decide,if_true]
   by_cases h:i<0
   ·simp only[h,if_true]<;>omega
   ·simp only[h,if_false]<;>omega
 ·cases hi with
  | none=>simp[sliceBounds,HT.sIx]
  | some i=>
   simp only[sliceBounds,HT.sIx,Option.getD_none,show(1:Int)>0 by decide,if_true]
   by_cases h:i<0
   ·simp only[h,if_true]<;>omega
   ·simp only[h,if_false]<;>omega
theorem zgd(its:List Value)(lo hi:Option Int):slicePick its.toArray lo hi none=((its.drop (HT.sIx its.length 0 lo)).take (HT.sIx its.length its.length hi-HT.sIx its.length 0 lo)).toArray:=by
 obtain⟨h1,h2,h3⟩:=zg1 lo hi its.toArray.size
 unfold slicePick
 rw[h1,h2,h3]
 simp only[sliceRange_one,pick_run,List.size_toArray]<;>rfl
noncomputable def zqZ(K:PySem.W.Frag):V→Option Int→Option Int→Hp→VK→Prop:=fun x lo hi H Q=>∃a xs,x=.ref a∧SqL K H a xs∧∀p,H p=none→Q (.ref p) (upd H p (.lst (zlv xs lo hi)))
theorem sl_list:SlR X (zqZ X.K):=by
 intro pins s σ H x v vl vu lo hi sl Q I rx hs pl pu h
 obtain⟨a,xs,rfl,hx,q⟩:=h
 cases rx
 obtain⟨its,r,ht,hz⟩:=I.list hx
 have hlen:=r.length
 refine⟨"list",_,slot_list_getitem.lookup,ht.isList.typeIs,?_⟩
 refine wpAny_getItem_list_slice ht.isList hs pl pu .none (by simp) ?_ (by rw[List.size_toArray]<;>omega)
 rw[zgd,←hlen]
 refine⟨.ref s.heap.objs.size,_,I.laid (t':=s.toks) (o:=.lst (zlv xs lo hi)) (fun b ob q=>Heap.get?_push_of_some _ q) (Nat.le_refl _) ?_,rfl,q _ (I.hok.fresh (Nat.le_refl _))⟩
 exact⟨Nat.le_trans (zeO xs lo hi) hz,_,0,(r.drop (HT.sIx xs.length 0 lo)).take (HT.sIx xs.length xs.length hi-HT.sIx xs.length 0 lo),Heap.get?_push_size _ rfl⟩
noncomputable def zlM:V→Bool
 | .non=>true
 | .bl _=>true
 | .int _=>true
 | .str _=>true
 | _=>false
noncomputable def eqV:V→V→Bool
 | .non,.non=>true
 | .bl a,.bl b=>a==b
 | .bl a,.int b=>(if a then 1 else 0)==b
 | .int a,.bl b=>a==(if b then 1 else 0)
 | .int a,.int b=>a==b
 | .str a,.str b=>a==b
 | _,_=>false
theorem zmO{A:Around}{s:Shared}{y x:V}{u v:Value}(ry:RelV y u)(rx:RelV x v)(fy:zlM y=true)(fx:zlM x=true):SeqAt.EqAt A s u v (eqV y x):=by
 cases y with
 | non=>
  cases ry
  cases x with
  | non=>cases rx;exact SeqAt.EqAt.same _
  | bl b=>cases rx;exact SeqAt.EqAt.none_bool b
  | int b=>obtain⟨t,rfl⟩:=rx;exact SeqAt.EqAt.none_int b t
  | str b=>obtain⟨t,rfl⟩:=rx;exact SeqAt.EqAt.none_str b t
  | _=>exact absurd (show false=true from fx) Bool.false_ne_true
 | bl a=>
  cases ry
  cases x with
  | non=>cases rx;exact SeqAt.EqAt.bool_none a
  | bl b=>cases rx;exact SeqAt.EqAt.bool_bool a b
  | int b=>obtain⟨t,rfl⟩:=rx;exact SeqAt.EqAt.bool_int a b t
  | str b=>obtain⟨t,rfl⟩:=rx;exact SeqAt.EqAt.bool_str a b t
  | _=>exact absurd (show false=true from fx) Bool.false_ne_true
 | int a=>
  obtain⟨t',rfl⟩:=ry
  cases x with
  | non=>cases rx;exact SeqAt.EqAt.int_none a t'
  | bl b=>cases rx;exact SeqAt.EqAt.int_bool a t' b
  | int b=>obtain⟨t,rfl⟩:=rx;exact SeqAt.EqAt.int_int a t' b t
  | str b=>obtain⟨t,rfl⟩:=rx;exact SeqAt.EqAt.int_str a t' b t
  | _=>exact absurd (show false=true from fx) Bool.false_ne_true
 | str a=>
  obtain⟨t',rfl⟩:=ry
  cases x with
  | non=>cases rx;exact SeqAt.EqAt.str_none a t'
  | bl b=>cases rx;exact SeqAt.EqAt.str_bool a t' b
  | int b=>obtain⟨t,rfl⟩:=rx;exact SeqAt.EqAt.str_int a t' b t
  | str b=>obtain⟨t,rfl⟩:=rx;exact SeqAt.EqAt.str_str a t' b t
  | _=>exact absurd (show false=true from fx) Bool.false_ne_true
 | _=>exact absurd (show false=true from fy) Bool.false_ne_true
theorem op_notIn_str:OpR X (compareOp .NotIn) (fun x y H Q=>∃i j,x=.str i∧y=.str j∧Q (.bl (!(!(Builtin.Str.occurrences j i 0 j.length 1).isEmpty))) H):=by
 intro pins s σ H x y v u Q I rx ry h
 obtain⟨i,j,rfl,rfl,q⟩:=h
 obtain⟨t,rfl⟩:=rx
 obtain⟨t',rfl⟩:=ry
 exact notIn_str ⟨.bl _,H,I,rfl,q⟩
theorem call_len_seq:CallR X (.builtin "len") (fun xs H Q=>∃p ys,xs=[.ref p]∧(SqL X.K H p ys∨SqT X.K H p ys)∧Q (.int ys.length) H):=by
 intro pins s σ H xs us Q I r h
 obtain⟨p,ys,rfl,hq,q⟩:=h
 obtain⟨u,rfl,rx⟩:=zcN r
 cases rx
 have hn:=zgU
 rcases hq with hq | hq
 ·obtain⟨its,r',pl,hz⟩:=I.list hq
  have hlen:=r'.length
  exact Calls.call_len_list pl.isList (by simp only[List.size_toArray]<;>omega) ⟨.int ys.length,H,I.tok _,⟨s.toks+1,by rw[List.size_toArray,hlen]⟩,q⟩
 ·obtain⟨its,r',pl,hz⟩:=I.tuple hq
  have hlen:=r'.length
  exact len_tuple pl (by simp only[List.size_toArray]<;>omega) ⟨.int ys.length,H,I.tok _,⟨s.toks+1,by rw[List.size_toArray,hlen]⟩,q⟩
theorem zg2:CallR X (.builtin "len") (fun xs H Q=>∃z,xs=[.str z]∧z.length≤sizeLine∧Q (.int z.length) H):=by
 intro pins s σ H xs us Q I r h
 obtain⟨z,rfl,hz,q⟩:=h
 obtain⟨u,rfl,t,rfl⟩:=zcN r
 have hn:=zgU
 exact len_str (by omega) ⟨.int z.length,H,I.tok _,⟨_,rfl⟩,q⟩
theorem CallR.or{f:Value}{r r':List V→Hp→VK→Prop}(h:CallR X f r)(h':CallR X f r'):CallR X f (fun xs H Q=>r xs H Q∨r' xs H Q):=by
 intro pins s σ H xs us Q I rs q
 rcases q with q | q
 ·exact h pins s σ H xs us Q I rs q
 ·exact h' pins s σ H xs us Q I rs q
theorem zg3:CallR X (.type "list") (fun xs H Q=>∃p ys,xs=[.ref p]∧(SqL X.K H p ys∨SqT X.K H p ys)∧∀l,H l=none→Q (.ref l) (upd H l (.lst ys))):=by
 intro pins s σ H xs us Q I r h
 obtain⟨p,ys,rfl,hq,q⟩:=h
 obtain⟨u,rfl,rx⟩:=zcN r
 cases rx
 have fin:∀(its:List Value),Vals ys its→ys.length≤sizeLine→∀(h':Heap) (c':Nat),(∀b o',s.heap.get? b=some o'→h'.get? b=some o')→
   h'.get? s.heap.objs.size=some { cls:=.type "list",dict:=none,data:=.seq its.toArray c',slots:=#[] }→EP X pins σ Q (.ref s.heap.objs.size) { s with heap:=h' }:=fun its r' hz h' c' kp e=>
  ⟨.ref s.heap.objs.size,_,I.laid (t':=s.toks) kp (Nat.le_refl _) (show ObjOk X.prog X.w _ h' _ (.lst ys) from⟨hz,its,c',r',e⟩),rfl,q _ (I.hok.fresh (Nat.le_refl _))⟩
 rcases hq with hq | hq
 ·obtain⟨its,r',pl,hz⟩:=I.list hq
  have hlen:=r'.length
  obtain⟨o,ho,hc,n,hd⟩:=pl.isList
  exact call_list_seq p (.inl rfl) ho hc hd (fun h' c' kp e=>fin its r' hz h' c' kp e) (by simp only[List.size_toArray]<;>omega)
 ·obtain⟨its,r',pl,hz⟩:=I.tuple hq
  have hlen:=r'.length
  obtain⟨o,ho,hc,n,hd⟩:=pl
  exact call_list_seq p (.inr rfl) ho hc hd (fun h' c' kp e=>fin its r' hz h' c' kp e) (by simp only[List.size_toArray]<;>omega)
noncomputable def tyV(K:PySem.W.Frag)(T:String)(x:V)(H:Hp):Prop:=match x with
 | .str _=>T="str"
 | .int _=>T="int"
 | .ref p=>(T="list"∧∃xs,SqL K H p xs)∨(T="tuple"∧∃o,K.lookup p=some o∧o.cls=.type "tuple"∧o.dict=none)∨
   (T="dict"∧((∃kvs ep,H p=some (.dK kvs ep))∨∃kvs bs,H p=some (.dT kvs bs)))∨(T="set"∧∃S n,H p=some (.set S n))
 | _=>False
theorem zoO{pins:List (Addr×Obj)}{σ:St}{H:Hp}{s:Shared}{T:String}{x:V}{v:Value}(I:Inv X pins σ H s)(r:RelV x v)(ty:tyV X.K T x H) :
  s.TypeIs v T∧∀a,v=.ref a→∃ob,s.heap.get? a=some ob∧ob.dict=none:=by
 cases x with
 | str z=>
  obtain⟨t,rfl⟩:=r
  cases (show T="str" from ty)
  exact⟨typeIs_str s z t,fun _ e=>nomatch e⟩
 | int i=>
  obtain⟨t,rfl⟩:=r
  cases (show T="int" from ty)
  exact⟨typeIs_int s i t,fun _ e=>nomatch e⟩
 | ref p=>
  cases r
  rcases ty with⟨rfl,xs,hq⟩ | ⟨rfl,o,hk,hc,hd⟩ | ⟨rfl,hk⟩ | ⟨rfl,S,n,hk⟩
  ·obtain⟨its,_,pl,_⟩:=I.list hq
   refine⟨pl.isList.typeIs,fun a e=>?_⟩
   cases e
   obtain⟨o,n,e,c,hd,_⟩:=pl
   exact⟨o,e,hd⟩
  ·refine⟨⟨o,I.kIn p o hk,hc⟩,fun a e=>?_⟩
   cases e
   exact⟨o,I.kIn _ o hk,hd⟩
  ·have z:∃o,s.heap.get? p=some o∧o.ExactDict:=by
    rcases hk with⟨kvs,ep,hk⟩ | ⟨kvs,bs,hk⟩
    ·obtain⟨_,_,_,_,o,_,e,ex,_⟩:=I.hok p _ hk
     exact⟨o,e,ex⟩
    ·obtain⟨_,_,_,_,_,o,_,_,e,ex,_⟩:=I.hok p _ hk
     exact⟨o,e,ex⟩
   obtain⟨o,e,ex⟩:=z
   refine⟨⟨o,e,ex.1⟩,fun a e2=>?_⟩
   cases e2
   exact⟨o,e,ex.2.1⟩
  ·obtain⟨o,_,_,_,e,ex,_⟩:=I.hok p _ hk
   refine⟨⟨o,e,ex.1⟩,fun a e2=>?_⟩
   cases e2
   exact⟨o,e,ex.2.1⟩
 | _=>exact False.elim ty
noncomputable def tBM(K:PySem.W.Frag)(T:String)(r:V→List V→Hp→VK→Prop)(to:TE)(t:TA):TE:=fun σ H Q=>to σ H fun x H1=>tyV K T x H1∧t σ H1 fun xs H2=>r x xs H2 Q
variable {o e:Expr} {es:List Expr} {to:TE} {t:TA} {name:Str} {apos cpos:Pos} {T id:String} {r:V→List V→Hp→VK→Prop}
theorem znu(pa:PlainAttrs T)(slot:Slot T name id)(hty:typeOf (.builtin id)=pure (.type "method_descriptor"))(hm:MtR X id r)(ho:PE X o to)(ha:PA X (e::es) t)
  (hbase:attributeBase o name X.env (eval o X.env)=eval o X.env:=by rfl)
  (hfew:((backTo cpos (starEach (e::es) X.env)).all (fun x=>!x.1)&&(backToKw cpos (keywordEach [] X.env)).all (fun x=>x.1.isSome)
   && decide ((e::es).length+([]:List Keyword).length+(if ([]:List Keyword).isEmpty then 0 else 1)<30))=true:=by rfl)
  (hline:(apos.endLine==cpos.line)=true:=by rfl) (hs:starEach (e::es) X.env=(false,eval e X.env)::starEach es X.env:=by rfl) (hplain:(backTo cpos (starEach es X.env)).any (·.1)=false:=by rfl) :
  PE X (.Call (.Attribute o name apos) (e::es) [] cpos) (tBM X.K T r to t):=by
 intro pins s σ H Q I h
 refine wpAny_Call_method_late hbase hfew hline rfl (thn (ho pins s σ H _ I h) fun v s1 ⟨x,H1,I1,r1,ty,q1⟩=>?_)
 obtain⟨h1,h2⟩:=zoO I1 r1 ty
 refine⟨T,id,pa,slot,hty,h1,h2,?_⟩
 have hA:=ha cpos pins s1 σ H1 _ I1 q1
 rw[hs] at hA ⊢
 refine Calls.callWith_builtin (by show(false||(backTo cpos (starEach es X.env)).any (·.1))=false;rw[hplain]<;>rfl) (Calls.evalArgs_plain ?_)
 exact thn hA fun us s2 ⟨vs,H2,I2,r2,q2⟩=>hm pins s2 σ H2 x vs v us Q I2 r1 r2 q2
end
end L2
namespace L2
open PySem PySem.Spec PyProof.Rows
noncomputable def MtM(X:Cx)(id:String)(r:V→List V→Hp→VK→Prop):Prop:=
 ∀(pins:List (Addr×Obj)) (s:Shared) (σ:St) (H:Hp) (x:V) (xs:List V) (v:Value) (us:List Value) (Q:VK),Inv X pins σ H s→RelV x v→Vals xs us→r x xs H Q→
  wpAny (model X.prog X.w) X.A (call (.builtin id) (v::us)) (EP X pins σ Q) X.xe s
theorem Vals.one:∀{x:V} {us:List Value},Vals [x] us→∃u,us=[u]∧RelV x u
 | _,_,.cons r .nil=>⟨_,rfl,r⟩
section
variable {X:Cx} {pins:List (Addr×Obj)} {σ:St} {H:Hp} {s:Shared} {l b:Addr} {xs ys zs:List V}
theorem Inv.lset{its its':List Value}{n:Nat}{f:Array Value→Array Value}{t':Nat}(I:Inv X pins σ H s)(hH:H l=some (.lst xs))
  (e:s.heap.get? l=some { cls:=.type "list",data:=.seq its.toArray n }) (hf:f its.toArray=its'.toArray) (hv:Vals ys its') (hz:ys.length≤sizeLine) :
  Inv X pins σ (upd H l (.lst ys)) { s with heap:=s.heap.update l (Obj.mapSeq f),toks:=t' }:=by
 have q:=PySem.IsL.update e f
 rw[hf] at q
 refine I.write (x:=l) (e:=l) (by rw[hH];exact trivial) (.inl rfl) (fun b' u hb hu=>(Heap.get?_update_other s.heap (Obj.mapSeq f) (Ne.symm hb)).trans hu) ⟨_,q⟩ ?_
 exact⟨hz,its',_,hv,q⟩
theorem Inv.lnew{its:List Value}{t':Nat}(I:Inv X pins σ H s)(hv:Vals ys its)(hz:ys.length≤sizeLine) :
  Inv X pins σ (upd H s.heap.objs.size (.lst ys)) { s with heap:=s.heap.push { cls:=.type "list",data:=.seq its.toArray },toks:=t' }:=
 I.laid (fun _ _ q=>Heap.get?_push_of_some _ q) (Nat.le_refl _) ⟨hz,its,0,hv,Heap.get?_push_size _ rfl⟩
theorem Inv.fresh(I:Inv X pins σ H s):H s.heap.objs.size=none:=I.hok.fresh (Nat.le_refl _)
theorem Inv.lstM(I:Inv X pins σ H s)(hH:H l=some (.lst xs)):xs.length≤sizeLine∧∃(its:List Value) (n:Nat),Vals xs its∧xs.length=its.length∧s.heap.get? l=some { cls:=.type "list",data:=.seq its.toArray n }:=by
 obtain⟨z,its,n,r,e⟩:=I.hok l _ hH
 exact⟨z,its,n,r,r.length,e⟩
theorem zlN{n:Nat}(h:n≤sizeLine):Builtin.List.listTooLong n=false:=by
 unfold Builtin.List.listTooLong
 exact decide_eq_false (by omega)
end
section
variable {X:Cx}
noncomputable def zj2:V→List V→Hp→VK→Prop:=fun x vs H Q=>∃l xs y,x=.ref l∧vs=[y]∧H l=some (.lst xs)∧xs.length<sizeLine∧Q .non (upd H l (.lst (xs++[y])))
theorem zg4:MtM X "list.append" zj2:=by
 intro pins s σ H x vs v us Q I rx rv h
 obtain⟨l,xs,y,rfl,rfl,hH,hz,q⟩:=h
 cases rx
 obtain⟨u,rfl,ru⟩:=rv.one
 obtain⟨z,its,n,r,hl,e⟩:=I.lstM hH
 refine call_meets F.slot_list_append ⟨_,e,rfl⟩ F.entry_list_append (F.args_list_append_2 _ _) (PySem.list_append l its.toArray n u (by rw[List.size_toArray];omega)) ⟨e,?_⟩
 refine⟨.non,_,I.lset (its':=its++[u]) hH e (by simp) (r.append (.cons ru .nil)) ?_,rfl,q⟩
 rw[List.length_append,List.length_singleton]
 omega
noncomputable def zj3:V→List V→Hp→VK→Prop:=fun x vs H Q=>∃l b xs zs,x=.ref l∧vs=[.ref b]∧H l=some (.lst xs)∧H b=some (.lst zs)∧xs.length+zs.length≤sizeLine∧Q .non (upd H l (.lst (xs++zs)))
theorem zj4:MtM X "list.extend" zj3:=by
 intro pins s σ H x vs v us Q I rx rv h
 obtain⟨l,b,xs,zs,rfl,rfl,hH,hB,hz,q⟩:=h
 cases rx
 obtain⟨u,rfl,ru⟩:=rv.one
 cases ru
 obtain⟨z,its,n,r,hl,e⟩:=I.lstM hH
 obtain⟨z2,its2,n2,r2,hl2,e2⟩:=I.lstM hB
 have hsz:its.toArray.size+its2.toArray.size≤sizeLine:=by rw[List.size_toArray,List.size_toArray];omega
 have hlong:¬(!its.toArray.isEmpty&&Builtin.List.listTooLong (its.toArray.size+its2.toArray.size))=true:=by
  rw[zlN hsz,Bool.and_false]
  exact Bool.false_ne_true
 refine call_meets F.slot_list_extend ⟨_,e,rfl⟩ F.entry_list_extend (F.args_list_extend_2 _ _)
  (AutoSeq1.list_extend_list_list_0 l its.toArray n b its2.toArray n2 hlong (by rw[List.size_toArray];omega) (by omega)) ⟨e,e2,?_⟩
 refine⟨.non,_,I.lset (its':=its++its2) hH e (by simp) (r.append r2) ?_,rfl,q⟩
 rw[List.length_append]
 omega
end
section
variable {prog:Program} {w:World} {A:Around} {E:Value→Shared→Prop} {s:Shared}
end
end L2
namespace Att
open PySem PySem.W PySem.Calls PyProof.Rows
theorem zeP{P:Params}{h:Heap}:∀(ns:List Int) (vs:List Value),WellAll P h vs (ns.map WData.int)→IntsAre vs ns:=by
 intro ns
 induction ns with
 | nil=>
  intro vs w
  rw[List.map_nil] at w
  cases w
  exact .nil
 | cons n ns ih=>
  intro vs w
  rw[List.map_cons] at w
  cases w with
  | cons a b=>
   cases a
   exact .cons _ _ (ih _ b)
theorem zj5{l:OpenLaw}{n:Nat}(hn:l.most=some n){P:Params}{h:Heap}{args:List WData}{vals:List Value}
  (hpre:l.row.toRowW.claim.pre args=true) (hwl:WellAll P h vals args) :
  ∃a vs ns,vals=[Value.ref a]∧args=[WData.list (ns.map WData.int)]∧h.get? a=some { cls:=.type "list",data:=.seq vs.toArray }∧IntsAre vs ns∧ns.length≤n:=by
 have hsh:WShape.hasAll [] args [.list .int]=true:=(pre_splitW hpre).1
 have hc:l.pre.holds [] { args:=args }=true:=(pre_splitW hpre).2
 obtain⟨d,r,rfl,h1,h2⟩:=hasAllW_cons hsh
 obtain rfl:=hasAllW_nil h2
 obtain⟨xs,rfl,h3⟩:=hasW_list h1
 obtain⟨ns,rfl⟩:=items_int h3
 have hlen:ns.length≤n:=by
  unfold OpenLaw.pre at hc
  have h4:(WTm.not (.lt (.lit (.int (n:Int))) (.len (.arg 0)))).holds [] { args:=[.list (ns.map .int)] }=true:=by
   have h4:=(holds_andW hc).1
   rw[hn] at h4
   exact h4
  have h5:=condW_of h4 (w_not (w_lt w_lit (w_len_list (w_arg rfl))))
  rw[List.length_map] at h5
  refine Nat.le_of_not_lt fun q=>?_
  have q':(n:Int)<((ns.length:Nat):Int):=by omega
  first
   | (rw[decide_eq_true q'] at h5;exact absurd h5 (by decide))
   | (simp at h5;omega)
 cases hwl with
 | cons w1 w2=>
  cases w2
  cases w1 with
  | list ho hall=>exact⟨_,_,ns,rfl,rfl,ho,zeP ns _ hall,hlen⟩
theorem zj6(l:OpenLaw)(args:List WData):l.row.toRowW.claim.post args (.bool true) args=true:=
 postW_of (r:=l.row.toRowW) (X:=(true==true))
  (show WShape.has [] (.bool true) .bool=true by first | rfl | decide | simp[WShape.has,WShape.arms,WShape.armsAll])
  (show(WTm.eq .res (.lit (.bool true))).value [] { args:=args,res:=some (.bool true),after:=args }=some (.bool (true==true)) from w_eq_bool (w_res rfl) w_lit) rfl
theorem attach_call{l:OpenLaw}{n:Nat}{q:Program}{loose:List Str}{XP:(Str→Option Value)→Heap→Prop}{YP:World→Heap→Prop}{d:DefRec}
  (hn:l.most=some n) (hdf:d.params.defaults=[])
  (call:∀(w:World) (s₀ s₁:Shared) (mg mb:Str→Option Value) (fa:Addr) (o:Obj) (pm cd doc:Value) (a:Addr) (vs:List Value) (ns:List Int),
   Ground q loose [] XP w s₀ mg mb s₁.heap→YP w s₁.heap→
   s₁.heap.get? fa=some o→o.data=.func (docDef d.name d.params d.body d.scope pm cd doc)→s₁.heap.CodeRec cd d.name→mg d.name=some (.ref fa)→
   s₁.heap.get? a=some { cls:=.type "list",data:=.seq vs.toArray }→IntsAre vs ns→ns.length≤n→s₁.gens=#[]→
   codeAny (model l.prog w) callerA (.call (.ref fa) ⟨[.ref a],[]⟩) (fun r s'=>r=.ok (.ret (.bool true))∧OldK s₁.heap s'.heap∧s'.os=s₁.os∧AllBare s'.gens) s₁) :
  WalkO q loose XP YP l.row.toRowW d [] (fun f vs=>PySem.call f vs):=by
 intro w s₀ s₁ mg mb G Y fa o pm cd doc dV kV ho hd hcd hD hmg hg args vals as hpre hlay hrd hwl hlo
 obtain rfl:dV=.none:=Dflts.none hD hdf
 obtain rfl:kV=.none:=Dflts.noKw hD
 obtain⟨a,vs,ns,rfl,rfl,hobj,hints,hlen⟩:=zj5 hn hpre hwl
 refine enter_call (codeAny_mono (call w s₀ s₁ mg mb fa o pm cd doc a vs ns G Y ho (fd_plain hd) hcd hmg hobj hints hlen hg) fun r s' hq=>?_)
 obtain⟨rfl,h2,h3,h4⟩:=hq
 exact⟨.inl ⟨.bool true,.bool true,[],rfl,fun _=>rfl,.bool true,zj6 l _,fun _=>⟨List.Pairwise.nil,fun _ hm=>(nomatch hm)⟩⟩,h2,h3,h4⟩
end Att
namespace L2
open PySem PySem.Spec PyProof.Rows
theorem zeQ:∀{vs:List Value} {ns:List Int},IntsAre vs ns→Vals (ns.map V.int) vs
 | _,_,.nil=>.nil
 | _,_,.cons n t h=>.cons ⟨t,rfl⟩ (zeQ h)
noncomputable def zqC(H:Hp):Prop:=∀b,H b=none∨∃o xs,H b=some (.frz o (.lst xs))
theorem zlO{P:Program}{w:World}{K:PySem.W.Frag}{mg mb:Str→Option Value}{CX:CXT}{k:Nat}{fa a:Addr}{fd:FuncData}{x:Str}{sp:Sp}{s₁:Shared}{vs:List Value}{ns:List Int}
  (KX:K.In s₁.heap) (hns:s₁.heap.Ns mainGlobals mg) (hb:s₁.heap.Ns builtinsNs mb) (hbb:∀x:Str,x≠"__name__"→mb x=bootBuiltins x) (hlim:s₁.heap.NoLimit) (hg:s₁.gens=#[])
  (ha:s₁.heap.get? a=some { cls:=.type "list",data:=.seq vs.toArray }) (hi:IntsAre vs ns) (hl:ns.length≤sizeLine) (hr:Room k callerA)
  (F:∀base:Heap,K.In base→base.Ns mainGlobals mg→FnOk P w K mg base CX k fa fd [x] sp) (hbind:∀(s:Shared) (u:Value),BindsTo s fd ⟨[u],[]⟩ [(x,u)])
  (hsp:∀H:Hp,zqC H→SqL K H a (ns.map V.int)→sp [.ref a] H (fun v _=>v=.bl true) fun _ _ _=>False)
  (hCX:∀H e s',CX [] H s₁ (fun _ _ _=>False) e s'→False) :
  codeAny (model P w) callerA (.call (.ref fa) ⟨[.ref a],[]⟩) (fun r s'=>r=.ok (.ret (.bool true))∧OldK s₁.heap s'.heap∧s'.os=s₁.os∧AllBare s'.gens) s₁:=by
 have rv:=zeQ hi
 have lenV:=hi.length
 -- from an abstract heap in which nothing but the script may be tracked
 have core:∀H:Hp,zqC H→SqL K H a (ns.map V.int)→HOk P w H s₁.heap→(∀b,H b≠none→b=a)→(H a≠none→K.lookup a=none)→
   codeAny (model P w) callerA (.call (.ref fa) ⟨[.ref a],[]⟩) (fun r s'=>r=.ok (.ret (.bool true))∧OldK s₁.heap s'.heap∧s'.os=s₁.os∧AllBare s'.gens) s₁:=by
  intro H hO hS hok hA hK
  have base_of:∀{b:Addr} {o:Obj},s₁.heap.get? b=some o→H b=none→(zlB s₁.heap H).get? b=some o:=fun e n=>zlC e n
  have noA:∀{b:Addr} {o:Obj} {es:Array DictEntry} {ep:Nat},s₁.heap.get? b=some o→o.data=.dict es ep→H b=none:=fun{b o es ep} e d=>by
   cases q:H b with
   | none=>rfl
   | some u=>
    have e':b=a:=hA b (by rw[q];simp)
    subst e'
    rw[ha] at e;cases e
    have d':Data.seq vs.toArray _=Data.dict es ep:=d
    cases d'
  have nsK:∀{b:Addr} {m:Str→Option Value},s₁.heap.Ns b m→(zlB s₁.heap H).Ns b m:=fun{b m} ⟨o,es,ep,e,d,r⟩=>⟨o,es,ep,base_of e (noA e d),d,r⟩
  have hKb:K.In (zlB s₁.heap H):=fun b o e=>base_of (KX b o e) (by
   cases q:H b with
   | none=>rfl
   | some u=>
    have e':b=a:=hA b (by rw[q];simp)
    subst e'
    rw[hK (by rw[q];simp)] at e;cases e)
  have hM:Mod K mg (zlB s₁.heap H):=⟨hKb,nsK hns,⟨mb,nsK hb,hbb⟩,let⟨mc,h1,h2⟩:=hlim;⟨mc,nsK h1,h2⟩⟩
  have e0:Env0 P w K mg (zlB s₁.heap H) callerA [] s₁ H:=⟨rfl,hM,fun b o e=>zm9 e,Nat.le_of_eq (zjM _ _),trivial,fun b hb=>absurd (show b∈([]:List Addr) from hb) (by simp),hok,.of_eq hg⟩
  refine codeAny_mono ((F _ hKb (nsK hns)).run callerA [] s₁ H ⟨[.ref a],[]⟩ [.ref a] [.ref a] _ _ hr e0 (hbind s₁ (.ref a)) (.cons rfl .nil) (hsp H hO hS)) fun r s' h=>?_
  cases r with
  | error e=>exact(hCX H e s' h).elim
  | ok fl=>
   cases fl with
   | next=>exact False.elim h
   | brk=>exact False.elim h
   | cont=>exact False.elim h
   | ret u=>
    obtain⟨v,H',os,bare,un,hok',r',q⟩:=h
    have q':v=.bl true:=q
    subst q'
    obtain rfl:u=Value.bool true:=r'
    refine⟨rfl,OldK.of_keep fun b o e=>?_,os,bare⟩
    cases q:H b with
    | none=>exact un.keep b o e q (by intro z;exact absurd (show b∈([]:List Addr) from z) (by simp)) (by simp)
    | some u=>
     rcases hO b with z | ⟨ob,xs,z⟩
     ·rw[q] at z;cases z
     ·have z2:=un.frzs b ob _ z
      obtain⟨e1,_⟩:=hok b _ z
      obtain⟨e2,_⟩:=hok' b _ z2
      rw[e] at e1;cases e1
      exact e2
 cases hk:K.lookup a with
 | some o=>
  -- the script is one of the module's own objects
  have e:=KX a o hk
  rw[ha] at e
  cases e
  refine core (fun _=>none) (fun _=>.inl rfl) (.inr ⟨_,vs.toArray,_,hk,rfl,rfl,rfl,by rw[List.size_toArray,lenV];exact hl,by simpa using rv⟩) (fun b u z=>by have z':(none:Option HO)=some u:=z;cases z') (fun b z=>absurd rfl z) fun z=>absurd rfl z
 | none=>
  refine core (fun b=>if b=a then some (.frz { cls:=.type "list",data:=.seq vs.toArray } (.lst (ns.map V.int))) else none) (fun b=>?_) (.inl (.inr ⟨{ cls:=.type "list",data:=.seq vs.toArray },if_pos rfl⟩)) (fun b u z=>?_) (fun b z=>?_) fun _=>hk
  ·by_cases hb:b=a
   ·exact .inr ⟨_,_,if_pos hb⟩
   ·exact .inl (if_neg hb)
  ·by_cases hb:b=a
   ·have z':=(if_pos hb).symm.trans z
    cases z'
    subst hb
    exact⟨ha,by rw[List.length_map];exact hl,vs,_,rv,ha⟩
   ·have z':=(if_neg hb).symm.trans z
    cases z'
  ·by_cases hb:b=a
   ·exact hb
   ·exact absurd (if_neg hb) z
end L2
namespace L2
open PySem PySem.Spec PyProof.Rows
noncomputable abbrev KOf{K:PySem.W.Frag}{h:Heap}(_:K.In h):PySem.W.Frag:=K
end L2
namespace L2
open PySem PySem.Spec PyProof.Rows
noncomputable def znv(s:Stmt)(j:Nat):Stmt:=match s with
 | .ClassDef _ _ _ body _ _ _ _ _ _ _=>body.getD j (.Pass ⟨0,0,0,0⟩)
 | _=>.Pass ⟨0,0,0,0⟩
noncomputable def defArgs(s:Stmt):Arguments:=match s with
 | .FunctionDef _ a _ _ _ _ _ _ _ _=>a
 | _=>{ posonlyargs:=[],args:=[],vararg:=none,kwonlyargs:=[],kw_defaults:=[],kwarg:=none,defaults:=[] }
noncomputable def defBody(s:Stmt):List Stmt:=match s with
 | .FunctionDef _ _ b _ _ _ _ _ _ _=>b
 | _=>[]
noncomputable def defScope(s:Stmt):Scope:=match s with
 | .FunctionDef _ _ _ _ _ _ sc _ _ _=>sc
 | _=>{ kind:=.function,names:=[],isGenerator:=false,isCoroutine:=false }
noncomputable abbrev CX0:CXT:=fun _ _ _ _ _ _=>False
noncomputable abbrev E0:XK:=fun _ _ _=>False
theorem zoP{X:Cx}:zgV CX0 X E0:=fun _ _ _ _ _ _ _ h=>h.elim
structure FunV (dV:Value) (K:PySem.W.Frag) (x qual:Str) (st:Stmt) (f:Addr) (fd:FuncData):Prop where
 ex:∃(oc:Value) (od:Option Addr) (kV doc pm:Value) (an:Option Addr) (cdv ct:Value) (osl:Array (Option Value)),
  fd=PySem.W.fnOf x qual (defArgs st) (defBody st) (defScope st) dV kV doc pm an cdv ct∧K.lookup f=some ⟨oc,od,.func fd,osl⟩∧PySem.W.codeIn K cdv qual=true
 kp:PySem.W.keepIn K (.ref f)=true
noncomputable abbrev Fun:=FunV .none
section
variable {P:Program} {w:World} {K:PySem.W.Frag} {mg:Str→Option Value} {base:Heap}
theorem FunV.ok{dV:Value}{x qual:Str}{st:Stmt}{f:Addr}{fd:FuncData}{N ps:List Str}{k:Nat}{sp:Sp}(F:FunV dV K x qual st f fd)(S:FnScope N ps (defScope st))(len:∀vs H Q E,sp vs H Q E→vs.length=ps.length)
  (hbody:∀(cdv:Value) (A:Around) (outer:List Env) (s:Shared) (H:Hp) (vs:List V) (Q:VK) (E:XK),Room k (A.deeper (envOfC qual (defScope st) s.heap.objs.size f cdv))→sp vs H Q E→
   ∃t,PSs (zi8 CX0 P w K mg base N qual (defScope st) f cdv A outer s H E).nox (defBody st) t∧t { nx:=fun _ H'=>Q .non H',rt:=Q } (zcA N vs) H):FnOk P w K mg base CX0 (k+1) f fd ps sp:=by
 obtain⟨oc,od,kV,doc,pm,an,cdv,ct,osl,rfl,lk,hcd⟩:=F.ex
 refine zqe lk hcd S len fun A outer s H vs Q E hr hsp=>?_
 obtain⟨t,h,q⟩:=hbody cdv A outer s H vs Q E hr hsp
 exact⟨t,h.nox,q⟩
theorem FunV.binds{x qual:Str}{st:Stmt}{f:Addr}{fd:FuncData}{ps:List Str}(F:Fun K x qual st f fd)
  (h:∀(kV doc pm:Value) (an:Option Addr) (cdv ct:Value) (us:List Value),us.length=ps.length→bindArgs (PySem.W.fnOf x qual (defArgs st) (defBody st) (defScope st) .none kV doc pm an cdv ct) ⟨us,[]⟩=pure (ps.zip us)):Binds K fd ps []:=by
 obtain⟨oc,od,kV,doc,pm,an,cdv,ct,osl,rfl,lk,hcd⟩:=F.ex
 exact .all (h kV doc pm an cdv ct)
theorem zj7{x qual:Str}{st:Stmt}{f:Addr}{oc:Value}{od an:Option Addr}{osl:Array (Option Value)}{dV kV doc pm cdv ct:Value}(l:K.lookup f=some ⟨oc,od,.func (PySem.W.fnOf x qual (defArgs st) (defBody st) (defScope st) dV kV doc pm an cdv ct),osl⟩)
  (c:PySem.W.codeIn K cdv qual=true) (k:PySem.W.keepIn K (.ref f)=true):FunV dV K x qual st f (PySem.W.fnOf x qual (defArgs st) (defBody st) (defScope st) dV kV doc pm an cdv ct):=⟨⟨oc,od,kV,doc,pm,an,cdv,ct,osl,rfl,l,c⟩,k⟩
end
noncomputable def Same(H H':Hp):Prop:=∀b o,H b=some o→H' b=some o
theorem Same.refl(H:Hp):Same H H:=fun _ _ h=>h
theorem Same.trans{H H1 H2:Hp}(a:Same H H1)(b:Same H1 H2):Same H H2:=fun c o h=>b c o (a c o h)
theorem Same.free{H H':Hp}(e:Same H H'){l:Addr}(h:H' l=Option.none):H l=Option.none:=by
 cases q:H l with
 | none=>rfl
 | some o=>
  rw[e l o q] at h
  cases h
end L2
set_option maxHeartbeats 0
namespace L2
open PySem PySem.Spec PyProof.Rows
noncomputable def RdL(K:PySem.W.Frag)(H:Hp)(a:Addr)(xs:List V):Prop:=
 Rd H a (.lst xs)∨∃(its:Array Value) (n:Nat),K.lookup a=some { cls:=.type "list",data:=.seq its n }∧its.size≤sizeLine∧Vals xs its.toList
theorem RdL.of{K:PySem.W.Frag}{H:Hp}{a:Addr}{xs:List V}(h:H a=some (.lst xs)):RdL K H a xs:=.inl (.inl h)
theorem RdL.sq{K:PySem.W.Frag}{H:Hp}{a:Addr}{xs:List V}(h:RdL K H a xs):SqL K H a xs:=by
 rcases h with h | ⟨its,n,h1,h2,h3⟩
 ·exact .inl h
 ·exact .inr ⟨_,its,n,h1,rfl,rfl,rfl,h2,h3⟩
theorem Same.rdl{K:PySem.W.Frag}{H H':Hp}{a:Addr}{xs:List V}(e:Same H H')(h:RdL K H a xs):RdL K H' a xs:=by
 rcases h with(h | ⟨o,h⟩) | h
 ·exact .inl (.inl (e _ _ h))
 ·exact .inl (.inr ⟨o,e _ _ h⟩)
 ·exact .inr h
theorem Inv.rdl{X:Cx}{pins:List (Addr×Obj)}{σ:St}{H:Hp}{s:Shared}{a:Addr}{xs:List V}(I:Inv X pins σ H s)(h:RdL X.K H a xs):xs.length≤sizeLine∧∃(its:List Value) (n:Nat),Vals xs its∧s.heap.get? a=some { cls:=.type "list",data:=.seq its.toArray n }:=by
 rcases h with h | ⟨its,n,h1,h2,h3⟩
 ·obtain⟨z,its,n,r,e⟩:=h.ok I.hok
  exact⟨z,its,n,r,e⟩
 ·refine⟨by rw[h3.length];simpa using h2,its.toList,n,h3,?_⟩
  rw[Array.toArray_toList]
  exact I.kIn a _ h1
noncomputable def zhU(cells:List (Str×Addr)):List (Str×NameKind)→List (Str×Addr)→List (Str×Addr)
 | [],acc=>acc
 | (n,k)::r,acc=>zhU cells r (if k==.free then(n,(cells.lookup n).getD 0)::acc else acc)
theorem zfW{env:Env}:∀(names:List (Str×NameKind)) (acc:List (Str×Addr)),(∀x∈names,x.2=.free→∃c,env.cells.lookup x.1=some c)→
  (forIn names acc fun(x:Str×NameKind) (r:List (Str×Addr))=>
   (if (x.2==NameKind.free)=true then do let a ←cellOf env x.1;pure (ForInStep.yield ((x.1,a)::r)) else pure (ForInStep.yield r):Sem (ForInStep (List (Str×Addr)))))=pure (zhU env.cells names acc)
 | [],acc,_=>by simp[zhU]
 | (n,k)::r,acc,h=>by
  have ih:=fun acc'=>zfW (env:=env) r acc' fun x hx=>h x (List.mem_cons_of_mem _ hx)
  rw[List.forIn_cons]
  by_cases hk:k=.free
  ·subst hk
   obtain⟨c,hc⟩:=h (n,.free) (by simp) rfl
   have e1:cellOf env n=pure c:=by unfold cellOf;rw[hc]
   simp only[beq_self_eq_true,if_true,e1,pure_bind]
   rw[ih]
   simp[zhU,hc]
  ·have hk':(k==NameKind.free)=false:=by simpa using hk
   simp only[hk',Bool.false_eq_true,if_false,pure_bind]
   rw[ih]
   simp[zhU,hk']
theorem zfX{env:Env}{scope:Scope}(h:∀x∈scope.names,x.2=.free→∃c,env.cells.lookup x.1=some c):closureFor scope env=pure (zhU env.cells scope.names []):=by
 have e:closureFor scope env=(forIn scope.names ([]:List (Str×Addr)) fun(x:Str×NameKind) (r:List (Str×Addr))=>
   (if (x.2==NameKind.free)=true then do let a ←cellOf env x.1;pure (ForInStep.yield ((x.1,a)::r)) else pure (ForInStep.yield r):Sem (ForInStep (List (Str×Addr))))) >>= fun r=>pure r:=rfl
 rw[e,zfW _ _ h]
 rfl
theorem ziq{cells:List (Str×Addr)}:∀{names:List (Str×NameKind)} {acc:List (Str×Addr)} {x:Str} {c:Addr},(x,c)∈zhU cells names acc→(x,c)∈acc∨((x,.free)∈names∧c=(cells.lookup x).getD 0)
 | [],acc,x,c,h=>.inl h
 | (n,k)::r,acc,x,c,h=>by
  rcases ziq (names:=r) h with h | ⟨h,e⟩
  ·by_cases hk:k=.free
   ·subst hk
    simp only[beq_self_eq_true,if_true] at h
    rcases List.mem_cons.mp h with h | h
    ·cases h;exact .inr ⟨by simp,rfl⟩
    ·exact .inl h
   ·have hk':(k==NameKind.free)=false:=by simpa using hk
    simp only[hk',Bool.false_eq_true,if_false] at h
    exact .inl h
  ·exact .inr ⟨List.mem_cons_of_mem _ h,e⟩
theorem zir{cells:List (Str×Addr)}:∀{names:List (Str×NameKind)} {acc:List (Str×Addr)} {p:Str×Addr},p∈acc→p∈zhU cells names acc
 | [],acc,p,h=>h
 | (n,k)::r,acc,p,h=>zir (names:=r) (by split<;>simp[h])
theorem zge{cells:List (Str×Addr)}:∀{names:List (Str×NameKind)} {acc:List (Str×Addr)} {x:Str},(x,.free)∈names→∃c,(x,c)∈zhU cells names acc
 | (n,k)::r,acc,x,h=>by
  rcases List.mem_cons.mp h with h | h
  ·have e1:x=n:=congrArg Prod.fst h
   have e2:NameKind.free=k:=congrArg Prod.snd h
   subst e1 e2
   refine⟨(cells.lookup x).getD 0,?_⟩
   show(x,(cells.lookup x).getD 0)∈zhU cells r (if (NameKind.free==NameKind.free)=true then(x,(cells.lookup x).getD 0)::acc else acc)
   exact zir (by simp)
  ·exact zge (names:=r) h
theorem zbw{α:Type}:∀{l:List (Str×α)} {x:Str} {c:α},(x,c)∈l→∃c',l.lookup x=some c'
 | (n,k)::r,x,c,h=>by
  by_cases e:x=n
  ·subst e;exact⟨k,by simp[List.lookup_cons]⟩
  ·have e':(x==n)=false:=by simpa using e
   rcases List.mem_cons.mp h with h | h
   ·cases h;exact absurd rfl e
   ·obtain⟨c',q⟩:=zbw h
    exact⟨c',by simp[List.lookup_cons,e',q]⟩
theorem zhV{cells:List (Str×Addr)}{names:List (Str×NameKind)}{x:Str}{c:Addr}(h:(zhU cells names []).lookup x=some c)(hh:∀y∈names,y.2=.free→∃c,cells.lookup y.1=some c):cells.lookup x=some c:=by
 rcases ziq (PySem.mem_of_lookup h) with h | ⟨h,e⟩
 ·cases h
 ·obtain⟨c',q⟩:=hh _ h rfl
  rw[q] at e
  simp at e
  rw[e]
  exact q
theorem zch{env:Env}:∀{names:List (Str×NameKind)} {x:Str},
  (names.map fun(n,k)=>if (k==NameKind.free&&env.scope.kind==.function&&env.kindOf n==some .cell) then(n,NameKind.cell) else(n,k)).lookup x
   = (names.lookup x).map fun k=>if (k==NameKind.free&&env.scope.kind==.function&&env.kindOf x==some .cell) then NameKind.cell else k
 | [],x=>rfl
 | (n,k)::r,x=>by
  have ih:=@zch env r x
  rw[List.map_cons]
  have e0:(if (k==NameKind.free&&env.scope.kind==.function&&env.kindOf n==some .cell)=true then(n,NameKind.cell) else(n,k))=(n,if (k==NameKind.free&&env.scope.kind==.function&&env.kindOf n==some .cell)=true then NameKind.cell else k):=by split<;>rfl
  show List.lookup x ((if (k==NameKind.free&&env.scope.kind==.function&&env.kindOf n==some .cell)=true then(n,NameKind.cell) else(n,k))::_)=_
  rw[e0]
  by_cases e:x=n
  ·subst e
   rw[List.lookup_cons,List.lookup_cons,beq_self_eq_true]
   rfl
  ·have e':(x==n)=false:=by simpa using e
   rw[List.lookup_cons,List.lookup_cons,e']
   exact ih
noncomputable abbrev cxC(X:Cx)(N':List Str)(scope:Scope)(s3:Shared)(H3:Hp)(ex:List Addr):Cx:=
 { X with N:=N',s₀:=s3,H₀:=H3,env:=compEnvC scope (zhU X.env.cells scope.names []) s3.heap.objs.size X.env,outer:=X.stack,stack:=X.stack,ex:=ex,fn:=fun _=>false,pn:=[],xe:=fun _ _=>False }
noncomputable def inn(m:List (Option Nat))(σ:St):St:=m.map fun o=>match o with
 | none=>none
 | some j=>(σ[j]?).join
structure CompScope (X:Cx) (N':List Str) (m:List (Option Nat)) (scope:Scope):Prop where
 kind:scope.kind=.function
 len:m.length=N'.length
 nocell:∀y∈scope.names,y.2≠.cell
 names:∀y∈scope.names,y.2=.local→scope.names.lookup y.1=some .local
 free:∀y∈scope.names,y.2=.free→X.env.kindOf y.1=some .cell∨X.env.kindOf y.1=some .free
 cap:∀(i j:Nat) (x:Str),m[i]?=some (some j)→N'[i]?=some x→X.N[j]?=some x∧scope.names.lookup x=some .free
noncomputable def PTs(X:Cx)(ifs:List Expr)(t:TT):Prop:=
 ∀(pins:List (Addr×Obj)) (s:Shared) (σ:St) (H:Hp) (Q:Bool→Hp→Prop),Inv X pins σ H s→t σ H Q→
  wpAny (model X.prog X.w) X.A (forIn ifs true fun c r=>if r=true then do let ok ←isTrue c X.env (eval c X.env);pure (ForInStep.yield ok) else pure (ForInStep.yield r)) (TP X pins σ Q) X.xe s
noncomputable def zq0:TT:=fun _ H Q=>Q true H
theorem znw{X:Cx}:PTs X [] zq0:=fun _ _ σ H _ I h=>wpAny_tests_nil ⟨H,I,h⟩
theorem znx{X:Cx}{c:Expr}{t:TT}(h:PT X c t):PTs X [c] t:=fun pins s σ H Q I q=>wpAny_tests_one (h pins s σ H Q I q)
section
variable {prog:Program} {w:World} {A:Around} {R:Result→Shared→Prop} {s:Shared}
theorem zhW{elt target iter:Expr}{ifs:List Expr}{scope:Scope}{pos:Pos}{it acc:Value}{env:Env}(I:Nat→Shared→Prop)
  (turn:∀n s,I n s→wpAny (model prog w) A (pyNext it) (fun r s₁=>match r with
   | none=>R (.ok .next) s₁
   | some v=>wpAny (model prog w) A (letOwnedTupleGo target it v) (fun _ s₁'=>wpAny (model prog w) A (assign target env v) (fun _ s₂=>
     wpAny (model prog w) A (forIn ifs true fun c r=>if r=true then do let ok ←isTrue c env (eval c env);pure (ForInStep.yield ok) else pure (ForInStep.yield r)) (fun ok s₃=>
      if ok=true then wpAny (model prog w) A (eval elt env) (fun x s₄=>
       wpAny (model prog w) A (call (.builtin "list.append") [acc,x]) (fun _ s₅=>∃m,m<n∧I m s₅) (fun _ _=>False) s₄) (fun _ _=>False) s₃
      else ∃m,m<n∧I m s₃) (fun _ _=>False) s₂) (fun _ _=>False) s₁') (fun _ _=>False) s₁) (fun _ _=>False) s)
  (n:Nat) (h:I n s) :
  codeAny (model prog w) A (.compLoop (.ListComp elt [⟨target,iter,ifs,0⟩] scope pos) 0 it acc env) R s:=by
 refine codeAny_loop rfl I (fun n s hI=>?_) n h
 show wpAny _ A ((compTurn (.ListComp elt [⟨target,iter,ifs,0⟩] scope pos) 0 it acc env).onRaise (fun x=>do noteFrame x env;theTreesLotGoes x)) _ _ s
 refine wpAny_noted ?_
 rw[compTurn_list]
 have nv:∀{E:Value→Shared→Prop} (x:Value) (s:Shared),(fun(_:Value) (_:Shared)=>False) x s→E x s:=fun _ _ f=>f.elim
 refine wpAny_bind (wpAny_standAt (wpAny_bind (wpAny_mono (turn n s hI) (fun r s₁ h₁=>?_) nv)))
 cases r with
 | none=>exact wpAny_pure h₁
 | some v=>
  refine wpAny_bind (wpAny_mono h₁ (fun _ s₁' h₁'=>?_) nv)
  refine wpAny_bind (wpAny_mono h₁' (fun _ s₂ h₂=>wpAny_bind (wpAny_mono h₂ (fun ok s₃ h₃=>?_) nv)) nv)
  cases ok with
  | false=>exact wpAny_pure ⟨rfl,h₃⟩
  | true=>
   exact wpAny_bind (wpAny_bind (wpAny_mono h₃ (fun x s₄ h₄=>wpAny_bind (wpAny_mono h₄ (fun _ s₅ h₅=>wpAny_pure (wpAny_pure ⟨rfl,h₅⟩)) nv)) nv))
end
end L2
namespace L2
open PySem PySem.Spec PyProof.Rows
noncomputable abbrev TIn(α:Type):=Shared→Hp→List Addr→α
noncomputable def zlP(wi:TI)(m:List (Option Nat))(g:TIn TG)(tc:TIn TT)(te:TIn TE):TE:=fun σ H Q=>wi σ H fun J H1=>∀D,H1 D=none→∀s3 ex,
 ∃W:Nat→Nat→St→Hp→Prop,(∃k,W 0 k (inn m σ) (upd H1 D (.lst [])))∧∀i k σ' H',W i k σ' H'→
  (J.stop i H'∧Q (.ref D) H')∨(J.go i H'∧∃N:St→Hp→Prop,(∀σ' H',N σ' H'→∃k',k'<k∧W (i+1) k' σ' H')∧
   ∀x H2,J.yld i H' x H2→g s3 (upd H1 D (.lst [])) ex x σ' H2 fun σ2 H3=>tc s3 (upd H1 D (.lst [])) ex σ2 H3 fun b H4=>
    if b=true then te s3 (upd H1 D (.lst [])) ex σ2 H4 fun v H5=>∃xs,H5 D=some (.lst xs)∧xs.length<sizeLine∧N σ2 (upd H5 D (.lst (xs++[v]))) else N σ2 H4)
section
variable {X:Cx} {elt iter tg:Expr} {ifs:List Expr} {scope:Scope} {pos:Pos} {N':List Str} {m:List (Option Nat)} {wi:TI} {g:TIn TG} {tc:TIn TT} {te:TIn TE}
theorem zlQ{pins:List (Addr×Obj)}{σ:St}{H:Hp}{s:Shared}{fp:List Addr}{h₁:Heap}{tk:Nat}(cs:CompScope X N' m scope)(I:Inv X pins σ H s)(f:∀b∈fp,FpOk X pins H b)(fo:∀b∈fp,b<s.heap.objs.size)
  (hns:h₁.Ns s.heap.objs.size (fun x=>(([]:List (Str×Value)).reverse.lookup x))) (hk:∀b o,s.heap.get? b=some o→h₁.get? b=some o) :
  Inv (cxC X N' scope s H fp) [] (inn m σ) H { s with heap:=h₁,toks:=tk }:=by
 have hfree:∀y∈scope.names,y.2=.free→∃c,X.env.cells.lookup y.1=some c:=fun y hy hf=>I.ok.has y.1 (cs.free y hy hf)
 have hcl:∀x c,(zhU X.env.cells scope.names []).lookup x=some c→X.env.cells.lookup x=some c:=fun x c e=>zhV e hfree
 refine⟨⟨I.ok.mod,cs.kind,I.ok.glob,I.ok.blt,Nat.le_refl _,fun x y c e1 e2=>I.ok.inj x y c (hcl x c e1) (hcl y c e2),fun x hx=>?_,fun x c hx=>(by cases hx),I.ok.hd,I.ok.frames,.inl rfl,fun b hb=>⟨Nat.ne_of_lt (fo b hb),fun x c e=>(f b hb).2.2.2.2.1 x c (hcl x c e)⟩,
  fun b o e=>I.bs b o e,Nat.le_trans I.ok.bsz I.sz,fun b o e hb=>?_,fun b hb z=>?_,I.stack,I.stkFree⟩,
  rfl,I.bare,Un.kept hk,⟨_,hns,fun i x v h1 h2 h3=>?_⟩,fun x c e=>?_,I.hok.fresh (Nat.le_refl _),fun x c e=>I.freeC x c (hcl x c e),fun p hp=>(by cases hp),I.hok.kept hk,?_⟩
 ·have hx':(relabel scope X.env).names.lookup x=some .cell∨(relabel scope X.env).names.lookup x=some .free:=hx
  have e:(relabel scope X.env).names.lookup x=(scope.names.lookup x).map fun k=>if (k==NameKind.free&&X.env.scope.kind==.function&&X.env.kindOf x==some .cell) then NameKind.cell else k:=zch
  rw[e] at hx'
  have hf:(x,NameKind.free)∈scope.names:=by
   cases q:scope.names.lookup x with
   | none=>rw[q] at hx';simp at hx'
   | some k=>
    rw[q] at hx'
    have hm:=PySem.mem_of_lookup q
    by_cases hk2:k=.free
    ·subst hk2;exact hm
    ·have hk':(k==NameKind.free)=false:=by simpa using hk2
     simp only[hk',Option.map_some,Bool.false_and,Bool.false_eq_true,if_false,Option.some.injEq] at hx'
     rcases hx' with z | z
     ·exact absurd z (cs.nocell _ hm)
     ·exact absurd z hk2
  obtain⟨c,hc⟩:=zge (cells:=X.env.cells) (acc:=[]) hf
  exact zbw hc
 ·rcases(f b hb).2.2.2.1 with z | z
  ·exact I.ok.noex b o e z
  ·exact absurd (Nat.lt_of_lt_of_le (Heap.lt_size (I.ok.bs b o e).1) z) (Nat.lt_irrefl _)
 ·rcases List.mem_cons.mp (I.stkSub b z) with q | q
  ·exact(f b hb).2.1 q
  ·exact(f b hb).2.2.1 q
 ·unfold inn at h2
  rw[List.getElem?_map] at h2
  cases q:m[i]? with
  | none=>rw[q] at h2;cases h2
  | some o=>
   rw[q] at h2
   cases o with
   | none=>cases h2
   | some j=>
    simp only[Option.map_some,Option.some.injEq] at h2
    have h2':σ[j]?=some (some v):=by
     cases z:σ[j]? with
     | none=>rw[z] at h2;cases h2
     | some a=>rw[z] at h2;simp at h2;rw[h2]
    obtain⟨hN,hfr⟩:=cs.cap i j x q h1
    have hfm:=PySem.mem_of_lookup hfr
    obtain⟨m0,hn0,hl⟩:=I.loc
    have hkind:=cs.free _ hfm rfl
    have hvis:Vis X.env.scope x:=hkind.elim (fun z=>.inr (.inl z)) (fun z=>.inr (.inr z))
    obtain⟨u,ru,lu⟩:=hl j x v hN h2' hvis
    refine⟨u,ru,.inr ⟨?_,?_⟩⟩
    ·show(relabel scope X.env).names.lookup x=some .cell∨(relabel scope X.env).names.lookup x=some .free
     have e:(relabel scope X.env).names.lookup x=(scope.names.lookup x).map fun k=>if (k==NameKind.free&&X.env.scope.kind==.function&&X.env.kindOf x==some .cell) then NameKind.cell else k:=zch
     rw[e,hfr]
     simp only[Option.map_some]
     split
     ·exact .inl rfl
     ·exact .inr rfl
    ·rcases lu with⟨k,_⟩ | ⟨_,c,e,z⟩
     ·rcases hkind with z | z<;>· rw[k] at z;cases z
     ·obtain⟨c',hc'⟩:=zbw (zge (cells:=X.env.cells) (acc:=[]) hfm).choose_spec
      have:=hcl x c' hc'
      rw[e] at this
      cases this
      obtain⟨oc,hoc,hd⟩:=z
      exact⟨c,hc',oc,hk c oc hoc,hd⟩
 ·obtain⟨v,oc,hoc,hd⟩:=I.cell x c (hcl x c e)
  exact⟨v,oc,hk c oc hoc,hd⟩
 ·show(inn m σ).length=N'.length
  unfold inn
  rw[List.length_map,cs.len]
theorem zg5{use:Option (Value→Sem Unit)}{Q':Value→Shared→Prop}{pins:List (Addr×Obj)}{s:Shared}{σ:St}{H:Hp}{Q:VK}
  (hc:X.calm=true) (cs:CompScope X N' m scope) (hi:PI X tg iter wi) (hg:∀s3 H3 ex,PG (cxC X N' scope s3 H3 ex) tg (g s3 H3 ex)) (ht:∀s3 H3 ex,PTs (cxC X N' scope s3 H3 ex) ifs (tc s3 H3 ex))
  (he:∀s3 H3 ex,PE (cxC X N' scope s3 H3 ex) elt (te s3 H3 ex)) (I:Inv X pins σ H s) (h:zlP wi m g tc te σ H Q)
  (fin:∀D C s' H',Inv X pins σ H' s'→FpOk X pins H' C→(∃m,s'.heap.Ns C m)→Q (.ref D) H'→compPost (model X.prog X.w) X.A X.xe use Q' (.ref D) C (.ok .next) s') :
  wpAny (model X.prog X.w) X.A (eval iter X.env) (fun x s₁=>wpAny (model X.prog X.w) X.A (pyIter x) (fun it s₂=>wpAny (model X.prog X.w) X.A (newList []) (fun acc s₃=>
   wpAny (model X.prog X.w) X.A (newFunctionEnv scope X.env.globals (zhU X.env.cells scope.names []) [] X.env.qual none .none (some X.env)) (fun cenv s₄=>
    codeAny (model X.prog X.w) X.A (.compStart (.ListComp elt [⟨tg,iter,ifs,0⟩] scope pos) 0 it acc { cenv with scope:=relabel scope X.env }) (compPost (model X.prog X.w) X.A X.xe use Q' acc cenv.locals) s₄) X.xe s₃) X.xe s₂) X.xe s₁) X.xe s:=by
 refine thn (hi pins s σ H _ I h) fun v s1 h1=>thn h1 fun itv s2 h2=>?_
 obtain⟨it,fp,tn,J,H2,e,I2,T,st2,f2,h⟩:=h2
 subst e
 refine wpAny_newObj_type (wpAny_newFunctionEnv cs.nocell (by intro y hy;simp at hy) (fun h₁ hns₁ hsb₁=>?_) cs.kind)
 have hf:H2 s2.heap.objs.size=none:=I2.hok.fresh (Nat.le_refl _)
 obtain⟨W,⟨k0,w0⟩,turn⟩:=h s2.heap.objs.size hf { s2 with heap:=s2.heap.push { cls:=.type "list",data:=.seq ([]:List Value).toArray } } fp
 have I3:Inv X pins σ (upd H2 s2.heap.objs.size (.lst [])) { s2 with heap:=s2.heap.push { cls:=.type "list",data:=.seq ([]:List Value).toArray } }:=I2.lnew (its:=[]) (t':=s2.toks) .nil (by simp)
 have fpO:∀b∈fp,b<s2.heap.objs.size:=fun b hb=>by
  obtain⟨o,e,_⟩:=T.obj _ _ st2 b hb
  exact Heap.lt_size e
 have f3:∀b∈fp,FpOk X pins (upd H2 s2.heap.objs.size (.lst [])) b:=fun b hb=>⟨by rw[zar (Nat.ne_of_lt (fpO b hb))];exact(f2 b hb).1,(f2 b hb).2⟩
 generalize hs3:({ s2 with heap:=s2.heap.push { cls:=.type "list",data:=.seq ([]:List Value).toArray } }:Shared)=s3 at *
 have hC:s3.heap.objs.size=s2.heap.objs.size+1:=by rw[←hs3];exact Heap.size_push ..
 have fp3:∀b∈fp,b<s3.heap.objs.size:=fun b hb=>by rw[hC];exact Nat.lt_succ_of_lt (fpO b hb)
 have k3:∀b o,s2.heap.get? b=some o→s3.heap.get? b=some o:=fun b o e=>by rw[←hs3];exact Heap.get?_push_of_some _ e
 have k1:∀b o,s3.heap.get? b=some o→h₁.get? b=some o:=fun b o e=>hsb₁.extBut b o (Nat.ne_of_lt (Heap.lt_size e)) (Heap.get?_push_of_some _ e)
 have J0:=zlQ (tk:=s3.toks+([]:List (Str×Value)).length) cs I3 f3 fp3 hns₁ k1
 have st1:tn 0 h₁:=T.keep _ _ _ st2 fun b _ o e=>k1 b o (k3 b o e)
 have fpY:∀{H':Hp},(∀b∈fp,H' b=none)→∀b∈fp,FpOk (cxC X N' scope s3 (upd H2 s2.heap.objs.size (.lst [])) fp) [] H' b:=fun hn b hb=>
  ⟨hn b hb,Nat.ne_of_lt (fp3 b hb),J0.ok.exfs b hb,.inl hb,(J0.ok.exf b hb).2,fun p hp=>by cases hp⟩
 have hfr:∀b∈fp,(upd H2 s2.heap.objs.size (.lst [])) b=none:=fun b hb=>(f3 b hb).1
 have loop:codeAny (model X.prog X.w) X.A (.compLoop (.ListComp elt [⟨tg,iter,ifs,0⟩] scope pos) 0 (.ref it) (.ref s2.heap.objs.size) (compEnvC scope (zhU X.env.cells scope.names []) s3.heap.objs.size X.env))
   (compPost (model X.prog X.w) X.A X.xe use Q' (.ref s2.heap.objs.size) s3.heap.objs.size) { s3 with heap:=h₁,toks:=s3.toks+([]:List (Str×Value)).length }:=by
  refine zhW (fun n s'=>∃i σ' H',Inv (cxC X N' scope s3 (upd H2 s2.heap.objs.size (.lst [])) fp) [] σ' H' s'∧tn i s'.heap∧(∀b∈fp,H' b=none)∧W i n σ' H') ?_ k0 ⟨0,_,_,J0,st1,hfr,w0⟩
  rintro n s4 ⟨i,σ4,H4,I4,st4,fr4,w4⟩
  rcases turn i n σ4 H4 w4 with⟨stop,qn⟩ | ⟨go,N,hN,step⟩
  ·refine thn (T.done (cxC X N' scope s3 (upd H2 s2.heap.objs.size (.lst [])) fp) rfl rfl rfl hc i [] s4 σ4 H4 _ I4 (fpY fr4) st4 stop) fun r s5 ⟨hr,I5⟩=>?_
   subst hr
   have hch:∀b∈fp,(b∈X.ex∨X.s₀.heap.objs.size≤b)∧b≠X.env.locals∧(∀x c,X.env.cells.lookup x=some c→c≠b)∧∀p∈X.pn++pins,p.1≠b:=fun b hb=>⟨(f2 b hb).2.2.2.1,(f2 b hb).2.1,(f2 b hb).2.2.2.2.1,(f2 b hb).2.2.2.2.2⟩
   have I6:Inv X pins σ H4 s5:=I3.call' (ch:=fp) I5.os I5.base I5.hok I5.bare hch
   obtain⟨m5,hn5,_⟩:=id I5.loc
   exact fin _ _ s5 H4 I6 (I3.fpOk (Nat.le_refl _) I5.free) ⟨m5,hn5⟩ qn
  ·refine thn (T.item (cxC X N' scope s3 (upd H2 s2.heap.objs.size (.lst [])) fp) rfl rfl rfl hc i [] s4 σ4 H4 _ I4 (fpY fr4) st4 go) fun r s5 ⟨u,hr,h5⟩=>?_
   subst hr
   refine thn h5 fun _ s6 ⟨x,H6,I6,r6,y6,st6,fr6⟩=>?_
   have I6':=I6.pinned (fpY fr6) (T.obj _ _ st6)
   refine thn (hg _ _ _ _ s6 σ4 H6 x u _ I6' r6 (step x H6 y6)) fun _ s7 ⟨σ7,H7,I7,q7⟩=>?_
   refine thn (ht _ _ _ _ s7 σ7 H7 _ I7 q7) fun b s8 ⟨H8,I8,q8⟩=>?_
   have again:∀{s9:Shared} {σ9:St} {H9:Hp},Inv (cxC X N' scope s3 (upd H2 s2.heap.objs.size (.lst [])) fp) ([]++zgT fp s6.heap) σ9 H9 s9→N σ9 H9→∃m,m<n∧∃i σ' H',Inv (cxC X N' scope s3 (upd H2 s2.heap.objs.size (.lst [])) fp) [] σ' H' s9∧tn i s9.heap∧(∀b∈fp,H' b=none)∧W i m σ' H':=fun{s9 σ9 H9} I9 n9=>by
    obtain⟨m',hm,w9⟩:=hN σ9 H9 n9
    refine⟨m',hm,i+1,σ9,H9,I9.unpinned,T.keep _ _ _ st6 fun b hb o e=>(I9.pin (b,o) (List.mem_append_right _ (List.mem_append_right _ (zc1 hb e)))).1,fun b hb=>?_,w9⟩
    obtain⟨o,e,d⟩:=T.obj _ _ st6 b hb
    exact(I9.pin (b,o) (List.mem_append_right _ (List.mem_append_right _ (zc1 hb e)))).2.1
   cases b with
   | false=>exact again I8 q8
   | true=>
    rw[if_pos rfl]
    refine thn (he _ _ _ _ s8 σ7 H8 _ I8 q8) fun y s9 ⟨v9,H9,I9,r9,xs,hD,hz,q9⟩=>?_
    refine thn (zg4 _ s9 σ7 H9 (.ref s2.heap.objs.size) [v9] (.ref s2.heap.objs.size) [y] (fun _ H'=>N σ7 H') I9 rfl (.cons r9 .nil) ⟨_,xs,v9,rfl,rfl,hD,hz,q9⟩) fun _ s10 ⟨_,H10,I10,_,q10⟩=>?_
    exact again I10 q10
 exact codeAny_compStart_list loop (T.self _ 0 _ _ _ st1 loop)
theorem zny(hc:X.calm=true)(cs:CompScope X N' m scope)(hi:PI X tg iter wi)(hg:∀s3 H3 ex,PG (cxC X N' scope s3 H3 ex) tg (g s3 H3 ex))(ht:∀s3 H3 ex,PTs (cxC X N' scope s3 H3 ex) ifs (tc s3 H3 ex))
  (he:∀s3 H3 ex,PE (cxC X N' scope s3 H3 ex) elt (te s3 H3 ex)) (hs:∀x,foldedSetIterable iter X.env x=pure x:=by intro _;rfl):PE X (.ListComp elt [⟨tg,iter,ifs,0⟩] scope pos) (zlP wi m g tc te):=by
 intro pins s σ H Q I h
 rw[eval_ListComp]
 have hfree:∀y∈scope.names,y.2=.free→∃c,X.env.cells.lookup y.1=some c:=fun y hy hf=>I.ok.has y.1 (cs.free y hy hf)
 refine wpAny_comprehension_free (use:=none) rfl hs (zfX hfree) cs.kind cs.names (zg5 hc cs hi hg ht he I h fun D C s' H' I' fC ⟨mC,hn⟩ q=>?_)
 refine⟨mC,hn,fun h' sb=>⟨.ref D,H',I'.turned (t':=s'.toks) (fun b o hb e=>(sb.2 b hb).trans e) fC.1 fC.2.1 fC.2.2.2.1 fC.2.2.2.2.1 fC.2.2.2.2.2,rfl,q⟩⟩
theorem zj8{i:Nat}{x:Str}{pos' posS:Pos}(hN:X.N.Nodup)(hix:X.N[i]?=some x)(hx:Loc X.env.scope x)
  (hc:X.calm=true) (cs:CompScope X N' m scope) (hi:PI X tg iter wi) (hg:∀s3 H3 ex,PG (cxC X N' scope s3 H3 ex) tg (g s3 H3 ex)) (ht:∀s3 H3 ex,PTs (cxC X N' scope s3 H3 ex) ifs (tc s3 H3 ex))
  (he:∀s3 H3 ex,PE (cxC X N' scope s3 H3 ex) elt (te s3 H3 ex)) (hs:∀x,foldedSetIterable iter X.env x=pure x:=by intro _;rfl)
  (hsw:swapsWith (.ListComp elt [⟨tg,iter,ifs,0⟩] scope pos) (some (.Name x pos')) posS.line X.env=pure true:=by rfl)
  (hf:X.fn x=true∨X.env.scope.names.lookup x=some .local:=by first | exact .inl rfl | exact .inr rfl | assumption) :
  PS X (.Assign [.Name x pos'] (.ListComp elt [⟨tg,iter,ifs,0⟩] scope pos) posS) (zp2 (zlP wi m g tc te) (znd i)):=by
 intro pins s σ H D I h
 have hfree:∀y∈scope.names,y.2=.free→∃c,X.env.cells.lookup y.1=some c:=fun y hy hf=>I.ok.has y.1 (cs.free y hy hf)
 rw[exec_Assign_Name_used _ _ _ _ hsw]
 refine wpAny_bind (wpAny_standAt (wpAny_bind ?_))
 show wpAny _ _ (do let _ ←comprehension (.ListComp elt [⟨tg,iter,ifs,0⟩] scope pos) scope X.env _ (newList []) false (eval iter X.env) (some (assign (.Name x pos') X.env))) _ _ s
 refine wpAny_bind (wpAny_mono (wpAny_comprehension_free (use:=some (assign (.Name x pos') X.env)) (Q:=fun _ s'=>SP X pins D .next s') rfl hs (zfX hfree) cs.kind cs.names (zg5 hc cs hi hg ht he I h fun A C s' H' I' fC ⟨mC,hn⟩ q=>?_)) (fun _ s' hq=>wpAny_pure (wpAny_pure hq)) fun _ _ e=>e)
 show wpAny _ _ (assign (.Name x pos') X.env (.ref A)) _ _ _
 refine wpAny_assign_Name (zgS I' hN hix hx (show RelV (.ref A) (.ref A) from rfl) (fun s2 I2 hsb=>?_) hf)
 obtain⟨a,sba,ha⟩:=hsb
 have hCa:C≠a:=by
  rcases ha with rfl | ha
  ·exact fC.2.1
  ·exact fun z=>fC.2.2.2.2.1 x a ha z.symm
 refine⟨mC,hn.sameBut sba hCa,fun h' sb=>⟨_,H',I2.turned (t':=s2.toks) (fun b o hb e=>(sb.2 b hb).trans e) fC.1 fC.2.1 fC.2.2.2.1 fC.2.2.2.2.1 fC.2.2.2.2.2,q⟩⟩
end
end L2
namespace L2
open PySem PySem.Spec PyProof.Rows
theorem zj9:2≤sizeLine:=by decide
theorem Inv.turnedS{X:Cx}{pins:List (Addr×Obj)}{σ:St}{H:Hp}{s:Shared}{h':Heap}{t':Nat}{fp:List Addr}(I:Inv X pins σ H s)(k:∀b o,b∉fp→s.heap.get? b=some o→h'.get? b=some o)(f:∀b∈fp,FpOk X pins H b) :
  Inv X pins σ H { s with heap:=h',toks:=t' }:=by
 have nit:∀b u,H b=some u→b∉fp:=fun b u e z=>by rw[(f b z).1] at e;cases e
 refine I.step (g':=s.gens) (d':=s.drawn) (ch:=fp) (fun b hb=>⟨(f b hb).2.2.2.1,(f b hb).2.1,(f b hb).2.2.2.2.1,(f b hb).2.2.2.2.2⟩) (fun b o _ _ hc e _=>k b o hc e) (fun b o _ _ hc e _=>⟨o.slots,k b o hc e⟩) (fun _ _ _ _ n=>n)
  (fun b o hc e=>⟨o,k b o hc e⟩) (fun _ _ e=>e) (fun _ _ _ e=>e) (fun b ps e=>⟨#[],by rw[e];simp⟩) (fun m hm=>?_) (fun b u e=>?_) I.bare
 ·obtain⟨o,es,ep,ho,r⟩:=hm
  exact⟨o,es,ep,k _ o (fun z=>(f _ z).2.1 rfl) ho,r⟩
 ·refine(I.hok b u e).stay (fun c v hc q=>k c v ?_ q) (fun _ q=>q) fun _ _ q=>q
  rcases hc with z | z
  ·rw[z];exact nit b u e
  ·exact nit c _ z
theorem Inv.turnedNew{X:Cx}{pins:List (Addr×Obj)}{σ:St}{H:Hp}{s:Shared}{h':Heap}{t':Nat}{fp:List Addr}{a:Addr}{o:HO}(I:Inv X pins σ H s)(k:∀b o,b∉fp→s.heap.get? b=some o→h'.get? b=some o)(f:∀b∈fp,FpOk X pins H b)
  (hp:s.heap.objs.size≤a) (new:ObjOk X.prog X.w (upd H a o) h' a o):Inv X pins σ (upd H a o) { s with heap:=h',toks:=t' }:=by
 have hfree:H a=none:=I.hok.fresh hp
 have nit:∀b u,H b=some u→b∉fp:=fun b u e z=>by rw[(f b z).1] at e;cases e
 refine I.step (g':=s.gens) (d':=s.drawn) (ch:=fp) (fun b hb=>⟨(f b hb).2.2.2.1,(f b hb).2.1,(f b hb).2.2.2.2.1,(f b hb).2.2.2.2.2⟩) (fun b o _ _ hc e _=>k b o hc e) (fun b o _ _ hc e _=>⟨o.slots,k b o hc e⟩)
  (fun b o _ q n=>by rw[zar (Nat.ne_of_lt (Nat.lt_of_lt_of_le (Heap.lt_size q) hp))];exact n)
  (fun b o hc e=>⟨o,k b o hc e⟩) (fun b zs q=>by rw[zar (zat q hfree)];exact q) (fun b ob zs q=>by rw[zar (zat q hfree)];exact q) (fun b ps q=>⟨#[],by rw[zar (zat q hfree),q];simp⟩) (fun m hm=>?_) (fun b u q=>?_) I.bare
 ·obtain⟨o,es,ep,ho,r⟩:=hm
  exact⟨o,es,ep,k _ o (fun z=>(f _ z).2.1 rfl) ho,r⟩
 ·by_cases hb:b=a
  ·subst hb;rw[zau] at q;cases q;exact new
  ·rw[zar hb] at q
   refine(I.hok b u q).stay (fun c v hc z=>k c v ?_ z) (fun c z=>by rw[zar (zat z hfree)];exact z) fun c zs z=>by rw[zar (zat z hfree)];exact z
   rcases hc with rfl | hc
   ·exact nit _ _ q
   ·exact nit _ _ hc
noncomputable def Its(x:Str):It:=⟨fun i _=>i<x.cps.size,fun i H v H'=>H'=H∧∃c,x.cps[i]?=some c∧v=.str ⟨#[c]⟩,fun i _=>i=x.cps.size⟩
theorem zlR{P:Program}{w:World}{K:PySem.W.Frag}{tg:Expr}{x:Str}{it:Addr}{n:String}{t:Tok}(hn:["enumerate","zip","dict_itemiterator","dict_reverseitemiterator","odict_iterator","itertools.zip_longest","itertools.pairwise"].contains n=false)
  (W:∀A':Around,A'.handled=none→Walks P w A' it [it] [it] x.cps.size (SignAt x) (fun i h=>h.IsStrIter it n x t i))
  (hs:∀(A:Around) (i:Nat) (s:Shared) (Q:Value→Shared→Prop) (E:Value→Shared→Prop),s.heap.IsStrIter it n x t i→Q (.ref it) s→wpAny (model P w) A (pyIter (.ref it)) Q E s):Turn P w K tg (Its x) [it] it (fun i h=>h.IsStrIter it n x t i) where
 mem:=by simp
 obj:=fun i h st b hb=>by
  have e:b=it:=by simpa using hb
  subst e
  obtain⟨o,e,c,d⟩:=st
  exact⟨o,e,fun v z=>by rw[d] at z;cases z⟩
 keep:=fun i h h' st k=>by
  obtain⟨o,e,r⟩:=st
  exact⟨o,k it (by simp) o e,r⟩
 item:=by
  intro X hP hw hK hc i pins s σ H E I hf st hg
  subst hP hw hK
  refine(W X.A (I.ok.hd hc)).item i s _ _ hg st fun v h' tk hv st' kk=>?_
  obtain⟨c,u,hx,rfl⟩:=hv
  have I1:Inv X pins σ H { s with heap:=h',toks:=tk }:=I.turnedS kk hf
  obtain⟨o,e,c',d⟩:=id st'
  exact⟨_,rfl,zlG (s:={ s with heap:=h',toks:=tk }) e c' d hn ⟨.str ⟨#[c]⟩,H,I1,⟨u,rfl⟩,⟨rfl,c,hx,rfl⟩,st',fun b hb=>(hf b hb).1⟩⟩
 done:=by
  intro X hP hw hK hc i pins s σ H E I hf st hg
  subst hP hw hK
  have e:i=x.cps.size:=hg
  subst e
  exact(W X.A (I.ok.hd hc)).done s _ _ st fun h' tk kk=>⟨rfl,I.turnedS kk hf⟩
 self:=hs
section
variable {X:Cx} {tg:Expr}
theorem zoQ{pins:List (Addr×Obj)}{σ:St}{H:Hp}{s:Shared}{R:It→Hp→Prop}{E:Value→Shared→Prop}{x:Str}{t:Tok}(I:Inv X pins σ H s)(q:R (Its x) H) :
  wpAny (model X.prog X.w) X.A (pyIter (.str x t)) (PIE X pins σ tg R) E s:=by
 have fin:∀(o:Obj) (n:String),(hn:["enumerate","zip","dict_itemiterator","dict_reverseitemiterator","odict_iterator","itertools.zip_longest","itertools.pairwise"].contains n=false)→
   (W:∀A':Around,A'.handled=none→Walks X.prog X.w A' s.heap.objs.size [s.heap.objs.size] [s.heap.objs.size] x.cps.size (SignAt x) (fun i h=>h.IsStrIter s.heap.objs.size n x t i))→
   (hs:∀(A:Around) (i:Nat) (s':Shared) (Q:Value→Shared→Prop) (E:Value→Shared→Prop),s'.heap.IsStrIter s.heap.objs.size n x t i→Q (.ref s.heap.objs.size) s'→wpAny (model X.prog X.w) A (pyIter (.ref s.heap.objs.size)) Q E s')→
   (s.heap.push o).IsStrIter s.heap.objs.size n x t 0→PIE X pins σ tg R (.ref s.heap.objs.size) { s with heap:=s.heap.push o }:=fun o n hn W hs st=>by
  refine⟨s.heap.objs.size,[s.heap.objs.size],_,_,H,rfl,I.kept (t':=s.toks) fun b o e=>Heap.get?_push_of_some _ e,zlR hn W hs,st,fun b hb=>?_,q⟩
  have e:b=s.heap.objs.size:=by simpa using hb
  subst e
  exact I.fpOk (Nat.le_refl _) (I.hok.fresh (Nat.le_refl _))
 cases ha:x.cps.all (·<128)
 ·exact wpAny_pyIter_wide ha (fin _ _ (by decide) (fun A' hA=>Walks.strWide hA _ x t) (fun _ _ _ _ _ st q=>wpAny_pyIter_striter_wide st q) ⟨_,Heap.get?_push_size _ rfl,rfl,rfl⟩)
 ·exact wpAny_pyIter_ascii ha (fin _ _ (by decide) (fun A' hA=>Walks.strAscii hA _ x t) (fun _ _ _ _ _ st q=>wpAny_pyIter_striter_ascii st q) ⟨_,Heap.get?_push_size _ rfl,rfl,rfl⟩)
noncomputable def zq1(K:PySem.W.Frag)(tl:TE):TI:=fun σ H R=>tl σ H fun x H1=>(∃a,x=.ref a∧(∃xs,SqL K H1 a xs)∧R (Itl K a) H1)∨(∃a,x=.ref a∧(∃xs,SqT K H1 a xs)∧R (Itt K a) H1)∨(∃z,x=.str z∧R (Its z) H1)
theorem zoR{l:Expr}{tl:TE}(hl:PE X l tl):PI X tg l (zq1 X.K tl):=by
 intro pins s σ H R I h
 refine thn (hl pins s σ H _ I h) fun v s1 ⟨x,H1,I1,r1,q1⟩=>?_
 rcases q1 with⟨a,e,⟨xs,hq⟩,q⟩ | ⟨a,e,⟨xs,hq⟩,q⟩ | ⟨z,e,q⟩
 ·subst e
  cases r1
  obtain⟨its,rv,p,hz⟩:=I1.list hq
  refine wpAny_pyIter_list p.isList ?_
  refine⟨s1.heap.objs.size,[s1.heap.objs.size],_,_,H1,rfl,I1.kept (t':=s1.toks) fun b o e=>Heap.get?_push_of_some _ e,zjQ a _,⟨_,Heap.get?_push_size _ rfl,rfl,rfl⟩,fun b hb=>?_,q⟩
  have e:b=s1.heap.objs.size:=by simpa using hb
  subst e
  exact I1.fpOk (Nat.le_refl _) (I1.hok.fresh (Nat.le_refl _))
 ·subst e
  cases r1
  obtain⟨its,rv,p,hz⟩:=I1.tuple hq
  refine wpAny_pyIter_tuple (show s1.heap.IsTuple a its.toArray from p) ?_
  refine⟨s1.heap.objs.size,[s1.heap.objs.size],_,_,H1,rfl,I1.kept (t':=s1.toks) fun b o e=>Heap.get?_push_of_some _ e,zi2 a _,⟨_,Heap.get?_push_size _ rfl,rfl,rfl⟩,fun b hb=>?_,q⟩
  have e:b=s1.heap.objs.size:=by simpa using hb
  subst e
  exact I1.fpOk (Nat.le_refl _) (I1.hok.fresh (Nat.le_refl _))
 ·subst e
  obtain⟨t,rfl⟩:=r1
  exact zoQ I1 q
end
noncomputable def Ite(K:PySem.W.Frag)(a:Addr):It:=
 ⟨fun i H=>∃xs x,SqL K H a xs∧xs[i]?=some x,fun i H v H'=>∃t,v=.ref t∧H t=none∧∀xs,SqL K H a xs→∃x,xs[i]?=some x∧H'=upd H t (.tup [.int i,x]),fun i H=>∃xs,SqL K H a xs∧xs.length≤i⟩
noncomputable def Itz(K:PySem.W.Frag)(a b:Addr):It:=
 ⟨fun i H=>∃xs ys x y,SqL K H a xs∧SqL K H b ys∧xs[i]?=some x∧ys[i]?=some y,fun i H v H'=>∃t,v=.ref t∧H t=none∧∀xs ys,SqL K H a xs→SqL K H b ys→∃x y,xs[i]?=some x∧ys[i]?=some y∧H'=upd H t (.tup [x,y]),
  fun i H=>∃xs ys,SqL K H a xs∧SqL K H b ys∧(xs.length≤i∨ys.length≤i)⟩
theorem zka{H:Hp}{t:Addr}{o:HO}{fp:List Addr}(h:∀b∈fp,H b=none)(ht:∀b∈fp,b≠t):∀b∈fp,upd H t o b=none:=fun b hb=>by rw[zar (ht b hb)];exact h b hb
theorem zjb{prog:Program}{w:World}{A:Around}{E:Value→Shared→Prop}{s:Shared}{elts:List Expr}{x1}{pos:Pos}{e it T:Addr}{i:Int}{old:Value}{Q:Unit→Shared→Prop}(he:IsEnumOut s.heap e it i old T)
  (hQ:∀h',IsEnum h' e it i old→Heap.SameBut e s.heap h'→Q () { s with heap:=h' }) :
  wpAny (model prog w) A (letOwnedTupleGo (.Tuple elts x1 pos) (.ref e) (.ref T)) Q E s:=by
 unfold letOwnedTupleGo
 refine wpAny_bind (wpAny_load he ?_)
 show wpAny _ _ (if (["enumerate","zip","dict_itemiterator","dict_reverseitemiterator","odict_iterator","itertools.zip_longest","itertools.pairwise"].contains "enumerate" &&
   (#[rawInt T,.bool false,.ref it,rawInt i,.none,old]:Array Value)[0]?==some (rawInt T))=true then _ else _) Q E s
 rw[if_pos (by simp)]
 refine wpAny_bind (wpAny_rule ?_)
 show wpAny _ _ (setField (.ref e) 0 .none) Q E s
 exact wpAny_setField_rec he (by simp) fun h' hz' hs'=>hQ h' hz' hs'
theorem zkb{P:Program}{w:World}{K:PySem.W.Frag}{elts:List Expr}{x1}{pos:Pos}(a e it:Addr)(hne:e≠it):Turn P w K (.Tuple elts x1 pos) (Ite K a) [e,it] e (fun i h=>(∃old,IsEnum h e it i old)∧h.IsListIter it a i) where
 mem:=by simp
 obj:=fun i h st b hb=>by
  obtain⟨⟨old,h1⟩,o,h2,c,d⟩:=st
  rcases List.mem_cons.mp hb with rfl | hb
  ·exact⟨_,h1,fun v z=>by have z':Data.fields _=Data.cell v:=z;cases z'⟩
  ·have e:b=it:=by simpa using hb
   subst e
   exact⟨o,h2,fun v z=>by rw[d] at z;cases z⟩
 keep:=fun i h h' st k=>by
  obtain⟨⟨old,h1⟩,h2⟩:=st
  exact⟨⟨old,k e (by simp) _ h1⟩,h2.at fun o q=>k it (by simp) o q⟩
 item:=by
  intro X hP hw hK hc i pins s σ H E I hf st hg
  subst hP hw hK
  obtain⟨xs,x,hq,hx⟩:=hg
  obtain⟨its,rv,p,hz⟩:=I.list hq
  obtain⟨u,hu,ru⟩:=rv.get hx
  obtain⟨⟨old,h1⟩,h2⟩:=st
  refine wpAny_pyNext_enum_item h1 h2 p.isList (x:=u) (by simpa using hu) hne fun h' e1 e2 e3 e4 kk=>?_
  refine⟨_,rfl,zjb e1 fun h'' e5 sb=>?_⟩
  have hte:s.heap.objs.size≠e:=Nat.ne_of_gt (Heap.lt_size h1)
  have hti:s.heap.objs.size≠it:=by obtain⟨o,q,_⟩:=h2;exact Nat.ne_of_gt (Heap.lt_size q)
  have hT:h''.get? s.heap.objs.size=some { cls:=.type "tuple",data:=.seq #[.int i s.toks,u] }:=sb.extBut _ _ hte e3
  have hfree:H s.heap.objs.size=none:=I.hok.fresh (Nat.le_refl _)
  have new:ObjOk X.prog X.w (upd H s.heap.objs.size (.tup [.int i,x])) h'' s.heap.objs.size (.tup [.int i,x]):=⟨zj9,[.int i s.toks,u],.cons ⟨_,rfl⟩ (.cons ru .nil),⟨_,hT,rfl,_,rfl⟩⟩
  refine⟨.ref s.heap.objs.size,upd H s.heap.objs.size (.tup [.int i,x]),I.turnedNew (fp:=[e,it]) (fun b o hb q=>sb.extBut b o (fun z=>hb (by simp[z])) (kk b o (fun z=>hb (by simp[z])) (fun z=>hb (by simp[z])) q)) hf (Nat.le_refl _) new,rfl,
   ⟨_,rfl,hfree,fun ys hy=>⟨x,by rw[I.list_inj hy hq];exact hx,rfl⟩⟩,⟨⟨u,e5⟩,e2.extBut sb.extBut (Ne.symm hne)⟩,zka (fun b hb=>(hf b hb).1) fun b hb=>?_⟩
  rcases List.mem_cons.mp hb with rfl | hb
  ·exact hte.symm
  ·have z:b=it:=by simpa using hb
   rw[z];exact hti.symm
 done:=by
  intro X hP hw hK hc i pins s σ H E I hf st hg
  subst hP hw hK
  obtain⟨xs,hq,hx⟩:=hg
  obtain⟨its,rv,p,hz⟩:=I.list hq
  obtain⟨⟨old,h1⟩,h2⟩:=st
  have hl:=rv.length
  exact wpAny_pyNext_enum_end (I.ok.hd hc) h1 h2 p.isList (by simp;omega) fun h' eb=>⟨rfl,I.turnedS (fp:=[e,it]) (t':=s.toks) (fun b o hb q=>eb b o (fun z=>hb (by simp[z])) q) hf⟩
 self:=fun _ _ _ _ _ st h=>by
  obtain⟨⟨old,h1⟩,_⟩:=st
  exact wpAny_pyIter_enum h1 h
end L2
namespace L2
open PySem PySem.Spec PyProof.Rows
section
variable {X:Cx} {elts:List Expr} {x1:Nat} {tpos:Pos}
noncomputable def zqg(K:PySem.W.Frag)(ta:TA):TI:=fun σ H R=>ta σ H fun vs H1=>∃a xs,vs=[.ref a]∧RdL K H1 a xs∧R (Ite K a) H1
theorem znz{a:Expr}{ta:TA}{p pos:Pos}(hg:Gl X "enumerate")(hm:X.mg "enumerate"=none)(ha:PA X [a] ta)(hs:starEach [a] X.env=[(false,eval a X.env)]:=by rfl):PI X (.Tuple elts x1 tpos) (.Call (.Name "enumerate" p) [a] [] pos) (zqg X.K ta):=by
 intro pins s σ H R I h
 refine Call_ (zc6 I hg hm boot_enumerate (PyProof.Rows.callWith_type1 (thn (ha pos pins s σ H _ I h) fun us s1 ⟨vs,H1,I1,r1,q1⟩=>?_) hs rfl))
 obtain⟨l,xs,e,hl,q⟩:=q1
 subst e
 obtain⟨u,rfl,ru⟩:=zcN r1
 cases ru
 obtain⟨z,its,n,r,e⟩:=I1.rdl hl
 refine call_enumerate_1 e fun h' e1 e2 e3 kk=>?_
 refine wpAny_pyIter_enum e1 ?_
 have hne:s1.heap.objs.size+1≠s1.heap.objs.size:=by omega
 refine⟨s1.heap.objs.size+1,[s1.heap.objs.size+1,s1.heap.objs.size],_,_,H1,rfl,I1.kept (t':=s1.toks) kk,zkb l _ _ hne,⟨⟨_,e1⟩,e2⟩,fun b hb=>?_,q⟩
 have hb':s1.heap.objs.size≤b:=by
  rcases List.mem_cons.mp hb with rfl | hb
  ·exact Nat.le_succ _
  ·have e:b=s1.heap.objs.size:=by simpa using hb
   exact Nat.le_of_eq e.symm
 exact I1.fpOk hb' (I1.hok.fresh hb')
theorem zis{P:Program}{w:World}{K:PySem.W.Frag}(a b z TI TO i1 i2:Addr)(D1:TI≠z∧TO≠z∧i1≠z∧i2≠z∧TI≠TO∧TI≠i1∧TI≠i2∧TO≠i1∧TO≠i2∧i1≠i2):Turn P w K (.Tuple elts x1 tpos) (Itz K a b) [z,TI,TO,i1,i2] z
  (fun i h=>IsZip h z TI TO .none∧IsPair h TI (.ref i1) (.ref i2)∧(∃a b,IsPair h TO a b)∧h.IsListIter i1 a i∧h.IsListIter i2 b i) where
 mem:=by simp
 obj:=fun i h st c hc=>by
  obtain⟨h1,h2,⟨u,v,h3⟩,⟨o1,g1,_,d1⟩,⟨o2,g2,_,d2⟩⟩:=st
  simp only[List.mem_cons,List.not_mem_nil,or_false] at hc
  rcases hc with rfl | rfl | rfl | rfl | rfl
  ·exact⟨_,h1,fun v z=>by have z':Data.fields _=Data.cell v:=z;cases z'⟩
  ·exact⟨_,h2,fun v z=>by have z':Data.seq _ _=Data.cell v:=z;cases z'⟩
  ·exact⟨_,h3,fun v z=>by have z':Data.seq _ _=Data.cell v:=z;cases z'⟩
  ·exact⟨_,g1,fun v z=>by rw[d1] at z;cases z⟩
  ·exact⟨_,g2,fun v z=>by rw[d2] at z;cases z⟩
 keep:=fun i h h' st k=>by
  obtain⟨h1,h2,⟨u,v,h3⟩,h4,h5⟩:=st
  exact⟨k z (by simp) _ h1,k TI (by simp) _ h2,⟨u,v,k TO (by simp) _ h3⟩,h4.at fun o q=>k i1 (by simp) o q,h5.at fun o q=>k i2 (by simp) o q⟩
 item:=by
  intro X hP hw hK hc i pins s σ H E I hf st hg
  subst hP hw hK
  obtain⟨xs,ys,x,y,hq,hq2,hx,hy⟩:=hg
  obtain⟨its,rv,p,hz⟩:=I.list hq
  obtain⟨its2,rv2,p2,hz2⟩:=I.list hq2
  obtain⟨u,hu,ru⟩:=rv.get hx
  obtain⟨v,hv,rw2⟩:=rv2.get hy
  obtain⟨h1,h2,⟨c,d,h3⟩,h4,h5⟩:=st
  obtain⟨d1,d2,d3,d4,d5,d6,d7,d8,d9,d10⟩:=D1
  have lne:∀{l:Addr} {its:List Value},PlainL s.heap l its.toArray→l≠z∧l≠TO∧l≠i1∧l≠i2:=fun{l its} pl=>by
   obtain⟨o,n,e,c1,_,dd⟩:=pl
   obtain⟨o1,g1,c4,_⟩:=h4
   obtain⟨o2,g2,c5,_⟩:=h5
   refine⟨?_,?_,?_,?_⟩
   ·rintro rfl;rw[h1] at e;cases e;simp at c1
   ·rintro rfl;rw[h3] at e;cases e;simp at c1
   ·rintro rfl;rw[g1] at e;cases e;rw[c4] at c1;simp at c1
   ·rintro rfl;rw[g2] at e;cases e;rw[c5] at c1;simp at c1
  obtain⟨e1,e2,e3,e4⟩:=lne p
  obtain⟨f1,f2,f3,f4⟩:=lne p2
  have D:ZipApart z TI TO i1 i2 a b:=⟨d1,d2,d3,d4,d5,d6,d7,d8,d9,d10,e1,e2,e3,e4,f1,f2,f3,f4⟩
  refine wpAny_pyNext_zip_item D h1 h2 h3 h4 h5 p.isList p2.isList (x:=u) (y:=v) (by simpa using hu) (by simpa using hv) fun h' a1 a2 a3 a4 a5 a6 kk=>?_
  refine⟨_,rfl,wpAny_letOwnedTupleGo_zip a1 fun h'' b1 sb=>?_⟩
  have hTz:s.heap.objs.size≠z:=Nat.ne_of_gt (Heap.lt_size h1)
  have hfree:H s.heap.objs.size=none:=I.hok.fresh (Nat.le_refl _)
  have hT:h''.get? s.heap.objs.size=some { cls:=.type "tuple",data:=.seq #[u,v] }:=sb.extBut _ _ hTz a5
  have new:ObjOk X.prog X.w (upd H s.heap.objs.size (.tup [x,y])) h'' s.heap.objs.size (.tup [x,y]):=⟨zj9,[u,v],.cons ru (.cons rw2 .nil),⟨_,hT,rfl,_,rfl⟩⟩
  have lt:∀{c o},s.heap.get? c=some o→c≠s.heap.objs.size:=fun e=>Nat.ne_of_lt (Heap.lt_size e)
  refine⟨.ref s.heap.objs.size,upd H s.heap.objs.size (.tup [x,y]),I.turnedNew (fp:=[z,TI,TO,i1,i2]) (t':=s.toks) (fun c o hc q=>sb.extBut c o (fun e=>hc (by simp[e])) (kk c o (fun e=>hc (by simp[e])) (fun e=>hc (by simp[e])) (fun e=>hc (by simp[e])) (fun e=>hc (by simp[e])) q)) hf (Nat.le_refl _) new,rfl,
   ⟨_,rfl,hfree,fun zs ws h6 h7=>⟨x,y,by rw[I.list_inj h6 hq];exact hx,by rw[I.list_inj h7 hq2];exact hy,rfl⟩⟩,
   ⟨b1,sb.extBut _ _ d1 (kk _ _ d1 d5 d6 d7 h2),⟨_,_,sb.extBut _ _ d2 a2⟩,a3.extBut sb.extBut d3,a4.extBut sb.extBut d4⟩,zka (fun b hb=>(hf b hb).1) fun c hc=>?_⟩
  simp only[List.mem_cons,List.not_mem_nil,or_false] at hc
  rcases hc with rfl | rfl | rfl | rfl | rfl
  ·exact lt h1
  ·exact lt h2
  ·exact lt h3
  ·obtain⟨_,g,_⟩:=h4;exact lt g
  ·obtain⟨_,g,_⟩:=h5;exact lt g
 done:=by
  intro X hP hw hK hc i pins s σ H E I hf st hg
  subst hP hw hK
  obtain⟨xs,ys,hq,hq2,hx⟩:=hg
  obtain⟨its,rv,p,hz⟩:=I.list hq
  obtain⟨its2,rv2,p2,hz2⟩:=I.list hq2
  obtain⟨h1,h2,⟨c,d,h3⟩,h4,h5⟩:=st
  obtain⟨d1,d2,d3,d4,d5,d6,d7,d8,d9,d10⟩:=D1
  have lne:∀{l:Addr} {its:List Value},PlainL s.heap l its.toArray→l≠z∧l≠TO∧l≠i1∧l≠i2:=fun{l its} pl=>by
   obtain⟨o,n,e,c1,_,dd⟩:=pl
   obtain⟨o1,g1,c4,_⟩:=h4
   obtain⟨o2,g2,c5,_⟩:=h5
   refine⟨?_,?_,?_,?_⟩
   ·rintro rfl;rw[h1] at e;cases e;simp at c1
   ·rintro rfl;rw[h3] at e;cases e;simp at c1
   ·rintro rfl;rw[g1] at e;cases e;rw[c4] at c1;simp at c1
   ·rintro rfl;rw[g2] at e;cases e;rw[c5] at c1;simp at c1
  obtain⟨e1,e2,e3,e4⟩:=lne p
  obtain⟨f1,f2,f3,f4⟩:=lne p2
  have D:ZipApart z TI TO i1 i2 a b:=⟨d1,d2,d3,d4,d5,d6,d7,d8,d9,d10,e1,e2,e3,e4,f1,f2,f3,f4⟩
  have l1:=rv.length
  have l2:=rv2.length
  have hend:its.toArray[i]?=none∨its2.toArray[i]?=none:=by
   rcases hx with hx | hx
   ·exact .inl (by simp;omega)
   ·exact .inr (by simp;omega)
  exact wpAny_pyNext_zip_end (I.ok.hd hc) D h1 h2 h3 h4 h5 p.isList p2.isList hend fun h' kk=>⟨rfl,I.turnedS (fp:=[z,TI,TO,i1,i2]) (t':=s.toks) (fun c o hc q=>kk c o (fun e=>hc (by simp[e])) (fun e=>hc (by simp[e])) (fun e=>hc (by simp[e])) (fun e=>hc (by simp[e])) q) hf⟩
 self:=fun _ _ _ _ _ st h=>wpAny_pyIter_zip st.1 h
theorem zeR(n:Nat):(n+2:Nat)≠n+4∧(n+3:Nat)≠n+4∧n≠n+4∧(n+1:Nat)≠n+4∧(n+2:Nat)≠n+3∧(n+2:Nat)≠n∧(n+2:Nat)≠n+1∧(n+3:Nat)≠n∧(n+3:Nat)≠n+1∧n≠n+1:=by omega
noncomputable def zq2(K:PySem.W.Frag)(ta:TA):TI:=fun σ H R=>ta σ H fun vs H1=>∃a b,vs=[.ref a,.ref b]∧(∃xs,SqL K H1 a xs)∧(∃ys,SqL K H1 b ys)∧R (Itz K a b) H1
theorem zoS{a b:Expr}{ta:TA}{p pos:Pos}(hg:Gl X "zip")(hm:X.mg "zip"=none)(ha:PA X [a,b] ta)(hs:starEach [a,b] X.env=[(false,eval a X.env),(false,eval b X.env)]:=by rfl)(hs2:starEach [b] X.env=[(false,eval b X.env)]:=by rfl) :
  PI X (.Tuple elts x1 tpos) (.Call (.Name "zip" p) [a,b] [] pos) (zq2 X.K ta):=by
 intro pins s σ H R I h
 refine Call_ (zc6 I hg hm boot_zip (PyProof.Rows.callWith_type1 (thn (ha pos pins s σ H _ I h) fun us s1 ⟨vs,H1,I1,r1,q1⟩=>?_) (by rw[hs,hs2]) (by rw[hs2];rfl)))
 obtain⟨l,l',e,⟨xs,hl⟩,⟨ys,hl'⟩,q⟩:=q1
 subst e
 obtain⟨u,v,rfl,ru,rv⟩:=zgc r1
 cases ru
 cases rv
 obtain⟨its,_,p1,_⟩:=I1.list hl
 obtain⟨its',_,p2,_⟩:=I1.list hl'
 refine call_zip_2 p1.isList p2.isList fun h' e1 e2 e3 e4 e5 e6 kk=>?_
 refine wpAny_pyIter_zip e1 ?_
 refine⟨s1.heap.objs.size+4,[s1.heap.objs.size+4,s1.heap.objs.size+2,s1.heap.objs.size+3,s1.heap.objs.size,s1.heap.objs.size+1],_,_,H1,rfl,I1.kept (t':=s1.toks) kk,zis l l' _ _ _ _ _ (zeR _),
  ⟨e1,e2,⟨_,_,e3⟩,e4,e5⟩,fun b hb=>?_,q⟩
 have hb':s1.heap.objs.size≤b:=by
  simp only[List.mem_cons,List.not_mem_nil,or_false] at hb
  rcases hb with rfl | rfl | rfl | rfl | rfl<;>first | exact Nat.le_add_right _ _ | exact Nat.le_refl _
 exact I1.fpOk hb' (I1.hok.fresh hb')
end
end L2
namespace L2
open PySem PySem.Spec PyProof.Rows
inductive D where
 | non | bl (b:Bool) | int (i:Int) | str (x:Str) | tup (ds:List D) | lst (ds:List D) | obj (cn:Str) (fs:List (Str×D)) | dic (kvs:List (Key×D)) | dit (kvs:List (List Key×D))
structure ClsAt (K:PySem.W.Frag) (cn:Str) (C:Addr):Prop where
 at_:PySem.W.nsIn K mainGlobals cn=some (some (.ref C))
 cls:Cls K C
noncomputable def KeyIn(H:Hp):List (List Key×V)→List Addr→Prop
 | [],[]=>True
 | p::ps,b::bs=>H b=some (.tup (p.1.map kV))∧KeyIn H ps bs
 | _,_=>False
theorem KeyIn.mono{H H':Hp}(e:Same H H'):∀{ps:List (List Key×V)} {bs:List Addr},KeyIn H ps bs→KeyIn H' ps bs
 | [],[],h=>h
 | p::ps,b::bs,h=>⟨e _ _ h.1,KeyIn.mono e h.2⟩
 | [],_::_,h=>h.elim
 | _::_,[],h=>h.elim
mutual
noncomputable def Rep(K:PySem.W.Frag)(H:Hp):V→D→Prop
 | v,.non=>v=.non
 | v,.bl b=>v=.bl b
 | v,.int i=>v=.int i
 | v,.str x=>v=.str x
 | v,.tup ds=>∃a xs,v=.ref a∧SqT K H a xs∧Reps K H xs ds
 | v,.lst ds=>∃a xs,v=.ref a∧RdL K H a xs∧Reps K H xs ds
 | v,.obj cn fs=>∃a C dx gs,v=.ref a∧H a=some (.ins C dx gs)∧ClsAt K cn C∧(∀p∈fs,NoAttr K C p.1)∧RepF K H gs fs
 | v,.dic kvs=>∃a ks ep,v=.ref a∧H a=some (.dK ks ep)∧RepK K H ks kvs
 | v,.dit kvs=>∃a ks bs,v=.ref a∧H a=some (.dT ks bs)∧KeyIn H ks bs∧RepT K H ks kvs
noncomputable def Reps(K:PySem.W.Frag)(H:Hp):List V→List D→Prop
 | [],[]=>True
 | v::vs,d::ds=>Rep K H v d∧Reps K H vs ds
 | _,_=>False
noncomputable def RepF(K:PySem.W.Frag)(H:Hp):List (Str×V)→List (Str×D)→Prop
 | [],[]=>True
 | v::vs,d::ds=>(v.1=d.1∧Rep K H v.2 d.2)∧RepF K H vs ds
 | _,_=>False
noncomputable def RepK(K:PySem.W.Frag)(H:Hp):List (Key×V)→List (Key×D)→Prop
 | [],[]=>True
 | v::vs,d::ds=>(v.1=d.1∧Rep K H v.2 d.2)∧RepK K H vs ds
 | _,_=>False
noncomputable def RepT(K:PySem.W.Frag)(H:Hp):List (List Key×V)→List (List Key×D)→Prop
 | [],[]=>True
 | v::vs,d::ds=>(v.1=d.1∧Rep K H v.2 d.2)∧RepT K H vs ds
 | _,_=>False
end
theorem Same.seqT{K:PySem.W.Frag}{H H':Hp}{a:Addr}{xs:List V}(e:Same H H')(h:SqT K H a xs):SqT K H' a xs:=by
 rcases h with(h | ⟨o,h⟩) | h
 ·exact .inl (.inl (e _ _ h))
 ·exact .inl (.inr ⟨o,e _ _ h⟩)
 ·exact .inr h
mutual
theorem Rep.mono{K:PySem.W.Frag}{H H':Hp}(e:Same H H'):∀(v:V) (d:D),Rep K H v d→Rep K H' v d
 | v,.non,h=>by simpa only[Rep] using h
 | v,.bl b,h=>by simpa only[Rep] using h
 | v,.int i,h=>by simpa only[Rep] using h
 | v,.str x,h=>by simpa only[Rep] using h
 | v,.tup ds,h=>by
  simp only[Rep] at h ⊢
  obtain⟨a,xs,h1,h2,h3⟩:=h
  exact⟨a,xs,h1,e.seqT h2,Reps.mono e xs ds h3⟩
 | v,.lst ds,h=>by
  simp only[Rep] at h ⊢
  obtain⟨a,xs,h1,h2,h3⟩:=h
  exact⟨a,xs,h1,e.rdl h2,Reps.mono e xs ds h3⟩
 | v,.obj cn fs,h=>by
  simp only[Rep] at h ⊢
  obtain⟨a,C,dx,gs,h1,h2,h3,h4,h5⟩:=h
  exact⟨a,C,dx,gs,h1,e _ _ h2,h3,h4,RepF.mono e gs fs h5⟩
 | v,.dic kvs,h=>by
  simp only[Rep] at h ⊢
  obtain⟨a,ks,ep,h1,h2,h3⟩:=h
  exact⟨a,ks,ep,h1,e _ _ h2,RepK.mono e ks kvs h3⟩
 | v,.dit kvs,h=>by
  simp only[Rep] at h ⊢
  obtain⟨a,ks,bs,h1,h2,h3,h4⟩:=h
  exact⟨a,ks,bs,h1,e _ _ h2,h3.mono e,RepT.mono e ks kvs h4⟩
theorem Reps.mono{K:PySem.W.Frag}{H H':Hp}(e:Same H H'):∀(vs:List V) (ds:List D),Reps K H vs ds→Reps K H' vs ds
 | [],[],h=>by simp only[Reps]
 | v::vs,d::ds,h=>by
  simp only[Reps] at h ⊢
  exact⟨Rep.mono e v d h.1,Reps.mono e vs ds h.2⟩
 | [],_::_,h=>by simp only[Reps] at h
 | _::_,[],h=>by simp only[Reps] at h
theorem RepF.mono{K:PySem.W.Frag}{H H':Hp}(e:Same H H'):∀(vs:List (Str×V)) (ds:List (Str×D)),RepF K H vs ds→RepF K H' vs ds
 | [],[],h=>by simp only[RepF]
 | (x,v)::vs,(y,d)::ds,h=>by
  simp only[RepF] at h ⊢
  exact⟨⟨h.1.1,Rep.mono e v d h.1.2⟩,RepF.mono e vs ds h.2⟩
 | [],_::_,h=>by simp only[RepF] at h
 | _::_,[],h=>by simp only[RepF] at h
theorem RepK.mono{K:PySem.W.Frag}{H H':Hp}(e:Same H H'):∀(vs:List (Key×V)) (ds:List (Key×D)),RepK K H vs ds→RepK K H' vs ds
 | [],[],h=>by simp only[RepK]
 | (x,v)::vs,(y,d)::ds,h=>by
  simp only[RepK] at h ⊢
  exact⟨⟨h.1.1,Rep.mono e v d h.1.2⟩,RepK.mono e vs ds h.2⟩
 | [],_::_,h=>by simp only[RepK] at h
 | _::_,[],h=>by simp only[RepK] at h
theorem RepT.mono{K:PySem.W.Frag}{H H':Hp}(e:Same H H'):∀(vs:List (List Key×V)) (ds:List (List Key×D)),RepT K H vs ds→RepT K H' vs ds
 | [],[],h=>by simp only[RepT]
 | (x,v)::vs,(y,d)::ds,h=>by
  simp only[RepT] at h ⊢
  exact⟨⟨h.1.1,Rep.mono e v d h.1.2⟩,RepT.mono e vs ds h.2⟩
 | [],_::_,h=>by simp only[RepT] at h
 | _::_,[],h=>by simp only[RepT] at h
end
section
variable {K:PySem.W.Frag} {H H':Hp}
theorem Reps.length:∀{vs:List V} {ds:List D},Reps K H vs ds→vs.length=ds.length
 | [],[],_=>rfl
 | v::vs,d::ds,h=>by
  simp only[Reps] at h
  simp only[List.length_cons,Reps.length h.2]
 | [],_::_,h=>by simp only[Reps] at h
 | _::_,[],h=>by simp only[Reps] at h
theorem Reps.get:∀{vs:List V} {ds:List D} {i:Nat} {d:D},Reps K H vs ds→ds[i]?=some d→∃v,vs[i]?=some v∧Rep K H v d
 | [],[],i,d,_,e=>by simp at e
 | v::vs,d'::ds,0,d,h,e=>by
  simp only[Reps] at h
  simp only[List.getElem?_cons_zero,Option.some.injEq] at e
  subst e
  exact⟨v,rfl,h.1⟩
 | v::vs,d'::ds,i+1,d,h,e=>by
  simp only[Reps] at h
  simp only[List.getElem?_cons_succ] at e ⊢
  exact Reps.get h.2 e
 | [],_::_,_,_,h,_=>by simp only[Reps] at h
 | _::_,[],_,_,h,_=>by simp only[Reps] at h
theorem Reps.getV:∀{vs:List V} {ds:List D} {i:Nat} {v:V},Reps K H vs ds→vs[i]?=some v→∃d,ds[i]?=some d∧Rep K H v d
 | [],[],i,d,_,e=>by simp at e
 | v'::vs,d::ds,0,v,h,e=>by
  simp only[Reps] at h
  simp only[List.getElem?_cons_zero,Option.some.injEq] at e
  subst e
  exact⟨d,rfl,h.1⟩
 | v'::vs,d::ds,i+1,v,h,e=>by
  simp only[Reps] at h
  simp only[List.getElem?_cons_succ] at e ⊢
  exact Reps.getV h.2 e
 | [],_::_,_,_,h,_=>by simp only[Reps] at h
 | _::_,[],_,_,h,_=>by simp only[Reps] at h
theorem Reps.nil:Reps K H [] []:=by simp only[Reps]
theorem Reps.cons{v:V}{vs:List V}{d:D}{ds:List D}(h:Rep K H v d)(hs:Reps K H vs ds):Reps K H (v::vs) (d::ds):=by simp only[Reps];exact⟨h,hs⟩
theorem Reps.append:∀{vs:List V} {ds:List D} {us:List V} {es:List D},Reps K H vs ds→Reps K H us es→Reps K H (vs++us) (ds++es)
 | [],[],_,_,_,h=>h
 | v::vs,d::ds,_,_,h,h'=>by
  simp only[Reps] at h
  exact Reps.cons h.1 (Reps.append h.2 h')
 | [],_::_,_,_,h,_=>by simp only[Reps] at h
 | _::_,[],_,_,h,_=>by simp only[Reps] at h
theorem Reps.take:∀{vs:List V} {ds:List D} (n:Nat),Reps K H vs ds→Reps K H (vs.take n) (ds.take n)
 | _,_,0,_=>Reps.nil
 | [],[],_+1,_=>Reps.nil
 | v::vs,d::ds,n+1,h=>by
  simp only[Reps] at h
  exact Reps.cons h.1 (Reps.take n h.2)
 | [],_::_,_+1,h=>by simp only[Reps] at h
 | _::_,[],_+1,h=>by simp only[Reps] at h
theorem Reps.drop:∀{vs:List V} {ds:List D} (n:Nat),Reps K H vs ds→Reps K H (vs.drop n) (ds.drop n)
 | _,_,0,h=>h
 | [],[],_+1,_=>Reps.nil
 | v::vs,d::ds,n+1,h=>by
  simp only[Reps] at h
  exact Reps.drop n h.2
 | [],_::_,_+1,h=>by simp only[Reps] at h
 | _::_,[],_+1,h=>by simp only[Reps] at h
end
structure Ext (G H G' H':Hp):Prop where
 g:Same G G'
 h:Same H H'
 s:Same G' H'
 n:∀p,G p=none→H p≠none→G' p=none
theorem Ext.refl{G H:Hp}(s:Same G H):Ext G H G H:=⟨Same.refl _,Same.refl _,s,fun _ h _=>h⟩
theorem Ext.trans{G H G1 H1 G2 H2:Hp}(a:Ext G H G1 H1)(b:Ext G1 H1 G2 H2):Ext G H G2 H2:=
 ⟨a.g.trans b.g,a.h.trans b.h,b.s,fun p h1 h2=>b.n p (a.n p h1 h2) fun z=>h2 (a.h.free z)⟩
theorem zca{H:Hp}{p:Addr}{o:HO}(h:H p=none):Same H (upd H p o):=fun b u e=>by rw[zar (zat e h)];exact e
theorem zkc{G H:Hp}{p:Addr}{o:HO}(s:Same G H):Same (upd G p o) (upd H p o):=fun b u e=>by
 by_cases hb:b=p
 ·subst hb;rw[zau] at e ⊢;exact e
 ·rw[zar hb] at e ⊢;exact s b u e
theorem Ext.new{G H:Hp}{p:Addr}{o:HO}(s:Same G H)(h:H p=none):Ext G H (upd G p o) (upd H p o):=
 ⟨zca (s.free h),zca h,zkc s,fun q h1 h2=>by rw[zar (fun z=>h2 (by rw[z];exact h))];exact h1⟩
theorem Ext.own{G H:Hp}{p:Addr}{o:HO}(s:Same G H)(h:H p=none):Ext G H G (upd H p o):=
 ⟨Same.refl _,zca h,s.trans (zca h),fun q h1 _=>h1⟩
inductive OV where
 | ll (dss:List (List D))
 | dc (kvs:List (Key×D))
 | dl (kvs:List (Key×List D))
 | tl (d:D) (ds:List D)
 | ld (ess:List (List (Key×D)))
 | dt (kvs:List (List Key×List D))
 | tp (ds:List D)
 | ob (cn:Str) (fs:List (Str×List D))
noncomputable def OV.val:OV→D
 | .ll dss=>.lst (dss.map .lst)
 | .dc kvs=>.dic kvs
 | .dl kvs=>.dic (kvs.map fun p=>(p.1,.lst p.2))
 | .tl d ds=>.tup [d,.lst ds]
 | .ld ess=>.lst (ess.map .dic)
 | .dt kvs=>.dit (kvs.map fun p=>(p.1,.lst p.2))
 | .tp ds=>.tup ds
 | .ob cn fs=>.obj cn (fs.map fun p=>(p.1,.lst p.2))
inductive R where
 | fz (d:D)
 | ow (ds:List D)
 | ov (o:OV)
noncomputable def R.val:R→D
 | .fz d=>d
 | .ow ds=>.lst ds
 | .ov o=>o.val
inductive Sl where
 | un
 | fz (d:D)
 | ow (ds:List D)
 | ov (o:OV)
noncomputable def R.sl:R→Sl
 | .fz d=>.fz d
 | .ow ds=>.ow ds
 | .ov o=>.ov o
noncomputable def RepL(K:PySem.W.Frag)(G H:Hp):List Addr→List (List D)→Prop
 | [],[]=>True
 | q::qs,ds::dss=>(∃xs,H q=some (.lst xs)∧Reps K G xs ds)∧RepL K G H qs dss
 | _,_=>False
theorem RepL.mono{K:PySem.W.Frag}{G H G' H':Hp}(g:Same G G'):∀{qs:List Addr} {dss:List (List D)},(∀q∈qs,∀xs,H q=some (.lst xs)→H' q=some (.lst xs))→RepL K G H qs dss→RepL K G' H' qs dss
 | [],[],_,_=>by simp only[RepL]
 | q::qs,ds::dss,hh,h=>by
  simp only[RepL] at h ⊢
  obtain⟨⟨xs,h1,h2⟩,h3⟩:=h
  exact⟨⟨xs,hh q (by simp) xs h1,h2.mono g⟩,RepL.mono g (fun r hr=>hh r (by simp[hr])) h3⟩
 | [],_::_,_,h=>by simp only[RepL] at h
 | _::_,[],_,h=>by simp only[RepL] at h
theorem RepL.here{K:PySem.W.Frag}{G H:Hp}:∀{qs:List Addr} {dss:List (List D)},RepL K G H qs dss→∀q∈qs,H q≠none
 | [],[],_,q,hq=>by cases hq
 | q::qs,ds::dss,h,r,hr=>by
  simp only[RepL] at h
  obtain⟨⟨xs,h1,h2⟩,h3⟩:=h
  rcases List.mem_cons.mp hr with rfl | hr
  ·rw[h1];exact nofun
  ·exact RepL.here h3 r hr
 | [],_::_,h,_,_=>by simp only[RepL] at h
 | _::_,[],h,_,_=>by simp only[RepL] at h
theorem RepL.reps{K:PySem.W.Frag}{G H G':Hp}(g:Same G G'):∀{qs:List Addr} {dss:List (List D)},(∀q∈qs,∀xs,H q=some (.lst xs)→G' q=some (.lst xs))→RepL K G H qs dss→Reps K G' (qs.map V.ref) (dss.map D.lst)
 | [],[],_,_=>Reps.nil
 | q::qs,ds::dss,hh,h=>by
  simp only[RepL] at h
  obtain⟨⟨xs,h1,h2⟩,h3⟩:=h
  refine Reps.cons ?_ (RepL.reps g (fun r hr=>hh r (by simp[hr])) h3)
  simp only[Rep]
  exact⟨q,xs,rfl,RdL.of (hh q (by simp) xs h1),h2.mono g⟩
 | [],_::_,_,h=>by simp only[RepL] at h
 | _::_,[],_,h=>by simp only[RepL] at h
noncomputable def RepE(K:PySem.W.Frag)(G H:Hp):List Addr→List (List (Key×D))→Prop
 | [],[]=>True
 | q::qs,ds::dss=>(∃ks ep,H q=some (.dK ks ep)∧RepK K G ks ds)∧RepE K G H qs dss
 | _,_=>False
theorem RepE.mono{K:PySem.W.Frag}{G H G' H':Hp}(g:Same G G'):∀{qs:List Addr} {dss:List (List (Key×D))},(∀q∈qs,∀u,H q=some u→H' q=some u)→RepE K G H qs dss→RepE K G' H' qs dss
 | [],[],_,_=>by simp only[RepE]
 | q::qs,ds::dss,hh,h=>by
  simp only[RepE] at h ⊢
  obtain⟨⟨ks,ep,h1,h2⟩,h3⟩:=h
  exact⟨⟨ks,ep,hh q (by simp) _ h1,RepK.mono g _ _ h2⟩,RepE.mono g (fun r hr=>hh r (by simp[hr])) h3⟩
 | [],_::_,_,h=>by simp only[RepE] at h
 | _::_,[],_,h=>by simp only[RepE] at h
theorem RepE.kind{K:PySem.W.Frag}{G H:Hp}:∀{qs:List Addr} {dss:List (List (Key×D))},RepE K G H qs dss→∀q∈qs,∃ks ep,H q=some (.dK ks ep)
 | [],[],_,q,hq=>by cases hq
 | q::qs,ds::dss,h,r,hr=>by
  simp only[RepE] at h
  obtain⟨⟨ks,ep,h1,h2⟩,h3⟩:=h
  rcases List.mem_cons.mp hr with rfl | hr
  ·exact⟨ks,ep,h1⟩
  ·exact RepE.kind h3 r hr
 | [],_::_,h,_,_=>by simp only[RepE] at h
 | _::_,[],h,_,_=>by simp only[RepE] at h
theorem RepE.here{K:PySem.W.Frag}{G H:Hp}{qs:List Addr}{dss:List (List (Key×D))}(h:RepE K G H qs dss):∀q∈qs,H q≠none:=fun q hq=>by
 obtain⟨ks,ep,e⟩:=h.kind q hq
 rw[e];exact nofun
theorem RepE.reps{K:PySem.W.Frag}{G H G':Hp}(g:Same G G'):∀{qs:List Addr} {dss:List (List (Key×D))},(∀q∈qs,∀u,H q=some u→G' q=some u)→RepE K G H qs dss→Reps K G' (qs.map V.ref) (dss.map D.dic)
 | [],[],_,_=>Reps.nil
 | q::qs,ds::dss,hh,h=>by
  simp only[RepE] at h
  obtain⟨⟨ks,ep,h1,h2⟩,h3⟩:=h
  refine Reps.cons ?_ (RepE.reps g (fun r hr=>hh r (by simp[hr])) h3)
  simp only[Rep]
  exact⟨q,ks,ep,rfl,hh q (by simp) _ h1,RepK.mono g _ _ h2⟩
 | [],_::_,_,h=>by simp only[RepE] at h
 | _::_,[],_,h=>by simp only[RepE] at h
noncomputable def Owns(K:PySem.W.Frag)(G H:Hp)(p:Addr)(fp:List Addr):OV→Prop
 | .ll dss=>H p=some (.lst (fp.map V.ref))∧RepL K G H fp dss
 | .dc kvs=>fp=[]∧∃ks ep,H p=some (.dK ks ep)∧RepK K G ks kvs
 | .dl kvs=>∃ks ep,H p=some (.dK ks ep)∧ks.map (·.1)=kvs.map (·.1)∧ks.map (·.2)=fp.map V.ref∧RepL K G H fp (kvs.map (·.2))
 | .tl d ds=>∃q v xs,fp=[q]∧H p=some (.tup [v,.ref q])∧Rep K G v d∧H q=some (.lst xs)∧Reps K G xs ds
 | .ld ess=>H p=some (.lst (fp.map V.ref))∧RepE K G H fp ess
 | .dt kvs=>∃ks bs,H p=some (.dT ks bs)∧KeyIn G ks bs∧ks.map (·.1)=kvs.map (·.1)∧ks.map (·.2)=fp.map V.ref∧RepL K G H fp (kvs.map (·.2))
 | .tp ds=>fp=[]∧∃xs,H p=some (.tup xs)∧Reps K G xs ds
 | .ob cn fs=>∃C dx gs,H p=some (.ins C dx gs)∧ClsAt K cn C∧(∀p∈fs,NoAttr K C p.1)∧gs.map (·.1)=fs.map (·.1)∧gs.map (·.2)=fp.map V.ref∧RepL K G H fp (fs.map (·.2))
theorem Owns.here{K:PySem.W.Frag}{G H:Hp}{p:Addr}{fp:List Addr}{o:OV}(h:Owns K G H p fp o):∀q∈p::fp,H q≠none:=by
 intro q hq
 cases o with
 | ll dss=>
  rcases List.mem_cons.mp hq with rfl | hq
  ·rw[h.1];exact nofun
  ·exact h.2.here q hq
 | dc kvs=>
  obtain⟨rfl,ks,ep,h1,_⟩:=h
  simp only[List.mem_singleton] at hq
  subst hq
  rw[h1];exact nofun
 | dl kvs=>
  obtain⟨ks,ep,h1,_,_,h4⟩:=h
  rcases List.mem_cons.mp hq with rfl | hq
  ·rw[h1];exact nofun
  ·exact h4.here q hq
 | tl d ds=>
  obtain⟨r,v,xs,rfl,h1,_,h2,_⟩:=h
  simp only[List.mem_cons,List.not_mem_nil,or_false] at hq
  rcases hq with rfl | rfl
  ·rw[h1];exact nofun
  ·rw[h2];exact nofun
 | ld ess=>
  rcases List.mem_cons.mp hq with rfl | hq
  ·rw[h.1];exact nofun
  ·exact h.2.here q hq
 | dt kvs=>
  obtain⟨ks,bs,h1,_,_,_,h4⟩:=h
  rcases List.mem_cons.mp hq with rfl | hq
  ·rw[h1];exact nofun
  ·exact h4.here q hq
 | tp ds=>
  obtain⟨rfl,xs,h1,_⟩:=h
  simp only[List.mem_singleton] at hq
  subst hq
  rw[h1];exact nofun
 | ob cn fs=>
  obtain⟨C,dx,gs,h1,_,_,_,_,h4⟩:=h
  rcases List.mem_cons.mp hq with rfl | hq
  ·rw[h1];exact nofun
  ·exact h4.here q hq
theorem Owns.mono{K:PySem.W.Frag}{G H G' H':Hp}{p:Addr}{fp:List Addr}{o:OV}(g:Same G G')(hh:∀q∈p::fp,∀u,H q=some u→H' q=some u)(h:Owns K G H p fp o):Owns K G' H' p fp o:=by
 cases o with
 | ll dss=>exact⟨hh p (by simp) _ h.1,h.2.mono g fun q hq xs=>hh q (by simp[hq]) _⟩
 | dc kvs=>
  obtain⟨rfl,ks,ep,h1,h2⟩:=h
  exact⟨rfl,ks,ep,hh p (by simp) _ h1,RepK.mono g _ _ h2⟩
 | dl kvs=>
  obtain⟨ks,ep,h1,h2,h3,h4⟩:=h
  exact⟨ks,ep,hh p (by simp) _ h1,h2,h3,h4.mono g fun q hq xs=>hh q (by simp[hq]) _⟩
 | tl d ds=>
  obtain⟨r,v,xs,rfl,h1,h2,h3,h4⟩:=h
  exact⟨r,v,xs,rfl,hh p (by simp) _ h1,h2.mono g,hh r (by simp) _ h3,h4.mono g⟩
 | ld ess=>exact⟨hh p (by simp) _ h.1,h.2.mono g fun q hq=>hh q (by simp[hq])⟩
 | dt kvs=>
  obtain⟨ks,bs,h1,hk,h2,h3,h4⟩:=h
  exact⟨ks,bs,hh p (by simp) _ h1,hk.mono g,h2,h3,h4.mono g fun q hq xs=>hh q (by simp[hq]) _⟩
 | tp ds=>
  obtain⟨rfl,xs,h1,h2⟩:=h
  exact⟨rfl,xs,hh p (by simp) _ h1,h2.mono g⟩
 | ob cn fs=>
  obtain⟨C,dx,gs,h1,hc,hn,h2,h3,h4⟩:=h
  exact⟨C,dx,gs,hh p (by simp) _ h1,hc,hn,h2,h3,h4.mono g fun q hq xs=>hh q (by simp[hq]) _⟩
theorem RepK.of_lists{K:PySem.W.Frag}{G:Hp}:∀{ks:List (Key×V)} {kvs:List (Key×List D)} {fp:List Addr},ks.map (·.1)=kvs.map (·.1)→ks.map (·.2)=fp.map V.ref→Reps K G (fp.map V.ref) ((kvs.map (·.2)).map D.lst)→RepK K G ks (kvs.map fun p=>(p.1,.lst p.2))
 | [],[],_,_,_,_=>by simp only[List.map_nil,RepK]
 | a::ks,b::kvs,fp,h1,h2,h3=>by
  simp only[List.map_cons,List.cons.injEq] at h1
  cases fp with
  | nil=>simp at h2
  | cons q fp=>
   simp only[List.map_cons,List.cons.injEq] at h2
   simp only[List.map_cons,Reps] at h3
   simp only[List.map_cons,RepK]
   exact⟨⟨h1.1,by rw[h2.1];exact h3.1⟩,RepK.of_lists h1.2 h2.2 h3.2⟩
 | [],_::_,_,h,_,_=>by simp at h
 | _::_,[],_,h,_,_=>by simp at h
theorem RepT.of_lists{K:PySem.W.Frag}{G:Hp}:∀{ks:List (List Key×V)} {kvs:List (List Key×List D)} {fp:List Addr},ks.map (·.1)=kvs.map (·.1)→ks.map (·.2)=fp.map V.ref→Reps K G (fp.map V.ref) ((kvs.map (·.2)).map D.lst)→RepT K G ks (kvs.map fun p=>(p.1,.lst p.2))
 | [],[],_,_,_,_=>by simp only[List.map_nil,RepT]
 | a::ks,b::kvs,fp,h1,h2,h3=>by
  simp only[List.map_cons,List.cons.injEq] at h1
  cases fp with
  | nil=>simp at h2
  | cons q fp=>
   simp only[List.map_cons,List.cons.injEq] at h2
   simp only[List.map_cons,Reps] at h3
   simp only[List.map_cons,RepT]
   exact⟨⟨h1.1,by rw[h2.1];exact h3.1⟩,RepT.of_lists h1.2 h2.2 h3.2⟩
 | [],_::_,_,h,_,_=>by simp at h
 | _::_,[],_,h,_,_=>by simp at h
theorem RepF.of_lists{K:PySem.W.Frag}{G:Hp}:∀{ks:List (Str×V)} {kvs:List (Str×List D)} {fp:List Addr},ks.map (·.1)=kvs.map (·.1)→ks.map (·.2)=fp.map V.ref→Reps K G (fp.map V.ref) ((kvs.map (·.2)).map D.lst)→RepF K G ks (kvs.map fun p=>(p.1,.lst p.2))
 | [],[],_,_,_,_=>by simp only[List.map_nil,RepF]
 | a::ks,b::kvs,fp,h1,h2,h3=>by
  simp only[List.map_cons,List.cons.injEq] at h1
  cases fp with
  | nil=>simp at h2
  | cons q fp=>
   simp only[List.map_cons,List.cons.injEq] at h2
   simp only[List.map_cons,Reps] at h3
   simp only[List.map_cons,RepF]
   exact⟨⟨h1.1,by rw[h2.1];exact h3.1⟩,RepF.of_lists h1.2 h2.2 h3.2⟩
 | [],_::_,_,h,_,_=>by simp at h
 | _::_,[],_,h,_,_=>by simp at h
noncomputable def zjc(G H:Hp)(l:List Addr):Hp:=fun a=>if a∈l then H a else G a
theorem zci{G H:Hp}{l:List Addr}{a:Addr}(h:a∈l):zjc G H l a=H a:=if_pos h
theorem zbx{G H:Hp}{l:List Addr}{a:Addr}(h:a∉l):zjc G H l a=G a:=if_neg h
theorem zcO{G H:Hp}{l:List Addr}(h:∀q∈l,G q=none):Same G (zjc G H l):=fun b u e=>by
 rw[zbx (fun z=>by rw[h b z] at e;cases e)];exact e
theorem Owns.freeze{K:PySem.W.Frag}{G H:Hp}{p:Addr}{fp:List Addr}{o:OV}(h:Owns K G H p fp o)(hn:∀q∈p::fp,G q=none):Rep K (zjc G H (p::fp)) (.ref p) o.val:=by
 have hs:=zcO (H:=H) hn
 have hp:zjc G H (p::fp) p=H p:=zci (by simp)
 cases o with
 | ll dss=>
  simp only[OV.val,Rep]
  exact⟨p,_,rfl,RdL.of (by rw[hp];exact h.1),h.2.reps hs fun q hq xs e=>by rw[zci (by simp[hq])];exact e⟩
 | dc kvs=>
  obtain⟨rfl,ks,ep,h1,h2⟩:=h
  simp only[OV.val,Rep]
  exact⟨p,ks,ep,rfl,by rw[hp];exact h1,RepK.mono hs _ _ h2⟩
 | dl kvs=>
  obtain⟨ks,ep,h1,h2,h3,h4⟩:=h
  simp only[OV.val,Rep]
  exact⟨p,ks,ep,rfl,by rw[hp];exact h1,RepK.of_lists h2 h3 (h4.reps hs fun q hq xs e=>by rw[zci (by simp[hq])];exact e)⟩
 | tl d ds=>
  obtain⟨r,v,xs,rfl,h1,h2,h3,h4⟩:=h
  simp only[OV.val,Rep]
  refine⟨p,_,rfl,SqT.of (by rw[hp];exact h1),Reps.cons (h2.mono hs) (Reps.cons ?_ Reps.nil)⟩
  simp only[Rep]
  exact⟨r,xs,rfl,RdL.of (by rw[zci (by simp)];exact h3),h4.mono hs⟩
 | dt kvs=>
  obtain⟨ks,bs,h1,hk,h2,h3,h4⟩:=h
  simp only[OV.val,Rep]
  exact⟨p,ks,bs,rfl,by rw[hp];exact h1,hk.mono hs,RepT.of_lists h2 h3 (h4.reps hs fun q hq xs e=>by rw[zci (by simp[hq])];exact e)⟩
 | tp ds=>
  obtain⟨rfl,xs,h1,h2⟩:=h
  simp only[OV.val,Rep]
  exact⟨p,xs,rfl,SqT.of (by rw[hp];exact h1),h2.mono hs⟩
 | ob cn fs=>
  obtain⟨C,dx,gs,h1,hc,hn,h2,h3,h4⟩:=h
  simp only[OV.val,Rep]
  refine⟨p,C,dx,gs,rfl,by rw[hp];exact h1,hc,fun u hu=>?_,RepF.of_lists h2 h3 (h4.reps hs fun q hq xs e=>by rw[zci (by simp[hq])];exact e)⟩
  obtain⟨v,hv,rfl⟩:=List.mem_map.mp hu
  exact hn v hv
 | ld ess=>
  simp only[OV.val,Rep]
  exact⟨p,_,rfl,RdL.of (by rw[hp];exact h.1),h.2.reps hs fun q hq u e=>by rw[zci (by simp[hq])];exact e⟩
noncomputable abbrev Ev:=List Sl
noncomputable def gt:Ev→Nat→Sl
 | [],_=>.un
 | a::_,0=>a
 | _::r,n+1=>gt r n
theorem zg6{ρ:Ev}{i j:Nat}{s:Sl}:gt (ρ.set i s) j=if i=j∧j<ρ.length then s else gt ρ j:=by
 induction ρ generalizing i j with
 | nil=>simp[gt]
 | cons a r ih=>
  cases i with
  | zero=>
   cases j with
   | zero=>simp[gt]
   | succ j=>simp[gt]
  | succ i=>
   cases j with
   | zero=>simp[gt]
   | succ j=>simp[gt,ih]
noncomputable def RepR(K:PySem.W.Frag)(G' H' H:Hp)(v:V):R→Prop
 | .fz d=>Rep K G' v d
 | .ow ds=>∃p xs,v=.ref p∧H p=none∧G' p=none∧H' p=some (.lst xs)∧Reps K G' xs ds
 | .ov o=>∃p fp,v=.ref p∧(p::fp).Nodup∧Owns K G' H' p fp o∧∀q∈p::fp,H q=none∧G' q=none
structure EOk (K:PySem.W.Frag) (G0 H0:Hp) (ρ:Ev) (σ:St) (G H:Hp):Prop where
 e:Ext G0 H0 G H
 len:σ.length=ρ.length
 fz:∀i d,gt ρ i=.fz d→∃v,σ[i]?=some (some v)∧Rep K G v d
 ow:∀i ds,gt ρ i=.ow ds→∃p xs,σ[i]?=some (some (.ref p))∧H p=some (.lst xs)∧G p=none∧H0 p=none∧Reps K G xs ds
 dj:∀i j ds es,i≠j→gt ρ i=.ow ds→gt ρ j=.ow es→σ[i]?≠σ[j]?
 on:∃own:Addr→Option Nat,(∀i ds p,gt ρ i=.ow ds→σ[i]?=some (some (.ref p))→own p=some i)∧∀i o,gt ρ i=.ov o→∃p fp,σ[i]?=some (some (.ref p))∧(p::fp).Nodup∧Owns K G H p fp o∧∀q∈p::fp,G q=none∧H0 q=none∧own q=some i
section
variable {K:PySem.W.Frag} {G0 H0 G H G' H' G2 H2:Hp} {ρ:Ev} {σ:St} {v:V}
theorem EOk.ext(E:EOk K G0 H0 ρ σ G H)(x:Ext G H G' H'):EOk K G0 H0 ρ σ G' H' where
 e:=E.e.trans x
 len:=E.len
 fz:=fun i d h=>let⟨v,h1,h2⟩:=E.fz i d h;⟨v,h1,h2.mono x.g⟩
 ow:=fun i ds h=>let⟨p,xs,h1,h2,h3,h4,h5⟩:=E.ow i ds h;⟨p,xs,h1,x.h _ _ h2,x.n p h3 (by rw[h2];exact nofun),h4,h5.mono x.g⟩
 dj:=E.dj
 on:=by
  obtain⟨own,h1,h2⟩:=E.on
  refine⟨own,h1,fun i o h=>?_⟩
  obtain⟨p,fp,b1,b2,b3,b4⟩:=h2 i o h
  exact⟨p,fp,b1,b2,b3.mono x.g fun q _ u e=>x.h q u e,fun q hq=>⟨x.n q (b4 q hq).1 (b3.here q hq),(b4 q hq).2⟩⟩
theorem RepR.freeze{r:R}(x:Ext G H G' H')(h:RepR K G' H' H v r):∃G2,Ext G H G2 H'∧Rep K G2 v r.val∧Same G' G2:=by
 cases r with
 | fz d=>exact⟨G',x,h,Same.refl _⟩
 | ow ds=>
  obtain⟨p,xs,h1,h2,h3,h4,h5⟩:=h
  refine⟨upd G' p (.lst xs),⟨x.g.trans (zca h3),x.h,fun b o e=>?_,fun q hq1 hq2=>?_⟩,?_,zca h3⟩
  ·by_cases hb:b=p
   ·subst hb;rw[zau] at e;rw[h4];exact e
   ·rw[zar hb] at e;exact x.s b o e
  ·rw[zar (fun z=>hq2 (by rw[z];exact h2))];exact x.n q hq1 hq2
  ·show Rep K (upd G' p (.lst xs)) v (.lst ds)
   simp only[Rep]
   exact⟨p,xs,h1,RdL.of zau,h5.mono (zca h3)⟩
 | ov o=>
  obtain⟨p,fp,rfl,h1,h2,h3⟩:=h
  have hn:∀q∈p::fp,G' q=none:=fun q hq=>(h3 q hq).2
  refine⟨zjc G' H' (p::fp),⟨x.g.trans (zcO hn),x.h,fun b u e=>?_,fun q hq1 hq2=>?_⟩,h2.freeze hn,zcO hn⟩
  ·by_cases hb:b∈p::fp
   ·rw[zci hb] at e;exact e
   ·rw[zbx hb] at e;exact x.s b u e
  ·rw[zbx (fun z=>hq2 (h3 q z).1)];exact x.n q hq1 hq2
theorem RepR.older{r:R}{H1 H3:Hp}(s:Same H3 H1)(h:RepR K G' H' H1 v r):RepR K G' H' H3 v r:=by
 cases r with
 | fz d=>exact h
 | ow ds=>
  obtain⟨p,xs,h1,h2,h3,h4,h5⟩:=h
  exact⟨p,xs,h1,s.free h2,h3,h4,h5⟩
 | ov o=>
  obtain⟨p,fp,rfl,h1,h2,h3⟩:=h
  exact⟨p,fp,rfl,h1,h2,fun q hq=>⟨s.free (h3 q hq).1,(h3 q hq).2⟩⟩
end
noncomputable abbrev TD:=Ev→(R→Prop)→Prop
noncomputable abbrev TDb:=Ev→(Bool→Prop)→Prop
noncomputable abbrev TDa:=Ev→(List D→Prop)→Prop
structure DE where
 nx:Ev→Prop
 rt:R→Prop
 bk:Ev→Prop:=fun _=>False
 ct:Ev→Prop:=fun _=>False
noncomputable abbrev TX:=DE→Ev→Prop
noncomputable def PD(X:Cx)(e:Expr)(t:TD):Prop:=∃tt,PE X e tt∧∀(ρ:Ev) (σ:St) (G0 H0 G H:Hp) (Q:R→Prop) (P:VK),EOk X.K G0 H0 ρ σ G H→t ρ Q→
 (∀v H' r G',Ext G H G' H'→RepR X.K G' H' H v r→Q r→P v H')→tt σ H P
noncomputable def PB(X:Cx)(e:Expr)(t:TDb):Prop:=∃tt,PT X e tt∧∀(ρ:Ev) (σ:St) (G0 H0 G H:Hp) (Q:Bool→Prop) (P:Bool→Hp→Prop),EOk X.K G0 H0 ρ σ G H→t ρ Q→
 (∀b H' G',Ext G H G' H'→Q b→P b H')→tt σ H P
noncomputable def PDa(X:Cx)(es:List Expr)(t:TDa):Prop:=∃tt,PA X es tt∧∀(ρ:Ev) (σ:St) (G0 H0 G H:Hp) (Q:List D→Prop) (P:List V→Hp→Prop),EOk X.K G0 H0 ρ σ G H→t ρ Q→
 (∀vs H' ds G',Ext G H G' H'→Reps X.K G' vs ds→Q ds→P vs H')→tt σ H P
structure Goes (K:PySem.W.Frag) (G0 H0 G:Hp) (D:DE) (E:Ends):Prop where
 nx:∀ρ σ G' H',Same G G'→EOk K G0 H0 ρ σ G' H'→D.nx ρ→E.nx σ H'
 rt:∀v H' r G',Ext G0 H0 G' H'→RepR K G' H' H0 v r→D.rt r→E.rt v H'
 bk:∀ρ σ G' H',Same G G'→EOk K G0 H0 ρ σ G' H'→D.bk ρ→E.bk σ H'
 ct:∀ρ σ G' H',Same G G'→EOk K G0 H0 ρ σ G' H'→D.ct ρ→E.ct σ H'
theorem Goes.shift{K:PySem.W.Frag}{G0 H0 G G':Hp}{D:DE}{E:Ends}(g:Goes K G0 H0 G D E)(s:Same G G'):Goes K G0 H0 G' D E:=
 ⟨fun ρ σ G2 H2 s2=>g.nx ρ σ G2 H2 (s.trans s2),g.rt,fun ρ σ G2 H2 s2=>g.bk ρ σ G2 H2 (s.trans s2),fun ρ σ G2 H2 s2=>g.ct ρ σ G2 H2 (s.trans s2)⟩
noncomputable def PX(X:Cx)(st:Stmt)(t:TX):Prop:=∃tt,PS X st tt∧∀(ρ:Ev) (σ:St) (G0 H0 G H:Hp) (D:DE) (E:Ends),EOk X.K G0 H0 ρ σ G H→t D ρ→Goes X.K G0 H0 G D E→tt E σ H
noncomputable def PXs(X:Cx)(st:List Stmt)(t:TX):Prop:=∃tt,PSs X st tt∧∀(ρ:Ev) (σ:St) (G0 H0 G H:Hp) (D:DE) (E:Ends),EOk X.K G0 H0 ρ σ G H→t D ρ→Goes X.K G0 H0 G D E→tt E σ H
end L2
namespace L2
open PySem PySem.Spec PyProof.Rows
section
variable {X:Cx} {pos:Pos} {a b c:Expr} {ta tb tc:TD}
theorem fzR{K:PySem.W.Frag}{G' H' H:Hp}{v:V}{d:D}(h:Rep K G' v d):RepR K G' H' H v (.fz d):=h
noncomputable def zag(i:Nat):TD:=fun ρ Q=>match gt ρ i with
 | .fz d=>Q (.fz d)
 | _=>False
theorem zab(i:Nat){x:Str}(hN:X.N[i]?=some x:=by rfl)(hv:Vis X.env.scope x:=by first | exact Or.inl rfl | exact Or.inr (Or.inl rfl) | exact Or.inr (Or.inr rfl))(hd:(x==("__debug__":Str))=false:=by decide)
  (hcd:(x==("__classdict__":Str))=false:=by decide):PD X (.Name x pos) (zag i):=by
 refine⟨_,zfT hN hv hd hcd,fun ρ σ G0 H0 G H Q P E h k=>?_⟩
 unfold zag at h
 split at h
 ·rename_i d e
  obtain⟨v,h1,h2⟩:=E.fz i d e
  exact⟨v,h1,k v H (.fz d) G (.refl E.e.s) h2 h⟩
 ·exact h.elim
noncomputable def dC(d:D):TD:=fun _ Q=>Q (.fz d)
theorem zeF{e:Expr}{v:V}{d:D}(h:PE X e (tC v))(r:∀K G,Rep K G v d):PD X e (dC d):=
 ⟨_,h,fun ρ σ G0 H0 G H Q P E h k=>k v H (.fz d) G (.refl E.e.s) (r _ _) h⟩
theorem zaG(K:PySem.W.Frag)(G:Hp)(i:Int):Rep K G (.int i) (.int i):=by simp only[Rep]
theorem zbq(K:PySem.W.Frag)(G:Hp)(i:Bool):Rep K G (.bl i) (.bl i):=by simp only[Rep]
theorem zdO(K:PySem.W.Frag)(G:Hp)(i:Str):Rep K G (.str i) (.str i):=by simp only[Rep]
theorem zkd(K:PySem.W.Frag)(G:Hp):Rep K G .non .non:=by simp only[Rep]
theorem zaf{i j}:PD X (.Constant (.int i) j pos) (dC (.int i)):=zeF zon fun K G=>zaG K G i
theorem zoT{i j}:PD X (.Constant (.bool i) j pos) (dC (.bl i)):=zeF zpU fun K G=>zbq K G i
theorem zcb{i j}:PD X (.Constant (.str i) j pos) (dC (.str i)):=zeF zop fun K G=>zdO K G i
theorem zbk{j}:PD X (.Constant .none j pos) (dC .non):=zeF zoo fun K G=>zkd K G
noncomputable abbrev O2:=D→D→(R→Prop)→Prop
noncomputable def OpP(X:Cx)(f:Value→Value→Sem Value)(o:O2):Prop:=∃r:R2,OpR X f r∧∀(G H:Hp) (x y:V) (d e:D) (Q:R→Prop) (P:VK),Same G H→Rep X.K G x d→Rep X.K G y e→o d e Q→
 (∀v H' r' G',Ext G H G' H'→RepR X.K G' H' H v r'→Q r'→P v H')→r x y H P
noncomputable def dOp(o:O2)(ta tb:TD):TD:=fun ρ Q=>ta ρ fun ra=>tb ρ fun rb=>o ra.val rb.val Q
theorem zit{r:R2}{o:O2}{tta ttb:TE}
  (hr:∀(G H:Hp) (x y:V) (d e:D) (Q:R→Prop) (P:VK),Same G H→Rep X.K G x d→Rep X.K G y e→o d e Q→(∀v H' r' G',Ext G H G' H'→RepR X.K G' H' H v r'→Q r'→P v H')→r x y H P)
  (ha:∀(ρ:Ev) (σ:St) (G0 H0 G H:Hp) (Q:R→Prop) (P:VK),EOk X.K G0 H0 ρ σ G H→ta ρ Q→(∀v H' r G',Ext G H G' H'→RepR X.K G' H' H v r→Q r→P v H')→tta σ H P)
  (hb:∀(ρ:Ev) (σ:St) (G0 H0 G H:Hp) (Q:R→Prop) (P:VK),EOk X.K G0 H0 ρ σ G H→tb ρ Q→(∀v H' r G',Ext G H G' H'→RepR X.K G' H' H v r→Q r→P v H')→ttb σ H P)
  (ρ:Ev) (σ:St) (G0 H0 G H:Hp) (Q:R→Prop) (P:VK) (E:EOk X.K G0 H0 ρ σ G H) (h:dOp o ta tb ρ Q) (k:∀v H' r G',Ext G H G' H'→RepR X.K G' H' H v r→Q r→P v H'):tOp r tta ttb σ H P:=by
 refine ha ρ σ G0 H0 G H _ _ E h fun v H1 ra G1 x1 r1 h1=>?_
 obtain⟨G1',x1',q1,_⟩:=r1.freeze x1
 refine hb ρ σ G0 H0 G1' H1 _ _ (E.ext x1') h1 fun u H2 rb G2 x2 r2 h2=>?_
 obtain⟨G2',x2',q2,_⟩:=r2.freeze x2
 refine hr G2' H2 v u _ _ Q P x2'.s (q1.mono x2'.g) q2 h2 fun v' H' r' G' x3 r3 h3=>?_
 have x4:=(x1'.trans x2').trans x3
 exact k v' H' r' G' x4 (r3.older (x1'.trans x2').h) h3
theorem zal{op:Operator}{o:O2}(ho:OpP X (binaryOp op) o)(ha:PD X a ta)(hb:PD X b tb):PD X (.BinOp a op b pos) (dOp o ta tb):=by
 obtain⟨r,hr,hr'⟩:=ho
 obtain⟨tta,pa,qa⟩:=ha
 obtain⟨ttb,pb,qb⟩:=hb
 exact⟨_,zp6 hr pa pb,zit hr' qa qb⟩
theorem zcP{op:CmpOp}{o:O2}(ho:OpP X (compareOp op) o)(ha:PD X a ta)(hb:PD X b tb)(hm:behindInMarks op b=false:=by first | exact zmK _ | rfl):PD X (.Compare a [op] [b] pos) (dOp o ta tb):=by
 obtain⟨r,hr,hr'⟩:=ho
 obtain⟨tta,pa,qa⟩:=ha
 obtain⟨ttb,pb,qb⟩:=hb
 exact⟨_,zni hr pa pb hm,zit hr' qa qb⟩
noncomputable def za4(t:TD):TDb:=fun ρ Q=>t ρ fun r=>match r with
 | .fz (.bl k)=>Q k
 | _=>False
theorem zas{op:CmpOp}{o:O2}(ho:OpP X (compareOp op) o)(ha:PD X a ta)(hb:PD X b tb)(hm:behindInMarks op b=false:=by first | exact zmK _ | rfl):PB X (.Compare a [op] [b] pos) (za4 (dOp o ta tb)):=by
 obtain⟨r,hr,hr'⟩:=ho
 obtain⟨tta,pa,qa⟩:=ha
 obtain⟨ttb,pb,qb⟩:=hb
 refine⟨_,znk hr pa pb hm,fun ρ σ G0 H0 G H Q P E h k=>?_⟩
 refine zit hr' qa qb ρ σ G0 H0 G H _ _ E h fun v H' r G' x1 r1 h1=>?_
 split at h1
 ·rename_i kk
  have e:v=.bl kk:=by simpa only[RepR,Rep] using r1
  exact⟨kk,e,k kk H' G' x1 h1⟩
 ·exact h1.elim
theorem zfY{e:Expr}{t:TD}(h:PD X e t)(he:∀whole,isTrue e X.env whole=(do let v ←whole;standAt e.pos;holding [v] (truthy v)):=by intro _;rfl):PB X e (za4 t):=by
 obtain⟨tt,p,q⟩:=h
 refine⟨_,zoq p he,fun ρ σ G0 H0 G H Q P E h k=>?_⟩
 refine q ρ σ G0 H0 G H _ _ E h fun v H' r G' x1 r1 h1=>?_
 split at h1
 ·rename_i kk
  have e:v=.bl kk:=by simpa only[RepR,Rep] using r1
  exact⟨kk,e,k kk H' G' x1 h1⟩
 ·exact h1.elim
noncomputable def zb9:O2:=fun d e Q=>match d,e with
 | .int i,.int j=>Q (.fz (.int (i+j)))
 | .str x,.str y=>x.length+y.length≤sizeLine∧Q (.fz (.str (x++y)))
 | .lst xs,.lst ys=>xs.length+ys.length≤sizeLine∧Q (.ow (xs++ys))
 | _,_=>False
noncomputable def zqh(K:PySem.W.Frag):R2:=fun x y H Q=>∃l b xs zs,x=.ref l∧y=.ref b∧RdL K H l xs∧RdL K H b zs∧xs.length+zs.length≤sizeLine∧∀p,H p=none→Q (.ref p) (upd H p (.lst (xs++zs)))
theorem znA:OpR X (binaryOp .Add) (zqh X.K):=by
 intro pins s σ H x y v u Q I rx ry h
 obtain⟨l,b,xs,zs,rfl,rfl,hH,hB,hz,q⟩:=h
 cases rx
 cases ry
 obtain⟨z,its,n,r,e⟩:=I.rdl hH
 obtain⟨z2,its2,n2,r2,e2⟩:=I.rdl hB
 have hl:=r.length
 have hl2:=r2.length
 refine PySem.P.add_list e e2 ?_ (by rw[List.size_toArray,List.size_toArray];omega)
 have ea:its.toArray++its2.toArray=(its++its2).toArray:=by simp
 rw[ea]
 exact⟨.ref _,_,I.lnew (t':=s.toks) (r.append r2) (by rw[List.length_append];omega),rfl,q _ I.fresh⟩
theorem zda{G H:Hp}{xs:List V}{ds:List D}{Q:R→Prop}{P:VK}(s:Same G H)(r:Reps X.K G xs ds)(q:Q (.ow ds))
  (k:∀v H' r' G',Ext G H G' H'→RepR X.K G' H' H v r'→Q r'→P v H'):∀p,H p=none→P (.ref p) (upd H p (.lst xs)):=fun p hp=>
 k _ _ (.ow ds) G (.own s hp) ⟨p,xs,rfl,hp,s.free hp,zau,r⟩ q
theorem zaV:OpP X (binaryOp .Add) zb9:=by
 refine⟨_,op_add.or (op_add_str.or znA),fun G H x y d e Q P s rx ry h k=>?_⟩
 unfold zb9 at h
 split at h
 ·simp only[Rep] at rx ry
  exact .inl ⟨_,_,rx,ry,k _ _ _ G (.refl s) (fzR (zaG _ _ _)) h⟩
 ·simp only[Rep] at rx ry
  exact .inr (.inl ⟨_,_,rx,ry,h.1,k _ _ _ G (.refl s) (fzR (zdO _ _ _)) h.2⟩)
 ·simp only[Rep] at rx ry
  obtain⟨a,xs,rfl,hx,rxs⟩:=rx
  obtain⟨b,ys,rfl,hy,rys⟩:=ry
  refine .inr (.inr ⟨_,_,_,_,rfl,rfl,s.rdl hx,s.rdl hy,by rw[rxs.length,rys.length];exact h.1,zda s (rxs.append rys) h.2 k⟩)
 ·exact h.elim
noncomputable def oI(C:Int→Int→Prop)(g:Int→Int→D):O2:=fun d e Q=>match d,e with
 | .int i,.int j=>C i j∧Q (.fz (g i j))
 | _,_=>False
noncomputable def oI0(g:Int→Int→D):O2:=fun d e Q=>match d,e with
 | .int i,.int j=>Q (.fz (g i j))
 | _,_=>False
theorem zlS{f:Value→Value→Sem Value}{C:Int→Int→Prop}{g:Int→Int→V}{g':Int→Int→D}(h:OpR X f (rI C g))(hg:∀K G i j,Rep K G (g i j) (g' i j)):OpP X f (oI C g'):=by
 refine⟨_,h,fun G H x y d e Q P s rx ry h k=>?_⟩
 unfold oI at h
 split at h
 ·simp only[Rep] at rx ry
  exact⟨_,_,rx,ry,h.1,k _ _ _ G (.refl s) (fzR (hg _ _ _ _)) h.2⟩
 ·exact h.elim
theorem zke{f:Value→Value→Sem Value}{g:Int→Int→V}{g':Int→Int→D}(h:OpR X f (rI0 g))(hg:∀K G i j,Rep K G (g i j) (g' i j)):OpP X f (oI0 g'):=by
 refine⟨_,h,fun G H x y d e Q P s rx ry h k=>?_⟩
 unfold oI0 at h
 split at h
 ·simp only[Rep] at rx ry
  exact⟨_,_,rx,ry,k _ _ _ G (.refl s) (fzR (hg _ _ _ _)) h⟩
 ·exact h.elim
theorem zoU:OpP X (binaryOp .Sub) (oI0 fun i j=>.int (i-j)):=zke zoA fun K G i j=>zaG K G _
theorem zg7:OpP X (binaryOp .Mult) (oI CMul fun i j=>.int (i*j)):=zlS zoB fun K G i j=>zaG K G _
theorem zbl:OpP X (binaryOp .FloorDiv) (oI zet fun i j=>.int (i/j)):=zlS zng fun K G i j=>zaG K G _
theorem zbf:OpP X (binaryOp .Mod) (oI (fun _ j=>0<j) fun i j=>.int (i%j)):=zlS zoC fun K G i j=>zaG K G _
theorem zlT:OpP X (binaryOp .Pow) (oI zlu fun i j=>.int (i ^ j.toNat)):=zlS zoD fun K G i j=>zaG K G _
theorem zpN:OpP X (compareOp .Lt) (oI0 fun i j=>.bl (decide (i<j))):=zke zp9 fun K G i j=>zbq K G _
theorem zqi:OpP X (compareOp .Gt) (oI0 fun i j=>.bl (decide (j<i))):=zke zqa fun K G i j=>zbq K G _
end
end L2
namespace L2
open PySem PySem.Spec PyProof.Rows PySem.SeqAt
mutual
noncomputable def eqD:D→D→Bool
 | .non,.non=>true
 | .bl a,.bl b=>a==b
 | .bl a,.int b=>(if a then 1 else 0)==b
 | .int a,.bl b=>a==(if b then 1 else 0)
 | .int a,.int b=>a==b
 | .str a,.str b=>a==b
 | .tup xs,.tup ys=>zg8 xs ys
 | .lst xs,.lst ys=>zg8 xs ys
 | _,_=>false
noncomputable def zg8:List D→List D→Bool
 | [],[]=>true
 | x::xs,y::ys=>eqD x y&&zg8 xs ys
 | _,_=>false
end
noncomputable def okE:Nat→D→Prop
 | _,.non=>True
 | _,.bl _=>True
 | _,.int _=>True
 | _,.str _=>True
 | n+1,.tup ds=>∀d∈ds,okE n d
 | n+1,.lst ds=>∀d∈ds,okE n d
 | _,_=>False
theorem okE.mono:∀{n m:Nat} {d:D},n≤m→okE n d→okE m d
 | n,m,.non,_,_=>by cases m<;>exact trivial
 | n,m,.bl _,_,_=>by cases m<;>exact trivial
 | n,m,.int _,_,_=>by cases m<;>exact trivial
 | n,m,.str _,_,_=>by cases m<;>exact trivial
 | 0,m,.tup ds,_,h=>by cases h
 | 0,m,.lst ds,_,h=>by cases h
 | n+1,0,.tup ds,l,h=>by omega
 | n+1,0,.lst ds,l,h=>by omega
 | n+1,m+1,.tup ds,l,h=>fun d hd=>okE.mono (by omega) (h d hd)
 | n+1,m+1,.lst ds,l,h=>fun d hd=>okE.mono (by omega) (h d hd)
 | 0,m,.obj _ _,_,h=>by cases h
 | n+1,m,.obj _ _,_,h=>by cases h
 | 0,m,.dic _,_,h=>by cases h
 | 0,m,.dit _,_,h=>by cases h
 | n+1,m,.dic _,_,h=>by cases h
 | n+1,m,.dit _,_,h=>by cases h
mutual
theorem zdq:∀(n:Nat) (d:D),okE n d→eqD d d=true
 | n,.non,_=>by simp only[eqD]
 | n,.bl _,_=>by simp only[eqD,beq_self_eq_true]
 | n,.int _,_=>by simp only[eqD,beq_self_eq_true]
 | n,.str _,_=>by simp only[eqD,beq_self_eq_true]
 | 0,.tup ds,h=>by cases h
 | 0,.lst ds,h=>by cases h
 | n+1,.tup ds,h=>by simp only[eqD];exact zeS n ds h
 | n+1,.lst ds,h=>by simp only[eqD];exact zeS n ds h
 | 0,.obj _ _,h=>by cases h
 | n+1,.obj _ _,h=>by cases h
 | 0,.dic _,h=>by cases h
 | 0,.dit _,h=>by cases h
 | n+1,.dic _,h=>by cases h
 | n+1,.dit _,h=>by cases h
theorem zeS:∀(n:Nat) (ds:List D),(∀d∈ds,okE n d)→zg8 ds ds=true
 | n,[],_=>by simp only[zg8]
 | n,d::ds,h=>by simp only[zg8,zdq n d (h d (by simp)),zeS n ds (fun e he=>h e (by simp[he])),Bool.and_self]
end
theorem zdr:∀{xs ys:List D},xs.length≠ys.length→zg8 xs ys=false
 | [],[],h=>absurd rfl h
 | x::xs,y::ys,h=>by
  rw[zg8,zdr (xs:=xs) (ys:=ys) (by simpa using h),Bool.and_false]
 | [],_::_,_=>by simp only[zg8]
 | _::_,[],_=>by simp only[zg8]
theorem zds:∀(xs ys:List D),xs.length=ys.length→zg8 xs ys=(List.range xs.length).all fun j=>eqD (xs.getD j .non) (ys.getD j .non)
 | [],[],_=>by simp[zg8]
 | x::xs,y::ys,h=>by
  rw[zg8,zds xs ys (by simpa using h),List.length_cons,List.range_succ_eq_map,List.all_cons,List.all_map]
  congr 1
 | [],_::_,h=>by simp at h
 | _::_,[],h=>by simp at h
theorem zgf(xs ys:List D):((List.range (min xs.length ys.length)).all (fun j=>eqD (xs.getD j .non) (ys.getD j .non))&&xs.length==ys.length)=zg8 xs ys:=by
 by_cases h:xs.length=ys.length
 ·rw[zds xs ys h,h]
  simp
 ·rw[zdr h]
  simp[h]
section
variable {X:Cx} {pins:List (Addr×Obj)} {σ:St} {H:Hp} {s:Shared}
mutual
theorem zgg(I:Inv X pins σ H s):∀(n:Nat) (d e:D) (v:V),okE n d→okE n e→Rep X.K H v d→Rep X.K H v e→d=e
 | n,.non,e,v,h,h',r,r'=>by
  cases e<;>simp only[Rep] at r r'<;>subst r<;>first | rfl | (simp at r';done) | (simp only[V.bl.injEq,V.int.injEq,V.str.injEq] at r';rw[r'])
 | n,.bl b,e,v,h,h',r,r'=>by
  cases e<;>simp only[Rep] at r r'<;>subst r<;>first | rfl | (simp at r';done) | (simp only[V.bl.injEq,V.int.injEq,V.str.injEq] at r';rw[r'])
 | n,.int b,e,v,h,h',r,r'=>by
  cases e<;>simp only[Rep] at r r'<;>subst r<;>first | rfl | (simp at r';done) | (simp only[V.bl.injEq,V.int.injEq,V.str.injEq] at r';rw[r'])
 | n,.str b,e,v,h,h',r,r'=>by
  cases e<;>simp only[Rep] at r r'<;>subst r<;>first | rfl | (simp at r';done) | (simp only[V.bl.injEq,V.int.injEq,V.str.injEq] at r';rw[r'])
 | 0,.tup ds,e,v,h,h',r,r'=>by cases h
 | 0,.lst ds,e,v,h,h',r,r'=>by cases h
 | n+1,.tup ds,e,v,h,h',r,r'=>by
  simp only[Rep] at r
  obtain⟨a,xs,rfl,q,rs⟩:=r
  cases e<;>simp only[Rep] at r'
  case tup es=>
   obtain⟨b,ys,e1,q',rs'⟩:=r'
   cases e1
   rw[I.tuple_inj q' q] at rs'
   rw[zgh I n ds es xs h h' rs rs']
  case lst es=>
   obtain⟨b,ys,e1,q',rs'⟩:=r'
   cases e1
   obtain⟨its,_,ht,_⟩:=I.tuple q
   obtain⟨its',_,hl,_⟩:=I.list q'.sq
   exact absurd rfl (ne_of_list_tuple hl.isList (show s.heap.IsTuple a its.toArray from ht))
  case obj=>cases h'
  case dic=>cases h'
  case dit=>cases h'
  all_goals cases r'
 | n+1,.lst ds,e,v,h,h',r,r'=>by
  simp only[Rep] at r
  obtain⟨a,xs,rfl,q,rs⟩:=r
  cases e<;>simp only[Rep] at r'
  case lst es=>
   obtain⟨b,ys,e1,q',rs'⟩:=r'
   cases e1
   rw[I.list_inj q'.sq q.sq] at rs'
   rw[zgh I n ds es xs h h' rs rs']
  case tup es=>
   obtain⟨b,ys,e1,q',rs'⟩:=r'
   cases e1
   obtain⟨its,_,ht,_⟩:=I.tuple q'
   obtain⟨its',_,hl,_⟩:=I.list q.sq
   exact absurd rfl (ne_of_list_tuple hl.isList (show s.heap.IsTuple a its.toArray from ht))
  case obj=>cases h'
  case dic=>cases h'
  case dit=>cases h'
  all_goals cases r'
 | 0,.obj _ _,_,_,h,_,_,_=>by cases h
 | n+1,.obj _ _,_,_,h,_,_,_=>by cases h
 | 0,.dic _,_,_,h,_,_,_=>by cases h
 | 0,.dit _,_,_,h,_,_,_=>by cases h
 | n+1,.dic _,_,_,h,_,_,_=>by cases h
 | n+1,.dit _,_,_,h,_,_,_=>by cases h
theorem zgh(I:Inv X pins σ H s):∀(n:Nat) (ds es:List D) (vs:List V),(∀d∈ds,okE n d)→(∀d∈es,okE n d)→Reps X.K H vs ds→Reps X.K H vs es→ds=es
 | n,[],[],_,_,_,_,_=>rfl
 | n,d::ds,e::es,v::vs,h,h',r,r'=>by
  simp only[Reps] at r r'
  rw[zgg I n d e v (h d (by simp)) (h' e (by simp)) r.1 r'.1,zgh I n ds es vs (fun x hx=>h x (by simp[hx])) (fun x hx=>h' x (by simp[hx])) r.2 r'.2]
 | n,[],_::_,[],_,_,_,r=>by simp only[Reps] at r
 | n,[],_::_,_::_,_,_,r,_=>by simp only[Reps] at r
 | n,_::_,[],[],_,_,r,_=>by simp only[Reps] at r
 | n,_::_,[],_::_,_,_,_,r=>by simp only[Reps] at r
 | n,_::_,_::_,[],_,_,r,_=>by simp only[Reps] at r
end
theorem zbH{vs:List V}{ds:List D}{us:List Value}{j:Nat}(rv:Vals vs us)(rd:Reps X.K H vs ds)(hj:j<us.toArray.size):∃v,RelV v us.toArray[j]∧Rep X.K H v (ds.getD j .non)∧ds.getD j .non∈ds:=by
 have h1:j<us.length:=by simpa using hj
 have h2:j<vs.length:=by rw[rv.length];exact h1
 have h3:j<ds.length:=by rw[←rd.length];exact h2
 obtain⟨u,hu,ru⟩:=rv.get (List.getElem?_eq_getElem h2)
 obtain⟨d,hd,rd'⟩:=rd.getV (List.getElem?_eq_getElem h2)
 rw[List.getElem?_eq_getElem h1] at hu
 rw[List.getElem?_eq_getElem h3] at hd
 cases hu
 cases hd
 refine⟨vs[j],?_,?_,?_⟩
 ·simpa using ru
 ·simpa[List.getD,h3] using rd'
 ·simp[List.getD,h3]
noncomputable def zjd:D→Bool
 | .non=>true
 | .bl _=>true
 | .int _=>true
 | .str _=>true
 | _=>false
theorem zkf{d e:D}{x y:V}(hd:zjd d=true)(he:zjd e=true)(rx:Rep X.K H x d)(ry:Rep X.K H y e):zlM x=true∧zlM y=true∧eqV x y=eqD d e:=by
 cases d<;>first | cases hd | skip
 all_goals (cases e<;>first | cases he | skip)
 all_goals
  simp only[Rep] at rx ry
  subst rx ry
  exact⟨rfl,rfl,by simp[eqV,eqD]⟩
theorem zg9(I:Inv X pins σ H s):∀(n:Nat) (A:Around) (d e:D) (x y:V) (v u:Value),okE n d→okE n e→A.units+n<cLine→Rep X.K H x d→Rep X.K H y e→RelV x v→RelV y u→EqAt A s v u (eqD d e):=by
 intro n
 induction n with
 | zero=>
  intro A d e x y v u hd he hu rx ry qx qy
  have fd:zjd d=true:=by cases d<;>first | rfl | cases hd
  have fe:zjd e=true:=by cases e<;>first | rfl | cases he
  obtain⟨h1,h2,h3⟩:=zkf fd fe rx ry
  rw[←h3]
  exact zmO qx qy h1 h2
 | succ n ih=>
  intro A d e x y v u hd he hu rx ry qx qy
  have hu0:A.units<cLine:=by omega
  have hu1:A.in1.units+n<cLine:=by show A.units+1+n<cLine;omega
  by_cases fd:zjd d=true
  ·by_cases fe:zjd e=true
   ·obtain⟨h1,h2,h3⟩:=zkf fd fe rx ry
    rw[←h3]
    exact zmO qx qy h1 h2
   ·cases e<;>first | exact absurd rfl fe | skip
    case tup es=>
     simp only[Rep] at ry
     obtain⟨b,ys,rfl,q,rs⟩:=ry
     cases qy
     obtain⟨its,rv,ht,_⟩:=I.tuple q
     have ht':s.heap.IsTuple b its.toArray:=ht
     cases d<;>first | cases fd | skip
     ·simp only[Rep] at rx;subst rx;cases qx;simpa only[eqD] using EqAt.none_tuple ht' hu0
     ·simp only[Rep] at rx;subst rx;cases qx;simpa only[eqD] using EqAt.bool_tuple _ ht' hu0
     ·simp only[Rep] at rx;subst rx;obtain⟨t,rfl⟩:=qx;simpa only[eqD] using EqAt.int_tuple _ t ht' hu0
     ·simp only[Rep] at rx;subst rx;obtain⟨t,rfl⟩:=qx;simpa only[eqD] using EqAt.str_tuple _ t ht' hu0
    case lst es=>
     simp only[Rep] at ry
     obtain⟨b,ys,rfl,q,rs⟩:=ry
     cases qy
     obtain⟨its,rv,ht,_⟩:=I.list q.sq
     have ht':=ht.isList
     cases d<;>first | cases fd | skip
     ·simp only[Rep] at rx;subst rx;cases qx;simpa only[eqD] using EqAt.none_list ht' hu0
     ·simp only[Rep] at rx;subst rx;cases qx;simpa only[eqD] using EqAt.bool_list _ ht' hu0
     ·simp only[Rep] at rx;subst rx;obtain⟨t,rfl⟩:=qx;simpa only[eqD] using EqAt.int_list _ t ht' hu0
     ·simp only[Rep] at rx;subst rx;obtain⟨t,rfl⟩:=qx;simpa only[eqD] using EqAt.str_list _ t ht' hu0
    case obj=>cases he
    case dic=>cases he
    case dit=>cases he
  ·cases d<;>first | exact absurd rfl fd | skip
   case tup ds=>
    have rx0:=rx
    simp only[Rep] at rx
    obtain⟨a,xs,rfl,q,rs⟩:=rx
    cases qx
    obtain⟨its,rv,ht,_⟩:=I.tuple q
    have ht':s.heap.IsTuple a its.toArray:=ht
    cases e
    case non=>simp only[Rep] at ry;subst ry;cases qy;simpa only[eqD] using EqAt.tuple_none ht' hu0
    case bl=>simp only[Rep] at ry;subst ry;cases qy;simpa only[eqD] using EqAt.tuple_bool _ ht' hu0
    case int=>simp only[Rep] at ry;subst ry;obtain⟨t,rfl⟩:=qy;simpa only[eqD] using EqAt.tuple_int _ t ht' hu0
    case str=>simp only[Rep] at ry;subst ry;obtain⟨t,rfl⟩:=qy;simpa only[eqD] using EqAt.tuple_str _ t ht' hu0
    case lst es=>
     simp only[Rep] at ry
     obtain⟨b,ys,rfl,q',rs'⟩:=ry
     cases qy
     obtain⟨its',rv',hl,_⟩:=I.list q'.sq
     simpa only[eqD] using EqAt.tuple_list ht' hl.isList hu0
    case tup es=>
     have ry0:=ry
     simp only[Rep] at ry
     obtain⟨b,ys,rfl,q',rs'⟩:=ry
     cases qy
     obtain⟨its',rv',ht2,_⟩:=I.tuple q'
     by_cases hab:a=b
     ·subst hab
      have e0:=zgg I (n+1) _ _ _ hd he rx0 ry0
      rw[←e0,zdq (n+1) _ hd]
      exact EqAt.same _
     ·refine EqAt.of_refs hab ?_
      have h:=RcAt.tuples (e:=fun j=>eqD (ds.getD j .non) (es.getD j .non)) ht' (show s.heap.IsTuple b its'.toArray from ht2) hu0 fun j h1 h2=>by
       obtain⟨v1,a1,b1,c1⟩:=zbH rv rs h1
       obtain⟨v2,a2,b2,c2⟩:=zbH rv' rs' h2
       exact ih A.in1 _ _ v1 v2 _ _ (hd _ c1) (he _ c2) hu1 b1 b2 a1 a2
      have l1:its.toArray.size=ds.length:=by rw[List.size_toArray,←rv.length,rs.length]
      have l2:its'.toArray.size=es.length:=by rw[List.size_toArray,←rv'.length,rs'.length]
      rw[l1,l2,zgf] at h
      simpa only[eqD] using h
    case obj=>cases he
    case dic=>cases he
    case dit=>cases he
   case lst ds=>
    have rx0:=rx
    simp only[Rep] at rx
    obtain⟨a,xs,rfl,q,rs⟩:=rx
    cases qx
    obtain⟨its,rv,ht,_⟩:=I.list q.sq
    have ht':=ht.isList
    cases e
    case non=>simp only[Rep] at ry;subst ry;cases qy;simpa only[eqD] using EqAt.list_none ht' hu0
    case bl=>simp only[Rep] at ry;subst ry;cases qy;simpa only[eqD] using EqAt.list_bool _ ht' hu0
    case int=>simp only[Rep] at ry;subst ry;obtain⟨t,rfl⟩:=qy;simpa only[eqD] using EqAt.list_int _ t ht' hu0
    case str=>simp only[Rep] at ry;subst ry;obtain⟨t,rfl⟩:=qy;simpa only[eqD] using EqAt.list_str _ t ht' hu0
    case tup es=>
     simp only[Rep] at ry
     obtain⟨b,ys,rfl,q',rs'⟩:=ry
     cases qy
     obtain⟨its',rv',hl,_⟩:=I.tuple q'
     simpa only[eqD] using EqAt.list_tuple ht' (show s.heap.IsTuple b its'.toArray from hl) hu0
    case lst es=>
     have ry0:=ry
     simp only[Rep] at ry
     obtain⟨b,ys,rfl,q',rs'⟩:=ry
     cases qy
     obtain⟨its',rv',ht2,_⟩:=I.list q'.sq
     by_cases hab:a=b
     ·subst hab
      have e0:=zgg I (n+1) _ _ _ hd he rx0 ry0
      rw[←e0,zdq (n+1) _ hd]
      exact EqAt.same _
     ·refine EqAt.of_refs hab ?_
      have l1:its.toArray.size=ds.length:=by rw[List.size_toArray,←rv.length,rs.length]
      have l2:its'.toArray.size=es.length:=by rw[List.size_toArray,←rv'.length,rs'.length]
      by_cases hl:ds.length=es.length
      ·have h:=RcAt.lists (e:=fun j=>eqD (ds.getD j .non) (es.getD j .non)) ht' ht2.isList (by rw[l1,l2,hl]) hu0 fun j h1 h2=>by
        obtain⟨v1,a1,b1,c1⟩:=zbH rv rs h1
        obtain⟨v2,a2,b2,c2⟩:=zbH rv' rs' h2
        exact ih A.in1 _ _ v1 v2 _ _ (hd _ c1) (he _ c2) hu1 b1 b2 a1 a2
       rw[l1,←zds ds es hl] at h
       simpa only[eqD] using h
      ·have h:=RcAt.lists_lengths (A:=A) ht' ht2.isList (by rw[l1,l2];simpa using hl) hu0
       simp only[eqD,zdr hl]
       exact h
    case obj=>cases he
    case dic=>cases he
    case dit=>cases he
   case obj=>cases hd
   case dic=>cases hd
   case dit=>cases hd
end
end L2
namespace L2
open PySem PySem.Spec PyProof.Rows PySem.SeqAt
section
variable {X:Cx} {pins:List (Addr×Obj)} {σ:St} {H:Hp} {s:Shared}
theorem zoV(I:Inv X pins σ H s):∀(n:Nat) (A:Around) (d e:D) (x y:V) (v u:Value),okE n d→okE n e→A.units+n<cLine→Rep X.K H x d→Rep X.K H y e→RelV x v→RelV y u→RcAt A s v u (eqD d e):=by
 intro n A d e x y v u hd he hu rx ry qx qy
 have hu0:A.units<cLine:=by omega
 cases d
 case non=>
  simp only[Rep] at rx;subst rx;cases qx
  cases e
  case non=>simp only[Rep] at ry;subst ry;cases qy;simpa only[eqD,Bool.not_true] using RcAt.none_none
  case bl=>simp only[Rep] at ry;subst ry;cases qy;simpa only[eqD,Bool.not_false] using RcAt.none_bool _
  case int=>simp only[Rep] at ry;subst ry;obtain⟨t,rfl⟩:=qy;simpa only[eqD,Bool.not_false] using RcAt.none_int _ t
  case str=>simp only[Rep] at ry;subst ry;obtain⟨t,rfl⟩:=qy;simpa only[eqD,Bool.not_false] using RcAt.none_str _ t
  case tup=>
   simp only[Rep] at ry;obtain⟨b,ys,rfl,q,rs⟩:=ry;cases qy;obtain⟨its,rv,ht,_⟩:=I.tuple q
   simpa only[eqD,Bool.not_false] using RcAt.none_tuple (show s.heap.IsTuple b its.toArray from ht) hu0
  case lst=>
   simp only[Rep] at ry;obtain⟨b,ys,rfl,q,rs⟩:=ry;cases qy;obtain⟨its,rv,ht,_⟩:=I.list q.sq
   simpa only[eqD,Bool.not_false] using RcAt.none_list ht.isList hu0
  case obj=>cases n<;>cases he
  case dic=>cases n<;>cases he
  case dit=>cases n<;>cases he
 case bl a=>
  simp only[Rep] at rx;subst rx;cases qx
  cases e
  case non=>simp only[Rep] at ry;subst ry;cases qy;simpa only[eqD,Bool.not_false] using RcAt.bool_none _
  case bl=>simp only[Rep] at ry;subst ry;cases qy;simpa only[eqD] using RcAt.bool_bool _ _
  case int=>simp only[Rep] at ry;subst ry;obtain⟨t,rfl⟩:=qy;simpa only[eqD] using RcAt.bool_int _ _ t
  case str=>simp only[Rep] at ry;subst ry;obtain⟨t,rfl⟩:=qy;simpa only[eqD,Bool.not_false] using RcAt.bool_str _ _ t
  case tup=>
   simp only[Rep] at ry;obtain⟨b,ys,rfl,q,rs⟩:=ry;cases qy;obtain⟨its,rv,ht,_⟩:=I.tuple q
   simpa only[eqD,Bool.not_false] using RcAt.bool_tuple _ (show s.heap.IsTuple b its.toArray from ht) hu0
  case lst=>
   simp only[Rep] at ry;obtain⟨b,ys,rfl,q,rs⟩:=ry;cases qy;obtain⟨its,rv,ht,_⟩:=I.list q.sq
   simpa only[eqD,Bool.not_false] using RcAt.bool_list _ ht.isList hu0
  case obj=>cases n<;>cases he
  case dic=>cases n<;>cases he
  case dit=>cases n<;>cases he
 case int a=>
  simp only[Rep] at rx;subst rx;obtain⟨t0,rfl⟩:=qx
  cases e
  case non=>simp only[Rep] at ry;subst ry;cases qy;simpa only[eqD,Bool.not_false] using RcAt.int_none _ t0
  case bl=>simp only[Rep] at ry;subst ry;cases qy;simpa only[eqD] using RcAt.int_bool _ t0 _
  case int=>simp only[Rep] at ry;subst ry;obtain⟨t,rfl⟩:=qy;simpa only[eqD] using RcAt.int_int _ t0 _ t
  case str=>simp only[Rep] at ry;subst ry;obtain⟨t,rfl⟩:=qy;simpa only[eqD,Bool.not_false] using RcAt.int_str _ t0 _ t
  case tup=>
   simp only[Rep] at ry;obtain⟨b,ys,rfl,q,rs⟩:=ry;cases qy;obtain⟨its,rv,ht,_⟩:=I.tuple q
   simpa only[eqD,Bool.not_false] using RcAt.int_tuple _ t0 (show s.heap.IsTuple b its.toArray from ht) hu0
  case lst=>
   simp only[Rep] at ry;obtain⟨b,ys,rfl,q,rs⟩:=ry;cases qy;obtain⟨its,rv,ht,_⟩:=I.list q.sq
   simpa only[eqD,Bool.not_false] using RcAt.int_list _ t0 ht.isList hu0
  case obj=>cases n<;>cases he
  case dic=>cases n<;>cases he
  case dit=>cases n<;>cases he
 case str a=>
  simp only[Rep] at rx;subst rx;obtain⟨t0,rfl⟩:=qx
  cases e
  case non=>simp only[Rep] at ry;subst ry;cases qy;simpa only[eqD,Bool.not_false] using RcAt.str_none _ t0
  case bl=>simp only[Rep] at ry;subst ry;cases qy;simpa only[eqD,Bool.not_false] using RcAt.str_bool _ t0 _
  case int=>simp only[Rep] at ry;subst ry;obtain⟨t,rfl⟩:=qy;simpa only[eqD,Bool.not_false] using RcAt.str_int _ t0 _ t
  case str=>simp only[Rep] at ry;subst ry;obtain⟨t,rfl⟩:=qy;simpa only[eqD] using RcAt.str_str _ t0 _ t
  case tup=>
   simp only[Rep] at ry;obtain⟨b,ys,rfl,q,rs⟩:=ry;cases qy;obtain⟨its,rv,ht,_⟩:=I.tuple q
   simpa only[eqD,Bool.not_false] using RcAt.str_tuple _ t0 (show s.heap.IsTuple b its.toArray from ht) hu0
  case lst=>
   simp only[Rep] at ry;obtain⟨b,ys,rfl,q,rs⟩:=ry;cases qy;obtain⟨its,rv,ht,_⟩:=I.list q.sq
   simpa only[eqD,Bool.not_false] using RcAt.str_list _ t0 ht.isList hu0
  case obj=>cases n<;>cases he
  case dic=>cases n<;>cases he
  case dit=>cases n<;>cases he
 case tup ds=>
  cases n with
  | zero=>cases hd
  | succ n=>
  have hu1:A.in1.units+n<cLine:=by show A.units+1+n<cLine;omega
  simp only[Rep] at rx
  obtain⟨a,xs,rfl,q,rs⟩:=rx
  cases qx
  obtain⟨its,rv,ht,_⟩:=I.tuple q
  have ht':s.heap.IsTuple a its.toArray:=ht
  cases e
  case non=>simp only[Rep] at ry;subst ry;cases qy;simpa only[eqD,Bool.not_false] using RcAt.tuple_none ht' hu0
  case bl=>simp only[Rep] at ry;subst ry;cases qy;simpa only[eqD,Bool.not_false] using RcAt.tuple_bool _ ht' hu0
  case int=>simp only[Rep] at ry;subst ry;obtain⟨t,rfl⟩:=qy;simpa only[eqD,Bool.not_false] using RcAt.tuple_int _ t ht' hu0
  case str=>simp only[Rep] at ry;subst ry;obtain⟨t,rfl⟩:=qy;simpa only[eqD,Bool.not_false] using RcAt.tuple_str _ t ht' hu0
  case lst es=>
   simp only[Rep] at ry
   obtain⟨b,ys,rfl,q',rs'⟩:=ry
   cases qy
   obtain⟨its',rv',hl,_⟩:=I.list q'.sq
   simpa only[eqD,Bool.not_false] using RcAt.tuple_list ht' hl.isList hu0
  case tup es=>
   simp only[Rep] at ry
   obtain⟨b,ys,rfl,q',rs'⟩:=ry
   cases qy
   obtain⟨its',rv',ht2,_⟩:=I.tuple q'
   have h:=RcAt.tuples (e:=fun j=>eqD (ds.getD j .non) (es.getD j .non)) ht' (show s.heap.IsTuple b its'.toArray from ht2) hu0 fun j h1 h2=>by
    obtain⟨v1,a1,b1,c1⟩:=zbH rv rs h1
    obtain⟨v2,a2,b2,c2⟩:=zbH rv' rs' h2
    exact zg9 I n A.in1 _ _ v1 v2 _ _ (hd _ c1) (he _ c2) hu1 b1 b2 a1 a2
   have l1:its.toArray.size=ds.length:=by rw[List.size_toArray,←rv.length,rs.length]
   have l2:its'.toArray.size=es.length:=by rw[List.size_toArray,←rv'.length,rs'.length]
   rw[l1,l2,zgf] at h
   simpa only[eqD] using h
  case obj=>cases he
  case dic=>cases he
  case dit=>cases he
 case lst ds=>
  cases n with
  | zero=>cases hd
  | succ n=>
  have hu1:A.in1.units+n<cLine:=by show A.units+1+n<cLine;omega
  simp only[Rep] at rx
  obtain⟨a,xs,rfl,q,rs⟩:=rx
  cases qx
  obtain⟨its,rv,ht,_⟩:=I.list q.sq
  have ht':=ht.isList
  cases e
  case non=>simp only[Rep] at ry;subst ry;cases qy;simpa only[eqD,Bool.not_false] using RcAt.list_none ht' hu0
  case bl=>simp only[Rep] at ry;subst ry;cases qy;simpa only[eqD,Bool.not_false] using RcAt.list_bool _ ht' hu0
  case int=>simp only[Rep] at ry;subst ry;obtain⟨t,rfl⟩:=qy;simpa only[eqD,Bool.not_false] using RcAt.list_int _ t ht' hu0
  case str=>simp only[Rep] at ry;subst ry;obtain⟨t,rfl⟩:=qy;simpa only[eqD,Bool.not_false] using RcAt.list_str _ t ht' hu0
  case tup es=>
   simp only[Rep] at ry
   obtain⟨b,ys,rfl,q',rs'⟩:=ry
   cases qy
   obtain⟨its',rv',hl,_⟩:=I.tuple q'
   simpa only[eqD,Bool.not_false] using RcAt.list_tuple ht' (show s.heap.IsTuple b its'.toArray from hl) hu0
  case lst es=>
   simp only[Rep] at ry
   obtain⟨b,ys,rfl,q',rs'⟩:=ry
   cases qy
   obtain⟨its',rv',ht2,_⟩:=I.list q'.sq
   have l1:its.toArray.size=ds.length:=by rw[List.size_toArray,←rv.length,rs.length]
   have l2:its'.toArray.size=es.length:=by rw[List.size_toArray,←rv'.length,rs'.length]
   by_cases hl:ds.length=es.length
   ·have h:=RcAt.lists (e:=fun j=>eqD (ds.getD j .non) (es.getD j .non)) ht' ht2.isList (by rw[l1,l2,hl]) hu0 fun j h1 h2=>by
     obtain⟨v1,a1,b1,c1⟩:=zbH rv rs h1
     obtain⟨v2,a2,b2,c2⟩:=zbH rv' rs' h2
     exact zg9 I n A.in1 _ _ v1 v2 _ _ (hd _ c1) (he _ c2) hu1 b1 b2 a1 a2
    rw[l1,←zds ds es hl] at h
    simpa only[eqD] using h
   ·have h:=RcAt.lists_lengths (A:=A) ht' ht2.isList (by rw[l1,l2];simpa using hl) hu0
    simp only[eqD,zdr hl]
    exact h
  case obj=>cases he
  case dic=>cases he
  case dit=>cases he
 case obj=>cases n<;>cases hd
 case dic=>cases n<;>cases hd
 case dit=>cases n<;>cases hd
theorem zlU(I:Inv X pins σ H s):∀(n:Nat) (A:Around) (d e:D) (x y:V) (v u:Value),okE n d→okE n e→A.units+n<cLine→Rep X.K H x d→Rep X.K H y e→RelV x v→RelV y u→RcNeAt A s v u (!eqD d e):=by
 intro n A d e x y v u hd he hu rx ry qx qy
 have hu0:A.units<cLine:=by omega
 cases d
 case non=>
  simp only[Rep] at rx;subst rx;cases qx
  cases e
  case non=>simp only[Rep] at ry;subst ry;cases qy;simpa only[eqD,Bool.not_true] using RcNeAt.none_none
  case bl=>simp only[Rep] at ry;subst ry;cases qy;simpa only[eqD,Bool.not_false] using RcNeAt.none_bool _
  case int=>simp only[Rep] at ry;subst ry;obtain⟨t,rfl⟩:=qy;simpa only[eqD,Bool.not_false] using RcNeAt.none_int _ t
  case str=>simp only[Rep] at ry;subst ry;obtain⟨t,rfl⟩:=qy;simpa only[eqD,Bool.not_false] using RcNeAt.none_str _ t
  case tup=>
   simp only[Rep] at ry;obtain⟨b,ys,rfl,q,rs⟩:=ry;cases qy;obtain⟨its,rv,ht,_⟩:=I.tuple q
   simpa only[eqD,Bool.not_false] using RcNeAt.none_tuple (show s.heap.IsTuple b its.toArray from ht) hu0
  case lst=>
   simp only[Rep] at ry;obtain⟨b,ys,rfl,q,rs⟩:=ry;cases qy;obtain⟨its,rv,ht,_⟩:=I.list q.sq
   simpa only[eqD,Bool.not_false] using RcNeAt.none_list ht.isList hu0
  case obj=>cases n<;>cases he
  case dic=>cases n<;>cases he
  case dit=>cases n<;>cases he
 case bl a=>
  simp only[Rep] at rx;subst rx;cases qx
  cases e
  case non=>simp only[Rep] at ry;subst ry;cases qy;simpa only[eqD,Bool.not_false] using RcNeAt.bool_none _
  case bl=>simp only[Rep] at ry;subst ry;cases qy;simpa only[eqD] using RcNeAt.bool_bool _ _
  case int=>simp only[Rep] at ry;subst ry;obtain⟨t,rfl⟩:=qy;simpa only[eqD] using RcNeAt.bool_int _ _ t
  case str=>simp only[Rep] at ry;subst ry;obtain⟨t,rfl⟩:=qy;simpa only[eqD,Bool.not_false] using RcNeAt.bool_str _ _ t
  case tup=>
   simp only[Rep] at ry;obtain⟨b,ys,rfl,q,rs⟩:=ry;cases qy;obtain⟨its,rv,ht,_⟩:=I.tuple q
   simpa only[eqD,Bool.not_false] using RcNeAt.bool_tuple _ (show s.heap.IsTuple b its.toArray from ht) hu0
  case lst=>
   simp only[Rep] at ry;obtain⟨b,ys,rfl,q,rs⟩:=ry;cases qy;obtain⟨its,rv,ht,_⟩:=I.list q.sq
   simpa only[eqD,Bool.not_false] using RcNeAt.bool_list _ ht.isList hu0
  case obj=>cases n<;>cases he
  case dic=>cases n<;>cases he
  case dit=>cases n<;>cases he
 case int a=>
  simp only[Rep] at rx;subst rx;obtain⟨t0,rfl⟩:=qx
  cases e
  case non=>simp only[Rep] at ry;subst ry;cases qy;simpa only[eqD,Bool.not_false] using RcNeAt.int_none _ t0
  case bl=>simp only[Rep] at ry;subst ry;cases qy;simpa only[eqD] using RcNeAt.int_bool _ t0 _
  case int=>simp only[Rep] at ry;subst ry;obtain⟨t,rfl⟩:=qy;simpa only[eqD] using RcNeAt.int_int _ t0 _ t
  case str=>simp only[Rep] at ry;subst ry;obtain⟨t,rfl⟩:=qy;simpa only[eqD,Bool.not_false] using RcNeAt.int_str _ t0 _ t
  case tup=>
   simp only[Rep] at ry;obtain⟨b,ys,rfl,q,rs⟩:=ry;cases qy;obtain⟨its,rv,ht,_⟩:=I.tuple q
   simpa only[eqD,Bool.not_false] using RcNeAt.int_tuple _ t0 (show s.heap.IsTuple b its.toArray from ht) hu0
  case lst=>
   simp only[Rep] at ry;obtain⟨b,ys,rfl,q,rs⟩:=ry;cases qy;obtain⟨its,rv,ht,_⟩:=I.list q.sq
   simpa only[eqD,Bool.not_false] using RcNeAt.int_list _ t0 ht.isList hu0
  case obj=>cases n<;>cases he
  case dic=>cases n<;>cases he
  case dit=>cases n<;>cases he
 case str a=>
  simp only[Rep] at rx;subst rx;obtain⟨t0,rfl⟩:=qx
  cases e
  case non=>simp only[Rep] at ry;subst ry;cases qy;simpa only[eqD,Bool.not_false] using RcNeAt.str_none _ t0
  case bl=>simp only[Rep] at ry;subst ry;cases qy;simpa only[eqD,Bool.not_false] using RcNeAt.str_bool _ t0 _
  case int=>simp only[Rep] at ry;subst ry;obtain⟨t,rfl⟩:=qy;simpa only[eqD,Bool.not_false] using RcNeAt.str_int _ t0 _ t
  case str=>simp only[Rep] at ry;subst ry;obtain⟨t,rfl⟩:=qy;simpa only[eqD] using RcNeAt.str_str _ t0 _ t
  case tup=>
   simp only[Rep] at ry;obtain⟨b,ys,rfl,q,rs⟩:=ry;cases qy;obtain⟨its,rv,ht,_⟩:=I.tuple q
   simpa only[eqD,Bool.not_false] using RcNeAt.str_tuple _ t0 (show s.heap.IsTuple b its.toArray from ht) hu0
  case lst=>
   simp only[Rep] at ry;obtain⟨b,ys,rfl,q,rs⟩:=ry;cases qy;obtain⟨its,rv,ht,_⟩:=I.list q.sq
   simpa only[eqD,Bool.not_false] using RcNeAt.str_list _ t0 ht.isList hu0
  case obj=>cases n<;>cases he
  case dic=>cases n<;>cases he
  case dit=>cases n<;>cases he
 case tup ds=>
  cases n with
  | zero=>cases hd
  | succ n=>
  have hu1:A.in1.units+n<cLine:=by show A.units+1+n<cLine;omega
  simp only[Rep] at rx
  obtain⟨a,xs,rfl,q,rs⟩:=rx
  cases qx
  obtain⟨its,rv,ht,_⟩:=I.tuple q
  have ht':s.heap.IsTuple a its.toArray:=ht
  cases e
  case non=>simp only[Rep] at ry;subst ry;cases qy;simpa only[eqD,Bool.not_false] using RcNeAt.tuple_none ht' hu0
  case bl=>simp only[Rep] at ry;subst ry;cases qy;simpa only[eqD,Bool.not_false] using RcNeAt.tuple_bool _ ht' hu0
  case int=>simp only[Rep] at ry;subst ry;obtain⟨t,rfl⟩:=qy;simpa only[eqD,Bool.not_false] using RcNeAt.tuple_int _ t ht' hu0
  case str=>simp only[Rep] at ry;subst ry;obtain⟨t,rfl⟩:=qy;simpa only[eqD,Bool.not_false] using RcNeAt.tuple_str _ t ht' hu0
  case lst es=>
   simp only[Rep] at ry
   obtain⟨b,ys,rfl,q',rs'⟩:=ry
   cases qy
   obtain⟨its',rv',hl,_⟩:=I.list q'.sq
   simpa only[eqD,Bool.not_false] using RcNeAt.tuple_list ht' hl.isList hu0
  case tup es=>
   simp only[Rep] at ry
   obtain⟨b,ys,rfl,q',rs'⟩:=ry
   cases qy
   obtain⟨its',rv',ht2,_⟩:=I.tuple q'
   have h:=RcNeAt.tuples (e:=fun j=>eqD (ds.getD j .non) (es.getD j .non)) ht' (show s.heap.IsTuple b its'.toArray from ht2) hu0 fun j h1 h2=>by
    obtain⟨v1,a1,b1,c1⟩:=zbH rv rs h1
    obtain⟨v2,a2,b2,c2⟩:=zbH rv' rs' h2
    exact zg9 I n A.in1 _ _ v1 v2 _ _ (hd _ c1) (he _ c2) hu1 b1 b2 a1 a2
   have l1:its.toArray.size=ds.length:=by rw[List.size_toArray,←rv.length,rs.length]
   have l2:its'.toArray.size=es.length:=by rw[List.size_toArray,←rv'.length,rs'.length]
   rw[l1,l2,zgf] at h
   simpa only[eqD] using h
  case obj=>cases he
  case dic=>cases he
  case dit=>cases he
 case lst ds=>
  cases n with
  | zero=>cases hd
  | succ n=>
  have hu1:A.in1.units+n<cLine:=by show A.units+1+n<cLine;omega
  simp only[Rep] at rx
  obtain⟨a,xs,rfl,q,rs⟩:=rx
  cases qx
  obtain⟨its,rv,ht,_⟩:=I.list q.sq
  have ht':=ht.isList
  cases e
  case non=>simp only[Rep] at ry;subst ry;cases qy;simpa only[eqD,Bool.not_false] using RcNeAt.list_none ht' hu0
  case bl=>simp only[Rep] at ry;subst ry;cases qy;simpa only[eqD,Bool.not_false] using RcNeAt.list_bool _ ht' hu0
  case int=>simp only[Rep] at ry;subst ry;obtain⟨t,rfl⟩:=qy;simpa only[eqD,Bool.not_false] using RcNeAt.list_int _ t ht' hu0
  case str=>simp only[Rep] at ry;subst ry;obtain⟨t,rfl⟩:=qy;simpa only[eqD,Bool.not_false] using RcNeAt.list_str _ t ht' hu0
  case tup es=>
   simp only[Rep] at ry
   obtain⟨b,ys,rfl,q',rs'⟩:=ry
   cases qy
   obtain⟨its',rv',hl,_⟩:=I.tuple q'
   simpa only[eqD,Bool.not_false] using RcNeAt.list_tuple ht' (show s.heap.IsTuple b its'.toArray from hl) hu0
  case lst es=>
   simp only[Rep] at ry
   obtain⟨b,ys,rfl,q',rs'⟩:=ry
   cases qy
   obtain⟨its',rv',ht2,_⟩:=I.list q'.sq
   have l1:its.toArray.size=ds.length:=by rw[List.size_toArray,←rv.length,rs.length]
   have l2:its'.toArray.size=es.length:=by rw[List.size_toArray,←rv'.length,rs'.length]
   by_cases hl:ds.length=es.length
   ·have h:=RcNeAt.lists (e:=fun j=>eqD (ds.getD j .non) (es.getD j .non)) ht' ht2.isList (by rw[l1,l2,hl]) hu0 fun j h1 h2=>by
     obtain⟨v1,a1,b1,c1⟩:=zbH rv rs h1
     obtain⟨v2,a2,b2,c2⟩:=zbH rv' rs' h2
     exact zg9 I n A.in1 _ _ v1 v2 _ _ (hd _ c1) (he _ c2) hu1 b1 b2 a1 a2
    rw[l1,←zds ds es hl] at h
    simpa only[eqD] using h
   ·have h:=RcNeAt.lists_lengths (A:=A) ht' ht2.isList (by rw[l1,l2];simpa using hl) hu0
    simp only[eqD,zdr hl]
    exact h
  case obj=>cases he
  case dic=>cases he
  case dit=>cases he
 case obj=>cases n<;>cases hd
 case dic=>cases n<;>cases hd
 case dit=>cases n<;>cases hd
end
section
variable {X:Cx}
noncomputable def oEq:O2:=fun d e Q=>okE 9 d∧okE 9 e∧Q (.fz (.bl (eqD d e)))
noncomputable def oNe:O2:=fun d e Q=>okE 9 d∧okE 9 e∧Q (.fz (.bl (!eqD d e)))
theorem zdP(hu:X.A.units+64<cLine):OpP X (compareOp .Eq) oEq:=by
 refine⟨fun x y H Q=>∃d e,okE 9 d∧okE 9 e∧Rep X.K H x d∧Rep X.K H y e∧Q (.bl (eqD d e)) H,fun pins s σ H x y v u Q I rx ry h=>?_,fun G H x y d e Q P s rx ry h k=>?_⟩
 ·obtain⟨d,e,hd,he,rd,re,q⟩:=h
  exact zoV I 9 X.A d e x y v u hd he (by omega) rd re rx ry _ _ _ _ ⟨.bl _,H,I,rfl,q⟩
 ·exact⟨d,e,h.1,h.2.1,rx.mono s,ry.mono s,k _ _ _ G (.refl s) (fzR (zbq _ _ _)) h.2.2⟩
theorem zqj(hu:X.A.units+64<cLine):OpP X (compareOp .NotEq) oNe:=by
 refine⟨fun x y H Q=>∃d e,okE 9 d∧okE 9 e∧Rep X.K H x d∧Rep X.K H y e∧Q (.bl (!eqD d e)) H,fun pins s σ H x y v u Q I rx ry h=>?_,fun G H x y d e Q P s rx ry h k=>?_⟩
 ·obtain⟨d,e,hd,he,rd,re,q⟩:=h
  exact zlU I 9 X.A d e x y v u hd he (by omega) rd re rx ry _ _ _ _ ⟨.bl _,H,I,rfl,q⟩
 ·exact⟨d,e,h.1,h.2.1,rx.mono s,ry.mono s,k _ _ _ G (.refl s) (fzR (zbq _ _ _)) h.2.2⟩
noncomputable def inD(d:D)(ds:List D):Bool:=ds.any fun e=>eqD e d
noncomputable def zgi(neg:Bool):O2:=fun d e Q=>match d,e with
 | .str x,.str y=>Q (.fz (.bl (if neg then !(!(Builtin.Str.occurrences y x 0 y.length 1).isEmpty) else !(Builtin.Str.occurrences y x 0 y.length 1).isEmpty)))
 | d,.lst es=>okE 8 d∧(∀e∈es,okE 8 e)∧Q (.fz (.bl (if neg then !inD d es else inD d es)))
 | d,.tup es=>okE 8 d∧(∀e∈es,okE 8 e)∧Q (.fz (.bl (if neg then !inD d es else inD d es)))
 | _,_=>False
noncomputable def eqW(X:Cx)(H:Hp)(d:D)(u:Value):Bool:=open Classical in if h:∃(v:V) (e:D),okE 8 e∧RelV v u∧Rep X.K H v e then eqD h.choose_spec.choose d else false
theorem zkg{pins:List (Addr×Obj)}{σ:St}{H:Hp}{s:Shared}(I:Inv X pins σ H s){d e:D}{v:V}{u:Value}(he:okE 8 e)(rv:RelV v u)(re:Rep X.K H v e):eqW X H d u=eqD e d:=by
 have h:∃(v:V) (e:D),okE 8 e∧RelV v u∧Rep X.K H v e:=⟨v,e,he,rv,re⟩
 unfold eqW
 rw[dif_pos h]
 obtain⟨h1,h2,h3⟩:=h.choose_spec.choose_spec
 have e1:h.choose=v:=RelV.inj h2 rv
 have h4:∀v',v'=v→∀e',okE 8 e'→Rep X.K H v' e'→e'=e:=fun v' hv e' o r=>by subst hv;exact zgg I 8 _ e _ o he r re
 rw[h4 _ e1 _ h1 h3]
theorem zha{pins:List (Addr×Obj)}{σ:St}{H:Hp}{s:Shared}(I:Inv X pins σ H s){d:D}:∀{es:List D} {vs:List V} {us:List Value},(∀e∈es,okE 8 e)→Vals vs us→Reps X.K H vs es→us.any (eqW X H d)=inD d es
 | [],_,_,_,rv,re=>by
  cases rv
  ·rfl
  ·simp only[Reps] at re
 | e::es,_,_,h,rv,re=>by
  cases rv with
  | nil=>simp only[Reps] at re
  | cons r t=>
   simp only[Reps] at re
   rw[List.any_cons,zkg I (h e (by simp)) r re.1,zha I (fun x hx=>h x (by simp[hx])) t re.2]
   rfl
theorem zdt{pins:List (Addr×Obj)}{σ:St}{H:Hp}{s:Shared}{A:Around}(I:Inv X pins σ H s){d:D}{x:V}{v:Value}(hd:okE 8 d)(hu:A.units+8<cLine)(rx:Rep X.K H x d)(qx:RelV x v){es:List D}{vs:List V}{us:List Value}
  (he:∀e∈es,okE 8 e) (rv:Vals vs us) (re:Reps X.K H vs es):∀u∈us.toArray,EqAt A s u v (eqW X H d u):=fun u hu'=>by
 obtain⟨j,hj,e⟩:=Array.mem_iff_getElem.mp hu'
 obtain⟨w,a1,b1,c1⟩:=zbH rv re hj
 rw[e] at a1
 rw[zkg I (he _ c1) a1 b1]
 exact zg9 I 8 A _ _ w x _ _ (he _ c1) hd hu b1 rx a1 qx
theorem zoW(hu:X.A.units+64<cLine):OpR X (compareOp .In) (fun x y H Q=>∃p d es vs,y=.ref p∧(SqL X.K H p vs∨SqT X.K H p vs)∧okE 8 d∧(∀e∈es,okE 8 e)∧Rep X.K H x d∧Reps X.K H vs es∧Q (.bl (inD d es)) H):=by
 intro pins s σ H x y v u Q I rx ry h
 obtain⟨p,d,es,vs,rfl,hq,hd,he,rd,re,q⟩:=h
 cases ry
 rcases hq with hq | hq
 ·obtain⟨its,r,pl,hz⟩:=I.list hq
  refine SeqAt.in_listAt (eqW X H d) pl.isList (zdt I hd (by show X.A.units+1+8<cLine;omega) rd rx he r re) ⟨.bl _,H,I,rfl,?_⟩
  rw[show its.toArray.any (eqW X H d)=its.any (eqW X H d) by simp,zha I he r re]
  exact q
 ·obtain⟨its,r,pl,hz⟩:=I.tuple hq
  refine SeqAt.in_tupleAt (eqW X H d) pl (zdt I hd (by show X.A.units+1+8<cLine;omega) rd rx he r re) ⟨.bl _,H,I,rfl,?_⟩
  rw[show its.toArray.any (eqW X H d)=its.any (eqW X H d) by simp,zha I he r re]
  exact q
theorem zkh(hu:X.A.units+64<cLine):OpR X (compareOp .NotIn) (fun x y H Q=>∃p d es vs,y=.ref p∧(SqL X.K H p vs∨SqT X.K H p vs)∧okE 8 d∧(∀e∈es,okE 8 e)∧Rep X.K H x d∧Reps X.K H vs es∧Q (.bl (!inD d es)) H):=by
 intro pins s σ H x y v u Q I rx ry h
 obtain⟨p,d,es,vs,rfl,hq,hd,he,rd,re,q⟩:=h
 cases ry
 rcases hq with hq | hq
 ·obtain⟨its,r,pl,hz⟩:=I.list hq
  refine SeqAt.notIn_listAt (eqW X H d) pl.isList (zdt I hd (by show X.A.units+1+8<cLine;omega) rd rx he r re) ⟨.bl _,H,I,rfl,?_⟩
  rw[show its.toArray.any (eqW X H d)=its.any (eqW X H d) by simp,zha I he r re]
  exact q
 ·obtain⟨its,r,pl,hz⟩:=I.tuple hq
  refine SeqAt.notIn_tupleAt (eqW X H d) pl (zdt I hd (by show X.A.units+1+8<cLine;omega) rd rx he r re) ⟨.bl _,H,I,rfl,?_⟩
  rw[show its.toArray.any (eqW X H d)=its.any (eqW X H d) by simp,zha I he r re]
  exact q
theorem zmP(hu:X.A.units+64<cLine):OpP X (compareOp .In) (zgi false):=by
 refine⟨_,op_in_str.or (zoW hu),fun G H x y d e Q P s rx ry h k=>?_⟩
 unfold zgi at h
 split at h
 ·simp only[Rep] at rx ry
  exact .inl ⟨_,_,rx,ry,k _ _ _ G (.refl s) (fzR (zbq _ _ _)) h⟩
 ·simp only[Rep] at ry
  obtain⟨a,ys,rfl,hy,rys⟩:=ry
  exact .inr ⟨a,_,_,ys,rfl,.inl ((s.rdl hy).sq),h.1,h.2.1,rx.mono s,rys.mono s,k _ _ _ G (.refl s) (fzR (zbq _ _ _)) h.2.2⟩
 ·simp only[Rep] at ry
  obtain⟨a,ys,rfl,hy,rys⟩:=ry
  exact .inr ⟨a,_,_,ys,rfl,.inr (s.seqT hy),h.1,h.2.1,rx.mono s,rys.mono s,k _ _ _ G (.refl s) (fzR (zbq _ _ _)) h.2.2⟩
 ·exact h.elim
theorem zki(hu:X.A.units+64<cLine):OpP X (compareOp .NotIn) (zgi true):=by
 refine⟨_,op_notIn_str.or (zkh hu),fun G H x y d e Q P s rx ry h k=>?_⟩
 unfold zgi at h
 split at h
 ·simp only[Rep] at rx ry
  exact .inl ⟨_,_,rx,ry,k _ _ _ G (.refl s) (fzR (zbq _ _ _)) h⟩
 ·simp only[Rep] at ry
  obtain⟨a,ys,rfl,hy,rys⟩:=ry
  exact .inr ⟨a,_,_,ys,rfl,.inl ((s.rdl hy).sq),h.1,h.2.1,rx.mono s,rys.mono s,k _ _ _ G (.refl s) (fzR (zbq _ _ _)) h.2.2⟩
 ·simp only[Rep] at ry
  obtain⟨a,ys,rfl,hy,rys⟩:=ry
  exact .inr ⟨a,_,_,ys,rfl,.inr (s.seqT hy),h.1,h.2.1,rx.mono s,rys.mono s,k _ _ _ G (.refl s) (fzR (zbq _ _ _)) h.2.2⟩
 ·exact h.elim
noncomputable def zgj:D→Bool
 | .non=>true
 | _=>false
noncomputable def zel(neg:Bool):O2:=fun d e Q=>match e with
 | .non=>Q (.fz (.bl (if neg then !zgj d else zgj d)))
 | _=>False
theorem ziu{K:PySem.W.Frag}{G:Hp}{x:V}{d:D}(r:Rep K G x d):decide (x=.non)=zgj d:=by
 cases d<;>simp only[Rep] at r
 case non=>subst r;rfl
 case bl=>subst r;rfl
 case int=>subst r;rfl
 case str=>subst r;rfl
 case tup=>obtain⟨_,_,rfl,_⟩:=r;rfl
 case lst=>obtain⟨_,_,rfl,_⟩:=r;rfl
 case obj=>obtain⟨_,_,_,_,rfl,_⟩:=r;rfl
 case dic=>obtain⟨_,_,_,rfl,_⟩:=r;rfl
 case dit=>obtain⟨_,_,_,rfl,_⟩:=r;rfl
theorem zoX:OpP X (compareOp .Is) (zel false):=by
 refine⟨_,zoG,fun G H x y d e Q P s rx ry h k=>?_⟩
 unfold zel at h
 split at h
 ·simp only[Rep] at ry
  refine⟨ry,?_⟩
  rw[ziu rx]
  exact k _ _ _ G (.refl s) (fzR (zbq _ _ _)) h
 ·exact h.elim
theorem zcj:OpP X (compareOp .IsNot) (zel true):=by
 refine⟨_,znh,fun G H x y d e Q P s rx ry h k=>?_⟩
 unfold zel at h
 split at h
 ·simp only[Rep] at ry
  refine⟨ry,?_⟩
  rw[ziu rx]
  exact k _ _ _ G (.refl s) (fzR (zbq _ _ _)) h
 ·exact h.elim
end
end L2
namespace L2
open PySem PySem.Spec PyProof.Rows
section
variable {X:Cx} {pos:Pos} {a b c:Expr} {ta tb tc:TD} {pa pb':TDb} {zes:List Expr}
noncomputable def zoY(t:TDb):TDb:=fun ρ Q=>t ρ fun k=>Q (!k)
noncomputable def zhb(t u:TDb):TDb:=fun ρ Q=>t ρ fun k=>if k=true then u ρ Q else Q false
noncomputable def bOr(t u:TDb):TDb:=fun ρ Q=>t ρ fun k=>if k=true then Q true else u ρ Q
theorem zmQ(h:PB X a pa):PB X (.UnaryOp .Not a pos) (zoY pa):=by
 obtain⟨t,p,q⟩:=h
 exact⟨_,zot p,fun ρ σ G0 H0 G H Q P E h k=>q ρ σ G0 H0 G H _ _ E h fun b H' G' x hq=>k _ H' G' x hq⟩
noncomputable def PWb(X:Cx)(e:Expr)(t:TDb):Prop:=∃tt,PW X e tt∧∀(ρ:Ev) (σ:St) (G0 H0 G H:Hp) (Q:Bool→Prop) (P:Bool→Hp→Prop),EOk X.K G0 H0 ρ σ G H→t ρ Q→
 (∀b H' G',Ext G H G' H'→Q b→P b H')→tt σ H P
theorem PWb.pb{e:Expr}{t:TDb}(h:PWb X e t):PB X e t:=let⟨tt,p,q⟩:=h;⟨tt,p.pt,q⟩
theorem zcB(h:PB X a pa):PWb X (.BoolOp .And [a] pos) pa:=let⟨tt,p,q⟩:=h;⟨tt,znb p,q⟩
theorem zkj(h:PB X a pa):PWb X (.BoolOp .Or [a] pos) pa:=let⟨tt,p,q⟩:=h;⟨tt,zor p,q⟩
theorem zbT(h:PB X a pa)(h':PWb X (.BoolOp .And (b::zes) pos) pb'):PWb X (.BoolOp .And (a::b::zes) pos) (zhb pa pb'):=by
 obtain⟨t,p,q⟩:=h
 obtain⟨t',p',q'⟩:=h'
 refine⟨_,zos p p',fun ρ σ G0 H0 G H Q P E h k=>q ρ σ G0 H0 G H _ _ E h fun b H' G' x hq=>?_⟩
 cases b with
 | true=>rw[if_pos rfl] at hq ⊢;exact q' ρ σ G0 H0 G' H' Q P (E.ext x) hq fun b2 H2 G2 x2 h2=>k b2 H2 G2 (x.trans x2) h2
 | false=>rw[if_neg Bool.false_ne_true] at hq ⊢;exact k false H' G' x hq
theorem zmR(h:PB X a pa)(h':PWb X (.BoolOp .Or (b::zes) pos) pb'):PWb X (.BoolOp .Or (a::b::zes) pos) (bOr pa pb'):=by
 obtain⟨t,p,q⟩:=h
 obtain⟨t',p',q'⟩:=h'
 refine⟨_,zpV p p',fun ρ σ G0 H0 G H Q P E h k=>q ρ σ G0 H0 G H _ _ E h fun b H' G' x hq=>?_⟩
 cases b with
 | true=>rw[if_pos rfl] at hq ⊢;exact k true H' G' x hq
 | false=>rw[if_neg Bool.false_ne_true] at hq ⊢;exact q' ρ σ G0 H0 G' H' Q P (E.ext x) hq fun b2 H2 G2 x2 h2=>k b2 H2 G2 (x.trans x2) h2
noncomputable def zpO(t:TD):TD:=fun ρ Q=>t ρ fun r=>match r with
 | .fz (.bl k)=>Q (.fz (.bl (!k)))
 | _=>False
noncomputable def zje(t u:TD):TD:=fun ρ Q=>t ρ fun r=>match r with
 | .fz (.bl k)=>if k=true then u ρ Q else Q (.fz (.bl false))
 | _=>False
theorem zoZ(h:PD X a ta):PD X (.UnaryOp .Not a pos) (zpO ta):=by
 obtain⟨t,p,q⟩:=h
 refine⟨_,zow p,fun ρ σ G0 H0 G H Q P E h k=>q ρ σ G0 H0 G H _ _ E h fun v H' r G' x rr hq=>?_⟩
 split at hq
 ·rename_i kk
  have e:v=.bl kk:=by simpa only[RepR,Rep] using rr
  exact⟨kk,e,k _ H' _ G' x (fzR (zbq _ _ _)) hq⟩
 ·exact hq.elim
theorem zhc{op}(h:PD X a ta):PD X (.BoolOp op [a] pos) ta:=let⟨t,p,q⟩:=h;⟨t,zou p,q⟩
theorem zeT(h:PD X a ta)(h':PD X (.BoolOp .And (b::zes) pos) tb):PD X (.BoolOp .And (a::b::zes) pos) (zje ta tb):=by
 obtain⟨t,p,q⟩:=h
 obtain⟨t',p',q'⟩:=h'
 refine⟨_,zov p p',fun ρ σ G0 H0 G H Q P E h k=>q ρ σ G0 H0 G H _ _ E h fun v H' r G' x rr hq=>?_⟩
 split at hq
 ·rename_i kk
  have e:v=.bl kk:=by simpa only[RepR,Rep] using rr
  refine⟨kk,e,?_⟩
  cases kk with
  | true=>rw[if_pos rfl] at hq ⊢;exact q' ρ σ G0 H0 G' H' Q P (E.ext x) hq fun b2 H2 r2 G2 x2 rr2 h2=>k b2 H2 r2 G2 (x.trans x2) (rr2.older x.h) h2
  | false=>rw[if_neg Bool.false_ne_true] at hq ⊢;exact k _ H' _ G' x (fzR (zbq _ _ _)) hq
 ·exact hq.elim
noncomputable def dIf(t:TDb)(ta tb:TD):TD:=fun ρ Q=>t ρ fun k=>if k=true then ta ρ Q else tb ρ Q
theorem zgk(h:PB X c pa)(h1:PD X a ta)(h2:PD X b tb):PD X (.IfExp c a b pos) (dIf pa ta tb):=by
 obtain⟨t,p,q⟩:=h
 obtain⟨t1,p1,q1⟩:=h1
 obtain⟨t2,p2,q2⟩:=h2
 refine⟨_,zlE p p1 p2,fun ρ σ G0 H0 G H Q P E h k=>q ρ σ G0 H0 G H _ _ E h fun b H' G' x hq=>?_⟩
 cases b with
 | true=>rw[if_pos rfl] at hq ⊢;exact q1 ρ σ G0 H0 G' H' Q P (E.ext x) hq fun b2 H2 r2 G2 x2 rr2 h2=>k b2 H2 r2 G2 (x.trans x2) (rr2.older x.h) h2
 | false=>rw[if_neg Bool.false_ne_true] at hq ⊢;exact q2 ρ σ G0 H0 G' H' Q P (E.ext x) hq fun b2 H2 r2 G2 x2 rr2 h2=>k b2 H2 r2 G2 (x.trans x2) (rr2.older x.h) h2
noncomputable def zhd(o o':O2)(ta tb tc:TD):TD:=fun ρ Q=>ta ρ fun ra=>tb ρ fun rb=>o ra.val rb.val fun r=>match r with
 | .fz (.bl k)=>if k=true then tc ρ fun rc=>o' rb.val rc.val Q else Q (.fz (.bl false))
 | _=>False
noncomputable abbrev Rdg(K:PySem.W.Frag)(t:TD)(tt:TE):Prop:=∀(ρ:Ev) (σ:St) (G0 H0 G H:Hp) (Q:R→Prop) (P:VK),EOk K G0 H0 ρ σ G H→t ρ Q→(∀v H' r G',Ext G H G' H'→RepR K G' H' H v r→Q r→P v H')→tt σ H P
theorem zlV{K:PySem.W.Frag}{g g':Int→Int→Bool}{t1 t2 t3:TE}(q1:Rdg K ta t1)(q2:Rdg K tb t2)(q3:Rdg K tc t3) :
  Rdg K (zhd (oI0 fun i j=>.bl (g i j)) (oI0 fun i j=>.bl (g' i j)) ta tb tc) (zmL (rI0 fun i j=>.bl (g i j)) (rI0 fun i j=>.bl (g' i j)) t1 t2 t3):=by
 refine fun ρ σ G0 H0 G H Q P E h k=>q1 ρ σ G0 H0 G H _ _ E h fun v1 H1 r1 G1 x1 rr1 hq1=>?_
 obtain⟨G1',x1',rv1,_⟩:=rr1.freeze x1
 refine q2 ρ σ G0 H0 G1' H1 _ _ (E.ext x1') hq1 fun v2 H2 r2 G2 x2 rr2 hq2=>?_
 obtain⟨G2',x2',rv2,_⟩:=rr2.freeze x2
 unfold oI0 at hq2
 split at hq2
 ·rename_i i j e1 e2
  rw[e1] at rv1
  rw[e2] at rv2
  simp only[Rep] at rv1 rv2
  refine⟨i,j,rv1,rv2,_,rfl,?_⟩
  dsimp only at hq2
  cases hk:g i j with
  | false=>
   rw[hk,if_neg Bool.false_ne_true] at hq2
   rw[if_neg Bool.false_ne_true]
   exact k _ _ _ G2' (x1'.trans x2') (fzR (zbq _ _ _)) hq2
  | true=>
   rw[hk,if_pos rfl] at hq2
   rw[if_pos rfl]
   refine q3 ρ σ G0 H0 G2' H2 _ _ (E.ext (x1'.trans x2')) hq2 fun v3 H3 r3 G3 x3 rr3 hq3=>?_
   obtain⟨G3',x3',rv3,_⟩:=rr3.freeze x3
   rw[e2] at hq3
   split at hq3
   ·rename_i i' j' e3 e4
    cases e3
    rw[e4] at rv3
    simp only[Rep] at rv3
    exact⟨j,j',rv2,rv3,k _ _ _ G3' ((x1'.trans x2').trans x3') (fzR (zbq _ _ _)) hq3⟩
   ·exact hq3.elim
 ·exact hq2.elim
theorem zo0{K:PySem.W.Frag}{t:TD}{tt:TE}(q:Rdg K t tt)(ρ:Ev)(σ:St)(G0 H0 G H:Hp)(Q:Bool→Prop)(P:Bool→Hp→Prop)(E:EOk K G0 H0 ρ σ G H)(h:za4 t ρ Q)(k:∀b H' G',Ext G H G' H'→Q b→P b H'):znj tt σ H P:=by
 refine q ρ σ G0 H0 G H _ _ E h fun v H' r G' x1 r1 h1=>?_
 split at h1
 ·rename_i kk
  have e:v=.bl kk:=by simpa only[RepR,Rep] using r1
  exact⟨kk,e,k kk H' G' x1 h1⟩
 ·exact h1.elim
theorem zlW{op op':CmpOp}{g g':Int→Int→Bool}(ho:OpR X (compareOp op) (rI0 fun i j=>.bl (g i j)))(ho':OpR X (compareOp op') (rI0 fun i j=>.bl (g' i j)))(h1:PD X a ta)(h2:PD X b tb)(h3:PD X c tc)(hm:lastMarks [op,op'] [b,c]=false:=by with_unfolding_all rfl) :
  PB X (.Compare a [op,op'] [b,c] pos) (za4 (zhd (oI0 fun i j=>.bl (g i j)) (oI0 fun i j=>.bl (g' i j)) ta tb tc)):=by
 obtain⟨t1,p1,q1⟩:=h1
 obtain⟨t2,p2,q2⟩:=h2
 obtain⟨t3,p3,q3⟩:=h3
 exact⟨_,zlH ho ho' p1 p2 p3 hm,zo0 (zlV q1 q2 q3)⟩
noncomputable def oIx:O2:=fun d e Q=>match d,e with
 | .lst ds,.int i=>∃d,atI ds i=some d∧Q (.fz d)
 | .tup ds,.int i=>∃d,atI ds i=some d∧Q (.fz d)
 | .str z,.int i=>z.length≤sizeLine∧∃c,atI z.cps.toList i=some c∧Q (.fz (.str ⟨#[c]⟩))
 | _,_=>False
theorem zhX{K:PySem.W.Frag}{G:Hp}{xs:List V}{ds:List D}{i:Int}{d:D}(r:Reps K G xs ds)(h:atI ds i=some d):∃v,atI xs i=some v∧Rep K G v d:=by
 unfold atI at h ⊢
 rw[r.length]
 cases e:ixN ds.length i with
 | none=>rw[e] at h;cases h
 | some j=>
  rw[e] at h
  simp only[Option.bind_some] at h ⊢
  exact r.get h
theorem zax(h1:PD X a ta)(h2:PD X b tb)(hs:zhT b:=by intro _ _;rfl):PD X (.Subscript a b pos) (dOp oIx ta tb):=by
 obtain⟨t1,p1,q1⟩:=h1
 obtain⟨t2,p2,q2⟩:=h2
 refine⟨_,zoM zmN p1 p2 hs,zit (r:=rIx X.K) (fun G H x y d e Q P s rx ry h k=>?_) q1 q2⟩
 unfold oIx at h
 split at h
 ·simp only[Rep] at rx ry
  obtain⟨p,xs,rfl,hq,rs⟩:=rx
  obtain⟨d,hd,q⟩:=h
  obtain⟨v,hv,rv⟩:=zhX rs hd
  exact .inl ⟨p,xs,_,v,rfl,ry,(s.rdl hq).sq,hv,k _ _ _ G (.refl s) (fzR rv) q⟩
 ·simp only[Rep] at rx ry
  obtain⟨p,xs,rfl,hq,rs⟩:=rx
  obtain⟨d,hd,q⟩:=h
  obtain⟨v,hv,rv⟩:=zhX rs hd
  exact .inr (.inl ⟨p,xs,_,v,rfl,ry,s.seqT hq,hv,k _ _ _ G (.refl s) (fzR rv) q⟩)
 ·simp only[Rep] at rx ry
  obtain⟨hz,c,hc,q⟩:=h
  exact .inr (.inr ⟨_,_,c,rx,ry,hz,hc,k _ _ _ G (.refl s) (fzR (zdO _ _ _)) q⟩)
 ·exact h.elim
noncomputable def zn9(i:Nat)(tb:TD):TD:=fun ρ Q=>match gt ρ i with
 | .ow ds=>tb ρ fun rb=>match rb.val with
  | .int j=>∃d,atI ds j=some d∧Q (.fz d)
  | _=>False
 | _=>False
theorem zmS(i:Nat){x:Str}{p':Pos}(h2:PD X b tb)(hN:X.N[i]?=some x:=by rfl)(hv:Vis X.env.scope x:=by first | exact Or.inl rfl | exact Or.inr (Or.inl rfl) | exact Or.inr (Or.inr rfl))(hs:zhT b:=by intro _ _;rfl)(hd:(x==("__debug__":Str))=false:=by decide)
  (hcd:(x==("__classdict__":Str))=false:=by decide):PD X (.Subscript (.Name x p') b pos) (zn9 i tb):=by
 obtain⟨t2,p2,q2⟩:=h2
 refine⟨_,zoM zmN (zfT hN hv hd hcd) p2 hs,fun ρ σ G0 H0 G H Q P E h k=>?_⟩
 unfold zn9 at h
 split at h
 ·rename_i ds hg
  obtain⟨p,xs,h1,h2,h3,h4,h5⟩:=E.ow i ds hg
  refine⟨_,h1,q2 ρ σ G0 H0 G H _ _ E h fun v H' r G' x1 rr hq=>?_⟩
  obtain⟨G2,x2,rv,_⟩:=rr.freeze x1
  split at hq
  ·rename_i j e2
   obtain⟨d,hd',q⟩:=hq
   obtain⟨w',hw,rw'⟩:=zhX (h5.mono x2.g) hd'
   rw[e2] at rv
   simp only[Rep] at rv
   exact .inl ⟨p,xs,_,w',rfl,rv,SqL.of (x2.h _ _ h2),hw,k _ _ _ G2 x2 (fzR rw') q⟩
  ·exact hq.elim
 ·exact h.elim
variable {e:Expr} {es:List Expr} {te:TD} {ts:TDa}
noncomputable def zap:TDa:=fun _ Q=>Q []
noncomputable def zad(te:TD)(ts:TDa):TDa:=fun ρ Q=>te ρ fun r=>ts ρ fun ds=>Q (r.val::ds)
theorem zac:PDa X [] zap:=⟨_,zeN,fun ρ σ G0 H0 G H Q P E h k=>k [] H [] G (.refl E.e.s) Reps.nil h⟩
theorem zaa(h:PD X e te)(hr:PDa X es ts)(hs:starEach (e::es) X.env=(false,eval e X.env)::starEach es X.env:=by rfl):PDa X (e::es) (zad te ts):=by
 obtain⟨t1,p1,q1⟩:=h
 obtain⟨t2,p2,q2⟩:=hr
 refine⟨_,zcg p1 p2 hs,fun ρ σ G0 H0 G H Q P E h k=>q1 ρ σ G0 H0 G H _ _ E h fun v H' r G' x1 rr hq=>?_⟩
 obtain⟨G2,x2,rv,_⟩:=rr.freeze x1
 refine q2 ρ σ G0 H0 G2 H' _ _ (E.ext x2) hq fun vs H3 ds G3 x3 rs hq3=>?_
 exact k _ H3 _ G3 (x2.trans x3) (Reps.cons (rv.mono x3.g) rs) hq3
noncomputable def zdQ(ts:TDa):TD:=fun ρ Q=>ts ρ fun ds=>ds.length≤sizeLine∧Q (.fz (.tup ds))
noncomputable def zc7(ts:TDa):TD:=fun ρ Q=>ts ρ fun ds=>ds.length≤sizeLine∧Q (.ow ds)
theorem zby{x1}(h:PDa X es ts):PD X (.Tuple es x1 pos) (zdQ ts):=by
 obtain⟨t,p,q⟩:=h
 refine⟨_,zmM p,fun ρ σ G0 H0 G H Q P E h k=>q ρ σ G0 H0 G H _ _ E h fun vs H' ds G' x rs hq=>⟨by rw[rs.length];exact hq.1,fun p hp=>?_⟩⟩
 have x2:Ext G' H' (upd G' p (.tup vs)) (upd H' p (.tup vs)):=.new x.s hp
 refine k _ _ (.fz (.tup ds)) _ (x.trans x2) ?_ hq.2
 show Rep X.K _ _ (.tup ds)
 simp only[Rep]
 exact⟨p,vs,rfl,SqT.of zau,rs.mono x2.g⟩
theorem zaR(h:PDa X es ts):PD X (.List es pos) (zc7 ts):=by
 obtain⟨t,p,q⟩:=h
 refine⟨_,zoJ p,fun ρ σ G0 H0 G H Q P E h k=>q ρ σ G0 H0 G H _ _ E h fun vs H' ds G' x rs hq=>⟨by rw[rs.length];exact hq.1,fun p hp=>?_⟩⟩
 exact k _ _ (.ow ds) G' (x.trans (.own x.s hp)) ⟨p,vs,rfl,x.h.free hp,x.s.free hp,zau,rs⟩ hq.2
noncomputable def zdR(X:Cx)(f:Value)(o:List D→(R→Prop)→Prop):Prop:=∃r,CallR X f r∧∀(G H:Hp) (vs:List V) (ds:List D) (Q:R→Prop) (P:VK),Same G H→Reps X.K G vs ds→o ds Q→
 (∀v H' r' G',Ext G H G' H'→RepR X.K G' H' H v r'→Q r'→P v H')→r vs H P
noncomputable def dCB(o:List D→(R→Prop)→Prop)(ts:TDa):TD:=fun ρ Q=>ts ρ fun ds=>o ds Q
theorem zo1{o:List D→(R→Prop)→Prop}{r:List V→Hp→VK→Prop}{t:TA}
  (hr:∀(G H:Hp) (vs:List V) (ds:List D) (Q:R→Prop) (P:VK),Same G H→Reps X.K G vs ds→o ds Q→(∀v H' r' G',Ext G H G' H'→RepR X.K G' H' H v r'→Q r'→P v H')→r vs H P)
  (q:∀(ρ:Ev) (σ:St) (G0 H0 G H:Hp) (Q:List D→Prop) (P:List V→Hp→Prop),EOk X.K G0 H0 ρ σ G H→ts ρ Q→(∀vs H' ds G',Ext G H G' H'→Reps X.K G' vs ds→Q ds→P vs H')→t σ H P):Rdg X.K (dCB o ts) (tCB r t):=
 fun ρ σ G0 H0 G H Q P E h k=>q ρ σ G0 H0 G H _ _ E h fun vs H' ds G' x rs hq=>hr G' H' vs ds Q P x.s rs hq fun v H2 r' G2 x2 rr q2=>k v H2 r' G2 (x.trans x2) (rr.older x.h) q2
theorem zav{id:String}{x:Str}{p:Pos}{o:List D→(R→Prop)→Prop}(hc:zdR X (.builtin id) o)(hm:X.mg x=none)(hv:bootBuiltins x=some (.builtin id))(ha:PDa X (e::es) ts)(hg:Gl X x:=by rfl)(hn:x≠"__name__":=by decide)(hdb:(x==("__debug__":Str))=false:=by decide)
  (he:starEach (e::es) X.env=(false,eval e X.env)::starEach es X.env:=by rfl) (hpl:(backTo pos (starEach es X.env)).any (·.1)=false:=by rfl):PD X (.Call (.Name x p) (e::es) [] pos) (dCB o ts):=by
 obtain⟨r,hr,hr'⟩:=hc
 obtain⟨t,pp,q⟩:=ha
 exact⟨_,zeE hr hg hm hv pp hn hdb he hpl,zo1 hr' q⟩
theorem zbm{T:String}{x:Str}{p:Pos}{o:List D→(R→Prop)→Prop}(hc:zdR X (.type T) o)(hm:X.mg x=none)(hv:bootBuiltins x=some (.type T))(ha:PDa X (e::es) ts)(hg:Gl X x:=by rfl)(hn:x≠"__name__":=by decide)(hdb:(x==("__debug__":Str))=false:=by decide)
  (he:starEach (e::es) X.env=(false,eval e X.env)::starEach es X.env:=by rfl) (hpl:(backTo pos (starEach es X.env)).any (·.1)=false:=by rfl):PD X (.Call (.Name x p) (e::es) [] pos) (dCB o ts):=by
 obtain⟨r,hr,hr'⟩:=hc
 obtain⟨t,pp,q⟩:=ha
 exact⟨_,zg0 hr hg hm hv pp hn hdb he hpl,zo1 hr' q⟩
end
end L2
namespace L2
open PySem PySem.Spec PyProof.Rows
theorem zdS{σ:St}{i j:Nat}{x:Option V}:(σ.set i x)[j]?=if i=j∧j<σ.length then some x else σ[j]?:=by
 by_cases h:i=j
 ·subst h
  by_cases hl:i<σ.length
  ·simp[hl]
  ·simp[hl]
 ·simp[h]
section
variable {K:PySem.W.Frag} {G0 H0 G H G' H':Hp} {ρ:Ev} {σ:St}
theorem EOk.put{i:Nat}{v:V}{r:R}(E:EOk K G0 H0 ρ σ G H)(x:Ext G H G' H')(rr:RepR K G' H' H v r):EOk K G0 H0 (ρ.set i r.sl) (σ.set i (some v)) G' H':=by
 have E':=E.ext x
 have hl:=E.len
 have gs:∀j s,gt (ρ.set i r.sl) j=s→(i=j∧j<ρ.length∧s=r.sl)∨(¬(i=j∧j<ρ.length)∧gt ρ j=s):=fun j s e=>by
  rw[zg6] at e
  by_cases h:i=j∧j<ρ.length
  ·rw[if_pos h] at e;exact .inl ⟨h.1,h.2,e.symm⟩
  ·rw[if_neg h] at e;exact .inr ⟨h,e⟩
 refine⟨E'.e,by simp[E.len],fun j d h=>?_,fun j ds h=>?_,fun j k ds es hjk h1 h2=>?_,?_⟩
 ·rcases gs j _ h with⟨h1,h2,h3⟩ | ⟨h1,h2⟩
  ·cases r with
   | ow=>cases h3
   | ov=>cases h3
   | fz d'=>
    cases h3
    exact⟨v,by rw[zdS,if_pos ⟨h1,by omega⟩],rr⟩
  ·obtain⟨u,hu,ru⟩:=E'.fz j d h2
   exact⟨u,by rw[zdS,if_neg (by rw[hl];exact h1)];exact hu,ru⟩
 ·rcases gs j _ h with⟨h1,h2,h3⟩ | ⟨h1,h2⟩
  ·cases r with
   | fz=>cases h3
   | ov=>cases h3
   | ow ds'=>
    cases h3
    obtain⟨p,xs,rfl,a1,a2,a3,a4⟩:=rr
    exact⟨p,xs,by rw[zdS,if_pos ⟨h1,by omega⟩],a3,a2,E.e.h.free a1,a4⟩
  ·obtain⟨p,xs,b1,b2,b3,b4,b5⟩:=E'.ow j ds h2
   exact⟨p,xs,by rw[zdS,if_neg (by rw[hl];exact h1)];exact b1,b2,b3,b4,b5⟩
 ·have old:∀{j:Nat} {ds:List D},gt ρ j=.ow ds→∀es,r=.ow es→σ[j]?≠some (some v):=fun{j ds} h es e z=>by
   subst e
   obtain⟨p,xs,rfl,a1,a2,a3,a4⟩:=rr
   obtain⟨p',xs',b1,b2,b3,b4,b5⟩:=E.ow j ds h
   rw[b1] at z
   cases z
   rw[a1] at b2
   cases b2
  rcases gs j _ h1 with⟨c1,c2,c3⟩ | ⟨c1,c2⟩
  ·rcases gs k _ h2 with⟨d1,d2,d3⟩ | ⟨d1,d2⟩
   ·exact absurd (c1.symm.trans d1) hjk
   ·rw[zdS,if_pos ⟨c1,by omega⟩,zdS,if_neg (by rw[hl];exact d1)]
    cases r with
    | fz=>cases c3
    | ov=>cases c3
    | ow es'=>exact fun z=>old d2 es' rfl z.symm
  ·rcases gs k _ h2 with⟨d1,d2,d3⟩ | ⟨d1,d2⟩
   ·rw[zdS,if_neg (by rw[hl];exact c1),zdS,if_pos ⟨d1,by omega⟩]
    cases r with
    | fz=>cases d3
    | ov=>cases d3
    | ow es'=>exact old c2 es' rfl
   ·rw[zdS,if_neg (by rw[hl];exact c1),zdS,if_neg (by rw[hl];exact d1)]
    exact E.dj j k ds es hjk c2 d2
 ·obtain⟨own,o1,o2⟩:=E.on
  have hσ:∀j,¬(i=j∧j<ρ.length)→(σ.set i (some v))[j]?=σ[j]?:=fun j h=>by rw[zdS,if_neg (by rw[hl];exact h)]
  have gen:∀L:List Addr,(∀q∈L,H q=none)→(∀j ds p,i=j→j<ρ.length→r.sl=.ow ds→v=.ref p→p∈L)→
    (∀j o,i=j→j<ρ.length→r.sl=.ov o→∃p fp,v=.ref p∧(p::fp).Nodup∧Owns K G' H' p fp o∧∀q∈p::fp,G' q=none∧q∈L)→
    ∃own:Addr→Option Nat,(∀j ds p,gt (ρ.set i r.sl) j=.ow ds→(σ.set i (some v))[j]?=some (some (.ref p))→own p=some j)∧∀j o,gt (ρ.set i r.sl) j=.ov o→∃p fp,(σ.set i (some v))[j]?=some (some (.ref p))∧(p::fp).Nodup∧Owns K G' H' p fp o∧∀q∈p::fp,G' q=none∧H0 q=none∧own q=some j:=by
   intro L hL hw ho
   refine⟨fun q=>if q∈L then some i else own q,fun j ds p h hp=>?_,fun j o h=>?_⟩
   ·rcases gs j _ h with⟨h1,h2,h3⟩ | ⟨h1,h2⟩
    ·rw[zdS,if_pos ⟨h1,by omega⟩] at hp
     have hv:v=.ref p:=by injection hp with hp;injection hp
     dsimp only
     rw[if_pos (hw j ds p h1 h2 h3.symm hv),h1]
    ·rw[hσ j h1] at hp
     obtain⟨p',xs',b1,b2,_⟩:=E.ow j ds h2
     have hne:p∉L:=fun z=>by
      rw[hp] at b1
      cases b1
      rw[hL p z] at b2
      cases b2
     dsimp only
     rw[if_neg hne]
     exact o1 j ds p h2 hp
   ·rcases gs j _ h with⟨h1,h2,h3⟩ | ⟨h1,h2⟩
    ·obtain⟨p,fp,rfl,c1,c2,c3⟩:=ho j o h1 h2 h3.symm
     refine⟨p,fp,by rw[zdS,if_pos ⟨h1,by omega⟩],c1,c2,fun q hq=>⟨(c3 q hq).1,E.e.h.free (hL q (c3 q hq).2),?_⟩⟩
     dsimp only
     rw[if_pos (c3 q hq).2,h1]
    ·obtain⟨p,fp,b1,b2,b3,b4⟩:=o2 j o h2
     refine⟨p,fp,by rw[hσ j h1];exact b1,b2,b3.mono x.g fun q _ u e=>x.h q u e,fun q hq=>⟨x.n q (b4 q hq).1 (b3.here q hq),(b4 q hq).2.1,?_⟩⟩
     dsimp only
     rw[if_neg (fun z=>b3.here q hq (hL q z))]
     exact(b4 q hq).2.2
  cases r with
  | fz d=>exact gen [] (fun q hq=>by cases hq) (fun j ds p _ _ e=>by cases e) (fun j o _ _ e=>by cases e)
  | ow ds'=>
   obtain⟨p,xs,rfl,a1,a2,a3,a4⟩:=rr
   refine gen [p] (fun q hq=>?_) (fun j ds p' _ _ e e2=>?_) (fun j o _ _ e=>by cases e)
   ·simp only[List.mem_singleton] at hq
    subst hq;exact a1
   ·cases e2;simp
  | ov o'=>
   obtain⟨p,fp,rfl,a1,a2,a3⟩:=rr
   refine gen (p::fp) (fun q hq=>(a3 q hq).1) (fun j ds p' _ _ e=>by cases e) (fun j o _ _ e=>?_)
   cases e
   exact⟨p,fp,rfl,a1,a2,fun q hq=>⟨(a3 q hq).2,hq⟩⟩
noncomputable def frz(i:Nat)(ρ:Ev):Ev:=match gt ρ i with
 | .ow ds=>ρ.set i (.fz (.lst ds))
 | .ov o=>ρ.set i (.fz o.val)
 | _=>ρ
theorem znB{ρ:Ev}{i:Nat}{s:Sl}(h:gt ρ i=s)(hs:s≠.un):i<ρ.length:=by
 induction ρ generalizing i with
 | nil=>simp[gt] at h;exact absurd h.symm hs
 | cons a r ih=>
  cases i with
  | zero=>simp
  | succ i=>simp only[gt] at h;have:=ih h;simp;omega
theorem RepL.isL{K:PySem.W.Frag}{G H:Hp}:∀{qs:List Addr} {dss:List (List D)},RepL K G H qs dss→∀q∈qs,∃zs,H q=some (.lst zs)
 | [],[],_,q,hq=>by cases hq
 | p::qs,ds::dss,h,q,hq=>by
  simp only[RepL] at h
  rcases List.mem_cons.mp hq with rfl | hq
  ·exact⟨_,h.1.choose_spec.1⟩
  ·exact RepL.isL h.2 q hq
 | [],_::_,h,_,_=>by simp only[RepL] at h
 | _::_,[],h,_,_=>by simp only[RepL] at h
theorem EOk.freezeL2(i:Nat)(E:EOk K G0 H0 ρ σ G H):∃L:List Addr,(∀q∈L,G q=none)∧EOk K G0 H0 (frz i ρ) σ (zjc G H L) H∧(((∀o,gt ρ i=.ov o→(∃kvs,o=.dc kvs)∨∃dss,o=.ll dss)→∀q∈L,H q≠none∧∀xs,¬Rd H q (.tup xs)))∧∀o p,gt ρ i=.ov o→σ[i]?=some (some (.ref p))→p∈L:=by
 unfold frz
 split
 ·rename_i ds hg
  obtain⟨p,xs,h1,h2,h3,h4,h5⟩:=E.ow i ds hg
  have hlt:i<ρ.length:=znB hg (by simp)
  have hs:Same G (upd G p (.lst xs)):=zca h3
  have gs:∀j s,gt (ρ.set i (.fz (.lst ds))) j=s→(i=j∧s=.fz (.lst ds))∨(i≠j∧gt ρ j=s):=fun j s e=>by
   rw[zg6] at e
   by_cases h:i=j
   ·subst h;rw[if_pos ⟨rfl,hlt⟩] at e;exact .inl ⟨rfl,e.symm⟩
   ·rw[if_neg (fun z=>h z.1)] at e;exact .inr ⟨h,e⟩
  have ep:zjc G H [p]=upd G p (.lst xs):=by
   funext a
   by_cases ha:a=p
   ·subst ha;rw[zau,zci (by simp)];exact h2
   ·rw[zar ha,zbx (by simpa using ha)]
  refine⟨[p],fun q hq=>?_,?_,fun _ q hq=>by
   simp only[List.mem_singleton] at hq
   rw[hq]
   exact⟨(by rw[h2];exact nofun),fun xs' e=>by rcases e with e | ⟨_,e⟩<;>(rw[h2] at e;cases e)⟩,fun o p z=>by rw[hg] at z;cases z⟩
  ·simp only[List.mem_singleton] at hq
   subst hq;exact h3
  rw[ep]
  refine⟨⟨E.e.g.trans hs,E.e.h,fun b o e=>?_,fun q q1 q2=>?_⟩,by simp[E.len],fun j d h=>?_,fun j es h=>?_,fun j k es fs hjk a1 a2=>?_,?_⟩
  ·by_cases hb:b=p
   ·subst hb;rw[zau] at e;rw[h2];exact e
   ·rw[zar hb] at e;exact E.e.s b o e
  ·rw[zar (fun z=>q2 (by rw[z];exact h4))]
   exact E.e.n q q1 q2
  ·rcases gs j _ h with⟨e,e2⟩ | ⟨e,e2⟩
   ·subst e
    cases e2
    exact⟨_,h1,by simp only[Rep];exact⟨p,xs,rfl,RdL.of zau,h5.mono hs⟩⟩
   ·obtain⟨u,u1,u2⟩:=E.fz j d e2
    exact⟨u,u1,u2.mono hs⟩
  ·rcases gs j _ h with⟨e,e2⟩ | ⟨e,e2⟩
   ·cases e2
   ·obtain⟨p',xs',b1,b2,b3,b4,b5⟩:=E.ow j es e2
    have hne:p'≠p:=fun z=>by
     subst z
     exact E.dj i j ds es e hg e2 (by rw[h1,b1])
    exact⟨p',xs',b1,b2,by rw[zar hne];exact b3,b4,b5.mono hs⟩
  ·rcases gs j _ a1 with⟨_,e2⟩ | ⟨e,e2⟩
   ·cases e2
   ·rcases gs k _ a2 with⟨_,e4⟩ | ⟨e3,e4⟩
    ·cases e4
    ·exact E.dj j k es fs hjk e2 e4
  ·obtain⟨own,o1,o2⟩:=E.on
   refine⟨own,fun j es p' h hp=>?_,fun j o h=>?_⟩
   ·rcases gs j _ h with⟨_,e2⟩ | ⟨_,e2⟩
    ·cases e2
    ·exact o1 j es p' e2 hp
   ·rcases gs j _ h with⟨_,e2⟩ | ⟨e,e2⟩
    ·cases e2
    ·obtain⟨p',fp,b1,b2,b3,b4⟩:=o2 j o e2
     refine⟨p',fp,b1,b2,b3.mono hs fun q _ u e=>e,fun q hq=>⟨?_,(b4 q hq).2⟩⟩
     rw[zar fun z=>?_]
     ·exact(b4 q hq).1
     ·have z1:=(b4 q hq).2.2
      rw[z,o1 i ds p hg h1] at z1
      injection z1 with z1
      exact e z1
 ·rename_i o hg
  obtain⟨own,o1,o2⟩:=E.on
  obtain⟨p,fp,h1,h2,h3,h4⟩:=o2 i o hg
  have hlt:i<ρ.length:=znB hg (by simp)
  have hn:∀q∈p::fp,G q=none:=fun q hq=>(h4 q hq).1
  have hs:Same G (zjc G H (p::fp)):=zcO hn
  have gs:∀j s,gt (ρ.set i (.fz o.val)) j=s→(i=j∧s=.fz o.val)∨(i≠j∧gt ρ j=s):=fun j s e=>by
   rw[zg6] at e
   by_cases h:i=j
   ·subst h;rw[if_pos ⟨rfl,hlt⟩] at e;exact .inl ⟨rfl,e.symm⟩
   ·rw[if_neg (fun z=>h z.1)] at e;exact .inr ⟨h,e⟩
  suffices hmain:EOk K G0 H0 (ρ.set i (.fz o.val)) σ (zjc G H (p::fp)) H from⟨p::fp,hn,hmain,fun hd q hq=>by
   rcases hd o hg with⟨kvs,rfl⟩ | ⟨dss,rfl⟩
   ·obtain⟨rfl,ks,ep,h5,_⟩:=h3
    simp only[List.mem_singleton] at hq
    rw[hq]
    exact⟨(by rw[h5];exact nofun),fun xs' e=>by rcases e with e | ⟨_,e⟩<;>(rw[h5] at e;cases e)⟩
   ·obtain⟨zs,h5⟩:∃zs,H q=some (.lst zs):=by
     rcases List.mem_cons.mp hq with rfl | hq
     ·exact⟨_,h3.1⟩
     ·exact RepL.isL h3.2 q hq
    exact⟨(by rw[h5];exact nofun),fun xs' e=>by rcases e with e | ⟨_,e⟩<;>(rw[h5] at e;cases e)⟩,fun o' p' _ e=>by rw[h1] at e;cases e;simp⟩
  refine⟨⟨E.e.g.trans hs,E.e.h,fun b u e=>?_,fun q q1 q2=>?_⟩,by simp[E.len],fun j d h=>?_,fun j es h=>?_,fun j k es fs hjk a1 a2=>?_,own,fun j es p' h hp=>?_,fun j o' h=>?_⟩
  ·by_cases hb:b∈p::fp
   ·rw[zci hb] at e;exact e
   ·rw[zbx hb] at e;exact E.e.s b u e
  ·rw[zbx (fun z=>q2 (h4 q z).2.1)];exact E.e.n q q1 q2
  ·rcases gs j _ h with⟨e,e2⟩ | ⟨e,e2⟩
   ·subst e
    cases e2
    exact⟨_,h1,h3.freeze hn⟩
   ·obtain⟨u,u1,u2⟩:=E.fz j d e2
    exact⟨u,u1,u2.mono hs⟩
  ·rcases gs j _ h with⟨e,e2⟩ | ⟨e,e2⟩
   ·cases e2
   ·obtain⟨p',xs',b1,b2,b3,b4,b5⟩:=E.ow j es e2
    refine⟨p',xs',b1,b2,?_,b4,b5.mono hs⟩
    rw[zbx fun z=>?_]
    ·exact b3
    ·have z1:=(h4 p' z).2.2
     rw[o1 j es p' e2 b1] at z1
     injection z1 with z1
     exact e z1.symm
  ·rcases gs j _ a1 with⟨_,e2⟩ | ⟨e,e2⟩
   ·cases e2
   ·rcases gs k _ a2 with⟨_,e4⟩ | ⟨e3,e4⟩
    ·cases e4
    ·exact E.dj j k es fs hjk e2 e4
  ·rcases gs j _ h with⟨_,e2⟩ | ⟨_,e2⟩
   ·cases e2
   ·exact o1 j es p' e2 hp
  ·rcases gs j _ h with⟨_,e2⟩ | ⟨e,e2⟩
   ·cases e2
   ·obtain⟨p',fp',b1,b2,b3,b4⟩:=o2 j o' e2
    refine⟨p',fp',b1,b2,b3.mono hs fun q _ u e=>e,fun q hq=>⟨?_,(b4 q hq).2⟩⟩
    rw[zbx fun z=>?_]
    ·exact(b4 q hq).1
    ·have z1:=(b4 q hq).2.2
     rw[(h4 q z).2.2] at z1
     injection z1 with z1
     exact e z1
 ·rename_i no1 no2
  have ep:zjc G H []=G:=by funext a;exact zbx (by simp)
  exact⟨[],fun q hq=>(by cases hq),by rw[ep];exact E,fun _ q hq=>(by cases hq),fun o p z=>(no2 o z).elim⟩
theorem EOk.freezeL(i:Nat)(E:EOk K G0 H0 ρ σ G H):∃L:List Addr,(∀q∈L,G q=none)∧EOk K G0 H0 (frz i ρ) σ (zjc G H L) H∧((∀o,gt ρ i=.ov o→(∃kvs,o=.dc kvs)∨∃dss,o=.ll dss)→∀q∈L,H q≠none∧∀xs,¬Rd H q (.tup xs)):=
 let⟨L,a,b,c,_⟩:=E.freezeL2 i
 ⟨L,a,b,c⟩
theorem EOk.freeze(i:Nat)(E:EOk K G0 H0 ρ σ G H):∃G',EOk K G0 H0 (frz i ρ) σ G' H∧Same G G':=
 let⟨L,hL,E',_⟩:=E.freezeL i
 ⟨_,E',zcO hL⟩
theorem EOk.change{i:Nat}{ds ds':List D}{p:Addr}{xs':List V}(E:EOk K G0 H0 ρ σ G H)(hg:gt ρ i=.ow ds)(h1:σ[i]?=some (some (.ref p)))(hr:Reps K G xs' ds') :
  EOk K G0 H0 (ρ.set i (.ow ds')) σ G (upd H p (.lst xs')):=by
 obtain⟨p',xs0,b1,b2,b3,b4,b5⟩:=E.ow i ds hg
 rw[h1] at b1
 cases b1
 have hlt:i<ρ.length:=znB hg (by simp)
 have gs:∀j s,gt (ρ.set i (.ow ds')) j=s→(i=j∧s=.ow ds')∨(i≠j∧gt ρ j=s):=fun j s e=>by
  rw[zg6] at e
  by_cases h:i=j
  ·subst h;rw[if_pos ⟨rfl,hlt⟩] at e;exact .inl ⟨rfl,e.symm⟩
  ·rw[if_neg (fun z=>h z.1)] at e;exact .inr ⟨h,e⟩
 have hG:Same G (upd H p (.lst xs')):=fun b o e=>by rw[zar (zat e b3)];exact E.e.s b o e
 refine⟨⟨E.e.g,fun b o e=>by rw[zar (zat e b4)];exact E.e.h b o e,hG,E.e.n⟩,by simp[E.len],fun j d h=>?_,fun j es h=>?_,fun j k es fs hjk a1 a2=>?_,?_⟩
 ·rcases gs j _ h with⟨_,e2⟩ | ⟨e,e2⟩
  ·cases e2
  ·exact E.fz j d e2
 ·rcases gs j _ h with⟨e,e2⟩ | ⟨e,e2⟩
  ·subst e
   cases e2
   exact⟨p,xs',h1,zau,b3,b4,hr⟩
  ·obtain⟨p',xs2,c1,c2,c3,c4,c5⟩:=E.ow j es e2
   have hne:p'≠p:=fun z=>by
    subst z
    exact E.dj i j ds es e hg e2 (by rw[h1,c1])
   exact⟨p',xs2,c1,by rw[zar hne];exact c2,c3,c4,c5⟩
 ·rcases gs j _ a1 with⟨e,e2⟩ | ⟨e,e2⟩
  ·subst e
   rcases gs k _ a2 with⟨e3,e4⟩ | ⟨e3,e4⟩
   ·exact absurd e3 hjk
   ·exact E.dj i k ds fs hjk hg e4
  ·rcases gs k _ a2 with⟨e3,e4⟩ | ⟨e3,e4⟩
   ·subst e3
    exact E.dj j i es ds hjk e2 hg
   ·exact E.dj j k es fs hjk e2 e4
 ·obtain⟨own,o1,o2⟩:=E.on
  refine⟨own,fun j es p' h hp=>?_,fun j o h=>?_⟩
  ·rcases gs j _ h with⟨e,e2⟩ | ⟨_,e2⟩
   ·subst e;exact o1 i ds p' hg hp
   ·exact o1 j es p' e2 hp
  ·rcases gs j _ h with⟨_,e2⟩ | ⟨e,e2⟩
   ·cases e2
   ·obtain⟨p',fp,c1,c2,c3,c4⟩:=o2 j o e2
    refine⟨p',fp,c1,c2,c3.mono (Same.refl _) fun q hq u e3=>?_,c4⟩
    rw[zar fun z=>?_]
    ·exact e3
    ·have z1:=(c4 q hq).2.2
     rw[z,o1 i ds p hg h1] at z1
     injection z1 with z1
     exact e z1
theorem EOk.weak{ρ':Ev}(E:EOk K G0 H0 ρ σ G H)(hl:ρ'.length=ρ.length)(w:∀i,gt ρ' i=.un∨gt ρ' i=gt ρ i):EOk K G0 H0 ρ' σ G H:=by
 have g:∀i s,gt ρ' i=s→s≠.un→gt ρ i=s:=fun i s e n=>by
  rcases w i with h | h
  ·exact absurd (e.symm.trans h) n
  ·rw[←h];exact e
 exact⟨E.e,by rw[hl];exact E.len,fun i d h=>E.fz i d (g i _ h (by simp)),fun i d h=>E.ow i d (g i _ h (by simp)),fun i j ds es hij h1 h2=>E.dj i j ds es hij (g i _ h1 (by simp)) (g j _ h2 (by simp)),let⟨own,o1,o2⟩:=E.on;⟨own,fun i ds p h=>o1 i ds p (g i _ h (by simp)),fun i o h=>o2 i o (g i _ h (by simp))⟩⟩
end
section
variable {X:Cx} {pos:Pos} {e:Expr} {te:TD}
noncomputable def zaF(t u:TX):TX:=fun D ρ=>t { D with nx:=u D } ρ
noncomputable def zcL:TX:=fun D ρ=>D.nx ρ
theorem zaA:PXs X [] zcL:=⟨_,zjO,fun ρ σ G0 H0 G H D E k h g=>g.nx ρ σ G H (Same.refl _) k h⟩
theorem zae{st:Stmt}{sts:List Stmt}{t u:TX}(h1:PX X st t)(h2:PXs X sts u):PXs X (st::sts) (zaF t u):=by
 obtain⟨t1,p1,q1⟩:=h1
 obtain⟨t2,p2,q2⟩:=h2
 refine⟨_,zim p1 p2,fun ρ σ G0 H0 G H D E k h g=>q1 ρ σ G0 H0 G H _ _ k h ⟨fun ρ' σ' G' H' s' k' h'=>q2 ρ' σ' G0 H0 G' H' D E k' h' (g.shift s'),g.rt,g.bk,g.ct⟩⟩
theorem zai{st:Stmt}{t:TX}(h1:PX X st t):PXs X [st] t:=by
 obtain⟨t1,p1,q1⟩:=h1
 exact⟨_,znc p1,q1⟩
theorem zgl(i:Nat){sts:List Stmt}{t:TX}(h:PXs X sts t):PXs X sts (fun D ρ=>t D (frz i ρ)):=by
 obtain⟨t1,p1,q1⟩:=h
 refine⟨_,p1,fun ρ σ G0 H0 G H D E k h g=>?_⟩
 obtain⟨G',k',s'⟩:=k.freeze i
 exact q1 _ σ G0 H0 G' H D E k' h (g.shift s')
noncomputable def zcI(te:TD):TX:=fun D ρ=>te ρ D.rt
theorem zaJ(h:PD X e te):PX X (.Return (some e) pos) (zcI te):=by
 obtain⟨t,p,q⟩:=h
 exact⟨_,zmI p,fun ρ σ G0 H0 G H D E k h g=>q ρ σ G0 H0 G H _ _ k h fun v H' r G' x rr hq=>g.rt v H' r G' (k.e.trans x) (rr.older k.e.h) hq⟩
noncomputable def zdT(i:Nat):TX:=fun D ρ=>match gt ρ i with
 | .ow ds=>D.rt (.ow ds)
 | _=>False
theorem zdb(i:Nat){x:Str}{p':Pos}(hN:X.N[i]?=some x:=by rfl)(hv:Vis X.env.scope x:=by first | exact Or.inl rfl | exact Or.inr (Or.inl rfl) | exact Or.inr (Or.inr rfl))(hd:(x==("__debug__":Str))=false:=by decide)
  (hcd:(x==("__classdict__":Str))=false:=by decide):PX X (.Return (some (.Name x p')) pos) (zdT i):=by
 refine⟨_,zmI (zfT hN hv hd hcd),fun ρ σ G0 H0 G H D E k h g=>?_⟩
 unfold zdT at h
 split at h
 ·rename_i ds hg
  obtain⟨p,xs,h1,h2,h3,h4,h5⟩:=k.ow i ds hg
  exact⟨_,h1,g.rt _ H (.ow ds) G k.e ⟨p,xs,rfl,h4,h3,h2,h5⟩ h⟩
 ·exact h.elim
noncomputable def xIf(c:TDb)(t u:TX):TX:=fun D ρ=>c ρ fun b=>if b=true then t D ρ else u D ρ
theorem zbv{c:Expr}{a b:List Stmt}{tc:TDb}{t u:TX}(hc:PB X c tc)(ha:PXs X a t)(hb:PXs X b u):PX X (.If c a b pos) (xIf tc t u):=by
 obtain⟨t0,p0,q0⟩:=hc
 obtain⟨t1,p1,q1⟩:=ha
 obtain⟨t2,p2,q2⟩:=hb
 refine⟨_,zp0 p0 p1 p2,fun ρ σ G0 H0 G H D E k h g=>q0 ρ σ G0 H0 G H _ _ k h fun b H' G' x hq=>?_⟩
 cases b with
 | true=>rw[if_pos rfl] at hq ⊢;exact q1 ρ σ G0 H0 G' H' D E (k.ext x) hq (g.shift x.g)
 | false=>rw[if_neg Bool.false_ne_true] at hq ⊢;exact q2 ρ σ G0 H0 G' H' D E (k.ext x) hq (g.shift x.g)
noncomputable def zhe(i:Nat)(te:TD):TX:=fun D ρ=>te ρ fun r=>D.nx (ρ.set i r.sl)
theorem zcQ(i:Nat){x:Str}{pos':Pos}(he:PD X e te)(hN:X.N.Nodup:=by assumption)(hi:X.N[i]?=some x:=by rfl)(hx:Loc X.env.scope x:=by first | exact Or.inl rfl | exact Or.inr rfl)(hs:swapsWith e (some (.Name x pos')) pos.line X.env=pure false:=by rfl)(hf:X.fn x=true∨X.env.scope.names.lookup x=some .local:=by first | exact .inl rfl | exact .inr rfl | assumption) :
  PX X (.Assign [.Name x pos'] e pos) (zhe i te):=by
 obtain⟨t,p,q⟩:=he
 exact⟨_,zmJ hN hi hx p hs hf,fun ρ σ G0 H0 G H D E k h g=>q ρ σ G0 H0 G H _ _ k h fun v H' r G' x rr hq=>g.nx _ _ G' H' x.g (k.put x rr) hq⟩
noncomputable def zaB(i:Nat)(te:TD):TX:=fun D ρ=>te ρ fun r=>D.nx (ρ.set i (.fz r.val))
theorem zam(i:Nat){x:Str}{pos':Pos}(he:PD X e te)(hN:X.N.Nodup:=by assumption)(hi:X.N[i]?=some x:=by rfl)(hx:Loc X.env.scope x:=by first | exact Or.inl rfl | exact Or.inr rfl)(hs:swapsWith e (some (.Name x pos')) pos.line X.env=pure false:=by rfl)(hf:X.fn x=true∨X.env.scope.names.lookup x=some .local:=by first | exact .inl rfl | exact .inr rfl | assumption) :
  PX X (.Assign [.Name x pos'] e pos) (zaB i te):=by
 obtain⟨t,p,q⟩:=he
 refine⟨_,zmJ hN hi hx p hs hf,fun ρ σ G0 H0 G H D E k h g=>q ρ σ G0 H0 G H _ _ k h fun v H' r G' x rr hq=>?_⟩
 obtain⟨G2,x2,rv,_⟩:=rr.freeze x
 exact g.nx _ _ G2 H' x2.g (k.put x2 (r:=.fz r.val) rv) hq
noncomputable def zeU(i:Nat)(te:TD):TX:=fun D ρ=>match gt ρ i with
 | .ow ds=>te ρ fun r=>ds.length<sizeLine∧D.nx (ρ.set i (.ow (ds++[r.val])))
 | _=>False
theorem zb2(i:Nat){x:Str}{p1 p2 pos':Pos}(he:PD X e te)(hN:X.N[i]?=some x:=by rfl)(hv:Vis X.env.scope x:=by first | exact Or.inl rfl | exact Or.inr (Or.inl rfl) | exact Or.inr (Or.inr rfl))(hd:(x==("__debug__":Str))=false:=by decide)
  (hcd:(x==("__classdict__":Str))=false:=by decide) (hst:starEach [e] X.env=(false,eval e X.env)::starEach [] X.env:=by rfl)
  (hb:∀{ta:TE} {t:TA},PE X (.Name x p1) ta→PA X [e] t→PE X (.Call (.Attribute (.Name x p1) "append" p2) [e] [] pos') (tBM X.K "list" zj2 ta t):=by intro ta t h1 h2;exact znu PySem.F.plainAttrs_list PySem.F.slot_list_append PySem.F.type_list_append zg4 h1 h2) :
  PX X (.Expr (.Call (.Attribute (.Name x p1) "append" p2) [e] [] pos') pos) (zeU i te):=by
 obtain⟨t,p,q⟩:=he
 refine⟨_,zjP (hb (zfT hN hv hd hcd) (zcg p zeN hst)),fun ρ σ G0 H0 G H D E k h g=>?_⟩
 unfold zeU at h
 split at h
 ·rename_i ds hg
  obtain⟨a,xs,h1,h2,h3,h4,h5⟩:=k.ow i ds hg
  refine⟨_,h1,.inl ⟨rfl,xs,SqL.of h2⟩,?_⟩
  refine q ρ σ G0 H0 G H _ _ k h fun v H' r G' x1 rr hq=>?_
  obtain⟨G2,x2,rv,_⟩:=rr.freeze x1
  have k2:=k.ext x2
  refine⟨a,xs,v,rfl,rfl,x2.h _ _ h2,by rw[h5.length];exact hq.1,?_⟩
  exact g.nx _ _ G2 _ x2.g (k2.change hg h1 ((h5.mono x2.g).append (Reps.cons rv Reps.nil))) hq.2
 ·exact h.elim
end
end L2
namespace L2
open PySem PySem.Spec PyProof.Rows
section
variable {X:Cx} {pos:Pos} {tg:Expr}
noncomputable abbrev TGd:=D→Ev→(Ev→Prop)→Prop
noncomputable abbrev zjf:=List D→Ev→(Ev→Prop)→Prop
noncomputable def PGd(X:Cx)(tg:Expr)(g:TGd):Prop:=∃gg,PG X tg gg∧∀(ρ:Ev) (σ:St) (G0 H0 G H:Hp) (d:D) (v:V) (Q:Ev→Prop) (P:St→Hp→Prop),EOk X.K G0 H0 ρ σ G H→Rep X.K G v d→g d ρ Q→
 (∀ρ' σ' G' H',EOk X.K G0 H0 ρ' σ' G' H'→Ext G H G' H'→Q ρ'→P σ' H')→gg v σ H P
noncomputable def zo2(X:Cx)(tgs:List Expr)(g:zjf):Prop:=∃gg,PGs X tgs gg∧∀(ρ:Ev) (σ:St) (G0 H0 G H:Hp) (ds:List D) (vs:List V) (Q:Ev→Prop) (P:St→Hp→Prop),EOk X.K G0 H0 ρ σ G H→Reps X.K G vs ds→g ds ρ Q→
 (∀ρ' σ' G' H',EOk X.K G0 H0 ρ' σ' G' H'→Ext G H G' H'→Q ρ'→P σ' H')→gg vs σ H P
noncomputable def zao(i:Nat):TGd:=fun d ρ Q=>Q (ρ.set i (.fz d))
theorem zah(i:Nat){x:Str}(hN:X.N.Nodup:=by assumption)(hi:X.N[i]?=some x:=by rfl)(hx:Loc X.env.scope x:=by first | exact Or.inl rfl | exact Or.inr rfl)(hf:X.fn x=true∨X.env.scope.names.lookup x=some .local:=by first | exact .inl rfl | exact .inr rfl | assumption):PGd X (.Name x pos) (zao i):=
 ⟨_,zne hN hi hx hf,fun ρ σ G0 H0 G H d v Q P E r h k=>k _ _ G H (E.put (.refl E.e.s) (r:=.fz d) r) (.refl E.e.s) h⟩
noncomputable def zc4:zjf:=fun ds ρ Q=>match ds with
 | []=>Q ρ
 | _=>False
noncomputable def zaC(t:TGd)(u:zjf):zjf:=fun ds ρ Q=>match ds with
 | d::r=>t d ρ fun ρ'=>u r ρ' Q
 | []=>False
theorem zaO:zo2 X [] zc4:=by
 refine⟨_,znf,fun ρ σ G0 H0 G H ds vs Q P E r h k=>?_⟩
 unfold zc4 at h
 split at h
 ·cases vs with
  | nil=>exact⟨rfl,k _ _ G H E (.refl E.e.s) h⟩
  | cons=>simp only[Reps] at r
 ·exact h.elim
theorem zak{e:Expr}{es:List Expr}{t:TGd}{u:zjf}(h1:PGd X e t)(h2:zo2 X es u)(hs:(assignEach (e::es) X.env).map (·.2)=assign e X.env::(assignEach es X.env).map (·.2):=by rfl):zo2 X (e::es) (zaC t u):=by
 obtain⟨t1,p1,q1⟩:=h1
 obtain⟨t2,p2,q2⟩:=h2
 refine⟨_,zlF p1 p2 hs,fun ρ σ G0 H0 G H ds vs Q P E r h k=>?_⟩
 unfold zaC at h
 split at h
 ·cases vs with
  | nil=>simp only[Reps] at r
  | cons v vs=>
   simp only[Reps] at r
   refine⟨v,vs,rfl,q1 ρ σ G0 H0 G H _ v _ _ E r.1 h fun ρ' σ' G' H' E' x hq=>?_⟩
   exact q2 ρ' σ' G0 H0 G' H' _ vs Q P E' (r.2.mono x.g) hq fun ρ2 σ2 G2 H2 E2 x2 hq2=>k ρ2 σ2 G2 H2 E2 (x.trans x2) hq2
 ·exact h.elim
noncomputable def zdu(n:Nat)(t:zjf):TGd:=fun d ρ Q=>match d with
 | .tup ds=>ds.length=n∧t ds ρ Q
 | _=>False
theorem zbi{es:List Expr}{k:Nat}{t:zjf}{n:Nat}(hc:X.calm=true)(h:zo2 X es t)(hn:(assignEach es X.env).length=n:=by rfl)(hst:(assignEach es X.env).findIdx? (·.1)=none:=by rfl):PGd X (.Tuple es k pos) (zdu n t):=by
 obtain⟨t1,p1,q1⟩:=h
 refine⟨_,zox hc p1 hn hst,fun ρ σ G0 H0 G H d v Q P E r h k=>?_⟩
 unfold zdu at h
 split at h
 ·simp only[Rep] at r
  obtain⟨a,xs,rfl,hq,rs⟩:=r
  exact⟨a,xs,rfl,E.e.s.seqT hq,by rw[rs.length];exact h.1,q1 ρ σ G0 H0 G H _ xs Q P E rs h.2 k⟩
 ·exact h.elim
noncomputable def zoa(te:TD)(g:TGd):TX:=fun D ρ=>te ρ fun r=>g r.val ρ D.nx
theorem zkk{e:Expr}{te:TD}{g:TGd}(he:PD X e te)(hg:PGd X tg g)(hs:swapsWithSole [tg] e pos.line X.env=pure false:=by rfl)(hw:swappedStores [tg] e X.env=pure none:=by rfl)(h1:(assignEach [tg] X.env).map (·.2)=[assign tg X.env]:=by rfl):PX X (.Assign [tg] e pos) (zoa te g):=by
 obtain⟨t,p,q⟩:=he
 obtain⟨t2,p2,q2⟩:=hg
 refine⟨_,zoy p p2 hs hw h1,fun ρ σ G0 H0 G H D E k h g=>q ρ σ G0 H0 G H _ _ k h fun v H' r G' x rr hq=>?_⟩
 obtain⟨G2,x2,rv,_⟩:=rr.freeze x
 exact q2 ρ σ G0 H0 G2 H' _ v _ _ (k.ext x2) rv hq fun ρ' σ' G' H' E' x' hq'=>g.nx ρ' σ' G' H' (x2.g.trans x'.g) E' hq'
noncomputable def zlX(K:PySem.W.Frag)(J:It)(G:Hp)(ds:List D):Prop:=
 (∀i d G' H',ds[i]?=some d→Same G G'→Same G' H'→J.go i H'∧∀v H2,J.yld i H' v H2→∃G2,Ext G' H' G2 H2∧Rep K G2 v d)∧∀G' H',Same G G'→Same G' H'→J.stop ds.length H'
noncomputable abbrev TId:=Ev→(List D→Prop)→Prop
noncomputable def PId(X:Cx)(tg iter:Expr)(wi:TId):Prop:=∃ww,PI X tg iter ww∧∀(ρ:Ev) (σ:St) (G0 H0 G H:Hp) (Q:List D→Prop) (P:It→Hp→Prop),EOk X.K G0 H0 ρ σ G H→wi ρ Q→
 (∀J H' ds G',Ext G H G' H'→zlX X.K J G' ds→Q ds→P J H')→ww σ H P
noncomputable def ziv(d:D)(Q:List D→Prop):Prop:=match d with
 | .lst ds=>Q ds
 | .tup ds=>Q ds
 | .str z=>Q (z.cps.toList.map fun c=>.str ⟨#[c]⟩)
 | _=>False
noncomputable def zev(te:TD):TId:=fun ρ Q=>te ρ fun r=>ziv r.val Q
theorem zkl{K:PySem.W.Frag}{G:Hp}{a:Addr}{xs:List V}{ds:List D}(h:RdL K G a xs)(r:Reps K G xs ds):zlX K (Itl K a) G ds:=by
 refine⟨fun i d G' H' hd s1 s2=>?_,fun G' H' s1 s2=>⟨xs,(s2.rdl (s1.rdl h)).sq,by rw[r.length];exact Nat.le_refl _⟩⟩
 obtain⟨v,hv,rv⟩:=r.get hd
 have hs:SqL K H' a xs:=(s2.rdl (s1.rdl h)).sq
 refine⟨⟨xs,v,hs,hv⟩,fun u H2 hy=>?_⟩
 obtain⟨e,y⟩:=hy
 subst e
 have:=y xs hs
 rw[hv] at this
 cases this
 exact⟨G',.refl s2,rv.mono s1⟩
theorem zlY{K:PySem.W.Frag}{G:Hp}{a:Addr}{xs:List V}{ds:List D}(h:SqT K G a xs)(r:Reps K G xs ds):zlX K (Itt K a) G ds:=by
 refine⟨fun i d G' H' hd s1 s2=>?_,fun G' H' s1 s2=>⟨xs,s2.seqT (s1.seqT h),by rw[r.length];exact Nat.le_refl _⟩⟩
 obtain⟨v,hv,rv⟩:=r.get hd
 have hs:SqT K H' a xs:=s2.seqT (s1.seqT h)
 refine⟨⟨xs,v,hs,hv⟩,fun u H2 hy=>?_⟩
 obtain⟨e,y⟩:=hy
 subst e
 have:=y xs hs
 rw[hv] at this
 cases this
 exact⟨G',.refl s2,rv.mono s1⟩
theorem zlZ{K:PySem.W.Frag}{G:Hp}(z:Str):zlX K (Its z) G (z.cps.toList.map fun c=>.str ⟨#[c]⟩):=by
 refine⟨fun i d G' H' hd s1 s2=>?_,fun G' H' s1 s2=>?_⟩
 ·rw[List.getElem?_map] at hd
  cases e:z.cps.toList[i]? with
  | none=>rw[e] at hd;cases hd
  | some c=>
   rw[e] at hd
   cases hd
   have hc:z.cps[i]?=some c:=by simpa using e
   refine⟨(Array.getElem?_eq_some_iff.mp hc).1,fun v H2 hy=>?_⟩
   obtain⟨e2,c',hc',rfl⟩:=hy
   subst e2
   rw[hc] at hc'
   cases hc'
   exact⟨G',.refl s2,zdO _ _ _⟩
 ·show _=_
  simp
theorem zfZ{K:PySem.W.Frag}{G:Hp}(lo:Int)(n:Nat):zlX K (Itr lo n) G ((List.range n).map fun(i:Nat)=>.int (lo+i)):=by
 refine⟨fun i d G' H' hd s1 s2=>?_,fun G' H' s1 s2=>?_⟩
 ·rw[List.getElem?_map] at hd
  cases e:(List.range n)[i]? with
  | none=>rw[e] at hd;cases hd
  | some c=>
   rw[e] at hd
   cases hd
   obtain⟨h1,h2⟩:=List.getElem?_eq_some_iff.mp e
   have h3:i<n:=by simpa using h1
   have h4:c=i:=by rw[←h2];simp
   subst h4
   refine⟨h3,fun v H2 hy=>?_⟩
   obtain⟨e2,rfl⟩:=hy
   subst e2
   exact⟨G',.refl s2,zaG _ _ _⟩
 ·show n≤_
  simp
noncomputable def zdv(ds:List D):List D:=ds.mapIdx fun i d=>.tup [.int (i:Nat),d]
theorem zgm{K:PySem.W.Frag}{G:Hp}{t:Addr}{x y:V}{d e:D}(s1:SqT K G t [x,y])(r1:Rep K G x d)(r2:Rep K G y e):Rep K G (.ref t) (.tup [d,e]):=by
 simp only[Rep]
 exact⟨t,[x,y],rfl,s1,Reps.cons r1 (Reps.cons r2 Reps.nil)⟩
theorem zkm{K:PySem.W.Frag}{G:Hp}{a:Addr}{xs:List V}{ds:List D}(h:RdL K G a xs)(r:Reps K G xs ds):zlX K (Ite K a) G (zdv ds):=by
 refine⟨fun i d G' H' hd s1 s2=>?_,fun G' H' s1 s2=>⟨xs,(s2.rdl (s1.rdl h)).sq,by rw[r.length];simp[zdv]⟩⟩
 unfold zdv at hd
 rw[List.getElem?_mapIdx] at hd
 cases e:ds[i]? with
 | none=>rw[e] at hd;cases hd
 | some d'=>
  rw[e] at hd
  cases hd
  obtain⟨v,hv,rv⟩:=r.get e
  have hs:SqL K H' a xs:=(s2.rdl (s1.rdl h)).sq
  refine⟨⟨xs,v,hs,hv⟩,fun u H2 hy=>?_⟩
  obtain⟨t,rfl,ht,y⟩:=hy
  obtain⟨x,hx,rfl⟩:=y xs hs
  rw[hv] at hx
  cases hx
  have x2:Ext G' H' (upd G' t (.tup [.int i,v])) (upd H' t (.tup [.int i,v])):=.new s2 ht
  exact⟨_,x2,zgm (SqT.of zau) (zaG _ _ _) ((rv.mono s1).mono x2.g)⟩
noncomputable def zjg(ds es:List D):List D:=List.zipWith (fun d e=>.tup [d,e]) ds es
theorem ziw{K:PySem.W.Frag}{G:Hp}{a b:Addr}{xs ys:List V}{ds es:List D}(h:RdL K G a xs)(r:Reps K G xs ds)(h':RdL K G b ys)(r':Reps K G ys es):zlX K (Itz K a b) G (zjg ds es):=by
 refine⟨fun i d G' H' hd s1 s2=>?_,fun G' H' s1 s2=>⟨xs,ys,(s2.rdl (s1.rdl h)).sq,(s2.rdl (s1.rdl h')).sq,?_⟩⟩
 ·unfold zjg at hd
  rw[List.getElem?_zipWith] at hd
  cases e:ds[i]? with
  | none=>rw[e] at hd;cases hd
  | some d'=>
   cases e2:es[i]? with
   | none=>rw[e,e2] at hd;cases hd
   | some d2=>
    rw[e,e2] at hd
    cases hd
    obtain⟨v,hv,rv⟩:=r.get e
    obtain⟨v',hv',rv'⟩:=r'.get e2
    have hs:SqL K H' a xs:=(s2.rdl (s1.rdl h)).sq
    have hs':SqL K H' b ys:=(s2.rdl (s1.rdl h')).sq
    refine⟨⟨xs,ys,v,v',hs,hs',hv,hv'⟩,fun u H2 hy=>?_⟩
    obtain⟨t,rfl,ht,y⟩:=hy
    obtain⟨x,x',hx,hx',rfl⟩:=y xs ys hs hs'
    rw[hv] at hx
    rw[hv'] at hx'
    cases hx
    cases hx'
    have x2:Ext G' H' (upd G' t (.tup [v,v'])) (upd H' t (.tup [v,v'])):=.new s2 ht
    exact⟨_,x2,zgm (SqT.of zau) ((rv.mono s1).mono x2.g) ((rv'.mono s1).mono x2.g)⟩
 ·rw[r.length,r'.length]
  unfold zjg
  rw[List.length_zipWith]
  omega
theorem za1{l:Expr}{te:TD}(h:PD X l te):PId X tg l (zev te):=by
 obtain⟨t,p,q⟩:=h
 refine⟨_,zoR p,fun ρ σ G0 H0 G H Q P E h k=>q ρ σ G0 H0 G H _ _ E h fun v H' r G' x rr hq=>?_⟩
 obtain⟨G2,x2,rv,_⟩:=rr.freeze x
 unfold ziv at hq
 split at hq
 ·rename_i ds e
  rw[e] at rv
  simp only[Rep] at rv
  obtain⟨a,xs,rfl,h1,h2⟩:=rv
  exact .inl ⟨a,rfl,⟨xs,(x2.s.rdl h1).sq⟩,k _ H' _ G2 x2 (zkl h1 h2) hq⟩
 ·rename_i ds e
  rw[e] at rv
  simp only[Rep] at rv
  obtain⟨a,xs,rfl,h1,h2⟩:=rv
  exact .inr (.inl ⟨a,rfl,⟨xs,x2.s.seqT h1⟩,k _ H' _ G2 x2 (zlY h1 h2) hq⟩)
 ·rename_i z e
  rw[e] at rv
  simp only[Rep] at rv
  exact .inr (.inr ⟨z,rv,k _ H' _ G2 x2 (zlZ z) hq⟩)
 ·exact hq.elim
noncomputable def zdc(ts:TDa):TId:=fun ρ Q=>ts ρ fun ds=>match ds with
 | [.int j]=>-(2 ^ 62)≤j∧j<2 ^ 62∧Q ((List.range j.toNat).map fun(i:Nat)=>.int (0+i))
 | _=>False
theorem zcr{K:PySem.W.Frag}{G:Hp}{vs:List V}{d:D}(h:Reps K G vs [d]):∃v,vs=[v]∧Rep K G v d:=by
 match vs,h with
 | [],h=>simp only[Reps] at h
 | [v],h=>simp only[Reps] at h;exact⟨v,rfl,h.1⟩
 | v::w::r,h=>simp only[Reps] at h;exact absurd h.2 (by simp)
theorem zjh{K:PySem.W.Frag}{G:Hp}{vs:List V}{d e:D}(h:Reps K G vs [d,e]):∃v w,vs=[v,w]∧Rep K G v d∧Rep K G w e:=by
 match vs,h with
 | [],h=>simp only[Reps] at h
 | v::r,h=>
  simp only[Reps] at h
  obtain⟨w,rfl,hw⟩:=zcr h.2
  exact⟨v,w,rfl,h.1,hw⟩
theorem zaS{a:Expr}{ts:TDa}{p:Pos}(hm:X.mg "range"=none)(ha:PDa X [a] ts)(hg:Gl X "range":=by rfl)(hs:starEach [a] X.env=[(false,eval a X.env)]:=by rfl):PId X tg (.Call (.Name "range" p) [a] [] pos) (zdc ts):=by
 obtain⟨t,pp,q⟩:=ha
 refine⟨_,zjR hg hm pp hs,fun ρ σ G0 H0 G H Q P E h k=>q ρ σ G0 H0 G H _ _ E h fun vs H' ds G' x rs hq=>?_⟩
 split at hq
 ·obtain⟨v,rfl,rv⟩:=zcr rs
  simp only[Rep] at rv
  subst rv
  exact⟨_,rfl,hq.1,hq.2.1,k _ H' _ G' x (zfZ 0 _) hq.2.2⟩
 ·exact hq.elim
noncomputable def zl0(ts:TDa):TId:=fun ρ Q=>ts ρ fun ds=>match ds with
 | [.int i,.int j]=>(-(2 ^ 62)≤i∧i<2 ^ 62∧-(2 ^ 62)≤j∧j<2 ^ 62)∧Q ((List.range (j-i).toNat).map fun(n:Nat)=>.int (i+n))
 | _=>False
theorem zji{a b:Expr}{ts:TDa}{p:Pos}(hm:X.mg "range"=none)(ha:PDa X [a,b] ts)(hg:Gl X "range":=by rfl)(hs:starEach [a,b] X.env=[(false,eval a X.env),(false,eval b X.env)]:=by rfl)(hs2:starEach [b] X.env=[(false,eval b X.env)]:=by rfl):PId X tg (.Call (.Name "range" p) [a,b] [] pos) (zl0 ts):=by
 obtain⟨t,pp,q⟩:=ha
 refine⟨_,zjS hg hm pp hs hs2,fun ρ σ G0 H0 G H Q P E h k=>q ρ σ G0 H0 G H _ _ E h fun vs H' ds G' x rs hq=>?_⟩
 split at hq
 ·obtain⟨v,w',rfl,rv,rw'⟩:=zjh rs
  simp only[Rep] at rv rw'
  subst rv rw'
  exact⟨_,_,rfl,hq.1,k _ H' _ G' x (zfZ _ _) hq.2⟩
 ·exact hq.elim
noncomputable def zfA(ts:TDa):TId:=fun ρ Q=>ts ρ fun ds=>match ds with
 | [.lst es]=>Q (zdv es)
 | _=>False
theorem zcC{a:Expr}{ts:TDa}{p tp:Pos}{elts:List Expr}{x1:Nat}(hm:X.mg "enumerate"=none)(ha:PDa X [a] ts)(hg:Gl X "enumerate":=by rfl)(hs:starEach [a] X.env=[(false,eval a X.env)]:=by rfl):PId X (.Tuple elts x1 tp) (.Call (.Name "enumerate" p) [a] [] pos) (zfA ts):=by
 obtain⟨t,pp,q⟩:=ha
 refine⟨_,znz hg hm pp hs,fun ρ σ G0 H0 G H Q P E h k=>q ρ σ G0 H0 G H _ _ E h fun vs H' ds G' x rs hq=>?_⟩
 split at hq
 ·obtain⟨v,rfl,rv⟩:=zcr rs
  simp only[Rep] at rv
  obtain⟨a,xs,rfl,h1,h2⟩:=rv
  exact⟨a,xs,rfl,x.s.rdl h1,k _ H' _ G' x (zkm h1 h2) hq⟩
 ·exact hq.elim
noncomputable def zpP(ts:TDa):TId:=fun ρ Q=>ts ρ fun ds=>match ds with
 | [.lst es,.lst fs]=>Q (zjg es fs)
 | _=>False
theorem znC{a b:Expr}{ts:TDa}{p tp:Pos}{elts:List Expr}{x1:Nat}(hm:X.mg "zip"=none)(ha:PDa X [a,b] ts)(hg:Gl X "zip":=by rfl)(hs:starEach [a,b] X.env=[(false,eval a X.env),(false,eval b X.env)]:=by rfl)(hs2:starEach [b] X.env=[(false,eval b X.env)]:=by rfl) :
  PId X (.Tuple elts x1 tp) (.Call (.Name "zip" p) [a,b] [] pos) (zpP ts):=by
 obtain⟨t,pp,q⟩:=ha
 refine⟨_,zoS hg hm pp hs hs2,fun ρ σ G0 H0 G H Q P E h k=>q ρ σ G0 H0 G H _ _ E h fun vs H' ds G' x rs hq=>?_⟩
 split at hq
 ·obtain⟨v,w',rfl,rv,rw'⟩:=zjh rs
  simp only[Rep] at rv rw'
  obtain⟨a,xs,rfl,h1,h2⟩:=rv
  obtain⟨b,ys,rfl,h3,h4⟩:=rw'
  exact⟨a,b,rfl,⟨xs,(x.s.rdl h1).sq⟩,⟨ys,(x.s.rdl h3).sq⟩,k _ H' _ G' x (ziw h1 h2 h3 h4) hq⟩
 ·exact hq.elim
noncomputable def zeV(wi:TId)(g:TGd)(tb:TX):TX:=fun D ρ=>wi ρ fun ds=>∃Iv:Nat→Ev→Prop,Iv 0 ρ∧
 (∀i d ρ',ds[i]?=some d→Iv i ρ'→g d ρ' fun ρ2=>tb { D with nx:=Iv (i+1),ct:=Iv (i+1),bk:=D.nx } ρ2)∧∀ρ',Iv ds.length ρ'→D.nx ρ'
theorem zbW{iter:Expr}{body:List Stmt}{wi:TId}{g:TGd}{tb:TX}(hp:PassesOwn (model X.prog X.w) X.A X.env X.xe)(hc:X.calm=true)(hi:PId X tg iter wi)(hg:PGd X tg g)(hb:PXs X body tb)
  (hs:∀x,foldedSetIterable iter X.env x=pure x:=by intro _;rfl):PX X (.For tg iter body [] pos) (zeV wi g tb):=by
 obtain⟨t1,p1,q1⟩:=hi
 obtain⟨t2,p2,q2⟩:=hg
 obtain⟨t3,p3,q3⟩:=hb
 refine⟨_,zoz hp hc p1 p2 p3 hs,fun ρ σ G0 H0 G H D E k h gg=>q1 ρ σ G0 H0 G H _ _ k h fun J H1 ds G1 x1 wk hq=>?_⟩
 obtain⟨Iv,i0,turn,fin⟩:=hq
 refine⟨fun i m σ' H'=>m=ds.length-i∧i≤ds.length∧∃ρ' G',EOk X.K G0 H0 ρ' σ' G' H'∧Same G1 G'∧Iv i ρ',⟨ds.length,by simp,Nat.zero_le _,ρ,G1,k.ext x1,Same.refl _,i0⟩,?_⟩
 rintro i m σ' H' ⟨rfl,hi,ρ',G',k',s',iv⟩
 by_cases hlt:i<ds.length
 ·obtain⟨w1,w2⟩:=wk
  obtain⟨go,yl⟩:=w1 i ds[i] G' H' (List.getElem?_eq_getElem hlt) s' k'.e.s
  refine .inr ⟨go,fun σ2 H2=>∃ρ2 G2,EOk X.K G0 H0 ρ2 σ2 G2 H2∧Same G1 G2∧Iv (i+1) ρ2,fun σ2 H2 ⟨ρ2,G2,k2,s2,iv2⟩=>⟨ds.length-(i+1),by omega,rfl,hlt,ρ2,G2,k2,s2,iv2⟩,fun v H2 hy=>?_⟩
  obtain⟨G2,x2,rv⟩:=yl v H2 hy
  refine q2 ρ' σ' G0 H0 G2 H2 ds[i] v _ _ (k'.ext x2) rv (turn i ds[i] ρ' (List.getElem?_eq_getElem hlt) iv) fun ρ3 σ3 G3 H3 k3 x3 hq3=>?_
  have s3:Same G1 G3:=(s'.trans x2.g).trans x3.g
  refine q3 ρ3 σ3 G0 H0 G3 H3 _ _ k3 hq3 ⟨fun ρ4 σ4 G4 H4 s4 k4 h4=>⟨ρ4,G4,k4,s3.trans s4,h4⟩,gg.rt,fun ρ4 σ4 G4 H4 s4 k4 h4=>gg.nx ρ4 σ4 G4 H4 ((x1.g.trans s3).trans s4) k4 h4,fun ρ4 σ4 G4 H4 s4 k4 h4=>⟨ρ4,G4,k4,s3.trans s4,h4⟩⟩
 ·have e:i=ds.length:=by omega
  subst e
  exact .inl ⟨wk.2 G' H' s' k'.e.s,gg.nx ρ' σ' G' H' (x1.g.trans s') k' (fin ρ' iv)⟩
end
end L2
namespace L2
open PySem PySem.Spec PyProof.Rows
noncomputable def zlw(ρ:Ev):Option Nat→Sl
 | none=>.un
 | some j=>match gt ρ j with
  | .fz d=>.fz d
  | _=>.un
noncomputable def zeW(m:List (Option Nat))(ρ:Ev):Ev:=m.map (zlw ρ)
theorem zhf{m:List (Option Nat)}{ρ:Ev}{i:Nat}:gt (m.map (zlw ρ)) i=match m[i]? with
  | some o=>zlw ρ o
  | none=>.un:=by
 induction m generalizing i with
 | nil=>simp[gt]
 | cons a r ih=>
  cases i with
  | zero=>simp[gt]
  | succ i=>simp only[List.map_cons,gt,List.getElem?_cons_succ];exact ih
noncomputable def zdw(m:List (Option Nat))(g:TGd):Prop:=∀d ρ Q,g d ρ Q→g d ρ fun ρ2=>Q ρ2∧ρ2.length=ρ.length∧∀j c,m[j]?=some (some c)→gt ρ2 j=gt ρ j
noncomputable def zgn(m:List (Option Nat))(g:zjf):Prop:=∀ds ρ Q,g ds ρ Q→g ds ρ fun ρ2=>Q ρ2∧ρ2.length=ρ.length∧∀j c,m[j]?=some (some c)→gt ρ2 j=gt ρ j
theorem zay{m:List (Option Nat)}{i:Nat}(h:m[i]?=some none:=by rfl):zdw m (zao i):=fun d ρ Q q=>by
 refine⟨q,by simp,fun j c hj=>?_⟩
 rw[zg6,if_neg]
 rintro⟨e,_⟩
 subst e
 rw[h] at hj
 cases hj
theorem zix{m:List (Option Nat)}:zgn m zc4:=fun ds ρ Q q=>by
 unfold zc4 at q ⊢
 split at q
 ·exact⟨q,rfl,fun _ _ _=>rfl⟩
 ·exact q.elim
theorem zcR{m:List (Option Nat)}{t:TGd}{u:zjf}(mono:∀d ρ (Q Q':Ev→Prop),(∀ρ',Q ρ'→Q' ρ')→t d ρ Q→t d ρ Q')(monos:∀d ρ (Q Q':Ev→Prop),(∀ρ',Q ρ'→Q' ρ')→u d ρ Q→u d ρ Q')(h1:zdw m t)(h2:zgn m u):zgn m (zaC t u):=fun ds ρ Q q=>by
 unfold zaC at q ⊢
 split at q
 ·refine mono _ _ _ _ (fun ρ' ⟨q',l',k'⟩=>?_) (h1 _ _ _ q)
  exact monos _ _ _ _ (fun ρ2 ⟨q2,l2,k2⟩=>⟨q2,l2.trans l',fun j c hj=>(k2 j c hj).trans (k' j c hj)⟩) (h2 _ _ _ q')
 ·exact q.elim
theorem ziy{m:List (Option Nat)}{n:Nat}{u:zjf}(h2:zgn m u):zdw m (zdu n u):=fun d ρ Q q=>by
 unfold zdu at q ⊢
 split at q
 ·exact⟨q.1,h2 _ _ _ q.2⟩
 ·exact q.elim
theorem zbz{i:Nat}:∀d ρ (Q Q':Ev→Prop),(∀ρ',Q ρ'→Q' ρ')→zao i d ρ Q→zao i d ρ Q':=fun _ _ _ _ h q=>h _ q
theorem zdx:∀d ρ (Q Q':Ev→Prop),(∀ρ',Q ρ'→Q' ρ')→zc4 d ρ Q→zc4 d ρ Q':=fun _ _ _ _ h q=>by
 unfold zc4 at q ⊢
 split at q
 ·exact h _ q
 ·exact q.elim
theorem zdy{t:TGd}{u:zjf}(mono:∀d ρ (Q Q':Ev→Prop),(∀ρ',Q ρ'→Q' ρ')→t d ρ Q→t d ρ Q')(monos:∀d ρ (Q Q':Ev→Prop),(∀ρ',Q ρ'→Q' ρ')→u d ρ Q→u d ρ Q'):∀d ρ (Q Q':Ev→Prop),(∀ρ',Q ρ'→Q' ρ')→zaC t u d ρ Q→zaC t u d ρ Q':=fun _ _ _ _ h q=>by
 unfold zaC at q ⊢
 split at q
 ·exact mono _ _ _ _ (fun ρ' q'=>monos _ _ _ _ h q') q
 ·exact q.elim
theorem zb3{m:List (Option Nat)}{i j n:Nat}(h:m[i]?=some none:=by rfl)(h':m[j]?=some none:=by rfl):zdw m (zdu n (zaC (zao i) (zaC (zao j) zc4))):=
 ziy (zcR zbz (zdy zbz zdx) (zay h) (zcR zbz zdx (zay h') zix))
theorem zhY{m:List (Option Nat)}{i j k n:Nat}(h:m[i]?=some none:=by rfl)(h':m[j]?=some none:=by rfl)(h'':m[k]?=some none:=by rfl):zdw m (zdu n (zaC (zao i) (zaC (zao j) (zaC (zao k) zc4)))):=
 ziy (zcR zbz (zdy zbz (zdy zbz zdx)) (zay h) (zcR zbz (zdy zbz zdx) (zay h') (zcR zbz zdx (zay h'') zix)))
noncomputable def PTd(X:Cx)(ifs:List Expr)(t:TDb):Prop:=∃tt,PTs X ifs tt∧∀(ρ:Ev) (σ:St) (G0 H0 G H:Hp) (Q:Bool→Prop) (P:Bool→Hp→Prop),EOk X.K G0 H0 ρ σ G H→t ρ Q→
 (∀b H' G',Ext G H G' H'→Q b→P b H')→tt σ H P
noncomputable def zfB:TDb:=fun _ Q=>Q true
theorem zbU{X:Cx}:PTd X [] zfB:=⟨_,znw,fun ρ σ G0 H0 G H Q P E h k=>k true H G (.refl E.e.s) h⟩
theorem zb4{X:Cx}{c:Expr}{t:TDb}(h:PB X c t):PTd X [c] t:=let⟨tt,p,q⟩:=h;⟨tt,znx p,q⟩
noncomputable def za5(wi:TId)(m:List (Option Nat))(g:TGd)(tc:TDb)(te:TD):TD:=fun ρ Q=>wi ρ fun ds=>∃Iv:Nat→List D→Prop,Iv 0 []∧
 (∀i d acc,ds[i]?=some d→Iv i acc→g d (zeW m ρ) fun ρ2=>tc ρ2 fun b=>if b=true then te ρ2 fun r=>acc.length<sizeLine∧Iv (i+1) (acc++[r.val]) else Iv (i+1) acc)∧∀acc,Iv ds.length acc→Q (.ow acc)
section
variable {X:Cx} {elt iter tg:Expr} {ifs:List Expr} {scope:Scope} {pos:Pos} {N':List Str} {m:List (Option Nat)} {wi:TId} {g:TGd} {tc:TDb} {te:TD}
theorem zhZ(cs:CompScope X N' m scope)(hk:zdw m g){ww:TI}{gg:TIn TG}{tcc:TIn TT}{tee:TIn TE}
  (q1:∀(ρ:Ev) (σ:St) (G0 H0 G H:Hp) (Q:List D→Prop) (P:It→Hp→Prop),EOk X.K G0 H0 ρ σ G H→wi ρ Q→(∀J H' ds G',Ext G H G' H'→zlX X.K J G' ds→Q ds→P J H')→ww σ H P)
  (q2:∀s3 H3 ex (ρ:Ev) (σ:St) (G0 H0 G H:Hp) (d:D) (v:V) (Q:Ev→Prop) (P:St→Hp→Prop),EOk X.K G0 H0 ρ σ G H→Rep X.K G v d→g d ρ Q→(∀ρ' σ' G' H',EOk X.K G0 H0 ρ' σ' G' H'→Ext G H G' H'→Q ρ'→P σ' H')→gg s3 H3 ex v σ H P)
  (q3:∀s3 H3 ex (ρ:Ev) (σ:St) (G0 H0 G H:Hp) (Q:Bool→Prop) (P:Bool→Hp→Prop),EOk X.K G0 H0 ρ σ G H→tc ρ Q→(∀b H' G',Ext G H G' H'→Q b→P b H')→tcc s3 H3 ex σ H P)
  (q4:∀s3 H3 ex,Rdg X.K te (tee s3 H3 ex)):Rdg X.K (za5 wi m g tc te) (zlP ww m gg tcc tee):=by
 refine fun ρ σ G0 H0 G H Q P E h k=>q1 ρ σ G0 H0 G H _ _ E h fun J H1 ds G1 x1 wk hq=>?_
 obtain⟨Iv,i0,turn,fin⟩:=hq
 intro D hD s3 ex
 have E1:=E.ext x1
 have hGD:G1 D=none:=x1.s.free hD
 have noow:∀{i:Nat} {es:List L2.D},gt (zeW m ρ) i=.ow es→False:=fun{i es} h=>by
  unfold zeW at h
  rw[zhf] at h
  split at h
  ·rename_i o _
   unfold zlw at h
   split at h
   ·cases h
   ·split at h<;>cases h
  ·cases h
 have noov:∀{i:Nat} {o:OV},gt (zeW m ρ) i=.ov o→False:=fun{i o} h=>by
  unfold zeW at h
  rw[zhf] at h
  split at h
  ·rename_i o _
   unfold zlw at h
   split at h
   ·cases h
   ·split at h<;>cases h
  ·cases h
 have zcA:EOk X.K G1 H1 (zeW m ρ) (inn m σ) G1 (upd H1 D (.lst [])):=by
  refine⟨.own x1.s hD,by simp[inn,zeW],fun i d h=>?_,fun i es h=>(noow h).elim,fun i j es fs _ h=>(noow h).elim,fun _=>none,fun i es _ h=>(noow h).elim,fun i o h=>(noov h).elim⟩
  unfold zeW at h
  rw[zhf] at h
  split at h
  ·rename_i o ho
   unfold zlw at h
   split at h
   ·cases h
   ·rename_i j
    split at h
    ·rename_i d' hd'
     cases h
     obtain⟨v,hv,rv⟩:=E1.fz j d hd'
     refine⟨v,?_,rv⟩
     unfold inn
     rw[List.getElem?_map,ho]
     simp[hv]
    ·cases h
  ·cases h
 refine⟨fun i n σ' H'=>n=ds.length-i∧i≤ds.length∧∃acc xs G',EOk X.K G1 H1 (zeW m ρ) σ' G' H'∧H' D=some (.lst xs)∧G' D=none∧Reps X.K G' xs acc∧Iv i acc,
  ⟨ds.length,by simp,Nat.zero_le _,[],[],G1,zcA,zau,hGD,Reps.nil,i0⟩,?_⟩
 rintro i n σ' H' ⟨rfl,hi,acc,xs,G',E',hx,hg',rx,iv⟩
 by_cases hlt:i<ds.length
 ·obtain⟨w1,w2⟩:=wk
  obtain⟨go,yl⟩:=w1 i ds[i] G' H' (List.getElem?_eq_getElem hlt) E'.e.g E'.e.s
  refine .inr ⟨go,fun σ2 H2=>∃acc xs G',EOk X.K G1 H1 (zeW m ρ) σ2 G' H2∧H2 D=some (.lst xs)∧G' D=none∧Reps X.K G' xs acc∧Iv (i+1) acc,fun σ2 H2 h2=>⟨ds.length-(i+1),by omega,rfl,hlt,h2⟩,fun v H2 hy=>?_⟩
  obtain⟨G2,x2,rv⟩:=yl v H2 hy
  refine q2 _ _ _ (zeW m ρ) σ' G1 H1 G2 H2 ds[i] v _ _ (E'.ext x2) rv (hk _ _ _ (turn i ds[i] acc (List.getElem?_eq_getElem hlt) iv)) fun ρ3 σ3 G3 H3 E3 x3 hq3=>?_
  obtain⟨hq3,hl3,hk3⟩:=hq3
  have weak:∀j,gt (zeW m ρ) j=.un∨gt (zeW m ρ) j=gt ρ3 j:=fun j=>by
   cases hm:m[j]? with
   | none=>left;unfold zeW;rw[zhf,hm]
   | some o=>
    cases o with
    | none=>left;unfold zeW;rw[zhf,hm];rfl
    | some c=>right;exact(hk3 j c hm).symm
  have x23:=x2.trans x3
  refine q3 _ _ _ ρ3 σ3 G1 H1 G3 H3 _ _ E3 hq3 fun b H4 G4 x4 hq4=>?_
  have x24:=x23.trans x4
  have E4:=(E3.ext x4).weak (ρ':=zeW m ρ) (hl3.symm) weak
  have hx4:H4 D=some (.lst xs):=x24.h _ _ hx
  have hg4:G4 D=none:=x24.n D hg' (by rw[hx];exact nofun)
  cases b with
  | false=>
   rw[if_neg Bool.false_ne_true] at hq4 ⊢
   exact⟨acc,xs,G4,E4,hx4,hg4,rx.mono x24.g,hq4⟩
  | true=>
   rw[if_pos rfl] at hq4 ⊢
   refine q4 _ _ _ ρ3 σ3 G1 H1 G4 H4 _ _ (E3.ext x4) hq4 fun v5 H5 r5 G5 x5 rr5 hq5=>?_
   obtain⟨G6,x6,rv6,_⟩:=rr5.freeze x5
   have E6:=E4.ext x6
   have hx6:H5 D=some (.lst xs):=x6.h _ _ hx4
   have hg6:G6 D=none:=x6.n D hg4 (by rw[hx4];exact nofun)
   have r6:Reps X.K G6 xs acc:=(rx.mono x24.g).mono x6.g
   refine⟨xs,hx6,by rw[r6.length];exact hq5.1,acc++[r5.val],xs++[v5],G6,?_,zau,hg6,r6.append (Reps.cons rv6 Reps.nil),hq5.2⟩
   refine⟨⟨E6.e.g,fun b o e=>by rw[zar (zat e hD)];exact E6.e.h b o e,fun b o e=>by rw[zar (zat e hg6)];exact E6.e.s b o e,E6.e.n⟩,E6.len,E6.fz,fun i es h=>(noow h).elim,fun i j es fs _ h=>(noow h).elim,fun _=>none,fun i es _ h=>(noow h).elim,fun i o h=>(noov h).elim⟩
 ·have e:i=ds.length:=by omega
  subst e
  refine .inl ⟨wk.2 G' H' E'.e.g E'.e.s,k _ H' (.ow acc) G' (x1.trans E'.e) ⟨D,xs,rfl,x1.h.free hD,hg',hx,rx⟩ (fin acc iv)⟩
theorem zbj(hc:X.calm=true)(cs:CompScope X N' m scope)(hk:zdw m g)(hi:PId X tg iter wi)(hg:∀s3 H3 ex,PGd (cxC X N' scope s3 H3 ex) tg g)(ht:∀s3 H3 ex,PTd (cxC X N' scope s3 H3 ex) ifs tc)
  (he:∀s3 H3 ex,PD (cxC X N' scope s3 H3 ex) elt te) (hs:∀x,foldedSetIterable iter X.env x=pure x:=by intro _;rfl):PD X (.ListComp elt [⟨tg,iter,ifs,0⟩] scope pos) (za5 wi m g tc te):=by
 obtain⟨ww,p1,q1⟩:=hi
 exact⟨_,zny (g:=fun s3 H3 ex=>(hg s3 H3 ex).choose) (tc:=fun s3 H3 ex=>(ht s3 H3 ex).choose) (te:=fun s3 H3 ex=>(he s3 H3 ex).choose) hc cs p1 (fun s3 H3 ex=>(hg s3 H3 ex).choose_spec.1) (fun s3 H3 ex=>(ht s3 H3 ex).choose_spec.1) (fun s3 H3 ex=>(he s3 H3 ex).choose_spec.1) hs,
  zhZ cs hk q1 (fun s3 H3 ex=>(hg s3 H3 ex).choose_spec.2) (fun s3 H3 ex=>(ht s3 H3 ex).choose_spec.2) (fun s3 H3 ex=>(he s3 H3 ex).choose_spec.2)⟩
theorem zkn(i:Nat){x:Str}{pos' posS:Pos}(hc:X.calm=true)(cs:CompScope X N' m scope)(hk:zdw m g)(hi:PId X tg iter wi)(hg:∀s3 H3 ex,PGd (cxC X N' scope s3 H3 ex) tg g)(ht:∀s3 H3 ex,PTd (cxC X N' scope s3 H3 ex) ifs tc)
  (he:∀s3 H3 ex,PD (cxC X N' scope s3 H3 ex) elt te) (hN:X.N.Nodup:=by assumption) (hix:X.N[i]?=some x:=by rfl) (hx:Loc X.env.scope x:=by first | exact Or.inl rfl | exact Or.inr rfl) (hs:∀x,foldedSetIterable iter X.env x=pure x:=by intro _;rfl)
  (hsw:swapsWith (.ListComp elt [⟨tg,iter,ifs,0⟩] scope pos) (some (.Name x pos')) posS.line X.env=pure true:=by rfl)
  (hf:X.fn x=true∨X.env.scope.names.lookup x=some .local:=by first | exact .inl rfl | exact .inr rfl | assumption) :
  PX X (.Assign [.Name x pos'] (.ListComp elt [⟨tg,iter,ifs,0⟩] scope pos) posS) (zhe i (za5 wi m g tc te)):=by
 obtain⟨ww,p1,q1⟩:=hi
 refine⟨_,zj8 (g:=fun s3 H3 ex=>(hg s3 H3 ex).choose) (tc:=fun s3 H3 ex=>(ht s3 H3 ex).choose) (te:=fun s3 H3 ex=>(he s3 H3 ex).choose) hN hix hx hc cs p1 (fun s3 H3 ex=>(hg s3 H3 ex).choose_spec.1) (fun s3 H3 ex=>(ht s3 H3 ex).choose_spec.1) (fun s3 H3 ex=>(he s3 H3 ex).choose_spec.1) hs hsw hf,fun ρ σ G0 H0 G H D E k h gg=>?_⟩
 exact zhZ cs hk q1 (fun s3 H3 ex=>(hg s3 H3 ex).choose_spec.2) (fun s3 H3 ex=>(ht s3 H3 ex).choose_spec.2) (fun s3 H3 ex=>(he s3 H3 ex).choose_spec.2) ρ σ G0 H0 G H _ _ k h fun v H' r G' x rr hq=>gg.nx _ _ G' H' x.g (k.put x rr) hq
theorem zdz(i:Nat){x:Str}{pos' posS:Pos}(hc:X.calm=true)(cs:CompScope X N' m scope)(hk:zdw m g)(hi:PId X tg iter wi)(hg:∀s3 H3 ex,PGd (cxC X N' scope s3 H3 ex) tg g)(ht:∀s3 H3 ex,PTd (cxC X N' scope s3 H3 ex) ifs tc)
  (he:∀s3 H3 ex,PD (cxC X N' scope s3 H3 ex) elt te) (hN:X.N.Nodup:=by assumption) (hix:X.N[i]?=some x:=by rfl) (hx:Loc X.env.scope x:=by first | exact Or.inl rfl | exact Or.inr rfl) (hs:∀x,foldedSetIterable iter X.env x=pure x:=by intro _;rfl)
  (hsw:swapsWith (.ListComp elt [⟨tg,iter,ifs,0⟩] scope pos) (some (.Name x pos')) posS.line X.env=pure true:=by rfl)
  (hf:X.fn x=true∨X.env.scope.names.lookup x=some .local:=by first | exact .inl rfl | exact .inr rfl | assumption) :
  PX X (.Assign [.Name x pos'] (.ListComp elt [⟨tg,iter,ifs,0⟩] scope pos) posS) (zaB i (za5 wi m g tc te)):=by
 obtain⟨ww,p1,q1⟩:=hi
 refine⟨_,zj8 (g:=fun s3 H3 ex=>(hg s3 H3 ex).choose) (tc:=fun s3 H3 ex=>(ht s3 H3 ex).choose) (te:=fun s3 H3 ex=>(he s3 H3 ex).choose) hN hix hx hc cs p1 (fun s3 H3 ex=>(hg s3 H3 ex).choose_spec.1) (fun s3 H3 ex=>(ht s3 H3 ex).choose_spec.1) (fun s3 H3 ex=>(he s3 H3 ex).choose_spec.1) hs hsw hf,fun ρ σ G0 H0 G H D E k h gg=>?_⟩
 refine zhZ cs hk q1 (fun s3 H3 ex=>(hg s3 H3 ex).choose_spec.2) (fun s3 H3 ex=>(ht s3 H3 ex).choose_spec.2) (fun s3 H3 ex=>(he s3 H3 ex).choose_spec.2) ρ σ G0 H0 G H _ _ k h fun v H' r G' x rr hq=>?_
 obtain⟨G2,x2,rv,_⟩:=rr.freeze x
 exact gg.nx _ _ G2 H' x2.g (k.put x2 (r:=.fz r.val) rv) hq
end
noncomputable abbrev SpD:=List D→(R→Prop)→Prop
noncomputable def PSp(K:PySem.W.Frag)(n:Nat)(t:SpD):Sp:=fun vs H Q _=>∃G ds Qr,Same G H∧Reps K G vs ds∧ds.length=n∧t ds Qr∧∀v H' r G',Ext G H G' H'→RepR K G' H' H v r→Qr r→Q v H'
noncomputable def zaH(N:List Str)(ds:List D):Ev:=ds.map Sl.fz++List.replicate (N.length-ds.length) .un
theorem zhg{ds:List D}{l:List Sl}{i:Nat}{s:Sl}(h:gt (ds.map Sl.fz++l) i=s):(∃d,ds[i]?=some d∧s=.fz d)∨(ds.length≤i∧gt l (i-ds.length)=s):=by
 induction ds generalizing i with
 | nil=>exact .inr ⟨Nat.zero_le _,by simpa using h⟩
 | cons d ds ih=>
  cases i with
  | zero=>simp only[List.map_cons,List.cons_append,gt] at h;exact .inl ⟨d,rfl,h.symm⟩
  | succ i=>
   simp only[List.map_cons,List.cons_append,gt] at h
   rcases ih h with⟨e,h1,h2⟩ | ⟨h1,h2⟩
   ·exact .inl ⟨e,by simpa using h1,h2⟩
   ·refine .inr ⟨by simp;omega,?_⟩
    rw[List.length_cons]
    rw[show i+1-(ds.length+1)=i-ds.length by omega]
    exact h2
theorem zko{n i:Nat}:gt (List.replicate n Sl.un) i=.un:=by
 induction n generalizing i with
 | zero=>simp[gt]
 | succ n ih=>
  cases i with
  | zero=>rfl
  | succ i=>exact ih
theorem ziz{K:PySem.W.Frag}{G H:Hp}{N:List Str}{vs:List V}{ds:List D}(s:Same G H)(r:Reps K G vs ds):EOk K G H (zaH N ds) (zcA N vs) G H:=by
 have hl:=r.length
 have c:∀{i:Nat} {t:Sl},gt (zaH N ds) i=t→t≠.un→∃d,ds[i]?=some d∧t=.fz d:=fun{i t} h n=>by
  rcases zhg h with h | ⟨_,h⟩
  ·exact h
  ·rw[zko] at h;exact absurd h.symm n
 refine⟨.refl s,by simp[zcA,zaH,hl],fun i d h=>?_,fun i es h=>?_,fun i j es fs _ h=>?_,fun _=>none,fun i es _ h=>?_,fun i o h=>?_⟩
 ·obtain⟨d',h1,h2⟩:=c h (by simp)
  cases h2
  obtain⟨v,hv,rv⟩:=r.get h1
  have hi:i<vs.length:=(List.getElem?_eq_some_iff.mp hv).1
  refine⟨v,?_,rv⟩
  unfold zcA
  rw[List.getElem?_append_left (by simpa using hi),List.getElem?_map,hv]
  rfl
 ·obtain⟨d',h1,h2⟩:=c h (by simp)
  cases h2
 ·obtain⟨d',h1,h2⟩:=c h (by simp)
  cases h2
 ·obtain⟨d',h1,h2⟩:=c h (by simp)
  cases h2
 ·obtain⟨d',h1,h2⟩:=c h (by simp)
  cases h2
section
variable {P:Program} {w:World} {K:PySem.W.Frag} {mg:Str→Option Value} {base:Heap}
theorem zck{x qual:Str}{st:Stmt}{f:Addr}{fd:FuncData}{N ps:List Str}{k:Nat}{t:SpD}{T:TX}{dV:Value}(F:FunV dV K x qual st f fd)(S:FnScope N ps (defScope st))
  (body:∀(cdv:Value) (A:Around) (outer:List Env) (s:Shared) (H:Hp) (E:XK),Room k (A.deeper (envOfC qual (defScope st) s.heap.objs.size f cdv))→PXs (zi8 CX0 P w K mg base N qual (defScope st) f cdv A outer s H E).nox (defBody st) T)
  (spec:∀(ds:List D) (Qr:R→Prop),ds.length=ps.length→t ds Qr→T { nx:=fun _=>Qr (.fz .non),rt:=Qr } (zaH N ds)):FnOk P w K mg base CX0 (k+1) f fd ps (PSp K ps.length t):=by
 refine F.ok S (fun vs H Q E h=>?_) (fun cdv A outer s H vs Q E hr h=>?_)
 ·obtain⟨G,ds,Qr,_,r,hl,_⟩:=h
  rw[r.length,hl]
 ·obtain⟨G,ds,Qr,s0,r,hl,ht,k0⟩:=h
  obtain⟨tt,p,q⟩:=body cdv A outer s H E hr
  exact⟨tt,p,q _ _ G H G H _ _ (ziz s0 r) (spec ds Qr hl ht) ⟨fun ρ σ G' H' _ e h=>k0 _ H' _ G' e.e (fzR (zkd _ _)) h,k0,fun _ _ _ _ _ _ h=>h.elim,fun _ _ _ _ _ _ h=>h.elim⟩⟩
end
section
variable {X:Cx} {k n:Nat} {f:Addr} {fd:FuncData} {ps:List Str} {t:SpD} {x:Str} {p pos:Pos} {e:Expr} {es:List Expr} {ts:TDa}
noncomputable def zaP(n:Nat)(t:SpD)(ts:TDa):TD:=fun ρ Q=>ts ρ fun ds=>ds.length=n∧t ds Q
theorem znD(F:FnOk X.prog X.w X.K X.mg X.base CX0 k f fd ps (PSp X.K n t))(hr:Room k X.A)(hm:X.mg x=some (.ref f))(hk:PySem.W.keepIn X.K (.ref f)=true)(hb:Binds X.K fd ps [])(ha:PDa X (e::es) ts)(hg:Gl X x:=by rfl)(hdb:(x==("__debug__":Str))=false:=by decide)
  (he:starEach (e::es) X.env=(false,eval e X.env)::starEach es X.env:=by rfl) (hpl:(backTo pos (starEach es X.env)).any (·.1)=false:=by rfl):PD X (.Call (.Name x p) (e::es) [] pos) (zaP n t ts):=by
 obtain⟨tt,pp,q⟩:=ha
 refine⟨_,zno F hr hg hm hk hb .nil zoP pp hdb he hpl,fun ρ σ G0 H0 G H Q P E h k=>q ρ σ G0 H0 G H _ _ E h fun vs H' ds G' x rs hq=>?_⟩
 rw[List.append_nil]
 exact⟨G',ds,Q,x.s,rs,hq.1,hq.2,fun v H2 r G2 x2 rr q2=>k v H2 r G2 (x.trans x2) (rr.older x.h) q2⟩
end
end L2
namespace L2
open PySem PySem.Spec PyProof.Rows PySem.StrLaws
noncomputable def zeG{α:Type}(xs:List α)(lo hi:Option Int):List α:=(xs.drop (HT.sIx xs.length 0 lo)).take (HT.sIx xs.length xs.length hi-HT.sIx xs.length 0 lo)
noncomputable def zkp(z:Str)(lo hi:Option Int):Str:=⟨(zeG z.cps.toList lo hi).toArray⟩
theorem zhh(v:Int)(n d:Nat):max 0 (min (if v<0 then v+(n:Int) else v) (n:Int))=((HT.sIx n d (some v):Nat):Int):=by
 rw[←HT.clip_eq]
 by_cases h:v<0
 ·rw[if_pos h,if_pos h];omega
 ·rw[if_neg h,if_neg h];omega
theorem zf0(z:Str)(lo hi:Option Int):(Builtin.Str.strSliceIndices lo hi 1 z.length).filterMap (z.cps[·]?)=zeG z.cps.toList lo hi:=by
 have hl:z.cps.toList.length=z.length:=by simp[Str.length]
 have e:Builtin.Str.strSliceIndices lo hi 1 z.length=sliceRange ((HT.sIx z.length 0 lo:Nat):Int) ((HT.sIx z.length z.length hi:Nat):Int) 1:=by
  unfold Builtin.Str.strSliceIndices
  cases lo with
  | none=>
   cases hi with
   | none=>rfl
   | some v=>simp only[show((1:Int)>0) from by decide,if_true,zhh v z.length z.length];rfl
  | some u=>
   cases hi with
   | none=>simp only[show((1:Int)>0) from by decide,if_true,zhh u z.length 0];rfl
   | some v=>simp only[show((1:Int)>0) from by decide,if_true,zhh v z.length z.length,zhh u z.length 0]
 rw[e]
 unfold zeG
 rw[hl]
 generalize ha:HT.sIx z.length 0 lo=a
 generalize hb:HT.sIx z.length z.length hi=b
 have hbl:b≤z.length:=by rw[←hb];exact HT.sIx_le _ _ (Nat.le_refl _) _
 have hal:a≤z.length:=by rw[←ha];exact HT.sIx_le _ _ (Nat.zero_le _) _
 by_cases hab:a≤b
 ·have:=sliced_plain z hab hbl
  rw[strSliceIndices_plain hab hbl] at this
  rw[←this]
  unfold sliceRange
  simp only[show((1:Int)>0) from by decide,if_true]
  congr 1
  by_cases h:a<b
  ·rw[if_pos (by omega)]
   rw[show(((b:Int)-(a:Int)+1-1)/1).toNat=b-a by omega]
   apply List.map_congr_left
   intro k _
   show((a:Int)+1*(k:Int)).toNat=a+k
   omega
  ·rw[if_neg (by omega),show b-a=0 by omega]
   rfl
 ·rw[show b-a=0 by omega,List.take_zero]
  unfold sliceRange
  simp only[show((1:Int)>0) from by decide,if_true]
  rw[if_neg (by omega)]
  rfl
theorem zkq(z:Str)(lo hi:Option Int):Txt.slice z lo hi=zkp z lo hi:=by
 unfold Txt.slice zkp
 split
 ·rename_i h
  have h':(Builtin.Str.strSliceIndices lo hi 1 z.length).length=z.length:=by simpa using h
  have hl:z.cps.toList.length=z.length:=by simp[Str.length]
  have e:=zf0 z lo hi
  have h2:(zeG z.cps.toList lo hi).length=z.length:=by
   unfold zeG
   rw[List.length_take,List.length_drop,hl]
   have e1:Builtin.Str.strSliceIndices lo hi 1 z.length=sliceRange ((HT.sIx z.length 0 lo:Nat):Int) ((HT.sIx z.length z.length hi:Nat):Int) 1:=by
    unfold Builtin.Str.strSliceIndices
    cases lo with
    | none=>
     cases hi with
     | none=>rfl
     | some v=>simp only[show((1:Int)>0) from by decide,if_true,zhh v z.length z.length];rfl
    | some u=>
     cases hi with
     | none=>simp only[show((1:Int)>0) from by decide,if_true,zhh u z.length 0];rfl
     | some v=>simp only[show((1:Int)>0) from by decide,if_true,zhh v z.length z.length,zhh u z.length 0]
   rw[e1] at h'
   unfold sliceRange at h'
   simp only[show((1:Int)>0) from by decide,if_true,List.length_map,List.length_range] at h'
   have b1:=HT.sIx_le z.length z.length (Nat.le_refl _) hi
   have b2:=HT.sIx_le z.length 0 (Nat.zero_le _) lo
   by_cases h3:((HT.sIx z.length 0 lo:Nat):Int)<((HT.sIx z.length z.length hi:Nat):Int)
   ·rw[if_pos h3] at h';omega
   ·rw[if_neg h3] at h';simp at h';omega
  apply Str.ext'
  show z.cps=(zeG z.cps.toList lo hi).toArray
  have h3:zeG z.cps.toList lo hi=z.cps.toList:=by
   unfold zeG at h2 ⊢
   rw[List.length_take,List.length_drop,hl] at h2
   rw[hl]
   have b1:=HT.sIx_le z.length z.length (Nat.le_refl _) hi
   have a0:HT.sIx z.length 0 lo=0∨z.length=0:=by omega
   rcases a0 with a0 | a0
   ·rw[a0,List.drop_zero,Nat.sub_zero]
    exact List.take_of_length_le (by omega)
   ·have:z.cps.toList=[]:=List.eq_nil_of_length_eq_zero (by omega)
    rw[this];simp
  rw[h3]
 ·rw[zf0]
section
variable {X:Cx} {pos:Pos} {e:Expr} {te:TD}
theorem sl_str:SlR X (fun x lo hi H Q=>∃z,x=.str z∧z.length≤sizeLine∧Q (.str (zkp z lo hi)) H):=by
 intro pins s σ H x v vl vu lo hi sl Q I rx hs pl pu h
 obtain⟨z,rfl,hz,q⟩:=h
 obtain⟨t,rfl⟩:=rx
 refine⟨"str",_,F.slot_str_getitem.lookup,typeIs_str _ _ _,?_⟩
 have part:∀{u:Value} {o:Option Int},IsPart u o→∃p:Option (Int×Tok),u=partValue p∧p.map (·.1)=o:=fun h=>by
  cases h with
  | none=>exact⟨none,rfl,rfl⟩
  | int i t=>exact⟨some (i,t),rfl,rfl⟩
 obtain⟨p1,rfl,e1⟩:=part pl
 obtain⟨p2,rfl,e2⟩:=part pu
 obtain⟨o,ho,hc,hd⟩:=hs
 refine wpAny_getItem_str_slice (l:=p1) (u:=p2) (st:=none) ⟨o,ho,hc,hd⟩ rfl ?_
 have fin:∀t' k,EP X pins σ Q (.str (Txt.slice z lo hi) t') { s with toks:=k }:=fun t' k=>⟨.str (zkp z lo hi),H,I.tok k,⟨t',by rw[zkq]⟩,q⟩
 have hle:=Nat.le_trans (Txt.slice_le z lo hi) hz
 subst e1 e2
 exact post_val_or_str ⟨hle,fin⟩
noncomputable abbrev TOd:=Ev→(Option Int→Prop)→Prop
noncomputable def POd(X:Cx)(e:Option Expr)(t:TOd):Prop:=∃tt,PO X e tt∧∀(ρ:Ev) (σ:St) (G0 H0 G H:Hp) (Q:Option Int→Prop) (P:Option Int→Hp→Prop),EOk X.K G0 H0 ρ σ G H→t ρ Q→(∀o H' G',Ext G H G' H'→Q o→P o H')→tt σ H P
noncomputable def oNo:TOd:=fun _ Q=>Q none
noncomputable def zcs(te:TD):TOd:=fun ρ Q=>te ρ fun r=>match r.val with
 | .int i=>Q (some i)
 | _=>False
theorem zbp:POd X none oNo:=⟨_,znr,fun ρ σ G0 H0 G H Q P E h k=>k none H G (.refl E.e.s) h⟩
theorem zaQ(h:PD X e te):POd X (some e) (zcs te):=by
 obtain⟨t,p,q⟩:=h
 refine⟨_,zns p,fun ρ σ G0 H0 G H Q P E h k=>q ρ σ G0 H0 G H _ _ E h fun v H' r G' x rr hq=>?_⟩
 obtain⟨G2,x2,rv,_⟩:=rr.freeze x
 split at hq
 ·rename_i i e1
  rw[e1] at rv
  simp only[Rep] at rv
  exact⟨i,rv,k _ H' G2 x2 hq⟩
 ·exact hq.elim
noncomputable def dSl(te:TD)(tl th:TOd):TD:=fun ρ Q=>te ρ fun r=>tl ρ fun lo=>th ρ fun hi=>match r.val with
 | .lst ds=>Q (.ow (zeG ds lo hi))
 | .str z=>z.length≤sizeLine∧Q (.fz (.str (zkp z lo hi)))
 | .tup ds=>¬(HT.sIx ds.length 0 lo=0∧HT.sIx ds.length ds.length hi=ds.length)∧Q (.fz (.tup (zeG ds lo hi)))
 | _=>False
theorem zkr{K:PySem.W.Frag}{G:Hp}{xs:List V}{ds:List D}(r:Reps K G xs ds)(lo hi:Option Int):Reps K G (zlv xs lo hi) (zeG ds lo hi):=by
 unfold zlv zeG
 rw[r.length]
 exact(r.drop _).take _
theorem za2{lo hi:Option Expr}{tl th:TOd}{p2:Pos}(he:PD X e te)(hl:POd X lo tl)(hh:POd X hi th):PD X (.Subscript e (.Slice lo hi none p2) pos) (dSl te tl th):=by
 obtain⟨t1,p1,q1⟩:=he
 obtain⟨t2,p2,q2⟩:=hl
 obtain⟨t3,p3,q3⟩:=hh
 refine⟨_,zlL (sl_list.or (sl_str.or zoL)) p1 p2 p3,fun ρ σ G0 H0 G H Q P E h k=>q1 ρ σ G0 H0 G H _ _ E h fun v H' r G' x rr hq=>?_⟩
 obtain⟨G1,x1,rv,_⟩:=rr.freeze x
 refine q2 ρ σ G0 H0 G1 H' _ _ (E.ext x1) hq fun lo H2 G2 x2 hq2=>?_
 refine q3 ρ σ G0 H0 G2 H2 _ _ ((E.ext x1).ext x2) hq2 fun hi H3 G3 x3 hq3=>?_
 have x13:=(x1.trans x2).trans x3
 have rv3:=(rv.mono x2.g).mono x3.g
 split at hq3
 ·rename_i ds e1
  rw[e1] at rv3
  simp only[Rep] at rv3
  obtain⟨a,xs,rfl,h1,h2⟩:=rv3
  refine .inl ⟨a,xs,rfl,(x13.s.rdl h1).sq,fun p hp=>?_⟩
  exact k _ _ (.ow _) G3 (x13.trans (.own x13.s hp)) ⟨p,_,rfl,x13.h.free hp,x13.s.free hp,zau,zkr h2 lo hi⟩ hq3
 ·rename_i z e1
  rw[e1] at rv3
  simp only[Rep] at rv3
  exact .inr (.inl ⟨z,rv3,hq3.1,k _ _ _ G3 x13 (fzR (zdO _ _ _)) hq3.2⟩)
 ·rename_i ds e1
  rw[e1] at rv3
  simp only[Rep] at rv3
  obtain⟨a,xs,rfl,h1,h2⟩:=rv3
  refine .inr (.inr ⟨a,xs,rfl,x13.s.seqT h1,by rw[h2.length];exact hq3.1,fun p hp=>?_⟩)
  have x4:Ext G3 H3 (upd G3 p (.tup (zlv xs lo hi))) (upd H3 p (.tup (zlv xs lo hi))):=.new x13.s hp
  refine k _ _ (.fz _) _ (x13.trans x4) ?_ hq3.2
  show Rep X.K _ _ (.tup _)
  simp only[Rep]
  exact⟨p,_,rfl,SqT.of zau,(zkr h2 lo hi).mono x4.g⟩
 ·exact hq3.elim
noncomputable def zhR:SpD:=fun ds Q=>match ds with
 | [.lst es]=>Q (.fz (.int es.length))
 | [.tup es]=>Q (.fz (.int es.length))
 | [.str z]=>z.length≤sizeLine∧Q (.fz (.int z.length))
 | _=>False
theorem zeX:zdR X (.builtin "len") zhR:=by
 refine⟨_,call_len_seq.or zg2,fun G H vs ds Q P s rs h k=>?_⟩
 unfold zhR at h
 split at h
 ·obtain⟨v,rfl,rv⟩:=zcr rs
  simp only[Rep] at rv
  obtain⟨a,xs,rfl,h1,h2⟩:=rv
  refine .inl ⟨a,xs,rfl,.inl ((s.rdl h1).sq),?_⟩
  rw[h2.length]
  exact k _ _ _ G (.refl s) (fzR (zaG _ _ _)) h
 ·obtain⟨v,rfl,rv⟩:=zcr rs
  simp only[Rep] at rv
  obtain⟨a,xs,rfl,h1,h2⟩:=rv
  refine .inl ⟨a,xs,rfl,.inr (s.seqT h1),?_⟩
  rw[h2.length]
  exact k _ _ _ G (.refl s) (fzR (zaG _ _ _)) h
 ·obtain⟨v,rfl,rv⟩:=zcr rs
  simp only[Rep] at rv
  subst rv
  exact .inr ⟨_,rfl,h.1,k _ _ _ G (.refl s) (fzR (zaG _ _ _)) h.2⟩
 ·exact h.elim
noncomputable def zdd:List D→Option (List Bool)
 | []=>some []
 | .bl b::r=>(zdd r).map (b::·)
 | _=>none
theorem zhi:∀{ds:List D} {bs:List Bool},zdd ds=some bs→ds=bs.map D.bl
 | [],bs,h=>by simp[zdd] at h;subst h;rfl
 | .bl b::r,bs,h=>by
  simp only[zdd,Option.map_eq_some_iff] at h
  obtain⟨bs',h1,rfl⟩:=h
  rw[zhi h1];rfl
 | .non::r,bs,h=>by simp[zdd] at h
 | .int _::r,bs,h=>by simp[zdd] at h
 | .str _::r,bs,h=>by simp[zdd] at h
 | .tup _::r,bs,h=>by simp[zdd] at h
 | .lst _::r,bs,h=>by simp[zdd] at h
 | .obj _ _::r,bs,h=>by simp[zdd] at h
 | .dic _::r,bs,h=>by simp[zdd] at h
 | .dit _::r,bs,h=>by simp[zdd] at h
theorem zks(bs:List Bool):zdd (bs.map D.bl)=some bs:=by
 induction bs with
 | nil=>rfl
 | cons b r ih=>simp[zdd,ih]
theorem zkt{K:PySem.W.Frag}{G:Hp}:∀{bs:List Bool} {vs:List V},Reps K G vs (bs.map D.bl)→vs=bs.map V.bl
 | [],[],_=>rfl
 | b::bs,v::vs,h=>by
  simp only[List.map_cons,Reps,Rep] at h
  rw[h.1,zkt h.2];rfl
 | [],_::_,h=>by simp only[List.map_nil,Reps] at h
 | _::_,[],h=>by simp only[List.map_cons,Reps] at h
theorem zl1{bs:List Bool}{us:List Value}(h:Vals (bs.map V.bl) us){i:Nat}{v:Value}(hv:us[i]?=some v):∃b,bs[i]?=some b∧v=.bool b:=by
 have hl:=h.length
 have hi:i<us.length:=(List.getElem?_eq_some_iff.mp hv).1
 have hi2:i<bs.length:=by rw[List.length_map] at hl;omega
 obtain⟨u,hu,ru⟩:=h.get (i:=i) (x:=V.bl bs[i]) (by simp[hi2])
 rw[hv] at hu
 cases hu
 exact⟨bs[i],by simp[hi2],ru⟩
theorem znE{s:Shared}{h':Heap}{o:Obj}(hk:∀b x,b∉[s.heap.objs.size]→(s.heap.push o).get? b=some x→h'.get? b=some x):∀b x,s.heap.get? b=some x→h'.get? b=some x:=
 fun b x e=>hk b x (fun hm=>by rw[List.mem_singleton.mp hm] at e;exact Nat.lt_irrefl _ (Heap.lt_size e)) (Heap.get?_push_of_some _ e)
theorem znF(bs:List Bool):((List.range bs.length).all fun i=>(bs[i]?).getD true)=bs.all id:=by
 rw[Bool.eq_iff_iff]
 simp only[List.all_eq_true,List.mem_range,id]
 constructor
 ·intro h b hb
  obtain⟨i,hi,rfl⟩:=List.mem_iff_getElem.mp hb
  simpa[hi] using h i hi
 ·intro h i hi
  simpa[hi] using h _ (List.getElem_mem hi)
theorem zku(hc:X.calm=true):CallR X (.builtin "all") (fun xs H Q=>∃(p:Addr) (bs:List Bool),xs=[.ref p]∧SqL X.K H p (bs.map V.bl)∧Q (.bl (bs.all id)) H):=by
 intro pins s σ H xs us Q I r h
 obtain⟨p,bs,rfl,hq,q⟩:=h
 obtain⟨u,rfl,ru⟩:=zcN r
 cases ru
 obtain⟨its,rv,pl,hz⟩:=I.list hq
 have hlt:p<s.heap.objs.size:=by obtain⟨_,_,e,_⟩:=pl;exact Heap.lt_size e
 have hl:its.length=bs.length:=by rw[←rv.length,List.length_map]
 refine call_all_walk (wpAny_pyIter_list pl.isList ?_)
 refine⟨s.heap.objs.size,[s.heap.objs.size,p],[s.heap.objs.size],its.toArray.size,_,_,fun i=>(bs[i]?).getD true,rfl,Walks.list (A:=X.A.in1) (I.ok.hd hc) _ p (Nat.ne_of_lt hlt) its.toArray,
  ⟨⟨_,Heap.get?_push_size _ rfl,rfl,rfl⟩,pl.isList.push _⟩,fun i v s' Q' E' hP hQ=>?_,fun h' tk hk=>?_⟩
 ·obtain⟨b,e,rfl⟩:=zl1 rv (i:=i) (v:=v) (by simpa using hP)
  simp only[e,Option.getD_some] at hQ
  exact wpAny_truthy_bool hQ
 ·rw[List.size_toArray,hl,znF]
  exact⟨.bl _,H,I.kept (znE hk),rfl,q⟩
noncomputable def zob:SpD:=fun ds Q=>match ds with
 | [.lst es]=>match zdd es with
  | some bs=>Q (.fz (.bl (bs.all id)))
  | none=>False
 | _=>False
theorem zqk(hc:X.calm=true):zdR X (.builtin "all") zob:=by
 refine⟨_,zku hc,fun G H vs ds Q P s rs h k=>?_⟩
 unfold zob at h
 split at h
 ·split at h
  ·rename_i es bs hb
   obtain⟨v,rfl,rv⟩:=zcr rs
   simp only[Rep] at rv
   obtain⟨a,xs,rfl,h1,h2⟩:=rv
   rw[zhi hb] at h2
   rw[zkt h2] at h1
   exact⟨a,bs,rfl,(s.rdl h1).sq,k _ _ _ G (.refl s) (fzR (zbq _ _ _)) h⟩
  ·exact h.elim
 ·exact h.elim
end
end L2
namespace L2
open PySem PySem.Spec PyProof.Rows
section
variable {X:Cx} {pos:Pos} {e:Expr} {te:TD}
noncomputable def tyD:D→String
 | .non=>"NoneType"
 | .bl _=>"bool"
 | .int _=>"int"
 | .str _=>"str"
 | .tup _=>"tuple"
 | .lst _=>"list"
 | .obj _ _=>"object"
 | .dic _=>"dict"
 | .dit _=>"dict"
noncomputable def zcc(t T:String):Bool:=(t==T)||(t=="bool"&&T=="int")
theorem zem{K:PySem.W.Frag}{t T:String}(ht:t∈["NoneType","bool","int","str","tuple","list"])(hT:T∈["bool","int","str","tuple","list"]):PySem.W.kitOne K (.type t) (.type T)=some (zcc t T):=by
 simp only[List.mem_cons,List.not_mem_nil,or_false] at ht hT
 rcases ht with rfl | rfl | rfl | rfl | rfl | rfl<;>rcases hT with rfl | rfl | rfl | rfl | rfl<;>(first | rfl | decide | (unfold PySem.W.kitOne PySem.W.kitCls;decide +kernel))
noncomputable def zdU:D→Bool
 | .obj _ _=>false
 | .dic _=>false
 | .dit _=>false
 | _=>true
theorem zl2{T:String}(hT:T∈["bool","int","str","tuple","list"]):CallR X (.builtin "isinstance") (fun xs H Q=>∃x d,xs=[x,.ty T]∧Rep X.K H x d∧zdU d=true∧Q (.bl (zcc (tyD d) T)) H):=by
 intro pins s σ H xs us Q I r h
 obtain⟨x,d,rfl,rd,ho,q⟩:=h
 obtain⟨u,c,rfl,ru,rc⟩:=zgc r
 cases (show c=Value.type T from rc)
 have fin:∀tk,EP X pins σ Q (.bool (zcc (tyD d) T)) { s with toks:=tk }:=fun tk=>⟨.bl _,H,I.tok tk,rfl,q⟩
 cases d with
 | non=>simp only[Rep] at rd;subst rd;cases (show u=Value.none from ru);exact PySem.W.kia_one PySem.W.kitx_none I.kIn True.intro (zem (by simp) hT) (fun z=>nomatch z) fin
 | bl y=>simp only[Rep] at rd;subst rd;cases (show u=Value.bool y from ru);exact PySem.W.kia_one PySem.W.kitx_bool I.kIn True.intro (zem (by simp) hT) (fun z=>nomatch z) fin
 | int i=>simp only[Rep] at rd;subst rd;obtain⟨t,q'⟩:=(show ∃t,u=Value.int i t from ru);cases q';exact PySem.W.kia_one PySem.W.kitx_int I.kIn True.intro (zem (by simp) hT) (fun z=>nomatch z) fin
 | str y=>simp only[Rep] at rd;subst rd;obtain⟨t,q'⟩:=(show ∃t,u=Value.str y t from ru);cases q';exact PySem.W.kia_one PySem.W.kitx_str I.kIn True.intro (zem (by simp) hT) (fun z=>nomatch z) fin
 | tup ds=>
  simp only[Rep] at rd
  obtain⟨a,xs,rfl,hq,_⟩:=rd
  cases (show u=Value.ref a from ru)
  obtain⟨its,_,ht,_⟩:=I.tuple hq
  obtain⟨o,h1,h2,_⟩:=ht
  exact PySem.W.kia_one PySem.W.kitx_tuple I.kIn ⟨o,h1,h2⟩ (zem (by simp) hT) (fun z=>nomatch z) fin
 | lst ds=>
  simp only[Rep] at rd
  obtain⟨a,xs,rfl,hq,_⟩:=rd
  cases (show u=Value.ref a from ru)
  obtain⟨its,_,ht,_⟩:=I.list hq.sq
  obtain⟨o,n,h1,h2,_⟩:=ht
  exact PySem.W.kia_one PySem.W.kitx_list I.kIn ⟨o,h1,h2⟩ (zem (by simp) hT) (fun z=>nomatch z) fin
 | obj=>cases ho
 | dic=>cases ho
 | dit=>cases ho
noncomputable def zl3(T:String)(te:TD):TD:=fun ρ Q=>te ρ fun r=>zdU r.val=true∧Q (.fz (.bl (zcc (tyD r.val) T)))
theorem zf1{T:String}{TN:Str}{p p':Pos}(he:PD X e te)(hm:X.mg "isinstance"=none)(hm2:X.mg TN=none)(hv:bootBuiltins TN=some (.type T))(hT:T∈["bool","int","str","tuple","list"]:=by decide)(hg:Gl X "isinstance":=by rfl)(hg2:Gl X TN:=by rfl)(hn:TN≠"__name__":=by decide)
  (hd:(TN==("__debug__":Str))=false:=by decide) (hst:starEach [e,Expr.Name TN p'] X.env=(false,eval e X.env)::starEach [Expr.Name TN p'] X.env:=by rfl) (hst2:starEach [Expr.Name TN p'] X.env=(false,eval (.Name TN p') X.env)::starEach [] X.env:=by rfl)
  (hpl:(backTo pos (starEach [Expr.Name TN p'] X.env)).any (·.1)=false:=by rfl):PD X (.Call (.Name "isinstance" p) [e,.Name TN p'] [] pos) (zl3 T te):=by
 obtain⟨t,pp,q⟩:=he
 refine⟨_,zeE (zl2 hT) hg hm boot_isinstance (zcg pp (zcg (zhS (v:=.ty T) hg2 hm2 hv rfl hn hd) zeN hst2) hst) (by decide) (by decide) hst hpl,fun ρ σ G0 H0 G H Q P E h k=>q ρ σ G0 H0 G H _ _ E h fun v H' r G' x rr hq=>?_⟩
 obtain⟨G2,x2,rv,_⟩:=rr.freeze x
 exact⟨v,r.val,rfl,rv.mono x2.s,hq.1,k _ _ _ G2 x2 (fzR (zbq _ _ _)) hq.2⟩
end
end L2
namespace L2
open PySem PySem.Spec PyProof.Rows
section
variable {P:Program} {w:World} {K:PySem.W.Frag} {mg:Str→Option Value} {base:Heap}
structure Known (P:Program) (w:World) (K:PySem.W.Frag) (mg:Str→Option Value) (base:Heap) (k:Nat) (x:Str) (n:Nat) (t:SpD):Prop where
 ex:∃(f:Addr) (fd:FuncData) (ps:List Str),FnOk P w K mg base CX0 k f fd ps (PSp K n t)∧mg x=some (.ref f)∧PySem.W.keepIn K (.ref f)=true∧Binds K fd ps []
structure At (K:PySem.W.Frag) (mg:Str→Option Value) (x:Str) (st:Stmt):Prop where
 ex:∃(f:Addr) (fd:FuncData),Fun K x x st f fd∧mg x=some (.ref f)
theorem at_mk{h:Heap}{x:Str}{st:Stmt}{f:Addr}{oc:Value}{od an:Option Addr}{osl:Array (Option Value)}{kV doc pm cdv ct:Value}(X:K.In h)(G:h.Ns mainGlobals mg)(a:PySem.W.nsIn K mainGlobals x=some (some (.ref f)))
  (l:K.lookup f=some ⟨oc,od,.func (PySem.W.fnOf x x (defArgs st) (defBody st) (defScope st) .none kV doc pm an cdv ct),osl⟩) (c:PySem.W.codeIn K cdv x=true) (k:PySem.W.keepIn K (.ref f)=true):At K mg x st:=
 ⟨f,_,zj7 l c k,PySem.W.mg_of X G a⟩
end
section
variable {X:Cx} {k k' n:Nat} {t:SpD} {x:Str} {p pos:Pos} {e:Expr} {es:List Expr} {ts:TDa}
theorem zan(C:Known X.prog X.w X.K X.mg X.base k x n t)(hr:Room k' X.A)(ha:PDa X (e::es) ts)(hk:k≤k':=by decide)(hg:Gl X x:=by rfl)(hdb:(x==("__debug__":Str))=false:=by decide)
  (he:starEach (e::es) X.env=(false,eval e X.env)::starEach es X.env:=by rfl) (hpl:(backTo pos (starEach es X.env)).any (·.1)=false:=by rfl):PD X (.Call (.Name x p) (e::es) [] pos) (zaP n t ts):=by
 obtain⟨f,fd,ps,F,hm,kp,hb⟩:=C.ex
 exact znD F (hr.mono hk) hm kp hb ha hg hdb he hpl
end
noncomputable def zkv(kindOf:Str→Option NameKind)(N N':List Str)(m:List (Option Nat))(scope:Scope):Bool:=
 (scope.kind==.function)&&(m.length==N'.length)&&(scope.names.all fun y=>y.2 != .cell)&&(scope.names.all fun y=>y.2 != .local||scope.names.lookup y.1==some .local) &&
 (scope.names.all fun y=>y.2 != .free||kindOf y.1==some .cell||kindOf y.1==some .free) &&
 ((m.zip N').all fun p=>match p.1 with
   | none=>true
   | some j=>N[j]?==some p.2&&scope.names.lookup p.2==some .free)
theorem CompScope.of{X:Cx}{N':List Str}{m:List (Option Nat)}{scope:Scope}(h:zkv X.env.kindOf X.N N' m scope=true):CompScope X N' m scope:=by
 unfold zkv at h
 simp only[Bool.and_eq_true,beq_iff_eq,List.all_eq_true,Bool.or_eq_true,bne_iff_ne,ne_eq] at h
 obtain⟨⟨⟨⟨⟨h1,h2⟩,h3⟩,h4⟩,h5⟩,h6⟩:=h
 refine⟨h1,h2,fun y hy=>h3 y hy,fun y hy e=>(h4 y hy).resolve_left fun z=>z e,fun y hy e=>?_,fun i j x hm hN=>?_⟩
 ·rcases h5 y hy with(z | z) | z
  ·exact absurd e z
  ·exact .inl z
  ·exact .inr z
 ·have hz:(some j,x)∈m.zip N':=by
   apply List.mem_of_getElem? (i:=i)
   rw[List.getElem?_zip_eq_some]
   exact⟨hm,hN⟩
  have:=h6 _ hz
  simpa using this
theorem zjj{K:PySem.W.Frag}{G:Hp}{a:Addr}{ns:List Int}(h:RdL K G a (ns.map V.int)):Rep K G (.ref a) (.lst (ns.map D.int)):=by
 simp only[Rep]
 refine⟨a,_,rfl,h,?_⟩
 clear h
 induction ns with
 | nil=>exact Reps.nil
 | cons n r ih=>exact Reps.cons (zaG _ _ _) ih
noncomputable def znG(n:Nat):SpD:=fun ds Q=>∃ns:List Int,ds=[.lst (ns.map .int)]∧ns.length≤n∧Q (.fz (.bl true))
theorem walk_pure{l:PySem.W.OpenLaw}{n k:Nat}{q:Program}{loose:List Str}{XP:(Str→Option Value)→Heap→Prop}{YP:World→Heap→Prop}{d:DefRec}{K:Params→PySem.W.Frag}{x:Str}
  (hn:l.most=some n) (hn2:n≤sizeLine) (hdf:d.params.defaults=[]) (hr:Room k callerA) (hY:∀(w:World) (h:Heap),YP w h→(K w.params).In h)
  (F:∀(w:World) (mg:Str→Option Value) (fa:Addr) (h:Heap),(K w.params).In h→h.Ns mainGlobals mg→mg d.name=some (.ref fa)→
   ∃fd:FuncData,(∀(s:Shared) (u:Value),BindsTo s fd ⟨[u],[]⟩ [(x,u)])∧∀base:Heap,FnOk l.prog w (K w.params) mg base CX0 k fa fd [x] (PSp (K w.params) 1 (znG n))) :
  PySem.W.WalkO q loose XP YP l.row.toRowW d [] (fun f vs=>PySem.call f vs):=by
 refine Att.attach_call hn hdf fun w s₀ s₁ mg mb fa o pm cd doc a vs ns G Y ho hd hcd hmg hobj hints hlen hg=>?_
 have KX:=hY w _ Y
 obtain⟨fd,hb,hF⟩:=F w mg fa _ KX G.T.g hmg
 refine zlO KX G.T.g G.T.b G.T.builtins G.T.nolimit hg hobj hints (Nat.le_trans hlen hn2) hr (fun base _ _=>hF base) hb (fun H hO hS=>?_) fun H e s' z=>z
 have hL:RdL (K w.params) H a (ns.map V.int):=by
  rcases hS with hS | ⟨o,its,m,h1,h2,h3,h4,h5,h6⟩
  ·exact .inl hS
  ·have e:=KX a o h1
   rw[hobj] at e
   cases e
   have h4':Data.seq vs.toArray _=Data.seq its m:=h4
   injection h4' with e1 e2
   subst e1
   exact .inr ⟨_,_,h1,h5,h6⟩
 refine⟨H,[.lst (ns.map .int)],fun r=>r=.fz (.bl true),Same.refl _,Reps.cons (zjj hL) Reps.nil,rfl,⟨ns,rfl,hlen,rfl⟩,fun v H' r G' _ rr e=>?_⟩
 subst e
 simpa only[RepR,Rep] using rr
theorem zo3{P:Program}{w:World}{K:PySem.W.Frag}{mg:Str→Option Value}{st:Stmt}{N:List Str}{x:Str}{k:Nat}{t:SpD}{T:Heap→TX}{fa:Addr}(DA:At K mg "law" st)(hmg:mg "law"=some (.ref fa))(S:FnScope N [x] (defScope st))
  (hb:∀(kV doc pm:Value) (an:Option Addr) (cdv ct:Value) (us:List Value),us.length=1→bindArgs (PySem.W.fnOf "law" "law" (defArgs st) (defBody st) (defScope st) .none kV doc pm an cdv ct) ⟨us,[]⟩=pure ([x].zip us))
  (body:∀(base:Heap) (f:Addr) (cdv:Value) (A:Around) (outer:List Env) (s:Shared) (H:Hp) (E:XK),Room k (A.deeper (envOfC "law" (defScope st) s.heap.objs.size f cdv))→PXs (zi8 CX0 P w K mg base N "law" (defScope st) f cdv A outer s H E).nox (defBody st) (T base))
  (spec:∀(base:Heap) (ds:List D) (Qr:R→Prop),ds.length=1→t ds Qr→T base { nx:=fun _=>Qr (.fz .non),rt:=Qr } (zaH N ds)) :
  ∃fd:FuncData,(∀(s:Shared) (u:Value),BindsTo s fd ⟨[u],[]⟩ [(x,u)])∧∀base:Heap,FnOk P w K mg base CX0 (k+1) fa fd [x] (PSp K 1 t):=by
 obtain⟨f,fd,F,hm⟩:=DA.ex
 rw[hmg] at hm
 cases hm
 refine⟨fd,fun s u=>?_,fun base=>zck F S (body base fa) (spec base)⟩
 obtain⟨oc,od,kV,doc,pm,an,cdv,ct,osl,rfl,lk,hcd⟩:=F.ex
 exact .of_eq (hb kV doc pm an cdv ct [u] rfl)
end L2
namespace L2
open PySem PySem.Spec PyProof.Rows
noncomputable def zoc(i:Nat)(t:TX):TX:=fun D ρ=>t D (frz i ρ)
theorem zen(d:D):(R.fz d).val=d:=rfl
theorem ziA(ds:List D):(R.ow ds).val=.lst ds:=rfl
theorem zl4(d:D):(R.fz d).sl=.fz d:=rfl
theorem zo4(ds:List D):(R.ow ds).sl=.ow ds:=rfl
theorem zh0{α:Type}{wi:TId}{m:List (Option Nat)}{g:TGd}{tc:TDb}{te:TD}{ρ:Ev}{Q:R→Prop}(L:List α)(φ:α→D)(f:α→Option D)(hw:∀Q':List D→Prop,Q' (L.map φ)→wi ρ Q')(hl:L.length≤sizeLine)
  (h:∀x∈L,∀(K1:D→Prop) (K0:Prop),(∀e,f x=some e→K1 e)→(f x=none→K0)→g (φ x) (zeW m ρ) fun ρ2=>tc ρ2 fun b=>if b=true then te ρ2 fun r=>K1 r.val else K0)
  (q:Q (.ow (L.filterMap f))):za5 wi m g tc te ρ Q:=by
 refine hw _ ⟨fun i acc=>acc=(L.take i).filterMap f,rfl,fun i d acc hd ha=>?_,fun acc ha=>?_⟩
 ·rw[List.getElem?_map] at hd
  cases hx:L[i]? with
  | none=>rw[hx] at hd;cases hd
  | some x=>
   rw[hx] at hd
   cases hd
   have hi:i<L.length:=(List.getElem?_eq_some_iff.mp hx).1
   have e:L.take (i+1)=L.take i++[x]:=by rw[List.take_add_one,hx];rfl
   have hlen:acc.length<sizeLine:=by
    rw[ha]
    refine Nat.lt_of_le_of_lt (List.length_filterMap_le _ _) ?_
    rw[List.length_take];omega
   exact h x (List.mem_of_getElem? hx) (fun e=>acc.length<sizeLine∧acc++[e]=(L.take (i+1)).filterMap f) (acc=(L.take (i+1)).filterMap f)
    (fun z hz=>⟨hlen,by rw[e,List.filterMap_append,ha];simp[hz]⟩) (fun hz=>by rw[e,List.filterMap_append,ha];simp[hz])
 ·dsimp only at ha
  rw[List.length_map,List.take_length] at ha
  rw[ha];exact q
theorem zbA{α:Type}{wi:TId}{m:List (Option Nat)}{g:TGd}{te:TD}{ρ:Ev}{Q:R→Prop}(L:List α)(φ f:α→D)(hw:∀Q':List D→Prop,Q' (L.map φ)→wi ρ Q')(hl:L.length≤sizeLine)
  (h:∀x∈L,∀(K1:D→Prop),K1 (f x)→g (φ x) (zeW m ρ) fun ρ2=>te ρ2 fun r=>K1 r.val) (q:Q (.ow (L.map f))):za5 wi m g zfB te ρ Q:=by
 refine zh0 L φ (fun x=>some (f x)) hw hl (fun x hx K1 K0 h1 _=>?_) ?_
 ·have:=h x hx K1 (h1 _ rfl)
  simpa[zfB] using this
 ·have e:L.filterMap (fun x=>some (f x))=L.map f:=by
   induction L with
   | nil=>rfl
   | cons a r ih=>simp
  rw[e];exact q
theorem zaW{α:Type}{wi:TId}{m:List (Option Nat)}{g:TGd}{tc:TDb}{te:TD}{ρ:Ev}{Q:R→Prop}(L:List α)(φ f:α→D)(p:α→Bool)(hw:∀Q':List D→Prop,Q' (L.map φ)→wi ρ Q')(hl:L.length≤sizeLine)
  (h:∀x∈L,∀(K1:D→Prop) (K0:Prop),(p x=true→K1 (f x))→(p x=false→K0)→g (φ x) (zeW m ρ) fun ρ2=>tc ρ2 fun b=>if b=true then te ρ2 fun r=>K1 r.val else K0)
  (q:Q (.ow ((L.filter p).map f))):za5 wi m g tc te ρ Q:=by
 refine zh0 L φ (fun x=>if p x=true then some (f x) else none) hw hl (fun x hx K1 K0 h1 h0=>h x hx K1 K0 (fun z=>h1 _ (by simp[z])) (fun z=>h0 (by simp[z]))) ?_
 have e:L.filterMap (fun x=>if p x=true then some (f x) else none)=(L.filter p).map f:=by
  clear h hl hw q
  induction L with
  | nil=>rfl
  | cons a r ih=>by_cases z:p a=true<;>simp[z,ih]
 rw[e];exact q
theorem ziB{wi:TId}{g:TGd}{tb:TX}{D:DE}{ρ:Ev}(ds:List L2.D)(hw:∀Q':List L2.D→Prop,Q' ds→wi ρ Q')(Iv:Nat→Ev→Prop)(h0:Iv 0 ρ)
  (turn:∀i d ρ',ds[i]?=some d→Iv i ρ'→g d ρ' fun ρ2=>tb { D with nx:=Iv (i+1),ct:=Iv (i+1),bk:=D.nx } ρ2) (fin:∀ρ',Iv ds.length ρ'→D.nx ρ'):zeV wi g tb D ρ:=hw _ ⟨Iv,h0,turn,fin⟩
theorem zdA{α:Type}{wi:TId}{g:TGd}{tb:TX}{D:DE}{ρ:Ev}(L:List α)(φ:α→L2.D)(hw:∀Q':List L2.D→Prop,Q' (L.map φ)→wi ρ Q')(Iv:Nat→Ev→Prop)(h0:Iv 0 ρ)
  (turn:∀i x ρ',L[i]?=some x→Iv i ρ'→g (φ x) ρ' fun ρ2=>tb { D with nx:=Iv (i+1),ct:=Iv (i+1),bk:=D.nx } ρ2) (fin:∀ρ',Iv L.length ρ'→D.nx ρ'):zeV wi g tb D ρ:=by
 refine ziB (L.map φ) hw Iv h0 (fun i d ρ' hd iv=>?_) (fun ρ' iv=>fin ρ' (by simpa using iv))
 rw[List.getElem?_map] at hd
 cases hx:L[i]? with
 | none=>rw[hx] at hd;cases hd
 | some x=>rw[hx] at hd;cases hd;exact turn i x ρ' hx iv
theorem zbI{g:TGd}{tb:TX}{D:DE}{ρ:Ev}{wi:TId}(n:Nat)(hw:∀Q':List L2.D→Prop,Q' ((List.range n).map fun(i:Nat)=>.int (0+i))→wi ρ Q')(Iv:Nat→Ev→Prop)(h0:Iv 0 ρ)
  (turn:∀(i:Nat) ρ',i<n→Iv i ρ'→g (.int i) ρ' fun ρ2=>tb { D with nx:=Iv (i+1),ct:=Iv (i+1),bk:=D.nx } ρ2) (fin:∀ρ',Iv n ρ'→D.nx ρ'):zeV wi g tb D ρ:=by
 refine zdA (List.range n) (fun(i:Nat)=>.int (0+i)) hw Iv h0 (fun i x ρ' hx iv=>?_) (fun ρ' iv=>fin ρ' (by simpa using iv))
 obtain⟨h1,h2⟩:=List.getElem?_eq_some_iff.mp hx
 have h3:i<n:=by simpa using h1
 have h4:x=i:=by rw[←h2];simp
 subst h4
 rw[Int.zero_add]
 exact turn x ρ' h3 iv
theorem p24:(10:Int) ^ Int.toNat 24=1000000000000000000000000:=by decide
theorem p30:(10:Int) ^ Int.toNat 30=1000000000000000000000000000000:=by decide
theorem zmT:zlu 10 24=True:=by simp only[zlu,eq_iff_iff,iff_true];decide
theorem zmU:zlu 10 30=True:=by simp only[zlu,eq_iff_iff,iff_true];decide
theorem zgo:100000≤sizeLine:=by decide
end L2
namespace L2
open PySem PySem.Spec PyProof.Rows
section
variable {X:Cx} {pos:Pos} {e:Expr} {te:TD} {es:List Expr} {ts:TDa}
noncomputable def zod(t:TD):TD:=fun ρ Q=>t ρ fun r=>match r.val with
 | .int i=>Q (.fz (.int (-i)))
 | _=>False
theorem zkw(h:PD X e te):PD X (.UnaryOp .USub e pos) (zod te):=by
 obtain⟨t,p,q⟩:=h
 refine⟨_,zp7 zoE p,fun ρ σ G0 H0 G H Q P E h k=>q ρ σ G0 H0 G H _ _ E h fun v H' r G' x rr hq=>?_⟩
 obtain⟨G2,x2,rv,_⟩:=rr.freeze x
 split at hq
 ·rename_i i e1
  rw[e1] at rv
  simp only[Rep] at rv
  exact⟨i,rv,k _ _ _ G2 x2 (fzR (zaG _ _ _)) hq⟩
 ·exact hq.elim
noncomputable def zdB:SpD:=fun ds Q=>match ds with
 | [.lst es]=>Q (.ow es)
 | [.tup es]=>Q (.ow es)
 | _=>False
theorem zdC:zdR X (.type "list") zdB:=by
 refine⟨_,zg3,fun G H vs ds Q P s rs h k=>?_⟩
 unfold zdB at h
 split at h
 ·obtain⟨v,rfl,rv⟩:=zcr rs
  simp only[Rep] at rv
  obtain⟨a,xs,rfl,h1,h2⟩:=rv
  exact⟨a,xs,rfl,.inl (s.rdl h1).sq,zda s h2 h k⟩
 ·obtain⟨v,rfl,rv⟩:=zcr rs
  simp only[Rep] at rv
  obtain⟨a,xs,rfl,h1,h2⟩:=rv
  exact⟨a,xs,rfl,.inr (s.seqT h1),zda s h2 h k⟩
 ·exact h.elim
noncomputable def zo5:SpD:=fun ds Q=>match ds with
 | [.int i]=>Q (.fz (.int i))
 | [.bl b]=>Q (.fz (.int (if b then 1 else 0)))
 | _=>False
theorem zql:zdR X (.type "int") zo5:=by
 refine⟨_,zjX,fun G H vs ds Q P s rs h k=>?_⟩
 unfold zo5 at h
 split at h
 ·obtain⟨v,rfl,rv⟩:=zcr rs
  simp only[Rep] at rv
  subst rv
  exact .inl ⟨_,rfl,k _ _ _ G (.refl s) (fzR (zaG _ _ _)) h⟩
 ·obtain⟨v,rfl,rv⟩:=zcr rs
  simp only[Rep] at rv
  subst rv
  exact .inr ⟨_,rfl,k _ _ _ G (.refl s) (fzR (zaG _ _ _)) h⟩
 ·exact h.elim
noncomputable def zbr:List D→Option (List Int)
 | []=>some []
 | .int b::r=>(zbr r).map (b::·)
 | _=>none
theorem zbJ:∀{ds:List D} {bs:List Int},zbr ds=some bs→ds=bs.map D.int
 | [],bs,h=>by simp[zbr] at h;subst h;rfl
 | .int b::r,bs,h=>by
  simp only[zbr,Option.map_eq_some_iff] at h
  obtain⟨bs',h1,rfl⟩:=h
  rw[zbJ h1];rfl
 | .non::r,bs,h=>by simp[zbr] at h
 | .bl _::r,bs,h=>by simp[zbr] at h
 | .str _::r,bs,h=>by simp[zbr] at h
 | .tup _::r,bs,h=>by simp[zbr] at h
 | .lst _::r,bs,h=>by simp[zbr] at h
 | .obj _ _::r,bs,h=>by simp[zbr] at h
 | .dic _::r,bs,h=>by simp[zbr] at h
 | .dit _::r,bs,h=>by simp[zbr] at h
theorem zbK(bs:List Int):zbr (bs.map D.int)=some bs:=by
 induction bs with
 | nil=>rfl
 | cons b r ih=>simp[zbr,ih]
theorem zcD{K:PySem.W.Frag}{G:Hp}:∀{bs:List Int} {vs:List V},Reps K G vs (bs.map D.int)→vs=bs.map V.int
 | [],[],_=>rfl
 | b::bs,v::vs,h=>by
  simp only[List.map_cons,Reps,Rep] at h
  rw[h.1,zcD h.2];rfl
 | [],_::_,h=>by simp only[List.map_nil,Reps] at h
 | _::_,[],h=>by simp only[List.map_cons,Reps] at h
theorem zdV{vs:List Value}{ns:List Int}(hi:IntsAre vs ns):∃xs:Array (Int×Tok),vs.toArray=intItems xs∧ns=xs.toList.map (·.1):=by
 obtain⟨xs,e⟩:=hi.allInts.items
 exact⟨xs,e,by rw[←hi.numsOf,←nums_intItems,←e]⟩
theorem zkx(hc:X.calm=true):CallR X (.builtin "sum") (fun xs H Q=>∃(p:Addr) (ns:List Int),xs=[.ref p]∧SqL X.K H p (ns.map V.int)∧Q (.int ns.sum) H):=by
 intro pins s σ H xs us Q I r h
 obtain⟨p,ns,rfl,hq,q⟩:=h
 obtain⟨u,rfl,ru⟩:=zcN r
 cases ru
 obtain⟨its,rv,pl,hz⟩:=I.list hq
 obtain⟨ys,e,hns⟩:=zdV (zb0 rv)
 have hl:=pl.isList
 rw[e] at hl
 refine sum_intListG (I.ok.hd hc) hl fun h' tk t' hk=>?_
 have e2:preSum (numAt ys) ys.size=ns.sum:=by
  rw[preSum_eq,List.take_of_length_le (by simp),hns]
 rw[e2]
 exact⟨.int _,H,I.kept hk,⟨_,rfl⟩,q⟩
theorem zky(hc:X.calm=true):CallR X (.builtin "min") (fun xs H Q=>∃(p:Addr) (ns:List Int),xs=[.ref p]∧SqL X.K H p (ns.map V.int)∧ns≠[]∧∀M,M∈ns→(∀a∈ns,M≤a)→Q (.int M) H):=by
 intro pins s σ H xs us Q I r h
 obtain⟨p,ns,rfl,hq,hne,q⟩:=h
 obtain⟨u,rfl,ru⟩:=zcN r
 cases ru
 obtain⟨its,rv,pl,hz⟩:=I.list hq
 obtain⟨ys,e,hns⟩:=zdV (zb0 rv)
 have hl:=pl.isList
 rw[e] at hl
 have hsz:0<ys.size:=by
  cases hys:ys.toList with
  | nil=>rw[hns,hys] at hne;exact absurd rfl hne
  | cons a b=>have:ys.toList.length=b.length+1:=by rw[hys];rfl
              rw[Array.length_toList] at this;omega
 refine min_intList (I.ok.hd hc) hl hsz fun v h' tk hv hk=>?_
 obtain⟨t,rfl⟩:=intItems_at hv
 obtain⟨h1,h2⟩:=argBest_lt (numAt ys) (ys.size-1)
 refine⟨.int _,H,I.kept hk,⟨_,rfl⟩,q _ ?_ fun a ha=>?_⟩
 ·rw[hns,numAt_eq];exact getD_mem (by rw[List.length_map,Array.length_toList];omega)
 ·rw[hns] at ha
  obtain⟨j,hj,rfl⟩:=mem_getD ha
  rw[List.length_map,Array.length_toList] at hj
  rw[←numAt_eq];exact h2 j (by omega)
theorem zkz(hc:X.calm=true):CallR X (.builtin "max") (fun xs H Q=>∃(p:Addr) (ns:List Int),xs=[.ref p]∧SqL X.K H p (ns.map V.int)∧ns≠[]∧∀M,M∈ns→(∀a∈ns,a≤M)→Q (.int M) H):=by
 intro pins s σ H xs us Q I r h
 obtain⟨p,ns,rfl,hq,hne,q⟩:=h
 obtain⟨u,rfl,ru⟩:=zcN r
 cases ru
 obtain⟨its,rv,pl,hz⟩:=I.list hq
 obtain⟨ys,e,hns⟩:=zdV (zb0 rv)
 have hl:=pl.isList
 rw[e] at hl
 have hsz:0<ys.size:=by
  cases hys:ys.toList with
  | nil=>rw[hns,hys] at hne;exact absurd rfl hne
  | cons a b=>have:ys.toList.length=b.length+1:=by rw[hys];rfl
              rw[Array.length_toList] at this;omega
 refine max_intList (I.ok.hd hc) hl hsz fun v h' tk hv hk=>?_
 obtain⟨t,rfl⟩:=intItems_at hv
 obtain⟨h1,h2⟩:=argBest_gt (numAt ys) (ys.size-1)
 refine⟨.int _,H,I.kept hk,⟨_,rfl⟩,q _ ?_ fun a ha=>?_⟩
 ·rw[hns,numAt_eq];exact getD_mem (by rw[List.length_map,Array.length_toList];omega)
 ·rw[hns] at ha
  obtain⟨j,hj,rfl⟩:=mem_getD ha
  rw[List.length_map,Array.length_toList] at hj
  rw[←numAt_eq];exact h2 j (by omega)
noncomputable def zmV:SpD:=fun ds Q=>match ds with
 | [.lst es]=>match zbr es with
  | some ns=>Q (.fz (.int ns.sum))
  | none=>False
 | _=>False
theorem zl5(hc:X.calm=true):zdR X (.builtin "sum") zmV:=by
 refine⟨_,zkx hc,fun G H vs ds Q P s rs h k=>?_⟩
 unfold zmV at h
 split at h
 ·split at h
  ·rename_i es bs hb
   obtain⟨v,rfl,rv⟩:=zcr rs
   simp only[Rep] at rv
   obtain⟨a,xs,rfl,h1,h2⟩:=rv
   rw[zbJ hb] at h2
   rw[zcD h2] at h1
   exact⟨a,bs,rfl,(s.rdl h1).sq,k _ _ _ G (.refl s) (fzR (zaG _ _ _)) h⟩
  ·exact h.elim
 ·exact h.elim
noncomputable def zmW:SpD:=fun ds Q=>match ds with
 | [.lst es]=>match zbr es with
  | some ns=>ns≠[]∧∀M,M∈ns→(∀a∈ns,M≤a)→Q (.fz (.int M))
  | none=>False
 | [.int i,.int j]=>Q (.fz (.int (if j<i then j else i)))
 | _=>False
noncomputable def zjI:SpD:=fun ds Q=>match ds with
 | [.lst es]=>match zbr es with
  | some ns=>ns≠[]∧∀M,M∈ns→(∀a∈ns,a≤M)→Q (.fz (.int M))
  | none=>False
 | [.int i,.int j]=>Q (.fz (.int (if j>i then j else i)))
 | _=>False
theorem znH(hc:X.calm=true):zdR X (.builtin "min") zmW:=by
 refine⟨_,(zky hc).or (zjW hc),fun G H vs ds Q P s rs h k=>?_⟩
 unfold zmW at h
 split at h
 ·split at h
  ·rename_i es bs hb
   obtain⟨v,rfl,rv⟩:=zcr rs
   simp only[Rep] at rv
   obtain⟨a,xs,rfl,h1,h2⟩:=rv
   rw[zbJ hb] at h2
   rw[zcD h2] at h1
   exact .inl ⟨a,bs,rfl,(s.rdl h1).sq,h.1,fun M h3 h4=>k _ _ _ G (.refl s) (fzR (zaG _ _ _)) (h.2 M h3 h4)⟩
  ·exact h.elim
 ·obtain⟨v,u,rfl,rv,ru⟩:=zjh rs
  simp only[Rep] at rv ru
  subst rv ru
  exact .inr ⟨_,_,rfl,k _ _ _ G (.refl s) (fzR (zaG _ _ _)) h⟩
 ·exact h.elim
theorem zl6(hc:X.calm=true):zdR X (.builtin "max") zjI:=by
 refine⟨_,(zkz hc).or (zjV hc),fun G H vs ds Q P s rs h k=>?_⟩
 unfold zjI at h
 split at h
 ·split at h
  ·rename_i es bs hb
   obtain⟨v,rfl,rv⟩:=zcr rs
   simp only[Rep] at rv
   obtain⟨a,xs,rfl,h1,h2⟩:=rv
   rw[zbJ hb] at h2
   rw[zcD h2] at h1
   exact .inl ⟨a,bs,rfl,(s.rdl h1).sq,h.1,fun M h3 h4=>k _ _ _ G (.refl s) (fzR (zaG _ _ _)) (h.2 M h3 h4)⟩
  ·exact h.elim
 ·obtain⟨v,u,rfl,rv,ru⟩:=zjh rs
  simp only[Rep] at rv ru
  subst rv ru
  exact .inr ⟨_,_,rfl,k _ _ _ G (.refl s) (fzR (zaG _ _ _)) h⟩
 ·exact h.elim
noncomputable def zbX:List D→Option (List Str)
 | []=>some []
 | .str b::r=>(zbX r).map (b::·)
 | _=>none
theorem zdW:∀{ds:List D} {bs:List Str},zbX ds=some bs→ds=bs.map D.str
 | [],bs,h=>by simp[zbX] at h;subst h;rfl
 | .str b::r,bs,h=>by
  simp only[zbX,Option.map_eq_some_iff] at h
  obtain⟨bs',h1,rfl⟩:=h
  rw[zdW h1];rfl
 | .non::r,bs,h=>by simp[zbX] at h
 | .bl _::r,bs,h=>by simp[zbX] at h
 | .int _::r,bs,h=>by simp[zbX] at h
 | .tup _::r,bs,h=>by simp[zbX] at h
 | .lst _::r,bs,h=>by simp[zbX] at h
 | .obj _ _::r,bs,h=>by simp[zbX] at h
 | .dic _::r,bs,h=>by simp[zbX] at h
 | .dit _::r,bs,h=>by simp[zbX] at h
theorem zct(bs:List Str):zbX (bs.map D.str)=some bs:=by
 induction bs with
 | nil=>rfl
 | cons b r ih=>simp[zbX,ih]
theorem zgp{K:PySem.W.Frag}{G:Hp}:∀{bs:List Str} {vs:List V},Reps K G vs (bs.map D.str)→vs=bs.map V.str
 | [],[],_=>rfl
 | b::bs,v::vs,h=>by
  simp only[List.map_cons,Reps,Rep] at h
  rw[h.1,zgp h.2];rfl
 | [],_::_,h=>by simp only[List.map_nil,Reps] at h
 | _::_,[],h=>by simp only[List.map_cons,Reps] at h
theorem zhj{K:PySem.W.Frag}{G:Hp}(bs:List Str):Reps K G (bs.map V.str) (bs.map D.str):=by
 induction bs with
 | nil=>exact Reps.nil
 | cons b r ih=>exact Reps.cons (zdO _ _ _) ih
theorem zf2{ss:List Str}:∀{us:List Value},Vals (ss.map V.str) us→StrsAre us ss:=by
 induction ss with
 | nil=>
  intro us h
  cases h
  exact .nil
 | cons n r ih=>
  intro us h
  cases h with
  | cons a b=>
   obtain⟨t,rfl⟩:=a
   exact .cons _ _ (ih b)
theorem zeY:∀{vs:List Value} {ss:List Str},StrsAre vs ss→Vals (ss.map V.str) vs
 | _,_,.nil=>.nil
 | _,_,.cons _ _ h=>.cons ⟨_,rfl⟩ (zeY h)
theorem call_sortS:CallR X (.builtin "sorted") (fun xs H Q=>∃(p:Addr) (ss:List Str),xs=[.ref p]∧SqL X.K H p (ss.map V.str)∧ss.length<64∧∀ss':List Str,ss'.Perm ss→sortedS ss'=true→∀l,H l=none→Q (.ref l) (upd H l (.lst (ss'.map V.str)))):=by
 intro pins s σ H xs us Q I r h
 obtain⟨p,ss,rfl,hq,h64,q⟩:=h
 obtain⟨u,rfl,ru⟩:=zcN r
 cases ru
 obtain⟨its,rv,pl,hz⟩:=I.list hq
 have hl:its.length=ss.length:=by rw[←rv.length,List.length_map]
 refine sorted_strs pl.isList (zf2 rv) (by omega) fun out ss' a1 a2 a3=>?_
 obtain⟨en,he⟩:=sortedAll_at s.heap its out
 have hf:H (s.heap.objs.size+1)=none:=I.hok.fresh (Nat.le_succ _)
 refine⟨.ref (s.heap.objs.size+1),_,I.laid (a:=s.heap.objs.size+1) (o:=.lst (ss'.map V.str)) (t':=s.toks) (fun b o e=>sortedAll_old e) (Nat.le_succ _) ?_,rfl,q ss' a2 a3 _ hf⟩
 refine⟨by rw[List.length_map,a2.length_eq];have:=zgo;omega,out.toList,en,zeY a1,?_⟩
 rw[Array.toArray_toList]
 exact he
theorem zjk:CallR X (.builtin "sorted") (fun xs H Q=>∃(p:Addr) (ns:List Int),xs=[.ref p]∧SqL X.K H p (ns.map V.int)∧ns.length<64∧∀ns':List Int,ns'.Perm ns→ns'.Pairwise (·≤·)→∀l,H l=none→Q (.ref l) (upd H l (.lst (ns'.map V.int)))):=by
 intro pins s σ H xs us Q I r h
 obtain⟨p,ss,rfl,hq,h64,q⟩:=h
 obtain⟨u,rfl,ru⟩:=zcN r
 cases ru
 obtain⟨its,rv,pl,hz⟩:=I.list hq
 have hl:its.length=ss.length:=by rw[←rv.length,List.length_map]
 refine sorted_ints pl.isList (zb0 rv) (by omega) fun out ss' a1 a2 a3=>?_
 obtain⟨en,he⟩:=sortedAll_at s.heap its out
 have hf:H (s.heap.objs.size+1)=none:=I.hok.fresh (Nat.le_succ _)
 refine⟨.ref (s.heap.objs.size+1),_,I.laid (a:=s.heap.objs.size+1) (o:=.lst (ss'.map V.int)) (t':=s.toks) (fun b o e=>sortedAll_old e) (Nat.le_succ _) ?_,rfl,q ss' a2 a3 _ hf⟩
 refine⟨by rw[List.length_map,a2.length_eq];have:=zgo;omega,out.toList,en,zeQ a1,?_⟩
 rw[Array.toArray_toList]
 exact he
noncomputable def zde:SpD:=fun ds Q=>match ds with
 | [.lst es]=>match zbX es with
  | some ss=>ss.length<64∧∀ss':List Str,ss'.Perm ss→sortedS ss'=true→Q (.ow (ss'.map D.str))
  | none=>match zbr es with
   | some ns=>ns.length<64∧∀ns':List Int,ns'.Perm ns→ns'.Pairwise (·≤·)→Q (.ow (ns'.map D.int))
   | none=>False
 | _=>False
theorem zkA{K:PySem.W.Frag}{G:Hp}(bs:List Int):Reps K G (bs.map V.int) (bs.map D.int):=by
 induction bs with
 | nil=>exact Reps.nil
 | cons b r ih=>exact Reps.cons (zaG _ _ _) ih
theorem ziC(_:X.calm=true):zdR X (.builtin "sorted") zde:=by
 refine⟨_,call_sortS.or zjk,fun G H vs ds Q P s rs h k=>?_⟩
 unfold zde at h
 split at h
 ·split at h
  ·rename_i es bs hb
   obtain⟨v,rfl,rv⟩:=zcr rs
   simp only[Rep] at rv
   obtain⟨a,xs,rfl,h1,h2⟩:=rv
   rw[zdW hb] at h2
   rw[zgp h2] at h1
   exact .inl ⟨a,bs,rfl,(s.rdl h1).sq,h.1,fun ss' p1 p2=>zda s (zhj ss') (h.2 ss' p1 p2) k⟩
  ·split at h
   ·rename_i es _ bs hb
    obtain⟨v,rfl,rv⟩:=zcr rs
    simp only[Rep] at rv
    obtain⟨a,xs,rfl,h1,h2⟩:=rv
    rw[zbJ hb] at h2
    rw[zcD h2] at h1
    exact .inr ⟨a,bs,rfl,(s.rdl h1).sq,h.1,fun ss' p1 p2=>zda s (zkA ss') (h.2 ss' p1 p2) k⟩
   ·exact h.elim
 ·exact h.elim
noncomputable def MtP(X:Cx)(id:String)(o:D→List D→(R→Prop)→Prop):Prop:=∃r,MtR X id r∧∀(G H:Hp) (x:V) (d:D) (vs:List V) (ds:List D) (Q:R→Prop) (P:VK),Same G H→Rep X.K G x d→Reps X.K G vs ds→o d ds Q→
 (∀v H' r' G',Ext G H G' H'→RepR X.K G' H' H v r'→Q r'→P v H')→r x vs H P
noncomputable def dM(T:String)(o:D→List D→(R→Prop)→Prop)(te:TD)(ts:TDa):TD:=fun ρ Q=>te ρ fun r=>tyD r.val=T∧ts ρ fun ds=>o r.val ds Q
theorem znI{K:PySem.W.Frag}{G H:Hp}{x:V}{d:D}{T:String}(s:Same G H)(r:Rep K G x d)(h:tyD d=T)(hT:T="list"∨T="str"):tyV K T x H:=by
 cases d with
 | str z=>simp only[Rep] at r;subst r;exact h.symm
 | lst ds=>
  simp only[Rep] at r
  obtain⟨a,xs,rfl,h1,_⟩:=r
  exact .inl ⟨h.symm,xs,(s.rdl h1).sq⟩
 | non=>subst h;rcases hT with h | h<;>simp[tyD] at h
 | bl=>subst h;rcases hT with h | h<;>simp[tyD] at h
 | int=>subst h;rcases hT with h | h<;>simp[tyD] at h
 | tup=>subst h;rcases hT with h | h<;>simp[tyD] at h
 | obj=>subst h;rcases hT with h | h<;>simp[tyD] at h
 | dic=>subst h;rcases hT with h | h<;>simp[tyD] at h
 | dit=>subst h;rcases hT with h | h<;>simp[tyD] at h
theorem znJ{T id:String}{name:Str}{p':Pos}{e1:Expr}{o:D→List D→(R→Prop)→Prop}(hm:MtP X id o)(hT:T="list"∨T="str")(pa:PlainAttrs T)(slot:Slot T name id)(hty:typeOf (.builtin id)=pure (.type "method_descriptor"))
  (he:PD X e te) (ha:PDa X (e1::es) ts) (hbase:attributeBase e name X.env (eval e X.env)=eval e X.env:=by rfl)
  (hfew:((backTo pos (starEach (e1::es) X.env)).all (fun x=>!x.1)&&(backToKw pos (keywordEach [] X.env)).all (fun x=>x.1.isSome)
   && decide ((e1::es).length+([]:List Keyword).length+(if ([]:List Keyword).isEmpty then 0 else 1)<30))=true:=by rfl)
  (hline:(p'.endLine==pos.line)=true:=by rfl) (hs:starEach (e1::es) X.env=(false,eval e1 X.env)::starEach es X.env:=by rfl) (hplain:(backTo pos (starEach es X.env)).any (·.1)=false:=by rfl) :
  PD X (.Call (.Attribute e name p') (e1::es) [] pos) (dM T o te ts):=by
 obtain⟨r,hr,hr'⟩:=hm
 obtain⟨t1,p1,q1⟩:=he
 obtain⟨t2,p2,q2⟩:=ha
 refine⟨_,znu pa slot hty hr p1 p2 hbase hfew hline hs hplain,fun ρ σ G0 H0 G H Q P E h k=>q1 ρ σ G0 H0 G H _ _ E h fun v H' r1 G' x rr hq=>?_⟩
 obtain⟨G2,x2,rv,_⟩:=rr.freeze x
 refine⟨znI x2.s rv hq.1 hT,q2 ρ σ G0 H0 G2 H' _ _ (E.ext x2) hq.2 fun vs H3 ds G3 x3 rs hq3=>?_⟩
 exact hr' G3 H3 v r1.val vs ds Q P x3.s (rv.mono x3.g) rs hq3 fun w' H4 r4 G4 x4 rr4 q4=>k w' H4 r4 G4 ((x2.trans x3).trans x4) (rr4.older (x2.trans x3).h) q4
noncomputable def zjJ(d:D)(ds:List D):Nat:=ds.countP fun e=>eqD e d
noncomputable def zhk:D→List D→(R→Prop)→Prop:=fun d ds Q=>match d,ds with
 | .lst es,[x]=>okE 8 x∧(∀e∈es,okE 8 e)∧Q (.fz (.int (zjJ x es)))
 | _,_=>False
theorem zkB{pins:List (Addr×Obj)}{σ:St}{H:Hp}{s:Shared}(I:Inv X pins σ H s){d:D}:∀{es:List D} {vs:List V} {us:List Value},(∀e∈es,okE 8 e)→Vals vs us→Reps X.K H vs es→us.countP (eqW X H d)=zjJ d es
 | [],_,_,_,rv,re=>by
  cases rv
  ·rfl
  ·simp only[Reps] at re
 | e::es,_,_,h,rv,re=>by
  cases rv with
  | nil=>simp only[Reps] at re
  | cons r t=>
   simp only[Reps] at re
   unfold zjJ
   rw[List.countP_cons,List.countP_cons,zkg I (h e (by simp)) r re.1,zkB I (fun x hx=>h x (by simp[hx])) t re.2]
   rfl
theorem znK(hu:X.A.units+64<cLine):MtP X "list.count" zhk:=by
 refine⟨fun x vs H Q=>∃p d es ws y,x=.ref p∧vs=[y]∧SqL X.K H p ws∧okE 8 d∧(∀e∈es,okE 8 e)∧Rep X.K H y d∧Reps X.K H ws es∧Q (.int (zjJ d es)) H,fun pins s σ H x xs v us Q I rx rs h=>?_,fun G H x d vs ds Q P s rx rs h k=>?_⟩
 ·obtain⟨p,d,es,ws,y,rfl,rfl,hq,hd,he,rd,re,q⟩:=h
  cases rx
  obtain⟨u,rfl,ru⟩:=zcN rs
  obtain⟨its,rv,pl,hz⟩:=I.list hq
  obtain⟨⟨cls,dd,data,sl⟩,n,ho,hc,hdn,hdt⟩:=id pl
  simp only at hc hdt
  subst hc hdt
  refine call_meets PySem.F.slot_list_count ⟨_,ho,rfl⟩ PySem.F.entry_list_count (PySem.F.args_list_count_2 _ _) (SeqAt.list_countAt p its.toArray n dd sl u (eqW X H d)) ⟨ho,zdt (A:=X.A.in1) I hd (by show X.A.units+1+8<cLine;omega) rd ru he rv re,?_⟩
  rw[show its.toArray.toList=its from rfl,zkB I he rv re]
  exact⟨.int _,H,I.tok _,⟨_,rfl⟩,q⟩
 ·unfold zhk at h
  split at h
  ·obtain⟨y,rfl,ry⟩:=zcr rs
   simp only[Rep] at rx
   obtain⟨a,xs,rfl,h1,h2⟩:=rx
   exact⟨a,_,_,xs,y,rfl,rfl,(s.rdl h1).sq,h.1,h.2.1,ry.mono s,h2.mono s,k _ _ _ G (.refl s) (fzR (zaG _ _ _)) h.2.2⟩
  ·exact h.elim
end
end L2
namespace L2
open PySem PySem.Spec PyProof.Rows
theorem zf3{prog:Program}{w:World}{A:Around}{E:Value→Shared→Prop}{it l:Addr}{items:Array Value}(hne:l≠it) :
  ∀(n i:Nat) (s:Shared) (Q:List Value→Shared→Prop),s.heap.IsListIter it l i→s.heap.IsList l items→i+n≤items.size→
   (∀h':Heap,h'.IsListIter it l (i+n)→Heap.SameBut it s.heap h'→Q ((items.toList.drop i).take n) { s with heap:=h' })→wpAny (model prog w) A (draw (.ref it) n) Q E s
 | 0,i,s,Q,st,hl,hn,q=>by
  rw[draw.eq_1]
  exact wpAny_pure (by have:=q s.heap st ⟨rfl,fun _ _=>rfl⟩;simpa using this)
 | n+1,i,s,Q,st,hl,hn,q=>by
  rw[draw.eq_2]
  have hi:i<items.size:=by omega
  refine wpAny_bind (wpAny_pyNext_list_item st hl (x:=items[i]) (by simp[hi]) fun h1 st1 sb=>?_)
  dsimp only
  have hl1:h1.IsList l items:=by
   obtain⟨o,e,c⟩:=hl
   exact⟨o,(sb.2 l hne).trans e,c⟩
  refine wpAny_bind (wpAny_holding (zf3 hne n (i+1) { s with heap:=h1 } _ st1 hl1 (by omega) fun h2 st2 sb2=>wpAny_pure ?_))
  have:=q h2 (by rw[show i+(n+1)=i+1+n by omega];exact st2) ⟨sb2.1.trans sb.1,fun b hb=>(sb2.2 b hb).trans (sb.2 b hb)⟩
  have e:(items.toList.drop i).take (n+1)=items[i]::(items.toList.drop (i+1)).take n:=by
   rw[List.drop_eq_getElem_cons (by simpa using hi)]
   simp
  rw[e] at this
  exact this
theorem zdX{prog:Program}{w:World}{A:Around}{E:Value→Shared→Prop}{s:Shared}{l:Addr}{items:Array Value}{Q:List Value→Shared→Prop}(hd:A.handled=none)(hl:s.heap.IsList l items)
  (q:∀h':Heap,Heap.ExtBut s.heap.objs.size s.heap h'→Q items.toList { s with heap:=h' }):wpAny (model prog w) A (unpackItems (.ref l) items.size none) Q E s:=by
 unfold unpackItems
 have hlt:l<s.heap.objs.size:=by obtain⟨o,e,_⟩:=hl;exact Heap.lt_size e
 have ty:s.TypeIs (.ref l) "list":=by obtain⟨o,e,c,_⟩:=hl;exact⟨o,e,c⟩
 refine wpAny_bind ?_
 unfold notIterableAtAll
 refine wpAny_bind (wpAny_specialOf ty F.slot_list_iter.lookup ?_)
 rw[if_pos (show((some (Value.builtin "list.__iter__")).isSome=true) from rfl)]
 refine wpAny_pure ?_
 rw[if_neg Bool.false_ne_true]
 refine wpAny_bind (wpAny_holding (wpAny_pyIter_list hl ?_))
 dsimp only
 have hl1:(s.heap.push { cls:=Value.type "list_iterator",data:=Data.fields #[Value.ref l,Value.int 0 0] }).IsList l items:=by
  obtain⟨o,e,c⟩:=hl
  exact⟨o,Heap.get?_push_of_some _ e,c⟩
 refine wpAny_bind (wpAny_holding (zf3 (Nat.ne_of_lt hlt) items.size 0 _ _ ⟨_,Heap.get?_push_size _ rfl,rfl,rfl⟩ hl1 (by omega) fun h2 st2 sb2=>?_))
 have hl2:h2.IsList l items:=by
  obtain⟨o,e,c⟩:=hl1
  exact⟨o,(sb2.2 l (Nat.ne_of_lt hlt)).trans e,c⟩
 have el:List.take items.size (List.drop 0 items.toList)=items.toList:=by rw[List.drop_zero,show items.size=items.toList.length by simp,List.take_length]
 rw[el,if_neg (by simp)]
 refine wpAny_bind (wpAny_holding (wpAny_pyNext_list_end hd st2 hl2 (by simp) fun h3 eb=>?_))
 rw[if_neg (by simp)]
 refine wpAny_pure (q h3 fun b o hb e=>eb b o hb ?_)
 rw[sb2.2 b hb]
 exact Heap.get?_push_of_some _ e
section
variable {X:Cx} {pos:Pos}
noncomputable def zq3(K:PySem.W.Frag)(n:Nat)(t:TGs):TG:=fun v σ H Q=>∃a xs,v=.ref a∧SqL K H a xs∧xs.length=n∧t xs σ H Q
theorem znL{es:List Expr}{k:Nat}{t:TGs}{n:Nat}(hc:X.calm=true)(h:PGs X es t)
  (hn:(assignEach es X.env).length=n:=by rfl) (hst:(assignEach es X.env).findIdx? (·.1)=none:=by rfl):PG X (.Tuple es k pos) (zq3 X.K n t):=by
 intro pins s σ H v u Q I r hw
 obtain⟨a,xs,e1,hq,hl,hw⟩:=hw
 subst e1
 cases r
 obtain⟨its,rv,pl,hz⟩:=I.list hq
 rw[assign_Tuple]
 refine wpAny_bind (wpAny_standAt ?_)
 unfold unpack
 have hlen:(assignEach es X.env).length=its.toArray.size:=by rw[hn,←hl,rv.length];simp
 rw[hlen,hst]
 refine wpAny_bind (wpAny_holding (zdX (I.ok.hd hc) pl.isList fun h' hx=>?_))
 have I1:Inv X pins σ H { s with heap:=h' }:=I.kept (t':=s.toks) fun b o e=>hx b o (Nat.ne_of_lt (Heap.lt_size e)) e
 exact h pins _ σ H xs _ Q I1 (by simpa using rv) hw
noncomputable def zo6(n:Nat)(t:zjf):TGd:=fun d ρ Q=>match d with
 | .lst ds=>ds.length=n∧t ds ρ Q
 | _=>False
theorem znM{es:List Expr}{k:Nat}{t:zjf}{n:Nat}(hc:X.calm=true)(h:zo2 X es t)(hn:(assignEach es X.env).length=n:=by rfl)(hst:(assignEach es X.env).findIdx? (·.1)=none:=by rfl):PGd X (.Tuple es k pos) (zo6 n t):=by
 obtain⟨t1,p1,q1⟩:=h
 refine⟨_,znL hc p1 hn hst,fun ρ σ G0 H0 G H d v Q P E r h k=>?_⟩
 unfold zo6 at h
 split at h
 ·simp only[Rep] at r
  obtain⟨a,xs,rfl,hq,rs⟩:=r
  exact⟨a,xs,rfl,(E.e.s.rdl hq).sq,by rw[rs.length];exact h.1,q1 ρ σ G0 H0 G H _ xs Q P E rs h.2 k⟩
 ·exact h.elim
end
theorem zl7{acc:List Int}{k:Int}:∀a,a∈step_dedup acc k↔a∈acc∨a=k:=by
 intro a
 unfold step_dedup
 split
 ·rename_i h
  constructor
  ·exact .inl
  ·rintro(h' | rfl)
   ·exact h'
   ·simpa using h
 ·simp
theorem zjl{acc:List Int}{k:Int}(h:acc.Nodup):(step_dedup acc k).Nodup:=by
 unfold step_dedup
 split
 ·exact h
 ·rename_i hn
  rw[List.nodup_append]
  refine⟨h,by simp,fun a ha b hb=>?_⟩
  have:b=k:=by simpa using hb
  subst this
  rintro rfl
  exact hn (by simpa using ha)
theorem zjm(l acc:List Int)(h:acc.Nodup):(l.foldl step_dedup acc).Nodup∧∀a,a∈l.foldl step_dedup acc↔a∈acc∨a∈l:=by
 induction l generalizing acc with
 | nil=>exact⟨h,fun a=>by simp⟩
 | cons k r ih=>
  obtain⟨h1,h2⟩:=ih (step_dedup acc k) (zjl h)
  refine⟨h1,fun a=>?_⟩
  rw[List.foldl_cons,h2 a,zl7 a,List.mem_cons,or_assoc]
theorem zgq(ns:List Int):firstMet (fun i=>ns.getD i 0) ns.length=ns.foldl step_dedup []:=by
 unfold firstMet
 congr 1
 apply List.ext_getElem
 ·simp
 ·intro i h1 h2
  simp[List.getD,h2]
section
variable {X:Cx} {pos:Pos} {e:Expr} {te:TD} {es:List Expr} {ts:TDa}
noncomputable def zkC(ns:List Int):List Int:=ns.foldl step_dedup []
theorem zkD(hc:X.calm=true):CallR X (.type "set") (fun xs H Q=>∃(p:Addr) (ns:List Int),xs=[.ref p]∧SqL X.K H p (ns.map V.int)∧ns.length<4000∧∀q,H q=none→∀S:Int→Bool,Q (.ref q) (upd H q (.set S (zkC ns).length))):=by
 intro pins s σ H xs us Q I r h
 obtain⟨p,ns,rfl,hq,hsz,q⟩:=h
 obtain⟨u,rfl,ru⟩:=zcN r
 cases ru
 obtain⟨its,rv,pl,hz⟩:=I.list hq
 have hl:its.toArray.size=ns.length:=by rw[List.size_toArray,←rv.length,List.length_map]
 refine call_set_list (I.ok.hd hc) pl.isList (by simpa using zb0 rv) (by rw[hl];have:scanBound=4096:=by decide
                                                                         omega) fun h' tk hs hk=>?_
 have hf:H s.heap.objs.size=none:=I.hok.fresh (Nat.le_refl _)
 rw[hl] at hs
 refine⟨.ref s.heap.objs.size,_,I.laid (a:=s.heap.objs.size) (t':=tk) (fun b o e=>hk b o (Heap.lt_size e) e) (Nat.le_refl _) (o:=.set _ _) hs,rfl,?_⟩
 rw[zgq]
 exact q _ hf _
theorem zkE:CallR X (.builtin "len") (fun xs H Q=>∃(p:Addr) (S:Int→Bool) (n:Nat),xs=[.ref p]∧H p=some (.set S n)∧Q (.int n) H):=by
 intro pins s σ H xs us Q I r h
 obtain⟨p,S,n,rfl,hp,q⟩:=h
 obtain⟨u,rfl,ru⟩:=zcN r
 cases ru
 obtain⟨o,es,ep,t,h1,h2,h3,h4,h5,h6,h7,rfl⟩:=(show s.heap.SetOf (intKind X.prog X.w) p S n from I.hok p _ hp)
 refine call_len_set h1 h2 h3 h7 ?_ ⟨.int _,H,I.tok _,⟨_,rfl⟩,q⟩
 have:scanBound=4096:=by decide
 have h8:es.size<4096:=by omega
 exact Int.ofNat_lt.mpr (Nat.lt_trans h8 (by decide))
theorem zhl:bootBuiltins "set"=some (.type "set"):=by rfl
noncomputable def zgr:SpD:=fun ds Q=>match ds with
 | [.lst es]=>match zbr es with
  | some ns=>ns.length<4000∧∀l:List Int,l.Nodup→(∀k,k∈l↔k∈ns)→Q (.fz (.int l.length))
  | none=>False
 | _=>False
theorem zkF{p1 p2 pos2:Pos}(hc:X.calm=true)(hm1:X.mg "len"=none)(hm2:X.mg "set"=none)(ha:PDa X [e] ts)(hg1:Gl X "len":=by rfl)(hg2:Gl X "set":=by rfl)
  (he:starEach [e] X.env=(false,eval e X.env)::starEach [] X.env:=by rfl) (he2:starEach [.Call (.Name "set" p2) [e] [] pos2] X.env=(false,eval (.Call (.Name "set" p2) [e] [] pos2) X.env)::starEach [] X.env:=by rfl):PD X (.Call (.Name "len" p1) [.Call (.Name "set" p2) [e] [] pos2] [] pos) (dCB zgr ts):=by
 obtain⟨t,pp,q⟩:=ha
 refine⟨_,zeE zkE hg1 hm1 boot_len (zcg (zg0 (zkD hc) hg2 hm2 zhl pp (by decide) (by decide) he rfl) zeN he2) (by decide) (by decide) he2 rfl,fun ρ σ G0 H0 G H Q P E h k=>?_⟩
 refine q ρ σ G0 H0 G H _ _ E h fun vs H' ds G' x rs hq=>?_
 unfold zgr at hq
 split at hq
 ·split at hq
  ·rename_i es ns hn
   obtain⟨v,rfl,rv⟩:=zcr rs
   simp only[Rep] at rv
   obtain⟨a,xs,rfl,h1,h2⟩:=rv
   rw[zbJ hn] at h2
   rw[zcD h2] at h1
   refine⟨a,ns,rfl,(x.s.rdl h1).sq,hq.1,fun q' hq' S=>⟨q',S,_,rfl,zau,?_⟩⟩
   obtain⟨f1,f2⟩:=zjm ns [] List.nodup_nil
   exact k _ _ _ G' (x.trans (.own x.s hq')) (fzR (zaG _ _ _)) (hq.2 (zkC ns) f1 fun k=>by rw[zkC,f2];simp)
  ·exact hq.elim
 ·exact hq.elim
theorem RepF.look{K:PySem.W.Frag}{H:Hp}{f:Str}:∀{gs:List (Str×V)} {fs:List (Str×D)} {d:D},RepF K H gs fs→fs.lookup f=some d→∃v,gs.lookup f=some v∧Rep K H v d
 | [],[],d,_,h=>by simp at h
 | (x,v)::gs,(y,d')::fs,d,r,h=>by
  simp only[RepF] at r
  obtain⟨⟨rfl,r1⟩,r2⟩:=r
  rw[List.lookup_cons] at h ⊢
  cases hb:f==x with
  | true=>rw[hb] at h;cases h;exact⟨v,rfl,r1⟩
  | false=>rw[hb] at h;exact RepF.look r2 h
 | [],_::_,_,r,_=>by simp only[RepF] at r
 | _::_,[],_,r,_=>by simp only[RepF] at r
theorem ziD{f:Str}:∀{fs:List (Str×D)} {d:D},fs.lookup f=some d→∃p∈fs,p.1=f
 | [],d,h=>by simp at h
 | (y,d')::fs,d,h=>by
  rw[List.lookup_cons] at h
  cases hb:f==y with
  | true=>exact⟨(y,d'),by simp,(beq_iff_eq.mp hb).symm⟩
  | false=>
   rw[hb] at h
   obtain⟨p,h1,h2⟩:=ziD h
   exact⟨p,by simp[h1],h2⟩
noncomputable def zeZ(f:Str)(te:TD):TD:=fun ρ Q=>te ρ fun r=>match r.val with
 | .obj _ fs=>∃d,fs.lookup f=some d∧Q (.fz d)
 | _=>False
theorem zbY{f:Str}(he:PD X e te)(hb:attributeBase e f X.env (eval e X.env)=eval e X.env:=by rfl):PD X (.Attribute e f pos) (zeZ f te):=by
 obtain⟨t,p,q⟩:=he
 refine⟨_,zoH p hb,fun ρ σ G0 H0 G H Q P E h k=>q ρ σ G0 H0 G H _ _ E h fun v H' r G' x rr hq=>?_⟩
 obtain⟨G2,x2,rv,_⟩:=rr.freeze x
 split at hq
 ·rename_i cn fs e1
  rw[e1] at rv
  simp only[Rep] at rv
  obtain⟨a,C,dx,gs,rfl,h1,h2,h3,h4⟩:=rv
  obtain⟨d,hd,hq⟩:=hq
  obtain⟨v,hv,rv⟩:=h4.look hd
  obtain⟨pr,hp,rfl⟩:=ziD hd
  exact⟨a,C,dx,gs,v,rfl,x2.s _ _ h1,h2.cls,h3 pr hp,hv,k _ _ _ G2 x2 (fzR rv) hq⟩
 ·exact hq.elim
noncomputable def zoe(f:Str)(v:D):List (Str×D)→List (Str×D)
 | []=>[(f,v)]
 | (g,x)::r=>if g=f then(g,v)::r else(g,x)::zoe f v r
theorem RepF.put{K:PySem.W.Frag}{H:Hp}{f:Str}{v:V}{d:D}(rv:Rep K H v d):∀{gs:List (Str×V)} {fs:List (Str×D)},RepF K H gs fs→RepF K H (zfU f v gs) (zoe f d fs)
 | [],[],_=>by simp only[zfU,zoe,RepF,and_true,true_and];exact rv
 | (x,u)::gs,(y,d')::fs,r=>by
  simp only[RepF] at r
  obtain⟨⟨rfl,r1⟩,r2⟩:=r
  simp only[zfU,zoe]
  split
  ·simp only[RepF,true_and];exact⟨rv,r2⟩
  ·simp only[RepF,true_and];exact⟨r1,RepF.put rv r2⟩
 | [],_::_,r=>by simp only[RepF] at r
 | _::_,[],r=>by simp only[RepF] at r
theorem RepF.length{K:PySem.W.Frag}{H:Hp}:∀{gs:List (Str×V)} {fs:List (Str×D)},RepF K H gs fs→gs.length=fs.length
 | [],[],_=>rfl
 | (x,u)::gs,(y,d')::fs,r=>by
  simp only[RepF] at r
  simp[RepF.length r.2]
 | [],_::_,r=>by simp only[RepF] at r
 | _::_,[],r=>by simp only[RepF] at r
structure Making (K:PySem.W.Frag) (C:Addr) (x dx:Addr) (G0 H0:Hp) (ρ:Ev) (σ:St) (G H:Hp) (fs:List (Str×D)) (gs:List (Str×V)):Prop where
 e:EOk K G0 H0 ρ σ G H
 sl:σ[0]?=some (some (.ref x))
 hx:H x=some (.ins C dx gs)
 hdx:H dx=some (.own x)
 gx:G x=none
 gdx:G dx=none
 r:RepF K G gs fs
theorem Making.ext{K:PySem.W.Frag}{C x dx:Addr}{G0 H0:Hp}{ρ:Ev}{σ:St}{G H G' H':Hp}{fs:List (Str×D)}{gs:List (Str×V)}(M:Making K C x dx G0 H0 ρ σ G H fs gs)(y:Ext G H G' H'):Making K C x dx G0 H0 ρ σ G' H' fs gs:=
 ⟨M.e.ext y,M.sl,y.h _ _ M.hx,y.h _ _ M.hdx,y.n _ M.gx (by rw[M.hx];exact nofun),y.n _ M.gdx (by rw[M.hdx];exact nofun),RepF.mono y.g _ _ M.r⟩
noncomputable abbrev TI0:=Ev→List (Str×D)→(List (Str×D)→Prop)→Prop
noncomputable def PIn(X:Cx)(C:Addr)(sts:List Stmt)(t:TI0):Prop:=∃tt,PSs X sts tt∧∀(x dx:Addr) (ρ:Ev) (σ:St) (G0 H0 G H:Hp) (fs:List (Str×D)) (gs:List (Str×V)) (Q:List (Str×D)→Prop) (E:Ends),H0 x=none→H0 dx=none→dx≠x→(∀i o,gt ρ i≠.ov o)→
 Making X.K C x dx G0 H0 ρ σ G H fs gs→t ρ fs Q→(∀σ' G' H' fs' gs',Making X.K C x dx G0 H0 ρ σ' G' H' fs' gs'→Q fs'→E.nx σ' H')→tt E σ H
noncomputable def zqm:TI0:=fun _ fs Q=>Q fs
noncomputable def zl8(f:Str)(te:TD)(u:TI0):TI0:=fun ρ fs Q=>te ρ fun r=>fs.length<1000∧u ρ (zoe f r.val fs) Q
theorem znN{C:Addr}:PIn X C [] zqm:=⟨_,zjO,fun x dx ρ σ G0 H0 G H fs gs Q E _ _ _ _ M h k=>k σ G H fs gs M h⟩
theorem zdf{C:Addr}{f x:Str}{p1 p2:Pos}{sts:List Stmt}{u:TI0}(c:Cls X.K C)(n:NoAttr X.K C f)(he:PD X e te)(hr:PIn X C sts u)(hN:X.N[0]?=some x:=by rfl)(hv:Vis X.env.scope x:=by first | exact Or.inl rfl | exact Or.inr (Or.inl rfl) | exact Or.inr (Or.inr rfl))
  (hs:swapsWith e (some (.Attribute (.Name x p1) f p2)) pos.line X.env=pure false:=by rfl) (hd:(x==("__debug__":Str))=false:=by decide) (hcd:(x==("__classdict__":Str))=false:=by decide) :
  PIn X C (.Assign [.Attribute (.Name x p1) f p2] e pos::sts) (zl8 f te u):=by
 obtain⟨t1,h1,q1⟩:=he
 obtain⟨t2,h2,q2⟩:=hr
 refine⟨_,zim (zoI (zfT hN hv hd hcd) h1 hs) h2,fun x dx ρ σ G0 H0 G H fs gs Q E z1 z2 z3 z4 M h k=>?_⟩
 refine q1 ρ σ G0 H0 G H _ _ M.e h fun v H' r G' y rr hq=>?_
 obtain⟨G2,y2,rv,_⟩:=rr.freeze y
 have M2:=M.ext y2
 refine⟨_,M.sl,x,C,dx,gs,rfl,M2.hx,c,n,by rw[M.r.length];exact hq.1,?_⟩
 refine q2 x dx ρ σ G0 H0 G2 _ (zoe f r.val fs) (zfU f v gs) Q E z1 z2 z3 z4 ?_ hq.2 k
 refine⟨⟨⟨M2.e.e.g,fun b o e=>by rw[zar (zat e z1)];exact M2.e.e.h b o e,fun b o e=>by rw[zar (zat e M2.gx)];exact M2.e.e.s b o e,M2.e.e.n⟩,M2.e.len,M2.e.fz,fun i ds h=>?_,M2.e.dj,?_⟩,M2.sl,zau,by rw[zar z3];exact M2.hdx,M2.gx,M2.gdx,M2.r.put rv⟩
 ·obtain⟨p,xs,b1,b2,b3,b4,b5⟩:=M2.e.ow i ds h
  exact⟨p,xs,b1,by rw[zar (zpT b2 M2.hx (by simp))];exact b2,b3,b4,b5⟩
 ·obtain⟨own,o1,o2⟩:=M2.e.on
  exact⟨own,o1,fun i o h=>(z4 i o h).elim⟩
end
noncomputable def ISp(K:PySem.W.Frag)(C:Addr)(n:Nat)(t:SpD):Sp:=fun vs H Q _=>∃x dx H1 G ds vs' Qr,vs=.ref x::vs'∧H=upd (upd H1 dx (.own x)) x (.ins C dx [])∧H1 x=none∧H1 dx=none∧dx≠x∧Same G H1∧Reps K G vs' ds∧ds.length=n∧t ds Qr∧
 ∀H' r G',Ext G H1 G' H'→RepR K G' H' H1 (.ref x) r→Qr r→Q .non H'
section
variable {P:Program} {w:World} {K:PySem.W.Frag} {mg:Str→Option Value} {base:Heap}
noncomputable def zeo(N:List Str)(ds:List D):Ev:=.un::(ds.map Sl.fz++List.replicate (N.length-1-ds.length) .un)
theorem zkG{G H:Hp}{N:List Str}{x:V}{vs:List V}{ds:List D}(s:Same G H)(r:Reps K G vs ds):EOk K G H (zeo N ds) (zcA N (x::vs)) G H:=by
 have E:=ziz (N:=N.drop 1) s r
 have hl:=r.length
 have e1:zeo N ds=.un::zaH (N.drop 1) ds:=by simp[zeo,zaH]
 have e2:zcA N (x::vs)=some x::zcA (N.drop 1) vs:=by simp[zcA,Nat.sub_sub,Nat.add_comm]
 rw[e1,e2]
 refine⟨E.e,congrArg (·+1) E.len,fun i d h=>?_,fun i d h=>?_,fun i j d d' hij h h'=>?_,?_⟩
 ·cases i with
  | zero=>cases h
  | succ i=>exact E.fz i d h
 ·cases i with
  | zero=>cases h
  | succ i=>exact E.ow i d h
 ·cases i with
  | zero=>cases h
  | succ i=>
   cases j with
   | zero=>cases h'
   | succ j=>exact E.dj i j d d' (fun z=>hij (by rw[z])) h h'
 ·obtain⟨own,o1,o2⟩:=E.on
  refine⟨fun q=>(own q).map (·+1),fun i ds p h hp=>?_,fun i o h=>?_⟩
  ·cases i with
   | zero=>cases h
   | succ i=>
    dsimp only
    rw[o1 i ds p h hp];rfl
  ·cases i with
   | zero=>cases h
   | succ i=>
    obtain⟨p,fp,b1,b2,b3,b4⟩:=o2 i o h
    refine⟨p,fp,b1,b2,b3,fun q hq=>⟨(b4 q hq).1,(b4 q hq).2.1,?_⟩⟩
    dsimp only
    rw[(b4 q hq).2.2];rfl
theorem zh1(N:List Str)(ds:List D):∀i o,gt (zeo N ds) i≠.ov o:=by
 have key:∀(l:List Sl),(∀s∈l,∀o,s≠.ov o)→∀i o,gt l i≠.ov o:=by
  intro l
  induction l with
  | nil=>intro _ i o h;cases h
  | cons a r ih=>
   intro h i o
   cases i with
   | zero=>exact h a (by simp) o
   | succ i=>exact ih (fun s hs=>h s (by simp[hs])) i o
 refine key _ fun s hs o e=>?_
 subst e
 unfold zeo at hs
 simp at hs
theorem zkH{x qual cn:Str}{st:Stmt}{f C:Addr}{fd:FuncData}{N ps:List Str}{k:Nat}{t:SpD}{T:TI0}(F:Fun K x qual st f fd)(S:FnScope N ("self"::ps) (defScope st))(hC:ClsAt K cn C)
  (body:∀(cdv:Value) (A:Around) (outer:List Env) (s:Shared) (H:Hp) (E:XK),Room k (A.deeper (envOfC qual (defScope st) s.heap.objs.size f cdv))→PIn (zi8 CX0 P w K mg base N qual (defScope st) f cdv A outer s H E).nox C (defBody st) T)
  (spec:∀(ds:List D) (Qr:R→Prop),ds.length=ps.length→t ds Qr→T (zeo N ds) [] fun fs=>(∀p∈fs,NoAttr K C p.1)∧Qr (.fz (.obj cn fs))):FnOk P w K mg base CX0 (k+1) f fd ("self"::ps) (ISp K C ps.length t):=by
 refine F.ok S (fun vs H Q E h=>?_) (fun cdv A outer s H vs Q E hr h=>?_)
 ·obtain⟨x,dx,H1,G,ds,vs',Qr,rfl,_,_,_,_,_,r,hl,_⟩:=h
  simp[r.length,hl]
 ·obtain⟨x,dx,H1,G,ds,vs',Qr,rfl,rfl,hx,hdx,hne,s0,r,hl,ht,k0⟩:=h
  obtain⟨tt,p,q⟩:=body cdv A outer s _ E hr
  have E0:=zkG (N:=N) (x:=.ref x) s0 r
  have gx:=s0.free hx
  have gdx:=s0.free hdx
  have sH:Same H1 (upd (upd H1 dx (.own x)) x (.ins C dx [])):=fun b o e=>by rw[zar (zat e hx),zar (zat e hdx)];exact e
  have M0:Making K C x dx G H1 (zeo N ds) (zcA N (.ref x::vs')) G (upd (upd H1 dx (.own x)) x (.ins C dx [])) [] []:=
   ⟨⟨⟨Same.refl _,sH,s0.trans sH,fun _ h _=>h⟩,E0.len,E0.fz,fun i ds h=>let⟨p,xs,b1,b2,b3,b4,b5⟩:=E0.ow i ds h;⟨p,xs,b1,sH _ _ b2,b3,b4,b5⟩,E0.dj,let⟨own,o1,o2⟩:=E0.on;⟨own,o1,fun i o h=>let⟨p,fp,b1,b2,b3,b4⟩:=o2 i o h;⟨p,fp,b1,b2,b3.mono (Same.refl _) fun q _ u e=>sH q u e,b4⟩⟩⟩,by simp[zcA],zau,by rw[zar hne];exact zau,gx,gdx,by simp only[RepF]⟩
  refine⟨tt,p,q x dx _ _ G H1 G _ [] [] _ _ hx hdx hne (zh1 _ _) M0 (spec ds Qr hl ht) fun σ' G' H' fs gs M hq=>?_⟩
  have y:=M.e.e
  have ne':dx≠x:=hne
  have sG:Same G' (upd (upd G' dx (.own x)) x (.ins C dx gs)):=fun b o e=>by rw[zar (zat e M.gx),zar (zat e M.gdx)];exact e
  refine k0 H' (.fz (.obj cn fs)) (upd (upd G' dx (.own x)) x (.ins C dx gs)) ⟨y.g.trans sG,y.h,fun b o e=>?_,fun b h1 h2=>?_⟩ ?_ hq.2
  ·by_cases hb:b=x
   ·subst hb;rw[zau] at e;rw[M.hx];exact e
   ·rw[zar hb] at e
    by_cases hb2:b=dx
    ·subst hb2;rw[zau] at e;rw[M.hdx];exact e
    ·rw[zar hb2] at e;exact y.s b o e
  ·rw[zar (fun z=>h2 (by rw[z];exact hx)),zar (fun z=>h2 (by rw[z];exact hdx))]
   exact y.n b h1 h2
  ·show Rep K _ _ (.obj cn fs)
   simp only[Rep]
   exact⟨x,C,dx,gs,rfl,zau,hC,hq.1,RepF.mono sG _ _ M.r⟩
structure KnownC (P:Program) (w:World) (K:PySem.W.Frag) (mg:Str→Option Value) (base:Heap) (k:Nat) (x:Str) (n:Nat) (t:SpD):Prop where
 ex:∃(C f:Addr) (fd:FuncData) (ps:List Str),Mk K C f∧FnOk P w K mg base CX0 k f fd ps (ISp K C n t)∧mg x=some (.ref C)∧Binds K fd ps []
end
section
variable {X:Cx} {k k' n:Nat} {t:SpD} {x:Str} {p pos:Pos} {e:Expr} {es:List Expr} {ts:TDa}
theorem zl9(C:KnownC X.prog X.w X.K X.mg X.base k x n t)(hr:Room k' X.A)(ha:PDa X (e::es) ts)(hk:k+1≤k':=by decide)(hg:Gl X x:=by rfl)(hdb:(x==("__debug__":Str))=false:=by decide)
  (he:starEach (e::es) X.env=(false,eval e X.env)::starEach es X.env:=by rfl) (hpl:(backTo pos (starEach es X.env)).any (·.1)=false:=by rfl):PD X (.Call (.Name x p) (e::es) [] pos) (zaP n t ts):=by
 obtain⟨C,f,fd,ps,M,F,hm,hb⟩:=C.ex
 obtain⟨tt,pp,q⟩:=ha
 refine⟨_,znp M F (hr.mono hk) hg hm hb .nil zoP pp hdb he hpl,fun ρ σ G0 H0 G H Q P E h k=>q ρ σ G0 H0 G H _ _ E h fun vs H' ds G' y rs hq=>?_⟩
 intro a dx ha hdx hne
 rw[List.append_nil]
 exact⟨a,dx,H',G',ds,vs,Q,rfl,rfl,ha,hdx,hne,y.s,rs,hq.1,hq.2,fun H2 r G2 x2 rr q2=>⟨rfl,k _ H2 r G2 (y.trans x2) (rr.older y.h) q2⟩⟩
end
end L2
namespace L2
open PySem PySem.Spec PyProof.Rows
noncomputable def NoAttrs(K:PySem.W.Frag)(C:Addr):List Str→Prop
 | []=>True
 | x::r=>NoAttr K C x∧NoAttrs K C r
theorem NoAttrs.all{K:PySem.W.Frag}{C:Addr}:∀{l:List Str},NoAttrs K C l→∀x∈l,NoAttr K C x
 | [],_,x,h=>by cases h
 | y::r,n,x,h=>by
  rcases List.mem_cons.mp h with rfl | h
  ·exact n.1
  ·exact NoAttrs.all n.2 x h
structure AtC (K:PySem.W.Frag) (mg:Str→Option Value) (cn qual:Str) (st:Stmt) (fields:List Str):Prop where
 ex:∃(C f:Addr) (fd:FuncData),ClsAt K cn C∧Mk K C f∧Fun K "__init__" qual st f fd∧mg cn=some (.ref C)∧NoAttrs K C fields
theorem atC_mk{K:PySem.W.Frag}{mg:Str→Option Value}{h:Heap}{cn qual:Str}{st:Stmt}{fields:List Str}{C f:Addr}{oc:Value}{od an:Option Addr}{osl:Array (Option Value)}{kV doc pm cdv ct:Value}(X:K.In h)(G:h.Ns mainGlobals mg)
  (aC:PySem.W.nsIn K mainGlobals cn=some (some (.ref C))) (a1:PySem.W.findIn K (.ref C) "__init__"=some (some (.ref f))) (i1:PySem.W.isFn K (.ref f)=true)
  (l1:K.lookup f=some ⟨oc,od,.func (PySem.W.fnOf "__init__" qual (defArgs st) (defBody st) (defScope st) .none kV doc pm an cdv ct),osl⟩) (c1:PySem.W.codeIn K cdv qual=true) (k1:PySem.W.keepIn K (.ref f)=true)
  (pg:PySem.W.plainGet K C Str.empty=true) (hd:PySem.W.hasDictIn K C=true) (po:PySem.W.plainOver K C=true) (sa:PySem.W.findIn K (.ref C) "__setattr__"=some (some (.builtin "object.__setattr__"))) (mk:PySem.W.makesIn K C=true) (kc:PySem.W.keepIn K (.ref C)=true)
  (nf:NoAttrs K C fields):AtC K mg cn qual st fields:=
 ⟨C,f,_,⟨aC,⟨pg,hd,po,sa⟩⟩,⟨mk,a1,i1,kc⟩,zj7 l1 c1 k1,PySem.W.mg_of X G aC,nf⟩
end L2
namespace L2
open PySem PySem.Spec PyProof.Rows
noncomputable def znO:D→Bool
 | .non=>true
 | .bl _=>true
 | .int _=>true
 | .str _=>true
 | _=>false
noncomputable def zma(i:Nat)(te:TD):TD:=fun ρ Q=>te (frz i ρ) fun r=>match r with
 | .fz d=>znO d=true∧Q (.fz d)
 | _=>False
theorem zmb{K:PySem.W.Frag}{G G':Hp}{v:V}{d:D}(h:znO d=true)(r:Rep K G v d):Rep K G' v d:=by
 cases d<;>first | (simp only[Rep] at r ⊢;exact r) | cases h
noncomputable def zpQ(G:Hp)(L:List Addr):Hp:=fun a=>if a∈L then none else G a
theorem zmc{G H G' H':Hp}{L:List Addr}(gp:∀q∈L,G q=none)(x:Ext (zjc G H L) H G' H'):Ext G H (zpQ G' L) H':=by
 refine⟨fun b u e=>?_,x.h,fun b u e=>?_,fun q h1 h2=>?_⟩
 ·have hb:b∉L:=fun z=>by rw[gp b z] at e;cases e
  unfold zpQ
  rw[if_neg hb]
  exact x.g b u (by rw[zbx hb];exact e)
 ·unfold zpQ at e
  split at e
  ·cases e
  ·exact x.s b u e
 ·unfold zpQ
  split
  ·rfl
  ·rename_i hq
   exact x.n q (by rw[zbx hq];exact h1) h2
section
variable {X:Cx} {e:Expr} {te:TD} {t:TDb}
theorem EOk.lent{K:PySem.W.Frag}{G0 H0 G H:Hp}{ρ:Ev}{σ:St}(i:Nat)(E:EOk K G0 H0 ρ σ G H):∃G1,EOk K G0 H0 (frz i ρ) σ G1 H∧∀G' H',Ext G1 H G' H'→∃G2,Ext G H G2 H':=
 let⟨L,hL,E',_⟩:=E.freezeL i
 ⟨_,E',fun G' H' x=>⟨_,zmc hL x⟩⟩
theorem znP(i:Nat)(h:PD X e te):PD X e (zma i te):=by
 obtain⟨tt,p,q⟩:=h
 refine⟨tt,p,fun ρ σ G0 H0 G H Q P E h k=>?_⟩
 obtain⟨G1,E1,back⟩:=E.lent i
 refine q _ σ G0 H0 G1 H _ _ E1 h fun v H' r G' x rr hq=>?_
 split at hq
 ·rename_i d
  obtain⟨G2,x2⟩:=back G' H' x
  exact k v H' (.fz d) G2 x2 (zmb hq.1 rr) hq.2
 ·exact hq.elim
end
noncomputable def zc2:SpD:=fun ds Q=>match ds with
 | [.lst es]=>match zbX es with
  | some ss=>ss.length<4000∧(∀l:List Str,l.Nodup→(∀w∈l,w∈ss)→l.length<64)∧∀l:List Str,l.Nodup→(∀w,w∈l↔w∈ss)→sortedS l=true→Q (.ow (l.map D.str))
  | none=>False
 | _=>False
end L2
namespace L2
open PySem PySem.Spec PyProof.Rows
theorem zgs(t:SetTable)(n:Nat):(t.orStandIn n).led=t.led:=by
 unfold SetTable.orStandIn
 split<;>rfl
theorem zjn(t:SetTable)(es:Array (Int×Value))(h:Int)(x:Value):(layNew t es h x).2.1.led=t.led:=by
 unfold layNew
 split
 ·exact zgs _ _
 ·rfl
theorem zhm{t t':SetTable}{hs:Array Int}{wanted:Nat}{order:Array Nat}(h:t.relaid hs wanted=some (t',order)):t'.led=t.led∧t'.plain=t.plain:=by
 unfold SetTable.relaid SetTable.laid at h
 cases hc:SetTable.layClean (SetTable.sizeAbove wanted-1) hs with
 | none=>rw[hc] at h;cases h
 | some owner=>
  rw[hc] at h
  cases h
  exact⟨rfl,rfl⟩
theorem zfC(t:SetTable)(es:Array (Int×Value))(wanted:Nat)(hp:t.plain=false):(relayAll t es wanted).2.1.led=t.led∧(relayAll t es wanted).2.1.plain=false:=by
 unfold relayAll
 split
 ·rename_i t' order hr
  obtain⟨h1,h2⟩:=zhm hr
  dsimp only
  split
  ·exact⟨h1,h2.trans hp⟩
  ·exact⟨rfl,rfl⟩
 ·exact⟨rfl,rfl⟩
section
variable {prog:Program} {w:World} {A:Around} {E:Value→Shared→Prop} {s:Shared}
structure Marks (w:World) (es:Array (Int×Value)) (t:SetTable):Prop where
 led:t.led=!(w.params.followText "set-order")
 plain:es.size=0∨t.plain=false
structure SetAt (prog:Program) (w:World) (h:Heap) (a:Addr) (es:Array (Int×Value)) (ep:Nat) (t:SetTable):Prop where
 at_:h.get? a=some { cls:=.type "set",dict:=none,data:=.set es ep t,slots:=#[] }
 el:ElemsOf (strKind prog w) es.toList
 small:es.size<scanBound
 fits:t.fits es.size=true
 marks:Marks w es t
noncomputable def Mem(prog:Program)(w:World)(es:Array (Int×Value))(k:Str):Prop:=∃e∈es.toList,(strKind prog w).is k e.2=true
theorem zhn{a:Addr}{es es':Array (Int×Value)}{ep:Nat}{t t':SetTable}{Q:Unit→Shared→Prop}(ho:s.heap.get? a=some { cls:=.type "set",dict:=none,data:=.set es ep t,slots:=#[] })(hb:es'.size<scanBound)
  (h:∀h',Heap.SameBut a s.heap h'→h'.get? a=some { cls:=.type "set",dict:=none,data:=.set es' (ep+1) t',slots:=#[] }→Q () { s with heap:=h' }):wpAny (model prog w) A (storeSet a es' t') Q E s:=by
 refine wpAny_storeSet_of ho rfl ?_ (fits_of_scanBound hb)
 refine h _ (Heap.SameBut.update s.heap a (Obj.putSet es' t')) ?_
 have:=Heap.get?_update_self (Obj.putSet es' t') ho (by rw[putSet_of es' t' (ep:=ep) (t:=t) (es:=es) rfl];rfl)
 rw[putSet_of es' t' (ep:=ep) (t:=t) (es:=es) rfl] at this
 exact this
theorem znQ{a:Addr}{es:Array (Int×Value)}{ep:Nat}{t:SetTable}{x:Str}{tk:Tok}{Q:Bool→Shared→Prop}(S:SetAt prog w s.heap a es ep t)(room:es.size+1<scanBound)
  (h:∀h' es' ep' t',Heap.SameBut a s.heap h'→SetAt prog w h' a es' ep' t'→((es'=es∧Mem prog w es x)∨(¬Mem prog w es x∧List.Perm es'.toList (es.toList++[(hashStr w x,.str x tk)])))→∀b,Q b { s with heap:=h' }) :
  wpAny (model prog w) A (setAddHashed a (.str x tk) ((strKind prog w).hash x)) Q E s:=by
 have hkey:(strKind prog w).is x (.str x tk)=true:=by show Value.isStrOf x (.str x tk)=true;simp[Value.isStrOf]
 have hsc:(Value.str x tk).scannable=true:=rfl
 have ho:=S.at_
 unfold setAddHashed setAddHashedIn
 refine wpAny_holding (wpAny_bind (wpAny_setState_of ho rfl S.fits ?_))
 dsimp only
 rw[byScan_of hsc S.small S.el]
 simp only[↓reduceIte]
 unfold setAddByScan
 refine wpAny_bind (wpAny_bind (wpAny_rule (wpAny_bind (wpAny_setScan_of hkey ho rfl S.fits S.el ?_))))
 cases hr:List.findIdx? (fun e=>(strKind prog w).is x e.2) es.toList with
 | some j=>
  dsimp only
  obtain⟨hj,hpj,_⟩:=List.findIdx?_eq_some_iff_getElem.mp hr
  refine wpAny_pure (wpAny_pure ?_)
  exact h s.heap es ep t (Heap.SameBut.refl a s.heap) S (.inl ⟨rfl,es.toList[j],List.getElem_mem hj,hpj⟩) _
 | none=>
  dsimp only
  have hno:¬Mem prog w es x:=fun⟨e,he,hp⟩=>by
   have:=List.findIdx?_eq_none_iff.mp hr e he
   rw[hp] at this
   cases this
  have way:∀(b:Bool) {s1:Shared} {Q':Unit→Shared→Prop},Q' () s1→wpAny (model prog w) A (match b with | true=>rule "set.scan.the-table-gave-way" | false=>pure ()) Q' E s1:=fun b s1 Q' q=>by
   cases b
   ·exact wpAny_pure q
   ·exact wpAny_rule q
  have hperm:=layNew_perm t es ((strKind prog w).hash x) (.str x tk)
  have hfits:=layNew_fits t es ((strKind prog w).hash x) (.str x tk)
  have hled:=zjn t es ((strKind prog w).hash x) (.str x tk)
  generalize layNew t es ((strKind prog w).hash x) (.str x tk)=L at hperm hfits hled ⊢
  obtain⟨es1,t1,dum,gave⟩:=L
  dsimp only at hperm hfits hled ⊢
  rw[Array.toList_push] at hperm
  have hel1:ElemsOf (strKind prog w) es1.toList:=(S.el.push hkey hsc).perm hperm
  have hsz:es1.size=es.size+1:=by rw[←Array.length_toList,hperm.length_eq,List.length_append,Array.length_toList];rfl
  have hb1:es1.size<scanBound:=by omega
  refine wpAny_bind (way _ ?_)
  -- the table,not plain any more
  have tail:∀(g:Bool→Sem Unit),(∀(b:Bool) (s1:Shared) (Q':Unit→Shared→Prop),Q' () s1→wpAny (model prog w) A (g b) Q' E s1)→∀t2:SetTable,t2.fits es1.size=true→t2.led=t.led→t2.plain=false→wpAny (model prog w) A (do
    storeSet a es1 t2
    if (!dum&&t2.tooFull)=true then do
        g (relayAll t2 es1 (SetTable.grown es1.size)).2.2
        storeSet a (relayAll t2 es1 (SetTable.grown es1.size)).1 (relayAll t2 es1 (SetTable.grown es1.size)).2.1
        pure (some true)
     else pure (some true)) (fun r s'=>wpAny (model prog w) A (match r with | some added=>pure added | none=>setAddHashedIn a (Value.str x tk) ((strKind prog w).hash x) 99999) Q E s') E s:=by
   intro g hg t2 f2 l2 p2
   refine wpAny_bind (zhn ho hb1 fun h1 sb1 g1=>?_)
   have fin1:∀b,Q b { s with heap:=h1 }:=h h1 es1 _ t2 sb1 ⟨g1,hel1,hb1,f2,⟨l2.trans S.marks.led,.inr p2⟩⟩ (.inr ⟨hno,hperm⟩)
   split
   ·have hp:=relayAll_perm t2 es1 (SetTable.grown es1.size)
    have hfr:=relayAll_fits t2 es1 (SetTable.grown es1.size)
    have hmk:=zfC t2 es1 (SetTable.grown es1.size) p2
    generalize relayAll t2 es1 (SetTable.grown es1.size)=Rl at hp hfr hmk ⊢
    obtain⟨es2,t3,gave2⟩:=Rl
    dsimp only at hp hfr hmk ⊢
    have hs2:es2.size=es1.size:=by rw[←Array.length_toList,hp.length_eq,Array.length_toList]
    refine wpAny_bind (hg _ _ _ ?_)
    refine wpAny_bind (zhn (s:={ s with heap:=h1 }) g1 (by rw[hs2];exact hb1) fun h2 sb2 g2=>wpAny_pure (wpAny_pure ?_))
    exact h h2 es2 _ t3 (sb1.trans sb2) ⟨g2,hel1.perm hp,by rw[hs2];exact hb1,hfr,⟨(hmk.1.trans l2).trans S.marks.led,.inr hmk.2⟩⟩ (.inr ⟨hno,hp.trans hperm⟩) _
   ·exact wpAny_pure (wpAny_pure (fin1 _))
  by_cases hpl:t1.plain=true
  ·rw[if_pos hpl]
   refine wpAny_bind ?_
   rw[hashByValue_scannable 8 hsc]
   refine wpAny_pure ?_
   have hk:plainKind (.str x tk)=false:=rfl
   rw[hk]
   simp only[Bool.false_eq_true,if_false]
   exact tail _ (fun b s1 Q' q=>by cases b<;>first | exact wpAny_pure q | exact wpAny_rule q) { t1 with plain:=false } (SetTable.fits_plain_off hfits) hled rfl
  ·rw[if_neg hpl]
   refine wpAny_bind (wpAny_pure ?_)
   simp only[if_true]
   exact tail _ (fun b s1 Q' q=>by cases b<;>first | exact wpAny_pure q | exact wpAny_rule q) t1 hfits hled (by simpa using hpl)
noncomputable def keysOf(es:Array (Int×Value)):List Str:=es.toList.map fun e=>strOf e.2
theorem ziE{es:Array (Int×Value)}(el:ElemsOf (strKind prog w) es.toList)(k:Str):Mem prog w es k↔k∈keysOf es:=by
 unfold Mem keysOf
 rw[List.mem_map]
 constructor
 ·rintro⟨e,he,hk⟩
  obtain⟨t,ht⟩:=Value.isStrOf_shape hk
  exact⟨e,he,by rw[ht];rfl⟩
 ·rintro⟨e,he,rfl⟩
  obtain⟨⟨k,hk,_⟩,_⟩:=el e he
  obtain⟨t,ht⟩:=Value.isStrOf_shape hk
  refine⟨e,he,?_⟩
  rw[ht]
  show Value.isStrOf k (.str k t)=true
  simp[Value.isStrOf]
theorem zkI{es es':Array (Int×Value)}{x:Str}{tk:Tok}{hs:Int}(p:List.Perm es'.toList (es.toList++[(hs,.str x tk)])):List.Perm (keysOf es') (keysOf es++[x]):=by
 have:=p.map fun e=>strOf e.2
 rw[List.map_append] at this
 exact this
structure Holds (es:Array (Int×Value)) (xs:List Str):Prop where
 nd:(keysOf es).Nodup
 mem:∀x,x∈keysOf es↔x∈xs
 len:es.size≤xs.length
theorem Holds.put{es es':Array (Int×Value)}{xs:List Str}{x:Str}{tk:Tok}(H:Holds es xs)(el:ElemsOf (strKind prog w) es.toList)
  (h:(es'=es∧Mem prog w es x)∨(¬Mem prog w es x∧List.Perm es'.toList (es.toList++[(hashStr w x,.str x tk)]))):Holds es' (xs++[x]):=by
 rcases h with⟨rfl,hm⟩ | ⟨hm,hp⟩
 ·refine⟨H.nd,fun y=>?_,by simp;have:=H.len;omega⟩
  rw[List.mem_append,←H.mem,List.mem_singleton]
  constructor
  ·exact .inl
  ·rintro(h | rfl)
   ·exact h
   ·exact(ziE el _).mp hm
 ·have hk:=zkI hp
  refine⟨hk.nodup_iff.mpr ?_,fun y=>?_,?_⟩
  ·rw[List.nodup_append]
   refine⟨H.nd,by simp,fun a ha b hb=>?_⟩
   rw[List.mem_singleton.mp hb]
   rintro rfl
   exact hm ((ziE el _).mpr ha)
  ·rw[hk.mem_iff,List.mem_append,List.mem_append,H.mem]
  ·have e1:=hk.length_eq
   have e2:(keysOf es').length=es'.size:=by simp[keysOf]
   have e3:(keysOf es).length=es.size:=by simp[keysOf]
   have:=H.len
   simp only[List.length_append,List.length_cons,List.length_nil] at e1 ⊢
   omega
theorem SetAt.kept{h h':Heap}{a:Addr}{es:Array (Int×Value)}{ep:Nat}{t:SetTable}(S:SetAt prog w h a es ep t)(k:∀o,h.get? a=some o→h'.get? a=some o):SetAt prog w h' a es ep t:=⟨k _ S.at_,S.el,S.small,S.fits,S.marks⟩
end
section
variable {prog:Program} {w:World} {A:Around} {R:Result→Shared→Prop} {I:Addr} {fp wr:List Addr} {G:Array GenState→Array GenState→Prop} {n:Nat} {P:Nat→Value→Prop} {St:Nat→Shared→Prop}
theorem zkJ(W:WalksS prog w A.in1 I fp wr G n P St)(S:Addr)(hSf:S∉fp)(xs:List Str)(hx:xs.length=n)(hval:∀i v,P i v→∃x t,xs[i]?=some x∧v=.str x t)(hb:n+1<scanBound) :
  ∀(k i:Nat) (s:Shared) (es:Array (Int×Value)) (ep:Nat) (t:SetTable),n-i=k→i≤n→St i s→SetAt prog w s.heap S es ep t→Holds es (xs.take i)→
   (∀s' es' ep' t',Moved (S::wr) G s s'→SetAt prog w s'.heap S es' ep' t'→Holds es' xs→R (.ok (.ret .none)) s')→codeAny (model prog w) A (.builtin "set.update.loop" ⟨[.ref S,.ref I],[]⟩) R s:=by
 have offW:S∉wr:=fun h=>hSf (W.sub _ h)
 have more:∀b∈wr,b∈S::wr:=fun b hb=>List.mem_cons_of_mem _ hb
 intro k
 induction k with
 | zero=>
  intro i s es ep t hk hi st T H q
  have e:i=n:=by omega
  subst e
  refine codeAny_builtin PyProof.Rows.F.entry_set_update_loop ?_
  rw[Around.under_plainId PyProof.Rows.F.plain_set_update_loop _]
  show wpAny _ A.in1 (pyNext (.ref I) >>= _) _ _ s
  refine wpAny_bind (W.done s _ _ st fun s' hm=>?_)
  show wpAny _ A.in1 (ret Value.none) _ _ s'
  rw[←hx,List.take_length] at H
  exact wpAny_pure (q s' es ep t (hm.mono more) (T.kept fun o e=>hm.heap S _ offW e) H)
 | succ k ih=>
  intro i s es ep t hk hi st T H q
  have hlt:i<n:=by omega
  refine codeAny_builtin PyProof.Rows.F.entry_set_update_loop ?_
  rw[Around.under_plainId PyProof.Rows.F.plain_set_update_loop _]
  show wpAny _ A.in1 (pyNext (.ref I) >>= _) _ _ s
  refine wpAny_bind (W.item i s _ _ hlt st fun v s' hP st' hm=>?_)
  obtain⟨x,tk,hxi,rfl⟩:=hval i v hP
  have T':SetAt prog w s'.heap S es ep t:=T.kept fun o e=>hm.heap S _ offW e
  show wpAny _ A.in1 (holding [Value.str x tk] (setAdd S (.str x tk)) >>= _) _ _ s'
  refine wpAny_bind (wpAny_holding ?_)
  unfold setAdd
  refine wpAny_holding (wpAny_bind ((strKind prog w).pyHash (k:=x) (by show Value.isStrOf x (.str x tk)=true;simp[Value.isStrOf]) ?_))
  have hl:=H.len
  rw[List.length_take] at hl
  refine znQ (s:={ s' with toks:=s'.toks+1 }) T' (by omega) fun h' es' ep' t' sb T2 hput b=>?_
  have tk1:xs.take (i+1)=xs.take i++[x]:=by rw[List.take_add_one,hxi];rfl
  have H2:Holds es' (xs.take (i+1)):=by rw[tk1];exact H.put T.el hput
  refine wpAny_pure ⟨plainId_quiet PyProof.Rows.F.plain_set_update_loop _,ih (i+1) _ es' ep' t' (by omega) hlt (W.frame _ s' _ _ st' (Nat.le_succ _) fun b hb o e=>?_) T2 H2 fun s2 es2 ep2 t2 hm2 T3 H3=>?_⟩
  ·rw[sb.2 b (fun z:b=S=>hSf (by rw[←z];exact hb))];exact e
  ·refine q s2 es2 ep2 t2 (Moved.trans W.gtrans ((hm.mono more).then_heap (Nat.le_succ _) fun b o hb e=>?_) hm2) T3 H3
   rw[sb.2 b (fun z:b=S=>hb (by rw[z];exact List.mem_cons_self))];exact e
end
end L2
namespace L2
open PySem PySem.Spec PyProof.Rows
section
variable {prog:Program} {w:World} {A:Around} {E:Value→Shared→Prop} {s:Shared}
noncomputable abbrev zb5(w:World):Obj:={ cls:=.type "set",dict:=none,data:=.set #[] 0 (.fresh 0 0 (!(w.params.followText "set-order"))) }
theorem zmd(a:Value){Q1:Value→Shared→Prop}(h:Q1 (.ref s.heap.objs.size) { s with heap:=s.heap.push (zb5 w) }) :
  codeAny (model prog w) A (.call (.builtin "set.__new__") ⟨[.type "set",a],[]⟩) (wants Q1 E) s:=by
 refine codeAny_of_tree ?_
 show wpAny _ A.in1 (do checkBuiltinCall "set.__new__" ⟨[.type "set",a],[]⟩;again (.builtin "set.__new__" ⟨[.type "set",a],[]⟩)) _ _ s
 refine wpAny_bind (wpAny_of_eq (PySem.F.newCall_set_1 a) (wpAny_pure ⟨plainId_quiet PySem.F.plain_set_new _,codeAny_builtin PySem.F.entry_set_new ?_⟩))
 rw[Around.under_plainId PySem.F.plain_set_new _]
 unfold Builtin.«set.__new__» Builtin.Frozenset.newClass
 have hsub:=PySem.sub_set_self
 obtain⟨hp,g,d,tk,os⟩:=s
 dsimp only
 wp_walk
 refine wpAny_askSetting (wpAny_pure ?_)
 dsimp only
 simp only[newObj]
 refine wpAny_bind (wpAny_alloc (wpAny_pure ?_))
 exact wpAny_pure h
theorem znR{h:Heap}{a:Addr}(e:h.get? a=some (zb5 w)):SetAt prog w h a #[] 0 (.fresh 0 0 (!(w.params.followText "set-order"))):=
 ⟨e,fun x hx=>by simp at hx,by show 0<4096;decide,by simp[SetTable.fits,SetTable.fresh,SetTable.fill],⟨rfl,.inl rfl⟩⟩
theorem zkK{l:Addr}{items:List Value}{xs:List Str}{Q:Value→Shared→Prop}(hh:A.handled=none)(hl:s.heap.IsList l items.toArray)(hi:StrsAre items xs)(hb:xs.length+1<scanBound)
  (h:∀(h':Heap) (tk:Nat) es ep t,SetAt prog w h' s.heap.objs.size es ep t→L2.Holds es xs→(∀b o,b<s.heap.objs.size→s.heap.get? b=some o→h'.get? b=some o)→Q (.ref s.heap.objs.size) { s with heap:=h',toks:=tk }) :
  wpAny (model prog w) A (call (.type "set") [.ref l]) Q E s:=by
 obtain⟨c,tl,hmro⟩:=PySem.F.called_set.mro
 have hmade:=PySem.F.called_set.made
 have hsub:=PySem.F.called_set.sub
 refine wpAny_call (codeAny_of_tree ?_)
 show wpAny _ _ (callAny (.type "set") _) _ _ _
 refine wpAny_pure ⟨Code.quiet_builtin _ (by decide +kernel),codeAny_builtin PySem.F.entry_type_call ?_⟩
 rw[Around.under_plain (weight_type_call_type "set" [.ref l] []) rfl]
 have h1:=PySem.F.called_set.notType
 have h2:=PySem.F.called_set.canCreate
 have hct:=PySem.F.typeCall_set_1 (.ref l)
 repeat(any_goals (first | assumption | wp_step))
 refine codeAny_mono (zmd (.ref l) (E:=E) (Q1:=fun obj s1=>obj=.ref s.heap.objs.size∧s1={ s with heap:=s.heap.push (zb5 w) }) ⟨rfl,rfl⟩) fun r s1 hr=>?_
 cases r with
 | error e=>exact hr
 | ok fl=>
  cases fl with
  | ret obj=>
   obtain⟨rfl,rfl⟩:=hr
   have hS:(s.heap.push (zb5 w)).get? s.heap.objs.size=some (zb5 w):=Heap.get?_push_size _ rfl
   have hT:Shared.TypeIs { s with heap:=s.heap.push (zb5 w) } (.ref s.heap.objs.size) "set":=⟨_,hS,rfl⟩
   have hli:=PySem.F.called_set.init.lookup
   have hbi:=PySem.F.called_set.init.bind (.ref s.heap.objs.size)
   repeat(any_goals (first | assumption | wp_step))
   refine codeAny_mono (codeAny_call_builtin (R:=wants (fun r s2=>r=.none∧∃h' tk es ep t,s2={ s with heap:=h',toks:=tk }∧SetAt prog w h' s.heap.objs.size es ep t∧L2.Holds es xs∧
     (∀b o,b<s.heap.objs.size→s.heap.get? b=some o→h'.get? b=some o)) E) PySem.F.called_set.init.plain PySem.F.entry_set_init (check_set_init_1 hT ?_)) fun r2 s2 hr2=>?_
   ·obtain⟨ol,hol,hcl,nl,hdl⟩:=hl
    obtain⟨ocls,odict,odata,oslots⟩:=ol
    simp only at hcl hdl
    subst hcl hdl
    have hol':(s.heap.push (zb5 w)).get? l=some { cls:=.type "list",dict:=odict,data:=.seq items.toArray nl,slots:=oslots }:=Heap.get?_push_of_some _ hol
    have hsls:=PySem.F.sub_list_set
    have hslf:=PySem.F.sub_list_frozenset
    have hne:(Value.type "list"==Value.type "dict")=false:=by decide
    have hl1:(s.heap.push (zb5 w)).IsList l items.toArray:=⟨_,hol',rfl,nl,rfl⟩
    unfold Builtin.«set.__init__» noKeywords Builtin.Frozenset.updateFrom
    generalize hPI:pyIter=PI
    wp_walk
    subst hPI
    refine wpAny_pyIter_list hl1 (wpAny_bind (wpAny_runValue ?_))
    have hlS:l<s.heap.objs.size:=Heap.lt_size hol
    have hh3:A.in1.in1.in1.handled=none:=by simp[hh]
    have hsz:(s.heap.push (zb5 w)).objs.size=s.heap.objs.size+1:=Heap.size_push ..
    have hneI:l≠(s.heap.push (zb5 w)).objs.size:=by rw[hsz];exact Nat.ne_of_lt (Nat.lt_succ_of_lt hlS)
    have hSf:s.heap.objs.size∉[(s.heap.push (zb5 w)).objs.size,l]:=by
     rw[hsz]
     simp only[List.mem_cons,List.not_mem_nil,or_false,not_or]
     exact⟨Nat.ne_of_lt (Nat.lt_succ_self _),Nat.ne_of_gt hlS⟩
    have hxn:xs.length=items.toArray.size:=by
     rw[List.size_toArray]
     clear hol hol' hl1 h hb
     induction hi with
     | nil=>rfl
     | cons _ _ _ ih=>simp[ih]
    have hval:∀(i:Nat) (v:Value),items.toArray[i]?=some v→∃x t,xs[i]?=some x∧v=.str x t:=fun i v hv=>by
     rw[List.getElem?_toArray] at hv
     clear hol hol' hl1 h hb hxn
     induction hi generalizing i with
     | nil=>simp at hv
     | cons x t hr ih=>
      cases i with
      | zero=>simp at hv;exact⟨x,t,rfl,hv.symm⟩
      | succ i=>simp only[List.getElem?_cons_succ] at hv ⊢;exact ih i hv
    refine zkJ ((Walks.list hh3 _ l hneI items.toArray).toS) s.heap.objs.size hSf xs hxn hval (by omega) (items.toArray.size-0) 0 _ #[] 0 _ (by omega) (Nat.zero_le _)
     ⟨⟨_,Heap.get?_push_size _ rfl,rfl,rfl⟩,(hl1.push _)⟩ (znR (Heap.get?_push_of_some _ hS)) ⟨by simp[keysOf],by simp[keysOf],by simp⟩ ?hR
    case hR=>
     intro s' es ep t hm T H
     obtain⟨h',g',d',tk',os'⟩:=s'
     have eg:g'=s.gens:=hm.gens
     have ed:d'=s.drawn:=hm.drawn
     have eo:os'=s.os:=hm.os
     subst eg ed eo
     show wpAny _ _ _ _ _ _
     refine wpAny_pure ?_
     show wpAny _ _ (ret Value.none) _ _ _
     refine wpAny_pure ⟨rfl,h',tk',es,ep,t,rfl,T,H,fun b o hb e=>?_⟩
     refine hm.heap b o ?_ (Heap.get?_push_of_some _ (Heap.get?_push_of_some _ e))
     rw[hsz]
     simp only[List.mem_cons,List.not_mem_nil,or_false,not_or]
     exact⟨Nat.ne_of_lt hb,Nat.ne_of_lt (Nat.lt_succ_of_lt hb)⟩
   ·cases r2 with
    | error e=>exact hr2
    | ok fl2=>
     cases fl2 with
     | ret r=>
      obtain⟨rfl,h',tk,es,ep,t,rfl,T,H,hk'⟩:=hr2
      repeat(any_goals (first | assumption | wp_step))
      exact h _ _ es ep t T H hk'
     | _=>exact hr2.elim
  | _=>exact hr.elim
end
end L2
namespace L2
open PySem PySem.Spec PyProof.Rows
theorem sl_next:Slot "set_iterator" "__next__" "set_iterator.__next__":=
 .of (owner:="set_iterator") (n:="__next__") (by rw[typeLookup_type,builtinLookup_eq_fast];kernel_rfl) (by decide +kernel) (by decide +kernel) (by decide +kernel) (by first | exact .inl (by decide +kernel) | exact .inr (by decide +kernel)) (by rw[isSubtype_type];kernel_rfl)
theorem zkL:Slot "set_iterator" "__iter__" "set_iterator.__iter__":=
 .of (owner:="set_iterator") (n:="__iter__") (by rw[typeLookup_type,builtinLookup_eq_fast];kernel_rfl) (by decide +kernel) (by decide +kernel) (by decide +kernel) (by first | exact .inl (by decide +kernel) | exact .inr (by decide +kernel)) (by rw[isSubtype_type];kernel_rfl)
theorem zkM:entryFor table "set_iterator.__next__"=some Builtin.«set_iterator.__next__»:=entryFor_of_fast (by kernel_rfl)
theorem znS:entryFor table "set_iterator.__iter__"=some Builtin.«dict_keyiterator.__iter__»:=entryFor_alias (id':="dict_keyiterator.__iter__") (by kernel_rfl) rfl (by decide +kernel) (by kernel_rfl)
theorem zme:entryFor table "set.__iter__"=some Builtin.«frozenset.__iter__»:=entryFor_alias (id':="frozenset.__iter__") (by kernel_rfl) rfl (by decide +kernel) (by kernel_rfl)
theorem zkN(a:Value):argsOk "set_iterator.__next__" ⟨[a],[]⟩:=by unfold argsOk;kernel_rfl
theorem znT(a:Value):argsOk "set_iterator.__iter__" ⟨[a],[]⟩:=by unfold argsOk;kernel_rfl
section
variable {prog:Program} {w:World} {A:Around} {E:Value→Shared→Prop} {s:Shared}
theorem zdY{α:Type}:∀{l:List α} {i:Nat} (h:i<l.length),(l[i]::l.eraseIdx i).Perm l
 | a::r,0,_=>.refl _
 | a::r,i+1,h=>by
  simp only[List.getElem_cons_succ,List.eraseIdx_cons_succ]
  exact(List.Perm.swap _ _ _).trans ((zdY (by simpa using h)).cons a)
theorem zjo{M:Model}{src:Source}{n:Nat}{Q:Nat→Shared→Prop}(hn:n≠0)(h:∀i d,i<n→Q i { s with drawn:=d }):wpAny M A (choose src n) Q E s:=fun Γ p _=>by
 show Sem.wp M Γ (.choose src n .pure) _ _ p s
 rw[Sem.wp_choose]
 exact⟨hn,h _ _ (Nat.mod_lt _ (Nat.pos_of_ne_zero hn))⟩
theorem zho{M:Model}{α:Type}:∀(n:Nat) (xs:List α) (s:Shared) (Q:List α→Shared→Prop),xs.length≤n→(∀ys d,ys.Perm xs→Q ys { s with drawn:=d })→wpAny M A (drawOrder n xs) Q E s
 | 0,xs,s,Q,hl,q=>by
  have:xs=[]:=List.eq_nil_of_length_eq_zero (by omega)
  subst this
  unfold drawOrder
  exact wpAny_pure (q [] s.drawn (.refl _))
 | n+1,[],s,Q,hl,q=>by
  unfold drawOrder
  exact wpAny_pure (q [] s.drawn (.refl _))
 | n+1,x::r,s,Q,hl,q=>by
  unfold drawOrder
  refine wpAny_bind (zjo (by simp) fun i d hi=>?_)
  rw[List.getElem?_eq_getElem hi]
  dsimp only
  refine wpAny_bind (zho n _ _ _ (by rw[List.length_eraseIdx];split<;>simp at hl ⊢<;>omega) fun ys d' hp=>wpAny_pure ?_)
  exact q _ d' ((hp.cons _).trans (zdY hi))
theorem zkO{α:Type}(f:Nat→Nat):∀(n k:Nat) (left:List α) (out:Array α),left.length=n→(pickOrder.go f n k left out).toList.Perm (out.toList++left)
 | 0,k,left,out,h=>by
  have:left=[]:=List.eq_nil_of_length_eq_zero h
  subst this
  simp[pickOrder.go]
 | n+1,k,left,out,h=>by
  unfold pickOrder.go
  have hlt:f k%left.length<left.length:=Nat.mod_lt _ (by omega)
  rw[List.getElem?_eq_getElem hlt]
  dsimp only
  refine(zkO f n (k+1) _ _ (by rw[List.length_eraseIdx,if_pos hlt];omega)).trans ?_
  rw[Array.toList_push,List.append_assoc]
  exact(List.Perm.refl _).append (zdY hlt)
theorem zhp{α:Type}(f:Nat→Nat)(xs:Array α):(pickOrder f xs).toList.Perm xs.toList:=by
 have:=zkO f xs.size 0 xs.toList #[] (by simp)
 simpa[pickOrder] using this
noncomputable abbrev zfD(first:Value)(i:Nat)(S:Addr)(n ep:Nat):Obj:={ cls:=.type "set_iterator",data:=.fields #[first,.int i 0,.ref S,.int n 0,.int ep 0] }
theorem zdZ{a:Addr}{es:Array (Int×Value)}{ep:Nat}{t:SetTable}{Q:Array (Int×Value)→Shared→Prop}(S:SetAt prog w s.heap a es ep t)(h:Q es s):wpAny (model prog w) A (setEntries a) Q E s:=by
 unfold setEntries
 exact wpAny_bind (wpAny_setState_of S.at_ rfl S.fits (wpAny_pure h))
theorem ziF{I:Addr}{o:Obj}{vs:Array Value}{Q:Option Value→Shared→Prop}{K:Fin→Shared→Prop}(hh:A.handled=none)(ho:s.heap.get? I=some o)(hd:o.data=.fields vs)(hv:2<vs.size)
  (hQ:∀h',Heap.ExtBut I s.heap h'→Q none { s with heap:=h' }) :
  wpAny (model prog w) A.in1 (do setField (.ref I) 2 .none;raiseNew (←newExc (.type "StopIteration") []):Sem Fin) K (fun e s'=>wpAny (model prog w) A (do if ←isInstance e (.type "StopIteration") then pure none else throw e:Sem (Option Value)) Q E s') s:=by
 refine wpAny_bind (wpAny_setField ho hd hv ?_)
 show wpAny _ _ (newExc (.type "StopIteration") [] >>= _) _ _ _
 refine wpAny_bind ?_
 simp only[newExc,newTuple]
 refine wpAny_bind (wpAny_newObj_type ?_ (by size_fits))
 refine wpAny_bind (m:=firstArgMember _ _) (wpAny_of_eq (a:=Value.none) (by first | rfl | (simp only[firstArgMember];rfl)) ?_)
 refine wpAny_newObj_type ?_ (by size_fits)
 simp only[raiseNew]
 refine wpAny_bind (wpAny_handled ?_)
 rw[show A.in1.handled=none from hh]
 refine wpAny_bind (wpAny_pure (wpAny_throw ?_))
 refine wpAny_bind (wpAny_isInstance (T:="StopIteration") (b:=true) ⟨_,Heap.get?_push_size _ rfl,rfl⟩ isSubtype_stop ?_)
 exact wpAny_pure (hQ _ (((Heap.SameBut.update ..).extBut.push _).push _))
end
end L2
namespace L2
open PySem PySem.Spec PyProof.Rows
section
variable {prog:Program} {w:World} {A:Around} {E:Value→Shared→Prop} {s:Shared}
theorem zeH{I S:Addr}{es:Array (Int×Value)}{ep:Nat}{t:SetTable}{sl i:Nat}{Q:Option Value→Shared→Prop}(hh:A.handled=none)(hI:s.heap.get? I=some (zfD (.int sl 0) i S es.size ep))(T:SetAt prog w s.heap S es ep t)(r:Option (Value×Nat))
  (hN:∀(Q':Option (Value×Nat)→Shared→Prop) (E':Value→Shared→Prop),Q' r s→wpAny (model prog w) A.in1 (setNext S sl i ep) Q' E' s)
  (hs:∀x j,r=some (x,j)→∀h',Heap.SameBut I s.heap h'→h'.get? I=some (zfD (.int j 0) (i+1) S es.size ep)→Q (some x) { s with heap:=h' })
  (hn:r=none→∀h',Heap.ExtBut I s.heap h'→Q none { s with heap:=h' }):wpAny (model prog w) A (pyNext (.ref I)) Q E s:=by
 have hT:s.TypeIs (.ref I) "set_iterator":=⟨_,hI,rfl⟩
 unfold pyNext
 refine wpAny_bind (wpAny_attempt (wpAny_callSpecial?_slot (name:=Str.ofString "__next__") hT sl_next (wpAny_call_entry sl_next hT zkM ?_ (zkN _))))
 show wpAny _ _ (fieldsOf (.ref I) >>= _) _ _ s
 refine wpAny_bind (wpAny_fieldsOf hI rfl ?_)
 dsimp only
 refine wpAny_bind (zdZ T ?_)
 simp only[bne_self_eq_false,Bool.false_eq_true,if_false]
 simp only[Int.toNat_natCast]
 refine wpAny_bind (hN _ _ ?_)
 cases r with
 | none=>exact ziF hh hI rfl (by simp) (hn rfl)
 | some p=>
  obtain⟨x,j⟩:=p
  dsimp only
  refine wpAny_bind (wpAny_setField_rec hI (by simp) fun h1 g1 b1=>?_)
  refine wpAny_bind (wpAny_setField_rec (s:={ s with heap:=h1 }) g1 (by simp) fun h2 g2 b2=>?_)
  refine wpAny_pure ⟨x,rfl,wpAny_pure (hs x j rfl h2 (b1.trans b2) ?_)⟩
  rw[g2]
  simp[rawInt]
theorem ziG{I S Tp:Addr}{es:Array (Int×Value)}{ep:Nat}{t:SetTable}{ps:List Nat}{i:Nat}{Q:Option Value→Shared→Prop}(hh:A.handled=none)(hI:s.heap.get? I=some (zfD (.ref Tp) i S es.size ep))(T:SetAt prog w s.heap S es ep t)
  (hTp:s.heap.get? Tp=some { cls:=.type "tuple",data:=.seq (ps.map fun(p:Nat)=>rawInt p).toArray })
  (hs:∀p e,ps[i]?=some p→es[p]?=some e→∀h',Heap.SameBut I s.heap h'→h'.get? I=some (zfD (.ref Tp) (i+1) S es.size ep)→Q (some e.2) { s with heap:=h' })
  (hin:∀p∈ps,p<es.size) (hn:ps[i]?=none→∀h',Heap.ExtBut I s.heap h'→Q none { s with heap:=h' }):wpAny (model prog w) A (pyNext (.ref I)) Q E s:=by
 have hT:s.TypeIs (.ref I) "set_iterator":=⟨_,hI,rfl⟩
 unfold pyNext
 refine wpAny_bind (wpAny_attempt (wpAny_callSpecial?_slot (name:=Str.ofString "__next__") hT sl_next (wpAny_call_entry sl_next hT zkM ?_ (zkN _))))
 show wpAny _ _ (fieldsOf (.ref I) >>= _) _ _ s
 refine wpAny_bind (wpAny_fieldsOf hI rfl ?_)
 dsimp only
 refine wpAny_bind (zdZ T ?_)
 simp only[bne_self_eq_false,Bool.false_eq_true,if_false]
 refine wpAny_bind (wpAny_seqItems hTp rfl ?_)
 dsimp only
 simp only[Int.toNat_natCast,List.getElem?_toArray,List.getElem?_map]
 cases hp:ps[i]? with
 | none=>
  simp only[Option.map_none]
  refine wpAny_bind (wpAny_setField_rec hI (by simp) fun h1 g1 b1=>?_)
  exact ziF (s:={ s with heap:=h1 }) hh g1 rfl (by simp) fun h' x=>hn hp h' (b1.extBut.trans x)
 | some p=>
  simp only[Option.map_some,rawInt,Int.toNat_natCast]
  have hlt:=hin p (List.mem_of_getElem? hp)
  have he:es[p]?=some es[p]:=by simp[hlt]
  unfold setNextDrawn
  refine wpAny_bind (wpAny_bind (wpAny_setState_of T.at_ rfl T.fits ?_))
  simp only[bne_self_eq_false,Bool.false_eq_true,if_false,he]
  refine wpAny_pure ?_
  refine wpAny_bind (wpAny_setField_rec hI (by simp) fun h1 g1 b1=>?_)
  refine wpAny_pure ⟨_,rfl,wpAny_pure (hs p es[p] hp he h1 b1 ?_)⟩
  rw[g1]
  simp
theorem zhq{S:Addr}{es:Array (Int×Value)}{ep:Nat}{t:SetTable}(T:SetAt prog w s.heap S es ep t)(sl i:Nat)(hf:w.params.followText "set-order"=true)(Q:Option (Value×Nat)→Shared→Prop)
  (q:Q (((pickOrder (w.params.setOrder S ep) es)[i]?).map fun e=>(e.2,sl)) s):wpAny (model prog w) A (setNext S sl i ep) Q E s:=by
 unfold setNext
 refine wpAny_bind (wpAny_setState_of T.at_ rfl T.fits ?_)
 dsimp only
 unfold setsByText
 refine wpAny_bind (wpAny_bind (wpAny_askSetting (wpAny_pure ?_)))
 rw[show(model prog w).w.params.followText "set-order"=true from hf]
 simp only[bne_self_eq_false,Bool.false_eq_true,if_false,if_true]
 unfold setWalk
 refine wpAny_bind (wpAny_bind (wpAny_setState_of T.at_ rfl T.fits ?_))
 dsimp only
 unfold setsByText
 refine wpAny_bind (wpAny_bind (wpAny_askSetting (wpAny_pure ?_)))
 rw[show(model prog w).w.params.followText "set-order"=true from hf]
 simp only[if_true]
 exact wpAny_bind (wpAny_askSetting (wpAny_pure (wpAny_pure q)))
theorem zf4{S:Addr}{es:Array (Int×Value)}{ep:Nat}{t:SetTable}(T:SetAt prog w s.heap S es ep t)(sl i:Nat)(hf:w.params.followText "set-order"=false)(h1:es.size≤1)(Q:Option (Value×Nat)→Shared→Prop)
  (q:Q (match es[SetTable.below t.place sl]?,t.place[SetTable.below t.place sl]? with | some (_,x),some j=>some (x,j+1) | _,_=>none) s):wpAny (model prog w) A (setNext S sl i ep) Q E s:=by
 unfold setNext
 refine wpAny_bind (wpAny_setState_of T.at_ rfl T.fits ?_)
 dsimp only
 unfold setsByText
 refine wpAny_bind (wpAny_bind (wpAny_askSetting (wpAny_pure ?_)))
 rw[show(model prog w).w.params.followText "set-order"=false from hf]
 simp only[Bool.false_eq_true,if_false]
 have hl:t.led=true:=by rw[T.marks.led,hf];rfl
 have hd:(!t.plain&&decide (es.size>1))=false:=by
  rw[decide_eq_false (by omega)];simp
 refine wpAny_ite_split (fun h=>absurd (show(!t.plain&&decide (es.size>1))=true from h) (by rw[hd];simp)) fun _=>?_
 refine wpAny_bind ?_
 show wpAny _ _ (ite ((!t.led&&!es.isEmpty)=true) _ _) _ _ _
 rw[hl]
 simp only[Bool.not_true,Bool.false_and,Bool.false_eq_true,if_false]
 exact wpAny_pure (wpAny_pure q)
theorem zgt{I S:Addr}{h h':Heap}{es:Array (Int×Value)}{ep:Nat}{t:SetTable}(T:SetAt prog w h S es ep t)(hne:S≠I)(b:Heap.SameBut I h h'):SetAt prog w h' S es ep t:=T.kept fun o e=>by rw[b.2 S hne];exact e
noncomputable abbrev AtV(vals:List Value):Nat→Value→Prop:=fun i v=>vals[i]?=some v
theorem zh2{I S:Addr}{first:Value}{i n ep:Nat}{Q:Value→Shared→Prop}(hI:s.heap.get? I=some (zfD first i S n ep))(q:Q (.ref I) s):wpAny (model prog w) A (pyIter (.ref I)) Q E s:=by
 have hT:s.TypeIs (.ref I) "set_iterator":=⟨_,hI,rfl⟩
 refine wpAny_pyIter_slot hT zkL (wpAny_call_entry zkL hT znS ?_ (znT _))
 show wpAny _ _ (ret (.ref I)) _ _ s
 exact wpAny_pure ⟨_,rfl,"set_iterator",_,hT,sl_next.lookup,q⟩
theorem zkP{I S:Addr}{es:Array (Int×Value)}{ep:Nat}{t:SetTable}(hne:S≠I)(hf:w.params.followText "set-order"=true)(hh:A.handled=none) :
  Walks prog w A I [I,S] [I] es.size (AtV ((pickOrder (w.params.setOrder S ep) es).toList.map (·.2))) (fun i h=>h.get? I=some (zfD (.int 0 0) i S es.size ep)∧SetAt prog w h S es ep t):=by
 have hp:=zhp (w.params.setOrder S ep) es
 have hl:(pickOrder (w.params.setOrder S ep) es).size=es.size:=by rw[←Array.length_toList,hp.length_eq,Array.length_toList]
 refine⟨fun b hb=>by simp at hb;simp[hb],fun i h h' st k=>⟨k I (by simp) _ st.1,st.2.kept (k S (by simp))⟩,fun i s Q E hi st q=>?_,fun s Q E st q=>?_,fun i s Q E st q=>zh2 st.1 q⟩
 ·have hi':i<(pickOrder (w.params.setOrder S ep) es).size:=by omega
  refine zeH (sl:=0) hh st.1 st.2 _ (fun Q' E' q'=>zhq st.2 0 i hf Q' q') (fun x j e h' b g=>?_) (fun e=>?_)
  ·rw[Array.getElem?_eq_getElem hi'] at e
   simp only[Option.map_some,Option.some.injEq,Prod.mk.injEq] at e
   obtain⟨rfl,rfl⟩:=e
   exact q _ h' s.toks (by show(List.map _ _)[i]?=_;rw[List.getElem?_map,Array.getElem?_toList,Array.getElem?_eq_getElem hi'];rfl) ⟨g,zgt st.2 hne b⟩ fun c o hc e=>by rw[b.2 c (by simpa using hc)];exact e
  ·rw[Array.getElem?_eq_getElem hi'] at e
   cases e
 ·refine zeH (sl:=0) hh st.1 st.2 _ (fun Q' E' q'=>zhq st.2 0 _ hf Q' q') (fun x j e=>?_) (fun _ h' b=>q h' s.toks fun c o hc e=>b c o (by simpa using hc) e)
  rw[Array.getElem?_eq_none (by omega)] at e
  cases e
theorem zmX(p j:Nat):SetTable.below #[p] j=if p<j then 1 else 0:=by
 unfold SetTable.below
 simp only[List.size_toArray,List.length_cons,List.length_nil,Nat.zero_add]
 unfold SetTable.below.go
 simp
 split<;>unfold SetTable.below.go<;>rfl
theorem zjp{I S:Addr}{es:Array (Int×Value)}{ep:Nat}{t:SetTable}(hne:S≠I)(hf:w.params.followText "set-order"=false)(h1:es.size≤1)(hh:A.handled=none) :
  Walks prog w A I [I,S] [I] es.size (AtV (es.toList.map (·.2))) (fun i h=>∃sl:Nat,h.get? I=some (zfD (.int sl 0) i S es.size ep)∧SetAt prog w h S es ep t∧(i=0→sl=0)∧(1≤i→∃p,t.place=#[p]∧sl=p+1)):=by
 refine⟨fun b hb=>by simp at hb;simp[hb],fun i h h' st k=>?_,fun i s Q E hi st q=>?_,fun s Q E st q=>?_,fun i s Q E st q=>?_⟩
 ·obtain⟨sl,a,T,b,c⟩:=st
  exact⟨sl,k I (by simp) _ a,T.kept (k S (by simp)),b,c⟩
 ·obtain⟨sl,a,T,b,c⟩:=st
  have hs1:es.size=1:=by omega
  have hi0:i=0:=by omega
  subst hi0
  have hsl:=b rfl
  subst hsl
  obtain⟨e,rfl⟩:∃e,es=#[e]:=by
   obtain⟨l⟩:=es
   match l,hs1 with
   | [e],_=>exact⟨e,rfl⟩
  obtain⟨p,hp⟩:∃p,t.place=#[p]:=by
   have hfit:=T.fits
   simp only[SetTable.fits,Bool.and_eq_true,beq_iff_eq] at hfit
   have hps:t.place.size=1:=hfit.1
   generalize t.place=pl at hps ⊢
   obtain⟨l⟩:=pl
   match l,hps with
   | [p],_=>exact⟨p,rfl⟩
  refine zeH hh a T (some (e.2,p+1)) (fun Q' E' q'=>zf4 T _ _ hf h1 Q' ?_) (fun x j ej h' bb g=>?_) (fun z=>nomatch z)
  ·rw[hp,zmX,if_neg (Nat.not_lt_zero _)]
   exact q'
  ·cases ej
   exact q _ h' s.toks rfl ⟨p+1,g,zgt T hne bb,fun z=>by omega,fun _=>⟨p,hp,rfl⟩⟩ fun c o hc e=>by rw[bb.2 c (by simpa using hc)];exact e
 ·obtain⟨sl,a,T,b,c⟩:=st
  refine zeH hh a T none (fun Q' E' q'=>zf4 T _ _ hf h1 Q' ?_) (fun x j e=>nomatch e) (fun _ h' b=>q h' s.toks fun c o hc e=>b c o (by simpa using hc) e)
  have he:es[SetTable.below t.place sl]?=none:=by
   by_cases h0:es.size=0
   ·exact Array.getElem?_eq_none (by omega)
   ·obtain⟨p,hp,hsl⟩:=c (by omega)
    rw[hp,hsl,zmX,if_pos (Nat.lt_succ_self _)]
    exact Array.getElem?_eq_none (by omega)
  rw[he]
  exact q'
 ·obtain⟨sl,a,T,b,c⟩:=st
  exact zh2 a q
theorem zjq{I S Tp:Addr}{es:Array (Int×Value)}{ep:Nat}{t:SetTable}{ps:List Nat}(hne:S≠I)(hne2:Tp≠I)(hp:ps.Perm (List.range es.size))(hh:A.handled=none) :
  Walks prog w A I [I,Tp,S] [I] es.size (AtV (ps.map fun p=>(es.getD p (0,.none)).2)) (fun i h=>h.get? I=some (zfD (.ref Tp) i S es.size ep)∧SetAt prog w h S es ep t∧h.get? Tp=some { cls:=.type "tuple",data:=.seq (ps.map fun(p:Nat)=>rawInt p).toArray }):=by
 have hin:∀p∈ps,p<es.size:=fun p h=>List.mem_range.mp (hp.mem_iff.mp h)
 have hl:ps.length=es.size:=by rw[hp.length_eq,List.length_range]
 refine⟨fun b hb=>by simp at hb;simp[hb],fun i h h' st k=>⟨k I (by simp) _ st.1,st.2.1.kept (k S (by simp)),k Tp (by simp) _ st.2.2⟩,fun i s Q E hi st q=>?_,fun s Q E st q=>?_,fun i s Q E st q=>zh2 st.1 q⟩
 ·have hi':i<ps.length:=by omega
  refine ziG hh st.1 st.2.1 st.2.2 (fun p e h1 h2 h' b g=>?_) hin (fun z=>by rw[List.getElem?_eq_getElem hi'] at z;cases z)
  refine q _ h' s.toks ?_ ⟨g,zgt st.2.1 hne b,by rw[b.2 Tp hne2];exact st.2.2⟩ fun c o hc e=>by rw[b.2 c (by simpa using hc)];exact e
  show(List.map _ _)[i]?=_
  rw[List.getElem?_map,h1]
  simp[h2]
 ·refine ziG hh st.1 st.2.1 st.2.2 (fun p e h1=>?_) hin (fun _ h' b=>q h' s.toks fun c o hc e=>b c o (by simpa using hc) e)
  rw[List.getElem?_eq_none (by omega)] at h1
  cases h1
end
end L2
namespace L2
open PySem PySem.Spec PyProof.Rows
section
variable {prog:Program} {w:World} {A:Around} {E:Value→Shared→Prop} {s:Shared}
structure Laid (prog:Program) (w:World) (h:Heap) (a:Addr) (es:Array (Int×Value)) (I:Addr) (h':Heap):Prop where
 ex:∃(fp:List Addr) (vals:List Value) (St:Nat→Heap→Prop),vals.Perm (es.toList.map (·.2))∧(∀A:Around,A.handled=none→Walks prog w A I fp [I] es.size (AtV vals) St)∧St 0 h'∧∀b∈fp,b=a∨h.objs.size≤b
 old:∀b o,h.get? b=some o→h'.get? b=some o
 new:h.objs.size≤I
 type:∃o,h'.get? I=some o∧o.cls=.type "set_iterator"
theorem zkQ{es:Array (Int×Value)}{ps:List Nat}(hp:ps.Perm (List.range es.size)):(ps.map fun p=>(es.getD p (0,.none)).2).Perm (es.toList.map (·.2)):=by
 refine(hp.map _).trans ?_
 have e:(List.range es.size).map (fun p=>(es.getD p (0,.none)).2)=es.toList.map (·.2):=by
  apply List.ext_getElem
  ·simp
  ·intro i h1 h2
   have hi:i<es.size:=by simpa using h1
   simp[Array.getD,hi]
 rw[e]
theorem zmf{a:Addr}{es:Array (Int×Value)}{ep:Nat}{t:SetTable}{Q:Value→Shared→Prop}(T:SetAt prog w s.heap a es ep t)
  (q:∀(I:Addr) (h':Heap) (d:Drawn),Laid prog w s.heap a es I h'→Q (.ref I) { s with heap:=h',drawn:=d }):wpAny (model prog w) A (pyIter (.ref a)) Q E s:=by
 have hT:s.TypeIs (.ref a) "set":=⟨_,T.at_,rfl⟩
 have hlt:a<s.heap.objs.size:=Heap.lt_size T.at_
 refine wpAny_pyIter_slot hT PySem.F.slot_set_iter (wpAny_call_entry PySem.F.slot_set_iter hT zme ?_ (PySem.F.args_set_iter_1 _))
 show wpAny _ _ (Builtin.Frozenset.sizeOf a >>= _) _ _ s
 unfold Builtin.Frozenset.sizeOf
 refine wpAny_bind (wpAny_bind (zdZ T (wpAny_pure ?_)))
 unfold setDrawn
 refine wpAny_bind (wpAny_bind (wpAny_setState_of T.at_ rfl T.fits ?_))
 dsimp only
 unfold setsByText
 refine wpAny_bind (wpAny_bind (wpAny_askSetting (wpAny_pure ?_)))
 refine wpAny_pure ?_
 have here:∀(first:Value) (s1:Shared) (Q1:Fin→Shared→Prop) (T1:SetAt prog w s1.heap a es ep t),(∀o,o=zfD first 0 a es.size ep→Q1 (.done (.ret (.ref s1.heap.objs.size))) { s1 with heap:=s1.heap.push o })→wpAny (model prog w) A.in1 (do
   let e ←setEpoch a
   let v ←newFields "set_iterator" [first,rawInt 0,Value.ref a,rawInt es.size,rawInt e]
   ret v) Q1 E s1:=by
  intro first s1 Q1 T1 q1
  refine wpAny_bind (wpAny_setEpoch_of T1.at_ rfl T1.fits ?_)
  refine wpAny_bind (wpAny_newObj_type (wpAny_pure (q1 _ rfl)) (by size_fits))
 refine wpAny_ite_split (fun hc=>?_) fun hc=>?_
 ·refine wpAny_bind (zho es.size _ _ _ (by simp) fun ps d hp=>?_)
  have hps:ps.length≤sizeLine:=by rw[hp.length_eq,List.length_range];exact fits_of_scanBound T.small
  refine wpAny_bind (wpAny_newTuple ?_ (by rw[List.length_map];exact hps))
  have T1:SetAt prog w (s.heap.push { cls:=.type "tuple",data:=.seq (ps.map fun(p:Nat)=>rawInt p).toArray }) a es ep t:=T.kept fun o e=>Heap.get?_push_of_some _ e
  refine here _ _ _ T1 fun o ho=>?_
  subst ho
  refine⟨_,rfl,"set_iterator",_,⟨_,Heap.get?_push_size _ rfl,rfl⟩,sl_next.lookup,?_⟩
  have hsz:(s.heap.push { cls:=.type "tuple",data:=.seq (ps.map fun(p:Nat)=>rawInt p).toArray }).objs.size=s.heap.objs.size+1:=Heap.size_push ..
  refine q _ _ d ⟨⟨[_,s.heap.objs.size,a],_,_,zkQ hp,fun A hh=>zjq (t:=t) (by rw[hsz];exact Nat.ne_of_lt (Nat.lt_succ_of_lt hlt)) (by rw[hsz];exact Nat.ne_of_lt (Nat.lt_succ_self _)) hp hh,
   ⟨Heap.get?_push_size _ rfl,T1.kept fun o e=>Heap.get?_push_of_some _ e,Heap.get?_push_of_some _ (Heap.get?_push_size _ rfl)⟩,fun b hb=>?_⟩,fun b o e=>Heap.get?_push_of_some _ (Heap.get?_push_of_some _ e),by rw[hsz];exact Nat.le_succ _,⟨_,Heap.get?_push_size _ rfl,rfl⟩⟩
  simp only[List.mem_cons,List.not_mem_nil,or_false] at hb
  rcases hb with rfl | rfl | rfl
  ·right;rw[hsz];exact Nat.le_succ _
  ·right;exact Nat.le_refl _
  ·left;rfl
 ·refine wpAny_bind (wpAny_pure ?_)
  refine here _ _ _ T fun o ho=>?_
  subst ho
  refine⟨_,rfl,"set_iterator",_,⟨_,Heap.get?_push_size _ rfl,rfl⟩,sl_next.lookup,?_⟩
  have fpx:∀b∈[s.heap.objs.size,a],b=a∨s.heap.objs.size≤b:=fun b hb=>by
   simp only[List.mem_cons,List.not_mem_nil,or_false] at hb
   rcases hb with rfl | rfl
   ·right;exact Nat.le_refl _
   ·left;rfl
  have hne:a≠s.heap.objs.size:=Nat.ne_of_lt hlt
  have T1:SetAt prog w (s.heap.push (zfD (rawInt 0) 0 a es.size ep)) a es ep t:=T.kept fun o e=>Heap.get?_push_of_some _ e
  cases hf:w.params.followText "set-order" with
  | true=>
   exact q _ _ s.drawn ⟨⟨_,_,_,(zhp (w.params.setOrder a ep) es).map _,fun A hh=>zkP (t:=t) hne hf hh,⟨Heap.get?_push_size _ rfl,T1⟩,fpx⟩,fun b o e=>Heap.get?_push_of_some _ e,Nat.le_refl _,⟨_,Heap.get?_push_size _ rfl,rfl⟩⟩
  | false=>
   have hc2:¬((!t.plain&&decide (es.size>1))=true):=fun z=>hc (by
    show(!(w.params.followText "set-order")&&(!t.plain&&decide (es.size>1)))=true
    rw[hf,z];rfl)
   have h1:es.size≤1:=by
    rcases T.marks.plain with h | h
    ·omega
    ·rw[h] at hc2
     simp at hc2
     exact hc2
   exact q _ _ s.drawn ⟨⟨_,_,_,.refl _,fun A hh=>zjp (t:=t) hne hf h1 hh,⟨0,Heap.get?_push_size _ rfl,T1,fun _=>rfl,fun z=>by omega⟩,fpx⟩,fun b o e=>Heap.get?_push_of_some _ e,Nat.le_refl _,⟨_,Heap.get?_push_size _ rfl,rfl⟩⟩
theorem zmg{a:Addr}{Q:Bool→Shared→Prop}(hT:s.TypeIs (.ref a) "set")(h:Q false s):wpAny (model prog w) A (Builtin.List.listLengthHint (.ref a)) Q E s:=by
 unfold Builtin.List.listLengthHint
 refine wpAny_bind (wpAny_specialOf hT PySem.F.slot_set_len.lookup ?_)
 generalize hid:("set.__len__":String)=id0
 wp_delta
 rw[show splitId id0=some ("set","__len__") from by subst hid;decide +kernel]
 subst hid
 refine wpAny_bind (wpAny_isInstance (T:="set") (b:=true) hT (by rw[isSubtype_type];kernel_rfl) ?_)
 refine wpAny_ite_split (fun hab=>absurd hab (by decide)) (fun _=>wpAny_ite_split (fun _=>?_) (fun hab=>absurd (by decide +kernel) hab))
 exact wpAny_bind (wpAny_typeOf hT (wpAny_pure h))
theorem zjr{R:Result→Shared→Prop}{a:Addr}{es:Array (Int×Value)}{ep:Nat}{t:SetTable}(T:SetAt prog w s.heap a es ep t)(hh:A.handled=none)(S:Addr)(hSa:S≠a)(res:Value)(c0:Nat)(hS:s.heap.get? S=some { cls:=.type "list",data:=.seq #[] c0 })
  (hR:∀h' d tk (acc:Array Value) c',(∀b o,b≠S→s.heap.get? b=some o→h'.get? b=some o)→h'.get? S=some { cls:=.type "list",dict:=none,data:=.seq acc c',slots:=#[] }→acc.toList.Perm (es.toList.map (·.2))→R (.ok (.ret res)) { s with heap:=h',drawn:=d,toks:=tk }) :
  wpAny (model prog w) A.in1 (Builtin.List.listExtendWith (.ref S) (.ref a) res) (fun fin s'=>match fin with | .done f=>R (.ok f) s' | .again c'=>c'.quiet=true∧codeAny (model prog w) A c' R s') (fun e s'=>R (.error e) s') s:=by
 have hT:s.TypeIs (.ref a) "set":=⟨_,T.at_,rfl⟩
 have hSl:S<s.heap.objs.size:=Heap.lt_size hS
 unfold Builtin.List.listExtendWith
 refine wpAny_bind (wpAny_typeOf (T:="set") hT ?_)
 have h1:Builtin.List.listSameRef (.ref S) (.ref a)=false:=by simp[Builtin.List.listSameRef,hSa]
 have h2:(Value.type "set"==Value.type "list")=false:=by decide
 have h3:(Value.type "set"==Value.type "tuple")=false:=by decide
 simp only[h1,h2,h3,Bool.or_false,Bool.false_eq_true,if_false]
 refine wpAny_bind (zmf T fun I h0 d L=>?_)
 obtain⟨fp,vals,St,hv,W,st,hfp⟩:=L.ex
 have hSf:S∉fp:=fun z=>by
  rcases hfp S z with e | e
  ·exact hSa e
  ·exact Nat.lt_irrefl _ (Nat.lt_of_lt_of_le hSl e)
 have hSI:S≠I:=fun z=>Nat.lt_irrefl _ (Nat.lt_of_lt_of_le hSl (z▸L.new))
 have go:∀(h:Heap) (c1 tk:Nat),St 0 h→(∀b o,b≠S→s.heap.get? b=some o→h.get? b=some o)→h.get? S=some { cls:=.type "list",data:=.seq #[] c1 }→
   codeAny (model prog w) A (.builtin "list.extend.loop" ⟨[.ref S,.ref I,res],[]⟩) R { s with heap:=h,drawn:=d,toks:=tk }:=by
  intro h c1 tk hst hk hS1
  refine codeAny_extend_loopS (W A.in1 hh).toS (fits_of_scanBound T.small) S hSf res es.size 0 _ #[] c1 rfl (Nat.zero_le _) hst hS1 (ItemsOf.nil _) fun s' acc' c' hm hS' hacc=>?_
  rw[Moved.eq_with hm]
  refine hR s'.heap d s'.toks acc' c' (fun b o hb e=>hm.heap b o (fun hmem=>?_) (hk b o hb e)) hS' ?_
  ·rcases List.mem_cons.mp hmem with e' | hmem
   ·exact hb e'
   ·exact absurd (Heap.lt_size e) (by rw[List.mem_singleton.mp hmem];exact Nat.not_lt.mpr L.new)
  ·have e:acc'.toList=vals:=by
    apply List.ext_getElem?
    intro j
    by_cases hj:j<acc'.size
    ·have:=hacc.2 j acc'[j] (by simp[hj])
     rw[this]
     simp[hj]
    ·have hvl:vals.length=es.size:=by rw[hv.length_eq];simp
     have:=hacc.1
     rw[List.getElem?_eq_none (by simp;omega),List.getElem?_eq_none (by omega)]
   rw[e]
   exact hv
 have hS0:=L.old _ _ hS
 refine wpAny_bind (wpAny_holding (zmg (s:={ s with heap:=h0,drawn:=d }) ⟨_,L.old _ _ T.at_,rfl⟩ ?_))
 refine wpAny_ite_split (fun _=>?_) (fun _=>wpAny_pure ⟨plainId_quiet PySem.F.plain_extend_loop _,go _ c0 _ st (fun b o _ e=>L.old b o e) hS0⟩)
 refine wpAny_bind (wpAny_rule (wpAny_bind ?_))
 show wpAny _ _ (updateSeq S (·.push .none) >>= fun _=>updateSeq S (·.pop)) _ _ _
 refine wpAny_bind (wpAny_updateSeq hS0 rfl ?_)
 have hS2:=Heap.get?_update_self (Obj.mapSeq (·.push Value.none)) hS0 rfl
 refine wpAny_updateSeq (hz:=by seq_fits) hS2 rfl ?_
 have hS3:=Heap.get?_update_self (Obj.mapSeq (·.pop)) hS2 rfl
 refine wpAny_pure ⟨plainId_quiet PySem.F.plain_extend_loop _,go _ _ _ ?_ (fun b o hb e=>?_) hS3⟩
 ·refine(W A.in1 hh).frame 0 _ _ st fun b hb o e=>?_
  have hbS:b≠S:=fun h=>hSf (h▸hb)
  exact(Heap.get?_update_other _ _ (Ne.symm hbS)).trans ((Heap.get?_update_other _ _ (Ne.symm hbS)).trans e)
 ·exact(Heap.get?_update_other _ _ (Ne.symm hb)).trans ((Heap.get?_update_other _ _ (Ne.symm hb)).trans (L.old _ _ e))
end
end L2
namespace L2
open PySem PySem.Spec PyProof.Rows
section
variable {prog:Program} {w:World} {A:Around} {E:Value→Shared→Prop} {s:Shared}
theorem zh3{R:List Value→Shared→Prop}{a:Addr}{es:Array (Int×Value)}{ep:Nat}{t:SetTable}(T:SetAt prog w s.heap a es ep t)(hh:A.handled=none)
  (h:∀(h':Heap) (d:Drawn) (tk:Nat) (vs:List Value),s.heap.objs.size<h'.objs.size→(∀b o,s.heap.get? b=some o→h'.get? b=some o)→vs.Perm (es.toList.map (·.2))→R vs { s with heap:=h',drawn:=d,toks:=tk }):wpAny (model prog w) A (collect (.ref a)) R E s:=by
 have hlt:a<s.heap.objs.size:=Heap.lt_size T.at_
 unfold collect
 refine wpAny_bind (wpAny_runValue (codeAny_builtin entry_proto_collect' ?_))
 rw[Around.under_plainId PySem.F.plain_proto_collect _]
 show wpAny _ A.in1 (newList [] >>= fun l=>again (.builtin "list.__iadd__" ⟨[l,.ref a],[]⟩)) _ _ s
 refine wpAny_bind (wpAny_newObj_type (wpAny_pure ⟨plainId_quiet PySem.F.plain_list_iadd _,codeAny_builtin entry_list_iadd' ?_⟩))
 rw[Around.under_plainId PySem.F.plain_list_iadd _]
 have hS1:(s.heap.push { cls:=.type "list",data:=.seq ([]:List Value).toArray }).get? s.heap.objs.size=some { cls:=.type "list",data:=.seq #[] }:=Heap.get?_push_size _ rfl
 show wpAny _ A.in1 (Builtin.List.listExtendWith (.ref s.heap.objs.size) (.ref a) (.ref s.heap.objs.size)) _ _ _
 have key:=zjr (A:=A) (s:={ s with heap:=s.heap.push { cls:=.type "list",data:=.seq ([]:List Value).toArray } })
  (R:=fun(q:Result) (s':Shared)=>∃(h':Heap) (d:Drawn) (tk:Nat) (acc:Array Value) (c':Nat),q=.ok (.ret (.ref s.heap.objs.size))∧s'={ s with heap:=h',drawn:=d,toks:=tk }∧
   (∀b o,s.heap.get? b=some o→h'.get? b=some o)∧h'.get? s.heap.objs.size=some { cls:=.type "list",dict:=none,data:=.seq acc c',slots:=#[] }∧acc.toList.Perm (es.toList.map (·.2)))
  (T.kept fun o e=>Heap.get?_push_of_some _ e) hh s.heap.objs.size (Nat.ne_of_gt hlt) (.ref s.heap.objs.size) 0 hS1
  (fun h' d tk acc c' hk hS' hacc=>⟨h',d,tk,acc,c',rfl,rfl,fun b o e=>hk b o (Nat.ne_of_lt (Heap.lt_size e)) (Heap.get?_push_of_some _ e),hS',hacc⟩)
 refine wpAny_mono key (fun fin s' x=>?_) fun e s' x=>?_
 ·cases fin with
  | done f=>
   obtain⟨h',d,tk,acc,c',e,rfl,hk,hS',hacc⟩:=x
   cases e
   show wpAny _ A (load s.heap.objs.size >>= _) _ _ _
   exact wpAny_bind (wpAny_load hS' (wpAny_pure (h h' d tk acc.toList (Heap.lt_size hS') hk hacc)))
  | again c1=>
   refine⟨x.1,codeAny_mono x.2 fun q s2 y=>?_⟩
   obtain⟨h',d,tk,acc,c',rfl,rfl,hk,hS',hacc⟩:=y
   show wpAny _ A (load s.heap.objs.size >>= _) _ _ _
   exact wpAny_bind (wpAny_load hS' (wpAny_pure (h h' d tk acc.toList (Heap.lt_size hS') hk hacc)))
 ·obtain⟨_,_,_,_,_,e',_⟩:=x
  cases e'
theorem zhr:∀{vs:List Value},(∀v∈vs,∃x t,v=.str x t)→StrsAre vs (vs.map strOf)
 | [],_=>.nil
 | v::r,h=>by
  obtain⟨x,t,rfl⟩:=h v (by simp)
  exact .cons x t (zhr fun u hu=>h u (by simp[hu]))
theorem zjs{a:Addr}{es:Array (Int×Value)}{ep:Nat}{t:SetTable}{Q:Value→Shared→Prop}(T:SetAt prog w s.heap a es ep t)(hh:A.handled=none)(h64:es.size<64)
  (h:∀(p:Addr) (h':Heap) (d:Drawn) (tk:Nat) (out:Array Value) (e:Nat) (ss:List Str),s.heap.objs.size≤p→(∀b o,s.heap.get? b=some o→h'.get? b=some o)→h'.get? p=some (seqObj "list" out e)→StrsAre out.toList ss→ss.Perm (keysOf es)→sortedS ss=true→Q (.ref p) { s with heap:=h',drawn:=d,toks:=tk }) :
  wpAny (model prog w) A (call (.builtin "sorted") [.ref a]) Q E s:=by
 refine Calls.call_function_entry kind_sorted plain_sorted entry_sorted (args_sorted1 _) ?_
 unfold Builtin.«sorted»
 refine wpAny_bind (m:=checkCount "sorted" 1 1 _) (wpAny_pure (wpAny_bind (zh3 (A:=A.in1) T hh fun h' d tk vs hlt hk hp=>?_)))
 have hvl:vs.length=es.size:=by rw[hp.length_eq];simp
 have hvs:∀v∈vs,∃x t,v=.str x t:=fun v hv=>by
  obtain⟨e,he,rfl⟩:=List.mem_map.mp (hp.mem_iff.mp hv)
  obtain⟨⟨k,hk,_⟩,_⟩:=T.el e he
  obtain⟨t,ht⟩:=Value.isStrOf_shape hk
  exact⟨k,t,ht⟩
 have hS:=zhr hvs
 refine wpAny_bind (wpAny_newList ?_ (by rw[hvl];exact fits_of_scanBound T.small))
 have hoL:(h'.push (seqObj "list" vs.toArray 0)).get? h'.objs.size=some (seqObj "list" vs.toArray 0):=Heap.get?_push_size _ rfl
 refine wpAny_bind (wpAny_holding (wpAny_call_entry slot_list_sort ⟨_,hoL,rfl⟩ entry_list_sort (list_sort_treeK (s:={ s with heap:=h'.push (seqObj "list" vs.toArray 0),drawn:=d,toks:=tk }) strKind_oneLt hoL hS.keysOf (fun v1 v2 zes e=>keyKind_strs (by rw[←e];exact hS)) (by omega) fun st' a1 a2=>⟨_,rfl,?_⟩) (args_list_sort _)))
 obtain⟨ss',b1,b2,b3⟩:=sorted_out_str hS a1 a2
 obtain⟨en,hen⟩:=sortedHeap_at (out:=(arrOf st').map (·.2)) hoL
 have hle:s.heap.objs.size≤h'.objs.size:=Nat.le_of_lt hlt
 refine wpAny_pure ⟨_,rfl,h _ _ d tk _ en ss' hle (fun b o e=>?_) hen b1 (b2.trans ?_) b3⟩
 ·have e1:=hk b o e
  have hb:b<h'.objs.size:=Heap.lt_size e1
  rw[sortedHeap_old (Nat.ne_of_lt hb) (by rw[size_push'];exact Nat.lt_succ_of_lt hb)]
  exact Heap.get?_push_of_some _ e1
 ·have:=hp.map strOf
  rw[List.map_map] at this
  exact this
theorem Inv.draw{X:Cx}{pins:List (Addr×Obj)}{σ:St}{H:Hp}{s:Shared}(I:Inv X pins σ H s)(d:Drawn):Inv X pins σ H { s with drawn:=d }:=
 ⟨I.ok,I.os,I.bare,I.base,I.loc,I.cell,I.free,I.freeC,I.pin,I.hok,I.len⟩
end
section
variable {X:Cx} {pos:Pos} {e:Expr} {te:TD} {ts:TDa} {t:TA}
noncomputable def zmh(K:PySem.W.Frag)(t:TA):TE:=fun σ H Q=>t σ H fun vs H1=>∃(p:Addr) (ss:List Str),vs=[.ref p]∧SqL K H1 p (ss.map V.str)∧ss.length<4000∧(∀l:List Str,l.Nodup→(∀x∈l,x∈ss)→l.length<64)∧
 ∀l:List Str,l.Nodup→(∀x,x∈l↔x∈ss)→sortedS l=true→∀q,H1 q=none→Q (.ref q) (upd H1 q (.lst (l.map V.str)))
theorem zjt{p1 p2 pos2:Pos}(hc:X.calm=true)(hm1:X.mg "sorted"=none)(hm2:X.mg "set"=none)(ha:PA X [e] t)(hg1:Gl X "sorted":=by rfl)(hg2:Gl X "set":=by rfl)
  (he:starEach [e] X.env=(false,eval e X.env)::starEach [] X.env:=by rfl) (he2:starEach [.Call (.Name "set" p2) [e] [] pos2] X.env=(false,eval (.Call (.Name "set" p2) [e] [] pos2) X.env)::starEach [] X.env:=by rfl) :
  PE X (.Call (.Name "sorted" p1) [.Call (.Name "set" p2) [e] [] pos2] [] pos) (zmh X.K t):=by
 intro pins s σ H Q I h
 refine wpAny_Call_Name_kw (zc6 I hg1 hm1 boot_sorted ?_ (by decide) (by decide))
 refine PyProof.Rows.callWith_builtin1 ?_ he2 rfl
 rw[he2]
 show wpAny _ _ (spliced ((false,eval (.Call (.Name "set" p2) [e] [] pos2) X.env)::backTo pos (starEach [] X.env))) _ _ s
 refine Calls.spliced_cons ?_
 refine wpAny_Call_Name_kw (zc6 I hg2 hm2 zhl ?_ (by decide) (by decide))
 refine PyProof.Rows.callWith_type1 (thn (ha pos2 pins s σ H _ I h) fun us s1 ⟨vs,H1,I1,r1,q1⟩=>?_) he rfl
 obtain⟨p,ss,rfl,hq,hn,h64,q⟩:=q1
 obtain⟨u,rfl,ru⟩:=zcN r1
 cases ru
 obtain⟨its,rv,pl,hz⟩:=I1.list hq
 have hS:=zf2 rv
 refine zkK (I1.ok.hd hc) pl.isList hS (by have:scanBound=4096:=rfl
                                           omega) fun h1 tk1 es ep tb T Hd hk1=>?_
 have I2:Inv X pins σ H1 { s1 with heap:=h1,toks:=tk1 }:=I1.kept fun b o e=>hk1 b o (Heap.lt_size e) e
 refine Calls.spliced_nil ?_
 have hsz:es.size<64:=by
  have:=h64 (keysOf es) Hd.nd fun x hx=>(Hd.mem x).mp hx
  simpa[keysOf] using this
 refine zjs (s:={ s1 with heap:=h1,toks:=tk1 }) T (I1.ok.hd hc) hsz fun pp h2 d tk2 out en ss2 hp hk2 hat hss hpm hso=>?_
 have hnd:ss2.Nodup:=hpm.nodup_iff.mpr Hd.nd
 have hl2:ss2.length<64:=by rw[hpm.length_eq];simpa[keysOf] using hsz
 have hf:H1 pp=none:=I2.hok.fresh hp
 refine⟨.ref pp,upd H1 pp (.lst (ss2.map V.str)),?_,rfl,q ss2 hnd (fun x=>by rw[hpm.mem_iff];exact Hd.mem x) hso pp hf⟩
 have I3:=Inv.laid (t':=tk2) (Inv.draw I2 d) (h':=h2) (a:=pp) (o:=.lst (ss2.map V.str)) hk2 hp ?_
 ·exact I3
 ·refine⟨by rw[List.length_map];have:=zgo;omega,out.toList,en,zeY hss,?_⟩
  rw[Array.toArray_toList]
  exact hat
theorem zhs{p1 p2 pos2:Pos}(hc:X.calm=true)(hm1:X.mg "sorted"=none)(hm2:X.mg "set"=none)(ha:PDa X [e] ts)(hg1:Gl X "sorted":=by rfl)(hg2:Gl X "set":=by rfl)
  (he:starEach [e] X.env=(false,eval e X.env)::starEach [] X.env:=by rfl) (he2:starEach [.Call (.Name "set" p2) [e] [] pos2] X.env=(false,eval (.Call (.Name "set" p2) [e] [] pos2) X.env)::starEach [] X.env:=by rfl) :
  PD X (.Call (.Name "sorted" p1) [.Call (.Name "set" p2) [e] [] pos2] [] pos) (dCB zc2 ts):=by
 obtain⟨t,pp,q⟩:=ha
 refine⟨_,zjt hc hm1 hm2 pp hg1 hg2 he he2,fun ρ σ G0 H0 G H Q P E h k=>q ρ σ G0 H0 G H _ _ E h fun vs H' ds G' x rs hq=>?_⟩
 unfold zc2 at hq
 split at hq
 ·split at hq
  ·rename_i es ss hs
   obtain⟨v,rfl,rv⟩:=zcr rs
   simp only[Rep] at rv
   obtain⟨a,xs,rfl,h1,h2⟩:=rv
   rw[zdW hs] at h2
   rw[zgp h2] at h1
   refine⟨a,ss,rfl,(x.s.rdl h1).sq,hq.1,hq.2.1,fun l nd hm so=>?_⟩
   exact zda x.s (zhj l) (hq.2.2 l nd hm so) fun v H2 r G2 x2 rr qq=>k v H2 r G2 (x.trans x2) (rr.older x.h) qq
  ·exact hq.elim
 ·exact hq.elim
end
end L2
namespace L2
open PySem PySem.Spec PyProof.Rows
section
variable {X:Cx} {pos:Pos} {e i':Expr} {te ti:TD}
noncomputable def zqD(i:Nat):TX:=fun D ρ=>match gt ρ i with
 | .ow _=>D.nx (ρ.set i (.ow []))
 | _=>False
noncomputable def zof(i:Nat)(te:TD):TX:=fun D ρ=>match gt ρ i with
 | .ow ds=>te ρ fun r=>match r with
  | .ow es=>ds.length+es.length≤sizeLine∧D.nx (ρ.set i (.ow (ds++es)))
  | _=>False
 | _=>False
theorem zkR(i:Nat){x:Str}{p1 p2 pos':Pos}(he:PD X e te)(hN:X.N[i]?=some x:=by rfl)(hv:Vis X.env.scope x:=by first | exact Or.inl rfl | exact Or.inr (Or.inl rfl) | exact Or.inr (Or.inr rfl))(hd:(x==("__debug__":Str))=false:=by decide)(hcd:(x==("__classdict__":Str))=false:=by decide)
  (hst:starEach [e] X.env=(false,eval e X.env)::starEach [] X.env:=by rfl)
  (hb:∀{ta:TE} {t:TA},PE X (.Name x p1) ta→PA X [e] t→PE X (.Call (.Attribute (.Name x p1) "extend" p2) [e] [] pos') (tBM X.K "list" zj3 ta t):=by intro ta t h1 h2;exact znu PySem.F.plainAttrs_list PySem.F.slot_list_extend PySem.F.type_list_extend zj4 h1 h2) :
  PX X (.Expr (.Call (.Attribute (.Name x p1) "extend" p2) [e] [] pos') pos) (zof i te):=by
 obtain⟨t,p,q⟩:=he
 refine⟨_,zjP (hb (zfT hN hv hd hcd) (zcg p zeN hst)),fun ρ σ G0 H0 G H D E k h g=>?_⟩
 unfold zof at h
 split at h
 ·rename_i ds hg
  obtain⟨a,xs,h1,h2,h3,h4,h5⟩:=k.ow i ds hg
  refine⟨_,h1,.inl ⟨rfl,xs,SqL.of h2⟩,q ρ σ G0 H0 G H _ _ k h fun v H' r G' x1 rr hq=>?_⟩
  split at hq
  ·rename_i es
   obtain⟨b,zs,rfl,b1,b2,b3,b4⟩:=rr
   have k2:=k.ext x1
   refine⟨a,b,xs,zs,rfl,rfl,x1.h _ _ h2,b3,by rw[h5.length,b4.length];exact hq.1,?_⟩
   exact g.nx _ _ G' _ x1.g (k2.change hg h1 ((h5.mono x1.g).append b4)) hq.2
  ·exact hq.elim
 ·exact h.elim
end
end L2
namespace L2
open PySem PySem.Spec PyProof.Rows
structure M2 (X:Cx) (o:Expr) (m:Str) (apos:Pos) (e f:Expr) (cpos:Pos):Prop where
 base:attributeBase o m X.env (eval o X.env)=eval o X.env
 few:((backTo cpos (starEach [e,f] X.env)).all (fun x=>!x.1)&&(backToKw cpos (keywordEach [] X.env)).all (fun x=>x.1.isSome)
  && decide (([e,f]:List Expr).length+([]:List Keyword).length+(if ([]:List Keyword).isEmpty then 0 else 1)<30))=true
 line:(apos.endLine==cpos.line)=true
 trees:backTo cpos (starEach [e,f] X.env)=[(false,eval e X.env),(false,eval f X.env)]
end L2
namespace PySem
open Sem (wp)
end PySem
namespace PySem
open Sem (wp)
end PySem
namespace PySem
open Sem (wp)
end PySem
namespace L2
open PySem PySem.Spec PyProof.Rows
noncomputable def zqE:D→Option Key
 | .int i=>some (.inl i)
 | .str x=>some (.inr x)
 | _=>none
end L2
namespace L2
open PySem PySem.Spec PyProof.Rows
end L2
namespace L2
open PySem PySem.Spec PyProof.Rows
end L2
namespace L2
open PySem PySem.Spec PyProof.Rows
section
variable {X:Cx} {pos:Pos} {e i':Expr} {te ti:TD}
noncomputable def pairsOf:List D→Option (List (Key×D))
 | []=>some []
 | .tup [k,v]::r=>match zqE k with
  | some key=>(pairsOf r).map ((key,v)::·)
  | none=>none
 | _=>none
end
end L2
namespace L2
open PySem PySem.Spec PyProof.Rows
end L2
namespace HT
open PySem PyProof.Rows
noncomputable def lexGt:List Int→List Int→Bool
 | [],[]=>false
 | [],_::_=>false
 | _::_,[]=>true
 | x::xs,y::ys=>if x=y then lexGt xs ys else decide (y<x)
theorem lexGt_cons(x y:Int)(xs ys:List Int):lexGt (x::xs) (y::ys)=if x=y then lexGt xs ys else decide (y<x):=rfl
end HT
namespace L2
open PySem PySem.Spec PyProof.Rows
end L2
namespace HT
theorem lexGt_irr:∀t:List Int,lexGt t t=false
 | []=>rfl
 | a::t=>by unfold lexGt;simp[lexGt_irr t]
theorem lexGt_as:∀a b:List Int,lexGt a b=true→lexGt b a=false
 | [],[],h=>rfl
 | [],_::_,h=>by unfold lexGt at h;cases h
 | _::_,[],h=>by unfold lexGt;rfl
 | x::xs,y::ys,h=>by
  unfold lexGt at h ⊢
  by_cases e:x=y
  ·subst e;simp only[if_true] at h ⊢;simpa using lexGt_as xs ys (by simpa using h)
  ·have e2:¬y=x:=fun x=>e x.symm
   simp[e,e2] at h ⊢;omega
theorem lexGt_tr:∀a b c:List Int,lexGt a b=false→lexGt b c=false→lexGt a c=false
 | [],[],c,h,h2=>h2
 | [],_::_,[],h,h2=>by unfold lexGt;rfl
 | [],_::_,_::_,h,h2=>by unfold lexGt;rfl
 | _::_,[],_,h,_=>by unfold lexGt at h;cases h
 | x::xs,y::ys,[],h,h2=>by unfold lexGt at h2;cases h2
 | x::xs,y::ys,z::zs,h,h2=>by
  unfold lexGt at h h2 ⊢
  have ih:=lexGt_tr xs ys zs
  by_cases e:x=y
  ·subst e
   by_cases e2:x=z
   ·subst e2;simp at h h2 ⊢;exact ih h h2
   ·simp[e2] at h h2 ⊢;omega
  ·by_cases e2:y=z
   ·subst e2;simp[e] at h h2 ⊢;omega
   ·simp[e,e2] at h h2
    have e3:¬x=z:=by omega
    simp[e3];omega
end HT
namespace L2
open PySem PySem.Spec PyProof.Rows
section
variable {X:Cx} {pos p kp:Pos} {e e2:Expr} {te te2:TD}
noncomputable def zc5:List D→Option (List (List Int))
 | []=>some []
 | .tup es::r=>match zbr es,zc5 r with
  | some a,some b=>some (a::b)
  | _,_=>none
 | _=>none
theorem ziH{K:PySem.W.Frag}{G:Hp}:∀{es:List D} {tss:List (List Int)} {vs:List V},zc5 es=some tss→Reps K G vs es→vs.length=tss.length∧∀(i:Nat) x t,vs[i]?=some x→tss[i]?=some t→Rep K G x (.tup (t.map D.int))∧∃b,x=.ref b∧SqT K G b (t.map V.int)
 | [],tss,[],h,_=>by simp only[zc5,Option.some.injEq] at h;subst h;exact⟨rfl,fun i x t e=>by simp at e⟩
 | .tup es::r,tss,v::vs,h,rs=>by
  simp only[Reps] at rs
  simp only[zc5] at h
  split at h
  ·rename_i a b ha hb
   simp only[Option.some.injEq] at h
   subst h
   obtain⟨h1,h2⟩:=ziH hb rs.2
   refine⟨by simp[h1],fun i x t e1 e2=>?_⟩
   cases i with
   | zero=>
    simp only[List.getElem?_cons_zero,Option.some.injEq] at e1 e2
    subst e1 e2
    have r1:=rs.1
    rw[zbJ ha] at r1
    refine⟨r1,?_⟩
    simp only[Rep] at r1
    obtain⟨p,xs,rfl,q1,q2⟩:=r1
    rw[zcD q2] at q1
    exact⟨p,rfl,q1⟩
   | succ i=>
    simp only[List.getElem?_cons_succ] at e1 e2
    exact h2 i x t e1 e2
  ·cases h
 | [],_,_::_,_,rs=>by simp only[Reps] at rs
 | _::_,_,[],_,rs=>by simp only[Reps] at rs
 | .int _::_,_,_::_,h,_=>by simp[zc5] at h
 | .str _::_,_,_::_,h,_=>by simp[zc5] at h
 | .lst _::_,_,_::_,h,_=>by simp[zc5] at h
 | .non::_,_,_::_,h,_=>by simp[zc5] at h
 | .bl _::_,_,_::_,h,_=>by simp[zc5] at h
 | .obj _ _::_,_,_::_,h,_=>by simp[zc5] at h
 | .dic _::_,_,_::_,h,_=>by simp[zc5] at h
 | .dit _::_,_,_::_,h,_=>by simp[zc5] at h
end
end L2
namespace L2
open PySem PySem.Spec PyProof.Rows
end L2
namespace L2
open PySem PySem.Spec PyProof.Rows
section
variable {X:Cx} {pos:Pos} {e:Expr} {te:TD}
theorem zd0{K:PySem.W.Frag}{t S T:String}(ht:t∈["NoneType","bool","int","str","tuple","list"])(hS:S∈["bool","int","str","tuple","list"])(hT:T∈["bool","int","str","tuple","list"]):PySem.W.kitAny K (.type t) [.type S,.type T]=some (zcc t S||zcc t T):=by
 simp only[PySem.W.kitAny,zem ht hS,zem ht hT]
 cases zcc t S<;>cases zcc t T<;>rfl
theorem zkS{S T:String}(hS:S∈["bool","int","str","tuple","list"])(hT:T∈["bool","int","str","tuple","list"]):CallR X (.builtin "isinstance") (fun xs H Q=>∃x d p,xs=[x,.ref p]∧SqT X.K H p [.ty S,.ty T]∧Rep X.K H x d∧zdU d=true∧Q (.bl (zcc (tyD d) S||zcc (tyD d) T)) H):=by
 intro pins s σ H xs us Q I r h
 obtain⟨x,d,p,rfl,hp,rd,ho,q⟩:=h
 obtain⟨u,c,rfl,ru,rc⟩:=zgc r
 cases (show c=Value.ref p from rc)
 obtain⟨cs,rv,ht,_⟩:=I.tuple hp
 obtain⟨c1,c2,rfl,r1,r2⟩:=zgc rv
 cases (show c1=Value.type S from r1)
 cases (show c2=Value.type T from r2)
 obtain⟨⟨cls,dd,data,sl⟩,g1,g2,n,g3⟩:=ht
 simp only at g2 g3
 subst g2 g3
 have fin:∀tk,EP X pins σ Q (.bool (zcc (tyD d) S||zcc (tyD d) T)) { s with toks:=tk }:=fun tk=>⟨.bl _,H,I.tok tk,rfl,q⟩
 cases d with
 | non=>simp only[Rep] at rd;subst rd;cases (show u=Value.none from ru);exact PySem.W.kia_tup PySem.W.kitx_none I.kIn True.intro g1 (zd0 (by simp) hS hT) (fun z=>nomatch z) fin
 | bl y=>simp only[Rep] at rd;subst rd;cases (show u=Value.bool y from ru);exact PySem.W.kia_tup PySem.W.kitx_bool I.kIn True.intro g1 (zd0 (by simp) hS hT) (fun z=>nomatch z) fin
 | int i=>simp only[Rep] at rd;subst rd;obtain⟨t,q'⟩:=(show ∃t,u=Value.int i t from ru);cases q';exact PySem.W.kia_tup PySem.W.kitx_int I.kIn True.intro g1 (zd0 (by simp) hS hT) (fun z=>nomatch z) fin
 | str y=>simp only[Rep] at rd;subst rd;obtain⟨t,q'⟩:=(show ∃t,u=Value.str y t from ru);cases q';exact PySem.W.kia_tup PySem.W.kitx_str I.kIn True.intro g1 (zd0 (by simp) hS hT) (fun z=>nomatch z) fin
 | tup ds=>
  simp only[Rep] at rd
  obtain⟨a,xs,rfl,hq,_⟩:=rd
  cases (show u=Value.ref a from ru)
  obtain⟨its,_,ht,_⟩:=I.tuple hq
  obtain⟨o,h1,h2,_⟩:=ht
  exact PySem.W.kia_tup PySem.W.kitx_tuple I.kIn ⟨o,h1,h2⟩ g1 (zd0 (by simp) hS hT) (fun z=>nomatch z) fin
 | lst ds=>
  simp only[Rep] at rd
  obtain⟨a,xs,rfl,hq,_⟩:=rd
  cases (show u=Value.ref a from ru)
  obtain⟨its,_,ht,_⟩:=I.list hq.sq
  obtain⟨o,n,h1,h2,_⟩:=ht
  exact PySem.W.kia_tup PySem.W.kitx_list I.kIn ⟨o,h1,h2⟩ g1 (zd0 (by simp) hS hT) (fun z=>nomatch z) fin
 | obj=>cases ho
 | dic=>cases ho
 | dit=>cases ho
noncomputable def zmi(S T:String)(te:TD):TD:=fun ρ Q=>te ρ fun r=>zdU r.val=true∧Q (.fz (.bl (zcc (tyD r.val) S||zcc (tyD r.val) T)))
theorem zkT{S T:String}{SN TN:Str}{p p1 p2 p3:Pos}{x1:Nat}(he:PD X e te)(hm:X.mg "isinstance"=none)(hm1:X.mg SN=none)(hm2:X.mg TN=none)(hv1:bootBuiltins SN=some (.type S))(hv2:bootBuiltins TN=some (.type T))(hS:S∈["bool","int","str","tuple","list"]:=by decide)(hT:T∈["bool","int","str","tuple","list"]:=by decide)
  (hg:Gl X "isinstance":=by rfl) (hg1:Gl X SN:=by rfl) (hg2:Gl X TN:=by rfl) (hn1:SN≠"__name__":=by decide) (hn2:TN≠"__name__":=by decide) (hd1:(SN==("__debug__":Str))=false:=by decide) (hd2:(TN==("__debug__":Str))=false:=by decide)
  (hst:starEach [e,Expr.Tuple [.Name SN p1,.Name TN p2] x1 p3] X.env=(false,eval e X.env)::starEach [Expr.Tuple [.Name SN p1,.Name TN p2] x1 p3] X.env:=by rfl) (hst2:starEach [Expr.Tuple [.Name SN p1,.Name TN p2] x1 p3] X.env=(false,eval (Expr.Tuple [.Name SN p1,.Name TN p2] x1 p3) X.env)::starEach [] X.env:=by rfl)
  (hst3:starEach [Expr.Name SN p1,.Name TN p2] X.env=(false,eval (.Name SN p1) X.env)::starEach [Expr.Name TN p2] X.env:=by rfl) (hst4:starEach [Expr.Name TN p2] X.env=(false,eval (.Name TN p2) X.env)::starEach [] X.env:=by rfl)
  (hpl:(backTo pos (starEach [Expr.Tuple [.Name SN p1,.Name TN p2] x1 p3] X.env)).any (·.1)=false:=by rfl):PD X (.Call (.Name "isinstance" p) [e,.Tuple [.Name SN p1,.Name TN p2] x1 p3] [] pos) (zmi S T te):=by
 obtain⟨t,pp,q⟩:=he
 refine⟨_,zeE (zkS hS hT) hg hm boot_isinstance (zcg pp (zcg (zmM (zcg (zhS (v:=.ty S) hg1 hm1 hv1 rfl hn1 hd1) (zcg (zhS (v:=.ty T) hg2 hm2 hv2 rfl hn2 hd2) zeN hst4) hst3)) zeN hst2) hst) (by decide) (by decide) hst hpl,fun ρ σ G0 H0 G H Q P E h k=>q ρ σ G0 H0 G H _ _ E h fun v H' r G' x rr hq=>?_⟩
 obtain⟨G2,x2,rv,_⟩:=rr.freeze x
 refine⟨by show 2≤sizeLine;decide,fun p hp=>?_⟩
 have x3:=x2.trans (Ext.own (o:=.tup [.ty S,.ty T]) x2.s hp)
 exact⟨v,r.val,p,rfl,SqT.of zau,rv.mono x3.s,hq.1,k _ _ _ G2 x3 (fzR (zbq _ _ _)) hq.2⟩
theorem zkU(hc:X.calm=true):CallR X (.builtin "max") (fun xs H Q=>∃a b c:Int,xs=[.int a,.int b,.int c]∧Q (.int (max a (max b c))) H):=by
 intro pins s σ H xs us Q I r h
 obtain⟨a,b,c,rfl,q⟩:=h
 cases r with
 | cons r1 r2=>
  obtain⟨u2,u3,rfl,r2,r3⟩:=zgc r2
  obtain⟨t1,rfl⟩:=r1
  obtain⟨t2,rfl⟩:=r2
  obtain⟨t3,rfl⟩:=r3
  refine max_three_ints (I.ok.hd hc) fun h' tk hk=>⟨.int (max a (max b c)),H,I.kept hk,?_,q⟩
  split<;>split
  ·exact⟨t3,by congr 1;omega⟩
  ·exact⟨t2,by congr 1;omega⟩
  ·exact⟨t3,by congr 1;omega⟩
  ·exact⟨t1,by congr 1;omega⟩
theorem zkV(hc:X.calm=true):CallR X (.builtin "min") (fun xs H Q=>∃a b c:Int,xs=[.int a,.int b,.int c]∧Q (.int (min a (min b c))) H):=by
 intro pins s σ H xs us Q I r h
 obtain⟨a,b,c,rfl,q⟩:=h
 cases r with
 | cons r1 r2=>
  obtain⟨u2,u3,rfl,r2,r3⟩:=zgc r2
  obtain⟨t1,rfl⟩:=r1
  obtain⟨t2,rfl⟩:=r2
  obtain⟨t3,rfl⟩:=r3
  refine min_three_ints (I.ok.hd hc) fun h' tk hk=>⟨.int (min a (min b c)),H,I.kept hk,?_,q⟩
  split<;>split
  ·exact⟨t3,by congr 1;omega⟩
  ·exact⟨t2,by congr 1;omega⟩
  ·exact⟨t3,by congr 1;omega⟩
  ·exact⟨t1,by congr 1;omega⟩
noncomputable def zkW:SpD:=fun ds Q=>match ds with
 | [.int a,.int b,.int c]=>Q (.fz (.int (max a (max b c))))
 | _=>False
noncomputable def zkX:SpD:=fun ds Q=>match ds with
 | [.int a,.int b,.int c]=>Q (.fz (.int (min a (min b c))))
 | _=>False
theorem zo7{K:PySem.W.Frag}{G:Hp}{vs:List V}{a b c:D}(r:Reps K G vs [a,b,c]):∃x y z,vs=[x,y,z]∧Rep K G x a∧Rep K G y b∧Rep K G z c:=by
 match vs,r with
 | [x,y,z],r=>simp only[Reps] at r;exact⟨x,y,z,rfl,r.1,r.2.1,r.2.2.1⟩
 | [],r=>simp only[Reps] at r
 | [_],r=>simp only[Reps] at r;exact r.2.elim
 | [_,_],r=>simp only[Reps] at r;exact r.2.2.elim
 | _::_::_::_::_,r=>simp only[Reps] at r;exact r.2.2.2.elim
theorem zo8(hc:X.calm=true):zdR X (.builtin "max") zkW:=by
 refine⟨_,zkU hc,fun G H vs ds Q P s rs h k=>?_⟩
 unfold zkW at h
 split at h
 ·obtain⟨x,y,z,rfl,r1,r2,r3⟩:=zo7 rs
  simp only[Rep] at r1 r2 r3
  subst r1 r2 r3
  exact⟨_,_,_,rfl,k _ _ _ G (.refl s) (fzR (zaG _ _ _)) h⟩
 ·exact h.elim
theorem zo9(hc:X.calm=true):zdR X (.builtin "min") zkX:=by
 refine⟨_,zkV hc,fun G H vs ds Q P s rs h k=>?_⟩
 unfold zkX at h
 split at h
 ·obtain⟨x,y,z,rfl,r1,r2,r3⟩:=zo7 rs
  simp only[Rep] at r1 r2 r3
  subst r1 r2 r3
  exact⟨_,_,_,rfl,k _ _ _ G (.refl s) (fzR (zaG _ _ _)) h⟩
 ·exact h.elim
end
end L2
namespace Ts
open PySem PyProof.Rows
noncomputable def zcS:Bool→Keyed→Array Keyed→Nat→Nat→Nat→StateT SortSt Sem (Option Nat):=sortPriv% PySem.Builtin.gallop
noncomputable def zgu:Array Keyed→Array Keyed→StateT SortSt Sem (Array Keyed):=sortPriv% PySem.Builtin.mergeLo
noncomputable def zgv:Array Keyed→Array Keyed→StateT SortSt Sem (Array Keyed):=sortPriv% PySem.Builtin.mergeHi
noncomputable def ze0(left:Bool)(key:Keyed)(arr:Array Keyed)(base i:Nat):StateT SortSt Sem (Option Bool):=do
 let x ←elem' arr (base+i)
 if left then lt' x key else return (←lt' key x).map (!·)
theorem zju(left:Bool)(key:Keyed)(arr:Array Keyed)(base n hint:Nat):zcS left key arr base n hint=(do
 let mut lastofs:=0
 let mut ofs:=1
 let mut lo:=0
 let mut hi:=0
 let some right ←ze0 left key arr base hint | return none
 if right then
  let maxofs:=n-hint
  for _ in [0:n] do
   if ofs≥maxofs then break
   let some more ←ze0 left key arr base (hint+ofs) | return none
   if !more then break
   lastofs:=ofs
   ofs:=2*ofs+1
  lo:=hint+lastofs+1
  hi:=hint+min ofs maxofs
 else
  let maxofs:=hint+1
  for _ in [0:n] do
   if ofs≥maxofs then break
   let some found ←ze0 left key arr base (hint-ofs) | return none
   if found then break
   lastofs:=ofs
   ofs:=2*ofs+1
  lo:=hint+1-min ofs maxofs
  hi:=hint-lastofs
 for _ in [0:n] do
  if lo≥hi then break
  let m:=lo+(hi-lo)/2
  let some more ←ze0 left key arr base m | return none
  if more then lo:=m+1 else hi:=m
 return some hi):=rfl
variable {M:Model} {A:Around} {E:Value→Shared→Prop} {s:Shared}
structure Rk (M:Model) (A:Around) (E:Value→Shared→Prop) (s:Shared) (κ:SortKind) (ok:Keyed→Prop) (rk:Keyed→Int):Prop where
 lt:∀x y (st:SortSt) (Q:Option Bool→SortSt→Prop),ok x→ok y→kindOf st=κ→Q (some (decide (rk x<rk y))) st→wpS M A E s (lt' x y) Q st
theorem zaj{arr:Array Keyed}{i:Nat}{Q:Keyed→SortSt→Prop}{st:SortSt}(h:i<arr.size)(q:Q arr[i] st):wpS M A E s (elem' arr i) Q st:=by
 rw[elem'_eq,Array.getElem?_eq_getElem h]
 exact wpS_pure q
theorem zjv{κ:SortKind}{ok:Keyed→Prop}{rk:Keyed→Int}(R:Rk M A E s κ ok rk){left:Bool}{key:Keyed}{arr:Array Keyed}{base i:Nat}{Q:Option Bool→SortSt→Prop}{st:SortSt}(hk:kindOf st=κ)(oa:∀x∈arr,ok x)(okk:ok key)(h:base+i<arr.size)
  (q:Q (some (if left=true then decide (rk arr[base+i]<rk key) else !decide (rk key<rk arr[base+i]))) st):wpS M A E s (ze0 left key arr base i) Q st:=by
 unfold ze0
 refine wpS_bind (zaj h ?_)
 cases left with
 | true=>exact R.lt _ _ st _ (oa _ (Array.getElem_mem h)) okk hk q
 | false=>exact wpS_bind (R.lt _ _ st _ okk (oa _ (Array.getElem_mem h)) hk (wpS_pure q))
noncomputable def Cut(b:Nat→Bool)(n k:Nat):Prop:=k≤n∧∀i,i<n→(b i=true↔i<k)
theorem zaK{κ:SortKind}{ok:Keyed→Prop}{rk:Keyed→Int}(R:Rk M A E s κ ok rk){left:Bool}{key:Keyed}{arr:Array Keyed}{base n hint k:Nat}{Q:Option Nat→SortSt→Prop}{st:SortSt}(hk:kindOf st=κ)(oa:∀x∈arr,ok x)(okk:ok key)(hn:base+n≤arr.size)(hh:hint<n)
  (hc:Cut (fun i=>if left=true then decide (rk (arr.getD (base+i) (Value.none,Value.none))<rk key) else !decide (rk key<rk (arr.getD (base+i) (Value.none,Value.none)))) n k) (q:Q (some k) st):wpS M A E s (zcS left key arr base n hint) Q st:=by
 have by_:∀i,i<n→∀{Q':Option Bool→SortSt→Prop},Q' (some (decide (i<k))) st→wpS M A E s (ze0 left key arr base i) Q' st:=fun i hi Q' h=>by
  refine zjv R hk oa okk (by omega) ?_
  have h2:=hc.2 i hi
  have e:arr.getD (base+i) (Value.none,Value.none)=arr[base+i]'(by omega):=by simp[Array.getD,show base+i<arr.size by omega]
  dsimp only at h2
  rw[e] at h2
  rw[show(if left=true then decide (rk (arr[base+i]'(by omega))<rk key) else !decide (rk key<rk (arr[base+i]'(by omega))))=decide (i<k) by rw[Bool.eq_iff_iff,h2,decide_eq_true_eq]]
  exact h
 have hkn:=hc.1
 rw[zju]
 refine wpS_bind (by_ hint hh ?_)
 dsimp only
 by_cases h0:hint<k
 ·simp only[h0,decide_true,if_true]
  refine wpS_bind (wpS_mono (wpS_forRange (Q:=fun c st'=>st'=st∧c.1=none∧hint+c.2.1<k∧k≤hint+min c.2.2 (n-hint)) (fun i c st'=>st'=st∧c.1=none∧hint+c.2.1<k∧i+1≤c.2.2) ?_ ?_ ⟨rfl,rfl,by show hint+0<k;omega,by show 0+1≤1;omega⟩) ?_)
  ·rintro i ⟨c1,la,of⟩ st' _ hin ⟨rfl,hc1,h1,h2⟩
   dsimp only at hc1 h1 h2 ⊢
   subst hc1
   by_cases hd:of≥n-hint
   ·rw[if_pos hd]
    exact wpS_pure ⟨rfl,rfl,h1,by dsimp only;omega⟩
   ·rw[if_neg hd]
    refine wpS_bind (by_ _ (by omega) ?_)
    dsimp only
    by_cases hm:hint+of<k
    ·simp only[hm,decide_true,Bool.not_true,Bool.false_eq_true,if_false]
     exact wpS_pure ⟨rfl,rfl,hm,by dsimp only;omega⟩
    ·simp only[hm,decide_false,Bool.not_false,if_true]
     exact wpS_pure ⟨rfl,rfl,h1,by dsimp only;omega⟩
  ·rintro⟨c1,la,of⟩ st' ⟨rfl,hc1,h1,h2⟩
   dsimp only at hc1 h1 h2 ⊢
   exact⟨rfl,hc1,h1,by rw[Nat.max_eq_right (Nat.zero_le n)] at h2;omega⟩
  ·rintro⟨c1,la,of⟩ st' ⟨rfl,hc1,h1,h2⟩
   dsimp only at hc1 h1 h2 ⊢
   subst hc1
   dsimp only
   refine wpS_bind (wpS_mono (wpS_forRange (Q:=fun c st2=>st2=st'∧c.1=none∧c.2.2=k) (fun i c st2=>st2=st'∧c.1=none∧c.2.1≤k∧k≤c.2.2∧c.2.2≤n∧c.2.2-c.2.1+i≤n) ?_ ?_ ⟨rfl,rfl,by dsimp only;omega,by dsimp only;omega,by dsimp only;omega,by dsimp only;omega⟩) ?_)
   ·rintro i ⟨c1,lo,hi⟩ st2 _ hin ⟨rfl,hc1,h1,h2,h3,h4⟩
    dsimp only at hc1 h1 h2 h3 h4 ⊢
    subst hc1
    by_cases hd:lo≥hi
    ·rw[if_pos hd]
     exact wpS_pure ⟨rfl,rfl,by dsimp only;omega⟩
    ·rw[if_neg hd]
     refine wpS_bind (by_ _ (by omega) ?_)
     dsimp only
     by_cases hm:lo+(hi-lo)/2<k
     ·simp only[hm,decide_true,if_true]
      exact wpS_pure ⟨rfl,rfl,by dsimp only;omega,h2,h3,by dsimp only;omega⟩
     ·simp only[hm,decide_false,Bool.false_eq_true,if_false]
      exact wpS_pure ⟨rfl,rfl,h1,by dsimp only;omega,by dsimp only;omega,by dsimp only;omega⟩
   ·rintro⟨c1,lo,hi⟩ st2 ⟨rfl,hc1,h1,h2,h3,h4⟩
    dsimp only at hc1 h1 h2 h3 h4 ⊢
    exact⟨rfl,hc1,by omega⟩
   ·rintro⟨c1,lo,hi⟩ st2 ⟨rfl,hc1,h1⟩
    dsimp only at hc1 h1 ⊢
    subst hc1 h1
    exact wpS_pure q
 ·simp only[h0,decide_false,Bool.false_eq_true,if_false]
  refine wpS_bind (wpS_mono (wpS_forRange (Q:=fun c st'=>st'=st∧c.1=none∧k≤hint-c.2.1∧c.2.1≤hint∧hint+1-min c.2.2 (hint+1)≤k) (fun i c st'=>st'=st∧c.1=none∧k≤hint-c.2.1∧c.2.1≤hint∧i+1≤c.2.2) ?_ ?_ ⟨rfl,rfl,by show k≤hint-0;omega,Nat.zero_le _,by show 0+1≤1;omega⟩) ?_)
  ·rintro i ⟨c1,la,of⟩ st' _ hin ⟨rfl,hc1,h1,h2,h3⟩
   dsimp only at hc1 h1 h2 h3 ⊢
   subst hc1
   by_cases hd:of≥hint+1
   ·rw[if_pos hd]
    exact wpS_pure ⟨rfl,rfl,h1,h2,by dsimp only;omega⟩
   ·rw[if_neg hd]
    refine wpS_bind (by_ _ (by omega) ?_)
    dsimp only
    by_cases hm:hint-of<k
    ·simp only[hm,decide_true,if_true]
     exact wpS_pure ⟨rfl,rfl,h1,h2,by dsimp only;omega⟩
    ·simp only[hm,decide_false,Bool.false_eq_true,if_false]
     exact wpS_pure ⟨rfl,rfl,by dsimp only;omega,by dsimp only;omega,by dsimp only;omega⟩
  ·rintro⟨c1,la,of⟩ st' ⟨rfl,hc1,h1,h2,h3⟩
   dsimp only at hc1 h1 h2 h3 ⊢
   exact⟨rfl,hc1,h1,h2,by rw[Nat.max_eq_right (Nat.zero_le n)] at h3;omega⟩
  ·rintro⟨c1,la,of⟩ st' ⟨rfl,hc1,h1,h2,h3⟩
   dsimp only at hc1 h1 h2 h3 ⊢
   subst hc1
   dsimp only
   refine wpS_bind (wpS_mono (wpS_forRange (Q:=fun c st2=>st2=st'∧c.1=none∧c.2.2=k) (fun i c st2=>st2=st'∧c.1=none∧c.2.1≤k∧k≤c.2.2∧c.2.2≤n∧c.2.2-c.2.1+i≤n) ?_ ?_ ⟨rfl,rfl,by dsimp only;omega,by dsimp only;omega,by dsimp only;omega,by dsimp only;omega⟩) ?_)
   ·rintro i ⟨c1,lo,hi⟩ st2 _ hin ⟨rfl,hc1,h1,h2,h3,h4⟩
    dsimp only at hc1 h1 h2 h3 h4 ⊢
    subst hc1
    by_cases hd:lo≥hi
    ·rw[if_pos hd]
     exact wpS_pure ⟨rfl,rfl,by dsimp only;omega⟩
    ·rw[if_neg hd]
     refine wpS_bind (by_ _ (by omega) ?_)
     dsimp only
     by_cases hm:lo+(hi-lo)/2<k
     ·simp only[hm,decide_true,if_true]
      exact wpS_pure ⟨rfl,rfl,by dsimp only;omega,h2,h3,by dsimp only;omega⟩
     ·simp only[hm,decide_false,Bool.false_eq_true,if_false]
      exact wpS_pure ⟨rfl,rfl,h1,by dsimp only;omega,by dsimp only;omega,by dsimp only;omega⟩
   ·rintro⟨c1,lo,hi⟩ st2 ⟨rfl,hc1,h1,h2,h3,h4⟩
    dsimp only at hc1 h1 h2 h3 h4 ⊢
    exact⟨rfl,hc1,by omega⟩
   ·rintro⟨c1,lo,hi⟩ st2 ⟨rfl,hc1,h1⟩
    dsimp only at hc1 h1 ⊢
    subst hc1 h1
    exact wpS_pure q
end Ts
namespace Ts
open PySem PyProof.Rows
variable {α:Type} (rk:α→Int)
structure MI (a b out:List α) (ia ib:Nat):Prop where
 la:ia≤a.length
 lb:ib≤b.length
 pm:out.Perm (a.take ia++b.take ib)
 so:out.Pairwise fun x y=>rk x≤rk y
 ga:∀x∈out,∀y∈a.drop ia,rk x≤rk y
 gb:∀x∈out,∀y∈b.drop ib,rk x≤rk y
variable {rk}
theorem MI.len{a b out:List α}{ia ib:Nat}(h:MI rk a b out ia ib):out.length=ia+ib:=by
 have:=h.pm.length_eq
 rw[List.length_append,List.length_take,List.length_take] at this
 have:=h.la
 have:=h.lb
 omega
theorem zf5{l:List α}{i k:Nat}:l.drop i=(l.drop i).take k++l.drop (i+k):=by
 rw[←List.drop_drop,List.take_append_drop]
theorem MI.blockA{a b out:List α}{ia ib:Nat}(h:MI rk a b out ia ib)(sa:a.Pairwise fun x y=>rk x≤rk y){k:Nat}(hk:ia+k≤a.length)(hb:∀x∈(a.drop ia).take k,∀y∈b.drop ib,rk x≤rk y):MI rk a b (out++(a.drop ia).take k) (ia+k) ib:=by
 have sd:(a.drop ia).Pairwise fun x y=>rk x≤rk y:=sa.sublist (List.drop_sublist _ _)
 rw[zf5 (k:=k),List.pairwise_append] at sd
 have ha:=h.ga
 rw[zf5 (k:=k)] at ha
 refine⟨hk,h.lb,?_,?_,fun x hx y hy=>?_,fun x hx y hy=>?_⟩
 ·rw[List.take_add]
  have:=h.pm.append_right ((a.drop ia).take k)
  refine this.trans ?_
  rw[List.append_assoc,List.append_assoc]
  exact List.Perm.append_left _ List.perm_append_comm
 ·rw[List.pairwise_append]
  exact⟨h.so,sd.1,fun x hx y hy=>ha x hx y (List.mem_append_left _ hy)⟩
 ·rcases List.mem_append.mp hx with hx | hx
  ·exact ha x hx y (List.mem_append_right _ hy)
  ·exact sd.2.2 x hx y hy
 ·rcases List.mem_append.mp hx with hx | hx
  ·exact h.gb x hx y hy
  ·exact hb x hx y hy
theorem MI.swap{a b out:List α}{ia ib:Nat}(h:MI rk a b out ia ib):MI rk b a out ib ia:=⟨h.lb,h.la,h.pm.trans List.perm_append_comm,h.so,h.gb,h.ga⟩
theorem MI.blockB{a b out:List α}{ia ib:Nat}(h:MI rk a b out ia ib)(sb:b.Pairwise fun x y=>rk x≤rk y){k:Nat}(hk:ib+k≤b.length)(ha:∀x∈(b.drop ib).take k,∀y∈a.drop ia,rk x≤rk y):MI rk a b (out++(b.drop ib).take k) ia (ib+k):=(h.swap.blockA sb hk ha).swap
theorem ziI{l:List α}{i:Nat}(h:i<l.length):(l.drop i).take 1=[l[i]]:=by
 rw[List.drop_eq_getElem_cons h];rfl
theorem zjw{l:List α}(s:l.Pairwise fun x y=>rk x≤rk y){i:Nat}(h:i<l.length):∀y∈l.drop i,rk l[i]≤rk y:=by
 intro y hy
 rw[List.drop_eq_getElem_cons h] at hy
 rcases List.mem_cons.mp hy with rfl | hy
 ·exact Int.le_refl _
 ·have sd:(l.drop i).Pairwise fun x y=>rk x≤rk y:=s.sublist (List.drop_sublist _ _)
  rw[List.drop_eq_getElem_cons h,List.pairwise_cons] at sd
  exact sd.1 y hy
theorem MI.pushA{a b out:List α}{ia ib:Nat}(h:MI rk a b out ia ib)(sa:a.Pairwise fun x y=>rk x≤rk y)(sb:b.Pairwise fun x y=>rk x≤rk y)(hi:ia<a.length)(hj:ib<b.length)(hle:rk a[ia]≤rk b[ib]):MI rk a b (out++[a[ia]]) (ia+1) ib:=by
 have:=h.blockA sa (k:=1) (by omega) (fun x hx y hy=>by
  rw[ziI hi] at hx
  simp at hx
  subst hx
  exact Int.le_trans hle (zjw sb hj y hy))
 rwa [ziI hi] at this
theorem MI.pushB{a b out:List α}{ia ib:Nat}(h:MI rk a b out ia ib)(sa:a.Pairwise fun x y=>rk x≤rk y)(sb:b.Pairwise fun x y=>rk x≤rk y)(hi:ia<a.length)(hj:ib<b.length)(hle:rk b[ib]≤rk a[ia]):MI rk a b (out++[b[ib]]) ia (ib+1):=(h.swap.pushA sb sa hj hi hle).swap
theorem MI.closeAB{a b out:List α}{ia ib:Nat}(h:MI rk a b out ia ib)(sa:a.Pairwise fun x y=>rk x≤rk y)(sb:b.Pairwise fun x y=>rk x≤rk y)(hle:∀x∈a.drop ia,∀y∈b.drop ib,rk x≤rk y) :
  (out++a.drop ia++b.drop ib).Perm (a++b)∧(out++a.drop ia++b.drop ib).Pairwise fun x y=>rk x≤rk y:=by
 have h1:=h.blockA sa (k:=a.length-ia) (by have:=h.la;omega) (fun x hx=>hle x (List.mem_of_mem_take hx))
 have e1:(a.drop ia).take (a.length-ia)=a.drop ia:=List.take_of_length_le (by simp)
 rw[e1] at h1
 have h2:=h1.blockB sb (k:=b.length-ib) (by have:=h.lb;omega) (fun x hx y hy=>by
  rw[show ia+(a.length-ia)=a.length by have:=h.la;omega,List.drop_length] at hy
  cases hy)
 have e2:(b.drop ib).take (b.length-ib)=b.drop ib:=List.take_of_length_le (by simp)
 rw[e2] at h2
 refine⟨?_,h2.so⟩
 have:=h2.pm
 rwa [show ia+(a.length-ia)=a.length by have:=h.la;omega,show ib+(b.length-ib)=b.length by have:=h.lb;omega,List.take_length,List.take_length] at this
theorem MI.closeBA{a b out:List α}{ia ib:Nat}(h:MI rk a b out ia ib)(sa:a.Pairwise fun x y=>rk x≤rk y)(sb:b.Pairwise fun x y=>rk x≤rk y)(hle:∀x∈b.drop ib,∀y∈a.drop ia,rk x≤rk y) :
  (out++b.drop ib++a.drop ia).Perm (a++b)∧(out++b.drop ib++a.drop ia).Pairwise fun x y=>rk x≤rk y:=by
 obtain⟨h1,h2⟩:=h.swap.closeAB sb sa hle
 exact⟨h1.trans List.perm_append_comm,h2⟩
end Ts
namespace Ts
open PySem PyProof.Rows
noncomputable abbrev zaI(st:SortSt)(g:Nat):SortSt:=SortSt.mk' (kindOf st) (arrOf st) (pendingOf st) g (failedOf st)
noncomputable def zbB:Nat→StateT SortSt Sem Unit:=sortPriv% PySem.Builtin.setMinGallop
theorem zaN(g:Nat):zbB g=modify fun st=>zaI st g:=rfl
theorem zh4(a b:Array Keyed):zgu a b=(do
 rule "list.sort.merge-lo"
 let total:=a.size+b.size
 let done (out:Array Keyed) (ia ib:Nat):=out++a.extract ia a.size++b.extract ib b.size
 let lastOfA (out:Array Keyed) (ia ib:Nat):=out++b.extract ib b.size++a.extract ia a.size
 let mut out:Array Keyed:=#[←elem' b 0]
 let mut ia:=0
 let mut ib:=1
 if ib==b.size then return done out ia ib
 if ia+1==a.size then return lastOfA out ia ib
 let mut minGallop:=gallopOf (←get)
 for _ in [0:total] do
  let mut acount:=0
  let mut bcount:=0
  for _ in [0:total] do
   let some bWins ←lt' (←elem' b ib) (←elem' a ia) | return done out ia ib
   if bWins then
    out:=out.push (←elem' b ib);ib:=ib+1;bcount:=bcount+1;acount:=0
    if ib==b.size then return done out ia ib
    if bcount≥minGallop then break
   else
    out:=out.push (←elem' a ia);ia:=ia+1;acount:=acount+1;bcount:=0
    if ia+1==a.size then return lastOfA out ia ib
    if acount≥minGallop then break
  rule "list.sort.gallop"
  minGallop:=minGallop+1
  for _ in [0:total] do
   if minGallop>1 then minGallop:=minGallop-1
   zbB minGallop
   let some k ←zcS false (←elem' b ib) a ia (a.size-ia) 0 | return done out ia ib
   acount:=k
   if k>0 then
    out:=out++a.extract ia (ia+k);ia:=ia+k
    if ia+1==a.size then return lastOfA out ia ib
    if ia==a.size then return done out ia ib
   out:=out.push (←elem' b ib);ib:=ib+1
   if ib==b.size then return done out ia ib
   let some k ←zcS true (←elem' a ia) b ib (b.size-ib) 0 | return done out ia ib
   bcount:=k
   if k>0 then
    out:=out++b.extract ib (ib+k);ib:=ib+k
    if ib==b.size then return done out ia ib
   out:=out.push (←elem' a ia);ia:=ia+1
   if ia+1==a.size then return lastOfA out ia ib
   if acount<7&&bcount<7 then break
  minGallop:=minGallop+1
  zbB minGallop
 unsupported "internal:list.sort.merge-bound"):=rfl
variable {M:Model} {A:Around} {E:Value→Shared→Prop} {s:Shared}
theorem zcE{x:String}{Q:Unit→SortSt→Prop}{st:SortSt}(q:Q () st):wpS M A E s (liftM (rule x):StateT SortSt Sem Unit) Q st:=wpS_lift (wpAny_rule ⟨rfl,q⟩)
noncomputable def Srt(rk:Keyed→Int)(l:List Keyed):Prop:=l.Pairwise fun x y=>rk x≤rk y
noncomputable def ziJ(rk:Keyed→Int)(a b r:Array Keyed):Prop:=r.toList.Perm (a.toList++b.toList)∧Srt rk r.toList
structure Mw (rk:Keyed→Int) (a b out:Array Keyed) (ia ib:Nat):Prop where
 mi:MI rk a.toList b.toList out.toList ia ib
 la:ia+1<a.size
 lb:ib<b.size
section
variable {rk:Keyed→Int} {a b out:Array Keyed} {ia ib:Nat}
theorem zgw(a:Array Keyed)(i:Nat):(a.extract i a.size).toList=a.toList.drop i:=by
 rw[Array.toList_extract]
 simp only[List.extract]
 exact List.take_of_length_le (by simp)
theorem zkY(a:Array Keyed)(i k:Nat):(a.extract i (i+k)).toList=(a.toList.drop i).take k:=by
 rw[Array.toList_extract]
 simp[List.extract]
theorem ziK(a:Array Keyed):a.toList.drop a.size=[]:=by simp
theorem zaY(h:MI rk a.toList b.toList out.toList ia ib)(sa:Srt rk a.toList)(sb:Srt rk b.toList)(hi:ia=a.size∨ib=b.size):ziJ rk a b (out++a.extract ia a.size++b.extract ib b.size):=by
 obtain⟨h1,h2⟩:=h.closeAB sa sb (fun x hx y hy=>by
  rcases hi with e | e
  ·rw[e,ziK] at hx;cases hx
  ·rw[e,ziK] at hy;cases hy)
 unfold ziJ Srt
 rw[Array.toList_append,Array.toList_append,zgw,zgw]
 exact⟨h1,h2⟩
theorem zaZ(h:MI rk a.toList b.toList out.toList ia ib)(sa:Srt rk a.toList)(sb:Srt rk b.toList)(ha:0<a.size)(hi:ia+1=a.size)(h9:∀x∈b,rk x<rk (a[a.size-1])):ziJ rk a b (out++b.extract ib b.size++a.extract ia a.size):=by
 obtain⟨h1,h2⟩:=h.closeBA sa sb (fun x hx y hy=>by
  have e:a.toList.drop ia=[a[a.size-1]]:=by
   have hl:ia<a.toList.length:=by simp;omega
   rw[List.drop_eq_getElem_cons hl,List.drop_eq_nil_of_le (by simp;omega)]
   simp[show ia=a.size-1 by omega]
  rw[e] at hy
  simp at hy
  have:=h9 x (by simpa using List.mem_of_mem_drop hx)
  rw[hy]
  omega)
 unfold ziJ Srt
 rw[Array.toList_append,Array.toList_append,zgw,zgw]
 exact⟨h1,h2⟩
end
theorem zep(p:Nat→Bool):∀n,(∀i j,i≤j→j<n→p j=true→p i=true)→∃k,Cut p n k
 | 0,_=>⟨0,Nat.le_refl _,fun i hi=>absurd hi (Nat.not_lt_zero i)⟩
 | n+1,h=>by
  obtain⟨k,k1,k2⟩:=zep p n fun i j hij hj=>h i j hij (by omega)
  cases hp:p n with
  | true=>
   refine⟨n+1,Nat.le_refl _,fun i hi=>⟨fun _=>hi,fun _=>?_⟩⟩
   exact h i n (by omega) (by omega) hp
  | false=>
   refine⟨k,by omega,fun i hi=>?_⟩
   by_cases e:i=n
   ·subst e
    rw[hp]
    exact⟨fun z=>(by cases z),fun z=>by omega⟩
   ·exact k2 i (by omega)
noncomputable abbrev dk:Keyed:=(Value.none,Value.none)
theorem zaq{a:Array Keyed}{i:Nat}(h:i<a.size):a.getD i dk=a[i]:=by simp[Array.getD,h]
theorem zcd{rk:Keyed→Int}{a:Array Keyed}(sa:Srt rk a.toList){i j:Nat}(h:i≤j)(hj:j<a.size):rk (a.getD i dk)≤rk (a.getD j dk):=by
 rw[zaq hj,zaq (by omega)]
 by_cases e:i=j
 ·subst e;exact Int.le_refl _
 ·have:=List.pairwise_iff_getElem.mp sa i j (by simp;omega) (by simpa using hj) (by omega)
  simpa using this
theorem zkZ{a:Array Keyed}{i k:Nat}(h:i+k≤a.size){x:Keyed}(hx:x∈(a.toList.drop i).take k):∃t,t<k∧x=a.getD (i+t) dk:=by
 obtain⟨t,ht,e⟩:=List.getElem_of_mem hx
 have ht2:t<k:=by simp at ht;omega
 refine⟨t,ht2,?_⟩
 rw[zaq (by omega),←e]
 simp
theorem zk0{a:Array Keyed}{i:Nat}{x:Keyed}(hx:x∈a.toList.drop i):∃t,i+t<a.size∧x=a.getD (i+t) dk:=by
 obtain⟨t,ht,e⟩:=List.getElem_of_mem hx
 have ht2:i+t<a.size:=by simp at ht;omega
 refine⟨t,ht2,?_⟩
 rw[zaq ht2,←e]
 simp
theorem zqF{rk:Keyed→Int}{a:Array Keyed}(sa:Srt rk a.toList)(ia:Nat)(key:Keyed):∃k,Cut (fun i=>if false=true then decide (rk (a.getD (ia+i) dk)<rk key) else !decide (rk key<rk (a.getD (ia+i) dk))) (a.size-ia) k:=
 zep _ _ fun i j hij hj h=>by
  have:=zcd (rk:=rk) sa (show ia+i≤ia+j by omega) (by omega)
  simp only[Bool.false_eq_true,if_false,Bool.not_eq_true',decide_eq_false_iff_not] at h ⊢
  omega
theorem zmj{rk:Keyed→Int}{b:Array Keyed}(sb:Srt rk b.toList)(ib:Nat)(key:Keyed):∃k,Cut (fun i=>if true=true then decide (rk (b.getD (ib+i) dk)<rk key) else !decide (rk key<rk (b.getD (ib+i) dk))) (b.size-ib) k:=
 zep _ _ fun i j hij hj h=>by
  have:=zcd (rk:=rk) sb (show ib+i≤ib+j by omega) (by omega)
  simp only[if_true,decide_eq_true_eq] at h ⊢
  omega
theorem MI.galA{rk:Keyed→Int}{a b out:Array Keyed}{ia ib k:Nat}(h:MI rk a.toList b.toList out.toList ia ib)(sa:Srt rk a.toList)(sb:Srt rk b.toList)(la:ia<a.size)(lb:ib<b.size)(hc:Cut (fun i=>if false=true then decide (rk (a.getD (ia+i) dk)<rk b[ib]) else !decide (rk b[ib]<rk (a.getD (ia+i) dk))) (a.size-ia) k) :
  MI rk a.toList b.toList (out++a.extract ia (ia+k)).toList (ia+k) ib∧ia+k≤a.size∧(ia+k<a.size→rk b[ib]<rk (a.getD (ia+k) dk)):=by
 have hk:=hc.1
 refine⟨?_,by omega,fun hl=>?_⟩
 ·rw[Array.toList_append,zkY]
  refine h.blockA sa (by simp;omega) fun x hx y hy=>?_
  obtain⟨t,ht,rfl⟩:=zkZ (by omega) hx
  obtain⟨u,hu,rfl⟩:=zk0 hy
  have h1:=(hc.2 t (by omega)).mpr ht
  have h2:=zcd (rk:=rk) sb (show ib≤ib+u by omega) hu
  rw[zaq lb] at h2
  simp only[Bool.false_eq_true,if_false,Bool.not_eq_true',decide_eq_false_iff_not] at h1
  omega
 ·have h1:=mt (hc.2 k (by omega)).mp (Nat.lt_irrefl k)
  simpa using h1
theorem MI.galB{rk:Keyed→Int}{a b out:Array Keyed}{ia ib k:Nat}(h:MI rk a.toList b.toList out.toList ia ib)(sa:Srt rk a.toList)(sb:Srt rk b.toList)(la:ia<a.size)(lb:ib≤b.size)(hc:Cut (fun i=>if true=true then decide (rk (b.getD (ib+i) dk)<rk a[ia]) else !decide (rk a[ia]<rk (b.getD (ib+i) dk))) (b.size-ib) k) :
  MI rk a.toList b.toList (out++b.extract ib (ib+k)).toList ia (ib+k)∧ib+k≤b.size∧(ib+k<b.size→rk a[ia]≤rk (b.getD (ib+k) dk)):=by
 have hk:=hc.1
 refine⟨?_,by omega,fun hl=>?_⟩
 ·rw[Array.toList_append,zkY]
  refine h.blockB sb (by simp;omega) fun x hx y hy=>?_
  obtain⟨t,ht,rfl⟩:=zkZ (by omega) hx
  obtain⟨u,hu,rfl⟩:=zk0 hy
  have h1:=(hc.2 t (by omega)).mpr ht
  have h2:=zcd (rk:=rk) sa (show ia≤ia+u by omega) hu
  rw[zaq la] at h2
  simp only[if_true,decide_eq_true_eq] at h1
  omega
 ·have h1:=mt (hc.2 k (by omega)).mp (Nat.lt_irrefl k)
  simpa using h1
theorem zh5{κ:SortKind}{ok:Keyed→Prop}{rk:Keyed→Int}(R:Rk M A E s κ ok rk){a b:Array Keyed}{Q:Array Keyed→SortSt→Prop}{st:SortSt}(hk:kindOf st=κ)(oa:∀x∈a,ok x)(ob:∀x∈b,ok x)(sa:Srt rk a.toList)(sb:Srt rk b.toList)(ha:0<a.size)(hb:0<b.size)
  (h0:rk b[0]<rk a[0]) (h9:∀x∈b,rk x<rk (a[a.size-1])) (q:∀(r:Array Keyed) g,r.toList.Perm (a.toList++b.toList)→Srt rk r.toList→Q r (zaI st g)):wpS M A E s (zgu a b) Q st:=by
 rw[zh4]
 refine wpS_bind (zcE ?_)
 refine wpS_bind (zaj hb ?_)
 dsimp only
 have hst:st=zaI st (gallopOf st):=rfl
 have m0:MI rk a.toList b.toList (#[b[0]]:Array Keyed).toList 0 1:=by
  have n0:MI rk a.toList b.toList [] 0 0:=⟨Nat.zero_le _,Nat.zero_le _,by simp,.nil,fun x hx=>(by cases hx),fun x hx=>(by cases hx)⟩
  have:=n0.pushB sa sb (by simpa using ha) (by simpa using hb) (by simp only[Array.getElem_toList];omega)
  simpa using this
 by_cases c1:1=b.size
 ·rw[if_pos (by simpa using c1)]
  refine wpS_pure ?_
  rw[hst]
  obtain⟨g1,g2⟩:=zaY m0 sa sb (.inr c1)
  exact q _ _ g1 g2
 rw[if_neg (by simpa using c1)]
 by_cases c2:0+1=a.size
 ·rw[if_pos (by simpa using c2)]
  refine wpS_pure ?_
  rw[hst]
  obtain⟨g1,g2⟩:=zaZ m0 sa sb ha c2 h9
  exact q _ _ g1 g2
 rw[if_neg (by simpa using c2)]
 refine wpS_bind (wpS_get ?_)
 refine wpS_bind (wpS_mono (wpS_forRange (Q:=fun(c:Option (Array Keyed)×Array Keyed×Nat×Nat×Nat) st'=>∃g r,st'=zaI st g∧c.1=some r∧ziJ rk a b r) (fun i (c:Option (Array Keyed)×Array Keyed×Nat×Nat×Nat) st'=>(∃g,st'=zaI st g)∧c.1=none∧Mw rk a b c.2.1 c.2.2.1 c.2.2.2.1∧i<c.2.1.size) ?_ ?_ ⟨⟨_,hst⟩,rfl,⟨m0,by dsimp only;omega,by dsimp only;omega⟩,by simp⟩) ?_)
 ·rintro i ⟨c1,out,ia,ib,mg⟩ st' _ hin ⟨⟨g,rfl⟩,hc1,mw,hsz⟩
  dsimp only at hc1 mw hsz ⊢
  subst hc1
  refine wpS_bind (wpS_mono (wpS_forRange (Q:=fun(c:Option (Array Keyed)×Array Keyed×Nat×Nat×Nat×Nat) st'=>(st'=zaI st g)∧((∃r,c.1=some r∧ziJ rk a b r)∨(c.1=none∧Mw rk a b c.2.1 c.2.2.1 c.2.2.2.1∧i+1<c.2.1.size)))
   (fun j (c:Option (Array Keyed)×Array Keyed×Nat×Nat×Nat×Nat) st'=>(st'=zaI st g)∧c.1=none∧Mw rk a b c.2.1 c.2.2.1 c.2.2.2.1∧i+j<c.2.1.size) ?_ ?_ ⟨rfl,rfl,mw,by dsimp only;omega⟩) ?_)
  ·rintro j ⟨c1,out,ia,ib,ac,bc⟩ st' _ hjn ⟨rfl,hc1,mw,hsz⟩
   dsimp only at hc1 mw hsz ⊢
   subst hc1
   have la:=mw.la
   have lb:=mw.lb
   have lal:ia<a.toList.length:=by simp;omega
   have lbl:ib<b.toList.length:=by simpa using lb
   refine wpS_bind (zaj lb (wpS_bind (zaj (show ia<a.size by omega) (wpS_bind (R.lt _ _ _ _ (ob _ (Array.getElem_mem _)) (oa _ (Array.getElem_mem _)) hk ?_)))))
   dsimp only
   by_cases hlt:rk b[ib]<rk (a[ia]'(by omega))
   ·simp only[hlt,decide_true,if_true]
    have mb:=mw.mi.pushB sa sb lal lbl (by simp only[Array.getElem_toList];omega)
    rw[Array.getElem_toList,←Array.toList_push] at mb
    refine wpS_bind (zaj lb ?_)
    by_cases e1:ib+1=b.size
    ·rw[if_pos (by simpa using e1)]
     exact wpS_pure ⟨rfl,.inl ⟨_,rfl,zaY mb sa sb (.inr e1)⟩⟩
    ·rw[if_neg (by simpa using e1)]
     split
     ·exact wpS_pure ⟨rfl,.inr ⟨rfl,⟨mb,la,by dsimp only;omega⟩,by simp;omega⟩⟩
     ·exact wpS_pure ⟨rfl,rfl,⟨mb,la,by dsimp only;omega⟩,by simp;omega⟩
   ·simp only[hlt,decide_false,Bool.false_eq_true,if_false]
    have ma:=mw.mi.pushA sa sb lal lbl (by simp only[Array.getElem_toList];omega)
    rw[Array.getElem_toList,←Array.toList_push] at ma
    refine wpS_bind (zaj (show ia<a.size by omega) ?_)
    by_cases e1:ia+1+1=a.size
    ·rw[if_pos (by simpa using e1)]
     exact wpS_pure ⟨rfl,.inl ⟨_,rfl,zaZ ma sa sb ha e1 h9⟩⟩
    ·rw[if_neg (by simpa using e1)]
     split
     ·exact wpS_pure ⟨rfl,.inr ⟨rfl,⟨ma,by dsimp only;omega,lb⟩,by simp;omega⟩⟩
     ·exact wpS_pure ⟨rfl,rfl,⟨ma,by dsimp only;omega,lb⟩,by simp;omega⟩
  ·rintro⟨c1,out,ia,ib,ac,bc⟩ st' ⟨rfl,hc1,mw,hsz⟩
   dsimp only at hc1 mw hsz ⊢
   exact⟨rfl,.inr ⟨hc1,mw,by rw[Nat.max_eq_right (Nat.zero_le _)] at hsz;omega⟩⟩
  ·rintro⟨c1,out,ia,ib,ac,bc⟩ st' ⟨rfl,hc⟩
   dsimp only at hc ⊢
   rcases hc with⟨r,rfl,gd⟩ | ⟨rfl,mw,hsz⟩
   ·exact wpS_pure ⟨g,r,rfl,rfl,gd⟩
   ·dsimp only
    refine wpS_bind (zcE ?_)
    refine wpS_bind (wpS_mono (wpS_forRange (Q:=fun(c:Option (Array Keyed)×Array Keyed×Nat×Nat×Nat×Nat×Nat) st'=>(∃g,st'=zaI st g)∧((∃r,c.1=some r∧ziJ rk a b r)∨(c.1=none∧Mw rk a b c.2.1 c.2.2.1 c.2.2.2.1∧i+1<c.2.1.size)))
     (fun j (c:Option (Array Keyed)×Array Keyed×Nat×Nat×Nat×Nat×Nat) st'=>(∃g,st'=zaI st g)∧c.1=none∧Mw rk a b c.2.1 c.2.2.1 c.2.2.2.1∧i+1<c.2.1.size) ?_ ?_ ⟨⟨_,rfl⟩,rfl,mw,hsz⟩) ?_)
    ·clear mw hsz
     rintro j ⟨c1,out,ia,ib,mg,ac,bc⟩ st' _ hjn ⟨⟨g,rfl⟩,hc1,mw,hsz⟩
     dsimp only at hc1 mw hsz ⊢
     subst hc1
     have la:=mw.la
     have lb:=mw.lb
     have ol:=mw.mi.len
     rw[Array.length_toList] at ol
     by_cases hg:mg>1
     ·rw[if_pos hg]
      rw[zaN]
      refine wpS_bind (wpS_modify (wpS_bind (zaj lb ?_)))
      obtain⟨k,ck⟩:=zqF sa ia b[ib]
      refine wpS_bind (zaK R hk oa (ob _ (Array.getElem_mem _)) (by omega) (by omega) ck ?_)
      dsimp only
      obtain⟨m1,m2,m3⟩:=mw.mi.galA sa sb (by omega) lb ck
      by_cases kp:k>0
      ·rw[if_pos kp]
       by_cases e1:ia+k+1=a.size
       ·rw[if_pos (by simpa using e1)]
        exact wpS_pure ⟨⟨_,rfl⟩,.inl ⟨_,rfl,zaZ m1 sa sb ha e1 h9⟩⟩
       rw[if_neg (by simpa using e1)]
       by_cases e2:ia+k=a.size
       ·rw[if_pos (by simpa using e2)]
        exact wpS_pure ⟨⟨_,rfl⟩,.inl ⟨_,rfl,zaY m1 sa sb (.inl e2)⟩⟩
       rw[if_neg (by simpa using e2)]
       have m4:=m3 (by omega)
       rw[zaq (by omega)] at m4
       have mb:=m1.pushB sa sb (show ia+k<a.toList.length by simp;omega) (show ib<b.toList.length by simpa using lb) (by simp only[Array.getElem_toList];omega)
       rw[Array.getElem_toList,←Array.toList_push] at mb
       refine wpS_bind (zaj lb ?_)
       by_cases e3:ib+1=b.size
       ·rw[if_pos (by simpa using e3)]
        exact wpS_pure ⟨⟨_,rfl⟩,.inl ⟨_,rfl,zaY mb sa sb (.inr e3)⟩⟩
       ·rw[if_neg (by simpa using e3)]
        refine wpS_bind (zaj (show ia+k<a.size by omega) ?_)
        obtain⟨k1,ck1⟩:=zmj sb (ib+1) (a[ia+k]'(by omega))
        refine wpS_bind (zaK R hk ob (oa _ (Array.getElem_mem _)) (by omega) (by omega) ck1 ?_)
        dsimp only
        obtain⟨n1,n2,n3⟩:=mb.galB sa sb (by omega) (by omega) ck1
        by_cases kq:k1>0
        ·rw[if_pos kq]
         by_cases e4:ib+1+k1=b.size
         ·rw[if_pos (by simpa using e4)]
          exact wpS_pure ⟨⟨_,rfl⟩,.inl ⟨_,rfl,zaY n1 sa sb (.inr e4)⟩⟩
         rw[if_neg (by simpa using e4)]
         have n4:=n3 (by omega)
         rw[zaq (by omega)] at n4
         have nn:=n1.pushA sa sb (show ia+k<a.toList.length by simp;omega) (show ib+1+k1<b.toList.length by simp;omega) (by simpa using n4)
         rw[Array.getElem_toList,←Array.toList_push] at nn
         refine wpS_bind (zaj (show ia+k<a.size by omega) ?_)
         by_cases e5:ia+k+1+1=a.size
         ·rw[if_pos (by simpa using e5)]
          exact wpS_pure ⟨⟨_,rfl⟩,.inl ⟨_,rfl,zaZ nn sa sb ha e5 h9⟩⟩
         rw[if_neg (by simpa using e5)]
         have nl:=nn.len
         rw[Array.length_toList] at nl
         split
         ·exact wpS_pure ⟨⟨_,rfl⟩,.inr ⟨rfl,⟨nn,by dsimp only;omega,by dsimp only;omega⟩,by dsimp only;omega⟩⟩
         ·exact wpS_pure ⟨⟨_,rfl⟩,rfl,⟨nn,by dsimp only;omega,by dsimp only;omega⟩,by dsimp only;omega⟩
        ·rw[if_neg kq]
         have k0:k1=0:=by omega
         subst k0
         have n4:=n3 (by omega)
         rw[zaq (by omega)] at n4
         have nn:=mb.pushA sa sb (show ia+k<a.toList.length by simp;omega) (show ib+1<b.toList.length by simp;omega) (by simpa using n4)
         rw[Array.getElem_toList,←Array.toList_push] at nn
         refine wpS_bind (zaj (show ia+k<a.size by omega) ?_)
         by_cases e5:ia+k+1+1=a.size
         ·rw[if_pos (by simpa using e5)]
          exact wpS_pure ⟨⟨_,rfl⟩,.inl ⟨_,rfl,zaZ nn sa sb ha e5 h9⟩⟩
         rw[if_neg (by simpa using e5)]
         have nl:=nn.len
         rw[Array.length_toList] at nl
         split
         ·exact wpS_pure ⟨⟨_,rfl⟩,.inr ⟨rfl,⟨nn,by dsimp only;omega,by dsimp only;omega⟩,by dsimp only;omega⟩⟩
         ·exact wpS_pure ⟨⟨_,rfl⟩,rfl,⟨nn,by dsimp only;omega,by dsimp only;omega⟩,by dsimp only;omega⟩
      ·rw[if_neg kp]
       have k0:k=0:=by omega
       subst k0
       have m4:=m3 (by omega)
       rw[zaq (by omega)] at m4
       have mb:=mw.mi.pushB sa sb (show ia<a.toList.length by simp;omega) (show ib<b.toList.length by simpa using lb) (by simp only[Array.getElem_toList];exact Int.le_of_lt m4)
       rw[Array.getElem_toList,←Array.toList_push] at mb
       refine wpS_bind (zaj lb ?_)
       by_cases e3:ib+1=b.size
       ·rw[if_pos (by simpa using e3)]
        exact wpS_pure ⟨⟨_,rfl⟩,.inl ⟨_,rfl,zaY mb sa sb (.inr e3)⟩⟩
       ·rw[if_neg (by simpa using e3)]
        refine wpS_bind (zaj (show ia<a.size by omega) ?_)
        obtain⟨k1,ck1⟩:=zmj sb (ib+1) (a[ia]'(by omega))
        refine wpS_bind (zaK R hk ob (oa _ (Array.getElem_mem _)) (by omega) (by omega) ck1 ?_)
        dsimp only
        obtain⟨n1,n2,n3⟩:=mb.galB sa sb (by omega) (by omega) ck1
        by_cases kq:k1>0
        ·rw[if_pos kq]
         by_cases e4:ib+1+k1=b.size
         ·rw[if_pos (by simpa using e4)]
          exact wpS_pure ⟨⟨_,rfl⟩,.inl ⟨_,rfl,zaY n1 sa sb (.inr e4)⟩⟩
         rw[if_neg (by simpa using e4)]
         have n4:=n3 (by omega)
         rw[zaq (by omega)] at n4
         have nn:=n1.pushA sa sb (show ia<a.toList.length by simp;omega) (show ib+1+k1<b.toList.length by simp;omega) (by simpa using n4)
         rw[Array.getElem_toList,←Array.toList_push] at nn
         refine wpS_bind (zaj (show ia<a.size by omega) ?_)
         by_cases e5:ia+1+1=a.size
         ·rw[if_pos (by simpa using e5)]
          exact wpS_pure ⟨⟨_,rfl⟩,.inl ⟨_,rfl,zaZ nn sa sb ha e5 h9⟩⟩
         rw[if_neg (by simpa using e5)]
         have nl:=nn.len
         rw[Array.length_toList] at nl
         split
         ·exact wpS_pure ⟨⟨_,rfl⟩,.inr ⟨rfl,⟨nn,by dsimp only;omega,by dsimp only;omega⟩,by dsimp only;omega⟩⟩
         ·exact wpS_pure ⟨⟨_,rfl⟩,rfl,⟨nn,by dsimp only;omega,by dsimp only;omega⟩,by dsimp only;omega⟩
        ·rw[if_neg kq]
         have k0:k1=0:=by omega
         subst k0
         have n4:=n3 (by omega)
         rw[zaq (by omega)] at n4
         have nn:=mb.pushA sa sb (show ia<a.toList.length by simp;omega) (show ib+1<b.toList.length by simp;omega) (by simpa using n4)
         rw[Array.getElem_toList,←Array.toList_push] at nn
         refine wpS_bind (zaj (show ia<a.size by omega) ?_)
         by_cases e5:ia+1+1=a.size
         ·rw[if_pos (by simpa using e5)]
          exact wpS_pure ⟨⟨_,rfl⟩,.inl ⟨_,rfl,zaZ nn sa sb ha e5 h9⟩⟩
         rw[if_neg (by simpa using e5)]
         have nl:=nn.len
         rw[Array.length_toList] at nl
         split
         ·exact wpS_pure ⟨⟨_,rfl⟩,.inr ⟨rfl,⟨nn,by dsimp only;omega,by dsimp only;omega⟩,by dsimp only;omega⟩⟩
         ·exact wpS_pure ⟨⟨_,rfl⟩,rfl,⟨nn,by dsimp only;omega,by dsimp only;omega⟩,by dsimp only;omega⟩
     ·rw[if_neg hg]
      rw[zaN]
      refine wpS_bind (wpS_modify (wpS_bind (zaj lb ?_)))
      obtain⟨k,ck⟩:=zqF sa ia b[ib]
      refine wpS_bind (zaK R hk oa (ob _ (Array.getElem_mem _)) (by omega) (by omega) ck ?_)
      dsimp only
      obtain⟨m1,m2,m3⟩:=mw.mi.galA sa sb (by omega) lb ck
      by_cases kp:k>0
      ·rw[if_pos kp]
       by_cases e1:ia+k+1=a.size
       ·rw[if_pos (by simpa using e1)]
        exact wpS_pure ⟨⟨_,rfl⟩,.inl ⟨_,rfl,zaZ m1 sa sb ha e1 h9⟩⟩
       rw[if_neg (by simpa using e1)]
       by_cases e2:ia+k=a.size
       ·rw[if_pos (by simpa using e2)]
        exact wpS_pure ⟨⟨_,rfl⟩,.inl ⟨_,rfl,zaY m1 sa sb (.inl e2)⟩⟩
       rw[if_neg (by simpa using e2)]
       have m4:=m3 (by omega)
       rw[zaq (by omega)] at m4
       have mb:=m1.pushB sa sb (show ia+k<a.toList.length by simp;omega) (show ib<b.toList.length by simpa using lb) (by simp only[Array.getElem_toList];omega)
       rw[Array.getElem_toList,←Array.toList_push] at mb
       refine wpS_bind (zaj lb ?_)
       by_cases e3:ib+1=b.size
       ·rw[if_pos (by simpa using e3)]
        exact wpS_pure ⟨⟨_,rfl⟩,.inl ⟨_,rfl,zaY mb sa sb (.inr e3)⟩⟩
       ·rw[if_neg (by simpa using e3)]
        refine wpS_bind (zaj (show ia+k<a.size by omega) ?_)
        obtain⟨k1,ck1⟩:=zmj sb (ib+1) (a[ia+k]'(by omega))
        refine wpS_bind (zaK R hk ob (oa _ (Array.getElem_mem _)) (by omega) (by omega) ck1 ?_)
        dsimp only
        obtain⟨n1,n2,n3⟩:=mb.galB sa sb (by omega) (by omega) ck1
        by_cases kq:k1>0
        ·rw[if_pos kq]
         by_cases e4:ib+1+k1=b.size
         ·rw[if_pos (by simpa using e4)]
          exact wpS_pure ⟨⟨_,rfl⟩,.inl ⟨_,rfl,zaY n1 sa sb (.inr e4)⟩⟩
         rw[if_neg (by simpa using e4)]
         have n4:=n3 (by omega)
         rw[zaq (by omega)] at n4
         have nn:=n1.pushA sa sb (show ia+k<a.toList.length by simp;omega) (show ib+1+k1<b.toList.length by simp;omega) (by simpa using n4)
         rw[Array.getElem_toList,←Array.toList_push] at nn
         refine wpS_bind (zaj (show ia+k<a.size by omega) ?_)
         by_cases e5:ia+k+1+1=a.size
         ·rw[if_pos (by simpa using e5)]
          exact wpS_pure ⟨⟨_,rfl⟩,.inl ⟨_,rfl,zaZ nn sa sb ha e5 h9⟩⟩
         rw[if_neg (by simpa using e5)]
         have nl:=nn.len
         rw[Array.length_toList] at nl
         split
         ·exact wpS_pure ⟨⟨_,rfl⟩,.inr ⟨rfl,⟨nn,by dsimp only;omega,by dsimp only;omega⟩,by dsimp only;omega⟩⟩
         ·exact wpS_pure ⟨⟨_,rfl⟩,rfl,⟨nn,by dsimp only;omega,by dsimp only;omega⟩,by dsimp only;omega⟩
        ·rw[if_neg kq]
         have k0:k1=0:=by omega
         subst k0
         have n4:=n3 (by omega)
         rw[zaq (by omega)] at n4
         have nn:=mb.pushA sa sb (show ia+k<a.toList.length by simp;omega) (show ib+1<b.toList.length by simp;omega) (by simpa using n4)
         rw[Array.getElem_toList,←Array.toList_push] at nn
         refine wpS_bind (zaj (show ia+k<a.size by omega) ?_)
         by_cases e5:ia+k+1+1=a.size
         ·rw[if_pos (by simpa using e5)]
          exact wpS_pure ⟨⟨_,rfl⟩,.inl ⟨_,rfl,zaZ nn sa sb ha e5 h9⟩⟩
         rw[if_neg (by simpa using e5)]
         have nl:=nn.len
         rw[Array.length_toList] at nl
         split
         ·exact wpS_pure ⟨⟨_,rfl⟩,.inr ⟨rfl,⟨nn,by dsimp only;omega,by dsimp only;omega⟩,by dsimp only;omega⟩⟩
         ·exact wpS_pure ⟨⟨_,rfl⟩,rfl,⟨nn,by dsimp only;omega,by dsimp only;omega⟩,by dsimp only;omega⟩
      ·rw[if_neg kp]
       have k0:k=0:=by omega
       subst k0
       have m4:=m3 (by omega)
       rw[zaq (by omega)] at m4
       have mb:=mw.mi.pushB sa sb (show ia<a.toList.length by simp;omega) (show ib<b.toList.length by simpa using lb) (by simp only[Array.getElem_toList];exact Int.le_of_lt m4)
       rw[Array.getElem_toList,←Array.toList_push] at mb
       refine wpS_bind (zaj lb ?_)
       by_cases e3:ib+1=b.size
       ·rw[if_pos (by simpa using e3)]
        exact wpS_pure ⟨⟨_,rfl⟩,.inl ⟨_,rfl,zaY mb sa sb (.inr e3)⟩⟩
       ·rw[if_neg (by simpa using e3)]
        refine wpS_bind (zaj (show ia<a.size by omega) ?_)
        obtain⟨k1,ck1⟩:=zmj sb (ib+1) (a[ia]'(by omega))
        refine wpS_bind (zaK R hk ob (oa _ (Array.getElem_mem _)) (by omega) (by omega) ck1 ?_)
        dsimp only
        obtain⟨n1,n2,n3⟩:=mb.galB sa sb (by omega) (by omega) ck1
        by_cases kq:k1>0
        ·rw[if_pos kq]
         by_cases e4:ib+1+k1=b.size
         ·rw[if_pos (by simpa using e4)]
          exact wpS_pure ⟨⟨_,rfl⟩,.inl ⟨_,rfl,zaY n1 sa sb (.inr e4)⟩⟩
         rw[if_neg (by simpa using e4)]
         have n4:=n3 (by omega)
         rw[zaq (by omega)] at n4
         have nn:=n1.pushA sa sb (show ia<a.toList.length by simp;omega) (show ib+1+k1<b.toList.length by simp;omega) (by simpa using n4)
         rw[Array.getElem_toList,←Array.toList_push] at nn
         refine wpS_bind (zaj (show ia<a.size by omega) ?_)
         by_cases e5:ia+1+1=a.size
         ·rw[if_pos (by simpa using e5)]
          exact wpS_pure ⟨⟨_,rfl⟩,.inl ⟨_,rfl,zaZ nn sa sb ha e5 h9⟩⟩
         rw[if_neg (by simpa using e5)]
         have nl:=nn.len
         rw[Array.length_toList] at nl
         split
         ·exact wpS_pure ⟨⟨_,rfl⟩,.inr ⟨rfl,⟨nn,by dsimp only;omega,by dsimp only;omega⟩,by dsimp only;omega⟩⟩
         ·exact wpS_pure ⟨⟨_,rfl⟩,rfl,⟨nn,by dsimp only;omega,by dsimp only;omega⟩,by dsimp only;omega⟩
        ·rw[if_neg kq]
         have k0:k1=0:=by omega
         subst k0
         have n4:=n3 (by omega)
         rw[zaq (by omega)] at n4
         have nn:=mb.pushA sa sb (show ia<a.toList.length by simp;omega) (show ib+1<b.toList.length by simp;omega) (by simpa using n4)
         rw[Array.getElem_toList,←Array.toList_push] at nn
         refine wpS_bind (zaj (show ia<a.size by omega) ?_)
         by_cases e5:ia+1+1=a.size
         ·rw[if_pos (by simpa using e5)]
          exact wpS_pure ⟨⟨_,rfl⟩,.inl ⟨_,rfl,zaZ nn sa sb ha e5 h9⟩⟩
         rw[if_neg (by simpa using e5)]
         have nl:=nn.len
         rw[Array.length_toList] at nl
         split
         ·exact wpS_pure ⟨⟨_,rfl⟩,.inr ⟨rfl,⟨nn,by dsimp only;omega,by dsimp only;omega⟩,by dsimp only;omega⟩⟩
         ·exact wpS_pure ⟨⟨_,rfl⟩,rfl,⟨nn,by dsimp only;omega,by dsimp only;omega⟩,by dsimp only;omega⟩
    ·rintro⟨c1,out,ia,ib,mg,ac,bc⟩ st' ⟨⟨g,rfl⟩,hc1,mw,hsz⟩
     dsimp only at hc1 mw hsz ⊢
     exact⟨⟨g,rfl⟩,.inr ⟨hc1,mw,hsz⟩⟩
    ·rintro⟨c1,out,ia,ib,mg,ac,bc⟩ st' ⟨⟨g,rfl⟩,hc⟩
     dsimp only at hc ⊢
     rcases hc with⟨r,rfl,gd⟩ | ⟨rfl,mw,hsz⟩
     ·exact wpS_pure ⟨g,r,rfl,rfl,gd⟩
     ·dsimp only
      rw[zaN]
      exact wpS_bind (wpS_modify (wpS_pure ⟨⟨_,rfl⟩,rfl,mw,hsz⟩))
 ·rintro⟨c1,out,ia,ib,mg⟩ st' ⟨⟨g,rfl⟩,hc1,mw,hsz⟩
  dsimp only at hc1 mw hsz ⊢
  exfalso
  have h1:=mw.mi.len
  have h2:=mw.la
  have h3:=mw.lb
  rw[Array.length_toList] at h1
  rw[Nat.max_eq_right (Nat.zero_le _)] at hsz
  omega
 ·rintro⟨c1,out,ia,ib,mg⟩ st' ⟨g,r,rfl,rfl,g1,g2⟩
  exact wpS_pure (q r g g1 g2)
end Ts
namespace Ts
open PySem PyProof.Rows
section
variable {α:Type} (rk:α→Int)
structure MH (a b out:List α) (na nb:Nat):Prop where
 la:na≤a.length
 lb:nb≤b.length
 pm:out.reverse.Perm (a.drop na++b.drop nb)
 so:out.reverse.Pairwise fun x y=>rk x≤rk y
 ga:∀y∈a.take na,∀x∈out,rk y≤rk x
 gb:∀y∈b.take nb,∀x∈out,rk y≤rk x
variable {rk}
theorem MH.len{a b out:List α}{na nb:Nat}(h:MH rk a b out na nb):out.length+na+nb=a.length+b.length:=by
 have:=h.pm.length_eq
 rw[List.length_append,List.length_drop,List.length_drop,List.length_reverse] at this
 have:=h.la
 have:=h.lb
 omega
theorem MH.swap{a b out:List α}{na nb:Nat}(h:MH rk a b out na nb):MH rk b a out nb na:=⟨h.lb,h.la,h.pm.trans List.perm_append_comm,h.so,h.gb,h.ga⟩
theorem zf6{l:List α}{n t:Nat}(ht:t≤n):l.take n=l.take t++(l.take n).drop t:=by
 have:=(List.take_append_drop t (l.take n)).symm
 rwa [List.take_take,Nat.min_eq_left ht] at this
theorem MH.blockA{a b out:List α}{na nb:Nat}(h:MH rk a b out na nb)(sa:a.Pairwise fun x y=>rk x≤rk y){t:Nat}(ht:t≤na)(hb:∀x∈(a.take na).drop t,∀y∈b.take nb,rk y≤rk x):MH rk a b (out++((a.take na).drop t).reverse) t nb:=by
 have hla:=h.la
 have sd:(a.take na).Pairwise fun x y=>rk x≤rk y:=sa.sublist (List.take_sublist _ _)
 rw[zf6 ht,List.pairwise_append] at sd
 have ga:=h.ga
 rw[zf6 ht] at ga
 have er:(out++((a.take na).drop t).reverse).reverse=(a.take na).drop t++out.reverse:=by rw[List.reverse_append,List.reverse_reverse]
 refine⟨by omega,h.lb,?_,?_,fun y hy x hx=>?_,fun y hy x hx=>?_⟩
 ·rw[er]
  refine(h.pm.append_left _).trans ?_
  rw[←List.append_assoc]
  refine List.Perm.append_right _ ?_
  have:a.drop t=(a.take na).drop t++a.drop na:=by
   have e:a=a.take na++a.drop na:=(List.take_append_drop na a).symm
   rw[show a.drop t=(a.take na++a.drop na).drop t by rw[←e],List.drop_append_of_le_length (by simp;omega)]
  rw[this]
 ·rw[er,List.pairwise_append]
  exact⟨sd.2.1,h.so,fun x hx y hy=>ga x (List.mem_append_right _ hx) y (List.mem_reverse.mp hy)⟩
 ·rcases List.mem_append.mp hx with hx | hx
  ·exact ga y (List.mem_append_left _ hy) x hx
  ·exact sd.2.2 y hy x (List.mem_reverse.mp hx)
 ·rcases List.mem_append.mp hx with hx | hx
  ·exact h.gb y hy x hx
  ·exact hb x (List.mem_reverse.mp hx) y hy
theorem MH.blockB{a b out:List α}{na nb:Nat}(h:MH rk a b out na nb)(sb:b.Pairwise fun x y=>rk x≤rk y){t:Nat}(ht:t≤nb)(ha:∀x∈(b.take nb).drop t,∀y∈a.take na,rk y≤rk x):MH rk a b (out++((b.take nb).drop t).reverse) na t:=(h.swap.blockA sb ht ha).swap
theorem zht{l:List α}{n:Nat}(h:n<l.length):(l.take (n+1)).drop n=[l[n]]:=by
 rw[List.take_add_one,List.getElem?_eq_getElem h,List.drop_append_of_le_length (by simp;omega),List.drop_eq_nil_of_le (by rw[List.length_take];omega)]
 rfl
theorem zjx{l:List α}(s:l.Pairwise fun x y=>rk x≤rk y){n:Nat}(h:n<l.length):∀y∈l.take (n+1),rk y≤rk l[n]:=by
 intro y hy
 obtain⟨i,hi,rfl⟩:=List.getElem_of_mem hy
 have hi2:i≤n:=by simp at hi;omega
 rw[List.getElem_take]
 by_cases e:i=n
 ·subst e;exact Int.le_refl _
 ·exact List.pairwise_iff_getElem.mp s i n (by omega) h (by omega)
theorem MH.pushA{a b out:List α}{na nb:Nat}(h:MH rk a b out (na+1) (nb+1))(sa:a.Pairwise fun x y=>rk x≤rk y)(sb:b.Pairwise fun x y=>rk x≤rk y)(hi:na<a.length)(hj:nb<b.length)(hle:rk b[nb]≤rk a[na]):MH rk a b (out++[a[na]]) na (nb+1):=by
 have:=h.blockA sa (t:=na) (by omega) (fun x hx y hy=>by
  rw[zht hi] at hx
  simp at hx
  subst hx
  exact Int.le_trans (zjx sb hj y hy) hle)
 rwa [zht hi] at this
theorem MH.pushB{a b out:List α}{na nb:Nat}(h:MH rk a b out (na+1) (nb+1))(sa:a.Pairwise fun x y=>rk x≤rk y)(sb:b.Pairwise fun x y=>rk x≤rk y)(hi:na<a.length)(hj:nb<b.length)(hle:rk a[na]≤rk b[nb]):MH rk a b (out++[b[nb]]) (na+1) nb:=(h.swap.pushA sb sa hj hi hle).swap
theorem MH.closeAB{a b out:List α}{na nb:Nat}(h:MH rk a b out na nb)(sa:a.Pairwise fun x y=>rk x≤rk y)(sb:b.Pairwise fun x y=>rk x≤rk y)(hle:∀x∈a.take na,∀y∈b.take nb,rk x≤rk y) :
  (a.take na++b.take nb++out.reverse).Perm (a++b)∧(a.take na++b.take nb++out.reverse).Pairwise fun x y=>rk x≤rk y:=by
 have h1:=h.blockB sb (t:=0) (Nat.zero_le _) (fun x hx y hy=>hle y hy x (by simpa using hx))
 have h2:=h1.blockA sa (t:=0) (Nat.zero_le _) (fun x hx y hy=>by simp at hy)
 have e:(out++((b.take nb).drop 0).reverse++((a.take na).drop 0).reverse).reverse=a.take na++b.take nb++out.reverse:=by simp
 have p:=h2.pm
 have s:=h2.so
 rw[e] at p s
 exact⟨by simpa using p,s⟩
theorem MH.closeBA{a b out:List α}{na nb:Nat}(h:MH rk a b out na nb)(sa:a.Pairwise fun x y=>rk x≤rk y)(sb:b.Pairwise fun x y=>rk x≤rk y)(hle:∀x∈b.take nb,∀y∈a.take na,rk x≤rk y) :
  (b.take nb++a.take na++out.reverse).Perm (a++b)∧(b.take nb++a.take na++out.reverse).Pairwise fun x y=>rk x≤rk y:=by
 obtain⟨h1,h2⟩:=h.swap.closeAB sb sa hle
 exact⟨h1.trans List.perm_append_comm,h2⟩
end
theorem zh6(a b:Array Keyed):zgv a b=(do
 rule "list.sort.merge-hi"
 let total:=a.size+b.size
 let done (out:Array Keyed) (na nb:Nat):=a.extract 0 na++b.extract 0 nb++out.reverse
 let firstOfB (out:Array Keyed) (na nb:Nat):=b.extract 0 nb++a.extract 0 na++out.reverse
 let mut na:=a.size-1
 let mut nb:=b.size
 let mut out:Array Keyed:=#[←elem' a na]
 if na==0 then return done out na nb
 if nb==1 then return firstOfB out na nb
 let mut minGallop:=gallopOf (←get)
 for _ in [0:total] do
  let mut acount:=0
  let mut bcount:=0
  for _ in [0:total] do
   let some aWins ←lt' (←elem' b (nb-1)) (←elem' a (na-1)) | return done out na nb
   if aWins then
    na:=na-1;out:=out.push (←elem' a na);acount:=acount+1;bcount:=0
    if na==0 then return done out na nb
    if acount≥minGallop then break
   else
    nb:=nb-1;out:=out.push (←elem' b nb);bcount:=bcount+1;acount:=0
    if nb==1 then return firstOfB out na nb
    if bcount≥minGallop then break
  rule "list.sort.gallop"
  minGallop:=minGallop+1
  for _ in [0:total] do
   if minGallop>1 then minGallop:=minGallop-1
   zbB minGallop
   let some at_ ←zcS false (←elem' b (nb-1)) a 0 na (na-1) | return done out na nb
   let k:=na-at_
   acount:=k
   if k>0 then
    out:=out++(a.extract at_ na).reverse;na:=at_
    if na==0 then return done out na nb
   nb:=nb-1;out:=out.push (←elem' b nb)
   if nb==1 then return firstOfB out na nb
   let some at_ ←zcS true (←elem' a (na-1)) b 0 nb (nb-1) | return done out na nb
   let k:=nb-at_
   bcount:=k
   if k>0 then
    out:=out++(b.extract at_ nb).reverse;nb:=at_
    if nb==1 then return firstOfB out na nb
    if nb==0 then return done out na nb
   na:=na-1;out:=out.push (←elem' a na)
   if na==0 then return done out na nb
   if acount<7&&bcount<7 then break
  minGallop:=minGallop+1
  zbB minGallop
 unsupported "internal:list.sort.merge-bound"):=rfl
theorem ziL(a:Array Keyed)(n:Nat):(a.extract 0 n).toList=a.toList.take n:=by
 rw[Array.toList_extract]
 simp[List.extract]
theorem ziM(a:Array Keyed){t n:Nat}(h:n≤a.size):(a.extract t n).toList=(a.toList.take n).drop t:=by
 rw[Array.toList_extract]
 simp only[List.extract]
 rw[List.drop_take]
structure Mv (rk:Keyed→Int) (a b out:Array Keyed) (na nb:Nat):Prop where
 mh:MH rk a.toList b.toList out.toList na nb
 la:0<na
 lb:1<nb
section
variable {rk:Keyed→Int} {a b out:Array Keyed} {na nb:Nat}
theorem zaD(h:MH rk a.toList b.toList out.toList na nb)(sa:Srt rk a.toList)(sb:Srt rk b.toList)(hi:na=0∨nb=0):ziJ rk a b (a.extract 0 na++b.extract 0 nb++out.reverse):=by
 obtain⟨h1,h2⟩:=h.closeAB sa sb (fun x hx y hy=>by
  rcases hi with e | e
  ·rw[e] at hx;simp at hx
  ·rw[e] at hy;simp at hy)
 unfold ziJ Srt
 rw[Array.toList_append,Array.toList_append,ziL,ziL,Array.toList_reverse]
 exact⟨h1,h2⟩
theorem za0(h:MH rk a.toList b.toList out.toList na nb)(sa:Srt rk a.toList)(sb:Srt rk b.toList)(hb:0<b.size)(hi:nb=1)(h0:∀x∈a,rk b[0]<rk x):ziJ rk a b (b.extract 0 nb++a.extract 0 na++out.reverse):=by
 obtain⟨h1,h2⟩:=h.closeBA sa sb (fun x hx y hy=>by
  have e:b.toList.take nb=[b[0]]:=by
   have hl:0<b.toList.length:=by simpa using hb
   rw[hi,show(1:Nat)=0+1 from rfl,List.take_add_one,List.getElem?_eq_getElem hl]
   simp
  rw[e] at hx
  simp at hx
  subst hx
  have:=h0 y (by simpa using List.mem_of_mem_take hy)
  omega)
 unfold ziJ Srt
 rw[Array.toList_append,Array.toList_append,ziL,ziL,Array.toList_reverse]
 exact⟨h1,h2⟩
theorem zgx{t n:Nat}(hn:n≤a.size){x:Keyed}(hx:x∈(a.toList.take n).drop t):∃u,t≤u∧u<n∧x=a.getD u dk:=by
 obtain⟨u,hu,e⟩:=List.getElem_of_mem hx
 have hu2:t+u<n:=by simp at hu;omega
 refine⟨t+u,by omega,hu2,?_⟩
 rw[zaq (by omega),←e]
 simp
theorem zmY{n:Nat}(hn:n≤a.size){x:Keyed}(hx:x∈a.toList.take n):∃u,u<n∧x=a.getD u dk:=by
 obtain⟨u,_,h1,h2⟩:=zgx (a:=a) (t:=0) hn (x:=x) (by simpa using hx)
 exact⟨u,h1,h2⟩
theorem MH.galA{nb' t:Nat}(h:MH rk a.toList b.toList out.toList na (nb'+1))(sa:Srt rk a.toList)(sb:Srt rk b.toList)(lb:nb'<b.size)(hc:Cut (fun i=>if false=true then decide (rk (a.getD (0+i) dk)<rk b[nb']) else !decide (rk b[nb']<rk (a.getD (0+i) dk))) na t) :
  MH rk a.toList b.toList (out++(a.extract t na).reverse).toList t (nb'+1)∧t≤na∧∀u,u+1=t→rk (a.getD u dk)≤rk b[nb']:=by
 have hla:=h.la
 rw[Array.length_toList] at hla
 refine⟨?_,hc.1,fun u hu=>?_⟩
 ·rw[Array.toList_append,Array.toList_reverse,ziM a hla]
  refine h.blockA sa hc.1 fun x hx y hy=>?_
  obtain⟨u,u1,u2,rfl⟩:=zgx hla hx
  obtain⟨v,v1,rfl⟩:=zmY (by omega) hy
  have h1:=mt (hc.2 u u2).mp (by omega)
  have h2:=zcd (rk:=rk) sb (show v≤nb' by omega) lb
  rw[zaq lb] at h2
  simp only[Bool.false_eq_true,if_false,Bool.not_eq_true',decide_eq_false_iff_not,Nat.zero_add] at h1
  omega
 ·have:=hc.1
  have h1:=(hc.2 u (by omega)).mpr (by omega)
  simpa using h1
theorem MH.galB{na' t:Nat}(h:MH rk a.toList b.toList out.toList (na'+1) nb)(sa:Srt rk a.toList)(sb:Srt rk b.toList)(la:na'<a.size)(hc:Cut (fun i=>if true=true then decide (rk (b.getD (0+i) dk)<rk a[na']) else !decide (rk a[na']<rk (b.getD (0+i) dk))) nb t) :
  MH rk a.toList b.toList (out++(b.extract t nb).reverse).toList (na'+1) t∧t≤nb∧∀u,u+1=t→rk (b.getD u dk)<rk a[na']:=by
 have hlb:=h.lb
 rw[Array.length_toList] at hlb
 refine⟨?_,hc.1,fun u hu=>?_⟩
 ·rw[Array.toList_append,Array.toList_reverse,ziM b hlb]
  refine h.blockB sb hc.1 fun x hx y hy=>?_
  obtain⟨u,u1,u2,rfl⟩:=zgx hlb hx
  obtain⟨v,v1,rfl⟩:=zmY (by omega) hy
  have h1:=mt (hc.2 u u2).mp (by omega)
  have h2:=zcd (rk:=rk) sa (show v≤na' by omega) la
  rw[zaq la] at h2
  simp only[if_true,decide_eq_true_eq,Nat.zero_add] at h1
  omega
 ·have:=hc.1
  have h1:=(hc.2 u (by omega)).mpr (by omega)
  simpa using h1
end
end Ts
namespace Ts
open PySem PyProof.Rows
theorem zpa{rk:Keyed→Int}{a:Array Keyed}(sa:Srt rk a.toList){n:Nat}(hn:n≤a.size)(key:Keyed):∃k,Cut (fun i=>if false=true then decide (rk (a.getD (0+i) dk)<rk key) else !decide (rk key<rk (a.getD (0+i) dk))) n k:=
 zep _ _ fun i j hij hj h=>by
  have:=zcd (rk:=rk) sa (show 0+i≤0+j by omega) (by omega)
  simp only[Bool.false_eq_true,if_false,Bool.not_eq_true',decide_eq_false_iff_not] at h ⊢
  omega
theorem zmk{rk:Keyed→Int}{b:Array Keyed}(sb:Srt rk b.toList){n:Nat}(hn:n≤b.size)(key:Keyed):∃k,Cut (fun i=>if true=true then decide (rk (b.getD (0+i) dk)<rk key) else !decide (rk key<rk (b.getD (0+i) dk))) n k:=
 zep _ _ fun i j hij hj h=>by
  have:=zcd (rk:=rk) sb (show 0+i≤0+j by omega) (by omega)
  simp only[if_true,decide_eq_true_eq] at h ⊢
  omega
variable {M:Model} {A:Around} {E:Value→Shared→Prop} {s:Shared}
theorem zh7{κ:SortKind}{ok:Keyed→Prop}{rk:Keyed→Int}(R:Rk M A E s κ ok rk){a b:Array Keyed}{Q:Array Keyed→SortSt→Prop}{st:SortSt}(hk:kindOf st=κ)(oa:∀x∈a,ok x)(ob:∀x∈b,ok x)(sa:Srt rk a.toList)(sb:Srt rk b.toList)(ha:0<a.size)(hb:0<b.size)
  (h0:∀x∈a,rk b[0]<rk x) (h9:rk (b[b.size-1])<rk (a[a.size-1])) (q:∀(r:Array Keyed) g,r.toList.Perm (a.toList++b.toList)→Srt rk r.toList→Q r (zaI st g)):wpS M A E s (zgv a b) Q st:=by
 rw[zh6]
 refine wpS_bind (zcE ?_)
 refine wpS_bind (zaj (show a.size-1<a.size by omega) ?_)
 dsimp only
 have hst:st=zaI st (gallopOf st):=rfl
 have m0:MH rk a.toList b.toList (#[a[a.size-1]]:Array Keyed).toList (a.size-1) b.size:=by
  have n0:MH rk a.toList b.toList [] (a.size-1+1) (b.size-1+1):=⟨by simp;omega,by simp;omega,by
   rw[show a.size-1+1=a.size by omega,show b.size-1+1=b.size by omega];simp,.nil,fun y _ x hx=>(by cases hx),fun y _ x hx=>(by cases hx)⟩
  have:=n0.pushA sa sb (by simp;omega) (by simp;omega) (by simp only[Array.getElem_toList];omega)
  rw[show b.size-1+1=b.size by omega] at this
  simpa using this
 by_cases c1:a.size-1=0
 ·rw[if_pos (by simpa using c1)]
  refine wpS_pure ?_
  rw[hst]
  obtain⟨g1,g2⟩:=zaD m0 sa sb (.inl c1)
  exact q _ _ g1 g2
 rw[if_neg (by simpa using c1)]
 by_cases c2:b.size=1
 ·rw[if_pos (by simpa using c2)]
  refine wpS_pure ?_
  rw[hst]
  obtain⟨g1,g2⟩:=za0 m0 sa sb hb c2 h0
  exact q _ _ g1 g2
 rw[if_neg (by simpa using c2)]
 refine wpS_bind (wpS_get ?_)
 refine wpS_bind (wpS_mono (wpS_forRange (Q:=fun(c:Option (Array Keyed)×Nat×Nat×Array Keyed×Nat) st'=>∃g r,st'=zaI st g∧c.1=some r∧ziJ rk a b r) (fun i (c:Option (Array Keyed)×Nat×Nat×Array Keyed×Nat) st'=>(∃g,st'=zaI st g)∧c.1=none∧Mv rk a b c.2.2.2.1 c.2.1 c.2.2.1∧i<c.2.2.2.1.size) ?_ ?_ ⟨⟨_,hst⟩,rfl,⟨m0,by dsimp only;omega,by dsimp only;omega⟩,by simp⟩) ?_)
 ·rintro i ⟨c1,na,nb,out,mg⟩ st' _ hin ⟨⟨g,rfl⟩,hc1,mw,hsz⟩
  dsimp only at hc1 mw hsz ⊢
  subst hc1
  refine wpS_bind (wpS_mono (wpS_forRange (Q:=fun(c:Option (Array Keyed)×Nat×Nat×Array Keyed×Nat×Nat) st'=>(st'=zaI st g)∧((∃r,c.1=some r∧ziJ rk a b r)∨(c.1=none∧Mv rk a b c.2.2.2.1 c.2.1 c.2.2.1∧i+1<c.2.2.2.1.size)))
   (fun j (c:Option (Array Keyed)×Nat×Nat×Array Keyed×Nat×Nat) st'=>(st'=zaI st g)∧c.1=none∧Mv rk a b c.2.2.2.1 c.2.1 c.2.2.1∧i+j<c.2.2.2.1.size) ?_ ?_ ⟨rfl,rfl,mw,by dsimp only;omega⟩) ?_)
  ·rintro j ⟨c1,na,nb,out,ac,bc⟩ st' _ hjn ⟨rfl,hc1,mw,hsz⟩
   dsimp only at hc1 mw hsz ⊢
   subst hc1
   have la:=mw.la
   have lb:=mw.lb
   have las:=mw.mh.la
   have lbs:=mw.mh.lb
   rw[Array.length_toList] at las lbs
   obtain⟨na,rfl⟩:∃n,na=n+1:=⟨na-1,by omega⟩
   obtain⟨nb,rfl⟩:∃n,nb=n+1:=⟨nb-1,by omega⟩
   simp only[Nat.add_sub_cancel]
   refine wpS_bind (zaj (show nb<b.size by omega) (wpS_bind (zaj (show na<a.size by omega) (wpS_bind (R.lt _ _ _ _ (ob _ (Array.getElem_mem _)) (oa _ (Array.getElem_mem _)) hk ?_)))))
   dsimp only
   by_cases hlt:rk (b[nb]'(by omega))<rk (a[na]'(by omega))
   ·simp only[hlt,decide_true,if_true]
    have ma:=mw.mh.pushA sa sb (show na<a.toList.length by simp;omega) (show nb<b.toList.length by simp;omega) (by simp only[Array.getElem_toList];omega)
    rw[Array.getElem_toList,←Array.toList_push] at ma
    refine wpS_bind (zaj (show na<a.size by omega) ?_)
    by_cases e1:na=0
    ·rw[if_pos (by simpa using e1)]
     exact wpS_pure ⟨rfl,.inl ⟨_,rfl,zaD ma sa sb (.inl e1)⟩⟩
    ·rw[if_neg (by simpa using e1)]
     split
     ·exact wpS_pure ⟨rfl,.inr ⟨rfl,⟨ma,by dsimp only;omega,lb⟩,by simp;omega⟩⟩
     ·exact wpS_pure ⟨rfl,rfl,⟨ma,by dsimp only;omega,lb⟩,by simp;omega⟩
   ·simp only[hlt,decide_false,Bool.false_eq_true,if_false]
    have mb:=mw.mh.pushB sa sb (show na<a.toList.length by simp;omega) (show nb<b.toList.length by simp;omega) (by simp only[Array.getElem_toList];omega)
    rw[Array.getElem_toList,←Array.toList_push] at mb
    refine wpS_bind (zaj (show nb<b.size by omega) ?_)
    by_cases e1:nb=1
    ·rw[if_pos (by simpa using e1)]
     exact wpS_pure ⟨rfl,.inl ⟨_,rfl,za0 mb sa sb hb e1 h0⟩⟩
    ·rw[if_neg (by simpa using e1)]
     split
     ·exact wpS_pure ⟨rfl,.inr ⟨rfl,⟨mb,la,by dsimp only;omega⟩,by simp;omega⟩⟩
     ·exact wpS_pure ⟨rfl,rfl,⟨mb,la,by dsimp only;omega⟩,by simp;omega⟩
  ·rintro⟨c1,na,nb,out,ac,bc⟩ st' ⟨rfl,hc1,mw,hsz⟩
   dsimp only at hc1 mw hsz ⊢
   exact⟨rfl,.inr ⟨hc1,mw,by rw[Nat.max_eq_right (Nat.zero_le _)] at hsz;omega⟩⟩
  ·rintro⟨c1,na,nb,out,ac,bc⟩ st' ⟨rfl,hc⟩
   dsimp only at hc ⊢
   rcases hc with⟨r,rfl,gd⟩ | ⟨rfl,mw,hsz⟩
   ·exact wpS_pure ⟨g,r,rfl,rfl,gd⟩
   ·dsimp only
    refine wpS_bind (zcE ?_)
    refine wpS_bind (wpS_mono (wpS_forRange (Q:=fun(c:Option (Array Keyed)×Nat×Nat×Array Keyed×Nat×Nat×Nat) st'=>(∃g,st'=zaI st g)∧((∃r,c.1=some r∧ziJ rk a b r)∨(c.1=none∧Mv rk a b c.2.2.2.1 c.2.1 c.2.2.1∧i+1<c.2.2.2.1.size)))
     (fun j (c:Option (Array Keyed)×Nat×Nat×Array Keyed×Nat×Nat×Nat) st'=>(∃g,st'=zaI st g)∧c.1=none∧Mv rk a b c.2.2.2.1 c.2.1 c.2.2.1∧i+1<c.2.2.2.1.size) ?_ ?_ ⟨⟨_,rfl⟩,rfl,mw,hsz⟩) ?_)
    ·clear mw hsz
     rintro j ⟨c1,na,nb,out,mg,ac,bc⟩ st' _ hjn ⟨⟨g,rfl⟩,hc1,mw,hsz⟩
     dsimp only at hc1 mw hsz ⊢
     subst hc1
     have la:=mw.la
     have lb:=mw.lb
     have las2:=mw.mh.la
     have lbs2:=mw.mh.lb
     have ol:=mw.mh.len
     simp only[Array.length_toList] at las2 lbs2 ol
     obtain⟨na,rfl⟩:∃n,na=n+1:=⟨na-1,by omega⟩
     obtain⟨nb,rfl⟩:∃n,nb=n+1:=⟨nb-1,by omega⟩
     have lbs:nb<b.size:=by omega
     simp only[Nat.add_sub_cancel]
     by_cases hg:mg>1
     ·rw[if_pos hg]
      rw[zaN]
      refine wpS_bind (wpS_modify (wpS_bind (zaj lbs ?_)))
      obtain⟨t,ct⟩:=zpa sa las2 b[nb]
      refine wpS_bind (zaK R hk oa (ob _ (Array.getElem_mem _)) (by omega) (by omega) ct ?_)
      dsimp only
      obtain⟨m1,m2,m3⟩:=mw.mh.galA sa sb lbs ct
      by_cases kp:na+1-t>0
      ·rw[if_pos kp]
       by_cases e1:t=0
       ·rw[if_pos (by simpa using e1)]
        exact wpS_pure ⟨⟨_,rfl⟩,.inl ⟨_,rfl,zaD m1 sa sb (.inl e1)⟩⟩
       rw[if_neg (by simpa using e1)]
       obtain⟨t,rfl⟩:∃v,t=v+1:=⟨t-1,by omega⟩
       simp only[Nat.add_sub_cancel]
       have m4:=m3 t rfl
       rw[zaq (by omega)] at m4
       have mb:=m1.pushB sa sb (show t<a.toList.length by simp;omega) (show nb<b.toList.length by simpa using lbs) (by simpa using m4)
       rw[Array.getElem_toList,←Array.toList_push] at mb
       refine wpS_bind (zaj lbs ?_)
       by_cases e3:nb=1
       ·rw[if_pos (by simpa using e3)]
        exact wpS_pure ⟨⟨_,rfl⟩,.inl ⟨_,rfl,za0 mb sa sb hb e3 h0⟩⟩
       rw[if_neg (by simpa using e3)]
       refine wpS_bind (zaj (show t<a.size by omega) ?_)
       obtain⟨u,cu⟩:=zmk sb (show nb≤b.size by omega) (a[t]'(by omega))
       refine wpS_bind (zaK R hk ob (oa _ (Array.getElem_mem _)) (by omega) (by omega) cu ?_)
       dsimp only
       obtain⟨n1,n2,n3⟩:=mb.galB sa sb (by omega) cu
       by_cases kq:nb-u>0
       ·rw[if_pos kq]
        by_cases e4:u=1
        ·rw[if_pos (by simpa using e4)]
         exact wpS_pure ⟨⟨_,rfl⟩,.inl ⟨_,rfl,za0 n1 sa sb hb e4 h0⟩⟩
        rw[if_neg (by simpa using e4)]
        by_cases e5:u=0
        ·rw[if_pos (by simpa using e5)]
         exact wpS_pure ⟨⟨_,rfl⟩,.inl ⟨_,rfl,zaD n1 sa sb (.inr e5)⟩⟩
        rw[if_neg (by simpa using e5)]
        obtain⟨u,rfl⟩:∃v,u=v+1:=⟨u-1,by omega⟩
        have n4:=n3 u rfl
        rw[zaq (by omega)] at n4
        have nn:=n1.pushA sa sb (show t<a.toList.length by simp;omega) (show u<b.toList.length by simp;omega) (by simpa using Int.le_of_lt n4)
        rw[Array.getElem_toList,←Array.toList_push] at nn
        refine wpS_bind (zaj (show t<a.size by omega) ?_)
        by_cases e6:t=0
        ·rw[if_pos (by simpa using e6)]
         exact wpS_pure ⟨⟨_,rfl⟩,.inl ⟨_,rfl,zaD nn sa sb (.inl e6)⟩⟩
        rw[if_neg (by simpa using e6)]
        have nl:=nn.len
        simp only[Array.length_toList] at nl
        split
        ·exact wpS_pure ⟨⟨_,rfl⟩,.inr ⟨rfl,⟨nn,by dsimp only;omega,by dsimp only;omega⟩,by dsimp only;omega⟩⟩
        ·exact wpS_pure ⟨⟨_,rfl⟩,rfl,⟨nn,by dsimp only;omega,by dsimp only;omega⟩,by dsimp only;omega⟩
       ·rw[if_neg kq]
        have ku:u=nb:=by omega
        subst ku
        obtain⟨u,rfl⟩:∃v,u=v+1:=⟨u-1,by omega⟩
        have n4:=n3 u rfl
        rw[zaq (by omega)] at n4
        have nn:=mb.pushA sa sb (show t<a.toList.length by simp;omega) (show u<b.toList.length by simp;omega) (by simpa using Int.le_of_lt n4)
        rw[Array.getElem_toList,←Array.toList_push] at nn
        refine wpS_bind (zaj (show t<a.size by omega) ?_)
        by_cases e6:t=0
        ·rw[if_pos (by simpa using e6)]
         exact wpS_pure ⟨⟨_,rfl⟩,.inl ⟨_,rfl,zaD nn sa sb (.inl e6)⟩⟩
        rw[if_neg (by simpa using e6)]
        have nl:=nn.len
        simp only[Array.length_toList] at nl
        split
        ·exact wpS_pure ⟨⟨_,rfl⟩,.inr ⟨rfl,⟨nn,by dsimp only;omega,by dsimp only;omega⟩,by dsimp only;omega⟩⟩
        ·exact wpS_pure ⟨⟨_,rfl⟩,rfl,⟨nn,by dsimp only;omega,by dsimp only;omega⟩,by dsimp only;omega⟩
      ·rw[if_neg kp]
       have kt:t=na+1:=by omega
       subst kt
       have m5:MH rk a.toList b.toList out.toList (na+1) (nb+1):=mw.mh
       generalize na=t at *
       have m4:=m3 t rfl
       rw[zaq (by omega)] at m4
       have mb:=m5.pushB sa sb (show t<a.toList.length by simp;omega) (show nb<b.toList.length by simpa using lbs) (by simpa using m4)
       rw[Array.getElem_toList,←Array.toList_push] at mb
       refine wpS_bind (zaj lbs ?_)
       by_cases e3:nb=1
       ·rw[if_pos (by simpa using e3)]
        exact wpS_pure ⟨⟨_,rfl⟩,.inl ⟨_,rfl,za0 mb sa sb hb e3 h0⟩⟩
       rw[if_neg (by simpa using e3)]
       refine wpS_bind (zaj (show t<a.size by omega) ?_)
       obtain⟨u,cu⟩:=zmk sb (show nb≤b.size by omega) (a[t]'(by omega))
       refine wpS_bind (zaK R hk ob (oa _ (Array.getElem_mem _)) (by omega) (by omega) cu ?_)
       dsimp only
       obtain⟨n1,n2,n3⟩:=mb.galB sa sb (by omega) cu
       by_cases kq:nb-u>0
       ·rw[if_pos kq]
        by_cases e4:u=1
        ·rw[if_pos (by simpa using e4)]
         exact wpS_pure ⟨⟨_,rfl⟩,.inl ⟨_,rfl,za0 n1 sa sb hb e4 h0⟩⟩
        rw[if_neg (by simpa using e4)]
        by_cases e5:u=0
        ·rw[if_pos (by simpa using e5)]
         exact wpS_pure ⟨⟨_,rfl⟩,.inl ⟨_,rfl,zaD n1 sa sb (.inr e5)⟩⟩
        rw[if_neg (by simpa using e5)]
        obtain⟨u,rfl⟩:∃v,u=v+1:=⟨u-1,by omega⟩
        have n4:=n3 u rfl
        rw[zaq (by omega)] at n4
        have nn:=n1.pushA sa sb (show t<a.toList.length by simp;omega) (show u<b.toList.length by simp;omega) (by simpa using Int.le_of_lt n4)
        rw[Array.getElem_toList,←Array.toList_push] at nn
        refine wpS_bind (zaj (show t<a.size by omega) ?_)
        by_cases e6:t=0
        ·rw[if_pos (by simpa using e6)]
         exact wpS_pure ⟨⟨_,rfl⟩,.inl ⟨_,rfl,zaD nn sa sb (.inl e6)⟩⟩
        rw[if_neg (by simpa using e6)]
        have nl:=nn.len
        simp only[Array.length_toList] at nl
        split
        ·exact wpS_pure ⟨⟨_,rfl⟩,.inr ⟨rfl,⟨nn,by dsimp only;omega,by dsimp only;omega⟩,by dsimp only;omega⟩⟩
        ·exact wpS_pure ⟨⟨_,rfl⟩,rfl,⟨nn,by dsimp only;omega,by dsimp only;omega⟩,by dsimp only;omega⟩
       ·rw[if_neg kq]
        have ku:u=nb:=by omega
        subst ku
        obtain⟨u,rfl⟩:∃v,u=v+1:=⟨u-1,by omega⟩
        have n4:=n3 u rfl
        rw[zaq (by omega)] at n4
        have nn:=mb.pushA sa sb (show t<a.toList.length by simp;omega) (show u<b.toList.length by simp;omega) (by simpa using Int.le_of_lt n4)
        rw[Array.getElem_toList,←Array.toList_push] at nn
        refine wpS_bind (zaj (show t<a.size by omega) ?_)
        by_cases e6:t=0
        ·rw[if_pos (by simpa using e6)]
         exact wpS_pure ⟨⟨_,rfl⟩,.inl ⟨_,rfl,zaD nn sa sb (.inl e6)⟩⟩
        rw[if_neg (by simpa using e6)]
        have nl:=nn.len
        simp only[Array.length_toList] at nl
        split
        ·exact wpS_pure ⟨⟨_,rfl⟩,.inr ⟨rfl,⟨nn,by dsimp only;omega,by dsimp only;omega⟩,by dsimp only;omega⟩⟩
        ·exact wpS_pure ⟨⟨_,rfl⟩,rfl,⟨nn,by dsimp only;omega,by dsimp only;omega⟩,by dsimp only;omega⟩
     ·rw[if_neg hg]
      rw[zaN]
      refine wpS_bind (wpS_modify (wpS_bind (zaj lbs ?_)))
      obtain⟨t,ct⟩:=zpa sa las2 b[nb]
      refine wpS_bind (zaK R hk oa (ob _ (Array.getElem_mem _)) (by omega) (by omega) ct ?_)
      dsimp only
      obtain⟨m1,m2,m3⟩:=mw.mh.galA sa sb lbs ct
      by_cases kp:na+1-t>0
      ·rw[if_pos kp]
       by_cases e1:t=0
       ·rw[if_pos (by simpa using e1)]
        exact wpS_pure ⟨⟨_,rfl⟩,.inl ⟨_,rfl,zaD m1 sa sb (.inl e1)⟩⟩
       rw[if_neg (by simpa using e1)]
       obtain⟨t,rfl⟩:∃v,t=v+1:=⟨t-1,by omega⟩
       simp only[Nat.add_sub_cancel]
       have m4:=m3 t rfl
       rw[zaq (by omega)] at m4
       have mb:=m1.pushB sa sb (show t<a.toList.length by simp;omega) (show nb<b.toList.length by simpa using lbs) (by simpa using m4)
       rw[Array.getElem_toList,←Array.toList_push] at mb
       refine wpS_bind (zaj lbs ?_)
       by_cases e3:nb=1
       ·rw[if_pos (by simpa using e3)]
        exact wpS_pure ⟨⟨_,rfl⟩,.inl ⟨_,rfl,za0 mb sa sb hb e3 h0⟩⟩
       rw[if_neg (by simpa using e3)]
       refine wpS_bind (zaj (show t<a.size by omega) ?_)
       obtain⟨u,cu⟩:=zmk sb (show nb≤b.size by omega) (a[t]'(by omega))
       refine wpS_bind (zaK R hk ob (oa _ (Array.getElem_mem _)) (by omega) (by omega) cu ?_)
       dsimp only
       obtain⟨n1,n2,n3⟩:=mb.galB sa sb (by omega) cu
       by_cases kq:nb-u>0
       ·rw[if_pos kq]
        by_cases e4:u=1
        ·rw[if_pos (by simpa using e4)]
         exact wpS_pure ⟨⟨_,rfl⟩,.inl ⟨_,rfl,za0 n1 sa sb hb e4 h0⟩⟩
        rw[if_neg (by simpa using e4)]
        by_cases e5:u=0
        ·rw[if_pos (by simpa using e5)]
         exact wpS_pure ⟨⟨_,rfl⟩,.inl ⟨_,rfl,zaD n1 sa sb (.inr e5)⟩⟩
        rw[if_neg (by simpa using e5)]
        obtain⟨u,rfl⟩:∃v,u=v+1:=⟨u-1,by omega⟩
        have n4:=n3 u rfl
        rw[zaq (by omega)] at n4
        have nn:=n1.pushA sa sb (show t<a.toList.length by simp;omega) (show u<b.toList.length by simp;omega) (by simpa using Int.le_of_lt n4)
        rw[Array.getElem_toList,←Array.toList_push] at nn
        refine wpS_bind (zaj (show t<a.size by omega) ?_)
        by_cases e6:t=0
        ·rw[if_pos (by simpa using e6)]
         exact wpS_pure ⟨⟨_,rfl⟩,.inl ⟨_,rfl,zaD nn sa sb (.inl e6)⟩⟩
        rw[if_neg (by simpa using e6)]
        have nl:=nn.len
        simp only[Array.length_toList] at nl
        split
        ·exact wpS_pure ⟨⟨_,rfl⟩,.inr ⟨rfl,⟨nn,by dsimp only;omega,by dsimp only;omega⟩,by dsimp only;omega⟩⟩
        ·exact wpS_pure ⟨⟨_,rfl⟩,rfl,⟨nn,by dsimp only;omega,by dsimp only;omega⟩,by dsimp only;omega⟩
       ·rw[if_neg kq]
        have ku:u=nb:=by omega
        subst ku
        obtain⟨u,rfl⟩:∃v,u=v+1:=⟨u-1,by omega⟩
        have n4:=n3 u rfl
        rw[zaq (by omega)] at n4
        have nn:=mb.pushA sa sb (show t<a.toList.length by simp;omega) (show u<b.toList.length by simp;omega) (by simpa using Int.le_of_lt n4)
        rw[Array.getElem_toList,←Array.toList_push] at nn
        refine wpS_bind (zaj (show t<a.size by omega) ?_)
        by_cases e6:t=0
        ·rw[if_pos (by simpa using e6)]
         exact wpS_pure ⟨⟨_,rfl⟩,.inl ⟨_,rfl,zaD nn sa sb (.inl e6)⟩⟩
        rw[if_neg (by simpa using e6)]
        have nl:=nn.len
        simp only[Array.length_toList] at nl
        split
        ·exact wpS_pure ⟨⟨_,rfl⟩,.inr ⟨rfl,⟨nn,by dsimp only;omega,by dsimp only;omega⟩,by dsimp only;omega⟩⟩
        ·exact wpS_pure ⟨⟨_,rfl⟩,rfl,⟨nn,by dsimp only;omega,by dsimp only;omega⟩,by dsimp only;omega⟩
      ·rw[if_neg kp]
       have kt:t=na+1:=by omega
       subst kt
       have m5:MH rk a.toList b.toList out.toList (na+1) (nb+1):=mw.mh
       generalize na=t at *
       have m4:=m3 t rfl
       rw[zaq (by omega)] at m4
       have mb:=m5.pushB sa sb (show t<a.toList.length by simp;omega) (show nb<b.toList.length by simpa using lbs) (by simpa using m4)
       rw[Array.getElem_toList,←Array.toList_push] at mb
       refine wpS_bind (zaj lbs ?_)
       by_cases e3:nb=1
       ·rw[if_pos (by simpa using e3)]
        exact wpS_pure ⟨⟨_,rfl⟩,.inl ⟨_,rfl,za0 mb sa sb hb e3 h0⟩⟩
       rw[if_neg (by simpa using e3)]
       refine wpS_bind (zaj (show t<a.size by omega) ?_)
       obtain⟨u,cu⟩:=zmk sb (show nb≤b.size by omega) (a[t]'(by omega))
       refine wpS_bind (zaK R hk ob (oa _ (Array.getElem_mem _)) (by omega) (by omega) cu ?_)
       dsimp only
       obtain⟨n1,n2,n3⟩:=mb.galB sa sb (by omega) cu
       by_cases kq:nb-u>0
       ·rw[if_pos kq]
        by_cases e4:u=1
        ·rw[if_pos (by simpa using e4)]
         exact wpS_pure ⟨⟨_,rfl⟩,.inl ⟨_,rfl,za0 n1 sa sb hb e4 h0⟩⟩
        rw[if_neg (by simpa using e4)]
        by_cases e5:u=0
        ·rw[if_pos (by simpa using e5)]
         exact wpS_pure ⟨⟨_,rfl⟩,.inl ⟨_,rfl,zaD n1 sa sb (.inr e5)⟩⟩
        rw[if_neg (by simpa using e5)]
        obtain⟨u,rfl⟩:∃v,u=v+1:=⟨u-1,by omega⟩
        have n4:=n3 u rfl
        rw[zaq (by omega)] at n4
        have nn:=n1.pushA sa sb (show t<a.toList.length by simp;omega) (show u<b.toList.length by simp;omega) (by simpa using Int.le_of_lt n4)
        rw[Array.getElem_toList,←Array.toList_push] at nn
        refine wpS_bind (zaj (show t<a.size by omega) ?_)
        by_cases e6:t=0
        ·rw[if_pos (by simpa using e6)]
         exact wpS_pure ⟨⟨_,rfl⟩,.inl ⟨_,rfl,zaD nn sa sb (.inl e6)⟩⟩
        rw[if_neg (by simpa using e6)]
        have nl:=nn.len
        simp only[Array.length_toList] at nl
        split
        ·exact wpS_pure ⟨⟨_,rfl⟩,.inr ⟨rfl,⟨nn,by dsimp only;omega,by dsimp only;omega⟩,by dsimp only;omega⟩⟩
        ·exact wpS_pure ⟨⟨_,rfl⟩,rfl,⟨nn,by dsimp only;omega,by dsimp only;omega⟩,by dsimp only;omega⟩
       ·rw[if_neg kq]
        have ku:u=nb:=by omega
        subst ku
        obtain⟨u,rfl⟩:∃v,u=v+1:=⟨u-1,by omega⟩
        have n4:=n3 u rfl
        rw[zaq (by omega)] at n4
        have nn:=mb.pushA sa sb (show t<a.toList.length by simp;omega) (show u<b.toList.length by simp;omega) (by simpa using Int.le_of_lt n4)
        rw[Array.getElem_toList,←Array.toList_push] at nn
        refine wpS_bind (zaj (show t<a.size by omega) ?_)
        by_cases e6:t=0
        ·rw[if_pos (by simpa using e6)]
         exact wpS_pure ⟨⟨_,rfl⟩,.inl ⟨_,rfl,zaD nn sa sb (.inl e6)⟩⟩
        rw[if_neg (by simpa using e6)]
        have nl:=nn.len
        simp only[Array.length_toList] at nl
        split
        ·exact wpS_pure ⟨⟨_,rfl⟩,.inr ⟨rfl,⟨nn,by dsimp only;omega,by dsimp only;omega⟩,by dsimp only;omega⟩⟩
        ·exact wpS_pure ⟨⟨_,rfl⟩,rfl,⟨nn,by dsimp only;omega,by dsimp only;omega⟩,by dsimp only;omega⟩
    ·rintro⟨c1,na,nb,out,mg,ac,bc⟩ st' ⟨⟨g,rfl⟩,hc1,mw,hsz⟩
     dsimp only at hc1 mw hsz ⊢
     exact⟨⟨g,rfl⟩,.inr ⟨hc1,mw,hsz⟩⟩
    ·rintro⟨c1,na,nb,out,mg,ac,bc⟩ st' ⟨⟨g,rfl⟩,hc⟩
     dsimp only at hc ⊢
     rcases hc with⟨r,rfl,gd⟩ | ⟨rfl,mw,hsz⟩
     ·exact wpS_pure ⟨g,r,rfl,rfl,gd⟩
     ·dsimp only
      rw[zaN]
      exact wpS_bind (wpS_modify (wpS_pure ⟨⟨_,rfl⟩,rfl,mw,hsz⟩))
 ·rintro⟨c1,na,nb,out,mg⟩ st' ⟨⟨g,rfl⟩,hc1,mw,hsz⟩
  dsimp only at hc1 mw hsz ⊢
  exfalso
  have h1:=mw.mh.len
  have h2:=mw.la
  have h3:=mw.lb
  simp only[Array.length_toList] at h1
  rw[Nat.max_eq_right (Nat.zero_le _)] at hsz
  omega
 ·rintro⟨c1,na,nb,out,mg⟩ st' ⟨g,r,rfl,rfl,g1,g2⟩
  exact wpS_pure (q r g g1 g2)
end Ts
namespace Ts
open PySem PyProof.Rows
theorem zh8(i:Nat):mergeAt' i=(do
 let s ←get
 let(some (sa,na,power),some (sb,nb,_)):=((pendingOf s)[i]?,(pendingOf s)[i+1]?) | unsupported "internal:list.sort.pending"
 set (setPending s (((pendingOf s).setIfInBounds i (sa,na+nb,power)).eraseIdxIfInBounds (i+1)))
 let some k ←zcS false (←elem' (arrOf s) sb) (arrOf s) sa na 0 | return false
 let(sa,na):=(sa+k,na-k)
 if na==0 then return true
 let some nb ←zcS true (←elem' (arrOf s) (sa+na-1)) (arrOf s) sb nb (nb-1) | return false
 if nb==0 then return true
 let x:=(arrOf s).extract sa sb
 let y:=(arrOf s).extract sb (sb+nb)
 let merged ←if na≤nb then zgu x y else zgv x y
 modify fun s=>setArr s (merged.toList.zipIdx.foldl (fun a (p,j)=>a.setIfInBounds (sa+j) p) (arrOf s))
 return (failedOf (←get)).isNone):=rfl
variable {M:Model} {A:Around} {E:Value→Shared→Prop} {s:Shared}
theorem zhu(p0:Nat):∀(m l:List Keyed) (k:Nat),p0+k+m.length≤l.length→
  (m.zipIdx k).foldl (fun(a:Array Keyed) (q:Keyed×Nat)=>a.setIfInBounds (p0+q.2) q.1) l.toArray=(l.take (p0+k)++m++l.drop (p0+k+m.length)).toArray
 | [],l,k,h=>by simp
 | x::m,l,k,h=>by
  simp only[List.length_cons] at h
  rw[List.zipIdx_cons,List.foldl_cons]
  dsimp only
  rw[show l.toArray.setIfInBounds (p0+k) x=(l.set (p0+k) x).toArray by simp]
  rw[zhu p0 m (l.set (p0+k) x) (k+1) (by rw[List.length_set];omega)]
  congr 1
  have e1:(l.set (p0+k) x).take (p0+(k+1))=l.take (p0+k)++[x]:=by
   rw[show p0+(k+1)=p0+k+1 by omega,List.take_add_one,List.take_set,List.getElem?_set_self (by omega)]
   rw[List.set_eq_of_length_le (by simp;omega)]
   rfl
  rw[e1,List.drop_set_of_lt (by omega)]
  simp only[List.length_cons,List.append_assoc,List.cons_append,List.nil_append]
  rw[show p0+(k+1)+m.length=p0+k+(m.length+1) by omega]
theorem znU{x:SortSt}{Q:PUnit→SortSt→Prop}{st:SortSt}(q:Q ⟨⟩ x):wpS M A E s (set x:StateT SortSt Sem PUnit) Q st:=wpS_modify (f:=fun _=>x) q
theorem ziN{rk:Keyed→Int}{l:List Keyed}(h:Srt rk l){i j:Nat}(hij:i≤j)(hj:j<l.length):rk (l[i]'(by omega))≤rk l[j]:=by
 by_cases e:i=j
 ·subst e;exact Int.le_refl _
 ·exact List.pairwise_iff_getElem.mp h i j (by omega) hj (by omega)
theorem Srt.app{rk:Keyed→Int}{l m:List Keyed}(h1:Srt rk l)(h2:Srt rk m)(h:∀x∈l,∀y∈m,rk x≤rk y):Srt rk (l++m):=List.pairwise_append.mpr ⟨h1,h2,h⟩
theorem zh9{κ:SortKind}{ok:Keyed→Prop}{rk:Keyed→Int}(R:Rk M A E s κ ok rk){i pa pb:Nat}{P X Y S:List Keyed}{Q:Bool→SortSt→Prop}{st:SortSt}(hk:kindOf st=κ)(hf:failedOf st=none)(oa:∀x∈arrOf st,ok x)
  (dec:(arrOf st).toList=P++(X++(Y++S))) (p1:(pendingOf st)[i]?=some (P.length,X.length,pa)) (p2:(pendingOf st)[i+1]?=some (P.length+X.length,Y.length,pb)) (ha:0<X.length) (hb:0<Y.length) (s1:Srt rk X) (s2:Srt rk Y)
  (q:∀(Z:List Keyed) g,Z.Perm (X++Y)→Srt rk Z→Q true (SortSt.mk' κ (P++(Z++S)).toArray (((pendingOf st).setIfInBounds i (P.length,X.length+Y.length,pa)).eraseIdxIfInBounds (i+1)) g none)):wpS M A E s (mergeAt' i) Q st:=by
 rw[zh8]
 refine wpS_bind (wpS_get ?_)
 rw[p1,p2]
 dsimp only
 refine wpS_bind (znU ?_)
 have hsz:(arrOf st).size=P.length+(X.length+(Y.length+S.length)):=by rw[←Array.length_toList,dec];simp
 have eL:arrOf st=(P++(X++(Y++S))).toArray:=by rw[←dec]
 have gX:∀t,(h:t<X.length)→(arrOf st).getD (P.length+t) dk=X[t]:=fun t h=>by
  rw[zaq (by omega)]
  simp[eL,List.getElem_append_right,List.getElem_append_left,h]
 have gY:∀t,(h:t<Y.length)→(arrOf st).getD (P.length+X.length+t) dk=Y[t]:=fun t h=>by
  rw[zaq (by omega)]
  have e2:P.length+X.length+t-P.length-X.length=t:=by omega
  simp only[eL,List.getElem_toArray]
  rw[List.getElem_append_right (by omega),List.getElem_append_right (by omega),List.getElem_append_left (by omega)]
  congr 1
 have gY0:(arrOf st)[P.length+X.length]'(by omega)=Y[0]:=by
  have:=gY 0 hb
  rw[zaq (by omega)] at this
  simpa using this
 refine wpS_bind (zaj (show P.length+X.length<(arrOf st).size by omega) ?_)
 rw[gY0]
 have hL:∀x,x∈P∨x∈X∨x∈Y∨x∈S→ok x:=fun x hx=>oa x (by
  rw[←Array.mem_toList_iff,dec]
  simp only[List.mem_append]
  exact hx)
 obtain⟨k,ck⟩:∃k,Cut (fun i=>if false=true then decide (rk ((arrOf st).getD (P.length+i) dk)<rk Y[0]) else !decide (rk Y[0]<rk ((arrOf st).getD (P.length+i) dk))) X.length k:=by
  refine zep _ _ fun i j hij hj h=>?_
  have:=ziN s1 hij hj
  rw[gX j hj] at h
  rw[gX i (by omega)]
  simp only[Bool.false_eq_true,if_false,Bool.not_eq_true',decide_eq_false_iff_not] at h ⊢
  omega
 have ckn:=ck.1
 refine wpS_bind (zaK R hk oa (hL _ (.inr (.inr (.inl (List.getElem_mem _))))) (by omega) ha ck ?_)
 dsimp only
 have x1:∀x∈X.take k,∀y∈Y,rk x≤rk y:=fun x hx y hy=>by
  obtain⟨t,ht,rfl⟩:=List.getElem_of_mem hx
  obtain⟨u,hu,rfl⟩:=List.getElem_of_mem hy
  have ht2:t<k:=by simp at ht;omega
  have h1:=(ck.2 t (by omega)).mpr ht2
  dsimp only at h1
  rw[gX t (by omega)] at h1
  have h2:=ziN s2 (Nat.zero_le u) hu
  simp only[Bool.false_eq_true,if_false,Bool.not_eq_true',decide_eq_false_iff_not] at h1
  rw[List.getElem_take]
  omega
 have x2:∀x∈X.drop k,rk Y[0]<rk x:=fun x hx=>by
  obtain⟨t,ht,rfl⟩:=List.getElem_of_mem hx
  have ht2:k+t<X.length:=by simp at ht;omega
  have h1:=mt (ck.2 (k+t) ht2).mp (by omega)
  dsimp only at h1
  rw[gX _ ht2] at h1
  rw[List.getElem_drop]
  simpa using h1
 have same:∀g,SortSt.mk' κ (P++((X++Y)++S)).toArray (((pendingOf st).setIfInBounds i (P.length,X.length+Y.length,pa)).eraseIdxIfInBounds (i+1)) g none=SortSt.mk' κ (arrOf st) (((pendingOf st).setIfInBounds i (P.length,X.length+Y.length,pa)).eraseIdxIfInBounds (i+1)) g none:=fun g=>by
  rw[eL];simp
 have whole:Srt rk (X++Y)→Q true (setPending st (((pendingOf st).setIfInBounds i (P.length,X.length+Y.length,pa)).eraseIdxIfInBounds (i+1))):=fun h=>by
  have:=q (X++Y) (gallopOf st) (List.Perm.refl _) h
  rw[same] at this
  show Q true (SortSt.mk' (kindOf st) (arrOf st) _ (gallopOf st) (failedOf st))
  rw[hk,hf]
  exact this
 by_cases e1:X.length-k=0
 ·rw[if_pos (by simpa using e1)]
  refine wpS_pure (whole (s1.app s2 fun x hx=>x1 x ?_))
  rw[List.take_of_length_le (by omega)]
  exact hx
 rw[if_neg (by simpa using e1)]
 have gl:(arrOf st)[P.length+k+(X.length-k)-1]'(by omega)=X[X.length-1]:=by
  have:=gX (X.length-1) (by omega)
  rw[zaq (by omega)] at this
  rw[←this]
  congr 1
  omega
 refine wpS_bind (zaj (show P.length+k+(X.length-k)-1<(arrOf st).size by omega) ?_)
 rw[gl]
 obtain⟨m,cm⟩:∃m,Cut (fun i=>if true=true then decide (rk ((arrOf st).getD (P.length+X.length+i) dk)<rk X[X.length-1]) else !decide (rk X[X.length-1]<rk ((arrOf st).getD (P.length+X.length+i) dk))) Y.length m:=by
  refine zep _ _ fun i j hij hj h=>?_
  have:=ziN s2 hij hj
  rw[gY j hj] at h
  rw[gY i (by omega)]
  simp only[if_true,decide_eq_true_eq] at h ⊢
  omega
 have cmn:=cm.1
 refine wpS_bind (zaK R hk oa (hL _ (.inr (.inl (List.getElem_mem _)))) (by omega) (by omega) cm ?_)
 dsimp only
 have y1:∀y∈Y.take m,rk y<rk X[X.length-1]:=fun y hy=>by
  obtain⟨t,ht,rfl⟩:=List.getElem_of_mem hy
  have ht2:t<m:=by simp at ht;omega
  have h1:=(cm.2 t (by omega)).mpr ht2
  dsimp only at h1
  rw[gY t (by omega)] at h1
  rw[List.getElem_take]
  simpa using h1
 have y2:∀x∈X,∀y∈Y.drop m,rk x≤rk y:=fun x hx y hy=>by
  obtain⟨t,ht,rfl⟩:=List.getElem_of_mem hy
  obtain⟨u,hu,rfl⟩:=List.getElem_of_mem hx
  have ht2:m+t<Y.length:=by simp at ht;omega
  have h1:=mt (cm.2 (m+t) ht2).mp (by omega)
  dsimp only at h1
  rw[gY _ ht2] at h1
  have h2:=ziN s1 (show u≤X.length-1 by omega) (by omega)
  rw[List.getElem_drop]
  simp only[if_true,decide_eq_true_eq] at h1
  omega
 by_cases e2:m=0
 ·rw[if_pos (by simpa using e2)]
  refine wpS_pure (whole (s1.app s2 fun x hx y hy=>y2 x hx y ?_))
  rw[e2]
  simpa using hy
 rw[if_neg (by simpa using e2)]
 have ex:((arrOf st).extract (P.length+k) (P.length+X.length)).toList=X.drop k:=by
  rw[Array.toList_extract,dec]
  simp only[List.extract]
  rw[List.drop_length_add_append,List.drop_append_of_le_length ckn,show P.length+X.length-(P.length+k)=(X.drop k).length by rw[List.length_drop];omega,List.take_left]
 have ey:((arrOf st).extract (P.length+X.length) (P.length+X.length+m)).toList=Y.take m:=by
  rw[Array.toList_extract,dec]
  simp only[List.extract]
  rw[List.drop_length_add_append,show X.length=X.length+0 from rfl,List.drop_length_add_append,List.drop_zero,show P.length+(X.length+0)+m-(P.length+(X.length+0))=m by omega,List.take_append_of_le_length cmn]
 have zx:((arrOf st).extract (P.length+k) (P.length+X.length)).size=X.length-k:=by rw[←Array.length_toList,ex,List.length_drop]
 have zy:((arrOf st).extract (P.length+X.length) (P.length+X.length+m)).size=m:=by rw[←Array.length_toList,ey,List.length_take];omega
 generalize (arrOf st).extract (P.length+k) (P.length+X.length)=x at ex zx ⊢
 generalize (arrOf st).extract (P.length+X.length) (P.length+X.length+m)=y at ey zy ⊢
 have ox:∀z∈x,ok z:=fun z hz=>hL z (.inr (.inl (List.mem_of_mem_drop (by rw[←ex];exact Array.mem_toList_iff.mpr hz))))
 have oy:∀z∈y,ok z:=fun z hz=>hL z (.inr (.inr (.inl (List.mem_of_mem_take (by rw[←ey];exact Array.mem_toList_iff.mpr hz)))))
 have sx:Srt rk x.toList:=by rw[ex];exact s1.sublist (List.drop_sublist _ _)
 have sy:Srt rk y.toList:=by rw[ey];exact s2.sublist (List.take_sublist _ _)
 have hx0:0<x.size:=by omega
 have hy0:0<y.size:=by omega
 have gy0:y[0]=Y[0]:=by
  have:y.toList[0]'(by simpa using hy0)=Y[0]:=by simp only[ey,List.getElem_take]
  simpa using this
 have gxl:x[x.size-1]=X[X.length-1]:=by
  have:x.toList[x.size-1]'(by simp;omega)=X[X.length-1]:=by
   simp only[ex,List.getElem_drop]
   congr 1
   omega
  simpa using this
 have fx:∀z∈x,rk y[0]<rk z:=fun z hz=>by
  rw[gy0]
  exact x2 z (by rw[←ex];exact Array.mem_toList_iff.mpr hz)
 have fy:∀z∈y,rk z<rk (x[x.size-1]):=fun z hz=>by
  rw[gxl]
  exact y1 z (by rw[←ey];exact Array.mem_toList_iff.mpr hz)
 have fin:∀(r:Array Keyed) g,r.toList.Perm (x.toList++y.toList)→Srt rk r.toList→Q true (SortSt.mk' κ (r.toList.zipIdx.foldl (fun(a:Array Keyed) (z:Keyed×Nat)=>a.setIfInBounds (P.length+k+z.2) z.1) (arrOf st)) (((pendingOf st).setIfInBounds i (P.length,X.length+Y.length,pa)).eraseIdxIfInBounds (i+1)) g none):=fun r g rp rs=>by
  have rl:=rp.length_eq
  rw[List.length_append,ex,ey,List.length_drop,List.length_take,Nat.min_eq_left cmn] at rl
  rw[ex,ey] at rp
  have e9:=zhu (P.length+k) r.toList (P++(X++(Y++S))) 0 (by simp only[List.length_append];omega)
  rw[←eL] at e9
  rw[e9]
  have t1:(P++(X++(Y++S))).take (P.length+k+0)=P++X.take k:=by
   rw[Nat.add_zero,List.take_length_add_append,List.take_append_of_le_length ckn]
  have t2:(P++(X++(Y++S))).drop (P.length+k+0+r.toList.length)=Y.drop m++S:=by
   rw[show P.length+k+0+r.toList.length=P.length+(X.length+m) by omega,List.drop_length_add_append,List.drop_length_add_append,List.drop_append_of_le_length cmn]
  rw[t1,t2]
  have:=q (X.take k++(r.toList++Y.drop m)) g ?_ ?_
  ·simpa[List.append_assoc] using this
  ·have h1:(X.take k++(r.toList++Y.drop m)).Perm (X.take k++((X.drop k++Y.take m)++Y.drop m)):=List.Perm.append_left _ (rp.append_right _)
   refine h1.trans ?_
   rw[List.append_assoc,List.take_append_drop,←List.append_assoc,List.take_append_drop]
  ·have mr:∀z∈r.toList,z∈X.drop k∨z∈Y.take m:=fun z hz=>List.mem_append.mp (rp.mem_iff.mp hz)
   have s1':Srt rk (X.take k++X.drop k):=by rw[List.take_append_drop];exact s1
   have s2':Srt rk (Y.take m++Y.drop m):=by rw[List.take_append_drop];exact s2
   have d1:=(List.pairwise_append.mp s1')
   have d2:=(List.pairwise_append.mp s2')
   refine Srt.app d1.1 (rs.app d2.2.1 fun z hz w hw=>?_) fun z hz w hw=>?_
   ·rcases mr z hz with h | h
    ·exact y2 z (List.mem_of_mem_drop h) w hw
    ·exact d2.2.2 z h w hw
   ·rcases List.mem_append.mp hw with hw | hw
    ·rcases mr w hw with h | h
     ·exact d1.2.2 z hz w h
     ·exact x1 z hz w (List.mem_of_mem_take h)
    ·exact x1 z hz w (List.mem_of_mem_drop hw)
 split
 ·refine wpS_bind (zh5 R hk ox oy sx sy hx0 hy0 (fx _ (Array.getElem_mem _)) fy fun r g rp rs=>?_)
  refine wpS_bind (wpS_modify (wpS_bind (wpS_get (wpS_pure ?_))))
  have:=fin r g rp rs
  show Q (failedOf st).isNone (SortSt.mk' (kindOf st) _ _ g (failedOf st))
  rw[hf,hk]
  exact this
 ·refine wpS_bind (zh7 R hk ox oy sx sy hx0 hy0 fx (fy _ (Array.getElem_mem _)) fun r g rp rs=>?_)
  refine wpS_bind (wpS_modify (wpS_bind (wpS_get (wpS_pure ?_))))
  have:=fin r g rp rs
  show Q (failedOf st).isNone (SortSt.mk' (kindOf st) _ _ g (failedOf st))
  rw[hf,hk]
  exact this
end Ts
namespace Ts
open PySem PyProof.Rows
noncomputable def kr(rk:Keyed→Int)(xs:Array Keyed)(i:Nat):Int:=rk (xs.getD i dk)
noncomputable def SrtI(rk:Keyed→Int)(xs:Array Keyed)(lo n:Nat):Prop:=∀i j,i≤j→j<n→kr rk xs (lo+i)≤kr rk xs (lo+j)
structure Sl (xs ys:Array Keyed) (lo n:Nat):Prop where
 pm:ys.Perm xs
 out:∀j,j<lo∨lo+n≤j→ys[j]?=xs[j]?
theorem Sl.size{xs ys:Array Keyed}{lo n:Nat}(h:Sl xs ys lo n):ys.size=xs.size:=h.pm.size_eq
theorem Sl.refl(xs:Array Keyed)(lo n:Nat):Sl xs xs lo n:=⟨Array.Perm.refl _,fun _ _=>rfl⟩
theorem Sl.trans{xs ys zs:Array Keyed}{lo n:Nat}(h:Sl xs ys lo n)(h':Sl ys zs lo n):Sl xs zs lo n:=⟨h'.pm.trans h.pm,fun j hj=>(h'.out j hj).trans (h.out j hj)⟩
theorem zdD{rk:Keyed→Int}{xs ys:Array Keyed}{i j:Nat}(h:ys[i]?=xs[j]?):kr rk ys i=kr rk xs j:=by
 unfold kr
 rw[Array.getD_eq_getD_getElem?,Array.getD_eq_getD_getElem?,h]
variable {M:Model} {A:Around} {E:Value→Shared→Prop} {s:Shared}
theorem za6{κ:SortKind}{ok:Keyed→Prop}{rk:Keyed→Int}(R:Rk M A E s κ ok rk){i j:Nat}{Q:Option Bool→SortSt→Prop}{st:SortSt}(hk:kindOf st=κ)(oa:∀x∈arrOf st,ok x)(hi:i<(arrOf st).size)(hj:j<(arrOf st).size)
  (q:Q (some (decide (kr rk (arrOf st) i<kr rk (arrOf st) j))) st):wpS M A E s (ltAt' i j) Q st:=by
 rw[ltAt'_eq]
 refine wpS_bind (wpS_get (wpS_bind (zaj hi (wpS_bind (zaj hj ?_)))))
 refine R.lt _ _ _ _ (oa _ (Array.getElem_mem _)) (oa _ (Array.getElem_mem _)) hk ?_
 unfold kr at q
 rwa [zaq hi,zaq hj] at q
theorem Sl.ok{xs ys:Array Keyed}{lo n:Nat}(h:Sl xs ys lo n){ok:Keyed→Prop}(oa:∀x∈xs,ok x):∀x∈ys,ok x:=fun x hx=>oa x (h.pm.mem_iff.mp hx)
theorem zjy{κ:SortKind}{ok:Keyed→Prop}{rk:Keyed→Int}(R:Rk M A E s κ ok rk){lo n k0:Nat}{Q:Bool→SortSt→Prop}{st:SortSt}(hk:kindOf st=κ)(oa:∀x∈arrOf st,ok x)(hn:lo+n≤(arrOf st).size)(hs:SrtI rk (arrOf st) lo k0)(hkn:k0≤n)
  (q:∀ys,Sl (arrOf st) ys lo n→SrtI rk ys lo n→Q true (setArr st ys)):wpS M A E s (binarySort' lo n k0) Q st:=by
 rw[binarySort'_eq]
 refine wpS_bind (wpS_mono (wpS_forRange (I:=fun k (c:Option Bool×Unit) st'=>c.1=none∧∃ys,st'=setArr st ys∧Sl (arrOf st) ys lo n∧SrtI rk ys lo (min k n))
  (Q:=fun c st'=>c.1=none∧∃ys,st'=setArr st ys∧Sl (arrOf st) ys lo n∧SrtI rk ys lo n) ?step ?fin ?init) ?post)
 case post=>
  rintro⟨c,⟨⟩⟩ st' ⟨hc,ys,rfl,h1,h2⟩
  dsimp only at hc
  subst hc
  exact wpS_pure (q ys h1 h2)
 case init=>
  refine⟨rfl,arrOf st,rfl,Sl.refl _ _ _,fun i j hij hj=>?_⟩
  by_cases h1:k0=0
  ·have:i=j:=by omega
   subst this;exact Int.le_refl _
  ·exact hs i j hij (by omega)
 case fin=>
  rintro c st' ⟨hc,ys,rfl,h1,h2⟩
  exact⟨hc,ys,rfl,h1,by rwa [show min (max (max k0 1) n) n=n by omega] at h2⟩
 case step=>
  rintro k ⟨c,⟨⟩⟩ st' hk1 hk2 ⟨hc,ys,rfl,h1,h2⟩
  dsimp only at hc ⊢
  subst hc
  rw[show min k n=k by omega] at h2
  have hsz:=h1.size
  have oy:=h1.ok oa
  obtain⟨p,cp⟩:∃p,Cut (fun m=>!decide (kr rk ys (lo+k)<kr rk ys (lo+m))) k p:=by
   refine zep _ _ fun i j hij hj h=>?_
   have:=h2 i j hij hj
   simp only[Bool.not_eq_true',decide_eq_false_iff_not] at h ⊢
   omega
  have cpn:=cp.1
  refine wpS_bind (wpS_mono (wpS_forRange (I:=fun j (c:Option Bool×Nat×Nat) st'=>st'=setArr st ys∧c.1=none∧c.2.1≤p∧p≤c.2.2∧c.2.2≤k∧c.2.2-c.2.1+j≤k)
   (Q:=fun(c:Option Bool×Nat×Nat) st'=>st'=setArr st ys∧c.1=none∧c.2.1=p) ?_ ?_ ⟨rfl,rfl,Nat.zero_le _,cpn,Nat.le_refl _,by show k-0+0≤k;omega⟩) ?_)
  ·rintro j ⟨c,l,r⟩ st' _ hj ⟨rfl,hc,e1,e2,e3,e4⟩
   dsimp only at hc e1 e2 e3 e4 ⊢
   subst hc
   by_cases hd:l≥r
   ·rw[if_pos hd]
    exact wpS_pure ⟨rfl,rfl,by dsimp only;omega⟩
   ·rw[if_neg hd]
    refine wpS_bind (za6 R hk oy (show lo+k<ys.size by omega) (show lo+(l+r)/2<ys.size by omega) ?_)
    have hm:=cp.2 ((l+r)/2) (by omega)
    simp only[Bool.not_eq_true',decide_eq_false_iff_not] at hm
    dsimp only
    by_cases hlt:kr rk ys (lo+k)<kr rk ys (lo+(l+r)/2)
    ·have:¬(l+r)/2<p:=fun z=>hm.mpr z hlt
     rw[show decide (kr rk (arrOf (setArr st ys)) (lo+k)<kr rk (arrOf (setArr st ys)) (lo+(l+r)/2))=true from decide_eq_true hlt]
     simp only[if_true]
     exact wpS_pure ⟨rfl,rfl,e1,by dsimp only;omega,by dsimp only;omega,by dsimp only;omega⟩
    ·have:(l+r)/2<p:=hm.mp hlt
     rw[show decide (kr rk (arrOf (setArr st ys)) (lo+k)<kr rk (arrOf (setArr st ys)) (lo+(l+r)/2))=false from decide_eq_false hlt]
     simp only[Bool.false_eq_true,if_false]
     exact wpS_pure ⟨rfl,rfl,by dsimp only;omega,e2,e3,by dsimp only;omega⟩
  ·rintro⟨c,l,r⟩ st' ⟨rfl,hc,e1,e2,e3,e4⟩
   dsimp only at hc e1 e2 e3 e4 ⊢
   exact⟨rfl,hc,by rw[Nat.max_eq_right (Nat.zero_le k)] at e4;omega⟩
  ·rintro⟨c,l,r⟩ st' ⟨rfl,hc,e1⟩
   dsimp only at hc e1 ⊢
   subst hc e1
   dsimp only
   rw[moveDown'_eq]
   refine wpS_bind (wpS_modify (wpS_pure ⟨rfl,bubble ys (lo+k) (lo+k-(lo+l)),rfl,h1.trans ⟨bubble_perm _ _ _,fun j hj=>?_⟩,?_⟩))
   ·rw[getElem?_bubble (by omega) _ (by omega),if_neg (by omega),if_neg (by omega)]
   ·rw[show min (k+1) n=k+1 by omega]
    have kb:∀j,kr rk (bubble ys (lo+k) (lo+k-(lo+l))) (lo+j)=if j=l then kr rk ys (lo+k) else if l<j∧j≤k then kr rk ys (lo+(j-1)) else kr rk ys (lo+j):=fun j=>by
     have e:=getElem?_bubble (xs:=ys) (src:=lo+k) (by omega) (lo+k-(lo+l)) (by omega) (lo+j)
     by_cases c1:j=l
     ·rw[if_pos (by omega)] at e
      rw[if_pos c1]
      exact zdD e
     ·rw[if_neg (by omega)] at e
      rw[if_neg c1]
      by_cases c2:l<j∧j≤k
      ·rw[if_pos (by omega),show lo+j-1=lo+(j-1) by omega] at e
       rw[if_pos c2]
       exact zdD e
      ·rw[if_neg (by omega)] at e
       rw[if_neg c2]
       exact zdD e
    have below:∀m,m<l→kr rk ys (lo+m)≤kr rk ys (lo+k):=fun m hm=>by
     have:=(cp.2 m (by omega)).mpr hm
     simp only[Bool.not_eq_true',decide_eq_false_iff_not] at this
     omega
    have above:∀m,l≤m→m<k→kr rk ys (lo+k)≤kr rk ys (lo+m):=fun m hm hmk=>by
     have:=mt (cp.2 m hmk).mp (by omega)
     simp only[Bool.not_eq_true',decide_eq_false_iff_not] at this
     omega
    intro i j hij hj
    rw[kb,kb]
    by_cases a1:i=l
    ·rw[if_pos a1]
     by_cases b1:j=l
     ·rw[if_pos b1];exact Int.le_refl _
     ·rw[if_neg b1,if_pos (by omega)]
      exact above _ (by omega) (by omega)
    ·rw[if_neg a1]
     by_cases a2:l<i∧i≤k
     ·rw[if_pos a2,if_neg (by omega),if_pos (by omega)]
      exact h2 _ _ (by omega) (by omega)
     ·rw[if_neg a2]
      by_cases b1:j=l
      ·rw[if_pos b1]
       exact below i (by omega)
      ·rw[if_neg b1]
       by_cases b2:l<j∧j≤k
       ·rw[if_pos b2]
        exact h2 _ _ (by omega) (by omega)
       ·rw[if_neg b2]
        exact h2 _ _ hij (by omega)
end Ts
namespace Ts
open PySem PyProof.Rows
theorem ze1{rk:Keyed→Int}{xs:Array Keyed}{i j:Nat}(hj:j≤xs.size)(k:Nat):kr rk (mirror xs i j ((j-i)/2)) k=if i≤k∧k<j then kr rk xs (i+j-1-k) else kr rk xs k:=by
 have e:=getElem?_mirror_all (i:=i) hj k
 by_cases h1:i≤k∧k<j
 ·rw[if_pos h1] at e ⊢;exact zdD e
 ·rw[if_neg h1] at e ⊢;exact zdD e
theorem zbC{xs:Array Keyed}{i j lo n:Nat}(hj:j≤xs.size)(hi:lo≤i)(hn:j≤lo+n):Sl xs (mirror xs i j ((j-i)/2)) lo n:=
 ⟨mirror_perm _ _ _ _,fun k hk=>by rw[getElem?_mirror_all hj,if_neg (by omega)]⟩
theorem zbN{rk:Keyed→Int}{xs:Array Keyed}{i j:Nat}(hj:j≤xs.size)(heq:∀k,i≤k→k<j→kr rk xs k=kr rk xs (j-1))(k:Nat):kr rk (mirror xs i j ((j-i)/2)) k=kr rk xs k:=by
 rw[ze1 hj]
 split
 ·rw[heq _ (by omega) (by omega),heq k (by omega) (by omega)]
 ·rfl
noncomputable def Dec(rk:Keyed→Int)(xs:Array Keyed)(lo n:Nat):Prop:=∀i j,i≤j→j<n→kr rk xs (lo+j)≤kr rk xs (lo+i)
theorem SrtI.more{rk:Keyed→Int}{xs:Array Keyed}{lo n:Nat}(h:SrtI rk xs lo n)(hn:1≤n)(hl:kr rk xs (lo+n-1)≤kr rk xs (lo+n)):SrtI rk xs lo (n+1):=fun i j hij hj=>by
 by_cases e:j=n
 ·subst e
  by_cases e2:i=j
  ·subst e2;exact Int.le_refl _
  ·have:=h i (j-1) (by omega) (by omega)
   rw[show lo+(j-1)=lo+j-1 by omega] at this
   omega
 ·exact h i j hij (by omega)
theorem Dec.more{rk:Keyed→Int}{xs:Array Keyed}{lo n:Nat}(h:Dec rk xs lo n)(hn:1≤n)(hl:kr rk xs (lo+n)≤kr rk xs (lo+n-1)):Dec rk xs lo (n+1):=fun i j hij hj=>by
 by_cases e:j=n
 ·subst e
  by_cases e2:i=j
  ·subst e2;exact Int.le_refl _
  ·have:=h i (j-1) (by omega) (by omega)
   rw[show lo+(j-1)=lo+j-1 by omega] at this
   omega
 ·exact h i j hij (by omega)
theorem Dec.turn{rk:Keyed→Int}{xs:Array Keyed}{lo n:Nat}(h:Dec rk xs lo n)(hn:lo+n≤xs.size):SrtI rk (mirror xs lo (lo+n) ((lo+n-lo)/2)) lo n:=fun i j hij hj=>by
 rw[ze1 hn,ze1 hn,if_pos (by omega),if_pos (by omega)]
 have:=h (n-1-j) (n-1-i) (by omega) (by omega)
 rw[show lo+(lo+n)-1-(lo+i)=lo+(n-1-i) by omega,show lo+(lo+n)-1-(lo+j)=lo+(n-1-j) by omega]
 exact this
variable {M:Model} {A:Around} {E:Value→Shared→Prop} {s:Shared}
theorem zcF{i j:Nat}{Q:Unit→SortSt→Prop}{st:SortSt}(h:Q () (setArr st (mirror (arrOf st) i j ((j-i)/2)))):wpS M A E s (reverseSlice' i j) Q st:=by
 rw[reverseSlice'_eq]
 exact wpS_modify h
theorem zk1{κ:SortKind}{ok:Keyed→Prop}{rk:Keyed→Int}(R:Rk M A E s κ ok rk){lo nrem:Nat}{Q:Option Nat→SortSt→Prop}{st:SortSt}(hk:kindOf st=κ)(oa:∀x∈arrOf st,ok x)(hn:lo+nrem≤(arrOf st).size)(h1:1≤nrem)
  (q:∀ys n,1≤n→n≤nrem→Sl (arrOf st) ys lo nrem→SrtI rk ys lo n→Q (some n) (setArr st ys)):wpS M A E s (countRun' lo nrem) Q st:=by
 rw[countRun'_eq]
 refine wpS_bind (wpS_mono (wpS_forRange (I:=fun i (c:Option (Option Nat)×Nat) st'=>st'=st∧c.1=none∧c.2=i∧SrtI rk (arrOf st) lo i)
  (Q:=fun(c:Option (Option Nat)×Nat) st'=>st'=st∧c.1=none∧1≤c.2∧c.2≤nrem∧SrtI rk (arrOf st) lo c.2∧(c.2<nrem→kr rk (arrOf st) (lo+c.2)<kr rk (arrOf st) (lo+c.2-1))) ?_ ?_ ⟨rfl,rfl,rfl,fun i j hij hj=>by rw[show i=j by omega];exact Int.le_refl _⟩) ?_)
 ·rintro i ⟨c,n⟩ st' h2 h3 ⟨rfl,hc,e,hs⟩
  dsimp only at hc e ⊢
  subst hc e
  refine wpS_bind (za6 R hk oa (by omega) (by omega) ?_)
  dsimp only
  by_cases hlt:kr rk (arrOf st') (lo+n)<kr rk (arrOf st') (lo+n-1)
  ·simp only[hlt,decide_true,if_true]
   exact wpS_pure ⟨rfl,rfl,h2,by dsimp only;omega,hs,fun _=>hlt⟩
  ·simp only[hlt,decide_false,Bool.false_eq_true,if_false]
   exact wpS_pure ⟨rfl,rfl,rfl,hs.more h2 (by omega)⟩
 ·rintro⟨c,n⟩ st' ⟨rfl,hc,e,hs⟩
  dsimp only at hc e ⊢
  subst e
  exact⟨rfl,hc,by omega,by omega,hs,fun z=>by omega⟩
 ·rintro⟨c,n⟩ st' ⟨rfl,hc,n1,n2,hs,hd⟩
  dsimp only at hc n1 n2 hs hd ⊢
  subst hc
  dsimp only
  by_cases e1:n=nrem
  ·rw[if_pos (by simpa using e1)]
   exact wpS_pure (q (arrOf st') n n1 n2 (Sl.refl _ _ _) hs)
  rw[if_neg (by simpa using e1)]
  have hdn:=hd (by omega)
  by_cases e2:n>1
  ·rw[if_pos e2]
   refine wpS_bind (za6 R hk oa (by omega) (by omega) ?_)
   dsimp only
   by_cases hr:kr rk (arrOf st') lo<kr rk (arrOf st') (lo+n-1)
   ·simp only[hr,decide_true,if_true]
    exact wpS_pure (q (arrOf st') n n1 n2 (Sl.refl _ _ _) hs)
   ·simp only[hr,decide_false,Bool.false_eq_true,if_false]
    have same:∀k,lo≤k→k<lo+n→kr rk (arrOf st') k=kr rk (arrOf st') (lo+n-1):=fun k k1 k2=>by
     have a1:=hs 0 (k-lo) (by omega) (by omega)
     have a2:=hs (k-lo) (n-1) (by omega) (by omega)
     rw[show lo+(k-lo)=k by omega] at a1 a2
     rw[show lo+(n-1)=lo+n-1 by omega] at a2
     simp only[Nat.add_zero] at a1
     omega
    have km:=zbN (rk:=rk) (xs:=arrOf st') (i:=lo) (j:=lo+n) (by omega) same
    have l0:=zbC (xs:=arrOf st') (i:=lo) (j:=lo+n) (lo:=lo) (n:=nrem) (by omega) (by omega) (by omega)
    refine wpS_bind (zcF ?_)
    generalize mirror (arrOf st') lo (lo+n) ((lo+n-lo)/2)=y0 at km l0
    have d0:Dec rk y0 lo (n+1):=by
     have dd:Dec rk y0 lo n:=fun i j hij hj=>by
      rw[km,km,same _ (by omega) (by omega),same (lo+i) (by omega) (by omega)]
      exact Int.le_refl _
     refine dd.more n1 ?_
     rw[km,km]
     omega
    refine wpS_bind (zcE ?_)
    refine wpS_bind (wpS_mono (wpS_forRange (I:=fun i (c:Option (Option Nat)×Nat×Nat) st2=>∃ys,st2=setArr st' ys∧Sl (arrOf st') ys lo nrem∧c.1=none∧c.2.1=i∧Dec rk ys lo i∧c.2.2<i∧∀t,t≤c.2.2→kr rk ys (lo+i-1-t)=kr rk ys (lo+i-1))
     (Q:=fun(c:Option (Option Nat)×Nat×Nat) st2=>∃ys,st2=setArr st' ys∧Sl (arrOf st') ys lo nrem∧c.1=none∧1≤c.2.1∧c.2.1≤nrem∧Dec rk ys lo c.2.1∧c.2.2<c.2.1∧∀t,t≤c.2.2→kr rk ys (lo+c.2.1-1-t)=kr rk ys (lo+c.2.1-1)) ?_ ?_ ⟨y0,rfl,l0,rfl,rfl,d0,by dsimp only;omega,fun t ht=>by rw[show t=0 by dsimp only at ht;omega];rfl⟩) ?_)
    ·rintro i ⟨c,n,e⟩ st2 h2 h3 ⟨ys,rfl,ly,hc,ei,dy,en,eq⟩
     dsimp only at hc ei en eq ⊢
     subst hc ei
     have hsz:=ly.size
     refine wpS_bind (za6 R hk (ly.ok oa) (show lo+n<ys.size by omega) (show lo+n-1<ys.size by omega) ?_)
     dsimp only
     by_cases hlt:kr rk ys (lo+n)<kr rk ys (lo+n-1)
     ·rw[show decide (kr rk (arrOf (setArr st' ys)) (lo+n)<kr rk (arrOf (setArr st' ys)) (lo+n-1))=true from decide_eq_true hlt]
      simp only[if_true]
      have dm:=dy.more (by omega) (Int.le_of_lt hlt)
      by_cases ep:e>0
      ·rw[if_pos ep]
       have km:=zbN (rk:=rk) (xs:=ys) (i:=lo+n-(e+1)) (j:=lo+n) (by omega) (fun k k1 k2=>by
        have:=eq (lo+n-1-k) (by omega)
        rwa [show lo+n-1-(lo+n-1-k)=k by omega] at this)
       refine wpS_bind (zcF ?_)
       refine wpS_pure ⟨_,rfl,ly.trans (zbC (by show lo+n≤ys.size;omega) (by omega) (by omega)),rfl,rfl,fun i j hij hj=>?_,by dsimp only;omega,fun t ht=>by rw[show t=0 by dsimp only at ht;omega];rfl⟩
       have:=dm i j hij hj
       rw[←km,←km] at this
       exact this
      ·rw[if_neg ep]
       exact wpS_pure ⟨ys,rfl,ly,rfl,rfl,dm,by dsimp only;omega,fun t ht=>by rw[show t=0 by dsimp only at ht;omega];rfl⟩
     ·rw[show decide (kr rk (arrOf (setArr st' ys)) (lo+n)<kr rk (arrOf (setArr st' ys)) (lo+n-1))=false from decide_eq_false hlt]
      simp only[Bool.false_eq_true,if_false]
      refine wpS_bind (za6 R hk (ly.ok oa) (show lo+n-1<ys.size by omega) (show lo+n<ys.size by omega) ?_)
      dsimp only
      by_cases hgt:kr rk ys (lo+n-1)<kr rk ys (lo+n)
      ·rw[show decide (kr rk (arrOf (setArr st' ys)) (lo+n-1)<kr rk (arrOf (setArr st' ys)) (lo+n))=true from decide_eq_true hgt]
       simp only[if_true]
       exact wpS_pure ⟨ys,rfl,ly,rfl,by dsimp only;omega,by dsimp only;omega,dy,en,eq⟩
      ·rw[show decide (kr rk (arrOf (setArr st' ys)) (lo+n-1)<kr rk (arrOf (setArr st' ys)) (lo+n))=false from decide_eq_false hgt]
       simp only[Bool.false_eq_true,if_false]
       refine wpS_pure ⟨ys,rfl,ly,rfl,rfl,dy.more (by omega) (by omega),by dsimp only;omega,fun t ht=>?_⟩
       dsimp only at ht
       rw[show lo+(n+1)-1=lo+n by omega]
       by_cases t0:t=0
       ·subst t0;rfl
       ·have:=eq (t-1) (by omega)
        rw[show lo+n-1-(t-1)=lo+n-t by omega] at this
        omega
    ·rintro⟨c,n,e⟩ st2 ⟨ys,rfl,ly,hc,ei,dy,en,eq⟩
     dsimp only at hc ei en eq ⊢
     subst ei
     exact⟨ys,rfl,ly,hc,by omega,by omega,dy,en,eq⟩
    ·rintro⟨c,n,e⟩ st2 ⟨ys,rfl,ly,hc,n1,n2,dy,en,eq⟩
     dsimp only at hc n1 n2 dy en eq ⊢
     subst hc
     dsimp only
     have hsz:=ly.size
     by_cases ep:e>0
     ·rw[if_pos ep]
      have km:=zbN (rk:=rk) (xs:=ys) (i:=lo+n-(e+1)) (j:=lo+n) (by omega) (fun k k1 k2=>by
       have:=eq (lo+n-1-k) (by omega)
       rwa [show lo+n-1-(lo+n-1-k)=k by omega] at this)
      refine wpS_bind (zcF ?_)
      have lw:=ly.trans (zbC (xs:=ys) (i:=lo+n-(e+1)) (j:=lo+n) (lo:=lo) (n:=nrem) (by omega) (by omega) (by omega))
      show wpS M A E s _ Q (setArr st' (mirror ys (lo+n-(e+1)) (lo+n) ((lo+n-(lo+n-(e+1)))/2)))
      generalize mirror ys (lo+n-(e+1)) (lo+n) ((lo+n-(lo+n-(e+1)))/2)=ws at km lw
      have dw:Dec rk ws lo n:=fun i j hij hj=>by
       have:=dy i j hij hj
       rw[←km,←km] at this
       exact this
      have hw:=lw.size
      refine wpS_bind (zcF ?_)
      have lz:=lw.trans (zbC (xs:=ws) (i:=lo) (j:=lo+n) (lo:=lo) (n:=nrem) (by omega) (by omega) (by omega))
      have hz:=dw.turn (by omega)
      show wpS M A E s _ Q (setArr st' (mirror ws lo (lo+n) ((lo+n-lo)/2)))
      generalize mirror ws lo (lo+n) ((lo+n-lo)/2)=zs at lz hz
      refine wpS_bind (wpS_mono (wpS_forRange (I:=fun i (c:Option (Option Nat)×Nat) st2=>st2=setArr st' zs∧c.1=none∧c.2=i∧SrtI rk zs lo i)
       (Q:=fun(c:Option (Option Nat)×Nat) st2=>st2=setArr st' zs∧c.1=none∧1≤c.2∧c.2≤nrem∧SrtI rk zs lo c.2) ?_ ?_ ⟨rfl,rfl,rfl,hz⟩) ?_)
      ·rintro i ⟨c,n⟩ st2 h2 h3 ⟨rfl,hc,e,hs⟩
       dsimp only at hc e ⊢
       subst hc e
       refine wpS_bind (za6 R hk (lz.ok oa) (show lo+n<zs.size by have:=lz.size;omega) (show lo+n-1<zs.size by have:=lz.size;omega) ?_)
       dsimp only
       by_cases hlt:kr rk zs (lo+n)<kr rk zs (lo+n-1)
       ·rw[show decide (kr rk (arrOf (setArr st' zs)) (lo+n)<kr rk (arrOf (setArr st' zs)) (lo+n-1))=true from decide_eq_true hlt]
        simp only[if_true]
        exact wpS_pure ⟨rfl,rfl,by dsimp only;omega,by dsimp only;omega,hs⟩
       ·rw[show decide (kr rk (arrOf (setArr st' zs)) (lo+n)<kr rk (arrOf (setArr st' zs)) (lo+n-1))=false from decide_eq_false hlt]
        simp only[Bool.false_eq_true,if_false]
        exact wpS_pure ⟨rfl,rfl,rfl,hs.more (by omega) (by omega)⟩
      ·rintro⟨c,n⟩ st2 ⟨rfl,hc,e,hs⟩
       dsimp only at hc e ⊢
       subst e
       exact⟨rfl,hc,by omega,by omega,hs⟩
      ·rintro⟨c,n⟩ st2 ⟨rfl,hc,n1,n2,hs⟩
       dsimp only at hc n1 n2 hs ⊢
       subst hc
       exact wpS_pure (q zs n n1 n2 lz hs)
     ·rw[if_neg ep]
      refine wpS_bind (zcF ?_)
      have lz:=ly.trans (zbC (xs:=ys) (i:=lo) (j:=lo+n) (lo:=lo) (n:=nrem) (by omega) (by omega) (by omega))
      have hz:=dy.turn (by omega)
      show wpS M A E s _ Q (setArr st' (mirror ys lo (lo+n) ((lo+n-lo)/2)))
      generalize mirror ys lo (lo+n) ((lo+n-lo)/2)=zs at lz hz
      refine wpS_bind (wpS_mono (wpS_forRange (I:=fun i (c:Option (Option Nat)×Nat) st2=>st2=setArr st' zs∧c.1=none∧c.2=i∧SrtI rk zs lo i)
       (Q:=fun(c:Option (Option Nat)×Nat) st2=>st2=setArr st' zs∧c.1=none∧1≤c.2∧c.2≤nrem∧SrtI rk zs lo c.2) ?_ ?_ ⟨rfl,rfl,rfl,hz⟩) ?_)
      ·rintro i ⟨c,n⟩ st2 h2 h3 ⟨rfl,hc,e,hs⟩
       dsimp only at hc e ⊢
       subst hc e
       refine wpS_bind (za6 R hk (lz.ok oa) (show lo+n<zs.size by have:=lz.size;omega) (show lo+n-1<zs.size by have:=lz.size;omega) ?_)
       dsimp only
       by_cases hlt:kr rk zs (lo+n)<kr rk zs (lo+n-1)
       ·rw[show decide (kr rk (arrOf (setArr st' zs)) (lo+n)<kr rk (arrOf (setArr st' zs)) (lo+n-1))=true from decide_eq_true hlt]
        simp only[if_true]
        exact wpS_pure ⟨rfl,rfl,by dsimp only;omega,by dsimp only;omega,hs⟩
       ·rw[show decide (kr rk (arrOf (setArr st' zs)) (lo+n)<kr rk (arrOf (setArr st' zs)) (lo+n-1))=false from decide_eq_false hlt]
        simp only[Bool.false_eq_true,if_false]
        exact wpS_pure ⟨rfl,rfl,rfl,hs.more (by omega) (by omega)⟩
      ·rintro⟨c,n⟩ st2 ⟨rfl,hc,e,hs⟩
       dsimp only at hc e ⊢
       subst e
       exact⟨rfl,hc,by omega,by omega,hs⟩
      ·rintro⟨c,n⟩ st2 ⟨rfl,hc,n1,n2,hs⟩
       dsimp only at hc n1 n2 hs ⊢
       subst hc
       exact wpS_pure (q zs n n1 n2 lz hs)
  ·rw[if_neg e2]
   have en1:n=1:=by omega
   have d0:Dec rk (arrOf st') lo (n+1):=by
    have dd:Dec rk (arrOf st') lo n:=fun i j hij hj=>by rw[show i=j by omega];exact Int.le_refl _
    exact dd.more n1 (by omega)
   have l0:=Sl.refl (arrOf st') lo nrem
   obtain⟨y0,hy0⟩:∃y,y=arrOf st':=⟨_,rfl⟩
   rw[show st'=setArr st' y0 by rw[hy0]]
   rw[←hy0] at d0
   have l0:Sl (arrOf st') y0 lo nrem:=by rw[hy0];exact Sl.refl _ _ _
   refine wpS_bind (zcE ?_)
   refine wpS_bind (wpS_mono (wpS_forRange (I:=fun i (c:Option (Option Nat)×Nat×Nat) st2=>∃ys,st2=setArr st' ys∧Sl (arrOf st') ys lo nrem∧c.1=none∧c.2.1=i∧Dec rk ys lo i∧c.2.2<i∧∀t,t≤c.2.2→kr rk ys (lo+i-1-t)=kr rk ys (lo+i-1))
    (Q:=fun(c:Option (Option Nat)×Nat×Nat) st2=>∃ys,st2=setArr st' ys∧Sl (arrOf st') ys lo nrem∧c.1=none∧1≤c.2.1∧c.2.1≤nrem∧Dec rk ys lo c.2.1∧c.2.2<c.2.1∧∀t,t≤c.2.2→kr rk ys (lo+c.2.1-1-t)=kr rk ys (lo+c.2.1-1)) ?_ ?_ ⟨y0,rfl,l0,rfl,rfl,d0,by dsimp only;omega,fun t ht=>by rw[show t=0 by dsimp only at ht;omega];rfl⟩) ?_)
   ·rintro i ⟨c,n,e⟩ st2 h2 h3 ⟨ys,rfl,ly,hc,ei,dy,en,eq⟩
    dsimp only at hc ei en eq ⊢
    subst hc ei
    have hsz:=ly.size
    refine wpS_bind (za6 R hk (ly.ok oa) (show lo+n<ys.size by omega) (show lo+n-1<ys.size by omega) ?_)
    dsimp only
    by_cases hlt:kr rk ys (lo+n)<kr rk ys (lo+n-1)
    ·rw[show decide (kr rk (arrOf (setArr st' ys)) (lo+n)<kr rk (arrOf (setArr st' ys)) (lo+n-1))=true from decide_eq_true hlt]
     simp only[if_true]
     have dm:=dy.more (by omega) (Int.le_of_lt hlt)
     by_cases ep:e>0
     ·rw[if_pos ep]
      have km:=zbN (rk:=rk) (xs:=ys) (i:=lo+n-(e+1)) (j:=lo+n) (by omega) (fun k k1 k2=>by
       have:=eq (lo+n-1-k) (by omega)
       rwa [show lo+n-1-(lo+n-1-k)=k by omega] at this)
      refine wpS_bind (zcF ?_)
      refine wpS_pure ⟨_,rfl,ly.trans (zbC (by show lo+n≤ys.size;omega) (by omega) (by omega)),rfl,rfl,fun i j hij hj=>?_,by dsimp only;omega,fun t ht=>by rw[show t=0 by dsimp only at ht;omega];rfl⟩
      have:=dm i j hij hj
      rw[←km,←km] at this
      exact this
     ·rw[if_neg ep]
      exact wpS_pure ⟨ys,rfl,ly,rfl,rfl,dm,by dsimp only;omega,fun t ht=>by rw[show t=0 by dsimp only at ht;omega];rfl⟩
    ·rw[show decide (kr rk (arrOf (setArr st' ys)) (lo+n)<kr rk (arrOf (setArr st' ys)) (lo+n-1))=false from decide_eq_false hlt]
     simp only[Bool.false_eq_true,if_false]
     refine wpS_bind (za6 R hk (ly.ok oa) (show lo+n-1<ys.size by omega) (show lo+n<ys.size by omega) ?_)
     dsimp only
     by_cases hgt:kr rk ys (lo+n-1)<kr rk ys (lo+n)
     ·rw[show decide (kr rk (arrOf (setArr st' ys)) (lo+n-1)<kr rk (arrOf (setArr st' ys)) (lo+n))=true from decide_eq_true hgt]
      simp only[if_true]
      exact wpS_pure ⟨ys,rfl,ly,rfl,by dsimp only;omega,by dsimp only;omega,dy,en,eq⟩
     ·rw[show decide (kr rk (arrOf (setArr st' ys)) (lo+n-1)<kr rk (arrOf (setArr st' ys)) (lo+n))=false from decide_eq_false hgt]
      simp only[Bool.false_eq_true,if_false]
      refine wpS_pure ⟨ys,rfl,ly,rfl,rfl,dy.more (by omega) (by omega),by dsimp only;omega,fun t ht=>?_⟩
      dsimp only at ht
      rw[show lo+(n+1)-1=lo+n by omega]
      by_cases t0:t=0
      ·subst t0;rfl
      ·have:=eq (t-1) (by omega)
       rw[show lo+n-1-(t-1)=lo+n-t by omega] at this
       omega
   ·rintro⟨c,n,e⟩ st2 ⟨ys,rfl,ly,hc,ei,dy,en,eq⟩
    dsimp only at hc ei en eq ⊢
    subst ei
    exact⟨ys,rfl,ly,hc,by omega,by omega,dy,en,eq⟩
   ·rintro⟨c,n,e⟩ st2 ⟨ys,rfl,ly,hc,n1,n2,dy,en,eq⟩
    dsimp only at hc n1 n2 dy en eq ⊢
    subst hc
    dsimp only
    have hsz:=ly.size
    by_cases ep:e>0
    ·rw[if_pos ep]
     have km:=zbN (rk:=rk) (xs:=ys) (i:=lo+n-(e+1)) (j:=lo+n) (by omega) (fun k k1 k2=>by
      have:=eq (lo+n-1-k) (by omega)
      rwa [show lo+n-1-(lo+n-1-k)=k by omega] at this)
     refine wpS_bind (zcF ?_)
     have lw:=ly.trans (zbC (xs:=ys) (i:=lo+n-(e+1)) (j:=lo+n) (lo:=lo) (n:=nrem) (by omega) (by omega) (by omega))
     show wpS M A E s _ Q (setArr st' (mirror ys (lo+n-(e+1)) (lo+n) ((lo+n-(lo+n-(e+1)))/2)))
     generalize mirror ys (lo+n-(e+1)) (lo+n) ((lo+n-(lo+n-(e+1)))/2)=ws at km lw
     have dw:Dec rk ws lo n:=fun i j hij hj=>by
      have:=dy i j hij hj
      rw[←km,←km] at this
      exact this
     have hw:=lw.size
     refine wpS_bind (zcF ?_)
     have lz:=lw.trans (zbC (xs:=ws) (i:=lo) (j:=lo+n) (lo:=lo) (n:=nrem) (by omega) (by omega) (by omega))
     have hz:=dw.turn (by omega)
     show wpS M A E s _ Q (setArr st' (mirror ws lo (lo+n) ((lo+n-lo)/2)))
     generalize mirror ws lo (lo+n) ((lo+n-lo)/2)=zs at lz hz
     refine wpS_bind (wpS_mono (wpS_forRange (I:=fun i (c:Option (Option Nat)×Nat) st2=>st2=setArr st' zs∧c.1=none∧c.2=i∧SrtI rk zs lo i)
      (Q:=fun(c:Option (Option Nat)×Nat) st2=>st2=setArr st' zs∧c.1=none∧1≤c.2∧c.2≤nrem∧SrtI rk zs lo c.2) ?_ ?_ ⟨rfl,rfl,rfl,hz⟩) ?_)
     ·rintro i ⟨c,n⟩ st2 h2 h3 ⟨rfl,hc,e,hs⟩
      dsimp only at hc e ⊢
      subst hc e
      refine wpS_bind (za6 R hk (lz.ok oa) (show lo+n<zs.size by have:=lz.size;omega) (show lo+n-1<zs.size by have:=lz.size;omega) ?_)
      dsimp only
      by_cases hlt:kr rk zs (lo+n)<kr rk zs (lo+n-1)
      ·rw[show decide (kr rk (arrOf (setArr st' zs)) (lo+n)<kr rk (arrOf (setArr st' zs)) (lo+n-1))=true from decide_eq_true hlt]
       simp only[if_true]
       exact wpS_pure ⟨rfl,rfl,by dsimp only;omega,by dsimp only;omega,hs⟩
      ·rw[show decide (kr rk (arrOf (setArr st' zs)) (lo+n)<kr rk (arrOf (setArr st' zs)) (lo+n-1))=false from decide_eq_false hlt]
       simp only[Bool.false_eq_true,if_false]
       exact wpS_pure ⟨rfl,rfl,rfl,hs.more (by omega) (by omega)⟩
     ·rintro⟨c,n⟩ st2 ⟨rfl,hc,e,hs⟩
      dsimp only at hc e ⊢
      subst e
      exact⟨rfl,hc,by omega,by omega,hs⟩
     ·rintro⟨c,n⟩ st2 ⟨rfl,hc,n1,n2,hs⟩
      dsimp only at hc n1 n2 hs ⊢
      subst hc
      exact wpS_pure (q zs n n1 n2 lz hs)
    ·rw[if_neg ep]
     refine wpS_bind (zcF ?_)
     have lz:=ly.trans (zbC (xs:=ys) (i:=lo) (j:=lo+n) (lo:=lo) (n:=nrem) (by omega) (by omega) (by omega))
     have hz:=dy.turn (by omega)
     show wpS M A E s _ Q (setArr st' (mirror ys lo (lo+n) ((lo+n-lo)/2)))
     generalize mirror ys lo (lo+n) ((lo+n-lo)/2)=zs at lz hz
     refine wpS_bind (wpS_mono (wpS_forRange (I:=fun i (c:Option (Option Nat)×Nat) st2=>st2=setArr st' zs∧c.1=none∧c.2=i∧SrtI rk zs lo i)
      (Q:=fun(c:Option (Option Nat)×Nat) st2=>st2=setArr st' zs∧c.1=none∧1≤c.2∧c.2≤nrem∧SrtI rk zs lo c.2) ?_ ?_ ⟨rfl,rfl,rfl,hz⟩) ?_)
     ·rintro i ⟨c,n⟩ st2 h2 h3 ⟨rfl,hc,e,hs⟩
      dsimp only at hc e ⊢
      subst hc e
      refine wpS_bind (za6 R hk (lz.ok oa) (show lo+n<zs.size by have:=lz.size;omega) (show lo+n-1<zs.size by have:=lz.size;omega) ?_)
      dsimp only
      by_cases hlt:kr rk zs (lo+n)<kr rk zs (lo+n-1)
      ·rw[show decide (kr rk (arrOf (setArr st' zs)) (lo+n)<kr rk (arrOf (setArr st' zs)) (lo+n-1))=true from decide_eq_true hlt]
       simp only[if_true]
       exact wpS_pure ⟨rfl,rfl,by dsimp only;omega,by dsimp only;omega,hs⟩
      ·rw[show decide (kr rk (arrOf (setArr st' zs)) (lo+n)<kr rk (arrOf (setArr st' zs)) (lo+n-1))=false from decide_eq_false hlt]
       simp only[Bool.false_eq_true,if_false]
       exact wpS_pure ⟨rfl,rfl,rfl,hs.more (by omega) (by omega)⟩
     ·rintro⟨c,n⟩ st2 ⟨rfl,hc,e,hs⟩
      dsimp only at hc e ⊢
      subst e
      exact⟨rfl,hc,by omega,by omega,hs⟩
     ·rintro⟨c,n⟩ st2 ⟨rfl,hc,n1,n2,hs⟩
      dsimp only at hc n1 n2 hs ⊢
      subst hc
      exact wpS_pure (q zs n n1 n2 lz hs)
end Ts
namespace Ts
open PySem PyProof.Rows
noncomputable def starts:Nat→List (List Keyed)→List (Nat×Nat)
 | _,[]=>[]
 | st,X::Xs=>(st,X.length)::starts (st+X.length) Xs
noncomputable abbrev ft(t:Nat×Nat×Nat):Nat×Nat:=(t.1,t.2.1)
theorem zc3:∀(st:Nat) (Xs:List (List Keyed)),(starts st Xs).length=Xs.length
 | _,[]=>rfl
 | st,X::Xs=>by simp[starts,zc3]
theorem zdg:∀(st:Nat) (Xs:List (List Keyed)) (W:List Keyed),starts st (Xs++[W])=starts st Xs++[(st+Xs.flatten.length,W.length)]
 | st,[],W=>by simp[starts]
 | st,X::Xs,W=>by
  simp only[List.cons_append,starts,zdg (st+X.length) Xs W,List.flatten_cons,List.length_append]
  rw[show st+X.length+Xs.flatten.length=st+(X.length+Xs.flatten.length) by omega]
theorem ze2:∀(st:Nat) (Xs1:List (List Keyed)) (X:List Keyed) (Xs2:List (List Keyed)),(starts st (Xs1++X::Xs2))[Xs1.length]?=some (st+Xs1.flatten.length,X.length)
 | st,[],X,Xs2=>by simp[starts]
 | st,A::Xs1,X,Xs2=>by
  simp only[List.cons_append,starts,List.length_cons,List.getElem?_cons_succ,ze2 (st+A.length) Xs1 X Xs2,List.flatten_cons,List.length_append]
  rw[show st+A.length+Xs1.flatten.length=st+(A.length+Xs1.flatten.length) by omega]
theorem ze3{X Y Z:List Keyed}{Xs2:List (List Keyed)}(hz:Z.length=X.length+Y.length):∀(st:Nat) (Xs1:List (List Keyed)),((starts st (Xs1++X::Y::Xs2)).set Xs1.length (st+Xs1.flatten.length,X.length+Y.length)).eraseIdx (Xs1.length+1)=starts st (Xs1++Z::Xs2)
 | st,[]=>by
  simp[starts,hz,Nat.add_assoc]
 | st,A::Xs1=>by
  have ih:=ze3 (Xs2:=Xs2) hz (st+A.length) Xs1
  simp only[List.cons_append,starts,List.length_cons,List.set_cons_succ,List.eraseIdx_cons_succ,List.flatten_cons,List.length_append]
  rw[show st+(A.length+Xs1.flatten.length)=st+A.length+Xs1.flatten.length by omega,ih]
theorem zdE{α β:Type}(f:α→β):∀(l:List α) (n:Nat),(l.map f).eraseIdx n=(l.eraseIdx n).map f
 | [],_=>rfl
 | a::r,0=>rfl
 | a::r,n+1=>by show f a::(r.map f).eraseIdx n=_;rw[zdE f r n];rfl
structure RI (rk:Keyed→Int) (a0 arr:Array Keyed) (pend:Array (Nat×Nat×Nat)) (Xs:List (List Keyed)) (S:List Keyed):Prop where
 pm:arr.toList.Perm a0.toList
 dec:arr.toList=Xs.flatten++S
 so:∀X∈Xs,Srt rk X∧0<X.length
 ps:pend.toList.map ft=starts 0 Xs
theorem zml{Xs:List (List Keyed)}{i:Nat}(h:i+1<Xs.length):∃Xs1 X Y Xs2,Xs=Xs1++X::Y::Xs2∧Xs1.length=i:=by
 refine⟨Xs.take i,Xs[i],Xs[i+1],Xs.drop (i+2),?_,by simp;omega⟩
 rw[←List.drop_eq_getElem_cons,←List.drop_eq_getElem_cons,List.take_append_drop]
theorem zk2{pend:Array (Nat×Nat×Nat)}{i a n:Nat}{l:List (Nat×Nat)}(h:pend.toList.map ft=l)(e:l[i]?=some (a,n)):∃p,pend[i]?=some (a,n,p):=by
 rw[←h,List.getElem?_map,Array.getElem?_toList] at e
 cases hp:pend[i]? with
 | none=>rw[hp] at e;cases e
 | some t=>
  rw[hp] at e
  obtain⟨x,y,z⟩:=t
  simp at e
  obtain⟨rfl,rfl⟩:=e
  exact⟨z,rfl⟩
variable {M:Model} {A:Around} {E:Value→Shared→Prop} {s:Shared}
theorem zgy{κ:SortKind}{ok:Keyed→Prop}{rk:Keyed→Int}(R:Rk M A E s κ ok rk){a0:Array Keyed}{Xs:List (List Keyed)}{S:List Keyed}{i:Nat}{Q:Bool→SortSt→Prop}{st:SortSt}(hk:kindOf st=κ)(hf:failedOf st=none)(oa:∀x∈a0,ok x)
  (h:RI rk a0 (arrOf st) (pendingOf st) Xs S) (hi:i+1<Xs.length)
  (q:∀st' Ys,kindOf st'=κ→failedOf st'=none→RI rk a0 (arrOf st') (pendingOf st') Ys S→Ys.length+1=Xs.length→Ys.flatten.length=Xs.flatten.length→Q true st'):wpS M A E s (mergeAt' i) Q st:=by
 obtain⟨Xs1,X,Y,Xs2,rfl,rfl⟩:=zml hi
 obtain⟨pa,p1⟩:=zk2 h.ps (ze2 0 Xs1 X (Y::Xs2))
 have e2:=ze2 0 (Xs1++[X]) Y Xs2
 rw[show Xs1++[X]++Y::Xs2=Xs1++X::Y::Xs2 by simp,List.length_append,List.length_singleton] at e2
 obtain⟨pb,p2⟩:=zk2 h.ps e2
 rw[Nat.zero_add] at p1 p2
 rw[show(Xs1++[X]).flatten.length=Xs1.flatten.length+X.length by simp] at p2
 have sX:=h.so X (by simp)
 have sY:=h.so Y (by simp)
 have hd:(arrOf st).toList=Xs1.flatten++(X++(Y++(Xs2.flatten++S))):=by rw[h.dec];simp
 refine zh9 R hk hf (fun x hx=>oa x ?_) hd p1 p2 sX.2 sY.2 sX.1 sY.1 fun Z g zp zs=>?_
 ·have:=h.pm.mem_iff.mp (Array.mem_toList_iff.mpr hx)
  exact Array.mem_toList_iff.mp this
 ·have zl:Z.length=X.length+Y.length:=by rw[zp.length_eq,List.length_append]
  refine q _ (Xs1++Z::Xs2) rfl rfl ⟨?_,?_,fun W hW=>?_,?_⟩ (by simp only[List.length_append,List.length_cons];omega) (by simp[zl];omega)
  ·refine List.Perm.trans ?_ h.pm
   rw[hd]
   show(Xs1.flatten++(Z++(Xs2.flatten++S))).Perm _
   refine List.Perm.append_left _ ?_
   rw[←List.append_assoc X]
   exact zp.append_right _
  ·show Xs1.flatten++(Z++(Xs2.flatten++S))=_
   simp
  ·rcases List.mem_append.mp hW with hW | hW
   ·exact h.so W (by simp[hW])
   ·rcases List.mem_cons.mp hW with rfl | hW
    ·exact⟨zs,by have:=sX.2;omega⟩
    ·exact h.so W (by simp[hW])
  ·have:=ze3 (X:=X) (Y:=Y) (Z:=Z) (Xs2:=Xs2) zl 0 Xs1
   rw[←this,←h.ps,Nat.zero_add]
   show List.map ft ((((pendingOf st).setIfInBounds Xs1.length (Xs1.flatten.length,X.length+Y.length,pa)).eraseIdxIfInBounds (Xs1.length+1)).toList)=_
   rw[Array.toList_eraseIdxIfInBounds,Array.toList_setIfInBounds,←zdE,List.map_set]
end Ts
namespace Ts
open PySem PyProof.Rows
theorem zmZ{rk:Keyed→Int}{xs ys:Array Keyed}{F S:List Keyed}{m n:Nat}(h:Sl xs ys F.length m)(hd:xs.toList=F++S)(hs:SrtI rk ys F.length n)(hn:F.length+n≤xs.size):∃W S2,ys.toList=F++(W++S2)∧W.length=n∧Srt rk W:=by
 have hsz:=h.size
 have e1:ys.toList.take F.length=F:=by
  have:ys.toList.take F.length=xs.toList.take F.length:=by
   apply List.ext_getElem?
   intro i
   rw[List.getElem?_take,List.getElem?_take]
   split
   ·rw[Array.getElem?_toList,Array.getElem?_toList];exact h.out i (.inl (by assumption))
   ·rfl
  rw[this,hd,List.take_left]
 refine⟨(ys.toList.drop F.length).take n,(ys.toList.drop F.length).drop n,?_,by simp;omega,?_⟩
 ·rw[List.take_append_drop]
  conv=>lhs;rw[←List.take_append_drop F.length ys.toList,e1]
 ·refine List.pairwise_iff_getElem.mpr fun i j hi hj hij=>?_
  have hj2:j<n:=by simp at hj;omega
  have:=hs i j (by omega) hj2
  unfold kr at this
  rw[zaq (by omega),zaq (by omega)] at this
  simpa[List.getElem_take,List.getElem_drop] using this
variable {M:Model} {A:Around} {E:Value→Shared→Prop} {s:Shared}
theorem zf7(p:Array (Nat×Nat×Nat))(k:Nat)(f:Nat×Nat×Nat→Nat×Nat×Nat)(h:∀x,ft (f x)=ft x):(p.modify k f).toList.map ft=p.toList.map ft:=by
 apply List.ext_getElem?
 intro i
 rw[List.getElem?_map,List.getElem?_map,Array.getElem?_toList,Array.getElem?_toList,Array.getElem?_modify]
 split
 ·cases p[i]? with
  | none=>rfl
  | some x=>simp only[Option.map_some,h]
 ·rfl
theorem zk3:∀(Xs:List (List Keyed)),(∀X∈Xs,0<X.length)→Xs.length≤Xs.flatten.length
 | [],_=>Nat.le_refl _
 | X::Xs,h=>by
  have h1:=h X (by simp)
  have h2:=zk3 Xs fun Y hY=>h Y (by simp[hY])
  rw[List.flatten_cons,List.length_append,List.length_cons]
  omega
theorem Sl.wide{xs ys:Array Keyed}{lo n m:Nat}(h:Sl xs ys lo n)(hn:n≤m):Sl xs ys lo m:=⟨h.pm,fun j hj=>h.out j (by omega)⟩
theorem zmm{κ:SortKind}{ok:Keyed→Prop}{rk:Keyed→Int}(R:Rk M A E s κ ok rk){Q:Unit→SortSt→Prop}{st:SortSt}(hk:kindOf st=κ)(hf:failedOf st=none)(hp:pendingOf st=#[])(oa:∀x∈arrOf st,ok x)
  (q:∀st',(arrOf st').toList.Perm (arrOf st).toList→Srt rk (arrOf st').toList→failedOf st'=none→Q () st'):wpS M A E s sortRuns' Q st:=by
 rw[sortRuns'_eq]
 refine wpS_bind (wpS_get ?_)
 dsimp only
 generalize hmr:minRun' (arrOf st).size (arrOf st).size 0=mr
 generalize hsz:(arrOf st).size=sz
 have h0:RI rk (arrOf st) (arrOf st) (pendingOf st) [] (arrOf st).toList:=⟨List.Perm.refl _,rfl,fun X hX=>(by cases hX),by rw[hp];rfl⟩
 refine wpS_bind (wpS_mono (wpS_forRange (I:=fun i (c:Option Unit×Nat) st'=>c.1=none∧kindOf st'=κ∧failedOf st'=none∧∃Xs S,RI rk (arrOf st) (arrOf st') (pendingOf st') Xs S∧Xs.flatten.length=c.2∧c.2≤sz∧i≤c.2)
  (Q:=fun(c:Option Unit×Nat) st'=>c.1=none∧kindOf st'=κ∧failedOf st'=none∧∃Xs,RI rk (arrOf st) (arrOf st') (pendingOf st') Xs []) ?_ ?_ ⟨rfl,hk,hf,[],_,h0,rfl,Nat.zero_le _,Nat.le_refl _⟩) ?_)
 ·rintro i ⟨c,lo⟩ st' _ hi ⟨hc,k',f',Xs,S,ri,hlo,hle,hil⟩
  dsimp only at hc hlo hle hil ⊢
  subst hc hlo
  have as:(arrOf st').size=sz:=by rw[←hsz,←Array.length_toList,←Array.length_toList];exact ri.pm.length_eq
  have oa':∀x∈arrOf st',ok x:=fun x hx=>oa x (Array.mem_toList_iff.mp (ri.pm.mem_iff.mp (Array.mem_toList_iff.mpr hx)))
  have sl:Xs.flatten.length+S.length=sz:=by rw[←as,←Array.length_toList,ri.dec,List.length_append]
  by_cases hd:Xs.flatten.length≥sz
  ·rw[if_pos hd]
   have:S=[]:=List.length_eq_zero_iff.mp (by omega)
   subst this
   exact wpS_pure ⟨rfl,k',f',Xs,ri⟩
  rw[if_neg hd]
  refine wpS_bind (zk1 R k' oa' (by omega) (by omega) fun ys n n1 n2 sly soy=>?_)
  dsimp only
  split
  ·refine wpS_bind (zcE ?_)
   refine wpS_bind (zjy R (st:=setArr st' ys) k' (sly.ok oa') (show _≤ys.size by have:=sly.size;omega) soy (by omega) fun zs slz0 soz=>?_)
   simp only[Bool.not_true,Bool.false_eq_true,if_false]
   have slz:Sl (arrOf st') zs Xs.flatten.length (sz-Xs.flatten.length):=sly.trans (slz0.wide (by omega))
   show wpS M A E s _ _ (setArr st' zs)
   obtain⟨W,S2,dz,wl,ws⟩:=zmZ slz ri.dec soz (by omega)
   have rz:RI rk (arrOf st) zs (pendingOf st') Xs (W++S2):=⟨(Array.perm_iff_toList_perm.mp slz.pm).trans ri.pm,dz,ri.so,ri.ps⟩
   have ent:∀(st2:SortSt) (Ys:List (List Keyed)),kindOf st2=κ→failedOf st2=none→RI rk (arrOf st) (arrOf st2) (pendingOf st2) Ys (W++S2)→Ys.flatten.length=Xs.flatten.length→∃Zs S3,RI rk (arrOf st) (arrOf st2) ((pendingOf st2).push (Xs.flatten.length,min (sz-Xs.flatten.length) mr,0)) Zs S3∧Zs.flatten.length=Xs.flatten.length+min (sz-Xs.flatten.length) mr:=fun st2 Ys k2 f2 r2 l2=>by
    refine⟨Ys++[W],S2,⟨r2.pm,by rw[r2.dec];simp,fun X hX=>?_,?_⟩,by simp[l2,wl]⟩
    ·rcases List.mem_append.mp hX with hX | hX
     ·exact r2.so X hX
     ·simp at hX;subst hX;exact⟨ws,by omega⟩
    ·rw[Array.toList_push,List.map_append,r2.ps,zdg,l2,wl,Nat.zero_add]
     rfl
   refine wpS_bind (wpS_get ?_)
   cases hbk:(pendingOf (setArr st' zs)).back? with
   | none=>
    dsimp only
    refine wpS_bind (wpS_modify (wpS_pure ?_))
    obtain⟨Zs,S3,r3,l3⟩:=ent (setArr st' zs) Xs k' f' rz rfl
    exact⟨rfl,k',f',Zs,S3,r3,l3,by dsimp only;omega,by dsimp only;omega⟩
   | some t=>
    obtain⟨s1,t1,p1⟩:=t
    dsimp only
    refine wpS_bind (wpS_mono (wpS_forRange (I:=fun j (c:Option Unit×Unit) st2=>c.1=none∧kindOf st2=κ∧failedOf st2=none∧∃Ys,RI rk (arrOf st) (arrOf st2) (pendingOf st2) Ys (W++S2)∧Ys.flatten.length=Xs.flatten.length)
     (Q:=fun(c:Option Unit×Unit) st2=>c.1=none∧kindOf st2=κ∧failedOf st2=none∧∃Ys,RI rk (arrOf st) (arrOf st2) (pendingOf st2) Ys (W++S2)∧Ys.flatten.length=Xs.flatten.length) ?_ ?_ ⟨rfl,k',f',Xs,rz,rfl⟩) ?_)
    ·rintro j ⟨c,⟨⟩⟩ st2 _ hj ⟨hc,k2,f2,Ys,r2,l2⟩
     dsimp only at hc ⊢
     subst hc
     refine wpS_bind (wpS_get ?_)
     have pl:(pendingOf st2).size=Ys.length:=by
      have:=congrArg List.length r2.ps
      rwa [List.length_map,Array.length_toList,zc3] at this
     by_cases big:(pendingOf st2).size>1
     ·rw[if_pos big,Array.getElem?_eq_getElem (show(pendingOf st2).size-2<(pendingOf st2).size by omega)]
      generalize (pendingOf st2)[(pendingOf st2).size-2]'(by omega)=u
      obtain⟨u1,u2,u3⟩:=u
      dsimp only
      split
      ·exact wpS_pure ⟨rfl,k2,f2,Ys,r2,l2⟩
      ·refine wpS_bind (zgy R k2 f2 oa r2 (by omega) fun st3 Zs k3 f3 r3 _ l3=>?_)
       simp only[Bool.not_true,Bool.false_eq_true,if_false]
       exact wpS_pure ⟨rfl,k3,f3,Zs,r3,by rw[l3,l2]⟩
     ·rw[if_neg big]
      dsimp only
      exact wpS_pure ⟨rfl,k2,f2,Ys,r2,l2⟩
    ·rintro⟨c,⟨⟩⟩ st2 h;exact h
    ·rintro⟨c,⟨⟩⟩ st2 ⟨hc,k2,f2,Ys,r2,l2⟩
     dsimp only at hc ⊢
     subst hc
     dsimp only
     refine wpS_bind (wpS_modify (wpS_bind (wpS_modify (wpS_pure ?_))))
     obtain⟨Zs,S3,r3,l3⟩:=ent (setPending st2 ((pendingOf st2).modify ((pendingOf st2).size-1) fun x=>(x.1,x.2.1,power' sz (2*s1+t1) (2*s1+t1+t1+min (sz-Xs.flatten.length) mr) sz))) Ys k2 f2 ⟨r2.pm,r2.dec,r2.so,by rw[←r2.ps];exact zf7 _ _ _ fun x=>rfl⟩ l2
     exact⟨rfl,k2,f2,Zs,S3,r3,l3,by dsimp only;omega,by dsimp only;omega⟩
  ·have slz:=sly
   have soz:=soy
   generalize ys=zs at slz soz
   obtain⟨W,S2,dz,wl,ws⟩:=zmZ slz ri.dec soz (by omega)
   have rz:RI rk (arrOf st) zs (pendingOf st') Xs (W++S2):=⟨(Array.perm_iff_toList_perm.mp slz.pm).trans ri.pm,dz,ri.so,ri.ps⟩
   have ent:∀(st2:SortSt) (Ys:List (List Keyed)),kindOf st2=κ→failedOf st2=none→RI rk (arrOf st) (arrOf st2) (pendingOf st2) Ys (W++S2)→Ys.flatten.length=Xs.flatten.length→∃Zs S3,RI rk (arrOf st) (arrOf st2) ((pendingOf st2).push (Xs.flatten.length,n,0)) Zs S3∧Zs.flatten.length=Xs.flatten.length+n:=fun st2 Ys k2 f2 r2 l2=>by
    refine⟨Ys++[W],S2,⟨r2.pm,by rw[r2.dec];simp,fun X hX=>?_,?_⟩,by simp[l2,wl]⟩
    ·rcases List.mem_append.mp hX with hX | hX
     ·exact r2.so X hX
     ·simp at hX;subst hX;exact⟨ws,by omega⟩
    ·rw[Array.toList_push,List.map_append,r2.ps,zdg,l2,wl,Nat.zero_add]
     rfl
   refine wpS_bind (wpS_get ?_)
   cases hbk:(pendingOf (setArr st' zs)).back? with
   | none=>
    dsimp only
    refine wpS_bind (wpS_modify (wpS_pure ?_))
    obtain⟨Zs,S3,r3,l3⟩:=ent (setArr st' zs) Xs k' f' rz rfl
    exact⟨rfl,k',f',Zs,S3,r3,l3,by dsimp only;omega,by dsimp only;omega⟩
   | some t=>
    obtain⟨s1,t1,p1⟩:=t
    dsimp only
    refine wpS_bind (wpS_mono (wpS_forRange (I:=fun j (c:Option Unit×Unit) st2=>c.1=none∧kindOf st2=κ∧failedOf st2=none∧∃Ys,RI rk (arrOf st) (arrOf st2) (pendingOf st2) Ys (W++S2)∧Ys.flatten.length=Xs.flatten.length)
     (Q:=fun(c:Option Unit×Unit) st2=>c.1=none∧kindOf st2=κ∧failedOf st2=none∧∃Ys,RI rk (arrOf st) (arrOf st2) (pendingOf st2) Ys (W++S2)∧Ys.flatten.length=Xs.flatten.length) ?_ ?_ ⟨rfl,k',f',Xs,rz,rfl⟩) ?_)
    ·rintro j ⟨c,⟨⟩⟩ st2 _ hj ⟨hc,k2,f2,Ys,r2,l2⟩
     dsimp only at hc ⊢
     subst hc
     refine wpS_bind (wpS_get ?_)
     have pl:(pendingOf st2).size=Ys.length:=by
      have:=congrArg List.length r2.ps
      rwa [List.length_map,Array.length_toList,zc3] at this
     by_cases big:(pendingOf st2).size>1
     ·rw[if_pos big,Array.getElem?_eq_getElem (show(pendingOf st2).size-2<(pendingOf st2).size by omega)]
      generalize (pendingOf st2)[(pendingOf st2).size-2]'(by omega)=u
      obtain⟨u1,u2,u3⟩:=u
      dsimp only
      split
      ·exact wpS_pure ⟨rfl,k2,f2,Ys,r2,l2⟩
      ·refine wpS_bind (zgy R k2 f2 oa r2 (by omega) fun st3 Zs k3 f3 r3 _ l3=>?_)
       simp only[Bool.not_true,Bool.false_eq_true,if_false]
       exact wpS_pure ⟨rfl,k3,f3,Zs,r3,by rw[l3,l2]⟩
     ·rw[if_neg big]
      dsimp only
      exact wpS_pure ⟨rfl,k2,f2,Ys,r2,l2⟩
    ·rintro⟨c,⟨⟩⟩ st2 h;exact h
    ·rintro⟨c,⟨⟩⟩ st2 ⟨hc,k2,f2,Ys,r2,l2⟩
     dsimp only at hc ⊢
     subst hc
     dsimp only
     refine wpS_bind (wpS_modify (wpS_bind (wpS_modify (wpS_pure ?_))))
     obtain⟨Zs,S3,r3,l3⟩:=ent (setPending st2 ((pendingOf st2).modify ((pendingOf st2).size-1) fun x=>(x.1,x.2.1,power' sz (2*s1+t1) (2*s1+t1+t1+n) sz))) Ys k2 f2 ⟨r2.pm,r2.dec,r2.so,by rw[←r2.ps];exact zf7 _ _ _ fun x=>rfl⟩ l2
     exact⟨rfl,k2,f2,Zs,S3,r3,l3,by dsimp only;omega,by dsimp only;omega⟩
 ·rintro⟨c,lo⟩ st' ⟨hc,k',f',Xs,S,ri,hlo,hle,hil⟩
  dsimp only at hc hlo hle hil ⊢
  rw[Nat.max_eq_right (Nat.zero_le _)] at hil
  have as:(arrOf st').size=sz:=by rw[←hsz,←Array.length_toList,←Array.length_toList];exact ri.pm.length_eq
  have sl:Xs.flatten.length+S.length=sz:=by rw[←as,←Array.length_toList,ri.dec,List.length_append]
  have:S=[]:=List.length_eq_zero_iff.mp (by omega)
  subst this
  exact⟨hc,k',f',Xs,ri⟩
 ·rintro⟨c,lo⟩ st' ⟨hc,k',f',Xs,ri⟩
  dsimp only at hc ⊢
  subst hc
  dsimp only
  have as:(arrOf st').size=sz:=by rw[←hsz,←Array.length_toList,←Array.length_toList];exact ri.pm.length_eq
  have fl:Xs.flatten.length=sz:=by rw[←as,←Array.length_toList,ri.dec];simp
  have xl:=zk3 Xs fun X hX=>(ri.so X hX).2
  refine wpS_bind (wpS_mono (wpS_forRange (I:=fun j (c:Option Unit×Unit) st2=>c.1=none∧kindOf st2=κ∧failedOf st2=none∧∃Ys,RI rk (arrOf st) (arrOf st2) (pendingOf st2) Ys []∧Ys.length+j≤sz)
   (Q:=fun(c:Option Unit×Unit) st2=>c.1=none∧kindOf st2=κ∧failedOf st2=none∧∃Ys,RI rk (arrOf st) (arrOf st2) (pendingOf st2) Ys []∧Ys.length≤1) ?_ ?_ ⟨rfl,k',f',Xs,ri,by omega⟩) ?_)
  ·rintro j ⟨c,⟨⟩⟩ st2 _ hj ⟨hc,k2,f2,Ys,r2,l2⟩
   dsimp only at hc ⊢
   subst hc
   refine wpS_bind (wpS_get ?_)
   have pl:(pendingOf st2).size=Ys.length:=by
    have:=congrArg List.length r2.ps
    rwa [List.length_map,Array.length_toList,zc3] at this
   by_cases sm:(pendingOf st2).size≤1
   ·rw[if_pos sm]
    exact wpS_pure ⟨rfl,k2,f2,Ys,r2,by omega⟩
   rw[if_neg sm]
   have ix:∀(p:Prop) [Decidable p],(if p then(pendingOf st2).size-2-1 else(pendingOf st2).size-2)+1<Ys.length:=fun p _=>by split<;>omega
   refine wpS_bind (zgy R k2 f2 oa r2 (ix _) fun st3 Zs k3 f3 r3 l3 _=>?_)
   simp only[Bool.not_true,Bool.false_eq_true,if_false]
   exact wpS_pure ⟨rfl,k3,f3,Zs,r3,by omega⟩
  ·rintro⟨c,⟨⟩⟩ st2 ⟨hc,k2,f2,Ys,r2,l2⟩
   rw[Nat.max_eq_right (Nat.zero_le _)] at l2
   exact⟨hc,k2,f2,Ys,r2,by omega⟩
  ·rintro⟨c,⟨⟩⟩ st2 ⟨hc,k2,f2,Ys,r2,l2⟩
   dsimp only at hc ⊢
   subst hc
   refine wpS_pure (q st2 r2.pm ?_ f2)
   rw[r2.dec,List.append_nil]
   match Ys,l2,r2.so with
   | [],_,_=>exact .nil
   | [X],_,so=>simpa using (so X (by simp)).1
end Ts
namespace Ts
open PySem PyProof.Rows
section
variable {prog:Program} {w:World} {A:Around} {E:Value→Shared→Prop} {s:Shared}
noncomputable def RunsOK(n:Nat):Prop:=∀{M:Model} {A:Around} {E:Value→Shared→Prop} {s:Shared} {κ:SortKind} {ok:Keyed→Prop} {rk:Keyed→Int} (R:Rk M A E s κ ok rk) {Q:Unit→SortSt→Prop} {st:SortSt},kindOf st=κ→failedOf st=none→pendingOf st=#[]→(arrOf st).size=n→(∀x∈arrOf st,ok x)→
 (∀st',(arrOf st').toList.Perm (arrOf st).toList→Srt rk (arrOf st').toList→failedOf st'=none→Q () st')→wpS M A E s sortRuns' Q st
structure Ask (prog:Program) (w:World) (A:Around) (E:Value→Shared→Prop) (vs:List Value) (rk:Keyed→Int) (s:Shared):Prop where
 ask:2≤vs.length→∃κ,(∀Q':SortKind→Shared→Prop,Q' κ s→wpAny (model prog w) A (keyKind' vs.toArray) Q' E s)∧Rk (model prog w) A E s κ (fun x=>x∈pairsOf vs) rk
theorem zk4{rk:Keyed→Int}{l:List Keyed}(h:l.length<2):Srt rk l:=by
 cases l with
 | nil=>exact .nil
 | cons a r=>
  cases r with
  | nil=>exact List.pairwise_singleton _ _
  | cons b t=>
   simp only[List.length_cons] at h
   omega
theorem zia{a:Addr}{vs:List Value}{n:Nat}{P:Fin→Shared→Prop}{rk:Keyed→Int}(ho:s.heap.get? a=some (seqObj "list" vs.toArray n))(hl:vs.length≤sizeLine)(hr:2≤vs.length→RunsOK vs.length)
  (R:∀h',(∀b o,b≠a→s.heap.get? b=some o→h'.get? b=some o)→Ask prog w A E vs rk { s with heap:=h' })
  (h:∀st':SortSt,(arrOf st').toList.Perm (pairsOf vs).toList→Srt rk (arrOf st').toList→P (.done (.ret .none)) { s with heap:=sortedHeap s.heap a vs ((arrOf st').map (·.2)) }) :
  wpAny (model prog w) A (Builtin.«list.sort» ⟨[.ref a],[]⟩) P E s:=by
 rw[list_sort_plain]
 have ha:a<s.heap.objs.size:=Heap.lt_size ho
 refine wpAny_bind (listItems_at ho rfl ?_)
 refine wpAny_bind (listUpdate_at ho rfl ?_ (by simpa using hl) (Nat.zero_le _))
 obtain⟨e1,ho1⟩:∃e1,(s.heap.update a (Obj.mapSeq fun _=>#[])).get? a=some (seqObj "list" #[] e1):=⟨_,get?_update_seq ho (fun _=>#[])⟩
 refine wpAny_bind (seqEpoch_at ho1 rfl ?_)
 refine wpAny_bind (wpAny_newTuple ?_ (by show vs.length≤_;exact hl))
 refine wpAny_bind (wpAny_newList ?_ (Nat.zero_le _))
 refine wpAny_holding ?_
 have ho6:(((s.heap.update a (Obj.mapSeq fun _=>#[])).push (seqObj "tuple" vs.toArray 0)).push (seqObj "list" #[] 0)).get? a=some (seqObj "list" #[] e1):=by
  rw[Heap.get?_push_ne _ _ _ (by rw[size_push',Heap.size_update];exact Nat.ne_of_lt (Nat.lt_succ_of_lt ha)),Heap.get?_push_ne _ _ _ (by rw[Heap.size_update];exact Nat.ne_of_lt ha)]
  exact ho1
 have ak:=R (((s.heap.update a (Obj.mapSeq fun _=>#[])).push (seqObj "tuple" vs.toArray 0)).push (seqObj "list" #[] 0)) (fun b o hb e=>Heap.get?_push_of_some _ (Heap.get?_push_of_some _ ((Heap.get?_update_other _ _ (Ne.symm hb)).trans e)))
 show wpAny (model prog w) A _ P E { s with heap:=((s.heap.update a (Obj.mapSeq fun _=>#[])).push (seqObj "tuple" vs.toArray 0)).push (seqObj "list" #[] 0) }
 dsimp only
 have hsz:vs.toArray.size=vs.length:=by simp
 have fin:=h
 by_cases h2:vs.toArray.size<2
 ·rw[if_pos h2,if_pos h2]
  refine wpAny_bind (wpAny_pure ?_)
  rw[StateT.run_pure]
  refine wpAny_bind (wpAny_pure ?_)
  dsimp only
  refine wpAny_bind (seqEpoch_at ho6 rfl ?_)
  refine wpAny_bind (listUpdate_at ho6 rfl ?_ (Nat.zero_le _) (by rw[Array.size_map];show(pairsOf vs).size≤_;rw[pairsOf_size];exact Nat.le_succ_of_le hl))
  simp only[bne_self_eq_false,Bool.false_eq_true,if_false]
  refine wpAny_pure (fin (SortSt.mk' general' (vs.toArray.zip vs.toArray) #[] 7 none) (List.Perm.refl _) ?_)
  show Srt rk (pairsOf vs).toList
  exact zk4 (by rw[Array.length_toList,pairsOf_size];omega)
 ·rw[if_neg h2,if_neg h2]
  obtain⟨κ,ka,kr⟩:=ak.ask (by omega)
  refine wpAny_bind (ka _ ?_)
  refine wpAny_bind (wpAny_mono (hr (by omega) kr (st:=SortSt.mk' κ (vs.toArray.zip vs.toArray) #[] 7 none)
   (Q:=fun _ st'=>(arrOf st').toList.Perm (pairsOf vs).toList∧Srt rk (arrOf st').toList∧failedOf st'=none) rfl rfl rfl (by rw[←pairsOf_size vs];rfl) (fun x hx=>hx) fun st' a1 a2 a3=>⟨a1,a2,a3⟩) ?_ fun _ _ e=>e)
  rintro⟨⟨⟩,st'⟩ s' ⟨rfl,hp,hs,hf⟩
  dsimp only
  refine wpAny_bind (seqEpoch_at ho6 rfl ?_)
  refine wpAny_bind (listUpdate_at ho6 rfl ?_ (Nat.zero_le _) (by
   rw[Array.size_map,←Array.length_toList,hp.length_eq,Array.length_toList,pairsOf_size];exact Nat.le_succ_of_le hl))
  rw[hf]
  simp only[bne_self_eq_false,Bool.false_eq_true,if_false]
  exact wpAny_pure (fin st' hp hs)
theorem sorted_R{l:Addr}{vs:List Value}{Q:Value→Shared→Prop}{rk:Keyed→Int}(hl:s.heap.IsList l vs.toArray)(hz:vs.length≤sizeLine)(hr:2≤vs.length→RunsOK vs.length)
  (R:∀h',(∀b o,s.heap.get? b=some o→h'.get? b=some o)→Ask prog w A.in1.in1 E vs rk { s with heap:=h' })
  (h:∀st':SortSt,(arrOf st').toList.Perm (pairsOf vs).toList→Srt rk (arrOf st').toList→Q (.ref (s.heap.objs.size+1)) { s with heap:=sortedAll s.heap vs ((arrOf st').map (·.2)) }) :
  wpAny (model prog w) A (call (.builtin "sorted") [.ref l]) Q E s:=by
 refine Calls.call_function_entry kind_sorted plain_sorted entry_sorted (args_sorted1 _) ?_
 unfold Builtin.«sorted»
 refine wpAny_bind (m:=checkCount "sorted" 1 1 _) (wpAny_pure ?_)
 refine wpAny_bind (collect_list hl ?_ hz)
 refine wpAny_bind (wpAny_newList ?_ hz)
 have hsz:((s.heap.push (seqObj "list" #[] 0)).update s.heap.objs.size (Obj.mapSeq (·++vs.toArray))).objs.size=s.heap.objs.size+1:=by
  rw[Heap.size_update,size_push']
 have hoL:(((s.heap.push (seqObj "list" #[] 0)).update s.heap.objs.size (Obj.mapSeq (·++vs.toArray))).push (seqObj "list" vs.toArray 0)).get? (s.heap.objs.size+1)=some (seqObj "list" vs.toArray 0):=by
  rw[←hsz];exact Heap.get?_push_size _ rfl
 have keep:∀b o,s.heap.get? b=some o→(((s.heap.push (seqObj "list" #[] 0)).update s.heap.objs.size (Obj.mapSeq (·++vs.toArray))).push (seqObj "list" vs.toArray 0)).get? b=some o:=fun b o q=>by
  have hlt:b<s.heap.objs.size:=Heap.lt_size q
  rw[Heap.get?_push_ne _ _ _ (by rw[hsz];exact Nat.ne_of_lt (Nat.lt_succ_of_lt hlt)),Heap.get?_update_ne _ _ _ _ (Nat.ne_of_lt hlt),Heap.get?_push_ne _ _ _ (Nat.ne_of_lt hlt)]
  exact q
 show wpAny _ _ _ _ _ { s with heap:=((s.heap.push (seqObj "list" #[] 0)).update s.heap.objs.size (Obj.mapSeq (·++vs.toArray))).push (seqObj "list" vs.toArray 0) }
 rw[hsz]
 refine wpAny_bind (wpAny_holding (wpAny_call_entry slot_list_sort ⟨_,hoL,rfl⟩ entry_list_sort (zia (rk:=rk) hoL hz hr (fun h' k=>R h' fun b o e=>k b o (Nat.ne_of_lt (Nat.lt_succ_of_lt (Heap.lt_size e))) (keep b o e)) fun st' a1 a2=>⟨_,rfl,?_⟩) (args_list_sort _)))
 exact wpAny_pure ⟨_,rfl,h st' a1 a2⟩
end
theorem runs_all(n:Nat):RunsOK n:=fun R _ _ hk hf hp _ oa q=>zmm R hk hf hp oa q
end Ts
namespace HT
theorem lexLt_gt:∀a b:List Int,lexLt a b=lexGt b a
 | [],[]=>rfl
 | [],_::_=>rfl
 | _::_,[]=>rfl
 | x::xs,y::ys=>by
  unfold lexLt lexGt
  rw[lexLt_gt xs ys]
  by_cases e:x=y
  ·subst e;simp
  ·have e2:¬y=x:=fun z=>e z.symm
   simp[e,e2]
end HT
namespace Ts
open PySem PySem.W PyProof.Rows
section
variable {prog:Program} {w:World} {A:Around} {E:Value→Shared→Prop} {s:Shared} {fin:Bool} {Q:Bool→Shared→Prop}
theorem ziO:∀{vs ws:List Value} {ns ms:List Int},IntsAre vs ns→IntsAre ws ms→∀i:Nat,fin=decide (ns.length<ms.length)→Q (HT.lexLt ns ms) s→KatLex prog w A true fin Q (vs.zip ws) i s
 | _,_,_,_,.nil,.nil,i,hf,q=>by subst hf;exact kat_nil q
 | _,_,_,_,.nil,.cons b u hw,i,hf,q=>by subst hf;exact kat_nil (by simpa[HT.lexLt] using q)
 | _,_,_,_,.cons a t hv,.nil,i,hf,q=>by subst hf;exact kat_nil (by simpa[HT.lexLt] using q)
 | _,_,_,_,.cons a t hv,.cons b u hw,i,hf,q=>by
  rw[List.zip_cons_cons]
  refine kat_cons (wpAny_eqBool_int ?_)
  rw[HT.lexLt_cons] at q
  by_cases e:a=b
  ·rw[if_pos e] at q
   subst e
   simp only[BEq.rfl,decide_true]
   exact kat_yes (ziO hv hw (i+1) (by rw[hf];simp) q)
  ·rw[if_neg e] at q
   simp only[beq_eq_false_iff_ne.mpr e,decide_eq_false e]
   refine kat_no ?_
   cases i with
   | zero=>exact oneLt_int q
   | succ i=>exact kat_one _ _ (HT.rcLt_int A s a t b u prog w _ _ q)
noncomputable def tiOf(h:Heap)(v:Value):List Int:=match v with
 | .ref a=>match h.get? a with
  | some o=>match o.data with
   | .seq xs _=>numsOf xs.toList
   | _=>[]
  | none=>[]
 | _=>[]
noncomputable def TupAt(h:Heap)(v:Value):Prop:=∃a o xs n,v=.ref a∧h.get? a=some o∧o.cls=.type "tuple"∧o.data=.seq xs n∧IntsAre xs.toList (tiOf h v)∧tiOf h v≠[]
noncomputable def rkT(h:Heap)(tss:List (List Int))(x:Keyed):Int:=(tss.countP fun t=>HT.lexGt (tiOf h x.1) t:Nat)
theorem rk_lt{tss:List (List Int)}{a b:List Int}(ha:a∈tss):(tss.countP fun t=>HT.lexGt a t)<(tss.countP fun t=>HT.lexGt b t)↔HT.lexGt b a=true:=by
 constructor
 ·intro h
  cases hb:HT.lexGt b a with
  | true=>rfl
  | false=>
   have:(tss.countP fun t=>HT.lexGt b t)≤(tss.countP fun t=>HT.lexGt a t):=by
    refine List.countP_mono_left fun t _ ht=>?_
    cases hc:HT.lexGt a t with
    | true=>rfl
    | false=>
     have:=HT.lexGt_tr b a t hb hc
     rw[this] at ht;cases ht
   omega
 ·intro h
  have sub:∀t,HT.lexGt a t=true→HT.lexGt b t=true:=fun t ht=>by
   cases hc:HT.lexGt b t with
   | true=>rfl
   | false=>
    have:=HT.lexGt_tr b t a hc (HT.lexGt_as a t ht)
    rw[this] at h;cases h
  induction tss with
  | nil=>cases ha
  | cons c r ih=>
   rw[List.countP_cons,List.countP_cons]
   rcases List.mem_cons.mp ha with rfl | ha
   ·have le:(r.countP fun t=>HT.lexGt a t)≤(r.countP fun t=>HT.lexGt b t):=List.countP_mono_left fun t _ ht=>sub t ht
    rw[HT.lexGt_irr,h]
    simp only[Bool.false_eq_true,if_false,if_true]
    omega
   ·have:=ih ha
    cases hc:HT.lexGt a c with
    | true=>rw[sub c hc];simp only[if_true];omega
    | false=>simp only[Bool.false_eq_true,if_false];split<;>omega
theorem zhv{h h':Heap}(k:∀b o,h.get? b=some o→h'.get? b=some o):∀{its:List Value},(∀v∈its,TupAt h v)→∃fs,KatTups h' its fs∧fs.length=its.length∧∀v∈fs,∃n t,v=Value.int n t
 | [],_=>⟨[],.nil,rfl,fun v hv=>by cases hv⟩
 | v::r,hv=>by
  obtain⟨fs,h1,h2,h3⟩:=zhv k (its:=r) fun x hx=>hv x (List.mem_cons_of_mem _ hx)
  obtain⟨a,o,xs,n,rfl,ho,hc,hd,hi,hne⟩:=hv v List.mem_cons_self
  generalize tiOf h (.ref a)=t at hi hne
  generalize hx:xs.toList=l at hi
  cases hi with
  | nil=>exact absurd rfl hne
  | cons m u hr=>
   have h0:xs[0]?=some (.int m u):=by rw[←Array.getElem?_toList,hx];rfl
   exact⟨.int m u::fs,KatTups.cons (k _ _ ho) hc hd h0 h1,by simp[h2],fun x hx=>by
    rcases List.mem_cons.mp hx with rfl | hx
    ·exact⟨_,_,rfl⟩
    ·exact h3 x hx⟩
theorem ask_tups{h h':Heap}{its:List Value}(k:∀b o,h.get? b=some o→h'.get? b=some o)(hv:∀v∈its,TupAt h v):Ask prog w A E its (rkT h (its.map (tiOf h))) { s with heap:=h' }:=by
 refine⟨fun h2=>⟨tuples' (Value.type "int" != Value.type "tuple"),fun Q' q=>?_,⟨fun x y st Q ox oy hk q=>?_⟩⟩⟩
 ·obtain⟨fs,h1,h2',h3⟩:=zhv k hv
  refine kat_kind (s:={ s with heap:=h' }) (T:=.type "int") h1 (by omega) (fun v hv=>?_) (by decide +kernel) q
  obtain⟨n,t,rfl⟩:=h3 v hv
  exact Looks.of_pure rfl
 ·have mem:∀z,z∈pairsOf its→TupAt h z.1∧z.1∈its:=fun z hz=>by
   have:z.1∈its:=by
    unfold pairsOf at hz
    have hz2:z∈its.zip its:=by simpa using hz
    exact(List.of_mem_zip hz2).1
   exact⟨hv _ this,this⟩
  obtain⟨⟨a,oa,xs,n,ea,ga,ca,da,ia,_⟩,ma⟩:=mem x ox
  obtain⟨⟨b,ob,ys,m,eb,gb,cb,db,ib,_⟩,mb⟩:=mem y oy
  have e:decide (rkT h (its.map (tiOf h)) x<rkT h (its.map (tiOf h)) y)=HT.lexLt (tiOf h x.1) (tiOf h y.1):=by
   rw[HT.lexLt_gt,Bool.eq_iff_iff,decide_eq_true_eq]
   unfold rkT
   rw[Int.ofNat_lt]
   exact rk_lt (List.mem_map_of_mem ma)
  rw[e] at q
  rw[lt'_eq]
  refine wpS_bind (wpS_get ?_)
  rw[hk,ea,eb]
  rw[ea,eb] at q
  rw[ea] at ia
  rw[eb] at ib
  have e2:(Value.type "int" != Value.type "tuple")=true:=by decide +kernel
  rw[e2]
  refine wpS_bind (wpS_lift (wpAny_attempt (kat_lt (k _ _ ga) da (k _ _ gb) db (ziO ia ib 0 ?_ ⟨rfl,?_⟩))))
  ·rw[←ia.length,←ib.length];simp
  ·exact wpS_pure q
end
end Ts
namespace Ts
open PySem PyProof.Rows
end Ts
namespace L2
open PySem PySem.Spec PyProof.Rows
theorem zhw{α β:Type}{f:α→β}{a b:List β}(h:a.Perm b):∀{L:List α},b=L.map f→∃L':List α,L'.Perm L∧a=L'.map f:=by
 induction h with
 | nil=>intro L e;exact⟨[],by rw[show L=[] from by simpa using e.symm],rfl⟩
 | cons x h ih=>
  intro L e
  cases L with
  | nil=>cases e
  | cons y L=>
   rw[List.map_cons] at e
   injection e with e1 e2
   obtain⟨L',h1,h2⟩:=ih e2
   exact⟨y::L',h1.cons y,by rw[List.map_cons,e1,h2]⟩
 | swap x y l=>
  intro L e
  match L,e with
  | [],e=>cases e
  | [_],e=>cases e
  | u::v::L,e=>
   simp only[List.map_cons,List.cons.injEq] at e
   exact⟨v::u::L,List.Perm.swap u v L,by simp[e]⟩
 | trans h1 h2 ih1 ih2=>
  intro L e
  obtain⟨L2,a1,a2⟩:=ih2 e
  obtain⟨L3,b1,b2⟩:=ih1 a2
  exact⟨L3,b1.trans a1,b2⟩
section
variable {X:Cx} {pos:Pos} {e:Expr} {te:TD}
theorem zk5{α:Type}{f:α→V}{g:α→Value}:∀{L:List α},(∀q∈L,RelV (f q) (g q))→Vals (L.map f) (L.map g)
 | [],_=>.nil
 | q::L,h=>.cons (h q List.mem_cons_self) (zk5 fun x hx=>h x (List.mem_cons_of_mem _ hx))
theorem zjz:CallR X (.builtin "sorted") (fun xs H Q=>∃(p:Addr) (ps:List (V×List Int)),xs=[.ref p]∧SqL X.K H p (ps.map (·.1))∧(∀q∈ps,q.2≠[]∧∃b,q.1=.ref b∧SqT X.K H b (q.2.map V.int))∧(2≤ps.length→Ts.RunsOK ps.length)∧
  ∀ps':List (V×List Int),ps'.Perm ps→ps'.Pairwise (fun x y=>HT.lexGt x.2 y.2=false)→∀l,H l=none→Q (.ref l) (upd H l (.lst (ps'.map (·.1))))):=by
 intro pins s σ H xs us Q I r h
 obtain⟨p,ps,rfl,hq,hk,hr,q⟩:=h
 obtain⟨u,rfl,ru⟩:=zcN r
 cases ru
 obtain⟨its,rv,pl,hz⟩:=I.list hq
 have hl:ps.length=its.length:=by rw[←rv.length,List.length_map]
 obtain⟨LL,e1,e2⟩:∃LL:List ((V×List Int)×Value),ps=LL.map (·.1)∧its=LL.map (·.2):=
  ⟨ps.zip its,(List.map_fst_zip (by omega)).symm,(List.map_snd_zip (by omega)).symm⟩
 have rel:∀z∈LL,RelV z.1.1 z.2:=fun z hz=>by
  obtain⟨i,hi⟩:=List.getElem?_of_mem hz
  have h1:(ps.map (·.1))[i]?=some z.1.1:=by rw[e1];simp[hi]
  obtain⟨v',hv',rx⟩:=rv.get h1
  have h2:its[i]?=some z.2:=by rw[e2];simp[hi]
  rw[h2] at hv';cases hv'
  exact rx
 have tup:∀z∈LL,Ts.TupAt s.heap z.2∧Ts.tiOf s.heap z.2=z.1.2:=fun z hz=>by
  obtain⟨hne,b,eb,sq⟩:=hk z.1 (by rw[e1];exact List.mem_map_of_mem hz)
  have rz:=rel z hz
  obtain⟨i1,v1,p1,_⟩:=I.tuple sq
  obtain⟨o1,g1,c1,n1,d1⟩:=p1
  obtain⟨⟨zv,zt⟩,zw⟩:=z
  simp only at eb rz v1 hne ⊢
  subst eb
  cases rz
  have ia:=zb0 v1
  have e:Ts.tiOf s.heap (.ref b)=zt:=by
   unfold Ts.tiOf
   simp only[g1,d1]
   exact ia.numsOf
  exact⟨⟨b,o1,_,n1,rfl,g1,c1,d1,by rw[e];exact ia,by rw[e];exact hne⟩,e⟩
 refine Ts.sorted_R (rk:=Ts.rkT s.heap (its.map (Ts.tiOf s.heap))) pl.isList (by rw[←hl,←List.length_map (f:=(·.1))];exact hz) (by rw[←hl];exact hr) (fun h' k=>Ts.ask_tups k fun v hv=>?_) fun st' hp hs=>?_
 ·rw[e2] at hv
  obtain⟨z,hz,rfl⟩:=List.mem_map.mp hv
  exact(tup z hz).1
 ·have ep:(PyProof.Rows.pairsOf its).toList=LL.map fun z=>((z.2,z.2):Keyed):=by
   unfold PyProof.Rows.pairsOf
   rw[e2]
   simp only[List.zip_toArray]
   clear e1 e2 rel tup hp hs
   induction LL with
   | nil=>rfl
   | cons a r ih=>simp at ih ⊢;exact ih
  obtain⟨L',h1,h2⟩:=zhw (hp.trans (List.Perm.of_eq ep)) rfl
  have relp:∀z∈L',RelV z.1.1 z.2:=fun z hz=>rel z (h1.subset hz)
  have out:((arrOf st').map (·.2)).toList=L'.map (·.2):=by
   rw[Array.toList_map,h2,List.map_map];rfl
  obtain⟨en,he⟩:=sortedAll_at s.heap its ((arrOf st').map (·.2))
  have hf:H (s.heap.objs.size+1)=none:=I.hok.fresh (Nat.le_succ _)
  have q':=q (L'.map (·.1)) (by rw[e1];exact h1.map _) (by
   rw[List.pairwise_map]
   unfold Ts.Srt at hs
   rw[h2,List.pairwise_map] at hs
   refine hs.imp_of_mem fun{a b} ha hb hab=>?_
   have ta:=(tup a (h1.subset ha)).2
   have tb:=(tup b (h1.subset hb)).2
   have mb:Ts.tiOf s.heap b.2∈its.map (Ts.tiOf s.heap):=List.mem_map_of_mem (by rw[e2];exact List.mem_map_of_mem (h1.subset hb))
   unfold Ts.rkT at hab
   cases hg:HT.lexGt a.1.2 b.1.2 with
   | false=>rfl
   | true=>
    rw[←ta,←tb] at hg
    have:=(Ts.rk_lt mb).mpr hg
    simp only at hab
    omega) _ hf
  rw[List.map_map] at q'
  refine⟨.ref (s.heap.objs.size+1),_,I.laid (a:=s.heap.objs.size+1) (o:=.lst (L'.map ((·.1)∘(·.1)))) (t':=s.toks) (fun b o e=>sortedAll_old e) (Nat.le_succ _) ?_,rfl,q'⟩
  refine⟨by rw[List.length_map,h1.length_eq];have:LL.length=its.length:=by rw[e2,List.length_map]
            rw[this,←hl,←List.length_map (f:=(·.1))];exact hz,((arrOf st').map (·.2)).toList,en,?_,?_⟩
  ·rw[out];exact zk5 relp
  ·rw[Array.toArray_toList];exact he
noncomputable def zeI:SpD:=fun ds Q=>match ds with
 | [.lst es]=>match zc5 es with
  | some tss=>(∀t∈tss,t≠[])∧∀tss':List (List Int),tss'.Perm tss→tss'.Pairwise (fun x y=>HT.lexGt x y=false)→Q (.ow (tss'.map fun t=>.tup (t.map D.int)))
  | none=>False
 | _=>False
theorem zk6{α:Type}{K:PySem.W.Frag}{G:Hp}{f:α→V}{g:α→D}:∀{L:List α},(∀q∈L,Rep K G (f q) (g q))→Reps K G (L.map f) (L.map g)
 | [],_=>Reps.nil
 | q::L,h=>Reps.cons (h q List.mem_cons_self) (zk6 fun x hx=>h x (List.mem_cons_of_mem _ hx))
theorem zmn{G H:Hp}{vs:List V}{es:List D}{tss:List (List Int)}{Q:R→Prop}{P:VK}(s:Same G H)(rs:Reps X.K G vs [.lst es])(ht:zc5 es=some tss)(hn:∀t∈tss,t≠[])(hr:2≤tss.length→Ts.RunsOK tss.length)
  (q:∀tss':List (List Int),tss'.Perm tss→tss'.Pairwise (fun x y=>HT.lexGt x y=false)→Q (.ow (tss'.map fun t=>.tup (t.map D.int)))) (k:∀v H' r' G',Ext G H G' H'→RepR X.K G' H' H v r'→Q r'→P v H') :
  ∃(p:Addr) (ps:List (V×List Int)),vs=[.ref p]∧SqL X.K H p (ps.map (·.1))∧(∀q∈ps,q.2≠[]∧∃b,q.1=.ref b∧SqT X.K H b (q.2.map V.int))∧(2≤ps.length→Ts.RunsOK ps.length)∧
   ∀ps':List (V×List Int),ps'.Perm ps→ps'.Pairwise (fun x y=>HT.lexGt x.2 y.2=false)→∀l,H l=none→P (.ref l) (upd H l (.lst (ps'.map (·.1)))):=by
 obtain⟨v,rfl,rv⟩:=zcr rs
 simp only[Rep] at rv
 obtain⟨a,xs,rfl,h1,h2⟩:=rv
 obtain⟨h3,h4⟩:=ziH ht h2
 have e1:(xs.zip tss).map (·.1)=xs:=List.map_fst_zip (by omega)
 have e2:(xs.zip tss).map (·.2)=tss:=List.map_snd_zip (by omega)
 have el:(xs.zip tss).length=tss.length:=by rw[List.length_zip];omega
 have hz:∀q∈xs.zip tss,Rep X.K G q.1 (.tup (q.2.map D.int))∧∃b,q.1=.ref b∧SqT X.K G b (q.2.map V.int):=fun q hq=>by
  obtain⟨i,hi⟩:=List.getElem?_of_mem hq
  have a1:xs[i]?=some q.1:=by rw[←e1];simp only[List.getElem?_map,hi];rfl
  have a2:tss[i]?=some q.2:=by rw[←e2];simp only[List.getElem?_map,hi];rfl
  exact h4 i _ _ a1 a2
 refine⟨a,xs.zip tss,rfl,by rw[e1];exact(s.rdl h1).sq,fun z hq=>⟨hn _ (by rw[←e2];exact List.mem_map_of_mem hq),?_⟩,by rw[el];exact hr,fun ps' p1 p2=>?_⟩
 ·obtain⟨_,b,e,sq⟩:=hz z hq
  exact⟨b,e,s.seqT sq⟩
 ·refine zda s (ds:=(ps'.map (·.2)).map fun t=>.tup (t.map D.int)) ?_ (q (ps'.map (·.2)) (by rw[←e2];exact p1.map _) (by rw[List.pairwise_map];exact p2)) k
  rw[List.map_map]
  exact zk6 fun q hq=>(hz q (p1.subset hq)).1
theorem zk7(_:X.calm=true):zdR X (.builtin "sorted") zeI:=by
 refine⟨_,zjz,fun G H vs ds Q P s rs h k=>?_⟩
 unfold zeI at h
 split at h
 ·split at h
  ·rename_i es tss ht
   exact zmn s rs ht h.1 (fun _=>Ts.runs_all _) h.2 k
  ·exact h.elim
 ·exact h.elim
end
end L2
namespace L2
open PySem PySem.Spec PyProof.Rows
end L2
namespace L2
open PySem PySem.Spec PyProof.Rows
theorem zk8{X:Cx}{sts:List Stmt}:PXs X sts (fun _ _=>False):=⟨fun _ _ _=>False,fun _ _ _ _ _ _ h=>h.elim,fun _ _ _ _ _ _ _ _ _ h _=>h.elim⟩
end L2
namespace L2
open PySem PySem.Spec PyProof.Rows
end L2
namespace PySem
open Sem (wp)
end PySem
namespace PySem
open Sem (wp)
end PySem
namespace L2
open PySem PySem.Spec PyProof.Rows
end L2
namespace L2
open PySem PySem.Spec PyProof.Rows
end L2
namespace L2
open PySem PySem.Spec PyProof.Rows
end L2
namespace PySem
open Sem (wp)
def StopAt (h : Heap) (e : Addr) : Prop := ∃ o, h.get? e = some o ∧ o.cls = .type "StopIteration"
def Grown (h h' : Heap) : Prop := ∀ c o, h.get? c = some o → h'.get? c = some o
section
variable {prog : Program} {w : World} {A : Around} {E : Value → Shared → Prop} {s : Shared}
theorem wpAny_stop {α : Type} {M : Model} {Q : α → Shared → Prop} (hh : A.handled = none) (hE : ∀ h' e, Grown s.heap h' → StopAt h' e → E (.ref e) { s with heap := h' }) : wpAny M A (Builtin.SmallTypes.stopIteration : Sem α) Q E s := by
  refine wpAny_bind (wpAny_bind (wpAny_newObj_type ?_ (by size_fits)))
  refine wpAny_bind (wpAny_of_eq (a := Value.none) (by simp only [firstArgMember]; rfl) (wpAny_newObj_type ?_ (by size_fits)))
  exact wpAny_raiseNew_none hh (hE _ _ (fun c o e => Heap.get?_push_of_some _ (Heap.get?_push_of_some _ e)) ⟨_, Heap.get?_push_size _ rfl, rfl⟩)
theorem tup_next {it t : Addr} {i : Nat} {items : Array Value} {Q : Value → Shared → Prop} (hh : items[i]? = none → A.handled = none) (hit : s.heap.IsTupleIter it t i) (ht : s.heap.IsTuple t items)
    (hQ : ∀ x h', items[i]? = some x → h'.IsTupleIter it t (i + 1) → Heap.ExtBut it s.heap h' → h'.objs.size = s.heap.objs.size → Q x { s with heap := h' })
    (hE : ∀ h' e, items[i]? = none → Heap.ExtBut it s.heap h' → StopAt h' e → E (.ref e) { s with heap := h' }) :
    wpAny (model prog w) A (Builtin.SmallTypes.nextOf (.ref it)) Q E s := by
  obtain ⟨o, ho, hc, hd⟩ := id hit
  obtain ⟨ol, hol, _, nl, hdl⟩ := ht
  refine wpAny_bind (wpAny_callSpecial?_slot (name := Str.ofString "__next__") hit.typeIs F.slot_tuple_iterator_next
    (wpAny_call_entry F.slot_tuple_iterator_next hit.typeIs F.entry_tuple_iterator_next ?_ (F.args_tuple_iterator_next_1 _)))
  refine wpAny_bind (wpAny_of_eq rfl (wpAny_bind (wpAny_field ho hd rfl ?_)))
  refine wpAny_bind (wpAny_field ho hd rfl (wpAny_bind (wpAny_seqItems hol hdl ?_)))
  simp only [Int.toNat_natCast]
  cases hx : items[i]? with
  | some x =>
    refine wpAny_bind (wpAny_setField ho hd (by exact Nat.le_refl _) (wpAny_pure ⟨x, rfl, wpAny_pure (hQ x _ hx ⟨_, Heap.get?_update_self _ ho (Obj.isFreed_of_fields (Obj.data_mapFields hd _)), (Obj.cls_mapFields ..).trans hc, ?_⟩ (Heap.SameBut.update ..).extBut (Heap.SameBut.update ..).1)⟩))
    rw [Obj.data_mapFields hd]
    rfl
  | none =>
    refine wpAny_bind (wpAny_rule (wpAny_bind (wpAny_setField ho hd (by exact Nat.le_succ _) ?_)))
    exact wpAny_stop (hh hx) fun h' e k q => hE h' e hx (fun c o hc q => k c o ((Heap.SameBut.update ..).extBut c o hc q)) q
theorem Heap.IsTupleIter.at' {h h' : Heap} {it t : Addr} {i : Nat} (x : h.IsTupleIter it t i) (k : ∀ o, h.get? it = some o → h'.get? it = some o) : h'.IsTupleIter it t i := let ⟨o, a, b⟩ := x; ⟨o, k o a, b⟩
theorem Heap.IsTuple.at' {h h' : Heap} {t : Addr} {xs : Array Value} (x : h.IsTuple t xs) (k : ∀ o, h.get? t = some o → h'.get? t = some o) : h'.IsTuple t xs := let ⟨o, a, b⟩ := x; ⟨o, k o a, b⟩
def Els (z T i j : Addr) (h h' : Heap) : Prop := ∀ c o, c ≠ z → c ≠ T → c ≠ i → c ≠ j → h.get? c = some o → h'.get? c = some o
theorem zip_turn {z TI TO i1 i2 l1 l2 : Addr} {k : Nat} {xs ys : Array Value} {a b : Value} {Q : Value → Shared → Prop} (hh : xs[k]? = none ∨ ys[k]? = none → A.handled = none) (D : ZipApart z TI TO i1 i2 l1 l2)
    (hz : IsZip s.heap z TI TO .none) (hTI : IsPair s.heap TI (.ref i1) (.ref i2)) (hTO : IsPair s.heap TO a b)
    (h1 : s.heap.IsTupleIter i1 l1 k) (h2 : s.heap.IsTupleIter i2 l2 k) (hl1 : s.heap.IsTuple l1 xs) (hl2 : s.heap.IsTuple l2 ys)
    (hQ : ∀ h' x y, xs[k]? = some x → ys[k]? = some y → IsZip h' z TI TO (rawInt s.heap.objs.size) → IsPair h' TO x y → h'.IsTupleIter i1 l1 (k + 1) → h'.IsTupleIter i2 l2 (k + 1) →
      IsPair h' s.heap.objs.size x y → Els z TO i1 i2 s.heap h' → Q (.ref s.heap.objs.size) { s with heap := h' })
    (hE : ∀ h' e, (xs[k]? = none ∨ ys[k]? = none) → Els z TO i1 i2 s.heap h' → StopAt h' e → E (.ref e) { s with heap := h' }) :
    wpAny (model prog w) A (Builtin.«zip.__next__» ⟨[.ref z], []⟩) (fun fin s' => ∃ v, fin = .done (.ret v) ∧ Q v s') E s := by
  refine wpAny_bind (wpAny_of_eq rfl (wpAny_bind (wpAny_field hz rfl rfl (wpAny_bind (wpAny_field hz rfl rfl (wpAny_bind (wpAny_seqItems hTI rfl ?_)))))))
  refine wpAny_bind (wpAny_bind (wpAny_field hz rfl rfl (wpAny_pure (wpAny_bind (wpAny_rule (wpAny_bind (wpAny_field hz rfl rfl ?_)))))))
  refine wpAny_bind (wpAny_setField_rec hz (by exact Nat.succ_pos _) fun g1 z1 c1 => wpAny_bind ?_)
  replace z1 : IsZip g1 z TI TO .ellipsis := z1
  have off : ∀ (g : Heap) (e : Addr), IsZip g z TI TO .ellipsis → Els z TO i1 i2 s.heap g → StopAt g e → (xs[k]? = none ∨ ys[k]? = none) → wpAny (model prog w) A (setField (.ref z) 0 Value.none) (fun _ s' => E (.ref e) s') E { s with heap := g } := by
    intro g e hg kg st d
    refine wpAny_setField_rec hg (by exact Nat.succ_pos _) fun g' _ cg => hE g' e d (fun c o a1 a2 a3 a4 q => cg.extBut c o a1 (kg c o a1 a2 a3 a4 q)) ?_
    obtain ⟨o, p, q⟩ := st
    exact ⟨o, cg.extBut _ _ (fun x => by subst x; rw [hg] at p; cases p; simp at q) p, q⟩
  have k1 : Els z TO i1 i2 s.heap g1 := fun c o a1 _ _ _ q => c1.extBut c o a1 q
  simp only [List.zipIdx_cons, List.zipIdx_nil, List.forIn_cons, List.forIn_nil]
  refine wpAny_bind (wpAny_bind (wpAny_onRaise ?_))
  refine wpAny_bind (tup_next (fun e => hh (.inl e)) (h1.at' fun o => c1.extBut _ o D.i1z) (hl1.at' fun o => c1.extBut _ o D.l1z) (fun x g2 hx i1' c2 n2 => wpAny_pure ?_) fun g2 e hx c2 st => off g2 e (c2 _ _ D.i1z.symm z1) (fun c o a1 a2 a3 a4 q => c2 c o a3 (k1 c o a1 a2 a3 a4 q)) st (.inl hx))
  have k2 : Els z TO i1 i2 s.heap g2 := fun c o a1 a2 a3 a4 q => c2 c o a3 (k1 c o a1 a2 a3 a4 q)
  have t2 : IsPair g2 TO a b := c2 _ _ D.TOi1 (c1.extBut _ _ D.TOz hTO)
  refine wpAny_bind (wpAny_seqItems t2 rfl (wpAny_bind (wpAny_updateSeq_pair t2 fun g3 t3 c3 => wpAny_bind (wpAny_letGo (wpAny_pure ?_)))))
  replace t3 : IsPair g3 TO x b := t3
  have k3 : Els z TO i1 i2 s.heap g3 := fun c o a1 a2 a3 a4 q => c3.extBut c o a2 (k2 c o a1 a2 a3 a4 q)
  have z3 : IsZip g3 z TI TO .ellipsis := c3.extBut _ _ D.TOz.symm (c2 _ _ D.i1z.symm z1)
  have i2' : ∀ o, s.heap.get? i2 = some o → g3.get? i2 = some o := fun o q => c3.extBut _ o D.TOi2.symm (c2 _ o D.i12.symm (c1.extBut _ o D.i2z q))
  refine wpAny_bind (wpAny_bind (wpAny_onRaise ?_))
  refine wpAny_bind (tup_next (fun e => hh (.inr e)) (h2.at' i2') (hl2.at' fun o => k3 _ o D.l2z D.l2TO D.l2i1 D.l2i2) (fun y g4 hy i2'' c4 n4 => wpAny_pure ?_) fun g4 e hy c4 st => off g4 e (c4 _ _ D.i2z.symm z3) (fun c o a1 a2 a3 a4 q => c4 c o a4 (k3 c o a1 a2 a3 a4 q)) st (.inr hy))
  have t4 : IsPair g4 TO x b := c4 _ _ D.TOi2 t3
  refine wpAny_bind (wpAny_seqItems t4 rfl (wpAny_bind (wpAny_updateSeq_pair t4 fun g5 t5 c5 => wpAny_bind (wpAny_letGo (wpAny_pure (wpAny_pure ?_))))))
  replace t5 : IsPair g5 TO x y := t5
  refine wpAny_bind (wpAny_seqItems t5 rfl (wpAny_bind (wpAny_newTuple (wpAny_bind ?_))))
  have n5 : g5.objs.size = s.heap.objs.size := by rw [c5.1, n4, c3.1, n2, c1.1]
  have z5 : IsZip g5 z TI TO .ellipsis := c5.extBut _ _ D.TOz.symm (c4 _ _ D.i2z.symm z3)
  have k5 : Els z TO i1 i2 s.heap g5 := fun c o a1 a2 a3 a4 q => c5.extBut c o a2 (c4 c o a4 (k3 c o a1 a2 a3 a4 q))
  have new : z ≠ g5.objs.size := Nat.ne_of_lt (Heap.lt_size z5)
  have z6 : IsZip (g5.push { cls := .type "tuple", data := .seq #[x, y] }) z TI TO .ellipsis := Heap.get?_push_of_some _ z5
  refine wpAny_bind (wpAny_setField_rec z6 (by exact Nat.succ_pos _) fun g7 z7 c7 => ?_)
  replace z7 : IsZip g7 z TI TO (rawInt g5.objs.size) := z7
  refine wpAny_setField_rec z7 (by simp) fun g8 z8 c8 => wpAny_pure ⟨_, rfl, ?_⟩
  have up : ∀ c o, c ≠ z → (g5.push { cls := .type "tuple", data := .seq #[x, y] }).get? c = some o → g8.get? c = some o := fun c o a q => c8.extBut c o a (c7.extBut c o a q)
  have dn : ∀ c o, c ≠ z → g5.get? c = some o → g8.get? c = some o := fun c o a q => up c o a (Heap.get?_push_of_some _ q)
  have T8 : IsPair g8 g5.objs.size x y := up _ _ new.symm (Heap.get?_push_size _ rfl)
  rw [n5] at z8 T8
  change Q (.ref g5.objs.size) _
  rw [n5]
  exact hQ g8 x y hx hy z8 (dn _ _ D.TOz t5) (i1'.at' fun o q => dn _ o D.i1z (c5.extBut _ o D.TOi1.symm (c4 _ o D.i12 (c3.extBut _ o D.TOi1.symm q)))) (i2''.at' fun o q => dn _ o D.i2z (c5.extBut _ o D.TOi2.symm q)) T8 fun c o a1 a2 a3 a4 q => dn c o a1 (k5 c o a1 a2 a3 a4 q)
theorem zip_asked {z TI TO i1 i2 l1 l2 : Addr} {k : Nat} {xs ys : Array Value} {a b : Value} {Q : Option Value → Shared → Prop} (hh : xs[k]? = none ∨ ys[k]? = none → A.handled = none) (D : ZipApart z TI TO i1 i2 l1 l2)
    (hz : IsZip s.heap z TI TO .none) (hTI : IsPair s.heap TI (.ref i1) (.ref i2)) (hTO : IsPair s.heap TO a b)
    (h1 : s.heap.IsTupleIter i1 l1 k) (h2 : s.heap.IsTupleIter i2 l2 k) (hl1 : s.heap.IsTuple l1 xs) (hl2 : s.heap.IsTuple l2 ys)
    (hQ : ∀ h' x y, xs[k]? = some x → ys[k]? = some y → IsZip h' z TI TO (rawInt s.heap.objs.size) → IsPair h' TO x y → h'.IsTupleIter i1 l1 (k + 1) → h'.IsTupleIter i2 l2 (k + 1) →
      IsPair h' s.heap.objs.size x y → Els z TO i1 i2 s.heap h' → Q (some (.ref s.heap.objs.size)) { s with heap := h' })
    (hE : ∀ h', (xs[k]? = none ∨ ys[k]? = none) → Els z TO i1 i2 s.heap h' → Q none { s with heap := h' }) : wpAny (model prog w) A (pyNext (.ref z)) Q E s := by
  have hT : s.TypeIs (.ref z) "zip" := ⟨_, hz, rfl⟩
  refine wpAny_bind (wpAny_attempt (wpAny_callSpecial?_slot (name := Str.ofString "__next__") hT F.slot_zip_next (wpAny_call_entry F.slot_zip_next hT F.entry_zip_next
    (zip_turn hh D hz hTI hTO h1 h2 hl1 hl2 (fun h' x y a1 a2 a3 a4 a5 a6 a7 a8 => wpAny_pure (hQ h' x y a1 a2 a3 a4 a5 a6 a7 a8)) fun h' e d kk q => ?_) (F.args_zip_next_1 _))))
  exact wpAny_bind (wpAny_isInstance (b := true) q isSubtype_stop (wpAny_pure (hE _ d kk)))
theorem grown_all (os : List Obj) : ∀ h : Heap, Grown h (os.foldl Heap.push h) := by
  induction os with
  | nil => exact fun h c o q => q
  | cons o os ih => exact fun h c o' q => ih _ c o' (Heap.get?_push_of_some _ q)
theorem got_all (os : List Obj) : ∀ (h : Heap) (i : Nat) (o : Obj), os[i]? = some o → o.isFreed = false → (os.foldl Heap.push h).get? (h.objs.size + i) = some o := by
  induction os with
  | nil => exact fun h i o e => by cases e
  | cons o' os ih =>
    intro h i o e f
    cases i with
    | zero => cases e; exact grown_all os _ _ _ (Heap.get?_push_size _ f)
    | succ i =>
      have := ih (h.push o') i o e f
      rw [Heap.size_push, Nat.add_right_comm] at this
      exact this
theorem zip_made {l1 l2 : Addr} {xs ys : Array Value} {Q : Value → Shared → Prop} (hl1 : s.heap.IsTuple l1 xs) (hl2 : s.heap.IsTuple l2 ys)
    (h : ∀ h' n, n = s.heap.objs.size → IsZip h' (n + 4) (n + 2) (n + 3) .none → IsPair h' (n + 2) (.ref n) (.ref (n + 1)) → IsPair h' (n + 3) .none .none → h'.IsTupleIter n l1 0 → h'.IsTupleIter (n + 1) l2 0 → Grown s.heap h' → Q (.ref (n + 4)) { s with heap := h' }) :
    wpAny (model prog w) A (call (.type "zip") [.ref l1, .ref l2]) Q E s := by
  let os (n : Nat) : List Obj := [{ cls := .type "tuple_iterator", data := .fields #[.ref l1, .int 0 0] }, { cls := .type "tuple_iterator", data := .fields #[.ref l2, .int 0 0] }, { cls := .type "tuple", data := .seq #[.ref n, .ref (n + 1)] },
    { cls := .type "tuple", data := .seq #[.none, .none] }, { cls := .type "zip", data := .fields #[.none, .bool false, .bool false, .ref (n + 2), .ref (n + 3)] }]
  let hp (n : Nat) (h : Heap) : Heap := (os n).foldl Heap.push h
  have M : Meets (Builtin.«zip.__new__» ⟨[.type "zip", .ref l1, .ref l2], []⟩) (fun _ R s => s.heap.IsTuple l1 xs ∧ s.heap.IsTuple l2 ys ∧ R (.ok (.ret (.ref (s.heap.objs.size + 4)))) { s with heap := hp s.heap.objs.size s.heap }) :=
    .of_wp fun prog w A R s q => by
      obtain ⟨h0, g, d, tk, os⟩ := s
      obtain ⟨q1, q2, q3⟩ := q
      have e1 : Heap.IsTuple (Shared.heap ⟨h0, g, d, tk, os⟩) l1 xs := q1
      have e2 : Heap.IsTuple (Shared.heap ⟨h0.push { cls := .type "tuple_iterator", data := .fields #[.ref l1, .int 0 0] }, g, d, tk, os⟩) l2 ys := Heap.IsTuple.push q2 _
      have hs := sub_zip
      wp_walk using wpAny_pyIter_tuple e1, wpAny_pyIter_tuple e2
      simp only [Heap.size_push]
      exact ⟨_, rfl, q3⟩
  refine callType_new F.called_zip (by rfl) (F.typeCall_zip_2 _ _) (F.newCall_zip_2 _ _) (fun obj => F.args_object_init_3 obj _ _) F.entry_zip_new M ⟨hl1, hl2, ?_⟩
  have at' : ∀ i o, (os s.heap.objs.size)[i]? = some o → o.isFreed = false → (hp s.heap.objs.size s.heap).get? (s.heap.objs.size + i) = some o := got_all _ _
  exact ⟨⟨_, at' 4 _ rfl rfl, rfl⟩, h _ _ rfl (at' 4 _ rfl rfl) (at' 2 _ rfl rfl) (at' 3 _ rfl rfl) ⟨_, at' 0 _ rfl rfl, rfl, rfl⟩ ⟨_, at' 1 _ rfl rfl, rfl, rfl⟩ (grown_all _ _)⟩
end
section
variable {prog : Program} {w : World} {A : Around} {E : Value → Shared → Prop} {s : Shared}
theorem zcM {z TI TO i1 i2 l1 l2 : Addr} {k : Nat} {xs ys : Array Value} {x y a b : Value} {Q : Option Value → Shared → Prop} (D : ZipApart z TI TO i1 i2 l1 l2) (hz : IsZip s.heap z TI TO .none)
    (hp : IsPair s.heap TI (.ref i1) (.ref i2)) (ho : IsPair s.heap TO a b) (h1 : s.heap.IsTupleIter i1 l1 k) (h2 : s.heap.IsTupleIter i2 l2 k) (m1 : s.heap.IsTuple l1 xs) (m2 : s.heap.IsTuple l2 ys) (hx : xs[k]? = some x) (hy : ys[k]? = some y)
    (q : ∀ h', IsZip h' z TI TO (rawInt s.heap.objs.size) → IsPair h' TO x y → h'.IsTupleIter i1 l1 (k + 1) → h'.IsTupleIter i2 l2 (k + 1) → IsPair h' s.heap.objs.size x y → True → Els z TO i1 i2 s.heap h' → Q (some (.ref s.heap.objs.size)) { s with heap := h' }) : wpAny (model prog w) A (pyNext (.ref z)) Q E s :=
  zip_asked (fun e => by simp [hx, hy] at e) D hz hp ho h1 h2 m1 m2 (fun h' x' y' e1 e2 a1 a2 a3 a4 a5 a6 => by rw [hx] at e1; rw [hy] at e2; cases e1; cases e2; exact q h' a1 a2 a3 a4 a5 trivial a6) fun _ e _ => by simp [hx, hy] at e
theorem zcT {z TI TO i1 i2 l1 l2 : Addr} {k : Nat} {xs ys : Array Value} {a b : Value} {Q : Option Value → Shared → Prop} (hh : A.handled = none) (D : ZipApart z TI TO i1 i2 l1 l2) (hz : IsZip s.heap z TI TO .none)
    (hp : IsPair s.heap TI (.ref i1) (.ref i2)) (ho : IsPair s.heap TO a b) (h1 : s.heap.IsTupleIter i1 l1 k) (h2 : s.heap.IsTupleIter i2 l2 k) (m1 : s.heap.IsTuple l1 xs) (m2 : s.heap.IsTuple l2 ys) (d : xs[k]? = none ∨ ys[k]? = none)
    (q : ∀ h', Els z TO i1 i2 s.heap h' → Q none { s with heap := h' }) : wpAny (model prog w) A (pyNext (.ref z)) Q E s :=
  zip_asked (fun _ => hh) D hz hp ho h1 h2 m1 m2 (fun _ _ _ e1 e2 _ _ _ _ _ _ => by simp [e1, e2] at d) fun h' _ a => q h' a
theorem zic {l1 l2 : Addr} {xs ys : Array Value} {Q : Value → Shared → Prop} (m1 : s.heap.IsTuple l1 xs) (m2 : s.heap.IsTuple l2 ys)
    (q : ∀ h', IsZip h' (s.heap.objs.size + 4) (s.heap.objs.size + 2) (s.heap.objs.size + 3) .none → IsPair h' (s.heap.objs.size + 2) (.ref s.heap.objs.size) (.ref (s.heap.objs.size + 1)) → IsPair h' (s.heap.objs.size + 3) .none .none → h'.IsTupleIter s.heap.objs.size l1 0 → h'.IsTupleIter (s.heap.objs.size + 1) l2 0 → True → Grown s.heap h' → Q (.ref (s.heap.objs.size + 4)) { s with heap := h' }) : wpAny (model prog w) A (call (.type "zip") [.ref l1, .ref l2]) Q E s :=
  zip_made m1 m2 fun h' n e a1 a2 a3 a4 a5 a6 => by subst e; exact q h' a1 a2 a3 a4 a5 trivial a6
end
end PySem
namespace L2
open PySem PySem.Spec PyProof.Rows
noncomputable def zqn(K:PySem.W.Frag)(a b:Addr):It:=
 ⟨fun i H=>∃xs ys x y,SqT K H a xs∧SqT K H b ys∧xs[i]?=some x∧ys[i]?=some y,fun i H v H'=>∃t,v=.ref t∧H t=none∧∀xs ys,SqT K H a xs→SqT K H b ys→∃x y,xs[i]?=some x∧ys[i]?=some y∧H'=upd H t (.tup [x,y]),
  fun i H=>∃xs ys,SqT K H a xs∧SqT K H b ys∧(xs.length≤i∨ys.length≤i)⟩
section
variable {X:Cx} {elts:List Expr} {x1:Nat} {tpos:Pos}
theorem zk9{P:Program}{w:World}{K:PySem.W.Frag}(a b z TI TO i1 i2:Addr)(D:ZipApart z TI TO i1 i2 a b):Turn P w K (.Tuple elts x1 tpos) (zqn K a b) [z,TI,TO,i1,i2] z
  (fun i h=>IsZip h z TI TO .none∧IsPair h TI (.ref i1) (.ref i2)∧(∃a b,IsPair h TO a b)∧h.IsTupleIter i1 a i∧h.IsTupleIter i2 b i) where
 mem:=by simp
 obj:=fun i h st c hc=>by
  obtain⟨h1,h2,⟨u,v,h3⟩,⟨o1,g1,_,d1⟩,⟨o2,g2,_,d2⟩⟩:=st
  simp only[List.mem_cons,List.not_mem_nil,or_false] at hc
  rcases hc with rfl | rfl | rfl | rfl | rfl
  ·exact⟨_,h1,fun v z=>by have z':Data.fields _=Data.cell v:=z;cases z'⟩
  ·exact⟨_,h2,fun v z=>by have z':Data.seq _ _=Data.cell v:=z;cases z'⟩
  ·exact⟨_,h3,fun v z=>by have z':Data.seq _ _=Data.cell v:=z;cases z'⟩
  ·exact⟨_,g1,fun v z=>by rw[d1] at z;cases z⟩
  ·exact⟨_,g2,fun v z=>by rw[d2] at z;cases z⟩
 keep:=fun i h h' st k=>by
  obtain⟨h1,h2,⟨u,v,h3⟩,h4,h5⟩:=st
  exact⟨k z (by simp) _ h1,k TI (by simp) _ h2,⟨u,v,k TO (by simp) _ h3⟩,h4.at fun o q=>k i1 (by simp) o q,h5.at fun o q=>k i2 (by simp) o q⟩
 item:=by
  intro X hP hw hK hc i pins s σ H E I hf st hg
  subst hP hw hK
  obtain⟨xs,ys,x,y,hq,hq2,hx,hy⟩:=hg
  obtain⟨its,rv,p,hz⟩:=I.tuple hq
  obtain⟨its2,rv2,p2,hz2⟩:=I.tuple hq2
  obtain⟨u,hu,ru⟩:=rv.get hx
  obtain⟨v,hv,rw2⟩:=rv2.get hy
  obtain⟨h1,h2,⟨c,d,h3⟩,h4,h5⟩:=st
  refine zcM D h1 h2 h3 h4 h5 (show s.heap.IsTuple a its.toArray from p) (show s.heap.IsTuple b its2.toArray from p2) (x:=u) (y:=v) (by simpa using hu) (by simpa using hv) fun h' a1 a2 a3 a4 a5 a6 kk=>?_
  refine⟨_,rfl,wpAny_letOwnedTupleGo_zip a1 fun h'' b1 sb=>?_⟩
  have hTz:s.heap.objs.size≠z:=Nat.ne_of_gt (Heap.lt_size h1)
  have hfree:H s.heap.objs.size=none:=I.hok.fresh (Nat.le_refl _)
  have hT:h''.get? s.heap.objs.size=some { cls:=.type "tuple",data:=.seq #[u,v] }:=sb.extBut _ _ hTz a5
  have new:ObjOk X.prog X.w (upd H s.heap.objs.size (.tup [x,y])) h'' s.heap.objs.size (.tup [x,y]):=⟨zj9,[u,v],.cons ru (.cons rw2 .nil),⟨_,hT,rfl,_,rfl⟩⟩
  have lt:∀{c o},s.heap.get? c=some o→c≠s.heap.objs.size:=fun e=>Nat.ne_of_lt (Heap.lt_size e)
  refine⟨.ref s.heap.objs.size,upd H s.heap.objs.size (.tup [x,y]),I.turnedNew (fp:=[z,TI,TO,i1,i2]) (t':=s.toks) (fun c o hc q=>sb.extBut c o (fun e=>hc (by simp[e])) (kk c o (fun e=>hc (by simp[e])) (fun e=>hc (by simp[e])) (fun e=>hc (by simp[e])) (fun e=>hc (by simp[e])) q)) hf (Nat.le_refl _) new,rfl,
   ⟨_,rfl,hfree,fun zs ws h6 h7=>⟨x,y,by rw[I.tuple_inj h6 hq];exact hx,by rw[I.tuple_inj h7 hq2];exact hy,rfl⟩⟩,
   ⟨b1,sb.extBut _ _ D.TIz (kk _ _ D.TIz D.TITO D.TIi1 D.TIi2 h2),⟨_,_,sb.extBut _ _ D.TOz a2⟩,a3.extBut sb.extBut D.i1z,a4.extBut sb.extBut D.i2z⟩,zka (fun b hb=>(hf b hb).1) fun c hc=>?_⟩
  simp only[List.mem_cons,List.not_mem_nil,or_false] at hc
  rcases hc with rfl | rfl | rfl | rfl | rfl
  ·exact lt h1
  ·exact lt h2
  ·exact lt h3
  ·obtain⟨_,g,_⟩:=h4;exact lt g
  ·obtain⟨_,g,_⟩:=h5;exact lt g
 done:=by
  intro X hP hw hK hc i pins s σ H E I hf st hg
  subst hP hw hK
  obtain⟨xs,ys,hq,hq2,hx⟩:=hg
  obtain⟨its,rv,p,hz⟩:=I.tuple hq
  obtain⟨its2,rv2,p2,hz2⟩:=I.tuple hq2
  obtain⟨h1,h2,⟨c,d,h3⟩,h4,h5⟩:=st
  have l1:=rv.length
  have l2:=rv2.length
  have hend:its.toArray[i]?=none∨its2.toArray[i]?=none:=by
   rcases hx with hx | hx
   ·exact .inl (by simp;omega)
   ·exact .inr (by simp;omega)
  exact zcT (I.ok.hd hc) D h1 h2 h3 h4 h5 (show s.heap.IsTuple a its.toArray from p) (show s.heap.IsTuple b its2.toArray from p2) hend fun h' kk=>⟨rfl,I.turnedS (fp:=[z,TI,TO,i1,i2]) (t':=s.toks) (fun c o hc q=>kk c o (fun e=>hc (by simp[e])) (fun e=>hc (by simp[e])) (fun e=>hc (by simp[e])) (fun e=>hc (by simp[e])) q) hf⟩
 self:=fun _ _ _ _ _ st h=>wpAny_pyIter_zip st.1 h
noncomputable def zqo(K:PySem.W.Frag)(ta:TA):TI:=fun σ H R=>ta σ H fun vs H1=>∃a b,vs=[.ref a,.ref b]∧(((∃xs,SqL K H1 a xs)∧(∃ys,SqL K H1 b ys)∧R (Itz K a b) H1)∨((∃xs,SqT K H1 a xs)∧(∃ys,SqT K H1 b ys)∧R (zqn K a b) H1))
theorem znV{a b:Expr}{ta:TA}{p pos:Pos}(hg:Gl X "zip")(hm:X.mg "zip"=none)(ha:PA X [a,b] ta)(hs:starEach [a,b] X.env=[(false,eval a X.env),(false,eval b X.env)]:=by rfl)(hs2:starEach [b] X.env=[(false,eval b X.env)]:=by rfl) :
  PI X (.Tuple elts x1 tpos) (.Call (.Name "zip" p) [a,b] [] pos) (zqo X.K ta):=by
 intro pins s σ H R I h
 refine Call_ (zc6 I hg hm boot_zip (PyProof.Rows.callWith_type1 (thn (ha pos pins s σ H _ I h) fun us s1 ⟨vs,H1,I1,r1,q1⟩=>?_) (by rw[hs,hs2]) (by rw[hs2];rfl)))
 obtain⟨l,l',e,q1⟩:=q1
 subst e
 obtain⟨u,v,rfl,ru,rv⟩:=zgc r1
 cases ru
 cases rv
 rcases q1 with⟨⟨xs,hl⟩,⟨ys,hl'⟩,q⟩ | ⟨⟨xs,hl⟩,⟨ys,hl'⟩,q⟩
 ·obtain⟨its,_,p1,_⟩:=I1.list hl
  obtain⟨its',_,p2,_⟩:=I1.list hl'
  refine call_zip_2 p1.isList p2.isList fun h' e1 e2 e3 e4 e5 e6 kk=>?_
  refine wpAny_pyIter_zip e1 ?_
  refine⟨s1.heap.objs.size+4,[s1.heap.objs.size+4,s1.heap.objs.size+2,s1.heap.objs.size+3,s1.heap.objs.size,s1.heap.objs.size+1],_,_,H1,rfl,I1.kept (t':=s1.toks) kk,zis l l' _ _ _ _ _ (zeR _),
   ⟨e1,e2,⟨_,_,e3⟩,e4,e5⟩,fun b hb=>?_,q⟩
  have hb':s1.heap.objs.size≤b:=by
   simp only[List.mem_cons,List.not_mem_nil,or_false] at hb
   rcases hb with rfl | rfl | rfl | rfl | rfl<;>first | exact Nat.le_add_right _ _ | exact Nat.le_refl _
  exact I1.fpOk hb' (I1.hok.fresh hb')
 ·obtain⟨its,_,p1,_⟩:=I1.tuple hl
  obtain⟨its',_,p2,_⟩:=I1.tuple hl'
  have g1:l<s1.heap.objs.size:=by obtain⟨_,e,_⟩:=p1;exact Heap.lt_size e
  have g2:l'<s1.heap.objs.size:=by obtain⟨_,e,_⟩:=p2;exact Heap.lt_size e
  refine zic (show s1.heap.IsTuple l its.toArray from p1) (show s1.heap.IsTuple l' its'.toArray from p2) fun h' e1 e2 e3 e4 e5 e6 kk=>?_
  refine wpAny_pyIter_zip e1 ?_
  obtain⟨d1,d2,d3,d4,d5,d6,d7,d8,d9,d10⟩:=zeR s1.heap.objs.size
  have far:∀{m:Addr} (k:Nat),m<s1.heap.objs.size→m≠s1.heap.objs.size+k:=fun{m} k h=>Nat.ne_of_lt (Nat.lt_of_lt_of_le h (Nat.le_add_right _ _))
  refine⟨s1.heap.objs.size+4,[s1.heap.objs.size+4,s1.heap.objs.size+2,s1.heap.objs.size+3,s1.heap.objs.size,s1.heap.objs.size+1],_,_,H1,rfl,I1.kept (t':=s1.toks) kk,
   zk9 l l' _ _ _ _ _ ⟨d1,d2,d3,d4,d5,d6,d7,d8,d9,d10,far 4 g1,far 3 g1,far 0 g1,far 1 g1,far 4 g2,far 3 g2,far 0 g2,far 1 g2⟩,
   ⟨e1,e2,⟨_,_,e3⟩,e4,e5⟩,fun b hb=>?_,q⟩
  have hb':s1.heap.objs.size≤b:=by
   simp only[List.mem_cons,List.not_mem_nil,or_false] at hb
   rcases hb with rfl | rfl | rfl | rfl | rfl<;>first | exact Nat.le_add_right _ _ | exact Nat.le_refl _
  exact I1.fpOk hb' (I1.hok.fresh hb')
end
theorem zla{K:PySem.W.Frag}{G:Hp}{a b:Addr}{xs ys:List V}{ds es:List D}(h:SqT K G a xs)(r:Reps K G xs ds)(h':SqT K G b ys)(r':Reps K G ys es):zlX K (zqn K a b) G (zjg ds es):=by
 refine⟨fun i d G' H' hd s1 s2=>?_,fun G' H' s1 s2=>⟨xs,ys,s2.seqT (s1.seqT h),s2.seqT (s1.seqT h'),?_⟩⟩
 ·unfold zjg at hd
  rw[List.getElem?_zipWith] at hd
  cases e:ds[i]? with
  | none=>rw[e] at hd;cases hd
  | some d'=>
   cases e2:es[i]? with
   | none=>rw[e,e2] at hd;cases hd
   | some d2=>
    rw[e,e2] at hd
    cases hd
    obtain⟨v,hv,rv⟩:=r.get e
    obtain⟨v',hv',rv'⟩:=r'.get e2
    have hs:SqT K H' a xs:=s2.seqT (s1.seqT h)
    have hs':SqT K H' b ys:=s2.seqT (s1.seqT h')
    refine⟨⟨xs,ys,v,v',hs,hs',hv,hv'⟩,fun u H2 hy=>?_⟩
    obtain⟨t,rfl,ht,y⟩:=hy
    obtain⟨x,x',hx,hx',rfl⟩:=y xs ys hs hs'
    rw[hv] at hx
    rw[hv'] at hx'
    cases hx
    cases hx'
    have x2:Ext G' H' (upd G' t (.tup [v,v'])) (upd H' t (.tup [v,v'])):=.new s2 ht
    exact⟨_,x2,zgm (SqT.of zau) ((rv.mono s1).mono x2.g) ((rv'.mono s1).mono x2.g)⟩
 ·rw[r.length,r'.length]
  unfold zjg
  rw[List.length_zipWith]
  omega
section
variable {X:Cx} {pos:Pos}
noncomputable def zlb(ts:TDa):TId:=fun ρ Q=>ts ρ fun ds=>match ds with
 | [.lst es,.lst fs]=>Q (zjg es fs)
 | [.tup es,.tup fs]=>Q (zjg es fs)
 | _=>False
theorem zms{a b:Expr}{ts:TDa}{p tp:Pos}{elts:List Expr}{x1:Nat}(hm:X.mg "zip"=none)(ha:PDa X [a,b] ts)(hg:Gl X "zip":=by rfl)(hs:starEach [a,b] X.env=[(false,eval a X.env),(false,eval b X.env)]:=by rfl)(hs2:starEach [b] X.env=[(false,eval b X.env)]:=by rfl) :
  PId X (.Tuple elts x1 tp) (.Call (.Name "zip" p) [a,b] [] pos) (zlb ts):=by
 obtain⟨t,pp,q⟩:=ha
 refine⟨_,znV hg hm pp hs hs2,fun ρ σ G0 H0 G H Q P E h k=>q ρ σ G0 H0 G H _ _ E h fun vs H' ds G' x rs hq=>?_⟩
 split at hq
 ·obtain⟨v,w',rfl,rv,rw'⟩:=zjh rs
  simp only[Rep] at rv rw'
  obtain⟨a,xs,rfl,h1,h2⟩:=rv
  obtain⟨b,ys,rfl,h3,h4⟩:=rw'
  exact⟨a,b,rfl,.inl ⟨⟨xs,(x.s.rdl h1).sq⟩,⟨ys,(x.s.rdl h3).sq⟩,k _ H' _ G' x (ziw h1 h2 h3 h4) hq⟩⟩
 ·obtain⟨v,w',rfl,rv,rw'⟩:=zjh rs
  simp only[Rep] at rv rw'
  obtain⟨a,xs,rfl,h1,h2⟩:=rv
  obtain⟨b,ys,rfl,h3,h4⟩:=rw'
  exact⟨a,b,rfl,.inr ⟨⟨xs,x.s.seqT h1⟩,⟨ys,x.s.seqT h3⟩,k _ H' _ G' x (zla h1 h2 h3 h4) hq⟩⟩
 ·exact hq.elim
end
end L2
namespace L2
open PySem PySem.Spec PyProof.Rows
end L2
namespace PySem
open Sem (wp)
end PySem
namespace L2
open PySem PySem.Spec PyProof.Rows
end L2
namespace L2
open PySem
end L2
namespace L2
namespace SI
open PySem PySem.Spec PyProof.Rows
end SI
end L2
namespace L2
open PySem PySem.Spec PyProof.Rows
namespace SI
end SI
end L2
namespace L2
open PySem PySem.Spec PyProof.Rows
section
variable {P:Program} {w:World} {K:PySem.W.Frag} {mg:Str→Option Value} {base:Heap}
structure AtD (K:PySem.W.Frag) (mg:Str→Option Value) (x:Str) (st:Stmt) (ds:List Value):Prop where
 ex:∃(T f:Addr) (fd:FuncData) (o:Obj) (n:Nat),FunV (.ref T) K x x st f fd∧mg x=some (.ref f)∧K.lookup T=some o∧o.data=.seq ds.toArray n
theorem at_mkD{h:Heap}{x:Str}{st:Stmt}{f T:Addr}{oc tc:Value}{od an td:Option Addr}{osl tsl:Array (Option Value)}{kV doc pm cdv ct:Value}{ds:List Value}{n:Nat}(X:K.In h)(G:h.Ns mainGlobals mg)(a:PySem.W.nsIn K mainGlobals x=some (some (.ref f)))
  (l:K.lookup f=some ⟨oc,od,.func (PySem.W.fnOf x x (defArgs st) (defBody st) (defScope st) (.ref T) kV doc pm an cdv ct),osl⟩) (c:PySem.W.codeIn K cdv x=true) (k:PySem.W.keepIn K (.ref f)=true) (t:K.lookup T=some ⟨tc,td,.seq ds.toArray n,tsl⟩):AtD K mg x st ds:=
 ⟨T,f,_,_,n,zj7 l c k,PySem.W.mg_of X G a,t,rfl⟩
theorem FunV.bindsD{x qual:Str}{st:Stmt}{f T:Addr}{fd:FuncData}{ps:List Str}{o:Obj}{ds es:List Value}{n:Nat}(F:FunV (.ref T) K x qual st f fd)(m:Nat)(lk:K.lookup T=some o)(hd:o.data=.seq ds.toArray n)
  (h:∀(kV doc pm:Value) (an:Option Addr) (cdv ct:Value) (us:List Value),us.length=m→∃k:Option (Array Value)→Sem (List (Str×Value)),bindArgs (PySem.W.fnOf x qual (defArgs st) (defBody st) (defScope st) (.ref T) kV doc pm an cdv ct) ⟨us,[]⟩=seqItems? (.ref T) >>= k∧k (some ds.toArray)=pure (ps.zip (us++es))) (hm:ps.length=m+es.length:=by rfl):Binds K fd ps es:=by
 obtain⟨oc,od,kV,doc,pm,an,cdv,ct,osl,rfl,lf,hcd⟩:=F.ex
 intro s us kin hl
 obtain⟨k,h1,h2⟩:=h kV doc pm an cdv ct us (by rw[List.length_append,hm] at hl;omega)
 exact BindsTo.of_defaults rfl (kin _ _ lk) hd h1 h2
structure KnownD (P:Program) (w:World) (K:PySem.W.Frag) (mg:Str→Option Value) (base:Heap) (k:Nat) (x:Str) (n:Nat) (t:SpD) (b:Bool):Prop where
 ex:∃(f:Addr) (fd:FuncData) (ps:List Str),FnOk P w K mg base CX0 k f fd ps (PSp K n t)∧mg x=some (.ref f)∧PySem.W.keepIn K (.ref f)=true∧Binds K fd ps []∧Binds K fd ps [.bool b]
theorem KnownD.all{k:Nat}{x:Str}{n:Nat}{t:SpD}{b:Bool}(C:KnownD P w K mg base k x n t b):Known P w K mg base k x n t:=by
 obtain⟨f,fd,ps,h1,h2,h3,h4,_⟩:=C.ex
 exact⟨f,fd,ps,h1,h2,h3,h4⟩
end
end L2
namespace L2
open PySem PySem.Spec PyProof.Rows
section
variable {P:Program} {w:World} {K:PySem.W.Frag} {mg:Str→Option Value} {base:Heap}
theorem zaz{x:Str}{st:Stmt}{N ps:List Str}{t:SpD}{T:TX}{n d:Nat}(k:Nat)(A:At K mg x st)(S:FnScope N ps (defScope st))
  (body:∀(f:Addr) (cdv:Value) (A:Around) (outer:List Env) (s:Shared) (H:Hp) (E:XK),Room k (A.deeper (envOfC x (defScope st) s.heap.objs.size f cdv))→PXs (zi8 CX0 P w K mg base N x (defScope st) f cdv A outer s H E).nox (defBody st) T)
  (spec:∀(ds:List D) (Qr:R→Prop),ds.length=n→t ds Qr→T { nx:=fun _=>Qr (.fz .non),rt:=Qr } (zaH N ds))
  (b:∀(kV doc pm:Value) (an:Option Addr) (cdv ct:Value) (us:List Value),us.length=n→bindArgs (PySem.W.fnOf x x (defArgs st) (defBody st) (defScope st) .none kV doc pm an cdv ct) ⟨us,[]⟩=pure (ps.zip us)) (hn:ps.length=n:=by rfl) (hd:k+1=d:=by rfl):Known P w K mg base d x n t:=by
 subst hn hd
 obtain⟨f,fd,F,hm⟩:=A.ex
 exact⟨f,fd,ps,zck F S (body f) spec,hm,F.kp,F.binds b⟩
end
end L2
namespace L2
open PySem PySem.Spec PyProof.Rows
end L2
namespace L2
open PySem PySem.Spec PyProof.Rows
end L2
namespace Ts
open PySem PySem.W PyProof.Rows
end Ts
namespace L2
open PySem PySem.Spec PyProof.Rows
end L2
namespace L2
open PySem PySem.Spec PyProof.Rows
end L2
namespace L2
open PySem PySem.Spec PyProof.Rows
theorem zmt{α:Type}{l:List α}{n:Nat}(h:l.length=n+1):∃a r,l=a::r∧r.length=n:=by
 cases l with
 | nil=>cases h
 | cons a r=>exact⟨a,r,rfl,Nat.succ.inj h⟩
theorem zq4{α:Type}{l:List α}(h:l.length=0):l=[]:=List.eq_nil_of_length_eq_zero h
theorem zpb{α:Type}{l:List α}(h:l.length=1):∃a0,l=[a0]:=by
 obtain⟨a,r,e,h⟩:=zmt h
 exact⟨a,by rw[e,zq4 h]⟩
theorem ze4{α:Type}{l:List α}(h:l.length=2):∃a0 a1,l=[a0,a1]:=by
 obtain⟨a,r,e,h⟩:=zmt h
 obtain⟨b0,e2⟩:=zpb h
 exact⟨a,b0,by rw[e,e2]⟩
theorem zog{α:Type}{l:List α}(h:l.length=3):∃a0 a1 a2,l=[a0,a1,a2]:=by
 obtain⟨a,r,e,h⟩:=zmt h
 obtain⟨b0,b1,e2⟩:=ze4 h
 exact⟨a,b0,b1,by rw[e,e2]⟩
theorem zqp{α:Type}{l:List α}(h:l.length=4):∃a0 a1 a2 a3,l=[a0,a1,a2,a3]:=by
 obtain⟨a,r,e,h⟩:=zmt h
 obtain⟨b0,b1,b2,e2⟩:=zog h
 exact⟨a,b0,b1,b2,by rw[e,e2]⟩
theorem zqq{α:Type}{l:List α}(h:l.length=5):∃a0 a1 a2 a3 a4,l=[a0,a1,a2,a3,a4]:=by
 obtain⟨a,r,e,h⟩:=zmt h
 obtain⟨b0,b1,b2,b3,e2⟩:=zqp h
 exact⟨a,b0,b1,b2,b3,by rw[e,e2]⟩
theorem zq5{α:Type}{l:List α}(h:l.length=6):∃a0 a1 a2 a3 a4 a5,l=[a0,a1,a2,a3,a4,a5]:=by
 obtain⟨a,r,e,h⟩:=zmt h
 obtain⟨b0,b1,b2,b3,b4,e2⟩:=zqq h
 exact⟨a,b0,b1,b2,b3,b4,by rw[e,e2]⟩
theorem zq6{α:Type}{l:List α}(h:l.length=7):∃a0 a1 a2 a3 a4 a5 a6,l=[a0,a1,a2,a3,a4,a5,a6]:=by
 obtain⟨a,r,e,h⟩:=zmt h
 obtain⟨b0,b1,b2,b3,b4,b5,e2⟩:=zq5 h
 exact⟨a,b0,b1,b2,b3,b4,b5,by rw[e,e2]⟩
theorem zqG{α:Type}{l:List α}(h:l.length=8):∃a0 a1 a2 a3 a4 a5 a6 a7,l=[a0,a1,a2,a3,a4,a5,a6,a7]:=by
 obtain⟨a,r,e,h⟩:=zmt h
 obtain⟨b0,b1,b2,b3,b4,b5,b6,e2⟩:=zq6 h
 exact⟨a,b0,b1,b2,b3,b4,b5,b6,by rw[e,e2]⟩
theorem zra{α:Type}{l:List α}(h:l.length=9):∃a0 a1 a2 a3 a4 a5 a6 a7 a8,l=[a0,a1,a2,a3,a4,a5,a6,a7,a8]:=by
 obtain⟨a,r,e,h⟩:=zmt h
 obtain⟨b0,b1,b2,b3,b4,b5,b6,b7,e2⟩:=zqG h
 exact⟨a,b0,b1,b2,b3,b4,b5,b6,b7,by rw[e,e2]⟩
end L2
namespace L2
open PySem PySem.Spec PyProof.Rows PySem.Builtin PySem.Builtin.Str
end L2
namespace L2
open PySem PySem.Spec PyProof.Rows
end L2
section
namespace Wc
open PySem L2
noncomputable def mkS(l:List Nat):Str:=⟨l.toArray⟩
theorem ze5(l:List Nat):(mkS l).cps.toList=l:=by simp[mkS]
theorem za8(l:List Nat):(mkS l).length=l.length:=by simp[mkS,Str.length]
theorem zdh(a b:List Nat):mkS a++mkS b=mkS (a++b):=by
 show(⟨(mkS a).cps++(mkS b).cps⟩:Str)=_
 simp[mkS]
theorem mkS_inj{a b:List Nat}:mkS a=mkS b↔a=b:=by
 constructor
 ·intro h
  have:(mkS a).cps.toList=(mkS b).cps.toList:=by rw[h]
  simpa[mkS] using this
 ·rintro rfl;rfl
theorem zm0(w:Str):mkS w.cps.toList=w:=by cases w;simp[mkS]
theorem mk1(c:Nat):(⟨#[c]⟩:Str)=mkS [c]:=rfl
theorem zgA{α β:Type}(f:α→β)(l:List α)(i:Int):atI (l.map f) i=(atI l i).map f:=by
 unfold atI
 rw[List.length_map]
 cases ixN l.length i with
 | none=>rfl
 | some j=>simp
theorem zpc{α β:Type}{f:α→β}{o:Option α}{p:β→Prop}:(∃d,o.map f=some d∧p d)↔∃x,o=some x∧p (f x):=by
 cases o with
 | none=>simp
 | some x=>simp
theorem zlc{α β:Type}{f:α→β}{l:List α}{i:Int}{p:β→Prop}:(∃d,atI (l.map f) i=some d∧p d)↔∃x,atI l i=some x∧p (f x):=by rw[zgA];exact zpc
theorem zdN{α:Type}{l:List α}{i:Int}(h0:0≤i)(h1:i<l.length):∃h:i.toNat<l.length,atI l i=some (l[i.toNat]'h):=by
 refine⟨by omega,?_⟩
 unfold atI ixN
 rw[if_pos h0,if_pos h1]
 simp only[Option.bind_some]
 exact List.getElem?_eq_getElem _
theorem zid{α:Type}{l:List α}{i:Int}(h0:0≤i)(h1:i<l.length):∃z,atI l i=some z∧z∈l:=by
 obtain⟨h,e⟩:=zdN h0 h1
 exact⟨_,e,List.getElem_mem h⟩
theorem ziP{α:Type}{l:List α}{n:Nat}(i:Int)(hl:n≤l.length)(h:0<n):∃z,atI l (i%(n:Int))=some z∧z∈l:=
 zid (Int.emod_nonneg _ (by omega)) (by have:=Int.emod_lt_of_pos i (show(0:Int)<n by omega);omega)
theorem at8{α:Type}{l:List α}(i:Int)(hl:l.length=8):∃z,atI l (i%8)=some z∧z∈l:=ziP (n:=8) i (by omega) (by omega)
theorem at5{α:Type}{l:List α}(i:Int)(hl:l.length=8):∃z,atI l (i%5)=some z∧z∈l:=ziP (n:=5) i (by omega) (by omega)
theorem at3{α:Type}{l:List α}(i:Int)(hl:l.length=8):∃z,atI l (i%3)=some z∧z∈l:=ziP (n:=3) i (by omega) (by omega)
theorem za3{α:Type}{l:List α}{j:Nat}(h:j<l.length):atI l (j:Int)=some l[j]:=by
 obtain⟨h',e⟩:=zdN (l:=l) (i:=(j:Int)) (by omega) (by omega)
 simpa using e
theorem zgB{n d:Nat}{j:Int}(h:0≤j):HT.sIx n d (some j)=min j.toNat n:=by show(if j<0 then _ else _)=_;rw[if_neg (by omega)]
theorem zie{α:Type}(l:List α){j:Int}(h:0≤j):zeG l none (some j)=l.take j.toNat:=by
 unfold zeG
 rw[zgB h]
 show((l.drop 0).take (min j.toNat l.length-0))=_
 rw[List.drop_zero,Nat.sub_zero,Nat.min_comm]
 by_cases hl:l.length≤j.toNat
 ·rw[Nat.min_eq_left hl,List.take_of_length_le hl,List.take_of_length_le (Nat.le_refl _)]
 ·rw[Nat.min_eq_right (by omega)]
theorem ze6{α:Type}(l:List α){j:Int}(h:0≤j):zeG l (some j) none=l.drop j.toNat:=by
 unfold zeG
 rw[zgB h]
 show((l.drop (min j.toNat l.length)).take (l.length-_))=_
 by_cases hl:l.length≤j.toNat
 ·rw[Nat.min_eq_right hl,List.drop_of_length_le hl,List.drop_of_length_le (Nat.le_refl _)];simp
 ·rw[Nat.min_eq_left (by omega),List.take_of_length_le (by simp)]
theorem zmu{α:Type}(l:List α){i j:Int}(hi:0≤i)(h:0≤j):zeG l (some i) (some j)=(l.drop i.toNat).take (j.toNat-i.toNat):=by
 unfold zeG
 rw[zgB h,zgB hi]
 by_cases hl:l.length≤i.toNat
 ·rw[Nat.min_eq_right hl,List.drop_of_length_le hl,List.drop_of_length_le (Nat.le_refl _)];simp
 ·rw[Nat.min_eq_left (a:=i.toNat) (by omega)]
  by_cases hj:l.length≤j.toNat
  ·rw[Nat.min_eq_right hj,List.take_of_length_le (by simp),List.take_of_length_le (by simp;omega)]
  ·rw[Nat.min_eq_left (by omega)]
theorem ze7(l:List Nat){j:Int}(h:0≤j):zkp (mkS l) none (some j)=mkS (l.take j.toNat):=by unfold zkp;rw[ze5,zie _ h];rfl
theorem zld(l:List Nat){j:Int}(h:0≤j):zkp (mkS l) (some j) none=mkS (l.drop j.toNat):=by unfold zkp;rw[ze5,ze6 _ h];rfl
theorem zmv(l:List Nat){i j:Int}(hi:0≤i)(h:0≤j):zkp (mkS l) (some i) (some j)=mkS ((l.drop i.toNat).take (j.toNat-i.toNat)):=by unfold zkp;rw[ze5,zmu _ hi h];rfl
theorem ziQ{α β:Type}(f:α→β)(l:List α)(lo hi:Option Int):zeG (l.map f) lo hi=(zeG l lo hi).map f:=by unfold zeG;rw[List.length_map,List.map_take,List.map_drop]
theorem zd1(n:Nat)(i:Int):okE n (.int i)=True:=by cases n<;>exact eq_true trivial
theorem zb6(n:Nat)(i:Str):okE n (.str i)=True:=by cases n<;>exact eq_true trivial
theorem zm1(n:Nat)(i:Bool):okE n (.bl i)=True:=by cases n<;>exact eq_true trivial
theorem zif(n:Nat):okE n .non=True:=by cases n<;>exact eq_true trivial
theorem zd2{α:Type}[BEq α][LawfulBEq α][DecidableEq α](a b:α):(a==b)=decide (a=b):=by rw[Bool.eq_iff_iff];simp
theorem zgC(a b:Str):eqD (.str a) (.str b)=decide (a=b):=by simp only[eqD,zd2]
theorem zig(a b:Int):eqD (.int a) (.int b)=decide (a=b):=by simp only[eqD,zd2]
theorem zaL:sizeLine=16777216:=by decide
@[irreducible] noncomputable def zlx(u:TX)(D:DE):Ev→Prop:=u D
theorem zm2(t u:TX)(D:DE)(ρ:Ev):zaF t u D ρ=t { nx:=zlx u D,rt:=D.rt,bk:=D.bk,ct:=D.ct } ρ:=by unfold zlx;rfl
end Wc
open PySem L2 Wc
local macro_rules | `(tactic| walk_at "ba")=>`(tactic| simp only[zaF,xIf,zoY,zhb,bOr,za4,zhd,dC,zen,ziA,zl4,zo4,dCB,zad,zap,zag,List.map_cons,List.map_nil,List.cons_append,List.nil_append,List.set,gt,zhR,oI0,oI,dOp,zb9,zcI,zcL,zhe,zaB,zc7,zdQ,zeW,zlw,zao,zc4,zaC,zdu,zo6,zgi,oEq,oNe,oIx,dSl,oNo,zcs,zaP,zje,zpO,zl3,dIf,zn9,zod,dM,zhk,zeU,zdT,zoa,zoc,frz,zeZ,zel,zgj,zfB,zev,ziv,zdc,zfA,zmV,zo5,zdB,zmT,zmU,p24,p30,zet,CMul,Int.reduceLT,Int.reduceLE,Int.reduceAdd,Int.reduceSub,Int.reduceMul,Int.reduceNeg,Int.reducePow,Int.reduceToNat,decide_true,decide_false,true_and,and_true,and_self,or_true,true_or,zd1,zb6,zm1,zif,zlc,Bool.false_eq_true,if_false,if_true,Bool.not_true,Bool.not_false,List.length_cons,List.length_nil,Nat.reduceAdd,decide_eq_true_eq,zig,zgC,ziQ,zbK,zct,zma])
local macro_rules | `(tactic| walk_at "b")=>`(tactic| simp only[zm2,xIf,zoY,zhb,bOr,za4,zhd,dC,zen,ziA,zl4,zo4,dCB,zad,zap,zag,List.map_cons,List.map_nil,List.cons_append,List.nil_append,List.set,gt,zhR,oI0,oI,dOp,zb9,zcI,zcL,zhe,zaB,zc7,zdQ,zeW,zlw,zao,zc4,zaC,zdu,zo6,zgi,oEq,oNe,oIx,dSl,oNo,zcs,zaP,zje,zpO,zl3,dIf,zn9,zod,dM,zhk,zeU,zdT,zoa,zoc,frz,zeZ,zel,zgj,zfB,zev,ziv,zdc,zfA,zmV,zo5,zdB,zmT,zmU,p24,p30,zet,CMul,Int.reduceLT,Int.reduceLE,Int.reduceAdd,Int.reduceSub,Int.reduceMul,Int.reduceNeg,Int.reducePow,Int.reduceToNat,decide_true,decide_false,true_and,and_true,and_self,or_true,true_or,zd1,zb6,zm1,zif,zlc,Bool.false_eq_true,if_false,if_true,Bool.not_true,Bool.not_false,List.length_cons,List.length_nil,Nat.reduceAdd,decide_eq_true_eq,zig,zgC,ziQ,zbK,zct,zma])
local macro_rules | `(tactic| walk_at "all")=>`(tactic| walk_at "ba")
local macro_rules | `(tactic| walk_at "px")=>`(tactic| walk_at "b")
local macro_rules | `(tactic| walk_at "go")=>`(tactic| (simp only[zlx];walk_at "px"))
namespace Wc
open PySem L2
noncomputable def znW(c k:Int):Int:=(c%1000000000000000000000000000000*(k*k+48271)+7919*k*k*k+11)%2147483647/7
theorem zpd(c k:Int):0≤znW c k:=Int.ediv_nonneg (Int.emod_nonneg _ (by decide)) (by decide)
noncomputable def zaE:SpD:=fun ds Q=>∃c k:Int,ds=[.int c,.int k]∧0≤k∧k≤1000000∧Q (.fz (.int (znW c k)))
noncomputable def zd3:TX:=(zcI (dOp (oI zet fun i j=>.int (i/j)) (dOp (oI (fun _ j=>0<j) fun i j=>.int (i%j)) (dOp zb9 (dOp zb9 (dOp (oI CMul fun i j=>.int (i*j)) (dOp (oI (fun _ j=>0<j) fun i j=>.int (i%j)) (zag 0) (dOp (oI zlu fun i j=>.int (i ^ j.toNat)) (dC (.int 10)) (dC (.int 30)))) (dOp zb9 (dOp (oI CMul fun i j=>.int (i*j)) (zag 1) (zag 1)) (dC (.int 48271)))) (dOp (oI CMul fun i j=>.int (i*j)) (dOp (oI CMul fun i j=>.int (i*j)) (dOp (oI CMul fun i j=>.int (i*j)) (dC (.int 7919)) (zag 1)) (zag 1)) (zag 1))) (dC (.int 11))) (dC (.int 2147483647))) (dC (.int 7))))
theorem zgD(ds:List D)(Qr:R→Prop)(hl:ds.length=2)(h:zaE ds Qr):zd3 { nx:=fun _=>Qr (.fz .non),rt:=Qr } (zaH ["_law_cell","_law_k"] ds):=by
 obtain⟨c,k,rfl,h0,h1,q⟩:=h
 show zd3 _ [.fz (.int c),.fz (.int k)]
 unfold zd3
 walk_at "all"
 have hk:k*k≤1000000*1000000:=Int.mul_le_mul h1 h1 h0 (by decide)
 have hk0:0≤k*k:=Int.mul_nonneg h0 h0
 refine⟨.inl ⟨by omega,by omega⟩,.inr ⟨by omega,by omega⟩,.inr ⟨by omega,by omega⟩,.inr ⟨by omega,by omega⟩,?_⟩
 exact q
end Wc
namespace Wc
open PySem L2 PyProof.Rows
noncomputable def dO:Option Str→D
 | none=>.non
 | some s=>.str s
noncomputable def dP(l:List (Option Str)):D:=.lst (l.map dO)
noncomputable def dS(l:List Str):D:=.lst (l.map .str)
noncomputable def dI(l:List Int):D:=.lst (l.map .int)
noncomputable def dWp(p:Str×Int):D:=.tup [.str p.1,.int p.2]
noncomputable def dBp(p:Int×Str):D:=.tup [.int p.1,.str p.2]
noncomputable def dKp(p:Int×Int×Int):D:=.tup [.int p.1,.int p.2.1,.int p.2.2]
noncomputable def dW(l:List (Str×Int)):D:=.lst (l.map dWp)
noncomputable def dB(l:List (Int×Str)):D:=.lst (l.map dBp)
noncomputable def dK(l:List (Int×Int×Int)):D:=.lst (l.map dKp)
structure Chan where
 top:List (Option Str)
 bottom:List (Option Str)
 left:List Str
 right:List Str
 wide:List (Str×Int)
 bends:List (Int×Str)
 keeps:List (Int×Int×Int)
noncomputable def Chan.parts(c:Chan):List D:=[dP c.top,dP c.bottom,dS c.left,dS c.right,dW c.wide,dB c.bends,dK c.keeps]
noncomputable def Chan.obj(c:Chan):D:=.obj "Channel" [("top",dP c.top),("bottom",dP c.bottom),("left",dS c.left),("right",dS c.right),("wide",dW c.wide),("bends",dB c.bends),("keeps",dK c.keeps)]
theorem zeq(n:Nat)(o:Option Str):okE n (dO o)=True:=by
 cases o with
 | none=>exact zif n
 | some s=>exact zb6 n s
theorem ziR(a b:Option Str):eqD (dO a) (dO b)=decide (a=b):=by
 cases a<;>cases b<;>simp only[dO,eqD,zd2,Option.some.injEq,reduceCtorEq,decide_true,decide_false]
theorem zbL(a:Option Str)(b:Str):eqD (dO a) (.str b)=decide (a=some b):=ziR a (some b)
theorem zf8(a:Str)(b:Option Str):eqD (.str a) (dO b)=decide (some a=b):=ziR (some a) b
theorem zle(w:Str)(l:List Str):inD (.str w) (l.map .str)=decide (w∈l):=by
 unfold inD
 rw[List.any_map]
 induction l with
 | nil=>rfl
 | cons a r ih=>
  rw[List.any_cons,ih,Function.comp_apply,zgC]
  by_cases h:a=w
  ·subst h;simp
  ·simp[h,Ne.symm h]
theorem zpe(w:Str)(l:List (Option Str)):inD (.str w) (l.map dO)=decide (some w∈l):=by
 unfold inD
 rw[List.any_map]
 induction l with
 | nil=>rfl
 | cons a r ih=>
  rw[List.any_cons,ih,Function.comp_apply,zbL]
  by_cases h:a=some w
  ·subst h;simp
  ·simp[h,Ne.symm h]
theorem zce(n:Nat)(l:List Str):∀e∈l.map D.str,okE n e:=by
 intro e he
 rw[List.mem_map] at he
 obtain⟨x,_,rfl⟩:=he
 rw[zb6];trivial
theorem zeJ(n:Nat)(l:List (Option Str)):∀e∈l.map dO,okE n e:=by
 intro e he
 rw[List.mem_map] at he
 obtain⟨x,_,rfl⟩:=he
 rw[zeq];trivial
noncomputable def Pool(ws:List Str)(l:List (Option Str)):Prop:=∀w,some w∈l→w∈ws
theorem zdF{α:Type}{wi:TId}{g:TGd}{tb:TX}{D:DE}{ρ:Ev}(L:List α)(φ:α→L2.D)(hw:∀Q':List L2.D→Prop,Q' (zdv (L.map φ))→wi ρ Q')(Iv:Nat→Ev→Prop)(h0:Iv 0 ρ)
  (turn:∀(i:Nat) x ρ',L[i]?=some x→Iv i ρ'→g (.tup [.int i,φ x]) ρ' fun ρ2=>tb { D with nx:=Iv (i+1),ct:=Iv (i+1),bk:=D.nx } ρ2) (fin:∀ρ',Iv L.length ρ'→D.nx ρ'):zeV wi g tb D ρ:=by
 refine ziB (zdv (L.map φ)) hw Iv h0 (fun i d ρ' hd iv=>?_) (fun ρ' iv=>fin ρ' (by simpa[zdv] using iv))
 unfold zdv at hd
 rw[List.getElem?_mapIdx,List.getElem?_map] at hd
 cases hx:L[i]? with
 | none=>rw[hx] at hd;cases hd
 | some x=>rw[hx] at hd;cases hd;exact turn i x ρ' hx iv
theorem zhx:∀{a b c:List Nat},Spec.ltCps a b=true→Spec.ltCps b c=true→Spec.ltCps a c=true
 | [],[],c,h,_=>by simp[Spec.ltCps] at h
 | [],b::bs,[],_,h=>by simp[Spec.ltCps] at h
 | [],b::bs,c::cs,_,_=>by simp[Spec.ltCps]
 | a::as,[],c,h,_=>by simp[Spec.ltCps] at h
 | a::as,b::bs,[],_,h=>by simp[Spec.ltCps] at h
 | a::as,b::bs,c::cs,h,h'=>by
  simp only[Spec.ltCps,Bool.or_eq_true,decide_eq_true_eq,Bool.and_eq_true,beq_iff_eq] at h h' ⊢
  rcases h with h | ⟨rfl,h⟩
  ·rcases h' with h' | ⟨rfl,h'⟩
   ·left;omega
   ·left;omega
  ·rcases h' with h' | ⟨rfl,h'⟩
   ·left;omega
   ·right;exact⟨rfl,zhx h h'⟩
theorem zlf:∀{a b:List Nat},Spec.ltCps a b=false→Spec.ltCps b a=false→a=b
 | [],[],_,_=>rfl
 | [],b::bs,h,_=>by simp[Spec.ltCps] at h
 | a::as,[],_,h=>by simp[Spec.ltCps] at h
 | a::as,b::bs,h,h'=>by
  simp only[Spec.ltCps,Bool.or_eq_false_iff,decide_eq_false_iff_not,Bool.and_eq_false_iff,beq_eq_false_iff_ne] at h h'
  have e:a=b:=by omega
  subst e
  rw[zlf (h.2.resolve_left fun z=>z rfl) (h'.2.resolve_left fun z=>z rfl)]
noncomputable def ltS(a b:Str):Prop:=Spec.ltCps a.cps.toList b.cps.toList=true
theorem zlg{a b c:Str}(h:ltS a b)(h':ltS b c):ltS a c:=zhx h h'
theorem znX{a b:Str}(h:a.cps.toList=b.cps.toList):a=b:=by rw[←zm0 a,←zm0 b,h]
theorem zhy:∀{p:Str} {l:List Str},risingS p l=true→(p::l).Nodup→(p::l).Pairwise ltS
 | p,[],_,_=>by simp
 | p,x::r,h,nd=>by
  simp only[risingS,Bool.and_eq_true,Bool.not_eq_true'] at h
  have nd':=nd
  rw[List.nodup_cons] at nd
  have ih:=zhy h.2 nd.2
  have hne:p≠x:=fun z=>nd.1 (by simp[z])
  have hpx:ltS p x:=by
   unfold ltS
   cases e:Spec.ltCps p.cps.toList x.cps.toList with
   | true=>rfl
   | false=>exact absurd (znX (zlf e h.1)) hne
  rw[List.pairwise_cons]
  refine⟨fun b hb=>?_,ih⟩
  rcases List.mem_cons.mp hb with rfl | hb
  ·exact hpx
  ·exact zlg hpx ((List.pairwise_cons.mp ih).1 b hb)
theorem ze8{l:List Str}(h:sortedS l=true)(nd:l.Nodup):l.Pairwise ltS:=by
 cases l with
 | nil=>exact .nil
 | cons x r=>exact zhy h nd
noncomputable def znY(g:TGd)(tb:TX)(D:DE)(ρ:Ev)(ds:List L2.D):Prop:=∃Iv:Nat→Ev→Prop,Iv 0 ρ∧
 (∀i d ρ',ds[i]?=some d→Iv i ρ'→g d ρ' fun ρ2=>tb { D with nx:=Iv (i+1),ct:=Iv (i+1),bk:=D.nx } ρ2)∧∀ρ',Iv ds.length ρ'→D.nx ρ'
theorem ziS{wi:TId}{g:TGd}{tb:TX}{D:DE}{ρ:Ev}(P:List L2.D→Prop)(hw:∀Q':List L2.D→Prop,(∀ds,P ds→Q' ds)→wi ρ Q')(h:∀ds,P ds→znY g tb D ρ ds):zeV wi g tb D ρ:=hw _ h
theorem zjA{α:Type}{g:TGd}{tb:TX}{D:DE}{ρ:Ev}(L:List α)(φ:α→L2.D)(Iv:Nat→Ev→Prop)(h0:Iv 0 ρ)
  (turn:∀i x ρ',L[i]?=some x→Iv i ρ'→g (φ x) ρ' fun ρ2=>tb { D with nx:=Iv (i+1),ct:=Iv (i+1),bk:=D.nx } ρ2) (fin:∀ρ',Iv L.length ρ'→D.nx ρ'):znY g tb D ρ (L.map φ):=by
 refine⟨Iv,h0,fun i d ρ' hd iv=>?_,fun ρ' iv=>fin ρ' (by simpa using iv)⟩
 rw[List.getElem?_map] at hd
 cases hx:L[i]? with
 | none=>rw[hx] at hd;cases hd
 | some x=>rw[hx] at hd;cases hd;exact turn i x ρ' hx iv
theorem zjB{α:Type}{g:TGd}{tb:TX}{D:DE}{ρ:Ev}(L:List α)(φ:α→L2.D)(Iv:Nat→Ev→Prop)(h0:Iv 0 ρ)
  (turn:∀(i:Nat) x ρ',L[i]?=some x→Iv i ρ'→g (.tup [.int i,φ x]) ρ' fun ρ2=>tb { D with nx:=Iv (i+1),ct:=Iv (i+1),bk:=D.nx } ρ2) (fin:∀ρ',Iv L.length ρ'→D.nx ρ'):znY g tb D ρ (zdv (L.map φ)):=by
 refine⟨Iv,h0,fun i d ρ' hd iv=>?_,fun ρ' iv=>fin ρ' (by simpa[zdv] using iv)⟩
 unfold zdv at hd
 rw[List.getElem?_mapIdx,List.getElem?_map] at hd
 cases hx:L[i]? with
 | none=>rw[hx] at hd;cases hd
 | some x=>rw[hx] at hd;cases hd;exact turn i x ρ' hx iv
theorem zlh(n:Nat)(p:Str×Int):okE (n+1) (dWp p):=by
 intro d hd
 simp only[List.mem_cons,List.not_mem_nil,or_false] at hd
 rcases hd with rfl | rfl
 ·rw[zb6];trivial
 ·rw[zd1];trivial
theorem zli(n:Nat)(p:Int×Str):okE (n+1) (dBp p):=by
 intro d hd
 simp only[List.mem_cons,List.not_mem_nil,or_false] at hd
 rcases hd with rfl | rfl
 ·rw[zd1];trivial
 ·rw[zb6];trivial
theorem zmw(n:Nat)(p:Int×Int×Int):okE (n+1) (dKp p):=by
 intro d hd
 simp only[List.mem_cons,List.not_mem_nil,or_false] at hd
 rcases hd with rfl | rfl | rfl<;>(rw[zd1];trivial)
theorem zd4{n:Nat}{α:Type}(f:α→D)(l:List α)(h:∀x∈l,okE n (f x)):okE (n+1) (.lst (l.map f)):=by
 intro d hd
 rw[List.mem_map] at hd
 obtain⟨x,hx,rfl⟩:=hd
 exact h x hx
theorem zm3(n:Nat)(l:List (Option Str)):okE (n+1) (dP l):=zd4 dO l fun x _=>by rw[zeq];trivial
theorem zm4(n:Nat)(l:List Str):okE (n+1) (dS l):=zd4 D.str l fun x _=>by rw[zb6];trivial
theorem zlj(c:Chan):okE 3 (.lst c.parts):=by
 intro d hd
 simp only[Chan.parts,List.mem_cons,List.not_mem_nil,or_false] at hd
 rcases hd with rfl | rfl | rfl | rfl | rfl | rfl | rfl
 ·exact zm3 1 _
 ·exact zm3 1 _
 ·exact zm4 1 _
 ·exact zm4 1 _
 ·exact zd4 dWp _ fun x _=>zlh 0 x
 ·exact zd4 dBp _ fun x _=>zli 0 x
 ·exact zd4 dKp _ fun x _=>zmw 0 x
theorem zpf(l:List D):zcc (tyD (.tup l)) "tuple"=true:=by show zcc "tuple" "tuple"=true;decide
theorem zpg(l:List D):zcc (tyD (.tup l)) "list"=false:=by show zcc "tuple" "list"=false;decide
theorem zph(l:List D):zcc (tyD (.lst l)) "list"=true:=by show zcc "list" "list"=true;decide
theorem zpi(l:List D):zcc (tyD (.lst l)) "tuple"=false:=by show zcc "list" "tuple"=false;decide
theorem zpj(z:Int):zcc (tyD (.int z)) "bool"=false:=by show zcc "int" "bool"=false;decide
theorem zpk(z:Int):zcc (tyD (.int z)) "int"=true:=by show zcc "int" "int"=true;decide
theorem zpl(z:Str):zcc (tyD (.str z)) "str"=true:=by show zcc "str" "str"=true;decide
theorem zpm(z:Str):zcc (tyD (.str z)) "list"=false:=by show zcc "str" "list"=false;decide
theorem ziT{α:Type}(l:List α)(φ:α→D):zdv (l.map φ)=l.zipIdx.map fun p=>.tup [.int (p.2:Nat),φ p.1]:=by
 unfold zdv
 apply List.ext_getElem
 ·simp
 ·intro i h1 h2
  simp
noncomputable def dN(n:Nat):D:=.int n
noncomputable def hdS(ns:List Int):Int:=(ns.take 1).sum
theorem zmx{α:Type}(a:α)(r:List α):atI (a::r) 0=some a:=by
 unfold atI ixN
 rw[if_pos (by decide),if_pos (by simp only[List.length_cons];omega)]
 rfl
theorem zqr(o:OV):(R.ov o).sl=.ov o:=rfl
theorem zpn(o:OV):(R.ov o).val=o.val:=rfl
end Wc
namespace Wc
open PySem L2
noncomputable def zbV:Nat→Int→List Nat
 | 0,_=>[]
 | n+1,c=>(97+(c%26).toNat)::zbV n (c/26)
theorem zhz(n:Nat)(c:Int):(zbV n c).length=n:=by
 induction n generalizing c with
 | zero=>rfl
 | succ n ih=>simp[zbV,ih]
theorem ziU(n:Nat)(c:Int):∀x∈zbV n c,97≤x∧x≤122:=by
 induction n generalizing c with
 | zero=>intro x hx;cases hx
 | succ n ih=>
  intro x hx
  rcases List.mem_cons.mp hx with rfl | h
  ·have h0:=Int.emod_nonneg c (show(26:Int)≠0 by decide)
   have h1:=Int.emod_lt_of_pos c (show(0:Int)<26 by decide)
   omega
  ·exact ih _ x h
noncomputable def abc:Str:="abcdefghijklmnopqrstuvwxyz"
theorem zpo:∀k:Fin 26,atI abc.cps.toList (k.val:Int)=some (97+k.val):=by decide +kernel
theorem znZ(c:Int):atI abc.cps.toList (c%26)=some (97+(c%26).toNat):=by
 have h0:=Int.emod_nonneg c (show(26:Int)≠0 by decide)
 have h1:=Int.emod_lt_of_pos c (show(0:Int)<26 by decide)
 have:=zpo ⟨(c%26).toNat,by omega⟩
 simp only at this
 rwa [Int.toNat_of_nonneg h0] at this
noncomputable def zbO:SpD:=fun ds Q=>∃(c:Int) (n:Nat),ds=[.int c,.int n]∧n≤1000∧Q (.fz (.str (mkS (zbV n c))))
noncomputable def zdi:TX:=(zaF (zaB 2 (dC (.str "abcdefghijklmnopqrstuvwxyz")))
 (zaF (zaB 3 (dC (.str "")))
 (zaF (zeV (zdc (zad (zag 1) zap)) (zao 4) (zaF (zaB 3 (dOp zb9 (zag 3) (dOp oIx (zag 2) (dOp (oI (fun _ j=>0<j) fun i j=>.int (i%j)) (zag 0) (dC (.int 26))))))
 (zaB 0 (dOp (oI zet fun i j=>.int (i/j)) (zag 0) (dC (.int 26))))))
 (zcI (zag 3)))))
theorem zfG(ds:List D)(Qr:R→Prop)(hl:ds.length=2)(h:zbO ds Qr):zdi { nx:=fun _=>Qr (.fz .non),rt:=Qr } (zaH ["_law_cell","_law_size","_law_signs","_law_stem_here","_law_k"] ds):=by
 obtain⟨c,n,rfl,hn,q⟩:=h
 show zdi _ [.fz (.int c),.fz (.int n),.un,.un,.un]
 unfold zdi
 walk_at "all"
 refine zbI n (fun Q' h=>?_) (fun i ρ=>∃(c':Int) (acc:List Nat) (k:Sl),ρ=[.fz (.int c'),.fz (.int n),.fz (.str abc),.fz (.str (mkS acc)),k]∧acc.length=i∧acc++zbV (n-i) c'=zbV n c) ⟨_,[],_,rfl,rfl,rfl⟩ ?_ ?_
 ·walk_at "all"
  exact⟨by omega,by omega,by simpa using h⟩
 ·rintro i ρ hi ⟨c',acc,k,rfl,hac,he⟩
  walk_at "all"
  refine⟨by decide,_,znZ c',?_,_,acc++[97+(c'%26).toNat],_,by rw[mk1,zdh],by simp[hac],?_⟩
  ·rw[za8,mk1,za8,zaL];simp;omega
  ·rw[←he,show n-i=(n-(i+1))+1 by omega,zbV];simp
 ·rintro ρ ⟨c',acc,k,rfl,hac,he⟩
  walk_at "all"
  rw[Nat.sub_self] at he
  simp only[zbV,List.append_nil] at he
  rw[he];exact q
end Wc
namespace Wc
open PySem L2
noncomputable def zf9(c:Int):List (List Nat):=
 if c/64%3=0 then [104,103,102,101,100,99,98,97].map fun s=>(zbV 6 (c/512)).take (c/8%(c%6+1)).toNat++[s]++((zbV 6 (c/512)).drop (c/8%(c%6+1)).toNat).take ((c%6).toNat-(c/8%(c%6+1)).toNat)
 else if c/64%3=1 then(List.range 8).map fun k=>(zbV 6 (c/512)).take (c%6%4).toNat++[if k/4=0 then 109 else 116]++[if k/2%2=0 then 110 else 117]++[if k%2=0 then 111 else 118]
 else(List.range 6).map (fun k=>(zbV 6 (c/512)).take (k+1))++[([if (zbV 6 (c/512)).headD 0=97 then 98 else 97]++(zbV 6 (c/512)).drop 1).take 1,([if (zbV 6 (c/512)).headD 0=97 then 98 else 97]++(zbV 6 (c/512)).drop 1).take 3]
noncomputable def zn0(i:Int):Int:=(i%1000000000000000000000000+5)*7046029254386353131%1000000000000000000000007
noncomputable def zc8(i:Int):List Str:=(zf9 (zn0 i)).map mkS
structure Words (ws:List Str):Prop where
 len:ws.length=8
 sz:∀w∈ws,1≤w.length∧w.length≤6
 abc:∀w∈ws,∀x∈w.cps.toList,97≤x∧x≤122
 nd:ws.Nodup
theorem zpp(x:Int):∃a b c d e f:Nat,zbV 6 x=[a,b,c,d,e,f]∧(97≤a∧a≤122)∧(97≤b∧b≤122)∧(97≤c∧c≤122)∧(97≤d∧d≤122)∧(97≤e∧e≤122)∧(97≤f∧f≤122):=by
 have h:=ziU 6 x
 simp only[zbV,List.mem_cons,List.not_mem_nil,or_false,forall_eq_or_imp,forall_eq] at h
 exact⟨_,_,_,_,_,_,by simp only[zbV],h.1,h.2.1,h.2.2.1,h.2.2.2.1,h.2.2.2.2.1,h.2.2.2.2.2⟩
theorem zmy{l:List (List Nat)}(h:l.Nodup):(l.map mkS).Nodup:=by
 unfold List.Nodup at *
 rw[List.pairwise_map]
 exact h.imp fun hab e=>hab (mkS_inj.mp e)
theorem zlk(c:Int):(zf9 c).length=8∧(∀w∈zf9 c,(1≤w.length∧w.length≤6)∧∀x∈w,97≤x∧x≤122)∧(zf9 c).Nodup:=by
 have hst:=ziU 6 (c/512)
 have hln:=zhz 6 (c/512)
 have s0:0≤c%6:=Int.emod_nonneg _ (by decide)
 have s1:c%6<6:=Int.emod_lt_of_pos _ (by decide)
 unfold zf9
 by_cases h0:c/64%3=0
 ·rw[if_pos h0]
  have t0:0≤c/8%(c%6+1):=Int.emod_nonneg _ (by omega)
  have t1:c/8%(c%6+1)<c%6+1:=Int.emod_lt_of_pos _ (by omega)
  generalize c/8%(c%6+1)=at' at *
  generalize zbV 6 (c/512)=st at *
  refine⟨rfl,fun w hw=>?_,?_⟩
  ·rw[List.mem_map] at hw
   obtain⟨s,hs,rfl⟩:=hw
   have hs':97≤s∧s≤122:=by
    simp only[List.mem_cons,List.not_mem_nil,or_false] at hs
    omega
   refine⟨?_,fun x hx=>?_⟩
   ·simp only[List.length_append,List.length_take,List.length_drop,List.length_cons,List.length_nil,hln]
    omega
   ·simp only[List.mem_append,List.mem_singleton] at hx
    rcases hx with(hx | rfl) | hx
    ·exact hst x (List.mem_of_mem_take hx)
    ·exact hs'
    ·exact hst x (List.mem_of_mem_drop (List.mem_of_mem_take hx))
  ·simp[List.append_assoc]
 ·rw[if_neg h0]
  by_cases h1:c/64%3=1
  ·rw[if_pos h1]
   have u0:0≤c%6%4:=Int.emod_nonneg _ (by decide)
   have u1:c%6%4<4:=Int.emod_lt_of_pos _ (by decide)
   generalize c%6%4=m at *
   generalize zbV 6 (c/512)=st at *
   refine⟨by simp,fun w hw=>?_,?_⟩
   ·rw[List.mem_map] at hw
    obtain⟨s,hs,rfl⟩:=hw
    refine⟨?_,fun x hx=>?_⟩
    ·simp only[List.length_append,List.length_take,List.length_drop,List.length_cons,List.length_nil,hln]
     omega
    ·simp only[List.mem_append,List.mem_singleton] at hx
     rcases hx with((hx | rfl) | rfl) | rfl
     ·exact hst x (List.mem_of_mem_take hx)
     ·split<;>omega
     ·split<;>omega
     ·split<;>omega
   ·simp[List.range,List.range.loop,List.append_assoc]
  ·rw[if_neg h1]
   obtain⟨a,b,c',d,e,f,hs,ha,hb,hc,hd,he,hf⟩:=zpp (c/512)
   rw[hs]
   have ho:97≤(if a=97 then 98 else 97)∧(if a=97 then 98 else 97)≤122∧(if a=97 then 98 else 97)≠a:=by split<;>omega
   generalize (if a=97 then 98 else 97)=o at ho
   refine⟨by simp,?_,?_⟩
   ·intro w hw
    simp[List.range,List.range.loop] at hw
    rcases hw with rfl | rfl | rfl | rfl | rfl | rfl | rfl | rfl<;>(refine⟨by simp,fun x hx=>?_⟩)<;>simp at hx<;>(try split at hx)<;>omega
   ·have:¬a=o:=fun z=>ho.2.2 z.symm
    simp[List.range,List.range.loop]
    split<;>omega
theorem zhA(i:Int):Words (zc8 i):=by
 obtain⟨h1,h2,h3⟩:=zlk (zn0 i)
 refine⟨by simp[zc8,h1],fun w hw=>?_,fun w hw=>?_,zmy h3⟩
 ·unfold zc8 at hw
  rw[List.mem_map] at hw
  obtain⟨l,hl,rfl⟩:=hw
  rw[za8];exact(h2 l hl).1
 ·unfold zc8 at hw
  rw[List.mem_map] at hw
  obtain⟨l,hl,rfl⟩:=hw
  rw[ze5];exact(h2 l hl).2
noncomputable def zbD:SpD:=fun ds Q=>∃i:Int,ds=[.int i]∧Q (.ow ((zc8 i).map .str))
noncomputable def zcU:TX:=(zaF (zaB 0 (dOp (oI (fun _ j=>0<j) fun i j=>.int (i%j)) (dOp (oI CMul fun i j=>.int (i*j)) (dOp zb9 (dOp (oI (fun _ j=>0<j) fun i j=>.int (i%j)) (zag 0) (dOp (oI zlu fun i j=>.int (i ^ j.toNat)) (dC (.int 10)) (dC (.int 24)))) (dC (.int 5))) (dC (.int 7046029254386353131))) (dOp zb9 (dOp (oI zlu fun i j=>.int (i ^ j.toNat)) (dC (.int 10)) (dC (.int 24))) (dC (.int 7)))))
 (zaF (zaB 1 (dOp (oI (fun _ j=>0<j) fun i j=>.int (i%j)) (zag 0) (dC (.int 6))))
 (zaF (zaB 2 (zaP 2 zbO (zad (dOp (oI zet fun i j=>.int (i/j)) (zag 0) (dC (.int 512))) (zad (dC (.int 6)) zap))))
 (zaF (zaB 3 (dOp (oI (fun _ j=>0<j) fun i j=>.int (i%j)) (dOp (oI zet fun i j=>.int (i/j)) (zag 0) (dC (.int 8))) (dOp zb9 (zag 1) (dC (.int 1)))))
 (zaF (xIf (za4 (dOp oEq (dOp (oI (fun _ j=>0<j) fun i j=>.int (i%j)) (dOp (oI zet fun i j=>.int (i/j)) (zag 0) (dC (.int 64))) (dC (.int 3))) (dC (.int 0)))) (zcI (za5 (zev (dC (.str "hgfedcba"))) [none,some 2,some 3,some 1] (zao 0) zfB (dOp zb9 (dOp zb9 (dSl (zag 1) oNo (zcs (zag 2))) (zag 0)) (dSl (zag 1) (zcs (zag 2)) (zcs (zag 3)))))) zcL)
 (zaF (xIf (za4 (dOp oEq (dOp (oI (fun _ j=>0<j) fun i j=>.int (i%j)) (dOp (oI zet fun i j=>.int (i/j)) (zag 0) (dC (.int 64))) (dC (.int 3))) (dC (.int 1)))) (zcI (za5 (zdc (zad (dC (.int 8)) zap)) [none,some 2,some 1] (zao 0) zfB (dOp zb9 (dOp zb9 (dOp zb9 (dSl (zag 1) oNo (zcs (dOp (oI (fun _ j=>0<j) fun i j=>.int (i%j)) (zag 2) (dC (.int 4))))) (dOp oIx (dC (.str "mt")) (dOp (oI zet fun i j=>.int (i/j)) (zag 0) (dC (.int 4))))) (dOp oIx (dC (.str "nu")) (dOp (oI (fun _ j=>0<j) fun i j=>.int (i%j)) (dOp (oI zet fun i j=>.int (i/j)) (zag 0) (dC (.int 2))) (dC (.int 2))))) (dOp oIx (dC (.str "ov")) (dOp (oI (fun _ j=>0<j) fun i j=>.int (i%j)) (zag 0) (dC (.int 2))))))) zcL)
 (zaF (zaB 4 (dOp zb9 (dOp oIx (dC (.str "ab")) (dCB zo5 (zad (dOp oEq (dOp oIx (zag 2) (dC (.int 0))) (dC (.str "a"))) zap))) (dSl (zag 2) (zcs (dC (.int 1))) oNo)))
 (zcI (dOp zb9 (za5 (zdc (zad (dC (.int 6)) zap)) [none,some 2] (zao 0) zfB (dSl (zag 1) oNo (zcs (dOp zb9 (zag 0) (dC (.int 1)))))) (zc7 (zad (dSl (zag 4) oNo (zcs (dC (.int 1)))) (zad (dSl (zag 4) oNo (zcs (dC (.int 3)))) zap))))))))))))
theorem zpq:(Str.ofString "hgfedcba").cps.toList=[104,103,102,101,100,99,98,97]:=by decide +kernel
theorem zqs(k:Nat)(h:k<8):atI (Str.ofString "mt").cps.toList ((k:Int)/4)=some (if k/4=0 then 109 else 116):=by
 have:∀k:Fin 8,atI (Str.ofString "mt").cps.toList ((k.val:Int)/4)=some (if k.val/4=0 then 109 else 116):=by decide +kernel
 exact this ⟨k,h⟩
theorem zqt(k:Nat)(h:k<8):atI (Str.ofString "nu").cps.toList ((k:Int)/2%2)=some (if k/2%2=0 then 110 else 117):=by
 have:∀k:Fin 8,atI (Str.ofString "nu").cps.toList ((k.val:Int)/2%2)=some (if k.val/2%2=0 then 110 else 117):=by decide +kernel
 exact this ⟨k,h⟩
theorem zqu(k:Nat)(h:k<8):atI (Str.ofString "ov").cps.toList ((k:Int)%2)=some (if k%2=0 then 111 else 118):=by
 have:∀k:Fin 8,atI (Str.ofString "ov").cps.toList ((k.val:Int)%2)=some (if k.val%2=0 then 111 else 118):=by decide +kernel
 exact this ⟨k,h⟩
theorem ze9(ds:List D)(Qr:R→Prop)(hl:ds.length=1)(h:zbD ds Qr):zcU { nx:=fun _=>Qr (.fz .non),rt:=Qr } (zaH ["_law_cell","_law_size","_law_stem_here","_law_at","_law_other"] ds):=by
 obtain⟨i,rfl,q⟩:=h
 show zcU _ [.fz (.int i),.un,.un,.un,.un]
 unfold zcU
 walk_at "all"
 unfold zc8 zf9 zn0 at q
 generalize (i%1000000000000000000000000+5)*7046029254386353131%1000000000000000000000007=c at q ⊢
 have s0:0≤c%6:=Int.emod_nonneg _ (by decide)
 have s1:c%6<6:=Int.emod_lt_of_pos _ (by decide)
 refine⟨c/512,6,rfl,by decide,by omega,?_⟩
 have t0:0≤c/8%(c%6+1):=Int.emod_nonneg _ (by omega)
 have t1:c/8%(c%6+1)<c%6+1:=Int.emod_lt_of_pos _ (by omega)
 have hln:=zhz 6 (c/512)
 have big:=zaL
 by_cases h0:c/64%3=0
 ·rw[if_pos h0] at q
  rw[if_pos h0]
  refine zbA [104,103,102,101,100,99,98,97] (fun c=>.str ⟨#[c]⟩) (fun s=>.str (mkS ((zbV 6 (c/512)).take (c/8%(c%6+1)).toNat++[s]++((zbV 6 (c/512)).drop (c/8%(c%6+1)).toNat).take ((c%6).toNat-(c/8%(c%6+1)).toNat)))) (fun Q' h=>?_) (by decide) (fun s hs K1 k=>?_) ?_
  ·walk_at "all"
   rw[zpq];exact h
  ·walk_at "all"
   rw[ze7 _ t0,zmv _ t0 s0,mk1,zdh,zdh]
   refine⟨by rw[za8];omega,?_,by rw[za8];omega,?_,k⟩
   ·simp only[za8,List.length_take,List.length_cons,List.length_nil];omega
   ·simp only[za8,List.length_append,List.length_take,List.length_drop,List.length_cons,List.length_nil];omega
  ·exact q
 ·rw[if_neg h0] at q
  rw[if_neg h0]
  by_cases h1:c/64%3=1
  ·rw[if_pos h1] at q
   rw[if_pos h1]
   have u0:0≤c%6%4:=Int.emod_nonneg _ (by decide)
   refine zbA (List.range 8) (fun(i:Nat)=>.int (0+i)) (fun k=>.str (mkS ((zbV 6 (c/512)).take (c%6%4).toNat++[if k/4=0 then 109 else 116]++[if k/2%2=0 then 110 else 117]++[if k%2=0 then 111 else 118]))) (fun Q' h=>?_) (by decide) (fun s hs K1 k=>?_) ?_
   ·walk_at "all"
    exact h
   ·have hs8:s<8:=by simpa using hs
    rw[Int.zero_add]
    walk_at "all"
    rw[ze7 _ u0]
    refine⟨by rw[za8];omega,by decide,_,zqs s hs8,?_,by decide,_,zqt s hs8,?_,by decide,_,zqu s hs8,?_,?_⟩
    ·simp only[za8,mk1,List.length_take,List.length_cons,List.length_nil];omega
    ·simp only[za8,mk1,zdh,List.length_append,List.length_take,List.length_cons,List.length_nil];omega
    ·simp only[za8,mk1,zdh,List.length_append,List.length_take,List.length_cons,List.length_nil];omega
    ·simp only[mk1,zdh];exact k
   ·rw[List.map_map] at q
    exact q
  ·rw[if_neg h1] at q
   rw[if_neg h1]
   obtain⟨a,b,c',d,e,f,hs,ha,hb,hc,hd,he,hf⟩:=zpp (c/512)
   rw[hs] at q ⊢
   have hat:atI (mkS [a,b,c',d,e,f]).cps.toList 0=some a:=by rw[ze5];rfl
   refine⟨by rw[za8];simp;omega,a,hat,?_⟩
   have ho:atI (Str.ofString "ab").cps.toList (if (⟨#[a]⟩:Str)=Str.ofString "a" then 1 else 0)=some (if a=97 then 98 else 97):=by
    by_cases h97:a=97
    ·subst h97;decide +kernel
    ·have:¬((⟨#[a]⟩:Str)=Str.ofString "a"):=by
      intro z
      have z2:(⟨#[a]⟩:Str).cps.toList=(Str.ofString "a").cps.toList:=by rw[z]
      have z3:(Str.ofString "a").cps.toList=[97]:=by decide +kernel
      rw[z3] at z2
      simp at z2
      exact h97 z2
     rw[if_neg this,if_neg h97]
     decide +kernel
   refine⟨by decide,_,ho,?_⟩
   walk_at "all"
   rw[zld _ (by decide),mk1,zdh]
   refine⟨by rw[za8];simp;omega,by simp only[za8];simp;omega,?_⟩
   refine zbA (List.range 6) (fun(i:Nat)=>.int (0+i)) (fun k=>.str (mkS ([a,b,c',d,e,f].take (k+1)))) (fun Q' h=>?_) (by decide) (fun s hs K1 k=>?_) ?_
   ·walk_at "all"
    exact h
   ·walk_at "all"
    rw[ze7 _ (by omega),show(0+(s:Int)+1).toNat=s+1 by omega]
    exact⟨by rw[za8];simp;omega,k⟩
   ·walk_at "all"
    rw[ze7 _ (by decide),ze7 _ (by decide)]
    refine⟨by rw[za8];simp;omega,by rw[za8];simp;omega,by decide,by simp;omega,?_⟩
    simp only[List.map_append,List.map_map,List.map_cons,List.map_nil] at q
    exact q
end Wc
namespace Wc
open PySem L2
noncomputable def zbP:SpD:=fun ds Q=>∃(ws:List Str) (cells:List Int) (seed:Int) (W:Nat),ds=[dS ws,dI cells,.int seed,.int W]∧ws.length=8∧W≤40∧
 ∀top bottom:List (Option Str),top.length=W→bottom.length=W→Pool ws top→Pool ws bottom→Q (.fz (.tup [dP top,dP bottom]))
noncomputable def zdj:TX:=(zaF (zhe 4 (zc7 zap))
 (zaF (zhe 5 (zc7 zap))
 (zaF (zeV (zdc (zad (zag 3) zap)) (zao 6) (zaF (zhe 7 (zc7 zap))
 (zaF (zeV (zdc (zad (dC (.int 2)) zap)) (zao 8) (zaF (zaB 9 (dOp zb9 (dOp (oI CMul fun i j=>.int (i*j)) (dC (.int 2)) (zag 6)) (zag 8)))
 (zaF (zaB 10 (zaP 2 zaE (zad (zag 2) (zad (zag 9) zap))))
 (zaF (xIf (za4 (dOp (oI0 fun i j=>.bl (decide (i<j))) (zag 9) (dCB zhR (zad (zag 1) zap)))) (zaB 10 (zaP 2 zaE (zad (dOp oIx (zag 1) (zag 9)) (zad (zag 9) zap)))) zcL)
 (zeU 7 (dOp oIx (zc7 (zad (dOp oIx (zag 0) (dOp (oI (fun _ j=>0<j) fun i j=>.int (i%j)) (zag 10) (dC (.int 8)))) (zad (dOp oIx (zag 0) (dOp (oI (fun _ j=>0<j) fun i j=>.int (i%j)) (dOp (oI zet fun i j=>.int (i/j)) (zag 10) (dC (.int 8))) (dC (.int 3)))) (zad (dOp oIx (zag 0) (dOp (oI (fun _ j=>0<j) fun i j=>.int (i%j)) (dOp (oI zet fun i j=>.int (i/j)) (zag 10) (dC (.int 8))) (dC (.int 5)))) (zad (dC .non) zap))))) (dOp (oI (fun _ j=>0<j) fun i j=>.int (i%j)) (dOp (oI zet fun i j=>.int (i/j)) (zag 10) (dC (.int 64))) (dC (.int 4)))))))))
 (zaF (zeU 4 (zn9 7 (dC (.int 0))))
 (zeU 5 (zn9 7 (dC (.int 1))))))))
 (zoc 5 (zoc 4 (zcI (zdQ (zad (zag 4) (zad (zag 5) zap)))))))))
theorem zgE(ws:List Str):Pool ws []:=fun w h=>by cases h
theorem zfa{ws:List Str}{l:List (Option Str)}{x:Option Str}(h:Pool ws l)(hx:∀w,x=some w→w∈ws):Pool ws (l++[x]):=fun w hw=>by
 rcases List.mem_append.mp hw with h1 | h1
 ·exact h w h1
 ·exact hx w (List.mem_singleton.mp h1).symm
theorem zfH(ds:List D)(Qr:R→Prop)(hl:ds.length=4)(h:zbP ds Qr):zdj { nx:=fun _=>Qr (.fz .non),rt:=Qr } (zaH ["_law_words","_law_cells","_law_seed","_law_width","_law_top","_law_bottom","_law_c","_law_row","_law_side","_law_k","_law_one"] ds):=by
 obtain⟨ws,cells,seed,W,rfl,hws,hW,q⟩:=h
 show zdj _ [.fz (dS ws),.fz (dI cells),.fz (.int seed),.fz (.int W),.un,.un,.un,.un,.un,.un,.un]
 unfold zdj
 have big:=zaL
 walk_at "px"
 refine⟨by omega,?_⟩
 walk_at "go"
 refine⟨by omega,?_⟩
 walk_at "go"
 refine zbI W (fun Q' h=>?_) (fun i ρ=>∃(top bottom:List (Option Str)) (a b c d e:Sl),ρ=[.fz (dS ws),.fz (dI cells),.fz (.int seed),.fz (.int W),.ow (top.map dO),.ow (bottom.map dO),a,b,c,d,e]∧top.length=i∧bottom.length=i∧Pool ws top∧Pool ws bottom) ⟨[],[],_,_,_,_,_,rfl,rfl,rfl,zgE _,zgE _⟩ ?_ ?_
 ·walk_at "px"
  exact⟨by omega,by omega,by simpa using h⟩
 ·rintro i ρ hi ⟨top,bottom,a,b,c,d,e,rfl,ht,hb,pt,pb⟩
  walk_at "px"
  refine⟨by omega,?_⟩
  walk_at "go"
  refine zbI 2 (fun Q' h=>?_) (fun j ρ=>∃(row:List (Option Str)) (c d e:Sl),ρ=[.fz (dS ws),.fz (dI cells),.fz (.int seed),.fz (.int W),.ow (top.map dO),.ow (bottom.map dO),.fz (.int i),.ow (row.map dO),c,d,e]∧row.length=j∧Pool ws row) ⟨[],_,_,_,rfl,rfl,zgE _⟩ ?_ ?_
  ·walk_at "px"
   exact h
  ·rintro j ρ hj ⟨row,c,d,e,rfl,hr,pr⟩
   walk_at "px"
   walk_at "go"
   have k0:(0:Int)≤2*(i:Int)+j:=by omega
   have k1:2*(i:Int)+j≤1000000:=by omega
   refine⟨seed,_,rfl,k0,k1,?_⟩
   walk_at "go"
   unfold dI
   walk_at "px"
   split
   focus
    rename_i hc
    rw[List.length_map] at hc
    obtain⟨z,hz,_⟩:=zid (l:=cells) k0 hc
    refine⟨z,hz,z,_,rfl,k0,k1,?_⟩
   all_goals
    generalize znW _ _=one
    walk_at "go"
    unfold dS
    walk_at "px"
    obtain⟨z1,h1,m1⟩:=at8 one hws
    obtain⟨z2,h2,m2⟩:=at3 (one/8) hws
    obtain⟨z3,h3,m3⟩:=at5 (one/8) hws
    refine⟨z1,h1,z2,h2,z3,h3,by omega,?_⟩
    have h4:=ziP (l:=[some z1,some z2,some z3,none]) (n:=4) (one/64) (by simp) (by decide)
    obtain⟨z,hz,mz⟩:=h4
    refine⟨dO z,?_,by simp;omega,row++[z],_,_,_,by rw[List.map_append];rfl,by simp[hr],zfa pr ?_⟩
    ·have:=congrArg (Option.map dO) hz
     rw[←zgA] at this
     exact this
    ·intro w hw
     subst hw
     simp only[List.mem_cons,Option.some.injEq,List.not_mem_nil,or_false,reduceCtorEq] at mz
     rcases mz with rfl | rfl | rfl
     ·exact m1
     ·exact m2
     ·exact m3
  ·rintro ρ ⟨row,c,d,e,rfl,hr,pr⟩
   obtain⟨x,y,rfl⟩:∃x y,row=[x,y]:=by
    match row,hr with
    | [x,y],_=>exact⟨x,y,rfl⟩
   walk_at "go"
   refine⟨dO x,rfl,by simp;omega,?_⟩
   walk_at "go"
   refine⟨dO y,rfl,by simp;omega,top++[x],bottom++[y],_,_,_,_,_,by rw[List.map_append,List.map_append];rfl,by simp[ht],by simp[hb],zfa pt fun w hw=>pr w (by simp[hw]),zfa pb fun w hw=>pr w (by simp[hw])⟩
 ·rintro ρ ⟨top,bottom,a,b,c,d,e,rfl,ht,hb,pt,pb⟩
  walk_at "go"
  exact⟨by omega,q top bottom ht hb pt pb⟩
noncomputable def cntN(top bottom:List (Option Str))(left right:List Str)(w:Str):Nat:=top.count (some w)+bottom.count (some w)+left.count w+right.count w
noncomputable def zbs:SpD:=fun ds Q=>∃(top bottom:List (Option Str)) (left right:List Str) (w:Str),ds=[dP top,dP bottom,dS left,dS right,.str w]∧top.length+bottom.length+left.length+right.length≤100000∧Q (.fz (.int (cntN top bottom left right w)))
noncomputable def zdk:TX:=(zaF (zaB 5 (dOp zb9 (dOp zb9 (dOp zb9 (zag 0) (zag 1)) (zag 2)) (zag 3)))
 (zcI (dM "list" zhk (zag 5) (zad (zag 4) zap))))
theorem zm5(w:Str)(l:List (Option Str)):zjJ (.str w) (l.map dO)=l.count (some w):=by
 unfold zjJ
 rw[List.countP_map,List.count]
 congr 1
 funext x
 simp only[Function.comp_apply,zbL]
 rw[zd2]
theorem zm6(w:Str)(l:List Str):zjJ (.str w) (l.map D.str)=l.count w:=by
 unfold zjJ
 rw[List.countP_map,List.count]
 congr 1
theorem zgF(d:D)(a b:List D):zjJ d (a++b)=zjJ d a+zjJ d b:=by unfold zjJ;exact List.countP_append
theorem zfI(ds:List D)(Qr:R→Prop)(hl:ds.length=5)(h:zbs ds Qr):zdk { nx:=fun _=>Qr (.fz .non),rt:=Qr } (zaH ["_law_top","_law_bottom","_law_left","_law_right","_law_word","_law_some"] ds):=by
 obtain⟨top,bottom,left,right,w,rfl,hz,q⟩:=h
 show zdk _ [.fz (dP top),.fz (dP bottom),.fz (dS left),.fz (dS right),.fz (.str w),.un]
 unfold zdk
 have big:=zaL
 unfold dP dS
 walk_at "px"
 refine⟨by simp;omega,by simp;omega,by simp;omega,?_⟩
 walk_at "go"
 refine⟨rfl,?_,?_⟩
 ·intro e he
  simp only[List.mem_append] at he
  rcases he with((he | he) | he) | he
  ·exact zeJ 8 top e he
  ·exact zeJ 8 bottom e he
  ·exact zce 8 left e he
  ·exact zce 8 right e he
 ·rw[zgF,zgF,zgF,zm5,zm5,zm6,zm6]
  exact q
theorem zpR(l:List Int)(a:Int):l.map D.int++[D.int a]=(l++[a]).map D.int:=by simp
noncomputable def places(top bottom:List (Option Str))(left right:List Str)(w:Str):List Int:=
 (((List.range top.length).filter fun c=>top[c]?==some (some w)||bottom[c]?==some (some w)).map fun(c:Nat)=>(c:Int))++(if w∈left then [-1] else [])++(if w∈right then [(top.length:Int)] else [])
noncomputable def IsMin(m:Int)(l:List Int):Prop:=m∈l∧∀a∈l,m≤a
noncomputable def IsMax(m:Int)(l:List Int):Prop:=m∈l∧∀a∈l,a≤m
noncomputable def za9:SpD:=fun ds Q=>∃(top bottom:List (Option Str)) (left right:List Str) (w:Str),ds=[dP top,dP bottom,dS left,dS right,.str w]∧bottom.length=top.length∧top.length≤100∧left.length≤100∧right.length≤100∧
 ∀m M,IsMin m (places top bottom left right w++[99])→IsMax M (places top bottom left right w++[-9])→Q (.fz (.tup [.int m,.int M]))
noncomputable def zcl:TX:=(zaF (zhe 5 (za5 (zdc (zad (dCB zhR (zad (zag 0) zap)) zap)) [none,some 4,some 0,some 1] (zao 0) (za4 (dOp (zgi false) (zag 1) (zc7 (zad (dOp oIx (zag 2) (zag 0)) (zad (dOp oIx (zag 3) (zag 0)) zap))))) (zag 0)))
 (zaF (xIf (za4 (dOp (zgi false) (zag 4) (zag 2))) (zeU 5 (zod (dC (.int 1)))) zcL)
 (zaF (xIf (za4 (dOp (zgi false) (zag 4) (zag 3))) (zeU 5 (dCB zhR (zad (zag 0) zap))) zcL)
 (zoc 5 (zcI (zdQ (zad (dCB zmW (zad (dOp zb9 (zag 5) (zc7 (zad (dC (.int 99)) zap))) zap)) (zad (dCB zjI (zad (dOp zb9 (zag 5) (zc7 (zad (zod (dC (.int 9))) zap))) zap)) zap))))))))
theorem zd5(ds:List D)(Qr:R→Prop)(hl:ds.length=5)(h:za9 ds Qr):zcl { nx:=fun _=>Qr (.fz .non),rt:=Qr } (zaH ["_law_top","_law_bottom","_law_left","_law_right","_law_word","_law_places"] ds):=by
 obtain⟨top,bottom,left,right,w,rfl,hb,ht,hlf,hr,q⟩:=h
 show zcl _ [.fz (dP top),.fz (dP bottom),.fz (dS left),.fz (dS right),.fz (.str w),.un]
 unfold zcl
 have big:=zaL
 unfold dP dS
 walk_at "px"
 refine zaW (List.range top.length) (fun(i:Nat)=>.int (0+i)) (fun(i:Nat)=>.int i) (fun c=>top[c]?==some (some w)||bottom[c]?==some (some w)) (fun Q' h=>?_) (by simp;omega) (fun c hc K1 K0 k1 k0=>?_) ?_
 ·walk_at "px"
  rw[List.length_map]
  exact⟨by omega,by omega,by simpa using h⟩
 ·have hc':c<top.length:=by simpa using hc
  rw[Int.zero_add]
  walk_at "px"
  refine⟨_,za3 hc',_,za3 (l:=bottom) (by omega),by omega,?_,?_⟩
  ·intro e he
   simp only[List.mem_cons,List.not_mem_nil,or_false] at he
   rcases he with rfl | rfl<;>(rw[zeq];trivial)
  ·have e1:inD (.str w) [dO top[c],dO bottom[c]]=(top[c]?==some (some w)||bottom[c]?==some (some w)):=by
    unfold inD
    simp only[List.any_cons,List.any_nil,Bool.or_false,zbL]
    rw[List.getElem?_eq_getElem hc',List.getElem?_eq_getElem (l:=bottom) (by omega),zd2,zd2]
    simp
   rw[e1]
   cases hb:(top[c]?==some (some w)||bottom[c]?==some (some w)) with
   | true=>exact k1 hb
   | false=>exact k0 hb
 ·have e:∀L:List Nat,(L.map fun(i:Nat)=>D.int i)=(L.map (fun(c:Nat)=>(c:Int))).map D.int:=fun L=>by simp
  rw[e]
  have hlen:(((List.range top.length).filter fun c=>top[c]?==some (some w)||bottom[c]?==some (some w)).map fun(c:Nat)=>(c:Int)).length≤100:=by
   rw[List.length_map]
   refine Nat.le_trans (List.length_filter_le _ _) ?_
   simp;omega
  unfold places at q
  generalize (((List.range top.length).filter fun c=>top[c]?==some (some w)||bottom[c]?==some (some w)).map fun(c:Nat)=>(c:Int))=base at q hlen ⊢
  walk_at "go"
  refine⟨zce 8 left,?_⟩
  rw[zle]
  by_cases h1:w∈left<;>by_cases h2:w∈right
  all_goals
   simp only[h1,h2,if_true,if_false,List.append_nil] at q
   simp only[h1,decide_true,decide_false,if_true,Bool.false_eq_true,if_false]
   try(refine⟨by simp;omega,?_⟩)
   walk_at "go"
   refine⟨zce 8 right,?_⟩
   rw[zle]
   simp only[h2,decide_true,decide_false,if_true,Bool.false_eq_true,if_false]
   try(refine⟨by simp;omega,?_⟩)
   try simp only[zpR,List.length_map]
   walk_at "go"
   refine⟨by omega,by simp;omega,?_⟩
   try simp only[zpR,zmW,zjI,zbK]
   refine⟨by simp,fun m hm1 hm2=>?_⟩
   refine⟨by omega,by simp;omega,?_⟩
   try simp only[zpR,zbK]
   refine⟨by simp,fun M hM1 hM2=>?_⟩
   exact⟨by omega,q m M ⟨by simpa using hm1,by simpa using hm2⟩ ⟨by simpa using hM1,by simpa using hM2⟩⟩
end Wc
namespace Wc
open PySem L2 PyProof.Rows
structure BendsOK (top bottom:List (Option Str)) (left right ws:List Str) (bends:List (Int×Str)):Prop where
 len:bends.length≤top.length
 up:bends.Pairwise fun a b=>a.1<b.1
 at_:∀p∈bends,∃n:Nat,p.1=n∧n<top.length∧p.2∈ws∧(∃m M,IsMin m (places top bottom left right p.2++[99])∧IsMax M (places top bottom left right p.2++[-9])∧m<p.1∧p.1<M)∧((top[n]?=some none∧bottom[n]?=some none)∨top[n]?=some (some p.2)∨bottom[n]?=some (some p.2))
noncomputable def zbE:SpD:=fun ds Q=>∃(top bottom:List (Option Str)) (left right ws:List Str) (cells:List Int) (seed:Int),ds=[.lst [dP top,dP bottom,dS left,dS right],dS ws,dI cells,.int seed]∧bottom.length=top.length∧top.length≤40∧left.length≤100∧right.length≤100∧ws.length=8∧Pool ws top∧cells.length≤1000∧
 ∀bends,BendsOK top bottom left right ws bends→Q (.ow (bends.map dBp))
noncomputable def zcV:TX:=(zaF (zoa (zag 0) (zo6 4 (zaC (zao 4) (zaC (zao 5) (zaC (zao 6) (zaC (zao 7) zc4))))))
 (zaF (zhe 8 (zc7 zap))
 (zaF (zeV (zdc (zad (dCB zhR (zad (zag 4) zap)) zap)) (zao 9) (zaF (zaB 10 (zaP 2 zaE (zad (dOp oIx (dOp zb9 (zag 2) (zc7 (zad (zag 3) zap))) (dOp (oI (fun _ j=>0<j) fun i j=>.int (i%j)) (zag 9) (dOp zb9 (dCB zhR (zad (zag 2) zap)) (dC (.int 1))))) (zad (dOp zb9 (zag 9) (dC (.int 200))) zap))))
 (zaF (zaB 11 (dOp oIx (zag 1) (dOp (oI (fun _ j=>0<j) fun i j=>.int (i%j)) (zag 10) (dC (.int 8)))))
 (zaF (xIf (zhb (za4 (dOp oEq (dOp (oI (fun _ j=>0<j) fun i j=>.int (i%j)) (dOp (oI zet fun i j=>.int (i/j)) (zag 10) (dC (.int 8))) (dC (.int 3))) (dC (.int 0)))) (za4 (dOp (zel true) (dOp oIx (zag 4) (zag 9)) (dC .non)))) (zaB 11 (dOp oIx (zag 4) (zag 9))) zcL)
 (zaF (zoa (zaP 5 za9 (zad (zag 4) (zad (zag 5) (zad (zag 6) (zad (zag 7) (zad (zag 11) zap)))))) (zdu 2 (zaC (zao 12) (zaC (zao 13) zc4))))
 (zaF (zaB 14 (za5 (zev (zc7 (zad (dOp oIx (zag 4) (zag 9)) (zad (dOp oIx (zag 5) (zag 9)) zap)))) [none] (zao 0) (za4 (dOp (zel true) (zag 0) (dC .non))) (zag 0)))
 (xIf (zhb (za4 (dOp (oI0 fun i j=>.bl (decide (i<j))) (zag 12) (zag 9))) (zhb (za4 (dOp (oI0 fun i j=>.bl (decide (i<j))) (zag 9) (zag 13))) (zhb (bOr (za4 (dOp oEq (zag 14) (zc7 zap))) (za4 (dOp (zgi false) (zag 11) (zag 14)))) (za4 (dOp (oI0 fun i j=>.bl (decide (j<i))) (dOp (oI (fun _ j=>0<j) fun i j=>.int (i%j)) (dOp (oI zet fun i j=>.int (i/j)) (zag 10) (dC (.int 24))) (dC (.int 3))) (dC (.int 0))))))) (zeU 8 (zdQ (zad (zag 9) (zad (zag 11) zap)))) zcL)))))))
 (zdT 8))))
theorem zmz(l:List D):zg8 l []=l.isEmpty:=by cases l<;>simp[zg8]
theorem zfb(ds:List D)(Qr:R→Prop)(hl:ds.length=4)(h:zbE ds Qr):zcV { nx:=fun _=>Qr (.fz .non),rt:=Qr } (zaH ["_law_lists","_law_words","_law_cells","_law_seed","_law_top","_law_bottom","_law_left","_law_right","_law_bends_here","_law_c","_law_one","_law_word","_law_l","_law_r","_law_here"] ds):=by
 obtain⟨top,bottom,left,right,ws,cells,seed,rfl,hb,ht,hlf,hr,hws,pt,hcl,q⟩:=h
 show zcV _ [.fz (.lst [dP top,dP bottom,dS left,dS right]),.fz (dS ws),.fz (dI cells),.fz (.int seed),.un,.un,.un,.un,.un,.un,.un,.un,.un,.un,.un]
 unfold zcV
 have big:=zaL
 walk_at "px"
 walk_at "go"
 refine⟨by omega,?_⟩
 walk_at "go"
 refine zbI top.length (fun Q' h=>?_) (fun i ρ=>∃(bends:List (Int×Str)) (a b c d e f:Sl),ρ=[.fz (.lst [dP top,dP bottom,dS left,dS right]),.fz (dS ws),.fz (dI cells),.fz (.int seed),.fz (dP top),.fz (dP bottom),.fz (dS left),.fz (dS right),.ow (bends.map dBp),a,b,c,d,e,f]∧BendsOK top bottom left right ws bends∧(∀p∈bends,p.1<i)∧bends.length≤i) ⟨[],_,_,_,_,_,_,rfl,⟨by simp,by simp,by simp⟩,by simp,by simp⟩ ?_ ?_
 ·unfold dP
  walk_at "px"
  rw[List.length_map]
  exact⟨by omega,by omega,by simpa using h⟩
 ·rintro i ρ hi ⟨bends,a,b,c,d,e,f,rfl,bo,lt,ln⟩
  unfold dI
  walk_at "px"
  rw[List.length_map]
  refine⟨by omega,by omega,by omega,?_⟩
  have m0:0≤(i:Int)%((cells.length:Int)+1):=Int.emod_nonneg _ (by omega)
  have m1:(i:Int)%((cells.length:Int)+1)<(cells.length:Int)+1:=Int.emod_lt_of_pos _ (by omega)
  rw[zpR]
  obtain⟨z,hz,_⟩:=zid (l:=cells++[seed]) m0 (by simp;omega)
  rw[zlc]
  refine⟨z,hz,z,_,rfl,by omega,by omega,?_⟩
  generalize znW _ _=one
  unfold dS
  walk_at "go"
  obtain⟨z1,h1,mz1⟩:=at8 one hws
  refine⟨z1,h1,?_⟩
  unfold dP
  walk_at "go"
  have hat:top[i]?=some top[i]:=List.getElem?_eq_getElem hi
  have hab:bottom[i]?=some bottom[i]:=List.getElem?_eq_getElem (by omega)
  have key:∃w:Str,w∈ws∧∀K:D→Prop,K (.str w)→(if one/8%3=0 then ∃x,atI top (i:Int)=some x∧(if (!zgj (dO x))=true then ∃x,atI top (i:Int)=some x∧K (dO x) else K (.str z1)) else K (.str z1)):=by
   by_cases hc:one/8%3=0
   ·cases hx:top[i] with
    | none=>exact⟨z1,mz1,fun K k=>by rw[if_pos hc];exact⟨none,by rw[za3 hi,hx],by simpa[dO,zgj] using k⟩⟩
    | some w=>
     refine⟨w,pt w (by rw[←hx];exact List.getElem_mem hi),fun K k=>?_⟩
     rw[if_pos hc]
     exact⟨some w,by rw[za3 hi,hx],by simp only[dO,zgj,Bool.not_false,if_true];exact⟨some w,by rw[za3 hi,hx],k⟩⟩
   ·exact⟨z1,mz1,fun K k=>by rw[if_neg hc];exact k⟩
  obtain⟨w,hw,kw⟩:=key
  refine kw (fun d=>zlx _ _ [_,_,_,_,_,_,_,_,_,_,_,.fz d,_,_,_]) ?_
  walk_at "go"
  refine⟨top,bottom,left,right,w,rfl,hb,by omega,hlf,hr,fun m M hm hM=>?_⟩
  walk_at "go"
  refine zaW [top[i],bottom[i]] dO dO (fun x=>x.isSome) (fun Q' h=>?_) (by simp;omega) (fun c hc K1 K0 k1 k0=>?_) ?_
  ·walk_at "px"
   exact⟨_,za3 hi,_,za3 (l:=bottom) (by omega),by omega,h⟩
  ·walk_at "px"
   cases c with
   | none=>exact k0 rfl
   | some x=>exact k1 rfl
  ·walk_at "go"
   have skip:∀(a b c d e f:Sl) (X Y Z:D),∃(bends':List (Int×Str)) (a' b' c' d' e' f':Sl),[Sl.fz (D.lst [D.lst (List.map dO top),D.lst (List.map dO bottom),D.lst (List.map D.str left),D.lst (List.map D.str right)]),Sl.fz (D.lst (List.map D.str ws)),Sl.fz (D.lst (List.map D.int cells)),Sl.fz (D.int seed),Sl.fz (D.lst (List.map dO top)),Sl.fz (D.lst (List.map dO bottom)),Sl.fz (D.lst (List.map D.str left)),Sl.fz (D.lst (List.map D.str right)),Sl.ow (List.map dBp bends),a,b,c,d,e,f]=[Sl.fz (D.lst [D.lst (List.map dO top),D.lst (List.map dO bottom),D.lst (List.map D.str left),D.lst (List.map D.str right)]),Sl.fz (D.lst (List.map D.str ws)),Sl.fz (D.lst (List.map D.int cells)),Sl.fz (D.int seed),Sl.fz (D.lst (List.map dO top)),Sl.fz (D.lst (List.map dO bottom)),Sl.fz (D.lst (List.map D.str left)),Sl.fz (D.lst (List.map D.str right)),Sl.ow (List.map dBp bends'),a',b',c',d',e',f']∧BendsOK top bottom left right ws bends'∧(∀p∈bends',p.1<((i+1:Nat):Int))∧bends'.length≤i+1:=
    fun a b c d e f _ _ _=>⟨bends,a,b,c,d,e,f,rfl,bo,fun p hp=>by have:=lt p hp;omega,by omega⟩
   have hmem:some w∈[top[i],bottom[i]].filter (fun x=>x.isSome)↔top[i]=some w∨bottom[i]=some w:=by
    simp only[List.mem_filter,List.mem_cons,List.not_mem_nil,or_false,Option.isSome_some,and_true]
    constructor
    ·rintro(h | h)
     ·exact .inl h.symm
     ·exact .inr h.symm
    ·rintro(h | h)
     ·exact .inl h.symm
     ·exact .inr h.symm
   have hemp:([top[i],bottom[i]].filter (fun x=>x.isSome)=[])→top[i]=none∧bottom[i]=none:=by
    intro h
    rw[List.filter_eq_nil_iff] at h
    exact⟨by simpa using h top[i] (by simp),by simpa using h bottom[i] (by simp)⟩
   generalize [top[i],bottom[i]].filter (fun x=>x.isSome)=here at hmem hemp ⊢
   split
   ·rename_i c1
    split
    ·rename_i c2
     refine⟨by omega,okE.mono (n:=1) (by omega) (by intro d hd;exact zeJ 0 here d hd),okE.mono (n:=1) (by omega) (by intro d hd;cases hd),?_⟩
     have fin:(top[i]=none∧bottom[i]=none)∨top[i]=some w∨bottom[i]=some w→BendsOK top bottom left right ws (bends++[((i:Int),w)]):=fun hp=>by
      refine⟨by simp;omega,?_,?_⟩
      ·rw[List.pairwise_append]
       refine⟨bo.up,by simp,fun a ha b hb=>?_⟩
       have:b=((i:Int),w):=by simpa using hb
       subst this
       exact lt a ha
      ·intro p hp'
       rcases List.mem_append.mp hp' with h | h
       ·exact bo.at_ p h
       ·have:p=((i:Int),w):=by simpa using h
        subst this
        refine⟨i,rfl,hi,hw,⟨m,M,hm,hM,c1,c2⟩,?_⟩
        rw[hat,hab]
        simpa using hp
     have put:(top[i]=none∧bottom[i]=none)∨top[i]=some w∨bottom[i]=some w→2≤sizeLine∧(List.map dBp bends).length<sizeLine∧∃(bends':List (Int×Str)) (a' b' c' d' e' f':Sl),[Sl.fz (D.lst [D.lst (List.map dO top),D.lst (List.map dO bottom),D.lst (List.map D.str left),D.lst (List.map D.str right)]),Sl.fz (D.lst (List.map D.str ws)),Sl.fz (D.lst (List.map D.int cells)),Sl.fz (D.int seed),Sl.fz (D.lst (List.map dO top)),Sl.fz (D.lst (List.map dO bottom)),Sl.fz (D.lst (List.map D.str left)),Sl.fz (D.lst (List.map D.str right)),Sl.ow (List.map dBp bends++[D.tup [D.int i,D.str w]]),Sl.fz (D.int i),Sl.fz (D.int one),Sl.fz (D.str w),Sl.fz (D.int m),Sl.fz (D.int M),Sl.fz (D.lst (here.map dO))]=[Sl.fz (D.lst [D.lst (List.map dO top),D.lst (List.map dO bottom),D.lst (List.map D.str left),D.lst (List.map D.str right)]),Sl.fz (D.lst (List.map D.str ws)),Sl.fz (D.lst (List.map D.int cells)),Sl.fz (D.int seed),Sl.fz (D.lst (List.map dO top)),Sl.fz (D.lst (List.map dO bottom)),Sl.fz (D.lst (List.map D.str left)),Sl.fz (D.lst (List.map D.str right)),Sl.ow (List.map dBp bends'),a',b',c',d',e',f']∧BendsOK top bottom left right ws bends'∧(∀p∈bends',p.1<((i+1:Nat):Int))∧bends'.length≤i+1:=fun hp=>by
      refine⟨by omega,by simp;omega,bends++[((i:Int),w)],_,_,_,_,_,_,by rw[List.map_append];rfl,fin hp,?_,by simp;omega⟩
      intro p hp'
      rcases List.mem_append.mp hp' with h | h
      ·have:=lt p h;omega
      ·have:p=((i:Int),w):=by simpa using h
       subst this
       show(i:Int)<_
       omega
     by_cases ce:here=[]
     ·simp only[ce,List.map_nil,eqD,zg8,if_true]
      split
      ·have:=put (.inl (hemp ce));rw[ce] at this;exact this
      ·have:=skip (.fz (D.int i)) (.fz (D.int one)) (.fz (D.str w)) (.fz (D.int m)) (.fz (D.int M)) (.fz (D.lst [])) .non .non .non
       exact this
     ·have e1:eqD (D.lst (here.map dO)) (D.lst [])=false:=by
       simp only[eqD,zmz]
       cases here with
       | nil=>exact absurd rfl ce
       | cons=>rfl
      simp only[e1,Bool.false_eq_true,if_false]
      refine⟨zeJ 8 here,?_⟩
      rw[zpe]
      simp only[decide_eq_true_eq]
      split
      ·rename_i hin
       split
       ·exact put (.inr (hmem.mp hin))
       ·exact skip _ _ _ _ _ _ .non .non .non
      ·exact skip _ _ _ _ _ _ .non .non .non
    ·exact skip _ _ _ _ _ _ .non .non .non
   ·exact skip _ _ _ _ _ _ .non .non .non
 ·rintro ρ ⟨bends,a,b,c,d,e,f,rfl,bo,lt,ln⟩
  walk_at "go"
  exact q bends bo
noncomputable def KeepsOK(W:Nat)(keeps:List (Int×Int×Int)):Prop:=keeps.length≤6∧∀p∈keeps,0≤p.1∧p.1≤p.2.1∧p.2.1<W∧1≤p.2.2∧p.2.2≤3
noncomputable def zbF:SpD:=fun ds Q=>∃(W:Nat) (cells:List Int) (seed:Int),ds=[.int W,dI cells,.int seed]∧1≤W∧W≤40∧∀keeps,KeepsOK W keeps→Q (.ow (keeps.map dKp))
noncomputable def zcW:TX:=(zaF (zhe 3 (zc7 zap))
 (zaF (zeV (zfA (zad (dSl (zag 1) oNo (zcs (dC (.int 6)))) zap)) (zdu 2 (zaC (zao 4) (zaC (zao 5) zc4))) (zaF (zaB 6 (zaP 2 zaE (zad (dOp zb9 (zag 5) (zag 2)) (zad (dOp zb9 (zag 4) (dC (.int 300))) zap))))
 (zaF (zaB 7 (dOp (oI (fun _ j=>0<j) fun i j=>.int (i%j)) (zag 6) (zag 0)))
 (xIf (za4 (dOp oEq (dOp (oI (fun _ j=>0<j) fun i j=>.int (i%j)) (dOp (oI zet fun i j=>.int (i/j)) (zag 6) (dC (.int 64))) (dC (.int 4))) (dC (.int 0)))) (zeU 3 (zdQ (zad (zag 7) (zad (dOp zb9 (zag 7) (dOp (oI (fun _ j=>0<j) fun i j=>.int (i%j)) (dOp (oI zet fun i j=>.int (i/j)) (zag 6) (dC (.int 256))) (dOp (oI0 fun i j=>.int (i-j)) (zag 0) (zag 7)))) (zad (dOp zb9 (dC (.int 1)) (dOp (oI (fun _ j=>0<j) fun i j=>.int (i%j)) (dOp (oI zet fun i j=>.int (i/j)) (zag 6) (dC (.int 1024))) (dC (.int 3)))) zap))))) zcL))))
 (zdT 3)))
theorem zfc(ds:List D)(Qr:R→Prop)(hl:ds.length=3)(h:zbF ds Qr):zcW { nx:=fun _=>Qr (.fz .non),rt:=Qr } (zaH ["_law_width","_law_cells","_law_seed","_law_keeps_here","_law_k","_law_cell","_law_one","_law_first"] ds):=by
 obtain⟨W,cells,seed,rfl,hW,hW2,q⟩:=h
 show zcW _ [.fz (.int W),.fz (dI cells),.fz (.int seed),.un,.un,.un,.un,.un]
 unfold zcW dI
 have big:=zaL
 walk_at "px"
 refine⟨by omega,?_⟩
 walk_at "go"
 refine zdF (cells.take 6) D.int (fun Q' h=>?_) (fun i ρ=>∃(keeps:List (Int×Int×Int)) (a b c d:Sl),ρ=[.fz (.int W),.fz (D.lst (List.map D.int cells)),.fz (.int seed),.ow (keeps.map dKp),a,b,c,d]∧keeps.length≤i∧∀p∈keeps,0≤p.1∧p.1≤p.2.1∧p.2.1<W∧1≤p.2.2∧p.2.2≤3) ⟨[],_,_,_,_,rfl,by simp,by simp⟩ ?_ ?_
 ·walk_at "px"
  rw[zie _ (by decide)]
  exact h
 ·rintro i x ρ hx ⟨keeps,a,b,c,d,rfl,kl,ko⟩
  have hi:i<6:=by
   have:=(List.getElem?_eq_some_iff.mp hx).1
   simp at this
   omega
  walk_at "px"
  refine⟨x+seed,(i:Int)+300,rfl,by omega,by omega,?_⟩
  have n0:=zpd (x+seed) ((i:Int)+300)
  generalize znW _ _=one at n0 ⊢
  walk_at "go"
  have f0:0≤one%(W:Int):=Int.emod_nonneg _ (by omega)
  have f1:one%(W:Int)<W:=Int.emod_lt_of_pos _ (by omega)
  refine⟨by omega,?_⟩
  generalize one%(W:Int)=fst at f0 f1 ⊢
  walk_at "go"
  have g0:0≤one/256%((W:Int)-fst):=Int.emod_nonneg _ (by omega)
  have g1:one/256%((W:Int)-fst)<(W:Int)-fst:=Int.emod_lt_of_pos _ (by omega)
  have k0:0≤one/1024%3:=Int.emod_nonneg _ (by omega)
  have k1:one/1024%3<3:=Int.emod_lt_of_pos _ (by omega)
  generalize one/256%((W:Int)-fst)=sp at g0 g1 ⊢
  generalize one/1024%3=kk at k0 k1 ⊢
  split
  ·refine⟨by omega,by omega,by simp;omega,keeps++[(fst,fst+sp,1+kk)],_,_,_,_,by rw[List.map_append];rfl,by simp;omega,fun p hp=>?_⟩
   rcases List.mem_append.mp hp with h | h
   ·exact ko p h
   ·have:p=(fst,fst+sp,1+kk):=by simpa using h
    subst this
    refine⟨f0,?_,?_,?_,?_⟩<;>dsimp only<;>omega
  ·exact⟨keeps,_,_,_,_,rfl,by omega,ko⟩
 ·rintro ρ ⟨keeps,a,b,c,d,rfl,kl,ko⟩
  walk_at "go"
  refine q keeps ⟨?_,ko⟩
  rw[List.length_take] at kl
  omega
noncomputable def zbt:SpD:=fun ds Q=>∃(ws:List Str) (bits:Int),ds=[dS ws,.int bits]∧ws.length=8∧ws.Nodup∧∀l:List Str,l.length≤8→l.Nodup→(∀w∈l,w∈ws)→sortedS l=true→Q (.ow (l.map .str))
noncomputable def zdl:TX:=(zaF (xIf (za4 (dOp oEq (dOp (oI (fun _ j=>0<j) fun i j=>.int (i%j)) (dOp (oI zet fun i j=>.int (i/j)) (zag 1) (dC (.int 256))) (dC (.int 2))) (dC (.int 0)))) (zcI (zc7 zap)) zcL)
 (zcI (dCB zde (zad (za5 (zdc (zad (dC (.int 8)) zap)) [none,some 0,some 1] (zao 0) (za4 (dOp oEq (dOp (oI (fun _ j=>0<j) fun i j=>.int (i%j)) (dOp (oI zet fun i j=>.int (i/j)) (zag 2) (dOp oIx (zc7 (zad (dC (.int 1)) (zad (dC (.int 2)) (zad (dC (.int 4)) (zad (dC (.int 8)) (zad (dC (.int 16)) (zad (dC (.int 32)) (zad (dC (.int 64)) (zad (dC (.int 128)) zap))))))))) (zag 0))) (dC (.int 2))) (dC (.int 1)))) (dOp oIx (zag 1) (zag 0))) zap))))
theorem zn1(k:Nat)(h:k<8):atI ([1,2,4,8,16,32,64,128]:List Int) (k:Int)=some ((2:Int) ^ k):=by
 have:∀k:Fin 8,atI ([1,2,4,8,16,32,64,128]:List Int) (k.val:Int)=some ((2:Int) ^ k.val):=by decide +kernel
 exact this ⟨k,h⟩
theorem zpr(k:Nat)(h:k<8):0<(2:Int) ^ k∧(2:Int) ^ k<1073741824:=by
 have:∀k:Fin 8,0<(2:Int) ^ k.val∧(2:Int) ^ k.val<1073741824:=by decide +kernel
 exact this ⟨k,h⟩
theorem zjC{α:Type}(ws:List α)(d:α):(List.range ws.length).map (fun k=>ws.getD k d)=ws:=by
 apply List.ext_getElem
 ·simp
 ·intro i h1 h2
  simp[h2]
theorem zfJ(ds:List D)(Qr:R→Prop)(hl:ds.length=2)(h:zbt ds Qr):zdl { nx:=fun _=>Qr (.fz .non),rt:=Qr } (zaH ["_law_words","_law_bits"] ds):=by
 obtain⟨ws,bits,rfl,hws,nd,q⟩:=h
 show zdl _ [.fz (dS ws),.fz (.int bits)]
 unfold zdl dS
 have big:=zaL
 walk_at "px"
 split
 ·exact⟨by omega,q [] (by simp) (by simp) (by simp) rfl⟩
 ·walk_at "go"
  refine zaW (List.range 8) (fun(i:Nat)=>.int (0+i)) (fun k=>.str (ws.getD k "")) (fun k=>decide (bits/2 ^ k%2=1)) (fun Q' h=>?_) (by simp;omega) (fun c hc K1 K0 k1 k0=>?_) ?_
  ·walk_at "px"
   exact h
  ·have hc8:c<8:=by simpa using hc
   rw[Int.zero_add]
   walk_at "px"
   refine⟨by omega,D.int (2 ^ c),?_,?_⟩
   ·have:=congrArg (Option.map D.int) (zn1 c hc8)
    rw[←zgA] at this
    exact this
   ·walk_at "px"
    refine⟨zpr c hc8,?_⟩
    by_cases hb:bits/2 ^ c%2=1
    ·simp only[hb,eqD,beq_self_eq_true,if_true]
     refine⟨ws[c],za3 (by omega),?_⟩
     have:=k1 (by simpa using hb)
     rwa [show ws.getD c ""=ws[c] by simp[show c<ws.length by omega]] at this
    ·rw[if_neg hb]
     exact k0 (by simpa using hb)
  ·have e:∀L:List Nat,(L.map fun k=>D.str (ws.getD k ""))=(L.map fun k=>ws.getD k "").map D.str:=fun L=>by simp
   show zde [D.lst _] _
   rw[e]
   have sub:List.Sublist (((List.range 8).filter fun k=>decide (bits/2 ^ k%2=1)).map fun k=>ws.getD k "") ws:=by
    have:=List.Sublist.map (fun k=>ws.getD k "") (List.filter_sublist (p:=fun k=>decide (bits/2 ^ k%2=1)) (l:=List.range 8))
    rwa [←hws,zjC,hws] at this
   generalize (((List.range 8).filter fun k=>decide (bits/2 ^ k%2=1)).map fun k=>ws.getD k "")=ss at sub ⊢
   unfold zde
   simp only[zct]
   have hle:=sub.length_le
   refine⟨by omega,fun ss' hp hs=>q ss' (by rw[hp.length_eq];omega) (hp.nodup_iff.mpr (sub.nodup nd)) (fun w hw=>sub.subset (hp.subset hw)) hs⟩
end Wc
namespace Wc
open PySem L2 PyProof.Rows
noncomputable def zbn(lone:List Str):Option Str→Option Str
 | none=>none
 | some w=>if w∈lone then none else some w
theorem zqv(x:Option Str)(l:List Str):inD (dO x) (l.map .str)=(match x with | none=>false | some w=>decide (w∈l)):=by
 cases x with
 | none=>
  unfold inD
  rw[List.any_map]
  induction l with
  | nil=>rfl
  | cons a r ih=>rw[List.any_cons,ih];simp[dO,eqD]
 | some w=>exact zle w l
theorem zer(lone:List Str)(w:Str)(l:List (Option Str)):(l.map (zbn lone)).count (some w)=if w∈lone then 0 else l.count (some w):=by
 induction l with
 | nil=>simp
 | cons a r ih=>
  rw[List.map_cons,List.count_cons,ih,List.count_cons]
  cases a with
  | none=>simp[zbn]
  | some v=>
   unfold zbn
   by_cases h:v∈lone
   ·by_cases hw:w∈lone
    ·simp[h,hw]
    ·have:v≠w:=fun z=>hw (z▸h)
     simp[h,hw,this]
   ·by_cases hw:w∈lone
    ·have:v≠w:=fun z=>h (z▸hw)
     simp[h,hw,this]
    ·simp[h,hw]
theorem zga(lone:List Str)(w:Str)(l:List Str):(l.filter fun x=>decide (x∉lone)).count w=if w∈lone then 0 else l.count w:=by
 by_cases hw:w∈lone
 ·rw[if_pos hw,List.count_eq_zero]
  intro h
  rw[List.mem_filter] at h
  simpa[hw] using h.2
 ·rw[if_neg hw,List.count_filter]
  simpa using hw
theorem zfd{ws lone:List Str}{l:List (Option Str)}(h:Pool ws l):Pool ws (l.map (zbn lone)):=fun w hw=>by
 rw[List.mem_map] at hw
 obtain⟨x,hx,e⟩:=hw
 cases x with
 | none=>cases e
 | some v=>
  by_cases hv:v∈lone
  ·simp[zbn,hv] at e
  ·simp[zbn,hv] at e
   subst e
   exact h _ hx
theorem zn2{ws:List Str}{top bottom:List (Option Str)}{left right:List Str}(pt:Pool ws top)(pb:Pool ws bottom)(lf:∀w∈left,w∈ws)(rt:∀w∈right,w∈ws){w:Str}(h:w∉ws):cntN top bottom left right w=0:=by
 unfold cntN
 rw[List.count_eq_zero.mpr fun z=>h (pt w z),List.count_eq_zero.mpr fun z=>h (pb w z),List.count_eq_zero.mpr fun z=>h (lf w z),List.count_eq_zero.mpr fun z=>h (rt w z)]
theorem zjD{ws:List Str}{top bottom:List (Option Str)}{left right:List Str}(pt:Pool ws top)(pb:Pool ws bottom)(lf:∀w∈left,w∈ws)(rt:∀w∈right,w∈ws)(lone:List Str)(hl:lone=ws.filter fun w=>decide (cntN top bottom left right w=1))(w:Str) :
  cntN (top.map (zbn lone)) (bottom.map (zbn lone)) (left.filter fun x=>decide (x∉lone)) (right.filter fun x=>decide (x∉lone)) w≠1:=by
 have e:cntN (top.map (zbn lone)) (bottom.map (zbn lone)) (left.filter fun x=>decide (x∉lone)) (right.filter fun x=>decide (x∉lone)) w=if w∈lone then 0 else cntN top bottom left right w:=by
  unfold cntN
  rw[zer,zer,zga,zga]
  split<;>simp
 rw[e]
 by_cases h:w∈lone
 ·rw[if_pos h];decide
 ·rw[if_neg h]
  by_cases hws:w∈ws
  ·intro z
   apply h
   rw[hl,List.mem_filter]
   exact⟨hws,by simpa using z⟩
  ·rw[zn2 pt pb lf rt hws];decide
structure GoodCh (ws:List Str) (most:Nat) (c:Chan):Prop where
 w1:1≤c.top.length
 w2:c.top.length≤most
 bl:c.bottom.length=c.top.length
 pt:Pool ws c.top
 pb:Pool ws c.bottom
 ll:c.left.length≤8
 lw:∀w∈c.left,w∈ws
 lo:c.left.Pairwise ltS
 rl:c.right.length≤8
 rw_:∀w∈c.right,w∈ws
 ro:c.right.Pairwise ltS
 cnt:∀w,cntN c.top c.bottom c.left c.right w≠1
 wl:c.wide.length≤8
 wo:(c.wide.map (·.1)).Pairwise ltS
 ww:∀p∈c.wide,p.1∈ws∧(p.2=2∨p.2=3)∧1<cntN c.top c.bottom c.left c.right p.1
 be:BendsOK c.top c.bottom c.left c.right ws c.bends
 ke:KeepsOK c.top.length c.keeps
noncomputable def zba:SpD:=fun ds Q=>∃(ns:List Int) (most:Nat),ds=[dI ns,.int most]∧ns.length≤1000∧1≤most∧most≤40∧∀c,GoodCh (zc8 (hdS ns)) most c→Q (.ow c.parts)
noncomputable def zcm:TX:=(zaF (zaB 2 (dOp (oI (fun _ j=>0<j) fun i j=>.int (i%j)) (dOp (oI CMul fun i j=>.int (i*j)) (dOp (oI (fun _ j=>0<j) fun i j=>.int (i%j)) (dCB zmV (zad (dSl (zag 0) oNo (zcs (dC (.int 1)))) zap)) (dOp (oI zlu fun i j=>.int (i ^ j.toNat)) (dC (.int 10)) (dC (.int 30)))) (dC (.int 40014))) (dC (.int 2147483563))))
 (zaF (zaB 3 (zaP 1 zbD (zad (dCB zmV (zad (dSl (zag 0) oNo (zcs (dC (.int 1)))) zap)) zap)))
 (zaF (zaB 4 (dOp zb9 (dC (.int 1)) (dOp (oI (fun _ j=>0<j) fun i j=>.int (i%j)) (zag 2) (zag 1))))
 (zaF (zaB 5 (dSl (zag 0) (zcs (dC (.int 1))) oNo))
 (zaF (zoa (zaP 4 zbP (zad (zag 3) (zad (zag 5) (zad (zag 2) (zad (zag 4) zap))))) (zdu 2 (zaC (zao 6) (zaC (zao 7) zc4))))
 (zaF (zaB 8 (zaP 2 zaE (zad (dCB zmV (zad (dSl (zag 0) (zcs (dC (.int 1))) (zcs (dC (.int 2)))) zap)) (zad (dOp zb9 (dC (.int 400)) (dOp (oI (fun _ j=>0<j) fun i j=>.int (i%j)) (zag 2) (dC (.int 7)))) zap))))
 (zaF (zaB 9 (zaP 2 zbt (zad (zag 3) (zad (zag 8) zap))))
 (zaF (zaB 10 (zaP 2 zbt (zad (zag 3) (zad (dOp (oI zet fun i j=>.int (i/j)) (zag 8) (dC (.int 512))) zap))))
 (zaF (zaB 11 (za5 (zev (zag 3)) [none,some 6,some 7,some 9,some 10] (zao 0) (za4 (dOp oEq (zaP 5 zbs (zad (zag 1) (zad (zag 2) (zad (zag 3) (zad (zag 4) (zad (zag 0) zap)))))) (dC (.int 1)))) (zag 0)))
 (zaF (zaB 6 (za5 (zev (zag 6)) [none,some 11] (zao 0) zfB (dIf (za4 (dOp (zgi false) (zag 0) (zag 1))) (dC .non) (zag 0))))
 (zaF (zaB 7 (za5 (zev (zag 7)) [none,some 11] (zao 0) zfB (dIf (za4 (dOp (zgi false) (zag 0) (zag 1))) (dC .non) (zag 0))))
 (zaF (zaB 9 (za5 (zev (zag 9)) [none,some 11] (zao 0) (za4 (dOp (zgi true) (zag 0) (zag 1))) (zag 0)))
 (zaF (zaB 10 (za5 (zev (zag 10)) [none,some 11] (zao 0) (za4 (dOp (zgi true) (zag 0) (zag 1))) (zag 0)))
 (zaF (zhe 12 (zc7 zap))
 (zaF (zeV (zfA (zad (dCB zde (zad (zag 3) zap)) zap)) (zdu 2 (zaC (zao 13) (zaC (zao 14) zc4))) (zaF (zaB 15 (zaP 2 zaE (zad (dOp zb9 (zag 2) (zag 13)) (zad (dC (.int 500)) zap))))
 (xIf (zhb (za4 (dOp oEq (dOp (oI (fun _ j=>0<j) fun i j=>.int (i%j)) (zag 15) (dC (.int 4))) (dC (.int 0)))) (za4 (dOp (oI0 fun i j=>.bl (decide (j<i))) (zaP 5 zbs (zad (zag 6) (zad (zag 7) (zad (zag 9) (zad (zag 10) (zad (zag 14) zap)))))) (dC (.int 1))))) (zeU 12 (zdQ (zad (zag 14) (zad (dOp zb9 (dC (.int 2)) (dOp (oI (fun _ j=>0<j) fun i j=>.int (i%j)) (dOp (oI zet fun i j=>.int (i/j)) (zag 15) (dC (.int 4))) (dC (.int 2)))) zap)))) zcL)))
 (zaF (zaB 16 (zaP 4 zbE (zad (zc7 (zad (zag 6) (zad (zag 7) (zad (zag 9) (zad (zag 10) zap))))) (zad (zag 3) (zad (zag 5) (zad (zag 2) zap))))))
 (zaF (zaB 17 (zc7 zap))
 (zaF (xIf (za4 (dOp oEq (dOp (oI (fun _ j=>0<j) fun i j=>.int (i%j)) (dOp (oI zet fun i j=>.int (i/j)) (zag 2) (dC (.int 97))) (dC (.int 3))) (dC (.int 0)))) (zaB 17 (zaP 3 zbF (zad (zag 4) (zad (zag 5) (zad (zag 2) zap))))) zcL)
 (zoc 12 (zcI (zc7 (zad (zag 6) (zad (zag 7) (zad (zag 9) (zad (zag 10) (zad (zag 12) (zad (zag 16) (zad (zag 17) zap))))))))))))))))))))))))))))
theorem zd6(ds:List D)(Qr:R→Prop)(hl:ds.length=2)(h:zba ds Qr):zcm { nx:=fun _=>Qr (.fz .non),rt:=Qr } (zaH ["_law_script","_law_most","_law_seed","_law_words","_law_width","_law_cells","_law_top","_law_bottom","_law_bits","_law_left","_law_right","_law_lone","_law_wide","_law_k","_law_word","_law_one","_law_bends_here","_law_keeps_here"] ds):=by
 obtain⟨ns,most,rfl,hn,hm,hm2,q⟩:=h
 show zcm _ [.fz (dI ns),.fz (.int most),.un,.un,.un,.un,.un,.un,.un,.un,.un,.un,.un,.un,.un,.un,.un,.un]
 unfold zcm dI
 have big:=zaL
 walk_at "px"
 generalize hseed:((zeG ns none (some 1)).sum%1000000000000000000000000000000*40014)%2147483563=seed
 have s0:0≤seed:=by rw[←hseed];exact Int.emod_nonneg _ (by decide)
 clear hseed
 walk_at "go"
 refine⟨_,rfl,?_⟩
 rw[zie _ (by decide)]
 have hw:=zhA (hdS ns)
 change zlx _ _ [_,_,_,.fz (.lst ((zc8 (hdS ns)).map .str)),_,_,_,_,_,_,_,_,_,_,_,_,_,_]
 generalize zc8 (hdS ns)=ws at hw q ⊢
 walk_at "go"
 refine⟨by omega,?_⟩
 have m0:0≤seed%(most:Int):=Int.emod_nonneg _ (by omega)
 have m1:seed%(most:Int)<most:=Int.emod_lt_of_pos _ (by omega)
 obtain⟨W,hW⟩:∃W:Nat,1+seed%(most:Int)=W:=⟨(1+seed%(most:Int)).toNat,by omega⟩
 rw[hW]
 walk_at "go"
 rw[ze6 _ (by decide)]
 walk_at "go"
 refine⟨ws,ns.drop 1,seed,W,rfl,hw.len,by omega,fun top bottom ht hb pt pb=>?_⟩
 walk_at "px"
 walk_at "go"
 refine⟨_,_,rfl,by have:=Int.emod_nonneg seed (show(7:Int)≠0 by decide);omega,by have:=Int.emod_lt_of_pos seed (show(0:Int)<7 by decide);omega,?_⟩
 generalize znW _ _=bits
 walk_at "go"
 refine⟨ws,bits,rfl,hw.len,hw.nd,fun left lf1 lf2 lf3 lf4=>?_⟩
 walk_at "go"
 refine⟨ws,_,rfl,hw.len,hw.nd,fun right rt1 rt2 rt3 rt4=>?_⟩
 walk_at "go"
 refine zaW ws D.str D.str (fun w=>decide (cntN top bottom left right w=1)) (fun Q' h=>?_) (by have:=hw.len;omega) (fun w _ K1 K0 k1 k0=>?_) ?_
 ·walk_at "px"
  exact h
 ·walk_at "px"
  refine⟨top,bottom,left,right,w,rfl,by omega,?_⟩
  walk_at "px"
  by_cases hc:cntN top bottom left right w=1
  ·rw[if_pos (by omega)]
   exact k1 (by simpa using hc)
  ·rw[if_neg (by omega)]
   exact k0 (by simpa using hc)
 generalize hlone:ws.filter (fun w=>decide (cntN top bottom left right w=1))=lone
 have cnt':=zjD pt pb lf3 rt3 lone hlone.symm
 have hll:lone.length≤8:=by rw[←hlone];have:=List.length_filter_le (fun w=>decide (cntN top bottom left right w=1)) ws;have:=hw.len;omega
 have un:∀(l:List (Option Str)) (j:Nat) (ρ:Ev) (Q:R→Prop),l.length≤100→gt ρ j=.fz (dP l)→gt ρ 11=.fz (.lst (lone.map .str))→Q (.ow ((l.map (zbn lone)).map dO))→za5 (zev (zag j)) [none,some 11] (zao 0) zfB (dIf (za4 (dOp (zgi false) (zag 0) (zag 1))) (dC D.non) (zag 0)) ρ Q:=by
  intro l j ρ Q hl hj h11 hq
  refine zbA l dO (fun x=>dO (zbn lone x)) (fun Q' h=>?_) (by omega) (fun x hx K1 k=>?_) ?_
  ·simp only[zev,zag,hj]
   exact h
  ·simp only[zeW,List.map_cons,List.map_nil,zlw,h11]
   walk_at "px"
   have h2:okE 8 (dO x)∧(∀e∈lone.map D.str,okE 8 e):=⟨by rw[zeq];trivial,zce 8 lone⟩
   have h3:if inD (dO x) (lone.map D.str)=true then K1 D.non else K1 (dO x):=by
    rw[zqv]
    cases x with
    | none=>simpa[zbn] using k
    | some v=>
     by_cases hv:v∈lone
     ·simpa[zbn,hv,dO] using k
     ·simpa[zbn,hv,dO] using k
   cases x with
   | none=>exact⟨h2.1,h2.2,h3⟩
   | some v=>exact⟨h2.1,h2.2,h3⟩
  ·rw[List.map_map] at hq
   exact hq
 have un2:∀(l:List Str) (j:Nat) (ρ:Ev) (Q:R→Prop),l.length≤100→gt ρ j=.fz (dS l)→gt ρ 11=.fz (.lst (lone.map .str))→Q (.ow ((l.filter fun x=>decide (x∉lone)).map D.str))→za5 (zev (zag j)) [none,some 11] (zao 0) (za4 (dOp (zgi true) (zag 0) (zag 1))) (zag 0) ρ Q:=by
  intro l j ρ Q hl hj h11 hq
  refine zaW l D.str D.str (fun x=>decide (x∉lone)) (fun Q' h=>?_) (by omega) (fun x hx K1 K0 k1 k0=>?_) hq
  ·simp only[zev,zag,hj]
   exact h
  ·simp only[zeW,List.map_cons,List.map_nil,zlw,h11]
   walk_at "px"
   refine⟨zce 8 lone,?_⟩
   rw[zle]
   by_cases hv:x∈lone
   ·simpa[hv] using k0 (by simpa using hv)
   ·simpa[hv] using k1 (by simpa using hv)
 walk_at "go"
 refine un top 6 _ _ (by omega) rfl rfl ?_
 walk_at "go"
 refine un bottom 7 _ _ (by omega) rfl rfl ?_
 walk_at "go"
 refine un2 left 9 _ _ (by omega) rfl rfl ?_
 walk_at "go"
 refine un2 right 10 _ _ (by omega) rfl rfl ?_
 clear un un2
 have pt':Pool ws (top.map (zbn lone)):=zfd pt
 have pb':Pool ws (bottom.map (zbn lone)):=zfd pb
 have ht':(top.map (zbn lone)).length=W:=by simpa using ht
 have hb':(bottom.map (zbn lone)).length=W:=by simpa using hb
 have lo':(left.filter fun x=>decide (x∉lone)).Pairwise ltS:=(ze8 lf4 lf2).sublist List.filter_sublist
 have ro':(right.filter fun x=>decide (x∉lone)).Pairwise ltS:=(ze8 rt4 rt2).sublist List.filter_sublist
 have lw':∀w∈(left.filter fun x=>decide (x∉lone)),w∈ws:=fun w h=>lf3 w (List.mem_filter.mp h).1
 have rw':∀w∈(right.filter fun x=>decide (x∉lone)),w∈ws:=fun w h=>rt3 w (List.mem_filter.mp h).1
 have ll':(left.filter fun x=>decide (x∉lone)).length≤8:=Nat.le_trans (List.length_filter_le _ _) lf1
 have rl':(right.filter fun x=>decide (x∉lone)).length≤8:=Nat.le_trans (List.length_filter_le _ _) rt1
 generalize top.map (zbn lone)=top' at *
 generalize bottom.map (zbn lone)=bottom' at *
 generalize (left.filter fun x=>decide (x∉lone))=left' at *
 generalize (right.filter fun x=>decide (x∉lone))=right' at *
 walk_at "go"
 refine⟨by omega,?_⟩
 walk_at "go"
 refine ziS (fun ds=>∃ss:List Str,ss.Perm ws∧sortedS ss=true∧ds=zdv (ss.map .str)) (fun Q' h=>?_) ?_
 ·walk_at "px"
  simp only[zde,zct]
  refine⟨by have:=hw.len;omega,fun ss hp hs=>?_⟩
  walk_at "px"
  exact h _ ⟨ss,hp,hs,rfl⟩
 rintro _ ⟨ss,hp,hs,rfl⟩
 have ssl:ss.length=8:=by rw[hp.length_eq];exact hw.len
 have sso:ss.Pairwise ltS:=ze8 hs (hp.nodup_iff.mpr hw.nd)
 refine zjB ss D.str (fun i ρ=>∃(wide:List (Str×Int)) (a b c:Sl),ρ=[.fz (D.lst (List.map D.int ns)),.fz (D.int most),.fz (D.int seed),.fz (D.lst (List.map D.str ws)),.fz (D.int W),.fz (D.lst (List.map D.int (List.drop 1 ns))),.fz (D.lst (top'.map dO)),.fz (D.lst (bottom'.map dO)),.fz (D.int bits),.fz (D.lst (left'.map D.str)),.fz (D.lst (right'.map D.str)),.fz (D.lst (lone.map D.str)),.ow (wide.map dWp),a,b,c,.un,.un]∧List.Sublist (wide.map (·.1)) (ss.take i)∧(∀p∈wide,(p.2=2∨p.2=3)∧1<cntN top' bottom' left' right' p.1)) ⟨[],_,_,_,rfl,by simp,by simp⟩ ?_ ?_
 ·rintro i x ρ hx ⟨wide,a,b,c,rfl,sub,wo⟩
  have hi:i<8:=by have:=(List.getElem?_eq_some_iff.mp hx).1;omega
  have tk:ss.take (i+1)=ss.take i++[x]:=by rw[List.take_add_one,hx];rfl
  have hwl:wide.length≤8:=by have:=sub.length_le;simp at this;omega
  walk_at "px"
  refine⟨_,_,rfl,by omega,by omega,?_⟩
  generalize znW _ _=one
  walk_at "go"
  have skip:∃(wide':List (Str×Int)) (a' b' c':Sl),[Sl.fz (D.lst (List.map D.int ns)),.fz (D.int most),.fz (D.int seed),.fz (D.lst (List.map D.str ws)),.fz (D.int W),.fz (D.lst (List.map D.int (List.drop 1 ns))),.fz (D.lst (top'.map dO)),.fz (D.lst (bottom'.map dO)),.fz (D.int bits),.fz (D.lst (left'.map D.str)),.fz (D.lst (right'.map D.str)),.fz (D.lst (lone.map D.str)),.ow (wide.map dWp),.fz (D.int i),.fz (D.str x),.fz (D.int one),.un,.un]=[Sl.fz (D.lst (List.map D.int ns)),.fz (D.int most),.fz (D.int seed),.fz (D.lst (List.map D.str ws)),.fz (D.int W),.fz (D.lst (List.map D.int (List.drop 1 ns))),.fz (D.lst (top'.map dO)),.fz (D.lst (bottom'.map dO)),.fz (D.int bits),.fz (D.lst (left'.map D.str)),.fz (D.lst (right'.map D.str)),.fz (D.lst (lone.map D.str)),.ow (wide'.map dWp),a',b',c',.un,.un]∧List.Sublist (wide'.map (·.1)) (ss.take (i+1))∧(∀p∈wide',(p.2=2∨p.2=3)∧1<cntN top' bottom' left' right' p.1):=
   ⟨wide,_,_,_,rfl,by rw[tk];exact sub.trans (List.sublist_append_left _ _),wo⟩
  split
  ·refine⟨top',bottom',left',right',x,rfl,by omega,?_⟩
   walk_at "px"
   split
   ·rename_i hc
    have e2:one/4%2=0∨one/4%2=1:=by omega
    refine⟨by omega,by simp;omega,wide++[(x,2+one/4%2)],_,_,_,by rw[List.map_append];rfl,?_,fun p hp=>?_⟩
    ·rw[tk,List.map_append]
     exact sub.append (List.Sublist.refl _)
    ·rcases List.mem_append.mp hp with h | h
     ·exact wo p h
     ·have:p=(x,2+one/4%2):=by simpa using h
      subst this
      exact⟨by dsimp only;omega,by dsimp only;omega⟩
   ·exact skip
  ·exact skip
 rintro ρ ⟨wide,a,b,c,rfl,sub,wo⟩
 rw[List.take_length] at sub
 have hwl:wide.length≤8:=by have:=sub.length_le;simp at this;omega
 have wo2:(wide.map (·.1)).Pairwise ltS:=sso.sublist sub
 have ww:∀p∈wide,p.1∈ws∧(p.2=2∨p.2=3)∧1<cntN top' bottom' left' right' p.1:=fun p h=>⟨hp.subset (sub.subset (List.mem_map_of_mem h)),wo p h⟩
 walk_at "go"
 refine⟨by omega,top',bottom',left',right',ws,ns.drop 1,seed,rfl,by omega,by omega,by omega,by omega,hw.len,pt',by simp;omega,fun bends bo=>?_⟩
 walk_at "go"
 refine⟨by omega,?_⟩
 have fin:∀keeps,KeepsOK W keeps→Qr (R.ow [dP top',dP bottom',dS left',dS right',dW wide,dB bends,dK keeps]):=fun keeps ko=>q ⟨top',bottom',left',right',wide,bends,keeps⟩ ⟨by dsimp only;omega,by dsimp only;omega,by dsimp only;omega,pt',pb',ll',lw',lo',rl',rw',ro',cnt',hwl,wo2,ww,bo,by dsimp only;rw[ht'];exact ko⟩
 walk_at "go"
 split
 ·refine⟨W,ns.drop 1,seed,rfl,by omega,by omega,fun keeps ko=>?_⟩
  walk_at "go"
  exact⟨by omega,fin keeps ko⟩
 ·walk_at "go"
  exact⟨by omega,fin [] ⟨by simp,by simp⟩⟩
end Wc
namespace Wc
open PySem L2 PyProof.Rows
noncomputable def zcu:SpD:=fun ds Q=>∃a b c d e f g:List D,ds=[.lst a,.lst b,.lst c,.lst d,.lst e,.lst f,.lst g]∧Q (.fz (.obj "Channel" [("top",.lst a),("bottom",.lst b),("left",.lst c),("right",.lst d),("wide",.lst e),("bends",.lst f),("keeps",.lst g)]))
noncomputable def zdG:TI0:=(zl8 "top" (dCB zdB (zad (zag 1) zap)) (zl8 "bottom" (dCB zdB (zad (zag 2) zap)) (zl8 "left" (dCB zdB (zad (zag 3) zap)) (zl8 "right" (dCB zdB (zad (zag 4) zap)) (zl8 "wide" (dCB zdB (zad (zag 5) zap)) (zl8 "bends" (dCB zdB (zad (zag 6) zap)) (zl8 "keeps" (dCB zdB (zad (zag 7) zap)) zqm)))))))
theorem zhB(ds:List D)(Qr:R→Prop)(NA:List (Str×D)→Prop)(na:∀fs:List (Str×D),fs.map (·.1)=(["top","bottom","left","right","wide","bends","keeps"]:List Str)→NA fs)(h:zcu ds Qr) :
  zdG (zeo ["self","top","bottom","left","right","wide","bends","keeps"] ds) [] fun fs=>NA fs∧Qr (.fz (.obj "Channel" fs)):=by
 obtain⟨a,b,c,d,e,f,g,rfl,q⟩:=h
 show zdG [.un,.fz (.lst a),.fz (.lst b),.fz (.lst c),.fz (.lst d),.fz (.lst e),.fz (.lst f),.fz (.lst g)] [] _
 unfold zdG
 simp only[zl8,zqm,dCB,zad,zap,zag,gt,zdB,zen,ziA]
 exact⟨by decide,show 1<1000 by decide,show 2<1000 by decide,show 3<1000 by decide,show 4<1000 by decide,show 5<1000 by decide,show 6<1000 by decide,na _ rfl,q⟩
end Wc
namespace Wc
open PySem L2 PyProof.Rows
end Wc
open PySem L2 PyProof.Rows Wc
local macro_rules | `(tactic| walk_at "px")=>`(tactic| (repeat(first | walk_at "b" | simp only[zmi,ziR,zbL,zf8,zpe,zle,zjI,zkW,zkX,zeq,zof,zl0,zpP,zlb])))
namespace Wc
open PySem L2 PyProof.Rows
inductive En where
 | lf | tp (n:Nat) | bt (n:Nat) | rt
noncomputable def dE:En→D
 | .lf=>.tup [.str "left"]
 | .tp n=>.tup [.str "top",.int n]
 | .bt n=>.tup [.str "bottom",.int n]
 | .rt=>.tup [.str "right"]
noncomputable def zcJ(c:Chan)(w:Str)(n:Nat):List En:=(if c.top[n]?=some (some w) then [.tp n] else [])++(if c.bottom[n]?=some (some w) then [.bt n] else [])
noncomputable def zfe(c:Chan)(w:Str):List En:=(if w∈c.left then [.lf] else [])++(List.range c.top.length).flatMap (zcJ c w)++(if w∈c.right then [.rt] else [])
theorem zjE(c:Chan)(w:Str)(n:Nat):(zcJ c w n).length≤2:=by unfold zcJ;split<;>split<;>simp
theorem zgG(c:Chan)(w:Str)(i:Nat):((List.range i).flatMap (zcJ c w)).length≤2*i:=by
 induction i with
 | zero=>simp
 | succ i ih=>
  rw[List.range_succ,List.flatMap_append,List.length_append]
  have:=zjE c w i
  simp only[List.flatMap_cons,List.flatMap_nil,List.append_nil]
  omega
structure ShCh (c:Chan):Prop where
 w:c.top.length≤40
 b:c.bottom.length=c.top.length
 l:c.left.length≤100
 r:c.right.length≤100
noncomputable def zcv:SpD:=fun ds Q=>∃(c:Chan) (w:Str),ds=[c.obj,.str w]∧ShCh c∧Q (.ow ((zfe c w).map dE))
noncomputable def zff:TX:=(zaF (zhe 2 (zc7 zap))
 (zaF (xIf (za4 (dOp (zgi false) (zag 1) (zeZ "left" (zag 0)))) (zeU 2 (zdQ (zad (dC (.str "left")) zap))) zcL)
 (zaF (zeV (zdc (zad (dCB zhR (zad (zeZ "top" (zag 0)) zap)) zap)) (zao 3) (zaF (xIf (za4 (dOp oEq (dOp oIx (zeZ "top" (zag 0)) (zag 3)) (zag 1))) (zeU 2 (zdQ (zad (dC (.str "top")) (zad (zag 3) zap)))) zcL)
 (xIf (za4 (dOp oEq (dOp oIx (zeZ "bottom" (zag 0)) (zag 3)) (zag 1))) (zeU 2 (zdQ (zad (dC (.str "bottom")) (zad (zag 3) zap)))) zcL)))
 (zaF (xIf (za4 (dOp (zgi false) (zag 1) (zeZ "right" (zag 0)))) (zeU 2 (zdQ (zad (dC (.str "right")) zap))) zcL)
 (zdT 2)))))
theorem zhC(ds:List D)(Qr:R→Prop)(hl:ds.length=2)(h:zcv ds Qr):zff { nx:=fun _=>Qr (.fz .non),rt:=Qr } (zaH ["channel","name","ends","column"] ds):=by
 obtain⟨c,w,rfl,sh,q⟩:=h
 show zff _ [.fz c.obj,.fz (.str w),.un,.un]
 unfold zff
 have big:=zaL
 unfold Chan.obj
 walk_at "px"
 refine⟨by omega,?_⟩
 walk_at "go"
 refine⟨_,rfl,?_⟩
 unfold dS
 walk_at "px"
 refine⟨zce 8 _,?_⟩
 have obj:D.obj (Str.ofString "Channel") [(Str.ofString "top",dP c.top),(Str.ofString "bottom",dP c.bottom),(Str.ofString "left",D.lst (c.left.map D.str)),(Str.ofString "right",D.lst (c.right.map D.str)),(Str.ofString "wide",dW c.wide),(Str.ofString "bends",dB c.bends),(Str.ofString "keeps",dK c.keeps)]=c.obj:=rfl
 rw[obj]
 have zes:∀k:Sl,zlx (zaF (zeV (zdc (zad (dCB zhR (zad (zeZ "top" (zag 0)) zap)) zap)) (zao 3) (zaF (xIf (za4 (dOp oEq (dOp oIx (zeZ "top" (zag 0)) (zag 3)) (zag 1))) (zeU 2 (zdQ (zad (dC (.str "top")) (zad (zag 3) zap)))) zcL)
 (xIf (za4 (dOp oEq (dOp oIx (zeZ "bottom" (zag 0)) (zag 3)) (zag 1))) (zeU 2 (zdQ (zad (dC (.str "bottom")) (zad (zag 3) zap)))) zcL)))
 (zaF (xIf (za4 (dOp (zgi false) (zag 1) (zeZ "right" (zag 0)))) (zeU 2 (zdQ (zad (dC (.str "right")) zap))) zcL)
 (zdT 2))) { nx:=fun x=>Qr (R.fz D.non),rt:=Qr } [.fz c.obj,.fz (.str w),.ow ((if w∈c.left then [En.lf] else []).map dE),k]:=by
  intro k
  walk_at "go"
  refine zbI c.top.length (fun Q' h=>?_) (fun i ρ=>∃k:Sl,ρ=[.fz c.obj,.fz (.str w),.ow (((if w∈c.left then [En.lf] else [])++(List.range i).flatMap (zcJ c w)).map dE),k]) ⟨k,by simp⟩ ?_ ?_
  ·unfold Chan.obj
   walk_at "px"
   refine⟨_,rfl,?_⟩
   unfold dP
   walk_at "px"
   rw[List.length_map]
   have:=sh.w
   exact⟨by omega,by omega,by simpa using h⟩
  ·rintro i ρ hi ⟨k,rfl⟩
   have hle:=zgG c w i
   have hw:=sh.w
   have hl0:∀(b:Prop) [Decidable b],(if b then [En.lf] else []).length≤1:=fun b _=>by split<;>simp
   have hl1:=hl0 (w∈c.left)
   rw[List.range_succ,List.flatMap_append,←List.append_assoc]
   generalize hacc:(if w∈c.left then [En.lf] else [])++(List.range i).flatMap (zcJ c w)=acc
   have hal:acc.length≤1000:=by rw[←hacc,List.length_append];omega
   simp only[List.flatMap_cons,List.flatMap_nil,List.append_nil]
   have hib:i<c.bottom.length:=by rw[sh.b];exact hi
   unfold Chan.obj
   walk_at "px"
   refine⟨_,rfl,?_⟩
   unfold dP
   walk_at "px"
   refine⟨_,za3 hi,?_⟩
   unfold zcJ
   rw[List.getElem?_eq_getElem hi,List.getElem?_eq_getElem hib]
   simp only[Option.some.injEq]
   split
   focus refine⟨by omega,by simp;omega,?_⟩
   all_goals
    walk_at "go"
    refine⟨_,rfl,?_⟩
    walk_at "px"
    refine⟨_,za3 hib,?_⟩
    split
   ·exact⟨by omega,by simp;omega,_,by simp[dE];rfl⟩
   ·exact⟨_,by simp[dE];rfl⟩
   ·exact⟨by omega,by simp;omega,_,by simp[dE];rfl⟩
   ·exact⟨_,by simp;rfl⟩
  ·rintro ρ ⟨k,rfl⟩
   have hle:=zgG c w c.top.length
   have hw:=sh.w
   have hl0:∀(b:Prop) [Decidable b],(if b then [En.lf] else []).length≤1:=fun b _=>by split<;>simp
   have hl1:=hl0 (w∈c.left)
   unfold zfe at q
   generalize hacc:(if w∈c.left then [En.lf] else [])++(List.range c.top.length).flatMap (zcJ c w)=acc at q ⊢
   have hal:acc.length≤1000:=by rw[←hacc,List.length_append];omega
   unfold Chan.obj
   walk_at "go"
   refine⟨_,rfl,?_⟩
   unfold dS
   walk_at "px"
   refine⟨zce 8 _,?_⟩
   by_cases hr:w∈c.right
   ·rw[if_pos hr]
    rw[if_pos hr,List.map_append] at q
    refine⟨by omega,by simp;omega,?_⟩
    walk_at "go"
    exact q
   ·rw[if_neg hr]
    rw[if_neg hr,List.append_nil] at q
    walk_at "go"
    exact q
 by_cases hc:w∈c.left
 ·rw[if_pos hc]
  refine⟨by omega,by omega,?_⟩
  have:=zes .un
  rw[if_pos hc] at this
  exact this
 ·rw[if_neg hc]
  have:=zes .un
  rw[if_neg hc] at this
  exact this
end Wc
namespace Wc
open PySem L2 PyProof.Rows
noncomputable def zjK(c:Chan):En→Int
 | .lf=>-1
 | .tp n=>n
 | .bt n=>n
 | .rt=>c.top.length
noncomputable def zbQ:SpD:=fun ds Q=>∃(c:Chan) (e:En),ds=[c.obj,dE e]∧Q (.fz (.int (zjK c e)))
noncomputable def zdm:TX:=(zaF (xIf (za4 (dOp oEq (dOp oIx (zag 1) (dC (.int 0))) (dC (.str "left")))) (zcI (zod (dC (.int 1)))) zcL)
 (zaF (xIf (za4 (dOp oEq (dOp oIx (zag 1) (dC (.int 0))) (dC (.str "right")))) (zcI (dCB zhR (zad (zeZ "top" (zag 0)) zap))) zcL)
 (zcI (dOp oIx (zag 1) (dC (.int 1))))))
theorem zfK(ds:List D)(Qr:R→Prop)(hl:ds.length=2)(h:zbQ ds Qr):zdm { nx:=fun _=>Qr (.fz .non),rt:=Qr } (zaH ["channel","end"] ds):=by
 obtain⟨c,e,rfl,q⟩:=h
 show zdm _ [.fz c.obj,.fz (dE e)]
 unfold zdm
 have n1:¬(Str.ofString "top"=Str.ofString "left"):=by decide +kernel
 have n2:¬(Str.ofString "bottom"=Str.ofString "left"):=by decide +kernel
 have n3:¬(Str.ofString "right"=Str.ofString "left"):=by decide +kernel
 have n4:¬(Str.ofString "top"=Str.ofString "right"):=by decide +kernel
 have n5:¬(Str.ofString "bottom"=Str.ofString "right"):=by decide +kernel
 cases e with
 | lf=>
  unfold dE
  walk_at "px"
  refine⟨_,rfl,?_⟩
  walk_at "px"
  exact q
 | tp n=>
  unfold dE
  walk_at "px"
  refine⟨_,rfl,?_⟩
  walk_at "px"
  rw[if_neg n1]
  walk_at "go"
  refine⟨_,rfl,?_⟩
  walk_at "px"
  rw[if_neg n4]
  walk_at "go"
  exact⟨_,rfl,q⟩
 | bt n=>
  unfold dE
  walk_at "px"
  refine⟨_,rfl,?_⟩
  walk_at "px"
  rw[if_neg n2]
  walk_at "go"
  refine⟨_,rfl,?_⟩
  walk_at "px"
  rw[if_neg n5]
  walk_at "go"
  exact⟨_,rfl,q⟩
 | rt=>
  unfold dE
  walk_at "px"
  refine⟨_,rfl,?_⟩
  walk_at "px"
  rw[if_neg n3]
  walk_at "go"
  refine⟨_,rfl,?_⟩
  walk_at "px"
  unfold Chan.obj
  walk_at "px"
  refine⟨_,rfl,?_⟩
  unfold dP
  walk_at "px"
  rw[List.length_map]
  exact q
noncomputable def pl(c:Chan)(w:Str):List Int:=
 (if w∈c.left then [-1] else [])++(((List.range c.top.length).filter fun n=>c.top[n]?==some (some w)||c.bottom[n]?==some (some w)).map fun(n:Nat)=>(n:Int))++(if w∈c.right then [(c.top.length:Int)] else [])
theorem zqw(c:Chan)(w:Str):(pl c w).Pairwise (·<·):=by
 unfold pl
 have hmid:∀x∈(((List.range c.top.length).filter fun n=>c.top[n]?==some (some w)||c.bottom[n]?==some (some w)).map fun(n:Nat)=>(n:Int)),0≤x∧x<c.top.length:=by
  intro x hx
  rw[List.mem_map] at hx
  obtain⟨n,hn,rfl⟩:=hx
  rw[List.mem_filter,List.mem_range] at hn
  omega
 have hup:(((List.range c.top.length).filter fun n=>c.top[n]?==some (some w)||c.bottom[n]?==some (some w)).map fun(n:Nat)=>(n:Int)).Pairwise (·<·):=by
  rw[List.pairwise_map]
  refine List.Pairwise.imp ?_ (List.Pairwise.filter _ List.pairwise_lt_range)
  intro a b h
  omega
 generalize (((List.range c.top.length).filter fun n=>c.top[n]?==some (some w)||c.bottom[n]?==some (some w)).map fun(n:Nat)=>(n:Int))=mid at hmid hup
 rw[List.pairwise_append,List.pairwise_append]
 refine⟨⟨by split<;>simp,hup,fun a ha b hb=>?_⟩,by split<;>simp,fun a ha b hb=>?_⟩
 ·split at ha
  ·have:=hmid b hb;simp at ha;omega
  ·cases ha
 ·split at hb
  ·rcases List.mem_append.mp ha with ha | ha
   ·split at ha
    ·simp at ha hb;omega
    ·cases ha
   ·have:=hmid a ha;simp at hb;omega
  ·cases hb
theorem zmA(c:Chan)(w:Str)(k:Int):k∈(zfe c w).map (zjK c)↔k∈pl c w:=by
 unfold zfe pl
 simp only[List.map_append,List.mem_append]
 have h1:k∈(if w∈c.left then [En.lf] else []).map (zjK c)↔k∈(if w∈c.left then [(-1:Int)] else []):=by split<;>simp[zjK]
 have h3:k∈(if w∈c.right then [En.rt] else []).map (zjK c)↔k∈(if w∈c.right then [(c.top.length:Int)] else []):=by split<;>simp[zjK]
 rw[h1,h3]
 have h2:k∈((List.range c.top.length).flatMap (zcJ c w)).map (zjK c)↔k∈(((List.range c.top.length).filter fun n=>c.top[n]?==some (some w)||c.bottom[n]?==some (some w)).map fun(n:Nat)=>(n:Int)):=by
  simp only[List.mem_map,List.mem_flatMap,List.mem_range,List.mem_filter,Bool.or_eq_true,beq_iff_eq]
  constructor
  ·rintro⟨e,⟨n,hn,he⟩,rfl⟩
   unfold zcJ at he
   rcases List.mem_append.mp he with h | h
   ·split at h
    ·rename_i ht
     simp at h
     subst h
     exact⟨n,⟨hn,.inl ht⟩,rfl⟩
    ·cases h
   ·split at h
    ·rename_i hb
     simp at h
     subst h
     exact⟨n,⟨hn,.inr hb⟩,rfl⟩
    ·cases h
  ·rintro⟨n,⟨hn,ht | hb⟩,rfl⟩
   ·exact⟨.tp n,⟨n,hn,by simp[zcJ,ht]⟩,rfl⟩
   ·exact⟨.bt n,⟨n,hn,by simp[zcJ,hb]⟩,rfl⟩
 rw[h2]
noncomputable def zps:List Int→D
 | []=>.non
 | a::r=>if a=(a::r).getLast (by simp) then .non else .tup [.int a,.int ((a::r).getLast (by simp))]
noncomputable def zbG:SpD:=fun ds Q=>∃(c:Chan) (w:Str),ds=[c.obj,.str w]∧ShCh c∧Q (.fz (zps (pl c w)))
noncomputable def zcX:TX:=(zaF (zaB 2 (za5 (zev (zaP 2 zcv (zad (zag 0) (zad (zag 1) zap)))) [none,some 0] (zao 0) zfB (zaP 2 zbQ (zad (zag 1) (zad (zag 0) zap)))))
 (zaF (xIf (za4 (dOp (oI0 fun i j=>.bl (decide (i<j))) (dCB zgr (zad (zag 2) zap)) (dC (.int 2)))) (zcI (dC .non)) zcL)
 (zcI (zdQ (zad (dCB zmW (zad (zag 2) zap)) (zad (dCB zjI (zad (zag 2) zap)) zap))))))
theorem ziV{a:Int}{r:List Int}(h:(a::r).Pairwise (·<·)):∀x∈a::r,x≤(a::r).getLast (by simp):=by
 induction r generalizing a with
 | nil=>intro x hx;simp at hx;simp[hx]
 | cons b r ih=>
  intro x hx
  rw[List.pairwise_cons] at h
  rw[List.getLast_cons (by simp)]
  rcases List.mem_cons.mp hx with rfl | hx
  ·have:=h.1 b (by simp)
   have:=ih h.2 b (by simp)
   omega
  ·exact ih h.2 x hx
theorem zfg(ds:List D)(Qr:R→Prop)(hl:ds.length=2)(h:zbG ds Qr):zcX { nx:=fun _=>Qr (.fz .non),rt:=Qr } (zaH ["channel","name","columns"] ds):=by
 obtain⟨c,w,rfl,sh,q⟩:=h
 show zcX _ [.fz c.obj,.fz (.str w),.un]
 unfold zcX
 have big:=zaL
 walk_at "px"
 have hel:(zfe c w).length≤2*c.top.length+2:=by
  unfold zfe
  simp only[List.length_append]
  have:=zgG c w c.top.length
  have a:∀(b:Prop) [Decidable b] (x:En),(if b then [x] else []).length≤1:=fun b _ x=>by split<;>simp
  have a1:=a (w∈c.left) .lf
  have a2:=a (w∈c.right) .rt
  omega
 have hw:=sh.w
 refine zbA (zfe c w) dE (fun e=>.int (zjK c e)) (fun Q' h=>?_) (by omega) (fun e he K1 k=>?_) ?_
 ·walk_at "px"
  exact⟨c,w,rfl,sh,h⟩
 ·walk_at "px"
  exact⟨c,e,rfl,k⟩
 have e0:(zfe c w).map (fun e=>D.int (zjK c e))=((zfe c w).map (zjK c)).map D.int:=by simp
 rw[e0]
 have hm:=zmA c w
 have hup:=zqw c w
 have hnd:(pl c w).Nodup:=hup.imp fun h=>by omega
 have hcl:((zfe c w).map (zjK c)).length≤1000:=by rw[List.length_map];omega
 generalize (zfe c w).map (zjK c)=cols at hm hcl ⊢
 generalize pl c w=p at hm hup hnd q ⊢
 walk_at "go"
 simp only[zgr,zbK]
 refine⟨by omega,fun l ln lm=>?_⟩
 have hperm:l.Perm p:=(List.perm_ext_iff_of_nodup ln hnd).mpr fun k=>by rw[lm,hm]
 have hlen:=hperm.length_eq
 walk_at "px"
 match p,hup,hm,hlen,q with
 | [],_,_,hlen,q=>
  rw[if_pos (by rw[hlen];decide)]
  exact q
 | [a],_,_,hlen,q=>
  rw[if_pos (by rw[hlen];simp)]
  simpa[zps] using q
 | a::b::r,hup,hm,hlen,q=>
  rw[if_neg (by rw[hlen];simp only[List.length_cons];omega)]
  walk_at "go"
  simp only[zmW,zjI,zbK]
  have hne:cols≠[]:=fun z=>by have:=(hm a).mpr (by simp);rw[z] at this;cases this
  refine⟨hne,fun m hm1 hm2=>⟨hne,fun M hM1 hM2=>⟨by omega,?_⟩⟩⟩
  have em:m=a:=by
   have h1:=hm2 a ((hm a).mpr (by simp))
   have h2:=(hm m).mp hm1
   rcases List.mem_cons.mp h2 with h | h
   ·exact h
   ·have:=(List.pairwise_cons.mp hup).1 m h;omega
  have eM:M=(a::b::r).getLast (by simp):=by
   have h1:=hM2 _ ((hm _).mpr (List.getLast_mem (by simp:a::b::r≠[])))
   have h2:=ziV hup M ((hm M).mp hM1)
   omega
  have hlt:a<(a::b::r).getLast (by simp):=by
   have h1:=(List.pairwise_cons.mp hup).1 b (by simp)
   have h2:=ziV hup b (by simp)
   omega
  subst em eM
  simp only[zps] at q
  rw[if_neg (by omega)] at q
  exact q
end Wc
namespace Wc
open PySem L2 PyProof.Rows
noncomputable def memN(c:Chan)(w:Str):Prop:=some w∈c.top∨some w∈c.bottom∨w∈c.left∨w∈c.right
noncomputable def zb1:SpD:=fun ds Q=>∃(c:Chan) (ws:List Str),ds=[c.obj]∧ShCh c∧ws.length≤40∧(∀w,memN c w→w∈ws)∧∀l:List Str,l.Nodup→(∀w,w∈l↔memN c w)→sortedS l=true→Q (.ow (l.map D.str))
noncomputable def zfh:TX:=(zaF (zaB 1 (za5 (zev (dOp zb9 (zeZ "top" (zag 0)) (zeZ "bottom" (zag 0)))) [none] (zao 0) (za4 (dOp (zel true) (zag 0) (dC .non))) (zag 0)))
 (zcI (dCB zc2 (zad (dOp zb9 (dOp zb9 (zag 1) (zeZ "left" (zag 0))) (zeZ "right" (zag 0))) zap))))
theorem zfi{l ws:List Str}(nd:l.Nodup)(h:∀w∈l,w∈ws):l.length≤ws.length:=by
 induction l generalizing ws with
 | nil=>simp
 | cons a r ih=>
  rw[List.nodup_cons] at nd
  have ha:a∈ws:=h a (by simp)
  have:=ih (ws:=ws.erase a) nd.2 fun w hw=>(List.mem_erase_of_ne fun(z:w=a)=>nd.1 (z▸hw)).mpr (h w (by simp[hw]))
  rw[List.length_erase_of_mem ha] at this
  have hp:0<ws.length:=List.length_pos_of_mem ha
  simp only[List.length_cons]
  omega
theorem zhD(ds:List D)(Qr:R→Prop)(hl:ds.length=1)(h:zb1 ds Qr):zfh { nx:=fun _=>Qr (.fz .non),rt:=Qr } (zaH ["channel","pins"] ds):=by
 obtain⟨c,ws,rfl,sh,hws,hm,q⟩:=h
 show zfh _ [.fz c.obj,.un]
 unfold zfh Chan.obj
 have big:=zaL
 have hw:=sh.w
 have hb:=sh.b
 walk_at "px"
 refine zaW (c.top++c.bottom) dO dO (fun x=>x.isSome) (fun Q' h=>?_) (by simp;omega) (fun x hx K1 K0 k1 k0=>?_) ?_
 ·walk_at "px"
  refine⟨_,rfl,_,rfl,?_⟩
  unfold dP
  walk_at "px"
  refine⟨by simp;omega,?_⟩
  rw[List.map_append] at h
  exact h
 ·walk_at "px"
  cases x with
  | none=>exact k0 rfl
  | some x=>exact k1 rfl
 have e0:∀L:List (Option Str),((L.filter fun x=>x.isSome).map dO)=(L.filterMap id).map D.str:=by
  intro L
  induction L with
  | nil=>rfl
  | cons a r ih=>cases a<;>simp_all[dO]
 rw[e0]
 have hpl:((c.top++c.bottom).filterMap id).length≤100:=by
  refine Nat.le_trans (List.length_filterMap_le _ _) ?_
  simp;omega
 have hpm:∀w,w∈(c.top++c.bottom).filterMap id↔some w∈c.top∨some w∈c.bottom:=by
  intro w
  simp[List.mem_filterMap]
 generalize (c.top++c.bottom).filterMap id=pins at hpl hpm ⊢
 walk_at "go"
 refine⟨_,rfl,?_⟩
 unfold dS
 walk_at "px"
 have hlf:=sh.l
 have hrt:=sh.r
 refine⟨by simp;omega,_,rfl,?_⟩
 walk_at "px"
 refine⟨by simp;omega,?_⟩
 rw[←List.map_append,←List.map_append]
 simp only[zc2,zct]
 have mm:∀w,w∈pins++c.left++c.right↔memN c w:=by
  intro w
  simp only[List.mem_append,hpm,memN]
  constructor
  ·rintro(((h | h) | h) | h)
   ·exact .inl h
   ·exact .inr (.inl h)
   ·exact .inr (.inr (.inl h))
   ·exact .inr (.inr (.inr h))
  ·rintro(h | h | h | h)
   ·exact .inl (.inl (.inl h))
   ·exact .inl (.inl (.inr h))
   ·exact .inl (.inr h)
   ·exact .inr h
 refine⟨by simp;omega,fun l nd h=>?_,fun l nd h hs=>q l nd (fun w=>by rw[h,mm]) hs⟩
 have:=zfi nd fun w hw=>hm w ((mm w).mp (h w hw))
 omega
noncomputable def zmB:List (Str×Int)→Str→Int
 | [],_=>1
 | p::r,w=>if p.1=w then p.2 else zmB r w
noncomputable def zbM:SpD:=fun ds Q=>∃(c:Chan) (w:Str),ds=[c.obj,.str w]∧Q (.fz (.int (zmB c.wide w)))
noncomputable def zd7:TX:=(zaF (zeV (zev (zeZ "wide" (zag 0))) (zdu 2 (zaC (zao 2) (zaC (zao 3) zc4))) (xIf (za4 (dOp oEq (zag 2) (zag 1))) (zcI (zag 3)) zcL))
 (zcI (dC (.int 1))))
theorem zgH(ds:List D)(Qr:R→Prop)(hl:ds.length=2)(h:zbM ds Qr):zd7 { nx:=fun _=>Qr (.fz .non),rt:=Qr } (zaH ["channel","name","wide_name","width"] ds):=by
 obtain⟨c,w,rfl,q⟩:=h
 show zd7 _ [.fz c.obj,.fz (.str w),.un,.un]
 unfold zd7
 walk_at "px"
 refine zdA c.wide dWp (fun Q' h=>?_) (fun i ρ=>∃a b:Sl,ρ=[.fz c.obj,.fz (.str w),a,b]∧zmB c.wide w=zmB (c.wide.drop i) w) ⟨_,_,rfl,rfl⟩ ?_ ?_
 ·unfold Chan.obj
  walk_at "px"
  exact⟨_,rfl,h⟩
 ·rintro i x ρ hx ⟨a,b,rfl,hd⟩
  obtain⟨hi,hx'⟩:=List.getElem?_eq_some_iff.mp hx
  rw[List.drop_eq_getElem_cons hi,hx'] at hd
  unfold dWp
  walk_at "px"
  by_cases hw:x.1=w
  ·rw[if_pos hw]
   simp only[zmB,if_pos hw] at hd
   rw[hd] at q
   exact q
  ·rw[if_neg hw]
   simp only[zmB,if_neg hw] at hd
   exact⟨_,_,rfl,hd⟩
 ·rintro ρ ⟨a,b,rfl,hd⟩
  rw[List.drop_length] at hd
  simp only[zmB] at hd
  rw[hd] at q
  walk_at "go"
  exact q
end Wc
namespace Wc
open PySem L2 PyProof.Rows
structure Pc where
 n:Option Str
 l:Int
 r:Int
 k:Int
 deriving DecidableEq
noncomputable def dPc(p:Pc):D:=.tup [dO p.n,.int p.l,.int p.r,.int p.k]
noncomputable def dPs(ps:List Pc):D:=.lst (ps.map dPc)
noncomputable def dJ:Option Int→D
 | none=>.non
 | some i=>.int i
theorem zn3(n:Nat)(p:Pc):okE (n+1) (dPc p):=by
 intro d hd
 simp only[List.mem_cons,List.not_mem_nil,or_false] at hd
 rcases hd with rfl | rfl | rfl | rfl
 ·rw[zeq];trivial
 all_goals (rw[zd1];trivial)
theorem zn4(n:Nat)(ps:List Pc):okE (n+2) (dPs ps):=zd4 dPc ps fun p _=>zn3 n p
end Wc
namespace Wc
open PySem L2 PyProof.Rows
noncomputable def zpS(p:Pc)(c:Int):Bool:=decide (p.l≤c)&&decide (c≤p.r)
noncomputable def zly(p q:Pc):Option Int:=
 if (if q.l>p.l then q.l else p.l)>(if q.r<p.r then q.r else p.r) then none else some (if q.l>p.l then q.l else p.l)
theorem zll(p q:Pc):zly p q=if max p.l q.l≤min p.r q.r then some (max p.l q.l) else none:=by
 have h1:(if q.l>p.l then q.l else p.l)=max p.l q.l:=by split<;>omega
 have h2:(if q.r<p.r then q.r else p.r)=min p.r q.r:=by split<;>omega
 unfold zly
 rw[h1,h2]
 by_cases h:max p.l q.l≤min p.r q.r
 ·rw[if_neg (by omega),if_pos h]
 ·rw[if_pos (by omega),if_neg h]
end Wc
namespace Wc
open PySem L2 PyProof.Rows
noncomputable def zbR:SpD:=fun ds Q=>∃p q:Pc,ds=[dPc p,dPc q]∧Q (.fz (dJ (zly p q)))
noncomputable def zdn:TX:=(zaF (zaB 2 (dCB zjI (zad (dOp oIx (zag 0) (dC (.int 1))) (zad (dOp oIx (zag 1) (dC (.int 1))) zap))))
 (zaF (xIf (za4 (dOp (oI0 fun i j=>.bl (decide (j<i))) (zag 2) (dCB zmW (zad (dOp oIx (zag 0) (dC (.int 2))) (zad (dOp oIx (zag 1) (dC (.int 2))) zap))))) (zcI (dC .non)) zcL)
 (zcI (zag 2))))
theorem zfL(ds:List D)(Qr:R→Prop)(hl:ds.length=2)(h:zbR ds Qr):zdn { nx:=fun _=>Qr (.fz .non),rt:=Qr } (zaH ["one","other","column"] ds):=by
 obtain⟨p,q,rfl,Q⟩:=h
 show zdn _ [.fz (dPc p),.fz (dPc q),.un]
 unfold zdn dPc
 walk_at "px"
 refine⟨_,rfl,_,rfl,?_⟩
 simp only[zjI,zen,zl4]
 walk_at "go"
 refine⟨_,rfl,_,rfl,?_⟩
 unfold zmW
 walk_at "px"
 unfold zly at Q
 generalize (if q.l>p.l then q.l else p.l)=a at Q ⊢
 generalize (if q.r<p.r then q.r else p.r)=b at Q ⊢
 by_cases h:b<a
 ·rw[if_pos h] at Q
  rw[if_pos h]
  exact Q
 ·rw[if_neg h] at Q
  rw[if_neg h]
  walk_at "go"
  exact Q
end Wc
namespace Wc
open PySem L2 PyProof.Rows
theorem zlm:∀a b:List Int,HT.lexGt a b=false→a≠b→HT.lexGt b a=true
 | [],[],_,h=>absurd rfl h
 | [],_::_,_,_=>rfl
 | _::_,[],h,_=>by cases h
 | x::xs,y::ys,h,hne=>by
  unfold HT.lexGt at h ⊢
  by_cases e:x=y
  ·subst e
   simp only[if_true] at h ⊢
   exact zlm xs ys h fun z=>hne (by rw[z])
  ·have e2:¬y=x:=fun z=>e z.symm
   simp[e] at h
   simp[e2];omega
theorem zhE{α:Type}(f:α→List Int):∀L:List α,zc5 (L.map fun a=>D.tup ((f a).map D.int))=some (L.map f)
 | []=>rfl
 | a::L=>by
  rw[List.map_cons,List.map_cons]
  unfold zc5
  rw[zbK,zhE f L]
theorem zpt{a b c:List Int}(h1:HT.lexGt b a=true)(h2:HT.lexGt c b=true):HT.lexGt c a=true:=by
 cases h:HT.lexGt c a with
 | true=>rfl
 | false=>
  have:=HT.lexGt_tr b c a (HT.lexGt_as c b h2) h
  rw[h1] at this;cases this
theorem zmC{α:Type}(f:α→List Int){a b:List α}(ha:a.Pairwise fun x y=>HT.lexGt (f y) (f x)=true)(hb:b.Pairwise fun x y=>HT.lexGt (f y) (f x)=true)(hm:∀x,x∈a↔x∈b):a=b:=by
 have irr:∀x:α,¬HT.lexGt (f x) (f x)=true:=fun x h=>by rw[HT.lexGt_irr] at h;cases h
 have na:a.Nodup:=List.Pairwise.imp (S:=(·≠·)) (fun{x y} h e=>irr x (by rw[←e] at h;exact h)) ha
 have nb:b.Nodup:=List.Pairwise.imp (S:=(·≠·)) (fun{x y} h e=>irr x (by rw[←e] at h;exact h)) hb
 have hp:a.Perm b:=(List.perm_ext_iff_of_nodup na nb).mpr hm
 exact hp.eq_of_pairwise (fun x y _ _ h1 h2=>absurd (zpt h1 h2) (irr x)) ha hb
end Wc
namespace Wc
open PySem L2 PyProof.Rows
noncomputable def atF(ps:List Pc)(n:Option Str)(c:Int):List Nat:=(ps.zipIdx.filter fun p=>decide (p.1.n=n)&&zpS p.1 c).map (·.2)
noncomputable def zbu:SpD:=fun ds Q=>∃(ps:List Pc) (n:Option Str) (c:Int),ds=[dPs ps,dO n,.int c]∧ps.length≤100000∧Q (.ow ((atF ps n c).map dN))
noncomputable def zdo:TX:=(zcI (za5 (zfA (zad (zag 0) zap)) [none,none,some 1,some 2] (zdu 2 (zaC (zao 0) (zaC (zao 1) zc4))) (zhb (za4 (dOp oEq (dOp oIx (zag 1) (dC (.int 0))) (zag 2))) (za4 (zhd (oI0 fun i j=>.bl (decide (i≤j))) (oI0 fun i j=>.bl (decide (i≤j))) (dOp oIx (zag 1) (dC (.int 1))) (zag 3) (dOp oIx (zag 1) (dC (.int 2)))))) (zag 0)))
theorem zfM(ds:List D)(Qr:R→Prop)(hl:ds.length=3)(h:zbu ds Qr):zdo { nx:=fun _=>Qr (.fz .non),rt:=Qr } (zaH ["pieces","name","column"] ds):=by
 obtain⟨ps,n,c,rfl,hn,q⟩:=h
 show zdo _ [.fz (dPs ps),.fz (dO n),.fz (.int c)]
 unfold zdo dPs
 have big:=zaL
 walk_at "px"
 refine zaW ps.zipIdx (fun p=>.tup [.int (p.2:Nat),dPc p.1]) (fun p=>dN p.2) (fun p=>decide (p.1.n=n)&&zpS p.1 c) (fun Q' h=>?_) (by simp;omega) (fun p hp K1 K0 k1 k0=>?_) ?_
 ·walk_at "px"
  rw[ziT]
  exact h
 ·unfold dPc
  walk_at "px"
  refine⟨_,rfl,?_⟩
  walk_at "px"
  unfold zpS at k1 k0
  by_cases h1:p.1.n=n
  ·rw[if_pos h1]
   refine⟨_,rfl,?_⟩
   walk_at "px"
   by_cases h2:p.1.l≤c
   ·rw[if_pos h2]
    refine⟨_,rfl,?_⟩
    walk_at "px"
    by_cases h3:c≤p.1.r
    ·rw[if_pos h3]
     exact k1 (by simp[h1,h2,h3])
    ·rw[if_neg h3]
     exact k0 (by simp[h1,h2,h3])
   ·rw[if_neg h2]
    exact k0 (by simp[h1,h2])
  ·rw[if_neg h1]
   exact k0 (by simp[h1])
 ·unfold atF at q
  rw[List.map_map] at q
  exact q
end Wc
namespace Wc
open PySem L2 PyProof.Rows
local macro_rules | `(tactic| walk_at "px")=>`(tactic| (repeat(first | walk_at "b" | simp only[zqr,zpn,zqE,zdT,znO])))
noncomputable abbrev Tr:=Nat×Nat×Int
noncomputable def dT(t:Tr):D:=.tup [.int t.1,.int t.2.1,.int t.2.2]
noncomputable def dTs(ts:List Tr):D:=.lst (ts.map dT)
noncomputable def keys(kv:List (Nat×Int)):List Nat:=kv.map (·.1)
end Wc
namespace Wc
open PySem L2 PyProof.Rows
noncomputable def zoh:List Int→Option (Int×Int)
 | []=>none
 | a::r=>if a=(a::r).getLast (by simp) then none else some (a,(a::r).getLast (by simp))
theorem zn5(p:List Int):zps p=match zoh p with | none=>.non | some q=>.tup [.int q.1,.int q.2]:=by
 cases p with
 | nil=>rfl
 | cons a r=>
  simp only[zps,zoh]
  by_cases h:a=(a::r).getLast (by simp)
  ·rw[if_pos h,if_pos h]
  ·rw[if_neg h,if_neg h]
noncomputable def zfj(c:Chan)(w:Str):List Int:=(c.bends.filter fun p=>decide (p.2=w)).map (·.1)
noncomputable def zbb:SpD:=fun ds Q=>∃(c:Chan) (w:Str),ds=[c.obj,.str w]∧c.bends.length≤100∧Q (.ow ((zfj c w).map D.int))
noncomputable def zcn:TX:=(zcI (za5 (zev (zeZ "bends" (zag 0))) [none,none,some 1] (zdu 2 (zaC (zao 0) (zaC (zao 1) zc4))) (za4 (dOp oEq (zag 1) (zag 2))) (zag 0)))
theorem zd8(ds:List D)(Qr:R→Prop)(hl:ds.length=2)(h:zbb ds Qr):zcn { nx:=fun _=>Qr (.fz .non),rt:=Qr } (zaH ["channel","name"] ds):=by
 obtain⟨c,w,rfl,hb,q⟩:=h
 show zcn _ [.fz c.obj,.fz (.str w)]
 unfold zcn
 have big:=zaL
 walk_at "px"
 refine zaW c.bends dBp (fun p=>.int p.1) (fun p=>decide (p.2=w)) (fun Q' h=>?_) (by omega) (fun p hp K1 K0 k1 k0=>?_) ?_
 ·unfold Chan.obj
  walk_at "px"
  exact⟨_,rfl,h⟩
 ·unfold dBp
  walk_at "px"
  by_cases h1:p.2=w
  ·rw[if_pos h1]
   exact k1 (by simpa using h1)
  ·rw[if_neg h1]
   exact k0 (by simpa using h1)
 ·unfold zfj at q
  rw[List.map_map] at q
  exact q
noncomputable def zpu(w:Str)(k:Int)(bs:List Int):List Pc:=(bs.zip (bs.drop 1)).map fun p=>⟨some w,p.1,p.2,k⟩
noncomputable def zmD(c:Chan)(bent:Bool)(w:Str):List Pc:=match zoh (pl c w) with
 | none=>[]
 | some p=>zpu w (zmB c.wide w) ([p.1]++(if bent then zfj c w else [])++[p.2])
noncomputable def zbg:SpD:=fun ds Q=>∃(c:Chan) (w:Str) (bent:Bool),ds=[c.obj,.str w,.bl bent]∧ShCh c∧c.bends.length≤100∧Q (.ow ((zmD c bent w).map dPc))
noncomputable def zcY:TX:=(zaF (zaB 3 (zaP 2 zbG (zad (zag 0) (zad (zag 1) zap))))
 (zaF (xIf (za4 (dOp (zel false) (zag 3) (dC .non))) (zcI (zc7 zap)) zcL)
 (zaF (zaB 4 (dIf (za4 (zag 2)) (zaP 2 zbb (zad (zag 0) (zad (zag 1) zap))) (zc7 zap)))
 (zaF (zaB 5 (dOp zb9 (dOp zb9 (zc7 (zad (dOp oIx (zag 3) (dC (.int 0))) zap)) (zag 4)) (zc7 (zad (dOp oIx (zag 3) (dC (.int 1))) zap))))
 (zaF (zaB 6 (zaP 2 zbM (zad (zag 0) (zad (zag 1) zap))))
 (zcI (za5 (zpP (zad (zag 5) (zad (dSl (zag 5) (zcs (dC (.int 1))) oNo) zap))) [none,none,some 1,some 6] (zdu 2 (zaC (zao 0) (zaC (zao 1) zc4))) zfB (zdQ (zad (zag 2) (zad (zag 0) (zad (zag 1) (zad (zag 3) zap))))))))))))
theorem zln(a b:List Int):zjg (a.map D.int) (b.map D.int)=(a.zip b).map fun p=>.tup [.int p.1,.int p.2]:=by
 unfold zjg
 rw[List.zipWith_map]
 induction a generalizing b with
 | nil=>rfl
 | cons x r ih=>cases b with
  | nil=>rfl
  | cons y s=>rw[List.zipWith_cons_cons,List.zip_cons_cons,List.map_cons,ih]
theorem zfk(ds:List D)(Qr:R→Prop)(hl:ds.length=3)(h:zbg ds Qr):zcY { nx:=fun _=>Qr (.fz .non),rt:=Qr } (zaH ["channel","name","bent","stretch","cuts","borders","width"] ds):=by
 obtain⟨c,w,bent,rfl,sh,hb,q⟩:=h
 show zcY _ [.fz c.obj,.fz (.str w),.fz (.bl bent),.un,.un,.un,.un]
 unfold zcY
 have big:=zaL
 walk_at "px"
 refine⟨c,w,rfl,sh,?_⟩
 rw[zn5]
 unfold zmD at q
 generalize zoh (pl c w)=st at q ⊢
 cases st with
 | none=>
  walk_at "go"
  exact⟨by omega,q⟩
 | some p=>
  walk_at "go"
  have hbl:(if bent then zfj c w else []).length≤100:=by
   split
   ·unfold zfj;rw[List.length_map];exact Nat.le_trans (List.length_filter_le _ _) hb
   ·simp
  have fin:∀cs:List Int,cs=(if bent then zfj c w else [])→zlx (zaF (zaB 5 (dOp zb9 (dOp zb9 (zc7 (zad (dOp oIx (zag 3) (dC (.int 0))) zap)) (zag 4)) (zc7 (zad (dOp oIx (zag 3) (dC (.int 1))) zap))))
 (zaF (zaB 6 (zaP 2 zbM (zad (zag 0) (zad (zag 1) zap))))
 (zcI (za5 (zpP (zad (zag 5) (zad (dSl (zag 5) (zcs (dC (.int 1))) oNo) zap))) [none,none,some 1,some 6] (zdu 2 (zaC (zao 0) (zaC (zao 1) zc4))) zfB (zdQ (zad (zag 2) (zad (zag 0) (zad (zag 1) (zad (zag 3) zap))))))))) { nx:=fun _=>Qr (.fz .non),rt:=Qr } [.fz c.obj,.fz (.str w),.fz (.bl bent),.fz (.tup [.int p.1,.int p.2]),.fz (.lst (cs.map D.int)),.un,.un]:=by
   intro cs hcs
   rw[←hcs] at q hbl
   walk_at "go"
   refine⟨.int p.1,rfl,by omega,by simp;omega,.int p.2,rfl,by omega,by simp;omega,?_⟩
   walk_at "go"
   refine⟨c,w,rfl,?_⟩
   walk_at "go"
   have eb:(D.int p.1::(List.map D.int cs++[D.int p.2]))=([p.1]++cs++[p.2]).map D.int:=by simp
   simp only[eb]
   have hbl2:([p.1]++cs++[p.2]).length≤102:=by simp;omega
   dsimp only at q
   generalize [p.1]++cs++[p.2]=bs at q hbl2 ⊢
   refine zbA (bs.zip (bs.drop 1)) (fun p=>.tup [.int p.1,.int p.2]) (fun p=>dPc ⟨some w,p.1,p.2,zmB c.wide w⟩) (fun Q' h=>?_) (by simp;omega) (fun x hx K1 k=>?_) ?_
   ·walk_at "px"
    rw[ze6 _ (by decide)]
    have e1:Int.toNat 1=1:=rfl
    rw[zln]
    exact h
   ·walk_at "px"
    exact⟨by omega,k⟩
   ·unfold zpu at q
    rw[List.map_map] at q
    exact q
  cases bent with
  | true=>
   walk_at "go"
   refine⟨c,w,rfl,hb,?_⟩
   exact fin _ rfl
  | false=>
   walk_at "go"
   exact⟨by omega,fin [] rfl⟩
structure Nets (c:Chan) (l:List Str):Prop where
 nd:l.Nodup
 mem:∀w,w∈l↔memN c w
 srt:sortedS l=true
noncomputable def zhF(c:Chan):List Pc:=c.keeps.map fun k=>⟨none,k.1,k.2.1,k.2.2⟩
noncomputable def zd9(c:Chan)(bent:Bool)(l:List Str):List Pc:=zhF c++l.flatMap (zmD c bent)
theorem zgI(c:Chan)(bent:Bool)(w:Str):(zmD c bent w).length≤c.bends.length+1:=by
 unfold zmD
 split
 ·simp
 ·unfold zpu
  have:(zfj c w).length≤c.bends.length:=by unfold zfj;rw[List.length_map];exact List.length_filter_le _ _
  have:(if bent then zfj c w else []).length≤c.bends.length:=by split<;>simp[*]
  simp
  omega
theorem ziW{α β:Type}(f:α→List β)(k:Nat)(h:∀a,(f a).length≤k):∀l:List α,(l.flatMap f).length≤l.length*k:=by
 intro l
 induction l with
 | nil=>simp
 | cons a r ih=>
  rw[List.flatMap_cons,List.length_append,List.length_cons,Nat.succ_mul]
  have:=h a
  omega
noncomputable def zbS:SpD:=fun ds Q=>∃(c:Chan) (bent:Bool) (ws:List Str),ds=[c.obj,.bl bent]∧ShCh c∧c.bends.length≤100∧c.keeps.length≤100∧ws.length≤40∧(∀w,memN c w→w∈ws)∧∀l,Nets c l→Q (.ow ((zd9 c bent l).map dPc))
noncomputable def zcG:TX:=(zaF (zhe 2 (za5 (zev (zeZ "keeps" (zag 0))) [none,none,none] (zdu 3 (zaC (zao 0) (zaC (zao 1) (zaC (zao 2) zc4)))) zfB (zdQ (zad (dC .non) (zad (zag 0) (zad (zag 1) (zad (zag 2) zap)))))))
 (zaF (zeV (zev (zaP 1 zb1 (zad (zag 0) zap))) (zao 3) (zof 2 (zaP 3 zbg (zad (zag 0) (zad (zag 3) (zad (zag 1) zap))))))
 (zdT 2)))
theorem zfN(ds:List D)(Qr:R→Prop)(hl:ds.length=2)(h:zbS ds Qr):zcG { nx:=fun _=>Qr (.fz .non),rt:=Qr } (zaH ["channel","bent","pieces","name"] ds):=by
 obtain⟨c,bent,ws,rfl,sh,hb,hk,hws,hm,q⟩:=h
 show zcG _ [.fz c.obj,.fz (.bl bent),.un,.un]
 unfold zcG
 have big:=zaL
 walk_at "px"
 refine zbA c.keeps dKp (fun k=>dPc ⟨none,k.1,k.2.1,k.2.2⟩) (fun Q' h=>?_) (by omega) (fun x hx K1 k=>?_) ?_
 ·unfold Chan.obj
  walk_at "px"
  exact⟨_,rfl,h⟩
 ·unfold dKp
  walk_at "px"
  exact⟨by omega,k⟩
 ·have ek:c.keeps.map (fun k=>dPc ⟨none,k.1,k.2.1,k.2.2⟩)=(zhF c).map dPc:=by unfold zhF;rw[List.map_map];rfl
  rw[ek]
  walk_at "go"
  refine ziS (fun ds=>∃l,Nets c l∧ds=l.map D.str) (fun Q' h=>?_) ?_
  ·walk_at "px"
   exact⟨c,ws,rfl,sh,hws,hm,fun l nd mem srt=>h _ ⟨l,⟨nd,mem,srt⟩,rfl⟩⟩
  rintro _ ⟨l,hN,rfl⟩
  have hll:l.length≤40:=Nat.le_trans (zfi hN.nd fun w hw=>hm w ((hN.mem w).mp hw)) hws
  refine zjA l D.str (fun i ρ=>∃a:Sl,ρ=[.fz c.obj,.fz (.bl bent),.ow ((zhF c++(l.take i).flatMap (zmD c bent)).map dPc),a]) ⟨.un,by simp⟩ ?_ ?_
  ·rintro i x ρ hx ⟨a,rfl⟩
   walk_at "px"
   refine⟨c,x,bent,rfl,sh,hb,?_⟩
   have h1:=ziW (zmD c bent) 101 (fun w=>by have:=zgI c bent w;omega) (l.take i)
   have h2:=zgI c bent x
   have h3:(zhF c).length≤100:=by unfold zhF;rw[List.length_map];exact hk
   have h4:(l.take i).length≤40:=by rw[List.length_take];omega
   refine⟨by simp only[List.length_append,List.length_map];omega,.fz (.str x),?_⟩
   rw[List.take_add_one,hx]
   simp[List.flatMap_append]
  ·rintro ρ ⟨a,rfl⟩
   walk_at "go"
   rw[List.take_length]
   exact q l hN
end Wc
namespace Wc
open PySem L2 PyProof.Rows
noncomputable def zgJ(p:Pc)(ps:List Pc):List (Nat×Option Int):=(ps.zipIdx.filter fun q=>q.1.n.isSome).map fun q=>(q.2,zly p q.1)
noncomputable def zlz(p:Pc)(ps:List Pc):List (Nat×Int):=(zgJ p ps).filterMap fun x=>x.2.map fun c=>(x.1,c)
noncomputable def zbc:SpD:=fun ds Q=>∃(p:Pc) (ps:List Pc),ds=[dPc p,dPs ps]∧ps.length≤1000∧Q (.ow ((zlz p ps).map fun x=>.tup [dN x.1,.int x.2]))
noncomputable def zco:TX:=(zaF (zaB 2 (za5 (zfA (zad (zag 1) zap)) [none,none,some 0] (zdu 2 (zaC (zao 0) (zaC (zao 1) zc4))) (za4 (dOp (zel true) (dOp oIx (zag 1) (dC (.int 0))) (dC .non))) (zdQ (zad (zag 0) (zad (zaP 2 zbR (zad (zag 2) (zad (zag 1) zap))) zap)))))
 (zcI (za5 (zev (zag 2)) [none,none] (zdu 2 (zaC (zao 0) (zaC (zao 1) zc4))) (za4 (dOp (zel true) (zag 1) (dC .non))) (zdQ (zad (zag 0) (zad (zag 1) zap))))))
theorem zea(ds:List D)(Qr:R→Prop)(hl:ds.length=2)(h:zbc ds Qr):zco { nx:=fun _=>Qr (.fz .non),rt:=Qr } (zaH ["keep","pieces","commons"] ds):=by
 obtain⟨p,ps,rfl,hn,q⟩:=h
 show zco _ [.fz (dPc p),.fz (dPs ps),.un]
 unfold zco
 have big:=zaL
 walk_at "px"
 refine zaW ps.zipIdx (fun p=>.tup [.int (p.2:Nat),dPc p.1]) (fun q=>.tup [dN q.2,dJ (zly p q.1)]) (fun q=>q.1.n.isSome) (fun Q' h=>?_) (by simp;omega) (fun x hx K1 K0 k1 k0=>?_) ?_
 ·unfold dPs
  walk_at "px"
  rw[ziT]
  exact h
 ·show zdu 2 (zaC (zao 0) (zaC (zao 1) zc4)) (.tup [.int (x.2:Nat),dPc x.1]) _ _
  walk_at "px"
  have ed:dPc x.1=.tup [dO x.1.n,.int x.1.l,.int x.1.r,.int x.1.k]:=rfl
  simp only[ed]
  refine⟨_,rfl,?_⟩
  cases hxn:x.1.n with
  | none=>simp only[dO];walk_at "px";exact k0 (by rw[hxn];rfl)
  | some w=>
   simp only[dO]
   walk_at "px"
   have e2:D.tup [D.str w,D.int x.1.l,D.int x.1.r,D.int x.1.k]=dPc x.1:=by rw[ed,hxn];rfl
   rw[e2]
   refine⟨p,x.1,rfl,?_⟩
   exact⟨by omega,k1 (by rw[hxn];rfl)⟩
 ·have e1:(ps.zipIdx.filter fun q=>q.1.n.isSome).map (fun q=>D.tup [dN q.2,dJ (zly p q.1)])=(zgJ p ps).map fun x=>.tup [dN x.1,dJ x.2]:=by unfold zgJ;rw[List.map_map];rfl
  rw[e1]
  have hcl:(zgJ p ps).length≤1000:=by
   unfold zgJ
   rw[List.length_map]
   refine Nat.le_trans (List.length_filter_le _ _) ?_
   simpa using hn
  unfold zlz at q
  generalize zgJ p ps=cs at q hcl ⊢
  walk_at "go"
  refine zh0 cs (fun x=>.tup [dN x.1,dJ x.2]) (fun x=>(x.2.map fun c=>(x.1,c)).map fun x=>.tup [dN x.1,.int x.2]) (fun Q' h=>?_) (by omega) (fun x hx K1 K0 k1 k0=>?_) ?_
  ·walk_at "px"
   exact h
  ·walk_at "px"
   cases hx2:x.2 with
   | none=>simp only[dJ];walk_at "px";exact k0 (by rw[hx2];rfl)
   | some c=>
    simp only[dJ]
    walk_at "px"
    exact⟨by omega,k1 _ (by rw[hx2];rfl)⟩
  ·rw[List.map_filterMap] at q
   exact q
theorem zlo(p:Pc)(ps:List Pc):(zlz p ps).length≤ps.length:=by
 unfold zlz zgJ
 refine Nat.le_trans (List.length_filterMap_le _ _) ?_
 rw[List.length_map]
 refine Nat.le_trans (List.length_filter_le _ _) ?_
 simp
noncomputable def zcK(ps:List Pc)(p:Pc×Nat):List Tr:=if p.1.n=none then(zlz p.1 ps).map fun x=>(p.2,x.1,x.2) else []
noncomputable def keepT(ps:List Pc):List Tr:=ps.zipIdx.flatMap (zcK ps)
theorem zgb(ps:List Pc)(p:Pc×Nat):(zcK ps p).length≤ps.length:=by
 unfold zcK
 split
 ·rw[List.length_map];exact zlo _ _
 ·simp
theorem zbd{α β:Type}(f:α→List β)(k:Nat)(h:∀a,(f a).length≤k):∀l:List α,(l.flatMap f).length≤l.length*k:=by
 intro l
 induction l with
 | nil=>simp
 | cons a r ih=>
  rw[List.flatMap_cons,List.length_append,List.length_cons,Nat.succ_mul]
  have:=h a
  omega
noncomputable def zbe:SpD:=fun ds Q=>∃ps:List Pc,ds=[dPs ps]∧ps.length≤1000∧Q (.ow ((keepT ps).map dT))
noncomputable def zcp:TX:=(zaF (zhe 1 (zc7 zap))
 (zaF (zeV (zfA (zad (zag 0) zap)) (zdu 2 (zaC (zao 2) (zaC (zao 3) zc4))) (xIf (za4 (dOp (zel false) (dOp oIx (zag 3) (dC (.int 0))) (dC .non))) (zof 1 (za5 (zev (zaP 2 zbc (zad (zag 3) (zad (zag 0) zap)))) [none,none,some 2] (zdu 2 (zaC (zao 0) (zaC (zao 1) zc4))) zfB (zdQ (zad (zag 2) (zad (zag 0) (zad (zag 1) zap)))))) zcL))
 (zdT 1)))
theorem zeb(ds:List D)(Qr:R→Prop)(hl:ds.length=1)(h:zbe ds Qr):zcp { nx:=fun _=>Qr (.fz .non),rt:=Qr } (zaH ["pieces","triples","upper","keep"] ds):=by
 obtain⟨ps,rfl,hn,q⟩:=h
 show zcp _ [.fz (dPs ps),.un,.un,.un]
 unfold zcp
 have big:=zaL
 walk_at "px"
 refine⟨by omega,?_⟩
 walk_at "go"
 refine zdF ps dPc (fun Q' h=>?_) (fun i ρ=>∃a b:Sl,ρ=[.fz (dPs ps),.ow ((((ps.zipIdx.take i).flatMap (zcK ps))).map dT),a,b]) ⟨.un,.un,by simp⟩ ?_ ?_
 ·unfold dPs
  walk_at "px"
  exact h
 ·rintro i x ρ hx ⟨a,b,rfl⟩
  have hi:i<ps.length:=(List.getElem?_eq_some_iff.mp hx).1
  have hz:ps.zipIdx[i]?=some (x,i):=by rw[List.getElem?_zipIdx,hx];simp
  have tk:ps.zipIdx.take (i+1)=ps.zipIdx.take i++[(x,i)]:=by rw[List.take_add_one,hz];rfl
  have len:=zbd (zcK ps) 1000 (fun a=>Nat.le_trans (zgb ps a) hn) (ps.zipIdx.take i)
  have l4:(ps.zipIdx.take i).length≤1000:=by rw[List.length_take];omega
  rw[tk,List.flatMap_append,List.flatMap_cons,List.flatMap_nil,List.append_nil]
  generalize (ps.zipIdx.take i).flatMap (zcK ps)=acc at len ⊢
  have ed:dPc x=.tup [dO x.n,.int x.l,.int x.r,.int x.k]:=rfl
  walk_at "px"
  simp only[ed]
  refine⟨_,rfl,?_⟩
  cases hxn:x.n with
  | some w=>
   simp only[dO]
   walk_at "px"
   refine⟨.fz (.int i),.fz (dPc x),?_⟩
   unfold zcK
   rw[if_neg (by rw[hxn];exact fun z=>nomatch z),List.append_nil,ed,hxn]
   rfl
  | none=>
   simp only[dO]
   walk_at "px"
   have e2:D.tup [D.non,D.int x.l,D.int x.r,D.int x.k]=dPc x:=by rw[ed,hxn];rfl
   rw[e2]
   have bl:=zlo x ps
   refine zbA (zlz x ps) (fun y=>.tup [dN y.1,.int y.2]) (fun y=>dT (i,y.1,y.2)) (fun Q' h=>?_) (by omega) (fun y hy K1 k=>?_) ?_
   ·walk_at "px"
    exact⟨x,ps,rfl,hn,h⟩
   ·unfold dN
    walk_at "px"
    exact⟨by omega,k⟩
   ·refine⟨by simp only[List.length_map];omega,.fz (.int i),.fz (dPc x),?_⟩
    unfold zcK
    rw[if_pos (by exact hxn),List.map_append,List.map_map]
    rfl
 ·rintro ρ ⟨a,b,rfl⟩
  walk_at "go"
  rw[show ps.length=ps.zipIdx.length by simp,List.take_length]
  exact q
noncomputable def zdp(c:Chan)(ps:List Pc)(n:Nat):List Tr:=match c.top[n]?,c.bottom[n]? with
 | some (some u),some (some v)=>if u=v then [] else(atF ps (some u) n).flatMap fun a=>(atF ps (some v) n).map fun b=>(a,b,(n:Int))
 | _,_=>[]
noncomputable def pinT(c:Chan)(ps:List Pc):List Tr:=(List.range c.top.length).flatMap (zdp c ps)
theorem zgK(ps:List Pc)(n:Option Str)(c:Int):(atF ps n c).length≤ps.length:=by
 unfold atF
 rw[List.length_map]
 refine Nat.le_trans (List.length_filter_le _ _) ?_
 simp
theorem zhG(c:Chan)(ps:List Pc)(n:Nat):(zdp c ps n).length≤ps.length*ps.length:=by
 unfold zdp
 split
 ·split
  ·simp
  ·rename_i u v _ _ _
   refine Nat.le_trans (zbd _ ps.length (fun a=>by rw[List.length_map];exact zgK _ _ _) _) ?_
   exact Nat.mul_le_mul_right _ (zgK _ _ _)
 ·simp
noncomputable def zbo:SpD:=fun ds Q=>∃(c:Chan) (ps:List Pc),ds=[c.obj,dPs ps]∧ShCh c∧ps.length≤500∧Q (.ow ((pinT c ps).map dT))
noncomputable def zcH:TX:=(zaF (zhe 2 (zc7 zap))
 (zaF (zeV (zdc (zad (dCB zhR (zad (zeZ "top" (zag 0)) zap)) zap)) (zao 3) (zaF (zaB 4 (dOp oIx (zeZ "top" (zag 0)) (zag 3)))
 (zaF (zaB 5 (dOp oIx (zeZ "bottom" (zag 0)) (zag 3)))
 (xIf (zhb (za4 (dOp (zel true) (zag 4) (dC .non))) (zhb (za4 (dOp (zel true) (zag 5) (dC .non))) (za4 (dOp oNe (zag 4) (zag 5))))) (zaF (zaB 6 (zaP 3 zbu (zad (zag 1) (zad (zag 5) (zad (zag 3) zap)))))
 (zeV (zev (zaP 3 zbu (zad (zag 1) (zad (zag 4) (zad (zag 3) zap))))) (zao 7) (zof 2 (za5 (zev (zag 6)) [none,some 7,some 3] (zao 0) zfB (zdQ (zad (zag 1) (zad (zag 0) (zad (zag 2) zap)))))))) zcL))))
 (zdT 2)))
theorem zew(ds:List D)(Qr:R→Prop)(hl:ds.length=2)(h:zbo ds Qr):zcH { nx:=fun _=>Qr (.fz .non),rt:=Qr } (zaH ["channel","pieces","triples","column","upper_name","lower_name","lowers","upper"] ds):=by
 obtain⟨c,ps,rfl,sh,hn,q⟩:=h
 show zcH _ [.fz c.obj,.fz (dPs ps),.un,.un,.un,.un,.un,.un]
 unfold zcH
 have big:=zaL
 have hw:=sh.w
 walk_at "px"
 refine⟨by omega,?_⟩
 walk_at "go"
 refine zbI c.top.length (fun Q' h=>?_) (fun i ρ=>∃a b d e f:Sl,ρ=[.fz c.obj,.fz (dPs ps),.ow (((List.range i).flatMap (zdp c ps)).map dT),a,b,d,e,f]) ⟨.un,.un,.un,.un,.un,by simp⟩ ?_ ?_
 ·unfold Chan.obj
  walk_at "px"
  refine⟨_,rfl,?_⟩
  unfold dP
  walk_at "px"
  rw[List.length_map]
  exact⟨by omega,by omega,by simpa using h⟩
 ·rintro i ρ hi ⟨a,b,d,e,f,rfl⟩
  have hib:i<c.bottom.length:=by rw[sh.b];exact hi
  have sq:ps.length*ps.length≤250000:=Nat.mul_le_mul hn hn
  have len:=zbd (zdp c ps) 250000 (fun a=>Nat.le_trans (zhG c ps a) sq) (List.range i)
  rw[List.length_range] at len
  rw[List.range_succ,List.flatMap_append,List.flatMap_cons,List.flatMap_nil,List.append_nil]
  generalize (List.range i).flatMap (zdp c ps)=acc at len ⊢
  walk_at "px"
  unfold Chan.obj
  walk_at "px"
  refine⟨_,rfl,?_⟩
  unfold dP
  walk_at "px"
  refine⟨_,za3 hi,?_⟩
  walk_at "go"
  refine⟨_,rfl,?_⟩
  walk_at "px"
  refine⟨_,za3 hib,?_⟩
  have obj:D.obj (Str.ofString "Channel") [(Str.ofString "top",D.lst (c.top.map dO)),(Str.ofString "bottom",D.lst (c.bottom.map dO)),(Str.ofString "left",dS c.left),(Str.ofString "right",dS c.right),(Str.ofString "wide",dW c.wide),(Str.ofString "bends",dB c.bends),(Str.ofString "keeps",dK c.keeps)]=c.obj:=rfl
  rw[obj]
  have pe:zdp c ps i=match c.top[i],c.bottom[i] with | some u,some v=>(if u=v then [] else(atF ps (some u) i).flatMap fun a=>(atF ps (some v) i).map fun b=>(a,b,(i:Int))) | _,_=>[]:=by
   unfold zdp
   rw[List.getElem?_eq_getElem hi,List.getElem?_eq_getElem hib]
   cases c.top[i]<;>cases c.bottom[i]<;>rfl
  generalize c.top[i]=x at pe ⊢
  generalize c.bottom[i]=y at pe ⊢
  generalize zdp c ps i=new at pe ⊢
  subst pe
  cases x with
  | none=>
   simp only[dO]
   walk_at "go"
   exact⟨_,_,_,_,_,by rw[List.append_nil]⟩
  | some u=>
   cases y with
   | none=>
    simp only[dO]
    walk_at "go"
    exact⟨_,_,_,_,_,by rw[List.append_nil]⟩
   | some v=>
    simp only[dO]
    walk_at "go"
    by_cases huv:u=v
    ·simp only[huv,decide_true,Bool.not_true,Bool.false_eq_true,if_false,if_true]
     exact⟨_,_,_,_,_,by rw[List.append_nil]⟩
    ·simp only[huv,decide_false,Bool.not_false,if_false,if_true]
     refine⟨ps,some v,i,rfl,by omega,?_⟩
     walk_at "go"
     have l1:=zgK ps (some u) i
     have l2:=zgK ps (some v) i
     have l3:=zbd (fun a=>(atF ps (some v) i).map fun b=>((a,b,(i:Int)):Tr)) 500 (fun a=>by rw[List.length_map];omega)
     generalize atF ps (some v) i=vs at l2 l3 ⊢
     refine zdA (atF ps (some u) i) dN (fun Q' h=>?_) (fun j ρ=>∃f:Sl,ρ=[.fz c.obj,.fz (dPs ps),.ow ((acc++((atF ps (some u) i).take j).flatMap fun a=>vs.map fun b=>(a,b,(i:Int))).map dT),.fz (.int i),.fz (.str u),.fz (.str v),.fz (.lst (vs.map dN)),f]) ⟨_,by rw[List.take_zero,List.flatMap_nil,List.append_nil]⟩ ?_ ?_
     ·walk_at "px"
      exact⟨ps,some u,i,rfl,by omega,h⟩
     ·rintro j x ρ hx ⟨f,rfl⟩
      have l5:=l3 ((atF ps (some u) i).take j)
      have l6:((atF ps (some u) i).take j).length≤500:=by rw[List.length_take];omega
      rw[List.take_add_one,hx,List.flatMap_append]
      generalize ((atF ps (some u) i).take j).flatMap (fun a=>vs.map fun b=>((a,b,(i:Int)):Tr))=acc2 at l5 ⊢
      unfold dN
      walk_at "px"
      refine zbA vs dN (fun b=>dT (x,b,(i:Int))) (fun Q' h=>?_) (by omega) (fun b hb K1 k=>?_) ?_
      ·walk_at "px"
       exact h
      ·unfold dN
       walk_at "px"
       exact⟨by omega,k⟩
      ·refine⟨by simp only[List.length_map,List.length_append];omega,.fz (.int x),?_⟩
       simp
     ·rintro ρ ⟨f,rfl⟩
      exact⟨_,_,_,_,_,by rw[List.take_length]⟩
 ·rintro ρ ⟨a,b,d,e,f,rfl⟩
  walk_at "go"
  exact q
noncomputable def kT(t:Tr):List Int:=[(t.1:Int),(t.2.1:Int),t.2.2]
theorem zpv{a b:Tr}(h:kT a=kT b):a=b:=by
 obtain⟨a1,a2,a3⟩:=a
 obtain⟨b1,b2,b3⟩:=b
 simp[kT] at h
 simp only[Prod.mk.injEq]
 omega
structure Above (c:Chan) (ps:List Pc) (ts:List Tr):Prop where
 pm:ts.Perm (pinT c ps++keepT ps)
 srt:ts.Pairwise fun x y=>HT.lexGt (kT x) (kT y)=false
noncomputable def zb7:SpD:=fun ds Q=>∃(c:Chan) (ps:List Pc),ds=[c.obj,dPs ps]∧ShCh c∧ps.length≤500∧∀ts,Above c ps ts→Q (.ow (ts.map dT))
noncomputable def zec:TX:=(zcI (dCB zeI (zad (dOp zb9 (zaP 2 zbo (zad (zag 0) (zad (zag 1) zap))) (zaP 1 zbe (zad (zag 1) zap))) zap)))
theorem zmE(c:Chan)(ps:List Pc)(sh:ShCh c)(hn:ps.length≤500):(pinT c ps).length≤10000000:=by
 have sq:ps.length*ps.length≤250000:=Nat.mul_le_mul hn hn
 have:=zbd (zdp c ps) 250000 (fun a=>Nat.le_trans (zhG c ps a) sq) (List.range c.top.length)
 rw[List.length_range] at this
 have:=sh.w
 unfold pinT
 omega
theorem zlp(ps:List Pc)(hn:ps.length≤500):(keepT ps).length≤250000:=by
 have:=zbd (zcK ps) 500 (fun a=>Nat.le_trans (zgb ps a) hn) ps.zipIdx
 rw[List.length_zipIdx] at this
 unfold keepT
 omega
theorem zgL(ds:List D)(Qr:R→Prop)(hl:ds.length=2)(h:zb7 ds Qr):zec { nx:=fun _=>Qr (.fz .non),rt:=Qr } (zaH ["channel","pieces"] ds):=by
 obtain⟨c,ps,rfl,sh,hn,q⟩:=h
 show zec _ [.fz c.obj,.fz (dPs ps)]
 unfold zec
 have big:=zaL
 have l1:=zmE c ps sh hn
 have l2:=zlp ps hn
 walk_at "px"
 refine⟨c,ps,rfl,sh,hn,?_⟩
 walk_at "px"
 refine⟨ps,rfl,by omega,?_⟩
 walk_at "px"
 refine⟨by simp only[List.length_append,List.length_map];omega,?_⟩
 rw[←List.map_append]
 have e:((pinT c ps++keepT ps).map dT)=(pinT c ps++keepT ps).map fun a=>D.tup ((kT a).map D.int):=rfl
 rw[e]
 simp only[zeI,zhE]
 refine⟨fun t ht=>?_,fun tss' hp hs=>?_⟩
 ·obtain⟨a,_,rfl⟩:=List.mem_map.mp ht
  simp[kT]
 ·obtain⟨ts,h1,rfl⟩:=zhw hp rfl
  rw[List.map_map]
  exact q ts ⟨h1,by rw[List.pairwise_map] at hs;exact hs⟩
end Wc
namespace Wc
open PySem L2 PyProof.Rows
noncomputable def zgR(c:Chan)(p q:Pc)(x:Int):Bool:=(p.n.isSome&&q.n.isSome&&decide (p.n≠q.n)&&decide (c.top[x.toNat]?=some p.n)&&decide (c.bottom[x.toNat]?=some q.n))||(p.n.isNone&&q.n.isSome&&decide (x=max p.l q.l))
noncomputable def loF(p q:Pc):Int:=max p.l (max q.l 0)
noncomputable def hiF(c:Chan)(p q:Pc):Int:=min p.r (min q.r (c.top.length-1))+1
noncomputable def zhH(c:Chan)(p q:Pc):List Int:=(List.range (hiF c p q-loF p q).toNat).map fun(j:Nat)=>loF p q+j
noncomputable def zgM(c:Chan)(p q:Pc×Nat):List Tr:=((zhH c p.1 q.1).filter (zgR c p.1 q.1)).map fun x=>(p.2,q.2,x)
noncomputable def zlA(c:Chan)(ps:List Pc):List Tr:=ps.zipIdx.flatMap fun p=>ps.zipIdx.flatMap (zgM c p)
theorem ziX(c:Chan)(p q:Pc)(x:Int):x∈zhH c p q↔loF p q≤x∧x<hiF c p q:=by
 unfold zhH
 simp only[List.mem_map,List.mem_range]
 constructor
 ·rintro⟨j,hj,rfl⟩;omega
 ·rintro⟨h1,h2⟩;exact⟨(x-loF p q).toNat,by omega,by omega⟩
theorem mem_idx{α:Type}{l:List α}{x:α}{i:Nat}:(x,i)∈l.zipIdx↔l[i]?=some x:=by
 rw[List.mem_zipIdx_iff_getElem?]
theorem zmF(c:Chan)(ps:List Pc)(i j:Nat)(x:Int):(i,j,x)∈zlA c ps↔∃p q,ps[i]?=some p∧ps[j]?=some q∧loF p q≤x∧x<hiF c p q∧zgR c p q x=true:=by
 unfold zlA zgM
 simp only[List.mem_flatMap,List.mem_map,List.mem_filter,ziX,Prod.mk.injEq]
 constructor
 ·rintro⟨⟨p,i'⟩,hp,⟨q,j'⟩,hq,y,⟨⟨h1,h2⟩,h3⟩,rfl,rfl,rfl⟩
  exact⟨p,q,mem_idx.mp hp,mem_idx.mp hq,h1,h2,h3⟩
 ·rintro⟨p,q,hp,hq,h1,h2,h3⟩
  exact⟨(p,i),mem_idx.mpr hp,(q,j),mem_idx.mpr hq,x,⟨⟨h1,h2⟩,h3⟩,rfl,rfl,rfl⟩
theorem zfl(ps:List Pc)(n:Option Str)(c:Int)(i:Nat):i∈atF ps n c↔∃p,ps[i]?=some p∧p.n=n∧p.l≤c∧c≤p.r:=by
 unfold atF zpS
 simp only[List.mem_map,List.mem_filter,Bool.and_eq_true,decide_eq_true_eq]
 constructor
 ·rintro⟨⟨p,i'⟩,⟨hp,h1,h2,h3⟩,rfl⟩
  exact⟨p,mem_idx.mp hp,h1,h2,h3⟩
 ·rintro⟨p,hp,h1,h2,h3⟩
  exact⟨(p,i),⟨mem_idx.mpr hp,h1,h2,h3⟩,rfl⟩
theorem ziY(c:Chan)(ps:List Pc)(i j:Nat)(x:Int):(i,j,x)∈pinT c ps↔∃n u v,n<c.top.length∧x=(n:Nat)∧c.top[n]?=some (some u)∧c.bottom[n]?=some (some v)∧u≠v∧i∈atF ps (some u) n∧j∈atF ps (some v) n:=by
 unfold pinT
 simp only[List.mem_flatMap,List.mem_range]
 constructor
 ·rintro⟨n,hn,h⟩
  unfold zdp at h
  split at h
  ·rename_i u v hu hv
   split at h
   ·cases h
   ·rename_i huv
    simp only[List.mem_flatMap,List.mem_map,Prod.mk.injEq] at h
    obtain⟨a,ha,b,hb,rfl,rfl,rfl⟩:=h
    exact⟨n,u,v,hn,rfl,hu,hv,huv,ha,hb⟩
  ·cases h
 ·rintro⟨n,u,v,hn,rfl,hu,hv,huv,ha,hb⟩
  refine⟨n,hn,?_⟩
  unfold zdp
  rw[hu,hv]
  simp only[huv,if_false,List.mem_flatMap,List.mem_map,Prod.mk.injEq]
  exact⟨i,ha,j,hb,rfl,rfl,trivial⟩
theorem ziZ(p:Pc)(ps:List Pc)(j:Nat)(x:Int):(j,x)∈zlz p ps↔∃q,ps[j]?=some q∧q.n.isSome=true∧zly p q=some x:=by
 unfold zlz zgJ
 simp only[List.mem_filterMap,List.mem_map,List.mem_filter,Option.map_eq_some_iff,Prod.mk.injEq]
 constructor
 ·rintro⟨y,⟨⟨q,j'⟩,⟨hq,hs⟩,rfl⟩,z,hz,rfl,rfl⟩
  exact⟨q,mem_idx.mp hq,hs,hz⟩
 ·rintro⟨q,hq,hs,hz⟩
  exact⟨(j,zly p q),⟨(q,j),⟨mem_idx.mpr hq,hs⟩,rfl⟩,x,hz,rfl,rfl⟩
theorem zhI(ps:List Pc)(i j:Nat)(x:Int):(i,j,x)∈keepT ps↔∃p q,ps[i]?=some p∧p.n=none∧ps[j]?=some q∧q.n.isSome=true∧zly p q=some x:=by
 unfold keepT zcK
 simp only[List.mem_flatMap]
 constructor
 ·rintro⟨⟨p,i'⟩,hp,h⟩
  split at h
  ·rename_i hn
   simp only[List.mem_map,Prod.mk.injEq] at h
   obtain⟨⟨j',y⟩,hy,rfl,rfl,rfl⟩:=h
   obtain⟨q,hq,hs,hc⟩:=(ziZ _ _ _ _).mp hy
   exact⟨p,q,mem_idx.mp hp,hn,hq,hs,hc⟩
  ·cases h
 ·rintro⟨p,q,hp,hn,hq,hs,hc⟩
  refine⟨(p,i),mem_idx.mpr hp,?_⟩
  rw[if_pos hn]
  exact List.mem_map.mpr ⟨(j,x),(ziZ _ _ _ _).mpr ⟨q,hq,hs,hc⟩,rfl⟩
noncomputable def zih(c:Chan)(ps:List Pc):Prop:=∀p∈ps,p.n=none→0≤p.l∧p.r<c.top.length
theorem zpw(p q:Pc)(x:Int):loF p q≤x↔p.l≤x∧q.l≤x∧0≤x:=by
 unfold loF
 rw[Int.max_le,Int.max_le]
theorem zpx(c:Chan)(p q:Pc)(x:Int):x<hiF c p q↔x≤p.r∧x≤q.r∧x<c.top.length:=by
 unfold hiF
 rw[Int.lt_add_one_iff,Int.le_min,Int.le_min,Int.le_sub_one_iff]
theorem zn6{c:Chan}{ps:List Pc}(hb:c.bottom.length=c.top.length)(kp:zih c ps)(t:Tr):t∈zlA c ps↔t∈pinT c ps++keepT ps:=by
 obtain⟨i,j,x⟩:=t
 rw[List.mem_append,zmF,ziY,zhI]
 simp only[zpw,zpx]
 unfold zgR
 constructor
 ·rintro⟨p,q,hp,hq,⟨l1,l2,l0⟩,⟨r1,r2,r0⟩,h3⟩
  simp only[Bool.or_eq_true,Bool.and_eq_true,decide_eq_true_eq,ne_eq] at h3
  have ex:=Int.toNat_of_nonneg l0
  rcases h3 with⟨⟨⟨⟨s1,s2⟩,ne⟩,e1⟩,e2⟩ | ⟨⟨s1,s2⟩,e⟩
  ·obtain⟨u,hu⟩:=Option.isSome_iff_exists.mp s1
   obtain⟨v,hv⟩:=Option.isSome_iff_exists.mp s2
   rw[hu] at e1 ne
   rw[hv] at e2 ne
   refine .inl ⟨x.toNat,u,v,(Int.toNat_lt l0).mpr r0,ex.symm,e1,e2,fun z=>ne (by rw[z]),?_,?_⟩
   ·exact(zfl _ _ _ _).mpr ⟨p,hp,hu,by rw[ex];exact l1,by rw[ex];exact r1⟩
   ·exact(zfl _ _ _ _).mpr ⟨q,hq,hv,by rw[ex];exact l2,by rw[ex];exact r2⟩
  ·refine .inr ⟨p,q,hp,by simpa using s1,hq,s2,?_⟩
   rw[zll,if_pos (Int.le_trans (Int.max_le.mpr ⟨l1,l2⟩) (Int.le_min.mpr ⟨r1,r2⟩)),e]
 ·rintro(⟨n,u,v,hn,rfl,hu,hv,huv,hi,hj⟩ | ⟨p,q,hp,hpn,hq,hs,hc⟩)
  ·obtain⟨p,hp,pn,p1,p2⟩:=(zfl _ _ _ _).mp hi
   obtain⟨q,hq,qn,q1,q2⟩:=(zfl _ _ _ _).mp hj
   refine⟨p,q,hp,hq,⟨p1,q1,Int.natCast_nonneg n⟩,⟨p2,q2,Int.ofNat_lt.mpr hn⟩,?_⟩
   simp[pn,qn,huv,hu,hv]
  ·rw[zll] at hc
   have k:=kp p (List.mem_of_getElem? hp) hpn
   by_cases hm:max p.l q.l≤min p.r q.r
   ·rw[if_pos hm] at hc
    have hx:max p.l q.l=x:=by simpa using hc
    rw[hx] at hm
    have m1:=Int.max_le.mp (Int.le_of_eq hx)
    have m2:=Int.le_min.mp hm
    refine⟨p,q,hp,hq,⟨m1.1,m1.2,Int.le_trans k.1 m1.1⟩,⟨m2.1,m2.2,Int.lt_of_le_of_lt m2.1 k.2⟩,?_⟩
    simp[hpn,hs,hx]
   ·rw[if_neg hm] at hc;cases hc
noncomputable def R3(x y:Tr):Prop:=HT.lexGt (kT y) (kT x)=true
theorem zq7{x y:Tr}(h:x.1<y.1):R3 x y:=by
 unfold R3 kT
 rw[HT.lexGt_cons,if_neg (by omega)]
 simp;omega
theorem zq8{x y:Tr}(e:x.1=y.1)(h:x.2.1<y.2.1):R3 x y:=by
 unfold R3 kT
 rw[HT.lexGt_cons,if_pos (by omega),HT.lexGt_cons,if_neg (by omega)]
 simp;omega
theorem zq9{x y:Tr}(e:x.1=y.1)(e2:x.2.1=y.2.1)(h:x.2.2<y.2.2):R3 x y:=by
 unfold R3 kT
 rw[HT.lexGt_cons,if_pos (by omega),HT.lexGt_cons,if_pos (by omega),HT.lexGt_cons,if_neg (by omega)]
 simp;omega
theorem zhJ{α:Type}(l:List α):l.zipIdx.Pairwise fun a b=>a.2<b.2:=by
 have h:(l.zipIdx.map (·.2)).Pairwise (·<·):=by
  rw[show l.zipIdx.map (·.2)=List.range l.length by rw[List.range_eq_range'];exact List.zipIdx_map_snd 0 l]
  exact List.pairwise_lt_range
 exact List.pairwise_map.mp h
theorem zpy(c:Chan)(ps:List Pc):(zlA c ps).Pairwise R3:=by
 unfold zlA
 rw[List.pairwise_flatMap]
 refine⟨fun p hp=>?_,?_⟩
 ·rw[List.pairwise_flatMap]
  refine⟨fun q hq=>?_,?_⟩
  ·unfold zgM
   rw[List.pairwise_map]
   refine List.Pairwise.filter _ ?_
   unfold zhH
   rw[List.pairwise_map]
   refine List.Pairwise.imp (R:=(·<·)) (fun{a b} h=>?_) List.pairwise_lt_range
   refine zq9 rfl rfl ?_
   dsimp only
   omega
  ·refine(zhJ ps).imp fun{a b} h x hx y hy=>?_
   unfold zgM at hx hy
   obtain⟨_,_,rfl⟩:=List.mem_map.mp hx
   obtain⟨_,_,rfl⟩:=List.mem_map.mp hy
   exact zq8 rfl h
 ·refine(zhJ ps).imp fun{a b} h x hx y hy=>?_
  obtain⟨_,_,hx⟩:=List.mem_flatMap.mp hx
  obtain⟨_,_,hy⟩:=List.mem_flatMap.mp hy
  unfold zgM at hx hy
  obtain⟨_,_,rfl⟩:=List.mem_map.mp hx
  obtain⟨_,_,rfl⟩:=List.mem_map.mp hy
  exact zq7 h
theorem zm7(ps:List Pc)(n:Option Str)(c:Int):(atF ps n c).Nodup:=by
 unfold atF
 refine List.pairwise_map.mpr (List.Pairwise.imp (R:=fun a b=>a.2<b.2) (fun{a b} h=>?_) (List.Pairwise.filter _ (zhJ ps)))
 intro z
 exact Nat.ne_of_lt h z
theorem zpz(c:Chan)(ps:List Pc):(pinT c ps).Nodup:=by
 unfold pinT List.Nodup
 rw[List.pairwise_flatMap]
 refine⟨fun n _=>?_,List.pairwise_lt_range.imp fun{a b} h x hx y hy e=>?_⟩
 ·unfold zdp
  split
  ·split
   ·exact .nil
   ·rw[List.pairwise_flatMap]
    refine⟨fun a _=>?_,List.Pairwise.imp (R:=(·≠·)) (fun{a b} h x hx y hy e=>?_) (zm7 _ _ _)⟩
    ·rw[List.pairwise_map]
     refine List.Pairwise.imp (R:=(·≠·)) (fun{b d} h=>?_) (zm7 _ _ _)
     intro e
     exact h (by simpa using e)
    ·obtain⟨_,_,rfl⟩:=List.mem_map.mp hx
     obtain⟨_,_,rfl⟩:=List.mem_map.mp hy
     exact h (by simp at e;exact e.1)
  ·exact .nil
 ·have third:∀n t,t∈zdp c ps n→t.2.2=(n:Int):=fun n t ht=>by
   unfold zdp at ht
   split at ht
   ·split at ht
    ·cases ht
    ·obtain⟨_,_,ht⟩:=List.mem_flatMap.mp ht
     obtain⟨_,_,rfl⟩:=List.mem_map.mp ht
     rfl
   ·cases ht
  have:=third a x hx
  have:=third b y hy
  rw[e] at *
  omega
theorem zn7(ps:List Pc):(keepT ps).Nodup:=by
 unfold keepT List.Nodup
 rw[List.pairwise_flatMap]
 refine⟨fun p _=>?_,(zhJ ps).imp fun{a b} h x hx y hy e=>?_⟩
 ·unfold zcK
  split
  ·rw[List.pairwise_map]
   have nd:(zlz p.1 ps).Pairwise fun a b=>a.1<b.1:=by
    unfold zlz zgJ
    rw[List.pairwise_filterMap]
    rw[List.pairwise_map]
    refine List.Pairwise.imp (R:=fun a b=>a.2<b.2) (fun{a b} h x hx y hy=>?_) (List.Pairwise.filter _ (zhJ ps))
    obtain⟨_,_,rfl⟩:=Option.map_eq_some_iff.mp hx
    obtain⟨_,_,rfl⟩:=Option.map_eq_some_iff.mp hy
    exact h
   exact nd.imp fun{a b} h e=>by simp at e;omega
  ·exact .nil
 ·unfold zcK at hx hy
  split at hx
  ·split at hy
   ·obtain⟨_,_,rfl⟩:=List.mem_map.mp hx
    obtain⟨_,_,hy⟩:=List.mem_map.mp hy
    rw[←e] at hy
    simp at hy
    omega
   ·cases hy
  ·cases hx
theorem zlq{c:Chan}{ps:List Pc}{ts:List Tr}(hb:c.bottom.length=c.top.length)(kp:zih c ps)(h:Above c ps ts):ts=zlA c ps:=by
 have nd:(pinT c ps++keepT ps).Nodup:=by
  rw[List.nodup_append]
  refine⟨zpz c ps,zn7 ps,?_⟩
  rintro⟨i,j,x⟩ h1 ⟨i',j',x'⟩ h2 e
  cases e
  obtain⟨n,u,v,_,_,_,_,_,hi,_⟩:=(ziY _ _ _ _ _).mp h1
  obtain⟨p,q,hp,hpn,_⟩:=(zhI _ _ _ _).mp h2
  obtain⟨p',hp',pn,_⟩:=(zfl _ _ _ _).mp hi
  rw[hp] at hp'
  cases hp'
  rw[hpn] at pn
  cases pn
 have nt:ts.Nodup:=h.pm.nodup_iff.mpr nd
 refine zmC kT ?_ (zpy c ps) fun t=>?_
 ·exact(h.srt.and nt).imp fun{a b} h=>zlm _ _ h.1 fun z=>h.2 (zpv z)
 ·rw[h.pm.mem_iff,zn6 hb kp]
end Wc
namespace Wc
open PySem L2 PyProof.Rows
noncomputable def zdH:Nat→D→Prop
 | 0,_=>False
 | n+1,.lst ds=>ds.length≤100000∧∀d∈ds,zdH n d
 | n+1,.tup ds=>ds.length≤100000∧∀d∈ds,zdH n d
 | _+1,.int _=>True
 | _+1,.str _=>True
 | _+1,.non=>True
 | _+1,_=>False
noncomputable def zaw:Nat→SpD
 | 0=>fun _ _=>False
 | n+1=>fun ds Q=>∃d,ds=[d,d]∧zdH (n+1) d∧Q (.fz (.bl true))
noncomputable def zaM:SpD:=zaw 6
noncomputable def zcf(zaM:SpD):TX:=(zaF (xIf (za4 (zmi "list" "tuple" (zag 1))) (zaF (xIf (bOr (zoY (za4 (zmi "list" "tuple" (zag 0)))) (za4 (dOp oNe (zl3 "list" (zag 0)) (zl3 "list" (zag 1))))) (zcI (dC (.bl false))) zcL)
 (zcI (zje (dOp oEq (dCB zhR (zad (zag 0) zap)) (dCB zhR (zad (zag 1) zap))) (dCB zob (zad (za5 (zlb (zad (zag 0) (zad (zag 1) zap))) [none,none] (zdu 2 (zaC (zao 0) (zaC (zao 1) zc4))) zfB (zaP 2 zaM (zad (zag 0) (zad (zag 1) zap)))) zap))))) zcL)
 (zaF (xIf (za4 (zl3 "str" (zag 1))) (zcI (zje (zl3 "str" (zag 0)) (dOp oEq (zag 0) (zag 1)))) zcL)
 (zaF (xIf (za4 (dOp (zel false) (zag 1) (dC .non))) (zcI (dOp (zel false) (zag 0) (dC .non))) zcL)
 (zcI (zje (zl3 "int" (zag 0)) (zje (zpO (zl3 "bool" (zag 0))) (dOp oEq (zag 0) (zag 1))))))))
theorem zpA:zcc (tyD .non) "str"=false:=by show zcc "NoneType" "str"=false;decide
theorem zpB:zcc (tyD .non) "list"=false:=by show zcc "NoneType" "list"=false;decide
theorem zpC:zcc (tyD .non) "tuple"=false:=by show zcc "NoneType" "tuple"=false;decide
theorem zpD(i:Int):zcc (tyD (.int i)) "str"=false:=by show zcc "int" "str"=false;decide
theorem zpE(i:Int):zcc (tyD (.int i)) "list"=false:=by show zcc "int" "list"=false;decide
theorem zpF(i:Int):zcc (tyD (.int i)) "tuple"=false:=by show zcc "int" "tuple"=false;decide
theorem zpG(x:Str):zcc (tyD (.str x)) "tuple"=false:=by show zcc "str" "tuple"=false;decide
theorem zlr(ds:List D):zjg ds ds=ds.map fun d=>.tup [d,d]:=by
 unfold zjg
 induction ds with
 | nil=>rfl
 | cons a r ih=>rw[List.zipWith_cons_cons,ih];rfl
theorem zhK{n:Nat}(ds:List D)(h:∀d∈ds,zdH n d)(Q:R→Prop)(hl:ds.length≤100000)(ρ:Ev)(f g:D)(hf:f=.lst ds∨f=.tup ds)(hρ:ρ=[.fz f,.fz f])(hn:n=0→ds=[])(q:Q (.fz (.bl true))) :
  dCB zob (zad (za5 (zlb (zad (zag 0) (zad (zag 1) zap))) [none,none] (zdu 2 (zaC (zao 0) (zaC (zao 1) zc4))) zfB (zaP 2 (zaw n) (zad (zag 0) (zad (zag 1) zap)))) zap) ρ Q:=by
 subst hρ
 have big:=zaL
 have key:∀(x:D),x=.lst ds∨x=.tup ds→dCB zob (zad (za5 (zlb (zad (zag 0) (zad (zag 1) zap))) [none,none] (zdu 2 (zaC (zao 0) (zaC (zao 1) zc4))) zfB (zaP 2 (zaw n) (zad (zag 0) (zad (zag 1) zap)))) zap) [.fz x,.fz x] Q:=fun x hx=>by
  simp only[dCB,zad,zap]
  refine zbA ds (fun d=>.tup [d,d]) (fun _=>.bl true) (fun Q' h'=>?_) (by omega) (fun d hd K1 k=>?_) ?_
  ·rcases hx with rfl | rfl<;>(walk_at "px";rw[zlr];exact h')
  ·walk_at "px"
   cases n with
   | zero=>rw[hn rfl] at hd;cases hd
   | succ n=>exact⟨d,rfl,h d hd,k⟩
  ·rw[show(ds.map fun _=>D.bl true)=(ds.map fun _=>true).map D.bl by rw[List.map_map];rfl]
   simp only[ziA,zob,zks]
   rw[show(ds.map fun _=>true).all id=true by simp]
   exact q
 exact key f hf
theorem zaT(j:Nat){a b:Str}(ds:List D)(Qr:R→Prop)(hl:ds.length=2)(h:zaw (j+1) ds Qr):zcf (zaw j) { nx:=fun _=>Qr (.fz .non),rt:=Qr } (zaH [a,b] ds):=by
 obtain⟨d,rfl,hp,q⟩:=h
 show zcf _ _ [.fz d,.fz d]
 unfold zcf
 have none0:∀ds:List D,(∀d∈ds,zdH j d)→j=0→ds=[]:=fun ds h hj=>by
  subst hj
  cases ds with
  | nil=>rfl
  | cons a r=>exact absurd (h a (by simp)) (by simp[zdH])
 cases d with
 | lst es=>
  obtain⟨hlen,hall⟩:=(show es.length≤100000∧∀d∈es,zdH j d from hp)
  walk_at "px"
  simp only[zph,zpi,zdU,Bool.true_or,true_and,if_true,Bool.not_true,Bool.false_eq_true,if_false,eqD,decide_true,BEq.rfl]
  walk_at "go"
  exact zhK es hall _ hlen _ _ (.lst es) (.inl rfl) rfl (none0 es hall) q
 | tup es=>
  obtain⟨hlen,hall⟩:=(show es.length≤100000∧∀d∈es,zdH j d from hp)
  walk_at "px"
  simp only[zpg,zpf,zdU,Bool.or_true,true_and,if_true,Bool.not_true,Bool.false_eq_true,if_false,eqD,decide_true,BEq.rfl]
  walk_at "go"
  exact zhK es hall _ hlen _ _ (.tup es) (.inr rfl) rfl (none0 es hall) q
 | int i=>
  walk_at "px"
  simp only[zpE,zpF,zdU,Bool.or_false,true_and,Bool.false_eq_true,if_false]
  walk_at "go"
  simp only[zpD,zdU,Bool.or_false,true_and,Bool.false_eq_true,if_false]
  walk_at "go"
  walk_at "go"
  simp only[zpk,zpj,zdU,true_and,if_true,Bool.not_false,zig,decide_true]
  exact q
 | str x=>
  walk_at "px"
  simp only[zpm,zpG,zdU,Bool.or_false,true_and,Bool.false_eq_true,if_false]
  walk_at "go"
  simp only[zpl,zdU,true_and,if_true]
  exact q
 | non=>
  walk_at "px"
  simp only[zpB,zpC,zdU,Bool.or_false,true_and,Bool.false_eq_true,if_false]
  walk_at "go"
  simp only[zpA,zdU,true_and,Bool.false_eq_true,if_false]
  walk_at "go"
  exact q
 | bl b=>exact hp.elim
 | obj c fs=>exact hp.elim
 | dic kvs=>exact hp.elim
 | dit kvs=>exact hp.elim
end Wc
namespace Wc
open PySem L2 PyProof.Rows
end Wc
open PySem L2 PyProof.Rows Wc
local macro_rules | `(tactic| walk_at "px")=>`(tactic| (repeat(first | walk_at "b" | simp only[zbL,zf8,ziR,zeq,zl0,zkW,zkX,zjI])))
namespace Wc
open PySem L2 PyProof.Rows
noncomputable def zqH(ps:List Pc):Prop:=∀p∈ps,-1≤p.l∧p.l≤100∧-1≤p.r∧p.r≤100
noncomputable def zb8:SpD:=fun ds Q=>∃(c:Chan) (ps:List Pc),ds=[.lst c.parts,dPs ps]∧ShCh c∧ps.length≤500∧zqH ps∧Q (.ow ((zlA c ps).map dT))
noncomputable def zed:TX:=(zaF (zhe 2 (zc7 zap))
 (zaF (zeV (zfA (zad (zag 1) zap)) (zdu 2 (zaC (zao 3) (zaC (zao 4) zc4))) (zeV (zfA (zad (zag 1) zap)) (zdu 2 (zaC (zao 5) (zaC (zao 6) zc4))) (zaF (zaB 7 (zje (dOp (zel true) (dOp oIx (zag 4) (dC (.int 0))) (dC .non)) (zje (dOp (zel true) (dOp oIx (zag 6) (dC (.int 0))) (dC .non)) (dOp oNe (dOp oIx (zag 4) (dC (.int 0))) (dOp oIx (zag 6) (dC (.int 0)))))))
 (zeV (zl0 (zad (dCB zkW (zad (dOp oIx (zag 4) (dC (.int 1))) (zad (dOp oIx (zag 6) (dC (.int 1))) (zad (dC (.int 0)) zap)))) (zad (dOp zb9 (dCB zkX (zad (dOp oIx (zag 4) (dC (.int 2))) (zad (dOp oIx (zag 6) (dC (.int 2))) (zad (dOp (oI0 fun i j=>.int (i-j)) (dCB zhR (zad (dOp oIx (zag 0) (dC (.int 0))) zap)) (dC (.int 1))) zap)))) (dC (.int 1))) zap))) (zao 8) (zaF (xIf (zhb (za4 (zag 7)) (zhb (za4 (dOp oEq (dOp oIx (dOp oIx (zag 0) (dC (.int 0))) (zag 8)) (dOp oIx (zag 4) (dC (.int 0))))) (za4 (dOp oEq (dOp oIx (dOp oIx (zag 0) (dC (.int 1))) (zag 8)) (dOp oIx (zag 6) (dC (.int 0))))))) (zeU 2 (zdQ (zad (zag 3) (zad (zag 5) (zad (zag 8) zap))))) zcL)
 (xIf (zhb (za4 (dOp (zel false) (dOp oIx (zag 4) (dC (.int 0))) (dC .non))) (zhb (za4 (dOp (zel true) (dOp oIx (zag 6) (dC (.int 0))) (dC .non))) (za4 (dOp oEq (zag 8) (dCB zjI (zad (dOp oIx (zag 4) (dC (.int 1))) (zad (dOp oIx (zag 6) (dC (.int 1))) zap))))))) (zeU 2 (zdQ (zad (zag 3) (zad (zag 5) (zad (zag 8) zap))))) zcL))))))
 (zdT 2)))
theorem zpH(p q:Pc):0≤loF p q:=Int.le_trans (Int.le_max_right q.l 0) (Int.le_max_right p.l _)
theorem zpI(c:Chan)(p q:Pc):hiF c p q≤c.top.length:=by
 have:=Int.le_trans (Int.min_le_right p.r (min q.r (c.top.length-1))) (Int.min_le_right q.r (c.top.length-1))
 show min p.r (min q.r (c.top.length-1))+1≤(c.top.length:Int)
 generalize min p.r (min q.r ((c.top.length:Int)-1))=z at this ⊢
 omega
theorem zi0(c:Chan)(p q:Pc):(zhH c p q).length≤c.top.length:=by
 unfold zhH
 rw[List.length_map,List.length_range]
 have h1:=zpH p q
 have h2:=zpI c p q
 omega
theorem zhL(c:Chan)(p q:Pc×Nat):(zgM c p q).length≤c.top.length:=by
 unfold zgM
 rw[List.length_map]
 exact Nat.le_trans (List.length_filter_le _ _) (zi0 c p.1 q.1)
theorem zi1(c:Chan)(sh:ShCh c)(p q:Pc×Nat):(zgM c p q).length≤40:=Nat.le_trans (zhL c p q) sh.w
theorem zn8{ρ:Ev}{a b:Option Str}{as bs:List D}{Q:R→Prop}(h4:gt ρ 4=.fz (.tup (dO a::as)))(h6:gt ρ 6=.fz (.tup (dO b::bs)))(q:Q (.fz (.bl (a.isSome&&b.isSome&&decide (a≠b))))) :
  zje (dOp (zel true) (dOp oIx (zag 4) (dC (.int 0))) (dC .non)) (zje (dOp (zel true) (dOp oIx (zag 6) (dC (.int 0))) (dC .non)) (dOp oNe (dOp oIx (zag 4) (dC (.int 0))) (dOp oIx (zag 6) (dC (.int 0))))) ρ Q:=by
 have z4:∀(d:D) (r:List D),atI (d::r) 0=some d:=fun d r=>zmx d r
 simp only[zje,dOp,zag,dC,h4,h6,oIx,zl4,zen,zel,zgj,z4,oNe]
 cases a with
 | none=>simp only[dO];walk_at "px";exact⟨_,rfl,by simpa using q⟩
 | some u=>
  cases b with
  | none=>simp only[dO];walk_at "px";exact⟨_,rfl,⟨_,rfl,by simpa using q⟩⟩
  | some v=>
   simp only[dO]
   walk_at "px"
   refine⟨_,rfl,_,rfl,_,rfl,_,rfl,?_⟩
   refine⟨by rw[zb6];trivial,by rw[zb6];trivial,?_⟩
   rw[zgC]
   simpa using q
theorem zgN(ds:List D)(Qr:R→Prop)(hl:ds.length=2)(h:zb8 ds Qr):zed { nx:=fun _=>Qr (.fz .non),rt:=Qr } (zaH ["_law_lists","_law_pieces","_law_due_here","_law_p","_law_one","_law_q","_law_other","_law_nets","_law_c"] ds):=by
 obtain⟨c,ps,rfl,sh,hn,hin,q⟩:=h
 show zed _ [.fz (.lst c.parts),.fz (dPs ps),.un,.un,.un,.un,.un,.un,.un]
 unfold zed
 have big:=zaL
 have hw:=sh.w
 have at0:atI c.parts 0=some (dP c.top):=rfl
 have at1:atI c.parts 1=some (dP c.bottom):=rfl
 walk_at "px"
 refine⟨by omega,?_⟩
 walk_at "go"
 refine zdF ps dPc (fun Q' h=>?_) (fun i ρ=>∃a b d e f g:Sl,ρ=[.fz (.lst c.parts),.fz (dPs ps),.ow ((((ps.zipIdx.take i).flatMap fun p=>ps.zipIdx.flatMap (zgM c p))).map dT),a,b,d,e,f,g]) ⟨.un,.un,.un,.un,.un,.un,by simp⟩ ?_ ?_
 ·unfold dPs
  walk_at "px"
  exact h
 ·rintro i x ρ hx ⟨a,b,d,e,f,g,rfl⟩
  have hi:i<ps.length:=(List.getElem?_eq_some_iff.mp hx).1
  have hz:ps.zipIdx[i]?=some (x,i):=by rw[List.getElem?_zipIdx,hx];simp
  have tk:ps.zipIdx.take (i+1)=ps.zipIdx.take i++[(x,i)]:=by rw[List.take_add_one,hz];rfl
  have fl:∀p,(ps.zipIdx.flatMap (zgM c p)).length≤20000:=fun p=>by
   have:=zbd (zgM c p) 40 (zi1 c sh p) ps.zipIdx
   rw[List.length_zipIdx] at this
   omega
  have len:=zbd (fun p=>ps.zipIdx.flatMap (zgM c p)) 20000 fl (ps.zipIdx.take i)
  have l4:(ps.zipIdx.take i).length≤500:=by rw[List.length_take];omega
  rw[tk,List.flatMap_append,List.flatMap_cons,List.flatMap_nil,List.append_nil]
  generalize (ps.zipIdx.take i).flatMap (fun p=>ps.zipIdx.flatMap (zgM c p))=acc at len ⊢
  walk_at "px"
  refine zdF ps dPc (fun Q' h=>?_) (fun j ρ=>∃d e f g:Sl,ρ=[.fz (.lst c.parts),.fz (dPs ps),.ow ((acc++(ps.zipIdx.take j).flatMap (zgM c (x,i))).map dT),.fz (.int i),.fz (dPc x),d,e,f,g]) ⟨d,e,f,g,by simp⟩ ?_ ?_
  ·unfold dPs
   walk_at "px"
   exact h
  ·rintro j y ρ hy ⟨d,e,f,g,rfl⟩
   have hj:j<ps.length:=(List.getElem?_eq_some_iff.mp hy).1
   have hz:ps.zipIdx[j]?=some (y,j):=by rw[List.getElem?_zipIdx,hy];simp
   have tk:ps.zipIdx.take (j+1)=ps.zipIdx.take j++[(y,j)]:=by rw[List.take_add_one,hz];rfl
   have ze4:=zbd (zgM c (x,i)) 40 (zi1 c sh (x,i)) (ps.zipIdx.take j)
   have l5:(ps.zipIdx.take j).length≤500:=by rw[List.length_take];omega
   rw[tk,List.flatMap_append,List.flatMap_cons,List.flatMap_nil,List.append_nil,←List.append_assoc]
   have zog:(acc++(ps.zipIdx.take j).flatMap (zgM c (x,i))).length≤11000000:=by rw[List.length_append];omega
   generalize acc++(ps.zipIdx.take j).flatMap (zgM c (x,i))=acc2 at zog ⊢
   have ex:dPc x=.tup [dO x.n,.int x.l,.int x.r,.int x.k]:=rfl
   have ey:dPc y=.tup [dO y.n,.int y.l,.int y.r,.int y.k]:=rfl
   have bx:=hin x (List.mem_of_getElem? hx)
   have by_:=hin y (List.mem_of_getElem? hy)
   simp only[zm2,zdu,zaC,zao,zc4,List.length_cons,List.length_nil,zaB,List.set]
   refine⟨trivial,zn8 (a:=x.n) (b:=y.n) rfl rfl ?_⟩
   simp only[zlx,zen]
   refine zdA (zhH c x y) D.int (fun Q' h=>?_) (fun k ρ=>∃g:Sl,ρ=[.fz (.lst c.parts),.fz (dPs ps),.ow ((acc2++((((zhH c x y).take k).filter (zgR c x y)).map fun z=>(i,j,z))).map dT),.fz (.int i),.fz (dPc x),.fz (.int j),.fz (dPc y),.fz (.bl (x.n.isSome&&y.n.isSome&&decide (x.n≠y.n))),g]) ⟨g,by simp⟩ ?_ ?_
   ·rw[ex,ey]
    walk_at "px"
    refine⟨.int x.l,rfl,.int y.l,rfl,.int x.r,rfl,.int y.r,rfl,_,at0,?_⟩
    unfold dP
    walk_at "px"
    rw[List.length_map]
    refine⟨⟨by omega,by omega,by omega,by omega⟩,?_⟩
    have e1:(zhH c x y).map D.int=(List.range (hiF c x y-loF x y).toNat).map fun(n:Nat)=>D.int (loF x y+n):=by unfold zhH;rw[List.map_map];rfl
    rw[e1] at h
    exact h
   ·rintro k v ρ hv ⟨g,rfl⟩
    have hm:=(ziX c x y v).mp (List.mem_of_getElem? hv)
    have tkv:(zhH c x y).take (k+1)=(zhH c x y).take k++[v]:=by rw[List.take_add_one,hv];rfl
    have lk:(((zhH c x y).take k).filter (zgR c x y)).length≤200:=by
     refine Nat.le_trans (List.length_filter_le _ _) ?_
     rw[List.length_take]
     exact Nat.le_trans (Nat.min_le_right _ _) (Nat.le_trans (zi0 c x y) (Nat.le_trans hw (by decide)))
    have step:acc2++(((zhH c x y).take (k+1)).filter (zgR c x y)).map (fun z=>((i,j,z):Tr))=(acc2++(((zhH c x y).take k).filter (zgR c x y)).map fun z=>((i,j,z):Tr))++([v].filter (zgR c x y)).map fun z=>((i,j,z):Tr):=by
     rw[tkv,List.filter_append,List.map_append,List.append_assoc]
    rw[step]
    have la:(acc2++(((zhH c x y).take k).filter (zgR c x y)).map fun z=>(i,j,z)).length≤11000200:=by rw[List.length_append,List.length_map];omega
    generalize (acc2++(((zhH c x y).take k).filter (zgR c x y)).map fun z=>((i,j,z):Tr))=acc3 at la ⊢
    have lo0:=zpH x y
    have hi0:=zpI c x y
    obtain⟨m,rfl⟩:∃m:Nat,v=m:=⟨v.toNat,(Int.toNat_of_nonneg (Int.le_trans lo0 hm.1)).symm⟩
    have hmt:m<c.top.length:=Int.ofNat_lt.mp (Int.lt_of_lt_of_le hm.2 hi0)
    have hmb:m<c.bottom.length:=by rw[sh.b];exact hmt
    have app:zgR c x y m=true→∃g:Sl,[Sl.fz (.lst c.parts),.fz (dPs ps),.ow (acc3.map dT++[.tup [.int i,.int j,.int m]]),.fz (.int i),.fz (dPc x),.fz (.int j),.fz (dPc y),.fz (.bl (x.n.isSome&&y.n.isSome&&decide (x.n≠y.n))),.fz (.int m)]=[Sl.fz (.lst c.parts),.fz (dPs ps),.ow ((acc3++([(m:Int)].filter (zgR c x y)).map fun z=>(i,j,z)).map dT),.fz (.int i),.fz (dPc x),.fz (.int j),.fz (dPc y),.fz (.bl (x.n.isSome&&y.n.isSome&&decide (x.n≠y.n))),g]:=fun h=>⟨.fz (.int m),by simp[List.filter,h,dT]⟩
    have skp:zgR c x y m=false→∃g:Sl,[Sl.fz (.lst c.parts),.fz (dPs ps),.ow (acc3.map dT),.fz (.int i),.fz (dPc x),.fz (.int j),.fz (dPc y),.fz (.bl (x.n.isSome&&y.n.isSome&&decide (x.n≠y.n))),.fz (.int m)]=[Sl.fz (.lst c.parts),.fz (dPs ps),.ow ((acc3++([(m:Int)].filter (zgR c x y)).map fun z=>(i,j,z)).map dT),.fz (.int i),.fz (dPc x),.fz (.int j),.fz (dPc y),.fz (.bl (x.n.isSome&&y.n.isSome&&decide (x.n≠y.n))),g]:=fun h=>⟨.fz (.int m),by simp[List.filter,h]⟩
    have db:zgR c x y m=((x.n.isSome&&y.n.isSome&&decide (x.n≠y.n)&&decide (c.top[m]=x.n)&&decide (c.bottom[m]=y.n))||(x.n.isNone&&y.n.isSome&&decide ((m:Int)=max x.l y.l))):=by
     unfold zgR
     rw[Int.toNat_natCast,List.getElem?_eq_getElem hmt,List.getElem?_eq_getElem hmb]
     simp only[Option.some.injEq]
    have ap2:∀P:Prop,P→3≤sizeLine∧(List.map dT acc3).length<sizeLine∧P:=fun P h=>⟨by omega,by simp;omega,h⟩
    cases hxn:x.n with
    | none=>
     have ex':dPc x=.tup [.non,.int x.l,.int x.r,.int x.k]:=by rw[ex,hxn];rfl
     simp only[hxn,Option.isSome_none,Bool.false_and,Option.isNone_none,Bool.true_and,Bool.false_or] at db app skp ⊢
     cases hyn:y.n with
     | none=>
      have ey':dPc y=.tup [.non,.int y.l,.int y.r,.int y.k]:=by rw[ey,hyn];rfl
      simp only[hyn,Option.isSome_none,Bool.false_and] at db
      rw[ex',ey'] at skp ⊢
      walk_at "px"
      walk_at "go"
      refine⟨_,rfl,?_⟩
      walk_at "px"
      refine⟨_,rfl,?_⟩
      walk_at "px"
      exact skp db
     | some w=>
      have ey':dPc y=.tup [.str w,.int y.l,.int y.r,.int y.k]:=by rw[ey,hyn];rfl
      simp only[hyn,Option.isSome_some,Bool.true_and] at db
      rw[ex',ey'] at skp app ⊢
      walk_at "px"
      walk_at "go"
      refine⟨_,rfl,?_⟩
      walk_at "px"
      refine⟨_,rfl,?_⟩
      walk_at "px"
      refine⟨_,rfl,_,rfl,?_⟩
      dsimp only
      have em:(if y.l>x.l then y.l else x.l)=max x.l y.l:=by split<;>omega
      rw[em]
      by_cases hmx:(m:Int)=max x.l y.l
      ·rw[if_pos hmx]
       exact ap2 _ (app (by rw[db];simpa using hmx))
      ·rw[if_neg hmx]
       exact skp (by rw[db];simpa using hmx)
    | some u=>
     have ex':dPc x=.tup [.str u,.int x.l,.int x.r,.int x.k]:=by rw[ex,hxn];rfl
     simp only[hxn,Option.isSome_some,Bool.true_and,Option.isNone_some,Bool.false_and,Bool.or_false] at db app skp ⊢
     cases hyn:y.n with
     | none=>
      have ey':dPc y=.tup [.non,.int y.l,.int y.r,.int y.k]:=by rw[ey,hyn];rfl
      simp only[hyn,Option.isSome_none,Bool.false_and] at db app skp ⊢
      rw[ex',ey'] at skp ⊢
      walk_at "px"
      walk_at "go"
      refine⟨_,rfl,?_⟩
      walk_at "px"
      exact skp db
     | some w=>
      have ey':dPc y=.tup [.str w,.int y.l,.int y.r,.int y.k]:=by rw[ey,hyn];rfl
      simp only[hyn,Option.isSome_some,Bool.true_and,ne_eq,Option.some.injEq] at db app skp ⊢
      rw[ex',ey'] at skp app ⊢
      by_cases huw:u=w
      ·simp only[huw,not_true_eq_false,decide_false,Bool.false_and] at db skp ⊢
       walk_at "px"
       walk_at "go"
       refine⟨_,rfl,?_⟩
       walk_at "px"
       exact skp db
      ·simp only[huw,not_false_eq_true,decide_true,Bool.true_and] at db skp app ⊢
       walk_at "px"
       refine⟨_,at0,?_⟩
       unfold dP
       walk_at "px"
       refine⟨_,za3 hmt,_,rfl,?_⟩
       refine⟨by rw[zb6];trivial,?_⟩
       rw[zbL]
       have zes:∀(L:List D),(∃g:Sl,[Sl.fz (.lst c.parts),.fz (dPs ps),.ow L,.fz (.int i),.fz (.tup [.str u,.int x.l,.int x.r,.int x.k]),.fz (.int j),.fz (.tup [.str w,.int y.l,.int y.r,.int y.k]),.fz (.bl true),.fz (.int m)]=[Sl.fz (.lst c.parts),.fz (dPs ps),.ow ((acc3++([(m:Int)].filter (zgR c x y)).map fun z=>(i,j,z)).map dT),.fz (.int i),.fz (.tup [.str u,.int x.l,.int x.r,.int x.k]),.fz (.int j),.fz (.tup [.str w,.int y.l,.int y.r,.int y.k]),.fz (.bl true),g])→
         ∀(De:DE),De.nx=(fun ρ=>∃g:Sl,ρ=[Sl.fz (.lst c.parts),.fz (dPs ps),.ow ((acc3++([(m:Int)].filter (zgR c x y)).map fun z=>(i,j,z)).map dT),.fz (.int i),.fz (.tup [.str u,.int x.l,.int x.r,.int x.k]),.fz (.int j),.fz (.tup [.str w,.int y.l,.int y.r,.int y.k]),.fz (.bl true),g])→
         zlx (xIf (zhb (za4 (dOp (zel false) (dOp oIx (zag 4) (dC (.int 0))) (dC .non))) (zhb (za4 (dOp (zel true) (dOp oIx (zag 6) (dC (.int 0))) (dC .non))) (za4 (dOp oEq (zag 8) (dCB zjI (zad (dOp oIx (zag 4) (dC (.int 1))) (zad (dOp oIx (zag 6) (dC (.int 1))) zap))))))) (zeU 2 (zdQ (zad (zag 3) (zad (zag 5) (zad (zag 8) zap))))) zcL) De [Sl.fz (.lst c.parts),.fz (dPs ps),.ow L,.fz (.int i),.fz (.tup [.str u,.int x.l,.int x.r,.int x.k]),.fz (.int j),.fz (.tup [.str w,.int y.l,.int y.r,.int y.k]),.fz (.bl true),.fz (.int m)]:=by
        intro L hL De hDe
        walk_at "go"
        refine⟨_,rfl,?_⟩
        walk_at "px"
        rw[hDe]
        exact hL
       simp only[decide_eq_true_eq]
       by_cases h1:c.top[m]=some u
       ·rw[if_pos h1]
        refine⟨_,at1,?_⟩
        unfold dP
        dsimp only
        refine⟨_,by rw[zgA,za3 hmb];rfl,_,rfl,by rw[zeq];trivial,by rw[zb6];trivial,?_⟩
        simp only[zen,zbL,decide_eq_true_eq]
        by_cases h2:c.bottom[m]=some w
        ·rw[if_pos h2]
         exact ap2 _ (zes _ (app (by rw[db];simp[h1,h2])) _ rfl)
        ·rw[if_neg h2]
         exact zes _ (skp (by rw[db];simp[h2])) _ rfl
       ·rw[if_neg h1]
        exact zes _ (skp (by rw[db];simp[h1])) _ rfl
   ·rintro ρ ⟨g,rfl⟩
    refine⟨_,_,_,_,by rw[List.take_length];rfl⟩
  ·rintro ρ ⟨d,e,f,g,rfl⟩
   refine⟨_,_,_,_,_,_,by rw[show ps.length=ps.zipIdx.length by simp,List.take_length]⟩
 ·rintro ρ ⟨a,b,d,e,f,g,rfl⟩
  walk_at "go"
  rw[show ps.length=ps.zipIdx.length by simp,List.take_length]
  exact q
theorem zpJ(c:Chan)(w:Str):∀x∈pl c w,-1≤x∧x≤c.top.length:=by
 intro x hx
 unfold pl at hx
 rcases List.mem_append.mp hx with hx | hx
 ·rcases List.mem_append.mp hx with hx | hx
  ·split at hx
   ·simp at hx;omega
   ·cases hx
  ·obtain⟨n,hn,rfl⟩:=List.mem_map.mp hx
   have:=List.mem_range.mp (List.mem_filter.mp hn).1
   omega
 ·split at hx
  ·simp at hx;omega
  ·cases hx
theorem zpK{l:List Int}{p:Int×Int}(h:zoh l=some p):p.1∈l∧p.2∈l:=by
 cases l with
 | nil=>cases h
 | cons a r=>
  simp only[zoh] at h
  split at h
  ·cases h
  ·cases h
   exact⟨List.mem_cons_self,List.getLast_mem _⟩
theorem zpL{w:Str}{k:Int}{bs:List Int}{p:Pc}(h:p∈zpu w k bs):p.n=some w∧p.k=k∧p.l∈bs∧p.r∈bs:=by
 unfold zpu at h
 obtain⟨⟨a,b⟩,hx,rfl⟩:=List.mem_map.mp h
 have:=List.of_mem_zip hx
 exact⟨rfl,rfl,this.1,List.mem_of_mem_drop this.2⟩
theorem zls{ws:List Str}{most:Nat}{c:Chan}(g:GoodCh ws most c)(bent:Bool)(l:List Str)(p:Pc)(hp:p∈zd9 c bent l):-1≤p.l∧p.l≤c.top.length∧-1≤p.r∧p.r≤c.top.length∧(p.n=none→0≤p.l∧p.r<c.top.length):=by
 unfold zd9 at hp
 rcases List.mem_append.mp hp with hp | hp
 ·unfold zhF at hp
  obtain⟨k,hk,rfl⟩:=List.mem_map.mp hp
  have:=g.ke.2 k hk
  dsimp only
  omega
 ·obtain⟨w,hw,hp⟩:=List.mem_flatMap.mp hp
  unfold zmD at hp
  split at hp
  ·cases hp
  ·rename_i q hq
   obtain⟨e,_,hl,hr⟩:=zpL hp
   have s:=zpK hq
   have b1:=zpJ c w _ s.1
   have b2:=zpJ c w _ s.2
   have all:∀x∈[q.1]++(if bent then zfj c w else [])++[q.2],-1≤x∧x≤c.top.length:=by
    intro x hx
    rcases List.mem_append.mp hx with hx | hx
    ·rcases List.mem_append.mp hx with hx | hx
     ·simp at hx;omega
     ·split at hx
      ·unfold zfj at hx
       obtain⟨y,hy,rfl⟩:=List.mem_map.mp hx
       obtain⟨n,hn,hn2,_⟩:=g.be.at_ y (List.mem_filter.mp hy).1
       omega
      ·cases hx
    ·simp at hx;omega
   have a1:=all _ hl
   have a2:=all _ hr
   exact⟨a1.1,a1.2,a2.1,a2.2,fun z=>by rw[e] at z;cases z⟩
theorem zjF{ws:List Str}{most:Nat}{c:Chan}(g:GoodCh ws most c)(hw:ws.length=8)(bent:Bool){l:List Str}(hN:Nets c l)(hws:∀w,memN c w→w∈ws):(zd9 c bent l).length≤6+8*(most+1):=by
 unfold zd9 zhF
 rw[List.length_append,List.length_map]
 have h1:=g.ke.1
 have h2:=zfi hN.nd fun w h=>hws w ((hN.mem w).mp h)
 have h3:=g.be.len
 have h4:=g.w2
 have h5:=ziW (zmD c bent) (most+1) (fun w=>by have:=zgI c bent w;omega) l
 have h6:l.length*(most+1)≤8*(most+1):=Nat.mul_le_mul_right _ (by omega)
 omega
theorem zm8{ws:List Str}{most:Nat}{c:Chan}(g:GoodCh ws most c)(w:Str)(h:memN c w):w∈ws:=by
 rcases h with h | h | h | h
 ·exact g.pt w h
 ·exact g.pb w h
 ·exact g.lw w h
 ·exact g.rw_ w h
theorem zjG(ts:List Tr)(h:ts.length≤100000):zdH 6 (.lst (ts.map dT)):=by
 refine⟨by simpa using h,fun d hd=>?_⟩
 obtain⟨t,_,rfl⟩:=List.mem_map.mp hd
 refine⟨by simp,fun d hd=>?_⟩
 simp only[List.mem_cons,List.not_mem_nil,or_false] at hd
 rcases hd with rfl | rfl | rfl<;>trivial
noncomputable def zlt:TX:=(zaF (zaB 1 (zaP 2 zba (zad (zag 0) (zad (dC (.int 10)) zap))))
 (zaF (zaB 2 (zaP 7 zcu (zad (dOp oIx (zag 1) (dC (.int 0))) (zad (dOp oIx (zag 1) (dC (.int 1))) (zad (dOp oIx (zag 1) (dC (.int 2))) (zad (dOp oIx (zag 1) (dC (.int 3))) (zad (dOp oIx (zag 1) (dC (.int 4))) (zad (dOp oIx (zag 1) (dC (.int 5))) (zad (dOp oIx (zag 1) (dC (.int 6))) zap)))))))))
 (zaF (zaB 3 (za5 (zev (zag 1)) [none] (zao 0) zfB (dCB zdB (zad (zag 0) zap))))
 (zaF (zaB 4 (zaP 2 zbS (zad (zag 2) (zad (dOp oEq (dOp (oI (fun _ j=>0<j) fun i j=>.int (i%j)) (dCB zmV (zad (dSl (zag 0) oNo (zcs (dC (.int 1)))) zap)) (dC (.int 2))) (dC (.int 1))) zap))))
 (zaF (zaB 5 (zaP 2 zb8 (zad (zag 3) (zad (zag 4) zap))))
 (zaF (zaB 6 (dCB zdB (zad (zag 4) zap)))
 (zaF (zeV (zdc (zad (dC (.int 2)) zap)) (zao 7) (zaF (zhe 8 (zaP 2 zb7 (zad (zag 2) (zad (zag 6) zap))))
 (zaF (xIf (zoY (za4 (zma 8 (zaP 2 zaM (zad (zag 8) (zad (zag 5) zap)))))) (zcI (dC (.bl false))) zcL)
 (zeU 8 (zdQ (zad (dC (.int 0)) (zad (dC (.int 0)) (zad (dC (.int 0)) zap))))))))
 (zcI (zje (dOp oEq (zag 1) (zag 3)) (dOp oEq (zag 6) (zag 4)))))))))))
theorem zmG(ds:List D)(Qr:R→Prop)(hl:ds.length=1)(h:znG 63 ds Qr):zlt { nx:=fun _=>Qr (.fz .non),rt:=Qr } (zaH ["_law_script","_law_lists","_law_channel_here","_law_kept","_law_pieces","_law_due_here","_law_handed","_law_turn","_law_found"] ds):=by
 obtain⟨ns,rfl,hn,q⟩:=h
 show zlt _ [.fz (dI ns),.un,.un,.un,.un,.un,.un,.un,.un]
 unfold zlt
 have big:=zaL
 walk_at "px"
 refine⟨ns,10,rfl,by omega,by decide,by decide,fun c g=>?_⟩
 have sh:ShCh c:=⟨Nat.le_trans g.w2 (by decide),g.bl,Nat.le_trans g.ll (by decide),Nat.le_trans g.rl (by decide)⟩
 have hws:=zhA (hdS ns)
 generalize zc8 (hdS ns)=ws at g hws
 walk_at "go"
 unfold Chan.parts
 refine⟨_,rfl,_,rfl,_,rfl,_,rfl,_,rfl,_,rfl,_,rfl,_,_,_,_,_,_,_,rfl,?_⟩
 change zlx _ _ [.fz (dI ns),.fz (.lst c.parts),.fz c.obj,.un,.un,.un,.un,.un,.un]
 walk_at "go"
 refine zbA c.parts id id (fun Q' h=>?_) (by rw[zaL];show 7≤16777216;decide) (fun d hd K1 k=>?_) ?_
 ·walk_at "px"
  rw[List.map_id] at h
  exact h
 ·walk_at "px"
  simp only[Chan.parts,List.mem_cons,List.not_mem_nil,or_false] at hd
  rcases hd with rfl | rfl | rfl | rfl | rfl | rfl | rfl<;>exact k
 rw[List.map_id]
 walk_at "go"
 unfold dI
 walk_at "px"
 refine⟨c,_,ws,rfl,sh,by have:=g.be.len;have:=g.w2;omega,by have:=g.ke.1;omega,by have:=hws.len;omega,zm8 g,fun l hN=>?_⟩
 have pin:=zls g (decide ((zeG ns none (some 1)).sum%2=1)) l
 have pl:=zjF g hws.len (decide ((zeG ns none (some 1)).sum%2=1)) hN (zm8 g)
 generalize zd9 c _ l=ps at pin pl ⊢
 have hin:zqH ps:=fun p hp=>by have:=pin p hp;have:=g.w2;omega
 have kin:zih c ps:=fun p hp hn=>(pin p hp).2.2.2.2 hn
 walk_at "go"
 refine⟨c,ps,rfl,sh,by omega,hin,?_⟩
 have dl:(zlA c ps).length≤100000:=by
  have a1:=zbd (fun p=>ps.zipIdx.flatMap (zgM c p)) (94*10) (fun p=>by
   have:=zbd (zgM c p) 10 (fun q=>Nat.le_trans (zhL c p q) g.w2) ps.zipIdx
   rw[List.length_zipIdx] at this
   omega) ps.zipIdx
  rw[List.length_zipIdx] at a1
  unfold zlA
  omega
 walk_at "go"
 walk_at "go"
 refine zbI 2 (fun Q' h=>?_) (fun i ρ=>∃a b:Sl,ρ=[.fz (dI ns),.fz (.lst c.parts),.fz c.obj,.fz (.lst c.parts),.fz (dPs ps),.fz (dTs (zlA c ps)),.fz (dPs ps),a,b]) ⟨_,_,rfl⟩ ?_ ?_
 ·walk_at "px"
  exact h
 ·rintro i ρ hi ⟨a,b,rfl⟩
  walk_at "px"
  refine⟨c,ps,rfl,sh,by omega,fun ts ab=>?_⟩
  rw[zlq g.bl kin ab]
  walk_at "go"
  refine⟨_,rfl,zjG _ dl,?_⟩
  walk_at "go"
  exact⟨rfl,by omega,by simp;omega,_,_,rfl⟩
 ·rintro ρ ⟨a,b,rfl⟩
  walk_at "go"
  have ok:=zlj c
  refine⟨ok.mono (by decide),ok.mono (by decide),?_⟩
  have okp:=zn4 2 ps
  simp only[zen,zdq 3 _ ok,zdq 4 _ okp,if_true]
  exact⟨okp.mono (by decide),okp.mono (by decide),q⟩
end Wc
end
namespace Wc
open PySem PySem.Spec PyProof.Rows L2
noncomputable def top(i:Nat):Stmt:=PySem.Challenge.pw_wirechannel_k20_what_must_lie_above.main.body.getD i (.Pass ⟨0,0,0,0⟩)
structure Txt (K:PySem.W.Frag) (mg:Str→Option Value):Prop where
 b_all:mg "all"=none
 b_bool:mg "bool"=none
 b_enumerate:mg "enumerate"=none
 b_int:mg "int"=none
 b_isinstance:mg "isinstance"=none
 b_len:mg "len"=none
 b_list:mg "list"=none
 b_max:mg "max"=none
 b_min:mg "min"=none
 b_range:mg "range"=none
 b_set:mg "set"=none
 b_sorted:mg "sorted"=none
 b_str:mg "str"=none
 b_sum:mg "sum"=none
 b_tuple:mg "tuple"=none
 b_zip:mg "zip"=none
section
variable {P:Program} {w:World} {K:PySem.W.Frag} {mg:Str→Option Value} {base:Heap}
noncomputable abbrev s_Channel:Stmt:=znv (top 18) 0
theorem zjH:FnScope ["self","top","bottom","left","right","wide","bends","keeps"] ("self"::["top","bottom","left","right","wide","bends","keeps"]) (defScope s_Channel):=⟨rfl,rfl,rfl,by decide +kernel,rfl,by decide +kernel,by decide +kernel⟩
theorem zgO(A:AtC K mg "Channel" "Channel.__init__" s_Channel ["top","bottom","left","right","wide","bends","keeps"])(T:Txt K mg):KnownC P w K mg base 1 "Channel" 7 zcu:=by
 obtain⟨C,f,fd,hC,M,F,hm,na⟩:=A.ex
 refine⟨C,f,fd,_,M,zkH (T:=zdG) F zjH hC (fun cdv A outer s H E hr=>?_) (fun ds Qr _ h=>zhB ds Qr _ (fun fs e p hp=>na.all _ (by rw[←e];exact List.mem_map_of_mem hp)) h),hm,F.binds fun _ _ _ _ _ _ us hl=>by obtain⟨_,_,_,_,_,_,_,_,rfl⟩:=zqG hl;exact rfl⟩
 have hu:=hr.units
 exact(zdf hC.cls na.1 (zbm zdC T.b_list boot_list (zaa (zab 1) zac))
  (zdf hC.cls na.2.1 (zbm zdC T.b_list boot_list (zaa (zab 2) zac))
  (zdf hC.cls na.2.2.1 (zbm zdC T.b_list boot_list (zaa (zab 3) zac))
  (zdf hC.cls na.2.2.2.1 (zbm zdC T.b_list boot_list (zaa (zab 4) zac))
  (zdf hC.cls na.2.2.2.2.1 (zbm zdC T.b_list boot_list (zaa (zab 5) zac))
  (zdf hC.cls na.2.2.2.2.2.1 (zbm zdC T.b_list boot_list (zaa (zab 6) zac))
  (zdf hC.cls na.2.2.2.2.2.2.1 (zbm zdC T.b_list boot_list (zaa (zab 7) zac))
  znN)))))))
noncomputable abbrev s__law_stem:Stmt:=top 20
theorem sc__law_stem:FnScope ["_law_cell","_law_size","_law_signs","_law_stem_here","_law_k"] ["_law_cell","_law_size"] (defScope s__law_stem):=⟨rfl,rfl,rfl,by decide +kernel,rfl,by decide +kernel,by decide +kernel⟩
theorem zfm(A:At K mg "_law_stem" s__law_stem)(T:Txt K mg) :Known P w K mg base 1 "_law_stem" 2 zbO:=zaz 0 A sc__law_stem (fun f cdv A outer s H E hr=>have hu:=hr.units
 (zae (zam 2 zcb sc__law_stem.nd)
   (zae (zam 3 zcb sc__law_stem.nd)
   (zae (zbW PassesOwn.never rfl (zaS T.b_range (zaa (zab 1) zac)) (zah 4 sc__law_stem.nd)
    (zae (zam 3 (zal zaV (zab 3) (zax (zab 2) (zal zbf (zab 0) zaf))) sc__law_stem.nd)
   (zai (zam 0 (zal zbl (zab 0) zaf) sc__law_stem.nd))))
   (zai (zaJ (zab 3))))))) zfG fun _ _ _ _ _ _ us hl=>by obtain⟨_,_,rfl⟩:=ze4 hl;exact rfl
noncomputable abbrev s__law_named:Stmt:=top 21
theorem sc__law_named:FnScope ["_law_cell","_law_size","_law_stem_here","_law_at","_law_other"] ["_law_cell"] (defScope s__law_named):=⟨rfl,rfl,rfl,by decide +kernel,rfl,by decide +kernel,by decide +kernel⟩
theorem zfn:(["_law_sign","_law_stem_here","_law_at","_law_size"]:List Str).Nodup:=by decide +kernel
theorem zfo:(["_law_k","_law_stem_here","_law_size"]:List Str).Nodup:=by decide +kernel
theorem zfp:(["_law_k","_law_stem_here"]:List Str).Nodup:=by decide +kernel
theorem zex(A:At K mg "_law_named" s__law_named)(T:Txt K mg)(C__law_stem:Known P w K mg base 1 "_law_stem" 2 zbO):Known P w K mg base 2 "_law_named" 1 zbD:=zaz 1 A sc__law_named (fun f cdv A outer s H E hr=>have hu:=hr.units
 (zae (zam 0 (zal zbf (zal zg7 (zal zaV (zal zbf (zab 0) (zal zlT zaf zaf)) zaf) zaf) (zal zaV (zal zlT zaf zaf) zaf)) sc__law_named.nd)
   (zae (zam 1 (zal zbf (zab 0) zaf) sc__law_named.nd)
   (zae (zam 2 (zan C__law_stem hr (zaa (zal zbl (zab 0) zaf) (zaa zaf zac))) sc__law_named.nd)
   (zae (zam 3 (zal zbf (zal zbl (zab 0) zaf) (zal zaV (zab 1) zaf)) sc__law_named.nd)
   (zae (zbv (zas (zdP hu) (zal zbf (zal zbl (zab 0) zaf) zaf) zaf) (zai (zaJ (zbj rfl (.of (N':=["_law_sign","_law_stem_here","_law_at","_law_size"]) (m:=[none,some 2,some 3,some 1]) (by kernel_rfl)) zay (za1 zcb) (fun s3 H3 ex=>(zah 0 zfn)) (fun s3 H3 ex=>zbU) (fun s3 H3 ex=>(zal zaV (zal zaV (za2 (zab 1) zbp (zaQ (zab 2))) (zab 0)) (za2 (zab 1) (zaQ (zab 2)) (zaQ (zab 3)))))))) zaA)
   (zae (zbv (zas (zdP hu) (zal zbf (zal zbl (zab 0) zaf) zaf) zaf) (zai (zaJ (zbj rfl (.of (N':=["_law_k","_law_stem_here","_law_size"]) (m:=[none,some 2,some 1]) (by kernel_rfl)) zay (zaS T.b_range (zaa zaf zac)) (fun s3 H3 ex=>(zah 0 zfo)) (fun s3 H3 ex=>zbU) (fun s3 H3 ex=>(zal zaV (zal zaV (zal zaV (za2 (zab 1) zbp (zaQ (zal zbf (zab 2) zaf))) (zax zcb (zal zbl (zab 0) zaf))) (zax zcb (zal zbf (zal zbl (zab 0) zaf) zaf))) (zax zcb (zal zbf (zab 0) zaf))))))) zaA)
   (zae (zam 4 (zal zaV (zax zcb (zbm zql T.b_int boot_int (zaa (zcP (zdP hu) (zax (zab 2) zaf) zcb) zac))) (za2 (zab 2) (zaQ zaf) zbp)) sc__law_named.nd)
   (zai (zaJ (zal zaV (zbj rfl (.of (N':=["_law_k","_law_stem_here"]) (m:=[none,some 2]) (by kernel_rfl)) zay (zaS T.b_range (zaa zaf zac)) (fun s3 H3 ex=>(zah 0 zfp)) (fun s3 H3 ex=>zbU) (fun s3 H3 ex=>(za2 (zab 1) zbp (zaQ (zal zaV (zab 0) zaf))))) (zaR (zaa (za2 (zab 4) zbp (zaQ zaf)) (zaa (za2 (zab 4) zbp (zaQ zaf)) zac)))))))))))))) ze9 fun _ _ _ _ _ _ us hl=>by obtain⟨_,rfl⟩:=zpb hl;exact rfl
noncomputable abbrev s__law_mix:Stmt:=top 22
theorem zii:FnScope ["_law_cell","_law_k"] ["_law_cell","_law_k"] (defScope s__law_mix):=⟨rfl,rfl,rfl,by decide +kernel,rfl,by decide +kernel,by decide +kernel⟩
theorem zfO(A:At K mg "_law_mix" s__law_mix)(T:Txt K mg) :Known P w K mg base 1 "_law_mix" 2 zaE:=zaz 0 A zii (fun f cdv A outer s H E hr=>have hu:=hr.units
 (zai (zaJ (zal zbl (zal zbf (zal zaV (zal zaV (zal zg7 (zal zbf (zab 0) (zal zlT zaf zaf)) (zal zaV (zal zg7 (zab 1) (zab 1)) zaf)) (zal zg7 (zal zg7 (zal zg7 zaf (zab 1)) (zab 1)) (zab 1))) zaf) zaf) zaf)))) zgD fun _ _ _ _ _ _ us hl=>by obtain⟨_,_,rfl⟩:=ze4 hl;exact rfl
noncomputable abbrev s__law_pins:Stmt:=top 23
theorem sc__law_pins:FnScope ["_law_words","_law_cells","_law_seed","_law_width","_law_top","_law_bottom","_law_c","_law_row","_law_side","_law_k","_law_one"] ["_law_words","_law_cells","_law_seed","_law_width"] (defScope s__law_pins):=⟨rfl,rfl,rfl,by decide +kernel,rfl,by decide +kernel,by decide +kernel⟩
theorem zfq(A:At K mg "_law_pins" s__law_pins)(T:Txt K mg)(C__law_mix:Known P w K mg base 1 "_law_mix" 2 zaE):Known P w K mg base 2 "_law_pins" 4 zbP:=zaz 1 A sc__law_pins (fun f cdv A outer s H E hr=>have hu:=hr.units
 (zae (zcQ 4 (zaR zac) sc__law_pins.nd)
   (zae (zcQ 5 (zaR zac) sc__law_pins.nd)
   (zae (zbW PassesOwn.never rfl (zaS T.b_range (zaa (zab 3) zac)) (zah 6 sc__law_pins.nd)
    (zae (zcQ 7 (zaR zac) sc__law_pins.nd)
   (zae (zbW PassesOwn.never rfl (zaS T.b_range (zaa zaf zac)) (zah 8 sc__law_pins.nd)
    (zae (zam 9 (zal zaV (zal zg7 zaf (zab 6)) (zab 8)) sc__law_pins.nd)
   (zae (zam 10 (zan C__law_mix hr (zaa (zab 2) (zaa (zab 9) zac))) sc__law_pins.nd)
   (zae (zbv (zas zpN (zab 9) (zav zeX T.b_len boot_len (zaa (zab 1) zac))) (zai (zam 10 (zan C__law_mix hr (zaa (zax (zab 1) (zab 9)) (zaa (zab 9) zac))) sc__law_pins.nd)) zaA)
   (zai (zb2 7 (zax (zaR (zaa (zax (zab 0) (zal zbf (zab 10) zaf)) (zaa (zax (zab 0) (zal zbf (zal zbl (zab 10) zaf) zaf)) (zaa (zax (zab 0) (zal zbf (zal zbl (zab 10) zaf) zaf)) (zaa zbk zac))))) (zal zbf (zal zbl (zab 10) zaf) zaf))))))))
   (zae (zb2 4 (zmS 7 zaf))
   (zai (zb2 5 (zmS 7 zaf)))))))
   (zgl 5 (zgl 4 (zai (zaJ (zby (zaa (zab 4) (zaa (zab 5) zac))))))))))) zfH fun _ _ _ _ _ _ us hl=>by obtain⟨_,_,_,_,rfl⟩:=zqp hl;exact rfl
noncomputable abbrev s__law_open:Stmt:=top 28
theorem zhM:FnScope ["_law_words","_law_bits"] ["_law_words","_law_bits"] (defScope s__law_open):=⟨rfl,rfl,rfl,by decide +kernel,rfl,by decide +kernel,by decide +kernel⟩
theorem zfP:(["_law_k","_law_words","_law_bits"]:List Str).Nodup:=by decide +kernel
theorem zfr(A:At K mg "_law_open" s__law_open)(T:Txt K mg) :Known P w K mg base 1 "_law_open" 2 zbt:=zaz 0 A zhM (fun f cdv A outer s H E hr=>have hu:=hr.units
 (zae (zbv (zas (zdP hu) (zal zbf (zal zbl (zab 1) zaf) zaf) zaf) (zai (zaJ (zaR zac))) zaA)
   (zai (zaJ (zav (ziC rfl) T.b_sorted boot_sorted (zaa (zbj rfl (.of (N':=["_law_k","_law_words","_law_bits"]) (m:=[none,some 0,some 1]) (by kernel_rfl)) zay (zaS T.b_range (zaa zaf zac)) (fun s3 H3 ex=>(zah 0 zfP)) (fun s3 H3 ex=>(zb4 (zas (zdP hu) (zal zbf (zal zbl (zab 2) (zax (zaR (zaa zaf (zaa zaf (zaa zaf (zaa zaf (zaa zaf (zaa zaf (zaa zaf (zaa zaf zac))))))))) (zab 0))) zaf) zaf))) (fun s3 H3 ex=>(zax (zab 1) (zab 0)))) zac)))))) zfJ fun _ _ _ _ _ _ us hl=>by obtain⟨_,_,rfl⟩:=ze4 hl;exact rfl
noncomputable abbrev s__law_many:Stmt:=top 24
theorem sc__law_many:FnScope ["_law_top","_law_bottom","_law_left","_law_right","_law_word","_law_some"] ["_law_top","_law_bottom","_law_left","_law_right","_law_word"] (defScope s__law_many):=⟨rfl,rfl,rfl,by decide +kernel,rfl,by decide +kernel,by decide +kernel⟩
theorem zfs(A:At K mg "_law_many" s__law_many)(T:Txt K mg) :Known P w K mg base 1 "_law_many" 5 zbs:=zaz 0 A sc__law_many (fun f cdv A outer s H E hr=>have hu:=hr.units
 (zae (zam 5 (zal zaV (zal zaV (zal zaV (zab 0) (zab 1)) (zab 2)) (zab 3)) sc__law_many.nd)
   (zai (zaJ (znJ (znK hu) (.inl rfl) PySem.F.plainAttrs_list PySem.F.slot_list_count PySem.F.type_list_count (zab 5) (zaa (zab 4) zac)))))) zfI fun _ _ _ _ _ _ us hl=>by obtain⟨_,_,_,_,_,rfl⟩:=zqq hl;exact rfl
noncomputable abbrev s__law_stretch:Stmt:=top 25
theorem sc__law_stretch:FnScope ["_law_top","_law_bottom","_law_left","_law_right","_law_word","_law_places"] ["_law_top","_law_bottom","_law_left","_law_right","_law_word"] (defScope s__law_stretch):=⟨rfl,rfl,rfl,by decide +kernel,rfl,by decide +kernel,by decide +kernel⟩
theorem zee:(["_law_c","_law_word","_law_top","_law_bottom"]:List Str).Nodup:=by decide +kernel
theorem zdI(A:At K mg "_law_stretch" s__law_stretch)(T:Txt K mg) :Known P w K mg base 1 "_law_stretch" 5 za9:=zaz 0 A sc__law_stretch (fun f cdv A outer s H E hr=>have hu:=hr.units
 (zae (zkn 5 rfl (.of (N':=["_law_c","_law_word","_law_top","_law_bottom"]) (m:=[none,some 4,some 0,some 1]) (by kernel_rfl)) zay (zaS T.b_range (zaa (zav zeX T.b_len boot_len (zaa (zab 0) zac)) zac)) (fun s3 H3 ex=>(zah 0 zee)) (fun s3 H3 ex=>(zb4 (zas (zmP hu) (zab 1) (zaR (zaa (zax (zab 2) (zab 0)) (zaa (zax (zab 3) (zab 0)) zac)))))) (fun s3 H3 ex=>(zab 0)) sc__law_stretch.nd)
   (zae (zbv (zas (zmP hu) (zab 4) (zab 2)) (zai (zb2 5 (zkw zaf))) zaA)
   (zae (zbv (zas (zmP hu) (zab 4) (zab 3)) (zai (zb2 5 (zav zeX T.b_len boot_len (zaa (zab 0) zac)))) zaA)
   (zgl 5 (zai (zaJ (zby (zaa (zav (znH rfl) T.b_min boot_min (zaa (zal zaV (zab 5) (zaR (zaa zaf zac))) zac)) (zaa (zav (zl6 rfl) T.b_max boot_max (zaa (zal zaV (zab 5) (zaR (zaa (zkw zaf) zac))) zac)) zac)))))))))) zd5 fun _ _ _ _ _ _ us hl=>by obtain⟨_,_,_,_,_,rfl⟩:=zqq hl;exact rfl
noncomputable abbrev s__law_bends:Stmt:=top 26
theorem sc__law_bends:FnScope ["_law_lists","_law_words","_law_cells","_law_seed","_law_top","_law_bottom","_law_left","_law_right","_law_bends_here","_law_c","_law_one","_law_word","_law_l","_law_r","_law_here"] ["_law_lists","_law_words","_law_cells","_law_seed"] (defScope s__law_bends):=⟨rfl,rfl,rfl,by decide +kernel,rfl,by decide +kernel,by decide +kernel⟩
theorem zft:(["_law_x"]:List Str).Nodup:=by decide +kernel
theorem zey(A:At K mg "_law_bends" s__law_bends)(T:Txt K mg)(C__law_mix:Known P w K mg base 1 "_law_mix" 2 zaE)(C__law_stretch:Known P w K mg base 1 "_law_stretch" 5 za9):Known P w K mg base 2 "_law_bends" 4 zbE:=zaz 1 A sc__law_bends (fun f cdv A outer s H E hr=>have hu:=hr.units
 (zae (zkk (zab 0) (znM rfl (zak (zah 4 sc__law_bends.nd) (zak (zah 5 sc__law_bends.nd) (zak (zah 6 sc__law_bends.nd) (zak (zah 7 sc__law_bends.nd) zaO))))))
   (zae (zcQ 8 (zaR zac) sc__law_bends.nd)
   (zae (zbW PassesOwn.never rfl (zaS T.b_range (zaa (zav zeX T.b_len boot_len (zaa (zab 4) zac)) zac)) (zah 9 sc__law_bends.nd)
    (zae (zam 10 (zan C__law_mix hr (zaa (zax (zal zaV (zab 2) (zaR (zaa (zab 3) zac))) (zal zbf (zab 9) (zal zaV (zav zeX T.b_len boot_len (zaa (zab 2) zac)) zaf))) (zaa (zal zaV (zab 9) zaf) zac))) sc__law_bends.nd)
   (zae (zam 11 (zax (zab 1) (zal zbf (zab 10) zaf)) sc__law_bends.nd)
   (zae (zbv (zbT (zas (zdP hu) (zal zbf (zal zbl (zab 10) zaf) zaf) zaf) (zcB (zas zcj (zax (zab 4) (zab 9)) zbk))).pb (zai (zam 11 (zax (zab 4) (zab 9)) sc__law_bends.nd)) zaA)
   (zae (zkk (zan C__law_stretch hr (zaa (zab 4) (zaa (zab 5) (zaa (zab 6) (zaa (zab 7) (zaa (zab 11) zac)))))) (zbi rfl (zak (zah 12 sc__law_bends.nd) (zak (zah 13 sc__law_bends.nd) zaO))))
   (zae (zdz 14 rfl (.of (N':=["_law_x"]) (m:=[none]) (by kernel_rfl)) zay (za1 (zaR (zaa (zax (zab 4) (zab 9)) (zaa (zax (zab 5) (zab 9)) zac)))) (fun s3 H3 ex=>(zah 0 zft)) (fun s3 H3 ex=>(zb4 (zas zcj (zab 0) zbk))) (fun s3 H3 ex=>(zab 0)) sc__law_bends.nd)
   (zai (zbv (zbT (zas zpN (zab 12) (zab 9)) (zbT (zas zpN (zab 9) (zab 13)) (zbT (zmR (zas (zdP hu) (zab 14) (zaR zac)) (zkj (zas (zmP hu) (zab 11) (zab 14)))).pb (zcB (zas zqi (zal zbf (zal zbl (zab 10) zaf) zaf) zaf))))).pb (zai (zb2 8 (zby (zaa (zab 9) (zaa (zab 11) zac))))) zaA))))))))
   (zai (zdb 8)))))) zfb fun _ _ _ _ _ _ us hl=>by obtain⟨_,_,_,_,rfl⟩:=zqp hl;exact rfl
noncomputable abbrev s__law_keeps:Stmt:=top 27
theorem sc__law_keeps:FnScope ["_law_width","_law_cells","_law_seed","_law_keeps_here","_law_k","_law_cell","_law_one","_law_first"] ["_law_width","_law_cells","_law_seed"] (defScope s__law_keeps):=⟨rfl,rfl,rfl,by decide +kernel,rfl,by decide +kernel,by decide +kernel⟩
theorem zez(A:At K mg "_law_keeps" s__law_keeps)(T:Txt K mg)(C__law_mix:Known P w K mg base 1 "_law_mix" 2 zaE):Known P w K mg base 2 "_law_keeps" 3 zbF:=zaz 1 A sc__law_keeps (fun f cdv A outer s H E hr=>have hu:=hr.units
 (zae (zcQ 3 (zaR zac) sc__law_keeps.nd)
   (zae (zbW PassesOwn.never rfl (zcC T.b_enumerate (zaa (za2 (zab 1) zbp (zaQ zaf)) zac)) (zbi rfl (zak (zah 4 sc__law_keeps.nd) (zak (zah 5 sc__law_keeps.nd) zaO)))
    (zae (zam 6 (zan C__law_mix hr (zaa (zal zaV (zab 5) (zab 2)) (zaa (zal zaV (zab 4) zaf) zac))) sc__law_keeps.nd)
   (zae (zam 7 (zal zbf (zab 6) (zab 0)) sc__law_keeps.nd)
   (zai (zbv (zas (zdP hu) (zal zbf (zal zbl (zab 6) zaf) zaf) zaf) (zai (zb2 3 (zby (zaa (zab 7) (zaa (zal zaV (zab 7) (zal zbf (zal zbl (zab 6) zaf) (zal zoU (zab 0) (zab 7)))) (zaa (zal zaV zaf (zal zbf (zal zbl (zab 6) zaf) zaf)) zac)))))) zaA)))))
   (zai (zdb 3))))) zfc fun _ _ _ _ _ _ us hl=>by obtain⟨_,_,_,rfl⟩:=zog hl;exact rfl
noncomputable abbrev s__law_channel:Stmt:=top 29
theorem sc__law_channel:FnScope ["_law_script","_law_most","_law_seed","_law_words","_law_width","_law_cells","_law_top","_law_bottom","_law_bits","_law_left","_law_right","_law_lone","_law_wide","_law_k","_law_word","_law_one","_law_bends_here","_law_keeps_here"] ["_law_script","_law_most"] (defScope s__law_channel):=⟨rfl,rfl,rfl,by decide +kernel,rfl,by decide +kernel,by decide +kernel⟩
theorem zef:(["_law_word","_law_top","_law_bottom","_law_left","_law_right"]:List Str).Nodup:=by decide +kernel
theorem zeg:(["_law_word","_law_lone"]:List Str).Nodup:=by decide +kernel
theorem zeh:(["_law_word","_law_lone"]:List Str).Nodup:=by decide +kernel
theorem zei:(["_law_word","_law_lone"]:List Str).Nodup:=by decide +kernel
theorem zej:(["_law_word","_law_lone"]:List Str).Nodup:=by decide +kernel
theorem zdJ(A:At K mg "_law_channel" s__law_channel)(T:Txt K mg)(C__law_named:Known P w K mg base 2 "_law_named" 1 zbD)(C__law_pins:Known P w K mg base 2 "_law_pins" 4 zbP)(C__law_mix:Known P w K mg base 1 "_law_mix" 2 zaE)(C__law_open:Known P w K mg base 1 "_law_open" 2 zbt)(C__law_many:Known P w K mg base 1 "_law_many" 5 zbs)(C__law_bends:Known P w K mg base 2 "_law_bends" 4 zbE)(C__law_keeps:Known P w K mg base 2 "_law_keeps" 3 zbF):Known P w K mg base 3 "_law_channel" 2 zba:=zaz 2 A sc__law_channel (fun f cdv A outer s H E hr=>have hu:=hr.units
 (zae (zam 2 (zal zbf (zal zg7 (zal zbf (zav (zl5 rfl) T.b_sum boot_sum (zaa (za2 (zab 0) zbp (zaQ zaf)) zac)) (zal zlT zaf zaf)) zaf) zaf) sc__law_channel.nd)
   (zae (zam 3 (zan C__law_named hr (zaa (zav (zl5 rfl) T.b_sum boot_sum (zaa (za2 (zab 0) zbp (zaQ zaf)) zac)) zac)) sc__law_channel.nd)
   (zae (zam 4 (zal zaV zaf (zal zbf (zab 2) (zab 1))) sc__law_channel.nd)
   (zae (zam 5 (za2 (zab 0) (zaQ zaf) zbp) sc__law_channel.nd)
   (zae (zkk (zan C__law_pins hr (zaa (zab 3) (zaa (zab 5) (zaa (zab 2) (zaa (zab 4) zac))))) (zbi rfl (zak (zah 6 sc__law_channel.nd) (zak (zah 7 sc__law_channel.nd) zaO))))
   (zae (zam 8 (zan C__law_mix hr (zaa (zav (zl5 rfl) T.b_sum boot_sum (zaa (za2 (zab 0) (zaQ zaf) (zaQ zaf)) zac)) (zaa (zal zaV zaf (zal zbf (zab 2) zaf)) zac))) sc__law_channel.nd)
   (zae (zam 9 (zan C__law_open hr (zaa (zab 3) (zaa (zab 8) zac))) sc__law_channel.nd)
   (zae (zam 10 (zan C__law_open hr (zaa (zab 3) (zaa (zal zbl (zab 8) zaf) zac))) sc__law_channel.nd)
   (zae (zam 11 (zbj rfl (.of (N':=["_law_word","_law_top","_law_bottom","_law_left","_law_right"]) (m:=[none,some 6,some 7,some 9,some 10]) (by kernel_rfl)) zay (za1 (zab 3)) (fun s3 H3 ex=>(zah 0 zef)) (fun s3 H3 ex=>(zb4 (zas (zdP hu) (zan C__law_many hr (zaa (zab 1) (zaa (zab 2) (zaa (zab 3) (zaa (zab 4) (zaa (zab 0) zac)))))) zaf))) (fun s3 H3 ex=>(zab 0))) sc__law_channel.nd)
   (zae (zam 6 (zbj rfl (.of (N':=["_law_word","_law_lone"]) (m:=[none,some 11]) (by kernel_rfl)) zay (za1 (zab 6)) (fun s3 H3 ex=>(zah 0 zeg)) (fun s3 H3 ex=>zbU) (fun s3 H3 ex=>(zgk (zas (zmP hu) (zab 0) (zab 1)) zbk (zab 0)))) sc__law_channel.nd)
   (zae (zam 7 (zbj rfl (.of (N':=["_law_word","_law_lone"]) (m:=[none,some 11]) (by kernel_rfl)) zay (za1 (zab 7)) (fun s3 H3 ex=>(zah 0 zeh)) (fun s3 H3 ex=>zbU) (fun s3 H3 ex=>(zgk (zas (zmP hu) (zab 0) (zab 1)) zbk (zab 0)))) sc__law_channel.nd)
   (zae (zam 9 (zbj rfl (.of (N':=["_law_word","_law_lone"]) (m:=[none,some 11]) (by kernel_rfl)) zay (za1 (zab 9)) (fun s3 H3 ex=>(zah 0 zei)) (fun s3 H3 ex=>(zb4 (zas (zki hu) (zab 0) (zab 1)))) (fun s3 H3 ex=>(zab 0))) sc__law_channel.nd)
   (zae (zam 10 (zbj rfl (.of (N':=["_law_word","_law_lone"]) (m:=[none,some 11]) (by kernel_rfl)) zay (za1 (zab 10)) (fun s3 H3 ex=>(zah 0 zej)) (fun s3 H3 ex=>(zb4 (zas (zki hu) (zab 0) (zab 1)))) (fun s3 H3 ex=>(zab 0))) sc__law_channel.nd)
   (zae (zcQ 12 (zaR zac) sc__law_channel.nd)
   (zae (zbW PassesOwn.never rfl (zcC T.b_enumerate (zaa (zav (ziC rfl) T.b_sorted boot_sorted (zaa (zab 3) zac)) zac)) (zbi rfl (zak (zah 13 sc__law_channel.nd) (zak (zah 14 sc__law_channel.nd) zaO)))
    (zae (zam 15 (zan C__law_mix hr (zaa (zal zaV (zab 2) (zab 13)) (zaa zaf zac))) sc__law_channel.nd)
   (zai (zbv (zbT (zas (zdP hu) (zal zbf (zab 15) zaf) zaf) (zcB (zas zqi (zan C__law_many hr (zaa (zab 6) (zaa (zab 7) (zaa (zab 9) (zaa (zab 10) (zaa (zab 14) zac)))))) zaf))).pb (zai (zb2 12 (zby (zaa (zab 14) (zaa (zal zaV zaf (zal zbf (zal zbl (zab 15) zaf) zaf)) zac))))) zaA))))
   (zae (zam 16 (zan C__law_bends hr (zaa (zaR (zaa (zab 6) (zaa (zab 7) (zaa (zab 9) (zaa (zab 10) zac))))) (zaa (zab 3) (zaa (zab 5) (zaa (zab 2) zac))))) sc__law_channel.nd)
   (zae (zam 17 (zaR zac) sc__law_channel.nd)
   (zae (zbv (zas (zdP hu) (zal zbf (zal zbl (zab 2) zaf) zaf) zaf) (zai (zam 17 (zan C__law_keeps hr (zaa (zab 4) (zaa (zab 5) (zaa (zab 2) zac)))) sc__law_channel.nd)) zaA)
   (zgl 12 (zai (zaJ (zaR (zaa (zab 6) (zaa (zab 7) (zaa (zab 9) (zaa (zab 10) (zaa (zab 12) (zaa (zab 16) (zaa (zab 17) zac)))))))))))))))))))))))))))))) zd6 fun _ _ _ _ _ _ us hl=>by obtain⟨_,_,rfl⟩:=ze4 hl;exact rfl
noncomputable abbrev s_nets_of:Stmt:=top 2
theorem sc_nets_of:FnScope ["channel","pins"] ["channel"] (defScope s_nets_of):=⟨rfl,rfl,rfl,by decide +kernel,rfl,by decide +kernel,by decide +kernel⟩
theorem zhN:(["name"]:List Str).Nodup:=by decide +kernel
theorem zgP(A:At K mg "nets_of" s_nets_of)(T:Txt K mg) :Known P w K mg base 1 "nets_of" 1 zb1:=zaz 0 A sc_nets_of (fun f cdv A outer s H E hr=>have hu:=hr.units
 (zae (zdz 1 rfl (.of (N':=["name"]) (m:=[none]) (by kernel_rfl)) zay (za1 (zal zaV (zbY (zab 0)) (zbY (zab 0)))) (fun s3 H3 ex=>(zah 0 zhN)) (fun s3 H3 ex=>(zb4 (zas zcj (zab 0) zbk))) (fun s3 H3 ex=>(zab 0)) sc_nets_of.nd)
   (zai (zaJ (zhs rfl T.b_sorted T.b_set (zaa (zal zaV (zal zaV (zab 1) (zbY (zab 0))) (zbY (zab 0))) zac)))))) zhD fun _ _ _ _ _ _ us hl=>by obtain⟨_,rfl⟩:=zpb hl;exact rfl
noncomputable abbrev s_ends_of:Stmt:=top 1
theorem sc_ends_of:FnScope ["channel","name","ends","column"] ["channel","name"] (defScope s_ends_of):=⟨rfl,rfl,rfl,by decide +kernel,rfl,by decide +kernel,by decide +kernel⟩
theorem zgQ(A:At K mg "ends_of" s_ends_of)(T:Txt K mg) :Known P w K mg base 1 "ends_of" 2 zcv:=zaz 0 A sc_ends_of (fun f cdv A outer s H E hr=>have hu:=hr.units
 (zae (zcQ 2 (zaR zac) sc_ends_of.nd)
   (zae (zbv (zas (zmP hu) (zab 1) (zbY (zab 0))) (zai (zb2 2 (zby (zaa zcb zac)))) zaA)
   (zae (zbW PassesOwn.never rfl (zaS T.b_range (zaa (zav zeX T.b_len boot_len (zaa (zbY (zab 0)) zac)) zac)) (zah 3 sc_ends_of.nd)
    (zae (zbv (zas (zdP hu) (zax (zbY (zab 0)) (zab 3)) (zab 1)) (zai (zb2 2 (zby (zaa zcb (zaa (zab 3) zac))))) zaA)
   (zai (zbv (zas (zdP hu) (zax (zbY (zab 0)) (zab 3)) (zab 1)) (zai (zb2 2 (zby (zaa zcb (zaa (zab 3) zac))))) zaA))))
   (zae (zbv (zas (zmP hu) (zab 1) (zbY (zab 0))) (zai (zb2 2 (zby (zaa zcb zac)))) zaA)
   (zai (zdb 2))))))) zhC fun _ _ _ _ _ _ us hl=>by obtain⟨_,_,rfl⟩:=ze4 hl;exact rfl
noncomputable abbrev s_column_of:Stmt:=top 4
theorem zhO:FnScope ["channel","end"] ["channel","end"] (defScope s_column_of):=⟨rfl,rfl,rfl,by decide +kernel,rfl,by decide +kernel,by decide +kernel⟩
theorem zfu(A:At K mg "column_of" s_column_of)(T:Txt K mg) :Known P w K mg base 1 "column_of" 2 zbQ:=zaz 0 A zhO (fun f cdv A outer s H E hr=>have hu:=hr.units
 (zae (zbv (zas (zdP hu) (zax (zab 1) zaf) zcb) (zai (zaJ (zkw zaf))) zaA)
   (zae (zbv (zas (zdP hu) (zax (zab 1) zaf) zcb) (zai (zaJ (zav zeX T.b_len boot_len (zaa (zbY (zab 0)) zac)))) zaA)
   (zai (zaJ (zax (zab 1) zaf)))))) zfK fun _ _ _ _ _ _ us hl=>by obtain⟨_,_,rfl⟩:=ze4 hl;exact rfl
noncomputable abbrev s_stretch_of:Stmt:=top 5
theorem sc_stretch_of:FnScope ["channel","name","columns"] ["channel","name"] (defScope s_stretch_of):=⟨rfl,rfl,rfl,by decide +kernel,rfl,by decide +kernel,by decide +kernel⟩
theorem zfv:(["end","channel"]:List Str).Nodup:=by decide +kernel
theorem zeA(A:At K mg "stretch_of" s_stretch_of)(T:Txt K mg)(C_ends_of:Known P w K mg base 1 "ends_of" 2 zcv)(C_column_of:Known P w K mg base 1 "column_of" 2 zbQ):Known P w K mg base 2 "stretch_of" 2 zbG:=zaz 1 A sc_stretch_of (fun f cdv A outer s H E hr=>have hu:=hr.units
 (zae (zdz 2 rfl (.of (N':=["end","channel"]) (m:=[none,some 0]) (by kernel_rfl)) zay (za1 (zan C_ends_of hr (zaa (zab 0) (zaa (zab 1) zac)))) (fun s3 H3 ex=>(zah 0 zfv)) (fun s3 H3 ex=>zbU) (fun s3 H3 ex=>(zan C_column_of hr (zaa (zab 1) (zaa (zab 0) zac)))) sc_stretch_of.nd)
   (zae (zbv (zas zpN (zkF rfl T.b_len T.b_set (zaa (zab 2) zac)) zaf) (zai (zaJ zbk)) zaA)
   (zai (zaJ (zby (zaa (zav (znH rfl) T.b_min boot_min (zaa (zab 2) zac)) (zaa (zav (zl6 rfl) T.b_max boot_max (zaa (zab 2) zac)) zac)))))))) zfg fun _ _ _ _ _ _ us hl=>by obtain⟨_,_,rfl⟩:=ze4 hl;exact rfl
noncomputable abbrev s_bend_columns:Stmt:=top 9
theorem zfw:FnScope ["channel","name"] ["channel","name"] (defScope s_bend_columns):=⟨rfl,rfl,rfl,by decide +kernel,rfl,by decide +kernel,by decide +kernel⟩
theorem zcw:(["column","bent_name","name"]:List Str).Nodup:=by decide +kernel
theorem zdK(A:At K mg "bend_columns" s_bend_columns)(T:Txt K mg) :Known P w K mg base 1 "bend_columns" 2 zbb:=zaz 0 A zfw (fun f cdv A outer s H E hr=>have hu:=hr.units
 (zai (zaJ (zbj rfl (.of (N':=["column","bent_name","name"]) (m:=[none,none,some 1]) (by kernel_rfl)) zb3 (za1 (zbY (zab 0))) (fun s3 H3 ex=>(zbi rfl (zak (zah 0 zcw) (zak (zah 1 zcw) zaO)))) (fun s3 H3 ex=>(zb4 (zas (zdP hu) (zab 1) (zab 2)))) (fun s3 H3 ex=>(zab 0)))))) zd8 fun _ _ _ _ _ _ us hl=>by obtain⟨_,_,rfl⟩:=ze4 hl;exact rfl
noncomputable abbrev s_width_of:Stmt:=top 3
theorem sc_width_of:FnScope ["channel","name","wide_name","width"] ["channel","name"] (defScope s_width_of):=⟨rfl,rfl,rfl,by decide +kernel,rfl,by decide +kernel,by decide +kernel⟩
theorem zfQ(A:At K mg "width_of" s_width_of)(T:Txt K mg) :Known P w K mg base 1 "width_of" 2 zbM:=zaz 0 A sc_width_of (fun f cdv A outer s H E hr=>have hu:=hr.units
 (zae (zbW PassesOwn.never rfl (za1 (zbY (zab 0))) (zbi rfl (zak (zah 2 sc_width_of.nd) (zak (zah 3 sc_width_of.nd) zaO)))
    (zai (zbv (zas (zdP hu) (zab 2) (zab 1)) (zai (zaJ (zab 3))) zaA)))
   (zai (zaJ zaf)))) zgH fun _ _ _ _ _ _ us hl=>by obtain⟨_,_,rfl⟩:=ze4 hl;exact rfl
noncomputable abbrev s_net_pieces:Stmt:=top 8
theorem sc_net_pieces:FnScope ["channel","name","bent","stretch","cuts","borders","width"] ["channel","name","bent"] (defScope s_net_pieces):=⟨rfl,rfl,rfl,by decide +kernel,rfl,by decide +kernel,by decide +kernel⟩
theorem zcZ:(["first","last","name","width"]:List Str).Nodup:=by decide +kernel
theorem zeB(A:At K mg "net_pieces" s_net_pieces)(T:Txt K mg)(C_stretch_of:Known P w K mg base 2 "stretch_of" 2 zbG)(C_bend_columns:Known P w K mg base 1 "bend_columns" 2 zbb)(C_width_of:Known P w K mg base 1 "width_of" 2 zbM):Known P w K mg base 3 "net_pieces" 3 zbg:=zaz 2 A sc_net_pieces (fun f cdv A outer s H E hr=>have hu:=hr.units
 (zae (zam 3 (zan C_stretch_of hr (zaa (zab 0) (zaa (zab 1) zac))) sc_net_pieces.nd)
   (zae (zbv (zas zoX (zab 3) zbk) (zai (zaJ (zaR zac))) zaA)
   (zae (zam 4 (zgk (zfY (zab 2)) (zan C_bend_columns hr (zaa (zab 0) (zaa (zab 1) zac))) (zaR zac)) sc_net_pieces.nd)
   (zae (zam 5 (zal zaV (zal zaV (zaR (zaa (zax (zab 3) zaf) zac)) (zab 4)) (zaR (zaa (zax (zab 3) zaf) zac))) sc_net_pieces.nd)
   (zae (zam 6 (zan C_width_of hr (zaa (zab 0) (zaa (zab 1) zac))) sc_net_pieces.nd)
   (zai (zaJ (zbj rfl (.of (N':=["first","last","name","width"]) (m:=[none,none,some 1,some 6]) (by kernel_rfl)) zb3 (znC T.b_zip (zaa (zab 5) (zaa (za2 (zab 5) (zaQ zaf) zbp) zac))) (fun s3 H3 ex=>(zbi rfl (zak (zah 0 zcZ) (zak (zah 1 zcZ) zaO)))) (fun s3 H3 ex=>zbU) (fun s3 H3 ex=>(zby (zaa (zab 2) (zaa (zab 0) (zaa (zab 1) (zaa (zab 3) zac))))))))))))))) zfk fun _ _ _ _ _ _ us hl=>by obtain⟨_,_,_,rfl⟩:=zog hl;exact rfl
noncomputable abbrev s_pieces_of:Stmt:=top 7
theorem sc_pieces_of:FnScope ["channel","bent","pieces","name"] ["channel","bent"] (defScope s_pieces_of):=⟨rfl,rfl,rfl,by decide +kernel,rfl,by decide +kernel,by decide +kernel⟩
theorem zcq:(["first","last","tracks"]:List Str).Nodup:=by decide +kernel
theorem zhP(T:Txt K mg)(C_nets_of:Known P w K mg base 1 "nets_of" 1 zb1)(C_net_pieces:Known P w K mg base 3 "net_pieces" 3 zbg){f:Addr}(cdv:Value)(A:Around)(outer:List Env)(s:Shared)(H:Hp)(E:XK)(hr:Room 3 (A.deeper (envOfC "pieces_of" (defScope s_pieces_of) s.heap.objs.size f cdv))) :
  PXs (zi8 CX0 P w K mg base ["channel","bent","pieces","name"] "pieces_of" (defScope s_pieces_of) f cdv A outer s H E).nox (defBody s_pieces_of) zcG:=by
 have hu:=hr.units
 exact(zae (zkn 2 rfl (.of (N':=["first","last","tracks"]) (m:=[none,none,none]) (by kernel_rfl)) zhY (za1 (zbY (zab 0))) (fun s3 H3 ex=>(zbi rfl (zak (zah 0 zcq) (zak (zah 1 zcq) (zak (zah 2 zcq) zaO))))) (fun s3 H3 ex=>zbU) (fun s3 H3 ex=>(zby (zaa zbk (zaa (zab 0) (zaa (zab 1) (zaa (zab 2) zac)))))) sc_pieces_of.nd)
   (zae (zbW PassesOwn.never rfl (za1 (zan C_nets_of hr (zaa (zab 0) zac))) (zah 3 sc_pieces_of.nd)
    (zai (zkR 2 (zan C_net_pieces hr (zaa (zab 0) (zaa (zab 3) (zaa (zab 1) zac)))))))
   (zai (zdb 2))))
theorem zfx(A:AtD K mg "pieces_of" s_pieces_of [.bool false])(T:Txt K mg)(C_nets_of:Known P w K mg base 1 "nets_of" 1 zb1)(C_net_pieces:Known P w K mg base 3 "net_pieces" 3 zbg):KnownD P w K mg base 4 "pieces_of" 2 zbS false:=by
 obtain⟨_,f,fd,_,_,F,hm,lk,hd⟩:=A.ex
 exact⟨f,fd,["channel","bent"],zck F sc_pieces_of (zhP T C_nets_of C_net_pieces) zfN,hm,F.kp,F.bindsD 2 lk hd (fun _ _ _ _ _ _ us hl=>match us,hl with | [_,_],_=>⟨_,rfl,rfl⟩),F.bindsD 1 lk hd (fun _ _ _ _ _ _ us hl=>match us,hl with | [_],_=>⟨_,rfl,rfl⟩)⟩
noncomputable abbrev s__law_due:Stmt:=top 31
theorem sc__law_due:FnScope ["_law_lists","_law_pieces","_law_due_here","_law_p","_law_one","_law_q","_law_other","_law_nets","_law_c"] ["_law_lists","_law_pieces"] (defScope s__law_due):=⟨rfl,rfl,rfl,by decide +kernel,rfl,by decide +kernel,by decide +kernel⟩
theorem zfR(A:At K mg "_law_due" s__law_due)(T:Txt K mg) :Known P w K mg base 1 "_law_due" 2 zb8:=zaz 0 A sc__law_due (fun f cdv A outer s H E hr=>have hu:=hr.units
 (zae (zcQ 2 (zaR zac) sc__law_due.nd)
   (zae (zbW PassesOwn.never rfl (zcC T.b_enumerate (zaa (zab 1) zac)) (zbi rfl (zak (zah 3 sc__law_due.nd) (zak (zah 4 sc__law_due.nd) zaO)))
    (zai (zbW PassesOwn.never rfl (zcC T.b_enumerate (zaa (zab 1) zac)) (zbi rfl (zak (zah 5 sc__law_due.nd) (zak (zah 6 sc__law_due.nd) zaO)))
    (zae (zam 7 (zeT (zcP zcj (zax (zab 4) zaf) zbk) (zeT (zcP zcj (zax (zab 6) zaf) zbk) (zhc (zcP (zqj hu) (zax (zab 4) zaf) (zax (zab 6) zaf))))) sc__law_due.nd)
   (zai (zbW PassesOwn.never rfl (zji T.b_range (zaa (zav (zo8 rfl) T.b_max boot_max (zaa (zax (zab 4) zaf) (zaa (zax (zab 6) zaf) (zaa zaf zac)))) (zaa (zal zaV (zav (zo9 rfl) T.b_min boot_min (zaa (zax (zab 4) zaf) (zaa (zax (zab 6) zaf) (zaa (zal zoU (zav zeX T.b_len boot_len (zaa (zax (zab 0) zaf) zac)) zaf) zac)))) zaf) zac))) (zah 8 sc__law_due.nd)
    (zae (zbv (zbT (zfY (zab 7)) (zbT (zas (zdP hu) (zax (zax (zab 0) zaf) (zab 8)) (zax (zab 4) zaf)) (zcB (zas (zdP hu) (zax (zax (zab 0) zaf) (zab 8)) (zax (zab 6) zaf))))).pb (zai (zb2 2 (zby (zaa (zab 3) (zaa (zab 5) (zaa (zab 8) zac)))))) zaA)
   (zai (zbv (zbT (zas zoX (zax (zab 4) zaf) zbk) (zbT (zas zcj (zax (zab 6) zaf) zbk) (zcB (zas (zdP hu) (zab 8) (zav (zl6 rfl) T.b_max boot_max (zaa (zax (zab 4) zaf) (zaa (zax (zab 6) zaf) zac))))))).pb (zai (zb2 2 (zby (zaa (zab 3) (zaa (zab 5) (zaa (zab 8) zac)))))) zaA)))))))))
   (zai (zdb 2))))) zgN fun _ _ _ _ _ _ us hl=>by obtain⟨_,_,rfl⟩:=ze4 hl;exact rfl
noncomputable abbrev s_pieces_at:Stmt:=top 11
theorem zhQ:FnScope ["pieces","name","column"] ["pieces","name","column"] (defScope s_pieces_at):=⟨rfl,rfl,rfl,by decide +kernel,rfl,by decide +kernel,by decide +kernel⟩
theorem zc9:(["number","piece","name","column"]:List Str).Nodup:=by decide +kernel
theorem zfy(A:At K mg "pieces_at" s_pieces_at)(T:Txt K mg) :Known P w K mg base 1 "pieces_at" 3 zbu:=zaz 0 A zhQ (fun f cdv A outer s H E hr=>have hu:=hr.units
 (zai (zaJ (zbj rfl (.of (N':=["number","piece","name","column"]) (m:=[none,none,some 1,some 2]) (by kernel_rfl)) zb3 (zcC T.b_enumerate (zaa (zab 0) zac)) (fun s3 H3 ex=>(zbi rfl (zak (zah 0 zc9) (zak (zah 1 zc9) zaO)))) (fun s3 H3 ex=>(zb4 (zbT (zas (zdP hu) (zax (zab 1) zaf) (zab 2)) (zcB (zlW zoF zoF (zax (zab 1) zaf) (zab 3) (zax (zab 1) zaf)))).pb)) (fun s3 H3 ex=>(zab 0)))))) zfM fun _ _ _ _ _ _ us hl=>by obtain⟨_,_,_,rfl⟩:=zog hl;exact rfl
noncomputable abbrev s_pin_triples:Stmt:=top 14
theorem sc_pin_triples:FnScope ["channel","pieces","triples","column","upper_name","lower_name","lowers","upper"] ["channel","pieces"] (defScope s_pin_triples):=⟨rfl,rfl,rfl,by decide +kernel,rfl,by decide +kernel,by decide +kernel⟩
theorem zeC:(["lower","upper","column"]:List Str).Nodup:=by decide +kernel
theorem zek(A:At K mg "pin_triples" s_pin_triples)(T:Txt K mg)(C_pieces_at:Known P w K mg base 1 "pieces_at" 3 zbu):Known P w K mg base 2 "pin_triples" 2 zbo:=zaz 1 A sc_pin_triples (fun f cdv A outer s H E hr=>have hu:=hr.units
 (zae (zcQ 2 (zaR zac) sc_pin_triples.nd)
   (zae (zbW PassesOwn.never rfl (zaS T.b_range (zaa (zav zeX T.b_len boot_len (zaa (zbY (zab 0)) zac)) zac)) (zah 3 sc_pin_triples.nd)
    (zae (zam 4 (zax (zbY (zab 0)) (zab 3)) sc_pin_triples.nd)
   (zae (zam 5 (zax (zbY (zab 0)) (zab 3)) sc_pin_triples.nd)
   (zai (zbv (zbT (zas zcj (zab 4) zbk) (zbT (zas zcj (zab 5) zbk) (zcB (zas (zqj hu) (zab 4) (zab 5))))).pb (zae (zam 6 (zan C_pieces_at hr (zaa (zab 1) (zaa (zab 5) (zaa (zab 3) zac)))) sc_pin_triples.nd)
   (zai (zbW PassesOwn.never rfl (za1 (zan C_pieces_at hr (zaa (zab 1) (zaa (zab 4) (zaa (zab 3) zac))))) (zah 7 sc_pin_triples.nd)
    (zai (zkR 2 (zbj rfl (.of (N':=["lower","upper","column"]) (m:=[none,some 7,some 3]) (by kernel_rfl)) zay (za1 (zab 6)) (fun s3 H3 ex=>(zah 0 zeC)) (fun s3 H3 ex=>zbU) (fun s3 H3 ex=>(zby (zaa (zab 1) (zaa (zab 0) (zaa (zab 2) zac))))))))))) zaA)))))
   (zai (zdb 2))))) zew fun _ _ _ _ _ _ us hl=>by obtain⟨_,_,rfl⟩:=ze4 hl;exact rfl
noncomputable abbrev s_common_of:Stmt:=top 10
theorem sc_common_of:FnScope ["one","other","column"] ["one","other"] (defScope s_common_of):=⟨rfl,rfl,rfl,by decide +kernel,rfl,by decide +kernel,by decide +kernel⟩
theorem zfz(A:At K mg "common_of" s_common_of)(T:Txt K mg) :Known P w K mg base 1 "common_of" 2 zbR:=zaz 0 A sc_common_of (fun f cdv A outer s H E hr=>have hu:=hr.units
 (zae (zam 2 (zav (zl6 rfl) T.b_max boot_max (zaa (zax (zab 0) zaf) (zaa (zax (zab 1) zaf) zac))) sc_common_of.nd)
   (zae (zbv (zas zqi (zab 2) (zav (znH rfl) T.b_min boot_min (zaa (zax (zab 0) zaf) (zaa (zax (zab 1) zaf) zac)))) (zai (zaJ zbk)) zaA)
   (zai (zaJ (zab 2)))))) zfL fun _ _ _ _ _ _ us hl=>by obtain⟨_,_,rfl⟩:=ze4 hl;exact rfl
noncomputable abbrev s_beneath_keep:Stmt:=top 16
theorem sc_beneath_keep:FnScope ["keep","pieces","commons"] ["keep","pieces"] (defScope s_beneath_keep):=⟨rfl,rfl,rfl,by decide +kernel,rfl,by decide +kernel,by decide +kernel⟩
theorem zcx:(["number","piece","keep"]:List Str).Nodup:=by decide +kernel
theorem zcy:(["number","column"]:List Str).Nodup:=by decide +kernel
theorem zdL(A:At K mg "beneath_keep" s_beneath_keep)(T:Txt K mg)(C_common_of:Known P w K mg base 1 "common_of" 2 zbR):Known P w K mg base 2 "beneath_keep" 2 zbc:=zaz 1 A sc_beneath_keep (fun f cdv A outer s H E hr=>have hu:=hr.units
 (zae (zdz 2 rfl (.of (N':=["number","piece","keep"]) (m:=[none,none,some 0]) (by kernel_rfl)) zb3 (zcC T.b_enumerate (zaa (zab 1) zac)) (fun s3 H3 ex=>(zbi rfl (zak (zah 0 zcx) (zak (zah 1 zcx) zaO)))) (fun s3 H3 ex=>(zb4 (zas zcj (zax (zab 1) zaf) zbk))) (fun s3 H3 ex=>(zby (zaa (zab 0) (zaa (zan C_common_of hr (zaa (zab 2) (zaa (zab 1) zac))) zac)))) sc_beneath_keep.nd)
   (zai (zaJ (zbj rfl (.of (N':=["number","column"]) (m:=[none,none]) (by kernel_rfl)) zb3 (za1 (zab 2)) (fun s3 H3 ex=>(zbi rfl (zak (zah 0 zcy) (zak (zah 1 zcy) zaO)))) (fun s3 H3 ex=>(zb4 (zas zcj (zab 1) zbk))) (fun s3 H3 ex=>(zby (zaa (zab 0) (zaa (zab 1) zac))))))))) zea fun _ _ _ _ _ _ us hl=>by obtain⟨_,_,rfl⟩:=ze4 hl;exact rfl
noncomputable abbrev s_keep_triples:Stmt:=top 15
theorem sc_keep_triples:FnScope ["pieces","triples","upper","keep"] ["pieces"] (defScope s_keep_triples):=⟨rfl,rfl,rfl,by decide +kernel,rfl,by decide +kernel,by decide +kernel⟩
theorem zcz:(["lower","column","upper"]:List Str).Nodup:=by decide +kernel
theorem zdM(A:At K mg "keep_triples" s_keep_triples)(T:Txt K mg)(C_beneath_keep:Known P w K mg base 2 "beneath_keep" 2 zbc):Known P w K mg base 3 "keep_triples" 1 zbe:=zaz 2 A sc_keep_triples (fun f cdv A outer s H E hr=>have hu:=hr.units
 (zae (zcQ 1 (zaR zac) sc_keep_triples.nd)
   (zae (zbW PassesOwn.never rfl (zcC T.b_enumerate (zaa (zab 0) zac)) (zbi rfl (zak (zah 2 sc_keep_triples.nd) (zak (zah 3 sc_keep_triples.nd) zaO)))
    (zai (zbv (zas zoX (zax (zab 3) zaf) zbk) (zai (zkR 1 (zbj rfl (.of (N':=["lower","column","upper"]) (m:=[none,none,some 2]) (by kernel_rfl)) zb3 (za1 (zan C_beneath_keep hr (zaa (zab 3) (zaa (zab 0) zac)))) (fun s3 H3 ex=>(zbi rfl (zak (zah 0 zcz) (zak (zah 1 zcz) zaO)))) (fun s3 H3 ex=>zbU) (fun s3 H3 ex=>(zby (zaa (zab 2) (zaa (zab 0) (zaa (zab 1) zac)))))))) zaA)))
   (zai (zdb 1))))) zeb fun _ _ _ _ _ _ us hl=>by obtain⟨_,rfl⟩:=zpb hl;exact rfl
noncomputable abbrev s_above_of:Stmt:=top 13
theorem zij:FnScope ["channel","pieces"] ["channel","pieces"] (defScope s_above_of):=⟨rfl,rfl,rfl,by decide +kernel,rfl,by decide +kernel,by decide +kernel⟩
theorem zfS(A:At K mg "above_of" s_above_of)(T:Txt K mg)(C_pin_triples:Known P w K mg base 2 "pin_triples" 2 zbo)(C_keep_triples:Known P w K mg base 3 "keep_triples" 1 zbe):Known P w K mg base 4 "above_of" 2 zb7:=zaz 3 A zij (fun f cdv A outer s H E hr=>have hu:=hr.units
 (zai (zaJ (zav (zk7 rfl) T.b_sorted boot_sorted (zaa (zal zaV (zan C_pin_triples hr (zaa (zab 0) (zaa (zab 1) zac))) (zan C_keep_triples hr (zaa (zab 1) zac))) zac))))) zgL fun _ _ _ _ _ _ us hl=>by obtain⟨_,_,rfl⟩:=ze4 hl;exact rfl
noncomputable abbrev s__law_alike:Stmt:=top 30
theorem zaX:FnScope ["_law_found","_law_due_here"] ["_law_found","_law_due_here"] (defScope s__law_alike):=⟨rfl,rfl,rfl,by decide +kernel,rfl,by decide +kernel,by decide +kernel⟩
theorem zc0:(["_law_one","_law_other"]:List Str).Nodup:=by decide +kernel
theorem zbh(T:Txt K mg)  {zaM:SpD} {k kk:Nat} (hk0:0≤k) (hkk:kk≤k) (C__law_alike:Known P w K mg base kk "_law_alike" 2 zaM) {f:Addr} (cdv:Value) (A:Around) (outer:List Env) (s:Shared) (H:Hp) (E:XK) (hr:Room k (A.deeper (envOfC "_law_alike" (defScope s__law_alike) s.heap.objs.size f cdv))) :
  PXs (zi8 CX0 P w K mg base ["_law_found","_law_due_here"] "_law_alike" (defScope s__law_alike) f cdv A outer s H E).nox (defBody s__law_alike) (zcf zaM):=by
 have hu:=hr.units
 exact(zae (zbv (zfY (zkT (zab 1) T.b_isinstance T.b_list T.b_tuple boot_list boot_tuple)) (zae (zbv (zmR (zmQ (zfY (zkT (zab 0) T.b_isinstance T.b_list T.b_tuple boot_list boot_tuple))) (zkj (zas (zqj hu) (zf1 (zab 0) T.b_isinstance T.b_list boot_list) (zf1 (zab 1) T.b_isinstance T.b_list boot_list)))).pb (zai (zaJ zoT)) zaA)
   (zai (zaJ (zeT (zcP (zdP hu) (zav zeX T.b_len boot_len (zaa (zab 0) zac)) (zav zeX T.b_len boot_len (zaa (zab 1) zac))) (zhc (zav (zqk rfl) T.b_all boot_all (zaa (zbj rfl (.of (N':=["_law_one","_law_other"]) (m:=[none,none]) (by kernel_rfl)) zb3 (zms T.b_zip (zaa (zab 0) (zaa (zab 1) zac))) (fun s3 H3 ex=>(zbi rfl (zak (zah 0 zc0) (zak (zah 1 zc0) zaO)))) (fun s3 H3 ex=>zbU) (fun s3 H3 ex=>(zan (hk:=hkk) C__law_alike hr (zaa (zab 0) (zaa (zab 1) zac))))) zac))))))) zaA)
   (zae (zbv (zfY (zf1 (zab 1) T.b_isinstance T.b_str boot_str)) (zai (zaJ (zeT (zf1 (zab 0) T.b_isinstance T.b_str boot_str) (zhc (zcP (zdP hu) (zab 0) (zab 1)))))) zaA)
   (zae (zbv (zas zoX (zab 1) zbk) (zai (zaJ (zcP zoX (zab 0) zbk))) zaA)
   (zai (zaJ (zeT (zf1 (zab 0) T.b_isinstance T.b_int boot_int) (zeT (zoZ (zf1 (zab 0) T.b_isinstance T.b_bool boot_bool)) (zhc (zcP (zdP hu) (zab 0) (zab 1))))))))))
theorem zeD(A:At K mg "_law_alike" s__law_alike)(T:Txt K mg) :Known P w K mg base 7 "_law_alike" 2 zaM:=by
 obtain⟨f,fd,F,hm⟩:=A.ex
 have k0:Known P w K mg base 1 "_law_alike" 2 (zaw 0):=⟨⟨f,fd,["_law_found","_law_due_here"],zck (k:=0) (T:=fun _ _=>False) F zaX (fun _ _ _ _ _ _ _=>zk8) (fun _ _ _ h=>h),hm,F.kp,F.binds fun _ _ _ _ _ _ us hl=>by obtain⟨_,_,rfl⟩:=ze4 hl;exact rfl⟩⟩
 have k1:Known P w K mg base 2 "_law_alike" 2 (zaw 1):=⟨⟨f,fd,["_law_found","_law_due_here"],zck (k:=1) F zaX (zbh T  (by decide) (Nat.le_refl _) k0) (zaT 0),hm,F.kp,F.binds fun _ _ _ _ _ _ us hl=>by obtain⟨_,_,rfl⟩:=ze4 hl;exact rfl⟩⟩
 have k2:Known P w K mg base 3 "_law_alike" 2 (zaw 2):=⟨⟨f,fd,["_law_found","_law_due_here"],zck (k:=2) F zaX (zbh T  (by decide) (Nat.le_refl _) k1) (zaT 1),hm,F.kp,F.binds fun _ _ _ _ _ _ us hl=>by obtain⟨_,_,rfl⟩:=ze4 hl;exact rfl⟩⟩
 have k3:Known P w K mg base 4 "_law_alike" 2 (zaw 3):=⟨⟨f,fd,["_law_found","_law_due_here"],zck (k:=3) F zaX (zbh T  (by decide) (Nat.le_refl _) k2) (zaT 2),hm,F.kp,F.binds fun _ _ _ _ _ _ us hl=>by obtain⟨_,_,rfl⟩:=ze4 hl;exact rfl⟩⟩
 have k4:Known P w K mg base 5 "_law_alike" 2 (zaw 4):=⟨⟨f,fd,["_law_found","_law_due_here"],zck (k:=4) F zaX (zbh T  (by decide) (Nat.le_refl _) k3) (zaT 3),hm,F.kp,F.binds fun _ _ _ _ _ _ us hl=>by obtain⟨_,_,rfl⟩:=ze4 hl;exact rfl⟩⟩
 have k5:Known P w K mg base 6 "_law_alike" 2 (zaw 5):=⟨⟨f,fd,["_law_found","_law_due_here"],zck (k:=5) F zaX (zbh T  (by decide) (Nat.le_refl _) k4) (zaT 4),hm,F.kp,F.binds fun _ _ _ _ _ _ us hl=>by obtain⟨_,_,rfl⟩:=ze4 hl;exact rfl⟩⟩
 have k6:Known P w K mg base 7 "_law_alike" 2 (zaw 6):=⟨⟨f,fd,["_law_found","_law_due_here"],zck (k:=6) F zaX (zbh T  (by decide) (Nat.le_refl _) k5) (zaT 5),hm,F.kp,F.binds fun _ _ _ _ _ _ us hl=>by obtain⟨_,_,rfl⟩:=ze4 hl;exact rfl⟩⟩
 exact k6
noncomputable abbrev s_law:Stmt:=top 32
theorem sc_law:FnScope ["_law_script","_law_lists","_law_channel_here","_law_kept","_law_pieces","_law_due_here","_law_handed","_law_turn","_law_found"] ["_law_script"] (defScope s_law):=⟨rfl,rfl,rfl,by decide +kernel,rfl,by decide +kernel,by decide +kernel⟩
theorem zmH:(["_law_one"]:List Str).Nodup:=by decide +kernel
theorem zpM(T:Txt K mg)(C__law_channel:Known P w K mg base 3 "_law_channel" 2 zba)(C_Channel:KnownC P w K mg base 1 "Channel" 7 zcu)(C_pieces_of:KnownD P w K mg base 4 "pieces_of" 2 zbS false)(C__law_due:Known P w K mg base 1 "_law_due" 2 zb8)(C_above_of:Known P w K mg base 4 "above_of" 2 zb7)(C__law_alike:Known P w K mg base 7 "_law_alike" 2 zaM){f:Addr}(cdv:Value)(A:Around)(outer:List Env)(s:Shared)(H:Hp)(E:XK)(hr:Room 7 (A.deeper (envOfC "law" (defScope s_law) s.heap.objs.size f cdv))) :
  PXs (zi8 CX0 P w K mg base ["_law_script","_law_lists","_law_channel_here","_law_kept","_law_pieces","_law_due_here","_law_handed","_law_turn","_law_found"] "law" (defScope s_law) f cdv A outer s H E).nox (defBody s_law) zlt:=by
 have hu:=hr.units
 exact(zae (zam 1 (zan C__law_channel hr (zaa (zab 0) (zaa zaf zac))) sc_law.nd)
   (zae (zam 2 (zl9 C_Channel hr (zaa (zax (zab 1) zaf) (zaa (zax (zab 1) zaf) (zaa (zax (zab 1) zaf) (zaa (zax (zab 1) zaf) (zaa (zax (zab 1) zaf) (zaa (zax (zab 1) zaf) (zaa (zax (zab 1) zaf) zac)))))))) sc_law.nd)
   (zae (zdz 3 rfl (.of (N':=["_law_one"]) (m:=[none]) (by kernel_rfl)) zay (za1 (zab 1)) (fun s3 H3 ex=>(zah 0 zmH)) (fun s3 H3 ex=>zbU) (fun s3 H3 ex=>(zbm zdC T.b_list boot_list (zaa (zab 0) zac))) sc_law.nd)
   (zae (zam 4 (zan C_pieces_of.all hr (zaa (zab 2) (zaa (zcP (zdP hu) (zal zbf (zav (zl5 rfl) T.b_sum boot_sum (zaa (za2 (zab 0) zbp (zaQ zaf)) zac)) zaf) zaf) zac))) sc_law.nd)
   (zae (zam 5 (zan C__law_due hr (zaa (zab 3) (zaa (zab 4) zac))) sc_law.nd)
   (zae (zam 6 (zbm zdC T.b_list boot_list (zaa (zab 4) zac)) sc_law.nd)
   (zae (zbW PassesOwn.never rfl (zaS T.b_range (zaa zaf zac)) (zah 7 sc_law.nd)
    (zae (zcQ 8 (zan C_above_of hr (zaa (zab 2) (zaa (zab 6) zac))) sc_law.nd)
   (zae (zbv (zmQ (zfY (znP 8 (zan C__law_alike hr (zaa (zab 8) (zaa (zab 5) zac)))))) (zai (zaJ zoT)) zaA)
   (zai (zb2 8 (zby (zaa zaf (zaa zaf (zaa zaf zac)))))))))
   (zai (zaJ (zeT (zcP (zdP hu) (zab 1) (zab 3)) (zhc (zcP (zdP hu) (zab 6) (zab 4)))))))))))))
theorem law_ok{fa:Addr}(T:Txt K mg)(A_Channel:AtC K mg "Channel" "Channel.__init__" s_Channel ["top","bottom","left","right","wide","bends","keeps"])(A__law_stem:At K mg "_law_stem" s__law_stem)(A__law_named:At K mg "_law_named" s__law_named)(A__law_mix:At K mg "_law_mix" s__law_mix)(A__law_pins:At K mg "_law_pins" s__law_pins)(A__law_open:At K mg "_law_open" s__law_open)(A__law_many:At K mg "_law_many" s__law_many)(A__law_stretch:At K mg "_law_stretch" s__law_stretch)(A__law_bends:At K mg "_law_bends" s__law_bends)(A__law_keeps:At K mg "_law_keeps" s__law_keeps)(A__law_channel:At K mg "_law_channel" s__law_channel)(A_nets_of:At K mg "nets_of" s_nets_of)(A_ends_of:At K mg "ends_of" s_ends_of)(A_column_of:At K mg "column_of" s_column_of)(A_stretch_of:At K mg "stretch_of" s_stretch_of)(A_bend_columns:At K mg "bend_columns" s_bend_columns)(A_width_of:At K mg "width_of" s_width_of)(A_net_pieces:At K mg "net_pieces" s_net_pieces)(A_pieces_of:AtD K mg "pieces_of" s_pieces_of [.bool false])(A__law_due:At K mg "_law_due" s__law_due)(A_pieces_at:At K mg "pieces_at" s_pieces_at)(A_pin_triples:At K mg "pin_triples" s_pin_triples)(A_common_of:At K mg "common_of" s_common_of)(A_beneath_keep:At K mg "beneath_keep" s_beneath_keep)(A_keep_triples:At K mg "keep_triples" s_keep_triples)(A_above_of:At K mg "above_of" s_above_of)(A__law_alike:At K mg "_law_alike" s__law_alike)(A_law:At K mg "law" s_law)  (hmg:mg "law"=some (.ref fa)):∃fd:FuncData,(∀(s:Shared) (u:Value),BindsTo s fd ⟨[u],[]⟩ [("_law_script",u)])∧∀base:Heap,FnOk P w K mg base CX0 8 fa fd ["_law_script"] (PSp K 1 (znG 63)):=by
 refine zo3 (T:=fun _=>zlt) A_law hmg sc_law (fun _ _ _ _ _ _ us hl=>by obtain⟨_,rfl⟩:=zpb hl;exact rfl) (fun base f cdv A outer s H E hr=>?_) (fun _=>zmG)
 have C_Channel:KnownC P w K mg base 1 "Channel" 7 zcu:=zgO A_Channel T
 have C__law_stem:Known P w K mg base 1 "_law_stem" 2 zbO:=zfm A__law_stem T 
 have C__law_named:Known P w K mg base 2 "_law_named" 1 zbD:=zex A__law_named T C__law_stem
 have C__law_mix:Known P w K mg base 1 "_law_mix" 2 zaE:=zfO A__law_mix T 
 have C__law_pins:Known P w K mg base 2 "_law_pins" 4 zbP:=zfq A__law_pins T C__law_mix
 have C__law_open:Known P w K mg base 1 "_law_open" 2 zbt:=zfr A__law_open T 
 have C__law_many:Known P w K mg base 1 "_law_many" 5 zbs:=zfs A__law_many T 
 have C__law_stretch:Known P w K mg base 1 "_law_stretch" 5 za9:=zdI A__law_stretch T 
 have C__law_bends:Known P w K mg base 2 "_law_bends" 4 zbE:=zey A__law_bends T C__law_mix C__law_stretch
 have C__law_keeps:Known P w K mg base 2 "_law_keeps" 3 zbF:=zez A__law_keeps T C__law_mix
 have C__law_channel:Known P w K mg base 3 "_law_channel" 2 zba:=zdJ A__law_channel T C__law_named C__law_pins C__law_mix C__law_open C__law_many C__law_bends C__law_keeps
 have C_nets_of:Known P w K mg base 1 "nets_of" 1 zb1:=zgP A_nets_of T 
 have C_ends_of:Known P w K mg base 1 "ends_of" 2 zcv:=zgQ A_ends_of T 
 have C_column_of:Known P w K mg base 1 "column_of" 2 zbQ:=zfu A_column_of T 
 have C_stretch_of:Known P w K mg base 2 "stretch_of" 2 zbG:=zeA A_stretch_of T C_ends_of C_column_of
 have C_bend_columns:Known P w K mg base 1 "bend_columns" 2 zbb:=zdK A_bend_columns T 
 have C_width_of:Known P w K mg base 1 "width_of" 2 zbM:=zfQ A_width_of T 
 have C_net_pieces:Known P w K mg base 3 "net_pieces" 3 zbg:=zeB A_net_pieces T C_stretch_of C_bend_columns C_width_of
 have C_pieces_of:KnownD P w K mg base 4 "pieces_of" 2 zbS false:=zfx A_pieces_of T C_nets_of C_net_pieces
 have C__law_due:Known P w K mg base 1 "_law_due" 2 zb8:=zfR A__law_due T 
 have C_pieces_at:Known P w K mg base 1 "pieces_at" 3 zbu:=zfy A_pieces_at T 
 have C_pin_triples:Known P w K mg base 2 "pin_triples" 2 zbo:=zek A_pin_triples T C_pieces_at
 have C_common_of:Known P w K mg base 1 "common_of" 2 zbR:=zfz A_common_of T 
 have C_beneath_keep:Known P w K mg base 2 "beneath_keep" 2 zbc:=zdL A_beneath_keep T C_common_of
 have C_keep_triples:Known P w K mg base 3 "keep_triples" 1 zbe:=zdM A_keep_triples T C_beneath_keep
 have C_above_of:Known P w K mg base 4 "above_of" 2 zb7:=zfS A_above_of T C_pin_triples C_keep_triples
 have C__law_alike:Known P w K mg base 7 "_law_alike" 2 zaM:=zeD A__law_alike T 
 exact zpM T C__law_channel C_Channel C_pieces_of C__law_due C_above_of C__law_alike cdv A outer s H E hr
end
end Wc
open PySem PySem.W PyProof.Rows
theorem PySem.W.Fast.te13807713886431384883:True:=trivial
noncomputable def PySem.W.Fast.tw6471760327545931271:PySem.Program:=PySem.Challenge.pw_wirechannel_k20_what_must_lie_above
theorem PySem.W.Fast.te6471760327545931271:PySem.Challenge.pw_wirechannel_k20_what_must_lie_above=PySem.W.Fast.tw6471760327545931271:=rfl
noncomputable def PySem.W.Fast.tw7462598266008874058:List PySem.Stmt:=(PySem.Challenge.pw_wirechannel_k20_what_must_lie_above.main.body.drop 0).take 16
theorem PySem.W.Fast.te7462598266008874058:(PySem.Challenge.pw_wirechannel_k20_what_must_lie_above.main.body.drop 0).take 16=PySem.W.Fast.tw7462598266008874058:=rfl
noncomputable def PySem.W.Fast.tw6164186920865280228:List PySem.Stmt:=(PySem.Challenge.pw_wirechannel_k20_what_must_lie_above.main.body.drop 16).take 7
theorem PySem.W.Fast.te6164186920865280228:(PySem.Challenge.pw_wirechannel_k20_what_must_lie_above.main.body.drop 16).take 7=PySem.W.Fast.tw6164186920865280228:=rfl
noncomputable def PySem.W.Fast.tw11820522527098522509:List PySem.Stmt:=(PySem.Challenge.pw_wirechannel_k20_what_must_lie_above.main.body.drop 23).take 10
theorem PySem.W.Fast.te11820522527098522509:(PySem.Challenge.pw_wirechannel_k20_what_must_lie_above.main.body.drop 23).take 10=PySem.W.Fast.tw11820522527098522509:=rfl
noncomputable def PySem.W.Fast.tw13391569519209995086:PySem.Program:={ PySem.Challenge.pw_wirechannel_k20_what_must_lie_above with main:={ PySem.Challenge.pw_wirechannel_k20_what_must_lie_above.main with body:=[1,2,3,4,5,8,9,10,11,13,14,15,16,18,20,21,22,23,24,25,26,27,28,29,30,31,32].map fun i=>PySem.Challenge.pw_wirechannel_k20_what_must_lie_above.main.body.getD i (.Pass ⟨0,0,0,0⟩) } }
theorem PySem.W.Fast.te13391569519209995086:({ PySem.Challenge.pw_wirechannel_k20_what_must_lie_above with main:={ PySem.Challenge.pw_wirechannel_k20_what_must_lie_above.main with body:=[1,2,3,4,5,8,9,10,11,13,14,15,16,18,20,21,22,23,24,25,26,27,28,29,30,31,32].map fun i=>PySem.Challenge.pw_wirechannel_k20_what_must_lie_above.main.body.getD i (.Pass ⟨0,0,0,0⟩) } }:PySem.Program)=PySem.W.Fast.tw13391569519209995086:=rfl
theorem PySem.Challenge.cw_wirechannel_k20_what_must_lie_above_holds : PySem.Challenge.rw_wirechannel_k20_what_must_lie_above.Holds := by
 w_on;o_law;k_head;(case hw=>w_witness2)
 k_fill
 refine L2.walk_pure (l:=PySem.Challenge.rw_wirechannel_k20_what_must_lie_above) (n:=63) (k:=8) (x:="_law_script") rfl (by decide) rfl ⟨rfl,by decide,by decide⟩ (fun w h Y=>PySem.W.kIn_of Y) ?F
 case F=>
  intro w mg fa h KX G hmg
  have A_Channel:L2.AtC (L2.KOf KX) mg "Channel" "Channel.__init__" Wc.s_Channel ["top","bottom","left","right","wide","bends","keeps"]:=by
   dsimp only[L2.KOf]
   refine' L2.atC_mk KX G ?aC ?a1 ?i1 ?l1 ?c1 ?k1 ?pg ?hd ?po ?sa ?mk ?kc ⟨?n0,?n1,?n2,?n3,?n4,?n5,?n6,trivial⟩
   (case aC=>k_is)
   (case a1=>k_is)
   (case i1=>k_is)
   (case l1=>k_is)
   (case c1=>k_is)
   (case k1=>k_is)
   (case pg=>k_is)
   (case hd=>k_is)
   (case po=>k_is)
   (case sa=>k_is)
   (case mk=>k_is)
   (case kc=>k_is)
   (case n0=>unfold L2.NoAttr;k_is)
   (case n1=>unfold L2.NoAttr;k_is)
   (case n2=>unfold L2.NoAttr;k_is)
   (case n3=>unfold L2.NoAttr;k_is)
   (case n4=>unfold L2.NoAttr;k_is)
   (case n5=>unfold L2.NoAttr;k_is)
   (case n6=>unfold L2.NoAttr;k_is)
  have A__law_stem:L2.At (L2.KOf KX) mg "_law_stem" Wc.s__law_stem:=by
   dsimp only[L2.KOf]
   refine' L2.at_mk KX G ?a ?l ?c ?k
   (case a=>k_is);(case l=>k_is);(case c=>k_is);(case k=>k_is)
  have A__law_named:L2.At (L2.KOf KX) mg "_law_named" Wc.s__law_named:=by
   dsimp only[L2.KOf]
   refine' L2.at_mk KX G ?a ?l ?c ?k
   (case a=>k_is);(case l=>k_is);(case c=>k_is);(case k=>k_is)
  have A__law_mix:L2.At (L2.KOf KX) mg "_law_mix" Wc.s__law_mix:=by
   dsimp only[L2.KOf]
   refine' L2.at_mk KX G ?a ?l ?c ?k
   (case a=>k_is);(case l=>k_is);(case c=>k_is);(case k=>k_is)
  have A__law_pins:L2.At (L2.KOf KX) mg "_law_pins" Wc.s__law_pins:=by
   dsimp only[L2.KOf]
   refine' L2.at_mk KX G ?a ?l ?c ?k
   (case a=>k_is);(case l=>k_is);(case c=>k_is);(case k=>k_is)
  have A__law_open:L2.At (L2.KOf KX) mg "_law_open" Wc.s__law_open:=by
   dsimp only[L2.KOf]
   refine' L2.at_mk KX G ?a ?l ?c ?k
   (case a=>k_is);(case l=>k_is);(case c=>k_is);(case k=>k_is)
  have A__law_many:L2.At (L2.KOf KX) mg "_law_many" Wc.s__law_many:=by
   dsimp only[L2.KOf]
   refine' L2.at_mk KX G ?a ?l ?c ?k
   (case a=>k_is);(case l=>k_is);(case c=>k_is);(case k=>k_is)
  have A__law_stretch:L2.At (L2.KOf KX) mg "_law_stretch" Wc.s__law_stretch:=by
   dsimp only[L2.KOf]
   refine' L2.at_mk KX G ?a ?l ?c ?k
   (case a=>k_is);(case l=>k_is);(case c=>k_is);(case k=>k_is)
  have A__law_bends:L2.At (L2.KOf KX) mg "_law_bends" Wc.s__law_bends:=by
   dsimp only[L2.KOf]
   refine' L2.at_mk KX G ?a ?l ?c ?k
   (case a=>k_is);(case l=>k_is);(case c=>k_is);(case k=>k_is)
  have A__law_keeps:L2.At (L2.KOf KX) mg "_law_keeps" Wc.s__law_keeps:=by
   dsimp only[L2.KOf]
   refine' L2.at_mk KX G ?a ?l ?c ?k
   (case a=>k_is);(case l=>k_is);(case c=>k_is);(case k=>k_is)
  have A__law_channel:L2.At (L2.KOf KX) mg "_law_channel" Wc.s__law_channel:=by
   dsimp only[L2.KOf]
   refine' L2.at_mk KX G ?a ?l ?c ?k
   (case a=>k_is);(case l=>k_is);(case c=>k_is);(case k=>k_is)
  have A_nets_of:L2.At (L2.KOf KX) mg "nets_of" Wc.s_nets_of:=by
   dsimp only[L2.KOf]
   refine' L2.at_mk KX G ?a ?l ?c ?k
   (case a=>k_is);(case l=>k_is);(case c=>k_is);(case k=>k_is)
  have A_ends_of:L2.At (L2.KOf KX) mg "ends_of" Wc.s_ends_of:=by
   dsimp only[L2.KOf]
   refine' L2.at_mk KX G ?a ?l ?c ?k
   (case a=>k_is);(case l=>k_is);(case c=>k_is);(case k=>k_is)
  have A_column_of:L2.At (L2.KOf KX) mg "column_of" Wc.s_column_of:=by
   dsimp only[L2.KOf]
   refine' L2.at_mk KX G ?a ?l ?c ?k
   (case a=>k_is);(case l=>k_is);(case c=>k_is);(case k=>k_is)
  have A_stretch_of:L2.At (L2.KOf KX) mg "stretch_of" Wc.s_stretch_of:=by
   dsimp only[L2.KOf]
   refine' L2.at_mk KX G ?a ?l ?c ?k
   (case a=>k_is);(case l=>k_is);(case c=>k_is);(case k=>k_is)
  have A_bend_columns:L2.At (L2.KOf KX) mg "bend_columns" Wc.s_bend_columns:=by
   dsimp only[L2.KOf]
   refine' L2.at_mk KX G ?a ?l ?c ?k
   (case a=>k_is);(case l=>k_is);(case c=>k_is);(case k=>k_is)
  have A_width_of:L2.At (L2.KOf KX) mg "width_of" Wc.s_width_of:=by
   dsimp only[L2.KOf]
   refine' L2.at_mk KX G ?a ?l ?c ?k
   (case a=>k_is);(case l=>k_is);(case c=>k_is);(case k=>k_is)
  have A_net_pieces:L2.At (L2.KOf KX) mg "net_pieces" Wc.s_net_pieces:=by
   dsimp only[L2.KOf]
   refine' L2.at_mk KX G ?a ?l ?c ?k
   (case a=>k_is);(case l=>k_is);(case c=>k_is);(case k=>k_is)
  have A_pieces_of:L2.AtD (L2.KOf KX) mg "pieces_of" Wc.s_pieces_of [.bool false]:=by
   dsimp only[L2.KOf]
   refine' L2.at_mkD KX G ?a ?l ?c ?k ?t
   (case a=>k_is);(case l=>k_is);(case c=>k_is);(case k=>k_is);(case t=>k_is)
  have A__law_due:L2.At (L2.KOf KX) mg "_law_due" Wc.s__law_due:=by
   dsimp only[L2.KOf]
   refine' L2.at_mk KX G ?a ?l ?c ?k
   (case a=>k_is);(case l=>k_is);(case c=>k_is);(case k=>k_is)
  have A_pieces_at:L2.At (L2.KOf KX) mg "pieces_at" Wc.s_pieces_at:=by
   dsimp only[L2.KOf]
   refine' L2.at_mk KX G ?a ?l ?c ?k
   (case a=>k_is);(case l=>k_is);(case c=>k_is);(case k=>k_is)
  have A_pin_triples:L2.At (L2.KOf KX) mg "pin_triples" Wc.s_pin_triples:=by
   dsimp only[L2.KOf]
   refine' L2.at_mk KX G ?a ?l ?c ?k
   (case a=>k_is);(case l=>k_is);(case c=>k_is);(case k=>k_is)
  have A_common_of:L2.At (L2.KOf KX) mg "common_of" Wc.s_common_of:=by
   dsimp only[L2.KOf]
   refine' L2.at_mk KX G ?a ?l ?c ?k
   (case a=>k_is);(case l=>k_is);(case c=>k_is);(case k=>k_is)
  have A_beneath_keep:L2.At (L2.KOf KX) mg "beneath_keep" Wc.s_beneath_keep:=by
   dsimp only[L2.KOf]
   refine' L2.at_mk KX G ?a ?l ?c ?k
   (case a=>k_is);(case l=>k_is);(case c=>k_is);(case k=>k_is)
  have A_keep_triples:L2.At (L2.KOf KX) mg "keep_triples" Wc.s_keep_triples:=by
   dsimp only[L2.KOf]
   refine' L2.at_mk KX G ?a ?l ?c ?k
   (case a=>k_is);(case l=>k_is);(case c=>k_is);(case k=>k_is)
  have A_above_of:L2.At (L2.KOf KX) mg "above_of" Wc.s_above_of:=by
   dsimp only[L2.KOf]
   refine' L2.at_mk KX G ?a ?l ?c ?k
   (case a=>k_is);(case l=>k_is);(case c=>k_is);(case k=>k_is)
  have A__law_alike:L2.At (L2.KOf KX) mg "_law_alike" Wc.s__law_alike:=by
   dsimp only[L2.KOf]
   refine' L2.at_mk KX G ?a ?l ?c ?k
   (case a=>k_is);(case l=>k_is);(case c=>k_is);(case k=>k_is)
  have A_law:L2.At (L2.KOf KX) mg "law" Wc.s_law:=by
   dsimp only[L2.KOf]
   refine' L2.at_mk KX G ?a ?l ?c ?k
   (case a=>k_is);(case l=>k_is);(case c=>k_is);(case k=>k_is)
  have T:Wc.Txt (L2.KOf KX) mg:=by
   dsimp only[L2.KOf]
   refine' ⟨PySem.W.mg_none_of KX G ?b_all,PySem.W.mg_none_of KX G ?b_bool,PySem.W.mg_none_of KX G ?b_enumerate,PySem.W.mg_none_of KX G ?b_int,PySem.W.mg_none_of KX G ?b_isinstance,PySem.W.mg_none_of KX G ?b_len,PySem.W.mg_none_of KX G ?b_list,PySem.W.mg_none_of KX G ?b_max,PySem.W.mg_none_of KX G ?b_min,PySem.W.mg_none_of KX G ?b_range,PySem.W.mg_none_of KX G ?b_set,PySem.W.mg_none_of KX G ?b_sorted,PySem.W.mg_none_of KX G ?b_str,PySem.W.mg_none_of KX G ?b_sum,PySem.W.mg_none_of KX G ?b_tuple,PySem.W.mg_none_of KX G ?b_zip⟩
   (case b_all=>k_is)
   (case b_bool=>k_is)
   (case b_enumerate=>k_is)
   (case b_int=>k_is)
   (case b_isinstance=>k_is)
   (case b_len=>k_is)
   (case b_list=>k_is)
   (case b_max=>k_is)
   (case b_min=>k_is)
   (case b_range=>k_is)
   (case b_set=>k_is)
   (case b_sorted=>k_is)
   (case b_str=>k_is)
   (case b_sum=>k_is)
   (case b_tuple=>k_is)
   (case b_zip=>k_is)
  exact Wc.law_ok T A_Channel A__law_stem A__law_named A__law_mix A__law_pins A__law_open A__law_many A__law_stretch A__law_bends A__law_keeps A__law_channel A_nets_of A_ends_of A_column_of A_stretch_of A_bend_columns A_width_of A_net_pieces A_pieces_of A__law_due A_pieces_at A_pin_triples A_common_of A_beneath_keep A_keep_triples A_above_of A__law_alike A_law hmg
#print axioms PySem.Challenge.cw_wirechannel_k20_what_must_lie_above_holds
