import PyProof.Rows.All
import Wide.All
import OpenK.AllK
import Wide.FinOn
import OpenK.KMore
import KE.KTryOn
import KE.KxBytes
import KE.KItem
import Lean
import PyProof.EqAt
import PyProof.EqKinds
import PyProof.TupleCall
import PyProof.NeKinds
import PyProof.SliceStr2
import PyProof.ConsumeWalk
import KE.KDictSum
import PyProof.DictWalks
import PyProof.AttrMissSeq
import KE.KDictOf
import PyProof.WalksS
import PyProof.Walks
import PyProof.DictList
import PyProof.MeetsDict
import PyProof.FactsAll.dict_3
import PyProof.MinMaxWalk
import PyProof.WalkInts
import PyProof.Rows.CallKwBuiltin
import PyProof.MaxThree
import PyProof.Rows.SortRunsK
import PyProof.Rows.SortShellK
import KE.KSortTup
import PyProof.DictRoadsH
import PyProof.DictIter
import KE.KDictList
import PyProof.ZipIter
import PyProof.TupleIter
import PyProof.WalksMore
import PyProof.SumWalkG
import PyProof.DictValues
import PyProof.FactsAll.dict_4
import PySem.SetOps
import PyProof.ListRange
import PyProof.DictItems
import PyProof.CallStr
import KE.KIntText
import PyProof.StrCalls2
import PyProof.Rows.StrItems
import PySem.Challenge.RW_wirechannel_k05_bounds
local macro_rules | `(tactic| omega) => `(tactic| lia)
set_option Elab.async false
set_option linter.all false
set_option maxRecDepth 100000
namespace L2
open PySem PySem.Spec PyProof.Rows
noncomputable abbrev Key:=Sum Int Str
noncomputable def zlt:Key→Value→Bool
 | .inl k,v=>Value.isInt k v
 | .inr x,v=>Value.isStrOf x v
noncomputable def znK(w:World):Key→Int
 | .inl k=>hashInt k
 | .inr x=>hashStr w x
theorem zaG:∀{k:Key} {v:Value},zlt k v=true→(∃i t,k=Sum.inl i∧v=Value.int i t)∨(∃x t,k=Sum.inr x∧v=Value.str x t)
 | .inl i,v,h=>by
  obtain⟨t,e⟩:=Value.isInt_shape (k:=i) (v:=v) h
  exact .inl ⟨i,t,rfl,e⟩
 | .inr x,v,h=>by
  obtain⟨t,e⟩:=Value.isStrOf_shape (x:=x) (v:=v) h
  exact .inr ⟨x,t,rfl,e⟩
theorem zlu(a b:Int):decide ((Sum.inl a:Key)=Sum.inl b)=(a==b):=by
 by_cases e:a=b
 ·subst e;simp
 ·have h:¬(Sum.inl a:Key)=Sum.inl b:=fun q=>e (Sum.inl.inj q)
  rw[decide_eq_false h]
  exact(beq_eq_false_iff_ne.mpr e).symm
theorem zlv(a b:Str):decide ((Sum.inr a:Key)=Sum.inr b)=decide (a=b):=by
 by_cases e:a=b
 ·subst e;simp
 ·have h:¬(Sum.inr a:Key)=Sum.inr b:=fun q=>e (Sum.inr.inj q)
  rw[decide_eq_false h,decide_eq_false e]
theorem zlw(a:Int)(b:Str):decide ((Sum.inl a:Key)=Sum.inr b)=false:=decide_eq_false (fun q=>nomatch q)
theorem zlx(a:Str)(b:Int):decide ((Sum.inr a:Key)=Sum.inl b)=false:=decide_eq_false (fun q=>nomatch q)
noncomputable def zhh(prog:Program)(w:World):PySem.KeyKind prog w Key where
 is:=zlt
 hash:=znK w
 inj:=fun v a b ha hb=>by
  rcases zaG ha with⟨i,t,rfl,rfl⟩ | ⟨x,t,rfl,rfl⟩
  ·rcases zaG hb with⟨j,u,rfl,e⟩ | ⟨y,u,rfl,e⟩
   ·injection e with e1 _;rw[e1]
   ·exact nomatch e
  ·rcases zaG hb with⟨j,u,rfl,e⟩ | ⟨y,u,rfl,e⟩
   ·exact nomatch e
   ·injection e with e1 _;rw[e1]
 byValue:=fun k v h=>by
  rcases zaG h with⟨i,t,rfl,rfl⟩ | ⟨x,t,rfl,rfl⟩<;>rfl
 pyHash:=fun hv h=>by
  rcases zaG hv with⟨i,t,rfl,rfl⟩ | ⟨x,t,rfl,rfl⟩
  ·exact wpAny_pyHash_int h
  ·exact wpAny_pyHash_str h
 eqBool:=fun hu hv h=>by
  rcases zaG hu with⟨i,t,rfl,rfl⟩ | ⟨x,t,rfl,rfl⟩
  ·rcases zaG hv with⟨j,u,rfl,rfl⟩ | ⟨y,u,rfl,rfl⟩
   ·rw[zlu] at h;exact wpAny_eqBool_int h
   ·rw[zlw] at h;exact SeqAt.EqAt.int_str i t y u _ _ _ _ h
  ·rcases zaG hv with⟨j,u,rfl,rfl⟩ | ⟨y,u,rfl,rfl⟩
   ·rw[zlx] at h;exact SeqAt.EqAt.str_int x t j u _ _ _ _ h
   ·rw[zlv] at h;exact wpAny_eqBool_str h
 «strs»:=fun k x t v h=>by
  rcases zaG h with⟨i,u,rfl,e⟩ | ⟨y,u,rfl,e⟩
  ·exact nomatch e
  ·injection e with e1 _
   subst e1
   cases v<;>rfl
end L2
namespace L2
open PySem PySem.Spec PyProof.Rows
inductive V where
 | non | bl (b:Bool) | int (i:Int) | str (x:Str) | byt (b:Array UInt8) | flt (b:UInt64) | ref (a:Addr) | ty (n:String)
 deriving DecidableEq
noncomputable def RelV:V→Value→Prop
 | .non,u=>u=Value.none
 | .bl b,u=>u=Value.bool b
 | .int i,u=>∃t,u=Value.int i t
 | .str x,u=>∃t,u=Value.str x t
 | .byt b,u=>∃t,u=Value.bytes b t
 | .flt b,u=>∃t,u=Value.float b t
 | .ref a,u=>u=Value.ref a
 | .ty n,u=>u=Value.type n
noncomputable abbrev Vals:List V→List Value→Prop:=Paired RelV
theorem Vals.length{xs:List V}{us:List Value}(r:Vals xs us):xs.length=us.length:=Paired.length r
theorem Vals.get:∀{xs:List V} {us:List Value} {i:Nat} {x:V},Vals xs us→xs[i]?=some x→∃u,us[i]?=some u∧RelV x u
 | _,_,_,_,.nil,e=>by simp at e
 | _,_,0,_,.cons r _,e=>by simp at e;subst e;exact⟨_,rfl,r⟩
 | _,_,i+1,x,.cons _ t,e=>by
  obtain⟨u,h1,h2⟩:=Vals.get (i:=i) (x:=x) t (by simpa using e)
  exact⟨u,by simpa using h1,h2⟩
theorem Vals.append:∀{xs ys:List V} {us ws:List Value},Vals xs us→Vals ys ws→Vals (xs++ys) (us++ws)
 | _,_,_,_,.nil,s=>s
 | _,_,_,_,.cons r t,s=>.cons r (Vals.append t s)
theorem Vals.take:∀{xs:List V} {us:List Value} (n:Nat),Vals xs us→Vals (xs.take n) (us.take n)
 | _,_,0,_=>.nil
 | _,_,_+1,.nil=>.nil
 | _,_,n+1,.cons r t=>.cons r (Vals.take n t)
theorem Vals.drop:∀{xs:List V} {us:List Value} (n:Nat),Vals xs us→Vals (xs.drop n) (us.drop n)
 | _,_,0,r=>r
 | _,_,_+1,.nil=>.nil
 | _,_,n+1,.cons _ t=>Vals.drop n t
noncomputable def RelO:Option V→Option Value→Prop
 | some v,some u=>RelV v u
 | none,none=>True
 | _,_=>False
noncomputable def KV{κ:Type}:List (κ×V)→List (κ×Value)→Prop:=Paired fun(p:κ×V) (q:κ×Value)=>p.1=q.1∧RelV p.2 q.2
noncomputable def kV:Key→V
 | .inl i=>.int i
 | .inr x=>.str x
inductive HO where
 /-- a list -/
 | lst (xs:List V)
 /-- a tuple (never changes) -/
 | tup (xs:List V)
 /-- a dict whose keys are ints and texts;one whose keys are tuples of ints and texts (the empty one is both) -/
 | dK (kvs:List (Key×V)) (ep:Nat) | dT (kvs:List (List Key×V)) (bs:List Addr)
 /-- a set of ints: its members,its size -/
 | set (S:Int→Bool) (n:Nat)
 /-- an instance of the class at C,its dict at dx,its attributes -/
 | ins (C dx:Addr) (fs:List (Str×V))
 /-- the dict of the instance at x -/
 | own (x:Addr)
 /-- the dict of an exception -/
 | xd (fs:List (Str×V))
 /-- a bound method,f of x -/
 | met (f x:Addr)
 /-- a range object lo,lo+1,.. below hi -/
 | rng (lo hi:Int)
 /-- a thing that is known to the object (the script;a dict while a loop walks it): read,never written while it is so -/
 | frz (o:Obj) (u:HO)
 /-- a code object's table -/
 | tbl (ps:Array Value)
 /-- any other thing,by what is true of its one object (a def of one's own: SetO a S n:=HO.ext fun h=>..) -/
 | ext (φ:Heap→Prop)
noncomputable abbrev Hp:=Addr→Option HO
noncomputable def upd(H:Hp)(a:Addr)(o:HO):Hp:=fun b=>if b=a then some o else H b
theorem zal{H:Hp}{a:Addr}{o:HO}:upd H a o a=some o:=by unfold upd;rw[if_pos rfl]
theorem zai{H:Hp}{a b:Addr}{o:HO}(h:b≠a):upd H a o b=H b:=by unfold upd;rw[if_neg h]
theorem zm3{H:Hp}{a b:Addr}{o u:HO}(h:H a=some o)(h':H b=some u)(d:o≠u):a≠b:=by
 intro e;subst e;rw[h] at h';exact d (Option.some.inj h')
theorem zaj{H:Hp}{a b:Addr}{o:HO}(h:H a=some o)(h':H b=none):a≠b:=by
 intro e;subst e;rw[h] at h';cases h'
section
variable (P:Program) (w:World)
noncomputable def ObjOk(H:Hp)(h:Heap)(a:Addr):HO→Prop
 | .lst xs=>xs.length≤sizeLine∧∃(its:List Value) (n:Nat),Vals xs its∧h.get? a=some { cls:=.type "list",data:=.seq its.toArray n }
 | .tup xs=>xs.length≤sizeLine∧∃its:List Value,Vals xs its∧IsTup h a its.toArray
 | .dK kvs ep=>kvs.length≤sizeLine∧(a==sysModules)=false∧∃vs,KV kvs vs∧h.DictAt (zhh P w) a vs ep
 | .dT kvs bs=>kvs.length≤sizeLine∧(a==sysModules)=false∧∃xs:List (List Key×Addr×Value),xs.map (fun x=>x.2.1)=bs∧
   Paired (fun(p:List Key×V) (q:List Key×Addr×Value)=>p.1=q.1∧H q.2.1=some (.tup (p.1.map kV))∧RelV p.2 q.2.2) kvs xs∧
   ∃o es ep,h.get? a=some o∧o.ExactDict∧o.data=.dict es ep∧es.toList=xs.map (entryOfKey (tupleKind (zhh P w)))∧(xs.map (·.1)).Nodup
 | .set S n=>h.SetOf (intKind P w) a S n
 | .ins C dx fs=>H dx=some (.own a)∧fs.length≤1000∧dx≠a∧h.get? a=some (PySem.W.instObj C dx)∧
   ∃mA,h.Ns1 dx mA∧(∀f,RelO (fs.lookup f) (mA f))∧PySem.Within mA (fs.map (·.1))
 | .own _=>∃o,h.get? a=some o
 | .xd fs=>∃mA,h.Ns1 a mA∧∀f,RelO (fs.lookup f) (mA f)
 | .rng lo hi=>∃t u v,h.get? a=some { cls:=.type "range",data:=.fields #[.int lo t,.int hi u,.int 1 v] }
 | .frz o u=>h.get? a=some o∧ObjOk H h a u
 | .tbl ps=>h.get? a=some { cls:=.none,data:=.fields ps }
 | .met f x=>h.get? a=some (PySem.W.methodObj (.ref f) (.ref x))
 | .ext φ=>φ h∧(∃o,h.get? a=some o)∧∀h1 h2:Heap,φ h1→(∀o,h1.get? a=some o→h2.get? a=some o)→φ h2
noncomputable def HOk(H:Hp)(h:Heap):Prop:=∀a o,H a=some o→ObjOk P w H h a o
end
section
variable {P:Program} {w:World} {H H':Hp} {h h':Heap} {a:Addr} {o:HO}
theorem ObjOk.lt(x:ObjOk P w H h a o):a<h.objs.size:=by
 cases o with
 | lst xs=>obtain⟨_,_,_,_,e⟩:=x;exact Heap.lt_size e
 | tup xs=>obtain⟨_,_,_,p⟩:=x;exact p.lt
 | dK kvs ep=>obtain⟨_,_,_,_,o,_,e,_⟩:=x;exact Heap.lt_size e
 | dT kvs bs=>obtain⟨_,_,_,_,_,o,_,_,e,_⟩:=x;exact Heap.lt_size e
 | set S n=>obtain⟨o,_,_,_,e,_⟩:=x;exact Heap.lt_size e
 | ins C dx fs=>obtain⟨_,_,_,e,_⟩:=x;exact Heap.lt_size e
 | own y=>obtain⟨_,e⟩:=x;exact Heap.lt_size e
 | xd fs=>obtain⟨_,⟨_,_,_,e,_⟩,_⟩:=x;exact Heap.lt_size e
 | rng lo hi=>obtain⟨_,_,_,e⟩:=x;exact Heap.lt_size e
 | frz ob u=>obtain⟨e,_⟩:=x;exact Heap.lt_size e
 | tbl ps=>exact Heap.lt_size (show h.get? a=some _ from x)
 | met f y=>exact Heap.lt_size (show h.get? a=some _ from x)
 | ext φ=>obtain⟨_,⟨_,e⟩,_⟩:=x;exact Heap.lt_size e
theorem Paired.mapP{α β:Type}{F G:α→β→Prop}:∀{l₁:List α} {l₂:List β},Paired F l₁ l₂→(∀a b,F a b→G a b)→Paired G l₁ l₂
 | _,_,.nil,_=>.nil
 | _,_,.cons r t,f=>.cons (f _ _ r) (Paired.mapP t f)
theorem ObjOk.stay(x:ObjOk P w H h a o)(k:∀b u,(b=a∨H b=some (.own a))→h.get? b=some u→h'.get? b=some u)
  (ho:∀b,H b=some (.own a)→H' b=some (.own a)) (ht:∀b xs,H b=some (.tup xs)→H' b=some (.tup xs)):ObjOk P w H' h' a o:=by
 induction o with
 | lst xs=>obtain⟨z,its,n,r,e⟩:=x;exact⟨z,its,n,r,k _ _ (.inl rfl) e⟩
 | tup xs=>obtain⟨z,its,r,ob,e,c⟩:=x;exact⟨z,its,r,ob,k _ _ (.inl rfl) e,c⟩
 | dK kvs ep=>obtain⟨z,y,vs,r,ob,es,e,c⟩:=x;exact⟨z,y,vs,r,ob,es,k _ _ (.inl rfl) e,c⟩
 | dT kvs bs=>
  obtain⟨z,y,xs,bq,r,ob,es,ep,e,c⟩:=x
  exact⟨z,y,xs,bq,Paired.mapP r fun p q z=>⟨z.1,ht _ _ z.2.1,z.2.2⟩,ob,es,ep,k _ _ (.inl rfl) e,c⟩
 | set S n=>obtain⟨ob,es,ep,t,e,c⟩:=x;exact⟨ob,es,ep,t,k _ _ (.inl rfl) e,c⟩
 | ins C dx fs=>
  obtain⟨d,z,ne,e,mA,⟨od,es,ep,e2,c⟩,r⟩:=x
  exact⟨ho _ d,z,ne,k _ _ (.inl rfl) e,mA,⟨od,es,ep,k _ _ (.inr d) e2,c⟩,r⟩
 | own y=>obtain⟨ob,e⟩:=x;exact⟨ob,k _ _ (.inl rfl) e⟩
 | xd fs=>obtain⟨mA,⟨od,es,ep,e,c⟩,r⟩:=x;exact⟨mA,⟨od,es,ep,k _ _ (.inl rfl) e,c⟩,r⟩
 | rng lo hi=>obtain⟨t,u,v,e⟩:=x;exact⟨t,u,v,k _ _ (.inl rfl) e⟩
 | frz ob u ih=>obtain⟨e,q⟩:=x;exact⟨k _ _ (.inl rfl) e,ih q⟩
 | tbl ps=>
  have e:h.get? a=some { cls:=.none,data:=.fields ps }:=x
  show h'.get? a=some { cls:=.none,data:=.fields ps }
  exact k a _ (.inl rfl) e
 | met f y=>
  have e:h.get? a=some (PySem.W.methodObj (.ref f) (.ref y)):=x
  show h'.get? a=some (PySem.W.methodObj (.ref f) (.ref y))
  exact k a _ (.inl rfl) e
 | ext φ=>obtain⟨p,⟨o,e⟩,st⟩:=x;exact⟨st _ _ p fun o q=>k _ _ (.inl rfl) q,⟨o,k _ _ (.inl rfl) e⟩,st⟩
theorem HOk.lt(x:HOk P w H h)(e:H a=some o):a<h.objs.size:=(x a o e).lt
theorem HOk.fresh(x:HOk P w H h)(e:h.objs.size≤a):H a=none:=by
 cases q:H a with
 | none=>rfl
 | some u=>exact absurd (Nat.lt_of_lt_of_le (x.lt q) e) (Nat.lt_irrefl _)
theorem HOk.kept(x:HOk P w H h)(k:∀b u,h.get? b=some u→h'.get? b=some u):HOk P w H h':=fun a o e=>
 (x a o e).stay (fun b u _ q=>k b u q) (fun _ q=>q) fun _ _ q=>q
theorem HOk.laid(x:HOk P w H h)(k:∀b u,h.get? b=some u→h'.get? b=some u)(hp:h.objs.size≤a)(new:ObjOk P w (upd H a o) h' a o):HOk P w (upd H a o) h':=fun b u e=>by
 have hn:=x.fresh hp
 by_cases hb:b=a
 ·subst hb;rw[zal] at e;cases e;exact new
 ·rw[zai hb] at e
  exact(x b u e).stay (fun c v _ q=>k c v q) (fun c q=>by rw[zai (zaj q hn)];exact q) fun c xs q=>by rw[zai (zaj q hn)];exact q
end
noncomputable def Rd(H:Hp)(a:Addr)(u:HO):Prop:=H a=some u∨∃o,H a=some (.frz o u)
theorem Rd.ok{P:Program}{w:World}{H:Hp}{h:Heap}{a:Addr}{u:HO}(r:Rd H a u)(x:HOk P w H h):ObjOk P w H h a u:=by
 rcases r with r | ⟨o,r⟩
 ·exact x a u r
 ·obtain⟨_,q⟩:=x a _ r
  exact q
noncomputable def Mut:Option HO→Prop
 | some (.lst _)=>True
 | some (.dK _ _)=>True
 | some (.dT _ _)=>True
 | some (.set _ _)=>True
 | some (.ins _ _ _)=>True
 | some (.ext _)=>True
 | _=>False
section
variable {P:Program} {w:World} {H:Hp} {h h':Heap} {x e:Addr} {o':HO}
theorem HOk.write(ok:HOk P w H h)(mu:Mut (H x))(he:e=x∨H e=some (.own x))(k:∀b u,b≠e→h.get? b=some u→h'.get? b=some u)(heo:∃u,h'.get? e=some u)
  (new:ObjOk P w (upd H x o') h' x o'):HOk P w (upd H x o') h':=fun b u q=>by
 have nown:∀c y,H c=some (.own y)→c≠x:=fun c y r z=>by subst z;rw[r] at mu;exact mu
 have ntup:∀c xs,H c=some (.tup xs)→c≠x:=fun c xs r z=>by subst z;rw[r] at mu;exact mu
 by_cases hb:b=x
 ·subst hb;rw[zal] at q;cases q;exact new
 ·rw[zai hb] at q
  by_cases hbe:b=e
  ·have q':H b=some (.own x):=by
    rcases he with z | z
    ·exact absurd (hbe.trans z) hb
    ·rw[hbe];exact z
   rw[q] at q';cases q'
   obtain⟨v,hv⟩:=heo
   exact⟨v,by rw[hbe];exact hv⟩
  ·refine(ok b u q).stay (fun c v hc r=>k c v ?_ r) (fun c r=>by rw[zai (nown c b r)];exact r) fun c xs r=>by rw[zai (ntup c xs r)];exact r
   rcases hc with rfl | hc
   ·exact hbe
   ·rintro rfl
    rcases he with z | z
    ·exact nown c b hc z
    ·rw[hc] at z;cases z;exact hb rfl
end
structure Un (fs ex:List Addr) (H H':Hp) (h h':Heap):Prop where
 keep:∀b o,h.get? b=some o→H b=none→b∉fs→b∉ex→h'.get? b=some o
 slot:∀b o,h.get? b=some o→H b=none→b∈fs→b∉ex→∃sl,h'.get? b=some { o with slots:=sl }
 free:∀b o,h.get? b=some o→H b=none→b∉ex→H' b=none
 there:∀b o,h.get? b=some o→b∉ex→∃o',h'.get? b=some o'
 tups:∀b xs,H b=some (.tup xs)→H' b=some (.tup xs)
 frzs:∀b o u,H b=some (.frz o u)→H' b=some (.frz o u)
 tbls:∀b ps,H b=some (.tbl ps)→∃more,H' b=some (.tbl (ps++more))
section
variable {fs fs' ex ex':List Addr} {H H1 H2:Hp} {h h1 h2 h':Heap} {a x e:Addr} {o:HO}
theorem Un.any(u:Un fs ex H H1 h h1){b:Addr}{ob:Obj}(q:h.get? b=some ob)(n:H b=none)(hx:b∉ex):∃sl,h1.get? b=some { ob with slots:=sl }:=by
 by_cases hb:b∈fs
 ·exact u.slot b ob q n hb hx
 ·exact⟨ob.slots,u.keep b ob q n hb hx⟩
theorem Un.kept(k:∀b u,h.get? b=some u→h'.get? b=some u):Un fs ex H H h h':=
 ⟨fun b ob q _ _ _=>k b ob q,fun b ob q _ _ _=>⟨ob.slots,k b ob q⟩,fun _ _ _ n _=>n,fun b ob q _=>⟨ob,k b ob q⟩,fun _ _ q=>q,fun _ _ _ q=>q,fun _ ps q=>⟨#[],by rw[q];simp⟩⟩
theorem Un.refl:Un fs ex H H h h:=Un.kept fun _ _ q=>q
theorem Un.laid(k:∀b u,h.get? b=some u→h'.get? b=some u)(hp:h.objs.size≤a)(hn:H a=none):Un fs ex H (upd H a o) h h' where
 keep:=fun b u q _ _ _=>k b u q
 slot:=fun b u q _ _ _=>⟨u.slots,k b u q⟩
 free:=fun b u q n _=>by rw[zai (Nat.ne_of_lt (Nat.lt_of_lt_of_le (Heap.lt_size q) hp))];exact n
 there:=fun b u q _=>⟨u,k b u q⟩
 tups:=fun b xs q=>by rw[zai (zaj q hn)];exact q
 frzs:=fun b u xs q=>by rw[zai (zaj q hn)];exact q
 tbls:=fun b ps q=>⟨#[],by rw[zai (zaj q hn),q];simp⟩
theorem Un.write(mu:Mut (H x))(he:e=x∨H e=some (.own x))(k:∀b u,b≠e→h.get? b=some u→h'.get? b=some u)(heo:∃u,h'.get? e=some u):Un fs ex H (upd H x o) h h':=by
 have hx:∀b,H b=none→b≠x:=fun b n z=>by subst z;rw[n] at mu;exact mu
 have hb:∀b,H b=none→b≠e:=fun b n z=>by
  subst z
  rcases he with r | r
  ·exact hx b n r
  ·rw[n] at r;cases r
 have hm:∀b u,H b=some u→¬Mut (some u)→b≠x:=fun b u q nm z=>by subst z;rw[q] at mu;exact nm mu
 refine⟨fun b u q n _ _=>k b u (hb b n) q,fun b u q n _ _=>⟨u.slots,k b u (hb b n) q⟩,fun b u q n _=>by rw[zai (hx b n)];exact n,fun b u q _=>?_,
  fun b xs q=>by rw[zai (hm b _ q fun z=>z)];exact q,fun b u xs q=>by rw[zai (hm b _ q fun z=>z)];exact q,fun b ps q=>⟨#[],by rw[zai (hm b _ q fun z=>z),q];simp⟩⟩
 by_cases hbe:b=e
 ·subst hbe;exact heo
 ·exact⟨u,k b u hbe q⟩
end
noncomputable def trk(h:Heap)(H:Hp):List Addr:=(List.range h.objs.size).filter fun a=>(H a).isSome
noncomputable def ziW(h:Heap)(H:Hp):Heap:=PySem.W.hideAll h (trk h H)
theorem zhi(h:Heap)(H:Hp):(ziW h H).objs.size=h.objs.size:=PySem.W.hideAll_size _ _
theorem ziX{h:Heap}{H:Hp}{b:Addr}{o:Obj}(e:h.get? b=some o)(n:H b=none):(ziW h H).get? b=some o:=
 PySem.W.hideAll_get _ e fun hm=>by
  have q:(H b).isSome=true:=(List.mem_filter.mp hm).2
  rw[n] at q;simp at q
theorem zkp{h:Heap}{H:Hp}{b:Addr}{o:Obj}(e:(ziW h H).get? b=some o):h.get? b=some o∧H b=none:=by
 have e':h.get? b=some o:=PySem.W.of_hideAll (trk h H) e
 refine⟨e',?_⟩
 cases q:H b with
 | none=>rfl
 | some x=>
  have hm:b∈trk h H:=List.mem_filter.mpr ⟨List.mem_range.mpr (Heap.lt_size e'),by simp[q]⟩
  have z:(ziW h H).get? b=none:=PySem.W.hideAll_none (trk h H) hm
  rw[z] at e;cases e
noncomputable def zkq(g h:Heap)(L:Addr):List (Addr×Obj):=(List.range h.objs.size).filterMap fun a=>if a=L∨(g.get? a).isSome=true then none else(h.get? a).map fun o=>(a,o)
noncomputable def zeP(g h:Heap)(L d:Addr):List (Addr×Obj):=(zkq g h L).filter fun p=>decide (p.1≠d)
end L2
namespace L2
open PySem PySem.Spec PyProof.Rows
structure Mod (K:PySem.W.Frag) (mg:Str→Option Value) (base:Heap):Prop where
 kin:K.In base
 glob:base.Ns mainGlobals mg
 blt:∃mb,base.Ns builtinsNs mb∧∀x:Str,x≠"__name__"→mb x=bootBuiltins x
 nolimit:base.NoLimit
structure Cx where
 prog:Program
 w:World
 K:PySem.W.Frag
 mg:Str→Option Value
 base:Heap
 A:Around
 N:List Str
 s₀:Shared
 H₀:Hp
 env:Env
 outer:List Env
 stack:List Env
 ex:List Addr
 fn:Str→Bool
 calm:Bool
 pn:List (Addr×Obj)
 xe:Value→Shared→Prop
noncomputable def frs(l:List Env):List Addr:=l.filterMap (·.frame)
noncomputable abbrev Cx.fs(X:Cx):List Addr:=frs X.outer
noncomputable def Vis(sc:Scope)(x:Str):Prop:=sc.names.lookup x=some .local∨sc.names.lookup x=some .cell∨sc.names.lookup x=some .free
noncomputable def Loc(sc:Scope)(x:Str):Prop:=sc.names.lookup x=some .local∨sc.names.lookup x=some .cell
noncomputable def Look(env:Env)(h:Heap)(m:Str→Option Value)(x:Str)(u:Value):Prop:=
 (env.kindOf x=some .local∧m x=some u)∨((env.kindOf x=some .cell∨env.kindOf x=some .free)∧∃c,env.cells.lookup x=some c∧h.IsCell c (some u))
structure Cx.Ok (X:Cx):Prop where
 mod:Mod X.K X.mg X.base
 kind:X.env.scope.kind=.function
 glob:X.env.globals=mainGlobals
 blt:X.env.builtins=builtinsNs
 above:X.s₀.heap.objs.size≤X.env.locals
 inj:∀x y c,X.env.cells.lookup x=some c→X.env.cells.lookup y=some c→x=y
 has:∀x,(X.env.kindOf x=some .cell∨X.env.kindOf x=some .free)→∃c,X.env.cells.lookup x=some c
 cab:∀x c,X.fn x=true→X.env.cells.lookup x=some c→X.s₀.heap.objs.size≤c
 hd:X.calm=true→X.A.handled=none
 frames:X.A.frames=some X.stack
 stk:X.stack=X.outer∨(X.stack=X.env::X.outer∧X.env.frame=some X.env.locals)
 exf:∀b∈X.ex,b≠X.env.locals∧∀x c,X.env.cells.lookup x=some c→c≠b
 bs:∀b o,X.base.get? b=some o→X.s₀.heap.get? b=some o∧X.H₀ b=none
 bsz:X.base.objs.size≤X.s₀.heap.objs.size
 noex:∀b o,X.base.get? b=some o→b∉X.ex
 exfs:∀b∈X.ex,b∉X.fs
 funs:X.s₀.heap.FunFrames X.base X.outer
 frf:∀b∈X.fs,X.H₀ b=none
structure Inv (X:Cx) (pins:List (Addr×Obj)) (σ:List (Option V)) (H:Hp) (s:Shared):Prop where
 ok:X.Ok
 os:s.os=X.s₀.os
 bare:AllBare s.gens
 base:Un X.fs X.ex X.H₀ H X.s₀.heap s.heap
 loc:∃m,s.heap.Ns X.env.locals m∧∀(i:Nat) (x:Str) (v:V),X.N[i]?=some x→σ[i]?=some (some v)→Vis X.env.scope x→∃u,RelV v u∧Look X.env s.heap m x u
 cell:∀x c,X.env.cells.lookup x=some c→∃v,s.heap.IsCell c v
 free:H X.env.locals=none
 freeC:∀x c,X.env.cells.lookup x=some c→H c=none
 pin:∀p∈X.pn++pins,s.heap.get? p.1=some p.2∧H p.1=none∧p.1≠X.env.locals∧p.1∉X.fs∧∀v,p.2.data≠.cell v
 hok:HOk X.prog X.w H s.heap
 len:σ.length=X.N.length
section
variable {X:Cx} {pins:List (Addr×Obj)} {σ:List (Option V)} {H H':Hp} {s:Shared} {h':Heap}
theorem Cx.Ok.nofr(ok:X.Ok){b:Addr}{o:Obj}(e:X.base.get? b=some o):b∉X.fs:=fun hb=>by
 have:=(ok.funs.mem hb).1
 rw[e] at this;cases this
theorem Inv.bs(I:Inv X pins σ H s):∀b o,X.base.get? b=some o→s.heap.get? b=some o∧H b=none:=fun b o e=>
 ⟨I.base.keep b o (I.ok.bs b o e).1 (I.ok.bs b o e).2 (I.ok.nofr e) (I.ok.noex b o e),I.base.free b o (I.ok.bs b o e).1 (I.ok.bs b o e).2 (I.ok.noex b o e)⟩
theorem Inv.bk(I:Inv X pins σ H s):∀b o,X.base.get? b=some o→s.heap.get? b=some o:=fun b o e=>(I.bs b o e).1
theorem Inv.mod(I:Inv X pins σ H s):Mod X.K X.mg X.base:=I.ok.mod
theorem Inv.kIn(I:Inv X pins σ H s):X.K.In s.heap:=I.ok.mod.kin.keeps I.bk
theorem Inv.lt(I:Inv X pins σ H s):X.env.locals<s.heap.objs.size:=let⟨_,hn,_⟩:=I.loc;hn.lt
theorem Inv.sz(I:Inv X pins σ H s):X.s₀.heap.objs.size≤s.heap.objs.size:=Nat.le_trans I.ok.above (Nat.le_of_lt I.lt)
theorem Inv.nofs(I:Inv X pins σ H s){a:Addr}(h:s.heap.objs.size≤a):a∉X.fs:=fun hb=>by
 obtain⟨_,o,ho,_⟩:=I.ok.funs.mem hb
 exact absurd (Nat.lt_of_lt_of_le (Heap.lt_size ho) (Nat.le_trans I.sz h)) (Nat.lt_irrefl _)
theorem Inv.cne(I:Inv X pins σ H s):∀x c,X.env.cells.lookup x=some c→c≠X.env.locals:=fun x c e z=>by
 obtain⟨v,o,ho,hd⟩:=I.cell x c e
 obtain⟨m,⟨o',es,ep,ho',hd',_⟩,_⟩:=I.loc
 rw[z,ho'] at ho;cases ho;rw[hd'] at hd;cases hd
theorem Inv.funs(I:Inv X pins σ H s):s.heap.FunFrames X.base X.outer:=by
 have all:∀(l:List Env),(∀b∈frs l,b∈X.fs)→X.s₀.heap.FunFrames X.base l→s.heap.FunFrames X.base l:=by
  intro l
  induction l with
  | nil=>intro _ _;trivial
  | cons env r ih=>
   intro hs hl
   obtain⟨hk,⟨L,o,hf,hn,ho,hd⟩,hr⟩:=hl
   have hL:L∈X.fs:=hs L (by unfold frs;rw[List.filterMap_cons,hf];exact List.mem_cons_self)
   obtain⟨sl,e⟩:=I.base.slot L o ho (I.ok.frf L hL) hL fun z=>I.ok.exfs L z hL
   exact⟨hk,⟨L,_,hf,hn,e,hd⟩,ih (fun b hb=>hs b (by unfold frs;rw[List.filterMap_cons,hf];exact List.mem_cons_of_mem _ hb)) hr⟩
 exact all X.outer (fun _ hb=>hb) I.ok.funs
theorem Inv.stack(I:Inv X pins σ H s):s.heap.FunFrames X.base X.stack:=by
 rcases I.ok.stk with e | ⟨e,hf⟩
 ·rw[e];exact I.funs
 ·rw[e]
  obtain⟨m,hn,_⟩:=I.loc
  refine .cons (by rw[I.ok.kind];decide) hf hn ?_ I.funs
  exact Heap.get?_none_of_le (Nat.le_trans I.ok.bsz I.ok.above)
theorem Inv.stkSub(I:Inv X pins σ H s):∀b∈frs X.stack,b∈X.env.locals::X.fs:=fun b hb=>by
 rcases I.ok.stk with e | ⟨e,hf⟩
 ·rw[e] at hb;exact List.mem_cons_of_mem _ hb
 ·rw[e] at hb
  unfold frs at hb
  rw[List.filterMap_cons,hf] at hb
  exact hb
theorem Inv.stkFree(I:Inv X pins σ H s):∀b∈frs X.stack,H b=none:=fun b hb=>by
 rcases List.mem_cons.mp (I.stkSub b hb) with e | hb
 ·rw[e];exact I.free
 ·obtain⟨_,o,ho,_⟩:=I.ok.funs.mem hb
  exact I.base.free b o ho (I.ok.frf b hb) fun z=>I.ok.exfs b z hb
theorem Inv.step{g':Array GenState}{t':Nat}{d':Drawn}{ch:List Addr}(I:Inv X pins σ H s)
  (hch:∀b∈ch,(b∈X.ex∨X.s₀.heap.objs.size≤b)∧b≠X.env.locals∧(∀x c,X.env.cells.lookup x=some c→c≠b)∧∀p∈X.pn++pins,p.1≠b)
  (keep:∀b o,b≠X.env.locals→b∉X.fs→b∉ch→s.heap.get? b=some o→H b=none→h'.get? b=some o)
  (slot:∀b o,b≠X.env.locals→b∈X.fs→b∉ch→s.heap.get? b=some o→H b=none→∃sl,h'.get? b=some { o with slots:=sl }) (free:∀b o,b∉ch→s.heap.get? b=some o→H b=none→H' b=none)
  (there:∀b o,b∉ch→s.heap.get? b=some o→∃o',h'.get? b=some o')
  (tups:∀b xs,H b=some (.tup xs)→H' b=some (.tup xs)) (frzs:∀b o u,H b=some (.frz o u)→H' b=some (.frz o u)) (tbls:∀b ps,H b=some (.tbl ps)→∃more,H' b=some (.tbl (ps++more)))
  (ns:∀m,s.heap.Ns X.env.locals m→h'.Ns X.env.locals m) (hok:HOk X.prog X.w H' h') (hg:AllBare g') :
  Inv X pins σ H' { s with heap:=h',gens:=g',drawn:=d',toks:=t' }:=by
 have neL:∀b o,X.s₀.heap.get? b=some o→b≠X.env.locals:=fun b o e=>Nat.ne_of_lt (Nat.lt_of_lt_of_le (Heap.lt_size e) I.ok.above)
 have neC:∀b o,X.s₀.heap.get? b=some o→b∉X.ex→b∉ch:=fun b o e hx hb=>by
  rcases(hch b hb).1 with z | z
  ·exact hx z
  ·exact absurd (Nat.lt_of_lt_of_le (Heap.lt_size e) z) (Nat.lt_irrefl _)
 have cellK:∀x c,X.env.cells.lookup x=some c→∀v,s.heap.IsCell c v→h'.IsCell c v:=fun x c e v ⟨o,ho,hd⟩=>by
  have nch:c∉ch:=fun z=>(hch c z).2.2.1 x c e rfl
  by_cases hc:c∈X.fs
  ·obtain⟨sl,q⟩:=slot c o (I.cne x c e) hc nch ho (I.freeC x c e)
   exact⟨_,q,hd⟩
  ·exact⟨o,keep c o (I.cne x c e) hc nch ho (I.freeC x c e),hd⟩
 refine⟨I.ok,I.os,hg,⟨fun b o e n hb hx=>?_,fun b o e n hb hx=>?_,fun b o e n hx=>?_,fun b o e hx=>?_,fun b xs e=>tups b xs (I.base.tups b xs e),fun b o xs e=>frzs b o xs (I.base.frzs b o xs e),fun b ps e=>?_⟩,?_,fun x c e=>?_,?_,fun x c e=>?_,fun p hp=>?_,hok,I.len⟩
 ·exact keep b o (neL b o e) hb (neC b o e hx) (I.base.keep b o e n hb hx) (I.base.free b o e n hx)
 ·obtain⟨sl,e1⟩:=I.base.slot b o e n hb hx
  obtain⟨sl',e2⟩:=slot b _ (neL b o e) hb (neC b o e hx) e1 (I.base.free b o e n hx)
  exact⟨sl',e2⟩
 ·obtain⟨o',e1⟩:=I.base.there b o e hx
  exact free b o' (neC b o e hx) e1 (I.base.free b o e n hx)
 ·obtain⟨o',e1⟩:=I.base.there b o e hx
  exact there b o' (neC b o e hx) e1
 ·obtain⟨m1,e1⟩:=I.base.tbls b ps e
  obtain⟨m2,e2⟩:=tbls b _ e1
  exact⟨m1++m2,by rw[e2,Array.append_assoc]⟩
 ·obtain⟨m,hn,hl⟩:=I.loc
  refine⟨m,ns m hn,fun i x v e1 e2 e3=>?_⟩
  obtain⟨u,r,l⟩:=hl i x v e1 e2 e3
  refine⟨u,r,?_⟩
  rcases l with l | ⟨k,c,e,z⟩
  ·exact .inl l
  ·exact .inr ⟨k,c,e,cellK x c e _ z⟩
 ·obtain⟨v,z⟩:=I.cell x c e
  exact⟨v,cellK x c e v z⟩
 ·obtain⟨m,⟨o,_,_,ho,_⟩,_⟩:=I.loc
  exact free _ o (fun z=>(hch _ z).2.1 rfl) ho I.free
 ·obtain⟨v,o,ho,hd⟩:=I.cell x c e
  exact free c o (fun z=>(hch c z).2.2.1 x c e rfl) ho (I.freeC x c e)
 ·obtain⟨e,n,ne,nf,d⟩:=I.pin p hp
  have nch:p.1∉ch:=fun z=>(hch p.1 z).2.2.2 p hp rfl
  exact⟨keep p.1 p.2 ne nf nch e n,free p.1 p.2 nch e n,ne,nf,d⟩
theorem Inv.un{t':Nat}(I:Inv X pins σ H s)(u:Un X.fs [] H H' s.heap h')(hok:HOk X.prog X.w H' h'):Inv X pins σ H' { s with heap:=h',toks:=t' }:=by
 obtain⟨m,⟨o,es,ep,ho,r⟩,_⟩:=id I.loc
 obtain⟨sl,hL⟩:=u.any ho I.free (by simp)
 exact I.step (g':=s.gens) (d':=s.drawn) (ch:=[]) (fun _ z=>nomatch z) (fun b o _ hb _ e n=>u.keep b o e n hb (by simp)) (fun b o _ hb _ e n=>u.slot b o e n hb (by simp)) (fun b o _ e n=>u.free b o e n (by simp)) (fun b o _ e=>u.there b o e (by simp)) u.tups u.frzs u.tbls (fun m' hm=>by
  obtain⟨o',es',ep',ho',r'⟩:=hm
  rw[ho] at ho';cases ho'
  exact⟨_,es',ep',hL,r'⟩) hok I.bare
theorem Inv.call{g':Array GenState}{t':Nat}{d':Drawn}{ch:List Addr}(I:Inv X pins σ H s)(u:Un (frs X.stack) ch H H' s.heap h')(hok:HOk X.prog X.w H' h')(hg:AllBare g')
  (hch:∀b∈ch,(b∈X.ex∨X.s₀.heap.objs.size≤b)∧b≠X.env.locals∧(∀x c,X.env.cells.lookup x=some c→c≠b)∧∀p∈X.pn++pins,p.1≠b) :
  Inv X pins σ H' { s with heap:=h',gens:=g',drawn:=d',toks:=t' }:=by
 obtain⟨m,⟨o,es,ep,ho,r⟩,_⟩:=id I.loc
 obtain⟨sl,hL⟩:=u.any ho I.free fun z=>(hch _ z).2.1 rfl
 exact I.step (ch:=ch) hch (fun b o hL hb hc e n=>u.keep b o e n (fun z=>(List.mem_cons.mp (I.stkSub b z)).elim hL hb) hc) (fun b o _ _ hc e n=>u.any e n hc) (fun b o hc e n=>u.free b o e n hc) (fun b o hc e=>u.there b o e hc) u.tups u.frzs u.tbls (fun m' hm=>by
  obtain⟨o',es',ep',ho',r'⟩:=hm
  rw[ho] at ho';cases ho'
  exact⟨_,es',ep',hL,r'⟩) hok hg
theorem Inv.turned{t':Nat}{it:Addr}(I:Inv X pins σ H s)(k:∀b o,b≠it→s.heap.get? b=some o→h'.get? b=some o)(hn:H it=none)(hL:it≠X.env.locals)
  (h1:it∈X.ex∨X.s₀.heap.objs.size≤it) (h2:∀x c,X.env.cells.lookup x=some c→c≠it) (h3:∀p∈X.pn++pins,p.1≠it):Inv X pins σ H { s with heap:=h',toks:=t' }:=by
 have nit:∀b u,H b=some u→b≠it:=fun b u e z=>by rw[z,hn] at e;cases e
 refine I.step (g':=s.gens) (d':=s.drawn) (ch:=[it]) (fun b hb=>?_) (fun b o _ _ hc e _=>k b o (fun z=>hc (by simp[z])) e) (fun b o _ _ hc e _=>⟨o.slots,k b o (fun z=>hc (by simp[z])) e⟩) (fun _ _ _ _ n=>n)
  (fun b o hc e=>⟨o,k b o (fun z=>hc (by simp[z])) e⟩) (fun _ _ e=>e) (fun _ _ _ e=>e) (fun b ps e=>⟨#[],by rw[e];simp⟩) (fun m hm=>?_) (fun b u e=>?_) I.bare
 ·have e:b=it:=by simpa using hb
  subst e
  exact⟨h1,hL,h2,h3⟩
 ·obtain⟨o,es,ep,ho,r⟩:=hm
  exact⟨o,es,ep,k _ o (Ne.symm hL) ho,r⟩
 ·refine(I.hok b u e).stay (fun c v hc q=>k c v ?_ q) (fun _ q=>q) fun _ _ q=>q
  rcases hc with z | z
  ·rw[z];exact nit b u e
  ·exact nit c _ z
theorem Inv.tok(I:Inv X pins σ H s)(t:Nat):Inv X pins σ H { s with toks:=t }:=I.un (h':=s.heap) (t':=t) Un.refl I.hok
theorem Inv.kept{t':Nat}(I:Inv X pins σ H s)(k:∀b u,s.heap.get? b=some u→h'.get? b=some u):Inv X pins σ H { s with heap:=h',toks:=t' }:=I.un (Un.kept k) (I.hok.kept k)
theorem Inv.laid{a:Addr}{o:HO}{t':Nat}(I:Inv X pins σ H s)(k:∀b u,s.heap.get? b=some u→h'.get? b=some u)(hp:s.heap.objs.size≤a)(new:ObjOk X.prog X.w (upd H a o) h' a o) :
  Inv X pins σ (upd H a o) { s with heap:=h',toks:=t' }:=I.un (Un.laid k hp (I.hok.fresh hp)) (I.hok.laid k hp new)
theorem Inv.write{x e:Addr}{o:HO}{t':Nat}(I:Inv X pins σ H s)(mu:Mut (H x))(he:e=x∨H e=some (.own x))(k:∀b u,b≠e→s.heap.get? b=some u→h'.get? b=some u)(heo:∃u,h'.get? e=some u)
  (new:ObjOk X.prog X.w (upd H x o) h' x o):Inv X pins σ (upd H x o) { s with heap:=h',toks:=t' }:=I.un (Un.write mu he k heo) (I.hok.write mu he k heo new)
theorem Inv.pins_of{pins':List (Addr×Obj)}(I:Inv X pins σ H s)(h:∀p∈pins',s.heap.get? p.1=some p.2∧H p.1=none∧p.1≠X.env.locals∧p.1∉X.fs∧∀v,p.2.data≠.cell v):Inv X pins' σ H s:=
 ⟨I.ok,I.os,I.bare,I.base,I.loc,I.cell,I.free,I.freeC,fun p hp=>(List.mem_append.mp hp).elim (fun z=>I.pin p (List.mem_append_left _ z)) (h p),I.hok,I.len⟩
theorem zge{N:List Str}(hN:N.Nodup){i j:Nat}{x:Str}(a:N[i]?=some x)(b:N[j]?=some x):i=j:=by
 obtain⟨h1,e1⟩:=List.getElem?_eq_some_iff.mp a
 obtain⟨h2,e2⟩:=List.getElem?_eq_some_iff.mp b
 exact(List.getElem_inj hN).mp (e1.trans e2.symm)
theorem zeQ{M:Model}{A:Around}{E:Value→Shared→Prop}{i:Nat}{x:Str}{v:V}{u:Value}{Q:Unit→Shared→Prop}(I:Inv X pins σ H s)(hN:X.N.Nodup)(hi:X.N[i]?=some x)(hx:Loc X.env.scope x)(r:RelV v u)
  (h:∀s',Inv X pins (σ.set i (some v)) H s'→(∃a,Heap.SameBut a s.heap s'.heap∧(a=X.env.locals∨X.env.cells.lookup x=some a))→Q () s') (hf:X.fn x=true∨X.env.scope.names.lookup x=some .local:=by first | exact .inl rfl | exact .inr rfl | assumption):wpAny M A (storeName X.env x u) Q E s:=by
 obtain⟨m,hn,hl⟩:=id I.loc
 have hcls:(X.env.scope.kind==.class||(X.env.scope.kind==.module&&X.env.locals != X.env.globals))=false:=by rw[I.ok.kind];rfl
 have hiσ:i<σ.length:=by rw[I.len];exact(List.getElem?_eq_some_iff.mp hi).1
 have cne:=I.cne
 have tracked:∀{a:Addr} {h':Heap},(∃o,s.heap.get? a=some o∧H a=none)→Heap.SameBut a s.heap h'→HOk X.prog X.w H h':=fun{a h'} ha hs b ob e=>by
  obtain⟨_,_,hfree⟩:=ha
  refine(I.hok b ob e).stay (fun c w' hc q=>(hs.2 c ?_).trans q) (fun _ q=>q) fun _ _ q=>q
  rintro rfl
  rcases hc with rfl | hc
  ·rw[hfree] at e;cases e
  ·rw[hfree] at hc;cases hc
 rcases hx with hk | hk
 ·refine wpAny_storeName_local hk hn (fun h' hn' hs=>?_) hcls
  obtain⟨oL,_,_,hoL,_⟩:=id hn
  refine h _ ⟨I.ok,I.os,I.bare,⟨fun b o e n hb hx=>?_,fun b o e n hb hx=>?_,I.base.free,fun b o e hx=>?_,I.base.tups,I.base.frzs,I.base.tbls⟩,⟨_,hn',fun j y v' e1 e2 e3=>?_⟩,fun y c e=>?_,I.free,I.freeC,fun p hp=>?_,tracked ⟨oL,hoL,I.free⟩ hs,by simpa using I.len⟩ ⟨_,hs,.inl rfl⟩
  ·exact(hs.2 b (Nat.ne_of_lt (Nat.lt_of_lt_of_le (Heap.lt_size e) I.ok.above))).trans (I.base.keep b o e n hb hx)
  ·obtain⟨sl,e1⟩:=I.base.slot b o e n hb hx
   exact⟨sl,(hs.2 b (Nat.ne_of_lt (Nat.lt_of_lt_of_le (Heap.lt_size e) I.ok.above))).trans e1⟩
  ·obtain⟨o',e1⟩:=I.base.there b o e hx
   exact⟨o',(hs.2 b (Nat.ne_of_lt (Nat.lt_of_lt_of_le (Heap.lt_size e) I.ok.above))).trans e1⟩
  ·by_cases hj:j=i
   ·subst hj
    rw[hi] at e1;cases e1
    rw[List.getElem?_set_self hiσ] at e2
    cases e2
    exact⟨u,r,.inl ⟨hk,by simp⟩⟩
   ·rw[List.getElem?_set_ne (Ne.symm hj)] at e2
    obtain⟨u',r',q⟩:=hl j y v' e1 e2 e3
    refine⟨u',r',?_⟩
    rcases q with⟨k,e⟩ | ⟨k,c,e,z⟩
    ·refine .inl ⟨k,?_⟩
     have:y≠x:=fun e=>hj (zge hN e1 (e▸hi))
     simp[this,e]
    ·exact .inr ⟨k,c,e,z.sameBut hs (cne y c e)⟩
  ·obtain⟨w',z⟩:=I.cell y c e
   exact⟨w',z.sameBut hs (cne y c e)⟩
  ·obtain⟨e,n,ne,nf,d⟩:=I.pin p hp
   exact⟨(hs.2 p.1 ne).trans e,n,ne,nf,d⟩
 ·have hfn:X.fn x=true:=by
   rcases hf with z | z
   ·exact z
   ·rw[z] at hk;cases hk
  obtain⟨c,hc⟩:=I.ok.has x (.inl hk)
  obtain⟨w',z⟩:=I.cell x c hc
  refine wpAny_storeName_cell I.ok.kind hk hc z (fun h' hc' hs=>?_)
  obtain⟨oc,hoc,hocd⟩:=id z
  refine h { s with heap:=h' } ⟨I.ok,I.os,I.bare,⟨fun b o e n hb hx=>?_,fun b o e n hb hx=>?_,I.base.free,fun b o e hx=>?_,I.base.tups,I.base.frzs,I.base.tbls⟩,⟨m,hn.sameBut hs (Ne.symm (cne x c hc)),fun j y v' e1 e2 e3=>?_⟩,fun y c' e=>?_,I.free,I.freeC,fun p hp=>?_,tracked ⟨oc,hoc,I.freeC x c hc⟩ hs,by simpa using I.len⟩ ⟨c,hs,.inr hc⟩
  ·exact(hs.2 b (Nat.ne_of_lt (Nat.lt_of_lt_of_le (Heap.lt_size e) (I.ok.cab x c hfn hc)))).trans (I.base.keep b o e n hb hx)
  ·obtain⟨sl,e1⟩:=I.base.slot b o e n hb hx
   exact⟨sl,(hs.2 b (Nat.ne_of_lt (Nat.lt_of_lt_of_le (Heap.lt_size e) (I.ok.cab x c hfn hc)))).trans e1⟩
  ·obtain⟨o',e1⟩:=I.base.there b o e hx
   exact⟨o',(hs.2 b (Nat.ne_of_lt (Nat.lt_of_lt_of_le (Heap.lt_size e) (I.ok.cab x c hfn hc)))).trans e1⟩
  ·by_cases hj:j=i
   ·subst hj
    rw[hi] at e1;cases e1
    rw[List.getElem?_set_self hiσ] at e2
    cases e2
    exact⟨u,r,.inr ⟨.inl hk,c,hc,hc'⟩⟩
   ·rw[List.getElem?_set_ne (Ne.symm hj)] at e2
    obtain⟨u',r',q⟩:=hl j y v' e1 e2 e3
    refine⟨u',r',?_⟩
    rcases q with q | ⟨k,c',e,z'⟩
    ·exact .inl q
    ·refine .inr ⟨k,c',e,z'.sameBut hs ?_⟩
     rintro rfl
     exact hj (zge hN e1 (I.ok.inj _ _ _ e hc▸hi))
  ·by_cases hcc:c'=c
   ·subst hcc;exact⟨_,hc'⟩
   ·obtain⟨w2,z2⟩:=I.cell y c' e
    exact⟨w2,z2.sameBut hs hcc⟩
  ·obtain⟨e,n,ne,nf,d⟩:=I.pin p hp
   refine⟨(hs.2 p.1 ?_).trans e,n,ne,nf,d⟩
   intro q
   rw[q,hoc] at e
   have q':oc=p.2:=Option.some.inj e
   exact d w' (by rw[←q'];exact hocd)
theorem zbR{M:Model}{A:Around}{E:Value→Shared→Prop}{i:Nat}{x:Str}{v:V}{u:Value}{Q:Unit→Shared→Prop}(I:Inv X pins σ H s)(hN:X.N.Nodup)(hi:X.N[i]?=some x)(hx:Loc X.env.scope x)(r:RelV v u)
  (h:∀s',Inv X pins (σ.set i (some v)) H s'→Q () s') (hf:X.fn x=true∨X.env.scope.names.lookup x=some .local:=by first | exact .inl rfl | exact .inr rfl | assumption):wpAny M A (storeName X.env x u) Q E s:=
 zeQ I hN hi hx r (fun s' I' _=>h s' I') hf
theorem Inv.call'{s':Shared}{ch:List Addr}(I:Inv X pins σ H s)(ho:s'.os=s.os)(u:Un (frs X.stack) ch H H' s.heap s'.heap)(hok:HOk X.prog X.w H' s'.heap)(hg:AllBare s'.gens)
  (hch:∀b∈ch,(b∈X.ex∨X.s₀.heap.objs.size≤b)∧b≠X.env.locals∧(∀x c,X.env.cells.lookup x=some c→c≠b)∧∀p∈X.pn++pins,p.1≠b):Inv X pins σ H' s':=by
 obtain⟨h',g',d',t',o'⟩:=s'
 have e:o'=s.os:=ho
 subst e
 exact I.call (g':=g') (t':=t') (d':=d') u hok hg hch
end
noncomputable abbrev XK:=Value→Option Addr→Hp→Prop
noncomputable abbrev St:=List (Option V)
noncomputable abbrev VK:=V→Hp→Prop
noncomputable abbrev TE:=St→Hp→VK→Prop
noncomputable abbrev TT:=St→Hp→(Bool→Hp→Prop)→Prop
noncomputable abbrev TA:=St→Hp→(List V→Hp→Prop)→Prop
structure Ends where
 nx:St→Hp→Prop
 rt:VK
 bk:St→Hp→Prop:=fun _ _=>False
 ct:St→Hp→Prop:=fun _ _=>False
noncomputable abbrev TS:=Ends→St→Hp→Prop
noncomputable def EP(X:Cx)(pins:List (Addr×Obj))(σ:St)(Q:VK)(u:Value)(s':Shared):Prop:=∃v H',Inv X pins σ H' s'∧RelV v u∧Q v H'
noncomputable def TP(X:Cx)(pins:List (Addr×Obj))(σ:St)(Q:Bool→Hp→Prop)(b:Bool)(s':Shared):Prop:=∃H',Inv X pins σ H' s'∧Q b H'
noncomputable def AP(X:Cx)(pins:List (Addr×Obj))(σ:St)(Q:List V→Hp→Prop)(us:List Value)(s':Shared):Prop:=∃vs H',Inv X pins σ H' s'∧Vals vs us∧Q vs H'
noncomputable def SP(X:Cx)(pins:List (Addr×Obj))(D:Ends)(f:Flow)(s':Shared):Prop:=
 match f with
 | .next=>∃σ' H',Inv X pins σ' H' s'∧D.nx σ' H'
 | .brk=>∃σ' H',Inv X pins σ' H' s'∧D.bk σ' H'
 | .cont=>∃σ' H',Inv X pins σ' H' s'∧D.ct σ' H'
 | .ret u=>∃v σ' H',Inv X pins σ' H' s'∧RelV v u∧D.rt v H'
noncomputable def PE(X:Cx)(e:Expr)(t:TE):Prop:=
 ∀(pins:List (Addr×Obj)) (s:Shared) (σ:St) (H:Hp) (Q:VK),Inv X pins σ H s→t σ H Q→wpAny (model X.prog X.w) X.A (eval e X.env) (EP X pins σ Q) X.xe s
noncomputable def PT(X:Cx)(e:Expr)(t:TT):Prop:=
 ∀(pins:List (Addr×Obj)) (s:Shared) (σ:St) (H:Hp) (Q:Bool→Hp→Prop),Inv X pins σ H s→t σ H Q→wpAny (model X.prog X.w) X.A (isTrue e X.env (eval e X.env)) (TP X pins σ Q) X.xe s
noncomputable def PW(X:Cx)(e:Expr)(t:TT):Prop:=
 ∀(whole:Sem Value) (pins:List (Addr×Obj)) (s:Shared) (σ:St) (H:Hp) (Q:Bool→Hp→Prop),Inv X pins σ H s→t σ H Q→wpAny (model X.prog X.w) X.A (isTrue e X.env whole) (TP X pins σ Q) X.xe s
theorem PW.pt{X:Cx}{e:Expr}{t:TT}(h:PW X e t):PT X e t:=h _
noncomputable def PA(X:Cx)(es:List Expr)(t:TA):Prop:=
 ∀(pos:Pos) (pins:List (Addr×Obj)) (s:Shared) (σ:St) (H:Hp) (Q:List V→Hp→Prop),Inv X pins σ H s→t σ H Q→wpAny (model X.prog X.w) X.A (spliced (backTo pos (starEach es X.env))) (AP X pins σ Q) X.xe s
noncomputable def PS(X:Cx)(st:Stmt)(t:TS):Prop:=
 ∀(pins:List (Addr×Obj)) (s:Shared) (σ:St) (H:Hp) (D:Ends),Inv X pins σ H s→t D σ H→wpAny (model X.prog X.w) X.A (exec st X.env) (SP X pins D) X.xe s
noncomputable def PSs(X:Cx)(st:List Stmt)(t:TS):Prop:=
 ∀(pins:List (Addr×Obj)) (s:Shared) (σ:St) (H:Hp) (D:Ends),Inv X pins σ H s→t D σ H→wpAny (model X.prog X.w) X.A (execs st X.env) (SP X pins D) X.xe s
theorem thn{α:Type}{t:Sem α}{Q Q':α→Shared→Prop}{M:Model}{A:Around}{E:Value→Shared→Prop}{s:Shared}(h:wpAny M A t Q E s)(hQ:∀a s,Q a s→Q' a s):wpAny M A t Q' E s:=wpAny_mono h hQ fun _ _ x=>x
end L2
namespace L2
open PySem PySem.Spec PyProof.Rows
section
variable {X:Cx}
theorem bin{a b:Expr}{ta tb:TE}(ha:PE X a ta)(hb:PE X b tb){pins:List (Addr×Obj)}{s:Shared}{σ:St}{H:Hp}{R:V→V→Hp→Prop}(I:Inv X pins σ H s)(h:ta σ H fun x H1=>tb σ H1 fun y H2=>R x y H2)
  {α:Type} {Q:α→Shared→Prop} {f:Value→Value→Sem α}
  (hf:∀v u s2 x y H2,Inv X pins σ H2 s2→RelV x v→RelV y u→R x y H2→wpAny (model X.prog X.w) X.A (f v u) Q X.xe s2) :
  wpAny (model X.prog X.w) X.A (eval a X.env) (fun v s₁=>wpAny (model X.prog X.w) X.A (eval b X.env) (fun u s₂=>wpAny (model X.prog X.w) X.A (f v u) Q X.xe s₂) X.xe s₁) X.xe s:=by
 refine thn (ha pins s σ H _ I h) fun v s1 ⟨x,H1,I1,r1,q1⟩=>?_
 refine thn (hb pins s1 σ H1 _ I1 q1) fun u s2 ⟨y,H2,I2,r2,q2⟩=>?_
 exact hf v u s2 x y H2 I2 r1 r2 q2
noncomputable def znL(i:Nat):TE:=fun σ H Q=>∃v,σ[i]?=some (some v)∧Q v H
noncomputable def tC(v:V):TE:=fun _ H Q=>Q v H
theorem zgf{i:Nat}{x:Str}{pos:Pos}(hN:X.N[i]?=some x)(hv:Vis X.env.scope x)(hd:(x==("__debug__":Str))=false:=by decide)(hcd:(x==("__classdict__":Str))=false:=by decide):PE X (.Name x pos) (znL i):=by
 intro pins s σ H Q I h
 obtain⟨v,e,h⟩:=h
 obtain⟨m,hn,hl⟩:=I.loc
 obtain⟨u,r,l⟩:=hl i x v hN e hv
 have fin:EP X pins σ Q u s:=⟨v,H,I,r,h⟩
 rcases l with⟨hk,hm⟩ | ⟨hk,c,hc,hcell⟩
 ·exact wpAny_Name (wpAny_loadName_local I.ok.kind hk hn hm fin) hd
 ·rcases hk with hk | hk
  ·exact wpAny_Name (wpAny_loadName_cell I.ok.kind hk hc hcell fin) hd
  ·exact wpAny_Name (wpAny_loadName_free I.ok.kind hk hc hcell fin hcd) hd
theorem zjX{i j pos}:PE X (.Constant (.int i) j pos) (tC (.int i)):=fun _ _ _ H _ I h=>wpAny_Constant_int ⟨.int i,H,I.tok _,⟨_,rfl⟩,h⟩
theorem zly{b j pos}:PE X (.Constant (.bool b) j pos) (tC (.bl b)):=fun _ _ _ H _ I h=>Constant_bool ⟨.bl b,H,I,rfl,h⟩
theorem zlz{j pos}:PE X (.Constant .none j pos) (tC .non):=fun _ _ _ H _ I h=>Constant_none ⟨.non,H,I,rfl,h⟩
theorem zlA{x j pos}:PE X (.Constant (.str x) j pos) (tC (.str x)):=fun _ _ _ H _ I h=>Calls.Constant_str ⟨.str x,H,I.tok _,⟨_,rfl⟩,h⟩
noncomputable def Gl(X:Cx)(x:Str):Prop:=X.env.kindOf x=some .globalImplicit
theorem zcy{E:Value→Shared→Prop}{pins:List (Addr×Obj)}{s:Shared}{σ:St}{H:Hp}{x:Str}{u:Value}{pos:Pos}{Q:Value→Shared→Prop}(I:Inv X pins σ H s)(hg:Gl X x)(hm:X.mg x=some u)(h:Q u s)
  (hd:(x==("__debug__":Str))=false:=by decide):wpAny (model X.prog X.w) X.A (eval (.Name x pos) X.env) Q E s:=
 Calls.Name_function_global I.ok.kind hg (Calls.loadGlobal_global (by rw[I.ok.glob];exact I.mod.glob.keeps I.bk) hm h) hd
theorem zdb{E:Value→Shared→Prop}{pins:List (Addr×Obj)}{s:Shared}{σ:St}{H:Hp}{x:Str}{u:Value}{pos:Pos}{Q:Value→Shared→Prop}(I:Inv X pins σ H s)(hg:Gl X x)(hm:X.mg x=none)(hv:bootBuiltins x=some u)(h:Q u s)
  (hn:x≠"__name__":=by decide) (hd:(x==("__debug__":Str))=false:=by decide):wpAny (model X.prog X.w) X.A (eval (.Name x pos) X.env) Q E s:=by
 obtain⟨mb,h1,h2⟩:=I.mod.blt
 exact Calls.Name_function_global I.ok.kind hg (Calls.loadGlobal_builtin (by rw[I.ok.glob];exact I.mod.glob.keeps I.bk) hm (by rw[I.ok.blt];exact h1.keeps I.bk) ((h2 x hn).trans hv) h) hd
theorem zfL{x:Str}{v:V}{u:Value}{pos:Pos}(hg:Gl X x)(hm:X.mg x=some u)(r:RelV v u)(hd:(x==("__debug__":Str))=false:=by decide):PE X (.Name x pos) (tC v):=
 fun _ _ _ H _ I h=>zcy I hg hm ⟨v,H,I,r,h⟩ hd
variable {a b:Expr} {ta tb:TE} {pos:Pos}
noncomputable def PC(X:Cx)(op:CmpOp)(a b:Expr)(t:TE):Prop:=
 ∀(pins:List (Addr×Obj)) (s:Shared) (σ:St) (H:Hp) (Q:VK),Inv X pins σ H s→t σ H Q→
  wpAny (model X.prog X.w) X.A (eval a X.env) (fun v s₁=>wpAny (model X.prog X.w) X.A (eval b X.env) (fun u s₂=>wpAny (model X.prog X.w) X.A (compareOp op v u) (EP X pins σ Q) X.xe s₂) X.xe s₁) X.xe s
theorem ziY(b:Expr){op:CmpOp}(h:op≠.In)(h2:op≠.NotIn):behindInMarks op b=false:=by
 have e1:(op==CmpOp.In)=false:=by cases op<;>first | rfl | exact absurd rfl h
 have e2:(op==CmpOp.NotIn)=false:=by cases op<;>first | rfl | exact absurd rfl h2
 cases b<;>simp[behindInMarks,e1,e2]
noncomputable def tB(t:TE):TT:=fun σ H Q=>t σ H fun x H1=>∃c,x=.bl c∧Q c H1
theorem znz{op:CmpOp}{t:TE}(h:PC X op a b t)(h1:behindInMarks op b=false:=by first | exact ziY _ (by decide) (by decide) | rfl):PT X (.Compare a [op] [b] pos) (tB t):=by
 intro pins s σ H Q I hw
 refine wpAny_isTrue_Compare1 (thn (h pins s σ H _ I hw) fun v s1 h1=>thn h1 fun u s2 h2=>thn h2 fun c s3 ⟨x,H1,I1,r1,q1⟩=>?_) h1
 obtain⟨d,rfl,q⟩:=q1
 cases r1
 exact wpAny_truthy_bool ⟨H1,I1,q⟩
theorem zlB{e:Expr}{t:TE}(h:PE X e t)(he:∀whole,isTrue e X.env whole=(do let v ←whole;standAt e.pos;holding [v] (truthy v)):=by intro _;rfl):PT X e (tB t):=by
 intro pins s σ H Q I hw
 refine isTrue_plain (thn (h pins s σ H _ I hw) fun v s1 ⟨x,H1,I1,r1,q1⟩=>?_) (he _)
 obtain⟨d,rfl,q⟩:=q1
 cases r1
 exact wpAny_truthy_bool ⟨H1,I1,q⟩
variable {tA tB':TT} {zeP:List Expr}
noncomputable def tOr(t u:TT):TT:=fun σ H Q=>t σ H fun c H1=>if c=true then Q true H1 else u σ H1 Q
noncomputable def znM(t:TT):TT:=fun σ H Q=>t σ H fun c H1=>Q (!c) H1
theorem zkr(ha:PT X a tA):PW X (.BoolOp .And [a] pos) tA:=by
 intro wh pins s σ H Q I h
 refine isTrue_and (thn (ha pins s σ H Q I h) fun c s1 e=>?_)
 cases c with
 | true=>exact isTrue_and_nil e
 | false=>exact e
theorem zlC(ha:PT X a tA):PW X (.BoolOp .Or [a] pos) tA:=by
 intro wh pins s σ H Q I h
 refine isTrue_or (thn (ha pins s σ H Q I h) fun c s1 e=>?_)
 cases c with
 | false=>exact isTrue_or_nil e
 | true=>exact e
theorem zm4(ha:PT X a tA)(hb:PW X (.BoolOp .Or (b::zeP) pos) tB'):PW X (.BoolOp .Or (a::b::zeP) pos) (tOr tA tB'):=by
 intro wh pins s σ H Q I h
 refine isTrue_or (thn (ha pins s σ H _ I h) fun c s1 ⟨H1,I1,q1⟩=>?_)
 cases c with
 | true=>exact⟨H1,I1,q1⟩
 | false=>exact hb wh pins s1 σ H1 Q I1 q1
theorem zlD(ha:PT X a tA):PT X (.UnaryOp .Not a pos) (znM tA):=by
 intro pins s σ H Q I h
 exact isTrue_not (ha pins s σ H (fun c H1=>Q (!c) H1) I h)
noncomputable def zm5(ta tb:TE):TE:=fun σ H Q=>ta σ H fun x H1=>∃c,x=.bl c∧if c=true then tb σ H1 Q else Q (.bl false) H1
noncomputable def znN(ta tb:TE):TE:=fun σ H Q=>ta σ H fun x H1=>∃c,x=.bl c∧if c=true then Q (.bl true) H1 else tb σ H1 Q
noncomputable def zm6(ta:TE):TE:=fun σ H Q=>ta σ H fun x H1=>∃c,x=.bl c∧Q (.bl (!c)) H1
theorem zlE{op}{t:TE}(h:PE X a t):PE X (.BoolOp op [a] pos) t:=fun pins s σ H Q I hw=>BoolOp_one (h pins s σ H Q I hw)
theorem zlF(ha:PE X a ta)(hb:PE X (.BoolOp .And (b::zeP) pos) tb):PE X (.BoolOp .And (a::b::zeP) pos) (zm5 ta tb):=by
 intro pins s σ H Q I h
 refine BoolOp_and (thn (ha pins s σ H _ I h) fun v s1 ⟨x,H1,I1,r1,q1⟩=>?_)
 obtain⟨c,rfl,q1⟩:=q1
 cases r1
 refine wpAny_truthy_bool ?_
 cases c with
 | true=>exact hb pins s1 σ H1 Q I1 q1
 | false=>exact⟨.bl false,H1,I1,rfl,q1⟩
theorem zm7(ha:PE X a ta)(hb:PE X (.BoolOp .Or (b::zeP) pos) tb):PE X (.BoolOp .Or (a::b::zeP) pos) (znN ta tb):=by
 intro pins s σ H Q I h
 refine BoolOp_or (thn (ha pins s σ H _ I h) fun v s1 ⟨x,H1,I1,r1,q1⟩=>?_)
 obtain⟨c,rfl,q1⟩:=q1
 cases r1
 refine wpAny_truthy_bool ?_
 cases c with
 | false=>exact hb pins s1 σ H1 Q I1 q1
 | true=>exact⟨.bl true,H1,I1,rfl,q1⟩
theorem zlG(ha:PE X a ta):PE X (.UnaryOp .Not a pos) (zm6 ta):=by
 intro pins s σ H Q I h
 refine UnaryOp_ (thn (ha pins s σ H _ I h) fun v s1 ⟨x,H1,I1,r1,q1⟩=>?_)
 obtain⟨c,rfl,q1⟩:=q1
 cases r1
 exact not_of (wpAny_truthy_bool ⟨.bl (!c),H1,I1,rfl,q1⟩)
noncomputable def tIf(t:TT)(ta tb:TE):TE:=fun σ H Q=>t σ H fun c H1=>if c=true then ta σ H1 Q else tb σ H1 Q
theorem ziZ{c:Expr}(hc:PT X c tA)(ha:PE X a ta)(hb:PE X b tb):PE X (.IfExp c a b pos) (tIf tA ta tb):=by
 intro pins s σ H Q I h
 refine wpAny_IfExp (thn (hc pins s σ H _ I h) fun d s1 ⟨H1,I1,q1⟩=>?_)
 cases d with
 | true=>exact ha pins s1 σ H1 Q I1 q1
 | false=>exact hb pins s1 σ H1 Q I1 q1
end
end L2
namespace L2
open PySem PySem.Spec PyProof.Rows
noncomputable def SqL(K:PySem.W.Frag)(H:Hp)(a:Addr)(xs:List V):Prop:=
 Rd H a (.lst xs)∨
  ∃(o:Obj) (its:Array Value) (n:Nat),K.lookup a=some o∧o.cls=.type "list"∧o.dict=none∧o.data=.seq its n∧its.size≤sizeLine∧Vals xs its.toList
noncomputable def SqT(K:PySem.W.Frag)(H:Hp)(a:Addr)(xs:List V):Prop:=
 Rd H a (.tup xs)∨
  ∃(o:Obj) (its:Array Value) (n:Nat),K.lookup a=some o∧o.cls=.type "tuple"∧o.data=.seq its n∧its.size≤sizeLine∧Vals xs its.toList
noncomputable def znO:Value→Option V
 | .none=>some .non
 | .bool b=>some (.bl b)
 | .int i _=>some (.int i)
 | .str x _=>some (.str x)
 | .bytes b _=>some (.byt b)
 | .float b _=>some (.flt b)
 | .ref a=>some (.ref a)
 | .type n=>some (.ty n)
 | _=>none
theorem RelV.abs{x:V}{u:Value}(r:RelV x u):znO u=some x:=by
 cases x with
 | non=>cases r;rfl
 | bl _=>cases r;rfl
 | int _=>obtain⟨t,rfl⟩:=r;rfl
 | str _=>obtain⟨t,rfl⟩:=r;rfl
 | byt _=>obtain⟨t,rfl⟩:=r;rfl
 | flt _=>obtain⟨t,rfl⟩:=r;rfl
 | ref _=>cases r;rfl
 | ty _=>cases r;rfl
theorem RelV.inj{x y:V}{u:Value}(r:RelV x u)(q:RelV y u):x=y:=Option.some.inj (r.abs.symm.trans q.abs)
theorem Vals.inj:∀{xs ys:List V} {us:List Value},Vals xs us→Vals ys us→xs=ys
 | _,_,_,.nil,.nil=>rfl
 | _,_,_,.cons r t,.cons r' t'=>by rw[r.inj r',Vals.inj t t']
section
variable {X:Cx} {pins:List (Addr×Obj)} {σ:St} {H:Hp} {s:Shared} {a:Addr} {xs ys:List V}
theorem SqL.of{K:PySem.W.Frag}(h:H a=some (.lst xs)):SqL K H a xs:=.inl (.inl h)
theorem SqT.of{K:PySem.W.Frag}(h:H a=some (.tup xs)):SqT K H a xs:=.inl (.inl h)
theorem Inv.list(I:Inv X pins σ H s)(h:SqL X.K H a xs):∃its:List Value,Vals xs its∧PlainL s.heap a its.toArray∧xs.length≤sizeLine:=by
 rcases h with h | ⟨o,its,n,hk,hc,hd,hs,hz,r⟩
 ·obtain⟨z,its,n,r,e⟩:=h.ok I.hok
  exact⟨its,r,⟨_,n,e,rfl,rfl,rfl⟩,z⟩
 ·refine⟨its.toList,r,⟨o,n,I.kIn a o hk,hc,hd,by simpa using hs⟩,?_⟩
  have e:=r.length
  simp only[Array.length_toList] at e
  omega
theorem Inv.tuple(I:Inv X pins σ H s)(h:SqT X.K H a xs):∃its:List Value,Vals xs its∧IsTup s.heap a its.toArray∧xs.length≤sizeLine:=by
 rcases h with h | ⟨o,its,n,hk,hc,hs,hz,r⟩
 ·obtain⟨z,its,r,p⟩:=h.ok I.hok
  exact⟨its,r,p,z⟩
 ·refine⟨its.toList,r,⟨o,I.kIn a o hk,hc,n,by simpa using hs⟩,?_⟩
  have e:=r.length
  simp only[Array.length_toList] at e
  omega
theorem Inv.list_inj(I:Inv X pins σ H s)(h:SqL X.K H a xs)(h':SqL X.K H a ys):xs=ys:=by
 obtain⟨its,r,⟨o,n,e,_,_,d⟩,_⟩:=I.list h
 obtain⟨its',r',⟨o',n',e',_,_,d'⟩,_⟩:=I.list h'
 rw[e] at e';cases e'
 rw[d] at d'
 injection d' with d1 _
 have:its=its':=by simpa using congrArg Array.toList d1
 subst this
 exact r.inj r'
theorem Inv.tuple_inj(I:Inv X pins σ H s)(h:SqT X.K H a xs)(h':SqT X.K H a ys):xs=ys:=by
 obtain⟨its,r,⟨o,e,_,n,d⟩,_⟩:=I.tuple h
 obtain⟨its',r',⟨o',e',_,n',d'⟩,_⟩:=I.tuple h'
 rw[e] at e';cases e'
 rw[d] at d'
 injection d' with d1 _
 have:its=its':=by simpa using congrArg Array.toList d1
 subst this
 exact r.inj r'
end
noncomputable abbrev Cx.wish(X:Cx)(E:Value→Shared→Prop):Cx:={ X with xe:=E }
noncomputable abbrev Cx.nox(X:Cx):Cx:=X.wish fun _ _=>False
theorem Cx.Ok.wish{X:Cx}(ok:X.Ok)(E:Value→Shared→Prop):(X.wish E).Ok:=
 ⟨ok.mod,ok.kind,ok.glob,ok.blt,ok.above,ok.inj,ok.has,ok.cab,ok.hd,ok.frames,ok.stk,ok.exf,ok.bs,ok.bsz,ok.noex,ok.exfs,ok.funs,ok.frf⟩
theorem Cx.Ok.unwish{X:Cx}{E:Value→Shared→Prop}(ok:(X.wish E).Ok):X.Ok:=
 ⟨ok.mod,ok.kind,ok.glob,ok.blt,ok.above,ok.inj,ok.has,ok.cab,ok.hd,ok.frames,ok.stk,ok.exf,ok.bs,ok.bsz,ok.noex,ok.exfs,ok.funs,ok.frf⟩
section
variable {X:Cx} {pins:List (Addr×Obj)} {σ:St} {H:Hp} {s:Shared} {E:Value→Shared→Prop}
theorem Inv.wish(I:Inv X pins σ H s)(E:Value→Shared→Prop):Inv (X.wish E) pins σ H s:=⟨I.ok.wish E,I.os,I.bare,I.base,I.loc,I.cell,I.free,I.freeC,I.pin,I.hok,I.len⟩
theorem Inv.unwish(I:Inv (X.wish E) pins σ H s):Inv X pins σ H s:=⟨I.ok.unwish,I.os,I.bare,I.base,I.loc,I.cell,I.free,I.freeC,I.pin,I.hok,I.len⟩
theorem SP.unwish{D:Ends}{f:Flow}{s':Shared}(h:SP (X.wish E) pins D f s'):SP X pins D f s':=by
 cases f with
 | next=>obtain⟨σ',H',I,q⟩:=h;exact⟨σ',H',I.unwish,q⟩
 | brk=>obtain⟨σ',H',I,q⟩:=h;exact⟨σ',H',I.unwish,q⟩
 | cont=>obtain⟨σ',H',I,q⟩:=h;exact⟨σ',H',I.unwish,q⟩
 | ret u=>obtain⟨v,σ',H',I,r,q⟩:=h;exact⟨v,σ',H',I.unwish,r,q⟩
theorem PSs.nox{st:List Stmt}{t:TS}(h:PSs X.nox st t):PSs X st t:=fun pins s σ H D I hw=>
 wpAny_mono (h pins s σ H D (I.wish _) hw) (fun _ _ q=>q.unwish) fun _ _ z=>False.elim z
end
section
variable {X:Cx} {st:Stmt} {zeP:List Stmt} {t u:TS} {e:Expr} {te:TE} {pos:Pos}
noncomputable def zm8:TS:=fun D σ H=>D.nx σ H
noncomputable def znP(t u:TS):TS:=fun D σ H=>t { D with nx:=u D } σ H
theorem zhj:PSs X [] zm8:=fun _ _ σ H _ I h=>wpAny_execs_nil ⟨σ,H,I,h⟩
theorem zej(h1:PS X st t)(h2:PSs X zeP u):PSs X (st::zeP) (znP t u):=by
 intro pins s σ H D I h
 refine wpAny_execs_cons (thn (h1 pins s σ H { D with nx:=u D } I h) fun f s1 q=>?_)
 cases f with
 | next=>
  obtain⟨σ',H',I',q⟩:=q
  exact h2 pins s1 σ' H' D I' q
 | ret v=>exact q
 | brk=>exact q
 | cont=>exact q
theorem zfM(h1:PS X st t):PSs X [st] t:=by
 intro pins s σ H D I h
 refine wpAny_execs_cons (thn (h1 pins s σ H D I h) fun f s1 q=>?_)
 cases f with
 | next=>exact wpAny_execs_nil q
 | ret v=>exact q
 | brk=>exact q
 | cont=>exact q
theorem Inv.quiet{pins:List (Addr×Obj)}{σ:St}{H:Hp}{s:Shared}(I:Inv X pins σ H s):interactive X.env=false:=by simp[interactive,I.ok.kind]
noncomputable def zm9(te:TE):TS:=fun D σ H=>te σ H fun _ H1=>D.nx σ H1
theorem zfN(he:PE X e te)(hs:swapsWith e none pos.line X.env=pure false:=by rfl):PS X (.Expr e pos) (zm9 te):=by
 intro pins s σ H D I h
 exact wpAny_Expr_any (thn (he pins s σ H _ I h) fun v s1 ⟨x,H1,I1,r1,q1⟩=>⟨σ,H1,I1,q1⟩) I.quiet hs
noncomputable def znQ(te:TE):TS:=fun D σ H=>te σ H D.rt
theorem zjY(he:PE X e te):PS X (.Return (some e) pos) (znQ te):=by
 intro pins s σ H D I h
 exact wpAny_Return_some (thn (he pins s σ H _ I h) fun v s1 ⟨x,H1,I1,r1,q1⟩=>⟨x,σ,H1,I1,r1,q1⟩)
noncomputable def znR(c:TT)(t u:TS):TS:=fun D σ H=>c σ H fun b H1=>if b=true then t D σ H1 else u D σ H1
theorem zlH{c:Expr}{a b:List Stmt}{tc:TT}(hc:PT X c tc)(ha:PSs X a t)(hb:PSs X b u):PS X (.If c a b pos) (znR tc t u):=by
 intro pins s σ H D I h
 refine wpAny_If (thn (hc pins s σ H _ I h) fun d s1 ⟨H1,I1,q1⟩=>?_)
 cases d with
 | true=>exact ha pins s1 σ H1 D I1 q1
 | false=>exact hb pins s1 σ H1 D I1 q1
noncomputable def zlI:TS:=fun _ _ _=>False
theorem zi0:PS X st zlI:=fun _ _ _ _ _ _ h=>h.elim
end
noncomputable abbrev TG:=V→St→Hp→(St→Hp→Prop)→Prop
noncomputable abbrev TGs:=List V→St→Hp→(St→Hp→Prop)→Prop
noncomputable def PG(X:Cx)(target:Expr)(t:TG):Prop:=
 ∀(pins:List (Addr×Obj)) (s:Shared) (σ:St) (H:Hp) (v:V) (u:Value) (Q:St→Hp→Prop),Inv X pins σ H s→RelV v u→t v σ H Q→
  wpAny (model X.prog X.w) X.A (assign target X.env u) (fun _ s'=>∃σ' H',Inv X pins σ' H' s'∧Q σ' H') X.xe s
noncomputable def PGs(X:Cx)(ts:List Expr)(t:TGs):Prop:=
 ∀(pins:List (Addr×Obj)) (s:Shared) (σ:St) (H:Hp) (vs:List V) (us:List Value) (Q:St→Hp→Prop),Inv X pins σ H s→Vals vs us→t vs σ H Q→
  wpAny (model X.prog X.w) X.A (assignInOrder ((assignEach ts X.env).map (·.2)) us) (fun _ s'=>∃σ' H',Inv X pins σ' H' s'∧Q σ' H') X.xe s
section
variable {X:Cx} {pos:Pos}
noncomputable def zi1(i:Nat):TG:=fun v σ H Q=>Q (σ.set i (some v)) H
theorem zks{i:Nat}{x:Str}(hN:X.N.Nodup)(hi:X.N[i]?=some x)(hx:Loc X.env.scope x)(hf:X.fn x=true∨X.env.scope.names.lookup x=some .local:=by first | exact .inl rfl | exact .inr rfl | assumption):PG X (.Name x pos) (zi1 i):=by
 intro pins s σ H v u Q I r h
 exact wpAny_assign_Name (zbR I hN hi hx r (fun s' I'=>⟨_,H,I',h⟩) hf)
noncomputable def znS:TGs:=fun vs σ H Q=>vs=[]∧Q σ H
noncomputable def zna(t:TG)(u:TGs):TGs:=fun vs σ H Q=>∃v r,vs=v::r∧t v σ H fun σ' H'=>u r σ' H' Q
theorem zkt:PGs X [] znS:=by
 intro pins s σ H vs us Q I r h
 obtain⟨e,h⟩:=h
 subst e
 cases r
 exact assignInOrder_nil ⟨σ,H,I,h⟩
theorem zi2{e:Expr}{es:List Expr}{t:TG}{u:TGs}(h1:PG X e t)(h2:PGs X es u)
  (hs:(assignEach (e::es) X.env).map (·.2)=assign e X.env::(assignEach es X.env).map (·.2):=by rfl):PGs X (e::es) (zna t u):=by
 intro pins s σ H vs us Q I r h
 obtain⟨v,vr,e1,h⟩:=h
 subst e1
 cases r with
 | cons r rr=>
  rw[hs]
  refine assignInOrder_cons (thn (h1 pins s σ H _ _ _ I r h) fun _ s1 ⟨σ1,H1,I1,q1⟩=>?_)
  exact h2 pins s1 σ1 H1 _ _ Q I1 rr q1
noncomputable def znT(K:PySem.W.Frag)(n:Nat)(t:TGs):TG:=fun v σ H Q=>∃a xs,v=.ref a∧SqT K H a xs∧xs.length=n∧t xs σ H Q
theorem zlJ{es:List Expr}{k:Nat}{t:TGs}{n:Nat}(hc:X.calm=true)(h:PGs X es t)
  (hn:(assignEach es X.env).length=n:=by rfl) (hst:(assignEach es X.env).findIdx? (·.1)=none:=by rfl):PG X (.Tuple es k pos) (znT X.K n t):=by
 intro pins s σ H v u Q I r hw
 obtain⟨a,xs,e1,hq,hl,hw⟩:=hw
 subst e1
 cases r
 obtain⟨its,rv,ht,hz⟩:=I.tuple hq
 refine assign_Tuple_tuple (I.ok.hd hc) ht (by simp[hn,←hl,rv.length]) hst fun h' hx=>?_
 have I1:Inv X pins σ H { s with heap:=h' }:=I.kept (t':=s.toks) fun b o e=>hx b o (Nat.ne_of_lt (Heap.lt_size e)) e
 exact h pins _ σ H xs _ Q I1 (by simpa using rv) hw
noncomputable def znb(te:TE)(g:TG):TS:=fun D σ H=>te σ H fun x H1=>g x σ H1 D.nx
theorem zhk{i:Nat}{x:Str}{e:Expr}{te:TE}{pos':Pos}(hN:X.N.Nodup)(hi:X.N[i]?=some x)(hx:Loc X.env.scope x)(he:PE X e te)(hs:swapsWith e (some (.Name x pos')) pos.line X.env=pure false:=by rfl)(hf:X.fn x=true∨X.env.scope.names.lookup x=some .local:=by first | exact .inl rfl | exact .inr rfl | assumption) :
  PS X (.Assign [.Name x pos'] e pos) (znb te (zi1 i)):=by
 intro pins s σ H D I h
 refine wpAny_Assign_Name (thn (he pins s σ H _ I h) fun v s1 ⟨y,H1,I1,r1,q1⟩=>?_) hs
 exact zbR I1 hN hi hx r1 (fun s2 I2=>⟨_,H1,I2,q1⟩) hf
end
structure It where
 go:Nat→Hp→Prop
 yld:Nat→Hp→V→Hp→Prop
 stop:Nat→Hp→Prop
noncomputable def FpOk(X:Cx)(pins:List (Addr×Obj))(H:Hp)(b:Addr):Prop:=
 H b=none∧b≠X.env.locals∧b∉X.fs∧(b∈X.ex∨X.s₀.heap.objs.size≤b)∧(∀x c,X.env.cells.lookup x=some c→c≠b)∧∀p∈X.pn++pins,p.1≠b
theorem Inv.fpOk{X:Cx}{pins:List (Addr×Obj)}{σ:St}{H H':Hp}{s:Shared}{b:Addr}(I:Inv X pins σ H s)(hb:s.heap.objs.size≤b)(hn:H' b=none):FpOk X pins H' b:=by
 refine⟨hn,Nat.ne_of_gt (Nat.lt_of_lt_of_le I.lt hb),I.nofs hb,.inr (Nat.le_trans I.sz hb),fun x c e z=>?_,fun p hp z=>?_⟩
 ·obtain⟨v,q⟩:=I.cell x c e
  exact absurd (Nat.lt_of_lt_of_le q.lt (by rw[z];exact hb)) (Nat.lt_irrefl _)
 ·exact absurd (Nat.lt_of_lt_of_le (Heap.lt_size (I.pin p hp).1) (by rw[z];exact hb)) (Nat.lt_irrefl _)
structure Turn (P:Program) (w:World) (K:PySem.W.Frag) (tg:Expr) (J:It) (fp:List Addr) (it:Addr) (tn:Nat→Heap→Prop):Prop where
 mem:it∈fp
 obj:∀i h,tn i h→∀b∈fp,∃o,h.get? b=some o∧∀v,o.data≠.cell v
 keep:∀i h h',tn i h→(∀b∈fp,∀o,h.get? b=some o→h'.get? b=some o)→tn i h'
 item:∀(X:Cx),X.prog=P→X.w=w→X.K=K→X.calm=true→∀(i:Nat) (pins:List (Addr×Obj)) (s:Shared) (σ:St) (H:Hp) (E:Value→Shared→Prop),Inv X pins σ H s→(∀b∈fp,FpOk X pins H b)→tn i s.heap→J.go i H→
  wpAny (model P w) X.A (pyNext (.ref it)) (fun r s1=>∃u,r=some u∧
   wpAny (model P w) X.A (letOwnedTupleGo tg (.ref it) u) (fun _ s2=>∃x H',Inv X pins σ H' s2∧RelV x u∧J.yld i H x H'∧tn (i+1) s2.heap∧∀b∈fp,H' b=none) E s1) E s
 done:∀(X:Cx),X.prog=P→X.w=w→X.K=K→X.calm=true→∀(i:Nat) (pins:List (Addr×Obj)) (s:Shared) (σ:St) (H:Hp) (E:Value→Shared→Prop),Inv X pins σ H s→(∀b∈fp,FpOk X pins H b)→tn i s.heap→J.stop i H→
  wpAny (model P w) X.A (pyNext (.ref it)) (fun r s1=>r=none∧Inv X pins σ H s1) E s
 self:∀(A:Around) (i:Nat) (s:Shared) (Q:Value→Shared→Prop) (E:Value→Shared→Prop),tn i s.heap→Q (.ref it) s→wpAny (model P w) A (pyIter (.ref it)) Q E s
noncomputable abbrev TI:=St→Hp→(It→Hp→Prop)→Prop
noncomputable def PIE(X:Cx)(pins:List (Addr×Obj))(σ:St)(tg:Expr)(R:It→Hp→Prop)(itv:Value)(s2:Shared):Prop:=
 ∃(it:Addr) (fp:List Addr) (tn:Nat→Heap→Prop) (J:It) (H':Hp),itv=.ref it∧Inv X pins σ H' s2∧Turn X.prog X.w X.K tg J fp it tn∧tn 0 s2.heap∧(∀b∈fp,FpOk X pins H' b)∧R J H'
noncomputable def PI(X:Cx)(tg iter:Expr)(wi:TI):Prop:=
 ∀(pins:List (Addr×Obj)) (s:Shared) (σ:St) (H:Hp) (R:It→Hp→Prop),Inv X pins σ H s→wi σ H R→
  wpAny (model X.prog X.w) X.A (eval iter X.env) (fun v s1=>wpAny (model X.prog X.w) X.A (pyIter v) (PIE X pins σ tg R) X.xe s1) X.xe s
theorem zi3{M:Model}{A:Around}{E:Value→Shared→Prop}{s:Shared}{tg:Expr}{it:Addr}{u:Value}{o:Obj}{n:String}{vs:Array Value}{Q:Unit→Shared→Prop}(ho:s.heap.get? it=some o)(hc:o.cls=.type n)(hd:o.data=.fields vs)
  (hn:["enumerate","zip","dict_itemiterator","dict_reverseitemiterator","odict_iterator","itertools.zip_longest","itertools.pairwise"].contains n=false) (hQ:Q () s):wpAny M A (letOwnedTupleGo tg (.ref it) u) Q E s:=by
 unfold letOwnedTupleGo
 cases tg<;>first
  | exact wpAny_pure hQ
  | (cases u<;>first
    | exact wpAny_pure hQ
    | (refine wpAny_bind (wpAny_load ho ?_)
       rw[hc,hd]
       show wpAny M A (if (["enumerate","zip","dict_itemiterator","dict_reverseitemiterator","odict_iterator","itertools.zip_longest","itertools.pairwise"].contains n&&vs[0]?==some (rawInt _))=true then _ else _) Q E s
       rw[if_neg (by intro h;rw[hn,Bool.false_and] at h;cases h)]
       exact wpAny_pure hQ))
noncomputable def Itl(K:PySem.W.Frag)(a:Addr):It:=
 ⟨fun i H=>∃xs x,SqL K H a xs∧xs[i]?=some x,fun i H x H'=>H'=H∧∀xs,SqL K H a xs→xs[i]?=some x,fun i H=>∃xs,SqL K H a xs∧xs.length≤i⟩
noncomputable def Itt(K:PySem.W.Frag)(a:Addr):It:=
 ⟨fun i H=>∃xs x,SqT K H a xs∧xs[i]?=some x,fun i H x H'=>H'=H∧∀xs,SqT K H a xs→xs[i]?=some x,fun i H=>∃xs,SqT K H a xs∧xs.length≤i⟩
noncomputable def Itr(lo:Int)(n:Nat):It:=⟨fun i _=>i<n,fun i H x H'=>H'=H∧x=.int (lo+i),fun i _=>n≤i⟩
theorem zhl{P:Program}{w:World}{K:PySem.W.Frag}{tg:Expr}(a it:Addr):Turn P w K tg (Itl K a) [it] it (fun i h=>h.IsListIter it a i) where
 mem:=by simp
 obj:=fun i h st b hb=>by
  have e:b=it:=by simpa using hb
  subst e
  obtain⟨o,e,c,d⟩:=st
  exact⟨o,e,fun v z=>by rw[d] at z;cases z⟩
 keep:=fun i h h' st k=>st.at fun o e=>k it (by simp) o e
 item:=by
  intro X hP hw hK hc i pins s σ H E I hf st hg
  subst hP hw hK
  obtain⟨xs,x,hq,hx⟩:=hg
  obtain⟨its,rv,p,hz⟩:=I.list hq
  obtain⟨u,hu,ru⟩:=rv.get hx
  obtain⟨f0,f1,f2,f3,f4,f5⟩:=hf it (by simp)
  refine wpAny_pyNext_list_item st p.isList (x:=u) (by simpa using hu) fun h' st' sb=>?_
  have I1:Inv X pins σ H { s with heap:=h' }:=I.turned (t':=s.toks) (fun b o hb e=>(sb.2 b hb).trans e) f0 f1 f3 f4 f5
  obtain⟨o,e,c,d⟩:=id st'
  exact⟨u,rfl,zi3 (s:={ s with heap:=h' }) e c d (by decide) ⟨x,H,I1,ru,⟨rfl,fun ys hy=>by rw[I.list_inj hy hq];exact hx⟩,st',fun b hb=>(hf b hb).1⟩⟩
 done:=by
  intro X hP hw hK hc i pins s σ H E I hf st hg
  subst hP hw hK
  obtain⟨xs,hq,hx⟩:=hg
  obtain⟨its,rv,p,hz⟩:=I.list hq
  obtain⟨f0,f1,f2,f3,f4,f5⟩:=hf it (by simp)
  have hl:=rv.length
  exact wpAny_pyNext_list_end (I.ok.hd hc) st p.isList (by simp;omega) fun h' eb=>⟨rfl,I.turned (t':=s.toks) (fun b o hb e=>eb b o hb e) f0 f1 f3 f4 f5⟩
 self:=fun _ _ _ _ _ st h=>wpAny_pyIter_listiter st h
theorem zgP{P:Program}{w:World}{K:PySem.W.Frag}{tg:Expr}(a it:Addr):Turn P w K tg (Itt K a) [it] it (fun i h=>h.IsTupleIter it a i) where
 mem:=by simp
 obj:=fun i h st b hb=>by
  have e:b=it:=by simpa using hb
  subst e
  obtain⟨o,e,c,d⟩:=st
  exact⟨o,e,fun v z=>by rw[d] at z;cases z⟩
 keep:=fun i h h' st k=>st.at fun o e=>k it (by simp) o e
 item:=by
  intro X hP hw hK hc i pins s σ H E I hf st hg
  subst hP hw hK
  obtain⟨xs,x,hq,hx⟩:=hg
  obtain⟨its,rv,p,hz⟩:=I.tuple hq
  obtain⟨u,hu,ru⟩:=rv.get hx
  obtain⟨f0,f1,f2,f3,f4,f5⟩:=hf it (by simp)
  refine wpAny_pyNext_tuple_item st (show s.heap.IsTuple a its.toArray from p) (x:=u) (by simpa using hu) fun h' st' sb=>?_
  have I1:Inv X pins σ H { s with heap:=h' }:=I.turned (t':=s.toks) (fun b o hb e=>(sb.2 b hb).trans e) f0 f1 f3 f4 f5
  obtain⟨o,e,c,d⟩:=id st'
  exact⟨u,rfl,zi3 (s:={ s with heap:=h' }) e c d (by decide) ⟨x,H,I1,ru,⟨rfl,fun ys hy=>by rw[I.tuple_inj hy hq];exact hx⟩,st',fun b hb=>(hf b hb).1⟩⟩
 done:=by
  intro X hP hw hK hc i pins s σ H E I hf st hg
  subst hP hw hK
  obtain⟨xs,hq,hx⟩:=hg
  obtain⟨its,rv,p,hz⟩:=I.tuple hq
  obtain⟨f0,f1,f2,f3,f4,f5⟩:=hf it (by simp)
  have hl:=rv.length
  exact wpAny_pyNext_tuple_end (I.ok.hd hc) st (show s.heap.IsTuple a its.toArray from p) (by simp;omega) fun h' eb=>⟨rfl,I.turned (t':=s.toks) (fun b o hb e=>eb b o hb e) f0 f1 f3 f4 f5⟩
 self:=fun _ _ _ _ _ st h=>wpAny_pyIter_tupleiter st h
theorem zgQ{P:Program}{w:World}{K:PySem.W.Frag}{tg:Expr}(it:Addr)(lo:Int)(n:Nat):Turn P w K tg (Itr lo n) [it] it (fun i h=>IsRangeIter h it (lo+(i:Nat)*1) ((n:Int)-(i:Nat)) 1) where
 mem:=by simp
 obj:=fun i h st b hb=>by
  have e:b=it:=by simpa using hb
  subst e
  exact⟨_,st,fun v z=>by
   have z':Data.fields _=Data.cell v:=z
   cases z'⟩
 keep:=fun i h h' st k=>k it (by simp) _ st
 item:=by
  intro X hP hw hK hc i pins s σ H E I hf st hg
  subst hP hw hK
  obtain⟨f0,f1,f2,f3,f4,f5⟩:=hf it (by simp)
  have W:=Walks.range (prog:=X.prog) (w:=X.w) (I.ok.hd hc) it lo 1 n
  refine W.item i s _ _ hg st fun v h' tk hv st' kk=>?_
  obtain⟨t,rfl⟩:=hv
  have I1:Inv X pins σ H { s with heap:=h',toks:=tk }:=I.turned (fun b o hb e=>kk b o (by simpa using hb) e) f0 f1 f3 f4 f5
  refine⟨_,rfl,zi3 (s:={ s with heap:=h',toks:=tk }) (n:="range_iterator") st' rfl rfl (by decide) ⟨.int (lo+i),H,I1,⟨t,?_⟩,⟨rfl,rfl⟩,st',fun b hb=>(hf b hb).1⟩⟩
  rw[Int.mul_one]
 done:=by
  intro X hP hw hK hc i pins s σ H E I hf st hg
  subst hP hw hK
  obtain⟨f0,f1,f2,f3,f4,f5⟩:=hf it (by simp)
  exact wpAny_pyNext_range_end (I.ok.hd hc) st (by have:n≤i:=hg;omega) fun h' eb=>⟨rfl,I.turned (t':=s.toks) (fun b o hb e=>eb b o hb e) f0 f1 f3 f4 f5⟩
 self:=fun _ _ _ _ _ st h=>wpAny_pyIter_rangeiter st h
end L2
namespace L2
open PySem PySem.Spec PyProof.Rows
section
variable {X:Cx} {tg:Expr}
theorem zi4{pins:List (Addr×Obj)}{σ:St}{H:Hp}{s:Shared}{R:It→Hp→Prop}{E:Value→Shared→Prop}{lo hi:Int}{t u v:Tok}{tk:Nat}(I:Inv X pins σ H s)(h1:-(2 ^ 62)≤lo)(h2:lo<2 ^ 62)(h3:-(2 ^ 62)≤hi)(h4:hi<2 ^ 62)
  (q:R (Itr lo (hi-lo).toNat) H):wpAny (model X.prog X.w) X.A (pyIter (.ref s.heap.objs.size)) (PIE X pins σ tg R) E { s with heap:=s.heap.push { cls:=.type "range",data:=.fields #[.int lo t,.int hi u,.int 1 v] },toks:=tk }:=by
 refine wpAny_pyIter_range (IsRange.new ..) (small_one h1 h2 h3 h4) ?_
 have I1:Inv X pins σ H { s with heap:=s.heap.push { cls:=.type "range",data:=.fields #[.int lo t,.int hi u,.int 1 v] },toks:=tk }:=I.kept fun b o e=>Heap.get?_push_of_some _ e
 refine⟨(s.heap.push { cls:=.type "range",data:=.fields #[.int lo t,.int hi u,.int 1 v] }).objs.size,[(s.heap.push { cls:=.type "range",data:=.fields #[.int lo t,.int hi u,.int 1 v] }).objs.size],_,_,H,rfl,
  I1.kept (t':=tk) fun b o e=>Heap.get?_push_of_some _ e,zgQ _ lo (hi-lo).toNat,?_,fun b hb=>?_,q⟩
 ·have e1:lo+((0:Nat):Int)*1=lo:=by simp
  have e2:(((hi-lo).toNat:Nat):Int)-((0:Nat):Int)=Builtin.Range.rangeSize lo hi 1:=by rw[rangeSize_one];split<;>omega
  show IsRangeIter _ _ (lo+((0:Nat):Int)*1) ((((hi-lo).toNat:Nat):Int)-((0:Nat):Int)) 1
  rw[e1,e2]
  exact Heap.get?_push_size _ rfl
 ·have e:b=(s.heap.push { cls:=.type "range",data:=.fields #[.int lo t,.int hi u,.int 1 v] }).objs.size:=by simpa using hb
  subst e
  exact I1.fpOk (Nat.le_refl _) (I1.hok.fresh (Nat.le_refl _))
noncomputable def znc(ta:TA):TI:=fun σ H R=>ta σ H fun vs H1=>∃j:Int,vs=[.int j]∧-(2 ^ 62)≤j∧j<2 ^ 62∧R (Itr 0 j.toNat) H1
theorem zhm{a:Expr}{ta:TA}{p pos:Pos}(hg:Gl X "range")(hm:X.mg "range"=none)(ha:PA X [a] ta)(hs:starEach [a] X.env=[(false,eval a X.env)]:=by rfl):PI X tg (.Call (.Name "range" p) [a] [] pos) (znc ta):=by
 intro pins s σ H R I h
 refine Call_ (zdb I hg hm boot_range (PyProof.Rows.callWith_type1 (thn (ha pos pins s σ H _ I h) fun us s1 ⟨vs,H1,I1,r1,q1⟩=>?_) hs rfl))
 obtain⟨j,e,q1,q2,q⟩:=q1
 subst e
 cases r1 with
 | cons r rr=>
  cases rr
  obtain⟨t,rfl⟩:=r
  exact call_range_1 (zi4 I1 (by omega) (by omega) q1 q2 (by simpa using q))
noncomputable def znU(wi:TI)(g:TG)(tb:TS):TS:=fun D σ H=>wi σ H fun J H1=>∃W:Nat→Nat→St→Hp→Prop,(∃m,W 0 m σ H1)∧∀i m σ H,W i m σ H→
 (J.stop i H∧D.nx σ H)∨(J.go i H∧∃N:St→Hp→Prop,(∀σ' H',N σ' H'→∃m',m'<m∧W (i+1) m' σ' H')∧∀x H',J.yld i H x H'→g x σ H' fun σ2 H2=>tb { D with nx:=N,ct:=N,bk:=D.nx } σ2 H2)
noncomputable def zeR(fp:List Addr)(h:Heap):List (Addr×Obj):=fp.filterMap fun b=>(h.get? b).map fun o=>(b,o)
theorem zbS{fp:List Addr}{h:Heap}{b:Addr}{o:Obj}(hb:b∈fp)(e:h.get? b=some o):(b,o)∈zeR fp h:=List.mem_filterMap.mpr ⟨b,hb,by rw[e];rfl⟩
theorem zhn{fp:List Addr}{h:Heap}{p:Addr×Obj}(hp:p∈zeR fp h):p.1∈fp∧h.get? p.1=some p.2:=by
 obtain⟨b,hb,e⟩:=List.mem_filterMap.mp hp
 cases q:h.get? b with
 | none=>rw[q] at e;cases e
 | some o=>
  rw[q] at e
  have e':(b,o)=p:=Option.some.inj e
  subst e'
  exact⟨hb,q⟩
theorem Inv.pinned{pins:List (Addr×Obj)}{σ:St}{H:Hp}{s:Shared}{fp:List Addr}(I:Inv X pins σ H s)(hf:∀b∈fp,FpOk X pins H b)(ho:∀b∈fp,∃o,s.heap.get? b=some o∧∀v,o.data≠.cell v):Inv X (pins++zeR fp s.heap) σ H s:=
 I.pins_of fun p hp=>(List.mem_append.mp hp).elim (fun z=>I.pin p (List.mem_append_right _ z)) fun z=>by
  obtain⟨hb,e⟩:=zhn z
  obtain⟨f0,f1,f2,_⟩:=hf p.1 hb
  obtain⟨o,e',d⟩:=ho p.1 hb
  rw[e] at e';cases e'
  exact⟨e,f0,f1,f2,d⟩
theorem Inv.unpinned{pins pl:List (Addr×Obj)}{σ:St}{H:Hp}{s:Shared}(I:Inv X (pins++pl) σ H s):Inv X pins σ H s:=I.pins_of fun p hp=>I.pin p (List.mem_append_right _ (List.mem_append_left _ hp))
theorem zlK{iter:Expr}{body:List Stmt}{wi:TI}{g:TG}{tb:TS}{pos:Pos}(hp:PassesOwn (model X.prog X.w) X.A X.env X.xe)(hc:X.calm=true)(hi:PI X tg iter wi)(hg:PG X tg g)(hb:PSs X body tb)
  (hs:∀x,foldedSetIterable iter X.env x=pure x:=by intro _;rfl):PS X (.For tg iter body [] pos) (znU wi g tb):=by
 intro pins s σ H D I h
 refine wpAny_For (thn (hi pins s σ H _ I h) fun v s1 h1=>thn h1 fun itv s2 h2=>?_) hs
 obtain⟨it,fp,tn,J,H2,e,I2,T,st2,f2,W,⟨m0,w0⟩,turn⟩:=h2
 subst e
 -- what stays true of the iterator's objects through the loop
 have stat:∀{H':Hp},(∀b∈fp,H' b=none)→∀b∈fp,FpOk X pins H' b:=fun hn b hb=>⟨hn b hb,(f2 b hb).2⟩
 refine codeAny_forLoop_any (fun n s'=>∃i σ' H',Inv X pins σ' H' s'∧tn i s'.heap∧(∀b∈fp,H' b=none)∧W i n σ' H') ?_ m0 ⟨0,σ,H2,I2,st2,fun b hb=>(f2 b hb).1,w0⟩
 rintro n s3 ⟨i,σ3,H3,I3,st3,fr3,w3⟩
 rcases turn i n σ3 H3 w3 with⟨stop,qn⟩ | ⟨go,N,hN,step⟩
 ·refine wpAny_passesOwn hp (thn (T.done X rfl rfl rfl hc i pins s3 σ3 H3 X.xe I3 (stat fr3) st3 stop) fun r s4 ⟨hr,I4⟩=>?_)
  subst hr
  exact wpAny_execs_nil ⟨σ3,H3,I4,qn⟩
 ·refine wpAny_passesOwn hp (thn (T.item X rfl rfl rfl hc i pins s3 σ3 H3 X.xe I3 (stat fr3) st3 go) fun r s4 ⟨u,hr,h4⟩=>?_)
  subst hr
  refine wpAny_passesOwn hp (thn h4 fun _ s5 ⟨x,H5,I5,r5,y5,st5,fr5⟩=>?_)
  have I5':=I5.pinned (stat fr5) (T.obj _ _ st5)
  refine wpAny_passesOwn hp (thn (hg _ s5 σ3 H5 x u _ I5' r5 (step x H5 y5)) fun _ s6 ⟨σ6,H6,I6,q6⟩=>?_)
  refine wpAny_passesOwn hp (thn (hb _ s6 σ6 H6 _ I6 q6) fun f s7 q7=>?_)
  have again:∀{σ7:St} {H7:Hp},Inv X (pins++zeR fp s5.heap) σ7 H7 s7→N σ7 H7→∃m,m<n∧∃i σ' H',Inv X pins σ' H' s7∧tn i s7.heap∧(∀b∈fp,H' b=none)∧W i m σ' H':=fun{σ7 H7} I7 n7=>by
   obtain⟨m',hm,w7⟩:=hN σ7 H7 n7
   refine⟨m',hm,i+1,σ7,H7,I7.unpinned,T.keep _ _ _ st5 fun b hb o e=>(I7.pin (b,o) (List.mem_append_right _ (List.mem_append_right _ (zbS hb e)))).1,fun b hb=>?_,w7⟩
   obtain⟨o,e,d⟩:=T.obj _ _ st5 b hb
   exact(I7.pin (b,o) (List.mem_append_right _ (List.mem_append_right _ (zbS hb e)))).2.1
  cases f with
  | next=>obtain⟨σ7,H7,I7,n7⟩:=q7;exact again I7 n7
  | cont=>obtain⟨σ7,H7,I7,n7⟩:=q7;exact again I7 n7
  | brk=>obtain⟨σ7,H7,I7,q7⟩:=q7;exact⟨σ7,H7,I7.unpinned,q7⟩
  | ret v=>obtain⟨x7,σ7,H7,I7,r7,q7⟩:=q7;exact⟨x7,σ7,H7,I7.unpinned,r7,q7⟩
end
end L2
namespace L2
open PySem PySem.Spec PyProof.Rows
noncomputable abbrev R2:=V→V→Hp→VK→Prop
noncomputable def OpR(X:Cx)(f:Value→Value→Sem Value)(r:R2):Prop:=
 ∀(pins:List (Addr×Obj)) (s:Shared) (σ:St) (H:Hp) (x y:V) (v u:Value) (Q:VK),Inv X pins σ H s→RelV x v→RelV y u→r x y H Q→
  wpAny (model X.prog X.w) X.A (f v u) (EP X pins σ Q) X.xe s
noncomputable def UnR(X:Cx)(f:Value→Sem Value)(r:V→Hp→VK→Prop):Prop:=
 ∀(pins:List (Addr×Obj)) (s:Shared) (σ:St) (H:Hp) (x:V) (v:Value) (Q:VK),Inv X pins σ H s→RelV x v→r x H Q→
  wpAny (model X.prog X.w) X.A (f v) (EP X pins σ Q) X.xe s
noncomputable def CallR(X:Cx)(f:Value)(r:List V→Hp→VK→Prop):Prop:=
 ∀(pins:List (Addr×Obj)) (s:Shared) (σ:St) (H:Hp) (xs:List V) (us:List Value) (Q:VK),Inv X pins σ H s→Vals xs us→r xs H Q→
  wpAny (model X.prog X.w) X.A (call f us) (EP X pins σ Q) X.xe s
noncomputable def tOp(r:R2)(ta tb:TE):TE:=fun σ H Q=>ta σ H fun x H1=>tb σ H1 fun y H2=>r x y H2 Q
noncomputable def tUn(r:V→Hp→VK→Prop)(ta:TE):TE:=fun σ H Q=>ta σ H fun x H1=>r x H1 Q
noncomputable def rI(C:Int→Int→Prop)(g:Int→Int→V):R2:=fun x y H Q=>∃i j,x=.int i∧y=.int j∧C i j∧Q (g i j) H
noncomputable def rI0(g:Int→Int→V):R2:=fun x y H Q=>∃i j,x=.int i∧y=.int j∧Q (g i j) H
noncomputable def rU(g:Int→V):V→Hp→VK→Prop:=fun x H Q=>∃i,x=.int i∧Q (g i) H
section
variable {X:Cx} {a b c:Expr} {ta tb tc:TE} {pos:Pos}
theorem znd(ha:PE X a ta)(hb:PE X b tb){pins:List (Addr×Obj)}{s:Shared}{σ:St}{H:Hp}{R:V→V→Hp→Prop}(I:Inv X pins σ H s)
  (h:ta σ H fun x H1=>tb σ H1 fun y H2=>R x y H2) {Q:Value→Shared→Prop} {f:Value→Value→Sem Value}
  (hf:∀v u s2 x y H2,Inv X pins σ H2 s2→RelV x v→RelV y u→R x y H2→wpAny (model X.prog X.w) X.A (f v u) Q X.xe s2) :
  wpAny (model X.prog X.w) X.A (eval a X.env) (fun v s₁=>wpAny (model X.prog X.w) X.A (eval b X.env) (fun u s₂=>wpAny (model X.prog X.w) X.A (f v u) Q X.xe s₂) X.xe s₁) X.xe s:=by
 refine thn (ha pins s σ H _ I h) fun v s1 ⟨x,H1,I1,r1,q1⟩=>?_
 refine thn (hb pins s1 σ H1 _ I1 q1) fun u s2 ⟨y,H2,I2,r2,q2⟩=>?_
 exact hf v u s2 x y H2 I2 r1 r2 q2
theorem zlL{op:Operator}{r:R2}(ho:OpR X (binaryOp op) r)(ha:PE X a ta)(hb:PE X b tb):PE X (.BinOp a op b pos) (tOp r ta tb):=by
 intro pins s σ H Q I h
 exact wpAny_BinOp (znd ha hb I h fun v u s2 x y H2 I2 rx ry q=>ho pins s2 σ H2 x y v u Q I2 rx ry q)
theorem zne{op:UnaryOp}{r:V→Hp→VK→Prop}(ho:UnR X (unaryOp op) r)(ha:PE X a ta):PE X (.UnaryOp op a pos) (tUn r ta):=by
 intro pins s σ H Q I h
 exact UnaryOp_ (thn (ha pins s σ H _ I h) fun v s1 ⟨x,H1,I1,r1,q1⟩=>ho pins s1 σ H1 x v Q I1 r1 q1)
theorem opI{f:Value→Value→Sem Value}{C:Int→Int→Prop}{g:Int→Int→Int}
  (rule:∀(i j:Int) (t u:Tok) (s:Shared) (Q:Value→Shared→Prop) (E:Value→Shared→Prop),C i j→Q (.int (g i j) s.toks) { s with toks:=s.toks+1 }→wpAny (model X.prog X.w) X.A (f (.int i t) (.int j u)) Q E s) :
  OpR X f (rI C fun i j=>.int (g i j)):=by
 intro pins s σ H x y v u Q I rx ry h
 obtain⟨i,j,rfl,rfl,hc,q⟩:=h
 obtain⟨t,rfl⟩:=rx
 obtain⟨t',rfl⟩:=ry
 exact rule i j t t' s _ _ hc ⟨.int (g i j),H,I.tok _,⟨_,rfl⟩,q⟩
theorem znV{f:Value→Value→Sem Value}{g:Int→Int→Int}
  (rule:∀(i j:Int) (t u:Tok) (s:Shared) (Q:Value→Shared→Prop) (E:Value→Shared→Prop),Q (.int (g i j) s.toks) { s with toks:=s.toks+1 }→wpAny (model X.prog X.w) X.A (f (.int i t) (.int j u)) Q E s) :
  OpR X f (rI0 fun i j=>.int (g i j)):=by
 intro pins s σ H x y v u Q I rx ry h
 obtain⟨i,j,rfl,rfl,q⟩:=h
 obtain⟨t,rfl⟩:=rx
 obtain⟨t',rfl⟩:=ry
 exact rule i j t t' s _ _ ⟨.int (g i j),H,I.tok _,⟨_,rfl⟩,q⟩
theorem znf{f:Value→Value→Sem Value}{g:Int→Int→Bool}
  (rule:∀(i j:Int) (t u:Tok) (s:Shared) (Q:Value→Shared→Prop) (E:Value→Shared→Prop),Q (.bool (g i j)) s→wpAny (model X.prog X.w) X.A (f (.int i t) (.int j u)) Q E s) :
  OpR X f (rI0 fun i j=>.bl (g i j)):=by
 intro pins s σ H x y v u Q I rx ry h
 obtain⟨i,j,rfl,rfl,q⟩:=h
 obtain⟨t,rfl⟩:=rx
 obtain⟨t',rfl⟩:=ry
 exact rule i j t t' s _ _ ⟨.bl (g i j),H,I,rfl,q⟩
noncomputable def zek(i j:Int):Prop:=0<j∧j<1073741824
noncomputable def zjZ(i j:Int):Prop:=0≤j∧j≤1000000∧i.natAbs<2 ^ 64
noncomputable def CMul(i j:Int):Prop:=(-(2 ^ 64)<i∧i<2 ^ 64)∨(-(2 ^ 64)<j∧j<2 ^ 64)
theorem CMul.ok{i j:Int}(h:CMul i j):IntMulOk i j:=by
 rcases h with⟨h1,h2⟩ | ⟨h1,h2⟩
 ·exact .of_left (intBits_le_64 h1 h2)
 ·exact .of_right (intBits_le_64 h1 h2)
theorem op_add:OpR X (binaryOp .Add) (rI0 fun i j=>.int (i+j)):=znV fun _ _ _ _ _ _ _ q=>add_int q
theorem zlM:OpR X (binaryOp .Mult) (rI CMul fun i j=>.int (i*j)):=opI fun _ _ _ _ _ _ _ hc q=>mul_int q hc.ok
theorem zku:OpR X (binaryOp .FloorDiv) (rI zek fun i j=>.int (i/j)):=opI fun i j _ _ _ _ _ hc q=>by
 have h1:(0:Int)<j:=hc.1
 have h2:j<1073741824:=hc.2
 exact floordiv_int (by omega) (by rw[Int.fdiv_eq_ediv_of_nonneg i (by omega)];exact q) (.inl (PyProof.noPylong_small (by omega)))
theorem zlN:OpR X (binaryOp .Mod) (rI (fun _ j=>0<j) fun i j=>.int (i%j)):=opI fun i j _ _ _ _ _ hc q=>by
 have h1:(0:Int)<j:=hc
 exact mod_int' (by omega) (by rw[Int.fmod_eq_emod_of_nonneg i (by omega)];exact q)
theorem zlO:OpR X (binaryOp .Pow) (rI zjZ fun i j=>.int (i ^ j.toNat)):=opI fun _ _ _ _ _ _ _ hc q=>pow_int_small hc.1 hc.2.1 hc.2.2 q
theorem unI{f:Value→Sem Value}{g:Int→Int}
  (rule:∀(i:Int) (t:Tok) (s:Shared) (Q:Value→Shared→Prop) (E:Value→Shared→Prop),Q (.int (g i) s.toks) { s with toks:=s.toks+1 }→wpAny (model X.prog X.w) X.A (f (.int i t)) Q E s) :
  UnR X f (rU fun i=>.int (g i)):=by
 intro pins s σ H x v Q I rx h
 obtain⟨i,rfl,q⟩:=h
 obtain⟨t,rfl⟩:=rx
 exact rule i t s _ _ ⟨.int (g i),H,I.tok _,⟨_,rfl⟩,q⟩
theorem zlP:UnR X (unaryOp .USub) (rU fun i=>.int (-i)):=unI fun _ _ _ _ _ q=>neg_int q
end
section
variable {X:Cx} {a b c:Expr} {ta tb tc:TE} {pos:Pos}
theorem zho{pins:List (Addr×Obj)}{σ:St}{H:Hp}{s:Shared}{Q:VK}{k k':Bool}(I:Inv X pins σ H s)(q:Q (.bl k) H)(e:k=k'):EP X pins σ Q (.bool k') s:=by
 subst e
 exact⟨.bl k,H,I,rfl,q⟩
theorem op_lt:OpR X (compareOp .Lt) (rI0 fun i j=>.bl (decide (i<j))):=znf fun _ _ _ _ _ _ _ q=>lt_int q
theorem zel:OpR X (compareOp .LtE) (rI0 fun i j=>.bl (decide (i≤j))):=znf fun _ _ _ _ _ _ _ q=>le_int q
theorem zng:OpR X (compareOp .Gt) (rI0 fun i j=>.bl (decide (j<i))):=znf fun _ _ _ _ _ _ _ q=>gt_int q
theorem zhp:OpR X (compareOp .Lt) (fun x y H Q=>∃i j,x=.str i∧y=.str j∧Q (.bl (decide (i.cps.toList<j.cps.toList))) H):=by
 intro pins s σ H x y v u Q I rx ry h
 obtain⟨i,j,rfl,rfl,q⟩:=h
 obtain⟨t,rfl⟩:=rx
 obtain⟨t',rfl⟩:=ry
 exact lt_str (zho I q rfl)
theorem op_in_str:OpR X (compareOp .In) (fun x y H Q=>∃i j,x=.str i∧y=.str j∧Q (.bl (!(Builtin.Str.occurrences j i 0 j.length 1).isEmpty)) H):=by
 intro pins s σ H x y v u Q I rx ry h
 obtain⟨i,j,rfl,rfl,q⟩:=h
 obtain⟨t,rfl⟩:=rx
 obtain⟨t',rfl⟩:=ry
 exact in_str (zho I q rfl)
theorem zkv:OpR X (compareOp .IsNot) (fun x y H Q=>y=.non∧Q (.bl (!decide (x=.non))) H):=by
 intro pins s σ H x y v u Q I rx ry h
 obtain⟨rfl,q⟩:=h
 cases ry
 refine isnot_none_gen (zho I q ?_)
 cases x<;>first
  | (cases rx;rfl)
  | (obtain⟨t,rfl⟩:=rx;rfl)
theorem OpR.or{f:Value→Value→Sem Value}{r r':R2}(h:OpR X f r)(h':OpR X f r'):OpR X f (fun x y H Q=>r x y H Q∨r' x y H Q):=by
 intro pins s σ H x y v u Q I rx ry q
 rcases q with q | q
 ·exact h pins s σ H x y v u Q I rx ry q
 ·exact h' pins s σ H x y v u Q I rx ry q
theorem zj0(b:Expr){op:CmpOp}(h:op≠.In:=by decide)(h2:op≠.NotIn:=by decide):behindInMarks op b=false:=by
 have e1:(op==CmpOp.In)=false:=by cases op<;>first | rfl | exact absurd rfl h
 have e2:(op==CmpOp.NotIn)=false:=by cases op<;>first | rfl | exact absurd rfl h2
 cases b<;>simp[behindInMarks,e1,e2]
theorem zkw{op:CmpOp}{r:R2}(ho:OpR X (compareOp op) r)(ha:PE X a ta)(hb:PE X b tb)(hm:behindInMarks op b=false):PE X (.Compare a [op] [b] pos) (tOp r ta tb):=by
 intro pins s σ H Q I h
 exact wpAny_Compare1 (znd ha hb I h fun v u s2 x y H2 I2 rx ry q=>ho pins s2 σ H2 x y v u Q I2 rx ry q) hm
noncomputable def zkx(t:TE):TT:=fun σ H Q=>t σ H fun x H'=>∃k,x=.bl k∧Q k H'
theorem zky{op:CmpOp}{r:R2}(ho:OpR X (compareOp op) r)(ha:PE X a ta)(hb:PE X b tb)(hm:behindInMarks op b=false):PT X (.Compare a [op] [b] pos) (zkx (tOp r ta tb)):=by
 intro pins s σ H Q I h
 refine wpAny_isTrue_Compare1 (thn (ha pins s σ H _ I h) fun v s1 ⟨x,H1,I1,r1,q1⟩=>thn (hb pins s1 σ H1 _ I1 q1) fun u s2 ⟨y,H2,I2,r2,q2⟩=>
  thn (ho pins s2 σ H2 x y v u _ I2 r1 r2 q2) fun c s3 ⟨z,H3,I3,r3,k,e,q3⟩=>?_) hm
 subst e
 cases r3
 exact wpAny_truthy_bool ⟨H3,I3,q3⟩
noncomputable def zhq(r r':R2)(ta tb tc:TE):TE:=fun σ H Q=>ta σ H fun x H1=>tb σ H1 fun y H2=>r x y H2 fun z H3=>∃k,z=.bl k∧
 (if k=true then tc σ H3 fun w' H4=>r' y w' H4 Q else Q (.bl false) H3)
theorem zi5{op op':CmpOp}{r r':R2}(ho:OpR X (compareOp op) r)(ho':OpR X (compareOp op') r')(ha:PE X a ta)(hb:PE X b tb)(hc:PE X c tc)
  (hm:lastMarks [op,op'] [b,c]=false:=by with_unfolding_all rfl):PE X (.Compare a [op,op'] [b,c] pos) (zhq r r' ta tb tc):=by
 intro pins s σ H Q I h
 refine Compare_chain (thn (ha pins s σ H _ I h) fun v s1 ⟨x,H1,I1,r1,q1⟩=>chain_link (thn (hb pins s1 σ H1 _ I1 q1) fun u s2 ⟨y,H2,I2,r2,q2⟩=>
  thn (ho pins s2 σ H2 x y v u _ I2 r1 r2 q2) fun d s3 ⟨z,H3,I3,r3,k,e,q3⟩=>?_)) hm
 subst e
 cases r3
 refine wpAny_truthy_bool ?_
 cases k with
 | false=>exact ite_ff ⟨.bl false,H3,I3,rfl,q3⟩
 | true=>exact ite_tt (chain_last (thn (hc pins s3 σ H3 _ I3 q3) fun w' s4 ⟨z',H4,I4,r4,q4⟩=>ho' pins s4 σ H4 y z' u w' Q I4 r2 r4 q4))
theorem zi6{op op':CmpOp}{r r':R2}(ho:OpR X (compareOp op) r)(ho':OpR X (compareOp op') r')(ha:PE X a ta)(hb:PE X b tb)(hc:PE X c tc)
  (hm:lastMarks [op,op'] [b,c]=false:=by with_unfolding_all rfl):PT X (.Compare a [op,op'] [b,c] pos) (zkx (zhq r r' ta tb tc)):=by
 intro pins s σ H Q I h
 refine isTrue_chain (thn (ha pins s σ H _ I h) fun v s1 ⟨x,H1,I1,r1,q1⟩=>test_link (thn (hb pins s1 σ H1 _ I1 q1) fun u s2 ⟨y,H2,I2,r2,q2⟩=>
  thn (ho pins s2 σ H2 x y v u _ I2 r1 r2 q2) fun d s3 ⟨z,H3,I3,r3,k,e,q3⟩=>?_)) hm
 subst e
 cases r3
 refine wpAny_truthy_bool ?_
 cases k with
 | false=>
  obtain⟨k',e',q'⟩:=q3
  cases e'
  exact ite_ff ⟨H3,I3,q'⟩
 | true=>
  refine ite_tt (test_last (thn (hc pins s3 σ H3 _ I3 q3) fun w' s4 ⟨z',H4,I4,r4,q4⟩=>thn (ho' pins s4 σ H4 y z' u w' _ I4 r2 r4 q4) fun d' s5 ⟨z2,H5,I5,r5,k2,e2,q5⟩=>?_))
  subst e2
  cases r5
  exact wpAny_truthy_bool ⟨H5,I5,q5⟩
theorem zeS:(sizeLine:Nat)<2 ^ 63:=by rw[sizeLine_eq];decide
theorem op_add_str:OpR X (binaryOp .Add) (fun x y H Q=>∃i j,x=.str i∧y=.str j∧i.length+j.length≤sizeLine∧Q (.str (i++j)) H):=by
 intro pins s σ H x y v u Q I rx ry h
 obtain⟨i,j,rfl,rfl,hz,q⟩:=h
 obtain⟨t,rfl⟩:=rx
 obtain⟨t',rfl⟩:=ry
 exact add_str (fun t' tk=>⟨.str (i++j),H,I.tok _,⟨_,rfl⟩,q⟩) hz
theorem zbY{x:V}{us:List Value}(r:Vals [x] us):∃u,us=[u]∧RelV x u:=by
 cases r with
 | cons r1 r2=>cases r2;exact⟨_,rfl,r1⟩
theorem zlQ{x y:V}{us:List Value}(r:Vals [x,y] us):∃u w',us=[u,w']∧RelV x u∧RelV y w':=by
 cases r with
 | cons r1 r2=>
  cases r2 with
  | cons r3 r4=>cases r4;exact⟨_,_,rfl,r1,r3⟩
theorem zhr(hc:X.calm=true):CallR X (.builtin "max") (fun xs H Q=>∃i j,xs=[.int i,.int j]∧Q (.int (if j>i then j else i)) H):=by
 intro pins s σ H xs us Q I r h
 obtain⟨i,j,rfl,q⟩:=h
 obtain⟨u,w',rfl,⟨t,rfl⟩,⟨t',rfl⟩⟩:=zlQ r
 refine max_two_ints (I.ok.hd hc) fun h' tk k=>⟨_,H,I.kept k,?_,q⟩
 by_cases hj:j>i
 ·rw[if_pos hj,if_pos hj];exact⟨_,rfl⟩
 ·rw[if_neg hj,if_neg hj];exact⟨_,rfl⟩
end
end L2
namespace L2
open PySem PySem.Spec PyProof.Rows
structure ObjM (h:Heap) (x dx C:Addr) (mA:Str→Option Value):Prop where
 obj:h.get? x=some (PySem.W.instObj C dx)
 ns:h.Ns1 dx mA
 ne:dx≠x
theorem zhs{h:Heap}{dx:Addr}{mA:Str→Option Value}(n:h.Ns1 dx mA):∃od,h.get? dx=some od∧∀name,PySem.W.lookIn name od=some (mA name):=by
 obtain⟨o,es,ep,ho,hd,hk,_,hm⟩:=n
 refine⟨o,ho,fun name=>?_⟩
 have e:=hm name
 unfold nsFind findBy at e
 rw[←Array.find?_toList] at e
 unfold PySem.W.lookIn
 rw[hd]
 dsimp only
 split
 ·rename_i y q
  rw[q] at e
  exact congrArg some e
 ·rename_i q
  rw[q] at e
  have a:es.toList.any (·.refKey)=false:=by
   rw[List.any_eq_false]
   intro y hy
   obtain⟨z,t,hkey⟩:=hk y (Array.mem_toList_iff.mp hy)
   simp[DictEntry.refKey,hkey]
  have a':¬es.toList.any (·.refKey)=true:=by rw[a];exact Bool.false_ne_true
  rw[if_neg a']
  exact congrArg some e
theorem ObjM.look{h:Heap}{x dx C:Addr}{mA:Str→Option Value}(I:ObjM h x dx C mA):∃od,PySem.W.InstAt h x (PySem.W.instObj C dx) C (some od)∧∀name,PySem.W.lookIn name od=some (mA name):=
 let⟨od,ho,hl⟩:=zhs I.ns
 ⟨od,⟨I.obj,rfl,rfl,ho⟩,hl⟩
section
variable {prog:Program} {w:World} {A:Around} {E:Value→Shared→Prop} {s:Shared} {K:PySem.W.Frag} {x dx C f:Addr} {mA:Str→Option Value} {name:Str} {v:Value}
theorem zkz{expr:Bool}{Q:Value→Shared→Prop}(X:K.In s.heap)(I:ObjM s.heap x dx C mA)(hg:PySem.W.plainGet K C name=true)(hh:PySem.W.hasDictIn K C=true)
  (ha:PySem.W.findIn K (.ref C) name=some none) (hv:mA name=some v) (hv':PySem.W.handedIn v=true) (h:Q v { s with toks:=s.toks+1 }) :
  wpAny (model prog w) A (getAttr (.ref x) name expr) Q E s:=by
 obtain⟨od,J,hl⟩:=I.look
 exact PySem.W.get_value X J (PySem.W.plainGet_of hg).1 (PySem.W.findObj_own hh ha rfl (by rw[hl,hv])) hv' h
theorem zkA{ns:List Str}{Q:Unit→Shared→Prop}(X:K.In s.heap)(I:ObjM s.heap x dx C mA)
  (hs:PySem.W.findIn K (.ref C) "__setattr__"=some (some (.builtin "object.__setattr__"))) (hp:PySem.W.plainOver K C=true) (ht:PySem.W.takerIn K C name=some none) (hh:PySem.W.hasDictIn K C=true)
  (hw:PySem.Within mA ns) (hsz:ns.length≤sizeLine)
  (h:∀h',ObjM h' x dx C (fun y=>if y=name then some v else mA y)→Heap.SameBut dx s.heap h'→Q () { s with heap:=h',toks:=s.toks+2 }) :
  wpAny (model prog w) A (setAttr (.ref x) name v) Q E s:=by
 obtain⟨od,J,hl⟩:=I.look
 refine PySem.W.set_plain X J hs (PySem.W.osa_open (s:={ s with toks:=s.toks+1 }) (r:=none) X J hp ht fun b=>?_)
 obtain⟨cd,hc,hd'⟩:=PySem.W.any_some hh
 have hx:s.heap.get? x=some ⟨.ref C,some dx,.plain,#[]⟩:=I.obj
 refine wpAny_bind (wpAny_pure (wpAny_bind (wpAny_bind (wpAny_loadPart hx (wpAny_bind (PySem.W.Looks.here (s:={ s with toks:=s.toks+1 }) (PySem.W.looks_clsIn X hc) ?_))))))
 rw[hd']
 refine wpAny_pure (a:=some dx) (wpAny_bind (wpAny_pure (wpAny_bind ?_)))
 refine wpAny_nsSet1 (s:={ s with toks:=s.toks+1 }) I.ns fun h' hn2 hs2=>?_
 obtain⟨oD,esD,epD,hoD,hdD,hcD⟩:=hn2.count (PySem.Within.cons name v hw)
 refine wpAny_bind (wpAny_lookBehind hoD (by rw[hdD];exact pastItsLine_dict (Nat.le_trans hcD (by rw[List.length_cons];omega))) ?_)
 exact wpAny_pure (h _ ⟨(hs2.2 _ (Ne.symm I.ne)).trans I.obj,hn2,I.ne⟩ hs2)
theorem zi7{R:Result→Shared→Prop}{vs:List Value}{kw:List (Str×Value)}(X:K.In s.heap)(hm:PySem.W.makesIn K C=true)
  (hi:PySem.W.findIn K (.ref C) "__init__"=some (some (.ref f))) (hf:PySem.W.typeIn K (.ref f)=some (.type "function"))
  (h:codeAny (model prog w) (A.under (.builtin "type.__call__" ⟨.ref C::vs,kw⟩)) (.call (.ref f) ⟨.ref (s.heap.objs.size+1)::vs,kw⟩) (PySem.W.InitBack (s.heap.objs.size+1) R)
   { s with heap:=(s.heap.push PySem.W.emptyDict).push (PySem.W.instObj C s.heap.objs.size) }) :
  codeAny (model prog w) A (.call (.ref C) ⟨vs,kw⟩) R s:=by
 obtain⟨hh,g,d,t,os⟩:=s
 exact PySem.W.make_core (PySem.W.makes_of X hm) (PySem.W.looks_findIn X hi) (fun self=>PySem.W.bind_fn X self hf) (.inl rfl) h
end
noncomputable def zd6(f:Str)(v:V):List (Str×V)→List (Str×V)
 | []=>[(f,v)]
 | (g,x)::r=>if g=f then(g,v)::r else(g,x)::zd6 f v r
theorem zdc(f g:Str)(v:V):∀fs:List (Str×V),(zd6 f v fs).lookup g=if g=f then some v else fs.lookup g
 | []=>by
  show List.lookup g [(f,v)]=_
  by_cases h:g=f
  ·have hb:(g==f)=true:=beq_iff_eq.mpr h
   simp only[List.lookup,hb,if_pos h]
  ·have hb:(g==f)=false:=beq_eq_false_iff_ne.mpr h
   simp only[List.lookup,hb,if_neg h]
 | (k,x)::r=>by
  have ih:=zdc f g v r
  rw[show zd6 f v ((k,x)::r)=(if k=f then(k,v)::r else(k,x)::zd6 f v r) from rfl]
  by_cases hk:k=f
  ·rw[if_pos hk]
   by_cases h:g=k
   ·have hb:(g==k)=true:=beq_iff_eq.mpr h
    simp only[List.lookup,hb,if_pos (h.trans hk)]
   ·have hb:(g==k)=false:=beq_eq_false_iff_ne.mpr h
    simp only[List.lookup,hb,if_neg (fun e:g=f=>h (e.trans hk.symm))]
  ·rw[if_neg hk]
   by_cases h:g=k
   ·have hb:(g==k)=true:=beq_iff_eq.mpr h
    simp only[List.lookup,hb,if_neg (fun e:g=f=>hk (h.symm.trans e))]
   ·have hb:(g==k)=false:=beq_eq_false_iff_ne.mpr h
    simp only[List.lookup,hb]
    exact ih
theorem zdd(f:Str)(v:V):∀fs:List (Str×V),f∈(zd6 f v fs).map (·.1)∧∀g,g∈fs.map (·.1)→g∈(zd6 f v fs).map (·.1)
 | []=>⟨by simp[zd6],fun g h=>by simp at h⟩
 | (k,x)::r=>by
  obtain⟨i1,i2⟩:=zdd f v r
  rw[show zd6 f v ((k,x)::r)=(if k=f then(k,v)::r else(k,x)::zd6 f v r) from rfl]
  by_cases hk:k=f
  ·rw[if_pos hk]
   subst hk
   exact⟨by simp,fun g h=>by simpa using h⟩
  ·rw[if_neg hk]
   refine⟨?_,fun g h=>?_⟩
   ·rw[List.map_cons]
    exact List.mem_cons_of_mem _ i1
   ·rw[List.map_cons] at h ⊢
    rcases List.mem_cons.mp h with e | e
    ·exact List.mem_cons.mpr (.inl e)
    ·exact List.mem_cons_of_mem _ (i2 g e)
theorem zde(f:Str)(v:V):∀fs:List (Str×V),(zd6 f v fs).length≤fs.length+1
 | []=>by simp[zd6]
 | (k,x)::r=>by
  have ih:=zde f v r
  rw[show zd6 f v ((k,x)::r)=(if k=f then(k,v)::r else(k,x)::zd6 f v r) from rfl]
  by_cases hk:k=f
  ·rw[if_pos hk,List.length_cons,List.length_cons];omega
  ·rw[if_neg hk,List.length_cons,List.length_cons];omega
theorem RelO.some_of{v:V}{o:Option Value}(r:RelO (some v) o):∃u,o=some u∧RelV v u:=by
 cases o with
 | none=>exact(show False from r).elim
 | some u=>exact⟨u,rfl,r⟩
theorem zht{v:V}{u:Value}(r:RelV v u):PySem.W.handedIn u=true:=by
 cases v with
 | non=>cases (show u=Value.none from r);rfl
 | bl b=>cases (show u=Value.bool b from r);rfl
 | int i=>obtain⟨t,e⟩:=(show ∃t,u=Value.int i t from r);cases e;rfl
 | str x=>obtain⟨t,e⟩:=(show ∃t,u=Value.str x t from r);cases e;rfl
 | byt b=>obtain⟨t,e⟩:=(show ∃t,u=Value.bytes b t from r);cases e;rfl
 | flt b=>obtain⟨t,e⟩:=(show ∃t,u=Value.float b t from r);cases e;rfl
 | ref a=>cases (show u=Value.ref a from r);rfl
 | ty n=>cases (show u=Value.type n from r);rfl
section
variable {P:Program} {w:World} {H H':Hp} {h h':Heap} {a C dx:Addr} {fs fs':List (Str×V)}
theorem zhu(hok:HOk P w H h)(e:H a=some (.ins C dx fs)):∃mA,ObjM h a dx C mA∧(∀f,RelO (fs.lookup f) (mA f))∧PySem.Within mA (fs.map (·.1))∧fs.length≤1000∧H dx=some (.own a):=by
 obtain⟨d,z,ne,ob,mA,n,r,q⟩:=(show ObjOk P w H h a (.ins C dx fs) from hok a _ e)
 exact⟨mA,⟨ob,n,ne⟩,r,q,z,d⟩
end
structure Cls (K:PySem.W.Frag) (C:Addr):Prop where
 pg:PySem.W.plainGet K C Str.empty=true
 hd:PySem.W.hasDictIn K C=true
 po:PySem.W.plainOver K C=true
 sa:PySem.W.findIn K (.ref C) "__setattr__"=some (some (.builtin "object.__setattr__"))
theorem Cls.get{K:PySem.W.Frag}{C:Addr}(c:Cls K C)(f:Str):PySem.W.plainGet K C f=true:=c.pg
noncomputable def NoAttr(K:PySem.W.Frag)(C:Addr)(f:Str):Prop:=PySem.W.findIn K (.ref C) f=some none
theorem NoAttr.taker{K:PySem.W.Frag}{C:Addr}{f:Str}(n:NoAttr K C f):PySem.W.takerIn K C f=some none:=by
 unfold PySem.W.takerIn
 rw[show PySem.W.findIn K (.ref C) f=some none from n]
 rfl
section
variable {X:Cx} {pins:List (Addr×Obj)} {σ:St} {H:Hp} {s:Shared} {a C dx:Addr} {fs:List (Str×V)} {f:Str} {v:V} {A:Around} {E:Value→Shared→Prop}
theorem zgR{b:Bool}{Q:Value→Shared→Prop}(I:Inv X pins σ H s)(e:H a=some (.ins C dx fs))(c:Cls X.K C)(n:NoAttr X.K C f)(l:fs.lookup f=some v)
  (h:∀u s',Inv X pins σ H s'→RelV v u→Q u s'):wpAny (model X.prog X.w) A (getAttr (.ref a) f b) Q E s:=by
 obtain⟨mA,O,r,_,_,_⟩:=zhu I.hok e
 obtain⟨u,hu,ru⟩:=RelO.some_of (v:=v) (o:=mA f) (by rw[←l];exact r f)
 exact zkz I.kIn O (c.get f) c.hd n hu (zht ru) (h u _ (I.tok _) ru)
theorem zgS{y:V}{u:Value}{Q:Unit→Shared→Prop}(I:Inv X pins σ H s)(e:H a=some (.ins C dx fs))(c:Cls X.K C)(n:NoAttr X.K C f)(hl:fs.length<1000)(ry:RelV y u)
  (h:∀s',Inv X pins σ (upd H a (.ins C dx (zd6 f y fs))) s'→Q () s'):wpAny (model X.prog X.w) A (setAttr (.ref a) f u) Q E s:=by
 obtain⟨mA,O,r,wi,_,ho⟩:=zhu I.hok e
 have hz:(fs.map (·.1)).length≤sizeLine:=by rw[List.length_map,sizeLine_eq];omega
 refine zkA I.kIn O c.sa c.po n.taker c.hd wi hz fun h' O' sb=>h _ ?_
 have hd:∃o,h'.get? dx=some o:=let⟨o,_,_,e',_⟩:=O'.ns;⟨o,e'⟩
 refine I.write (x:=a) (e:=dx) (by rw[e];exact True.intro) (.inr ho) (fun b q hb z=>(sb.2 b hb).trans z) hd ?_
 refine⟨by rw[zai O.ne];exact ho,?_,O.ne,O'.obj,_,O'.ns,fun g=>?_,fun g hg=>?_⟩
 ·have:=zde f y fs;omega
 ·show RelO ((zd6 f y fs).lookup g) (if g=f then some u else mA g)
  rw[zdc]
  by_cases q:g=f
  ·rw[if_pos q,if_pos q];exact ry
  ·rw[if_neg q,if_neg q];exact r g
 ·by_cases q:g=f
  ·rw[q];exact(zdd f y fs).1
  ·refine(zdd f y fs).2 g (wi g fun z=>hg ?_)
   show(if g=f then some u else mA g)=none
   rw[if_neg q];exact z
theorem Inv.made(I:Inv X pins σ H s):Inv X pins σ (upd (upd H s.heap.objs.size (.own (s.heap.objs.size+1))) (s.heap.objs.size+1) (.ins C s.heap.objs.size []))
  { s with heap:=(s.heap.push PySem.W.emptyDict).push (PySem.W.instObj C s.heap.objs.size) }:=by
 have e1:(s.heap.push PySem.W.emptyDict).get? s.heap.objs.size=some PySem.W.emptyDict:=Heap.get?_push_size s.heap rfl
 have e2:((s.heap.push PySem.W.emptyDict).push (PySem.W.instObj C s.heap.objs.size)).get? (s.heap.objs.size+1)=some (PySem.W.instObj C s.heap.objs.size):=by
  have:=Heap.get?_push_size (s.heap.push PySem.W.emptyDict) (o:=PySem.W.instObj C s.heap.objs.size) rfl
  rwa [Heap.size_push] at this
 have e3:(s.heap.push PySem.W.emptyDict).Ns s.heap.objs.size (fun _=>none):=⟨PySem.W.emptyDict,#[],_,e1,rfl,(fun e he=>absurd he (by simp)),fun _=>rfl⟩
 have I1:=I.laid (a:=s.heap.objs.size) (o:=.own (s.heap.objs.size+1)) (h':=s.heap.push PySem.W.emptyDict) (t':=s.toks) (fun b u q=>Heap.get?_push_of_some _ q) (Nat.le_refl _) ⟨_,e1⟩
 refine I1.laid (a:=s.heap.objs.size+1) (o:=.ins C s.heap.objs.size []) (t':=s.toks) (fun b u q=>Heap.get?_push_of_some _ q) (Nat.le_of_eq (Heap.size_push _ _)) ?_
 have ne:s.heap.objs.size≠s.heap.objs.size+1:=Nat.ne_of_lt (Nat.lt_succ_self _)
 refine⟨by rw[zai ne,zal],Nat.zero_le _,ne,e2,fun _=>none,(Heap.Ns1.of_empty e3).at fun o q=>Heap.get?_push_of_some _ q,fun _=>True.intro,fun y hy=>absurd rfl hy⟩
theorem zkB{prog:Program}{w:World}{env:Env}{e:Expr}{f:Str}{pos:Pos}{s:Shared}{Q:Value→Shared→Prop}(hb:attributeBase e f env (eval e env)=eval e env)
  (h:wpAny (model prog w) A (eval e env) (fun o s₁=>wpAny (model prog w) A (getAttr o f true) Q E s₁) E s):wpAny (model prog w) A (eval (.Attribute e f pos) env) Q E s:=
 Attribute_any_ h (by rw[arm_eval_Attribute,hb])
end
noncomputable def znW(K:PySem.W.Frag)(ta:TE)(f:Str):TE:=fun σ H Q=>ta σ H fun x H1=>∃a C dx fs v,x=.ref a∧H1 a=some (.ins C dx fs)∧Cls K C∧NoAttr K C f∧fs.lookup f=some v∧Q v H1
noncomputable def znX(K:PySem.W.Frag)(ta tv:TE)(f:Str):TS:=fun D σ H=>tv σ H fun y H1=>ta σ H1 fun x H2=>∃a C dx fs,x=.ref a∧H2 a=some (.ins C dx fs)∧Cls K C∧NoAttr K C f∧fs.length<1000∧
 D.nx σ (upd H2 a (.ins C dx (zd6 f y fs)))
section
variable {X:Cx} {o e value:Expr} {f:Str} {pos pos' tpos:Pos} {ta tv:TE}
theorem zlR(he:PE X e ta)(hb:attributeBase e f X.env (eval e X.env)=eval e X.env):PE X (.Attribute e f pos) (znW X.K ta f):=by
 intro pins s σ H Q I h
 refine zkB hb (thn (he pins s σ H _ I h) fun u s1 ⟨x,H1,I1,rx,a,C,dx,fs,v,ex,ea,c,n,l,q⟩=>?_)
 subst ex
 obtain rfl:u=Value.ref a:=rx
 exact zgR I1 ea c n l fun u' s2 I2 ru=>⟨v,H1,I2,ru,q⟩
theorem zlS(ha:PE X o ta)(hv:PE X value tv)(hs:swapsWith value (some (.Attribute o f pos')) pos.line X.env=pure false):PS X (.Assign [.Attribute o f pos'] value pos) (znX X.K ta tv f):=by
 intro pins s σ H D I h
 refine plainObj_wpAny_Assign_Attribute (thn (hv pins s σ H _ I h) fun u s1 ⟨y,H1,I1,ry,q⟩=>thn (ha pins s1 σ H1 _ I1 q) fun ov s2 ⟨x,H2,I2,rx,a,C,dx,fs,ex,ea,c,n,l,q2⟩=>?_) hs
 subst ex
 obtain rfl:ov=Value.ref a:=rx
 exact zgS I2 ea c n l ry fun s3 I3=>⟨σ,_,I3,q2⟩
end
end L2
namespace L2
open PySem PySem.Spec PyProof.Rows
structure Room (k:Nat) (A:Around):Prop where
 hd:A.handled=none
 dp:A.depth+3*k+5<recursionLimit
 un:A.units+16*k+200<cLine
theorem Room.mono{j k:Nat}{A:Around}(r:Room k A)(h:j≤k):Room j A:=⟨r.hd,by have:=r.dp;omega,by have:=r.un;omega⟩
theorem Room.deeper{k:Nat}{A:Around}(r:Room (k+1) A)(env:Env):Room k (A.deeper env):=
 ⟨r.hd,by have:=r.dp;show A.depth+1+3*k+5<_;omega,by have:=r.un;show A.units+3+16*k+200<_;omega⟩
theorem zgT{A:Around}{C:Addr}{us:List Value}{kw:List (Str×Value)}:(A.under (.builtin "type.__call__" ⟨.ref C::us,kw⟩)).depth=A.depth+1:=by
 first | rfl | simp[Around.under,Code.weight,Code.isCreation,Code.isGuard,Code.isCaller,Code.frames,Code.isFrame,guardIds]
theorem zgU{A:Around}{C:Addr}{us:List Value}{kw:List (Str×Value)}:(A.under (.builtin "type.__call__" ⟨.ref C::us,kw⟩)).units=A.units+1:=by
 first | rfl | simp[Around.under,Code.cUnits,Code.frames,Code.isFrame]
theorem Room.make{k:Nat}{A:Around}(r:Room (k+1) A)(C:Addr)(us:List Value)(kw:List (Str×Value)):Room k (A.under (.builtin "type.__call__" ⟨.ref C::us,kw⟩)):=
 ⟨r.hd,by have:=r.dp;rw[zgT];omega,by have:=r.un;rw[zgU];omega⟩
theorem Room.depth{k:Nat}{A:Around}(r:Room k A):A.depth<recursionLimit:=by have:=r.dp;omega
theorem Room.units{k:Nat}{A:Around}(r:Room k A):A.units+64<cLine:=by have:=r.un;omega
noncomputable def znA:TA:=fun _ H Q=>Q [] H
noncomputable def zlT(ta:TE)(tr:TA):TA:=fun σ H Q=>ta σ H fun x H1=>tr σ H1 fun xs H2=>Q (x::xs) H2
section
variable {X:Cx} {e:Expr} {es:List Expr} {te:TE} {t:TA} {pos:Pos}
theorem zhv:PA X [] znA:=fun _ _ _ _ H Q I h=>Calls.spliced_nil ⟨[],H,I,.nil,h⟩
theorem zfO(ha:PE X e te)(hr:PA X es t)(hs:starEach (e::es) X.env=(false,eval e X.env)::starEach es X.env:=by rfl):PA X (e::es) (zlT te t):=by
 intro pos pins s σ H Q I h
 rw[hs]
 show wpAny _ _ (spliced ((false,eval e X.env)::backTo pos (starEach es X.env))) _ _ s
 refine Calls.spliced_cons (thn (ha pins s σ H _ I h) fun u s1 ⟨x,H1,I1,r1,q1⟩=>?_)
 exact thn (hr pos pins s1 σ H1 _ I1 q1) fun us s2 ⟨xs,H2,I2,r2,q2⟩=>⟨x::xs,H2,I2,.cons r1 r2,q2⟩
noncomputable def znY(t:TA):TE:=fun σ H Q=>t σ H fun xs H1=>xs.length≤sizeLine∧∀p,H1 p=none→Q (.ref p) (upd H1 p (.tup xs))
noncomputable def znZ(t:TA):TE:=fun σ H Q=>t σ H fun xs H1=>xs.length≤sizeLine∧∀p,H1 p=none→Q (.ref p) (upd H1 p (.lst xs))
theorem zlU{x1}(h:PA X es t):PE X (.Tuple es x1 pos) (znY t):=by
 intro pins s σ H Q I hq
 refine wpAny_Tuple_spliced (thn (h pos pins s σ H _ I hq) fun us s1 ⟨xs,H1,I1,r,z,q⟩=>⟨by rw[←r.length];exact z,?_⟩)
 have hf:H1 s1.heap.objs.size=none:=I1.hok.fresh (Nat.le_refl _)
 refine⟨.ref s1.heap.objs.size,upd H1 s1.heap.objs.size (.tup xs),I1.laid (t':=s1.toks) (fun b u e=>Heap.get?_push_of_some _ e) (Nat.le_refl _) ?_,rfl,q _ hf⟩
 exact⟨z,us,r,⟨_,Heap.get?_push_size _ rfl,rfl,_,rfl⟩⟩
theorem zlV(h:PA X es t):PE X (.List es pos) (znZ t):=by
 intro pins s σ H Q I hq
 refine wpAny_List_spliced (thn (h pos pins s σ H _ I hq) fun us s1 ⟨xs,H1,I1,r,z,q⟩=>⟨by rw[←r.length];exact z,?_⟩)
 have hf:H1 s1.heap.objs.size=none:=I1.hok.fresh (Nat.le_refl _)
 refine⟨.ref s1.heap.objs.size,upd H1 s1.heap.objs.size (.lst xs),I1.laid (t':=s1.toks) (fun b u e=>Heap.get?_push_of_some _ e) (Nat.le_refl _) ?_,rfl,q _ hf⟩
 exact⟨z,us,0,r,Heap.get?_push_size _ rfl⟩
end
noncomputable abbrev Sp:=List V→Hp→VK→XK→Prop
noncomputable abbrev CXT:=List Env→Hp→Shared→XK→Value→Shared→Prop
structure Env0 (P:Program) (w:World) (K:PySem.W.Frag) (mg:Str→Option Value) (base:Heap) (A:Around) (outer:List Env) (s:Shared) (H:Hp):Prop where
 frames:A.frames=some outer
 mod:Mod K mg base
 bs:∀b o,base.get? b=some o→s.heap.get? b=some o∧H b=none
 bsz:base.objs.size≤s.heap.objs.size
 funs:s.heap.FunFrames base outer
 frf:∀b∈frs outer,H b=none
 hok:HOk P w H s.heap
 bare:AllBare s.gens
noncomputable def CE(outer:List Env)(P:Program)(w:World)(H:Hp)(s:Shared)(Q:VK)(u:Value)(s':Shared):Prop:=
 ∃v H',s'.os=s.os∧AllBare s'.gens∧Un (frs outer) [] H H' s.heap s'.heap∧HOk P w H' s'.heap∧RelV v u∧Q v H'
noncomputable def CR(CX:CXT)(outer:List Env)(P:Program)(w:World)(H:Hp)(s:Shared)(Q:VK)(E:XK)(r:Result)(s':Shared):Prop:=
 match r with
 | .ok (.ret u)=>CE outer P w H s Q u s'
 | .ok _=>False
 | .error e=>CX outer H s E e s'
structure FnOk (P:Program) (w:World) (K:PySem.W.Frag) (mg:Str→Option Value) (base:Heap) (CX:CXT) (k:Nat) (f:Addr) (fd:FuncData) (ps:List Str) (sp:Sp):Prop where
 len:∀vs H Q E,sp vs H Q E→vs.length=ps.length
 run:∀(A:Around) (outer:List Env) (s:Shared) (H:Hp) (args:Args) (us:List Value) (vs:List V) (Q:VK) (E:XK),Room k A→Env0 P w K mg base A outer s H→BindsTo s fd args (ps.zip us)→Vals vs us→sp vs H Q E→
  codeAny (model P w) A (.call (.ref f) args) (CR CX outer P w H s Q E) s
theorem Env0.make{P:Program}{w:World}{K:PySem.W.Frag}{mg:Str→Option Value}{base:Heap}{A:Around}{outer:List Env}{s:Shared}{H:Hp}(e:Env0 P w K mg base A outer s H)(C:Addr)(us:List Value)(kw:List (Str×Value)) :
  Env0 P w K mg base (A.under (.builtin "type.__call__" ⟨.ref C::us,kw⟩)) outer s H:=⟨by first | exact e.frames | (simpa[Around.under,Code.envs,Code.isFrame,pushEnvs] using e.frames),e.mod,e.bs,e.bsz,e.funs,e.frf,e.hok,e.bare⟩
section
variable {X:Cx} {pins:List (Addr×Obj)} {σ:St} {H:Hp} {s s':Shared}
theorem Inv.env0(I:Inv X pins σ H s):Env0 X.prog X.w X.K X.mg X.base X.A X.stack s H:=
 ⟨I.ok.frames,I.ok.mod,I.bs,Nat.le_trans I.ok.bsz I.sz,I.stack,I.stkFree,I.hok,I.bare⟩
theorem Inv.after{Q:VK}{u:Value}(I:Inv X pins σ H s)(h:CE X.stack X.prog X.w H s Q u s'):EP X pins σ Q u s':=by
 obtain⟨v,H',os,bare,un,hok,r,q⟩:=h
 obtain⟨hh,g,d,t,os'⟩:=s'
 obtain rfl:os'=s.os:=os
 exact⟨v,H',I.call (h':=hh) (g':=g) (d':=d) (t':=t) (ch:=[]) un hok bare (fun b z=>absurd z (by simp)),r,q⟩
end
noncomputable def znh(sp:Sp)(dvs:List V)(E:XK)(t:TA):TE:=fun σ H Q=>t σ H fun vs H1=>sp (vs++dvs) H1 Q E
noncomputable def zni(C:Addr)(sp:Sp)(dvs:List V)(E:XK)(t:TA):TE:=fun σ H Q=>t σ H fun vs H1=>∀x dx,H1 x=none→H1 dx=none→dx≠x→
 sp (.ref x::(vs++dvs)) (upd (upd H1 dx (.own x)) x (.ins C dx [])) (fun v H2=>v=.non∧Q (.ref x) H2) E
noncomputable def Binds(K:PySem.W.Frag)(fd:FuncData)(ps:List Str)(ds:List Value):Prop:=
 ∀(s:Shared) (us:List Value),K.In s.heap→(us++ds).length=ps.length→BindsTo s fd ⟨us,[]⟩ (ps.zip (us++ds))
theorem Binds.all{K:PySem.W.Frag}{fd:FuncData}{ps:List Str}(h:∀us:List Value,us.length=ps.length→bindArgs fd ⟨us,[]⟩=pure (ps.zip us)):Binds K fd ps []:=fun s us _ hl=>by
 rw[List.append_nil] at hl ⊢
 exact .of_eq (h us hl)
noncomputable def zd7(CX:CXT)(X:Cx)(E:XK):Prop:=∀(pins:List (Addr×Obj)) (σ:St) (H:Hp) (s:Shared) (e:Value) (s':Shared),Inv X pins σ H s→CX X.stack H s E e s'→X.xe e s'
section
variable {X:Cx} {CX:CXT} {k:Nat} {f C:Addr} {fd:FuncData} {ps:List Str} {sp:Sp} {dvs:List V} {ds:List Value} {E:XK} {x m:Str} {p pos apos:Pos} {e o:Expr} {es:List Expr} {ta:TE} {t:TA}
theorem zlW{pins:List (Addr×Obj)}{σ:St}{H:Hp}{s:Shared}{Q:VK}{us:List Value}{vs:List V}(F:FnOk X.prog X.w X.K X.mg X.base CX k f fd ps sp)(hr:Room k X.A)(hb:Binds X.K fd ps ds)(hd:Vals dvs ds)(hx:zd7 CX X E)
  (I:Inv X pins σ H s) (r:Vals vs us) (h:sp (vs++dvs) H Q E):wpAny (model X.prog X.w) X.A (call (.ref f) us) (EP X pins σ Q) X.xe s:=by
 have r2:Vals (vs++dvs) (us++ds):=r.append hd
 have hl:(us++ds).length=ps.length:=by rw[←r2.length];exact F.len _ _ _ _ h
 refine wpAny_call (codeAny_mono (F.run X.A X.stack s H ⟨us,[]⟩ (us++ds) (vs++dvs) Q E hr I.env0 (hb s us I.kIn hl) r2 h) fun r s' hq=>?_)
 cases r with
 | error e=>exact hx pins σ H s e s' I hq
 | ok fl=>
  cases fl with
  | ret u=>exact I.after hq
  | next=>exact False.elim hq
  | brk=>exact False.elim hq
  | cont=>exact False.elim hq
theorem zhw(F:FnOk X.prog X.w X.K X.mg X.base CX k f fd ps sp)(hr:Room k X.A)(hg:Gl X x)(hm:X.mg x=some (.ref f))(hk:PySem.W.keepIn X.K (.ref f)=true)(hb:Binds X.K fd ps ds)(hd:Vals dvs ds)(hx:zd7 CX X E)
  (ha:PA X (e::es) t) (hdb:(x==("__debug__":Str))=false:=by decide) (he:starEach (e::es) X.env=(false,eval e X.env)::starEach es X.env:=by rfl) (hpl:(backTo pos (starEach es X.env)).any (·.1)=false:=by rfl) :
  PE X (.Call (.Name x p) (e::es) [] pos) (znh sp dvs E t):=by
 intro pins s σ H Q I h
 refine wpAny_Call_Name_kw (zcy I hg hm ?_ hdb)
 refine PySem.W.callWith_K (h₀:=X.base) I.ok.mod.kin hk (thn (ha pos pins s σ H _ I h) fun us s1 ⟨vs,H1,I1,r,q⟩=>⟨I1.kIn,?_⟩) he hpl
 exact zlW F hr hb hd hx I1 r q
structure Mk (K:PySem.W.Frag) (C f:Addr):Prop where
 makes:PySem.W.makesIn K C=true
 init:PySem.W.findIn K (.ref C) "__init__"=some (some (.ref f))
 fn:PySem.W.isFn K (.ref f)=true
 kp:PySem.W.keepIn K (.ref C)=true
theorem zi8{pins:List (Addr×Obj)}{σ:St}{H:Hp}{s:Shared}{Q:VK}{us:List Value}{vs:List V}(M:Mk X.K C f)(F:FnOk X.prog X.w X.K X.mg X.base CX k f fd ps sp)(hr:Room (k+1) X.A)(hb:Binds X.K fd ps ds)(hd:Vals dvs ds)
  (hx:zd7 CX X E) (I:Inv X pins σ H s) (r:Vals vs us)
  (h:∀x dx,H x=none→H dx=none→dx≠x→sp (.ref x::(vs++dvs)) (upd (upd H dx (.own x)) x (.ins C dx [])) (fun v H2=>v=.non∧Q (.ref x) H2) E) :
  wpAny (model X.prog X.w) X.A (call (.ref C) us) (EP X pins σ Q) X.xe s:=by
 have hq:=h (s.heap.objs.size+1) s.heap.objs.size (I.hok.fresh (Nat.le_succ _)) (I.hok.fresh (Nat.le_refl _)) (Nat.ne_of_lt (Nat.lt_succ_self _))
 have I2:=Inv.made (C:=C) I
 have r2:Vals (V.ref (s.heap.objs.size+1)::(vs++dvs)) (Value.ref (s.heap.objs.size+1)::(us++ds)):=.cons rfl (r.append hd)
 have hl:(Value.ref (s.heap.objs.size+1)::us++ds).length=ps.length:=by
  have e:=r2.length
  rw[F.len _ _ _ _ hq] at e
  exact e.symm
 refine wpAny_call (zi7 (f:=f) I.kIn M.makes M.init (beq_iff_eq.mp M.fn) (codeAny_mono (F.run _ X.stack _ _ ⟨Value.ref (s.heap.objs.size+1)::us,[]⟩ (Value.ref (s.heap.objs.size+1)::(us++ds)) _ _ E (hr.make C us [])
  (I2.env0.make C us []) (hb _ (Value.ref (s.heap.objs.size+1)::us) I2.kIn hl) r2 hq) fun r s' hq'=>?_))
 cases r with
 | error e=>exact hx pins σ _ _ e s' I2 hq'
 | ok fl=>
  cases fl with
  | ret u=>
   obtain⟨v,H',I3,rv,ev,q3⟩:=I2.after hq'
   subst ev
   exact⟨rv,⟨V.ref (s.heap.objs.size+1),H',I3,rfl,q3⟩⟩
  | next=>exact False.elim hq'
  | brk=>exact False.elim hq'
  | cont=>exact False.elim hq'
theorem zkC(M:Mk X.K C f)(F:FnOk X.prog X.w X.K X.mg X.base CX k f fd ps sp)(hr:Room (k+1) X.A)(hg:Gl X x)(hm:X.mg x=some (.ref C))(hb:Binds X.K fd ps ds)(hd:Vals dvs ds)(hx:zd7 CX X E)
  (ha:PA X (e::es) t) (hdb:(x==("__debug__":Str))=false:=by decide) (he:starEach (e::es) X.env=(false,eval e X.env)::starEach es X.env:=by rfl) (hpl:(backTo pos (starEach es X.env)).any (·.1)=false:=by rfl) :
  PE X (.Call (.Name x p) (e::es) [] pos) (zni C sp dvs E t):=by
 intro pins s σ H Q I h
 refine wpAny_Call_Name_kw (zcy I hg hm ?_ hdb)
 refine PySem.W.callWith_K (h₀:=X.base) I.ok.mod.kin M.kp (thn (ha pos pins s σ H _ I h) fun us s1 ⟨vs,H1,I1,r,q⟩=>⟨I1.kIn,?_⟩) he hpl
 exact zi8 M F hr hb hd hx I1 r q
end
structure FnScope (N P:List Str) (sc:Scope):Prop where
 kind:sc.kind=.function
 co:sc.isCoroutine=false
 gen:sc.isGenerator=false
 nd:N.Nodup
 pre:N.take P.length=P
 par:∀x∈P,sc.names.lookup x=some .local∨sc.names.lookup x=some .cell
 nofree:∀y∈sc.names,y.2≠.free
theorem zeT{kindOf:Str→Option NameKind}{x:Str}:∀{binds:List (Str×Value)} {m:Str→Option Value},(∀v,(x,v)∉binds)→bindL kindOf binds m x=m x
 | [],_,_=>rfl
 | (n,v)::r,m,h=>by
  unfold bindL
  rw[zeT fun w hw=>h w (List.mem_cons_of_mem _ hw)]
  split
  ·have:x≠n:=by rintro rfl;exact h v List.mem_cons_self
   simp[this]
  ·rfl
theorem zeU{kindOf:Str→Option NameKind}{x:Str}:∀{binds:List (Str×Value)} {m:Str→Option Value},(∀v,(x,v)∉binds)→bindC kindOf binds m x=m x
 | [],_,_=>rfl
 | (n,v)::r,m,h=>by
  unfold bindC
  rw[zeU fun w hw=>h w (List.mem_cons_of_mem _ hw)]
  split
  ·rfl
  ·have:x≠n:=by rintro rfl;exact h v List.mem_cons_self
   simp[this]
theorem zeV{kindOf:Str→Option NameKind}{x:Str}{v:Value}:∀{P:List Str} {vs:List Value} {i:Nat} {m:Str→Option Value},P.Nodup→P[i]?=some x→vs[i]?=some v→kindOf x=some .local→
  bindL kindOf (P.zip vs) m x=some v
 | [],_,_,_,_,h,_,_=>by simp at h
 | _::_,[],_,_,_,_,h,_=>by simp at h
 | p::P,w::vs,0,m,nd,h1,h2,hk=>by
  simp at h1 h2;subst h1;subst h2
  show bindL kindOf ((p,w)::P.zip vs) m p=_
  unfold bindL
  rw[zeT fun v hv=>(List.nodup_cons.mp nd).1 (List.of_mem_zip hv).1,if_pos hk]
  simp
 | p::P,w::vs,i+1,m,nd,h1,h2,hk=>by
  show bindL kindOf ((p,w)::P.zip vs) m x=_
  unfold bindL
  exact zeV (i:=i) (List.nodup_cons.mp nd).2 (by simpa using h1) (by simpa using h2) hk
theorem zeW{kindOf:Str→Option NameKind}{x:Str}{v:Value}:∀{P:List Str} {vs:List Value} {i:Nat} {m:Str→Option Value},P.Nodup→P[i]?=some x→vs[i]?=some v→kindOf x≠some .local→
  bindC kindOf (P.zip vs) m x=some v
 | [],_,_,_,_,h,_,_=>by simp at h
 | _::_,[],_,_,_,_,h,_=>by simp at h
 | p::P,w::vs,0,m,nd,h1,h2,hk=>by
  simp at h1 h2;subst h1;subst h2
  show bindC kindOf ((p,w)::P.zip vs) m p=_
  unfold bindC
  rw[zeU fun v hv=>(List.nodup_cons.mp nd).1 (List.of_mem_zip hv).1,if_neg hk]
  simp
 | p::P,w::vs,i+1,m,nd,h1,h2,hk=>by
  show bindC kindOf ((p,w)::P.zip vs) m x=_
  unfold bindC
  exact zeW (i:=i) (List.nodup_cons.mp nd).2 (by simpa using h1) (by simpa using h2) hk
noncomputable def zbF(N:List Str)(vs:List V):St:=vs.map some++List.replicate (N.length-vs.length) none
noncomputable def zfP(CX:CXT)(P:Program)(w:World)(K:PySem.W.Frag)(mg:Str→Option Value)(base:Heap)(N:List Str)(qual:Str)(scope:Scope)(f:Addr)(cd:Value)(A:Around)(outer:List Env)(s:Shared)(H:Hp)(E:XK):Cx where
 prog:=P
 w:=w
 K:=K
 mg:=mg
 base:=base
 A:=A.deeper (envOfC qual scope s.heap.objs.size f cd)
 N:=N
 s₀:=s
 H₀:=H
 env:=envOfC qual scope s.heap.objs.size f cd
 outer:=outer
 stack:=envOfC qual scope s.heap.objs.size f cd::outer
 ex:=[]
 calm:=true
 fn:=fun _=>true
 pn:=[]
 xe:=fun e s'=>wpAny (model P w) (A.deeper (envOfC qual scope s.heap.objs.size f cd)) (leaving (envOfC qual scope s.heap.objs.size f cd) e) (fun _ s''=>CX outer H s E e s'') (fun e' s''=>CX outer H s E e' s'') s'
theorem zgg{sc:Scope}{n:Nat}{x:Str}(h:sc.names.lookup x=some .cell):∃c,(cellsFrom n sc.names []).lookup x=some c:=by
 have q:=PySem.W.cellsFrom_some sc.names n [] (.inl h)
 exact Option.isSome_iff_exists.mp q
theorem zhx{CX:CXT}{P:Program}{w:World}{K:PySem.W.Frag}{mg:Str→Option Value}{base:Heap}{N ps:List Str}{qual:Str}{scope:Scope}{f:Addr}{cd:Value}{A:Around}{outer:List Env}{s s1:Shared}{H:Hp}{E:XK}{us:List Value}{vs:List V}
  (S:FnScope N ps scope) (hd:A.handled=none) (e0:Env0 P w K mg base A outer s H) (hl:vs.length=ps.length) (r:Vals vs us)
  (x:InCallC s s.heap.objs.size (bindL (envOfC qual scope s.heap.objs.size f cd).kindOf (ps.zip us) fun _=>none) (cellsFrom (s.heap.objs.size+1) scope.names []) (bindC (envOfC qual scope s.heap.objs.size f cd).kindOf (ps.zip us) fun _=>none) s1) :
  Inv (zfP CX P w K mg base N qual scope f cd A outer s H E) [] (zbF N vs) H s1:=by
 have hpl:ps.length≤N.length:=by have:=congrArg List.length S.pre;rw[List.length_take] at this;omega
 obtain⟨h1,tk,rfl,hk⟩:=x.done
 have noA:∀b:Addr,b∉(zfP CX P w K mg base N qual scope f cd A outer s H E).ex:=fun b z=>absurd (show b∈([]:List Addr) from z) (by simp)
 refine⟨⟨e0.mod,S.kind,rfl,rfl,Nat.le_refl _,fun y z c h1 h2=>?_,fun y hy=>?_,fun y c _ h=>?_,fun _=>hd,Around.frames_deeper e0.frames,.inr ⟨rfl,rfl⟩,fun b z=>absurd z (noA b),e0.bs,e0.bsz,fun b _ _=>noA b,fun b z=>absurd z (noA b),e0.funs,e0.frf⟩,
  rfl,e0.bare,Un.kept hk,⟨_,x.toInCall.ns,fun i y v h1 h2 h3=>?_⟩,fun y c h=>⟨_,x.cell y c h⟩,e0.hok.fresh (Nat.le_refl _),fun y c h=>?_,fun p hp=>absurd (show p∈([]:List (Addr×Obj)) from hp) (by simp),e0.hok.kept hk,?_⟩
 ·exact name_of_addr x.apart (PySem.mem_of_lookup h1) (PySem.mem_of_lookup h2)
 ·have hy:scope.names.lookup y=some .cell∨scope.names.lookup y=some .free:=hy
  rcases hy with hy | hy
  ·exact zgg hy
  ·exact absurd rfl (S.nofree _ (PySem.mem_of_lookup hy))
 ·exact Nat.le_of_lt (x.above y c (PySem.mem_of_lookup h))
 ·have hi:i<vs.length:=by
   unfold zbF at h2
   by_cases hi:i<vs.length
   ·exact hi
   ·rw[List.getElem?_append_right (by simpa using hi)] at h2
    rw[List.getElem?_replicate] at h2
    split at h2<;>cases h2
  have ha:vs[i]?=some v:=by
   unfold zbF at h2
   rw[List.getElem?_append_left (by simpa using hi),List.getElem?_map] at h2
   cases e:vs[i]? with
   | none=>rw[e] at h2;cases h2
   | some a=>rw[e] at h2;cases h2;rfl
  obtain⟨u,hu,rv⟩:=r.get ha
  have hp:ps[i]?=some y:=by
   rw[←S.pre,List.getElem?_take_of_lt (by omega)];exact h1
  have ndP:ps.Nodup:=by rw[←S.pre];exact S.nd.sublist (List.take_sublist _ _)
  refine⟨u,rv,?_⟩
  rcases S.par y (List.mem_of_getElem? hp) with k | k
  ·exact .inl ⟨k,zeV ndP hp hu k⟩
  ·obtain⟨c,e⟩:=zgg (n:=s.heap.objs.size+1) k
   refine .inr ⟨.inl k,c,e,?_⟩
   have q:=x.cell y c e
   rw[zeW ndP hp hu (by show scope.names.lookup y≠_;rw[k];decide)] at q
   exact q
 ·exact e0.hok.fresh (Nat.le_of_lt (x.above y c (PySem.mem_of_lookup h)))
 ·unfold zbF
  show _=N.length
  rw[List.length_append,List.length_map,List.length_replicate]
  omega
theorem zlX{CX:CXT}{P:Program}{w:World}{K:PySem.W.Frag}{mg:Str→Option Value}{base:Heap}{k:Nat}{f:Addr}{name qual:Str}{params:Arguments}{body:List Stmt}{scope:Scope}{dV kV doc pm cdv ct oc:Value}{an od:Option Addr}
  {osl:Array (Option Value)} {N ps:List Str} {sp:Sp} (lk:K.lookup f=some ⟨oc,od,.func (PySem.W.fnOf name qual params body scope dV kV doc pm an cdv ct),osl⟩) (hcd:PySem.W.codeIn K cdv qual=true) (S:FnScope N ps scope)
  (len:∀vs H Q E,sp vs H Q E→vs.length=ps.length)
  (hbody:∀(A:Around) (outer:List Env) (s:Shared) (H:Hp) (vs:List V) (Q:VK) (E:XK),Room k (A.deeper (envOfC qual scope s.heap.objs.size f cdv))→sp vs H Q E→
   ∃t,PSs (zfP CX P w K mg base N qual scope f cdv A outer s H E) body t∧t { nx:=fun _ H'=>Q .non H',rt:=Q } (zbF N vs) H) :
  FnOk P w K mg base CX (k+1) f (PySem.W.fnOf name qual params body scope dV kV doc pm an cdv ct) ps sp:=by
 refine⟨len,fun A outer s H args us vs Q E hr e0 hb r hsp=>?_⟩
 have hl:=len _ _ _ _ hsp
 have KX:K.In s.heap:=e0.mod.kin.keeps fun b o e=>(e0.bs b o e).1
 have lim:s.heap.NoLimit:=e0.mod.nolimit.keeps fun b o e=>(e0.bs b o e).1
 have hkind:∀y∈ps.zip us,scope.names.lookup y.1=some .local∨(scope.names.lookup y.1=some .cell∧((cellsFrom (s.heap.objs.size+1) scope.names []).lookup y.1).isSome=true):=fun⟨n,v⟩ hy=>by
  rcases S.par n (List.of_mem_zip hy).1 with q | q
  ·exact .inl q
  ·exact .inr ⟨q,PySem.W.cellsFrom_some _ _ _ (.inl q)⟩
 refine codeAny_call_function hr.depth (KX _ _ lk) rfl S.co S.gen rfl (PySem.W.codeRec_of KX hcd) (hb _ _ _ _ ?_)
 refine wpAny_newFunctionEnv_cells S.kind hkind fun env he s1 x=>?_
 subst he
 refine⟨lim.keeps x.toInCall.keep,codeAny_func ?_⟩
 obtain⟨t,ht,hq⟩:=hbody A outer s H vs Q E (hr.deeper _) hsp
 have I:Inv (zfP CX P w K mg base N qual scope f cdv A outer s H E) [] (zbF N vs) H s1:=zhx S hr.hd e0 hl r x
 refine wpAny_mono (ht [] s1 (zbF N vs) H _ I hq) (fun fl s' hs=>?_) fun e s' hs=>hs
 have fin:∀{σ':St} {H':Hp} {v:V} {u:Value},Inv (zfP CX P w K mg base N qual scope f cdv A outer s H E) [] σ' H' s'→RelV v u→Q v H'→CE outer P w H s Q u s':=
  fun{σ' H' v u} J rv q=>⟨v,H',J.os,J.bare,J.base,J.hok,rv,q⟩
 cases fl with
 | ret u=>
  obtain⟨v,σ',H',J,rv,q⟩:=hs
  exact fin J rv q
 | next=>
  obtain⟨σ',H',J,q⟩:=hs
  exact fin (v:=V.non) (u:=Value.none) J rfl q
 | brk=>
  obtain⟨_,_,_,q⟩:=hs
  exact False.elim q
 | cont=>
  obtain⟨_,_,_,q⟩:=hs
  exact False.elim q
end L2
namespace L2
open PySem PySem.Spec PyProof.Rows
section
variable {X:Cx} {x:Str} {p pos:Pos} {e:Expr} {es:List Expr} {t:TA} {id T:String} {r:List V→Hp→VK→Prop}
noncomputable def tCB(r:List V→Hp→VK→Prop)(t:TA):TE:=fun σ H Q=>t σ H fun vs H1=>r vs H1 Q
theorem zi9(hc:CallR X (.builtin id) r)(hg:Gl X x)(hm:X.mg x=none)(hv:bootBuiltins x=some (.builtin id))(ha:PA X (e::es) t)(hn:x≠"__name__":=by decide)(hdb:(x==("__debug__":Str))=false:=by decide)
  (he:starEach (e::es) X.env=(false,eval e X.env)::starEach es X.env:=by rfl) (hpl:(backTo pos (starEach es X.env)).any (·.1)=false:=by rfl):PE X (.Call (.Name x p) (e::es) [] pos) (tCB r t):=by
 intro pins s σ H Q I h
 refine wpAny_Call_Name_kw (zdb I hg hm hv ?_ hn hdb)
 exact PyProof.Rows.callWith_builtin1 (thn (ha pos pins s σ H _ I h) fun us s1 ⟨vs,H1,I1,r1,q1⟩=>hc pins s1 σ H1 vs us Q I1 r1 q1) he hpl
theorem zhy(hc:CallR X (.type T) r)(hg:Gl X x)(hm:X.mg x=none)(hv:bootBuiltins x=some (.type T))(ha:PA X (e::es) t)(hn:x≠"__name__":=by decide)(hdb:(x==("__debug__":Str))=false:=by decide)
  (he:starEach (e::es) X.env=(false,eval e X.env)::starEach es X.env:=by rfl) (hpl:(backTo pos (starEach es X.env)).any (·.1)=false:=by rfl):PE X (.Call (.Name x p) (e::es) [] pos) (tCB r t):=by
 intro pins s σ H Q I h
 refine wpAny_Call_Name_kw (zdb I hg hm hv ?_ hn hdb)
 exact PyProof.Rows.callWith_type1 (thn (ha pos pins s σ H _ I h) fun us s1 ⟨vs,H1,I1,r1,q1⟩=>hc pins s1 σ H1 vs us Q I1 r1 q1) he hpl
end
end L2
namespace HT
open PySem PyProof.Rows
section
variable {prog:Program} {w:World} {A:Around} {E:Value→Shared→Prop} {s:Shared}
noncomputable def sIx(n d:Nat):Option Int→Nat
 | none=>d
 | some v=>if v<0 then(v+(n:Int)).toNat else min v.toNat n
theorem sIx_le(n d:Nat)(hd:d≤n)(o:Option Int):sIx n d o≤n:=by
 cases o with
 | none=>exact hd
 | some v=>
  show(if v<0 then(v+(n:Int)).toNat else min v.toNat n)≤n
  by_cases hv:v<0
  ·rw[if_pos hv];omega
  ·rw[if_neg hv];exact Nat.min_le_right _ _
theorem clip_eq(v:Int)(n d:Nat):(if v<0 then max (v+(n:Int)) 0 else min v (n:Int))=((sIx n d (some v):Nat):Int):=by
 show(if v<0 then max (v+(n:Int)) 0 else min v (n:Int))=(((if v<0 then(v+(n:Int)).toNat else min v.toNat n):Nat):Int)
 by_cases hv:v<0
 ·simp only[if_pos hv];omega
 ·simp only[if_neg hv];omega
theorem zgV(lo hi:Option Int)(n:Nat):Builtin.Slice.sliceAdjust lo hi 1 (n:Int)=(((sIx n 0 lo:Nat):Int),((sIx n n hi:Nat):Int)):=by
 have h1:¬((1:Int)<0):=by omega
 unfold Builtin.Slice.sliceAdjust
 simp only[h1,if_false]
 refine Prod.ext ?_ ?_
 ·cases lo with
  | none=>rfl
  | some v=>exact clip_eq v n 0
 ·cases hi with
  | none=>rfl
  | some v=>exact clip_eq v n n
theorem zgW(i j:Nat):Builtin.Slice.slicePlaces (i:Int) (j:Int) 1=j-i:=by
 unfold Builtin.Slice.slicePlaces
 have h1:(1:Int)>0:=by omega
 simp only[h1,if_true,Int.ediv_one]
 split<;>omega
theorem zd8{v:Value}{o:Option Int}{Q:Option Int→Shared→Prop}(p:IsPart v o)(h:Q o s):wpAny (model prog w) A (Builtin.Slice.slicePartIndex v) Q E s:=by
 cases p with
 | none=>exact slicePart_none h
 | int i t=>exact slicePart_int h
theorem zcY{sl:Addr}{vl vu:Value}{lo hi:Option Int}{n:Nat}{Q:Int×Int×Nat→Shared→Prop}(hs:s.heap.IsSliceOf sl vl vu .none)(pl:IsPart vl lo)(pu:IsPart vu hi)
  (h:Q (((sIx n 0 lo:Nat):Int),1,sIx n n hi-sIx n 0 lo) s):wpAny (model prog w) A (Builtin.Slice.sliceApplied (.ref sl) (pure (n:Int))) Q E s:=by
 obtain⟨os,hos,hcs,hds⟩:=id hs
 unfold Builtin.Slice.sliceApplied Builtin.Slice.sliceFields
 refine wpAny_bind (wpAny_bind (wpAny_field hos hds (x:=vl) rfl (wpAny_bind (wpAny_field hos hds (x:=vu) rfl (wpAny_bind (wpAny_field hos hds (x:=.none) rfl (wpAny_pure ?_)))))))
 refine wpAny_bind (slicePart_none ?_)
 show wpAny _ _ (if ((1:Int)==0)=true then _ else _) _ _ s
 rw[if_neg (by decide)]
 refine wpAny_bind (zd8 pl (wpAny_bind (zd8 pu (wpAny_bind (wpAny_pure ?_)))))
 show wpAny _ _ (match Builtin.Slice.sliceAdjust lo hi 1 (n:Int) with | (lo,hi)=>pure (lo,(1:Int),Builtin.Slice.slicePlaces lo hi 1)) _ _ s
 rw[zgV lo hi n]
 show wpAny _ _ (pure (((sIx n 0 lo:Nat):Int),(1:Int),Builtin.Slice.slicePlaces ((sIx n 0 lo:Nat):Int) ((sIx n n hi:Nat):Int) 1)) _ _ s
 rw[zgW]
 exact wpAny_pure h
theorem zja(xs:Array Value)(i k:Nat):((List.range k).filterMap fun(m:Nat)=>xs[((i:Int)+(m:Int)*1).toNat]?).toArray=((xs.toList.drop i).take k).toArray:=by
 have e:(fun(m:Nat)=>xs[((i:Int)+(m:Int)*1).toNat]?)=fun m=>xs[i+m]?:=by
  funext m
  have:((i:Int)+(m:Int)*1).toNat=i+m:=by omega
  rw[this]
 rw[e]
 have:=pick_run xs i k
 rw[List.filterMap_map] at this
 have e2:((fun x=>xs[x]?)∘fun x=>i+x)=fun m=>xs[i+m]?:=rfl
 rw[e2] at this
 rw[this]
theorem getItem_tuple_cut{t sl:Addr}{items:Array Value}{vl vu:Value}{lo hi:Option Int}{Q:Value→Shared→Prop}(ht:IsTup s.heap t items)(hs:s.heap.IsSliceOf sl vl vu .none)(pl:IsPart vl lo)(pu:IsPart vu hi)
  (hw:¬(sIx items.size 0 lo=0∧sIx items.size items.size hi=items.size))
  (h:Q (.ref s.heap.objs.size) { s with heap:=s.heap.push { cls:=.type "tuple",data:=.seq ((items.toList.drop (sIx items.size 0 lo)).take (sIx items.size items.size hi-sIx items.size 0 lo)).toArray } })
  (hsz:items.size≤sizeLine):wpAny (model prog w) A (getItem (.ref t) (.ref sl)) Q E s:=by
 have htake:sizeOk (.seq ((items.toList.drop (sIx items.size 0 lo)).take (sIx items.size items.size hi-sIx items.size 0 lo)).toArray):=by
  show((items.toList.drop (sIx items.size 0 lo)).take (sIx items.size items.size hi-sIx items.size 0 lo)).toArray.size≤sizeLine
  rw[List.size_toArray,List.length_take,List.length_drop,Array.length_toList]
  omega
 have hj:sIx items.size items.size hi≤items.size:=sIx_le _ _ (Nat.le_refl _) hi
 obtain⟨os,hos,hcs,hds⟩:=id hs
 have hTs:s.TypeIs (.ref sl) "slice":=⟨os,hos,hcs⟩
 unfold getItem
 try with_reducible refine wpAny_holding ?_
 first | refine wpAny_bind (wpAny_pure ?_) | skip
 refine wpAny_bind (wpAny_sequenceKey ht.typeIs (by decide) ?_)
 refine wpAny_bind (wpAny_callSpecial?_slot (name:=Str.ofString "__getitem__") ht.typeIs PyProof.Rows.slot_tuple_getitem
  (wpAny_call_entry PyProof.Rows.slot_tuple_getitem ht.typeIs entry_tuple_getitem ?_ (args_tuple_getitem _ _)))
 show wpAny _ _ (Builtin.Tuple.tupleItemsOf (.ref t) >>= _) _ _ s
 refine wpAny_bind (tupleItemsOf_ ht ?_)
 refine wpAny_bind (wpAny_typeOf hTs ?_)
 rw[if_pos (by decide)]
 refine wpAny_bind (zcY hs pl pu ?_)
 have hno:¬((((sIx items.size 0 lo:Nat):Int)==0&&(1:Int)==1&&(sIx items.size items.size hi-sIx items.size 0 lo)==items.size)=true):=by
  intro q
  rw[Bool.and_eq_true,Bool.and_eq_true] at q
  have q1:((sIx items.size 0 lo:Nat):Int)=0:=eq_of_beq q.1.1
  have q2:sIx items.size items.size hi-sIx items.size 0 lo=items.size:=eq_of_beq q.2
  exact hw ⟨by omega,by omega⟩
 show wpAny _ _ (if (((sIx items.size 0 lo:Nat):Int)==0&&(1:Int)==1&&(sIx items.size items.size hi-sIx items.size 0 lo)==items.size)=true then _ else _) _ _ s
 rw[if_neg hno,zja]
 first
  | exact wpAny_bind (m:=Builtin.Tuple.tupleExact _) (wpAny_newObj_type (wpAny_pure ⟨_,rfl,wpAny_pure h⟩) htake)
  | exact wpAny_bind (m:=Builtin.Tuple.tupleExact _) (wpAny_newObj_type (wpAny_bind (wpAny_pure (wpAny_pure ⟨_,rfl,wpAny_pure h⟩))) htake)
  | exact wpAny_bind (wpAny_bind (m:=Builtin.Tuple.tupleExact _) (wpAny_newObj_type (wpAny_pure (wpAny_pure ⟨_,rfl,wpAny_pure h⟩)) htake))
  | exact wpAny_bind (wpAny_bind (m:=Builtin.Tuple.tupleExact _) (wpAny_newObj_type (wpAny_pure ⟨_,rfl,wpAny_pure h⟩) htake))
end
end HT
namespace L2
open PySem PySem.Spec PyProof.Rows
noncomputable abbrev TO:=St→Hp→(Option Int→Hp→Prop)→Prop
noncomputable def PO(X:Cx)(e:Option Expr)(t:TO):Prop:=
 ∀(pins:List (Addr×Obj)) (s:Shared) (σ:St) (H:Hp) (Q:Option Int→Hp→Prop),Inv X pins σ H s→t σ H Q→
  wpAny (model X.prog X.w) X.A (evalPart e X.env) (fun u s'=>∃o H',Inv X pins σ H' s'∧IsPart u o∧Q o H') X.xe s
noncomputable def zkD:TO:=fun _ H Q=>Q none H
noncomputable def zlY(t:TE):TO:=fun σ H Q=>t σ H fun x H1=>∃i,x=.int i∧Q (some i) H1
theorem zbT{ns:List Int}:∀{us:List Value},Vals (ns.map V.int) us→IntsAre us ns:=by
 induction ns with
 | nil=>intro us r;rw[List.map_nil] at r;cases r;exact .nil
 | cons n ns ih=>
  intro us r
  rw[List.map_cons] at r
  cases r with
  | cons r1 r2=>
   obtain⟨t,e⟩:=r1
   subst e
   exact .cons n t (ih r2)
section
variable {X:Cx} {e:Expr} {te:TE} {lo hi:Option Expr} {tl th:TO} {pos p2:Pos}
theorem zkE:PO X none zkD:=by
 intro pins s σ H Q I h
 rw[evalPart_none]
 exact wpAny_pure ⟨none,H,I,.none,h⟩
theorem zhz(h:PE X e te):PO X (some e) (zlY te):=by
 intro pins s σ H Q I hw
 rw[evalPart_some]
 refine thn (h pins s σ H _ I hw) fun u s1 ⟨x,H1,I1,r1,q1⟩=>?_
 obtain⟨i,rfl,q⟩:=q1
 obtain⟨t,rfl⟩:=r1
 exact⟨some i,H1,I1,.int i t,q⟩
noncomputable def SlR(X:Cx)(r:V→Option Int→Option Int→Hp→VK→Prop):Prop:=
 ∀(pins:List (Addr×Obj)) (s:Shared) (σ:St) (H:Hp) (x:V) (v vl vu:Value) (lo hi:Option Int) (sl:Addr) (Q:VK),Inv X pins σ H s→RelV x v→s.heap.IsSliceOf sl vl vu .none→IsPart vl lo→IsPart vu hi→r x lo hi H Q→
  ∃T id,typeLookup (.type T) "__getitem__"=pure (some (.builtin id))∧s.TypeIs v T∧wpAny (model X.prog X.w) X.A (getItem v (.ref sl)) (EP X pins σ Q) X.xe s
theorem SlR.or{r r':V→Option Int→Option Int→Hp→VK→Prop}(h:SlR X r)(h':SlR X r'):SlR X (fun x lo hi H Q=>r x lo hi H Q∨r' x lo hi H Q):=by
 intro pins s σ H x v vl vu lo hi sl Q I rx hs pl pu q
 rcases q with q | q
 ·exact h pins s σ H x v vl vu lo hi sl Q I rx hs pl pu q
 ·exact h' pins s σ H x v vl vu lo hi sl Q I rx hs pl pu q
noncomputable def tSl(r:V→Option Int→Option Int→Hp→VK→Prop)(te:TE)(tl th:TO):TE:=fun σ H Q=>te σ H fun x H1=>tl σ H1 fun l H2=>th σ H2 fun u H3=>r x l u H3 Q
theorem zjb{r:V→Option Int→Option Int→Hp→VK→Prop}(hr:SlR X r)(he:PE X e te)(hl:PO X lo tl)(hu:PO X hi th):PE X (.Subscript e (.Slice lo hi none p2) pos) (tSl r te tl th):=by
 intro pins s σ H Q I h
 refine Subscript_ (thn (he pins s σ H _ I h) fun v s1 ⟨x,H1,I1,r1,q1⟩=>?_)
 refine wpAny_Slice (thn (hl pins s1 σ H1 _ I1 q1) fun vl s2 ⟨l,H2,I2,pl,q2⟩=>thn (hu pins s2 σ H2 _ I2 q2) fun vu s3 ⟨u,H3,I3,pu,q3⟩=>?_)
 rw[evalPart_none]
 refine wpAny_pure ?_
 have I4:Inv X pins σ H3 { s3 with heap:=s3.heap.push { cls:=.type "slice",data:=.fields #[vl,vu,.none] } }:=I3.kept (t':=s3.toks) fun b ob q=>Heap.get?_push_of_some _ q
 obtain⟨T,id,hT,ht,hg⟩:=hr pins { s3 with heap:=s3.heap.push { cls:=.type "slice",data:=.fields #[vl,vu,.none] } } σ H3 x v vl vu l u s3.heap.objs.size Q I4 r1 (Heap.IsSliceOf.new ..) pl pu q3
 show wpAny (model X.prog X.w) X.A (subscriptTail e (.Slice lo hi none p2) v (.ref s3.heap.objs.size)) (EP X pins σ Q) X.xe { s3 with heap:=s3.heap.push { cls:=.type "slice",data:=.fields #[vl,vu,.none] } }
 exact tail_any (ops:=[.ref s3.heap.objs.size,v]) ht hT hg (by with_unfolding_all rfl)
noncomputable def ziT(xs:List V)(lo hi:Option Int):List V:=(xs.drop (HT.sIx xs.length 0 lo)).take (HT.sIx xs.length xs.length hi-HT.sIx xs.length 0 lo)
theorem zdf(xs:List V)(lo hi:Option Int):(ziT xs lo hi).length≤xs.length:=by
 unfold ziT
 rw[List.length_take,List.length_drop]
 omega
noncomputable def zn0(K:PySem.W.Frag):V→Option Int→Option Int→Hp→VK→Prop:=fun x lo hi H Q=>∃a xs,x=.ref a∧SqT K H a xs∧
 ¬(HT.sIx xs.length 0 lo=0∧HT.sIx xs.length xs.length hi=xs.length)∧∀p,H p=none→Q (.ref p) (upd H p (.tup (ziT xs lo hi)))
theorem zlZ:SlR X (zn0 X.K):=by
 intro pins s σ H x v vl vu lo hi sl Q I rx hs pl pu h
 obtain⟨a,xs,rfl,hx,hw,q⟩:=h
 cases rx
 obtain⟨its,r,ht,hz⟩:=I.tuple hx
 have hlen:its.toArray.size=xs.length:=by rw[List.size_toArray];exact r.length.symm
 refine⟨"tuple",_,PyProof.Rows.slot_tuple_getitem.lookup,ht.typeIs,?_⟩
 refine HT.getItem_tuple_cut ht hs pl pu (by rw[hlen];exact hw) ?_ (by rw[hlen];exact hz)
 rw[hlen]
 refine⟨.ref s.heap.objs.size,_,I.laid (t':=s.toks) (o:=.tup (ziT xs lo hi)) (fun b ob q=>Heap.get?_push_of_some _ q) (Nat.le_refl _) ?_,rfl,q _ (I.hok.fresh (Nat.le_refl _))⟩
 exact⟨Nat.le_trans (zdf xs lo hi) hz,_,(r.drop (HT.sIx xs.length 0 lo)).take (HT.sIx xs.length xs.length hi-HT.sIx xs.length 0 lo),IsTup.new _ _⟩
end
end L2
namespace L2
open PySem PySem.Spec PyProof.Rows
noncomputable def ixN(n:Nat)(i:Int):Option Nat:=if 0≤i then(if i<n then some i.toNat else none) else if -(n:Int)≤i then some (i+n).toNat else none
noncomputable def atI{α:Type}(xs:List α)(i:Int):Option α:=(ixN xs.length i).bind fun j=>xs[j]?
theorem zkF{n:Nat}{i:Int}{j:Nat}(h:ixN n i=some j):seqIndex? i n=some j∧j<n∧-(n:Int)≤i∧i<n:=by
 unfold ixN at h
 by_cases h0:0≤i
 ·rw[if_pos h0] at h
  by_cases h1:i<n
  ·rw[if_pos h1] at h
   have e:i.toNat=j:=Option.some.inj h
   exact⟨by rw[seqIndex_of h0 h1,e],by omega,by omega,h1⟩
  ·rw[if_neg h1] at h;cases h
 ·rw[if_neg h0] at h
  by_cases h1:-(n:Int)≤i
  ·rw[if_pos h1] at h
   have e:(i+n).toNat=j:=Option.some.inj h
   exact⟨by rw[seqIndex_neg (by omega) h1,e],by omega,h1,by omega⟩
  ·rw[if_neg h1] at h;cases h
theorem zcz{α:Type}{xs:List α}{i:Int}{v:α}(h:atI xs i=some v):∃j,seqIndex? i xs.length=some j∧xs[j]?=some v∧j<xs.length∧-(xs.length:Int)≤i∧i<xs.length:=by
 unfold atI at h
 cases e:ixN xs.length i with
 | none=>rw[e] at h;cases h
 | some j=>
  rw[e] at h
  obtain⟨h1,h2,h3,h4⟩:=zkF e
  exact⟨j,h1,h,h2,h3,h4⟩
noncomputable def zhA(b:Expr):Prop:=∀o i,subscripted b false o i=operate [o,i] (getItem o i)
noncomputable def IxR(X:Cx)(r:R2):Prop:=
 ∀(value slice:Expr) (pins:List (Addr×Obj)) (s:Shared) (σ:St) (H:Hp) (x y:V) (v u:Value) (Q:VK),Inv X pins σ H s→RelV x v→RelV y u→r x y H Q→
  subscripted slice false v u=operate [v,u] (getItem v u)→wpAny (model X.prog X.w) X.A (subscriptTail value slice v u) (EP X pins σ Q) X.xe s
noncomputable def MtR(X:Cx)(id:String)(r:V→List V→Hp→VK→Prop):Prop:=
 ∀(pins:List (Addr×Obj)) (s:Shared) (σ:St) (H:Hp) (x:V) (xs:List V) (v:Value) (us:List Value) (Q:VK),Inv X pins σ H s→RelV x v→Vals xs us→r x xs H Q→
  wpAny (model X.prog X.w) X.A (call (.builtin id) (v::us)) (EP X pins σ Q) X.xe s
section
variable {X:Cx} {a b:Expr} {ta tb:TE} {pos:Pos}
theorem IxR.or{r r':R2}(h:IxR X r)(h':IxR X r'):IxR X (fun x y H Q=>r x y H Q∨r' x y H Q):=by
 intro value slice pins s σ H x y v u Q I rx ry q hs
 rcases q with q | q
 ·exact h value slice pins s σ H x y v u Q I rx ry q hs
 ·exact h' value slice pins s σ H x y v u Q I rx ry q hs
theorem znj{r:R2}(hr:IxR X r)(ha:PE X a ta)(hb:PE X b tb)(hs:zhA b):PE X (.Subscript a b pos) (tOp r ta tb):=by
 intro pins s σ H Q I h
 exact Subscript_ (znd ha hb I h fun v u s2 x y H2 I2 rx ry q=>hr a b pins s2 σ H2 x y v u Q I2 rx ry q (hs _ _))
noncomputable def znB(K:PySem.W.Frag):R2:=fun x y H Q=>∃p xs i v,x=.ref p∧y=.int i∧SqL K H p xs∧atI xs i=some v∧Q v H
noncomputable def znC(K:PySem.W.Frag):R2:=fun x y H Q=>∃p xs i v,x=.ref p∧y=.int i∧SqT K H p xs∧atI xs i=some v∧Q v H
noncomputable def znD:R2:=fun x y H Q=>∃z i c,x=.str z∧y=.int i∧z.length≤sizeLine∧atI z.cps.toList i=some c∧Q (.str ⟨#[c]⟩) H
theorem ix_list:IxR X (znB X.K):=by
 intro value slice pins s σ H x y v u Q I rx ry h hs
 obtain⟨p,xs,i,z,rfl,rfl,hq,he,q⟩:=h
 cases rx
 obtain⟨t,rfl⟩:=ry
 obtain⟨its,r,pl,hz⟩:=I.list hq
 obtain⟨j,h1,h2,h3,h4,h5⟩:=zcz he
 obtain⟨w,ew,rw'⟩:=r.get h2
 have hl:=r.length
 have hn:=zeS
 have fin:EP X pins σ Q w s:=⟨z,H,I,rw',q⟩
 by_cases h0:0≤i
 ·have hj:i.toNat=j:=by
   rw[seqIndex_of h0 h5] at h1
   exact Option.some.inj h1
  exact item_listR pl.isList h0 (by omega) (by rw[hj];simpa using ew) fin hs
 ·have hj:(i+(its.toArray.size:Int)).toNat=j:=by
   rw[seqIndex_neg (by omega) h4] at h1
   rw[List.size_toArray,←hl]
   exact Option.some.inj h1
  exact subscriptTail_builtinR (x:=w) pl.isList.typeIs slot_list_getitem.lookup
   (wpAny_getItem_list_neg (Q:=fun r s'=>r=w∧EP X pins σ Q r s') pl.isList (by omega) (by rw[List.size_toArray]<;>omega) (by omega) (by rw[hj];simpa using ew) ⟨rfl,fin⟩) hs
theorem ix_tup:IxR X (znC X.K):=by
 intro value slice pins s σ H x y v u Q I rx ry h hs
 obtain⟨p,xs,i,z,rfl,rfl,hq,he,q⟩:=h
 cases rx
 obtain⟨t,rfl⟩:=ry
 obtain⟨its,r,pl,hz⟩:=I.tuple hq
 obtain⟨j,h1,h2,h3,h4,h5⟩:=zcz he
 obtain⟨w,ew,rw'⟩:=r.get h2
 have hl:=r.length
 have hn:=zeS
 have fin:EP X pins σ Q w s:=⟨z,H,I,rw',q⟩
 exact subscriptTail_builtinR (x:=w) pl.typeIs slot_tuple_getitem.lookup
  (getItem_tuple (j:=j) (Q:=fun r s'=>r=w∧EP X pins σ Q r s') pl (by omega) (by omega) (by rw[List.size_toArray,←hl];exact h1) (by simpa using ew) ⟨rfl,fin⟩) hs
theorem zl0:IxR X znD:=by
 intro value slice pins s σ H x y v u Q I rx ry h hs
 obtain⟨z,i,c,rfl,rfl,hz,he,q⟩:=h
 obtain⟨t,rfl⟩:=rx
 obtain⟨t',rfl⟩:=ry
 obtain⟨j,h1,h2,h3,h4,h5⟩:=zcz he
 have hl:z.cps.toList.length=z.length:=by simp[Str.length]
 rw[hl] at h1 h4 h5
 have hn:=zeS
 exact tail_any (typeIs_str s z t) slot_str_getitem.lookup (getItem_str (c:=c) (by
  have e1:decide (i < -(2 ^ 63:Int))=false:=decide_eq_false (by omega)
  have e2:decide (i≥2 ^ 63)=false:=decide_eq_false (by omega)
  rw[e1,e2,Bool.or_false]) (by rw[h1];simpa using h2) ⟨.str ⟨#[c]⟩,H,I.tok _,⟨_,rfl⟩,q⟩) hs
noncomputable def rIx(K:PySem.W.Frag):R2:=fun x y H Q=>znB K x y H Q∨znC K x y H Q∨znD x y H Q
theorem zl1:IxR X (rIx X.K):=ix_list.or (ix_tup.or zl0)
theorem zeX(lo hi:Option Int)(n:Nat):(sliceBounds lo hi none n).1=((HT.sIx n 0 lo:Nat):Int)∧(sliceBounds lo hi none n).2.1=((HT.sIx n n hi:Nat):Int)∧(sliceBounds lo hi none n).2.2=1:=by
 refine⟨?_,?_,rfl⟩
 ·cases lo with
  | none=>simp[sliceBounds,HT.sIx]
  | some i=>
   simp only[sliceBounds,HT.sIx,Option.getD_none,show(1:Int)>0 by decide,if_true]
   by_cases h:i<0
   ·simp only[h,if_true]<;>omega
   ·simp only[h,if_false]<;>omega
 ·cases hi with
  | none=>simp[sliceBounds,HT.sIx]
  | some i=>
   simp only[sliceBounds,HT.sIx,Option.getD_none,show(1:Int)>0 by decide,if_true]
   by_cases h:i<0
   ·simp only[h,if_true]<;>omega
   ·simp only[h,if_false]<;>omega
theorem zem(its:List Value)(lo hi:Option Int):slicePick its.toArray lo hi none=((its.drop (HT.sIx its.length 0 lo)).take (HT.sIx its.length its.length hi-HT.sIx its.length 0 lo)).toArray:=by
 obtain⟨h1,h2,h3⟩:=zeX lo hi its.toArray.size
 unfold slicePick
 rw[h1,h2,h3]
 simp only[sliceRange_one,pick_run,List.size_toArray]<;>rfl
noncomputable def zn1(K:PySem.W.Frag):V→Option Int→Option Int→Hp→VK→Prop:=fun x lo hi H Q=>∃a xs,x=.ref a∧SqL K H a xs∧∀p,H p=none→Q (.ref p) (upd H p (.lst (ziT xs lo hi)))
theorem sl_list:SlR X (zn1 X.K):=by
 intro pins s σ H x v vl vu lo hi sl Q I rx hs pl pu h
 obtain⟨a,xs,rfl,hx,q⟩:=h
 cases rx
 obtain⟨its,r,ht,hz⟩:=I.list hx
 have hlen:=r.length
 refine⟨"list",_,slot_list_getitem.lookup,ht.isList.typeIs,?_⟩
 refine wpAny_getItem_list_slice ht.isList hs pl pu .none (by simp) ?_ (by rw[List.size_toArray]<;>omega)
 rw[zem,←hlen]
 refine⟨.ref s.heap.objs.size,_,I.laid (t':=s.toks) (o:=.lst (ziT xs lo hi)) (fun b ob q=>Heap.get?_push_of_some _ q) (Nat.le_refl _) ?_,rfl,q _ (I.hok.fresh (Nat.le_refl _))⟩
 exact⟨Nat.le_trans (zdf xs lo hi) hz,_,0,(r.drop (HT.sIx xs.length 0 lo)).take (HT.sIx xs.length xs.length hi-HT.sIx xs.length 0 lo),Heap.get?_push_size _ rfl⟩
noncomputable def zjc:V→Bool
 | .non=>true
 | .bl _=>true
 | .int _=>true
 | .str _=>true
 | _=>false
noncomputable def eqV:V→V→Bool
 | .non,.non=>true
 | .bl a,.bl b=>a==b
 | .bl a,.int b=>(if a then 1 else 0)==b
 | .int a,.bl b=>a==(if b then 1 else 0)
 | .int a,.int b=>a==b
 | .str a,.str b=>a==b
 | _,_=>false
theorem zj1{A:Around}{s:Shared}{y x:V}{u v:Value}(ry:RelV y u)(rx:RelV x v)(fy:zjc y=true)(fx:zjc x=true):SeqAt.EqAt A s u v (eqV y x):=by
 cases y with
 | non=>
  cases ry
  cases x with
  | non=>cases rx;exact SeqAt.EqAt.same _
  | bl b=>cases rx;exact SeqAt.EqAt.none_bool b
  | int b=>obtain⟨t,rfl⟩:=rx;exact SeqAt.EqAt.none_int b t
  | str b=>obtain⟨t,rfl⟩:=rx;exact SeqAt.EqAt.none_str b t
  | _=>exact absurd (show false=true from fx) Bool.false_ne_true
 | bl a=>
  cases ry
  cases x with
  | non=>cases rx;exact SeqAt.EqAt.bool_none a
  | bl b=>cases rx;exact SeqAt.EqAt.bool_bool a b
  | int b=>obtain⟨t,rfl⟩:=rx;exact SeqAt.EqAt.bool_int a b t
  | str b=>obtain⟨t,rfl⟩:=rx;exact SeqAt.EqAt.bool_str a b t
  | _=>exact absurd (show false=true from fx) Bool.false_ne_true
 | int a=>
  obtain⟨t',rfl⟩:=ry
  cases x with
  | non=>cases rx;exact SeqAt.EqAt.int_none a t'
  | bl b=>cases rx;exact SeqAt.EqAt.int_bool a t' b
  | int b=>obtain⟨t,rfl⟩:=rx;exact SeqAt.EqAt.int_int a t' b t
  | str b=>obtain⟨t,rfl⟩:=rx;exact SeqAt.EqAt.int_str a t' b t
  | _=>exact absurd (show false=true from fx) Bool.false_ne_true
 | str a=>
  obtain⟨t',rfl⟩:=ry
  cases x with
  | non=>cases rx;exact SeqAt.EqAt.str_none a t'
  | bl b=>cases rx;exact SeqAt.EqAt.str_bool a t' b
  | int b=>obtain⟨t,rfl⟩:=rx;exact SeqAt.EqAt.str_int a t' b t
  | str b=>obtain⟨t,rfl⟩:=rx;exact SeqAt.EqAt.str_str a t' b t
  | _=>exact absurd (show false=true from fx) Bool.false_ne_true
 | _=>exact absurd (show false=true from fy) Bool.false_ne_true
theorem call_len_seq:CallR X (.builtin "len") (fun xs H Q=>∃p ys,xs=[.ref p]∧(SqL X.K H p ys∨SqT X.K H p ys)∧Q (.int ys.length) H):=by
 intro pins s σ H xs us Q I r h
 obtain⟨p,ys,rfl,hq,q⟩:=h
 obtain⟨u,rfl,rx⟩:=zbY r
 cases rx
 have hn:=zeS
 rcases hq with hq | hq
 ·obtain⟨its,r',pl,hz⟩:=I.list hq
  have hlen:=r'.length
  exact Calls.call_len_list pl.isList (by simp only[List.size_toArray]<;>omega) ⟨.int ys.length,H,I.tok _,⟨s.toks+1,by rw[List.size_toArray,hlen]⟩,q⟩
 ·obtain⟨its,r',pl,hz⟩:=I.tuple hq
  have hlen:=r'.length
  exact len_tuple pl (by simp only[List.size_toArray]<;>omega) ⟨.int ys.length,H,I.tok _,⟨s.toks+1,by rw[List.size_toArray,hlen]⟩,q⟩
theorem zeY:CallR X (.builtin "len") (fun xs H Q=>∃z,xs=[.str z]∧z.length≤sizeLine∧Q (.int z.length) H):=by
 intro pins s σ H xs us Q I r h
 obtain⟨z,rfl,hz,q⟩:=h
 obtain⟨u,rfl,t,rfl⟩:=zbY r
 have hn:=zeS
 exact len_str (by omega) ⟨.int z.length,H,I.tok _,⟨_,rfl⟩,q⟩
theorem CallR.or{f:Value}{r r':List V→Hp→VK→Prop}(h:CallR X f r)(h':CallR X f r'):CallR X f (fun xs H Q=>r xs H Q∨r' xs H Q):=by
 intro pins s σ H xs us Q I rs q
 rcases q with q | q
 ·exact h pins s σ H xs us Q I rs q
 ·exact h' pins s σ H xs us Q I rs q
theorem zeZ:CallR X (.type "list") (fun xs H Q=>∃p ys,xs=[.ref p]∧(SqL X.K H p ys∨SqT X.K H p ys)∧∀l,H l=none→Q (.ref l) (upd H l (.lst ys))):=by
 intro pins s σ H xs us Q I r h
 obtain⟨p,ys,rfl,hq,q⟩:=h
 obtain⟨u,rfl,rx⟩:=zbY r
 cases rx
 have fin:∀(its:List Value),Vals ys its→ys.length≤sizeLine→∀(h':Heap) (c':Nat),(∀b o',s.heap.get? b=some o'→h'.get? b=some o')→
   h'.get? s.heap.objs.size=some { cls:=.type "list",dict:=none,data:=.seq its.toArray c',slots:=#[] }→EP X pins σ Q (.ref s.heap.objs.size) { s with heap:=h' }:=fun its r' hz h' c' kp e=>
  ⟨.ref s.heap.objs.size,_,I.laid (t':=s.toks) kp (Nat.le_refl _) (show ObjOk X.prog X.w _ h' _ (.lst ys) from⟨hz,its,c',r',e⟩),rfl,q _ (I.hok.fresh (Nat.le_refl _))⟩
 rcases hq with hq | hq
 ·obtain⟨its,r',pl,hz⟩:=I.list hq
  have hlen:=r'.length
  obtain⟨o,ho,hc,n,hd⟩:=pl.isList
  exact call_list_seq p (.inl rfl) ho hc hd (fun h' c' kp e=>fin its r' hz h' c' kp e) (by simp only[List.size_toArray]<;>omega)
 ·obtain⟨its,r',pl,hz⟩:=I.tuple hq
  have hlen:=r'.length
  obtain⟨o,ho,hc,n,hd⟩:=pl
  exact call_list_seq p (.inr rfl) ho hc hd (fun h' c' kp e=>fin its r' hz h' c' kp e) (by simp only[List.size_toArray]<;>omega)
noncomputable def tyV(K:PySem.W.Frag)(T:String)(x:V)(H:Hp):Prop:=match x with
 | .str _=>T="str"
 | .int _=>T="int"
 | .ref p=>(T="list"∧∃xs,SqL K H p xs)∨(T="tuple"∧∃o,K.lookup p=some o∧o.cls=.type "tuple"∧o.dict=none)∨
   (T="dict"∧((∃kvs ep,H p=some (.dK kvs ep))∨∃kvs bs,H p=some (.dT kvs bs)))∨(T="set"∧∃S n,H p=some (.set S n))
 | _=>False
theorem zl2{pins:List (Addr×Obj)}{σ:St}{H:Hp}{s:Shared}{T:String}{x:V}{v:Value}(I:Inv X pins σ H s)(r:RelV x v)(ty:tyV X.K T x H) :
  s.TypeIs v T∧∀a,v=.ref a→∃ob,s.heap.get? a=some ob∧ob.dict=none:=by
 cases x with
 | str z=>
  obtain⟨t,rfl⟩:=r
  cases (show T="str" from ty)
  exact⟨typeIs_str s z t,fun _ e=>nomatch e⟩
 | int i=>
  obtain⟨t,rfl⟩:=r
  cases (show T="int" from ty)
  exact⟨typeIs_int s i t,fun _ e=>nomatch e⟩
 | ref p=>
  cases r
  rcases ty with⟨rfl,xs,hq⟩ | ⟨rfl,o,hk,hc,hd⟩ | ⟨rfl,hk⟩ | ⟨rfl,S,n,hk⟩
  ·obtain⟨its,_,pl,_⟩:=I.list hq
   refine⟨pl.isList.typeIs,fun a e=>?_⟩
   cases e
   obtain⟨o,n,e,c,hd,_⟩:=pl
   exact⟨o,e,hd⟩
  ·refine⟨⟨o,I.kIn p o hk,hc⟩,fun a e=>?_⟩
   cases e
   exact⟨o,I.kIn _ o hk,hd⟩
  ·have z:∃o,s.heap.get? p=some o∧o.ExactDict:=by
    rcases hk with⟨kvs,ep,hk⟩ | ⟨kvs,bs,hk⟩
    ·obtain⟨_,_,_,_,o,_,e,ex,_⟩:=I.hok p _ hk
     exact⟨o,e,ex⟩
    ·obtain⟨_,_,_,_,_,o,_,_,e,ex,_⟩:=I.hok p _ hk
     exact⟨o,e,ex⟩
   obtain⟨o,e,ex⟩:=z
   refine⟨⟨o,e,ex.1⟩,fun a e2=>?_⟩
   cases e2
   exact⟨o,e,ex.2.1⟩
  ·obtain⟨o,_,_,_,e,ex,_⟩:=I.hok p _ hk
   refine⟨⟨o,e,ex.1⟩,fun a e2=>?_⟩
   cases e2
   exact⟨o,e,ex.2.1⟩
 | _=>exact False.elim ty
noncomputable def tBM(K:PySem.W.Frag)(T:String)(r:V→List V→Hp→VK→Prop)(to:TE)(t:TA):TE:=fun σ H Q=>to σ H fun x H1=>tyV K T x H1∧t σ H1 fun xs H2=>r x xs H2 Q
variable {o e:Expr} {es:List Expr} {to:TE} {t:TA} {name:Str} {apos cpos:Pos} {T id:String} {r:V→List V→Hp→VK→Prop}
theorem zl3(pa:PlainAttrs T)(slot:Slot T name id)(hty:typeOf (.builtin id)=pure (.type "method_descriptor"))(hm:MtR X id r)(ho:PE X o to)(ha:PA X (e::es) t)
  (hbase:attributeBase o name X.env (eval o X.env)=eval o X.env:=by rfl)
  (hfew:((backTo cpos (starEach (e::es) X.env)).all (fun x=>!x.1)&&(backToKw cpos (keywordEach [] X.env)).all (fun x=>x.1.isSome)
   && decide ((e::es).length+([]:List Keyword).length+(if ([]:List Keyword).isEmpty then 0 else 1)<30))=true:=by rfl)
  (hline:(apos.endLine==cpos.line)=true:=by rfl) (hs:starEach (e::es) X.env=(false,eval e X.env)::starEach es X.env:=by rfl) (hplain:(backTo cpos (starEach es X.env)).any (·.1)=false:=by rfl) :
  PE X (.Call (.Attribute o name apos) (e::es) [] cpos) (tBM X.K T r to t):=by
 intro pins s σ H Q I h
 refine wpAny_Call_method_late hbase hfew hline rfl (thn (ho pins s σ H _ I h) fun v s1 ⟨x,H1,I1,r1,ty,q1⟩=>?_)
 obtain⟨h1,h2⟩:=zl2 I1 r1 ty
 refine⟨T,id,pa,slot,hty,h1,h2,?_⟩
 have hA:=ha cpos pins s1 σ H1 _ I1 q1
 rw[hs] at hA ⊢
 refine Calls.callWith_builtin (by show(false||(backTo cpos (starEach es X.env)).any (·.1))=false;rw[hplain]<;>rfl) (Calls.evalArgs_plain ?_)
 exact thn hA fun us s2 ⟨vs,H2,I2,r2,q2⟩=>hm pins s2 σ H2 x vs v us Q I2 r1 r2 q2
end
end L2
namespace L2
open PySem PySem.Spec PyProof.Rows
noncomputable def MtM(X:Cx)(id:String)(r:V→List V→Hp→VK→Prop):Prop:=
 ∀(pins:List (Addr×Obj)) (s:Shared) (σ:St) (H:Hp) (x:V) (xs:List V) (v:Value) (us:List Value) (Q:VK),Inv X pins σ H s→RelV x v→Vals xs us→r x xs H Q→
  wpAny (model X.prog X.w) X.A (call (.builtin id) (v::us)) (EP X pins σ Q) X.xe s
theorem Vals.one:∀{x:V} {us:List Value},Vals [x] us→∃u,us=[u]∧RelV x u
 | _,_,.cons r .nil=>⟨_,rfl,r⟩
theorem Vals.rep{xs:List V}{us:List Value}(h:Vals xs us):∀k:Nat,Vals (List.replicate k xs).flatten (List.replicate k us).flatten
 | 0=>.nil
 | k+1=>by
  rw[List.replicate_succ,List.replicate_succ,List.flatten_cons,List.flatten_cons]
  exact Vals.append h (Vals.rep h k)
theorem ze0(its:List Value):∀(k:Nat) (acc:List Value),
  List.foldl (fun x1 x2=>x1++x2) acc.toArray (List.replicate k its.toArray)=(acc++(List.replicate k its).flatten).toArray
 | 0,acc=>by simp
 | k+1,acc=>by
  have e:acc.toArray++its.toArray=(acc++its).toArray:=by simp
  have e2:(acc++its)++(List.replicate k its).flatten=acc++(List.replicate (k+1) its).flatten:=by
   rw[List.replicate_succ,List.flatten_cons,List.append_assoc]
  rw[←e2,←ze0 its k (acc++its),←e,List.replicate_succ,List.foldl_cons]
section
variable {X:Cx} {pins:List (Addr×Obj)} {σ:St} {H:Hp} {s:Shared} {l b:Addr} {xs ys zs:List V}
theorem Inv.lset{its its':List Value}{n:Nat}{f:Array Value→Array Value}{t':Nat}(I:Inv X pins σ H s)(hH:H l=some (.lst xs))
  (e:s.heap.get? l=some { cls:=.type "list",data:=.seq its.toArray n }) (hf:f its.toArray=its'.toArray) (hv:Vals ys its') (hz:ys.length≤sizeLine) :
  Inv X pins σ (upd H l (.lst ys)) { s with heap:=s.heap.update l (Obj.mapSeq f),toks:=t' }:=by
 have q:=PySem.IsL.update e f
 rw[hf] at q
 refine I.write (x:=l) (e:=l) (by rw[hH];exact trivial) (.inl rfl) (fun b' u hb hu=>(Heap.get?_update_other s.heap (Obj.mapSeq f) (Ne.symm hb)).trans hu) ⟨_,q⟩ ?_
 exact⟨hz,its',_,hv,q⟩
theorem Inv.lnew{its:List Value}{t':Nat}(I:Inv X pins σ H s)(hv:Vals ys its)(hz:ys.length≤sizeLine) :
  Inv X pins σ (upd H s.heap.objs.size (.lst ys)) { s with heap:=s.heap.push { cls:=.type "list",data:=.seq its.toArray },toks:=t' }:=
 I.laid (fun _ _ q=>Heap.get?_push_of_some _ q) (Nat.le_refl _) ⟨hz,its,0,hv,Heap.get?_push_size _ rfl⟩
theorem Inv.fresh(I:Inv X pins σ H s):H s.heap.objs.size=none:=I.hok.fresh (Nat.le_refl _)
theorem Inv.lstM(I:Inv X pins σ H s)(hH:H l=some (.lst xs)):xs.length≤sizeLine∧∃(its:List Value) (n:Nat),Vals xs its∧xs.length=its.length∧s.heap.get? l=some { cls:=.type "list",data:=.seq its.toArray n }:=by
 obtain⟨z,its,n,r,e⟩:=I.hok l _ hH
 exact⟨z,its,n,r,r.length,e⟩
theorem zgh{n:Nat}(h:n≤sizeLine):Builtin.List.listTooLong n=false:=by
 unfold Builtin.List.listTooLong
 exact decide_eq_false (by omega)
end
section
variable {X:Cx}
noncomputable def zkG:V→List V→Hp→VK→Prop:=fun x vs H Q=>∃l xs y,x=.ref l∧vs=[y]∧H l=some (.lst xs)∧xs.length<sizeLine∧Q .non (upd H l (.lst (xs++[y])))
theorem zhB:MtM X "list.append" zkG:=by
 intro pins s σ H x vs v us Q I rx rv h
 obtain⟨l,xs,y,rfl,rfl,hH,hz,q⟩:=h
 cases rx
 obtain⟨u,rfl,ru⟩:=rv.one
 obtain⟨z,its,n,r,hl,e⟩:=I.lstM hH
 refine call_meets F.slot_list_append ⟨_,e,rfl⟩ F.entry_list_append (F.args_list_append_2 _ _) (PySem.list_append l its.toArray n u (by rw[List.size_toArray];omega)) ⟨e,?_⟩
 refine⟨.non,_,I.lset (its':=its++[u]) hH e (by simp) (r.append (.cons ru .nil)) ?_,rfl,q⟩
 rw[List.length_append,List.length_singleton]
 omega
noncomputable def zhC:V→List V→Hp→VK→Prop:=fun x vs H Q=>∃l b xs zs,x=.ref l∧vs=[.ref b]∧H l=some (.lst xs)∧H b=some (.lst zs)∧xs.length+zs.length≤sizeLine∧Q .non (upd H l (.lst (xs++zs)))
theorem zhD:MtM X "list.extend" zhC:=by
 intro pins s σ H x vs v us Q I rx rv h
 obtain⟨l,b,xs,zs,rfl,rfl,hH,hB,hz,q⟩:=h
 cases rx
 obtain⟨u,rfl,ru⟩:=rv.one
 cases ru
 obtain⟨z,its,n,r,hl,e⟩:=I.lstM hH
 obtain⟨z2,its2,n2,r2,hl2,e2⟩:=I.lstM hB
 have hsz:its.toArray.size+its2.toArray.size≤sizeLine:=by rw[List.size_toArray,List.size_toArray];omega
 have hlong:¬(!its.toArray.isEmpty&&Builtin.List.listTooLong (its.toArray.size+its2.toArray.size))=true:=by
  rw[zgh hsz,Bool.and_false]
  exact Bool.false_ne_true
 refine call_meets F.slot_list_extend ⟨_,e,rfl⟩ F.entry_list_extend (F.args_list_extend_2 _ _)
  (AutoSeq1.list_extend_list_list_0 l its.toArray n b its2.toArray n2 hlong (by rw[List.size_toArray];omega) (by omega)) ⟨e,e2,?_⟩
 refine⟨.non,_,I.lset (its':=its++its2) hH e (by simp) (r.append r2) ?_,rfl,q⟩
 rw[List.length_append]
 omega
noncomputable def zn2:R2:=fun x y H Q=>∃l k xs,x=.ref l∧y=.int k∧H l=some (.lst xs)∧-(2 ^ 63)≤k∧k<2 ^ 63∧xs.length*k.toNat≤sizeLine∧
 ∀p,H p=none→Q (.ref p) (upd H p (.lst (List.replicate k.toNat xs).flatten))
theorem zkH{α:Type}(xs:List α)(k:Nat):(List.replicate k xs).flatten.length=k*xs.length:=by
 induction k with
 | zero=>simp
 | succ k ih=>rw[List.replicate_succ,List.flatten_cons,List.length_append,ih,Nat.succ_mul,Nat.add_comm]
theorem zl4:OpR X (binaryOp .Mult) zn2:=by
 intro pins s σ H x y v u Q I rx ry h
 obtain⟨l,k,xs,rfl,rfl,hH,h1,h2,hz,q⟩:=h
 cases rx
 obtain⟨t,rfl⟩:=ry
 obtain⟨z,its,n,r,hl,e⟩:=I.lstM hH
 have hlen:its.toArray.size*k.toNat≤sizeLine:=by rw[List.size_toArray,←hl];exact hz
 have hcap:¬its.toArray.size*k.toNat>(2 ^ 63-1)/8:=by
  have:(sizeLine:Nat)≤(2 ^ 63-1)/8:=by decide
  omega
 have hfit:¬(!Builtin.List.listFitsIndex k)=true:=by
  rw[fitsIndex_both h1 h2]
  exact Bool.false_ne_true
 have hlong:¬Builtin.List.listTooLong (its.toArray.size*k.toNat)=true:=by
  rw[zgh hlen]
  exact Bool.false_ne_true
 have hnew:List.foldl (fun x1 x2=>x1++x2) #[] (List.replicate (if its.toArray.isEmpty=true then 0 else k.toNat) its.toArray)=(List.replicate k.toNat its).flatten.toArray:=by
  have f0:∀m:Nat,List.foldl (fun x1 x2=>x1++x2) #[] (List.replicate m its.toArray)=(List.replicate m its).flatten.toArray:=fun m=>by
   have:=ze0 its m []
   rw[List.nil_append] at this
   exact this
  rw[f0]
  cases its with
  | nil=>simp
  | cons a r'=>rw[if_neg (by simp)]
 refine wpAny_binaryOp_repeat_ref (T:="list") (U:="int") (by decide) ⟨_,e,rfl⟩ (fun s'=>typeIs_int s' k t) noFill_list_mul F.fills_int_mul F.slot_int_rmul repeat_list F.slot_int_index.lookup
  (call_meets F.slot_int_rmul (typeIs_int s k t) F.entry_int_rmul (F.args_int_rmul_2 _ _) (int___rmul___int_list k t l its.toArray n)
   ⟨e,rfl,⟨_,e,rfl⟩,call_meets F.slot_list_mul ⟨_,e,rfl⟩ F.entry_list_mul (F.args_list_mul_2 _ _) (AutoListH.list___mul___list_int_3 l its.toArray n k t hfit hcap hlong) ⟨e,?_⟩⟩)
 rw[hnew]
 exact⟨.ref _,_,I.lnew (t':=s.toks) (r.rep k.toNat) (by rw[zkH,Nat.mul_comm];exact hz),rfl,q _ I.fresh⟩
end
section
variable {prog:Program} {w:World} {A:Around} {E:Value→Shared→Prop} {s:Shared}
end
end L2
namespace Att
open PySem PySem.W PySem.Calls PyProof.Rows
theorem zdg{P:Params}{h:Heap}:∀(ns:List Int) (vs:List Value),WellAll P h vs (ns.map WData.int)→IntsAre vs ns:=by
 intro ns
 induction ns with
 | nil=>
  intro vs w
  rw[List.map_nil] at w
  cases w
  exact .nil
 | cons n ns ih=>
  intro vs w
  rw[List.map_cons] at w
  cases w with
  | cons a b=>
   cases a
   exact .cons _ _ (ih _ b)
theorem zhE{l:OpenLaw}{n:Nat}(hn:l.most=some n){P:Params}{h:Heap}{args:List WData}{vals:List Value}
  (hpre:l.row.toRowW.claim.pre args=true) (hwl:WellAll P h vals args) :
  ∃a vs ns,vals=[Value.ref a]∧args=[WData.list (ns.map WData.int)]∧h.get? a=some { cls:=.type "list",data:=.seq vs.toArray }∧IntsAre vs ns∧ns.length≤n:=by
 have hsh:WShape.hasAll [] args [.list .int]=true:=(pre_splitW hpre).1
 have hc:l.pre.holds [] { args:=args }=true:=(pre_splitW hpre).2
 obtain⟨d,r,rfl,h1,h2⟩:=hasAllW_cons hsh
 obtain rfl:=hasAllW_nil h2
 obtain⟨xs,rfl,h3⟩:=hasW_list h1
 obtain⟨ns,rfl⟩:=items_int h3
 have hlen:ns.length≤n:=by
  unfold OpenLaw.pre at hc
  have h4:(WTm.not (.lt (.lit (.int (n:Int))) (.len (.arg 0)))).holds [] { args:=[.list (ns.map .int)] }=true:=by
   have h4:=(holds_andW hc).1
   rw[hn] at h4
   exact h4
  have h5:=condW_of h4 (w_not (w_lt w_lit (w_len_list (w_arg rfl))))
  rw[List.length_map] at h5
  refine Nat.le_of_not_lt fun q=>?_
  have q':(n:Int)<((ns.length:Nat):Int):=by omega
  first
   | (rw[decide_eq_true q'] at h5;exact absurd h5 (by decide))
   | (simp at h5;omega)
 cases hwl with
 | cons w1 w2=>
  cases w2
  cases w1 with
  | list ho hall=>exact⟨_,_,ns,rfl,rfl,ho,zdg ns _ hall,hlen⟩
theorem zhF(l:OpenLaw)(args:List WData):l.row.toRowW.claim.post args (.bool true) args=true:=
 postW_of (r:=l.row.toRowW) (X:=(true==true))
  (show WShape.has [] (.bool true) .bool=true by first | rfl | decide | simp[WShape.has,WShape.arms,WShape.armsAll])
  (show(WTm.eq .res (.lit (.bool true))).value [] { args:=args,res:=some (.bool true),after:=args }=some (.bool (true==true)) from w_eq_bool (w_res rfl) w_lit) rfl
theorem attach_call{l:OpenLaw}{n:Nat}{q:Program}{loose:List Str}{XP:(Str→Option Value)→Heap→Prop}{YP:World→Heap→Prop}{d:DefRec}
  (hn:l.most=some n) (hdf:d.params.defaults=[])
  (call:∀(w:World) (s₀ s₁:Shared) (mg mb:Str→Option Value) (fa:Addr) (o:Obj) (pm cd doc:Value) (a:Addr) (vs:List Value) (ns:List Int),
   Ground q loose [] XP w s₀ mg mb s₁.heap→YP w s₁.heap→
   s₁.heap.get? fa=some o→o.data=.func (docDef d.name d.params d.body d.scope pm cd doc)→s₁.heap.CodeRec cd d.name→mg d.name=some (.ref fa)→
   s₁.heap.get? a=some { cls:=.type "list",data:=.seq vs.toArray }→IntsAre vs ns→ns.length≤n→s₁.gens=#[]→
   codeAny (model l.prog w) callerA (.call (.ref fa) ⟨[.ref a],[]⟩) (fun r s'=>r=.ok (.ret (.bool true))∧OldK s₁.heap s'.heap∧s'.os=s₁.os∧AllBare s'.gens) s₁) :
  WalkO q loose XP YP l.row.toRowW d [] (fun f vs=>PySem.call f vs):=by
 intro w s₀ s₁ mg mb G Y fa o pm cd doc dV kV ho hd hcd hD hmg hg args vals as hpre hlay hrd hwl hlo
 obtain rfl:dV=.none:=Dflts.none hD hdf
 obtain rfl:kV=.none:=Dflts.noKw hD
 obtain⟨a,vs,ns,rfl,rfl,hobj,hints,hlen⟩:=zhE hn hpre hwl
 refine enter_call (codeAny_mono (call w s₀ s₁ mg mb fa o pm cd doc a vs ns G Y ho (fd_plain hd) hcd hmg hobj hints hlen hg) fun r s' hq=>?_)
 obtain⟨rfl,h2,h3,h4⟩:=hq
 exact⟨.inl ⟨.bool true,.bool true,[],rfl,fun _=>rfl,.bool true,zhF l _,fun _=>⟨List.Pairwise.nil,fun _ hm=>(nomatch hm)⟩⟩,h2,h3,h4⟩
end Att
namespace L2
open PySem PySem.Spec PyProof.Rows
theorem zdh:∀{vs:List Value} {ns:List Int},IntsAre vs ns→Vals (ns.map V.int) vs
 | _,_,.nil=>.nil
 | _,_,.cons n t h=>.cons ⟨t,rfl⟩ (zdh h)
noncomputable def znE(H:Hp):Prop:=∀b,H b=none∨∃o xs,H b=some (.frz o (.lst xs))
theorem zjd{P:Program}{w:World}{K:PySem.W.Frag}{mg mb:Str→Option Value}{CX:CXT}{k:Nat}{fa a:Addr}{fd:FuncData}{x:Str}{sp:Sp}{s₁:Shared}{vs:List Value}{ns:List Int}
  (KX:K.In s₁.heap) (hns:s₁.heap.Ns mainGlobals mg) (hb:s₁.heap.Ns builtinsNs mb) (hbb:∀x:Str,x≠"__name__"→mb x=bootBuiltins x) (hlim:s₁.heap.NoLimit) (hg:s₁.gens=#[])
  (ha:s₁.heap.get? a=some { cls:=.type "list",data:=.seq vs.toArray }) (hi:IntsAre vs ns) (hl:ns.length≤sizeLine) (hr:Room k callerA)
  (F:∀base:Heap,K.In base→base.Ns mainGlobals mg→FnOk P w K mg base CX k fa fd [x] sp) (hbind:∀(s:Shared) (u:Value),BindsTo s fd ⟨[u],[]⟩ [(x,u)])
  (hsp:∀H:Hp,znE H→SqL K H a (ns.map V.int)→sp [.ref a] H (fun v _=>v=.bl true) fun _ _ _=>False)
  (hCX:∀H e s',CX [] H s₁ (fun _ _ _=>False) e s'→False) :
  codeAny (model P w) callerA (.call (.ref fa) ⟨[.ref a],[]⟩) (fun r s'=>r=.ok (.ret (.bool true))∧OldK s₁.heap s'.heap∧s'.os=s₁.os∧AllBare s'.gens) s₁:=by
 have rv:=zdh hi
 have lenV:=hi.length
 -- from an abstract heap in which nothing but the script may be tracked
 have core:∀H:Hp,znE H→SqL K H a (ns.map V.int)→HOk P w H s₁.heap→(∀b,H b≠none→b=a)→(H a≠none→K.lookup a=none)→
   codeAny (model P w) callerA (.call (.ref fa) ⟨[.ref a],[]⟩) (fun r s'=>r=.ok (.ret (.bool true))∧OldK s₁.heap s'.heap∧s'.os=s₁.os∧AllBare s'.gens) s₁:=by
  intro H hO hS hok hA hK
  have base_of:∀{b:Addr} {o:Obj},s₁.heap.get? b=some o→H b=none→(ziW s₁.heap H).get? b=some o:=fun e n=>ziX e n
  have noA:∀{b:Addr} {o:Obj} {es:Array DictEntry} {ep:Nat},s₁.heap.get? b=some o→o.data=.dict es ep→H b=none:=fun{b o es ep} e d=>by
   cases q:H b with
   | none=>rfl
   | some u=>
    have e':b=a:=hA b (by rw[q];simp)
    subst e'
    rw[ha] at e;cases e
    have d':Data.seq vs.toArray _=Data.dict es ep:=d
    cases d'
  have nsK:∀{b:Addr} {m:Str→Option Value},s₁.heap.Ns b m→(ziW s₁.heap H).Ns b m:=fun{b m} ⟨o,es,ep,e,d,r⟩=>⟨o,es,ep,base_of e (noA e d),d,r⟩
  have hKb:K.In (ziW s₁.heap H):=fun b o e=>base_of (KX b o e) (by
   cases q:H b with
   | none=>rfl
   | some u=>
    have e':b=a:=hA b (by rw[q];simp)
    subst e'
    rw[hK (by rw[q];simp)] at e;cases e)
  have hM:Mod K mg (ziW s₁.heap H):=⟨hKb,nsK hns,⟨mb,nsK hb,hbb⟩,let⟨mc,h1,h2⟩:=hlim;⟨mc,nsK h1,h2⟩⟩
  have e0:Env0 P w K mg (ziW s₁.heap H) callerA [] s₁ H:=⟨rfl,hM,fun b o e=>zkp e,Nat.le_of_eq (zhi _ _),trivial,fun b hb=>absurd (show b∈([]:List Addr) from hb) (by simp),hok,.of_eq hg⟩
  refine codeAny_mono ((F _ hKb (nsK hns)).run callerA [] s₁ H ⟨[.ref a],[]⟩ [.ref a] [.ref a] _ _ hr e0 (hbind s₁ (.ref a)) (.cons rfl .nil) (hsp H hO hS)) fun r s' h=>?_
  cases r with
  | error e=>exact(hCX H e s' h).elim
  | ok fl=>
   cases fl with
   | next=>exact False.elim h
   | brk=>exact False.elim h
   | cont=>exact False.elim h
   | ret u=>
    obtain⟨v,H',os,bare,un,hok',r',q⟩:=h
    have q':v=.bl true:=q
    subst q'
    obtain rfl:u=Value.bool true:=r'
    refine⟨rfl,OldK.of_keep fun b o e=>?_,os,bare⟩
    cases q:H b with
    | none=>exact un.keep b o e q (by intro z;exact absurd (show b∈([]:List Addr) from z) (by simp)) (by simp)
    | some u=>
     rcases hO b with z | ⟨ob,xs,z⟩
     ·rw[q] at z;cases z
     ·have z2:=un.frzs b ob _ z
      obtain⟨e1,_⟩:=hok b _ z
      obtain⟨e2,_⟩:=hok' b _ z2
      rw[e] at e1;cases e1
      exact e2
 cases hk:K.lookup a with
 | some o=>
  -- the script is one of the module's own objects
  have e:=KX a o hk
  rw[ha] at e
  cases e
  refine core (fun _=>none) (fun _=>.inl rfl) (.inr ⟨_,vs.toArray,_,hk,rfl,rfl,rfl,by rw[List.size_toArray,lenV];exact hl,by simpa using rv⟩) (fun b u z=>by have z':(none:Option HO)=some u:=z;cases z') (fun b z=>absurd rfl z) fun z=>absurd rfl z
 | none=>
  refine core (fun b=>if b=a then some (.frz { cls:=.type "list",data:=.seq vs.toArray } (.lst (ns.map V.int))) else none) (fun b=>?_) (.inl (.inr ⟨{ cls:=.type "list",data:=.seq vs.toArray },if_pos rfl⟩)) (fun b u z=>?_) (fun b z=>?_) fun _=>hk
  ·by_cases hb:b=a
   ·exact .inr ⟨_,_,if_pos hb⟩
   ·exact .inl (if_neg hb)
  ·by_cases hb:b=a
   ·have z':=(if_pos hb).symm.trans z
    cases z'
    subst hb
    exact⟨ha,by rw[List.length_map];exact hl,vs,_,rv,ha⟩
   ·have z':=(if_neg hb).symm.trans z
    cases z'
  ·by_cases hb:b=a
   ·exact hb
   ·exact absurd (if_neg hb) z
end L2
namespace L2
open PySem PySem.Spec PyProof.Rows
noncomputable abbrev KOf{K:PySem.W.Frag}{h:Heap}(_:K.In h):PySem.W.Frag:=K
end L2
namespace L2
open PySem PySem.Spec PyProof.Rows
noncomputable def zkI(s:Stmt)(j:Nat):Stmt:=match s with
 | .ClassDef _ _ _ body _ _ _ _ _ _ _=>body.getD j (.Pass ⟨0,0,0,0⟩)
 | _=>.Pass ⟨0,0,0,0⟩
noncomputable def defArgs(s:Stmt):Arguments:=match s with
 | .FunctionDef _ a _ _ _ _ _ _ _ _=>a
 | _=>{ posonlyargs:=[],args:=[],vararg:=none,kwonlyargs:=[],kw_defaults:=[],kwarg:=none,defaults:=[] }
noncomputable def defBody(s:Stmt):List Stmt:=match s with
 | .FunctionDef _ _ b _ _ _ _ _ _ _=>b
 | _=>[]
noncomputable def defScope(s:Stmt):Scope:=match s with
 | .FunctionDef _ _ _ _ _ _ sc _ _ _=>sc
 | _=>{ kind:=.function,names:=[],isGenerator:=false,isCoroutine:=false }
noncomputable abbrev CX0:CXT:=fun _ _ _ _ _ _=>False
noncomputable abbrev E0:XK:=fun _ _ _=>False
theorem zl5{X:Cx}:zd7 CX0 X E0:=fun _ _ _ _ _ _ _ h=>h.elim
structure FunV (dV:Value) (K:PySem.W.Frag) (x qual:Str) (st:Stmt) (f:Addr) (fd:FuncData):Prop where
 ex:∃(oc:Value) (od:Option Addr) (kV doc pm:Value) (an:Option Addr) (cdv ct:Value) (osl:Array (Option Value)),
  fd=PySem.W.fnOf x qual (defArgs st) (defBody st) (defScope st) dV kV doc pm an cdv ct∧K.lookup f=some ⟨oc,od,.func fd,osl⟩∧PySem.W.codeIn K cdv qual=true
 kp:PySem.W.keepIn K (.ref f)=true
noncomputable abbrev Fun:=FunV .none
section
variable {P:Program} {w:World} {K:PySem.W.Frag} {mg:Str→Option Value} {base:Heap}
theorem FunV.ok{dV:Value}{x qual:Str}{st:Stmt}{f:Addr}{fd:FuncData}{N ps:List Str}{k:Nat}{sp:Sp}(F:FunV dV K x qual st f fd)(S:FnScope N ps (defScope st))(len:∀vs H Q E,sp vs H Q E→vs.length=ps.length)
  (hbody:∀(cdv:Value) (A:Around) (outer:List Env) (s:Shared) (H:Hp) (vs:List V) (Q:VK) (E:XK),Room k (A.deeper (envOfC qual (defScope st) s.heap.objs.size f cdv))→sp vs H Q E→
   ∃t,PSs (zfP CX0 P w K mg base N qual (defScope st) f cdv A outer s H E).nox (defBody st) t∧t { nx:=fun _ H'=>Q .non H',rt:=Q } (zbF N vs) H):FnOk P w K mg base CX0 (k+1) f fd ps sp:=by
 obtain⟨oc,od,kV,doc,pm,an,cdv,ct,osl,rfl,lk,hcd⟩:=F.ex
 refine zlX lk hcd S len fun A outer s H vs Q E hr hsp=>?_
 obtain⟨t,h,q⟩:=hbody cdv A outer s H vs Q E hr hsp
 exact⟨t,h.nox,q⟩
theorem FunV.binds{x qual:Str}{st:Stmt}{f:Addr}{fd:FuncData}{ps:List Str}(F:Fun K x qual st f fd)
  (h:∀(kV doc pm:Value) (an:Option Addr) (cdv ct:Value) (us:List Value),us.length=ps.length→bindArgs (PySem.W.fnOf x qual (defArgs st) (defBody st) (defScope st) .none kV doc pm an cdv ct) ⟨us,[]⟩=pure (ps.zip us)):Binds K fd ps []:=by
 obtain⟨oc,od,kV,doc,pm,an,cdv,ct,osl,rfl,lk,hcd⟩:=F.ex
 exact .all (h kV doc pm an cdv ct)
theorem zj2{x qual:Str}{st:Stmt}{f:Addr}{oc:Value}{od an:Option Addr}{osl:Array (Option Value)}{dV kV doc pm cdv ct:Value}(l:K.lookup f=some ⟨oc,od,.func (PySem.W.fnOf x qual (defArgs st) (defBody st) (defScope st) dV kV doc pm an cdv ct),osl⟩)
  (c:PySem.W.codeIn K cdv qual=true) (k:PySem.W.keepIn K (.ref f)=true):FunV dV K x qual st f (PySem.W.fnOf x qual (defArgs st) (defBody st) (defScope st) dV kV doc pm an cdv ct):=⟨⟨oc,od,kV,doc,pm,an,cdv,ct,osl,rfl,l,c⟩,k⟩
end
noncomputable def Same(H H':Hp):Prop:=∀b o,H b=some o→H' b=some o
theorem Same.refl(H:Hp):Same H H:=fun _ _ h=>h
theorem Same.trans{H H1 H2:Hp}(a:Same H H1)(b:Same H1 H2):Same H H2:=fun c o h=>b c o (a c o h)
theorem Same.free{H H':Hp}(e:Same H H'){l:Addr}(h:H' l=Option.none):H l=Option.none:=by
 cases q:H l with
 | none=>rfl
 | some o=>
  rw[e l o q] at h
  cases h
end L2
set_option maxHeartbeats 0
namespace L2
open PySem PySem.Spec PyProof.Rows
noncomputable def RdL(K:PySem.W.Frag)(H:Hp)(a:Addr)(xs:List V):Prop:=
 Rd H a (.lst xs)∨∃(its:Array Value) (n:Nat),K.lookup a=some { cls:=.type "list",data:=.seq its n }∧its.size≤sizeLine∧Vals xs its.toList
theorem RdL.of{K:PySem.W.Frag}{H:Hp}{a:Addr}{xs:List V}(h:H a=some (.lst xs)):RdL K H a xs:=.inl (.inl h)
theorem RdL.sq{K:PySem.W.Frag}{H:Hp}{a:Addr}{xs:List V}(h:RdL K H a xs):SqL K H a xs:=by
 rcases h with h | ⟨its,n,h1,h2,h3⟩
 ·exact .inl h
 ·exact .inr ⟨_,its,n,h1,rfl,rfl,rfl,h2,h3⟩
theorem Same.rdl{K:PySem.W.Frag}{H H':Hp}{a:Addr}{xs:List V}(e:Same H H')(h:RdL K H a xs):RdL K H' a xs:=by
 rcases h with(h | ⟨o,h⟩) | h
 ·exact .inl (.inl (e _ _ h))
 ·exact .inl (.inr ⟨o,e _ _ h⟩)
 ·exact .inr h
theorem Inv.rdl{X:Cx}{pins:List (Addr×Obj)}{σ:St}{H:Hp}{s:Shared}{a:Addr}{xs:List V}(I:Inv X pins σ H s)(h:RdL X.K H a xs):xs.length≤sizeLine∧∃(its:List Value) (n:Nat),Vals xs its∧s.heap.get? a=some { cls:=.type "list",data:=.seq its.toArray n }:=by
 rcases h with h | ⟨its,n,h1,h2,h3⟩
 ·obtain⟨z,its,n,r,e⟩:=h.ok I.hok
  exact⟨z,its,n,r,e⟩
 ·refine⟨by rw[h3.length];simpa using h2,its.toList,n,h3,?_⟩
  rw[Array.toArray_toList]
  exact I.kIn a _ h1
noncomputable def zfQ(cells:List (Str×Addr)):List (Str×NameKind)→List (Str×Addr)→List (Str×Addr)
 | [],acc=>acc
 | (n,k)::r,acc=>zfQ cells r (if k==.free then(n,(cells.lookup n).getD 0)::acc else acc)
theorem zd9{env:Env}:∀(names:List (Str×NameKind)) (acc:List (Str×Addr)),(∀x∈names,x.2=.free→∃c,env.cells.lookup x.1=some c)→
  (forIn names acc fun(x:Str×NameKind) (r:List (Str×Addr))=>
   (if (x.2==NameKind.free)=true then do let a ←cellOf env x.1;pure (ForInStep.yield ((x.1,a)::r)) else pure (ForInStep.yield r):Sem (ForInStep (List (Str×Addr)))))=pure (zfQ env.cells names acc)
 | [],acc,_=>by simp[zfQ]
 | (n,k)::r,acc,h=>by
  have ih:=fun acc'=>zd9 (env:=env) r acc' fun x hx=>h x (List.mem_cons_of_mem _ hx)
  rw[List.forIn_cons]
  by_cases hk:k=.free
  ·subst hk
   obtain⟨c,hc⟩:=h (n,.free) (by simp) rfl
   have e1:cellOf env n=pure c:=by unfold cellOf;rw[hc]
   simp only[beq_self_eq_true,if_true,e1,pure_bind]
   rw[ih]
   simp[zfQ,hc]
  ·have hk':(k==NameKind.free)=false:=by simpa using hk
   simp only[hk',Bool.false_eq_true,if_false,pure_bind]
   rw[ih]
   simp[zfQ,hk']
theorem zea{env:Env}{scope:Scope}(h:∀x∈scope.names,x.2=.free→∃c,env.cells.lookup x.1=some c):closureFor scope env=pure (zfQ env.cells scope.names []):=by
 have e:closureFor scope env=(forIn scope.names ([]:List (Str×Addr)) fun(x:Str×NameKind) (r:List (Str×Addr))=>
   (if (x.2==NameKind.free)=true then do let a ←cellOf env x.1;pure (ForInStep.yield ((x.1,a)::r)) else pure (ForInStep.yield r):Sem (ForInStep (List (Str×Addr))))) >>= fun r=>pure r:=rfl
 rw[e,zd9 _ _ h]
 rfl
theorem zgi{cells:List (Str×Addr)}:∀{names:List (Str×NameKind)} {acc:List (Str×Addr)} {x:Str} {c:Addr},(x,c)∈zfQ cells names acc→(x,c)∈acc∨((x,.free)∈names∧c=(cells.lookup x).getD 0)
 | [],acc,x,c,h=>.inl h
 | (n,k)::r,acc,x,c,h=>by
  rcases zgi (names:=r) h with h | ⟨h,e⟩
  ·by_cases hk:k=.free
   ·subst hk
    simp only[beq_self_eq_true,if_true] at h
    rcases List.mem_cons.mp h with h | h
    ·cases h;exact .inr ⟨by simp,rfl⟩
    ·exact .inl h
   ·have hk':(k==NameKind.free)=false:=by simpa using hk
    simp only[hk',Bool.false_eq_true,if_false] at h
    exact .inl h
  ·exact .inr ⟨List.mem_cons_of_mem _ h,e⟩
theorem zgj{cells:List (Str×Addr)}:∀{names:List (Str×NameKind)} {acc:List (Str×Addr)} {p:Str×Addr},p∈acc→p∈zfQ cells names acc
 | [],acc,p,h=>h
 | (n,k)::r,acc,p,h=>zgj (names:=r) (by split<;>simp[h])
theorem zen{cells:List (Str×Addr)}:∀{names:List (Str×NameKind)} {acc:List (Str×Addr)} {x:Str},(x,.free)∈names→∃c,(x,c)∈zfQ cells names acc
 | (n,k)::r,acc,x,h=>by
  rcases List.mem_cons.mp h with h | h
  ·have e1:x=n:=congrArg Prod.fst h
   have e2:NameKind.free=k:=congrArg Prod.snd h
   subst e1 e2
   refine⟨(cells.lookup x).getD 0,?_⟩
   show(x,(cells.lookup x).getD 0)∈zfQ cells r (if (NameKind.free==NameKind.free)=true then(x,(cells.lookup x).getD 0)::acc else acc)
   exact zgj (by simp)
  ·exact zen (names:=r) h
theorem za2{α:Type}:∀{l:List (Str×α)} {x:Str} {c:α},(x,c)∈l→∃c',l.lookup x=some c'
 | (n,k)::r,x,c,h=>by
  by_cases e:x=n
  ·subst e;exact⟨k,by simp[List.lookup_cons]⟩
  ·have e':(x==n)=false:=by simpa using e
   rcases List.mem_cons.mp h with h | h
   ·cases h;exact absurd rfl e
   ·obtain⟨c',q⟩:=za2 h
    exact⟨c',by simp[List.lookup_cons,e',q]⟩
theorem zfR{cells:List (Str×Addr)}{names:List (Str×NameKind)}{x:Str}{c:Addr}(h:(zfQ cells names []).lookup x=some c)(hh:∀y∈names,y.2=.free→∃c,cells.lookup y.1=some c):cells.lookup x=some c:=by
 rcases zgi (PySem.mem_of_lookup h) with h | ⟨h,e⟩
 ·cases h
 ·obtain⟨c',q⟩:=hh _ h rfl
  rw[q] at e
  simp at e
  rw[e]
  exact q
theorem zbv{env:Env}:∀{names:List (Str×NameKind)} {x:Str},
  (names.map fun(n,k)=>if (k==NameKind.free&&env.scope.kind==.function&&env.kindOf n==some .cell) then(n,NameKind.cell) else(n,k)).lookup x
   = (names.lookup x).map fun k=>if (k==NameKind.free&&env.scope.kind==.function&&env.kindOf x==some .cell) then NameKind.cell else k
 | [],x=>rfl
 | (n,k)::r,x=>by
  have ih:=@zbv env r x
  rw[List.map_cons]
  have e0:(if (k==NameKind.free&&env.scope.kind==.function&&env.kindOf n==some .cell)=true then(n,NameKind.cell) else(n,k))=(n,if (k==NameKind.free&&env.scope.kind==.function&&env.kindOf n==some .cell)=true then NameKind.cell else k):=by split<;>rfl
  show List.lookup x ((if (k==NameKind.free&&env.scope.kind==.function&&env.kindOf n==some .cell)=true then(n,NameKind.cell) else(n,k))::_)=_
  rw[e0]
  by_cases e:x=n
  ·subst e
   rw[List.lookup_cons,List.lookup_cons,beq_self_eq_true]
   rfl
  ·have e':(x==n)=false:=by simpa using e
   rw[List.lookup_cons,List.lookup_cons,e']
   exact ih
noncomputable abbrev cxC(X:Cx)(N':List Str)(scope:Scope)(s3:Shared)(H3:Hp)(ex:List Addr):Cx:=
 { X with N:=N',s₀:=s3,H₀:=H3,env:=compEnvC scope (zfQ X.env.cells scope.names []) s3.heap.objs.size X.env,outer:=X.stack,stack:=X.stack,ex:=ex,fn:=fun _=>false,pn:=[],xe:=fun _ _=>False }
noncomputable def inn(m:List (Option Nat))(σ:St):St:=m.map fun o=>match o with
 | none=>none
 | some j=>(σ[j]?).join
structure CompScope (X:Cx) (N':List Str) (m:List (Option Nat)) (scope:Scope):Prop where
 kind:scope.kind=.function
 len:m.length=N'.length
 nocell:∀y∈scope.names,y.2≠.cell
 names:∀y∈scope.names,y.2=.local→scope.names.lookup y.1=some .local
 free:∀y∈scope.names,y.2=.free→X.env.kindOf y.1=some .cell∨X.env.kindOf y.1=some .free
 cap:∀(i j:Nat) (x:Str),m[i]?=some (some j)→N'[i]?=some x→X.N[j]?=some x∧scope.names.lookup x=some .free
noncomputable def PTs(X:Cx)(ifs:List Expr)(t:TT):Prop:=
 ∀(pins:List (Addr×Obj)) (s:Shared) (σ:St) (H:Hp) (Q:Bool→Hp→Prop),Inv X pins σ H s→t σ H Q→
  wpAny (model X.prog X.w) X.A (forIn ifs true fun c r=>if r=true then do let ok ←isTrue c X.env (eval c X.env);pure (ForInStep.yield ok) else pure (ForInStep.yield r)) (TP X pins σ Q) X.xe s
noncomputable def zn3:TT:=fun _ H Q=>Q true H
theorem zkJ{X:Cx}:PTs X [] zn3:=fun _ _ σ H _ I h=>wpAny_tests_nil ⟨H,I,h⟩
theorem zkK{X:Cx}{c:Expr}{t:TT}(h:PT X c t):PTs X [c] t:=fun pins s σ H Q I q=>wpAny_tests_one (h pins s σ H Q I q)
section
variable {prog:Program} {w:World} {A:Around} {R:Result→Shared→Prop} {s:Shared}
theorem zfS{elt target iter:Expr}{ifs:List Expr}{scope:Scope}{pos:Pos}{it acc:Value}{env:Env}(I:Nat→Shared→Prop)
  (turn:∀n s,I n s→wpAny (model prog w) A (pyNext it) (fun r s₁=>match r with
   | none=>R (.ok .next) s₁
   | some v=>wpAny (model prog w) A (letOwnedTupleGo target it v) (fun _ s₁'=>wpAny (model prog w) A (assign target env v) (fun _ s₂=>
     wpAny (model prog w) A (forIn ifs true fun c r=>if r=true then do let ok ←isTrue c env (eval c env);pure (ForInStep.yield ok) else pure (ForInStep.yield r)) (fun ok s₃=>
      if ok=true then wpAny (model prog w) A (eval elt env) (fun x s₄=>
       wpAny (model prog w) A (call (.builtin "list.append") [acc,x]) (fun _ s₅=>∃m,m<n∧I m s₅) (fun _ _=>False) s₄) (fun _ _=>False) s₃
      else ∃m,m<n∧I m s₃) (fun _ _=>False) s₂) (fun _ _=>False) s₁') (fun _ _=>False) s₁) (fun _ _=>False) s)
  (n:Nat) (h:I n s) :
  codeAny (model prog w) A (.compLoop (.ListComp elt [⟨target,iter,ifs,0⟩] scope pos) 0 it acc env) R s:=by
 refine codeAny_loop rfl I (fun n s hI=>?_) n h
 show wpAny _ A ((compTurn (.ListComp elt [⟨target,iter,ifs,0⟩] scope pos) 0 it acc env).onRaise (fun x=>do noteFrame x env;theTreesLotGoes x)) _ _ s
 refine wpAny_noted ?_
 rw[compTurn_list]
 have nv:∀{E:Value→Shared→Prop} (x:Value) (s:Shared),(fun(_:Value) (_:Shared)=>False) x s→E x s:=fun _ _ f=>f.elim
 refine wpAny_bind (wpAny_standAt (wpAny_bind (wpAny_mono (turn n s hI) (fun r s₁ h₁=>?_) nv)))
 cases r with
 | none=>exact wpAny_pure h₁
 | some v=>
  refine wpAny_bind (wpAny_mono h₁ (fun _ s₁' h₁'=>?_) nv)
  refine wpAny_bind (wpAny_mono h₁' (fun _ s₂ h₂=>wpAny_bind (wpAny_mono h₂ (fun ok s₃ h₃=>?_) nv)) nv)
  cases ok with
  | false=>exact wpAny_pure ⟨rfl,h₃⟩
  | true=>
   exact wpAny_bind (wpAny_bind (wpAny_mono h₃ (fun x s₄ h₄=>wpAny_bind (wpAny_mono h₄ (fun _ s₅ h₅=>wpAny_pure (wpAny_pure ⟨rfl,h₅⟩)) nv)) nv))
end
end L2
namespace L2
open PySem PySem.Spec PyProof.Rows
noncomputable abbrev TIn(α:Type):=Shared→Hp→List Addr→α
noncomputable def zje(wi:TI)(m:List (Option Nat))(g:TIn TG)(tc:TIn TT)(te:TIn TE):TE:=fun σ H Q=>wi σ H fun J H1=>∀D,H1 D=none→∀s3 ex,
 ∃W:Nat→Nat→St→Hp→Prop,(∃k,W 0 k (inn m σ) (upd H1 D (.lst [])))∧∀i k σ' H',W i k σ' H'→
  (J.stop i H'∧Q (.ref D) H')∨(J.go i H'∧∃N:St→Hp→Prop,(∀σ' H',N σ' H'→∃k',k'<k∧W (i+1) k' σ' H')∧
   ∀x H2,J.yld i H' x H2→g s3 (upd H1 D (.lst [])) ex x σ' H2 fun σ2 H3=>tc s3 (upd H1 D (.lst [])) ex σ2 H3 fun b H4=>
    if b=true then te s3 (upd H1 D (.lst [])) ex σ2 H4 fun v H5=>∃xs,H5 D=some (.lst xs)∧xs.length<sizeLine∧N σ2 (upd H5 D (.lst (xs++[v]))) else N σ2 H4)
section
variable {X:Cx} {elt iter tg:Expr} {ifs:List Expr} {scope:Scope} {pos:Pos} {N':List Str} {m:List (Option Nat)} {wi:TI} {g:TIn TG} {tc:TIn TT} {te:TIn TE}
theorem zjf{pins:List (Addr×Obj)}{σ:St}{H:Hp}{s:Shared}{fp:List Addr}{h₁:Heap}{tk:Nat}(cs:CompScope X N' m scope)(I:Inv X pins σ H s)(f:∀b∈fp,FpOk X pins H b)(fo:∀b∈fp,b<s.heap.objs.size)
  (hns:h₁.Ns s.heap.objs.size (fun x=>(([]:List (Str×Value)).reverse.lookup x))) (hk:∀b o,s.heap.get? b=some o→h₁.get? b=some o) :
  Inv (cxC X N' scope s H fp) [] (inn m σ) H { s with heap:=h₁,toks:=tk }:=by
 have hfree:∀y∈scope.names,y.2=.free→∃c,X.env.cells.lookup y.1=some c:=fun y hy hf=>I.ok.has y.1 (cs.free y hy hf)
 have hcl:∀x c,(zfQ X.env.cells scope.names []).lookup x=some c→X.env.cells.lookup x=some c:=fun x c e=>zfR e hfree
 refine⟨⟨I.ok.mod,cs.kind,I.ok.glob,I.ok.blt,Nat.le_refl _,fun x y c e1 e2=>I.ok.inj x y c (hcl x c e1) (hcl y c e2),fun x hx=>?_,fun x c hx=>(by cases hx),I.ok.hd,I.ok.frames,.inl rfl,fun b hb=>⟨Nat.ne_of_lt (fo b hb),fun x c e=>(f b hb).2.2.2.2.1 x c (hcl x c e)⟩,
  fun b o e=>I.bs b o e,Nat.le_trans I.ok.bsz I.sz,fun b o e hb=>?_,fun b hb z=>?_,I.stack,I.stkFree⟩,
  rfl,I.bare,Un.kept hk,⟨_,hns,fun i x v h1 h2 h3=>?_⟩,fun x c e=>?_,I.hok.fresh (Nat.le_refl _),fun x c e=>I.freeC x c (hcl x c e),fun p hp=>(by cases hp),I.hok.kept hk,?_⟩
 ·have hx':(relabel scope X.env).names.lookup x=some .cell∨(relabel scope X.env).names.lookup x=some .free:=hx
  have e:(relabel scope X.env).names.lookup x=(scope.names.lookup x).map fun k=>if (k==NameKind.free&&X.env.scope.kind==.function&&X.env.kindOf x==some .cell) then NameKind.cell else k:=zbv
  rw[e] at hx'
  have hf:(x,NameKind.free)∈scope.names:=by
   cases q:scope.names.lookup x with
   | none=>rw[q] at hx';simp at hx'
   | some k=>
    rw[q] at hx'
    have hm:=PySem.mem_of_lookup q
    by_cases hk2:k=.free
    ·subst hk2;exact hm
    ·have hk':(k==NameKind.free)=false:=by simpa using hk2
     simp only[hk',Option.map_some,Bool.false_and,Bool.false_eq_true,if_false,Option.some.injEq] at hx'
     rcases hx' with z | z
     ·exact absurd z (cs.nocell _ hm)
     ·exact absurd z hk2
  obtain⟨c,hc⟩:=zen (cells:=X.env.cells) (acc:=[]) hf
  exact za2 hc
 ·rcases(f b hb).2.2.2.1 with z | z
  ·exact I.ok.noex b o e z
  ·exact absurd (Nat.lt_of_lt_of_le (Heap.lt_size (I.ok.bs b o e).1) z) (Nat.lt_irrefl _)
 ·rcases List.mem_cons.mp (I.stkSub b z) with q | q
  ·exact(f b hb).2.1 q
  ·exact(f b hb).2.2.1 q
 ·unfold inn at h2
  rw[List.getElem?_map] at h2
  cases q:m[i]? with
  | none=>rw[q] at h2;cases h2
  | some o=>
   rw[q] at h2
   cases o with
   | none=>cases h2
   | some j=>
    simp only[Option.map_some,Option.some.injEq] at h2
    have h2':σ[j]?=some (some v):=by
     cases z:σ[j]? with
     | none=>rw[z] at h2;cases h2
     | some a=>rw[z] at h2;simp at h2;rw[h2]
    obtain⟨hN,hfr⟩:=cs.cap i j x q h1
    have hfm:=PySem.mem_of_lookup hfr
    obtain⟨m0,hn0,hl⟩:=I.loc
    have hkind:=cs.free _ hfm rfl
    have hvis:Vis X.env.scope x:=hkind.elim (fun z=>.inr (.inl z)) (fun z=>.inr (.inr z))
    obtain⟨u,ru,lu⟩:=hl j x v hN h2' hvis
    refine⟨u,ru,.inr ⟨?_,?_⟩⟩
    ·show(relabel scope X.env).names.lookup x=some .cell∨(relabel scope X.env).names.lookup x=some .free
     have e:(relabel scope X.env).names.lookup x=(scope.names.lookup x).map fun k=>if (k==NameKind.free&&X.env.scope.kind==.function&&X.env.kindOf x==some .cell) then NameKind.cell else k:=zbv
     rw[e,hfr]
     simp only[Option.map_some]
     split
     ·exact .inl rfl
     ·exact .inr rfl
    ·rcases lu with⟨k,_⟩ | ⟨_,c,e,z⟩
     ·rcases hkind with z | z<;>· rw[k] at z;cases z
     ·obtain⟨c',hc'⟩:=za2 (zen (cells:=X.env.cells) (acc:=[]) hfm).choose_spec
      have:=hcl x c' hc'
      rw[e] at this
      cases this
      obtain⟨oc,hoc,hd⟩:=z
      exact⟨c,hc',oc,hk c oc hoc,hd⟩
 ·obtain⟨v,oc,hoc,hd⟩:=I.cell x c (hcl x c e)
  exact⟨v,oc,hk c oc hoc,hd⟩
 ·show(inn m σ).length=N'.length
  unfold inn
  rw[List.length_map,cs.len]
theorem ze1{use:Option (Value→Sem Unit)}{Q':Value→Shared→Prop}{pins:List (Addr×Obj)}{s:Shared}{σ:St}{H:Hp}{Q:VK}
  (hc:X.calm=true) (cs:CompScope X N' m scope) (hi:PI X tg iter wi) (hg:∀s3 H3 ex,PG (cxC X N' scope s3 H3 ex) tg (g s3 H3 ex)) (ht:∀s3 H3 ex,PTs (cxC X N' scope s3 H3 ex) ifs (tc s3 H3 ex))
  (he:∀s3 H3 ex,PE (cxC X N' scope s3 H3 ex) elt (te s3 H3 ex)) (I:Inv X pins σ H s) (h:zje wi m g tc te σ H Q)
  (fin:∀D C s' H',Inv X pins σ H' s'→FpOk X pins H' C→(∃m,s'.heap.Ns C m)→Q (.ref D) H'→compPost (model X.prog X.w) X.A X.xe use Q' (.ref D) C (.ok .next) s') :
  wpAny (model X.prog X.w) X.A (eval iter X.env) (fun x s₁=>wpAny (model X.prog X.w) X.A (pyIter x) (fun it s₂=>wpAny (model X.prog X.w) X.A (newList []) (fun acc s₃=>
   wpAny (model X.prog X.w) X.A (newFunctionEnv scope X.env.globals (zfQ X.env.cells scope.names []) [] X.env.qual none .none (some X.env)) (fun cenv s₄=>
    codeAny (model X.prog X.w) X.A (.compStart (.ListComp elt [⟨tg,iter,ifs,0⟩] scope pos) 0 it acc { cenv with scope:=relabel scope X.env }) (compPost (model X.prog X.w) X.A X.xe use Q' acc cenv.locals) s₄) X.xe s₃) X.xe s₂) X.xe s₁) X.xe s:=by
 refine thn (hi pins s σ H _ I h) fun v s1 h1=>thn h1 fun itv s2 h2=>?_
 obtain⟨it,fp,tn,J,H2,e,I2,T,st2,f2,h⟩:=h2
 subst e
 refine wpAny_newObj_type (wpAny_newFunctionEnv cs.nocell (by intro y hy;simp at hy) (fun h₁ hns₁ hsb₁=>?_) cs.kind)
 have hf:H2 s2.heap.objs.size=none:=I2.hok.fresh (Nat.le_refl _)
 obtain⟨W,⟨k0,w0⟩,turn⟩:=h s2.heap.objs.size hf { s2 with heap:=s2.heap.push { cls:=.type "list",data:=.seq ([]:List Value).toArray } } fp
 have I3:Inv X pins σ (upd H2 s2.heap.objs.size (.lst [])) { s2 with heap:=s2.heap.push { cls:=.type "list",data:=.seq ([]:List Value).toArray } }:=I2.lnew (its:=[]) (t':=s2.toks) .nil (by simp)
 have fpO:∀b∈fp,b<s2.heap.objs.size:=fun b hb=>by
  obtain⟨o,e,_⟩:=T.obj _ _ st2 b hb
  exact Heap.lt_size e
 have f3:∀b∈fp,FpOk X pins (upd H2 s2.heap.objs.size (.lst [])) b:=fun b hb=>⟨by rw[zai (Nat.ne_of_lt (fpO b hb))];exact(f2 b hb).1,(f2 b hb).2⟩
 generalize hs3:({ s2 with heap:=s2.heap.push { cls:=.type "list",data:=.seq ([]:List Value).toArray } }:Shared)=s3 at *
 have hC:s3.heap.objs.size=s2.heap.objs.size+1:=by rw[←hs3];exact Heap.size_push ..
 have fp3:∀b∈fp,b<s3.heap.objs.size:=fun b hb=>by rw[hC];exact Nat.lt_succ_of_lt (fpO b hb)
 have k3:∀b o,s2.heap.get? b=some o→s3.heap.get? b=some o:=fun b o e=>by rw[←hs3];exact Heap.get?_push_of_some _ e
 have k1:∀b o,s3.heap.get? b=some o→h₁.get? b=some o:=fun b o e=>hsb₁.extBut b o (Nat.ne_of_lt (Heap.lt_size e)) (Heap.get?_push_of_some _ e)
 have J0:=zjf (tk:=s3.toks+([]:List (Str×Value)).length) cs I3 f3 fp3 hns₁ k1
 have st1:tn 0 h₁:=T.keep _ _ _ st2 fun b _ o e=>k1 b o (k3 b o e)
 have fpY:∀{H':Hp},(∀b∈fp,H' b=none)→∀b∈fp,FpOk (cxC X N' scope s3 (upd H2 s2.heap.objs.size (.lst [])) fp) [] H' b:=fun hn b hb=>
  ⟨hn b hb,Nat.ne_of_lt (fp3 b hb),J0.ok.exfs b hb,.inl hb,(J0.ok.exf b hb).2,fun p hp=>by cases hp⟩
 have hfr:∀b∈fp,(upd H2 s2.heap.objs.size (.lst [])) b=none:=fun b hb=>(f3 b hb).1
 have loop:codeAny (model X.prog X.w) X.A (.compLoop (.ListComp elt [⟨tg,iter,ifs,0⟩] scope pos) 0 (.ref it) (.ref s2.heap.objs.size) (compEnvC scope (zfQ X.env.cells scope.names []) s3.heap.objs.size X.env))
   (compPost (model X.prog X.w) X.A X.xe use Q' (.ref s2.heap.objs.size) s3.heap.objs.size) { s3 with heap:=h₁,toks:=s3.toks+([]:List (Str×Value)).length }:=by
  refine zfS (fun n s'=>∃i σ' H',Inv (cxC X N' scope s3 (upd H2 s2.heap.objs.size (.lst [])) fp) [] σ' H' s'∧tn i s'.heap∧(∀b∈fp,H' b=none)∧W i n σ' H') ?_ k0 ⟨0,_,_,J0,st1,hfr,w0⟩
  rintro n s4 ⟨i,σ4,H4,I4,st4,fr4,w4⟩
  rcases turn i n σ4 H4 w4 with⟨stop,qn⟩ | ⟨go,N,hN,step⟩
  ·refine thn (T.done (cxC X N' scope s3 (upd H2 s2.heap.objs.size (.lst [])) fp) rfl rfl rfl hc i [] s4 σ4 H4 _ I4 (fpY fr4) st4 stop) fun r s5 ⟨hr,I5⟩=>?_
   subst hr
   have hch:∀b∈fp,(b∈X.ex∨X.s₀.heap.objs.size≤b)∧b≠X.env.locals∧(∀x c,X.env.cells.lookup x=some c→c≠b)∧∀p∈X.pn++pins,p.1≠b:=fun b hb=>⟨(f2 b hb).2.2.2.1,(f2 b hb).2.1,(f2 b hb).2.2.2.2.1,(f2 b hb).2.2.2.2.2⟩
   have I6:Inv X pins σ H4 s5:=I3.call' (ch:=fp) I5.os I5.base I5.hok I5.bare hch
   obtain⟨m5,hn5,_⟩:=id I5.loc
   exact fin _ _ s5 H4 I6 (I3.fpOk (Nat.le_refl _) I5.free) ⟨m5,hn5⟩ qn
  ·refine thn (T.item (cxC X N' scope s3 (upd H2 s2.heap.objs.size (.lst [])) fp) rfl rfl rfl hc i [] s4 σ4 H4 _ I4 (fpY fr4) st4 go) fun r s5 ⟨u,hr,h5⟩=>?_
   subst hr
   refine thn h5 fun _ s6 ⟨x,H6,I6,r6,y6,st6,fr6⟩=>?_
   have I6':=I6.pinned (fpY fr6) (T.obj _ _ st6)
   refine thn (hg _ _ _ _ s6 σ4 H6 x u _ I6' r6 (step x H6 y6)) fun _ s7 ⟨σ7,H7,I7,q7⟩=>?_
   refine thn (ht _ _ _ _ s7 σ7 H7 _ I7 q7) fun b s8 ⟨H8,I8,q8⟩=>?_
   have again:∀{s9:Shared} {σ9:St} {H9:Hp},Inv (cxC X N' scope s3 (upd H2 s2.heap.objs.size (.lst [])) fp) ([]++zeR fp s6.heap) σ9 H9 s9→N σ9 H9→∃m,m<n∧∃i σ' H',Inv (cxC X N' scope s3 (upd H2 s2.heap.objs.size (.lst [])) fp) [] σ' H' s9∧tn i s9.heap∧(∀b∈fp,H' b=none)∧W i m σ' H':=fun{s9 σ9 H9} I9 n9=>by
    obtain⟨m',hm,w9⟩:=hN σ9 H9 n9
    refine⟨m',hm,i+1,σ9,H9,I9.unpinned,T.keep _ _ _ st6 fun b hb o e=>(I9.pin (b,o) (List.mem_append_right _ (List.mem_append_right _ (zbS hb e)))).1,fun b hb=>?_,w9⟩
    obtain⟨o,e,d⟩:=T.obj _ _ st6 b hb
    exact(I9.pin (b,o) (List.mem_append_right _ (List.mem_append_right _ (zbS hb e)))).2.1
   cases b with
   | false=>exact again I8 q8
   | true=>
    rw[if_pos rfl]
    refine thn (he _ _ _ _ s8 σ7 H8 _ I8 q8) fun y s9 ⟨v9,H9,I9,r9,xs,hD,hz,q9⟩=>?_
    refine thn (zhB _ s9 σ7 H9 (.ref s2.heap.objs.size) [v9] (.ref s2.heap.objs.size) [y] (fun _ H'=>N σ7 H') I9 rfl (.cons r9 .nil) ⟨_,xs,v9,rfl,rfl,hD,hz,q9⟩) fun _ s10 ⟨_,H10,I10,_,q10⟩=>?_
    exact again I10 q10
 exact codeAny_compStart_list loop (T.self _ 0 _ _ _ st1 loop)
theorem zkL(hc:X.calm=true)(cs:CompScope X N' m scope)(hi:PI X tg iter wi)(hg:∀s3 H3 ex,PG (cxC X N' scope s3 H3 ex) tg (g s3 H3 ex))(ht:∀s3 H3 ex,PTs (cxC X N' scope s3 H3 ex) ifs (tc s3 H3 ex))
  (he:∀s3 H3 ex,PE (cxC X N' scope s3 H3 ex) elt (te s3 H3 ex)) (hs:∀x,foldedSetIterable iter X.env x=pure x:=by intro _;rfl):PE X (.ListComp elt [⟨tg,iter,ifs,0⟩] scope pos) (zje wi m g tc te):=by
 intro pins s σ H Q I h
 rw[eval_ListComp]
 have hfree:∀y∈scope.names,y.2=.free→∃c,X.env.cells.lookup y.1=some c:=fun y hy hf=>I.ok.has y.1 (cs.free y hy hf)
 refine wpAny_comprehension_free (use:=none) rfl hs (zea hfree) cs.kind cs.names (ze1 hc cs hi hg ht he I h fun D C s' H' I' fC ⟨mC,hn⟩ q=>?_)
 refine⟨mC,hn,fun h' sb=>⟨.ref D,H',I'.turned (t':=s'.toks) (fun b o hb e=>(sb.2 b hb).trans e) fC.1 fC.2.1 fC.2.2.2.1 fC.2.2.2.2.1 fC.2.2.2.2.2,rfl,q⟩⟩
theorem zhG{i:Nat}{x:Str}{pos' posS:Pos}(hN:X.N.Nodup)(hix:X.N[i]?=some x)(hx:Loc X.env.scope x)
  (hc:X.calm=true) (cs:CompScope X N' m scope) (hi:PI X tg iter wi) (hg:∀s3 H3 ex,PG (cxC X N' scope s3 H3 ex) tg (g s3 H3 ex)) (ht:∀s3 H3 ex,PTs (cxC X N' scope s3 H3 ex) ifs (tc s3 H3 ex))
  (he:∀s3 H3 ex,PE (cxC X N' scope s3 H3 ex) elt (te s3 H3 ex)) (hs:∀x,foldedSetIterable iter X.env x=pure x:=by intro _;rfl)
  (hsw:swapsWith (.ListComp elt [⟨tg,iter,ifs,0⟩] scope pos) (some (.Name x pos')) posS.line X.env=pure true:=by rfl)
  (hf:X.fn x=true∨X.env.scope.names.lookup x=some .local:=by first | exact .inl rfl | exact .inr rfl | assumption) :
  PS X (.Assign [.Name x pos'] (.ListComp elt [⟨tg,iter,ifs,0⟩] scope pos) posS) (znb (zje wi m g tc te) (zi1 i)):=by
 intro pins s σ H D I h
 have hfree:∀y∈scope.names,y.2=.free→∃c,X.env.cells.lookup y.1=some c:=fun y hy hf=>I.ok.has y.1 (cs.free y hy hf)
 rw[exec_Assign_Name_used _ _ _ _ hsw]
 refine wpAny_bind (wpAny_standAt (wpAny_bind ?_))
 show wpAny _ _ (do let _ ←comprehension (.ListComp elt [⟨tg,iter,ifs,0⟩] scope pos) scope X.env _ (newList []) false (eval iter X.env) (some (assign (.Name x pos') X.env))) _ _ s
 refine wpAny_bind (wpAny_mono (wpAny_comprehension_free (use:=some (assign (.Name x pos') X.env)) (Q:=fun _ s'=>SP X pins D .next s') rfl hs (zea hfree) cs.kind cs.names (ze1 hc cs hi hg ht he I h fun A C s' H' I' fC ⟨mC,hn⟩ q=>?_)) (fun _ s' hq=>wpAny_pure (wpAny_pure hq)) fun _ _ e=>e)
 show wpAny _ _ (assign (.Name x pos') X.env (.ref A)) _ _ _
 refine wpAny_assign_Name (zeQ I' hN hix hx (show RelV (.ref A) (.ref A) from rfl) (fun s2 I2 hsb=>?_) hf)
 obtain⟨a,sba,ha⟩:=hsb
 have hCa:C≠a:=by
  rcases ha with rfl | ha
  ·exact fC.2.1
  ·exact fun z=>fC.2.2.2.2.1 x a ha z.symm
 refine⟨mC,hn.sameBut sba hCa,fun h' sb=>⟨_,H',I2.turned (t':=s2.toks) (fun b o hb e=>(sb.2 b hb).trans e) fC.1 fC.2.1 fC.2.2.2.1 fC.2.2.2.2.1 fC.2.2.2.2.2,q⟩⟩
end
end L2
namespace L2
open PySem PySem.Spec PyProof.Rows
theorem zj3:2≤sizeLine:=by decide
theorem Inv.turnedS{X:Cx}{pins:List (Addr×Obj)}{σ:St}{H:Hp}{s:Shared}{h':Heap}{t':Nat}{fp:List Addr}(I:Inv X pins σ H s)(k:∀b o,b∉fp→s.heap.get? b=some o→h'.get? b=some o)(f:∀b∈fp,FpOk X pins H b) :
  Inv X pins σ H { s with heap:=h',toks:=t' }:=by
 have nit:∀b u,H b=some u→b∉fp:=fun b u e z=>by rw[(f b z).1] at e;cases e
 refine I.step (g':=s.gens) (d':=s.drawn) (ch:=fp) (fun b hb=>⟨(f b hb).2.2.2.1,(f b hb).2.1,(f b hb).2.2.2.2.1,(f b hb).2.2.2.2.2⟩) (fun b o _ _ hc e _=>k b o hc e) (fun b o _ _ hc e _=>⟨o.slots,k b o hc e⟩) (fun _ _ _ _ n=>n)
  (fun b o hc e=>⟨o,k b o hc e⟩) (fun _ _ e=>e) (fun _ _ _ e=>e) (fun b ps e=>⟨#[],by rw[e];simp⟩) (fun m hm=>?_) (fun b u e=>?_) I.bare
 ·obtain⟨o,es,ep,ho,r⟩:=hm
  exact⟨o,es,ep,k _ o (fun z=>(f _ z).2.1 rfl) ho,r⟩
 ·refine(I.hok b u e).stay (fun c v hc q=>k c v ?_ q) (fun _ q=>q) fun _ _ q=>q
  rcases hc with z | z
  ·rw[z];exact nit b u e
  ·exact nit c _ z
theorem Inv.turnedNew{X:Cx}{pins:List (Addr×Obj)}{σ:St}{H:Hp}{s:Shared}{h':Heap}{t':Nat}{fp:List Addr}{a:Addr}{o:HO}(I:Inv X pins σ H s)(k:∀b o,b∉fp→s.heap.get? b=some o→h'.get? b=some o)(f:∀b∈fp,FpOk X pins H b)
  (hp:s.heap.objs.size≤a) (new:ObjOk X.prog X.w (upd H a o) h' a o):Inv X pins σ (upd H a o) { s with heap:=h',toks:=t' }:=by
 have hfree:H a=none:=I.hok.fresh hp
 have nit:∀b u,H b=some u→b∉fp:=fun b u e z=>by rw[(f b z).1] at e;cases e
 refine I.step (g':=s.gens) (d':=s.drawn) (ch:=fp) (fun b hb=>⟨(f b hb).2.2.2.1,(f b hb).2.1,(f b hb).2.2.2.2.1,(f b hb).2.2.2.2.2⟩) (fun b o _ _ hc e _=>k b o hc e) (fun b o _ _ hc e _=>⟨o.slots,k b o hc e⟩)
  (fun b o _ q n=>by rw[zai (Nat.ne_of_lt (Nat.lt_of_lt_of_le (Heap.lt_size q) hp))];exact n)
  (fun b o hc e=>⟨o,k b o hc e⟩) (fun b zs q=>by rw[zai (zaj q hfree)];exact q) (fun b ob zs q=>by rw[zai (zaj q hfree)];exact q) (fun b ps q=>⟨#[],by rw[zai (zaj q hfree),q];simp⟩) (fun m hm=>?_) (fun b u q=>?_) I.bare
 ·obtain⟨o,es,ep,ho,r⟩:=hm
  exact⟨o,es,ep,k _ o (fun z=>(f _ z).2.1 rfl) ho,r⟩
 ·by_cases hb:b=a
  ·subst hb;rw[zal] at q;cases q;exact new
  ·rw[zai hb] at q
   refine(I.hok b u q).stay (fun c v hc z=>k c v ?_ z) (fun c z=>by rw[zai (zaj z hfree)];exact z) fun c zs z=>by rw[zai (zaj z hfree)];exact z
   rcases hc with rfl | hc
   ·exact nit _ _ q
   ·exact nit _ _ hc
noncomputable def Its(x:Str):It:=⟨fun i _=>i<x.cps.size,fun i H v H'=>H'=H∧∃c,x.cps[i]?=some c∧v=.str ⟨#[c]⟩,fun i _=>i=x.cps.size⟩
theorem zjg{P:Program}{w:World}{K:PySem.W.Frag}{tg:Expr}{x:Str}{it:Addr}{n:String}{t:Tok}(hn:["enumerate","zip","dict_itemiterator","dict_reverseitemiterator","odict_iterator","itertools.zip_longest","itertools.pairwise"].contains n=false)
  (W:∀A':Around,A'.handled=none→Walks P w A' it [it] [it] x.cps.size (SignAt x) (fun i h=>h.IsStrIter it n x t i))
  (hs:∀(A:Around) (i:Nat) (s:Shared) (Q:Value→Shared→Prop) (E:Value→Shared→Prop),s.heap.IsStrIter it n x t i→Q (.ref it) s→wpAny (model P w) A (pyIter (.ref it)) Q E s):Turn P w K tg (Its x) [it] it (fun i h=>h.IsStrIter it n x t i) where
 mem:=by simp
 obj:=fun i h st b hb=>by
  have e:b=it:=by simpa using hb
  subst e
  obtain⟨o,e,c,d⟩:=st
  exact⟨o,e,fun v z=>by rw[d] at z;cases z⟩
 keep:=fun i h h' st k=>by
  obtain⟨o,e,r⟩:=st
  exact⟨o,k it (by simp) o e,r⟩
 item:=by
  intro X hP hw hK hc i pins s σ H E I hf st hg
  subst hP hw hK
  refine(W X.A (I.ok.hd hc)).item i s _ _ hg st fun v h' tk hv st' kk=>?_
  obtain⟨c,u,hx,rfl⟩:=hv
  have I1:Inv X pins σ H { s with heap:=h',toks:=tk }:=I.turnedS kk hf
  obtain⟨o,e,c',d⟩:=id st'
  exact⟨_,rfl,zi3 (s:={ s with heap:=h',toks:=tk }) e c' d hn ⟨.str ⟨#[c]⟩,H,I1,⟨u,rfl⟩,⟨rfl,c,hx,rfl⟩,st',fun b hb=>(hf b hb).1⟩⟩
 done:=by
  intro X hP hw hK hc i pins s σ H E I hf st hg
  subst hP hw hK
  have e:i=x.cps.size:=hg
  subst e
  exact(W X.A (I.ok.hd hc)).done s _ _ st fun h' tk kk=>⟨rfl,I.turnedS kk hf⟩
 self:=hs
section
variable {X:Cx} {tg:Expr}
theorem zl6{pins:List (Addr×Obj)}{σ:St}{H:Hp}{s:Shared}{R:It→Hp→Prop}{E:Value→Shared→Prop}{x:Str}{t:Tok}(I:Inv X pins σ H s)(q:R (Its x) H) :
  wpAny (model X.prog X.w) X.A (pyIter (.str x t)) (PIE X pins σ tg R) E s:=by
 have fin:∀(o:Obj) (n:String),(hn:["enumerate","zip","dict_itemiterator","dict_reverseitemiterator","odict_iterator","itertools.zip_longest","itertools.pairwise"].contains n=false)→
   (W:∀A':Around,A'.handled=none→Walks X.prog X.w A' s.heap.objs.size [s.heap.objs.size] [s.heap.objs.size] x.cps.size (SignAt x) (fun i h=>h.IsStrIter s.heap.objs.size n x t i))→
   (hs:∀(A:Around) (i:Nat) (s':Shared) (Q:Value→Shared→Prop) (E:Value→Shared→Prop),s'.heap.IsStrIter s.heap.objs.size n x t i→Q (.ref s.heap.objs.size) s'→wpAny (model X.prog X.w) A (pyIter (.ref s.heap.objs.size)) Q E s')→
   (s.heap.push o).IsStrIter s.heap.objs.size n x t 0→PIE X pins σ tg R (.ref s.heap.objs.size) { s with heap:=s.heap.push o }:=fun o n hn W hs st=>by
  refine⟨s.heap.objs.size,[s.heap.objs.size],_,_,H,rfl,I.kept (t':=s.toks) fun b o e=>Heap.get?_push_of_some _ e,zjg hn W hs,st,fun b hb=>?_,q⟩
  have e:b=s.heap.objs.size:=by simpa using hb
  subst e
  exact I.fpOk (Nat.le_refl _) (I.hok.fresh (Nat.le_refl _))
 cases ha:x.cps.all (·<128)
 ·exact wpAny_pyIter_wide ha (fin _ _ (by decide) (fun A' hA=>Walks.strWide hA _ x t) (fun _ _ _ _ _ st q=>wpAny_pyIter_striter_wide st q) ⟨_,Heap.get?_push_size _ rfl,rfl,rfl⟩)
 ·exact wpAny_pyIter_ascii ha (fin _ _ (by decide) (fun A' hA=>Walks.strAscii hA _ x t) (fun _ _ _ _ _ st q=>wpAny_pyIter_striter_ascii st q) ⟨_,Heap.get?_push_size _ rfl,rfl,rfl⟩)
noncomputable def zn4(K:PySem.W.Frag)(tl:TE):TI:=fun σ H R=>tl σ H fun x H1=>(∃a,x=.ref a∧(∃xs,SqL K H1 a xs)∧R (Itl K a) H1)∨(∃a,x=.ref a∧(∃xs,SqT K H1 a xs)∧R (Itt K a) H1)∨(∃z,x=.str z∧R (Its z) H1)
theorem zl7{l:Expr}{tl:TE}(hl:PE X l tl):PI X tg l (zn4 X.K tl):=by
 intro pins s σ H R I h
 refine thn (hl pins s σ H _ I h) fun v s1 ⟨x,H1,I1,r1,q1⟩=>?_
 rcases q1 with⟨a,e,⟨xs,hq⟩,q⟩ | ⟨a,e,⟨xs,hq⟩,q⟩ | ⟨z,e,q⟩
 ·subst e
  cases r1
  obtain⟨its,rv,p,hz⟩:=I1.list hq
  refine wpAny_pyIter_list p.isList ?_
  refine⟨s1.heap.objs.size,[s1.heap.objs.size],_,_,H1,rfl,I1.kept (t':=s1.toks) fun b o e=>Heap.get?_push_of_some _ e,zhl a _,⟨_,Heap.get?_push_size _ rfl,rfl,rfl⟩,fun b hb=>?_,q⟩
  have e:b=s1.heap.objs.size:=by simpa using hb
  subst e
  exact I1.fpOk (Nat.le_refl _) (I1.hok.fresh (Nat.le_refl _))
 ·subst e
  cases r1
  obtain⟨its,rv,p,hz⟩:=I1.tuple hq
  refine wpAny_pyIter_tuple (show s1.heap.IsTuple a its.toArray from p) ?_
  refine⟨s1.heap.objs.size,[s1.heap.objs.size],_,_,H1,rfl,I1.kept (t':=s1.toks) fun b o e=>Heap.get?_push_of_some _ e,zgP a _,⟨_,Heap.get?_push_size _ rfl,rfl,rfl⟩,fun b hb=>?_,q⟩
  have e:b=s1.heap.objs.size:=by simpa using hb
  subst e
  exact I1.fpOk (Nat.le_refl _) (I1.hok.fresh (Nat.le_refl _))
 ·subst e
  obtain⟨t,rfl⟩:=r1
  exact zl6 I1 q
end
noncomputable def Ite(K:PySem.W.Frag)(a:Addr):It:=
 ⟨fun i H=>∃xs x,SqL K H a xs∧xs[i]?=some x,fun i H v H'=>∃t,v=.ref t∧H t=none∧∀xs,SqL K H a xs→∃x,xs[i]?=some x∧H'=upd H t (.tup [.int i,x]),fun i H=>∃xs,SqL K H a xs∧xs.length≤i⟩
noncomputable def Itz(K:PySem.W.Frag)(a b:Addr):It:=
 ⟨fun i H=>∃xs ys x y,SqL K H a xs∧SqL K H b ys∧xs[i]?=some x∧ys[i]?=some y,fun i H v H'=>∃t,v=.ref t∧H t=none∧∀xs ys,SqL K H a xs→SqL K H b ys→∃x y,xs[i]?=some x∧ys[i]?=some y∧H'=upd H t (.tup [x,y]),
  fun i H=>∃xs ys,SqL K H a xs∧SqL K H b ys∧(xs.length≤i∨ys.length≤i)⟩
theorem zj4{H:Hp}{t:Addr}{o:HO}{fp:List Addr}(h:∀b∈fp,H b=none)(ht:∀b∈fp,b≠t):∀b∈fp,upd H t o b=none:=fun b hb=>by rw[zai (ht b hb)];exact h b hb
theorem zgX{prog:Program}{w:World}{A:Around}{E:Value→Shared→Prop}{s:Shared}{elts:List Expr}{x1}{pos:Pos}{e it T:Addr}{i:Int}{old:Value}{Q:Unit→Shared→Prop}(he:IsEnumOut s.heap e it i old T)
  (hQ:∀h',IsEnum h' e it i old→Heap.SameBut e s.heap h'→Q () { s with heap:=h' }) :
  wpAny (model prog w) A (letOwnedTupleGo (.Tuple elts x1 pos) (.ref e) (.ref T)) Q E s:=by
 unfold letOwnedTupleGo
 refine wpAny_bind (wpAny_load he ?_)
 show wpAny _ _ (if (["enumerate","zip","dict_itemiterator","dict_reverseitemiterator","odict_iterator","itertools.zip_longest","itertools.pairwise"].contains "enumerate" &&
   (#[rawInt T,.bool false,.ref it,rawInt i,.none,old]:Array Value)[0]?==some (rawInt T))=true then _ else _) Q E s
 rw[if_pos (by simp)]
 refine wpAny_bind (wpAny_rule ?_)
 show wpAny _ _ (setField (.ref e) 0 .none) Q E s
 exact wpAny_setField_rec he (by simp) fun h' hz' hs'=>hQ h' hz' hs'
theorem zhH{P:Program}{w:World}{K:PySem.W.Frag}{elts:List Expr}{x1}{pos:Pos}(a e it:Addr)(hne:e≠it):Turn P w K (.Tuple elts x1 pos) (Ite K a) [e,it] e (fun i h=>(∃old,IsEnum h e it i old)∧h.IsListIter it a i) where
 mem:=by simp
 obj:=fun i h st b hb=>by
  obtain⟨⟨old,h1⟩,o,h2,c,d⟩:=st
  rcases List.mem_cons.mp hb with rfl | hb
  ·exact⟨_,h1,fun v z=>by have z':Data.fields _=Data.cell v:=z;cases z'⟩
  ·have e:b=it:=by simpa using hb
   subst e
   exact⟨o,h2,fun v z=>by rw[d] at z;cases z⟩
 keep:=fun i h h' st k=>by
  obtain⟨⟨old,h1⟩,h2⟩:=st
  exact⟨⟨old,k e (by simp) _ h1⟩,h2.at fun o q=>k it (by simp) o q⟩
 item:=by
  intro X hP hw hK hc i pins s σ H E I hf st hg
  subst hP hw hK
  obtain⟨xs,x,hq,hx⟩:=hg
  obtain⟨its,rv,p,hz⟩:=I.list hq
  obtain⟨u,hu,ru⟩:=rv.get hx
  obtain⟨⟨old,h1⟩,h2⟩:=st
  refine wpAny_pyNext_enum_item h1 h2 p.isList (x:=u) (by simpa using hu) hne fun h' e1 e2 e3 e4 kk=>?_
  refine⟨_,rfl,zgX e1 fun h'' e5 sb=>?_⟩
  have hte:s.heap.objs.size≠e:=Nat.ne_of_gt (Heap.lt_size h1)
  have hti:s.heap.objs.size≠it:=by obtain⟨o,q,_⟩:=h2;exact Nat.ne_of_gt (Heap.lt_size q)
  have hT:h''.get? s.heap.objs.size=some { cls:=.type "tuple",data:=.seq #[.int i s.toks,u] }:=sb.extBut _ _ hte e3
  have hfree:H s.heap.objs.size=none:=I.hok.fresh (Nat.le_refl _)
  have new:ObjOk X.prog X.w (upd H s.heap.objs.size (.tup [.int i,x])) h'' s.heap.objs.size (.tup [.int i,x]):=⟨zj3,[.int i s.toks,u],.cons ⟨_,rfl⟩ (.cons ru .nil),⟨_,hT,rfl,_,rfl⟩⟩
  refine⟨.ref s.heap.objs.size,upd H s.heap.objs.size (.tup [.int i,x]),I.turnedNew (fp:=[e,it]) (fun b o hb q=>sb.extBut b o (fun z=>hb (by simp[z])) (kk b o (fun z=>hb (by simp[z])) (fun z=>hb (by simp[z])) q)) hf (Nat.le_refl _) new,rfl,
   ⟨_,rfl,hfree,fun ys hy=>⟨x,by rw[I.list_inj hy hq];exact hx,rfl⟩⟩,⟨⟨u,e5⟩,e2.extBut sb.extBut (Ne.symm hne)⟩,zj4 (fun b hb=>(hf b hb).1) fun b hb=>?_⟩
  rcases List.mem_cons.mp hb with rfl | hb
  ·exact hte.symm
  ·have z:b=it:=by simpa using hb
   rw[z];exact hti.symm
 done:=by
  intro X hP hw hK hc i pins s σ H E I hf st hg
  subst hP hw hK
  obtain⟨xs,hq,hx⟩:=hg
  obtain⟨its,rv,p,hz⟩:=I.list hq
  obtain⟨⟨old,h1⟩,h2⟩:=st
  have hl:=rv.length
  exact wpAny_pyNext_enum_end (I.ok.hd hc) h1 h2 p.isList (by simp;omega) fun h' eb=>⟨rfl,I.turnedS (fp:=[e,it]) (t':=s.toks) (fun b o hb q=>eb b o (fun z=>hb (by simp[z])) q) hf⟩
 self:=fun _ _ _ _ _ st h=>by
  obtain⟨⟨old,h1⟩,_⟩:=st
  exact wpAny_pyIter_enum h1 h
end L2
namespace L2
open PySem PySem.Spec PyProof.Rows
section
variable {X:Cx} {elts:List Expr} {x1:Nat} {tpos:Pos}
noncomputable def znk(K:PySem.W.Frag)(ta:TA):TI:=fun σ H R=>ta σ H fun vs H1=>∃a xs,vs=[.ref a]∧RdL K H1 a xs∧R (Ite K a) H1
theorem zkM{a:Expr}{ta:TA}{p pos:Pos}(hg:Gl X "enumerate")(hm:X.mg "enumerate"=none)(ha:PA X [a] ta)(hs:starEach [a] X.env=[(false,eval a X.env)]:=by rfl):PI X (.Tuple elts x1 tpos) (.Call (.Name "enumerate" p) [a] [] pos) (znk X.K ta):=by
 intro pins s σ H R I h
 refine Call_ (zdb I hg hm boot_enumerate (PyProof.Rows.callWith_type1 (thn (ha pos pins s σ H _ I h) fun us s1 ⟨vs,H1,I1,r1,q1⟩=>?_) hs rfl))
 obtain⟨l,xs,e,hl,q⟩:=q1
 subst e
 obtain⟨u,rfl,ru⟩:=zbY r1
 cases ru
 obtain⟨z,its,n,r,e⟩:=I1.rdl hl
 refine call_enumerate_1 e fun h' e1 e2 e3 kk=>?_
 refine wpAny_pyIter_enum e1 ?_
 have hne:s1.heap.objs.size+1≠s1.heap.objs.size:=by omega
 refine⟨s1.heap.objs.size+1,[s1.heap.objs.size+1,s1.heap.objs.size],_,_,H1,rfl,I1.kept (t':=s1.toks) kk,zhH l _ _ hne,⟨⟨_,e1⟩,e2⟩,fun b hb=>?_,q⟩
 have hb':s1.heap.objs.size≤b:=by
  rcases List.mem_cons.mp hb with rfl | hb
  ·exact Nat.le_succ _
  ·have e:b=s1.heap.objs.size:=by simpa using hb
   exact Nat.le_of_eq e.symm
 exact I1.fpOk hb' (I1.hok.fresh hb')
theorem zjh{P:Program}{w:World}{K:PySem.W.Frag}(a b z TI TO i1 i2:Addr)(D1:TI≠z∧TO≠z∧i1≠z∧i2≠z∧TI≠TO∧TI≠i1∧TI≠i2∧TO≠i1∧TO≠i2∧i1≠i2):Turn P w K (.Tuple elts x1 tpos) (Itz K a b) [z,TI,TO,i1,i2] z
  (fun i h=>IsZip h z TI TO .none∧IsPair h TI (.ref i1) (.ref i2)∧(∃a b,IsPair h TO a b)∧h.IsListIter i1 a i∧h.IsListIter i2 b i) where
 mem:=by simp
 obj:=fun i h st c hc=>by
  obtain⟨h1,h2,⟨u,v,h3⟩,⟨o1,g1,_,d1⟩,⟨o2,g2,_,d2⟩⟩:=st
  simp only[List.mem_cons,List.not_mem_nil,or_false] at hc
  rcases hc with rfl | rfl | rfl | rfl | rfl
  ·exact⟨_,h1,fun v z=>by have z':Data.fields _=Data.cell v:=z;cases z'⟩
  ·exact⟨_,h2,fun v z=>by have z':Data.seq _ _=Data.cell v:=z;cases z'⟩
  ·exact⟨_,h3,fun v z=>by have z':Data.seq _ _=Data.cell v:=z;cases z'⟩
  ·exact⟨_,g1,fun v z=>by rw[d1] at z;cases z⟩
  ·exact⟨_,g2,fun v z=>by rw[d2] at z;cases z⟩
 keep:=fun i h h' st k=>by
  obtain⟨h1,h2,⟨u,v,h3⟩,h4,h5⟩:=st
  exact⟨k z (by simp) _ h1,k TI (by simp) _ h2,⟨u,v,k TO (by simp) _ h3⟩,h4.at fun o q=>k i1 (by simp) o q,h5.at fun o q=>k i2 (by simp) o q⟩
 item:=by
  intro X hP hw hK hc i pins s σ H E I hf st hg
  subst hP hw hK
  obtain⟨xs,ys,x,y,hq,hq2,hx,hy⟩:=hg
  obtain⟨its,rv,p,hz⟩:=I.list hq
  obtain⟨its2,rv2,p2,hz2⟩:=I.list hq2
  obtain⟨u,hu,ru⟩:=rv.get hx
  obtain⟨v,hv,rw2⟩:=rv2.get hy
  obtain⟨h1,h2,⟨c,d,h3⟩,h4,h5⟩:=st
  obtain⟨d1,d2,d3,d4,d5,d6,d7,d8,d9,d10⟩:=D1
  have lne:∀{l:Addr} {its:List Value},PlainL s.heap l its.toArray→l≠z∧l≠TO∧l≠i1∧l≠i2:=fun{l its} pl=>by
   obtain⟨o,n,e,c1,_,dd⟩:=pl
   obtain⟨o1,g1,c4,_⟩:=h4
   obtain⟨o2,g2,c5,_⟩:=h5
   refine⟨?_,?_,?_,?_⟩
   ·rintro rfl;rw[h1] at e;cases e;simp at c1
   ·rintro rfl;rw[h3] at e;cases e;simp at c1
   ·rintro rfl;rw[g1] at e;cases e;rw[c4] at c1;simp at c1
   ·rintro rfl;rw[g2] at e;cases e;rw[c5] at c1;simp at c1
  obtain⟨e1,e2,e3,e4⟩:=lne p
  obtain⟨f1,f2,f3,f4⟩:=lne p2
  have D:ZipApart z TI TO i1 i2 a b:=⟨d1,d2,d3,d4,d5,d6,d7,d8,d9,d10,e1,e2,e3,e4,f1,f2,f3,f4⟩
  refine wpAny_pyNext_zip_item D h1 h2 h3 h4 h5 p.isList p2.isList (x:=u) (y:=v) (by simpa using hu) (by simpa using hv) fun h' a1 a2 a3 a4 a5 a6 kk=>?_
  refine⟨_,rfl,wpAny_letOwnedTupleGo_zip a1 fun h'' b1 sb=>?_⟩
  have hTz:s.heap.objs.size≠z:=Nat.ne_of_gt (Heap.lt_size h1)
  have hfree:H s.heap.objs.size=none:=I.hok.fresh (Nat.le_refl _)
  have hT:h''.get? s.heap.objs.size=some { cls:=.type "tuple",data:=.seq #[u,v] }:=sb.extBut _ _ hTz a5
  have new:ObjOk X.prog X.w (upd H s.heap.objs.size (.tup [x,y])) h'' s.heap.objs.size (.tup [x,y]):=⟨zj3,[u,v],.cons ru (.cons rw2 .nil),⟨_,hT,rfl,_,rfl⟩⟩
  have lt:∀{c o},s.heap.get? c=some o→c≠s.heap.objs.size:=fun e=>Nat.ne_of_lt (Heap.lt_size e)
  refine⟨.ref s.heap.objs.size,upd H s.heap.objs.size (.tup [x,y]),I.turnedNew (fp:=[z,TI,TO,i1,i2]) (t':=s.toks) (fun c o hc q=>sb.extBut c o (fun e=>hc (by simp[e])) (kk c o (fun e=>hc (by simp[e])) (fun e=>hc (by simp[e])) (fun e=>hc (by simp[e])) (fun e=>hc (by simp[e])) q)) hf (Nat.le_refl _) new,rfl,
   ⟨_,rfl,hfree,fun zs ws h6 h7=>⟨x,y,by rw[I.list_inj h6 hq];exact hx,by rw[I.list_inj h7 hq2];exact hy,rfl⟩⟩,
   ⟨b1,sb.extBut _ _ d1 (kk _ _ d1 d5 d6 d7 h2),⟨_,_,sb.extBut _ _ d2 a2⟩,a3.extBut sb.extBut d3,a4.extBut sb.extBut d4⟩,zj4 (fun b hb=>(hf b hb).1) fun c hc=>?_⟩
  simp only[List.mem_cons,List.not_mem_nil,or_false] at hc
  rcases hc with rfl | rfl | rfl | rfl | rfl
  ·exact lt h1
  ·exact lt h2
  ·exact lt h3
  ·obtain⟨_,g,_⟩:=h4;exact lt g
  ·obtain⟨_,g,_⟩:=h5;exact lt g
 done:=by
  intro X hP hw hK hc i pins s σ H E I hf st hg
  subst hP hw hK
  obtain⟨xs,ys,hq,hq2,hx⟩:=hg
  obtain⟨its,rv,p,hz⟩:=I.list hq
  obtain⟨its2,rv2,p2,hz2⟩:=I.list hq2
  obtain⟨h1,h2,⟨c,d,h3⟩,h4,h5⟩:=st
  obtain⟨d1,d2,d3,d4,d5,d6,d7,d8,d9,d10⟩:=D1
  have lne:∀{l:Addr} {its:List Value},PlainL s.heap l its.toArray→l≠z∧l≠TO∧l≠i1∧l≠i2:=fun{l its} pl=>by
   obtain⟨o,n,e,c1,_,dd⟩:=pl
   obtain⟨o1,g1,c4,_⟩:=h4
   obtain⟨o2,g2,c5,_⟩:=h5
   refine⟨?_,?_,?_,?_⟩
   ·rintro rfl;rw[h1] at e;cases e;simp at c1
   ·rintro rfl;rw[h3] at e;cases e;simp at c1
   ·rintro rfl;rw[g1] at e;cases e;rw[c4] at c1;simp at c1
   ·rintro rfl;rw[g2] at e;cases e;rw[c5] at c1;simp at c1
  obtain⟨e1,e2,e3,e4⟩:=lne p
  obtain⟨f1,f2,f3,f4⟩:=lne p2
  have D:ZipApart z TI TO i1 i2 a b:=⟨d1,d2,d3,d4,d5,d6,d7,d8,d9,d10,e1,e2,e3,e4,f1,f2,f3,f4⟩
  have l1:=rv.length
  have l2:=rv2.length
  have hend:its.toArray[i]?=none∨its2.toArray[i]?=none:=by
   rcases hx with hx | hx
   ·exact .inl (by simp;omega)
   ·exact .inr (by simp;omega)
  exact wpAny_pyNext_zip_end (I.ok.hd hc) D h1 h2 h3 h4 h5 p.isList p2.isList hend fun h' kk=>⟨rfl,I.turnedS (fp:=[z,TI,TO,i1,i2]) (t':=s.toks) (fun c o hc q=>kk c o (fun e=>hc (by simp[e])) (fun e=>hc (by simp[e])) (fun e=>hc (by simp[e])) (fun e=>hc (by simp[e])) q) hf⟩
 self:=fun _ _ _ _ _ st h=>wpAny_pyIter_zip st.1 h
theorem zhI(n:Nat):(n+2:Nat)≠n+4∧(n+3:Nat)≠n+4∧n≠n+4∧(n+1:Nat)≠n+4∧(n+2:Nat)≠n+3∧(n+2:Nat)≠n∧(n+2:Nat)≠n+1∧(n+3:Nat)≠n∧(n+3:Nat)≠n+1∧n≠n+1:=by omega
noncomputable def zn5(K:PySem.W.Frag)(ta:TA):TI:=fun σ H R=>ta σ H fun vs H1=>∃a b,vs=[.ref a,.ref b]∧(∃xs,SqL K H1 a xs)∧(∃ys,SqL K H1 b ys)∧R (Itz K a b) H1
theorem zl8{a b:Expr}{ta:TA}{p pos:Pos}(hg:Gl X "zip")(hm:X.mg "zip"=none)(ha:PA X [a,b] ta)(hs:starEach [a,b] X.env=[(false,eval a X.env),(false,eval b X.env)]:=by rfl)(hs2:starEach [b] X.env=[(false,eval b X.env)]:=by rfl) :
  PI X (.Tuple elts x1 tpos) (.Call (.Name "zip" p) [a,b] [] pos) (zn5 X.K ta):=by
 intro pins s σ H R I h
 refine Call_ (zdb I hg hm boot_zip (PyProof.Rows.callWith_type1 (thn (ha pos pins s σ H _ I h) fun us s1 ⟨vs,H1,I1,r1,q1⟩=>?_) (by rw[hs,hs2]) (by rw[hs2];rfl)))
 obtain⟨l,l',e,⟨xs,hl⟩,⟨ys,hl'⟩,q⟩:=q1
 subst e
 obtain⟨u,v,rfl,ru,rv⟩:=zlQ r1
 cases ru
 cases rv
 obtain⟨its,_,p1,_⟩:=I1.list hl
 obtain⟨its',_,p2,_⟩:=I1.list hl'
 refine call_zip_2 p1.isList p2.isList fun h' e1 e2 e3 e4 e5 e6 kk=>?_
 refine wpAny_pyIter_zip e1 ?_
 refine⟨s1.heap.objs.size+4,[s1.heap.objs.size+4,s1.heap.objs.size+2,s1.heap.objs.size+3,s1.heap.objs.size,s1.heap.objs.size+1],_,_,H1,rfl,I1.kept (t':=s1.toks) kk,zjh l l' _ _ _ _ _ (zhI _),
  ⟨e1,e2,⟨_,_,e3⟩,e4,e5⟩,fun b hb=>?_,q⟩
 have hb':s1.heap.objs.size≤b:=by
  simp only[List.mem_cons,List.not_mem_nil,or_false] at hb
  rcases hb with rfl | rfl | rfl | rfl | rfl<;>first | exact Nat.le_add_right _ _ | exact Nat.le_refl _
 exact I1.fpOk hb' (I1.hok.fresh hb')
end
end L2
namespace L2
open PySem PySem.Spec PyProof.Rows
inductive D where
 | non | bl (b:Bool) | int (i:Int) | str (x:Str) | tup (ds:List D) | lst (ds:List D) | obj (cn:Str) (fs:List (Str×D)) | dic (kvs:List (Key×D)) | dit (kvs:List (List Key×D))
structure ClsAt (K:PySem.W.Frag) (cn:Str) (C:Addr):Prop where
 at_:PySem.W.nsIn K mainGlobals cn=some (some (.ref C))
 cls:Cls K C
noncomputable def KeyIn(H:Hp):List (List Key×V)→List Addr→Prop
 | [],[]=>True
 | p::ps,b::bs=>H b=some (.tup (p.1.map kV))∧KeyIn H ps bs
 | _,_=>False
theorem KeyIn.mono{H H':Hp}(e:Same H H'):∀{ps:List (List Key×V)} {bs:List Addr},KeyIn H ps bs→KeyIn H' ps bs
 | [],[],h=>h
 | p::ps,b::bs,h=>⟨e _ _ h.1,KeyIn.mono e h.2⟩
 | [],_::_,h=>h.elim
 | _::_,[],h=>h.elim
mutual
noncomputable def Rep(K:PySem.W.Frag)(H:Hp):V→D→Prop
 | v,.non=>v=.non
 | v,.bl b=>v=.bl b
 | v,.int i=>v=.int i
 | v,.str x=>v=.str x
 | v,.tup ds=>∃a xs,v=.ref a∧SqT K H a xs∧Reps K H xs ds
 | v,.lst ds=>∃a xs,v=.ref a∧RdL K H a xs∧Reps K H xs ds
 | v,.obj cn fs=>∃a C dx gs,v=.ref a∧H a=some (.ins C dx gs)∧ClsAt K cn C∧(∀p∈fs,NoAttr K C p.1)∧RepF K H gs fs
 | v,.dic kvs=>∃a ks ep,v=.ref a∧H a=some (.dK ks ep)∧RepK K H ks kvs
 | v,.dit kvs=>∃a ks bs,v=.ref a∧H a=some (.dT ks bs)∧KeyIn H ks bs∧RepT K H ks kvs
noncomputable def Reps(K:PySem.W.Frag)(H:Hp):List V→List D→Prop
 | [],[]=>True
 | v::vs,d::ds=>Rep K H v d∧Reps K H vs ds
 | _,_=>False
noncomputable def RepF(K:PySem.W.Frag)(H:Hp):List (Str×V)→List (Str×D)→Prop
 | [],[]=>True
 | v::vs,d::ds=>(v.1=d.1∧Rep K H v.2 d.2)∧RepF K H vs ds
 | _,_=>False
noncomputable def RepK(K:PySem.W.Frag)(H:Hp):List (Key×V)→List (Key×D)→Prop
 | [],[]=>True
 | v::vs,d::ds=>(v.1=d.1∧Rep K H v.2 d.2)∧RepK K H vs ds
 | _,_=>False
noncomputable def RepT(K:PySem.W.Frag)(H:Hp):List (List Key×V)→List (List Key×D)→Prop
 | [],[]=>True
 | v::vs,d::ds=>(v.1=d.1∧Rep K H v.2 d.2)∧RepT K H vs ds
 | _,_=>False
end
theorem Same.seqT{K:PySem.W.Frag}{H H':Hp}{a:Addr}{xs:List V}(e:Same H H')(h:SqT K H a xs):SqT K H' a xs:=by
 rcases h with(h | ⟨o,h⟩) | h
 ·exact .inl (.inl (e _ _ h))
 ·exact .inl (.inr ⟨o,e _ _ h⟩)
 ·exact .inr h
mutual
theorem Rep.mono{K:PySem.W.Frag}{H H':Hp}(e:Same H H'):∀(v:V) (d:D),Rep K H v d→Rep K H' v d
 | v,.non,h=>by simpa only[Rep] using h
 | v,.bl b,h=>by simpa only[Rep] using h
 | v,.int i,h=>by simpa only[Rep] using h
 | v,.str x,h=>by simpa only[Rep] using h
 | v,.tup ds,h=>by
  simp only[Rep] at h ⊢
  obtain⟨a,xs,h1,h2,h3⟩:=h
  exact⟨a,xs,h1,e.seqT h2,Reps.mono e xs ds h3⟩
 | v,.lst ds,h=>by
  simp only[Rep] at h ⊢
  obtain⟨a,xs,h1,h2,h3⟩:=h
  exact⟨a,xs,h1,e.rdl h2,Reps.mono e xs ds h3⟩
 | v,.obj cn fs,h=>by
  simp only[Rep] at h ⊢
  obtain⟨a,C,dx,gs,h1,h2,h3,h4,h5⟩:=h
  exact⟨a,C,dx,gs,h1,e _ _ h2,h3,h4,RepF.mono e gs fs h5⟩
 | v,.dic kvs,h=>by
  simp only[Rep] at h ⊢
  obtain⟨a,ks,ep,h1,h2,h3⟩:=h
  exact⟨a,ks,ep,h1,e _ _ h2,RepK.mono e ks kvs h3⟩
 | v,.dit kvs,h=>by
  simp only[Rep] at h ⊢
  obtain⟨a,ks,bs,h1,h2,h3,h4⟩:=h
  exact⟨a,ks,bs,h1,e _ _ h2,h3.mono e,RepT.mono e ks kvs h4⟩
theorem Reps.mono{K:PySem.W.Frag}{H H':Hp}(e:Same H H'):∀(vs:List V) (ds:List D),Reps K H vs ds→Reps K H' vs ds
 | [],[],h=>by simp only[Reps]
 | v::vs,d::ds,h=>by
  simp only[Reps] at h ⊢
  exact⟨Rep.mono e v d h.1,Reps.mono e vs ds h.2⟩
 | [],_::_,h=>by simp only[Reps] at h
 | _::_,[],h=>by simp only[Reps] at h
theorem RepF.mono{K:PySem.W.Frag}{H H':Hp}(e:Same H H'):∀(vs:List (Str×V)) (ds:List (Str×D)),RepF K H vs ds→RepF K H' vs ds
 | [],[],h=>by simp only[RepF]
 | (x,v)::vs,(y,d)::ds,h=>by
  simp only[RepF] at h ⊢
  exact⟨⟨h.1.1,Rep.mono e v d h.1.2⟩,RepF.mono e vs ds h.2⟩
 | [],_::_,h=>by simp only[RepF] at h
 | _::_,[],h=>by simp only[RepF] at h
theorem RepK.mono{K:PySem.W.Frag}{H H':Hp}(e:Same H H'):∀(vs:List (Key×V)) (ds:List (Key×D)),RepK K H vs ds→RepK K H' vs ds
 | [],[],h=>by simp only[RepK]
 | (x,v)::vs,(y,d)::ds,h=>by
  simp only[RepK] at h ⊢
  exact⟨⟨h.1.1,Rep.mono e v d h.1.2⟩,RepK.mono e vs ds h.2⟩
 | [],_::_,h=>by simp only[RepK] at h
 | _::_,[],h=>by simp only[RepK] at h
theorem RepT.mono{K:PySem.W.Frag}{H H':Hp}(e:Same H H'):∀(vs:List (List Key×V)) (ds:List (List Key×D)),RepT K H vs ds→RepT K H' vs ds
 | [],[],h=>by simp only[RepT]
 | (x,v)::vs,(y,d)::ds,h=>by
  simp only[RepT] at h ⊢
  exact⟨⟨h.1.1,Rep.mono e v d h.1.2⟩,RepT.mono e vs ds h.2⟩
 | [],_::_,h=>by simp only[RepT] at h
 | _::_,[],h=>by simp only[RepT] at h
end
section
variable {K:PySem.W.Frag} {H H':Hp}
theorem Reps.length:∀{vs:List V} {ds:List D},Reps K H vs ds→vs.length=ds.length
 | [],[],_=>rfl
 | v::vs,d::ds,h=>by
  simp only[Reps] at h
  simp only[List.length_cons,Reps.length h.2]
 | [],_::_,h=>by simp only[Reps] at h
 | _::_,[],h=>by simp only[Reps] at h
theorem Reps.get:∀{vs:List V} {ds:List D} {i:Nat} {d:D},Reps K H vs ds→ds[i]?=some d→∃v,vs[i]?=some v∧Rep K H v d
 | [],[],i,d,_,e=>by simp at e
 | v::vs,d'::ds,0,d,h,e=>by
  simp only[Reps] at h
  simp only[List.getElem?_cons_zero,Option.some.injEq] at e
  subst e
  exact⟨v,rfl,h.1⟩
 | v::vs,d'::ds,i+1,d,h,e=>by
  simp only[Reps] at h
  simp only[List.getElem?_cons_succ] at e ⊢
  exact Reps.get h.2 e
 | [],_::_,_,_,h,_=>by simp only[Reps] at h
 | _::_,[],_,_,h,_=>by simp only[Reps] at h
theorem Reps.getV:∀{vs:List V} {ds:List D} {i:Nat} {v:V},Reps K H vs ds→vs[i]?=some v→∃d,ds[i]?=some d∧Rep K H v d
 | [],[],i,d,_,e=>by simp at e
 | v'::vs,d::ds,0,v,h,e=>by
  simp only[Reps] at h
  simp only[List.getElem?_cons_zero,Option.some.injEq] at e
  subst e
  exact⟨d,rfl,h.1⟩
 | v'::vs,d::ds,i+1,v,h,e=>by
  simp only[Reps] at h
  simp only[List.getElem?_cons_succ] at e ⊢
  exact Reps.getV h.2 e
 | [],_::_,_,_,h,_=>by simp only[Reps] at h
 | _::_,[],_,_,h,_=>by simp only[Reps] at h
theorem Reps.nil:Reps K H [] []:=by simp only[Reps]
theorem Reps.cons{v:V}{vs:List V}{d:D}{ds:List D}(h:Rep K H v d)(hs:Reps K H vs ds):Reps K H (v::vs) (d::ds):=by simp only[Reps];exact⟨h,hs⟩
theorem Reps.append:∀{vs:List V} {ds:List D} {us:List V} {es:List D},Reps K H vs ds→Reps K H us es→Reps K H (vs++us) (ds++es)
 | [],[],_,_,_,h=>h
 | v::vs,d::ds,_,_,h,h'=>by
  simp only[Reps] at h
  exact Reps.cons h.1 (Reps.append h.2 h')
 | [],_::_,_,_,h,_=>by simp only[Reps] at h
 | _::_,[],_,_,h,_=>by simp only[Reps] at h
theorem Reps.take:∀{vs:List V} {ds:List D} (n:Nat),Reps K H vs ds→Reps K H (vs.take n) (ds.take n)
 | _,_,0,_=>Reps.nil
 | [],[],_+1,_=>Reps.nil
 | v::vs,d::ds,n+1,h=>by
  simp only[Reps] at h
  exact Reps.cons h.1 (Reps.take n h.2)
 | [],_::_,_+1,h=>by simp only[Reps] at h
 | _::_,[],_+1,h=>by simp only[Reps] at h
theorem Reps.drop:∀{vs:List V} {ds:List D} (n:Nat),Reps K H vs ds→Reps K H (vs.drop n) (ds.drop n)
 | _,_,0,h=>h
 | [],[],_+1,_=>Reps.nil
 | v::vs,d::ds,n+1,h=>by
  simp only[Reps] at h
  exact Reps.drop n h.2
 | [],_::_,_+1,h=>by simp only[Reps] at h
 | _::_,[],_+1,h=>by simp only[Reps] at h
end
structure Ext (G H G' H':Hp):Prop where
 g:Same G G'
 h:Same H H'
 s:Same G' H'
 n:∀p,G p=none→H p≠none→G' p=none
theorem Ext.refl{G H:Hp}(s:Same G H):Ext G H G H:=⟨Same.refl _,Same.refl _,s,fun _ h _=>h⟩
theorem Ext.trans{G H G1 H1 G2 H2:Hp}(a:Ext G H G1 H1)(b:Ext G1 H1 G2 H2):Ext G H G2 H2:=
 ⟨a.g.trans b.g,a.h.trans b.h,b.s,fun p h1 h2=>b.n p (a.n p h1 h2) fun z=>h2 (a.h.free z)⟩
theorem zbu{H:Hp}{p:Addr}{o:HO}(h:H p=none):Same H (upd H p o):=fun b u e=>by rw[zai (zaj e h)];exact e
theorem zhJ{G H:Hp}{p:Addr}{o:HO}(s:Same G H):Same (upd G p o) (upd H p o):=fun b u e=>by
 by_cases hb:b=p
 ·subst hb;rw[zal] at e ⊢;exact e
 ·rw[zai hb] at e ⊢;exact s b u e
theorem Ext.new{G H:Hp}{p:Addr}{o:HO}(s:Same G H)(h:H p=none):Ext G H (upd G p o) (upd H p o):=
 ⟨zbu (s.free h),zbu h,zhJ s,fun q h1 h2=>by rw[zai (fun z=>h2 (by rw[z];exact h))];exact h1⟩
theorem Ext.own{G H:Hp}{p:Addr}{o:HO}(s:Same G H)(h:H p=none):Ext G H G (upd H p o):=
 ⟨Same.refl _,zbu h,s.trans (zbu h),fun q h1 _=>h1⟩
inductive OV where
 | ll (dss:List (List D))
 | dc (kvs:List (Key×D))
 | dl (kvs:List (Key×List D))
 | tl (d:D) (ds:List D)
 | ld (ess:List (List (Key×D)))
 | dt (kvs:List (List Key×List D))
 | tp (ds:List D)
 | ob (cn:Str) (fs:List (Str×List D))
noncomputable def OV.val:OV→D
 | .ll dss=>.lst (dss.map .lst)
 | .dc kvs=>.dic kvs
 | .dl kvs=>.dic (kvs.map fun p=>(p.1,.lst p.2))
 | .tl d ds=>.tup [d,.lst ds]
 | .ld ess=>.lst (ess.map .dic)
 | .dt kvs=>.dit (kvs.map fun p=>(p.1,.lst p.2))
 | .tp ds=>.tup ds
 | .ob cn fs=>.obj cn (fs.map fun p=>(p.1,.lst p.2))
inductive R where
 | fz (d:D)
 | ow (ds:List D)
 | ov (o:OV)
noncomputable def R.val:R→D
 | .fz d=>d
 | .ow ds=>.lst ds
 | .ov o=>o.val
inductive Sl where
 | un
 | fz (d:D)
 | ow (ds:List D)
 | ov (o:OV)
noncomputable def R.sl:R→Sl
 | .fz d=>.fz d
 | .ow ds=>.ow ds
 | .ov o=>.ov o
noncomputable def RepL(K:PySem.W.Frag)(G H:Hp):List Addr→List (List D)→Prop
 | [],[]=>True
 | q::qs,ds::dss=>(∃xs,H q=some (.lst xs)∧Reps K G xs ds)∧RepL K G H qs dss
 | _,_=>False
theorem RepL.mono{K:PySem.W.Frag}{G H G' H':Hp}(g:Same G G'):∀{qs:List Addr} {dss:List (List D)},(∀q∈qs,∀xs,H q=some (.lst xs)→H' q=some (.lst xs))→RepL K G H qs dss→RepL K G' H' qs dss
 | [],[],_,_=>by simp only[RepL]
 | q::qs,ds::dss,hh,h=>by
  simp only[RepL] at h ⊢
  obtain⟨⟨xs,h1,h2⟩,h3⟩:=h
  exact⟨⟨xs,hh q (by simp) xs h1,h2.mono g⟩,RepL.mono g (fun r hr=>hh r (by simp[hr])) h3⟩
 | [],_::_,_,h=>by simp only[RepL] at h
 | _::_,[],_,h=>by simp only[RepL] at h
theorem RepL.here{K:PySem.W.Frag}{G H:Hp}:∀{qs:List Addr} {dss:List (List D)},RepL K G H qs dss→∀q∈qs,H q≠none
 | [],[],_,q,hq=>by cases hq
 | q::qs,ds::dss,h,r,hr=>by
  simp only[RepL] at h
  obtain⟨⟨xs,h1,h2⟩,h3⟩:=h
  rcases List.mem_cons.mp hr with rfl | hr
  ·rw[h1];exact nofun
  ·exact RepL.here h3 r hr
 | [],_::_,h,_,_=>by simp only[RepL] at h
 | _::_,[],h,_,_=>by simp only[RepL] at h
theorem RepL.reps{K:PySem.W.Frag}{G H G':Hp}(g:Same G G'):∀{qs:List Addr} {dss:List (List D)},(∀q∈qs,∀xs,H q=some (.lst xs)→G' q=some (.lst xs))→RepL K G H qs dss→Reps K G' (qs.map V.ref) (dss.map D.lst)
 | [],[],_,_=>Reps.nil
 | q::qs,ds::dss,hh,h=>by
  simp only[RepL] at h
  obtain⟨⟨xs,h1,h2⟩,h3⟩:=h
  refine Reps.cons ?_ (RepL.reps g (fun r hr=>hh r (by simp[hr])) h3)
  simp only[Rep]
  exact⟨q,xs,rfl,RdL.of (hh q (by simp) xs h1),h2.mono g⟩
 | [],_::_,_,h=>by simp only[RepL] at h
 | _::_,[],_,h=>by simp only[RepL] at h
noncomputable def RepE(K:PySem.W.Frag)(G H:Hp):List Addr→List (List (Key×D))→Prop
 | [],[]=>True
 | q::qs,ds::dss=>(∃ks ep,H q=some (.dK ks ep)∧RepK K G ks ds)∧RepE K G H qs dss
 | _,_=>False
theorem RepE.mono{K:PySem.W.Frag}{G H G' H':Hp}(g:Same G G'):∀{qs:List Addr} {dss:List (List (Key×D))},(∀q∈qs,∀u,H q=some u→H' q=some u)→RepE K G H qs dss→RepE K G' H' qs dss
 | [],[],_,_=>by simp only[RepE]
 | q::qs,ds::dss,hh,h=>by
  simp only[RepE] at h ⊢
  obtain⟨⟨ks,ep,h1,h2⟩,h3⟩:=h
  exact⟨⟨ks,ep,hh q (by simp) _ h1,RepK.mono g _ _ h2⟩,RepE.mono g (fun r hr=>hh r (by simp[hr])) h3⟩
 | [],_::_,_,h=>by simp only[RepE] at h
 | _::_,[],_,h=>by simp only[RepE] at h
theorem RepE.kind{K:PySem.W.Frag}{G H:Hp}:∀{qs:List Addr} {dss:List (List (Key×D))},RepE K G H qs dss→∀q∈qs,∃ks ep,H q=some (.dK ks ep)
 | [],[],_,q,hq=>by cases hq
 | q::qs,ds::dss,h,r,hr=>by
  simp only[RepE] at h
  obtain⟨⟨ks,ep,h1,h2⟩,h3⟩:=h
  rcases List.mem_cons.mp hr with rfl | hr
  ·exact⟨ks,ep,h1⟩
  ·exact RepE.kind h3 r hr
 | [],_::_,h,_,_=>by simp only[RepE] at h
 | _::_,[],h,_,_=>by simp only[RepE] at h
theorem RepE.here{K:PySem.W.Frag}{G H:Hp}{qs:List Addr}{dss:List (List (Key×D))}(h:RepE K G H qs dss):∀q∈qs,H q≠none:=fun q hq=>by
 obtain⟨ks,ep,e⟩:=h.kind q hq
 rw[e];exact nofun
theorem RepE.reps{K:PySem.W.Frag}{G H G':Hp}(g:Same G G'):∀{qs:List Addr} {dss:List (List (Key×D))},(∀q∈qs,∀u,H q=some u→G' q=some u)→RepE K G H qs dss→Reps K G' (qs.map V.ref) (dss.map D.dic)
 | [],[],_,_=>Reps.nil
 | q::qs,ds::dss,hh,h=>by
  simp only[RepE] at h
  obtain⟨⟨ks,ep,h1,h2⟩,h3⟩:=h
  refine Reps.cons ?_ (RepE.reps g (fun r hr=>hh r (by simp[hr])) h3)
  simp only[Rep]
  exact⟨q,ks,ep,rfl,hh q (by simp) _ h1,RepK.mono g _ _ h2⟩
 | [],_::_,_,h=>by simp only[RepE] at h
 | _::_,[],_,h=>by simp only[RepE] at h
noncomputable def Owns(K:PySem.W.Frag)(G H:Hp)(p:Addr)(fp:List Addr):OV→Prop
 | .ll dss=>H p=some (.lst (fp.map V.ref))∧RepL K G H fp dss
 | .dc kvs=>fp=[]∧∃ks ep,H p=some (.dK ks ep)∧RepK K G ks kvs
 | .dl kvs=>∃ks ep,H p=some (.dK ks ep)∧ks.map (·.1)=kvs.map (·.1)∧ks.map (·.2)=fp.map V.ref∧RepL K G H fp (kvs.map (·.2))
 | .tl d ds=>∃q v xs,fp=[q]∧H p=some (.tup [v,.ref q])∧Rep K G v d∧H q=some (.lst xs)∧Reps K G xs ds
 | .ld ess=>H p=some (.lst (fp.map V.ref))∧RepE K G H fp ess
 | .dt kvs=>∃ks bs,H p=some (.dT ks bs)∧KeyIn G ks bs∧ks.map (·.1)=kvs.map (·.1)∧ks.map (·.2)=fp.map V.ref∧RepL K G H fp (kvs.map (·.2))
 | .tp ds=>fp=[]∧∃xs,H p=some (.tup xs)∧Reps K G xs ds
 | .ob cn fs=>∃C dx gs,H p=some (.ins C dx gs)∧ClsAt K cn C∧(∀p∈fs,NoAttr K C p.1)∧gs.map (·.1)=fs.map (·.1)∧gs.map (·.2)=fp.map V.ref∧RepL K G H fp (fs.map (·.2))
theorem Owns.here{K:PySem.W.Frag}{G H:Hp}{p:Addr}{fp:List Addr}{o:OV}(h:Owns K G H p fp o):∀q∈p::fp,H q≠none:=by
 intro q hq
 cases o with
 | ll dss=>
  rcases List.mem_cons.mp hq with rfl | hq
  ·rw[h.1];exact nofun
  ·exact h.2.here q hq
 | dc kvs=>
  obtain⟨rfl,ks,ep,h1,_⟩:=h
  simp only[List.mem_singleton] at hq
  subst hq
  rw[h1];exact nofun
 | dl kvs=>
  obtain⟨ks,ep,h1,_,_,h4⟩:=h
  rcases List.mem_cons.mp hq with rfl | hq
  ·rw[h1];exact nofun
  ·exact h4.here q hq
 | tl d ds=>
  obtain⟨r,v,xs,rfl,h1,_,h2,_⟩:=h
  simp only[List.mem_cons,List.not_mem_nil,or_false] at hq
  rcases hq with rfl | rfl
  ·rw[h1];exact nofun
  ·rw[h2];exact nofun
 | ld ess=>
  rcases List.mem_cons.mp hq with rfl | hq
  ·rw[h.1];exact nofun
  ·exact h.2.here q hq
 | dt kvs=>
  obtain⟨ks,bs,h1,_,_,_,h4⟩:=h
  rcases List.mem_cons.mp hq with rfl | hq
  ·rw[h1];exact nofun
  ·exact h4.here q hq
 | tp ds=>
  obtain⟨rfl,xs,h1,_⟩:=h
  simp only[List.mem_singleton] at hq
  subst hq
  rw[h1];exact nofun
 | ob cn fs=>
  obtain⟨C,dx,gs,h1,_,_,_,_,h4⟩:=h
  rcases List.mem_cons.mp hq with rfl | hq
  ·rw[h1];exact nofun
  ·exact h4.here q hq
theorem Owns.mono{K:PySem.W.Frag}{G H G' H':Hp}{p:Addr}{fp:List Addr}{o:OV}(g:Same G G')(hh:∀q∈p::fp,∀u,H q=some u→H' q=some u)(h:Owns K G H p fp o):Owns K G' H' p fp o:=by
 cases o with
 | ll dss=>exact⟨hh p (by simp) _ h.1,h.2.mono g fun q hq xs=>hh q (by simp[hq]) _⟩
 | dc kvs=>
  obtain⟨rfl,ks,ep,h1,h2⟩:=h
  exact⟨rfl,ks,ep,hh p (by simp) _ h1,RepK.mono g _ _ h2⟩
 | dl kvs=>
  obtain⟨ks,ep,h1,h2,h3,h4⟩:=h
  exact⟨ks,ep,hh p (by simp) _ h1,h2,h3,h4.mono g fun q hq xs=>hh q (by simp[hq]) _⟩
 | tl d ds=>
  obtain⟨r,v,xs,rfl,h1,h2,h3,h4⟩:=h
  exact⟨r,v,xs,rfl,hh p (by simp) _ h1,h2.mono g,hh r (by simp) _ h3,h4.mono g⟩
 | ld ess=>exact⟨hh p (by simp) _ h.1,h.2.mono g fun q hq=>hh q (by simp[hq])⟩
 | dt kvs=>
  obtain⟨ks,bs,h1,hk,h2,h3,h4⟩:=h
  exact⟨ks,bs,hh p (by simp) _ h1,hk.mono g,h2,h3,h4.mono g fun q hq xs=>hh q (by simp[hq]) _⟩
 | tp ds=>
  obtain⟨rfl,xs,h1,h2⟩:=h
  exact⟨rfl,xs,hh p (by simp) _ h1,h2.mono g⟩
 | ob cn fs=>
  obtain⟨C,dx,gs,h1,hc,hn,h2,h3,h4⟩:=h
  exact⟨C,dx,gs,hh p (by simp) _ h1,hc,hn,h2,h3,h4.mono g fun q hq xs=>hh q (by simp[hq]) _⟩
theorem RepK.of_lists{K:PySem.W.Frag}{G:Hp}:∀{ks:List (Key×V)} {kvs:List (Key×List D)} {fp:List Addr},ks.map (·.1)=kvs.map (·.1)→ks.map (·.2)=fp.map V.ref→Reps K G (fp.map V.ref) ((kvs.map (·.2)).map D.lst)→RepK K G ks (kvs.map fun p=>(p.1,.lst p.2))
 | [],[],_,_,_,_=>by simp only[List.map_nil,RepK]
 | a::ks,b::kvs,fp,h1,h2,h3=>by
  simp only[List.map_cons,List.cons.injEq] at h1
  cases fp with
  | nil=>simp at h2
  | cons q fp=>
   simp only[List.map_cons,List.cons.injEq] at h2
   simp only[List.map_cons,Reps] at h3
   simp only[List.map_cons,RepK]
   exact⟨⟨h1.1,by rw[h2.1];exact h3.1⟩,RepK.of_lists h1.2 h2.2 h3.2⟩
 | [],_::_,_,h,_,_=>by simp at h
 | _::_,[],_,h,_,_=>by simp at h
theorem RepT.of_lists{K:PySem.W.Frag}{G:Hp}:∀{ks:List (List Key×V)} {kvs:List (List Key×List D)} {fp:List Addr},ks.map (·.1)=kvs.map (·.1)→ks.map (·.2)=fp.map V.ref→Reps K G (fp.map V.ref) ((kvs.map (·.2)).map D.lst)→RepT K G ks (kvs.map fun p=>(p.1,.lst p.2))
 | [],[],_,_,_,_=>by simp only[List.map_nil,RepT]
 | a::ks,b::kvs,fp,h1,h2,h3=>by
  simp only[List.map_cons,List.cons.injEq] at h1
  cases fp with
  | nil=>simp at h2
  | cons q fp=>
   simp only[List.map_cons,List.cons.injEq] at h2
   simp only[List.map_cons,Reps] at h3
   simp only[List.map_cons,RepT]
   exact⟨⟨h1.1,by rw[h2.1];exact h3.1⟩,RepT.of_lists h1.2 h2.2 h3.2⟩
 | [],_::_,_,h,_,_=>by simp at h
 | _::_,[],_,h,_,_=>by simp at h
theorem RepF.of_lists{K:PySem.W.Frag}{G:Hp}:∀{ks:List (Str×V)} {kvs:List (Str×List D)} {fp:List Addr},ks.map (·.1)=kvs.map (·.1)→ks.map (·.2)=fp.map V.ref→Reps K G (fp.map V.ref) ((kvs.map (·.2)).map D.lst)→RepF K G ks (kvs.map fun p=>(p.1,.lst p.2))
 | [],[],_,_,_,_=>by simp only[List.map_nil,RepF]
 | a::ks,b::kvs,fp,h1,h2,h3=>by
  simp only[List.map_cons,List.cons.injEq] at h1
  cases fp with
  | nil=>simp at h2
  | cons q fp=>
   simp only[List.map_cons,List.cons.injEq] at h2
   simp only[List.map_cons,Reps] at h3
   simp only[List.map_cons,RepF]
   exact⟨⟨h1.1,by rw[h2.1];exact h3.1⟩,RepF.of_lists h1.2 h2.2 h3.2⟩
 | [],_::_,_,h,_,_=>by simp at h
 | _::_,[],_,h,_,_=>by simp at h
noncomputable def zgY(G H:Hp)(l:List Addr):Hp:=fun a=>if a∈l then H a else G a
theorem zbw{G H:Hp}{l:List Addr}{a:Addr}(h:a∈l):zgY G H l a=H a:=if_pos h
theorem za3{G H:Hp}{l:List Addr}{a:Addr}(h:a∉l):zgY G H l a=G a:=if_neg h
theorem zch{G H:Hp}{l:List Addr}(h:∀q∈l,G q=none):Same G (zgY G H l):=fun b u e=>by
 rw[za3 (fun z=>by rw[h b z] at e;cases e)];exact e
theorem Owns.freeze{K:PySem.W.Frag}{G H:Hp}{p:Addr}{fp:List Addr}{o:OV}(h:Owns K G H p fp o)(hn:∀q∈p::fp,G q=none):Rep K (zgY G H (p::fp)) (.ref p) o.val:=by
 have hs:=zch (H:=H) hn
 have hp:zgY G H (p::fp) p=H p:=zbw (by simp)
 cases o with
 | ll dss=>
  simp only[OV.val,Rep]
  exact⟨p,_,rfl,RdL.of (by rw[hp];exact h.1),h.2.reps hs fun q hq xs e=>by rw[zbw (by simp[hq])];exact e⟩
 | dc kvs=>
  obtain⟨rfl,ks,ep,h1,h2⟩:=h
  simp only[OV.val,Rep]
  exact⟨p,ks,ep,rfl,by rw[hp];exact h1,RepK.mono hs _ _ h2⟩
 | dl kvs=>
  obtain⟨ks,ep,h1,h2,h3,h4⟩:=h
  simp only[OV.val,Rep]
  exact⟨p,ks,ep,rfl,by rw[hp];exact h1,RepK.of_lists h2 h3 (h4.reps hs fun q hq xs e=>by rw[zbw (by simp[hq])];exact e)⟩
 | tl d ds=>
  obtain⟨r,v,xs,rfl,h1,h2,h3,h4⟩:=h
  simp only[OV.val,Rep]
  refine⟨p,_,rfl,SqT.of (by rw[hp];exact h1),Reps.cons (h2.mono hs) (Reps.cons ?_ Reps.nil)⟩
  simp only[Rep]
  exact⟨r,xs,rfl,RdL.of (by rw[zbw (by simp)];exact h3),h4.mono hs⟩
 | dt kvs=>
  obtain⟨ks,bs,h1,hk,h2,h3,h4⟩:=h
  simp only[OV.val,Rep]
  exact⟨p,ks,bs,rfl,by rw[hp];exact h1,hk.mono hs,RepT.of_lists h2 h3 (h4.reps hs fun q hq xs e=>by rw[zbw (by simp[hq])];exact e)⟩
 | tp ds=>
  obtain⟨rfl,xs,h1,h2⟩:=h
  simp only[OV.val,Rep]
  exact⟨p,xs,rfl,SqT.of (by rw[hp];exact h1),h2.mono hs⟩
 | ob cn fs=>
  obtain⟨C,dx,gs,h1,hc,hn,h2,h3,h4⟩:=h
  simp only[OV.val,Rep]
  refine⟨p,C,dx,gs,rfl,by rw[hp];exact h1,hc,fun u hu=>?_,RepF.of_lists h2 h3 (h4.reps hs fun q hq xs e=>by rw[zbw (by simp[hq])];exact e)⟩
  obtain⟨v,hv,rfl⟩:=List.mem_map.mp hu
  exact hn v hv
 | ld ess=>
  simp only[OV.val,Rep]
  exact⟨p,_,rfl,RdL.of (by rw[hp];exact h.1),h.2.reps hs fun q hq u e=>by rw[zbw (by simp[hq])];exact e⟩
noncomputable abbrev Ev:=List Sl
noncomputable def gt:Ev→Nat→Sl
 | [],_=>.un
 | a::_,0=>a
 | _::r,n+1=>gt r n
theorem ze2{ρ:Ev}{i j:Nat}{s:Sl}:gt (ρ.set i s) j=if i=j∧j<ρ.length then s else gt ρ j:=by
 induction ρ generalizing i j with
 | nil=>simp[gt]
 | cons a r ih=>
  cases i with
  | zero=>
   cases j with
   | zero=>simp[gt]
   | succ j=>simp[gt]
  | succ i=>
   cases j with
   | zero=>simp[gt]
   | succ j=>simp[gt,ih]
noncomputable def RepR(K:PySem.W.Frag)(G' H' H:Hp)(v:V):R→Prop
 | .fz d=>Rep K G' v d
 | .ow ds=>∃p xs,v=.ref p∧H p=none∧G' p=none∧H' p=some (.lst xs)∧Reps K G' xs ds
 | .ov o=>∃p fp,v=.ref p∧(p::fp).Nodup∧Owns K G' H' p fp o∧∀q∈p::fp,H q=none∧G' q=none
structure EOk (K:PySem.W.Frag) (G0 H0:Hp) (ρ:Ev) (σ:St) (G H:Hp):Prop where
 e:Ext G0 H0 G H
 len:σ.length=ρ.length
 fz:∀i d,gt ρ i=.fz d→∃v,σ[i]?=some (some v)∧Rep K G v d
 ow:∀i ds,gt ρ i=.ow ds→∃p xs,σ[i]?=some (some (.ref p))∧H p=some (.lst xs)∧G p=none∧H0 p=none∧Reps K G xs ds
 dj:∀i j ds es,i≠j→gt ρ i=.ow ds→gt ρ j=.ow es→σ[i]?≠σ[j]?
 on:∃own:Addr→Option Nat,(∀i ds p,gt ρ i=.ow ds→σ[i]?=some (some (.ref p))→own p=some i)∧∀i o,gt ρ i=.ov o→∃p fp,σ[i]?=some (some (.ref p))∧(p::fp).Nodup∧Owns K G H p fp o∧∀q∈p::fp,G q=none∧H0 q=none∧own q=some i
section
variable {K:PySem.W.Frag} {G0 H0 G H G' H' G2 H2:Hp} {ρ:Ev} {σ:St} {v:V}
theorem EOk.ext(E:EOk K G0 H0 ρ σ G H)(x:Ext G H G' H'):EOk K G0 H0 ρ σ G' H' where
 e:=E.e.trans x
 len:=E.len
 fz:=fun i d h=>let⟨v,h1,h2⟩:=E.fz i d h;⟨v,h1,h2.mono x.g⟩
 ow:=fun i ds h=>let⟨p,xs,h1,h2,h3,h4,h5⟩:=E.ow i ds h;⟨p,xs,h1,x.h _ _ h2,x.n p h3 (by rw[h2];exact nofun),h4,h5.mono x.g⟩
 dj:=E.dj
 on:=by
  obtain⟨own,h1,h2⟩:=E.on
  refine⟨own,h1,fun i o h=>?_⟩
  obtain⟨p,fp,b1,b2,b3,b4⟩:=h2 i o h
  exact⟨p,fp,b1,b2,b3.mono x.g fun q _ u e=>x.h q u e,fun q hq=>⟨x.n q (b4 q hq).1 (b3.here q hq),(b4 q hq).2⟩⟩
theorem RepR.freeze{r:R}(x:Ext G H G' H')(h:RepR K G' H' H v r):∃G2,Ext G H G2 H'∧Rep K G2 v r.val∧Same G' G2:=by
 cases r with
 | fz d=>exact⟨G',x,h,Same.refl _⟩
 | ow ds=>
  obtain⟨p,xs,h1,h2,h3,h4,h5⟩:=h
  refine⟨upd G' p (.lst xs),⟨x.g.trans (zbu h3),x.h,fun b o e=>?_,fun q hq1 hq2=>?_⟩,?_,zbu h3⟩
  ·by_cases hb:b=p
   ·subst hb;rw[zal] at e;rw[h4];exact e
   ·rw[zai hb] at e;exact x.s b o e
  ·rw[zai (fun z=>hq2 (by rw[z];exact h2))];exact x.n q hq1 hq2
  ·show Rep K (upd G' p (.lst xs)) v (.lst ds)
   simp only[Rep]
   exact⟨p,xs,h1,RdL.of zal,h5.mono (zbu h3)⟩
 | ov o=>
  obtain⟨p,fp,rfl,h1,h2,h3⟩:=h
  have hn:∀q∈p::fp,G' q=none:=fun q hq=>(h3 q hq).2
  refine⟨zgY G' H' (p::fp),⟨x.g.trans (zch hn),x.h,fun b u e=>?_,fun q hq1 hq2=>?_⟩,h2.freeze hn,zch hn⟩
  ·by_cases hb:b∈p::fp
   ·rw[zbw hb] at e;exact e
   ·rw[za3 hb] at e;exact x.s b u e
  ·rw[za3 (fun z=>hq2 (h3 q z).1)];exact x.n q hq1 hq2
theorem RepR.older{r:R}{H1 H3:Hp}(s:Same H3 H1)(h:RepR K G' H' H1 v r):RepR K G' H' H3 v r:=by
 cases r with
 | fz d=>exact h
 | ow ds=>
  obtain⟨p,xs,h1,h2,h3,h4,h5⟩:=h
  exact⟨p,xs,h1,s.free h2,h3,h4,h5⟩
 | ov o=>
  obtain⟨p,fp,rfl,h1,h2,h3⟩:=h
  exact⟨p,fp,rfl,h1,h2,fun q hq=>⟨s.free (h3 q hq).1,(h3 q hq).2⟩⟩
end
noncomputable abbrev TD:=Ev→(R→Prop)→Prop
noncomputable abbrev TDb:=Ev→(Bool→Prop)→Prop
noncomputable abbrev TDa:=Ev→(List D→Prop)→Prop
structure DE where
 nx:Ev→Prop
 rt:R→Prop
 bk:Ev→Prop:=fun _=>False
 ct:Ev→Prop:=fun _=>False
noncomputable abbrev TX:=DE→Ev→Prop
noncomputable def PD(X:Cx)(e:Expr)(t:TD):Prop:=∃tt,PE X e tt∧∀(ρ:Ev) (σ:St) (G0 H0 G H:Hp) (Q:R→Prop) (P:VK),EOk X.K G0 H0 ρ σ G H→t ρ Q→
 (∀v H' r G',Ext G H G' H'→RepR X.K G' H' H v r→Q r→P v H')→tt σ H P
noncomputable def PB(X:Cx)(e:Expr)(t:TDb):Prop:=∃tt,PT X e tt∧∀(ρ:Ev) (σ:St) (G0 H0 G H:Hp) (Q:Bool→Prop) (P:Bool→Hp→Prop),EOk X.K G0 H0 ρ σ G H→t ρ Q→
 (∀b H' G',Ext G H G' H'→Q b→P b H')→tt σ H P
noncomputable def PDa(X:Cx)(es:List Expr)(t:TDa):Prop:=∃tt,PA X es tt∧∀(ρ:Ev) (σ:St) (G0 H0 G H:Hp) (Q:List D→Prop) (P:List V→Hp→Prop),EOk X.K G0 H0 ρ σ G H→t ρ Q→
 (∀vs H' ds G',Ext G H G' H'→Reps X.K G' vs ds→Q ds→P vs H')→tt σ H P
structure Goes (K:PySem.W.Frag) (G0 H0 G:Hp) (D:DE) (E:Ends):Prop where
 nx:∀ρ σ G' H',Same G G'→EOk K G0 H0 ρ σ G' H'→D.nx ρ→E.nx σ H'
 rt:∀v H' r G',Ext G0 H0 G' H'→RepR K G' H' H0 v r→D.rt r→E.rt v H'
 bk:∀ρ σ G' H',Same G G'→EOk K G0 H0 ρ σ G' H'→D.bk ρ→E.bk σ H'
 ct:∀ρ σ G' H',Same G G'→EOk K G0 H0 ρ σ G' H'→D.ct ρ→E.ct σ H'
theorem Goes.shift{K:PySem.W.Frag}{G0 H0 G G':Hp}{D:DE}{E:Ends}(g:Goes K G0 H0 G D E)(s:Same G G'):Goes K G0 H0 G' D E:=
 ⟨fun ρ σ G2 H2 s2=>g.nx ρ σ G2 H2 (s.trans s2),g.rt,fun ρ σ G2 H2 s2=>g.bk ρ σ G2 H2 (s.trans s2),fun ρ σ G2 H2 s2=>g.ct ρ σ G2 H2 (s.trans s2)⟩
noncomputable def PX(X:Cx)(st:Stmt)(t:TX):Prop:=∃tt,PS X st tt∧∀(ρ:Ev) (σ:St) (G0 H0 G H:Hp) (D:DE) (E:Ends),EOk X.K G0 H0 ρ σ G H→t D ρ→Goes X.K G0 H0 G D E→tt E σ H
noncomputable def PXs(X:Cx)(st:List Stmt)(t:TX):Prop:=∃tt,PSs X st tt∧∀(ρ:Ev) (σ:St) (G0 H0 G H:Hp) (D:DE) (E:Ends),EOk X.K G0 H0 ρ σ G H→t D ρ→Goes X.K G0 H0 G D E→tt E σ H
end L2
namespace L2
open PySem PySem.Spec PyProof.Rows
section
variable {X:Cx} {pos:Pos} {a b c:Expr} {ta tb tc:TD}
theorem fzR{K:PySem.W.Frag}{G' H' H:Hp}{v:V}{d:D}(h:Rep K G' v d):RepR K G' H' H v (.fz d):=h
noncomputable def zah(i:Nat):TD:=fun ρ Q=>match gt ρ i with
 | .fz d=>Q (.fz d)
 | _=>False
theorem zab(i:Nat){x:Str}(hN:X.N[i]?=some x:=by rfl)(hv:Vis X.env.scope x:=by first | exact Or.inl rfl | exact Or.inr (Or.inl rfl) | exact Or.inr (Or.inr rfl))(hd:(x==("__debug__":Str))=false:=by decide)
  (hcd:(x==("__classdict__":Str))=false:=by decide):PD X (.Name x pos) (zah i):=by
 refine⟨_,zgf hN hv hd hcd,fun ρ σ G0 H0 G H Q P E h k=>?_⟩
 unfold zah at h
 split at h
 ·rename_i d e
  obtain⟨v,h1,h2⟩:=E.fz i d e
  exact⟨v,h1,k v H (.fz d) G (.refl E.e.s) h2 h⟩
 ·exact h.elim
noncomputable def dC(d:D):TD:=fun _ Q=>Q (.fz d)
theorem zbU{e:Expr}{v:V}{d:D}(h:PE X e (tC v))(r:∀K G,Rep K G v d):PD X e (dC d):=
 ⟨_,h,fun ρ σ G0 H0 G H Q P E h k=>k v H (.fz d) G (.refl E.e.s) (r _ _) h⟩
theorem zaB(K:PySem.W.Frag)(G:Hp)(i:Int):Rep K G (.int i) (.int i):=by simp only[Rep]
theorem za4(K:PySem.W.Frag)(G:Hp)(i:Bool):Rep K G (.bl i) (.bl i):=by simp only[Rep]
theorem zbx(K:PySem.W.Frag)(G:Hp)(i:Str):Rep K G (.str i) (.str i):=by simp only[Rep]
theorem zfT(K:PySem.W.Frag)(G:Hp):Rep K G .non .non:=by simp only[Rep]
theorem zae{i j}:PD X (.Constant (.int i) j pos) (dC (.int i)):=zbU zjX fun K G=>zaB K G i
theorem zl9{i j}:PD X (.Constant (.bool i) j pos) (dC (.bl i)):=zbU zly fun K G=>za4 K G i
theorem zam{i j}:PD X (.Constant (.str i) j pos) (dC (.str i)):=zbU zlA fun K G=>zbx K G i
theorem zhK{j}:PD X (.Constant .none j pos) (dC .non):=zbU zlz fun K G=>zfT K G
theorem zc2{x:Str}{i:Int}{t:Tok}(hm:X.mg x=some (.int i t))(hg:Gl X x:=by rfl)(hd:(x==("__debug__":Str))=false:=by decide):PD X (.Name x pos) (dC (.int i)):=zbU (zfL hg hm (v:=.int i) ⟨t,rfl⟩ hd) fun K G=>zaB K G i
theorem zgk{x:Str}{i:Str}{t:Tok}(hm:X.mg x=some (.str i t))(hg:Gl X x:=by rfl)(hd:(x==("__debug__":Str))=false:=by decide):PD X (.Name x pos) (dC (.str i)):=zbU (zfL hg hm (v:=.str i) ⟨t,rfl⟩ hd) fun K G=>zbx K G i
noncomputable abbrev O2:=D→D→(R→Prop)→Prop
noncomputable def OpP(X:Cx)(f:Value→Value→Sem Value)(o:O2):Prop:=∃r:R2,OpR X f r∧∀(G H:Hp) (x y:V) (d e:D) (Q:R→Prop) (P:VK),Same G H→Rep X.K G x d→Rep X.K G y e→o d e Q→
 (∀v H' r' G',Ext G H G' H'→RepR X.K G' H' H v r'→Q r'→P v H')→r x y H P
noncomputable def dOp(o:O2)(ta tb:TD):TD:=fun ρ Q=>ta ρ fun ra=>tb ρ fun rb=>o ra.val rb.val Q
theorem zgl{r:R2}{o:O2}{tta ttb:TE}
  (hr:∀(G H:Hp) (x y:V) (d e:D) (Q:R→Prop) (P:VK),Same G H→Rep X.K G x d→Rep X.K G y e→o d e Q→(∀v H' r' G',Ext G H G' H'→RepR X.K G' H' H v r'→Q r'→P v H')→r x y H P)
  (ha:∀(ρ:Ev) (σ:St) (G0 H0 G H:Hp) (Q:R→Prop) (P:VK),EOk X.K G0 H0 ρ σ G H→ta ρ Q→(∀v H' r G',Ext G H G' H'→RepR X.K G' H' H v r→Q r→P v H')→tta σ H P)
  (hb:∀(ρ:Ev) (σ:St) (G0 H0 G H:Hp) (Q:R→Prop) (P:VK),EOk X.K G0 H0 ρ σ G H→tb ρ Q→(∀v H' r G',Ext G H G' H'→RepR X.K G' H' H v r→Q r→P v H')→ttb σ H P)
  (ρ:Ev) (σ:St) (G0 H0 G H:Hp) (Q:R→Prop) (P:VK) (E:EOk X.K G0 H0 ρ σ G H) (h:dOp o ta tb ρ Q) (k:∀v H' r G',Ext G H G' H'→RepR X.K G' H' H v r→Q r→P v H'):tOp r tta ttb σ H P:=by
 refine ha ρ σ G0 H0 G H _ _ E h fun v H1 ra G1 x1 r1 h1=>?_
 obtain⟨G1',x1',q1,_⟩:=r1.freeze x1
 refine hb ρ σ G0 H0 G1' H1 _ _ (E.ext x1') h1 fun u H2 rb G2 x2 r2 h2=>?_
 obtain⟨G2',x2',q2,_⟩:=r2.freeze x2
 refine hr G2' H2 v u _ _ Q P x2'.s (q1.mono x2'.g) q2 h2 fun v' H' r' G' x3 r3 h3=>?_
 have x4:=(x1'.trans x2').trans x3
 exact k v' H' r' G' x4 (r3.older (x1'.trans x2').h) h3
theorem zak{op:Operator}{o:O2}(ho:OpP X (binaryOp op) o)(ha:PD X a ta)(hb:PD X b tb):PD X (.BinOp a op b pos) (dOp o ta tb):=by
 obtain⟨r,hr,hr'⟩:=ho
 obtain⟨tta,pa,qa⟩:=ha
 obtain⟨ttb,pb,qb⟩:=hb
 exact⟨_,zlL hr pa pb,zgl hr' qa qb⟩
theorem zbg{op:CmpOp}{o:O2}(ho:OpP X (compareOp op) o)(ha:PD X a ta)(hb:PD X b tb)(hm:behindInMarks op b=false:=by first | exact zj0 _ | rfl):PD X (.Compare a [op] [b] pos) (dOp o ta tb):=by
 obtain⟨r,hr,hr'⟩:=ho
 obtain⟨tta,pa,qa⟩:=ha
 obtain⟨ttb,pb,qb⟩:=hb
 exact⟨_,zkw hr pa pb hm,zgl hr' qa qb⟩
noncomputable def zeb(t:TD):TDb:=fun ρ Q=>t ρ fun r=>match r with
 | .fz (.bl k)=>Q k
 | _=>False
theorem zci{op:CmpOp}{o:O2}(ho:OpP X (compareOp op) o)(ha:PD X a ta)(hb:PD X b tb)(hm:behindInMarks op b=false:=by first | exact zj0 _ | rfl):PB X (.Compare a [op] [b] pos) (zeb (dOp o ta tb)):=by
 obtain⟨r,hr,hr'⟩:=ho
 obtain⟨tta,pa,qa⟩:=ha
 obtain⟨ttb,pb,qb⟩:=hb
 refine⟨_,zky hr pa pb hm,fun ρ σ G0 H0 G H Q P E h k=>?_⟩
 refine zgl hr' qa qb ρ σ G0 H0 G H _ _ E h fun v H' r G' x1 r1 h1=>?_
 split at h1
 ·rename_i kk
  have e:v=.bl kk:=by simpa only[RepR,Rep] using r1
  exact⟨kk,e,k kk H' G' x1 h1⟩
 ·exact h1.elim
theorem zgm{e:Expr}{t:TD}(h:PD X e t)(he:∀whole,isTrue e X.env whole=(do let v ←whole;standAt e.pos;holding [v] (truthy v)):=by intro _;rfl):PB X e (zeb t):=by
 obtain⟨tt,p,q⟩:=h
 refine⟨_,zlB p he,fun ρ σ G0 H0 G H Q P E h k=>?_⟩
 refine q ρ σ G0 H0 G H _ _ E h fun v H' r G' x1 r1 h1=>?_
 split at h1
 ·rename_i kk
  have e:v=.bl kk:=by simpa only[RepR,Rep] using r1
  exact⟨kk,e,k kk H' G' x1 h1⟩
 ·exact h1.elim
noncomputable def zbZ:O2:=fun d e Q=>match d,e with
 | .int i,.int j=>Q (.fz (.int (i+j)))
 | .str x,.str y=>x.length+y.length≤sizeLine∧Q (.fz (.str (x++y)))
 | .lst xs,.lst ys=>xs.length+ys.length≤sizeLine∧Q (.ow (xs++ys))
 | _,_=>False
noncomputable def znl(K:PySem.W.Frag):R2:=fun x y H Q=>∃l b xs zs,x=.ref l∧y=.ref b∧RdL K H l xs∧RdL K H b zs∧xs.length+zs.length≤sizeLine∧∀p,H p=none→Q (.ref p) (upd H p (.lst (xs++zs)))
theorem zkN:OpR X (binaryOp .Add) (znl X.K):=by
 intro pins s σ H x y v u Q I rx ry h
 obtain⟨l,b,xs,zs,rfl,rfl,hH,hB,hz,q⟩:=h
 cases rx
 cases ry
 obtain⟨z,its,n,r,e⟩:=I.rdl hH
 obtain⟨z2,its2,n2,r2,e2⟩:=I.rdl hB
 have hl:=r.length
 have hl2:=r2.length
 refine PySem.P.add_list e e2 ?_ (by rw[List.size_toArray,List.size_toArray];omega)
 have ea:its.toArray++its2.toArray=(its++its2).toArray:=by simp
 rw[ea]
 exact⟨.ref _,_,I.lnew (t':=s.toks) (r.append r2) (by rw[List.length_append];omega),rfl,q _ I.fresh⟩
theorem zcA{G H:Hp}{xs:List V}{ds:List D}{Q:R→Prop}{P:VK}(s:Same G H)(r:Reps X.K G xs ds)(q:Q (.ow ds))
  (k:∀v H' r' G',Ext G H G' H'→RepR X.K G' H' H v r'→Q r'→P v H'):∀p,H p=none→P (.ref p) (upd H p (.lst xs)):=fun p hp=>
 k _ _ (.ow ds) G (.own s hp) ⟨p,xs,rfl,hp,s.free hp,zal,r⟩ q
theorem za5:OpP X (binaryOp .Add) zbZ:=by
 refine⟨_,op_add.or (op_add_str.or zkN),fun G H x y d e Q P s rx ry h k=>?_⟩
 unfold zbZ at h
 split at h
 ·simp only[Rep] at rx ry
  exact .inl ⟨_,_,rx,ry,k _ _ _ G (.refl s) (fzR (zaB _ _ _)) h⟩
 ·simp only[Rep] at rx ry
  exact .inr (.inl ⟨_,_,rx,ry,h.1,k _ _ _ G (.refl s) (fzR (zbx _ _ _)) h.2⟩)
 ·simp only[Rep] at rx ry
  obtain⟨a,xs,rfl,hx,rxs⟩:=rx
  obtain⟨b,ys,rfl,hy,rys⟩:=ry
  refine .inr (.inr ⟨_,_,_,_,rfl,rfl,s.rdl hx,s.rdl hy,by rw[rxs.length,rys.length];exact h.1,zcA s (rxs.append rys) h.2 k⟩)
 ·exact h.elim
noncomputable def oI(C:Int→Int→Prop)(g:Int→Int→D):O2:=fun d e Q=>match d,e with
 | .int i,.int j=>C i j∧Q (.fz (g i j))
 | _,_=>False
noncomputable def oI0(g:Int→Int→D):O2:=fun d e Q=>match d,e with
 | .int i,.int j=>Q (.fz (g i j))
 | _,_=>False
theorem zji{f:Value→Value→Sem Value}{C:Int→Int→Prop}{g:Int→Int→V}{g':Int→Int→D}(h:OpR X f (rI C g))(hg:∀K G i j,Rep K G (g i j) (g' i j)):OpP X f (oI C g'):=by
 refine⟨_,h,fun G H x y d e Q P s rx ry h k=>?_⟩
 unfold oI at h
 split at h
 ·simp only[Rep] at rx ry
  exact⟨_,_,rx,ry,h.1,k _ _ _ G (.refl s) (fzR (hg _ _ _ _)) h.2⟩
 ·exact h.elim
theorem zhL{f:Value→Value→Sem Value}{g:Int→Int→V}{g':Int→Int→D}(h:OpR X f (rI0 g))(hg:∀K G i j,Rep K G (g i j) (g' i j)):OpP X f (oI0 g'):=by
 refine⟨_,h,fun G H x y d e Q P s rx ry h k=>?_⟩
 unfold oI0 at h
 split at h
 ·simp only[Rep] at rx ry
  exact⟨_,_,rx,ry,k _ _ _ G (.refl s) (fzR (hg _ _ _ _)) h⟩
 ·exact h.elim
theorem zgZ:OpP X (binaryOp .Mult) (oI CMul fun i j=>.int (i*j)):=zji zlM fun K G i j=>zaB K G _
theorem zbn:OpP X (binaryOp .FloorDiv) (oI zek fun i j=>.int (i/j)):=zji zku fun K G i j=>zaB K G _
theorem zby:OpP X (binaryOp .Mod) (oI (fun _ j=>0<j) fun i j=>.int (i%j)):=zji zlN fun K G i j=>zaB K G _
theorem zma:OpP X (binaryOp .Pow) (oI zjZ fun i j=>.int (i ^ j.toNat)):=zji zlO fun K G i j=>zaB K G _
theorem zn6:OpP X (compareOp .Lt) (oI0 fun i j=>.bl (decide (i<j))):=zhL op_lt fun K G i j=>za4 K G _
theorem zmT:OpP X (compareOp .LtE) (oI0 fun i j=>.bl (decide (i≤j))):=zhL zel fun K G i j=>za4 K G _
theorem zn7:OpP X (compareOp .Gt) (oI0 fun i j=>.bl (decide (j<i))):=zhL zng fun K G i j=>za4 K G _
end
end L2
namespace L2
open PySem PySem.Spec PyProof.Rows PySem.SeqAt
mutual
noncomputable def eqD:D→D→Bool
 | .non,.non=>true
 | .bl a,.bl b=>a==b
 | .bl a,.int b=>(if a then 1 else 0)==b
 | .int a,.bl b=>a==(if b then 1 else 0)
 | .int a,.int b=>a==b
 | .str a,.str b=>a==b
 | .tup xs,.tup ys=>zgn xs ys
 | .lst xs,.lst ys=>zgn xs ys
 | _,_=>false
noncomputable def zgn:List D→List D→Bool
 | [],[]=>true
 | x::xs,y::ys=>eqD x y&&zgn xs ys
 | _,_=>false
end
noncomputable def okE:Nat→D→Prop
 | _,.non=>True
 | _,.bl _=>True
 | _,.int _=>True
 | _,.str _=>True
 | n+1,.tup ds=>∀d∈ds,okE n d
 | n+1,.lst ds=>∀d∈ds,okE n d
 | _,_=>False
mutual
theorem zcj:∀(n:Nat) (d:D),okE n d→eqD d d=true
 | n,.non,_=>by simp only[eqD]
 | n,.bl _,_=>by simp only[eqD,beq_self_eq_true]
 | n,.int _,_=>by simp only[eqD,beq_self_eq_true]
 | n,.str _,_=>by simp only[eqD,beq_self_eq_true]
 | 0,.tup ds,h=>by cases h
 | 0,.lst ds,h=>by cases h
 | n+1,.tup ds,h=>by simp only[eqD];exact zdi n ds h
 | n+1,.lst ds,h=>by simp only[eqD];exact zdi n ds h
 | 0,.obj _ _,h=>by cases h
 | n+1,.obj _ _,h=>by cases h
 | 0,.dic _,h=>by cases h
 | 0,.dit _,h=>by cases h
 | n+1,.dic _,h=>by cases h
 | n+1,.dit _,h=>by cases h
theorem zdi:∀(n:Nat) (ds:List D),(∀d∈ds,okE n d)→zgn ds ds=true
 | n,[],_=>by simp only[zgn]
 | n,d::ds,h=>by simp only[zgn,zcj n d (h d (by simp)),zdi n ds (fun e he=>h e (by simp[he])),Bool.and_self]
end
theorem zck:∀{xs ys:List D},xs.length≠ys.length→zgn xs ys=false
 | [],[],h=>absurd rfl h
 | x::xs,y::ys,h=>by
  rw[zgn,zck (xs:=xs) (ys:=ys) (by simpa using h),Bool.and_false]
 | [],_::_,_=>by simp only[zgn]
 | _::_,[],_=>by simp only[zgn]
theorem zcl:∀(xs ys:List D),xs.length=ys.length→zgn xs ys=(List.range xs.length).all fun j=>eqD (xs.getD j .non) (ys.getD j .non)
 | [],[],_=>by simp[zgn]
 | x::xs,y::ys,h=>by
  rw[zgn,zcl xs ys (by simpa using h),List.length_cons,List.range_succ_eq_map,List.all_cons,List.all_map]
  congr 1
 | [],_::_,h=>by simp at h
 | _::_,[],h=>by simp at h
theorem zeo(xs ys:List D):((List.range (min xs.length ys.length)).all (fun j=>eqD (xs.getD j .non) (ys.getD j .non))&&xs.length==ys.length)=zgn xs ys:=by
 by_cases h:xs.length=ys.length
 ·rw[zcl xs ys h,h]
  simp
 ·rw[zck h]
  simp[h]
section
variable {X:Cx} {pins:List (Addr×Obj)} {σ:St} {H:Hp} {s:Shared}
mutual
theorem zep(I:Inv X pins σ H s):∀(n:Nat) (d e:D) (v:V),okE n d→okE n e→Rep X.K H v d→Rep X.K H v e→d=e
 | n,.non,e,v,h,h',r,r'=>by
  cases e<;>simp only[Rep] at r r'<;>subst r<;>first | rfl | (simp at r';done) | (simp only[V.bl.injEq,V.int.injEq,V.str.injEq] at r';rw[r'])
 | n,.bl b,e,v,h,h',r,r'=>by
  cases e<;>simp only[Rep] at r r'<;>subst r<;>first | rfl | (simp at r';done) | (simp only[V.bl.injEq,V.int.injEq,V.str.injEq] at r';rw[r'])
 | n,.int b,e,v,h,h',r,r'=>by
  cases e<;>simp only[Rep] at r r'<;>subst r<;>first | rfl | (simp at r';done) | (simp only[V.bl.injEq,V.int.injEq,V.str.injEq] at r';rw[r'])
 | n,.str b,e,v,h,h',r,r'=>by
  cases e<;>simp only[Rep] at r r'<;>subst r<;>first | rfl | (simp at r';done) | (simp only[V.bl.injEq,V.int.injEq,V.str.injEq] at r';rw[r'])
 | 0,.tup ds,e,v,h,h',r,r'=>by cases h
 | 0,.lst ds,e,v,h,h',r,r'=>by cases h
 | n+1,.tup ds,e,v,h,h',r,r'=>by
  simp only[Rep] at r
  obtain⟨a,xs,rfl,q,rs⟩:=r
  cases e<;>simp only[Rep] at r'
  case tup es=>
   obtain⟨b,ys,e1,q',rs'⟩:=r'
   cases e1
   rw[I.tuple_inj q' q] at rs'
   rw[zeq I n ds es xs h h' rs rs']
  case lst es=>
   obtain⟨b,ys,e1,q',rs'⟩:=r'
   cases e1
   obtain⟨its,_,ht,_⟩:=I.tuple q
   obtain⟨its',_,hl,_⟩:=I.list q'.sq
   exact absurd rfl (ne_of_list_tuple hl.isList (show s.heap.IsTuple a its.toArray from ht))
  case obj=>cases h'
  case dic=>cases h'
  case dit=>cases h'
  all_goals cases r'
 | n+1,.lst ds,e,v,h,h',r,r'=>by
  simp only[Rep] at r
  obtain⟨a,xs,rfl,q,rs⟩:=r
  cases e<;>simp only[Rep] at r'
  case lst es=>
   obtain⟨b,ys,e1,q',rs'⟩:=r'
   cases e1
   rw[I.list_inj q'.sq q.sq] at rs'
   rw[zeq I n ds es xs h h' rs rs']
  case tup es=>
   obtain⟨b,ys,e1,q',rs'⟩:=r'
   cases e1
   obtain⟨its,_,ht,_⟩:=I.tuple q'
   obtain⟨its',_,hl,_⟩:=I.list q.sq
   exact absurd rfl (ne_of_list_tuple hl.isList (show s.heap.IsTuple a its.toArray from ht))
  case obj=>cases h'
  case dic=>cases h'
  case dit=>cases h'
  all_goals cases r'
 | 0,.obj _ _,_,_,h,_,_,_=>by cases h
 | n+1,.obj _ _,_,_,h,_,_,_=>by cases h
 | 0,.dic _,_,_,h,_,_,_=>by cases h
 | 0,.dit _,_,_,h,_,_,_=>by cases h
 | n+1,.dic _,_,_,h,_,_,_=>by cases h
 | n+1,.dit _,_,_,h,_,_,_=>by cases h
theorem zeq(I:Inv X pins σ H s):∀(n:Nat) (ds es:List D) (vs:List V),(∀d∈ds,okE n d)→(∀d∈es,okE n d)→Reps X.K H vs ds→Reps X.K H vs es→ds=es
 | n,[],[],_,_,_,_,_=>rfl
 | n,d::ds,e::es,v::vs,h,h',r,r'=>by
  simp only[Reps] at r r'
  rw[zep I n d e v (h d (by simp)) (h' e (by simp)) r.1 r'.1,zeq I n ds es vs (fun x hx=>h x (by simp[hx])) (fun x hx=>h' x (by simp[hx])) r.2 r'.2]
 | n,[],_::_,[],_,_,_,r=>by simp only[Reps] at r
 | n,[],_::_,_::_,_,_,r,_=>by simp only[Reps] at r
 | n,_::_,[],[],_,_,r,_=>by simp only[Reps] at r
 | n,_::_,[],_::_,_,_,_,r=>by simp only[Reps] at r
 | n,_::_,_::_,[],_,_,r,_=>by simp only[Reps] at r
end
theorem zbd{vs:List V}{ds:List D}{us:List Value}{j:Nat}(rv:Vals vs us)(rd:Reps X.K H vs ds)(hj:j<us.toArray.size):∃v,RelV v us.toArray[j]∧Rep X.K H v (ds.getD j .non)∧ds.getD j .non∈ds:=by
 have h1:j<us.length:=by simpa using hj
 have h2:j<vs.length:=by rw[rv.length];exact h1
 have h3:j<ds.length:=by rw[←rd.length];exact h2
 obtain⟨u,hu,ru⟩:=rv.get (List.getElem?_eq_getElem h2)
 obtain⟨d,hd,rd'⟩:=rd.getV (List.getElem?_eq_getElem h2)
 rw[List.getElem?_eq_getElem h1] at hu
 rw[List.getElem?_eq_getElem h3] at hd
 cases hu
 cases hd
 refine⟨vs[j],?_,?_,?_⟩
 ·simpa using ru
 ·simpa[List.getD,h3] using rd'
 ·simp[List.getD,h3]
noncomputable def zg0:D→Bool
 | .non=>true
 | .bl _=>true
 | .int _=>true
 | .str _=>true
 | _=>false
theorem zhM{d e:D}{x y:V}(hd:zg0 d=true)(he:zg0 e=true)(rx:Rep X.K H x d)(ry:Rep X.K H y e):zjc x=true∧zjc y=true∧eqV x y=eqD d e:=by
 cases d<;>first | cases hd | skip
 all_goals (cases e<;>first | cases he | skip)
 all_goals
  simp only[Rep] at rx ry
  subst rx ry
  exact⟨rfl,rfl,by simp[eqV,eqD]⟩
theorem ze3(I:Inv X pins σ H s):∀(n:Nat) (A:Around) (d e:D) (x y:V) (v u:Value),okE n d→okE n e→A.units+n<cLine→Rep X.K H x d→Rep X.K H y e→RelV x v→RelV y u→EqAt A s v u (eqD d e):=by
 intro n
 induction n with
 | zero=>
  intro A d e x y v u hd he hu rx ry qx qy
  have fd:zg0 d=true:=by cases d<;>first | rfl | cases hd
  have fe:zg0 e=true:=by cases e<;>first | rfl | cases he
  obtain⟨h1,h2,h3⟩:=zhM fd fe rx ry
  rw[←h3]
  exact zj1 qx qy h1 h2
 | succ n ih=>
  intro A d e x y v u hd he hu rx ry qx qy
  have hu0:A.units<cLine:=by omega
  have hu1:A.in1.units+n<cLine:=by show A.units+1+n<cLine;omega
  by_cases fd:zg0 d=true
  ·by_cases fe:zg0 e=true
   ·obtain⟨h1,h2,h3⟩:=zhM fd fe rx ry
    rw[←h3]
    exact zj1 qx qy h1 h2
   ·cases e<;>first | exact absurd rfl fe | skip
    case tup es=>
     simp only[Rep] at ry
     obtain⟨b,ys,rfl,q,rs⟩:=ry
     cases qy
     obtain⟨its,rv,ht,_⟩:=I.tuple q
     have ht':s.heap.IsTuple b its.toArray:=ht
     cases d<;>first | cases fd | skip
     ·simp only[Rep] at rx;subst rx;cases qx;simpa only[eqD] using EqAt.none_tuple ht' hu0
     ·simp only[Rep] at rx;subst rx;cases qx;simpa only[eqD] using EqAt.bool_tuple _ ht' hu0
     ·simp only[Rep] at rx;subst rx;obtain⟨t,rfl⟩:=qx;simpa only[eqD] using EqAt.int_tuple _ t ht' hu0
     ·simp only[Rep] at rx;subst rx;obtain⟨t,rfl⟩:=qx;simpa only[eqD] using EqAt.str_tuple _ t ht' hu0
    case lst es=>
     simp only[Rep] at ry
     obtain⟨b,ys,rfl,q,rs⟩:=ry
     cases qy
     obtain⟨its,rv,ht,_⟩:=I.list q.sq
     have ht':=ht.isList
     cases d<;>first | cases fd | skip
     ·simp only[Rep] at rx;subst rx;cases qx;simpa only[eqD] using EqAt.none_list ht' hu0
     ·simp only[Rep] at rx;subst rx;cases qx;simpa only[eqD] using EqAt.bool_list _ ht' hu0
     ·simp only[Rep] at rx;subst rx;obtain⟨t,rfl⟩:=qx;simpa only[eqD] using EqAt.int_list _ t ht' hu0
     ·simp only[Rep] at rx;subst rx;obtain⟨t,rfl⟩:=qx;simpa only[eqD] using EqAt.str_list _ t ht' hu0
    case obj=>cases he
    case dic=>cases he
    case dit=>cases he
  ·cases d<;>first | exact absurd rfl fd | skip
   case tup ds=>
    have rx0:=rx
    simp only[Rep] at rx
    obtain⟨a,xs,rfl,q,rs⟩:=rx
    cases qx
    obtain⟨its,rv,ht,_⟩:=I.tuple q
    have ht':s.heap.IsTuple a its.toArray:=ht
    cases e
    case non=>simp only[Rep] at ry;subst ry;cases qy;simpa only[eqD] using EqAt.tuple_none ht' hu0
    case bl=>simp only[Rep] at ry;subst ry;cases qy;simpa only[eqD] using EqAt.tuple_bool _ ht' hu0
    case int=>simp only[Rep] at ry;subst ry;obtain⟨t,rfl⟩:=qy;simpa only[eqD] using EqAt.tuple_int _ t ht' hu0
    case str=>simp only[Rep] at ry;subst ry;obtain⟨t,rfl⟩:=qy;simpa only[eqD] using EqAt.tuple_str _ t ht' hu0
    case lst es=>
     simp only[Rep] at ry
     obtain⟨b,ys,rfl,q',rs'⟩:=ry
     cases qy
     obtain⟨its',rv',hl,_⟩:=I.list q'.sq
     simpa only[eqD] using EqAt.tuple_list ht' hl.isList hu0
    case tup es=>
     have ry0:=ry
     simp only[Rep] at ry
     obtain⟨b,ys,rfl,q',rs'⟩:=ry
     cases qy
     obtain⟨its',rv',ht2,_⟩:=I.tuple q'
     by_cases hab:a=b
     ·subst hab
      have e0:=zep I (n+1) _ _ _ hd he rx0 ry0
      rw[←e0,zcj (n+1) _ hd]
      exact EqAt.same _
     ·refine EqAt.of_refs hab ?_
      have h:=RcAt.tuples (e:=fun j=>eqD (ds.getD j .non) (es.getD j .non)) ht' (show s.heap.IsTuple b its'.toArray from ht2) hu0 fun j h1 h2=>by
       obtain⟨v1,a1,b1,c1⟩:=zbd rv rs h1
       obtain⟨v2,a2,b2,c2⟩:=zbd rv' rs' h2
       exact ih A.in1 _ _ v1 v2 _ _ (hd _ c1) (he _ c2) hu1 b1 b2 a1 a2
      have l1:its.toArray.size=ds.length:=by rw[List.size_toArray,←rv.length,rs.length]
      have l2:its'.toArray.size=es.length:=by rw[List.size_toArray,←rv'.length,rs'.length]
      rw[l1,l2,zeo] at h
      simpa only[eqD] using h
    case obj=>cases he
    case dic=>cases he
    case dit=>cases he
   case lst ds=>
    have rx0:=rx
    simp only[Rep] at rx
    obtain⟨a,xs,rfl,q,rs⟩:=rx
    cases qx
    obtain⟨its,rv,ht,_⟩:=I.list q.sq
    have ht':=ht.isList
    cases e
    case non=>simp only[Rep] at ry;subst ry;cases qy;simpa only[eqD] using EqAt.list_none ht' hu0
    case bl=>simp only[Rep] at ry;subst ry;cases qy;simpa only[eqD] using EqAt.list_bool _ ht' hu0
    case int=>simp only[Rep] at ry;subst ry;obtain⟨t,rfl⟩:=qy;simpa only[eqD] using EqAt.list_int _ t ht' hu0
    case str=>simp only[Rep] at ry;subst ry;obtain⟨t,rfl⟩:=qy;simpa only[eqD] using EqAt.list_str _ t ht' hu0
    case tup es=>
     simp only[Rep] at ry
     obtain⟨b,ys,rfl,q',rs'⟩:=ry
     cases qy
     obtain⟨its',rv',hl,_⟩:=I.tuple q'
     simpa only[eqD] using EqAt.list_tuple ht' (show s.heap.IsTuple b its'.toArray from hl) hu0
    case lst es=>
     have ry0:=ry
     simp only[Rep] at ry
     obtain⟨b,ys,rfl,q',rs'⟩:=ry
     cases qy
     obtain⟨its',rv',ht2,_⟩:=I.list q'.sq
     by_cases hab:a=b
     ·subst hab
      have e0:=zep I (n+1) _ _ _ hd he rx0 ry0
      rw[←e0,zcj (n+1) _ hd]
      exact EqAt.same _
     ·refine EqAt.of_refs hab ?_
      have l1:its.toArray.size=ds.length:=by rw[List.size_toArray,←rv.length,rs.length]
      have l2:its'.toArray.size=es.length:=by rw[List.size_toArray,←rv'.length,rs'.length]
      by_cases hl:ds.length=es.length
      ·have h:=RcAt.lists (e:=fun j=>eqD (ds.getD j .non) (es.getD j .non)) ht' ht2.isList (by rw[l1,l2,hl]) hu0 fun j h1 h2=>by
        obtain⟨v1,a1,b1,c1⟩:=zbd rv rs h1
        obtain⟨v2,a2,b2,c2⟩:=zbd rv' rs' h2
        exact ih A.in1 _ _ v1 v2 _ _ (hd _ c1) (he _ c2) hu1 b1 b2 a1 a2
       rw[l1,←zcl ds es hl] at h
       simpa only[eqD] using h
      ·have h:=RcAt.lists_lengths (A:=A) ht' ht2.isList (by rw[l1,l2];simpa using hl) hu0
       simp only[eqD,zck hl]
       exact h
    case obj=>cases he
    case dic=>cases he
    case dit=>cases he
   case obj=>cases hd
   case dic=>cases hd
   case dit=>cases hd
end
end L2
namespace L2
open PySem PySem.Spec PyProof.Rows PySem.SeqAt
section
variable {X:Cx} {pins:List (Addr×Obj)} {σ:St} {H:Hp} {s:Shared}
theorem zmb(I:Inv X pins σ H s):∀(n:Nat) (A:Around) (d e:D) (x y:V) (v u:Value),okE n d→okE n e→A.units+n<cLine→Rep X.K H x d→Rep X.K H y e→RelV x v→RelV y u→RcAt A s v u (eqD d e):=by
 intro n A d e x y v u hd he hu rx ry qx qy
 have hu0:A.units<cLine:=by omega
 cases d
 case non=>
  simp only[Rep] at rx;subst rx;cases qx
  cases e
  case non=>simp only[Rep] at ry;subst ry;cases qy;simpa only[eqD,Bool.not_true] using RcAt.none_none
  case bl=>simp only[Rep] at ry;subst ry;cases qy;simpa only[eqD,Bool.not_false] using RcAt.none_bool _
  case int=>simp only[Rep] at ry;subst ry;obtain⟨t,rfl⟩:=qy;simpa only[eqD,Bool.not_false] using RcAt.none_int _ t
  case str=>simp only[Rep] at ry;subst ry;obtain⟨t,rfl⟩:=qy;simpa only[eqD,Bool.not_false] using RcAt.none_str _ t
  case tup=>
   simp only[Rep] at ry;obtain⟨b,ys,rfl,q,rs⟩:=ry;cases qy;obtain⟨its,rv,ht,_⟩:=I.tuple q
   simpa only[eqD,Bool.not_false] using RcAt.none_tuple (show s.heap.IsTuple b its.toArray from ht) hu0
  case lst=>
   simp only[Rep] at ry;obtain⟨b,ys,rfl,q,rs⟩:=ry;cases qy;obtain⟨its,rv,ht,_⟩:=I.list q.sq
   simpa only[eqD,Bool.not_false] using RcAt.none_list ht.isList hu0
  case obj=>cases n<;>cases he
  case dic=>cases n<;>cases he
  case dit=>cases n<;>cases he
 case bl a=>
  simp only[Rep] at rx;subst rx;cases qx
  cases e
  case non=>simp only[Rep] at ry;subst ry;cases qy;simpa only[eqD,Bool.not_false] using RcAt.bool_none _
  case bl=>simp only[Rep] at ry;subst ry;cases qy;simpa only[eqD] using RcAt.bool_bool _ _
  case int=>simp only[Rep] at ry;subst ry;obtain⟨t,rfl⟩:=qy;simpa only[eqD] using RcAt.bool_int _ _ t
  case str=>simp only[Rep] at ry;subst ry;obtain⟨t,rfl⟩:=qy;simpa only[eqD,Bool.not_false] using RcAt.bool_str _ _ t
  case tup=>
   simp only[Rep] at ry;obtain⟨b,ys,rfl,q,rs⟩:=ry;cases qy;obtain⟨its,rv,ht,_⟩:=I.tuple q
   simpa only[eqD,Bool.not_false] using RcAt.bool_tuple _ (show s.heap.IsTuple b its.toArray from ht) hu0
  case lst=>
   simp only[Rep] at ry;obtain⟨b,ys,rfl,q,rs⟩:=ry;cases qy;obtain⟨its,rv,ht,_⟩:=I.list q.sq
   simpa only[eqD,Bool.not_false] using RcAt.bool_list _ ht.isList hu0
  case obj=>cases n<;>cases he
  case dic=>cases n<;>cases he
  case dit=>cases n<;>cases he
 case int a=>
  simp only[Rep] at rx;subst rx;obtain⟨t0,rfl⟩:=qx
  cases e
  case non=>simp only[Rep] at ry;subst ry;cases qy;simpa only[eqD,Bool.not_false] using RcAt.int_none _ t0
  case bl=>simp only[Rep] at ry;subst ry;cases qy;simpa only[eqD] using RcAt.int_bool _ t0 _
  case int=>simp only[Rep] at ry;subst ry;obtain⟨t,rfl⟩:=qy;simpa only[eqD] using RcAt.int_int _ t0 _ t
  case str=>simp only[Rep] at ry;subst ry;obtain⟨t,rfl⟩:=qy;simpa only[eqD,Bool.not_false] using RcAt.int_str _ t0 _ t
  case tup=>
   simp only[Rep] at ry;obtain⟨b,ys,rfl,q,rs⟩:=ry;cases qy;obtain⟨its,rv,ht,_⟩:=I.tuple q
   simpa only[eqD,Bool.not_false] using RcAt.int_tuple _ t0 (show s.heap.IsTuple b its.toArray from ht) hu0
  case lst=>
   simp only[Rep] at ry;obtain⟨b,ys,rfl,q,rs⟩:=ry;cases qy;obtain⟨its,rv,ht,_⟩:=I.list q.sq
   simpa only[eqD,Bool.not_false] using RcAt.int_list _ t0 ht.isList hu0
  case obj=>cases n<;>cases he
  case dic=>cases n<;>cases he
  case dit=>cases n<;>cases he
 case str a=>
  simp only[Rep] at rx;subst rx;obtain⟨t0,rfl⟩:=qx
  cases e
  case non=>simp only[Rep] at ry;subst ry;cases qy;simpa only[eqD,Bool.not_false] using RcAt.str_none _ t0
  case bl=>simp only[Rep] at ry;subst ry;cases qy;simpa only[eqD,Bool.not_false] using RcAt.str_bool _ t0 _
  case int=>simp only[Rep] at ry;subst ry;obtain⟨t,rfl⟩:=qy;simpa only[eqD,Bool.not_false] using RcAt.str_int _ t0 _ t
  case str=>simp only[Rep] at ry;subst ry;obtain⟨t,rfl⟩:=qy;simpa only[eqD] using RcAt.str_str _ t0 _ t
  case tup=>
   simp only[Rep] at ry;obtain⟨b,ys,rfl,q,rs⟩:=ry;cases qy;obtain⟨its,rv,ht,_⟩:=I.tuple q
   simpa only[eqD,Bool.not_false] using RcAt.str_tuple _ t0 (show s.heap.IsTuple b its.toArray from ht) hu0
  case lst=>
   simp only[Rep] at ry;obtain⟨b,ys,rfl,q,rs⟩:=ry;cases qy;obtain⟨its,rv,ht,_⟩:=I.list q.sq
   simpa only[eqD,Bool.not_false] using RcAt.str_list _ t0 ht.isList hu0
  case obj=>cases n<;>cases he
  case dic=>cases n<;>cases he
  case dit=>cases n<;>cases he
 case tup ds=>
  cases n with
  | zero=>cases hd
  | succ n=>
  have hu1:A.in1.units+n<cLine:=by show A.units+1+n<cLine;omega
  simp only[Rep] at rx
  obtain⟨a,xs,rfl,q,rs⟩:=rx
  cases qx
  obtain⟨its,rv,ht,_⟩:=I.tuple q
  have ht':s.heap.IsTuple a its.toArray:=ht
  cases e
  case non=>simp only[Rep] at ry;subst ry;cases qy;simpa only[eqD,Bool.not_false] using RcAt.tuple_none ht' hu0
  case bl=>simp only[Rep] at ry;subst ry;cases qy;simpa only[eqD,Bool.not_false] using RcAt.tuple_bool _ ht' hu0
  case int=>simp only[Rep] at ry;subst ry;obtain⟨t,rfl⟩:=qy;simpa only[eqD,Bool.not_false] using RcAt.tuple_int _ t ht' hu0
  case str=>simp only[Rep] at ry;subst ry;obtain⟨t,rfl⟩:=qy;simpa only[eqD,Bool.not_false] using RcAt.tuple_str _ t ht' hu0
  case lst es=>
   simp only[Rep] at ry
   obtain⟨b,ys,rfl,q',rs'⟩:=ry
   cases qy
   obtain⟨its',rv',hl,_⟩:=I.list q'.sq
   simpa only[eqD,Bool.not_false] using RcAt.tuple_list ht' hl.isList hu0
  case tup es=>
   simp only[Rep] at ry
   obtain⟨b,ys,rfl,q',rs'⟩:=ry
   cases qy
   obtain⟨its',rv',ht2,_⟩:=I.tuple q'
   have h:=RcAt.tuples (e:=fun j=>eqD (ds.getD j .non) (es.getD j .non)) ht' (show s.heap.IsTuple b its'.toArray from ht2) hu0 fun j h1 h2=>by
    obtain⟨v1,a1,b1,c1⟩:=zbd rv rs h1
    obtain⟨v2,a2,b2,c2⟩:=zbd rv' rs' h2
    exact ze3 I n A.in1 _ _ v1 v2 _ _ (hd _ c1) (he _ c2) hu1 b1 b2 a1 a2
   have l1:its.toArray.size=ds.length:=by rw[List.size_toArray,←rv.length,rs.length]
   have l2:its'.toArray.size=es.length:=by rw[List.size_toArray,←rv'.length,rs'.length]
   rw[l1,l2,zeo] at h
   simpa only[eqD] using h
  case obj=>cases he
  case dic=>cases he
  case dit=>cases he
 case lst ds=>
  cases n with
  | zero=>cases hd
  | succ n=>
  have hu1:A.in1.units+n<cLine:=by show A.units+1+n<cLine;omega
  simp only[Rep] at rx
  obtain⟨a,xs,rfl,q,rs⟩:=rx
  cases qx
  obtain⟨its,rv,ht,_⟩:=I.list q.sq
  have ht':=ht.isList
  cases e
  case non=>simp only[Rep] at ry;subst ry;cases qy;simpa only[eqD,Bool.not_false] using RcAt.list_none ht' hu0
  case bl=>simp only[Rep] at ry;subst ry;cases qy;simpa only[eqD,Bool.not_false] using RcAt.list_bool _ ht' hu0
  case int=>simp only[Rep] at ry;subst ry;obtain⟨t,rfl⟩:=qy;simpa only[eqD,Bool.not_false] using RcAt.list_int _ t ht' hu0
  case str=>simp only[Rep] at ry;subst ry;obtain⟨t,rfl⟩:=qy;simpa only[eqD,Bool.not_false] using RcAt.list_str _ t ht' hu0
  case tup es=>
   simp only[Rep] at ry
   obtain⟨b,ys,rfl,q',rs'⟩:=ry
   cases qy
   obtain⟨its',rv',hl,_⟩:=I.tuple q'
   simpa only[eqD,Bool.not_false] using RcAt.list_tuple ht' (show s.heap.IsTuple b its'.toArray from hl) hu0
  case lst es=>
   simp only[Rep] at ry
   obtain⟨b,ys,rfl,q',rs'⟩:=ry
   cases qy
   obtain⟨its',rv',ht2,_⟩:=I.list q'.sq
   have l1:its.toArray.size=ds.length:=by rw[List.size_toArray,←rv.length,rs.length]
   have l2:its'.toArray.size=es.length:=by rw[List.size_toArray,←rv'.length,rs'.length]
   by_cases hl:ds.length=es.length
   ·have h:=RcAt.lists (e:=fun j=>eqD (ds.getD j .non) (es.getD j .non)) ht' ht2.isList (by rw[l1,l2,hl]) hu0 fun j h1 h2=>by
     obtain⟨v1,a1,b1,c1⟩:=zbd rv rs h1
     obtain⟨v2,a2,b2,c2⟩:=zbd rv' rs' h2
     exact ze3 I n A.in1 _ _ v1 v2 _ _ (hd _ c1) (he _ c2) hu1 b1 b2 a1 a2
    rw[l1,←zcl ds es hl] at h
    simpa only[eqD] using h
   ·have h:=RcAt.lists_lengths (A:=A) ht' ht2.isList (by rw[l1,l2];simpa using hl) hu0
    simp only[eqD,zck hl]
    exact h
  case obj=>cases he
  case dic=>cases he
  case dit=>cases he
 case obj=>cases n<;>cases hd
 case dic=>cases n<;>cases hd
 case dit=>cases n<;>cases hd
theorem zjj(I:Inv X pins σ H s):∀(n:Nat) (A:Around) (d e:D) (x y:V) (v u:Value),okE n d→okE n e→A.units+n<cLine→Rep X.K H x d→Rep X.K H y e→RelV x v→RelV y u→RcNeAt A s v u (!eqD d e):=by
 intro n A d e x y v u hd he hu rx ry qx qy
 have hu0:A.units<cLine:=by omega
 cases d
 case non=>
  simp only[Rep] at rx;subst rx;cases qx
  cases e
  case non=>simp only[Rep] at ry;subst ry;cases qy;simpa only[eqD,Bool.not_true] using RcNeAt.none_none
  case bl=>simp only[Rep] at ry;subst ry;cases qy;simpa only[eqD,Bool.not_false] using RcNeAt.none_bool _
  case int=>simp only[Rep] at ry;subst ry;obtain⟨t,rfl⟩:=qy;simpa only[eqD,Bool.not_false] using RcNeAt.none_int _ t
  case str=>simp only[Rep] at ry;subst ry;obtain⟨t,rfl⟩:=qy;simpa only[eqD,Bool.not_false] using RcNeAt.none_str _ t
  case tup=>
   simp only[Rep] at ry;obtain⟨b,ys,rfl,q,rs⟩:=ry;cases qy;obtain⟨its,rv,ht,_⟩:=I.tuple q
   simpa only[eqD,Bool.not_false] using RcNeAt.none_tuple (show s.heap.IsTuple b its.toArray from ht) hu0
  case lst=>
   simp only[Rep] at ry;obtain⟨b,ys,rfl,q,rs⟩:=ry;cases qy;obtain⟨its,rv,ht,_⟩:=I.list q.sq
   simpa only[eqD,Bool.not_false] using RcNeAt.none_list ht.isList hu0
  case obj=>cases n<;>cases he
  case dic=>cases n<;>cases he
  case dit=>cases n<;>cases he
 case bl a=>
  simp only[Rep] at rx;subst rx;cases qx
  cases e
  case non=>simp only[Rep] at ry;subst ry;cases qy;simpa only[eqD,Bool.not_false] using RcNeAt.bool_none _
  case bl=>simp only[Rep] at ry;subst ry;cases qy;simpa only[eqD] using RcNeAt.bool_bool _ _
  case int=>simp only[Rep] at ry;subst ry;obtain⟨t,rfl⟩:=qy;simpa only[eqD] using RcNeAt.bool_int _ _ t
  case str=>simp only[Rep] at ry;subst ry;obtain⟨t,rfl⟩:=qy;simpa only[eqD,Bool.not_false] using RcNeAt.bool_str _ _ t
  case tup=>
   simp only[Rep] at ry;obtain⟨b,ys,rfl,q,rs⟩:=ry;cases qy;obtain⟨its,rv,ht,_⟩:=I.tuple q
   simpa only[eqD,Bool.not_false] using RcNeAt.bool_tuple _ (show s.heap.IsTuple b its.toArray from ht) hu0
  case lst=>
   simp only[Rep] at ry;obtain⟨b,ys,rfl,q,rs⟩:=ry;cases qy;obtain⟨its,rv,ht,_⟩:=I.list q.sq
   simpa only[eqD,Bool.not_false] using RcNeAt.bool_list _ ht.isList hu0
  case obj=>cases n<;>cases he
  case dic=>cases n<;>cases he
  case dit=>cases n<;>cases he
 case int a=>
  simp only[Rep] at rx;subst rx;obtain⟨t0,rfl⟩:=qx
  cases e
  case non=>simp only[Rep] at ry;subst ry;cases qy;simpa only[eqD,Bool.not_false] using RcNeAt.int_none _ t0
  case bl=>simp only[Rep] at ry;subst ry;cases qy;simpa only[eqD] using RcNeAt.int_bool _ t0 _
  case int=>simp only[Rep] at ry;subst ry;obtain⟨t,rfl⟩:=qy;simpa only[eqD] using RcNeAt.int_int _ t0 _ t
  case str=>simp only[Rep] at ry;subst ry;obtain⟨t,rfl⟩:=qy;simpa only[eqD,Bool.not_false] using RcNeAt.int_str _ t0 _ t
  case tup=>
   simp only[Rep] at ry;obtain⟨b,ys,rfl,q,rs⟩:=ry;cases qy;obtain⟨its,rv,ht,_⟩:=I.tuple q
   simpa only[eqD,Bool.not_false] using RcNeAt.int_tuple _ t0 (show s.heap.IsTuple b its.toArray from ht) hu0
  case lst=>
   simp only[Rep] at ry;obtain⟨b,ys,rfl,q,rs⟩:=ry;cases qy;obtain⟨its,rv,ht,_⟩:=I.list q.sq
   simpa only[eqD,Bool.not_false] using RcNeAt.int_list _ t0 ht.isList hu0
  case obj=>cases n<;>cases he
  case dic=>cases n<;>cases he
  case dit=>cases n<;>cases he
 case str a=>
  simp only[Rep] at rx;subst rx;obtain⟨t0,rfl⟩:=qx
  cases e
  case non=>simp only[Rep] at ry;subst ry;cases qy;simpa only[eqD,Bool.not_false] using RcNeAt.str_none _ t0
  case bl=>simp only[Rep] at ry;subst ry;cases qy;simpa only[eqD,Bool.not_false] using RcNeAt.str_bool _ t0 _
  case int=>simp only[Rep] at ry;subst ry;obtain⟨t,rfl⟩:=qy;simpa only[eqD,Bool.not_false] using RcNeAt.str_int _ t0 _ t
  case str=>simp only[Rep] at ry;subst ry;obtain⟨t,rfl⟩:=qy;simpa only[eqD] using RcNeAt.str_str _ t0 _ t
  case tup=>
   simp only[Rep] at ry;obtain⟨b,ys,rfl,q,rs⟩:=ry;cases qy;obtain⟨its,rv,ht,_⟩:=I.tuple q
   simpa only[eqD,Bool.not_false] using RcNeAt.str_tuple _ t0 (show s.heap.IsTuple b its.toArray from ht) hu0
  case lst=>
   simp only[Rep] at ry;obtain⟨b,ys,rfl,q,rs⟩:=ry;cases qy;obtain⟨its,rv,ht,_⟩:=I.list q.sq
   simpa only[eqD,Bool.not_false] using RcNeAt.str_list _ t0 ht.isList hu0
  case obj=>cases n<;>cases he
  case dic=>cases n<;>cases he
  case dit=>cases n<;>cases he
 case tup ds=>
  cases n with
  | zero=>cases hd
  | succ n=>
  have hu1:A.in1.units+n<cLine:=by show A.units+1+n<cLine;omega
  simp only[Rep] at rx
  obtain⟨a,xs,rfl,q,rs⟩:=rx
  cases qx
  obtain⟨its,rv,ht,_⟩:=I.tuple q
  have ht':s.heap.IsTuple a its.toArray:=ht
  cases e
  case non=>simp only[Rep] at ry;subst ry;cases qy;simpa only[eqD,Bool.not_false] using RcNeAt.tuple_none ht' hu0
  case bl=>simp only[Rep] at ry;subst ry;cases qy;simpa only[eqD,Bool.not_false] using RcNeAt.tuple_bool _ ht' hu0
  case int=>simp only[Rep] at ry;subst ry;obtain⟨t,rfl⟩:=qy;simpa only[eqD,Bool.not_false] using RcNeAt.tuple_int _ t ht' hu0
  case str=>simp only[Rep] at ry;subst ry;obtain⟨t,rfl⟩:=qy;simpa only[eqD,Bool.not_false] using RcNeAt.tuple_str _ t ht' hu0
  case lst es=>
   simp only[Rep] at ry
   obtain⟨b,ys,rfl,q',rs'⟩:=ry
   cases qy
   obtain⟨its',rv',hl,_⟩:=I.list q'.sq
   simpa only[eqD,Bool.not_false] using RcNeAt.tuple_list ht' hl.isList hu0
  case tup es=>
   simp only[Rep] at ry
   obtain⟨b,ys,rfl,q',rs'⟩:=ry
   cases qy
   obtain⟨its',rv',ht2,_⟩:=I.tuple q'
   have h:=RcNeAt.tuples (e:=fun j=>eqD (ds.getD j .non) (es.getD j .non)) ht' (show s.heap.IsTuple b its'.toArray from ht2) hu0 fun j h1 h2=>by
    obtain⟨v1,a1,b1,c1⟩:=zbd rv rs h1
    obtain⟨v2,a2,b2,c2⟩:=zbd rv' rs' h2
    exact ze3 I n A.in1 _ _ v1 v2 _ _ (hd _ c1) (he _ c2) hu1 b1 b2 a1 a2
   have l1:its.toArray.size=ds.length:=by rw[List.size_toArray,←rv.length,rs.length]
   have l2:its'.toArray.size=es.length:=by rw[List.size_toArray,←rv'.length,rs'.length]
   rw[l1,l2,zeo] at h
   simpa only[eqD] using h
  case obj=>cases he
  case dic=>cases he
  case dit=>cases he
 case lst ds=>
  cases n with
  | zero=>cases hd
  | succ n=>
  have hu1:A.in1.units+n<cLine:=by show A.units+1+n<cLine;omega
  simp only[Rep] at rx
  obtain⟨a,xs,rfl,q,rs⟩:=rx
  cases qx
  obtain⟨its,rv,ht,_⟩:=I.list q.sq
  have ht':=ht.isList
  cases e
  case non=>simp only[Rep] at ry;subst ry;cases qy;simpa only[eqD,Bool.not_false] using RcNeAt.list_none ht' hu0
  case bl=>simp only[Rep] at ry;subst ry;cases qy;simpa only[eqD,Bool.not_false] using RcNeAt.list_bool _ ht' hu0
  case int=>simp only[Rep] at ry;subst ry;obtain⟨t,rfl⟩:=qy;simpa only[eqD,Bool.not_false] using RcNeAt.list_int _ t ht' hu0
  case str=>simp only[Rep] at ry;subst ry;obtain⟨t,rfl⟩:=qy;simpa only[eqD,Bool.not_false] using RcNeAt.list_str _ t ht' hu0
  case tup es=>
   simp only[Rep] at ry
   obtain⟨b,ys,rfl,q',rs'⟩:=ry
   cases qy
   obtain⟨its',rv',hl,_⟩:=I.tuple q'
   simpa only[eqD,Bool.not_false] using RcNeAt.list_tuple ht' (show s.heap.IsTuple b its'.toArray from hl) hu0
  case lst es=>
   simp only[Rep] at ry
   obtain⟨b,ys,rfl,q',rs'⟩:=ry
   cases qy
   obtain⟨its',rv',ht2,_⟩:=I.list q'.sq
   have l1:its.toArray.size=ds.length:=by rw[List.size_toArray,←rv.length,rs.length]
   have l2:its'.toArray.size=es.length:=by rw[List.size_toArray,←rv'.length,rs'.length]
   by_cases hl:ds.length=es.length
   ·have h:=RcNeAt.lists (e:=fun j=>eqD (ds.getD j .non) (es.getD j .non)) ht' ht2.isList (by rw[l1,l2,hl]) hu0 fun j h1 h2=>by
     obtain⟨v1,a1,b1,c1⟩:=zbd rv rs h1
     obtain⟨v2,a2,b2,c2⟩:=zbd rv' rs' h2
     exact ze3 I n A.in1 _ _ v1 v2 _ _ (hd _ c1) (he _ c2) hu1 b1 b2 a1 a2
    rw[l1,←zcl ds es hl] at h
    simpa only[eqD] using h
   ·have h:=RcNeAt.lists_lengths (A:=A) ht' ht2.isList (by rw[l1,l2];simpa using hl) hu0
    simp only[eqD,zck hl]
    exact h
  case obj=>cases he
  case dic=>cases he
  case dit=>cases he
 case obj=>cases n<;>cases hd
 case dic=>cases n<;>cases hd
 case dit=>cases n<;>cases hd
end
section
variable {X:Cx}
noncomputable def oEq:O2:=fun d e Q=>okE 9 d∧okE 9 e∧Q (.fz (.bl (eqD d e)))
noncomputable def oNe:O2:=fun d e Q=>okE 9 d∧okE 9 e∧Q (.fz (.bl (!eqD d e)))
theorem zg1(hu:X.A.units+64<cLine):OpP X (compareOp .Eq) oEq:=by
 refine⟨fun x y H Q=>∃d e,okE 9 d∧okE 9 e∧Rep X.K H x d∧Rep X.K H y e∧Q (.bl (eqD d e)) H,fun pins s σ H x y v u Q I rx ry h=>?_,fun G H x y d e Q P s rx ry h k=>?_⟩
 ·obtain⟨d,e,hd,he,rd,re,q⟩:=h
  exact zmb I 9 X.A d e x y v u hd he (by omega) rd re rx ry _ _ _ _ ⟨.bl _,H,I,rfl,q⟩
 ·exact⟨d,e,h.1,h.2.1,rx.mono s,ry.mono s,k _ _ _ G (.refl s) (fzR (za4 _ _ _)) h.2.2⟩
theorem znF(hu:X.A.units+64<cLine):OpP X (compareOp .NotEq) oNe:=by
 refine⟨fun x y H Q=>∃d e,okE 9 d∧okE 9 e∧Rep X.K H x d∧Rep X.K H y e∧Q (.bl (!eqD d e)) H,fun pins s σ H x y v u Q I rx ry h=>?_,fun G H x y d e Q P s rx ry h k=>?_⟩
 ·obtain⟨d,e,hd,he,rd,re,q⟩:=h
  exact zjj I 9 X.A d e x y v u hd he (by omega) rd re rx ry _ _ _ _ ⟨.bl _,H,I,rfl,q⟩
 ·exact⟨d,e,h.1,h.2.1,rx.mono s,ry.mono s,k _ _ _ G (.refl s) (fzR (za4 _ _ _)) h.2.2⟩
noncomputable def inD(d:D)(ds:List D):Bool:=ds.any fun e=>eqD e d
noncomputable def zj5(neg:Bool):O2:=fun d e Q=>match d,e with
 | .str x,.str y=>Q (.fz (.bl (if neg then !(!(Builtin.Str.occurrences y x 0 y.length 1).isEmpty) else !(Builtin.Str.occurrences y x 0 y.length 1).isEmpty)))
 | d,.lst es=>okE 8 d∧(∀e∈es,okE 8 e)∧Q (.fz (.bl (if neg then !inD d es else inD d es)))
 | d,.tup es=>okE 8 d∧(∀e∈es,okE 8 e)∧Q (.fz (.bl (if neg then !inD d es else inD d es)))
 | _,_=>False
noncomputable def eqW(X:Cx)(H:Hp)(d:D)(u:Value):Bool:=open Classical in if h:∃(v:V) (e:D),okE 8 e∧RelV v u∧Rep X.K H v e then eqD h.choose_spec.choose d else false
theorem zhN{pins:List (Addr×Obj)}{σ:St}{H:Hp}{s:Shared}(I:Inv X pins σ H s){d e:D}{v:V}{u:Value}(he:okE 8 e)(rv:RelV v u)(re:Rep X.K H v e):eqW X H d u=eqD e d:=by
 have h:∃(v:V) (e:D),okE 8 e∧RelV v u∧Rep X.K H v e:=⟨v,e,he,rv,re⟩
 unfold eqW
 rw[dif_pos h]
 obtain⟨h1,h2,h3⟩:=h.choose_spec.choose_spec
 have e1:h.choose=v:=RelV.inj h2 rv
 have h4:∀v',v'=v→∀e',okE 8 e'→Rep X.K H v' e'→e'=e:=fun v' hv e' o r=>by subst hv;exact zep I 8 _ e _ o he r re
 rw[h4 _ e1 _ h1 h3]
theorem zhO{pins:List (Addr×Obj)}{σ:St}{H:Hp}{s:Shared}(I:Inv X pins σ H s){d:D}:∀{es:List D} {vs:List V} {us:List Value},(∀e∈es,okE 8 e)→Vals vs us→Reps X.K H vs es→us.any (eqW X H d)=inD d es
 | [],_,_,_,rv,re=>by
  cases rv
  ·rfl
  ·simp only[Reps] at re
 | e::es,_,_,h,rv,re=>by
  cases rv with
  | nil=>simp only[Reps] at re
  | cons r t=>
   simp only[Reps] at re
   rw[List.any_cons,zhN I (h e (by simp)) r re.1,zhO I (fun x hx=>h x (by simp[hx])) t re.2]
   rfl
theorem zer{pins:List (Addr×Obj)}{σ:St}{H:Hp}{s:Shared}{A:Around}(I:Inv X pins σ H s){d:D}{x:V}{v:Value}(hd:okE 8 d)(hu:A.units+8<cLine)(rx:Rep X.K H x d)(qx:RelV x v){es:List D}{vs:List V}{us:List Value}
  (he:∀e∈es,okE 8 e) (rv:Vals vs us) (re:Reps X.K H vs es):∀u∈us.toArray,EqAt A s u v (eqW X H d u):=fun u hu'=>by
 obtain⟨j,hj,e⟩:=Array.mem_iff_getElem.mp hu'
 obtain⟨w,a1,b1,c1⟩:=zbd rv re hj
 rw[e] at a1
 rw[zhN I (he _ c1) a1 b1]
 exact ze3 I 8 A _ _ w x _ _ (he _ c1) hd hu b1 rx a1 qx
theorem zmc(hu:X.A.units+64<cLine):OpR X (compareOp .In) (fun x y H Q=>∃p d es vs,y=.ref p∧(SqL X.K H p vs∨SqT X.K H p vs)∧okE 8 d∧(∀e∈es,okE 8 e)∧Rep X.K H x d∧Reps X.K H vs es∧Q (.bl (inD d es)) H):=by
 intro pins s σ H x y v u Q I rx ry h
 obtain⟨p,d,es,vs,rfl,hq,hd,he,rd,re,q⟩:=h
 cases ry
 rcases hq with hq | hq
 ·obtain⟨its,r,pl,hz⟩:=I.list hq
  refine SeqAt.in_listAt (eqW X H d) pl.isList (zer I hd (by show X.A.units+1+8<cLine;omega) rd rx he r re) ⟨.bl _,H,I,rfl,?_⟩
  rw[show its.toArray.any (eqW X H d)=its.any (eqW X H d) by simp,zhO I he r re]
  exact q
 ·obtain⟨its,r,pl,hz⟩:=I.tuple hq
  refine SeqAt.in_tupleAt (eqW X H d) pl (zer I hd (by show X.A.units+1+8<cLine;omega) rd rx he r re) ⟨.bl _,H,I,rfl,?_⟩
  rw[show its.toArray.any (eqW X H d)=its.any (eqW X H d) by simp,zhO I he r re]
  exact q
theorem znm(hu:X.A.units+64<cLine):OpP X (compareOp .In) (zj5 false):=by
 refine⟨_,op_in_str.or (zmc hu),fun G H x y d e Q P s rx ry h k=>?_⟩
 unfold zj5 at h
 split at h
 ·simp only[Rep] at rx ry
  exact .inl ⟨_,_,rx,ry,k _ _ _ G (.refl s) (fzR (za4 _ _ _)) h⟩
 ·simp only[Rep] at ry
  obtain⟨a,ys,rfl,hy,rys⟩:=ry
  exact .inr ⟨a,_,_,ys,rfl,.inl ((s.rdl hy).sq),h.1,h.2.1,rx.mono s,rys.mono s,k _ _ _ G (.refl s) (fzR (za4 _ _ _)) h.2.2⟩
 ·simp only[Rep] at ry
  obtain⟨a,ys,rfl,hy,rys⟩:=ry
  exact .inr ⟨a,_,_,ys,rfl,.inr (s.seqT hy),h.1,h.2.1,rx.mono s,rys.mono s,k _ _ _ G (.refl s) (fzR (za4 _ _ _)) h.2.2⟩
 ·exact h.elim
noncomputable def zfU:D→Bool
 | .non=>true
 | _=>false
noncomputable def zmd(neg:Bool):O2:=fun d e Q=>match e with
 | .non=>Q (.fz (.bl (if neg then !zfU d else zfU d)))
 | _=>False
theorem zjk{K:PySem.W.Frag}{G:Hp}{x:V}{d:D}(r:Rep K G x d):decide (x=.non)=zfU d:=by
 cases d<;>simp only[Rep] at r
 case non=>subst r;rfl
 case bl=>subst r;rfl
 case int=>subst r;rfl
 case str=>subst r;rfl
 case tup=>obtain⟨_,_,rfl,_⟩:=r;rfl
 case lst=>obtain⟨_,_,rfl,_⟩:=r;rfl
 case obj=>obtain⟨_,_,_,_,rfl,_⟩:=r;rfl
 case dic=>obtain⟨_,_,_,rfl,_⟩:=r;rfl
 case dit=>obtain⟨_,_,_,rfl,_⟩:=r;rfl
theorem zkO:OpP X (compareOp .IsNot) (zmd true):=by
 refine⟨_,zkv,fun G H x y d e Q P s rx ry h k=>?_⟩
 unfold zmd at h
 split at h
 ·simp only[Rep] at ry
  refine⟨ry,?_⟩
  rw[zjk rx]
  exact k _ _ _ G (.refl s) (fzR (za4 _ _ _)) h
 ·exact h.elim
end
end L2
namespace L2
open PySem PySem.Spec PyProof.Rows
section
variable {X:Cx} {pos:Pos} {a b c:Expr} {ta tb tc:TD} {pa pb':TDb} {zeP:List Expr}
noncomputable def zkP(t:TDb):TDb:=fun ρ Q=>t ρ fun k=>Q (!k)
noncomputable def bOr(t u:TDb):TDb:=fun ρ Q=>t ρ fun k=>if k=true then Q true else u ρ Q
theorem zgo(h:PB X a pa):PB X (.UnaryOp .Not a pos) (zkP pa):=by
 obtain⟨t,p,q⟩:=h
 exact⟨_,zlD p,fun ρ σ G0 H0 G H Q P E h k=>q ρ σ G0 H0 G H _ _ E h fun b H' G' x hq=>k _ H' G' x hq⟩
noncomputable def PWb(X:Cx)(e:Expr)(t:TDb):Prop:=∃tt,PW X e tt∧∀(ρ:Ev) (σ:St) (G0 H0 G H:Hp) (Q:Bool→Prop) (P:Bool→Hp→Prop),EOk X.K G0 H0 ρ σ G H→t ρ Q→
 (∀b H' G',Ext G H G' H'→Q b→P b H')→tt σ H P
theorem PWb.pb{e:Expr}{t:TDb}(h:PWb X e t):PB X e t:=let⟨tt,p,q⟩:=h;⟨tt,p.pt,q⟩
theorem zmU(h:PB X a pa):PWb X (.BoolOp .And [a] pos) pa:=let⟨tt,p,q⟩:=h;⟨tt,zkr p,q⟩
theorem zkQ(h:PB X a pa):PWb X (.BoolOp .Or [a] pos) pa:=let⟨tt,p,q⟩:=h;⟨tt,zlC p,q⟩
theorem zme(h:PB X a pa)(h':PWb X (.BoolOp .Or (b::zeP) pos) pb'):PWb X (.BoolOp .Or (a::b::zeP) pos) (bOr pa pb'):=by
 obtain⟨t,p,q⟩:=h
 obtain⟨t',p',q'⟩:=h'
 refine⟨_,zm4 p p',fun ρ σ G0 H0 G H Q P E h k=>q ρ σ G0 H0 G H _ _ E h fun b H' G' x hq=>?_⟩
 cases b with
 | true=>rw[if_pos rfl] at hq ⊢;exact k true H' G' x hq
 | false=>rw[if_neg Bool.false_ne_true] at hq ⊢;exact q' ρ σ G0 H0 G' H' Q P (E.ext x) hq fun b2 H2 G2 x2 h2=>k b2 H2 G2 (x.trans x2) h2
noncomputable def zmV(t:TD):TD:=fun ρ Q=>t ρ fun r=>match r with
 | .fz (.bl k)=>Q (.fz (.bl (!k)))
 | _=>False
noncomputable def zkR(t u:TD):TD:=fun ρ Q=>t ρ fun r=>match r with
 | .fz (.bl k)=>if k=true then u ρ Q else Q (.fz (.bl false))
 | _=>False
noncomputable def dOr(t u:TD):TD:=fun ρ Q=>t ρ fun r=>match r with
 | .fz (.bl k)=>if k=true then Q (.fz (.bl true)) else u ρ Q
 | _=>False
theorem zmf(h:PD X a ta):PD X (.UnaryOp .Not a pos) (zmV ta):=by
 obtain⟨t,p,q⟩:=h
 refine⟨_,zlG p,fun ρ σ G0 H0 G H Q P E h k=>q ρ σ G0 H0 G H _ _ E h fun v H' r G' x rr hq=>?_⟩
 split at hq
 ·rename_i kk
  have e:v=.bl kk:=by simpa only[RepR,Rep] using rr
  exact⟨kk,e,k _ H' _ G' x (fzR (za4 _ _ _)) hq⟩
 ·exact hq.elim
theorem zhP{op}(h:PD X a ta):PD X (.BoolOp op [a] pos) ta:=let⟨t,p,q⟩:=h;⟨t,zlE p,q⟩
theorem zgp(h:PD X a ta)(h':PD X (.BoolOp .And (b::zeP) pos) tb):PD X (.BoolOp .And (a::b::zeP) pos) (zkR ta tb):=by
 obtain⟨t,p,q⟩:=h
 obtain⟨t',p',q'⟩:=h'
 refine⟨_,zlF p p',fun ρ σ G0 H0 G H Q P E h k=>q ρ σ G0 H0 G H _ _ E h fun v H' r G' x rr hq=>?_⟩
 split at hq
 ·rename_i kk
  have e:v=.bl kk:=by simpa only[RepR,Rep] using rr
  refine⟨kk,e,?_⟩
  cases kk with
  | true=>rw[if_pos rfl] at hq ⊢;exact q' ρ σ G0 H0 G' H' Q P (E.ext x) hq fun b2 H2 r2 G2 x2 rr2 h2=>k b2 H2 r2 G2 (x.trans x2) (rr2.older x.h) h2
  | false=>rw[if_neg Bool.false_ne_true] at hq ⊢;exact k _ H' _ G' x (fzR (za4 _ _ _)) hq
 ·exact hq.elim
theorem znn(h:PD X a ta)(h':PD X (.BoolOp .Or (b::zeP) pos) tb):PD X (.BoolOp .Or (a::b::zeP) pos) (dOr ta tb):=by
 obtain⟨t,p,q⟩:=h
 obtain⟨t',p',q'⟩:=h'
 refine⟨_,zm7 p p',fun ρ σ G0 H0 G H Q P E h k=>q ρ σ G0 H0 G H _ _ E h fun v H' r G' x rr hq=>?_⟩
 split at hq
 ·rename_i kk
  have e:v=.bl kk:=by simpa only[RepR,Rep] using rr
  refine⟨kk,e,?_⟩
  cases kk with
  | true=>rw[if_pos rfl] at hq ⊢;exact k _ H' _ G' x (fzR (za4 _ _ _)) hq
  | false=>rw[if_neg Bool.false_ne_true] at hq ⊢;exact q' ρ σ G0 H0 G' H' Q P (E.ext x) hq fun b2 H2 r2 G2 x2 rr2 h2=>k b2 H2 r2 G2 (x.trans x2) (rr2.older x.h) h2
 ·exact hq.elim
noncomputable def dIf(t:TDb)(ta tb:TD):TD:=fun ρ Q=>t ρ fun k=>if k=true then ta ρ Q else tb ρ Q
theorem zgq(h:PB X c pa)(h1:PD X a ta)(h2:PD X b tb):PD X (.IfExp c a b pos) (dIf pa ta tb):=by
 obtain⟨t,p,q⟩:=h
 obtain⟨t1,p1,q1⟩:=h1
 obtain⟨t2,p2,q2⟩:=h2
 refine⟨_,ziZ p p1 p2,fun ρ σ G0 H0 G H Q P E h k=>q ρ σ G0 H0 G H _ _ E h fun b H' G' x hq=>?_⟩
 cases b with
 | true=>rw[if_pos rfl] at hq ⊢;exact q1 ρ σ G0 H0 G' H' Q P (E.ext x) hq fun b2 H2 r2 G2 x2 rr2 h2=>k b2 H2 r2 G2 (x.trans x2) (rr2.older x.h) h2
 | false=>rw[if_neg Bool.false_ne_true] at hq ⊢;exact q2 ρ σ G0 H0 G' H' Q P (E.ext x) hq fun b2 H2 r2 G2 x2 rr2 h2=>k b2 H2 r2 G2 (x.trans x2) (rr2.older x.h) h2
noncomputable def zcm(o o':O2)(ta tb tc:TD):TD:=fun ρ Q=>ta ρ fun ra=>tb ρ fun rb=>o ra.val rb.val fun r=>match r with
 | .fz (.bl k)=>if k=true then tc ρ fun rc=>o' rb.val rc.val Q else Q (.fz (.bl false))
 | _=>False
noncomputable abbrev Rdg(K:PySem.W.Frag)(t:TD)(tt:TE):Prop:=∀(ρ:Ev) (σ:St) (G0 H0 G H:Hp) (Q:R→Prop) (P:VK),EOk K G0 H0 ρ σ G H→t ρ Q→(∀v H' r G',Ext G H G' H'→RepR K G' H' H v r→Q r→P v H')→tt σ H P
theorem zgr{K:PySem.W.Frag}{g g':Int→Int→Bool}{t1 t2 t3:TE}(q1:Rdg K ta t1)(q2:Rdg K tb t2)(q3:Rdg K tc t3) :
  Rdg K (zcm (oI0 fun i j=>.bl (g i j)) (oI0 fun i j=>.bl (g' i j)) ta tb tc) (zhq (rI0 fun i j=>.bl (g i j)) (rI0 fun i j=>.bl (g' i j)) t1 t2 t3):=by
 refine fun ρ σ G0 H0 G H Q P E h k=>q1 ρ σ G0 H0 G H _ _ E h fun v1 H1 r1 G1 x1 rr1 hq1=>?_
 obtain⟨G1',x1',rv1,_⟩:=rr1.freeze x1
 refine q2 ρ σ G0 H0 G1' H1 _ _ (E.ext x1') hq1 fun v2 H2 r2 G2 x2 rr2 hq2=>?_
 obtain⟨G2',x2',rv2,_⟩:=rr2.freeze x2
 unfold oI0 at hq2
 split at hq2
 ·rename_i i j e1 e2
  rw[e1] at rv1
  rw[e2] at rv2
  simp only[Rep] at rv1 rv2
  refine⟨i,j,rv1,rv2,_,rfl,?_⟩
  dsimp only at hq2
  cases hk:g i j with
  | false=>
   rw[hk,if_neg Bool.false_ne_true] at hq2
   rw[if_neg Bool.false_ne_true]
   exact k _ _ _ G2' (x1'.trans x2') (fzR (za4 _ _ _)) hq2
  | true=>
   rw[hk,if_pos rfl] at hq2
   rw[if_pos rfl]
   refine q3 ρ σ G0 H0 G2' H2 _ _ (E.ext (x1'.trans x2')) hq2 fun v3 H3 r3 G3 x3 rr3 hq3=>?_
   obtain⟨G3',x3',rv3,_⟩:=rr3.freeze x3
   rw[e2] at hq3
   split at hq3
   ·rename_i i' j' e3 e4
    cases e3
    rw[e4] at rv3
    simp only[Rep] at rv3
    exact⟨j,j',rv2,rv3,k _ _ _ G3' ((x1'.trans x2').trans x3') (fzR (za4 _ _ _)) hq3⟩
   ·exact hq3.elim
 ·exact hq2.elim
theorem zmg{K:PySem.W.Frag}{t:TD}{tt:TE}(q:Rdg K t tt)(ρ:Ev)(σ:St)(G0 H0 G H:Hp)(Q:Bool→Prop)(P:Bool→Hp→Prop)(E:EOk K G0 H0 ρ σ G H)(h:zeb t ρ Q)(k:∀b H' G',Ext G H G' H'→Q b→P b H'):zkx tt σ H P:=by
 refine q ρ σ G0 H0 G H _ _ E h fun v H' r G' x1 r1 h1=>?_
 split at h1
 ·rename_i kk
  have e:v=.bl kk:=by simpa only[RepR,Rep] using r1
  exact⟨kk,e,k kk H' G' x1 h1⟩
 ·exact h1.elim
theorem zes{op op':CmpOp}{g g':Int→Int→Bool}(ho:OpR X (compareOp op) (rI0 fun i j=>.bl (g i j)))(ho':OpR X (compareOp op') (rI0 fun i j=>.bl (g' i j)))(h1:PD X a ta)(h2:PD X b tb)(h3:PD X c tc)(hm:lastMarks [op,op'] [b,c]=false:=by with_unfolding_all rfl) :
  PD X (.Compare a [op,op'] [b,c] pos) (zcm (oI0 fun i j=>.bl (g i j)) (oI0 fun i j=>.bl (g' i j)) ta tb tc):=by
 obtain⟨t1,p1,q1⟩:=h1
 obtain⟨t2,p2,q2⟩:=h2
 obtain⟨t3,p3,q3⟩:=h3
 exact⟨_,zi5 ho ho' p1 p2 p3 hm,zgr q1 q2 q3⟩
theorem zjl{op op':CmpOp}{g g':Int→Int→Bool}(ho:OpR X (compareOp op) (rI0 fun i j=>.bl (g i j)))(ho':OpR X (compareOp op') (rI0 fun i j=>.bl (g' i j)))(h1:PD X a ta)(h2:PD X b tb)(h3:PD X c tc)(hm:lastMarks [op,op'] [b,c]=false:=by with_unfolding_all rfl) :
  PB X (.Compare a [op,op'] [b,c] pos) (zeb (zcm (oI0 fun i j=>.bl (g i j)) (oI0 fun i j=>.bl (g' i j)) ta tb tc)):=by
 obtain⟨t1,p1,q1⟩:=h1
 obtain⟨t2,p2,q2⟩:=h2
 obtain⟨t3,p3,q3⟩:=h3
 exact⟨_,zi6 ho ho' p1 p2 p3 hm,zmg (zgr q1 q2 q3)⟩
noncomputable def oIx:O2:=fun d e Q=>match d,e with
 | .lst ds,.int i=>∃d,atI ds i=some d∧Q (.fz d)
 | .tup ds,.int i=>∃d,atI ds i=some d∧Q (.fz d)
 | .str z,.int i=>z.length≤sizeLine∧∃c,atI z.cps.toList i=some c∧Q (.fz (.str ⟨#[c]⟩))
 | _,_=>False
theorem zhQ{K:PySem.W.Frag}{G:Hp}{xs:List V}{ds:List D}{i:Int}{d:D}(r:Reps K G xs ds)(h:atI ds i=some d):∃v,atI xs i=some v∧Rep K G v d:=by
 unfold atI at h ⊢
 rw[r.length]
 cases e:ixN ds.length i with
 | none=>rw[e] at h;cases h
 | some j=>
  rw[e] at h
  simp only[Option.bind_some] at h ⊢
  exact r.get h
theorem za6(h1:PD X a ta)(h2:PD X b tb)(hs:zhA b:=by intro _ _;rfl):PD X (.Subscript a b pos) (dOp oIx ta tb):=by
 obtain⟨t1,p1,q1⟩:=h1
 obtain⟨t2,p2,q2⟩:=h2
 refine⟨_,znj zl1 p1 p2 hs,zgl (r:=rIx X.K) (fun G H x y d e Q P s rx ry h k=>?_) q1 q2⟩
 unfold oIx at h
 split at h
 ·simp only[Rep] at rx ry
  obtain⟨p,xs,rfl,hq,rs⟩:=rx
  obtain⟨d,hd,q⟩:=h
  obtain⟨v,hv,rv⟩:=zhQ rs hd
  exact .inl ⟨p,xs,_,v,rfl,ry,(s.rdl hq).sq,hv,k _ _ _ G (.refl s) (fzR rv) q⟩
 ·simp only[Rep] at rx ry
  obtain⟨p,xs,rfl,hq,rs⟩:=rx
  obtain⟨d,hd,q⟩:=h
  obtain⟨v,hv,rv⟩:=zhQ rs hd
  exact .inr (.inl ⟨p,xs,_,v,rfl,ry,s.seqT hq,hv,k _ _ _ G (.refl s) (fzR rv) q⟩)
 ·simp only[Rep] at rx ry
  obtain⟨hz,c,hc,q⟩:=h
  exact .inr (.inr ⟨_,_,c,rx,ry,hz,hc,k _ _ _ G (.refl s) (fzR (zbx _ _ _)) q⟩)
 ·exact h.elim
variable {e:Expr} {es:List Expr} {te:TD} {ts:TDa}
noncomputable def zar:TDa:=fun _ Q=>Q []
noncomputable def zad(te:TD)(ts:TDa):TDa:=fun ρ Q=>te ρ fun r=>ts ρ fun ds=>Q (r.val::ds)
theorem zac:PDa X [] zar:=⟨_,zhv,fun ρ σ G0 H0 G H Q P E h k=>k [] H [] G (.refl E.e.s) Reps.nil h⟩
theorem zaa(h:PD X e te)(hr:PDa X es ts)(hs:starEach (e::es) X.env=(false,eval e X.env)::starEach es X.env:=by rfl):PDa X (e::es) (zad te ts):=by
 obtain⟨t1,p1,q1⟩:=h
 obtain⟨t2,p2,q2⟩:=hr
 refine⟨_,zfO p1 p2 hs,fun ρ σ G0 H0 G H Q P E h k=>q1 ρ σ G0 H0 G H _ _ E h fun v H' r G' x1 rr hq=>?_⟩
 obtain⟨G2,x2,rv,_⟩:=rr.freeze x1
 refine q2 ρ σ G0 H0 G2 H' _ _ (E.ext x2) hq fun vs H3 ds G3 x3 rs hq3=>?_
 exact k _ H3 _ G3 (x2.trans x3) (Reps.cons (rv.mono x3.g) rs) hq3
noncomputable def ziU(ts:TDa):TD:=fun ρ Q=>ts ρ fun ds=>ds.length≤sizeLine∧Q (.fz (.tup ds))
noncomputable def zgs(ts:TDa):TD:=fun ρ Q=>ts ρ fun ds=>ds.length≤sizeLine∧Q (.ow ds)
theorem ze4{x1}(h:PDa X es ts):PD X (.Tuple es x1 pos) (ziU ts):=by
 obtain⟨t,p,q⟩:=h
 refine⟨_,zlU p,fun ρ σ G0 H0 G H Q P E h k=>q ρ σ G0 H0 G H _ _ E h fun vs H' ds G' x rs hq=>⟨by rw[rs.length];exact hq.1,fun p hp=>?_⟩⟩
 have x2:Ext G' H' (upd G' p (.tup vs)) (upd H' p (.tup vs)):=.new x.s hp
 refine k _ _ (.fz (.tup ds)) _ (x.trans x2) ?_ hq.2
 show Rep X.K _ _ (.tup ds)
 simp only[Rep]
 exact⟨p,vs,rfl,SqT.of zal,rs.mono x2.g⟩
theorem zbL(h:PDa X es ts):PD X (.List es pos) (zgs ts):=by
 obtain⟨t,p,q⟩:=h
 refine⟨_,zlV p,fun ρ σ G0 H0 G H Q P E h k=>q ρ σ G0 H0 G H _ _ E h fun vs H' ds G' x rs hq=>⟨by rw[rs.length];exact hq.1,fun p hp=>?_⟩⟩
 exact k _ _ (.ow ds) G' (x.trans (.own x.s hp)) ⟨p,vs,rfl,x.h.free hp,x.s.free hp,zal,rs⟩ hq.2
noncomputable def zdH(X:Cx)(f:Value)(o:List D→(R→Prop)→Prop):Prop:=∃r,CallR X f r∧∀(G H:Hp) (vs:List V) (ds:List D) (Q:R→Prop) (P:VK),Same G H→Reps X.K G vs ds→o ds Q→
 (∀v H' r' G',Ext G H G' H'→RepR X.K G' H' H v r'→Q r'→P v H')→r vs H P
noncomputable def dCB(o:List D→(R→Prop)→Prop)(ts:TDa):TD:=fun ρ Q=>ts ρ fun ds=>o ds Q
theorem zmh{o:List D→(R→Prop)→Prop}{r:List V→Hp→VK→Prop}{t:TA}
  (hr:∀(G H:Hp) (vs:List V) (ds:List D) (Q:R→Prop) (P:VK),Same G H→Reps X.K G vs ds→o ds Q→(∀v H' r' G',Ext G H G' H'→RepR X.K G' H' H v r'→Q r'→P v H')→r vs H P)
  (q:∀(ρ:Ev) (σ:St) (G0 H0 G H:Hp) (Q:List D→Prop) (P:List V→Hp→Prop),EOk X.K G0 H0 ρ σ G H→ts ρ Q→(∀vs H' ds G',Ext G H G' H'→Reps X.K G' vs ds→Q ds→P vs H')→t σ H P):Rdg X.K (dCB o ts) (tCB r t):=
 fun ρ σ G0 H0 G H Q P E h k=>q ρ σ G0 H0 G H _ _ E h fun vs H' ds G' x rs hq=>hr G' H' vs ds Q P x.s rs hq fun v H2 r' G2 x2 rr q2=>k v H2 r' G2 (x.trans x2) (rr.older x.h) q2
theorem zap{id:String}{x:Str}{p:Pos}{o:List D→(R→Prop)→Prop}(hc:zdH X (.builtin id) o)(hm:X.mg x=none)(hv:bootBuiltins x=some (.builtin id))(ha:PDa X (e::es) ts)(hg:Gl X x:=by rfl)(hn:x≠"__name__":=by decide)(hdb:(x==("__debug__":Str))=false:=by decide)
  (he:starEach (e::es) X.env=(false,eval e X.env)::starEach es X.env:=by rfl) (hpl:(backTo pos (starEach es X.env)).any (·.1)=false:=by rfl):PD X (.Call (.Name x p) (e::es) [] pos) (dCB o ts):=by
 obtain⟨r,hr,hr'⟩:=hc
 obtain⟨t,pp,q⟩:=ha
 exact⟨_,zi9 hr hg hm hv pp hn hdb he hpl,zmh hr' q⟩
theorem zaW{T:String}{x:Str}{p:Pos}{o:List D→(R→Prop)→Prop}(hc:zdH X (.type T) o)(hm:X.mg x=none)(hv:bootBuiltins x=some (.type T))(ha:PDa X (e::es) ts)(hg:Gl X x:=by rfl)(hn:x≠"__name__":=by decide)(hdb:(x==("__debug__":Str))=false:=by decide)
  (he:starEach (e::es) X.env=(false,eval e X.env)::starEach es X.env:=by rfl) (hpl:(backTo pos (starEach es X.env)).any (·.1)=false:=by rfl):PD X (.Call (.Name x p) (e::es) [] pos) (dCB o ts):=by
 obtain⟨r,hr,hr'⟩:=hc
 obtain⟨t,pp,q⟩:=ha
 exact⟨_,zhy hr hg hm hv pp hn hdb he hpl,zmh hr' q⟩
end
end L2
namespace L2
open PySem PySem.Spec PyProof.Rows
theorem zcB{σ:St}{i j:Nat}{x:Option V}:(σ.set i x)[j]?=if i=j∧j<σ.length then some x else σ[j]?:=by
 by_cases h:i=j
 ·subst h
  by_cases hl:i<σ.length
  ·simp[hl]
  ·simp[hl]
 ·simp[h]
section
variable {K:PySem.W.Frag} {G0 H0 G H G' H':Hp} {ρ:Ev} {σ:St}
theorem EOk.put{i:Nat}{v:V}{r:R}(E:EOk K G0 H0 ρ σ G H)(x:Ext G H G' H')(rr:RepR K G' H' H v r):EOk K G0 H0 (ρ.set i r.sl) (σ.set i (some v)) G' H':=by
 have E':=E.ext x
 have hl:=E.len
 have gs:∀j s,gt (ρ.set i r.sl) j=s→(i=j∧j<ρ.length∧s=r.sl)∨(¬(i=j∧j<ρ.length)∧gt ρ j=s):=fun j s e=>by
  rw[ze2] at e
  by_cases h:i=j∧j<ρ.length
  ·rw[if_pos h] at e;exact .inl ⟨h.1,h.2,e.symm⟩
  ·rw[if_neg h] at e;exact .inr ⟨h,e⟩
 refine⟨E'.e,by simp[E.len],fun j d h=>?_,fun j ds h=>?_,fun j k ds es hjk h1 h2=>?_,?_⟩
 ·rcases gs j _ h with⟨h1,h2,h3⟩ | ⟨h1,h2⟩
  ·cases r with
   | ow=>cases h3
   | ov=>cases h3
   | fz d'=>
    cases h3
    exact⟨v,by rw[zcB,if_pos ⟨h1,by omega⟩],rr⟩
  ·obtain⟨u,hu,ru⟩:=E'.fz j d h2
   exact⟨u,by rw[zcB,if_neg (by rw[hl];exact h1)];exact hu,ru⟩
 ·rcases gs j _ h with⟨h1,h2,h3⟩ | ⟨h1,h2⟩
  ·cases r with
   | fz=>cases h3
   | ov=>cases h3
   | ow ds'=>
    cases h3
    obtain⟨p,xs,rfl,a1,a2,a3,a4⟩:=rr
    exact⟨p,xs,by rw[zcB,if_pos ⟨h1,by omega⟩],a3,a2,E.e.h.free a1,a4⟩
  ·obtain⟨p,xs,b1,b2,b3,b4,b5⟩:=E'.ow j ds h2
   exact⟨p,xs,by rw[zcB,if_neg (by rw[hl];exact h1)];exact b1,b2,b3,b4,b5⟩
 ·have old:∀{j:Nat} {ds:List D},gt ρ j=.ow ds→∀es,r=.ow es→σ[j]?≠some (some v):=fun{j ds} h es e z=>by
   subst e
   obtain⟨p,xs,rfl,a1,a2,a3,a4⟩:=rr
   obtain⟨p',xs',b1,b2,b3,b4,b5⟩:=E.ow j ds h
   rw[b1] at z
   cases z
   rw[a1] at b2
   cases b2
  rcases gs j _ h1 with⟨c1,c2,c3⟩ | ⟨c1,c2⟩
  ·rcases gs k _ h2 with⟨d1,d2,d3⟩ | ⟨d1,d2⟩
   ·exact absurd (c1.symm.trans d1) hjk
   ·rw[zcB,if_pos ⟨c1,by omega⟩,zcB,if_neg (by rw[hl];exact d1)]
    cases r with
    | fz=>cases c3
    | ov=>cases c3
    | ow es'=>exact fun z=>old d2 es' rfl z.symm
  ·rcases gs k _ h2 with⟨d1,d2,d3⟩ | ⟨d1,d2⟩
   ·rw[zcB,if_neg (by rw[hl];exact c1),zcB,if_pos ⟨d1,by omega⟩]
    cases r with
    | fz=>cases d3
    | ov=>cases d3
    | ow es'=>exact old c2 es' rfl
   ·rw[zcB,if_neg (by rw[hl];exact c1),zcB,if_neg (by rw[hl];exact d1)]
    exact E.dj j k ds es hjk c2 d2
 ·obtain⟨own,o1,o2⟩:=E.on
  have hσ:∀j,¬(i=j∧j<ρ.length)→(σ.set i (some v))[j]?=σ[j]?:=fun j h=>by rw[zcB,if_neg (by rw[hl];exact h)]
  have gen:∀L:List Addr,(∀q∈L,H q=none)→(∀j ds p,i=j→j<ρ.length→r.sl=.ow ds→v=.ref p→p∈L)→
    (∀j o,i=j→j<ρ.length→r.sl=.ov o→∃p fp,v=.ref p∧(p::fp).Nodup∧Owns K G' H' p fp o∧∀q∈p::fp,G' q=none∧q∈L)→
    ∃own:Addr→Option Nat,(∀j ds p,gt (ρ.set i r.sl) j=.ow ds→(σ.set i (some v))[j]?=some (some (.ref p))→own p=some j)∧∀j o,gt (ρ.set i r.sl) j=.ov o→∃p fp,(σ.set i (some v))[j]?=some (some (.ref p))∧(p::fp).Nodup∧Owns K G' H' p fp o∧∀q∈p::fp,G' q=none∧H0 q=none∧own q=some j:=by
   intro L hL hw ho
   refine⟨fun q=>if q∈L then some i else own q,fun j ds p h hp=>?_,fun j o h=>?_⟩
   ·rcases gs j _ h with⟨h1,h2,h3⟩ | ⟨h1,h2⟩
    ·rw[zcB,if_pos ⟨h1,by omega⟩] at hp
     have hv:v=.ref p:=by injection hp with hp;injection hp
     dsimp only
     rw[if_pos (hw j ds p h1 h2 h3.symm hv),h1]
    ·rw[hσ j h1] at hp
     obtain⟨p',xs',b1,b2,_⟩:=E.ow j ds h2
     have hne:p∉L:=fun z=>by
      rw[hp] at b1
      cases b1
      rw[hL p z] at b2
      cases b2
     dsimp only
     rw[if_neg hne]
     exact o1 j ds p h2 hp
   ·rcases gs j _ h with⟨h1,h2,h3⟩ | ⟨h1,h2⟩
    ·obtain⟨p,fp,rfl,c1,c2,c3⟩:=ho j o h1 h2 h3.symm
     refine⟨p,fp,by rw[zcB,if_pos ⟨h1,by omega⟩],c1,c2,fun q hq=>⟨(c3 q hq).1,E.e.h.free (hL q (c3 q hq).2),?_⟩⟩
     dsimp only
     rw[if_pos (c3 q hq).2,h1]
    ·obtain⟨p,fp,b1,b2,b3,b4⟩:=o2 j o h2
     refine⟨p,fp,by rw[hσ j h1];exact b1,b2,b3.mono x.g fun q _ u e=>x.h q u e,fun q hq=>⟨x.n q (b4 q hq).1 (b3.here q hq),(b4 q hq).2.1,?_⟩⟩
     dsimp only
     rw[if_neg (fun z=>b3.here q hq (hL q z))]
     exact(b4 q hq).2.2
  cases r with
  | fz d=>exact gen [] (fun q hq=>by cases hq) (fun j ds p _ _ e=>by cases e) (fun j o _ _ e=>by cases e)
  | ow ds'=>
   obtain⟨p,xs,rfl,a1,a2,a3,a4⟩:=rr
   refine gen [p] (fun q hq=>?_) (fun j ds p' _ _ e e2=>?_) (fun j o _ _ e=>by cases e)
   ·simp only[List.mem_singleton] at hq
    subst hq;exact a1
   ·cases e2;simp
  | ov o'=>
   obtain⟨p,fp,rfl,a1,a2,a3⟩:=rr
   refine gen (p::fp) (fun q hq=>(a3 q hq).1) (fun j ds p' _ _ e=>by cases e) (fun j o _ _ e=>?_)
   cases e
   exact⟨p,fp,rfl,a1,a2,fun q hq=>⟨(a3 q hq).2,hq⟩⟩
noncomputable def frz(i:Nat)(ρ:Ev):Ev:=match gt ρ i with
 | .ow ds=>ρ.set i (.fz (.lst ds))
 | .ov o=>ρ.set i (.fz o.val)
 | _=>ρ
theorem zkS{ρ:Ev}{i:Nat}{s:Sl}(h:gt ρ i=s)(hs:s≠.un):i<ρ.length:=by
 induction ρ generalizing i with
 | nil=>simp[gt] at h;exact absurd h.symm hs
 | cons a r ih=>
  cases i with
  | zero=>simp
  | succ i=>simp only[gt] at h;have:=ih h;simp;omega
theorem RepL.isL{K:PySem.W.Frag}{G H:Hp}:∀{qs:List Addr} {dss:List (List D)},RepL K G H qs dss→∀q∈qs,∃zs,H q=some (.lst zs)
 | [],[],_,q,hq=>by cases hq
 | p::qs,ds::dss,h,q,hq=>by
  simp only[RepL] at h
  rcases List.mem_cons.mp hq with rfl | hq
  ·exact⟨_,h.1.choose_spec.1⟩
  ·exact RepL.isL h.2 q hq
 | [],_::_,h,_,_=>by simp only[RepL] at h
 | _::_,[],h,_,_=>by simp only[RepL] at h
theorem EOk.freezeL2(i:Nat)(E:EOk K G0 H0 ρ σ G H):∃L:List Addr,(∀q∈L,G q=none)∧EOk K G0 H0 (frz i ρ) σ (zgY G H L) H∧(((∀o,gt ρ i=.ov o→(∃kvs,o=.dc kvs)∨∃dss,o=.ll dss)→∀q∈L,H q≠none∧∀xs,¬Rd H q (.tup xs)))∧∀o p,gt ρ i=.ov o→σ[i]?=some (some (.ref p))→p∈L:=by
 unfold frz
 split
 ·rename_i ds hg
  obtain⟨p,xs,h1,h2,h3,h4,h5⟩:=E.ow i ds hg
  have hlt:i<ρ.length:=zkS hg (by simp)
  have hs:Same G (upd G p (.lst xs)):=zbu h3
  have gs:∀j s,gt (ρ.set i (.fz (.lst ds))) j=s→(i=j∧s=.fz (.lst ds))∨(i≠j∧gt ρ j=s):=fun j s e=>by
   rw[ze2] at e
   by_cases h:i=j
   ·subst h;rw[if_pos ⟨rfl,hlt⟩] at e;exact .inl ⟨rfl,e.symm⟩
   ·rw[if_neg (fun z=>h z.1)] at e;exact .inr ⟨h,e⟩
  have ep:zgY G H [p]=upd G p (.lst xs):=by
   funext a
   by_cases ha:a=p
   ·subst ha;rw[zal,zbw (by simp)];exact h2
   ·rw[zai ha,za3 (by simpa using ha)]
  refine⟨[p],fun q hq=>?_,?_,fun _ q hq=>by
   simp only[List.mem_singleton] at hq
   rw[hq]
   exact⟨(by rw[h2];exact nofun),fun xs' e=>by rcases e with e | ⟨_,e⟩<;>(rw[h2] at e;cases e)⟩,fun o p z=>by rw[hg] at z;cases z⟩
  ·simp only[List.mem_singleton] at hq
   subst hq;exact h3
  rw[ep]
  refine⟨⟨E.e.g.trans hs,E.e.h,fun b o e=>?_,fun q q1 q2=>?_⟩,by simp[E.len],fun j d h=>?_,fun j es h=>?_,fun j k es fs hjk a1 a2=>?_,?_⟩
  ·by_cases hb:b=p
   ·subst hb;rw[zal] at e;rw[h2];exact e
   ·rw[zai hb] at e;exact E.e.s b o e
  ·rw[zai (fun z=>q2 (by rw[z];exact h4))]
   exact E.e.n q q1 q2
  ·rcases gs j _ h with⟨e,e2⟩ | ⟨e,e2⟩
   ·subst e
    cases e2
    exact⟨_,h1,by simp only[Rep];exact⟨p,xs,rfl,RdL.of zal,h5.mono hs⟩⟩
   ·obtain⟨u,u1,u2⟩:=E.fz j d e2
    exact⟨u,u1,u2.mono hs⟩
  ·rcases gs j _ h with⟨e,e2⟩ | ⟨e,e2⟩
   ·cases e2
   ·obtain⟨p',xs',b1,b2,b3,b4,b5⟩:=E.ow j es e2
    have hne:p'≠p:=fun z=>by
     subst z
     exact E.dj i j ds es e hg e2 (by rw[h1,b1])
    exact⟨p',xs',b1,b2,by rw[zai hne];exact b3,b4,b5.mono hs⟩
  ·rcases gs j _ a1 with⟨_,e2⟩ | ⟨e,e2⟩
   ·cases e2
   ·rcases gs k _ a2 with⟨_,e4⟩ | ⟨e3,e4⟩
    ·cases e4
    ·exact E.dj j k es fs hjk e2 e4
  ·obtain⟨own,o1,o2⟩:=E.on
   refine⟨own,fun j es p' h hp=>?_,fun j o h=>?_⟩
   ·rcases gs j _ h with⟨_,e2⟩ | ⟨_,e2⟩
    ·cases e2
    ·exact o1 j es p' e2 hp
   ·rcases gs j _ h with⟨_,e2⟩ | ⟨e,e2⟩
    ·cases e2
    ·obtain⟨p',fp,b1,b2,b3,b4⟩:=o2 j o e2
     refine⟨p',fp,b1,b2,b3.mono hs fun q _ u e=>e,fun q hq=>⟨?_,(b4 q hq).2⟩⟩
     rw[zai fun z=>?_]
     ·exact(b4 q hq).1
     ·have z1:=(b4 q hq).2.2
      rw[z,o1 i ds p hg h1] at z1
      injection z1 with z1
      exact e z1
 ·rename_i o hg
  obtain⟨own,o1,o2⟩:=E.on
  obtain⟨p,fp,h1,h2,h3,h4⟩:=o2 i o hg
  have hlt:i<ρ.length:=zkS hg (by simp)
  have hn:∀q∈p::fp,G q=none:=fun q hq=>(h4 q hq).1
  have hs:Same G (zgY G H (p::fp)):=zch hn
  have gs:∀j s,gt (ρ.set i (.fz o.val)) j=s→(i=j∧s=.fz o.val)∨(i≠j∧gt ρ j=s):=fun j s e=>by
   rw[ze2] at e
   by_cases h:i=j
   ·subst h;rw[if_pos ⟨rfl,hlt⟩] at e;exact .inl ⟨rfl,e.symm⟩
   ·rw[if_neg (fun z=>h z.1)] at e;exact .inr ⟨h,e⟩
  suffices hmain:EOk K G0 H0 (ρ.set i (.fz o.val)) σ (zgY G H (p::fp)) H from⟨p::fp,hn,hmain,fun hd q hq=>by
   rcases hd o hg with⟨kvs,rfl⟩ | ⟨dss,rfl⟩
   ·obtain⟨rfl,ks,ep,h5,_⟩:=h3
    simp only[List.mem_singleton] at hq
    rw[hq]
    exact⟨(by rw[h5];exact nofun),fun xs' e=>by rcases e with e | ⟨_,e⟩<;>(rw[h5] at e;cases e)⟩
   ·obtain⟨zs,h5⟩:∃zs,H q=some (.lst zs):=by
     rcases List.mem_cons.mp hq with rfl | hq
     ·exact⟨_,h3.1⟩
     ·exact RepL.isL h3.2 q hq
    exact⟨(by rw[h5];exact nofun),fun xs' e=>by rcases e with e | ⟨_,e⟩<;>(rw[h5] at e;cases e)⟩,fun o' p' _ e=>by rw[h1] at e;cases e;simp⟩
  refine⟨⟨E.e.g.trans hs,E.e.h,fun b u e=>?_,fun q q1 q2=>?_⟩,by simp[E.len],fun j d h=>?_,fun j es h=>?_,fun j k es fs hjk a1 a2=>?_,own,fun j es p' h hp=>?_,fun j o' h=>?_⟩
  ·by_cases hb:b∈p::fp
   ·rw[zbw hb] at e;exact e
   ·rw[za3 hb] at e;exact E.e.s b u e
  ·rw[za3 (fun z=>q2 (h4 q z).2.1)];exact E.e.n q q1 q2
  ·rcases gs j _ h with⟨e,e2⟩ | ⟨e,e2⟩
   ·subst e
    cases e2
    exact⟨_,h1,h3.freeze hn⟩
   ·obtain⟨u,u1,u2⟩:=E.fz j d e2
    exact⟨u,u1,u2.mono hs⟩
  ·rcases gs j _ h with⟨e,e2⟩ | ⟨e,e2⟩
   ·cases e2
   ·obtain⟨p',xs',b1,b2,b3,b4,b5⟩:=E.ow j es e2
    refine⟨p',xs',b1,b2,?_,b4,b5.mono hs⟩
    rw[za3 fun z=>?_]
    ·exact b3
    ·have z1:=(h4 p' z).2.2
     rw[o1 j es p' e2 b1] at z1
     injection z1 with z1
     exact e z1.symm
  ·rcases gs j _ a1 with⟨_,e2⟩ | ⟨e,e2⟩
   ·cases e2
   ·rcases gs k _ a2 with⟨_,e4⟩ | ⟨e3,e4⟩
    ·cases e4
    ·exact E.dj j k es fs hjk e2 e4
  ·rcases gs j _ h with⟨_,e2⟩ | ⟨_,e2⟩
   ·cases e2
   ·exact o1 j es p' e2 hp
  ·rcases gs j _ h with⟨_,e2⟩ | ⟨e,e2⟩
   ·cases e2
   ·obtain⟨p',fp',b1,b2,b3,b4⟩:=o2 j o' e2
    refine⟨p',fp',b1,b2,b3.mono hs fun q _ u e=>e,fun q hq=>⟨?_,(b4 q hq).2⟩⟩
    rw[za3 fun z=>?_]
    ·exact(b4 q hq).1
    ·have z1:=(b4 q hq).2.2
     rw[(h4 q z).2.2] at z1
     injection z1 with z1
     exact e z1
 ·rename_i no1 no2
  have ep:zgY G H []=G:=by funext a;exact za3 (by simp)
  exact⟨[],fun q hq=>(by cases hq),by rw[ep];exact E,fun _ q hq=>(by cases hq),fun o p z=>(no2 o z).elim⟩
theorem EOk.freezeL(i:Nat)(E:EOk K G0 H0 ρ σ G H):∃L:List Addr,(∀q∈L,G q=none)∧EOk K G0 H0 (frz i ρ) σ (zgY G H L) H∧((∀o,gt ρ i=.ov o→(∃kvs,o=.dc kvs)∨∃dss,o=.ll dss)→∀q∈L,H q≠none∧∀xs,¬Rd H q (.tup xs)):=
 let⟨L,a,b,c,_⟩:=E.freezeL2 i
 ⟨L,a,b,c⟩
theorem EOk.change{i:Nat}{ds ds':List D}{p:Addr}{xs':List V}(E:EOk K G0 H0 ρ σ G H)(hg:gt ρ i=.ow ds)(h1:σ[i]?=some (some (.ref p)))(hr:Reps K G xs' ds') :
  EOk K G0 H0 (ρ.set i (.ow ds')) σ G (upd H p (.lst xs')):=by
 obtain⟨p',xs0,b1,b2,b3,b4,b5⟩:=E.ow i ds hg
 rw[h1] at b1
 cases b1
 have hlt:i<ρ.length:=zkS hg (by simp)
 have gs:∀j s,gt (ρ.set i (.ow ds')) j=s→(i=j∧s=.ow ds')∨(i≠j∧gt ρ j=s):=fun j s e=>by
  rw[ze2] at e
  by_cases h:i=j
  ·subst h;rw[if_pos ⟨rfl,hlt⟩] at e;exact .inl ⟨rfl,e.symm⟩
  ·rw[if_neg (fun z=>h z.1)] at e;exact .inr ⟨h,e⟩
 have hG:Same G (upd H p (.lst xs')):=fun b o e=>by rw[zai (zaj e b3)];exact E.e.s b o e
 refine⟨⟨E.e.g,fun b o e=>by rw[zai (zaj e b4)];exact E.e.h b o e,hG,E.e.n⟩,by simp[E.len],fun j d h=>?_,fun j es h=>?_,fun j k es fs hjk a1 a2=>?_,?_⟩
 ·rcases gs j _ h with⟨_,e2⟩ | ⟨e,e2⟩
  ·cases e2
  ·exact E.fz j d e2
 ·rcases gs j _ h with⟨e,e2⟩ | ⟨e,e2⟩
  ·subst e
   cases e2
   exact⟨p,xs',h1,zal,b3,b4,hr⟩
  ·obtain⟨p',xs2,c1,c2,c3,c4,c5⟩:=E.ow j es e2
   have hne:p'≠p:=fun z=>by
    subst z
    exact E.dj i j ds es e hg e2 (by rw[h1,c1])
   exact⟨p',xs2,c1,by rw[zai hne];exact c2,c3,c4,c5⟩
 ·rcases gs j _ a1 with⟨e,e2⟩ | ⟨e,e2⟩
  ·subst e
   rcases gs k _ a2 with⟨e3,e4⟩ | ⟨e3,e4⟩
   ·exact absurd e3 hjk
   ·exact E.dj i k ds fs hjk hg e4
  ·rcases gs k _ a2 with⟨e3,e4⟩ | ⟨e3,e4⟩
   ·subst e3
    exact E.dj j i es ds hjk e2 hg
   ·exact E.dj j k es fs hjk e2 e4
 ·obtain⟨own,o1,o2⟩:=E.on
  refine⟨own,fun j es p' h hp=>?_,fun j o h=>?_⟩
  ·rcases gs j _ h with⟨e,e2⟩ | ⟨_,e2⟩
   ·subst e;exact o1 i ds p' hg hp
   ·exact o1 j es p' e2 hp
  ·rcases gs j _ h with⟨_,e2⟩ | ⟨e,e2⟩
   ·cases e2
   ·obtain⟨p',fp,c1,c2,c3,c4⟩:=o2 j o e2
    refine⟨p',fp,c1,c2,c3.mono (Same.refl _) fun q hq u e3=>?_,c4⟩
    rw[zai fun z=>?_]
    ·exact e3
    ·have z1:=(c4 q hq).2.2
     rw[z,o1 i ds p hg h1] at z1
     injection z1 with z1
     exact e z1
theorem EOk.weak{ρ':Ev}(E:EOk K G0 H0 ρ σ G H)(hl:ρ'.length=ρ.length)(w:∀i,gt ρ' i=.un∨gt ρ' i=gt ρ i):EOk K G0 H0 ρ' σ G H:=by
 have g:∀i s,gt ρ' i=s→s≠.un→gt ρ i=s:=fun i s e n=>by
  rcases w i with h | h
  ·exact absurd (e.symm.trans h) n
  ·rw[←h];exact e
 exact⟨E.e,by rw[hl];exact E.len,fun i d h=>E.fz i d (g i _ h (by simp)),fun i d h=>E.ow i d (g i _ h (by simp)),fun i j ds es hij h1 h2=>E.dj i j ds es hij (g i _ h1 (by simp)) (g j _ h2 (by simp)),let⟨own,o1,o2⟩:=E.on;⟨own,fun i ds p h=>o1 i ds p (g i _ h (by simp)),fun i o h=>o2 i o (g i _ h (by simp))⟩⟩
end
section
variable {X:Cx} {pos:Pos} {e:Expr} {te:TD}
noncomputable def za1(t u:TX):TX:=fun D ρ=>t { D with nx:=u D } ρ
noncomputable def zj6:TX:=fun D ρ=>D.nx ρ
theorem zdj:PXs X [] zj6:=⟨_,zhj,fun ρ σ G0 H0 G H D E k h g=>g.nx ρ σ G H (Same.refl _) k h⟩
theorem zaf{st:Stmt}{sts:List Stmt}{t u:TX}(h1:PX X st t)(h2:PXs X sts u):PXs X (st::sts) (za1 t u):=by
 obtain⟨t1,p1,q1⟩:=h1
 obtain⟨t2,p2,q2⟩:=h2
 refine⟨_,zej p1 p2,fun ρ σ G0 H0 G H D E k h g=>q1 ρ σ G0 H0 G H _ _ k h ⟨fun ρ' σ' G' H' s' k' h'=>q2 ρ' σ' G0 H0 G' H' D E k' h' (g.shift s'),g.rt,g.bk,g.ct⟩⟩
theorem zaw{st:Stmt}{t:TX}(h1:PX X st t):PXs X [st] t:=by
 obtain⟨t1,p1,q1⟩:=h1
 exact⟨_,zfM p1,q1⟩
noncomputable def zdI(te:TD):TX:=fun D ρ=>te ρ D.rt
theorem za9(h:PD X e te):PX X (.Return (some e) pos) (zdI te):=by
 obtain⟨t,p,q⟩:=h
 exact⟨_,zjY p,fun ρ σ G0 H0 G H D E k h g=>q ρ σ G0 H0 G H _ _ k h fun v H' r G' x rr hq=>g.rt v H' r G' (k.e.trans x) (rr.older k.e.h) hq⟩
noncomputable def zhR(i:Nat):TX:=fun D ρ=>match gt ρ i with
 | .ow ds=>D.rt (.ow ds)
 | _=>False
theorem zkT(i:Nat){x:Str}{p':Pos}(hN:X.N[i]?=some x:=by rfl)(hv:Vis X.env.scope x:=by first | exact Or.inl rfl | exact Or.inr (Or.inl rfl) | exact Or.inr (Or.inr rfl))(hd:(x==("__debug__":Str))=false:=by decide)
  (hcd:(x==("__classdict__":Str))=false:=by decide):PX X (.Return (some (.Name x p')) pos) (zhR i):=by
 refine⟨_,zjY (zgf hN hv hd hcd),fun ρ σ G0 H0 G H D E k h g=>?_⟩
 unfold zhR at h
 split at h
 ·rename_i ds hg
  obtain⟨p,xs,h1,h2,h3,h4,h5⟩:=k.ow i ds hg
  exact⟨_,h1,g.rt _ H (.ow ds) G k.e ⟨p,xs,rfl,h4,h3,h2,h5⟩ h⟩
 ·exact h.elim
noncomputable def zbo(te:TD):TX:=fun D ρ=>te ρ fun _=>D.nx ρ
theorem zbG(h:PD X e te)(hs:swapsWith e none pos.line X.env=pure false:=by rfl):PX X (.Expr e pos) (zbo te):=by
 obtain⟨t,p,q⟩:=h
 exact⟨_,zfN p hs,fun ρ σ G0 H0 G H D E k h g=>q ρ σ G0 H0 G H _ _ k h fun v H' r G' x rr hq=>g.nx ρ σ G' H' x.g (k.ext x) hq⟩
noncomputable def xIf(c:TDb)(t u:TX):TX:=fun D ρ=>c ρ fun b=>if b=true then t D ρ else u D ρ
theorem zjm{c:Expr}{a b:List Stmt}{tc:TDb}{t u:TX}(hc:PB X c tc)(ha:PXs X a t)(hb:PXs X b u):PX X (.If c a b pos) (xIf tc t u):=by
 obtain⟨t0,p0,q0⟩:=hc
 obtain⟨t1,p1,q1⟩:=ha
 obtain⟨t2,p2,q2⟩:=hb
 refine⟨_,zlH p0 p1 p2,fun ρ σ G0 H0 G H D E k h g=>q0 ρ σ G0 H0 G H _ _ k h fun b H' G' x hq=>?_⟩
 cases b with
 | true=>rw[if_pos rfl] at hq ⊢;exact q1 ρ σ G0 H0 G' H' D E (k.ext x) hq (g.shift x.g)
 | false=>rw[if_neg Bool.false_ne_true] at hq ⊢;exact q2 ρ σ G0 H0 G' H' D E (k.ext x) hq (g.shift x.g)
noncomputable def zln(i:Nat)(te:TD):TX:=fun D ρ=>te ρ fun r=>D.nx (ρ.set i r.sl)
theorem zmi(i:Nat){x:Str}{pos':Pos}(he:PD X e te)(hN:X.N.Nodup:=by assumption)(hi:X.N[i]?=some x:=by rfl)(hx:Loc X.env.scope x:=by first | exact Or.inl rfl | exact Or.inr rfl)(hs:swapsWith e (some (.Name x pos')) pos.line X.env=pure false:=by rfl)(hf:X.fn x=true∨X.env.scope.names.lookup x=some .local:=by first | exact .inl rfl | exact .inr rfl | assumption) :
  PX X (.Assign [.Name x pos'] e pos) (zln i te):=by
 obtain⟨t,p,q⟩:=he
 exact⟨_,zhk hN hi hx p hs hf,fun ρ σ G0 H0 G H D E k h g=>q ρ σ G0 H0 G H _ _ k h fun v H' r G' x rr hq=>g.nx _ _ G' H' x.g (k.put x rr) hq⟩
noncomputable def zaT(i:Nat)(te:TD):TX:=fun D ρ=>te ρ fun r=>D.nx (ρ.set i (.fz r.val))
theorem zav(i:Nat){x:Str}{pos':Pos}(he:PD X e te)(hN:X.N.Nodup:=by assumption)(hi:X.N[i]?=some x:=by rfl)(hx:Loc X.env.scope x:=by first | exact Or.inl rfl | exact Or.inr rfl)(hs:swapsWith e (some (.Name x pos')) pos.line X.env=pure false:=by rfl)(hf:X.fn x=true∨X.env.scope.names.lookup x=some .local:=by first | exact .inl rfl | exact .inr rfl | assumption) :
  PX X (.Assign [.Name x pos'] e pos) (zaT i te):=by
 obtain⟨t,p,q⟩:=he
 refine⟨_,zhk hN hi hx p hs hf,fun ρ σ G0 H0 G H D E k h g=>q ρ σ G0 H0 G H _ _ k h fun v H' r G' x rr hq=>?_⟩
 obtain⟨G2,x2,rv,_⟩:=rr.freeze x
 exact g.nx _ _ G2 H' x2.g (k.put x2 (r:=.fz r.val) rv) hq
end
end L2
namespace L2
open PySem PySem.Spec PyProof.Rows
section
variable {X:Cx} {pos:Pos} {tg:Expr}
noncomputable abbrev TGd:=D→Ev→(Ev→Prop)→Prop
noncomputable abbrev zhS:=List D→Ev→(Ev→Prop)→Prop
noncomputable def PGd(X:Cx)(tg:Expr)(g:TGd):Prop:=∃gg,PG X tg gg∧∀(ρ:Ev) (σ:St) (G0 H0 G H:Hp) (d:D) (v:V) (Q:Ev→Prop) (P:St→Hp→Prop),EOk X.K G0 H0 ρ σ G H→Rep X.K G v d→g d ρ Q→
 (∀ρ' σ' G' H',EOk X.K G0 H0 ρ' σ' G' H'→Ext G H G' H'→Q ρ'→P σ' H')→gg v σ H P
noncomputable def zmW(X:Cx)(tgs:List Expr)(g:zhS):Prop:=∃gg,PGs X tgs gg∧∀(ρ:Ev) (σ:St) (G0 H0 G H:Hp) (ds:List D) (vs:List V) (Q:Ev→Prop) (P:St→Hp→Prop),EOk X.K G0 H0 ρ σ G H→Reps X.K G vs ds→g ds ρ Q→
 (∀ρ' σ' G' H',EOk X.K G0 H0 ρ' σ' G' H'→Ext G H G' H'→Q ρ'→P σ' H')→gg vs σ H P
noncomputable def zaD(i:Nat):TGd:=fun d ρ Q=>Q (ρ.set i (.fz d))
theorem zaq(i:Nat){x:Str}(hN:X.N.Nodup:=by assumption)(hi:X.N[i]?=some x:=by rfl)(hx:Loc X.env.scope x:=by first | exact Or.inl rfl | exact Or.inr rfl)(hf:X.fn x=true∨X.env.scope.names.lookup x=some .local:=by first | exact .inl rfl | exact .inr rfl | assumption):PGd X (.Name x pos) (zaD i):=
 ⟨_,zks hN hi hx hf,fun ρ σ G0 H0 G H d v Q P E r h k=>k _ _ G H (E.put (.refl E.e.s) (r:=.fz d) r) (.refl E.e.s) h⟩
noncomputable def zgt:zhS:=fun ds ρ Q=>match ds with
 | []=>Q ρ
 | _=>False
noncomputable def zbz(t:TGd)(u:zhS):zhS:=fun ds ρ Q=>match ds with
 | d::r=>t d ρ fun ρ'=>u r ρ' Q
 | []=>False
theorem zgu:zmW X [] zgt:=by
 refine⟨_,zkt,fun ρ σ G0 H0 G H ds vs Q P E r h k=>?_⟩
 unfold zgt at h
 split at h
 ·cases vs with
  | nil=>exact⟨rfl,k _ _ G H E (.refl E.e.s) h⟩
  | cons=>simp only[Reps] at r
 ·exact h.elim
theorem zcn{e:Expr}{es:List Expr}{t:TGd}{u:zhS}(h1:PGd X e t)(h2:zmW X es u)(hs:(assignEach (e::es) X.env).map (·.2)=assign e X.env::(assignEach es X.env).map (·.2):=by rfl):zmW X (e::es) (zbz t u):=by
 obtain⟨t1,p1,q1⟩:=h1
 obtain⟨t2,p2,q2⟩:=h2
 refine⟨_,zi2 p1 p2 hs,fun ρ σ G0 H0 G H ds vs Q P E r h k=>?_⟩
 unfold zbz at h
 split at h
 ·cases vs with
  | nil=>simp only[Reps] at r
  | cons v vs=>
   simp only[Reps] at r
   refine⟨v,vs,rfl,q1 ρ σ G0 H0 G H _ v _ _ E r.1 h fun ρ' σ' G' H' E' x hq=>?_⟩
   exact q2 ρ' σ' G0 H0 G' H' _ vs Q P E' (r.2.mono x.g) hq fun ρ2 σ2 G2 H2 E2 x2 hq2=>k ρ2 σ2 G2 H2 E2 (x.trans x2) hq2
 ·exact h.elim
noncomputable def zhg(n:Nat)(t:zhS):TGd:=fun d ρ Q=>match d with
 | .tup ds=>ds.length=n∧t ds ρ Q
 | _=>False
theorem zhT{es:List Expr}{k:Nat}{t:zhS}{n:Nat}(hc:X.calm=true)(h:zmW X es t)(hn:(assignEach es X.env).length=n:=by rfl)(hst:(assignEach es X.env).findIdx? (·.1)=none:=by rfl):PGd X (.Tuple es k pos) (zhg n t):=by
 obtain⟨t1,p1,q1⟩:=h
 refine⟨_,zlJ hc p1 hn hst,fun ρ σ G0 H0 G H d v Q P E r h k=>?_⟩
 unfold zhg at h
 split at h
 ·simp only[Rep] at r
  obtain⟨a,xs,rfl,hq,rs⟩:=r
  exact⟨a,xs,rfl,E.e.s.seqT hq,by rw[rs.length];exact h.1,q1 ρ σ G0 H0 G H _ xs Q P E rs h.2 k⟩
 ·exact h.elim
noncomputable def zmX(te:TD)(g:TGd):TX:=fun D ρ=>te ρ fun r=>g r.val ρ D.nx
noncomputable def zj7(K:PySem.W.Frag)(J:It)(G:Hp)(ds:List D):Prop:=
 (∀i d G' H',ds[i]?=some d→Same G G'→Same G' H'→J.go i H'∧∀v H2,J.yld i H' v H2→∃G2,Ext G' H' G2 H2∧Rep K G2 v d)∧∀G' H',Same G G'→Same G' H'→J.stop ds.length H'
noncomputable abbrev TId:=Ev→(List D→Prop)→Prop
noncomputable def PId(X:Cx)(tg iter:Expr)(wi:TId):Prop:=∃ww,PI X tg iter ww∧∀(ρ:Ev) (σ:St) (G0 H0 G H:Hp) (Q:List D→Prop) (P:It→Hp→Prop),EOk X.K G0 H0 ρ σ G H→wi ρ Q→
 (∀J H' ds G',Ext G H G' H'→zj7 X.K J G' ds→Q ds→P J H')→ww σ H P
noncomputable def ze5(d:D)(Q:List D→Prop):Prop:=match d with
 | .lst ds=>Q ds
 | .tup ds=>Q ds
 | .str z=>Q (z.cps.toList.map fun c=>.str ⟨#[c]⟩)
 | _=>False
noncomputable def zc3(te:TD):TId:=fun ρ Q=>te ρ fun r=>ze5 r.val Q
theorem zhU{K:PySem.W.Frag}{G:Hp}{a:Addr}{xs:List V}{ds:List D}(h:RdL K G a xs)(r:Reps K G xs ds):zj7 K (Itl K a) G ds:=by
 refine⟨fun i d G' H' hd s1 s2=>?_,fun G' H' s1 s2=>⟨xs,(s2.rdl (s1.rdl h)).sq,by rw[r.length];exact Nat.le_refl _⟩⟩
 obtain⟨v,hv,rv⟩:=r.get hd
 have hs:SqL K H' a xs:=(s2.rdl (s1.rdl h)).sq
 refine⟨⟨xs,v,hs,hv⟩,fun u H2 hy=>?_⟩
 obtain⟨e,y⟩:=hy
 subst e
 have:=y xs hs
 rw[hv] at this
 cases this
 exact⟨G',.refl s2,rv.mono s1⟩
theorem zjn{K:PySem.W.Frag}{G:Hp}{a:Addr}{xs:List V}{ds:List D}(h:SqT K G a xs)(r:Reps K G xs ds):zj7 K (Itt K a) G ds:=by
 refine⟨fun i d G' H' hd s1 s2=>?_,fun G' H' s1 s2=>⟨xs,s2.seqT (s1.seqT h),by rw[r.length];exact Nat.le_refl _⟩⟩
 obtain⟨v,hv,rv⟩:=r.get hd
 have hs:SqT K H' a xs:=s2.seqT (s1.seqT h)
 refine⟨⟨xs,v,hs,hv⟩,fun u H2 hy=>?_⟩
 obtain⟨e,y⟩:=hy
 subst e
 have:=y xs hs
 rw[hv] at this
 cases this
 exact⟨G',.refl s2,rv.mono s1⟩
theorem zjo{K:PySem.W.Frag}{G:Hp}(z:Str):zj7 K (Its z) G (z.cps.toList.map fun c=>.str ⟨#[c]⟩):=by
 refine⟨fun i d G' H' hd s1 s2=>?_,fun G' H' s1 s2=>?_⟩
 ·rw[List.getElem?_map] at hd
  cases e:z.cps.toList[i]? with
  | none=>rw[e] at hd;cases hd
  | some c=>
   rw[e] at hd
   cases hd
   have hc:z.cps[i]?=some c:=by simpa using e
   refine⟨(Array.getElem?_eq_some_iff.mp hc).1,fun v H2 hy=>?_⟩
   obtain⟨e2,c',hc',rfl⟩:=hy
   subst e2
   rw[hc] at hc'
   cases hc'
   exact⟨G',.refl s2,zbx _ _ _⟩
 ·show _=_
  simp
theorem zg2{K:PySem.W.Frag}{G:Hp}(lo:Int)(n:Nat):zj7 K (Itr lo n) G ((List.range n).map fun(i:Nat)=>.int (lo+i)):=by
 refine⟨fun i d G' H' hd s1 s2=>?_,fun G' H' s1 s2=>?_⟩
 ·rw[List.getElem?_map] at hd
  cases e:(List.range n)[i]? with
  | none=>rw[e] at hd;cases hd
  | some c=>
   rw[e] at hd
   cases hd
   obtain⟨h1,h2⟩:=List.getElem?_eq_some_iff.mp e
   have h3:i<n:=by simpa using h1
   have h4:c=i:=by rw[←h2];simp
   subst h4
   refine⟨h3,fun v H2 hy=>?_⟩
   obtain⟨e2,rfl⟩:=hy
   subst e2
   exact⟨G',.refl s2,zaB _ _ _⟩
 ·show n≤_
  simp
noncomputable def zg3(ds:List D):List D:=ds.mapIdx fun i d=>.tup [.int (i:Nat),d]
theorem zgv{K:PySem.W.Frag}{G:Hp}{t:Addr}{x y:V}{d e:D}(s1:SqT K G t [x,y])(r1:Rep K G x d)(r2:Rep K G y e):Rep K G (.ref t) (.tup [d,e]):=by
 simp only[Rep]
 exact⟨t,[x,y],rfl,s1,Reps.cons r1 (Reps.cons r2 Reps.nil)⟩
theorem zhV{K:PySem.W.Frag}{G:Hp}{a:Addr}{xs:List V}{ds:List D}(h:RdL K G a xs)(r:Reps K G xs ds):zj7 K (Ite K a) G (zg3 ds):=by
 refine⟨fun i d G' H' hd s1 s2=>?_,fun G' H' s1 s2=>⟨xs,(s2.rdl (s1.rdl h)).sq,by rw[r.length];simp[zg3]⟩⟩
 unfold zg3 at hd
 rw[List.getElem?_mapIdx] at hd
 cases e:ds[i]? with
 | none=>rw[e] at hd;cases hd
 | some d'=>
  rw[e] at hd
  cases hd
  obtain⟨v,hv,rv⟩:=r.get e
  have hs:SqL K H' a xs:=(s2.rdl (s1.rdl h)).sq
  refine⟨⟨xs,v,hs,hv⟩,fun u H2 hy=>?_⟩
  obtain⟨t,rfl,ht,y⟩:=hy
  obtain⟨x,hx,rfl⟩:=y xs hs
  rw[hv] at hx
  cases hx
  have x2:Ext G' H' (upd G' t (.tup [.int i,v])) (upd H' t (.tup [.int i,v])):=.new s2 ht
  exact⟨_,x2,zgv (SqT.of zal) (zaB _ _ _) ((rv.mono s1).mono x2.g)⟩
noncomputable def zlo(ds es:List D):List D:=List.zipWith (fun d e=>.tup [d,e]) ds es
theorem zjp{K:PySem.W.Frag}{G:Hp}{a b:Addr}{xs ys:List V}{ds es:List D}(h:RdL K G a xs)(r:Reps K G xs ds)(h':RdL K G b ys)(r':Reps K G ys es):zj7 K (Itz K a b) G (zlo ds es):=by
 refine⟨fun i d G' H' hd s1 s2=>?_,fun G' H' s1 s2=>⟨xs,ys,(s2.rdl (s1.rdl h)).sq,(s2.rdl (s1.rdl h')).sq,?_⟩⟩
 ·unfold zlo at hd
  rw[List.getElem?_zipWith] at hd
  cases e:ds[i]? with
  | none=>rw[e] at hd;cases hd
  | some d'=>
   cases e2:es[i]? with
   | none=>rw[e,e2] at hd;cases hd
   | some d2=>
    rw[e,e2] at hd
    cases hd
    obtain⟨v,hv,rv⟩:=r.get e
    obtain⟨v',hv',rv'⟩:=r'.get e2
    have hs:SqL K H' a xs:=(s2.rdl (s1.rdl h)).sq
    have hs':SqL K H' b ys:=(s2.rdl (s1.rdl h')).sq
    refine⟨⟨xs,ys,v,v',hs,hs',hv,hv'⟩,fun u H2 hy=>?_⟩
    obtain⟨t,rfl,ht,y⟩:=hy
    obtain⟨x,x',hx,hx',rfl⟩:=y xs ys hs hs'
    rw[hv] at hx
    rw[hv'] at hx'
    cases hx
    cases hx'
    have x2:Ext G' H' (upd G' t (.tup [v,v'])) (upd H' t (.tup [v,v'])):=.new s2 ht
    exact⟨_,x2,zgv (SqT.of zal) ((rv.mono s1).mono x2.g) ((rv'.mono s1).mono x2.g)⟩
 ·rw[r.length,r'.length]
  unfold zlo
  rw[List.length_zipWith]
  omega
theorem zaH{l:Expr}{te:TD}(h:PD X l te):PId X tg l (zc3 te):=by
 obtain⟨t,p,q⟩:=h
 refine⟨_,zl7 p,fun ρ σ G0 H0 G H Q P E h k=>q ρ σ G0 H0 G H _ _ E h fun v H' r G' x rr hq=>?_⟩
 obtain⟨G2,x2,rv,_⟩:=rr.freeze x
 unfold ze5 at hq
 split at hq
 ·rename_i ds e
  rw[e] at rv
  simp only[Rep] at rv
  obtain⟨a,xs,rfl,h1,h2⟩:=rv
  exact .inl ⟨a,rfl,⟨xs,(x2.s.rdl h1).sq⟩,k _ H' _ G2 x2 (zhU h1 h2) hq⟩
 ·rename_i ds e
  rw[e] at rv
  simp only[Rep] at rv
  obtain⟨a,xs,rfl,h1,h2⟩:=rv
  exact .inr (.inl ⟨a,rfl,⟨xs,x2.s.seqT h1⟩,k _ H' _ G2 x2 (zjn h1 h2) hq⟩)
 ·rename_i z e
  rw[e] at rv
  simp only[Rep] at rv
  exact .inr (.inr ⟨z,rv,k _ H' _ G2 x2 (zjo z) hq⟩)
 ·exact hq.elim
noncomputable def zhW(ts:TDa):TId:=fun ρ Q=>ts ρ fun ds=>match ds with
 | [.int j]=>-(2 ^ 62)≤j∧j<2 ^ 62∧Q ((List.range j.toNat).map fun(i:Nat)=>.int (0+i))
 | _=>False
theorem zbH{K:PySem.W.Frag}{G:Hp}{vs:List V}{d:D}(h:Reps K G vs [d]):∃v,vs=[v]∧Rep K G v d:=by
 match vs,h with
 | [],h=>simp only[Reps] at h
 | [v],h=>simp only[Reps] at h;exact⟨v,rfl,h.1⟩
 | v::w::r,h=>simp only[Reps] at h;exact absurd h.2 (by simp)
theorem zmj{K:PySem.W.Frag}{G:Hp}{vs:List V}{d e:D}(h:Reps K G vs [d,e]):∃v w,vs=[v,w]∧Rep K G v d∧Rep K G w e:=by
 match vs,h with
 | [],h=>simp only[Reps] at h
 | v::r,h=>
  simp only[Reps] at h
  obtain⟨w,rfl,hw⟩:=zbH h.2
  exact⟨v,w,rfl,h.1,hw⟩
theorem zec{a:Expr}{ts:TDa}{p:Pos}(hm:X.mg "range"=none)(ha:PDa X [a] ts)(hg:Gl X "range":=by rfl)(hs:starEach [a] X.env=[(false,eval a X.env)]:=by rfl):PId X tg (.Call (.Name "range" p) [a] [] pos) (zhW ts):=by
 obtain⟨t,pp,q⟩:=ha
 refine⟨_,zhm hg hm pp hs,fun ρ σ G0 H0 G H Q P E h k=>q ρ σ G0 H0 G H _ _ E h fun vs H' ds G' x rs hq=>?_⟩
 split at hq
 ·obtain⟨v,rfl,rv⟩:=zbH rs
  simp only[Rep] at rv
  subst rv
  exact⟨_,rfl,hq.1,hq.2.1,k _ H' _ G' x (zg2 0 _) hq.2.2⟩
 ·exact hq.elim
noncomputable def zjq(ts:TDa):TId:=fun ρ Q=>ts ρ fun ds=>match ds with
 | [.lst es]=>Q (zg3 es)
 | _=>False
theorem zjr{a:Expr}{ts:TDa}{p tp:Pos}{elts:List Expr}{x1:Nat}(hm:X.mg "enumerate"=none)(ha:PDa X [a] ts)(hg:Gl X "enumerate":=by rfl)(hs:starEach [a] X.env=[(false,eval a X.env)]:=by rfl):PId X (.Tuple elts x1 tp) (.Call (.Name "enumerate" p) [a] [] pos) (zjq ts):=by
 obtain⟨t,pp,q⟩:=ha
 refine⟨_,zkM hg hm pp hs,fun ρ σ G0 H0 G H Q P E h k=>q ρ σ G0 H0 G H _ _ E h fun vs H' ds G' x rs hq=>?_⟩
 split at hq
 ·obtain⟨v,rfl,rv⟩:=zbH rs
  simp only[Rep] at rv
  obtain⟨a,xs,rfl,h1,h2⟩:=rv
  exact⟨a,xs,rfl,x.s.rdl h1,k _ H' _ G' x (zhV h1 h2) hq⟩
 ·exact hq.elim
noncomputable def zno(ts:TDa):TId:=fun ρ Q=>ts ρ fun ds=>match ds with
 | [.lst es,.lst fs]=>Q (zlo es fs)
 | _=>False
theorem zkU{a b:Expr}{ts:TDa}{p tp:Pos}{elts:List Expr}{x1:Nat}(hm:X.mg "zip"=none)(ha:PDa X [a,b] ts)(hg:Gl X "zip":=by rfl)(hs:starEach [a,b] X.env=[(false,eval a X.env),(false,eval b X.env)]:=by rfl)(hs2:starEach [b] X.env=[(false,eval b X.env)]:=by rfl) :
  PId X (.Tuple elts x1 tp) (.Call (.Name "zip" p) [a,b] [] pos) (zno ts):=by
 obtain⟨t,pp,q⟩:=ha
 refine⟨_,zl8 hg hm pp hs hs2,fun ρ σ G0 H0 G H Q P E h k=>q ρ σ G0 H0 G H _ _ E h fun vs H' ds G' x rs hq=>?_⟩
 split at hq
 ·obtain⟨v,w',rfl,rv,rw'⟩:=zmj rs
  simp only[Rep] at rv rw'
  obtain⟨a,xs,rfl,h1,h2⟩:=rv
  obtain⟨b,ys,rfl,h3,h4⟩:=rw'
  exact⟨a,b,rfl,⟨xs,(x.s.rdl h1).sq⟩,⟨ys,(x.s.rdl h3).sq⟩,k _ H' _ G' x (zjp h1 h2 h3 h4) hq⟩
 ·exact hq.elim
noncomputable def zmY(wi:TId)(g:TGd)(tb:TX):TX:=fun D ρ=>wi ρ fun ds=>∃Iv:Nat→Ev→Prop,Iv 0 ρ∧
 (∀i d ρ',ds[i]?=some d→Iv i ρ'→g d ρ' fun ρ2=>tb { D with nx:=Iv (i+1),ct:=Iv (i+1),bk:=D.nx } ρ2)∧∀ρ',Iv ds.length ρ'→D.nx ρ'
theorem zmk{iter:Expr}{body:List Stmt}{wi:TId}{g:TGd}{tb:TX}(hp:PassesOwn (model X.prog X.w) X.A X.env X.xe)(hc:X.calm=true)(hi:PId X tg iter wi)(hg:PGd X tg g)(hb:PXs X body tb)
  (hs:∀x,foldedSetIterable iter X.env x=pure x:=by intro _;rfl):PX X (.For tg iter body [] pos) (zmY wi g tb):=by
 obtain⟨t1,p1,q1⟩:=hi
 obtain⟨t2,p2,q2⟩:=hg
 obtain⟨t3,p3,q3⟩:=hb
 refine⟨_,zlK hp hc p1 p2 p3 hs,fun ρ σ G0 H0 G H D E k h gg=>q1 ρ σ G0 H0 G H _ _ k h fun J H1 ds G1 x1 wk hq=>?_⟩
 obtain⟨Iv,i0,turn,fin⟩:=hq
 refine⟨fun i m σ' H'=>m=ds.length-i∧i≤ds.length∧∃ρ' G',EOk X.K G0 H0 ρ' σ' G' H'∧Same G1 G'∧Iv i ρ',⟨ds.length,by simp,Nat.zero_le _,ρ,G1,k.ext x1,Same.refl _,i0⟩,?_⟩
 rintro i m σ' H' ⟨rfl,hi,ρ',G',k',s',iv⟩
 by_cases hlt:i<ds.length
 ·obtain⟨w1,w2⟩:=wk
  obtain⟨go,yl⟩:=w1 i ds[i] G' H' (List.getElem?_eq_getElem hlt) s' k'.e.s
  refine .inr ⟨go,fun σ2 H2=>∃ρ2 G2,EOk X.K G0 H0 ρ2 σ2 G2 H2∧Same G1 G2∧Iv (i+1) ρ2,fun σ2 H2 ⟨ρ2,G2,k2,s2,iv2⟩=>⟨ds.length-(i+1),by omega,rfl,hlt,ρ2,G2,k2,s2,iv2⟩,fun v H2 hy=>?_⟩
  obtain⟨G2,x2,rv⟩:=yl v H2 hy
  refine q2 ρ' σ' G0 H0 G2 H2 ds[i] v _ _ (k'.ext x2) rv (turn i ds[i] ρ' (List.getElem?_eq_getElem hlt) iv) fun ρ3 σ3 G3 H3 k3 x3 hq3=>?_
  have s3:Same G1 G3:=(s'.trans x2.g).trans x3.g
  refine q3 ρ3 σ3 G0 H0 G3 H3 _ _ k3 hq3 ⟨fun ρ4 σ4 G4 H4 s4 k4 h4=>⟨ρ4,G4,k4,s3.trans s4,h4⟩,gg.rt,fun ρ4 σ4 G4 H4 s4 k4 h4=>gg.nx ρ4 σ4 G4 H4 ((x1.g.trans s3).trans s4) k4 h4,fun ρ4 σ4 G4 H4 s4 k4 h4=>⟨ρ4,G4,k4,s3.trans s4,h4⟩⟩
 ·have e:i=ds.length:=by omega
  subst e
  exact .inl ⟨wk.2 G' H' s' k'.e.s,gg.nx ρ' σ' G' H' (x1.g.trans s') k' (fin ρ' iv)⟩
end
end L2
namespace L2
open PySem PySem.Spec PyProof.Rows
noncomputable def zj8(ρ:Ev):Option Nat→Sl
 | none=>.un
 | some j=>match gt ρ j with
  | .fz d=>.fz d
  | _=>.un
noncomputable def zdJ(m:List (Option Nat))(ρ:Ev):Ev:=m.map (zj8 ρ)
theorem ze6{m:List (Option Nat)}{ρ:Ev}{i:Nat}:gt (m.map (zj8 ρ)) i=match m[i]? with
  | some o=>zj8 ρ o
  | none=>.un:=by
 induction m generalizing i with
 | nil=>simp[gt]
 | cons a r ih=>
  cases i with
  | zero=>simp[gt]
  | succ i=>simp only[List.map_cons,gt,List.getElem?_cons_succ];exact ih
noncomputable def zcV(m:List (Option Nat))(g:TGd):Prop:=∀d ρ Q,g d ρ Q→g d ρ fun ρ2=>Q ρ2∧ρ2.length=ρ.length∧∀j c,m[j]?=some (some c)→gt ρ2 j=gt ρ j
noncomputable def zet(m:List (Option Nat))(g:zhS):Prop:=∀ds ρ Q,g ds ρ Q→g ds ρ fun ρ2=>Q ρ2∧ρ2.length=ρ.length∧∀j c,m[j]?=some (some c)→gt ρ2 j=gt ρ j
theorem zan{m:List (Option Nat)}{i:Nat}(h:m[i]?=some none:=by rfl):zcV m (zaD i):=fun d ρ Q q=>by
 refine⟨q,by simp,fun j c hj=>?_⟩
 rw[ze2,if_neg]
 rintro⟨e,_⟩
 subst e
 rw[h] at hj
 cases hj
theorem zjs{m:List (Option Nat)}:zet m zgt:=fun ds ρ Q q=>by
 unfold zgt at q ⊢
 split at q
 ·exact⟨q,rfl,fun _ _ _=>rfl⟩
 ·exact q.elim
theorem ze7{m:List (Option Nat)}{t:TGd}{u:zhS}(mono:∀d ρ (Q Q':Ev→Prop),(∀ρ',Q ρ'→Q' ρ')→t d ρ Q→t d ρ Q')(monos:∀d ρ (Q Q':Ev→Prop),(∀ρ',Q ρ'→Q' ρ')→u d ρ Q→u d ρ Q')(h1:zcV m t)(h2:zet m u):zet m (zbz t u):=fun ds ρ Q q=>by
 unfold zbz at q ⊢
 split at q
 ·refine mono _ _ _ _ (fun ρ' ⟨q',l',k'⟩=>?_) (h1 _ _ _ q)
  exact monos _ _ _ _ (fun ρ2 ⟨q2,l2,k2⟩=>⟨q2,l2.trans l',fun j c hj=>(k2 j c hj).trans (k' j c hj)⟩) (h2 _ _ _ q')
 ·exact q.elim
theorem zjt{m:List (Option Nat)}{n:Nat}{u:zhS}(h2:zet m u):zcV m (zhg n u):=fun d ρ Q q=>by
 unfold zhg at q ⊢
 split at q
 ·exact⟨q.1,h2 _ _ _ q.2⟩
 ·exact q.elim
theorem zdk{i:Nat}:∀d ρ (Q Q':Ev→Prop),(∀ρ',Q ρ'→Q' ρ')→zaD i d ρ Q→zaD i d ρ Q':=fun _ _ _ _ h q=>h _ q
theorem zgw:∀d ρ (Q Q':Ev→Prop),(∀ρ',Q ρ'→Q' ρ')→zgt d ρ Q→zgt d ρ Q':=fun _ _ _ _ h q=>by
 unfold zgt at q ⊢
 split at q
 ·exact h _ q
 ·exact q.elim
theorem zhX{t:TGd}{u:zhS}(mono:∀d ρ (Q Q':Ev→Prop),(∀ρ',Q ρ'→Q' ρ')→t d ρ Q→t d ρ Q')(monos:∀d ρ (Q Q':Ev→Prop),(∀ρ',Q ρ'→Q' ρ')→u d ρ Q→u d ρ Q'):∀d ρ (Q Q':Ev→Prop),(∀ρ',Q ρ'→Q' ρ')→zbz t u d ρ Q→zbz t u d ρ Q':=fun _ _ _ _ h q=>by
 unfold zbz at q ⊢
 split at q
 ·exact mono _ _ _ _ (fun ρ' q'=>monos _ _ _ _ h q') q
 ·exact q.elim
theorem ze8{m:List (Option Nat)}{i j n:Nat}(h:m[i]?=some none:=by rfl)(h':m[j]?=some none:=by rfl):zcV m (zhg n (zbz (zaD i) (zbz (zaD j) zgt))):=
 zjt (ze7 zdk (zhX zdk zgw) (zan h) (ze7 zdk zgw (zan h') zjs))
noncomputable def PTd(X:Cx)(ifs:List Expr)(t:TDb):Prop:=∃tt,PTs X ifs tt∧∀(ρ:Ev) (σ:St) (G0 H0 G H:Hp) (Q:Bool→Prop) (P:Bool→Hp→Prop),EOk X.K G0 H0 ρ σ G H→t ρ Q→
 (∀b H' G',Ext G H G' H'→Q b→P b H')→tt σ H P
noncomputable def zdG:TDb:=fun _ Q=>Q true
theorem zaU{X:Cx}:PTd X [] zdG:=⟨_,zkJ,fun ρ σ G0 H0 G H Q P E h k=>k true H G (.refl E.e.s) h⟩
theorem zcC{X:Cx}{c:Expr}{t:TDb}(h:PB X c t):PTd X [c] t:=let⟨tt,p,q⟩:=h;⟨tt,zkK p,q⟩
noncomputable def zaX(wi:TId)(m:List (Option Nat))(g:TGd)(tc:TDb)(te:TD):TD:=fun ρ Q=>wi ρ fun ds=>∃Iv:Nat→List D→Prop,Iv 0 []∧
 (∀i d acc,ds[i]?=some d→Iv i acc→g d (zdJ m ρ) fun ρ2=>tc ρ2 fun b=>if b=true then te ρ2 fun r=>acc.length<sizeLine∧Iv (i+1) (acc++[r.val]) else Iv (i+1) acc)∧∀acc,Iv ds.length acc→Q (.ow acc)
section
variable {X:Cx} {elt iter tg:Expr} {ifs:List Expr} {scope:Scope} {pos:Pos} {N':List Str} {m:List (Option Nat)} {wi:TId} {g:TGd} {tc:TDb} {te:TD}
theorem zfV(cs:CompScope X N' m scope)(hk:zcV m g){ww:TI}{gg:TIn TG}{tcc:TIn TT}{tee:TIn TE}
  (q1:∀(ρ:Ev) (σ:St) (G0 H0 G H:Hp) (Q:List D→Prop) (P:It→Hp→Prop),EOk X.K G0 H0 ρ σ G H→wi ρ Q→(∀J H' ds G',Ext G H G' H'→zj7 X.K J G' ds→Q ds→P J H')→ww σ H P)
  (q2:∀s3 H3 ex (ρ:Ev) (σ:St) (G0 H0 G H:Hp) (d:D) (v:V) (Q:Ev→Prop) (P:St→Hp→Prop),EOk X.K G0 H0 ρ σ G H→Rep X.K G v d→g d ρ Q→(∀ρ' σ' G' H',EOk X.K G0 H0 ρ' σ' G' H'→Ext G H G' H'→Q ρ'→P σ' H')→gg s3 H3 ex v σ H P)
  (q3:∀s3 H3 ex (ρ:Ev) (σ:St) (G0 H0 G H:Hp) (Q:Bool→Prop) (P:Bool→Hp→Prop),EOk X.K G0 H0 ρ σ G H→tc ρ Q→(∀b H' G',Ext G H G' H'→Q b→P b H')→tcc s3 H3 ex σ H P)
  (q4:∀s3 H3 ex,Rdg X.K te (tee s3 H3 ex)):Rdg X.K (zaX wi m g tc te) (zje ww m gg tcc tee):=by
 refine fun ρ σ G0 H0 G H Q P E h k=>q1 ρ σ G0 H0 G H _ _ E h fun J H1 ds G1 x1 wk hq=>?_
 obtain⟨Iv,i0,turn,fin⟩:=hq
 intro D hD s3 ex
 have E1:=E.ext x1
 have hGD:G1 D=none:=x1.s.free hD
 have noow:∀{i:Nat} {es:List L2.D},gt (zdJ m ρ) i=.ow es→False:=fun{i es} h=>by
  unfold zdJ at h
  rw[ze6] at h
  split at h
  ·rename_i o _
   unfold zj8 at h
   split at h
   ·cases h
   ·split at h<;>cases h
  ·cases h
 have noov:∀{i:Nat} {o:OV},gt (zdJ m ρ) i=.ov o→False:=fun{i o} h=>by
  unfold zdJ at h
  rw[ze6] at h
  split at h
  ·rename_i o _
   unfold zj8 at h
   split at h
   ·cases h
   ·split at h<;>cases h
  ·cases h
 have zbF:EOk X.K G1 H1 (zdJ m ρ) (inn m σ) G1 (upd H1 D (.lst [])):=by
  refine⟨.own x1.s hD,by simp[inn,zdJ],fun i d h=>?_,fun i es h=>(noow h).elim,fun i j es fs _ h=>(noow h).elim,fun _=>none,fun i es _ h=>(noow h).elim,fun i o h=>(noov h).elim⟩
  unfold zdJ at h
  rw[ze6] at h
  split at h
  ·rename_i o ho
   unfold zj8 at h
   split at h
   ·cases h
   ·rename_i j
    split at h
    ·rename_i d' hd'
     cases h
     obtain⟨v,hv,rv⟩:=E1.fz j d hd'
     refine⟨v,?_,rv⟩
     unfold inn
     rw[List.getElem?_map,ho]
     simp[hv]
    ·cases h
  ·cases h
 refine⟨fun i n σ' H'=>n=ds.length-i∧i≤ds.length∧∃acc xs G',EOk X.K G1 H1 (zdJ m ρ) σ' G' H'∧H' D=some (.lst xs)∧G' D=none∧Reps X.K G' xs acc∧Iv i acc,
  ⟨ds.length,by simp,Nat.zero_le _,[],[],G1,zbF,zal,hGD,Reps.nil,i0⟩,?_⟩
 rintro i n σ' H' ⟨rfl,hi,acc,xs,G',E',hx,hg',rx,iv⟩
 by_cases hlt:i<ds.length
 ·obtain⟨w1,w2⟩:=wk
  obtain⟨go,yl⟩:=w1 i ds[i] G' H' (List.getElem?_eq_getElem hlt) E'.e.g E'.e.s
  refine .inr ⟨go,fun σ2 H2=>∃acc xs G',EOk X.K G1 H1 (zdJ m ρ) σ2 G' H2∧H2 D=some (.lst xs)∧G' D=none∧Reps X.K G' xs acc∧Iv (i+1) acc,fun σ2 H2 h2=>⟨ds.length-(i+1),by omega,rfl,hlt,h2⟩,fun v H2 hy=>?_⟩
  obtain⟨G2,x2,rv⟩:=yl v H2 hy
  refine q2 _ _ _ (zdJ m ρ) σ' G1 H1 G2 H2 ds[i] v _ _ (E'.ext x2) rv (hk _ _ _ (turn i ds[i] acc (List.getElem?_eq_getElem hlt) iv)) fun ρ3 σ3 G3 H3 E3 x3 hq3=>?_
  obtain⟨hq3,hl3,hk3⟩:=hq3
  have weak:∀j,gt (zdJ m ρ) j=.un∨gt (zdJ m ρ) j=gt ρ3 j:=fun j=>by
   cases hm:m[j]? with
   | none=>left;unfold zdJ;rw[ze6,hm]
   | some o=>
    cases o with
    | none=>left;unfold zdJ;rw[ze6,hm];rfl
    | some c=>right;exact(hk3 j c hm).symm
  have x23:=x2.trans x3
  refine q3 _ _ _ ρ3 σ3 G1 H1 G3 H3 _ _ E3 hq3 fun b H4 G4 x4 hq4=>?_
  have x24:=x23.trans x4
  have E4:=(E3.ext x4).weak (ρ':=zdJ m ρ) (hl3.symm) weak
  have hx4:H4 D=some (.lst xs):=x24.h _ _ hx
  have hg4:G4 D=none:=x24.n D hg' (by rw[hx];exact nofun)
  cases b with
  | false=>
   rw[if_neg Bool.false_ne_true] at hq4 ⊢
   exact⟨acc,xs,G4,E4,hx4,hg4,rx.mono x24.g,hq4⟩
  | true=>
   rw[if_pos rfl] at hq4 ⊢
   refine q4 _ _ _ ρ3 σ3 G1 H1 G4 H4 _ _ (E3.ext x4) hq4 fun v5 H5 r5 G5 x5 rr5 hq5=>?_
   obtain⟨G6,x6,rv6,_⟩:=rr5.freeze x5
   have E6:=E4.ext x6
   have hx6:H5 D=some (.lst xs):=x6.h _ _ hx4
   have hg6:G6 D=none:=x6.n D hg4 (by rw[hx4];exact nofun)
   have r6:Reps X.K G6 xs acc:=(rx.mono x24.g).mono x6.g
   refine⟨xs,hx6,by rw[r6.length];exact hq5.1,acc++[r5.val],xs++[v5],G6,?_,zal,hg6,r6.append (Reps.cons rv6 Reps.nil),hq5.2⟩
   refine⟨⟨E6.e.g,fun b o e=>by rw[zai (zaj e hD)];exact E6.e.h b o e,fun b o e=>by rw[zai (zaj e hg6)];exact E6.e.s b o e,E6.e.n⟩,E6.len,E6.fz,fun i es h=>(noow h).elim,fun i j es fs _ h=>(noow h).elim,fun _=>none,fun i es _ h=>(noow h).elim,fun i o h=>(noov h).elim⟩
 ·have e:i=ds.length:=by omega
  subst e
  refine .inl ⟨wk.2 G' H' E'.e.g E'.e.s,k _ H' (.ow acc) G' (x1.trans E'.e) ⟨D,xs,rfl,x1.h.free hD,hg',hx,rx⟩ (fin acc iv)⟩
theorem zaI(hc:X.calm=true)(cs:CompScope X N' m scope)(hk:zcV m g)(hi:PId X tg iter wi)(hg:∀s3 H3 ex,PGd (cxC X N' scope s3 H3 ex) tg g)(ht:∀s3 H3 ex,PTd (cxC X N' scope s3 H3 ex) ifs tc)
  (he:∀s3 H3 ex,PD (cxC X N' scope s3 H3 ex) elt te) (hs:∀x,foldedSetIterable iter X.env x=pure x:=by intro _;rfl):PD X (.ListComp elt [⟨tg,iter,ifs,0⟩] scope pos) (zaX wi m g tc te):=by
 obtain⟨ww,p1,q1⟩:=hi
 exact⟨_,zkL (g:=fun s3 H3 ex=>(hg s3 H3 ex).choose) (tc:=fun s3 H3 ex=>(ht s3 H3 ex).choose) (te:=fun s3 H3 ex=>(he s3 H3 ex).choose) hc cs p1 (fun s3 H3 ex=>(hg s3 H3 ex).choose_spec.1) (fun s3 H3 ex=>(ht s3 H3 ex).choose_spec.1) (fun s3 H3 ex=>(he s3 H3 ex).choose_spec.1) hs,
  zfV cs hk q1 (fun s3 H3 ex=>(hg s3 H3 ex).choose_spec.2) (fun s3 H3 ex=>(ht s3 H3 ex).choose_spec.2) (fun s3 H3 ex=>(he s3 H3 ex).choose_spec.2)⟩
theorem zkV(i:Nat){x:Str}{pos' posS:Pos}(hc:X.calm=true)(cs:CompScope X N' m scope)(hk:zcV m g)(hi:PId X tg iter wi)(hg:∀s3 H3 ex,PGd (cxC X N' scope s3 H3 ex) tg g)(ht:∀s3 H3 ex,PTd (cxC X N' scope s3 H3 ex) ifs tc)
  (he:∀s3 H3 ex,PD (cxC X N' scope s3 H3 ex) elt te) (hN:X.N.Nodup:=by assumption) (hix:X.N[i]?=some x:=by rfl) (hx:Loc X.env.scope x:=by first | exact Or.inl rfl | exact Or.inr rfl) (hs:∀x,foldedSetIterable iter X.env x=pure x:=by intro _;rfl)
  (hsw:swapsWith (.ListComp elt [⟨tg,iter,ifs,0⟩] scope pos) (some (.Name x pos')) posS.line X.env=pure true:=by rfl)
  (hf:X.fn x=true∨X.env.scope.names.lookup x=some .local:=by first | exact .inl rfl | exact .inr rfl | assumption) :
  PX X (.Assign [.Name x pos'] (.ListComp elt [⟨tg,iter,ifs,0⟩] scope pos) posS) (zln i (zaX wi m g tc te)):=by
 obtain⟨ww,p1,q1⟩:=hi
 refine⟨_,zhG (g:=fun s3 H3 ex=>(hg s3 H3 ex).choose) (tc:=fun s3 H3 ex=>(ht s3 H3 ex).choose) (te:=fun s3 H3 ex=>(he s3 H3 ex).choose) hN hix hx hc cs p1 (fun s3 H3 ex=>(hg s3 H3 ex).choose_spec.1) (fun s3 H3 ex=>(ht s3 H3 ex).choose_spec.1) (fun s3 H3 ex=>(he s3 H3 ex).choose_spec.1) hs hsw hf,fun ρ σ G0 H0 G H D E k h gg=>?_⟩
 exact zfV cs hk q1 (fun s3 H3 ex=>(hg s3 H3 ex).choose_spec.2) (fun s3 H3 ex=>(ht s3 H3 ex).choose_spec.2) (fun s3 H3 ex=>(he s3 H3 ex).choose_spec.2) ρ σ G0 H0 G H _ _ k h fun v H' r G' x rr hq=>gg.nx _ _ G' H' x.g (k.put x rr) hq
theorem zgx(i:Nat){x:Str}{pos' posS:Pos}(hc:X.calm=true)(cs:CompScope X N' m scope)(hk:zcV m g)(hi:PId X tg iter wi)(hg:∀s3 H3 ex,PGd (cxC X N' scope s3 H3 ex) tg g)(ht:∀s3 H3 ex,PTd (cxC X N' scope s3 H3 ex) ifs tc)
  (he:∀s3 H3 ex,PD (cxC X N' scope s3 H3 ex) elt te) (hN:X.N.Nodup:=by assumption) (hix:X.N[i]?=some x:=by rfl) (hx:Loc X.env.scope x:=by first | exact Or.inl rfl | exact Or.inr rfl) (hs:∀x,foldedSetIterable iter X.env x=pure x:=by intro _;rfl)
  (hsw:swapsWith (.ListComp elt [⟨tg,iter,ifs,0⟩] scope pos) (some (.Name x pos')) posS.line X.env=pure true:=by rfl)
  (hf:X.fn x=true∨X.env.scope.names.lookup x=some .local:=by first | exact .inl rfl | exact .inr rfl | assumption) :
  PX X (.Assign [.Name x pos'] (.ListComp elt [⟨tg,iter,ifs,0⟩] scope pos) posS) (zaT i (zaX wi m g tc te)):=by
 obtain⟨ww,p1,q1⟩:=hi
 refine⟨_,zhG (g:=fun s3 H3 ex=>(hg s3 H3 ex).choose) (tc:=fun s3 H3 ex=>(ht s3 H3 ex).choose) (te:=fun s3 H3 ex=>(he s3 H3 ex).choose) hN hix hx hc cs p1 (fun s3 H3 ex=>(hg s3 H3 ex).choose_spec.1) (fun s3 H3 ex=>(ht s3 H3 ex).choose_spec.1) (fun s3 H3 ex=>(he s3 H3 ex).choose_spec.1) hs hsw hf,fun ρ σ G0 H0 G H D E k h gg=>?_⟩
 refine zfV cs hk q1 (fun s3 H3 ex=>(hg s3 H3 ex).choose_spec.2) (fun s3 H3 ex=>(ht s3 H3 ex).choose_spec.2) (fun s3 H3 ex=>(he s3 H3 ex).choose_spec.2) ρ σ G0 H0 G H _ _ k h fun v H' r G' x rr hq=>?_
 obtain⟨G2,x2,rv,_⟩:=rr.freeze x
 exact gg.nx _ _ G2 H' x2.g (k.put x2 (r:=.fz r.val) rv) hq
end
noncomputable abbrev SpD:=List D→(R→Prop)→Prop
noncomputable def PSp(K:PySem.W.Frag)(n:Nat)(t:SpD):Sp:=fun vs H Q _=>∃G ds Qr,Same G H∧Reps K G vs ds∧ds.length=n∧t ds Qr∧∀v H' r G',Ext G H G' H'→RepR K G' H' H v r→Qr r→Q v H'
noncomputable def zay(N:List Str)(ds:List D):Ev:=ds.map Sl.fz++List.replicate (N.length-ds.length) .un
theorem ze9{ds:List D}{l:List Sl}{i:Nat}{s:Sl}(h:gt (ds.map Sl.fz++l) i=s):(∃d,ds[i]?=some d∧s=.fz d)∨(ds.length≤i∧gt l (i-ds.length)=s):=by
 induction ds generalizing i with
 | nil=>exact .inr ⟨Nat.zero_le _,by simpa using h⟩
 | cons d ds ih=>
  cases i with
  | zero=>simp only[List.map_cons,List.cons_append,gt] at h;exact .inl ⟨d,rfl,h.symm⟩
  | succ i=>
   simp only[List.map_cons,List.cons_append,gt] at h
   rcases ih h with⟨e,h1,h2⟩ | ⟨h1,h2⟩
   ·exact .inl ⟨e,by simpa using h1,h2⟩
   ·refine .inr ⟨by simp;omega,?_⟩
    rw[List.length_cons]
    rw[show i+1-(ds.length+1)=i-ds.length by omega]
    exact h2
theorem zhY{n i:Nat}:gt (List.replicate n Sl.un) i=.un:=by
 induction n generalizing i with
 | zero=>simp[gt]
 | succ n ih=>
  cases i with
  | zero=>rfl
  | succ i=>exact ih
theorem zeu{K:PySem.W.Frag}{G H:Hp}{N:List Str}{vs:List V}{ds:List D}(s:Same G H)(r:Reps K G vs ds):EOk K G H (zay N ds) (zbF N vs) G H:=by
 have hl:=r.length
 have c:∀{i:Nat} {t:Sl},gt (zay N ds) i=t→t≠.un→∃d,ds[i]?=some d∧t=.fz d:=fun{i t} h n=>by
  rcases ze9 h with h | ⟨_,h⟩
  ·exact h
  ·rw[zhY] at h;exact absurd h.symm n
 refine⟨.refl s,by simp[zbF,zay,hl],fun i d h=>?_,fun i es h=>?_,fun i j es fs _ h=>?_,fun _=>none,fun i es _ h=>?_,fun i o h=>?_⟩
 ·obtain⟨d',h1,h2⟩:=c h (by simp)
  cases h2
  obtain⟨v,hv,rv⟩:=r.get h1
  have hi:i<vs.length:=(List.getElem?_eq_some_iff.mp hv).1
  refine⟨v,?_,rv⟩
  unfold zbF
  rw[List.getElem?_append_left (by simpa using hi),List.getElem?_map,hv]
  rfl
 ·obtain⟨d',h1,h2⟩:=c h (by simp)
  cases h2
 ·obtain⟨d',h1,h2⟩:=c h (by simp)
  cases h2
 ·obtain⟨d',h1,h2⟩:=c h (by simp)
  cases h2
 ·obtain⟨d',h1,h2⟩:=c h (by simp)
  cases h2
section
variable {P:Program} {w:World} {K:PySem.W.Frag} {mg:Str→Option Value} {base:Heap}
theorem zhZ{x qual:Str}{st:Stmt}{f:Addr}{fd:FuncData}{N ps:List Str}{k:Nat}{t:SpD}{T:TX}{dV:Value}(F:FunV dV K x qual st f fd)(S:FnScope N ps (defScope st))
  (body:∀(cdv:Value) (A:Around) (outer:List Env) (s:Shared) (H:Hp) (E:XK),Room k (A.deeper (envOfC qual (defScope st) s.heap.objs.size f cdv))→PXs (zfP CX0 P w K mg base N qual (defScope st) f cdv A outer s H E).nox (defBody st) T)
  (spec:∀(ds:List D) (Qr:R→Prop),ds.length=ps.length→t ds Qr→T { nx:=fun _=>Qr (.fz .non),rt:=Qr } (zay N ds)):FnOk P w K mg base CX0 (k+1) f fd ps (PSp K ps.length t):=by
 refine F.ok S (fun vs H Q E h=>?_) (fun cdv A outer s H vs Q E hr h=>?_)
 ·obtain⟨G,ds,Qr,_,r,hl,_⟩:=h
  rw[r.length,hl]
 ·obtain⟨G,ds,Qr,s0,r,hl,ht,k0⟩:=h
  obtain⟨tt,p,q⟩:=body cdv A outer s H E hr
  exact⟨tt,p,q _ _ G H G H _ _ (zeu s0 r) (spec ds Qr hl ht) ⟨fun ρ σ G' H' _ e h=>k0 _ H' _ G' e.e (fzR (zfT _ _)) h,k0,fun _ _ _ _ _ _ h=>h.elim,fun _ _ _ _ _ _ h=>h.elim⟩⟩
end
section
variable {X:Cx} {k n:Nat} {f:Addr} {fd:FuncData} {ps:List Str} {t:SpD} {x:Str} {p pos:Pos} {e:Expr} {es:List Expr} {ts:TDa}
noncomputable def zax(n:Nat)(t:SpD)(ts:TDa):TD:=fun ρ Q=>ts ρ fun ds=>ds.length=n∧t ds Q
theorem zkW(F:FnOk X.prog X.w X.K X.mg X.base CX0 k f fd ps (PSp X.K n t))(hr:Room k X.A)(hm:X.mg x=some (.ref f))(hk:PySem.W.keepIn X.K (.ref f)=true)(hb:Binds X.K fd ps [])(ha:PDa X (e::es) ts)(hg:Gl X x:=by rfl)(hdb:(x==("__debug__":Str))=false:=by decide)
  (he:starEach (e::es) X.env=(false,eval e X.env)::starEach es X.env:=by rfl) (hpl:(backTo pos (starEach es X.env)).any (·.1)=false:=by rfl):PD X (.Call (.Name x p) (e::es) [] pos) (zax n t ts):=by
 obtain⟨tt,pp,q⟩:=ha
 refine⟨_,zhw F hr hg hm hk hb .nil zl5 pp hdb he hpl,fun ρ σ G0 H0 G H Q P E h k=>q ρ σ G0 H0 G H _ _ E h fun vs H' ds G' x rs hq=>?_⟩
 rw[List.append_nil]
 exact⟨G',ds,Q,x.s,rs,hq.1,hq.2,fun v H2 r G2 x2 rr q2=>k v H2 r G2 (x.trans x2) (rr.older x.h) q2⟩
end
end L2
namespace L2
open PySem PySem.Spec PyProof.Rows PySem.StrLaws
noncomputable def zdl{α:Type}(xs:List α)(lo hi:Option Int):List α:=(xs.drop (HT.sIx xs.length 0 lo)).take (HT.sIx xs.length xs.length hi-HT.sIx xs.length 0 lo)
noncomputable def zju(z:Str)(lo hi:Option Int):Str:=⟨(zdl z.cps.toList lo hi).toArray⟩
theorem zfa(v:Int)(n d:Nat):max 0 (min (if v<0 then v+(n:Int) else v) (n:Int))=((HT.sIx n d (some v):Nat):Int):=by
 rw[←HT.clip_eq]
 by_cases h:v<0
 ·rw[if_pos h,if_pos h];omega
 ·rw[if_neg h,if_neg h];omega
theorem zed(z:Str)(lo hi:Option Int):(Builtin.Str.strSliceIndices lo hi 1 z.length).filterMap (z.cps[·]?)=zdl z.cps.toList lo hi:=by
 have hl:z.cps.toList.length=z.length:=by simp[Str.length]
 have e:Builtin.Str.strSliceIndices lo hi 1 z.length=sliceRange ((HT.sIx z.length 0 lo:Nat):Int) ((HT.sIx z.length z.length hi:Nat):Int) 1:=by
  unfold Builtin.Str.strSliceIndices
  cases lo with
  | none=>
   cases hi with
   | none=>rfl
   | some v=>simp only[show((1:Int)>0) from by decide,if_true,zfa v z.length z.length];rfl
  | some u=>
   cases hi with
   | none=>simp only[show((1:Int)>0) from by decide,if_true,zfa u z.length 0];rfl
   | some v=>simp only[show((1:Int)>0) from by decide,if_true,zfa v z.length z.length,zfa u z.length 0]
 rw[e]
 unfold zdl
 rw[hl]
 generalize ha:HT.sIx z.length 0 lo=a
 generalize hb:HT.sIx z.length z.length hi=b
 have hbl:b≤z.length:=by rw[←hb];exact HT.sIx_le _ _ (Nat.le_refl _) _
 have hal:a≤z.length:=by rw[←ha];exact HT.sIx_le _ _ (Nat.zero_le _) _
 by_cases hab:a≤b
 ·have:=sliced_plain z hab hbl
  rw[strSliceIndices_plain hab hbl] at this
  rw[←this]
  unfold sliceRange
  simp only[show((1:Int)>0) from by decide,if_true]
  congr 1
  by_cases h:a<b
  ·rw[if_pos (by omega)]
   rw[show(((b:Int)-(a:Int)+1-1)/1).toNat=b-a by omega]
   apply List.map_congr_left
   intro k _
   show((a:Int)+1*(k:Int)).toNat=a+k
   omega
  ·rw[if_neg (by omega),show b-a=0 by omega]
   rfl
 ·rw[show b-a=0 by omega,List.take_zero]
  unfold sliceRange
  simp only[show((1:Int)>0) from by decide,if_true]
  rw[if_neg (by omega)]
  rfl
theorem zh0(z:Str)(lo hi:Option Int):Txt.slice z lo hi=zju z lo hi:=by
 unfold Txt.slice zju
 split
 ·rename_i h
  have h':(Builtin.Str.strSliceIndices lo hi 1 z.length).length=z.length:=by simpa using h
  have hl:z.cps.toList.length=z.length:=by simp[Str.length]
  have e:=zed z lo hi
  have h2:(zdl z.cps.toList lo hi).length=z.length:=by
   unfold zdl
   rw[List.length_take,List.length_drop,hl]
   have e1:Builtin.Str.strSliceIndices lo hi 1 z.length=sliceRange ((HT.sIx z.length 0 lo:Nat):Int) ((HT.sIx z.length z.length hi:Nat):Int) 1:=by
    unfold Builtin.Str.strSliceIndices
    cases lo with
    | none=>
     cases hi with
     | none=>rfl
     | some v=>simp only[show((1:Int)>0) from by decide,if_true,zfa v z.length z.length];rfl
    | some u=>
     cases hi with
     | none=>simp only[show((1:Int)>0) from by decide,if_true,zfa u z.length 0];rfl
     | some v=>simp only[show((1:Int)>0) from by decide,if_true,zfa v z.length z.length,zfa u z.length 0]
   rw[e1] at h'
   unfold sliceRange at h'
   simp only[show((1:Int)>0) from by decide,if_true,List.length_map,List.length_range] at h'
   have b1:=HT.sIx_le z.length z.length (Nat.le_refl _) hi
   have b2:=HT.sIx_le z.length 0 (Nat.zero_le _) lo
   by_cases h3:((HT.sIx z.length 0 lo:Nat):Int)<((HT.sIx z.length z.length hi:Nat):Int)
   ·rw[if_pos h3] at h';omega
   ·rw[if_neg h3] at h';simp at h';omega
  apply Str.ext'
  show z.cps=(zdl z.cps.toList lo hi).toArray
  have h3:zdl z.cps.toList lo hi=z.cps.toList:=by
   unfold zdl at h2 ⊢
   rw[List.length_take,List.length_drop,hl] at h2
   rw[hl]
   have b1:=HT.sIx_le z.length z.length (Nat.le_refl _) hi
   have a0:HT.sIx z.length 0 lo=0∨z.length=0:=by omega
   rcases a0 with a0 | a0
   ·rw[a0,List.drop_zero,Nat.sub_zero]
    exact List.take_of_length_le (by omega)
   ·have:z.cps.toList=[]:=List.eq_nil_of_length_eq_zero (by omega)
    rw[this];simp
  rw[h3]
 ·rw[zed]
section
variable {X:Cx} {pos:Pos} {e:Expr} {te:TD}
theorem sl_str:SlR X (fun x lo hi H Q=>∃z,x=.str z∧z.length≤sizeLine∧Q (.str (zju z lo hi)) H):=by
 intro pins s σ H x v vl vu lo hi sl Q I rx hs pl pu h
 obtain⟨z,rfl,hz,q⟩:=h
 obtain⟨t,rfl⟩:=rx
 refine⟨"str",_,F.slot_str_getitem.lookup,typeIs_str _ _ _,?_⟩
 have part:∀{u:Value} {o:Option Int},IsPart u o→∃p:Option (Int×Tok),u=partValue p∧p.map (·.1)=o:=fun h=>by
  cases h with
  | none=>exact⟨none,rfl,rfl⟩
  | int i t=>exact⟨some (i,t),rfl,rfl⟩
 obtain⟨p1,rfl,e1⟩:=part pl
 obtain⟨p2,rfl,e2⟩:=part pu
 obtain⟨o,ho,hc,hd⟩:=hs
 refine wpAny_getItem_str_slice (l:=p1) (u:=p2) (st:=none) ⟨o,ho,hc,hd⟩ rfl ?_
 have fin:∀t' k,EP X pins σ Q (.str (Txt.slice z lo hi) t') { s with toks:=k }:=fun t' k=>⟨.str (zju z lo hi),H,I.tok k,⟨t',by rw[zh0]⟩,q⟩
 have hle:=Nat.le_trans (Txt.slice_le z lo hi) hz
 subst e1 e2
 exact post_val_or_str ⟨hle,fin⟩
noncomputable abbrev TOd:=Ev→(Option Int→Prop)→Prop
noncomputable def POd(X:Cx)(e:Option Expr)(t:TOd):Prop:=∃tt,PO X e tt∧∀(ρ:Ev) (σ:St) (G0 H0 G H:Hp) (Q:Option Int→Prop) (P:Option Int→Hp→Prop),EOk X.K G0 H0 ρ σ G H→t ρ Q→(∀o H' G',Ext G H G' H'→Q o→P o H')→tt σ H P
noncomputable def oNo:TOd:=fun _ Q=>Q none
noncomputable def zbB(te:TD):TOd:=fun ρ Q=>te ρ fun r=>match r.val with
 | .int i=>Q (some i)
 | _=>False
theorem zaR:POd X none oNo:=⟨_,zkE,fun ρ σ G0 H0 G H Q P E h k=>k none H G (.refl E.e.s) h⟩
theorem zaz(h:PD X e te):POd X (some e) (zbB te):=by
 obtain⟨t,p,q⟩:=h
 refine⟨_,zhz p,fun ρ σ G0 H0 G H Q P E h k=>q ρ σ G0 H0 G H _ _ E h fun v H' r G' x rr hq=>?_⟩
 obtain⟨G2,x2,rv,_⟩:=rr.freeze x
 split at hq
 ·rename_i i e1
  rw[e1] at rv
  simp only[Rep] at rv
  exact⟨i,rv,k _ H' G2 x2 hq⟩
 ·exact hq.elim
noncomputable def dSl(te:TD)(tl th:TOd):TD:=fun ρ Q=>te ρ fun r=>tl ρ fun lo=>th ρ fun hi=>match r.val with
 | .lst ds=>Q (.ow (zdl ds lo hi))
 | .str z=>z.length≤sizeLine∧Q (.fz (.str (zju z lo hi)))
 | .tup ds=>¬(HT.sIx ds.length 0 lo=0∧HT.sIx ds.length ds.length hi=ds.length)∧Q (.fz (.tup (zdl ds lo hi)))
 | _=>False
theorem zh1{K:PySem.W.Frag}{G:Hp}{xs:List V}{ds:List D}(r:Reps K G xs ds)(lo hi:Option Int):Reps K G (ziT xs lo hi) (zdl ds lo hi):=by
 unfold ziT zdl
 rw[r.length]
 exact(r.drop _).take _
theorem zaZ{lo hi:Option Expr}{tl th:TOd}{p2:Pos}(he:PD X e te)(hl:POd X lo tl)(hh:POd X hi th):PD X (.Subscript e (.Slice lo hi none p2) pos) (dSl te tl th):=by
 obtain⟨t1,p1,q1⟩:=he
 obtain⟨t2,p2,q2⟩:=hl
 obtain⟨t3,p3,q3⟩:=hh
 refine⟨_,zjb (sl_list.or (sl_str.or zlZ)) p1 p2 p3,fun ρ σ G0 H0 G H Q P E h k=>q1 ρ σ G0 H0 G H _ _ E h fun v H' r G' x rr hq=>?_⟩
 obtain⟨G1,x1,rv,_⟩:=rr.freeze x
 refine q2 ρ σ G0 H0 G1 H' _ _ (E.ext x1) hq fun lo H2 G2 x2 hq2=>?_
 refine q3 ρ σ G0 H0 G2 H2 _ _ ((E.ext x1).ext x2) hq2 fun hi H3 G3 x3 hq3=>?_
 have x13:=(x1.trans x2).trans x3
 have rv3:=(rv.mono x2.g).mono x3.g
 split at hq3
 ·rename_i ds e1
  rw[e1] at rv3
  simp only[Rep] at rv3
  obtain⟨a,xs,rfl,h1,h2⟩:=rv3
  refine .inl ⟨a,xs,rfl,(x13.s.rdl h1).sq,fun p hp=>?_⟩
  exact k _ _ (.ow _) G3 (x13.trans (.own x13.s hp)) ⟨p,_,rfl,x13.h.free hp,x13.s.free hp,zal,zh1 h2 lo hi⟩ hq3
 ·rename_i z e1
  rw[e1] at rv3
  simp only[Rep] at rv3
  exact .inr (.inl ⟨z,rv3,hq3.1,k _ _ _ G3 x13 (fzR (zbx _ _ _)) hq3.2⟩)
 ·rename_i ds e1
  rw[e1] at rv3
  simp only[Rep] at rv3
  obtain⟨a,xs,rfl,h1,h2⟩:=rv3
  refine .inr (.inr ⟨a,xs,rfl,x13.s.seqT h1,by rw[h2.length];exact hq3.1,fun p hp=>?_⟩)
  have x4:Ext G3 H3 (upd G3 p (.tup (ziT xs lo hi))) (upd H3 p (.tup (ziT xs lo hi))):=.new x13.s hp
  refine k _ _ (.fz _) _ (x13.trans x4) ?_ hq3.2
  show Rep X.K _ _ (.tup _)
  simp only[Rep]
  exact⟨p,_,rfl,SqT.of zal,(zh1 h2 lo hi).mono x4.g⟩
 ·exact hq3.elim
noncomputable def zeO:SpD:=fun ds Q=>match ds with
 | [.lst es]=>Q (.fz (.int es.length))
 | [.tup es]=>Q (.fz (.int es.length))
 | [.str z]=>z.length≤sizeLine∧Q (.fz (.int z.length))
 | _=>False
theorem zco:zdH X (.builtin "len") zeO:=by
 refine⟨_,call_len_seq.or zeY,fun G H vs ds Q P s rs h k=>?_⟩
 unfold zeO at h
 split at h
 ·obtain⟨v,rfl,rv⟩:=zbH rs
  simp only[Rep] at rv
  obtain⟨a,xs,rfl,h1,h2⟩:=rv
  refine .inl ⟨a,xs,rfl,.inl ((s.rdl h1).sq),?_⟩
  rw[h2.length]
  exact k _ _ _ G (.refl s) (fzR (zaB _ _ _)) h
 ·obtain⟨v,rfl,rv⟩:=zbH rs
  simp only[Rep] at rv
  obtain⟨a,xs,rfl,h1,h2⟩:=rv
  refine .inl ⟨a,xs,rfl,.inr (s.seqT h1),?_⟩
  rw[h2.length]
  exact k _ _ _ G (.refl s) (fzR (zaB _ _ _)) h
 ·obtain⟨v,rfl,rv⟩:=zbH rs
  simp only[Rep] at rv
  subst rv
  exact .inr ⟨_,rfl,h.1,k _ _ _ G (.refl s) (fzR (zaB _ _ _)) h.2⟩
 ·exact h.elim
noncomputable def zbM:List D→Option (List Bool)
 | []=>some []
 | .bl b::r=>(zbM r).map (b::·)
 | _=>none
theorem zfb:∀{ds:List D} {bs:List Bool},zbM ds=some bs→ds=bs.map D.bl
 | [],bs,h=>by simp[zbM] at h;subst h;rfl
 | .bl b::r,bs,h=>by
  simp only[zbM,Option.map_eq_some_iff] at h
  obtain⟨bs',h1,rfl⟩:=h
  rw[zfb h1];rfl
 | .non::r,bs,h=>by simp[zbM] at h
 | .int _::r,bs,h=>by simp[zbM] at h
 | .str _::r,bs,h=>by simp[zbM] at h
 | .tup _::r,bs,h=>by simp[zbM] at h
 | .lst _::r,bs,h=>by simp[zbM] at h
 | .obj _ _::r,bs,h=>by simp[zbM] at h
 | .dic _::r,bs,h=>by simp[zbM] at h
 | .dit _::r,bs,h=>by simp[zbM] at h
theorem zh2{K:PySem.W.Frag}{G:Hp}:∀{bs:List Bool} {vs:List V},Reps K G vs (bs.map D.bl)→vs=bs.map V.bl
 | [],[],_=>rfl
 | b::bs,v::vs,h=>by
  simp only[List.map_cons,Reps,Rep] at h
  rw[h.1,zh2 h.2];rfl
 | [],_::_,h=>by simp only[List.map_nil,Reps] at h
 | _::_,[],h=>by simp only[List.map_cons,Reps] at h
theorem zjv{bs:List Bool}{us:List Value}(h:Vals (bs.map V.bl) us){i:Nat}{v:Value}(hv:us[i]?=some v):∃b,bs[i]?=some b∧v=.bool b:=by
 have hl:=h.length
 have hi:i<us.length:=(List.getElem?_eq_some_iff.mp hv).1
 have hi2:i<bs.length:=by rw[List.length_map] at hl;omega
 obtain⟨u,hu,ru⟩:=h.get (i:=i) (x:=V.bl bs[i]) (by simp[hi2])
 rw[hv] at hu
 cases hu
 exact⟨bs[i],by simp[hi2],ru⟩
theorem zkX{s:Shared}{h':Heap}{o:Obj}(hk:∀b x,b∉[s.heap.objs.size]→(s.heap.push o).get? b=some x→h'.get? b=some x):∀b x,s.heap.get? b=some x→h'.get? b=some x:=
 fun b x e=>hk b x (fun hm=>by rw[List.mem_singleton.mp hm] at e;exact Nat.lt_irrefl _ (Heap.lt_size e)) (Heap.get?_push_of_some _ e)
theorem zkY(bs:List Bool):((List.range bs.length).all fun i=>(bs[i]?).getD true)=bs.all id:=by
 rw[Bool.eq_iff_iff]
 simp only[List.all_eq_true,List.mem_range,id]
 constructor
 ·intro h b hb
  obtain⟨i,hi,rfl⟩:=List.mem_iff_getElem.mp hb
  simpa[hi] using h i hi
 ·intro h i hi
  simpa[hi] using h _ (List.getElem_mem hi)
theorem zh3(hc:X.calm=true):CallR X (.builtin "all") (fun xs H Q=>∃(p:Addr) (bs:List Bool),xs=[.ref p]∧SqL X.K H p (bs.map V.bl)∧Q (.bl (bs.all id)) H):=by
 intro pins s σ H xs us Q I r h
 obtain⟨p,bs,rfl,hq,q⟩:=h
 obtain⟨u,rfl,ru⟩:=zbY r
 cases ru
 obtain⟨its,rv,pl,hz⟩:=I.list hq
 have hlt:p<s.heap.objs.size:=by obtain⟨_,_,e,_⟩:=pl;exact Heap.lt_size e
 have hl:its.length=bs.length:=by rw[←rv.length,List.length_map]
 refine call_all_walk (wpAny_pyIter_list pl.isList ?_)
 refine⟨s.heap.objs.size,[s.heap.objs.size,p],[s.heap.objs.size],its.toArray.size,_,_,fun i=>(bs[i]?).getD true,rfl,Walks.list (A:=X.A.in1) (I.ok.hd hc) _ p (Nat.ne_of_lt hlt) its.toArray,
  ⟨⟨_,Heap.get?_push_size _ rfl,rfl,rfl⟩,pl.isList.push _⟩,fun i v s' Q' E' hP hQ=>?_,fun h' tk hk=>?_⟩
 ·obtain⟨b,e,rfl⟩:=zjv rv (i:=i) (v:=v) (by simpa using hP)
  simp only[e,Option.getD_some] at hQ
  exact wpAny_truthy_bool hQ
 ·rw[List.size_toArray,hl,zkY]
  exact⟨.bl _,H,I.kept (zkX hk),rfl,q⟩
noncomputable def zj9:SpD:=fun ds Q=>match ds with
 | [.lst es]=>match zbM es with
  | some bs=>Q (.fz (.bl (bs.all id)))
  | none=>False
 | _=>False
theorem zjw(hc:X.calm=true):zdH X (.builtin "all") zj9:=by
 refine⟨_,zh3 hc,fun G H vs ds Q P s rs h k=>?_⟩
 unfold zj9 at h
 split at h
 ·split at h
  ·rename_i es bs hb
   obtain⟨v,rfl,rv⟩:=zbH rs
   simp only[Rep] at rv
   obtain⟨a,xs,rfl,h1,h2⟩:=rv
   rw[zfb hb] at h2
   rw[zh2 h2] at h1
   exact⟨a,bs,rfl,(s.rdl h1).sq,k _ _ _ G (.refl s) (fzR (za4 _ _ _)) h⟩
  ·exact h.elim
 ·exact h.elim
end
end L2
namespace L2
open PySem PySem.Spec PyProof.Rows
section
variable {X:Cx} {pos:Pos} {e:Expr} {te:TD}
noncomputable def tyD:D→String
 | .non=>"NoneType"
 | .bl _=>"bool"
 | .int _=>"int"
 | .str _=>"str"
 | .tup _=>"tuple"
 | .lst _=>"list"
 | .obj _ _=>"object"
 | .dic _=>"dict"
 | .dit _=>"dict"
end
end L2
namespace L2
open PySem PySem.Spec PyProof.Rows
section
variable {P:Program} {w:World} {K:PySem.W.Frag} {mg:Str→Option Value} {base:Heap}
structure Known (P:Program) (w:World) (K:PySem.W.Frag) (mg:Str→Option Value) (base:Heap) (k:Nat) (x:Str) (n:Nat) (t:SpD):Prop where
 ex:∃(f:Addr) (fd:FuncData) (ps:List Str),FnOk P w K mg base CX0 k f fd ps (PSp K n t)∧mg x=some (.ref f)∧PySem.W.keepIn K (.ref f)=true∧Binds K fd ps []
structure At (K:PySem.W.Frag) (mg:Str→Option Value) (x:Str) (st:Stmt):Prop where
 ex:∃(f:Addr) (fd:FuncData),Fun K x x st f fd∧mg x=some (.ref f)
theorem at_mk{h:Heap}{x:Str}{st:Stmt}{f:Addr}{oc:Value}{od an:Option Addr}{osl:Array (Option Value)}{kV doc pm cdv ct:Value}(X:K.In h)(G:h.Ns mainGlobals mg)(a:PySem.W.nsIn K mainGlobals x=some (some (.ref f)))
  (l:K.lookup f=some ⟨oc,od,.func (PySem.W.fnOf x x (defArgs st) (defBody st) (defScope st) .none kV doc pm an cdv ct),osl⟩) (c:PySem.W.codeIn K cdv x=true) (k:PySem.W.keepIn K (.ref f)=true):At K mg x st:=
 ⟨f,_,zj2 l c k,PySem.W.mg_of X G a⟩
theorem conS_mk{h:Heap}{x:Str}{u:Value}{z:Str}{t:Tok}(X:K.In h)(G:h.Ns mainGlobals mg)(c:PySem.W.nsIn K mainGlobals x=some (some u))(e:u=.str z t):∃t,mg x=some (.str z t):=⟨t,by rw[PySem.W.mg_of X G c,e]⟩
theorem conI_mk{h:Heap}{x:Str}{u:Value}{z:Int}{t:Tok}(X:K.In h)(G:h.Ns mainGlobals mg)(c:PySem.W.nsIn K mainGlobals x=some (some u))(e:u=.int z t):∃t,mg x=some (.int z t):=⟨t,by rw[PySem.W.mg_of X G c,e]⟩
end
section
variable {X:Cx} {k k' n:Nat} {t:SpD} {x:Str} {p pos:Pos} {e:Expr} {es:List Expr} {ts:TDa}
theorem zag(C:Known X.prog X.w X.K X.mg X.base k x n t)(hr:Room k' X.A)(ha:PDa X (e::es) ts)(hk:k≤k':=by decide)(hg:Gl X x:=by rfl)(hdb:(x==("__debug__":Str))=false:=by decide)
  (he:starEach (e::es) X.env=(false,eval e X.env)::starEach es X.env:=by rfl) (hpl:(backTo pos (starEach es X.env)).any (·.1)=false:=by rfl):PD X (.Call (.Name x p) (e::es) [] pos) (zax n t ts):=by
 obtain⟨f,fd,ps,F,hm,kp,hb⟩:=C.ex
 exact zkW F (hr.mono hk) hm kp hb ha hg hdb he hpl
end
noncomputable def zh4(kindOf:Str→Option NameKind)(N N':List Str)(m:List (Option Nat))(scope:Scope):Bool:=
 (scope.kind==.function)&&(m.length==N'.length)&&(scope.names.all fun y=>y.2 != .cell)&&(scope.names.all fun y=>y.2 != .local||scope.names.lookup y.1==some .local) &&
 (scope.names.all fun y=>y.2 != .free||kindOf y.1==some .cell||kindOf y.1==some .free) &&
 ((m.zip N').all fun p=>match p.1 with
   | none=>true
   | some j=>N[j]?==some p.2&&scope.names.lookup p.2==some .free)
theorem CompScope.of{X:Cx}{N':List Str}{m:List (Option Nat)}{scope:Scope}(h:zh4 X.env.kindOf X.N N' m scope=true):CompScope X N' m scope:=by
 unfold zh4 at h
 simp only[Bool.and_eq_true,beq_iff_eq,List.all_eq_true,Bool.or_eq_true,bne_iff_ne,ne_eq] at h
 obtain⟨⟨⟨⟨⟨h1,h2⟩,h3⟩,h4⟩,h5⟩,h6⟩:=h
 refine⟨h1,h2,fun y hy=>h3 y hy,fun y hy e=>(h4 y hy).resolve_left fun z=>z e,fun y hy e=>?_,fun i j x hm hN=>?_⟩
 ·rcases h5 y hy with(z | z) | z
  ·exact absurd e z
  ·exact .inl z
  ·exact .inr z
 ·have hz:(some j,x)∈m.zip N':=by
   apply List.mem_of_getElem? (i:=i)
   rw[List.getElem?_zip_eq_some]
   exact⟨hm,hN⟩
  have:=h6 _ hz
  simpa using this
theorem zg4{K:PySem.W.Frag}{G:Hp}{a:Addr}{ns:List Int}(h:RdL K G a (ns.map V.int)):Rep K G (.ref a) (.lst (ns.map D.int)):=by
 simp only[Rep]
 refine⟨a,_,rfl,h,?_⟩
 clear h
 induction ns with
 | nil=>exact Reps.nil
 | cons n r ih=>exact Reps.cons (zaB _ _ _) ih
noncomputable def zkZ(n:Nat):SpD:=fun ds Q=>∃ns:List Int,ds=[.lst (ns.map .int)]∧ns.length≤n∧Q (.fz (.bl true))
theorem walk_pure{l:PySem.W.OpenLaw}{n k:Nat}{q:Program}{loose:List Str}{XP:(Str→Option Value)→Heap→Prop}{YP:World→Heap→Prop}{d:DefRec}{K:Params→PySem.W.Frag}{x:Str}
  (hn:l.most=some n) (hn2:n≤sizeLine) (hdf:d.params.defaults=[]) (hr:Room k callerA) (hY:∀(w:World) (h:Heap),YP w h→(K w.params).In h)
  (F:∀(w:World) (mg:Str→Option Value) (fa:Addr) (h:Heap),(K w.params).In h→h.Ns mainGlobals mg→mg d.name=some (.ref fa)→
   ∃fd:FuncData,(∀(s:Shared) (u:Value),BindsTo s fd ⟨[u],[]⟩ [(x,u)])∧∀base:Heap,FnOk l.prog w (K w.params) mg base CX0 k fa fd [x] (PSp (K w.params) 1 (zkZ n))) :
  PySem.W.WalkO q loose XP YP l.row.toRowW d [] (fun f vs=>PySem.call f vs):=by
 refine Att.attach_call hn hdf fun w s₀ s₁ mg mb fa o pm cd doc a vs ns G Y ho hd hcd hmg hobj hints hlen hg=>?_
 have KX:=hY w _ Y
 obtain⟨fd,hb,hF⟩:=F w mg fa _ KX G.T.g hmg
 refine zjd KX G.T.g G.T.b G.T.builtins G.T.nolimit hg hobj hints (Nat.le_trans hlen hn2) hr (fun base _ _=>hF base) hb (fun H hO hS=>?_) fun H e s' z=>z
 have hL:RdL (K w.params) H a (ns.map V.int):=by
  rcases hS with hS | ⟨o,its,m,h1,h2,h3,h4,h5,h6⟩
  ·exact .inl hS
  ·have e:=KX a o h1
   rw[hobj] at e
   cases e
   have h4':Data.seq vs.toArray _=Data.seq its m:=h4
   injection h4' with e1 e2
   subst e1
   exact .inr ⟨_,_,h1,h5,h6⟩
 refine⟨H,[.lst (ns.map .int)],fun r=>r=.fz (.bl true),Same.refl _,Reps.cons (zg4 hL) Reps.nil,rfl,⟨ns,rfl,hlen,rfl⟩,fun v H' r G' _ rr e=>?_⟩
 subst e
 simpa only[RepR,Rep] using rr
theorem zml{P:Program}{w:World}{K:PySem.W.Frag}{mg:Str→Option Value}{st:Stmt}{N:List Str}{x:Str}{k:Nat}{t:SpD}{T:Heap→TX}{fa:Addr}(DA:At K mg "law" st)(hmg:mg "law"=some (.ref fa))(S:FnScope N [x] (defScope st))
  (hb:∀(kV doc pm:Value) (an:Option Addr) (cdv ct:Value) (us:List Value),us.length=1→bindArgs (PySem.W.fnOf "law" "law" (defArgs st) (defBody st) (defScope st) .none kV doc pm an cdv ct) ⟨us,[]⟩=pure ([x].zip us))
  (body:∀(base:Heap) (f:Addr) (cdv:Value) (A:Around) (outer:List Env) (s:Shared) (H:Hp) (E:XK),Room k (A.deeper (envOfC "law" (defScope st) s.heap.objs.size f cdv))→PXs (zfP CX0 P w K mg base N "law" (defScope st) f cdv A outer s H E).nox (defBody st) (T base))
  (spec:∀(base:Heap) (ds:List D) (Qr:R→Prop),ds.length=1→t ds Qr→T base { nx:=fun _=>Qr (.fz .non),rt:=Qr } (zay N ds)) :
  ∃fd:FuncData,(∀(s:Shared) (u:Value),BindsTo s fd ⟨[u],[]⟩ [(x,u)])∧∀base:Heap,FnOk P w K mg base CX0 (k+1) fa fd [x] (PSp K 1 t):=by
 obtain⟨f,fd,F,hm⟩:=DA.ex
 rw[hmg] at hm
 cases hm
 refine⟨fd,fun s u=>?_,fun base=>zhZ F S (body base fa) (spec base)⟩
 obtain⟨oc,od,kV,doc,pm,an,cdv,ct,osl,rfl,lk,hcd⟩:=F.ex
 exact .of_eq (hb kV doc pm an cdv ct [u] rfl)
end L2
namespace L2
open PySem PySem.Spec PyProof.Rows
theorem zgy(d:D):(R.fz d).val=d:=rfl
theorem zh5(ds:List D):(R.ow ds).val=.lst ds:=rfl
theorem zmm(d:D):(R.fz d).sl=.fz d:=rfl
theorem zmn(ds:List D):(R.ow ds).sl=.ow ds:=rfl
theorem zdm{α:Type}{wi:TId}{m:List (Option Nat)}{g:TGd}{tc:TDb}{te:TD}{ρ:Ev}{Q:R→Prop}(L:List α)(φ:α→D)(f:α→Option D)(hw:∀Q':List D→Prop,Q' (L.map φ)→wi ρ Q')(hl:L.length≤sizeLine)
  (h:∀x∈L,∀(K1:D→Prop) (K0:Prop),(∀e,f x=some e→K1 e)→(f x=none→K0)→g (φ x) (zdJ m ρ) fun ρ2=>tc ρ2 fun b=>if b=true then te ρ2 fun r=>K1 r.val else K0)
  (q:Q (.ow (L.filterMap f))):zaX wi m g tc te ρ Q:=by
 refine hw _ ⟨fun i acc=>acc=(L.take i).filterMap f,rfl,fun i d acc hd ha=>?_,fun acc ha=>?_⟩
 ·rw[List.getElem?_map] at hd
  cases hx:L[i]? with
  | none=>rw[hx] at hd;cases hd
  | some x=>
   rw[hx] at hd
   cases hd
   have hi:i<L.length:=(List.getElem?_eq_some_iff.mp hx).1
   have e:L.take (i+1)=L.take i++[x]:=by rw[List.take_add_one,hx];rfl
   have hlen:acc.length<sizeLine:=by
    rw[ha]
    refine Nat.lt_of_le_of_lt (List.length_filterMap_le _ _) ?_
    rw[List.length_take];omega
   exact h x (List.mem_of_getElem? hx) (fun e=>acc.length<sizeLine∧acc++[e]=(L.take (i+1)).filterMap f) (acc=(L.take (i+1)).filterMap f)
    (fun z hz=>⟨hlen,by rw[e,List.filterMap_append,ha];simp[hz]⟩) (fun hz=>by rw[e,List.filterMap_append,ha];simp[hz])
 ·dsimp only at ha
  rw[List.length_map,List.take_length] at ha
  rw[ha];exact q
theorem zaC{α:Type}{wi:TId}{m:List (Option Nat)}{g:TGd}{te:TD}{ρ:Ev}{Q:R→Prop}(L:List α)(φ f:α→D)(hw:∀Q':List D→Prop,Q' (L.map φ)→wi ρ Q')(hl:L.length≤sizeLine)
  (h:∀x∈L,∀(K1:D→Prop),K1 (f x)→g (φ x) (zdJ m ρ) fun ρ2=>te ρ2 fun r=>K1 r.val) (q:Q (.ow (L.map f))):zaX wi m g zdG te ρ Q:=by
 refine zdm L φ (fun x=>some (f x)) hw hl (fun x hx K1 K0 h1 _=>?_) ?_
 ·have:=h x hx K1 (h1 _ rfl)
  simpa[zdG] using this
 ·have e:L.filterMap (fun x=>some (f x))=L.map f:=by
   induction L with
   | nil=>rfl
   | cons a r ih=>simp
  rw[e];exact q
theorem zb4{α:Type}{wi:TId}{m:List (Option Nat)}{g:TGd}{tc:TDb}{te:TD}{ρ:Ev}{Q:R→Prop}(L:List α)(φ f:α→D)(p:α→Bool)(hw:∀Q':List D→Prop,Q' (L.map φ)→wi ρ Q')(hl:L.length≤sizeLine)
  (h:∀x∈L,∀(K1:D→Prop) (K0:Prop),(p x=true→K1 (f x))→(p x=false→K0)→g (φ x) (zdJ m ρ) fun ρ2=>tc ρ2 fun b=>if b=true then te ρ2 fun r=>K1 r.val else K0)
  (q:Q (.ow ((L.filter p).map f))):zaX wi m g tc te ρ Q:=by
 refine zdm L φ (fun x=>if p x=true then some (f x) else none) hw hl (fun x hx K1 K0 h1 h0=>h x hx K1 K0 (fun z=>h1 _ (by simp[z])) (fun z=>h0 (by simp[z]))) ?_
 have e:L.filterMap (fun x=>if p x=true then some (f x) else none)=(L.filter p).map f:=by
  clear h hl hw q
  induction L with
  | nil=>rfl
  | cons a r ih=>by_cases z:p a=true<;>simp[z,ih]
 rw[e];exact q
theorem zjx{wi:TId}{g:TGd}{tb:TX}{D:DE}{ρ:Ev}(ds:List L2.D)(hw:∀Q':List L2.D→Prop,Q' ds→wi ρ Q')(Iv:Nat→Ev→Prop)(h0:Iv 0 ρ)
  (turn:∀i d ρ',ds[i]?=some d→Iv i ρ'→g d ρ' fun ρ2=>tb { D with nx:=Iv (i+1),ct:=Iv (i+1),bk:=D.nx } ρ2) (fin:∀ρ',Iv ds.length ρ'→D.nx ρ'):zmY wi g tb D ρ:=hw _ ⟨Iv,h0,turn,fin⟩
theorem zh6{α:Type}{wi:TId}{g:TGd}{tb:TX}{D:DE}{ρ:Ev}(L:List α)(φ:α→L2.D)(hw:∀Q':List L2.D→Prop,Q' (L.map φ)→wi ρ Q')(Iv:Nat→Ev→Prop)(h0:Iv 0 ρ)
  (turn:∀i x ρ',L[i]?=some x→Iv i ρ'→g (φ x) ρ' fun ρ2=>tb { D with nx:=Iv (i+1),ct:=Iv (i+1),bk:=D.nx } ρ2) (fin:∀ρ',Iv L.length ρ'→D.nx ρ'):zmY wi g tb D ρ:=by
 refine zjx (L.map φ) hw Iv h0 (fun i d ρ' hd iv=>?_) (fun ρ' iv=>fin ρ' (by simpa using iv))
 rw[List.getElem?_map] at hd
 cases hx:L[i]? with
 | none=>rw[hx] at hd;cases hd
 | some x=>rw[hx] at hd;cases hd;exact turn i x ρ' hx iv
theorem p24:(10:Int) ^ Int.toNat 24=1000000000000000000000000:=by decide
theorem p30:(10:Int) ^ Int.toNat 30=1000000000000000000000000000000:=by decide
theorem zka:zjZ 10 24=True:=by simp only[zjZ,eq_iff_iff,iff_true];decide
theorem zkb:zjZ 10 30=True:=by simp only[zjZ,eq_iff_iff,iff_true];decide
theorem zgz:100000≤sizeLine:=by decide
end L2
namespace L2
open PySem PySem.Spec PyProof.Rows
section
variable {X:Cx} {pos:Pos} {e:Expr} {te:TD} {es:List Expr} {ts:TDa}
noncomputable def zmZ(t:TD):TD:=fun ρ Q=>t ρ fun r=>match r.val with
 | .int i=>Q (.fz (.int (-i)))
 | _=>False
theorem zmo(h:PD X e te):PD X (.UnaryOp .USub e pos) (zmZ te):=by
 obtain⟨t,p,q⟩:=h
 refine⟨_,zne zlP p,fun ρ σ G0 H0 G H Q P E h k=>q ρ σ G0 H0 G H _ _ E h fun v H' r G' x rr hq=>?_⟩
 obtain⟨G2,x2,rv,_⟩:=rr.freeze x
 split at hq
 ·rename_i i e1
  rw[e1] at rv
  simp only[Rep] at rv
  exact⟨i,rv,k _ _ _ G2 x2 (fzR (zaB _ _ _)) hq⟩
 ·exact hq.elim
noncomputable def zb5:SpD:=fun ds Q=>match ds with
 | [.lst es]=>Q (.ow es)
 | [.tup es]=>Q (.ow es)
 | _=>False
theorem zcW:zdH X (.type "list") zb5:=by
 refine⟨_,zeZ,fun G H vs ds Q P s rs h k=>?_⟩
 unfold zb5 at h
 split at h
 ·obtain⟨v,rfl,rv⟩:=zbH rs
  simp only[Rep] at rv
  obtain⟨a,xs,rfl,h1,h2⟩:=rv
  exact⟨a,xs,rfl,.inl (s.rdl h1).sq,zcA s h2 h k⟩
 ·obtain⟨v,rfl,rv⟩:=zbH rs
  simp only[Rep] at rv
  obtain⟨a,xs,rfl,h1,h2⟩:=rv
  exact⟨a,xs,rfl,.inr (s.seqT h1),zcA s h2 h k⟩
 ·exact h.elim
noncomputable def zba:List D→Option (List Int)
 | []=>some []
 | .int b::r=>(zba r).map (b::·)
 | _=>none
theorem zbV:∀{ds:List D} {bs:List Int},zba ds=some bs→ds=bs.map D.int
 | [],bs,h=>by simp[zba] at h;subst h;rfl
 | .int b::r,bs,h=>by
  simp only[zba,Option.map_eq_some_iff] at h
  obtain⟨bs',h1,rfl⟩:=h
  rw[zbV h1];rfl
 | .non::r,bs,h=>by simp[zba] at h
 | .bl _::r,bs,h=>by simp[zba] at h
 | .str _::r,bs,h=>by simp[zba] at h
 | .tup _::r,bs,h=>by simp[zba] at h
 | .lst _::r,bs,h=>by simp[zba] at h
 | .obj _ _::r,bs,h=>by simp[zba] at h
 | .dic _::r,bs,h=>by simp[zba] at h
 | .dit _::r,bs,h=>by simp[zba] at h
theorem zee(bs:List Int):zba (bs.map D.int)=some bs:=by
 induction bs with
 | nil=>rfl
 | cons b r ih=>simp[zba,ih]
theorem zc4{K:PySem.W.Frag}{G:Hp}:∀{bs:List Int} {vs:List V},Reps K G vs (bs.map D.int)→vs=bs.map V.int
 | [],[],_=>rfl
 | b::bs,v::vs,h=>by
  simp only[List.map_cons,Reps,Rep] at h
  rw[h.1,zc4 h.2];rfl
 | [],_::_,h=>by simp only[List.map_nil,Reps] at h
 | _::_,[],h=>by simp only[List.map_cons,Reps] at h
theorem zcD{vs:List Value}{ns:List Int}(hi:IntsAre vs ns):∃xs:Array (Int×Tok),vs.toArray=intItems xs∧ns=xs.toList.map (·.1):=by
 obtain⟨xs,e⟩:=hi.allInts.items
 exact⟨xs,e,by rw[←hi.numsOf,←nums_intItems,←e]⟩
theorem zh7(hc:X.calm=true):CallR X (.builtin "sum") (fun xs H Q=>∃(p:Addr) (ns:List Int),xs=[.ref p]∧SqL X.K H p (ns.map V.int)∧Q (.int ns.sum) H):=by
 intro pins s σ H xs us Q I r h
 obtain⟨p,ns,rfl,hq,q⟩:=h
 obtain⟨u,rfl,ru⟩:=zbY r
 cases ru
 obtain⟨its,rv,pl,hz⟩:=I.list hq
 obtain⟨ys,e,hns⟩:=zcD (zbT rv)
 have hl:=pl.isList
 rw[e] at hl
 refine sum_intListG (I.ok.hd hc) hl fun h' tk t' hk=>?_
 have e2:preSum (numAt ys) ys.size=ns.sum:=by
  rw[preSum_eq,List.take_of_length_le (by simp),hns]
 rw[e2]
 exact⟨.int _,H,I.kept hk,⟨_,rfl⟩,q⟩
theorem zmp(hc:X.calm=true):CallR X (.builtin "min") (fun xs H Q=>∃(p:Addr) (ns:List Int),xs=[.ref p]∧SqL X.K H p (ns.map V.int)∧ns≠[]∧∀M,M∈ns→(∀a∈ns,M≤a)→Q (.int M) H):=by
 intro pins s σ H xs us Q I r h
 obtain⟨p,ns,rfl,hq,hne,q⟩:=h
 obtain⟨u,rfl,ru⟩:=zbY r
 cases ru
 obtain⟨its,rv,pl,hz⟩:=I.list hq
 obtain⟨ys,e,hns⟩:=zcD (zbT rv)
 have hl:=pl.isList
 rw[e] at hl
 have hsz:0<ys.size:=by
  cases hys:ys.toList with
  | nil=>rw[hns,hys] at hne;exact absurd rfl hne
  | cons a b=>have:ys.toList.length=b.length+1:=by rw[hys];rfl
              rw[Array.length_toList] at this;omega
 refine min_intList (I.ok.hd hc) hl hsz fun v h' tk hv hk=>?_
 obtain⟨t,rfl⟩:=intItems_at hv
 obtain⟨h1,h2⟩:=argBest_lt (numAt ys) (ys.size-1)
 refine⟨.int _,H,I.kept hk,⟨_,rfl⟩,q _ ?_ fun a ha=>?_⟩
 ·rw[hns,numAt_eq];exact getD_mem (by rw[List.length_map,Array.length_toList];omega)
 ·rw[hns] at ha
  obtain⟨j,hj,rfl⟩:=mem_getD ha
  rw[List.length_map,Array.length_toList] at hj
  rw[←numAt_eq];exact h2 j (by omega)
theorem zh8(hc:X.calm=true):CallR X (.builtin "max") (fun xs H Q=>∃(p:Addr) (ns:List Int),xs=[.ref p]∧SqL X.K H p (ns.map V.int)∧ns≠[]∧∀M,M∈ns→(∀a∈ns,a≤M)→Q (.int M) H):=by
 intro pins s σ H xs us Q I r h
 obtain⟨p,ns,rfl,hq,hne,q⟩:=h
 obtain⟨u,rfl,ru⟩:=zbY r
 cases ru
 obtain⟨its,rv,pl,hz⟩:=I.list hq
 obtain⟨ys,e,hns⟩:=zcD (zbT rv)
 have hl:=pl.isList
 rw[e] at hl
 have hsz:0<ys.size:=by
  cases hys:ys.toList with
  | nil=>rw[hns,hys] at hne;exact absurd rfl hne
  | cons a b=>have:ys.toList.length=b.length+1:=by rw[hys];rfl
              rw[Array.length_toList] at this;omega
 refine max_intList (I.ok.hd hc) hl hsz fun v h' tk hv hk=>?_
 obtain⟨t,rfl⟩:=intItems_at hv
 obtain⟨h1,h2⟩:=argBest_gt (numAt ys) (ys.size-1)
 refine⟨.int _,H,I.kept hk,⟨_,rfl⟩,q _ ?_ fun a ha=>?_⟩
 ·rw[hns,numAt_eq];exact getD_mem (by rw[List.length_map,Array.length_toList];omega)
 ·rw[hns] at ha
  obtain⟨j,hj,rfl⟩:=mem_getD ha
  rw[List.length_map,Array.length_toList] at hj
  rw[←numAt_eq];exact h2 j (by omega)
noncomputable def zk0:SpD:=fun ds Q=>match ds with
 | [.lst es]=>match zba es with
  | some ns=>Q (.fz (.int ns.sum))
  | none=>False
 | _=>False
theorem zk1(hc:X.calm=true):zdH X (.builtin "sum") zk0:=by
 refine⟨_,zh7 hc,fun G H vs ds Q P s rs h k=>?_⟩
 unfold zk0 at h
 split at h
 ·split at h
  ·rename_i es bs hb
   obtain⟨v,rfl,rv⟩:=zbH rs
   simp only[Rep] at rv
   obtain⟨a,xs,rfl,h1,h2⟩:=rv
   rw[zbV hb] at h2
   rw[zc4 h2] at h1
   exact⟨a,bs,rfl,(s.rdl h1).sq,k _ _ _ G (.refl s) (fzR (zaB _ _ _)) h⟩
  ·exact h.elim
 ·exact h.elim
noncomputable def zog:SpD:=fun ds Q=>match ds with
 | [.lst es]=>match zba es with
  | some ns=>ns≠[]∧∀M,M∈ns→(∀a∈ns,M≤a)→Q (.fz (.int M))
  | none=>False
 | [.int i,.int j]=>Q (.fz (.int (if j<i then j else i)))
 | _=>False
noncomputable def zm0:SpD:=fun ds Q=>match ds with
 | [.lst es]=>match zba es with
  | some ns=>ns≠[]∧∀M,M∈ns→(∀a∈ns,a≤M)→Q (.fz (.int M))
  | none=>False
 | [.int i,.int j]=>Q (.fz (.int (if j>i then j else i)))
 | _=>False
theorem znp(hc:X.calm=true):zdH X (.builtin "max") zm0:=by
 refine⟨_,(zh8 hc).or (zhr hc),fun G H vs ds Q P s rs h k=>?_⟩
 unfold zm0 at h
 split at h
 ·split at h
  ·rename_i es bs hb
   obtain⟨v,rfl,rv⟩:=zbH rs
   simp only[Rep] at rv
   obtain⟨a,xs,rfl,h1,h2⟩:=rv
   rw[zbV hb] at h2
   rw[zc4 h2] at h1
   exact .inl ⟨a,bs,rfl,(s.rdl h1).sq,h.1,fun M h3 h4=>k _ _ _ G (.refl s) (fzR (zaB _ _ _)) (h.2 M h3 h4)⟩
  ·exact h.elim
 ·obtain⟨v,u,rfl,rv,ru⟩:=zmj rs
  simp only[Rep] at rv ru
  subst rv ru
  exact .inr ⟨_,_,rfl,k _ _ _ G (.refl s) (fzR (zaB _ _ _)) h⟩
 ·exact h.elim
noncomputable def zbb:List D→Option (List Str)
 | []=>some []
 | .str b::r=>(zbb r).map (b::·)
 | _=>none
theorem zbW:∀{ds:List D} {bs:List Str},zbb ds=some bs→ds=bs.map D.str
 | [],bs,h=>by simp[zbb] at h;subst h;rfl
 | .str b::r,bs,h=>by
  simp only[zbb,Option.map_eq_some_iff] at h
  obtain⟨bs',h1,rfl⟩:=h
  rw[zbW h1];rfl
 | .non::r,bs,h=>by simp[zbb] at h
 | .bl _::r,bs,h=>by simp[zbb] at h
 | .int _::r,bs,h=>by simp[zbb] at h
 | .tup _::r,bs,h=>by simp[zbb] at h
 | .lst _::r,bs,h=>by simp[zbb] at h
 | .obj _ _::r,bs,h=>by simp[zbb] at h
 | .dic _::r,bs,h=>by simp[zbb] at h
 | .dit _::r,bs,h=>by simp[zbb] at h
theorem zbm(bs:List Str):zbb (bs.map D.str)=some bs:=by
 induction bs with
 | nil=>rfl
 | cons b r ih=>simp[zbb,ih]
theorem zc5{K:PySem.W.Frag}{G:Hp}:∀{bs:List Str} {vs:List V},Reps K G vs (bs.map D.str)→vs=bs.map V.str
 | [],[],_=>rfl
 | b::bs,v::vs,h=>by
  simp only[List.map_cons,Reps,Rep] at h
  rw[h.1,zc5 h.2];rfl
 | [],_::_,h=>by simp only[List.map_nil,Reps] at h
 | _::_,[],h=>by simp only[List.map_cons,Reps] at h
theorem zh9{K:PySem.W.Frag}{G:Hp}(bs:List Str):Reps K G (bs.map V.str) (bs.map D.str):=by
 induction bs with
 | nil=>exact Reps.nil
 | cons b r ih=>exact Reps.cons (zbx _ _ _) ih
theorem zcE{ss:List Str}:∀{us:List Value},Vals (ss.map V.str) us→StrsAre us ss:=by
 induction ss with
 | nil=>
  intro us h
  cases h
  exact .nil
 | cons n r ih=>
  intro us h
  cases h with
  | cons a b=>
   obtain⟨t,rfl⟩:=a
   exact .cons _ _ (ih b)
theorem zfc:∀{vs:List Value} {ss:List Str},StrsAre vs ss→Vals (ss.map V.str) vs
 | _,_,.nil=>.nil
 | _,_,.cons _ _ h=>.cons ⟨_,rfl⟩ (zfc h)
theorem call_sortS:CallR X (.builtin "sorted") (fun xs H Q=>∃(p:Addr) (ss:List Str),xs=[.ref p]∧SqL X.K H p (ss.map V.str)∧ss.length<64∧∀ss':List Str,ss'.Perm ss→sortedS ss'=true→∀l,H l=none→Q (.ref l) (upd H l (.lst (ss'.map V.str)))):=by
 intro pins s σ H xs us Q I r h
 obtain⟨p,ss,rfl,hq,h64,q⟩:=h
 obtain⟨u,rfl,ru⟩:=zbY r
 cases ru
 obtain⟨its,rv,pl,hz⟩:=I.list hq
 have hl:its.length=ss.length:=by rw[←rv.length,List.length_map]
 refine sorted_strs pl.isList (zcE rv) (by omega) fun out ss' a1 a2 a3=>?_
 obtain⟨en,he⟩:=sortedAll_at s.heap its out
 have hf:H (s.heap.objs.size+1)=none:=I.hok.fresh (Nat.le_succ _)
 refine⟨.ref (s.heap.objs.size+1),_,I.laid (a:=s.heap.objs.size+1) (o:=.lst (ss'.map V.str)) (t':=s.toks) (fun b o e=>sortedAll_old e) (Nat.le_succ _) ?_,rfl,q ss' a2 a3 _ hf⟩
 refine⟨by rw[List.length_map,a2.length_eq];have:=zgz;omega,out.toList,en,zfc a1,?_⟩
 rw[Array.toArray_toList]
 exact he
theorem zg5:CallR X (.builtin "sorted") (fun xs H Q=>∃(p:Addr) (ns:List Int),xs=[.ref p]∧SqL X.K H p (ns.map V.int)∧ns.length<64∧∀ns':List Int,ns'.Perm ns→ns'.Pairwise (·≤·)→∀l,H l=none→Q (.ref l) (upd H l (.lst (ns'.map V.int)))):=by
 intro pins s σ H xs us Q I r h
 obtain⟨p,ss,rfl,hq,h64,q⟩:=h
 obtain⟨u,rfl,ru⟩:=zbY r
 cases ru
 obtain⟨its,rv,pl,hz⟩:=I.list hq
 have hl:its.length=ss.length:=by rw[←rv.length,List.length_map]
 refine sorted_ints pl.isList (zbT rv) (by omega) fun out ss' a1 a2 a3=>?_
 obtain⟨en,he⟩:=sortedAll_at s.heap its out
 have hf:H (s.heap.objs.size+1)=none:=I.hok.fresh (Nat.le_succ _)
 refine⟨.ref (s.heap.objs.size+1),_,I.laid (a:=s.heap.objs.size+1) (o:=.lst (ss'.map V.int)) (t':=s.toks) (fun b o e=>sortedAll_old e) (Nat.le_succ _) ?_,rfl,q ss' a2 a3 _ hf⟩
 refine⟨by rw[List.length_map,a2.length_eq];have:=zgz;omega,out.toList,en,zdh a1,?_⟩
 rw[Array.toArray_toList]
 exact he
noncomputable def zbI:SpD:=fun ds Q=>match ds with
 | [.lst es]=>match zbb es with
  | some ss=>ss.length<64∧∀ss':List Str,ss'.Perm ss→sortedS ss'=true→Q (.ow (ss'.map D.str))
  | none=>match zba es with
   | some ns=>ns.length<64∧∀ns':List Int,ns'.Perm ns→ns'.Pairwise (·≤·)→Q (.ow (ns'.map D.int))
   | none=>False
 | _=>False
theorem zia{K:PySem.W.Frag}{G:Hp}(bs:List Int):Reps K G (bs.map V.int) (bs.map D.int):=by
 induction bs with
 | nil=>exact Reps.nil
 | cons b r ih=>exact Reps.cons (zaB _ _ _) ih
theorem zev(_:X.calm=true):zdH X (.builtin "sorted") zbI:=by
 refine⟨_,call_sortS.or zg5,fun G H vs ds Q P s rs h k=>?_⟩
 unfold zbI at h
 split at h
 ·split at h
  ·rename_i es bs hb
   obtain⟨v,rfl,rv⟩:=zbH rs
   simp only[Rep] at rv
   obtain⟨a,xs,rfl,h1,h2⟩:=rv
   rw[zbW hb] at h2
   rw[zc5 h2] at h1
   exact .inl ⟨a,bs,rfl,(s.rdl h1).sq,h.1,fun ss' p1 p2=>zcA s (zh9 ss') (h.2 ss' p1 p2) k⟩
  ·split at h
   ·rename_i es _ bs hb
    obtain⟨v,rfl,rv⟩:=zbH rs
    simp only[Rep] at rv
    obtain⟨a,xs,rfl,h1,h2⟩:=rv
    rw[zbV hb] at h2
    rw[zc4 h2] at h1
    exact .inr ⟨a,bs,rfl,(s.rdl h1).sq,h.1,fun ss' p1 p2=>zcA s (zia ss') (h.2 ss' p1 p2) k⟩
   ·exact h.elim
 ·exact h.elim
noncomputable def MtP(X:Cx)(id:String)(o:D→List D→(R→Prop)→Prop):Prop:=∃r,MtR X id r∧∀(G H:Hp) (x:V) (d:D) (vs:List V) (ds:List D) (Q:R→Prop) (P:VK),Same G H→Rep X.K G x d→Reps X.K G vs ds→o d ds Q→
 (∀v H' r' G',Ext G H G' H'→RepR X.K G' H' H v r'→Q r'→P v H')→r x vs H P
noncomputable def dM(T:String)(o:D→List D→(R→Prop)→Prop)(te:TD)(ts:TDa):TD:=fun ρ Q=>te ρ fun r=>tyD r.val=T∧ts ρ fun ds=>o r.val ds Q
theorem zk2{K:PySem.W.Frag}{G H:Hp}{x:V}{d:D}{T:String}(s:Same G H)(r:Rep K G x d)(h:tyD d=T)(hT:T="list"∨T="str"):tyV K T x H:=by
 cases d with
 | str z=>simp only[Rep] at r;subst r;exact h.symm
 | lst ds=>
  simp only[Rep] at r
  obtain⟨a,xs,rfl,h1,_⟩:=r
  exact .inl ⟨h.symm,xs,(s.rdl h1).sq⟩
 | non=>subst h;rcases hT with h | h<;>simp[tyD] at h
 | bl=>subst h;rcases hT with h | h<;>simp[tyD] at h
 | int=>subst h;rcases hT with h | h<;>simp[tyD] at h
 | tup=>subst h;rcases hT with h | h<;>simp[tyD] at h
 | obj=>subst h;rcases hT with h | h<;>simp[tyD] at h
 | dic=>subst h;rcases hT with h | h<;>simp[tyD] at h
 | dit=>subst h;rcases hT with h | h<;>simp[tyD] at h
theorem zcF{T id:String}{name:Str}{p':Pos}{e1:Expr}{o:D→List D→(R→Prop)→Prop}(hm:MtP X id o)(hT:T="list"∨T="str")(pa:PlainAttrs T)(slot:Slot T name id)(hty:typeOf (.builtin id)=pure (.type "method_descriptor"))
  (he:PD X e te) (ha:PDa X (e1::es) ts) (hbase:attributeBase e name X.env (eval e X.env)=eval e X.env:=by rfl)
  (hfew:((backTo pos (starEach (e1::es) X.env)).all (fun x=>!x.1)&&(backToKw pos (keywordEach [] X.env)).all (fun x=>x.1.isSome)
   && decide ((e1::es).length+([]:List Keyword).length+(if ([]:List Keyword).isEmpty then 0 else 1)<30))=true:=by rfl)
  (hline:(p'.endLine==pos.line)=true:=by rfl) (hs:starEach (e1::es) X.env=(false,eval e1 X.env)::starEach es X.env:=by rfl) (hplain:(backTo pos (starEach es X.env)).any (·.1)=false:=by rfl) :
  PD X (.Call (.Attribute e name p') (e1::es) [] pos) (dM T o te ts):=by
 obtain⟨r,hr,hr'⟩:=hm
 obtain⟨t1,p1,q1⟩:=he
 obtain⟨t2,p2,q2⟩:=ha
 refine⟨_,zl3 pa slot hty hr p1 p2 hbase hfew hline hs hplain,fun ρ σ G0 H0 G H Q P E h k=>q1 ρ σ G0 H0 G H _ _ E h fun v H' r1 G' x rr hq=>?_⟩
 obtain⟨G2,x2,rv,_⟩:=rr.freeze x
 refine⟨zk2 x2.s rv hq.1 hT,q2 ρ σ G0 H0 G2 H' _ _ (E.ext x2) hq.2 fun vs H3 ds G3 x3 rs hq3=>?_⟩
 exact hr' G3 H3 v r1.val vs ds Q P x3.s (rv.mono x3.g) rs hq3 fun w' H4 r4 G4 x4 rr4 q4=>k w' H4 r4 G4 ((x2.trans x3).trans x4) (rr4.older (x2.trans x3).h) q4
noncomputable def zlp(d:D)(ds:List D):Nat:=ds.countP fun e=>eqD e d
noncomputable def zfd:D→List D→(R→Prop)→Prop:=fun d ds Q=>match d,ds with
 | .lst es,[x]=>okE 8 x∧(∀e∈es,okE 8 e)∧Q (.fz (.int (zlp x es)))
 | _,_=>False
theorem zib{pins:List (Addr×Obj)}{σ:St}{H:Hp}{s:Shared}(I:Inv X pins σ H s){d:D}:∀{es:List D} {vs:List V} {us:List Value},(∀e∈es,okE 8 e)→Vals vs us→Reps X.K H vs es→us.countP (eqW X H d)=zlp d es
 | [],_,_,_,rv,re=>by
  cases rv
  ·rfl
  ·simp only[Reps] at re
 | e::es,_,_,h,rv,re=>by
  cases rv with
  | nil=>simp only[Reps] at re
  | cons r t=>
   simp only[Reps] at re
   unfold zlp
   rw[List.countP_cons,List.countP_cons,zhN I (h e (by simp)) r re.1,zib I (fun x hx=>h x (by simp[hx])) t re.2]
   rfl
theorem zk3(hu:X.A.units+64<cLine):MtP X "list.count" zfd:=by
 refine⟨fun x vs H Q=>∃p d es ws y,x=.ref p∧vs=[y]∧SqL X.K H p ws∧okE 8 d∧(∀e∈es,okE 8 e)∧Rep X.K H y d∧Reps X.K H ws es∧Q (.int (zlp d es)) H,fun pins s σ H x xs v us Q I rx rs h=>?_,fun G H x d vs ds Q P s rx rs h k=>?_⟩
 ·obtain⟨p,d,es,ws,y,rfl,rfl,hq,hd,he,rd,re,q⟩:=h
  cases rx
  obtain⟨u,rfl,ru⟩:=zbY rs
  obtain⟨its,rv,pl,hz⟩:=I.list hq
  obtain⟨⟨cls,dd,data,sl⟩,n,ho,hc,hdn,hdt⟩:=id pl
  simp only at hc hdt
  subst hc hdt
  refine call_meets PySem.F.slot_list_count ⟨_,ho,rfl⟩ PySem.F.entry_list_count (PySem.F.args_list_count_2 _ _) (SeqAt.list_countAt p its.toArray n dd sl u (eqW X H d)) ⟨ho,zer (A:=X.A.in1) I hd (by show X.A.units+1+8<cLine;omega) rd ru he rv re,?_⟩
  rw[show its.toArray.toList=its from rfl,zib I he rv re]
  exact⟨.int _,H,I.tok _,⟨_,rfl⟩,q⟩
 ·unfold zfd at h
  split at h
  ·obtain⟨y,rfl,ry⟩:=zbH rs
   simp only[Rep] at rx
   obtain⟨a,xs,rfl,h1,h2⟩:=rx
   exact⟨a,_,_,xs,y,rfl,rfl,(s.rdl h1).sq,h.1,h.2.1,ry.mono s,h2.mono s,k _ _ _ G (.refl s) (fzR (zaB _ _ _)) h.2.2⟩
  ·exact h.elim
noncomputable def zfW:D→List D→(R→Prop)→Prop:=fun d ds Q=>match d,ds with
 | .str x,[.lst es]=>match zbb es with
  | some ys=>(ys.map (·.length)).sum+ys.length*x.length≤16777216∧Q (.fz (.str (Txt.join x ys)))
  | none=>False
 | _,_=>False
theorem zic:MtP X "str.join" zfW:=by
 refine⟨fun x vs H Q=>∃(z:Str) (p:Addr) (ys:List Str),x=.str z∧vs=[.ref p]∧SqL X.K H p (ys.map V.str)∧(ys.map (·.length)).sum+ys.length*z.length≤16777216∧Q (.str (Txt.join z ys)) H,fun pins s σ H x xs v us Q I rx rs h=>?_,fun G H x d vs ds Q P s rx rs h k=>?_⟩
 ·obtain⟨z,p,ys,rfl,rfl,hq,hz,q⟩:=h
  obtain⟨t,rfl⟩:=rx
  obtain⟨u,rfl,ru⟩:=zbY rs
  cases ru
  obtain⟨its,rv,pl,_⟩:=I.list hq
  exact join_list pl.isList (by simpa using zcE rv) hz fun t' k=>⟨.str _,H,I.tok _,⟨_,rfl⟩,q⟩
 ·unfold zfW at h
  split at h
  ·split at h
   ·rename_i z es ys hy
    obtain⟨v,rfl,rv⟩:=zbH rs
    simp only[Rep] at rv rx
    obtain⟨a,xs,rfl,h1,h2⟩:=rv
    rw[zbW hy] at h2
    rw[zc5 h2] at h1
    exact⟨_,a,ys,rx,rfl,(s.rdl h1).sq,h.1,k _ _ _ G (.refl s) (fzR (zbx _ _ _)) h.2⟩
   ·exact h.elim
  ·exact h.elim
end
end L2
namespace L2
open PySem PySem.Spec PyProof.Rows
section
variable {X:Cx} {pos:Pos} {e:Expr} {te:TD} {es:List Expr} {ts:TDa}
theorem zid:bootBuiltins "set"=some (.type "set"):=by rfl
theorem RepF.look{K:PySem.W.Frag}{H:Hp}{f:Str}:∀{gs:List (Str×V)} {fs:List (Str×D)} {d:D},RepF K H gs fs→fs.lookup f=some d→∃v,gs.lookup f=some v∧Rep K H v d
 | [],[],d,_,h=>by simp at h
 | (x,v)::gs,(y,d')::fs,d,r,h=>by
  simp only[RepF] at r
  obtain⟨⟨rfl,r1⟩,r2⟩:=r
  rw[List.lookup_cons] at h ⊢
  cases hb:f==x with
  | true=>rw[hb] at h;cases h;exact⟨v,rfl,r1⟩
  | false=>rw[hb] at h;exact RepF.look r2 h
 | [],_::_,_,r,_=>by simp only[RepF] at r
 | _::_,[],_,r,_=>by simp only[RepF] at r
theorem zgA{f:Str}:∀{fs:List (Str×D)} {d:D},fs.lookup f=some d→∃p∈fs,p.1=f
 | [],d,h=>by simp at h
 | (y,d')::fs,d,h=>by
  rw[List.lookup_cons] at h
  cases hb:f==y with
  | true=>exact⟨(y,d'),by simp,(beq_iff_eq.mp hb).symm⟩
  | false=>
   rw[hb] at h
   obtain⟨p,h1,h2⟩:=zgA h
   exact⟨p,by simp[h1],h2⟩
noncomputable def zdK(f:Str)(te:TD):TD:=fun ρ Q=>te ρ fun r=>match r.val with
 | .obj _ fs=>∃d,fs.lookup f=some d∧Q (.fz d)
 | _=>False
theorem zbc{f:Str}(he:PD X e te)(hb:attributeBase e f X.env (eval e X.env)=eval e X.env:=by rfl):PD X (.Attribute e f pos) (zdK f te):=by
 obtain⟨t,p,q⟩:=he
 refine⟨_,zlR p hb,fun ρ σ G0 H0 G H Q P E h k=>q ρ σ G0 H0 G H _ _ E h fun v H' r G' x rr hq=>?_⟩
 obtain⟨G2,x2,rv,_⟩:=rr.freeze x
 split at hq
 ·rename_i cn fs e1
  rw[e1] at rv
  simp only[Rep] at rv
  obtain⟨a,C,dx,gs,rfl,h1,h2,h3,h4⟩:=rv
  obtain⟨d,hd,hq⟩:=hq
  obtain⟨v,hv,rv⟩:=h4.look hd
  obtain⟨pr,hp,rfl⟩:=zgA hd
  exact⟨a,C,dx,gs,v,rfl,x2.s _ _ h1,h2.cls,h3 pr hp,hv,k _ _ _ G2 x2 (fzR rv) hq⟩
 ·exact hq.elim
noncomputable def zlq(f:Str)(v:D):List (Str×D)→List (Str×D)
 | []=>[(f,v)]
 | (g,x)::r=>if g=f then(g,v)::r else(g,x)::zlq f v r
theorem RepF.put{K:PySem.W.Frag}{H:Hp}{f:Str}{v:V}{d:D}(rv:Rep K H v d):∀{gs:List (Str×V)} {fs:List (Str×D)},RepF K H gs fs→RepF K H (zd6 f v gs) (zlq f d fs)
 | [],[],_=>by simp only[zd6,zlq,RepF,and_true,true_and];exact rv
 | (x,u)::gs,(y,d')::fs,r=>by
  simp only[RepF] at r
  obtain⟨⟨rfl,r1⟩,r2⟩:=r
  simp only[zd6,zlq]
  split
  ·simp only[RepF,true_and];exact⟨rv,r2⟩
  ·simp only[RepF,true_and];exact⟨r1,RepF.put rv r2⟩
 | [],_::_,r=>by simp only[RepF] at r
 | _::_,[],r=>by simp only[RepF] at r
theorem RepF.length{K:PySem.W.Frag}{H:Hp}:∀{gs:List (Str×V)} {fs:List (Str×D)},RepF K H gs fs→gs.length=fs.length
 | [],[],_=>rfl
 | (x,u)::gs,(y,d')::fs,r=>by
  simp only[RepF] at r
  simp[RepF.length r.2]
 | [],_::_,r=>by simp only[RepF] at r
 | _::_,[],r=>by simp only[RepF] at r
structure Making (K:PySem.W.Frag) (C:Addr) (x dx:Addr) (G0 H0:Hp) (ρ:Ev) (σ:St) (G H:Hp) (fs:List (Str×D)) (gs:List (Str×V)):Prop where
 e:EOk K G0 H0 ρ σ G H
 sl:σ[0]?=some (some (.ref x))
 hx:H x=some (.ins C dx gs)
 hdx:H dx=some (.own x)
 gx:G x=none
 gdx:G dx=none
 r:RepF K G gs fs
theorem Making.ext{K:PySem.W.Frag}{C x dx:Addr}{G0 H0:Hp}{ρ:Ev}{σ:St}{G H G' H':Hp}{fs:List (Str×D)}{gs:List (Str×V)}(M:Making K C x dx G0 H0 ρ σ G H fs gs)(y:Ext G H G' H'):Making K C x dx G0 H0 ρ σ G' H' fs gs:=
 ⟨M.e.ext y,M.sl,y.h _ _ M.hx,y.h _ _ M.hdx,y.n _ M.gx (by rw[M.hx];exact nofun),y.n _ M.gdx (by rw[M.hdx];exact nofun),RepF.mono y.g _ _ M.r⟩
noncomputable abbrev TI0:=Ev→List (Str×D)→(List (Str×D)→Prop)→Prop
noncomputable def PIn(X:Cx)(C:Addr)(sts:List Stmt)(t:TI0):Prop:=∃tt,PSs X sts tt∧∀(x dx:Addr) (ρ:Ev) (σ:St) (G0 H0 G H:Hp) (fs:List (Str×D)) (gs:List (Str×V)) (Q:List (Str×D)→Prop) (E:Ends),H0 x=none→H0 dx=none→dx≠x→(∀i o,gt ρ i≠.ov o)→
 Making X.K C x dx G0 H0 ρ σ G H fs gs→t ρ fs Q→(∀σ' G' H' fs' gs',Making X.K C x dx G0 H0 ρ σ' G' H' fs' gs'→Q fs'→E.nx σ' H')→tt E σ H
noncomputable def znq:TI0:=fun _ fs Q=>Q fs
noncomputable def zjy(f:Str)(te:TD)(u:TI0):TI0:=fun ρ fs Q=>te ρ fun r=>fs.length<1000∧u ρ (zlq f r.val fs) Q
theorem zk4{C:Addr}:PIn X C [] znq:=⟨_,zhj,fun x dx ρ σ G0 H0 G H fs gs Q E _ _ _ _ M h k=>k σ G H fs gs M h⟩
theorem zb6{C:Addr}{f x:Str}{p1 p2:Pos}{sts:List Stmt}{u:TI0}(c:Cls X.K C)(n:NoAttr X.K C f)(he:PD X e te)(hr:PIn X C sts u)(hN:X.N[0]?=some x:=by rfl)(hv:Vis X.env.scope x:=by first | exact Or.inl rfl | exact Or.inr (Or.inl rfl) | exact Or.inr (Or.inr rfl))
  (hs:swapsWith e (some (.Attribute (.Name x p1) f p2)) pos.line X.env=pure false:=by rfl) (hd:(x==("__debug__":Str))=false:=by decide) (hcd:(x==("__classdict__":Str))=false:=by decide) :
  PIn X C (.Assign [.Attribute (.Name x p1) f p2] e pos::sts) (zjy f te u):=by
 obtain⟨t1,h1,q1⟩:=he
 obtain⟨t2,h2,q2⟩:=hr
 refine⟨_,zej (zlS (zgf hN hv hd hcd) h1 hs) h2,fun x dx ρ σ G0 H0 G H fs gs Q E z1 z2 z3 z4 M h k=>?_⟩
 refine q1 ρ σ G0 H0 G H _ _ M.e h fun v H' r G' y rr hq=>?_
 obtain⟨G2,y2,rv,_⟩:=rr.freeze y
 have M2:=M.ext y2
 refine⟨_,M.sl,x,C,dx,gs,rfl,M2.hx,c,n,by rw[M.r.length];exact hq.1,?_⟩
 refine q2 x dx ρ σ G0 H0 G2 _ (zlq f r.val fs) (zd6 f v gs) Q E z1 z2 z3 z4 ?_ hq.2 k
 refine⟨⟨⟨M2.e.e.g,fun b o e=>by rw[zai (zaj e z1)];exact M2.e.e.h b o e,fun b o e=>by rw[zai (zaj e M2.gx)];exact M2.e.e.s b o e,M2.e.e.n⟩,M2.e.len,M2.e.fz,fun i ds h=>?_,M2.e.dj,?_⟩,M2.sl,zal,by rw[zai z3];exact M2.hdx,M2.gx,M2.gdx,M2.r.put rv⟩
 ·obtain⟨p,xs,b1,b2,b3,b4,b5⟩:=M2.e.ow i ds h
  exact⟨p,xs,b1,by rw[zai (zm3 b2 M2.hx (by simp))];exact b2,b3,b4,b5⟩
 ·obtain⟨own,o1,o2⟩:=M2.e.on
  exact⟨own,o1,fun i o h=>(z4 i o h).elim⟩
end
noncomputable def ISp(K:PySem.W.Frag)(C:Addr)(n:Nat)(t:SpD):Sp:=fun vs H Q _=>∃x dx H1 G ds vs' Qr,vs=.ref x::vs'∧H=upd (upd H1 dx (.own x)) x (.ins C dx [])∧H1 x=none∧H1 dx=none∧dx≠x∧Same G H1∧Reps K G vs' ds∧ds.length=n∧t ds Qr∧
 ∀H' r G',Ext G H1 G' H'→RepR K G' H' H1 (.ref x) r→Qr r→Q .non H'
section
variable {P:Program} {w:World} {K:PySem.W.Frag} {mg:Str→Option Value} {base:Heap}
noncomputable def zcX(N:List Str)(ds:List D):Ev:=.un::(ds.map Sl.fz++List.replicate (N.length-1-ds.length) .un)
theorem zie{G H:Hp}{N:List Str}{x:V}{vs:List V}{ds:List D}(s:Same G H)(r:Reps K G vs ds):EOk K G H (zcX N ds) (zbF N (x::vs)) G H:=by
 have E:=zeu (N:=N.drop 1) s r
 have hl:=r.length
 have e1:zcX N ds=.un::zay (N.drop 1) ds:=by simp[zcX,zay]
 have e2:zbF N (x::vs)=some x::zbF (N.drop 1) vs:=by simp[zbF,Nat.sub_sub,Nat.add_comm]
 rw[e1,e2]
 refine⟨E.e,congrArg (·+1) E.len,fun i d h=>?_,fun i d h=>?_,fun i j d d' hij h h'=>?_,?_⟩
 ·cases i with
  | zero=>cases h
  | succ i=>exact E.fz i d h
 ·cases i with
  | zero=>cases h
  | succ i=>exact E.ow i d h
 ·cases i with
  | zero=>cases h
  | succ i=>
   cases j with
   | zero=>cases h'
   | succ j=>exact E.dj i j d d' (fun z=>hij (by rw[z])) h h'
 ·obtain⟨own,o1,o2⟩:=E.on
  refine⟨fun q=>(own q).map (·+1),fun i ds p h hp=>?_,fun i o h=>?_⟩
  ·cases i with
   | zero=>cases h
   | succ i=>
    dsimp only
    rw[o1 i ds p h hp];rfl
  ·cases i with
   | zero=>cases h
   | succ i=>
    obtain⟨p,fp,b1,b2,b3,b4⟩:=o2 i o h
    refine⟨p,fp,b1,b2,b3,fun q hq=>⟨(b4 q hq).1,(b4 q hq).2.1,?_⟩⟩
    dsimp only
    rw[(b4 q hq).2.2];rfl
theorem zfX(N:List Str)(ds:List D):∀i o,gt (zcX N ds) i≠.ov o:=by
 have key:∀(l:List Sl),(∀s∈l,∀o,s≠.ov o)→∀i o,gt l i≠.ov o:=by
  intro l
  induction l with
  | nil=>intro _ i o h;cases h
  | cons a r ih=>
   intro h i o
   cases i with
   | zero=>exact h a (by simp) o
   | succ i=>exact ih (fun s hs=>h s (by simp[hs])) i o
 refine key _ fun s hs o e=>?_
 subst e
 unfold zcX at hs
 simp at hs
theorem zif{x qual cn:Str}{st:Stmt}{f C:Addr}{fd:FuncData}{N ps:List Str}{k:Nat}{t:SpD}{T:TI0}(F:Fun K x qual st f fd)(S:FnScope N ("self"::ps) (defScope st))(hC:ClsAt K cn C)
  (body:∀(cdv:Value) (A:Around) (outer:List Env) (s:Shared) (H:Hp) (E:XK),Room k (A.deeper (envOfC qual (defScope st) s.heap.objs.size f cdv))→PIn (zfP CX0 P w K mg base N qual (defScope st) f cdv A outer s H E).nox C (defBody st) T)
  (spec:∀(ds:List D) (Qr:R→Prop),ds.length=ps.length→t ds Qr→T (zcX N ds) [] fun fs=>(∀p∈fs,NoAttr K C p.1)∧Qr (.fz (.obj cn fs))):FnOk P w K mg base CX0 (k+1) f fd ("self"::ps) (ISp K C ps.length t):=by
 refine F.ok S (fun vs H Q E h=>?_) (fun cdv A outer s H vs Q E hr h=>?_)
 ·obtain⟨x,dx,H1,G,ds,vs',Qr,rfl,_,_,_,_,_,r,hl,_⟩:=h
  simp[r.length,hl]
 ·obtain⟨x,dx,H1,G,ds,vs',Qr,rfl,rfl,hx,hdx,hne,s0,r,hl,ht,k0⟩:=h
  obtain⟨tt,p,q⟩:=body cdv A outer s _ E hr
  have E0:=zie (N:=N) (x:=.ref x) s0 r
  have gx:=s0.free hx
  have gdx:=s0.free hdx
  have sH:Same H1 (upd (upd H1 dx (.own x)) x (.ins C dx [])):=fun b o e=>by rw[zai (zaj e hx),zai (zaj e hdx)];exact e
  have M0:Making K C x dx G H1 (zcX N ds) (zbF N (.ref x::vs')) G (upd (upd H1 dx (.own x)) x (.ins C dx [])) [] []:=
   ⟨⟨⟨Same.refl _,sH,s0.trans sH,fun _ h _=>h⟩,E0.len,E0.fz,fun i ds h=>let⟨p,xs,b1,b2,b3,b4,b5⟩:=E0.ow i ds h;⟨p,xs,b1,sH _ _ b2,b3,b4,b5⟩,E0.dj,let⟨own,o1,o2⟩:=E0.on;⟨own,o1,fun i o h=>let⟨p,fp,b1,b2,b3,b4⟩:=o2 i o h;⟨p,fp,b1,b2,b3.mono (Same.refl _) fun q _ u e=>sH q u e,b4⟩⟩⟩,by simp[zbF],zal,by rw[zai hne];exact zal,gx,gdx,by simp only[RepF]⟩
  refine⟨tt,p,q x dx _ _ G H1 G _ [] [] _ _ hx hdx hne (zfX _ _) M0 (spec ds Qr hl ht) fun σ' G' H' fs gs M hq=>?_⟩
  have y:=M.e.e
  have ne':dx≠x:=hne
  have sG:Same G' (upd (upd G' dx (.own x)) x (.ins C dx gs)):=fun b o e=>by rw[zai (zaj e M.gx),zai (zaj e M.gdx)];exact e
  refine k0 H' (.fz (.obj cn fs)) (upd (upd G' dx (.own x)) x (.ins C dx gs)) ⟨y.g.trans sG,y.h,fun b o e=>?_,fun b h1 h2=>?_⟩ ?_ hq.2
  ·by_cases hb:b=x
   ·subst hb;rw[zal] at e;rw[M.hx];exact e
   ·rw[zai hb] at e
    by_cases hb2:b=dx
    ·subst hb2;rw[zal] at e;rw[M.hdx];exact e
    ·rw[zai hb2] at e;exact y.s b o e
  ·rw[zai (fun z=>h2 (by rw[z];exact hx)),zai (fun z=>h2 (by rw[z];exact hdx))]
   exact y.n b h1 h2
  ·show Rep K _ _ (.obj cn fs)
   simp only[Rep]
   exact⟨x,C,dx,gs,rfl,zal,hC,hq.1,RepF.mono sG _ _ M.r⟩
structure KnownC (P:Program) (w:World) (K:PySem.W.Frag) (mg:Str→Option Value) (base:Heap) (k:Nat) (x:Str) (n:Nat) (t:SpD):Prop where
 ex:∃(C f:Addr) (fd:FuncData) (ps:List Str),Mk K C f∧FnOk P w K mg base CX0 k f fd ps (ISp K C n t)∧mg x=some (.ref C)∧Binds K fd ps []
end
section
variable {X:Cx} {k k' n:Nat} {t:SpD} {x:Str} {p pos:Pos} {e:Expr} {es:List Expr} {ts:TDa}
theorem zjz(C:KnownC X.prog X.w X.K X.mg X.base k x n t)(hr:Room k' X.A)(ha:PDa X (e::es) ts)(hk:k+1≤k':=by decide)(hg:Gl X x:=by rfl)(hdb:(x==("__debug__":Str))=false:=by decide)
  (he:starEach (e::es) X.env=(false,eval e X.env)::starEach es X.env:=by rfl) (hpl:(backTo pos (starEach es X.env)).any (·.1)=false:=by rfl):PD X (.Call (.Name x p) (e::es) [] pos) (zax n t ts):=by
 obtain⟨C,f,fd,ps,M,F,hm,hb⟩:=C.ex
 obtain⟨tt,pp,q⟩:=ha
 refine⟨_,zkC M F (hr.mono hk) hg hm hb .nil zl5 pp hdb he hpl,fun ρ σ G0 H0 G H Q P E h k=>q ρ σ G0 H0 G H _ _ E h fun vs H' ds G' y rs hq=>?_⟩
 intro a dx ha hdx hne
 rw[List.append_nil]
 exact⟨a,dx,H',G',ds,vs,Q,rfl,rfl,ha,hdx,hne,y.s,rs,hq.1,hq.2,fun H2 r G2 x2 rr q2=>⟨rfl,k _ H2 r G2 (y.trans x2) (rr.older y.h) q2⟩⟩
end
end L2
namespace L2
open PySem PySem.Spec PyProof.Rows
noncomputable def NoAttrs(K:PySem.W.Frag)(C:Addr):List Str→Prop
 | []=>True
 | x::r=>NoAttr K C x∧NoAttrs K C r
theorem NoAttrs.all{K:PySem.W.Frag}{C:Addr}:∀{l:List Str},NoAttrs K C l→∀x∈l,NoAttr K C x
 | [],_,x,h=>by cases h
 | y::r,n,x,h=>by
  rcases List.mem_cons.mp h with rfl | h
  ·exact n.1
  ·exact NoAttrs.all n.2 x h
structure AtC (K:PySem.W.Frag) (mg:Str→Option Value) (cn qual:Str) (st:Stmt) (fields:List Str):Prop where
 ex:∃(C f:Addr) (fd:FuncData),ClsAt K cn C∧Mk K C f∧Fun K "__init__" qual st f fd∧mg cn=some (.ref C)∧NoAttrs K C fields
theorem atC_mk{K:PySem.W.Frag}{mg:Str→Option Value}{h:Heap}{cn qual:Str}{st:Stmt}{fields:List Str}{C f:Addr}{oc:Value}{od an:Option Addr}{osl:Array (Option Value)}{kV doc pm cdv ct:Value}(X:K.In h)(G:h.Ns mainGlobals mg)
  (aC:PySem.W.nsIn K mainGlobals cn=some (some (.ref C))) (a1:PySem.W.findIn K (.ref C) "__init__"=some (some (.ref f))) (i1:PySem.W.isFn K (.ref f)=true)
  (l1:K.lookup f=some ⟨oc,od,.func (PySem.W.fnOf "__init__" qual (defArgs st) (defBody st) (defScope st) .none kV doc pm an cdv ct),osl⟩) (c1:PySem.W.codeIn K cdv qual=true) (k1:PySem.W.keepIn K (.ref f)=true)
  (pg:PySem.W.plainGet K C Str.empty=true) (hd:PySem.W.hasDictIn K C=true) (po:PySem.W.plainOver K C=true) (sa:PySem.W.findIn K (.ref C) "__setattr__"=some (some (.builtin "object.__setattr__"))) (mk:PySem.W.makesIn K C=true) (kc:PySem.W.keepIn K (.ref C)=true)
  (nf:NoAttrs K C fields):AtC K mg cn qual st fields:=
 ⟨C,f,_,⟨aC,⟨pg,hd,po,sa⟩⟩,⟨mk,a1,i1,kc⟩,zj2 l1 c1 k1,PySem.W.mg_of X G aC,nf⟩
end L2
namespace L2
open PySem PySem.Spec PyProof.Rows
noncomputable def zjA:D→Bool
 | .non=>true
 | .bl _=>true
 | .int _=>true
 | .str _=>true
 | _=>false
noncomputable def zjB(i:Nat)(te:TD):TD:=fun ρ Q=>te (frz i ρ) fun r=>match r with
 | .fz d=>zjA d=true∧Q (.fz d)
 | _=>False
theorem zjC{K:PySem.W.Frag}{G G':Hp}{v:V}{d:D}(h:zjA d=true)(r:Rep K G v d):Rep K G' v d:=by
 cases d<;>first | (simp only[Rep] at r ⊢;exact r) | cases h
noncomputable def zm1(G:Hp)(L:List Addr):Hp:=fun a=>if a∈L then none else G a
theorem zjD{G H G' H':Hp}{L:List Addr}(gp:∀q∈L,G q=none)(x:Ext (zgY G H L) H G' H'):Ext G H (zm1 G' L) H':=by
 refine⟨fun b u e=>?_,x.h,fun b u e=>?_,fun q h1 h2=>?_⟩
 ·have hb:b∉L:=fun z=>by rw[gp b z] at e;cases e
  unfold zm1
  rw[if_neg hb]
  exact x.g b u (by rw[za3 hb];exact e)
 ·unfold zm1 at e
  split at e
  ·cases e
  ·exact x.s b u e
 ·unfold zm1
  split
  ·rfl
  ·rename_i hq
   exact x.n q (by rw[za3 hq];exact h1) h2
section
variable {X:Cx} {e:Expr} {te:TD} {t:TDb}
theorem EOk.lent{K:PySem.W.Frag}{G0 H0 G H:Hp}{ρ:Ev}{σ:St}(i:Nat)(E:EOk K G0 H0 ρ σ G H):∃G1,EOk K G0 H0 (frz i ρ) σ G1 H∧∀G' H',Ext G1 H G' H'→∃G2,Ext G H G2 H':=
 let⟨L,hL,E',_⟩:=E.freezeL i
 ⟨_,E',fun G' H' x=>⟨_,zjD hL x⟩⟩
theorem zk5(i:Nat)(h:PD X e te):PD X e (zjB i te):=by
 obtain⟨tt,p,q⟩:=h
 refine⟨tt,p,fun ρ σ G0 H0 G H Q P E h k=>?_⟩
 obtain⟨G1,E1,back⟩:=E.lent i
 refine q _ σ G0 H0 G1 H _ _ E1 h fun v H' r G' x rr hq=>?_
 split at hq
 ·rename_i d
  obtain⟨G2,x2⟩:=back G' H' x
  exact k v H' (.fz d) G2 x2 (zjC hq.1 rr) hq.2
 ·exact hq.elim
end
end L2
namespace L2
open PySem PySem.Spec PyProof.Rows
theorem zew(t:SetTable)(n:Nat):(t.orStandIn n).led=t.led:=by
 unfold SetTable.orStandIn
 split<;>rfl
theorem zg6(t:SetTable)(es:Array (Int×Value))(h:Int)(x:Value):(layNew t es h x).2.1.led=t.led:=by
 unfold layNew
 split
 ·exact zew _ _
 ·rfl
theorem zfe{t t':SetTable}{hs:Array Int}{wanted:Nat}{order:Array Nat}(h:t.relaid hs wanted=some (t',order)):t'.led=t.led∧t'.plain=t.plain:=by
 unfold SetTable.relaid SetTable.laid at h
 cases hc:SetTable.layClean (SetTable.sizeAbove wanted-1) hs with
 | none=>rw[hc] at h;cases h
 | some owner=>
  rw[hc] at h
  cases h
  exact⟨rfl,rfl⟩
theorem zdL(t:SetTable)(es:Array (Int×Value))(wanted:Nat)(hp:t.plain=false):(relayAll t es wanted).2.1.led=t.led∧(relayAll t es wanted).2.1.plain=false:=by
 unfold relayAll
 split
 ·rename_i t' order hr
  obtain⟨h1,h2⟩:=zfe hr
  dsimp only
  split
  ·exact⟨h1,h2.trans hp⟩
  ·exact⟨rfl,rfl⟩
 ·exact⟨rfl,rfl⟩
section
variable {prog:Program} {w:World} {A:Around} {E:Value→Shared→Prop} {s:Shared}
structure Marks (w:World) (es:Array (Int×Value)) (t:SetTable):Prop where
 led:t.led=!(w.params.followText "set-order")
 plain:es.size=0∨t.plain=false
structure SetAt (prog:Program) (w:World) (h:Heap) (a:Addr) (es:Array (Int×Value)) (ep:Nat) (t:SetTable):Prop where
 at_:h.get? a=some { cls:=.type "set",dict:=none,data:=.set es ep t,slots:=#[] }
 el:ElemsOf (strKind prog w) es.toList
 small:es.size<scanBound
 fits:t.fits es.size=true
 marks:Marks w es t
noncomputable def Mem(prog:Program)(w:World)(es:Array (Int×Value))(k:Str):Prop:=∃e∈es.toList,(strKind prog w).is k e.2=true
theorem zff{a:Addr}{es es':Array (Int×Value)}{ep:Nat}{t t':SetTable}{Q:Unit→Shared→Prop}(ho:s.heap.get? a=some { cls:=.type "set",dict:=none,data:=.set es ep t,slots:=#[] })(hb:es'.size<scanBound)
  (h:∀h',Heap.SameBut a s.heap h'→h'.get? a=some { cls:=.type "set",dict:=none,data:=.set es' (ep+1) t',slots:=#[] }→Q () { s with heap:=h' }):wpAny (model prog w) A (storeSet a es' t') Q E s:=by
 refine wpAny_storeSet_of ho rfl ?_ (fits_of_scanBound hb)
 refine h _ (Heap.SameBut.update s.heap a (Obj.putSet es' t')) ?_
 have:=Heap.get?_update_self (Obj.putSet es' t') ho (by rw[putSet_of es' t' (ep:=ep) (t:=t) (es:=es) rfl];rfl)
 rw[putSet_of es' t' (ep:=ep) (t:=t) (es:=es) rfl] at this
 exact this
theorem zk6{a:Addr}{es:Array (Int×Value)}{ep:Nat}{t:SetTable}{x:Str}{tk:Tok}{Q:Bool→Shared→Prop}(S:SetAt prog w s.heap a es ep t)(room:es.size+1<scanBound)
  (h:∀h' es' ep' t',Heap.SameBut a s.heap h'→SetAt prog w h' a es' ep' t'→((es'=es∧Mem prog w es x)∨(¬Mem prog w es x∧List.Perm es'.toList (es.toList++[(hashStr w x,.str x tk)])))→∀b,Q b { s with heap:=h' }) :
  wpAny (model prog w) A (setAddHashed a (.str x tk) ((strKind prog w).hash x)) Q E s:=by
 have hkey:(strKind prog w).is x (.str x tk)=true:=by show Value.isStrOf x (.str x tk)=true;simp[Value.isStrOf]
 have hsc:(Value.str x tk).scannable=true:=rfl
 have ho:=S.at_
 unfold setAddHashed setAddHashedIn
 refine wpAny_holding (wpAny_bind (wpAny_setState_of ho rfl S.fits ?_))
 dsimp only
 rw[byScan_of hsc S.small S.el]
 simp only[↓reduceIte]
 unfold setAddByScan
 refine wpAny_bind (wpAny_bind (wpAny_rule (wpAny_bind (wpAny_setScan_of hkey ho rfl S.fits S.el ?_))))
 cases hr:List.findIdx? (fun e=>(strKind prog w).is x e.2) es.toList with
 | some j=>
  dsimp only
  obtain⟨hj,hpj,_⟩:=List.findIdx?_eq_some_iff_getElem.mp hr
  refine wpAny_pure (wpAny_pure ?_)
  exact h s.heap es ep t (Heap.SameBut.refl a s.heap) S (.inl ⟨rfl,es.toList[j],List.getElem_mem hj,hpj⟩) _
 | none=>
  dsimp only
  have hno:¬Mem prog w es x:=fun⟨e,he,hp⟩=>by
   have:=List.findIdx?_eq_none_iff.mp hr e he
   rw[hp] at this
   cases this
  have way:∀(b:Bool) {s1:Shared} {Q':Unit→Shared→Prop},Q' () s1→wpAny (model prog w) A (match b with | true=>rule "set.scan.the-table-gave-way" | false=>pure ()) Q' E s1:=fun b s1 Q' q=>by
   cases b
   ·exact wpAny_pure q
   ·exact wpAny_rule q
  have hperm:=layNew_perm t es ((strKind prog w).hash x) (.str x tk)
  have hfits:=layNew_fits t es ((strKind prog w).hash x) (.str x tk)
  have hled:=zg6 t es ((strKind prog w).hash x) (.str x tk)
  generalize layNew t es ((strKind prog w).hash x) (.str x tk)=L at hperm hfits hled ⊢
  obtain⟨es1,t1,dum,gave⟩:=L
  dsimp only at hperm hfits hled ⊢
  rw[Array.toList_push] at hperm
  have hel1:ElemsOf (strKind prog w) es1.toList:=(S.el.push hkey hsc).perm hperm
  have hsz:es1.size=es.size+1:=by rw[←Array.length_toList,hperm.length_eq,List.length_append,Array.length_toList];rfl
  have hb1:es1.size<scanBound:=by omega
  refine wpAny_bind (way _ ?_)
  -- the table,not plain any more
  have tail:∀(g:Bool→Sem Unit),(∀(b:Bool) (s1:Shared) (Q':Unit→Shared→Prop),Q' () s1→wpAny (model prog w) A (g b) Q' E s1)→∀t2:SetTable,t2.fits es1.size=true→t2.led=t.led→t2.plain=false→wpAny (model prog w) A (do
    storeSet a es1 t2
    if (!dum&&t2.tooFull)=true then do
        g (relayAll t2 es1 (SetTable.grown es1.size)).2.2
        storeSet a (relayAll t2 es1 (SetTable.grown es1.size)).1 (relayAll t2 es1 (SetTable.grown es1.size)).2.1
        pure (some true)
     else pure (some true)) (fun r s'=>wpAny (model prog w) A (match r with | some added=>pure added | none=>setAddHashedIn a (Value.str x tk) ((strKind prog w).hash x) 99999) Q E s') E s:=by
   intro g hg t2 f2 l2 p2
   refine wpAny_bind (zff ho hb1 fun h1 sb1 g1=>?_)
   have fin1:∀b,Q b { s with heap:=h1 }:=h h1 es1 _ t2 sb1 ⟨g1,hel1,hb1,f2,⟨l2.trans S.marks.led,.inr p2⟩⟩ (.inr ⟨hno,hperm⟩)
   split
   ·have hp:=relayAll_perm t2 es1 (SetTable.grown es1.size)
    have hfr:=relayAll_fits t2 es1 (SetTable.grown es1.size)
    have hmk:=zdL t2 es1 (SetTable.grown es1.size) p2
    generalize relayAll t2 es1 (SetTable.grown es1.size)=Rl at hp hfr hmk ⊢
    obtain⟨es2,t3,gave2⟩:=Rl
    dsimp only at hp hfr hmk ⊢
    have hs2:es2.size=es1.size:=by rw[←Array.length_toList,hp.length_eq,Array.length_toList]
    refine wpAny_bind (hg _ _ _ ?_)
    refine wpAny_bind (zff (s:={ s with heap:=h1 }) g1 (by rw[hs2];exact hb1) fun h2 sb2 g2=>wpAny_pure (wpAny_pure ?_))
    exact h h2 es2 _ t3 (sb1.trans sb2) ⟨g2,hel1.perm hp,by rw[hs2];exact hb1,hfr,⟨(hmk.1.trans l2).trans S.marks.led,.inr hmk.2⟩⟩ (.inr ⟨hno,hp.trans hperm⟩) _
   ·exact wpAny_pure (wpAny_pure (fin1 _))
  by_cases hpl:t1.plain=true
  ·rw[if_pos hpl]
   refine wpAny_bind ?_
   rw[hashByValue_scannable 8 hsc]
   refine wpAny_pure ?_
   have hk:plainKind (.str x tk)=false:=rfl
   rw[hk]
   simp only[Bool.false_eq_true,if_false]
   exact tail _ (fun b s1 Q' q=>by cases b<;>first | exact wpAny_pure q | exact wpAny_rule q) { t1 with plain:=false } (SetTable.fits_plain_off hfits) hled rfl
  ·rw[if_neg hpl]
   refine wpAny_bind (wpAny_pure ?_)
   simp only[if_true]
   exact tail _ (fun b s1 Q' q=>by cases b<;>first | exact wpAny_pure q | exact wpAny_rule q) t1 hfits hled (by simpa using hpl)
noncomputable def keysOf(es:Array (Int×Value)):List Str:=es.toList.map fun e=>strOf e.2
theorem zgB{es:Array (Int×Value)}(el:ElemsOf (strKind prog w) es.toList)(k:Str):Mem prog w es k↔k∈keysOf es:=by
 unfold Mem keysOf
 rw[List.mem_map]
 constructor
 ·rintro⟨e,he,hk⟩
  obtain⟨t,ht⟩:=Value.isStrOf_shape hk
  exact⟨e,he,by rw[ht];rfl⟩
 ·rintro⟨e,he,rfl⟩
  obtain⟨⟨k,hk,_⟩,_⟩:=el e he
  obtain⟨t,ht⟩:=Value.isStrOf_shape hk
  refine⟨e,he,?_⟩
  rw[ht]
  show Value.isStrOf k (.str k t)=true
  simp[Value.isStrOf]
theorem zig{es es':Array (Int×Value)}{x:Str}{tk:Tok}{hs:Int}(p:List.Perm es'.toList (es.toList++[(hs,.str x tk)])):List.Perm (keysOf es') (keysOf es++[x]):=by
 have:=p.map fun e=>strOf e.2
 rw[List.map_append] at this
 exact this
structure Holds (es:Array (Int×Value)) (xs:List Str):Prop where
 nd:(keysOf es).Nodup
 mem:∀x,x∈keysOf es↔x∈xs
 len:es.size≤xs.length
theorem Holds.put{es es':Array (Int×Value)}{xs:List Str}{x:Str}{tk:Tok}(H:Holds es xs)(el:ElemsOf (strKind prog w) es.toList)
  (h:(es'=es∧Mem prog w es x)∨(¬Mem prog w es x∧List.Perm es'.toList (es.toList++[(hashStr w x,.str x tk)]))):Holds es' (xs++[x]):=by
 rcases h with⟨rfl,hm⟩ | ⟨hm,hp⟩
 ·refine⟨H.nd,fun y=>?_,by simp;have:=H.len;omega⟩
  rw[List.mem_append,←H.mem,List.mem_singleton]
  constructor
  ·exact .inl
  ·rintro(h | rfl)
   ·exact h
   ·exact(zgB el _).mp hm
 ·have hk:=zig hp
  refine⟨hk.nodup_iff.mpr ?_,fun y=>?_,?_⟩
  ·rw[List.nodup_append]
   refine⟨H.nd,by simp,fun a ha b hb=>?_⟩
   rw[List.mem_singleton.mp hb]
   rintro rfl
   exact hm ((zgB el _).mpr ha)
  ·rw[hk.mem_iff,List.mem_append,List.mem_append,H.mem]
  ·have e1:=hk.length_eq
   have e2:(keysOf es').length=es'.size:=by simp[keysOf]
   have e3:(keysOf es).length=es.size:=by simp[keysOf]
   have:=H.len
   simp only[List.length_append,List.length_cons,List.length_nil] at e1 ⊢
   omega
theorem SetAt.kept{h h':Heap}{a:Addr}{es:Array (Int×Value)}{ep:Nat}{t:SetTable}(S:SetAt prog w h a es ep t)(k:∀o,h.get? a=some o→h'.get? a=some o):SetAt prog w h' a es ep t:=⟨k _ S.at_,S.el,S.small,S.fits,S.marks⟩
end
section
variable {prog:Program} {w:World} {A:Around} {R:Result→Shared→Prop} {I:Addr} {fp wr:List Addr} {G:Array GenState→Array GenState→Prop} {n:Nat} {P:Nat→Value→Prop} {St:Nat→Shared→Prop}
theorem zih(W:WalksS prog w A.in1 I fp wr G n P St)(S:Addr)(hSf:S∉fp)(xs:List Str)(hx:xs.length=n)(hval:∀i v,P i v→∃x t,xs[i]?=some x∧v=.str x t)(hb:n+1<scanBound) :
  ∀(k i:Nat) (s:Shared) (es:Array (Int×Value)) (ep:Nat) (t:SetTable),n-i=k→i≤n→St i s→SetAt prog w s.heap S es ep t→Holds es (xs.take i)→
   (∀s' es' ep' t',Moved (S::wr) G s s'→SetAt prog w s'.heap S es' ep' t'→Holds es' xs→R (.ok (.ret .none)) s')→codeAny (model prog w) A (.builtin "set.update.loop" ⟨[.ref S,.ref I],[]⟩) R s:=by
 have offW:S∉wr:=fun h=>hSf (W.sub _ h)
 have more:∀b∈wr,b∈S::wr:=fun b hb=>List.mem_cons_of_mem _ hb
 intro k
 induction k with
 | zero=>
  intro i s es ep t hk hi st T H q
  have e:i=n:=by omega
  subst e
  refine codeAny_builtin PyProof.Rows.F.entry_set_update_loop ?_
  rw[Around.under_plainId PyProof.Rows.F.plain_set_update_loop _]
  show wpAny _ A.in1 (pyNext (.ref I) >>= _) _ _ s
  refine wpAny_bind (W.done s _ _ st fun s' hm=>?_)
  show wpAny _ A.in1 (ret Value.none) _ _ s'
  rw[←hx,List.take_length] at H
  exact wpAny_pure (q s' es ep t (hm.mono more) (T.kept fun o e=>hm.heap S _ offW e) H)
 | succ k ih=>
  intro i s es ep t hk hi st T H q
  have hlt:i<n:=by omega
  refine codeAny_builtin PyProof.Rows.F.entry_set_update_loop ?_
  rw[Around.under_plainId PyProof.Rows.F.plain_set_update_loop _]
  show wpAny _ A.in1 (pyNext (.ref I) >>= _) _ _ s
  refine wpAny_bind (W.item i s _ _ hlt st fun v s' hP st' hm=>?_)
  obtain⟨x,tk,hxi,rfl⟩:=hval i v hP
  have T':SetAt prog w s'.heap S es ep t:=T.kept fun o e=>hm.heap S _ offW e
  show wpAny _ A.in1 (holding [Value.str x tk] (setAdd S (.str x tk)) >>= _) _ _ s'
  refine wpAny_bind (wpAny_holding ?_)
  unfold setAdd
  refine wpAny_holding (wpAny_bind ((strKind prog w).pyHash (k:=x) (by show Value.isStrOf x (.str x tk)=true;simp[Value.isStrOf]) ?_))
  have hl:=H.len
  rw[List.length_take] at hl
  refine zk6 (s:={ s' with toks:=s'.toks+1 }) T' (by omega) fun h' es' ep' t' sb T2 hput b=>?_
  have tk1:xs.take (i+1)=xs.take i++[x]:=by rw[List.take_add_one,hxi];rfl
  have H2:Holds es' (xs.take (i+1)):=by rw[tk1];exact H.put T.el hput
  refine wpAny_pure ⟨plainId_quiet PyProof.Rows.F.plain_set_update_loop _,ih (i+1) _ es' ep' t' (by omega) hlt (W.frame _ s' _ _ st' (Nat.le_succ _) fun b hb o e=>?_) T2 H2 fun s2 es2 ep2 t2 hm2 T3 H3=>?_⟩
  ·rw[sb.2 b (fun z:b=S=>hSf (by rw[←z];exact hb))];exact e
  ·refine q s2 es2 ep2 t2 (Moved.trans W.gtrans ((hm.mono more).then_heap (Nat.le_succ _) fun b o hb e=>?_) hm2) T3 H3
   rw[sb.2 b (fun z:b=S=>hb (by rw[z];exact List.mem_cons_self))];exact e
end
end L2
namespace L2
open PySem PySem.Spec PyProof.Rows
section
variable {prog:Program} {w:World} {A:Around} {E:Value→Shared→Prop} {s:Shared}
noncomputable abbrev zbp(w:World):Obj:={ cls:=.type "set",dict:=none,data:=.set #[] 0 (.fresh 0 0 (!(w.params.followText "set-order"))) }
theorem zjE(a:Value){Q1:Value→Shared→Prop}(h:Q1 (.ref s.heap.objs.size) { s with heap:=s.heap.push (zbp w) }) :
  codeAny (model prog w) A (.call (.builtin "set.__new__") ⟨[.type "set",a],[]⟩) (wants Q1 E) s:=by
 refine codeAny_of_tree ?_
 show wpAny _ A.in1 (do checkBuiltinCall "set.__new__" ⟨[.type "set",a],[]⟩;again (.builtin "set.__new__" ⟨[.type "set",a],[]⟩)) _ _ s
 refine wpAny_bind (wpAny_of_eq (PySem.F.newCall_set_1 a) (wpAny_pure ⟨plainId_quiet PySem.F.plain_set_new _,codeAny_builtin PySem.F.entry_set_new ?_⟩))
 rw[Around.under_plainId PySem.F.plain_set_new _]
 unfold Builtin.«set.__new__» Builtin.Frozenset.newClass
 have hsub:=PySem.sub_set_self
 obtain⟨hp,g,d,tk,os⟩:=s
 dsimp only
 wp_walk
 refine wpAny_askSetting (wpAny_pure ?_)
 dsimp only
 simp only[newObj]
 refine wpAny_bind (wpAny_alloc (wpAny_pure ?_))
 exact wpAny_pure h
theorem zk7{h:Heap}{a:Addr}(e:h.get? a=some (zbp w)):SetAt prog w h a #[] 0 (.fresh 0 0 (!(w.params.followText "set-order"))):=
 ⟨e,fun x hx=>by simp at hx,by show 0<4096;decide,by simp[SetTable.fits,SetTable.fresh,SetTable.fill],⟨rfl,.inl rfl⟩⟩
theorem zii{l:Addr}{items:List Value}{xs:List Str}{Q:Value→Shared→Prop}(hh:A.handled=none)(hl:s.heap.IsList l items.toArray)(hi:StrsAre items xs)(hb:xs.length+1<scanBound)
  (h:∀(h':Heap) (tk:Nat) es ep t,SetAt prog w h' s.heap.objs.size es ep t→L2.Holds es xs→(∀b o,b<s.heap.objs.size→s.heap.get? b=some o→h'.get? b=some o)→Q (.ref s.heap.objs.size) { s with heap:=h',toks:=tk }) :
  wpAny (model prog w) A (call (.type "set") [.ref l]) Q E s:=by
 obtain⟨c,tl,hmro⟩:=PySem.F.called_set.mro
 have hmade:=PySem.F.called_set.made
 have hsub:=PySem.F.called_set.sub
 refine wpAny_call (codeAny_of_tree ?_)
 show wpAny _ _ (callAny (.type "set") _) _ _ _
 refine wpAny_pure ⟨Code.quiet_builtin _ (by decide +kernel),codeAny_builtin PySem.F.entry_type_call ?_⟩
 rw[Around.under_plain (weight_type_call_type "set" [.ref l] []) rfl]
 have h1:=PySem.F.called_set.notType
 have h2:=PySem.F.called_set.canCreate
 have hct:=PySem.F.typeCall_set_1 (.ref l)
 repeat(any_goals (first | assumption | wp_step))
 refine codeAny_mono (zjE (.ref l) (E:=E) (Q1:=fun obj s1=>obj=.ref s.heap.objs.size∧s1={ s with heap:=s.heap.push (zbp w) }) ⟨rfl,rfl⟩) fun r s1 hr=>?_
 cases r with
 | error e=>exact hr
 | ok fl=>
  cases fl with
  | ret obj=>
   obtain⟨rfl,rfl⟩:=hr
   have hS:(s.heap.push (zbp w)).get? s.heap.objs.size=some (zbp w):=Heap.get?_push_size _ rfl
   have hT:Shared.TypeIs { s with heap:=s.heap.push (zbp w) } (.ref s.heap.objs.size) "set":=⟨_,hS,rfl⟩
   have hli:=PySem.F.called_set.init.lookup
   have hbi:=PySem.F.called_set.init.bind (.ref s.heap.objs.size)
   repeat(any_goals (first | assumption | wp_step))
   refine codeAny_mono (codeAny_call_builtin (R:=wants (fun r s2=>r=.none∧∃h' tk es ep t,s2={ s with heap:=h',toks:=tk }∧SetAt prog w h' s.heap.objs.size es ep t∧L2.Holds es xs∧
     (∀b o,b<s.heap.objs.size→s.heap.get? b=some o→h'.get? b=some o)) E) PySem.F.called_set.init.plain PySem.F.entry_set_init (check_set_init_1 hT ?_)) fun r2 s2 hr2=>?_
   ·obtain⟨ol,hol,hcl,nl,hdl⟩:=hl
    obtain⟨ocls,odict,odata,oslots⟩:=ol
    simp only at hcl hdl
    subst hcl hdl
    have hol':(s.heap.push (zbp w)).get? l=some { cls:=.type "list",dict:=odict,data:=.seq items.toArray nl,slots:=oslots }:=Heap.get?_push_of_some _ hol
    have hsls:=PySem.F.sub_list_set
    have hslf:=PySem.F.sub_list_frozenset
    have hne:(Value.type "list"==Value.type "dict")=false:=by decide
    have hl1:(s.heap.push (zbp w)).IsList l items.toArray:=⟨_,hol',rfl,nl,rfl⟩
    unfold Builtin.«set.__init__» noKeywords Builtin.Frozenset.updateFrom
    generalize hPI:pyIter=PI
    wp_walk
    subst hPI
    refine wpAny_pyIter_list hl1 (wpAny_bind (wpAny_runValue ?_))
    have hlS:l<s.heap.objs.size:=Heap.lt_size hol
    have hh3:A.in1.in1.in1.handled=none:=by simp[hh]
    have hsz:(s.heap.push (zbp w)).objs.size=s.heap.objs.size+1:=Heap.size_push ..
    have hneI:l≠(s.heap.push (zbp w)).objs.size:=by rw[hsz];exact Nat.ne_of_lt (Nat.lt_succ_of_lt hlS)
    have hSf:s.heap.objs.size∉[(s.heap.push (zbp w)).objs.size,l]:=by
     rw[hsz]
     simp only[List.mem_cons,List.not_mem_nil,or_false,not_or]
     exact⟨Nat.ne_of_lt (Nat.lt_succ_self _),Nat.ne_of_gt hlS⟩
    have hxn:xs.length=items.toArray.size:=by
     rw[List.size_toArray]
     clear hol hol' hl1 h hb
     induction hi with
     | nil=>rfl
     | cons _ _ _ ih=>simp[ih]
    have hval:∀(i:Nat) (v:Value),items.toArray[i]?=some v→∃x t,xs[i]?=some x∧v=.str x t:=fun i v hv=>by
     rw[List.getElem?_toArray] at hv
     clear hol hol' hl1 h hb hxn
     induction hi generalizing i with
     | nil=>simp at hv
     | cons x t hr ih=>
      cases i with
      | zero=>simp at hv;exact⟨x,t,rfl,hv.symm⟩
      | succ i=>simp only[List.getElem?_cons_succ] at hv ⊢;exact ih i hv
    refine zih ((Walks.list hh3 _ l hneI items.toArray).toS) s.heap.objs.size hSf xs hxn hval (by omega) (items.toArray.size-0) 0 _ #[] 0 _ (by omega) (Nat.zero_le _)
     ⟨⟨_,Heap.get?_push_size _ rfl,rfl,rfl⟩,(hl1.push _)⟩ (zk7 (Heap.get?_push_of_some _ hS)) ⟨by simp[keysOf],by simp[keysOf],by simp⟩ ?hR
    case hR=>
     intro s' es ep t hm T H
     obtain⟨h',g',d',tk',os'⟩:=s'
     have eg:g'=s.gens:=hm.gens
     have ed:d'=s.drawn:=hm.drawn
     have eo:os'=s.os:=hm.os
     subst eg ed eo
     show wpAny _ _ _ _ _ _
     refine wpAny_pure ?_
     show wpAny _ _ (ret Value.none) _ _ _
     refine wpAny_pure ⟨rfl,h',tk',es,ep,t,rfl,T,H,fun b o hb e=>?_⟩
     refine hm.heap b o ?_ (Heap.get?_push_of_some _ (Heap.get?_push_of_some _ e))
     rw[hsz]
     simp only[List.mem_cons,List.not_mem_nil,or_false,not_or]
     exact⟨Nat.ne_of_lt hb,Nat.ne_of_lt (Nat.lt_succ_of_lt hb)⟩
   ·cases r2 with
    | error e=>exact hr2
    | ok fl2=>
     cases fl2 with
     | ret r=>
      obtain⟨rfl,h',tk,es,ep,t,rfl,T,H,hk'⟩:=hr2
      repeat(any_goals (first | assumption | wp_step))
      exact h _ _ es ep t T H hk'
     | _=>exact hr2.elim
  | _=>exact hr.elim
end
end L2
namespace L2
open PySem PySem.Spec PyProof.Rows
end L2
namespace L2
open PySem PySem.Spec PyProof.Rows
end L2
namespace L2
open PySem PySem.Spec PyProof.Rows
end L2
namespace L2
open PySem PySem.Spec PyProof.Rows
end L2
namespace L2
open PySem PySem.Spec PyProof.Rows
section
variable {X:Cx} {pos:Pos} {e i':Expr} {te ti:TD}
noncomputable def znG(i:Nat):TX:=fun D ρ=>match gt ρ i with
 | .ow _=>D.nx (ρ.set i (.ow []))
 | _=>False
noncomputable def zkc(i:Nat)(te:TD):TX:=fun D ρ=>match gt ρ i with
 | .ow ds=>te ρ fun r=>match r with
  | .ow es=>ds.length+es.length≤sizeLine∧D.nx (ρ.set i (.ow (ds++es)))
  | _=>False
 | _=>False
theorem zgC(i:Nat){x:Str}{p1 p2 pos':Pos}(he:PD X e te)(hN:X.N[i]?=some x:=by rfl)(hv:Vis X.env.scope x:=by first | exact Or.inl rfl | exact Or.inr (Or.inl rfl) | exact Or.inr (Or.inr rfl))(hd:(x==("__debug__":Str))=false:=by decide)(hcd:(x==("__classdict__":Str))=false:=by decide)
  (hst:starEach [e] X.env=(false,eval e X.env)::starEach [] X.env:=by rfl)
  (hb:∀{ta:TE} {t:TA},PE X (.Name x p1) ta→PA X [e] t→PE X (.Call (.Attribute (.Name x p1) "extend" p2) [e] [] pos') (tBM X.K "list" zhC ta t):=by intro ta t h1 h2;exact zl3 PySem.F.plainAttrs_list PySem.F.slot_list_extend PySem.F.type_list_extend zhD h1 h2) :
  PX X (.Expr (.Call (.Attribute (.Name x p1) "extend" p2) [e] [] pos') pos) (zkc i te):=by
 obtain⟨t,p,q⟩:=he
 refine⟨_,zfN (hb (zgf hN hv hd hcd) (zfO p zhv hst)),fun ρ σ G0 H0 G H D E k h g=>?_⟩
 unfold zkc at h
 split at h
 ·rename_i ds hg
  obtain⟨a,xs,h1,h2,h3,h4,h5⟩:=k.ow i ds hg
  refine⟨_,h1,.inl ⟨rfl,xs,SqL.of h2⟩,q ρ σ G0 H0 G H _ _ k h fun v H' r G' x1 rr hq=>?_⟩
  split at hq
  ·rename_i es
   obtain⟨b,zs,rfl,b1,b2,b3,b4⟩:=rr
   have k2:=k.ext x1
   refine⟨a,b,xs,zs,rfl,rfl,x1.h _ _ h2,b3,by rw[h5.length,b4.length];exact hq.1,?_⟩
   exact g.nx _ _ G' _ x1.g (k2.change hg h1 ((h5.mono x1.g).append b4)) hq.2
  ·exact hq.elim
 ·exact h.elim
noncomputable def zfg:TX:=fun _ _=>False
theorem zjF{st:Stmt}:PX X st zfg:=⟨_,zi0,fun _ _ _ _ _ _ _ _ _ h _=>h.elim⟩
end
end L2
namespace L2
open PySem PySem.Spec PyProof.Rows
structure M2 (X:Cx) (o:Expr) (m:Str) (apos:Pos) (e f:Expr) (cpos:Pos):Prop where
 base:attributeBase o m X.env (eval o X.env)=eval o X.env
 few:((backTo cpos (starEach [e,f] X.env)).all (fun x=>!x.1)&&(backToKw cpos (keywordEach [] X.env)).all (fun x=>x.1.isSome)
  && decide (([e,f]:List Expr).length+([]:List Keyword).length+(if ([]:List Keyword).isEmpty then 0 else 1)<30))=true
 line:(apos.endLine==cpos.line)=true
 trees:backTo cpos (starEach [e,f] X.env)=[(false,eval e X.env),(false,eval f X.env)]
end L2
namespace PySem
open Sem (wp)
end PySem
namespace PySem
open Sem (wp)
end PySem
namespace PySem
open Sem (wp)
end PySem
namespace L2
open PySem PySem.Spec PyProof.Rows
noncomputable def look(kvs:List (Key×D))(k:Key):Option D:=(kvs.find? fun kv=>decide (kv.1=k)).map (·.2)
end L2
namespace L2
open PySem PySem.Spec PyProof.Rows
end L2
namespace L2
open PySem PySem.Spec PyProof.Rows
end L2
namespace L2
open PySem PySem.Spec PyProof.Rows
section
variable {X:Cx} {pos:Pos} {e i':Expr} {te ti:TD}
noncomputable def znH(j i:Nat)(ti:TD):TX:=fun D ρ=>match gt ρ i with
 | .ow ds=>ti ρ fun rk=>match rk.val with
  | .int k=>∃n d,-(2 ^ 63)≤k∧k<2 ^ 63∧ixN ds.length k=some n∧ds[n]?=some d∧D.nx ((ρ.set i (.ow (ds.eraseIdx n))).set j (.fz d))
  | _=>False
 | _=>False
noncomputable def zmq(ta tb:TD):TD:=fun ρ Q=>ta ρ fun ra=>tb ρ fun rb=>match ra,rb.val with
 | .ow ds,.int k=>-(2 ^ 63)≤k∧k<2 ^ 63∧ds.length*k.toNat≤sizeLine∧Q (.ow (List.replicate k.toNat ds).flatten)
 | _,_=>False
theorem Reps.rep{K:PySem.W.Frag}{H:Hp}{vs:List V}{ds:List D}(h:Reps K H vs ds):∀k:Nat,Reps K H (List.replicate k vs).flatten (List.replicate k ds).flatten
 | 0=>Reps.nil
 | k+1=>by
  rw[List.replicate_succ,List.replicate_succ,List.flatten_cons,List.flatten_cons]
  exact h.append (Reps.rep h k)
theorem zkd{a b:Expr}{ta tb:TD}(ha:PD X a ta)(hb:PD X b tb):PD X (.BinOp a .Mult b pos) (zmq ta tb):=by
 obtain⟨t1,p1,q1⟩:=ha
 obtain⟨t2,p2,q2⟩:=hb
 refine⟨_,zlL zl4 p1 p2,fun ρ σ G0 H0 G H Q P E h k=>?_⟩
 refine q1 ρ σ G0 H0 G H _ _ E h fun v H1 ra G1 x1 rr1 hq1=>?_
 refine q2 ρ σ G0 H0 G1 H1 _ _ (E.ext x1) hq1 fun u H2 rb G2 x2 rr2 hq2=>?_
 obtain⟨G3,x3,rv3,_⟩:=rr2.freeze x2
 split at hq2
 ·rename_i ds kk e1
  obtain⟨p,xs,rfl,c1,c2,c3,c4⟩:=rr1
  rw[e1] at rv3
  simp only[Rep] at rv3
  have x13:=x1.trans x3
  refine⟨p,kk,xs,rfl,rv3,x3.h _ _ c3,hq2.1,hq2.2.1,by rw[c4.length];exact hq2.2.2.1,fun l hl=>?_⟩
  exact k _ _ (.ow _) G3 (x13.trans (.own x13.s hl)) ⟨l,_,rfl,x13.h.free hl,x13.s.free hl,zal,(c4.mono x3.g).rep kk.toNat⟩ hq2.2.2.2
 ·exact hq2.elim
end
end L2
namespace L2
open PySem PySem.Spec PyProof.Rows
end L2
namespace HT
open PySem PyProof.Rows
end HT
namespace L2
open PySem PySem.Spec PyProof.Rows
end L2
namespace HT
end HT
namespace L2
open PySem PySem.Spec PyProof.Rows
end L2
namespace L2
open PySem PySem.Spec PyProof.Rows
end L2
namespace L2
open PySem PySem.Spec PyProof.Rows
end L2
namespace Ts
open PySem PyProof.Rows
variable {M:Model} {A:Around} {E:Value→Shared→Prop} {s:Shared}
end Ts
namespace Ts
open PySem PyProof.Rows
variable {α:Type} (rk:α→Int)
variable {rk}
end Ts
namespace Ts
open PySem PyProof.Rows
variable {M:Model} {A:Around} {E:Value→Shared→Prop} {s:Shared}
noncomputable def Srt(rk:Keyed→Int)(l:List Keyed):Prop:=l.Pairwise fun x y=>rk x≤rk y
end Ts
namespace Ts
open PySem PyProof.Rows
end Ts
namespace Ts
open PySem PyProof.Rows
variable {M:Model} {A:Around} {E:Value→Shared→Prop} {s:Shared}
end Ts
namespace Ts
open PySem PyProof.Rows
variable {M:Model} {A:Around} {E:Value→Shared→Prop} {s:Shared}
end Ts
namespace Ts
open PySem PyProof.Rows
variable {M:Model} {A:Around} {E:Value→Shared→Prop} {s:Shared}
end Ts
namespace Ts
open PySem PyProof.Rows
variable {M:Model} {A:Around} {E:Value→Shared→Prop} {s:Shared}
end Ts
namespace Ts
open PySem PyProof.Rows
variable {M:Model} {A:Around} {E:Value→Shared→Prop} {s:Shared}
end Ts
namespace Ts
open PySem PyProof.Rows
variable {M:Model} {A:Around} {E:Value→Shared→Prop} {s:Shared}
end Ts
namespace Ts
open PySem PyProof.Rows
section
variable {prog:Program} {w:World} {A:Around} {E:Value→Shared→Prop} {s:Shared}
theorem zmr{rk:Keyed→Int}{l:List Keyed}(h:l.length<2):Srt rk l:=by
 cases l with
 | nil=>exact .nil
 | cons a r=>
  cases r with
  | nil=>exact List.pairwise_singleton _ _
  | cons b t=>
   simp only[List.length_cons] at h
   omega
end
end Ts
namespace HT
end HT
namespace Ts
open PySem PySem.W PyProof.Rows
end Ts
namespace Ts
open PySem PyProof.Rows
end Ts
namespace L2
open PySem PySem.Spec PyProof.Rows
end L2
namespace L2
open PySem PySem.Spec PyProof.Rows
end L2
namespace L2
open PySem PySem.Spec PyProof.Rows
end L2
namespace L2
open PySem PySem.Spec PyProof.Rows
end L2
namespace PySem
open Sem (wp)
end PySem
namespace PySem
open Sem (wp)
end PySem
namespace L2
open PySem PySem.Spec PyProof.Rows
end L2
namespace L2
open PySem PySem.Spec PyProof.Rows
end L2
namespace L2
open PySem PySem.Spec PyProof.Rows
end L2
namespace PySem
open Sem (wp)
end PySem
namespace L2
open PySem PySem.Spec PyProof.Rows
end L2
namespace L2
open PySem PySem.Spec PyProof.Rows
end L2
namespace PySem
open Sem (wp)
end PySem
namespace L2
open PySem PySem.Spec PyProof.Rows
end L2
namespace L2
open PySem
end L2
namespace L2
namespace SI
open PySem PySem.Spec PyProof.Rows
end SI
end L2
namespace L2
open PySem PySem.Spec PyProof.Rows
namespace SI
end SI
end L2
namespace L2
open PySem PySem.Spec PyProof.Rows
end L2
namespace L2
open PySem PySem.Spec PyProof.Rows
section
variable {P:Program} {w:World} {K:PySem.W.Frag} {mg:Str→Option Value} {base:Heap}
theorem zaA{x:Str}{st:Stmt}{N ps:List Str}{t:SpD}{T:TX}{n d:Nat}(k:Nat)(A:At K mg x st)(S:FnScope N ps (defScope st))
  (body:∀(f:Addr) (cdv:Value) (A:Around) (outer:List Env) (s:Shared) (H:Hp) (E:XK),Room k (A.deeper (envOfC x (defScope st) s.heap.objs.size f cdv))→PXs (zfP CX0 P w K mg base N x (defScope st) f cdv A outer s H E).nox (defBody st) T)
  (spec:∀(ds:List D) (Qr:R→Prop),ds.length=n→t ds Qr→T { nx:=fun _=>Qr (.fz .non),rt:=Qr } (zay N ds))
  (b:∀(kV doc pm:Value) (an:Option Addr) (cdv ct:Value) (us:List Value),us.length=n→bindArgs (PySem.W.fnOf x x (defArgs st) (defBody st) (defScope st) .none kV doc pm an cdv ct) ⟨us,[]⟩=pure (ps.zip us)) (hn:ps.length=n:=by rfl) (hd:k+1=d:=by rfl):Known P w K mg base d x n t:=by
 subst hn hd
 obtain⟨f,fd,F,hm⟩:=A.ex
 exact⟨f,fd,ps,zhZ F S (body f) spec,hm,F.kp,F.binds b⟩
end
end L2
namespace L2
open PySem PySem.Spec PyProof.Rows
end L2
namespace L2
open PySem PySem.Spec PyProof.Rows
section
variable {X:Cx}
noncomputable def zaP(i:Int):Str:=Str.ofString (toString i)
theorem zij:CallR X (.type "str") (fun xs H Q=>∃i:Int,xs=[.int i]∧i.natAbs<1000000000∧Q (.str (zaP i)) H):=by
 intro pins s σ H xs us Q I r h
 obtain⟨i,rfl,hi,q⟩:=h
 obtain⟨u,rfl,t,rfl⟩:=zbY r
 refine PySem.P.str_of_int ?_ ⟨.str (zaP i),H,I.tok _,⟨_,rfl⟩,q⟩
 by_cases h0:i.natAbs=0
 ·rw[h0];decide
 ·have:i.natAbs.log2<30:=by rw[Nat.log2_lt h0];omega
  omega
noncomputable def zjG:SpD:=fun ds Q=>match ds with
 | [.int i]=>i.natAbs<1000000000∧Q (.fz (.str (zaP i)))
 | _=>False
theorem zms:zdH X (.type "str") zjG:=by
 refine⟨_,zij,fun G H vs ds Q P s rs h k=>?_⟩
 unfold zjG at h
 split at h
 ·obtain⟨v,rfl,rv⟩:=zbH rs
  simp only[Rep] at rv
  subst rv
  exact⟨_,rfl,h.1,k _ _ _ G (.refl s) (fzR (by simp only[Rep])) h.2⟩
 ·exact h.elim
end
end L2
namespace Ts
open PySem PySem.W PyProof.Rows
end Ts
namespace L2
open PySem PySem.Spec PyProof.Rows
end L2
namespace L2
open PySem PySem.Spec PyProof.Rows
end L2
namespace L2
open PySem PySem.Spec PyProof.Rows
theorem zjH{α:Type}{l:List α}{n:Nat}(h:l.length=n+1):∃a r,l=a::r∧r.length=n:=by
 cases l with
 | nil=>cases h
 | cons a r=>exact⟨a,r,rfl,Nat.succ.inj h⟩
theorem zn8{α:Type}{l:List α}(h:l.length=0):l=[]:=List.eq_nil_of_length_eq_zero h
theorem zfh{α:Type}{l:List α}(h:l.length=1):∃a0,l=[a0]:=by
 obtain⟨a,r,e,h⟩:=zjH h
 exact⟨a,by rw[e,zn8 h]⟩
theorem zlr{α:Type}{l:List α}(h:l.length=2):∃a0 a1,l=[a0,a1]:=by
 obtain⟨a,r,e,h⟩:=zjH h
 obtain⟨b0,e2⟩:=zfh h
 exact⟨a,b0,by rw[e,e2]⟩
theorem znI{α:Type}{l:List α}(h:l.length=3):∃a0 a1 a2,l=[a0,a1,a2]:=by
 obtain⟨a,r,e,h⟩:=zjH h
 obtain⟨b0,b1,e2⟩:=zlr h
 exact⟨a,b0,b1,by rw[e,e2]⟩
theorem zn9{α:Type}{l:List α}(h:l.length=4):∃a0 a1 a2 a3,l=[a0,a1,a2,a3]:=by
 obtain⟨a,r,e,h⟩:=zjH h
 obtain⟨b0,b1,b2,e2⟩:=znI h
 exact⟨a,b0,b1,b2,by rw[e,e2]⟩
theorem zoa{α:Type}{l:List α}(h:l.length=5):∃a0 a1 a2 a3 a4,l=[a0,a1,a2,a3,a4]:=by
 obtain⟨a,r,e,h⟩:=zjH h
 obtain⟨b0,b1,b2,b3,e2⟩:=zn9 h
 exact⟨a,b0,b1,b2,b3,by rw[e,e2]⟩
theorem zob{α:Type}{l:List α}(h:l.length=6):∃a0 a1 a2 a3 a4 a5,l=[a0,a1,a2,a3,a4,a5]:=by
 obtain⟨a,r,e,h⟩:=zjH h
 obtain⟨b0,b1,b2,b3,b4,e2⟩:=zoa h
 exact⟨a,b0,b1,b2,b3,b4,by rw[e,e2]⟩
theorem zoc{α:Type}{l:List α}(h:l.length=7):∃a0 a1 a2 a3 a4 a5 a6,l=[a0,a1,a2,a3,a4,a5,a6]:=by
 obtain⟨a,r,e,h⟩:=zjH h
 obtain⟨b0,b1,b2,b3,b4,b5,e2⟩:=zob h
 exact⟨a,b0,b1,b2,b3,b4,b5,by rw[e,e2]⟩
theorem znJ{α:Type}{l:List α}(h:l.length=8):∃a0 a1 a2 a3 a4 a5 a6 a7,l=[a0,a1,a2,a3,a4,a5,a6,a7]:=by
 obtain⟨a,r,e,h⟩:=zjH h
 obtain⟨b0,b1,b2,b3,b4,b5,b6,e2⟩:=zoc h
 exact⟨a,b0,b1,b2,b3,b4,b5,b6,by rw[e,e2]⟩
theorem zoh{α:Type}{l:List α}(h:l.length=9):∃a0 a1 a2 a3 a4 a5 a6 a7 a8,l=[a0,a1,a2,a3,a4,a5,a6,a7,a8]:=by
 obtain⟨a,r,e,h⟩:=zjH h
 obtain⟨b0,b1,b2,b3,b4,b5,b6,b7,e2⟩:=znJ h
 exact⟨a,b0,b1,b2,b3,b4,b5,b6,b7,by rw[e,e2]⟩
end L2
namespace L2
open PySem PySem.Spec PyProof.Rows PySem.Builtin PySem.Builtin.Str
section
variable {X:Cx}
theorem zg7{A:Around}{E:Value→Shared→Prop}{prog:Program}{w:World}{s:Shared}{Q:Value→Shared→Prop}{x y:Str}{t u:Tok}(hy:(y.length==0)=false)
  (hq:∀l tk,l.map (·.1)=Txt.split x y→Q (.ref s.heap.objs.size) { s with heap:=s.heap.push { cls:=.type "list",data:=.seq (strValues l).toArray },toks:=tk })
  (hsz:x.length+2≤sizeLine):wpAny (model prog w) A (call (.builtin "str.split") [.str x t,.str y u]) Q E s:=by
 have hsz2:(partsBetween x (occurrences x y 0 x.length (x.length+1)) y.length).length≤sizeLine:=by
  rw[len_partsBetween]
  have:=StrLaws.occ_length_le x y 0 x.length (x.length+1)
  omega
 cases h1:(decide (x.length<y.length)||decide (strKind x<strKind y))
 ·cases hf:(occurrences x y 0 x.length (x.length+1)).isEmpty
  ·refine call_meets PySem.F.slot_str_split (typeIs_str _ _ _) PySem.F.entry_str_split (PySem.F.args_str_split_2 _ _) (meets_str_split_sep x y t u h1 hy hf (by omega) hsz2) ?_
   show wants Q E _ { s with toks:=_,heap:=s.heap.push { cls:=.type "list",data:=.seq (strsFrom s.toks (partsBetween x (occurrences x y 0 x.length (x.length+1)) y.length)).toArray } }
   rw[strsFrom_eq]
   exact hq (numbered s.toks _) _ ((numbered_texts _ _).trans ((if_neg (ne_true_of_eq_false h1)).trans (if_neg (ne_true_of_eq_false hf))).symm)
  ·exact call_meets PySem.F.slot_str_split (typeIs_str _ _ _) PySem.F.entry_str_split (PySem.F.args_str_split_2 _ _) (meets_str_split_not_found x y t u h1 hy hf)
    (hq [(x,t)] s.toks ((if_neg (ne_true_of_eq_false h1)).trans (if_pos hf)).symm)
 ·exact call_meets PySem.F.slot_str_split (typeIs_str _ _ _) PySem.F.entry_str_split (PySem.F.args_str_split_2 _ _) (meets_str_split_cannot_occur x y t u h1)
   (hq [(x,t)] s.toks (if_pos h1).symm)
theorem zgD:∀(l:List (Str×Tok)),Vals ((l.map (·.1)).map V.str) (strValues l)
 | []=>.nil
 | (x,t)::r=>.cons ⟨t,rfl⟩ (zgD r)
theorem zdn{K:PySem.W.Frag}{G:Hp}:∀(l:List Str),Reps K G (l.map V.str) (l.map D.str)
 | []=>Reps.nil
 | x::r=>Reps.cons (zbx _ _ _) (zdn r)
noncomputable def zfi:D→List D→(R→Prop)→Prop:=fun d ds Q=>match d,ds with
 | .str x,[.str y]=>y.length≠0∧x.length+2≤sizeLine∧Q (.ow ((Txt.split x y).map D.str))
 | _,_=>False
theorem zik:MtP X "str.split" zfi:=by
 refine⟨fun x vs H Q=>∃(z y:Str),x=.str z∧vs=[.str y]∧y.length≠0∧z.length+2≤sizeLine∧∀p,H p=none→Q (.ref p) (upd H p (.lst ((Txt.split z y).map V.str))),fun pins s σ H x xs v us Q I rx rs h=>?_,fun G H x d vs ds Q P s rx rs h k=>?_⟩
 ·obtain⟨z,y,rfl,rfl,hy,hz,q⟩:=h
  obtain⟨t,rfl⟩:=rx
  obtain⟨u,rfl,ru⟩:=zbY rs
  obtain⟨t2,rfl⟩:=ru
  refine zg7 (by simpa using hy) (fun l tk hl=>?_) hz
  have hv:=zgD l
  rw[hl] at hv
  exact⟨.ref _,_,I.lnew (t':=tk) hv (by rw[List.length_map];exact Nat.le_trans (split_le z y) hz),rfl,q _ I.fresh⟩
 ·unfold zfi at h
  split at h
  ·obtain⟨y,rfl,ry⟩:=zbH rs
   simp only[Rep] at rx ry
   subst rx ry
   exact⟨_,_,rfl,rfl,h.1,h.2.1,zcA s (zdn _) h.2.2 k⟩
  ·exact h.elim
noncomputable def zil:SpD:=fun ds Q=>match ds with
 | [.str x]=>∃n,PySem.intText? x=some n∧x.length≤640∧Q (.fz (.int n))
 | _=>False
theorem zmt:zdH X (.type "int") zil:=by
 refine⟨fun vs H Q=>∃x n,vs=[.str x]∧PySem.intText? x=some n∧x.length≤640∧Q (.int n) H,fun pins s σ H xs us Q I r h=>?_,fun G H vs ds Q P s rs h k=>?_⟩
 ·obtain⟨x,n,rfl,hn,hl,q⟩:=h
  obtain⟨u,rfl,t,rfl⟩:=zbY r
  exact PySem.W.KIN.call_text hn hl ⟨.int n,H,I.tok _,⟨_,rfl⟩,q⟩
 ·unfold zil at h
  split at h
  ·obtain⟨n,h1,h2,h3⟩:=h
   obtain⟨v,rfl,rv⟩:=zbH rs
   simp only[Rep] at rv
   subst rv
   exact⟨_,n,rfl,h1,h2,k _ _ _ G (.refl s) (fzR (zaB _ _ _)) h3⟩
  ·exact h.elim
noncomputable def zod:O2:=fun d e Q=>match d,e with
 | .str x,.int n=>x.length=1∧0≤n∧n<1000∧Q (.fz (.str (Txt.mul x n)))
 | _,_=>False
noncomputable def zls:O2:=fun d e Q=>match d,e with
 | .int i,.int j=>Q (.fz (.bl (decide (i<j))))
 | .str x,.str y=>Q (.fz (.bl (decide (x.cps.toList<y.cps.toList))))
 | _,_=>False
theorem znr:OpP X (compareOp .Lt) zls:=by
 refine⟨_,op_lt.or zhp,fun G H x y d e Q P s rx ry h k=>?_⟩
 unfold zls at h
 split at h
 ·simp only[Rep] at rx ry
  exact .inl ⟨_,_,rx,ry,k _ _ _ G (.refl s) (fzR (za4 _ _ _)) h⟩
 ·simp only[Rep] at rx ry
  exact .inr ⟨_,_,rx,ry,k _ _ _ G (.refl s) (fzR (za4 _ _ _)) h⟩
 ·exact h.elim
noncomputable def ConT(K:PySem.W.Frag)(mg:Str→Option Value)(x:Str)(ss:List Str):Prop:=∃a,mg x=some (.ref a)∧∀G,Rep K G (.ref a) (.tup (ss.map D.str))
noncomputable def zns(o:Obj)(ss:List Str):Prop:=o.cls=.type "tuple"∧∃(its:Array Value) (n:Nat),o.data=.seq its n∧its.size≤sizeLine∧Vals (ss.map V.str) its.toList
theorem conT_mk{K:PySem.W.Frag}{mg:Str→Option Value}{h:Heap}{x:Str}{a:Addr}{o:Obj}{ss:List Str}(X:K.In h)(G:h.Ns mainGlobals mg)(c:PySem.W.nsIn K mainGlobals x=some (some (.ref a)))(l:K.lookup a=some o)(hs:zns o ss):ConT K mg x ss:=by
 obtain⟨h1,its,n,h2,h3,h4⟩:=hs
 refine⟨a,PySem.W.mg_of X G c,fun G=>?_⟩
 simp only[Rep]
 exact⟨a,_,rfl,.inr ⟨o,its,n,l,h1,h2,h3,h4⟩,zdn ss⟩
theorem zjI{pos:Pos}{x:Str}{ss:List Str}(hm:ConT X.K X.mg x ss)(hg:Gl X x:=by rfl)(hd:(x==("__debug__":Str))=false:=by decide):PD X (.Name x pos) (dC (.tup (ss.map D.str))):=by
 obtain⟨a,h1,h2⟩:=hm
 exact⟨_,zfL hg h1 (v:=.ref a) rfl hd,fun ρ σ G0 H0 G H Q P E h k=>k _ H (.fz (.tup (ss.map D.str))) G (.refl E.e.s) (fzR (h2 _)) h⟩
end
end L2
namespace L2
open PySem PySem.Spec PyProof.Rows
section
variable {X:Cx} {pos:Pos} {e:Expr} {ts:TDa} {t:TA}
noncomputable def zjJ(K:PySem.W.Frag)(t:TA):TE:=fun σ H Q=>t σ H fun vs H1=>∃(p:Addr) (ss:List Str),vs=[.ref p]∧SqL K H1 p (ss.map V.str)∧ss.length<4000∧∀l:List Str,l.Nodup→(∀x,x∈l↔x∈ss)→Q (.int l.length) H1
theorem zg8{p1 p2 pos2:Pos}(hc:X.calm=true)(hm1:X.mg "len"=none)(hm2:X.mg "set"=none)(ha:PA X [e] t)(hg1:Gl X "len":=by rfl)(hg2:Gl X "set":=by rfl)
  (he:starEach [e] X.env=(false,eval e X.env)::starEach [] X.env:=by rfl) (he2:starEach [.Call (.Name "set" p2) [e] [] pos2] X.env=(false,eval (.Call (.Name "set" p2) [e] [] pos2) X.env)::starEach [] X.env:=by rfl) :
  PE X (.Call (.Name "len" p1) [.Call (.Name "set" p2) [e] [] pos2] [] pos) (zjJ X.K t):=by
 intro pins s σ H Q I h
 refine wpAny_Call_Name_kw (zdb I hg1 hm1 boot_len ?_ (by decide) (by decide))
 refine PyProof.Rows.callWith_builtin1 ?_ he2 rfl
 rw[he2]
 show wpAny _ _ (spliced ((false,eval (.Call (.Name "set" p2) [e] [] pos2) X.env)::backTo pos (starEach [] X.env))) _ _ s
 refine Calls.spliced_cons ?_
 refine wpAny_Call_Name_kw (zdb I hg2 hm2 zid ?_ (by decide) (by decide))
 refine PyProof.Rows.callWith_type1 (thn (ha pos2 pins s σ H _ I h) fun us s1 ⟨vs,H1,I1,r1,q1⟩=>?_) he rfl
 obtain⟨p,ss,rfl,hq,hn,q⟩:=q1
 obtain⟨u,rfl,ru⟩:=zbY r1
 cases ru
 obtain⟨its,rv,pl,hz⟩:=I1.list hq
 have hS:=zcE rv
 refine zii (I1.ok.hd hc) pl.isList hS (by have:scanBound=4096:=rfl
                                           omega) fun h1 tk1 es ep tb T Hd hk1=>?_
 have I2:Inv X pins σ H1 { s1 with heap:=h1,toks:=tk1 }:=I1.kept fun b o e=>hk1 b o (Heap.lt_size e) e
 refine Calls.spliced_nil ?_
 have hlen:(keysOf es).length=es.size:=by simp[keysOf]
 refine call_len_set (s:={ s1 with heap:=h1,toks:=tk1 }) T.at_ ⟨rfl,rfl,rfl⟩ rfl T.fits ?_ ?_
 ·have h8:=T.small
  have:scanBound=4096:=rfl
  omega
 ·refine⟨.int _,H1,I2.tok _,⟨_,rfl⟩,?_⟩
  have:=q (keysOf es) Hd.nd fun x=>Hd.mem x
  rw[hlen] at this
  exact this
noncomputable def zc6:SpD:=fun ds Q=>match ds with
 | [.lst es]=>match zbb es with
  | some ss=>ss.length<4000∧∀l:List Str,l.Nodup→(∀w,w∈l↔w∈ss)→Q (.fz (.int l.length))
  | none=>False
 | _=>False
theorem zg9{p1 p2 pos2:Pos}(hc:X.calm=true)(hm1:X.mg "len"=none)(hm2:X.mg "set"=none)(ha:PDa X [e] ts)(hg1:Gl X "len":=by rfl)(hg2:Gl X "set":=by rfl)
  (he:starEach [e] X.env=(false,eval e X.env)::starEach [] X.env:=by rfl) (he2:starEach [.Call (.Name "set" p2) [e] [] pos2] X.env=(false,eval (.Call (.Name "set" p2) [e] [] pos2) X.env)::starEach [] X.env:=by rfl) :
  PD X (.Call (.Name "len" p1) [.Call (.Name "set" p2) [e] [] pos2] [] pos) (dCB zc6 ts):=by
 obtain⟨t,pp,q⟩:=ha
 refine⟨_,zg8 hc hm1 hm2 pp hg1 hg2 he he2,fun ρ σ G0 H0 G H Q P E h k=>q ρ σ G0 H0 G H _ _ E h fun vs H' ds G' x rs hq=>?_⟩
 unfold zc6 at hq
 split at hq
 ·split at hq
  ·rename_i es ss hs
   obtain⟨v,rfl,rv⟩:=zbH rs
   simp only[Rep] at rv
   obtain⟨a,xs,rfl,h1,h2⟩:=rv
   rw[zbW hs] at h2
   rw[zc5 h2] at h1
   exact⟨a,ss,rfl,(x.s.rdl h1).sq,hq.1,fun l nd hm=>k _ _ _ G' x (fzR (zaB _ _ _)) (hq.2 l nd hm)⟩
  ·exact hq.elim
 ·exact hq.elim
end
end L2
namespace L2
open PySem PySem.Spec PyProof.Rows
noncomputable def Cov(s0:Shared)(H:Hp)(b:Addr):Prop:=(∃o,s0.heap.get? b=some o)∨H b≠none
noncomputable def Fly(l:List Env)(C a:Addr)(P:Addr→Prop)(h:Heap):Prop:=∃B a0,Heap.FlyingW B l a (.ref C) a0 h∧∀b o,P b→h.get? b=some o→b∉frs l→B.get? b=some o
noncomputable def CX1(P:Program)(w:World)(C:Addr):CXT:=fun outer H s E e s'=>∃a H',e=.ref a∧s'.os=s.os∧AllBare s'.gens∧Un (frs outer) [] H H' s.heap s'.heap∧HOk P w H' s'.heap∧H' a=none∧s.heap.get? a=none∧Fly outer C a (Cov s H') s'.heap∧E (.ref a) none H'
section
variable {X:Cx} {pins:List (Addr×Obj)} {σ:St} {H:Hp} {s:Shared}
theorem ObjOk.some{P:Program}{w:World}{H:Hp}{h:Heap}{a:Addr}{o:HO}(x:ObjOk P w H h a o):∃ob,h.get? a=some ob:=by
 cases o with
 | lst xs=>exact⟨_,x.2.choose_spec.choose_spec.2⟩
 | tup xs=>
  obtain⟨_,its,_,ob,e,_⟩:=x
  exact⟨ob,e⟩
 | dK kvs ep=>
  obtain⟨_,_,_,_,ob,_,e,_⟩:=x
  exact⟨ob,e⟩
 | dT kvs bs=>
  obtain⟨_,_,_,_,_,ob,_,_,e,_⟩:=x
  exact⟨ob,e⟩
 | set S n=>
  obtain⟨ob,_,_,_,e,_⟩:=x
  exact⟨ob,e⟩
 | ins C dx fs=>exact⟨_,x.2.2.2.1⟩
 | own y=>exact x
 | xd fs=>
  obtain⟨_,⟨ob,_,_,e,_⟩,_⟩:=x
  exact⟨ob,e⟩
 | rng lo hi=>
  obtain⟨_,_,_,e⟩:=x
  exact⟨_,e⟩
 | frz ob u=>exact⟨ob,x.1⟩
 | tbl ps=>exact⟨_,x⟩
 | met f y=>exact⟨_,x⟩
 | ext φ=>exact x.2.1
theorem Inv.there(I:Inv X pins σ H s)(hex:X.ex=[]){b:Addr}(h:Cov X.s₀ H b):∃o,s.heap.get? b=some o:=by
 rcases h with⟨o,e⟩ | h
 ·exact I.base.there b o e (by rw[hex];simp)
 ·cases e:H b with
  | none=>exact absurd e h
  | some u=>exact(I.hok b u e).some
theorem Inv.gone(I:Inv X pins σ H s)(hex:X.ex=[])(hst:X.stack=X.env::X.outer)(hf:X.env.frame=some X.env.locals){B h':Heap}(st:B.StaysIn h')(cov:∀b o,Cov X.s₀ H b→s.heap.get? b=some o→b∉frs X.stack→B.get? b=some o)(up:s.heap.UpToSlots h') :
  Un (frs X.outer) [] X.H₀ H X.s₀.heap h'∧HOk X.prog X.w H h'∧∀b o,Cov X.s₀ H b→h'.get? b=some o→b∉frs X.outer→B.get? b=some o:=by
 have hfr:frs X.stack=X.env.locals::frs X.outer:=by rw[hst];simp[frs,hf]
 have nL:∀b,Cov X.s₀ H b→b≠X.env.locals:=fun b h z=>by
  subst z
  rcases h with⟨o,e⟩ | h
  ·exact absurd (Heap.lt_size e) (Nat.not_lt.mpr I.ok.above)
  ·exact h I.free
 have out:∀b,Cov X.s₀ H b→b∉frs X.outer→b∉frs X.stack:=fun b h n=>by
  rw[hfr]
  simp only[List.mem_cons,not_or]
  exact⟨nL b h,n⟩
 have same:∀b o,Cov X.s₀ H b→b∉frs X.outer→s.heap.get? b=some o→h'.get? b=some o:=fun b o h n e=>st b o (cov b o h e (out b h n))
 have fnf:∀b,H b≠none→b∉frs X.outer:=fun b h m=>by
  obtain⟨_,o,ho,_⟩:=I.ok.funs.mem m
  exact h (I.base.free b o ho (I.ok.frf b m) (by rw[hex];simp))
 refine⟨⟨fun b o e n hb _=>?_,fun b o e n hb _=>?_,fun b o e n _=>?_,fun b o e _=>?_,I.base.tups,I.base.frzs,I.base.tbls⟩,fun a u e=>?_,fun b o h e n=>?_⟩
 ·exact same b o (.inl ⟨o,e⟩) hb (I.base.keep b o e n hb (by rw[hex];simp))
 ·obtain⟨sl,e1⟩:=I.base.slot b o e n hb (by rw[hex];simp)
  obtain⟨_,o',ho',hd⟩:=I.ok.funs.mem hb
  rw[e] at ho'
  cases ho'
  obtain⟨sl2,e2⟩:=up b _ e1 hd
  exact⟨sl2,e2⟩
 ·exact I.base.free b o e n (by rw[hex];simp)
 ·by_cases hb:b∈frs X.outer
  ·obtain⟨sl,e1⟩:=I.base.slot b o e (I.ok.frf b hb) hb (by rw[hex];simp)
   obtain⟨_,o',ho',hd⟩:=I.ok.funs.mem hb
   rw[e] at ho'
   cases ho'
   obtain⟨sl2,e2⟩:=up b _ e1 hd
   exact⟨_,e2⟩
  ·obtain⟨o',e1⟩:=I.base.there b o e (by rw[hex];simp)
   exact⟨o',same b o' (.inl ⟨o,e⟩) hb e1⟩
 ·refine(I.hok a u e).stay (fun b v hb hv=>?_) (fun _ h=>h) fun _ _ h=>h
  have hn:H b≠none:=by
   rcases hb with rfl | hb
   ·rw[e];exact nofun
   ·rw[hb];exact nofun
  exact same b v (.inr hn) (fnf b hn) hv
 ·obtain⟨o',e1⟩:=I.there hex h
  have e2:=same b o' h n e1
  rw[e] at e2
  cases e2
  exact cov b o h e1 (out b h n)
noncomputable def Thr(X:Cx)(C:Addr)(W:Hp→Prop):Prop:=∀(pins:List (Addr×Obj)) (σ:St) (H:Hp) (s:Shared) (a:Addr),Inv X pins σ H s→H a=none→X.s₀.heap.get? a=none→Fly X.stack C a (Cov X.s₀ H) s.heap→W H→X.xe (.ref a) s
noncomputable def znt(X:Cx)(C:Addr)(W:Hp→Prop):Prop:=∀(pins:List (Addr×Obj)) (σ:St) (H:Hp) (s:Shared) (h':Heap) (a:Addr) (vs:List Value),Inv X pins σ H s→Heap.MadeExcOf s.heap h' a (.ref C) vs→W H→X.xe (.ref a) { s with heap:=h' }
theorem znu{C:Addr}{W:Hp→Prop}(hex:X.ex=[])(T:Thr X C W):zd7 (CX1 X.prog X.w C) X fun _ _ H'=>W H':=by
 intro pins σ H s e s' I ⟨a,H',he,os,bare,un,hok,hn,hs,⟨B,a0,fl,cov⟩,w⟩
 subst he
 obtain⟨hh,g,d,t,os'⟩:=s'
 obtain rfl:os'=s.os:=os
 have back:∀b o,X.s₀.heap.get? b=some o→∃o',s.heap.get? b=some o':=fun b o e=>I.base.there b o e (by rw[hex];simp)
 refine T pins σ H' _ a (I.call (h':=hh) (g':=g) (d':=d) (t':=t) (ch:=[]) un hok bare fun b z=>absurd z (by simp)) hn ?_ ⟨B,a0,fl,fun b o hb e n=>cov b o (hb.imp (fun⟨o',e'⟩=>back b o' e') id) e n⟩ w
 cases q:X.s₀.heap.get? a with
 | none=>rfl
 | some o=>
  obtain⟨o',e'⟩:=back a o q
  rw[hs] at e'
  cases e'
end
section
variable {P:Program} {w:World} {K:PySem.W.Frag} {mg:Str→Option Value} {base:Heap} {N:List Str} {qual:Str} {scope:Scope} {f C:Addr} {cd:Value} {A:Around} {outer:List Env} {s0:Shared} {H0:Hp} {E:XK}
theorem zb0:Thr (zfP (CX1 P w C) P w K mg base N qual scope f cd A outer s0 H0 E) C fun H'=>∀a,E (.ref a) none H':=by
 intro pins σ H s a I hn h0 ⟨B,a0,fl,cov⟩ hw
 refine wpAny_leaves_onW (base:=B) (outer:=outer) (cls:=.ref C) (a0:=a0) I.ok.frames rfl fl fun h' fl' up=>?_
 obtain⟨un,hok,cv⟩:=I.gone rfl rfl rfl fl'.1 cov up
 exact⟨a,H,rfl,I.os,I.bare,un,hok,hn,h0,⟨B,a0,fl',cv⟩,hw a⟩
theorem zk8:znt (zfP (CX1 P w C) P w K mg base N qual scope f cd A outer s0 H0 E) C fun H'=>∀a,E (.ref a) none H':=by
 intro pins σ H s h' a vs I hx hw
 have I':Inv (zfP (CX1 P w C) P w K mg base N qual scope f cd A outer s0 H0 E) pins σ H { s with heap:=h' }:=I.kept (t':=s.toks) hx.keeps
 have fu:=I.env0.funs
 have no:∀b,Cov s0 H b→b≠a:=fun b hb z=>by
  obtain⟨o,e⟩:=I.there rfl hb
  rw[z,hx.new] at e
  cases e
 refine wpAny_leaves_madeW (base:=PySem.W.hideAll s.heap (frs (envOfC qual scope s0.heap.objs.size f cd::outer))) (h:=s.heap) (cls:=.ref C) (args:=vs) I.ok.frames rfl (fun b o q=>PySem.W.of_hideAll _ q) (PySem.W.funFrames_hide fu fun env he b hb=>List.mem_filterMap.mpr ⟨env,he,hb⟩) hx fun h2 t fl' tup bt up=>?_
 have cov:∀b o,Cov s0 H b→h'.get? b=some o→b∉frs (envOfC qual scope s0.heap.objs.size f cd::outer)→(PySem.W.hideAll s.heap (frs (envOfC qual scope s0.heap.objs.size f cd::outer))).get? b=some o:=fun b o hb e n=>by
  obtain⟨o1,e1⟩:=I.there rfl hb
  have:=hx.keeps b o1 e1
  rw[e] at this
  cases this
  exact PySem.W.hideAll_get _ e1 n
 obtain⟨un,hok,cv⟩:=I'.gone rfl rfl rfl fl'.1 cov up
 refine⟨a,H,rfl,I.os,I.bare,un,hok,?_,?_,⟨_,_,fl',cv⟩,hw a⟩
 ·cases q:H a with
  | none=>rfl
  | some u=>exact absurd rfl (no a (.inr (by rw[q];exact nofun)))
 ·cases q:s0.heap.get? a with
  | none=>rfl
  | some u=>exact absurd rfl (no a (.inl ⟨u,q⟩))
end
section
variable {X:Cx} {pos:Pos} {te:TE} {e0:Expr} {W:Hp→Prop}
noncomputable def zmu(W:Hp→Prop)(te:TE):TS:=fun _ σ H=>te σ H fun x H1=>[x].length=1∧W H1
structure OwnIn (K:PySem.W.Frag) (mg:Str→Option Value) (x:Str) (C:Addr) (bmB:List Value) (newId:String):Prop where
 bound:mg x=some (.ref C)
 exc:PySem.W.excIn K C bmB newId=true
theorem OwnIn.at{K:PySem.W.Frag}{mg:Str→Option Value}{x:Str}{C:Addr}{bmB:List Value}{newId:String}{h:Heap}(o:OwnIn K mg x C bmB newId)(ki:K.In h):OwnCls x C bmB newId mg h:=by
 obtain⟨hb,z⟩:=o
 unfold PySem.W.excIn at z
 split at z
 ·rename_i d1 c1 s1 look
  split at z
  ·rename_i c2 mr e0 e1 e2 e3 nn e5 he hz
   simp only[Bool.and_eq_true,beq_iff_eq,Bool.not_eq_true'] at z
   obtain⟨⟨⟨⟨⟨z1,z2⟩,z3⟩,z4⟩,z5⟩,z6⟩:=z
   subst z1 z2
   cases c1
   dsimp only at he z3 z5 z6
   subst he z3
   obtain rfl:s1=#[e0,e1,e2,e3,some (.builtin nn),e5]:=by
    cases s1
    simp only at hz
    rw[hz]
   exact⟨hb,_,_,_,_,_,_,_,_,_,_,_,_,_,_,_,_,_,ki _ _ look,.of_isNs (PySem.W.isNs_of_in ki z5),PySem.W.nsMap_none_of_in ki z5 z6,PySem.W.tail_of_in ki z4⟩
  ·cases z
 ·cases z
theorem zjK{C:Addr}{x:Str}{bmB:List Value}{newId B initId:String}{np cpos:Pos}(O:OwnIn X.K X.mg x C bmB newId)(FB:ExcBaseFacts B newId initId bmB)(hc:X.calm=true)(T:znt X C W)(he:PE X e0 te)(hg:Gl X x:=by rfl)(hd:(x==("__debug__":Str))=false:=by decide)
  (hs:starEach [e0] X.env=(false,eval e0 X.env)::starEach [] X.env:=by rfl) (hp:(backTo cpos (starEach [] X.env)).any (·.1)=false:=by rfl):PS X (.Raise (some (.Call (.Name x np) [e0] [] cpos)) none pos) (zmu W te):=by
 intro pins s σ H D I h
 have O:=O.at I.ok.mod.kin
 obtain⟨tl,Nn,nm,q,bs,hdct,sn,sub,ab,col,dd,k0,k1,k2,k3,k5,mN,hC,hN,hni,OT⟩:=O.obj
 refine wpAny_Raise_call_subT (C:=C) (nm:=nm) (q:=q) (N:=Nn) (bs:=bs) (bm:=tl) (hdct:=hdct) (sn:=sn) (sub:=sub) (ab:=ab) (col:=col) (dd:=dd) (k0:=k0) (k1:=k1) (k2:=k2) (k3:=k3) (k5:=k5) FB (mN:=mN) (OT.hasType FB.hasBase) (I.ok.hd hc) ?_ hni (zcy I hg O.bound ⟨rfl,?_⟩ hd)
 ·rw[hs]
  exact hp
 ·have hpa:PA X [e0] (zlT te znA):=zfO he zhv hs
  have run:=hpa cpos pins s σ H (fun vs H1=>vs.length=1∧W H1) I h
  rw[hs] at run ⊢
  refine Calls.evalArgs_plain (thn run fun us s2 ⟨vs,H1,I1,r,hl,hw⟩=>⟨rfl,?_,I1.bk _ _ hC,hN.keeps I1.bk,OT.keeps I1.bk,fun h' a hm=>T pins σ H1 s2 h' a us I1 hm hw⟩)
  show us.length≤sizeLine
  rw[←r.length,hl]
  decide
end
end L2
namespace L2
open PySem PySem.Spec PyProof.Rows
noncomputable abbrev SpX:=List D→(R→Prop)→Prop→Prop
noncomputable def PSpX(K:PySem.W.Frag)(n:Nat)(t:SpX):Sp:=fun vs H Q E=>∃G ds Qr Qx,Same G H∧Reps K G vs ds∧ds.length=n∧t ds Qr Qx∧(∀v H' r G',Ext G H G' H'→RepR K G' H' H v r→Qr r→Q v H')∧∀G' H',Ext G H G' H'→Qx→∀a,E (.ref a) none H'
structure KnownX (P:Program) (w:World) (K:PySem.W.Frag) (mg:Str→Option Value) (base:Heap) (C:Addr) (k:Nat) (x:Str) (n:Nat) (t:SpX):Prop where
 ex:∃(f:Addr) (fd:FuncData) (ps:List Str),FnOk P w K mg base (CX1 P w C) k f fd ps (PSpX K n t)∧mg x=some (.ref f)∧PySem.W.keepIn K (.ref f)=true∧Binds K fd ps []
section
variable {X:Cx} {W:Hp→Prop} {Qx:Prop} {pos:Pos} {e:Expr} {es:List Expr} {te:TD} {ts:TDa}
noncomputable def PDw(X:Cx)(W:Hp→Prop)(Qx:Prop)(e:Expr)(t:TD):Prop:=∃tt,PE X e tt∧∀(ρ:Ev) (σ:St) (G0 H0 G H:Hp) (Q:R→Prop) (P:VK),EOk X.K G0 H0 ρ σ G H→t ρ Q→(∀v H' r G',Ext G H G' H'→RepR X.K G' H' H v r→Q r→P v H')→(∀G' H',Ext G0 H0 G' H'→Qx→W H')→tt σ H P
noncomputable def PXw(X:Cx)(W:Hp→Prop)(Qx:Prop)(st:Stmt)(t:TX):Prop:=∃tt,PS X st tt∧∀(ρ:Ev) (σ:St) (G0 H0 G H:Hp) (D:DE) (E:Ends),EOk X.K G0 H0 ρ σ G H→t D ρ→Goes X.K G0 H0 G D E→(∀G' H',Ext G0 H0 G' H'→Qx→W H')→tt E σ H
noncomputable def zk9(X:Cx)(W:Hp→Prop)(Qx:Prop)(st:List Stmt)(t:TX):Prop:=∃tt,PSs X st tt∧∀(ρ:Ev) (σ:St) (G0 H0 G H:Hp) (D:DE) (E:Ends),EOk X.K G0 H0 ρ σ G H→t D ρ→Goes X.K G0 H0 G D E→(∀G' H',Ext G0 H0 G' H'→Qx→W H')→tt E σ H
theorem zgE{st:Stmt}{t:TX}(h:PX X st t):PXw X W Qx st t:=let⟨tt,p,q⟩:=h;⟨tt,p,fun ρ σ G0 H0 G H D E k h g _=>q ρ σ G0 H0 G H D E k h g⟩
theorem zla{sts:List Stmt}{t:TX}(h:PXs X sts t):zk9 X W Qx sts t:=let⟨tt,p,q⟩:=h;⟨tt,p,fun ρ σ G0 H0 G H D E k h g _=>q ρ σ G0 H0 G H D E k h g⟩
theorem zaJ{st:Stmt}{sts:List Stmt}{t u:TX}(h1:PXw X W Qx st t)(h2:zk9 X W Qx sts u):zk9 X W Qx (st::sts) (za1 t u):=by
 obtain⟨t1,p1,q1⟩:=h1
 obtain⟨t2,p2,q2⟩:=h2
 exact⟨_,zej p1 p2,fun ρ σ G0 H0 G H D E k h g hw=>q1 ρ σ G0 H0 G H _ _ k h ⟨fun ρ' σ' G' H' s' k' h'=>q2 ρ' σ' G0 H0 G' H' D E k' h' (g.shift s') hw,g.rt,g.bk,g.ct⟩ hw⟩
theorem zc7{st:Stmt}{t:TX}(h1:PXw X W Qx st t):zk9 X W Qx [st] t:=let⟨t1,p1,q1⟩:=h1;⟨_,zfM p1,q1⟩
theorem zmv{c:Expr}{a b:List Stmt}{tc:TDb}{t u:TX}(hc:PB X c tc)(ha:zk9 X W Qx a t)(hb:zk9 X W Qx b u):PXw X W Qx (.If c a b pos) (xIf tc t u):=by
 obtain⟨t0,p0,q0⟩:=hc
 obtain⟨t1,p1,q1⟩:=ha
 obtain⟨t2,p2,q2⟩:=hb
 refine⟨_,zlH p0 p1 p2,fun ρ σ G0 H0 G H D E k h g hw=>q0 ρ σ G0 H0 G H _ _ k h fun b H' G' x hq=>?_⟩
 cases b with
 | true=>
  rw[if_pos rfl] at hq ⊢
  exact q1 ρ σ G0 H0 G' H' D E (k.ext x) hq (g.shift x.g) hw
 | false=>
  rw[if_neg Bool.false_ne_true] at hq ⊢
  exact q2 ρ σ G0 H0 G' H' D E (k.ext x) hq (g.shift x.g) hw
theorem zbf(h:PDw X W Qx e te)(hs:swapsWith e none pos.line X.env=pure false:=by rfl):PXw X W Qx (.Expr e pos) (zbo te):=by
 obtain⟨t,p,q⟩:=h
 exact⟨_,zfN p hs,fun ρ σ G0 H0 G H D E k h g hw=>q ρ σ G0 H0 G H _ _ k h (fun v H' r G' x rr hq=>g.nx ρ σ G' H' x.g (k.ext x) hq) hw⟩
noncomputable def zim(Qx:Prop)(te:TD):TX:=fun _ ρ=>te ρ fun _=>Qx
theorem zjL{C:Addr}{x:Str}{bmB:List Value}{newId B initId:String}{np cpos:Pos}(O:OwnIn X.K X.mg x C bmB newId)(FB:ExcBaseFacts B newId initId bmB)(hc:X.calm=true)(T:znt X C W)(he:PD X e te)(hg:Gl X x:=by rfl)(hd:(x==("__debug__":Str))=false:=by decide)
  (hs:starEach [e] X.env=(false,eval e X.env)::starEach [] X.env:=by rfl) (hp:(backTo cpos (starEach [] X.env)).any (·.1)=false:=by rfl):PXw X W Qx (.Raise (some (.Call (.Name x np) [e] [] cpos)) none pos) (zim Qx te):=by
 obtain⟨tt,p,q⟩:=he
 exact⟨_,zjK O FB hc T p hg hd hs hp,fun ρ σ G0 H0 G H D E k h g hw=>q ρ σ G0 H0 G H _ _ k h fun v H' r G' x rr hq=>⟨rfl,hw G' H' (k.e.trans x) hq⟩⟩
noncomputable def zbC(n:Nat)(t:SpX)(Qx:Prop)(ts:TDa):TD:=fun ρ Q=>ts ρ fun ds=>ds.length=n∧t ds Q Qx
theorem zaY{C:Addr}{k k' n:Nat}{t:SpX}{x:Str}{p:Pos}(F:KnownX X.prog X.w X.K X.mg X.base C k x n t)(hr:Room k' X.A)(hex:X.ex=[])(T:Thr X C W)(ha:PDa X (e::es) ts)(hk:k≤k':=by decide)(hg:Gl X x:=by rfl)(hdb:(x==("__debug__":Str))=false:=by decide)
  (he:starEach (e::es) X.env=(false,eval e X.env)::starEach es X.env:=by rfl) (hpl:(backTo pos (starEach es X.env)).any (·.1)=false:=by rfl):PDw X W Qx (.Call (.Name x p) (e::es) [] pos) (zbC n t Qx ts):=by
 obtain⟨f,fd,ps,F,hm,kp,hb⟩:=F.ex
 obtain⟨tt,pp,q⟩:=ha
 refine⟨_,zhw F (hr.mono hk) hg hm kp hb .nil (znu hex T) pp hdb he hpl,fun ρ σ G0 H0 G H Q P E h k hw=>q ρ σ G0 H0 G H _ _ E h fun vs H' ds G' y rs hq=>?_⟩
 rw[List.append_nil]
 exact⟨G',ds,Q,Qx,y.s,rs,hq.1,hq.2,fun v H2 r G2 x2 rr q2=>k v H2 r G2 (y.trans x2) (rr.older y.h) q2,fun G2 H2 x2 qx _=>hw G2 H2 ((E.e.trans y).trans x2) qx⟩
end
section
variable {P:Program} {w:World} {K:PySem.W.Frag} {mg:Str→Option Value} {base:Heap}
theorem zdo{C:Addr}{x:Str}{st:Stmt}{N ps:List Str}{t:SpX}{T:Prop→TX}{n d:Nat}(k:Nat)(A:At K mg x st)(S:FnScope N ps (defScope st))
  (body:∀(Qx:Prop) (f:Addr) (cdv:Value) (A:Around) (outer:List Env) (s:Shared) (H:Hp) (E:XK),Room k (A.deeper (envOfC x (defScope st) s.heap.objs.size f cdv))→zk9 (zfP (CX1 P w C) P w K mg base N x (defScope st) f cdv A outer s H E) (fun H'=>∀a,E (.ref a) none H') Qx (defBody st) (T Qx))
  (spec:∀(ds:List D) (Qr:R→Prop) (Qx:Prop),ds.length=n→t ds Qr Qx→T Qx { nx:=fun _=>Qr (.fz .non),rt:=Qr } (zay N ds))
  (b:∀(kV doc pm:Value) (an:Option Addr) (cdv ct:Value) (us:List Value),us.length=n→bindArgs (PySem.W.fnOf x x (defArgs st) (defBody st) (defScope st) .none kV doc pm an cdv ct) ⟨us,[]⟩=pure (ps.zip us)) (hn:ps.length=n:=by rfl) (hd:k+1=d:=by rfl):KnownX P w K mg base C d x n t:=by
 subst hn hd
 obtain⟨f,fd,F,hm⟩:=A.ex
 refine⟨f,fd,ps,?_,hm,F.kp,F.binds b⟩
 obtain⟨oc,od,kV,doc,pm,an,cdv,ct,osl,rfl,lk,hcd⟩:=F.ex
 refine zlX lk hcd S (fun vs H Q E h=>?_) fun A outer s H vs Q E hr h=>?_
 ·obtain⟨G,ds,Qr,Qx,_,r,hl,_⟩:=h
  rw[r.length,hl]
 ·obtain⟨G,ds,Qr,Qx,s0,r,hl,ht,k0,kx⟩:=h
  obtain⟨tt,p,q⟩:=body Qx f cdv A outer s H E hr
  exact⟨tt,p,q _ _ G H G H _ _ (zeu s0 r) (spec ds Qr Qx hl ht) ⟨fun ρ σ G' H' _ e h=>k0 _ H' _ G' e.e (fzR (zfT _ _)) h,k0,fun _ _ _ _ _ _ h=>h.elim,fun _ _ _ _ _ _ h=>h.elim⟩ kx⟩
end
end L2
namespace L2
open PySem PySem.Spec PyProof.Rows
theorem zmw{P:Program}{w:World}{fs:List Addr}{H H':Hp}{h h1 h2 B:Heap}(u:Un fs [] H H' h h1)(fr:∀b∈fs,H b=none∧∃o,h.get? b=some o∧∀vs,o.data≠.fields vs)(st:B.StaysIn h2)
  (cov:∀b o,((∃o,h.get? b=some o)∨H' b≠none)→h1.get? b=some o→b∉fs→B.get? b=some o) (up:h1.UpToSlots h2) (hok:HOk P w H' h1):Un fs [] H H' h h2∧HOk P w H' h2:=by
 have same:∀b o,((∃o,h.get? b=some o)∨H' b≠none)→b∉fs→h1.get? b=some o→h2.get? b=some o:=fun b o hb n e=>st b o (cov b o hb e n)
 have slot:∀b∈fs,∀o,h.get? b=some o→∃sl,h2.get? b=some { o with slots:=sl }:=fun b hb o e=>by
  obtain⟨n,o',e',hd⟩:=fr b hb
  rw[e] at e'
  cases e'
  obtain⟨sl,e1⟩:=u.slot b o e n hb (by simp)
  obtain⟨sl2,e2⟩:=up b _ e1 hd
  exact⟨sl2,e2⟩
 have nf:∀b,H' b≠none→b∉fs:=fun b hb m=>by
  obtain⟨n,o,e,_⟩:=fr b m
  exact hb (u.free b o e n (by simp))
 refine⟨⟨fun b o e n hb _=>same b o (.inl ⟨o,e⟩) hb (u.keep b o e n hb (by simp)),fun b o e n hb _=>slot b hb o e,fun b o e n _=>u.free b o e n (by simp),fun b o e _=>?_,u.tups,u.frzs,u.tbls⟩,fun a v e=>?_⟩
 ·by_cases hb:b∈fs
  ·obtain⟨sl,e2⟩:=slot b hb o e
   exact⟨_,e2⟩
  ·obtain⟨o',e1⟩:=u.there b o e (by simp)
   exact⟨o',same b o' (.inl ⟨o,e⟩) hb e1⟩
 ·refine(hok a v e).stay (fun b q hb hq=>?_) (fun _ z=>z) fun _ _ z=>z
  have hn:H' b≠none:=by
   rcases hb with rfl | hb
   ·rw[e];exact nofun
   ·rw[hb];exact nofun
  exact same b q (.inr hn) (nf b hn) hq
section
variable {X:Cx}
noncomputable abbrev Cx.inExc(X:Cx)(a:Addr):Cx:={ X with A:=X.A.mark (some (.ref a)),calm:=false }
theorem Inv.inExc{pins:List (Addr×Obj)}{σ:St}{H:Hp}{s:Shared}(I:Inv X pins σ H s)(a:Addr):Inv (X.inExc a) pins σ H s:=
 ⟨⟨I.ok.mod,I.ok.kind,I.ok.glob,I.ok.blt,I.ok.above,I.ok.inj,I.ok.has,I.ok.cab,fun z=>(by cases z),I.ok.frames,I.ok.stk,I.ok.exf,I.ok.bs,I.ok.bsz,I.ok.noex,I.ok.exfs,I.ok.funs,I.ok.frf⟩,I.os,I.bare,I.base,I.loc,I.cell,I.free,I.freeC,I.pin,I.hok,I.len⟩
theorem Inv.outExc{pins:List (Addr×Obj)}{σ:St}{H:Hp}{s:Shared}{a:Addr}(ok:X.Ok)(I:Inv (X.inExc a) pins σ H s):Inv X pins σ H s:=
 ⟨ok,I.os,I.bare,I.base,I.loc,I.cell,I.free,I.freeC,I.pin,I.hok,I.len⟩
theorem zlb{pins:List (Addr×Obj)}{σ:St}{H:Hp}{s:Shared}{Q:VK}{E:XK}{Ex:Value→Shared→Prop}{us ds:List Value}{vs dvs:List V}{k:Nat}{f C:Addr}{fd:FuncData}{ps:List Str}{sp:Sp}(F:FnOk X.prog X.w X.K X.mg X.base (CX1 X.prog X.w C) k f fd ps sp)(hr:Room k X.A)(hb:Binds X.K fd ps ds)(hd:Vals dvs ds)
  (I:Inv X pins σ H s) (r:Vals vs us) (h:sp (vs++dvs) H Q E) (hx:∀e s',CX1 X.prog X.w C X.stack H s E e s'→Ex e s'):wpAny (model X.prog X.w) X.A (call (.ref f) us) (EP X pins σ Q) Ex s:=by
 have r2:Vals (vs++dvs) (us++ds):=r.append hd
 have hl:(us++ds).length=ps.length:=by rw[←r2.length];exact F.len _ _ _ _ h
 refine wpAny_call (codeAny_mono (F.run X.A X.stack s H ⟨us,[]⟩ (us++ds) (vs++dvs) Q E hr I.env0 (hb s us I.kIn hl) r2 h) fun r s' hq=>?_)
 cases r with
 | error e=>exact hx e s' hq
 | ok fl=>
  cases fl with
  | ret u=>exact I.after hq
  | next=>exact False.elim hq
  | brk=>exact False.elim hq
  | cont=>exact False.elim hq
theorem zmx{pins:List (Addr×Obj)}{σ:St}{H:Hp}{s s':Shared}{E:XK}{e:Value}{C:Addr}{x:Str}{np pos:Pos}{b0:Stmt}{suite:List Stmt}{Q:Flow→Shared→Prop}{bmB:List Value}{newId:String}(I:Inv X pins σ H s)(hx:CX1 X.prog X.w C X.stack H s E e s')(O:OwnCls x C bmB newId X.mg X.base)(hB:bmB.contains (.type "BaseException")=true)
  (hst:X.stack=X.env::X.outer) (hf:X.env.frame=some X.env.locals) (hg:Gl X x) (hd:(x==("__debug__":Str))=false)
  (k:∀a H' s2,E (.ref a) none H'→Inv X pins σ H' s2→wpAny (model X.prog X.w) (X.A.mark (some (.ref a))) (execs (b0::suite) X.env) Q (fun _ _=>False) s2) :
  wpAny (model X.prog X.w) X.A (noteFrame e X.env) (fun _ s₂=>wpAny (model X.prog X.w) X.A (setFlight e none) (fun _ s₃=>wpAny (model X.prog X.w) X.A (handleBy e X.env [.ExceptHandler (some (.Name x np)) none (b0::suite) pos]) Q (fun _ _=>False) s₃) (fun _ _=>False) s₂) (fun _ _=>False) s':=by
 obtain⟨a,H',rfl,os,bare,un,hok,hn,hs,⟨B,a0,fl,cov⟩,hE⟩:=hx
 obtain⟨tl,Nn,nm,q,bs,hdct,sn,sub,ab,col,dd,k0,k1,k2,k3,k5,mN,hC,hN,hni,OT⟩:=O.obj
 have fr:∀b∈frs X.stack,H b=none∧∃o,s.heap.get? b=some o∧∀vs,o.data≠.fields vs:=fun b hb=>⟨I.env0.frf b hb,(I.env0.funs.mem hb).2⟩
 have after:∀h2,B.StaysIn h2→s'.heap.UpToSlots h2→Inv X pins σ H' { s' with heap:=h2 }:=fun h2 st up=>by
  obtain⟨un2,hok2⟩:=zmw un fr st cov up hok
  obtain⟨hh,g,d,t,os'⟩:=s'
  obtain rfl:os'=s.os:=os
  have J:Inv X pins σ H' { s with heap:=h2,gens:=g,drawn:=d,toks:=t }:=I.call (ch:=[]) un2 hok2 bare fun b z=>absurd z (by simp)
  exact J
 have fl':=fl
 rw[hst] at fl'
 refine wpAny_looks_onW (by rw[←hst];exact I.ok.frames) hf fl' fun h2 held up2=>?_
 refine wpAny_landsW held fun h3 fl3 up3=>?_
 have I3:=after h3 fl3.1 (up2.trans up3)
 obtain⟨ob,hob,hobc⟩:=fl3.there
 refine wpAny_handleBy_cons (codeAny_handlers_test (zcy (I3.inExc a) hg O.bound ?_ hd)) (by intro q;cases q)
 refine wpAny_excMatches_sub_self (I3.bk _ _ hC) hob hobc (OT.hasType hB) (codeAny_handlers_suite ?_)
 refine lands_againW fl3 fun h4 fl4 up4=>?_
 have I4:=after h4 fl4.1 ((up2.trans up3).trans up4)
 exact wpAny_mono (k a H' _ hE I4) (fun _ _ z=>z) fun _ _ z=>z.elim
end
end L2
namespace L2
open PySem PySem.Spec PyProof.Rows
section
variable {X:Cx} {pos:Pos} {e:Expr} {es:List Expr} {ts:TDa}
noncomputable def znv(i j n:Nat)(t:SpX)(ts:TDa)(b:Bool):TX:=fun D ρ=>ts ρ fun ds=>ds.length=n∧t ds (fun r=>D.nx (ρ.set i r.sl)) (D.nx (ρ.set j (.fz (.bl b))))
theorem zmy(i j:Nat){C:Addr}{k k' n:Nat}{t:SpX}{b:Bool}{f x y ex:Str}{kk}{p1 p2 p3 p4 p5 p6 p7 p8 p9:Pos}{bmB:List Value}{newId:String}(F:KnownX X.prog X.w X.K X.mg X.base C k f n t)(hr:Room k' X.A)(O:OwnIn X.K X.mg ex C bmB newId)(hB:bmB.contains (.type "BaseException")=true)(hxe:X.xe=fun _ _=>False)(hN:X.N.Nodup)(ha:PDa X (e::es) ts)
  (hst:X.stack=X.env::X.outer:=by rfl) (hfr:X.env.frame=some X.env.locals:=by rfl) (hk:k≤k':=by decide) (hg:Gl X f:=by rfl) (hdb:(f==("__debug__":Str))=false:=by decide) (hgx:Gl X ex:=by rfl) (hdx:(ex==("__debug__":Str))=false:=by decide)
  (he:starEach (e::es) X.env=(false,eval e X.env)::starEach es X.env:=by rfl) (hpl:(backTo p3 (starEach es X.env)).any (·.1)=false:=by rfl)
  (hi:X.N[i]?=some x:=by rfl) (hx:Loc X.env.scope x:=by first | exact Or.inl rfl | exact Or.inr rfl) (hs:swapsWith (.Call (.Name f p2) (e::es) [] p3) (some (.Name x p1)) p4.line X.env=pure false:=by rfl) (hf:X.fn x=true∨X.env.scope.names.lookup x=some .local:=by first | exact .inl rfl | exact .inr rfl)
  (hj:X.N[j]?=some y:=by rfl) (hy:Loc X.env.scope y:=by first | exact Or.inl rfl | exact Or.inr rfl) (hsy:∀a,swapsWith (.Constant (.bool b) kk p7) (some (.Name y p6)) p8.line (X.inExc a).env=pure false:=by intro _;rfl) (hfy:X.fn y=true∨X.env.scope.names.lookup y=some .local:=by first | exact .inl rfl | exact .inr rfl) :
  PX X (.Try [.Assign [.Name x p1] (.Call (.Name f p2) (e::es) [] p3) p4] [.ExceptHandler (some (.Name ex p5)) none [.Assign [.Name y p6] (.Constant (.bool b) kk p7) p8] p9] [] [] pos) (znv i j n t ts b):=by
 obtain⟨fa,fd,ps,F,hm,kp,hb⟩:=F.ex
 obtain⟨tt,pp,q⟩:=ha
 refine⟨fun D σ H=>tt σ H fun vs H1=>PSpX X.K n t vs H1 (fun v H2=>D.nx (σ.set i (some v)) H2) (fun _ _ H2=>D.nx (σ.set j (some (.bl b))) H2),fun pins s σ H D I h=>?_,fun ρ σ G0 H0 G H D E k h g=>?_⟩
 ·refine wpAny_Try_except ?_
  rw[hxe]
  have args:=pp p3 pins s σ H _ I h
  rw[hxe] at args
  refine wpAny_execs_cons (wpAny_mono (Q:=fun f s1=>f=.next∧∃v H2,Inv X pins (σ.set i (some v)) H2 s1∧D.nx (σ.set i (some v)) H2) (wpAny_Assign_Name (wpAny_mono (Q:=EP X pins σ fun v H2=>D.nx (σ.set i (some v)) H2) (wpAny_Call_Name_kw (zcy I hg hm ?_ hdb)) (fun v s1 z=>?_) fun _ _ z=>z) hs) (fun f s1 z=>?_) fun _ _ z=>z)
  ·refine PySem.W.callWith_K (h₀:=X.base) I.ok.mod.kin kp (wpAny_mono args (fun us s1 z=>?_) fun _ _ z=>z.elim) he hpl
   obtain⟨vs,H1,I1,r,z⟩:=z
   refine⟨I1.kIn,zlb F (hr.mono hk) hb .nil I1 r (by rw[List.append_nil];exact z) fun e' s' hc=>?_⟩
   refine zmx I1 hc (O.at I1.ok.mod.kin) hB hst hfr hgx hdx fun a H' s2 hE I2=>?_
   have st:PSs (X.inExc a) [.Assign [.Name y p6] (.Constant (.bool b) kk p7) p8] (znb (tC (.bl b)) (zi1 j)):=zfM (zhk hN hj hy zly (hsy a) hfy)
   have run:=st pins s2 σ H' D (I2.inExc a) hE
   refine wpAny_mono run (fun f s3 z=>?_) fun _ _ z=>?_
   ·cases f with
    | next=>
     obtain⟨σ',H2,I3,z⟩:=z
     exact⟨σ',H2,I3.outExc I.ok,z⟩
    | brk=>
     obtain⟨σ',H2,I3,z⟩:=z
     exact⟨σ',H2,I3.outExc I.ok,z⟩
    | cont=>
     obtain⟨σ',H2,I3,z⟩:=z
     exact⟨σ',H2,I3.outExc I.ok,z⟩
    | ret u=>
     obtain⟨v,σ',H2,I3,r3,z⟩:=z
     exact⟨v,σ',H2,I3.outExc I.ok,r3,z⟩
   ·rw[show(X.inExc a).xe=X.xe from rfl,hxe] at z
    exact z
  ·obtain⟨u,H2,I2,r2,z2⟩:=z
   exact zbR I2 hN hi hx r2 (fun s2 I3=>⟨rfl,u,H2,I3,z2⟩) hf
  ·obtain⟨rfl,v,H2,I2,z2⟩:=z
   exact wpAny_execs_nil (wpAny_execs_nil ⟨_,H2,I2,z2⟩)
 ·refine q ρ σ G0 H0 G H _ _ k h fun vs H' ds G' x1 rs hq=>?_
  refine⟨G',ds,_,_,x1.s,rs,hq.1,hq.2,fun v H2 r G2 x2 rr z=>g.nx _ _ G2 H2 (x1.g.trans x2.g) (k.put (x1.trans x2) (rr.older x1.h)) z,fun G2 H2 x2 z a=>?_⟩
  have k2:=k.ext (x1.trans x2)
  exact g.nx _ _ G2 H2 (x1.g.trans x2.g) (k.put (x1.trans x2) (r:=.fz (.bl b)) (fzR (za4 _ _ _))) z
end
end L2
namespace L2
open PySem PySem.Spec PyProof.Rows
noncomputable def zef(lo hi st:Option Int)(n:Nat):List Nat:=sliceRange (sliceBounds lo hi st n).1 (sliceBounds lo hi st n).2.1 (sliceBounds lo hi st n).2.2
noncomputable def zfY{α:Type}(xs:List α)(lo hi st:Option Int):List α:=(zef lo hi st xs.length).filterMap fun i=>xs[i]?
theorem Vals.pick{xs:List V}{us:List Value}(r:Vals xs us):∀ix:List Nat,Vals (ix.filterMap fun i=>xs[i]?) (ix.filterMap fun i=>us[i]?)
 | []=>.nil
 | i::t=>by
  have ih:=Vals.pick r t
  rw[List.filterMap_cons,List.filterMap_cons]
  cases e:xs[i]? with
  | none=>
   have:us[i]?=none:=by
    rw[List.getElem?_eq_none_iff] at e ⊢
    rw[←r.length];exact e
   rw[this]
   exact ih
  | some v=>
   obtain⟨u,hu,ru⟩:=r.get e
   rw[hu]
   exact .cons ru ih
theorem Reps.pick{K:PySem.W.Frag}{G:Hp}{xs:List V}{ds:List D}(r:Reps K G xs ds):∀ix:List Nat,Reps K G (ix.filterMap fun i=>xs[i]?) (ix.filterMap fun i=>ds[i]?)
 | []=>Reps.nil
 | i::t=>by
  have ih:=Reps.pick r t
  rw[List.filterMap_cons,List.filterMap_cons]
  cases e:ds[i]? with
  | none=>
   have:xs[i]?=none:=by
    rw[List.getElem?_eq_none_iff] at e ⊢
    rw[r.length];exact e
   rw[this]
   exact ih
  | some d=>
   obtain⟨v,hv,rv⟩:=r.get e
   rw[hv]
   exact Reps.cons rv ih
section
variable {X:Cx} {e s3:Expr} {te:TD} {lo hi:Option Expr} {tl th:TOd} {pos p2:Pos}
noncomputable def zoe(K:PySem.W.Frag)(k:Int)(te:TE)(tl th:TO):TE:=fun σ H Q=>te σ H fun x H1=>tl σ H1 fun l H2=>th σ H2 fun u H3=>∃a xs,x=.ref a∧SqL K H3 a xs∧(zef l u (some k) xs.length).length≤sizeLine∧∀p,H3 p=none→Q (.ref p) (upd H3 p (.lst (zfY xs l u (some k))))
theorem zin{k:Int}{kk}{p3:Pos}{te:TE}{tl th:TO}(hk:k≠0)(he:PE X e te)(hl:PO X lo tl)(hu:PO X hi th):PE X (.Subscript e (.Slice lo hi (some (.Constant (.int k) kk p3)) p2) pos) (zoe X.K k te tl th):=by
 intro pins s σ H Q I h
 have hst:PO X (some (.Constant (.int k) kk p3)) (zlY (tC (.int k))):=zhz zjX
 refine Subscript_ (thn (he pins s σ H _ I h) fun v s1 z=>?_)
 obtain⟨x,H1,I1,r1,q1⟩:=z
 refine wpAny_Slice (thn (hl pins s1 σ H1 _ I1 q1) fun vl s2 z2=>?_)
 obtain⟨l,H2,I2,pl,q2⟩:=z2
 refine thn (hu pins s2 σ H2 _ I2 q2) fun vu s3 z3=>?_
 obtain⟨u,H3,I3,pu,q3⟩:=z3
 refine thn (hst pins s3 σ H3 (fun o H4=>o=some k∧H4=H3) I3 ⟨k,rfl,rfl,rfl⟩) fun vs s4 z4=>?_
 obtain⟨o4,H4,I4,ps,e4,e5⟩:=z4
 subst e4 e5
 obtain⟨a,xs,rfl,hx,hz,q⟩:=q3
 cases r1
 have I5:Inv X pins σ _ { s4 with heap:=s4.heap.push { cls:=.type "slice",data:=.fields #[vl,vu,vs] } }:=I4.kept (t':=s4.toks) fun b ob q=>Heap.get?_push_of_some _ q
 obtain⟨its,r,ht,hz2⟩:=I5.list hx
 show wpAny (model X.prog X.w) X.A (subscriptTail e (.Slice lo hi (some (.Constant (.int k) kk p3)) p2) (.ref a) (.ref s4.heap.objs.size)) (EP X pins σ Q) X.xe _
 refine tail_any (ops:=[.ref a,.ref s4.heap.objs.size]) ht.isList.typeIs slot_list_getitem.lookup ?_ (by with_unfolding_all rfl)
 refine wpAny_getItem_list_slice ht.isList (Heap.IsSliceOf.new ..) pl pu ps (by simpa using hk) ?_ (by rw[List.size_toArray,←r.length];exact hz2)
 have hsz:its.toArray.size=xs.length:=by rw[List.size_toArray];exact r.length.symm
 unfold slicePick
 rw[hsz]
 have hp:=Vals.pick r (zef l u (some k) xs.length)
 have he2:(fun x:Nat=>its.toArray[x]?)=fun i=>its[i]?:=by funext i;simp
 rw[he2]
 refine⟨.ref _,_,I5.lnew (t':=s4.toks) hp ?_,rfl,q _ I5.fresh⟩
 exact Nat.le_trans (List.length_filterMap_le _ _) hz
noncomputable def zmz(k:Int)(te:TD)(tl th:TOd):TD:=fun ρ Q=>te ρ fun r=>tl ρ fun lo=>th ρ fun hi=>match r.val with
 | .lst ds=>(zef lo hi (some k) ds.length).length≤sizeLine∧Q (.ow (zfY ds lo hi (some k)))
 | _=>False
theorem zdp{k:Int}{kk}{p3:Pos}(he:PD X e te)(hl:POd X lo tl)(hh:POd X hi th)(hk:k≠0:=by decide):PD X (.Subscript e (.Slice lo hi (some (.Constant (.int k) kk p3)) p2) pos) (zmz k te tl th):=by
 obtain⟨t1,p1,q1⟩:=he
 obtain⟨t2,p2,q2⟩:=hl
 obtain⟨t3,p3,q3⟩:=hh
 refine⟨_,zin hk p1 p2 p3,fun ρ σ G0 H0 G H Q P E h kp=>q1 ρ σ G0 H0 G H _ _ E h fun v H' r G' x rr hq=>?_⟩
 obtain⟨G1,x1,rv,_⟩:=rr.freeze x
 refine q2 ρ σ G0 H0 G1 H' _ _ (E.ext x1) hq fun lo H2 G2 x2 hq2=>?_
 refine q3 ρ σ G0 H0 G2 H2 _ _ ((E.ext x1).ext x2) hq2 fun hi H3 G3 x3 hq3=>?_
 have x13:=(x1.trans x2).trans x3
 have rv3:=(rv.mono x2.g).mono x3.g
 split at hq3
 ·rename_i ds e1
  rw[e1] at rv3
  simp only[Rep] at rv3
  obtain⟨a,xs,rfl,h1,h2⟩:=rv3
  have hl:=h2.length
  refine⟨a,xs,rfl,(x13.s.rdl h1).sq,by rw[hl];exact hq3.1,fun p hp=>?_⟩
  have rp:=Reps.pick h2 (zef lo hi (some k) xs.length)
  refine kp _ _ (.ow _) G3 (x13.trans (.own x13.s hp)) ⟨p,_,rfl,x13.h.free hp,x13.s.free hp,zal,?_⟩ hq3.2
  unfold zfY
  rw[←hl]
  exact rp
 ·exact hq3.elim
end
section
open PySem.Builtin PySem.Builtin.Str
variable {X:Cx}
noncomputable def zjM:O2:=fun d e Q=>match d,e with
 | .str x,.int n=>x.length≤100∧0≤n∧n<1000∧Q (.fz (.str (Txt.mul x n)))
 | _,_=>False
theorem zmA{x:Str}{n:Int}(h1:x.length≤100)(h2:0≤n)(h3:n<1000):MulOk x n:=by
 refine⟨?_,fun a b=>?_,fun a b=>?_⟩
 ·rw[decide_eq_false (by omega),decide_eq_false (by omega)];rfl
 ·have:100≤(2 ^ 63-1)/n:=Int.le_ediv_of_mul_le (by omega) (by omega)
  omega
 ·unfold tooLong
  simp only[decide_eq_false_iff_not]
  have h4:(100000:Nat)≤sizeLine:=by decide
  have h5:x.length*n.toNat≤100*999:=Nat.mul_le_mul h1 (by omega)
  omega
theorem zmB:OpP X (binaryOp .Mult) zjM:=by
 refine⟨fun x y H Q=>∃(z:Str) (n:Int),x=.str z∧y=.int n∧z.length≤100∧0≤n∧n<1000∧Q (.str (Txt.mul z n)) H,fun pins s σ H x y v u Q I rx ry h=>?_,fun G H x y d e Q P s rx ry h k=>?_⟩
 ·obtain⟨z,n,rfl,rfl,h1,h2,h3,q⟩:=h
  obtain⟨t,rfl⟩:=rx
  obtain⟨t2,rfl⟩:=ry
  exact SB.mul (zmA h1 h2 h3) fun t' kk=>⟨.str _,H,I.tok _,⟨_,rfl⟩,q⟩
 ·unfold zjM at h
  split at h
  ·simp only[Rep] at rx ry
   exact⟨_,_,rx,ry,h.1,h.2.1,h.2.2.1,k _ _ _ G (.refl s) (fzR (zbx _ _ _)) h.2.2.2⟩
  ·exact h.elim
end
end L2
namespace L2
open PySem PySem.Spec PyProof.Rows
section
variable {X:Cx} {pos:Pos}
noncomputable def znw(i j k:Nat)(ta:TA):TS:=fun D σ H=>ta σ H fun vs H1=>∃v w u,vs=[v,w,u]∧D.nx (((σ.set i (some v)).set j (some w)).set k (some u)) H1
theorem znx{v w u:V}{us:List Value}(r:Vals [v,w,u] us):∃a b c,us=[a,b,c]∧RelV v a∧RelV w b∧RelV u c:=by
 cases r with
 | cons p q=>
  cases q with
  | cons p' q'=>
   cases q' with
   | cons p2 q2=>
    cases q2
    exact⟨_,_,_,rfl,p,p',p2⟩
theorem zlc{i j k:Nat}{x y z:Str}{a b c:Expr}{ta:TA}{px py pz pt:Pos}{kt k2 pt2}(hc:X.calm=true)(hN:X.N.Nodup)(hi:X.N[i]?=some x)(hj:X.N[j]?=some y)(hk:X.N[k]?=some z)(hij:i≠j)(hik:i≠k)(hjk:j≠k)
  (hx:X.env.scope.names.lookup x=some .local) (hy:X.env.scope.names.lookup y=some .local) (hz:X.env.scope.names.lookup z=some .local) (ha:PA X [a,b,c] ta)
  (hw:swappedStores [.Tuple [.Name x px,.Name y py,.Name z pz] kt pt] (.Tuple [a,b,c] k2 pt2) X.env=pure (some [x,y,z]))
  (hs:swapsWithSole [.Tuple [.Name x px,.Name y py,.Name z pz] kt pt] (.Tuple [a,b,c] k2 pt2) pos.line X.env=pure false:=by rfl) :
  PS X (.Assign [.Tuple [.Name x px,.Name y py,.Name z pz] kt pt] (.Tuple [a,b,c] k2 pt2) pos) (znw i j k ta):=by
 intro pins s σ H D I h
 rw[exec_Assign_arm]
 refine wpAny_bind (wpAny_standAt ?_)
 rw[hs]
 refine wpAny_bind (wpAny_pure ?_)
 rw[if_neg (by decide)]
 refine wpAny_bind (Tuple_ (thn (ha _ pins s σ H _ I h) fun us s1 ⟨vs,H1,I1,r1,q1⟩=>?_))
 obtain⟨v,w,u,e1,q1⟩:=q1
 subst e1
 obtain⟨u1,u2,u3,rfl,rv,rw',ru⟩:=znx r1
 refine wpAny_newObj_type ?_ (by show 3≤sizeLine;decide)
 have I2:Inv X pins σ H1 { s1 with heap:=s1.heap.push { cls:=.type "tuple",data:=.seq [u1,u2,u3].toArray } }:=I1.kept (t':=s1.toks) fun b o e=>Heap.get?_push_of_some _ e
 rw[hw]
 refine wpAny_bind (wpAny_pure ?_)
 show wpAny (model X.prog X.w) X.A (do rule "assign.swapped-stores";let items ←unpackItems (.ref s1.heap.objs.size) 3 none;assignInOrder [fun v=>bindName X.env z v,fun v=>bindName X.env y v,fun v=>bindName X.env x v] items.reverse;pure Flow.next) _ _ _
 refine wpAny_bind (wpAny_rule (wpAny_bind (unpackItems_tuple (items:=#[u1,u2,u3]) (I.ok.hd hc) (IsTup.new s1.heap _) fun h' hx'=>?_)))
 have I3:=I2.kept (h':=h') (t':=s1.toks) fun b o e=>hx' b o (Nat.ne_of_lt (Heap.lt_size e)) e
 show wpAny _ _ (assignInOrder [fun v=>bindName X.env z v,fun v=>bindName X.env y v,fun v=>bindName X.env x v] [u3,u2,u1] >>= fun _=>pure Flow.next) _ _ _
 refine wpAny_bind (assignInOrder_cons (wpAny_bindName (zbR I3 hN hk (.inl hz) ru (fun s2 I4=>?_) (.inr hz))))
 refine assignInOrder_cons (wpAny_bindName (zbR I4 hN hj (.inl hy) rw' (fun s3 I5=>?_) (.inr hy)))
 refine assignInOrder_cons (wpAny_bindName (zbR I5 hN hi (.inl hx) rv (fun s4 I6=>assignInOrder_nil (wpAny_pure ?_)) (.inr hx)))
 rw[List.set_comm _ _ (Ne.symm hij),List.set_comm _ _ (Ne.symm hik),List.set_comm _ _ (Ne.symm hjk)] at I6
 exact⟨_,H1,I6,q1⟩
theorem zmC{K:PySem.W.Frag}{G:Hp}{vs:List V}{d e f:D}(r:Reps K G vs [d,e,f]):∃v u w,vs=[v,u,w]∧Rep K G v d∧Rep K G u e∧Rep K G w f:=by
 cases vs with
 | nil=>simp[Reps] at r
 | cons v vs=>
  cases vs with
  | nil=>simp[Reps] at r
  | cons u vs=>
   cases vs with
   | nil=>simp[Reps] at r
   | cons w vs=>
    cases vs with
    | nil=>simp only[Reps] at r;exact⟨v,u,w,rfl,r.1,r.2.1,r.2.2.1⟩
    | cons t vs=>simp[Reps] at r
theorem zld(i j k:Nat){x y z:Str}{a b c:Expr}{ts:TDa}{px py pz pt:Pos}{kt k2 pt2}(hc:X.calm=true)(ha:PDa X [a,b,c] ts)(hN:X.N.Nodup:=by assumption)(hi:X.N[i]?=some x:=by rfl)(hj:X.N[j]?=some y:=by rfl)(hk:X.N[k]?=some z:=by rfl)(hij:i≠j:=by decide)(hik:i≠k:=by decide)(hjk:j≠k:=by decide)
  (hx:X.env.scope.names.lookup x=some .local:=by rfl) (hy:X.env.scope.names.lookup y=some .local:=by rfl) (hz:X.env.scope.names.lookup z=some .local:=by rfl)
  (hw:swappedStores [.Tuple [.Name x px,.Name y py,.Name z pz] kt pt] (.Tuple [a,b,c] k2 pt2) X.env=pure (some [x,y,z]):=by rfl)
  (hs:swapsWithSole [.Tuple [.Name x px,.Name y py,.Name z pz] kt pt] (.Tuple [a,b,c] k2 pt2) pos.line X.env=pure false:=by rfl) :
  PX X (.Assign [.Tuple [.Name x px,.Name y py,.Name z pz] kt pt] (.Tuple [a,b,c] k2 pt2) pos) (zmX (ziU ts) (zhg 3 (zbz (zaD i) (zbz (zaD j) (zbz (zaD k) zgt))))):=by
 obtain⟨t,p,q⟩:=ha
 refine⟨_,zlc hc hN hi hj hk hij hik hjk hx hy hz p hw hs,fun ρ σ G0 H0 G H D E kk h g=>q ρ σ G0 H0 G H _ _ kk h fun vs H' ds G' x1 rs hq=>?_⟩
 obtain⟨_,hq⟩:=hq
 simp only[R.val,zhg] at hq
 obtain⟨hl,hq⟩:=hq
 obtain⟨d,e,f,rfl⟩:=znI hl
 obtain⟨v,u,w,rfl,rv,ru,rw'⟩:=zmC rs
 have E1:=kk.ext x1
 have E2:=E1.put (i:=i) (.refl E1.e.s) (r:=.fz d) rv
 have E3:=E2.put (i:=j) (.refl E1.e.s) (r:=.fz e) ru
 have E4:=E3.put (i:=k) (.refl E1.e.s) (r:=.fz f) rw'
 exact⟨v,u,w,rfl,g.nx _ _ G' H' x1.g E4 hq⟩
end
end L2
section
namespace Wc
open PySem L2
noncomputable def mkS(l:List Nat):Str:=⟨l.toArray⟩
theorem zfZ(l:List Nat):(mkS l).cps.toList=l:=by simp[mkS]
theorem zf0(l:List Nat):(mkS l).length=l.length:=by simp[mkS,Str.length]
theorem zf1(a b:List Nat):mkS a++mkS b=mkS (a++b):=by
 show(⟨(mkS a).cps++(mkS b).cps⟩:Str)=_
 simp[mkS]
theorem mkS_inj{a b:List Nat}:mkS a=mkS b↔a=b:=by
 constructor
 ·intro h
  have:(mkS a).cps.toList=(mkS b).cps.toList:=by rw[h]
  simpa[mkS] using this
 ·rintro rfl;rfl
theorem zke(w:Str):mkS w.cps.toList=w:=by cases w;simp[mkS]
theorem mk1(c:Nat):(⟨#[c]⟩:Str)=mkS [c]:=rfl
theorem zio{α β:Type}(f:α→β)(l:List α)(i:Int):atI (l.map f) i=(atI l i).map f:=by
 unfold atI
 rw[List.length_map]
 cases ixN l.length i with
 | none=>rfl
 | some j=>simp
theorem zmD{α β:Type}{f:α→β}{o:Option α}{p:β→Prop}:(∃d,o.map f=some d∧p d)↔∃x,o=some x∧p (f x):=by
 cases o with
 | none=>simp
 | some x=>simp
theorem zkf{α β:Type}{f:α→β}{l:List α}{i:Int}{p:β→Prop}:(∃d,atI (l.map f) i=some d∧p d)↔∃x,atI l i=some x∧p (f x):=by rw[zio];exact zmD
theorem zcz{α:Type}{l:List α}{i:Int}(h0:0≤i)(h1:i<l.length):∃h:i.toNat<l.length,atI l i=some (l[i.toNat]'h):=by
 refine⟨by omega,?_⟩
 unfold atI ixN
 rw[if_pos h0,if_pos h1]
 simp only[Option.bind_some]
 exact List.getElem?_eq_getElem _
theorem zle{α:Type}{l:List α}{i:Int}(h0:0≤i)(h1:i<l.length):∃z,atI l i=some z∧z∈l:=by
 obtain⟨h,e⟩:=zcz h0 h1
 exact⟨_,e,List.getElem_mem h⟩
theorem zmE{α:Type}{l:List α}{n:Nat}(i:Int)(hl:n≤l.length)(h:0<n):∃z,atI l (i%(n:Int))=some z∧z∈l:=
 zle (Int.emod_nonneg _ (by omega)) (by have:=Int.emod_lt_of_pos i (show(0:Int)<n by omega);omega)
theorem zcp{α:Type}{l:List α}{j:Nat}(h:j<l.length):atI l (j:Int)=some l[j]:=by
 obtain⟨h',e⟩:=zcz (l:=l) (i:=(j:Int)) (by omega) (by omega)
 simpa using e
theorem ziq{n d:Nat}{j:Int}(h:0≤j):HT.sIx n d (some j)=min j.toNat n:=by show(if j<0 then _ else _)=_;rw[if_neg (by omega)]
theorem zir{α:Type}(l:List α){j:Int}(h:0≤j):zdl l none (some j)=l.take j.toNat:=by
 unfold zdl
 rw[ziq h]
 show((l.drop 0).take (min j.toNat l.length-0))=_
 rw[List.drop_zero,Nat.sub_zero,Nat.min_comm]
 by_cases hl:l.length≤j.toNat
 ·rw[Nat.min_eq_left hl,List.take_of_length_le hl,List.take_of_length_le (Nat.le_refl _)]
 ·rw[Nat.min_eq_right (by omega)]
theorem zbN{α:Type}(l:List α){j:Int}(h:0≤j):zdl l (some j) none=l.drop j.toNat:=by
 unfold zdl
 rw[ziq h]
 show((l.drop (min j.toNat l.length)).take (l.length-_))=_
 by_cases hl:l.length≤j.toNat
 ·rw[Nat.min_eq_right hl,List.drop_of_length_le hl,List.drop_of_length_le (Nat.le_refl _)];simp
 ·rw[Nat.min_eq_left (by omega),List.take_of_length_le (by simp)]
theorem zlf(l:List Nat){j:Int}(h:0≤j):zju (mkS l) none (some j)=mkS (l.take j.toNat):=by unfold zju;rw[zfZ,zir _ h];rfl
theorem zis(l:List Nat){j:Int}(h:0≤j):zju (mkS l) (some j) none=mkS (l.drop j.toNat):=by unfold zju;rw[zfZ,zbN _ h];rfl
theorem zgF{α β:Type}(f:α→β)(l:List α)(lo hi:Option Int):zdl (l.map f) lo hi=(zdl l lo hi).map f:=by unfold zdl;rw[List.length_map,List.map_take,List.map_drop]
theorem zdq(n:Nat)(i:Int):okE n (.int i)=True:=by cases n<;>exact eq_true trivial
theorem zex(n:Nat)(i:Str):okE n (.str i)=True:=by cases n<;>exact eq_true trivial
theorem zkg(n:Nat)(i:Bool):okE n (.bl i)=True:=by cases n<;>exact eq_true trivial
theorem zit(n:Nat):okE n .non=True:=by cases n<;>exact eq_true trivial
theorem ziu{α:Type}[BEq α][LawfulBEq α][DecidableEq α](a b:α):(a==b)=decide (a=b):=by rw[Bool.eq_iff_iff];simp
theorem ziv(a b:Str):eqD (.str a) (.str b)=decide (a=b):=by simp only[eqD,ziu]
theorem ziw(a b:Int):eqD (.int a) (.int b)=decide (a=b):=by simp only[eqD,ziu]
theorem zaN:sizeLine=16777216:=by decide
@[irreducible] noncomputable def ziV(u:TX)(D:DE):Ev→Prop:=u D
theorem zmF(t u:TX)(D:DE)(ρ:Ev):za1 t u D ρ=t { nx:=ziV u D,rt:=D.rt,bk:=D.bk,ct:=D.ct } ρ:=by unfold ziV;rfl
end Wc
open PySem L2 Wc
local macro_rules | `(tactic| walk_at "ba")=>`(tactic| simp only[za1,xIf,zkP,bOr,zeb,zcm,dC,zgy,zh5,zmm,zmn,dCB,zad,zar,zah,List.map_cons,List.map_nil,List.cons_append,List.nil_append,List.set,gt,zeO,oI0,oI,dOp,zbZ,zdI,zj6,zln,zaT,zgs,ziU,zdJ,zj8,zaD,zgt,zbz,zhg,zj5,oEq,oNe,oIx,dSl,oNo,zbB,zax,zkR,dOr,zmV,dIf,zmZ,dM,zfd,zhR,zbo,zmX,frz,zdK,zmd,zfU,zdG,zc3,ze5,zhW,zjq,zk0,zb5,zka,zkb,p24,p30,zek,CMul,Int.reduceLT,Int.reduceLE,Int.reduceAdd,Int.reduceSub,Int.reduceMul,Int.reduceNeg,Int.reducePow,Int.reduceToNat,decide_true,decide_false,true_and,and_true,and_self,or_true,true_or,zdq,zex,zkg,zit,zkf,Bool.false_eq_true,if_false,if_true,Bool.not_true,Bool.not_false,List.length_cons,List.length_nil,Nat.reduceAdd,decide_eq_true_eq,ziw,ziv,zgF,zee,zbm,zjB])
local macro_rules | `(tactic| walk_at "b")=>`(tactic| simp only[zmF,xIf,zkP,bOr,zeb,zcm,dC,zgy,zh5,zmm,zmn,dCB,zad,zar,zah,List.map_cons,List.map_nil,List.cons_append,List.nil_append,List.set,gt,zeO,oI0,oI,dOp,zbZ,zdI,zj6,zln,zaT,zgs,ziU,zdJ,zj8,zaD,zgt,zbz,zhg,zj5,oEq,oNe,oIx,dSl,oNo,zbB,zax,zkR,dOr,zmV,dIf,zmZ,dM,zfd,zhR,zbo,zmX,frz,zdK,zmd,zfU,zdG,zc3,ze5,zhW,zjq,zk0,zb5,zka,zkb,p24,p30,zek,CMul,Int.reduceLT,Int.reduceLE,Int.reduceAdd,Int.reduceSub,Int.reduceMul,Int.reduceNeg,Int.reducePow,Int.reduceToNat,decide_true,decide_false,true_and,and_true,and_self,or_true,true_or,zdq,zex,zkg,zit,zkf,Bool.false_eq_true,if_false,if_true,Bool.not_true,Bool.not_false,List.length_cons,List.length_nil,Nat.reduceAdd,decide_eq_true_eq,ziw,ziv,zgF,zee,zbm,zjB])
namespace Wc
open PySem L2
local macro_rules | `(tactic| walk_at "all")=>`(tactic| walk_at "ba")
noncomputable def zm2(c k:Int):Int:=(c%1000000000000000000000000000000*(k*k+48271)+7919*k*k*k+11)%2147483647/7
theorem zkh(c k:Int):0≤zm2 c k:=Int.ediv_nonneg (Int.emod_nonneg _ (by decide)) (by decide)
noncomputable def zbe:SpD:=fun ds Q=>∃c k:Int,ds=[.int c,.int k]∧0≤k∧k≤1000000∧Q (.fz (.int (zm2 c k)))
noncomputable def zcG:TX:=(zdI (dOp (oI zek fun i j=>.int (i/j)) (dOp (oI (fun _ j=>0<j) fun i j=>.int (i%j)) (dOp zbZ (dOp zbZ (dOp (oI CMul fun i j=>.int (i*j)) (dOp (oI (fun _ j=>0<j) fun i j=>.int (i%j)) (zah 0) (dOp (oI zjZ fun i j=>.int (i ^ j.toNat)) (dC (.int 10)) (dC (.int 30)))) (dOp zbZ (dOp (oI CMul fun i j=>.int (i*j)) (zah 1) (zah 1)) (dC (.int 48271)))) (dOp (oI CMul fun i j=>.int (i*j)) (dOp (oI CMul fun i j=>.int (i*j)) (dOp (oI CMul fun i j=>.int (i*j)) (dC (.int 7919)) (zah 1)) (zah 1)) (zah 1))) (dC (.int 11))) (dC (.int 2147483647))) (dC (.int 7))))
theorem zey(ds:List D)(Qr:R→Prop)(hl:ds.length=2)(h:zbe ds Qr):zcG { nx:=fun _=>Qr (.fz .non),rt:=Qr } (zay ["_law_cell","_law_k"] ds):=by
 obtain⟨c,k,rfl,h0,h1,q⟩:=h
 show zcG _ [.fz (.int c),.fz (.int k)]
 unfold zcG
 walk_at "all"
 have hk:k*k≤1000000*1000000:=Int.mul_le_mul h1 h1 h0 (by decide)
 have hk0:0≤k*k:=Int.mul_nonneg h0 h0
 refine⟨.inl ⟨by omega,by omega⟩,.inr ⟨by omega,by omega⟩,.inr ⟨by omega,by omega⟩,.inr ⟨by omega,by omega⟩,?_⟩
 exact q
end Wc
namespace Wc
open PySem L2 PyProof.Rows
noncomputable def dO:Option Str→D
 | none=>.non
 | some s=>.str s
noncomputable def dP(l:List (Option Str)):D:=.lst (l.map dO)
noncomputable def dS(l:List Str):D:=.lst (l.map .str)
noncomputable def dI(l:List Int):D:=.lst (l.map .int)
noncomputable def dWp(p:Str×Int):D:=.tup [.str p.1,.int p.2]
noncomputable def dBp(p:Int×Str):D:=.tup [.int p.1,.str p.2]
noncomputable def dKp(p:Int×Int×Int):D:=.tup [.int p.1,.int p.2.1,.int p.2.2]
noncomputable def dW(l:List (Str×Int)):D:=.lst (l.map dWp)
noncomputable def dB(l:List (Int×Str)):D:=.lst (l.map dBp)
noncomputable def dK(l:List (Int×Int×Int)):D:=.lst (l.map dKp)
structure Chan where
 top:List (Option Str)
 bottom:List (Option Str)
 left:List Str
 right:List Str
 wide:List (Str×Int)
 bends:List (Int×Str)
 keeps:List (Int×Int×Int)
noncomputable def Chan.obj(c:Chan):D:=.obj "Channel" [("top",dP c.top),("bottom",dP c.bottom),("left",dS c.left),("right",dS c.right),("wide",dW c.wide),("bends",dB c.bends),("keeps",dK c.keeps)]
theorem zjN(n:Nat)(l:List Str):∀e∈l.map D.str,okE n e:=by
 intro e he
 rw[List.mem_map] at he
 obtain⟨x,_,rfl⟩:=he
 rw[zex];trivial
theorem zfj:∀{a b c:List Nat},Spec.ltCps a b=true→Spec.ltCps b c=true→Spec.ltCps a c=true
 | [],[],c,h,_=>by simp[Spec.ltCps] at h
 | [],b::bs,[],_,h=>by simp[Spec.ltCps] at h
 | [],b::bs,c::cs,_,_=>by simp[Spec.ltCps]
 | a::as,[],c,h,_=>by simp[Spec.ltCps] at h
 | a::as,b::bs,[],_,h=>by simp[Spec.ltCps] at h
 | a::as,b::bs,c::cs,h,h'=>by
  simp only[Spec.ltCps,Bool.or_eq_true,decide_eq_true_eq,Bool.and_eq_true,beq_iff_eq] at h h' ⊢
  rcases h with h | ⟨rfl,h⟩
  ·rcases h' with h' | ⟨rfl,h'⟩
   ·left;omega
   ·left;omega
  ·rcases h' with h' | ⟨rfl,h'⟩
   ·left;omega
   ·right;exact⟨rfl,zfj h h'⟩
theorem zix:∀{a b:List Nat},Spec.ltCps a b=false→Spec.ltCps b a=false→a=b
 | [],[],_,_=>rfl
 | [],b::bs,h,_=>by simp[Spec.ltCps] at h
 | a::as,[],_,h=>by simp[Spec.ltCps] at h
 | a::as,b::bs,h,h'=>by
  simp only[Spec.ltCps,Bool.or_eq_false_iff,decide_eq_false_iff_not,Bool.and_eq_false_iff,beq_eq_false_iff_ne] at h h'
  have e:a=b:=by omega
  subst e
  rw[zix (h.2.resolve_left fun z=>z rfl) (h'.2.resolve_left fun z=>z rfl)]
noncomputable def ltS(a b:Str):Prop:=Spec.ltCps a.cps.toList b.cps.toList=true
theorem ziy{a b c:Str}(h:ltS a b)(h':ltS b c):ltS a c:=zfj h h'
theorem ziz{a b:Str}(h:a.cps.toList=b.cps.toList):a=b:=by rw[←zke a,←zke b,h]
theorem zfk:∀{p:Str} {l:List Str},risingS p l=true→(p::l).Nodup→(p::l).Pairwise ltS
 | p,[],_,_=>by simp
 | p,x::r,h,nd=>by
  simp only[risingS,Bool.and_eq_true,Bool.not_eq_true'] at h
  have nd':=nd
  rw[List.nodup_cons] at nd
  have ih:=zfk h.2 nd.2
  have hne:p≠x:=fun z=>nd.1 (by simp[z])
  have hpx:ltS p x:=by
   unfold ltS
   cases e:Spec.ltCps p.cps.toList x.cps.toList with
   | true=>rfl
   | false=>exact absurd (ziz (zix e h.1)) hne
  rw[List.pairwise_cons]
  refine⟨fun b hb=>?_,ih⟩
  rcases List.mem_cons.mp hb with rfl | hb
  ·exact hpx
  ·exact ziy hpx ((List.pairwise_cons.mp ih).1 b hb)
theorem zdr{l:List Str}(h:sortedS l=true)(nd:l.Nodup):l.Pairwise ltS:=by
 cases l with
 | nil=>exact .nil
 | cons x r=>exact zfk h nd
theorem ziA{n:Nat}{α:Type}(f:α→D)(l:List α)(h:∀x∈l,okE n (f x)):okE (n+1) (.lst (l.map f)):=by
 intro d hd
 rw[List.mem_map] at hd
 obtain⟨x,hx,rfl⟩:=hd
 exact h x hx
theorem zmG(n:Nat)(l:List Str):okE (n+1) (dS l):=ziA D.str l fun x _=>by rw[zex];trivial
theorem zmH(n:Nat)(l:List Int):okE (n+1) (dI l):=ziA D.int l fun x _=>by rw[zdq];trivial
theorem zjO{α:Type}(l:List α)(φ:α→D):zg3 (l.map φ)=l.zipIdx.map fun p=>.tup [.int (p.2:Nat),φ p.1]:=by
 unfold zg3
 apply List.ext_getElem
 ·simp
 ·intro i h1 h2
  simp
noncomputable def dN(n:Nat):D:=.int n
theorem zjP{α:Type}(a:α)(r:List α):atI (a::r) 0=some a:=by
 unfold atI ixN
 rw[if_pos (by decide),if_pos (by simp only[List.length_cons];omega)]
 rfl
end Wc
namespace Wc
open PySem L2 PyProof.Rows
noncomputable def IsNm(w:Str):Prop:=(1≤w.length∧w.length≤6)∧∀x∈w.cps.toList,97≤x∧x≤122
theorem zmI(w:Str)(l:List Str):zlp (.str w) (l.map D.str)=l.count w:=by
 unfold zlp
 rw[List.countP_map,List.count]
 congr 1
end Wc
namespace Wc
open PySem L2 PyProof.Rows
noncomputable def pinS:Option Str→Str
 | none=>"."
 | some w=>w
noncomputable def zaK(c:Chan):List (List Str):=("top"::c.top.map pinS)::("bottom"::c.bottom.map pinS)::("left"::c.left)::("right"::c.right)::(c.wide.map (fun p=>(["wide",p.1,zaP p.2]:List Str))++c.bends.map (fun p=>(["bend",zaP p.1,p.2]:List Str))++c.keeps.map (fun p=>(["keep",zaP p.1,zaP p.2.1,zaP p.2.2]:List Str)))
noncomputable def In100(i:Int):Prop:=0≤i∧i<100
structure AnyCh (c:Chan):Prop where
 tl:c.top.length≤45
 bl:c.bottom.length≤45
 ll:c.left.length≤30
 rl:c.right.length≤8
 wl:c.wide.length≤12
 el:c.bends.length≤51
 kl:c.keeps.length≤14
 ts:∀x∈c.top,(pinS x).length≤6
 bs:∀x∈c.bottom,(pinS x).length≤6
 ls:∀w∈c.left,w.length≤6
 rs:∀w∈c.right,w.length≤6
 ws:∀p∈c.wide,p.1.length≤6∧In100 p.2
 es:∀p∈c.bends,In100 p.1∧p.2.length≤6
 ks:∀p∈c.keeps,In100 p.1∧In100 p.2.1∧In100 p.2.2
theorem zbX{i:Int}(h:In100 i):(zaP i).length≤6:=by
 have:∀k:Fin 100,(zaP (k.val:Int)).length≤6:=by decide +kernel
 obtain⟨h0,h1⟩:=h
 have e:=this ⟨i.toNat,by omega⟩
 simpa[Int.toNat_of_nonneg h0] using e
theorem zaV(x y:Str):(x++y).length=x.length+y.length:=by
 show(x.cps++y.cps).size=_
 rw[Array.size_append];rfl
theorem zfl(z:Array Nat):∀(l:List Str) (a:Array Nat),(l.foldl (fun acc p=>acc++z++p.cps) a).size=a.size+(l.map (·.length)).sum+l.length*z.size
 | [],a=>by simp
 | x::l,a=>by
  rw[List.foldl_cons,zfl z l]
  simp only[Array.size_append,List.map_cons,List.sum_cons,List.length_cons,Nat.succ_mul,Str.length]
  omega
theorem zgG(x:Str)(l:List Str):(Txt.join x l).length≤(l.map (·.length)).sum+l.length*x.length:=by
 unfold Txt.join Builtin.Str.glued
 cases l with
 | nil=>simp[Str.length,Str.empty]
 | cons a l=>
  show(List.foldl _ a.cps l).size≤_
  rw[zfl]
  simp only[List.map_cons,List.sum_cons,List.length_cons,Nat.succ_mul,Str.length]
  omega
theorem ziB{l:List Str}{B:Nat}(h:∀w∈l,w.length≤B):(l.map (·.length)).sum≤l.length*B:=by
 induction l with
 | nil=>simp
 | cons a r ih=>
  rw[List.map_cons,List.sum_cons,List.length_cons,Nat.succ_mul]
  have:=ih fun w hw=>h w (List.mem_cons_of_mem _ hw)
  have:=h a List.mem_cons_self
  omega
noncomputable def zcq(l:List Str):Prop:=l.length≤50∧∀w∈l,w.length≤6
theorem zgH{l:List Str}(h:zcq l):(l.map (·.length)).sum+l.length*(Str.ofString " ").length≤350:=by
 have h1:=ziB h.2
 have h2:=h.1
 have e:(Str.ofString " ").length=1:=by decide +kernel
 rw[e]
 omega
theorem zcr{l:List Str}(h:zcq l):(Txt.join " " l++"\n").length≤351:=by
 rw[zaV]
 have h1:=zgG " " l
 have h2:=zgH h
 have e:(Str.ofString "\n").length=1:=by decide +kernel
 rw[e]
 omega
theorem zjQ{c:Chan}(h:AnyCh c):(zaK c).length≤100∧∀l∈zaK c,zcq l:=by
 have s3:(Str.ofString "top").length≤6:=by decide +kernel
 have s6:(Str.ofString "bottom").length≤6:=by decide +kernel
 have s4:(Str.ofString "left").length≤6:=by decide +kernel
 have s5:(Str.ofString "right").length≤6:=by decide +kernel
 have sw:(Str.ofString "wide").length≤6:=by decide +kernel
 have sb:(Str.ofString "bend").length≤6:=by decide +kernel
 have sk:(Str.ofString "keep").length≤6:=by decide +kernel
 constructor
 ·have:=h.wl;have:=h.el;have:=h.kl
  simp only[zaK,List.length_cons,List.length_append,List.length_map]
  omega
 ·intro l hl
  simp only[zaK,List.mem_cons,List.mem_append,List.mem_map] at hl
  rcases hl with rfl | rfl | rfl | rfl | (⟨p,hp,rfl⟩ | ⟨p,hp,rfl⟩) | ⟨p,hp,rfl⟩
  ·refine⟨by have:=h.tl;simp;omega,fun w hw=>?_⟩
   rcases List.mem_cons.mp hw with rfl | hw
   ·exact s3
   ·obtain⟨x,hx,rfl⟩:=List.mem_map.mp hw
    exact h.ts x hx
  ·refine⟨by have:=h.bl;simp;omega,fun w hw=>?_⟩
   rcases List.mem_cons.mp hw with rfl | hw
   ·exact s6
   ·obtain⟨x,hx,rfl⟩:=List.mem_map.mp hw
    exact h.bs x hx
  ·refine⟨by have:=h.ll;simp;omega,fun w hw=>?_⟩
   rcases List.mem_cons.mp hw with rfl | hw
   ·exact s4
   ·exact h.ls w hw
  ·refine⟨by have:=h.rl;simp;omega,fun w hw=>?_⟩
   rcases List.mem_cons.mp hw with rfl | hw
   ·exact s5
   ·exact h.rs w hw
  ·have:=h.ws p hp
   refine⟨by simp,fun w hw=>?_⟩
   simp only[List.mem_cons,List.not_mem_nil,or_false] at hw
   rcases hw with rfl | rfl | rfl
   ·exact sw
   ·exact this.1
   ·exact zbX this.2
  ·have:=h.es p hp
   refine⟨by simp,fun w hw=>?_⟩
   simp only[List.mem_cons,List.not_mem_nil,or_false] at hw
   rcases hw with rfl | rfl | rfl
   ·exact sb
   ·exact zbX this.1
   ·exact this.2
  ·have:=h.ks p hp
   refine⟨by simp,fun w hw=>?_⟩
   simp only[List.mem_cons,List.not_mem_nil,or_false] at hw
   rcases hw with rfl | rfl | rfl | rfl
   ·exact sk
   ·exact zbX this.1
   ·exact zbX this.2.1
   ·exact zbX this.2.2
end Wc
namespace Wc
open PySem L2 PyProof.Rows
noncomputable def zez(c:Nat):List Nat→List (List Nat)
 | []=>[[]]
 | x::r=>if x=c then []::zez c r else match zez c r with
  | []=>[[x]]
  | h::t=>(x::h)::t
theorem zlg(c:Nat):∀l,zez c l≠[]
 | []=>by simp[zez]
 | x::r=>by
  unfold zez
  split
  ·simp
  ·split<;>simp
theorem zc8(c:Nat)(b:List Nat):∀a:List Nat,zez c (a++c::b)=zez c a++zez c b
 | []=>by simp[zez]
 | x::r=>by
  rw[List.cons_append,zez,zc8 c b r]
  conv=>rhs;rw[zez]
  by_cases h:x=c
  ·simp[h]
  ·simp only[h,if_false]
   cases e:zez c r with
   | nil=>exact absurd e (zlg c r)
   | cons u v=>simp
theorem zbO(c:Nat):∀a:List Nat,c∉a→zez c a=[a]
 | [],_=>rfl
 | x::r,h=>by
  simp only[List.mem_cons,not_or] at h
  rw[zez,if_neg (fun z=>h.1 z.symm),zbO c r h.2]
noncomputable def zcH(c:Nat):List (List Nat)→List Nat
 | []=>[]
 | [a]=>a
 | a::b::r=>a++c::zcH c (b::r)
theorem zfm(c:Nat):∀l:List (List Nat),l≠[]→(∀a∈l,c∉a)→zez c (zcH c l)=l
 | [],h,_=>absurd rfl h
 | [a],_,h=>zbO c a (h a (by simp))
 | a::b::r,_,h=>by
  rw[zcH,zc8,zbO c a (h a (by simp)),zfm c (b::r) (by simp) fun z hz=>h z (by simp[hz])]
  rfl
theorem zfn(z:Array Nat):∀(l:List Str) (a:Array Nat),(l.foldl (fun acc p=>acc++z++p.cps) a).toList=a.toList++(l.map fun p=>z.toList++p.cps.toList).flatten
 | [],a=>by simp
 | x::l,a=>by
  rw[List.foldl_cons,zfn z l]
  simp
theorem zeA(x:Str)(a:Str)(l:List Str):(Txt.join x (a::l)).cps.toList=a.cps.toList++(l.map fun p=>x.cps.toList++p.cps.toList).flatten:=by
 unfold Txt.join Builtin.Str.glued
 exact zfn _ l a.cps
theorem zcs(c:Nat):∀(l:List Str),(Txt.join ⟨#[c]⟩ l).cps.toList=zcH c (l.map fun s=>s.cps.toList)
 | []=>rfl
 | [a]=>by rw[zeA];simp[zcH]
 | a::b::r=>by
  have ih:=zcs c (b::r)
  rw[zeA] at ih ⊢
  simp only[List.map_cons,zcH]
  simp only[List.map_cons] at ih
  rw[←ih]
  simp
theorem zfo(x:Str)(c:Nat):(Txt.split x ⟨#[c]⟩).map (fun s=>s.cps.toList)=zez c x.cps.toList:=by
 have h1:Txt.join ⟨#[c]⟩ (Txt.split x ⟨#[c]⟩)=x:=(StrLaws.glued_eq_join _ _).trans (StrLaws.join_split x ⟨#[c]⟩)
 have h2:=StrLaws.split_free x c
 have h3:Txt.split x ⟨#[c]⟩≠[]:=fun z=>by
  have:=PyProof.Rows.split_pos x ⟨#[c]⟩
  rw[z] at this
  simp at this
 have e:x.cps.toList=zcH c ((Txt.split x ⟨#[c]⟩).map fun s=>s.cps.toList):=by
  rw[←zcs]
  exact congrArg (fun s:Str=>s.cps.toList) h1.symm
 rw[e,zfm]
 ·simpa using h3
 ·intro a ha
  obtain⟨s,hs,rfl⟩:=List.mem_map.mp ha
  exact h2 s hs
noncomputable def zbq(l:List Nat):List (List Nat):=(zez 32 l).filter fun w=>!w.isEmpty
noncomputable def zbP(t:List Nat):List (List (List Nat)):=((zez 10 t).map zbq).filter fun w=>!w.isEmpty
theorem zha(a b:List Nat):zbq (a++32::b)=zbq a++zbq b:=by unfold zbq;rw[zc8,List.filter_append]
theorem zhb(a b:List Nat):zbP (a++10::b)=zbP a++zbP b:=by unfold zbP;rw[zc8,List.map_append,List.filter_append]
theorem zhc:zbP []=[]:=rfl
theorem zeg{w:List Nat}(h:32∉w)(hn:w≠[]):zbq w=[w]:=by
 unfold zbq
 rw[zbO 32 w h]
 cases w with
 | nil=>exact absurd rfl hn
 | cons a r=>rfl
theorem zf2{l:List Nat}(h:10∉l)(hn:zbq l≠[]):zbP l=[zbq l]:=by
 unfold zbP
 rw[zbO 10 l h]
 cases e:zbq l with
 | nil=>exact absurd e hn
 | cons a r=>simp[e]
noncomputable def Wd(w:List Nat):Prop:=w≠[]∧32∉w∧10∉w
theorem zeh:∀l:List (List Nat),(∀w∈l,Wd w)→zbq (zcH 32 l)=l
 | [],_=>rfl
 | [a],h=>zeg (h a (by simp)).2.1 (h a (by simp)).1
 | a::b::r,h=>by
  rw[zcH,zha,zeg (h a (by simp)).2.1 (h a (by simp)).1,zeh (b::r) fun w hw=>h w (by simp[hw])]
  rfl
theorem zfp:∀l:List (List Nat),(∀w∈l,Wd w)→10∉zcH 32 l
 | [],_=>by simp[zcH]
 | [a],h=>(h a (by simp)).2.2
 | a::b::r,h=>by
  rw[zcH]
  simp only[List.mem_append,List.mem_cons,not_or]
  exact⟨(h a (by simp)).2.2,by decide,zfp (b::r) fun w hw=>h w (by simp[hw])⟩
noncomputable def cp(s:Str):List Nat:=s.cps.toList
noncomputable def WdS(w:Str):Prop:=Wd (cp w)
theorem zb1(x y:Str):cp (x++y)=cp x++cp y:=by
 show(x.cps++y.cps).toList=_
 simp[cp]
theorem zfq(x:Str):(cp x).length=x.length:=by simp[cp,Str.length]
theorem zc9:(Str.ofString " ")=⟨#[32]⟩:=by decide +kernel
theorem ziC:(Str.ofString "\n")=⟨#[10]⟩:=by decide +kernel
theorem ziD:cp (Str.ofString "\n")=[10]:=by decide +kernel
noncomputable def zb2(l:Str):List Str:=(Txt.split l " ").filter fun w=>decide (w≠"")
noncomputable def zfr(t:Str):List (List Str):=((Txt.split t "\n").map zb2).filter fun ws=>decide (ws≠[])
theorem zgI{a b:Str}(h:cp a=cp b):a=b:=ziz h
theorem zmJ{w:Str}:(cp w).isEmpty=decide (w=""):=by
 by_cases h:w=""
 ·subst h;decide +kernel
 ·have:cp w≠[]:=fun z=>h (zgI (by rw[z];decide +kernel))
  simp[h,this]
theorem ziE(l:Str):(zb2 l).map cp=zbq (cp l):=by
 unfold zb2 zbq
 rw[zc9]
 have:=zfo l 32
 unfold cp
 rw[←this,List.filter_map]
 congr 1
 refine List.filter_congr fun w _=>?_
 have:=zmJ (w:=w)
 unfold cp at this
 simp[this]
theorem ziF(t:Str):(zfr t).map (fun ws=>ws.map cp)=zbP (cp t):=by
 unfold zfr zbP
 rw[ziC]
 have h:=zfo t 10
 have e:(zez 10 (cp t)).map zbq=((Txt.split t ⟨#[10]⟩).map zb2).map fun ws=>ws.map cp:=by
  unfold cp
  rw[←h,List.map_map,List.map_map]
  refine List.map_congr_left fun s _=>?_
  exact(ziE s).symm
 rw[e]
 generalize (Txt.split t ⟨#[10]⟩).map zb2=L
 rw[List.filter_map]
 congr 1
 refine List.filter_congr fun w _=>?_
 cases w with
 | nil=>rfl
 | cons a r=>simp
theorem zei:∀{a b:List Str},a.map cp=b.map cp→a=b
 | [],[],_=>rfl
 | x::a,y::b,h=>by
  simp only[List.map_cons,List.cons.injEq] at h
  rw[zgI h.1,zei h.2]
 | [],_::_,h=>by simp at h
 | _::_,[],h=>by simp at h
theorem zds:∀{a b:List (List Str)},a.map (fun ws=>ws.map cp)=b.map (fun ws=>ws.map cp)→a=b
 | [],[],_=>rfl
 | x::a,y::b,h=>by
  simp only[List.map_cons,List.cons.injEq] at h
  rw[zei h.1,zds h.2]
 | [],_::_,h=>by simp at h
 | _::_,[],h=>by simp at h
end Wc
namespace Wc
open PySem L2 PyProof.Rows
local macro_rules | `(tactic| walk_at "px")=>`(tactic| (repeat(first | walk_at "b" | simp only[zfi,zil,zls,zfg])))
local macro_rules | `(tactic| walk_at "go")=>`(tactic| (simp only[ziV];walk_at "px"))
noncomputable def zbr:SpD:=fun ds Q=>∃l:Str,ds=[.str l]∧l.length≤1000000∧Q (.ow ((zb2 l).map .str))
noncomputable def zcI:TX:=(zdI (zaX (zc3 (dM "str" zfi (zah 0) (zad (dC (.str " ")) zar))) [none] (zaD 0) (zeb (dOp oNe (zah 0) (dC (.str "")))) (zah 0)))
theorem zfs(l:Str)(c:Str)(h:l.length≤1000000):(Txt.split l c).length≤1000002:=by
 have:=PyProof.Rows.split_le l c
 omega
theorem zeB(ds:List D)(Qr:R→Prop)(hl:ds.length=1)(h:zbr ds Qr):zcI { nx:=fun _=>Qr (.fz .non),rt:=Qr } (zay ["line"] ds):=by
 obtain⟨l,rfl,hl2,q⟩:=h
 show zcI _ [.fz (.str l)]
 unfold zcI
 have big:=zaN
 walk_at "px"
 refine zb4 (Txt.split l " ") D.str D.str (fun w=>decide (w≠"")) (fun Q' h=>?_) (by have:=zfs l " " hl2;omega) (fun w _ K1 K0 k1 k0=>?_) q
 ·walk_at "px"
  exact⟨rfl,by rw[zc9];decide,by omega,h⟩
 ·walk_at "px"
  by_cases hw:w=""
  ·subst hw
   simpa using k0 (by simp)
  ·simpa[hw] using k1 (by simpa using hw)
noncomputable def zbs:SpD:=fun ds Q=>∃t:Str,ds=[.str t]∧t.length≤1000000∧Q (.ow ((zfr t).map dS))
noncomputable def zcJ:TX:=(za1 (zaT 1 (zaX (zc3 (dM "str" zfi (zah 0) (zad (dC (.str "\n")) zar))) [none] (zaD 0) zdG (zax 1 zbr (zad (zah 0) zar))))
 (zdI (zaX (zc3 (zah 1)) [none] (zaD 0) (zeb (dOp (oI0 fun i j=>.bl (decide (j<i))) (dCB zeO (zad (zah 0) zar)) (dC (.int 0)))) (zah 0))))
theorem zeC(ds:List D)(Qr:R→Prop)(hl:ds.length=1)(h:zbs ds Qr):zcJ { nx:=fun _=>Qr (.fz .non),rt:=Qr } (zay ["text","lines"] ds):=by
 obtain⟨t,rfl,hl2,q⟩:=h
 show zcJ _ [.fz (.str t),.un]
 unfold zcJ
 have big:=zaN
 have sl:=zfs t "\n" hl2
 walk_at "px"
 refine zaC (Txt.split t "\n") D.str (fun l=>dS (zb2 l)) (fun Q' h=>?_) (by omega) (fun l hm K1 k=>?_) ?_
 ·walk_at "px"
  exact⟨rfl,by rw[ziC];decide,by omega,h⟩
 ·walk_at "px"
  refine⟨l,rfl,?_,k⟩
  have:=PyProof.Rows.part_short hm
  omega
 walk_at "go"
 rw[show((Txt.split t (Str.ofString "\n")).map fun l=>dS (zb2 l))=((Txt.split t (Str.ofString "\n")).map zb2).map dS by rw[List.map_map];rfl]
 refine zb4 ((Txt.split t (Str.ofString "\n")).map zb2) dS dS (fun ws=>decide (ws≠[])) (fun Q' h=>?_) (by rw[List.length_map];omega) (fun ws _ K1 K0 k1 k0=>?_) q
 ·walk_at "px"
  exact h
 ·unfold dS at *
  walk_at "px"
  cases ws with
  | nil=>simpa using k0 (by simp)
  | cons a r=>simpa using k1 (by simp)
noncomputable def zas:SpD:=fun ds Q=>∃w:Str,ds=[.bl true,.str w]∧Q (.fz .non)
noncomputable def zeD:TX:=(xIf (zkP (zeb (zah 0))) zfg zj6)
theorem zf3(ds:List D)(Qr:R→Prop)(hl:ds.length=2)(h:zas ds Qr):zeD { nx:=fun _=>Qr (.fz .non),rt:=Qr } (zay ["holds","words"] ds):=by
 obtain⟨w,rfl,q⟩:=h
 show zeD _ [.fz (.bl true),.fz (.str w)]
 unfold zeD
 walk_at "px"
 exact q
end Wc
namespace Wc
open PySem L2 PyProof.Rows
local macro_rules | `(tactic| walk_at "px")=>`(tactic| (repeat(first | walk_at "b" | simp only[zil,zls,zfg,zkc,zmq])))
local macro_rules | `(tactic| walk_at "go")=>`(tactic| (simp only[ziV];walk_at "px"))
noncomputable def inT(S:Str)(c:Nat):Bool:=!(Builtin.Str.occurrences S ⟨#[c]⟩ 0 S.length 1).isEmpty
theorem zft(l:List Bool):zbM (l.map D.bl)=some l:=by
 induction l with
 | nil=>rfl
 | cons a r ih=>simp[zbM,ih]
theorem zki(S w:Str){Q:R→Prop}(h:w.length≤100)(hc:∀c∈w.cps.toList,inT S c=true)(q:Q (.fz (.bl true))):zaX (zc3 (zah 0)) [none] (zaD 0) zdG (dOp (zj5 false) (zah 0) (dC (.str S))) [.fz (.str w)] fun r=>zj9 [r.val] Q:=by
 have big:=zaN
 refine zaC w.cps.toList (fun c=>.str ⟨#[c]⟩) (fun c=>.bl true) (fun Q' h=>h) (by have:=zfq w;unfold cp at this;omega) (fun c hm K1 k=>?_) ?_
 ·show K1 (.bl (inT S c))
  rw[hc c hm]
  exact k
 ·show match zbM _ with | some bs=>Q (.fz (.bl (bs.all id))) | none=>False
  have e:(List.map (fun _=>D.bl true) w.cps.toList)=(w.cps.toList.map fun _=>true).map D.bl:=by simp
  rw[e,zft]
  have e2:(w.cps.toList.map fun _=>true).all id=true:=by simp[List.all_eq_true]
  simp only[e2]
  exact q
theorem zmK(c:Nat)(h:97≤c∧c≤122):inT "abcdefghijklmnopqrstuvwxyz" c=true:=by
 have:∀k:Fin 26,inT "abcdefghijklmnopqrstuvwxyz" (97+k.val)=true:=by decide +kernel
 have e:=this ⟨c-97,by omega⟩
 have e2:97+(c-97)=c:=by omega
 simpa[e2] using e
noncomputable def zbD:SpD:=fun ds Q=>∃w:Str,ds=[.str w]∧IsNm w∧Q (.fz (.bl true))
noncomputable def zdt:TX:=(za1 (xIf (zkP (zeb (zcm (oI0 fun i j=>.bl (decide (i≤j))) (oI0 fun i j=>.bl (decide (i≤j))) (dC (.int 1)) (dCB zeO (zad (zah 0) zar)) (dC (.int 6))))) (zdI (dC (.bl false))) zj6)
 (zdI (dCB zj9 (zad (zaX (zc3 (zah 0)) [none] (zaD 0) zdG (dOp (zj5 false) (zah 0) (dC (.str "abcdefghijklmnopqrstuvwxyz")))) zar))))
theorem zfu(ds:List D)(Qr:R→Prop)(hl:ds.length=1)(h:zbD ds Qr):zdt { nx:=fun _=>Qr (.fz .non),rt:=Qr } (zay ["word"] ds):=by
 obtain⟨w,rfl,hw,q⟩:=h
 show zdt _ [.fz (.str w)]
 unfold zdt
 have big:=zaN
 obtain⟨⟨w1,w6⟩,wa⟩:=hw
 walk_at "px"
 refine⟨by omega,?_⟩
 have h1:1≤(w.length:Int):=by omega
 have h2:(w.length:Int)≤6:=by omega
 simp only[h1,h2,decide_true,Bool.true_and,if_true,Bool.not_true,Bool.false_eq_true,if_false]
 walk_at "go"
 exact zki _ w (by omega) (fun c hc=>zmK c (wa c hc)) q
noncomputable def zat:SpD:=fun ds Q=>∃w:Str,ds=[.str w]∧IsNm w∧Q (.fz (.str w))
noncomputable def zb7:TX:=(za1 (zbo (zax 2 zas (zad (zax 1 zbD (zad (zah 0) zar)) (zad (dC (.str "a word is no NAME where one is due")) zar))))
 (zdI (zah 0)))
theorem zdM(ds:List D)(Qr:R→Prop)(hl:ds.length=1)(h:zat ds Qr):zb7 { nx:=fun _=>Qr (.fz .non),rt:=Qr } (zay ["word"] ds):=by
 obtain⟨w,rfl,hw,q⟩:=h
 show zb7 _ [.fz (.str w)]
 unfold zb7
 walk_at "px"
 refine⟨w,rfl,hw,_,rfl,?_⟩
 walk_at "go"
 exact q
theorem zfv(i:Int)(h:In100 i):1≤(zaP i).length∧(zaP i).length≤2∧(∀c∈(zaP i).cps.toList,inT "0123456789" c=true)∧(∃c,atI (zaP i).cps.toList 0=some c∧((zaP i).length=1∨(⟨#[c]⟩:Str)≠"0"))∧WdS (zaP i):=by
 have key:∀k:Fin 100,(1≤(zaP (k.val:Int)).length∧(zaP (k.val:Int)).length≤2)∧((zaP (k.val:Int)).cps.toList.all fun c=>inT "0123456789" c)=true∧((atI (zaP (k.val:Int)).cps.toList 0).any fun c=>decide ((zaP (k.val:Int)).length=1)||decide ((⟨#[c]⟩:Str)≠"0"))=true∧((zaP (k.val:Int)).cps.toList≠[]∧32∉(zaP (k.val:Int)).cps.toList∧10∉(zaP (k.val:Int)).cps.toList):=by decide +kernel
 obtain⟨h0,h1⟩:=h
 have e:=key ⟨i.toNat,by omega⟩
 simp only[Int.toNat_of_nonneg h0] at e
 obtain⟨⟨e1,e2⟩,e3,e4,e5⟩:=e
 refine⟨e1,e2,fun c hc=>List.all_eq_true.mp e3 c hc,?_,e5⟩
 cases hc:atI (zaP i).cps.toList 0 with
 | none=>rw[hc] at e4;cases e4
 | some c=>
  rw[hc] at e4
  exact⟨c,rfl,by simpa using e4⟩
theorem zcK(i:Int)(h:In100 i):PySem.intText? (zaP i)=some i:=PySem.W.KIN.num_reads h.1 (by have:=h.2;omega)
noncomputable def zao:SpD:=fun ds Q=>∃i:Int,ds=[.str (zaP i)]∧In100 i∧Q (.fz (.int i))
noncomputable def zbJ:TX:=(za1 (zbo (zax 2 zas (zad (zcm (oI0 fun i j=>.bl (decide (i≤j))) (oI0 fun i j=>.bl (decide (i≤j))) (dC (.int 1)) (dCB zeO (zad (zah 0) zar)) (dC (.int 2))) (zad (dC (.str "a number has not one or two figures")) zar))))
 (za1 (zbo (zax 2 zas (zad (dCB zj9 (zad (zaX (zc3 (zah 0)) [none] (zaD 0) zdG (dOp (zj5 false) (zah 0) (dC (.str "0123456789")))) zar)) (zad (dC (.str "a number has a sign that is no figure")) zar))))
 (za1 (zbo (zax 2 zas (zad (dOr (dOp oEq (dCB zeO (zad (zah 0) zar)) (dC (.int 1))) (dOp oNe (dOp oIx (zah 0) (dC (.int 0))) (dC (.str "0")))) (zad (dC (.str "a number of two figures begins with a nought")) zar))))
 (zdI (dCB zil (zad (zah 0) zar))))))
theorem zcZ(ds:List D)(Qr:R→Prop)(hl:ds.length=1)(h:zao ds Qr):zbJ { nx:=fun _=>Qr (.fz .non),rt:=Qr } (zay ["word"] ds):=by
 obtain⟨i,rfl,hi,q⟩:=h
 obtain⟨f1,f2,f3,⟨c,f4,f5⟩,_⟩:=zfv i hi
 have f6:=zcK i hi
 show zbJ _ [.fz (.str (zaP i))]
 unfold zbJ
 have big:=zaN
 generalize zaP i=w at f1 f2 f3 f4 f5 f6 ⊢
 walk_at "px"
 refine⟨by omega,?_⟩
 have h1:1≤(w.length:Int):=by omega
 have h2:(w.length:Int)≤2:=by omega
 simp only[h1,h2,decide_true,if_true]
 refine⟨_,rfl,?_⟩
 walk_at "go"
 refine zki _ w (by omega) f3 ?_
 refine⟨_,rfl,?_⟩
 walk_at "go"
 refine⟨by omega,?_⟩
 split
 ·refine⟨_,rfl,?_⟩
  walk_at "go"
  exact⟨i,f6,by omega,q⟩
 ·rename_i h3
  have f7:(⟨#[c]⟩:Str)≠"0":=f5.resolve_left (by omega)
  refine⟨by omega,c,f4,Str.ofString "a number of two figures begins with a nought",by simp[f7],?_⟩
  walk_at "go"
  exact⟨i,f6,by omega,q⟩
noncomputable def zaS:SpD:=fun ds Q=>∃l:List Str,ds=[dS l]∧l.length≤100∧(∀w∈l,IsNm w)∧Q (.ow (l.map .str))
noncomputable def zbQ:TX:=(zdI (zaX (zc3 (zah 0)) [none] (zaD 0) zdG (zax 1 zat (zad (zah 0) zar))))
theorem zdu(ds:List D)(Qr:R→Prop)(hl:ds.length=1)(h:zaS ds Qr):zbQ { nx:=fun _=>Qr (.fz .non),rt:=Qr } (zay ["words"] ds):=by
 obtain⟨l,rfl,h1,h2,q⟩:=h
 show zbQ _ [.fz (dS l)]
 unfold zbQ dS
 have big:=zaN
 walk_at "px"
 refine zaC l D.str D.str (fun Q' h=>?_) (by omega) (fun w hw K1 k=>?_) q
 ·walk_at "px"
  exact h
 ·walk_at "px"
  exact⟨w,rfl,h2 w hw,k⟩
noncomputable def za0:SpD:=fun ds Q=>∃l:List (Option Str),ds=[dS (l.map pinS)]∧l.length≤100∧(∀w,some w∈l→IsNm w)∧Q (.ow (l.map dO))
noncomputable def zb8:TX:=(zdI (zaX (zc3 (zah 0)) [none] (zaD 0) zdG (dIf (zeb (dOp oEq (zah 0) (dC (.str ".")))) (dC .non) (zax 1 zat (zad (zah 0) zar)))))
theorem zmL{w:Str}(h:IsNm w):w≠".":=fun e=>by
 subst e
 have:=h.2 46 (by decide +kernel)
 omega
theorem zdN(ds:List D)(Qr:R→Prop)(hl:ds.length=1)(h:za0 ds Qr):zb8 { nx:=fun _=>Qr (.fz .non),rt:=Qr } (zay ["words"] ds):=by
 obtain⟨l,rfl,h1,h2,q⟩:=h
 show zb8 _ [.fz (dS (l.map pinS))]
 unfold zb8 dS
 have big:=zaN
 walk_at "px"
 refine zaC l (fun x=>.str (pinS x)) dO (fun Q' h=>?_) (by omega) (fun x hx K1 k=>?_) q
 ·walk_at "px"
  rw[List.map_map]
  exact h
 ·walk_at "px"
  cases x with
  | none=>simpa[pinS,dO] using k
  | some w=>
   have:=zmL (h2 w hx)
   simp only[pinS,this,if_false]
   exact⟨w,rfl,h2 w hx,k⟩
noncomputable def zbh:SpD:=fun ds Q=>∃p:Str×Int,ds=[dS ["wide",p.1,zaP p.2]]∧IsNm p.1∧In100 p.2∧Q (.fz (dWp p))
noncomputable def zb9:TX:=(za1 (zbo (zax 2 zas (zad (dOp oEq (dCB zeO (zad (zah 0) zar)) (dC (.int 3))) (zad (dC (.str "a wide line has not three words")) zar))))
 (zdI (ziU (zad (zax 1 zat (zad (dOp oIx (zah 0) (dC (.int 1))) zar)) (zad (zax 1 zao (zad (dOp oIx (zah 0) (dC (.int 2))) zar)) zar)))))
theorem zdO(ds:List D)(Qr:R→Prop)(hl:ds.length=1)(h:zbh ds Qr):zb9 { nx:=fun _=>Qr (.fz .non),rt:=Qr } (zay ["words"] ds):=by
 obtain⟨p,rfl,h1,h2,q⟩:=h
 show zb9 _ [.fz (dS ["wide",p.1,zaP p.2])]
 unfold zb9 dS
 have big:=zaN
 walk_at "px"
 refine⟨_,rfl,?_⟩
 walk_at "go"
 refine⟨_,rfl,p.1,rfl,h1,_,rfl,p.2,rfl,h2,by omega,q⟩
noncomputable def zbi:SpD:=fun ds Q=>∃p:Int×Str,ds=[dS ["bend",zaP p.1,p.2]]∧IsNm p.2∧In100 p.1∧Q (.fz (dBp p))
noncomputable def zca:TX:=(za1 (zbo (zax 2 zas (zad (dOp oEq (dCB zeO (zad (zah 0) zar)) (dC (.int 3))) (zad (dC (.str "a bend line has not three words")) zar))))
 (zdI (ziU (zad (zax 1 zao (zad (dOp oIx (zah 0) (dC (.int 1))) zar)) (zad (zax 1 zat (zad (dOp oIx (zah 0) (dC (.int 2))) zar)) zar)))))
theorem zdP(ds:List D)(Qr:R→Prop)(hl:ds.length=1)(h:zbi ds Qr):zca { nx:=fun _=>Qr (.fz .non),rt:=Qr } (zay ["words"] ds):=by
 obtain⟨p,rfl,h1,h2,q⟩:=h
 show zca _ [.fz (dS ["bend",zaP p.1,p.2])]
 unfold zca dS
 have big:=zaN
 walk_at "px"
 refine⟨_,rfl,?_⟩
 walk_at "go"
 refine⟨_,rfl,p.1,rfl,h2,_,rfl,p.2,rfl,h1,by omega,q⟩
noncomputable def zbj:SpD:=fun ds Q=>∃p:Int×Int×Int,ds=[dS ["keep",zaP p.1,zaP p.2.1,zaP p.2.2]]∧In100 p.1∧In100 p.2.1∧In100 p.2.2∧Q (.fz (dKp p))
noncomputable def zcb:TX:=(za1 (zbo (zax 2 zas (zad (dOp oEq (dCB zeO (zad (zah 0) zar)) (dC (.int 4))) (zad (dC (.str "a keep line has not four words")) zar))))
 (zdI (ziU (zad (zax 1 zao (zad (dOp oIx (zah 0) (dC (.int 1))) zar)) (zad (zax 1 zao (zad (dOp oIx (zah 0) (dC (.int 2))) zar)) (zad (zax 1 zao (zad (dOp oIx (zah 0) (dC (.int 3))) zar)) zar))))))
theorem zdQ(ds:List D)(Qr:R→Prop)(hl:ds.length=1)(h:zbj ds Qr):zcb { nx:=fun _=>Qr (.fz .non),rt:=Qr } (zay ["words"] ds):=by
 obtain⟨p,rfl,h1,h2,h3,q⟩:=h
 show zcb _ [.fz (dS ["keep",zaP p.1,zaP p.2.1,zaP p.2.2])]
 unfold zcb dS
 have big:=zaN
 walk_at "px"
 refine⟨_,rfl,?_⟩
 walk_at "go"
 refine⟨_,rfl,p.1,rfl,h1,_,rfl,p.2.1,rfl,h2,_,rfl,p.2.2,rfl,h3,by omega,q⟩
noncomputable def zaO(a b c:Nat):List Str:=(["top","bottom","left","right"]:List Str)++List.replicate a (Str.ofString "wide")++List.replicate b (Str.ofString "bend")++List.replicate c (Str.ofString "keep")
noncomputable def zaQ:SpD:=fun ds Q=>∃a b c:Nat,ds=[dS (zaO a b c)]∧a≤100∧b≤100∧c≤100∧Q (.fz .non)
theorem ziG(a b c:Nat):(zaO a b c).count (Str.ofString "wide")=a∧(zaO a b c).count (Str.ofString "bend")=b∧(zaO a b c).count (Str.ofString "keep")=c:=by
 have e1:(Str.ofString "bend"==Str.ofString "wide")=false:=by decide +kernel
 have e2:(Str.ofString "keep"==Str.ofString "wide")=false:=by decide +kernel
 have e3:(Str.ofString "wide"==Str.ofString "bend")=false:=by decide +kernel
 have e4:(Str.ofString "keep"==Str.ofString "bend")=false:=by decide +kernel
 have e5:(Str.ofString "wide"==Str.ofString "keep")=false:=by decide +kernel
 have e6:(Str.ofString "bend"==Str.ofString "keep")=false:=by decide +kernel
 have f1:(["top","bottom","left","right"]:List Str).count (Str.ofString "wide")=0:=by decide +kernel
 have f2:(["top","bottom","left","right"]:List Str).count (Str.ofString "bend")=0:=by decide +kernel
 have f3:(["top","bottom","left","right"]:List Str).count (Str.ofString "keep")=0:=by decide +kernel
 unfold zaO
 simp only[List.count_append,List.count_replicate,f1,f2,f3,e1,e2,e3,e4,e5,e6,beq_self_eq_true,if_true,Bool.false_eq_true,if_false]
 omega
noncomputable def zbA:TX:=(za1 (zln 1 (dCB zb5 (zad (dC (.tup [.str "top",.str "bottom",.str "left",.str "right"])) zar)))
 (za1 (zmY (zc3 (ziU (zad (dC (.str "wide")) (zad (dC (.str "bend")) (zad (dC (.str "keep")) zar))))) (zaD 2) (zkc 1 (zmq (zgs (zad (zah 2) zar)) (dM "list" zfd (zah 0) (zad (zah 2) zar)))))
 (zbo (zax 2 zas (zad (zjB 1 (dOp oEq (zah 0) (zah 1))) (zad (dC (.str "the lines are not those of a channel, in their order")) zar))))))
theorem zcL(ds:List D)(Qr:R→Prop)(hl:ds.length=1)(h:zaQ ds Qr):zbA { nx:=fun _=>Qr (.fz .non),rt:=Qr } (zay ["heads","due","head"] ds):=by
 obtain⟨a,b,c,rfl,ha,hb,hc,q⟩:=h
 show zbA _ [.fz (dS (zaO a b c)),.un,.un]
 unfold zbA dS
 have big:=zaN
 obtain⟨n1,n2,n3⟩:=ziG a b c
 walk_at "px"
 walk_at "go"
 refine zh6 (["wide","bend","keep"]:List Str) D.str (fun Q' h=>?_) (fun i ρ=>∃s:Sl,ρ=[.fz (.lst ((zaO a b c).map .str)),.ow ((zaO (if 1≤i then a else 0) (if 2≤i then b else 0) (if 3≤i then c else 0)).map .str),s]) ⟨_,rfl⟩ ?_ ?_
 ·walk_at "px"
  exact⟨by omega,h⟩
 ·rintro i x ρ hx ⟨s,rfl⟩
  walk_at "px"
  rw[zmI]
  have rp:∀n:Nat,(List.replicate n [D.str x]).flatten=(List.replicate n x).map D.str:=fun n=>by
   induction n with
   | zero=>rfl
   | succ n ih=>rw[List.replicate_succ,List.flatten_cons,ih,List.replicate_succ,List.map_cons];rfl
  have cx:(zaO a b c).count x≤100:=by
   match i,hx with
   | 0,hx=>cases hx;omega
   | 1,hx=>cases hx;omega
   | 2,hx=>cases hx;omega
   | n+3,hx=>simp at hx
  have hL:∀a' b' c':Nat,(zaO a' b' c').length=4+a'+b'+c':=fun a' b' c'=>by unfold zaO;simp;omega
  rw[show((zaO a b c).count x:Int).toNat=(zaO a b c).count x by omega,rp]
  refine⟨by omega,rfl,zjN 8 _,by omega,by omega,by omega,?_,?_⟩
  ·rw[List.length_map,List.length_map,hL,List.length_replicate]
   split<;>split<;>split<;>omega
  ·refine⟨.fz (.str x),?_⟩
   rw[←List.map_append]
   match i,hx with
   | 0,hx=>cases hx;rw[n1];simp[zaO]
   | 1,hx=>cases hx;rw[n2];simp[zaO]
   | 2,hx=>cases hx;rw[n3];simp[zaO]
   | n+3,hx=>simp at hx
 ·rintro ρ ⟨s,rfl⟩
  walk_at "go"
  have e3:zaO (if 1≤3 then a else 0) (if 2≤3 then b else 0) (if 3≤3 then c else 0)=zaO a b c:=rfl
  change _∧okE 9 (.lst ((zaO (if 1≤3 then a else 0) (if 2≤3 then b else 0) (if 3≤3 then c else 0)).map .str))∧zjA (.bl (eqD _ (.lst ((zaO (if 1≤3 then a else 0) (if 2≤3 then b else 0) (if 3≤3 then c else 0)).map .str))))=true∧zas [.bl (eqD _ (.lst ((zaO (if 1≤3 then a else 0) (if 2≤3 then b else 0) (if 3≤3 then c else 0)).map .str))),_] _
  rw[e3]
  have ok:=zmG 8 (zaO a b c)
  unfold dS at ok
  rw[zcj 9 _ ok]
  exact⟨ok,ok,rfl,_,rfl,q⟩
end Wc
namespace Wc
open PySem L2 PyProof.Rows
local macro_rules | `(tactic| walk_at "px")=>`(tactic| (repeat(first | walk_at "b" | simp only[zls,zfg,zkc,zc6,zb5,zno,zim,zbC])))
local macro_rules | `(tactic| walk_at "go")=>`(tactic| (simp only[ziV];walk_at "px"))
theorem zkj:∀{a b:List Nat},Spec.ltCps a b=true→a<b
 | [],[],h=>by simp[Spec.ltCps] at h
 | [],b::bs,_=>List.Lex.nil
 | a::as,[],h=>by simp[Spec.ltCps] at h
 | a::as,b::bs,h=>by
  unfold Spec.ltCps at h
  by_cases h1:a<b
  ·exact List.Lex.rel h1
  ·by_cases h2:a=b
   ·subst h2
    simp at h
    exact List.Lex.cons (zkj h)
   ·simp[h1,h2] at h
theorem ziH{α:Type}{r:α→α→Prop}:∀{l:List α},l.Pairwise r→∀p∈l.zip (l.drop 1),r p.1 p.2
 | [],_,p,hp=>by simp at hp
 | [a],_,p,hp=>by simp at hp
 | a::b::t,h,p,hp=>by
  simp only[List.drop_one,List.tail_cons,List.zip_cons_cons,List.mem_cons] at hp
  rw[List.pairwise_cons] at h
  rcases hp with rfl | hp
  ·exact h.1 b (by simp)
  ·have:=ziH h.2 p (by simpa using hp)
   exact this
noncomputable def zaE:SpD:=fun ds Q=>(∃l:List Str,ds=[dS l]∧l.length≤100∧l.Pairwise ltS∧Q (.fz (.bl true)))∨∃l:List Int,ds=[dI l]∧l.length≤100∧l.Pairwise (·<·)∧Q (.fz (.bl true))
theorem zeE{α:Type}(l:List α){Q:R→Prop}(q:Q (.fz (.bl true))):zj9 [.lst (l.map fun _=>D.bl true)] Q:=by
 show match zbM _ with | some bs=>Q (.fz (.bl (bs.all id))) | none=>False
 have e:(List.map (fun _=>D.bl true) l)=(l.map fun _=>true).map D.bl:=by simp
 rw[e,zft]
 have e2:(l.map fun _=>true).all id=true:=by simp[List.all_eq_true]
 simp only[e2]
 exact q
theorem zgJ{α:Type}(f:α→D)(l m:List α):zlo (l.map f) (m.map f)=(l.zip m).map fun p=>.tup [f p.1,f p.2]:=by
 unfold zlo
 induction l generalizing m with
 | nil=>simp
 | cons a r ih=>
  cases m with
  | nil=>simp
  | cons b t=>simp[ih]
noncomputable def zbt:TX:=(zdI (dCB zj9 (zad (zaX (zno (zad (zah 0) (zad (dSl (zah 0) (zbB (dC (.int 1))) oNo) zar))) [none,none] (zhg 2 (zbz (zaD 0) (zbz (zaD 1) zgt))) zdG (dOp zls (zah 0) (zah 1))) zar)))
theorem zdR(ds:List D)(Qr:R→Prop)(hl:ds.length=1)(h:zaE ds Qr):zbt { nx:=fun _=>Qr (.fz .non),rt:=Qr } (zay ["members"] ds):=by
 have big:=zaN
 rcases h with⟨l,rfl,h1,h2,q⟩ | ⟨l,rfl,h1,h2,q⟩
 ·show zbt _ [.fz (dS l)]
  unfold zbt dS
  have hp:=ziH h2
  walk_at "px"
  refine zaC (l.zip (l.drop 1)) (fun p=>.tup [.str p.1,.str p.2]) (fun _=>.bl true) (fun Q' h=>?_) (by rw[List.length_zip];omega) (fun p hm K1 k=>?_) ?_
  ·walk_at "px"
   rw[zbN _ (by decide),zgJ]
   exact h
  ·walk_at "px"
   rw[decide_eq_true (zkj (hp p hm))]
   exact k
  ·exact zeE _ q
 ·show zbt _ [.fz (dI l)]
  unfold zbt dI
  have hp:=ziH h2
  walk_at "px"
  refine zaC (l.zip (l.drop 1)) (fun p=>.tup [.int p.1,.int p.2]) (fun _=>.bl true) (fun Q' h=>?_) (by rw[List.length_zip];omega) (fun p hm K1 k=>?_) ?_
  ·walk_at "px"
   rw[zbN _ (by decide),zgJ]
   exact h
  ·walk_at "px"
   rw[decide_eq_true (hp p hm)]
   exact k
  ·exact zeE _ q
noncomputable def namesF(c:Chan):List Str:=((c.top++c.bottom).filterMap id)++(c.left++c.right)++c.wide.map (·.1)++c.bends.map (·.2)
noncomputable def zbk:SpD:=fun ds Q=>∃c:Chan,ds=[c.obj]∧AnyCh c∧Q (.ow ((namesF c).map .str))
theorem zny(l:List (Option Str)):(l.filter fun x=>x.isSome).map dO=(l.filterMap id).map D.str:=by
 induction l with
 | nil=>rfl
 | cons a r ih=>
  cases a with
  | none=>simpa using ih
  | some w=>simp[dO,ih]
noncomputable def zcc:TX:=(za1 (zln 1 (zaX (zc3 (dOp zbZ (zdK "top" (zah 0)) (zdK "bottom" (zah 0)))) [none] (zaD 0) (zeb (dOp (zmd true) (zah 0) (dC .non))) (zah 0)))
 (za1 (zkc 1 (dOp zbZ (zdK "left" (zah 0)) (zdK "right" (zah 0))))
 (za1 (zkc 1 (zaX (zc3 (zdK "wide" (zah 0))) [none] (zaD 0) zdG (dOp oIx (zah 0) (dC (.int 0)))))
 (za1 (zkc 1 (zaX (zc3 (zdK "bends" (zah 0))) [none] (zaD 0) zdG (dOp oIx (zah 0) (dC (.int 1)))))
 (zhR 1)))))
theorem zdS(ds:List D)(Qr:R→Prop)(hl:ds.length=1)(h:zbk ds Qr):zcc { nx:=fun _=>Qr (.fz .non),rt:=Qr } (zay ["channel","names"] ds):=by
 obtain⟨c,rfl,hc,q⟩:=h
 show zcc _ [.fz c.obj,.un]
 unfold zcc Chan.obj
 have big:=zaN
 have l1:=hc.tl
 have l2:=hc.bl
 have l3:=hc.ll
 have l4:=hc.rl
 have l5:=hc.wl
 have l6:=hc.el
 have fl:((c.top++c.bottom).filterMap id).length≤90:=by have:=List.length_filterMap_le id (c.top++c.bottom);rw[List.length_append] at this;omega
 walk_at "px"
 refine zb4 (c.top++c.bottom) dO dO (fun x=>x.isSome) (fun Q' h=>?_) (by rw[List.length_append];omega) (fun x _ K1 K0 k1 k0=>?_) ?_
 ·walk_at "px"
  unfold dP
  walk_at "px"
  rw[List.map_append] at h
  exact⟨_,rfl,_,rfl,by simp only[List.length_append,List.length_map];omega,h⟩
 ·walk_at "px"
  cases x with
  | none=>simpa[dO,zfU] using k0 rfl
  | some w=>simpa[dO,zfU] using k1 rfl
 rw[zny]
 walk_at "go"
 unfold dS
 refine⟨_,rfl,_,rfl,?_⟩
 dsimp only
 refine⟨by simp only[List.length_append,List.length_map];omega,by simp only[List.length_append,List.length_map];omega,?_⟩
 walk_at "go"
 refine zaC c.wide dWp (fun p=>.str p.1) (fun Q' h=>?_) (by omega) (fun p hp K1 k=>?_) ?_
 ·walk_at "px"
  exact⟨_,rfl,h⟩
 ·unfold dWp
  walk_at "px"
  exact⟨_,rfl,k⟩
 walk_at "px"
 refine⟨by simp only[List.length_append,List.length_map];omega,?_⟩
 walk_at "go"
 refine zaC c.bends dBp (fun p=>.str p.2) (fun Q' h=>?_) (by omega) (fun p hp K1 k=>?_) ?_
 ·walk_at "px"
  exact⟨_,rfl,h⟩
 ·unfold dBp
  walk_at "px"
  exact⟨_,rfl,k⟩
 walk_at "px"
 refine⟨by simp only[List.length_append,List.length_map];omega,?_⟩
 walk_at "go"
 have e:((((c.top++c.bottom).filterMap id).map D.str++(c.left.map D.str++c.right.map D.str))++c.wide.map fun p=>D.str p.1)++(c.bends.map fun p=>D.str p.2)=(namesF c).map .str:=by
  simp[namesF,Function.comp_def]
 rw[e]
 exact q
theorem zmM{k:Int}(h:k=2∨k=3):inD (.int k) [.int 2,.int 3]=true:=by
 rcases h with rfl | rfl<;>simp[inD,eqD]
theorem zf4{α:Type}[BEq α][LawfulBEq α]:∀{l m:List α},l.Nodup→(∀x∈l,x∈m)→l.length≤m.length
 | [],m,_,_=>by simp
 | a::l,m,nd,h=>by
  rw[List.nodup_cons] at nd
  have ha:a∈m:=h a (by simp)
  have:=zf4 (l:=l) (m:=m.erase a) nd.2 fun x hx=>(List.mem_erase_of_ne (fun z:x=a=>nd.1 (by rw[←z];exact hx))).mpr (h x (by simp[hx]))
  rw[List.length_erase_of_mem ha] at this
  have:=List.length_pos_of_mem ha
  simp only[List.length_cons]
  omega
theorem ziI{c:Chan}(hc:AnyCh c):(namesF c).length<4000:=by
 have l1:=hc.tl
 have l2:=hc.bl
 have l3:=hc.ll
 have l4:=hc.rl
 have l5:=hc.wl
 have l6:=hc.el
 have fl:=List.length_filterMap_le id (c.top++c.bottom)
 simp only[namesF,List.length_append,List.length_map] at fl ⊢
 omega
noncomputable def zau:SpX:=fun ds Q Qx=>∃(b:Bool) (w:Str),ds=[.bl b,.str w]∧(b=true→Q (.fz .non))∧(b=false→Qx)
noncomputable def zct(Qx:Prop):TX:=(xIf (zkP (zeb (zah 0))) (zim Qx (zah 1)) zj6)
theorem zfw(ds:List D)(Qr:R→Prop)(Qx:Prop)(hl:ds.length=2)(h:zau ds Qr Qx):zct Qx { nx:=fun _=>Qr (.fz .non),rt:=Qr } (zay ["holds","words"] ds):=by
 obtain⟨b,w,rfl,q,qx⟩:=h
 show zct Qx _ [.fz (.bl b),.fz (.str w)]
 unfold zct
 cases b with
 | true=>
  walk_at "px"
  exact q rfl
 | false=>
  walk_at "px"
  exact qx rfl
structure AnyC5 (n:Nat) (c:Chan):Prop where
 any:AnyCh c
 lo:c.left.Pairwise ltS
 ro:c.right.Pairwise ltS
 wo:(c.wide.map (·.1)).Pairwise ltS
 w23:∀p∈c.wide,p.2=2∨p.2=3
 eo:(c.bends.map (·.1)).Pairwise (·<·)
 nn:∀l:List Str,l.Nodup→(∀x,x∈l↔x∈namesF c)→l.length=n
 nm:∀w∈namesF c,IsNm w
noncomputable def zf5(n:Nat)(c:Chan):Prop:=c.bottom.length=c.top.length∧1≤c.top.length∧c.top.length≤40∧c.keeps.length≤8∧n≤24
noncomputable def zaL:SpX:=fun ds Q Qx=>∃(n:Nat) (c:Chan),ds=[c.obj]∧AnyC5 n c∧(zf5 n c→Q (.fz .non))∧(¬zf5 n c→Qx)
theorem ziJ{b:Bool}{w:Str}{Q:R→Prop}{Qx:Prop}(h:b=true→Q (.fz .non))(hx:b=false→Qx):zau [.bl b,.str w] Q Qx:=⟨b,w,rfl,h,hx⟩
noncomputable def za7(Qx:Prop):TX:=(za1 (zbo (zbC 2 zau Qx (zad (dOp oEq (dCB zeO (zad (zdK "top" (zah 0)) zar)) (dCB zeO (zad (zdK "bottom" (zah 0)) zar))) (zad (dC (.str "top and bottom have not as many words")) zar))))
 (za1 (zbo (zbC 2 zau Qx (zad (zcm (oI0 fun i j=>.bl (decide (i≤j))) (oI0 fun i j=>.bl (decide (i≤j))) (dC (.int 1)) (dCB zeO (zad (zdK "top" (zah 0)) zar)) (dC (.int 40))) (zad (dC (.str "the columns are too few or too many")) zar))))
 (za1 (zbo (zbC 2 zau Qx (zad (zax 1 zaE (zad (zdK "left" (zah 0)) zar)) (zad (dC (.str "the NAMEs of left are not rising")) zar))))
 (za1 (zbo (zbC 2 zau Qx (zad (zax 1 zaE (zad (zdK "right" (zah 0)) zar)) (zad (dC (.str "the NAMEs of right are not rising")) zar))))
 (za1 (zbo (zbC 2 zau Qx (zad (zax 1 zaE (zad (zaX (zc3 (zdK "wide" (zah 0))) [none] (zaD 0) zdG (dOp oIx (zah 0) (dC (.int 0)))) zar)) (zad (dC (.str "the NAMEs of wide are not rising")) zar))))
 (za1 (zbo (zbC 2 zau Qx (zad (dCB zj9 (zad (zaX (zc3 (zdK "wide" (zah 0))) [none] (zaD 0) zdG (dOp (zj5 false) (dOp oIx (zah 0) (dC (.int 1))) (ziU (zad (dC (.int 2)) (zad (dC (.int 3)) zar))))) zar)) (zad (dC (.str "a width is not 2 or 3")) zar))))
 (za1 (zbo (zbC 2 zau Qx (zad (zax 1 zaE (zad (zaX (zc3 (zdK "bends" (zah 0))) [none] (zaD 0) zdG (dOp oIx (zah 0) (dC (.int 0)))) zar)) (zad (dC (.str "the columns of bends are not rising")) zar))))
 (za1 (zbo (zbC 2 zau Qx (zad (dOp (oI0 fun i j=>.bl (decide (i≤j))) (dCB zeO (zad (zdK "keeps" (zah 0)) zar)) (dC (.int 8))) (zad (dC (.str "the keeps are too many")) zar))))
 (zbo (zbC 2 zau Qx (zad (dOp (oI0 fun i j=>.bl (decide (i≤j))) (dCB zc6 (zad (zax 1 zbk (zad (zah 0) zar)) zar)) (dC (.int 24))) (zad (dC (.str "the NAMEs are too many")) zar))))))))))))
theorem zcu(ds:List D)(Qr:R→Prop)(Qx:Prop)(hl:ds.length=1)(h:zaL ds Qr Qx):za7 Qx { nx:=fun _=>Qr (.fz .non),rt:=Qr } (zay ["channel"] ds):=by
 obtain⟨n,c,rfl,hc,q,qx⟩:=h
 show za7 Qx _ [.fz c.obj]
 unfold za7
 have big:=zaN
 have l1:=hc.any.tl
 have l2:=hc.any.bl
 have l3:=hc.any.ll
 have l4:=hc.any.rl
 have l5:=hc.any.wl
 have l6:=hc.any.el
 have l7:=hc.any.kl
 unfold Chan.obj dP dS dW dB dK
 walk_at "px"
 refine⟨_,rfl,?_⟩
 dsimp only
 refine⟨_,rfl,?_⟩
 dsimp only
 refine ziJ (fun hb=>?_) fun hb=>qx fun g=>by
  simp only[List.length_map,decide_eq_false_iff_not] at hb
  exact hb (by rw[g.1])
 simp only[List.length_map,decide_eq_true_eq] at hb
 have g1:c.bottom.length=c.top.length:=by omega
 walk_at "go"
 refine⟨_,rfl,?_⟩
 dsimp only
 simp only[List.length_map]
 by_cases t1:1≤(c.top.length:Int)
 case neg=>
  simp only[t1,decide_false,Bool.false_eq_true,if_false]
  exact ziJ nofun fun _=>qx fun g=>t1 (by have:=g.2.1;omega)
 by_cases t2:(c.top.length:Int)≤40
 case neg=>
  simp only[t1,t2,decide_true,decide_false,if_true]
  exact ziJ nofun fun _=>qx fun g=>t2 (by have:=g.2.2.1;omega)
 simp only[t1,t2,decide_true,if_true]
 refine ziJ (fun _=>?_) nofun
 walk_at "go"
 refine⟨_,rfl,?_⟩
 refine .inl ⟨c.left,rfl,by omega,hc.lo,ziJ (fun _=>?_) nofun⟩
 walk_at "go"
 refine⟨_,rfl,?_⟩
 refine .inl ⟨c.right,rfl,by omega,hc.ro,ziJ (fun _=>?_) nofun⟩
 walk_at "go"
 refine zaC c.wide dWp (fun p=>.str p.1) (fun Q' h=>?_) (by omega) (fun p hp K1 k=>?_) ?_
 ·walk_at "px"
  exact⟨_,rfl,h⟩
 ·unfold dWp
  walk_at "px"
  exact⟨_,rfl,k⟩
 refine .inl ⟨c.wide.map (·.1),by unfold dS;rw[List.map_map];rfl,by rw[List.length_map];omega,hc.wo,ziJ (fun _=>?_) nofun⟩
 walk_at "go"
 refine zaC c.wide dWp (fun _=>.bl true) (fun Q' h=>?_) (by omega) (fun p hp K1 k=>?_) ?_
 ·walk_at "px"
  exact⟨_,rfl,h⟩
 ·unfold dWp
  walk_at "px"
  have e23:=zmM (hc.w23 p hp)
  refine⟨_,rfl,by omega,?_⟩
  rw[e23]
  refine⟨by rw[zdq];trivial,fun e he=>?_,k⟩
  simp only[List.mem_cons,List.not_mem_nil,or_false] at he
  rcases he with rfl | rfl<;>(rw[zdq];trivial)
 refine zeE _ (ziJ (fun _=>?_) nofun)
 walk_at "go"
 refine zaC c.bends dBp (fun p=>.int p.1) (fun Q' h=>?_) (by omega) (fun p hp K1 k=>?_) ?_
 ·walk_at "px"
  exact⟨_,rfl,h⟩
 ·unfold dBp
  walk_at "px"
  exact⟨_,rfl,k⟩
 refine .inr ⟨c.bends.map (·.1),by unfold dI;rw[List.map_map];rfl,by rw[List.length_map];omega,hc.eo,ziJ (fun _=>?_) nofun⟩
 walk_at "go"
 refine⟨_,rfl,?_⟩
 dsimp only
 simp only[List.length_map]
 refine ziJ (fun hb=>?_) fun hb=>qx fun g=>by
  simp only[decide_eq_false_iff_not] at hb
  exact hb (by have:=g.2.2.2.1;omega)
 simp only[decide_eq_true_eq] at hb
 walk_at "go"
 refine⟨c,rfl,hc.any,?_⟩
 walk_at "px"
 refine⟨ziI hc.any,fun l nd hm=>?_⟩
 have hn:=hc.nn l nd hm
 refine ziJ (fun hb2=>q ⟨g1,by omega,by omega,by omega,?_⟩) fun hb2=>qx fun g=>?_
 ·simp only[decide_eq_true_eq] at hb2
  omega
 ·simp only[decide_eq_false_iff_not] at hb2
  exact hb2 (by have:=g.2.2.2.2;omega)
end Wc
namespace Wc
open PySem L2 PyProof.Rows
local macro_rules | `(tactic| walk_at "px")=>`(tactic| (repeat(first | walk_at "b" | simp only[zjA,zb5,zbC])))
local macro_rules | `(tactic| walk_at "go")=>`(tactic| (simp only[ziV];walk_at "px"))
noncomputable def zbE:SpD:=fun ds Q=>∃a b c d e f g:List D,ds=[.lst a,.lst b,.lst c,.lst d,.lst e,.lst f,.lst g]∧Q (.fz (.obj "Channel" [("top",.lst a),("bottom",.lst b),("left",.lst c),("right",.lst d),("wide",.lst e),("bends",.lst f),("keeps",.lst g)]))
noncomputable def zcv:TI0:=(zjy "top" (dCB zb5 (zad (zah 1) zar)) (zjy "bottom" (dCB zb5 (zad (zah 2) zar)) (zjy "left" (dCB zb5 (zad (zah 3) zar)) (zjy "right" (dCB zb5 (zad (zah 4) zar)) (zjy "wide" (dCB zb5 (zad (zah 5) zar)) (zjy "bends" (dCB zb5 (zad (zah 6) zar)) (zjy "keeps" (dCB zb5 (zad (zah 7) zar)) znq)))))))
theorem zfx(ds:List D)(Qr:R→Prop)(NA:List (Str×D)→Prop)(na:∀fs:List (Str×D),fs.map (·.1)=(["top","bottom","left","right","wide","bends","keeps"]:List Str)→NA fs)(h:zbE ds Qr) :
  zcv (zcX ["self","top","bottom","left","right","wide","bends","keeps"] ds) [] fun fs=>NA fs∧Qr (.fz (.obj "Channel" fs)):=by
 obtain⟨a,b,c,d,e,f,g,rfl,q⟩:=h
 show zcv [.un,.fz (.lst a),.fz (.lst b),.fz (.lst c),.fz (.lst d),.fz (.lst e),.fz (.lst f),.fz (.lst g)] [] _
 unfold zcv
 simp only[zjy,znq,dCB,zad,zar,zah,gt,zb5,zgy,zh5]
 exact⟨by decide,show 1<1000 by decide,show 2<1000 by decide,show 3<1000 by decide,show 4<1000 by decide,show 5<1000 by decide,show 6<1000 by decide,na _ rfl,q⟩
noncomputable def zaM:SpX:=fun ds Q Qx=>∃(t:Str) (n:Nat) (c:Chan),ds=[.str t]∧t.length≤1000000∧zfr t=zaK c∧AnyC5 n c∧(zf5 n c→Q (.fz c.obj))∧(¬zf5 n c→Qx)
theorem ziK{c:Chan}(h:AnyCh c):(zaK c).length≤100:=(zjQ h).1
theorem zjR(c:Chan):(zaK c).map (fun ws=>ws.headD "")=zaO c.wide.length c.bends.length c.keeps.length:=by
 simp[zaK,zaO,List.map_const',Function.comp_def]
theorem zeF{ws:List Str}(h:ws≠[]):atI ws 0=some (ws.headD ""):=by
 cases ws with
 | nil=>exact absurd rfl h
 | cons a r=>simp[zjP]
theorem zda(c:Chan):∀ws∈zaK c,ws≠[]:=by
 intro ws h
 simp only[zaK,List.mem_cons,List.mem_append,List.mem_map] at h
 rcases h with rfl | rfl | rfl | rfl | (⟨p,_,rfl⟩ | ⟨p,_,rfl⟩) | ⟨p,_,rfl⟩<;>simp
theorem ziL{α:Type}(l:List α)(u:α→List Str)(f:List Str→Option D)(g:α→D)(h:∀x∈l,f (u x)=some (g x)):(l.map u).filterMap f=l.map g:=by
 induction l with
 | nil=>rfl
 | cons a r ih=>rw[List.map_cons,List.filterMap_cons,h a (by simp),ih fun x hx=>h x (by simp[hx])];rfl
theorem zcM{α:Type}(l:List α)(u:α→List Str)(f:List Str→Option D)(h:∀x∈l,f (u x)=none):(l.map u).filterMap f=[]:=by
 induction l with
 | nil=>rfl
 | cons a r ih=>rw[List.map_cons,List.filterMap_cons,h a (by simp),ih fun x hx=>h x (by simp[hx])]
noncomputable def fH(h:Str)(g:List Str→D)(ws:List Str):Option D:=if ws.headD ""=h then some (g ws) else none
noncomputable def rdN(ws:List Str)(k:Nat):D:=.int ((PySem.intText? (ws.getD k "")).getD 0)
noncomputable def rdW(ws:List Str):D:=.tup [.str (ws.getD 1 ""),rdN ws 2]
noncomputable def rdB(ws:List Str):D:=.tup [rdN ws 1,.str (ws.getD 2 "")]
noncomputable def rdK(ws:List Str):D:=.tup [rdN ws 1,rdN ws 2,rdN ws 3]
theorem zkk(p:Str×Int)(h:In100 p.2):rdW ["wide",p.1,zaP p.2]=dWp p:=by simp[rdW,rdN,zcK _ h,dWp]
theorem zkl(p:Int×Str)(h:In100 p.1):rdB ["bend",zaP p.1,p.2]=dBp p:=by simp[rdB,rdN,zcK _ h,dBp]
theorem zkm(p:Int×Int×Int)(h:In100 p.1)(h2:In100 p.2.1)(h3:In100 p.2.2):rdK ["keep",zaP p.1,zaP p.2.1,zaP p.2.2]=dKp p:=by simp[rdK,rdN,zcK _ h,zcK _ h2,zcK _ h3,dKp]
theorem zbK{a h:Str}{g:List Str→D}{l:List Str}(hn:a≠h):fH h g (a::l)=none:=if_neg hn
theorem zhd{h:Str}{g:List Str→D}{l:List Str}:fH h g (h::l)=some (g (h::l)):=if_pos rfl
theorem fmW{c:Chan}(hc:AnyCh c):(zaK c).filterMap (fH "wide" rdW)=c.wide.map dWp:=by
 unfold zaK
 rw[List.filterMap_cons,zbK (by decide +kernel),List.filterMap_cons,zbK (by decide +kernel),List.filterMap_cons,zbK (by decide +kernel),List.filterMap_cons,zbK (by decide +kernel)]
 dsimp only
 rw[List.filterMap_append,List.filterMap_append,ziL c.wide _ _ dWp fun p hp=>by rw[zhd,zkk p (hc.ws p hp).2],zcM c.bends _ _ fun p _=>zbK (by decide +kernel),zcM c.keeps _ _ fun p _=>zbK (by decide +kernel),List.append_nil,List.append_nil]
theorem fmB{c:Chan}(hc:AnyCh c):(zaK c).filterMap (fH "bend" rdB)=c.bends.map dBp:=by
 unfold zaK
 rw[List.filterMap_cons,zbK (by decide +kernel),List.filterMap_cons,zbK (by decide +kernel),List.filterMap_cons,zbK (by decide +kernel),List.filterMap_cons,zbK (by decide +kernel)]
 dsimp only
 rw[List.filterMap_append,List.filterMap_append,zcM c.wide _ _ fun p _=>zbK (by decide +kernel),ziL c.bends _ _ dBp fun p hp=>by rw[zhd,zkl p (hc.es p hp).1],zcM c.keeps _ _ fun p _=>zbK (by decide +kernel),List.append_nil,List.nil_append]
theorem fmK{c:Chan}(hc:AnyCh c):(zaK c).filterMap (fH "keep" rdK)=c.keeps.map dKp:=by
 unfold zaK
 rw[List.filterMap_cons,zbK (by decide +kernel),List.filterMap_cons,zbK (by decide +kernel),List.filterMap_cons,zbK (by decide +kernel),List.filterMap_cons,zbK (by decide +kernel)]
 dsimp only
 rw[List.filterMap_append,List.filterMap_append,zcM c.wide _ _ fun p _=>zbK (by decide +kernel),zcM c.bends _ _ fun p _=>zbK (by decide +kernel),ziL c.keeps _ _ dKp fun p hp=>by rw[zhd,zkm p (hc.ks p hp).1 (hc.ks p hp).2.1 (hc.ks p hp).2.2],List.append_nil,List.nil_append]
theorem zf6{c:Chan}{ws:List Str}(h:ws∈zaK c):(ws.headD ""="wide"→∃p∈c.wide,ws=([Str.ofString "wide",p.1,zaP p.2]:List Str))∧(ws.headD ""="bend"→∃p∈c.bends,ws=([Str.ofString "bend",zaP p.1,p.2]:List Str))∧(ws.headD ""="keep"→∃p∈c.keeps,ws=([Str.ofString "keep",zaP p.1,zaP p.2.1,zaP p.2.2]:List Str)):=by
 have no:∀(a b:String) {l:List Str} {P:Prop},Str.ofString a≠Str.ofString b→((Str.ofString a::l).headD ""=Str.ofString b)→P:=fun a b _ _ h e=>absurd e h
 simp only[zaK,List.mem_cons,List.mem_append,List.mem_map] at h
 rcases h with rfl | rfl | rfl | rfl | (⟨p,hp,rfl⟩ | ⟨p,hp,rfl⟩) | ⟨p,hp,rfl⟩
 ·exact⟨no "top" "wide" (by decide +kernel),no "top" "bend" (by decide +kernel),no "top" "keep" (by decide +kernel)⟩
 ·exact⟨no "bottom" "wide" (by decide +kernel),no "bottom" "bend" (by decide +kernel),no "bottom" "keep" (by decide +kernel)⟩
 ·exact⟨no "left" "wide" (by decide +kernel),no "left" "bend" (by decide +kernel),no "left" "keep" (by decide +kernel)⟩
 ·exact⟨no "right" "wide" (by decide +kernel),no "right" "bend" (by decide +kernel),no "right" "keep" (by decide +kernel)⟩
 ·exact⟨fun _=>⟨p,hp,rfl⟩,no "wide" "bend" (by decide +kernel),no "wide" "keep" (by decide +kernel)⟩
 ·exact⟨no "bend" "wide" (by decide +kernel),fun _=>⟨p,hp,rfl⟩,no "bend" "keep" (by decide +kernel)⟩
 ·exact⟨no "keep" "wide" (by decide +kernel),no "keep" "bend" (by decide +kernel),fun _=>⟨p,hp,rfl⟩⟩
theorem at4(a b c' d:List Str)(r:List (List Str)):atI (a::b::c'::d::r) 0=some a∧atI (a::b::c'::d::r) 1=some b∧atI (a::b::c'::d::r) 2=some c'∧atI (a::b::c'::d::r) 3=some d:=
 ⟨zcp (j:=0) (by simp),zcp (j:=1) (by simp),zcp (j:=2) (by simp),zcp (j:=3) (by simp)⟩
theorem zmN{n:Nat}{c:Chan}(hc:AnyC5 n c):(∀w,some w∈c.top→IsNm w)∧(∀w,some w∈c.bottom→IsNm w)∧(∀w∈c.left,IsNm w)∧(∀w∈c.right,IsNm w)∧(∀p∈c.wide,IsNm p.1)∧∀p∈c.bends,IsNm p.2:=by
 have h:∀w,w∈namesF c→IsNm w:=hc.nm
 simp only[namesF,List.mem_append,List.mem_filterMap,List.mem_map,id] at h
 exact⟨fun w hw=>h w (.inl (.inl (.inl ⟨_,.inl hw,rfl⟩))),fun w hw=>h w (.inl (.inl (.inl ⟨_,.inr hw,rfl⟩))),fun w hw=>h w (.inl (.inl (.inr (.inl hw)))),fun w hw=>h w (.inl (.inl (.inr (.inr hw)))),fun p hp=>h _ (.inl (.inr ⟨p,hp,rfl⟩)),fun p hp=>h _ (.inr ⟨p,hp,rfl⟩)⟩
noncomputable def za8(Qx:Prop):TX:=(za1 (zaT 1 (zax 1 zbs (zad (zah 0) zar)))
 (za1 (zbo (zax 1 zaQ (zad (zaX (zc3 (zah 1)) [none] (zaD 0) zdG (dOp oIx (zah 0) (dC (.int 0)))) zar)))
 (za1 (zaT 2 (zax 7 zbE (zad (zax 1 za0 (zad (dSl (dOp oIx (zah 1) (dC (.int 0))) (zbB (dC (.int 1))) oNo) zar)) (zad (zax 1 za0 (zad (dSl (dOp oIx (zah 1) (dC (.int 1))) (zbB (dC (.int 1))) oNo) zar)) (zad (zax 1 zaS (zad (dSl (dOp oIx (zah 1) (dC (.int 2))) (zbB (dC (.int 1))) oNo) zar)) (zad (zax 1 zaS (zad (dSl (dOp oIx (zah 1) (dC (.int 3))) (zbB (dC (.int 1))) oNo) zar)) (zad (zaX (zc3 (zah 1)) [none] (zaD 0) (zeb (dOp oEq (dOp oIx (zah 0) (dC (.int 0))) (dC (.str "wide")))) (zax 1 zbh (zad (zah 0) zar))) (zad (zaX (zc3 (zah 1)) [none] (zaD 0) (zeb (dOp oEq (dOp oIx (zah 0) (dC (.int 0))) (dC (.str "bend")))) (zax 1 zbi (zad (zah 0) zar))) (zad (zaX (zc3 (zah 1)) [none] (zaD 0) (zeb (dOp oEq (dOp oIx (zah 0) (dC (.int 0))) (dC (.str "keep")))) (zax 1 zbj (zad (zah 0) zar))) zar)))))))))
 (za1 (zbo (zbC 1 zaL Qx (zad (zah 2) zar)))
 (zdI (zah 2))))))
theorem zcw(ds:List D)(Qr:R→Prop)(Qx:Prop)(hl:ds.length=1)(h:zaM ds Qr Qx):za8 Qx { nx:=fun _=>Qr (.fz .non),rt:=Qr } (zay ["text","lines","channel"] ds):=by
 obtain⟨t,n,c,rfl,ht,hlc,hc,q,qx⟩:=h
 show za8 Qx _ [.fz (.str t),.un,.un]
 unfold za8
 obtain⟨nt,nb,nl,nr,nw,ne⟩:=zmN hc
 have big:=zaN
 have ll:=ziK hc.any
 walk_at "px"
 refine⟨t,rfl,ht,?_⟩
 rw[hlc]
 walk_at "go"
 refine zaC (zaK c) dS (fun ws=>.str (ws.headD "")) (fun Q' h=>?_) (by omega) (fun ws hw K1 k=>?_) ?_
 ·walk_at "px"
  exact h
 ·unfold dS
  walk_at "px"
  exact⟨_,zeF (zda c ws hw),k⟩
 refine⟨c.wide.length,c.bends.length,c.keeps.length,?_,by have:=hc.any.wl;omega,by have:=hc.any.el;omega,by have:=hc.any.kl;omega,?_⟩
 ·show [D.lst _]=[dS _]
  rw[←zjR]
  unfold dS
  rw[List.map_map]
  rfl
 walk_at "go"
 obtain⟨a0,a1,a2,a3⟩:=at4 ("top"::c.top.map pinS) ("bottom"::c.bottom.map pinS) ("left"::c.left) ("right"::c.right) (c.wide.map (fun p=>(["wide",p.1,zaP p.2]:List Str))++c.bends.map (fun p=>(["bend",zaP p.1,p.2]:List Str))++c.keeps.map (fun p=>(["keep",zaP p.1,zaP p.2.1,zaP p.2.2]:List Str)))
 have l1:=hc.any.tl
 have l2:=hc.any.bl
 have l3:=hc.any.ll
 have l4:=hc.any.rl
 have cut1:∀(a:Str) (l:List Str),D.lst (zdl ((a::l).map D.str) (some 1) none)=dS l:=fun a l=>by rw[zbN _ (by decide)];rfl
 refine⟨_,a0,?_⟩
 unfold dS
 dsimp only
 rw[cut1]
 refine⟨c.top,rfl,by omega,nt,?_⟩
 refine⟨_,a1,?_⟩
 rw[cut1]
 refine⟨c.bottom,rfl,by omega,nb,?_⟩
 refine⟨_,a2,?_⟩
 rw[cut1]
 refine⟨c.left,rfl,by omega,nl,?_⟩
 refine⟨_,a3,?_⟩
 rw[cut1]
 refine⟨c.right,rfl,by omega,nr,?_⟩
 clear a0 a1 a2 a3
 refine zdm (zaK c) dS (fH "wide" rdW) (fun Q' h=>?_) (by omega) (fun ws hw K1 K0 k1 k0=>?_) ?_
 ·walk_at "px"
  exact h
 ·have hd:=zeF (zda c ws hw)
  unfold dS
  walk_at "px"
  refine⟨_,hd,?_⟩
  by_cases hh:ws.headD ""=Str.ofString "wide"
  ·obtain⟨p,hp,rfl⟩:=(zf6 hw).1 hh
   rw[if_pos hh]
   refine⟨p,rfl,nw p hp,(hc.any.ws p hp).2,?_⟩
   exact k1 _ (by rw[zhd,zkk p (hc.any.ws p hp).2];rfl)
  ·rw[if_neg hh]
   exact k0 (if_neg hh)
 rw[fmW hc.any]
 refine zdm (zaK c) dS (fH "bend" rdB) (fun Q' h=>?_) (by omega) (fun ws hw K1 K0 k1 k0=>?_) ?_
 ·walk_at "px"
  exact h
 ·have hd:=zeF (zda c ws hw)
  unfold dS
  walk_at "px"
  refine⟨_,hd,?_⟩
  by_cases hh:ws.headD ""=Str.ofString "bend"
  ·obtain⟨p,hp,rfl⟩:=(zf6 hw).2.1 hh
   rw[if_pos hh]
   refine⟨p,rfl,ne p hp,(hc.any.es p hp).1,?_⟩
   exact k1 _ (by rw[zhd,zkl p (hc.any.es p hp).1];rfl)
  ·rw[if_neg hh]
   exact k0 (if_neg hh)
 rw[fmB hc.any]
 refine zdm (zaK c) dS (fH "keep" rdK) (fun Q' h=>?_) (by omega) (fun ws hw K1 K0 k1 k0=>?_) ?_
 ·walk_at "px"
  exact h
 ·have hd:=zeF (zda c ws hw)
  unfold dS
  walk_at "px"
  refine⟨_,hd,?_⟩
  by_cases hh:ws.headD ""=Str.ofString "keep"
  ·obtain⟨p,hp,rfl⟩:=(zf6 hw).2.2 hh
   rw[if_pos hh]
   refine⟨p,rfl,(hc.any.ks p hp).1,(hc.any.ks p hp).2.1,(hc.any.ks p hp).2.2,?_⟩
   exact k1 _ (by rw[zhd,zkm p (hc.any.ks p hp).1 (hc.any.ks p hp).2.1 (hc.any.ks p hp).2.2];rfl)
  ·rw[if_neg hh]
   exact k0 (if_neg hh)
 rw[fmK hc.any]
 refine⟨_,_,_,_,_,_,_,rfl,?_⟩
 walk_at "go"
 refine⟨n,c,rfl,hc,fun g=>?_,qx⟩
 walk_at "go"
 exact q g
end Wc
namespace Wc
open PySem L2 PyProof.Rows
local macro_rules | `(tactic| walk_at "px")=>`(tactic| (repeat(first | walk_at "b" | simp only[zfW])))
local macro_rules | `(tactic| walk_at "go")=>`(tactic| (simp only[ziV];walk_at "px"))
noncomputable def abc:Str:="abcdefghijklmnopqrstuvwxyz"
theorem zmO:∀k:Fin 26,atI abc.cps.toList (k.val:Int)=some (97+k.val):=by decide +kernel
theorem zf7(c:Int):atI abc.cps.toList (c%26)=some (97+(c%26).toNat):=by
 have h0:=Int.emod_nonneg c (show(26:Int)≠0 by decide)
 have h1:=Int.emod_lt_of_pos c (show(0:Int)<26 by decide)
 have:=zmO ⟨(c%26).toNat,by omega⟩
 simp only at this
 rwa [Int.toNat_of_nonneg h0] at this
noncomputable def zeG(a b i x:Nat):List Nat:=[a,b].take i++[x]++[a,b].drop i
noncomputable def zdT(k s:Int):Str:=mkS (zeG (97+(s%26).toNat) (97+(s/26%26).toNat) (s/676%3).toNat (97+((k+s/2048)%26).toNat))
theorem ziM{a b i x y:Nat}(h:zeG a b i x=zeG a b i y):x=y:=by
 unfold zeG at h
 have h2:=(List.append_inj h (by simp)).1
 simpa using h2
theorem zfy(a b i x:Nat):(zeG a b i x).length=3:=by
 unfold zeG
 have:=List.length_take (i:=i) (l:=[a,b])
 have:=List.length_drop (i:=i) (l:=[a,b])
 simp only[List.length_append,List.length_cons,List.length_nil] at *
 omega
theorem ziN{a b i x:Nat}:∀z∈zeG a b i x,z=a∨z=b∨z=x:=by
 intro z hz
 unfold zeG at hz
 simp only[List.mem_append,List.mem_singleton] at hz
 rcases hz with(hz | hz) | hz
 ·have:=List.mem_of_mem_take hz
  simp at this
  omega
 ·exact .inr (.inr hz)
 ·have:=List.mem_of_mem_drop hz
  simp at this
  omega
theorem zlh(k s:Int):IsNm (zdT k s):=by
 refine⟨?_,fun x hx=>?_⟩
 ·unfold zdT
  rw[zf0,zfy]
  omega
 ·unfold zdT at hx
  rw[zfZ] at hx
  have:=ziN x hx
  omega
theorem zjS{k k' s:Int}(h0:0≤k)(h1:k<26)(h2:0≤k')(h3:k'<26)(h:zdT k s=zdT k' s):k=k':=by
 unfold zdT at h
 have:=ziM (mkS_inj.mp h)
 omega
noncomputable def zbl:SpD:=fun ds Q=>∃k s:Int,ds=[.int k,.int s]∧0≤s∧Q (.fz (.str (zdT k s)))
noncomputable def zcd:TX:=(za1 (zaT 2 (dC (.str "abcdefghijklmnopqrstuvwxyz")))
 (za1 (zaT 3 (dOp zbZ (dOp oIx (zah 2) (dOp (oI (fun _ j=>0<j) fun i j=>.int (i%j)) (zah 1) (dC (.int 26)))) (dOp oIx (zah 2) (dOp (oI (fun _ j=>0<j) fun i j=>.int (i%j)) (dOp (oI zek fun i j=>.int (i/j)) (zah 1) (dC (.int 26))) (dC (.int 26))))))
 (za1 (zaT 4 (dOp (oI (fun _ j=>0<j) fun i j=>.int (i%j)) (dOp (oI zek fun i j=>.int (i/j)) (zah 1) (dC (.int 676))) (dC (.int 3))))
 (zdI (dOp zbZ (dOp zbZ (dSl (zah 3) oNo (zbB (zah 4))) (dOp oIx (zah 2) (dOp (oI (fun _ j=>0<j) fun i j=>.int (i%j)) (dOp zbZ (zah 0) (dOp (oI zek fun i j=>.int (i/j)) (zah 1) (dC (.int 2048)))) (dC (.int 26))))) (dSl (zah 3) (zbB (zah 4)) oNo))))))
theorem zdU(ds:List D)(Qr:R→Prop)(hl:ds.length=2)(h:zbl ds Qr):zcd { nx:=fun _=>Qr (.fz .non),rt:=Qr } (zay ["_law_k","_law_seed","_law_letters","_law_rest","_law_at"] ds):=by
 obtain⟨k,s,rfl,hs,q⟩:=h
 show zcd _ [.fz (.int k),.fz (.int s),.un,.un,.un]
 unfold zcd
 have big:=zaN
 walk_at "px"
 walk_at "go"
 have al:(Str.ofString "abcdefghijklmnopqrstuvwxyz").length≤sizeLine:=by rw[big];decide +kernel
 have one:∀c:Nat,(⟨#[c]⟩:Str).length=1:=fun _=>rfl
 refine⟨al,_,zf7 s,al,_,zf7 (s/26),by rw[one,one];omega,?_⟩
 rw[mk1,mk1,zf1]
 walk_at "go"
 have h0:=Int.emod_nonneg (s/676) (show(3:Int)≠0 by decide)
 walk_at "go"
 rw[zlf _ h0,zis _ h0]
 refine⟨by rw[zf0];simp;omega,al,_,zf7 (k+s/2048),?_⟩
 rw[mk1,zf1]
 simp only[zf0]
 rw[zf1]
 have hw:=zfy (97+(s%26).toNat) (97+(s/26%26).toNat) (s/676%3).toNat (97+((k+s/2048)%26).toNat)
 have ht:=List.length_take_le (s/676%3).toNat [97+(s%26).toNat,97+(s/26%26).toNat]
 unfold zeG at hw
 rw[List.length_append] at hw
 have e1:∀x:Nat,[x].length=1:=fun _=>rfl
 have e2:∀x y:Nat,[x,y].length=2:=fun _ _=>rfl
 simp only[e1,e2] at *
 exact⟨by omega,by omega,by omega,q⟩
noncomputable def zaF:SpD:=fun ds Q=>∃(h:Str) (ws:List Str),ds=[.str h,dS ws]∧zcq (h::ws)∧Q (.fz (.str (Txt.join " " (h::ws)++"\n")))
noncomputable def zce:TX:=(zdI (dOp zbZ (dM "str" zfW (dC (.str " ")) (zad (dOp zbZ (zgs (zad (zah 0) zar)) (zah 1)) zar)) (dC (.str "\n"))))
theorem zdV(ds:List D)(Qr:R→Prop)(hl:ds.length=2)(h:zaF ds Qr):zce { nx:=fun _=>Qr (.fz .non),rt:=Qr } (zay ["_law_head","_law_words"] ds):=by
 obtain⟨w,ws,rfl,ho,q⟩:=h
 show zce _ [.fz (.str w),.fz (dS ws)]
 unfold zce dS
 have big:=zaN
 have h3:=zgH ho
 have h4:=zcr ho
 have h5:=ho.1
 rw[zaV] at h4
 walk_at "px"
 have e:zbb (D.str w::ws.map D.str)=some (w::ws):=by rw[←List.map_cons,zbm]
 simp only[List.length_cons] at h5
 rw[e]
 exact⟨rfl,by omega,by rw[List.length_map];omega,by omega,by omega,q⟩
noncomputable def Tx(t:Str)(L:List (List Str)):Prop:=∀r:List Nat,zbP (cp t++r)=L.map (fun ws=>ws.map cp)++zbP r
theorem Tx.lines{t:Str}{L:List (List Str)}(h:Tx t L):zfr t=L:=zds (by
 have:=h []
 rw[List.append_nil,zhc,List.append_nil] at this
 rw[ziF,this])
theorem Tx.app{a b:Str}{L M:List (List Str)}(h1:Tx a L)(h2:Tx b M):Tx (a++b) (L++M):=fun r=>by rw[zb1,List.append_assoc,h1,h2,List.map_append,List.append_assoc]
theorem Tx.line{s:Str}{l:List Nat}{ws:List Str}(e:cp s=l++[10])(hf:10∉l)(hw:zbq l=ws.map cp)(hn:ws≠[]):Tx s [ws]:=fun r=>by
 rw[e,List.append_assoc,List.singleton_append,zhb,zf2 hf (by rw[hw];simpa using hn),hw]
 rfl
theorem Tx.words{ws:List Str}(hw:∀w∈ws,WdS w)(hn:ws≠[]):Tx (Txt.join " " ws++"\n") [ws]:=by
 have h:∀w∈ws.map cp,Wd w:=fun w h=>by
  obtain⟨x,hx,rfl⟩:=List.mem_map.mp h
  exact hw x hx
 refine Tx.line (l:=zcH 32 (ws.map cp)) ?_ (zfp _ h) (zeh _ h) hn
 rw[zb1,ziD,zc9]
 show(Txt.join ⟨#[32]⟩ ws).cps.toList++_=_
 rw[zcs]
 rfl
theorem zgK(l:List Str):cp (Txt.join "" l)=(l.map cp).flatten:=by
 cases l with
 | nil=>rfl
 | cons a l=>
  show(Txt.join (Str.ofString "") (a::l)).cps.toList=_
  rw[zeA,show(Str.ofString "").cps.toList=[] by decide +kernel]
  simp only[List.nil_append,List.map_cons,List.flatten_cons]
  rfl
theorem Tx.flat{α:Type}(f:α→Str)(g:α→List Str):∀l:List α,(∀x∈l,Tx (f x) [g x])→Tx (Txt.join "" (l.map f)) (l.map g)
 | [],_=>fun r=>by rw[zgK];rfl
 | a::l,h=>fun r=>by
  have ih:=Tx.flat f g l (fun x hx=>h x (by simp[hx])) r
  rw[zgK] at ih ⊢
  rw[List.map_cons,List.map_cons,List.flatten_cons,List.append_assoc,h a (by simp),ih]
  rfl
theorem zgL:∀(n:Nat) (x a:Array Nat),((List.replicate n x).foldl (·++·) a).toList=a.toList++(List.replicate n x.toList).flatten
 | 0,x,a=>by simp
 | n+1,x,a=>by
  rw[List.replicate_succ,List.foldl_cons,zgL n x,List.replicate_succ]
  simp
theorem ziO{x:Str}{n:Int}(h:0≤n):cp (Txt.mul x n)=(List.replicate n.toNat (cp x)).flatten:=by
 unfold Txt.mul
 by_cases h1:n<1
 ·obtain rfl:n=0:=by omega
  rfl
 ·rw[if_neg h1]
  split
  ·rename_i h2
   simp only[Bool.or_eq_true,beq_iff_eq] at h2
   rcases h2 with rfl | h2
   ·simp
   ·have:cp x=[]:=by
     have:=zfq x
     rw[h2] at this
     exact List.length_eq_zero_iff.mp this
    rw[this]
    simp
  ·show((List.replicate n.toNat x.cps).foldl (·++·) #[]).toList=_
   rw[zgL]
   rfl
theorem Tx.rep{s:Str}{ws:List Str}(h:Tx s [ws]){n:Int}(hn:0≤n):Tx (Txt.mul s n) (List.replicate n.toNat ws):=by
 intro r
 rw[ziO hn]
 generalize n.toNat=m
 induction m with
 | zero=>rfl
 | succ m ih=>
  rw[List.replicate_succ,List.replicate_succ,List.flatten_cons,List.append_assoc,h,ih]
  rfl
theorem ziP{w:Str}(h:IsNm w):WdS w:=by
 refine⟨fun e=>?_,fun m=>?_,fun m=>?_⟩
 ·have:=zfq w
  rw[e] at this
  have:=h.1.1
  simp at *
  omega
 ·have:=h.2 32 m
  omega
 ·have:=h.2 10 m
  omega
end Wc
namespace Wc
open PySem L2 PyProof.Rows
noncomputable def ix3(j n:Nat):List Nat:=zef (some (j:Int)) none (some 3) n
theorem zkn:∀n:Fin 27,((ix3 0 n.val++ix3 1 n.val++ix3 2 n.val).all (fun i=>decide (i<n.val))=true∧(List.range n.val).all (fun i=>(ix3 0 n.val++ix3 1 n.val++ix3 2 n.val).contains i)=true)∧((ix3 0 n.val).Nodup∧(ix3 1 n.val).Nodup)∧(ix3 0 n.val).length≤9∧(ix3 1 n.val).length≤9∧(ix3 2 n.val).length≤9:=by decide +kernel
noncomputable def st3(j:Nat)(xs:List Str):List Str:=zfY xs (some (j:Int)) none (some 3)
theorem zf8{j:Nat}{xs:List Str}{x:Str}:x∈st3 j xs↔∃i∈ix3 j xs.length,xs[i]?=some x:=List.mem_filterMap
theorem zfz{j:Nat}{xs:List Str}(hx:xs.Nodup)(hi:(ix3 j xs.length).Nodup):(st3 j xs).Nodup:=by
 unfold st3 zfY List.Nodup
 rw[List.pairwise_filterMap]
 refine List.Pairwise.imp (fun{a b} hab x ha y hb e=>hab ?_) hi
 subst e
 exact(List.getElem?_inj (List.getElem?_eq_some_iff.mp ha).1 hx).mp (ha.trans hb.symm)
theorem zf9(j:Nat)(xs:List Str):(st3 j xs).length≤(ix3 j xs.length).length:=List.length_filterMap_le _ _
theorem zga(j:Nat)(xs:List Str):zfY (xs.map D.str) (some (j:Int)) none (some 3)=(st3 j xs).map D.str:=by
 unfold st3 zfY
 rw[List.length_map,List.map_filterMap]
 congr 1
 funext i
 rw[List.getElem?_map]
structure Split3 (ns:List Str) (w:Nat) (L W B:List Str):Prop where
 mem:∀x,(x∈L∨x∈W∨x∈B)↔x∈ns.drop w
 nl:L.Nodup
 nw:W.Nodup
 ll:L.length≤26
 wl:W.length≤9
 bl:B.length≤9
theorem ziQ{ns:List Str}(w:Nat)(hn:ns.Nodup)(hl:ns.length≤26):Split3 ns w (ns.drop w) [] []:=
 ⟨fun x=>by simp,hn.sublist (List.drop_sublist _ _),.nil,by rw[List.length_drop];omega,by simp,by simp⟩
theorem zgb{ns:List Str}(w:Nat)(hn:ns.Nodup)(hl:ns.length≤26):Split3 ns w (st3 0 (ns.drop w)) (st3 1 (ns.drop w)) (st3 2 (ns.drop w)):=by
 have hl2:(ns.drop w).length≤26:=by rw[List.length_drop];omega
 have hn2:(ns.drop w).Nodup:=hn.sublist (List.drop_sublist _ _)
 generalize hxs:ns.drop w=xs at hl2 hn2 ⊢
 obtain⟨⟨h1,h2⟩,⟨h3,h4⟩,h5,h6,h7⟩:=zkn ⟨xs.length,by omega⟩
 simp only at h1 h2 h3 h4 h5 h6 h7
 have g0:=zf9 0 xs
 have g1:=zf9 1 xs
 have g2:=zf9 2 xs
 refine⟨fun x=>?_,zfz hn2 h3,zfz hn2 h4,by omega,by omega,by omega⟩
 rw[hxs,zf8,zf8,zf8]
 constructor
 ·rintro(⟨i,_,e⟩ | ⟨i,_,e⟩ | ⟨i,_,e⟩)<;>exact List.mem_of_getElem? e
 ·intro hx
  obtain⟨i,hi,e⟩:=List.mem_iff_getElem.mp hx
  have e':xs[i]?=some x:=by rw[List.getElem?_eq_getElem hi,e]
  have hc:=List.all_eq_true.mp h2 i (List.mem_range.mpr hi)
  simp only[List.contains_eq_mem,List.mem_append,decide_eq_true_eq] at hc
  rcases hc with(hc | hc) | hc
  ·exact .inl ⟨i,hc,e'⟩
  ·exact .inr (.inl ⟨i,hc,e'⟩)
  ·exact .inr (.inr ⟨i,hc,e'⟩)
theorem Split3.perm{ns:List Str}{w:Nat}{L W B L' W':List Str}(h:Split3 ns w L W B)(pl:L'.Perm L)(pw:W'.Perm W):Split3 ns w L' W' B:=
 ⟨fun x=>by rw[pl.mem_iff,pw.mem_iff];exact h.mem x,pl.nodup_iff.mpr h.nl,pw.nodup_iff.mpr h.nw,by rw[pl.length_eq];exact h.ll,by rw[pw.length_eq];exact h.wl,h.bl⟩
noncomputable def ch5(ns:List Str)(w b:Nat)(L R W B:List Str)(k:Nat):Chan:=⟨(List.range w).map fun i=>ns[i]?,List.replicate b none,L,R,W.map fun x=>(x,2),B.zipIdx.map fun p=>((p.2:Int),p.1),List.replicate k (0,0,1)⟩
theorem zmP{ns:List Str}{w b k:Nat}{L R W B:List Str}(h:Split3 ns w L W B)(hr:∀x∈R,x∈ns):∀x,x∈namesF (ch5 ns w b L R W B k)↔x∈ns:=by
 intro x
 have hm:=h.mem x
 simp only[namesF,ch5,List.mem_append,List.mem_filterMap,List.mem_map,List.mem_range,List.mem_replicate,id]
 constructor
 ·rintro(((⟨y,(⟨i,hi,e⟩ | ⟨_,e⟩),rfl⟩ | (hx | hx)) | ⟨p,⟨y,hy,rfl⟩,rfl⟩) | ⟨p,⟨q,hq,rfl⟩,rfl⟩)
  ·exact List.mem_of_getElem? e
  ·cases e
  ·exact List.mem_of_mem_drop (hm.mp (.inl hx))
  ·exact hr x hx
  ·exact List.mem_of_mem_drop (hm.mp (.inr (.inl hy)))
  ·exact List.mem_of_mem_drop (hm.mp (.inr (.inr (List.fst_mem_of_mem_zipIdx hq))))
 ·intro hx
  obtain⟨i,hi,e⟩:=List.mem_iff_getElem.mp hx
  by_cases hiw:i<w
  ·exact .inl (.inl (.inl ⟨some x,.inl ⟨i,hiw,by rw[List.getElem?_eq_getElem hi,e]⟩,rfl⟩))
  ·have hd:x∈ns.drop w:=by
    rw[List.mem_iff_getElem?]
    refine⟨i-w,?_⟩
    rw[List.getElem?_drop,show w+(i-w)=i by omega,List.getElem?_eq_getElem hi,e]
   rcases hm.mpr hd with hx | hx | hx
   ·exact .inl (.inl (.inr (.inl hx)))
   ·exact .inl (.inr ⟨_,⟨x,hx,rfl⟩,rfl⟩)
   ·obtain⟨j,hj,e⟩:=List.mem_iff_getElem.mp hx
    refine .inr ⟨_,⟨(x,j),?_,rfl⟩,rfl⟩
    rw[List.mem_zipIdx_iff_getElem?]
    simp only
    rw[List.getElem?_eq_getElem hj,e]
theorem zmQ(B:List Str):((B.zipIdx.map fun p=>((p.2:Int),p.1)).map (·.1)).Pairwise (·<·):=by
 rw[List.map_map,List.pairwise_map,List.pairwise_iff_getElem]
 intro i j hi hj hij
 simp only[Function.comp_apply,List.getElem_zipIdx]
 omega
theorem zof{ns:List Str}{w b k:Nat}{L R W B:List Str}(hn:ns.Nodup)(hl:ns.length≤26)(nm:∀x∈ns,IsNm x)(hw:w≤42)(hb:b≤43)(hk:k≤10)(h:Split3 ns w L W B)(hr:∀x∈R,x∈ns)(rl:R.length≤3)(lo:L.Pairwise ltS)(ro:R.Pairwise ltS)(wo:W.Pairwise ltS):AnyC5 ns.length (ch5 ns w b L R W B k):=by
 have hm:=zmP (b:=b) (k:=k) h hr
 have hN:∀x∈namesF (ch5 ns w b L R W B k),IsNm x:=fun x hx=>nm x ((hm x).mp hx)
 have mL:∀x∈L,IsNm x:=fun x hx=>nm x (List.mem_of_mem_drop ((h.mem x).mp (.inl hx)))
 have mW:∀x∈W,IsNm x:=fun x hx=>nm x (List.mem_of_mem_drop ((h.mem x).mp (.inr (.inl hx))))
 have mB:∀x∈B,IsNm x:=fun x hx=>nm x (List.mem_of_mem_drop ((h.mem x).mp (.inr (.inr hx))))
 have dot:(Str.ofString ".").length≤6:=by decide +kernel
 refine⟨⟨by simp[ch5];omega,by simp[ch5];omega,by have:=h.ll;simp only[ch5];omega,by simp only[ch5];omega,by have:=h.wl;simp only[ch5,List.length_map];omega,by have:=h.bl;simp only[ch5,List.length_map,List.length_zipIdx];omega,by simp[ch5];omega,fun x hx=>?_,fun x hx=>?_,fun x hx=>(mL x hx).1.2,fun x hx=>(nm x (hr x hx)).1.2,fun p hp=>?_,fun p hp=>?_,fun p hp=>?_⟩,lo,ro,?_,fun p hp=>?_,zmQ B,fun l nd hx=>?_,hN⟩
 ·simp only[ch5,List.mem_map] at hx
  obtain⟨i,_,rfl⟩:=hx
  cases e:ns[i]? with
  | none=>exact dot
  | some y=>exact(nm y (List.mem_of_getElem? e)).1.2
 ·simp only[ch5,List.mem_replicate] at hx
  rw[hx.2]
  exact dot
 ·simp only[ch5,List.mem_map] at hp
  obtain⟨x,hx,rfl⟩:=hp
  exact⟨(mW x hx).1.2,show In100 2 by unfold In100;decide⟩
 ·simp only[ch5,List.mem_map] at hp
  obtain⟨q,hq,rfl⟩:=hp
  have:=List.snd_lt_of_mem_zipIdx hq
  have:=h.bl
  exact⟨⟨by simp,by simp only;omega⟩,(mB _ (List.fst_mem_of_mem_zipIdx hq)).1.2⟩
 ·simp only[ch5,List.mem_replicate] at hp
  rw[hp.2]
  unfold In100
  decide
 ·simp only[ch5,List.map_map]
  have:((fun x:Str×Int=>x.1)∘fun x:Str=>(x,(2:Int)))=id:=rfl
  rw[this,List.map_id]
  exact wo
 ·simp only[ch5,List.mem_map] at hp
  obtain⟨x,hx,rfl⟩:=hp
  exact .inl rfl
 ·have h1:=zf4 nd fun x hz=>(hm x).mp ((hx x).mp hz)
  have h2:=zf4 hn fun x hz=>(hx x).mpr ((hm x).mpr hz)
  omega
theorem zli:(WdS "top"∧WdS "bottom"∧WdS "left"∧WdS "right")∧WdS "wide"∧WdS "bend"∧WdS "keep"∧WdS ".":=by
 unfold WdS Wd
 decide +kernel
theorem zfA{i:Int}(h:In100 i):WdS (zaP i):=(zfv i h).2.2.2.2
theorem zgM(a b c:Str):cp (Txt.join " " [a,b,c])=cp a++32::(cp b++32::cp c):=by
 rw[zc9]
 show(Txt.join ⟨#[32]⟩ [a,b,c]).cps.toList=_
 rw[zcs]
 rfl
noncomputable def zdW(x:Str):Str:=Str.ofString "wide "++x++Str.ofString " 2\n"
noncomputable def zdX(p:Str×Nat):Str:=Str.ofString "bend "++zaP p.2++Str.ofString " "++p.1++Str.ofString "\n"
theorem zlj(x:Str):zdW x=Txt.join " " ["wide",x,zaP 2]++"\n":=by
 apply zgI
 unfold zdW
 rw[zb1,zb1,zb1,zgM,show cp (Str.ofString "wide ")=cp "wide"++[32] by decide +kernel,show cp (Str.ofString " 2\n")=32::(cp (zaP 2)++[10]) by decide +kernel,ziD]
 simp
theorem zlk(p:Str×Nat):zdX p=Txt.join " " ["bend",zaP p.2,p.1]++"\n":=by
 apply zgI
 unfold zdX
 rw[zb1,zb1,zb1,zb1,zb1,zgM,show cp (Str.ofString "bend ")=cp "bend"++[32] by decide +kernel,show cp (Str.ofString " ")=[32] by decide +kernel,ziD]
 simp
theorem zll:Str.ofString "keep 0 0 1\n"=Txt.join " " ["keep",zaP 0,zaP 0,zaP 1]++"\n":=by decide +kernel
theorem tx5{ns:List Str}{w b:Nat}{k:Int}{L R W B:List Str}(hk:0≤k)(nm:∀x∈ns,IsNm x)(h:Split3 ns w L W B)(hr:∀x∈R,x∈ns){t1 t2 t3 t4 t5 t6:Str}(e1:t1=Txt.join " " ("top"::(List.range w).map fun i=>pinS ns[i]?)++"\n")(e2:t2=Txt.join " " ("bottom"::List.replicate b (Str.ofString "."))++"\n")(e3:t3=Txt.join " " ("left"::L)++"\n")(e4:t4=Txt.join " " ("right"::R)++"\n")(e5:t5=Txt.join "" (W.map zdW))(e6:t6=Txt.join "" (B.zipIdx.map zdX)) :
  Tx (t1++t2++t3++t4++t5++t6++Txt.mul (Str.ofString "keep 0 0 1\n") k) (zaK (ch5 ns w b L R W B k.toNat)):=by
 obtain⟨⟨d1,d2,d3,d4⟩,d5,d6,d7,d8⟩:=zli
 have mL:∀x∈L,IsNm x:=fun x hx=>nm x (List.mem_of_mem_drop ((h.mem x).mp (.inl hx)))
 have mW:∀x∈W,IsNm x:=fun x hx=>nm x (List.mem_of_mem_drop ((h.mem x).mp (.inr (.inl hx))))
 have mB:∀x∈B,IsNm x:=fun x hx=>nm x (List.mem_of_mem_drop ((h.mem x).mp (.inr (.inr hx))))
 have bl:=h.bl
 subst e1 e2 e3 e4 e5 e6
 have T1:Tx (Txt.join " " ("top"::(List.range w).map fun i=>pinS ns[i]?)++"\n") ["top"::(List.range w).map fun i=>pinS ns[i]?]:=Tx.words (fun x hx=>by
  rcases List.mem_cons.mp hx with rfl | hx
  ·exact d1
  ·obtain⟨i,_,rfl⟩:=List.mem_map.mp hx
   cases e:ns[i]? with
   | none=>exact d8
   | some y=>exact ziP (nm y (List.mem_of_getElem? e))) (by simp)
 have T2:Tx (Txt.join " " ("bottom"::List.replicate b (Str.ofString "."))++"\n") ["bottom"::List.replicate b (Str.ofString ".")]:=Tx.words (fun x hx=>by
  rcases List.mem_cons.mp hx with rfl | hx
  ·exact d2
  ·rw[(List.mem_replicate.mp hx).2];exact d8) (by simp)
 have T3:Tx (Txt.join " " ("left"::L)++"\n") ["left"::L]:=Tx.words (fun x hx=>by
  rcases List.mem_cons.mp hx with rfl | hx
  ·exact d3
  ·exact ziP (mL x hx)) (by simp)
 have T4:Tx (Txt.join " " ("right"::R)++"\n") ["right"::R]:=Tx.words (fun x hx=>by
  rcases List.mem_cons.mp hx with rfl | hx
  ·exact d4
  ·exact ziP (nm x (hr x hx))) (by simp)
 have T5:=Tx.flat zdW (fun x=>(["wide",x,zaP 2]:List Str)) W fun x hx=>by
  rw[zlj]
  refine Tx.words (fun y hy=>?_) (by simp)
  simp only[List.mem_cons,List.not_mem_nil,or_false] at hy
  rcases hy with rfl | rfl | rfl
  ·exact d5
  ·exact ziP (mW _ hx)
  ·exact zfA (by unfold In100;decide)
 have T6:=Tx.flat zdX (fun p=>(["bend",zaP p.2,p.1]:List Str)) B.zipIdx fun p hp=>by
  rw[zlk]
  refine Tx.words (fun y hy=>?_) (by simp)
  have:=List.snd_lt_of_mem_zipIdx hp
  simp only[List.mem_cons,List.not_mem_nil,or_false] at hy
  rcases hy with rfl | rfl | rfl
  ·exact d6
  ·exact zfA ⟨by omega,by omega⟩
  ·exact ziP (mB _ (List.fst_mem_of_mem_zipIdx hp))
 have T7:Tx (Str.ofString "keep 0 0 1\n") [(["keep",zaP 0,zaP 0,zaP 1]:List Str)]:=by
  rw[zll]
  refine Tx.words (fun y hy=>?_) (by simp)
  simp only[List.mem_cons,List.not_mem_nil,or_false] at hy
  rcases hy with rfl | rfl | rfl | rfl
  ·exact d7
  ·exact zfA (by unfold In100;decide)
  ·exact zfA (by unfold In100;decide)
  ·exact zfA (by unfold In100;decide)
 have:=(((((T1.app T2).app T3).app T4).app T5).app T6).app (T7.rep hk)
 have e:zaK (ch5 ns w b L R W B k.toNat)=[Str.ofString "top"::(List.range w).map fun i=>pinS ns[i]?]++[Str.ofString "bottom"::List.replicate b (Str.ofString ".")]++[Str.ofString "left"::L]++[Str.ofString "right"::R]++W.map (fun x=>(["wide",x,zaP 2]:List Str))++B.zipIdx.map (fun p=>(["bend",zaP p.2,p.1]:List Str))++List.replicate k.toNat (["keep",zaP 0,zaP 0,zaP 1]:List Str):=by
  simp[zaK,ch5,Function.comp_def,pinS]
 rw[e]
 exact this
end Wc
namespace Wc
open PySem L2 PyProof.Rows
local macro_rules | `(tactic| walk_at "px")=>`(tactic| (repeat(first | walk_at "b" | simp only[zfW,zjG,zm0,zjM,znv,zmz,zmq])))
local macro_rules | `(tactic| walk_at "go")=>`(tactic| (simp only[ziV];walk_at "px"))
noncomputable def ziR:TX:=(za1 (zaT 1 (dOp (oI (fun _ j=>0<j) fun i j=>.int (i%j)) (dOp (oI CMul fun i j=>.int (i*j)) (dOp zbZ (dOp (oI (fun _ j=>0<j) fun i j=>.int (i%j)) (dCB zk0 (zad (dSl (zah 0) oNo (zbB (dC (.int 1)))) zar)) (dOp (oI zjZ fun i j=>.int (i ^ j.toNat)) (dC (.int 10)) (dC (.int 30)))) (dC (.int 3))) (dC (.int 40014))) (dC (.int 2147483563))))
 (za1 (zaT 2 (zax 2 zbe (zad (dCB zk0 (zad (dSl (zah 0) (zbB (dC (.int 1))) (zbB (dC (.int 2)))) zar)) (zad (dC (.int 5)) zar))))
 (za1 (zaT 3 (dOp oIx (zgs (zad (dOp (oI (fun _ j=>0<j) fun i j=>.int (i%j)) (dOp (oI zek fun i j=>.int (i/j)) (zah 2) (dC (.int 4))) (dC (.int 43))) (zad (dOp zbZ (dC (.int 39)) (dOp (oI (fun _ j=>0<j) fun i j=>.int (i%j)) (dOp (oI zek fun i j=>.int (i/j)) (zah 2) (dC (.int 4))) (dC (.int 3)))) (zad (dOp (oI (fun _ j=>0<j) fun i j=>.int (i%j)) (dOp (oI zek fun i j=>.int (i/j)) (zah 2) (dC (.int 4))) (dC (.int 3))) zar)))) (dOp (oI (fun _ j=>0<j) fun i j=>.int (i%j)) (zah 2) (dC (.int 3)))))
 (za1 (zaT 4 (dOp zbZ (zah 3) (dOp oIx (zgs (zad (dC (.int 0)) (zad (dC (.int 0)) (zad (dC (.int 0)) (zad (dC (.int 1)) (zad (zmZ (dC (.int 1))) zar)))))) (dOp (oI (fun _ j=>0<j) fun i j=>.int (i%j)) (dOp (oI zek fun i j=>.int (i/j)) (zah 2) (dC (.int 256))) (dC (.int 5))))))
 (za1 (zaT 5 (zax 2 zbe (zad (dCB zk0 (zad (dSl (zah 0) (zbB (dC (.int 2))) (zbB (dC (.int 3)))) zar)) (zad (dC (.int 7)) zar))))
 (za1 (zaT 6 (dOp oIx (zgs (zad (dOp zbZ (dC (.int 1)) (dOp (oI (fun _ j=>0<j) fun i j=>.int (i%j)) (dOp (oI zek fun i j=>.int (i/j)) (zah 5) (dC (.int 4))) (dC (.int 26)))) (zad (dOp zbZ (dC (.int 23)) (dOp (oI (fun _ j=>0<j) fun i j=>.int (i%j)) (dOp (oI zek fun i j=>.int (i/j)) (zah 5) (dC (.int 4))) (dC (.int 3)))) zar))) (dOp (oI (fun _ j=>0<j) fun i j=>.int (i%j)) (zah 5) (dC (.int 2)))))
 (za1 (zaT 7 (dOp oIx (zgs (zad (dOp (oI (fun _ j=>0<j) fun i j=>.int (i%j)) (dOp (oI zek fun i j=>.int (i/j)) (zah 5) (dC (.int 128))) (dC (.int 11))) (zad (dOp zbZ (dC (.int 7)) (dOp (oI (fun _ j=>0<j) fun i j=>.int (i%j)) (dOp (oI zek fun i j=>.int (i/j)) (zah 5) (dC (.int 128))) (dC (.int 3)))) zar))) (dOp (oI (fun _ j=>0<j) fun i j=>.int (i%j)) (dOp (oI zek fun i j=>.int (i/j)) (zah 5) (dC (.int 2))) (dC (.int 2)))))
 (za1 (zaT 8 (zaX (zhW (zad (zah 6) zar)) [none,some 1] (zaD 0) zdG (zax 2 zbl (zad (zah 0) (zad (zah 1) zar)))))
 (za1 (zaT 9 (zaX (zhW (zad (zah 3) zar)) [none,some 6,some 8] (zaD 0) zdG (dIf (zeb (dOp (oI0 fun i j=>.bl (decide (i<j))) (zah 0) (zah 1))) (dOp oIx (zah 2) (zah 0)) (dC (.str ".")))))
 (za1 (zaT 10 (dSl (zah 8) (zbB (zah 3)) oNo))
 (za1 (zaT 11 (zgs zar))
 (za1 (zaT 12 (zgs zar))
 (za1 (xIf (zeb (dOp oEq (dOp (oI (fun _ j=>0<j) fun i j=>.int (i%j)) (dOp (oI zek fun i j=>.int (i/j)) (zah 2) (dC (.int 8192))) (dC (.int 2))) (dC (.int 1)))) (zmX (ziU (zad (zmz 3 (zah 10) (zbB (dC (.int 0))) oNo) (zad (zmz 3 (zah 10) (zbB (dC (.int 1))) oNo) (zad (zmz 3 (zah 10) (zbB (dC (.int 2))) oNo) zar)))) (zhg 3 (zbz (zaD 10) (zbz (zaD 11) (zbz (zaD 12) zgt))))) zj6)
 (za1 (zaT 13 (dSl (zah 8) oNo (zbB (dOp (oI (fun _ j=>0<j) fun i j=>.int (i%j)) (dOp (oI zek fun i j=>.int (i/j)) (zah 2) (dC (.int 2048))) (dC (.int 4))))))
 (za1 (zaT 14 (dOp zbZ (zax 2 zaF (zad (dC (.str "top")) (zad (zah 9) zar))) (zax 2 zaF (zad (dC (.str "bottom")) (zad (zmq (zgs (zad (dC (.str ".")) zar)) (dCB zm0 (zad (dC (.int 0)) (zad (zah 4) zar)))) zar)))))
 (za1 (zaT 14 (dOp zbZ (dOp zbZ (zah 14) (zax 2 zaF (zad (dC (.str "left")) (zad (dCB zbI (zad (zah 10) zar)) zar)))) (zax 2 zaF (zad (dC (.str "right")) (zad (dCB zbI (zad (zah 13) zar)) zar)))))
 (za1 (zaT 14 (dOp zbZ (zah 14) (dM "str" zfW (dC (.str "")) (zad (zaX (zc3 (dCB zbI (zad (zah 11) zar))) [none] (zaD 0) zdG (dOp zbZ (dOp zbZ (dC (.str "wide ")) (zah 0)) (dC (.str " 2\n")))) zar))))
 (za1 (zaT 14 (dOp zbZ (zah 14) (dM "str" zfW (dC (.str "")) (zad (zaX (zjq (zad (zah 12) zar)) [none,none] (zhg 2 (zbz (zaD 0) (zbz (zaD 1) zgt))) zdG (dOp zbZ (dOp zbZ (dOp zbZ (dOp zbZ (dC (.str "bend ")) (dCB zjG (zad (zah 0) zar))) (dC (.str " "))) (zah 1)) (dC (.str "\n")))) zar))))
 (za1 (zaT 14 (dOp zbZ (zah 14) (dOp zjM (dC (.str "keep 0 0 1\n")) (zah 7))))
 (za1 (zaT 15 (zkR (zcm (oI0 fun i j=>.bl (decide (i≤j))) (oI0 fun i j=>.bl (decide (i≤j))) (dC (.int 1)) (zah 3) (dC (.int 40))) (zkR (dOp oEq (zah 4) (zah 3)) (zkR (dOp (oI0 fun i j=>.bl (decide (i≤j))) (zah 6) (dC (.int 24))) (dOp (oI0 fun i j=>.bl (decide (i≤j))) (zah 7) (dC (.int 8)))))))
 (za1 (zaT 16 (dC .non))
 (za1 (zaT 17 (dC (.bl false)))
 (za1 (znv 16 17 1 zaM (zad (zah 14) zar) true)
 (za1 (xIf (bOr (zeb (zah 17)) (zkP (zeb (zah 15)))) (zdI (zkR (zah 17) (zmV (zah 15)))) zj6)
 (zdI (dOp oEq (zgs (zad (dCB zeO (zad (zdK "top" (zah 16)) zar)) (zad (dCB zeO (zad (zdK "bottom" (zah 16)) zar)) (zad (dCB zeO (zad (zdK "keeps" (zah 16)) zar)) zar)))) (zgs (zad (zah 3) (zad (zah 3) (zad (zah 7) zar))))))))))))))))))))))))))))))
theorem pick{l:List Int}{n:Nat}(i:Int)(hl:l.length=n)(h:0<n):∃z,atI (l.map D.int) (i%(n:Int))=some (.int z)∧z∈l:=by
 obtain⟨z,e,m⟩:=zmE (l:=l) i (by omega:n≤l.length) h
 exact⟨z,by rw[zio,e];rfl,m⟩
theorem lok{h:Str}{ws:List Str}(hh:h.length≤6)(hl:ws.length≤49)(hw:∀w∈ws,w.length≤6):zcq (h::ws):=
 ⟨by rw[List.length_cons];omega,fun w hm=>(List.mem_cons.mp hm).elim (fun e=>e▸hh) (hw w)⟩
theorem zmR(n:Nat)(x:Str):(List.replicate n [D.str x]).flatten=(List.replicate n x).map D.str:=by
 induction n with
 | zero=>rfl
 | succ n ih=>rw[List.replicate_succ,List.flatten_cons,ih,List.replicate_succ,List.map_cons];rfl
theorem zlm{l:List Str}{Q:R→Prop}(h:l.length<64)(k:∀l':List Str,l'.Perm l→sortedS l'=true→Q (.ow (l'.map D.str))):zbI [.lst (l.map D.str)] Q:=by
 simp only[zbI,zbm]
 exact⟨h,k⟩
theorem ziS{l:List Str}{m:List (Option Nat)}{g:TGd}{tc:TDb}{te:TD}{ρ:Ev}{Q:R→Prop}{j:Nat}(hj:gt ρ j=.fz (.lst (l.map .str)))(h:l.length<64)(k:∀l':List Str,l'.Perm l→sortedS l'=true→zaX (fun _ Q'=>Q' (l'.map D.str)) m g tc te ρ Q):zaX (zc3 (dCB zbI (zad (zah j) zar))) m g tc te ρ Q:=by
 show dCB zbI (zad (zah j) zar) ρ fun r=>ze5 r.val _
 simp only[dCB,zad,zar,zah,hj,zgy]
 exact zlm h fun l' p s=>k l' p s
theorem zgN{ss:List Str}{B:Nat}(h:∀w∈ss,w.length≤B):(ss.map (·.length)).sum+ss.length*(Str.ofString "").length≤ss.length*B∧(Txt.join (Str.ofString "") ss).length≤ss.length*B:=by
 have e:(Str.ofString "").length=0:=by decide +kernel
 have h1:=ziB h
 have h2:=zgG (Str.ofString "") ss
 rw[e] at h2 ⊢
 omega
theorem zko(n:Nat):((List.range n).map fun i:Nat=>D.int (0+(i:Int)))=(List.range n).map dN:=by
 congr 1
 funext i
 simp[dN]
theorem zjT(ds:List D)(Qr:R→Prop)(hl:ds.length=1)(h:zkZ 63 ds Qr):ziR { nx:=fun _=>Qr (.fz .non),rt:=Qr } (zay ["_law_script","_law_seed","_law_one","_law_width","_law_below","_law_two","_law_many","_law_keeps","_law_names","_law_pins","_law_left","_law_wide","_law_bends","_law_right","_law_text","_law_good","_law_found","_law_refused"] ds):=by
 obtain⟨ns,rfl,hn,q⟩:=h
 show ziR _ [.fz (.lst (ns.map .int)),.un,.un,.un,.un,.un,.un,.un,.un,.un,.un,.un,.un,.un,.un,.un,.un,.un]
 unfold ziR
 have big:=zaN
 walk_at "px"
 generalize hseed:((zdl ns none (some 1)).sum%1000000000000000000000000000000+3)*40014%2147483563=seed
 have s0:0≤seed:=by rw[←hseed];exact Int.emod_nonneg _ (by decide)
 clear hseed
 walk_at "go"
 refine⟨_,5,rfl,by decide,by decide,?_⟩
 generalize hone:zm2 (zdl ns (some 1) (some 2)).sum 5=one
 have o0:0≤one:=by rw[←hone];exact zkh _ _
 clear hone
 walk_at "go"
 obtain⟨width,e1,m1⟩:=pick (l:=[one/4%43,39+one/4%3,one/4%3]) (n:=3) one rfl (by decide)
 refine⟨by omega,_,e1,?_⟩
 have w0:0≤width∧width≤42:=by
  simp only[List.mem_cons,List.not_mem_nil,or_false] at m1
  omega
 clear e1 m1
 walk_at "go"
 obtain⟨more,e1,m1⟩:=pick (l:=[0,0,0,1,-1]) (n:=5) (one/256) rfl (by decide)
 refine⟨by omega,_,e1,?_⟩
 have b0:-1≤more∧more≤1:=by
  simp only[List.mem_cons,List.not_mem_nil,or_false] at m1
  omega
 clear e1 m1
 dsimp only
 generalize hbelow:width+more=below
 walk_at "go"
 refine⟨_,7,rfl,by decide,by decide,?_⟩
 generalize htwo:zm2 (zdl ns (some 2) (some 3)).sum 7=two
 have t0:0≤two:=by rw[←htwo];exact zkh _ _
 clear htwo
 walk_at "go"
 obtain⟨many,e1,m1⟩:=pick (l:=[1+two/4%26,23+two/4%3]) (n:=2) two rfl (by decide)
 refine⟨by omega,_,e1,?_⟩
 have n0:1≤many∧many≤26:=by
  simp only[List.mem_cons,List.not_mem_nil,or_false] at m1
  omega
 clear e1 m1
 walk_at "go"
 obtain⟨keeps,e1,m1⟩:=pick (l:=[two/128%11,7+two/128%3]) (n:=2) (two/2) rfl (by decide)
 refine⟨by omega,_,e1,?_⟩
 have k0:0≤keeps∧keeps≤10:=by
  simp only[List.mem_cons,List.not_mem_nil,or_false] at m1
  omega
 clear e1 m1
 walk_at "go"
 refine zaC (List.range many.toNat) dN (fun k=>.str (zdT k seed)) (fun Q' h=>?_) (by rw[List.length_range];omega) (fun k hk K1 kk=>?_) ?_
 ·walk_at "px"
  exact⟨by omega,by omega,by rw[zko];exact h⟩
 ·unfold dN
  walk_at "px"
  exact⟨k,seed,rfl,s0,kk⟩
 obtain⟨nm,hnm⟩:∃nm:List Str,nm=(List.range many.toNat).map fun k=>zdT (k:Nat) seed:=⟨_,rfl⟩
 have eN:((List.range many.toNat).map fun k=>D.str (zdT (k:Nat) seed))=nm.map D.str:=by rw[hnm,List.map_map];rfl
 rw[eN]
 clear eN
 have nl:nm.length=many.toNat:=by rw[hnm];simp
 have nI:∀x∈nm,IsNm x:=fun x hx=>by
  rw[hnm] at hx
  obtain⟨k,_,rfl⟩:=List.mem_map.mp hx
  exact zlh _ _
 have nd:nm.Nodup:=by
  rw[hnm]
  unfold List.Nodup
  rw[List.pairwise_map]
  refine List.Pairwise.imp_of_mem (fun{a b} ha hb hab e=>hab ?_) List.nodup_range
  have h1:=List.mem_range.mp ha
  have h2:=List.mem_range.mp hb
  have:=zjS (by omega) (by omega) (by omega) (by omega) e
  omega
 clear hnm
 walk_at "go"
 refine zaC (List.range width.toNat) dN (fun k=>.str (pinS nm[k]?)) (fun Q' h=>?_) (by rw[List.length_range];omega) (fun k hk K1 kk=>?_) ?_
 ·walk_at "px"
  exact⟨by omega,by omega,by rw[zko];exact h⟩
 ·unfold dN
  walk_at "px"
  by_cases hlt:(k:Int)<many
  ·rw[if_pos hlt]
   have hk2:k<nm.length:=by omega
   refine⟨_,zcp hk2,?_⟩
   rw[List.getElem?_eq_getElem hk2] at kk
   exact kk
  ·rw[if_neg hlt]
   rw[List.getElem?_eq_none (by omega)] at kk
   exact kk
 walk_at "go"
 rw[zbN _ w0.1]
 walk_at "go"
 walk_at "go"
 walk_at "go"
 generalize hK:ziV (za1 (zaT 13 _) _) _=Kc
 have fin:∀L W B:List Str,Split3 nm width.toNat L W B→Kc [.fz (.lst (ns.map .int)),.fz (.int seed),.fz (.int one),.fz (.int width),.fz (.int below),.fz (.int two),.fz (.int many),.fz (.int keeps),.fz (.lst (nm.map .str)),.fz (.lst ((List.range width.toNat).map fun k=>D.str (pinS nm[k]?))),.fz (.lst (L.map .str)),.fz (.lst (W.map .str)),.fz (.lst (B.map .str)),.un,.un,.un,.un,.un]:=by
  intro L W B sp
  rw[←hK]
  clear hK Kc
  walk_at "go"
  have r0:0≤one/2048%4∧one/2048%4<4:=by omega
  rw[zir _ r0.1]
  walk_at "go"
  have dot:(Str.ofString ".").length≤6:=by decide +kernel
  have o1:zcq (Str.ofString "top"::(List.range width.toNat).map fun i=>pinS nm[i]?):=lok (by decide +kernel) (by simp;omega) fun w hw=>by
   obtain⟨i,_,rfl⟩:=List.mem_map.mp hw
   cases e:nm[i]? with
   | none=>exact dot
   | some y=>exact(nI y (List.mem_of_getElem? e)).1.2
  refine⟨_,(List.range width.toNat).map fun i=>pinS nm[i]?,by unfold dS;rw[List.map_map];rfl,o1,?_⟩
  obtain⟨t1,e1⟩:∃t,t=Txt.join " " (Str.ofString "top"::(List.range width.toNat).map fun i=>pinS nm[i]?)++"\n":=⟨_,rfl⟩
  have z1:=zcr o1
  rw[←e1] at z1 ⊢
  walk_at "px"
  obtain⟨b,hb⟩:∃b,b=if below>0 then below else 0:=⟨_,rfl⟩
  have hb2:0≤b∧b≤43∧(b=width∧1≤width→below=width)∧(below=width→b=width):=by
   rw[hb]
   split<;>omega
  rw[←hb]
  clear hb
  have o2:zcq (Str.ofString "bottom"::List.replicate b.toNat (Str.ofString ".")):=lok (by decide +kernel) (by simp;omega) fun w hw=>by
   rw[(List.mem_replicate.mp hw).2];exact dot
  refine⟨by omega,by omega,by omega,by omega,_,List.replicate b.toNat (Str.ofString "."),?_,o2,?_⟩
  ·unfold dS
   rw[zmR]
  obtain⟨t2,e2⟩:∃t,t=Txt.join " " (Str.ofString "bottom"::List.replicate b.toNat (Str.ofString "."))++"\n":=⟨_,rfl⟩
  have z2:=zcr o2
  rw[←e2] at z2 ⊢
  walk_at "px"
  refine⟨by omega,?_⟩
  walk_at "go"
  have ll:=sp.ll
  have wl:=sp.wl
  have bl:=sp.bl
  refine zlm (by omega) fun L' pL sL=>?_
  have sp':=sp.perm pL (.refl W)
  have lo:=zdr sL sp'.nl
  have mL:∀x∈L',IsNm x:=fun x hx=>nI x (List.mem_of_mem_drop ((sp'.mem x).mp (.inl hx)))
  have o3:zcq (Str.ofString "left"::L'):=lok (by decide +kernel) (by rw[pL.length_eq];omega) fun w hw=>(mL w hw).1.2
  refine⟨_,L',rfl,o3,?_⟩
  obtain⟨t3,e3⟩:∃t,t=Txt.join " " (Str.ofString "left"::L')++"\n":=⟨_,rfl⟩
  have z3:=zcr o3
  rw[←e3] at z3 ⊢
  have l12:(t1++t2).length≤702:=by rw[zaV];omega
  walk_at "px"
  refine⟨by omega,zlm (by simp;omega) fun R' pR sR=>?_⟩
  have nR:(nm.take (one/2048%4).toNat).Nodup:=nd.sublist (List.take_sublist _ _)
  have ro:=zdr sR (pR.nodup_iff.mpr nR)
  have mR:∀x∈R',x∈nm:=fun x hx=>List.mem_of_mem_take (pR.mem_iff.mp hx)
  have rl:R'.length≤3:=by rw[pR.length_eq,List.length_take];omega
  have o4:zcq (Str.ofString "right"::R'):=lok (by decide +kernel) (by omega) fun w hw=>(nI w (mR w hw)).1.2
  refine⟨_,R',rfl,o4,?_⟩
  obtain⟨t4,e4⟩:∃t,t=Txt.join " " (Str.ofString "right"::R')++"\n":=⟨_,rfl⟩
  have z4:=zcr o4
  rw[←e4] at z4 ⊢
  have l13:(t1++t2++t3).length≤1053:=by rw[zaV];omega
  walk_at "px"
  refine⟨by omega,?_⟩
  have l14:(t1++t2++t3++t4).length≤1404:=by rw[zaV];omega
  walk_at "go"
  refine⟨rfl,?_⟩
  refine ziS rfl (by omega) fun W' pW sW=>?_
  have sp2:=sp'.perm (.refl L') pW
  have wo:=zdr sW sp2.nw
  have mW:∀x∈W',IsNm x:=fun x hx=>nI x (List.mem_of_mem_drop ((sp2.mem x).mp (.inr (.inl hx))))
  have wl2:=sp2.wl
  have sw:(Str.ofString "wide ").length=5:=by decide +kernel
  have s2:(Str.ofString " 2\n").length=3:=by decide +kernel
  refine zaC W' D.str (fun x=>.str (zdW x)) (fun Q' h=>h) (by omega) (fun x hx K1 kk=>?_) ?_
  ·have:=(mW x hx).1.2
   walk_at "px"
   exact⟨by omega,by rw[zaV];omega,kk⟩
  walk_at "px"
  have eW:(W'.map fun x=>D.str (zdW x))=(W'.map zdW).map D.str:=by rw[List.map_map];rfl
  rw[eW,zbm]
  have fW:=zgN (ss:=W'.map zdW) (B:=14) fun w hw=>by
   obtain⟨x,hx,rfl⟩:=List.mem_map.mp hw
   have:=(mW x hx).1.2
   unfold zdW
   rw[zaV,zaV]
   omega
  rw[List.length_map] at fW
  refine⟨by rw[List.length_map];omega,by omega,?_⟩
  obtain⟨t5,e5⟩:∃t,t=Txt.join (Str.ofString "") (W'.map zdW):=⟨_,rfl⟩
  rw[←e5] at fW ⊢
  have l15:(t1++t2++t3++t4++t5).length≤1600:=by rw[zaV];omega
  clear eW
  walk_at "go"
  refine⟨rfl,?_⟩
  have mB:∀x∈B,IsNm x:=fun x hx=>nI x (List.mem_of_mem_drop ((sp2.mem x).mp (.inr (.inr hx))))
  have sb:(Str.ofString "bend ").length=5:=by decide +kernel
  have s1:(Str.ofString " ").length=1:=by decide +kernel
  have sn:(Str.ofString "\n").length=1:=by decide +kernel
  have lB:∀p∈B.zipIdx,(zaP p.2).length≤6∧p.1.length≤6∧p.2≤9:=fun p hp=>by
   have:=List.snd_lt_of_mem_zipIdx hp
   exact⟨zbX ⟨by omega,by omega⟩,(mB _ (List.fst_mem_of_mem_zipIdx hp)).1.2,by omega⟩
  refine zaC B.zipIdx (fun p=>.tup [.int (p.2:Nat),.str p.1]) (fun p=>.str (zdX p)) (fun Q' h=>?_) (by rw[List.length_zipIdx];omega) (fun p hp K1 kk=>?_) ?_
  ·walk_at "px"
   rw[zjO]
   exact h
  ·obtain⟨h1,h2,h3⟩:=lB p hp
   walk_at "px"
   simp only[zaV]
   exact⟨by omega,by omega,by omega,by omega,by omega,kk⟩
  walk_at "px"
  have eB:(B.zipIdx.map fun x=>D.str (zdX x))=(B.zipIdx.map zdX).map D.str:=by rw[List.map_map];rfl
  rw[eB,zbm]
  have fB:=zgN (ss:=B.zipIdx.map zdX) (B:=19) fun w hw=>by
   obtain⟨p,hp,rfl⟩:=List.mem_map.mp hw
   obtain⟨h1,h2,h3⟩:=lB p hp
   unfold zdX
   rw[zaV,zaV,zaV,zaV]
   omega
  rw[List.length_map,List.length_zipIdx] at fB
  refine⟨by rw[List.length_map,List.length_zipIdx];omega,by omega,?_⟩
  obtain⟨t6,e6⟩:∃t,t=Txt.join (Str.ofString "") (B.zipIdx.map zdX):=⟨_,rfl⟩
  rw[←e6] at fB ⊢
  have l16:(t1++t2++t3++t4++t5++t6).length≤2000:=by rw[zaV];omega
  clear eB
  walk_at "go"
  have sk:(Str.ofString "keep 0 0 1\n").length=11:=by decide +kernel
  have lk:(Txt.mul (Str.ofString "keep 0 0 1\n") keeps).length≤110:=by
   rw[←zfq,ziO k0.1,List.length_flatten,List.map_replicate,zfq,sk,List.sum_replicate_nat]
   omega
  refine⟨by omega,by omega,by omega,by omega,?_⟩
  have TX:=tx5 (b:=b.toNat) k0.1 nI sp2 mR e1 e2 e3 e4 e5 e6
  have hc:=zof (b:=b.toNat) (k:=keeps.toNat) nd (by omega) nI (by omega) (by omega) (by omega) sp2 mR rl lo ro wo
  obtain⟨t,et⟩:∃t,t=t1++t2++t3++t4++t5++t6++Txt.mul (Str.ofString "keep 0 0 1\n") keeps:=⟨_,rfl⟩
  have lt:t.length≤3000:=by rw[et,zaV];omega
  rw[←et] at TX ⊢
  have rd:=TX.lines
  clear TX et e1 e2 e3 e4 e5 e6 l16 l15 l14 l13 l12
  walk_at "go"
  generalize hK:ziV (za1 (zaT 16 _) _) _=Kc
  have gd:zf5 nm.length (ch5 nm width.toNat b.toNat L' R' W' B keeps.toNat)↔((1≤width∧width≤40)∧below=width)∧many≤24∧keeps≤8:=by
   unfold zf5 ch5
   simp only[List.length_replicate,List.length_map,List.length_range]
   omega
  have fin2:∀g:Bool,(g=true↔zf5 nm.length (ch5 nm width.toNat b.toNat L' R' W' B keeps.toNat))→Kc [.fz (.lst (ns.map .int)),.fz (.int seed),.fz (.int one),.fz (.int width),.fz (.int below),.fz (.int two),.fz (.int many),.fz (.int keeps),.fz (.lst (nm.map .str)),.fz (.lst ((List.range width.toNat).map fun k=>D.str (pinS nm[k]?))),.fz (.lst (L.map .str)),.fz (.lst (W.map .str)),.fz (.lst (B.map .str)),.fz (.lst ((nm.take (one/2048%4).toNat).map .str)),.fz (.str t),.fz (.bl g),.un,.un]:=by
   intro g hg
   rw[←hK]
   clear hK Kc
   walk_at "go"
   walk_at "go"
   walk_at "go"
   refine⟨t,_,_,rfl,by omega,rd,hc,fun gg=>?_,fun gg=>?_⟩
   ·obtain rfl:=hg.mpr gg
    have g5:=gd.mp gg
    walk_at "go"
    unfold Chan.obj dP dK
    walk_at "go"
    refine⟨_,rfl,?_⟩
    dsimp only
    refine⟨_,rfl,?_⟩
    dsimp only
    refine⟨_,rfl,?_⟩
    dsimp only
    have c1:(ch5 nm width.toNat b.toNat L' R' W' B keeps.toNat).top.length=width.toNat:=by simp[ch5]
    have c2:(ch5 nm width.toNat b.toNat L' R' W' B keeps.toNat).bottom.length=width.toNat:=by simp[ch5];omega
    have c3:(ch5 nm width.toNat b.toNat L' R' W' B keeps.toNat).keeps.length=keeps.toNat:=by simp[ch5]
    rw[List.length_map,List.length_map,List.length_map,c1,c2,c3,Int.toNat_of_nonneg w0.1,Int.toNat_of_nonneg k0.1]
    have ok:okE 9 (D.lst [D.int width,D.int width,D.int keeps]):=zmH 8 [width,width,keeps]
    rw[zcj 9 _ ok]
    exact⟨by omega,by omega,ok,ok,q⟩
   ·obtain rfl:g=false:=by
     cases g with
     | false=>rfl
     | true=>exact absurd (hg.mp rfl) gg
    walk_at "go"
    exact q
  by_cases c1:1≤width
  ·rw[if_pos c1]
   by_cases c2:width≤40
   ·rw[if_pos c2]
    by_cases c3:below=width
    ·rw[if_pos c3]
     by_cases c4:many≤24
     ·rw[if_pos c4]
      exact fin2 _ (by rw[decide_eq_true_eq,gd];omega)
     ·rw[if_neg c4]
      exact fin2 _ (by rw[gd];simp;omega)
    ·rw[if_neg c3]
     exact fin2 _ (by rw[gd];simp;omega)
   ·rw[if_neg c2]
    exact fin2 _ (by rw[gd];simp;omega)
  ·rw[if_neg c1]
   exact fin2 _ (by rw[gd];simp;omega)
 have dl:(nm.drop width.toNat).length≤26:=by rw[List.length_drop];omega
 obtain⟨_,_,i0,i1,i2⟩:=zkn ⟨(nm.drop width.toNat).length,by omega⟩
 unfold ix3 at i0 i1 i2
 simp only at i0 i1 i2
 refine⟨by omega,by omega,?_⟩
 split
 ·rw[List.length_map]
  have f0:=zga 0 (nm.drop width.toNat)
  have f1:=zga 1 (nm.drop width.toNat)
  have f2:=zga 2 (nm.drop width.toNat)
  have ff:=fin _ _ _ (zgb width.toNat nd (by omega))
  rw[←f0,←f1,←f2] at ff
  exact⟨Nat.le_trans i0 (by omega),Nat.le_trans i1 (by omega),Nat.le_trans i2 (by omega),by omega,ff⟩
 ·exact fin _ [] [] (ziQ width.toNat nd (by omega))
end Wc
end
namespace Wc
open PySem PySem.Spec PyProof.Rows L2
noncomputable def top(i:Nat):Stmt:=PySem.Challenge.pw_wirechannel_k05_bounds.main.body.getD i (.Pass ⟨0,0,0,0⟩)
structure Txt (K:PySem.W.Frag) (mg:Str→Option Value):Prop where
 b_all:mg "all"=none
 b_enumerate:mg "enumerate"=none
 b_int:mg "int"=none
 b_len:mg "len"=none
 b_list:mg "list"=none
 b_max:mg "max"=none
 b_range:mg "range"=none
 b_set:mg "set"=none
 b_sorted:mg "sorted"=none
 b_str:mg "str"=none
 b_sum:mg "sum"=none
 b_zip:mg "zip"=none
 c_FIGURES:∃t,mg "FIGURES"=some (.str "0123456789" t)
 c_FIRST_HEADS:ConT K mg "FIRST_HEADS" ["top","bottom","left","right"]
 c_LETTERS:∃t,mg "LETTERS"=some (.str "abcdefghijklmnopqrstuvwxyz" t)
 c_LONGEST_NAME:∃t,mg "LONGEST_NAME"=some (.int 6 t)
 c_MOST_COLUMNS:∃t,mg "MOST_COLUMNS"=some (.int 40 t)
 c_MOST_KEEPS:∃t,mg "MOST_KEEPS"=some (.int 8 t)
 c_MOST_NAMES:∃t,mg "MOST_NAMES"=some (.int 24 t)
section
variable {P:Program} {w:World} {K:PySem.W.Frag} {mg:Str→Option Value} {base:Heap} {CB:Addr}
noncomputable abbrev s_Channel:Stmt:=zkI (top 3) 0
theorem zhe:FnScope ["self","top","bottom","left","right","wide","bends","keeps"] ("self"::["top","bottom","left","right","wide","bends","keeps"]) (defScope s_Channel):=⟨rfl,rfl,rfl,by decide +kernel,rfl,by decide +kernel,by decide +kernel⟩
theorem zeH(A:AtC K mg "Channel" "Channel.__init__" s_Channel ["top","bottom","left","right","wide","bends","keeps"])(T:Txt K mg):KnownC P w K mg base 1 "Channel" 7 zbE:=by
 obtain⟨C,f,fd,hC,M,F,hm,na⟩:=A.ex
 refine⟨C,f,fd,_,M,zif (T:=zcv) F zhe hC (fun cdv A outer s H E hr=>?_) (fun ds Qr _ h=>zfx ds Qr _ (fun fs e p hp=>na.all _ (by rw[←e];exact List.mem_map_of_mem hp)) h),hm,F.binds fun _ _ _ _ _ _ us hl=>by obtain⟨_,_,_,_,_,_,_,_,rfl⟩:=znJ hl;exact rfl⟩
 have hu:=hr.units
 exact(zb6 hC.cls na.1 (zaW zcW T.b_list boot_list (zaa (zab 1) zac))
  (zb6 hC.cls na.2.1 (zaW zcW T.b_list boot_list (zaa (zab 2) zac))
  (zb6 hC.cls na.2.2.1 (zaW zcW T.b_list boot_list (zaa (zab 3) zac))
  (zb6 hC.cls na.2.2.2.1 (zaW zcW T.b_list boot_list (zaa (zab 4) zac))
  (zb6 hC.cls na.2.2.2.2.1 (zaW zcW T.b_list boot_list (zaa (zab 5) zac))
  (zb6 hC.cls na.2.2.2.2.2.1 (zaW zcW T.b_list boot_list (zaa (zab 6) zac))
  (zb6 hC.cls na.2.2.2.2.2.2.1 (zaW zcW T.b_list boot_list (zaa (zab 7) zac))
  zk4)))))))
noncomputable abbrev s_is_rising:Stmt:=top 27
theorem zfB:FnScope ["members"] ["members"] (defScope s_is_rising):=⟨rfl,rfl,rfl,by decide +kernel,rfl,by decide +kernel,by decide +kernel⟩
theorem zb3:(["one","other"]:List Str).Nodup:=by decide +kernel
theorem zdv(A:At K mg "is_rising" s_is_rising)(T:Txt K mg) :Known P w K mg base 1 "is_rising" 1 zaE:=zaA 0 A zfB (fun f cdv A outer s H E hr=>have hu:=hr.units
 (zaw (za9 (zap (zjw rfl) T.b_all boot_all (zaa (zaI rfl (.of (N':=["one","other"]) (m:=[none,none]) (by kernel_rfl)) ze8 (zkU T.b_zip (zaa (zab 0) (zaa (zaZ (zab 0) (zaz zae) zaR) zac))) (fun s3 H3 ex=>(zhT rfl (zcn (zaq 0 zb3) (zcn (zaq 1 zb3) zgu)))) (fun s3 H3 ex=>zaU) (fun s3 H3 ex=>(zbg znr (zab 0) (zab 1)))) zac))))) zdR fun _ _ _ _ _ _ us hl=>by obtain⟨_,rfl⟩:=zfh hl;exact rfl
noncomputable abbrev s_all_names:Stmt:=top 28
theorem sc_all_names:FnScope ["channel","names"] ["channel"] (defScope s_all_names):=⟨rfl,rfl,rfl,by decide +kernel,rfl,by decide +kernel,by decide +kernel⟩
theorem zdY:(["name"]:List Str).Nodup:=by decide +kernel
theorem zdZ:(["pair"]:List Str).Nodup:=by decide +kernel
theorem zd0:(["pair"]:List Str).Nodup:=by decide +kernel
theorem zdw(A:At K mg "all_names" s_all_names)(T:Txt K mg) :Known P w K mg base 1 "all_names" 1 zbk:=zaA 0 A sc_all_names (fun f cdv A outer s H E hr=>have hu:=hr.units
 (zaf (zkV 1 rfl (.of (N':=["name"]) (m:=[none]) (by kernel_rfl)) zan (zaH (zak za5 (zbc (zab 0)) (zbc (zab 0)))) (fun s3 H3 ex=>(zaq 0 zdY)) (fun s3 H3 ex=>(zcC (zci zkO (zab 0) zhK))) (fun s3 H3 ex=>(zab 0)) sc_all_names.nd)
   (zaf (zgC 1 (zak za5 (zbc (zab 0)) (zbc (zab 0))))
   (zaf (zgC 1 (zaI rfl (.of (N':=["pair"]) (m:=[none]) (by kernel_rfl)) zan (zaH (zbc (zab 0))) (fun s3 H3 ex=>(zaq 0 zdZ)) (fun s3 H3 ex=>zaU) (fun s3 H3 ex=>(za6 (zab 0) zae))))
   (zaf (zgC 1 (zaI rfl (.of (N':=["pair"]) (m:=[none]) (by kernel_rfl)) zan (zaH (zbc (zab 0))) (fun s3 H3 ex=>(zaq 0 zd0)) (fun s3 H3 ex=>zaU) (fun s3 H3 ex=>(za6 (zab 0) zae))))
   (zaw (zkT 1))))))) zdS fun _ _ _ _ _ _ us hl=>by obtain⟨_,rfl⟩:=zfh hl;exact rfl
noncomputable abbrev s_words_of:Stmt:=top 16
theorem zgc:FnScope ["line"] ["line"] (defScope s_words_of):=⟨rfl,rfl,rfl,by decide +kernel,rfl,by decide +kernel,by decide +kernel⟩
theorem zeI:(["word"]:List Str).Nodup:=by decide +kernel
theorem zd1(A:At K mg "words_of" s_words_of)(T:Txt K mg) :Known P w K mg base 1 "words_of" 1 zbr:=zaA 0 A zgc (fun f cdv A outer s H E hr=>have hu:=hr.units
 (zaw (za9 (zaI rfl (.of (N':=["word"]) (m:=[none]) (by kernel_rfl)) zan (zaH (zcF zik (.inr rfl) PySem.F.plainAttrs_str PySem.F.slot_str_split PySem.F.type_str_split (zab 0) (zaa zam zac))) (fun s3 H3 ex=>(zaq 0 zeI)) (fun s3 H3 ex=>(zcC (zci (znF hu) (zab 0) zam))) (fun s3 H3 ex=>(zab 0)))))) zeB fun _ _ _ _ _ _ us hl=>by obtain⟨_,rfl⟩:=zfh hl;exact rfl
noncomputable abbrev s_lines_of:Stmt:=top 15
theorem sc_lines_of:FnScope ["text","lines"] ["text"] (defScope s_lines_of):=⟨rfl,rfl,rfl,by decide +kernel,rfl,by decide +kernel,by decide +kernel⟩
theorem zeJ:(["line"]:List Str).Nodup:=by decide +kernel
theorem zeK:(["words"]:List Str).Nodup:=by decide +kernel
theorem zd2(A:At K mg "lines_of" s_lines_of)(T:Txt K mg)(C_words_of:Known P w K mg base 1 "words_of" 1 zbr):Known P w K mg base 2 "lines_of" 1 zbs:=zaA 1 A sc_lines_of (fun f cdv A outer s H E hr=>have hu:=hr.units
 (zaf (zgx 1 rfl (.of (N':=["line"]) (m:=[none]) (by kernel_rfl)) zan (zaH (zcF zik (.inr rfl) PySem.F.plainAttrs_str PySem.F.slot_str_split PySem.F.type_str_split (zab 0) (zaa zam zac))) (fun s3 H3 ex=>(zaq 0 zeJ)) (fun s3 H3 ex=>zaU) (fun s3 H3 ex=>(zag C_words_of hr (zaa (zab 0) zac))) sc_lines_of.nd)
   (zaw (za9 (zaI rfl (.of (N':=["words"]) (m:=[none]) (by kernel_rfl)) zan (zaH (zab 1)) (fun s3 H3 ex=>(zaq 0 zeK)) (fun s3 H3 ex=>(zcC (zci zn7 (zap zco T.b_len boot_len (zaa (zab 0) zac)) zae))) (fun s3 H3 ex=>(zab 0))))))) zeC fun _ _ _ _ _ _ us hl=>by obtain⟨_,rfl⟩:=zfh hl;exact rfl
noncomputable abbrev s_demand:Stmt:=top 17
theorem zfC:FnScope ["holds","words"] ["holds","words"] (defScope s_demand):=⟨rfl,rfl,rfl,by decide +kernel,rfl,by decide +kernel,by decide +kernel⟩
theorem zfD(A:At K mg "demand" s_demand)(T:Txt K mg) :Known P w K mg base 1 "demand" 2 zas:=zaA 0 A zfC (fun f cdv A outer s H E hr=>have hu:=hr.units
 (zaw (zjm (zgo (zgm (zab 0))) (zaw zjF) zdj))) zf3 fun _ _ _ _ _ _ us hl=>by obtain⟨_,_,rfl⟩:=zlr hl;exact rfl
noncomputable abbrev s_demand_heads:Stmt:=top 18
theorem sc_demand_heads:FnScope ["heads","due","head"] ["heads"] (defScope s_demand_heads):=⟨rfl,rfl,rfl,by decide +kernel,rfl,by decide +kernel,by decide +kernel⟩
theorem zcx(A:At K mg "demand_heads" s_demand_heads)(T:Txt K mg)(C_demand:Known P w K mg base 1 "demand" 2 zas):Known P w K mg base 2 "demand_heads" 1 zaQ:=zaA 1 A sc_demand_heads (fun f cdv A outer s H E hr=>have hu:=hr.units
 (zaf (zmi 1 (zaW zcW T.b_list boot_list (zaa (zjI T.c_FIRST_HEADS) zac)) sc_demand_heads.nd)
   (zaf (zmk PassesOwn.never rfl (zaH (ze4 (zaa zam (zaa zam (zaa zam zac))))) (zaq 2 sc_demand_heads.nd)
    (zaw (zgC 1 (zkd (zbL (zaa (zab 2) zac)) (zcF (zk3 hu) (.inl rfl) PySem.F.plainAttrs_list PySem.F.slot_list_count PySem.F.type_list_count (zab 0) (zaa (zab 2) zac))))))
   (zaw (zbG (zag C_demand hr (zaa (zk5 1 (zbg (zg1 hu) (zab 0) (zab 1))) (zaa zam zac)))))))) zcL fun _ _ _ _ _ _ us hl=>by obtain⟨_,rfl⟩:=zfh hl;exact rfl
noncomputable abbrev s_read_number:Stmt:=top 25
theorem zd3:FnScope ["word"] ["word"] (defScope s_read_number):=⟨rfl,rfl,rfl,by decide +kernel,rfl,by decide +kernel,by decide +kernel⟩
theorem zc0:(["sign"]:List Str).Nodup:=by decide +kernel
theorem zcN(A:At K mg "read_number" s_read_number)(T:Txt K mg)(C_demand:Known P w K mg base 1 "demand" 2 zas):Known P w K mg base 2 "read_number" 1 zao:=zaA 1 A zd3 (fun f cdv A outer s H E hr=>have hu:=hr.units
 have ⟨t_FIGURES,c_FIGURES⟩:=T.c_FIGURES
 (zaf (zbG (zag C_demand hr (zaa (zes zel zel zae (zap zco T.b_len boot_len (zaa (zab 0) zac)) zae) (zaa zam zac))))
   (zaf (zbG (zag C_demand hr (zaa (zap (zjw rfl) T.b_all boot_all (zaa (zaI rfl (.of (N':=["sign"]) (m:=[none]) (by kernel_rfl)) zan (zaH (zab 0)) (fun s3 H3 ex=>(zaq 0 zc0)) (fun s3 H3 ex=>zaU) (fun s3 H3 ex=>(zbg (znm hu) (zab 0) (zgk c_FIGURES)))) zac)) (zaa zam zac))))
   (zaf (zbG (zag C_demand hr (zaa (znn (zbg (zg1 hu) (zap zco T.b_len boot_len (zaa (zab 0) zac)) zae) (zhP (zbg (znF hu) (za6 (zab 0) zae) zam))) (zaa zam zac))))
   (zaw (za9 (zaW zmt T.b_int boot_int (zaa (zab 0) zac)))))))) zcZ fun _ _ _ _ _ _ us hl=>by obtain⟨_,rfl⟩:=zfh hl;exact rfl
noncomputable abbrev s_read_keep:Stmt:=top 23
theorem zfE:FnScope ["words"] ["words"] (defScope s_read_keep):=⟨rfl,rfl,rfl,by decide +kernel,rfl,by decide +kernel,by decide +kernel⟩
theorem zdx(A:At K mg "read_keep" s_read_keep)(T:Txt K mg)(C_demand:Known P w K mg base 1 "demand" 2 zas)(C_read_number:Known P w K mg base 2 "read_number" 1 zao):Known P w K mg base 3 "read_keep" 1 zbj:=zaA 2 A zfE (fun f cdv A outer s H E hr=>have hu:=hr.units
 (zaf (zbG (zag C_demand hr (zaa (zbg (zg1 hu) (zap zco T.b_len boot_len (zaa (zab 0) zac)) zae) (zaa zam zac))))
   (zaw (za9 (ze4 (zaa (zag C_read_number hr (zaa (za6 (zab 0) zae) zac)) (zaa (zag C_read_number hr (zaa (za6 (zab 0) zae) zac)) (zaa (zag C_read_number hr (zaa (za6 (zab 0) zae) zac)) zac)))))))) zdQ fun _ _ _ _ _ _ us hl=>by obtain⟨_,rfl⟩:=zfh hl;exact rfl
noncomputable abbrev s_is_name:Stmt:=top 4
theorem zhf:FnScope ["word"] ["word"] (defScope s_is_name):=⟨rfl,rfl,rfl,by decide +kernel,rfl,by decide +kernel,by decide +kernel⟩
theorem zfF:(["sign"]:List Str).Nodup:=by decide +kernel
theorem zeL(A:At K mg "is_name" s_is_name)(T:Txt K mg) :Known P w K mg base 1 "is_name" 1 zbD:=zaA 0 A zhf (fun f cdv A outer s H E hr=>have hu:=hr.units
 have ⟨t_LETTERS,c_LETTERS⟩:=T.c_LETTERS
 have ⟨t_LONGEST_NAME,c_LONGEST_NAME⟩:=T.c_LONGEST_NAME
 (zaf (zjm (zgo (zjl zel zel zae (zap zco T.b_len boot_len (zaa (zab 0) zac)) (zc2 c_LONGEST_NAME))) (zaw (za9 zl9)) zdj)
   (zaw (za9 (zap (zjw rfl) T.b_all boot_all (zaa (zaI rfl (.of (N':=["sign"]) (m:=[none]) (by kernel_rfl)) zan (zaH (zab 0)) (fun s3 H3 ex=>(zaq 0 zfF)) (fun s3 H3 ex=>zaU) (fun s3 H3 ex=>(zbg (znm hu) (zab 0) (zgk c_LETTERS)))) zac)))))) zfu fun _ _ _ _ _ _ us hl=>by obtain⟨_,rfl⟩:=zfh hl;exact rfl
noncomputable abbrev s_read_name:Stmt:=top 24
theorem zfG:FnScope ["word"] ["word"] (defScope s_read_name):=⟨rfl,rfl,rfl,by decide +kernel,rfl,by decide +kernel,by decide +kernel⟩
theorem zdy(A:At K mg "read_name" s_read_name)(T:Txt K mg)(C_demand:Known P w K mg base 1 "demand" 2 zas)(C_is_name:Known P w K mg base 1 "is_name" 1 zbD):Known P w K mg base 2 "read_name" 1 zat:=zaA 1 A zfG (fun f cdv A outer s H E hr=>have hu:=hr.units
 (zaf (zbG (zag C_demand hr (zaa (zag C_is_name hr (zaa (zab 0) zac)) (zaa zam zac))))
   (zaw (za9 (zab 0))))) zdM fun _ _ _ _ _ _ us hl=>by obtain⟨_,rfl⟩:=zfh hl;exact rfl
noncomputable abbrev s_read_bend:Stmt:=top 22
theorem zfH:FnScope ["words"] ["words"] (defScope s_read_bend):=⟨rfl,rfl,rfl,by decide +kernel,rfl,by decide +kernel,by decide +kernel⟩
theorem zdz(A:At K mg "read_bend" s_read_bend)(T:Txt K mg)(C_demand:Known P w K mg base 1 "demand" 2 zas)(C_read_name:Known P w K mg base 2 "read_name" 1 zat)(C_read_number:Known P w K mg base 2 "read_number" 1 zao):Known P w K mg base 3 "read_bend" 1 zbi:=zaA 2 A zfH (fun f cdv A outer s H E hr=>have hu:=hr.units
 (zaf (zbG (zag C_demand hr (zaa (zbg (zg1 hu) (zap zco T.b_len boot_len (zaa (zab 0) zac)) zae) (zaa zam zac))))
   (zaw (za9 (ze4 (zaa (zag C_read_number hr (zaa (za6 (zab 0) zae) zac)) (zaa (zag C_read_name hr (zaa (za6 (zab 0) zae) zac)) zac))))))) zdP fun _ _ _ _ _ _ us hl=>by obtain⟨_,rfl⟩:=zfh hl;exact rfl
noncomputable abbrev s_read_wide:Stmt:=top 21
theorem zfI:FnScope ["words"] ["words"] (defScope s_read_wide):=⟨rfl,rfl,rfl,by decide +kernel,rfl,by decide +kernel,by decide +kernel⟩
theorem zdA(A:At K mg "read_wide" s_read_wide)(T:Txt K mg)(C_demand:Known P w K mg base 1 "demand" 2 zas)(C_read_number:Known P w K mg base 2 "read_number" 1 zao)(C_read_name:Known P w K mg base 2 "read_name" 1 zat):Known P w K mg base 3 "read_wide" 1 zbh:=zaA 2 A zfI (fun f cdv A outer s H E hr=>have hu:=hr.units
 (zaf (zbG (zag C_demand hr (zaa (zbg (zg1 hu) (zap zco T.b_len boot_len (zaa (zab 0) zac)) zae) (zaa zam zac))))
   (zaw (za9 (ze4 (zaa (zag C_read_name hr (zaa (za6 (zab 0) zae) zac)) (zaa (zag C_read_number hr (zaa (za6 (zab 0) zae) zac)) zac))))))) zdO fun _ _ _ _ _ _ us hl=>by obtain⟨_,rfl⟩:=zfh hl;exact rfl
noncomputable abbrev s_read_names:Stmt:=top 20
theorem zeM:FnScope ["words"] ["words"] (defScope s_read_names):=⟨rfl,rfl,rfl,by decide +kernel,rfl,by decide +kernel,by decide +kernel⟩
theorem zdB:(["word"]:List Str).Nodup:=by decide +kernel
theorem zc1(A:At K mg "read_names" s_read_names)(T:Txt K mg)(C_read_name:Known P w K mg base 2 "read_name" 1 zat):Known P w K mg base 3 "read_names" 1 zaS:=zaA 2 A zeM (fun f cdv A outer s H E hr=>have hu:=hr.units
 (zaw (za9 (zaI rfl (.of (N':=["word"]) (m:=[none]) (by kernel_rfl)) zan (zaH (zab 0)) (fun s3 H3 ex=>(zaq 0 zdB)) (fun s3 H3 ex=>zaU) (fun s3 H3 ex=>(zag C_read_name hr (zaa (zab 0) zac))))))) zdu fun _ _ _ _ _ _ us hl=>by obtain⟨_,rfl⟩:=zfh hl;exact rfl
noncomputable abbrev s_read_pins:Stmt:=top 19
theorem zfJ:FnScope ["words"] ["words"] (defScope s_read_pins):=⟨rfl,rfl,rfl,by decide +kernel,rfl,by decide +kernel,by decide +kernel⟩
theorem zd4:(["word"]:List Str).Nodup:=by decide +kernel
theorem zdC(A:At K mg "read_pins" s_read_pins)(T:Txt K mg)(C_read_name:Known P w K mg base 2 "read_name" 1 zat):Known P w K mg base 3 "read_pins" 1 za0:=zaA 2 A zfJ (fun f cdv A outer s H E hr=>have hu:=hr.units
 (zaw (za9 (zaI rfl (.of (N':=["word"]) (m:=[none]) (by kernel_rfl)) zan (zaH (zab 0)) (fun s3 H3 ex=>(zaq 0 zd4)) (fun s3 H3 ex=>zaU) (fun s3 H3 ex=>(zgq (zci (zg1 hu) (zab 0) zam) zhK (zag C_read_name hr (zaa (zab 0) zac)))))))) zdN fun _ _ _ _ _ _ us hl=>by obtain⟨_,rfl⟩:=zfh hl;exact rfl
noncomputable abbrev s__law_mix:Stmt:=top 30
theorem zgd:FnScope ["_law_cell","_law_k"] ["_law_cell","_law_k"] (defScope s__law_mix):=⟨rfl,rfl,rfl,by decide +kernel,rfl,by decide +kernel,by decide +kernel⟩
theorem zd5(A:At K mg "_law_mix" s__law_mix)(T:Txt K mg) :Known P w K mg base 1 "_law_mix" 2 zbe:=zaA 0 A zgd (fun f cdv A outer s H E hr=>have hu:=hr.units
 (zaw (za9 (zak zbn (zak zby (zak za5 (zak za5 (zak zgZ (zak zby (zab 0) (zak zma zae zae)) (zak za5 (zak zgZ (zab 1) (zab 1)) zae)) (zak zgZ (zak zgZ (zak zgZ zae (zab 1)) (zab 1)) (zab 1))) zae) zae) zae)))) zey fun _ _ _ _ _ _ us hl=>by obtain⟨_,_,rfl⟩:=zlr hl;exact rfl
noncomputable abbrev s__law_word:Stmt:=top 31
theorem sc__law_word:FnScope ["_law_k","_law_seed","_law_letters","_law_rest","_law_at"] ["_law_k","_law_seed"] (defScope s__law_word):=⟨rfl,rfl,rfl,by decide +kernel,rfl,by decide +kernel,by decide +kernel⟩
theorem zdD(A:At K mg "_law_word" s__law_word)(T:Txt K mg) :Known P w K mg base 1 "_law_word" 2 zbl:=zaA 0 A sc__law_word (fun f cdv A outer s H E hr=>have hu:=hr.units
 (zaf (zav 2 zam sc__law_word.nd)
   (zaf (zav 3 (zak za5 (za6 (zab 2) (zak zby (zab 1) zae)) (za6 (zab 2) (zak zby (zak zbn (zab 1) zae) zae))) sc__law_word.nd)
   (zaf (zav 4 (zak zby (zak zbn (zab 1) zae) zae) sc__law_word.nd)
   (zaw (za9 (zak za5 (zak za5 (zaZ (zab 3) zaR (zaz (zab 4))) (za6 (zab 2) (zak zby (zak za5 (zab 0) (zak zbn (zab 1) zae)) zae))) (zaZ (zab 3) (zaz (zab 4)) zaR)))))))) zdU fun _ _ _ _ _ _ us hl=>by obtain⟨_,_,rfl⟩:=zlr hl;exact rfl
noncomputable abbrev s__law_line:Stmt:=top 32
theorem zfK:FnScope ["_law_head","_law_words"] ["_law_head","_law_words"] (defScope s__law_line):=⟨rfl,rfl,rfl,by decide +kernel,rfl,by decide +kernel,by decide +kernel⟩
theorem zdE(A:At K mg "_law_line" s__law_line)(T:Txt K mg) :Known P w K mg base 1 "_law_line" 2 zaF:=zaA 0 A zfK (fun f cdv A outer s H E hr=>have hu:=hr.units
 (zaw (za9 (zak za5 (zcF zic (.inr rfl) PySem.F.plainAttrs_str PySem.F.slot_str_join PySem.F.type_str_join zam (zaa (zak za5 (zbL (zaa (zab 0) zac)) (zab 1)) zac)) zam)))) zdV fun _ _ _ _ _ _ us hl=>by obtain⟨_,_,rfl⟩:=zlr hl;exact rfl
noncomputable abbrev s_law:Stmt:=top 33
theorem sc_law:FnScope ["_law_script","_law_seed","_law_one","_law_width","_law_below","_law_two","_law_many","_law_keeps","_law_names","_law_pins","_law_left","_law_wide","_law_bends","_law_right","_law_text","_law_good","_law_found","_law_refused"] ["_law_script"] (defScope s_law):=⟨rfl,rfl,rfl,by decide +kernel,rfl,by decide +kernel,by decide +kernel⟩
theorem zjU:(["_law_k","_law_seed"]:List Str).Nodup:=by decide +kernel
theorem zjV:(["_law_k","_law_many","_law_names"]:List Str).Nodup:=by decide +kernel
theorem zjW:(["_law_name"]:List Str).Nodup:=by decide +kernel
theorem zgO:(["_law_k","_law_name"]:List Str).Nodup:=by decide +kernel
theorem zeN(A:At K mg "demand" s_demand)(T:Txt K mg)   (O_BadText:OwnIn K mg "BadText" CB [.type "ValueError",.type "Exception",.type "BaseException",.type "object"] "ValueError.__new__"):KnownX P w K mg base CB 1 "demand" 2 zau:=zdo (T:=zct) 0 A zfC (fun Qx f cdv A outer s H E hr=>have hu:=hr.units
 (zc7 (zmv (zgo (zgm (zab 0))) (zc7 (zjL O_BadText PySem.F.excBase_ValueError rfl zk8 (zab 1))) (zla zdj)))) zfw fun _ _ _ _ _ _ us hl=>by obtain⟨_,_,rfl⟩:=zlr hl;exact rfl
noncomputable abbrev s_demand_lists:Stmt:=top 26
theorem zdF:FnScope ["channel"] ["channel"] (defScope s_demand_lists):=⟨rfl,rfl,rfl,by decide +kernel,rfl,by decide +kernel,by decide +kernel⟩
theorem zcO:(["pair"]:List Str).Nodup:=by decide +kernel
theorem zcP:(["pair"]:List Str).Nodup:=by decide +kernel
theorem zcQ:(["pair"]:List Str).Nodup:=by decide +kernel
theorem zcf(A:At K mg "demand_lists" s_demand_lists)(T:Txt K mg)(C_is_rising:Known P w K mg base 1 "is_rising" 1 zaE)(C_all_names:Known P w K mg base 1 "all_names" 1 zbk)(X_demand:KnownX P w K mg base CB 1 "demand" 2 zau)(O_BadText:OwnIn K mg "BadText" CB [.type "ValueError",.type "Exception",.type "BaseException",.type "object"] "ValueError.__new__"):KnownX P w K mg base CB 2 "demand_lists" 1 zaL:=zdo (T:=za7) 1 A zdF (fun Qx f cdv A outer s H E hr=>have hu:=hr.units
 have ⟨t_MOST_COLUMNS,c_MOST_COLUMNS⟩:=T.c_MOST_COLUMNS
 have ⟨t_MOST_KEEPS,c_MOST_KEEPS⟩:=T.c_MOST_KEEPS
 have ⟨t_MOST_NAMES,c_MOST_NAMES⟩:=T.c_MOST_NAMES
 (zaJ (zbf (zaY X_demand hr rfl zb0 (zaa (zbg (zg1 hu) (zap zco T.b_len boot_len (zaa (zbc (zab 0)) zac)) (zap zco T.b_len boot_len (zaa (zbc (zab 0)) zac))) (zaa zam zac))))
   (zaJ (zbf (zaY X_demand hr rfl zb0 (zaa (zes zel zel zae (zap zco T.b_len boot_len (zaa (zbc (zab 0)) zac)) (zc2 c_MOST_COLUMNS)) (zaa zam zac))))
   (zaJ (zbf (zaY X_demand hr rfl zb0 (zaa (zag C_is_rising hr (zaa (zbc (zab 0)) zac)) (zaa zam zac))))
   (zaJ (zbf (zaY X_demand hr rfl zb0 (zaa (zag C_is_rising hr (zaa (zbc (zab 0)) zac)) (zaa zam zac))))
   (zaJ (zbf (zaY X_demand hr rfl zb0 (zaa (zag C_is_rising hr (zaa (zaI rfl (.of (N':=["pair"]) (m:=[none]) (by kernel_rfl)) zan (zaH (zbc (zab 0))) (fun s3 H3 ex=>(zaq 0 zcO)) (fun s3 H3 ex=>zaU) (fun s3 H3 ex=>(za6 (zab 0) zae))) zac)) (zaa zam zac))))
   (zaJ (zbf (zaY X_demand hr rfl zb0 (zaa (zap (zjw rfl) T.b_all boot_all (zaa (zaI rfl (.of (N':=["pair"]) (m:=[none]) (by kernel_rfl)) zan (zaH (zbc (zab 0))) (fun s3 H3 ex=>(zaq 0 zcP)) (fun s3 H3 ex=>zaU) (fun s3 H3 ex=>(zbg (znm hu) (za6 (zab 0) zae) (ze4 (zaa zae (zaa zae zac)))))) zac)) (zaa zam zac))))
   (zaJ (zbf (zaY X_demand hr rfl zb0 (zaa (zag C_is_rising hr (zaa (zaI rfl (.of (N':=["pair"]) (m:=[none]) (by kernel_rfl)) zan (zaH (zbc (zab 0))) (fun s3 H3 ex=>(zaq 0 zcQ)) (fun s3 H3 ex=>zaU) (fun s3 H3 ex=>(za6 (zab 0) zae))) zac)) (zaa zam zac))))
   (zaJ (zbf (zaY X_demand hr rfl zb0 (zaa (zbg zmT (zap zco T.b_len boot_len (zaa (zbc (zab 0)) zac)) (zc2 c_MOST_KEEPS)) (zaa zam zac))))
   (zc7 (zbf (zaY X_demand hr rfl zb0 (zaa (zbg zmT (zg9 rfl T.b_len T.b_set (zaa (zag C_all_names hr (zaa (zab 0) zac)) zac)) (zc2 c_MOST_NAMES)) (zaa zam zac)))))))))))))) zcu fun _ _ _ _ _ _ us hl=>by obtain⟨_,rfl⟩:=zfh hl;exact rfl
noncomputable abbrev s_read_channel:Stmt:=top 14
theorem sc_read_channel:FnScope ["text","lines","channel"] ["text"] (defScope s_read_channel):=⟨rfl,rfl,rfl,by decide +kernel,rfl,by decide +kernel,by decide +kernel⟩
theorem zcR:(["words"]:List Str).Nodup:=by decide +kernel
theorem zcS:(["words"]:List Str).Nodup:=by decide +kernel
theorem zcT:(["words"]:List Str).Nodup:=by decide +kernel
theorem zcU:(["words"]:List Str).Nodup:=by decide +kernel
theorem zcg(A:At K mg "read_channel" s_read_channel)(T:Txt K mg)(C_lines_of:Known P w K mg base 2 "lines_of" 1 zbs)(C_demand_heads:Known P w K mg base 2 "demand_heads" 1 zaQ)(C_Channel:KnownC P w K mg base 1 "Channel" 7 zbE)(C_read_keep:Known P w K mg base 3 "read_keep" 1 zbj)(C_read_bend:Known P w K mg base 3 "read_bend" 1 zbi)(C_read_wide:Known P w K mg base 3 "read_wide" 1 zbh)(C_read_names:Known P w K mg base 3 "read_names" 1 zaS)(C_read_pins:Known P w K mg base 3 "read_pins" 1 za0)(X_demand_lists:KnownX P w K mg base CB 2 "demand_lists" 1 zaL)(O_BadText:OwnIn K mg "BadText" CB [.type "ValueError",.type "Exception",.type "BaseException",.type "object"] "ValueError.__new__"):KnownX P w K mg base CB 4 "read_channel" 1 zaM:=zdo (T:=za8) 3 A sc_read_channel (fun Qx f cdv A outer s H E hr=>have hu:=hr.units
 (zaJ (zgE (zav 1 (zag C_lines_of hr (zaa (zab 0) zac)) sc_read_channel.nd))
   (zaJ (zgE (zbG (zag C_demand_heads hr (zaa (zaI rfl (.of (N':=["words"]) (m:=[none]) (by kernel_rfl)) zan (zaH (zab 1)) (fun s3 H3 ex=>(zaq 0 zcR)) (fun s3 H3 ex=>zaU) (fun s3 H3 ex=>(za6 (zab 0) zae))) zac))))
   (zaJ (zgE (zav 2 (zjz C_Channel hr (zaa (zag C_read_pins hr (zaa (zaZ (za6 (zab 1) zae) (zaz zae) zaR) zac)) (zaa (zag C_read_pins hr (zaa (zaZ (za6 (zab 1) zae) (zaz zae) zaR) zac)) (zaa (zag C_read_names hr (zaa (zaZ (za6 (zab 1) zae) (zaz zae) zaR) zac)) (zaa (zag C_read_names hr (zaa (zaZ (za6 (zab 1) zae) (zaz zae) zaR) zac)) (zaa (zaI rfl (.of (N':=["words"]) (m:=[none]) (by kernel_rfl)) zan (zaH (zab 1)) (fun s3 H3 ex=>(zaq 0 zcU)) (fun s3 H3 ex=>(zcC (zci (zg1 hu) (za6 (zab 0) zae) zam))) (fun s3 H3 ex=>(zag C_read_wide hr (zaa (zab 0) zac)))) (zaa (zaI rfl (.of (N':=["words"]) (m:=[none]) (by kernel_rfl)) zan (zaH (zab 1)) (fun s3 H3 ex=>(zaq 0 zcT)) (fun s3 H3 ex=>(zcC (zci (zg1 hu) (za6 (zab 0) zae) zam))) (fun s3 H3 ex=>(zag C_read_bend hr (zaa (zab 0) zac)))) (zaa (zaI rfl (.of (N':=["words"]) (m:=[none]) (by kernel_rfl)) zan (zaH (zab 1)) (fun s3 H3 ex=>(zaq 0 zcS)) (fun s3 H3 ex=>(zcC (zci (zg1 hu) (za6 (zab 0) zae) zam))) (fun s3 H3 ex=>(zag C_read_keep hr (zaa (zab 0) zac)))) zac)))))))) sc_read_channel.nd))
   (zaJ (zbf (zaY X_demand_lists hr rfl zb0 (zaa (zab 2) zac)))
   (zc7 (zgE (za9 (zab 2))))))))) zcw fun _ _ _ _ _ _ us hl=>by obtain⟨_,rfl⟩:=zfh hl;exact rfl
theorem zmS(T:Txt K mg)(C__law_mix:Known P w K mg base 1 "_law_mix" 2 zbe)(C__law_word:Known P w K mg base 1 "_law_word" 2 zbl)(C__law_line:Known P w K mg base 1 "_law_line" 2 zaF)(X_read_channel:KnownX P w K mg base CB 4 "read_channel" 1 zaM)(O_BadText:OwnIn K mg "BadText" CB [.type "ValueError",.type "Exception",.type "BaseException",.type "object"] "ValueError.__new__"){f:Addr}(cdv:Value)(A:Around)(outer:List Env)(s:Shared)(H:Hp)(E:XK)(hr:Room 4 (A.deeper (envOfC "law" (defScope s_law) s.heap.objs.size f cdv))) :
  PXs (zfP CX0 P w K mg base ["_law_script","_law_seed","_law_one","_law_width","_law_below","_law_two","_law_many","_law_keeps","_law_names","_law_pins","_law_left","_law_wide","_law_bends","_law_right","_law_text","_law_good","_law_found","_law_refused"] "law" (defScope s_law) f cdv A outer s H E).nox (defBody s_law) ziR:=by
 have hu:=hr.units
 exact(zaf (zav 1 (zak zby (zak zgZ (zak za5 (zak zby (zap (zk1 rfl) T.b_sum boot_sum (zaa (zaZ (zab 0) zaR (zaz zae)) zac)) (zak zma zae zae)) zae) zae) zae) sc_law.nd)
   (zaf (zav 2 (zag C__law_mix hr (zaa (zap (zk1 rfl) T.b_sum boot_sum (zaa (zaZ (zab 0) (zaz zae) (zaz zae)) zac)) (zaa zae zac))) sc_law.nd)
   (zaf (zav 3 (za6 (zbL (zaa (zak zby (zak zbn (zab 2) zae) zae) (zaa (zak za5 zae (zak zby (zak zbn (zab 2) zae) zae)) (zaa (zak zby (zak zbn (zab 2) zae) zae) zac)))) (zak zby (zab 2) zae)) sc_law.nd)
   (zaf (zav 4 (zak za5 (zab 3) (za6 (zbL (zaa zae (zaa zae (zaa zae (zaa zae (zaa (zmo zae) zac)))))) (zak zby (zak zbn (zab 2) zae) zae))) sc_law.nd)
   (zaf (zav 5 (zag C__law_mix hr (zaa (zap (zk1 rfl) T.b_sum boot_sum (zaa (zaZ (zab 0) (zaz zae) (zaz zae)) zac)) (zaa zae zac))) sc_law.nd)
   (zaf (zav 6 (za6 (zbL (zaa (zak za5 zae (zak zby (zak zbn (zab 5) zae) zae)) (zaa (zak za5 zae (zak zby (zak zbn (zab 5) zae) zae)) zac))) (zak zby (zab 5) zae)) sc_law.nd)
   (zaf (zav 7 (za6 (zbL (zaa (zak zby (zak zbn (zab 5) zae) zae) (zaa (zak za5 zae (zak zby (zak zbn (zab 5) zae) zae)) zac))) (zak zby (zak zbn (zab 5) zae) zae)) sc_law.nd)
   (zaf (zav 8 (zaI rfl (.of (N':=["_law_k","_law_seed"]) (m:=[none,some 1]) (by kernel_rfl)) zan (zec T.b_range (zaa (zab 6) zac)) (fun s3 H3 ex=>(zaq 0 zjU)) (fun s3 H3 ex=>zaU) (fun s3 H3 ex=>(zag C__law_word hr (zaa (zab 0) (zaa (zab 1) zac))))) sc_law.nd)
   (zaf (zgx 9 rfl (.of (N':=["_law_k","_law_many","_law_names"]) (m:=[none,some 6,some 8]) (by kernel_rfl)) zan (zec T.b_range (zaa (zab 3) zac)) (fun s3 H3 ex=>(zaq 0 zjV)) (fun s3 H3 ex=>zaU) (fun s3 H3 ex=>(zgq (zci zn6 (zab 0) (zab 1)) (za6 (zab 2) (zab 0)) zam)) sc_law.nd)
   (zaf (zav 10 (zaZ (zab 8) (zaz (zab 3)) zaR) sc_law.nd)
   (zaf (zav 11 (zbL zac) sc_law.nd)
   (zaf (zav 12 (zbL zac) sc_law.nd)
   (zaf (zjm (zci (zg1 hu) (zak zby (zak zbn (zab 2) zae) zae) zae) (zaw (zld 10 11 12 rfl (zaa (zdp (zab 10) (zaz zae) zaR) (zaa (zdp (zab 10) (zaz zae) zaR) (zaa (zdp (zab 10) (zaz zae) zaR) zac))) (hN:=sc_law.nd))) zdj)
   (zaf (zav 13 (zaZ (zab 8) zaR (zaz (zak zby (zak zbn (zab 2) zae) zae))) sc_law.nd)
   (zaf (zav 14 (zak za5 (zag C__law_line hr (zaa zam (zaa (zab 9) zac))) (zag C__law_line hr (zaa zam (zaa (zkd (zbL (zaa zam zac)) (zap (znp rfl) T.b_max boot_max (zaa zae (zaa (zab 4) zac)))) zac)))) sc_law.nd)
   (zaf (zav 14 (zak za5 (zak za5 (zab 14) (zag C__law_line hr (zaa zam (zaa (zap (zev rfl) T.b_sorted boot_sorted (zaa (zab 10) zac)) zac)))) (zag C__law_line hr (zaa zam (zaa (zap (zev rfl) T.b_sorted boot_sorted (zaa (zab 13) zac)) zac)))) sc_law.nd)
   (zaf (zav 14 (zak za5 (zab 14) (zcF zic (.inr rfl) PySem.F.plainAttrs_str PySem.F.slot_str_join PySem.F.type_str_join zam (zaa (zaI rfl (.of (N':=["_law_name"]) (m:=[none]) (by kernel_rfl)) zan (zaH (zap (zev rfl) T.b_sorted boot_sorted (zaa (zab 11) zac))) (fun s3 H3 ex=>(zaq 0 zjW)) (fun s3 H3 ex=>zaU) (fun s3 H3 ex=>(zak za5 (zak za5 zam (zab 0)) zam))) zac))) sc_law.nd)
   (zaf (zav 14 (zak za5 (zab 14) (zcF zic (.inr rfl) PySem.F.plainAttrs_str PySem.F.slot_str_join PySem.F.type_str_join zam (zaa (zaI rfl (.of (N':=["_law_k","_law_name"]) (m:=[none,none]) (by kernel_rfl)) ze8 (zjr T.b_enumerate (zaa (zab 12) zac)) (fun s3 H3 ex=>(zhT rfl (zcn (zaq 0 zgO) (zcn (zaq 1 zgO) zgu)))) (fun s3 H3 ex=>zaU) (fun s3 H3 ex=>(zak za5 (zak za5 (zak za5 (zak za5 zam (zaW zms T.b_str boot_str (zaa (zab 0) zac))) zam) (zab 1)) zam))) zac))) sc_law.nd)
   (zaf (zav 14 (zak za5 (zab 14) (zak zmB zam (zab 7))) sc_law.nd)
   (zaf (zav 15 (zgp (zes zel zel zae (zab 3) zae) (zgp (zbg (zg1 hu) (zab 4) (zab 3)) (zgp (zbg zmT (zab 6) zae) (zhP (zbg zmT (zab 7) zae))))) sc_law.nd)
   (zaf (zav 16 zhK sc_law.nd)
   (zaf (zav 17 zl9 sc_law.nd)
   (zaf (zmy 16 17 X_read_channel hr O_BadText rfl rfl sc_law.nd (zaa (zab 14) zac))
   (zaf (zjm (zme (zgm (zab 17)) (zkQ (zgo (zgm (zab 15))))).pb (zaw (za9 (zgp (zab 17) (zhP (zmf (zab 15)))))) zdj)
   (zaw (za9 (zbg (zg1 hu) (zbL (zaa (zap zco T.b_len boot_len (zaa (zbc (zab 16)) zac)) (zaa (zap zco T.b_len boot_len (zaa (zbc (zab 16)) zac)) (zaa (zap zco T.b_len boot_len (zaa (zbc (zab 16)) zac)) zac)))) (zbL (zaa (zab 3) (zaa (zab 3) (zaa (zab 7) zac)))))))))))))))))))))))))))))))
theorem law_ok{fa:Addr}(T:Txt K mg)(A_Channel:AtC K mg "Channel" "Channel.__init__" s_Channel ["top","bottom","left","right","wide","bends","keeps"])(A_is_rising:At K mg "is_rising" s_is_rising)(A_all_names:At K mg "all_names" s_all_names)(A_words_of:At K mg "words_of" s_words_of)(A_lines_of:At K mg "lines_of" s_lines_of)(A_demand:At K mg "demand" s_demand)(A_demand_heads:At K mg "demand_heads" s_demand_heads)(A_read_number:At K mg "read_number" s_read_number)(A_read_keep:At K mg "read_keep" s_read_keep)(A_is_name:At K mg "is_name" s_is_name)(A_read_name:At K mg "read_name" s_read_name)(A_read_bend:At K mg "read_bend" s_read_bend)(A_read_wide:At K mg "read_wide" s_read_wide)(A_read_names:At K mg "read_names" s_read_names)(A_read_pins:At K mg "read_pins" s_read_pins)(A__law_mix:At K mg "_law_mix" s__law_mix)(A__law_word:At K mg "_law_word" s__law_word)(A__law_line:At K mg "_law_line" s__law_line)(A_law:At K mg "law" s_law)(A_demand_lists:At K mg "demand_lists" s_demand_lists)(A_read_channel:At K mg "read_channel" s_read_channel)(O_BadText:OwnIn K mg "BadText" CB [.type "ValueError",.type "Exception",.type "BaseException",.type "object"] "ValueError.__new__")(hmg:mg "law"=some (.ref fa)):∃fd:FuncData,(∀(s:Shared) (u:Value),BindsTo s fd ⟨[u],[]⟩ [("_law_script",u)])∧∀base:Heap,FnOk P w K mg base CX0 5 fa fd ["_law_script"] (PSp K 1 (zkZ 63)):=by
 refine zml (T:=fun _=>ziR) A_law hmg sc_law (fun _ _ _ _ _ _ us hl=>by obtain⟨_,rfl⟩:=zfh hl;exact rfl) (fun base f cdv A outer s H E hr=>?_) (fun _=>zjT)
 have C_Channel:KnownC P w K mg base 1 "Channel" 7 zbE:=zeH A_Channel T
 have C_is_rising:Known P w K mg base 1 "is_rising" 1 zaE:=zdv A_is_rising T 
 have C_all_names:Known P w K mg base 1 "all_names" 1 zbk:=zdw A_all_names T 
 have C_words_of:Known P w K mg base 1 "words_of" 1 zbr:=zd1 A_words_of T 
 have C_lines_of:Known P w K mg base 2 "lines_of" 1 zbs:=zd2 A_lines_of T C_words_of
 have C_demand:Known P w K mg base 1 "demand" 2 zas:=zfD A_demand T 
 have C_demand_heads:Known P w K mg base 2 "demand_heads" 1 zaQ:=zcx A_demand_heads T C_demand
 have C_read_number:Known P w K mg base 2 "read_number" 1 zao:=zcN A_read_number T C_demand
 have C_read_keep:Known P w K mg base 3 "read_keep" 1 zbj:=zdx A_read_keep T C_demand C_read_number
 have C_is_name:Known P w K mg base 1 "is_name" 1 zbD:=zeL A_is_name T 
 have C_read_name:Known P w K mg base 2 "read_name" 1 zat:=zdy A_read_name T C_demand C_is_name
 have C_read_bend:Known P w K mg base 3 "read_bend" 1 zbi:=zdz A_read_bend T C_demand C_read_name C_read_number
 have C_read_wide:Known P w K mg base 3 "read_wide" 1 zbh:=zdA A_read_wide T C_demand C_read_number C_read_name
 have C_read_names:Known P w K mg base 3 "read_names" 1 zaS:=zc1 A_read_names T C_read_name
 have C_read_pins:Known P w K mg base 3 "read_pins" 1 za0:=zdC A_read_pins T C_read_name
 have C__law_mix:Known P w K mg base 1 "_law_mix" 2 zbe:=zd5 A__law_mix T 
 have C__law_word:Known P w K mg base 1 "_law_word" 2 zbl:=zdD A__law_word T 
 have C__law_line:Known P w K mg base 1 "_law_line" 2 zaF:=zdE A__law_line T 
 have X_demand:KnownX P w K mg base CB 1 "demand" 2 zau:=zeN A_demand T  O_BadText
 have X_demand_lists:KnownX P w K mg base CB 2 "demand_lists" 1 zaL:=zcf A_demand_lists T C_is_rising C_all_names X_demand O_BadText
 have X_read_channel:KnownX P w K mg base CB 4 "read_channel" 1 zaM:=zcg A_read_channel T C_lines_of C_demand_heads C_Channel C_read_keep C_read_bend C_read_wide C_read_names C_read_pins X_demand_lists O_BadText
 exact zmS T C__law_mix C__law_word C__law_line X_read_channel O_BadText cdv A outer s H E hr
end
end Wc
open PySem PySem.W PyProof.Rows
theorem PySem.W.Fast.te4827022562725296928:True:=trivial
theorem PySem.Challenge.cw_wirechannel_k05_bounds_holds : PySem.Challenge.rw_wirechannel_k05_bounds.Holds := by
 w_on;o_law;k_head;(case hw=>w_witness2)
 k_fill
 refine L2.walk_pure (l:=PySem.Challenge.rw_wirechannel_k05_bounds) (n:=63) (k:=5) (x:="_law_script") rfl (by decide) rfl ⟨rfl,by decide,by decide⟩ (fun w h Y=>PySem.W.kIn_of Y) ?F
 case F=>
  intro w mg fa h KX G hmg
  have A_Channel:L2.AtC (L2.KOf KX) mg "Channel" "Channel.__init__" Wc.s_Channel ["top","bottom","left","right","wide","bends","keeps"]:=by
   dsimp only[L2.KOf]
   refine' L2.atC_mk KX G ?aC ?a1 ?i1 ?l1 ?c1 ?k1 ?pg ?hd ?po ?sa ?mk ?kc ⟨?n0,?n1,?n2,?n3,?n4,?n5,?n6,trivial⟩
   (case aC=>k_is)
   (case a1=>k_is)
   (case i1=>k_is)
   (case l1=>k_is)
   (case c1=>k_is)
   (case k1=>k_is)
   (case pg=>k_is)
   (case hd=>k_is)
   (case po=>k_is)
   (case sa=>k_is)
   (case mk=>k_is)
   (case kc=>k_is)
   (case n0=>unfold L2.NoAttr;k_is)
   (case n1=>unfold L2.NoAttr;k_is)
   (case n2=>unfold L2.NoAttr;k_is)
   (case n3=>unfold L2.NoAttr;k_is)
   (case n4=>unfold L2.NoAttr;k_is)
   (case n5=>unfold L2.NoAttr;k_is)
   (case n6=>unfold L2.NoAttr;k_is)
  have A_is_rising:L2.At (L2.KOf KX) mg "is_rising" Wc.s_is_rising:=by
   dsimp only[L2.KOf]
   refine' L2.at_mk KX G ?a ?l ?c ?k
   (case a=>k_is);(case l=>k_is);(case c=>k_is);(case k=>k_is)
  have A_all_names:L2.At (L2.KOf KX) mg "all_names" Wc.s_all_names:=by
   dsimp only[L2.KOf]
   refine' L2.at_mk KX G ?a ?l ?c ?k
   (case a=>k_is);(case l=>k_is);(case c=>k_is);(case k=>k_is)
  have A_words_of:L2.At (L2.KOf KX) mg "words_of" Wc.s_words_of:=by
   dsimp only[L2.KOf]
   refine' L2.at_mk KX G ?a ?l ?c ?k
   (case a=>k_is);(case l=>k_is);(case c=>k_is);(case k=>k_is)
  have A_lines_of:L2.At (L2.KOf KX) mg "lines_of" Wc.s_lines_of:=by
   dsimp only[L2.KOf]
   refine' L2.at_mk KX G ?a ?l ?c ?k
   (case a=>k_is);(case l=>k_is);(case c=>k_is);(case k=>k_is)
  have A_demand:L2.At (L2.KOf KX) mg "demand" Wc.s_demand:=by
   dsimp only[L2.KOf]
   refine' L2.at_mk KX G ?a ?l ?c ?k
   (case a=>k_is);(case l=>k_is);(case c=>k_is);(case k=>k_is)
  have A_demand_heads:L2.At (L2.KOf KX) mg "demand_heads" Wc.s_demand_heads:=by
   dsimp only[L2.KOf]
   refine' L2.at_mk KX G ?a ?l ?c ?k
   (case a=>k_is);(case l=>k_is);(case c=>k_is);(case k=>k_is)
  have A_read_number:L2.At (L2.KOf KX) mg "read_number" Wc.s_read_number:=by
   dsimp only[L2.KOf]
   refine' L2.at_mk KX G ?a ?l ?c ?k
   (case a=>k_is);(case l=>k_is);(case c=>k_is);(case k=>k_is)
  have A_read_keep:L2.At (L2.KOf KX) mg "read_keep" Wc.s_read_keep:=by
   dsimp only[L2.KOf]
   refine' L2.at_mk KX G ?a ?l ?c ?k
   (case a=>k_is);(case l=>k_is);(case c=>k_is);(case k=>k_is)
  have A_is_name:L2.At (L2.KOf KX) mg "is_name" Wc.s_is_name:=by
   dsimp only[L2.KOf]
   refine' L2.at_mk KX G ?a ?l ?c ?k
   (case a=>k_is);(case l=>k_is);(case c=>k_is);(case k=>k_is)
  have A_read_name:L2.At (L2.KOf KX) mg "read_name" Wc.s_read_name:=by
   dsimp only[L2.KOf]
   refine' L2.at_mk KX G ?a ?l ?c ?k
   (case a=>k_is);(case l=>k_is);(case c=>k_is);(case k=>k_is)
  have A_read_bend:L2.At (L2.KOf KX) mg "read_bend" Wc.s_read_bend:=by
   dsimp only[L2.KOf]
   refine' L2.at_mk KX G ?a ?l ?c ?k
   (case a=>k_is);(case l=>k_is);(case c=>k_is);(case k=>k_is)
  have A_read_wide:L2.At (L2.KOf KX) mg "read_wide" Wc.s_read_wide:=by
   dsimp only[L2.KOf]
   refine' L2.at_mk KX G ?a ?l ?c ?k
   (case a=>k_is);(case l=>k_is);(case c=>k_is);(case k=>k_is)
  have A_read_names:L2.At (L2.KOf KX) mg "read_names" Wc.s_read_names:=by
   dsimp only[L2.KOf]
   refine' L2.at_mk KX G ?a ?l ?c ?k
   (case a=>k_is);(case l=>k_is);(case c=>k_is);(case k=>k_is)
  have A_read_pins:L2.At (L2.KOf KX) mg "read_pins" Wc.s_read_pins:=by
   dsimp only[L2.KOf]
   refine' L2.at_mk KX G ?a ?l ?c ?k
   (case a=>k_is);(case l=>k_is);(case c=>k_is);(case k=>k_is)
  have A__law_mix:L2.At (L2.KOf KX) mg "_law_mix" Wc.s__law_mix:=by
   dsimp only[L2.KOf]
   refine' L2.at_mk KX G ?a ?l ?c ?k
   (case a=>k_is);(case l=>k_is);(case c=>k_is);(case k=>k_is)
  have A__law_word:L2.At (L2.KOf KX) mg "_law_word" Wc.s__law_word:=by
   dsimp only[L2.KOf]
   refine' L2.at_mk KX G ?a ?l ?c ?k
   (case a=>k_is);(case l=>k_is);(case c=>k_is);(case k=>k_is)
  have A__law_line:L2.At (L2.KOf KX) mg "_law_line" Wc.s__law_line:=by
   dsimp only[L2.KOf]
   refine' L2.at_mk KX G ?a ?l ?c ?k
   (case a=>k_is);(case l=>k_is);(case c=>k_is);(case k=>k_is)
  have A_law:L2.At (L2.KOf KX) mg "law" Wc.s_law:=by
   dsimp only[L2.KOf]
   refine' L2.at_mk KX G ?a ?l ?c ?k
   (case a=>k_is);(case l=>k_is);(case c=>k_is);(case k=>k_is)
  have A_demand_lists:L2.At (L2.KOf KX) mg "demand_lists" Wc.s_demand_lists:=by
   dsimp only[L2.KOf]
   refine' L2.at_mk KX G ?a ?l ?c ?k
   (case a=>k_is);(case l=>k_is);(case c=>k_is);(case k=>k_is)
  have A_read_channel:L2.At (L2.KOf KX) mg "read_channel" Wc.s_read_channel:=by
   dsimp only[L2.KOf]
   refine' L2.at_mk KX G ?a ?l ?c ?k
   (case a=>k_is);(case l=>k_is);(case c=>k_is);(case k=>k_is)
  have c_FIGURES:∃t,mg "FIGURES"=some (.str "0123456789" t):=by
   refine' L2.conS_mk KX G ?c ?e
   (case c=>k_is)
   (case e=>exact rfl)
  have c_FIRST_HEADS:L2.ConT (L2.KOf KX) mg "FIRST_HEADS" ["top","bottom","left","right"]:=by
   dsimp only[L2.KOf]
   refine' L2.conT_mk KX G ?c ?l ?h
   (case c=>k_is)
   (case l=>k_is)
   (case h=>exact⟨rfl,_,_,rfl,by decide,(.cons ⟨_,rfl⟩ (.cons ⟨_,rfl⟩ (.cons ⟨_,rfl⟩ (.cons ⟨_,rfl⟩ .nil))))⟩)
  have c_LETTERS:∃t,mg "LETTERS"=some (.str "abcdefghijklmnopqrstuvwxyz" t):=by
   refine' L2.conS_mk KX G ?c ?e
   (case c=>k_is)
   (case e=>exact rfl)
  have c_LONGEST_NAME:∃t,mg "LONGEST_NAME"=some (.int 6 t):=by
   refine' L2.conI_mk KX G ?c ?e
   (case c=>k_is)
   (case e=>exact rfl)
  have c_MOST_COLUMNS:∃t,mg "MOST_COLUMNS"=some (.int 40 t):=by
   refine' L2.conI_mk KX G ?c ?e
   (case c=>k_is)
   (case e=>exact rfl)
  have c_MOST_KEEPS:∃t,mg "MOST_KEEPS"=some (.int 8 t):=by
   refine' L2.conI_mk KX G ?c ?e
   (case c=>k_is)
   (case e=>exact rfl)
  have c_MOST_NAMES:∃t,mg "MOST_NAMES"=some (.int 24 t):=by
   refine' L2.conI_mk KX G ?c ?e
   (case c=>k_is)
   (case e=>exact rfl)
  have T:Wc.Txt (L2.KOf KX) mg:=by
   dsimp only[L2.KOf]
   refine' ⟨PySem.W.mg_none_of KX G ?b_all,PySem.W.mg_none_of KX G ?b_enumerate,PySem.W.mg_none_of KX G ?b_int,PySem.W.mg_none_of KX G ?b_len,PySem.W.mg_none_of KX G ?b_list,PySem.W.mg_none_of KX G ?b_max,PySem.W.mg_none_of KX G ?b_range,PySem.W.mg_none_of KX G ?b_set,PySem.W.mg_none_of KX G ?b_sorted,PySem.W.mg_none_of KX G ?b_str,PySem.W.mg_none_of KX G ?b_sum,PySem.W.mg_none_of KX G ?b_zip,c_FIGURES,c_FIRST_HEADS,c_LETTERS,c_LONGEST_NAME,c_MOST_COLUMNS,c_MOST_KEEPS,c_MOST_NAMES⟩
   (case b_all=>k_is)
   (case b_enumerate=>k_is)
   (case b_int=>k_is)
   (case b_len=>k_is)
   (case b_list=>k_is)
   (case b_max=>k_is)
   (case b_range=>k_is)
   (case b_set=>k_is)
   (case b_sorted=>k_is)
   (case b_str=>k_is)
   (case b_sum=>k_is)
   (case b_zip=>k_is)
  have b_BadText:∃CB,L2.OwnIn (L2.KOf KX) mg "BadText" CB [.type "ValueError",.type "Exception",.type "BaseException",.type "object"] "ValueError.__new__":=by
   dsimp only[L2.KOf]
   refine' ⟨_,PySem.W.mg_of KX G ?c,?e⟩
   (case c=>k_is)
   (case e=>k_exc)
  obtain⟨CB,O_BadText⟩:=b_BadText
  exact Wc.law_ok T A_Channel A_is_rising A_all_names A_words_of A_lines_of A_demand A_demand_heads A_read_number A_read_keep A_is_name A_read_name A_read_bend A_read_wide A_read_names A_read_pins A__law_mix A__law_word A__law_line A_law A_demand_lists A_read_channel O_BadText hmg
#print axioms PySem.Challenge.cw_wirechannel_k05_bounds_holds
