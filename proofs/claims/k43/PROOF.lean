import PyProof.Rows.All
import Wide.All
import OpenK.AllK
import Wide.FinOn
import Lean
import PyProof.EqAt
import PyProof.EqKinds
import PyProof.TupleCall
import PyProof.NeKinds
import PyProof.SliceStr2
import PyProof.ConsumeWalk
import KE.KDictSum
import PyProof.DictWalks
import PyProof.AttrMissSeq
import KE.KDictOf
import PyProof.WalksS
import PyProof.Walks
import PyProof.DictList
import PyProof.MeetsDict
import PyProof.FactsAll.dict_3
import PyProof.MinMaxWalk
import PyProof.WalkInts
import PyProof.Rows.CallKwBuiltin
import PyProof.MaxThree
import PyProof.Rows.SortRunsK
import KE.KSortAsk
import PyProof.Rows.SortShellK
import KE.KSortTup
import PyProof.DictRoadsH
import PyProof.DictIter
import KE.KDictList
import PyProof.ZipIter
import PyProof.TupleIter
import PyProof.WalksMore
import PyProof.SumWalkG
import PyProof.DictValues
import PyProof.FactsAll.dict_4
import PySem.SetOps
import OpenK.KMore
import PyProof.ListRange
import PyProof.DictItems
import PyProof.CallStr
import KE.KIntText
import PyProof.StrCalls2
import PyProof.Rows.StrItems
import PySem.Challenge.RW_wirechannel_k43_rings_told
abbrev Z9:=PySem.W.Frag
set_option hygiene false
set_option compiler.extract_closed false
noncomputable section
local macro_rules | `(tactic| omega) => `(tactic| lia)
set_option Elab.async false
set_option linter.all false
set_option maxRecDepth 100000
def aa:=@PySem.wpAny_bind
def ae:=@List.length_map
def af:=@Bool.false_eq_true
def ag:=@PyProof.Rows.wpS_pure
def ah:=@Array.length_toList
def ai:=@List.getElem?_eq_getElem
def aj:=@PyProof.Rows.wpS_bind
def ao:=@PySem.Heap.get?_push_of_some
def aq:=@PySem.wpAny_pure
def ar:=@List.mem_cons
def au:=@List.length_append
def av:=@Array.getElem_toList
def aw:=@List.size_toArray
def ax:=@List.getElem?_eq_some_iff
def ay:=@List.mem_append
def az:=@Nat.le_refl
def aA:=@List.map_cons
def aB:=@PySem.Heap.lt_size
def aD:=@PySem.Heap.get?_push_size
def aE:=@List.length_cons
def aF:=@Array.toList_push
def aG:=@Nat.ne_of_lt
def aH:=@Nat.le_trans
def aI:=@List.getElem?_map
def aJ:=@if_false
def aK:=@List.mem_map
def aL:=@Nat.zero_le
def aM:=@List.length_take
def aN:=@Option.some.injEq
def aO:=@Bool.false_ne_true
def aP:=@List.not_mem_nil
def aQ:=@List.mem_cons_of_mem
def aR:=@if_true
def aS:=@Array.getElem_mem
def aT:=@List.map_append
def aU:=@PySem.PassesOwn.never
def aV:=@List.mem_of_getElem?
def aW:=@Nat.lt_of_lt_of_le
def aX:=@List.mem_singleton
def aY:=@List.length_filter_le
def aZ:=@decide_eq_false_iff_not
def a9:=@List.map_map
def ba:=@decide_eq_false
def bf:=@List.take_of_length_le
def bg:=@List.take_add_one
def bh:=@PySem.W.mg_none_of
def bj:=@List.getElem_of_mem
def bp:=@decide_false
def br:=@PyProof.Rows.wpS_forRange
def bu:=@List.mem_append_right
def bw:=@Int.emod_lt_of_pos
def bz:=@List.append_nil
def bA:=@List.nodup_cons
def bB:=@Int.emod_nonneg
def bC:=@List.length_drop
def bD:=@List.getElem?_cons_succ
def bE:=@List.length_range
def bF:=@decide_eq_true_eq
def bG:=@Bool.not_eq_true'
def bH:=@List.take_append_drop
def bI:=@List.mem_filter
def bJ:=@List.drop_eq_getElem_cons
def bK:=@Array.toList_append
def bL:=@PySem.wpAny_holding
def bM:=@List.pairwise_append
def bN:=@List.take_length
def bO:=@List.append_assoc
def bP:=@List.mem_range
def bQ:=@Array.mem_toList_iff
def bR:=@decide_true
def bS:=@Bool.not_true
def bT:=@List.replicate_succ
def bU:=@List.mem_map_of_mem
def bV:=@Option.map_some
def bW:=@List.find?_cons
def bX:=@List.getElem?_cons_zero
def bY:=@List.flatten_cons
def bZ:=@List.mem_append_left
def b8:=@Nat.le_succ
def b9:=@List.pairwise_iff_getElem
def cf:=@List.count_eq_zero
def cg:=@Bool.and_eq_true
def cj:=@Int.le_refl
def cq:=@Nat.lt_succ_of_lt
def cv:=@or_false
def cw:=@List.mem_of_mem_take
def cx:=@List.length_nil
def cy:=@List.map_nil
def cz:=@PySem.Heap.get?_update_other
def cA:=@List.cons_append
def cB:=@Option.map_eq_some_iff
def cC:=@List.getElem_mem
def cD:=@List.getElem?_append_left
def cE:=@Array.getElem?_eq_getElem
def cF:=@PyProof.Rows.wpS_mono
def cG:=@PySem.mem_of_lookup
def cH:=@PyProof.Rows.wpS_modify
def cI:=@PySem.wpAny_truthy_bool
def cJ:=@PySem.wpAny_newObj_type
def cK:=@Array.getElem?_toList
def cL:=@Option.some.inj
def cM:=@List.mem_cons_self
def cN:=@PySem.wpAny_mono
def cO:=@Nat.lt_succ_self
def cP:=@PySem.F.plainAttrs_list
def cQ:=@PySem.Around.under_plainId
def cR:=@Nat.max_eq_right
def cS:=@List.mem_of_mem_drop
def cT:=@PyProof.Rows.callWith_type1
def cU:=@List.drop_length_add_append
def cV:=@Nat.lt_irrefl
def cW:=@decide_eq_true
def cX:=@PySem.boot_len
def cY:=@List.nodup_append
def cZ:=@Int.le_of_lt
def c6:=@List.pairwise_map
def c7:=@beq_eq_false_iff_ne
def c8:=@List.flatMap_append
def c9:=@List.getElem?_eq_none
def de:=@beq_self_eq_true
def df:=@List.lookup_cons
def dg:=@List.pairwise_cons
def dh:=@List.any_cons
def di:=@PySem.Heap.size_push
def dr:=@List.eq_nil_of_length_eq_zero
def du:=@Array.toList_extract
def dv:=@List.drop_append_of_le_length
def dD:=@PySem.wpAny_setState_of
def dF:=@List.getElem_take
def dG:=@List.flatMap_cons
def dH:=@PySem.codeAny_builtin
def dQ:=@PyProof.Rows.F.plain_set_update_loop
def dR:=@PySem.wpAny_call_entry
def dU:=@List.countP_cons
def dX:=@beq_iff_eq
def dY:=@PySem.wpAny_Call_Name_kw
def dZ:=@Bool.not_false
def ec:=@List.perm_append_comm
def ee:=@Classical.byContradiction
def ef:=@PySem.wpAny_passesOwn
def eh:=@Bool.eq_iff_iff
def et:=@congrArg
def eu:=@Nat.ne_of_gt
def ez:=@Array.toArray_toList
def eA:=@bne_self_eq_false
def eB:=@Int.toNat_natCast
def eC:=@List.length_filterMap_le
def eD:=@List.map_congr_left
def eE:=@Function.comp_apply
def eF:=@PySem.wpAny_askSetting
def eG:=@List.flatMap_nil
def eH:=@List.nil_append
def eI:=@PySem.W.kia_one
def eJ:=@Nat.min_eq_left
def eK:=@List.count_cons
namespace L2
open PySem PySem.Spec PyProof.Rows
noncomputable abbrev Key:=Sum Int Str
noncomputable def vo:Key->Value->Bool
 | .inl k,v=>Value.isInt k v
 | .inr x,v=>Value.isStrOf x v
noncomputable def Nx(w:World):Key->Int
 | .inl k=>hashInt k
 | .inr x=>hashStr w x
theorem sv:∀{k:Key} {v:Value},vo k v=true->(∃i t,k=Sum.inl i/\v=Value.int i t)\/(∃x t,k=Sum.inr x/\v=Value.str x t)
 | .inl i,v,h=>by
  obtain⟨t,e⟩:=Value.isInt_shape (k:=i) (v:=v) h;exact .inl ⟨i,t,rfl,e⟩
 | .inr x,v,h=>by
  obtain⟨t,e⟩:=Value.isStrOf_shape (x:=x) (v:=v) h;exact .inr ⟨x,t,rfl,e⟩
theorem UD(i:Int)(t:Tok):vo (.inl i) (.int i t)=true:=by simp[vo,Value.isInt]
theorem UC(x:Str)(t:Tok):vo (.inr x) (.str x t)=true:=by simp[vo,Value.isStrOf]
theorem Qh(a b:Int):decide ((Sum.inl a:Key)=Sum.inl b)=(a==b):=by
 by_cases e:a=b
 ·subst e;simp
 ·have h:¬(Sum.inl a:Key)=Sum.inl b:=fun q=>e (Sum.inl.inj q)
  rw[ba h];exact(c7.mpr e).symm
theorem Qg(a b:Str):decide ((Sum.inr a:Key)=Sum.inr b)=decide (a=b):=by
 by_cases e:a=b
 ·subst e;simp
 ·have h:¬(Sum.inr a:Key)=Sum.inr b:=fun q=>e (Sum.inr.inj q)
  rw[ba h,ba e]
theorem Qf(a:Int)(b:Str):decide ((Sum.inl a:Key)=Sum.inr b)=false:=ba (fun q=>nomatch q)
theorem Qe(a:Str)(b:Int):decide ((Sum.inr a:Key)=Sum.inl b)=false:=ba (fun q=>nomatch q)
noncomputable def pO(prog:Program)(w:World):PySem.KeyKind prog w Key where
 is:=vo
 hash:=Nx w
 inj:=fun v a b ha hb=>by
  rcases sv ha with⟨i,t,rfl,rfl⟩ | ⟨x,t,rfl,rfl⟩
  ·rcases sv hb with⟨j,u,rfl,e⟩ | ⟨y,u,rfl,e⟩
   ·injection e with e1 _;rw[e1]
   ·exact nomatch e
  ·rcases sv hb with⟨j,u,rfl,e⟩ | ⟨y,u,rfl,e⟩
   ·exact nomatch e
   ·injection e with e1 _;rw[e1]
 byValue:=fun k v h=>by
  rcases sv h with⟨i,t,rfl,rfl⟩ | ⟨x,t,rfl,rfl⟩<;>rfl
 pyHash:=fun hv h=>by
  rcases sv hv with⟨i,t,rfl,rfl⟩ | ⟨x,t,rfl,rfl⟩
  ·exact wpAny_pyHash_int h
  ·exact wpAny_pyHash_str h
 eqBool:=fun hu hv h=>by
  rcases sv hu with⟨i,t,rfl,rfl⟩ | ⟨x,t,rfl,rfl⟩
  ·rcases sv hv with⟨j,u,rfl,rfl⟩ | ⟨y,u,rfl,rfl⟩
   ·rw[Qh] at h;exact wpAny_eqBool_int h
   ·rw[Qf] at h;exact SeqAt.EqAt.int_str i t y u _ _ _ _ h
  ·rcases sv hv with⟨j,u,rfl,rfl⟩ | ⟨y,u,rfl,rfl⟩
   ·rw[Qe] at h;exact SeqAt.EqAt.str_int x t j u _ _ _ _ h
   ·rw[Qg] at h;exact wpAny_eqBool_str h
 «strs»:=fun k x t v h=>by
  rcases sv h with⟨i,u,rfl,e⟩ | ⟨y,u,rfl,e⟩
  ·exact nomatch e
  ·injection e with e1 _
   subst e1;cases v<;>rfl
theorem U6(prog:Program)(w:World)(i:Int)(t:Tok):(pO prog w).is (.inl i) (.int i t)=true:=UD i t
theorem U5(prog:Program)(w:World)(x:Str)(t:Tok):(pO prog w).is (.inr x) (.str x t)=true:=UC x t
inductive V where
 | non | bl (b:Bool) | int (i:Int) | str (x:Str) | DI (b:Array UInt8) | DG (b:UInt64) | ref (a:Addr) | ty (n:String)
 deriving DecidableEq
def RelV:V->Value->Prop
 | .non,u=>u=Value.none
 | .bl b,u=>u=Value.bool b
 | .int i,u=>∃t,u=Value.int i t
 | .str x,u=>∃t,u=Value.str x t
 | .DI b,u=>∃t,u=Value.bytes b t
 | .DG b,u=>∃t,u=Value.float b t
 | .ref a,u=>u=Value.ref a
 | .ty n,u=>u=Value.type n
abbrev Vals:List V->List Value->Prop:=Paired RelV
theorem Vals.length{xs:List V}{us:List Value}(r:Vals xs us):xs.length=us.length:=Paired.length r
theorem Vals.get:∀{xs:List V} {us:List Value} {i:Nat} {x:V},Vals xs us->xs[i]?=some x->∃u,us[i]?=some u/\RelV x u
 | _,_,_,_,.nil,e=>by simp at e
 | _,_,0,_,.cons r _,e=>by simp at e;subst e;exact⟨_,rfl,r⟩
 | _,_,i+1,x,.cons _ t,e=>by
  obtain⟨u,h1,h2⟩:=Vals.get (i:=i) (x:=x) t (by simpa using e);exact⟨u,by simpa using h1,h2⟩
theorem Vals.set{x:V}{u:Value}(r:RelV x u):∀{xs:List V} {us:List Value} (i:Nat),Vals xs us->Vals (xs.set i x) (us.set i u)
 | _,_,_,.nil=>.nil
 | _,_,0,.cons _ t=>.cons r t
 | _,_,i+1,.cons q t=>.cons q (Vals.set r i t)
theorem Vals.append:∀{xs ys:List V} {us ws:List Value},Vals xs us->Vals ys ws->Vals (xs++ys) (us++ws)
 | _,_,_,_,.nil,s=>s
 | _,_,_,_,.cons r t,s=>.cons r (Vals.append t s)
theorem Vals.take:∀{xs:List V} {us:List Value} (n:Nat),Vals xs us->Vals (xs.take n) (us.take n)
 | _,_,0,_=>.nil
 | _,_,_+1,.nil=>.nil
 | _,_,n+1,.cons r t=>.cons r (Vals.take n t)
theorem Vals.drop:∀{xs:List V} {us:List Value} (n:Nat),Vals xs us->Vals (xs.drop n) (us.drop n)
 | _,_,0,r=>r
 | _,_,_+1,.nil=>.nil
 | _,_,n+1,.cons _ t=>Vals.drop n t
def mv:Option V->Option Value->Prop
 | some v,some u=>RelV v u
 | none,none=>True
 | _,_=>False
def KV{κ:Type}:List (κ×V)->List (κ×Value)->Prop:=Paired fun(p:κ×V) (q:κ×Value)=>p.1=q.1/\RelV p.2 q.2
noncomputable def kV:Key->V
 | .inl i=>.int i
 | .inr x=>.str x
inductive HO where
 /-- a list -/
 | lst (xs:List V)
 /-- a tuple (never changes) -/
 | tup (xs:List V)
 /-- a dict AS keys are ints and texts;one AS keys are tuples of ints and texts (qu empty one is both) -/
 | dK (kvs:List (Key×V)) (ep:Nat) | dT (kvs:List (List Key×V)) (bs:List Addr)
 /-- a set of ints: its members,its size -/
 | set (S:Int->Bool) (n:Nat)
 /-- an instance of qu class at C,its dict at dx,its attributes -/
 | ins (C dx:Addr) (fs:List (Str×V))
 /-- qu dict of qu instance at x -/
 | own (x:Addr)
 /-- qu dict of an exception -/
 | xd (fs:List (Str×V))
 /-- a bound method,f of x -/
 | met (f x:Addr)
 /-- a range object lo,lo+1,.. below hi -/
 | xx (lo hi:Int)
 /-- a AX Xz is known to qu object (qu sI;a dict while a loop walks it): read,never written while it is so -/
 | mN (o:Obj) (u:HO)
 /-- a code A8 table -/
 | xr (ps:Array Value)
 /-- any other AX,by Ge is true of its one object (a def of LX own: Zv a S n:=HO.ext fun h=>..) -/
 | ext (φ:Heap->Prop)
noncomputable abbrev Hp:=Addr->Option HO
noncomputable def upd(H:Hp)(a:Addr)(o:HO):Hp:=fun b=>if b=a then some o else H b
theorem jz{H:Hp}{a:Addr}{o:HO}:upd H a o a=some o:=by unfold upd;rw[if_pos rfl]
theorem gA{H:Hp}{a b:Addr}{o:HO}(h:b≠a):upd H a o b=H b:=by unfold upd;rw[if_neg h]
theorem N1{H:Hp}{a b:Addr}{o u:HO}(h:H a=some o)(h':H b=some u)(d:o≠u):a≠b:=by
 intro e;subst e;rw[h] at h';exact d (cL h')
theorem l7{H:Hp}{a b:Addr}{o:HO}(h:H a=some o)(h':H b=none):a≠b:=by
 intro e;subst e;rw[h] at h';cases h'
section
variable (P:Program) (w:World)
def gi(H:Hp)(h:Heap)(a:Addr):HO->Prop
 | .lst xs=>xs.length<=sizeLine/\∃(its:List Value) (n:Nat),Vals xs its/\h.get? a=some { cls:=.type "list",data:=.seq its.toArray n }
 | .tup xs=>xs.length<=sizeLine/\∃its:List Value,Vals xs its/\IsTup h a its.toArray
 | .dK kvs ep=>kvs.length<=sizeLine/\(a==sysModules)=false/\∃vs,KV kvs vs/\h.DictAt (pO P w) a vs ep
 | .dT kvs bs=>kvs.length<=sizeLine/\(a==sysModules)=false/\∃xs:List (List Key×Addr×Value),xs.map (fun x=>x.2.1)=bs/\
   Paired (fun(p:List Key×V) (q:List Key×Addr×Value)=>p.1=q.1/\H q.2.1=some (.tup (p.1.map kV))/\RelV p.2 q.2.2) kvs xs/\
   ∃o es ep,h.get? a=some o/\o.ExactDict/\o.data=.dict es ep/\es.toList=xs.map (entryOfKey (tupleKind (pO P w)))/\(xs.map (·.1)).Nodup
 | .set S n=>h.SetOf (intKind P w) a S n
 | .ins C dx fs=>H dx=some (.own a)/\fs.length<=1000/\dx≠a/\h.get? a=some (PySem.W.instObj C dx)/\
   ∃mA,h.Ns1 dx mA/\(∀f,mv (fs.lookup f) (mA f))/\PySem.Within mA (fs.map (·.1))
 | .own _=>∃o,h.get? a=some o
 | .xd fs=>∃mA,h.Ns1 a mA/\∀f,mv (fs.lookup f) (mA f)
 | .xx lo hi=>∃t u v,h.get? a=some { cls:=.type "range",data:=.fields #[.int lo t,.int hi u,.int 1 v] }
 | .mN o u=>h.get? a=some o/\gi H h a u
 | .xr ps=>h.get? a=some { cls:=.none,data:=.fields ps }
 | .met f x=>h.get? a=some (PySem.W.methodObj (.ref f) (.ref x))
 | .ext φ=>φ h/\(∃o,h.get? a=some o)/\∀h1 h2:Heap,φ h1->(∀o,h1.get? a=some o->h2.get? a=some o)->φ h2
def lA(H:Hp)(h:Heap):Prop:=∀a o,H a=some o->gi P w H h a o
end
section
variable {P:Program} {w:World} {H H':Hp} {h h':Heap} {a:Addr} {o:HO}
theorem gi.lt(x:gi P w H h a o):a<h.objs.size:=by
 cases o with
 | lst xs=>obtain⟨_,_,_,_,e⟩:=x;exact aB e
 | tup xs=>obtain⟨_,_,_,p⟩:=x;exact p.lt
 | dK kvs ep=>obtain⟨_,_,_,_,o,_,e,_⟩:=x;exact aB e
 | dT kvs bs=>obtain⟨_,_,_,_,_,o,_,_,e,_⟩:=x;exact aB e
 | set S n=>obtain⟨o,_,_,_,e,_⟩:=x;exact aB e
 | ins C dx fs=>obtain⟨_,_,_,e,_⟩:=x;exact aB e
 | own y=>obtain⟨_,e⟩:=x;exact aB e
 | xd fs=>obtain⟨_,⟨_,_,_,e,_⟩,_⟩:=x;exact aB e
 | xx lo hi=>obtain⟨_,_,_,e⟩:=x;exact aB e
 | mN ob u=>obtain⟨e,_⟩:=x;exact aB e
 | xr ps=>exact aB (show h.get? a=some _ from x)
 | met f y=>exact aB (show h.get? a=some _ from x)
 | ext φ=>obtain⟨_,⟨_,e⟩,_⟩:=x;exact aB e
theorem Paired.Be{α β:Type}{F G:α->β->Prop}:∀{Bg:List α} {Bf:List β},Paired F Bg Bf->(∀a b,F a b->G a b)->Paired G Bg Bf
 | _,_,.nil,_=>.nil
 | _,_,.cons r t,f=>.cons (f _ _ r) (Paired.Be t f)
theorem gi.nG(x:gi P w H h a o)(k:∀b u,(b=a\/H b=some (.own a))->h.get? b=some u->h'.get? b=some u)
  (ho:∀b,H b=some (.own a)->H' b=some (.own a)) (ht:∀b xs,H b=some (.tup xs)->H' b=some (.tup xs)):gi P w H' h' a o:=by
 induction o with
 | lst xs=>obtain⟨z,its,n,r,e⟩:=x;exact⟨z,its,n,r,k _ _ (.inl rfl) e⟩
 | tup xs=>obtain⟨z,its,r,ob,e,c⟩:=x;exact⟨z,its,r,ob,k _ _ (.inl rfl) e,c⟩
 | dK kvs ep=>obtain⟨z,y,vs,r,ob,es,e,c⟩:=x;exact⟨z,y,vs,r,ob,es,k _ _ (.inl rfl) e,c⟩
 | dT kvs bs=>
  obtain⟨z,y,xs,bq,r,ob,es,ep,e,c⟩:=x;exact⟨z,y,xs,bq,Paired.Be r fun p q z=>⟨z.1,ht _ _ z.2.1,z.2.2⟩,ob,es,ep,k _ _ (.inl rfl) e,c⟩
 | set S n=>obtain⟨ob,es,ep,t,e,c⟩:=x;exact⟨ob,es,ep,t,k _ _ (.inl rfl) e,c⟩
 | ins C dx fs=>
  obtain⟨d,z,ne,e,mA,⟨od,es,ep,e2,c⟩,r⟩:=x;exact⟨ho _ d,z,ne,k _ _ (.inl rfl) e,mA,⟨od,es,ep,k _ _ (.inr d) e2,c⟩,r⟩
 | own y=>obtain⟨ob,e⟩:=x;exact⟨ob,k _ _ (.inl rfl) e⟩
 | xd fs=>obtain⟨mA,⟨od,es,ep,e,c⟩,r⟩:=x;exact⟨mA,⟨od,es,ep,k _ _ (.inl rfl) e,c⟩,r⟩
 | xx lo hi=>obtain⟨t,u,v,e⟩:=x;exact⟨t,u,v,k _ _ (.inl rfl) e⟩
 | mN ob u ih=>obtain⟨e,q⟩:=x;exact⟨k _ _ (.inl rfl) e,ih q⟩
 | xr ps=>
  have e:h.get? a=some { cls:=.none,data:=.fields ps }:=x;show h'.get? a=some { cls:=.none,data:=.fields ps };exact k a _ (.inl rfl) e
 | met f y=>
  have e:h.get? a=some (PySem.W.methodObj (.ref f) (.ref y)):=x;show h'.get? a=some (PySem.W.methodObj (.ref f) (.ref y));exact k a _ (.inl rfl) e
 | ext φ=>obtain⟨p,⟨o,e⟩,st⟩:=x;exact⟨st _ _ p fun o q=>k _ _ (.inl rfl) q,⟨o,k _ _ (.inl rfl) e⟩,st⟩
theorem lA.lt(x:lA P w H h)(e:H a=some o):a<h.objs.size:=(x a o e).lt
theorem lA.fresh(x:lA P w H h)(e:h.objs.size<=a):H a=none:=by
 cases q:H a with
 | none=>rfl
 | some u=>exact absurd (aW (x.lt q) e) (cV _)
theorem lA.kept(x:lA P w H h)(k:∀b u,h.get? b=some u->h'.get? b=some u):lA P w H h':=fun a o e=>
 (x a o e).nG (fun b u _ q=>k b u q) (fun _ q=>q) fun _ _ q=>q
theorem lA.laid(x:lA P w H h)(k:∀b u,h.get? b=some u->h'.get? b=some u)(hp:h.objs.size<=a)(new:gi P w (upd H a o) h' a o):lA P w (upd H a o) h':=fun b u e=>by
 have hn:=x.fresh hp;by_cases hb:b=a
 ·subst hb;rw[jz] at e;cases e;exact new
 ·rw[gA hb] at e;exact(x b u e).nG (fun c v _ q=>k c v q) (fun c q=>by rw[gA (l7 q hn)];exact q) fun c xs q=>by rw[gA (l7 q hn)];exact q
end
def Rd(H:Hp)(a:Addr)(u:HO):Prop:=H a=some u\/∃o,H a=some (.mN o u)
theorem Rd.ok{P:Program}{w:World}{H:Hp}{h:Heap}{a:Addr}{u:HO}(r:Rd H a u)(x:lA P w H h):gi P w H h a u:=by
 rcases r with r | ⟨o,r⟩
 ·exact x a u r
 ·obtain⟨_,q⟩:=x a _ r;exact q
def B0:Option HO->Prop
 | some (.lst _)=>True
 | some (.dK _ _)=>True
 | some (.dT _ _)=>True
 | some (.set _ _)=>True
 | some (.ins _ _ _)=>True
 | some (.ext _)=>True
 | _=>False
section
variable {P:Program} {w:World} {H:Hp} {h h':Heap} {x e:Addr} {o':HO}
theorem lA.write(ok:lA P w H h)(mu:B0 (H x))(he:e=x\/H e=some (.own x))(k:∀b u,b≠e->h.get? b=some u->h'.get? b=some u)(zg:∃u,h'.get? e=some u)
  (new:gi P w (upd H x o') h' x o'):lA P w (upd H x o') h':=fun b u q=>by
 have Ba:∀c y,H c=some (.own y)->c≠x:=fun c y r z=>by subst z;rw[r] at mu;exact mu
 have Gu:∀c xs,H c=some (.tup xs)->c≠x:=fun c xs r z=>by subst z;rw[r] at mu;exact mu
 by_cases hb:b=x
 ·subst hb;rw[jz] at q;cases q;exact new
 ·rw[gA hb] at q;by_cases xW:b=e
  ·have q':H b=some (.own x):=by
    rcases he with z | z
    ·exact absurd (xW.trans z) hb
    ·rw[xW];exact z
   rw[q] at q';cases q';obtain⟨v,hv⟩:=zg;exact⟨v,by rw[xW];exact hv⟩
  ·refine(ok b u q).nG (fun c v hc r=>k c v ?_ r) (fun c r=>by rw[gA (Ba c b r)];exact r) fun c xs r=>by rw[gA (Gu c xs r)];exact r
   rcases hc with rfl | hc
   ·exact xW
   ·rintro rfl;rcases he with z | z
    ·exact Ba c b hc z
    ·rw[hc] at z;cases z;exact hb rfl
end
structure Un (fs ex:List Addr) (H H':Hp) (h h':Heap):Prop where
 keep:∀b o,h.get? b=some o->H b=none->b∉fs->b∉ex->h'.get? b=some o
 slot:∀b o,h.get? b=some o->H b=none->b∈fs->b∉ex->∃sl,h'.get? b=some { o with slots:=sl }
 free:∀b o,h.get? b=some o->H b=none->b∉ex->H' b=none
 there:∀b o,h.get? b=some o->b∉ex->∃o',h'.get? b=some o'
 oU:∀b xs,H b=some (.tup xs)->H' b=some (.tup xs)
 nP:∀b o u,H b=some (.mN o u)->H' b=some (.mN o u)
 oW:∀b ps,H b=some (.xr ps)->∃more,H' b=some (.xr (ps++more))
section
variable {fs DF ex ZZ:List Addr} {H H1 H2:Hp} {h h1 h2 h':Heap} {a x e:Addr} {o:HO}
theorem Un.any(u:Un fs ex H H1 h h1){b:Addr}{ob:Obj}(q:h.get? b=some ob)(n:H b=none)(hx:b∉ex):∃sl,h1.get? b=some { ob with slots:=sl }:=by
 by_cases hb:b∈fs
 ·exact u.slot b ob q n hb hx
 ·exact⟨ob.slots,u.keep b ob q n hb hx⟩
theorem Un.kept(k:∀b u,h.get? b=some u->h'.get? b=some u):Un fs ex H H h h':=
 ⟨fun b ob q _ _ _=>k b ob q,fun b ob q _ _ _=>⟨ob.slots,k b ob q⟩,fun _ _ _ n _=>n,fun b ob q _=>⟨ob,k b ob q⟩,fun _ _ q=>q,fun _ _ _ q=>q,fun _ ps q=>⟨#[],by rw[q];simp⟩⟩
theorem Un.refl:Un fs ex H H h h:=Un.kept fun _ _ q=>q
theorem Un.laid(k:∀b u,h.get? b=some u->h'.get? b=some u)(hp:h.objs.size<=a)(hn:H a=none):Un fs ex H (upd H a o) h h' where
 keep:=fun b u q _ _ _=>k b u q
 slot:=fun b u q _ _ _=>⟨u.slots,k b u q⟩
 free:=fun b u q n _=>by rw[gA (aG (aW (aB q) hp))];exact n
 there:=fun b u q _=>⟨u,k b u q⟩
 oU:=fun b xs q=>by rw[gA (l7 q hn)];exact q
 nP:=fun b u xs q=>by rw[gA (l7 q hn)];exact q
 oW:=fun b ps q=>⟨#[],by rw[gA (l7 q hn),q];simp⟩
theorem Un.write(mu:B0 (H x))(he:e=x\/H e=some (.own x))(k:∀b u,b≠e->h.get? b=some u->h'.get? b=some u)(zg:∃u,h'.get? e=some u):Un fs ex H (upd H x o) h h':=by
 have hx:∀b,H b=none->b≠x:=fun b n z=>by subst z;rw[n] at mu;exact mu
 have hb:∀b,H b=none->b≠e:=fun b n z=>by
  subst z;rcases he with r | r
  ·exact hx b n r
  ·rw[n] at r;cases r
 have hm:∀b u,H b=some u->¬B0 (some u)->b≠x:=fun b u q nm z=>by subst z;rw[q] at mu;exact nm mu
 refine⟨fun b u q n _ _=>k b u (hb b n) q,fun b u q n _ _=>⟨u.slots,k b u (hb b n) q⟩,fun b u q n _=>by rw[gA (hx b n)];exact n,fun b u q _=>?_,
  fun b xs q=>by rw[gA (hm b _ q fun z=>z)];exact q,fun b u xs q=>by rw[gA (hm b _ q fun z=>z)];exact q,fun b ps q=>⟨#[],by rw[gA (hm b _ q fun z=>z),q];simp⟩⟩
 by_cases xW:b=e
 ·subst xW;exact zg
 ·exact⟨u,k b u xW q⟩
end
noncomputable def Dd(h:Heap)(H:Hp):List Addr:=(List.range h.objs.size).filter fun a=>(H a).isSome
noncomputable def uA(h:Heap)(H:Hp):Heap:=PySem.W.hideAll h (Dd h H)
theorem UB(h:Heap)(H:Hp):(uA h H).objs.size=h.objs.size:=PySem.W.hideAll_size _ _
theorem SX{h:Heap}{H:Hp}{b:Addr}{o:Obj}(e:h.get? b=some o)(n:H b=none):(uA h H).get? b=some o:=
 PySem.W.hideAll_get _ e fun hm=>by
  have q:(H b).isSome=true:=(bI.mp hm).2;rw[n] at q;simp at q
theorem RB{h:Heap}{H:Hp}{b:Addr}{o:Obj}(e:(uA h H).get? b=some o):h.get? b=some o/\H b=none:=by
 have e':h.get? b=some o:=PySem.W.of_hideAll (Dd h H) e;refine⟨e',?_⟩;cases q:H b with
 | none=>rfl
 | some x=>
  have hm:b∈Dd h H:=bI.mpr ⟨bP.mpr (aB e'),by simp[q]⟩;have z:(uA h H).get? b=none:=PySem.W.hideAll_none (Dd h H) hm;rw[z] at e;cases e
noncomputable def RA(g h:Heap)(L:Addr):List (Addr×Obj):=(List.range h.objs.size).filterMap fun a=>if a=L\/(g.get? a).isSome=true then none else(h.get? a).map fun o=>(a,o)
noncomputable def rest(g h:Heap)(L d:Addr):List (Addr×Obj):=(RA g h L).filter fun p=>decide (p.1≠d)
structure Mod (K:Z9) (mg:Str->Option Value) (base:Heap):Prop where
 y9:K.In base
 glob:base.Ns mainGlobals mg
 blt:∃mb,base.Ns builtinsNs mb/\∀x:Str,x≠"__name__"->mb x=bootBuiltins x
 nolimit:base.NoLimit
structure Cx where
 prog:Program
 w:World
 K:Z9
 mg:Str->Option Value
 base:Heap
 A:Around
 N:List Str
 ir:Shared
 tP:Hp
 env:Env
 outer:List Env
 stack:List Env
 ex:List Addr
 fn:Str->Bool
 calm:Bool
 pn:List (Addr×Obj)
 xe:Value->Shared->Prop
noncomputable def tG(l:List Env):List Addr:=l.filterMap (·.frame)
noncomputable abbrev Cx.fs(X:Cx):List Addr:=tG X.outer
def nV(sc:Scope)(x:Str):Prop:=sc.names.lookup x=some .local\/sc.names.lookup x=some .cell\/sc.names.lookup x=some .free
def Loc(sc:Scope)(x:Str):Prop:=sc.names.lookup x=some .local\/sc.names.lookup x=some .cell
def Look(env:Env)(h:Heap)(m:Str->Option Value)(x:Str)(u:Value):Prop:=
 (env.kindOf x=some .local/\m x=some u)\/((env.kindOf x=some .cell\/env.kindOf x=some .free)/\∃c,env.cells.lookup x=some c/\h.IsCell c (some u))
structure Cx.Ok (X:Cx):Prop where
 mod:Mod X.K X.mg X.base
 kind:X.env.scope.kind=.function
 glob:X.env.globals=mainGlobals
 blt:X.env.builtins=builtinsNs
 above:X.ir.heap.objs.size<=X.env.locals
 inj:∀x y c,X.env.cells.lookup x=some c->X.env.cells.lookup y=some c->x=y
 has:∀x,(X.env.kindOf x=some .cell\/X.env.kindOf x=some .free)->∃c,X.env.cells.lookup x=some c
 cab:∀x c,X.fn x=true->X.env.cells.lookup x=some c->X.ir.heap.objs.size<=c
 hd:X.calm=true->X.A.handled=none
 frames:X.A.frames=some X.stack
 Dh:X.stack=X.outer\/(X.stack=X.env::X.outer/\X.env.frame=some X.env.locals)
 exf:∀b∈X.ex,b≠X.env.locals/\∀x c,X.env.cells.lookup x=some c->c≠b
 bs:∀b o,X.base.get? b=some o->X.ir.heap.get? b=some o/\X.tP b=none
 wC:X.base.objs.size<=X.ir.heap.objs.size
 sR:∀b o,X.base.get? b=some o->b∉X.ex
 tJ:∀b∈X.ex,b∉X.fs
 lQ:X.ir.heap.FunFrames X.base X.outer
 xZ:∀b∈X.fs,X.tP b=none
structure Inv (X:Cx) (Z8:List (Addr×Obj)) (σ:List (Option V)) (H:Hp) (s:Shared):Prop where
 ok:X.Ok
 os:s.os=X.ir.os
 bare:AllBare s.gens
 base:Un X.fs X.ex X.tP H X.ir.heap s.heap
 loc:∃m,s.heap.Ns X.env.locals m/\∀(i:Nat) (x:Str) (v:V),X.N[i]?=some x->σ[i]?=some (some v)->nV X.env.scope x->∃u,RelV v u/\Look X.env s.heap m x u
 cell:∀x c,X.env.cells.lookup x=some c->∃v,s.heap.IsCell c v
 free:H X.env.locals=none
 jG:∀x c,X.env.cells.lookup x=some c->H c=none
 pin:∀p∈X.pn++Z8,s.heap.get? p.1=some p.2/\H p.1=none/\p.1≠X.env.locals/\p.1∉X.fs/\∀v,p.2.data≠.cell v
 fR:lA X.prog X.w H s.heap
 len:σ.length=X.N.length
section
variable {X:Cx} {Z8:List (Addr×Obj)} {σ:List (Option V)} {H H':Hp} {s:Shared} {h':Heap}
theorem Cx.Ok.Gw(ok:X.Ok){b:Addr}{o:Obj}(e:X.base.get? b=some o):b∉X.fs:=fun hb=>by
 have:=(ok.lQ.mem hb).1;rw[e] at this;cases this
theorem Inv.bs(I:Inv X Z8 σ H s):∀b o,X.base.get? b=some o->s.heap.get? b=some o/\H b=none:=fun b o e=>
 ⟨I.base.keep b o (I.ok.bs b o e).1 (I.ok.bs b o e).2 (I.ok.Gw e) (I.ok.sR b o e),I.base.free b o (I.ok.bs b o e).1 (I.ok.bs b o e).2 (I.ok.sR b o e)⟩
theorem Inv.bk(I:Inv X Z8 σ H s):∀b o,X.base.get? b=some o->s.heap.get? b=some o:=fun b o e=>(I.bs b o e).1
theorem Inv.mod(I:Inv X Z8 σ H s):Mod X.K X.mg X.base:=I.ok.mod
theorem Inv.oB(I:Inv X Z8 σ H s):X.K.In s.heap:=I.ok.mod.y9.keeps I.bk
theorem Inv.lt(I:Inv X Z8 σ H s):X.env.locals<s.heap.objs.size:=let⟨_,hn,_⟩:=I.loc;hn.lt
theorem Inv.sz(I:Inv X Z8 σ H s):X.ir.heap.objs.size<=s.heap.objs.size:=aH I.ok.above (Nat.le_of_lt I.lt)
theorem Inv.Gv(I:Inv X Z8 σ H s){a:Addr}(h:s.heap.objs.size<=a):a∉X.fs:=fun hb=>by
 obtain⟨_,o,ho,_⟩:=I.ok.lQ.mem hb;exact absurd (aW (aB ho) (aH I.sz h)) (cV _)
theorem Inv.ya(I:Inv X Z8 σ H s):∀x c,X.env.cells.lookup x=some c->c≠X.env.locals:=fun x c e z=>by
 obtain⟨v,o,ho,hd⟩:=I.cell x c e;obtain⟨m,⟨o',es,ep,oC,vc,_⟩,_⟩:=I.loc;rw[z,oC] at ho;cases ho;rw[vc] at hd;cases hd
theorem Inv.lQ(I:Inv X Z8 σ H s):s.heap.FunFrames X.base X.outer:=by
 have all:∀(l:List Env),(∀b∈tG l,b∈X.fs)->X.ir.heap.FunFrames X.base l->s.heap.FunFrames X.base l:=by
  intro l;induction l with
  | nil=>intro _ _;trivial
  | cons env r ih=>
   intro hs hl;obtain⟨hk,⟨L,o,hf,hn,ho,hd⟩,hr⟩:=hl;have hL:L∈X.fs:=hs L (by unfold tG;rw[List.filterMap_cons,hf];exact cM);obtain⟨sl,e⟩:=I.base.slot L o ho (I.ok.xZ L hL) hL fun z=>I.ok.tJ L z hL
   exact⟨hk,⟨L,_,hf,hn,e,hd⟩,ih (fun b hb=>hs b (by unfold tG;rw[List.filterMap_cons,hf];exact aQ _ hb)) hr⟩
 exact all X.outer (fun _ hb=>hb) I.ok.lQ
theorem Inv.stack(I:Inv X Z8 σ H s):s.heap.FunFrames X.base X.stack:=by
 rcases I.ok.Dh with e | ⟨e,hf⟩
 ·rw[e];exact I.lQ
 ·rw[e];obtain⟨m,hn,_⟩:=I.loc;refine .cons (by rw[I.ok.kind];decide) hf hn ?_ I.lQ;exact Heap.get?_none_of_le (aH I.ok.wC I.ok.above)
theorem Inv.pQ(I:Inv X Z8 σ H s):∀b∈tG X.stack,b∈X.env.locals::X.fs:=fun b hb=>by
 rcases I.ok.Dh with e | ⟨e,hf⟩
 ·rw[e] at hb;exact aQ _ hb
 ·rw[e] at hb;unfold tG at hb;rw[List.filterMap_cons,hf] at hb;exact hb
theorem Inv.qv(I:Inv X Z8 σ H s):∀b∈tG X.stack,H b=none:=fun b hb=>by
 rcases ar.mp (I.pQ b hb) with e | hb
 ·rw[e];exact I.free
 ·obtain⟨_,o,ho,_⟩:=I.ok.lQ.mem hb;exact I.base.free b o ho (I.ok.xZ b hb) fun z=>I.ok.tJ b z hb
theorem Inv.step{g':Array GenState}{t':Nat}{d':Drawn}{ch:List Addr}(I:Inv X Z8 σ H s)
  (pX:∀b∈ch,(b∈X.ex\/X.ir.heap.objs.size<=b)/\b≠X.env.locals/\(∀x c,X.env.cells.lookup x=some c->c≠b)/\∀p∈X.pn++Z8,p.1≠b)
  (keep:∀b o,b≠X.env.locals->b∉X.fs->b∉ch->s.heap.get? b=some o->H b=none->h'.get? b=some o)
  (slot:∀b o,b≠X.env.locals->b∈X.fs->b∉ch->s.heap.get? b=some o->H b=none->∃sl,h'.get? b=some { o with slots:=sl }) (free:∀b o,b∉ch->s.heap.get? b=some o->H b=none->H' b=none)
  (there:∀b o,b∉ch->s.heap.get? b=some o->∃o',h'.get? b=some o')
  (oU:∀b xs,H b=some (.tup xs)->H' b=some (.tup xs)) (nP:∀b o u,H b=some (.mN o u)->H' b=some (.mN o u)) (oW:∀b ps,H b=some (.xr ps)->∃more,H' b=some (.xr (ps++more)))
  (ns:∀m,s.heap.Ns X.env.locals m->h'.Ns X.env.locals m) (fR:lA X.prog X.w H' h') (hg:AllBare g') :
  Inv X Z8 σ H' { s with heap:=h',gens:=g',drawn:=d',toks:=t' }:=by
 have L4:∀b o,X.ir.heap.get? b=some o->b≠X.env.locals:=fun b o e=>aG (aW (aB e) I.ok.above)
 have Dr:∀b o,X.ir.heap.get? b=some o->b∉X.ex->b∉ch:=fun b o e hx hb=>by
  rcases(pX b hb).1 with z | z
  ·exact hx z
  ·exact absurd (aW (aB e) z) (cV _)
 have cellK:∀x c,X.env.cells.lookup x=some c->∀v,s.heap.IsCell c v->h'.IsCell c v:=fun x c e v ⟨o,ho,hd⟩=>by
  have Bc:c∉ch:=fun z=>(pX c z).2.2.1 x c e rfl
  by_cases hc:c∈X.fs
  ·obtain⟨sl,q⟩:=slot c o (I.ya x c e) hc Bc ho (I.jG x c e);exact⟨_,q,hd⟩
  ·exact⟨o,keep c o (I.ya x c e) hc Bc ho (I.jG x c e),hd⟩
 refine⟨I.ok,I.os,hg,⟨fun b o e n hb hx=>?_,fun b o e n hb hx=>?_,fun b o e n hx=>?_,fun b o e hx=>?_,fun b xs e=>oU b xs (I.base.oU b xs e),fun b o xs e=>nP b o xs (I.base.nP b o xs e),fun b ps e=>?_⟩,?_,fun x c e=>?_,?_,fun x c e=>?_,fun p hp=>?_,fR,I.len⟩
 ·exact keep b o (L4 b o e) hb (Dr b o e hx) (I.base.keep b o e n hb hx) (I.base.free b o e n hx)
 ·obtain⟨sl,e1⟩:=I.base.slot b o e n hb hx;obtain⟨XG,e2⟩:=slot b _ (L4 b o e) hb (Dr b o e hx) e1 (I.base.free b o e n hx);exact⟨XG,e2⟩
 ·obtain⟨o',e1⟩:=I.base.there b o e hx;exact free b o' (Dr b o e hx) e1 (I.base.free b o e n hx)
 ·obtain⟨o',e1⟩:=I.base.there b o e hx;exact there b o' (Dr b o e hx) e1
 ·obtain⟨m1,e1⟩:=I.base.oW b ps e;obtain⟨m2,e2⟩:=oW b _ e1;exact⟨m1++m2,by rw[e2,Array.append_assoc]⟩
 ·obtain⟨m,hn,hl⟩:=I.loc;refine⟨m,ns m hn,fun i x v e1 e2 e3=>?_⟩;obtain⟨u,r,l⟩:=hl i x v e1 e2 e3;refine⟨u,r,?_⟩;rcases l with l | ⟨k,c,e,z⟩
  ·exact .inl l
  ·exact .inr ⟨k,c,e,cellK x c e _ z⟩
 ·obtain⟨v,z⟩:=I.cell x c e;exact⟨v,cellK x c e v z⟩
 ·obtain⟨m,⟨o,_,_,ho,_⟩,_⟩:=I.loc;exact free _ o (fun z=>(pX _ z).2.1 rfl) ho I.free
 ·obtain⟨v,o,ho,hd⟩:=I.cell x c e;exact free c o (fun z=>(pX c z).2.2.1 x c e rfl) ho (I.jG x c e)
 ·obtain⟨e,n,ne,nf,d⟩:=I.pin p hp;have Bc:p.1∉ch:=fun z=>(pX p.1 z).2.2.2 p hp rfl
  exact⟨keep p.1 p.2 ne nf Bc e n,free p.1 p.2 Bc e n,ne,nf,d⟩
theorem Inv.un{t':Nat}(I:Inv X Z8 σ H s)(u:Un X.fs [] H H' s.heap h')(fR:lA X.prog X.w H' h'):Inv X Z8 σ H' { s with heap:=h',toks:=t' }:=by
 obtain⟨m,⟨o,es,ep,ho,r⟩,_⟩:=id I.loc;obtain⟨sl,hL⟩:=u.any ho I.free (by simp)
 exact I.step (g':=s.gens) (d':=s.drawn) (ch:=[]) (fun _ z=>nomatch z) (fun b o _ hb _ e n=>u.keep b o e n hb (by simp)) (fun b o _ hb _ e n=>u.slot b o e n hb (by simp)) (fun b o _ e n=>u.free b o e n (by simp)) (fun b o _ e=>u.there b o e (by simp)) u.oU u.nP u.oW (fun m' hm=>by
  obtain⟨o',jM,nR,oC,r'⟩:=hm;rw[ho] at oC;cases oC;exact⟨_,jM,nR,hL,r'⟩) fR I.bare
theorem Inv.call{g':Array GenState}{t':Nat}{d':Drawn}{ch:List Addr}(I:Inv X Z8 σ H s)(u:Un (tG X.stack) ch H H' s.heap h')(fR:lA X.prog X.w H' h')(hg:AllBare g')
  (pX:∀b∈ch,(b∈X.ex\/X.ir.heap.objs.size<=b)/\b≠X.env.locals/\(∀x c,X.env.cells.lookup x=some c->c≠b)/\∀p∈X.pn++Z8,p.1≠b) :
  Inv X Z8 σ H' { s with heap:=h',gens:=g',drawn:=d',toks:=t' }:=by
 obtain⟨m,⟨o,es,ep,ho,r⟩,_⟩:=id I.loc;obtain⟨sl,hL⟩:=u.any ho I.free fun z=>(pX _ z).2.1 rfl
 exact I.step (ch:=ch) pX (fun b o hL hb hc e n=>u.keep b o e n (fun z=>(ar.mp (I.pQ b z)).elim hL hb) hc) (fun b o _ _ hc e n=>u.any e n hc) (fun b o hc e n=>u.free b o e n hc) (fun b o hc e=>u.there b o e hc) u.oU u.nP u.oW (fun m' hm=>by
  obtain⟨o',jM,nR,oC,r'⟩:=hm;rw[ho] at oC;cases oC;exact⟨_,jM,nR,hL,r'⟩) fR hg
theorem Inv.turned{t':Nat}{it:Addr}(I:Inv X Z8 σ H s)(k:∀b o,b≠it->s.heap.get? b=some o->h'.get? b=some o)(hn:H it=none)(hL:it≠X.env.locals)
  (h1:it∈X.ex\/X.ir.heap.objs.size<=it) (h2:∀x c,X.env.cells.lookup x=some c->c≠it) (h3:∀p∈X.pn++Z8,p.1≠it):Inv X Z8 σ H { s with heap:=h',toks:=t' }:=by
 have v7:∀b u,H b=some u->b≠it:=fun b u e z=>by rw[z,hn] at e;cases e
 refine I.step (g':=s.gens) (d':=s.drawn) (ch:=[it]) (fun b hb=>?_) (fun b o _ _ hc e _=>k b o (fun z=>hc (by simp[z])) e) (fun b o _ _ hc e _=>⟨o.slots,k b o (fun z=>hc (by simp[z])) e⟩) (fun _ _ _ _ n=>n)
  (fun b o hc e=>⟨o,k b o (fun z=>hc (by simp[z])) e⟩) (fun _ _ e=>e) (fun _ _ _ e=>e) (fun b ps e=>⟨#[],by rw[e];simp⟩) (fun m hm=>?_) (fun b u e=>?_) I.bare
 ·have e:b=it:=by simpa using hb
  subst e;exact⟨h1,hL,h2,h3⟩
 ·obtain⟨o,es,ep,ho,r⟩:=hm;exact⟨o,es,ep,k _ o (Ne.symm hL) ho,r⟩
 ·refine(I.fR b u e).nG (fun c v hc q=>k c v ?_ q) (fun _ q=>q) fun _ _ q=>q
  rcases hc with z | z
  ·rw[z];exact v7 b u e
  ·exact v7 c _ z
theorem Inv.tok(I:Inv X Z8 σ H s)(t:Nat):Inv X Z8 σ H { s with toks:=t }:=I.un (h':=s.heap) (t':=t) Un.refl I.fR
theorem Inv.kept{t':Nat}(I:Inv X Z8 σ H s)(k:∀b u,s.heap.get? b=some u->h'.get? b=some u):Inv X Z8 σ H { s with heap:=h',toks:=t' }:=I.un (Un.kept k) (I.fR.kept k)
theorem Inv.laid{a:Addr}{o:HO}{t':Nat}(I:Inv X Z8 σ H s)(k:∀b u,s.heap.get? b=some u->h'.get? b=some u)(hp:s.heap.objs.size<=a)(new:gi X.prog X.w (upd H a o) h' a o) :
  Inv X Z8 σ (upd H a o) { s with heap:=h',toks:=t' }:=I.un (Un.laid k hp (I.fR.fresh hp)) (I.fR.laid k hp new)
theorem Inv.write{x e:Addr}{o:HO}{t':Nat}(I:Inv X Z8 σ H s)(mu:B0 (H x))(he:e=x\/H e=some (.own x))(k:∀b u,b≠e->s.heap.get? b=some u->h'.get? b=some u)(zg:∃u,h'.get? e=some u)
  (new:gi X.prog X.w (upd H x o) h' x o):Inv X Z8 σ (upd H x o) { s with heap:=h',toks:=t' }:=I.un (Un.write mu he k zg) (I.fR.write mu he k zg new)
theorem Inv.qA{vZ:List (Addr×Obj)}(I:Inv X Z8 σ H s)(h:∀p∈vZ,s.heap.get? p.1=some p.2/\H p.1=none/\p.1≠X.env.locals/\p.1∉X.fs/\∀v,p.2.data≠.cell v):Inv X vZ σ H s:=
 ⟨I.ok,I.os,I.bare,I.base,I.loc,I.cell,I.free,I.jG,fun p hp=>(ay.mp hp).elim (fun z=>I.pin p (bZ _ z)) (h p),I.fR,I.len⟩
theorem KG{N:List Str}(hN:N.Nodup){i j:Nat}{x:Str}(a:N[i]?=some x)(b:N[j]?=some x):i=j:=by
 obtain⟨h1,e1⟩:=ax.mp a;obtain⟨h2,e2⟩:=ax.mp b;exact(List.getElem_inj hN).mp (e1.trans e2.symm)
theorem KN{M:Model}{A:Around}{E:Value->Shared->Prop}{i:Nat}{x:Str}{v:V}{u:Value}{Q:Unit->Shared->Prop}(I:Inv X Z8 σ H s)(hN:X.N.Nodup)(hi:X.N[i]?=some x)(hx:Loc X.env.scope x)(r:RelV v u)
  (h:∀s',Inv X Z8 (σ.set i (some v)) H s'->(∃a,Heap.SameBut a s.heap s'.heap/\(a=X.env.locals\/X.env.cells.lookup x=some a))->Q () s') (hf:X.fn x=true\/X.env.scope.names.lookup x=some .local:=by first | exact .inl rfl | exact .inr rfl | assumption):wpAny M A (storeName X.env x u) Q E s:=by
 obtain⟨m,hn,hl⟩:=id I.loc;have Hq:(X.env.scope.kind==.class||(X.env.scope.kind==.module&&X.env.locals != X.env.globals))=false:=by rw[I.ok.kind];rfl
 have By:i<σ.length:=by rw[I.len];exact(ax.mp hi).1
 have ya:=I.ya;have tracked:∀{a:Addr} {h':Heap},(∃o,s.heap.get? a=some o/\H a=none)->Heap.SameBut a s.heap h'->lA X.prog X.w H h':=fun{a h'} ha hs b ob e=>by
  obtain⟨_,_,gS⟩:=ha;refine(I.fR b ob e).nG (fun c w' hc q=>(hs.2 c ?_).trans q) (fun _ q=>q) fun _ _ q=>q
  rintro rfl;rcases hc with rfl | hc
  ·rw[gS] at e;cases e
  ·rw[gS] at hc;cases hc
 rcases hx with hk | hk
 ·refine wpAny_storeName_local hk hn (fun h' ze hs=>?_) Hq;obtain⟨oL,_,_,we,_⟩:=id hn;refine h _ ⟨I.ok,I.os,I.bare,⟨fun b o e n hb hx=>?_,fun b o e n hb hx=>?_,I.base.free,fun b o e hx=>?_,I.base.oU,I.base.nP,I.base.oW⟩,⟨_,ze,fun j y v' e1 e2 e3=>?_⟩,fun y c e=>?_,I.free,I.jG,fun p hp=>?_,tracked ⟨oL,we,I.free⟩ hs,by simpa using I.len⟩ ⟨_,hs,.inl rfl⟩
  ·exact(hs.2 b (aG (aW (aB e) I.ok.above))).trans (I.base.keep b o e n hb hx)
  ·obtain⟨sl,e1⟩:=I.base.slot b o e n hb hx;exact⟨sl,(hs.2 b (aG (aW (aB e) I.ok.above))).trans e1⟩
  ·obtain⟨o',e1⟩:=I.base.there b o e hx;exact⟨o',(hs.2 b (aG (aW (aB e) I.ok.above))).trans e1⟩
  ·by_cases hj:j=i
   ·subst hj;rw[hi] at e1;cases e1;rw[List.getElem?_set_self By] at e2;cases e2;exact⟨u,r,.inl ⟨hk,by simp⟩⟩
   ·rw[List.getElem?_set_ne (Ne.symm hj)] at e2;obtain⟨u',r',q⟩:=hl j y v' e1 e2 e3;refine⟨u',r',?_⟩;rcases q with⟨k,e⟩ | ⟨k,c,e,z⟩
    ·refine .inl ⟨k,?_⟩;have:y≠x:=fun e=>hj (KG hN e1 (e▸hi))
     simp[this,e]
    ·exact .inr ⟨k,c,e,z.sameBut hs (ya y c e)⟩
  ·obtain⟨w',z⟩:=I.cell y c e;exact⟨w',z.sameBut hs (ya y c e)⟩
  ·obtain⟨e,n,ne,nf,d⟩:=I.pin p hp;exact⟨(hs.2 p.1 ne).trans e,n,ne,nf,d⟩
 ·have Hk:X.fn x=true:=by
   rcases hf with z | z
   ·exact z
   ·rw[z] at hk;cases hk
  obtain⟨c,hc⟩:=I.ok.has x (.inl hk);obtain⟨w',z⟩:=I.cell x c hc;refine wpAny_storeName_cell I.ok.kind hk hc z (fun h' tD hs=>?_);obtain⟨oc,zd,GZ⟩:=id z;refine h { s with heap:=h' } ⟨I.ok,I.os,I.bare,⟨fun b o e n hb hx=>?_,fun b o e n hb hx=>?_,I.base.free,fun b o e hx=>?_,I.base.oU,I.base.nP,I.base.oW⟩,⟨m,hn.sameBut hs (Ne.symm (ya x c hc)),fun j y v' e1 e2 e3=>?_⟩,fun y c' e=>?_,I.free,I.jG,fun p hp=>?_,tracked ⟨oc,zd,I.jG x c hc⟩ hs,by simpa using I.len⟩ ⟨c,hs,.inr hc⟩
  ·exact(hs.2 b (aG (aW (aB e) (I.ok.cab x c Hk hc)))).trans (I.base.keep b o e n hb hx)
  ·obtain⟨sl,e1⟩:=I.base.slot b o e n hb hx;exact⟨sl,(hs.2 b (aG (aW (aB e) (I.ok.cab x c Hk hc)))).trans e1⟩
  ·obtain⟨o',e1⟩:=I.base.there b o e hx;exact⟨o',(hs.2 b (aG (aW (aB e) (I.ok.cab x c Hk hc)))).trans e1⟩
  ·by_cases hj:j=i
   ·subst hj;rw[hi] at e1;cases e1;rw[List.getElem?_set_self By] at e2;cases e2;exact⟨u,r,.inr ⟨.inl hk,c,hc,tD⟩⟩
   ·rw[List.getElem?_set_ne (Ne.symm hj)] at e2;obtain⟨u',r',q⟩:=hl j y v' e1 e2 e3;refine⟨u',r',?_⟩;rcases q with q | ⟨k,c',e,z'⟩
    ·exact .inl q
    ·refine .inr ⟨k,c',e,z'.sameBut hs ?_⟩;rintro rfl;exact hj (KG hN e1 (I.ok.inj _ _ _ e hc▸hi))
  ·by_cases MN:c'=c
   ·subst MN;exact⟨_,tD⟩
   ·obtain⟨w2,z2⟩:=I.cell y c' e;exact⟨w2,z2.sameBut hs MN⟩
  ·obtain⟨e,n,ne,nf,d⟩:=I.pin p hp;refine⟨(hs.2 p.1 ?_).trans e,n,ne,nf,d⟩;intro q;rw[q,zd] at e;have q':oc=p.2:=cL e;exact d w' (by rw[<-q'];exact GZ)
theorem KD{M:Model}{A:Around}{E:Value->Shared->Prop}{i:Nat}{x:Str}{v:V}{u:Value}{Q:Unit->Shared->Prop}(I:Inv X Z8 σ H s)(hN:X.N.Nodup)(hi:X.N[i]?=some x)(hx:Loc X.env.scope x)(r:RelV v u)
  (h:∀s',Inv X Z8 (σ.set i (some v)) H s'->Q () s') (hf:X.fn x=true\/X.env.scope.names.lookup x=some .local:=by first | exact .inl rfl | exact .inr rfl | assumption):wpAny M A (storeName X.env x u) Q E s:=
 KN I hN hi hx r (fun s' I' _=>h s' I') hf
theorem Inv.BU{s':Shared}{ch:List Addr}(I:Inv X Z8 σ H s)(ho:s'.os=s.os)(u:Un (tG X.stack) ch H H' s.heap s'.heap)(fR:lA X.prog X.w H' s'.heap)(hg:AllBare s'.gens)
  (pX:∀b∈ch,(b∈X.ex\/X.ir.heap.objs.size<=b)/\b≠X.env.locals/\(∀x c,X.env.cells.lookup x=some c->c≠b)/\∀p∈X.pn++Z8,p.1≠b):Inv X Z8 σ H' s':=by
 obtain⟨h',g',d',t',o'⟩:=s';have e:o'=s.os:=ho;subst e;exact I.call (g':=g') (t':=t') (d':=d') u fR hg pX
end
noncomputable abbrev XK:=Value->Option Addr->Hp->Prop
noncomputable abbrev St:=List (Option V)
noncomputable abbrev VK:=V->Hp->Prop
noncomputable abbrev TE:=St->Hp->VK->Prop
noncomputable abbrev TT:=St->Hp->(Bool->Hp->Prop)->Prop
noncomputable abbrev TA:=St->Hp->(List V->Hp->Prop)->Prop
structure Ends where
 nx:St->Hp->Prop
 rt:VK
 bk:St->Hp->Prop:=fun _ _=>False
 ct:St->Hp->Prop:=fun _ _=>False
noncomputable abbrev TS:=Ends->St->Hp->Prop
def EP(X:Cx)(Z8:List (Addr×Obj))(σ:St)(Q:VK)(u:Value)(s':Shared):Prop:=∃v H',Inv X Z8 σ H' s'/\RelV v u/\Q v H'
def TP(X:Cx)(Z8:List (Addr×Obj))(σ:St)(Q:Bool->Hp->Prop)(b:Bool)(s':Shared):Prop:=∃H',Inv X Z8 σ H' s'/\Q b H'
def AP(X:Cx)(Z8:List (Addr×Obj))(σ:St)(Q:List V->Hp->Prop)(us:List Value)(s':Shared):Prop:=∃vs H',Inv X Z8 σ H' s'/\Vals vs us/\Q vs H'
def SP(X:Cx)(Z8:List (Addr×Obj))(D:Ends)(f:Flow)(s':Shared):Prop:=
 match f with
 | .next=>∃fF H',Inv X Z8 fF H' s'/\D.nx fF H'
 | .brk=>∃fF H',Inv X Z8 fF H' s'/\D.bk fF H'
 | .cont=>∃fF H',Inv X Z8 fF H' s'/\D.ct fF H'
 | .ret u=>∃v fF H',Inv X Z8 fF H' s'/\RelV v u/\D.rt v H'
def PE(X:Cx)(e:Expr)(t:TE):Prop:=
 ∀(Z8:List (Addr×Obj)) (s:Shared) (σ:St) (H:Hp) (Q:VK),Inv X Z8 σ H s->t σ H Q->wpAny (model X.prog X.w) X.A (eval e X.env) (EP X Z8 σ Q) X.xe s
def PT(X:Cx)(e:Expr)(t:TT):Prop:=
 ∀(Z8:List (Addr×Obj)) (s:Shared) (σ:St) (H:Hp) (Q:Bool->Hp->Prop),Inv X Z8 σ H s->t σ H Q->wpAny (model X.prog X.w) X.A (isTrue e X.env (eval e X.env)) (TP X Z8 σ Q) X.xe s
def PW(X:Cx)(e:Expr)(t:TT):Prop:=
 ∀(whole:Sem Value) (Z8:List (Addr×Obj)) (s:Shared) (σ:St) (H:Hp) (Q:Bool->Hp->Prop),Inv X Z8 σ H s->t σ H Q->wpAny (model X.prog X.w) X.A (isTrue e X.env whole) (TP X Z8 σ Q) X.xe s
theorem PW.pt{X:Cx}{e:Expr}{t:TT}(h:PW X e t):PT X e t:=h _
def PA(X:Cx)(es:List Expr)(t:TA):Prop:=
 ∀(pos:Pos) (Z8:List (Addr×Obj)) (s:Shared) (σ:St) (H:Hp) (Q:List V->Hp->Prop),Inv X Z8 σ H s->t σ H Q->wpAny (model X.prog X.w) X.A (spliced (backTo pos (starEach es X.env))) (AP X Z8 σ Q) X.xe s
def PS(X:Cx)(st:Stmt)(t:TS):Prop:=
 ∀(Z8:List (Addr×Obj)) (s:Shared) (σ:St) (H:Hp) (D:Ends),Inv X Z8 σ H s->t D σ H->wpAny (model X.prog X.w) X.A (exec st X.env) (SP X Z8 D) X.xe s
def p6(X:Cx)(st:List Stmt)(t:TS):Prop:=
 ∀(Z8:List (Addr×Obj)) (s:Shared) (σ:St) (H:Hp) (D:Ends),Inv X Z8 σ H s->t D σ H->wpAny (model X.prog X.w) X.A (execs st X.env) (SP X Z8 D) X.xe s
theorem fM{α:Type}{t:Sem α}{Q Q':α->Shared->Prop}{M:Model}{A:Around}{E:Value->Shared->Prop}{s:Shared}(h:wpAny M A t Q E s)(hQ:∀a s,Q a s->Q' a s):wpAny M A t Q' E s:=cN h hQ fun _ _ x=>x
section
variable {X:Cx}
theorem bin{a b:Expr}{ta tb:TE}(ha:PE X a ta)(hb:PE X b tb){Z8:List (Addr×Obj)}{s:Shared}{σ:St}{H:Hp}{R:V->V->Hp->Prop}(I:Inv X Z8 σ H s)(h:ta σ H fun x H1=>tb σ H1 fun y H2=>R x y H2)
  {α:Type} {Q:α->Shared->Prop} {f:Value->Value->Sem α}
  (hf:∀v u s2 x y H2,Inv X Z8 σ H2 s2->RelV x v->RelV y u->R x y H2->wpAny (model X.prog X.w) X.A (f v u) Q X.xe s2) :
  wpAny (model X.prog X.w) X.A (eval a X.env) (fun v fw=>wpAny (model X.prog X.w) X.A (eval b X.env) (fun u kd=>wpAny (model X.prog X.w) X.A (f v u) Q X.xe kd) X.xe fw) X.xe s:=by
 refine fM (ha Z8 s σ H _ I h) fun v s1 fh=>?_
 obtain⟨x,H1,I1,r1,q1⟩:=fh;refine fM (hb Z8 s1 σ H1 _ I1 q1) fun u s2 fh=>?_
 obtain⟨y,H2,I2,r2,q2⟩:=fh;exact hf v u s2 x y H2 I2 r1 r2 q2
def Nw(i:Nat):TE:=fun σ H Q=>∃v,σ[i]?=some (some v)/\Q v H
def tC(v:V):TE:=fun _ H Q=>Q v H
theorem pE{i:Nat}{x:Str}{pos:Pos}(hN:X.N[i]?=some x)(hv:nV X.env.scope x)(hd:(x==("__debug__":Str))=false:=by decide)(iS:(x==("__classdict__":Str))=false:=by decide):PE X (.Name x pos) (Nw i):=by
 intro Z8 s σ H Q I h;obtain⟨v,e,h⟩:=h;obtain⟨m,hn,hl⟩:=I.loc;obtain⟨u,r,l⟩:=hl i x v hN e hv;have fin:EP X Z8 σ Q u s:=⟨v,H,I,r,h⟩
 rcases l with⟨hk,hm⟩ | ⟨hk,c,hc,wB⟩
 ·exact wpAny_Name (wpAny_loadName_local I.ok.kind hk hn hm fin) hd
 ·rcases hk with hk | hk
  ·exact wpAny_Name (wpAny_loadName_cell I.ok.kind hk hc wB fin) hd
  ·exact wpAny_Name (wpAny_loadName_free I.ok.kind hk hc wB fin iS) hd
theorem IM{i j pos}:PE X (.Constant (.int i) j pos) (tC (.int i)):=fun _ _ _ H _ I h=>wpAny_Constant_int ⟨.int i,H,I.tok _,⟨_,rfl⟩,h⟩
theorem N0{b j pos}:PE X (.Constant (.bool b) j pos) (tC (.bl b)):=fun _ _ _ H _ I h=>Constant_bool ⟨.bl b,H,I,rfl,h⟩
theorem Qd{j pos}:PE X (.Constant .none j pos) (tC .non):=fun _ _ _ H _ I h=>Constant_none ⟨.non,H,I,rfl,h⟩
theorem Qc{x j pos}:PE X (.Constant (.str x) j pos) (tC (.str x)):=fun _ _ _ H _ I h=>Calls.Constant_str ⟨.str x,H,I.tok _,⟨_,rfl⟩,h⟩
def Gl(X:Cx)(x:Str):Prop:=X.env.kindOf x=some .globalImplicit
theorem ED{E:Value->Shared->Prop}{Z8:List (Addr×Obj)}{s:Shared}{σ:St}{H:Hp}{x:Str}{u:Value}{pos:Pos}{Q:Value->Shared->Prop}(I:Inv X Z8 σ H s)(hg:Gl X x)(hm:X.mg x=some u)(h:Q u s)
  (hd:(x==("__debug__":Str))=false:=by decide):wpAny (model X.prog X.w) X.A (eval (.Name x pos) X.env) Q E s:=
 Calls.Name_function_global I.ok.kind hg (Calls.loadGlobal_global (by rw[I.ok.glob];exact I.mod.glob.keeps I.bk) hm h) hd
theorem vJ{E:Value->Shared->Prop}{Z8:List (Addr×Obj)}{s:Shared}{σ:St}{H:Hp}{x:Str}{u:Value}{pos:Pos}{Q:Value->Shared->Prop}(I:Inv X Z8 σ H s)(hg:Gl X x)(hm:X.mg x=none)(hv:bootBuiltins x=some u)(h:Q u s)
  (hn:x≠"__name__":=by decide) (hd:(x==("__debug__":Str))=false:=by decide):wpAny (model X.prog X.w) X.A (eval (.Name x pos) X.env) Q E s:=by
 obtain⟨mb,h1,h2⟩:=I.mod.blt;exact Calls.Name_function_global I.ok.kind hg (Calls.loadGlobal_builtin (by rw[I.ok.glob];exact I.mod.glob.keeps I.bk) hm (by rw[I.ok.blt];exact h1.keeps I.bk) ((h2 x hn).trans hv) h) hd
theorem Rz{x:Str}{v:V}{u:Value}{pos:Pos}(hg:Gl X x)(hm:X.mg x=some u)(r:RelV v u)(hd:(x==("__debug__":Str))=false:=by decide):PE X (.Name x pos) (tC v):=
 fun _ _ _ H _ I h=>ED I hg hm ⟨v,H,I,r,h⟩ hd
theorem RK{x:Str}{v:V}{u:Value}{pos:Pos}(hg:Gl X x)(hm:X.mg x=none)(hv:bootBuiltins x=some u)(r:RelV v u)(hn:x≠"__name__":=by decide)(hd:(x==("__debug__":Str))=false:=by decide):PE X (.Name x pos) (tC v):=
 fun _ _ _ H _ I h=>vJ I hg hm hv ⟨v,H,I,r,h⟩ hn hd
variable {a b:Expr} {ta tb:TE} {pos:Pos}
def PC(X:Cx)(op:CmpOp)(a b:Expr)(t:TE):Prop:=
 ∀(Z8:List (Addr×Obj)) (s:Shared) (σ:St) (H:Hp) (Q:VK),Inv X Z8 σ H s->t σ H Q->
  wpAny (model X.prog X.w) X.A (eval a X.env) (fun v fw=>wpAny (model X.prog X.w) X.A (eval b X.env) (fun u kd=>wpAny (model X.prog X.w) X.A (compareOp op v u) (EP X Z8 σ Q) X.xe kd) X.xe fw) X.xe s
theorem SW(b:Expr){op:CmpOp}(h:op≠.In)(h2:op≠.NotIn):behindInMarks op b=false:=by
 have e1:(op==CmpOp.In)=false:=by cases op<;>first | rfl | exact absurd rfl h
 have e2:(op==CmpOp.NotIn)=false:=by cases op<;>first | rfl | exact absurd rfl h2
 cases b<;>simp[behindInMarks,e1,e2]
def tB(t:TE):TT:=fun σ H Q=>t σ H fun x H1=>∃c,x=.bl c/\Q c H1
theorem ZG{op:CmpOp}{t:TE}(h:PC X op a b t)(h1:behindInMarks op b=false:=by first | exact SW _ (by decide) (by decide) | rfl):PT X (.Compare a [op] [b] pos) (tB t):=by
 intro Z8 s σ H Q I hw;refine wpAny_isTrue_Compare1 (fM (h Z8 s σ H _ I hw) fun v s1 h1=>fM h1 fun u s2 h2=>fM h2 fun c s3 fh=>?_) h1;obtain⟨x,H1,I1,r1,q1⟩:=fh;obtain⟨d,rfl,q⟩:=q1;cases r1;exact cI ⟨H1,I1,q⟩
theorem Qb{e:Expr}{t:TE}(h:PE X e t)(he:∀whole,isTrue e X.env whole=(do let v <-whole;standAt e.pos;holding [v] (truthy v)):=by intro _;rfl):PT X e (tB t):=by
 intro Z8 s σ H Q I hw;refine isTrue_plain (fM (h Z8 s σ H _ I hw) fun v s1 fh=>?_) (he _);obtain⟨x,H1,I1,r1,q1⟩:=fh;obtain⟨d,rfl,q⟩:=q1;cases r1;exact cI ⟨H1,I1,q⟩
variable {tA Dg:TT} {rest:List Expr}
def Nv(t u:TT):TT:=fun σ H Q=>t σ H fun c H1=>if c=true then u σ H1 Q else Q false H1
def XD(t u:TT):TT:=fun σ H Q=>t σ H fun c H1=>if c=true then Q true H1 else u σ H1 Q
def Nu(t:TT):TT:=fun σ H Q=>t σ H fun c H1=>Q (!c) H1
theorem RJ(ha:PT X a tA):PW X (.BoolOp .And [a] pos) tA:=by
 intro wh Z8 s σ H Q I h;refine isTrue_and (fM (ha Z8 s σ H Q I h) fun c s1 e=>?_);cases c with
 | true=>exact isTrue_and_nil e
 | false=>exact e
theorem Qa(ha:PT X a tA):PW X (.BoolOp .Or [a] pos) tA:=by
 intro wh Z8 s σ H Q I h;refine isTrue_or (fM (ha Z8 s σ H Q I h) fun c s1 e=>?_);cases c with
 | false=>exact isTrue_or_nil e
 | true=>exact e
theorem P9(ha:PT X a tA)(hb:PW X (.BoolOp .And (b::rest) pos) Dg):PW X (.BoolOp .And (a::b::rest) pos) (Nv tA Dg):=by
 intro wh Z8 s σ H Q I h;refine isTrue_and (fM (ha Z8 s σ H _ I h) fun c s1 fh=>?_);obtain⟨H1,I1,q1⟩:=fh;cases c with
 | true=>exact hb wh Z8 s1 σ H1 Q I1 q1
 | false=>exact⟨H1,I1,q1⟩
theorem NZ(ha:PT X a tA)(hb:PW X (.BoolOp .Or (b::rest) pos) Dg):PW X (.BoolOp .Or (a::b::rest) pos) (XD tA Dg):=by
 intro wh Z8 s σ H Q I h;refine isTrue_or (fM (ha Z8 s σ H _ I h) fun c s1 fh=>?_);obtain⟨H1,I1,q1⟩:=fh;cases c with
 | true=>exact⟨H1,I1,q1⟩
 | false=>exact hb wh Z8 s1 σ H1 Q I1 q1
theorem P8(ha:PT X a tA):PT X (.UnaryOp .Not a pos) (Nu tA):=by
 intro Z8 s σ H Q I h;exact isTrue_not (ha Z8 s σ H (fun c H1=>Q (!c) H1) I h)
def NY(ta tb:TE):TE:=fun σ H Q=>ta σ H fun x H1=>∃c,x=.bl c/\if c=true then tb σ H1 Q else Q (.bl false) H1
def Nt(ta tb:TE):TE:=fun σ H Q=>ta σ H fun x H1=>∃c,x=.bl c/\if c=true then Q (.bl true) H1 else tb σ H1 Q
theorem P7{op}{t:TE}(h:PE X a t):PE X (.BoolOp op [a] pos) t:=fun Z8 s σ H Q I hw=>BoolOp_one (h Z8 s σ H Q I hw)
theorem P6(ha:PE X a ta)(hb:PE X (.BoolOp .And (b::rest) pos) tb):PE X (.BoolOp .And (a::b::rest) pos) (NY ta tb):=by
 intro Z8 s σ H Q I h;refine BoolOp_and (fM (ha Z8 s σ H _ I h) fun v s1 fh=>?_);obtain⟨x,H1,I1,r1,q1⟩:=fh;obtain⟨c,rfl,q1⟩:=q1;cases r1;refine cI ?_;cases c with
 | true=>exact hb Z8 s1 σ H1 Q I1 q1
 | false=>exact⟨.bl false,H1,I1,rfl,q1⟩
theorem NX(ha:PE X a ta)(hb:PE X (.BoolOp .Or (b::rest) pos) tb):PE X (.BoolOp .Or (a::b::rest) pos) (Nt ta tb):=by
 intro Z8 s σ H Q I h;refine BoolOp_or (fM (ha Z8 s σ H _ I h) fun v s1 fh=>?_);obtain⟨x,H1,I1,r1,q1⟩:=fh;obtain⟨c,rfl,q1⟩:=q1;cases r1;refine cI ?_;cases c with
 | false=>exact hb Z8 s1 σ H1 Q I1 q1
 | true=>exact⟨.bl true,H1,I1,rfl,q1⟩
def XE(t:TT)(ta tb:TE):TE:=fun σ H Q=>t σ H fun c H1=>if c=true then ta σ H1 Q else tb σ H1 Q
theorem SV{c:Expr}(hc:PT X c tA)(ha:PE X a ta)(hb:PE X b tb):PE X (.IfExp c a b pos) (XE tA ta tb):=by
 intro Z8 s σ H Q I h;refine wpAny_IfExp (fM (hc Z8 s σ H _ I h) fun d s1 fh=>?_);obtain⟨H1,I1,q1⟩:=fh;cases d with
 | true=>exact ha Z8 s1 σ H1 Q I1 q1
 | false=>exact hb Z8 s1 σ H1 Q I1 q1
end
def gT(K:Z9)(H:Hp)(a:Addr)(xs:List V):Prop:=
 Rd H a (.lst xs)\/
  ∃(o:Obj) (its:Array Value) (n:Nat),K.lookup a=some o/\o.cls=.type "list"/\o.dict=none/\o.data=.seq its n/\its.size<=sizeLine/\Vals xs its.toList
def iK(K:Z9)(H:Hp)(a:Addr)(xs:List V):Prop:=
 Rd H a (.tup xs)\/
  ∃(o:Obj) (its:Array Value) (n:Nat),K.lookup a=some o/\o.cls=.type "tuple"/\o.data=.seq its n/\its.size<=sizeLine/\Vals xs its.toList
noncomputable def Nr:Value->Option V
 | .none=>some .non
 | .bool b=>some (.bl b)
 | .int i _=>some (.int i)
 | .str x _=>some (.str x)
 | .bytes b _=>some (.DI b)
 | .float b _=>some (.DG b)
 | .ref a=>some (.ref a)
 | .type n=>some (.ty n)
 | _=>none
theorem RelV.abs{x:V}{u:Value}(r:RelV x u):Nr u=some x:=by
 cases x with
 | non=>cases r;rfl
 | bl _=>cases r;rfl
 | int _=>obtain⟨t,rfl⟩:=r;rfl
 | str _=>obtain⟨t,rfl⟩:=r;rfl
 | DI _=>obtain⟨t,rfl⟩:=r;rfl
 | DG _=>obtain⟨t,rfl⟩:=r;rfl
 | ref _=>cases r;rfl
 | ty _=>cases r;rfl
theorem RelV.inj{x y:V}{u:Value}(r:RelV x u)(q:RelV y u):x=y:=cL (r.abs.symm.trans q.abs)
theorem Vals.inj:∀{xs ys:List V} {us:List Value},Vals xs us->Vals ys us->xs=ys
 | _,_,_,.nil,.nil=>rfl
 | _,_,_,.cons r t,.cons r' t'=>by rw[r.inj r',Vals.inj t t']
section
variable {X:Cx} {Z8:List (Addr×Obj)} {σ:St} {H:Hp} {s:Shared} {a:Addr} {xs ys:List V}
theorem gT.of{K:Z9}(h:H a=some (.lst xs)):gT K H a xs:=.inl (.inl h)
theorem iK.of{K:Z9}(h:H a=some (.tup xs)):iK K H a xs:=.inl (.inl h)
theorem Inv.list(I:Inv X Z8 σ H s)(h:gT X.K H a xs):∃its:List Value,Vals xs its/\PlainL s.heap a its.toArray/\xs.length<=sizeLine:=by
 rcases h with h | ⟨o,its,n,hk,hc,hd,hs,hz,r⟩
 ·obtain⟨z,its,n,r,e⟩:=h.ok I.fR;exact⟨its,r,⟨_,n,e,rfl,rfl,rfl⟩,z⟩
 ·refine⟨its.toList,r,⟨o,n,I.oB a o hk,hc,hd,by simpa using hs⟩,?_⟩;have e:=r.length;simp only[ah] at e;omega
theorem Inv.tuple(I:Inv X Z8 σ H s)(h:iK X.K H a xs):∃its:List Value,Vals xs its/\IsTup s.heap a its.toArray/\xs.length<=sizeLine:=by
 rcases h with h | ⟨o,its,n,hk,hc,hs,hz,r⟩
 ·obtain⟨z,its,r,p⟩:=h.ok I.fR;exact⟨its,r,p,z⟩
 ·refine⟨its.toList,r,⟨o,I.oB a o hk,hc,n,by simpa using hs⟩,?_⟩;have e:=r.length;simp only[ah] at e;omega
theorem Inv.jE(I:Inv X Z8 σ H s)(h:gT X.K H a xs)(h':gT X.K H a ys):xs=ys:=by
 obtain⟨its,r,⟨o,n,e,_,_,d⟩,_⟩:=I.list h;obtain⟨its',r',⟨o',n',e',_,_,d'⟩,_⟩:=I.list h';rw[e] at e';cases e';rw[d] at d';injection d' with d1 _
 have:its=its':=by simpa using et Array.toList d1
 subst this;exact r.inj r'
theorem Inv.nz(I:Inv X Z8 σ H s)(h:iK X.K H a xs)(h':iK X.K H a ys):xs=ys:=by
 obtain⟨its,r,⟨o,e,_,n,d⟩,_⟩:=I.tuple h;obtain⟨its',r',⟨o',e',_,n',d'⟩,_⟩:=I.tuple h';rw[e] at e';cases e';rw[d] at d';injection d' with d1 _
 have:its=its':=by simpa using et Array.toList d1
 subst this;exact r.inj r'
end
noncomputable abbrev Cx.mY(X:Cx)(E:Value->Shared->Prop):Cx:={ X with xe:=E }
noncomputable abbrev Cx.uh(X:Cx):Cx:=X.mY fun _ _=>False
theorem Cx.Ok.mY{X:Cx}(ok:X.Ok)(E:Value->Shared->Prop):(X.mY E).Ok:=
 ⟨ok.mod,ok.kind,ok.glob,ok.blt,ok.above,ok.inj,ok.has,ok.cab,ok.hd,ok.frames,ok.Dh,ok.exf,ok.bs,ok.wC,ok.sR,ok.tJ,ok.lQ,ok.xZ⟩
theorem Cx.Ok.jA{X:Cx}{E:Value->Shared->Prop}(ok:(X.mY E).Ok):X.Ok:=
 ⟨ok.mod,ok.kind,ok.glob,ok.blt,ok.above,ok.inj,ok.has,ok.cab,ok.hd,ok.frames,ok.Dh,ok.exf,ok.bs,ok.wC,ok.sR,ok.tJ,ok.lQ,ok.xZ⟩
section
variable {X:Cx} {Z8:List (Addr×Obj)} {σ:St} {H:Hp} {s:Shared} {E:Value->Shared->Prop}
theorem Inv.mY(I:Inv X Z8 σ H s)(E:Value->Shared->Prop):Inv (X.mY E) Z8 σ H s:=⟨I.ok.mY E,I.os,I.bare,I.base,I.loc,I.cell,I.free,I.jG,I.pin,I.fR,I.len⟩
theorem Inv.jA(I:Inv (X.mY E) Z8 σ H s):Inv X Z8 σ H s:=⟨I.ok.jA,I.os,I.bare,I.base,I.loc,I.cell,I.free,I.jG,I.pin,I.fR,I.len⟩
theorem SP.jA{D:Ends}{f:Flow}{s':Shared}(h:SP (X.mY E) Z8 D f s'):SP X Z8 D f s':=by
 cases f with
 | next=>obtain⟨fF,H',I,q⟩:=h;exact⟨fF,H',I.jA,q⟩
 | brk=>obtain⟨fF,H',I,q⟩:=h;exact⟨fF,H',I.jA,q⟩
 | cont=>obtain⟨fF,H',I,q⟩:=h;exact⟨fF,H',I.jA,q⟩
 | ret u=>obtain⟨v,fF,H',I,r,q⟩:=h;exact⟨v,fF,H',I.jA,r,q⟩
theorem p6.uh{st:List Stmt}{t:TS}(h:p6 X.uh st t):p6 X st t:=fun Z8 s σ H D I hw=>
 cN (h Z8 s σ H D (I.mY _) hw) (fun _ _ q=>q.jA) fun _ _ z=>False.elim z
end
section
variable {X:Cx} {st:Stmt} {rest:List Stmt} {t u:TS} {e:Expr} {te:TE} {pos:Pos}
def NW:TS:=fun D σ H=>D.nx σ H
def Nq(t u:TS):TS:=fun D σ H=>t { D with nx:=u D } σ H
theorem JO:p6 X [] NW:=fun _ _ σ H _ I h=>wpAny_execs_nil ⟨σ,H,I,h⟩
theorem Ke(h1:PS X st t)(h2:p6 X rest u):p6 X (st::rest) (Nq t u):=by
 intro Z8 s σ H D I h;refine wpAny_execs_cons (fM (h1 Z8 s σ H { D with nx:=u D } I h) fun f s1 q=>?_);cases f with
 | next=>
  obtain⟨fF,H',I',q⟩:=q;exact h2 Z8 s1 fF H' D I' q
 | ret v=>exact q
 | brk=>exact q
 | cont=>exact q
theorem RH(h1:PS X st t):p6 X [st] t:=by
 intro Z8 s σ H D I h;refine wpAny_execs_cons (fM (h1 Z8 s σ H D I h) fun f s1 q=>?_);cases f with
 | next=>exact wpAny_execs_nil q
 | ret v=>exact q
 | brk=>exact q
 | cont=>exact q
theorem Inv.quiet{Z8:List (Addr×Obj)}{σ:St}{H:Hp}{s:Shared}(I:Inv X Z8 σ H s):interactive X.env=false:=by simp[interactive,I.ok.kind]
def NV(te:TE):TS:=fun D σ H=>te σ H fun _ H1=>D.nx σ H1
theorem yH(he:PE X e te)(hs:swapsWith e none pos.line X.env=pure false:=by rfl):PS X (.Expr e pos) (NV te):=by
 intro Z8 s σ H D I h;exact wpAny_Expr_any (fM (he Z8 s σ H _ I h) fun v s1 fh=>by obtain⟨x,H1,I1,r1,q1⟩:=fh;exact⟨σ,H1,I1,q1⟩) I.quiet hs
def Np(te:TE):TS:=fun D σ H=>te σ H D.rt
theorem Ct(he:PE X e te):PS X (.Return (some e) pos) (Np te):=by
 intro Z8 s σ H D I h;exact wpAny_Return_some (fM (he Z8 s σ H _ I h) fun v s1 fh=>by obtain⟨x,H1,I1,r1,q1⟩:=fh;exact⟨x,σ,H1,I1,r1,q1⟩)
def Nn(c:TT)(t u:TS):TS:=fun D σ H=>c σ H fun b H1=>if b=true then t D σ H1 else u D σ H1
theorem NU{c:Expr}{a b:List Stmt}{tc:TT}(hc:PT X c tc)(ha:p6 X a t)(hb:p6 X b u):PS X (.If c a b pos) (Nn tc t u):=by
 intro Z8 s σ H D I h;refine wpAny_If (fM (hc Z8 s σ H _ I h) fun d s1 fh=>?_);obtain⟨H1,I1,q1⟩:=fh;cases d with
 | true=>exact ha Z8 s1 σ H1 D I1 q1
 | false=>exact hb Z8 s1 σ H1 D I1 q1
def P5:TS:=fun _ _ _=>False
theorem SU:PS X st P5:=fun _ _ _ _ _ _ h=>h.elim
end
noncomputable abbrev TG:=V->St->Hp->(St->Hp->Prop)->Prop
noncomputable abbrev vf:=List V->St->Hp->(St->Hp->Prop)->Prop
def PG(X:Cx)(target:Expr)(t:TG):Prop:=
 ∀(Z8:List (Addr×Obj)) (s:Shared) (σ:St) (H:Hp) (v:V) (u:Value) (Q:St->Hp->Prop),Inv X Z8 σ H s->RelV v u->t v σ H Q->
  wpAny (model X.prog X.w) X.A (assign target X.env u) (fun _ s'=>∃fF H',Inv X Z8 fF H' s'/\Q fF H') X.xe s
def zu(X:Cx)(ts:List Expr)(t:vf):Prop:=
 ∀(Z8:List (Addr×Obj)) (s:Shared) (σ:St) (H:Hp) (vs:List V) (us:List Value) (Q:St->Hp->Prop),Inv X Z8 σ H s->Vals vs us->t vs σ H Q->
  wpAny (model X.prog X.w) X.A (assignInOrder ((assignEach ts X.env).map (·.2)) us) (fun _ s'=>∃fF H',Inv X Z8 fF H' s'/\Q fF H') X.xe s
noncomputable abbrev DY:=V->V->V->Hp->(Hp->Prop)->Prop
def Im(X:Cx)(t:DY):Prop:=
 ∀(Z8:List (Addr×Obj)) (s:Shared) (σ:St) (H:Hp) (o i v:V) (ov iv u:Value) (Q:Hp->Prop),Inv X Z8 σ H s->RelV o ov->RelV i iv->RelV v u->t o i v H Q->
  wpAny (model X.prog X.w) X.A (setItem ov iv u) (fun _ s'=>∃H',Inv X Z8 σ H' s'/\Q H') X.xe s
section
variable {X:Cx} {pos:Pos}
def Eh(i:Nat):TG:=fun v σ H Q=>Q (σ.set i (some v)) H
theorem RG{i:Nat}{x:Str}(hN:X.N.Nodup)(hi:X.N[i]?=some x)(hx:Loc X.env.scope x)(hf:X.fn x=true\/X.env.scope.names.lookup x=some .local:=by first | exact .inl rfl | exact .inr rfl | assumption):PG X (.Name x pos) (Eh i):=by
 intro Z8 s σ H v u Q I r h;exact wpAny_assign_Name (KD I hN hi hx r (fun s' I'=>⟨_,H,I',h⟩) hf)
noncomputable def Nm:vf:=fun vs σ H Q=>vs=[]/\Q σ H
noncomputable def NT(t:TG)(u:vf):vf:=fun vs σ H Q=>∃v r,vs=v::r/\t v σ H fun fF H'=>u r fF H' Q
theorem RF:zu X [] Nm:=by
 intro Z8 s σ H vs us Q I r h;obtain⟨e,h⟩:=h;subst e;cases r;exact assignInOrder_nil ⟨σ,H,I,h⟩
theorem SS{e:Expr}{es:List Expr}{t:TG}{u:vf}(h1:PG X e t)(h2:zu X es u)
  (hs:(assignEach (e::es) X.env).map (·.2)=assign e X.env::(assignEach es X.env).map (·.2):=by rfl):zu X (e::es) (NT t u):=by
 intro Z8 s σ H vs us Q I r h;obtain⟨v,vr,e1,h⟩:=h;subst e1;cases r with
 | cons r rr=>
  rw[hs];refine assignInOrder_cons (fM (h1 Z8 s σ H _ _ _ I r h) fun _ s1 fh=>?_);obtain⟨yk,H1,I1,q1⟩:=fh;exact h2 Z8 s1 yk H1 _ _ Q I1 rr q1
def Nl(K:Z9)(n:Nat)(t:vf):TG:=fun v σ H Q=>∃a xs,v=.ref a/\iK K H a xs/\xs.length=n/\t xs σ H Q
theorem P4{es:List Expr}{k:Nat}{t:vf}{n:Nat}(hc:X.calm=true)(h:zu X es t)
  (hn:(assignEach es X.env).length=n:=by rfl) (jv:(assignEach es X.env).findIdx? (·.1)=none:=by rfl):PG X (.Tuple es k pos) (Nl X.K n t):=by
 intro Z8 s σ H v u Q I r hw;obtain⟨a,xs,e1,hq,hl,hw⟩:=hw;subst e1;cases r;obtain⟨its,rv,ht,hz⟩:=I.tuple hq;refine assign_Tuple_tuple (I.ok.hd hc) ht (by simp[hn,<-hl,rv.length]) jv fun h' hx=>?_
 have I1:Inv X Z8 σ H { s with heap:=h' }:=I.kept (t':=s.toks) fun b o e=>hx b o (aG (aB e)) e
 exact h Z8 _ σ H xs _ Q I1 (by simpa using rv) hw
def Nk(to ti:TE)(t:DY):TG:=fun v σ H Q=>to σ H fun o H1=>ti σ H1 fun i H2=>t o i v H2 fun H3=>Q σ H3
theorem P2{o i:Expr}{to ti:TE}{t:DY}(ho:PE X o to)(hi:PE X i ti)(hs:Im X t)
  (ha:∀v,assign (.Subscript o i pos) X.env v=(do
   let ov <-holding [v] (eval o X.env)
   let iv <-holding [v,ov] (eval i X.env)
   standAt pos
   holding [v,ov,iv] (setItem ov iv v)
   release [v,ov,iv] []):=by intro _;rfl):PG X (.Subscript o i pos) (Nk to ti t):=by
 intro Z8 s σ H v u Q I r h;rw[ha];refine aa (bL (fM (ho Z8 s σ H _ I h) fun ov s1 fh=>?_));obtain⟨x,H1,I1,r1,q1⟩:=fh;refine aa (bL (fM (hi Z8 s1 σ H1 _ I1 q1) fun iv s2 fh=>?_));obtain⟨y,H2,I2,r2,q2⟩:=fh;refine aa (wpAny_standAt (aa (bL (fM (hs Z8 s2 σ H2 x y v ov iv u _ I2 r1 r2 r q2) fun _ s3 fh=>?_))));obtain⟨H3,I3,q3⟩:=fh;exact wpAny_release ⟨σ,H3,I3,q3⟩
def DX(te:TE)(g:TG):TS:=fun D σ H=>te σ H fun x H1=>g x σ H1 D.nx
theorem IL{tg e:Expr}{te:TE}{g:TG}(he:PE X e te)(hg:PG X tg g)(hs:swapsWithSole [tg] e pos.line X.env=pure false:=by rfl)(hw:swappedStores [tg] e X.env=pure none:=by rfl)
  (h1:(assignEach [tg] X.env).map (·.2)=[assign tg X.env]:=by rfl):PS X (.Assign [tg] e pos) (DX te g):=by
 intro Z8 s σ H D I h;refine wpAny_Assign_stores (fM (he Z8 s σ H _ I h) fun v s1 fh=>?_) hs hw;obtain⟨x,H1,I1,r1,q1⟩:=fh;rw[h1];exact fM (hg Z8 s1 σ H1 x v _ I1 r1 q1) fun _ s2 q=>q
theorem IK{i:Nat}{x:Str}{e:Expr}{te:TE}{pos':Pos}(hN:X.N.Nodup)(hi:X.N[i]?=some x)(hx:Loc X.env.scope x)(he:PE X e te)(hs:swapsWith e (some (.Name x pos')) pos.line X.env=pure false:=by rfl)(hf:X.fn x=true\/X.env.scope.names.lookup x=some .local:=by first | exact .inl rfl | exact .inr rfl | assumption) :
  PS X (.Assign [.Name x pos'] e pos) (DX te (Eh i)):=by
 intro Z8 s σ H D I h;refine wpAny_Assign_Name (fM (he Z8 s σ H _ I h) fun v s1 fh=>?_) hs;obtain⟨y,H1,I1,r1,q1⟩:=fh;exact KD I1 hN hi hx r1 (fun s2 I2=>⟨_,H1,I2,q1⟩) hf
end
section
variable {X:Cx} {pos:Pos}
def P1(c:TT)(tb:TS):TS:=fun D σ H=>∃W:Nat->St->Hp->Prop,(∃m,W m σ H)/\∀m σ H,W m σ H->
 c σ H fun b H1=>if b=true then ∃N:St->Hp->Prop,(∀fF H',N fF H'->∃m',m'<m/\W m' fF H')/\tb { D with nx:=N,ct:=N,bk:=D.nx } σ H1 else D.nx σ H1
theorem SR{c:Expr}{body:List Stmt}{tc:TT}{tb:TS}(hp:PassesOwn (model X.prog X.w) X.A X.env X.xe)(hc:PT X c tc)(hb:p6 X body tb):PS X (.While c body [] pos) (P1 tc tb):=by
 intro Z8 s σ H D I h;obtain⟨W,⟨m0,w0⟩,turn⟩:=h;refine wpAny_While (codeAny_whileLoop (fun n s'=>∃fF H',Inv X Z8 fF H' s'/\W n fF H') ?_ m0 ⟨σ,H,I,w0⟩);rintro n s1 ⟨yk,H1,I1,w1⟩;refine ef hp (fM (hc Z8 s1 yk H1 _ I1 (turn n yk H1 w1)) fun b s2 fh=>?_);obtain⟨H2,I2,q2⟩:=fh;cases b with
 | true=>
  obtain⟨N,hN,q2⟩:=q2;rw[if_pos rfl];refine ef hp (fM (hb Z8 s2 yk H2 _ I2 q2) fun f s3 q3=>?_);cases f with
  | next=>
   obtain⟨nD,H3,I3,n3⟩:=q3;obtain⟨m',hm,w3⟩:=hN nD H3 n3;exact⟨m',hm,nD,H3,I3,w3⟩
  | cont=>
   obtain⟨nD,H3,I3,n3⟩:=q3;obtain⟨m',hm,w3⟩:=hN nD H3 n3;exact⟨m',hm,nD,H3,I3,w3⟩
  | brk=>exact q3
  | ret v=>exact q3
 | false=>
  rw[if_neg aO];exact wpAny_execs_nil ⟨yk,H2,I2,q2⟩
end
structure It where
 go:Nat->Hp->Prop
 C9:Nat->Hp->V->Hp->Prop
 stop:Nat->Hp->Prop
def lS(X:Cx)(Z8:List (Addr×Obj))(H:Hp)(b:Addr):Prop:=
 H b=none/\b≠X.env.locals/\b∉X.fs/\(b∈X.ex\/X.ir.heap.objs.size<=b)/\(∀x c,X.env.cells.lookup x=some c->c≠b)/\∀p∈X.pn++Z8,p.1≠b
theorem Inv.pY{X:Cx}{Z8:List (Addr×Obj)}{σ:St}{H H':Hp}{s:Shared}{b:Addr}(I:Inv X Z8 σ H s)(hb:s.heap.objs.size<=b)(hn:H' b=none):lS X Z8 H' b:=by
 refine⟨hn,eu (aW I.lt hb),I.Gv hb,.inr (aH I.sz hb),fun x c e z=>?_,fun p hp z=>?_⟩
 ·obtain⟨v,q⟩:=I.cell x c e;exact absurd (aW q.lt (by rw[z];exact hb)) (cV _)
 ·exact absurd (aW (aB (I.pin p hp).1) (by rw[z];exact hb)) (cV _)
structure Turn (P:Program) (w:World) (K:Z9) (tg:Expr) (J:It) (fp:List Addr) (it:Addr) (tn:Nat->Heap->Prop):Prop where
 mem:it∈fp
 obj:∀i h,tn i h->∀b∈fp,∃o,h.get? b=some o/\∀v,o.data≠.cell v
 keep:∀i h h',tn i h->(∀b∈fp,∀o,h.get? b=some o->h'.get? b=some o)->tn i h'
 item:∀(X:Cx),X.prog=P->X.w=w->X.K=K->X.calm=true->∀(i:Nat) (Z8:List (Addr×Obj)) (s:Shared) (σ:St) (H:Hp) (E:Value->Shared->Prop),Inv X Z8 σ H s->(∀b∈fp,lS X Z8 H b)->tn i s.heap->J.go i H->
  wpAny (model P w) X.A (pyNext (.ref it)) (fun r s1=>∃u,r=some u/\
   wpAny (model P w) X.A (letOwnedTupleGo tg (.ref it) u) (fun _ s2=>∃x H',Inv X Z8 σ H' s2/\RelV x u/\J.C9 i H x H'/\tn (i+1) s2.heap/\∀b∈fp,H' b=none) E s1) E s
 done:∀(X:Cx),X.prog=P->X.w=w->X.K=K->X.calm=true->∀(i:Nat) (Z8:List (Addr×Obj)) (s:Shared) (σ:St) (H:Hp) (E:Value->Shared->Prop),Inv X Z8 σ H s->(∀b∈fp,lS X Z8 H b)->tn i s.heap->J.stop i H->
  wpAny (model P w) X.A (pyNext (.ref it)) (fun r s1=>r=none/\Inv X Z8 σ H s1) E s
 self:∀(A:Around) (i:Nat) (s:Shared) (Q:Value->Shared->Prop) (E:Value->Shared->Prop),tn i s.heap->Q (.ref it) s->wpAny (model P w) A (pyIter (.ref it)) Q E s
noncomputable abbrev TI:=St->Hp->(It->Hp->Prop)->Prop
def DM(X:Cx)(Z8:List (Addr×Obj))(σ:St)(tg:Expr)(R:It->Hp->Prop)(GA:Value)(s2:Shared):Prop:=
 ∃(it:Addr) (fp:List Addr) (tn:Nat->Heap->Prop) (J:It) (H':Hp),GA=.ref it/\Inv X Z8 σ H' s2/\Turn X.prog X.w X.K tg J fp it tn/\tn 0 s2.heap/\(∀b∈fp,lS X Z8 H' b)/\R J H'
def PI(X:Cx)(tg iter:Expr)(wi:TI):Prop:=
 ∀(Z8:List (Addr×Obj)) (s:Shared) (σ:St) (H:Hp) (R:It->Hp->Prop),Inv X Z8 σ H s->wi σ H R->
  wpAny (model X.prog X.w) X.A (eval iter X.env) (fun v s1=>wpAny (model X.prog X.w) X.A (pyIter v) (DM X Z8 σ tg R) X.xe s1) X.xe s
theorem Cp{M:Model}{A:Around}{E:Value->Shared->Prop}{s:Shared}{tg:Expr}{it:Addr}{u:Value}{o:Obj}{n:String}{vs:Array Value}{Q:Unit->Shared->Prop}(ho:s.heap.get? it=some o)(hc:o.cls=.type n)(hd:o.data=.fields vs)
  (hn:["enumerate","zip","dict_itemiterator","dict_reverseitemiterator","odict_iterator","itertools.zip_longest","itertools.pairwise"].contains n=false) (hQ:Q () s):wpAny M A (letOwnedTupleGo tg (.ref it) u) Q E s:=by
 unfold letOwnedTupleGo;cases tg<;>first
  | exact aq hQ
  | (cases u<;>first
    | exact aq hQ
    | (refine aa (wpAny_load ho ?_)
       rw[hc,hd];show wpAny M A (if (["enumerate","zip","dict_itemiterator","dict_reverseitemiterator","odict_iterator","itertools.zip_longest","itertools.pairwise"].contains n&&vs[0]?==some (rawInt _))=true then _ else _) Q E s;rw[if_neg (by intro h;rw[hn,Bool.false_and] at h;cases h)];exact aq hQ))
noncomputable def HR(K:Z9)(a:Addr):It:=
 ⟨fun i H=>∃xs x,gT K H a xs/\xs[i]?=some x,fun i H x H'=>H'=H/\∀xs,gT K H a xs->xs[i]?=some x,fun i H=>∃xs,gT K H a xs/\xs.length<=i⟩
noncomputable def HQ(K:Z9)(a:Addr):It:=
 ⟨fun i H=>∃xs x,iK K H a xs/\xs[i]?=some x,fun i H x H'=>H'=H/\∀xs,iK K H a xs->xs[i]?=some x,fun i H=>∃xs,iK K H a xs/\xs.length<=i⟩
noncomputable def DP(lo:Int)(n:Nat):It:=⟨fun i _=>i<n,fun i H x H'=>H'=H/\x=.int (lo+i),fun i _=>n<=i⟩
theorem UA{P:Program}{w:World}{K:Z9}{tg:Expr}(a it:Addr):Turn P w K tg (HR K a) [it] it (fun i h=>h.IsListIter it a i) where
 mem:=by simp
 obj:=fun i h st b hb=>by
  have e:b=it:=by simpa using hb
  subst e;obtain⟨o,e,c,d⟩:=st;exact⟨o,e,fun v z=>by rw[d] at z;cases z⟩
 keep:=fun i h h' st k=>st.at fun o e=>k it (by simp) o e
 item:=by
  intro X hP hw hK hc i Z8 s σ H E I hf st hg;subst hP hw hK;obtain⟨xs,x,hq,hx⟩:=hg;obtain⟨its,rv,p,hz⟩:=I.list hq;obtain⟨u,hu,ru⟩:=rv.get hx;obtain⟨f0,f1,f2,f3,f4,f5⟩:=hf it (by simp);refine wpAny_pyNext_list_item st p.isList (x:=u) (by simpa using hu) fun h' eX sb=>?_
  have I1:Inv X Z8 σ H { s with heap:=h' }:=I.turned (t':=s.toks) (fun b o hb e=>(sb.2 b hb).trans e) f0 f1 f3 f4 f5;obtain⟨o,e,c,d⟩:=id eX;exact⟨u,rfl,Cp (s:={ s with heap:=h' }) e c d (by decide) ⟨x,H,I1,ru,⟨rfl,fun ys hy=>by rw[I.jE hy hq];exact hx⟩,eX,fun b hb=>(hf b hb).1⟩⟩
 done:=by
  intro X hP hw hK hc i Z8 s σ H E I hf st hg;subst hP hw hK;obtain⟨xs,hq,hx⟩:=hg;obtain⟨its,rv,p,hz⟩:=I.list hq;obtain⟨f0,f1,f2,f3,f4,f5⟩:=hf it (by simp);have hl:=rv.length;exact wpAny_pyNext_list_end (I.ok.hd hc) st p.isList (by simp;omega) fun h' eb=>⟨rfl,I.turned (t':=s.toks) (fun b o hb e=>eb b o hb e) f0 f1 f3 f4 f5⟩
 self:=fun _ _ _ _ _ st h=>wpAny_pyIter_listiter st h
theorem UW{P:Program}{w:World}{K:Z9}{tg:Expr}(a it:Addr):Turn P w K tg (HQ K a) [it] it (fun i h=>h.IsTupleIter it a i) where
 mem:=by simp
 obj:=fun i h st b hb=>by
  have e:b=it:=by simpa using hb
  subst e;obtain⟨o,e,c,d⟩:=st;exact⟨o,e,fun v z=>by rw[d] at z;cases z⟩
 keep:=fun i h h' st k=>st.at fun o e=>k it (by simp) o e
 item:=by
  intro X hP hw hK hc i Z8 s σ H E I hf st hg;subst hP hw hK;obtain⟨xs,x,hq,hx⟩:=hg;obtain⟨its,rv,p,hz⟩:=I.tuple hq;obtain⟨u,hu,ru⟩:=rv.get hx;obtain⟨f0,f1,f2,f3,f4,f5⟩:=hf it (by simp);refine wpAny_pyNext_tuple_item st (show s.heap.IsTuple a its.toArray from p) (x:=u) (by simpa using hu) fun h' eX sb=>?_
  have I1:Inv X Z8 σ H { s with heap:=h' }:=I.turned (t':=s.toks) (fun b o hb e=>(sb.2 b hb).trans e) f0 f1 f3 f4 f5;obtain⟨o,e,c,d⟩:=id eX;exact⟨u,rfl,Cp (s:={ s with heap:=h' }) e c d (by decide) ⟨x,H,I1,ru,⟨rfl,fun ys hy=>by rw[I.nz hy hq];exact hx⟩,eX,fun b hb=>(hf b hb).1⟩⟩
 done:=by
  intro X hP hw hK hc i Z8 s σ H E I hf st hg;subst hP hw hK;obtain⟨xs,hq,hx⟩:=hg;obtain⟨its,rv,p,hz⟩:=I.tuple hq;obtain⟨f0,f1,f2,f3,f4,f5⟩:=hf it (by simp);have hl:=rv.length;exact wpAny_pyNext_tuple_end (I.ok.hd hc) st (show s.heap.IsTuple a its.toArray from p) (by simp;omega) fun h' eb=>⟨rfl,I.turned (t':=s.toks) (fun b o hb e=>eb b o hb e) f0 f1 f3 f4 f5⟩
 self:=fun _ _ _ _ _ st h=>wpAny_pyIter_tupleiter st h
theorem UU{P:Program}{w:World}{K:Z9}{tg:Expr}(it:Addr)(lo:Int)(n:Nat):Turn P w K tg (DP lo n) [it] it (fun i h=>IsRangeIter h it (lo+(i:Nat)*1) ((n:Int)-(i:Nat)) 1) where
 mem:=by simp
 obj:=fun i h st b hb=>by
  have e:b=it:=by simpa using hb
  subst e
  exact⟨_,st,fun v z=>by
   have z':Data.fields _=Data.cell v:=z;cases z'⟩
 keep:=fun i h h' st k=>k it (by simp) _ st
 item:=by
  intro X hP hw hK hc i Z8 s σ H E I hf st hg;subst hP hw hK;obtain⟨f0,f1,f2,f3,f4,f5⟩:=hf it (by simp);have W:=Walks.range (prog:=X.prog) (w:=X.w) (I.ok.hd hc) it lo 1 n;refine W.item i s _ _ hg st fun v h' tk hv eX kk=>?_
  obtain⟨t,rfl⟩:=hv;have I1:Inv X Z8 σ H { s with heap:=h',toks:=tk }:=I.turned (fun b o hb e=>kk b o (by simpa using hb) e) f0 f1 f3 f4 f5;refine⟨_,rfl,Cp (s:={ s with heap:=h',toks:=tk }) (n:="range_iterator") eX rfl rfl (by decide) ⟨.int (lo+i),H,I1,⟨t,?_⟩,⟨rfl,rfl⟩,eX,fun b hb=>(hf b hb).1⟩⟩;rw[Int.mul_one]
 done:=by
  intro X hP hw hK hc i Z8 s σ H E I hf st hg;subst hP hw hK;obtain⟨f0,f1,f2,f3,f4,f5⟩:=hf it (by simp);exact wpAny_pyNext_range_end (I.ok.hd hc) st (by have:n<=i:=hg;omega) fun h' eb=>⟨rfl,I.turned (t':=s.toks) (fun b o hb e=>eb b o hb e) f0 f1 f3 f4 f5⟩
 self:=fun _ _ _ _ _ st h=>wpAny_pyIter_rangeiter st h
section
variable {X:Cx} {tg:Expr}
theorem Tf{Z8:List (Addr×Obj)}{σ:St}{H:Hp}{s:Shared}{R:It->Hp->Prop}{E:Value->Shared->Prop}{lo hi:Int}{t u v:Tok}{tk:Nat}(I:Inv X Z8 σ H s)(h1:-(2 ^ 62)<=lo)(h2:lo<2 ^ 62)(h3:-(2 ^ 62)<=hi)(h4:hi<2 ^ 62)
  (q:R (DP lo (hi-lo).toNat) H):wpAny (model X.prog X.w) X.A (pyIter (.ref s.heap.objs.size)) (DM X Z8 σ tg R) E { s with heap:=s.heap.push { cls:=.type "range",data:=.fields #[.int lo t,.int hi u,.int 1 v] },toks:=tk }:=by
 refine wpAny_pyIter_range (IsRange.new ..) (small_one h1 h2 h3 h4) ?_;have I1:Inv X Z8 σ H { s with heap:=s.heap.push { cls:=.type "range",data:=.fields #[.int lo t,.int hi u,.int 1 v] },toks:=tk }:=I.kept fun b o e=>ao _ e
 refine⟨(s.heap.push { cls:=.type "range",data:=.fields #[.int lo t,.int hi u,.int 1 v] }).objs.size,[(s.heap.push { cls:=.type "range",data:=.fields #[.int lo t,.int hi u,.int 1 v] }).objs.size],_,_,H,rfl,
  I1.kept (t':=tk) fun b o e=>ao _ e,UU _ lo (hi-lo).toNat,?_,fun b hb=>?_,q⟩
 ·have e1:lo+((0:Nat):Int)*1=lo:=by simp
  have e2:(((hi-lo).toNat:Nat):Int)-((0:Nat):Int)=Builtin.Range.rangeSize lo hi 1:=by rw[rangeSize_one];split<;>omega
  show IsRangeIter _ _ (lo+((0:Nat):Int)*1) ((((hi-lo).toNat:Nat):Int)-((0:Nat):Int)) 1;rw[e1,e2];exact aD _ rfl
 ·have e:b=(s.heap.push { cls:=.type "range",data:=.fields #[.int lo t,.int hi u,.int 1 v] }).objs.size:=by simpa using hb
  subst e;exact I1.pY (az _) (I1.fR.fresh (az _))
def NS(ta:TA):TI:=fun σ H R=>ta σ H fun vs H1=>∃j:Int,vs=[.int j]/\-(2 ^ 62)<=j/\j<2 ^ 62/\R (DP 0 j.toNat) H1
theorem Uz{a:Expr}{ta:TA}{p pos:Pos}(hg:Gl X "range")(hm:X.mg "range"=none)(ha:PA X [a] ta)(hs:starEach [a] X.env=[(false,eval a X.env)]:=by rfl):PI X tg (.Call (.Name "range" p) [a] [] pos) (NS ta):=by
 intro Z8 s σ H R I h;refine Call_ (vJ I hg hm boot_range (cT (fM (ha pos Z8 s σ H _ I h) fun us s1 fh=>?_) hs rfl));obtain⟨vs,H1,I1,r1,q1⟩:=fh;obtain⟨j,e,q1,q2,q⟩:=q1;subst e;cases r1 with
 | cons r rr=>
  cases rr;obtain⟨t,rfl⟩:=r;exact call_range_1 (Tf I1 (by omega) (by omega) q1 q2 (by simpa using q))
def Nj(wi:TI)(g:TG)(tb:TS):TS:=fun D σ H=>wi σ H fun J H1=>∃W:Nat->Nat->St->Hp->Prop,(∃m,W 0 m σ H1)/\∀i m σ H,W i m σ H->
 (J.stop i H/\D.nx σ H)\/(J.go i H/\∃N:St->Hp->Prop,(∀fF H',N fF H'->∃m',m'<m/\W (i+1) m' fF H')/\∀x H',J.C9 i H x H'->g x σ H' fun nj H2=>tb { D with nx:=N,ct:=N,bk:=D.nx } nj H2)
noncomputable def zP(fp:List Addr)(h:Heap):List (Addr×Obj):=fp.filterMap fun b=>(h.get? b).map fun o=>(b,o)
theorem C6{fp:List Addr}{h:Heap}{b:Addr}{o:Obj}(hb:b∈fp)(e:h.get? b=some o):(b,o)∈zP fp h:=List.mem_filterMap.mpr ⟨b,hb,by rw[e];rfl⟩
theorem Uy{fp:List Addr}{h:Heap}{p:Addr×Obj}(hp:p∈zP fp h):p.1∈fp/\h.get? p.1=some p.2:=by
 obtain⟨b,hb,e⟩:=List.mem_filterMap.mp hp;cases q:h.get? b with
 | none=>rw[q] at e;cases e
 | some o=>
  rw[q] at e;have e':(b,o)=p:=cL e;subst e';exact⟨hb,q⟩
theorem Inv.pinned{Z8:List (Addr×Obj)}{σ:St}{H:Hp}{s:Shared}{fp:List Addr}(I:Inv X Z8 σ H s)(hf:∀b∈fp,lS X Z8 H b)(ho:∀b∈fp,∃o,s.heap.get? b=some o/\∀v,o.data≠.cell v):Inv X (Z8++zP fp s.heap) σ H s:=
 I.qA fun p hp=>(ay.mp hp).elim (fun z=>I.pin p (bu _ z)) fun z=>by
  obtain⟨hb,e⟩:=Uy z;obtain⟨f0,f1,f2,_⟩:=hf p.1 hb;obtain⟨o,e',d⟩:=ho p.1 hb;rw[e] at e';cases e';exact⟨e,f0,f1,f2,d⟩
theorem Inv.kC{Z8 pl:List (Addr×Obj)}{σ:St}{H:Hp}{s:Shared}(I:Inv X (Z8++pl) σ H s):Inv X Z8 σ H s:=I.qA fun p hp=>I.pin p (bu _ (bZ _ hp))
theorem P0{iter:Expr}{body:List Stmt}{wi:TI}{g:TG}{tb:TS}{pos:Pos}(hp:PassesOwn (model X.prog X.w) X.A X.env X.xe)(hc:X.calm=true)(hi:PI X tg iter wi)(hg:PG X tg g)(hb:p6 X body tb)
  (hs:∀x,foldedSetIterable iter X.env x=pure x:=by intro _;rfl):PS X (.For tg iter body [] pos) (Nj wi g tb):=by
 intro Z8 s σ H D I h;refine wpAny_For (fM (hi Z8 s σ H _ I h) fun v s1 h1=>fM h1 fun GA s2 h2=>?_) hs;obtain⟨it,fp,tn,J,H2,e,I2,T,fi,f2,W,⟨m0,w0⟩,turn⟩:=h2;subst e
 -- Ge stays true of qu xJ objects through qu loop
 have xt:∀{H':Hp},(∀b∈fp,H' b=none)->∀b∈fp,lS X Z8 H' b:=fun hn b hb=>⟨hn b hb,(f2 b hb).2⟩
 refine codeAny_forLoop_any (fun n s'=>∃i fF H',Inv X Z8 fF H' s'/\tn i s'.heap/\(∀b∈fp,H' b=none)/\W i n fF H') ?_ m0 ⟨0,σ,H2,I2,fi,fun b hb=>(f2 b hb).1,w0⟩;rintro n s3 ⟨i,nD,H3,I3,A2,M3,w3⟩;rcases turn i n nD H3 w3 with⟨stop,qn⟩ | ⟨go,N,hN,step⟩
 ·refine ef hp (fM (T.done X rfl rfl rfl hc i Z8 s3 nD H3 X.xe I3 (xt M3) A2 stop) fun r s4 fh=>?_);obtain⟨hr,I4⟩:=fh;subst hr;exact wpAny_execs_nil ⟨nD,H3,I4,qn⟩
 ·refine ef hp (fM (T.item X rfl rfl rfl hc i Z8 s3 nD H3 X.xe I3 (xt M3) A2 go) fun r s4 fh=>?_);obtain⟨u,hr,h4⟩:=fh;subst hr;refine ef hp (fM h4 fun _ s5 fh=>?_);obtain⟨x,H5,I5,r5,y5,Gi,Zi⟩:=fh;have Zy:=I5.pinned (xt Zi) (T.obj _ _ Gi);refine ef hp (fM (hg _ s5 nD H5 x u _ Zy r5 (step x H5 y5)) fun _ s6 fh=>?_);obtain⟨Nh,H6,I6,q6⟩:=fh;refine ef hp (fM (hb _ s6 Nh H6 _ I6 q6) fun f s7 q7=>?_);have again:∀{pC:St} {H7:Hp},Inv X (Z8++zP fp s5.heap) pC H7 s7->N pC H7->∃m,m<n/\∃i fF H',Inv X Z8 fF H' s7/\tn i s7.heap/\(∀b∈fp,H' b=none)/\W i m fF H':=fun{pC H7} I7 n7=>by
   obtain⟨m',hm,w7⟩:=hN pC H7 n7;refine⟨m',hm,i+1,pC,H7,I7.kC,T.keep _ _ _ Gi fun b hb o e=>(I7.pin (b,o) (bu _ (bu _ (C6 hb e)))).1,fun b hb=>?_,w7⟩;obtain⟨o,e,d⟩:=T.obj _ _ Gi b hb;exact(I7.pin (b,o) (bu _ (bu _ (C6 hb e)))).2.1
  cases f with
  | next=>obtain⟨pC,H7,I7,n7⟩:=q7;exact again I7 n7
  | cont=>obtain⟨pC,H7,I7,n7⟩:=q7;exact again I7 n7
  | brk=>obtain⟨pC,H7,I7,q7⟩:=q7;exact⟨pC,H7,I7.kC,q7⟩
  | ret v=>obtain⟨x7,pC,H7,I7,r7,q7⟩:=q7;exact⟨x7,pC,H7,I7.kC,r7,q7⟩
end
noncomputable abbrev R2:=V->V->Hp->VK->Prop
def i3(X:Cx)(f:Value->Value->Sem Value)(r:R2):Prop:=
 ∀(Z8:List (Addr×Obj)) (s:Shared) (σ:St) (H:Hp) (x y:V) (v u:Value) (Q:VK),Inv X Z8 σ H s->RelV x v->RelV y u->r x y H Q->
  wpAny (model X.prog X.w) X.A (f v u) (EP X Z8 σ Q) X.xe s
def HM(X:Cx)(f:Value->Sem Value)(r:V->Hp->VK->Prop):Prop:=
 ∀(Z8:List (Addr×Obj)) (s:Shared) (σ:St) (H:Hp) (x:V) (v:Value) (Q:VK),Inv X Z8 σ H s->RelV x v->r x H Q->
  wpAny (model X.prog X.w) X.A (f v) (EP X Z8 σ Q) X.xe s
def fO(X:Cx)(f:Value)(r:List V->Hp->VK->Prop):Prop:=
 ∀(Z8:List (Addr×Obj)) (s:Shared) (σ:St) (H:Hp) (xs:List V) (us:List Value) (Q:VK),Inv X Z8 σ H s->Vals xs us->r xs H Q->
  wpAny (model X.prog X.w) X.A (call f us) (EP X Z8 σ Q) X.xe s
def A0(r:R2)(ta tb:TE):TE:=fun σ H Q=>ta σ H fun x H1=>tb σ H1 fun y H2=>r x y H2 Q
def XB(r:V->Hp->VK->Prop)(ta:TE):TE:=fun σ H Q=>ta σ H fun x H1=>r x H1 Q
def rI(C:Int->Int->Prop)(g:Int->Int->V):R2:=fun x y H Q=>∃i j,x=.int i/\y=.int j/\C i j/\Q (g i j) H
def qz(g:Int->Int->V):R2:=fun x y H Q=>∃i j,x=.int i/\y=.int j/\Q (g i j) H
def rU(g:Int->V):V->Hp->VK->Prop:=fun x H Q=>∃i,x=.int i/\Q (g i) H
section
variable {X:Cx} {a b c:Expr} {ta tb tc:TE} {pos:Pos}
theorem DW(ha:PE X a ta)(hb:PE X b tb){Z8:List (Addr×Obj)}{s:Shared}{σ:St}{H:Hp}{R:V->V->Hp->Prop}(I:Inv X Z8 σ H s)
  (h:ta σ H fun x H1=>tb σ H1 fun y H2=>R x y H2) {Q:Value->Shared->Prop} {f:Value->Value->Sem Value}
  (hf:∀v u s2 x y H2,Inv X Z8 σ H2 s2->RelV x v->RelV y u->R x y H2->wpAny (model X.prog X.w) X.A (f v u) Q X.xe s2) :
  wpAny (model X.prog X.w) X.A (eval a X.env) (fun v fw=>wpAny (model X.prog X.w) X.A (eval b X.env) (fun u kd=>wpAny (model X.prog X.w) X.A (f v u) Q X.xe kd) X.xe fw) X.xe s:=by
 refine fM (ha Z8 s σ H _ I h) fun v s1 fh=>?_
 obtain⟨x,H1,I1,r1,q1⟩:=fh;refine fM (hb Z8 s1 σ H1 _ I1 q1) fun u s2 fh=>?_
 obtain⟨y,H2,I2,r2,q2⟩:=fh;exact hf v u s2 x y H2 I2 r1 r2 q2
theorem IC{op:Operator}{r:R2}(ho:i3 X (binaryOp op) r)(ha:PE X a ta)(hb:PE X b tb):PE X (.BinOp a op b pos) (A0 r ta tb):=by
 intro Z8 s σ H Q I h;exact wpAny_BinOp (DW ha hb I h fun v u s2 x y H2 I2 rx ry q=>ho Z8 s2 σ H2 x y v u Q I2 rx ry q)
theorem NR{op:UnaryOp}{r:V->Hp->VK->Prop}(ho:HM X (unaryOp op) r)(ha:PE X a ta):PE X (.UnaryOp op a pos) (XB r ta):=by
 intro Z8 s σ H Q I h;exact UnaryOp_ (fM (ha Z8 s σ H _ I h) fun v s1 fh=>by obtain⟨x,H1,I1,r1,q1⟩:=fh;exact ho Z8 s1 σ H1 x v Q I1 r1 q1)
theorem Dm{f:Value->Value->Sem Value}{C:Int->Int->Prop}{g:Int->Int->Int}
  (rule:∀(i j:Int) (t u:Tok) (s:Shared) (Q:Value->Shared->Prop) (E:Value->Shared->Prop),C i j->Q (.int (g i j) s.toks) { s with toks:=s.toks+1 }->wpAny (model X.prog X.w) X.A (f (.int i t) (.int j u)) Q E s) :
  i3 X f (rI C fun i j=>.int (g i j)):=by
 intro Z8 s σ H x y v u Q I rx ry h;obtain⟨i,j,rfl,rfl,hc,q⟩:=h;obtain⟨t,rfl⟩:=rx;obtain⟨t',rfl⟩:=ry;exact rule i j t t' s _ _ hc ⟨.int (g i j),H,I.tok _,⟨_,rfl⟩,q⟩
theorem Il{f:Value->Value->Sem Value}{g:Int->Int->Int}
  (rule:∀(i j:Int) (t u:Tok) (s:Shared) (Q:Value->Shared->Prop) (E:Value->Shared->Prop),Q (.int (g i j) s.toks) { s with toks:=s.toks+1 }->wpAny (model X.prog X.w) X.A (f (.int i t) (.int j u)) Q E s) :
  i3 X f (qz fun i j=>.int (g i j)):=by
 intro Z8 s σ H x y v u Q I rx ry h;obtain⟨i,j,rfl,rfl,q⟩:=h;obtain⟨t,rfl⟩:=rx;obtain⟨t',rfl⟩:=ry;exact rule i j t t' s _ _ ⟨.int (g i j),H,I.tok _,⟨_,rfl⟩,q⟩
theorem DV{f:Value->Value->Sem Value}{g:Int->Int->Bool}
  (rule:∀(i j:Int) (t u:Tok) (s:Shared) (Q:Value->Shared->Prop) (E:Value->Shared->Prop),Q (.bool (g i j)) s->wpAny (model X.prog X.w) X.A (f (.int i t) (.int j u)) Q E s) :
  i3 X f (qz fun i j=>.bl (g i j)):=by
 intro Z8 s σ H x y v u Q I rx ry h;obtain⟨i,j,rfl,rfl,q⟩:=h;obtain⟨t,rfl⟩:=rx;obtain⟨t',rfl⟩:=ry;exact rule i j t t' s _ _ ⟨.bl (g i j),H,I,rfl,q⟩
def lT(i j:Int):Prop:=0<j/\j<1073741824
def tX(i j:Int):Prop:=0<=j/\j<=1000000/\i.natAbs<2 ^ 64
def lB(i j:Int):Prop:=(-(2 ^ 64)<i/\i<2 ^ 64)\/(-(2 ^ 64)<j/\j<2 ^ 64)
theorem lB.ok{i j:Int}(h:lB i j):IntMulOk i j:=by
 rcases h with⟨h1,h2⟩ | ⟨h1,h2⟩
 ·exact .of_left (intBits_le_64 h1 h2)
 ·exact .of_right (intBits_le_64 h1 h2)
theorem xA:i3 X (binaryOp .Add) (qz fun i j=>.int (i+j)):=Il fun _ _ _ _ _ _ _ q=>add_int q
theorem PZ:i3 X (binaryOp .Sub) (qz fun i j=>.int (i-j)):=Il fun _ _ _ _ _ _ _ q=>sub_int q
theorem PY:i3 X (binaryOp .Mult) (rI lB fun i j=>.int (i*j)):=Dm fun _ _ _ _ _ _ _ hc q=>mul_int q hc.ok
theorem RE:i3 X (binaryOp .FloorDiv) (rI lT fun i j=>.int (i/j)):=Dm fun i j _ _ _ _ _ hc q=>by
 have h1:(0:Int)<j:=hc.1;have h2:j<1073741824:=hc.2;exact floordiv_int (by omega) (by rw[Int.fdiv_eq_ediv_of_nonneg i (by omega)];exact q) (.inl (PyProof.noPylong_small (by omega)))
theorem PV:i3 X (binaryOp .Mod) (rI (fun _ j=>0<j) fun i j=>.int (i%j)):=Dm fun i j _ _ _ _ _ hc q=>by
 have h1:(0:Int)<j:=hc;exact mod_int' (by omega) (by rw[Int.fmod_eq_emod_of_nonneg i (by omega)];exact q)
theorem PU:i3 X (binaryOp .Pow) (rI tX fun i j=>.int (i ^ j.toNat)):=Dm fun _ _ _ _ _ _ _ hc q=>pow_int_small hc.1 hc.2.1 hc.2.2 q
theorem Xw{f:Value->Sem Value}{g:Int->Int}
  (rule:∀(i:Int) (t:Tok) (s:Shared) (Q:Value->Shared->Prop) (E:Value->Shared->Prop),Q (.int (g i) s.toks) { s with toks:=s.toks+1 }->wpAny (model X.prog X.w) X.A (f (.int i t)) Q E s) :
  HM X f (rU fun i=>.int (g i)):=by
 intro Z8 s σ H x v Q I rx h;obtain⟨i,rfl,q⟩:=h;obtain⟨t,rfl⟩:=rx;exact rule i t s _ _ ⟨.int (g i),H,I.tok _,⟨_,rfl⟩,q⟩
theorem PR:HM X (unaryOp .USub) (rU fun i=>.int (-i)):=Xw fun _ _ _ _ _ q=>neg_int q
end
section
variable {X:Cx} {a b c:Expr} {ta tb tc:TE} {pos:Pos}
theorem EA{Z8:List (Addr×Obj)}{σ:St}{H:Hp}{s:Shared}{Q:VK}{k k':Bool}(I:Inv X Z8 σ H s)(q:Q (.bl k) H)(e:k=k'):EP X Z8 σ Q (.bool k') s:=by
 subst e;exact⟨.bl k,H,I,rfl,q⟩
theorem Co:i3 X (compareOp .Lt) (qz fun i j=>.bl (decide (i<j))):=DV fun _ _ _ _ _ _ _ q=>lt_int q
theorem zM:i3 X (compareOp .LtE) (qz fun i j=>.bl (decide (i<=j))):=DV fun _ _ _ _ _ _ _ q=>le_int q
theorem NQ:i3 X (compareOp .Gt) (qz fun i j=>.bl (decide (j<i))):=DV fun _ _ _ _ _ _ _ q=>gt_int q
theorem qV:i3 X (compareOp .In) (fun x y H Q=>∃i j,x=.str i/\y=.str j/\Q (.bl (!(Builtin.Str.occurrences j i 0 j.length 1).isEmpty)) H):=by
 intro Z8 s σ H x y v u Q I rx ry h;obtain⟨i,j,rfl,rfl,q⟩:=h;obtain⟨t,rfl⟩:=rx;obtain⟨t',rfl⟩:=ry;exact in_str (EA I q rfl)
theorem Qs:i3 X (compareOp .Is) (fun x y H Q=>y=.non/\Q (.bl (decide (x=.non))) H):=by
 intro Z8 s σ H x y v u Q I rx ry h;obtain⟨rfl,q⟩:=h;cases ry;refine is_none_gen (EA I q ?_);cases x<;>first
  | (cases rx;rfl)
  | (obtain⟨t,rfl⟩:=rx;rfl)
theorem RD:i3 X (compareOp .IsNot) (fun x y H Q=>y=.non/\Q (.bl (!decide (x=.non))) H):=by
 intro Z8 s σ H x y v u Q I rx ry h;obtain⟨rfl,q⟩:=h;cases ry;refine isnot_none_gen (EA I q ?_);cases x<;>first
  | (cases rx;rfl)
  | (obtain⟨t,rfl⟩:=rx;rfl)
theorem i3.or{f:Value->Value->Sem Value}{r r':R2}(h:i3 X f r)(h':i3 X f r'):i3 X f (fun x y H Q=>r x y H Q\/r' x y H Q):=by
 intro Z8 s σ H x y v u Q I rx ry q;rcases q with q | q
 ·exact h Z8 s σ H x y v u Q I rx ry q
 ·exact h' Z8 s σ H x y v u Q I rx ry q
theorem IJ(b:Expr){op:CmpOp}(h:op≠.In:=by decide)(h2:op≠.NotIn:=by decide):behindInMarks op b=false:=by
 have e1:(op==CmpOp.In)=false:=by cases op<;>first | rfl | exact absurd rfl h
 have e2:(op==CmpOp.NotIn)=false:=by cases op<;>first | rfl | exact absurd rfl h2
 cases b<;>simp[behindInMarks,e1,e2]
theorem RC{op:CmpOp}{r:R2}(ho:i3 X (compareOp op) r)(ha:PE X a ta)(hb:PE X b tb)(hm:behindInMarks op b=false):PE X (.Compare a [op] [b] pos) (A0 r ta tb):=by
 intro Z8 s σ H Q I h;exact wpAny_Compare1 (DW ha hb I h fun v u s2 x y H2 I2 rx ry q=>ho Z8 s2 σ H2 x y v u Q I2 rx ry q) hm
def Eg(t:TE):TT:=fun σ H Q=>t σ H fun x H'=>∃k,x=.bl k/\Q k H'
theorem QL{op:CmpOp}{r:R2}(ho:i3 X (compareOp op) r)(ha:PE X a ta)(hb:PE X b tb)(hm:behindInMarks op b=false):PT X (.Compare a [op] [b] pos) (Eg (A0 r ta tb)):=by
 intro Z8 s σ H Q I h;refine wpAny_isTrue_Compare1 (fM (ha Z8 s σ H _ I h) fun v s1 fh=>?_) hm;obtain⟨x,H1,I1,r1,q1⟩:=fh;refine fM (hb Z8 s1 σ H1 _ I1 q1) fun u s2 fh=>?_
 obtain⟨y,H2,I2,r2,q2⟩:=fh;refine fM (ho Z8 s2 σ H2 x y v u _ I2 r1 r2 q2) fun c s3 fh=>?_
 obtain⟨z,H3,I3,r3,k,e,q3⟩:=fh;subst e;cases r3;exact cI ⟨H3,I3,q3⟩
def Ez(r r':R2)(ta tb tc:TE):TE:=fun σ H Q=>ta σ H fun x H1=>tb σ H1 fun y H2=>r x y H2 fun z H3=>∃k,z=.bl k/\
 (if k=true then tc σ H3 fun w' H4=>r' y w' H4 Q else Q (.bl false) H3)
theorem Te{op pS:CmpOp}{r r':R2}(ho:i3 X (compareOp op) r)(oC:i3 X (compareOp pS) r')(ha:PE X a ta)(hb:PE X b tb)(hc:PE X c tc)
  (hm:lastMarks [op,pS] [b,c]=false:=by with_unfolding_all rfl):PE X (.Compare a [op,pS] [b,c] pos) (Ez r r' ta tb tc):=by
 intro Z8 s σ H Q I h;refine Compare_chain (fM (ha Z8 s σ H _ I h) fun v s1 fh=>?_) hm;obtain⟨x,H1,I1,r1,q1⟩:=fh;refine chain_link (fM (hb Z8 s1 σ H1 _ I1 q1) fun u s2 fh=>?_);obtain⟨y,H2,I2,r2,q2⟩:=fh;refine fM (ho Z8 s2 σ H2 x y v u _ I2 r1 r2 q2) fun d s3 fh=>?_
 obtain⟨z,H3,I3,r3,k,e,q3⟩:=fh;subst e;cases r3;refine cI ?_;cases k with
 | false=>exact ite_ff ⟨.bl false,H3,I3,rfl,q3⟩
 | true=>exact ite_tt (chain_last (fM (hc Z8 s3 σ H3 _ I3 q3) fun w' s4 fh=>by obtain⟨z',H4,I4,r4,q4⟩:=fh;exact oC Z8 s4 σ H4 y z' u w' Q I4 r2 r4 q4))
theorem Td{op pS:CmpOp}{r r':R2}(ho:i3 X (compareOp op) r)(oC:i3 X (compareOp pS) r')(ha:PE X a ta)(hb:PE X b tb)(hc:PE X c tc)
  (hm:lastMarks [op,pS] [b,c]=false:=by with_unfolding_all rfl):PT X (.Compare a [op,pS] [b,c] pos) (Eg (Ez r r' ta tb tc)):=by
 intro Z8 s σ H Q I h;refine isTrue_chain (fM (ha Z8 s σ H _ I h) fun v s1 fh=>?_) hm;obtain⟨x,H1,I1,r1,q1⟩:=fh;refine test_link (fM (hb Z8 s1 σ H1 _ I1 q1) fun u s2 fh=>?_);obtain⟨y,H2,I2,r2,q2⟩:=fh;refine fM (ho Z8 s2 σ H2 x y v u _ I2 r1 r2 q2) fun d s3 fh=>?_
 obtain⟨z,H3,I3,r3,k,e,q3⟩:=fh;subst e;cases r3;refine cI ?_;cases k with
 | false=>
  obtain⟨k',e',q'⟩:=q3;cases e';exact ite_ff ⟨H3,I3,q'⟩
 | true=>
  refine ite_tt (test_last (fM (hc Z8 s3 σ H3 _ I3 q3) fun w' s4 fh=>?_));obtain⟨z',H4,I4,r4,q4⟩:=fh;refine fM (oC Z8 s4 σ H4 y z' u w' _ I4 r2 r4 q4) fun d' s5 fh=>?_
  obtain⟨z2,H5,I5,r5,k2,e2,q5⟩:=fh;subst e2;cases r5;exact cI ⟨H5,I5,q5⟩
theorem yA:(sizeLine:Nat)<2 ^ 63:=by rw[sizeLine_eq];decide
theorem pR:i3 X (binaryOp .Add) (fun x y H Q=>∃i j,x=.str i/\y=.str j/\i.length+j.length<=sizeLine/\Q (.str (i++j)) H):=by
 intro Z8 s σ H x y v u Q I rx ry h;obtain⟨i,j,rfl,rfl,hz,q⟩:=h;obtain⟨t,rfl⟩:=rx;obtain⟨t',rfl⟩:=ry;exact add_str (fun t' tk=>⟨.str (i++j),H,I.tok _,⟨_,rfl⟩,q⟩) hz
theorem mL{x:V}{us:List Value}(r:Vals [x] us):∃u,us=[u]/\RelV x u:=by
 cases r with
 | cons r1 r2=>cases r2;exact⟨_,rfl,r1⟩
theorem zL{x y:V}{us:List Value}(r:Vals [x,y] us):∃u w',us=[u,w']/\RelV x u/\RelV y w':=by
 cases r with
 | cons r1 r2=>
  cases r2 with
  | cons r3 r4=>cases r4;exact⟨_,_,rfl,r1,r3⟩
theorem Ux(hc:X.calm=true):fO X (.builtin "max") (fun xs H Q=>∃i j,xs=[.int i,.int j]/\Q (.int (if j>i then j else i)) H):=by
 intro Z8 s σ H xs us Q I r h;obtain⟨i,j,rfl,q⟩:=h;obtain⟨u,w',rfl,⟨t,rfl⟩,⟨t',rfl⟩⟩:=zL r;refine max_two_ints (I.ok.hd hc) fun h' tk k=>⟨_,H,I.kept k,?_,q⟩
 by_cases hj:j>i
 ·rw[if_pos hj,if_pos hj];exact⟨_,rfl⟩
 ·rw[if_neg hj,if_neg hj];exact⟨_,rfl⟩
theorem Uw(hc:X.calm=true):fO X (.builtin "min") (fun xs H Q=>∃i j,xs=[.int i,.int j]/\Q (.int (if j<i then j else i)) H):=by
 intro Z8 s σ H xs us Q I r h;obtain⟨i,j,rfl,q⟩:=h;obtain⟨u,w',rfl,⟨t,rfl⟩,⟨t',rfl⟩⟩:=zL r;refine min_two_ints (I.ok.hd hc) fun h' tk k=>⟨_,H,I.kept k,?_,q⟩
 by_cases hj:j<i
 ·rw[if_pos hj,if_pos hj];exact⟨_,rfl⟩
 ·rw[if_neg hj,if_neg hj];exact⟨_,rfl⟩
theorem Uv:fO X (.type "int") (fun xs H Q=>(∃i,xs=[.int i]/\Q (.int i) H)\/∃k,xs=[.bl k]/\Q (.int (if k then 1 else 0)) H):=by
 intro Z8 s σ H xs us Q I r h;rcases h with⟨i,rfl,q⟩ | ⟨k,rfl,q⟩
 ·obtain⟨u,rfl,t,rfl⟩:=mL r;exact call_int_int ⟨.int i,H,I,⟨_,rfl⟩,q⟩
 ·obtain⟨u,rfl,r1⟩:=mL r;cases r1;exact call_int_bool ⟨.int (if k then 1 else 0),H,I.tok _,⟨_,rfl⟩,q⟩
end
structure rn (h:Heap) (x dx C:Addr) (mA:Str->Option Value):Prop where
 obj:h.get? x=some (PySem.W.instObj C dx)
 ns:h.Ns1 dx mA
 ne:dx≠x
theorem UQ{h:Heap}{dx:Addr}{mA:Str->Option Value}(n:h.Ns1 dx mA):∃od,h.get? dx=some od/\∀name,PySem.W.lookIn name od=some (mA name):=by
 obtain⟨o,es,ep,ho,hd,hk,_,hm⟩:=n;refine⟨o,ho,fun name=>?_⟩;have e:=hm name;unfold nsFind findBy at e;rw[<-Array.find?_toList] at e;unfold PySem.W.lookIn;rw[hd];dsimp only;split
 ·rename_i y q;rw[q] at e;exact et some e
 ·rename_i q;rw[q] at e;have a:es.toList.any (·.refKey)=false:=by
   rw[List.any_eq_false];intro y hy;obtain⟨z,t,nL⟩:=hk y (bQ.mp hy);simp[DictEntry.refKey,nL]
  have a':¬es.toList.any (·.refKey)=true:=by rw[a];exact aO
  rw[if_neg a'];exact et some e
theorem rn.look{h:Heap}{x dx C:Addr}{mA:Str->Option Value}(I:rn h x dx C mA):∃od,PySem.W.InstAt h x (PySem.W.instObj C dx) C (some od)/\∀name,PySem.W.lookIn name od=some (mA name):=
 let⟨od,ho,hl⟩:=UQ I.ns
 ⟨od,⟨I.obj,rfl,rfl,ho⟩,hl⟩
section
variable {prog:Program} {w:World} {A:Around} {E:Value->Shared->Prop} {s:Shared} {K:Z9} {x dx C f:Addr} {mA:Str->Option Value} {name:Str} {v:Value}
theorem QK{expr:Bool}{Q:Value->Shared->Prop}(X:K.In s.heap)(I:rn s.heap x dx C mA)(hg:PySem.W.plainGet K C name=true)(hh:PySem.W.hasDictIn K C=true)
  (ha:PySem.W.findIn K (.ref C) name=some none) (hv:mA name=some v) (xN:PySem.W.handedIn v=true) (h:Q v { s with toks:=s.toks+1 }) :
  wpAny (model prog w) A (getAttr (.ref x) name expr) Q E s:=by
 obtain⟨od,J,hl⟩:=I.look;exact PySem.W.get_value X J (PySem.W.plainGet_of hg).1 (PySem.W.findObj_own hh ha rfl (by rw[hl,hv])) xN h
theorem QJ{ns:List Str}{Q:Unit->Shared->Prop}(X:K.In s.heap)(I:rn s.heap x dx C mA)
  (hs:PySem.W.findIn K (.ref C) "__setattr__"=some (some (.builtin "object.__setattr__"))) (hp:PySem.W.plainOver K C=true) (ht:PySem.W.takerIn K C name=some none) (hh:PySem.W.hasDictIn K C=true)
  (hw:PySem.Within mA ns) (hsz:ns.length<=sizeLine)
  (h:∀h',rn h' x dx C (fun y=>if y=name then some v else mA y)->Heap.SameBut dx s.heap h'->Q () { s with heap:=h',toks:=s.toks+2 }) :
  wpAny (model prog w) A (setAttr (.ref x) name v) Q E s:=by
 obtain⟨od,J,hl⟩:=I.look;refine PySem.W.set_plain X J hs (PySem.W.osa_open (s:={ s with toks:=s.toks+1 }) (r:=none) X J hp ht fun b=>?_);obtain⟨cd,hc,vc⟩:=PySem.W.any_some hh;have hx:s.heap.get? x=some ⟨.ref C,some dx,.plain,#[]⟩:=I.obj;refine aa (aq (aa (aa (wpAny_loadPart hx (aa (PySem.W.Looks.here (s:={ s with toks:=s.toks+1 }) (PySem.W.looks_clsIn X hc) ?_))))));rw[vc];refine aq (a:=some dx) (aa (aq (aa ?_)));refine wpAny_nsSet1 (s:={ s with toks:=s.toks+1 }) I.ns fun h' u5 uj=>?_
 obtain⟨oD,Z0,Z1,YD,YW,YX⟩:=u5.count (PySem.Within.cons name v hw);refine aa (wpAny_lookBehind YD (by rw[YW];exact pastItsLine_dict (aH YX (by rw[aE];omega))) ?_);exact aq (h _ ⟨(uj.2 _ (Ne.symm I.ne)).trans I.obj,u5,I.ne⟩ uj)
theorem Tc{R:Result->Shared->Prop}{vs:List Value}{kw:List (Str×Value)}(X:K.In s.heap)(hm:PySem.W.makesIn K C=true)
  (hi:PySem.W.findIn K (.ref C) "__init__"=some (some (.ref f))) (hf:PySem.W.typeIn K (.ref f)=some (.type "function"))
  (h:codeAny (model prog w) (A.under (.builtin "type.__call__" ⟨.ref C::vs,kw⟩)) (.call (.ref f) ⟨.ref (s.heap.objs.size+1)::vs,kw⟩) (PySem.W.InitBack (s.heap.objs.size+1) R)
   { s with heap:=(s.heap.push PySem.W.emptyDict).push (PySem.W.instObj C s.heap.objs.size) }) :
  codeAny (model prog w) A (.call (.ref C) ⟨vs,kw⟩) R s:=by
 obtain⟨hh,g,d,t,os⟩:=s;exact PySem.W.make_core (PySem.W.makes_of X hm) (PySem.W.looks_findIn X hi) (fun self=>PySem.W.bind_fn X self hf) (.inl rfl) h
end
noncomputable def nk(f:Str)(v:V):List (Str×V)->List (Str×V)
 | []=>[(f,v)]
 | (g,x)::r=>if g=f then(g,v)::r else(g,x)::nk f v r
theorem LA(f g:Str)(v:V):∀fs:List (Str×V),(nk f v fs).lookup g=if g=f then some v else fs.lookup g
 | []=>by
  show List.lookup g [(f,v)]=_;by_cases h:g=f
  ·have hb:(g==f)=true:=dX.mpr h;simp only[List.lookup,hb,if_pos h]
  ·have hb:(g==f)=false:=c7.mpr h;simp only[List.lookup,hb,if_neg h]
 | (k,x)::r=>by
  have ih:=LA f g v r;rw[show nk f v ((k,x)::r)=(if k=f then(k,v)::r else(k,x)::nk f v r) from rfl];by_cases hk:k=f
  ·rw[if_pos hk];by_cases h:g=k
   ·have hb:(g==k)=true:=dX.mpr h;simp only[List.lookup,hb,if_pos (h.trans hk)]
   ·have hb:(g==k)=false:=c7.mpr h;simp only[List.lookup,hb,if_neg (fun e:g=f=>h (e.trans hk.symm))]
  ·rw[if_neg hk];by_cases h:g=k
   ·have hb:(g==k)=true:=dX.mpr h;simp only[List.lookup,hb,if_neg (fun e:g=f=>hk (h.symm.trans e))]
   ·have hb:(g==k)=false:=c7.mpr h;simp only[List.lookup,hb];exact ih
theorem Fp(f:Str)(v:V):∀fs:List (Str×V),f∈(nk f v fs).map (·.1)/\∀g,g∈fs.map (·.1)->g∈(nk f v fs).map (·.1)
 | []=>⟨by simp[nk],fun g h=>by simp at h⟩
 | (k,x)::r=>by
  obtain⟨i1,i2⟩:=Fp f v r;rw[show nk f v ((k,x)::r)=(if k=f then(k,v)::r else(k,x)::nk f v r) from rfl];by_cases hk:k=f
  ·rw[if_pos hk];subst hk;exact⟨by simp,fun g h=>by simpa using h⟩
  ·rw[if_neg hk];refine⟨?_,fun g h=>?_⟩
   ·rw[aA];exact aQ _ i1
   ·rw[aA] at h ⊢;rcases ar.mp h with e | e
    ·exact ar.mpr (.inl e)
    ·exact aQ _ (i2 g e)
theorem Lz(f:Str)(v:V):∀fs:List (Str×V),(nk f v fs).length<=fs.length+1
 | []=>by simp[nk]
 | (k,x)::r=>by
  have ih:=Lz f v r;rw[show nk f v ((k,x)::r)=(if k=f then(k,v)::r else(k,x)::nk f v r) from rfl];by_cases hk:k=f
  ·rw[if_pos hk,aE,aE];omega
  ·rw[if_neg hk,aE,aE];omega
theorem mv.some_of{v:V}{o:Option Value}(r:mv (some v) o):∃u,o=some u/\RelV v u:=by
 cases o with
 | none=>exact(show False from r).elim
 | some u=>exact⟨u,rfl,r⟩
theorem UP{v:V}{u:Value}(r:RelV v u):PySem.W.handedIn u=true:=by
 cases v with
 | non=>cases (show u=Value.none from r);rfl
 | bl b=>cases (show u=Value.bool b from r);rfl
 | int i=>obtain⟨t,e⟩:=(show ∃t,u=Value.int i t from r);cases e;rfl
 | str x=>obtain⟨t,e⟩:=(show ∃t,u=Value.str x t from r);cases e;rfl
 | DI b=>obtain⟨t,e⟩:=(show ∃t,u=Value.bytes b t from r);cases e;rfl
 | DG b=>obtain⟨t,e⟩:=(show ∃t,u=Value.float b t from r);cases e;rfl
 | ref a=>cases (show u=Value.ref a from r);rfl
 | ty n=>cases (show u=Value.type n from r);rfl
section
variable {P:Program} {w:World} {H H':Hp} {h h':Heap} {a C dx:Addr} {fs DF:List (Str×V)}
theorem JS(fR:lA P w H h)(e:H a=some (.ins C dx fs)):∃mA,rn h a dx C mA/\(∀f,mv (fs.lookup f) (mA f))/\PySem.Within mA (fs.map (·.1))/\fs.length<=1000/\H dx=some (.own a):=by
 obtain⟨d,z,ne,ob,mA,n,r,q⟩:=(show gi P w H h a (.ins C dx fs) from fR a _ e)
 exact⟨mA,⟨ob,n,ne⟩,r,q,z,d⟩
end
structure wI (K:Z9) (C:Addr):Prop where
 pg:PySem.W.plainGet K C Str.empty=true
 hd:PySem.W.hasDictIn K C=true
 po:PySem.W.plainOver K C=true
 sa:PySem.W.findIn K (.ref C) "__setattr__"=some (some (.builtin "object.__setattr__"))
theorem wI.get{K:Z9}{C:Addr}(c:wI K C)(f:Str):PySem.W.plainGet K C f=true:=c.pg
def fV(K:Z9)(C:Addr)(f:Str):Prop:=PySem.W.findIn K (.ref C) f=some none
theorem fV.AZ{K:Z9}{C:Addr}{f:Str}(n:fV K C f):PySem.W.takerIn K C f=some none:=by
 unfold PySem.W.takerIn;rw[show PySem.W.findIn K (.ref C) f=some none from n];rfl
section
variable {X:Cx} {Z8:List (Addr×Obj)} {σ:St} {H:Hp} {s:Shared} {a C dx:Addr} {fs:List (Str×V)} {f:Str} {v:V} {A:Around} {E:Value->Shared->Prop}
theorem UT{b:Bool}{Q:Value->Shared->Prop}(I:Inv X Z8 σ H s)(e:H a=some (.ins C dx fs))(c:wI X.K C)(n:fV X.K C f)(l:fs.lookup f=some v)
  (h:∀u s',Inv X Z8 σ H s'->RelV v u->Q u s'):wpAny (model X.prog X.w) A (getAttr (.ref a) f b) Q E s:=by
 obtain⟨mA,O,r,_,_,_⟩:=JS I.fR e;obtain⟨u,hu,ru⟩:=mv.some_of (v:=v) (o:=mA f) (by rw[<-l];exact r f);exact QK I.oB O (c.get f) c.hd n hu (UP ru) (h u _ (I.tok _) ru)
theorem US{y:V}{u:Value}{Q:Unit->Shared->Prop}(I:Inv X Z8 σ H s)(e:H a=some (.ins C dx fs))(c:wI X.K C)(n:fV X.K C f)(hl:fs.length<1000)(ry:RelV y u)
  (h:∀s',Inv X Z8 σ (upd H a (.ins C dx (nk f y fs))) s'->Q () s'):wpAny (model X.prog X.w) A (setAttr (.ref a) f u) Q E s:=by
 obtain⟨mA,O,r,wi,_,ho⟩:=JS I.fR e;have hz:(fs.map (·.1)).length<=sizeLine:=by rw[ae,sizeLine_eq];omega
 refine QJ I.oB O c.sa c.po n.AZ c.hd wi hz fun h' O' sb=>h _ ?_
 have hd:∃o,h'.get? dx=some o:=let⟨o,_,_,e',_⟩:=O'.ns;⟨o,e'⟩
 refine I.write (x:=a) (e:=dx) (by rw[e];exact True.intro) (.inr ho) (fun b q hb z=>(sb.2 b hb).trans z) hd ?_;refine⟨by rw[gA O.ne];exact ho,?_,O.ne,O'.obj,_,O'.ns,fun g=>?_,fun g hg=>?_⟩
 ·have:=Lz f y fs;omega
 ·show mv ((nk f y fs).lookup g) (if g=f then some u else mA g);rw[LA];by_cases q:g=f
  ·rw[if_pos q,if_pos q];exact ry
  ·rw[if_neg q,if_neg q];exact r g
 ·by_cases q:g=f
  ·rw[q];exact(Fp f y fs).1
  ·refine(Fp f y fs).2 g (wi g fun z=>hg ?_);show(if g=f then some u else mA g)=none;rw[if_neg q];exact z
theorem Inv.made(I:Inv X Z8 σ H s):Inv X Z8 σ (upd (upd H s.heap.objs.size (.own (s.heap.objs.size+1))) (s.heap.objs.size+1) (.ins C s.heap.objs.size []))
  { s with heap:=(s.heap.push PySem.W.emptyDict).push (PySem.W.instObj C s.heap.objs.size) }:=by
 have e1:(s.heap.push PySem.W.emptyDict).get? s.heap.objs.size=some PySem.W.emptyDict:=aD s.heap rfl;have e2:((s.heap.push PySem.W.emptyDict).push (PySem.W.instObj C s.heap.objs.size)).get? (s.heap.objs.size+1)=some (PySem.W.instObj C s.heap.objs.size):=by
  have:=aD (s.heap.push PySem.W.emptyDict) (o:=PySem.W.instObj C s.heap.objs.size) rfl;rwa [di] at this
 have e3:(s.heap.push PySem.W.emptyDict).Ns s.heap.objs.size (fun _=>none):=⟨PySem.W.emptyDict,#[],_,e1,rfl,(fun e he=>absurd he (by simp)),fun _=>rfl⟩
 have I1:=I.laid (a:=s.heap.objs.size) (o:=.own (s.heap.objs.size+1)) (h':=s.heap.push PySem.W.emptyDict) (t':=s.toks) (fun b u q=>ao _ q) (az _) ⟨_,e1⟩;refine I1.laid (a:=s.heap.objs.size+1) (o:=.ins C s.heap.objs.size []) (t':=s.toks) (fun b u q=>ao _ q) (Nat.le_of_eq (di _ _)) ?_;have ne:s.heap.objs.size≠s.heap.objs.size+1:=aG (cO _);refine⟨by rw[gA ne,jz],aL _,ne,e2,fun _=>none,(Heap.Ns1.of_empty e3).at fun o q=>ao _ q,fun _=>True.intro,fun y hy=>absurd rfl hy⟩
theorem QI{prog:Program}{w:World}{env:Env}{e:Expr}{f:Str}{pos:Pos}{s:Shared}{Q:Value->Shared->Prop}(hb:attributeBase e f env (eval e env)=eval e env)
  (h:wpAny (model prog w) A (eval e env) (fun o fw=>wpAny (model prog w) A (getAttr o f true) Q E fw) E s):wpAny (model prog w) A (eval (.Attribute e f pos) env) Q E s:=
 Attribute_any_ h (by rw[arm_eval_Attribute,hb])
end
def Ni(K:Z9)(ta:TE)(f:Str):TE:=fun σ H Q=>ta σ H fun x H1=>∃a C dx fs v,x=.ref a/\H1 a=some (.ins C dx fs)/\wI K C/\fV K C f/\fs.lookup f=some v/\Q v H1
def NN(K:Z9)(ta tv:TE)(f:Str):TS:=fun D σ H=>tv σ H fun y H1=>ta σ H1 fun x H2=>∃a C dx fs,x=.ref a/\H2 a=some (.ins C dx fs)/\wI K C/\fV K C f/\fs.length<1000/\
 D.nx σ (upd H2 a (.ins C dx (nk f y fs)))
section
variable {X:Cx} {o e value:Expr} {f:Str} {pos pos' sD:Pos} {ta tv:TE}
theorem Qq(he:PE X e ta)(hb:attributeBase e f X.env (eval e X.env)=eval e X.env):PE X (.Attribute e f pos) (Ni X.K ta f):=by
 intro Z8 s σ H Q I h;refine QI hb (fM (he Z8 s σ H _ I h) fun u s1 fh=>?_);obtain⟨x,H1,I1,rx,a,C,dx,fs,v,ex,ea,c,n,l,q⟩:=fh;subst ex;obtain rfl:u=Value.ref a:=rx;exact UT I1 ea c n l fun u' s2 I2 ru=>⟨v,H1,I2,ru,q⟩
theorem Qp(ha:PE X o ta)(hv:PE X value tv)(hs:swapsWith value (some (.Attribute o f pos')) pos.line X.env=pure false):PS X (.Assign [.Attribute o f pos'] value pos) (NN X.K ta tv f):=by
 intro Z8 s σ H D I h;refine plainObj_wpAny_Assign_Attribute (fM (hv Z8 s σ H _ I h) fun u s1 fh=>?_) hs;obtain⟨y,H1,I1,ry,q⟩:=fh;refine fM (ha Z8 s1 σ H1 _ I1 q) fun ov s2 fh=>?_
 obtain⟨x,H2,I2,rx,a,C,dx,fs,ex,ea,c,n,l,q2⟩:=fh;subst ex;obtain rfl:ov=Value.ref a:=rx;exact US I2 ea c n l ry fun s3 I3=>⟨σ,_,I3,q2⟩
end
structure gz (k:Nat) (A:Around):Prop where
 hd:A.handled=none
 dp:A.depth+3*k+5<recursionLimit
 un:A.units+16*k+200<cLine
theorem gz.mono{j k:Nat}{A:Around}(r:gz k A)(h:j<=k):gz j A:=⟨r.hd,by have:=r.dp;omega,by have:=r.un;omega⟩
theorem gz.deeper{k:Nat}{A:Around}(r:gz (k+1) A)(env:Env):gz k (A.deeper env):=
 ⟨r.hd,by have:=r.dp;show A.depth+1+3*k+5<_;omega,by have:=r.un;show A.units+3+16*k+200<_;omega⟩
theorem UR{A:Around}{C:Addr}{us:List Value}{kw:List (Str×Value)}:(A.under (.builtin "type.__call__" ⟨.ref C::us,kw⟩)).depth=A.depth+1:=by
 first | rfl | simp[Around.under,Code.weight,Code.isCreation,Code.isGuard,Code.isCaller,Code.frames,Code.isFrame,guardIds]
theorem U3{A:Around}{C:Addr}{us:List Value}{kw:List (Str×Value)}:(A.under (.builtin "type.__call__" ⟨.ref C::us,kw⟩)).units=A.units+1:=by
 first | rfl | simp[Around.under,Code.cUnits,Code.frames,Code.isFrame]
theorem gz.make{k:Nat}{A:Around}(r:gz (k+1) A)(C:Addr)(us:List Value)(kw:List (Str×Value)):gz k (A.under (.builtin "type.__call__" ⟨.ref C::us,kw⟩)):=
 ⟨r.hd,by have:=r.dp;rw[UR];omega,by have:=r.un;rw[U3];omega⟩
theorem gz.depth{k:Nat}{A:Around}(r:gz k A):A.depth<recursionLimit:=by have:=r.dp;omega
theorem gz.units{k:Nat}{A:Around}(r:gz k A):A.units+64<cLine:=by have:=r.un;omega
noncomputable def NM:TA:=fun _ H Q=>Q [] H
noncomputable def NP(ta:TE)(tr:TA):TA:=fun σ H Q=>ta σ H fun x H1=>tr σ H1 fun xs H2=>Q (x::xs) H2
section
variable {X:Cx} {e:Expr} {es:List Expr} {te:TE} {t:TA} {pos:Pos}
theorem t7:PA X [] NM:=fun _ _ _ _ H Q I h=>Calls.spliced_nil ⟨[],H,I,.nil,h⟩
theorem rN(ha:PE X e te)(hr:PA X es t)(hs:starEach (e::es) X.env=(false,eval e X.env)::starEach es X.env:=by rfl):PA X (e::es) (NP te t):=by
 intro pos Z8 s σ H Q I h;rw[hs];show wpAny _ _ (spliced ((false,eval e X.env)::backTo pos (starEach es X.env))) _ _ s;refine Calls.spliced_cons (fM (ha Z8 s σ H _ I h) fun u s1 fh=>?_);obtain⟨x,H1,I1,r1,q1⟩:=fh;exact fM (hr pos Z8 s1 σ H1 _ I1 q1) fun us s2 fh=>by obtain⟨xs,H2,I2,r2,q2⟩:=fh;exact⟨x::xs,H2,I2,.cons r1 r2,q2⟩
def NL(t:TA):TE:=fun σ H Q=>t σ H fun xs H1=>xs.length<=sizeLine/\∀p,H1 p=none->Q (.ref p) (upd H1 p (.tup xs))
def NK(t:TA):TE:=fun σ H Q=>t σ H fun xs H1=>xs.length<=sizeLine/\∀p,H1 p=none->Q (.ref p) (upd H1 p (.lst xs))
theorem II{x1}(h:PA X es t):PE X (.Tuple es x1 pos) (NL t):=by
 intro Z8 s σ H Q I hq;refine wpAny_Tuple_spliced (fM (h pos Z8 s σ H _ I hq) fun us s1 ⟨xs,H1,I1,r,z,q⟩=>⟨by rw[<-r.length];exact z,?_⟩);have hf:H1 s1.heap.objs.size=none:=I1.fR.fresh (az _);refine⟨.ref s1.heap.objs.size,upd H1 s1.heap.objs.size (.tup xs),I1.laid (t':=s1.toks) (fun b u e=>ao _ e) (az _) ?_,rfl,q _ hf⟩;exact⟨z,us,r,⟨_,aD _ rfl,rfl,_,rfl⟩⟩
theorem Qo(h:PA X es t):PE X (.List es pos) (NK t):=by
 intro Z8 s σ H Q I hq;refine wpAny_List_spliced (fM (h pos Z8 s σ H _ I hq) fun us s1 ⟨xs,H1,I1,r,z,q⟩=>⟨by rw[<-r.length];exact z,?_⟩);have hf:H1 s1.heap.objs.size=none:=I1.fR.fresh (az _);refine⟨.ref s1.heap.objs.size,upd H1 s1.heap.objs.size (.lst xs),I1.laid (t':=s1.toks) (fun b u e=>ao _ e) (az _) ?_,rfl,q _ hf⟩;exact⟨z,us,0,r,aD _ rfl⟩
end
noncomputable abbrev Sp:=List V->Hp->VK->XK->Prop
noncomputable abbrev vh:=List Env->Hp->Shared->XK->Value->Shared->Prop
structure p8 (P:Program) (w:World) (K:Z9) (mg:Str->Option Value) (base:Heap) (A:Around) (outer:List Env) (s:Shared) (H:Hp):Prop where
 frames:A.frames=some outer
 mod:Mod K mg base
 bs:∀b o,base.get? b=some o->s.heap.get? b=some o/\H b=none
 wC:base.objs.size<=s.heap.objs.size
 lQ:s.heap.FunFrames base outer
 xZ:∀b∈tG outer,H b=none
 fR:lA P w H s.heap
 bare:AllBare s.gens
def CE(outer:List Env)(P:Program)(w:World)(H:Hp)(s:Shared)(Q:VK)(u:Value)(s':Shared):Prop:=
 ∃v H',s'.os=s.os/\AllBare s'.gens/\Un (tG outer) [] H H' s.heap s'.heap/\lA P w H' s'.heap/\RelV v u/\Q v H'
def CR(CX:vh)(outer:List Env)(P:Program)(w:World)(H:Hp)(s:Shared)(Q:VK)(E:XK)(r:Result)(s':Shared):Prop:=
 match r with
 | .ok (.ret u)=>CE outer P w H s Q u s'
 | .ok _=>False
 | .error e=>CX outer H s E e s'
structure jT (P:Program) (w:World) (K:Z9) (mg:Str->Option Value) (base:Heap) (CX:vh) (k:Nat) (f:Addr) (fd:FuncData) (ps:List Str) (sp:Sp):Prop where
 len:∀vs H Q E,sp vs H Q E->vs.length=ps.length
 run:∀(A:Around) (outer:List Env) (s:Shared) (H:Hp) (args:Args) (us:List Value) (vs:List V) (Q:VK) (E:XK),gz k A->p8 P w K mg base A outer s H->BindsTo s fd args (ps.zip us)->Vals vs us->sp vs H Q E->
  codeAny (model P w) A (.call (.ref f) args) (CR CX outer P w H s Q E) s
theorem p8.make{P:Program}{w:World}{K:Z9}{mg:Str->Option Value}{base:Heap}{A:Around}{outer:List Env}{s:Shared}{H:Hp}(e:p8 P w K mg base A outer s H)(C:Addr)(us:List Value)(kw:List (Str×Value)) :
  p8 P w K mg base (A.under (.builtin "type.__call__" ⟨.ref C::us,kw⟩)) outer s H:=⟨by first | exact e.frames | (simpa[Around.under,Code.envs,Code.isFrame,pushEnvs] using e.frames),e.mod,e.bs,e.wC,e.lQ,e.xZ,e.fR,e.bare⟩
section
variable {X:Cx} {Z8:List (Addr×Obj)} {σ:St} {H:Hp} {s s':Shared}
theorem Inv.BR(I:Inv X Z8 σ H s):p8 X.prog X.w X.K X.mg X.base X.A X.stack s H:=
 ⟨I.ok.frames,I.ok.mod,I.bs,aH I.ok.wC I.sz,I.stack,I.qv,I.fR,I.bare⟩
theorem Inv.after{Q:VK}{u:Value}(I:Inv X Z8 σ H s)(h:CE X.stack X.prog X.w H s Q u s'):EP X Z8 σ Q u s':=by
 obtain⟨v,H',os,bare,un,fR,r,q⟩:=h;obtain⟨hh,g,d,t,A6⟩:=s';obtain rfl:A6=s.os:=os;exact⟨v,H',I.call (h':=hh) (g':=g) (d':=d) (t':=t) (ch:=[]) un fR bare (fun b z=>absurd z (by simp)),r,q⟩
end
def NO(sp:Sp)(dvs:List V)(E:XK)(t:TA):TE:=fun σ H Q=>t σ H fun vs H1=>sp (vs++dvs) H1 Q E
def Oo(C:Addr)(sp:Sp)(dvs:List V)(E:XK)(t:TA):TE:=fun σ H Q=>t σ H fun vs H1=>∀x dx,H1 x=none->H1 dx=none->dx≠x->
 sp (.ref x::(vs++dvs)) (upd (upd H1 dx (.own x)) x (.ins C dx [])) (fun v H2=>v=.non/\Q (.ref x) H2) E
def Binds(K:Z9)(fd:FuncData)(ps:List Str)(ds:List Value):Prop:=
 ∀(s:Shared) (us:List Value),K.In s.heap->(us++ds).length=ps.length->BindsTo s fd ⟨us,[]⟩ (ps.zip (us++ds))
theorem Binds.all{K:Z9}{fd:FuncData}{ps:List Str}(h:∀us:List Value,us.length=ps.length->bindArgs fd ⟨us,[]⟩=pure (ps.zip us)):Binds K fd ps []:=fun s us _ hl=>by
 rw[bz] at hl ⊢;exact .of_eq (h us hl)
def zO(CX:vh)(X:Cx)(E:XK):Prop:=∀(Z8:List (Addr×Obj)) (σ:St) (H:Hp) (s:Shared) (e:Value) (s':Shared),Inv X Z8 σ H s->CX X.stack H s E e s'->X.xe e s'
section
variable {X:Cx} {CX:vh} {k:Nat} {f C:Addr} {fd:FuncData} {ps:List Str} {sp:Sp} {dvs:List V} {ds:List Value} {E:XK} {x m:Str} {p pos apos:Pos} {e o:Expr} {es:List Expr} {ta:TE} {t:TA}
theorem Qn{Z8:List (Addr×Obj)}{σ:St}{H:Hp}{s:Shared}{Q:VK}{us:List Value}{vs:List V}(F:jT X.prog X.w X.K X.mg X.base CX k f fd ps sp)(hr:gz k X.A)(hb:Binds X.K fd ps ds)(hd:Vals dvs ds)(hx:zO CX X E)
  (I:Inv X Z8 σ H s) (r:Vals vs us) (h:sp (vs++dvs) H Q E):wpAny (model X.prog X.w) X.A (call (.ref f) us) (EP X Z8 σ Q) X.xe s:=by
 have r2:Vals (vs++dvs) (us++ds):=r.append hd;have hl:(us++ds).length=ps.length:=by rw[<-r2.length];exact F.len _ _ _ _ h
 refine wpAny_call (codeAny_mono (F.run X.A X.stack s H ⟨us,[]⟩ (us++ds) (vs++dvs) Q E hr I.BR (hb s us I.oB hl) r2 h) fun r s' hq=>?_);cases r with
 | error e=>exact hx Z8 σ H s e s' I hq
 | ok fl=>
  cases fl with
  | ret u=>exact I.after hq
  | next=>exact False.elim hq
  | brk=>exact False.elim hq
  | cont=>exact False.elim hq
theorem JR(F:jT X.prog X.w X.K X.mg X.base CX k f fd ps sp)(hr:gz k X.A)(hg:Gl X x)(hm:X.mg x=some (.ref f))(hk:PySem.W.keepIn X.K (.ref f)=true)(hb:Binds X.K fd ps ds)(hd:Vals dvs ds)(hx:zO CX X E)
  (ha:PA X (e::es) t) (nM:(x==("__debug__":Str))=false:=by decide) (he:starEach (e::es) X.env=(false,eval e X.env)::starEach es X.env:=by rfl) (kO:(backTo pos (starEach es X.env)).any (·.1)=false:=by rfl) :
  PE X (.Call (.Name x p) (e::es) [] pos) (NO sp dvs E t):=by
 intro Z8 s σ H Q I h;refine dY (ED I hg hm ?_ nM);refine PySem.W.callWith_K (h₀:=X.base) I.ok.mod.y9 hk (fM (ha pos Z8 s σ H _ I h) fun us s1 fh=>?_) he kO;obtain⟨vs,H1,I1,r,q⟩:=fh;refine⟨I1.oB,?_⟩;exact Qn F hr hb hd hx I1 r q
structure Mk (K:Z9) (C f:Addr):Prop where
 makes:PySem.W.makesIn K C=true
 init:PySem.W.findIn K (.ref C) "__init__"=some (some (.ref f))
 fn:PySem.W.isFn K (.ref f)=true
 kp:PySem.W.keepIn K (.ref C)=true
theorem Tb{Z8:List (Addr×Obj)}{σ:St}{H:Hp}{s:Shared}{Q:VK}{us:List Value}{vs:List V}(M:Mk X.K C f)(F:jT X.prog X.w X.K X.mg X.base CX k f fd ps sp)(hr:gz (k+1) X.A)(hb:Binds X.K fd ps ds)(hd:Vals dvs ds)
  (hx:zO CX X E) (I:Inv X Z8 σ H s) (r:Vals vs us)
  (h:∀x dx,H x=none->H dx=none->dx≠x->sp (.ref x::(vs++dvs)) (upd (upd H dx (.own x)) x (.ins C dx [])) (fun v H2=>v=.non/\Q (.ref x) H2) E) :
  wpAny (model X.prog X.w) X.A (call (.ref C) us) (EP X Z8 σ Q) X.xe s:=by
 have hq:=h (s.heap.objs.size+1) s.heap.objs.size (I.fR.fresh (b8 _)) (I.fR.fresh (az _)) (aG (cO _));have I2:=Inv.made (C:=C) I;have r2:Vals (V.ref (s.heap.objs.size+1)::(vs++dvs)) (Value.ref (s.heap.objs.size+1)::(us++ds)):=.cons rfl (r.append hd);have hl:(Value.ref (s.heap.objs.size+1)::us++ds).length=ps.length:=by
  have e:=r2.length;rw[F.len _ _ _ _ hq] at e;exact e.symm
 refine wpAny_call (Tc (f:=f) I.oB M.makes M.init (dX.mp M.fn) (codeAny_mono (F.run _ X.stack _ _ ⟨Value.ref (s.heap.objs.size+1)::us,[]⟩ (Value.ref (s.heap.objs.size+1)::(us++ds)) _ _ E (hr.make C us [])
  (I2.BR.make C us []) (hb _ (Value.ref (s.heap.objs.size+1)::us) I2.oB hl) r2 hq) fun r s' uY=>?_))
 cases r with
 | error e=>exact hx Z8 σ _ _ e s' I2 uY
 | ok fl=>
  cases fl with
  | ret u=>
   obtain⟨v,H',I3,rv,ev,q3⟩:=I2.after uY;subst ev;exact⟨rv,⟨V.ref (s.heap.objs.size+1),H',I3,rfl,q3⟩⟩
  | next=>exact False.elim uY
  | brk=>exact False.elim uY
  | cont=>exact False.elim uY
theorem QH(M:Mk X.K C f)(F:jT X.prog X.w X.K X.mg X.base CX k f fd ps sp)(hr:gz (k+1) X.A)(hg:Gl X x)(hm:X.mg x=some (.ref C))(hb:Binds X.K fd ps ds)(hd:Vals dvs ds)(hx:zO CX X E)
  (ha:PA X (e::es) t) (nM:(x==("__debug__":Str))=false:=by decide) (he:starEach (e::es) X.env=(false,eval e X.env)::starEach es X.env:=by rfl) (kO:(backTo pos (starEach es X.env)).any (·.1)=false:=by rfl) :
  PE X (.Call (.Name x p) (e::es) [] pos) (Oo C sp dvs E t):=by
 intro Z8 s σ H Q I h;refine dY (ED I hg hm ?_ nM);refine PySem.W.callWith_K (h₀:=X.base) I.ok.mod.y9 M.kp (fM (ha pos Z8 s σ H _ I h) fun us s1 fh=>?_) he kO;obtain⟨vs,H1,I1,r,q⟩:=fh;refine⟨I1.oB,?_⟩;exact Tb M F hr hb hd hx I1 r q
end
structure eW (N P:List Str) (sc:Scope):Prop where
 kind:sc.kind=.function
 co:sc.isCoroutine=false
 gen:sc.isGenerator=false
 nd:N.Nodup
 pre:N.take P.length=P
 par:∀x∈P,sc.names.lookup x=some .local\/sc.names.lookup x=some .cell
 xC:∀y∈sc.names,y.2≠.free
theorem KL{kindOf:Str->Option NameKind}{x:Str}:∀{binds:List (Str×Value)} {m:Str->Option Value},(∀v,(x,v)∉binds)->bindL kindOf binds m x=m x
 | [],_,_=>rfl
 | (n,v)::r,m,h=>by
  unfold bindL;rw[KL fun w hw=>h w (aQ _ hw)];split
  ·have:x≠n:=by rintro rfl;exact h v cM
   simp[this]
  ·rfl
theorem KJ{kindOf:Str->Option NameKind}{x:Str}:∀{binds:List (Str×Value)} {m:Str->Option Value},(∀v,(x,v)∉binds)->bindC kindOf binds m x=m x
 | [],_,_=>rfl
 | (n,v)::r,m,h=>by
  unfold bindC;rw[KJ fun w hw=>h w (aQ _ hw)];split
  ·rfl
  ·have:x≠n:=by rintro rfl;exact h v cM
   simp[this]
theorem KI{kindOf:Str->Option NameKind}{x:Str}{v:Value}:∀{P:List Str} {vs:List Value} {i:Nat} {m:Str->Option Value},P.Nodup->P[i]?=some x->vs[i]?=some v->kindOf x=some .local->
  bindL kindOf (P.zip vs) m x=some v
 | [],_,_,_,_,h,_,_=>by simp at h
 | _::_,[],_,_,_,_,h,_=>by simp at h
 | p::P,w::vs,0,m,nd,h1,h2,hk=>by
  simp at h1 h2;subst h1;subst h2;show bindL kindOf ((p,w)::P.zip vs) m p=_;unfold bindL;rw[KL fun v hv=>(bA.mp nd).1 (List.of_mem_zip hv).1,if_pos hk];simp
 | p::P,w::vs,i+1,m,nd,h1,h2,hk=>by
  show bindL kindOf ((p,w)::P.zip vs) m x=_;unfold bindL;exact KI (i:=i) (bA.mp nd).2 (by simpa using h1) (by simpa using h2) hk
theorem KH{kindOf:Str->Option NameKind}{x:Str}{v:Value}:∀{P:List Str} {vs:List Value} {i:Nat} {m:Str->Option Value},P.Nodup->P[i]?=some x->vs[i]?=some v->kindOf x≠some .local->
  bindC kindOf (P.zip vs) m x=some v
 | [],_,_,_,_,h,_,_=>by simp at h
 | _::_,[],_,_,_,_,h,_=>by simp at h
 | p::P,w::vs,0,m,nd,h1,h2,hk=>by
  simp at h1 h2;subst h1;subst h2;show bindC kindOf ((p,w)::P.zip vs) m p=_;unfold bindC;rw[KJ fun v hv=>(bA.mp nd).1 (List.of_mem_zip hv).1,if_neg hk];simp
 | p::P,w::vs,i+1,m,nd,h1,h2,hk=>by
  show bindC kindOf ((p,w)::P.zip vs) m x=_;unfold bindC;exact KH (i:=i) (bA.mp nd).2 (by simpa using h1) (by simpa using h2) hk
noncomputable def mS(N:List Str)(vs:List V):St:=vs.map some++List.replicate (N.length-vs.length) none
noncomputable def rJ(CX:vh)(P:Program)(w:World)(K:Z9)(mg:Str->Option Value)(base:Heap)(N:List Str)(qual:Str)(scope:Scope)(f:Addr)(cd:Value)(A:Around)(outer:List Env)(s:Shared)(H:Hp)(E:XK):Cx where
 prog:=P
 w:=w
 K:=K
 mg:=mg
 base:=base
 A:=A.deeper (envOfC qual scope s.heap.objs.size f cd)
 N:=N
 ir:=s
 tP:=H
 env:=envOfC qual scope s.heap.objs.size f cd
 outer:=outer
 stack:=envOfC qual scope s.heap.objs.size f cd::outer
 ex:=[]
 calm:=true
 fn:=fun _=>true
 pn:=[]
 xe:=fun e s'=>wpAny (model P w) (A.deeper (envOfC qual scope s.heap.objs.size f cd)) (leaving (envOfC qual scope s.heap.objs.size f cd) e) (fun _ Gk=>CX outer H s E e Gk) (fun e' Gk=>CX outer H s E e' Gk) s'
theorem Kd{sc:Scope}{n:Nat}{x:Str}(h:sc.names.lookup x=some .cell):∃c,(cellsFrom n sc.names []).lookup x=some c:=by
 have q:=PySem.W.cellsFrom_some sc.names n [] (.inl h);exact Option.isSome_iff_exists.mp q
theorem UO{CX:vh}{P:Program}{w:World}{K:Z9}{mg:Str->Option Value}{base:Heap}{N ps:List Str}{qual:Str}{scope:Scope}{f:Addr}{cd:Value}{A:Around}{outer:List Env}{s s1:Shared}{H:Hp}{E:XK}{us:List Value}{vs:List V}
  (S:eW N ps scope) (hd:A.handled=none) (e0:p8 P w K mg base A outer s H) (hl:vs.length=ps.length) (r:Vals vs us)
  (x:InCallC s s.heap.objs.size (bindL (envOfC qual scope s.heap.objs.size f cd).kindOf (ps.zip us) fun _=>none) (cellsFrom (s.heap.objs.size+1) scope.names []) (bindC (envOfC qual scope s.heap.objs.size f cd).kindOf (ps.zip us) fun _=>none) s1) :
  Inv (rJ CX P w K mg base N qual scope f cd A outer s H E) [] (mS N vs) H s1:=by
 have kO:ps.length<=N.length:=by have:=et List.length S.pre;rw[aM] at this;omega
 obtain⟨h1,tk,rfl,hk⟩:=x.done;have Bb:∀b:Addr,b∉(rJ CX P w K mg base N qual scope f cd A outer s H E).ex:=fun b z=>absurd (show b∈([]:List Addr) from z) (by simp)
 refine⟨⟨e0.mod,S.kind,rfl,rfl,az _,fun y z c h1 h2=>?_,fun y hy=>?_,fun y c _ h=>?_,fun _=>hd,Around.frames_deeper e0.frames,.inr ⟨rfl,rfl⟩,fun b z=>absurd z (Bb b),e0.bs,e0.wC,fun b _ _=>Bb b,fun b z=>absurd z (Bb b),e0.lQ,e0.xZ⟩,
  rfl,e0.bare,Un.kept hk,⟨_,x.toInCall.ns,fun i y v h1 h2 h3=>?_⟩,fun y c h=>⟨_,x.cell y c h⟩,e0.fR.fresh (az _),fun y c h=>?_,fun p hp=>absurd (show p∈([]:List (Addr×Obj)) from hp) (by simp),e0.fR.kept hk,?_⟩
 ·exact name_of_addr x.apart (cG h1) (cG h2)
 ·have hy:scope.names.lookup y=some .cell\/scope.names.lookup y=some .free:=hy;rcases hy with hy | hy
  ·exact Kd hy
  ·exact absurd rfl (S.xC _ (cG hy))
 ·exact Nat.le_of_lt (x.above y c (cG h))
 ·have hi:i<vs.length:=by
   unfold mS at h2;by_cases hi:i<vs.length
   ·exact hi
   ·rw[List.getElem?_append_right (by simpa using hi)] at h2;rw[List.getElem?_replicate] at h2;split at h2<;>cases h2
  have ha:vs[i]?=some v:=by
   unfold mS at h2;rw[cD (by simpa using hi),aI] at h2;cases e:vs[i]? with
   | none=>rw[e] at h2;cases h2
   | some a=>rw[e] at h2;cases h2;rfl
  obtain⟨u,hu,rv⟩:=r.get ha;have hp:ps[i]?=some y:=by
   rw[<-S.pre,List.getElem?_take_of_lt (by omega)];exact h1
  have L5:ps.Nodup:=by rw[<-S.pre];exact S.nd.sublist (List.take_sublist _ _)
  refine⟨u,rv,?_⟩;rcases S.par y (aV hp) with k | k
  ·exact .inl ⟨k,KI L5 hp hu k⟩
  ·obtain⟨c,e⟩:=Kd (n:=s.heap.objs.size+1) k;refine .inr ⟨.inl k,c,e,?_⟩;have q:=x.cell y c e;rw[KH L5 hp hu (by show scope.names.lookup y≠_;rw[k];decide)] at q;exact q
 ·exact e0.fR.fresh (Nat.le_of_lt (x.above y c (cG h)))
 ·unfold mS;show _=N.length;rw[au,ae,List.length_replicate];omega
theorem Om{CX:vh}{P:Program}{w:World}{K:Z9}{mg:Str->Option Value}{base:Heap}{k:Nat}{f:Addr}{name qual:Str}{params:Arguments}{body:List Stmt}{scope:Scope}{dV kV doc pm fD ct oc:Value}{an od:Option Addr}
  {pK:Array (Option Value)} {N ps:List Str} {sp:Sp} (lk:K.lookup f=some ⟨oc,od,.func (PySem.W.fnOf name qual params body scope dV kV doc pm an fD ct),pK⟩) (iS:PySem.W.codeIn K fD qual=true) (S:eW N ps scope)
  (len:∀vs H Q E,sp vs H Q E->vs.length=ps.length)
  (tE:∀(A:Around) (outer:List Env) (s:Shared) (H:Hp) (vs:List V) (Q:VK) (E:XK),gz k (A.deeper (envOfC qual scope s.heap.objs.size f fD))->sp vs H Q E->
   ∃t,p6 (rJ CX P w K mg base N qual scope f fD A outer s H E) body t/\t { nx:=fun _ H'=>Q .non H',rt:=Q } (mS N vs) H) :
  jT P w K mg base CX (k+1) f (PySem.W.fnOf name qual params body scope dV kV doc pm an fD ct) ps sp:=by
 refine⟨len,fun A outer s H args us vs Q E hr e0 hb r za=>?_⟩;have hl:=len _ _ _ _ za;have KX:K.In s.heap:=e0.mod.y9.keeps fun b o e=>(e0.bs b o e).1
 have lim:s.heap.NoLimit:=e0.mod.nolimit.keeps fun b o e=>(e0.bs b o e).1
 have qH:∀y∈ps.zip us,scope.names.lookup y.1=some .local\/(scope.names.lookup y.1=some .cell/\((cellsFrom (s.heap.objs.size+1) scope.names []).lookup y.1).isSome=true):=fun⟨n,v⟩ hy=>by
  rcases S.par n (List.of_mem_zip hy).1 with q | q
  ·exact .inl q
  ·exact .inr ⟨q,PySem.W.cellsFrom_some _ _ _ (.inl q)⟩
 refine codeAny_call_function hr.depth (KX _ _ lk) rfl S.co S.gen rfl (PySem.W.codeRec_of KX iS) (hb _ _ _ _ ?_);refine wpAny_newFunctionEnv_cells S.kind qH fun env he s1 x=>?_
 subst he;refine⟨lim.keeps x.toInCall.keep,codeAny_func ?_⟩;obtain⟨t,ht,hq⟩:=tE A outer s H vs Q E (hr.deeper _) za;have I:Inv (rJ CX P w K mg base N qual scope f fD A outer s H E) [] (mS N vs) H s1:=UO S hr.hd e0 hl r x;refine cN (ht [] s1 (mS N vs) H _ I hq) (fun fl s' hs=>?_) fun e s' hs=>hs
 have fin:∀{fF:St} {H':Hp} {v:V} {u:Value},Inv (rJ CX P w K mg base N qual scope f fD A outer s H E) [] fF H' s'->RelV v u->Q v H'->CE outer P w H s Q u s':=
  fun{fF H' v u} J rv q=>⟨v,H',J.os,J.bare,J.base,J.fR,rv,q⟩
 cases fl with
 | ret u=>
  obtain⟨v,fF,H',J,rv,q⟩:=hs;exact fin J rv q
 | next=>
  obtain⟨fF,H',J,q⟩:=hs;exact fin (v:=V.non) (u:=Value.none) J rfl q
 | brk=>
  obtain⟨_,_,_,q⟩:=hs;exact False.elim q
 | cont=>
  obtain⟨_,_,_,q⟩:=hs;exact False.elim q
section
variable {X:Cx} {x:Str} {p pos:Pos} {e:Expr} {es:List Expr} {t:TA} {id T:String} {r:List V->Hp->VK->Prop}
def Gg(r:List V->Hp->VK->Prop)(t:TA):TE:=fun σ H Q=>t σ H fun vs H1=>r vs H1 Q
theorem CY(hc:fO X (.builtin id) r)(hg:Gl X x)(hm:X.mg x=none)(hv:bootBuiltins x=some (.builtin id))(ha:PA X (e::es) t)(hn:x≠"__name__":=by decide)(nM:(x==("__debug__":Str))=false:=by decide)
  (he:starEach (e::es) X.env=(false,eval e X.env)::starEach es X.env:=by rfl) (kO:(backTo pos (starEach es X.env)).any (·.1)=false:=by rfl):PE X (.Call (.Name x p) (e::es) [] pos) (Gg r t):=by
 intro Z8 s σ H Q I h;refine dY (vJ I hg hm hv ?_ hn nM);exact PyProof.Rows.callWith_builtin1 (fM (ha pos Z8 s σ H _ I h) fun us s1 fh=>by obtain⟨vs,H1,I1,r1,q1⟩:=fh;exact hc Z8 s1 σ H1 vs us Q I1 r1 q1) he kO
theorem Ak(hc:fO X (.type T) r)(hg:Gl X x)(hm:X.mg x=none)(hv:bootBuiltins x=some (.type T))(ha:PA X (e::es) t)(hn:x≠"__name__":=by decide)(nM:(x==("__debug__":Str))=false:=by decide)
  (he:starEach (e::es) X.env=(false,eval e X.env)::starEach es X.env:=by rfl) (kO:(backTo pos (starEach es X.env)).any (·.1)=false:=by rfl):PE X (.Call (.Name x p) (e::es) [] pos) (Gg r t):=by
 intro Z8 s σ H Q I h;refine dY (vJ I hg hm hv ?_ hn nM);exact cT (fM (ha pos Z8 s σ H _ I h) fun us s1 fh=>by obtain⟨vs,H1,I1,r1,q1⟩:=fh;exact hc Z8 s1 σ H1 vs us Q I1 r1 q1) he kO
end
end L2
namespace HT
open PySem PyProof.Rows
noncomputable def lexLt:List Int->List Int->Bool
 | [],[]=>false
 | [],_::_=>true
 | _::_,[]=>false
 | x::xs,y::ys=>if x=y then lexLt xs ys else decide (x<y)
theorem pT(x y:Int)(xs ys:List Int):lexLt (x::xs) (y::ys)=if x=y then lexLt xs ys else decide (x<y):=rfl
theorem sO(A:Around)(s:Shared)(a:Int)(t:Tok)(c:Int)(u:Tok)(prog:Program)(w:World)(E:Value->Shared->Prop)(Q:Value->Shared->Prop)(h:Q (.bool (decide (a<c))) s) :
  wpAny (model prog w) A (richCompare .Lt (.int a t) (.int c u)) Q E s:=
 (PyProof.Rows.lt_int h:wpAny (model prog w) A (compareOp .Lt (.int a t) (.int c u)) Q E s)
section
variable {prog:Program} {w:World} {A:Around} {E:Value->Shared->Prop} {s:Shared}
noncomputable def gv(n d:Nat):Option Int->Nat
 | none=>d
 | some v=>if v<0 then(v+(n:Int)).toNat else min v.toNat n
theorem k8(n d:Nat)(hd:d<=n)(o:Option Int):gv n d o<=n:=by
 cases o with
 | none=>exact hd
 | some v=>
  show(if v<0 then(v+(n:Int)).toNat else min v.toNat n)<=n;by_cases hv:v<0
  ·rw[if_pos hv];omega
  ·rw[if_neg hv];exact Nat.min_le_right _ _
theorem nU(v:Int)(n d:Nat):(if v<0 then max (v+(n:Int)) 0 else min v (n:Int))=((gv n d (some v):Nat):Int):=by
 show(if v<0 then max (v+(n:Int)) 0 else min v (n:Int))=(((if v<0 then(v+(n:Int)).toNat else min v.toNat n):Nat):Int)
 by_cases hv:v<0
 ·simp only[if_pos hv];omega
 ·simp only[if_neg hv];omega
theorem U2(lo hi:Option Int)(n:Nat):Builtin.Slice.sliceAdjust lo hi 1 (n:Int)=(((gv n 0 lo:Nat):Int),((gv n n hi:Nat):Int)):=by
 have h1:¬((1:Int)<0):=by omega
 unfold Builtin.Slice.sliceAdjust;simp only[h1,aJ];refine Prod.ext ?_ ?_
 ·cases lo with
  | none=>rfl
  | some v=>exact nU v n 0
 ·cases hi with
  | none=>rfl
  | some v=>exact nU v n n
theorem U1(i j:Nat):Builtin.Slice.slicePlaces (i:Int) (j:Int) 1=j-i:=by
 unfold Builtin.Slice.slicePlaces;have h1:(1:Int)>0:=by omega
 simp only[h1,aR,Int.ediv_one];split<;>omega
theorem Ln{v:Value}{o:Option Int}{Q:Option Int->Shared->Prop}(p:IsPart v o)(h:Q o s):wpAny (model prog w) A (Builtin.Slice.slicePartIndex v) Q E s:=by
 cases p with
 | none=>exact slicePart_none h
 | int i t=>exact slicePart_int h
theorem WE{sl:Addr}{vl vu:Value}{lo hi:Option Int}{n:Nat}{Q:Int×Int×Nat->Shared->Prop}(hs:s.heap.IsSliceOf sl vl vu .none)(pl:IsPart vl lo)(pu:IsPart vu hi)
  (h:Q (((gv n 0 lo:Nat):Int),1,gv n n hi-gv n 0 lo) s):wpAny (model prog w) A (Builtin.Slice.sliceApplied (.ref sl) (pure (n:Int))) Q E s:=by
 obtain⟨os,Bo,Dy,zh⟩:=id hs;unfold Builtin.Slice.sliceApplied Builtin.Slice.sliceFields;refine aa (aa (wpAny_field Bo zh (x:=vl) rfl (aa (wpAny_field Bo zh (x:=vu) rfl (aa (wpAny_field Bo zh (x:=.none) rfl (aq ?_)))))));refine aa (slicePart_none ?_);show wpAny _ _ (if ((1:Int)==0)=true then _ else _) _ _ s;rw[if_neg (by decide)];refine aa (Ln pl (aa (Ln pu (aa (aq ?_)))));show wpAny _ _ (match Builtin.Slice.sliceAdjust lo hi 1 (n:Int) with | (lo,hi)=>pure (lo,(1:Int),Builtin.Slice.slicePlaces lo hi 1)) _ _ s;rw[U2 lo hi n];show wpAny _ _ (pure (((gv n 0 lo:Nat):Int),(1:Int),Builtin.Slice.slicePlaces ((gv n 0 lo:Nat):Int) ((gv n n hi:Nat):Int) 1)) _ _ s;rw[U1];exact aq h
theorem Ta(xs:Array Value)(i k:Nat):((List.range k).filterMap fun(m:Nat)=>xs[((i:Int)+(m:Int)*1).toNat]?).toArray=((xs.toList.drop i).take k).toArray:=by
 have e:(fun(m:Nat)=>xs[((i:Int)+(m:Int)*1).toNat]?)=fun m=>xs[i+m]?:=by
  funext m
  have:((i:Int)+(m:Int)*1).toNat=i+m:=by omega
  rw[this]
 rw[e];have:=pick_run xs i k;rw[List.filterMap_map] at this;have e2:((fun x=>xs[x]?)∘fun x=>i+x)=fun m=>xs[i+m]?:=rfl
 rw[e2] at this;rw[this]
theorem kQ{t sl:Addr}{items:Array Value}{vl vu:Value}{lo hi:Option Int}{Q:Value->Shared->Prop}(ht:IsTup s.heap t items)(hs:s.heap.IsSliceOf sl vl vu .none)(pl:IsPart vl lo)(pu:IsPart vu hi)
  (hw:¬(gv items.size 0 lo=0/\gv items.size items.size hi=items.size))
  (h:Q (.ref s.heap.objs.size) { s with heap:=s.heap.push { cls:=.type "tuple",data:=.seq ((items.toList.drop (gv items.size 0 lo)).take (gv items.size items.size hi-gv items.size 0 lo)).toArray } })
  (hsz:items.size<=sizeLine):wpAny (model prog w) A (getItem (.ref t) (.ref sl)) Q E s:=by
 have qE:sizeOk (.seq ((items.toList.drop (gv items.size 0 lo)).take (gv items.size items.size hi-gv items.size 0 lo)).toArray):=by
  show((items.toList.drop (gv items.size 0 lo)).take (gv items.size items.size hi-gv items.size 0 lo)).toArray.size<=sizeLine;rw[aw,aM,bC,ah];omega
 have hj:gv items.size items.size hi<=items.size:=k8 _ _ (az _) hi;obtain⟨os,Bo,Dy,zh⟩:=id hs;have Y3:s.TypeIs (.ref sl) "slice":=⟨os,Bo,Dy⟩
 unfold getItem;try with_reducible refine bL ?_
 first | refine aa (aq ?_) | skip
 refine aa (wpAny_sequenceKey ht.typeIs (by decide) ?_);refine aa (wpAny_callSpecial?_slot (name:=Str.ofString "__getitem__") ht.typeIs PyProof.Rows.slot_tuple_getitem
  (dR PyProof.Rows.slot_tuple_getitem ht.typeIs entry_tuple_getitem ?_ (args_tuple_getitem _ _)))
 show wpAny _ _ (Builtin.Tuple.tupleItemsOf (.ref t) >>= _) _ _ s;refine aa (tupleItemsOf_ ht ?_);refine aa (wpAny_typeOf Y3 ?_);rw[if_pos (by decide)];refine aa (WE hs pl pu ?_);have rj:¬((((gv items.size 0 lo:Nat):Int)==0&&(1:Int)==1&&(gv items.size items.size hi-gv items.size 0 lo)==items.size)=true):=by
  intro q;rw[cg,cg] at q;have q1:((gv items.size 0 lo:Nat):Int)=0:=eq_of_beq q.1.1;have q2:gv items.size items.size hi-gv items.size 0 lo=items.size:=eq_of_beq q.2;exact hw ⟨by omega,by omega⟩
 show wpAny _ _ (if (((gv items.size 0 lo:Nat):Int)==0&&(1:Int)==1&&(gv items.size items.size hi-gv items.size 0 lo)==items.size)=true then _ else _) _ _ s;rw[if_neg rj,Ta];first
  | exact aa (m:=Builtin.Tuple.tupleExact _) (cJ (aq ⟨_,rfl,aq h⟩) qE)
  | exact aa (m:=Builtin.Tuple.tupleExact _) (cJ (aa (aq (aq ⟨_,rfl,aq h⟩))) qE)
  | exact aa (aa (m:=Builtin.Tuple.tupleExact _) (cJ (aq (aq ⟨_,rfl,aq h⟩)) qE))
  | exact aa (aa (m:=Builtin.Tuple.tupleExact _) (cJ (aq ⟨_,rfl,aq h⟩) qE))
end
end HT
namespace L2
open PySem PySem.Spec PyProof.Rows
noncomputable abbrev TO:=St->Hp->(Option Int->Hp->Prop)->Prop
def PO(X:Cx)(e:Option Expr)(t:TO):Prop:=
 ∀(Z8:List (Addr×Obj)) (s:Shared) (σ:St) (H:Hp) (Q:Option Int->Hp->Prop),Inv X Z8 σ H s->t σ H Q->
  wpAny (model X.prog X.w) X.A (evalPart e X.env) (fun u s'=>∃o H',Inv X Z8 σ H' s'/\IsPart u o/\Q o H') X.xe s
noncomputable def QG:TO:=fun _ H Q=>Q none H
noncomputable def Ol(t:TE):TO:=fun σ H Q=>t σ H fun x H1=>∃i,x=.int i/\Q (some i) H1
theorem yN{ns:List Int}:∀{us:List Value},Vals (ns.map V.int) us->IntsAre us ns:=by
 induction ns with
 | nil=>intro us r;rw[cy] at r;cases r;exact .nil
 | cons n ns ih=>
  intro us r;rw[aA] at r;cases r with
  | cons r1 r2=>
   obtain⟨t,e⟩:=r1;subst e;exact .cons n t (ih r2)
section
variable {X:Cx} {e:Expr} {te:TE} {lo hi:Option Expr} {tl th:TO} {pos p2:Pos}
theorem QF:PO X none QG:=by
 intro Z8 s σ H Q I h;rw[evalPart_none];exact aq ⟨none,H,I,.none,h⟩
theorem QE(h:PE X e te):PO X (some e) (Ol te):=by
 intro Z8 s σ H Q I hw;rw[evalPart_some];refine fM (h Z8 s σ H _ I hw) fun u s1 fh=>?_
 obtain⟨x,H1,I1,r1,q1⟩:=fh;obtain⟨i,rfl,q⟩:=q1;obtain⟨t,rfl⟩:=r1;exact⟨some i,H1,I1,.int i t,q⟩
def wD(X:Cx)(r:V->Option Int->Option Int->Hp->VK->Prop):Prop:=
 ∀(Z8:List (Addr×Obj)) (s:Shared) (σ:St) (H:Hp) (x:V) (v vl vu:Value) (lo hi:Option Int) (sl:Addr) (Q:VK),Inv X Z8 σ H s->RelV x v->s.heap.IsSliceOf sl vl vu .none->IsPart vl lo->IsPart vu hi->r x lo hi H Q->
  ∃T id,typeLookup (.type T) "__getitem__"=pure (some (.builtin id))/\s.TypeIs v T/\wpAny (model X.prog X.w) X.A (getItem v (.ref sl)) (EP X Z8 σ Q) X.xe s
theorem wD.or{r r':V->Option Int->Option Int->Hp->VK->Prop}(h:wD X r)(h':wD X r'):wD X (fun x lo hi H Q=>r x lo hi H Q\/r' x lo hi H Q):=by
 intro Z8 s σ H x v vl vu lo hi sl Q I rx hs pl pu q;rcases q with q | q
 ·exact h Z8 s σ H x v vl vu lo hi sl Q I rx hs pl pu q
 ·exact h' Z8 s σ H x v vl vu lo hi sl Q I rx hs pl pu q
def XC(r:V->Option Int->Option Int->Hp->VK->Prop)(te:TE)(tl th:TO):TE:=fun σ H Q=>te σ H fun x H1=>tl σ H1 fun l H2=>th σ H2 fun u H3=>r x l u H3 Q
theorem S9{r:V->Option Int->Option Int->Hp->VK->Prop}(hr:wD X r)(he:PE X e te)(hl:PO X lo tl)(hu:PO X hi th):PE X (.Subscript e (.Slice lo hi none p2) pos) (XC r te tl th):=by
 intro Z8 s σ H Q I h;refine Subscript_ (fM (he Z8 s σ H _ I h) fun v s1 fh=>?_);obtain⟨x,H1,I1,r1,q1⟩:=fh;refine wpAny_Slice (fM (hl Z8 s1 σ H1 _ I1 q1) fun vl s2 fh=>?_);obtain⟨l,H2,I2,pl,q2⟩:=fh;refine fM (hu Z8 s2 σ H2 _ I2 q2) fun vu s3 fh=>?_
 obtain⟨u,H3,I3,pu,q3⟩:=fh;rw[evalPart_none];refine aq ?_;have I4:Inv X Z8 σ H3 { s3 with heap:=s3.heap.push { cls:=.type "slice",data:=.fields #[vl,vu,.none] } }:=I3.kept (t':=s3.toks) fun b ob q=>ao _ q
 obtain⟨T,id,hT,ht,hg⟩:=hr Z8 { s3 with heap:=s3.heap.push { cls:=.type "slice",data:=.fields #[vl,vu,.none] } } σ H3 x v vl vu l u s3.heap.objs.size Q I4 r1 (Heap.IsSliceOf.new ..) pl pu q3;show wpAny (model X.prog X.w) X.A (subscriptTail e (.Slice lo hi none p2) v (.ref s3.heap.objs.size)) (EP X Z8 σ Q) X.xe { s3 with heap:=s3.heap.push { cls:=.type "slice",data:=.fields #[vl,vu,.none] } };exact tail_any (ops:=[.ref s3.heap.objs.size,v]) ht hT hg (by with_unfolding_all rfl)
noncomputable def tW(xs:List V)(lo hi:Option Int):List V:=(xs.drop (HT.gv xs.length 0 lo)).take (HT.gv xs.length xs.length hi-HT.gv xs.length 0 lo)
theorem Ly(xs:List V)(lo hi:Option Int):(tW xs lo hi).length<=xs.length:=by
 unfold tW;rw[aM,bC];omega
def NJ(K:Z9):V->Option Int->Option Int->Hp->VK->Prop:=fun x lo hi H Q=>∃a xs,x=.ref a/\iK K H a xs/\
 ¬(HT.gv xs.length 0 lo=0/\HT.gv xs.length xs.length hi=xs.length)/\∀p,H p=none->Q (.ref p) (upd H p (.tup (tW xs lo hi)))
theorem Qm:wD X (NJ X.K):=by
 intro Z8 s σ H x v vl vu lo hi sl Q I rx hs pl pu h;obtain⟨a,xs,rfl,hx,hw,q⟩:=h;cases rx;obtain⟨its,r,ht,hz⟩:=I.tuple hx;have hlen:its.toArray.size=xs.length:=by rw[aw];exact r.length.symm
 refine⟨"tuple",_,PyProof.Rows.slot_tuple_getitem.lookup,ht.typeIs,?_⟩;refine HT.kQ ht hs pl pu (by rw[hlen];exact hw) ?_ (by rw[hlen];exact hz);rw[hlen];refine⟨.ref s.heap.objs.size,_,I.laid (t':=s.toks) (o:=.tup (tW xs lo hi)) (fun b ob q=>ao _ q) (az _) ?_,rfl,q _ (I.fR.fresh (az _))⟩;exact⟨aH (Ly xs lo hi) hz,_,(r.drop (HT.gv xs.length 0 lo)).take (HT.gv xs.length xs.length hi-HT.gv xs.length 0 lo),IsTup.new _ _⟩
end
noncomputable def qD(n:Nat)(i:Int):Option Nat:=if 0<=i then(if i<n then some i.toNat else none) else if -(n:Int)<=i then some (i+n).toNat else none
noncomputable def iu{α:Type}(xs:List α)(i:Int):Option α:=(qD xs.length i).bind fun j=>xs[j]?
theorem JQ{n:Nat}{i:Int}{j:Nat}(h:qD n i=some j):seqIndex? i n=some j/\j<n/\-(n:Int)<=i/\i<n:=by
 unfold qD at h;by_cases h0:0<=i
 ·rw[if_pos h0] at h;by_cases h1:i<n
  ·rw[if_pos h1] at h;have e:i.toNat=j:=cL h;exact⟨by rw[seqIndex_of h0 h1,e],by omega,by omega,h1⟩
  ·rw[if_neg h1] at h;cases h
 ·rw[if_neg h0] at h;by_cases h1:-(n:Int)<=i
  ·rw[if_pos h1] at h;have e:(i+n).toNat=j:=cL h;exact⟨by rw[seqIndex_neg (by omega) h1,e],by omega,h1,by omega⟩
  ·rw[if_neg h1] at h;cases h
theorem yG{α:Type}{xs:List α}{i:Int}{v:α}(h:iu xs i=some v):∃j,seqIndex? i xs.length=some j/\xs[j]?=some v/\j<xs.length/\-(xs.length:Int)<=i/\i<xs.length:=by
 unfold iu at h;cases e:qD xs.length i with
 | none=>rw[e] at h;cases h
 | some j=>
  rw[e] at h;obtain⟨h1,h2,h3,h4⟩:=JQ e;exact⟨j,h1,h,h2,h3,h4⟩
def CM(b:Expr):Prop:=∀o i,subscripted b false o i=operate [o,i] (getItem o i)
def vg(X:Cx)(r:R2):Prop:=
 ∀(value slice:Expr) (Z8:List (Addr×Obj)) (s:Shared) (σ:St) (H:Hp) (x y:V) (v u:Value) (Q:VK),Inv X Z8 σ H s->RelV x v->RelV y u->r x y H Q->
  subscripted slice false v u=operate [v,u] (getItem v u)->wpAny (model X.prog X.w) X.A (subscriptTail value slice v u) (EP X Z8 σ Q) X.xe s
def HN(X:Cx)(id:String)(r:V->List V->Hp->VK->Prop):Prop:=
 ∀(Z8:List (Addr×Obj)) (s:Shared) (σ:St) (H:Hp) (x:V) (xs:List V) (v:Value) (us:List Value) (Q:VK),Inv X Z8 σ H s->RelV x v->Vals xs us->r x xs H Q->
  wpAny (model X.prog X.w) X.A (call (.builtin id) (v::us)) (EP X Z8 σ Q) X.xe s
section
variable {X:Cx} {a b:Expr} {ta tb:TE} {pos:Pos}
theorem vg.or{r r':R2}(h:vg X r)(h':vg X r'):vg X (fun x y H Q=>r x y H Q\/r' x y H Q):=by
 intro value slice Z8 s σ H x y v u Q I rx ry q hs;rcases q with q | q
 ·exact h value slice Z8 s σ H x y v u Q I rx ry q hs
 ·exact h' value slice Z8 s σ H x y v u Q I rx ry q hs
theorem Cn{r:R2}(hr:vg X r)(ha:PE X a ta)(hb:PE X b tb)(hs:CM b):PE X (.Subscript a b pos) (A0 r ta tb):=by
 intro Z8 s σ H Q I h;exact Subscript_ (DW ha hb I h fun v u s2 x y H2 I2 rx ry q=>hr a b Z8 s2 σ H2 x y v u Q I2 rx ry q (hs _ _))
def Ik(K:Z9):R2:=fun x y H Q=>∃p xs i v,x=.ref p/\y=.int i/\gT K H p xs/\iu xs i=some v/\Q v H
def Ij(K:Z9):R2:=fun x y H Q=>∃p xs i v,x=.ref p/\y=.int i/\iK K H p xs/\iu xs i=some v/\Q v H
def Ii:R2:=fun x y H Q=>∃z i c,x=.str z/\y=.int i/\z.length<=sizeLine/\iu z.cps.toList i=some c/\Q (.str ⟨#[c]⟩) H
theorem qC:vg X (Ik X.K):=by
 intro value slice Z8 s σ H x y v u Q I rx ry h hs;obtain⟨p,xs,i,z,rfl,rfl,hq,he,q⟩:=h;cases rx;obtain⟨t,rfl⟩:=ry;obtain⟨its,r,pl,hz⟩:=I.list hq;obtain⟨j,h1,h2,h3,h4,h5⟩:=yG he;obtain⟨w,ew,pJ⟩:=r.get h2;have hl:=r.length;have hn:=yA;have fin:EP X Z8 σ Q w s:=⟨z,H,I,pJ,q⟩
 by_cases h0:0<=i
 ·have hj:i.toNat=j:=by
   rw[seqIndex_of h0 h5] at h1;exact cL h1
  exact item_listR pl.isList h0 (by omega) (by rw[hj];simpa using ew) fin hs
 ·have hj:(i+(its.toArray.size:Int)).toNat=j:=by
   rw[seqIndex_neg (by omega) h4] at h1;rw[aw,<-hl];exact cL h1
  exact subscriptTail_builtinR (x:=w) pl.isList.typeIs slot_list_getitem.lookup
   (wpAny_getItem_list_neg (Q:=fun r s'=>r=w/\EP X Z8 σ Q r s') pl.isList (by omega) (by rw[aw]<;>omega) (by omega) (by rw[hj];simpa using ew) ⟨rfl,fin⟩) hs
theorem sT:vg X (Ij X.K):=by
 intro value slice Z8 s σ H x y v u Q I rx ry h hs;obtain⟨p,xs,i,z,rfl,rfl,hq,he,q⟩:=h;cases rx;obtain⟨t,rfl⟩:=ry;obtain⟨its,r,pl,hz⟩:=I.tuple hq;obtain⟨j,h1,h2,h3,h4,h5⟩:=yG he;obtain⟨w,ew,pJ⟩:=r.get h2;have hl:=r.length;have hn:=yA;have fin:EP X Z8 σ Q w s:=⟨z,H,I,pJ,q⟩
 exact subscriptTail_builtinR (x:=w) pl.typeIs slot_tuple_getitem.lookup
  (getItem_tuple (j:=j) (Q:=fun r s'=>r=w/\EP X Z8 σ Q r s') pl (by omega) (by omega) (by rw[aw,<-hl];exact h1) (by simpa using ew) ⟨rfl,fin⟩) hs
theorem Ql:vg X Ii:=by
 intro value slice Z8 s σ H x y v u Q I rx ry h hs;obtain⟨z,i,c,rfl,rfl,hz,he,q⟩:=h;obtain⟨t,rfl⟩:=rx;obtain⟨t',rfl⟩:=ry;obtain⟨j,h1,h2,h3,h4,h5⟩:=yG he;have hl:z.cps.toList.length=z.length:=by simp[Str.length]
 rw[hl] at h1 h4 h5;have hn:=yA
 exact tail_any (typeIs_str s z t) slot_str_getitem.lookup (getItem_str (c:=c) (by
  have e1:decide (i < -(2 ^ 63:Int))=false:=ba (by omega);have e2:decide (i>=2 ^ 63)=false:=ba (by omega)
  rw[e1,e2,Bool.or_false]) (by rw[h1];simpa using h2) ⟨.str ⟨#[c]⟩,H,I.tok _,⟨_,rfl⟩,q⟩) hs
def LV(K:Z9):R2:=fun x y H Q=>Ik K x y H Q\/Ij K x y H Q\/Ii x y H Q
theorem IH:vg X (LV X.K):=qC.or (sT.or Ql)
theorem U0(its:List Value)(n j:Nat)(u:Value):Obj.mapSeq (·.setIfInBounds j u) { cls:=.type "list",data:=.seq its.toArray n }={ cls:=.type "list",data:=.seq (its.set j u).toArray n }:=by
 simp[Obj.mapSeq]
theorem Inv.lst{Z8:List (Addr×Obj)}{σ:St}{H:Hp}{s:Shared}{p:Addr}{xs:List V}(I:Inv X Z8 σ H s)(h:H p=some (.lst xs)) :
  ∃(its:List Value) (n:Nat),Vals xs its/\s.heap.get? p=some { cls:=.type "list",data:=.seq its.toArray n }/\xs.length<=sizeLine:=by
 obtain⟨z,its,n,r,e⟩:=I.fR p _ h;exact⟨its,n,r,e,z⟩
theorem Inv.xF{Z8:List (Addr×Obj)}{σ:St}{H:Hp}{s:Shared}{p:Addr}{xs ys:List V}{its its':List Value}{n n':Nat}{f:Obj->Obj}(I:Inv X Z8 σ H s)(h:H p=some (.lst xs))
  (ho:s.heap.get? p=some { cls:=.type "list",data:=.seq its.toArray n }) (hf:f { cls:=.type "list",data:=.seq its.toArray n }={ cls:=.type "list",data:=.seq its'.toArray n' }) (r:Vals ys its') (hz:ys.length<=sizeLine) (t:Nat) :
  Inv X Z8 σ (upd H p (.lst ys)) { s with heap:=s.heap.update p f,toks:=t }:=by
 have e:(s.heap.update p f).get? p=some { cls:=.type "list",data:=.seq its'.toArray n' }:=by
  rw[Heap.get?_update_self f ho (by rw[hf]<;>rfl),hf]
 refine I.write (x:=p) (e:=p) (by rw[h];trivial) (.inl rfl) (fun b u hb q=>(cz _ _ (Ne.symm hb)).trans q) ⟨_,e⟩ ?_;exact⟨hz,its',n',r,e⟩
def Oj:V->V->V->Hp->(Hp->Prop)->Prop:=fun o i v H Q=>∃p xs k j,o=.ref p/\i=.int k/\H p=some (.lst xs)/\qD xs.length k=some j/\Q (upd H p (.lst (xs.set j v)))
theorem R3:Im X Oj:=by
 intro Z8 s σ H o i v ov iv u Q I ro ri rv h;obtain⟨p,xs,k,j,rfl,rfl,hp,hj,q⟩:=h;cases ro;obtain⟨t,rfl⟩:=ri;obtain⟨its,n,r,ho,hz⟩:=I.lst hp;obtain⟨h1,h2,h3,h4⟩:=JQ hj;have hl:=r.length;have hn:=yA;have I':Inv X Z8 σ (upd H p (.lst (xs.set j v))) { s with heap:=s.heap.update p (Obj.mapSeq (·.setIfInBounds j u)) }:=
  I.xF hp ho (U0 its n j u) (r.set rv j) (by rw[List.length_set];exact hz) s.toks
 by_cases h0:0<=k
 ·have hk:k.toNat=j:=by
   rw[seqIndex_of h0 h4] at h1;exact cL h1
  exact PySem.W.ki_setAt ho h0 (by omega) (by rw[aw,<-hl];exact h4) (by rw[hk];exact⟨_,I',q⟩)
 ·have hk:(k+(its.toArray.size:Int)).toNat=j:=by
   rw[seqIndex_neg (by omega) h3] at h1;rw[aw,<-hl];exact cL h1
  exact PySem.W.ki_setBack ho (by omega) (by rw[aw,<-hl];exact h3) (by omega) (by rw[hk];exact⟨_,I',q⟩)
theorem VI(lo hi:Option Int)(n:Nat):(sliceBounds lo hi none n).1=((HT.gv n 0 lo:Nat):Int)/\(sliceBounds lo hi none n).2.1=((HT.gv n n hi:Nat):Int)/\(sliceBounds lo hi none n).2.2=1:=by
 refine⟨?_,?_,rfl⟩
 ·cases lo with
  | none=>simp[sliceBounds,HT.gv]
  | some i=>
   simp only[sliceBounds,HT.gv,Option.getD_none,show(1:Int)>0 by decide,aR];by_cases h:i<0
   ·simp only[h,aR]<;>omega
   ·simp only[h,aJ]<;>omega
 ·cases hi with
  | none=>simp[sliceBounds,HT.gv]
  | some i=>
   simp only[sliceBounds,HT.gv,Option.getD_none,show(1:Int)>0 by decide,aR];by_cases h:i<0
   ·simp only[h,aR]<;>omega
   ·simp only[h,aJ]<;>omega
theorem VV(its:List Value)(lo hi:Option Int):slicePick its.toArray lo hi none=((its.drop (HT.gv its.length 0 lo)).take (HT.gv its.length its.length hi-HT.gv its.length 0 lo)).toArray:=by
 obtain⟨h1,h2,h3⟩:=VI lo hi its.toArray.size;unfold slicePick;rw[h1,h2,h3];simp only[sliceRange_one,pick_run,aw]<;>rfl
def NI(K:Z9):V->Option Int->Option Int->Hp->VK->Prop:=fun x lo hi H Q=>∃a xs,x=.ref a/\gT K H a xs/\∀p,H p=none->Q (.ref p) (upd H p (.lst (tW xs lo hi)))
theorem uP:wD X (NI X.K):=by
 intro Z8 s σ H x v vl vu lo hi sl Q I rx hs pl pu h;obtain⟨a,xs,rfl,hx,q⟩:=h;cases rx;obtain⟨its,r,ht,hz⟩:=I.list hx;have hlen:=r.length;refine⟨"list",_,slot_list_getitem.lookup,ht.isList.typeIs,?_⟩;refine wpAny_getItem_list_slice ht.isList hs pl pu .none (by simp) ?_ (by rw[aw]<;>omega);rw[VV,<-hlen];refine⟨.ref s.heap.objs.size,_,I.laid (t':=s.toks) (o:=.lst (tW xs lo hi)) (fun b ob q=>ao _ q) (az _) ?_,rfl,q _ (I.fR.fresh (az _))⟩;exact⟨aH (Ly xs lo hi) hz,_,0,(r.drop (HT.gv xs.length 0 lo)).take (HT.gv xs.length xs.length hi-HT.gv xs.length 0 lo),aD _ rfl⟩
noncomputable def Ci:V->Bool
 | .non=>true
 | .bl _=>true
 | .int _=>true
 | .str _=>true
 | _=>false
noncomputable def HH:V->V->Bool
 | .non,.non=>true
 | .bl a,.bl b=>a==b
 | .bl a,.int b=>(if a then 1 else 0)==b
 | .int a,.bl b=>a==(if b then 1 else 0)
 | .int a,.int b=>a==b
 | .str a,.str b=>a==b
 | _,_=>false
theorem IG{A:Around}{s:Shared}{y x:V}{u v:Value}(ry:RelV y u)(rx:RelV x v)(fy:Ci y=true)(fx:Ci x=true):SeqAt.EqAt A s u v (HH y x):=by
 cases y with
 | non=>
  cases ry;cases x with
  | non=>cases rx;exact SeqAt.EqAt.same _
  | bl b=>cases rx;exact SeqAt.EqAt.none_bool b
  | int b=>obtain⟨t,rfl⟩:=rx;exact SeqAt.EqAt.none_int b t
  | str b=>obtain⟨t,rfl⟩:=rx;exact SeqAt.EqAt.none_str b t
  | _=>exact absurd (show false=true from fx) aO
 | bl a=>
  cases ry;cases x with
  | non=>cases rx;exact SeqAt.EqAt.bool_none a
  | bl b=>cases rx;exact SeqAt.EqAt.bool_bool a b
  | int b=>obtain⟨t,rfl⟩:=rx;exact SeqAt.EqAt.bool_int a b t
  | str b=>obtain⟨t,rfl⟩:=rx;exact SeqAt.EqAt.bool_str a b t
  | _=>exact absurd (show false=true from fx) aO
 | int a=>
  obtain⟨t',rfl⟩:=ry;cases x with
  | non=>cases rx;exact SeqAt.EqAt.int_none a t'
  | bl b=>cases rx;exact SeqAt.EqAt.int_bool a t' b
  | int b=>obtain⟨t,rfl⟩:=rx;exact SeqAt.EqAt.int_int a t' b t
  | str b=>obtain⟨t,rfl⟩:=rx;exact SeqAt.EqAt.int_str a t' b t
  | _=>exact absurd (show false=true from fx) aO
 | str a=>
  obtain⟨t',rfl⟩:=ry;cases x with
  | non=>cases rx;exact SeqAt.EqAt.str_none a t'
  | bl b=>cases rx;exact SeqAt.EqAt.str_bool a t' b
  | int b=>obtain⟨t,rfl⟩:=rx;exact SeqAt.EqAt.str_int a t' b t
  | str b=>obtain⟨t,rfl⟩:=rx;exact SeqAt.EqAt.str_str a t' b t
  | _=>exact absurd (show false=true from fx) aO
 | _=>exact absurd (show false=true from fy) aO
theorem nI:i3 X (compareOp .NotIn) (fun x y H Q=>∃i j,x=.str i/\y=.str j/\Q (.bl (!(!(Builtin.Str.occurrences j i 0 j.length 1).isEmpty))) H):=by
 intro Z8 s σ H x y v u Q I rx ry h;obtain⟨i,j,rfl,rfl,q⟩:=h;obtain⟨t,rfl⟩:=rx;obtain⟨t',rfl⟩:=ry;exact notIn_str ⟨.bl _,H,I,rfl,q⟩
theorem kU:fO X (.builtin "len") (fun xs H Q=>∃p ys,xs=[.ref p]/\(gT X.K H p ys\/iK X.K H p ys)/\Q (.int ys.length) H):=by
 intro Z8 s σ H xs us Q I r h;obtain⟨p,ys,rfl,hq,q⟩:=h;obtain⟨u,rfl,rx⟩:=mL r;cases rx;have hn:=yA;rcases hq with hq | hq
 ·obtain⟨its,r',pl,hz⟩:=I.list hq;have hlen:=r'.length;exact Calls.call_len_list pl.isList (by simp only[aw]<;>omega) ⟨.int ys.length,H,I.tok _,⟨s.toks+1,by rw[aw,hlen]⟩,q⟩
 ·obtain⟨its,r',pl,hz⟩:=I.tuple hq;have hlen:=r'.length;exact len_tuple pl (by simp only[aw]<;>omega) ⟨.int ys.length,H,I.tok _,⟨s.toks+1,by rw[aw,hlen]⟩,q⟩
theorem VH:fO X (.builtin "len") (fun xs H Q=>∃z,xs=[.str z]/\z.length<=sizeLine/\Q (.int z.length) H):=by
 intro Z8 s σ H xs us Q I r h;obtain⟨z,rfl,hz,q⟩:=h;obtain⟨u,rfl,t,rfl⟩:=mL r;have hn:=yA;exact len_str (by omega) ⟨.int z.length,H,I.tok _,⟨_,rfl⟩,q⟩
theorem fO.or{f:Value}{r r':List V->Hp->VK->Prop}(h:fO X f r)(h':fO X f r'):fO X f (fun xs H Q=>r xs H Q\/r' xs H Q):=by
 intro Z8 s σ H xs us Q I rs q;rcases q with q | q
 ·exact h Z8 s σ H xs us Q I rs q
 ·exact h' Z8 s σ H xs us Q I rs q
theorem Lx:fO X (.type "list") (fun xs H Q=>∃p ys,xs=[.ref p]/\(gT X.K H p ys\/iK X.K H p ys)/\∀l,H l=none->Q (.ref l) (upd H l (.lst ys))):=by
 intro Z8 s σ H xs us Q I r h;obtain⟨p,ys,rfl,hq,q⟩:=h;obtain⟨u,rfl,rx⟩:=mL r;cases rx;have fin:∀(its:List Value),Vals ys its->ys.length<=sizeLine->∀(h':Heap) (c':Nat),(∀b o',s.heap.get? b=some o'->h'.get? b=some o')->
   h'.get? s.heap.objs.size=some { cls:=.type "list",dict:=none,data:=.seq its.toArray c',slots:=#[] }->EP X Z8 σ Q (.ref s.heap.objs.size) { s with heap:=h' }:=fun its r' hz h' c' kp e=>
  ⟨.ref s.heap.objs.size,_,I.laid (t':=s.toks) kp (az _) (show gi X.prog X.w _ h' _ (.lst ys) from⟨hz,its,c',r',e⟩),rfl,q _ (I.fR.fresh (az _))⟩
 rcases hq with hq | hq
 ·obtain⟨its,r',pl,hz⟩:=I.list hq;have hlen:=r'.length;obtain⟨o,ho,hc,n,hd⟩:=pl.isList;exact call_list_seq p (.inl rfl) ho hc hd (fun h' c' kp e=>fin its r' hz h' c' kp e) (by simp only[aw]<;>omega)
 ·obtain⟨its,r',pl,hz⟩:=I.tuple hq;have hlen:=r'.length;obtain⟨o,ho,hc,n,hd⟩:=pl;exact call_list_seq p (.inr rfl) ho hc hd (fun h' c' kp e=>fin its r' hz h' c' kp e) (by simp only[aw]<;>omega)
def Dc(K:Z9)(T:String)(x:V)(H:Hp):Prop:=match x with
 | .str _=>T="str"
 | .int _=>T="int"
 | .ref p=>(T="list"/\∃xs,gT K H p xs)\/(T="tuple"/\∃o,K.lookup p=some o/\o.cls=.type "tuple"/\o.dict=none)\/
   (T="dict"/\((∃kvs ep,H p=some (.dK kvs ep))\/∃kvs bs,H p=some (.dT kvs bs)))\/(T="set"/\∃S n,H p=some (.set S n))
 | _=>False
theorem IF{Z8:List (Addr×Obj)}{σ:St}{H:Hp}{s:Shared}{T:String}{x:V}{v:Value}(I:Inv X Z8 σ H s)(r:RelV x v)(ty:Dc X.K T x H) :
  s.TypeIs v T/\∀a,v=.ref a->∃ob,s.heap.get? a=some ob/\ob.dict=none:=by
 cases x with
 | str z=>
  obtain⟨t,rfl⟩:=r;cases (show T="str" from ty);exact⟨typeIs_str s z t,fun _ e=>nomatch e⟩
 | int i=>
  obtain⟨t,rfl⟩:=r;cases (show T="int" from ty);exact⟨typeIs_int s i t,fun _ e=>nomatch e⟩
 | ref p=>
  cases r;rcases ty with⟨rfl,xs,hq⟩ | ⟨rfl,o,hk,hc,hd⟩ | ⟨rfl,hk⟩ | ⟨rfl,S,n,hk⟩
  ·obtain⟨its,_,pl,_⟩:=I.list hq;refine⟨pl.isList.typeIs,fun a e=>?_⟩;cases e;obtain⟨o,n,e,c,hd,_⟩:=pl;exact⟨o,e,hd⟩
  ·refine⟨⟨o,I.oB p o hk,hc⟩,fun a e=>?_⟩;cases e;exact⟨o,I.oB _ o hk,hd⟩
  ·have z:∃o,s.heap.get? p=some o/\o.ExactDict:=by
    rcases hk with⟨kvs,ep,hk⟩ | ⟨kvs,bs,hk⟩
    ·obtain⟨_,_,_,_,o,_,e,ex,_⟩:=I.fR p _ hk;exact⟨o,e,ex⟩
    ·obtain⟨_,_,_,_,_,o,_,_,e,ex,_⟩:=I.fR p _ hk;exact⟨o,e,ex⟩
   obtain⟨o,e,ex⟩:=z;refine⟨⟨o,e,ex.1⟩,fun a e2=>?_⟩;cases e2;exact⟨o,e,ex.2.1⟩
  ·obtain⟨o,_,_,_,e,ex,_⟩:=I.fR p _ hk;refine⟨⟨o,e,ex.1⟩,fun a e2=>?_⟩;cases e2;exact⟨o,e,ex.2.1⟩
 | _=>exact False.elim ty
def D3(K:Z9)(T:String)(r:V->List V->Hp->VK->Prop)(to:TE):TE:=fun σ H Q=>to σ H fun x H1=>Dc K T x H1/\r x [] H1 Q
def Df(K:Z9)(T:String)(r:V->List V->Hp->VK->Prop)(to:TE)(t:TA):TE:=fun σ H Q=>to σ H fun x H1=>Dc K T x H1/\t σ H1 fun xs H2=>r x xs H2 Q
variable {o e:Expr} {es:List Expr} {to:TE} {t:TA} {name:Str} {apos kg:Pos} {T id:String} {r:V->List V->Hp->VK->Prop}
theorem IE(pa:PlainAttrs T)(slot:Slot T name id)(Bl:typeOf (.builtin id)=pure (.type "method_descriptor"))(hm:HN X id r)(ho:PE X o to)
  (pd:attributeBase o name X.env (eval o X.env)=eval o X.env:=by rfl) (o9:(apos.endLine==kg.line)=true:=by rfl):PE X (.Call (.Attribute o name apos) [] [] kg) (D3 X.K T r to):=by
 intro Z8 s σ H Q I h;refine wpAny_Call_method0_late pd o9 (fM (ho Z8 s σ H _ I h) fun v s1 fh=>?_);obtain⟨x,H1,I1,r1,ty,q1⟩:=fh;obtain⟨h1,h2⟩:=IF I1 r1 ty;exact⟨T,id,pa,slot,Bl,h1,h2,Calls.callWith_builtin rfl (PySem.evalArgs_none (hm Z8 s1 σ H1 x [] v [] Q I1 r1 .nil q1))⟩
theorem Cg(pa:PlainAttrs T)(slot:Slot T name id)(Bl:typeOf (.builtin id)=pure (.type "method_descriptor"))(hm:HN X id r)(ho:PE X o to)(ha:PA X (e::es) t)
  (pd:attributeBase o name X.env (eval o X.env)=eval o X.env:=by rfl)
  (xU:((backTo kg (starEach (e::es) X.env)).all (fun x=>!x.1)&&(backToKw kg (keywordEach [] X.env)).all (fun x=>x.1.isSome)
   && decide ((e::es).length+([]:List Keyword).length+(if ([]:List Keyword).isEmpty then 0 else 1)<30))=true:=by rfl)
  (o9:(apos.endLine==kg.line)=true:=by rfl) (hs:starEach (e::es) X.env=(false,eval e X.env)::starEach es X.env:=by rfl) (pV:(backTo kg (starEach es X.env)).any (·.1)=false:=by rfl) :
  PE X (.Call (.Attribute o name apos) (e::es) [] kg) (Df X.K T r to t):=by
 intro Z8 s σ H Q I h;refine wpAny_Call_method_late pd xU o9 rfl (fM (ho Z8 s σ H _ I h) fun v s1 fh=>?_);obtain⟨x,H1,I1,r1,ty,q1⟩:=fh;obtain⟨h1,h2⟩:=IF I1 r1 ty;refine⟨T,id,pa,slot,Bl,h1,h2,?_⟩;have hA:=ha kg Z8 s1 σ H1 _ I1 q1;rw[hs] at hA ⊢;refine Calls.callWith_builtin (by show(false||(backTo kg (starEach es X.env)).any (·.1))=false;rw[pV]<;>rfl) (Calls.evalArgs_plain ?_);exact fM hA fun us s2 fh=>by obtain⟨vs,H2,I2,r2,q2⟩:=fh;exact hm Z8 s2 σ H2 x vs v us Q I2 r1 r2 q2
end
def DN(X:Cx)(id:String)(r:V->List V->Hp->VK->Prop):Prop:=
 ∀(Z8:List (Addr×Obj)) (s:Shared) (σ:St) (H:Hp) (x:V) (xs:List V) (v:Value) (us:List Value) (Q:VK),Inv X Z8 σ H s->RelV x v->Vals xs us->r x xs H Q->
  wpAny (model X.prog X.w) X.A (call (.builtin id) (v::us)) (EP X Z8 σ Q) X.xe s
theorem Vals.one:∀{x:V} {us:List Value},Vals [x] us->∃u,us=[u]/\RelV x u
 | _,_,.cons r .nil=>⟨_,rfl,r⟩
theorem Vals.zero:∀{us:List Value},Vals [] us->us=[]
 | _,.nil=>rfl
theorem Vals.reverse{xs:List V}{us:List Value}(h:Vals xs us):Vals xs.reverse us.reverse:=by
 induction h with
 | nil=>exact .nil
 | cons r t ih=>rw[List.reverse_cons,List.reverse_cons];exact Vals.append ih (.cons r .nil)
theorem Vals.rep{xs:List V}{us:List Value}(h:Vals xs us):∀k:Nat,Vals (List.replicate k xs).flatten (List.replicate k us).flatten
 | 0=>.nil
 | k+1=>by
  rw[bT,bT,bY,bY];exact Vals.append h (Vals.rep h k)
theorem ZH{α:Type}(l:List α):l.eraseIdx (l.length-1)=l.dropLast:=by
 induction l with
 | nil=>rfl
 | cons a r ih=>
  cases r with
  | nil=>rfl
  | cons b r=>
   have e:(a::b::r).length-1=((b::r).length-1)+1:=by
    have h1:(a::b::r).length=r.length+2:=rfl;have h2:(b::r).length=r.length+1:=rfl;omega
   rw[e,List.eraseIdx_cons_succ,ih];all_goals rfl
theorem K3(its:List Value):∀(k:Nat) (acc:List Value),
  List.foldl (fun x1 x2=>x1++x2) acc.toArray (List.replicate k its.toArray)=(acc++(List.replicate k its).flatten).toArray
 | 0,acc=>by simp
 | k+1,acc=>by
  have e:acc.toArray++its.toArray=(acc++its).toArray:=by simp
  have e2:(acc++its)++(List.replicate k its).flatten=acc++(List.replicate (k+1) its).flatten:=by
   rw[bT,bY,bO]
  rw[<-e2,<-K3 its k (acc++its),<-e,bT,List.foldl_cons]
section
variable {X:Cx} {Z8:List (Addr×Obj)} {σ:St} {H:Hp} {s:Shared} {l b:Addr} {xs ys zs:List V}
theorem Inv.uS{its its':List Value}{n:Nat}{f:Array Value->Array Value}{t':Nat}(I:Inv X Z8 σ H s)(hH:H l=some (.lst xs))
  (e:s.heap.get? l=some { cls:=.type "list",data:=.seq its.toArray n }) (hf:f its.toArray=its'.toArray) (hv:Vals ys its') (hz:ys.length<=sizeLine) :
  Inv X Z8 σ (upd H l (.lst ys)) { s with heap:=s.heap.update l (Obj.mapSeq f),toks:=t' }:=by
 have q:=PySem.IsL.update e f;rw[hf] at q;refine I.write (x:=l) (e:=l) (by rw[hH];exact trivial) (.inl rfl) (fun b' u hb hu=>(cz s.heap (Obj.mapSeq f) (Ne.symm hb)).trans hu) ⟨_,q⟩ ?_;exact⟨hz,its',_,hv,q⟩
theorem Inv.xG{its:List Value}{t':Nat}(I:Inv X Z8 σ H s)(hv:Vals ys its)(hz:ys.length<=sizeLine) :
  Inv X Z8 σ (upd H s.heap.objs.size (.lst ys)) { s with heap:=s.heap.push { cls:=.type "list",data:=.seq its.toArray },toks:=t' }:=
 I.laid (fun _ _ q=>ao _ q) (az _) ⟨hz,its,0,hv,aD _ rfl⟩
theorem Inv.fresh(I:Inv X Z8 σ H s):H s.heap.objs.size=none:=I.fR.fresh (az _)
theorem Inv.qW(I:Inv X Z8 σ H s)(hH:H l=some (.lst xs)):xs.length<=sizeLine/\∃(its:List Value) (n:Nat),Vals xs its/\xs.length=its.length/\s.heap.get? l=some { cls:=.type "list",data:=.seq its.toArray n }:=by
 obtain⟨z,its,n,r,e⟩:=I.fR l _ hH;exact⟨z,its,n,r,r.length,e⟩
theorem Kc{n:Nat}(h:n<=sizeLine):Builtin.List.listTooLong n=false:=by
 unfold Builtin.List.listTooLong;exact ba (by omega)
end
section
variable {X:Cx}
def EC:V->List V->Hp->VK->Prop:=fun x vs H Q=>∃l xs y,x=.ref l/\vs=[y]/\H l=some (.lst xs)/\xs.length<sizeLine/\Q .non (upd H l (.lst (xs++[y])))
theorem Fo:DN X "list.append" EC:=by
 intro Z8 s σ H x vs v us Q I rx rv h;obtain⟨l,xs,y,rfl,rfl,hH,hz,q⟩:=h;cases rx;obtain⟨u,rfl,ru⟩:=rv.one;obtain⟨z,its,n,r,hl,e⟩:=I.qW hH;refine call_meets F.slot_list_append ⟨_,e,rfl⟩ F.entry_list_append (F.args_list_append_2 _ _) (PySem.list_append l its.toArray n u (by rw[aw];omega)) ⟨e,?_⟩;refine⟨.non,_,I.uS (its':=its++[u]) hH e (by simp) (r.append (.cons ru .nil)) ?_,rfl,q⟩;rw[au,List.length_singleton];omega
def JP:V->List V->Hp->VK->Prop:=fun x vs H Q=>∃l b xs zs,x=.ref l/\vs=[.ref b]/\H l=some (.lst xs)/\H b=some (.lst zs)/\xs.length+zs.length<=sizeLine/\Q .non (upd H l (.lst (xs++zs)))
theorem UN:DN X "list.extend" JP:=by
 intro Z8 s σ H x vs v us Q I rx rv h;obtain⟨l,b,xs,zs,rfl,rfl,hH,hB,hz,q⟩:=h;cases rx;obtain⟨u,rfl,ru⟩:=rv.one;cases ru;obtain⟨z,its,n,r,hl,e⟩:=I.qW hH;obtain⟨z2,m7,n2,r2,Dv,e2⟩:=I.qW hB;have hsz:its.toArray.size+m7.toArray.size<=sizeLine:=by rw[aw,aw];omega
 have tj:¬(!its.toArray.isEmpty&&Builtin.List.listTooLong (its.toArray.size+m7.toArray.size))=true:=by
  rw[Kc hsz,Bool.and_false];exact aO
 refine call_meets F.slot_list_extend ⟨_,e,rfl⟩ F.entry_list_extend (F.args_list_extend_2 _ _)
  (AutoSeq1.list_extend_list_list_0 l its.toArray n b m7.toArray n2 tj (by rw[aw];omega) (by omega)) ⟨e,e2,?_⟩
 refine⟨.non,_,I.uS (its':=its++m7) hH e (by simp) (r.append r2) ?_,rfl,q⟩;rw[au];omega
def Kb:V->List V->Hp->VK->Prop:=fun x vs H Q=>∃l xs,x=.ref l/\vs=[]/\H l=some (.lst xs)/\Q .non (upd H l (.lst xs.reverse))
theorem UZ:DN X "list.reverse" Kb:=by
 intro Z8 s σ H x vs v us Q I rx rv h;obtain⟨l,xs,rfl,rfl,hH,q⟩:=h;cases rx;have GJ:=rv.zero;subst GJ;obtain⟨z,its,n,r,hl,e⟩:=I.qW hH;refine call_meets F.slot_list_reverse ⟨_,e,rfl⟩ F.entry_list_reverse (F.args_list_reverse_1 _) (AutoSeq1.list_reverse_list_0 l its.toArray n (by rw[aw];omega)) ⟨e,?_⟩;refine⟨.non,_,I.uS (its':=its.reverse) hH e (by simp) r.reverse ?_,rfl,q⟩;rw[List.length_reverse];omega
def ID:V->List V->Hp->VK->Prop:=fun x vs H Q=>∃l xs,x=.ref l/\vs=[]/\H l=some (.lst xs)/\Q .non (upd H l (.lst []))
theorem R1:DN X "list.clear" ID:=by
 intro Z8 s σ H x vs v us Q I rx rv h;obtain⟨l,xs,rfl,rfl,hH,q⟩:=h;cases rx;have GJ:=rv.zero;subst GJ;obtain⟨z,its,n,r,hl,e⟩:=I.qW hH;refine call_meets F.slot_list_clear ⟨_,e,rfl⟩ F.entry_list_clear (F.args_list_clear_1 _) (AutoSeq1.list_clear_list_0 l its.toArray n (by rw[aw];omega)) ⟨e,?_⟩;exact⟨.non,_,I.uS (its':=[]) (ys:=[]) hH e rfl .nil (aL _),rfl,q⟩
def NH:R2:=fun x y H Q=>∃l k xs,x=.ref l/\y=.int k/\H l=some (.lst xs)/\-(2 ^ 63)<=k/\k<2 ^ 63/\xs.length*k.toNat<=sizeLine/\
 ∀p,H p=none->Q (.ref p) (upd H p (.lst (List.replicate k.toNat xs).flatten))
theorem QD{α:Type}(xs:List α)(k:Nat):(List.replicate k xs).flatten.length=k*xs.length:=by
 induction k with
 | zero=>simp
 | succ k ih=>rw[bT,bY,au,ih,Nat.succ_mul,Nat.add_comm]
theorem Qk:i3 X (binaryOp .Mult) NH:=by
 intro Z8 s σ H x y v u Q I rx ry h;obtain⟨l,k,xs,rfl,rfl,hH,h1,h2,hz,q⟩:=h;cases rx;obtain⟨t,rfl⟩:=ry;obtain⟨z,its,n,r,hl,e⟩:=I.qW hH;have hlen:its.toArray.size*k.toNat<=sizeLine:=by rw[aw,<-hl];exact hz
 have Hr:¬its.toArray.size*k.toNat>(2 ^ 63-1)/8:=by
  have:(sizeLine:Nat)<=(2 ^ 63-1)/8:=by decide
  omega
 have vb:¬(!Builtin.List.listFitsIndex k)=true:=by
  rw[fitsIndex_both h1 h2];exact aO
 have tj:¬Builtin.List.listTooLong (its.toArray.size*k.toNat)=true:=by
  rw[Kc hlen];exact aO
 have tf:List.foldl (fun x1 x2=>x1++x2) #[] (List.replicate (if its.toArray.isEmpty=true then 0 else k.toNat) its.toArray)=(List.replicate k.toNat its).flatten.toArray:=by
  have f0:∀m:Nat,List.foldl (fun x1 x2=>x1++x2) #[] (List.replicate m its.toArray)=(List.replicate m its).flatten.toArray:=fun m=>by
   have:=K3 its m [];rw[eH] at this;exact this
  rw[f0];cases its with
  | nil=>simp
  | cons a r'=>rw[if_neg (by simp)]
 refine wpAny_binaryOp_repeat_ref (T:="list") (U:="int") (by decide) ⟨_,e,rfl⟩ (fun s'=>typeIs_int s' k t) noFill_list_mul F.fills_int_mul F.slot_int_rmul repeat_list F.slot_int_index.lookup
  (call_meets F.slot_int_rmul (typeIs_int s k t) F.entry_int_rmul (F.args_int_rmul_2 _ _) (int___rmul___int_list k t l its.toArray n)
   ⟨e,rfl,⟨_,e,rfl⟩,call_meets F.slot_list_mul ⟨_,e,rfl⟩ F.entry_list_mul (F.args_list_mul_2 _ _) (AutoListH.list___mul___list_int_3 l its.toArray n k t vb Hr tj) ⟨e,?_⟩⟩)
 rw[tf];exact⟨.ref _,_,I.xG (t':=s.toks) (r.rep k.toNat) (by rw[QD,Nat.mul_comm];exact hz),rfl,q _ I.fresh⟩
end
section
variable {prog:Program} {w:World} {A:Around} {E:Value->Shared->Prop} {s:Shared}
end
end L2
namespace Ng
open PySem PySem.W PySem.Calls PyProof.Rows
theorem WO{P:Params}{h:Heap}:∀(ns:List Int) (vs:List Value),WellAll P h vs (ns.map WData.int)->IntsAre vs ns:=by
 intro ns;induction ns with
 | nil=>
  intro vs w;rw[cy] at w;cases w;exact .nil
 | cons n ns ih=>
  intro vs w;rw[aA] at w;cases w with
  | cons a b=>
   cases a;exact .cons _ _ (ih _ b)
theorem UM{l:OpenLaw}{n:Nat}(hn:l.most=some n){P:Params}{h:Heap}{args:List WData}{vals:List Value}
  (uZ:l.row.toRowW.claim.pre args=true) (xM:WellAll P h vals args) :
  ∃a vs ns,vals=[Value.ref a]/\args=[WData.list (ns.map WData.int)]/\h.get? a=some { cls:=.type "list",data:=.seq vs.toArray }/\IntsAre vs ns/\ns.length<=n:=by
 have Yx:WShape.hasAll [] args [.list .int]=true:=(pre_splitW uZ).1;have hc:l.pre.holds [] { args:=args }=true:=(pre_splitW uZ).2;obtain⟨d,r,rfl,h1,h2⟩:=hasAllW_cons Yx;obtain rfl:=hasAllW_nil h2;obtain⟨xs,rfl,h3⟩:=hasW_list h1;obtain⟨ns,rfl⟩:=items_int h3;have hlen:ns.length<=n:=by
  unfold OpenLaw.pre at hc;have h4:(WTm.not (.lt (.lit (.int (n:Int))) (.len (.arg 0)))).holds [] { args:=[.list (ns.map .int)] }=true:=by
   have h4:=(holds_andW hc).1;rw[hn] at h4;exact h4
  have h5:=condW_of h4 (w_not (w_lt w_lit (w_len_list (w_arg rfl))));rw[ae] at h5;refine Nat.le_of_not_lt fun q=>?_
  have q':(n:Int)<((ns.length:Nat):Int):=by omega
  first
   | (rw[cW q'] at h5;exact absurd h5 (by decide))
   | (simp at h5;omega)
 cases xM with
 | cons w1 w2=>
  cases w2;cases w1 with
  | list ho xX=>exact⟨_,_,ns,rfl,rfl,ho,WO ns _ xX,hlen⟩
theorem UL(l:OpenLaw)(args:List WData):l.row.toRowW.claim.post args (.bool true) args=true:=
 postW_of (r:=l.row.toRowW) (X:=(true==true))
  (show WShape.has [] (.bool true) .bool=true by first | rfl | decide | simp[WShape.has,WShape.arms,WShape.armsAll])
  (show(WTm.eq .res (.lit (.bool true))).value [] { args:=args,res:=some (.bool true),after:=args }=some (.bool (true==true)) from w_eq_bool (w_res rfl) w_lit) rfl
theorem pf{l:OpenLaw}{n:Nat}{q:Program}{loose:List Str}{XP:(Str->Option Value)->Heap->Prop}{YP:World->Heap->Prop}{d:DefRec}
  (hn:l.most=some n) (Hn:d.params.defaults=[])
  (call:∀(w:World) (ir fw:Shared) (mg mb:Str->Option Value) (fa:Addr) (o:Obj) (pm cd doc:Value) (a:Addr) (vs:List Value) (ns:List Int),
   Ground q loose [] XP w ir mg mb fw.heap->YP w fw.heap->
   fw.heap.get? fa=some o->o.data=.func (docDef d.name d.params d.body d.scope pm cd doc)->fw.heap.CodeRec cd d.name->mg d.name=some (.ref fa)->
   fw.heap.get? a=some { cls:=.type "list",data:=.seq vs.toArray }->IntsAre vs ns->ns.length<=n->fw.gens=#[]->
   codeAny (model l.prog w) callerA (.call (.ref fa) ⟨[.ref a],[]⟩) (fun r s'=>r=.ok (.ret (.bool true))/\OldK fw.heap s'.heap/\s'.os=fw.os/\AllBare s'.gens) fw) :
  WalkO q loose XP YP l.row.toRowW d [] (fun f vs=>PySem.call f vs):=by
 intro w ir fw mg mb G Y fa o pm cd doc dV kV ho hd iS hD u6 hg args vals as uZ YG ZO xM Bt;obtain rfl:dV=.none:=Dflts.none hD Hn;obtain rfl:kV=.none:=Dflts.noKw hD;obtain⟨a,vs,ns,rfl,rfl,u4,hints,hlen⟩:=UM hn uZ xM;refine enter_call (codeAny_mono (call w ir fw mg mb fa o pm cd doc a vs ns G Y ho (fd_plain hd) iS u6 u4 hints hlen hg) fun r s' hq=>?_);obtain⟨rfl,h2,h3,h4⟩:=hq;exact⟨.inl ⟨.bool true,.bool true,[],rfl,fun _=>rfl,.bool true,UL l _,fun _=>⟨List.Pairwise.nil,fun _ hm=>(nomatch hm)⟩⟩,h2,h3,h4⟩
end Ng
namespace L2
open PySem PySem.Spec PyProof.Rows
theorem Ft:∀{vs:List Value} {ns:List Int},IntsAre vs ns->Vals (ns.map V.int) vs
 | _,_,.nil=>.nil
 | _,_,.cons n t h=>.cons ⟨t,rfl⟩ (Ft h)
def Ih(H:Hp):Prop:=∀b,H b=none\/∃o xs,H b=some (.mN o (.lst xs))
theorem R0{P:Program}{w:World}{K:Z9}{mg mb:Str->Option Value}{CX:vh}{k:Nat}{fa a:Addr}{fd:FuncData}{x:Str}{sp:Sp}{fw:Shared}{vs:List Value}{ns:List Int}
  (KX:K.In fw.heap) (qF:fw.heap.Ns mainGlobals mg) (hb:fw.heap.Ns builtinsNs mb) (Y0:∀x:Str,x≠"__name__"->mb x=bootBuiltins x) (Ha:fw.heap.NoLimit) (hg:fw.gens=#[])
  (ha:fw.heap.get? a=some { cls:=.type "list",data:=.seq vs.toArray }) (hi:IntsAre vs ns) (hl:ns.length<=sizeLine) (hr:gz k callerA)
  (F:∀base:Heap,K.In base->base.Ns mainGlobals mg->jT P w K mg base CX k fa fd [x] sp) (BM:∀(s:Shared) (u:Value),BindsTo s fd ⟨[u],[]⟩ [(x,u)])
  (za:∀H:Hp,Ih H->gT K H a (ns.map V.int)->sp [.ref a] H (fun v _=>v=.bl true) fun _ _ _=>False)
  (Za:∀H e s',CX [] H fw (fun _ _ _=>False) e s'->False) :
  codeAny (model P w) callerA (.call (.ref fa) ⟨[.ref a],[]⟩) (fun r s'=>r=.ok (.ret (.bool true))/\OldK fw.heap s'.heap/\s'.os=fw.os/\AllBare s'.gens) fw:=by
 have rv:=Ft hi;have Gy:=hi.length
 -- from an abstract heap in LO nothing but qu sI may be tracked
 have core:∀H:Hp,Ih H->gT K H a (ns.map V.int)->lA P w H fw.heap->(∀b,H b≠none->b=a)->(H a≠none->K.lookup a=none)->
   codeAny (model P w) callerA (.call (.ref fa) ⟨[.ref a],[]⟩) (fun r s'=>r=.ok (.ret (.bool true))/\OldK fw.heap s'.heap/\s'.os=fw.os/\AllBare s'.gens) fw:=by
  intro H hO hS fR hA hK;have qK:∀{b:Addr} {o:Obj},fw.heap.get? b=some o->H b=none->(uA fw.heap H).get? b=some o:=fun e n=>SX e n
  have Bb:∀{b:Addr} {o:Obj} {es:Array DictEntry} {ep:Nat},fw.heap.get? b=some o->o.data=.dict es ep->H b=none:=fun{b o es ep} e d=>by
   cases q:H b with
   | none=>rfl
   | some u=>
    have e':b=a:=hA b (by rw[q];simp);subst e';rw[ha] at e;cases e;have d':Data.seq vs.toArray _=Data.dict es ep:=d;cases d'
  have Dq:∀{b:Addr} {m:Str->Option Value},fw.heap.Ns b m->(uA fw.heap H).Ns b m:=fun{b m} ⟨o,es,ep,e,d,r⟩=>⟨o,es,ep,qK e (Bb e d),d,r⟩
  have MW:K.In (uA fw.heap H):=fun b o e=>qK (KX b o e) (by
   cases q:H b with
   | none=>rfl
   | some u=>
    have e':b=a:=hA b (by rw[q];simp);subst e'
    rw[hK (by rw[q];simp)] at e;cases e)
  have hM:Mod K mg (uA fw.heap H):=⟨MW,Dq qF,⟨mb,Dq hb,Y0⟩,let⟨mc,h1,h2⟩:=Ha;⟨mc,Dq h1,h2⟩⟩
  have e0:p8 P w K mg (uA fw.heap H) callerA [] fw H:=⟨rfl,hM,fun b o e=>RB e,Nat.le_of_eq (UB _ _),trivial,fun b hb=>absurd (show b∈([]:List Addr) from hb) (by simp),fR,.of_eq hg⟩
  refine codeAny_mono ((F _ MW (Dq qF)).run callerA [] fw H ⟨[.ref a],[]⟩ [.ref a] [.ref a] _ _ hr e0 (BM fw (.ref a)) (.cons rfl .nil) (za H hO hS)) fun r s' h=>?_
  cases r with
  | error e=>exact(Za H e s' h).elim
  | ok fl=>
   cases fl with
   | next=>exact False.elim h
   | brk=>exact False.elim h
   | cont=>exact False.elim h
   | ret u=>
    obtain⟨v,H',os,bare,un,GY,r',q⟩:=h;have q':v=.bl true:=q;subst q';obtain rfl:u=Value.bool true:=r';refine⟨rfl,OldK.of_keep fun b o e=>?_,os,bare⟩;cases q:H b with
    | none=>exact un.keep b o e q (by intro z;exact absurd (show b∈([]:List Addr) from z) (by simp)) (by simp)
    | some u=>
     rcases hO b with z | ⟨ob,xs,z⟩
     ·rw[q] at z;cases z
     ·have z2:=un.nP b ob _ z;obtain⟨e1,_⟩:=fR b _ z;obtain⟨e2,_⟩:=GY b _ z2;rw[e] at e1;cases e1;exact e2
 cases hk:K.lookup a with
 | some o=>
  -- qu sI is one of qu Bd own objects
  have e:=KX a o hk;rw[ha] at e;cases e;refine core (fun _=>none) (fun _=>.inl rfl) (.inr ⟨_,vs.toArray,_,hk,rfl,rfl,rfl,by rw[aw,Gy];exact hl,by simpa using rv⟩) (fun b u z=>by have z':(none:Option HO)=some u:=z;cases z') (fun b z=>absurd rfl z) fun z=>absurd rfl z
 | none=>
  refine core (fun b=>if b=a then some (.mN { cls:=.type "list",data:=.seq vs.toArray } (.lst (ns.map V.int))) else none) (fun b=>?_) (.inl (.inr ⟨{ cls:=.type "list",data:=.seq vs.toArray },if_pos rfl⟩)) (fun b u z=>?_) (fun b z=>?_) fun _=>hk
  ·by_cases hb:b=a
   ·exact .inr ⟨_,_,if_pos hb⟩
   ·exact .inl (if_neg hb)
  ·by_cases hb:b=a
   ·have z':=(if_pos hb).symm.trans z;cases z';subst hb;exact⟨ha,by rw[ae];exact hl,vs,_,rv,ha⟩
   ·have z':=(if_neg hb).symm.trans z;cases z'
  ·by_cases hb:b=a
   ·exact hb
   ·exact absurd (if_neg hb) z
noncomputable abbrev yj{K:Z9}{h:Heap}(_:K.In h):Z9:=K
def QC(s:Stmt)(j:Nat):Stmt:=match s with
 | .ClassDef _ _ _ body _ _ _ _ _ _ _=>body.getD j (.Pass ⟨0,0,0,0⟩)
 | _=>.Pass ⟨0,0,0,0⟩
noncomputable def g6(s:Stmt):Arguments:=match s with
 | .FunctionDef _ a _ _ _ _ _ _ _ _=>a
 | _=>{ posonlyargs:=[],args:=[],vararg:=none,kwonlyargs:=[],kw_defaults:=[],kwarg:=none,defaults:=[] }
noncomputable def fK(s:Stmt):List Stmt:=match s with
 | .FunctionDef _ _ b _ _ _ _ _ _ _=>b
 | _=>[]
noncomputable def eS(s:Stmt):Scope:=match s with
 | .FunctionDef _ _ _ _ _ _ sc _ _ _=>sc
 | _=>{ kind:=.function,names:=[],isGenerator:=false,isCoroutine:=false }
abbrev oK:vh:=fun _ _ _ _ _ _=>False
abbrev E0:XK:=fun _ _ _=>False
theorem Eb{X:Cx}:zO oK X E0:=fun _ _ _ _ _ _ _ h=>h.elim
structure nZ (dV:Value) (K:Z9) (x qual:Str) (st:Stmt) (f:Addr) (fd:FuncData):Prop where
 ex:∃(oc:Value) (od:Option Addr) (kV doc pm:Value) (an:Option Addr) (fD ct:Value) (pK:Array (Option Value)),
  fd=PySem.W.fnOf x qual (g6 st) (fK st) (eS st) dV kV doc pm an fD ct/\K.lookup f=some ⟨oc,od,.func fd,pK⟩/\PySem.W.codeIn K fD qual=true
 kp:PySem.W.keepIn K (.ref f)=true
noncomputable abbrev DR:=nZ .none
section
variable {P:Program} {w:World} {K:Z9} {mg:Str->Option Value} {base:Heap}
theorem nZ.ok{dV:Value}{x qual:Str}{st:Stmt}{f:Addr}{fd:FuncData}{N ps:List Str}{k:Nat}{sp:Sp}(F:nZ dV K x qual st f fd)(S:eW N ps (eS st))(len:∀vs H Q E,sp vs H Q E->vs.length=ps.length)
  (tE:∀(fD:Value) (A:Around) (outer:List Env) (s:Shared) (H:Hp) (vs:List V) (Q:VK) (E:XK),gz k (A.deeper (envOfC qual (eS st) s.heap.objs.size f fD))->sp vs H Q E->
   ∃t,p6 (rJ oK P w K mg base N qual (eS st) f fD A outer s H E).uh (fK st) t/\t { nx:=fun _ H'=>Q .non H',rt:=Q } (mS N vs) H):jT P w K mg base oK (k+1) f fd ps sp:=by
 obtain⟨oc,od,kV,doc,pm,an,fD,ct,pK,rfl,lk,iS⟩:=F.ex;refine Om lk iS S len fun A outer s H vs Q E hr za=>?_
 obtain⟨t,h,q⟩:=tE fD A outer s H vs Q E hr za;exact⟨t,h.uh,q⟩
theorem nZ.binds{x qual:Str}{st:Stmt}{f:Addr}{fd:FuncData}{ps:List Str}(F:DR K x qual st f fd)
  (h:∀(kV doc pm:Value) (an:Option Addr) (fD ct:Value) (us:List Value),us.length=ps.length->bindArgs (PySem.W.fnOf x qual (g6 st) (fK st) (eS st) .none kV doc pm an fD ct) ⟨us,[]⟩=pure (ps.zip us)):Binds K fd ps []:=by
 obtain⟨oc,od,kV,doc,pm,an,fD,ct,pK,rfl,lk,iS⟩:=F.ex;exact .all (h kV doc pm an fD ct)
theorem Eu{x qual:Str}{st:Stmt}{f:Addr}{oc:Value}{od an:Option Addr}{pK:Array (Option Value)}{dV kV doc pm fD ct:Value}(l:K.lookup f=some ⟨oc,od,.func (PySem.W.fnOf x qual (g6 st) (fK st) (eS st) dV kV doc pm an fD ct),pK⟩)
  (c:PySem.W.codeIn K fD qual=true) (k:PySem.W.keepIn K (.ref f)=true):nZ dV K x qual st f (PySem.W.fnOf x qual (g6 st) (fK st) (eS st) dV kV doc pm an fD ct):=⟨⟨oc,od,kV,doc,pm,an,fD,ct,pK,rfl,l,c⟩,k⟩
end
def e8(H H':Hp):Prop:=∀b o,H b=some o->H' b=some o
theorem e8.refl(H:Hp):e8 H H:=fun _ _ h=>h
theorem e8.trans{H H1 H2:Hp}(a:e8 H H1)(b:e8 H1 H2):e8 H H2:=fun c o h=>b c o (a c o h)
theorem e8.free{H H':Hp}(e:e8 H H'){l:Addr}(h:H' l=Option.none):H l=Option.none:=by
 cases q:H l with
 | none=>rfl
 | some o=>
  rw[e l o q] at h;cases h
end L2
set_option maxHeartbeats 0
namespace L2
open PySem PySem.Spec PyProof.Rows
def mx(K:Z9)(H:Hp)(a:Addr)(xs:List V):Prop:=
 Rd H a (.lst xs)\/∃(its:Array Value) (n:Nat),K.lookup a=some { cls:=.type "list",data:=.seq its n }/\its.size<=sizeLine/\Vals xs its.toList
theorem mx.of{K:Z9}{H:Hp}{a:Addr}{xs:List V}(h:H a=some (.lst xs)):mx K H a xs:=.inl (.inl h)
theorem mx.sq{K:Z9}{H:Hp}{a:Addr}{xs:List V}(h:mx K H a xs):gT K H a xs:=by
 rcases h with h | ⟨its,n,h1,h2,h3⟩
 ·exact .inl h
 ·exact .inr ⟨_,its,n,h1,rfl,rfl,rfl,h2,h3⟩
theorem e8.iF{K:Z9}{H H':Hp}{a:Addr}{xs:List V}(e:e8 H H')(h:mx K H a xs):mx K H' a xs:=by
 rcases h with(h | ⟨o,h⟩) | h
 ·exact .inl (.inl (e _ _ h))
 ·exact .inl (.inr ⟨o,e _ _ h⟩)
 ·exact .inr h
theorem Inv.iF{X:Cx}{Z8:List (Addr×Obj)}{σ:St}{H:Hp}{s:Shared}{a:Addr}{xs:List V}(I:Inv X Z8 σ H s)(h:mx X.K H a xs):xs.length<=sizeLine/\∃(its:List Value) (n:Nat),Vals xs its/\s.heap.get? a=some { cls:=.type "list",data:=.seq its.toArray n }:=by
 rcases h with h | ⟨its,n,h1,h2,h3⟩
 ·obtain⟨z,its,n,r,e⟩:=h.ok I.fR;exact⟨z,its,n,r,e⟩
 ·refine⟨by rw[h3.length];simpa using h2,its.toList,n,h3,?_⟩;rw[ez];exact I.oB a _ h1
noncomputable def oq(cells:List (Str×Addr)):List (Str×NameKind)->List (Str×Addr)->List (Str×Addr)
 | [],acc=>acc
 | (n,k)::r,acc=>oq cells r (if k==.free then(n,(cells.lookup n).getD 0)::acc else acc)
theorem Lm{env:Env}:∀(names:List (Str×NameKind)) (acc:List (Str×Addr)),(∀x∈names,x.2=.free->∃c,env.cells.lookup x.1=some c)->
  (forIn names acc fun(x:Str×NameKind) (r:List (Str×Addr))=>
   (if (x.2==NameKind.free)=true then do let a <-cellOf env x.1;pure (ForInStep.yield ((x.1,a)::r)) else pure (ForInStep.yield r):Sem (ForInStep (List (Str×Addr)))))=pure (oq env.cells names acc)
 | [],acc,_=>by simp[oq]
 | (n,k)::r,acc,h=>by
  have ih:=fun lR=>Lm (env:=env) r lR fun x hx=>h x (aQ _ hx)
  rw[List.forIn_cons];by_cases hk:k=.free
  ·subst hk;obtain⟨c,hc⟩:=h (n,.free) (by simp) rfl;have e1:cellOf env n=pure c:=by unfold cellOf;rw[hc]
   simp only[de,aR,e1,pure_bind];rw[ih];simp[oq,hc]
  ·have wx:(k==NameKind.free)=false:=by simpa using hk
   simp only[wx,af,aJ,pure_bind];rw[ih];simp[oq,wx]
theorem Ll{env:Env}{scope:Scope}(h:∀x∈scope.names,x.2=.free->∃c,env.cells.lookup x.1=some c):closureFor scope env=pure (oq env.cells scope.names []):=by
 have e:closureFor scope env=(forIn scope.names ([]:List (Str×Addr)) fun(x:Str×NameKind) (r:List (Str×Addr))=>
   (if (x.2==NameKind.free)=true then do let a <-cellOf env x.1;pure (ForInStep.yield ((x.1,a)::r)) else pure (ForInStep.yield r):Sem (ForInStep (List (Str×Addr))))) >>= fun r=>pure r:=rfl
 rw[e,Lm _ _ h];rfl
theorem Ka{cells:List (Str×Addr)}:∀{names:List (Str×NameKind)} {acc:List (Str×Addr)} {x:Str} {c:Addr},(x,c)∈oq cells names acc->(x,c)∈acc\/((x,.free)∈names/\c=(cells.lookup x).getD 0)
 | [],acc,x,c,h=>.inl h
 | (n,k)::r,acc,x,c,h=>by
  rcases Ka (names:=r) h with h | ⟨h,e⟩
  ·by_cases hk:k=.free
   ·subst hk;simp only[de,aR] at h;rcases ar.mp h with h | h
    ·cases h;exact .inr ⟨by simp,rfl⟩
    ·exact .inl h
   ·have wx:(k==NameKind.free)=false:=by simpa using hk
    simp only[wx,af,aJ] at h;exact .inl h
  ·exact .inr ⟨aQ _ h,e⟩
theorem J9{cells:List (Str×Addr)}:∀{names:List (Str×NameKind)} {acc:List (Str×Addr)} {p:Str×Addr},p∈acc->p∈oq cells names acc
 | [],acc,p,h=>h
 | (n,k)::r,acc,p,h=>J9 (names:=r) (by split<;>simp[h])
theorem E7{cells:List (Str×Addr)}:∀{names:List (Str×NameKind)} {acc:List (Str×Addr)} {x:Str},(x,.free)∈names->∃c,(x,c)∈oq cells names acc
 | (n,k)::r,acc,x,h=>by
  rcases ar.mp h with h | h
  ·have e1:x=n:=et Prod.fst h;have e2:NameKind.free=k:=et Prod.snd h;subst e1 e2;refine⟨(cells.lookup x).getD 0,?_⟩;show(x,(cells.lookup x).getD 0)∈oq cells r (if (NameKind.free==NameKind.free)=true then(x,(cells.lookup x).getD 0)::acc else acc);exact J9 (by simp)
  ·exact E7 (names:=r) h
theorem C7{α:Type}:∀{l:List (Str×α)} {x:Str} {c:α},(x,c)∈l->∃c',l.lookup x=some c'
 | (n,k)::r,x,c,h=>by
  by_cases e:x=n
  ·subst e;exact⟨k,by simp[df]⟩
  ·have e':(x==n)=false:=by simpa using e
   rcases ar.mp h with h | h
   ·cases h;exact absurd rfl e
   ·obtain⟨c',q⟩:=C7 h;exact⟨c',by simp[df,e',q]⟩
theorem F7{env:Env}:∀{names:List (Str×NameKind)} {x:Str},
  (names.map fun(n,k)=>if (k==NameKind.free&&env.scope.kind==.function&&env.kindOf n==some .cell) then(n,NameKind.cell) else(n,k)).lookup x
   = (names.lookup x).map fun k=>if (k==NameKind.free&&env.scope.kind==.function&&env.kindOf x==some .cell) then NameKind.cell else k
 | [],x=>rfl
 | (n,k)::r,x=>by
  have ih:=@F7 env r x;rw[aA];have e0:(if (k==NameKind.free&&env.scope.kind==.function&&env.kindOf n==some .cell)=true then(n,NameKind.cell) else(n,k))=(n,if (k==NameKind.free&&env.scope.kind==.function&&env.kindOf n==some .cell)=true then NameKind.cell else k):=by split<;>rfl
  show List.lookup x ((if (k==NameKind.free&&env.scope.kind==.function&&env.kindOf n==some .cell)=true then(n,NameKind.cell) else(n,k))::_)=_;rw[e0];by_cases e:x=n
  ·subst e;rw[df,df,de];rfl
  ·have e':(x==n)=false:=by simpa using e
   rw[df,df,e'];exact ih
theorem Ga:∀(names:List (Str×NameKind)) (n:Nat) (acc lR:List (Str×Addr)),cellsFrom n names (acc++lR)=cellsFrom n names acc++lR
 | [],_,_,_=>rfl
 | (x,k)::r,n,acc,lR=>by
  unfold cellsFrom;split
  ·exact Ga r (n+1) ((x,n)::acc) lR
  ·exact Ga r n acc lR
theorem F9:∀{names:List (Str×NameKind)} {n:Nat} {acc:List (Str×Addr)} {p:Str×Addr},p∈cellsFrom n names acc->p∈acc\/(p.1,.cell)∈names
 | [],_,_,_,h=>.inl h
 | (x,k)::r,n,acc,p,h=>by
  unfold cellsFrom at h;split at h
  ·rename_i hk;rcases F9 h with h | h
   ·rcases ar.mp h with rfl | h
    ·rw[eq_of_beq hk];exact .inr (by simp)
    ·exact .inl h
   ·exact .inr (aQ _ h)
  ·exact(F9 h).imp id (aQ _)
theorem AM:∀{names:List (Str×NameKind)} {n:Nat} {acc:List (Str×Addr)} {p:Str×Addr},p∈acc->p∈cellsFrom n names acc
 | [],_,_,_,h=>h
 | (x,k)::r,n,acc,p,h=>by
  unfold cellsFrom;split
  ·exact AM (aQ _ h)
  ·exact AM h
theorem F8:∀{names:List (Str×NameKind)} {n:Nat} {acc:List (Str×Addr)} {x:Str},(x,.cell)∈names->∃c,(x,c)∈cellsFrom n names acc
 | (y,k)::r,n,acc,x,h=>by
  unfold cellsFrom;rcases ar.mp h with h | h
  ·cases h;exact⟨n,AM (by simp)⟩
  ·split
   ·exact F8 h
   ·exact F8 h
theorem RZ{M:Model}{A:Around}{E:Value->Shared->Prop}{s:Shared}{scope:Scope}{globals:Addr}{closure:List (Str×Addr)}{qual:Str}{func:Option Addr}{code:Value}{out:Env}{Q:Env->Shared->Prop}
  (hQ:∀h',h'=pushCells (s.heap.push { cls:=.type "dict",data:=.dict #[] }) scope.names->Q (newEnv scope s.heap.objs.size globals (cellsFrom (s.heap.objs.size+1) scope.names closure) qual func code (some out) builtinsNs) { s with heap:=h' }) :
  wpAny M A (newFunctionEnv scope globals closure [] qual func code (some out)) Q E s:=by
 simp only[newFunctionEnv,Option.isSome_some,aR];refine aa (wpAny_alloc ?_);refine aa (wpAny_layCells _ (fun name kind cells=>by cases YK:kind==NameKind.cell<;>simp[YK]) _ _ _ _ ?_);rw[show({ s with heap:=s.heap.push { cls:=.type "dict",data:=.dict #[] } }:Shared).heap.objs.size=s.heap.objs.size+1 from di ..];rw[List.forIn_nil];exact aa (aq (aq (hQ _ rfl)))
noncomputable abbrev kf(X:Cx)(N':List Str)(scope:Scope)(s3:Shared)(H3:Hp)(ex:List Addr):Cx:=
 { X with N:=N',ir:=s3,tP:=H3,env:=compEnvC scope (cellsFrom (s3.heap.objs.size+1) scope.names (oq X.env.cells scope.names [])) s3.heap.objs.size X.env,outer:=X.stack,stack:=X.stack,ex:=ex,fn:=fun x=>scope.names.lookup x==some .cell,pn:=[],xe:=fun _ _=>False }
noncomputable def sU(m:List (Option Nat))(σ:St):St:=m.map fun o=>match o with
 | none=>none
 | some j=>(σ[j]?).join
structure fH (X:Cx) (N':List Str) (m:List (Option Nat)) (scope:Scope):Prop where
 kind:scope.kind=.function
 len:m.length=N'.length
 uniq:∀y∈scope.names,scope.names.lookup y.1=some y.2
 free:∀y∈scope.names,y.2=.free->X.env.kindOf y.1=some .cell\/X.env.kindOf y.1=some .free
 Zo:∀(i j:Nat) (x:Str),m[i]?=some (some j)->N'[i]?=some x->X.N[j]?=some x/\scope.names.lookup x=some .free
def zr(X:Cx)(ifs:List Expr)(t:TT):Prop:=
 ∀(Z8:List (Addr×Obj)) (s:Shared) (σ:St) (H:Hp) (Q:Bool->Hp->Prop),Inv X Z8 σ H s->t σ H Q->
  wpAny (model X.prog X.w) X.A (forIn ifs true fun c r=>if r=true then do let ok <-isTrue c X.env (eval c X.env);pure (ForInStep.yield ok) else pure (ForInStep.yield r)) (TP X Z8 σ Q) X.xe s
def NG:TT:=fun _ H Q=>Q true H
theorem QB{X:Cx}:zr X [] NG:=fun _ _ σ H _ I h=>wpAny_tests_nil ⟨H,I,h⟩
theorem QA{X:Cx}{c:Expr}{t:TT}(h:PT X c t):zr X [c] t:=fun Z8 s σ H Q I q=>wpAny_tests_one (h Z8 s σ H Q I q)
section
variable {prog:Program} {w:World} {A:Around} {R:Result->Shared->Prop} {s:Shared}
theorem U4{elt target iter:Expr}{ifs:List Expr}{scope:Scope}{pos:Pos}{it acc:Value}{env:Env}(I:Nat->Shared->Prop)
  (turn:∀n s,I n s->wpAny (model prog w) A (pyNext it) (fun r fw=>match r with
   | none=>R (.ok .next) fw
   | some v=>wpAny (model prog w) A (letOwnedTupleGo target it v) (fun _ vX=>wpAny (model prog w) A (assign target env v) (fun _ kd=>
     wpAny (model prog w) A (forIn ifs true fun c r=>if r=true then do let ok <-isTrue c env (eval c env);pure (ForInStep.yield ok) else pure (ForInStep.yield r)) (fun ok oX=>
      if ok=true then wpAny (model prog w) A (eval elt env) (fun x uO=>
       wpAny (model prog w) A (call (.builtin "list.append") [acc,x]) (fun _ A1=>∃m,m<n/\I m A1) (fun _ _=>False) uO) (fun _ _=>False) oX
      else ∃m,m<n/\I m oX) (fun _ _=>False) kd) (fun _ _=>False) vX) (fun _ _=>False) fw) (fun _ _=>False) s)
  (n:Nat) (h:I n s) :
  codeAny (model prog w) A (.compLoop (.ListComp elt [⟨target,iter,ifs,0⟩] scope pos) 0 it acc env) R s:=by
 refine codeAny_loop rfl I (fun n s hI=>?_) n h;show wpAny _ A ((compTurn (.ListComp elt [⟨target,iter,ifs,0⟩] scope pos) 0 it acc env).onRaise (fun x=>do noteFrame x env;theTreesLotGoes x)) _ _ s;refine wpAny_noted ?_;rw[compTurn_list];have nv:∀{E:Value->Shared->Prop} (x:Value) (s:Shared),(fun(_:Value) (_:Shared)=>False) x s->E x s:=fun _ _ f=>f.elim
 refine aa (wpAny_standAt (aa (cN (turn n s hI) (fun r fw lj=>?_) nv)));cases r with
 | none=>exact aq lj
 | some v=>
  refine aa (cN lj (fun _ vX Bj=>?_) nv);refine aa (cN Bj (fun _ kd sV=>aa (cN sV (fun ok oX uU=>?_) nv)) nv);cases ok with
  | false=>exact aq ⟨rfl,uU⟩
  | true=>
   exact aa (aa (cN uU (fun x uO GC=>aa (cN GC (fun _ A1 GB=>aq (aq ⟨rfl,GB⟩)) nv)) nv))
end
noncomputable abbrev r8(α:Type):=Shared->Hp->List Addr->α
def zJ(wi:TI)(m:List (Option Nat))(g:r8 TG)(tc:r8 TT)(te:r8 TE):TE:=fun σ H Q=>wi σ H fun J H1=>∀D,H1 D=none->∀s3 ex,
 ∃W:Nat->Nat->St->Hp->Prop,(∃k,W 0 k (sU m σ) (upd H1 D (.lst [])))/\∀i k fF H',W i k fF H'->
  (J.stop i H'/\Q (.ref D) H')\/(J.go i H'/\∃N:St->Hp->Prop,(∀fF H',N fF H'->∃k',k'<k/\W (i+1) k' fF H')/\
   ∀x H2,J.C9 i H' x H2->g s3 (upd H1 D (.lst [])) ex x fF H2 fun nj H3=>tc s3 (upd H1 D (.lst [])) ex nj H3 fun b H4=>
    if b=true then te s3 (upd H1 D (.lst [])) ex nj H4 fun v H5=>∃xs,H5 D=some (.lst xs)/\xs.length<sizeLine/\N nj (upd H5 D (.lst (xs++[v]))) else N nj H4)
section
variable {X:Cx} {elt iter tg:Expr} {ifs:List Expr} {scope:Scope} {pos:Pos} {N':List Str} {m:List (Option Nat)} {wi:TI} {g:r8 TG} {tc:r8 TT} {te:r8 TE}
theorem RY{Z8:List (Addr×Obj)}{σ:St}{H:Hp}{s:Shared}{fp:List Addr}{lj:Heap}{tk:Nat}(cs:fH X N' m scope)(I:Inv X Z8 σ H s)(f:∀b∈fp,lS X Z8 H b)(fo:∀b∈fp,b<s.heap.objs.size)
  (hh:lj=pushCells (s.heap.push { cls:=.type "dict",data:=.dict #[] }) scope.names) :
  Inv (kf X N' scope s H fp) [] (sU m σ) H { s with heap:=lj,toks:=tk }:=by
 have hk:∀b o,s.heap.get? b=some o->lj.get? b=some o:=fun b o e=>by rw[hh];exact pushCells_keeps _ _ b o (ao _ e)
 have qF:lj.Ns s.heap.objs.size (fun _=>none):=by rw[hh];exact(Heap.Ns.new s.heap (.type "dict")).keeps (pushCells_keeps _ _)
 have ok:=cellsFrom_ok scope.names (s.heap.push { cls:=.type "dict",data:=.dict #[] }) (s.heap.objs.size+1) [] ⟨fun _ _ hm=>(nomatch hm),List.Pairwise.nil⟩ (by rw[di];exact az _);rw[di,<-hh] at ok;have gS:∀y∈scope.names,y.2=.free->∃c,X.env.cells.lookup y.1=some c:=fun y hy hf=>I.ok.has y.1 (cs.free y hy hf)
 have app:cellsFrom (s.heap.objs.size+1) scope.names (oq X.env.cells scope.names [])=cellsFrom (s.heap.objs.size+1) scope.names []++oq X.env.cells scope.names []:=Ga _ _ [] _
 /- a cell: of its own,or one from around -/
 have yb:∀x c,(cellsFrom (s.heap.objs.size+1) scope.names (oq X.env.cells scope.names [])).lookup x=some c->((x,c)∈cellsFrom (s.heap.objs.size+1) scope.names []/\scope.names.lookup x=some .cell)\/(X.env.cells.lookup x=some c/\scope.names.lookup x=some .free):=fun x c e=>by
  have hm:=cG e;rw[app] at hm;rcases ay.mp hm with hm | hm
  ·refine .inl ⟨hm,?_⟩;rcases F9 hm with z | z
   ·cases z
   ·exact cs.uniq _ z
  ·rcases Ka hm with z | ⟨z,e'⟩
   ·cases z
   ·obtain⟨c',q⟩:=gS _ z rfl;rw[q] at e';exact .inr ⟨by rw[q,e'];rfl,cs.uniq _ z⟩
 have old:∀x c,X.env.cells.lookup x=some c->c<s.heap.objs.size:=fun x c e=>by obtain⟨v,z⟩:=I.cell x c e;exact z.lt
 refine⟨⟨I.ok.mod,cs.kind,I.ok.glob,I.ok.blt,az _,fun x y c e1 e2=>?inj,fun x hx=>?_,fun x c hx e=>?cab,I.ok.hd,I.ok.frames,.inl rfl,fun b hb=>⟨aG (fo b hb),fun x c e=>?exf⟩,
  fun b o e=>I.bs b o e,aH I.ok.wC I.sz,fun b o e hb=>?_,fun b hb z=>?_,I.stack,I.qv⟩,
  rfl,I.bare,Un.kept hk,⟨_,qF,fun i x v h1 h2 h3=>?_⟩,fun x c e=>?_,I.fR.fresh (az _),fun x c e=>?frc,fun p hp=>(by cases hp),I.fR.kept hk,?_⟩
 case inj=>
  rcases yb x c e1 with⟨m1,_⟩ | ⟨o1,_⟩<;>rcases yb y c e2 with⟨m2,_⟩ | ⟨o2,_⟩
  ·exact PySem.name_of_addr ok.apart m1 m2
  ·exact absurd (old y c o2) (Nat.not_lt.mpr (aH (b8 _) (ok.empty x c m1).2))
  ·exact absurd (old x c o1) (Nat.not_lt.mpr (aH (b8 _) (ok.empty y c m2).2))
  ·exact I.ok.inj x y c o1 o2
 case cab=>
  rcases yb x c e with⟨m1,_⟩ | ⟨_,z⟩
  ·exact aH (b8 _) (ok.empty x c m1).2
  ·have m8:(scope.names.lookup x==some .cell)=true:=hx;rw[z] at m8;cases m8
 case exf=>
  rcases yb x c e with⟨m1,_⟩ | ⟨o1,_⟩
  ·exact eu (aW (cq (fo b hb)) (ok.empty x c m1).2)
  ·exact(f b hb).2.2.2.2.1 x c o1
 case frc=>
  rcases yb x c e with⟨m1,_⟩ | ⟨o1,_⟩
  ·exact I.fR.fresh (aH (b8 _) (ok.empty x c m1).2)
  ·exact I.jG x c o1
 ·have m8:(relabel scope X.env).names.lookup x=some .cell\/(relabel scope X.env).names.lookup x=some .free:=hx;have e:(relabel scope X.env).names.lookup x=(scope.names.lookup x).map fun k=>if (k==NameKind.free&&X.env.scope.kind==.function&&X.env.kindOf x==some .cell) then NameKind.cell else k:=F7
  rw[e] at m8;have hf:(x,NameKind.free)∈scope.names\/(x,NameKind.cell)∈scope.names:=by
   cases q:scope.names.lookup x with
   | none=>rw[q] at m8;simp at m8
   | some k=>
    rw[q] at m8;have hm:=cG q;by_cases wu:k=.free
    ·subst wu;exact .inl hm
    ·have wx:(k==NameKind.free)=false:=by simpa using wu
     simp only[wx,bV,Bool.false_and,af,aJ,aN] at m8;rcases m8 with z | z
     ·subst z;exact .inr hm
     ·exact absurd z wu
  show ∃c,(cellsFrom (s.heap.objs.size+1) scope.names (oq X.env.cells scope.names [])).lookup x=some c
  rcases hf with hf | hf
  ·obtain⟨c,hc⟩:=E7 (cells:=X.env.cells) (acc:=[]) hf;exact C7 (AM hc)
  ·obtain⟨c,hc⟩:=F8 (n:=s.heap.objs.size+1) (acc:=oq X.env.cells scope.names []) hf;exact C7 hc
 ·rcases(f b hb).2.2.2.1 with z | z
  ·exact I.ok.sR b o e z
  ·exact absurd (aW (aB (I.ok.bs b o e).1) z) (cV _)
 ·rcases ar.mp (I.pQ b z) with q | q
  ·exact(f b hb).2.1 q
  ·exact(f b hb).2.2.1 q
 ·unfold sU at h2;rw[aI] at h2;cases q:m[i]? with
  | none=>rw[q] at h2;cases h2
  | some o=>
   rw[q] at h2;cases o with
   | none=>cases h2
   | some j=>
    simp only[bV,aN] at h2;have MY:σ[j]?=some (some v):=by
     cases z:σ[j]? with
     | none=>rw[z] at h2;cases h2
     | some a=>rw[z] at h2;simp at h2;rw[h2]
    obtain⟨hN,tq⟩:=cs.Zo i j x q h1;have ML:=cG tq;obtain⟨m0,ZP,hl⟩:=I.loc;have qH:=cs.free _ ML rfl;have GH:nV X.env.scope x:=qH.elim (fun z=>.inr (.inl z)) (fun z=>.inr (.inr z));obtain⟨u,ru,lu⟩:=hl j x v hN MY GH;refine⟨u,ru,.inr ⟨?_,?_⟩⟩
    ·show(relabel scope X.env).names.lookup x=some .cell\/(relabel scope X.env).names.lookup x=some .free;have e:(relabel scope X.env).names.lookup x=(scope.names.lookup x).map fun k=>if (k==NameKind.free&&X.env.scope.kind==.function&&X.env.kindOf x==some .cell) then NameKind.cell else k:=F7
     rw[e,tq];simp only[bV];split
     ·exact .inl rfl
     ·exact .inr rfl
    ·rcases lu with⟨k,_⟩ | ⟨_,c,e,z⟩
     ·rcases qH with z | z<;>· rw[k] at z;cases z
     ·obtain⟨c',tD⟩:=C7 (AM (names:=scope.names) (n:=s.heap.objs.size+1) (E7 (cells:=X.env.cells) (acc:=[]) ML).choose_spec);have:X.env.cells.lookup x=some c':=by
       rcases yb x c' tD with⟨_,z⟩ | ⟨z,_⟩
       ·rw[tq] at z;cases z
       ·exact z
      rw[e] at this;cases this;obtain⟨oc,zd,hd⟩:=z;exact⟨c,tD,oc,hk c oc zd,hd⟩
 ·rcases yb x c e with⟨m1,_⟩ | ⟨o1,_⟩
  ·exact⟨none,(ok.empty x c m1).1⟩
  ·obtain⟨v,oc,zd,hd⟩:=I.cell x c o1;exact⟨v,oc,hk c oc zd,hd⟩
 ·show(sU m σ).length=N'.length;unfold sU;rw[ae,cs.len]
theorem K2{use:Option (Value->Sem Unit)}{Q':Value->Shared->Prop}{Z8:List (Addr×Obj)}{s:Shared}{σ:St}{H:Hp}{Q:VK}
  (hc:X.calm=true) (cs:fH X N' m scope) (hi:PI X tg iter wi) (hg:∀s3 H3 ex,PG (kf X N' scope s3 H3 ex) tg (g s3 H3 ex)) (ht:∀s3 H3 ex,zr (kf X N' scope s3 H3 ex) ifs (tc s3 H3 ex))
  (he:∀s3 H3 ex,PE (kf X N' scope s3 H3 ex) elt (te s3 H3 ex)) (I:Inv X Z8 σ H s) (h:zJ wi m g tc te σ H Q)
  (fin:∀D C s' H',Inv X Z8 σ H' s'->lS X Z8 H' C->(∃m,s'.heap.Ns C m)->Q (.ref D) H'->compPost (model X.prog X.w) X.A X.xe use Q' (.ref D) C (.ok .next) s') :
  wpAny (model X.prog X.w) X.A (eval iter X.env) (fun x fw=>wpAny (model X.prog X.w) X.A (pyIter x) (fun it kd=>wpAny (model X.prog X.w) X.A (newList []) (fun acc oX=>
   wpAny (model X.prog X.w) X.A (newFunctionEnv scope X.env.globals (oq X.env.cells scope.names []) [] X.env.qual none .none (some X.env)) (fun BS uO=>
    codeAny (model X.prog X.w) X.A (.compStart (.ListComp elt [⟨tg,iter,ifs,0⟩] scope pos) 0 it acc { BS with scope:=relabel scope X.env }) (compPost (model X.prog X.w) X.A X.xe use Q' acc BS.locals) uO) X.xe oX) X.xe kd) X.xe fw) X.xe s:=by
 refine fM (hi Z8 s σ H _ I h) fun v s1 h1=>fM h1 fun GA s2 h2=>?_
 obtain⟨it,fp,tn,J,H2,e,I2,T,fi,f2,h⟩:=h2;subst e;refine cJ (RZ fun lj wA=>?_);have hf:H2 s2.heap.objs.size=none:=I2.fR.fresh (az _);obtain⟨W,⟨k0,w0⟩,turn⟩:=h s2.heap.objs.size hf { s2 with heap:=s2.heap.push { cls:=.type "list",data:=.seq ([]:List Value).toArray } } fp;have I3:Inv X Z8 σ (upd H2 s2.heap.objs.size (.lst [])) { s2 with heap:=s2.heap.push { cls:=.type "list",data:=.seq ([]:List Value).toArray } }:=I2.xG (its:=[]) (t':=s2.toks) .nil (by simp);have M5:∀b∈fp,b<s2.heap.objs.size:=fun b hb=>by
  obtain⟨o,e,_⟩:=T.obj _ _ fi b hb;exact aB e
 have f3:∀b∈fp,lS X Z8 (upd H2 s2.heap.objs.size (.lst [])) b:=fun b hb=>⟨by rw[gA (aG (M5 b hb))];exact(f2 b hb).1,(f2 b hb).2⟩
 generalize Mo:({ s2 with heap:=s2.heap.push { cls:=.type "list",data:=.seq ([]:List Value).toArray } }:Shared)=s3 at *;have hC:s3.heap.objs.size=s2.heap.objs.size+1:=by rw[<-Mo];exact di ..
 have M6:∀b∈fp,b<s3.heap.objs.size:=fun b hb=>by rw[hC];exact cq (M5 b hb)
 have k3:∀b o,s2.heap.get? b=some o->s3.heap.get? b=some o:=fun b o e=>by rw[<-Mo];exact ao _ e
 have k1:∀b o,s3.heap.get? b=some o->lj.get? b=some o:=fun b o e=>by rw[wA];exact pushCells_keeps _ _ b o (ao _ e)
 have J0:=RY (tk:=s3.toks) cs I3 f3 M6 wA;have Di:tn 0 lj:=T.keep _ _ _ fi fun b _ o e=>k1 b o (k3 b o e)
 have HE:∀{H':Hp},(∀b∈fp,H' b=none)->∀b∈fp,lS (kf X N' scope s3 (upd H2 s2.heap.objs.size (.lst [])) fp) [] H' b:=fun hn b hb=>
  ⟨hn b hb,aG (M6 b hb),J0.ok.tJ b hb,.inl hb,(J0.ok.exf b hb).2,fun p hp=>by cases hp⟩
 have tq:∀b∈fp,(upd H2 s2.heap.objs.size (.lst [])) b=none:=fun b hb=>(f3 b hb).1
 have loop:codeAny (model X.prog X.w) X.A (.compLoop (.ListComp elt [⟨tg,iter,ifs,0⟩] scope pos) 0 (.ref it) (.ref s2.heap.objs.size) (compEnvC scope (cellsFrom (s3.heap.objs.size+1) scope.names (oq X.env.cells scope.names [])) s3.heap.objs.size X.env))
   (compPost (model X.prog X.w) X.A X.xe use Q' (.ref s2.heap.objs.size) s3.heap.objs.size) { s3 with heap:=lj }:=by
  refine U4 (fun n s'=>∃i fF H',Inv (kf X N' scope s3 (upd H2 s2.heap.objs.size (.lst [])) fp) [] fF H' s'/\tn i s'.heap/\(∀b∈fp,H' b=none)/\W i n fF H') ?_ k0 ⟨0,_,_,J0,Di,tq,w0⟩;rintro n s4 ⟨i,rC,H4,I4,LP,zm,w4⟩;rcases turn i n rC H4 w4 with⟨stop,qn⟩ | ⟨go,N,hN,step⟩
  ·refine fM (T.done (kf X N' scope s3 (upd H2 s2.heap.objs.size (.lst [])) fp) rfl rfl rfl hc i [] s4 rC H4 _ I4 (HE zm) LP stop) fun r s5 fh=>?_
   obtain⟨hr,I5⟩:=fh;subst hr;have pX:∀b∈fp,(b∈X.ex\/X.ir.heap.objs.size<=b)/\b≠X.env.locals/\(∀x c,X.env.cells.lookup x=some c->c≠b)/\∀p∈X.pn++Z8,p.1≠b:=fun b hb=>⟨(f2 b hb).2.2.2.1,(f2 b hb).2.1,(f2 b hb).2.2.2.2.1,(f2 b hb).2.2.2.2.2⟩
   have I6:Inv X Z8 σ H4 s5:=I3.BU (ch:=fp) I5.os I5.base I5.fR I5.bare pX;obtain⟨m5,YE,_⟩:=id I5.loc;exact fin _ _ s5 H4 I6 (I3.pY (az _) I5.free) ⟨m5,YE⟩ qn
  ·refine fM (T.item (kf X N' scope s3 (upd H2 s2.heap.objs.size (.lst [])) fp) rfl rfl rfl hc i [] s4 rC H4 _ I4 (HE zm) LP go) fun r s5 fh=>?_
   obtain⟨u,hr,h5⟩:=fh;subst hr;refine fM h5 fun _ s6 fh=>?_
   obtain⟨x,H6,I6,r6,y6,Gh,Zh⟩:=fh;have Zx:=I6.pinned (HE Zh) (T.obj _ _ Gh);refine fM (hg _ _ _ _ s6 rC H6 x u _ Zx r6 (step x H6 y6)) fun _ s7 fh=>?_
   obtain⟨pC,H7,I7,q7⟩:=fh;refine fM (ht _ _ _ _ s7 pC H7 _ I7 q7) fun b s8 fh=>?_
   obtain⟨H8,I8,q8⟩:=fh;have again:∀{s9:Shared} {zz:St} {H9:Hp},Inv (kf X N' scope s3 (upd H2 s2.heap.objs.size (.lst [])) fp) ([]++zP fp s6.heap) zz H9 s9->N zz H9->∃m,m<n/\∃i fF H',Inv (kf X N' scope s3 (upd H2 s2.heap.objs.size (.lst [])) fp) [] fF H' s9/\tn i s9.heap/\(∀b∈fp,H' b=none)/\W i m fF H':=fun{s9 zz H9} I9 n9=>by
    obtain⟨m',hm,w9⟩:=hN zz H9 n9;refine⟨m',hm,i+1,zz,H9,I9.kC,T.keep _ _ _ Gh fun b hb o e=>(I9.pin (b,o) (bu _ (bu _ (C6 hb e)))).1,fun b hb=>?_,w9⟩;obtain⟨o,e,d⟩:=T.obj _ _ Gh b hb;exact(I9.pin (b,o) (bu _ (bu _ (C6 hb e)))).2.1
   cases b with
   | false=>exact again I8 q8
   | true=>
    rw[if_pos rfl];refine fM (he _ _ _ _ s8 pC H8 _ I8 q8) fun y s9 fh=>?_
    obtain⟨v9,H9,I9,r9,xs,hD,hz,q9⟩:=fh;refine fM (Fo _ s9 pC H9 (.ref s2.heap.objs.size) [v9] (.ref s2.heap.objs.size) [y] (fun _ H'=>N pC H') I9 rfl (.cons r9 .nil) ⟨_,xs,v9,rfl,rfl,hD,hz,q9⟩) fun _ ZL fh=>?_
    obtain⟨_,Z5,Zz,_,XX⟩:=fh;exact again Zz XX
 exact codeAny_compStart_list loop (T.self _ 0 _ _ _ Di loop)
theorem Qz(hc:X.calm=true)(cs:fH X N' m scope)(hi:PI X tg iter wi)(hg:∀s3 H3 ex,PG (kf X N' scope s3 H3 ex) tg (g s3 H3 ex))(ht:∀s3 H3 ex,zr (kf X N' scope s3 H3 ex) ifs (tc s3 H3 ex))
  (he:∀s3 H3 ex,PE (kf X N' scope s3 H3 ex) elt (te s3 H3 ex)) (hs:∀x,foldedSetIterable iter X.env x=pure x:=by intro _;rfl):PE X (.ListComp elt [⟨tg,iter,ifs,0⟩] scope pos) (zJ wi m g tc te):=by
 intro Z8 s σ H Q I h;rw[eval_ListComp];have gS:∀y∈scope.names,y.2=.free->∃c,X.env.cells.lookup y.1=some c:=fun y hy hf=>I.ok.has y.1 (cs.free y hy hf)
 refine wpAny_comprehension_free (use:=none) rfl hs (Ll gS) cs.kind (fun y hy hl=>by rw[cs.uniq y hy,hl]) (K2 hc cs hi hg ht he I h fun D C s' H' I' fC ⟨mC,hn⟩ q=>?_);refine⟨mC,hn,fun h' sb=>⟨.ref D,H',I'.turned (t':=s'.toks) (fun b o hb e=>(sb.2 b hb).trans e) fC.1 fC.2.1 fC.2.2.2.1 fC.2.2.2.2.1 fC.2.2.2.2.2,rfl,q⟩⟩
theorem CL{i:Nat}{x:Str}{pos' kN:Pos}(hN:X.N.Nodup)(tm:X.N[i]?=some x)(hx:Loc X.env.scope x)
  (hc:X.calm=true) (cs:fH X N' m scope) (hi:PI X tg iter wi) (hg:∀s3 H3 ex,PG (kf X N' scope s3 H3 ex) tg (g s3 H3 ex)) (ht:∀s3 H3 ex,zr (kf X N' scope s3 H3 ex) ifs (tc s3 H3 ex))
  (he:∀s3 H3 ex,PE (kf X N' scope s3 H3 ex) elt (te s3 H3 ex)) (hs:∀x,foldedSetIterable iter X.env x=pure x:=by intro _;rfl)
  (uV:swapsWith (.ListComp elt [⟨tg,iter,ifs,0⟩] scope pos) (some (.Name x pos')) kN.line X.env=pure true:=by rfl)
  (hf:X.fn x=true\/X.env.scope.names.lookup x=some .local:=by first | exact .inl rfl | exact .inr rfl | assumption) :
  PS X (.Assign [.Name x pos'] (.ListComp elt [⟨tg,iter,ifs,0⟩] scope pos) kN) (DX (zJ wi m g tc te) (Eh i)):=by
 intro Z8 s σ H D I h;have gS:∀y∈scope.names,y.2=.free->∃c,X.env.cells.lookup y.1=some c:=fun y hy hf=>I.ok.has y.1 (cs.free y hy hf)
 rw[exec_Assign_Name_used _ _ _ _ uV];refine aa (wpAny_standAt (aa ?_));show wpAny _ _ (do let _ <-comprehension (.ListComp elt [⟨tg,iter,ifs,0⟩] scope pos) scope X.env _ (newList []) false (eval iter X.env) (some (assign (.Name x pos') X.env))) _ _ s;refine aa (cN (wpAny_comprehension_free (use:=some (assign (.Name x pos') X.env)) (Q:=fun _ s'=>SP X Z8 D .next s') rfl hs (Ll gS) cs.kind (fun y hy hl=>by rw[cs.uniq y hy,hl]) (K2 hc cs hi hg ht he I h fun A C s' H' I' fC ⟨mC,hn⟩ q=>?_)) (fun _ s' hq=>aq (aq hq)) fun _ _ e=>e);show wpAny _ _ (assign (.Name x pos') X.env (.ref A)) _ _ _;refine wpAny_assign_Name (KN I' hN tm hx (show RelV (.ref A) (.ref A) from rfl) (fun s2 I2 Yy=>?_) hf);obtain⟨a,XH,ha⟩:=Yy;have Y9:C≠a:=by
  rcases ha with rfl | ha
  ·exact fC.2.1
  ·exact fun z=>fC.2.2.2.2.1 x a ha z.symm
 refine⟨mC,hn.sameBut XH Y9,fun h' sb=>⟨_,H',I2.turned (t':=s2.toks) (fun b o hb e=>(sb.2 b hb).trans e) fC.1 fC.2.1 fC.2.2.2.1 fC.2.2.2.2.1 fC.2.2.2.2.2,q⟩⟩
end
theorem Jh:2<=sizeLine:=by decide
theorem Inv.lU{X:Cx}{Z8:List (Addr×Obj)}{σ:St}{H:Hp}{s:Shared}{h':Heap}{t':Nat}{fp:List Addr}(I:Inv X Z8 σ H s)(k:∀b o,b∉fp->s.heap.get? b=some o->h'.get? b=some o)(f:∀b∈fp,lS X Z8 H b) :
  Inv X Z8 σ H { s with heap:=h',toks:=t' }:=by
 have v7:∀b u,H b=some u->b∉fp:=fun b u e z=>by rw[(f b z).1] at e;cases e
 refine I.step (g':=s.gens) (d':=s.drawn) (ch:=fp) (fun b hb=>⟨(f b hb).2.2.2.1,(f b hb).2.1,(f b hb).2.2.2.2.1,(f b hb).2.2.2.2.2⟩) (fun b o _ _ hc e _=>k b o hc e) (fun b o _ _ hc e _=>⟨o.slots,k b o hc e⟩) (fun _ _ _ _ n=>n)
  (fun b o hc e=>⟨o,k b o hc e⟩) (fun _ _ e=>e) (fun _ _ _ e=>e) (fun b ps e=>⟨#[],by rw[e];simp⟩) (fun m hm=>?_) (fun b u e=>?_) I.bare
 ·obtain⟨o,es,ep,ho,r⟩:=hm;exact⟨o,es,ep,k _ o (fun z=>(f _ z).2.1 rfl) ho,r⟩
 ·refine(I.fR b u e).nG (fun c v hc q=>k c v ?_ q) (fun _ q=>q) fun _ _ q=>q
  rcases hc with z | z
  ·rw[z];exact v7 b u e
  ·exact v7 c _ z
theorem Inv.ny{X:Cx}{Z8:List (Addr×Obj)}{σ:St}{H:Hp}{s:Shared}{h':Heap}{t':Nat}{fp:List Addr}{a:Addr}{o:HO}(I:Inv X Z8 σ H s)(k:∀b o,b∉fp->s.heap.get? b=some o->h'.get? b=some o)(f:∀b∈fp,lS X Z8 H b)
  (hp:s.heap.objs.size<=a) (new:gi X.prog X.w (upd H a o) h' a o):Inv X Z8 σ (upd H a o) { s with heap:=h',toks:=t' }:=by
 have gS:H a=none:=I.fR.fresh hp;have v7:∀b u,H b=some u->b∉fp:=fun b u e z=>by rw[(f b z).1] at e;cases e
 refine I.step (g':=s.gens) (d':=s.drawn) (ch:=fp) (fun b hb=>⟨(f b hb).2.2.2.1,(f b hb).2.1,(f b hb).2.2.2.2.1,(f b hb).2.2.2.2.2⟩) (fun b o _ _ hc e _=>k b o hc e) (fun b o _ _ hc e _=>⟨o.slots,k b o hc e⟩)
  (fun b o _ q n=>by rw[gA (aG (aW (aB q) hp))];exact n)
  (fun b o hc e=>⟨o,k b o hc e⟩) (fun b zs q=>by rw[gA (l7 q gS)];exact q) (fun b ob zs q=>by rw[gA (l7 q gS)];exact q) (fun b ps q=>⟨#[],by rw[gA (l7 q gS),q];simp⟩) (fun m hm=>?_) (fun b u q=>?_) I.bare
 ·obtain⟨o,es,ep,ho,r⟩:=hm;exact⟨o,es,ep,k _ o (fun z=>(f _ z).2.1 rfl) ho,r⟩
 ·by_cases hb:b=a
  ·subst hb;rw[jz] at q;cases q;exact new
  ·rw[gA hb] at q;refine(I.fR b u q).nG (fun c v hc z=>k c v ?_ z) (fun c z=>by rw[gA (l7 z gS)];exact z) fun c zs z=>by rw[gA (l7 z gS)];exact z
   rcases hc with rfl | hc
   ·exact v7 _ _ q
   ·exact v7 _ _ hc
noncomputable def DO(x:Str):It:=⟨fun i _=>i<x.cps.size,fun i H v H'=>H'=H/\∃c,x.cps[i]?=some c/\v=.str ⟨#[c]⟩,fun i _=>i=x.cps.size⟩
theorem RX{P:Program}{w:World}{K:Z9}{tg:Expr}{x:Str}{it:Addr}{n:String}{t:Tok}(hn:["enumerate","zip","dict_itemiterator","dict_reverseitemiterator","odict_iterator","itertools.zip_longest","itertools.pairwise"].contains n=false)
  (W:∀A':Around,A'.handled=none->Walks P w A' it [it] [it] x.cps.size (SignAt x) (fun i h=>h.IsStrIter it n x t i))
  (hs:∀(A:Around) (i:Nat) (s:Shared) (Q:Value->Shared->Prop) (E:Value->Shared->Prop),s.heap.IsStrIter it n x t i->Q (.ref it) s->wpAny (model P w) A (pyIter (.ref it)) Q E s):Turn P w K tg (DO x) [it] it (fun i h=>h.IsStrIter it n x t i) where
 mem:=by simp
 obj:=fun i h st b hb=>by
  have e:b=it:=by simpa using hb
  subst e;obtain⟨o,e,c,d⟩:=st;exact⟨o,e,fun v z=>by rw[d] at z;cases z⟩
 keep:=fun i h h' st k=>by
  obtain⟨o,e,r⟩:=st;exact⟨o,k it (by simp) o e,r⟩
 item:=by
  intro X hP hw hK hc i Z8 s σ H E I hf st hg;subst hP hw hK;refine(W X.A (I.ok.hd hc)).item i s _ _ hg st fun v h' tk hv eX kk=>?_
  obtain⟨c,u,hx,rfl⟩:=hv;have I1:Inv X Z8 σ H { s with heap:=h',toks:=tk }:=I.lU kk hf;obtain⟨o,e,c',d⟩:=id eX;exact⟨_,rfl,Cp (s:={ s with heap:=h',toks:=tk }) e c' d hn ⟨.str ⟨#[c]⟩,H,I1,⟨u,rfl⟩,⟨rfl,c,hx,rfl⟩,eX,fun b hb=>(hf b hb).1⟩⟩
 done:=by
  intro X hP hw hK hc i Z8 s σ H E I hf st hg;subst hP hw hK;have e:i=x.cps.size:=hg;subst e;exact(W X.A (I.ok.hd hc)).done s _ _ st fun h' tk kk=>⟨rfl,I.lU kk hf⟩
 self:=hs
section
variable {X:Cx} {tg:Expr}
theorem Qj{Z8:List (Addr×Obj)}{σ:St}{H:Hp}{s:Shared}{R:It->Hp->Prop}{E:Value->Shared->Prop}{x:Str}{t:Tok}(I:Inv X Z8 σ H s)(q:R (DO x) H) :
  wpAny (model X.prog X.w) X.A (pyIter (.str x t)) (DM X Z8 σ tg R) E s:=by
 have fin:∀(o:Obj) (n:String),(hn:["enumerate","zip","dict_itemiterator","dict_reverseitemiterator","odict_iterator","itertools.zip_longest","itertools.pairwise"].contains n=false)->
   (W:∀A':Around,A'.handled=none->Walks X.prog X.w A' s.heap.objs.size [s.heap.objs.size] [s.heap.objs.size] x.cps.size (SignAt x) (fun i h=>h.IsStrIter s.heap.objs.size n x t i))->
   (hs:∀(A:Around) (i:Nat) (s':Shared) (Q:Value->Shared->Prop) (E:Value->Shared->Prop),s'.heap.IsStrIter s.heap.objs.size n x t i->Q (.ref s.heap.objs.size) s'->wpAny (model X.prog X.w) A (pyIter (.ref s.heap.objs.size)) Q E s')->
   (s.heap.push o).IsStrIter s.heap.objs.size n x t 0->DM X Z8 σ tg R (.ref s.heap.objs.size) { s with heap:=s.heap.push o }:=fun o n hn W hs st=>by
  refine⟨s.heap.objs.size,[s.heap.objs.size],_,_,H,rfl,I.kept (t':=s.toks) fun b o e=>ao _ e,RX hn W hs,st,fun b hb=>?_,q⟩;have e:b=s.heap.objs.size:=by simpa using hb
  subst e;exact I.pY (az _) (I.fR.fresh (az _))
 cases ha:x.cps.all (·<128)
 ·exact wpAny_pyIter_wide ha (fin _ _ (by decide) (fun A' hA=>Walks.strWide hA _ x t) (fun _ _ _ _ _ st q=>wpAny_pyIter_striter_wide st q) ⟨_,aD _ rfl,rfl,rfl⟩)
 ·exact wpAny_pyIter_ascii ha (fin _ _ (by decide) (fun A' hA=>Walks.strAscii hA _ x t) (fun _ _ _ _ _ st q=>wpAny_pyIter_striter_ascii st q) ⟨_,aD _ rfl,rfl,rfl⟩)
def NF(K:Z9)(tl:TE):TI:=fun σ H R=>tl σ H fun x H1=>(∃a,x=.ref a/\(∃xs,gT K H1 a xs)/\R (HR K a) H1)\/(∃a,x=.ref a/\(∃xs,iK K H1 a xs)/\R (HQ K a) H1)\/(∃z,x=.str z/\R (DO z) H1)
theorem Qi{l:Expr}{tl:TE}(hl:PE X l tl):PI X tg l (NF X.K tl):=by
 intro Z8 s σ H R I h;refine fM (hl Z8 s σ H _ I h) fun v s1 fh=>?_
 obtain⟨x,H1,I1,r1,q1⟩:=fh;rcases q1 with⟨a,e,⟨xs,hq⟩,q⟩ | ⟨a,e,⟨xs,hq⟩,q⟩ | ⟨z,e,q⟩
 ·subst e;cases r1;obtain⟨its,rv,p,hz⟩:=I1.list hq;refine wpAny_pyIter_list p.isList ?_;refine⟨s1.heap.objs.size,[s1.heap.objs.size],_,_,H1,rfl,I1.kept (t':=s1.toks) fun b o e=>ao _ e,UA a _,⟨_,aD _ rfl,rfl,rfl⟩,fun b hb=>?_,q⟩;have e:b=s1.heap.objs.size:=by simpa using hb
  subst e;exact I1.pY (az _) (I1.fR.fresh (az _))
 ·subst e;cases r1;obtain⟨its,rv,p,hz⟩:=I1.tuple hq;refine wpAny_pyIter_tuple (show s1.heap.IsTuple a its.toArray from p) ?_;refine⟨s1.heap.objs.size,[s1.heap.objs.size],_,_,H1,rfl,I1.kept (t':=s1.toks) fun b o e=>ao _ e,UW a _,⟨_,aD _ rfl,rfl,rfl⟩,fun b hb=>?_,q⟩;have e:b=s1.heap.objs.size:=by simpa using hb
  subst e;exact I1.pY (az _) (I1.fR.fresh (az _))
 ·subst e;obtain⟨t,rfl⟩:=r1;exact Qj I1 q
end
noncomputable def HS(K:Z9)(a:Addr):It:=
 ⟨fun i H=>∃xs x,gT K H a xs/\xs[i]?=some x,fun i H v H'=>∃t,v=.ref t/\H t=none/\∀xs,gT K H a xs->∃x,xs[i]?=some x/\H'=upd H t (.tup [.int i,x]),fun i H=>∃xs,gT K H a xs/\xs.length<=i⟩
noncomputable def HP(K:Z9)(a b:Addr):It:=
 ⟨fun i H=>∃xs ys x y,gT K H a xs/\gT K H b ys/\xs[i]?=some x/\ys[i]?=some y,fun i H v H'=>∃t,v=.ref t/\H t=none/\∀xs ys,gT K H a xs->gT K H b ys->∃x y,xs[i]?=some x/\ys[i]?=some y/\H'=upd H t (.tup [x,y]),
  fun i H=>∃xs ys,gT K H a xs/\gT K H b ys/\(xs.length<=i\/ys.length<=i)⟩
theorem Jg{H:Hp}{t:Addr}{o:HO}{fp:List Addr}(h:∀b∈fp,H b=none)(ht:∀b∈fp,b≠t):∀b∈fp,upd H t o b=none:=fun b hb=>by rw[gA (ht b hb)];exact h b hb
theorem UY{prog:Program}{w:World}{A:Around}{E:Value->Shared->Prop}{s:Shared}{elts:List Expr}{x1}{pos:Pos}{e it T:Addr}{i:Int}{old:Value}{Q:Unit->Shared->Prop}(he:IsEnumOut s.heap e it i old T)
  (hQ:∀h',IsEnum h' e it i old->Heap.SameBut e s.heap h'->Q () { s with heap:=h' }) :
  wpAny (model prog w) A (letOwnedTupleGo (.Tuple elts x1 pos) (.ref e) (.ref T)) Q E s:=by
 unfold letOwnedTupleGo;refine aa (wpAny_load he ?_);show wpAny _ _ (if (["enumerate","zip","dict_itemiterator","dict_reverseitemiterator","odict_iterator","itertools.zip_longest","itertools.pairwise"].contains "enumerate" &&
   (#[rawInt T,.bool false,.ref it,rawInt i,.none,old]:Array Value)[0]?==some (rawInt T))=true then _ else _) Q E s
 rw[if_pos (by simp)];refine aa (wpAny_rule ?_);show wpAny _ _ (setField (.ref e) 0 .none) Q E s;exact wpAny_setField_rec he (by simp) fun h' Yj uW=>hQ h' Yj uW
theorem Tw{P:Program}{w:World}{K:Z9}{elts:List Expr}{x1}{pos:Pos}(a e it:Addr)(gP:e≠it):Turn P w K (.Tuple elts x1 pos) (HS K a) [e,it] e (fun i h=>(∃old,IsEnum h e it i old)/\h.IsListIter it a i) where
 mem:=by simp
 obj:=fun i h st b hb=>by
  obtain⟨⟨old,h1⟩,o,h2,c,d⟩:=st;rcases ar.mp hb with rfl | hb
  ·exact⟨_,h1,fun v z=>by have z':Data.fields _=Data.cell v:=z;cases z'⟩
  ·have e:b=it:=by simpa using hb
   subst e;exact⟨o,h2,fun v z=>by rw[d] at z;cases z⟩
 keep:=fun i h h' st k=>by
  obtain⟨⟨old,h1⟩,h2⟩:=st;exact⟨⟨old,k e (by simp) _ h1⟩,h2.at fun o q=>k it (by simp) o q⟩
 item:=by
  intro X hP hw hK hc i Z8 s σ H E I hf st hg;subst hP hw hK;obtain⟨xs,x,hq,hx⟩:=hg;obtain⟨its,rv,p,hz⟩:=I.list hq;obtain⟨u,hu,ru⟩:=rv.get hx;obtain⟨⟨old,h1⟩,h2⟩:=st;refine wpAny_pyNext_enum_item h1 h2 p.isList (x:=u) (by simpa using hu) gP fun h' e1 e2 e3 e4 kk=>?_
  refine⟨_,rfl,UY e1 fun xY e5 sb=>?_⟩;have Mn:s.heap.objs.size≠e:=eu (aB h1);have GL:s.heap.objs.size≠it:=by obtain⟨o,q,_⟩:=h2;exact eu (aB q)
  have hT:xY.get? s.heap.objs.size=some { cls:=.type "tuple",data:=.seq #[.int i s.toks,u] }:=sb.extBut _ _ Mn e3;have gS:H s.heap.objs.size=none:=I.fR.fresh (az _);have new:gi X.prog X.w (upd H s.heap.objs.size (.tup [.int i,x])) xY s.heap.objs.size (.tup [.int i,x]):=⟨Jh,[.int i s.toks,u],.cons ⟨_,rfl⟩ (.cons ru .nil),⟨_,hT,rfl,_,rfl⟩⟩
  refine⟨.ref s.heap.objs.size,upd H s.heap.objs.size (.tup [.int i,x]),I.ny (fp:=[e,it]) (fun b o hb q=>sb.extBut b o (fun z=>hb (by simp[z])) (kk b o (fun z=>hb (by simp[z])) (fun z=>hb (by simp[z])) q)) hf (az _) new,rfl,
   ⟨_,rfl,gS,fun ys hy=>⟨x,by rw[I.jE hy hq];exact hx,rfl⟩⟩,⟨⟨u,e5⟩,e2.extBut sb.extBut (Ne.symm gP)⟩,Jg (fun b hb=>(hf b hb).1) fun b hb=>?_⟩
  rcases ar.mp hb with rfl | hb
  ·exact Mn.symm
  ·have z:b=it:=by simpa using hb
   rw[z];exact GL.symm
 done:=by
  intro X hP hw hK hc i Z8 s σ H E I hf st hg;subst hP hw hK;obtain⟨xs,hq,hx⟩:=hg;obtain⟨its,rv,p,hz⟩:=I.list hq;obtain⟨⟨old,h1⟩,h2⟩:=st;have hl:=rv.length;exact wpAny_pyNext_enum_end (I.ok.hd hc) h1 h2 p.isList (by simp;omega) fun h' eb=>⟨rfl,I.lU (fp:=[e,it]) (t':=s.toks) (fun b o hb q=>eb b o (fun z=>hb (by simp[z])) q) hf⟩
 self:=fun _ _ _ _ _ st h=>by
  obtain⟨⟨old,h1⟩,_⟩:=st;exact wpAny_pyIter_enum h1 h
section
variable {X:Cx} {elts:List Expr} {x1:Nat} {sD:Pos}
def Oi(K:Z9)(ta:TA):TI:=fun σ H R=>ta σ H fun vs H1=>∃a xs,vs=[.ref a]/\mx K H1 a xs/\R (HS K a) H1
theorem Qy{a:Expr}{ta:TA}{p pos:Pos}(hg:Gl X "enumerate")(hm:X.mg "enumerate"=none)(ha:PA X [a] ta)(hs:starEach [a] X.env=[(false,eval a X.env)]:=by rfl):PI X (.Tuple elts x1 sD) (.Call (.Name "enumerate" p) [a] [] pos) (Oi X.K ta):=by
 intro Z8 s σ H R I h;refine Call_ (vJ I hg hm boot_enumerate (cT (fM (ha pos Z8 s σ H _ I h) fun us s1 fh=>?_) hs rfl));obtain⟨vs,H1,I1,r1,q1⟩:=fh;obtain⟨l,xs,e,hl,q⟩:=q1;subst e;obtain⟨u,rfl,ru⟩:=mL r1;cases ru;obtain⟨z,its,n,r,e⟩:=I1.iF hl;refine call_enumerate_1 e fun h' e1 e2 e3 kk=>?_
 refine wpAny_pyIter_enum e1 ?_;have gP:s1.heap.objs.size+1≠s1.heap.objs.size:=by omega
 refine⟨s1.heap.objs.size+1,[s1.heap.objs.size+1,s1.heap.objs.size],_,_,H1,rfl,I1.kept (t':=s1.toks) kk,Tw l _ _ gP,⟨⟨_,e1⟩,e2⟩,fun b hb=>?_,q⟩;have zk:s1.heap.objs.size<=b:=by
  rcases ar.mp hb with rfl | hb
  ·exact b8 _
  ·have e:b=s1.heap.objs.size:=by simpa using hb
   exact Nat.le_of_eq e.symm
 exact I1.pY zk (I1.fR.fresh zk)
theorem RW{P:Program}{w:World}{K:Z9}(a b z TI TO i1 i2:Addr)(D1:TI≠z/\TO≠z/\i1≠z/\i2≠z/\TI≠TO/\TI≠i1/\TI≠i2/\TO≠i1/\TO≠i2/\i1≠i2):Turn P w K (.Tuple elts x1 sD) (HP K a b) [z,TI,TO,i1,i2] z
  (fun i h=>IsZip h z TI TO .none/\IsPair h TI (.ref i1) (.ref i2)/\(∃a b,IsPair h TO a b)/\h.IsListIter i1 a i/\h.IsListIter i2 b i) where
 mem:=by simp
 obj:=fun i h st c hc=>by
  obtain⟨h1,h2,⟨u,v,h3⟩,⟨o1,g1,_,d1⟩,⟨o2,g2,_,d2⟩⟩:=st;simp only[ar,aP,cv] at hc;rcases hc with rfl | rfl | rfl | rfl | rfl
  ·exact⟨_,h1,fun v z=>by have z':Data.fields _=Data.cell v:=z;cases z'⟩
  ·exact⟨_,h2,fun v z=>by have z':Data.seq _ _=Data.cell v:=z;cases z'⟩
  ·exact⟨_,h3,fun v z=>by have z':Data.seq _ _=Data.cell v:=z;cases z'⟩
  ·exact⟨_,g1,fun v z=>by rw[d1] at z;cases z⟩
  ·exact⟨_,g2,fun v z=>by rw[d2] at z;cases z⟩
 keep:=fun i h h' st k=>by
  obtain⟨h1,h2,⟨u,v,h3⟩,h4,h5⟩:=st;exact⟨k z (by simp) _ h1,k TI (by simp) _ h2,⟨u,v,k TO (by simp) _ h3⟩,h4.at fun o q=>k i1 (by simp) o q,h5.at fun o q=>k i2 (by simp) o q⟩
 item:=by
  intro X hP hw hK hc i Z8 s σ H E I hf st hg;subst hP hw hK;obtain⟨xs,ys,x,y,hq,kx,hx,hy⟩:=hg;obtain⟨its,rv,p,hz⟩:=I.list hq;obtain⟨m7,qw,p2,GD⟩:=I.list kx;obtain⟨u,hu,ru⟩:=rv.get hx;obtain⟨v,hv,XM⟩:=qw.get hy;obtain⟨h1,h2,⟨c,d,h3⟩,h4,h5⟩:=st;obtain⟨d1,d2,d3,d4,d5,d6,d7,d8,d9,HJ⟩:=D1;have Bh:∀{l:Addr} {its:List Value},PlainL s.heap l its.toArray->l≠z/\l≠TO/\l≠i1/\l≠i2:=fun{l its} pl=>by
   obtain⟨o,n,e,c1,_,dd⟩:=pl;obtain⟨o1,g1,c4,_⟩:=h4;obtain⟨o2,g2,c5,_⟩:=h5;refine⟨?_,?_,?_,?_⟩
   ·rintro rfl;rw[h1] at e;cases e;simp at c1
   ·rintro rfl;rw[h3] at e;cases e;simp at c1
   ·rintro rfl;rw[g1] at e;cases e;rw[c4] at c1;simp at c1
   ·rintro rfl;rw[g2] at e;cases e;rw[c5] at c1;simp at c1
  obtain⟨e1,e2,e3,e4⟩:=Bh p;obtain⟨f1,f2,f3,f4⟩:=Bh p2;have D:ZipApart z TI TO i1 i2 a b:=⟨d1,d2,d3,d4,d5,d6,d7,d8,d9,HJ,e1,e2,e3,e4,f1,f2,f3,f4⟩
  refine wpAny_pyNext_zip_item D h1 h2 h3 h4 h5 p.isList p2.isList (x:=u) (y:=v) (by simpa using hu) (by simpa using hv) fun h' a1 a2 a3 a4 a5 a6 kk=>?_
  refine⟨_,rfl,wpAny_letOwnedTupleGo_zip a1 fun xY b1 sb=>?_⟩;have Y2:s.heap.objs.size≠z:=eu (aB h1);have gS:H s.heap.objs.size=none:=I.fR.fresh (az _);have hT:xY.get? s.heap.objs.size=some { cls:=.type "tuple",data:=.seq #[u,v] }:=sb.extBut _ _ Y2 a5;have new:gi X.prog X.w (upd H s.heap.objs.size (.tup [x,y])) xY s.heap.objs.size (.tup [x,y]):=⟨Jh,[u,v],.cons ru (.cons XM .nil),⟨_,hT,rfl,_,rfl⟩⟩
  have lt:∀{c o},s.heap.get? c=some o->c≠s.heap.objs.size:=fun e=>aG (aB e)
  refine⟨.ref s.heap.objs.size,upd H s.heap.objs.size (.tup [x,y]),I.ny (fp:=[z,TI,TO,i1,i2]) (t':=s.toks) (fun c o hc q=>sb.extBut c o (fun e=>hc (by simp[e])) (kk c o (fun e=>hc (by simp[e])) (fun e=>hc (by simp[e])) (fun e=>hc (by simp[e])) (fun e=>hc (by simp[e])) q)) hf (az _) new,rfl,
   ⟨_,rfl,gS,fun zs ws h6 h7=>⟨x,y,by rw[I.jE h6 hq];exact hx,by rw[I.jE h7 kx];exact hy,rfl⟩⟩,
   ⟨b1,sb.extBut _ _ d1 (kk _ _ d1 d5 d6 d7 h2),⟨_,_,sb.extBut _ _ d2 a2⟩,a3.extBut sb.extBut d3,a4.extBut sb.extBut d4⟩,Jg (fun b hb=>(hf b hb).1) fun c hc=>?_⟩
  simp only[ar,aP,cv] at hc;rcases hc with rfl | rfl | rfl | rfl | rfl
  ·exact lt h1
  ·exact lt h2
  ·exact lt h3
  ·obtain⟨_,g,_⟩:=h4;exact lt g
  ·obtain⟨_,g,_⟩:=h5;exact lt g
 done:=by
  intro X hP hw hK hc i Z8 s σ H E I hf st hg;subst hP hw hK;obtain⟨xs,ys,hq,kx,hx⟩:=hg;obtain⟨its,rv,p,hz⟩:=I.list hq;obtain⟨m7,qw,p2,GD⟩:=I.list kx;obtain⟨h1,h2,⟨c,d,h3⟩,h4,h5⟩:=st;obtain⟨d1,d2,d3,d4,d5,d6,d7,d8,d9,HJ⟩:=D1;have Bh:∀{l:Addr} {its:List Value},PlainL s.heap l its.toArray->l≠z/\l≠TO/\l≠i1/\l≠i2:=fun{l its} pl=>by
   obtain⟨o,n,e,c1,_,dd⟩:=pl;obtain⟨o1,g1,c4,_⟩:=h4;obtain⟨o2,g2,c5,_⟩:=h5;refine⟨?_,?_,?_,?_⟩
   ·rintro rfl;rw[h1] at e;cases e;simp at c1
   ·rintro rfl;rw[h3] at e;cases e;simp at c1
   ·rintro rfl;rw[g1] at e;cases e;rw[c4] at c1;simp at c1
   ·rintro rfl;rw[g2] at e;cases e;rw[c5] at c1;simp at c1
  obtain⟨e1,e2,e3,e4⟩:=Bh p;obtain⟨f1,f2,f3,f4⟩:=Bh p2;have D:ZipApart z TI TO i1 i2 a b:=⟨d1,d2,d3,d4,d5,d6,d7,d8,d9,HJ,e1,e2,e3,e4,f1,f2,f3,f4⟩
  have l1:=rv.length;have l2:=qw.length;have Hl:its.toArray[i]?=none\/m7.toArray[i]?=none:=by
   rcases hx with hx | hx
   ·exact .inl (by simp;omega)
   ·exact .inr (by simp;omega)
  exact wpAny_pyNext_zip_end (I.ok.hd hc) D h1 h2 h3 h4 h5 p.isList p2.isList Hl fun h' kk=>⟨rfl,I.lU (fp:=[z,TI,TO,i1,i2]) (t':=s.toks) (fun c o hc q=>kk c o (fun e=>hc (by simp[e])) (fun e=>hc (by simp[e])) (fun e=>hc (by simp[e])) (fun e=>hc (by simp[e])) q) hf⟩
 self:=fun _ _ _ _ _ st h=>wpAny_pyIter_zip st.1 h
theorem Tv(n:Nat):(n+2:Nat)≠n+4/\(n+3:Nat)≠n+4/\n≠n+4/\(n+1:Nat)≠n+4/\(n+2:Nat)≠n+3/\(n+2:Nat)≠n/\(n+2:Nat)≠n+1/\(n+3:Nat)≠n/\(n+3:Nat)≠n+1/\n≠n+1:=by omega
def ND(K:Z9)(ta:TA):TI:=fun σ H R=>ta σ H fun vs H1=>∃a b,vs=[.ref a,.ref b]/\(∃xs,gT K H1 a xs)/\(∃ys,gT K H1 b ys)/\R (HP K a b) H1
theorem OK{a b:Expr}{ta:TA}{p pos:Pos}(hg:Gl X "zip")(hm:X.mg "zip"=none)(ha:PA X [a,b] ta)(hs:starEach [a,b] X.env=[(false,eval a X.env),(false,eval b X.env)]:=by rfl)(uj:starEach [b] X.env=[(false,eval b X.env)]:=by rfl) :
  PI X (.Tuple elts x1 sD) (.Call (.Name "zip" p) [a,b] [] pos) (ND X.K ta):=by
 intro Z8 s σ H R I h;refine Call_ (vJ I hg hm boot_zip (cT (fM (ha pos Z8 s σ H _ I h) fun us s1 ⟨vs,H1,I1,r1,q1⟩=>?_) (by rw[hs,uj]) (by rw[uj];rfl)));obtain⟨l,l',e,⟨xs,hl⟩,⟨ys,Bv⟩,q⟩:=q1;subst e;obtain⟨u,v,rfl,ru,rv⟩:=zL r1;cases ru;cases rv;obtain⟨its,_,p1,_⟩:=I1.list hl;obtain⟨its',_,p2,_⟩:=I1.list Bv;refine call_zip_2 p1.isList p2.isList fun h' e1 e2 e3 e4 e5 e6 kk=>?_
 refine wpAny_pyIter_zip e1 ?_;refine⟨s1.heap.objs.size+4,[s1.heap.objs.size+4,s1.heap.objs.size+2,s1.heap.objs.size+3,s1.heap.objs.size,s1.heap.objs.size+1],_,_,H1,rfl,I1.kept (t':=s1.toks) kk,RW l l' _ _ _ _ _ (Tv _),
  ⟨e1,e2,⟨_,_,e3⟩,e4,e5⟩,fun b hb=>?_,q⟩
 have zk:s1.heap.objs.size<=b:=by
  simp only[ar,aP,cv] at hb;rcases hb with rfl | rfl | rfl | rfl | rfl<;>first | exact Nat.le_add_right _ _ | exact az _
 exact I1.pY zk (I1.fR.fresh zk)
end
inductive D where
 | non | bl (b:Bool) | int (i:Int) | str (x:Str) | tup (ds:List D) | lst (ds:List D) | obj (cn:Str) (fs:List (Str×D)) | dic (kvs:List (Key×D)) | dit (kvs:List (List Key×D)) | exc (cn:Str)
structure ClsAt (K:Z9) (cn:Str) (C:Addr):Prop where
 at_:PySem.W.nsIn K mainGlobals cn=some (some (.ref C))
 cls:wI K C
def lM(H:Hp):List (List Key×V)->List Addr->Prop
 | [],[]=>True
 | p::ps,b::bs=>H b=some (.tup (p.1.map kV))/\lM H ps bs
 | _,_=>False
theorem lM.mono{H H':Hp}(e:e8 H H'):∀{ps:List (List Key×V)} {bs:List Addr},lM H ps bs->lM H' ps bs
 | [],[],h=>h
 | p::ps,b::bs,h=>⟨e _ _ h.1,lM.mono e h.2⟩
 | [],_::_,h=>h.elim
 | _::_,[],h=>h.elim
mutual
def Rep(K:Z9)(H:Hp):V->D->Prop
 | v,.non=>v=.non
 | v,.bl b=>v=.bl b
 | v,.int i=>v=.int i
 | v,.str x=>v=.str x
 | v,.tup ds=>∃a xs,v=.ref a/\H a=some (.tup xs)/\eQ K H xs ds
 | v,.lst ds=>∃a xs,v=.ref a/\mx K H a xs/\eQ K H xs ds
 | v,.obj cn fs=>∃a C dx gs,v=.ref a/\H a=some (.ins C dx gs)/\ClsAt K cn C/\(∀p∈fs,fV K C p.1)/\fL K H gs fs
 | v,.dic kvs=>∃a ks ep,v=.ref a/\H a=some (.dK ks ep)/\eZ K H ks kvs
 | v,.dit kvs=>∃a ks bs,v=.ref a/\H a=some (.dT ks bs)/\lM H ks bs/\iZ K H ks kvs
 | v,.exc cn=>∃a φ C,v=.ref a/\H a=some (.ext φ)/\PySem.W.nsIn K mainGlobals cn=some (some (.ref C))/\∀h:Heap,φ h->∃o,h.get? a=some o/\o.cls=.ref C
def eQ(K:Z9)(H:Hp):List V->List D->Prop
 | [],[]=>True
 | v::vs,d::ds=>Rep K H v d/\eQ K H vs ds
 | _,_=>False
def fL(K:Z9)(H:Hp):List (Str×V)->List (Str×D)->Prop
 | [],[]=>True
 | v::vs,d::ds=>(v.1=d.1/\Rep K H v.2 d.2)/\fL K H vs ds
 | _,_=>False
def eZ(K:Z9)(H:Hp):List (Key×V)->List (Key×D)->Prop
 | [],[]=>True
 | v::vs,d::ds=>(v.1=d.1/\Rep K H v.2 d.2)/\eZ K H vs ds
 | _,_=>False
def iZ(K:Z9)(H:Hp):List (List Key×V)->List (List Key×D)->Prop
 | [],[]=>True
 | v::vs,d::ds=>(v.1=d.1/\Rep K H v.2 d.2)/\iZ K H vs ds
 | _,_=>False
end
theorem e8.nH{K:Z9}{H H':Hp}{a:Addr}{xs:List V}(e:e8 H H')(h:H a=some (.tup xs)):iK K H' a xs:=iK.of (e _ _ h)
theorem e8.sF{K:Z9}{H H':Hp}{a:Addr}{xs:List V}(e:e8 H H')(h:iK K H a xs):iK K H' a xs:=by
 rcases h with(h | ⟨o,h⟩) | h
 ·exact .inl (.inl (e _ _ h))
 ·exact .inl (.inr ⟨o,e _ _ h⟩)
 ·exact .inr h
mutual
theorem Rep.mono{K:Z9}{H H':Hp}(e:e8 H H'):∀(v:V) (d:D),Rep K H v d->Rep K H' v d
 | v,.non,h=>by simpa only[Rep] using h
 | v,.bl b,h=>by simpa only[Rep] using h
 | v,.int i,h=>by simpa only[Rep] using h
 | v,.str x,h=>by simpa only[Rep] using h
 | v,.tup ds,h=>by
  simp only[Rep] at h ⊢;obtain⟨a,xs,h1,h2,h3⟩:=h;exact⟨a,xs,h1,e _ _ h2,eQ.mono e xs ds h3⟩
 | v,.lst ds,h=>by
  simp only[Rep] at h ⊢;obtain⟨a,xs,h1,h2,h3⟩:=h;exact⟨a,xs,h1,e.iF h2,eQ.mono e xs ds h3⟩
 | v,.obj cn fs,h=>by
  simp only[Rep] at h ⊢;obtain⟨a,C,dx,gs,h1,h2,h3,h4,h5⟩:=h;exact⟨a,C,dx,gs,h1,e _ _ h2,h3,h4,fL.mono e gs fs h5⟩
 | v,.dic kvs,h=>by
  simp only[Rep] at h ⊢;obtain⟨a,ks,ep,h1,h2,h3⟩:=h;exact⟨a,ks,ep,h1,e _ _ h2,eZ.mono e ks kvs h3⟩
 | v,.dit kvs,h=>by
  simp only[Rep] at h ⊢;obtain⟨a,ks,bs,h1,h2,h3,h4⟩:=h;exact⟨a,ks,bs,h1,e _ _ h2,h3.mono e,iZ.mono e ks kvs h4⟩
 | v,.exc cn,h=>by
  simp only[Rep] at h ⊢;obtain⟨a,φ,C,h1,h2,h3,h4⟩:=h;exact⟨a,φ,C,h1,e _ _ h2,h3,h4⟩
theorem eQ.mono{K:Z9}{H H':Hp}(e:e8 H H'):∀(vs:List V) (ds:List D),eQ K H vs ds->eQ K H' vs ds
 | [],[],h=>by simp only[eQ]
 | v::vs,d::ds,h=>by
  simp only[eQ] at h ⊢;exact⟨Rep.mono e v d h.1,eQ.mono e vs ds h.2⟩
 | [],_::_,h=>by simp only[eQ] at h
 | _::_,[],h=>by simp only[eQ] at h
theorem fL.mono{K:Z9}{H H':Hp}(e:e8 H H'):∀(vs:List (Str×V)) (ds:List (Str×D)),fL K H vs ds->fL K H' vs ds
 | [],[],h=>by simp only[fL]
 | (x,v)::vs,(y,d)::ds,h=>by
  simp only[fL] at h ⊢;exact⟨⟨h.1.1,Rep.mono e v d h.1.2⟩,fL.mono e vs ds h.2⟩
 | [],_::_,h=>by simp only[fL] at h
 | _::_,[],h=>by simp only[fL] at h
theorem eZ.mono{K:Z9}{H H':Hp}(e:e8 H H'):∀(vs:List (Key×V)) (ds:List (Key×D)),eZ K H vs ds->eZ K H' vs ds
 | [],[],h=>by simp only[eZ]
 | (x,v)::vs,(y,d)::ds,h=>by
  simp only[eZ] at h ⊢;exact⟨⟨h.1.1,Rep.mono e v d h.1.2⟩,eZ.mono e vs ds h.2⟩
 | [],_::_,h=>by simp only[eZ] at h
 | _::_,[],h=>by simp only[eZ] at h
theorem iZ.mono{K:Z9}{H H':Hp}(e:e8 H H'):∀(vs:List (List Key×V)) (ds:List (List Key×D)),iZ K H vs ds->iZ K H' vs ds
 | [],[],h=>by simp only[iZ]
 | (x,v)::vs,(y,d)::ds,h=>by
  simp only[iZ] at h ⊢;exact⟨⟨h.1.1,Rep.mono e v d h.1.2⟩,iZ.mono e vs ds h.2⟩
 | [],_::_,h=>by simp only[iZ] at h
 | _::_,[],h=>by simp only[iZ] at h
end
section
variable {K:Z9} {H H':Hp}
theorem eQ.length:∀{vs:List V} {ds:List D},eQ K H vs ds->vs.length=ds.length
 | [],[],_=>rfl
 | v::vs,d::ds,h=>by
  simp only[eQ] at h;simp only[aE,eQ.length h.2]
 | [],_::_,h=>by simp only[eQ] at h
 | _::_,[],h=>by simp only[eQ] at h
theorem eQ.get:∀{vs:List V} {ds:List D} {i:Nat} {d:D},eQ K H vs ds->ds[i]?=some d->∃v,vs[i]?=some v/\Rep K H v d
 | [],[],i,d,_,e=>by simp at e
 | v::vs,d'::ds,0,d,h,e=>by
  simp only[eQ] at h;simp only[bX,aN] at e;subst e;exact⟨v,rfl,h.1⟩
 | v::vs,d'::ds,i+1,d,h,e=>by
  simp only[eQ] at h;simp only[bD] at e ⊢;exact eQ.get h.2 e
 | [],_::_,_,_,h,_=>by simp only[eQ] at h
 | _::_,[],_,_,h,_=>by simp only[eQ] at h
theorem eQ.BP:∀{vs:List V} {ds:List D} {i:Nat} {v:V},eQ K H vs ds->vs[i]?=some v->∃d,ds[i]?=some d/\Rep K H v d
 | [],[],i,d,_,e=>by simp at e
 | v'::vs,d::ds,0,v,h,e=>by
  simp only[eQ] at h;simp only[bX,aN] at e;subst e;exact⟨d,rfl,h.1⟩
 | v'::vs,d::ds,i+1,v,h,e=>by
  simp only[eQ] at h;simp only[bD] at e ⊢;exact eQ.BP h.2 e
 | [],_::_,_,_,h,_=>by simp only[eQ] at h
 | _::_,[],_,_,h,_=>by simp only[eQ] at h
theorem eQ.nil:eQ K H [] []:=by simp only[eQ]
theorem eQ.cons{v:V}{vs:List V}{d:D}{ds:List D}(h:Rep K H v d)(hs:eQ K H vs ds):eQ K H (v::vs) (d::ds):=by simp only[eQ];exact⟨h,hs⟩
theorem eQ.append:∀{vs:List V} {ds:List D} {us:List V} {es:List D},eQ K H vs ds->eQ K H us es->eQ K H (vs++us) (ds++es)
 | [],[],_,_,_,h=>h
 | v::vs,d::ds,_,_,h,h'=>by
  simp only[eQ] at h;exact eQ.cons h.1 (eQ.append h.2 h')
 | [],_::_,_,_,h,_=>by simp only[eQ] at h
 | _::_,[],_,_,h,_=>by simp only[eQ] at h
theorem eQ.take:∀{vs:List V} {ds:List D} (n:Nat),eQ K H vs ds->eQ K H (vs.take n) (ds.take n)
 | _,_,0,_=>eQ.nil
 | [],[],_+1,_=>eQ.nil
 | v::vs,d::ds,n+1,h=>by
  simp only[eQ] at h;exact eQ.cons h.1 (eQ.take n h.2)
 | [],_::_,_+1,h=>by simp only[eQ] at h
 | _::_,[],_+1,h=>by simp only[eQ] at h
theorem eQ.drop:∀{vs:List V} {ds:List D} (n:Nat),eQ K H vs ds->eQ K H (vs.drop n) (ds.drop n)
 | _,_,0,h=>h
 | [],[],_+1,_=>eQ.nil
 | v::vs,d::ds,n+1,h=>by
  simp only[eQ] at h;exact eQ.drop n h.2
 | [],_::_,_+1,h=>by simp only[eQ] at h
 | _::_,[],_+1,h=>by simp only[eQ] at h
theorem eQ.set:∀{vs:List V} {ds:List D} {v:V} {d:D} (n:Nat),eQ K H vs ds->Rep K H v d->eQ K H (vs.set n v) (ds.set n d)
 | [],[],_,_,_,_,_=>eQ.nil
 | v'::vs,d'::ds,v,d,0,h,q=>by
  simp only[eQ] at h;exact eQ.cons q h.2
 | v'::vs,d'::ds,v,d,n+1,h,q=>by
  simp only[eQ] at h;exact eQ.cons h.1 (eQ.set n h.2 q)
 | [],_::_,_,_,_,h,_=>by simp only[eQ] at h
 | _::_,[],_,_,_,h,_=>by simp only[eQ] at h
theorem eQ.reverse{vs:List V}{ds:List D}(h:eQ K H vs ds):eQ K H vs.reverse ds.reverse:=by
 induction vs generalizing ds with
 | nil=>
  cases ds with
  | nil=>exact eQ.nil
  | cons=>simp only[eQ] at h
 | cons v vs ih=>
  cases ds with
  | nil=>simp only[eQ] at h
  | cons d ds=>
   simp only[eQ] at h;rw[List.reverse_cons,List.reverse_cons];exact eQ.append (ih h.2) (eQ.cons h.1 eQ.nil)
end
structure Ext (G H G' H':Hp):Prop where
 g:e8 G G'
 h:e8 H H'
 s:e8 G' H'
 n:∀p,G p=none->H p≠none->G' p=none
theorem Ext.refl{G H:Hp}(s:e8 G H):Ext G H G H:=⟨e8.refl _,e8.refl _,s,fun _ h _=>h⟩
theorem Ext.trans{G H G1 H1 G2 H2:Hp}(a:Ext G H G1 H1)(b:Ext G1 H1 G2 H2):Ext G H G2 H2:=
 ⟨a.g.trans b.g,a.h.trans b.h,b.s,fun p h1 h2=>b.n p (a.n p h1 h2) fun z=>h2 (a.h.free z)⟩
theorem vN{H:Hp}{p:Addr}{o:HO}(h:H p=none):e8 H (upd H p o):=fun b u e=>by rw[gA (l7 e h)];exact e
theorem Tu{G H:Hp}{p:Addr}{o:HO}(s:e8 G H):e8 (upd G p o) (upd H p o):=fun b u e=>by
 by_cases hb:b=p
 ·subst hb;rw[jz] at e ⊢;exact e
 ·rw[gA hb] at e ⊢;exact s b u e
theorem Ext.new{G H:Hp}{p:Addr}{o:HO}(s:e8 G H)(h:H p=none):Ext G H (upd G p o) (upd H p o):=
 ⟨vN (s.free h),vN h,Tu s,fun q h1 h2=>by rw[gA (fun z=>h2 (by rw[z];exact h))];exact h1⟩
theorem Ext.own{G H:Hp}{p:Addr}{o:HO}(s:e8 G H)(h:H p=none):Ext G H G (upd H p o):=
 ⟨e8.refl _,vN h,s.trans (vN h),fun q h1 _=>h1⟩
inductive OV where
 | ll (gw:List (List D))
 | dc (kvs:List (Key×D))
 | dl (kvs:List (Key×List D))
 | tl (d:D) (ds:List D)
 | ld (x8:List (List (Key×D)))
 | dt (kvs:List (List Key×List D))
 | tp (ds:List D)
 | ob (cn:Str) (fs:List (Str×List D))
 | dq (kvs:List (List Key×D))
noncomputable def OV.val:OV->D
 | .ll gw=>.lst (gw.map .lst)
 | .dc kvs=>.dic kvs
 | .dl kvs=>.dic (kvs.map fun p=>(p.1,.lst p.2))
 | .tl d ds=>.tup [d,.lst ds]
 | .ld x8=>.lst (x8.map .dic)
 | .dt kvs=>.dit (kvs.map fun p=>(p.1,.lst p.2))
 | .tp ds=>.tup ds
 | .ob cn fs=>.obj cn (fs.map fun p=>(p.1,.lst p.2))
 | .dq kvs=>.dit kvs
inductive R where
 | fz (d:D)
 | ow (ds:List D)
 | ov (o:OV)
noncomputable def R.val:R->D
 | .fz d=>d
 | .ow ds=>.lst ds
 | .ov o=>o.val
inductive Sl where
 | un
 | fz (d:D)
 | ow (ds:List D)
 | ov (o:OV)
noncomputable def R.sl:R->Sl
 | .fz d=>.fz d
 | .ow ds=>.ow ds
 | .ov o=>.ov o
def fj(K:Z9)(G H:Hp):List Addr->List (List D)->Prop
 | [],[]=>True
 | q::qs,ds::gw=>(∃xs,H q=some (.lst xs)/\eQ K G xs ds)/\fj K G H qs gw
 | _,_=>False
theorem fj.mono{K:Z9}{G H G' H':Hp}(g:e8 G G'):∀{qs:List Addr} {gw:List (List D)},(∀q∈qs,∀xs,H q=some (.lst xs)->H' q=some (.lst xs))->fj K G H qs gw->fj K G' H' qs gw
 | [],[],_,_=>by simp only[fj]
 | q::qs,ds::gw,hh,h=>by
  simp only[fj] at h ⊢;obtain⟨⟨xs,h1,h2⟩,h3⟩:=h;exact⟨⟨xs,hh q (by simp) xs h1,h2.mono g⟩,fj.mono g (fun r hr=>hh r (by simp[hr])) h3⟩
 | [],_::_,_,h=>by simp only[fj] at h
 | _::_,[],_,h=>by simp only[fj] at h
theorem fj.here{K:Z9}{G H:Hp}:∀{qs:List Addr} {gw:List (List D)},fj K G H qs gw->∀q∈qs,H q≠none
 | [],[],_,q,hq=>by cases hq
 | q::qs,ds::gw,h,r,hr=>by
  simp only[fj] at h;obtain⟨⟨xs,h1,h2⟩,h3⟩:=h;rcases ar.mp hr with rfl | hr
  ·rw[h1];exact nofun
  ·exact fj.here h3 r hr
 | [],_::_,h,_,_=>by simp only[fj] at h
 | _::_,[],h,_,_=>by simp only[fj] at h
theorem fj.oZ{K:Z9}{G H G':Hp}(g:e8 G G'):∀{qs:List Addr} {gw:List (List D)},(∀q∈qs,∀xs,H q=some (.lst xs)->G' q=some (.lst xs))->fj K G H qs gw->eQ K G' (qs.map V.ref) (gw.map D.lst)
 | [],[],_,_=>eQ.nil
 | q::qs,ds::gw,hh,h=>by
  simp only[fj] at h;obtain⟨⟨xs,h1,h2⟩,h3⟩:=h;refine eQ.cons ?_ (fj.oZ g (fun r hr=>hh r (by simp[hr])) h3);simp only[Rep];exact⟨q,xs,rfl,mx.of (hh q (by simp) xs h1),h2.mono g⟩
 | [],_::_,_,h=>by simp only[fj] at h
 | _::_,[],_,h=>by simp only[fj] at h
def iw(K:Z9)(G H:Hp):List Addr->List (List (Key×D))->Prop
 | [],[]=>True
 | q::qs,ds::gw=>(∃ks ep,H q=some (.dK ks ep)/\eZ K G ks ds)/\iw K G H qs gw
 | _,_=>False
theorem iw.mono{K:Z9}{G H G' H':Hp}(g:e8 G G'):∀{qs:List Addr} {gw:List (List (Key×D))},(∀q∈qs,∀u,H q=some u->H' q=some u)->iw K G H qs gw->iw K G' H' qs gw
 | [],[],_,_=>by simp only[iw]
 | q::qs,ds::gw,hh,h=>by
  simp only[iw] at h ⊢;obtain⟨⟨ks,ep,h1,h2⟩,h3⟩:=h;exact⟨⟨ks,ep,hh q (by simp) _ h1,eZ.mono g _ _ h2⟩,iw.mono g (fun r hr=>hh r (by simp[hr])) h3⟩
 | [],_::_,_,h=>by simp only[iw] at h
 | _::_,[],_,h=>by simp only[iw] at h
theorem iw.kind{K:Z9}{G H:Hp}:∀{qs:List Addr} {gw:List (List (Key×D))},iw K G H qs gw->∀q∈qs,∃ks ep,H q=some (.dK ks ep)
 | [],[],_,q,hq=>by cases hq
 | q::qs,ds::gw,h,r,hr=>by
  simp only[iw] at h;obtain⟨⟨ks,ep,h1,h2⟩,h3⟩:=h;rcases ar.mp hr with rfl | hr
  ·exact⟨ks,ep,h1⟩
  ·exact iw.kind h3 r hr
 | [],_::_,h,_,_=>by simp only[iw] at h
 | _::_,[],h,_,_=>by simp only[iw] at h
theorem iw.here{K:Z9}{G H:Hp}{qs:List Addr}{gw:List (List (Key×D))}(h:iw K G H qs gw):∀q∈qs,H q≠none:=fun q hq=>by
 obtain⟨ks,ep,e⟩:=h.kind q hq;rw[e];exact nofun
theorem iw.oZ{K:Z9}{G H G':Hp}(g:e8 G G'):∀{qs:List Addr} {gw:List (List (Key×D))},(∀q∈qs,∀u,H q=some u->G' q=some u)->iw K G H qs gw->eQ K G' (qs.map V.ref) (gw.map D.dic)
 | [],[],_,_=>eQ.nil
 | q::qs,ds::gw,hh,h=>by
  simp only[iw] at h;obtain⟨⟨ks,ep,h1,h2⟩,h3⟩:=h;refine eQ.cons ?_ (iw.oZ g (fun r hr=>hh r (by simp[hr])) h3);simp only[Rep];exact⟨q,ks,ep,rfl,hh q (by simp) _ h1,eZ.mono g _ _ h2⟩
 | [],_::_,_,h=>by simp only[iw] at h
 | _::_,[],_,h=>by simp only[iw] at h
def lx(K:Z9)(G H:Hp)(p:Addr)(fp:List Addr):OV->Prop
 | .ll gw=>H p=some (.lst (fp.map V.ref))/\fj K G H fp gw
 | .dc kvs=>fp=[]/\∃ks ep,H p=some (.dK ks ep)/\eZ K G ks kvs
 | .dl kvs=>∃ks ep,H p=some (.dK ks ep)/\ks.map (·.1)=kvs.map (·.1)/\ks.map (·.2)=fp.map V.ref/\fj K G H fp (kvs.map (·.2))
 | .tl d ds=>∃q v xs,fp=[q]/\H p=some (.tup [v,.ref q])/\Rep K G v d/\H q=some (.lst xs)/\eQ K G xs ds
 | .ld x8=>H p=some (.lst (fp.map V.ref))/\iw K G H fp x8
 | .dt kvs=>∃ks bs,H p=some (.dT ks bs)/\lM G ks bs/\ks.map (·.1)=kvs.map (·.1)/\ks.map (·.2)=fp.map V.ref/\fj K G H fp (kvs.map (·.2))
 | .tp ds=>fp=[]/\∃xs,H p=some (.tup xs)/\eQ K G xs ds
 | .ob cn fs=>∃C dx gs,H p=some (.ins C dx gs)/\ClsAt K cn C/\(∀p∈fs,fV K C p.1)/\gs.map (·.1)=fs.map (·.1)/\gs.map (·.2)=fp.map V.ref/\fj K G H fp (fs.map (·.2))
 | .dq kvs=>fp=[]/\∃ks bs,H p=some (.dT ks bs)/\lM G ks bs/\iZ K G ks kvs
theorem lx.here{K:Z9}{G H:Hp}{p:Addr}{fp:List Addr}{o:OV}(h:lx K G H p fp o):∀q∈p::fp,H q≠none:=by
 intro q hq;cases o with
 | ll gw=>
  rcases ar.mp hq with rfl | hq
  ·rw[h.1];exact nofun
  ·exact h.2.here q hq
 | dc kvs=>
  obtain⟨rfl,ks,ep,h1,_⟩:=h;simp only[aX] at hq;subst hq;rw[h1];exact nofun
 | dl kvs=>
  obtain⟨ks,ep,h1,_,_,h4⟩:=h;rcases ar.mp hq with rfl | hq
  ·rw[h1];exact nofun
  ·exact h4.here q hq
 | tl d ds=>
  obtain⟨r,v,xs,rfl,h1,_,h2,_⟩:=h;simp only[ar,aP,cv] at hq;rcases hq with rfl | rfl
  ·rw[h1];exact nofun
  ·rw[h2];exact nofun
 | ld x8=>
  rcases ar.mp hq with rfl | hq
  ·rw[h.1];exact nofun
  ·exact h.2.here q hq
 | dt kvs=>
  obtain⟨ks,bs,h1,_,_,_,h4⟩:=h;rcases ar.mp hq with rfl | hq
  ·rw[h1];exact nofun
  ·exact h4.here q hq
 | tp ds=>
  obtain⟨rfl,xs,h1,_⟩:=h;simp only[aX] at hq;subst hq;rw[h1];exact nofun
 | ob cn fs=>
  obtain⟨C,dx,gs,h1,_,_,_,_,h4⟩:=h;rcases ar.mp hq with rfl | hq
  ·rw[h1];exact nofun
  ·exact h4.here q hq
 | dq kvs=>
  obtain⟨rfl,ks,bs,h1,_⟩:=h;simp only[aX] at hq;subst hq;rw[h1];exact nofun
theorem lx.mono{K:Z9}{G H G' H':Hp}{p:Addr}{fp:List Addr}{o:OV}(g:e8 G G')(hh:∀q∈p::fp,∀u,H q=some u->H' q=some u)(h:lx K G H p fp o):lx K G' H' p fp o:=by
 cases o with
 | ll gw=>exact⟨hh p (by simp) _ h.1,h.2.mono g fun q hq xs=>hh q (by simp[hq]) _⟩
 | dc kvs=>
  obtain⟨rfl,ks,ep,h1,h2⟩:=h;exact⟨rfl,ks,ep,hh p (by simp) _ h1,eZ.mono g _ _ h2⟩
 | dl kvs=>
  obtain⟨ks,ep,h1,h2,h3,h4⟩:=h;exact⟨ks,ep,hh p (by simp) _ h1,h2,h3,h4.mono g fun q hq xs=>hh q (by simp[hq]) _⟩
 | tl d ds=>
  obtain⟨r,v,xs,rfl,h1,h2,h3,h4⟩:=h;exact⟨r,v,xs,rfl,hh p (by simp) _ h1,h2.mono g,hh r (by simp) _ h3,h4.mono g⟩
 | ld x8=>exact⟨hh p (by simp) _ h.1,h.2.mono g fun q hq=>hh q (by simp[hq])⟩
 | dt kvs=>
  obtain⟨ks,bs,h1,hk,h2,h3,h4⟩:=h;exact⟨ks,bs,hh p (by simp) _ h1,hk.mono g,h2,h3,h4.mono g fun q hq xs=>hh q (by simp[hq]) _⟩
 | tp ds=>
  obtain⟨rfl,xs,h1,h2⟩:=h;exact⟨rfl,xs,hh p (by simp) _ h1,h2.mono g⟩
 | ob cn fs=>
  obtain⟨C,dx,gs,h1,hc,hn,h2,h3,h4⟩:=h;exact⟨C,dx,gs,hh p (by simp) _ h1,hc,hn,h2,h3,h4.mono g fun q hq xs=>hh q (by simp[hq]) _⟩
 | dq kvs=>
  obtain⟨rfl,ks,bs,h1,hk,h2⟩:=h;exact⟨rfl,ks,bs,hh p (by simp) _ h1,hk.mono g,iZ.mono g _ _ h2⟩
theorem eZ.hE{K:Z9}{G:Hp}:∀{ks:List (Key×V)} {kvs:List (Key×List D)} {fp:List Addr},ks.map (·.1)=kvs.map (·.1)->ks.map (·.2)=fp.map V.ref->eQ K G (fp.map V.ref) ((kvs.map (·.2)).map D.lst)->eZ K G ks (kvs.map fun p=>(p.1,.lst p.2))
 | [],[],_,_,_,_=>by simp only[cy,eZ]
 | a::ks,b::kvs,fp,h1,h2,h3=>by
  simp only[aA,List.cons.injEq] at h1;cases fp with
  | nil=>simp at h2
  | cons q fp=>
   simp only[aA,List.cons.injEq] at h2;simp only[aA,eQ] at h3;simp only[aA,eZ];exact⟨⟨h1.1,by rw[h2.1];exact h3.1⟩,eZ.hE h1.2 h2.2 h3.2⟩
 | [],_::_,_,h,_,_=>by simp at h
 | _::_,[],_,h,_,_=>by simp at h
theorem iZ.hE{K:Z9}{G:Hp}:∀{ks:List (List Key×V)} {kvs:List (List Key×List D)} {fp:List Addr},ks.map (·.1)=kvs.map (·.1)->ks.map (·.2)=fp.map V.ref->eQ K G (fp.map V.ref) ((kvs.map (·.2)).map D.lst)->iZ K G ks (kvs.map fun p=>(p.1,.lst p.2))
 | [],[],_,_,_,_=>by simp only[cy,iZ]
 | a::ks,b::kvs,fp,h1,h2,h3=>by
  simp only[aA,List.cons.injEq] at h1;cases fp with
  | nil=>simp at h2
  | cons q fp=>
   simp only[aA,List.cons.injEq] at h2;simp only[aA,eQ] at h3;simp only[aA,iZ];exact⟨⟨h1.1,by rw[h2.1];exact h3.1⟩,iZ.hE h1.2 h2.2 h3.2⟩
 | [],_::_,_,h,_,_=>by simp at h
 | _::_,[],_,h,_,_=>by simp at h
theorem fL.hE{K:Z9}{G:Hp}:∀{ks:List (Str×V)} {kvs:List (Str×List D)} {fp:List Addr},ks.map (·.1)=kvs.map (·.1)->ks.map (·.2)=fp.map V.ref->eQ K G (fp.map V.ref) ((kvs.map (·.2)).map D.lst)->fL K G ks (kvs.map fun p=>(p.1,.lst p.2))
 | [],[],_,_,_,_=>by simp only[cy,fL]
 | a::ks,b::kvs,fp,h1,h2,h3=>by
  simp only[aA,List.cons.injEq] at h1;cases fp with
  | nil=>simp at h2
  | cons q fp=>
   simp only[aA,List.cons.injEq] at h2;simp only[aA,eQ] at h3;simp only[aA,fL];exact⟨⟨h1.1,by rw[h2.1];exact h3.1⟩,fL.hE h1.2 h2.2 h3.2⟩
 | [],_::_,_,h,_,_=>by simp at h
 | _::_,[],_,h,_,_=>by simp at h
noncomputable def qM(G H:Hp)(l:List Addr):Hp:=fun a=>if a∈l then H a else G a
theorem t8{G H:Hp}{l:List Addr}{a:Addr}(h:a∈l):qM G H l a=H a:=if_pos h
theorem su{G H:Hp}{l:List Addr}{a:Addr}(h:a∉l):qM G H l a=G a:=if_neg h
theorem Aj{G H:Hp}{l:List Addr}(h:∀q∈l,G q=none):e8 G (qM G H l):=fun b u e=>by
 rw[su (fun z=>by rw[h b z] at e;cases e)];exact e
theorem lx.freeze{K:Z9}{G H:Hp}{p:Addr}{fp:List Addr}{o:OV}(h:lx K G H p fp o)(hn:∀q∈p::fp,G q=none):Rep K (qM G H (p::fp)) (.ref p) o.val:=by
 have hs:=Aj (H:=H) hn;have hp:qM G H (p::fp) p=H p:=t8 (by simp);cases o with
 | ll gw=>
  simp only[OV.val,Rep];exact⟨p,_,rfl,mx.of (by rw[hp];exact h.1),h.2.oZ hs fun q hq xs e=>by rw[t8 (by simp[hq])];exact e⟩
 | dc kvs=>
  obtain⟨rfl,ks,ep,h1,h2⟩:=h;simp only[OV.val,Rep];exact⟨p,ks,ep,rfl,by rw[hp];exact h1,eZ.mono hs _ _ h2⟩
 | dl kvs=>
  obtain⟨ks,ep,h1,h2,h3,h4⟩:=h;simp only[OV.val,Rep];exact⟨p,ks,ep,rfl,by rw[hp];exact h1,eZ.hE h2 h3 (h4.oZ hs fun q hq xs e=>by rw[t8 (by simp[hq])];exact e)⟩
 | tl d ds=>
  obtain⟨r,v,xs,rfl,h1,h2,h3,h4⟩:=h;simp only[OV.val,Rep];refine⟨p,_,rfl,(by rw[hp];exact h1),eQ.cons (h2.mono hs) (eQ.cons ?_ eQ.nil)⟩;simp only[Rep];exact⟨r,xs,rfl,mx.of (by rw[t8 (by simp)];exact h3),h4.mono hs⟩
 | dt kvs=>
  obtain⟨ks,bs,h1,hk,h2,h3,h4⟩:=h;simp only[OV.val,Rep];exact⟨p,ks,bs,rfl,by rw[hp];exact h1,hk.mono hs,iZ.hE h2 h3 (h4.oZ hs fun q hq xs e=>by rw[t8 (by simp[hq])];exact e)⟩
 | tp ds=>
  obtain⟨rfl,xs,h1,h2⟩:=h;simp only[OV.val,Rep];exact⟨p,xs,rfl,(by rw[hp];exact h1),h2.mono hs⟩
 | ob cn fs=>
  obtain⟨C,dx,gs,h1,hc,hn,h2,h3,h4⟩:=h;simp only[OV.val,Rep];refine⟨p,C,dx,gs,rfl,by rw[hp];exact h1,hc,fun u hu=>?_,fL.hE h2 h3 (h4.oZ hs fun q hq xs e=>by rw[t8 (by simp[hq])];exact e)⟩;obtain⟨v,hv,rfl⟩:=aK.mp hu;exact hn v hv
 | ld x8=>
  simp only[OV.val,Rep];exact⟨p,_,rfl,mx.of (by rw[hp];exact h.1),h.2.oZ hs fun q hq u e=>by rw[t8 (by simp[hq])];exact e⟩
 | dq kvs=>
  obtain⟨rfl,ks,bs,h1,hk,h2⟩:=h;simp only[OV.val,Rep];exact⟨p,ks,bs,rfl,by rw[hp];exact h1,hk.mono hs,iZ.mono hs _ _ h2⟩
noncomputable abbrev Ev:=List Sl
noncomputable def gt:Ev->Nat->Sl
 | [],_=>.un
 | a::_,0=>a
 | _::r,n+1=>gt r n
theorem yz{ρ:Ev}{i j:Nat}{s:Sl}:gt (ρ.set i s) j=if i=j/\j<ρ.length then s else gt ρ j:=by
 induction ρ generalizing i j with
 | nil=>simp[gt]
 | cons a r ih=>
  cases i with
  | zero=>
   cases j with
   | zero=>simp[gt]
   | succ j=>simp[gt]
  | succ i=>
   cases j with
   | zero=>simp[gt]
   | succ j=>simp[gt,ih]
def gR(K:Z9)(G' H' H:Hp)(v:V):R->Prop
 | .fz d=>Rep K G' v d
 | .ow ds=>∃p xs,v=.ref p/\H p=none/\G' p=none/\H' p=some (.lst xs)/\eQ K G' xs ds
 | .ov o=>∃p fp,v=.ref p/\(p::fp).Nodup/\lx K G' H' p fp o/\∀q∈p::fp,H q=none/\G' q=none
structure gj (K:Z9) (G0 H0:Hp) (ρ:Ev) (σ:St) (G H:Hp):Prop where
 e:Ext G0 H0 G H
 len:σ.length=ρ.length
 fz:∀i d,gt ρ i=.fz d->∃v,σ[i]?=some (some v)/\Rep K G v d
 ow:∀i ds,gt ρ i=.ow ds->∃p xs,σ[i]?=some (some (.ref p))/\H p=some (.lst xs)/\G p=none/\H0 p=none/\eQ K G xs ds
 dj:∀i j ds es,i≠j->gt ρ i=.ow ds->gt ρ j=.ow es->σ[i]?≠σ[j]?
 on:∃own:Addr->Option Nat,(∀i ds p,gt ρ i=.ow ds->σ[i]?=some (some (.ref p))->own p=some i)/\∀i o,gt ρ i=.ov o->∃p fp,σ[i]?=some (some (.ref p))/\(p::fp).Nodup/\lx K G H p fp o/\∀q∈p::fp,G q=none/\H0 q=none/\own q=some i
section
variable {K:Z9} {G0 H0 G H G' H' G2 H2:Hp} {ρ:Ev} {σ:St} {v:V}
theorem gj.ext(E:gj K G0 H0 ρ σ G H)(x:Ext G H G' H'):gj K G0 H0 ρ σ G' H' where
 e:=E.e.trans x
 len:=E.len
 fz:=fun i d h=>let⟨v,h1,h2⟩:=E.fz i d h;⟨v,h1,h2.mono x.g⟩
 ow:=fun i ds h=>let⟨p,xs,h1,h2,h3,h4,h5⟩:=E.ow i ds h;⟨p,xs,h1,x.h _ _ h2,x.n p h3 (by rw[h2];exact nofun),h4,h5.mono x.g⟩
 dj:=E.dj
 on:=by
  obtain⟨own,h1,h2⟩:=E.on;refine⟨own,h1,fun i o h=>?_⟩;obtain⟨p,fp,b1,b2,b3,b4⟩:=h2 i o h;exact⟨p,fp,b1,b2,b3.mono x.g fun q _ u e=>x.h q u e,fun q hq=>⟨x.n q (b4 q hq).1 (b3.here q hq),(b4 q hq).2⟩⟩
theorem gR.freeze{r:R}(x:Ext G H G' H')(h:gR K G' H' H v r):∃G2,Ext G H G2 H'/\Rep K G2 v r.val/\e8 G' G2:=by
 cases r with
 | fz d=>exact⟨G',x,h,e8.refl _⟩
 | ow ds=>
  obtain⟨p,xs,h1,h2,h3,h4,h5⟩:=h;refine⟨upd G' p (.lst xs),⟨x.g.trans (vN h3),x.h,fun b o e=>?_,fun q o8 kx=>?_⟩,?_,vN h3⟩
  ·by_cases hb:b=p
   ·subst hb;rw[jz] at e;rw[h4];exact e
   ·rw[gA hb] at e;exact x.s b o e
  ·rw[gA (fun z=>kx (by rw[z];exact h2))];exact x.n q o8 kx
  ·show Rep K (upd G' p (.lst xs)) v (.lst ds);simp only[Rep];exact⟨p,xs,h1,mx.of jz,h5.mono (vN h3)⟩
 | ov o=>
  obtain⟨p,fp,rfl,h1,h2,h3⟩:=h;have hn:∀q∈p::fp,G' q=none:=fun q hq=>(h3 q hq).2
  refine⟨qM G' H' (p::fp),⟨x.g.trans (Aj hn),x.h,fun b u e=>?_,fun q o8 kx=>?_⟩,h2.freeze hn,Aj hn⟩
  ·by_cases hb:b∈p::fp
   ·rw[t8 hb] at e;exact e
   ·rw[su hb] at e;exact x.s b u e
  ·rw[su (fun z=>kx (h3 q z).1)];exact x.n q o8 kx
theorem gR.iX{r:R}{H1 H3:Hp}(s:e8 H3 H1)(h:gR K G' H' H1 v r):gR K G' H' H3 v r:=by
 cases r with
 | fz d=>exact h
 | ow ds=>
  obtain⟨p,xs,h1,h2,h3,h4,h5⟩:=h;exact⟨p,xs,h1,s.free h2,h3,h4,h5⟩
 | ov o=>
  obtain⟨p,fp,rfl,h1,h2,h3⟩:=h;exact⟨p,fp,rfl,h1,h2,fun q hq=>⟨s.free (h3 q hq).1,(h3 q hq).2⟩⟩
end
noncomputable abbrev TD:=Ev->(R->Prop)->Prop
noncomputable abbrev kz:=Ev->(Bool->Prop)->Prop
noncomputable abbrev lq:=Ev->(List D->Prop)->Prop
structure DE where
 nx:Ev->Prop
 rt:R->Prop
 bk:Ev->Prop:=fun _=>False
 ct:Ev->Prop:=fun _=>False
noncomputable abbrev TX:=DE->Ev->Prop
def PD(X:Cx)(e:Expr)(t:TD):Prop:=∃tt,PE X e tt/\∀(ρ:Ev) (σ:St) (G0 H0 G H:Hp) (Q:R->Prop) (P:VK),gj X.K G0 H0 ρ σ G H->t ρ Q->
 (∀v H' r G',Ext G H G' H'->gR X.K G' H' H v r->Q r->P v H')->tt σ H P
def PB(X:Cx)(e:Expr)(t:kz):Prop:=∃tt,PT X e tt/\∀(ρ:Ev) (σ:St) (G0 H0 G H:Hp) (Q:Bool->Prop) (P:Bool->Hp->Prop),gj X.K G0 H0 ρ σ G H->t ρ Q->
 (∀b H' G',Ext G H G' H'->Q b->P b H')->tt σ H P
def oJ(X:Cx)(es:List Expr)(t:lq):Prop:=∃tt,PA X es tt/\∀(ρ:Ev) (σ:St) (G0 H0 G H:Hp) (Q:List D->Prop) (P:List V->Hp->Prop),gj X.K G0 H0 ρ σ G H->t ρ Q->
 (∀vs H' ds G',Ext G H G' H'->eQ X.K G' vs ds->Q ds->P vs H')->tt σ H P
structure Goes (K:Z9) (G0 H0 G:Hp) (D:DE) (E:Ends):Prop where
 nx:∀ρ σ G' H',e8 G G'->gj K G0 H0 ρ σ G' H'->D.nx ρ->E.nx σ H'
 rt:∀v H' r G',Ext G0 H0 G' H'->gR K G' H' H0 v r->D.rt r->E.rt v H'
 bk:∀ρ σ G' H',e8 G G'->gj K G0 H0 ρ σ G' H'->D.bk ρ->E.bk σ H'
 ct:∀ρ σ G' H',e8 G G'->gj K G0 H0 ρ σ G' H'->D.ct ρ->E.ct σ H'
theorem Goes.shift{K:Z9}{G0 H0 G G':Hp}{D:DE}{E:Ends}(g:Goes K G0 H0 G D E)(s:e8 G G'):Goes K G0 H0 G' D E:=
 ⟨fun ρ σ G2 H2 s2=>g.nx ρ σ G2 H2 (s.trans s2),g.rt,fun ρ σ G2 H2 s2=>g.bk ρ σ G2 H2 (s.trans s2),fun ρ σ G2 H2 s2=>g.ct ρ σ G2 H2 (s.trans s2)⟩
def PX(X:Cx)(st:Stmt)(t:TX):Prop:=∃tt,PS X st tt/\∀(ρ:Ev) (σ:St) (G0 H0 G H:Hp) (D:DE) (E:Ends),gj X.K G0 H0 ρ σ G H->t D ρ->Goes X.K G0 H0 G D E->tt E σ H
def p5(X:Cx)(st:List Stmt)(t:TX):Prop:=∃tt,p6 X st tt/\∀(ρ:Ev) (σ:St) (G0 H0 G H:Hp) (D:DE) (E:Ends),gj X.K G0 H0 ρ σ G H->t D ρ->Goes X.K G0 H0 G D E->tt E σ H
section
variable {X:Cx} {pos:Pos} {a b c:Expr} {ta tb tc:TD}
theorem iJ{K:Z9}{G' H' H:Hp}{v:V}{d:D}(h:Rep K G' v d):gR K G' H' H v (.fz d):=h
def eP(i:Nat):TD:=fun ρ Q=>match gt ρ i with
 | .fz d=>Q (.fz d)
 | _=>False
theorem eR(i:Nat){x:Str}(hN:X.N[i]?=some x:=by rfl)(hv:nV X.env.scope x:=by first | exact Or.inl rfl | exact Or.inr (Or.inl rfl) | exact Or.inr (Or.inr rfl))(hd:(x==("__debug__":Str))=false:=by decide)
  (iS:(x==("__classdict__":Str))=false:=by decide):PD X (.Name x pos) (eP i):=by
 refine⟨_,pE hN hv hd iS,fun ρ σ G0 H0 G H Q P E h k=>?_⟩;unfold eP at h;split at h
 ·rename_i d e;obtain⟨v,h1,h2⟩:=E.fz i d e;exact⟨v,h1,k v H (.fz d) G (.refl E.e.s) h2 h⟩
 ·exact h.elim
def dC(d:D):TD:=fun _ Q=>Q (.fz d)
theorem Af{e:Expr}{v:V}{d:D}(h:PE X e (tC v))(r:∀K G,Rep K G v d):PD X e (dC d):=
 ⟨_,h,fun ρ σ G0 H0 G H Q P E h k=>k v H (.fz d) G (.refl E.e.s) (r _ _) h⟩
theorem k5(K:Z9)(G:Hp)(i:Int):Rep K G (.int i) (.int i):=by simp only[Rep]
theorem nt(K:Z9)(G:Hp)(i:Bool):Rep K G (.bl i) (.bl i):=by simp only[Rep]
theorem yF(K:Z9)(G:Hp)(i:Str):Rep K G (.str i) (.str i):=by simp only[Rep]
theorem Jz(K:Z9)(G:Hp):Rep K G .non .non:=by simp only[Rep]
theorem ff{i j}:PD X (.Constant (.int i) j pos) (dC (.int i)):=Af IM fun K G=>k5 K G i
theorem uF{i j}:PD X (.Constant (.bool i) j pos) (dC (.bl i)):=Af N0 fun K G=>nt K G i
theorem oS{i j}:PD X (.Constant (.str i) j pos) (dC (.str i)):=Af Qc fun K G=>yF K G i
theorem mU{j}:PD X (.Constant .none j pos) (dC .non):=Af Qd fun K G=>Jz K G
theorem RV{x:Str}{i:Int}{t:Tok}(hm:X.mg x=some (.int i t))(hg:Gl X x:=by rfl)(hd:(x==("__debug__":Str))=false:=by decide):PD X (.Name x pos) (dC (.int i)):=Af (Rz hg hm (v:=.int i) ⟨t,rfl⟩ hd) fun K G=>k5 K G i
noncomputable abbrev O2:=D->D->(R->Prop)->Prop
def nC(X:Cx)(f:Value->Value->Sem Value)(o:O2):Prop:=∃r:R2,i3 X f r/\∀(G H:Hp) (x y:V) (d e:D) (Q:R->Prop) (P:VK),e8 G H->Rep X.K G x d->Rep X.K G y e->o d e Q->
 (∀v H' r' G',Ext G H G' H'->gR X.K G' H' H v r'->Q r'->P v H')->r x y H P
def eV(o:O2)(ta tb:TD):TD:=fun ρ Q=>ta ρ fun ra=>tb ρ fun rb=>o ra.val rb.val Q
theorem Cs{r:R2}{o:O2}{AW AV:TE}
  (hr:∀(G H:Hp) (x y:V) (d e:D) (Q:R->Prop) (P:VK),e8 G H->Rep X.K G x d->Rep X.K G y e->o d e Q->(∀v H' r' G',Ext G H G' H'->gR X.K G' H' H v r'->Q r'->P v H')->r x y H P)
  (ha:∀(ρ:Ev) (σ:St) (G0 H0 G H:Hp) (Q:R->Prop) (P:VK),gj X.K G0 H0 ρ σ G H->ta ρ Q->(∀v H' r G',Ext G H G' H'->gR X.K G' H' H v r->Q r->P v H')->AW σ H P)
  (hb:∀(ρ:Ev) (σ:St) (G0 H0 G H:Hp) (Q:R->Prop) (P:VK),gj X.K G0 H0 ρ σ G H->tb ρ Q->(∀v H' r G',Ext G H G' H'->gR X.K G' H' H v r->Q r->P v H')->AV σ H P)
  (ρ:Ev) (σ:St) (G0 H0 G H:Hp) (Q:R->Prop) (P:VK) (E:gj X.K G0 H0 ρ σ G H) (h:eV o ta tb ρ Q) (k:∀v H' r G',Ext G H G' H'->gR X.K G' H' H v r->Q r->P v H'):A0 r AW AV σ H P:=by
 refine ha ρ σ G0 H0 G H _ _ E h fun v H1 ra G1 x1 r1 h1=>?_
 obtain⟨HU,vV,q1,_⟩:=r1.freeze x1;refine hb ρ σ G0 H0 HU H1 _ _ (E.ext vV) h1 fun u H2 rb G2 x2 r2 h2=>?_
 obtain⟨DQ,vU,q2,_⟩:=r2.freeze x2;refine hr DQ H2 v u _ _ Q P vU.s (q1.mono vU.g) q2 h2 fun v' H' r' G' x3 r3 h3=>?_
 have x4:=(vV.trans vU).trans x3;exact k v' H' r' G' x4 (r3.iX (vV.trans vU).h) h3
theorem fB{op:Operator}{o:O2}(ho:nC X (binaryOp op) o)(ha:PD X a ta)(hb:PD X b tb):PD X (.BinOp a op b pos) (eV o ta tb):=by
 obtain⟨r,hr,rh⟩:=ho;obtain⟨AW,pa,qa⟩:=ha;obtain⟨AV,pb,qb⟩:=hb;exact⟨_,IC hr pa pb,Cs rh qa qb⟩
theorem w8{op:CmpOp}{o:O2}(ho:nC X (compareOp op) o)(ha:PD X a ta)(hb:PD X b tb)(hm:behindInMarks op b=false:=by first | exact IJ _ | rfl):PD X (.Compare a [op] [b] pos) (eV o ta tb):=by
 obtain⟨r,hr,rh⟩:=ho;obtain⟨AW,pa,qa⟩:=ha;obtain⟨AV,pb,qb⟩:=hb;exact⟨_,RC hr pa pb hm,Cs rh qa qb⟩
def fP(t:TD):kz:=fun ρ Q=>t ρ fun r=>match r with
 | .fz (.bl k)=>Q k
 | _=>False
theorem gB{op:CmpOp}{o:O2}(ho:nC X (compareOp op) o)(ha:PD X a ta)(hb:PD X b tb)(hm:behindInMarks op b=false:=by first | exact IJ _ | rfl):PB X (.Compare a [op] [b] pos) (fP (eV o ta tb)):=by
 obtain⟨r,hr,rh⟩:=ho;obtain⟨AW,pa,qa⟩:=ha;obtain⟨AV,pb,qb⟩:=hb;refine⟨_,QL hr pa pb hm,fun ρ σ G0 H0 G H Q P E h k=>?_⟩;refine Cs rh qa qb ρ σ G0 H0 G H _ _ E h fun v H' r G' x1 r1 h1=>?_
 split at h1
 ·rename_i kk;have e:v=.bl kk:=by simpa only[gR,Rep] using r1
  exact⟨kk,e,k kk H' G' x1 h1⟩
 ·exact h1.elim
theorem vI{e:Expr}{t:TD}(h:PD X e t)(he:∀whole,isTrue e X.env whole=(do let v <-whole;standAt e.pos;holding [v] (truthy v)):=by intro _;rfl):PB X e (fP t):=by
 obtain⟨tt,p,q⟩:=h;refine⟨_,Qb p he,fun ρ σ G0 H0 G H Q P E h k=>?_⟩;refine q ρ σ G0 H0 G H _ _ E h fun v H' r G' x1 r1 h1=>?_
 split at h1
 ·rename_i kk;have e:v=.bl kk:=by simpa only[gR,Rep] using r1
  exact⟨kk,e,k kk H' G' x1 h1⟩
 ·exact h1.elim
def iq:O2:=fun d e Q=>match d,e with
 | .int i,.int j=>Q (.fz (.int (i+j)))
 | .str x,.str y=>x.length+y.length<=sizeLine/\Q (.fz (.str (x++y)))
 | .lst xs,.lst ys=>xs.length+ys.length<=sizeLine/\Q (.ow (xs++ys))
 | _,_=>False
def Oh(K:Z9):R2:=fun x y H Q=>∃l b xs zs,x=.ref l/\y=.ref b/\mx K H l xs/\mx K H b zs/\xs.length+zs.length<=sizeLine/\∀p,H p=none->Q (.ref p) (upd H p (.lst (xs++zs)))
theorem Qx:i3 X (binaryOp .Add) (Oh X.K):=by
 intro Z8 s σ H x y v u Q I rx ry h;obtain⟨l,b,xs,zs,rfl,rfl,hH,hB,hz,q⟩:=h;cases rx;cases ry;obtain⟨z,its,n,r,e⟩:=I.iF hH;obtain⟨z2,m7,n2,r2,e2⟩:=I.iF hB;have hl:=r.length;have Dv:=r2.length;refine PySem.P.add_list e e2 ?_ (by rw[aw,aw];omega);have ea:its.toArray++m7.toArray=(its++m7).toArray:=by simp
 rw[ea];exact⟨.ref _,_,I.xG (t':=s.toks) (r.append r2) (by rw[au];omega),rfl,q _ I.fresh⟩
theorem uJ{G H:Hp}{xs:List V}{ds:List D}{Q:R->Prop}{P:VK}(s:e8 G H)(r:eQ X.K G xs ds)(q:Q (.ow ds))
  (k:∀v H' r' G',Ext G H G' H'->gR X.K G' H' H v r'->Q r'->P v H'):∀p,H p=none->P (.ref p) (upd H p (.lst xs)):=fun p hp=>
 k _ _ (.ow ds) G (.own s hp) ⟨p,xs,rfl,hp,s.free hp,jz,r⟩ q
theorem iR:nC X (binaryOp .Add) iq:=by
 refine⟨_,xA.or (pR.or Qx),fun G H x y d e Q P s rx ry h k=>?_⟩;unfold iq at h;split at h
 ·simp only[Rep] at rx ry;exact .inl ⟨_,_,rx,ry,k _ _ _ G (.refl s) (iJ (k5 _ _ _)) h⟩
 ·simp only[Rep] at rx ry;exact .inr (.inl ⟨_,_,rx,ry,h.1,k _ _ _ G (.refl s) (iJ (yF _ _ _)) h.2⟩)
 ·simp only[Rep] at rx ry;obtain⟨a,xs,rfl,hx,LS⟩:=rx;obtain⟨b,ys,rfl,hy,ue⟩:=ry;refine .inr (.inr ⟨_,_,_,_,rfl,rfl,s.iF hx,s.iF hy,by rw[LS.length,ue.length];exact h.1,uJ s (LS.append ue) h.2 k⟩)
 ·exact h.elim
def oI(C:Int->Int->Prop)(g:Int->Int->D):O2:=fun d e Q=>match d,e with
 | .int i,.int j=>C i j/\Q (.fz (g i j))
 | _,_=>False
def jD(g:Int->Int->D):O2:=fun d e Q=>match d,e with
 | .int i,.int j=>Q (.fz (g i j))
 | _,_=>False
theorem Cf{f:Value->Value->Sem Value}{C:Int->Int->Prop}{g:Int->Int->V}{g':Int->Int->D}(h:i3 X f (rI C g))(hg:∀K G i j,Rep K G (g i j) (g' i j)):nC X f (oI C g'):=by
 refine⟨_,h,fun G H x y d e Q P s rx ry h k=>?_⟩;unfold oI at h;split at h
 ·simp only[Rep] at rx ry;exact⟨_,_,rx,ry,h.1,k _ _ _ G (.refl s) (iJ (hg _ _ _ _)) h.2⟩
 ·exact h.elim
theorem Et{f:Value->Value->Sem Value}{g:Int->Int->V}{g':Int->Int->D}(h:i3 X f (qz g))(hg:∀K G i j,Rep K G (g i j) (g' i j)):nC X f (jD g'):=by
 refine⟨_,h,fun G H x y d e Q P s rx ry h k=>?_⟩;unfold jD at h;split at h
 ·simp only[Rep] at rx ry;exact⟨_,_,rx,ry,k _ _ _ G (.refl s) (iJ (hg _ _ _ _)) h⟩
 ·exact h.elim
theorem Iy:nC X (binaryOp .Sub) (jD fun i j=>.int (i-j)):=Et PZ fun K G i j=>k5 K G _
theorem vv:nC X (binaryOp .Mult) (oI lB fun i j=>.int (i*j)):=Cf PY fun K G i j=>k5 K G _
theorem mT:nC X (binaryOp .FloorDiv) (oI lT fun i j=>.int (i/j)):=Cf RE fun K G i j=>k5 K G _
theorem jK:nC X (binaryOp .Mod) (oI (fun _ j=>0<j) fun i j=>.int (i%j)):=Cf PV fun K G i j=>k5 K G _
theorem Ce:nC X (binaryOp .Pow) (oI tX fun i j=>.int (i ^ j.toNat)):=Cf PU fun K G i j=>k5 K G _
theorem yn:nC X (compareOp .Lt) (jD fun i j=>.bl (decide (i<j))):=Et Co fun K G i j=>nt K G _
theorem Cc:nC X (compareOp .Gt) (jD fun i j=>.bl (decide (j<i))):=Et NQ fun K G i j=>nt K G _
end
open PySem.SeqAt
mutual
noncomputable def fS:D->D->Bool
 | .non,.non=>true
 | .bl a,.bl b=>a==b
 | .bl a,.int b=>(if a then 1 else 0)==b
 | .int a,.bl b=>a==(if b then 1 else 0)
 | .int a,.int b=>a==b
 | .str a,.str b=>a==b
 | .tup xs,.tup ys=>oo xs ys
 | .lst xs,.lst ys=>oo xs ys
 | _,_=>false
noncomputable def oo:List D->List D->Bool
 | [],[]=>true
 | x::xs,y::ys=>fS x y&&oo xs ys
 | _,_=>false
end
def fQ:Nat->D->Prop
 | _,.non=>True
 | _,.bl _=>True
 | _,.int _=>True
 | _,.str _=>True
 | n+1,.tup ds=>∀d∈ds,fQ n d
 | n+1,.lst ds=>∀d∈ds,fQ n d
 | _,_=>False
theorem fQ.mono:∀{n m:Nat} {d:D},n<=m->fQ n d->fQ m d
 | n,m,.non,_,_=>by cases m<;>exact trivial
 | n,m,.bl _,_,_=>by cases m<;>exact trivial
 | n,m,.int _,_,_=>by cases m<;>exact trivial
 | n,m,.str _,_,_=>by cases m<;>exact trivial
 | 0,m,.tup ds,_,h=>by cases h
 | 0,m,.lst ds,_,h=>by cases h
 | n+1,0,.tup ds,l,h=>by omega
 | n+1,0,.lst ds,l,h=>by omega
 | n+1,m+1,.tup ds,l,h=>fun d hd=>fQ.mono (by omega) (h d hd)
 | n+1,m+1,.lst ds,l,h=>fun d hd=>fQ.mono (by omega) (h d hd)
 | 0,m,.obj _ _,_,h=>by cases h
 | n+1,m,.obj _ _,_,h=>by cases h
 | 0,m,.dic _,_,h=>by cases h
 | 0,m,.dit _,_,h=>by cases h
 | 0,m,.exc _,_,h=>by cases h
 | n+1,m,.dic _,_,h=>by cases h
 | n+1,m,.dit _,_,h=>by cases h
 | n+1,m,.exc _,_,h=>by cases h
mutual
theorem xk:∀(n:Nat) (d:D),fQ n d->fS d d=true
 | n,.non,_=>by simp only[fS]
 | n,.bl _,_=>by simp only[fS,de]
 | n,.int _,_=>by simp only[fS,de]
 | n,.str _,_=>by simp only[fS,de]
 | 0,.tup ds,h=>by cases h
 | 0,.lst ds,h=>by cases h
 | n+1,.tup ds,h=>by simp only[fS];exact Fs n ds h
 | n+1,.lst ds,h=>by simp only[fS];exact Fs n ds h
 | 0,.obj _ _,h=>by cases h
 | n+1,.obj _ _,h=>by cases h
 | 0,.dic _,h=>by cases h
 | 0,.dit _,h=>by cases h
 | 0,.exc _,h=>by cases h
 | n+1,.dic _,h=>by cases h
 | n+1,.dit _,h=>by cases h
 | n+1,.exc _,h=>by cases h
theorem Fs:∀(n:Nat) (ds:List D),(∀d∈ds,fQ n d)->oo ds ds=true
 | n,[],_=>by simp only[oo]
 | n,d::ds,h=>by simp only[oo,xk n d (h d (by simp)),Fs n ds (fun e he=>h e (by simp[he])),Bool.and_self]
end
theorem Ae:∀{xs ys:List D},xs.length≠ys.length->oo xs ys=false
 | [],[],h=>absurd rfl h
 | x::xs,y::ys,h=>by
  rw[oo,Ae (xs:=xs) (ys:=ys) (by simpa using h),Bool.and_false]
 | [],_::_,_=>by simp only[oo]
 | _::_,[],_=>by simp only[oo]
theorem Ad:∀(xs ys:List D),xs.length=ys.length->oo xs ys=(List.range xs.length).all fun j=>fS (xs.getD j .non) (ys.getD j .non)
 | [],[],_=>by simp[oo]
 | x::xs,y::ys,h=>by
  rw[oo,Ad xs ys (by simpa using h),aE,List.range_succ_eq_map,List.all_cons,List.all_map];congr 1
 | [],_::_,h=>by simp at h
 | _::_,[],h=>by simp at h
theorem E5(xs ys:List D):((List.range (min xs.length ys.length)).all (fun j=>fS (xs.getD j .non) (ys.getD j .non))&&xs.length==ys.length)=oo xs ys:=by
 by_cases h:xs.length=ys.length
 ·rw[Ad xs ys h,h];simp
 ·rw[Ae h];simp[h]
section
variable {X:Cx} {Z8:List (Addr×Obj)} {σ:St} {H:Hp} {s:Shared}
mutual
theorem CK(I:Inv X Z8 σ H s):∀(n:Nat) (d e:D) (v:V),fQ n d->fQ n e->Rep X.K H v d->Rep X.K H v e->d=e
 | n,.non,e,v,h,h',r,r'=>by
  cases e<;>simp only[Rep] at r r'<;>subst r<;>first | rfl | (simp at r';done) | (simp only[V.bl.injEq,V.int.injEq,V.str.injEq] at r';rw[r'])
 | n,.bl b,e,v,h,h',r,r'=>by
  cases e<;>simp only[Rep] at r r'<;>subst r<;>first | rfl | (simp at r';done) | (simp only[V.bl.injEq,V.int.injEq,V.str.injEq] at r';rw[r'])
 | n,.int b,e,v,h,h',r,r'=>by
  cases e<;>simp only[Rep] at r r'<;>subst r<;>first | rfl | (simp at r';done) | (simp only[V.bl.injEq,V.int.injEq,V.str.injEq] at r';rw[r'])
 | n,.str b,e,v,h,h',r,r'=>by
  cases e<;>simp only[Rep] at r r'<;>subst r<;>first | rfl | (simp at r';done) | (simp only[V.bl.injEq,V.int.injEq,V.str.injEq] at r';rw[r'])
 | 0,.tup ds,e,v,h,h',r,r'=>by cases h
 | 0,.lst ds,e,v,h,h',r,r'=>by cases h
 | n+1,.tup ds,e,v,h,h',r,r'=>by
  simp only[Rep] at r;obtain⟨a,xs,rfl,q,rs⟩:=r;cases e<;>simp only[Rep] at r'
  case tup es=>
   obtain⟨b,ys,e1,q',k9⟩:=r';cases e1;rw[I.nz (iK.of q') (iK.of q)] at k9;rw[EZ I n ds es xs h h' rs k9]
  case lst es=>
   obtain⟨b,ys,e1,q',k9⟩:=r';cases e1;obtain⟨its,_,ht,_⟩:=I.tuple (iK.of q);obtain⟨its',_,hl,_⟩:=I.list q'.sq;exact absurd rfl (ne_of_list_tuple hl.isList (show s.heap.IsTuple a its.toArray from ht))
  case obj=>cases h'
  case dic=>cases h'
  case dit=>cases h'
  case exc=>cases h'
  all_goals cases r'
 | n+1,.lst ds,e,v,h,h',r,r'=>by
  simp only[Rep] at r;obtain⟨a,xs,rfl,q,rs⟩:=r;cases e<;>simp only[Rep] at r'
  case lst es=>
   obtain⟨b,ys,e1,q',k9⟩:=r';cases e1;rw[I.jE q'.sq q.sq] at k9;rw[EZ I n ds es xs h h' rs k9]
  case tup es=>
   obtain⟨b,ys,e1,q',k9⟩:=r';cases e1;obtain⟨its,_,ht,_⟩:=I.tuple (iK.of q');obtain⟨its',_,hl,_⟩:=I.list q.sq;exact absurd rfl (ne_of_list_tuple hl.isList (show s.heap.IsTuple a its.toArray from ht))
  case obj=>cases h'
  case dic=>cases h'
  case dit=>cases h'
  case exc=>cases h'
  all_goals cases r'
 | 0,.obj _ _,_,_,h,_,_,_=>by cases h
 | n+1,.obj _ _,_,_,h,_,_,_=>by cases h
 | 0,.dic _,_,_,h,_,_,_=>by cases h
 | 0,.dit _,_,_,h,_,_,_=>by cases h
 | 0,.exc _,_,_,h,_,_,_=>by cases h
 | n+1,.dic _,_,_,h,_,_,_=>by cases h
 | n+1,.dit _,_,_,h,_,_,_=>by cases h
 | n+1,.exc _,_,_,h,_,_,_=>by cases h
theorem EZ(I:Inv X Z8 σ H s):∀(n:Nat) (ds es:List D) (vs:List V),(∀d∈ds,fQ n d)->(∀d∈es,fQ n d)->eQ X.K H vs ds->eQ X.K H vs es->ds=es
 | n,[],[],_,_,_,_,_=>rfl
 | n,d::ds,e::es,v::vs,h,h',r,r'=>by
  simp only[eQ] at r r';rw[CK I n d e v (h d (by simp)) (h' e (by simp)) r.1 r'.1,EZ I n ds es vs (fun x hx=>h x (by simp[hx])) (fun x hx=>h' x (by simp[hx])) r.2 r'.2]
 | n,[],_::_,[],_,_,_,r=>by simp only[eQ] at r
 | n,[],_::_,_::_,_,_,r,_=>by simp only[eQ] at r
 | n,_::_,[],[],_,_,r,_=>by simp only[eQ] at r
 | n,_::_,[],_::_,_,_,_,r=>by simp only[eQ] at r
 | n,_::_,_::_,[],_,_,r,_=>by simp only[eQ] at r
end
theorem qQ{vs:List V}{ds:List D}{us:List Value}{j:Nat}(rv:Vals vs us)(rd:eQ X.K H vs ds)(hj:j<us.toArray.size):∃v,RelV v us.toArray[j]/\Rep X.K H v (ds.getD j .non)/\ds.getD j .non∈ds:=by
 have h1:j<us.length:=by simpa using hj
 have h2:j<vs.length:=by rw[rv.length];exact h1
 have h3:j<ds.length:=by rw[<-rd.length];exact h2
 obtain⟨u,hu,ru⟩:=rv.get (ai h2);obtain⟨d,hd,XW⟩:=rd.BP (ai h2);rw[ai h1] at hu;rw[ai h3] at hd;cases hu;cases hd;refine⟨vs[j],?_,?_,?_⟩
 ·simpa using ru
 ·simpa[List.getD,h3] using XW
 ·simp[List.getD,h3]
noncomputable def yw:D->Bool
 | .non=>true
 | .bl _=>true
 | .int _=>true
 | .str _=>true
 | _=>false
theorem Jy{d e:D}{x y:V}(hd:yw d=true)(he:yw e=true)(rx:Rep X.K H x d)(ry:Rep X.K H y e):Ci x=true/\Ci y=true/\HH x y=fS d e:=by
 cases d<;>first | cases hd | skip
 all_goals (cases e<;>first | cases he | skip)
 all_goals
  simp only[Rep] at rx ry;subst rx ry;exact⟨rfl,rfl,by simp[HH,fS]⟩
theorem zU(I:Inv X Z8 σ H s):∀(n:Nat) (A:Around) (d e:D) (x y:V) (v u:Value),fQ n d->fQ n e->A.units+n<cLine->Rep X.K H x d->Rep X.K H y e->RelV x v->RelV y u->EqAt A s v u (fS d e):=by
 intro n;induction n with
 | zero=>
  intro A d e x y v u hd he hu rx ry qx qy;have fd:yw d=true:=by cases d<;>first | rfl | cases hd
  have fe:yw e=true:=by cases e<;>first | rfl | cases he
  obtain⟨h1,h2,h3⟩:=Jy fd fe rx ry;rw[<-h3];exact IG qx qy h1 h2
 | succ n ih=>
  intro A d e x y v u hd he hu rx ry qx qy;have gy:A.units<cLine:=by omega
  have ui:A.in1.units+n<cLine:=by show A.units+1+n<cLine;omega
  by_cases fd:yw d=true
  ·by_cases fe:yw e=true
   ·obtain⟨h1,h2,h3⟩:=Jy fd fe rx ry;rw[<-h3];exact IG qx qy h1 h2
   ·cases e<;>first | exact absurd rfl fe | skip
    case tup es=>
     simp only[Rep] at ry;obtain⟨b,ys,rfl,q,rs⟩:=ry;cases qy;obtain⟨its,rv,ht,_⟩:=I.tuple (iK.of q);have fY:s.heap.IsTuple b its.toArray:=ht;cases d<;>first | cases fd | skip
     ·simp only[Rep] at rx;subst rx;cases qx;simpa only[fS] using EqAt.none_tuple fY gy
     ·simp only[Rep] at rx;subst rx;cases qx;simpa only[fS] using EqAt.bool_tuple _ fY gy
     ·simp only[Rep] at rx;subst rx;obtain⟨t,rfl⟩:=qx;simpa only[fS] using EqAt.int_tuple _ t fY gy
     ·simp only[Rep] at rx;subst rx;obtain⟨t,rfl⟩:=qx;simpa only[fS] using EqAt.str_tuple _ t fY gy
    case lst es=>
     simp only[Rep] at ry;obtain⟨b,ys,rfl,q,rs⟩:=ry;cases qy;obtain⟨its,rv,ht,_⟩:=I.list q.sq;have fY:=ht.isList;cases d<;>first | cases fd | skip
     ·simp only[Rep] at rx;subst rx;cases qx;simpa only[fS] using EqAt.none_list fY gy
     ·simp only[Rep] at rx;subst rx;cases qx;simpa only[fS] using EqAt.bool_list _ fY gy
     ·simp only[Rep] at rx;subst rx;obtain⟨t,rfl⟩:=qx;simpa only[fS] using EqAt.int_list _ t fY gy
     ·simp only[Rep] at rx;subst rx;obtain⟨t,rfl⟩:=qx;simpa only[fS] using EqAt.str_list _ t fY gy
    case obj=>cases he
    case dic=>cases he
    case dit=>cases he
    case exc=>cases he
  ·cases d<;>first | exact absurd rfl fd | skip
   case tup ds=>
    have Gn:=rx;simp only[Rep] at rx;obtain⟨a,xs,rfl,q,rs⟩:=rx;cases qx;obtain⟨its,rv,ht,_⟩:=I.tuple (iK.of q);have fY:s.heap.IsTuple a its.toArray:=ht;cases e
    case non=>simp only[Rep] at ry;subst ry;cases qy;simpa only[fS] using EqAt.tuple_none fY gy
    case bl=>simp only[Rep] at ry;subst ry;cases qy;simpa only[fS] using EqAt.tuple_bool _ fY gy
    case int=>simp only[Rep] at ry;subst ry;obtain⟨t,rfl⟩:=qy;simpa only[fS] using EqAt.tuple_int _ t fY gy
    case str=>simp only[Rep] at ry;subst ry;obtain⟨t,rfl⟩:=qy;simpa only[fS] using EqAt.tuple_str _ t fY gy
    case lst es=>
     simp only[Rep] at ry;obtain⟨b,ys,rfl,q',k9⟩:=ry;cases qy;obtain⟨its',m6,hl,_⟩:=I.list q'.sq;simpa only[fS] using EqAt.tuple_list fY hl.isList gy
    case tup es=>
     have Gm:=ry;simp only[Rep] at ry;obtain⟨b,ys,rfl,q',k9⟩:=ry;cases qy;obtain⟨its',m6,jF,_⟩:=I.tuple (iK.of q');by_cases nN:a=b
     ·subst nN;have e0:=CK I (n+1) _ _ _ hd he Gn Gm;rw[<-e0,xk (n+1) _ hd];exact EqAt.same _
     ·refine EqAt.of_refs nN ?_;have h:=RcAt.tuples (e:=fun j=>fS (ds.getD j .non) (es.getD j .non)) fY (show s.heap.IsTuple b its'.toArray from jF) gy fun j h1 h2=>by
       obtain⟨v1,a1,b1,c1⟩:=qQ rv rs h1;obtain⟨v2,a2,b2,c2⟩:=qQ m6 k9 h2;exact ih A.in1 _ _ v1 v2 _ _ (hd _ c1) (he _ c2) ui b1 b2 a1 a2
      have l1:its.toArray.size=ds.length:=by rw[aw,<-rv.length,rs.length]
      have l2:its'.toArray.size=es.length:=by rw[aw,<-m6.length,k9.length]
      rw[l1,l2,E5] at h;simpa only[fS] using h
    case obj=>cases he
    case dic=>cases he
    case dit=>cases he
    case exc=>cases he
   case lst ds=>
    have Gn:=rx;simp only[Rep] at rx;obtain⟨a,xs,rfl,q,rs⟩:=rx;cases qx;obtain⟨its,rv,ht,_⟩:=I.list q.sq;have fY:=ht.isList;cases e
    case non=>simp only[Rep] at ry;subst ry;cases qy;simpa only[fS] using EqAt.list_none fY gy
    case bl=>simp only[Rep] at ry;subst ry;cases qy;simpa only[fS] using EqAt.list_bool _ fY gy
    case int=>simp only[Rep] at ry;subst ry;obtain⟨t,rfl⟩:=qy;simpa only[fS] using EqAt.list_int _ t fY gy
    case str=>simp only[Rep] at ry;subst ry;obtain⟨t,rfl⟩:=qy;simpa only[fS] using EqAt.list_str _ t fY gy
    case tup es=>
     simp only[Rep] at ry;obtain⟨b,ys,rfl,q',k9⟩:=ry;cases qy;obtain⟨its',m6,hl,_⟩:=I.tuple (iK.of q');simpa only[fS] using EqAt.list_tuple fY (show s.heap.IsTuple b its'.toArray from hl) gy
    case lst es=>
     have Gm:=ry;simp only[Rep] at ry;obtain⟨b,ys,rfl,q',k9⟩:=ry;cases qy;obtain⟨its',m6,jF,_⟩:=I.list q'.sq;by_cases nN:a=b
     ·subst nN;have e0:=CK I (n+1) _ _ _ hd he Gn Gm;rw[<-e0,xk (n+1) _ hd];exact EqAt.same _
     ·refine EqAt.of_refs nN ?_;have l1:its.toArray.size=ds.length:=by rw[aw,<-rv.length,rs.length]
      have l2:its'.toArray.size=es.length:=by rw[aw,<-m6.length,k9.length]
      by_cases hl:ds.length=es.length
      ·have h:=RcAt.lists (e:=fun j=>fS (ds.getD j .non) (es.getD j .non)) fY jF.isList (by rw[l1,l2,hl]) gy fun j h1 h2=>by
        obtain⟨v1,a1,b1,c1⟩:=qQ rv rs h1;obtain⟨v2,a2,b2,c2⟩:=qQ m6 k9 h2;exact ih A.in1 _ _ v1 v2 _ _ (hd _ c1) (he _ c2) ui b1 b2 a1 a2
       rw[l1,<-Ad ds es hl] at h;simpa only[fS] using h
      ·have h:=RcAt.lists_lengths (A:=A) fY jF.isList (by rw[l1,l2];simpa using hl) gy;simp only[fS,Ae hl];exact h
    case obj=>cases he
    case dic=>cases he
    case dit=>cases he
    case exc=>cases he
   case obj=>cases hd
   case dic=>cases hd
   case dit=>cases hd
   case exc=>cases hd
end
section
variable {X:Cx} {Z8:List (Addr×Obj)} {σ:St} {H:Hp} {s:Shared}
theorem rX{y:V}{u:Value}(r:Rep X.K H y .non)(q:RelV y u):u=.none:=by simp only[Rep] at r;subst r;cases q;rfl
theorem rZ{y:V}{u:Value}{c:Bool}(r:Rep X.K H y (.bl c))(q:RelV y u):u=.bool c:=by simp only[Rep] at r;subst r;cases q;rfl
theorem rY{y:V}{u:Value}{i:Int}(r:Rep X.K H y (.int i))(q:RelV y u):∃t,u=.int i t:=by simp only[Rep] at r;subst r;exact q
theorem rW{y:V}{u:Value}{x:Str}(r:Rep X.K H y (.str x))(q:RelV y u):∃t,u=.str x t:=by simp only[Rep] at r;subst r;exact q
theorem uk{y:V}{u:Value}{es:List D}(I:Inv X Z8 σ H s)(r:Rep X.K H y (.tup es))(q:RelV y u):∃b it,u=.ref b/\s.heap.IsTuple b (List.toArray it):=by
 simp only[Rep] at r;obtain⟨b,ys,rfl,h,_⟩:=r;cases q;obtain⟨it,_,ht,_⟩:=I.tuple (iK.of h);exact⟨b,it,rfl,ht⟩
theorem um{y:V}{u:Value}{es:List D}(I:Inv X Z8 σ H s)(r:Rep X.K H y (.lst es))(q:RelV y u):∃b it,u=.ref b/\s.heap.IsList b (List.toArray it):=by
 simp only[Rep] at r;obtain⟨b,ys,rfl,h,_⟩:=r;cases q;obtain⟨it,_,ht,_⟩:=I.list h.sq;exact⟨b,it,rfl,ht.isList⟩
theorem OJ(I:Inv X Z8 σ H s):∀(n:Nat) (A:Around) (d e:D) (x y:V) (v u:Value),fQ n d->fQ n e->A.units+n<cLine->Rep X.K H x d->Rep X.K H y e->RelV x v->RelV y u->RcAt A s v u (fS d e):=by
 intro n A d e x y v u hd he hu rx ry qx qy;have gy:A.units<cLine:=by omega
 cases d
 case non=>
  simp only[Rep] at rx;subst rx;cases qx;cases e
  case non=>cases rX ry qy;exact RcAt.none_none
  case bl=>cases rZ ry qy;exact RcAt.none_bool _
  case int=>obtain⟨t,rfl⟩:=rY ry qy;exact RcAt.none_int _ t
  case str=>obtain⟨t,rfl⟩:=rW ry qy;exact RcAt.none_str _ t
  case tup=>obtain⟨b,it,rfl,h2⟩:=uk I ry qy;exact RcAt.none_tuple h2 gy
  case lst=>obtain⟨b,it,rfl,h2⟩:=um I ry qy;exact RcAt.none_list h2 gy
  all_goals (cases n<;>cases he)
 case bl a=>
  simp only[Rep] at rx;subst rx;cases qx;cases e
  case non=>cases rX ry qy;exact RcAt.bool_none _
  case bl=>cases rZ ry qy;exact RcAt.bool_bool _ _
  case int=>obtain⟨t,rfl⟩:=rY ry qy;exact RcAt.bool_int _ _ t
  case str=>obtain⟨t,rfl⟩:=rW ry qy;exact RcAt.bool_str _ _ t
  case tup=>obtain⟨b,it,rfl,h2⟩:=uk I ry qy;exact RcAt.bool_tuple _ h2 gy
  case lst=>obtain⟨b,it,rfl,h2⟩:=um I ry qy;exact RcAt.bool_list _ h2 gy
  all_goals (cases n<;>cases he)
 case int a=>
  simp only[Rep] at rx;subst rx;obtain⟨t0,rfl⟩:=qx;cases e
  case non=>cases rX ry qy;exact RcAt.int_none _ t0
  case bl=>cases rZ ry qy;exact RcAt.int_bool _ t0 _
  case int=>obtain⟨t,rfl⟩:=rY ry qy;exact RcAt.int_int _ t0 _ t
  case str=>obtain⟨t,rfl⟩:=rW ry qy;exact RcAt.int_str _ t0 _ t
  case tup=>obtain⟨b,it,rfl,h2⟩:=uk I ry qy;exact RcAt.int_tuple _ t0 h2 gy
  case lst=>obtain⟨b,it,rfl,h2⟩:=um I ry qy;exact RcAt.int_list _ t0 h2 gy
  all_goals (cases n<;>cases he)
 case str a=>
  simp only[Rep] at rx;subst rx;obtain⟨t0,rfl⟩:=qx;cases e
  case non=>cases rX ry qy;exact RcAt.str_none _ t0
  case bl=>cases rZ ry qy;exact RcAt.str_bool _ t0 _
  case int=>obtain⟨t,rfl⟩:=rY ry qy;exact RcAt.str_int _ t0 _ t
  case str=>obtain⟨t,rfl⟩:=rW ry qy;exact RcAt.str_str _ t0 _ t
  case tup=>obtain⟨b,it,rfl,h2⟩:=uk I ry qy;exact RcAt.str_tuple _ t0 h2 gy
  case lst=>obtain⟨b,it,rfl,h2⟩:=um I ry qy;exact RcAt.str_list _ t0 h2 gy
  all_goals (cases n<;>cases he)
 case tup ds=>
  cases n with
  | zero=>cases hd
  | succ n=>
  have ui:A.in1.units+n<cLine:=by show A.units+1+n<cLine;omega
  simp only[Rep] at rx;obtain⟨a,xs,rfl,q,rs⟩:=rx;cases qx;obtain⟨its,rv,ht,_⟩:=I.tuple (iK.of q);have fY:s.heap.IsTuple a its.toArray:=ht;cases e
  case non=>cases rX ry qy;exact RcAt.tuple_none fY gy
  case bl=>cases rZ ry qy;exact RcAt.tuple_bool _ fY gy
  case int=>obtain⟨t,rfl⟩:=rY ry qy;exact RcAt.tuple_int _ t fY gy
  case str=>obtain⟨t,rfl⟩:=rW ry qy;exact RcAt.tuple_str _ t fY gy
  case lst es=>obtain⟨b,it,rfl,h2⟩:=um I ry qy;exact RcAt.tuple_list fY h2 gy
  case tup es=>
   simp only[Rep] at ry;obtain⟨b,ys,rfl,q',k9⟩:=ry;cases qy;obtain⟨its',m6,jF,_⟩:=I.tuple (iK.of q');have h:=RcAt.tuples (e:=fun j=>fS (ds.getD j .non) (es.getD j .non)) fY (show s.heap.IsTuple b its'.toArray from jF) gy fun j h1 h2=>by
    obtain⟨v1,a1,b1,c1⟩:=qQ rv rs h1;obtain⟨v2,a2,b2,c2⟩:=qQ m6 k9 h2;exact zU I n A.in1 _ _ v1 v2 _ _ (hd _ c1) (he _ c2) ui b1 b2 a1 a2
   have l1:its.toArray.size=ds.length:=by rw[aw,<-rv.length,rs.length]
   have l2:its'.toArray.size=es.length:=by rw[aw,<-m6.length,k9.length]
   rw[l1,l2,E5] at h;simpa only[fS] using h
  all_goals cases he
 case lst ds=>
  cases n with
  | zero=>cases hd
  | succ n=>
  have ui:A.in1.units+n<cLine:=by show A.units+1+n<cLine;omega
  simp only[Rep] at rx;obtain⟨a,xs,rfl,q,rs⟩:=rx;cases qx;obtain⟨its,rv,ht,_⟩:=I.list q.sq;have fY:=ht.isList;cases e
  case non=>cases rX ry qy;exact RcAt.list_none fY gy
  case bl=>cases rZ ry qy;exact RcAt.list_bool _ fY gy
  case int=>obtain⟨t,rfl⟩:=rY ry qy;exact RcAt.list_int _ t fY gy
  case str=>obtain⟨t,rfl⟩:=rW ry qy;exact RcAt.list_str _ t fY gy
  case tup es=>obtain⟨b,it,rfl,h2⟩:=uk I ry qy;exact RcAt.list_tuple fY h2 gy
  case lst es=>
   simp only[Rep] at ry;obtain⟨b,ys,rfl,q',k9⟩:=ry;cases qy;obtain⟨its',m6,jF,_⟩:=I.list q'.sq;have l1:its.toArray.size=ds.length:=by rw[aw,<-rv.length,rs.length]
   have l2:its'.toArray.size=es.length:=by rw[aw,<-m6.length,k9.length]
   by_cases hl:ds.length=es.length
   ·have h:=RcAt.lists (e:=fun j=>fS (ds.getD j .non) (es.getD j .non)) fY jF.isList (by rw[l1,l2,hl]) gy fun j h1 h2=>by
     obtain⟨v1,a1,b1,c1⟩:=qQ rv rs h1;obtain⟨v2,a2,b2,c2⟩:=qQ m6 k9 h2;exact zU I n A.in1 _ _ v1 v2 _ _ (hd _ c1) (he _ c2) ui b1 b2 a1 a2
    rw[l1,<-Ad ds es hl] at h;simpa only[fS] using h
   ·have h:=RcAt.lists_lengths (A:=A) fY jF.isList (by rw[l1,l2];simpa using hl) gy;simp only[fS,Ae hl];exact h
  all_goals cases he
 all_goals (cases n<;>cases hd)
theorem RU(I:Inv X Z8 σ H s):∀(n:Nat) (A:Around) (d e:D) (x y:V) (v u:Value),fQ n d->fQ n e->A.units+n<cLine->Rep X.K H x d->Rep X.K H y e->RelV x v->RelV y u->RcNeAt A s v u (!fS d e):=by
 intro n A d e x y v u hd he hu rx ry qx qy;have gy:A.units<cLine:=by omega
 cases d
 case non=>
  simp only[Rep] at rx;subst rx;cases qx;cases e
  case non=>cases rX ry qy;exact RcNeAt.none_none
  case bl=>cases rZ ry qy;exact RcNeAt.none_bool _
  case int=>obtain⟨t,rfl⟩:=rY ry qy;exact RcNeAt.none_int _ t
  case str=>obtain⟨t,rfl⟩:=rW ry qy;exact RcNeAt.none_str _ t
  case tup=>obtain⟨b,it,rfl,h2⟩:=uk I ry qy;exact RcNeAt.none_tuple h2 gy
  case lst=>obtain⟨b,it,rfl,h2⟩:=um I ry qy;exact RcNeAt.none_list h2 gy
  all_goals (cases n<;>cases he)
 case bl a=>
  simp only[Rep] at rx;subst rx;cases qx;cases e
  case non=>cases rX ry qy;exact RcNeAt.bool_none _
  case bl=>cases rZ ry qy;exact RcNeAt.bool_bool _ _
  case int=>obtain⟨t,rfl⟩:=rY ry qy;exact RcNeAt.bool_int _ _ t
  case str=>obtain⟨t,rfl⟩:=rW ry qy;exact RcNeAt.bool_str _ _ t
  case tup=>obtain⟨b,it,rfl,h2⟩:=uk I ry qy;exact RcNeAt.bool_tuple _ h2 gy
  case lst=>obtain⟨b,it,rfl,h2⟩:=um I ry qy;exact RcNeAt.bool_list _ h2 gy
  all_goals (cases n<;>cases he)
 case int a=>
  simp only[Rep] at rx;subst rx;obtain⟨t0,rfl⟩:=qx;cases e
  case non=>cases rX ry qy;exact RcNeAt.int_none _ t0
  case bl=>cases rZ ry qy;exact RcNeAt.int_bool _ t0 _
  case int=>obtain⟨t,rfl⟩:=rY ry qy;exact RcNeAt.int_int _ t0 _ t
  case str=>obtain⟨t,rfl⟩:=rW ry qy;exact RcNeAt.int_str _ t0 _ t
  case tup=>obtain⟨b,it,rfl,h2⟩:=uk I ry qy;exact RcNeAt.int_tuple _ t0 h2 gy
  case lst=>obtain⟨b,it,rfl,h2⟩:=um I ry qy;exact RcNeAt.int_list _ t0 h2 gy
  all_goals (cases n<;>cases he)
 case str a=>
  simp only[Rep] at rx;subst rx;obtain⟨t0,rfl⟩:=qx;cases e
  case non=>cases rX ry qy;exact RcNeAt.str_none _ t0
  case bl=>cases rZ ry qy;exact RcNeAt.str_bool _ t0 _
  case int=>obtain⟨t,rfl⟩:=rY ry qy;exact RcNeAt.str_int _ t0 _ t
  case str=>obtain⟨t,rfl⟩:=rW ry qy;exact RcNeAt.str_str _ t0 _ t
  case tup=>obtain⟨b,it,rfl,h2⟩:=uk I ry qy;exact RcNeAt.str_tuple _ t0 h2 gy
  case lst=>obtain⟨b,it,rfl,h2⟩:=um I ry qy;exact RcNeAt.str_list _ t0 h2 gy
  all_goals (cases n<;>cases he)
 case tup ds=>
  cases n with
  | zero=>cases hd
  | succ n=>
  have ui:A.in1.units+n<cLine:=by show A.units+1+n<cLine;omega
  simp only[Rep] at rx;obtain⟨a,xs,rfl,q,rs⟩:=rx;cases qx;obtain⟨its,rv,ht,_⟩:=I.tuple (iK.of q);have fY:s.heap.IsTuple a its.toArray:=ht;cases e
  case non=>cases rX ry qy;exact RcNeAt.tuple_none fY gy
  case bl=>cases rZ ry qy;exact RcNeAt.tuple_bool _ fY gy
  case int=>obtain⟨t,rfl⟩:=rY ry qy;exact RcNeAt.tuple_int _ t fY gy
  case str=>obtain⟨t,rfl⟩:=rW ry qy;exact RcNeAt.tuple_str _ t fY gy
  case lst es=>obtain⟨b,it,rfl,h2⟩:=um I ry qy;exact RcNeAt.tuple_list fY h2 gy
  case tup es=>
   simp only[Rep] at ry;obtain⟨b,ys,rfl,q',k9⟩:=ry;cases qy;obtain⟨its',m6,jF,_⟩:=I.tuple (iK.of q');have h:=RcNeAt.tuples (e:=fun j=>fS (ds.getD j .non) (es.getD j .non)) fY (show s.heap.IsTuple b its'.toArray from jF) gy fun j h1 h2=>by
    obtain⟨v1,a1,b1,c1⟩:=qQ rv rs h1;obtain⟨v2,a2,b2,c2⟩:=qQ m6 k9 h2;exact zU I n A.in1 _ _ v1 v2 _ _ (hd _ c1) (he _ c2) ui b1 b2 a1 a2
   have l1:its.toArray.size=ds.length:=by rw[aw,<-rv.length,rs.length]
   have l2:its'.toArray.size=es.length:=by rw[aw,<-m6.length,k9.length]
   rw[l1,l2,E5] at h;simpa only[fS] using h
  all_goals cases he
 case lst ds=>
  cases n with
  | zero=>cases hd
  | succ n=>
  have ui:A.in1.units+n<cLine:=by show A.units+1+n<cLine;omega
  simp only[Rep] at rx;obtain⟨a,xs,rfl,q,rs⟩:=rx;cases qx;obtain⟨its,rv,ht,_⟩:=I.list q.sq;have fY:=ht.isList;cases e
  case non=>cases rX ry qy;exact RcNeAt.list_none fY gy
  case bl=>cases rZ ry qy;exact RcNeAt.list_bool _ fY gy
  case int=>obtain⟨t,rfl⟩:=rY ry qy;exact RcNeAt.list_int _ t fY gy
  case str=>obtain⟨t,rfl⟩:=rW ry qy;exact RcNeAt.list_str _ t fY gy
  case tup es=>obtain⟨b,it,rfl,h2⟩:=uk I ry qy;exact RcNeAt.list_tuple fY h2 gy
  case lst es=>
   simp only[Rep] at ry;obtain⟨b,ys,rfl,q',k9⟩:=ry;cases qy;obtain⟨its',m6,jF,_⟩:=I.list q'.sq;have l1:its.toArray.size=ds.length:=by rw[aw,<-rv.length,rs.length]
   have l2:its'.toArray.size=es.length:=by rw[aw,<-m6.length,k9.length]
   by_cases hl:ds.length=es.length
   ·have h:=RcNeAt.lists (e:=fun j=>fS (ds.getD j .non) (es.getD j .non)) fY jF.isList (by rw[l1,l2,hl]) gy fun j h1 h2=>by
     obtain⟨v1,a1,b1,c1⟩:=qQ rv rs h1;obtain⟨v2,a2,b2,c2⟩:=qQ m6 k9 h2;exact zU I n A.in1 _ _ v1 v2 _ _ (hd _ c1) (he _ c2) ui b1 b2 a1 a2
    rw[l1,<-Ad ds es hl] at h;simpa only[fS] using h
   ·have h:=RcNeAt.lists_lengths (A:=A) fY jF.isList (by rw[l1,l2];simpa using hl) gy;simp only[fS,Ae hl];exact h
  all_goals cases he
 all_goals (cases n<;>cases hd)
end
section
variable {X:Cx}
def oEq:O2:=fun d e Q=>fQ 9 d/\fQ 9 e/\Q (.fz (.bl (fS d e)))
def A9:O2:=fun d e Q=>fQ 9 d/\fQ 9 e/\Q (.fz (.bl (!fS d e)))
theorem kY(hu:X.A.units+64<cLine):nC X (compareOp .Eq) oEq:=by
 refine⟨fun x y H Q=>∃d e,fQ 9 d/\fQ 9 e/\Rep X.K H x d/\Rep X.K H y e/\Q (.bl (fS d e)) H,fun Z8 s σ H x y v u Q I rx ry h=>?_,fun G H x y d e Q P s rx ry h k=>?_⟩
 ·obtain⟨d,e,hd,he,rd,re,q⟩:=h;exact OJ I 9 X.A d e x y v u hd he (by omega) rd re rx ry _ _ _ _ ⟨.bl _,H,I,rfl,q⟩
 ·exact⟨d,e,h.1,h.2.1,rx.mono s,ry.mono s,k _ _ _ G (.refl s) (iJ (nt _ _ _)) h.2.2⟩
theorem D2(hu:X.A.units+64<cLine):nC X (compareOp .NotEq) A9:=by
 refine⟨fun x y H Q=>∃d e,fQ 9 d/\fQ 9 e/\Rep X.K H x d/\Rep X.K H y e/\Q (.bl (!fS d e)) H,fun Z8 s σ H x y v u Q I rx ry h=>?_,fun G H x y d e Q P s rx ry h k=>?_⟩
 ·obtain⟨d,e,hd,he,rd,re,q⟩:=h;exact RU I 9 X.A d e x y v u hd he (by omega) rd re rx ry _ _ _ _ ⟨.bl _,H,I,rfl,q⟩
 ·exact⟨d,e,h.1,h.2.1,rx.mono s,ry.mono s,k _ _ _ G (.refl s) (iJ (nt _ _ _)) h.2.2⟩
noncomputable def inD(d:D)(ds:List D):Bool:=ds.any fun e=>fS e d
def lZ(neg:Bool):O2:=fun d e Q=>match d,e with
 | .str x,.str y=>Q (.fz (.bl (if neg then !(!(Builtin.Str.occurrences y x 0 y.length 1).isEmpty) else !(Builtin.Str.occurrences y x 0 y.length 1).isEmpty)))
 | d,.lst es=>fQ 8 d/\(∀e∈es,fQ 8 e)/\Q (.fz (.bl (if neg then !inD d es else inD d es)))
 | d,.tup es=>fQ 8 d/\(∀e∈es,fQ 8 e)/\Q (.fz (.bl (if neg then !inD d es else inD d es)))
 | _,_=>False
noncomputable def oG(X:Cx)(H:Hp)(d:D)(u:Value):Bool:=open Classical in if h:∃(v:V) (e:D),fQ 8 e/\RelV v u/\Rep X.K H v e then fS h.choose_spec.choose d else false
theorem Es{Z8:List (Addr×Obj)}{σ:St}{H:Hp}{s:Shared}(I:Inv X Z8 σ H s){d e:D}{v:V}{u:Value}(he:fQ 8 e)(rv:RelV v u)(re:Rep X.K H v e):oG X H d u=fS e d:=by
 have h:∃(v:V) (e:D),fQ 8 e/\RelV v u/\Rep X.K H v e:=⟨v,e,he,rv,re⟩
 unfold oG;rw[dif_pos h];obtain⟨h1,h2,h3⟩:=h.choose_spec.choose_spec;have e1:h.choose=v:=RelV.inj h2 rv;have h4:∀v',v'=v->∀e',fQ 8 e'->Rep X.K H v' e'->e'=e:=fun v' hv e' o r=>by subst hv;exact CK I 8 _ e _ o he r re
 rw[h4 _ e1 _ h1 h3]
theorem zT{Z8:List (Addr×Obj)}{σ:St}{H:Hp}{s:Shared}(I:Inv X Z8 σ H s){d:D}:∀{es:List D} {vs:List V} {us:List Value},(∀e∈es,fQ 8 e)->Vals vs us->eQ X.K H vs es->us.any (oG X H d)=inD d es
 | [],_,_,_,rv,re=>by
  cases rv
  ·rfl
  ·simp only[eQ] at re
 | e::es,_,_,h,rv,re=>by
  cases rv with
  | nil=>simp only[eQ] at re
  | cons r t=>
   simp only[eQ] at re;rw[dh,Es I (h e (by simp)) r re.1,zT I (fun x hx=>h x (by simp[hx])) t re.2];rfl
theorem Ac{Z8:List (Addr×Obj)}{σ:St}{H:Hp}{s:Shared}{A:Around}(I:Inv X Z8 σ H s){d:D}{x:V}{v:Value}(hd:fQ 8 d)(hu:A.units+8<cLine)(rx:Rep X.K H x d)(qx:RelV x v){es:List D}{vs:List V}{us:List Value}
  (he:∀e∈es,fQ 8 e) (rv:Vals vs us) (re:eQ X.K H vs es):∀u∈us.toArray,EqAt A s u v (oG X H d u):=fun u Yq=>by
 obtain⟨j,hj,e⟩:=Array.mem_iff_getElem.mp Yq;obtain⟨w,a1,b1,c1⟩:=qQ rv re hj;rw[e] at a1;rw[Es I (he _ c1) a1 b1];exact zU I 8 A _ _ w x _ _ (he _ c1) hd hu b1 rx a1 qx
theorem OI(hu:X.A.units+64<cLine):i3 X (compareOp .In) (fun x y H Q=>∃p d es vs,y=.ref p/\(gT X.K H p vs\/iK X.K H p vs)/\fQ 8 d/\(∀e∈es,fQ 8 e)/\Rep X.K H x d/\eQ X.K H vs es/\Q (.bl (inD d es)) H):=by
 intro Z8 s σ H x y v u Q I rx ry h;obtain⟨p,d,es,vs,rfl,hq,hd,he,rd,re,q⟩:=h;cases ry;rcases hq with hq | hq
 ·obtain⟨its,r,pl,hz⟩:=I.list hq;refine SeqAt.in_listAt (oG X H d) pl.isList (Ac I hd (by show X.A.units+1+8<cLine;omega) rd rx he r re) ⟨.bl _,H,I,rfl,?_⟩;rw[show its.toArray.any (oG X H d)=its.any (oG X H d) by simp,zT I he r re];exact q
 ·obtain⟨its,r,pl,hz⟩:=I.tuple hq;refine SeqAt.in_tupleAt (oG X H d) pl (Ac I hd (by show X.A.units+1+8<cLine;omega) rd rx he r re) ⟨.bl _,H,I,rfl,?_⟩;rw[show its.toArray.any (oG X H d)=its.any (oG X H d) by simp,zT I he r re];exact q
theorem Tt(hu:X.A.units+64<cLine):i3 X (compareOp .NotIn) (fun x y H Q=>∃p d es vs,y=.ref p/\(gT X.K H p vs\/iK X.K H p vs)/\fQ 8 d/\(∀e∈es,fQ 8 e)/\Rep X.K H x d/\eQ X.K H vs es/\Q (.bl (!inD d es)) H):=by
 intro Z8 s σ H x y v u Q I rx ry h;obtain⟨p,d,es,vs,rfl,hq,hd,he,rd,re,q⟩:=h;cases ry;rcases hq with hq | hq
 ·obtain⟨its,r,pl,hz⟩:=I.list hq;refine SeqAt.notIn_listAt (oG X H d) pl.isList (Ac I hd (by show X.A.units+1+8<cLine;omega) rd rx he r re) ⟨.bl _,H,I,rfl,?_⟩;rw[show its.toArray.any (oG X H d)=its.any (oG X H d) by simp,zT I he r re];exact q
 ·obtain⟨its,r,pl,hz⟩:=I.tuple hq;refine SeqAt.notIn_tupleAt (oG X H d) pl (Ac I hd (by show X.A.units+1+8<cLine;omega) rd rx he r re) ⟨.bl _,H,I,rfl,?_⟩;rw[show its.toArray.any (oG X H d)=its.any (oG X H d) by simp,zT I he r re];exact q
theorem tV(hu:X.A.units+64<cLine):nC X (compareOp .In) (lZ false):=by
 refine⟨_,qV.or (OI hu),fun G H x y d e Q P s rx ry h k=>?_⟩;unfold lZ at h;split at h
 ·simp only[Rep] at rx ry;exact .inl ⟨_,_,rx,ry,k _ _ _ G (.refl s) (iJ (nt _ _ _)) h⟩
 ·simp only[Rep] at ry;obtain⟨a,ys,rfl,hy,ue⟩:=ry;exact .inr ⟨a,_,_,ys,rfl,.inl ((s.iF hy).sq),h.1,h.2.1,rx.mono s,ue.mono s,k _ _ _ G (.refl s) (iJ (nt _ _ _)) h.2.2⟩
 ·simp only[Rep] at ry;obtain⟨a,ys,rfl,hy,ue⟩:=ry;exact .inr ⟨a,_,_,ys,rfl,.inr (s.nH hy),h.1,h.2.1,rx.mono s,ue.mono s,k _ _ _ G (.refl s) (iJ (nt _ _ _)) h.2.2⟩
 ·exact h.elim
theorem z5(hu:X.A.units+64<cLine):nC X (compareOp .NotIn) (lZ true):=by
 refine⟨_,nI.or (Tt hu),fun G H x y d e Q P s rx ry h k=>?_⟩;unfold lZ at h;split at h
 ·simp only[Rep] at rx ry;exact .inl ⟨_,_,rx,ry,k _ _ _ G (.refl s) (iJ (nt _ _ _)) h⟩
 ·simp only[Rep] at ry;obtain⟨a,ys,rfl,hy,ue⟩:=ry;exact .inr ⟨a,_,_,ys,rfl,.inl ((s.iF hy).sq),h.1,h.2.1,rx.mono s,ue.mono s,k _ _ _ G (.refl s) (iJ (nt _ _ _)) h.2.2⟩
 ·simp only[Rep] at ry;obtain⟨a,ys,rfl,hy,ue⟩:=ry;exact .inr ⟨a,_,_,ys,rfl,.inr (s.nH hy),h.1,h.2.1,rx.mono s,ue.mono s,k _ _ _ G (.refl s) (iJ (nt _ _ _)) h.2.2⟩
 ·exact h.elim
noncomputable def wQ:D->Bool
 | .non=>true
 | _=>false
def oM(neg:Bool):O2:=fun d e Q=>match e with
 | .non=>Q (.fz (.bl (if neg then !wQ d else wQ d)))
 | _=>False
theorem J8{K:Z9}{G:Hp}{x:V}{d:D}(r:Rep K G x d):decide (x=.non)=wQ d:=by
 cases d<;>simp only[Rep] at r
 case non=>subst r;rfl
 case bl=>subst r;rfl
 case int=>subst r;rfl
 case str=>subst r;rfl
 case tup=>obtain⟨_,_,rfl,_⟩:=r;rfl
 case lst=>obtain⟨_,_,rfl,_⟩:=r;rfl
 case obj=>obtain⟨_,_,_,_,rfl,_⟩:=r;rfl
 case dic=>obtain⟨_,_,_,rfl,_⟩:=r;rfl
 case dit=>obtain⟨_,_,_,rfl,_⟩:=r;rfl
 case exc=>obtain⟨_,_,_,rfl,_⟩:=r;rfl
theorem zD:nC X (compareOp .Is) (oM false):=by
 refine⟨_,Qs,fun G H x y d e Q P s rx ry h k=>?_⟩;unfold oM at h;split at h
 ·simp only[Rep] at ry;refine⟨ry,?_⟩;rw[J8 rx];exact k _ _ _ G (.refl s) (iJ (nt _ _ _)) h
 ·exact h.elim
theorem xh:nC X (compareOp .IsNot) (oM true):=by
 refine⟨_,RD,fun G H x y d e Q P s rx ry h k=>?_⟩;unfold oM at h;split at h
 ·simp only[Rep] at ry;refine⟨ry,?_⟩;rw[J8 rx];exact k _ _ _ G (.refl s) (iJ (nt _ _ _)) h
 ·exact h.elim
end
section
variable {X:Cx} {pos:Pos} {a b c:Expr} {ta tb tc:TD} {pa y8:kz} {rest:List Expr}
def tU(t:kz):kz:=fun ρ Q=>t ρ fun k=>Q (!k)
def tT(t u:kz):kz:=fun ρ Q=>t ρ fun k=>if k=true then u ρ Q else Q false
def yc(t u:kz):kz:=fun ρ Q=>t ρ fun k=>if k=true then Q true else u ρ Q
theorem vH(h:PB X a pa):PB X (.UnaryOp .Not a pos) (tU pa):=by
 obtain⟨t,p,q⟩:=h;exact⟨_,P8 p,fun ρ σ G0 H0 G H Q P E h k=>q ρ σ G0 H0 G H _ _ E h fun b H' G' x hq=>k _ H' G' x hq⟩
def wF(X:Cx)(e:Expr)(t:kz):Prop:=∃tt,PW X e tt/\∀(ρ:Ev) (σ:St) (G0 H0 G H:Hp) (Q:Bool->Prop) (P:Bool->Hp->Prop),gj X.K G0 H0 ρ σ G H->t ρ Q->
 (∀b H' G',Ext G H G' H'->Q b->P b H')->tt σ H P
theorem wF.pb{e:Expr}{t:kz}(h:wF X e t):PB X e t:=let⟨tt,p,q⟩:=h;⟨tt,p.pt,q⟩
theorem Ab(h:PB X a pa):wF X (.BoolOp .And [a] pos) pa:=let⟨tt,p,q⟩:=h;⟨tt,RJ p,q⟩
theorem CJ(h:PB X a pa):wF X (.BoolOp .Or [a] pos) pa:=let⟨tt,p,q⟩:=h;⟨tt,Qa p,q⟩
theorem vM(h:PB X a pa)(h':wF X (.BoolOp .And (b::rest) pos) y8):wF X (.BoolOp .And (a::b::rest) pos) (tT pa y8):=by
 obtain⟨t,p,q⟩:=h;obtain⟨t',p',q'⟩:=h';refine⟨_,P9 p p',fun ρ σ G0 H0 G H Q P E h k=>q ρ σ G0 H0 G H _ _ E h fun b H' G' x hq=>?_⟩;cases b with
 | true=>rw[if_pos rfl] at hq ⊢;exact q' ρ σ G0 H0 G' H' Q P (E.ext x) hq fun b2 H2 G2 x2 h2=>k b2 H2 G2 (x.trans x2) h2
 | false=>rw[if_neg aO] at hq ⊢;exact k false H' G' x hq
theorem zS(h:PB X a pa)(h':wF X (.BoolOp .Or (b::rest) pos) y8):wF X (.BoolOp .Or (a::b::rest) pos) (yc pa y8):=by
 obtain⟨t,p,q⟩:=h;obtain⟨t',p',q'⟩:=h';refine⟨_,NZ p p',fun ρ σ G0 H0 G H Q P E h k=>q ρ σ G0 H0 G H _ _ E h fun b H' G' x hq=>?_⟩;cases b with
 | true=>rw[if_pos rfl] at hq ⊢;exact k true H' G' x hq
 | false=>rw[if_neg aO] at hq ⊢;exact q' ρ σ G0 H0 G' H' Q P (E.ext x) hq fun b2 H2 G2 x2 h2=>k b2 H2 G2 (x.trans x2) h2
def NC(t:TD):TD:=fun ρ Q=>t ρ fun r=>match r with
 | .fz (.bl k)=>Q (.fz (.bl (!k)))
 | _=>False
def Cb(t u:TD):TD:=fun ρ Q=>t ρ fun r=>match r with
 | .fz (.bl k)=>if k=true then u ρ Q else Q (.fz (.bl false))
 | _=>False
def HI(t u:TD):TD:=fun ρ Q=>t ρ fun r=>match r with
 | .fz (.bl k)=>if k=true then Q (.fz (.bl true)) else u ρ Q
 | _=>False
theorem Er{op}(h:PD X a ta):PD X (.BoolOp op [a] pos) ta:=let⟨t,p,q⟩:=h;⟨t,P7 p,q⟩
theorem Jf(h:PD X a ta)(h':PD X (.BoolOp .And (b::rest) pos) tb):PD X (.BoolOp .And (a::b::rest) pos) (Cb ta tb):=by
 obtain⟨t,p,q⟩:=h;obtain⟨t',p',q'⟩:=h';refine⟨_,P6 p p',fun ρ σ G0 H0 G H Q P E h k=>q ρ σ G0 H0 G H _ _ E h fun v H' r G' x rr hq=>?_⟩;split at hq
 ·rename_i kk;have e:v=.bl kk:=by simpa only[gR,Rep] using rr
  refine⟨kk,e,?_⟩;cases kk with
  | true=>rw[if_pos rfl] at hq ⊢;exact q' ρ σ G0 H0 G' H' Q P (E.ext x) hq fun b2 H2 r2 G2 x2 sN h2=>k b2 H2 r2 G2 (x.trans x2) (sN.iX x.h) h2
  | false=>rw[if_neg aO] at hq ⊢;exact k _ H' _ G' x (iJ (nt _ _ _)) hq
 ·exact hq.elim
theorem Og(h:PD X a ta)(h':PD X (.BoolOp .Or (b::rest) pos) tb):PD X (.BoolOp .Or (a::b::rest) pos) (HI ta tb):=by
 obtain⟨t,p,q⟩:=h;obtain⟨t',p',q'⟩:=h';refine⟨_,NX p p',fun ρ σ G0 H0 G H Q P E h k=>q ρ σ G0 H0 G H _ _ E h fun v H' r G' x rr hq=>?_⟩;split at hq
 ·rename_i kk;have e:v=.bl kk:=by simpa only[gR,Rep] using rr
  refine⟨kk,e,?_⟩;cases kk with
  | true=>rw[if_pos rfl] at hq ⊢;exact k _ H' _ G' x (iJ (nt _ _ _)) hq
  | false=>rw[if_neg aO] at hq ⊢;exact q' ρ σ G0 H0 G' H' Q P (E.ext x) hq fun b2 H2 r2 G2 x2 sN h2=>k b2 H2 r2 G2 (x.trans x2) (sN.iX x.h) h2
 ·exact hq.elim
def x9(t:kz)(ta tb:TD):TD:=fun ρ Q=>t ρ fun k=>if k=true then ta ρ Q else tb ρ Q
theorem CW(h:PB X c pa)(h1:PD X a ta)(h2:PD X b tb):PD X (.IfExp c a b pos) (x9 pa ta tb):=by
 obtain⟨t,p,q⟩:=h;obtain⟨t1,p1,q1⟩:=h1;obtain⟨t2,p2,q2⟩:=h2;refine⟨_,SV p p1 p2,fun ρ σ G0 H0 G H Q P E h k=>q ρ σ G0 H0 G H _ _ E h fun b H' G' x hq=>?_⟩;cases b with
 | true=>rw[if_pos rfl] at hq ⊢;exact q1 ρ σ G0 H0 G' H' Q P (E.ext x) hq fun b2 H2 r2 G2 x2 sN h2=>k b2 H2 r2 G2 (x.trans x2) (sN.iX x.h) h2
 | false=>rw[if_neg aO] at hq ⊢;exact q2 ρ σ G0 H0 G' H' Q P (E.ext x) hq fun b2 H2 r2 G2 x2 sN h2=>k b2 H2 r2 G2 (x.trans x2) (sN.iX x.h) h2
def vG(o o':O2)(ta tb tc:TD):TD:=fun ρ Q=>ta ρ fun ra=>tb ρ fun rb=>o ra.val rb.val fun r=>match r with
 | .fz (.bl k)=>if k=true then tc ρ fun rc=>o' rb.val rc.val Q else Q (.fz (.bl false))
 | _=>False
abbrev se(K:Z9)(t:TD)(tt:TE):Prop:=∀(ρ:Ev) (σ:St) (G0 H0 G H:Hp) (Q:R->Prop) (P:VK),gj K G0 H0 ρ σ G H->t ρ Q->(∀v H' r G',Ext G H G' H'->gR K G' H' H v r->Q r->P v H')->tt σ H P
theorem J7{K:Z9}{g g':Int->Int->Bool}{t1 t2 t3:TE}(q1:se K ta t1)(q2:se K tb t2)(q3:se K tc t3) :
  se K (vG (jD fun i j=>.bl (g i j)) (jD fun i j=>.bl (g' i j)) ta tb tc) (Ez (qz fun i j=>.bl (g i j)) (qz fun i j=>.bl (g' i j)) t1 t2 t3):=by
 refine fun ρ σ G0 H0 G H Q P E h k=>q1 ρ σ G0 H0 G H _ _ E h fun v1 H1 r1 G1 x1 xw o8=>?_
 obtain⟨HU,vV,Gp,_⟩:=xw.freeze x1;refine q2 ρ σ G0 H0 HU H1 _ _ (E.ext vV) o8 fun v2 H2 r2 G2 x2 sN kx=>?_
 obtain⟨DQ,vU,qw,_⟩:=sN.freeze x2;unfold jD at kx;split at kx
 ·rename_i i j e1 e2;rw[e1] at Gp;rw[e2] at qw;simp only[Rep] at Gp qw;refine⟨i,j,Gp,qw,_,rfl,?_⟩;dsimp only at kx;cases hk:g i j with
  | false=>
   rw[hk,if_neg aO] at kx;rw[if_neg aO];exact k _ _ _ DQ (vV.trans vU) (iJ (nt _ _ _)) kx
  | true=>
   rw[hk,if_pos rfl] at kx;rw[if_pos rfl];refine q3 ρ σ G0 H0 DQ H2 _ _ (E.ext (vV.trans vU)) kx fun v3 H3 r3 G3 x3 qU hJ=>?_
   obtain⟨ZA,Xu,oY,_⟩:=qU.freeze x3;rw[e2] at hJ;split at hJ
   ·rename_i i' j' e3 e4;cases e3;rw[e4] at oY;simp only[Rep] at oY;exact⟨j,j',qw,oY,k _ _ _ ZA ((vV.trans vU).trans Xu) (iJ (nt _ _ _)) hJ⟩
   ·exact hJ.elim
 ·exact kx.elim
theorem OH{K:Z9}{t:TD}{tt:TE}(q:se K t tt)(ρ:Ev)(σ:St)(G0 H0 G H:Hp)(Q:Bool->Prop)(P:Bool->Hp->Prop)(E:gj K G0 H0 ρ σ G H)(h:fP t ρ Q)(k:∀b H' G',Ext G H G' H'->Q b->P b H'):Eg tt σ H P:=by
 refine q ρ σ G0 H0 G H _ _ E h fun v H' r G' x1 r1 h1=>?_
 split at h1
 ·rename_i kk;have e:v=.bl kk:=by simpa only[gR,Rep] using r1
  exact⟨kk,e,k kk H' G' x1 h1⟩
 ·exact h1.elim
theorem J6{op pS:CmpOp}{g g':Int->Int->Bool}(ho:i3 X (compareOp op) (qz fun i j=>.bl (g i j)))(oC:i3 X (compareOp pS) (qz fun i j=>.bl (g' i j)))(h1:PD X a ta)(h2:PD X b tb)(h3:PD X c tc)(hm:lastMarks [op,pS] [b,c]=false:=by with_unfolding_all rfl) :
  PD X (.Compare a [op,pS] [b,c] pos) (vG (jD fun i j=>.bl (g i j)) (jD fun i j=>.bl (g' i j)) ta tb tc):=by
 obtain⟨t1,p1,q1⟩:=h1;obtain⟨t2,p2,q2⟩:=h2;obtain⟨t3,p3,q3⟩:=h3;exact⟨_,Te ho oC p1 p2 p3 hm,J7 q1 q2 q3⟩
theorem J5{op pS:CmpOp}{g g':Int->Int->Bool}(ho:i3 X (compareOp op) (qz fun i j=>.bl (g i j)))(oC:i3 X (compareOp pS) (qz fun i j=>.bl (g' i j)))(h1:PD X a ta)(h2:PD X b tb)(h3:PD X c tc)(hm:lastMarks [op,pS] [b,c]=false:=by with_unfolding_all rfl) :
  PB X (.Compare a [op,pS] [b,c] pos) (fP (vG (jD fun i j=>.bl (g i j)) (jD fun i j=>.bl (g' i j)) ta tb tc)):=by
 obtain⟨t1,p1,q1⟩:=h1;obtain⟨t2,p2,q2⟩:=h2;obtain⟨t3,p3,q3⟩:=h3;exact⟨_,Td ho oC p1 p2 p3 hm,OH (J7 q1 q2 q3)⟩
def fX:O2:=fun d e Q=>match d,e with
 | .lst ds,.int i=>∃d,iu ds i=some d/\Q (.fz d)
 | .tup ds,.int i=>∃d,iu ds i=some d/\Q (.fz d)
 | .str z,.int i=>z.length<=sizeLine/\∃c,iu z.cps.toList i=some c/\Q (.fz (.str ⟨#[c]⟩))
 | _,_=>False
theorem EB{K:Z9}{G:Hp}{xs:List V}{ds:List D}{i:Int}{d:D}(r:eQ K G xs ds)(h:iu ds i=some d):∃v,iu xs i=some v/\Rep K G v d:=by
 unfold iu at h ⊢;rw[r.length];cases e:qD ds.length i with
 | none=>rw[e] at h;cases h
 | some j=>
  rw[e] at h;simp only[Option.bind_some] at h ⊢;exact r.get h
theorem gn(h1:PD X a ta)(h2:PD X b tb)(hs:CM b:=by intro _ _;rfl):PD X (.Subscript a b pos) (eV fX ta tb):=by
 obtain⟨t1,p1,q1⟩:=h1;obtain⟨t2,p2,q2⟩:=h2;refine⟨_,Cn IH p1 p2 hs,Cs (r:=LV X.K) (fun G H x y d e Q P s rx ry h k=>?_) q1 q2⟩;unfold fX at h;split at h
 ·simp only[Rep] at rx ry;obtain⟨p,xs,rfl,hq,rs⟩:=rx;obtain⟨d,hd,q⟩:=h;obtain⟨v,hv,rv⟩:=EB rs hd;exact .inl ⟨p,xs,_,v,rfl,ry,(s.iF hq).sq,hv,k _ _ _ G (.refl s) (iJ rv) q⟩
 ·simp only[Rep] at rx ry;obtain⟨p,xs,rfl,hq,rs⟩:=rx;obtain⟨d,hd,q⟩:=h;obtain⟨v,hv,rv⟩:=EB rs hd;exact .inr (.inl ⟨p,xs,_,v,rfl,ry,s.nH hq,hv,k _ _ _ G (.refl s) (iJ rv) q⟩)
 ·simp only[Rep] at rx ry;obtain⟨hz,c,hc,q⟩:=h;exact .inr (.inr ⟨_,_,c,rx,ry,hz,hc,k _ _ _ G (.refl s) (iJ (yF _ _ _)) q⟩)
 ·exact h.elim
def qL(i:Nat)(tb:TD):TD:=fun ρ Q=>match gt ρ i with
 | .ow ds=>tb ρ fun rb=>match rb.val with
  | .int j=>∃d,iu ds j=some d/\Q (.fz d)
  | _=>False
 | _=>False
theorem vF(i:Nat){x:Str}{p':Pos}(h2:PD X b tb)(hN:X.N[i]?=some x:=by rfl)(hv:nV X.env.scope x:=by first | exact Or.inl rfl | exact Or.inr (Or.inl rfl) | exact Or.inr (Or.inr rfl))(hs:CM b:=by intro _ _;rfl)(hd:(x==("__debug__":Str))=false:=by decide)
  (iS:(x==("__classdict__":Str))=false:=by decide):PD X (.Subscript (.Name x p') b pos) (qL i tb):=by
 obtain⟨t2,p2,q2⟩:=h2;refine⟨_,Cn IH (pE hN hv hd iS) p2 hs,fun ρ σ G0 H0 G H Q P E h k=>?_⟩;unfold qL at h;split at h
 ·rename_i ds hg;obtain⟨p,xs,h1,h2,h3,h4,h5⟩:=E.ow i ds hg;refine⟨_,h1,q2 ρ σ G0 H0 G H _ _ E h fun v H' r G' x1 rr hq=>?_⟩;obtain⟨G2,x2,rv,_⟩:=rr.freeze x1;split at hq
  ·rename_i j e2;obtain⟨d,vc,q⟩:=hq;obtain⟨w',hw,pJ⟩:=EB (h5.mono x2.g) vc;rw[e2] at rv;simp only[Rep] at rv;exact .inl ⟨p,xs,_,w',rfl,rv,gT.of (x2.h _ _ h2),hw,k _ _ _ G2 x2 (iJ pJ) q⟩
  ·exact hq.elim
 ·exact h.elim
variable {e:Expr} {es:List Expr} {te:TD} {ts:lq}
def eY:lq:=fun _ Q=>Q []
def eT(te:TD)(ts:lq):lq:=fun ρ Q=>te ρ fun r=>ts ρ fun ds=>Q (r.val::ds)
theorem e7:oJ X [] eY:=⟨_,t7,fun ρ σ G0 H0 G H Q P E h k=>k [] H [] G (.refl E.e.s) eQ.nil h⟩
theorem eU(h:PD X e te)(hr:oJ X es ts)(hs:starEach (e::es) X.env=(false,eval e X.env)::starEach es X.env:=by rfl):oJ X (e::es) (eT te ts):=by
 obtain⟨t1,p1,q1⟩:=h;obtain⟨t2,p2,q2⟩:=hr;refine⟨_,rN p1 p2 hs,fun ρ σ G0 H0 G H Q P E h k=>q1 ρ σ G0 H0 G H _ _ E h fun v H' r G' x1 rr hq=>?_⟩;obtain⟨G2,x2,rv,_⟩:=rr.freeze x1;refine q2 ρ σ G0 H0 G2 H' _ _ (E.ext x2) hq fun vs H3 ds G3 x3 rs hJ=>?_
 exact k _ H3 _ G3 (x2.trans x3) (eQ.cons (rv.mono x3.g) rs) hJ
def k7(ts:lq):TD:=fun ρ Q=>ts ρ fun ds=>ds.length<=sizeLine/\Q (.fz (.tup ds))
def i5(ts:lq):TD:=fun ρ Q=>ts ρ fun ds=>ds.length<=sizeLine/\Q (.ow ds)
theorem nE{x1}(h:oJ X es ts):PD X (.Tuple es x1 pos) (k7 ts):=by
 obtain⟨t,p,q⟩:=h;refine⟨_,II p,fun ρ σ G0 H0 G H Q P E h k=>q ρ σ G0 H0 G H _ _ E h fun vs H' ds G' x rs hq=>⟨by rw[rs.length];exact hq.1,fun p hp=>?_⟩⟩;have x2:Ext G' H' (upd G' p (.tup vs)) (upd H' p (.tup vs)):=.new x.s hp;refine k _ _ (.fz (.tup ds)) _ (x.trans x2) ?_ hq.2;show Rep X.K _ _ (.tup ds);simp only[Rep];exact⟨p,vs,rfl,jz,rs.mono x2.g⟩
theorem jS(h:oJ X es ts):PD X (.List es pos) (i5 ts):=by
 obtain⟨t,p,q⟩:=h;refine⟨_,Qo p,fun ρ σ G0 H0 G H Q P E h k=>q ρ σ G0 H0 G H _ _ E h fun vs H' ds G' x rs hq=>⟨by rw[rs.length];exact hq.1,fun p hp=>?_⟩⟩;exact k _ _ (.ow ds) G' (x.trans (.own x.s hp)) ⟨p,vs,rfl,x.h.free hp,x.s.free hp,jz,rs⟩ hq.2
def qk(X:Cx)(f:Value)(o:List D->(R->Prop)->Prop):Prop:=∃r,fO X f r/\∀(G H:Hp) (vs:List V) (ds:List D) (Q:R->Prop) (P:VK),e8 G H->eQ X.K G vs ds->o ds Q->
 (∀v H' r' G',Ext G H G' H'->gR X.K G' H' H v r'->Q r'->P v H')->r vs H P
def gV(o:List D->(R->Prop)->Prop)(ts:lq):TD:=fun ρ Q=>ts ρ fun ds=>o ds Q
theorem Iw{o:List D->(R->Prop)->Prop}{r:List V->Hp->VK->Prop}{t:TA}
  (hr:∀(G H:Hp) (vs:List V) (ds:List D) (Q:R->Prop) (P:VK),e8 G H->eQ X.K G vs ds->o ds Q->(∀v H' r' G',Ext G H G' H'->gR X.K G' H' H v r'->Q r'->P v H')->r vs H P)
  (q:∀(ρ:Ev) (σ:St) (G0 H0 G H:Hp) (Q:List D->Prop) (P:List V->Hp->Prop),gj X.K G0 H0 ρ σ G H->ts ρ Q->(∀vs H' ds G',Ext G H G' H'->eQ X.K G' vs ds->Q ds->P vs H')->t σ H P):se X.K (gV o ts) (Gg r t):=
 fun ρ σ G0 H0 G H Q P E h k=>q ρ σ G0 H0 G H _ _ E h fun vs H' ds G' x rs hq=>hr G' H' vs ds Q P x.s rs hq fun v H2 r' G2 x2 rr q2=>k v H2 r' G2 (x.trans x2) (rr.iX x.h) q2
theorem jU{id:String}{x:Str}{p:Pos}{o:List D->(R->Prop)->Prop}(hc:qk X (.builtin id) o)(hm:X.mg x=none)(hv:bootBuiltins x=some (.builtin id))(ha:oJ X (e::es) ts)(hg:Gl X x:=by rfl)(hn:x≠"__name__":=by decide)(nM:(x==("__debug__":Str))=false:=by decide)
  (he:starEach (e::es) X.env=(false,eval e X.env)::starEach es X.env:=by rfl) (kO:(backTo pos (starEach es X.env)).any (·.1)=false:=by rfl):PD X (.Call (.Name x p) (e::es) [] pos) (gV o ts):=by
 obtain⟨r,hr,rh⟩:=hc;obtain⟨t,pp,q⟩:=ha;exact⟨_,CY hr hg hm hv pp hn nM he kO,Iw rh q⟩
theorem t9{T:String}{x:Str}{p:Pos}{o:List D->(R->Prop)->Prop}(hc:qk X (.type T) o)(hm:X.mg x=none)(hv:bootBuiltins x=some (.type T))(ha:oJ X (e::es) ts)(hg:Gl X x:=by rfl)(hn:x≠"__name__":=by decide)(nM:(x==("__debug__":Str))=false:=by decide)
  (he:starEach (e::es) X.env=(false,eval e X.env)::starEach es X.env:=by rfl) (kO:(backTo pos (starEach es X.env)).any (·.1)=false:=by rfl):PD X (.Call (.Name x p) (e::es) [] pos) (gV o ts):=by
 obtain⟨r,hr,rh⟩:=hc;obtain⟨t,pp,q⟩:=ha;exact⟨_,Ak hr hg hm hv pp hn nM he kO,Iw rh q⟩
end
theorem qP{σ:St}{i j:Nat}{x:Option V}:(σ.set i x)[j]?=if i=j/\j<σ.length then some x else σ[j]?:=by
 by_cases h:i=j
 ·subst h;by_cases hl:i<σ.length
  ·simp[hl]
  ·simp[hl]
 ·simp[h]
section
variable {K:Z9} {G0 H0 G H G' H':Hp} {ρ:Ev} {σ:St}
theorem gj.put{i:Nat}{v:V}{r:R}(E:gj K G0 H0 ρ σ G H)(x:Ext G H G' H')(rr:gR K G' H' H v r):gj K G0 H0 (ρ.set i r.sl) (σ.set i (some v)) G' H':=by
 have E':=E.ext x;have hl:=E.len;have gs:∀j s,gt (ρ.set i r.sl) j=s->(i=j/\j<ρ.length/\s=r.sl)\/(¬(i=j/\j<ρ.length)/\gt ρ j=s):=fun j s e=>by
  rw[yz] at e;by_cases h:i=j/\j<ρ.length
  ·rw[if_pos h] at e;exact .inl ⟨h.1,h.2,e.symm⟩
  ·rw[if_neg h] at e;exact .inr ⟨h,e⟩
 refine⟨E'.e,by simp[E.len],fun j d h=>?_,fun j ds h=>?_,fun j k ds es rm h1 h2=>?_,?_⟩
 ·rcases gs j _ h with⟨h1,h2,h3⟩ | ⟨h1,h2⟩
  ·cases r with
   | ow=>cases h3
   | ov=>cases h3
   | fz d'=>
    cases h3;exact⟨v,by rw[qP,if_pos ⟨h1,by omega⟩],rr⟩
  ·obtain⟨u,hu,ru⟩:=E'.fz j d h2;exact⟨u,by rw[qP,if_neg (by rw[hl];exact h1)];exact hu,ru⟩
 ·rcases gs j _ h with⟨h1,h2,h3⟩ | ⟨h1,h2⟩
  ·cases r with
   | fz=>cases h3
   | ov=>cases h3
   | ow zo=>
    cases h3;obtain⟨p,xs,rfl,a1,a2,a3,a4⟩:=rr;exact⟨p,xs,by rw[qP,if_pos ⟨h1,by omega⟩],a3,a2,E.e.h.free a1,a4⟩
  ·obtain⟨p,xs,b1,b2,b3,b4,b5⟩:=E'.ow j ds h2;exact⟨p,xs,by rw[qP,if_neg (by rw[hl];exact h1)];exact b1,b2,b3,b4,b5⟩
 ·have old:∀{j:Nat} {ds:List D},gt ρ j=.ow ds->∀es,r=.ow es->σ[j]?≠some (some v):=fun{j ds} h es e z=>by
   subst e;obtain⟨p,xs,rfl,a1,a2,a3,a4⟩:=rr;obtain⟨p',qR,b1,b2,b3,b4,b5⟩:=E.ow j ds h;rw[b1] at z;cases z;rw[a1] at b2;cases b2
  rcases gs j _ h1 with⟨c1,c2,c3⟩ | ⟨c1,c2⟩
  ·rcases gs k _ h2 with⟨d1,d2,d3⟩ | ⟨d1,d2⟩
   ·exact absurd (c1.symm.trans d1) rm
   ·rw[qP,if_pos ⟨c1,by omega⟩,qP,if_neg (by rw[hl];exact d1)];cases r with
    | fz=>cases c3
    | ov=>cases c3
    | ow jM=>exact fun z=>old d2 jM rfl z.symm
  ·rcases gs k _ h2 with⟨d1,d2,d3⟩ | ⟨d1,d2⟩
   ·rw[qP,if_neg (by rw[hl];exact c1),qP,if_pos ⟨d1,by omega⟩];cases r with
    | fz=>cases d3
    | ov=>cases d3
    | ow jM=>exact old c2 jM rfl
   ·rw[qP,if_neg (by rw[hl];exact c1),qP,if_neg (by rw[hl];exact d1)];exact E.dj j k ds es rm c2 d2
 ·obtain⟨own,o1,o2⟩:=E.on;have Mf:∀j,¬(i=j/\j<ρ.length)->(σ.set i (some v))[j]?=σ[j]?:=fun j h=>by rw[qP,if_neg (by rw[hl];exact h)]
  have gen:∀L:List Addr,(∀q∈L,H q=none)->(∀j ds p,i=j->j<ρ.length->r.sl=.ow ds->v=.ref p->p∈L)->
    (∀j o,i=j->j<ρ.length->r.sl=.ov o->∃p fp,v=.ref p/\(p::fp).Nodup/\lx K G' H' p fp o/\∀q∈p::fp,G' q=none/\q∈L)->
    ∃own:Addr->Option Nat,(∀j ds p,gt (ρ.set i r.sl) j=.ow ds->(σ.set i (some v))[j]?=some (some (.ref p))->own p=some j)/\∀j o,gt (ρ.set i r.sl) j=.ov o->∃p fp,(σ.set i (some v))[j]?=some (some (.ref p))/\(p::fp).Nodup/\lx K G' H' p fp o/\∀q∈p::fp,G' q=none/\H0 q=none/\own q=some j:=by
   intro L hL hw ho;refine⟨fun q=>if q∈L then some i else own q,fun j ds p h hp=>?_,fun j o h=>?_⟩
   ·rcases gs j _ h with⟨h1,h2,h3⟩ | ⟨h1,h2⟩
    ·rw[qP,if_pos ⟨h1,by omega⟩] at hp;have hv:v=.ref p:=by injection hp with hp;injection hp
     dsimp only;rw[if_pos (hw j ds p h1 h2 h3.symm hv),h1]
    ·rw[Mf j h1] at hp;obtain⟨p',qR,b1,b2,_⟩:=E.ow j ds h2;have gP:p∉L:=fun z=>by
      rw[hp] at b1;cases b1;rw[hL p z] at b2;cases b2
     dsimp only;rw[if_neg gP];exact o1 j ds p h2 hp
   ·rcases gs j _ h with⟨h1,h2,h3⟩ | ⟨h1,h2⟩
    ·obtain⟨p,fp,rfl,c1,c2,c3⟩:=ho j o h1 h2 h3.symm;refine⟨p,fp,by rw[qP,if_pos ⟨h1,by omega⟩],c1,c2,fun q hq=>⟨(c3 q hq).1,E.e.h.free (hL q (c3 q hq).2),?_⟩⟩;dsimp only;rw[if_pos (c3 q hq).2,h1]
    ·obtain⟨p,fp,b1,b2,b3,b4⟩:=o2 j o h2;refine⟨p,fp,by rw[Mf j h1];exact b1,b2,b3.mono x.g fun q _ u e=>x.h q u e,fun q hq=>⟨x.n q (b4 q hq).1 (b3.here q hq),(b4 q hq).2.1,?_⟩⟩;dsimp only;rw[if_neg (fun z=>b3.here q hq (hL q z))];exact(b4 q hq).2.2
  cases r with
  | fz d=>exact gen [] (fun q hq=>by cases hq) (fun j ds p _ _ e=>by cases e) (fun j o _ _ e=>by cases e)
  | ow zo=>
   obtain⟨p,xs,rfl,a1,a2,a3,a4⟩:=rr;refine gen [p] (fun q hq=>?_) (fun j ds p' _ _ e e2=>?_) (fun j o _ _ e=>by cases e)
   ·simp only[aX] at hq;subst hq;exact a1
   ·cases e2;simp
  | ov o'=>
   obtain⟨p,fp,rfl,a1,a2,a3⟩:=rr;refine gen (p::fp) (fun q hq=>(a3 q hq).1) (fun j ds p' _ _ e=>by cases e) (fun j o _ _ e=>?_);cases e;exact⟨p,fp,rfl,a1,a2,fun q hq=>⟨(a3 q hq).2,hq⟩⟩
noncomputable def mN(i:Nat)(ρ:Ev):Ev:=match gt ρ i with
 | .ow ds=>ρ.set i (.fz (.lst ds))
 | .ov o=>ρ.set i (.fz o.val)
 | _=>ρ
theorem Cd{ρ:Ev}{i:Nat}{s:Sl}(h:gt ρ i=s)(hs:s≠.un):i<ρ.length:=by
 induction ρ generalizing i with
 | nil=>simp[gt] at h;exact absurd h.symm hs
 | cons a r ih=>
  cases i with
  | zero=>simp
  | succ i=>simp only[gt] at h;have:=ih h;simp;omega
theorem fj.Me{K:Z9}{G H:Hp}:∀{qs:List Addr} {gw:List (List D)},fj K G H qs gw->∀q∈qs,∃zs,H q=some (.lst zs)
 | [],[],_,q,hq=>by cases hq
 | p::qs,ds::gw,h,q,hq=>by
  simp only[fj] at h;rcases ar.mp hq with rfl | hq
  ·exact⟨_,h.1.choose_spec.1⟩
  ·exact fj.Me h.2 q hq
 | [],_::_,h,_,_=>by simp only[fj] at h
 | _::_,[],h,_,_=>by simp only[fj] at h
theorem gj.tH(i:Nat)(E:gj K G0 H0 ρ σ G H):∃L:List Addr,(∀q∈L,G q=none)/\gj K G0 H0 (mN i ρ) σ (qM G H L) H/\(((∀o,gt ρ i=.ov o->(∃kvs,o=.dc kvs)\/∃gw,o=.ll gw)->∀q∈L,H q≠none/\∀xs,¬Rd H q (.tup xs)))/\∀o p,gt ρ i=.ov o->σ[i]?=some (some (.ref p))->p∈L:=by
 unfold mN;split
 ·rename_i ds hg;obtain⟨p,xs,h1,h2,h3,h4,h5⟩:=E.ow i ds hg;have fI:i<ρ.length:=Cd hg (by simp);have hs:e8 G (upd G p (.lst xs)):=vN h3;have gs:∀j s,gt (ρ.set i (.fz (.lst ds))) j=s->(i=j/\s=.fz (.lst ds))\/(i≠j/\gt ρ j=s):=fun j s e=>by
   rw[yz] at e;by_cases h:i=j
   ·subst h;rw[if_pos ⟨rfl,fI⟩] at e;exact .inl ⟨rfl,e.symm⟩
   ·rw[if_neg (fun z=>h z.1)] at e;exact .inr ⟨h,e⟩
  have ep:qM G H [p]=upd G p (.lst xs):=by
   funext a
   by_cases ha:a=p
   ·subst ha;rw[jz,t8 (by simp)];exact h2
   ·rw[gA ha,su (by simpa using ha)]
  refine⟨[p],fun q hq=>?_,?_,fun _ q hq=>by
   simp only[aX] at hq;rw[hq]
   exact⟨(by rw[h2];exact nofun),fun qR e=>by rcases e with e | ⟨_,e⟩<;>(rw[h2] at e;cases e)⟩,fun o p z=>by rw[hg] at z;cases z⟩
  ·simp only[aX] at hq;subst hq;exact h3
  rw[ep];refine⟨⟨E.e.g.trans hs,E.e.h,fun b o e=>?_,fun q q1 q2=>?_⟩,by simp[E.len],fun j d h=>?_,fun j es h=>?_,fun j k es fs rm a1 a2=>?_,?_⟩
  ·by_cases hb:b=p
   ·subst hb;rw[jz] at e;rw[h2];exact e
   ·rw[gA hb] at e;exact E.e.s b o e
  ·rw[gA (fun z=>q2 (by rw[z];exact h4))];exact E.e.n q q1 q2
  ·rcases gs j _ h with⟨e,e2⟩ | ⟨e,e2⟩
   ·subst e;cases e2;exact⟨_,h1,by simp only[Rep];exact⟨p,xs,rfl,mx.of jz,h5.mono hs⟩⟩
   ·obtain⟨u,u1,u2⟩:=E.fz j d e2;exact⟨u,u1,u2.mono hs⟩
  ·rcases gs j _ h with⟨e,e2⟩ | ⟨e,e2⟩
   ·cases e2
   ·obtain⟨p',qR,b1,b2,b3,b4,b5⟩:=E.ow j es e2;have gP:p'≠p:=fun z=>by
     subst z;exact E.dj i j ds es e hg e2 (by rw[h1,b1])
    exact⟨p',qR,b1,b2,by rw[gA gP];exact b3,b4,b5.mono hs⟩
  ·rcases gs j _ a1 with⟨_,e2⟩ | ⟨e,e2⟩
   ·cases e2
   ·rcases gs k _ a2 with⟨_,e4⟩ | ⟨e3,e4⟩
    ·cases e4
    ·exact E.dj j k es fs rm e2 e4
  ·obtain⟨own,o1,o2⟩:=E.on;refine⟨own,fun j es p' h hp=>?_,fun j o h=>?_⟩
   ·rcases gs j _ h with⟨_,e2⟩ | ⟨_,e2⟩
    ·cases e2
    ·exact o1 j es p' e2 hp
   ·rcases gs j _ h with⟨_,e2⟩ | ⟨e,e2⟩
    ·cases e2
    ·obtain⟨p',fp,b1,b2,b3,b4⟩:=o2 j o e2;refine⟨p',fp,b1,b2,b3.mono hs fun q _ u e=>e,fun q hq=>⟨?_,(b4 q hq).2⟩⟩;rw[gA fun z=>?_]
     ·exact(b4 q hq).1
     ·have z1:=(b4 q hq).2.2;rw[z,o1 i ds p hg h1] at z1;injection z1 with z1
      exact e z1
 ·rename_i o hg;obtain⟨own,o1,o2⟩:=E.on;obtain⟨p,fp,h1,h2,h3,h4⟩:=o2 i o hg;have fI:i<ρ.length:=Cd hg (by simp);have hn:∀q∈p::fp,G q=none:=fun q hq=>(h4 q hq).1
  have hs:e8 G (qM G H (p::fp)):=Aj hn;have gs:∀j s,gt (ρ.set i (.fz o.val)) j=s->(i=j/\s=.fz o.val)\/(i≠j/\gt ρ j=s):=fun j s e=>by
   rw[yz] at e;by_cases h:i=j
   ·subst h;rw[if_pos ⟨rfl,fI⟩] at e;exact .inl ⟨rfl,e.symm⟩
   ·rw[if_neg (fun z=>h z.1)] at e;exact .inr ⟨h,e⟩
  suffices Bs:gj K G0 H0 (ρ.set i (.fz o.val)) σ (qM G H (p::fp)) H from⟨p::fp,hn,Bs,fun hd q hq=>by
   rcases hd o hg with⟨kvs,rfl⟩ | ⟨gw,rfl⟩
   ·obtain⟨rfl,ks,ep,h5,_⟩:=h3;simp only[aX] at hq;rw[hq];exact⟨(by rw[h5];exact nofun),fun qR e=>by rcases e with e | ⟨_,e⟩<;>(rw[h5] at e;cases e)⟩
   ·obtain⟨zs,h5⟩:∃zs,H q=some (.lst zs):=by
     rcases ar.mp hq with rfl | hq
     ·exact⟨_,h3.1⟩
     ·exact fj.Me h3.2 q hq
    exact⟨(by rw[h5];exact nofun),fun qR e=>by rcases e with e | ⟨_,e⟩<;>(rw[h5] at e;cases e)⟩,fun o' p' _ e=>by rw[h1] at e;cases e;simp⟩
  refine⟨⟨E.e.g.trans hs,E.e.h,fun b u e=>?_,fun q q1 q2=>?_⟩,by simp[E.len],fun j d h=>?_,fun j es h=>?_,fun j k es fs rm a1 a2=>?_,own,fun j es p' h hp=>?_,fun j o' h=>?_⟩
  ·by_cases hb:b∈p::fp
   ·rw[t8 hb] at e;exact e
   ·rw[su hb] at e;exact E.e.s b u e
  ·rw[su (fun z=>q2 (h4 q z).2.1)];exact E.e.n q q1 q2
  ·rcases gs j _ h with⟨e,e2⟩ | ⟨e,e2⟩
   ·subst e;cases e2;exact⟨_,h1,h3.freeze hn⟩
   ·obtain⟨u,u1,u2⟩:=E.fz j d e2;exact⟨u,u1,u2.mono hs⟩
  ·rcases gs j _ h with⟨e,e2⟩ | ⟨e,e2⟩
   ·cases e2
   ·obtain⟨p',qR,b1,b2,b3,b4,b5⟩:=E.ow j es e2;refine⟨p',qR,b1,b2,?_,b4,b5.mono hs⟩;rw[su fun z=>?_]
    ·exact b3
    ·have z1:=(h4 p' z).2.2;rw[o1 j es p' e2 b1] at z1;injection z1 with z1
     exact e z1.symm
  ·rcases gs j _ a1 with⟨_,e2⟩ | ⟨e,e2⟩
   ·cases e2
   ·rcases gs k _ a2 with⟨_,e4⟩ | ⟨e3,e4⟩
    ·cases e4
    ·exact E.dj j k es fs rm e2 e4
  ·rcases gs j _ h with⟨_,e2⟩ | ⟨_,e2⟩
   ·cases e2
   ·exact o1 j es p' e2 hp
  ·rcases gs j _ h with⟨_,e2⟩ | ⟨e,e2⟩
   ·cases e2
   ·obtain⟨p',tI,b1,b2,b3,b4⟩:=o2 j o' e2;refine⟨p',tI,b1,b2,b3.mono hs fun q _ u e=>e,fun q hq=>⟨?_,(b4 q hq).2⟩⟩;rw[su fun z=>?_]
    ·exact(b4 q hq).1
    ·have z1:=(b4 q hq).2.2;rw[(h4 q z).2.2] at z1;injection z1 with z1
     exact e z1
 ·rename_i ZM X3;have ep:qM G H []=G:=by funext a;exact su (by simp)
  exact⟨[],fun q hq=>(by cases hq),by rw[ep];exact E,fun _ q hq=>(by cases hq),fun o p z=>(X3 o z).elim⟩
theorem gj.nQ(i:Nat)(E:gj K G0 H0 ρ σ G H):∃L:List Addr,(∀q∈L,G q=none)/\gj K G0 H0 (mN i ρ) σ (qM G H L) H/\((∀o,gt ρ i=.ov o->(∃kvs,o=.dc kvs)\/∃gw,o=.ll gw)->∀q∈L,H q≠none/\∀xs,¬Rd H q (.tup xs)):=
 let⟨L,a,b,c,_⟩:=E.tH i
 ⟨L,a,b,c⟩
theorem gj.freeze(i:Nat)(E:gj K G0 H0 ρ σ G H):∃G',gj K G0 H0 (mN i ρ) σ G' H/\e8 G G':=
 let⟨L,hL,E',_⟩:=E.nQ i
 ⟨_,E',Aj hL⟩
theorem gj.change{i:Nat}{ds zo:List D}{p:Addr}{qR:List V}(E:gj K G0 H0 ρ σ G H)(hg:gt ρ i=.ow ds)(h1:σ[i]?=some (some (.ref p)))(hr:eQ K G qR zo) :
  gj K G0 H0 (ρ.set i (.ow zo)) σ G (upd H p (.lst qR)):=by
 obtain⟨p',ZI,b1,b2,b3,b4,b5⟩:=E.ow i ds hg;rw[h1] at b1;cases b1;have fI:i<ρ.length:=Cd hg (by simp);have gs:∀j s,gt (ρ.set i (.ow zo)) j=s->(i=j/\s=.ow zo)\/(i≠j/\gt ρ j=s):=fun j s e=>by
  rw[yz] at e;by_cases h:i=j
  ·subst h;rw[if_pos ⟨rfl,fI⟩] at e;exact .inl ⟨rfl,e.symm⟩
  ·rw[if_neg (fun z=>h z.1)] at e;exact .inr ⟨h,e⟩
 have hG:e8 G (upd H p (.lst qR)):=fun b o e=>by rw[gA (l7 e b3)];exact E.e.s b o e
 refine⟨⟨E.e.g,fun b o e=>by rw[gA (l7 e b4)];exact E.e.h b o e,hG,E.e.n⟩,by simp[E.len],fun j d h=>?_,fun j es h=>?_,fun j k es fs rm a1 a2=>?_,?_⟩
 ·rcases gs j _ h with⟨_,e2⟩ | ⟨e,e2⟩
  ·cases e2
  ·exact E.fz j d e2
 ·rcases gs j _ h with⟨e,e2⟩ | ⟨e,e2⟩
  ·subst e;cases e2;exact⟨p,qR,h1,jz,b3,b4,hr⟩
  ·obtain⟨p',Xt,c1,c2,c3,c4,c5⟩:=E.ow j es e2;have gP:p'≠p:=fun z=>by
    subst z;exact E.dj i j ds es e hg e2 (by rw[h1,c1])
   exact⟨p',Xt,c1,by rw[gA gP];exact c2,c3,c4,c5⟩
 ·rcases gs j _ a1 with⟨e,e2⟩ | ⟨e,e2⟩
  ·subst e;rcases gs k _ a2 with⟨e3,e4⟩ | ⟨e3,e4⟩
   ·exact absurd e3 rm
   ·exact E.dj i k ds fs rm hg e4
  ·rcases gs k _ a2 with⟨e3,e4⟩ | ⟨e3,e4⟩
   ·subst e3;exact E.dj j i es ds rm e2 hg
   ·exact E.dj j k es fs rm e2 e4
 ·obtain⟨own,o1,o2⟩:=E.on;refine⟨own,fun j es p' h hp=>?_,fun j o h=>?_⟩
  ·rcases gs j _ h with⟨e,e2⟩ | ⟨_,e2⟩
   ·subst e;exact o1 i ds p' hg hp
   ·exact o1 j es p' e2 hp
  ·rcases gs j _ h with⟨_,e2⟩ | ⟨e,e2⟩
   ·cases e2
   ·obtain⟨p',fp,c1,c2,c3,c4⟩:=o2 j o e2;refine⟨p',fp,c1,c2,c3.mono (e8.refl _) fun q hq u e3=>?_,c4⟩;rw[gA fun z=>?_]
    ·exact e3
    ·have z1:=(c4 q hq).2.2;rw[z,o1 i ds p hg h1] at z1;injection z1 with z1
     exact e z1
theorem gj.qJ{i:Nat}{o o':OV}{p:Addr}(E:gj K G0 H0 ρ σ G H)(hg:gt ρ i=.ov o)(h1:σ[i]?=some (some (.ref p)))
  (hc:∀fp,(p::fp).Nodup->lx K G H p fp o->∃tI,(p::tI).Nodup/\lx K G H' p tI o'/\(∀q∈p::tI,q∈p::fp\/H q=none)/\∀b,b∉p::fp->H b≠none->H' b=H b) :
  gj K G0 H0 (ρ.set i (.ov o')) σ G H':=by
 obtain⟨own,o1,o2⟩:=E.on;obtain⟨p',fp,b1,b2,b3,b4⟩:=o2 i o hg;rw[h1] at b1;cases b1;obtain⟨tI,c1,c2,c3,c4⟩:=hc fp b2 b3;have fI:i<ρ.length:=Cd hg (by simp);have gs:∀j s,gt (ρ.set i (.ov o')) j=s->(i=j/\s=.ov o')\/(i≠j/\gt ρ j=s):=fun j s e=>by
  rw[yz] at e;by_cases h:i=j
  ·subst h;rw[if_pos ⟨rfl,fI⟩] at e;exact .inl ⟨rfl,e.symm⟩
  ·rw[if_neg (fun z=>h z.1)] at e;exact .inr ⟨h,e⟩
 have hk:∀(F:Hp),(∀q∈p::fp,F q=none)->e8 F H->e8 F H':=fun F hF s b u e=>by
  have hb:b∉p::fp:=fun z=>by rw[hF b z] at e;cases e
  rw[c4 b hb (by rw[s b u e];exact nofun)];exact s b u e
 refine⟨⟨E.e.g,hk H0 (fun q hq=>(b4 q hq).2.1) E.e.h,hk G (fun q hq=>(b4 q hq).1) E.e.s,E.e.n⟩,by simp[E.len],fun j d h=>?_,fun j es h=>?_,fun j k es fs rm a1 a2=>?_,fun q=>if q∈p::tI then some i else own q,fun j es p' h hp=>?_,fun j X2 h=>?_⟩
 ·rcases gs j _ h with⟨_,e2⟩ | ⟨e,e2⟩
  ·cases e2
  ·exact E.fz j d e2
 ·rcases gs j _ h with⟨_,e2⟩ | ⟨e,e2⟩
  ·cases e2
  ·obtain⟨p',xs,d1,d2,d3,d4,d5⟩:=E.ow j es e2;refine⟨p',xs,d1,?_,d3,d4,d5⟩;rw[c4 p' (fun z=>?_) (by rw[d2];exact nofun)]
   ·exact d2
   ·have z1:=(b4 p' z).2.2;rw[o1 j es p' e2 d1] at z1;injection z1 with z1
    exact e z1.symm
 ·rcases gs j _ a1 with⟨_,e2⟩ | ⟨e,e2⟩
  ·cases e2
  ·rcases gs k _ a2 with⟨_,e4⟩ | ⟨e3,e4⟩
   ·cases e4
   ·exact E.dj j k es fs rm e2 e4
 ·rcases gs j _ h with⟨_,e2⟩ | ⟨e,e2⟩
  ·cases e2
  ·have w:=o1 j es p' e2 hp;obtain⟨p2,xs,d1,d2,_⟩:=E.ow j es e2;rw[hp] at d1;cases d1;dsimp only;rw[if_neg fun z=>?_]
   ·exact w
   ·rcases c3 p' z with z | z
    ·have z1:=(b4 p' z).2.2;rw[w] at z1;injection z1 with z1
     exact e z1.symm
    ·rw[z] at d2;cases d2
 ·rcases gs j _ h with⟨e,e2⟩ | ⟨e,e2⟩
  ·subst e;cases e2;refine⟨p,tI,h1,c1,c2,fun q hq=>?_⟩;dsimp only;rw[if_pos hq];rcases c3 q hq with z | z
   ·exact⟨(b4 q z).1,(b4 q z).2.1,rfl⟩
   ·exact⟨E.e.s.free z,E.e.h.free z,rfl⟩
  ·obtain⟨p2,M7,d1,d2,d3,d4⟩:=o2 j X2 e2;have rj:∀q∈p2::M7,q∉p::fp:=fun q hq z=>by
    have z1:=(b4 q z).2.2;rw[(d4 q hq).2.2] at z1;injection z1 with z1
    exact e z1.symm
   refine⟨p2,M7,d1,d2,d3.mono (e8.refl _) fun q hq u e3=>?_,fun q hq=>⟨(d4 q hq).1,(d4 q hq).2.1,?_⟩⟩
   ·rw[c4 q (rj q hq) (by rw[e3];exact nofun)];exact e3
   ·dsimp only;rw[if_neg fun z=>?_]
    ·exact(d4 q hq).2.2
    ·rcases c3 q z with z | z
     ·exact rj q hq z
     ·exact d3.here q hq z
theorem gj.weak{ρ':Ev}(E:gj K G0 H0 ρ σ G H)(hl:ρ'.length=ρ.length)(w:∀i,gt ρ' i=.un\/gt ρ' i=gt ρ i):gj K G0 H0 ρ' σ G H:=by
 have g:∀i s,gt ρ' i=s->s≠.un->gt ρ i=s:=fun i s e n=>by
  rcases w i with h | h
  ·exact absurd (e.symm.trans h) n
  ·rw[<-h];exact e
 exact⟨E.e,by rw[hl];exact E.len,fun i d h=>E.fz i d (g i _ h (by simp)),fun i d h=>E.ow i d (g i _ h (by simp)),fun i j ds es jx h1 h2=>E.dj i j ds es jx (g i _ h1 (by simp)) (g j _ h2 (by simp)),let⟨own,o1,o2⟩:=E.on;⟨own,fun i ds p h=>o1 i ds p (g i _ h (by simp)),fun i o h=>o2 i o (g i _ h (by simp))⟩⟩
end
section
variable {X:Cx} {pos:Pos} {e:Expr} {te:TD}
def fg(t u:TX):TX:=fun D ρ=>t { D with nx:=u D } ρ
def iH:TX:=fun D ρ=>D.nx ρ
theorem jg:p5 X [] iH:=⟨_,JO,fun ρ σ G0 H0 G H D E k h g=>g.nx ρ σ G H (e8.refl _) k h⟩
theorem fk{st:Stmt}{ud:List Stmt}{t u:TX}(h1:PX X st t)(h2:p5 X ud u):p5 X (st::ud) (fg t u):=by
 obtain⟨t1,p1,q1⟩:=h1;obtain⟨t2,p2,q2⟩:=h2;refine⟨_,Ke p1 p2,fun ρ σ G0 H0 G H D E k h g=>q1 ρ σ G0 H0 G H _ _ k h ⟨fun ρ' fF G' H' s' k' h'=>q2 ρ' fF G0 H0 G' H' D E k' h' (g.shift s'),g.rt,g.bk,g.ct⟩⟩
theorem fE{st:Stmt}{t:TX}(h1:PX X st t):p5 X [st] t:=by
 obtain⟨t1,p1,q1⟩:=h1;exact⟨_,RH p1,q1⟩
theorem vL(i:Nat){ud:List Stmt}{t:TX}(h:p5 X ud t):p5 X ud (fun D ρ=>t D (mN i ρ)):=by
 obtain⟨t1,p1,q1⟩:=h;refine⟨_,p1,fun ρ σ G0 H0 G H D E k h g=>?_⟩;obtain⟨G',k',s'⟩:=k.freeze i;exact q1 _ σ G0 H0 G' H D E k' h (g.shift s')
def ip(te:TD):TX:=fun D ρ=>te ρ D.rt
theorem iG(h:PD X e te):PX X (.Return (some e) pos) (ip te):=by
 obtain⟨t,p,q⟩:=h;exact⟨_,Ct p,fun ρ σ G0 H0 G H D E k h g=>q ρ σ G0 H0 G H _ _ k h fun v H' r G' x rr hq=>g.rt v H' r G' (k.e.trans x) (rr.iX k.e.h) hq⟩
def pD(i:Nat):TX:=fun D ρ=>match gt ρ i with
 | .ow ds=>D.rt (.ow ds)
 | _=>False
theorem xg(i:Nat){x:Str}{p':Pos}(hN:X.N[i]?=some x:=by rfl)(hv:nV X.env.scope x:=by first | exact Or.inl rfl | exact Or.inr (Or.inl rfl) | exact Or.inr (Or.inr rfl))(hd:(x==("__debug__":Str))=false:=by decide)
  (iS:(x==("__classdict__":Str))=false:=by decide):PX X (.Return (some (.Name x p')) pos) (pD i):=by
 refine⟨_,Ct (pE hN hv hd iS),fun ρ σ G0 H0 G H D E k h g=>?_⟩;unfold pD at h;split at h
 ·rename_i ds hg;obtain⟨p,xs,h1,h2,h3,h4,h5⟩:=k.ow i ds hg;exact⟨_,h1,g.rt _ H (.ow ds) G k.e ⟨p,xs,rfl,h4,h3,h2,h5⟩ h⟩
 ·exact h.elim
def wO(te:TD):TX:=fun D ρ=>te ρ fun _=>D.nx ρ
theorem z0(h:PD X e te)(hs:swapsWith e none pos.line X.env=pure false:=by rfl):PX X (.Expr e pos) (wO te):=by
 obtain⟨t,p,q⟩:=h;exact⟨_,yH p hs,fun ρ σ G0 H0 G H D E k h g=>q ρ σ G0 H0 G H _ _ k h fun v H' r G' x rr hq=>g.nx ρ σ G' H' x.g (k.ext x) hq⟩
def iE(c:kz)(t u:TX):TX:=fun D ρ=>c ρ fun b=>if b=true then t D ρ else u D ρ
theorem i6{c:Expr}{a b:List Stmt}{tc:kz}{t u:TX}(hc:PB X c tc)(ha:p5 X a t)(hb:p5 X b u):PX X (.If c a b pos) (iE tc t u):=by
 obtain⟨t0,p0,q0⟩:=hc;obtain⟨t1,p1,q1⟩:=ha;obtain⟨t2,p2,q2⟩:=hb;refine⟨_,NU p0 p1 p2,fun ρ σ G0 H0 G H D E k h g=>q0 ρ σ G0 H0 G H _ _ k h fun b H' G' x hq=>?_⟩;cases b with
 | true=>rw[if_pos rfl] at hq ⊢;exact q1 ρ σ G0 H0 G' H' D E (k.ext x) hq (g.shift x.g)
 | false=>rw[if_neg aO] at hq ⊢;exact q2 ρ σ G0 H0 G' H' D E (k.ext x) hq (g.shift x.g)
def kB(i:Nat)(te:TD):TX:=fun D ρ=>te ρ fun r=>D.nx (ρ.set i r.sl)
theorem oz(i:Nat){x:Str}{pos':Pos}(he:PD X e te)(hN:X.N.Nodup:=by assumption)(hi:X.N[i]?=some x:=by rfl)(hx:Loc X.env.scope x:=by first | exact Or.inl rfl | exact Or.inr rfl)(hs:swapsWith e (some (.Name x pos')) pos.line X.env=pure false:=by rfl)(hf:X.fn x=true\/X.env.scope.names.lookup x=some .local:=by first | exact .inl rfl | exact .inr rfl | assumption) :
  PX X (.Assign [.Name x pos'] e pos) (kB i te):=by
 obtain⟨t,p,q⟩:=he;exact⟨_,IK hN hi hx p hs hf,fun ρ σ G0 H0 G H D E k h g=>q ρ σ G0 H0 G H _ _ k h fun v H' r G' x rr hq=>g.nx _ _ G' H' x.g (k.put x rr) hq⟩
def gc(i:Nat)(te:TD):TX:=fun D ρ=>te ρ fun r=>D.nx (ρ.set i (.fz r.val))
theorem gD(i:Nat){x:Str}{pos':Pos}(he:PD X e te)(hN:X.N.Nodup:=by assumption)(hi:X.N[i]?=some x:=by rfl)(hx:Loc X.env.scope x:=by first | exact Or.inl rfl | exact Or.inr rfl)(hs:swapsWith e (some (.Name x pos')) pos.line X.env=pure false:=by rfl)(hf:X.fn x=true\/X.env.scope.names.lookup x=some .local:=by first | exact .inl rfl | exact .inr rfl | assumption) :
  PX X (.Assign [.Name x pos'] e pos) (gc i te):=by
 obtain⟨t,p,q⟩:=he;refine⟨_,IK hN hi hx p hs hf,fun ρ σ G0 H0 G H D E k h g=>q ρ σ G0 H0 G H _ _ k h fun v H' r G' x rr hq=>?_⟩;obtain⟨G2,x2,rv,_⟩:=rr.freeze x;exact g.nx _ _ G2 H' x2.g (k.put x2 (r:=.fz r.val) rv) hq
def lY(i:Nat)(te:TD):TX:=fun D ρ=>match gt ρ i with
 | .ow ds=>te ρ fun r=>ds.length<sizeLine/\D.nx (ρ.set i (.ow (ds++[r.val])))
 | _=>False
theorem pN(i:Nat){x:Str}{p1 p2 pos':Pos}(he:PD X e te)(hN:X.N[i]?=some x:=by rfl)(hv:nV X.env.scope x:=by first | exact Or.inl rfl | exact Or.inr (Or.inl rfl) | exact Or.inr (Or.inr rfl))(hd:(x==("__debug__":Str))=false:=by decide)
  (iS:(x==("__classdict__":Str))=false:=by decide) (jv:starEach [e] X.env=(false,eval e X.env)::starEach [] X.env:=by rfl)
  (hb:∀{ta:TE} {t:TA},PE X (.Name x p1) ta->PA X [e] t->PE X (.Call (.Attribute (.Name x p1) "append" p2) [e] [] pos') (Df X.K "list" EC ta t):=by intro ta t h1 h2;exact Cg cP PySem.F.slot_list_append PySem.F.type_list_append Fo h1 h2) :
  PX X (.Expr (.Call (.Attribute (.Name x p1) "append" p2) [e] [] pos') pos) (lY i te):=by
 obtain⟨t,p,q⟩:=he;refine⟨_,yH (hb (pE hN hv hd iS) (rN p t7 jv)),fun ρ σ G0 H0 G H D E k h g=>?_⟩;unfold lY at h;split at h
 ·rename_i ds hg;obtain⟨a,xs,h1,h2,h3,h4,h5⟩:=k.ow i ds hg;refine⟨_,h1,.inl ⟨rfl,xs,gT.of h2⟩,?_⟩;refine q ρ σ G0 H0 G H _ _ k h fun v H' r G' x1 rr hq=>?_
  obtain⟨G2,x2,rv,_⟩:=rr.freeze x1;have k2:=k.ext x2;refine⟨a,xs,v,rfl,rfl,x2.h _ _ h2,by rw[h5.length];exact hq.1,?_⟩;exact g.nx _ _ G2 _ x2.g (k2.change hg h1 ((h5.mono x2.g).append (eQ.cons rv eQ.nil))) hq.2
 ·exact h.elim
end
section
variable {X:Cx} {pos:Pos} {tg:Expr}
noncomputable abbrev kh:=D->Ev->(Ev->Prop)->Prop
noncomputable abbrev qg:=List D->Ev->(Ev->Prop)->Prop
def tO(X:Cx)(tg:Expr)(g:kh):Prop:=∃gg,PG X tg gg/\∀(ρ:Ev) (σ:St) (G0 H0 G H:Hp) (d:D) (v:V) (Q:Ev->Prop) (P:St->Hp->Prop),gj X.K G0 H0 ρ σ G H->Rep X.K G v d->g d ρ Q->
 (∀ρ' fF G' H',gj X.K G0 H0 ρ' fF G' H'->Ext G H G' H'->Q ρ'->P fF H')->gg v σ H P
def zC(X:Cx)(XA:List Expr)(g:qg):Prop:=∃gg,zu X XA gg/\∀(ρ:Ev) (σ:St) (G0 H0 G H:Hp) (ds:List D) (vs:List V) (Q:Ev->Prop) (P:St->Hp->Prop),gj X.K G0 H0 ρ σ G H->eQ X.K G vs ds->g ds ρ Q->
 (∀ρ' fF G' H',gj X.K G0 H0 ρ' fF G' H'->Ext G H G' H'->Q ρ'->P fF H')->gg vs σ H P
def fG(i:Nat):kh:=fun d ρ Q=>Q (ρ.set i (.fz d))
theorem fU(i:Nat){x:Str}(hN:X.N.Nodup:=by assumption)(hi:X.N[i]?=some x:=by rfl)(hx:Loc X.env.scope x:=by first | exact Or.inl rfl | exact Or.inr rfl)(hf:X.fn x=true\/X.env.scope.names.lookup x=some .local:=by first | exact .inl rfl | exact .inr rfl | assumption):tO X (.Name x pos) (fG i):=
 ⟨_,RG hN hi hx hf,fun ρ σ G0 H0 G H d v Q P E r h k=>k _ _ G H (E.put (.refl E.e.s) (r:=.fz d) r) (.refl E.e.s) h⟩
noncomputable def jR:qg:=fun ds ρ Q=>match ds with
 | []=>Q ρ
 | _=>False
noncomputable def gE(t:kh)(u:qg):qg:=fun ds ρ Q=>match ds with
 | d::r=>t d ρ fun ρ'=>u r ρ' Q
 | []=>False
theorem nF:zC X [] jR:=by
 refine⟨_,RF,fun ρ σ G0 H0 G H ds vs Q P E r h k=>?_⟩;unfold jR at h;split at h
 ·cases vs with
  | nil=>exact⟨rfl,k _ _ G H E (.refl E.e.s) h⟩
  | cons=>simp only[eQ] at r
 ·exact h.elim
theorem iU{e:Expr}{es:List Expr}{t:kh}{u:qg}(h1:tO X e t)(h2:zC X es u)(hs:(assignEach (e::es) X.env).map (·.2)=assign e X.env::(assignEach es X.env).map (·.2):=by rfl):zC X (e::es) (gE t u):=by
 obtain⟨t1,p1,q1⟩:=h1;obtain⟨t2,p2,q2⟩:=h2;refine⟨_,SS p1 p2 hs,fun ρ σ G0 H0 G H ds vs Q P E r h k=>?_⟩;unfold gE at h;split at h
 ·cases vs with
  | nil=>simp only[eQ] at r
  | cons v vs=>
   simp only[eQ] at r;refine⟨v,vs,rfl,q1 ρ σ G0 H0 G H _ v _ _ E r.1 h fun ρ' fF G' H' E' x hq=>?_⟩;exact q2 ρ' fF G0 H0 G' H' _ vs Q P E' (r.2.mono x.g) hq fun gm nj G2 H2 E2 x2 kx=>k gm nj G2 H2 E2 (x.trans x2) kx
 ·exact h.elim
def kA(n:Nat)(t:qg):kh:=fun d ρ Q=>match d with
 | .tup ds=>ds.length=n/\t ds ρ Q
 | _=>False
theorem ou{es:List Expr}{k:Nat}{t:qg}{n:Nat}(hc:X.calm=true)(h:zC X es t)(hn:(assignEach es X.env).length=n:=by rfl)(jv:(assignEach es X.env).findIdx? (·.1)=none:=by rfl):tO X (.Tuple es k pos) (kA n t):=by
 obtain⟨t1,p1,q1⟩:=h;refine⟨_,P4 hc p1 hn jv,fun ρ σ G0 H0 G H d v Q P E r h k=>?_⟩;unfold kA at h;split at h
 ·simp only[Rep] at r;obtain⟨a,xs,rfl,hq,rs⟩:=r;exact⟨a,xs,rfl,E.e.s.nH hq,by rw[rs.length];exact h.1,q1 ρ σ G0 H0 G H _ xs Q P E rs h.2 k⟩
 ·exact h.elim
def zB(te:TD)(g:kh):TX:=fun D ρ=>te ρ fun r=>g r.val ρ D.nx
theorem Ep{e:Expr}{te:TD}{g:kh}(he:PD X e te)(hg:tO X tg g)(hs:swapsWithSole [tg] e pos.line X.env=pure false:=by rfl)(hw:swappedStores [tg] e X.env=pure none:=by rfl)(h1:(assignEach [tg] X.env).map (·.2)=[assign tg X.env]:=by rfl):PX X (.Assign [tg] e pos) (zB te g):=by
 obtain⟨t,p,q⟩:=he;obtain⟨t2,p2,q2⟩:=hg;refine⟨_,IL p p2 hs hw h1,fun ρ σ G0 H0 G H D E k h g=>q ρ σ G0 H0 G H _ _ k h fun v H' r G' x rr hq=>?_⟩;obtain⟨G2,x2,rv,_⟩:=rr.freeze x;exact q2 ρ σ G0 H0 G2 H' _ v _ _ (k.ext x2) rv hq fun ρ' fF G' H' E' x' uY=>g.nx ρ' fF G' H' (x2.g.trans x'.g) E' uY
def uv(K:Z9)(J:It)(G:Hp)(ds:List D):Prop:=
 (∀i d G' H',ds[i]?=some d->e8 G G'->e8 G' H'->J.go i H'/\∀v H2,J.C9 i H' v H2->∃G2,Ext G' H' G2 H2/\Rep K G2 v d)/\∀G' H',e8 G G'->e8 G' H'->J.stop ds.length H'
noncomputable abbrev mO:=Ev->(List D->Prop)->Prop
def PId(X:Cx)(tg iter:Expr)(wi:mO):Prop:=∃ww,PI X tg iter ww/\∀(ρ:Ev) (σ:St) (G0 H0 G H:Hp) (Q:List D->Prop) (P:It->Hp->Prop),gj X.K G0 H0 ρ σ G H->wi ρ Q->
 (∀J H' ds G',Ext G H G' H'->uv X.K J G' ds->Q ds->P J H')->ww σ H P
def Cr(d:D)(Q:List D->Prop):Prop:=match d with
 | .lst ds=>Q ds
 | .tup ds=>Q ds
 | .str z=>Q (z.cps.toList.map fun c=>.str ⟨#[c]⟩)
 | _=>False
def i4(te:TD):mO:=fun ρ Q=>te ρ fun r=>Cr r.val Q
theorem Tq{K:Z9}{G:Hp}{a:Addr}{xs:List V}{ds:List D}(h:mx K G a xs)(r:eQ K G xs ds):uv K (HR K a) G ds:=by
 refine⟨fun i d G' H' hd s1 s2=>?_,fun G' H' s1 s2=>⟨xs,(s2.iF (s1.iF h)).sq,by rw[r.length];exact az _⟩⟩;obtain⟨v,hv,rv⟩:=r.get hd;have hs:gT K H' a xs:=(s2.iF (s1.iF h)).sq;refine⟨⟨xs,v,hs,hv⟩,fun u H2 hy=>?_⟩;obtain⟨e,y⟩:=hy;subst e;have:=y xs hs;rw[hv] at this;cases this;exact⟨G',.refl s2,rv.mono s1⟩
theorem RT{K:Z9}{G:Hp}{a:Addr}{xs:List V}{ds:List D}(h:iK K G a xs)(r:eQ K G xs ds):uv K (HQ K a) G ds:=by
 refine⟨fun i d G' H' hd s1 s2=>?_,fun G' H' s1 s2=>⟨xs,s2.sF (s1.sF h),by rw[r.length];exact az _⟩⟩;obtain⟨v,hv,rv⟩:=r.get hd;have hs:iK K H' a xs:=s2.sF (s1.sF h);refine⟨⟨xs,v,hs,hv⟩,fun u H2 hy=>?_⟩;obtain⟨e,y⟩:=hy;subst e;have:=y xs hs;rw[hv] at this;cases this;exact⟨G',.refl s2,rv.mono s1⟩
theorem RS{K:Z9}{G:Hp}(z:Str):uv K (DO z) G (z.cps.toList.map fun c=>.str ⟨#[c]⟩):=by
 refine⟨fun i d G' H' hd s1 s2=>?_,fun G' H' s1 s2=>?_⟩
 ·rw[aI] at hd;cases e:z.cps.toList[i]? with
  | none=>rw[e] at hd;cases hd
  | some c=>
   rw[e] at hd;cases hd;have hc:z.cps[i]?=some c:=by simpa using e
   refine⟨(Array.getElem?_eq_some_iff.mp hc).1,fun v H2 hy=>?_⟩;obtain⟨e2,c',tD,rfl⟩:=hy;subst e2;rw[hc] at tD;cases tD;exact⟨G',.refl s2,yF _ _ _⟩
 ·show _=_;simp
theorem UX{K:Z9}{G:Hp}(lo:Int)(n:Nat):uv K (DP lo n) G ((List.range n).map fun(i:Nat)=>.int (lo+i)):=by
 refine⟨fun i d G' H' hd s1 s2=>?_,fun G' H' s1 s2=>?_⟩
 ·rw[aI] at hd;cases e:(List.range n)[i]? with
  | none=>rw[e] at hd;cases hd
  | some c=>
   rw[e] at hd;cases hd;obtain⟨h1,h2⟩:=ax.mp e;have h3:i<n:=by simpa using h1
   have h4:c=i:=by rw[<-h2];simp
   subst h4;refine⟨h3,fun v H2 hy=>?_⟩;obtain⟨e2,rfl⟩:=hy;subst e2;exact⟨G',.refl s2,k5 _ _ _⟩
 ·show n<=_;simp
noncomputable def qj(ds:List D):List D:=ds.mapIdx fun i d=>.tup [.int (i:Nat),d]
theorem J4{K:Z9}{G:Hp}{t:Addr}{x y:V}{d e:D}(s1:G t=some (.tup [x,y]))(r1:Rep K G x d)(r2:Rep K G y e):Rep K G (.ref t) (.tup [d,e]):=by
 simp only[Rep];exact⟨t,[x,y],rfl,s1,eQ.cons r1 (eQ.cons r2 eQ.nil)⟩
theorem To{K:Z9}{G:Hp}{a:Addr}{xs:List V}{ds:List D}(h:mx K G a xs)(r:eQ K G xs ds):uv K (HS K a) G (qj ds):=by
 refine⟨fun i d G' H' hd s1 s2=>?_,fun G' H' s1 s2=>⟨xs,(s2.iF (s1.iF h)).sq,by rw[r.length];simp[qj]⟩⟩;unfold qj at hd;rw[List.getElem?_mapIdx] at hd;cases e:ds[i]? with
 | none=>rw[e] at hd;cases hd
 | some d'=>
  rw[e] at hd;cases hd;obtain⟨v,hv,rv⟩:=r.get e;have hs:gT K H' a xs:=(s2.iF (s1.iF h)).sq;refine⟨⟨xs,v,hs,hv⟩,fun u H2 hy=>?_⟩;obtain⟨t,rfl,ht,y⟩:=hy;obtain⟨x,hx,rfl⟩:=y xs hs;rw[hv] at hx;cases hx;have x2:Ext G' H' (upd G' t (.tup [.int i,v])) (upd H' t (.tup [.int i,v])):=.new s2 ht;exact⟨_,x2,J4 jz (k5 _ _ _) ((rv.mono s1).mono x2.g)⟩
noncomputable def ym(ds es:List D):List D:=List.zipWith (fun d e=>.tup [d,e]) ds es
theorem RR{K:Z9}{G:Hp}{a b:Addr}{xs ys:List V}{ds es:List D}(h:mx K G a xs)(r:eQ K G xs ds)(h':mx K G b ys)(r':eQ K G ys es):uv K (HP K a b) G (ym ds es):=by
 refine⟨fun i d G' H' hd s1 s2=>?_,fun G' H' s1 s2=>⟨xs,ys,(s2.iF (s1.iF h)).sq,(s2.iF (s1.iF h')).sq,?_⟩⟩
 ·unfold ym at hd;rw[List.getElem?_zipWith] at hd;cases e:ds[i]? with
  | none=>rw[e] at hd;cases hd
  | some d'=>
   cases e2:es[i]? with
   | none=>rw[e,e2] at hd;cases hd
   | some d2=>
    rw[e,e2] at hd;cases hd;obtain⟨v,hv,rv⟩:=r.get e;obtain⟨v',xN,m6⟩:=r'.get e2;have hs:gT K H' a xs:=(s2.iF (s1.iF h)).sq;have uW:gT K H' b ys:=(s2.iF (s1.iF h')).sq;refine⟨⟨xs,ys,v,v',hs,uW,hv,xN⟩,fun u H2 hy=>?_⟩;obtain⟨t,rfl,ht,y⟩:=hy;obtain⟨x,x',hx,m8,rfl⟩:=y xs ys hs uW;rw[hv] at hx;rw[xN] at m8;cases hx;cases m8;have x2:Ext G' H' (upd G' t (.tup [v,v'])) (upd H' t (.tup [v,v'])):=.new s2 ht;exact⟨_,x2,J4 jz ((rv.mono s1).mono x2.g) ((m6.mono s1).mono x2.g)⟩
 ·rw[r.length,r'.length];unfold ym;rw[List.length_zipWith];omega
theorem j8{l:Expr}{te:TD}(h:PD X l te):PId X tg l (i4 te):=by
 obtain⟨t,p,q⟩:=h;refine⟨_,Qi p,fun ρ σ G0 H0 G H Q P E h k=>q ρ σ G0 H0 G H _ _ E h fun v H' r G' x rr hq=>?_⟩;obtain⟨G2,x2,rv,_⟩:=rr.freeze x;unfold Cr at hq;split at hq
 ·rename_i ds e;rw[e] at rv;simp only[Rep] at rv;obtain⟨a,xs,rfl,h1,h2⟩:=rv;exact .inl ⟨a,rfl,⟨xs,(x2.s.iF h1).sq⟩,k _ H' _ G2 x2 (Tq h1 h2) hq⟩
 ·rename_i ds e;rw[e] at rv;simp only[Rep] at rv;obtain⟨a,xs,rfl,h1,h2⟩:=rv;exact .inr (.inl ⟨a,rfl,⟨xs,x2.s.nH h1⟩,k _ H' _ G2 x2 (RT (iK.of h1) h2) hq⟩)
 ·rename_i z e;rw[e] at rv;simp only[Rep] at rv;exact .inr (.inr ⟨z,rv,k _ H' _ G2 x2 (RS z) hq⟩)
 ·exact hq.elim
def nr(ts:lq):mO:=fun ρ Q=>ts ρ fun ds=>match ds with
 | [.int j]=>-(2 ^ 62)<=j/\j<2 ^ 62/\Q ((List.range j.toNat).map fun(i:Nat)=>.int (0+i))
 | _=>False
theorem mR{K:Z9}{G:Hp}{vs:List V}{d:D}(h:eQ K G vs [d]):∃v,vs=[v]/\Rep K G v d:=by
 match vs,h with
 | [],h=>simp only[eQ] at h
 | [v],h=>simp only[eQ] at h;exact⟨v,rfl,h.1⟩
 | v::w::r,h=>simp only[eQ] at h;exact absurd h.2 (by simp)
theorem Ea{K:Z9}{G:Hp}{vs:List V}{d e:D}(h:eQ K G vs [d,e]):∃v w,vs=[v,w]/\Rep K G v d/\Rep K G w e:=by
 match vs,h with
 | [],h=>simp only[eQ] at h
 | v::r,h=>
  simp only[eQ] at h;obtain⟨w,rfl,hw⟩:=mR h.2;exact⟨v,w,rfl,h.1,hw⟩
theorem pP{a:Expr}{ts:lq}{p:Pos}(hm:X.mg "range"=none)(ha:oJ X [a] ts)(hg:Gl X "range":=by rfl)(hs:starEach [a] X.env=[(false,eval a X.env)]:=by rfl):PId X tg (.Call (.Name "range" p) [a] [] pos) (nr ts):=by
 obtain⟨t,pp,q⟩:=ha;refine⟨_,Uz hg hm pp hs,fun ρ σ G0 H0 G H Q P E h k=>q ρ σ G0 H0 G H _ _ E h fun vs H' ds G' x rs hq=>?_⟩;split at hq
 ·obtain⟨v,rfl,rv⟩:=mR rs;simp only[Rep] at rv;subst rv;exact⟨_,rfl,hq.1,hq.2.1,k _ H' _ G' x (UX 0 _) hq.2.2⟩
 ·exact hq.elim
def vq(ts:lq):mO:=fun ρ Q=>ts ρ fun ds=>match ds with
 | [.lst es]=>Q (qj es)
 | _=>False
theorem yL{a:Expr}{ts:lq}{p tp:Pos}{elts:List Expr}{x1:Nat}(hm:X.mg "enumerate"=none)(ha:oJ X [a] ts)(hg:Gl X "enumerate":=by rfl)(hs:starEach [a] X.env=[(false,eval a X.env)]:=by rfl):PId X (.Tuple elts x1 tp) (.Call (.Name "enumerate" p) [a] [] pos) (vq ts):=by
 obtain⟨t,pp,q⟩:=ha;refine⟨_,Qy hg hm pp hs,fun ρ σ G0 H0 G H Q P E h k=>q ρ σ G0 H0 G H _ _ E h fun vs H' ds G' x rs hq=>?_⟩;split at hq
 ·obtain⟨v,rfl,rv⟩:=mR rs;simp only[Rep] at rv;obtain⟨a,xs,rfl,h1,h2⟩:=rv;exact⟨a,xs,rfl,x.s.iF h1,k _ H' _ G' x (To h1 h2) hq⟩
 ·exact hq.elim
def Ca(ts:lq):mO:=fun ρ Q=>ts ρ fun ds=>match ds with
 | [.lst es,.lst fs]=>Q (ym es fs)
 | _=>False
theorem Qw{a b:Expr}{ts:lq}{p tp:Pos}{elts:List Expr}{x1:Nat}(hm:X.mg "zip"=none)(ha:oJ X [a,b] ts)(hg:Gl X "zip":=by rfl)(hs:starEach [a,b] X.env=[(false,eval a X.env),(false,eval b X.env)]:=by rfl)(uj:starEach [b] X.env=[(false,eval b X.env)]:=by rfl) :
  PId X (.Tuple elts x1 tp) (.Call (.Name "zip" p) [a,b] [] pos) (Ca ts):=by
 obtain⟨t,pp,q⟩:=ha;refine⟨_,OK hg hm pp hs uj,fun ρ σ G0 H0 G H Q P E h k=>q ρ σ G0 H0 G H _ _ E h fun vs H' ds G' x rs hq=>?_⟩;split at hq
 ·obtain⟨v,w',rfl,rv,pJ⟩:=Ea rs;simp only[Rep] at rv pJ;obtain⟨a,xs,rfl,h1,h2⟩:=rv;obtain⟨b,ys,rfl,h3,h4⟩:=pJ;exact⟨a,b,rfl,⟨xs,(x.s.iF h1).sq⟩,⟨ys,(x.s.iF h3).sq⟩,k _ H' _ G' x (RR h1 h2 h3 h4) hq⟩
 ·exact hq.elim
def kj(wi:mO)(g:kh)(tb:TX):TX:=fun D ρ=>wi ρ fun ds=>∃Iv:Nat->Ev->Prop,Iv 0 ρ/\
 (∀i d ρ',ds[i]?=some d->Iv i ρ'->g d ρ' fun gm=>tb { D with nx:=Iv (i+1),ct:=Iv (i+1),bk:=D.nx } gm)/\∀ρ',Iv ds.length ρ'->D.nx ρ'
theorem mX{iter:Expr}{body:List Stmt}{wi:mO}{g:kh}{tb:TX}(hp:PassesOwn (model X.prog X.w) X.A X.env X.xe)(hc:X.calm=true)(hi:PId X tg iter wi)(hg:tO X tg g)(hb:p5 X body tb)
  (hs:∀x,foldedSetIterable iter X.env x=pure x:=by intro _;rfl):PX X (.For tg iter body [] pos) (kj wi g tb):=by
 obtain⟨t1,p1,q1⟩:=hi;obtain⟨t2,p2,q2⟩:=hg;obtain⟨t3,p3,q3⟩:=hb;refine⟨_,P0 hp hc p1 p2 p3 hs,fun ρ σ G0 H0 G H D E k h gg=>q1 ρ σ G0 H0 G H _ _ k h fun J H1 ds G1 x1 wk hq=>?_⟩;obtain⟨Iv,i0,turn,fin⟩:=hq;refine⟨fun i m fF H'=>m=ds.length-i/\i<=ds.length/\∃ρ' G',gj X.K G0 H0 ρ' fF G' H'/\e8 G1 G'/\Iv i ρ',⟨ds.length,by simp,aL _,ρ,G1,k.ext x1,e8.refl _,i0⟩,?_⟩;rintro i m fF H' ⟨rfl,hi,ρ',G',k',s',iv⟩;by_cases fI:i<ds.length
 ·obtain⟨w1,w2⟩:=wk;obtain⟨go,yl⟩:=w1 i ds[i] G' H' (ai fI) s' k'.e.s;refine .inr ⟨go,fun nj H2=>∃gm G2,gj X.K G0 H0 gm nj G2 H2/\e8 G1 G2/\Iv (i+1) gm,fun nj H2 ⟨gm,G2,k2,s2,Yf⟩=>⟨ds.length-(i+1),by omega,rfl,fI,gm,G2,k2,s2,Yf⟩,fun v H2 hy=>?_⟩;obtain⟨G2,x2,rv⟩:=yl v H2 hy;refine q2 ρ' fF G0 H0 G2 H2 ds[i] v _ _ (k'.ext x2) rv (turn i ds[i] ρ' (ai fI) iv) fun uq nD G3 H3 k3 x3 hJ=>?_
  have s3:e8 G1 G3:=(s'.trans x2.g).trans x3.g;refine q3 uq nD G0 H0 G3 H3 _ _ k3 hJ ⟨fun sf rC G4 H4 s4 k4 h4=>⟨sf,G4,k4,s3.trans s4,h4⟩,gg.rt,fun sf rC G4 H4 s4 k4 h4=>gg.nx sf rC G4 H4 ((x1.g.trans s3).trans s4) k4 h4,fun sf rC G4 H4 s4 k4 h4=>⟨sf,G4,k4,s3.trans s4,h4⟩⟩
 ·have e:i=ds.length:=by omega
  subst e;exact .inl ⟨wk.2 G' H' s' k'.e.s,gg.nx ρ' fF G' H' (x1.g.trans s') k' (fin ρ' iv)⟩
def vE(c:kz)(tb:TX):TX:=fun D ρ=>∃W:Nat->Ev->Prop,(∃m,W m ρ)/\∀m ρ',W m ρ'->c ρ' fun b=>if b=true then tb { D with nx:=fun gm=>∃m',m'<m/\W m' gm,ct:=fun gm=>∃m',m'<m/\W m' gm,bk:=D.nx } ρ' else D.nx ρ'
theorem EY{c:Expr}{body:List Stmt}{tc:kz}{tb:TX}(hp:PassesOwn (model X.prog X.w) X.A X.env X.xe)(hc:PB X c tc)(hb:p5 X body tb):PX X (.While c body [] pos) (vE tc tb):=by
 obtain⟨t1,p1,q1⟩:=hc;obtain⟨t3,p3,q3⟩:=hb;refine⟨_,SR hp p1 p3,fun ρ σ G0 H0 G H D E k h gg=>?_⟩;obtain⟨W,⟨m0,w0⟩,turn⟩:=h;refine⟨fun m fF H'=>∃ρ' G',gj X.K G0 H0 ρ' fF G' H'/\e8 G G'/\W m ρ',⟨m0,ρ,G,k,e8.refl _,w0⟩,?_⟩;rintro m fF H' ⟨ρ',G',k',s',wm⟩;refine q1 ρ' fF G0 H0 G' H' _ _ k' (turn m ρ' wm) fun b H2 G2 x2 hq=>?_
 cases b with
 | true=>
  rw[if_pos rfl] at hq ⊢;refine⟨fun nj H2=>∃m',m'<m/\∃gm G2,gj X.K G0 H0 gm nj G2 H2/\e8 G G2/\W m' gm,fun nj H2 h2=>h2,?_⟩;have s2:e8 G G2:=s'.trans x2.g;exact q3 ρ' fF G0 H0 G2 H2 _ _ (k'.ext x2) hq ⟨fun sf rC G4 H4 s4 k4 fh=>by obtain⟨m',hm,h4⟩:=fh;exact⟨m',hm,sf,G4,k4,s2.trans s4,h4⟩,gg.rt,fun sf rC G4 H4 s4 k4 h4=>gg.nx sf rC G4 H4 (s2.trans s4) k4 h4,fun sf rC G4 H4 s4 k4 fh=>by obtain⟨m',hm,h4⟩:=fh;exact⟨m',hm,sf,G4,k4,s2.trans s4,h4⟩⟩
 | false=>
  rw[if_neg aO] at hq ⊢;exact gg.nx ρ' fF G2 H2 (s'.trans x2.g) (k'.ext x2) hq
end
noncomputable def rH(ρ:Ev):Option Nat->Sl
 | none=>.un
 | some j=>match gt ρ j with
  | .fz d=>.fz d
  | _=>.un
noncomputable def iV(m:List (Option Nat))(ρ:Ev):Ev:=m.map (rH ρ)
theorem t6{m:List (Option Nat)}{ρ:Ev}{i:Nat}:gt (m.map (rH ρ)) i=match m[i]? with
  | some o=>rH ρ o
  | none=>.un:=by
 induction m generalizing i with
 | nil=>simp[gt]
 | cons a r ih=>
  cases i with
  | zero=>simp[gt]
  | succ i=>simp only[aA,gt,bD];exact ih
def rM(m:List (Option Nat))(g:kh):Prop:=∀d ρ Q,g d ρ Q->g d ρ fun gm=>Q gm/\gm.length=ρ.length/\∀j c,m[j]?=some (some c)->gt gm j=gt ρ j
def CI(m:List (Option Nat))(g:qg):Prop:=∀ds ρ Q,g ds ρ Q->g ds ρ fun gm=>Q gm/\gm.length=ρ.length/\∀j c,m[j]?=some (some c)->gt gm j=gt ρ j
theorem kZ{m:List (Option Nat)}{i:Nat}(h:m[i]?=some none:=by rfl):rM m (fG i):=fun d ρ Q q=>by
 refine⟨q,by simp,fun j c hj=>?_⟩;rw[yz,if_neg];rintro⟨e,_⟩;subst e;rw[h] at hj;cases hj
theorem J3{m:List (Option Nat)}:CI m jR:=fun ds ρ Q q=>by
 unfold jR at q ⊢;split at q
 ·exact⟨q,rfl,fun _ _ _=>rfl⟩
 ·exact q.elim
theorem Ai{m:List (Option Nat)}{t:kh}{u:qg}(mono:∀d ρ (Q Q':Ev->Prop),(∀ρ',Q ρ'->Q' ρ')->t d ρ Q->t d ρ Q')(sS:∀d ρ (Q Q':Ev->Prop),(∀ρ',Q ρ'->Q' ρ')->u d ρ Q->u d ρ Q')(h1:rM m t)(h2:CI m u):CI m (gE t u):=fun ds ρ Q q=>by
 unfold gE at q ⊢;split at q
 ·refine mono _ _ _ _ (fun ρ' fh=>?_) (h1 _ _ _ q);obtain⟨q',l',k'⟩:=fh;exact sS _ _ _ _ (fun gm fh=>by obtain⟨q2,l2,k2⟩:=fh;exact⟨q2,l2.trans l',fun j c hj=>(k2 j c hj).trans (k' j c hj)⟩) (h2 _ _ _ q')
 ·exact q.elim
theorem J2{m:List (Option Nat)}{n:Nat}{u:qg}(h2:CI m u):rM m (kA n u):=fun d ρ Q q=>by
 unfold kA at q ⊢;split at q
 ·exact⟨q.1,h2 _ _ _ q.2⟩
 ·exact q.elim
theorem uN{i:Nat}:∀d ρ (Q Q':Ev->Prop),(∀ρ',Q ρ'->Q' ρ')->fG i d ρ Q->fG i d ρ Q':=fun _ _ _ _ h q=>h _ q
theorem Aa:∀d ρ (Q Q':Ev->Prop),(∀ρ',Q ρ'->Q' ρ')->jR d ρ Q->jR d ρ Q':=fun _ _ _ _ h q=>by
 unfold jR at q ⊢;split at q
 ·exact h _ q
 ·exact q.elim
theorem C1{t:kh}{u:qg}(mono:∀d ρ (Q Q':Ev->Prop),(∀ρ',Q ρ'->Q' ρ')->t d ρ Q->t d ρ Q')(sS:∀d ρ (Q Q':Ev->Prop),(∀ρ',Q ρ'->Q' ρ')->u d ρ Q->u d ρ Q'):∀d ρ (Q Q':Ev->Prop),(∀ρ',Q ρ'->Q' ρ')->gE t u d ρ Q->gE t u d ρ Q':=fun _ _ _ _ h q=>by
 unfold gE at q ⊢;split at q
 ·exact mono _ _ _ _ (fun ρ' q'=>sS _ _ _ _ h q') q
 ·exact q.elim
theorem vS{m:List (Option Nat)}{i j n:Nat}(h:m[i]?=some none:=by rfl)(h':m[j]?=some none:=by rfl):rM m (kA n (gE (fG i) (gE (fG j) jR))):=
 J2 (Ai uN (C1 uN Aa) (kZ h) (Ai uN Aa (kZ h') J3))
theorem Vp{m:List (Option Nat)}{i j k n:Nat}(h:m[i]?=some none:=by rfl)(h':m[j]?=some none:=by rfl)(xY:m[k]?=some none:=by rfl):rM m (kA n (gE (fG i) (gE (fG j) (gE (fG k) jR)))):=
 J2 (Ai uN (C1 uN (C1 uN Aa)) (kZ h) (Ai uN (C1 uN Aa) (kZ h') (Ai uN Aa (kZ xY) J3)))
def yg(X:Cx)(ifs:List Expr)(t:kz):Prop:=∃tt,zr X ifs tt/\∀(ρ:Ev) (σ:St) (G0 H0 G H:Hp) (Q:Bool->Prop) (P:Bool->Hp->Prop),gj X.K G0 H0 ρ σ G H->t ρ Q->
 (∀b H' G',Ext G H G' H'->Q b->P b H')->tt σ H P
def lD:kz:=fun _ Q=>Q true
theorem ot{X:Cx}:yg X [] lD:=⟨_,QB,fun ρ σ G0 H0 G H Q P E h k=>k true H G (.refl E.e.s) h⟩
theorem qp{X:Cx}{c:Expr}{t:kz}(h:PB X c t):yg X [c] t:=let⟨tt,p,q⟩:=h;⟨tt,QA p,q⟩
def iI(wi:mO)(m:List (Option Nat))(g:kh)(tc:kz)(te:TD):TD:=fun ρ Q=>wi ρ fun ds=>∃Iv:Nat->List D->Prop,Iv 0 []/\
 (∀i d acc,ds[i]?=some d->Iv i acc->g d (iV m ρ) fun gm=>tc gm fun b=>if b=true then te gm fun r=>acc.length<sizeLine/\Iv (i+1) (acc++[r.val]) else Iv (i+1) acc)/\∀acc,Iv ds.length acc->Q (.ow acc)
section
variable {X:Cx} {elt iter tg:Expr} {ifs:List Expr} {scope:Scope} {pos:Pos} {N':List Str} {m:List (Option Nat)} {wi:mO} {g:kh} {tc:kz} {te:TD}
theorem CH(cs:fH X N' m scope)(hk:rM m g){ww:TI}{gg:r8 TG}{AY:r8 TT}{tee:r8 TE}
  (q1:∀(ρ:Ev) (σ:St) (G0 H0 G H:Hp) (Q:List D->Prop) (P:It->Hp->Prop),gj X.K G0 H0 ρ σ G H->wi ρ Q->(∀J H' ds G',Ext G H G' H'->uv X.K J G' ds->Q ds->P J H')->ww σ H P)
  (q2:∀s3 H3 ex (ρ:Ev) (σ:St) (G0 H0 G H:Hp) (d:D) (v:V) (Q:Ev->Prop) (P:St->Hp->Prop),gj X.K G0 H0 ρ σ G H->Rep X.K G v d->g d ρ Q->(∀ρ' fF G' H',gj X.K G0 H0 ρ' fF G' H'->Ext G H G' H'->Q ρ'->P fF H')->gg s3 H3 ex v σ H P)
  (q3:∀s3 H3 ex (ρ:Ev) (σ:St) (G0 H0 G H:Hp) (Q:Bool->Prop) (P:Bool->Hp->Prop),gj X.K G0 H0 ρ σ G H->tc ρ Q->(∀b H' G',Ext G H G' H'->Q b->P b H')->AY s3 H3 ex σ H P)
  (q4:∀s3 H3 ex,se X.K te (tee s3 H3 ex)):se X.K (iI wi m g tc te) (zJ ww m gg AY tee):=by
 refine fun ρ σ G0 H0 G H Q P E h k=>q1 ρ σ G0 H0 G H _ _ E h fun J H1 ds G1 x1 wk hq=>?_
 obtain⟨Iv,i0,turn,fin⟩:=hq;intro D hD s3 ex;have E1:=E.ext x1;have HB:G1 D=none:=x1.s.free hD;have lh:∀{i:Nat} {es:List L2.D},gt (iV m ρ) i=.ow es->False:=fun{i es} h=>by
  unfold iV at h;rw[t6] at h;split at h
  ·rename_i o _;unfold rH at h;split at h
   ·cases h
   ·split at h<;>cases h
  ·cases h
 have sQ:∀{i:Nat} {o:OV},gt (iV m ρ) i=.ov o->False:=fun{i o} h=>by
  unfold iV at h;rw[t6] at h;split at h
  ·rename_i o _;unfold rH at h;split at h
   ·cases h
   ·split at h<;>cases h
  ·cases h
 have mS:gj X.K G1 H1 (iV m ρ) (sU m σ) G1 (upd H1 D (.lst [])):=by
  refine⟨.own x1.s hD,by simp[sU,iV],fun i d h=>?_,fun i es h=>(lh h).elim,fun i j es fs _ h=>(lh h).elim,fun _=>none,fun i es _ h=>(lh h).elim,fun i o h=>(sQ h).elim⟩;unfold iV at h;rw[t6] at h;split at h
  ·rename_i o ho;unfold rH at h;split at h
   ·cases h
   ·rename_i j;split at h
    ·rename_i d' vc;cases h;obtain⟨v,hv,rv⟩:=E1.fz j d vc;refine⟨v,?_,rv⟩;unfold sU;rw[aI,ho];simp[hv]
    ·cases h
  ·cases h
 refine⟨fun i n fF H'=>n=ds.length-i/\i<=ds.length/\∃acc xs G',gj X.K G1 H1 (iV m ρ) fF G' H'/\H' D=some (.lst xs)/\G' D=none/\eQ X.K G' xs acc/\Iv i acc,
  ⟨ds.length,by simp,aL _,[],[],G1,mS,jz,HB,eQ.nil,i0⟩,?_⟩
 rintro i n fF H' ⟨rfl,hi,acc,xs,G',E',hx,BH,rx,iv⟩;by_cases fI:i<ds.length
 ·obtain⟨w1,w2⟩:=wk;obtain⟨go,yl⟩:=w1 i ds[i] G' H' (ai fI) E'.e.g E'.e.s;refine .inr ⟨go,fun nj H2=>∃acc xs G',gj X.K G1 H1 (iV m ρ) nj G' H2/\H2 D=some (.lst xs)/\G' D=none/\eQ X.K G' xs acc/\Iv (i+1) acc,fun nj H2 h2=>⟨ds.length-(i+1),by omega,rfl,fI,h2⟩,fun v H2 hy=>?_⟩;obtain⟨G2,x2,rv⟩:=yl v H2 hy;refine q2 _ _ _ (iV m ρ) fF G1 H1 G2 H2 ds[i] v _ _ (E'.ext x2) rv (hk _ _ _ (turn i ds[i] acc (ai fI) iv)) fun uq nD G3 H3 E3 x3 hJ=>?_
  obtain⟨hJ,He,Hi⟩:=hJ;have weak:∀j,gt (iV m ρ) j=.un\/gt (iV m ρ) j=gt uq j:=fun j=>by
   cases hm:m[j]? with
   | none=>left;unfold iV;rw[t6,hm]
   | some o=>
    cases o with
    | none=>left;unfold iV;rw[t6,hm];rfl
    | some c=>right;exact(Hi j c hm).symm
  have vT:=x2.trans x3;refine q3 _ _ _ uq nD G1 H1 G3 H3 _ _ E3 hJ fun b H4 G4 x4 uX=>?_
  have lE:=vT.trans x4;have E4:=(E3.ext x4).weak (ρ':=iV m ρ) (He.symm) weak;have wa:H4 D=some (.lst xs):=lE.h _ _ hx;have BF:G4 D=none:=lE.n D BH (by rw[hx];exact nofun);cases b with
  | false=>
   rw[if_neg aO] at uX ⊢;exact⟨acc,xs,G4,E4,wa,BF,rx.mono lE.g,uX⟩
  | true=>
   rw[if_pos rfl] at uX ⊢;refine q4 _ _ _ uq nD G1 H1 G4 H4 _ _ (E3.ext x4) uX fun v5 H5 r5 G5 x5 Gq xQ=>?_
   obtain⟨G6,x6,XN,_⟩:=Gq.freeze x5;have E6:=E4.ext x6;have GG:H5 D=some (.lst xs):=x6.h _ _ wa;have BE:G6 D=none:=x6.n D BF (by rw[wa];exact nofun);have r6:eQ X.K G6 xs acc:=(rx.mono lE.g).mono x6.g;refine⟨xs,GG,by rw[r6.length];exact xQ.1,acc++[r5.val],xs++[v5],G6,?_,jz,BE,r6.append (eQ.cons XN eQ.nil),xQ.2⟩;refine⟨⟨E6.e.g,fun b o e=>by rw[gA (l7 e hD)];exact E6.e.h b o e,fun b o e=>by rw[gA (l7 e BE)];exact E6.e.s b o e,E6.e.n⟩,E6.len,E6.fz,fun i es h=>(lh h).elim,fun i j es fs _ h=>(lh h).elim,fun _=>none,fun i es _ h=>(lh h).elim,fun i o h=>(sQ h).elim⟩
 ·have e:i=ds.length:=by omega
  subst e;refine .inl ⟨wk.2 G' H' E'.e.g E'.e.s,k _ H' (.ow acc) G' (x1.trans E'.e) ⟨D,xs,rfl,x1.h.free hD,BH,hx,rx⟩ (fin acc iv)⟩
theorem l8(hc:X.calm=true)(cs:fH X N' m scope)(hk:rM m g)(hi:PId X tg iter wi)(hg:∀s3 H3 ex,tO (kf X N' scope s3 H3 ex) tg g)(ht:∀s3 H3 ex,yg (kf X N' scope s3 H3 ex) ifs tc)
  (he:∀s3 H3 ex,PD (kf X N' scope s3 H3 ex) elt te) (hs:∀x,foldedSetIterable iter X.env x=pure x:=by intro _;rfl):PD X (.ListComp elt [⟨tg,iter,ifs,0⟩] scope pos) (iI wi m g tc te):=by
 obtain⟨ww,p1,q1⟩:=hi;exact⟨_,Qz (g:=fun s3 H3 ex=>(hg s3 H3 ex).choose) (tc:=fun s3 H3 ex=>(ht s3 H3 ex).choose) (te:=fun s3 H3 ex=>(he s3 H3 ex).choose) hc cs p1 (fun s3 H3 ex=>(hg s3 H3 ex).choose_spec.1) (fun s3 H3 ex=>(ht s3 H3 ex).choose_spec.1) (fun s3 H3 ex=>(he s3 H3 ex).choose_spec.1) hs,
  CH cs hk q1 (fun s3 H3 ex=>(hg s3 H3 ex).choose_spec.2) (fun s3 H3 ex=>(ht s3 H3 ex).choose_spec.2) (fun s3 H3 ex=>(he s3 H3 ex).choose_spec.2)⟩
theorem Jx(i:Nat){x:Str}{pos' kN:Pos}(hc:X.calm=true)(cs:fH X N' m scope)(hk:rM m g)(hi:PId X tg iter wi)(hg:∀s3 H3 ex,tO (kf X N' scope s3 H3 ex) tg g)(ht:∀s3 H3 ex,yg (kf X N' scope s3 H3 ex) ifs tc)
  (he:∀s3 H3 ex,PD (kf X N' scope s3 H3 ex) elt te) (hN:X.N.Nodup:=by assumption) (tm:X.N[i]?=some x:=by rfl) (hx:Loc X.env.scope x:=by first | exact Or.inl rfl | exact Or.inr rfl) (hs:∀x,foldedSetIterable iter X.env x=pure x:=by intro _;rfl)
  (uV:swapsWith (.ListComp elt [⟨tg,iter,ifs,0⟩] scope pos) (some (.Name x pos')) kN.line X.env=pure true:=by rfl)
  (hf:X.fn x=true\/X.env.scope.names.lookup x=some .local:=by first | exact .inl rfl | exact .inr rfl | assumption) :
  PX X (.Assign [.Name x pos'] (.ListComp elt [⟨tg,iter,ifs,0⟩] scope pos) kN) (kB i (iI wi m g tc te)):=by
 obtain⟨ww,p1,q1⟩:=hi;refine⟨_,CL (g:=fun s3 H3 ex=>(hg s3 H3 ex).choose) (tc:=fun s3 H3 ex=>(ht s3 H3 ex).choose) (te:=fun s3 H3 ex=>(he s3 H3 ex).choose) hN tm hx hc cs p1 (fun s3 H3 ex=>(hg s3 H3 ex).choose_spec.1) (fun s3 H3 ex=>(ht s3 H3 ex).choose_spec.1) (fun s3 H3 ex=>(he s3 H3 ex).choose_spec.1) hs uV hf,fun ρ σ G0 H0 G H D E k h gg=>?_⟩;exact CH cs hk q1 (fun s3 H3 ex=>(hg s3 H3 ex).choose_spec.2) (fun s3 H3 ex=>(ht s3 H3 ex).choose_spec.2) (fun s3 H3 ex=>(he s3 H3 ex).choose_spec.2) ρ σ G0 H0 G H _ _ k h fun v H' r G' x rr hq=>gg.nx _ _ G' H' x.g (k.put x rr) hq
theorem z9(i:Nat){x:Str}{pos' kN:Pos}(hc:X.calm=true)(cs:fH X N' m scope)(hk:rM m g)(hi:PId X tg iter wi)(hg:∀s3 H3 ex,tO (kf X N' scope s3 H3 ex) tg g)(ht:∀s3 H3 ex,yg (kf X N' scope s3 H3 ex) ifs tc)
  (he:∀s3 H3 ex,PD (kf X N' scope s3 H3 ex) elt te) (hN:X.N.Nodup:=by assumption) (tm:X.N[i]?=some x:=by rfl) (hx:Loc X.env.scope x:=by first | exact Or.inl rfl | exact Or.inr rfl) (hs:∀x,foldedSetIterable iter X.env x=pure x:=by intro _;rfl)
  (uV:swapsWith (.ListComp elt [⟨tg,iter,ifs,0⟩] scope pos) (some (.Name x pos')) kN.line X.env=pure true:=by rfl)
  (hf:X.fn x=true\/X.env.scope.names.lookup x=some .local:=by first | exact .inl rfl | exact .inr rfl | assumption) :
  PX X (.Assign [.Name x pos'] (.ListComp elt [⟨tg,iter,ifs,0⟩] scope pos) kN) (gc i (iI wi m g tc te)):=by
 obtain⟨ww,p1,q1⟩:=hi;refine⟨_,CL (g:=fun s3 H3 ex=>(hg s3 H3 ex).choose) (tc:=fun s3 H3 ex=>(ht s3 H3 ex).choose) (te:=fun s3 H3 ex=>(he s3 H3 ex).choose) hN tm hx hc cs p1 (fun s3 H3 ex=>(hg s3 H3 ex).choose_spec.1) (fun s3 H3 ex=>(ht s3 H3 ex).choose_spec.1) (fun s3 H3 ex=>(he s3 H3 ex).choose_spec.1) hs uV hf,fun ρ σ G0 H0 G H D E k h gg=>?_⟩;refine CH cs hk q1 (fun s3 H3 ex=>(hg s3 H3 ex).choose_spec.2) (fun s3 H3 ex=>(ht s3 H3 ex).choose_spec.2) (fun s3 H3 ex=>(he s3 H3 ex).choose_spec.2) ρ σ G0 H0 G H _ _ k h fun v H' r G' x rr hq=>?_
 obtain⟨G2,x2,rv,_⟩:=rr.freeze x;exact gg.nx _ _ G2 H' x2.g (k.put x2 (r:=.fz r.val) rv) hq
end
noncomputable abbrev f6:=List D->(R->Prop)->Prop
def yh(K:Z9)(n:Nat)(t:f6):Sp:=fun vs H Q _=>∃G ds Qr,e8 G H/\eQ K G vs ds/\ds.length=n/\t ds Qr/\∀v H' r G',Ext G H G' H'->gR K G' H' H v r->Qr r->Q v H'
noncomputable def g5(N:List Str)(ds:List D):Ev:=ds.map Sl.fz++List.replicate (N.length-ds.length) .un
theorem VG{ds:List D}{l:List Sl}{i:Nat}{s:Sl}(h:gt (ds.map Sl.fz++l) i=s):(∃d,ds[i]?=some d/\s=.fz d)\/(ds.length<=i/\gt l (i-ds.length)=s):=by
 induction ds generalizing i with
 | nil=>exact .inr ⟨aL _,by simpa using h⟩
 | cons d ds ih=>
  cases i with
  | zero=>simp only[aA,cA,gt] at h;exact .inl ⟨d,rfl,h.symm⟩
  | succ i=>
   simp only[aA,cA,gt] at h;rcases ih h with⟨e,h1,h2⟩ | ⟨h1,h2⟩
   ·exact .inl ⟨e,by simpa using h1,h2⟩
   ·refine .inr ⟨by simp;omega,?_⟩;rw[aE];rw[show i+1-(ds.length+1)=i-ds.length by omega];exact h2
theorem Tn{n i:Nat}:gt (List.replicate n Sl.un) i=.un:=by
 induction n generalizing i with
 | zero=>simp[gt]
 | succ n ih=>
  cases i with
  | zero=>rfl
  | succ i=>exact ih
theorem J1{K:Z9}{G H:Hp}{N:List Str}{vs:List V}{ds:List D}(s:e8 G H)(r:eQ K G vs ds):gj K G H (g5 N ds) (mS N vs) G H:=by
 have hl:=r.length;have c:∀{i:Nat} {t:Sl},gt (g5 N ds) i=t->t≠.un->∃d,ds[i]?=some d/\t=.fz d:=fun{i t} h n=>by
  rcases VG h with h | ⟨_,h⟩
  ·exact h
  ·rw[Tn] at h;exact absurd h.symm n
 refine⟨.refl s,by simp[mS,g5,hl],fun i d h=>?_,fun i es h=>?_,fun i j es fs _ h=>?_,fun _=>none,fun i es _ h=>?_,fun i o h=>?_⟩
 ·obtain⟨d',h1,h2⟩:=c h (by simp);cases h2;obtain⟨v,hv,rv⟩:=r.get h1;have hi:i<vs.length:=(ax.mp hv).1;refine⟨v,?_,rv⟩;unfold mS;rw[cD (by simpa using hi),aI,hv];rfl
 ·obtain⟨d',h1,h2⟩:=c h (by simp);cases h2
 ·obtain⟨d',h1,h2⟩:=c h (by simp);cases h2
 ·obtain⟨d',h1,h2⟩:=c h (by simp);cases h2
 ·obtain⟨d',h1,h2⟩:=c h (by simp);cases h2
section
variable {P:Program} {w:World} {K:Z9} {mg:Str->Option Value} {base:Heap}
theorem EL{x qual:Str}{st:Stmt}{f:Addr}{fd:FuncData}{N ps:List Str}{k:Nat}{t:f6}{T:TX}{dV:Value}(F:nZ dV K x qual st f fd)(S:eW N ps (eS st))
  (body:∀(fD:Value) (A:Around) (outer:List Env) (s:Shared) (H:Hp) (E:XK),gz k (A.deeper (envOfC qual (eS st) s.heap.objs.size f fD))->p5 (rJ oK P w K mg base N qual (eS st) f fD A outer s H E).uh (fK st) T)
  (spec:∀(ds:List D) (Qr:R->Prop),ds.length=ps.length->t ds Qr->T { nx:=fun _=>Qr (.fz .non),rt:=Qr } (g5 N ds)):jT P w K mg base oK (k+1) f fd ps (yh K ps.length t):=by
 refine F.ok S (fun vs H Q E h=>?_) (fun fD A outer s H vs Q E hr h=>?_)
 ·obtain⟨G,ds,Qr,_,r,hl,_⟩:=h;rw[r.length,hl]
 ·obtain⟨G,ds,Qr,s0,r,hl,ht,k0⟩:=h;obtain⟨tt,p,q⟩:=body fD A outer s H E hr;exact⟨tt,p,q _ _ G H G H _ _ (J1 s0 r) (spec ds Qr hl ht) ⟨fun ρ σ G' H' _ e h=>k0 _ H' _ G' e.e (iJ (Jz _ _)) h,k0,fun _ _ _ _ _ _ h=>h.elim,fun _ _ _ _ _ _ h=>h.elim⟩⟩
end
section
variable {X:Cx} {k n:Nat} {f:Addr} {fd:FuncData} {ps:List Str} {t:f6} {x:Str} {p pos:Pos} {e:Expr} {es:List Expr} {ts:lq}
def gF(n:Nat)(t:f6)(ts:lq):TD:=fun ρ Q=>ts ρ fun ds=>ds.length=n/\t ds Q
theorem Qv(F:jT X.prog X.w X.K X.mg X.base oK k f fd ps (yh X.K n t))(hr:gz k X.A)(hm:X.mg x=some (.ref f))(hk:PySem.W.keepIn X.K (.ref f)=true)(hb:Binds X.K fd ps [])(ha:oJ X (e::es) ts)(hg:Gl X x:=by rfl)(nM:(x==("__debug__":Str))=false:=by decide)
  (he:starEach (e::es) X.env=(false,eval e X.env)::starEach es X.env:=by rfl) (kO:(backTo pos (starEach es X.env)).any (·.1)=false:=by rfl):PD X (.Call (.Name x p) (e::es) [] pos) (gF n t ts):=by
 obtain⟨tt,pp,q⟩:=ha;refine⟨_,JR F hr hg hm hk hb .nil Eb pp nM he kO,fun ρ σ G0 H0 G H Q P E h k=>q ρ σ G0 H0 G H _ _ E h fun vs H' ds G' x rs hq=>?_⟩;rw[bz];exact⟨G',ds,Q,x.s,rs,hq.1,hq.2,fun v H2 r G2 x2 rr q2=>k v H2 r G2 (x.trans x2) (rr.iX x.h) q2⟩
end
open PySem.StrLaws
noncomputable def mK{α:Type}(xs:List α)(lo hi:Option Int):List α:=(xs.drop (HT.gv xs.length 0 lo)).take (HT.gv xs.length xs.length hi-HT.gv xs.length 0 lo)
noncomputable def sg(z:Str)(lo hi:Option Int):Str:=⟨(mK z.cps.toList lo hi).toArray⟩
theorem vp(v:Int)(n d:Nat):max 0 (min (if v<0 then v+(n:Int) else v) (n:Int))=((HT.gv n d (some v):Nat):Int):=by
 rw[<-HT.nU];by_cases h:v<0
 ·rw[if_pos h,if_pos h];omega
 ·rw[if_neg h,if_neg h];omega
theorem Lk(z:Str)(lo hi:Option Int):(Builtin.Str.strSliceIndices lo hi 1 z.length).filterMap (z.cps[·]?)=mK z.cps.toList lo hi:=by
 have hl:z.cps.toList.length=z.length:=by simp[Str.length]
 have e:Builtin.Str.strSliceIndices lo hi 1 z.length=sliceRange ((HT.gv z.length 0 lo:Nat):Int) ((HT.gv z.length z.length hi:Nat):Int) 1:=by
  unfold Builtin.Str.strSliceIndices;cases lo with
  | none=>
   cases hi with
   | none=>rfl
   | some v=>simp only[show((1:Int)>0) from by decide,aR,vp v z.length z.length];rfl
  | some u=>
   cases hi with
   | none=>simp only[show((1:Int)>0) from by decide,aR,vp u z.length 0];rfl
   | some v=>simp only[show((1:Int)>0) from by decide,aR,vp v z.length z.length,vp u z.length 0]
 rw[e];unfold mK;rw[hl];generalize ha:HT.gv z.length 0 lo=a;generalize hb:HT.gv z.length z.length hi=b;have Dz:b<=z.length:=by rw[<-hb];exact HT.k8 _ _ (az _) _
 have MR:a<=z.length:=by rw[<-ha];exact HT.k8 _ _ (aL _) _
 by_cases nN:a<=b
 ·have:=sliced_plain z nN Dz;rw[strSliceIndices_plain nN Dz] at this;rw[<-this];unfold sliceRange;simp only[show((1:Int)>0) from by decide,aR];congr 1
  by_cases h:a<b
  ·rw[if_pos (by omega)];rw[show(((b:Int)-(a:Int)+1-1)/1).toNat=b-a by omega];apply eD;intro k _;show((a:Int)+1*(k:Int)).toNat=a+k;omega
  ·rw[if_neg (by omega),show b-a=0 by omega];rfl
 ·rw[show b-a=0 by omega,List.take_zero];unfold sliceRange;simp only[show((1:Int)>0) from by decide,aR];rw[if_neg (by omega)];rfl
theorem Tj(z:Str)(lo hi:Option Int):Txt.slice z lo hi=sg z lo hi:=by
 unfold Txt.slice sg;split
 ·rename_i h;have h':(Builtin.Str.strSliceIndices lo hi 1 z.length).length=z.length:=by simpa using h
  have hl:z.cps.toList.length=z.length:=by simp[Str.length]
  have e:=Lk z lo hi;have h2:(mK z.cps.toList lo hi).length=z.length:=by
   unfold mK;rw[aM,bC,hl];have e1:Builtin.Str.strSliceIndices lo hi 1 z.length=sliceRange ((HT.gv z.length 0 lo:Nat):Int) ((HT.gv z.length z.length hi:Nat):Int) 1:=by
    unfold Builtin.Str.strSliceIndices;cases lo with
    | none=>
     cases hi with
     | none=>rfl
     | some v=>simp only[show((1:Int)>0) from by decide,aR,vp v z.length z.length];rfl
    | some u=>
     cases hi with
     | none=>simp only[show((1:Int)>0) from by decide,aR,vp u z.length 0];rfl
     | some v=>simp only[show((1:Int)>0) from by decide,aR,vp v z.length z.length,vp u z.length 0]
   rw[e1] at h';unfold sliceRange at h';simp only[show((1:Int)>0) from by decide,aR,ae,bE] at h';have b1:=HT.k8 z.length z.length (az _) hi;have b2:=HT.k8 z.length 0 (aL _) lo;by_cases h3:((HT.gv z.length 0 lo:Nat):Int)<((HT.gv z.length z.length hi:Nat):Int)
   ·rw[if_pos h3] at h';omega
   ·rw[if_neg h3] at h';simp at h';omega
  apply Str.ext';show z.cps=(mK z.cps.toList lo hi).toArray;have h3:mK z.cps.toList lo hi=z.cps.toList:=by
   unfold mK at h2 ⊢;rw[aM,bC,hl] at h2;rw[hl];have b1:=HT.k8 z.length z.length (az _) hi;have a0:HT.gv z.length 0 lo=0\/z.length=0:=by omega
   rcases a0 with a0 | a0
   ·rw[a0,List.drop_zero,Nat.sub_zero];exact bf (by omega)
   ·have:z.cps.toList=[]:=dr (by omega);rw[this];simp
  rw[h3]
 ·rw[Lk]
section
variable {X:Cx} {pos:Pos} {e:Expr} {te:TD}
theorem xu:wD X (fun x lo hi H Q=>∃z,x=.str z/\z.length<=sizeLine/\Q (.str (sg z lo hi)) H):=by
 intro Z8 s σ H x v vl vu lo hi sl Q I rx hs pl pu h;obtain⟨z,rfl,hz,q⟩:=h;obtain⟨t,rfl⟩:=rx;refine⟨"str",_,F.slot_str_getitem.lookup,typeIs_str _ _ _,?_⟩;have part:∀{u:Value} {o:Option Int},IsPart u o->∃p:Option (Int×Tok),u=partValue p/\p.map (·.1)=o:=fun h=>by
  cases h with
  | none=>exact⟨none,rfl,rfl⟩
  | int i t=>exact⟨some (i,t),rfl,rfl⟩
 obtain⟨p1,rfl,e1⟩:=part pl;obtain⟨p2,rfl,e2⟩:=part pu;obtain⟨o,ho,hc,hd⟩:=hs;refine wpAny_getItem_str_slice (l:=p1) (u:=p2) (st:=none) ⟨o,ho,hc,hd⟩ rfl ?_;have fin:∀t' k,EP X Z8 σ Q (.str (Txt.slice z lo hi) t') { s with toks:=k }:=fun t' k=>⟨.str (sg z lo hi),H,I.tok k,⟨t',by rw[Tj]⟩,q⟩
 have hle:=aH (Txt.slice_le z lo hi) hz;subst e1 e2;exact post_val_or_str ⟨hle,fin⟩
noncomputable abbrev zq:=Ev->(Option Int->Prop)->Prop
def DK(X:Cx)(e:Option Expr)(t:zq):Prop:=∃tt,PO X e tt/\∀(ρ:Ev) (σ:St) (G0 H0 G H:Hp) (Q:Option Int->Prop) (P:Option Int->Hp->Prop),gj X.K G0 H0 ρ σ G H->t ρ Q->(∀o H' G',Ext G H G' H'->Q o->P o H')->tt σ H P
def pL:zq:=fun _ Q=>Q none
def mQ(te:TD):zq:=fun ρ Q=>te ρ fun r=>match r.val with
 | .int i=>Q (some i)
 | _=>False
theorem rO:DK X none pL:=⟨_,QF,fun ρ σ G0 H0 G H Q P E h k=>k none H G (.refl E.e.s) h⟩
theorem pH(h:PD X e te):DK X (some e) (mQ te):=by
 obtain⟨t,p,q⟩:=h;refine⟨_,QE p,fun ρ σ G0 H0 G H Q P E h k=>q ρ σ G0 H0 G H _ _ E h fun v H' r G' x rr hq=>?_⟩;obtain⟨G2,x2,rv,_⟩:=rr.freeze x;split at hq
 ·rename_i i e1;rw[e1] at rv;simp only[Rep] at rv;exact⟨i,rv,k _ H' G2 x2 hq⟩
 ·exact hq.elim
def nS(te:TD)(tl th:zq):TD:=fun ρ Q=>te ρ fun r=>tl ρ fun lo=>th ρ fun hi=>match r.val with
 | .lst ds=>Q (.ow (mK ds lo hi))
 | .str z=>z.length<=sizeLine/\Q (.fz (.str (sg z lo hi)))
 | .tup ds=>¬(HT.gv ds.length 0 lo=0/\HT.gv ds.length ds.length hi=ds.length)/\Q (.fz (.tup (mK ds lo hi)))
 | _=>False
theorem Jw{K:Z9}{G:Hp}{xs:List V}{ds:List D}(r:eQ K G xs ds)(lo hi:Option Int):eQ K G (tW xs lo hi) (mK ds lo hi):=by
 unfold tW mK;rw[r.length];exact(r.drop _).take _
theorem qm{lo hi:Option Expr}{tl th:zq}{p2:Pos}(he:PD X e te)(hl:DK X lo tl)(hh:DK X hi th):PD X (.Subscript e (.Slice lo hi none p2) pos) (nS te tl th):=by
 obtain⟨t1,p1,q1⟩:=he;obtain⟨t2,p2,q2⟩:=hl;obtain⟨t3,p3,q3⟩:=hh;refine⟨_,S9 (uP.or (xu.or Qm)) p1 p2 p3,fun ρ σ G0 H0 G H Q P E h k=>q1 ρ σ G0 H0 G H _ _ E h fun v H' r G' x rr hq=>?_⟩;obtain⟨G1,x1,rv,_⟩:=rr.freeze x;refine q2 ρ σ G0 H0 G1 H' _ _ (E.ext x1) hq fun lo H2 G2 x2 kx=>?_
 refine q3 ρ σ G0 H0 G2 H2 _ _ ((E.ext x1).ext x2) kx fun hi H3 G3 x3 hJ=>?_
 have qt:=(x1.trans x2).trans x3;have oY:=(rv.mono x2.g).mono x3.g;split at hJ
 ·rename_i ds e1;rw[e1] at oY;simp only[Rep] at oY;obtain⟨a,xs,rfl,h1,h2⟩:=oY;refine .inl ⟨a,xs,rfl,(qt.s.iF h1).sq,fun p hp=>?_⟩;exact k _ _ (.ow _) G3 (qt.trans (.own qt.s hp)) ⟨p,_,rfl,qt.h.free hp,qt.s.free hp,jz,Jw h2 lo hi⟩ hJ
 ·rename_i z e1;rw[e1] at oY;simp only[Rep] at oY;exact .inr (.inl ⟨z,oY,hJ.1,k _ _ _ G3 qt (iJ (yF _ _ _)) hJ.2⟩)
 ·rename_i ds e1;rw[e1] at oY;simp only[Rep] at oY;obtain⟨a,xs,rfl,h1,h2⟩:=oY;refine .inr (.inr ⟨a,xs,rfl,qt.s.nH h1,by rw[h2.length];exact hJ.1,fun p hp=>?_⟩);have x4:Ext G3 H3 (upd G3 p (.tup (tW xs lo hi))) (upd H3 p (.tup (tW xs lo hi))):=.new qt.s hp;refine k _ _ (.fz _) _ (qt.trans x4) ?_ hJ.2;show Rep X.K _ _ (.tup _);simp only[Rep];exact⟨p,_,rfl,jz,(Jw h2 lo hi).mono x4.g⟩
 ·exact hJ.elim
def mP:f6:=fun ds Q=>match ds with
 | [.lst es]=>Q (.fz (.int es.length))
 | [.tup es]=>Q (.fz (.int es.length))
 | [.str z]=>z.length<=sizeLine/\Q (.fz (.int z.length))
 | _=>False
theorem oP:qk X (.builtin "len") mP:=by
 refine⟨_,kU.or VH,fun G H vs ds Q P s rs h k=>?_⟩;unfold mP at h;split at h
 ·obtain⟨v,rfl,rv⟩:=mR rs;simp only[Rep] at rv;obtain⟨a,xs,rfl,h1,h2⟩:=rv;refine .inl ⟨a,xs,rfl,.inl ((s.iF h1).sq),?_⟩;rw[h2.length];exact k _ _ _ G (.refl s) (iJ (k5 _ _ _)) h
 ·obtain⟨v,rfl,rv⟩:=mR rs;simp only[Rep] at rv;obtain⟨a,xs,rfl,h1,h2⟩:=rv;refine .inl ⟨a,xs,rfl,.inr (s.nH h1),?_⟩;rw[h2.length];exact k _ _ _ G (.refl s) (iJ (k5 _ _ _)) h
 ·obtain⟨v,rfl,rv⟩:=mR rs;simp only[Rep] at rv;subst rv;exact .inr ⟨_,rfl,h.1,k _ _ _ G (.refl s) (iJ (k5 _ _ _)) h.2⟩
 ·exact h.elim
def wY(i:Nat):TD:=fun ρ Q=>match gt ρ i with
 | .ow ds=>Q (.fz (.int ds.length))
 | _=>False
theorem Jv(i:Nat){x:Str}{p p':Pos}(hm:X.mg "len"=none)(hN:X.N[i]?=some x:=by rfl)(hv:nV X.env.scope x:=by first | exact Or.inl rfl | exact Or.inr (Or.inl rfl) | exact Or.inr (Or.inr rfl))(hg:Gl X "len":=by rfl)(hd:(x==("__debug__":Str))=false:=by decide)
  (iS:(x==("__classdict__":Str))=false:=by decide) (jv:starEach [Expr.Name x p'] X.env=(false,eval (.Name x p') X.env)::starEach [] X.env:=by rfl):PD X (.Call (.Name "len" p) [.Name x p'] [] pos) (wY i):=by
 refine⟨_,CY kU hg hm cX (rN (pE hN hv hd iS) t7 jv),fun ρ σ G0 H0 G H Q P E h k=>?_⟩;unfold wY at h;split at h
 ·rename_i ds hg;obtain⟨a,xs,h1,h2,h3,h4,h5⟩:=E.ow i ds hg;refine⟨_,h1,a,xs,rfl,.inl (gT.of h2),?_⟩;rw[h5.length];exact k _ _ _ G (.refl E.e.s) (iJ (k5 _ _ _)) h
 ·exact h.elim
noncomputable def oO:List D->Option (List Bool)
 | []=>some []
 | .bl b::r=>(oO r).map (b::·)
 | _=>none
theorem KZ:∀{ds:List D} {bs:List Bool},oO ds=some bs->ds=bs.map D.bl
 | [],bs,h=>by simp[oO] at h;subst h;rfl
 | .bl b::r,bs,h=>by
  simp only[oO,cB] at h;obtain⟨Nb,h1,rfl⟩:=h;rw[KZ h1];rfl
 | .non::r,bs,h=>by simp[oO] at h
 | .int _::r,bs,h=>by simp[oO] at h
 | .str _::r,bs,h=>by simp[oO] at h
 | .tup _::r,bs,h=>by simp[oO] at h
 | .lst _::r,bs,h=>by simp[oO] at h
 | .obj _ _::r,bs,h=>by simp[oO] at h
 | .dic _::r,bs,h=>by simp[oO] at h
 | .dit _::r,bs,h=>by simp[oO] at h
 | .exc _::r,bs,h=>by simp[oO] at h
theorem Ju{K:Z9}{G:Hp}:∀{bs:List Bool} {vs:List V},eQ K G vs (bs.map D.bl)->vs=bs.map V.bl
 | [],[],_=>rfl
 | b::bs,v::vs,h=>by
  simp only[aA,eQ,Rep] at h;rw[h.1,Ju h.2];rfl
 | [],_::_,h=>by simp only[cy,eQ] at h
 | _::_,[],h=>by simp only[aA,eQ] at h
theorem RQ{bs:List Bool}{us:List Value}(h:Vals (bs.map V.bl) us){i:Nat}{v:Value}(hv:us[i]?=some v):∃b,bs[i]?=some b/\v=.bool b:=by
 have hl:=h.length;have hi:i<us.length:=(ax.mp hv).1;have BA:i<bs.length:=by rw[ae] at hl;omega
 obtain⟨u,hu,ru⟩:=h.get (i:=i) (x:=V.bl bs[i]) (by simp[BA]);rw[hv] at hu;cases hu;exact⟨bs[i],by simp[BA],ru⟩
theorem Qu{s:Shared}{h':Heap}{o:Obj}(hk:∀b x,b∉[s.heap.objs.size]->(s.heap.push o).get? b=some x->h'.get? b=some x):∀b x,s.heap.get? b=some x->h'.get? b=some x:=
 fun b x e=>hk b x (fun hm=>by rw[aX.mp hm] at e;exact cV _ (aB e)) (ao _ e)
theorem ZF(bs:List Bool):((List.range bs.length).all fun i=>(bs[i]?).getD true)=bs.all id:=by
 rw[eh];simp only[List.all_eq_true,bP,id];constructor
 ·intro h b hb;obtain⟨i,hi,rfl⟩:=List.mem_iff_getElem.mp hb;simpa[hi] using h i hi
 ·intro h i hi;simpa[hi] using h _ (cC hi)
theorem Qt(bs:List Bool):((List.range bs.length).any fun i=>(bs[i]?).getD false)=bs.any id:=by
 rw[eh];simp only[List.any_eq_true,bP,id];constructor
 ·rintro⟨i,hi,h⟩;exact⟨bs[i],cC hi,by simpa[hi] using h⟩
 ·rintro⟨b,hb,h⟩;obtain⟨i,hi,rfl⟩:=List.mem_iff_getElem.mp hb;exact⟨i,hi,by simpa[hi] using h⟩
theorem Ti(hc:X.calm=true):fO X (.builtin "any") (fun xs H Q=>∃(p:Addr) (bs:List Bool),xs=[.ref p]/\gT X.K H p (bs.map V.bl)/\Q (.bl (bs.any id)) H):=by
 intro Z8 s σ H xs us Q I r h;obtain⟨p,bs,rfl,hq,q⟩:=h;obtain⟨u,rfl,ru⟩:=mL r;cases ru;obtain⟨its,rv,pl,hz⟩:=I.list hq;have fI:p<s.heap.objs.size:=by obtain⟨_,_,e,_⟩:=pl;exact aB e
 have hl:its.length=bs.length:=by rw[<-rv.length,ae]
 refine call_any_walk (wpAny_pyIter_list pl.isList ?_);refine⟨s.heap.objs.size,[s.heap.objs.size,p],[s.heap.objs.size],its.toArray.size,_,_,fun i=>(bs[i]?).getD false,rfl,Walks.list (A:=X.A.in1) (I.ok.hd hc) _ p (aG fI) its.toArray,
  ⟨⟨_,aD _ rfl,rfl,rfl⟩,pl.isList.push _⟩,fun i v s' Q' E' hP hQ=>?_,fun h' tk hk=>?_⟩
 ·obtain⟨b,e,rfl⟩:=RQ rv (i:=i) (v:=v) (by simpa using hP);simp only[e,Option.getD_some] at hQ;exact cI hQ
 ·rw[aw,hl,Qt];exact⟨.bl _,H,I.kept (Qu hk),rfl,q⟩
def ZE:f6:=fun ds Q=>match ds with
 | [.lst es]=>match oO es with
  | some bs=>Q (.fz (.bl (bs.all id)))
  | none=>False
 | _=>False
def B9:f6:=fun ds Q=>match ds with
 | [.lst es]=>match oO es with
  | some bs=>Q (.fz (.bl (bs.any id)))
  | none=>False
 | _=>False
theorem Of(hc:X.calm=true):qk X (.builtin "any") B9:=by
 refine⟨_,Ti hc,fun G H vs ds Q P s rs h k=>?_⟩;unfold B9 at h;split at h
 ·split at h
  ·rename_i es bs hb;obtain⟨v,rfl,rv⟩:=mR rs;simp only[Rep] at rv;obtain⟨a,xs,rfl,h1,h2⟩:=rv;rw[KZ hb] at h2;rw[Ju h2] at h1;exact⟨a,bs,rfl,(s.iF h1).sq,k _ _ _ G (.refl s) (iJ (nt _ _ _)) h⟩
  ·exact h.elim
 ·exact h.elim
end
section
variable {X:Cx} {pos:Pos} {e:Expr} {te:TD}
noncomputable def pI:D->String
 | .non=>"NoneType"
 | .bl _=>"bool"
 | .int _=>"int"
 | .str _=>"str"
 | .tup _=>"tuple"
 | .lst _=>"list"
 | .obj _ _=>"object"
 | .dic _=>"dict"
 | .dit _=>"dict"
 | .exc _=>"object"
noncomputable def uu(t T:String):Bool:=(t==T)||(t=="bool"&&T=="int")
theorem yy{K:Z9}{t T:String}(ht:t∈["NoneType","bool","int","str","tuple","list"])(hT:T∈["bool","int","str","tuple","list"]):PySem.W.kitOne K (.type t) (.type T)=some (uu t T):=by
 simp only[ar,aP,cv] at ht hT;rcases ht with rfl | rfl | rfl | rfl | rfl | rfl<;>rcases hT with rfl | rfl | rfl | rfl | rfl<;>(first | rfl | decide | (unfold PySem.W.kitOne PySem.W.kitCls;decide +kernel))
noncomputable def D9:D->Bool
 | .obj _ _=>false
 | .dic _=>false
 | .dit _=>false
 | .exc _=>false
 | _=>true
theorem RP{T:String}(hT:T∈["bool","int","str","tuple","list"]):fO X (.builtin "isinstance") (fun xs H Q=>∃x d,xs=[x,.ty T]/\Rep X.K H x d/\D9 d=true/\Q (.bl (uu (pI d) T)) H):=by
 intro Z8 s σ H xs us Q I r h;obtain⟨x,d,rfl,rd,ho,q⟩:=h;obtain⟨u,c,rfl,ru,rc⟩:=zL r;cases (show c=Value.type T from rc);have fin:∀tk,EP X Z8 σ Q (.bool (uu (pI d) T)) { s with toks:=tk }:=fun tk=>⟨.bl _,H,I.tok tk,rfl,q⟩
 cases d with
 | non=>simp only[Rep] at rd;subst rd;cases (show u=Value.none from ru);exact eI PySem.W.kitx_none I.oB True.intro (yy (by simp) hT) (fun z=>nomatch z) fin
 | bl y=>simp only[Rep] at rd;subst rd;cases (show u=Value.bool y from ru);exact eI PySem.W.kitx_bool I.oB True.intro (yy (by simp) hT) (fun z=>nomatch z) fin
 | int i=>simp only[Rep] at rd;subst rd;obtain⟨t,q'⟩:=(show ∃t,u=Value.int i t from ru);cases q';exact eI PySem.W.kitx_int I.oB True.intro (yy (by simp) hT) (fun z=>nomatch z) fin
 | str y=>simp only[Rep] at rd;subst rd;obtain⟨t,q'⟩:=(show ∃t,u=Value.str y t from ru);cases q';exact eI PySem.W.kitx_str I.oB True.intro (yy (by simp) hT) (fun z=>nomatch z) fin
 | tup ds=>
  simp only[Rep] at rd;obtain⟨a,xs,rfl,hq,_⟩:=rd;cases (show u=Value.ref a from ru);obtain⟨its,_,ht,_⟩:=I.tuple (iK.of hq);obtain⟨o,h1,h2,_⟩:=ht;exact eI PySem.W.kitx_tuple I.oB ⟨o,h1,h2⟩ (yy (by simp) hT) (fun z=>nomatch z) fin
 | lst ds=>
  simp only[Rep] at rd;obtain⟨a,xs,rfl,hq,_⟩:=rd;cases (show u=Value.ref a from ru);obtain⟨its,_,ht,_⟩:=I.list hq.sq;obtain⟨o,n,h1,h2,_⟩:=ht;exact eI PySem.W.kitx_list I.oB ⟨o,h1,h2⟩ (yy (by simp) hT) (fun z=>nomatch z) fin
 | obj=>cases ho
 | dic=>cases ho
 | dit=>cases ho
 | exc=>cases ho
def B8(T:String)(te:TD):TD:=fun ρ Q=>te ρ fun r=>D9 r.val=true/\Q (.fz (.bl (uu (pI r.val) T)))
theorem Je{T:String}{TN:Str}{p p':Pos}(he:PD X e te)(hm:X.mg "isinstance"=none)(oE:X.mg TN=none)(hv:bootBuiltins TN=some (.type T))(hT:T∈["bool","int","str","tuple","list"]:=by decide)(hg:Gl X "isinstance":=by rfl)(va:Gl X TN:=by rfl)(hn:TN≠"__name__":=by decide)
  (hd:(TN==("__debug__":Str))=false:=by decide) (jv:starEach [e,Expr.Name TN p'] X.env=(false,eval e X.env)::starEach [Expr.Name TN p'] X.env:=by rfl) (xP:starEach [Expr.Name TN p'] X.env=(false,eval (.Name TN p') X.env)::starEach [] X.env:=by rfl)
  (kO:(backTo pos (starEach [Expr.Name TN p'] X.env)).any (·.1)=false:=by rfl):PD X (.Call (.Name "isinstance" p) [e,.Name TN p'] [] pos) (B8 T te):=by
 obtain⟨t,pp,q⟩:=he;refine⟨_,CY (RP hT) hg hm boot_isinstance (rN pp (rN (RK (v:=.ty T) va oE hv rfl hn hd) t7 xP) jv) (by decide) (by decide) jv kO,fun ρ σ G0 H0 G H Q P E h k=>q ρ σ G0 H0 G H _ _ E h fun v H' r G' x rr hq=>?_⟩;obtain⟨G2,x2,rv,_⟩:=rr.freeze x;exact⟨v,r.val,rfl,rv.mono x2.s,hq.1,k _ _ _ G2 x2 (iJ (nt _ _ _)) hq.2⟩
end
section
variable {P:Program} {w:World} {K:Z9} {mg:Str->Option Value} {base:Heap}
structure Known (P:Program) (w:World) (K:Z9) (mg:Str->Option Value) (base:Heap) (k:Nat) (x:Str) (n:Nat) (t:f6):Prop where
 ex:∃(f:Addr) (fd:FuncData) (ps:List Str),jT P w K mg base oK k f fd ps (yh K n t)/\mg x=some (.ref f)/\PySem.W.keepIn K (.ref f)=true/\Binds K fd ps []
structure At (K:Z9) (mg:Str->Option Value) (x:Str) (st:Stmt):Prop where
 ex:∃(f:Addr) (fd:FuncData),DR K x x st f fd/\mg x=some (.ref f)
theorem BY{h:Heap}{x:Str}{st:Stmt}{f:Addr}{oc:Value}{od an:Option Addr}{pK:Array (Option Value)}{kV doc pm fD ct:Value}(X:K.In h)(G:h.Ns mainGlobals mg)(a:PySem.W.nsIn K mainGlobals x=some (some (.ref f)))
  (l:K.lookup f=some ⟨oc,od,.func (PySem.W.fnOf x x (g6 st) (fK st) (eS st) .none kV doc pm an fD ct),pK⟩) (c:PySem.W.codeIn K fD x=true) (k:PySem.W.keepIn K (.ref f)=true):At K mg x st:=
 ⟨f,_,Eu l c k,PySem.W.mg_of X G a⟩
theorem ve{h:Heap}{x:Str}{u:Value}{z:Int}{t:Tok}(X:K.In h)(G:h.Ns mainGlobals mg)(c:PySem.W.nsIn K mainGlobals x=some (some u))(e:u=.int z t):∃t,mg x=some (.int z t):=⟨t,by rw[PySem.W.mg_of X G c,e]⟩
end
section
variable {X:Cx} {k k' n:Nat} {t:f6} {x:Str} {p pos:Pos} {e:Expr} {es:List Expr} {ts:lq}
theorem ij(C:Known X.prog X.w X.K X.mg X.base k x n t)(hr:gz k' X.A)(ha:oJ X (e::es) ts)(hk:k<=k':=by decide)(hg:Gl X x:=by rfl)(nM:(x==("__debug__":Str))=false:=by decide)
  (he:starEach (e::es) X.env=(false,eval e X.env)::starEach es X.env:=by rfl) (kO:(backTo pos (starEach es X.env)).any (·.1)=false:=by rfl):PD X (.Call (.Name x p) (e::es) [] pos) (gF n t ts):=by
 obtain⟨f,fd,ps,F,hm,kp,hb⟩:=C.ex;exact Qv F (hr.mono hk) hm kp hb ha hg nM he kO
end
noncomputable def Jt(kindOf:Str->Option NameKind)(N N':List Str)(m:List (Option Nat))(scope:Scope):Bool:=
 (scope.kind==.function)&&(m.length==N'.length)&&(scope.names.all fun y=>scope.names.lookup y.1==some y.2) &&
 (scope.names.all fun y=>y.2 != .free||kindOf y.1==some .cell||kindOf y.1==some .free) &&
 ((m.zip N').all fun p=>match p.1 with
   | none=>true
   | some j=>N[j]?==some p.2&&scope.names.lookup p.2==some .free)
theorem fH.of{X:Cx}{N':List Str}{m:List (Option Nat)}{scope:Scope}(h:Jt X.env.kindOf X.N N' m scope=true):fH X N' m scope:=by
 unfold Jt at h;simp only[cg,dX,List.all_eq_true,Bool.or_eq_true,bne_iff_ne,ne_eq] at h;obtain⟨⟨⟨⟨h1,h2⟩,h3⟩,h5⟩,h6⟩:=h;refine⟨h1,h2,fun y hy=>h3 y hy,fun y hy e=>?_,fun i j x hm hN=>?_⟩
 ·rcases h5 y hy with(z | z) | z
  ·exact absurd e z
  ·exact .inl z
  ·exact .inr z
 ·have hz:(some j,x)∈m.zip N':=by
   apply aV (i:=i);rw[List.getElem?_zip_eq_some];exact⟨hm,hN⟩
  have:=h6 _ hz;simpa using this
theorem Uu{K:Z9}{G:Hp}{a:Addr}{ns:List Int}(h:mx K G a (ns.map V.int)):Rep K G (.ref a) (.lst (ns.map D.int)):=by
 simp only[Rep];refine⟨a,_,rfl,h,?_⟩;clear h;induction ns with
 | nil=>exact eQ.nil
 | cons n r ih=>exact eQ.cons (k5 _ _ _) ih
def D8(n:Nat):f6:=fun ds Q=>∃ns:List Int,ds=[.lst (ns.map .int)]/\ns.length<=n/\Q (.fz (.bl true))
theorem qS{l:PySem.W.OpenLaw}{n k:Nat}{q:Program}{loose:List Str}{XP:(Str->Option Value)->Heap->Prop}{YP:World->Heap->Prop}{d:DefRec}{K:Params->Z9}{x:Str}
  (hn:l.most=some n) (u5:n<=sizeLine) (Hn:d.params.defaults=[]) (hr:gz k callerA) (hY:∀(w:World) (h:Heap),YP w h->(K w.params).In h)
  (F:∀(w:World) (mg:Str->Option Value) (fa:Addr) (h:Heap),(K w.params).In h->h.Ns mainGlobals mg->mg d.name=some (.ref fa)->
   ∃fd:FuncData,(∀(s:Shared) (u:Value),BindsTo s fd ⟨[u],[]⟩ [(x,u)])/\∀base:Heap,jT l.prog w (K w.params) mg base oK k fa fd [x] (yh (K w.params) 1 (D8 n))) :
  PySem.W.WalkO q loose XP YP l.row.toRowW d [] (fun f vs=>PySem.call f vs):=by
 refine Ng.pf hn Hn fun w ir fw mg mb fa o pm cd doc a vs ns G Y ho hd iS u6 u4 hints hlen hg=>?_
 have KX:=hY w _ Y;obtain⟨fd,hb,hF⟩:=F w mg fa _ KX G.T.g u6;refine R0 KX G.T.g G.T.b G.T.builtins G.T.nolimit hg u4 hints (aH hlen u5) hr (fun base _ _=>hF base) hb (fun H hO hS=>?_) fun H e s' z=>z
 have hL:mx (K w.params) H a (ns.map V.int):=by
  rcases hS with hS | ⟨o,its,m,h1,h2,h3,h4,h5,h6⟩
  ·exact .inl hS
  ·have e:=KX a o h1;rw[u4] at e;cases e;have Zb:Data.seq vs.toArray _=Data.seq its m:=h4;injection Zb with e1 e2
   subst e1;exact .inr ⟨_,_,h1,h5,h6⟩
 refine⟨H,[.lst (ns.map .int)],fun r=>r=.fz (.bl true),e8.refl _,eQ.cons (Uu hL) eQ.nil,rfl,⟨ns,rfl,hlen,rfl⟩,fun v H' r G' _ rr e=>?_⟩;subst e;simpa only[gR,Rep] using rr
theorem OG{P:Program}{w:World}{K:Z9}{mg:Str->Option Value}{st:Stmt}{N:List Str}{x:Str}{k:Nat}{t:f6}{T:Heap->TX}{fa:Addr}(DA:At K mg "law" st)(u6:mg "law"=some (.ref fa))(S:eW N [x] (eS st))
  (hb:∀(kV doc pm:Value) (an:Option Addr) (fD ct:Value) (us:List Value),us.length=1->bindArgs (PySem.W.fnOf "law" "law" (g6 st) (fK st) (eS st) .none kV doc pm an fD ct) ⟨us,[]⟩=pure ([x].zip us))
  (body:∀(base:Heap) (f:Addr) (fD:Value) (A:Around) (outer:List Env) (s:Shared) (H:Hp) (E:XK),gz k (A.deeper (envOfC "law" (eS st) s.heap.objs.size f fD))->p5 (rJ oK P w K mg base N "law" (eS st) f fD A outer s H E).uh (fK st) (T base))
  (spec:∀(base:Heap) (ds:List D) (Qr:R->Prop),ds.length=1->t ds Qr->T base { nx:=fun _=>Qr (.fz .non),rt:=Qr } (g5 N ds)) :
  ∃fd:FuncData,(∀(s:Shared) (u:Value),BindsTo s fd ⟨[u],[]⟩ [(x,u)])/\∀base:Heap,jT P w K mg base oK (k+1) fa fd [x] (yh K 1 t):=by
 obtain⟨f,fd,F,hm⟩:=DA.ex;rw[u6] at hm;cases hm;refine⟨fd,fun s u=>?_,fun base=>EL F S (body base fa) (spec base)⟩;obtain⟨oc,od,kV,doc,pm,an,fD,ct,pK,rfl,lk,iS⟩:=F.ex;exact .of_eq (hb kV doc pm an fD ct [u] rfl)
def tS(i:Nat)(t:TX):TX:=fun D ρ=>t D (mN i ρ)
theorem vD(d:D):(R.fz d).val=d:=rfl
theorem zR(ds:List D):(R.ow ds).val=.lst ds:=rfl
theorem Iu(d:D):(R.fz d).sl=.fz d:=rfl
theorem Oe(ds:List D):(R.ow ds).sl=.ow ds:=rfl
theorem EK{α:Type}{wi:mO}{m:List (Option Nat)}{g:kh}{tc:kz}{te:TD}{ρ:Ev}{Q:R->Prop}(L:List α)(φ:α->D)(f:α->Option D)(hw:∀Q':List D->Prop,Q' (L.map φ)->wi ρ Q')(hl:L.length<=sizeLine)
  (h:∀x∈L,∀(K1:D->Prop) (K0:Prop),(∀e,f x=some e->K1 e)->(f x=none->K0)->g (φ x) (iV m ρ) fun gm=>tc gm fun b=>if b=true then te gm fun r=>K1 r.val else K0)
  (q:Q (.ow (L.filterMap f))):iI wi m g tc te ρ Q:=by
 refine hw _ ⟨fun i acc=>acc=(L.take i).filterMap f,rfl,fun i d acc hd ha=>?_,fun acc ha=>?_⟩
 ·rw[aI] at hd;cases hx:L[i]? with
  | none=>rw[hx] at hd;cases hd
  | some x=>
   rw[hx] at hd;cases hd;have hi:i<L.length:=(ax.mp hx).1;have e:L.take (i+1)=L.take i++[x]:=by rw[bg,hx];rfl
   have hlen:acc.length<sizeLine:=by
    rw[ha];refine Nat.lt_of_le_of_lt (eC _ _) ?_;rw[aM];omega
   exact h x (aV hx) (fun e=>acc.length<sizeLine/\acc++[e]=(L.take (i+1)).filterMap f) (acc=(L.take (i+1)).filterMap f)
    (fun z hz=>⟨hlen,by rw[e,List.filterMap_append,ha];simp[hz]⟩) (fun hz=>by rw[e,List.filterMap_append,ha];simp[hz])
 ·dsimp only at ha;rw[ae,bN] at ha;rw[ha];exact q
theorem pG{α:Type}{wi:mO}{m:List (Option Nat)}{g:kh}{te:TD}{ρ:Ev}{Q:R->Prop}(L:List α)(φ f:α->D)(hw:∀Q':List D->Prop,Q' (L.map φ)->wi ρ Q')(hl:L.length<=sizeLine)
  (h:∀x∈L,∀(K1:D->Prop),K1 (f x)->g (φ x) (iV m ρ) fun gm=>te gm fun r=>K1 r.val) (q:Q (.ow (L.map f))):iI wi m g lD te ρ Q:=by
 refine EK L φ (fun x=>some (f x)) hw hl (fun x hx K1 K0 h1 _=>?_) ?_
 ·have:=h x hx K1 (h1 _ rfl);simpa[lD] using this
 ·have e:L.filterMap (fun x=>some (f x))=L.map f:=by
   induction L with
   | nil=>rfl
   | cons a r ih=>simp
  rw[e];exact q
theorem rP{α:Type}{wi:mO}{m:List (Option Nat)}{g:kh}{tc:kz}{te:TD}{ρ:Ev}{Q:R->Prop}(L:List α)(φ f:α->D)(p:α->Bool)(hw:∀Q':List D->Prop,Q' (L.map φ)->wi ρ Q')(hl:L.length<=sizeLine)
  (h:∀x∈L,∀(K1:D->Prop) (K0:Prop),(p x=true->K1 (f x))->(p x=false->K0)->g (φ x) (iV m ρ) fun gm=>tc gm fun b=>if b=true then te gm fun r=>K1 r.val else K0)
  (q:Q (.ow ((L.filter p).map f))):iI wi m g tc te ρ Q:=by
 refine EK L φ (fun x=>if p x=true then some (f x) else none) hw hl (fun x hx K1 K0 h1 h0=>h x hx K1 K0 (fun z=>h1 _ (by simp[z])) (fun z=>h0 (by simp[z]))) ?_;have e:L.filterMap (fun x=>if p x=true then some (f x) else none)=(L.filter p).map f:=by
  clear h hl hw q;induction L with
  | nil=>rfl
  | cons a r ih=>by_cases z:p a=true<;>simp[z,ih]
 rw[e];exact q
theorem JZ{wi:mO}{g:kh}{tb:TX}{D:DE}{ρ:Ev}(ds:List L2.D)(hw:∀Q':List L2.D->Prop,Q' ds->wi ρ Q')(Iv:Nat->Ev->Prop)(h0:Iv 0 ρ)
  (turn:∀i d ρ',ds[i]?=some d->Iv i ρ'->g d ρ' fun gm=>tb { D with nx:=Iv (i+1),ct:=Iv (i+1),bk:=D.nx } gm) (fin:∀ρ',Iv ds.length ρ'->D.nx ρ'):kj wi g tb D ρ:=hw _ ⟨Iv,h0,turn,fin⟩
theorem vP{α:Type}{wi:mO}{g:kh}{tb:TX}{D:DE}{ρ:Ev}(L:List α)(φ:α->L2.D)(hw:∀Q':List L2.D->Prop,Q' (L.map φ)->wi ρ Q')(Iv:Nat->Ev->Prop)(h0:Iv 0 ρ)
  (turn:∀i x ρ',L[i]?=some x->Iv i ρ'->g (φ x) ρ' fun gm=>tb { D with nx:=Iv (i+1),ct:=Iv (i+1),bk:=D.nx } gm) (fin:∀ρ',Iv L.length ρ'->D.nx ρ'):kj wi g tb D ρ:=by
 refine JZ (L.map φ) hw Iv h0 (fun i d ρ' hd iv=>?_) (fun ρ' iv=>fin ρ' (by simpa using iv));rw[aI] at hd;cases hx:L[i]? with
 | none=>rw[hx] at hd;cases hd
 | some x=>rw[hx] at hd;cases hd;exact turn i x ρ' hx iv
theorem vR{g:kh}{tb:TX}{D:DE}{ρ:Ev}{wi:mO}(n:Nat)(hw:∀Q':List L2.D->Prop,Q' ((List.range n).map fun(i:Nat)=>.int (0+i))->wi ρ Q')(Iv:Nat->Ev->Prop)(h0:Iv 0 ρ)
  (turn:∀(i:Nat) ρ',i<n->Iv i ρ'->g (.int i) ρ' fun gm=>tb { D with nx:=Iv (i+1),ct:=Iv (i+1),bk:=D.nx } gm) (fin:∀ρ',Iv n ρ'->D.nx ρ'):kj wi g tb D ρ:=by
 refine vP (List.range n) (fun(i:Nat)=>.int (0+i)) hw Iv h0 (fun i x ρ' hx iv=>?_) (fun ρ' iv=>fin ρ' (by simpa using iv));obtain⟨h1,h2⟩:=ax.mp hx;have h3:i<n:=by simpa using h1
 have h4:x=i:=by rw[<-h2];simp
 subst h4;rw[Int.zero_add];exact turn x ρ' h3 iv
theorem XZ:(10:Int) ^ Int.toNat 24=1000000000000000000000000:=by decide
theorem XY:(10:Int) ^ Int.toNat 30=1000000000000000000000000000000:=by decide
theorem OF:tX 10 24=True:=by simp only[tX,eq_iff_iff,iff_true];decide
theorem OE:tX 10 30=True:=by simp only[tX,eq_iff_iff,iff_true];decide
theorem EX:100000<=sizeLine:=by decide
section
variable {X:Cx} {pos:Pos} {e:Expr} {te:TD} {es:List Expr} {ts:lq}
def zA(t:TD):TD:=fun ρ Q=>t ρ fun r=>match r.val with
 | .int i=>Q (.fz (.int (-i)))
 | _=>False
theorem Eo(h:PD X e te):PD X (.UnaryOp .USub e pos) (zA te):=by
 obtain⟨t,p,q⟩:=h;refine⟨_,NR PR p,fun ρ σ G0 H0 G H Q P E h k=>q ρ σ G0 H0 G H _ _ E h fun v H' r G' x rr hq=>?_⟩;obtain⟨G2,x2,rv,_⟩:=rr.freeze x;split at hq
 ·rename_i i e1;rw[e1] at rv;simp only[Rep] at rv;exact⟨i,rv,k _ _ _ G2 x2 (iJ (k5 _ _ _)) hq⟩
 ·exact hq.elim
def rK:f6:=fun ds Q=>match ds with
 | [.lst es]=>Q (.ow es)
 | [.tup es]=>Q (.ow es)
 | _=>False
theorem vC:qk X (.type "list") rK:=by
 refine⟨_,Lx,fun G H vs ds Q P s rs h k=>?_⟩;unfold rK at h;split at h
 ·obtain⟨v,rfl,rv⟩:=mR rs;simp only[Rep] at rv;obtain⟨a,xs,rfl,h1,h2⟩:=rv;exact⟨a,xs,rfl,.inl (s.iF h1).sq,uJ s h2 h k⟩
 ·obtain⟨v,rfl,rv⟩:=mR rs;simp only[Rep] at rv;obtain⟨a,xs,rfl,h1,h2⟩:=rv;exact⟨a,xs,rfl,.inr (s.nH h1),uJ s h2 h k⟩
 ·exact h.elim
def B7:f6:=fun ds Q=>match ds with
 | [.int i]=>Q (.fz (.int i))
 | [.bl b]=>Q (.fz (.int (if b then 1 else 0)))
 | _=>False
theorem Od:qk X (.type "int") B7:=by
 refine⟨_,Uv,fun G H vs ds Q P s rs h k=>?_⟩;unfold B7 at h;split at h
 ·obtain⟨v,rfl,rv⟩:=mR rs;simp only[Rep] at rv;subst rv;exact .inl ⟨_,rfl,k _ _ _ G (.refl s) (iJ (k5 _ _ _)) h⟩
 ·obtain⟨v,rfl,rv⟩:=mR rs;simp only[Rep] at rv;subst rv;exact .inr ⟨_,rfl,k _ _ _ G (.refl s) (iJ (k5 _ _ _)) h⟩
 ·exact h.elim
noncomputable def mW:List D->Option (List Int)
 | []=>some []
 | .int b::r=>(mW r).map (b::·)
 | _=>none
theorem xn:∀{ds:List D} {bs:List Int},mW ds=some bs->ds=bs.map D.int
 | [],bs,h=>by simp[mW] at h;subst h;rfl
 | .int b::r,bs,h=>by
  simp only[mW,cB] at h;obtain⟨Nb,h1,rfl⟩:=h;rw[xn h1];rfl
 | .non::r,bs,h=>by simp[mW] at h
 | .bl _::r,bs,h=>by simp[mW] at h
 | .str _::r,bs,h=>by simp[mW] at h
 | .tup _::r,bs,h=>by simp[mW] at h
 | .lst _::r,bs,h=>by simp[mW] at h
 | .obj _ _::r,bs,h=>by simp[mW] at h
 | .dic _::r,bs,h=>by simp[mW] at h
 | .dit _::r,bs,h=>by simp[mW] at h
 | .exc _::r,bs,h=>by simp[mW] at h
theorem xm(bs:List Int):mW (bs.map D.int)=some bs:=by
 induction bs with
 | nil=>rfl
 | cons b r ih=>simp[mW,ih]
theorem xj{K:Z9}{G:Hp}:∀{bs:List Int} {vs:List V},eQ K G vs (bs.map D.int)->vs=bs.map V.int
 | [],[],_=>rfl
 | b::bs,v::vs,h=>by
  simp only[aA,eQ,Rep] at h;rw[h.1,xj h.2];rfl
 | [],_::_,h=>by simp only[cy,eQ] at h
 | _::_,[],h=>by simp only[aA,eQ] at h
theorem Fz{vs:List Value}{ns:List Int}(hi:IntsAre vs ns):∃xs:Array (Int×Tok),vs.toArray=intItems xs/\ns=xs.toList.map (·.1):=by
 obtain⟨xs,e⟩:=hi.allInts.items;exact⟨xs,e,by rw[<-hi.numsOf,<-nums_intItems,<-e]⟩
theorem Th(hc:X.calm=true):fO X (.builtin "sum") (fun xs H Q=>∃(p:Addr) (ns:List Int),xs=[.ref p]/\gT X.K H p (ns.map V.int)/\Q (.int ns.sum) H):=by
 intro Z8 s σ H xs us Q I r h;obtain⟨p,ns,rfl,hq,q⟩:=h;obtain⟨u,rfl,ru⟩:=mL r;cases ru;obtain⟨its,rv,pl,hz⟩:=I.list hq;obtain⟨ys,e,qF⟩:=Fz (yN rv);have hl:=pl.isList;rw[e] at hl;refine sum_intListG (I.ok.hd hc) hl fun h' tk t' hk=>?_
 have e2:preSum (numAt ys) ys.size=ns.sum:=by
  rw[preSum_eq,bf (by simp),qF]
 rw[e2];exact⟨.int _,H,I.kept hk,⟨_,rfl⟩,q⟩
theorem Tg(hc:X.calm=true):fO X (.builtin "min") (fun xs H Q=>∃(p:Addr) (ns:List Int),xs=[.ref p]/\gT X.K H p (ns.map V.int)/\ns≠[]/\∀M,M∈ns->(∀a∈ns,M<=a)->Q (.int M) H):=by
 intro Z8 s σ H xs us Q I r h;obtain⟨p,ns,rfl,hq,gP,q⟩:=h;obtain⟨u,rfl,ru⟩:=mL r;cases ru;obtain⟨its,rv,pl,hz⟩:=I.list hq;obtain⟨ys,e,qF⟩:=Fz (yN rv);have hl:=pl.isList;rw[e] at hl;have hsz:0<ys.size:=by
  cases Bk:ys.toList with
  | nil=>rw[qF,Bk] at gP;exact absurd rfl gP
  | cons a b=>have:ys.toList.length=b.length+1:=by rw[Bk];rfl
              rw[ah] at this;omega
 refine min_intList (I.ok.hd hc) hl hsz fun v h' tk hv hk=>?_
 obtain⟨t,rfl⟩:=intItems_at hv;obtain⟨h1,h2⟩:=argBest_lt (numAt ys) (ys.size-1);refine⟨.int _,H,I.kept hk,⟨_,rfl⟩,q _ ?_ fun a ha=>?_⟩
 ·rw[qF,numAt_eq];exact getD_mem (by rw[ae,ah];omega)
 ·rw[qF] at ha;obtain⟨j,hj,rfl⟩:=mem_getD ha;rw[ae,ah] at hj;rw[<-numAt_eq];exact h2 j (by omega)
theorem TY(hc:X.calm=true):fO X (.builtin "max") (fun xs H Q=>∃(p:Addr) (ns:List Int),xs=[.ref p]/\gT X.K H p (ns.map V.int)/\ns≠[]/\∀M,M∈ns->(∀a∈ns,a<=M)->Q (.int M) H):=by
 intro Z8 s σ H xs us Q I r h;obtain⟨p,ns,rfl,hq,gP,q⟩:=h;obtain⟨u,rfl,ru⟩:=mL r;cases ru;obtain⟨its,rv,pl,hz⟩:=I.list hq;obtain⟨ys,e,qF⟩:=Fz (yN rv);have hl:=pl.isList;rw[e] at hl;have hsz:0<ys.size:=by
  cases Bk:ys.toList with
  | nil=>rw[qF,Bk] at gP;exact absurd rfl gP
  | cons a b=>have:ys.toList.length=b.length+1:=by rw[Bk];rfl
              rw[ah] at this;omega
 refine max_intList (I.ok.hd hc) hl hsz fun v h' tk hv hk=>?_
 obtain⟨t,rfl⟩:=intItems_at hv;obtain⟨h1,h2⟩:=argBest_gt (numAt ys) (ys.size-1);refine⟨.int _,H,I.kept hk,⟨_,rfl⟩,q _ ?_ fun a ha=>?_⟩
 ·rw[qF,numAt_eq];exact getD_mem (by rw[ae,ah];omega)
 ·rw[qF] at ha;obtain⟨j,hj,rfl⟩:=mem_getD ha;rw[ae,ah] at hj;rw[<-numAt_eq];exact h2 j (by omega)
def yq:f6:=fun ds Q=>match ds with
 | [.lst es]=>match mW es with
  | some ns=>Q (.fz (.int ns.sum))
  | none=>False
 | _=>False
theorem D7(hc:X.calm=true):qk X (.builtin "sum") yq:=by
 refine⟨_,Th hc,fun G H vs ds Q P s rs h k=>?_⟩;unfold yq at h;split at h
 ·split at h
  ·rename_i es bs hb;obtain⟨v,rfl,rv⟩:=mR rs;simp only[Rep] at rv;obtain⟨a,xs,rfl,h1,h2⟩:=rv;rw[xn hb] at h2;rw[xj h2] at h1;exact⟨a,bs,rfl,(s.iF h1).sq,k _ _ _ G (.refl s) (iJ (k5 _ _ _)) h⟩
  ·exact h.elim
 ·exact h.elim
def vm:f6:=fun ds Q=>match ds with
 | [.lst es]=>match mW es with
  | some ns=>ns≠[]/\∀M,M∈ns->(∀a∈ns,M<=a)->Q (.fz (.int M))
  | none=>False
 | [.int i,.int j]=>Q (.fz (.int (if j<i then j else i)))
 | _=>False
def vk:f6:=fun ds Q=>match ds with
 | [.lst es]=>match mW es with
  | some ns=>ns≠[]/\∀M,M∈ns->(∀a∈ns,a<=M)->Q (.fz (.int M))
  | none=>False
 | [.int i,.int j]=>Q (.fz (.int (if j>i then j else i)))
 | _=>False
theorem D6(hc:X.calm=true):qk X (.builtin "min") vm:=by
 refine⟨_,(Tg hc).or (Uw hc),fun G H vs ds Q P s rs h k=>?_⟩;unfold vm at h;split at h
 ·split at h
  ·rename_i es bs hb;obtain⟨v,rfl,rv⟩:=mR rs;simp only[Rep] at rv;obtain⟨a,xs,rfl,h1,h2⟩:=rv;rw[xn hb] at h2;rw[xj h2] at h1;exact .inl ⟨a,bs,rfl,(s.iF h1).sq,h.1,fun M h3 h4=>k _ _ _ G (.refl s) (iJ (k5 _ _ _)) (h.2 M h3 h4)⟩
  ·exact h.elim
 ·obtain⟨v,u,rfl,rv,ru⟩:=Ea rs;simp only[Rep] at rv ru;subst rv ru;exact .inr ⟨_,_,rfl,k _ _ _ G (.refl s) (iJ (k5 _ _ _)) h⟩
 ·exact h.elim
theorem D5(hc:X.calm=true):qk X (.builtin "max") vk:=by
 refine⟨_,(TY hc).or (Ux hc),fun G H vs ds Q P s rs h k=>?_⟩;unfold vk at h;split at h
 ·split at h
  ·rename_i es bs hb;obtain⟨v,rfl,rv⟩:=mR rs;simp only[Rep] at rv;obtain⟨a,xs,rfl,h1,h2⟩:=rv;rw[xn hb] at h2;rw[xj h2] at h1;exact .inl ⟨a,bs,rfl,(s.iF h1).sq,h.1,fun M h3 h4=>k _ _ _ G (.refl s) (iJ (k5 _ _ _)) (h.2 M h3 h4)⟩
  ·exact h.elim
 ·obtain⟨v,u,rfl,rv,ru⟩:=Ea rs;simp only[Rep] at rv ru;subst rv ru;exact .inr ⟨_,_,rfl,k _ _ _ G (.refl s) (iJ (k5 _ _ _)) h⟩
 ·exact h.elim
noncomputable def oQ:List D->Option (List Str)
 | []=>some []
 | .str b::r=>(oQ r).map (b::·)
 | _=>none
theorem Fy:∀{ds:List D} {bs:List Str},oQ ds=some bs->ds=bs.map D.str
 | [],bs,h=>by simp[oQ] at h;subst h;rfl
 | .str b::r,bs,h=>by
  simp only[oQ,cB] at h;obtain⟨Nb,h1,rfl⟩:=h;rw[Fy h1];rfl
 | .non::r,bs,h=>by simp[oQ] at h
 | .bl _::r,bs,h=>by simp[oQ] at h
 | .int _::r,bs,h=>by simp[oQ] at h
 | .tup _::r,bs,h=>by simp[oQ] at h
 | .lst _::r,bs,h=>by simp[oQ] at h
 | .obj _ _::r,bs,h=>by simp[oQ] at h
 | .dic _::r,bs,h=>by simp[oQ] at h
 | .dit _::r,bs,h=>by simp[oQ] at h
 | .exc _::r,bs,h=>by simp[oQ] at h
theorem C5(bs:List Str):oQ (bs.map D.str)=some bs:=by
 induction bs with
 | nil=>rfl
 | cons b r ih=>simp[oQ,ih]
theorem EW{K:Z9}{G:Hp}:∀{bs:List Str} {vs:List V},eQ K G vs (bs.map D.str)->vs=bs.map V.str
 | [],[],_=>rfl
 | b::bs,v::vs,h=>by
  simp only[aA,eQ,Rep] at h;rw[h.1,EW h.2];rfl
 | [],_::_,h=>by simp only[cy,eQ] at h
 | _::_,[],h=>by simp only[aA,eQ] at h
theorem KY{K:Z9}{G:Hp}(bs:List Str):eQ K G (bs.map V.str) (bs.map D.str):=by
 induction bs with
 | nil=>exact eQ.nil
 | cons b r ih=>exact eQ.cons (yF _ _ _) ih
theorem Lj{ss:List Str}:∀{us:List Value},Vals (ss.map V.str) us->StrsAre us ss:=by
 induction ss with
 | nil=>
  intro us h;cases h;exact .nil
 | cons n r ih=>
  intro us h;cases h with
  | cons a b=>
   obtain⟨t,rfl⟩:=a;exact .cons _ _ (ih b)
theorem Fq:∀{vs:List Value} {ss:List Str},StrsAre vs ss->Vals (ss.map V.str) vs
 | _,_,.nil=>.nil
 | _,_,.cons _ _ h=>.cons ⟨_,rfl⟩ (Fq h)
theorem pZ:fO X (.builtin "sorted") (fun xs H Q=>∃(p:Addr) (ss:List Str),xs=[.ref p]/\gT X.K H p (ss.map V.str)/\ss.length<64/\∀l9:List Str,l9.Perm ss->sortedS l9=true->∀l,H l=none->Q (.ref l) (upd H l (.lst (l9.map V.str)))):=by
 intro Z8 s σ H xs us Q I r h;obtain⟨p,ss,rfl,hq,DD,q⟩:=h;obtain⟨u,rfl,ru⟩:=mL r;cases ru;obtain⟨its,rv,pl,hz⟩:=I.list hq;have hl:its.length=ss.length:=by rw[<-rv.length,ae]
 refine sorted_strs pl.isList (Lj rv) (by omega) fun out l9 a1 a2 a3=>?_
 obtain⟨en,he⟩:=sortedAll_at s.heap its out;have hf:H (s.heap.objs.size+1)=none:=I.fR.fresh (b8 _);refine⟨.ref (s.heap.objs.size+1),_,I.laid (a:=s.heap.objs.size+1) (o:=.lst (l9.map V.str)) (t':=s.toks) (fun b o e=>sortedAll_old e) (b8 _) ?_,rfl,q l9 a2 a3 _ hf⟩;refine⟨by rw[ae,a2.length_eq];have:=EX;omega,out.toList,en,Fq a1,?_⟩;rw[ez];exact he
theorem Ut:fO X (.builtin "sorted") (fun xs H Q=>∃(p:Addr) (ns:List Int),xs=[.ref p]/\gT X.K H p (ns.map V.int)/\ns.length<64/\∀xB:List Int,xB.Perm ns->xB.Pairwise (·<=·)->∀l,H l=none->Q (.ref l) (upd H l (.lst (xB.map V.int)))):=by
 intro Z8 s σ H xs us Q I r h;obtain⟨p,ss,rfl,hq,DD,q⟩:=h;obtain⟨u,rfl,ru⟩:=mL r;cases ru;obtain⟨its,rv,pl,hz⟩:=I.list hq;have hl:its.length=ss.length:=by rw[<-rv.length,ae]
 refine sorted_ints pl.isList (yN rv) (by omega) fun out l9 a1 a2 a3=>?_
 obtain⟨en,he⟩:=sortedAll_at s.heap its out;have hf:H (s.heap.objs.size+1)=none:=I.fR.fresh (b8 _);refine⟨.ref (s.heap.objs.size+1),_,I.laid (a:=s.heap.objs.size+1) (o:=.lst (l9.map V.int)) (t':=s.toks) (fun b o e=>sortedAll_old e) (b8 _) ?_,rfl,q l9 a2 a3 _ hf⟩;refine⟨by rw[ae,a2.length_eq];have:=EX;omega,out.toList,en,Ft a1,?_⟩;rw[ez];exact he
def xf:f6:=fun ds Q=>match ds with
 | [.lst es]=>match oQ es with
  | some ss=>ss.length<64/\∀l9:List Str,l9.Perm ss->sortedS l9=true->Q (.ow (l9.map D.str))
  | none=>match mW es with
   | some ns=>ns.length<64/\∀xB:List Int,xB.Perm ns->xB.Pairwise (·<=·)->Q (.ow (xB.map D.int))
   | none=>False
 | _=>False
theorem TV{K:Z9}{G:Hp}(bs:List Int):eQ K G (bs.map V.int) (bs.map D.int):=by
 induction bs with
 | nil=>exact eQ.nil
 | cons b r ih=>exact eQ.cons (k5 _ _ _) ih
theorem JY(_:X.calm=true):qk X (.builtin "sorted") xf:=by
 refine⟨_,pZ.or Ut,fun G H vs ds Q P s rs h k=>?_⟩;unfold xf at h;split at h
 ·split at h
  ·rename_i es bs hb;obtain⟨v,rfl,rv⟩:=mR rs;simp only[Rep] at rv;obtain⟨a,xs,rfl,h1,h2⟩:=rv;rw[Fy hb] at h2;rw[EW h2] at h1;exact .inl ⟨a,bs,rfl,(s.iF h1).sq,h.1,fun l9 p1 p2=>uJ s (KY l9) (h.2 l9 p1 p2) k⟩
  ·split at h
   ·rename_i es _ bs hb;obtain⟨v,rfl,rv⟩:=mR rs;simp only[Rep] at rv;obtain⟨a,xs,rfl,h1,h2⟩:=rv;rw[xn hb] at h2;rw[xj h2] at h1;exact .inr ⟨a,bs,rfl,(s.iF h1).sq,h.1,fun l9 p1 p2=>uJ s (TV l9) (h.2 l9 p1 p2) k⟩
   ·exact h.elim
 ·exact h.elim
def Nd(X:Cx)(id:String)(o:D->List D->(R->Prop)->Prop):Prop:=∃r,HN X id r/\∀(G H:Hp) (x:V) (d:D) (vs:List V) (ds:List D) (Q:R->Prop) (P:VK),e8 G H->Rep X.K G x d->eQ X.K G vs ds->o d ds Q->
 (∀v H' r' G',Ext G H G' H'->gR X.K G' H' H v r'->Q r'->P v H')->r x vs H P
def dM(T:String)(o:D->List D->(R->Prop)->Prop)(te:TD)(ts:lq):TD:=fun ρ Q=>te ρ fun r=>pI r.val=T/\ts ρ fun ds=>o r.val ds Q
theorem Q6{K:Z9}{G H:Hp}{x:V}{d:D}{T:String}(s:e8 G H)(r:Rep K G x d)(h:pI d=T)(hT:T="list"\/T="str"):Dc K T x H:=by
 cases d with
 | str z=>simp only[Rep] at r;subst r;exact h.symm
 | lst ds=>
  simp only[Rep] at r;obtain⟨a,xs,rfl,h1,_⟩:=r;exact .inl ⟨h.symm,xs,(s.iF h1).sq⟩
 | non=>subst h;rcases hT with h | h<;>simp[pI] at h
 | bl=>subst h;rcases hT with h | h<;>simp[pI] at h
 | int=>subst h;rcases hT with h | h<;>simp[pI] at h
 | tup=>subst h;rcases hT with h | h<;>simp[pI] at h
 | obj=>subst h;rcases hT with h | h<;>simp[pI] at h
 | dic=>subst h;rcases hT with h | h<;>simp[pI] at h
 | dit=>subst h;rcases hT with h | h<;>simp[pI] at h
 | exc=>subst h;rcases hT with h | h<;>simp[pI] at h
theorem Q5{T id:String}{name:Str}{p':Pos}{e1:Expr}{o:D->List D->(R->Prop)->Prop}(hm:Nd X id o)(hT:T="list"\/T="str")(pa:PlainAttrs T)(slot:Slot T name id)(Bl:typeOf (.builtin id)=pure (.type "method_descriptor"))
  (he:PD X e te) (ha:oJ X (e1::es) ts) (pd:attributeBase e name X.env (eval e X.env)=eval e X.env:=by rfl)
  (xU:((backTo pos (starEach (e1::es) X.env)).all (fun x=>!x.1)&&(backToKw pos (keywordEach [] X.env)).all (fun x=>x.1.isSome)
   && decide ((e1::es).length+([]:List Keyword).length+(if ([]:List Keyword).isEmpty then 0 else 1)<30))=true:=by rfl)
  (o9:(p'.endLine==pos.line)=true:=by rfl) (hs:starEach (e1::es) X.env=(false,eval e1 X.env)::starEach es X.env:=by rfl) (pV:(backTo pos (starEach es X.env)).any (·.1)=false:=by rfl) :
  PD X (.Call (.Attribute e name p') (e1::es) [] pos) (dM T o te ts):=by
 obtain⟨r,hr,rh⟩:=hm;obtain⟨t1,p1,q1⟩:=he;obtain⟨t2,p2,q2⟩:=ha;refine⟨_,Cg pa slot Bl hr p1 p2 pd xU o9 hs pV,fun ρ σ G0 H0 G H Q P E h k=>q1 ρ σ G0 H0 G H _ _ E h fun v H' r1 G' x rr hq=>?_⟩;obtain⟨G2,x2,rv,_⟩:=rr.freeze x;refine⟨Q6 x2.s rv hq.1 hT,q2 ρ σ G0 H0 G2 H' _ _ (E.ext x2) hq.2 fun vs H3 ds G3 x3 rs hJ=>?_⟩;exact rh G3 H3 v r1.val vs ds Q P x3.s (rv.mono x3.g) rs hJ fun w' H4 r4 G4 x4 XS q4=>k w' H4 r4 G4 ((x2.trans x3).trans x4) (XS.iX (x2.trans x3).h) q4
noncomputable def rG(d:D)(ds:List D):Nat:=ds.countP fun e=>fS e d
def Cq:D->List D->(R->Prop)->Prop:=fun d ds Q=>match d,ds with
 | .lst es,[x]=>fQ 8 x/\(∀e∈es,fQ 8 e)/\Q (.fz (.int (rG x es)))
 | _,_=>False
theorem JG{Z8:List (Addr×Obj)}{σ:St}{H:Hp}{s:Shared}(I:Inv X Z8 σ H s){d:D}:∀{es:List D} {vs:List V} {us:List Value},(∀e∈es,fQ 8 e)->Vals vs us->eQ X.K H vs es->us.countP (oG X H d)=rG d es
 | [],_,_,_,rv,re=>by
  cases rv
  ·rfl
  ·simp only[eQ] at re
 | e::es,_,_,h,rv,re=>by
  cases rv with
  | nil=>simp only[eQ] at re
  | cons r t=>
   simp only[eQ] at re;unfold rG;rw[dU,dU,Es I (h e (by simp)) r re.1,JG I (fun x hx=>h x (by simp[hx])) t re.2];rfl
theorem Q4(hu:X.A.units+64<cLine):Nd X "list.count" Cq:=by
 refine⟨fun x vs H Q=>∃p d es ws y,x=.ref p/\vs=[y]/\gT X.K H p ws/\fQ 8 d/\(∀e∈es,fQ 8 e)/\Rep X.K H y d/\eQ X.K H ws es/\Q (.int (rG d es)) H,fun Z8 s σ H x xs v us Q I rx rs h=>?_,fun G H x d vs ds Q P s rx rs h k=>?_⟩
 ·obtain⟨p,d,es,ws,y,rfl,rfl,hq,hd,he,rd,re,q⟩:=h;cases rx;obtain⟨u,rfl,ru⟩:=mL rs;obtain⟨its,rv,pl,hz⟩:=I.list hq;obtain⟨⟨cls,dd,data,sl⟩,n,ho,hc,Hm,MM⟩:=id pl;simp only at hc MM;subst hc MM;refine call_meets PySem.F.slot_list_count ⟨_,ho,rfl⟩ PySem.F.entry_list_count (PySem.F.args_list_count_2 _ _) (SeqAt.list_countAt p its.toArray n dd sl u (oG X H d)) ⟨ho,Ac (A:=X.A.in1) I hd (by show X.A.units+1+8<cLine;omega) rd ru he rv re,?_⟩;rw[show its.toArray.toList=its from rfl,JG I he rv re];exact⟨.int _,H,I.tok _,⟨_,rfl⟩,q⟩
 ·unfold Cq at h;split at h
  ·obtain⟨y,rfl,ry⟩:=mR rs;simp only[Rep] at rx;obtain⟨a,xs,rfl,h1,h2⟩:=rx;exact⟨a,_,_,xs,y,rfl,rfl,(s.iF h1).sq,h.1,h.2.1,ry.mono s,h2.mono s,k _ _ _ G (.refl s) (iJ (k5 _ _ _)) h.2.2⟩
  ·exact h.elim
end
theorem Li{prog:Program}{w:World}{A:Around}{E:Value->Shared->Prop}{it l:Addr}{items:Array Value}(gP:l≠it) :
  ∀(n i:Nat) (s:Shared) (Q:List Value->Shared->Prop),s.heap.IsListIter it l i->s.heap.IsList l items->i+n<=items.size->
   (∀h':Heap,h'.IsListIter it l (i+n)->Heap.SameBut it s.heap h'->Q ((items.toList.drop i).take n) { s with heap:=h' })->wpAny (model prog w) A (draw (.ref it) n) Q E s
 | 0,i,s,Q,st,hl,hn,q=>by
  rw[draw.eq_1];exact aq (by have:=q s.heap st ⟨rfl,fun _ _=>rfl⟩;simpa using this)
 | n+1,i,s,Q,st,hl,hn,q=>by
  rw[draw.eq_2];have hi:i<items.size:=by omega
  refine aa (wpAny_pyNext_list_item st hl (x:=items[i]) (by simp[hi]) fun h1 Di sb=>?_);dsimp only;have qG:h1.IsList l items:=by
   obtain⟨o,e,c⟩:=hl;exact⟨o,(sb.2 l gP).trans e,c⟩
  refine aa (bL (Li gP n (i+1) { s with heap:=h1 } _ Di qG (by omega) fun h2 fi xv=>aq ?_));have:=q h2 (by rw[show i+(n+1)=i+1+n by omega];exact fi) ⟨xv.1.trans sb.1,fun b hb=>(xv.2 b hb).trans (sb.2 b hb)⟩;have e:(items.toList.drop i).take (n+1)=items[i]::(items.toList.drop (i+1)).take n:=by
   rw[bJ (by simpa using hi)];simp
  rw[e] at this;exact this
theorem Xe{prog:Program}{w:World}{A:Around}{E:Value->Shared->Prop}{s:Shared}{l:Addr}{items:Array Value}{Q:List Value->Shared->Prop}(hd:A.handled=none)(hl:s.heap.IsList l items)
  (q:∀h':Heap,Heap.ExtBut s.heap.objs.size s.heap h'->Q items.toList { s with heap:=h' }):wpAny (model prog w) A (unpackItems (.ref l) items.size none) Q E s:=by
 unfold unpackItems;have fI:l<s.heap.objs.size:=by obtain⟨o,e,_⟩:=hl;exact aB e
 have ty:s.TypeIs (.ref l) "list":=by obtain⟨o,e,c,_⟩:=hl;exact⟨o,e,c⟩
 refine aa ?_;unfold notIterableAtAll;refine aa (wpAny_specialOf ty F.slot_list_iter.lookup ?_);rw[if_pos (show((some (Value.builtin "list.__iter__")).isSome=true) from rfl)];refine aq ?_;rw[if_neg aO];refine aa (bL (wpAny_pyIter_list hl ?_));dsimp only;have qG:(s.heap.push { cls:=Value.type "list_iterator",data:=Data.fields #[Value.ref l,Value.int 0 0] }).IsList l items:=by
  obtain⟨o,e,c⟩:=hl;exact⟨o,ao _ e,c⟩
 refine aa (bL (Li (aG fI) items.size 0 _ _ ⟨_,aD _ rfl,rfl,rfl⟩ qG (by omega) fun h2 fi xv=>?_));have Dv:h2.IsList l items:=by
  obtain⟨o,e,c⟩:=qG;exact⟨o,(xv.2 l (aG fI)).trans e,c⟩
 have el:List.take items.size (List.drop 0 items.toList)=items.toList:=by rw[List.drop_zero,show items.size=items.toList.length by simp,bN]
 rw[el,if_neg (by simp)];refine aa (bL (wpAny_pyNext_list_end hd fi Dv (by simp) fun h3 eb=>?_));rw[if_neg (by simp)];refine aq (q h3 fun b o hb e=>eb b o hb ?_);rw[xv.2 b hb];exact ao _ e
section
variable {X:Cx} {pos:Pos}
def NB(K:Z9)(n:Nat)(t:vf):TG:=fun v σ H Q=>∃a xs,v=.ref a/\gT K H a xs/\xs.length=n/\t xs σ H Q
theorem Q3{es:List Expr}{k:Nat}{t:vf}{n:Nat}(hc:X.calm=true)(h:zu X es t)
  (hn:(assignEach es X.env).length=n:=by rfl) (jv:(assignEach es X.env).findIdx? (·.1)=none:=by rfl):PG X (.Tuple es k pos) (NB X.K n t):=by
 intro Z8 s σ H v u Q I r hw;obtain⟨a,xs,e1,hq,hl,hw⟩:=hw;subst e1;cases r;obtain⟨its,rv,pl,hz⟩:=I.list hq;rw[assign_Tuple];refine aa (wpAny_standAt ?_);unfold unpack;have hlen:(assignEach es X.env).length=its.toArray.size:=by rw[hn,<-hl,rv.length];simp
 rw[hlen,jv];refine aa (bL (Xe (I.ok.hd hc) pl.isList fun h' hx=>?_));have I1:Inv X Z8 σ H { s with heap:=h' }:=I.kept (t':=s.toks) fun b o e=>hx b o (aG (aB e)) e
 exact h Z8 _ σ H xs _ Q I1 (by simpa using rv) hw
def B6(n:Nat)(t:qg):kh:=fun d ρ Q=>match d with
 | .lst ds=>ds.length=n/\t ds ρ Q
 | _=>False
theorem Q2{es:List Expr}{k:Nat}{t:qg}{n:Nat}(hc:X.calm=true)(h:zC X es t)(hn:(assignEach es X.env).length=n:=by rfl)(jv:(assignEach es X.env).findIdx? (·.1)=none:=by rfl):tO X (.Tuple es k pos) (B6 n t):=by
 obtain⟨t1,p1,q1⟩:=h;refine⟨_,Q3 hc p1 hn jv,fun ρ σ G0 H0 G H d v Q P E r h k=>?_⟩;unfold B6 at h;split at h
 ·simp only[Rep] at r;obtain⟨a,xs,rfl,hq,rs⟩:=r;exact⟨a,xs,rfl,(E.e.s.iF hq).sq,by rw[rs.length];exact h.1,q1 ρ σ G0 H0 G H _ xs Q P E rs h.2 k⟩
 ·exact h.elim
end
theorem RO{acc:List Int}{k:Int}:∀a,a∈step_dedup acc k↔a∈acc\/a=k:=by
 intro a;unfold step_dedup;split
 ·rename_i h;constructor
  ·exact .inl
  ·rintro(h' | rfl)
   ·exact h'
   ·simpa using h
 ·simp
theorem Us{acc:List Int}{k:Int}(h:acc.Nodup):(step_dedup acc k).Nodup:=by
 unfold step_dedup;split
 ·exact h
 ·rename_i hn;rw[cY];refine⟨h,by simp,fun a ha b hb=>?_⟩;have:b=k:=by simpa using hb
  subst this;rintro rfl;exact hn (by simpa using ha)
theorem Ur(l acc:List Int)(h:acc.Nodup):(l.foldl step_dedup acc).Nodup/\∀a,a∈l.foldl step_dedup acc↔a∈acc\/a∈l:=by
 induction l generalizing acc with
 | nil=>exact⟨h,fun a=>by simp⟩
 | cons k r ih=>
  obtain⟨h1,h2⟩:=ih (step_dedup acc k) (Us h);refine⟨h1,fun a=>?_⟩;rw[List.foldl_cons,h2 a,RO a,ar,or_assoc]
theorem VU(ns:List Int):firstMet (fun i=>ns.getD i 0) ns.length=ns.foldl step_dedup []:=by
 unfold firstMet;congr 1
 apply List.ext_getElem
 ·simp
 ·intro i h1 h2;simp[List.getD,h2]
section
variable {X:Cx} {pos:Pos} {e:Expr} {te:TD} {es:List Expr} {ts:lq}
noncomputable def Ey(ns:List Int):List Int:=ns.foldl step_dedup []
theorem TU(hc:X.calm=true):fO X (.type "set") (fun xs H Q=>∃(p:Addr) (ns:List Int),xs=[.ref p]/\gT X.K H p (ns.map V.int)/\ns.length<4000/\∀q,H q=none->∀S:Int->Bool,Q (.ref q) (upd H q (.set S (Ey ns).length))):=by
 intro Z8 s σ H xs us Q I r h;obtain⟨p,ns,rfl,hq,hsz,q⟩:=h;obtain⟨u,rfl,ru⟩:=mL r;cases ru;obtain⟨its,rv,pl,hz⟩:=I.list hq;have hl:its.toArray.size=ns.length:=by rw[aw,<-rv.length,ae]
 refine call_set_list (I.ok.hd hc) pl.isList (by simpa using yN rv) (by rw[hl];have:scanBound=4096:=(by decide);omega) fun h' tk hs hk=>?_
 have hf:H s.heap.objs.size=none:=I.fR.fresh (az _);rw[hl] at hs;refine⟨.ref s.heap.objs.size,_,I.laid (a:=s.heap.objs.size) (t':=tk) (fun b o e=>hk b o (aB e) e) (az _) (o:=.set _ _) hs,rfl,?_⟩;rw[VU];exact q _ hf _
theorem TR:fO X (.builtin "len") (fun xs H Q=>∃(p:Addr) (S:Int->Bool) (n:Nat),xs=[.ref p]/\H p=some (.set S n)/\Q (.int n) H):=by
 intro Z8 s σ H xs us Q I r h;obtain⟨p,S,n,rfl,hp,q⟩:=h;obtain⟨u,rfl,ru⟩:=mL r;cases ru;obtain⟨o,es,ep,t,h1,h2,h3,h4,h5,h6,h7,rfl⟩:=(show s.heap.SetOf (intKind X.prog X.w) p S n from I.fR p _ hp)
 refine call_len_set h1 h2 h3 h7 ?_ ⟨.int _,H,I.tok _,⟨_,rfl⟩,q⟩;have:scanBound=4096:=by decide
 have h8:es.size<4096:=by omega
 exact Int.ofNat_lt.mpr (Nat.lt_trans h8 (by decide))
theorem KW:bootBuiltins "set"=some (.type "set"):=by rfl
def yE:f6:=fun ds Q=>match ds with
 | [.lst es]=>match mW es with
  | some ns=>ns.length<4000/\∀l:List Int,l.Nodup->(∀k,k∈l↔k∈ns)->Q (.fz (.int l.length))
  | none=>False
 | _=>False
theorem KU{p1 p2 lg:Pos}(hc:X.calm=true)(u7:X.mg "len"=none)(oE:X.mg "set"=none)(ha:oJ X [e] ts)(BG:Gl X "len":=by rfl)(va:Gl X "set":=by rfl)
  (he:starEach [e] X.env=(false,eval e X.env)::starEach [] X.env:=by rfl) (xV:starEach [.Call (.Name "set" p2) [e] [] lg] X.env=(false,eval (.Call (.Name "set" p2) [e] [] lg) X.env)::starEach [] X.env:=by rfl):PD X (.Call (.Name "len" p1) [.Call (.Name "set" p2) [e] [] lg] [] pos) (gV yE ts):=by
 obtain⟨t,pp,q⟩:=ha;refine⟨_,CY TR BG u7 cX (rN (Ak (TU hc) va oE KW pp (by decide) (by decide) he rfl) t7 xV) (by decide) (by decide) xV rfl,fun ρ σ G0 H0 G H Q P E h k=>?_⟩;refine q ρ σ G0 H0 G H _ _ E h fun vs H' ds G' x rs hq=>?_
 unfold yE at hq;split at hq
 ·split at hq
  ·rename_i es ns hn;obtain⟨v,rfl,rv⟩:=mR rs;simp only[Rep] at rv;obtain⟨a,xs,rfl,h1,h2⟩:=rv;rw[xn hn] at h2;rw[xj h2] at h1;refine⟨a,ns,rfl,(x.s.iF h1).sq,hq.1,fun q' uY S=>⟨q',S,_,rfl,jz,?_⟩⟩;obtain⟨f1,f2⟩:=Ur ns [] List.nodup_nil;exact k _ _ _ G' (x.trans (.own x.s uY)) (iJ (k5 _ _ _)) (hq.2 (Ey ns) f1 fun k=>by rw[Ey,f2];simp)
  ·exact hq.elim
 ·exact hq.elim
theorem fL.look{K:Z9}{H:Hp}{f:Str}:∀{gs:List (Str×V)} {fs:List (Str×D)} {d:D},fL K H gs fs->fs.lookup f=some d->∃v,gs.lookup f=some v/\Rep K H v d
 | [],[],d,_,h=>by simp at h
 | (x,v)::gs,(y,d')::fs,d,r,h=>by
  simp only[fL] at r;obtain⟨⟨rfl,r1⟩,r2⟩:=r;rw[df] at h ⊢;cases hb:f==x with
  | true=>rw[hb] at h;cases h;exact⟨v,rfl,r1⟩
  | false=>rw[hb] at h;exact fL.look r2 h
 | [],_::_,_,r,_=>by simp only[fL] at r
 | _::_,[],_,r,_=>by simp only[fL] at r
theorem JX{f:Str}:∀{fs:List (Str×D)} {d:D},fs.lookup f=some d->∃p∈fs,p.1=f
 | [],d,h=>by simp at h
 | (y,d')::fs,d,h=>by
  rw[df] at h;cases hb:f==y with
  | true=>exact⟨(y,d'),by simp,(dX.mp hb).symm⟩
  | false=>
   rw[hb] at h;obtain⟨p,h1,h2⟩:=JX h;exact⟨p,by simp[h1],h2⟩
def jy(f:Str)(te:TD):TD:=fun ρ Q=>te ρ fun r=>match r.val with
 | .obj _ fs=>∃d,fs.lookup f=some d/\Q (.fz d)
 | _=>False
theorem kn{f:Str}(he:PD X e te)(hb:attributeBase e f X.env (eval e X.env)=eval e X.env:=by rfl):PD X (.Attribute e f pos) (jy f te):=by
 obtain⟨t,p,q⟩:=he;refine⟨_,Qq p hb,fun ρ σ G0 H0 G H Q P E h k=>q ρ σ G0 H0 G H _ _ E h fun v H' r G' x rr hq=>?_⟩;obtain⟨G2,x2,rv,_⟩:=rr.freeze x;split at hq
 ·rename_i cn fs e1;rw[e1] at rv;simp only[Rep] at rv;obtain⟨a,C,dx,gs,rfl,h1,h2,h3,h4⟩:=rv;obtain⟨d,hd,hq⟩:=hq;obtain⟨v,hv,rv⟩:=h4.look hd;obtain⟨pr,hp,rfl⟩:=JX hd;exact⟨a,C,dx,gs,v,rfl,x2.s _ _ h1,h2.cls,h3 pr hp,hv,k _ _ _ G2 x2 (iJ rv) hq⟩
 ·exact hq.elim
noncomputable def yp(f:Str)(v:D):List (Str×D)->List (Str×D)
 | []=>[(f,v)]
 | (g,x)::r=>if g=f then(g,v)::r else(g,x)::yp f v r
theorem fL.put{K:Z9}{H:Hp}{f:Str}{v:V}{d:D}(rv:Rep K H v d):∀{gs:List (Str×V)} {fs:List (Str×D)},fL K H gs fs->fL K H (nk f v gs) (yp f d fs)
 | [],[],_=>by simp only[nk,yp,fL,and_true,true_and];exact rv
 | (x,u)::gs,(y,d')::fs,r=>by
  simp only[fL] at r;obtain⟨⟨rfl,r1⟩,r2⟩:=r;simp only[nk,yp];split
  ·simp only[fL,true_and];exact⟨rv,r2⟩
  ·simp only[fL,true_and];exact⟨r1,fL.put rv r2⟩
 | [],_::_,r=>by simp only[fL] at r
 | _::_,[],r=>by simp only[fL] at r
theorem fL.length{K:Z9}{H:Hp}:∀{gs:List (Str×V)} {fs:List (Str×D)},fL K H gs fs->gs.length=fs.length
 | [],[],_=>rfl
 | (x,u)::gs,(y,d')::fs,r=>by
  simp only[fL] at r;simp[fL.length r.2]
 | [],_::_,r=>by simp only[fL] at r
 | _::_,[],r=>by simp only[fL] at r
structure Making (K:Z9) (C:Addr) (x dx:Addr) (G0 H0:Hp) (ρ:Ev) (σ:St) (G H:Hp) (fs:List (Str×D)) (gs:List (Str×V)):Prop where
 e:gj K G0 H0 ρ σ G H
 sl:σ[0]?=some (some (.ref x))
 hx:H x=some (.ins C dx gs)
 tu:H dx=some (.own x)
 gx:G x=none
 BQ:G dx=none
 r:fL K G gs fs
theorem Making.ext{K:Z9}{C x dx:Addr}{G0 H0:Hp}{ρ:Ev}{σ:St}{G H G' H':Hp}{fs:List (Str×D)}{gs:List (Str×V)}(M:Making K C x dx G0 H0 ρ σ G H fs gs)(y:Ext G H G' H'):Making K C x dx G0 H0 ρ σ G' H' fs gs:=
 ⟨M.e.ext y,M.sl,y.h _ _ M.hx,y.h _ _ M.tu,y.n _ M.gx (by rw[M.hx];exact nofun),y.n _ M.BQ (by rw[M.tu];exact nofun),fL.mono y.g _ _ M.r⟩
noncomputable abbrev yf:=Ev->List (Str×D)->(List (Str×D)->Prop)->Prop
def DL(X:Cx)(C:Addr)(ud:List Stmt)(t:yf):Prop:=∃tt,p6 X ud tt/\∀(x dx:Addr) (ρ:Ev) (σ:St) (G0 H0 G H:Hp) (fs:List (Str×D)) (gs:List (Str×V)) (Q:List (Str×D)->Prop) (E:Ends),H0 x=none->H0 dx=none->dx≠x->(∀i o,gt ρ i≠.ov o)->
 Making X.K C x dx G0 H0 ρ σ G H fs gs->t ρ fs Q->(∀fF G' H' DF Ze,Making X.K C x dx G0 H0 ρ fF G' H' DF Ze->Q DF->E.nx fF H')->tt E σ H
def D0:yf:=fun _ fs Q=>Q fs
def ur(f:Str)(te:TD)(u:yf):yf:=fun ρ fs Q=>te ρ fun r=>fs.length<1000/\u ρ (yp f r.val fs) Q
theorem Q0{C:Addr}:DL X C [] D0:=⟨_,JO,fun x dx ρ σ G0 H0 G H fs gs Q E _ _ _ _ M h k=>k σ G H fs gs M h⟩
theorem xc{C:Addr}{f x:Str}{p1 p2:Pos}{ud:List Stmt}{u:yf}(c:wI X.K C)(n:fV X.K C f)(he:PD X e te)(hr:DL X C ud u)(hN:X.N[0]?=some x:=by rfl)(hv:nV X.env.scope x:=by first | exact Or.inl rfl | exact Or.inr (Or.inl rfl) | exact Or.inr (Or.inr rfl))
  (hs:swapsWith e (some (.Attribute (.Name x p1) f p2)) pos.line X.env=pure false:=by rfl) (hd:(x==("__debug__":Str))=false:=by decide) (iS:(x==("__classdict__":Str))=false:=by decide) :
  DL X C (.Assign [.Attribute (.Name x p1) f p2] e pos::ud) (ur f te u):=by
 obtain⟨t1,h1,q1⟩:=he;obtain⟨t2,h2,q2⟩:=hr;refine⟨_,Ke (Qp (pE hN hv hd iS) h1 hs) h2,fun x dx ρ σ G0 H0 G H fs gs Q E z1 z2 z3 z4 M h k=>?_⟩;refine q1 ρ σ G0 H0 G H _ _ M.e h fun v H' r G' y rr hq=>?_
 obtain⟨G2,y2,rv,_⟩:=rr.freeze y;have M2:=M.ext y2;refine⟨_,M.sl,x,C,dx,gs,rfl,M2.hx,c,n,by rw[M.r.length];exact hq.1,?_⟩;refine q2 x dx ρ σ G0 H0 G2 _ (yp f r.val fs) (nk f v gs) Q E z1 z2 z3 z4 ?_ hq.2 k;refine⟨⟨⟨M2.e.e.g,fun b o e=>by rw[gA (l7 e z1)];exact M2.e.e.h b o e,fun b o e=>by rw[gA (l7 e M2.gx)];exact M2.e.e.s b o e,M2.e.e.n⟩,M2.e.len,M2.e.fz,fun i ds h=>?_,M2.e.dj,?_⟩,M2.sl,jz,by rw[gA z3];exact M2.tu,M2.gx,M2.BQ,M2.r.put rv⟩
 ·obtain⟨p,xs,b1,b2,b3,b4,b5⟩:=M2.e.ow i ds h;exact⟨p,xs,b1,by rw[gA (N1 b2 M2.hx (by simp))];exact b2,b3,b4,b5⟩
 ·obtain⟨own,o1,o2⟩:=M2.e.on;exact⟨own,o1,fun i o h=>(z4 i o h).elim⟩
end
def Nf(K:Z9)(C:Addr)(n:Nat)(t:f6):Sp:=fun vs H Q _=>∃x dx H1 G ds AU Qr,vs=.ref x::AU/\H=upd (upd H1 dx (.own x)) x (.ins C dx [])/\H1 x=none/\H1 dx=none/\dx≠x/\e8 G H1/\eQ K G AU ds/\ds.length=n/\t ds Qr/\
 ∀H' r G',Ext G H1 G' H'->gR K G' H' H1 (.ref x) r->Qr r->Q .non H'
section
variable {P:Program} {w:World} {K:Z9} {mg:Str->Option Value} {base:Heap}
noncomputable def vB(N:List Str)(ds:List D):Ev:=.un::(ds.map Sl.fz++List.replicate (N.length-1-ds.length) .un)
theorem TQ{G H:Hp}{N:List Str}{x:V}{vs:List V}{ds:List D}(s:e8 G H)(r:eQ K G vs ds):gj K G H (vB N ds) (mS N (x::vs)) G H:=by
 have E:=J1 (N:=N.drop 1) s r;have hl:=r.length;have e1:vB N ds=.un::g5 (N.drop 1) ds:=by simp[vB,g5]
 have e2:mS N (x::vs)=some x::mS (N.drop 1) vs:=by simp[mS,Nat.sub_sub,Nat.add_comm]
 rw[e1,e2];refine⟨E.e,et (·+1) E.len,fun i d h=>?_,fun i d h=>?_,fun i j d d' jx h h'=>?_,?_⟩
 ·cases i with
  | zero=>cases h
  | succ i=>exact E.fz i d h
 ·cases i with
  | zero=>cases h
  | succ i=>exact E.ow i d h
 ·cases i with
  | zero=>cases h
  | succ i=>
   cases j with
   | zero=>cases h'
   | succ j=>exact E.dj i j d d' (fun z=>jx (by rw[z])) h h'
 ·obtain⟨own,o1,o2⟩:=E.on;refine⟨fun q=>(own q).map (·+1),fun i ds p h hp=>?_,fun i o h=>?_⟩
  ·cases i with
   | zero=>cases h
   | succ i=>
    dsimp only;rw[o1 i ds p h hp];rfl
  ·cases i with
   | zero=>cases h
   | succ i=>
    obtain⟨p,fp,b1,b2,b3,b4⟩:=o2 i o h;refine⟨p,fp,b1,b2,b3,fun q hq=>⟨(b4 q hq).1,(b4 q hq).2.1,?_⟩⟩;dsimp only;rw[(b4 q hq).2.2];rfl
theorem Vo(N:List Str)(ds:List D):∀i o,gt (vB N ds) i≠.ov o:=by
 have key:∀(l:List Sl),(∀s∈l,∀o,s≠.ov o)->∀i o,gt l i≠.ov o:=by
  intro l;induction l with
  | nil=>intro _ i o h;cases h
  | cons a r ih=>
   intro h i o;cases i with
   | zero=>exact h a (by simp) o
   | succ i=>exact ih (fun s hs=>h s (by simp[hs])) i o
 refine key _ fun s hs o e=>?_
 subst e;unfold vB at hs;simp at hs
theorem TM{x qual cn:Str}{st:Stmt}{f C:Addr}{fd:FuncData}{N ps:List Str}{k:Nat}{t:f6}{T:yf}(F:DR K x qual st f fd)(S:eW N ("self"::ps) (eS st))(hC:ClsAt K cn C)
  (body:∀(fD:Value) (A:Around) (outer:List Env) (s:Shared) (H:Hp) (E:XK),gz k (A.deeper (envOfC qual (eS st) s.heap.objs.size f fD))->DL (rJ oK P w K mg base N qual (eS st) f fD A outer s H E).uh C (fK st) T)
  (spec:∀(ds:List D) (Qr:R->Prop),ds.length=ps.length->t ds Qr->T (vB N ds) [] fun fs=>(∀p∈fs,fV K C p.1)/\Qr (.fz (.obj cn fs))):jT P w K mg base oK (k+1) f fd ("self"::ps) (Nf K C ps.length t):=by
 refine F.ok S (fun vs H Q E h=>?_) (fun fD A outer s H vs Q E hr h=>?_)
 ·obtain⟨x,dx,H1,G,ds,AU,Qr,rfl,_,_,_,_,_,r,hl,_⟩:=h;simp[r.length,hl]
 ·obtain⟨x,dx,H1,G,ds,AU,Qr,rfl,rfl,hx,tu,gP,s0,r,hl,ht,k0⟩:=h;obtain⟨tt,p,q⟩:=body fD A outer s _ E hr;have E0:=TQ (N:=N) (x:=.ref x) s0 r;have gx:=s0.free hx;have BQ:=s0.free tu;have sH:e8 H1 (upd (upd H1 dx (.own x)) x (.ins C dx [])):=fun b o e=>by rw[gA (l7 e hx),gA (l7 e tu)];exact e
  have M0:Making K C x dx G H1 (vB N ds) (mS N (.ref x::AU)) G (upd (upd H1 dx (.own x)) x (.ins C dx [])) [] []:=
   ⟨⟨⟨e8.refl _,sH,s0.trans sH,fun _ h _=>h⟩,E0.len,E0.fz,fun i ds h=>let⟨p,xs,b1,b2,b3,b4,b5⟩:=E0.ow i ds h;⟨p,xs,b1,sH _ _ b2,b3,b4,b5⟩,E0.dj,let⟨own,o1,o2⟩:=E0.on;⟨own,o1,fun i o h=>let⟨p,fp,b1,b2,b3,b4⟩:=o2 i o h;⟨p,fp,b1,b2,b3.mono (e8.refl _) fun q _ u e=>sH q u e,b4⟩⟩⟩,by simp[mS],jz,by rw[gA gP];exact jz,gx,BQ,by simp only[fL]⟩
  refine⟨tt,p,q x dx _ _ G H1 G _ [] [] _ _ hx tu gP (Vo _ _) M0 (spec ds Qr hl ht) fun fF G' H' fs gs M hq=>?_⟩;have y:=M.e.e;have ne':dx≠x:=gP;have sG:e8 G' (upd (upd G' dx (.own x)) x (.ins C dx gs)):=fun b o e=>by rw[gA (l7 e M.gx),gA (l7 e M.BQ)];exact e
  refine k0 H' (.fz (.obj cn fs)) (upd (upd G' dx (.own x)) x (.ins C dx gs)) ⟨y.g.trans sG,y.h,fun b o e=>?_,fun b h1 h2=>?_⟩ ?_ hq.2
  ·by_cases hb:b=x
   ·subst hb;rw[jz] at e;rw[M.hx];exact e
   ·rw[gA hb] at e;by_cases Hv:b=dx
    ·subst Hv;rw[jz] at e;rw[M.tu];exact e
    ·rw[gA Hv] at e;exact y.s b o e
  ·rw[gA (fun z=>h2 (by rw[z];exact hx)),gA (fun z=>h2 (by rw[z];exact tu))];exact y.n b h1 h2
  ·show Rep K _ _ (.obj cn fs);simp only[Rep];exact⟨x,C,dx,gs,rfl,jz,hC,hq.1,fL.mono sG _ _ M.r⟩
structure nX (P:Program) (w:World) (K:Z9) (mg:Str->Option Value) (base:Heap) (k:Nat) (x:Str) (n:Nat) (t:f6):Prop where
 ex:∃(C f:Addr) (fd:FuncData) (ps:List Str),Mk K C f/\jT P w K mg base oK k f fd ps (Nf K C n t)/\mg x=some (.ref C)/\Binds K fd ps []
end
section
variable {X:Cx} {k k' n:Nat} {t:f6} {x:Str} {p pos:Pos} {e:Expr} {es:List Expr} {ts:lq}
theorem RN(C:nX X.prog X.w X.K X.mg X.base k x n t)(hr:gz k' X.A)(ha:oJ X (e::es) ts)(hk:k+1<=k':=by decide)(hg:Gl X x:=by rfl)(nM:(x==("__debug__":Str))=false:=by decide)
  (he:starEach (e::es) X.env=(false,eval e X.env)::starEach es X.env:=by rfl) (kO:(backTo pos (starEach es X.env)).any (·.1)=false:=by rfl):PD X (.Call (.Name x p) (e::es) [] pos) (gF n t ts):=by
 obtain⟨C,f,fd,ps,M,F,hm,hb⟩:=C.ex;obtain⟨tt,pp,q⟩:=ha;refine⟨_,QH M F (hr.mono hk) hg hm hb .nil Eb pp nM he kO,fun ρ σ G0 H0 G H Q P E h k=>q ρ σ G0 H0 G H _ _ E h fun vs H' ds G' y rs hq=>?_⟩;intro a dx ha tu gP;rw[bz];exact⟨a,dx,H',G',ds,vs,Q,rfl,rfl,ha,tu,gP,y.s,rs,hq.1,hq.2,fun H2 r G2 x2 rr q2=>⟨rfl,k _ H2 r G2 (y.trans x2) (rr.iX y.h) q2⟩⟩
end
def jN(K:Z9)(C:Addr):List Str->Prop
 | []=>True
 | x::r=>fV K C x/\jN K C r
theorem jN.all{K:Z9}{C:Addr}:∀{l:List Str},jN K C l->∀x∈l,fV K C x
 | [],_,x,h=>by cases h
 | y::r,n,x,h=>by
  rcases ar.mp h with rfl | h
  ·exact n.1
  ·exact jN.all n.2 x h
structure DU (K:Z9) (mg:Str->Option Value) (cn qual:Str) (st:Stmt) (fields:List Str):Prop where
 ex:∃(C f:Addr) (fd:FuncData),ClsAt K cn C/\Mk K C f/\DR K "__init__" qual st f fd/\mg cn=some (.ref C)/\jN K C fields
theorem ye{K:Z9}{mg:Str->Option Value}{h:Heap}{cn qual:Str}{st:Stmt}{fields:List Str}{C f:Addr}{oc:Value}{od an:Option Addr}{pK:Array (Option Value)}{kV doc pm fD ct:Value}(X:K.In h)(G:h.Ns mainGlobals mg)
  (aC:PySem.W.nsIn K mainGlobals cn=some (some (.ref C))) (a1:PySem.W.findIn K (.ref C) "__init__"=some (some (.ref f))) (i1:PySem.W.isFn K (.ref f)=true)
  (l1:K.lookup f=some ⟨oc,od,.func (PySem.W.fnOf "__init__" qual (g6 st) (fK st) (eS st) .none kV doc pm an fD ct),pK⟩) (c1:PySem.W.codeIn K fD qual=true) (k1:PySem.W.keepIn K (.ref f)=true)
  (pg:PySem.W.plainGet K C Str.empty=true) (hd:PySem.W.hasDictIn K C=true) (po:PySem.W.plainOver K C=true) (sa:PySem.W.findIn K (.ref C) "__setattr__"=some (some (.builtin "object.__setattr__"))) (mk:PySem.W.makesIn K C=true) (kc:PySem.W.keepIn K (.ref C)=true)
  (nf:jN K C fields):DU K mg cn qual st fields:=
 ⟨C,f,_,⟨aC,⟨pg,hd,po,sa⟩⟩,⟨mk,a1,i1,kc⟩,Eu l1 c1 k1,PySem.W.mg_of X G aC,nf⟩
noncomputable def tZ:D->Bool
 | .non=>true
 | .bl _=>true
 | .int _=>true
 | .str _=>true
 | _=>false
def Ed(i:Nat)(te:TD):TD:=fun ρ Q=>te (mN i ρ) fun r=>match r with
 | .fz d=>tZ d=true/\Q (.fz d)
 | _=>False
def uE(i:Nat)(t:kz):kz:=fun ρ Q=>t (mN i ρ) Q
theorem CV{K:Z9}{G G':Hp}{v:V}{d:D}(h:tZ d=true)(r:Rep K G v d):Rep K G' v d:=by
 cases d<;>first | (simp only[Rep] at r ⊢;exact r) | cases h
noncomputable def less(G:Hp)(L:List Addr):Hp:=fun a=>if a∈L then none else G a
theorem JW{G H G' H':Hp}{L:List Addr}(gp:∀q∈L,G q=none)(x:Ext (qM G H L) H G' H'):Ext G H (less G' L) H':=by
 refine⟨fun b u e=>?_,x.h,fun b u e=>?_,fun q h1 h2=>?_⟩
 ·have hb:b∉L:=fun z=>by rw[gp b z] at e;cases e
  unfold less;rw[if_neg hb];exact x.g b u (by rw[su hb];exact e)
 ·unfold less at e;split at e
  ·cases e
  ·exact x.s b u e
 ·unfold less;split
  ·rfl
  ·rename_i hq;exact x.n q (by rw[su hq];exact h1) h2
section
variable {X:Cx} {e:Expr} {te:TD} {t:kz}
theorem gj.Bi{K:Z9}{G0 H0 G H:Hp}{ρ:Ev}{σ:St}(i:Nat)(E:gj K G0 H0 ρ σ G H):∃G1,gj K G0 H0 (mN i ρ) σ G1 H/\∀G' H',Ext G1 H G' H'->∃G2,Ext G H G2 H':=
 let⟨L,hL,E',_⟩:=E.nQ i
 ⟨_,E',fun G' H' x=>⟨_,JW hL x⟩⟩
theorem QZ(i:Nat)(h:PD X e te):PD X e (Ed i te):=by
 obtain⟨tt,p,q⟩:=h;refine⟨tt,p,fun ρ σ G0 H0 G H Q P E h k=>?_⟩;obtain⟨G1,E1,back⟩:=E.Bi i;refine q _ σ G0 H0 G1 H _ _ E1 h fun v H' r G' x rr hq=>?_
 split at hq
 ·rename_i d;obtain⟨G2,x2⟩:=back G' H' x;exact k v H' (.fz d) G2 x2 (CV hq.1 rr) hq.2
 ·exact hq.elim
theorem CG(i:Nat)(h:PB X e t):PB X e (uE i t):=by
 obtain⟨tt,p,q⟩:=h;refine⟨tt,p,fun ρ σ G0 H0 G H Q P E h k=>?_⟩;obtain⟨G1,E1,back⟩:=E.Bi i;refine q _ σ G0 H0 G1 H _ _ E1 h fun b H' G' x hq=>?_
 obtain⟨G2,x2⟩:=back G' H' x;exact k b H' G2 x2 hq
end
def C4:f6:=fun ds Q=>match ds with
 | [.lst es]=>match oQ es with
  | some ss=>ss.length<4000/\(∀l:List Str,l.Nodup->(∀w∈l,w∈ss)->l.length<64)/\∀l:List Str,l.Nodup->(∀w,w∈l↔w∈ss)->sortedS l=true->Q (.ow (l.map D.str))
  | none=>False
 | _=>False
theorem VT(t:SetTable)(n:Nat):(t.orStandIn n).led=t.led:=by
 unfold SetTable.orStandIn;split<;>rfl
theorem Uq(t:SetTable)(es:Array (Int×Value))(h:Int)(x:Value):(layNew t es h x).2.1.led=t.led:=by
 unfold layNew;split
 ·exact VT _ _
 ·rfl
theorem VF{t t':SetTable}{hs:Array Int}{wanted:Nat}{order:Array Nat}(h:t.relaid hs wanted=some (t',order)):t'.led=t.led/\t'.plain=t.plain:=by
 unfold SetTable.relaid SetTable.laid at h;cases hc:SetTable.layClean (SetTable.sizeAbove wanted-1) hs with
 | none=>rw[hc] at h;cases h
 | some owner=>
  rw[hc] at h;cases h;exact⟨rfl,rfl⟩
theorem V7(t:SetTable)(es:Array (Int×Value))(wanted:Nat)(hp:t.plain=false):(relayAll t es wanted).2.1.led=t.led/\(relayAll t es wanted).2.1.plain=false:=by
 unfold relayAll;split
 ·rename_i t' order hr;obtain⟨h1,h2⟩:=VF hr;dsimp only;split
  ·exact⟨h1,h2.trans hp⟩
  ·exact⟨rfl,rfl⟩
 ·exact⟨rfl,rfl⟩
section
variable {prog:Program} {w:World} {A:Around} {E:Value->Shared->Prop} {s:Shared}
structure B1 (w:World) (es:Array (Int×Value)) (t:SetTable):Prop where
 led:t.led=!(w.params.followText "set-order")
 plain:es.size=0\/t.plain=false
structure fN (prog:Program) (w:World) (h:Heap) (a:Addr) (es:Array (Int×Value)) (ep:Nat) (t:SetTable):Prop where
 at_:h.get? a=some { cls:=.type "set",dict:=none,data:=.set es ep t,slots:=#[] }
 el:ElemsOf (strKind prog w) es.toList
 small:es.size<scanBound
 fits:t.fits es.size=true
 marks:B1 w es t
def Mem(prog:Program)(w:World)(es:Array (Int×Value))(k:Str):Prop:=∃e∈es.toList,(strKind prog w).is k e.2=true
theorem KS{a:Addr}{es jM:Array (Int×Value)}{ep:Nat}{t t':SetTable}{Q:Unit->Shared->Prop}(ho:s.heap.get? a=some { cls:=.type "set",dict:=none,data:=.set es ep t,slots:=#[] })(hb:jM.size<scanBound)
  (h:∀h',Heap.SameBut a s.heap h'->h'.get? a=some { cls:=.type "set",dict:=none,data:=.set jM (ep+1) t',slots:=#[] }->Q () { s with heap:=h' }):wpAny (model prog w) A (storeSet a jM t') Q E s:=by
 refine wpAny_storeSet_of ho rfl ?_ (fits_of_scanBound hb);refine h _ (Heap.SameBut.update s.heap a (Obj.putSet jM t')) ?_;have:=Heap.get?_update_self (Obj.putSet jM t') ho (by rw[putSet_of jM t' (ep:=ep) (t:=t) (es:=es) rfl];rfl);rw[putSet_of jM t' (ep:=ep) (t:=t) (es:=es) rfl] at this;exact this
theorem QY{a:Addr}{es:Array (Int×Value)}{ep:Nat}{t:SetTable}{x:Str}{tk:Tok}{Q:Bool->Shared->Prop}(S:fN prog w s.heap a es ep t)(room:es.size+1<scanBound)
  (h:∀h' jM nR t',Heap.SameBut a s.heap h'->fN prog w h' a jM nR t'->((jM=es/\Mem prog w es x)\/(¬Mem prog w es x/\List.Perm jM.toList (es.toList++[(hashStr w x,.str x tk)])))->∀b,Q b { s with heap:=h' }) :
  wpAny (model prog w) A (setAddHashed a (.str x tk) ((strKind prog w).hash x)) Q E s:=by
 have nL:(strKind prog w).is x (.str x tk)=true:=by show Value.isStrOf x (.str x tk)=true;simp[Value.isStrOf]
 have GQ:(Value.str x tk).scannable=true:=rfl;have ho:=S.at_;unfold setAddHashed setAddHashedIn;refine bL (aa (dD ho rfl S.fits ?_));dsimp only;rw[byScan_of GQ S.small S.el];simp only[↓reduceIte];unfold setAddByScan;refine aa (aa (wpAny_rule (aa (wpAny_setScan_of nL ho rfl S.fits S.el ?_))));cases hr:List.findIdx? (fun e=>(strKind prog w).is x e.2) es.toList with
 | some j=>
  dsimp only;obtain⟨hj,YA,_⟩:=List.findIdx?_eq_some_iff_getElem.mp hr;refine aq (aq ?_);exact h s.heap es ep t (Heap.SameBut.refl a s.heap) S (.inl ⟨rfl,es.toList[j],cC hj,YA⟩) _
 | none=>
  dsimp only;have rj:¬Mem prog w es x:=fun⟨e,he,hp⟩=>by
   have:=List.findIdx?_eq_none_iff.mp hr e he;rw[hp] at this;cases this
  have way:∀(b:Bool) {s1:Shared} {Q':Unit->Shared->Prop},Q' () s1->wpAny (model prog w) A (match b with | true=>rule "set.scan.the-table-gave-way" | false=>pure ()) Q' E s1:=fun b s1 Q' q=>by
   cases b
   ·exact aq q
   ·exact wpAny_rule q
  have kP:=layNew_perm t es ((strKind prog w).hash x) (.str x tk);have qI:=layNew_fits t es ((strKind prog w).hash x) (.str x tk);have u9:=Uq t es ((strKind prog w).hash x) (.str x tk);generalize layNew t es ((strKind prog w).hash x) (.str x tk)=L at kP qI u9 ⊢;obtain⟨m9,t1,Zl,Zf⟩:=L;dsimp only at kP qI u9 ⊢;rw[aF] at kP;have BJ:ElemsOf (strKind prog w) m9.toList:=(S.el.push nL GQ).perm kP;have hsz:m9.size=es.size+1:=by rw[<-ah,kP.length_eq,au,ah];rfl
  have BO:m9.size<scanBound:=by omega
  refine aa (way _ ?_)
  -- qu table,not plain any more
  have tail:∀(g:Bool->Sem Unit),(∀(b:Bool) (s1:Shared) (Q':Unit->Shared->Prop),Q' () s1->wpAny (model prog w) A (g b) Q' E s1)->∀t2:SetTable,t2.fits m9.size=true->t2.led=t.led->t2.plain=false->wpAny (model prog w) A (do
    storeSet a m9 t2
    if (!Zl&&t2.tooFull)=true then do
        g (relayAll t2 m9 (SetTable.grown m9.size)).2.2
        storeSet a (relayAll t2 m9 (SetTable.grown m9.size)).1 (relayAll t2 m9 (SetTable.grown m9.size)).2.1
        pure (some true)
     else pure (some true)) (fun r s'=>wpAny (model prog w) A (match r with | some added=>pure added | none=>setAddHashedIn a (Value.str x tk) ((strKind prog w).hash x) 99999) Q E s') E s:=by
   intro g hg t2 f2 l2 p2;refine aa (KS ho BO fun h1 LR g1=>?_);have HG:∀b,Q b { s with heap:=h1 }:=h h1 m9 _ t2 LR ⟨g1,BJ,BO,f2,⟨l2.trans S.marks.led,.inr p2⟩⟩ (.inr ⟨rj,kP⟩)
   split
   ·have hp:=relayAll_perm t2 m9 (SetTable.grown m9.size);have tq:=relayAll_fits t2 m9 (SetTable.grown m9.size);have zf:=V7 t2 m9 (SetTable.grown m9.size) p2;generalize relayAll t2 m9 (SetTable.grown m9.size)=Rl at hp tq zf ⊢;obtain⟨DH,t3,MZ⟩:=Rl;dsimp only at hp tq zf ⊢;have uj:DH.size=m9.size:=by rw[<-ah,hp.length_eq,ah]
    refine aa (hg _ _ _ ?_);refine aa (KS (s:={ s with heap:=h1 }) g1 (by rw[uj];exact BO) fun h2 xv g2=>aq (aq ?_));exact h h2 DH _ t3 (LR.trans xv) ⟨g2,BJ.perm hp,by rw[uj];exact BO,tq,⟨(zf.1.trans l2).trans S.marks.led,.inr zf.2⟩⟩ (.inr ⟨rj,hp.trans kP⟩) _
   ·exact aq (aq (HG _))
  by_cases kO:t1.plain=true
  ·rw[if_pos kO];refine aa ?_;rw[hashByValue_scannable 8 GQ];refine aq ?_;have hk:plainKind (.str x tk)=false:=rfl;rw[hk];simp only[af,aJ];exact tail _ (fun b s1 Q' q=>by cases b<;>first | exact aq q | exact wpAny_rule q) { t1 with plain:=false } (SetTable.fits_plain_off qI) u9 rfl
  ·rw[if_neg kO];refine aa (aq ?_);simp only[aR];exact tail _ (fun b s1 Q' q=>by cases b<;>first | exact aq q | exact wpAny_rule q) t1 qI u9 (by simpa using kO)
noncomputable def keysOf(es:Array (Int×Value)):List Str:=es.toList.map fun e=>strOf e.2
theorem JV{es:Array (Int×Value)}(el:ElemsOf (strKind prog w) es.toList)(k:Str):Mem prog w es k↔k∈keysOf es:=by
 unfold Mem keysOf;rw[aK];constructor
 ·rintro⟨e,he,hk⟩;obtain⟨t,ht⟩:=Value.isStrOf_shape hk;exact⟨e,he,by rw[ht];rfl⟩
 ·rintro⟨e,he,rfl⟩;obtain⟨⟨k,hk,_⟩,_⟩:=el e he;obtain⟨t,ht⟩:=Value.isStrOf_shape hk;refine⟨e,he,?_⟩;rw[ht];show Value.isStrOf k (.str k t)=true;simp[Value.isStrOf]
theorem TL{es jM:Array (Int×Value)}{x:Str}{tk:Tok}{hs:Int}(p:List.Perm jM.toList (es.toList++[(hs,.str x tk)])):List.Perm (keysOf jM) (keysOf es++[x]):=by
 have:=p.map fun e=>strOf e.2
 rw[aT] at this;exact this
structure Holds (es:Array (Int×Value)) (xs:List Str):Prop where
 nd:(keysOf es).Nodup
 mem:∀x,x∈keysOf es↔x∈xs
 len:es.size<=xs.length
theorem Holds.put{es jM:Array (Int×Value)}{xs:List Str}{x:Str}{tk:Tok}(H:Holds es xs)(el:ElemsOf (strKind prog w) es.toList)
  (h:(jM=es/\Mem prog w es x)\/(¬Mem prog w es x/\List.Perm jM.toList (es.toList++[(hashStr w x,.str x tk)]))):Holds jM (xs++[x]):=by
 rcases h with⟨rfl,hm⟩ | ⟨hm,hp⟩
 ·refine⟨H.nd,fun y=>?_,by simp;have:=H.len;omega⟩;rw[ay,<-H.mem,aX];constructor
  ·exact .inl
  ·rintro(h | rfl)
   ·exact h
   ·exact(JV el _).mp hm
 ·have hk:=TL hp;refine⟨hk.nodup_iff.mpr ?_,fun y=>?_,?_⟩
  ·rw[cY];refine⟨H.nd,by simp,fun a ha b hb=>?_⟩;rw[aX.mp hb];rintro rfl;exact hm ((JV el _).mpr ha)
  ·rw[hk.mem_iff,ay,ay,H.mem]
  ·have e1:=hk.length_eq;have e2:(keysOf jM).length=jM.size:=by simp[keysOf]
   have e3:(keysOf es).length=es.size:=by simp[keysOf]
   have:=H.len;simp only[au,aE,cx] at e1 ⊢;omega
theorem fN.kept{h h':Heap}{a:Addr}{es:Array (Int×Value)}{ep:Nat}{t:SetTable}(S:fN prog w h a es ep t)(k:∀o,h.get? a=some o->h'.get? a=some o):fN prog w h' a es ep t:=⟨k _ S.at_,S.el,S.small,S.fits,S.marks⟩
end
section
variable {prog:Program} {w:World} {A:Around} {R:Result->Shared->Prop} {I:Addr} {fp wr:List Addr} {G:Array GenState->Array GenState->Prop} {n:Nat} {P:Nat->Value->Prop} {St:Nat->Shared->Prop}
theorem TK(W:WalksS prog w A.in1 I fp wr G n P St)(S:Addr)(rV:S∉fp)(xs:List Str)(hx:xs.length=n)(nJ:∀i v,P i v->∃x t,xs[i]?=some x/\v=.str x t)(hb:n+1<scanBound) :
  ∀(k i:Nat) (s:Shared) (es:Array (Int×Value)) (ep:Nat) (t:SetTable),n-i=k->i<=n->St i s->fN prog w s.heap S es ep t->Holds es (xs.take i)->
   (∀s' jM nR t',Moved (S::wr) G s s'->fN prog w s'.heap S jM nR t'->Holds jM xs->R (.ok (.ret .none)) s')->codeAny (model prog w) A (.builtin "set.update.loop" ⟨[.ref S,.ref I],[]⟩) R s:=by
 have sP:S∉wr:=fun h=>rV (W.sub _ h)
 have more:∀b∈wr,b∈S::wr:=fun b hb=>aQ _ hb
 intro k;induction k with
 | zero=>
  intro i s es ep t hk hi st T H q;have e:i=n:=by omega
  subst e;refine dH PyProof.Rows.F.entry_set_update_loop ?_;rw[cQ dQ _];show wpAny _ A.in1 (pyNext (.ref I) >>= _) _ _ s;refine aa (W.done s _ _ st fun s' hm=>?_);show wpAny _ A.in1 (ret Value.none) _ _ s';rw[<-hx,bN] at H;exact aq (q s' es ep t (hm.mono more) (T.kept fun o e=>hm.heap S _ sP e) H)
 | succ k ih=>
  intro i s es ep t hk hi st T H q;have fI:i<n:=by omega
  refine dH PyProof.Rows.F.entry_set_update_loop ?_;rw[cQ dQ _];show wpAny _ A.in1 (pyNext (.ref I) >>= _) _ _ s;refine aa (W.item i s _ _ fI st fun v s' hP eX hm=>?_);obtain⟨x,tk,Yl,rfl⟩:=nJ i v hP;have T':fN prog w s'.heap S es ep t:=T.kept fun o e=>hm.heap S _ sP e
  show wpAny _ A.in1 (holding [Value.str x tk] (setAdd S (.str x tk)) >>= _) _ _ s';refine aa (bL ?_);unfold setAdd;refine bL (aa ((strKind prog w).pyHash (k:=x) (by show Value.isStrOf x (.str x tk)=true;simp[Value.isStrOf]) ?_));have hl:=H.len;rw[aM] at hl;refine QY (s:={ s' with toks:=s'.toks+1 }) T' (by omega) fun h' jM nR t' sb T2 GW b=>?_
  have De:xs.take (i+1)=xs.take i++[x]:=by rw[bg,Yl];rfl
  have H2:Holds jM (xs.take (i+1)):=by rw[De];exact H.put T.el GW
  refine aq ⟨plainId_quiet dQ _,ih (i+1) _ jM nR t' (by omega) fI (W.frame _ s' _ _ eX (b8 _) fun b hb o e=>?_) T2 H2 fun s2 DH M8 t2 oE T3 H3=>?_⟩
  ·rw[sb.2 b (fun z:b=S=>rV (by rw[<-z];exact hb))];exact e
  ·refine q s2 DH M8 t2 (Moved.trans W.gtrans ((hm.mono more).then_heap (b8 _) fun b o hb e=>?_) oE) T3 H3;rw[sb.2 b (fun z:b=S=>hb (by rw[z];exact cM))];exact e
end
section
variable {prog:Program} {w:World} {A:Around} {E:Value->Shared->Prop} {s:Shared}
noncomputable abbrev si(w:World):Obj:={ cls:=.type "set",dict:=none,data:=.set #[] 0 (.fresh 0 0 (!(w.params.followText "set-order"))) }
theorem RM(a:Value){Q1:Value->Shared->Prop}(h:Q1 (.ref s.heap.objs.size) { s with heap:=s.heap.push (si w) }) :
  codeAny (model prog w) A (.call (.builtin "set.__new__") ⟨[.type "set",a],[]⟩) (wants Q1 E) s:=by
 refine codeAny_of_tree ?_;show wpAny _ A.in1 (do checkBuiltinCall "set.__new__" ⟨[.type "set",a],[]⟩;again (.builtin "set.__new__" ⟨[.type "set",a],[]⟩)) _ _ s;refine aa (wpAny_of_eq (PySem.F.newCall_set_1 a) (aq ⟨plainId_quiet PySem.F.plain_set_new _,dH PySem.F.entry_set_new ?_⟩));rw[cQ PySem.F.plain_set_new _];unfold Builtin.«set.__new__» Builtin.Frozenset.newClass;have rf:=PySem.sub_set_self;obtain⟨hp,g,d,tk,os⟩:=s;dsimp only;wp_walk
 refine eF (aq ?_);dsimp only;simp only[newObj];refine aa (wpAny_alloc (aq ?_));exact aq h
theorem QX{h:Heap}{a:Addr}(e:h.get? a=some (si w)):fN prog w h a #[] 0 (.fresh 0 0 (!(w.params.followText "set-order"))):=
 ⟨e,fun x hx=>by simp at hx,by show 0<4096;decide,by simp[SetTable.fits,SetTable.fresh,SetTable.fill],⟨rfl,.inl rfl⟩⟩
theorem TJ{l:Addr}{items:List Value}{xs:List Str}{Q:Value->Shared->Prop}(hh:A.handled=none)(hl:s.heap.IsList l items.toArray)(hi:StrsAre items xs)(hb:xs.length+1<scanBound)
  (h:∀(h':Heap) (tk:Nat) es ep t,fN prog w h' s.heap.objs.size es ep t->L2.Holds es xs->(∀b o,b<s.heap.objs.size->s.heap.get? b=some o->h'.get? b=some o)->Q (.ref s.heap.objs.size) { s with heap:=h',toks:=tk }) :
  wpAny (model prog w) A (call (.type "set") [.ref l]) Q E s:=by
 obtain⟨c,tl,YF⟩:=PySem.F.called_set.mro;have MA:=PySem.F.called_set.made;have rf:=PySem.F.called_set.sub;refine wpAny_call (codeAny_of_tree ?_);show wpAny _ _ (callAny (.type "set") _) _ _ _;refine aq ⟨Code.quiet_builtin _ (by decide +kernel),dH PySem.F.entry_type_call ?_⟩;rw[Around.under_plain (weight_type_call_type "set" [.ref l] []) rfl];have h1:=PySem.F.called_set.notType;have h2:=PySem.F.called_set.canCreate;have ZU:=PySem.F.typeCall_set_1 (.ref l);repeat(any_goals (first | assumption | wp_step))
 refine codeAny_mono (RM (.ref l) (E:=E) (Q1:=fun obj s1=>obj=.ref s.heap.objs.size/\s1={ s with heap:=s.heap.push (si w) }) ⟨rfl,rfl⟩) fun r s1 hr=>?_
 cases r with
 | error e=>exact hr
 | ok fl=>
  cases fl with
  | ret obj=>
   obtain⟨rfl,rfl⟩:=hr;have hS:(s.heap.push (si w)).get? s.heap.objs.size=some (si w):=aD _ rfl;have hT:Shared.TypeIs { s with heap:=s.heap.push (si w) } (.ref s.heap.objs.size) "set":=⟨_,hS,rfl⟩
   have ZR:=PySem.F.called_set.init.lookup;have ZV:=PySem.F.called_set.init.bind (.ref s.heap.objs.size);repeat(any_goals (first | assumption | wp_step))
   refine codeAny_mono (codeAny_call_builtin (R:=wants (fun r s2=>r=.none/\∃h' tk es ep t,s2={ s with heap:=h',toks:=tk }/\fN prog w h' s.heap.objs.size es ep t/\L2.Holds es xs/\
     (∀b o,b<s.heap.objs.size->s.heap.get? b=some o->h'.get? b=some o)) E) PySem.F.called_set.init.plain PySem.F.entry_set_init (check_set_init_1 hT ?_)) fun r2 s2 GU=>?_
   ·obtain⟨ol,xR,tw,nl,Dx⟩:=hl;obtain⟨X1,A7,LZ,xy⟩:=ol;simp only at tw Dx;subst tw Dx;have pW:(s.heap.push (si w)).get? l=some { cls:=.type "list",dict:=A7,data:=.seq items.toArray nl,slots:=xy }:=ao _ xR;have Yv:=PySem.F.sub_list_set;have Yw:=PySem.F.sub_list_frozenset;have gP:(Value.type "list"==Value.type "dict")=false:=by decide
    have qG:(s.heap.push (si w)).IsList l items.toArray:=⟨_,pW,rfl,nl,rfl⟩
    unfold Builtin.«set.__init__» noKeywords Builtin.Frozenset.updateFrom;generalize Y6:pyIter=PI;wp_walk
    subst Y6;refine wpAny_pyIter_list qG (aa (wpAny_runValue ?_));have Bu:l<s.heap.objs.size:=aB xR;have YO:A.in1.in1.in1.handled=none:=by simp[hh]
    have hsz:(s.heap.push (si w)).objs.size=s.heap.objs.size+1:=di ..;have xS:l≠(s.heap.push (si w)).objs.size:=by rw[hsz];exact aG (cq Bu)
    have rV:s.heap.objs.size∉[(s.heap.push (si w)).objs.size,l]:=by
     rw[hsz];simp only[ar,aP,cv,not_or];exact⟨aG (cO _),eu Bu⟩
    have sW:xs.length=items.toArray.size:=by
     rw[aw];clear xR pW qG h hb;induction hi with
     | nil=>rfl
     | cons _ _ _ ih=>simp[ih]
    have nJ:∀(i:Nat) (v:Value),items.toArray[i]?=some v->∃x t,xs[i]?=some x/\v=.str x t:=fun i v hv=>by
     rw[List.getElem?_toArray] at hv;clear xR pW qG h hb sW;induction hi generalizing i with
     | nil=>simp at hv
     | cons x t hr ih=>
      cases i with
      | zero=>simp at hv;exact⟨x,t,rfl,hv.symm⟩
      | succ i=>simp only[bD] at hv ⊢;exact ih i hv
    refine TK ((Walks.list YO _ l xS items.toArray).toS) s.heap.objs.size rV xs sW nJ (by omega) (items.toArray.size-0) 0 _ #[] 0 _ (by omega) (aL _)
     ⟨⟨_,aD _ rfl,rfl,rfl⟩,(qG.push _)⟩ (QX (ao _ hS)) ⟨by simp[keysOf],by simp[keysOf],by simp⟩ ?hR
    case hR=>
     intro s' es ep t hm T H;obtain⟨h',g',d',rS,A6⟩:=s';have eg:g'=s.gens:=hm.gens;have ed:d'=s.drawn:=hm.drawn;have eo:A6=s.os:=hm.os;subst eg ed eo;show wpAny _ _ _ _ _ _;refine aq ?_;show wpAny _ _ (ret Value.none) _ _ _;refine aq ⟨rfl,h',rS,es,ep,t,rfl,T,H,fun b o hb e=>?_⟩;refine hm.heap b o ?_ (ao _ (ao _ e));rw[hsz];simp only[ar,aP,cv,not_or];exact⟨aG hb,aG (cq hb)⟩
   ·cases r2 with
    | error e=>exact GU
    | ok Zj=>
     cases Zj with
     | ret r=>
      obtain⟨rfl,h',tk,es,ep,t,rfl,T,H,wx⟩:=GU;repeat(any_goals (first | assumption | wp_step))
      exact h _ _ es ep t T H wx
     | _=>exact GU.elim
  | _=>exact hr.elim
end
theorem i7:Slot "set_iterator" "__next__" "set_iterator.__next__":=
 .of (owner:="set_iterator") (n:="__next__") (by rw[typeLookup_type,builtinLookup_eq_fast];kernel_rfl) (by decide +kernel) (by decide +kernel) (by decide +kernel) (by first | exact .inl (by decide +kernel) | exact .inr (by decide +kernel)) (by rw[isSubtype_type];kernel_rfl)
theorem JF:Slot "set_iterator" "__iter__" "set_iterator.__iter__":=
 .of (owner:="set_iterator") (n:="__iter__") (by rw[typeLookup_type,builtinLookup_eq_fast];kernel_rfl) (by decide +kernel) (by decide +kernel) (by decide +kernel) (by first | exact .inl (by decide +kernel) | exact .inr (by decide +kernel)) (by rw[isSubtype_type];kernel_rfl)
theorem JE:entryFor table "set_iterator.__next__"=some Builtin.«set_iterator.__next__»:=entryFor_of_fast (by kernel_rfl)
theorem QW:entryFor table "set_iterator.__iter__"=some Builtin.«dict_keyiterator.__iter__»:=entryFor_alias (id':="dict_keyiterator.__iter__") (by kernel_rfl) rfl (by decide +kernel) (by kernel_rfl)
theorem RL:entryFor table "set.__iter__"=some Builtin.«frozenset.__iter__»:=entryFor_alias (id':="frozenset.__iter__") (by kernel_rfl) rfl (by decide +kernel) (by kernel_rfl)
theorem JD(a:Value):argsOk "set_iterator.__next__" ⟨[a],[]⟩:=by unfold argsOk;kernel_rfl
theorem QV(a:Value):argsOk "set_iterator.__iter__" ⟨[a],[]⟩:=by unfold argsOk;kernel_rfl
section
variable {prog:Program} {w:World} {A:Around} {E:Value->Shared->Prop} {s:Shared}
theorem Fx{α:Type}:∀{l:List α} {i:Nat} (h:i<l.length),(l[i]::l.eraseIdx i).Perm l
 | a::r,0,_=>.refl _
 | a::r,i+1,h=>by
  simp only[List.getElem_cons_succ,List.eraseIdx_cons_succ];exact(List.Perm.swap _ _ _).trans ((Fx (by simpa using h)).cons a)
theorem Uo{M:Model}{src:Source}{n:Nat}{Q:Nat->Shared->Prop}(hn:n≠0)(h:∀i d,i<n->Q i { s with drawn:=d }):wpAny M A (choose src n) Q E s:=fun Γ p _=>by
 show Sem.wp M Γ (.choose src n .pure) _ _ p s;rw[Sem.wp_choose];exact⟨hn,h _ _ (Nat.mod_lt _ (Nat.pos_of_ne_zero hn))⟩
theorem KR{M:Model}{α:Type}:∀(n:Nat) (xs:List α) (s:Shared) (Q:List α->Shared->Prop),xs.length<=n->(∀ys d,ys.Perm xs->Q ys { s with drawn:=d })->wpAny M A (drawOrder n xs) Q E s
 | 0,xs,s,Q,hl,q=>by
  have:xs=[]:=dr (by omega);subst this;unfold drawOrder;exact aq (q [] s.drawn (.refl _))
 | n+1,[],s,Q,hl,q=>by
  unfold drawOrder;exact aq (q [] s.drawn (.refl _))
 | n+1,x::r,s,Q,hl,q=>by
  unfold drawOrder;refine aa (Uo (by simp) fun i d hi=>?_);rw[ai hi];dsimp only;refine aa (KR n _ _ _ (by rw[List.length_eraseIdx];split<;>simp at hl ⊢<;>omega) fun ys d' hp=>aq ?_);exact q _ d' ((hp.cons _).trans (Fx hi))
theorem JC{α:Type}(f:Nat->Nat):∀(n k:Nat) (left:List α) (out:Array α),left.length=n->(pickOrder.go f n k left out).toList.Perm (out.toList++left)
 | 0,k,left,out,h=>by
  have:left=[]:=dr h;subst this;simp[pickOrder.go]
 | n+1,k,left,out,h=>by
  unfold pickOrder.go;have fI:f k%left.length<left.length:=Nat.mod_lt _ (by omega);rw[ai fI];dsimp only;refine(JC f n (k+1) _ _ (by rw[List.length_eraseIdx,if_pos fI];omega)).trans ?_;rw[aF,bO];exact(List.Perm.refl _).append (Fx fI)
theorem KQ{α:Type}(f:Nat->Nat)(xs:Array α):(pickOrder f xs).toList.Perm xs.toList:=by
 have:=JC f xs.size 0 xs.toList #[] (by simp);simpa[pickOrder] using this
noncomputable abbrev tY(first:Value)(i:Nat)(S:Addr)(n ep:Nat):Obj:={ cls:=.type "set_iterator",data:=.fields #[first,.int i 0,.ref S,.int n 0,.int ep 0] }
theorem Fw{a:Addr}{es:Array (Int×Value)}{ep:Nat}{t:SetTable}{Q:Array (Int×Value)->Shared->Prop}(S:fN prog w s.heap a es ep t)(h:Q es s):wpAny (model prog w) A (setEntries a) Q E s:=by
 unfold setEntries;exact aa (dD S.at_ rfl S.fits (aq h))
theorem JU{I:Addr}{o:Obj}{vs:Array Value}{Q:Option Value->Shared->Prop}{K:Fin->Shared->Prop}(hh:A.handled=none)(ho:s.heap.get? I=some o)(hd:o.data=.fields vs)(hv:2<vs.size)
  (hQ:∀h',Heap.ExtBut I s.heap h'->Q none { s with heap:=h' }) :
  wpAny (model prog w) A.in1 (do setField (.ref I) 2 .none;raiseNew (<-newExc (.type "StopIteration") []):Sem Fin) K (fun e s'=>wpAny (model prog w) A (do if <-isInstance e (.type "StopIteration") then pure none else throw e:Sem (Option Value)) Q E s') s:=by
 refine aa (wpAny_setField ho hd hv ?_);show wpAny _ _ (newExc (.type "StopIteration") [] >>= _) _ _ _;refine aa ?_;simp only[newExc,newTuple];refine aa (cJ ?_ (by size_fits));refine aa (m:=firstArgMember _ _) (wpAny_of_eq (a:=Value.none) (by first | rfl | (simp only[firstArgMember];rfl)) ?_);refine cJ ?_ (by size_fits);simp only[raiseNew];refine aa (wpAny_handled ?_);rw[show A.in1.handled=none from hh];refine aa (aq (wpAny_throw ?_));refine aa (wpAny_isInstance (T:="StopIteration") (b:=true) ⟨_,aD _ rfl,rfl⟩ isSubtype_stop ?_);exact aq (hQ _ (((Heap.SameBut.update ..).extBut.push _).push _))
end
section
variable {prog:Program} {w:World} {A:Around} {E:Value->Shared->Prop} {s:Shared}
theorem CU{I S:Addr}{es:Array (Int×Value)}{ep:Nat}{t:SetTable}{sl i:Nat}{Q:Option Value->Shared->Prop}(hh:A.handled=none)(hI:s.heap.get? I=some (tY (.int sl 0) i S es.size ep))(T:fN prog w s.heap S es ep t)(r:Option (Value×Nat))
  (hN:∀(Q':Option (Value×Nat)->Shared->Prop) (E':Value->Shared->Prop),Q' r s->wpAny (model prog w) A.in1 (setNext S sl i ep) Q' E' s)
  (hs:∀x j,r=some (x,j)->∀h',Heap.SameBut I s.heap h'->h'.get? I=some (tY (.int j 0) (i+1) S es.size ep)->Q (some x) { s with heap:=h' })
  (hn:r=none->∀h',Heap.ExtBut I s.heap h'->Q none { s with heap:=h' }):wpAny (model prog w) A (pyNext (.ref I)) Q E s:=by
 have hT:s.TypeIs (.ref I) "set_iterator":=⟨_,hI,rfl⟩
 unfold pyNext;refine aa (wpAny_attempt (wpAny_callSpecial?_slot (name:=Str.ofString "__next__") hT i7 (dR i7 hT JE ?_ (JD _))));show wpAny _ _ (fieldsOf (.ref I) >>= _) _ _ s;refine aa (wpAny_fieldsOf hI rfl ?_);dsimp only;refine aa (Fw T ?_);simp only[eA,af,aJ];simp only[eB];refine aa (hN _ _ ?_);cases r with
 | none=>exact JU hh hI rfl (by simp) (hn rfl)
 | some p=>
  obtain⟨x,j⟩:=p;dsimp only;refine aa (wpAny_setField_rec hI (by simp) fun h1 g1 b1=>?_);refine aa (wpAny_setField_rec (s:={ s with heap:=h1 }) g1 (by simp) fun h2 g2 b2=>?_);refine aq ⟨x,rfl,aq (hs x j rfl h2 (b1.trans b2) ?_)⟩;rw[g2];simp[rawInt]
theorem JT{I S Tp:Addr}{es:Array (Int×Value)}{ep:Nat}{t:SetTable}{ps:List Nat}{i:Nat}{Q:Option Value->Shared->Prop}(hh:A.handled=none)(hI:s.heap.get? I=some (tY (.ref Tp) i S es.size ep))(T:fN prog w s.heap S es ep t)
  (Y4:s.heap.get? Tp=some { cls:=.type "tuple",data:=.seq (ps.map fun(p:Nat)=>rawInt p).toArray })
  (hs:∀p e,ps[i]?=some p->es[p]?=some e->∀h',Heap.SameBut I s.heap h'->h'.get? I=some (tY (.ref Tp) (i+1) S es.size ep)->Q (some e.2) { s with heap:=h' })
  (oF:∀p∈ps,p<es.size) (hn:ps[i]?=none->∀h',Heap.ExtBut I s.heap h'->Q none { s with heap:=h' }):wpAny (model prog w) A (pyNext (.ref I)) Q E s:=by
 have hT:s.TypeIs (.ref I) "set_iterator":=⟨_,hI,rfl⟩
 unfold pyNext;refine aa (wpAny_attempt (wpAny_callSpecial?_slot (name:=Str.ofString "__next__") hT i7 (dR i7 hT JE ?_ (JD _))));show wpAny _ _ (fieldsOf (.ref I) >>= _) _ _ s;refine aa (wpAny_fieldsOf hI rfl ?_);dsimp only;refine aa (Fw T ?_);simp only[eA,af,aJ];refine aa (wpAny_seqItems Y4 rfl ?_);dsimp only;simp only[eB,List.getElem?_toArray,aI];cases hp:ps[i]? with
 | none=>
  simp only[Option.map_none];refine aa (wpAny_setField_rec hI (by simp) fun h1 g1 b1=>?_);exact JU (s:={ s with heap:=h1 }) hh g1 rfl (by simp) fun h' x=>hn hp h' (b1.extBut.trans x)
 | some p=>
  simp only[bV,rawInt,eB];have fI:=oF p (aV hp);have he:es[p]?=some es[p]:=by simp[fI]
  unfold setNextDrawn;refine aa (aa (dD T.at_ rfl T.fits ?_));simp only[eA,af,aJ,he];refine aq ?_;refine aa (wpAny_setField_rec hI (by simp) fun h1 g1 b1=>?_);refine aq ⟨_,rfl,aq (hs p es[p] hp he h1 b1 ?_)⟩;rw[g1];simp
theorem KP{S:Addr}{es:Array (Int×Value)}{ep:Nat}{t:SetTable}(T:fN prog w s.heap S es ep t)(sl i:Nat)(hf:w.params.followText "set-order"=true)(Q:Option (Value×Nat)->Shared->Prop)
  (q:Q (((pickOrder (w.params.setOrder S ep) es)[i]?).map fun e=>(e.2,sl)) s):wpAny (model prog w) A (setNext S sl i ep) Q E s:=by
 unfold setNext;refine aa (dD T.at_ rfl T.fits ?_);dsimp only;unfold setsByText;refine aa (aa (eF (aq ?_)));rw[show(model prog w).w.params.followText "set-order"=true from hf];simp only[eA,af,aJ,aR];unfold setWalk;refine aa (aa (dD T.at_ rfl T.fits ?_));dsimp only;unfold setsByText;refine aa (aa (eF (aq ?_)));rw[show(model prog w).w.params.followText "set-order"=true from hf];simp only[aR];exact aa (eF (aq (aq q)))
theorem Lh{S:Addr}{es:Array (Int×Value)}{ep:Nat}{t:SetTable}(T:fN prog w s.heap S es ep t)(sl i:Nat)(hf:w.params.followText "set-order"=false)(h1:es.size<=1)(Q:Option (Value×Nat)->Shared->Prop)
  (q:Q (match es[SetTable.below t.place sl]?,t.place[SetTable.below t.place sl]? with | some (_,x),some j=>some (x,j+1) | _,_=>none) s):wpAny (model prog w) A (setNext S sl i ep) Q E s:=by
 unfold setNext;refine aa (dD T.at_ rfl T.fits ?_);dsimp only;unfold setsByText;refine aa (aa (eF (aq ?_)));rw[show(model prog w).w.params.followText "set-order"=false from hf];simp only[af,aJ];have hl:t.led=true:=by rw[T.marks.led,hf];rfl
 have hd:(!t.plain&&decide (es.size>1))=false:=by
  rw[ba (by omega)];simp
 refine wpAny_ite_split (fun h=>absurd (show(!t.plain&&decide (es.size>1))=true from h) (by rw[hd];simp)) fun _=>?_
 refine aa ?_;show wpAny _ _ (ite ((!t.led&&!es.isEmpty)=true) _ _) _ _ _;rw[hl];simp only[bS,Bool.false_and,af,aJ];exact aq (aq q)
theorem EV{I S:Addr}{h h':Heap}{es:Array (Int×Value)}{ep:Nat}{t:SetTable}(T:fN prog w h S es ep t)(gP:S≠I)(b:Heap.SameBut I h h'):fN prog w h' S es ep t:=T.kept fun o e=>by rw[b.2 S gP];exact e
abbrev DS(vals:List Value):Nat->Value->Prop:=fun i v=>vals[i]?=some v
theorem EJ{I S:Addr}{first:Value}{i n ep:Nat}{Q:Value->Shared->Prop}(hI:s.heap.get? I=some (tY first i S n ep))(q:Q (.ref I) s):wpAny (model prog w) A (pyIter (.ref I)) Q E s:=by
 have hT:s.TypeIs (.ref I) "set_iterator":=⟨_,hI,rfl⟩
 refine wpAny_pyIter_slot hT JF (dR JF hT QW ?_ (QV _));show wpAny _ _ (ret (.ref I)) _ _ s;exact aq ⟨_,rfl,"set_iterator",_,hT,i7.lookup,q⟩
theorem TH{I S:Addr}{es:Array (Int×Value)}{ep:Nat}{t:SetTable}(gP:S≠I)(hf:w.params.followText "set-order"=true)(hh:A.handled=none) :
  Walks prog w A I [I,S] [I] es.size (DS ((pickOrder (w.params.setOrder S ep) es).toList.map (·.2))) (fun i h=>h.get? I=some (tY (.int 0 0) i S es.size ep)/\fN prog w h S es ep t):=by
 have hp:=KQ (w.params.setOrder S ep) es;have hl:(pickOrder (w.params.setOrder S ep) es).size=es.size:=by rw[<-ah,hp.length_eq,ah]
 refine⟨fun b hb=>by simp at hb;simp[hb],fun i h h' st k=>⟨k I (by simp) _ st.1,st.2.kept (k S (by simp))⟩,fun i s Q E hi st q=>?_,fun s Q E st q=>?_,fun i s Q E st q=>EJ st.1 q⟩
 ·have BB:i<(pickOrder (w.params.setOrder S ep) es).size:=by omega
  refine CU (sl:=0) hh st.1 st.2 _ (fun Q' E' q'=>KP st.2 0 i hf Q' q') (fun x j e h' b g=>?_) (fun e=>?_)
  ·rw[cE BB] at e;simp only[bV,aN,Prod.mk.injEq] at e;obtain⟨rfl,rfl⟩:=e;exact q _ h' s.toks (by show(List.map _ _)[i]?=_;rw[aI,cK,cE BB];rfl) ⟨g,EV st.2 gP b⟩ fun c o hc e=>by rw[b.2 c (by simpa using hc)];exact e
  ·rw[cE BB] at e;cases e
 ·refine CU (sl:=0) hh st.1 st.2 _ (fun Q' E' q'=>KP st.2 0 _ hf Q' q') (fun x j e=>?_) (fun _ h' b=>q h' s.toks fun c o hc e=>b c o (by simpa using hc) e);rw[Array.getElem?_eq_none (by omega)] at e;cases e
theorem Jd(p j:Nat):SetTable.below #[p] j=if p<j then 1 else 0:=by
 unfold SetTable.below;simp only[aw,aE,cx,Nat.zero_add];unfold SetTable.below.go;simp;split<;>unfold SetTable.below.go<;>rfl
theorem Um{I S:Addr}{es:Array (Int×Value)}{ep:Nat}{t:SetTable}(gP:S≠I)(hf:w.params.followText "set-order"=false)(h1:es.size<=1)(hh:A.handled=none) :
  Walks prog w A I [I,S] [I] es.size (DS (es.toList.map (·.2))) (fun i h=>∃sl:Nat,h.get? I=some (tY (.int sl 0) i S es.size ep)/\fN prog w h S es ep t/\(i=0->sl=0)/\(1<=i->∃p,t.place=#[p]/\sl=p+1)):=by
 refine⟨fun b hb=>by simp at hb;simp[hb],fun i h h' st k=>?_,fun i s Q E hi st q=>?_,fun s Q E st q=>?_,fun i s Q E st q=>?_⟩
 ·obtain⟨sl,a,T,b,c⟩:=st;exact⟨sl,k I (by simp) _ a,T.kept (k S (by simp)),b,c⟩
 ·obtain⟨sl,a,T,b,c⟩:=st;have Yz:es.size=1:=by omega
  have YN:i=0:=by omega
  subst YN;have zb:=b rfl;subst zb;obtain⟨e,rfl⟩:∃e,es=#[e]:=by
   obtain⟨l⟩:=es;match l,Yz with
   | [e],_=>exact⟨e,rfl⟩
  obtain⟨p,hp⟩:∃p,t.place=#[p]:=by
   have vb:=T.fits;simp only[SetTable.fits,cg,dX] at vb;have Ds:t.place.size=1:=vb.1;generalize t.place=pl at Ds ⊢;obtain⟨l⟩:=pl;match l,Ds with
   | [p],_=>exact⟨p,rfl⟩
  refine CU hh a T (some (e.2,p+1)) (fun Q' E' q'=>Lh T _ _ hf h1 Q' ?_) (fun x j ej h' bb g=>?_) (fun z=>nomatch z)
  ·rw[hp,Jd,if_neg (Nat.not_lt_zero _)];exact q'
  ·cases ej;exact q _ h' s.toks rfl ⟨p+1,g,EV T gP bb,fun z=>by omega,fun _=>⟨p,hp,rfl⟩⟩ fun c o hc e=>by rw[bb.2 c (by simpa using hc)];exact e
 ·obtain⟨sl,a,T,b,c⟩:=st;refine CU hh a T none (fun Q' E' q'=>Lh T _ _ hf h1 Q' ?_) (fun x j e=>nomatch e) (fun _ h' b=>q h' s.toks fun c o hc e=>b c o (by simpa using hc) e);have he:es[SetTable.below t.place sl]?=none:=by
   by_cases h0:es.size=0
   ·exact Array.getElem?_eq_none (by omega)
   ·obtain⟨p,hp,zb⟩:=c (by omega);rw[hp,zb,Jd,if_pos (cO _)];exact Array.getElem?_eq_none (by omega)
  rw[he];exact q'
 ·obtain⟨sl,a,T,b,c⟩:=st;exact EJ a q
theorem Ul{I S Tp:Addr}{es:Array (Int×Value)}{ep:Nat}{t:SetTable}{ps:List Nat}(gP:S≠I)(G8:Tp≠I)(hp:ps.Perm (List.range es.size))(hh:A.handled=none) :
  Walks prog w A I [I,Tp,S] [I] es.size (DS (ps.map fun p=>(es.getD p (0,.none)).2)) (fun i h=>h.get? I=some (tY (.ref Tp) i S es.size ep)/\fN prog w h S es ep t/\h.get? Tp=some { cls:=.type "tuple",data:=.seq (ps.map fun(p:Nat)=>rawInt p).toArray }):=by
 have oF:∀p∈ps,p<es.size:=fun p h=>bP.mp (hp.mem_iff.mp h)
 have hl:ps.length=es.size:=by rw[hp.length_eq,bE]
 refine⟨fun b hb=>by simp at hb;simp[hb],fun i h h' st k=>⟨k I (by simp) _ st.1,st.2.1.kept (k S (by simp)),k Tp (by simp) _ st.2.2⟩,fun i s Q E hi st q=>?_,fun s Q E st q=>?_,fun i s Q E st q=>EJ st.1 q⟩
 ·have BB:i<ps.length:=by omega
  refine JT hh st.1 st.2.1 st.2.2 (fun p e h1 h2 h' b g=>?_) oF (fun z=>by rw[ai BB] at z;cases z);refine q _ h' s.toks ?_ ⟨g,EV st.2.1 gP b,by rw[b.2 Tp G8];exact st.2.2⟩ fun c o hc e=>by rw[b.2 c (by simpa using hc)];exact e
  show(List.map _ _)[i]?=_;rw[aI,h1];simp[h2]
 ·refine JT hh st.1 st.2.1 st.2.2 (fun p e h1=>?_) oF (fun _ h' b=>q h' s.toks fun c o hc e=>b c o (by simpa using hc) e);rw[c9 (by omega)] at h1;cases h1
end
section
variable {prog:Program} {w:World} {A:Around} {E:Value->Shared->Prop} {s:Shared}
structure Laid (prog:Program) (w:World) (h:Heap) (a:Addr) (es:Array (Int×Value)) (I:Addr) (h':Heap):Prop where
 ex:∃(fp:List Addr) (vals:List Value) (St:Nat->Heap->Prop),vals.Perm (es.toList.map (·.2))/\(∀A:Around,A.handled=none->Walks prog w A I fp [I] es.size (DS vals) St)/\St 0 h'/\∀b∈fp,b=a\/h.objs.size<=b
 old:∀b o,h.get? b=some o->h'.get? b=some o
 new:h.objs.size<=I
 type:∃o,h'.get? I=some o/\o.cls=.type "set_iterator"
theorem TF{es:Array (Int×Value)}{ps:List Nat}(hp:ps.Perm (List.range es.size)):(ps.map fun p=>(es.getD p (0,.none)).2).Perm (es.toList.map (·.2)):=by
 refine(hp.map _).trans ?_;have e:(List.range es.size).map (fun p=>(es.getD p (0,.none)).2)=es.toList.map (·.2):=by
  apply List.ext_getElem
  ·simp
  ·intro i h1 h2;have hi:i<es.size:=by simpa using h1
   simp[Array.getD,hi]
 rw[e]
theorem Sq{a:Addr}{es:Array (Int×Value)}{ep:Nat}{t:SetTable}{Q:Value->Shared->Prop}(T:fN prog w s.heap a es ep t)
  (q:∀(I:Addr) (h':Heap) (d:Drawn),Laid prog w s.heap a es I h'->Q (.ref I) { s with heap:=h',drawn:=d }):wpAny (model prog w) A (pyIter (.ref a)) Q E s:=by
 have hT:s.TypeIs (.ref a) "set":=⟨_,T.at_,rfl⟩
 have fI:a<s.heap.objs.size:=aB T.at_;refine wpAny_pyIter_slot hT PySem.F.slot_set_iter (dR PySem.F.slot_set_iter hT RL ?_ (PySem.F.args_set_iter_1 _));show wpAny _ _ (Builtin.Frozenset.sizeOf a >>= _) _ _ s;unfold Builtin.Frozenset.sizeOf;refine aa (aa (Fw T (aq ?_)));unfold setDrawn;refine aa (aa (dD T.at_ rfl T.fits ?_));dsimp only;unfold setsByText;refine aa (aa (eF (aq ?_)));refine aq ?_;have here:∀(first:Value) (s1:Shared) (Q1:Fin->Shared->Prop) (T1:fN prog w s1.heap a es ep t),(∀o,o=tY first 0 a es.size ep->Q1 (.done (.ret (.ref s1.heap.objs.size))) { s1 with heap:=s1.heap.push o })->wpAny (model prog w) A.in1 (do
   let e <-setEpoch a
   let v <-newFields "set_iterator" [first,rawInt 0,Value.ref a,rawInt es.size,rawInt e]
   ret v) Q1 E s1:=by
  intro first s1 Q1 T1 q1;refine aa (wpAny_setEpoch_of T1.at_ rfl T1.fits ?_);refine aa (cJ (aq (q1 _ rfl)) (by size_fits))
 refine wpAny_ite_split (fun hc=>?_) fun hc=>?_
 ·refine aa (KR es.size _ _ _ (by simp) fun ps d hp=>?_);have Ds:ps.length<=sizeLine:=by rw[hp.length_eq,bE];exact fits_of_scanBound T.small
  refine aa (wpAny_newTuple ?_ (by rw[ae];exact Ds));have T1:fN prog w (s.heap.push { cls:=.type "tuple",data:=.seq (ps.map fun(p:Nat)=>rawInt p).toArray }) a es ep t:=T.kept fun o e=>ao _ e
  refine here _ _ _ T1 fun o ho=>?_
  subst ho;refine⟨_,rfl,"set_iterator",_,⟨_,aD _ rfl,rfl⟩,i7.lookup,?_⟩;have hsz:(s.heap.push { cls:=.type "tuple",data:=.seq (ps.map fun(p:Nat)=>rawInt p).toArray }).objs.size=s.heap.objs.size+1:=di ..
  refine q _ _ d ⟨⟨[_,s.heap.objs.size,a],_,_,TF hp,fun A hh=>Ul (t:=t) (by rw[hsz];exact aG (cq fI)) (by rw[hsz];exact aG (cO _)) hp hh,
   ⟨aD _ rfl,T1.kept fun o e=>ao _ e,ao _ (aD _ rfl)⟩,fun b hb=>?_⟩,fun b o e=>ao _ (ao _ e),by rw[hsz];exact b8 _,⟨_,aD _ rfl,rfl⟩⟩
  simp only[ar,aP,cv] at hb;rcases hb with rfl | rfl | rfl
  ·right;rw[hsz];exact b8 _
  ·right;exact az _
  ·left;rfl
 ·refine aa (aq ?_);refine here _ _ _ T fun o ho=>?_
  subst ho;refine⟨_,rfl,"set_iterator",_,⟨_,aD _ rfl,rfl⟩,i7.lookup,?_⟩;have M4:∀b∈[s.heap.objs.size,a],b=a\/s.heap.objs.size<=b:=fun b hb=>by
   simp only[ar,aP,cv] at hb;rcases hb with rfl | rfl
   ·right;exact az _
   ·left;rfl
  have gP:a≠s.heap.objs.size:=aG fI;have T1:fN prog w (s.heap.push (tY (rawInt 0) 0 a es.size ep)) a es ep t:=T.kept fun o e=>ao _ e
  cases hf:w.params.followText "set-order" with
  | true=>
   exact q _ _ s.drawn ⟨⟨_,_,_,(KQ (w.params.setOrder a ep) es).map _,fun A hh=>TH (t:=t) gP hf hh,⟨aD _ rfl,T1⟩,M4⟩,fun b o e=>ao _ e,az _,⟨_,aD _ rfl,rfl⟩⟩
  | false=>
   have Hs:¬((!t.plain&&decide (es.size>1))=true):=fun z=>hc (by
    show(!(w.params.followText "set-order")&&(!t.plain&&decide (es.size>1)))=true;rw[hf,z];rfl)
   have h1:es.size<=1:=by
    rcases T.marks.plain with h | h
    ·omega
    ·rw[h] at Hs;simp at Hs;exact Hs
   exact q _ _ s.drawn ⟨⟨_,_,_,.refl _,fun A hh=>Um (t:=t) gP hf h1 hh,⟨0,aD _ rfl,T1,fun _=>rfl,fun z=>by omega⟩,M4⟩,fun b o e=>ao _ e,az _,⟨_,aD _ rfl,rfl⟩⟩
theorem So{a:Addr}{Q:Bool->Shared->Prop}(hT:s.TypeIs (.ref a) "set")(h:Q false s):wpAny (model prog w) A (Builtin.List.listLengthHint (.ref a)) Q E s:=by
 unfold Builtin.List.listLengthHint;refine aa (wpAny_specialOf hT PySem.F.slot_set_len.lookup ?_);generalize MK:("set.__len__":String)=Yi;wp_delta
 rw[show splitId Yi=some ("set","__len__") from by subst MK;decide +kernel];subst MK;refine aa (wpAny_isInstance (T:="set") (b:=true) hT (by rw[isSubtype_type];kernel_rfl) ?_);refine wpAny_ite_split (fun nN=>absurd nN (by decide)) (fun _=>wpAny_ite_split (fun _=>?_) (fun nN=>absurd (by decide +kernel) nN));exact aa (wpAny_typeOf hT (aq h))
theorem Uk{R:Result->Shared->Prop}{a:Addr}{es:Array (Int×Value)}{ep:Nat}{t:SetTable}(T:fN prog w s.heap a es ep t)(hh:A.handled=none)(S:Addr)(MU:S≠a)(res:Value)(c0:Nat)(hS:s.heap.get? S=some { cls:=.type "list",data:=.seq #[] c0 })
  (hR:∀h' d tk (acc:Array Value) c',(∀b o,b≠S->s.heap.get? b=some o->h'.get? b=some o)->h'.get? S=some { cls:=.type "list",dict:=none,data:=.seq acc c',slots:=#[] }->acc.toList.Perm (es.toList.map (·.2))->R (.ok (.ret res)) { s with heap:=h',drawn:=d,toks:=tk }) :
  wpAny (model prog w) A.in1 (Builtin.List.listExtendWith (.ref S) (.ref a) res) (fun fin s'=>match fin with | .done f=>R (.ok f) s' | .again c'=>c'.quiet=true/\codeAny (model prog w) A c' R s') (fun e s'=>R (.error e) s') s:=by
 have hT:s.TypeIs (.ref a) "set":=⟨_,T.at_,rfl⟩
 have MT:S<s.heap.objs.size:=aB hS;unfold Builtin.List.listExtendWith;refine aa (wpAny_typeOf (T:="set") hT ?_);have h1:Builtin.List.listSameRef (.ref S) (.ref a)=false:=by simp[Builtin.List.listSameRef,MU]
 have h2:(Value.type "set"==Value.type "list")=false:=by decide
 have h3:(Value.type "set"==Value.type "tuple")=false:=by decide
 simp only[h1,h2,h3,Bool.or_false,af,aJ];refine aa (Sq T fun I h0 d L=>?_);obtain⟨fp,vals,St,hv,W,st,YS⟩:=L.ex;have rV:S∉fp:=fun z=>by
  rcases YS S z with e | e
  ·exact MU e
  ·exact cV _ (aW MT e)
 have ZX:S≠I:=fun z=>cV _ (aW MT (z▸L.new))
 have go:∀(h:Heap) (c1 tk:Nat),St 0 h->(∀b o,b≠S->s.heap.get? b=some o->h.get? b=some o)->h.get? S=some { cls:=.type "list",data:=.seq #[] c1 }->
   codeAny (model prog w) A (.builtin "list.extend.loop" ⟨[.ref S,.ref I,res],[]⟩) R { s with heap:=h,drawn:=d,toks:=tk }:=by
  intro h c1 tk jv hk Hx;refine codeAny_extend_loopS (W A.in1 hh).toS (fits_of_scanBound T.small) S rV res es.size 0 _ #[] c1 rfl (aL _) jv Hx (ItemsOf.nil _) fun s' lR c' hm vd lP=>?_
  rw[Moved.eq_with hm];refine hR s'.heap d s'.toks lR c' (fun b o hb e=>hm.heap b o (fun nK=>?_) (hk b o hb e)) vd ?_
  ·rcases ar.mp nK with e' | nK
   ·exact hb e'
   ·exact absurd (aB e) (by rw[aX.mp nK];exact Nat.not_lt.mpr L.new)
  ·have e:lR.toList=vals:=by
    apply List.ext_getElem?;intro j;by_cases hj:j<lR.size
    ·have:=lP.2 j lR[j] (by simp[hj]);rw[this];simp[hj]
    ·have Mj:vals.length=es.size:=by rw[hv.length_eq];simp
     have:=lP.1;rw[c9 (by simp;omega),c9 (by omega)]
   rw[e];exact hv
 have Hy:=L.old _ _ hS;refine aa (bL (So (s:={ s with heap:=h0,drawn:=d }) ⟨_,L.old _ _ T.at_,rfl⟩ ?_));refine wpAny_ite_split (fun _=>?_) (fun _=>aq ⟨plainId_quiet PySem.F.plain_extend_loop _,go _ c0 _ st (fun b o _ e=>L.old b o e) Hy⟩);refine aa (wpAny_rule (aa ?_));show wpAny _ _ (updateSeq S (·.push .none) >>= fun _=>updateSeq S (·.pop)) _ _ _;refine aa (wpAny_updateSeq Hy rfl ?_);have MV:=Heap.get?_update_self (Obj.mapSeq (·.push Value.none)) Hy rfl;refine wpAny_updateSeq (hz:=by seq_fits) MV rfl ?_;have Y5:=Heap.get?_update_self (Obj.mapSeq (·.pop)) MV rfl;refine aq ⟨plainId_quiet PySem.F.plain_extend_loop _,go _ _ _ ?_ (fun b o hb e=>?_) Y5⟩
 ·refine(W A.in1 hh).frame 0 _ _ st fun b hb o e=>?_
  have BN:b≠S:=fun h=>rV (h▸hb)
  exact(cz _ _ (Ne.symm BN)).trans ((cz _ _ (Ne.symm BN)).trans e)
 ·exact(cz _ _ (Ne.symm hb)).trans ((cz _ _ (Ne.symm hb)).trans (L.old _ _ e))
end
section
variable {prog:Program} {w:World} {A:Around} {E:Value->Shared->Prop} {s:Shared}
theorem Vn{R:List Value->Shared->Prop}{a:Addr}{es:Array (Int×Value)}{ep:Nat}{t:SetTable}(T:fN prog w s.heap a es ep t)(hh:A.handled=none)
  (h:∀(h':Heap) (d:Drawn) (tk:Nat) (vs:List Value),s.heap.objs.size<h'.objs.size->(∀b o,s.heap.get? b=some o->h'.get? b=some o)->vs.Perm (es.toList.map (·.2))->R vs { s with heap:=h',drawn:=d,toks:=tk }):wpAny (model prog w) A (collect (.ref a)) R E s:=by
 have fI:a<s.heap.objs.size:=aB T.at_;unfold collect;refine aa (wpAny_runValue (dH entry_proto_collect' ?_));rw[cQ PySem.F.plain_proto_collect _];show wpAny _ A.in1 (newList [] >>= fun l=>again (.builtin "list.__iadd__" ⟨[l,.ref a],[]⟩)) _ _ s;refine aa (cJ (aq ⟨plainId_quiet PySem.F.plain_list_iadd _,dH entry_list_iadd' ?_⟩));rw[cQ PySem.F.plain_list_iadd _];have Hx:(s.heap.push { cls:=.type "list",data:=.seq ([]:List Value).toArray }).get? s.heap.objs.size=some { cls:=.type "list",data:=.seq #[] }:=aD _ rfl;show wpAny _ A.in1 (Builtin.List.listExtendWith (.ref s.heap.objs.size) (.ref a) (.ref s.heap.objs.size)) _ _ _;have key:=Uk (A:=A) (s:={ s with heap:=s.heap.push { cls:=.type "list",data:=.seq ([]:List Value).toArray } })
  (R:=fun(q:Result) (s':Shared)=>∃(h':Heap) (d:Drawn) (tk:Nat) (acc:Array Value) (c':Nat),q=.ok (.ret (.ref s.heap.objs.size))/\s'={ s with heap:=h',drawn:=d,toks:=tk }/\
   (∀b o,s.heap.get? b=some o->h'.get? b=some o)/\h'.get? s.heap.objs.size=some { cls:=.type "list",dict:=none,data:=.seq acc c',slots:=#[] }/\acc.toList.Perm (es.toList.map (·.2)))
  (T.kept fun o e=>ao _ e) hh s.heap.objs.size (eu fI) (.ref s.heap.objs.size) 0 Hx
  (fun h' d tk acc c' hk vd lP=>⟨h',d,tk,acc,c',rfl,rfl,fun b o e=>hk b o (aG (aB e)) (ao _ e),vd,lP⟩)
 refine cN key (fun fin s' x=>?_) fun e s' x=>?_
 ·cases fin with
  | done f=>
   obtain⟨h',d,tk,acc,c',e,rfl,hk,vd,lP⟩:=x;cases e;show wpAny _ A (load s.heap.objs.size >>= _) _ _ _;exact aa (wpAny_load vd (aq (h h' d tk acc.toList (aB vd) hk lP)))
  | again c1=>
   refine⟨x.1,codeAny_mono x.2 fun q s2 y=>?_⟩;obtain⟨h',d,tk,acc,c',rfl,rfl,hk,vd,lP⟩:=y;show wpAny _ A (load s.heap.objs.size >>= _) _ _ _;exact aa (wpAny_load vd (aq (h h' d tk acc.toList (aB vd) hk lP)))
 ·obtain⟨_,_,_,_,_,e',_⟩:=x;cases e'
theorem KO:∀{vs:List Value},(∀v∈vs,∃x t,v=.str x t)->StrsAre vs (vs.map strOf)
 | [],_=>.nil
 | v::r,h=>by
  obtain⟨x,t,rfl⟩:=h v (by simp);exact .cons x t (KO fun u hu=>h u (by simp[hu]))
theorem Uj{a:Addr}{es:Array (Int×Value)}{ep:Nat}{t:SetTable}{Q:Value->Shared->Prop}(T:fN prog w s.heap a es ep t)(hh:A.handled=none)(DD:es.size<64)
  (h:∀(p:Addr) (h':Heap) (d:Drawn) (tk:Nat) (out:Array Value) (e:Nat) (ss:List Str),s.heap.objs.size<=p->(∀b o,s.heap.get? b=some o->h'.get? b=some o)->h'.get? p=some (seqObj "list" out e)->StrsAre out.toList ss->ss.Perm (keysOf es)->sortedS ss=true->Q (.ref p) { s with heap:=h',drawn:=d,toks:=tk }) :
  wpAny (model prog w) A (call (.builtin "sorted") [.ref a]) Q E s:=by
 refine Calls.call_function_entry kind_sorted plain_sorted entry_sorted (args_sorted1 _) ?_;unfold Builtin.«sorted»;refine aa (m:=checkCount "sorted" 1 1 _) (aq (aa (Vn (A:=A.in1) T hh fun h' d tk vs fI hk hp=>?_)));have Mj:vs.length=es.size:=by rw[hp.length_eq];simp
 have Ym:∀v∈vs,∃x t,v=.str x t:=fun v hv=>by
  obtain⟨e,he,rfl⟩:=aK.mp (hp.mem_iff.mp hv);obtain⟨⟨k,hk,_⟩,_⟩:=T.el e he;obtain⟨t,ht⟩:=Value.isStrOf_shape hk;exact⟨k,t,ht⟩
 have hS:=KO Ym;refine aa (wpAny_newList ?_ (by rw[Mj];exact fits_of_scanBound T.small));have we:(h'.push (seqObj "list" vs.toArray 0)).get? h'.objs.size=some (seqObj "list" vs.toArray 0):=aD _ rfl;refine aa (bL (dR slot_list_sort ⟨_,we,rfl⟩ entry_list_sort (list_sort_treeK (s:={ s with heap:=h'.push (seqObj "list" vs.toArray 0),drawn:=d,toks:=tk }) strKind_oneLt we hS.keysOf (fun v1 v2 rest e=>keyKind_strs (by rw[<-e];exact hS)) (by omega) fun eX a1 a2=>⟨_,rfl,?_⟩) (args_list_sort _)));obtain⟨l9,b1,b2,b3⟩:=sorted_out_str hS a1 a2;obtain⟨en,YU⟩:=sortedHeap_at (out:=(arrOf eX).map (·.2)) we;have hle:s.heap.objs.size<=h'.objs.size:=Nat.le_of_lt fI;refine aq ⟨_,rfl,h _ _ d tk _ en l9 hle (fun b o e=>?_) YU b1 (b2.trans ?_) b3⟩
 ·have e1:=hk b o e;have hb:b<h'.objs.size:=aB e1;rw[sortedHeap_old (aG hb) (by rw[size_push'];exact cq hb)];exact ao _ e1
 ·have:=hp.map strOf;rw[a9] at this;exact this
theorem Inv.draw{X:Cx}{Z8:List (Addr×Obj)}{σ:St}{H:Hp}{s:Shared}(I:Inv X Z8 σ H s)(d:Drawn):Inv X Z8 σ H { s with drawn:=d }:=
 ⟨I.ok,I.os,I.bare,I.base,I.loc,I.cell,I.free,I.jG,I.pin,I.fR,I.len⟩
end
section
variable {X:Cx} {pos:Pos} {e:Expr} {te:TD} {ts:lq} {t:TA}
def Sn(K:Z9)(t:TA):TE:=fun σ H Q=>t σ H fun vs H1=>∃(p:Addr) (ss:List Str),vs=[.ref p]/\gT K H1 p (ss.map V.str)/\ss.length<4000/\(∀l:List Str,l.Nodup->(∀x∈l,x∈ss)->l.length<64)/\
 ∀l:List Str,l.Nodup->(∀x,x∈l↔x∈ss)->sortedS l=true->∀q,H1 q=none->Q (.ref q) (upd H1 q (.lst (l.map V.str)))
theorem Ui{p1 p2 lg:Pos}(hc:X.calm=true)(u7:X.mg "sorted"=none)(oE:X.mg "set"=none)(ha:PA X [e] t)(BG:Gl X "sorted":=by rfl)(va:Gl X "set":=by rfl)
  (he:starEach [e] X.env=(false,eval e X.env)::starEach [] X.env:=by rfl) (xV:starEach [.Call (.Name "set" p2) [e] [] lg] X.env=(false,eval (.Call (.Name "set" p2) [e] [] lg) X.env)::starEach [] X.env:=by rfl) :
  PE X (.Call (.Name "sorted" p1) [.Call (.Name "set" p2) [e] [] lg] [] pos) (Sn X.K t):=by
 intro Z8 s σ H Q I h;refine dY (vJ I BG u7 boot_sorted ?_ (by decide) (by decide));refine PyProof.Rows.callWith_builtin1 ?_ xV rfl;rw[xV];show wpAny _ _ (spliced ((false,eval (.Call (.Name "set" p2) [e] [] lg) X.env)::backTo pos (starEach [] X.env))) _ _ s;refine Calls.spliced_cons ?_;refine dY (vJ I va oE KW ?_ (by decide) (by decide));refine cT (fM (ha lg Z8 s σ H _ I h) fun us s1 fh=>?_) he rfl;obtain⟨vs,H1,I1,r1,q1⟩:=fh;obtain⟨p,ss,rfl,hq,hn,DD,q⟩:=q1;obtain⟨u,rfl,ru⟩:=mL r1;cases ru;obtain⟨its,rv,pl,hz⟩:=I1.list hq;have hS:=Lj rv;refine TJ (I1.ok.hd hc) pl.isList hS (by have:scanBound=4096:=rfl;omega) fun h1 De es ep tb T Hd MF=>?_
 have I2:Inv X Z8 σ H1 { s1 with heap:=h1,toks:=De }:=I1.kept fun b o e=>MF b o (aB e) e
 refine Calls.spliced_nil ?_;have hsz:es.size<64:=by
  have:=DD (keysOf es) Hd.nd fun x hx=>(Hd.mem x).mp hx
  simpa[keysOf] using this
 refine Uj (s:={ s1 with heap:=h1,toks:=De }) T (I1.ok.hd hc) hsz fun pp h2 d Xy out en A3 hp wu mM Yt wd Yu=>?_
 have wg:A3.Nodup:=wd.nodup_iff.mpr Hd.nd;have Dv:A3.length<64:=by rw[wd.length_eq];simpa[keysOf] using hsz
 have hf:H1 pp=none:=I2.fR.fresh hp;refine⟨.ref pp,upd H1 pp (.lst (A3.map V.str)),?_,rfl,q A3 wg (fun x=>by rw[wd.mem_iff];exact Hd.mem x) Yu pp hf⟩;have I3:=Inv.laid (t':=Xy) (Inv.draw I2 d) (h':=h2) (a:=pp) (o:=.lst (A3.map V.str)) wu hp ?_
 ·exact I3
 ·refine⟨by rw[ae];have:=EX;omega,out.toList,en,Fq Yt,?_⟩;rw[ez];exact mM
theorem VE{p1 p2 lg:Pos}(hc:X.calm=true)(u7:X.mg "sorted"=none)(oE:X.mg "set"=none)(ha:oJ X [e] ts)(BG:Gl X "sorted":=by rfl)(va:Gl X "set":=by rfl)
  (he:starEach [e] X.env=(false,eval e X.env)::starEach [] X.env:=by rfl) (xV:starEach [.Call (.Name "set" p2) [e] [] lg] X.env=(false,eval (.Call (.Name "set" p2) [e] [] lg) X.env)::starEach [] X.env:=by rfl) :
  PD X (.Call (.Name "sorted" p1) [.Call (.Name "set" p2) [e] [] lg] [] pos) (gV C4 ts):=by
 obtain⟨t,pp,q⟩:=ha;refine⟨_,Ui hc u7 oE pp BG va he xV,fun ρ σ G0 H0 G H Q P E h k=>q ρ σ G0 H0 G H _ _ E h fun vs H' ds G' x rs hq=>?_⟩;unfold C4 at hq;split at hq
 ·split at hq
  ·rename_i es ss hs;obtain⟨v,rfl,rv⟩:=mR rs;simp only[Rep] at rv;obtain⟨a,xs,rfl,h1,h2⟩:=rv;rw[Fy hs] at h2;rw[EW h2] at h1;refine⟨a,ss,rfl,(x.s.iF h1).sq,hq.1,hq.2.1,fun l nd hm so=>?_⟩;exact uJ x.s (KY l) (hq.2.2 l nd hm so) fun v H2 r G2 x2 rr qq=>k v H2 r G2 (x.trans x2) (rr.iX x.h) qq
  ·exact hq.elim
 ·exact hq.elim
end
section
variable {X:Cx} {pos:Pos} {e i':Expr} {te ti:TD}
def CA(i:Nat):TX:=fun D ρ=>match gt ρ i with
 | .ow _=>D.nx (ρ.set i (.ow []))
 | _=>False
theorem Sm(i:Nat){x:Str}{p1 p2 pos':Pos}(hN:X.N[i]?=some x:=by rfl)(hv:nV X.env.scope x:=by first | exact Or.inl rfl | exact Or.inr (Or.inl rfl) | exact Or.inr (Or.inr rfl))(hd:(x==("__debug__":Str))=false:=by decide)(iS:(x==("__classdict__":Str))=false:=by decide)
  (hb:∀{ta:TE},PE X (.Name x p1) ta->PE X (.Call (.Attribute (.Name x p1) "clear" p2) [] [] pos') (D3 X.K "list" ID ta):=by intro ta h1;exact IE cP PySem.F.slot_list_clear PySem.F.type_list_clear R1 h1) :
  PX X (.Expr (.Call (.Attribute (.Name x p1) "clear" p2) [] [] pos') pos) (CA i):=by
 refine⟨_,yH (hb (pE hN hv hd iS)),fun ρ σ G0 H0 G H D E k h g=>?_⟩;unfold CA at h;split at h
 ·rename_i ds hg;obtain⟨a,xs,h1,h2,h3,h4,h5⟩:=k.ow i ds hg;exact⟨_,h1,.inl ⟨rfl,xs,gT.of h2⟩,a,xs,rfl,rfl,h2,g.nx _ _ G _ (e8.refl _) (k.change hg h1 eQ.nil) h⟩
 ·exact h.elim
def yK(i:Nat):TX:=fun D ρ=>match gt ρ i with
 | .ow ds=>D.nx (ρ.set i (.ow ds.reverse))
 | _=>False
theorem Uh(i:Nat){x:Str}{p1 p2 pos':Pos}(hN:X.N[i]?=some x:=by rfl)(hv:nV X.env.scope x:=by first | exact Or.inl rfl | exact Or.inr (Or.inl rfl) | exact Or.inr (Or.inr rfl))(hd:(x==("__debug__":Str))=false:=by decide)(iS:(x==("__classdict__":Str))=false:=by decide)
  (hb:∀{ta:TE},PE X (.Name x p1) ta->PE X (.Call (.Attribute (.Name x p1) "reverse" p2) [] [] pos') (D3 X.K "list" Kb ta):=by intro ta h1;exact IE cP PySem.F.slot_list_reverse PySem.F.type_list_reverse UZ h1) :
  PX X (.Expr (.Call (.Attribute (.Name x p1) "reverse" p2) [] [] pos') pos) (yK i):=by
 refine⟨_,yH (hb (pE hN hv hd iS)),fun ρ σ G0 H0 G H D E k h g=>?_⟩;unfold yK at h;split at h
 ·rename_i ds hg;obtain⟨a,xs,h1,h2,h3,h4,h5⟩:=k.ow i ds hg;exact⟨_,h1,.inl ⟨rfl,xs,gT.of h2⟩,a,xs,rfl,rfl,h2,g.nx _ _ G _ (e8.refl _) (k.change hg h1 h5.reverse) h⟩
 ·exact h.elim
def wM(i:Nat)(te:TD):TX:=fun D ρ=>match gt ρ i with
 | .ow ds=>te ρ fun r=>match r with
  | .ow es=>ds.length+es.length<=sizeLine/\D.nx (ρ.set i (.ow (ds++es)))
  | _=>False
 | _=>False
theorem Ex(i:Nat){x:Str}{p1 p2 pos':Pos}(he:PD X e te)(hN:X.N[i]?=some x:=by rfl)(hv:nV X.env.scope x:=by first | exact Or.inl rfl | exact Or.inr (Or.inl rfl) | exact Or.inr (Or.inr rfl))(hd:(x==("__debug__":Str))=false:=by decide)(iS:(x==("__classdict__":Str))=false:=by decide)
  (jv:starEach [e] X.env=(false,eval e X.env)::starEach [] X.env:=by rfl)
  (hb:∀{ta:TE} {t:TA},PE X (.Name x p1) ta->PA X [e] t->PE X (.Call (.Attribute (.Name x p1) "extend" p2) [e] [] pos') (Df X.K "list" JP ta t):=by intro ta t h1 h2;exact Cg cP PySem.F.slot_list_extend PySem.F.type_list_extend UN h1 h2) :
  PX X (.Expr (.Call (.Attribute (.Name x p1) "extend" p2) [e] [] pos') pos) (wM i te):=by
 obtain⟨t,p,q⟩:=he;refine⟨_,yH (hb (pE hN hv hd iS) (rN p t7 jv)),fun ρ σ G0 H0 G H D E k h g=>?_⟩;unfold wM at h;split at h
 ·rename_i ds hg;obtain⟨a,xs,h1,h2,h3,h4,h5⟩:=k.ow i ds hg;refine⟨_,h1,.inl ⟨rfl,xs,gT.of h2⟩,q ρ σ G0 H0 G H _ _ k h fun v H' r G' x1 rr hq=>?_⟩;split at hq
  ·rename_i es;obtain⟨b,zs,rfl,b1,b2,b3,b4⟩:=rr;have k2:=k.ext x1;refine⟨a,b,xs,zs,rfl,rfl,x1.h _ _ h2,b3,by rw[h5.length,b4.length];exact hq.1,?_⟩;exact g.nx _ _ G' _ x1.g (k2.change hg h1 ((h5.mono x1.g).append b4)) hq.2
  ·exact hq.elim
 ·exact h.elim
def vA(i:Nat)(ti te:TD):TX:=fun D ρ=>match gt ρ i with
 | .ow ds=>te ρ fun r=>ti ρ fun rk=>match rk.val with
  | .int k=>∃j,qD ds.length k=some j/\D.nx (ρ.set i (.ow (ds.set j r.val)))
  | _=>False
 | _=>False
theorem Kr(i:Nat){x:Str}{p1 p2:Pos}(hi:PD X i' ti)(he:PD X e te)(hN:X.N[i]?=some x:=by rfl)(hv:nV X.env.scope x:=by first | exact Or.inl rfl | exact Or.inr (Or.inl rfl) | exact Or.inr (Or.inr rfl))(hd:(x==("__debug__":Str))=false:=by decide)(iS:(x==("__classdict__":Str))=false:=by decide)
  (ha:∀v,assign (.Subscript (.Name x p1) i' p2) X.env v=(do
   let ov <-holding [v] (eval (.Name x p1) X.env)
   let iv <-holding [v,ov] (eval i' X.env)
   standAt p2
   holding [v,ov,iv] (setItem ov iv v)
   release [v,ov,iv] []):=by intro _;rfl)
  (hs:swapsWithSole [.Subscript (.Name x p1) i' p2] e pos.line X.env=pure false:=by rfl) (hw:swappedStores [.Subscript (.Name x p1) i' p2] e X.env=pure none:=by rfl)
  (h1:(assignEach [.Subscript (.Name x p1) i' p2] X.env).map (·.2)=[assign (.Subscript (.Name x p1) i' p2) X.env]:=by rfl) :
  PX X (.Assign [.Subscript (.Name x p1) i' p2] e pos) (vA i ti te):=by
 obtain⟨t,p,q⟩:=he;obtain⟨t2,A5,q2⟩:=hi;refine⟨_,IL p (P2 (pE hN hv hd iS) A5 R3 ha) hs hw h1,fun ρ σ G0 H0 G H D E k h g=>?_⟩;unfold vA at h;split at h
 ·rename_i ds hg;obtain⟨a,xs,h1,h2,h3,h4,h5⟩:=k.ow i ds hg;refine q ρ σ G0 H0 G H _ _ k h fun v H' r G' x1 rr hq=>?_
  obtain⟨G2,x2,rv,_⟩:=rr.freeze x1;refine⟨_,h1,q2 ρ σ G0 H0 G2 H' _ _ (k.ext x2) hq fun u H3 rk G3 x3 qU hJ=>?_⟩;obtain⟨G4,x4,sL,_⟩:=qU.freeze x3;split at hJ
  ·rename_i kk e1;obtain⟨j,hj,hJ⟩:=hJ;rw[e1] at sL;simp only[Rep] at sL;have lE:=x2.trans x4;refine⟨a,xs,kk,j,rfl,sL,lE.h _ _ h2,by rw[h5.length];exact hj,?_⟩;exact g.nx _ _ G4 _ lE.g ((k.ext lE).change hg h1 ((h5.mono lE.g).set j (rv.mono x4.g))) hJ
  ·exact hJ.elim
 ·exact h.elim
def zQ:TX:=fun _ _=>False
theorem CT{st:Stmt}:PX X st zQ:=⟨_,SU,fun _ _ _ _ _ _ _ _ _ h _=>h.elim⟩
end
section
variable {κ:Type} [DecidableEq κ]
noncomputable def rF(kvs:List (κ×V))(k:κ):Option V:=(kvs.find? fun kv=>decide (kv.1=k)).map (·.2)
noncomputable def uy(kvs:List (κ×V))(k:κ)(v:V):List (κ×V):=
 if (kvs.any fun kv=>decide (kv.1=k))=true then kvs.map (fun kv=>if kv.1=k then(kv.1,v) else kv) else kvs++[(k,v)]
theorem Sk{p:κ×V}{r:List (κ×V)}{k:κ}(e:p.1=k):rF (p::r) k=some p.2:=by simp[rF,bW,e]
theorem Sj{p:κ×V}{r:List (κ×V)}{k:κ}(e:¬p.1=k):rF (p::r) k=rF r k:=by simp[rF,bW,e]
theorem Vm(kvs:List (κ×V))(k:κ)(v:V):(uy kvs k v).length<=kvs.length+1:=by
 unfold uy;split
 ·rw[ae];omega
 ·rw[au,aE,cx];omega
theorem mv.qY{o:Option V}{u:Option Value}(r:mv o u):o.isSome=u.isSome:=by
 cases o with
 | none=>cases u with
  | none=>rfl
  | some _=>exact(show False from r).elim
 | some _=>cases u with
  | none=>exact(show False from r).elim
  | some _=>rfl
theorem KV.val{kvs:List (κ×V)}{vs:List (κ×Value)}(r:KV kvs vs)(k:κ):mv (rF kvs k) (valueAt vs k):=by
 unfold KV at r;induction r with
 | nil=>exact True.intro
 | @cons p q ps qs h t ih=>
  obtain⟨h1,h2⟩:=h;by_cases e:p.1=k
  ·have e':q.1=k:=h1.symm.trans e;have b:valueAt (q::qs) k=some q.2:=by simp[valueAt,bW,e']
   rw[Sk e,b];exact h2
  ·have e':¬q.1=k:=fun z=>e (h1.trans z)
   have b:valueAt (q::qs) k=valueAt qs k:=by simp[valueAt,bW,e']
   rw[Sj e,b];exact ih
theorem KV.any{kvs:List (κ×V)}{vs:List (κ×Value)}(r:KV kvs vs)(k:κ):(kvs.any fun kv=>decide (kv.1=k))=vs.any fun kv=>decide (kv.1=k):=by
 unfold KV at r;induction r with
 | nil=>rfl
 | cons h t ih=>rw[dh,dh,ih,h.1]
theorem KV.uQ{kvs:List (κ×V)}{vs:List (κ×Value)}(r:KV kvs vs)(k:κ){y:V}{u:Value}(ry:RelV y u) :
  KV (kvs.map fun kv=>if kv.1=k then(kv.1,y) else kv) (vs.map fun kv=>if kv.1=k then(kv.1,u) else kv):=by
 unfold KV at r ⊢;induction r with
 | nil=>exact .nil
 | @cons p q ps qs h t ih=>
  rw[aA,aA];refine .cons ?_ ih;obtain⟨h1,h2⟩:=h;by_cases e:p.1=k
  ·rw[if_pos e,if_pos (h1.symm.trans e)];exact⟨h1,ry⟩
  ·rw[if_neg e,if_neg (fun z=>e (h1.trans z))];exact⟨h1,h2⟩
theorem KV.put{kvs:List (κ×V)}{vs:List (κ×Value)}(r:KV kvs vs)(k:κ){y:V}{u:Value}(ry:RelV y u):KV (uy kvs k y) (stored vs k u):=by
 unfold uy stored;rw[r.any k];by_cases e:(vs.any fun kv=>decide (kv.1=k))=true
 ·rw[if_pos e,if_pos e];exact r.uQ k ry
 ·rw[if_neg e,if_neg e];exact Paired.snoc r ⟨rfl,ry⟩
theorem KV.keys{kvs:List (κ×V)}{vs:List (κ×Value)}(r:KV kvs vs):kvs.map (·.1)=vs.map (·.1):=by
 unfold KV at r;induction r with
 | nil=>rfl
 | cons h t ih=>rw[aA,aA,ih,h.1]
theorem KV.length{kvs:List (κ×V)}{vs:List (κ×Value)}(r:KV kvs vs):kvs.length=vs.length:=Paired.length r
end
theorem Cm{P:Program}{w:World}{k:Key}{u:Value}(r:RelV (kV k) u):(pO P w).is k u=true:=by
 cases k with
 | inl i=>obtain⟨t,e⟩:=(show ∃t,u=Value.int i t from r);subst e;exact U6 P w i t
 | inr x=>obtain⟨t,e⟩:=(show ∃t,u=Value.str x t from r);subst e;exact U5 P w x t
def B5(i:Expr):Prop:=∀ov iv,subscripted i false ov iv=operate [ov,iv] (getItem ov iv)
theorem QU{prog:Program}{w:World}{A:Around}{E:Value->Shared->Prop}{s:Shared}{env:Env}{value slice:Expr}{pos:Pos}{T id:String}{Q:Value->Shared->Prop}
  (hl:typeLookup (.type T) "__getitem__"=pure (some (.builtin id))) (hs:B5 slice)
  (h:wpAny (model prog w) A (eval value env) (fun o fw=>wpAny (model prog w) A (eval slice env) (fun i kd=>kd.TypeIs o T/\wpAny (model prog w) A (getItem o i) Q E kd) E fw) E s) :
  wpAny (model prog w) A (eval (.Subscript value slice pos) env) Q E s:=by
 refine Subscript_ (cN h (fun o fw lj=>cN lj (fun i kd sV=>?_) fun _ _ x=>x) fun _ _ x=>x);obtain⟨hT,sV⟩:=sV;unfold subscriptTail;refine aa ?_;rw[getitemInPython_of_ne hT.not_modules];refine aa (wpAny_specialOf hT hl ?_);have fin:wpAny (model prog w) A (subscripted slice false o i) (fun r oX=>wpAny (model prog w) A (letTemporaryGo value o r >>= fun _=>pure r) Q E oX) E kd:=by
  rw[hs o i];exact wpAny_operating (cN sV (fun r oX uU=>aa (wpAny_letTemporaryGo (aq uU))) fun _ _ x=>x)
 first
  | exact aq (aa fin)
  | exact aa (aq (aa fin))
  | exact aa fin
structure M2 (X:Cx) (o:Expr) (m:Str) (apos:Pos) (e f:Expr) (kg:Pos):Prop where
 base:attributeBase o m X.env (eval o X.env)=eval o X.env
 ZY:((backTo kg (starEach [e,f] X.env)).all (fun x=>!x.1)&&(backToKw kg (keywordEach [] X.env)).all (fun x=>x.1.isSome)
  && decide (([e,f]:List Expr).length+([]:List Keyword).length+(if ([]:List Keyword).isEmpty then 0 else 1)<30))=true
 line:(apos.endLine==kg.line)=true
 trees:backTo kg (starEach [e,f] X.env)=[(false,eval e X.env),(false,eval f X.env)]
section
variable {P:Program} {w:World} {H:Hp} {h:Heap} {a:Addr}
theorem Oc{kvs:List (Key×V)}{ep:Nat}(ok:lA P w H h)(e:Rd H a (.dK kvs ep)):kvs.length<=sizeLine/\(a==sysModules)=false/\∃vs,KV kvs vs/\h.DictAt (pO P w) a vs ep:=
 show gi P w H h a (.dK kvs ep) from e.ok ok
theorem zK{kvs:List (Key×V)}{ep:Nat}(ok:lA P w H h)(e:Rd H a (.dK kvs ep)):kvs.length<=sizeLine/\(a==sysModules)=false/\∃vs,KV kvs vs/\h.DictOf (pO P w) a vs:=
 let⟨z1,z2,vs,z3,z4⟩:=Oc ok e
 ⟨z1,z2,vs,z3,z4.dictOf⟩
theorem Ir{kvs:List (Key×V)}{ep:Nat}(ok:lA P w H h)(e:H a=some (.dK kvs ep)):kvs.length<=sizeLine/\(a==sysModules)=false/\∃vs,KV kvs vs/\h.DictOf (pO P w) a vs:=zK ok (.inl e)
end
def n8(H:Hp)(a:Addr)(y:V)(r:Option V):Prop:=∃kvs ep k,Rd H a (.dK kvs ep)/\y=kV k/\r=rF kvs k
theorem n8.k{H:Hp}{a:Addr}{kvs:List (Key×V)}{ep:Nat}{k:Key}(e:H a=some (.dK kvs ep)):n8 H a (kV k) (rF kvs k):=⟨kvs,ep,k,.inl e,rfl,rfl⟩
section
variable {X:Cx} {Z8:List (Addr×Obj)} {σ:St} {H:Hp} {s:Shared} {a:Addr} {y v:V} {u r:Value} {o:Option V} {A:Around} {E:Value->Shared->Prop}
theorem Inv.big(I:Inv X Z8 σ H s):sysModules<s.heap.objs.size:=by
 have h:mainGlobals<s.heap.objs.size:=(I.mod.glob.keeps I.bk).lt;exact Nat.lt_trans (by decide) h
theorem TC{Q:Value->Shared->Prop}(I:Inv X Z8 σ H s)(g:n8 H a y (some v))(ry:RelV y u)(h:∀w' s',Inv X Z8 σ H s'->RelV v w'->Q w' s'):wpAny (model X.prog X.w) A (getItem (.ref a) u) Q E s:=by
 obtain⟨kvs,ep,k,e,ey,l⟩:=g;subst ey;obtain⟨z,hd,vs,rel,dd⟩:=zK I.fR e;obtain⟨w',hw,pJ⟩:=mv.some_of (v:=v) (o:=valueAt vs k) (by rw[l];exact rel.val k);exact wpAny_getItem_of (Cm ry) dd.mapOf hw (h w' _ (I.tok _) pJ)
theorem QT{Q:Value->Shared->Prop}(I:Inv X Z8 σ H s)(g:n8 H a y o)(ry:RelV y u)(h:∀s',Inv X Z8 σ H s'->Q (.bool (!o.isSome)) s'):wpAny (model X.prog X.w) A (compareOp .NotIn u (.ref a)) Q E s:=by
 obtain⟨kvs,ep,k,e,ey,l⟩:=g;subst ey;obtain⟨z,hd,vs,rel,dd⟩:=zK I.fR e;refine wpAny_notIn_of (Cm ry) hd dd.mapOf ?_;rw[<-(rel.val k).qY,<-l];exact h _ (I.tok _)
theorem QS{h':Heap}{t':Nat}{ob:HO}(I:Inv X Z8 σ H s)(mu:B0 (H a))(hs:Heap.SameBut a s.heap h')(he:∃q,h'.get? a=some q)(new:gi X.prog X.w (upd H a ob) h' a ob) :
  Inv X Z8 σ (upd H a ob) { s with heap:=h',toks:=t' }:=
 I.write (x:=a) (e:=a) mu (.inl rfl) (fun b q hb z=>(hs.2 b hb).trans z) he new
theorem Iq{P:Program}{w:World}{h':Heap}{vs:List (Key×Value)}(dd:h'.DictOf (pO P w) a vs):∃ep,h'.DictAt (pO P w) a vs ep:=let⟨o,es,ep,r⟩:=dd;⟨ep,o,es,r⟩
theorem Jc{P:Program}{w:World}{H':Hp}{h':Heap}{kvs:List (Key×V)}{vs:List (Key×Value)}{ep:Nat}(z:kvs.length<=sizeLine)(hd:(a==sysModules)=false)(rel:KV kvs vs)(dd:h'.DictAt (pO P w) a vs ep) :
  gi P w H' h' a (.dK kvs ep):=⟨z,hd,vs,rel,dd⟩
theorem TB{kvs:List (Key×V)}{ep:Nat}{k:Key}{Q:Unit->Shared->Prop}(I:Inv X Z8 σ H s)(e:H a=some (.dK kvs ep))(l:kvs.length<sizeLine)(ry:RelV (kV k) u)(rv:RelV v r)(h:∀s' nR,Inv X Z8 σ (upd H a (.dK (uy kvs k v) nR)) s'->Q () s') :
  wpAny (model X.prog X.w) A (setItem (.ref a) u r) Q E s:=by
 obtain⟨z,hd,vs,rel,dd⟩:=Ir I.fR e;have hz:vs.length<=sizeLine:=by rw[<-rel.length];exact z
 have hl:(uy kvs k v).length<=sizeLine:=by have:=Vm kvs k v;omega
 refine wpAny_setItem_pairs (hsz:=hz) (Cm ry) dd fun h' M9 hs=>?_
 have he:∃q,h'.get? a=some q:=let⟨q,_,_,hq,_⟩:=M9;⟨q,hq⟩
 obtain⟨nR,da⟩:=Iq M9;exact h _ nR (QS I (by rw[e];exact True.intro) hs he (Jc hl hd (rel.put k rv) da))
end
def Ob(td ty:TE):TE:=fun σ H Q=>td σ H fun x H1=>ty σ H1 fun y H2=>∃a v,x=.ref a/\n8 H2 a y (some v)/\Q v H2
def Oa(td ty tv:TE):TS:=fun D σ H=>tv σ H fun v H1=>td σ H1 fun x H2=>ty σ H2 fun y H3=>∃a kvs ep k,x=.ref a/\H3 a=some (.dK kvs ep)/\y=kV k/\kvs.length<sizeLine/\∀nR,D.nx σ (upd H3 a (.dK (uy kvs k v) nR))
def Zw(H:Hp)(a:Addr):Prop:=∃kvs ep,Rd H a (.dK kvs ep)
theorem OD{X:Cx}{Z8:List (Addr×Obj)}{σ:St}{H:Hp}{s:Shared}{a:Addr}(I:Inv X Z8 σ H s)(d:Zw H a) :
  s.TypeIs (.ref a) "dict"/\(∀b,Value.ref a=.ref b->∃ob,s.heap.get? b=some ob/\ob.dict=none)/\(a==sysModules)=false:=by
 obtain⟨kvs,ep,e⟩:=d;obtain⟨_,hd,vs,_,dd⟩:=zK I.fR e;refine⟨dd.typeIs,fun b q=>?_,hd⟩;cases q;obtain⟨ob,_,_,h1,h2,_⟩:=dd;exact⟨ob,h1,h2.2.1⟩
section
variable {X:Cx} {o i e value:Expr} {pos pos' sD:Pos} {td ty tv:TE}
theorem JB(ho:PE X o td)(hi:PE X i ty)(hs:B5 i):PE X (.Subscript o i pos) (Ob td ty):=by
 intro Z8 s σ H Q I h;refine QU PySem.F.slot_dict_getitem.lookup hs (fM (ho Z8 s σ H _ I h) fun u s1 fh=>?_);obtain⟨x,H1,I1,rx,q1⟩:=fh;refine fM (hi Z8 s1 σ H1 _ I1 q1) fun iv s2 fh=>?_
 obtain⟨y,H2,I2,ry,a,v,ex,g,q2⟩:=fh;subst ex;obtain rfl:u=Value.ref a:=rx;obtain⟨kvs,ep,k,e,_⟩:=id g;exact⟨(OD I2 ⟨kvs,ep,e⟩).1,TC I2 g ry fun w' s' I' r'=>⟨v,H2,I',r',q2⟩⟩
theorem QR(ho:PE X o td)(hi:PE X i ty)(hv:PE X value tv)(hs:swapsWith value (some (.Subscript o i pos')) pos.line X.env=pure false) :
  PS X (.Assign [.Subscript o i pos'] value pos) (Oa td ty tv):=by
 intro Z8 s σ H D I h;refine wpAny_Assign_Subscript (fM (hv Z8 s σ H _ I h) fun r s1 fh=>?_) hs;obtain⟨v,H1,I1,rv,q1⟩:=fh;refine fM (ho Z8 s1 σ H1 _ I1 q1) fun u s2 fh=>?_
 obtain⟨x,H2,I2,rx,q2⟩:=fh;refine fM (hi Z8 s2 σ H2 _ I2 q2) fun iv s3 fh=>?_
 obtain⟨y,H3,I3,ry,a,kvs,ep,k,ex,g,ey,l,q3⟩:=fh;subst ex ey;obtain rfl:u=Value.ref a:=rx;exact TB I3 g l ry rv fun s4 nR I4=>⟨σ,_,I4,q3 nR⟩
theorem Si{P:Program}{w:World}{H:Hp}(h:Heap)(hb:sysModules<h.objs.size):gi P w H (h.push { cls:=.type "dict",data:=.dict #[] }) h.objs.size (.dK [] 0):=
 ⟨aL _,c7.mpr (Ne.symm (aG hb)),[],.nil,_,#[],aD _ rfl,⟨rfl,rfl,rfl⟩,rfl,fun _ he=>by simp at he,Pairs.nil,List.nodup_nil⟩
def OC:TE:=fun _ H Q=>∀p,H p=none->Q (.ref p) (upd H p (.dK [] 0))
theorem Sh:PE X (.Dict [] [] pos) OC:=fun Z8 s σ H Q I h=>
 wpAny_Dict_empty ⟨.ref s.heap.objs.size,_,I.laid (a:=s.heap.objs.size) (o:=.dK [] 0) (t':=s.toks) (fun _ _ q=>ao _ q) (az _) (Si s.heap I.big),rfl,h _ (I.fR.fresh (az _))⟩
end
section
variable {X:Cx} {o e f:Expr} {apos kg:Pos} {td ty tx:TE}
theorem Tz:fO X (.builtin "len") (fun xs H Q=>∃a kvs ep,xs=[V.ref a]/\H a=some (.dK kvs ep)/\Q (.int kvs.length) H):=by
 intro Z8 s σ H xs us Q I r h;obtain⟨a,kvs,ep,rfl,ha,q⟩:=h;obtain⟨u,rfl,ru⟩:=mL r;cases ru;obtain⟨z,hd,vs,rel,dd⟩:=zK I.fR (.inl ha);refine call_len_dict hd dd (by rw[<-rel.length];rw[sizeLine_eq] at z;omega) ?_;rw[<-rel.length];exact⟨.int kvs.length,H,I.tok _,⟨_,rfl⟩,q⟩
end
end L2
namespace PySem
open Sem (wp)
theorem VD:typeLookup (.type "list") "keys"=pure none:=by rw[typeLookup_type,builtinLookup_eq_fast];kernel_rfl
theorem W8{prog:Program}{w:World}{A:Around}{E:Value->Shared->Prop}{s:Shared}{a:Addr}{o:Obj}{xs:Array Value}{k:Nat}{name:Str}{Q:Option Value->Shared->Prop}
  (hx:s.heap.get? a=some o) (hc:o.cls=.type "list") (BL:o.data=.seq xs k) (hd:o.dict=none) (Br:typeLookup (.type "list") name=pure none) (Bq:(["__module__","__name__","__qualname__","__doc__","__annotations__"]:List Str).contains name=false) (hA:A.handled=none)
  (h:∀h' tk e,Heap.NewExcOf s.heap h' e "AttributeError"->Q none { s with heap:=h',toks:=tk }) (hsz:name.length+100<=sizeLine:=by size_fits) :
  wpAny (model prog w) A (getAttr? (.ref a) name) Q E s:=by
 obtain⟨c,Z4,dat,sl⟩:=o;simp only at hc BL hd;subst hc BL hd;obtain⟨hp,g,d,tk,os⟩:=s;have hT:∀rS,(⟨hp,g,d,rS,os⟩:Shared).TypeIs (.ref a) "list":=fun _=>⟨_,hx,rfl⟩
 have f1:=sub_AttributeError;have f3:=F.slot_list_getattribute.lookup;have f4:=F.slot_list_getattribute.bind (.ref a);have f5:=am_list_getattr_none;unfold getAttr? getAttrBy? getAttrBy;repeat(any_goals (first | assumption | exact hT _ | ((with_reducible show wpAny _ _ (call (Value.builtin "list.__getattribute__") _ _) _ _ _);refine call_meets F.slot_list_getattribute (hT _) am_entry_list_getattribute (F.args_list_getattribute_2 _ _) (meets_getattribute_miss_list a xs k sl name _ Br Bq hsz) ⟨hx,hA,fun h' rS e m8=>?_⟩) | wp_step))
 obtain⟨t',u',he⟩:=m8.there;show wpAny _ _ (getattributeRaised _ _ _ _ _ _ _) _ _ _;unfold getattributeRaised;repeat(any_goals (first | assumption | wp_step))
 exact h _ _ _ m8.of
theorem LG:entryFor table "dict.update.loop"=some Builtin.«dict.update.loop»:=entryFor_of_tree (by kernel_rfl)
theorem C8:plainId "dict.update.loop"=true:=by decide +kernel
section
variable {prog:Program} {w:World} {K:Type} [DecidableEq K] {knd:KeyKind prog w K} {A:Around} {R:Result->Shared->Prop} {I:Addr} {fp wr:List Addr} {G:Array GenState->Array GenState->Prop} {n:Nat} {P:Nat->Value->Prop} {St:Nat->Shared->Prop}
theorem Vl{kvs:List (K×Value)}(hn:(kvs.map (·.1)).Nodup){i:Nat}{k:K}{y:Value}(e:kvs[i]?=some (k,y)):stored (kvs.take i) k y=kvs.take (i+1):=by
 have rj:(kvs.take i).any (fun kv=>kv.1=k)=false:=by
  rw[Bool.eq_false_iff];intro z;rw[List.any_eq_true] at z;obtain⟨p,hp,hk⟩:=z;obtain⟨j,hj,MJ⟩:=bj hp;rw[aM] at hj;have hi:i<kvs.length:=(ax.mp e).1;have e1:(kvs.map (·.1))[j]'(by rw[ae];omega)=(kvs.map (·.1))[i]'(by rw[ae];omega):=by
   rw[List.getElem_map,List.getElem_map];rw[dF] at MJ;rw[MJ,(ax.mp e).2];simpa using hk
  exact b9.mp hn j i (by rw[ae];omega) (by rw[ae];omega) (by omega) e1
 unfold stored;rw[rj];simp only[af,aJ];rw[bg,e];rfl
theorem Sg(W:WalksS prog w A.in1 I fp wr G n P St)(S:Addr)(rV:S∉fp)(h0:Heap)(kvs:List (K×Value))(hx:kvs.length=n)(hn:(kvs.map (·.1)).Nodup)(hsz:kvs.length<=sizeLine)
  (nJ:∀i v,P i v->∃k y key a,kvs[i]?=some (k,y)/\v=.ref a/\knd.is k key=true/\h0.IsTuple a #[key,y]/\a≠S/\a∉wr) :
  ∀(m i:Nat) (s:Shared),n-i=m->i<=n->St i s->s.heap.DictOf knd S (kvs.take i)->(∀b o,b≠S->b∉wr->h0.get? b=some o->s.heap.get? b=some o)->
   (∀s',Moved (S::wr) G s s'->s'.heap.DictOf knd S kvs->R (.ok (.ret .none)) s')->codeAny (model prog w) A (.builtin "dict.update.loop" ⟨[.ref S,.ref I,rawInt (i:Int),.none],[]⟩) R s:=by
 have sP:S∉wr:=fun h=>rV (W.sub _ h)
 have more:∀b∈wr,b∈S::wr:=fun b hb=>aQ _ hb
 intro m;induction m with
 | zero=>
  intro i s hk hi st T qh q;have e:i=n:=by omega
  subst e;refine dH LG ?_;rw[cQ C8 _];show wpAny _ A.in1 (pyNext (.ref I) >>= _) _ _ s;refine aa (W.done s _ _ st fun s' hm=>?_);show wpAny _ A.in1 (Builtin.Dict.addKeywords S [] >>= _) _ _ s';rw[<-hx,bN] at T;refine aa (aq (aq (q s' (hm.mono more) ?_)));obtain⟨o,es,ep,h1,r⟩:=T;exact⟨o,es,ep,hm.heap S _ sP h1,r⟩
 | succ m ih=>
  intro i s hk hi st T qh q;have fI:i<n:=by omega
  refine dH LG ?_;rw[cQ C8 _];show wpAny _ A.in1 (pyNext (.ref I) >>= _) _ _ s;refine aa (W.item i s _ _ fI st fun v s' hP eX hm=>?_);obtain⟨k,y,key,a,YJ,rfl,nL,hT,Y1,MQ⟩:=nJ i v hP;have T':s'.heap.DictOf knd S (kvs.take i):=by
   obtain⟨o,es,ep,h1,r⟩:=T;exact⟨o,es,ep,hm.heap S _ sP h1,r⟩
  obtain⟨o,ho,hc,nn,hd⟩:=hT;have oC:s'.heap.get? a=some o:=hm.heap a o MQ (qh a o Y1 MQ ho);show wpAny _ A.in1 (holding [Value.ref a] _ >>= _) _ _ s';refine aa (bL ?_);refine aa (wpAny_tryCatch ?_);unfold Builtin.Dict.pairItems;refine aa (wpAny_typeOf (T:="tuple") ⟨o,oC,hc⟩ ?_);rw[if_pos (by decide)];refine aa (wpAny_seqItems oC hd ?_);refine aq ?_;show wpAny _ A.in1 (holding [key,y] (dictSet S key y)) _ _ s';refine bL (wpAny_dictSet_pairs (hsz:=by rw[aM];omega) nL T' fun h' T2 sb=>?_);rw[Vl hn YJ] at T2;refine aq ⟨plainId_quiet C8 _,ih (i+1) _ (by omega) fI (W.frame _ s' _ _ eX (b8 _) fun b hb o e=>?_) T2 (fun b o BN MP e=>?_) fun s2 oE T3=>?_⟩
  ·rw[sb.2 b (fun z:b=S=>rV (by rw[<-z];exact hb))];exact e
  ·show h'.get? b=some o;rw[sb.2 b BN];exact hm.heap b o MP (qh b o BN MP e)
  ·refine q s2 (Moved.trans W.gtrans ((hm.mono more).then_heap (b8 _) fun b o hb e=>?_) oE) T3;rw[sb.2 b (fun z:b=S=>hb (by rw[z];exact cM))];exact e
end
section
variable {prog:Program} {w:World} {K:Type} [DecidableEq K] {knd:KeyKind prog w K} {A:Around} {E:Value->Shared->Prop} {s:Shared}
theorem Ug{l:Addr}{items:List Value}{kvs:List (K×Value)}{Q:Value->Shared->Prop}(hh:A.handled=none)(hl:∃o n,s.heap.get? l=some o/\o.cls=.type "list"/\o.dict=none/\o.data=.seq items.toArray n)(hx:kvs.length=items.length)(hn:(kvs.map (·.1)).Nodup)(hsz:kvs.length<=sizeLine)
  (nJ:∀(i:Nat) (v:Value),items[i]?=some v->∃k y key a,kvs[i]?=some (k,y)/\v=.ref a/\knd.is k key=true/\s.heap.IsTuple a #[key,y])
  (h:∀h' tk,h'.DictOf knd s.heap.objs.size kvs->(∀b o,s.heap.get? b=some o->h'.get? b=some o)->Q (.ref s.heap.objs.size) { s with heap:=h',toks:=tk }) :
  wpAny (model prog w) A (call (.type "dict") [.ref l]) Q E s:=by
 obtain⟨ol,nl,xR,tw,Dx,zb⟩:=hl;refine callType_codes (Q₁:=fun obj fw=>obj=.ref s.heap.objs.size/\fw={ s with heap:=s.heap.push { cls:=.type "dict",data:=.dict #[] } }) F.kt_called_dict (F.kt_typeCall_dict_1 _) F.entry_dict_init (kt_code_dict_new _ ⟨rfl,rfl⟩) ?_;rintro obj fw ⟨rfl,rfl⟩;have tf:(s.heap.push { cls:=.type "dict",data:=.dict #[] }).DictOf knd s.heap.objs.size []:=Heap.DictOf.new s.heap;refine⟨tf.typeIs,F.args_dict_init_2 _ _,?_⟩;have pW:(s.heap.push { cls:=.type "dict",data:=.dict #[] }).get? l=some ol:=ao _ xR;unfold Builtin.«dict.__init__»;refine aa ?_;unfold Builtin.Dict.selfAndRest;refine aa (wpAny_notOrdered_dict tf.typeIs ?_);show wpAny _ _ (pure (s.heap.objs.size,[Value.ref l])) _ _ _;refine aq ?_;show wpAny _ _ (Builtin.Dict.updateFrom "dict.__init__" s.heap.objs.size (.ref l) [] .none) _ _ _;unfold Builtin.Dict.updateFrom;refine aa (wpAny_typeOf (T:="list") ⟨_,pW,tw⟩ ?_);rw[if_pos (by decide)];refine aa (W8 pW tw zb Dx VD (by decide) (by simpa using hh) ?_);intro h' tk e ne;simp only[Option.isNone_none,aR];refine aa (wpAny_rule ?_);have kp:∀b o,(s.heap.push { cls:=.type "dict",data:=.dict #[] }).get? b=some o->h'.get? b=some o:=ne.keeps
 have qG:h'.IsList l items.toArray:=⟨_,kp _ _ pW,tw,nl,zb⟩
 have MX:h'.DictOf knd s.heap.objs.size []:=by
  obtain⟨o,es,ep,h1,r⟩:=tf;exact⟨o,es,ep,kp _ _ h1,r⟩
 have Bu:l<s.heap.objs.size:=aB xR;have DC:s.heap.objs.size<h'.objs.size:=by
  obtain⟨o,es,ep,h1,r⟩:=MX;exact aB h1
 refine aa (wpAny_pyIter_list qG (aq ⟨plainId_quiet C8 _,?_⟩));have xS:l≠h'.objs.size:=aG (Nat.lt_trans Bu DC);have rV:s.heap.objs.size∉[h'.objs.size,l]:=by
  simp only[ar,aP,cv,not_or];exact⟨aG DC,eu Bu⟩
 have YQ:A.in1.in1.handled=none:=by simpa using hh
 refine Sg ((Walks.list YQ _ l xS items.toArray).toS) s.heap.objs.size rV s.heap kvs (by simpa using hx) hn hsz (fun i v hv=>?_) (items.toArray.size-0) 0 _ rfl (aL _)
  ⟨⟨_,aD _ rfl,rfl,rfl⟩,(qG.push _)⟩ (by
   obtain⟨o,es,ep,h1,r⟩:=MX;exact⟨o,es,ep,ao _ h1,r⟩) (fun b o BO Hv e=>ao _ (kp _ _ (ao _ e))) ?_
 ·rw[List.getElem?_toArray] at hv;obtain⟨k,y,key,a,h1,h2,h3,h4⟩:=nJ i v hv;have ha:a<s.heap.objs.size:=by obtain⟨o,ho,_⟩:=h4;exact aB ho
  refine⟨k,y,key,a,h1,h2,h3,h4,aG ha,?_⟩;simp only[aX];exact aG (Nat.lt_trans ha DC)
 ·intro s' hm T;obtain⟨h2,g',d',rS,A6⟩:=s';have eg:g'=s.gens:=hm.gens;have ed:d'=s.drawn:=hm.drawn;have eo:A6=s.os:=hm.os;subst eg ed eo;refine⟨rfl,h h2 rS T fun b o e=>?_⟩;have hb:b<s.heap.objs.size:=aB e;refine hm.heap b o ?_ (ao _ (kp _ _ (ao _ e)));simp only[ar,aP,cv,not_or];exact⟨aG hb,aG (Nat.lt_trans hb DC)⟩
end
end PySem
namespace L2
open PySem PySem.Spec PyProof.Rows
noncomputable def rE:D->Option Key
 | .int i=>some (.inl i)
 | .str x=>some (.inr x)
 | _=>none
theorem z8{K:Z9}{G:Hp}{v:V}{d:D}{k:Key}(r:Rep K G v d)(h:rE d=some k):v=kV k:=by
 cases d<;>simp only[rE,aN,reduceCtorEq] at h<;>subst h<;>simp only[Rep] at r<;>subst r<;>rfl
noncomputable def look(kvs:List (Key×D))(k:Key):Option D:=(kvs.find? fun kv=>decide (kv.1=k)).map (·.2)
noncomputable def wL(kvs:List (Key×D))(k:Key)(d:D):List (Key×D):=
 if (kvs.any fun kv=>decide (kv.1=k))=true then kvs.map (fun kv=>if kv.1=k then(kv.1,d) else kv) else kvs++[(k,d)]
section
variable {K:Z9} {G:Hp}
theorem eZ.length:∀{ks:List (Key×V)} {kvs:List (Key×D)},eZ K G ks kvs->ks.length=kvs.length
 | [],[],_=>rfl
 | a::ks,b::kvs,h=>by
  simp only[eZ] at h;simp only[aE,eZ.length h.2]
 | [],_::_,h=>by simp only[eZ] at h
 | _::_,[],h=>by simp only[eZ] at h
theorem eZ.nil:eZ K G [] []:=by simp only[eZ]
theorem eZ.any(k:Key):∀{ks:List (Key×V)} {kvs:List (Key×D)},eZ K G ks kvs->(ks.any fun kv=>decide (kv.1=k))=kvs.any fun kv=>decide (kv.1=k)
 | [],[],_=>rfl
 | a::ks,b::kvs,h=>by
  simp only[eZ] at h;rw[dh,dh,h.1.1,eZ.any k h.2]
 | [],_::_,h=>by simp only[eZ] at h
 | _::_,[],h=>by simp only[eZ] at h
theorem eZ.snoc{k:Key}{v:V}{d:D}(r:Rep K G v d):∀{ks:List (Key×V)} {kvs:List (Key×D)},eZ K G ks kvs->eZ K G (ks++[(k,v)]) (kvs++[(k,d)])
 | [],[],_=>by simp only[eH,eZ];exact⟨⟨trivial,r⟩,trivial⟩
 | a::ks,b::kvs,h=>by
  simp only[eZ] at h;simp only[cA,eZ];exact⟨h.1,eZ.snoc r h.2⟩
 | [],_::_,h=>by simp only[eZ] at h
 | _::_,[],h=>by simp only[eZ] at h
theorem eZ.uQ{k:Key}{v:V}{d:D}(r:Rep K G v d):∀{ks:List (Key×V)} {kvs:List (Key×D)},eZ K G ks kvs->eZ K G (ks.map fun kv=>if kv.1=k then(kv.1,v) else kv) (kvs.map fun kv=>if kv.1=k then(kv.1,d) else kv)
 | [],[],_=>by simp only[cy,eZ]
 | a::ks,b::kvs,h=>by
  simp only[eZ] at h;simp only[aA,eZ];refine⟨?_,eZ.uQ r h.2⟩;rw[h.1.1];split
  ·exact⟨rfl,r⟩
  ·exact⟨h.1.1,h.1.2⟩
 | [],_::_,h=>by simp only[eZ] at h
 | _::_,[],h=>by simp only[eZ] at h
theorem eZ.put{ks:List (Key×V)}{kvs:List (Key×D)}{k:Key}{v:V}{d:D}(h:eZ K G ks kvs)(r:Rep K G v d):eZ K G (uy ks k v) (wL kvs k d):=by
 unfold uy wL;rw[h.any k];split
 ·exact h.uQ r
 ·exact h.snoc r
theorem eZ.look{k:Key}{d:D}:∀{ks:List (Key×V)} {kvs:List (Key×D)},eZ K G ks kvs->look kvs k=some d->∃v,rF ks k=some v/\Rep K G v d
 | [],[],_,e=>by simp[L2.look] at e
 | a::ks,b::kvs,h,e=>by
  simp only[eZ] at h;unfold L2.look at e;unfold rF;rw[bW] at e ⊢;rw[h.1.1];by_cases hk:b.1=k
  ·simp only[hk,bR,bV,aN] at e ⊢;subst e;exact⟨_,rfl,h.1.2⟩
  ·simp only[hk,bp] at e ⊢;exact eZ.look h.2 e
 | [],_::_,h,_=>by simp only[eZ] at h
 | _::_,[],h,_=>by simp only[eZ] at h
theorem eZ.isSome(k:Key):∀{ks:List (Key×V)} {kvs:List (Key×D)},eZ K G ks kvs->(rF ks k).isSome=(L2.look kvs k).isSome
 | [],[],_=>rfl
 | a::ks,b::kvs,h=>by
  simp only[eZ] at h;unfold L2.look rF;rw[bW,bW,h.1.1];by_cases hk:b.1=k
  ·simp only[hk,bR,bV,Option.isSome_some]
  ·simp only[hk,bp];exact eZ.isSome k h.2
 | [],_::_,h=>by simp only[eZ] at h
 | _::_,[],h=>by simp only[eZ] at h
end
section
variable {X:Cx} {pos:Pos} {e i':Expr} {te ti tv:TD}
def yv:TD:=fun _ Q=>Q (.ov (.dc []))
theorem JA:PD X (.Dict [] [] pos) yv:=by
 refine⟨_,Sh,fun ρ σ G0 H0 G H Q P E h k=>fun d hd=>?_⟩;refine k _ _ (.ov (.dc [])) G (.own E.e.s hd) ⟨d,[],rfl,by simp,⟨rfl,[],0,jz,eZ.nil⟩,fun q hq=>?_⟩ h;simp only[aX] at hq;subst hq;exact⟨hd,E.e.s.free hd⟩
def vj(neg:Bool):O2:=fun d e Q=>match e with
 | .dic kvs=>∃k,rE d=some k/\Q (.fz (.bl (if neg then !(look kvs k).isSome else(look kvs k).isSome)))
 | _=>False
theorem Tx(hu:X.A.units+64<cLine):i3 X (compareOp .NotIn) (fun x y H Q=>∃a o,y=.ref a/\n8 H a x o/\Q (.bl (!o.isSome)) H):=by
 intro Z8 s σ H x y v u Q I rx ry h;obtain⟨a,o,rfl,g,q⟩:=h;cases ry;exact QT I g rx fun s' I'=>⟨.bl _,H,I',rfl,q⟩
theorem Kq(hu:X.A.units+64<cLine):nC X (compareOp .NotIn) (vj true):=by
 refine⟨_,Tx hu,fun G H x y d e Q P s rx ry h k=>?_⟩;unfold vj at h;split at h
 ·simp only[Rep] at ry;obtain⟨a,ks,ep,rfl,hy,rk⟩:=ry;obtain⟨key,hk,q⟩:=h;rw[z8 rx hk];refine⟨a,_,rfl,n8.k (k:=key) (s _ _ hy),?_⟩;rw[rk.isSome key];exact k _ _ _ G (.refl s) (iJ (nt _ _ _)) q
 ·exact h.elim
def uD(te ti:TD):TD:=fun ρ Q=>te ρ fun r=>ti ρ fun rk=>match r.val with
 | .dic kvs=>∃k d,rE rk.val=some k/\look kvs k=some d/\Q (.fz d)
 | _=>False
theorem CF(hu:X.A.units+64<cLine)(he:PD X e te)(hi:PD X i' ti)(hs:B5 i':=by intro _ _;rfl):PD X (.Subscript e i' pos) (uD te ti):=by
 obtain⟨t,p,q⟩:=he;obtain⟨t2,p2,q2⟩:=hi;refine⟨_,JB p p2 hs,fun ρ σ G0 H0 G H Q P E h k=>q ρ σ G0 H0 G H _ _ E h fun v H1 r G1 x1 rr hq=>?_⟩;obtain⟨G2,x2,rv,_⟩:=rr.freeze x1;refine q2 ρ σ G0 H0 G2 H1 _ _ (E.ext x2) hq fun u H3 rk G3 x3 qU hJ=>?_
 obtain⟨G4,x4,sL,_⟩:=qU.freeze x3;split at hJ
 ·rename_i kvs e1;obtain⟨key,d,hk,hl,hJ⟩:=hJ;rw[e1] at rv;simp only[Rep] at rv;obtain⟨a,ks,ep,rfl,ha,A4⟩:=rv;rw[z8 sL hk];obtain⟨w,hw,pJ⟩:=(eZ.mono x4.g _ _ A4).look hl;refine⟨a,w,rfl,?_,k w H3 (.fz d) G4 (x2.trans x4) pJ hJ⟩;rw[<-hw];exact n8.k (k:=key) (x4.s _ _ (x4.g _ _ ha))
 ·exact hJ.elim
def wX(i:Nat)(ti:TD):TD:=fun ρ Q=>match gt ρ i with
 | .ov (.dc kvs)=>ti ρ fun rk=>∃k d,rE rk.val=some k/\look kvs k=some d/\Q (.fz d)
 | _=>False
theorem QQ(hu:X.A.units+64<cLine)(i:Nat){x:Str}{p':Pos}(hi:PD X i' ti)(hs:B5 i':=by intro _ _;rfl)(hN:X.N[i]?=some x:=by rfl)(hv:nV X.env.scope x:=by first | exact Or.inl rfl | exact Or.inr (Or.inl rfl) | exact Or.inr (Or.inr rfl))(hd:(x==("__debug__":Str))=false:=by decide)(iS:(x==("__classdict__":Str))=false:=by decide):PD X (.Subscript (.Name x p') i' pos) (wX i ti):=by
 obtain⟨t2,p2,q2⟩:=hi;refine⟨_,JB (pE hN hv hd iS) p2 hs,fun ρ σ G0 H0 G H Q P E h k=>?_⟩;unfold wX at h;split at h
 ·rename_i kvs hg;obtain⟨own,o1,o2⟩:=E.on;obtain⟨a,fp,b1,b2,⟨rfl,ks,ep,ha,A4⟩,b4⟩:=o2 i _ hg;refine⟨_,b1,q2 ρ σ G0 H0 G H _ _ E h fun u H3 rk G3 x3 qU hJ=>?_⟩;obtain⟨G4,x4,sL,_⟩:=qU.freeze x3;obtain⟨key,d,hk,hl,hJ⟩:=hJ;rw[z8 sL hk];obtain⟨w,hw,pJ⟩:=(eZ.mono x4.g _ _ A4).look hl;refine⟨a,w,rfl,?_,k w H3 (.fz d) G4 x4 pJ hJ⟩;rw[<-hw];exact n8.k (k:=key) (x4.h _ _ ha)
 ·exact h.elim
def ux(i:Nat)(ti tv:TD):TX:=fun D ρ=>match gt ρ i with
 | .ov (.dc kvs)=>tv ρ fun r=>ti ρ fun rk=>∃k,rE rk.val=some k/\kvs.length<sizeLine/\D.nx (ρ.set i (.ov (.dc (wL kvs k r.val))))
 | _=>False
theorem Ew(hu:X.A.units+64<cLine)(i:Nat){x:Str}{p1 p2:Pos}(hi:PD X i' ti)(he:PD X e tv)(hN:X.N[i]?=some x:=by rfl)(hv:nV X.env.scope x:=by first | exact Or.inl rfl | exact Or.inr (Or.inl rfl) | exact Or.inr (Or.inr rfl))(hd:(x==("__debug__":Str))=false:=by decide)(iS:(x==("__classdict__":Str))=false:=by decide)
  (hs:swapsWith e (some (.Subscript (.Name x p1) i' p2)) pos.line X.env=pure false:=by rfl) :
  PX X (.Assign [.Subscript (.Name x p1) i' p2] e pos) (ux i ti tv):=by
 obtain⟨t,p,q⟩:=he;obtain⟨t2,A5,q2⟩:=hi;refine⟨_,QR (pE hN hv hd iS) A5 p hs,fun ρ σ G0 H0 G H D E k h g=>?_⟩;unfold ux at h;split at h
 ·rename_i kvs hg;obtain⟨own,o1,o2⟩:=k.on;obtain⟨a,fp,b1,b2,⟨rfl,ks,ep,ha,A4⟩,b4⟩:=o2 i _ hg;refine q ρ σ G0 H0 G H _ _ k h fun v H' r G' x1 rr hq=>?_
  obtain⟨G2,x2,rv,_⟩:=rr.freeze x1;refine⟨_,b1,q2 ρ σ G0 H0 G2 H' _ _ (k.ext x2) hq fun u H3 rk G3 x3 qU hJ=>?_⟩;obtain⟨G4,x4,sL,_⟩:=qU.freeze x3;obtain⟨key,hk,hlen,hJ⟩:=hJ;have lE:=x2.trans x4;refine⟨a,ks,ep,key,rfl,lE.h _ _ ha,z8 sL hk,by rw[A4.length];exact hlen,fun nR=>?_⟩;refine g.nx _ _ G4 _ lE.g ((k.ext lE).qJ hg b1 fun fp nd ow=>?_) hJ;obtain⟨rfl,Ye,M8,DB,Gr⟩:=ow;have e1:Ye=ks:=by
   have:=(lE.h _ _ ha).symm.trans DB;injection this with this
   injection this with this
   exact this.symm
  subst e1;refine⟨[],by simp,⟨rfl,_,nR,jz,Gr.put (rv.mono x4.g)⟩,fun q hq=>.inl hq,fun b hb _=>gA fun z=>hb (by simp[z])⟩
 ·exact h.elim
def wW:f6:=fun ds Q=>match ds with
 | [.dic kvs]=>Q (.fz (.int kvs.length))
 | _=>False
theorem OB:qk X (.builtin "len") wW:=by
 refine⟨_,Tz,fun G H vs ds Q P s r h k=>?_⟩;unfold wW at h;split at h
 ·rename_i kvs;cases vs with
  | nil=>simp only[eQ] at r
  | cons v vs=>
   cases vs with
   | cons=>simp only[eQ] at r;exact r.2.elim
   | nil=>
    simp only[eQ,Rep] at r;obtain⟨⟨a,ks,ep,rfl,ha,rk⟩,_⟩:=r;refine⟨a,ks,ep,rfl,s _ _ ha,?_⟩;rw[rk.length];exact k _ _ _ G (.refl s) (iJ (k5 _ _ _)) h
 ·exact h.elim
def vw(i:Nat):TX:=fun D ρ=>match gt ρ i with
 | .ov o=>D.rt (.ov o)
 | _=>False
theorem QP(i:Nat){x:Str}{p':Pos}(hN:X.N[i]?=some x:=by rfl)(hv:nV X.env.scope x:=by first | exact Or.inl rfl | exact Or.inr (Or.inl rfl) | exact Or.inr (Or.inr rfl))(hd:(x==("__debug__":Str))=false:=by decide)
  (iS:(x==("__classdict__":Str))=false:=by decide):PX X (.Return (some (.Name x p')) pos) (vw i):=by
 refine⟨_,Ct (pE hN hv hd iS),fun ρ σ G0 H0 G H D E k h g=>?_⟩;unfold vw at h;split at h
 ·rename_i o hg;obtain⟨own,o1,o2⟩:=k.on;obtain⟨a,fp,b1,b2,b3,b4⟩:=o2 i _ hg;exact⟨_,b1,g.rt _ H (.ov o) G k.e ⟨a,fp,rfl,b2,b3,fun q hq=>⟨(b4 q hq).2.1,(b4 q hq).1⟩⟩ h⟩
 ·exact h.elim
end
section
variable {K:Z9} {G H:Hp}
theorem fj.length:∀{qs:List Addr} {gw:List (List D)},fj K G H qs gw->qs.length=gw.length
 | [],[],_=>rfl
 | q::qs,ds::gw,h=>by
  simp only[fj] at h;simp only[aE,fj.length h.2]
 | [],_::_,h=>by simp only[fj] at h
 | _::_,[],h=>by simp only[fj] at h
theorem fj.snoc{p:Addr}{ds:List D}{zs:List V}:∀{qs:List Addr} {gw:List (List D)},fj K G H qs gw->H p=some (.lst zs)->eQ K G zs ds->fj K G H (qs++[p]) (gw++[ds])
 | [],[],_,h1,h2=>by simp only[eH,fj];exact⟨⟨zs,h1,h2⟩,trivial⟩
 | q::qs,es::gw,h,h1,h2=>by
  simp only[fj] at h;simp only[cA,fj];exact⟨h.1,fj.snoc h.2 h1 h2⟩
 | [],_::_,h,_,_=>by simp only[fj] at h
 | _::_,[],h,_,_=>by simp only[fj] at h
theorem fj.get:∀{qs:List Addr} {gw:List (List D)} {j:Nat} {ds:List D},fj K G H qs gw->gw[j]?=some ds->∃q xs,qs[j]?=some q/\H q=some (.lst xs)/\eQ K G xs ds
 | [],[],j,ds,_,e=>by simp at e
 | q::qs,es::gw,0,ds,h,e=>by
  simp only[fj] at h;simp only[bX,aN] at e;subst e;obtain⟨⟨xs,h1,h2⟩,_⟩:=h;exact⟨q,xs,rfl,h1,h2⟩
 | q::qs,es::gw,j+1,ds,h,e=>by
  simp only[fj] at h;simp only[bD] at e ⊢;exact fj.get h.2 e
 | [],_::_,_,_,h,_=>by simp only[fj] at h
 | _::_,[],_,_,h,_=>by simp only[fj] at h
theorem fj.set{q:Addr}{ys:List V}{es:List D}(hy:eQ K G ys es):∀{qs:List Addr} {gw:List (List D)} {j:Nat},fj K G H qs gw->qs.Nodup->qs[j]?=some q->fj K G (upd H q (.lst ys)) qs (gw.set j es)
 | [],[],j,_,_,e=>by simp at e
 | r::qs,ds::gw,0,h,nd,e=>by
  simp only[fj] at h;simp only[bX,aN] at e;subst e;simp only[List.set_cons_zero,fj];refine⟨⟨ys,jz,hy⟩,h.2.mono (e8.refl _) fun p hp xs e=>?_⟩;rw[gA (fun z:p=r=>(bA.mp nd).1 (z▸hp))];exact e
 | r::qs,ds::gw,j+1,h,nd,e=>by
  simp only[fj] at h;simp only[bD] at e;simp only[List.set_cons_succ,fj];refine⟨?_,fj.set hy h.2 (bA.mp nd).2 e⟩;obtain⟨⟨xs,h1,h2⟩,_⟩:=h;refine⟨xs,?_,h2⟩;rw[gA (fun z:r=q=>(bA.mp nd).1 (z▸aV e))];exact h1
 | [],_::_,_,h,_,_=>by simp only[fj] at h
 | _::_,[],_,h,_,_=>by simp only[fj] at h
end
def w6(wi:mO)(m:List (Option Nat))(g:kh)(tc:kz)(te:TD):TD:=fun ρ Q=>wi ρ fun ds=>∃Iv:Nat->List (List D)->Prop,Iv 0 []/\
 (∀i d acc,ds[i]?=some d->Iv i acc->g d (iV m ρ) fun gm=>tc gm fun b=>if b=true then te gm fun r=>match r with
  | .ow es=>acc.length<sizeLine/\Iv (i+1) (acc++[es])
  | _=>False
  else Iv (i+1) acc)/\∀acc,Iv ds.length acc->Q (.ov (.ll acc))
section
variable {X:Cx} {elt iter tg:Expr} {ifs:List Expr} {scope:Scope} {pos:Pos} {N':List Str} {m:List (Option Nat)} {wi:mO} {g:kh} {tc:kz} {te:TD}
theorem Sf(cs:fH X N' m scope)(hk:rM m g){ww:TI}{gg:r8 TG}{AY:r8 TT}{tee:r8 TE}
  (q1:∀(ρ:Ev) (σ:St) (G0 H0 G H:Hp) (Q:List D->Prop) (P:It->Hp->Prop),gj X.K G0 H0 ρ σ G H->wi ρ Q->(∀J H' ds G',Ext G H G' H'->uv X.K J G' ds->Q ds->P J H')->ww σ H P)
  (q2:∀s3 H3 ex (ρ:Ev) (σ:St) (G0 H0 G H:Hp) (d:D) (v:V) (Q:Ev->Prop) (P:St->Hp->Prop),gj X.K G0 H0 ρ σ G H->Rep X.K G v d->g d ρ Q->(∀ρ' fF G' H',gj X.K G0 H0 ρ' fF G' H'->Ext G H G' H'->Q ρ'->P fF H')->gg s3 H3 ex v σ H P)
  (q3:∀s3 H3 ex (ρ:Ev) (σ:St) (G0 H0 G H:Hp) (Q:Bool->Prop) (P:Bool->Hp->Prop),gj X.K G0 H0 ρ σ G H->tc ρ Q->(∀b H' G',Ext G H G' H'->Q b->P b H')->AY s3 H3 ex σ H P)
  (q4:∀s3 H3 ex,se X.K te (tee s3 H3 ex)):se X.K (w6 wi m g tc te) (zJ ww m gg AY tee):=by
 refine fun ρ σ G0 H0 G H Q P E h k=>q1 ρ σ G0 H0 G H _ _ E h fun J H1 ds G1 x1 wk hq=>?_
 obtain⟨Iv,i0,turn,fin⟩:=hq;intro D hD s3 ex;have E1:=E.ext x1;have HB:G1 D=none:=x1.s.free hD;have lh:∀{i:Nat} {es:List L2.D},gt (iV m ρ) i=.ow es->False:=fun{i es} h=>by
  unfold iV at h;rw[t6] at h;split at h
  ·rename_i o _;unfold rH at h;split at h
   ·cases h
   ·split at h<;>cases h
  ·cases h
 have sQ:∀{i:Nat} {o:OV},gt (iV m ρ) i=.ov o->False:=fun{i o} h=>by
  unfold iV at h;rw[t6] at h;split at h
  ·rename_i o _;unfold rH at h;split at h
   ·cases h
   ·split at h<;>cases h
  ·cases h
 have mS:gj X.K G1 H1 (iV m ρ) (sU m σ) G1 (upd H1 D (.lst [])):=by
  refine⟨.own x1.s hD,by simp[sU,iV],fun i d h=>?_,fun i es h=>(lh h).elim,fun i j es fs _ h=>(lh h).elim,fun _=>none,fun i es _ h=>(lh h).elim,fun i o h=>(sQ h).elim⟩;unfold iV at h;rw[t6] at h;split at h
  ·rename_i o ho;unfold rH at h;split at h
   ·cases h
   ·rename_i j;split at h
    ·rename_i d' vc;cases h;obtain⟨v,hv,rv⟩:=E1.fz j d vc;refine⟨v,?_,rv⟩;unfold sU;rw[aI,ho];simp[hv]
    ·cases h
  ·cases h
 refine⟨fun i n fF H'=>n=ds.length-i/\i<=ds.length/\∃acc fp G',gj X.K G1 H1 (iV m ρ) fF G' H'/\H' D=some (.lst (fp.map V.ref))/\G' D=none/\fj X.K G' H' fp acc/\(D::fp).Nodup/\(∀q∈fp,H1 q=none/\G' q=none)/\Iv i acc,
  ⟨ds.length,by simp,aL _,[],[],G1,mS,jz,HB,by simp only[fj],by simp,fun q hq=>(by cases hq),i0⟩,?_⟩
 rintro i n fF H' ⟨rfl,hi,acc,fp,G',E',hx,BH,rx,nd,fr,iv⟩;by_cases fI:i<ds.length
 ·obtain⟨w1,w2⟩:=wk;obtain⟨go,yl⟩:=w1 i ds[i] G' H' (ai fI) E'.e.g E'.e.s;refine .inr ⟨go,fun nj H2=>∃acc fp G',gj X.K G1 H1 (iV m ρ) nj G' H2/\H2 D=some (.lst (fp.map V.ref))/\G' D=none/\fj X.K G' H2 fp acc/\(D::fp).Nodup/\(∀q∈fp,H1 q=none/\G' q=none)/\Iv (i+1) acc,fun nj H2 h2=>⟨ds.length-(i+1),by omega,rfl,fI,h2⟩,fun v H2 hy=>?_⟩;obtain⟨G2,x2,rv⟩:=yl v H2 hy;refine q2 _ _ _ (iV m ρ) fF G1 H1 G2 H2 ds[i] v _ _ (E'.ext x2) rv (hk _ _ _ (turn i ds[i] acc (ai fI) iv)) fun uq nD G3 H3 E3 x3 hJ=>?_
  obtain⟨hJ,He,Hi⟩:=hJ;have weak:∀j,gt (iV m ρ) j=.un\/gt (iV m ρ) j=gt uq j:=fun j=>by
   cases hm:m[j]? with
   | none=>left;unfold iV;rw[t6,hm]
   | some o=>
    cases o with
    | none=>left;unfold iV;rw[t6,hm];rfl
    | some c=>right;exact(Hi j c hm).symm
  have vT:=x2.trans x3;refine q3 _ _ _ uq nD G1 H1 G3 H3 _ _ E3 hJ fun b H4 G4 x4 uX=>?_
  have lE:=vT.trans x4;have E4:=(E3.ext x4).weak (ρ':=iV m ρ) (He.symm) weak;have wa:H4 D=some (.lst (fp.map V.ref)):=lE.h _ _ hx;have BF:G4 D=none:=lE.n D BH (by rw[hx];exact nofun);have r4:fj X.K G4 H4 fp acc:=rx.mono lE.g fun q _ zs e=>lE.h _ _ e
  have zm:∀q∈fp,H1 q=none/\G4 q=none:=fun q hq=>⟨(fr q hq).1,lE.n q (fr q hq).2 (rx.here q hq)⟩
  cases b with
  | false=>
   rw[if_neg aO] at uX ⊢;exact⟨acc,fp,G4,E4,wa,BF,r4,nd,zm,uX⟩
  | true=>
   rw[if_pos rfl] at uX ⊢;refine q4 _ _ _ uq nD G1 H1 G4 H4 _ _ (E3.ext x4) uX fun v5 H5 r5 G5 x5 Gq xQ=>?_
   split at xQ
   ·rename_i es;obtain⟨p,zs,rfl,c1,c2,c3,c4⟩:=Gq;have E6:=E4.ext x5;have GG:H5 D=some (.lst (fp.map V.ref)):=x5.h _ _ wa;have BE:G5 D=none:=x5.n D BF (by rw[wa];exact nofun);have Mu:p≠D:=fun z=>by rw[z,wa] at c1;cases c1
    have YC:p∉fp:=fun z=>r4.here p z c1
    have Y8:D∉fp:=fun z=>(bA.mp nd).1 z
    have r6:fj X.K G5 (upd H5 D (.lst ((fp++[p]).map V.ref))) (fp++[p]) (acc++[es]):=by
     refine fj.snoc (r4.mono x5.g fun q hq ys e=>?_) ?_ c4
     ·rw[gA (fun z:q=D=>Y8 (z▸hq))];exact x5.h _ _ e
     ·rw[gA Mu];exact c3
    refine⟨fp.map V.ref,GG,by rw[ae,r4.length];exact xQ.1,acc++[es],fp++[p],G5,?_,by rw[show fp.map V.ref++[V.ref p]=(fp++[p]).map V.ref by simp];exact jz,BE,by rw[show fp.map V.ref++[V.ref p]=(fp++[p]).map V.ref by simp];exact r6,?_,fun q hq=>?_,xQ.2⟩
    ·refine⟨⟨E6.e.g,fun b o e=>by rw[gA (l7 e hD)];exact E6.e.h b o e,fun b o e=>by rw[gA (l7 e BE)];exact E6.e.s b o e,E6.e.n⟩,E6.len,E6.fz,fun i es h=>(lh h).elim,fun i j es fs _ h=>(lh h).elim,fun _=>none,fun i es _ h=>(lh h).elim,fun i o h=>(sQ h).elim⟩
    ·rw[bA] at nd ⊢;refine⟨fun z=>?_,?_⟩
     ·rcases ay.mp z with z | z
      ·exact nd.1 z
      ·simp at z;exact Mu z.symm
     ·rw[cY];refine⟨nd.2,by simp,fun a ha b hb=>?_⟩;simp at hb;subst hb;exact fun z=>YC (z▸ha)
    ·rcases ay.mp hq with hq | hq
     ·exact⟨(zm q hq).1,x5.n q (zm q hq).2 (r4.here q hq)⟩
     ·simp at hq;subst hq;exact⟨E4.e.h.free c1,c2⟩
   ·exact xQ.elim
 ·have e:i=ds.length:=by omega
  subst e;refine .inl ⟨wk.2 G' H' E'.e.g E'.e.s,k _ H' (.ov (.ll acc)) G' (x1.trans E'.e) ⟨D,fp,rfl,nd,⟨hx,rx⟩,fun q hq=>?_⟩ (fin acc iv)⟩;rcases ar.mp hq with rfl | hq
  ·exact⟨x1.h.free hD,BH⟩
  ·exact⟨x1.h.free (fr q hq).1,(fr q hq).2⟩
theorem Se(i:Nat){x:Str}{pos' kN:Pos}(hc:X.calm=true)(cs:fH X N' m scope)(hk:rM m g)(hi:PId X tg iter wi)(hg:∀s3 H3 ex,tO (kf X N' scope s3 H3 ex) tg g)(ht:∀s3 H3 ex,yg (kf X N' scope s3 H3 ex) ifs tc)
  (he:∀s3 H3 ex,PD (kf X N' scope s3 H3 ex) elt te) (hN:X.N.Nodup:=by assumption) (tm:X.N[i]?=some x:=by rfl) (hx:Loc X.env.scope x:=by first | exact Or.inl rfl | exact Or.inr rfl) (hs:∀x,foldedSetIterable iter X.env x=pure x:=by intro _;rfl)
  (uV:swapsWith (.ListComp elt [⟨tg,iter,ifs,0⟩] scope pos) (some (.Name x pos')) kN.line X.env=pure true:=by rfl)
  (hf:X.fn x=true\/X.env.scope.names.lookup x=some .local:=by first | exact .inl rfl | exact .inr rfl | assumption) :
  PX X (.Assign [.Name x pos'] (.ListComp elt [⟨tg,iter,ifs,0⟩] scope pos) kN) (kB i (w6 wi m g tc te)):=by
 obtain⟨ww,p1,q1⟩:=hi;refine⟨_,CL (g:=fun s3 H3 ex=>(hg s3 H3 ex).choose) (tc:=fun s3 H3 ex=>(ht s3 H3 ex).choose) (te:=fun s3 H3 ex=>(he s3 H3 ex).choose) hN tm hx hc cs p1 (fun s3 H3 ex=>(hg s3 H3 ex).choose_spec.1) (fun s3 H3 ex=>(ht s3 H3 ex).choose_spec.1) (fun s3 H3 ex=>(he s3 H3 ex).choose_spec.1) hs uV hf,fun ρ σ G0 H0 G H D E k h gg=>?_⟩;exact Sf cs hk q1 (fun s3 H3 ex=>(hg s3 H3 ex).choose_spec.2) (fun s3 H3 ex=>(ht s3 H3 ex).choose_spec.2) (fun s3 H3 ex=>(he s3 H3 ex).choose_spec.2) ρ σ G0 H0 G H _ _ k h fun v H' r G' x rr hq=>gg.nx _ _ G' H' x.g (k.put x rr) hq
end
section
variable {X:Cx} {pos:Pos} {e i':Expr} {te ti:TD}
def wV(i:Nat)(ti te:TD):TX:=fun D ρ=>match gt ρ i with
 | .ov (.ll gw)=>ti ρ fun rk=>match rk.val with
  | .int k=>∃j ds,qD gw.length k=some j/\gw[j]?=some ds/\te ρ fun r=>ds.length<sizeLine/\D.nx (ρ.set i (.ov (.ll (gw.set j (ds++[r.val])))))
  | _=>False
 | _=>False
theorem QO(i:Nat){x:Str}{p1 p2 p3 pos':Pos}(hi:PD X i' ti)(he:PD X e te)(hN:X.N[i]?=some x:=by rfl)(hv:nV X.env.scope x:=by first | exact Or.inl rfl | exact Or.inr (Or.inl rfl) | exact Or.inr (Or.inr rfl))(hd:(x==("__debug__":Str))=false:=by decide)
  (iS:(x==("__classdict__":Str))=false:=by decide) (YB:CM i':=by intro _ _;rfl) (jv:starEach [e] X.env=(false,eval e X.env)::starEach [] X.env:=by rfl)
  (hb:∀{ta:TE} {t:TA},PE X (.Subscript (.Name x p1) i' p2) ta->PA X [e] t->PE X (.Call (.Attribute (.Subscript (.Name x p1) i' p2) "append" p3) [e] [] pos') (Df X.K "list" EC ta t):=by intro ta t h1 h2;exact Cg cP PySem.F.slot_list_append PySem.F.type_list_append Fo h1 h2) :
  PX X (.Expr (.Call (.Attribute (.Subscript (.Name x p1) i' p2) "append" p3) [e] [] pos') pos) (wV i ti te):=by
 obtain⟨t,p,q⟩:=he;obtain⟨t2,A5,q2⟩:=hi;refine⟨_,yH (hb (Cn qC (pE hN hv hd iS) A5 YB) (rN p t7 jv)),fun ρ σ G0 H0 G H D E k h g=>?_⟩;unfold wV at h;split at h
 ·rename_i gw hg;obtain⟨own,o1,o2⟩:=k.on;obtain⟨a,fp,b1,b2,⟨ha,hr⟩,b4⟩:=o2 i _ hg;refine⟨_,b1,q2 ρ σ G0 H0 G H _ _ k h fun u H1 rk G1 x1 xw o8=>?_⟩;obtain⟨G2,x2,qw,_⟩:=xw.freeze x1;split at o8
  ·rename_i kk e1;obtain⟨j,ds,hj,zh,o8⟩:=o8;rw[e1] at qw;simp only[Rep] at qw;obtain⟨qa,xs,c1,c2,c3⟩:=hr.get zh;have mM:iu (fp.map V.ref) kk=some (.ref qa):=by
    unfold iu;rw[ae,hr.length,hj];simp[c1]
   refine⟨a,fp.map V.ref,kk,_,rfl,qw,gT.of (x2.h _ _ ha),mM,.inl ⟨rfl,xs,gT.of (x2.h _ _ c2)⟩,?_⟩;refine q ρ σ G0 H0 G2 H1 _ _ (k.ext x2) o8 fun v H3 r G3 x3 qU hJ=>?_
   obtain⟨G4,x4,sL,_⟩:=qU.freeze x3;have lE:=x2.trans x4;refine⟨qa,xs,v,rfl,rfl,lE.h _ _ c2,by rw[c3.length];exact hJ.1,?_⟩;refine g.nx _ _ G4 _ lE.g ((k.ext lE).qJ hg b1 fun tI nd ow=>?_) hJ.2;obtain⟨DB,rh⟩:=ow;have e3:tI=fp:=by
    have:=(lE.h _ _ ha).symm.trans DB;injection this with this
    injection this with this
    exact((List.map_inj_right fun a b h=>by cases h;rfl).mp this).symm
   subst e3;have Gx:=bA.mp nd;refine⟨tI,nd,⟨?_,rh.set ((c3.mono lE.g).append (eQ.cons sL eQ.nil)) Gx.2 c1⟩,fun q hq=>.inl hq,fun b hb _=>gA fun z=>hb (by rw[z];exact aQ _ (aV c1))⟩;rw[gA (fun z:a=qa=>Gx.1 (z▸aV c1))];exact DB
  ·exact o8.elim
 ·exact h.elim
def wU(ta tb:TD):TD:=fun ρ Q=>ta ρ fun ra=>tb ρ fun rb=>match rb with
 | .ow ds=>Q (.ov (.tl ra.val ds))
 | _=>False
theorem JN{a b:Expr}{x1:Nat}{ta tb:TD}(ha:PD X a ta)(hb:PD X b tb)(jv:starEach [a,b] X.env=(false,eval a X.env)::starEach [b] X.env:=by rfl)(xP:starEach [b] X.env=(false,eval b X.env)::starEach [] X.env:=by rfl):PD X (.Tuple [a,b] x1 pos) (wU ta tb):=by
 obtain⟨t1,p1,q1⟩:=ha;obtain⟨t2,p2,q2⟩:=hb;refine⟨_,II (rN p1 (rN p2 t7 xP) jv),fun ρ σ G0 H0 G H Q P E h k=>?_⟩;refine q1 ρ σ G0 H0 G H _ _ E h fun v H1 ra G1 x1 xw o8=>?_
 obtain⟨G2,x2,qw,_⟩:=xw.freeze x1;refine q2 ρ σ G0 H0 G2 H1 _ _ (E.ext x2) o8 fun u H3 rb G3 x3 qU hJ=>?_
 split at hJ
 ·rename_i ds;obtain⟨q,xs,rfl,c1,c2,c3,c4⟩:=qU;refine⟨by show 2<=sizeLine;decide,fun p hp=>?_⟩;have vT:=x2.trans x3;have Ms:p≠q:=fun z=>by rw[z,c3] at hp;cases hp
  refine k _ _ (.ov (.tl ra.val ds)) G3 (vT.trans (.own vT.s hp)) ⟨p,[q],rfl,by simp[Ms],⟨q,v,xs,rfl,jz,qw.mono x3.g,by rw[gA Ms.symm];exact c3,c4⟩,fun r hr=>?_⟩ hJ;simp only[ar,aP,cv] at hr;rcases hr with rfl | rfl
  ·exact⟨vT.h.free hp,vT.s.free hp⟩
  ·exact⟨x2.h.free c1,c2⟩
 ·exact hJ.elim
end
noncomputable def Ip:R->Bool
 | .fz d=>tZ d
 | .ow ds=>ds.all tZ
 | .ov (.dc kvs)=>kvs.all fun p=>tZ p.2
 | _=>false
def vz(i:Nat)(te:TD):TD:=fun ρ Q=>te (mN i ρ) fun r=>Ip r=true/\Q r
theorem Lb{K:Z9}{G G':Hp}:∀{vs:List V} {ds:List D},ds.all tZ=true->eQ K G vs ds->eQ K G' vs ds
 | [],[],_,_=>eQ.nil
 | v::vs,d::ds,h,r=>by
  simp only[eQ] at r;rw[List.all_cons,cg] at h;exact eQ.cons (CV h.1 r.1) (Lb h.2 r.2)
 | [],_::_,_,r=>by simp only[eQ] at r
 | _::_,[],_,r=>by simp only[eQ] at r
theorem La{K:Z9}{G G':Hp}:∀{ks:List (Key×V)} {kvs:List (Key×D)},(kvs.all fun p=>tZ p.2)=true->eZ K G ks kvs->eZ K G' ks kvs
 | [],[],_,_=>eZ.nil
 | v::vs,d::ds,h,r=>by
  simp only[eZ] at r ⊢;rw[List.all_cons,cg] at h;exact⟨⟨r.1.1,CV h.1 r.1.2⟩,La h.2 r.2⟩
 | [],_::_,_,r=>by simp only[eZ] at r
 | _::_,[],_,r=>by simp only[eZ] at r
theorem JM{K:Z9}{te:TD}{tt:TE}(i:Nat)(q:se K te tt):se K (vz i te) tt:=by
 intro ρ σ G0 H0 G H Q P E h k;obtain⟨L,hL,E1,_⟩:=E.nQ i;refine q _ σ G0 H0 _ H _ _ E1 h fun v H' r G' x rr hq=>?_
 have x2:=JW hL x;refine k v H' r (less G' L) x2 ?_ hq.2;have hs:=hq.1;cases r with
 | fz d=>exact CV hs rr
 | ow ds=>
  obtain⟨p,xs,rfl,c1,c2,c3,c4⟩:=rr;refine⟨p,xs,rfl,c1,?_,c3,Lb hs c4⟩;unfold less;split
  ·rfl
  ·exact c2
 | ov o=>
  cases o with
  | dc kvs=>
   obtain⟨p,fp,rfl,c1,⟨rfl,ks,ep,c2,c3⟩,c4⟩:=rr;refine⟨p,[],rfl,c1,⟨rfl,ks,ep,c2,La hs c3⟩,fun q hq=>⟨(c4 q hq).1,?_⟩⟩;unfold less;split
   ·rfl
   ·exact(c4 q hq).2
  | ll=>cases hs
  | dl=>cases hs
  | tl=>cases hs
  | ld=>cases hs
  | dt=>cases hs
  | tp=>cases hs
  | ob=>cases hs
  | dq=>cases hs
section
variable {X:Cx} {pos:Pos} {e i':Expr} {te ti:TD}
theorem Sd(i:Nat)(h:PD X e te):PD X e (vz i te):=let⟨tt,p,q⟩:=h;⟨tt,p,JM i q⟩
end
section
variable {X:Cx} {elt iter tg:Expr} {ifs:List Expr} {scope:Scope} {pos:Pos} {N':List Str} {m:List (Option Nat)} {wi:mO} {g:kh} {tc:kz} {te:TD}
theorem Sb(j i:Nat){x:Str}{pos' kN:Pos}(hc:X.calm=true)(cs:fH X N' m scope)(hk:rM m g)(hi:PId X tg iter wi)(hg:∀s3 H3 ex,tO (kf X N' scope s3 H3 ex) tg g)(ht:∀s3 H3 ex,yg (kf X N' scope s3 H3 ex) ifs tc)
  (he:∀s3 H3 ex,PD (kf X N' scope s3 H3 ex) elt te) (hN:X.N.Nodup:=by assumption) (tm:X.N[i]?=some x:=by rfl) (hx:Loc X.env.scope x:=by first | exact Or.inl rfl | exact Or.inr rfl) (hs:∀x,foldedSetIterable iter X.env x=pure x:=by intro _;rfl)
  (uV:swapsWith (.ListComp elt [⟨tg,iter,ifs,0⟩] scope pos) (some (.Name x pos')) kN.line X.env=pure true:=by rfl)
  (hf:X.fn x=true\/X.env.scope.names.lookup x=some .local:=by first | exact .inl rfl | exact .inr rfl | assumption) :
  PX X (.Assign [.Name x pos'] (.ListComp elt [⟨tg,iter,ifs,0⟩] scope pos) kN) (kB i (vz j (iI wi m g tc te))):=by
 obtain⟨ww,p1,q1⟩:=hi;refine⟨_,CL (g:=fun s3 H3 ex=>(hg s3 H3 ex).choose) (tc:=fun s3 H3 ex=>(ht s3 H3 ex).choose) (te:=fun s3 H3 ex=>(he s3 H3 ex).choose) hN tm hx hc cs p1 (fun s3 H3 ex=>(hg s3 H3 ex).choose_spec.1) (fun s3 H3 ex=>(ht s3 H3 ex).choose_spec.1) (fun s3 H3 ex=>(he s3 H3 ex).choose_spec.1) hs uV hf,fun ρ σ G0 H0 G H D E k h gg=>?_⟩;exact JM j (CH cs hk q1 (fun s3 H3 ex=>(hg s3 H3 ex).choose_spec.2) (fun s3 H3 ex=>(ht s3 H3 ex).choose_spec.2) (fun s3 H3 ex=>(he s3 H3 ex).choose_spec.2)) ρ σ G0 H0 G H _ _ k h fun v H' r G' x rr hq=>gg.nx _ _ G' H' x.g (k.put x rr) hq
end
section
variable {X:Cx} {pos:Pos} {e i':Expr} {te ti:TD}
noncomputable def xb:List (Key×D)->Option (List Int)
 | []=>some []
 | (.inl i,_)::r=>(xb r).map (i::·)
 | _=>none
noncomputable def sr:List (Key×V)->Option (List Int)
 | []=>some []
 | (.inl i,_)::r=>(sr r).map (i::·)
 | _=>none
theorem LB{K:Z9}{G:Hp}:∀{ks:List (Key×V)} {kvs:List (Key×D)},eZ K G ks kvs->sr ks=xb kvs
 | [],[],_=>rfl
 | (a,v)::ks,(b,d)::kvs,h=>by
  simp only[eZ] at h;obtain⟨⟨rfl,_⟩,h2⟩:=h;cases a with
  | inl i=>simp only[sr,xb,LB h2]
  | inr x=>rfl
 | [],_::_,h=>by simp only[eZ] at h
 | _::_,[],h=>by simp only[eZ] at h
theorem Lu:∀{ks:List (Key×V)} {ns:List Int},sr ks=some ns->∀(i:Nat) k x,ks[i]?=some (k,x)->∃n,ns[i]?=some n/\k=.inl n
 | [],ns,h,i,k,x,e=>by simp at e
 | (.inl a,v)::ks,ns,h,i,k,x,e=>by
  simp only[sr,cB] at h;obtain⟨ms,h1,rfl⟩:=h;cases i with
  | zero=>
   simp only[bX,aN,Prod.mk.injEq] at e;exact⟨a,rfl,e.1.symm⟩
  | succ i=>
   simp only[bD] at e ⊢;exact Lu h1 i k x e
 | (.inr a,v)::ks,ns,h,i,k,x,e=>by simp[sr] at h
theorem Lw:∀{ks:List (Key×V)} {ns:List Int},sr ks=some ns->ns.length=ks.length
 | [],ns,h=>by simp[sr] at h;subst h;rfl
 | (.inl a,v)::ks,ns,h=>by
  simp only[sr,cB] at h;obtain⟨ms,h1,rfl⟩:=h;simp[Lw h1]
 | (.inr a,v)::ks,ns,h=>by simp[sr] at h
theorem T5(hc:X.calm=true):fO X (.builtin "min") (fun xs H Q=>∃a ks ep ns,xs=[V.ref a]/\H a=some (.dK ks ep)/\sr ks=some ns/\ns≠[]/\∀M,M∈ns->(∀b∈ns,M<=b)->Q (.int M) H):=by
 intro Z8 s σ H xs us Q I r h;obtain⟨a,ks,Z2,ns,rfl,ha,hn,gP,q⟩:=h;obtain⟨u,rfl,ru⟩:=mL r;cases ru;obtain⟨z,hd,vs,rel,dd⟩:=Ir I.fR ha;obtain⟨o,es,ep,ho,r5⟩:=dd;have dat:s.heap.DictAt (pO X.prog X.w) a vs ep:=⟨o,es,ho,r5⟩
 have fI:a<s.heap.objs.size:=aB ho;have hlen:vs.length=ns.length:=by rw[<-rel.length,Lw hn]
 have Bn:0<ns.length:=List.length_pos_iff.mpr gP;have nL:∀(i:Nat) k x,vs[i]?=some (k,x)->∃n,ns[i]?=some n/\k=.inl n:=fun i k x e=>by
  have hi:i<ks.length:=by rw[rel.length];exact(ax.mp e).1
  obtain⟨n,h1,h2⟩:=Lu hn i ks[i].1 ks[i].2 (by rw[ai hi]);refine⟨n,h1,?_⟩;have hk:ks.map (·.1)=vs.map (·.1):=rel.keys;have e2:=et (fun l=>l[i]?) hk;simp only[aI,ai hi,e,bV,aN] at e2;rw[<-e2,h2]
 refine call_min_walk (wpAny_pyIter_dict hd dat ?_)
 refine⟨_,_,_,_,_,_,_,rfl,Walks.dictKeys (knd:=pO X.prog X.w) (A:=X.A.in1) (by simpa using I.ok.hd hc) _ a (aG fI) vs ep,⟨⟨_,aD _ rfl,rfl,rfl⟩,?_⟩,fun b hb=>?_,by omega,
  CmpOf.ints_lt (fun i=>ns.getD i 0) (fun i v hP=>?_),fun v h' tk hP hk=>?_⟩
 ·exact⟨o,es,ao _ ho,r5⟩
 ·show b<(s.heap.push _).objs.size;rw[di];simp only[ar,aP,cv] at hb;rcases hb with rfl | rfl
  ·exact cO _
  ·exact cq fI
 ·obtain⟨k,x,e,hk⟩:=hP;obtain⟨n,h1,rfl⟩:=nL i k x e;rw[List.getD_eq_getElem?_getD,h1];rcases sv (show vo (.inl n) v=true from hk) with⟨j,t,h2,h3⟩ | ⟨j,t,h2,h3⟩
  ·cases h2;exact⟨t,h3⟩
  ·cases h2
 ·obtain⟨h1,h2⟩:=argBest_lt (fun i=>ns.getD i 0) (vs.length-1);obtain⟨k,x,e,Hh⟩:=hP;obtain⟨n,Mz,rfl⟩:=nL _ k x e;obtain⟨j,t,hj,rfl⟩:∃j t,(Sum.inl n:Key)=Sum.inl j/\v=Value.int j t:=by
   rcases sv (show vo (.inl n) v=true from Hh) with⟨j,t,h2,h3⟩ | ⟨j,t,h2,h3⟩
   ·exact⟨j,t,h2,h3⟩
   ·cases h2
  cases hj;refine⟨.int n,H,I.kept (fun b o' e'=>hk b o' ?_ (ao _ e')),⟨_,rfl⟩,q n (aV Mz) fun b hb=>?_⟩
  ·simp only[aX];exact aG (aB e')
  ·obtain⟨j,hj,rfl⟩:=mem_getD hb;have h3:=h2 j (by omega);rw[show n=ns.getD (argBest (fun i j=>decide (ns.getD i 0<ns.getD j 0)) (vs.length-1)) 0 by rw[List.getD_eq_getElem?_getD,Mz];rfl];exact h3
def yu:f6:=fun ds Q=>match ds with
 | [.dic kvs]=>match xb kvs with
  | some ns=>ns≠[]/\∀M,M∈ns->(∀b∈ns,M<=b)->Q (.fz (.int M))
  | none=>False
 | _=>False
theorem OA(hc:X.calm=true):qk X (.builtin "min") yu:=by
 refine⟨_,T5 hc,fun G H vs ds Q P s r h k=>?_⟩;unfold yu at h;split at h
 ·rename_i kvs;split at h
  ·rename_i ns hn;cases vs with
   | nil=>simp only[eQ] at r
   | cons v vs=>
    cases vs with
    | cons=>simp only[eQ] at r;exact r.2.elim
    | nil=>
     simp only[eQ,Rep] at r;obtain⟨⟨a,ks,ep,rfl,ha,rk⟩,_⟩:=r;exact⟨a,ks,ep,ns,rfl,s _ _ ha,by rw[LB rk];exact hn,h.1,fun M m1 m2=>k _ _ _ G (.refl s) (iJ (k5 _ _ _)) (h.2 M m1 m2)⟩
  ·exact h.elim
 ·exact h.elim
end
section
variable {X:Cx} {pos:Pos} {e i':Expr} {te ti:TD}
noncomputable def pairsOf:List D->Option (List (Key×D))
 | []=>some []
 | .tup [k,v]::r=>match rE k with
  | some key=>(pairsOf r).map ((key,v)::·)
  | none=>none
 | _=>none
def gh(K:Z9)(H:Hp):List V->List (Key×V)->Prop
 | [],[]=>True
 | y::ys,p::ps=>(∃b,y=.ref b/\iK K H b [kV p.1,p.2])/\gh K H ys ps
 | _,_=>False
theorem gh.length{K:Z9}{H:Hp}:∀{ys:List V} {ps:List (Key×V)},gh K H ys ps->ys.length=ps.length
 | [],[],_=>rfl
 | y::ys,p::ps,h=>by
  simp only[gh] at h;simp only[aE,gh.length h.2]
 | [],_::_,h=>by simp only[gh] at h
 | _::_,[],h=>by simp only[gh] at h
theorem gh.vals{Z8:List (Addr×Obj)}{σ:St}{H:Hp}{s:Shared}(I:Inv X Z8 σ H s):∀{ys:List V} {ps:List (Key×V)} {us:List Value},gh X.K H ys ps->Vals ys us->
  ∃vs:List (Key×Value),KV ps vs/\∀(i:Nat) (u:Value),us[i]?=some u->∃k y key a,vs[i]?=some (k,y)/\u=.ref a/\(pO X.prog X.w).is k key=true/\s.heap.IsTuple a #[key,y]
 | [],[],us,_,r=>by
  cases r;exact⟨[],by unfold KV;exact .nil,fun i u e=>by simp at e⟩
 | y::ys,p::ps,us,h,r=>by
  simp only[gh] at h;obtain⟨⟨b,rfl,hb⟩,h2⟩:=h;cases r with
  | cons r0 rr=>
   rename_i u0 us;cases (show u0=Value.ref b from r0);obtain⟨vs,k1,k2⟩:=gh.vals I h2 rr;obtain⟨its,rv,ht,_⟩:=I.tuple hb;obtain⟨w1,w2,rfl,q1,q2⟩:=zL rv;refine⟨(p.1,w2)::vs,?_,fun i u e=>?_⟩
   ·unfold KV at k1 ⊢;exact .cons ⟨rfl,q2⟩ k1
   ·cases i with
    | zero=>
     simp only[bX,aN] at e;subst e;exact⟨p.1,w2,w1,b,rfl,rfl,Cm q1,by simpa using (show s.heap.IsTuple b [w1,w2].toArray from ht)⟩
    | succ i=>
     simp only[bD] at e ⊢;exact k2 i u e
 | [],_::_,_,h,_=>by simp only[gh] at h
 | _::_,[],_,h,_=>by simp only[gh] at h
theorem Ue(hc:X.calm=true):fO X (.type "dict") (fun xs H Q=>∃p ys ks,xs=[V.ref p]/\gT X.K H p ys/\gh X.K H ys ks/\(ks.map (·.1)).Nodup/\∀l ep,H l=none->Q (.ref l) (upd H l (.dK ks ep))):=by
 intro Z8 s σ H xs us Q I r h;obtain⟨p,ys,ks,rfl,hq,hp,hn,q⟩:=h;obtain⟨u,rfl,ru⟩:=mL r;cases ru;obtain⟨its,rv,pl,hz⟩:=I.list hq;obtain⟨vs,kv,nJ⟩:=hp.vals I rv;have hlen:vs.length=its.length:=by rw[<-kv.length,<-hp.length,rv.length]
 have Bx:ks.map (·.1)=vs.map (·.1):=kv.keys;obtain⟨o,n,h1,h2,h3,h4⟩:=pl;have wq:vs.length<=sizeLine:=by rw[hlen,<-rv.length];exact hz
 refine Ug (knd:=pO X.prog X.w) (kvs:=vs) (items:=its) (I.ok.hd hc) ⟨o,n,h1,h2,h3,h4⟩ hlen (by rw[<-Bx];exact hn) wq nJ fun h' tk dd kp=>?_
 have hf:H s.heap.objs.size=none:=I.fR.fresh (az _);obtain⟨ep,da⟩:=Iq dd;refine⟨.ref s.heap.objs.size,_,I.laid (a:=s.heap.objs.size) (o:=.dK ks ep) (t':=tk) kp (az _) (Jc (by rw[kv.length];exact wq) ?_ kv da),rfl,q _ ep hf⟩;have hb:=I.big;simpa using eu hb
def yt:f6:=fun ds Q=>match ds with
 | [.lst es]=>match pairsOf es with
  | some kvs=>(kvs.map (·.1)).Nodup/\Q (.ov (.dc kvs))
  | none=>False
 | _=>False
theorem K9{K:Z9}{G H:Hp}(s:e8 G H):∀{es:List D} {ys:List V} {kvs:List (Key×D)},pairsOf es=some kvs->eQ K G ys es->∃ks,gh K H ys ks/\eZ K G ks kvs
 | [],ys,kvs,h,r=>by
  simp only[pairsOf,aN] at h;subst h;cases ys with
  | nil=>exact⟨[],by simp only[gh],eZ.nil⟩
  | cons=>simp only[eQ] at r
 | e::es,ys,kvs,h,r=>by
  cases ys with
  | nil=>simp only[eQ] at r
  | cons y ys=>
   simp only[eQ] at r;unfold pairsOf at h;split at h
   ·rename_i hh;cases hh
   ·rename_i k v r' heq;cases heq;cases hk:rE k with
    | none=>rw[hk] at h;cases h
    | some key=>
     rw[hk] at h;simp only[cB] at h;obtain⟨Yc,h1,rfl⟩:=h;obtain⟨ks,p1,p2⟩:=K9 s h1 r.2;have r1:=r.1;simp only[Rep] at r1;obtain⟨b,xs,rfl,hb,rx⟩:=r1;match xs,rx with
     | [a1,a2],rx=>
      simp only[eQ] at rx;refine⟨(key,a2)::ks,?_,?_⟩
      ·simp only[gh];refine⟨⟨b,rfl,?_⟩,p1⟩;rw[<-z8 rx.1 hk];exact s.nH hb
      ·simp only[eZ];exact⟨⟨trivial,rx.2.1⟩,p2⟩
     | [],rx=>simp only[eQ] at rx
     | [_],rx=>simp only[eQ] at rx;exact rx.2.elim
     | _::_::_::_,rx=>simp only[eQ] at rx;exact rx.2.2.elim
   ·cases h
theorem eZ.keys{K:Z9}{G:Hp}:∀{ks:List (Key×V)} {kvs:List (Key×D)},eZ K G ks kvs->ks.map (·.1)=kvs.map (·.1)
 | [],[],_=>rfl
 | a::ks,b::kvs,h=>by
  simp only[eZ] at h;simp only[aA,h.1.1,eZ.keys h.2]
 | [],_::_,h=>by simp only[eZ] at h
 | _::_,[],h=>by simp only[eZ] at h
theorem Oz(hc:X.calm=true):qk X (.type "dict") yt:=by
 refine⟨_,Ue hc,fun G H vs ds Q P s r h k=>?_⟩;unfold yt at h;split at h
 ·rename_i es;split at h
  ·rename_i kvs hp;cases vs with
   | nil=>simp only[eQ] at r
   | cons v vs=>
    cases vs with
    | cons=>simp only[eQ] at r;exact r.2.elim
    | nil=>
     simp only[eQ,Rep] at r;obtain⟨⟨a,ys,rfl,ha,ry⟩,_⟩:=r;obtain⟨ks,p1,p2⟩:=K9 s hp ry;refine⟨a,ys,ks,rfl,(s.iF ha).sq,p1,by rw[p2.keys];exact h.1,fun l ep hl=>?_⟩;refine k _ _ (.ov (.dc kvs)) G (.own s hl) ⟨l,[],rfl,by simp,⟨rfl,ks,ep,jz,p2⟩,fun q hq=>?_⟩ h.2;simp only[aX] at hq;subst hq;exact⟨hl,s.free hl⟩
  ·exact h.elim
 ·exact h.elim
def ZC(j i:Nat)(ti:TD):TX:=fun D ρ=>match gt ρ i with
 | .ow ds=>ti ρ fun rk=>match rk.val with
  | .int k=>∃n d,-(2 ^ 63)<=k/\k<2 ^ 63/\qD ds.length k=some n/\ds[n]?=some d/\D.nx ((ρ.set i (.ow (ds.eraseIdx n))).set j (.fz d))
  | _=>False
 | _=>False
def wK(ta tb:TD):TD:=fun ρ Q=>ta ρ fun ra=>tb ρ fun rb=>match ra,rb.val with
 | .ow ds,.int k=>-(2 ^ 63)<=k/\k<2 ^ 63/\ds.length*k.toNat<=sizeLine/\Q (.ow (List.replicate k.toNat ds).flatten)
 | _,_=>False
theorem eQ.rep{K:Z9}{H:Hp}{vs:List V}{ds:List D}(h:eQ K H vs ds):∀k:Nat,eQ K H (List.replicate k vs).flatten (List.replicate k ds).flatten
 | 0=>eQ.nil
 | k+1=>by
  rw[bT,bT,bY,bY];exact h.append (eQ.rep h k)
theorem Oy{a b:Expr}{ta tb:TD}(ha:PD X a ta)(hb:PD X b tb):PD X (.BinOp a .Mult b pos) (wK ta tb):=by
 obtain⟨t1,p1,q1⟩:=ha;obtain⟨t2,p2,q2⟩:=hb;refine⟨_,IC Qk p1 p2,fun ρ σ G0 H0 G H Q P E h k=>?_⟩;refine q1 ρ σ G0 H0 G H _ _ E h fun v H1 ra G1 x1 xw o8=>?_
 refine q2 ρ σ G0 H0 G1 H1 _ _ (E.ext x1) o8 fun u H2 rb G2 x2 sN kx=>?_
 obtain⟨G3,x3,oY,_⟩:=sN.freeze x2;split at kx
 ·rename_i ds kk e1;obtain⟨p,xs,rfl,c1,c2,c3,c4⟩:=xw;rw[e1] at oY;simp only[Rep] at oY;have qt:=x1.trans x3;refine⟨p,kk,xs,rfl,oY,x3.h _ _ c3,kx.1,kx.2.1,by rw[c4.length];exact kx.2.2.1,fun l hl=>?_⟩;exact k _ _ (.ow _) G3 (qt.trans (.own qt.s hl)) ⟨l,_,rfl,qt.h.free hl,qt.s.free hl,jz,(c4.mono x3.g).rep kk.toNat⟩ kx.2.2.2
 ·exact kx.elim
end
end L2
namespace HT
open PySem PyProof.Rows
noncomputable def fu:List Int->List Int->Bool
 | [],[]=>false
 | [],_::_=>false
 | _::_,[]=>true
 | x::xs,y::ys=>if x=y then fu xs ys else decide (y<x)
end HT
namespace L2
open PySem PySem.Spec PyProof.Rows
end L2
namespace HT
theorem nB:∀t:List Int,fu t t=false
 | []=>rfl
 | a::t=>by unfold fu;simp[nB t]
theorem o7:∀a b:List Int,fu a b=true->fu b a=false
 | [],[],h=>rfl
 | [],_::_,h=>by unfold fu at h;cases h
 | _::_,[],h=>by unfold fu;rfl
 | x::xs,y::ys,h=>by
  unfold fu at h ⊢;by_cases e:x=y
  ·subst e;simp only[aR] at h ⊢;simpa using o7 xs ys (by simpa using h)
  ·have e2:¬y=x:=fun x=>e x.symm
   simp[e,e2] at h ⊢;omega
theorem ml:∀a b c:List Int,fu a b=false->fu b c=false->fu a c=false
 | [],[],c,h,h2=>h2
 | [],_::_,[],h,h2=>by unfold fu;rfl
 | [],_::_,_::_,h,h2=>by unfold fu;rfl
 | _::_,[],_,h,_=>by unfold fu at h;cases h
 | x::xs,y::ys,[],h,h2=>by unfold fu at h2;cases h2
 | x::xs,y::ys,z::zs,h,h2=>by
  unfold fu at h h2 ⊢;have ih:=ml xs ys zs;by_cases e:x=y
  ·subst e;by_cases e2:x=z
   ·subst e2;simp at h h2 ⊢;exact ih h h2
   ·simp[e2] at h h2 ⊢;omega
  ·by_cases e2:y=z
   ·subst e2;simp[e] at h h2 ⊢;omega
   ·simp[e,e2] at h h2;have e3:¬x=z:=by omega
    simp[e3];omega
end HT
namespace L2
open PySem PySem.Spec PyProof.Rows
section
variable {X:Cx} {pos p kp:Pos} {e e2:Expr} {te te2:TD}
noncomputable def oN:List D->Option (List (List Int))
 | []=>some []
 | .tup es::r=>match mW es,oN r with
  | some a,some b=>some (a::b)
  | _,_=>none
 | _=>none
theorem Kp{K:Z9}{G:Hp}:∀{es:List D} {jV:List (List Int)} {vs:List V},oN es=some jV->eQ K G vs es->vs.length=jV.length/\∀(i:Nat) x t,vs[i]?=some x->jV[i]?=some t->Rep K G x (.tup (t.map D.int))/\∃b,x=.ref b/\iK K G b (t.map V.int)
 | [],jV,[],h,_=>by simp only[oN,aN] at h;subst h;exact⟨rfl,fun i x t e=>by simp at e⟩
 | .tup es::r,jV,v::vs,h,rs=>by
  simp only[eQ] at rs;simp only[oN] at h;split at h
  ·rename_i a b ha hb;simp only[aN] at h;subst h;obtain⟨h1,h2⟩:=Kp hb rs.2;refine⟨by simp[h1],fun i x t e1 e2=>?_⟩;cases i with
   | zero=>
    simp only[bX,aN] at e1 e2;subst e1 e2;have r1:=rs.1;rw[xn ha] at r1;refine⟨r1,?_⟩;simp only[Rep] at r1;obtain⟨p,xs,rfl,q1,q2⟩:=r1;rw[xj q2] at q1;exact⟨p,rfl,iK.of q1⟩
   | succ i=>
    simp only[bD] at e1 e2;exact h2 i x t e1 e2
  ·cases h
 | [],_,_::_,_,rs=>by simp only[eQ] at rs
 | _::_,_,[],_,rs=>by simp only[eQ] at rs
 | .int _::_,_,_::_,h,_=>by simp[oN] at h
 | .str _::_,_,_::_,h,_=>by simp[oN] at h
 | .lst _::_,_,_::_,h,_=>by simp[oN] at h
 | .non::_,_,_::_,h,_=>by simp[oN] at h
 | .bl _::_,_,_::_,h,_=>by simp[oN] at h
 | .obj _ _::_,_,_::_,h,_=>by simp[oN] at h
 | .dic _::_,_,_::_,h,_=>by simp[oN] at h
 | .dit _::_,_,_::_,h,_=>by simp[oN] at h
 | .exc _::_,_,_::_,h,_=>by simp[oN] at h
end
end L2
namespace Ts
open PySem PyProof.Rows
noncomputable def vK:Bool->Keyed->Array Keyed->Nat->Nat->Nat->StateT SortSt Sem (Option Nat):=sortPriv% PySem.Builtin.gallop
noncomputable def EU:Array Keyed->Array Keyed->StateT SortSt Sem (Array Keyed):=sortPriv% PySem.Builtin.mergeLo
noncomputable def ET:Array Keyed->Array Keyed->StateT SortSt Sem (Array Keyed):=sortPriv% PySem.Builtin.mergeHi
noncomputable def w5(left:Bool)(key:Keyed)(arr:Array Keyed)(base i:Nat):StateT SortSt Sem (Option Bool):=do
 let x <-elem' arr (base+i)
 if left then lt' x key else return (<-lt' key x).map (!·)
theorem Ud(left:Bool)(key:Keyed)(arr:Array Keyed)(base n hint:Nat):vK left key arr base n hint=(do
 let mut lV:=0
 let mut rT:=1
 let mut lo:=0
 let mut hi:=0
 let some right <-w5 left key arr base hint | return none
 if right then
  let mj:=n-hint
  for _ in [0:n] do
   if rT>=mj then break
   let some more <-w5 left key arr base (hint+rT) | return none
   if !more then break
   lV:=rT
   rT:=2*rT+1
  lo:=hint+lV+1
  hi:=hint+min rT mj
 else
  let mj:=hint+1
  for _ in [0:n] do
   if rT>=mj then break
   let some found <-w5 left key arr base (hint-rT) | return none
   if found then break
   lV:=rT
   rT:=2*rT+1
  lo:=hint+1-min rT mj
  hi:=hint-lV
 for _ in [0:n] do
  if lo>=hi then break
  let m:=lo+(hi-lo)/2
  let some more <-w5 left key arr base m | return none
  if more then lo:=m+1 else hi:=m
 return some hi):=rfl
variable {M:Model} {A:Around} {E:Value->Shared->Prop} {s:Shared}
structure Rk (M:Model) (A:Around) (E:Value->Shared->Prop) (s:Shared) (κ:SortKind) (ok:Keyed->Prop) (rk:Keyed->Int):Prop where
 lt:∀x y (st:SortSt) (Q:Option Bool->SortSt->Prop),ok x->ok y->kindOf st=κ->Q (some (decide (rk x<rk y))) st->wpS M A E s (lt' x y) Q st
theorem ik{arr:Array Keyed}{i:Nat}{Q:Keyed->SortSt->Prop}{st:SortSt}(h:i<arr.size)(q:Q arr[i] st):wpS M A E s (elem' arr i) Q st:=by
 rw[elem'_eq,cE h];exact ag q
theorem Uc{κ:SortKind}{ok:Keyed->Prop}{rk:Keyed->Int}(R:Rk M A E s κ ok rk){left:Bool}{key:Keyed}{arr:Array Keyed}{base i:Nat}{Q:Option Bool->SortSt->Prop}{st:SortSt}(hk:kindOf st=κ)(oa:∀x∈arr,ok x)(Dn:ok key)(h:base+i<arr.size)
  (q:Q (some (if left=true then decide (rk arr[base+i]<rk key) else !decide (rk key<rk arr[base+i]))) st):wpS M A E s (w5 left key arr base i) Q st:=by
 unfold w5;refine aj (ik h ?_);cases left with
 | true=>exact R.lt _ _ st _ (oa _ (aS h)) Dn hk q
 | false=>exact aj (R.lt _ _ st _ Dn (oa _ (aS h)) hk (ag q))
def Cut(b:Nat->Bool)(n k:Nat):Prop:=k<=n/\∀i,i<n->(b i=true↔i<k)
theorem qr{κ:SortKind}{ok:Keyed->Prop}{rk:Keyed->Int}(R:Rk M A E s κ ok rk){left:Bool}{key:Keyed}{arr:Array Keyed}{base n hint k:Nat}{Q:Option Nat->SortSt->Prop}{st:SortSt}(hk:kindOf st=κ)(oa:∀x∈arr,ok x)(Dn:ok key)(hn:base+n<=arr.size)(hh:hint<n)
  (hc:Cut (fun i=>if left=true then decide (rk (arr.getD (base+i) (Value.none,Value.none))<rk key) else !decide (rk key<rk (arr.getD (base+i) (Value.none,Value.none)))) n k) (q:Q (some k) st):wpS M A E s (vK left key arr base n hint) Q st:=by
 have BV:∀i,i<n->∀{Q':Option Bool->SortSt->Prop},Q' (some (decide (i<k))) st->wpS M A E s (w5 left key arr base i) Q' st:=fun i hi Q' h=>by
  refine Uc R hk oa Dn (by omega) ?_;have h2:=hc.2 i hi;have e:arr.getD (base+i) (Value.none,Value.none)=arr[base+i]'(by omega):=by simp[Array.getD,show base+i<arr.size by omega]
  dsimp only at h2;rw[e] at h2;rw[show(if left=true then decide (rk (arr[base+i]'(by omega))<rk key) else !decide (rk key<rk (arr[base+i]'(by omega))))=decide (i<k) by rw[eh,h2,bF]];exact h
 have YH:=hc.1;rw[Ud];refine aj (BV hint hh ?_);dsimp only;by_cases h0:hint<k
 ·simp only[h0,bR,aR];refine aj (cF (br (Q:=fun c eX=>eX=st/\c.1=none/\hint+c.2.1<k/\k<=hint+min c.2.2 (n-hint)) (fun i c eX=>eX=st/\c.1=none/\hint+c.2.1<k/\i+1<=c.2.2) ?_ ?_ ⟨rfl,rfl,by show hint+0<k;omega,by show 0+1<=1;omega⟩) ?_)
  ·rintro i ⟨c1,la,of⟩ eX _ oF ⟨rfl,gq,h1,h2⟩;dsimp only at gq h1 h2 ⊢;subst gq;by_cases hd:of>=n-hint
   ·rw[if_pos hd];exact ag ⟨rfl,rfl,h1,by dsimp only;omega⟩
   ·rw[if_neg hd];refine aj (BV _ (by omega) ?_);dsimp only;by_cases hm:hint+of<k
    ·simp only[hm,bR,bS,af,aJ];exact ag ⟨rfl,rfl,hm,by dsimp only;omega⟩
    ·simp only[hm,bp,dZ,aR];exact ag ⟨rfl,rfl,h1,by dsimp only;omega⟩
  ·rintro⟨c1,la,of⟩ eX ⟨rfl,gq,h1,h2⟩;dsimp only at gq h1 h2 ⊢;exact⟨rfl,gq,h1,by rw[cR (aL n)] at h2;omega⟩
  ·rintro⟨c1,la,of⟩ eX ⟨rfl,gq,h1,h2⟩;dsimp only at gq h1 h2 ⊢;subst gq;dsimp only;refine aj (cF (br (Q:=fun c fi=>fi=eX/\c.1=none/\c.2.2=k) (fun i c fi=>fi=eX/\c.1=none/\c.2.1<=k/\k<=c.2.2/\c.2.2<=n/\c.2.2-c.2.1+i<=n) ?_ ?_ ⟨rfl,rfl,by dsimp only;omega,by dsimp only;omega,by dsimp only;omega,by dsimp only;omega⟩) ?_)
   ·rintro i ⟨c1,lo,hi⟩ fi _ oF ⟨rfl,gq,h1,h2,h3,h4⟩;dsimp only at gq h1 h2 h3 h4 ⊢;subst gq;by_cases hd:lo>=hi
    ·rw[if_pos hd];exact ag ⟨rfl,rfl,by dsimp only;omega⟩
    ·rw[if_neg hd];refine aj (BV _ (by omega) ?_);dsimp only;by_cases hm:lo+(hi-lo)/2<k
     ·simp only[hm,bR,aR];exact ag ⟨rfl,rfl,by dsimp only;omega,h2,h3,by dsimp only;omega⟩
     ·simp only[hm,bp,af,aJ];exact ag ⟨rfl,rfl,h1,by dsimp only;omega,by dsimp only;omega,by dsimp only;omega⟩
   ·rintro⟨c1,lo,hi⟩ fi ⟨rfl,gq,h1,h2,h3,h4⟩;dsimp only at gq h1 h2 h3 h4 ⊢;exact⟨rfl,gq,by omega⟩
   ·rintro⟨c1,lo,hi⟩ fi ⟨rfl,gq,h1⟩;dsimp only at gq h1 ⊢;subst gq h1;exact ag q
 ·simp only[h0,bp,af,aJ];refine aj (cF (br (Q:=fun c eX=>eX=st/\c.1=none/\k<=hint-c.2.1/\c.2.1<=hint/\hint+1-min c.2.2 (hint+1)<=k) (fun i c eX=>eX=st/\c.1=none/\k<=hint-c.2.1/\c.2.1<=hint/\i+1<=c.2.2) ?_ ?_ ⟨rfl,rfl,by show k<=hint-0;omega,aL _,by show 0+1<=1;omega⟩) ?_)
  ·rintro i ⟨c1,la,of⟩ eX _ oF ⟨rfl,gq,h1,h2,h3⟩;dsimp only at gq h1 h2 h3 ⊢;subst gq;by_cases hd:of>=hint+1
   ·rw[if_pos hd];exact ag ⟨rfl,rfl,h1,h2,by dsimp only;omega⟩
   ·rw[if_neg hd];refine aj (BV _ (by omega) ?_);dsimp only;by_cases hm:hint-of<k
    ·simp only[hm,bR,aR];exact ag ⟨rfl,rfl,h1,h2,by dsimp only;omega⟩
    ·simp only[hm,bp,af,aJ];exact ag ⟨rfl,rfl,by dsimp only;omega,by dsimp only;omega,by dsimp only;omega⟩
  ·rintro⟨c1,la,of⟩ eX ⟨rfl,gq,h1,h2,h3⟩;dsimp only at gq h1 h2 h3 ⊢;exact⟨rfl,gq,h1,h2,by rw[cR (aL n)] at h3;omega⟩
  ·rintro⟨c1,la,of⟩ eX ⟨rfl,gq,h1,h2,h3⟩;dsimp only at gq h1 h2 h3 ⊢;subst gq;dsimp only;refine aj (cF (br (Q:=fun c fi=>fi=eX/\c.1=none/\c.2.2=k) (fun i c fi=>fi=eX/\c.1=none/\c.2.1<=k/\k<=c.2.2/\c.2.2<=n/\c.2.2-c.2.1+i<=n) ?_ ?_ ⟨rfl,rfl,by dsimp only;omega,by dsimp only;omega,by dsimp only;omega,by dsimp only;omega⟩) ?_)
   ·rintro i ⟨c1,lo,hi⟩ fi _ oF ⟨rfl,gq,h1,h2,h3,h4⟩;dsimp only at gq h1 h2 h3 h4 ⊢;subst gq;by_cases hd:lo>=hi
    ·rw[if_pos hd];exact ag ⟨rfl,rfl,by dsimp only;omega⟩
    ·rw[if_neg hd];refine aj (BV _ (by omega) ?_);dsimp only;by_cases hm:lo+(hi-lo)/2<k
     ·simp only[hm,bR,aR];exact ag ⟨rfl,rfl,by dsimp only;omega,h2,h3,by dsimp only;omega⟩
     ·simp only[hm,bp,af,aJ];exact ag ⟨rfl,rfl,h1,by dsimp only;omega,by dsimp only;omega,by dsimp only;omega⟩
   ·rintro⟨c1,lo,hi⟩ fi ⟨rfl,gq,h1,h2,h3,h4⟩;dsimp only at gq h1 h2 h3 h4 ⊢;exact⟨rfl,gq,by omega⟩
   ·rintro⟨c1,lo,hi⟩ fi ⟨rfl,gq,h1⟩;dsimp only at gq h1 ⊢;subst gq h1;exact ag q
variable {α:Type} (rk:α->Int)
structure MI (a b out:List α) (ia ib:Nat):Prop where
 la:ia<=a.length
 lb:ib<=b.length
 pm:out.Perm (a.take ia++b.take ib)
 so:out.Pairwise fun x y=>rk x<=rk y
 ga:∀x∈out,∀y∈a.drop ia,rk x<=rk y
 gb:∀x∈out,∀y∈b.drop ib,rk x<=rk y
variable {rk}
theorem MI.len{a b out:List α}{ia ib:Nat}(h:MI rk a b out ia ib):out.length=ia+ib:=by
 have:=h.pm.length_eq;rw[au,aM,aM] at this;have:=h.la;have:=h.lb;omega
theorem Lg{l:List α}{i k:Nat}:l.drop i=(l.drop i).take k++l.drop (i+k):=by
 rw[<-List.drop_drop,bH]
theorem MI.i9{a b out:List α}{ia ib:Nat}(h:MI rk a b out ia ib)(sa:a.Pairwise fun x y=>rk x<=rk y){k:Nat}(hk:ia+k<=a.length)(hb:∀x∈(a.drop ia).take k,∀y∈b.drop ib,rk x<=rk y):MI rk a b (out++(a.drop ia).take k) (ia+k) ib:=by
 have sd:(a.drop ia).Pairwise fun x y=>rk x<=rk y:=sa.sublist (List.drop_sublist _ _)
 rw[Lg (k:=k),bM] at sd;have ha:=h.ga;rw[Lg (k:=k)] at ha;refine⟨hk,h.lb,?_,?_,fun x hx y hy=>?_,fun x hx y hy=>?_⟩
 ·rw[List.take_add];have:=h.pm.append_right ((a.drop ia).take k);refine this.trans ?_;rw[bO,bO];exact List.Perm.append_left _ ec
 ·rw[bM];exact⟨h.so,sd.1,fun x hx y hy=>ha x hx y (bZ _ hy)⟩
 ·rcases ay.mp hx with hx | hx
  ·exact ha x hx y (bu _ hy)
  ·exact sd.2.2 x hx y hy
 ·rcases ay.mp hx with hx | hx
  ·exact h.gb x hx y hy
  ·exact hb x hx y hy
theorem MI.swap{a b out:List α}{ia ib:Nat}(h:MI rk a b out ia ib):MI rk b a out ib ia:=⟨h.lb,h.la,h.pm.trans ec,h.so,h.gb,h.ga⟩
theorem MI.mn{a b out:List α}{ia ib:Nat}(h:MI rk a b out ia ib)(sb:b.Pairwise fun x y=>rk x<=rk y){k:Nat}(hk:ib+k<=b.length)(ha:∀x∈(b.drop ib).take k,∀y∈a.drop ia,rk x<=rk y):MI rk a b (out++(b.drop ib).take k) ia (ib+k):=(h.swap.i9 sb hk ha).swap
theorem Ko{l:List α}{i:Nat}(h:i<l.length):(l.drop i).take 1=[l[i]]:=by
 rw[bJ h];rfl
theorem Ub{l:List α}(s:l.Pairwise fun x y=>rk x<=rk y){i:Nat}(h:i<l.length):∀y∈l.drop i,rk l[i]<=rk y:=by
 intro y hy;rw[bJ h] at hy;rcases ar.mp hy with rfl | hy
 ·exact cj _
 ·have sd:(l.drop i).Pairwise fun x y=>rk x<=rk y:=s.sublist (List.drop_sublist _ _)
  rw[bJ h,dg] at sd;exact sd.1 y hy
theorem MI.gu{a b out:List α}{ia ib:Nat}(h:MI rk a b out ia ib)(sa:a.Pairwise fun x y=>rk x<=rk y)(sb:b.Pairwise fun x y=>rk x<=rk y)(hi:ia<a.length)(hj:ib<b.length)(hle:rk a[ia]<=rk b[ib]):MI rk a b (out++[a[ia]]) (ia+1) ib:=by
 have:=h.i9 sa (k:=1) (by omega) (fun x hx y hy=>by
  rw[Ko hi] at hx;simp at hx;subst hx;exact Int.le_trans hle (Ub sb hj y hy))
 rwa [Ko hi] at this
theorem MI.ju{a b out:List α}{ia ib:Nat}(h:MI rk a b out ia ib)(sa:a.Pairwise fun x y=>rk x<=rk y)(sb:b.Pairwise fun x y=>rk x<=rk y)(hi:ia<a.length)(hj:ib<b.length)(hle:rk b[ib]<=rk a[ia]):MI rk a b (out++[b[ib]]) ia (ib+1):=(h.swap.gu sb sa hj hi hle).swap
theorem MI.kS{a b out:List α}{ia ib:Nat}(h:MI rk a b out ia ib)(sa:a.Pairwise fun x y=>rk x<=rk y)(sb:b.Pairwise fun x y=>rk x<=rk y)(hle:∀x∈a.drop ia,∀y∈b.drop ib,rk x<=rk y) :
  (out++a.drop ia++b.drop ib).Perm (a++b)/\(out++a.drop ia++b.drop ib).Pairwise fun x y=>rk x<=rk y:=by
 have h1:=h.i9 sa (k:=a.length-ia) (by have:=h.la;omega) (fun x hx=>hle x (cw hx));have e1:(a.drop ia).take (a.length-ia)=a.drop ia:=bf (by simp);rw[e1] at h1
 have h2:=h1.mn sb (k:=b.length-ib) (by have:=h.lb;omega) (fun x hx y hy=>by
  rw[show ia+(a.length-ia)=a.length by have:=h.la;omega,List.drop_length] at hy;cases hy)
 have e2:(b.drop ib).take (b.length-ib)=b.drop ib:=bf (by simp);rw[e2] at h2;refine⟨?_,h2.so⟩;have:=h2.pm;rwa [show ia+(a.length-ia)=a.length by have:=h.la;omega,show ib+(b.length-ib)=b.length by have:=h.lb;omega,bN,bN] at this
theorem MI.nT{a b out:List α}{ia ib:Nat}(h:MI rk a b out ia ib)(sa:a.Pairwise fun x y=>rk x<=rk y)(sb:b.Pairwise fun x y=>rk x<=rk y)(hle:∀x∈b.drop ib,∀y∈a.drop ia,rk x<=rk y) :
  (out++b.drop ib++a.drop ia).Perm (a++b)/\(out++b.drop ib++a.drop ia).Pairwise fun x y=>rk x<=rk y:=by
 obtain⟨h1,h2⟩:=h.swap.kS sb sa hle;exact⟨h1.trans ec,h2⟩
abbrev oT(st:SortSt)(g:Nat):SortSt:=SortSt.mk' (kindOf st) (arrOf st) (pendingOf st) g (failedOf st)
noncomputable def AL:Nat->StateT SortSt Sem Unit:=sortPriv% PySem.Builtin.setMinGallop
theorem yZ(g:Nat):AL g=modify fun st=>oT st g:=rfl
theorem Vk(a b:Array Keyed):EU a b=(do
 rule "list.sort.merge-lo"
 let total:=a.size+b.size
 let done (out:Array Keyed) (ia ib:Nat):=out++a.extract ia a.size++b.extract ib b.size
 let lW (out:Array Keyed) (ia ib:Nat):=out++b.extract ib b.size++a.extract ia a.size
 let mut out:Array Keyed:=#[<-elem' b 0]
 let mut ia:=0
 let mut ib:=1
 if ib==b.size then return done out ia ib
 if ia+1==a.size then return lW out ia ib
 let mut minGallop:=gallopOf (<-get)
 for _ in [0:total] do
  let mut gZ:=0
  let mut gW:=0
  for _ in [0:total] do
   let some BX <-lt' (<-elem' b ib) (<-elem' a ia) | return done out ia ib
   if BX then
    out:=out.push (<-elem' b ib);ib:=ib+1;gW:=gW+1;gZ:=0
    if ib==b.size then return done out ia ib
    if gW>=minGallop then break
   else
    out:=out.push (<-elem' a ia);ia:=ia+1;gZ:=gZ+1;gW:=0
    if ia+1==a.size then return lW out ia ib
    if gZ>=minGallop then break
  rule "list.sort.gallop"
  minGallop:=minGallop+1
  for _ in [0:total] do
   if minGallop>1 then minGallop:=minGallop-1
   AL minGallop
   let some k <-vK false (<-elem' b ib) a ia (a.size-ia) 0 | return done out ia ib
   gZ:=k
   if k>0 then
    out:=out++a.extract ia (ia+k);ia:=ia+k
    if ia+1==a.size then return lW out ia ib
    if ia==a.size then return done out ia ib
   out:=out.push (<-elem' b ib);ib:=ib+1
   if ib==b.size then return done out ia ib
   let some k <-vK true (<-elem' a ia) b ib (b.size-ib) 0 | return done out ia ib
   gW:=k
   if k>0 then
    out:=out++b.extract ib (ib+k);ib:=ib+k
    if ib==b.size then return done out ia ib
   out:=out.push (<-elem' a ia);ia:=ia+1
   if ia+1==a.size then return lW out ia ib
   if gZ<7&&gW<7 then break
  minGallop:=minGallop+1
  AL minGallop
 unsupported "internal:list.sort.merge-bound"):=rfl
variable {M:Model} {A:Around} {E:Value->Shared->Prop} {s:Shared}
theorem xi{x:String}{Q:Unit->SortSt->Prop}{st:SortSt}(q:Q () st):wpS M A E s (liftM (rule x):StateT SortSt Sem Unit) Q st:=wpS_lift (wpAny_rule ⟨rfl,q⟩)
def gQ(rk:Keyed->Int)(l:List Keyed):Prop:=l.Pairwise fun x y=>rk x<=rk y
def qi(rk:Keyed->Int)(a b r:Array Keyed):Prop:=r.toList.Perm (a.toList++b.toList)/\gQ rk r.toList
structure Mw (rk:Keyed->Int) (a b out:Array Keyed) (ia ib:Nat):Prop where
 mi:MI rk a.toList b.toList out.toList ia ib
 la:ia+1<a.size
 lb:ib<b.size
section
variable {rk:Keyed->Int} {a b out:Array Keyed} {ia ib:Nat}
theorem CP(a:Array Keyed)(i:Nat):(a.extract i a.size).toList=a.toList.drop i:=by
 rw[du];simp only[List.extract];exact bf (by simp)
theorem JL(a:Array Keyed)(i k:Nat):(a.extract i (i+k)).toList=(a.toList.drop i).take k:=by
 rw[du];simp[List.extract]
theorem Kn(a:Array Keyed):a.toList.drop a.size=[]:=by simp
theorem rR(h:MI rk a.toList b.toList out.toList ia ib)(sa:gQ rk a.toList)(sb:gQ rk b.toList)(hi:ia=a.size\/ib=b.size):qi rk a b (out++a.extract ia a.size++b.extract ib b.size):=by
 obtain⟨h1,h2⟩:=h.kS sa sb (fun x hx y hy=>by
  rcases hi with e | e
  ·rw[e,Kn] at hx;cases hx
  ·rw[e,Kn] at hy;cases hy)
 unfold qi gQ;rw[bK,bK,CP,CP];exact⟨h1,h2⟩
theorem rQ(h:MI rk a.toList b.toList out.toList ia ib)(sa:gQ rk a.toList)(sb:gQ rk b.toList)(ha:0<a.size)(hi:ia+1=a.size)(h9:∀x∈b,rk x<rk (a[a.size-1])):qi rk a b (out++b.extract ib b.size++a.extract ia a.size):=by
 obtain⟨h1,h2⟩:=h.nT sa sb (fun x hx y hy=>by
  have e:a.toList.drop ia=[a[a.size-1]]:=by
   have hl:ia<a.toList.length:=by simp;omega
   rw[bJ hl,List.drop_eq_nil_of_le (by simp;omega)];simp[show ia=a.size-1 by omega]
  rw[e] at hy;simp at hy;have:=h9 x (by simpa using cS hx);rw[hy];omega)
 unfold qi gQ;rw[bK,bK,CP,CP];exact⟨h1,h2⟩
end
theorem vy(p:Nat->Bool):∀n,(∀i j,i<=j->j<n->p j=true->p i=true)->∃k,Cut p n k
 | 0,_=>⟨0,az _,fun i hi=>absurd hi (Nat.not_lt_zero i)⟩
 | n+1,h=>by
  obtain⟨k,k1,k2⟩:=vy p n fun i j jx hj=>h i j jx (by omega)
  cases hp:p n with
  | true=>
   refine⟨n+1,az _,fun i hi=>⟨fun _=>hi,fun _=>?_⟩⟩;exact h i n (by omega) (by omega) hp
  | false=>
   refine⟨k,by omega,fun i hi=>?_⟩;by_cases e:i=n
   ·subst e;rw[hp];exact⟨fun z=>(by cases z),fun z=>by omega⟩
   ·exact k2 i (by omega)
noncomputable abbrev dk:Keyed:=(Value.none,Value.none)
theorem iW{a:Array Keyed}{i:Nat}(h:i<a.size):a.getD i dk=a[i]:=by simp[Array.getD,h]
theorem vQ{rk:Keyed->Int}{a:Array Keyed}(sa:gQ rk a.toList){i j:Nat}(h:i<=j)(hj:j<a.size):rk (a.getD i dk)<=rk (a.getD j dk):=by
 rw[iW hj,iW (by omega)];by_cases e:i=j
 ·subst e;exact cj _
 ·have:=b9.mp sa i j (by simp;omega) (by simpa using hj) (by omega);simpa using this
theorem JK{a:Array Keyed}{i k:Nat}(h:i+k<=a.size){x:Keyed}(hx:x∈(a.toList.drop i).take k):∃t,t<k/\x=a.getD (i+t) dk:=by
 obtain⟨t,ht,e⟩:=bj hx;have jF:t<k:=by simp at ht;omega
 refine⟨t,jF,?_⟩;rw[iW (by omega),<-e];simp
theorem JJ{a:Array Keyed}{i:Nat}{x:Keyed}(hx:x∈a.toList.drop i):∃t,i+t<a.size/\x=a.getD (i+t) dk:=by
 obtain⟨t,ht,e⟩:=bj hx;have jF:i+t<a.size:=by simp at ht;omega
 refine⟨t,jF,?_⟩;rw[iW jF,<-e];simp
theorem Ig{rk:Keyed->Int}{a:Array Keyed}(sa:gQ rk a.toList)(ia:Nat)(key:Keyed):∃k,Cut (fun i=>if false=true then decide (rk (a.getD (ia+i) dk)<rk key) else !decide (rk key<rk (a.getD (ia+i) dk))) (a.size-ia) k:=
 vy _ _ fun i j jx hj h=>by
  have:=vQ (rk:=rk) sa (show ia+i<=ia+j by omega) (by omega);simp only[af,aJ,bG,aZ] at h ⊢;omega
theorem Ck{rk:Keyed->Int}{b:Array Keyed}(sb:gQ rk b.toList)(ib:Nat)(key:Keyed):∃k,Cut (fun i=>if true=true then decide (rk (b.getD (ib+i) dk)<rk key) else !decide (rk key<rk (b.getD (ib+i) dk))) (b.size-ib) k:=
 vy _ _ fun i j jx hj h=>by
  have:=vQ (rk:=rk) sb (show ib+i<=ib+j by omega) (by omega);simp only[aR,bF] at h ⊢;omega
theorem MI.tF{rk:Keyed->Int}{a b out:Array Keyed}{ia ib k:Nat}(h:MI rk a.toList b.toList out.toList ia ib)(sa:gQ rk a.toList)(sb:gQ rk b.toList)(la:ia<a.size)(lb:ib<b.size)(hc:Cut (fun i=>if false=true then decide (rk (a.getD (ia+i) dk)<rk b[ib]) else !decide (rk b[ib]<rk (a.getD (ia+i) dk))) (a.size-ia) k) :
  MI rk a.toList b.toList (out++a.extract ia (ia+k)).toList (ia+k) ib/\ia+k<=a.size/\(ia+k<a.size->rk b[ib]<rk (a.getD (ia+k) dk)):=by
 have hk:=hc.1;refine⟨?_,by omega,fun hl=>?_⟩
 ·rw[bK,JL];refine h.i9 sa (by simp;omega) fun x hx y hy=>?_
  obtain⟨t,ht,rfl⟩:=JK (by omega) hx;obtain⟨u,hu,rfl⟩:=JJ hy;have h1:=(hc.2 t (by omega)).mpr ht;have h2:=vQ (rk:=rk) sb (show ib<=ib+u by omega) hu;rw[iW lb] at h2;simp only[af,aJ,bG,aZ] at h1;omega
 ·have h1:=mt (hc.2 k (by omega)).mp (cV k);simpa using h1
theorem MI.nO{rk:Keyed->Int}{a b out:Array Keyed}{ia ib k:Nat}(h:MI rk a.toList b.toList out.toList ia ib)(sa:gQ rk a.toList)(sb:gQ rk b.toList)(la:ia<a.size)(lb:ib<=b.size)(hc:Cut (fun i=>if true=true then decide (rk (b.getD (ib+i) dk)<rk a[ia]) else !decide (rk a[ia]<rk (b.getD (ib+i) dk))) (b.size-ib) k) :
  MI rk a.toList b.toList (out++b.extract ib (ib+k)).toList ia (ib+k)/\ib+k<=b.size/\(ib+k<b.size->rk a[ia]<=rk (b.getD (ib+k) dk)):=by
 have hk:=hc.1;refine⟨?_,by omega,fun hl=>?_⟩
 ·rw[bK,JL];refine h.mn sb (by simp;omega) fun x hx y hy=>?_
  obtain⟨t,ht,rfl⟩:=JK (by omega) hx;obtain⟨u,hu,rfl⟩:=JJ hy;have h1:=(hc.2 t (by omega)).mpr ht;have h2:=vQ (rk:=rk) sa (show ia<=ia+u by omega) hu;rw[iW la] at h2;simp only[aR,bF] at h1;omega
 ·have h1:=mt (hc.2 k (by omega)).mp (cV k);simpa using h1
theorem Vj{κ:SortKind}{ok:Keyed->Prop}{rk:Keyed->Int}(R:Rk M A E s κ ok rk){a b:Array Keyed}{Q:Array Keyed->SortSt->Prop}{st:SortSt}(hk:kindOf st=κ)(oa:∀x∈a,ok x)(ob:∀x∈b,ok x)(sa:gQ rk a.toList)(sb:gQ rk b.toList)(ha:0<a.size)(hb:0<b.size)
  (h0:rk b[0]<rk a[0]) (h9:∀x∈b,rk x<rk (a[a.size-1])) (q:∀(r:Array Keyed) g,r.toList.Perm (a.toList++b.toList)->gQ rk r.toList->Q r (oT st g)):wpS M A E s (EU a b) Q st:=by
 rw[Vk];refine aj (xi ?_);refine aj (ik hb ?_);dsimp only;have jv:st=oT st (gallopOf st):=rfl;have m0:MI rk a.toList b.toList (#[b[0]]:Array Keyed).toList 0 1:=by
  have n0:MI rk a.toList b.toList [] 0 0:=⟨aL _,aL _,by simp,.nil,fun x hx=>(by cases hx),fun x hx=>(by cases hx)⟩
  have:=n0.ju sa sb (by simpa using ha) (by simpa using hb) (by simp only[av];omega);simpa using this
 by_cases c1:1=b.size
 ·rw[if_pos (by simpa using c1)];refine ag ?_;rw[jv];obtain⟨g1,g2⟩:=rR m0 sa sb (.inr c1);exact q _ _ g1 g2
 rw[if_neg (by simpa using c1)];by_cases c2:0+1=a.size
 ·rw[if_pos (by simpa using c2)];refine ag ?_;rw[jv];obtain⟨g1,g2⟩:=rQ m0 sa sb ha c2 h9;exact q _ _ g1 g2
 rw[if_neg (by simpa using c2)];refine aj (wpS_get ?_);refine aj (cF (br (Q:=fun(c:Option (Array Keyed)×Array Keyed×Nat×Nat×Nat) eX=>∃g r,eX=oT st g/\c.1=some r/\qi rk a b r) (fun i (c:Option (Array Keyed)×Array Keyed×Nat×Nat×Nat) eX=>(∃g,eX=oT st g)/\c.1=none/\Mw rk a b c.2.1 c.2.2.1 c.2.2.2.1/\i<c.2.1.size) ?_ ?_ ⟨⟨_,jv⟩,rfl,⟨m0,by dsimp only;omega,by dsimp only;omega⟩,by simp⟩) ?_)
 ·rintro i ⟨c1,out,ia,ib,mg⟩ eX _ oF ⟨⟨g,rfl⟩,gq,mw,hsz⟩;dsimp only at gq mw hsz ⊢;subst gq;refine aj (cF (br (Q:=fun(c:Option (Array Keyed)×Array Keyed×Nat×Nat×Nat×Nat) eX=>(eX=oT st g)/\((∃r,c.1=some r/\qi rk a b r)\/(c.1=none/\Mw rk a b c.2.1 c.2.2.1 c.2.2.2.1/\i+1<c.2.1.size)))
   (fun j (c:Option (Array Keyed)×Array Keyed×Nat×Nat×Nat×Nat) eX=>(eX=oT st g)/\c.1=none/\Mw rk a b c.2.1 c.2.2.1 c.2.2.2.1/\i+j<c.2.1.size) ?_ ?_ ⟨rfl,rfl,mw,by dsimp only;omega⟩) ?_)
  ·rintro j ⟨c1,out,ia,ib,ac,bc⟩ eX _ Hj ⟨rfl,gq,mw,hsz⟩;dsimp only at gq mw hsz ⊢;subst gq;have la:=mw.la;have lb:=mw.lb;have Md:ia<a.toList.length:=by simp;omega
   have Mc:ib<b.toList.length:=by simpa using lb
   refine aj (ik lb (aj (ik (show ia<a.size by omega) (aj (R.lt _ _ _ _ (ob _ (aS _)) (oa _ (aS _)) hk ?_)))));dsimp only;by_cases fI:rk b[ib]<rk (a[ia]'(by omega))
   ·simp only[fI,bR,aR];have mb:=mw.mi.ju sa sb Md Mc (by simp only[av];omega);rw[av,<-aF] at mb;refine aj (ik lb ?_);by_cases e1:ib+1=b.size
    ·rw[if_pos (by simpa using e1)];exact ag ⟨rfl,.inl ⟨_,rfl,rR mb sa sb (.inr e1)⟩⟩
    ·rw[if_neg (by simpa using e1)];split
     ·exact ag ⟨rfl,.inr ⟨rfl,⟨mb,la,by dsimp only;omega⟩,by simp;omega⟩⟩
     ·exact ag ⟨rfl,rfl,⟨mb,la,by dsimp only;omega⟩,by simp;omega⟩
   ·simp only[fI,bp,af,aJ];have ma:=mw.mi.gu sa sb Md Mc (by simp only[av];omega);rw[av,<-aF] at ma;refine aj (ik (show ia<a.size by omega) ?_);by_cases e1:ia+1+1=a.size
    ·rw[if_pos (by simpa using e1)];exact ag ⟨rfl,.inl ⟨_,rfl,rQ ma sa sb ha e1 h9⟩⟩
    ·rw[if_neg (by simpa using e1)];split
     ·exact ag ⟨rfl,.inr ⟨rfl,⟨ma,by dsimp only;omega,lb⟩,by simp;omega⟩⟩
     ·exact ag ⟨rfl,rfl,⟨ma,by dsimp only;omega,lb⟩,by simp;omega⟩
  ·rintro⟨c1,out,ia,ib,ac,bc⟩ eX ⟨rfl,gq,mw,hsz⟩;dsimp only at gq mw hsz ⊢;exact⟨rfl,.inr ⟨gq,mw,by rw[cR (aL _)] at hsz;omega⟩⟩
  ·rintro⟨c1,out,ia,ib,ac,bc⟩ eX ⟨rfl,hc⟩;dsimp only at hc ⊢;rcases hc with⟨r,rfl,gd⟩ | ⟨rfl,mw,hsz⟩
   ·exact ag ⟨g,r,rfl,rfl,gd⟩
   ·dsimp only;refine aj (xi ?_);refine aj (cF (br (Q:=fun(c:Option (Array Keyed)×Array Keyed×Nat×Nat×Nat×Nat×Nat) eX=>(∃g,eX=oT st g)/\((∃r,c.1=some r/\qi rk a b r)\/(c.1=none/\Mw rk a b c.2.1 c.2.2.1 c.2.2.2.1/\i+1<c.2.1.size)))
     (fun j (c:Option (Array Keyed)×Array Keyed×Nat×Nat×Nat×Nat×Nat) eX=>(∃g,eX=oT st g)/\c.1=none/\Mw rk a b c.2.1 c.2.2.1 c.2.2.2.1/\i+1<c.2.1.size) ?_ ?_ ⟨⟨_,rfl⟩,rfl,mw,hsz⟩) ?_)
    ·clear mw hsz;rintro j ⟨c1,out,ia,ib,mg,ac,bc⟩ eX _ Hj ⟨⟨g,rfl⟩,gq,mw,hsz⟩;dsimp only at gq mw hsz ⊢;subst gq;have la:=mw.la;have lb:=mw.lb;have ol:=mw.mi.len;rw[ah] at ol;by_cases hg:mg>1
     ·rw[if_pos hg];rw[yZ];refine aj (cH (aj (ik lb ?_)));obtain⟨k,ck⟩:=Ig sa ia b[ib];refine aj (qr R hk oa (ob _ (aS _)) (by omega) (by omega) ck ?_);dsimp only;obtain⟨m1,m2,m3⟩:=mw.mi.tF sa sb (by omega) lb ck;by_cases kp:k>0
      ·rw[if_pos kp];by_cases e1:ia+k+1=a.size
       ·rw[if_pos (by simpa using e1)];exact ag ⟨⟨_,rfl⟩,.inl ⟨_,rfl,rQ m1 sa sb ha e1 h9⟩⟩
       rw[if_neg (by simpa using e1)];by_cases e2:ia+k=a.size
       ·rw[if_pos (by simpa using e2)];exact ag ⟨⟨_,rfl⟩,.inl ⟨_,rfl,rR m1 sa sb (.inl e2)⟩⟩
       rw[if_neg (by simpa using e2)];have m4:=m3 (by omega);rw[iW (by omega)] at m4;have mb:=m1.ju sa sb (show ia+k<a.toList.length by simp;omega) (show ib<b.toList.length by simpa using lb) (by simp only[av];omega);rw[av,<-aF] at mb;refine aj (ik lb ?_);by_cases e3:ib+1=b.size
       ·rw[if_pos (by simpa using e3)];exact ag ⟨⟨_,rfl⟩,.inl ⟨_,rfl,rR mb sa sb (.inr e3)⟩⟩
       ·rw[if_neg (by simpa using e3)];refine aj (ik (show ia+k<a.size by omega) ?_);obtain⟨k1,tL⟩:=Ck sb (ib+1) (a[ia+k]'(by omega));refine aj (qr R hk ob (oa _ (aS _)) (by omega) (by omega) tL ?_);dsimp only;obtain⟨n1,n2,n3⟩:=mb.nO sa sb (by omega) (by omega) tL;by_cases kq:k1>0
        ·rw[if_pos kq];by_cases e4:ib+1+k1=b.size
         ·rw[if_pos (by simpa using e4)];exact ag ⟨⟨_,rfl⟩,.inl ⟨_,rfl,rR n1 sa sb (.inr e4)⟩⟩
         rw[if_neg (by simpa using e4)];have n4:=n3 (by omega);rw[iW (by omega)] at n4;have nn:=n1.gu sa sb (show ia+k<a.toList.length by simp;omega) (show ib+1+k1<b.toList.length by simp;omega) (by simpa using n4);rw[av,<-aF] at nn;refine aj (ik (show ia+k<a.size by omega) ?_);by_cases e5:ia+k+1+1=a.size
         ·rw[if_pos (by simpa using e5)];exact ag ⟨⟨_,rfl⟩,.inl ⟨_,rfl,rQ nn sa sb ha e5 h9⟩⟩
         rw[if_neg (by simpa using e5)];have nl:=nn.len;rw[ah] at nl;split
         ·exact ag ⟨⟨_,rfl⟩,.inr ⟨rfl,⟨nn,by dsimp only;omega,by dsimp only;omega⟩,by dsimp only;omega⟩⟩
         ·exact ag ⟨⟨_,rfl⟩,rfl,⟨nn,by dsimp only;omega,by dsimp only;omega⟩,by dsimp only;omega⟩
        ·rw[if_neg kq];have k0:k1=0:=by omega
         subst k0;have n4:=n3 (by omega);rw[iW (by omega)] at n4;have nn:=mb.gu sa sb (show ia+k<a.toList.length by simp;omega) (show ib+1<b.toList.length by simp;omega) (by simpa using n4);rw[av,<-aF] at nn;refine aj (ik (show ia+k<a.size by omega) ?_);by_cases e5:ia+k+1+1=a.size
         ·rw[if_pos (by simpa using e5)];exact ag ⟨⟨_,rfl⟩,.inl ⟨_,rfl,rQ nn sa sb ha e5 h9⟩⟩
         rw[if_neg (by simpa using e5)];have nl:=nn.len;rw[ah] at nl;split
         ·exact ag ⟨⟨_,rfl⟩,.inr ⟨rfl,⟨nn,by dsimp only;omega,by dsimp only;omega⟩,by dsimp only;omega⟩⟩
         ·exact ag ⟨⟨_,rfl⟩,rfl,⟨nn,by dsimp only;omega,by dsimp only;omega⟩,by dsimp only;omega⟩
      ·rw[if_neg kp];have k0:k=0:=by omega
       subst k0;have m4:=m3 (by omega);rw[iW (by omega)] at m4;have mb:=mw.mi.ju sa sb (show ia<a.toList.length by simp;omega) (show ib<b.toList.length by simpa using lb) (by simp only[av];exact cZ m4);rw[av,<-aF] at mb;refine aj (ik lb ?_);by_cases e3:ib+1=b.size
       ·rw[if_pos (by simpa using e3)];exact ag ⟨⟨_,rfl⟩,.inl ⟨_,rfl,rR mb sa sb (.inr e3)⟩⟩
       ·rw[if_neg (by simpa using e3)];refine aj (ik (show ia<a.size by omega) ?_);obtain⟨k1,tL⟩:=Ck sb (ib+1) (a[ia]'(by omega));refine aj (qr R hk ob (oa _ (aS _)) (by omega) (by omega) tL ?_);dsimp only;obtain⟨n1,n2,n3⟩:=mb.nO sa sb (by omega) (by omega) tL;by_cases kq:k1>0
        ·rw[if_pos kq];by_cases e4:ib+1+k1=b.size
         ·rw[if_pos (by simpa using e4)];exact ag ⟨⟨_,rfl⟩,.inl ⟨_,rfl,rR n1 sa sb (.inr e4)⟩⟩
         rw[if_neg (by simpa using e4)];have n4:=n3 (by omega);rw[iW (by omega)] at n4;have nn:=n1.gu sa sb (show ia<a.toList.length by simp;omega) (show ib+1+k1<b.toList.length by simp;omega) (by simpa using n4);rw[av,<-aF] at nn;refine aj (ik (show ia<a.size by omega) ?_);by_cases e5:ia+1+1=a.size
         ·rw[if_pos (by simpa using e5)];exact ag ⟨⟨_,rfl⟩,.inl ⟨_,rfl,rQ nn sa sb ha e5 h9⟩⟩
         rw[if_neg (by simpa using e5)];have nl:=nn.len;rw[ah] at nl;split
         ·exact ag ⟨⟨_,rfl⟩,.inr ⟨rfl,⟨nn,by dsimp only;omega,by dsimp only;omega⟩,by dsimp only;omega⟩⟩
         ·exact ag ⟨⟨_,rfl⟩,rfl,⟨nn,by dsimp only;omega,by dsimp only;omega⟩,by dsimp only;omega⟩
        ·rw[if_neg kq];have k0:k1=0:=by omega
         subst k0;have n4:=n3 (by omega);rw[iW (by omega)] at n4;have nn:=mb.gu sa sb (show ia<a.toList.length by simp;omega) (show ib+1<b.toList.length by simp;omega) (by simpa using n4);rw[av,<-aF] at nn;refine aj (ik (show ia<a.size by omega) ?_);by_cases e5:ia+1+1=a.size
         ·rw[if_pos (by simpa using e5)];exact ag ⟨⟨_,rfl⟩,.inl ⟨_,rfl,rQ nn sa sb ha e5 h9⟩⟩
         rw[if_neg (by simpa using e5)];have nl:=nn.len;rw[ah] at nl;split
         ·exact ag ⟨⟨_,rfl⟩,.inr ⟨rfl,⟨nn,by dsimp only;omega,by dsimp only;omega⟩,by dsimp only;omega⟩⟩
         ·exact ag ⟨⟨_,rfl⟩,rfl,⟨nn,by dsimp only;omega,by dsimp only;omega⟩,by dsimp only;omega⟩
     ·rw[if_neg hg];rw[yZ];refine aj (cH (aj (ik lb ?_)));obtain⟨k,ck⟩:=Ig sa ia b[ib];refine aj (qr R hk oa (ob _ (aS _)) (by omega) (by omega) ck ?_);dsimp only;obtain⟨m1,m2,m3⟩:=mw.mi.tF sa sb (by omega) lb ck;by_cases kp:k>0
      ·rw[if_pos kp];by_cases e1:ia+k+1=a.size
       ·rw[if_pos (by simpa using e1)];exact ag ⟨⟨_,rfl⟩,.inl ⟨_,rfl,rQ m1 sa sb ha e1 h9⟩⟩
       rw[if_neg (by simpa using e1)];by_cases e2:ia+k=a.size
       ·rw[if_pos (by simpa using e2)];exact ag ⟨⟨_,rfl⟩,.inl ⟨_,rfl,rR m1 sa sb (.inl e2)⟩⟩
       rw[if_neg (by simpa using e2)];have m4:=m3 (by omega);rw[iW (by omega)] at m4;have mb:=m1.ju sa sb (show ia+k<a.toList.length by simp;omega) (show ib<b.toList.length by simpa using lb) (by simp only[av];omega);rw[av,<-aF] at mb;refine aj (ik lb ?_);by_cases e3:ib+1=b.size
       ·rw[if_pos (by simpa using e3)];exact ag ⟨⟨_,rfl⟩,.inl ⟨_,rfl,rR mb sa sb (.inr e3)⟩⟩
       ·rw[if_neg (by simpa using e3)];refine aj (ik (show ia+k<a.size by omega) ?_);obtain⟨k1,tL⟩:=Ck sb (ib+1) (a[ia+k]'(by omega));refine aj (qr R hk ob (oa _ (aS _)) (by omega) (by omega) tL ?_);dsimp only;obtain⟨n1,n2,n3⟩:=mb.nO sa sb (by omega) (by omega) tL;by_cases kq:k1>0
        ·rw[if_pos kq];by_cases e4:ib+1+k1=b.size
         ·rw[if_pos (by simpa using e4)];exact ag ⟨⟨_,rfl⟩,.inl ⟨_,rfl,rR n1 sa sb (.inr e4)⟩⟩
         rw[if_neg (by simpa using e4)];have n4:=n3 (by omega);rw[iW (by omega)] at n4;have nn:=n1.gu sa sb (show ia+k<a.toList.length by simp;omega) (show ib+1+k1<b.toList.length by simp;omega) (by simpa using n4);rw[av,<-aF] at nn;refine aj (ik (show ia+k<a.size by omega) ?_);by_cases e5:ia+k+1+1=a.size
         ·rw[if_pos (by simpa using e5)];exact ag ⟨⟨_,rfl⟩,.inl ⟨_,rfl,rQ nn sa sb ha e5 h9⟩⟩
         rw[if_neg (by simpa using e5)];have nl:=nn.len;rw[ah] at nl;split
         ·exact ag ⟨⟨_,rfl⟩,.inr ⟨rfl,⟨nn,by dsimp only;omega,by dsimp only;omega⟩,by dsimp only;omega⟩⟩
         ·exact ag ⟨⟨_,rfl⟩,rfl,⟨nn,by dsimp only;omega,by dsimp only;omega⟩,by dsimp only;omega⟩
        ·rw[if_neg kq];have k0:k1=0:=by omega
         subst k0;have n4:=n3 (by omega);rw[iW (by omega)] at n4;have nn:=mb.gu sa sb (show ia+k<a.toList.length by simp;omega) (show ib+1<b.toList.length by simp;omega) (by simpa using n4);rw[av,<-aF] at nn;refine aj (ik (show ia+k<a.size by omega) ?_);by_cases e5:ia+k+1+1=a.size
         ·rw[if_pos (by simpa using e5)];exact ag ⟨⟨_,rfl⟩,.inl ⟨_,rfl,rQ nn sa sb ha e5 h9⟩⟩
         rw[if_neg (by simpa using e5)];have nl:=nn.len;rw[ah] at nl;split
         ·exact ag ⟨⟨_,rfl⟩,.inr ⟨rfl,⟨nn,by dsimp only;omega,by dsimp only;omega⟩,by dsimp only;omega⟩⟩
         ·exact ag ⟨⟨_,rfl⟩,rfl,⟨nn,by dsimp only;omega,by dsimp only;omega⟩,by dsimp only;omega⟩
      ·rw[if_neg kp];have k0:k=0:=by omega
       subst k0;have m4:=m3 (by omega);rw[iW (by omega)] at m4;have mb:=mw.mi.ju sa sb (show ia<a.toList.length by simp;omega) (show ib<b.toList.length by simpa using lb) (by simp only[av];exact cZ m4);rw[av,<-aF] at mb;refine aj (ik lb ?_);by_cases e3:ib+1=b.size
       ·rw[if_pos (by simpa using e3)];exact ag ⟨⟨_,rfl⟩,.inl ⟨_,rfl,rR mb sa sb (.inr e3)⟩⟩
       ·rw[if_neg (by simpa using e3)];refine aj (ik (show ia<a.size by omega) ?_);obtain⟨k1,tL⟩:=Ck sb (ib+1) (a[ia]'(by omega));refine aj (qr R hk ob (oa _ (aS _)) (by omega) (by omega) tL ?_);dsimp only;obtain⟨n1,n2,n3⟩:=mb.nO sa sb (by omega) (by omega) tL;by_cases kq:k1>0
        ·rw[if_pos kq];by_cases e4:ib+1+k1=b.size
         ·rw[if_pos (by simpa using e4)];exact ag ⟨⟨_,rfl⟩,.inl ⟨_,rfl,rR n1 sa sb (.inr e4)⟩⟩
         rw[if_neg (by simpa using e4)];have n4:=n3 (by omega);rw[iW (by omega)] at n4;have nn:=n1.gu sa sb (show ia<a.toList.length by simp;omega) (show ib+1+k1<b.toList.length by simp;omega) (by simpa using n4);rw[av,<-aF] at nn;refine aj (ik (show ia<a.size by omega) ?_);by_cases e5:ia+1+1=a.size
         ·rw[if_pos (by simpa using e5)];exact ag ⟨⟨_,rfl⟩,.inl ⟨_,rfl,rQ nn sa sb ha e5 h9⟩⟩
         rw[if_neg (by simpa using e5)];have nl:=nn.len;rw[ah] at nl;split
         ·exact ag ⟨⟨_,rfl⟩,.inr ⟨rfl,⟨nn,by dsimp only;omega,by dsimp only;omega⟩,by dsimp only;omega⟩⟩
         ·exact ag ⟨⟨_,rfl⟩,rfl,⟨nn,by dsimp only;omega,by dsimp only;omega⟩,by dsimp only;omega⟩
        ·rw[if_neg kq];have k0:k1=0:=by omega
         subst k0;have n4:=n3 (by omega);rw[iW (by omega)] at n4;have nn:=mb.gu sa sb (show ia<a.toList.length by simp;omega) (show ib+1<b.toList.length by simp;omega) (by simpa using n4);rw[av,<-aF] at nn;refine aj (ik (show ia<a.size by omega) ?_);by_cases e5:ia+1+1=a.size
         ·rw[if_pos (by simpa using e5)];exact ag ⟨⟨_,rfl⟩,.inl ⟨_,rfl,rQ nn sa sb ha e5 h9⟩⟩
         rw[if_neg (by simpa using e5)];have nl:=nn.len;rw[ah] at nl;split
         ·exact ag ⟨⟨_,rfl⟩,.inr ⟨rfl,⟨nn,by dsimp only;omega,by dsimp only;omega⟩,by dsimp only;omega⟩⟩
         ·exact ag ⟨⟨_,rfl⟩,rfl,⟨nn,by dsimp only;omega,by dsimp only;omega⟩,by dsimp only;omega⟩
    ·rintro⟨c1,out,ia,ib,mg,ac,bc⟩ eX ⟨⟨g,rfl⟩,gq,mw,hsz⟩;dsimp only at gq mw hsz ⊢;exact⟨⟨g,rfl⟩,.inr ⟨gq,mw,hsz⟩⟩
    ·rintro⟨c1,out,ia,ib,mg,ac,bc⟩ eX ⟨⟨g,rfl⟩,hc⟩;dsimp only at hc ⊢;rcases hc with⟨r,rfl,gd⟩ | ⟨rfl,mw,hsz⟩
     ·exact ag ⟨g,r,rfl,rfl,gd⟩
     ·dsimp only;rw[yZ];exact aj (cH (ag ⟨⟨_,rfl⟩,rfl,mw,hsz⟩))
 ·rintro⟨c1,out,ia,ib,mg⟩ eX ⟨⟨g,rfl⟩,gq,mw,hsz⟩;dsimp only at gq mw hsz ⊢;exfalso
  have h1:=mw.mi.len;have h2:=mw.la;have h3:=mw.lb;rw[ah] at h1;rw[cR (aL _)] at hsz;omega
 ·rintro⟨c1,out,ia,ib,mg⟩ eX ⟨g,r,rfl,rfl,g1,g2⟩;exact ag (q r g g1 g2)
section
variable {α:Type} (rk:α->Int)
structure MH (a b out:List α) (na nb:Nat):Prop where
 la:na<=a.length
 lb:nb<=b.length
 pm:out.reverse.Perm (a.drop na++b.drop nb)
 so:out.reverse.Pairwise fun x y=>rk x<=rk y
 ga:∀y∈a.take na,∀x∈out,rk y<=rk x
 gb:∀y∈b.take nb,∀x∈out,rk y<=rk x
variable {rk}
theorem MH.len{a b out:List α}{na nb:Nat}(h:MH rk a b out na nb):out.length+na+nb=a.length+b.length:=by
 have:=h.pm.length_eq;rw[au,bC,bC,List.length_reverse] at this;have:=h.la;have:=h.lb;omega
theorem MH.swap{a b out:List α}{na nb:Nat}(h:MH rk a b out na nb):MH rk b a out nb na:=⟨h.lb,h.la,h.pm.trans ec,h.so,h.gb,h.ga⟩
theorem Lf{l:List α}{n t:Nat}(ht:t<=n):l.take n=l.take t++(l.take n).drop t:=by
 have:=(bH t (l.take n)).symm;rwa [List.take_take,eJ ht] at this
theorem MH.i9{a b out:List α}{na nb:Nat}(h:MH rk a b out na nb)(sa:a.Pairwise fun x y=>rk x<=rk y){t:Nat}(ht:t<=na)(hb:∀x∈(a.take na).drop t,∀y∈b.take nb,rk y<=rk x):MH rk a b (out++((a.take na).drop t).reverse) t nb:=by
 have Du:=h.la;have sd:(a.take na).Pairwise fun x y=>rk x<=rk y:=sa.sublist (List.take_sublist _ _)
 rw[Lf ht,bM] at sd;have ga:=h.ga;rw[Lf ht] at ga;have er:(out++((a.take na).drop t).reverse).reverse=(a.take na).drop t++out.reverse:=by rw[List.reverse_append,List.reverse_reverse]
 refine⟨by omega,h.lb,?_,?_,fun y hy x hx=>?_,fun y hy x hx=>?_⟩
 ·rw[er];refine(h.pm.append_left _).trans ?_;rw[<-bO];refine List.Perm.append_right _ ?_;have:a.drop t=(a.take na).drop t++a.drop na:=by
   have e:a=a.take na++a.drop na:=(bH na a).symm;rw[show a.drop t=(a.take na++a.drop na).drop t by rw[<-e],dv (by simp;omega)]
  rw[this]
 ·rw[er,bM];exact⟨sd.2.1,h.so,fun x hx y hy=>ga x (bu _ hx) y (List.mem_reverse.mp hy)⟩
 ·rcases ay.mp hx with hx | hx
  ·exact ga y (bZ _ hy) x hx
  ·exact sd.2.2 y hy x (List.mem_reverse.mp hx)
 ·rcases ay.mp hx with hx | hx
  ·exact h.gb y hy x hx
  ·exact hb x (List.mem_reverse.mp hx) y hy
theorem MH.mn{a b out:List α}{na nb:Nat}(h:MH rk a b out na nb)(sb:b.Pairwise fun x y=>rk x<=rk y){t:Nat}(ht:t<=nb)(ha:∀x∈(b.take nb).drop t,∀y∈a.take na,rk y<=rk x):MH rk a b (out++((b.take nb).drop t).reverse) na t:=(h.swap.i9 sb ht ha).swap
theorem K8{l:List α}{n:Nat}(h:n<l.length):(l.take (n+1)).drop n=[l[n]]:=by
 rw[bg,ai h,dv (by simp;omega),List.drop_eq_nil_of_le (by rw[aM];omega)];rfl
theorem Ua{l:List α}(s:l.Pairwise fun x y=>rk x<=rk y){n:Nat}(h:n<l.length):∀y∈l.take (n+1),rk y<=rk l[n]:=by
 intro y hy;obtain⟨i,hi,rfl⟩:=bj hy;have BA:i<=n:=by simp at hi;omega
 rw[dF];by_cases e:i=n
 ·subst e;exact cj _
 ·exact b9.mp s i n (by omega) h (by omega)
theorem MH.gu{a b out:List α}{na nb:Nat}(h:MH rk a b out (na+1) (nb+1))(sa:a.Pairwise fun x y=>rk x<=rk y)(sb:b.Pairwise fun x y=>rk x<=rk y)(hi:na<a.length)(hj:nb<b.length)(hle:rk b[nb]<=rk a[na]):MH rk a b (out++[a[na]]) na (nb+1):=by
 have:=h.i9 sa (t:=na) (by omega) (fun x hx y hy=>by
  rw[K8 hi] at hx;simp at hx;subst hx;exact Int.le_trans (Ua sb hj y hy) hle)
 rwa [K8 hi] at this
theorem MH.ju{a b out:List α}{na nb:Nat}(h:MH rk a b out (na+1) (nb+1))(sa:a.Pairwise fun x y=>rk x<=rk y)(sb:b.Pairwise fun x y=>rk x<=rk y)(hi:na<a.length)(hj:nb<b.length)(hle:rk a[na]<=rk b[nb]):MH rk a b (out++[b[nb]]) (na+1) nb:=(h.swap.gu sb sa hj hi hle).swap
theorem MH.kS{a b out:List α}{na nb:Nat}(h:MH rk a b out na nb)(sa:a.Pairwise fun x y=>rk x<=rk y)(sb:b.Pairwise fun x y=>rk x<=rk y)(hle:∀x∈a.take na,∀y∈b.take nb,rk x<=rk y) :
  (a.take na++b.take nb++out.reverse).Perm (a++b)/\(a.take na++b.take nb++out.reverse).Pairwise fun x y=>rk x<=rk y:=by
 have h1:=h.mn sb (t:=0) (aL _) (fun x hx y hy=>hle y hy x (by simpa using hx));have h2:=h1.i9 sa (t:=0) (aL _) (fun x hx y hy=>by simp at hy);have e:(out++((b.take nb).drop 0).reverse++((a.take na).drop 0).reverse).reverse=a.take na++b.take nb++out.reverse:=by simp
 have p:=h2.pm;have s:=h2.so;rw[e] at p s;exact⟨by simpa using p,s⟩
theorem MH.nT{a b out:List α}{na nb:Nat}(h:MH rk a b out na nb)(sa:a.Pairwise fun x y=>rk x<=rk y)(sb:b.Pairwise fun x y=>rk x<=rk y)(hle:∀x∈b.take nb,∀y∈a.take na,rk x<=rk y) :
  (b.take nb++a.take na++out.reverse).Perm (a++b)/\(b.take nb++a.take na++out.reverse).Pairwise fun x y=>rk x<=rk y:=by
 obtain⟨h1,h2⟩:=h.swap.kS sb sa hle;exact⟨h1.trans ec,h2⟩
end
theorem Vi(a b:Array Keyed):ET a b=(do
 rule "list.sort.merge-hi"
 let total:=a.size+b.size
 let done (out:Array Keyed) (na nb:Nat):=a.extract 0 na++b.extract 0 nb++out.reverse
 let kR (out:Array Keyed) (na nb:Nat):=b.extract 0 nb++a.extract 0 na++out.reverse
 let mut na:=a.size-1
 let mut nb:=b.size
 let mut out:Array Keyed:=#[<-elem' a na]
 if na==0 then return done out na nb
 if nb==1 then return kR out na nb
 let mut minGallop:=gallopOf (<-get)
 for _ in [0:total] do
  let mut gZ:=0
  let mut gW:=0
  for _ in [0:total] do
   let some BZ <-lt' (<-elem' b (nb-1)) (<-elem' a (na-1)) | return done out na nb
   if BZ then
    na:=na-1;out:=out.push (<-elem' a na);gZ:=gZ+1;gW:=0
    if na==0 then return done out na nb
    if gZ>=minGallop then break
   else
    nb:=nb-1;out:=out.push (<-elem' b nb);gW:=gW+1;gZ:=0
    if nb==1 then return kR out na nb
    if gW>=minGallop then break
  rule "list.sort.gallop"
  minGallop:=minGallop+1
  for _ in [0:total] do
   if minGallop>1 then minGallop:=minGallop-1
   AL minGallop
   let some at_ <-vK false (<-elem' b (nb-1)) a 0 na (na-1) | return done out na nb
   let k:=na-at_
   gZ:=k
   if k>0 then
    out:=out++(a.extract at_ na).reverse;na:=at_
    if na==0 then return done out na nb
   nb:=nb-1;out:=out.push (<-elem' b nb)
   if nb==1 then return kR out na nb
   let some at_ <-vK true (<-elem' a (na-1)) b 0 nb (nb-1) | return done out na nb
   let k:=nb-at_
   gW:=k
   if k>0 then
    out:=out++(b.extract at_ nb).reverse;nb:=at_
    if nb==1 then return kR out na nb
    if nb==0 then return done out na nb
   na:=na-1;out:=out.push (<-elem' a na)
   if na==0 then return done out na nb
   if gZ<7&&gW<7 then break
  minGallop:=minGallop+1
  AL minGallop
 unsupported "internal:list.sort.merge-bound"):=rfl
theorem Cz(a:Array Keyed)(n:Nat):(a.extract 0 n).toList=a.toList.take n:=by
 rw[du];simp[List.extract]
theorem Km(a:Array Keyed){t n:Nat}(h:n<=a.size):(a.extract t n).toList=(a.toList.take n).drop t:=by
 rw[du];simp only[List.extract];rw[List.drop_take]
structure Mv (rk:Keyed->Int) (a b out:Array Keyed) (na nb:Nat):Prop where
 mh:MH rk a.toList b.toList out.toList na nb
 la:0<na
 lb:1<nb
section
variable {rk:Keyed->Int} {a b out:Array Keyed} {na nb:Nat}
theorem pF(h:MH rk a.toList b.toList out.toList na nb)(sa:gQ rk a.toList)(sb:gQ rk b.toList)(hi:na=0\/nb=0):qi rk a b (a.extract 0 na++b.extract 0 nb++out.reverse):=by
 obtain⟨h1,h2⟩:=h.kS sa sb (fun x hx y hy=>by
  rcases hi with e | e
  ·rw[e] at hx;simp at hx
  ·rw[e] at hy;simp at hy)
 unfold qi gQ;rw[bK,bK,Cz,Cz,Array.toList_reverse];exact⟨h1,h2⟩
theorem ua(h:MH rk a.toList b.toList out.toList na nb)(sa:gQ rk a.toList)(sb:gQ rk b.toList)(hb:0<b.size)(hi:nb=1)(h0:∀x∈a,rk b[0]<rk x):qi rk a b (b.extract 0 nb++a.extract 0 na++out.reverse):=by
 obtain⟨h1,h2⟩:=h.nT sa sb (fun x hx y hy=>by
  have e:b.toList.take nb=[b[0]]:=by
   have hl:0<b.toList.length:=by simpa using hb
   rw[hi,show(1:Nat)=0+1 from rfl,bg,ai hl];simp
  rw[e] at hx;simp at hx;subst hx;have:=h0 y (by simpa using cw hy);omega)
 unfold qi gQ;rw[bK,bK,Cz,Cz,Array.toList_reverse];exact⟨h1,h2⟩
theorem Fd{t n:Nat}(hn:n<=a.size){x:Keyed}(hx:x∈(a.toList.take n).drop t):∃u,t<=u/\u<n/\x=a.getD u dk:=by
 obtain⟨u,hu,e⟩:=bj hx;have Yp:t+u<n:=by simp at hu;omega
 refine⟨t+u,by omega,Yp,?_⟩;rw[iW (by omega),<-e];simp
theorem Jb{n:Nat}(hn:n<=a.size){x:Keyed}(hx:x∈a.toList.take n):∃u,u<n/\x=a.getD u dk:=by
 obtain⟨u,_,h1,h2⟩:=Fd (a:=a) (t:=0) hn (x:=x) (by simpa using hx);exact⟨u,h1,h2⟩
theorem MH.tF{xD t:Nat}(h:MH rk a.toList b.toList out.toList na (xD+1))(sa:gQ rk a.toList)(sb:gQ rk b.toList)(lb:xD<b.size)(hc:Cut (fun i=>if false=true then decide (rk (a.getD (0+i) dk)<rk b[xD]) else !decide (rk b[xD]<rk (a.getD (0+i) dk))) na t) :
  MH rk a.toList b.toList (out++(a.extract t na).reverse).toList t (xD+1)/\t<=na/\∀u,u+1=t->rk (a.getD u dk)<=rk b[xD]:=by
 have Du:=h.la;rw[ah] at Du;refine⟨?_,hc.1,fun u hu=>?_⟩
 ·rw[bK,Array.toList_reverse,Km a Du];refine h.i9 sa hc.1 fun x hx y hy=>?_
  obtain⟨u,u1,u2,rfl⟩:=Fd Du hx;obtain⟨v,v1,rfl⟩:=Jb (by omega) hy;have h1:=mt (hc.2 u u2).mp (by omega);have h2:=vQ (rk:=rk) sb (show v<=xD by omega) lb;rw[iW lb] at h2;simp only[af,aJ,bG,aZ,Nat.zero_add] at h1;omega
 ·have:=hc.1;have h1:=(hc.2 u (by omega)).mpr (by omega);simpa using h1
theorem MH.nO{xE t:Nat}(h:MH rk a.toList b.toList out.toList (xE+1) nb)(sa:gQ rk a.toList)(sb:gQ rk b.toList)(la:xE<a.size)(hc:Cut (fun i=>if true=true then decide (rk (b.getD (0+i) dk)<rk a[xE]) else !decide (rk a[xE]<rk (b.getD (0+i) dk))) nb t) :
  MH rk a.toList b.toList (out++(b.extract t nb).reverse).toList (xE+1) t/\t<=nb/\∀u,u+1=t->rk (b.getD u dk)<rk a[xE]:=by
 have Hc:=h.lb;rw[ah] at Hc;refine⟨?_,hc.1,fun u hu=>?_⟩
 ·rw[bK,Array.toList_reverse,Km b Hc];refine h.mn sb hc.1 fun x hx y hy=>?_
  obtain⟨u,u1,u2,rfl⟩:=Fd Hc hx;obtain⟨v,v1,rfl⟩:=Jb (by omega) hy;have h1:=mt (hc.2 u u2).mp (by omega);have h2:=vQ (rk:=rk) sa (show v<=xE by omega) la;rw[iW la] at h2;simp only[aR,bF,Nat.zero_add] at h1;omega
 ·have:=hc.1;have h1:=(hc.2 u (by omega)).mpr (by omega);simpa using h1
end
theorem Io{rk:Keyed->Int}{a:Array Keyed}(sa:gQ rk a.toList){n:Nat}(hn:n<=a.size)(key:Keyed):∃k,Cut (fun i=>if false=true then decide (rk (a.getD (0+i) dk)<rk key) else !decide (rk key<rk (a.getD (0+i) dk))) n k:=
 vy _ _ fun i j jx hj h=>by
  have:=vQ (rk:=rk) sa (show 0+i<=0+j by omega) (by omega);simp only[af,aJ,bG,aZ] at h ⊢;omega
theorem Cj{rk:Keyed->Int}{b:Array Keyed}(sb:gQ rk b.toList){n:Nat}(hn:n<=b.size)(key:Keyed):∃k,Cut (fun i=>if true=true then decide (rk (b.getD (0+i) dk)<rk key) else !decide (rk key<rk (b.getD (0+i) dk))) n k:=
 vy _ _ fun i j jx hj h=>by
  have:=vQ (rk:=rk) sb (show 0+i<=0+j by omega) (by omega);simp only[aR,bF] at h ⊢;omega
variable {M:Model} {A:Around} {E:Value->Shared->Prop} {s:Shared}
theorem Vh{κ:SortKind}{ok:Keyed->Prop}{rk:Keyed->Int}(R:Rk M A E s κ ok rk){a b:Array Keyed}{Q:Array Keyed->SortSt->Prop}{st:SortSt}(hk:kindOf st=κ)(oa:∀x∈a,ok x)(ob:∀x∈b,ok x)(sa:gQ rk a.toList)(sb:gQ rk b.toList)(ha:0<a.size)(hb:0<b.size)
  (h0:∀x∈a,rk b[0]<rk x) (h9:rk (b[b.size-1])<rk (a[a.size-1])) (q:∀(r:Array Keyed) g,r.toList.Perm (a.toList++b.toList)->gQ rk r.toList->Q r (oT st g)):wpS M A E s (ET a b) Q st:=by
 rw[Vi];refine aj (xi ?_);refine aj (ik (show a.size-1<a.size by omega) ?_);dsimp only;have jv:st=oT st (gallopOf st):=rfl;have m0:MH rk a.toList b.toList (#[a[a.size-1]]:Array Keyed).toList (a.size-1) b.size:=by
  have n0:MH rk a.toList b.toList [] (a.size-1+1) (b.size-1+1):=⟨by simp;omega,by simp;omega,by
   rw[show a.size-1+1=a.size by omega,show b.size-1+1=b.size by omega];simp,.nil,fun y _ x hx=>(by cases hx),fun y _ x hx=>(by cases hx)⟩
  have:=n0.gu sa sb (by simp;omega) (by simp;omega) (by simp only[av];omega);rw[show b.size-1+1=b.size by omega] at this;simpa using this
 by_cases c1:a.size-1=0
 ·rw[if_pos (by simpa using c1)];refine ag ?_;rw[jv];obtain⟨g1,g2⟩:=pF m0 sa sb (.inl c1);exact q _ _ g1 g2
 rw[if_neg (by simpa using c1)];by_cases c2:b.size=1
 ·rw[if_pos (by simpa using c2)];refine ag ?_;rw[jv];obtain⟨g1,g2⟩:=ua m0 sa sb hb c2 h0;exact q _ _ g1 g2
 rw[if_neg (by simpa using c2)];refine aj (wpS_get ?_);refine aj (cF (br (Q:=fun(c:Option (Array Keyed)×Nat×Nat×Array Keyed×Nat) eX=>∃g r,eX=oT st g/\c.1=some r/\qi rk a b r) (fun i (c:Option (Array Keyed)×Nat×Nat×Array Keyed×Nat) eX=>(∃g,eX=oT st g)/\c.1=none/\Mv rk a b c.2.2.2.1 c.2.1 c.2.2.1/\i<c.2.2.2.1.size) ?_ ?_ ⟨⟨_,jv⟩,rfl,⟨m0,by dsimp only;omega,by dsimp only;omega⟩,by simp⟩) ?_)
 ·rintro i ⟨c1,na,nb,out,mg⟩ eX _ oF ⟨⟨g,rfl⟩,gq,mw,hsz⟩;dsimp only at gq mw hsz ⊢;subst gq;refine aj (cF (br (Q:=fun(c:Option (Array Keyed)×Nat×Nat×Array Keyed×Nat×Nat) eX=>(eX=oT st g)/\((∃r,c.1=some r/\qi rk a b r)\/(c.1=none/\Mv rk a b c.2.2.2.1 c.2.1 c.2.2.1/\i+1<c.2.2.2.1.size)))
   (fun j (c:Option (Array Keyed)×Nat×Nat×Array Keyed×Nat×Nat) eX=>(eX=oT st g)/\c.1=none/\Mv rk a b c.2.2.2.1 c.2.1 c.2.2.1/\i+j<c.2.2.2.1.size) ?_ ?_ ⟨rfl,rfl,mw,by dsimp only;omega⟩) ?_)
  ·rintro j ⟨c1,na,nb,out,ac,bc⟩ eX _ Hj ⟨rfl,gq,mw,hsz⟩;dsimp only at gq mw hsz ⊢;subst gq;have la:=mw.la;have lb:=mw.lb;have Yb:=mw.mh.la;have qB:=mw.mh.lb;rw[ah] at Yb qB;obtain⟨na,rfl⟩:∃n,na=n+1:=⟨na-1,by omega⟩
   obtain⟨nb,rfl⟩:∃n,nb=n+1:=⟨nb-1,by omega⟩
   simp only[Nat.add_sub_cancel];refine aj (ik (show nb<b.size by omega) (aj (ik (show na<a.size by omega) (aj (R.lt _ _ _ _ (ob _ (aS _)) (oa _ (aS _)) hk ?_)))));dsimp only;by_cases fI:rk (b[nb]'(by omega))<rk (a[na]'(by omega))
   ·simp only[fI,bR,aR];have ma:=mw.mh.gu sa sb (show na<a.toList.length by simp;omega) (show nb<b.toList.length by simp;omega) (by simp only[av];omega);rw[av,<-aF] at ma;refine aj (ik (show na<a.size by omega) ?_);by_cases e1:na=0
    ·rw[if_pos (by simpa using e1)];exact ag ⟨rfl,.inl ⟨_,rfl,pF ma sa sb (.inl e1)⟩⟩
    ·rw[if_neg (by simpa using e1)];split
     ·exact ag ⟨rfl,.inr ⟨rfl,⟨ma,by dsimp only;omega,lb⟩,by simp;omega⟩⟩
     ·exact ag ⟨rfl,rfl,⟨ma,by dsimp only;omega,lb⟩,by simp;omega⟩
   ·simp only[fI,bp,af,aJ];have mb:=mw.mh.ju sa sb (show na<a.toList.length by simp;omega) (show nb<b.toList.length by simp;omega) (by simp only[av];omega);rw[av,<-aF] at mb;refine aj (ik (show nb<b.size by omega) ?_);by_cases e1:nb=1
    ·rw[if_pos (by simpa using e1)];exact ag ⟨rfl,.inl ⟨_,rfl,ua mb sa sb hb e1 h0⟩⟩
    ·rw[if_neg (by simpa using e1)];split
     ·exact ag ⟨rfl,.inr ⟨rfl,⟨mb,la,by dsimp only;omega⟩,by simp;omega⟩⟩
     ·exact ag ⟨rfl,rfl,⟨mb,la,by dsimp only;omega⟩,by simp;omega⟩
  ·rintro⟨c1,na,nb,out,ac,bc⟩ eX ⟨rfl,gq,mw,hsz⟩;dsimp only at gq mw hsz ⊢;exact⟨rfl,.inr ⟨gq,mw,by rw[cR (aL _)] at hsz;omega⟩⟩
  ·rintro⟨c1,na,nb,out,ac,bc⟩ eX ⟨rfl,hc⟩;dsimp only at hc ⊢;rcases hc with⟨r,rfl,gd⟩ | ⟨rfl,mw,hsz⟩
   ·exact ag ⟨g,r,rfl,rfl,gd⟩
   ·dsimp only;refine aj (xi ?_);refine aj (cF (br (Q:=fun(c:Option (Array Keyed)×Nat×Nat×Array Keyed×Nat×Nat×Nat) eX=>(∃g,eX=oT st g)/\((∃r,c.1=some r/\qi rk a b r)\/(c.1=none/\Mv rk a b c.2.2.2.1 c.2.1 c.2.2.1/\i+1<c.2.2.2.1.size)))
     (fun j (c:Option (Array Keyed)×Nat×Nat×Array Keyed×Nat×Nat×Nat) eX=>(∃g,eX=oT st g)/\c.1=none/\Mv rk a b c.2.2.2.1 c.2.1 c.2.2.1/\i+1<c.2.2.2.1.size) ?_ ?_ ⟨⟨_,rfl⟩,rfl,mw,hsz⟩) ?_)
    ·clear mw hsz;rintro j ⟨c1,na,nb,out,mg,ac,bc⟩ eX _ Hj ⟨⟨g,rfl⟩,gq,mw,hsz⟩;dsimp only at gq mw hsz ⊢;subst gq;have la:=mw.la;have lb:=mw.lb;have xI:=mw.mh.la;have Gz:=mw.mh.lb;have ol:=mw.mh.len;simp only[ah] at xI Gz ol;obtain⟨na,rfl⟩:∃n,na=n+1:=⟨na-1,by omega⟩
     obtain⟨nb,rfl⟩:∃n,nb=n+1:=⟨nb-1,by omega⟩
     have qB:nb<b.size:=by omega
     simp only[Nat.add_sub_cancel];by_cases hg:mg>1
     ·rw[if_pos hg];rw[yZ];refine aj (cH (aj (ik qB ?_)));obtain⟨t,ct⟩:=Io sa xI b[nb];refine aj (qr R hk oa (ob _ (aS _)) (by omega) (by omega) ct ?_);dsimp only;obtain⟨m1,m2,m3⟩:=mw.mh.tF sa sb qB ct;by_cases kp:na+1-t>0
      ·rw[if_pos kp];by_cases e1:t=0
       ·rw[if_pos (by simpa using e1)];exact ag ⟨⟨_,rfl⟩,.inl ⟨_,rfl,pF m1 sa sb (.inl e1)⟩⟩
       rw[if_neg (by simpa using e1)];obtain⟨t,rfl⟩:∃v,t=v+1:=⟨t-1,by omega⟩
       simp only[Nat.add_sub_cancel];have m4:=m3 t rfl;rw[iW (by omega)] at m4;have mb:=m1.ju sa sb (show t<a.toList.length by simp;omega) (show nb<b.toList.length by simpa using qB) (by simpa using m4);rw[av,<-aF] at mb;refine aj (ik qB ?_);by_cases e3:nb=1
       ·rw[if_pos (by simpa using e3)];exact ag ⟨⟨_,rfl⟩,.inl ⟨_,rfl,ua mb sa sb hb e3 h0⟩⟩
       rw[if_neg (by simpa using e3)];refine aj (ik (show t<a.size by omega) ?_);obtain⟨u,cu⟩:=Cj sb (show nb<=b.size by omega) (a[t]'(by omega));refine aj (qr R hk ob (oa _ (aS _)) (by omega) (by omega) cu ?_);dsimp only;obtain⟨n1,n2,n3⟩:=mb.nO sa sb (by omega) cu;by_cases kq:nb-u>0
       ·rw[if_pos kq];by_cases e4:u=1
        ·rw[if_pos (by simpa using e4)];exact ag ⟨⟨_,rfl⟩,.inl ⟨_,rfl,ua n1 sa sb hb e4 h0⟩⟩
        rw[if_neg (by simpa using e4)];by_cases e5:u=0
        ·rw[if_pos (by simpa using e5)];exact ag ⟨⟨_,rfl⟩,.inl ⟨_,rfl,pF n1 sa sb (.inr e5)⟩⟩
        rw[if_neg (by simpa using e5)];obtain⟨u,rfl⟩:∃v,u=v+1:=⟨u-1,by omega⟩
        have n4:=n3 u rfl;rw[iW (by omega)] at n4;have nn:=n1.gu sa sb (show t<a.toList.length by simp;omega) (show u<b.toList.length by simp;omega) (by simpa using cZ n4);rw[av,<-aF] at nn;refine aj (ik (show t<a.size by omega) ?_);by_cases e6:t=0
        ·rw[if_pos (by simpa using e6)];exact ag ⟨⟨_,rfl⟩,.inl ⟨_,rfl,pF nn sa sb (.inl e6)⟩⟩
        rw[if_neg (by simpa using e6)];have nl:=nn.len;simp only[ah] at nl;split
        ·exact ag ⟨⟨_,rfl⟩,.inr ⟨rfl,⟨nn,by dsimp only;omega,by dsimp only;omega⟩,by dsimp only;omega⟩⟩
        ·exact ag ⟨⟨_,rfl⟩,rfl,⟨nn,by dsimp only;omega,by dsimp only;omega⟩,by dsimp only;omega⟩
       ·rw[if_neg kq];have ku:u=nb:=by omega
        subst ku;obtain⟨u,rfl⟩:∃v,u=v+1:=⟨u-1,by omega⟩
        have n4:=n3 u rfl;rw[iW (by omega)] at n4;have nn:=mb.gu sa sb (show t<a.toList.length by simp;omega) (show u<b.toList.length by simp;omega) (by simpa using cZ n4);rw[av,<-aF] at nn;refine aj (ik (show t<a.size by omega) ?_);by_cases e6:t=0
        ·rw[if_pos (by simpa using e6)];exact ag ⟨⟨_,rfl⟩,.inl ⟨_,rfl,pF nn sa sb (.inl e6)⟩⟩
        rw[if_neg (by simpa using e6)];have nl:=nn.len;simp only[ah] at nl;split
        ·exact ag ⟨⟨_,rfl⟩,.inr ⟨rfl,⟨nn,by dsimp only;omega,by dsimp only;omega⟩,by dsimp only;omega⟩⟩
        ·exact ag ⟨⟨_,rfl⟩,rfl,⟨nn,by dsimp only;omega,by dsimp only;omega⟩,by dsimp only;omega⟩
      ·rw[if_neg kp];have kt:t=na+1:=by omega
       subst kt;have m5:MH rk a.toList b.toList out.toList (na+1) (nb+1):=mw.mh;generalize na=t at *;have m4:=m3 t rfl;rw[iW (by omega)] at m4;have mb:=m5.ju sa sb (show t<a.toList.length by simp;omega) (show nb<b.toList.length by simpa using qB) (by simpa using m4);rw[av,<-aF] at mb;refine aj (ik qB ?_);by_cases e3:nb=1
       ·rw[if_pos (by simpa using e3)];exact ag ⟨⟨_,rfl⟩,.inl ⟨_,rfl,ua mb sa sb hb e3 h0⟩⟩
       rw[if_neg (by simpa using e3)];refine aj (ik (show t<a.size by omega) ?_);obtain⟨u,cu⟩:=Cj sb (show nb<=b.size by omega) (a[t]'(by omega));refine aj (qr R hk ob (oa _ (aS _)) (by omega) (by omega) cu ?_);dsimp only;obtain⟨n1,n2,n3⟩:=mb.nO sa sb (by omega) cu;by_cases kq:nb-u>0
       ·rw[if_pos kq];by_cases e4:u=1
        ·rw[if_pos (by simpa using e4)];exact ag ⟨⟨_,rfl⟩,.inl ⟨_,rfl,ua n1 sa sb hb e4 h0⟩⟩
        rw[if_neg (by simpa using e4)];by_cases e5:u=0
        ·rw[if_pos (by simpa using e5)];exact ag ⟨⟨_,rfl⟩,.inl ⟨_,rfl,pF n1 sa sb (.inr e5)⟩⟩
        rw[if_neg (by simpa using e5)];obtain⟨u,rfl⟩:∃v,u=v+1:=⟨u-1,by omega⟩
        have n4:=n3 u rfl;rw[iW (by omega)] at n4;have nn:=n1.gu sa sb (show t<a.toList.length by simp;omega) (show u<b.toList.length by simp;omega) (by simpa using cZ n4);rw[av,<-aF] at nn;refine aj (ik (show t<a.size by omega) ?_);by_cases e6:t=0
        ·rw[if_pos (by simpa using e6)];exact ag ⟨⟨_,rfl⟩,.inl ⟨_,rfl,pF nn sa sb (.inl e6)⟩⟩
        rw[if_neg (by simpa using e6)];have nl:=nn.len;simp only[ah] at nl;split
        ·exact ag ⟨⟨_,rfl⟩,.inr ⟨rfl,⟨nn,by dsimp only;omega,by dsimp only;omega⟩,by dsimp only;omega⟩⟩
        ·exact ag ⟨⟨_,rfl⟩,rfl,⟨nn,by dsimp only;omega,by dsimp only;omega⟩,by dsimp only;omega⟩
       ·rw[if_neg kq];have ku:u=nb:=by omega
        subst ku;obtain⟨u,rfl⟩:∃v,u=v+1:=⟨u-1,by omega⟩
        have n4:=n3 u rfl;rw[iW (by omega)] at n4;have nn:=mb.gu sa sb (show t<a.toList.length by simp;omega) (show u<b.toList.length by simp;omega) (by simpa using cZ n4);rw[av,<-aF] at nn;refine aj (ik (show t<a.size by omega) ?_);by_cases e6:t=0
        ·rw[if_pos (by simpa using e6)];exact ag ⟨⟨_,rfl⟩,.inl ⟨_,rfl,pF nn sa sb (.inl e6)⟩⟩
        rw[if_neg (by simpa using e6)];have nl:=nn.len;simp only[ah] at nl;split
        ·exact ag ⟨⟨_,rfl⟩,.inr ⟨rfl,⟨nn,by dsimp only;omega,by dsimp only;omega⟩,by dsimp only;omega⟩⟩
        ·exact ag ⟨⟨_,rfl⟩,rfl,⟨nn,by dsimp only;omega,by dsimp only;omega⟩,by dsimp only;omega⟩
     ·rw[if_neg hg];rw[yZ];refine aj (cH (aj (ik qB ?_)));obtain⟨t,ct⟩:=Io sa xI b[nb];refine aj (qr R hk oa (ob _ (aS _)) (by omega) (by omega) ct ?_);dsimp only;obtain⟨m1,m2,m3⟩:=mw.mh.tF sa sb qB ct;by_cases kp:na+1-t>0
      ·rw[if_pos kp];by_cases e1:t=0
       ·rw[if_pos (by simpa using e1)];exact ag ⟨⟨_,rfl⟩,.inl ⟨_,rfl,pF m1 sa sb (.inl e1)⟩⟩
       rw[if_neg (by simpa using e1)];obtain⟨t,rfl⟩:∃v,t=v+1:=⟨t-1,by omega⟩
       simp only[Nat.add_sub_cancel];have m4:=m3 t rfl;rw[iW (by omega)] at m4;have mb:=m1.ju sa sb (show t<a.toList.length by simp;omega) (show nb<b.toList.length by simpa using qB) (by simpa using m4);rw[av,<-aF] at mb;refine aj (ik qB ?_);by_cases e3:nb=1
       ·rw[if_pos (by simpa using e3)];exact ag ⟨⟨_,rfl⟩,.inl ⟨_,rfl,ua mb sa sb hb e3 h0⟩⟩
       rw[if_neg (by simpa using e3)];refine aj (ik (show t<a.size by omega) ?_);obtain⟨u,cu⟩:=Cj sb (show nb<=b.size by omega) (a[t]'(by omega));refine aj (qr R hk ob (oa _ (aS _)) (by omega) (by omega) cu ?_);dsimp only;obtain⟨n1,n2,n3⟩:=mb.nO sa sb (by omega) cu;by_cases kq:nb-u>0
       ·rw[if_pos kq];by_cases e4:u=1
        ·rw[if_pos (by simpa using e4)];exact ag ⟨⟨_,rfl⟩,.inl ⟨_,rfl,ua n1 sa sb hb e4 h0⟩⟩
        rw[if_neg (by simpa using e4)];by_cases e5:u=0
        ·rw[if_pos (by simpa using e5)];exact ag ⟨⟨_,rfl⟩,.inl ⟨_,rfl,pF n1 sa sb (.inr e5)⟩⟩
        rw[if_neg (by simpa using e5)];obtain⟨u,rfl⟩:∃v,u=v+1:=⟨u-1,by omega⟩
        have n4:=n3 u rfl;rw[iW (by omega)] at n4;have nn:=n1.gu sa sb (show t<a.toList.length by simp;omega) (show u<b.toList.length by simp;omega) (by simpa using cZ n4);rw[av,<-aF] at nn;refine aj (ik (show t<a.size by omega) ?_);by_cases e6:t=0
        ·rw[if_pos (by simpa using e6)];exact ag ⟨⟨_,rfl⟩,.inl ⟨_,rfl,pF nn sa sb (.inl e6)⟩⟩
        rw[if_neg (by simpa using e6)];have nl:=nn.len;simp only[ah] at nl;split
        ·exact ag ⟨⟨_,rfl⟩,.inr ⟨rfl,⟨nn,by dsimp only;omega,by dsimp only;omega⟩,by dsimp only;omega⟩⟩
        ·exact ag ⟨⟨_,rfl⟩,rfl,⟨nn,by dsimp only;omega,by dsimp only;omega⟩,by dsimp only;omega⟩
       ·rw[if_neg kq];have ku:u=nb:=by omega
        subst ku;obtain⟨u,rfl⟩:∃v,u=v+1:=⟨u-1,by omega⟩
        have n4:=n3 u rfl;rw[iW (by omega)] at n4;have nn:=mb.gu sa sb (show t<a.toList.length by simp;omega) (show u<b.toList.length by simp;omega) (by simpa using cZ n4);rw[av,<-aF] at nn;refine aj (ik (show t<a.size by omega) ?_);by_cases e6:t=0
        ·rw[if_pos (by simpa using e6)];exact ag ⟨⟨_,rfl⟩,.inl ⟨_,rfl,pF nn sa sb (.inl e6)⟩⟩
        rw[if_neg (by simpa using e6)];have nl:=nn.len;simp only[ah] at nl;split
        ·exact ag ⟨⟨_,rfl⟩,.inr ⟨rfl,⟨nn,by dsimp only;omega,by dsimp only;omega⟩,by dsimp only;omega⟩⟩
        ·exact ag ⟨⟨_,rfl⟩,rfl,⟨nn,by dsimp only;omega,by dsimp only;omega⟩,by dsimp only;omega⟩
      ·rw[if_neg kp];have kt:t=na+1:=by omega
       subst kt;have m5:MH rk a.toList b.toList out.toList (na+1) (nb+1):=mw.mh;generalize na=t at *;have m4:=m3 t rfl;rw[iW (by omega)] at m4;have mb:=m5.ju sa sb (show t<a.toList.length by simp;omega) (show nb<b.toList.length by simpa using qB) (by simpa using m4);rw[av,<-aF] at mb;refine aj (ik qB ?_);by_cases e3:nb=1
       ·rw[if_pos (by simpa using e3)];exact ag ⟨⟨_,rfl⟩,.inl ⟨_,rfl,ua mb sa sb hb e3 h0⟩⟩
       rw[if_neg (by simpa using e3)];refine aj (ik (show t<a.size by omega) ?_);obtain⟨u,cu⟩:=Cj sb (show nb<=b.size by omega) (a[t]'(by omega));refine aj (qr R hk ob (oa _ (aS _)) (by omega) (by omega) cu ?_);dsimp only;obtain⟨n1,n2,n3⟩:=mb.nO sa sb (by omega) cu;by_cases kq:nb-u>0
       ·rw[if_pos kq];by_cases e4:u=1
        ·rw[if_pos (by simpa using e4)];exact ag ⟨⟨_,rfl⟩,.inl ⟨_,rfl,ua n1 sa sb hb e4 h0⟩⟩
        rw[if_neg (by simpa using e4)];by_cases e5:u=0
        ·rw[if_pos (by simpa using e5)];exact ag ⟨⟨_,rfl⟩,.inl ⟨_,rfl,pF n1 sa sb (.inr e5)⟩⟩
        rw[if_neg (by simpa using e5)];obtain⟨u,rfl⟩:∃v,u=v+1:=⟨u-1,by omega⟩
        have n4:=n3 u rfl;rw[iW (by omega)] at n4;have nn:=n1.gu sa sb (show t<a.toList.length by simp;omega) (show u<b.toList.length by simp;omega) (by simpa using cZ n4);rw[av,<-aF] at nn;refine aj (ik (show t<a.size by omega) ?_);by_cases e6:t=0
        ·rw[if_pos (by simpa using e6)];exact ag ⟨⟨_,rfl⟩,.inl ⟨_,rfl,pF nn sa sb (.inl e6)⟩⟩
        rw[if_neg (by simpa using e6)];have nl:=nn.len;simp only[ah] at nl;split
        ·exact ag ⟨⟨_,rfl⟩,.inr ⟨rfl,⟨nn,by dsimp only;omega,by dsimp only;omega⟩,by dsimp only;omega⟩⟩
        ·exact ag ⟨⟨_,rfl⟩,rfl,⟨nn,by dsimp only;omega,by dsimp only;omega⟩,by dsimp only;omega⟩
       ·rw[if_neg kq];have ku:u=nb:=by omega
        subst ku;obtain⟨u,rfl⟩:∃v,u=v+1:=⟨u-1,by omega⟩
        have n4:=n3 u rfl;rw[iW (by omega)] at n4;have nn:=mb.gu sa sb (show t<a.toList.length by simp;omega) (show u<b.toList.length by simp;omega) (by simpa using cZ n4);rw[av,<-aF] at nn;refine aj (ik (show t<a.size by omega) ?_);by_cases e6:t=0
        ·rw[if_pos (by simpa using e6)];exact ag ⟨⟨_,rfl⟩,.inl ⟨_,rfl,pF nn sa sb (.inl e6)⟩⟩
        rw[if_neg (by simpa using e6)];have nl:=nn.len;simp only[ah] at nl;split
        ·exact ag ⟨⟨_,rfl⟩,.inr ⟨rfl,⟨nn,by dsimp only;omega,by dsimp only;omega⟩,by dsimp only;omega⟩⟩
        ·exact ag ⟨⟨_,rfl⟩,rfl,⟨nn,by dsimp only;omega,by dsimp only;omega⟩,by dsimp only;omega⟩
    ·rintro⟨c1,na,nb,out,mg,ac,bc⟩ eX ⟨⟨g,rfl⟩,gq,mw,hsz⟩;dsimp only at gq mw hsz ⊢;exact⟨⟨g,rfl⟩,.inr ⟨gq,mw,hsz⟩⟩
    ·rintro⟨c1,na,nb,out,mg,ac,bc⟩ eX ⟨⟨g,rfl⟩,hc⟩;dsimp only at hc ⊢;rcases hc with⟨r,rfl,gd⟩ | ⟨rfl,mw,hsz⟩
     ·exact ag ⟨g,r,rfl,rfl,gd⟩
     ·dsimp only;rw[yZ];exact aj (cH (ag ⟨⟨_,rfl⟩,rfl,mw,hsz⟩))
 ·rintro⟨c1,na,nb,out,mg⟩ eX ⟨⟨g,rfl⟩,gq,mw,hsz⟩;dsimp only at gq mw hsz ⊢;exfalso
  have h1:=mw.mh.len;have h2:=mw.la;have h3:=mw.lb;simp only[ah] at h1;rw[cR (aL _)] at hsz;omega
 ·rintro⟨c1,na,nb,out,mg⟩ eX ⟨g,r,rfl,rfl,g1,g2⟩;exact ag (q r g g1 g2)
theorem Vg(i:Nat):mergeAt' i=(do
 let s <-get
 let(some (sa,na,power),some (sb,nb,_)):=((pendingOf s)[i]?,(pendingOf s)[i+1]?) | unsupported "internal:list.sort.pending"
 set (setPending s (((pendingOf s).setIfInBounds i (sa,na+nb,power)).eraseIdxIfInBounds (i+1)))
 let some k <-vK false (<-elem' (arrOf s) sb) (arrOf s) sa na 0 | return false
 let(sa,na):=(sa+k,na-k)
 if na==0 then return true
 let some nb <-vK true (<-elem' (arrOf s) (sa+na-1)) (arrOf s) sb nb (nb-1) | return false
 if nb==0 then return true
 let x:=(arrOf s).extract sa sb
 let y:=(arrOf s).extract sb (sb+nb)
 let merged <-if na<=nb then EU x y else ET x y
 modify fun s=>setArr s (merged.toList.zipIdx.foldl (fun a (p,j)=>a.setIfInBounds (sa+j) p) (arrOf s))
 return (failedOf (<-get)).isNone):=rfl
variable {M:Model} {A:Around} {E:Value->Shared->Prop} {s:Shared}
theorem K7(p0:Nat):∀(m l:List Keyed) (k:Nat),p0+k+m.length<=l.length->
  (m.zipIdx k).foldl (fun(a:Array Keyed) (q:Keyed×Nat)=>a.setIfInBounds (p0+q.2) q.1) l.toArray=(l.take (p0+k)++m++l.drop (p0+k+m.length)).toArray
 | [],l,k,h=>by simp
 | x::m,l,k,h=>by
  simp only[aE] at h;rw[List.zipIdx_cons,List.foldl_cons];dsimp only;rw[show l.toArray.setIfInBounds (p0+k) x=(l.set (p0+k) x).toArray by simp];rw[K7 p0 m (l.set (p0+k) x) (k+1) (by rw[List.length_set];omega)];congr 1
  have e1:(l.set (p0+k) x).take (p0+(k+1))=l.take (p0+k)++[x]:=by
   rw[show p0+(k+1)=p0+k+1 by omega,bg,List.take_set,List.getElem?_set_self (by omega)];rw[List.set_eq_of_length_le (by simp;omega)];rfl
  rw[e1,List.drop_set_of_lt (by omega)];simp only[aE,bO,cA,eH];rw[show p0+(k+1)+m.length=p0+k+(m.length+1) by omega]
theorem QN{x:SortSt}{Q:PUnit->SortSt->Prop}{st:SortSt}(q:Q ⟨⟩ x):wpS M A E s (set x:StateT SortSt Sem PUnit) Q st:=cH (f:=fun _=>x) q
theorem Cy{rk:Keyed->Int}{l:List Keyed}(h:gQ rk l){i j:Nat}(jx:i<=j)(hj:j<l.length):rk (l[i]'(by omega))<=rk l[j]:=by
 by_cases e:i=j
 ·subst e;exact cj _
 ·exact b9.mp h i j (by omega) hj (by omega)
theorem gQ.app{rk:Keyed->Int}{l m:List Keyed}(h1:gQ rk l)(h2:gQ rk m)(h:∀x∈l,∀y∈m,rk x<=rk y):gQ rk (l++m):=bM.mpr ⟨h1,h2,h⟩
theorem Vf{κ:SortKind}{ok:Keyed->Prop}{rk:Keyed->Int}(R:Rk M A E s κ ok rk){i pa pb:Nat}{P X Y S:List Keyed}{Q:Bool->SortSt->Prop}{st:SortSt}(hk:kindOf st=κ)(hf:failedOf st=none)(oa:∀x∈arrOf st,ok x)
  (dec:(arrOf st).toList=P++(X++(Y++S))) (p1:(pendingOf st)[i]?=some (P.length,X.length,pa)) (p2:(pendingOf st)[i+1]?=some (P.length+X.length,Y.length,pb)) (ha:0<X.length) (hb:0<Y.length) (s1:gQ rk X) (s2:gQ rk Y)
  (q:∀(Z:List Keyed) g,Z.Perm (X++Y)->gQ rk Z->Q true (SortSt.mk' κ (P++(Z++S)).toArray (((pendingOf st).setIfInBounds i (P.length,X.length+Y.length,pa)).eraseIdxIfInBounds (i+1)) g none)):wpS M A E s (mergeAt' i) Q st:=by
 rw[Vg];refine aj (wpS_get ?_);rw[p1,p2];dsimp only;refine aj (QN ?_);have hsz:(arrOf st).size=P.length+(X.length+(Y.length+S.length)):=by rw[<-ah,dec];simp
 have eL:arrOf st=(P++(X++(Y++S))).toArray:=by rw[<-dec]
 have gX:∀t,(h:t<X.length)->(arrOf st).getD (P.length+t) dk=X[t]:=fun t h=>by
  rw[iW (by omega)];simp[eL,List.getElem_append_right,List.getElem_append_left,h]
 have gY:∀t,(h:t<Y.length)->(arrOf st).getD (P.length+X.length+t) dk=Y[t]:=fun t h=>by
  rw[iW (by omega)];have e2:P.length+X.length+t-P.length-X.length=t:=by omega
  simp only[eL,List.getElem_toArray];rw[List.getElem_append_right (by omega),List.getElem_append_right (by omega),List.getElem_append_left (by omega)];congr 1
 have Zg:(arrOf st)[P.length+X.length]'(by omega)=Y[0]:=by
  have:=gY 0 hb;rw[iW (by omega)] at this;simpa using this
 refine aj (ik (show P.length+X.length<(arrOf st).size by omega) ?_);rw[Zg]
 have hL:∀x,x∈P\/x∈X\/x∈Y\/x∈S->ok x:=fun x hx=>oa x (by
  rw[<-bQ,dec];simp only[ay];exact hx)
 obtain⟨k,ck⟩:∃k,Cut (fun i=>if false=true then decide (rk ((arrOf st).getD (P.length+i) dk)<rk Y[0]) else !decide (rk Y[0]<rk ((arrOf st).getD (P.length+i) dk))) X.length k:=by
  refine vy _ _ fun i j jx hj h=>?_
  have:=Cy s1 jx hj;rw[gX j hj] at h;rw[gX i (by omega)];simp only[af,aJ,bG,aZ] at h ⊢;omega
 have Na:=ck.1;refine aj (qr R hk oa (hL _ (.inr (.inr (.inl (cC _))))) (by omega) ha ck ?_);dsimp only;have x1:∀x∈X.take k,∀y∈Y,rk x<=rk y:=fun x hx y hy=>by
  obtain⟨t,ht,rfl⟩:=bj hx;obtain⟨u,hu,rfl⟩:=bj hy;have jF:t<k:=by simp at ht;omega
  have h1:=(ck.2 t (by omega)).mpr jF;dsimp only at h1;rw[gX t (by omega)] at h1;have h2:=Cy s2 (aL u) hu;simp only[af,aJ,bG,aZ] at h1;rw[dF];omega
 have x2:∀x∈X.drop k,rk Y[0]<rk x:=fun x hx=>by
  obtain⟨t,ht,rfl⟩:=bj hx;have jF:k+t<X.length:=by simp at ht;omega
  have h1:=mt (ck.2 (k+t) jF).mp (by omega);dsimp only at h1;rw[gX _ jF] at h1;rw[List.getElem_drop];simpa using h1
 have same:∀g,SortSt.mk' κ (P++((X++Y)++S)).toArray (((pendingOf st).setIfInBounds i (P.length,X.length+Y.length,pa)).eraseIdxIfInBounds (i+1)) g none=SortSt.mk' κ (arrOf st) (((pendingOf st).setIfInBounds i (P.length,X.length+Y.length,pa)).eraseIdxIfInBounds (i+1)) g none:=fun g=>by
  rw[eL];simp
 have whole:gQ rk (X++Y)->Q true (setPending st (((pendingOf st).setIfInBounds i (P.length,X.length+Y.length,pa)).eraseIdxIfInBounds (i+1))):=fun h=>by
  have:=q (X++Y) (gallopOf st) (List.Perm.refl _) h;rw[same] at this;show Q true (SortSt.mk' (kindOf st) (arrOf st) _ (gallopOf st) (failedOf st));rw[hk,hf];exact this
 by_cases e1:X.length-k=0
 ·rw[if_pos (by simpa using e1)];refine ag (whole (s1.app s2 fun x hx=>x1 x ?_));rw[bf (by omega)];exact hx
 rw[if_neg (by simpa using e1)];have gl:(arrOf st)[P.length+k+(X.length-k)-1]'(by omega)=X[X.length-1]:=by
  have:=gX (X.length-1) (by omega);rw[iW (by omega)] at this;rw[<-this];congr 1
  omega
 refine aj (ik (show P.length+k+(X.length-k)-1<(arrOf st).size by omega) ?_);rw[gl];obtain⟨m,cm⟩:∃m,Cut (fun i=>if true=true then decide (rk ((arrOf st).getD (P.length+X.length+i) dk)<rk X[X.length-1]) else !decide (rk X[X.length-1]<rk ((arrOf st).getD (P.length+X.length+i) dk))) Y.length m:=by
  refine vy _ _ fun i j jx hj h=>?_
  have:=Cy s2 jx hj;rw[gY j hj] at h;rw[gY i (by omega)];simp only[aR,bF] at h ⊢;omega
 have HL:=cm.1;refine aj (qr R hk oa (hL _ (.inr (.inl (cC _)))) (by omega) (by omega) cm ?_);dsimp only;have y1:∀y∈Y.take m,rk y<rk X[X.length-1]:=fun y hy=>by
  obtain⟨t,ht,rfl⟩:=bj hy;have jF:t<m:=by simp at ht;omega
  have h1:=(cm.2 t (by omega)).mpr jF;dsimp only at h1;rw[gY t (by omega)] at h1;rw[dF];simpa using h1
 have y2:∀x∈X,∀y∈Y.drop m,rk x<=rk y:=fun x hx y hy=>by
  obtain⟨t,ht,rfl⟩:=bj hy;obtain⟨u,hu,rfl⟩:=bj hx;have jF:m+t<Y.length:=by simp at ht;omega
  have h1:=mt (cm.2 (m+t) jF).mp (by omega);dsimp only at h1;rw[gY _ jF] at h1;have h2:=Cy s1 (show u<=X.length-1 by omega) (by omega);rw[List.getElem_drop];simp only[aR,bF] at h1;omega
 by_cases e2:m=0
 ·rw[if_pos (by simpa using e2)];refine ag (whole (s1.app s2 fun x hx y hy=>y2 x hx y ?_));rw[e2];simpa using hy
 rw[if_neg (by simpa using e2)];have ex:((arrOf st).extract (P.length+k) (P.length+X.length)).toList=X.drop k:=by
  rw[du,dec];simp only[List.extract];rw[cU,dv Na,show P.length+X.length-(P.length+k)=(X.drop k).length by rw[bC];omega,List.take_left]
 have ey:((arrOf st).extract (P.length+X.length) (P.length+X.length+m)).toList=Y.take m:=by
  rw[du,dec];simp only[List.extract];rw[cU,show X.length=X.length+0 from rfl,cU,List.drop_zero,show P.length+(X.length+0)+m-(P.length+(X.length+0))=m by omega,List.take_append_of_le_length HL]
 have zx:((arrOf st).extract (P.length+k) (P.length+X.length)).size=X.length-k:=by rw[<-ah,ex,bC]
 have zy:((arrOf st).extract (P.length+X.length) (P.length+X.length+m)).size=m:=by rw[<-ah,ey,aM];omega
 generalize (arrOf st).extract (P.length+k) (P.length+X.length)=x at ex zx ⊢;generalize (arrOf st).extract (P.length+X.length) (P.length+X.length+m)=y at ey zy ⊢;have ox:∀z∈x,ok z:=fun z hz=>hL z (.inr (.inl (cS (by rw[<-ex];exact bQ.mpr hz))))
 have oy:∀z∈y,ok z:=fun z hz=>hL z (.inr (.inr (.inl (cw (by rw[<-ey];exact bQ.mpr hz)))))
 have sx:gQ rk x.toList:=by rw[ex];exact s1.sublist (List.drop_sublist _ _)
 have sy:gQ rk y.toList:=by rw[ey];exact s2.sublist (List.take_sublist _ _)
 have Mi:0<x.size:=by omega
 have xK:0<y.size:=by omega
 have Zc:y[0]=Y[0]:=by
  have:y.toList[0]'(by simpa using xK)=Y[0]:=by simp only[ey,dF]
  simpa using this
 have Zd:x[x.size-1]=X[X.length-1]:=by
  have:x.toList[x.size-1]'(by simp;omega)=X[X.length-1]:=by
   simp only[ex,List.getElem_drop];congr 1
   omega
  simpa using this
 have fx:∀z∈x,rk y[0]<rk z:=fun z hz=>by
  rw[Zc];exact x2 z (by rw[<-ex];exact bQ.mpr hz)
 have fy:∀z∈y,rk z<rk (x[x.size-1]):=fun z hz=>by
  rw[Zd];exact y1 z (by rw[<-ey];exact bQ.mpr hz)
 have fin:∀(r:Array Keyed) g,r.toList.Perm (x.toList++y.toList)->gQ rk r.toList->Q true (SortSt.mk' κ (r.toList.zipIdx.foldl (fun(a:Array Keyed) (z:Keyed×Nat)=>a.setIfInBounds (P.length+k+z.2) z.1) (arrOf st)) (((pendingOf st).setIfInBounds i (P.length,X.length+Y.length,pa)).eraseIdxIfInBounds (i+1)) g none):=fun r g rp rs=>by
  have rl:=rp.length_eq;rw[au,ex,ey,bC,aM,eJ HL] at rl;rw[ex,ey] at rp;have e9:=K7 (P.length+k) r.toList (P++(X++(Y++S))) 0 (by simp only[au];omega);rw[<-eL] at e9;rw[e9];have t1:(P++(X++(Y++S))).take (P.length+k+0)=P++X.take k:=by
   rw[Nat.add_zero,List.take_length_add_append,List.take_append_of_le_length Na]
  have t2:(P++(X++(Y++S))).drop (P.length+k+0+r.toList.length)=Y.drop m++S:=by
   rw[show P.length+k+0+r.toList.length=P.length+(X.length+m) by omega,cU,cU,dv HL]
  rw[t1,t2];have:=q (X.take k++(r.toList++Y.drop m)) g ?_ ?_
  ·simpa[bO] using this
  ·have h1:(X.take k++(r.toList++Y.drop m)).Perm (X.take k++((X.drop k++Y.take m)++Y.drop m)):=List.Perm.append_left _ (rp.append_right _);refine h1.trans ?_;rw[bO,bH,<-bO,bH]
  ·have mr:∀z∈r.toList,z∈X.drop k\/z∈Y.take m:=fun z hz=>ay.mp (rp.mem_iff.mp hz)
   have XJ:gQ rk (X.take k++X.drop k):=by rw[bH];exact s1
   have XI:gQ rk (Y.take m++Y.drop m):=by rw[bH];exact s2
   have d1:=(bM.mp XJ)
   have d2:=(bM.mp XI)
   refine gQ.app d1.1 (rs.app d2.2.1 fun z hz w hw=>?_) fun z hz w hw=>?_
   ·rcases mr z hz with h | h
    ·exact y2 z (cS h) w hw
    ·exact d2.2.2 z h w hw
   ·rcases ay.mp hw with hw | hw
    ·rcases mr w hw with h | h
     ·exact d1.2.2 z hz w h
     ·exact x1 z hz w (cw h)
    ·exact x1 z hz w (cS hw)
 split
 ·refine aj (Vj R hk ox oy sx sy Mi xK (fx _ (aS _)) fy fun r g rp rs=>?_);refine aj (cH (aj (wpS_get (ag ?_))));have:=fin r g rp rs;show Q (failedOf st).isNone (SortSt.mk' (kindOf st) _ _ g (failedOf st));rw[hf,hk];exact this
 ·refine aj (Vh R hk ox oy sx sy Mi xK fx (fy _ (aS _)) fun r g rp rs=>?_);refine aj (cH (aj (wpS_get (ag ?_))));have:=fin r g rp rs;show Q (failedOf st).isNone (SortSt.mk' (kindOf st) _ _ g (failedOf st));rw[hf,hk];exact this
noncomputable def kr(rk:Keyed->Int)(xs:Array Keyed)(i:Nat):Int:=rk (xs.getD i dk)
def iY(rk:Keyed->Int)(xs:Array Keyed)(lo n:Nat):Prop:=∀i j,i<=j->j<n->kr rk xs (lo+i)<=kr rk xs (lo+j)
structure Sl (xs ys:Array Keyed) (lo n:Nat):Prop where
 pm:ys.Perm xs
 out:∀j,j<lo\/lo+n<=j->ys[j]?=xs[j]?
theorem Sl.size{xs ys:Array Keyed}{lo n:Nat}(h:Sl xs ys lo n):ys.size=xs.size:=h.pm.size_eq
theorem Sl.refl(xs:Array Keyed)(lo n:Nat):Sl xs xs lo n:=⟨Array.Perm.refl _,fun _ _=>rfl⟩
theorem Sl.trans{xs ys zs:Array Keyed}{lo n:Nat}(h:Sl xs ys lo n)(h':Sl ys zs lo n):Sl xs zs lo n:=⟨h'.pm.trans h.pm,fun j hj=>(h'.out j hj).trans (h.out j hj)⟩
theorem z7{rk:Keyed->Int}{xs ys:Array Keyed}{i j:Nat}(h:ys[i]?=xs[j]?):kr rk ys i=kr rk xs j:=by
 unfold kr;rw[Array.getD_eq_getD_getElem?,Array.getD_eq_getD_getElem?,h]
variable {M:Model} {A:Around} {E:Value->Shared->Prop} {s:Shared}
theorem sk{κ:SortKind}{ok:Keyed->Prop}{rk:Keyed->Int}(R:Rk M A E s κ ok rk){i j:Nat}{Q:Option Bool->SortSt->Prop}{st:SortSt}(hk:kindOf st=κ)(oa:∀x∈arrOf st,ok x)(hi:i<(arrOf st).size)(hj:j<(arrOf st).size)
  (q:Q (some (decide (kr rk (arrOf st) i<kr rk (arrOf st) j))) st):wpS M A E s (ltAt' i j) Q st:=by
 rw[ltAt'_eq];refine aj (wpS_get (aj (ik hi (aj (ik hj ?_)))));refine R.lt _ _ _ _ (oa _ (aS _)) (oa _ (aS _)) hk ?_;unfold kr at q;rwa [iW hi,iW hj] at q
theorem Sl.ok{xs ys:Array Keyed}{lo n:Nat}(h:Sl xs ys lo n){ok:Keyed->Prop}(oa:∀x∈xs,ok x):∀x∈ys,ok x:=fun x hx=>oa x (h.pm.mem_iff.mp hx)
theorem T9{κ:SortKind}{ok:Keyed->Prop}{rk:Keyed->Int}(R:Rk M A E s κ ok rk){lo n k0:Nat}{Q:Bool->SortSt->Prop}{st:SortSt}(hk:kindOf st=κ)(oa:∀x∈arrOf st,ok x)(hn:lo+n<=(arrOf st).size)(hs:iY rk (arrOf st) lo k0)(YH:k0<=n)
  (q:∀ys,Sl (arrOf st) ys lo n->iY rk ys lo n->Q true (setArr st ys)):wpS M A E s (binarySort' lo n k0) Q st:=by
 rw[binarySort'_eq];refine aj (cF (br (I:=fun k (c:Option Bool×Unit) eX=>c.1=none/\∃ys,eX=setArr st ys/\Sl (arrOf st) ys lo n/\iY rk ys lo (min k n))
  (Q:=fun c eX=>c.1=none/\∃ys,eX=setArr st ys/\Sl (arrOf st) ys lo n/\iY rk ys lo n) ?step ?fin ?init) ?post)
 case post=>
  rintro⟨c,⟨⟩⟩ eX ⟨hc,ys,rfl,h1,h2⟩;dsimp only at hc;subst hc;exact ag (q ys h1 h2)
 case init=>
  refine⟨rfl,arrOf st,rfl,Sl.refl _ _ _,fun i j jx hj=>?_⟩;by_cases h1:k0=0
  ·have:i=j:=by omega
   subst this;exact cj _
  ·exact hs i j jx (by omega)
 case fin=>
  rintro c eX ⟨hc,ys,rfl,h1,h2⟩;exact⟨hc,ys,rfl,h1,by rwa [show min (max (max k0 1) n) n=n by omega] at h2⟩
 case step=>
  rintro k ⟨c,⟨⟩⟩ eX MF wu ⟨hc,ys,rfl,h1,h2⟩;dsimp only at hc ⊢;subst hc;rw[show min k n=k by omega] at h2;have hsz:=h1.size;have oy:=h1.ok oa;obtain⟨p,cp⟩:∃p,Cut (fun m=>!decide (kr rk ys (lo+k)<kr rk ys (lo+m))) k p:=by
   refine vy _ _ fun i j jx hj h=>?_
   have:=h2 i j jx hj;simp only[bG,aZ] at h ⊢;omega
  have Zn:=cp.1;refine aj (cF (br (I:=fun j (c:Option Bool×Nat×Nat) eX=>eX=setArr st ys/\c.1=none/\c.2.1<=p/\p<=c.2.2/\c.2.2<=k/\c.2.2-c.2.1+j<=k)
   (Q:=fun(c:Option Bool×Nat×Nat) eX=>eX=setArr st ys/\c.1=none/\c.2.1=p) ?_ ?_ ⟨rfl,rfl,aL _,Zn,az _,by show k-0+0<=k;omega⟩) ?_)
  ·rintro j ⟨c,l,r⟩ eX _ hj ⟨rfl,hc,e1,e2,e3,e4⟩;dsimp only at hc e1 e2 e3 e4 ⊢;subst hc;by_cases hd:l>=r
   ·rw[if_pos hd];exact ag ⟨rfl,rfl,by dsimp only;omega⟩
   ·rw[if_neg hd];refine aj (sk R hk oy (show lo+k<ys.size by omega) (show lo+(l+r)/2<ys.size by omega) ?_);have hm:=cp.2 ((l+r)/2) (by omega);simp only[bG,aZ] at hm;dsimp only;by_cases fI:kr rk ys (lo+k)<kr rk ys (lo+(l+r)/2)
    ·have:¬(l+r)/2<p:=fun z=>hm.mpr z fI
     rw[show decide (kr rk (arrOf (setArr st ys)) (lo+k)<kr rk (arrOf (setArr st ys)) (lo+(l+r)/2))=true from cW fI];simp only[aR];exact ag ⟨rfl,rfl,e1,by dsimp only;omega,by dsimp only;omega,by dsimp only;omega⟩
    ·have:(l+r)/2<p:=hm.mp fI;rw[show decide (kr rk (arrOf (setArr st ys)) (lo+k)<kr rk (arrOf (setArr st ys)) (lo+(l+r)/2))=false from ba fI];simp only[af,aJ];exact ag ⟨rfl,rfl,by dsimp only;omega,e2,e3,by dsimp only;omega⟩
  ·rintro⟨c,l,r⟩ eX ⟨rfl,hc,e1,e2,e3,e4⟩;dsimp only at hc e1 e2 e3 e4 ⊢;exact⟨rfl,hc,by rw[cR (aL k)] at e4;omega⟩
  ·rintro⟨c,l,r⟩ eX ⟨rfl,hc,e1⟩;dsimp only at hc e1 ⊢;subst hc e1;dsimp only;rw[moveDown'_eq];refine aj (cH (ag ⟨rfl,bubble ys (lo+k) (lo+k-(lo+l)),rfl,h1.trans ⟨bubble_perm _ _ _,fun j hj=>?_⟩,?_⟩))
   ·rw[getElem?_bubble (by omega) _ (by omega),if_neg (by omega),if_neg (by omega)]
   ·rw[show min (k+1) n=k+1 by omega];have kb:∀j,kr rk (bubble ys (lo+k) (lo+k-(lo+l))) (lo+j)=if j=l then kr rk ys (lo+k) else if l<j/\j<=k then kr rk ys (lo+(j-1)) else kr rk ys (lo+j):=fun j=>by
     have e:=getElem?_bubble (xs:=ys) (src:=lo+k) (by omega) (lo+k-(lo+l)) (by omega) (lo+j);by_cases c1:j=l
     ·rw[if_pos (by omega)] at e;rw[if_pos c1];exact z7 e
     ·rw[if_neg (by omega)] at e;rw[if_neg c1];by_cases c2:l<j/\j<=k
      ·rw[if_pos (by omega),show lo+j-1=lo+(j-1) by omega] at e;rw[if_pos c2];exact z7 e
      ·rw[if_neg (by omega)] at e;rw[if_neg c2];exact z7 e
    have below:∀m,m<l->kr rk ys (lo+m)<=kr rk ys (lo+k):=fun m hm=>by
     have:=(cp.2 m (by omega)).mpr hm;simp only[bG,aZ] at this;omega
    have above:∀m,l<=m->m<k->kr rk ys (lo+k)<=kr rk ys (lo+m):=fun m hm zf=>by
     have:=mt (cp.2 m zf).mp (by omega);simp only[bG,aZ] at this;omega
    intro i j jx hj;rw[kb,kb];by_cases a1:i=l
    ·rw[if_pos a1];by_cases b1:j=l
     ·rw[if_pos b1];exact cj _
     ·rw[if_neg b1,if_pos (by omega)];exact above _ (by omega) (by omega)
    ·rw[if_neg a1];by_cases a2:l<i/\i<=k
     ·rw[if_pos a2,if_neg (by omega),if_pos (by omega)];exact h2 _ _ (by omega) (by omega)
     ·rw[if_neg a2];by_cases b1:j=l
      ·rw[if_pos b1];exact below i (by omega)
      ·rw[if_neg b1];by_cases b2:l<j/\j<=k
       ·rw[if_pos b2];exact h2 _ _ (by omega) (by omega)
       ·rw[if_neg b2];exact h2 _ _ jx (by omega)
theorem Fm{rk:Keyed->Int}{xs:Array Keyed}{i j:Nat}(hj:j<=xs.size)(k:Nat):kr rk (mirror xs i j ((j-i)/2)) k=if i<=k/\k<j then kr rk xs (i+j-1-k) else kr rk xs k:=by
 have e:=getElem?_mirror_all (i:=i) hj k;by_cases h1:i<=k/\k<j
 ·rw[if_pos h1] at e ⊢;exact z7 e
 ·rw[if_neg h1] at e ⊢;exact z7 e
theorem uM{xs:Array Keyed}{i j lo n:Nat}(hj:j<=xs.size)(hi:lo<=i)(hn:j<=lo+n):Sl xs (mirror xs i j ((j-i)/2)) lo n:=
 ⟨mirror_perm _ _ _ _,fun k hk=>by rw[getElem?_mirror_all hj,if_neg (by omega)]⟩
theorem Au{rk:Keyed->Int}{xs:Array Keyed}{i j:Nat}(hj:j<=xs.size)(heq:∀k,i<=k->k<j->kr rk xs k=kr rk xs (j-1))(k:Nat):kr rk (mirror xs i j ((j-i)/2)) k=kr rk xs k:=by
 rw[Fm hj];split
 ·rw[heq _ (by omega) (by omega),heq k (by omega) (by omega)]
 ·rfl
def Dec(rk:Keyed->Int)(xs:Array Keyed)(lo n:Nat):Prop:=∀i j,i<=j->j<n->kr rk xs (lo+j)<=kr rk xs (lo+i)
theorem iY.more{rk:Keyed->Int}{xs:Array Keyed}{lo n:Nat}(h:iY rk xs lo n)(hn:1<=n)(hl:kr rk xs (lo+n-1)<=kr rk xs (lo+n)):iY rk xs lo (n+1):=fun i j jx hj=>by
 by_cases e:j=n
 ·subst e;by_cases e2:i=j
  ·subst e2;exact cj _
  ·have:=h i (j-1) (by omega) (by omega);rw[show lo+(j-1)=lo+j-1 by omega] at this;omega
 ·exact h i j jx (by omega)
theorem Dec.more{rk:Keyed->Int}{xs:Array Keyed}{lo n:Nat}(h:Dec rk xs lo n)(hn:1<=n)(hl:kr rk xs (lo+n)<=kr rk xs (lo+n-1)):Dec rk xs lo (n+1):=fun i j jx hj=>by
 by_cases e:j=n
 ·subst e;by_cases e2:i=j
  ·subst e2;exact cj _
  ·have:=h i (j-1) (by omega) (by omega);rw[show lo+(j-1)=lo+j-1 by omega] at this;omega
 ·exact h i j jx (by omega)
theorem Dec.turn{rk:Keyed->Int}{xs:Array Keyed}{lo n:Nat}(h:Dec rk xs lo n)(hn:lo+n<=xs.size):iY rk (mirror xs lo (lo+n) ((lo+n-lo)/2)) lo n:=fun i j jx hj=>by
 rw[Fm hn,Fm hn,if_pos (by omega),if_pos (by omega)];have:=h (n-1-j) (n-1-i) (by omega) (by omega);rw[show lo+(lo+n)-1-(lo+i)=lo+(n-1-i) by omega,show lo+(lo+n)-1-(lo+j)=lo+(n-1-j) by omega];exact this
variable {M:Model} {A:Around} {E:Value->Shared->Prop} {s:Shared}
theorem uI{i j:Nat}{Q:Unit->SortSt->Prop}{st:SortSt}(h:Q () (setArr st (mirror (arrOf st) i j ((j-i)/2)))):wpS M A E s (reverseSlice' i j) Q st:=by
 rw[reverseSlice'_eq];exact cH h
theorem T4{κ:SortKind}{ok:Keyed->Prop}{rk:Keyed->Int}(R:Rk M A E s κ ok rk){lo gU:Nat}{Q:Option Nat->SortSt->Prop}{st:SortSt}(hk:kindOf st=κ)(oa:∀x∈arrOf st,ok x)(hn:lo+gU<=(arrOf st).size)(h1:1<=gU)
  (q:∀ys n,1<=n->n<=gU->Sl (arrOf st) ys lo gU->iY rk ys lo n->Q (some n) (setArr st ys)):wpS M A E s (countRun' lo gU) Q st:=by
 rw[countRun'_eq];refine aj (cF (br (I:=fun i (c:Option (Option Nat)×Nat) eX=>eX=st/\c.1=none/\c.2=i/\iY rk (arrOf st) lo i)
  (Q:=fun(c:Option (Option Nat)×Nat) eX=>eX=st/\c.1=none/\1<=c.2/\c.2<=gU/\iY rk (arrOf st) lo c.2/\(c.2<gU->kr rk (arrOf st) (lo+c.2)<kr rk (arrOf st) (lo+c.2-1))) ?_ ?_ ⟨rfl,rfl,rfl,fun i j jx hj=>by rw[show i=j by omega];exact cj _⟩) ?_)
 ·rintro i ⟨c,n⟩ eX h2 h3 ⟨rfl,hc,e,hs⟩;dsimp only at hc e ⊢;subst hc e;refine aj (sk R hk oa (by omega) (by omega) ?_);dsimp only;by_cases fI:kr rk (arrOf eX) (lo+n)<kr rk (arrOf eX) (lo+n-1)
  ·simp only[fI,bR,aR];exact ag ⟨rfl,rfl,h2,by dsimp only;omega,hs,fun _=>fI⟩
  ·simp only[fI,bp,af,aJ];exact ag ⟨rfl,rfl,rfl,hs.more h2 (by omega)⟩
 ·rintro⟨c,n⟩ eX ⟨rfl,hc,e,hs⟩;dsimp only at hc e ⊢;subst e;exact⟨rfl,hc,by omega,by omega,hs,fun z=>by omega⟩
 ·rintro⟨c,n⟩ eX ⟨rfl,hc,n1,n2,hs,hd⟩;dsimp only at hc n1 n2 hs hd ⊢;subst hc;dsimp only;by_cases e1:n=gU
  ·rw[if_pos (by simpa using e1)];exact ag (q (arrOf eX) n n1 n2 (Sl.refl _ _ _) hs)
  rw[if_neg (by simpa using e1)];have Hm:=hd (by omega);by_cases e2:n>1
  ·rw[if_pos e2];refine aj (sk R hk oa (by omega) (by omega) ?_);dsimp only;by_cases hr:kr rk (arrOf eX) lo<kr rk (arrOf eX) (lo+n-1)
   ·simp only[hr,bR,aR];exact ag (q (arrOf eX) n n1 n2 (Sl.refl _ _ _) hs)
   ·simp only[hr,bp,af,aJ];have same:∀k,lo<=k->k<lo+n->kr rk (arrOf eX) k=kr rk (arrOf eX) (lo+n-1):=fun k k1 k2=>by
     have a1:=hs 0 (k-lo) (by omega) (by omega);have a2:=hs (k-lo) (n-1) (by omega) (by omega);rw[show lo+(k-lo)=k by omega] at a1 a2;rw[show lo+(n-1)=lo+n-1 by omega] at a2;simp only[Nat.add_zero] at a1;omega
    have km:=Au (rk:=rk) (xs:=arrOf eX) (i:=lo) (j:=lo+n) (by omega) same;have l0:=uM (xs:=arrOf eX) (i:=lo) (j:=lo+n) (lo:=lo) (n:=gU) (by omega) (by omega) (by omega);refine aj (uI ?_);generalize mirror (arrOf eX) lo (lo+n) ((lo+n-lo)/2)=y0 at km l0;have d0:Dec rk y0 lo (n+1):=by
     have dd:Dec rk y0 lo n:=fun i j jx hj=>by
      rw[km,km,same _ (by omega) (by omega),same (lo+i) (by omega) (by omega)];exact cj _
     refine dd.more n1 ?_;rw[km,km];omega
    refine aj (xi ?_);refine aj (cF (br (I:=fun i (c:Option (Option Nat)×Nat×Nat) fi=>∃ys,fi=setArr eX ys/\Sl (arrOf eX) ys lo gU/\c.1=none/\c.2.1=i/\Dec rk ys lo i/\c.2.2<i/\∀t,t<=c.2.2->kr rk ys (lo+i-1-t)=kr rk ys (lo+i-1))
     (Q:=fun(c:Option (Option Nat)×Nat×Nat) fi=>∃ys,fi=setArr eX ys/\Sl (arrOf eX) ys lo gU/\c.1=none/\1<=c.2.1/\c.2.1<=gU/\Dec rk ys lo c.2.1/\c.2.2<c.2.1/\∀t,t<=c.2.2->kr rk ys (lo+c.2.1-1-t)=kr rk ys (lo+c.2.1-1)) ?_ ?_ ⟨y0,rfl,l0,rfl,rfl,d0,by dsimp only;omega,fun t ht=>by rw[show t=0 by dsimp only at ht;omega];rfl⟩) ?_)
    ·rintro i ⟨c,n,e⟩ fi h2 h3 ⟨ys,rfl,ly,hc,ei,dy,en,eq⟩;dsimp only at hc ei en eq ⊢;subst hc ei;have hsz:=ly.size;refine aj (sk R hk (ly.ok oa) (show lo+n<ys.size by omega) (show lo+n-1<ys.size by omega) ?_);dsimp only;by_cases fI:kr rk ys (lo+n)<kr rk ys (lo+n-1)
     ·rw[show decide (kr rk (arrOf (setArr eX ys)) (lo+n)<kr rk (arrOf (setArr eX ys)) (lo+n-1))=true from cW fI];simp only[aR];have dm:=dy.more (by omega) (cZ fI);by_cases ep:e>0
      ·rw[if_pos ep]
       have km:=Au (rk:=rk) (xs:=ys) (i:=lo+n-(e+1)) (j:=lo+n) (by omega) (fun k k1 k2=>by
        have:=eq (lo+n-1-k) (by omega)
        rwa [show lo+n-1-(lo+n-1-k)=k by omega] at this)
       refine aj (uI ?_);refine ag ⟨_,rfl,ly.trans (uM (by show lo+n<=ys.size;omega) (by omega) (by omega)),rfl,rfl,fun i j jx hj=>?_,by dsimp only;omega,fun t ht=>by rw[show t=0 by dsimp only at ht;omega];rfl⟩;have:=dm i j jx hj;rw[<-km,<-km] at this;exact this
      ·rw[if_neg ep];exact ag ⟨ys,rfl,ly,rfl,rfl,dm,by dsimp only;omega,fun t ht=>by rw[show t=0 by dsimp only at ht;omega];rfl⟩
     ·rw[show decide (kr rk (arrOf (setArr eX ys)) (lo+n)<kr rk (arrOf (setArr eX ys)) (lo+n-1))=false from ba fI];simp only[af,aJ];refine aj (sk R hk (ly.ok oa) (show lo+n-1<ys.size by omega) (show lo+n<ys.size by omega) ?_);dsimp only;by_cases BC:kr rk ys (lo+n-1)<kr rk ys (lo+n)
      ·rw[show decide (kr rk (arrOf (setArr eX ys)) (lo+n-1)<kr rk (arrOf (setArr eX ys)) (lo+n))=true from cW BC];simp only[aR];exact ag ⟨ys,rfl,ly,rfl,by dsimp only;omega,by dsimp only;omega,dy,en,eq⟩
      ·rw[show decide (kr rk (arrOf (setArr eX ys)) (lo+n-1)<kr rk (arrOf (setArr eX ys)) (lo+n))=false from ba BC];simp only[af,aJ];refine ag ⟨ys,rfl,ly,rfl,rfl,dy.more (by omega) (by omega),by dsimp only;omega,fun t ht=>?_⟩;dsimp only at ht;rw[show lo+(n+1)-1=lo+n by omega];by_cases t0:t=0
       ·subst t0;rfl
       ·have:=eq (t-1) (by omega);rw[show lo+n-1-(t-1)=lo+n-t by omega] at this;omega
    ·rintro⟨c,n,e⟩ fi ⟨ys,rfl,ly,hc,ei,dy,en,eq⟩;dsimp only at hc ei en eq ⊢;subst ei;exact⟨ys,rfl,ly,hc,by omega,by omega,dy,en,eq⟩
    ·rintro⟨c,n,e⟩ fi ⟨ys,rfl,ly,hc,n1,n2,dy,en,eq⟩;dsimp only at hc n1 n2 dy en eq ⊢;subst hc;dsimp only;have hsz:=ly.size;by_cases ep:e>0
     ·rw[if_pos ep]
      have km:=Au (rk:=rk) (xs:=ys) (i:=lo+n-(e+1)) (j:=lo+n) (by omega) (fun k k1 k2=>by
       have:=eq (lo+n-1-k) (by omega)
       rwa [show lo+n-1-(lo+n-1-k)=k by omega] at this)
      refine aj (uI ?_);have lw:=ly.trans (uM (xs:=ys) (i:=lo+n-(e+1)) (j:=lo+n) (lo:=lo) (n:=gU) (by omega) (by omega) (by omega));show wpS M A E s _ Q (setArr eX (mirror ys (lo+n-(e+1)) (lo+n) ((lo+n-(lo+n-(e+1)))/2)));generalize mirror ys (lo+n-(e+1)) (lo+n) ((lo+n-(lo+n-(e+1)))/2)=ws at km lw;have dw:Dec rk ws lo n:=fun i j jx hj=>by
       have:=dy i j jx hj;rw[<-km,<-km] at this;exact this
      have hw:=lw.size;refine aj (uI ?_);have lz:=lw.trans (uM (xs:=ws) (i:=lo) (j:=lo+n) (lo:=lo) (n:=gU) (by omega) (by omega) (by omega));have hz:=dw.turn (by omega);show wpS M A E s _ Q (setArr eX (mirror ws lo (lo+n) ((lo+n-lo)/2)));generalize mirror ws lo (lo+n) ((lo+n-lo)/2)=zs at lz hz;refine aj (cF (br (I:=fun i (c:Option (Option Nat)×Nat) fi=>fi=setArr eX zs/\c.1=none/\c.2=i/\iY rk zs lo i)
       (Q:=fun(c:Option (Option Nat)×Nat) fi=>fi=setArr eX zs/\c.1=none/\1<=c.2/\c.2<=gU/\iY rk zs lo c.2) ?_ ?_ ⟨rfl,rfl,rfl,hz⟩) ?_)
      ·rintro i ⟨c,n⟩ fi h2 h3 ⟨rfl,hc,e,hs⟩;dsimp only at hc e ⊢;subst hc e;refine aj (sk R hk (lz.ok oa) (show lo+n<zs.size by have:=lz.size;omega) (show lo+n-1<zs.size by have:=lz.size;omega) ?_);dsimp only;by_cases fI:kr rk zs (lo+n)<kr rk zs (lo+n-1)
       ·rw[show decide (kr rk (arrOf (setArr eX zs)) (lo+n)<kr rk (arrOf (setArr eX zs)) (lo+n-1))=true from cW fI];simp only[aR];exact ag ⟨rfl,rfl,by dsimp only;omega,by dsimp only;omega,hs⟩
       ·rw[show decide (kr rk (arrOf (setArr eX zs)) (lo+n)<kr rk (arrOf (setArr eX zs)) (lo+n-1))=false from ba fI];simp only[af,aJ];exact ag ⟨rfl,rfl,rfl,hs.more (by omega) (by omega)⟩
      ·rintro⟨c,n⟩ fi ⟨rfl,hc,e,hs⟩;dsimp only at hc e ⊢;subst e;exact⟨rfl,hc,by omega,by omega,hs⟩
      ·rintro⟨c,n⟩ fi ⟨rfl,hc,n1,n2,hs⟩;dsimp only at hc n1 n2 hs ⊢;subst hc;exact ag (q zs n n1 n2 lz hs)
     ·rw[if_neg ep];refine aj (uI ?_);have lz:=ly.trans (uM (xs:=ys) (i:=lo) (j:=lo+n) (lo:=lo) (n:=gU) (by omega) (by omega) (by omega));have hz:=dy.turn (by omega);show wpS M A E s _ Q (setArr eX (mirror ys lo (lo+n) ((lo+n-lo)/2)));generalize mirror ys lo (lo+n) ((lo+n-lo)/2)=zs at lz hz;refine aj (cF (br (I:=fun i (c:Option (Option Nat)×Nat) fi=>fi=setArr eX zs/\c.1=none/\c.2=i/\iY rk zs lo i)
       (Q:=fun(c:Option (Option Nat)×Nat) fi=>fi=setArr eX zs/\c.1=none/\1<=c.2/\c.2<=gU/\iY rk zs lo c.2) ?_ ?_ ⟨rfl,rfl,rfl,hz⟩) ?_)
      ·rintro i ⟨c,n⟩ fi h2 h3 ⟨rfl,hc,e,hs⟩;dsimp only at hc e ⊢;subst hc e;refine aj (sk R hk (lz.ok oa) (show lo+n<zs.size by have:=lz.size;omega) (show lo+n-1<zs.size by have:=lz.size;omega) ?_);dsimp only;by_cases fI:kr rk zs (lo+n)<kr rk zs (lo+n-1)
       ·rw[show decide (kr rk (arrOf (setArr eX zs)) (lo+n)<kr rk (arrOf (setArr eX zs)) (lo+n-1))=true from cW fI];simp only[aR];exact ag ⟨rfl,rfl,by dsimp only;omega,by dsimp only;omega,hs⟩
       ·rw[show decide (kr rk (arrOf (setArr eX zs)) (lo+n)<kr rk (arrOf (setArr eX zs)) (lo+n-1))=false from ba fI];simp only[af,aJ];exact ag ⟨rfl,rfl,rfl,hs.more (by omega) (by omega)⟩
      ·rintro⟨c,n⟩ fi ⟨rfl,hc,e,hs⟩;dsimp only at hc e ⊢;subst e;exact⟨rfl,hc,by omega,by omega,hs⟩
      ·rintro⟨c,n⟩ fi ⟨rfl,hc,n1,n2,hs⟩;dsimp only at hc n1 n2 hs ⊢;subst hc;exact ag (q zs n n1 n2 lz hs)
  ·rw[if_neg e2];have Z3:n=1:=by omega
   have d0:Dec rk (arrOf eX) lo (n+1):=by
    have dd:Dec rk (arrOf eX) lo n:=fun i j jx hj=>by rw[show i=j by omega];exact cj _
    exact dd.more n1 (by omega)
   have l0:=Sl.refl (arrOf eX) lo gU;obtain⟨y0,xK⟩:∃y,y=arrOf eX:=⟨_,rfl⟩
   rw[show eX=setArr eX y0 by rw[xK]];rw[<-xK] at d0;have l0:Sl (arrOf eX) y0 lo gU:=by rw[xK];exact Sl.refl _ _ _
   refine aj (xi ?_);refine aj (cF (br (I:=fun i (c:Option (Option Nat)×Nat×Nat) fi=>∃ys,fi=setArr eX ys/\Sl (arrOf eX) ys lo gU/\c.1=none/\c.2.1=i/\Dec rk ys lo i/\c.2.2<i/\∀t,t<=c.2.2->kr rk ys (lo+i-1-t)=kr rk ys (lo+i-1))
    (Q:=fun(c:Option (Option Nat)×Nat×Nat) fi=>∃ys,fi=setArr eX ys/\Sl (arrOf eX) ys lo gU/\c.1=none/\1<=c.2.1/\c.2.1<=gU/\Dec rk ys lo c.2.1/\c.2.2<c.2.1/\∀t,t<=c.2.2->kr rk ys (lo+c.2.1-1-t)=kr rk ys (lo+c.2.1-1)) ?_ ?_ ⟨y0,rfl,l0,rfl,rfl,d0,by dsimp only;omega,fun t ht=>by rw[show t=0 by dsimp only at ht;omega];rfl⟩) ?_)
   ·rintro i ⟨c,n,e⟩ fi h2 h3 ⟨ys,rfl,ly,hc,ei,dy,en,eq⟩;dsimp only at hc ei en eq ⊢;subst hc ei;have hsz:=ly.size;refine aj (sk R hk (ly.ok oa) (show lo+n<ys.size by omega) (show lo+n-1<ys.size by omega) ?_);dsimp only;by_cases fI:kr rk ys (lo+n)<kr rk ys (lo+n-1)
    ·rw[show decide (kr rk (arrOf (setArr eX ys)) (lo+n)<kr rk (arrOf (setArr eX ys)) (lo+n-1))=true from cW fI];simp only[aR];have dm:=dy.more (by omega) (cZ fI);by_cases ep:e>0
     ·rw[if_pos ep]
      have km:=Au (rk:=rk) (xs:=ys) (i:=lo+n-(e+1)) (j:=lo+n) (by omega) (fun k k1 k2=>by
       have:=eq (lo+n-1-k) (by omega)
       rwa [show lo+n-1-(lo+n-1-k)=k by omega] at this)
      refine aj (uI ?_);refine ag ⟨_,rfl,ly.trans (uM (by show lo+n<=ys.size;omega) (by omega) (by omega)),rfl,rfl,fun i j jx hj=>?_,by dsimp only;omega,fun t ht=>by rw[show t=0 by dsimp only at ht;omega];rfl⟩;have:=dm i j jx hj;rw[<-km,<-km] at this;exact this
     ·rw[if_neg ep];exact ag ⟨ys,rfl,ly,rfl,rfl,dm,by dsimp only;omega,fun t ht=>by rw[show t=0 by dsimp only at ht;omega];rfl⟩
    ·rw[show decide (kr rk (arrOf (setArr eX ys)) (lo+n)<kr rk (arrOf (setArr eX ys)) (lo+n-1))=false from ba fI];simp only[af,aJ];refine aj (sk R hk (ly.ok oa) (show lo+n-1<ys.size by omega) (show lo+n<ys.size by omega) ?_);dsimp only;by_cases BC:kr rk ys (lo+n-1)<kr rk ys (lo+n)
     ·rw[show decide (kr rk (arrOf (setArr eX ys)) (lo+n-1)<kr rk (arrOf (setArr eX ys)) (lo+n))=true from cW BC];simp only[aR];exact ag ⟨ys,rfl,ly,rfl,by dsimp only;omega,by dsimp only;omega,dy,en,eq⟩
     ·rw[show decide (kr rk (arrOf (setArr eX ys)) (lo+n-1)<kr rk (arrOf (setArr eX ys)) (lo+n))=false from ba BC];simp only[af,aJ];refine ag ⟨ys,rfl,ly,rfl,rfl,dy.more (by omega) (by omega),by dsimp only;omega,fun t ht=>?_⟩;dsimp only at ht;rw[show lo+(n+1)-1=lo+n by omega];by_cases t0:t=0
      ·subst t0;rfl
      ·have:=eq (t-1) (by omega);rw[show lo+n-1-(t-1)=lo+n-t by omega] at this;omega
   ·rintro⟨c,n,e⟩ fi ⟨ys,rfl,ly,hc,ei,dy,en,eq⟩;dsimp only at hc ei en eq ⊢;subst ei;exact⟨ys,rfl,ly,hc,by omega,by omega,dy,en,eq⟩
   ·rintro⟨c,n,e⟩ fi ⟨ys,rfl,ly,hc,n1,n2,dy,en,eq⟩;dsimp only at hc n1 n2 dy en eq ⊢;subst hc;dsimp only;have hsz:=ly.size;by_cases ep:e>0
    ·rw[if_pos ep]
     have km:=Au (rk:=rk) (xs:=ys) (i:=lo+n-(e+1)) (j:=lo+n) (by omega) (fun k k1 k2=>by
      have:=eq (lo+n-1-k) (by omega)
      rwa [show lo+n-1-(lo+n-1-k)=k by omega] at this)
     refine aj (uI ?_);have lw:=ly.trans (uM (xs:=ys) (i:=lo+n-(e+1)) (j:=lo+n) (lo:=lo) (n:=gU) (by omega) (by omega) (by omega));show wpS M A E s _ Q (setArr eX (mirror ys (lo+n-(e+1)) (lo+n) ((lo+n-(lo+n-(e+1)))/2)));generalize mirror ys (lo+n-(e+1)) (lo+n) ((lo+n-(lo+n-(e+1)))/2)=ws at km lw;have dw:Dec rk ws lo n:=fun i j jx hj=>by
      have:=dy i j jx hj;rw[<-km,<-km] at this;exact this
     have hw:=lw.size;refine aj (uI ?_);have lz:=lw.trans (uM (xs:=ws) (i:=lo) (j:=lo+n) (lo:=lo) (n:=gU) (by omega) (by omega) (by omega));have hz:=dw.turn (by omega);show wpS M A E s _ Q (setArr eX (mirror ws lo (lo+n) ((lo+n-lo)/2)));generalize mirror ws lo (lo+n) ((lo+n-lo)/2)=zs at lz hz;refine aj (cF (br (I:=fun i (c:Option (Option Nat)×Nat) fi=>fi=setArr eX zs/\c.1=none/\c.2=i/\iY rk zs lo i)
      (Q:=fun(c:Option (Option Nat)×Nat) fi=>fi=setArr eX zs/\c.1=none/\1<=c.2/\c.2<=gU/\iY rk zs lo c.2) ?_ ?_ ⟨rfl,rfl,rfl,hz⟩) ?_)
     ·rintro i ⟨c,n⟩ fi h2 h3 ⟨rfl,hc,e,hs⟩;dsimp only at hc e ⊢;subst hc e;refine aj (sk R hk (lz.ok oa) (show lo+n<zs.size by have:=lz.size;omega) (show lo+n-1<zs.size by have:=lz.size;omega) ?_);dsimp only;by_cases fI:kr rk zs (lo+n)<kr rk zs (lo+n-1)
      ·rw[show decide (kr rk (arrOf (setArr eX zs)) (lo+n)<kr rk (arrOf (setArr eX zs)) (lo+n-1))=true from cW fI];simp only[aR];exact ag ⟨rfl,rfl,by dsimp only;omega,by dsimp only;omega,hs⟩
      ·rw[show decide (kr rk (arrOf (setArr eX zs)) (lo+n)<kr rk (arrOf (setArr eX zs)) (lo+n-1))=false from ba fI];simp only[af,aJ];exact ag ⟨rfl,rfl,rfl,hs.more (by omega) (by omega)⟩
     ·rintro⟨c,n⟩ fi ⟨rfl,hc,e,hs⟩;dsimp only at hc e ⊢;subst e;exact⟨rfl,hc,by omega,by omega,hs⟩
     ·rintro⟨c,n⟩ fi ⟨rfl,hc,n1,n2,hs⟩;dsimp only at hc n1 n2 hs ⊢;subst hc;exact ag (q zs n n1 n2 lz hs)
    ·rw[if_neg ep];refine aj (uI ?_);have lz:=ly.trans (uM (xs:=ys) (i:=lo) (j:=lo+n) (lo:=lo) (n:=gU) (by omega) (by omega) (by omega));have hz:=dy.turn (by omega);show wpS M A E s _ Q (setArr eX (mirror ys lo (lo+n) ((lo+n-lo)/2)));generalize mirror ys lo (lo+n) ((lo+n-lo)/2)=zs at lz hz;refine aj (cF (br (I:=fun i (c:Option (Option Nat)×Nat) fi=>fi=setArr eX zs/\c.1=none/\c.2=i/\iY rk zs lo i)
      (Q:=fun(c:Option (Option Nat)×Nat) fi=>fi=setArr eX zs/\c.1=none/\1<=c.2/\c.2<=gU/\iY rk zs lo c.2) ?_ ?_ ⟨rfl,rfl,rfl,hz⟩) ?_)
     ·rintro i ⟨c,n⟩ fi h2 h3 ⟨rfl,hc,e,hs⟩;dsimp only at hc e ⊢;subst hc e;refine aj (sk R hk (lz.ok oa) (show lo+n<zs.size by have:=lz.size;omega) (show lo+n-1<zs.size by have:=lz.size;omega) ?_);dsimp only;by_cases fI:kr rk zs (lo+n)<kr rk zs (lo+n-1)
      ·rw[show decide (kr rk (arrOf (setArr eX zs)) (lo+n)<kr rk (arrOf (setArr eX zs)) (lo+n-1))=true from cW fI];simp only[aR];exact ag ⟨rfl,rfl,by dsimp only;omega,by dsimp only;omega,hs⟩
      ·rw[show decide (kr rk (arrOf (setArr eX zs)) (lo+n)<kr rk (arrOf (setArr eX zs)) (lo+n-1))=false from ba fI];simp only[af,aJ];exact ag ⟨rfl,rfl,rfl,hs.more (by omega) (by omega)⟩
     ·rintro⟨c,n⟩ fi ⟨rfl,hc,e,hs⟩;dsimp only at hc e ⊢;subst e;exact⟨rfl,hc,by omega,by omega,hs⟩
     ·rintro⟨c,n⟩ fi ⟨rfl,hc,n1,n2,hs⟩;dsimp only at hc n1 n2 hs ⊢;subst hc;exact ag (q zs n n1 n2 lz hs)
noncomputable def starts:Nat->List (List Keyed)->List (Nat×Nat)
 | _,[]=>[]
 | st,X::Xs=>(st,X.length)::starts (st+X.length) Xs
noncomputable abbrev ft(t:Nat×Nat×Nat):Nat×Nat:=(t.1,t.2.1)
theorem C3:∀(st:Nat) (Xs:List (List Keyed)),(starts st Xs).length=Xs.length
 | _,[]=>rfl
 | st,X::Xs=>by simp[starts,C3]
theorem FO:∀(st:Nat) (Xs:List (List Keyed)) (W:List Keyed),starts st (Xs++[W])=starts st Xs++[(st+Xs.flatten.length,W.length)]
 | st,[],W=>by simp[starts]
 | st,X::Xs,W=>by
  simp only[cA,starts,FO (st+X.length) Xs W,bY,au];rw[show st+X.length+Xs.flatten.length=st+(X.length+Xs.flatten.length) by omega]
theorem Fl:∀(st:Nat) (jH:List (List Keyed)) (X:List Keyed) (Xs2:List (List Keyed)),(starts st (jH++X::Xs2))[jH.length]?=some (st+jH.flatten.length,X.length)
 | st,[],X,Xs2=>by simp[starts]
 | st,A::jH,X,Xs2=>by
  simp only[cA,starts,aE,bD,Fl (st+A.length) jH X Xs2,bY,au];rw[show st+A.length+jH.flatten.length=st+(A.length+jH.flatten.length) by omega]
theorem Ls{X Y Z:List Keyed}{Xs2:List (List Keyed)}(hz:Z.length=X.length+Y.length):∀(st:Nat) (jH:List (List Keyed)),((starts st (jH++X::Y::Xs2)).set jH.length (st+jH.flatten.length,X.length+Y.length)).eraseIdx (jH.length+1)=starts st (jH++Z::Xs2)
 | st,[]=>by
  simp[starts,hz,Nat.add_assoc]
 | st,A::jH=>by
  have ih:=Ls (Xs2:=Xs2) hz (st+A.length) jH;simp only[cA,starts,aE,List.set_cons_succ,List.eraseIdx_cons_succ,bY,au];rw[show st+(A.length+jH.flatten.length)=st+A.length+jH.flatten.length by omega,ih]
theorem LC{α β:Type}(f:α->β):∀(l:List α) (n:Nat),(l.map f).eraseIdx n=(l.eraseIdx n).map f
 | [],_=>rfl
 | a::r,0=>rfl
 | a::r,n+1=>by show f a::(r.map f).eraseIdx n=_;rw[LC f r n];rfl
structure RI (rk:Keyed->Int) (a0 arr:Array Keyed) (pend:Array (Nat×Nat×Nat)) (Xs:List (List Keyed)) (S:List Keyed):Prop where
 pm:arr.toList.Perm a0.toList
 dec:arr.toList=Xs.flatten++S
 so:∀X∈Xs,gQ rk X/\0<X.length
 ps:pend.toList.map ft=starts 0 Xs
theorem Sa{Xs:List (List Keyed)}{i:Nat}(h:i+1<Xs.length):∃jH X Y Xs2,Xs=jH++X::Y::Xs2/\jH.length=i:=by
 refine⟨Xs.take i,Xs[i],Xs[i+1],Xs.drop (i+2),?_,by simp;omega⟩;rw[<-bJ,<-bJ,bH]
theorem JI{pend:Array (Nat×Nat×Nat)}{i a n:Nat}{l:List (Nat×Nat)}(h:pend.toList.map ft=l)(e:l[i]?=some (a,n)):∃p,pend[i]?=some (a,n,p):=by
 rw[<-h,aI,cK] at e;cases hp:pend[i]? with
 | none=>rw[hp] at e;cases e
 | some t=>
  rw[hp] at e;obtain⟨x,y,z⟩:=t;simp at e;obtain⟨rfl,rfl⟩:=e;exact⟨z,rfl⟩
variable {M:Model} {A:Around} {E:Value->Shared->Prop} {s:Shared}
theorem Fc{κ:SortKind}{ok:Keyed->Prop}{rk:Keyed->Int}(R:Rk M A E s κ ok rk){a0:Array Keyed}{Xs:List (List Keyed)}{S:List Keyed}{i:Nat}{Q:Bool->SortSt->Prop}{st:SortSt}(hk:kindOf st=κ)(hf:failedOf st=none)(oa:∀x∈a0,ok x)
  (h:RI rk a0 (arrOf st) (pendingOf st) Xs S) (hi:i+1<Xs.length)
  (q:∀eX Ys,kindOf eX=κ->failedOf eX=none->RI rk a0 (arrOf eX) (pendingOf eX) Ys S->Ys.length+1=Xs.length->Ys.flatten.length=Xs.flatten.length->Q true eX):wpS M A E s (mergeAt' i) Q st:=by
 obtain⟨jH,X,Y,Xs2,rfl,rfl⟩:=Sa hi;obtain⟨pa,p1⟩:=JI h.ps (Fl 0 jH X (Y::Xs2));have e2:=Fl 0 (jH++[X]) Y Xs2;rw[show jH++[X]++Y::Xs2=jH++X::Y::Xs2 by simp,au,List.length_singleton] at e2;obtain⟨pb,p2⟩:=JI h.ps e2;rw[Nat.zero_add] at p1 p2;rw[show(jH++[X]).flatten.length=jH.flatten.length+X.length by simp] at p2;have sX:=h.so X (by simp);have sY:=h.so Y (by simp);have hd:(arrOf st).toList=jH.flatten++(X++(Y++(Xs2.flatten++S))):=by rw[h.dec];simp
 refine Vf R hk hf (fun x hx=>oa x ?_) hd p1 p2 sX.2 sY.2 sX.1 sY.1 fun Z g zp zs=>?_
 ·have:=h.pm.mem_iff.mp (bQ.mpr hx);exact bQ.mp this
 ·have zl:Z.length=X.length+Y.length:=by rw[zp.length_eq,au]
  refine q _ (jH++Z::Xs2) rfl rfl ⟨?_,?_,fun W hW=>?_,?_⟩ (by simp only[au,aE];omega) (by simp[zl];omega)
  ·refine List.Perm.trans ?_ h.pm;rw[hd];show(jH.flatten++(Z++(Xs2.flatten++S))).Perm _;refine List.Perm.append_left _ ?_;rw[<-bO X];exact zp.append_right _
  ·show jH.flatten++(Z++(Xs2.flatten++S))=_;simp
  ·rcases ay.mp hW with hW | hW
   ·exact h.so W (by simp[hW])
   ·rcases ar.mp hW with rfl | hW
    ·exact⟨zs,by have:=sX.2;omega⟩
    ·exact h.so W (by simp[hW])
  ·have:=Ls (X:=X) (Y:=Y) (Z:=Z) (Xs2:=Xs2) zl 0 jH;rw[<-this,<-h.ps,Nat.zero_add];show List.map ft ((((pendingOf st).setIfInBounds jH.length (jH.flatten.length,X.length+Y.length,pa)).eraseIdxIfInBounds (jH.length+1)).toList)=_;rw[Array.toList_eraseIdxIfInBounds,Array.toList_setIfInBounds,<-LC,List.map_set]
theorem Ja{rk:Keyed->Int}{xs ys:Array Keyed}{F S:List Keyed}{m n:Nat}(h:Sl xs ys F.length m)(hd:xs.toList=F++S)(hs:iY rk ys F.length n)(hn:F.length+n<=xs.size):∃W S2,ys.toList=F++(W++S2)/\W.length=n/\gQ rk W:=by
 have hsz:=h.size;have e1:ys.toList.take F.length=F:=by
  have:ys.toList.take F.length=xs.toList.take F.length:=by
   apply List.ext_getElem?;intro i;rw[List.getElem?_take,List.getElem?_take];split
   ·rw[cK,cK];exact h.out i (.inl (by assumption))
   ·rfl
  rw[this,hd,List.take_left]
 refine⟨(ys.toList.drop F.length).take n,(ys.toList.drop F.length).drop n,?_,by simp;omega,?_⟩
 ·rw[bH];conv=>lhs;rw[<-bH F.length ys.toList,e1]
 ·refine b9.mpr fun i j hi hj jx=>?_
  have YM:j<n:=by simp at hj;omega
  have:=hs i j (by omega) YM;unfold kr at this;rw[iW (by omega),iW (by omega)] at this;simpa[dF,List.getElem_drop] using this
variable {M:Model} {A:Around} {E:Value->Shared->Prop} {s:Shared}
theorem Le(p:Array (Nat×Nat×Nat))(k:Nat)(f:Nat×Nat×Nat->Nat×Nat×Nat)(h:∀x,ft (f x)=ft x):(p.modify k f).toList.map ft=p.toList.map ft:=by
 apply List.ext_getElem?;intro i;rw[aI,aI,cK,cK,Array.getElem?_modify];split
 ·cases p[i]? with
  | none=>rfl
  | some x=>simp only[bV,h]
 ·rfl
theorem JH:∀(Xs:List (List Keyed)),(∀X∈Xs,0<X.length)->Xs.length<=Xs.flatten.length
 | [],_=>az _
 | X::Xs,h=>by
  have h1:=h X (by simp);have h2:=JH Xs fun Y hY=>h Y (by simp[hY])
  rw[bY,au,aE];omega
theorem Sl.wide{xs ys:Array Keyed}{lo n m:Nat}(h:Sl xs ys lo n)(hn:n<=m):Sl xs ys lo m:=⟨h.pm,fun j hj=>h.out j (by omega)⟩
theorem R9{κ:SortKind}{ok:Keyed->Prop}{rk:Keyed->Int}(R:Rk M A E s κ ok rk){Q:Unit->SortSt->Prop}{st:SortSt}(hk:kindOf st=κ)(hf:failedOf st=none)(hp:pendingOf st=#[])(oa:∀x∈arrOf st,ok x)
  (q:∀eX,(arrOf eX).toList.Perm (arrOf st).toList->gQ rk (arrOf eX).toList->failedOf eX=none->Q () eX):wpS M A E s sortRuns' Q st:=by
 rw[sortRuns'_eq];refine aj (wpS_get ?_);dsimp only;generalize ZQ:minRun' (arrOf st).size (arrOf st).size 0=mr;generalize hsz:(arrOf st).size=sz;have h0:RI rk (arrOf st) (arrOf st) (pendingOf st) [] (arrOf st).toList:=⟨List.Perm.refl _,rfl,fun X hX=>(by cases hX),by rw[hp];rfl⟩
 refine aj (cF (br (I:=fun i (c:Option Unit×Nat) eX=>c.1=none/\kindOf eX=κ/\failedOf eX=none/\∃Xs S,RI rk (arrOf st) (arrOf eX) (pendingOf eX) Xs S/\Xs.flatten.length=c.2/\c.2<=sz/\i<=c.2)
  (Q:=fun(c:Option Unit×Nat) eX=>c.1=none/\kindOf eX=κ/\failedOf eX=none/\∃Xs,RI rk (arrOf st) (arrOf eX) (pendingOf eX) Xs []) ?_ ?_ ⟨rfl,hk,hf,[],_,h0,rfl,aL _,az _⟩) ?_)
 ·rintro i ⟨c,lo⟩ eX _ hi ⟨hc,k',f',Xs,S,ri,Bt,hle,Dw⟩;dsimp only at hc Bt hle Dw ⊢;subst hc Bt;have as:(arrOf eX).size=sz:=by rw[<-hsz,<-ah,<-ah];exact ri.pm.length_eq
  have L1:∀x∈arrOf eX,ok x:=fun x hx=>oa x (bQ.mp (ri.pm.mem_iff.mp (bQ.mpr hx)))
  have sl:Xs.flatten.length+S.length=sz:=by rw[<-as,<-ah,ri.dec,au]
  by_cases hd:Xs.flatten.length>=sz
  ·rw[if_pos hd];have:S=[]:=List.length_eq_zero_iff.mp (by omega);subst this;exact ag ⟨rfl,k',f',Xs,ri⟩
  rw[if_neg hd];refine aj (T4 R k' L1 (by omega) (by omega) fun ys n n1 n2 Dk LQ=>?_);dsimp only;split
  ·refine aj (xi ?_);refine aj (T9 R (st:=setArr eX ys) k' (Dk.ok L1) (show _<=ys.size by have:=Dk.size;omega) LQ (by omega) fun zs Gj Dj=>?_);simp only[bS,af,aJ];have y4:Sl (arrOf eX) zs Xs.flatten.length (sz-Xs.flatten.length):=Dk.trans (Gj.wide (by omega));show wpS M A E s _ _ (setArr eX zs);obtain⟨W,S2,dz,wl,ws⟩:=Ja y4 ri.dec Dj (by omega);have rz:RI rk (arrOf st) zs (pendingOf eX) Xs (W++S2):=⟨(Array.perm_iff_toList_perm.mp y4.pm).trans ri.pm,dz,ri.so,ri.ps⟩
   have ent:∀(fi:SortSt) (Ys:List (List Keyed)),kindOf fi=κ->failedOf fi=none->RI rk (arrOf st) (arrOf fi) (pendingOf fi) Ys (W++S2)->Ys.flatten.length=Xs.flatten.length->∃Zs S3,RI rk (arrOf st) (arrOf fi) ((pendingOf fi).push (Xs.flatten.length,min (sz-Xs.flatten.length) mr,0)) Zs S3/\Zs.flatten.length=Xs.flatten.length+min (sz-Xs.flatten.length) mr:=fun fi Ys k2 f2 r2 l2=>by
    refine⟨Ys++[W],S2,⟨r2.pm,by rw[r2.dec];simp,fun X hX=>?_,?_⟩,by simp[l2,wl]⟩
    ·rcases ay.mp hX with hX | hX
     ·exact r2.so X hX
     ·simp at hX;subst hX;exact⟨ws,by omega⟩
    ·rw[aF,aT,r2.ps,FO,l2,wl,Nat.zero_add];rfl
   refine aj (wpS_get ?_);cases YY:(pendingOf (setArr eX zs)).back? with
   | none=>
    dsimp only;refine aj (cH (ag ?_));obtain⟨Zs,S3,r3,l3⟩:=ent (setArr eX zs) Xs k' f' rz rfl;exact⟨rfl,k',f',Zs,S3,r3,l3,by dsimp only;omega,by dsimp only;omega⟩
   | some t=>
    obtain⟨s1,t1,p1⟩:=t;dsimp only;refine aj (cF (br (I:=fun j (c:Option Unit×Unit) fi=>c.1=none/\kindOf fi=κ/\failedOf fi=none/\∃Ys,RI rk (arrOf st) (arrOf fi) (pendingOf fi) Ys (W++S2)/\Ys.flatten.length=Xs.flatten.length)
     (Q:=fun(c:Option Unit×Unit) fi=>c.1=none/\kindOf fi=κ/\failedOf fi=none/\∃Ys,RI rk (arrOf st) (arrOf fi) (pendingOf fi) Ys (W++S2)/\Ys.flatten.length=Xs.flatten.length) ?_ ?_ ⟨rfl,k',f',Xs,rz,rfl⟩) ?_)
    ·rintro j ⟨c,⟨⟩⟩ fi _ hj ⟨hc,k2,f2,Ys,r2,l2⟩;dsimp only at hc ⊢;subst hc;refine aj (wpS_get ?_);have pl:(pendingOf fi).size=Ys.length:=by
      have:=et List.length r2.ps;rwa [ae,ah,C3] at this
     by_cases big:(pendingOf fi).size>1
     ·rw[if_pos big,cE (show(pendingOf fi).size-2<(pendingOf fi).size by omega)];generalize (pendingOf fi)[(pendingOf fi).size-2]'(by omega)=u;obtain⟨u1,u2,u3⟩:=u;dsimp only;split
      ·exact ag ⟨rfl,k2,f2,Ys,r2,l2⟩
      ·refine aj (Fc R k2 f2 oa r2 (by omega) fun A2 Zs k3 f3 r3 _ l3=>?_);simp only[bS,af,aJ];exact ag ⟨rfl,k3,f3,Zs,r3,by rw[l3,l2]⟩
     ·rw[if_neg big];dsimp only;exact ag ⟨rfl,k2,f2,Ys,r2,l2⟩
    ·rintro⟨c,⟨⟩⟩ fi h;exact h
    ·rintro⟨c,⟨⟩⟩ fi ⟨hc,k2,f2,Ys,r2,l2⟩;dsimp only at hc ⊢;subst hc;dsimp only;refine aj (cH (aj (cH (ag ?_))));obtain⟨Zs,S3,r3,l3⟩:=ent (setPending fi ((pendingOf fi).modify ((pendingOf fi).size-1) fun x=>(x.1,x.2.1,power' sz (2*s1+t1) (2*s1+t1+t1+min (sz-Xs.flatten.length) mr) sz))) Ys k2 f2 ⟨r2.pm,r2.dec,r2.so,by rw[<-r2.ps];exact Le _ _ _ fun x=>rfl⟩ l2;exact⟨rfl,k2,f2,Zs,S3,r3,l3,by dsimp only;omega,by dsimp only;omega⟩
  ·have y4:=Dk;have Dj:=LQ;generalize ys=zs at y4 Dj;obtain⟨W,S2,dz,wl,ws⟩:=Ja y4 ri.dec Dj (by omega);have rz:RI rk (arrOf st) zs (pendingOf eX) Xs (W++S2):=⟨(Array.perm_iff_toList_perm.mp y4.pm).trans ri.pm,dz,ri.so,ri.ps⟩
   have ent:∀(fi:SortSt) (Ys:List (List Keyed)),kindOf fi=κ->failedOf fi=none->RI rk (arrOf st) (arrOf fi) (pendingOf fi) Ys (W++S2)->Ys.flatten.length=Xs.flatten.length->∃Zs S3,RI rk (arrOf st) (arrOf fi) ((pendingOf fi).push (Xs.flatten.length,n,0)) Zs S3/\Zs.flatten.length=Xs.flatten.length+n:=fun fi Ys k2 f2 r2 l2=>by
    refine⟨Ys++[W],S2,⟨r2.pm,by rw[r2.dec];simp,fun X hX=>?_,?_⟩,by simp[l2,wl]⟩
    ·rcases ay.mp hX with hX | hX
     ·exact r2.so X hX
     ·simp at hX;subst hX;exact⟨ws,by omega⟩
    ·rw[aF,aT,r2.ps,FO,l2,wl,Nat.zero_add];rfl
   refine aj (wpS_get ?_);cases YY:(pendingOf (setArr eX zs)).back? with
   | none=>
    dsimp only;refine aj (cH (ag ?_));obtain⟨Zs,S3,r3,l3⟩:=ent (setArr eX zs) Xs k' f' rz rfl;exact⟨rfl,k',f',Zs,S3,r3,l3,by dsimp only;omega,by dsimp only;omega⟩
   | some t=>
    obtain⟨s1,t1,p1⟩:=t;dsimp only;refine aj (cF (br (I:=fun j (c:Option Unit×Unit) fi=>c.1=none/\kindOf fi=κ/\failedOf fi=none/\∃Ys,RI rk (arrOf st) (arrOf fi) (pendingOf fi) Ys (W++S2)/\Ys.flatten.length=Xs.flatten.length)
     (Q:=fun(c:Option Unit×Unit) fi=>c.1=none/\kindOf fi=κ/\failedOf fi=none/\∃Ys,RI rk (arrOf st) (arrOf fi) (pendingOf fi) Ys (W++S2)/\Ys.flatten.length=Xs.flatten.length) ?_ ?_ ⟨rfl,k',f',Xs,rz,rfl⟩) ?_)
    ·rintro j ⟨c,⟨⟩⟩ fi _ hj ⟨hc,k2,f2,Ys,r2,l2⟩;dsimp only at hc ⊢;subst hc;refine aj (wpS_get ?_);have pl:(pendingOf fi).size=Ys.length:=by
      have:=et List.length r2.ps;rwa [ae,ah,C3] at this
     by_cases big:(pendingOf fi).size>1
     ·rw[if_pos big,cE (show(pendingOf fi).size-2<(pendingOf fi).size by omega)];generalize (pendingOf fi)[(pendingOf fi).size-2]'(by omega)=u;obtain⟨u1,u2,u3⟩:=u;dsimp only;split
      ·exact ag ⟨rfl,k2,f2,Ys,r2,l2⟩
      ·refine aj (Fc R k2 f2 oa r2 (by omega) fun A2 Zs k3 f3 r3 _ l3=>?_);simp only[bS,af,aJ];exact ag ⟨rfl,k3,f3,Zs,r3,by rw[l3,l2]⟩
     ·rw[if_neg big];dsimp only;exact ag ⟨rfl,k2,f2,Ys,r2,l2⟩
    ·rintro⟨c,⟨⟩⟩ fi h;exact h
    ·rintro⟨c,⟨⟩⟩ fi ⟨hc,k2,f2,Ys,r2,l2⟩;dsimp only at hc ⊢;subst hc;dsimp only;refine aj (cH (aj (cH (ag ?_))));obtain⟨Zs,S3,r3,l3⟩:=ent (setPending fi ((pendingOf fi).modify ((pendingOf fi).size-1) fun x=>(x.1,x.2.1,power' sz (2*s1+t1) (2*s1+t1+t1+n) sz))) Ys k2 f2 ⟨r2.pm,r2.dec,r2.so,by rw[<-r2.ps];exact Le _ _ _ fun x=>rfl⟩ l2;exact⟨rfl,k2,f2,Zs,S3,r3,l3,by dsimp only;omega,by dsimp only;omega⟩
 ·rintro⟨c,lo⟩ eX ⟨hc,k',f',Xs,S,ri,Bt,hle,Dw⟩;dsimp only at hc Bt hle Dw ⊢;rw[cR (aL _)] at Dw;have as:(arrOf eX).size=sz:=by rw[<-hsz,<-ah,<-ah];exact ri.pm.length_eq
  have sl:Xs.flatten.length+S.length=sz:=by rw[<-as,<-ah,ri.dec,au]
  have:S=[]:=List.length_eq_zero_iff.mp (by omega);subst this;exact⟨hc,k',f',Xs,ri⟩
 ·rintro⟨c,lo⟩ eX ⟨hc,k',f',Xs,ri⟩;dsimp only at hc ⊢;subst hc;dsimp only;have as:(arrOf eX).size=sz:=by rw[<-hsz,<-ah,<-ah];exact ri.pm.length_eq
  have fl:Xs.flatten.length=sz:=by rw[<-as,<-ah,ri.dec];simp
  have xl:=JH Xs fun X hX=>(ri.so X hX).2
  refine aj (cF (br (I:=fun j (c:Option Unit×Unit) fi=>c.1=none/\kindOf fi=κ/\failedOf fi=none/\∃Ys,RI rk (arrOf st) (arrOf fi) (pendingOf fi) Ys []/\Ys.length+j<=sz)
   (Q:=fun(c:Option Unit×Unit) fi=>c.1=none/\kindOf fi=κ/\failedOf fi=none/\∃Ys,RI rk (arrOf st) (arrOf fi) (pendingOf fi) Ys []/\Ys.length<=1) ?_ ?_ ⟨rfl,k',f',Xs,ri,by omega⟩) ?_)
  ·rintro j ⟨c,⟨⟩⟩ fi _ hj ⟨hc,k2,f2,Ys,r2,l2⟩;dsimp only at hc ⊢;subst hc;refine aj (wpS_get ?_);have pl:(pendingOf fi).size=Ys.length:=by
    have:=et List.length r2.ps;rwa [ae,ah,C3] at this
   by_cases sm:(pendingOf fi).size<=1
   ·rw[if_pos sm];exact ag ⟨rfl,k2,f2,Ys,r2,by omega⟩
   rw[if_neg sm];have ix:∀(p:Prop) [Decidable p],(if p then(pendingOf fi).size-2-1 else(pendingOf fi).size-2)+1<Ys.length:=fun p _=>by split<;>omega
   refine aj (Fc R k2 f2 oa r2 (ix _) fun A2 Zs k3 f3 r3 l3 _=>?_);simp only[bS,af,aJ];exact ag ⟨rfl,k3,f3,Zs,r3,by omega⟩
  ·rintro⟨c,⟨⟩⟩ fi ⟨hc,k2,f2,Ys,r2,l2⟩;rw[cR (aL _)] at l2;exact⟨hc,k2,f2,Ys,r2,by omega⟩
  ·rintro⟨c,⟨⟩⟩ fi ⟨hc,k2,f2,Ys,r2,l2⟩;dsimp only at hc ⊢;subst hc;refine ag (q fi r2.pm ?_ f2);rw[r2.dec,bz];match Ys,l2,r2.so with
   | [],_,_=>exact .nil
   | [X],_,so=>simpa using (so X (by simp)).1
open PySem.W
section
variable {n N:Nat} {r:Nat->Int} {cmp:Nat->Nat->(Bool->Shared->Prop)->Shared->Prop} {s:Shared} {p:Array Nat} {i j k m:Nat}
noncomputable def kp(r:Nat->Int)(p:Array Nat)(i:Nat):Int:=r (p.getD i 0)
def Pm(n:Nat)(p:Array Nat):Prop:=p.toList.Perm (List.range n)
def Up(r:Nat->Int)(p:Array Nat)(m:Nat):Prop:=∀i j,i<=j->j<m->kp r p i<=kp r p j
section
variable {G:Nat×Array Nat->Shared->Prop} (g:∀m p,Pm n p->1<=m->m<=N->Up r p m->G (m,p) s)
include g
end
end
section
variable {prog:Program} {w:World} {A:Around} {E:Value->Shared->Prop} {s:Shared}
structure Ky (prog:Program) (w:World) (A:Around) (s:Shared) (κ:SortKind) (ok:Keyed->Prop) (rk:Keyed->Int):Prop where
 key:∀x y (C:Bool->Shared->Prop),ok x->ok y->C (decide (rk x<rk y)) s->wpAny (model prog w) A (keyLt' κ x.1 y.1) C (fun _ _=>False) s
def lr(n:Nat):Prop:=∀{prog:Program} {w:World} {A:Around} {E:Value->Shared->Prop} {s:Shared} {κ:SortKind} {rk:Keyed->Int} {it:Array Keyed} (R:Ky prog w A s κ (fun x=>x∈it) rk) {Q:Unit->SortSt->Prop},it.size=n->
 (∀eX,(arrOf eX).toList.Perm it.toList->gQ rk (arrOf eX).toList->failedOf eX=none->Q () eX)->wpS (model prog w) A E s sortRuns' Q (SortSt.mk' κ it #[] 7 none)
structure Ask (prog:Program) (w:World) (A:Around) (E:Value->Shared->Prop) (vs:List Value) (rk:Keyed->Int) (s:Shared):Prop where
 ask:2<=vs.length->∃κ,(∀Q':SortKind->Shared->Prop,Q' κ s->wpAny (model prog w) A (keyKind' vs.toArray) Q' E s)/\Ky prog w A s κ (fun x=>x∈pairsOf vs) rk
theorem TZ{rk:Keyed->Int}{l:List Keyed}(h:l.length<2):gQ rk l:=by
 cases l with
 | nil=>exact .nil
 | cons a r=>
  cases r with
  | nil=>exact List.pairwise_singleton _ _
  | cons b t=>
   simp only[aE] at h;omega
theorem Ve{a:Addr}{vs:List Value}{n:Nat}{P:Fin->Shared->Prop}{rk:Keyed->Int}(ho:s.heap.get? a=some (seqObj "list" vs.toArray n))(hl:vs.length<=sizeLine)(hr:2<=vs.length->lr vs.length)
  (R:∀h',(∀b o,b≠a->s.heap.get? b=some o->h'.get? b=some o)->Ask prog w A E vs rk { s with heap:=h' })
  (h:∀eX:SortSt,(arrOf eX).toList.Perm (pairsOf vs).toList->gQ rk (arrOf eX).toList->P (.done (.ret .none)) { s with heap:=sortedHeap s.heap a vs ((arrOf eX).map (·.2)) }) :
  wpAny (model prog w) A (Builtin.«list.sort» ⟨[.ref a],[]⟩) P E s:=by
 rw[list_sort_plain];have ha:a<s.heap.objs.size:=aB ho;refine aa (listItems_at ho rfl ?_);refine aa (listUpdate_at ho rfl ?_ (by simpa using hl) (aL _));obtain⟨e1,Mx⟩:∃e1,(s.heap.update a (Obj.mapSeq fun _=>#[])).get? a=some (seqObj "list" #[] e1):=⟨_,get?_update_seq ho (fun _=>#[])⟩
 refine aa (seqEpoch_at Mx rfl ?_);refine aa (wpAny_newTuple ?_ (by show vs.length<=_;exact hl));refine aa (wpAny_newList ?_ (aL _));refine bL ?_;have Dt:(((s.heap.update a (Obj.mapSeq fun _=>#[])).push (seqObj "tuple" vs.toArray 0)).push (seqObj "list" #[] 0)).get? a=some (seqObj "list" #[] e1):=by
  rw[Heap.get?_push_ne _ _ _ (by rw[size_push',Heap.size_update];exact aG (cq ha)),Heap.get?_push_ne _ _ _ (by rw[Heap.size_update];exact aG ha)];exact Mx
 have ak:=R (((s.heap.update a (Obj.mapSeq fun _=>#[])).push (seqObj "tuple" vs.toArray 0)).push (seqObj "list" #[] 0)) (fun b o hb e=>ao _ (ao _ ((cz _ _ (Ne.symm hb)).trans e)));show wpAny (model prog w) A _ P E { s with heap:=((s.heap.update a (Obj.mapSeq fun _=>#[])).push (seqObj "tuple" vs.toArray 0)).push (seqObj "list" #[] 0) };dsimp only;have hsz:vs.toArray.size=vs.length:=by simp
 have fin:=h;by_cases h2:vs.toArray.size<2
 ·rw[if_pos h2,if_pos h2];refine aa (aq ?_);rw[StateT.run_pure];refine aa (aq ?_);dsimp only;refine aa (seqEpoch_at Dt rfl ?_);refine aa (listUpdate_at Dt rfl ?_ (aL _) (by rw[Array.size_map];show(pairsOf vs).size<=_;rw[pairsOf_size];exact Nat.le_succ_of_le hl));simp only[eA,af,aJ];refine aq (fin (SortSt.mk' general' (vs.toArray.zip vs.toArray) #[] 7 none) (List.Perm.refl _) ?_);show gQ rk (pairsOf vs).toList;exact TZ (by rw[ah,pairsOf_size];omega)
 ·rw[if_neg h2,if_neg h2];obtain⟨κ,ka,kr⟩:=ak.ask (by omega);refine aa (ka _ ?_)
  refine aa (cN (hr (by omega) kr
   (Q:=fun _ eX=>(arrOf eX).toList.Perm (pairsOf vs).toList/\gQ rk (arrOf eX).toList/\failedOf eX=none) (pairsOf_size vs) fun eX a1 a2 a3=>⟨a1,a2,a3⟩) ?_ fun _ _ e=>e)
  rintro⟨⟨⟩,eX⟩ s' ⟨rfl,hp,hs,hf⟩;dsimp only;refine aa (seqEpoch_at Dt rfl ?_)
  refine aa (listUpdate_at Dt rfl ?_ (aL _) (by
   rw[Array.size_map,<-ah,hp.length_eq,ah,pairsOf_size];exact Nat.le_succ_of_le hl))
  rw[hf];simp only[eA,af,aJ];exact aq (fin eX hp hs)
theorem sE{l:Addr}{vs:List Value}{Q:Value->Shared->Prop}{rk:Keyed->Int}(hl:s.heap.IsList l vs.toArray)(hz:vs.length<=sizeLine)(hr:2<=vs.length->lr vs.length)
  (R:∀h',(∀b o,s.heap.get? b=some o->h'.get? b=some o)->Ask prog w A.in1.in1 E vs rk { s with heap:=h' })
  (h:∀eX:SortSt,(arrOf eX).toList.Perm (pairsOf vs).toList->gQ rk (arrOf eX).toList->Q (.ref (s.heap.objs.size+1)) { s with heap:=sortedAll s.heap vs ((arrOf eX).map (·.2)) }) :
  wpAny (model prog w) A (call (.builtin "sorted") [.ref l]) Q E s:=by
 refine Calls.call_function_entry kind_sorted plain_sorted entry_sorted (args_sorted1 _) ?_;unfold Builtin.«sorted»;refine aa (m:=checkCount "sorted" 1 1 _) (aq ?_);refine aa (collect_list hl ?_ hz);refine aa (wpAny_newList ?_ hz);have hsz:((s.heap.push (seqObj "list" #[] 0)).update s.heap.objs.size (Obj.mapSeq (·++vs.toArray))).objs.size=s.heap.objs.size+1:=by
  rw[Heap.size_update,size_push']
 have we:(((s.heap.push (seqObj "list" #[] 0)).update s.heap.objs.size (Obj.mapSeq (·++vs.toArray))).push (seqObj "list" vs.toArray 0)).get? (s.heap.objs.size+1)=some (seqObj "list" vs.toArray 0):=by
  rw[<-hsz];exact aD _ rfl
 have keep:∀b o,s.heap.get? b=some o->(((s.heap.push (seqObj "list" #[] 0)).update s.heap.objs.size (Obj.mapSeq (·++vs.toArray))).push (seqObj "list" vs.toArray 0)).get? b=some o:=fun b o q=>by
  have fI:b<s.heap.objs.size:=aB q;rw[Heap.get?_push_ne _ _ _ (by rw[hsz];exact aG (cq fI)),Heap.get?_update_ne _ _ _ _ (aG fI),Heap.get?_push_ne _ _ _ (aG fI)];exact q
 show wpAny _ _ _ _ _ { s with heap:=((s.heap.push (seqObj "list" #[] 0)).update s.heap.objs.size (Obj.mapSeq (·++vs.toArray))).push (seqObj "list" vs.toArray 0) };rw[hsz];refine aa (bL (dR slot_list_sort ⟨_,we,rfl⟩ entry_list_sort (Ve (rk:=rk) we hz hr (fun h' k=>R h' fun b o e=>k b o (aG (cq (aB e))) (keep b o e)) fun eX a1 a2=>⟨_,rfl,?_⟩) (args_list_sort _)));exact aq ⟨_,rfl,h eX a1 a2⟩
end
theorem sM(n:Nat):lr n:=fun R _ _ q=>R9 (ok:=fun x=>x∈_) ⟨fun x y st Q ox oy hk q=>by
 rw[lt'_eq];refine aj (wpS_get ?_);rw[hk]
 exact aj (wpS_lift (wpAny_attempt (cN (R.key x y (fun b s'=>s'=_/\b=decide _) ox oy ⟨rfl,rfl⟩) (fun b s' ⟨e1,e2⟩=>⟨e1,by subst e2;exact ag q⟩) fun _ _ z=>z.elim)))⟩ rfl rfl rfl (fun x hx=>hx) q
end Ts
namespace HT
theorem o6:∀a b:List Int,lexLt a b=fu b a
 | [],[]=>rfl
 | [],_::_=>rfl
 | _::_,[]=>rfl
 | x::xs,y::ys=>by
  unfold lexLt fu;rw[o6 xs ys];by_cases e:x=y
  ·subst e;simp
  ·have e2:¬y=x:=fun z=>e z.symm
   simp[e,e2]
end HT
namespace Ts
open PySem PySem.W PyProof.Rows
section
variable {prog:Program} {w:World} {A:Around} {E:Value->Shared->Prop} {s:Shared} {fin:Bool} {Q:Bool->Shared->Prop}
theorem Kl:∀{vs ws:List Value} {ns ms:List Int},IntsAre vs ns->IntsAre ws ms->∀i:Nat,fin=decide (ns.length<ms.length)->Q (HT.lexLt ns ms) s->KatLex prog w A true fin Q (vs.zip ws) i s
 | _,_,_,_,.nil,.nil,i,hf,q=>by subst hf;exact kat_nil q
 | _,_,_,_,.nil,.cons b u hw,i,hf,q=>by subst hf;exact kat_nil (by simpa[HT.lexLt] using q)
 | _,_,_,_,.cons a t hv,.nil,i,hf,q=>by subst hf;exact kat_nil (by simpa[HT.lexLt] using q)
 | _,_,_,_,.cons a t hv,.cons b u hw,i,hf,q=>by
  rw[List.zip_cons_cons];refine kat_cons (wpAny_eqBool_int ?_);rw[HT.pT] at q;by_cases e:a=b
  ·rw[if_pos e] at q;subst e;simp only[BEq.rfl,bR];exact kat_yes (Kl hv hw (i+1) (by rw[hf];simp) q)
  ·rw[if_neg e] at q;simp only[c7.mpr e,ba e];refine kat_no ?_;cases i with
   | zero=>exact oneLt_int q
   | succ i=>exact kat_one _ _ (HT.sO A s a t b u prog w _ _ q)
noncomputable def j9(h:Heap)(v:Value):List Int:=match v with
 | .ref a=>match h.get? a with
  | some o=>match o.data with
   | .seq xs _=>numsOf xs.toList
   | _=>[]
  | none=>[]
 | _=>[]
def TupAt(h:Heap)(v:Value):Prop:=∃a o xs n,v=.ref a/\h.get? a=some o/\o.cls=.type "tuple"/\o.data=.seq xs n/\IntsAre xs.toList (j9 h v)/\j9 h v≠[]
noncomputable def y7(h:Heap)(jV:List (List Int))(x:Keyed):Int:=(jV.countP fun t=>HT.fu (j9 h x.1) t:Nat)
theorem vY{jV:List (List Int)}{a b:List Int}(ha:a∈jV):(jV.countP fun t=>HT.fu a t)<(jV.countP fun t=>HT.fu b t)↔HT.fu b a=true:=by
 constructor
 ·intro h;cases hb:HT.fu b a with
  | true=>rfl
  | false=>
   have:(jV.countP fun t=>HT.fu b t)<=(jV.countP fun t=>HT.fu a t):=by
    refine List.countP_mono_left fun t _ ht=>?_
    cases hc:HT.fu a t with
    | true=>rfl
    | false=>
     have:=HT.ml b a t hb hc;rw[this] at ht;cases ht
   omega
 ·intro h;have sub:∀t,HT.fu a t=true->HT.fu b t=true:=fun t ht=>by
   cases hc:HT.fu b t with
   | true=>rfl
   | false=>
    have:=HT.ml b t a hc (HT.o7 a t ht);rw[this] at h;cases h
  induction jV with
  | nil=>cases ha
  | cons c r ih=>
   rw[dU,dU];rcases ar.mp ha with rfl | ha
   ·have le:(r.countP fun t=>HT.fu a t)<=(r.countP fun t=>HT.fu b t):=List.countP_mono_left fun t _ ht=>sub t ht
    rw[HT.nB,h];simp only[af,aJ,aR];omega
   ·have:=ih ha;cases hc:HT.fu a c with
    | true=>rw[sub c hc];simp only[aR];omega
    | false=>simp only[af,aJ];split<;>omega
theorem K6{h h':Heap}(k:∀b o,h.get? b=some o->h'.get? b=some o):∀{its:List Value},(∀v∈its,TupAt h v)->∃fs,KatTups h' its fs/\fs.length=its.length/\∀v∈fs,∃n t,v=Value.int n t
 | [],_=>⟨[],.nil,rfl,fun v hv=>by cases hv⟩
 | v::r,hv=>by
  obtain⟨fs,h1,h2,h3⟩:=K6 k (its:=r) fun x hx=>hv x (aQ _ hx)
  obtain⟨a,o,xs,n,rfl,ho,hc,hd,hi,gP⟩:=hv v cM;generalize j9 h (.ref a)=t at hi gP;generalize hx:xs.toList=l at hi;cases hi with
  | nil=>exact absurd rfl gP
  | cons m u hr=>
   have h0:xs[0]?=some (.int m u):=by rw[<-cK,hx];rfl
   exact⟨.int m u::fs,KatTups.cons (k _ _ ho) hc hd h0 h1,by simp[h2],fun x hx=>by
    rcases ar.mp hx with rfl | hx
    ·exact⟨_,_,rfl⟩
    ·exact h3 x hx⟩
theorem tN{h h':Heap}{its:List Value}(k:∀b o,h.get? b=some o->h'.get? b=some o)(hv:∀v∈its,TupAt h v):Ask prog w A E its (y7 h (its.map (j9 h))) { s with heap:=h' }:=by
 refine⟨fun h2=>⟨tuples' (Value.type "int" != Value.type "tuple"),fun Q' q=>?_,⟨fun x y Q ox oy q=>?_⟩⟩⟩
 ·obtain⟨fs,h1,MY,h3⟩:=K6 k hv;refine kat_kind (s:={ s with heap:=h' }) (T:=.type "int") h1 (by omega) (fun v hv=>?_) (by decide +kernel) q;obtain⟨n,t,rfl⟩:=h3 v hv;exact Looks.of_pure rfl
 ·have mem:∀z,z∈pairsOf its->TupAt h z.1/\z.1∈its:=fun z hz=>by
   have:z.1∈its:=by
    unfold pairsOf at hz;have GD:z∈its.zip its:=by simpa using hz
    exact(List.of_mem_zip GD).1
   exact⟨hv _ this,this⟩
  obtain⟨⟨a,oa,xs,n,ea,ga,ca,da,ia,_⟩,ma⟩:=mem x ox;obtain⟨⟨b,ob,ys,m,eb,gb,cb,db,ib,_⟩,mb⟩:=mem y oy;have e:decide (y7 h (its.map (j9 h)) x<y7 h (its.map (j9 h)) y)=HT.lexLt (j9 h x.1) (j9 h y.1):=by
   rw[HT.o6,eh,bF];unfold y7;rw[Int.ofNat_lt];exact vY (bU ma)
  rw[e] at q;rw[ea,eb];rw[ea,eb] at q;rw[ea] at ia;rw[eb] at ib;have e2:(Value.type "int" != Value.type "tuple")=true:=by decide +kernel
  rw[e2];refine kat_lt (k _ _ ga) da (k _ _ gb) db (Kl ia ib 0 ?_ q);rw[<-ia.length,<-ib.length];simp
end
end Ts
namespace L2
open PySem PySem.Spec PyProof.Rows
theorem K5{α β:Type}{f:α->β}{a b:List β}(h:a.Perm b):∀{L:List α},b=L.map f->∃L':List α,L'.Perm L/\a=L'.map f:=by
 induction h with
 | nil=>intro L e;exact⟨[],by rw[show L=[] from by simpa using e.symm],rfl⟩
 | cons x h ih=>
  intro L e;cases L with
  | nil=>cases e
  | cons y L=>
   rw[aA] at e;injection e with e1 e2
   obtain⟨L',h1,h2⟩:=ih e2;exact⟨y::L',h1.cons y,by rw[aA,e1,h2]⟩
 | swap x y l=>
  intro L e;match L,e with
  | [],e=>cases e
  | [_],e=>cases e
  | u::v::L,e=>
   simp only[aA,List.cons.injEq] at e;exact⟨v::u::L,List.Perm.swap u v L,by simp[e]⟩
 | trans h1 h2 Yh Yg=>
  intro L e;obtain⟨L2,a1,a2⟩:=Yg e;obtain⟨L3,b1,b2⟩:=Yh a2;exact⟨L3,b1.trans a1,b2⟩
section
variable {X:Cx} {pos:Pos} {e:Expr} {te:TD}
theorem Jr{α:Type}{f:α->V}{g:α->Value}:∀{L:List α},(∀q∈L,RelV (f q) (g q))->Vals (L.map f) (L.map g)
 | [],_=>.nil
 | q::L,h=>.cons (h q cM) (Jr fun x hx=>h x (aQ _ hx))
theorem T8:fO X (.builtin "sorted") (fun xs H Q=>∃(p:Addr) (ps:List (V×List Int)),xs=[.ref p]/\gT X.K H p (ps.map (·.1))/\(∀q∈ps,q.2≠[]/\∃b,q.1=.ref b/\iK X.K H b (q.2.map V.int))/\(2<=ps.length->Ts.lr ps.length)/\
  ∀ug:List (V×List Int),ug.Perm ps->ug.Pairwise (fun x y=>HT.fu x.2 y.2=false)->∀l,H l=none->Q (.ref l) (upd H l (.lst (ug.map (·.1))))):=by
 intro Z8 s σ H xs us Q I r h;obtain⟨p,ps,rfl,hq,hk,hr,q⟩:=h;obtain⟨u,rfl,ru⟩:=mL r;cases ru;obtain⟨its,rv,pl,hz⟩:=I.list hq;have hl:ps.length=its.length:=by rw[<-rv.length,ae]
 obtain⟨LL,e1,e2⟩:∃LL:List ((V×List Int)×Value),ps=LL.map (·.1)/\its=LL.map (·.2):=
  ⟨ps.zip its,(List.map_fst_zip (by omega)).symm,(List.map_snd_zip (by omega)).symm⟩
 have rel:∀z∈LL,RelV z.1.1 z.2:=fun z hz=>by
  obtain⟨i,hi⟩:=List.getElem?_of_mem hz;have h1:(ps.map (·.1))[i]?=some z.1.1:=by rw[e1];simp[hi]
  obtain⟨v',xN,rx⟩:=rv.get h1;have h2:its[i]?=some z.2:=by rw[e2];simp[hi]
  rw[h2] at xN;cases xN;exact rx
 have tup:∀z∈LL,Ts.TupAt s.heap z.2/\Ts.j9 s.heap z.2=z.1.2:=fun z hz=>by
  obtain⟨gP,b,eb,sq⟩:=hk z.1 (by rw[e1];exact bU hz);have rz:=rel z hz;obtain⟨i1,v1,p1,_⟩:=I.tuple sq;obtain⟨o1,g1,c1,n1,d1⟩:=p1;obtain⟨⟨zv,zt⟩,zw⟩:=z;simp only at eb rz v1 gP ⊢;subst eb;cases rz;have ia:=yN v1;have e:Ts.j9 s.heap (.ref b)=zt:=by
   unfold Ts.j9;simp only[g1,d1];exact ia.numsOf
  exact⟨⟨b,o1,_,n1,rfl,g1,c1,d1,by rw[e];exact ia,by rw[e];exact gP⟩,e⟩
 refine Ts.sE (rk:=Ts.y7 s.heap (its.map (Ts.j9 s.heap))) pl.isList (by rw[<-hl,<-ae (f:=(·.1))];exact hz) (by rw[<-hl];exact hr) (fun h' k=>Ts.tN k fun v hv=>?_) fun eX hp hs=>?_
 ·rw[e2] at hv;obtain⟨z,hz,rfl⟩:=aK.mp hv;exact(tup z hz).1
 ·have ep:(PyProof.Rows.pairsOf its).toList=LL.map fun z=>((z.2,z.2):Keyed):=by
   unfold PyProof.Rows.pairsOf;rw[e2];simp only[List.zip_toArray];clear e1 e2 rel tup hp hs;induction LL with
   | nil=>rfl
   | cons a r ih=>simp at ih ⊢;exact ih
  obtain⟨L',h1,h2⟩:=K5 (hp.trans (List.Perm.of_eq ep)) rfl;have Gs:∀z∈L',RelV z.1.1 z.2:=fun z hz=>rel z (h1.subset hz)
  have out:((arrOf eX).map (·.2)).toList=L'.map (·.2):=by
   rw[Array.toList_map,h2,a9];rfl
  obtain⟨en,he⟩:=sortedAll_at s.heap its ((arrOf eX).map (·.2));have hf:H (s.heap.objs.size+1)=none:=I.fR.fresh (b8 _)
  have q':=q (L'.map (·.1)) (by rw[e1];exact h1.map _) (by
   rw[c6];unfold Ts.gQ at hs;rw[h2,c6] at hs;refine hs.imp_of_mem fun{a b} ha hb nN=>?_
   have ta:=(tup a (h1.subset ha)).2;have tb:=(tup b (h1.subset hb)).2;have mb:Ts.j9 s.heap b.2∈its.map (Ts.j9 s.heap):=bU (by rw[e2];exact bU (h1.subset hb));unfold Ts.y7 at nN;cases hg:HT.fu a.1.2 b.1.2 with
   | false=>rfl
   | true=>
    rw[<-ta,<-tb] at hg;have:=(Ts.vY mb).mpr hg;simp only at nN;omega) _ hf
  rw[a9] at q';refine⟨.ref (s.heap.objs.size+1),_,I.laid (a:=s.heap.objs.size+1) (o:=.lst (L'.map ((·.1)∘(·.1)))) (t':=s.toks) (fun b o e=>sortedAll_old e) (b8 _) ?_,rfl,q'⟩
  refine⟨by
   rw[ae,h1.length_eq];have:LL.length=its.length:=by rw[e2,ae]
   rw[this,<-hl,<-ae (f:=(·.1))];exact hz,((arrOf eX).map (·.2)).toList,en,?_,?_⟩
  ·rw[out];exact Jr Gs
  ·rw[ez];exact he
def CS:f6:=fun ds Q=>match ds with
 | [.lst es]=>match oN es with
  | some jV=>(∀t∈jV,t≠[])/\∀oV:List (List Int),oV.Perm jV->oV.Pairwise (fun x y=>HT.fu x y=false)->Q (.ow (oV.map fun t=>.tup (t.map D.int)))
  | none=>False
 | _=>False
theorem EI{α:Type}{K:Z9}{G:Hp}{f:α->V}{g:α->D}:∀{L:List α},(∀q∈L,Rep K G (f q) (g q))->eQ K G (L.map f) (L.map g)
 | [],_=>eQ.nil
 | q::L,h=>eQ.cons (h q cM) (EI fun x hx=>h x (aQ _ hx))
theorem R8{G H:Hp}{vs:List V}{es:List D}{jV:List (List Int)}{Q:R->Prop}{P:VK}(s:e8 G H)(rs:eQ X.K G vs [.lst es])(ht:oN es=some jV)(hn:∀t∈jV,t≠[])(hr:2<=jV.length->Ts.lr jV.length)
  (q:∀oV:List (List Int),oV.Perm jV->oV.Pairwise (fun x y=>HT.fu x y=false)->Q (.ow (oV.map fun t=>.tup (t.map D.int)))) (k:∀v H' r' G',Ext G H G' H'->gR X.K G' H' H v r'->Q r'->P v H') :
  ∃(p:Addr) (ps:List (V×List Int)),vs=[.ref p]/\gT X.K H p (ps.map (·.1))/\(∀q∈ps,q.2≠[]/\∃b,q.1=.ref b/\iK X.K H b (q.2.map V.int))/\(2<=ps.length->Ts.lr ps.length)/\
   ∀ug:List (V×List Int),ug.Perm ps->ug.Pairwise (fun x y=>HT.fu x.2 y.2=false)->∀l,H l=none->P (.ref l) (upd H l (.lst (ug.map (·.1)))):=by
 obtain⟨v,rfl,rv⟩:=mR rs;simp only[Rep] at rv;obtain⟨a,xs,rfl,h1,h2⟩:=rv;obtain⟨h3,h4⟩:=Kp ht h2;have e1:(xs.zip jV).map (·.1)=xs:=List.map_fst_zip (by omega);have e2:(xs.zip jV).map (·.2)=jV:=List.map_snd_zip (by omega);have el:(xs.zip jV).length=jV.length:=by rw[List.length_zip];omega
 have hz:∀q∈xs.zip jV,Rep X.K G q.1 (.tup (q.2.map D.int))/\∃b,q.1=.ref b/\iK X.K G b (q.2.map V.int):=fun q hq=>by
  obtain⟨i,hi⟩:=List.getElem?_of_mem hq;have a1:xs[i]?=some q.1:=by rw[<-e1];simp only[aI,hi];rfl
  have a2:jV[i]?=some q.2:=by rw[<-e2];simp only[aI,hi];rfl
  exact h4 i _ _ a1 a2
 refine⟨a,xs.zip jV,rfl,by rw[e1];exact(s.iF h1).sq,fun z hq=>⟨hn _ (by rw[<-e2];exact bU hq),?_⟩,by rw[el];exact hr,fun ug p1 p2=>?_⟩
 ·obtain⟨_,b,e,sq⟩:=hz z hq;exact⟨b,e,s.sF sq⟩
 ·refine uJ s (ds:=(ug.map (·.2)).map fun t=>.tup (t.map D.int)) ?_ (q (ug.map (·.2)) (by rw[<-e2];exact p1.map _) (by rw[c6];exact p2)) k;rw[a9];exact EI fun q hq=>(hz q (p1.subset hq)).1
theorem SQ(_:X.calm=true):qk X (.builtin "sorted") CS:=by
 refine⟨_,T8,fun G H vs ds Q P s rs h k=>?_⟩;unfold CS at h;split at h
 ·split at h
  ·rename_i es jV ht;exact R8 s rs ht h.1 (fun _=>Ts.sM _) h.2 k
  ·exact h.elim
 ·exact h.elim
end
end L2
namespace PySem
open Sem (wp)
end PySem
namespace L2
open PySem PySem.Spec PyProof.Rows
end L2
namespace PySem
open Sem (wp)
end PySem
namespace L2
open PySem PySem.Spec PyProof.Rows
end L2
namespace PySem
open Sem (wp)
end PySem
namespace L2
open PySem PySem.Spec PyProof.Rows
namespace SI
open PySem PySem.Spec PyProof.Rows
end SI
end L2
namespace L2
open PySem PySem.Spec PyProof.Rows
namespace SI
end SI
end L2
namespace L2
open PySem PySem.Spec PyProof.Rows
section
variable {P:Program} {w:World} {K:Z9} {mg:Str->Option Value} {base:Heap}
structure DT (K:Z9) (mg:Str->Option Value) (x:Str) (st:Stmt) (ds:List Value):Prop where
 ex:∃(T f:Addr) (fd:FuncData) (o:Obj) (n:Nat),nZ (.ref T) K x x st f fd/\mg x=some (.ref f)/\K.lookup T=some o/\o.data=.seq ds.toArray n
theorem yd{h:Heap}{x:Str}{st:Stmt}{f T:Addr}{oc tc:Value}{od an td:Option Addr}{pK Xx:Array (Option Value)}{kV doc pm fD ct:Value}{ds:List Value}{n:Nat}(X:K.In h)(G:h.Ns mainGlobals mg)(a:PySem.W.nsIn K mainGlobals x=some (some (.ref f)))
  (l:K.lookup f=some ⟨oc,od,.func (PySem.W.fnOf x x (g6 st) (fK st) (eS st) (.ref T) kV doc pm an fD ct),pK⟩) (c:PySem.W.codeIn K fD x=true) (k:PySem.W.keepIn K (.ref f)=true) (t:K.lookup T=some ⟨tc,td,.seq ds.toArray n,Xx⟩):DT K mg x st ds:=
 ⟨T,f,_,_,n,Eu l c k,PySem.W.mg_of X G a,t,rfl⟩
theorem nZ.tM{x qual:Str}{st:Stmt}{f T:Addr}{fd:FuncData}{ps:List Str}{o:Obj}{ds es:List Value}{n:Nat}(F:nZ (.ref T) K x qual st f fd)(m:Nat)(lk:K.lookup T=some o)(hd:o.data=.seq ds.toArray n)
  (h:∀(kV doc pm:Value) (an:Option Addr) (fD ct:Value) (us:List Value),us.length=m->∃k:Option (Array Value)->Sem (List (Str×Value)),bindArgs (PySem.W.fnOf x qual (g6 st) (fK st) (eS st) (.ref T) kV doc pm an fD ct) ⟨us,[]⟩=seqItems? (.ref T) >>= k/\k (some ds.toArray)=pure (ps.zip (us++es))) (hm:ps.length=m+es.length:=by rfl):Binds K fd ps es:=by
 obtain⟨oc,od,kV,doc,pm,an,fD,ct,pK,rfl,lf,iS⟩:=F.ex;intro s us y9 hl;obtain⟨k,h1,h2⟩:=h kV doc pm an fD ct us (by rw[au,hm] at hl;omega);exact BindsTo.of_defaults rfl (y9 _ _ lk) hd h1 h2
structure nW (P:Program) (w:World) (K:Z9) (mg:Str->Option Value) (base:Heap) (k:Nat) (x:Str) (n:Nat) (t:f6) (b:Bool):Prop where
 ex:∃(f:Addr) (fd:FuncData) (ps:List Str),jT P w K mg base oK k f fd ps (yh K n t)/\mg x=some (.ref f)/\PySem.W.keepIn K (.ref f)=true/\Binds K fd ps []/\Binds K fd ps [.bool b]
end
section
variable {X:Cx} {k k' n:Nat} {t:f6} {x:Str} {p pos:Pos} {e:Expr} {es:List Expr} {ts:lq} {b:Bool}
def zV(n:Nat)(t:f6)(b:Bool)(ts:lq):TD:=fun ρ Q=>ts ρ fun ds=>(ds++[D.bl b]).length=n/\t (ds++[D.bl b]) Q
theorem K4(C:nW X.prog X.w X.K X.mg X.base k x n t b)(hr:gz k' X.A)(ha:oJ X (e::es) ts)(hk:k<=k':=by decide)(hg:Gl X x:=by rfl)(nM:(x==("__debug__":Str))=false:=by decide)
  (he:starEach (e::es) X.env=(false,eval e X.env)::starEach es X.env:=by rfl) (kO:(backTo pos (starEach es X.env)).any (·.1)=false:=by rfl):PD X (.Call (.Name x p) (e::es) [] pos) (zV n t b ts):=by
 obtain⟨f,fd,ps,F,hm,kp,_,hb⟩:=C.ex;obtain⟨tt,pp,q⟩:=ha;refine⟨_,JR F (hr.mono hk) hg hm kp hb (dvs:=[.bl b]) (.cons rfl .nil) Eb pp nM he kO,fun ρ σ G0 H0 G H Q P E h k=>q ρ σ G0 H0 G H _ _ E h fun vs H' ds G' x rs hq=>?_⟩;exact⟨G',ds++[D.bl b],Q,x.s,rs.append (eQ.cons (by simp only[Rep]) eQ.nil),hq.1,hq.2,fun v H2 r G2 x2 rr q2=>k v H2 r G2 (x.trans x2) (rr.iX x.h) q2⟩
end
section
variable {X:Cx} {p p' pos pos':Pos} {e:Expr} {ts:lq}
def Cw(i:Nat):TD:=fun ρ Q=>match gt ρ i with
 | .ow ds=>Q (.ow ds)
 | _=>False
theorem R7(i:Nat){x:Str}(hm:X.mg "list"=none)(hN:X.N[i]?=some x:=by rfl)(hv:nV X.env.scope x:=by first | exact Or.inl rfl | exact Or.inr (Or.inl rfl) | exact Or.inr (Or.inr rfl))(hg:Gl X "list":=by rfl)(hd:(x==("__debug__":Str))=false:=by decide)
  (iS:(x==("__classdict__":Str))=false:=by decide) (jv:starEach [Expr.Name x p'] X.env=(false,eval (.Name x p') X.env)::starEach [] X.env:=by rfl):PD X (.Call (.Name "list" p) [.Name x p'] [] pos) (Cw i):=by
 refine⟨_,Ak Lx hg hm boot_list (rN (pE hN hv hd iS) t7 jv),fun ρ σ G0 H0 G H Q P E h k=>?_⟩;unfold Cw at h;split at h
 ·rename_i ds hg;obtain⟨a,xs,h1,h2,h3,h4,h5⟩:=E.ow i ds hg;exact⟨_,h1,a,xs,rfl,.inl (gT.of h2),uJ E.e.s h5 h k⟩
 ·exact h.elim
theorem R6:fO X (.type "range") (fun xs H Q=>∃j:Int,xs=[.int j]/\∀l,H l=none->Q (.ref l) (upd H l (.xx 0 j))):=by
 intro Z8 s σ H xs us Q I r h;obtain⟨j,rfl,q⟩:=h;obtain⟨u,rfl,t,rfl⟩:=mL r;exact call_range_1 ⟨.ref s.heap.objs.size,_,I.laid (t':=s.toks+1+1) (fun b o e=>ao _ e) (az _) (show gi X.prog X.w _ _ _ (.xx 0 j) from⟨_,_,_,aD _ rfl⟩),rfl,q _ (I.fR.fresh (az _))⟩
theorem Ld:∀(l:List Value) (k:Nat),(∀(j:Nat) v,l[j]?=some v->∃t,v=.int ((k:Int)+j) t)->Vals ((List.range' k l.length).map fun(i:Nat)=>V.int i) l
 | [],_,_=>.nil
 | v::l,k,h=>by
  rw[aE,List.range'_succ,aA];obtain⟨t,ht⟩:=h 0 v rfl;refine .cons ⟨t,by rw[ht];simp⟩ (Ld l (k+1) fun j u hu=>?_);obtain⟨t,ht⟩:=h (j+1) u (by simpa using hu);exact⟨t,by rw[ht];congr 1;omega⟩
theorem T7(n:Nat)(acc:Array Value)(h:ItemsOf (fun i v=>∃t,v=.int (0+i*1) t) acc n):Vals ((List.range n).map fun(i:Nat)=>V.int i) acc.toList:=by
 have:=Ld acc.toList 0 fun j v hv=>by
  obtain⟨t,ht⟩:=h.2 j v (by simpa using hv);exact⟨t,by rw[ht];congr 1;omega⟩
 rw[ah,h.1] at this;rw[List.range_eq_range'];exact this
theorem VX(hc:X.calm=true):fO X (.type "list") (fun xs H Q=>∃(p:Addr) (n:Nat),xs=[.ref p]/\H p=some (.xx 0 n)/\n<=sizeLine/\∀l,H l=none->Q (.ref l) (upd H l (.lst ((List.range n).map fun(i:Nat)=>V.int i)))):=by
 intro Z8 s σ H xs us Q I r h;obtain⟨p,n,rfl,hp,hn,q⟩:=h;obtain⟨u,rfl,rx⟩:=mL r;cases rx;obtain⟨t,u,v,e⟩:=I.fR p _ hp;have big:sizeLine=16777216:=rfl;refine call_list_range (I.ok.hd hc) (show IsRange s.heap p 0 n 1 t u v from e) (small_one (by omega) (by omega) (by omega) (by omega)) (n:=n) (by rw[rangeSize_one];split<;>omega) (by omega) fun h' tk acc c hk hl hi=>?_
 have hv:=T7 n acc hi;exact⟨.ref s.heap.objs.size,_,I.laid (t':=tk) hk (az _) (show gi X.prog X.w _ h' _ (.lst ((List.range n).map fun(i:Nat)=>V.int i)) from⟨by simpa using hn,acc.toList,c,hv,by simpa using hl⟩),rfl,q _ (I.fR.fresh (az _))⟩
def Ek(ts:lq):TD:=fun ρ Q=>ts ρ fun ds=>match ds with
 | [.int j]=>0<=j/\j<=1000000/\Q (.ow ((List.range j.toNat).map fun(i:Nat)=>.int i))
 | _=>False
theorem R5(hc:X.calm=true)(hm:X.mg "list"=none)(oE:X.mg "range"=none)(ha:oJ X [e] ts)(hg:Gl X "list":=by rfl)(va:Gl X "range":=by rfl)(jv:starEach [e] X.env=(false,eval e X.env)::starEach [] X.env:=by rfl):PD X (.Call (.Name "list" p) [.Call (.Name "range" p') [e] [] pos'] [] pos) (Ek ts):=by
 obtain⟨t,pp,q⟩:=ha;refine⟨_,Ak (VX hc) hg hm boot_list (rN (Ak R6 va oE boot_range pp (he:=jv)) t7),fun ρ σ G0 H0 G H Q P E h k=>q ρ σ G0 H0 G H _ _ E h fun vs H' ds G' x rs hq=>?_⟩;split at hq
 ·rename_i j;obtain⟨h1,h2,hq⟩:=hq;obtain⟨v,rfl,rv⟩:=mR rs;simp only[Rep] at rv;subst rv;refine⟨j,rfl,fun l hl=>?_⟩;have big:sizeLine=16777216:=rfl;have x2:Ext G' H' G' (upd H' l (.xx 0 j)):=.own x.s hl;refine⟨l,j.toNat,rfl,by rw[jz,Int.toNat_of_nonneg h1],by omega,uJ x2.s (ds:=(List.range j.toNat).map fun(i:Nat)=>.int i) (EI fun q _=>by simp only[Rep]) hq fun v H2 r G2 x3 rr q2=>k v H2 r G2 ((x.trans x2).trans x3) (rr.iX (x.h.trans x2.h)) q2⟩
 ·exact hq.elim
def Cv(i:Nat):TX:=fun D ρ=>match gt ρ i with
 | .ov (.tl _ ds)=>D.rt (.ow ds)
 | _=>False
theorem R4(i:Nat){x:Str}{p1 p2 p4:Pos}{c4:Nat}(hN:X.N[i]?=some x:=by rfl)(hv:nV X.env.scope x:=by first | exact Or.inl rfl | exact Or.inr (Or.inl rfl) | exact Or.inr (Or.inr rfl))(hd:(x==("__debug__":Str))=false:=by decide)
  (iS:(x==("__classdict__":Str))=false:=by decide):PX X (.Return (some (.Subscript (.Name x p1) (.Constant (.int 1) c4 p4) p2)) pos) (Cv i):=by
 refine⟨_,Ct (Cn sT (pE hN hv hd iS) IM (fun _ _=>rfl)),fun ρ σ G0 H0 G H D E k h g=>?_⟩;unfold Cv at h;split at h
 ·rename_i d ds hg;obtain⟨own,o1,o2⟩:=k.on;obtain⟨a,fp,b1,b2,⟨qa,v0,xs,rfl,c1,c2,c3,c4⟩,b4⟩:=o2 i _ hg;refine⟨_,b1,a,[v0,.ref qa],1,.ref qa,rfl,rfl,iK.of c1,rfl,?_⟩;have:=b4 qa (by simp);exact g.rt _ H (.ow ds) G k.e ⟨qa,xs,rfl,this.2.1,this.1,c3,c4⟩ h
 ·exact h.elim
end
section
variable {P:Program} {w:World} {K:Z9} {mg:Str->Option Value} {base:Heap}
theorem jh{x:Str}{st:Stmt}{N ps:List Str}{t:f6}{T:TX}{n d:Nat}(k:Nat)(A:At K mg x st)(S:eW N ps (eS st))
  (body:∀(f:Addr) (fD:Value) (A:Around) (outer:List Env) (s:Shared) (H:Hp) (E:XK),gz k (A.deeper (envOfC x (eS st) s.heap.objs.size f fD))->p5 (rJ oK P w K mg base N x (eS st) f fD A outer s H E).uh (fK st) T)
  (spec:∀(ds:List D) (Qr:R->Prop),ds.length=n->t ds Qr->T { nx:=fun _=>Qr (.fz .non),rt:=Qr } (g5 N ds))
  (b:∀(kV doc pm:Value) (an:Option Addr) (fD ct:Value) (us:List Value),us.length=n->bindArgs (PySem.W.fnOf x x (g6 st) (fK st) (eS st) .none kV doc pm an fD ct) ⟨us,[]⟩=pure (ps.zip us)) (hn:ps.length=n:=by rfl) (hd:k+1=d:=by rfl):Known P w K mg base d x n t:=by
 subst hn hd;obtain⟨f,fd,F,hm⟩:=A.ex;exact⟨f,fd,ps,EL F S (body f) spec,hm,F.kp,F.binds b⟩
end
end L2
namespace Ts
open PySem PySem.W PyProof.Rows
end Ts
namespace L2
open PySem PySem.Spec PyProof.Rows
theorem uw{α:Type}{l:List α}{n:Nat}(h:l.length=n+1):∃a r,l=a::r/\r.length=n:=by
 cases l with
 | nil=>cases h
 | cons a r=>exact⟨a,r,rfl,Nat.succ.inj h⟩
theorem Nz{α:Type}{l:List α}(h:l.length=0):l=[]:=dr h
theorem Ie{α:Type}{l:List α}(h:l.length=1):∃a0,l=[a0]:=by
 obtain⟨a,r,e,h⟩:=uw h;exact⟨a,by rw[e,Nz h]⟩
theorem Ic{α:Type}{l:List α}(h:l.length=2):∃a0 a1,l=[a0,a1]:=by
 obtain⟨a,r,e,h⟩:=uw h;obtain⟨b0,e2⟩:=Ie h;exact⟨a,b0,by rw[e,e2]⟩
theorem Ib{α:Type}{l:List α}(h:l.length=3):∃a0 a1 a2,l=[a0,a1,a2]:=by
 obtain⟨a,r,e,h⟩:=uw h;obtain⟨b0,b1,e2⟩:=Ic h;exact⟨a,b0,b1,by rw[e,e2]⟩
theorem Ia{α:Type}{l:List α}(h:l.length=4):∃a0 a1 a2 a3,l=[a0,a1,a2,a3]:=by
 obtain⟨a,r,e,h⟩:=uw h;obtain⟨b0,b1,b2,e2⟩:=Ib h;exact⟨a,b0,b1,b2,by rw[e,e2]⟩
theorem HZ{α:Type}{l:List α}(h:l.length=5):∃a0 a1 a2 a3 a4,l=[a0,a1,a2,a3,a4]:=by
 obtain⟨a,r,e,h⟩:=uw h;obtain⟨b0,b1,b2,b3,e2⟩:=Ia h;exact⟨a,b0,b1,b2,b3,by rw[e,e2]⟩
theorem HY{α:Type}{l:List α}(h:l.length=6):∃a0 a1 a2 a3 a4 a5,l=[a0,a1,a2,a3,a4,a5]:=by
 obtain⟨a,r,e,h⟩:=uw h;obtain⟨b0,b1,b2,b3,b4,e2⟩:=HZ h;exact⟨a,b0,b1,b2,b3,b4,by rw[e,e2]⟩
theorem HX{α:Type}{l:List α}(h:l.length=7):∃a0 a1 a2 a3 a4 a5 a6,l=[a0,a1,a2,a3,a4,a5,a6]:=by
 obtain⟨a,r,e,h⟩:=uw h;obtain⟨b0,b1,b2,b3,b4,b5,e2⟩:=HY h;exact⟨a,b0,b1,b2,b3,b4,b5,by rw[e,e2]⟩
theorem HW{α:Type}{l:List α}(h:l.length=8):∃a0 a1 a2 a3 a4 a5 a6 a7,l=[a0,a1,a2,a3,a4,a5,a6,a7]:=by
 obtain⟨a,r,e,h⟩:=uw h;obtain⟨b0,b1,b2,b3,b4,b5,b6,e2⟩:=HX h;exact⟨a,b0,b1,b2,b3,b4,b5,b6,by rw[e,e2]⟩
theorem ZD{α:Type}{l:List α}(h:l.length=9):∃a0 a1 a2 a3 a4 a5 a6 a7 a8,l=[a0,a1,a2,a3,a4,a5,a6,a7,a8]:=by
 obtain⟨a,r,e,h⟩:=uw h;obtain⟨b0,b1,b2,b3,b4,b5,b6,b7,e2⟩:=HW h;exact⟨a,b0,b1,b2,b3,b4,b5,b6,b7,by rw[e,e2]⟩
open PySem.Builtin PySem.Builtin.Str
end L2
section
namespace Wc
open PySem L2
noncomputable def j5(l:List Nat):Str:=⟨l.toArray⟩
theorem zZ(l:List Nat):(j5 l).cps.toList=l:=by simp[j5]
theorem oR(l:List Nat):(j5 l).length=l.length:=by simp[j5,Str.length]
theorem xa(a b:List Nat):j5 a++j5 b=j5 (a++b):=by
 show(⟨(j5 a).cps++(j5 b).cps⟩:Str)=_;simp[j5]
theorem uR{a b:List Nat}:j5 a=j5 b↔a=b:=by
 constructor
 ·intro h;have:(j5 a).cps.toList=(j5 b).cps.toList:=by rw[h]
  simpa[j5] using this
 ·rintro rfl;rfl
theorem I0(w:Str):j5 w.cps.toList=w:=by cases w;simp[j5]
theorem v8(c:Nat):(⟨#[c]⟩:Str)=j5 [c]:=rfl
theorem CO{α β:Type}(f:α->β)(l:List α)(i:Int):iu (l.map f) i=(iu l i).map f:=by
 unfold iu;rw[ae];cases qD l.length i with
 | none=>rfl
 | some j=>simp
theorem Ox{α β:Type}{f:α->β}{o:Option α}{p:β->Prop}:(∃d,o.map f=some d/\p d)↔∃x,o=some x/\p (f x):=by
 cases o with
 | none=>simp
 | some x=>simp
theorem IZ{α β:Type}{f:α->β}{l:List α}{i:Int}{p:β->Prop}:(∃d,iu (l.map f) i=some d/\p d)↔∃x,iu l i=some x/\p (f x):=by rw[CO];exact Ox
theorem yG{α:Type}{l:List α}{i:Int}(h0:0<=i)(h1:i<l.length):∃h:i.toNat<l.length,iu l i=some (l[i.toNat]'h):=by
 refine⟨by omega,?_⟩;unfold iu qD;rw[if_pos h0,if_pos h1];simp only[Option.bind_some];exact ai _
theorem EH{α:Type}{l:List α}{i:Int}(h0:0<=i)(h1:i<l.length):∃z,iu l i=some z/\z∈l:=by
 obtain⟨h,e⟩:=yG h0 h1;exact⟨_,e,cC h⟩
theorem Cu{α:Type}{l:List α}{n:Nat}(i:Int)(hl:n<=l.length)(h:0<n):∃z,iu l (i%(n:Int))=some z/\z∈l:=
 EH (bB _ (by omega)) (by have:=bw i (show(0:Int)<n by omega);omega)
theorem Nc{α:Type}{l:List α}(i:Int)(hl:l.length=8):∃z,iu l (i%8)=some z/\z∈l:=Cu (n:=8) i (by omega) (by omega)
theorem Zq{α:Type}{l:List α}(i:Int)(hl:l.length=8):∃z,iu l (i%5)=some z/\z∈l:=Cu (n:=5) i (by omega) (by omega)
theorem Zr{α:Type}{l:List α}(i:Int)(hl:l.length=8):∃z,iu l (i%3)=some z/\z∈l:=Cu (n:=3) i (by omega) (by omega)
theorem nu{α:Type}{l:List α}{j:Nat}(h:j<l.length):iu l (j:Int)=some l[j]:=by
 obtain⟨h',e⟩:=yG (l:=l) (i:=(j:Int)) (by omega) (by omega);simpa using e
theorem CN{n d:Nat}{j:Int}(h:0<=j):HT.gv n d (some j)=min j.toNat n:=by show(if j<0 then _ else _)=_;rw[if_neg (by omega)]
theorem EG{α:Type}(l:List α){j:Int}(h:0<=j):mK l none (some j)=l.take j.toNat:=by
 unfold mK;rw[CN h];show((l.drop 0).take (min j.toNat l.length-0))=_;rw[List.drop_zero,Nat.sub_zero,Nat.min_comm];by_cases hl:l.length<=j.toNat
 ·rw[eJ hl,bf hl,bf (az _)]
 ·rw[Nat.min_eq_right (by omega)]
theorem C0{α:Type}(l:List α){j:Int}(h:0<=j):mK l (some j) none=l.drop j.toNat:=by
 unfold mK;rw[CN h];show((l.drop (min j.toNat l.length)).take (l.length-_))=_;by_cases hl:l.length<=j.toNat
 ·rw[Nat.min_eq_right hl,List.drop_of_length_le hl,List.drop_of_length_le (az _)];simp
 ·rw[eJ (by omega),bf (by simp)]
theorem SA{α:Type}(l:List α){i j:Int}(hi:0<=i)(h:0<=j):mK l (some i) (some j)=(l.drop i.toNat).take (j.toNat-i.toNat):=by
 unfold mK;rw[CN h,CN hi];by_cases hl:l.length<=i.toNat
 ·rw[Nat.min_eq_right hl,List.drop_of_length_le hl,List.drop_of_length_le (az _)];simp
 ·rw[eJ (a:=i.toNat) (by omega)];by_cases hj:l.length<=j.toNat
  ·rw[Nat.min_eq_right hj,bf (by simp),bf (by simp;omega)]
  ·rw[eJ (by omega)]
theorem zY(l:List Nat){j:Int}(h:0<=j):sg (j5 l) none (some j)=j5 (l.take j.toNat):=by unfold sg;rw[zZ,EG _ h];rfl
theorem SO(l:List Nat){j:Int}(h:0<=j):sg (j5 l) (some j) none=j5 (l.drop j.toNat):=by unfold sg;rw[zZ,C0 _ h];rfl
theorem Sz(l:List Nat){i j:Int}(hi:0<=i)(h:0<=j):sg (j5 l) (some i) (some j)=j5 ((l.drop i.toNat).take (j.toNat-i.toNat)):=by unfold sg;rw[zZ,SA _ hi h];rfl
theorem Sy{α β:Type}(f:α->β)(l:List α)(lo hi:Option Int):mK (l.map f) lo hi=(mK l lo hi).map f:=by unfold mK;rw[ae,List.map_take,List.map_drop]
theorem zX(n:Nat)(i:Int):fQ n (.int i)=True:=by cases n<;>exact eq_true trivial
theorem yD(n:Nat)(i:Str):fQ n (.str i)=True:=by cases n<;>exact eq_true trivial
theorem Ow(n:Nat)(i:Bool):fQ n (.bl i)=True:=by cases n<;>exact eq_true trivial
theorem Jq(n:Nat):fQ n .non=True:=by cases n<;>exact eq_true trivial
theorem yC{α:Type}[BEq α][LawfulBEq α][DecidableEq α](a b:α):(a==b)=decide (a=b):=by rw[eh];simp
theorem Jp(a b:Str):fS (.str a) (.str b)=decide (a=b):=by simp only[fS,yC]
theorem QM(a b:Int):fS (.int a) (.int b)=decide (a=b):=by simp only[fS,yC]
theorem j7:sizeLine=16777216:=by decide
@[irreducible] def qh(u:TX)(D:DE):Ev->Prop:=u D
theorem O8(t u:TX)(D:DE)(ρ:Ev):fg t u D ρ=t { nx:=qh u D,rt:=D.rt,bk:=D.bk,ct:=D.ct } ρ:=by unfold qh;rfl
end Wc
open PySem L2 Wc
local macro_rules | `(tactic| walk_at "b")=>`(tactic| simp only[O8,iE,tU,tT,yc,fP,vG,dC,vD,zR,Iu,Oe,gV,eT,eY,eP,aA,cy,cA,eH,List.set,gt,mP,jD,oI,eV,iq,ip,iH,kB,gc,i5,k7,iV,rH,fG,jR,gE,kA,B6,lZ,oEq,A9,fX,nS,pL,mQ,gF,Cb,HI,NC,B8,x9,qL,wY,zA,dM,Cq,lY,pD,wO,zB,tS,mN,jy,oM,wQ,lD,i4,Cr,nr,vq,yq,B7,rK,OF,OE,XZ,XY,lT,lB,Int.reduceLT,Int.reduceLE,Int.reduceAdd,Int.reduceSub,Int.reduceMul,Int.reduceNeg,Int.reducePow,Int.reduceToNat,bR,bp,true_and,and_true,and_self,or_true,true_or,zX,yD,Ow,Jq,IZ,af,aJ,aR,bS,dZ,aE,cx,Nat.reduceAdd,bF,QM,Jp,Sy,xm,C5,Ed,uE])
local macro_rules | `(tactic| walk_at "all")=>`(tactic| ((try walk_at "px");repeat(simp only[qh];try walk_at "px")))
local macro_rules | `(tactic| walk_at "px")=>`(tactic| walk_at "b")
local macro_rules | `(tactic| walk_at "go")=>`(tactic| (simp only[qh];walk_at "px"))
namespace Wc
open PySem L2
noncomputable def wJ(c k:Int):Int:=(c%1000000000000000000000000000000*(k*k+48271)+7919*k*k*k+11)%2147483647/7
theorem O7(c k:Int):0<=wJ c k:=Int.ediv_nonneg (bB _ (by decide)) (by decide)
def uc:f6:=fun ds Q=>∃c k:Int,ds=[.int c,.int k]/\0<=k/\k<=1000000/\Q (.fz (.int (wJ c k)))
def Fv:TX:=(ip (eV (oI lT fun i j=>.int (i/j)) (eV (oI (fun _ j=>0<j) fun i j=>.int (i%j)) (eV iq (eV iq (eV (oI lB fun i j=>.int (i*j)) (eV (oI (fun _ j=>0<j) fun i j=>.int (i%j)) (eP 0) (eV (oI tX fun i j=>.int (i ^ j.toNat)) (dC (.int 10)) (dC (.int 30)))) (eV iq (eV (oI lB fun i j=>.int (i*j)) (eP 1) (eP 1)) (dC (.int 48271)))) (eV (oI lB fun i j=>.int (i*j)) (eV (oI lB fun i j=>.int (i*j)) (eV (oI lB fun i j=>.int (i*j)) (dC (.int 7919)) (eP 1)) (eP 1)) (eP 1))) (dC (.int 11))) (dC (.int 2147483647))) (dC (.int 7))))
theorem VW(ds:List D)(Qr:R->Prop)(hl:ds.length=2)(h:uc ds Qr):Fv { nx:=fun _=>Qr (.fz .non),rt:=Qr } (g5 ["_law_cell","_law_k"] ds):=by
 obtain⟨c,k,rfl,h0,h1,q⟩:=h;show Fv _ [.fz (.int c),.fz (.int k)];unfold Fv;walk_at "all";have hk:k*k<=1000000*1000000:=Int.mul_le_mul h1 h1 h0 (by decide);have ZS:0<=k*k:=Int.mul_nonneg h0 h0;refine⟨.inl ⟨by omega,by omega⟩,.inr ⟨by omega,by omega⟩,.inr ⟨by omega,by omega⟩,.inr ⟨by omega,by omega⟩,?_⟩;exact q
open PyProof.Rows
noncomputable def dO:Option Str->D
 | none=>.non
 | some s=>.str s
noncomputable def dP(l:List (Option Str)):D:=.lst (l.map dO)
noncomputable def dS(l:List Str):D:=.lst (l.map .str)
noncomputable def dI(l:List Int):D:=.lst (l.map .int)
noncomputable def uo(p:Str×Int):D:=.tup [.str p.1,.int p.2]
noncomputable def pM(p:Int×Str):D:=.tup [.int p.1,.str p.2]
noncomputable def tK(p:Int×Int×Int):D:=.tup [.int p.1,.int p.2.1,.int p.2.2]
noncomputable def dW(l:List (Str×Int)):D:=.lst (l.map uo)
noncomputable def dB(l:List (Int×Str)):D:=.lst (l.map pM)
noncomputable def dK(l:List (Int×Int×Int)):D:=.lst (l.map tK)
structure fc where
 top:List (Option Str)
 eN:List (Option Str)
 left:List Str
 right:List Str
 wide:List (Str×Int)
 fm:List (Int×Str)
 keeps:List (Int×Int×Int)
noncomputable def fc.parts(c:fc):List D:=[dP c.top,dP c.eN,dS c.left,dS c.right,dW c.wide,dB c.fm,dK c.keeps]
noncomputable def fc.obj(c:fc):D:=.obj "Channel" [("top",dP c.top),("bottom",dP c.eN),("left",dS c.left),("right",dS c.right),("wide",dW c.wide),("bends",dB c.fm),("keeps",dK c.keeps)]
theorem t5(n:Nat)(o:Option Str):fQ n (dO o)=True:=by
 cases o with
 | none=>exact Jq n
 | some s=>exact yD n s
theorem wZ(a b:Option Str):fS (dO a) (dO b)=decide (a=b):=by
 cases a<;>cases b<;>simp only[dO,fS,yC,aN,reduceCtorEq,bR,bp]
theorem uL(a:Option Str)(b:Str):fS (dO a) (.str b)=decide (a=some b):=wZ a (some b)
theorem Ax(a:Str)(b:Option Str):fS (.str a) (dO b)=decide (some a=b):=wZ (some a) b
theorem yr(w:Str)(l:List Str):inD (.str w) (l.map .str)=decide (w∈l):=by
 unfold inD;rw[List.any_map];induction l with
 | nil=>rfl
 | cons a r ih=>
  rw[dh,ih,eE,Jp];by_cases h:a=w
  ·subst h;simp
  ·simp[h,Ne.symm h]
theorem Ec(w:Str)(l:List (Option Str)):inD (.str w) (l.map dO)=decide (some w∈l):=by
 unfold inD;rw[List.any_map];induction l with
 | nil=>rfl
 | cons a r ih=>
  rw[dh,ih,eE,uL];by_cases h:a=some w
  ·subst h;simp
  ·simp[h,Ne.symm h]
theorem uH(n:Nat)(l:List Str):∀e∈l.map D.str,fQ n e:=by
 intro e he;rw[aK] at he;obtain⟨x,_,rfl⟩:=he;rw[yD];trivial
theorem CQ(n:Nat)(l:List (Option Str)):∀e∈l.map dO,fQ n e:=by
 intro e he;rw[aK] at he;obtain⟨x,_,rfl⟩:=he;rw[t5];trivial
def jb(ws:List Str)(l:List (Option Str)):Prop:=∀w,some w∈l->w∈ws
theorem Fj{α:Type}{wi:mO}{g:kh}{tb:TX}{D:DE}{ρ:Ev}(L:List α)(φ:α->L2.D)(hw:∀Q':List L2.D->Prop,Q' (qj (L.map φ))->wi ρ Q')(Iv:Nat->Ev->Prop)(h0:Iv 0 ρ)
  (turn:∀(i:Nat) x ρ',L[i]?=some x->Iv i ρ'->g (.tup [.int i,φ x]) ρ' fun gm=>tb { D with nx:=Iv (i+1),ct:=Iv (i+1),bk:=D.nx } gm) (fin:∀ρ',Iv L.length ρ'->D.nx ρ'):kj wi g tb D ρ:=by
 refine JZ (qj (L.map φ)) hw Iv h0 (fun i d ρ' hd iv=>?_) (fun ρ' iv=>fin ρ' (by simpa[qj] using iv));unfold qj at hd;rw[List.getElem?_mapIdx,aI] at hd;cases hx:L[i]? with
 | none=>rw[hx] at hd;cases hd
 | some x=>rw[hx] at hd;cases hd;exact turn i x ρ' hx iv
theorem KC:∀{a b c:List Nat},Spec.ltCps a b=true->Spec.ltCps b c=true->Spec.ltCps a c=true
 | [],[],c,h,_=>by simp[Spec.ltCps] at h
 | [],b::bs,[],_,h=>by simp[Spec.ltCps] at h
 | [],b::bs,c::cs,_,_=>by simp[Spec.ltCps]
 | a::as,[],c,h,_=>by simp[Spec.ltCps] at h
 | a::as,b::bs,[],_,h=>by simp[Spec.ltCps] at h
 | a::as,b::bs,c::cs,h,h'=>by
  simp only[Spec.ltCps,Bool.or_eq_true,bF,cg,dX] at h h' ⊢;rcases h with h | ⟨rfl,h⟩
  ·rcases h' with h' | ⟨rfl,h'⟩
   ·left;omega
   ·left;omega
  ·rcases h' with h' | ⟨rfl,h'⟩
   ·left;omega
   ·right;exact⟨rfl,KC h h'⟩
theorem Jo:∀{a b:List Nat},Spec.ltCps a b=false->Spec.ltCps b a=false->a=b
 | [],[],_,_=>rfl
 | [],b::bs,h,_=>by simp[Spec.ltCps] at h
 | a::as,[],_,h=>by simp[Spec.ltCps] at h
 | a::as,b::bs,h,h'=>by
  simp only[Spec.ltCps,Bool.or_eq_false_iff,aZ,Bool.and_eq_false_iff,c7] at h h';have e:a=b:=by omega
  subst e;rw[Jo (h.2.resolve_left fun z=>z rfl) (h'.2.resolve_left fun z=>z rfl)]
theorem EF:∀(a:List Nat),Spec.ltCps a a=false
 | []=>rfl
 | a::as=>by simp[Spec.ltCps,EF as]
def o5(a b:Str):Prop:=Spec.ltCps a.cps.toList b.cps.toList=true
theorem KA{a b c:Str}(h:o5 a b)(h':o5 b c):o5 a c:=KC h h'
theorem Rf{a b:Str}(h:a.cps.toList=b.cps.toList):a=b:=by rw[<-I0 a,<-I0 b,h]
theorem Kz:∀{p:Str} {l:List Str},risingS p l=true->(p::l).Nodup->(p::l).Pairwise o5
 | p,[],_,_=>by simp
 | p,x::r,h,nd=>by
  simp only[risingS,cg,bG] at h;have Gx:=nd;rw[bA] at nd;have ih:=Kz h.2 nd.2;have gP:p≠x:=fun z=>nd.1 (by simp[z])
  have Mr:o5 p x:=by
   unfold o5;cases e:Spec.ltCps p.cps.toList x.cps.toList with
   | true=>rfl
   | false=>exact absurd (Rf (Jo e h.1)) gP
  rw[dg];refine⟨fun b hb=>?_,ih⟩;rcases ar.mp hb with rfl | hb
  ·exact Mr
  ·exact KA Mr ((dg.mp ih).1 b hb)
theorem Ah{l:List Str}(h:sortedS l=true)(nd:l.Nodup):l.Pairwise o5:=by
 cases l with
 | nil=>exact .nil
 | cons x r=>exact Kz h nd
def Ef(g:kh)(tb:TX)(D:DE)(ρ:Ev)(ds:List L2.D):Prop:=∃Iv:Nat->Ev->Prop,Iv 0 ρ/\
 (∀i d ρ',ds[i]?=some d->Iv i ρ'->g d ρ' fun gm=>tb { D with nx:=Iv (i+1),ct:=Iv (i+1),bk:=D.nx } gm)/\∀ρ',Iv ds.length ρ'->D.nx ρ'
theorem Fb{wi:mO}{g:kh}{tb:TX}{D:DE}{ρ:Ev}(P:List L2.D->Prop)(hw:∀Q':List L2.D->Prop,(∀ds,P ds->Q' ds)->wi ρ Q')(h:∀ds,P ds->Ef g tb D ρ ds):kj wi g tb D ρ:=hw _ h
theorem Lc{α:Type}{g:kh}{tb:TX}{D:DE}{ρ:Ev}(L:List α)(φ:α->L2.D)(Iv:Nat->Ev->Prop)(h0:Iv 0 ρ)
  (turn:∀i x ρ',L[i]?=some x->Iv i ρ'->g (φ x) ρ' fun gm=>tb { D with nx:=Iv (i+1),ct:=Iv (i+1),bk:=D.nx } gm) (fin:∀ρ',Iv L.length ρ'->D.nx ρ'):Ef g tb D ρ (L.map φ):=by
 refine⟨Iv,h0,fun i d ρ' hd iv=>?_,fun ρ' iv=>fin ρ' (by simpa using iv)⟩;rw[aI] at hd;cases hx:L[i]? with
 | none=>rw[hx] at hd;cases hd
 | some x=>rw[hx] at hd;cases hd;exact turn i x ρ' hx iv
theorem T6{α:Type}{g:kh}{tb:TX}{D:DE}{ρ:Ev}(L:List α)(φ:α->L2.D)(Iv:Nat->Ev->Prop)(h0:Iv 0 ρ)
  (turn:∀(i:Nat) x ρ',L[i]?=some x->Iv i ρ'->g (.tup [.int i,φ x]) ρ' fun gm=>tb { D with nx:=Iv (i+1),ct:=Iv (i+1),bk:=D.nx } gm) (fin:∀ρ',Iv L.length ρ'->D.nx ρ'):Ef g tb D ρ (qj (L.map φ)):=by
 refine⟨Iv,h0,fun i d ρ' hd iv=>?_,fun ρ' iv=>fin ρ' (by simpa[qj] using iv)⟩;unfold qj at hd;rw[List.getElem?_mapIdx,aI] at hd;cases hx:L[i]? with
 | none=>rw[hx] at hd;cases hd
 | some x=>rw[hx] at hd;cases hd;exact turn i x ρ' hx iv
theorem SN(n:Nat)(p:Str×Int):fQ (n+1) (uo p):=by
 intro d hd;simp only[ar,aP,cv] at hd;rcases hd with rfl | rfl
 ·rw[yD];trivial
 ·rw[zX];trivial
theorem SM(n:Nat)(p:Int×Str):fQ (n+1) (pM p):=by
 intro d hd;simp only[ar,aP,cv] at hd;rcases hd with rfl | rfl
 ·rw[zX];trivial
 ·rw[yD];trivial
theorem Sx(n:Nat)(p:Int×Int×Int):fQ (n+1) (tK p):=by
 intro d hd;simp only[ar,aP,cv] at hd;rcases hd with rfl | rfl | rfl<;>(rw[zX];trivial)
theorem yB{n:Nat}{α:Type}(f:α->D)(l:List α)(h:∀x∈l,fQ n (f x)):fQ (n+1) (.lst (l.map f)):=by
 intro d hd;rw[aK] at hd;obtain⟨x,hx,rfl⟩:=hd;exact h x hx
theorem IY(n:Nat)(l:List (Option Str)):fQ (n+1) (dP l):=yB dO l fun x _=>by rw[t5];trivial
theorem IX(n:Nat)(l:List Str):fQ (n+1) (dS l):=yB D.str l fun x _=>by rw[yD];trivial
theorem SK(c:fc):fQ 3 (.lst c.parts):=by
 intro d hd;simp only[fc.parts,ar,aP,cv] at hd;rcases hd with rfl | rfl | rfl | rfl | rfl | rfl | rfl
 ·exact IY 1 _
 ·exact IY 1 _
 ·exact IX 1 _
 ·exact IX 1 _
 ·exact yB uo _ fun x _=>SN 0 x
 ·exact yB pM _ fun x _=>SM 0 x
 ·exact yB tK _ fun x _=>Sx 0 x
theorem IW(l:List D):uu (pI (.tup l)) "tuple"=true:=by show uu "tuple" "tuple"=true;decide
theorem O6(l:List D):uu (pI (.lst l)) "list"=true:=by show uu "list" "list"=true;decide
theorem Kk{α:Type}(l:List α)(φ:α->D):qj (l.map φ)=l.zipIdx.map fun p=>.tup [.int (p.2:Nat),φ p.1]:=by
 unfold qj;apply List.ext_getElem
 ·simp
 ·intro i h1 h2;simp
noncomputable def dN(n:Nat):D:=.int n
noncomputable def zj(ns:List Int):Int:=(ns.take 1).sum
theorem Sw{α:Type}(a:α)(r:List α):iu (a::r) 0=some a:=by
 unfold iu qD;rw[if_pos (by decide),if_pos (by simp only[aE];omega)];rfl
theorem zH(o:OV):(R.ov o).sl=.ov o:=rfl
theorem zN(o:OV):(R.ov o).val=o.val:=rfl
noncomputable def lN:Nat->Int->List Nat
 | 0,_=>[]
 | n+1,c=>(97+(c%26).toNat)::lN n (c/26)
theorem Kx(n:Nat)(c:Int):(lN n c).length=n:=by
 induction n generalizing c with
 | zero=>rfl
 | succ n ih=>simp[lN,ih]
theorem Kj(n:Nat)(c:Int):∀x∈lN n c,97<=x/\x<=122:=by
 induction n generalizing c with
 | zero=>intro x hx;cases hx
 | succ n ih=>
  intro x hx;rcases ar.mp hx with rfl | h
  ·have h0:=bB c (show(26:Int)≠0 by decide);have h1:=bw c (show(0:Int)<26 by decide);omega
  ·exact ih _ x h
noncomputable def DJ:Str:="abcdefghijklmnopqrstuvwxyz"
theorem O5:∀k:Fin 26,iu DJ.cps.toList (k.val:Int)=some (97+k.val):=by decide +kernel
theorem Rc(c:Int):iu DJ.cps.toList (c%26)=some (97+(c%26).toNat):=by
 have h0:=bB c (show(26:Int)≠0 by decide);have h1:=bw c (show(0:Int)<26 by decide);have:=O5 ⟨(c%26).toNat,by omega⟩;simp only at this;rwa [Int.toNat_of_nonneg h0] at this
def As:f6:=fun ds Q=>∃(c:Int) (n:Nat),ds=[.int c,.int n]/\n<=1000/\Q (.fz (.str (j5 (lN n c))))
def FN:TX:=(fg (gc 2 (dC (.str "abcdefghijklmnopqrstuvwxyz")))
 (fg (gc 3 (dC (.str "")))
 (fg (kj (nr (eT (eP 1) eY)) (fG 4) (fg (gc 3 (eV iq (eP 3) (eV fX (eP 2) (eV (oI (fun _ j=>0<j) fun i j=>.int (i%j)) (eP 0) (dC (.int 26))))))
 (gc 0 (eV (oI lT fun i j=>.int (i/j)) (eP 0) (dC (.int 26))))))
 (ip (eP 3)))))
theorem WD(ds:List D)(Qr:R->Prop)(hl:ds.length=2)(h:As ds Qr):FN { nx:=fun _=>Qr (.fz .non),rt:=Qr } (g5 ["_law_cell","_law_size","_law_signs","_law_stem_here","_law_k"] ds):=by
 obtain⟨c,n,rfl,hn,q⟩:=h;show FN _ [.fz (.int c),.fz (.int n),.un,.un,.un];unfold FN;walk_at "all";refine vR n (fun Q' h=>?_) (fun i ρ=>∃(c':Int) (acc:List Nat) (k:Sl),ρ=[.fz (.int c'),.fz (.int n),.fz (.str DJ),.fz (.str (j5 acc)),k]/\acc.length=i/\acc++lN (n-i) c'=lN n c) ⟨_,[],_,rfl,rfl,rfl⟩ ?_ ?_
 ·walk_at "all";exact⟨by omega,by omega,by simpa using h⟩
 ·rintro i ρ hi ⟨c',acc,k,rfl,MS,he⟩;walk_at "all";refine⟨by decide,_,Rc c',?_,_,acc++[97+(c'%26).toNat],_,by rw[v8,xa],by simp[MS],?_⟩
  ·rw[oR,v8,oR,j7];simp;omega
  ·rw[<-he,show n-i=(n-(i+1))+1 by omega,lN];simp
 ·rintro ρ ⟨c',acc,k,rfl,MS,he⟩;walk_at "all";rw[Nat.sub_self] at he;simp only[lN,bz] at he;rw[he];exact q
noncomputable def yx(c:Int):List (List Nat):=
 if c/64%3=0 then [104,103,102,101,100,99,98,97].map fun s=>(lN 6 (c/512)).take (c/8%(c%6+1)).toNat++[s]++((lN 6 (c/512)).drop (c/8%(c%6+1)).toNat).take ((c%6).toNat-(c/8%(c%6+1)).toNat)
 else if c/64%3=1 then(List.range 8).map fun k=>(lN 6 (c/512)).take (c%6%4).toNat++[if k/4=0 then 109 else 116]++[if k/2%2=0 then 110 else 117]++[if k%2=0 then 111 else 118]
 else(List.range 6).map (fun k=>(lN 6 (c/512)).take (k+1))++[([if (lN 6 (c/512)).headD 0=97 then 98 else 97]++(lN 6 (c/512)).drop 1).take 1,([if (lN 6 (c/512)).headD 0=97 then 98 else 97]++(lN 6 (c/512)).drop 1).take 3]
noncomputable def Ee(i:Int):Int:=(i%1000000000000000000000000+5)*7046029254386353131%1000000000000000000000007
noncomputable def t4(i:Int):List Str:=(yx (Ee i)).map j5
structure Words (ws:List Str):Prop where
 len:ws.length=8
 sz:∀w∈ws,1<=w.length/\w.length<=6
 DJ:∀w∈ws,∀x∈w.cps.toList,97<=x/\x<=122
 nd:ws.Nodup
theorem IA(x:Int):∃a b c d e f:Nat,lN 6 x=[a,b,c,d,e,f]/\(97<=a/\a<=122)/\(97<=b/\b<=122)/\(97<=c/\c<=122)/\(97<=d/\d<=122)/\(97<=e/\e<=122)/\(97<=f/\f<=122):=by
 have h:=Kj 6 x;simp only[lN,ar,aP,cv,forall_eq_or_imp,forall_eq] at h;exact⟨_,_,_,_,_,_,by simp only[lN],h.1,h.2.1,h.2.2.1,h.2.2.2.1,h.2.2.2.2.1,h.2.2.2.2.2⟩
theorem Sv{l:List (List Nat)}(h:l.Nodup):(l.map j5).Nodup:=by
 unfold List.Nodup at *;rw[c6];exact h.imp fun nN e=>nN (uR.mp e)
theorem SJ(c:Int):(yx c).length=8/\(∀w∈yx c,(1<=w.length/\w.length<=6)/\∀x∈w,97<=x/\x<=122)/\(yx c).Nodup:=by
 have jv:=Kj 6 (c/512);have G9:=Kx 6 (c/512);have s0:0<=c%6:=bB _ (by decide);have s1:c%6<6:=bw _ (by decide);unfold yx;by_cases h0:c/64%3=0
 ·rw[if_pos h0];have t0:0<=c/8%(c%6+1):=bB _ (by omega);have t1:c/8%(c%6+1)<c%6+1:=bw _ (by omega);generalize c/8%(c%6+1)=at' at *;generalize lN 6 (c/512)=st at *;refine⟨rfl,fun w hw=>?_,?_⟩
  ·rw[aK] at hw;obtain⟨s,hs,rfl⟩:=hw;have uW:97<=s/\s<=122:=by
    simp only[ar,aP,cv] at hs;omega
   refine⟨?_,fun x hx=>?_⟩
   ·simp only[au,aM,bC,aE,cx,G9];omega
   ·simp only[ay,aX] at hx;rcases hx with(hx | rfl) | hx
    ·exact jv x (cw hx)
    ·exact uW
    ·exact jv x (cS (cw hx))
  ·simp[bO]
 ·rw[if_neg h0];by_cases h1:c/64%3=1
  ·rw[if_pos h1];have u0:0<=c%6%4:=bB _ (by decide);have u1:c%6%4<4:=bw _ (by decide);generalize c%6%4=m at *;generalize lN 6 (c/512)=st at *;refine⟨by simp,fun w hw=>?_,?_⟩
   ·rw[aK] at hw;obtain⟨s,hs,rfl⟩:=hw;refine⟨?_,fun x hx=>?_⟩
    ·simp only[au,aM,bC,aE,cx,G9];omega
    ·simp only[ay,aX] at hx;rcases hx with((hx | rfl) | rfl) | rfl
     ·exact jv x (cw hx)
     ·split<;>omega
     ·split<;>omega
     ·split<;>omega
   ·simp[List.range,List.range.loop,bO]
  ·rw[if_neg h1];obtain⟨a,b,c',d,e,f,hs,ha,hb,hc,hd,he,hf⟩:=IA (c/512);rw[hs];have ho:97<=(if a=97 then 98 else 97)/\(if a=97 then 98 else 97)<=122/\(if a=97 then 98 else 97)≠a:=by split<;>omega
   generalize (if a=97 then 98 else 97)=o at ho;refine⟨by simp,?_,?_⟩
   ·intro w hw;simp[List.range,List.range.loop] at hw;rcases hw with rfl | rfl | rfl | rfl | rfl | rfl | rfl | rfl<;>(refine⟨by simp,fun x hx=>?_⟩)<;>simp at hx<;>(try split at hx)<;>omega
   ·have:¬a=o:=fun z=>ho.2.2 z.symm
    simp[List.range,List.range.loop];split<;>omega
theorem Kw(i:Int):Words (t4 i):=by
 obtain⟨h1,h2,h3⟩:=SJ (Ee i);refine⟨by simp[t4,h1],fun w hw=>?_,fun w hw=>?_,Sv h3⟩
 ·unfold t4 at hw;rw[aK] at hw;obtain⟨l,hl,rfl⟩:=hw;rw[oR];exact(h2 l hl).1
 ·unfold t4 at hw;rw[aK] at hw;obtain⟨l,hl,rfl⟩:=hw;rw[zZ];exact(h2 l hl).2
def AK:f6:=fun ds Q=>∃i:Int,ds=[.int i]/\Q (.ow ((t4 i).map .str))
def FJ:TX:=(fg (gc 0 (eV (oI (fun _ j=>0<j) fun i j=>.int (i%j)) (eV (oI lB fun i j=>.int (i*j)) (eV iq (eV (oI (fun _ j=>0<j) fun i j=>.int (i%j)) (eP 0) (eV (oI tX fun i j=>.int (i ^ j.toNat)) (dC (.int 10)) (dC (.int 24)))) (dC (.int 5))) (dC (.int 7046029254386353131))) (eV iq (eV (oI tX fun i j=>.int (i ^ j.toNat)) (dC (.int 10)) (dC (.int 24))) (dC (.int 7)))))
 (fg (gc 1 (eV (oI (fun _ j=>0<j) fun i j=>.int (i%j)) (eP 0) (dC (.int 6))))
 (fg (gc 2 (gF 2 As (eT (eV (oI lT fun i j=>.int (i/j)) (eP 0) (dC (.int 512))) (eT (dC (.int 6)) eY))))
 (fg (gc 3 (eV (oI (fun _ j=>0<j) fun i j=>.int (i%j)) (eV (oI lT fun i j=>.int (i/j)) (eP 0) (dC (.int 8))) (eV iq (eP 1) (dC (.int 1)))))
 (fg (iE (fP (eV oEq (eV (oI (fun _ j=>0<j) fun i j=>.int (i%j)) (eV (oI lT fun i j=>.int (i/j)) (eP 0) (dC (.int 64))) (dC (.int 3))) (dC (.int 0)))) (ip (iI (i4 (dC (.str "hgfedcba"))) [none,some 2,some 3,some 1] (fG 0) lD (eV iq (eV iq (nS (eP 1) pL (mQ (eP 2))) (eP 0)) (nS (eP 1) (mQ (eP 2)) (mQ (eP 3)))))) iH)
 (fg (iE (fP (eV oEq (eV (oI (fun _ j=>0<j) fun i j=>.int (i%j)) (eV (oI lT fun i j=>.int (i/j)) (eP 0) (dC (.int 64))) (dC (.int 3))) (dC (.int 1)))) (ip (iI (nr (eT (dC (.int 8)) eY)) [none,some 2,some 1] (fG 0) lD (eV iq (eV iq (eV iq (nS (eP 1) pL (mQ (eV (oI (fun _ j=>0<j) fun i j=>.int (i%j)) (eP 2) (dC (.int 4))))) (eV fX (dC (.str "mt")) (eV (oI lT fun i j=>.int (i/j)) (eP 0) (dC (.int 4))))) (eV fX (dC (.str "nu")) (eV (oI (fun _ j=>0<j) fun i j=>.int (i%j)) (eV (oI lT fun i j=>.int (i/j)) (eP 0) (dC (.int 2))) (dC (.int 2))))) (eV fX (dC (.str "ov")) (eV (oI (fun _ j=>0<j) fun i j=>.int (i%j)) (eP 0) (dC (.int 2))))))) iH)
 (fg (gc 4 (eV iq (eV fX (dC (.str "ab")) (gV B7 (eT (eV oEq (eV fX (eP 2) (dC (.int 0))) (dC (.str "a"))) eY))) (nS (eP 2) (mQ (dC (.int 1))) pL)))
 (ip (eV iq (iI (nr (eT (dC (.int 6)) eY)) [none,some 2] (fG 0) lD (nS (eP 1) pL (mQ (eV iq (eP 0) (dC (.int 1)))))) (i5 (eT (nS (eP 4) pL (mQ (dC (.int 1)))) (eT (nS (eP 4) pL (mQ (dC (.int 3)))) eY))))))))))))
theorem O4:(Str.ofString "hgfedcba").cps.toList=[104,103,102,101,100,99,98,97]:=by decide +kernel
theorem N9(k:Nat)(h:k<8):iu (Str.ofString "mt").cps.toList ((k:Int)/4)=some (if k/4=0 then 109 else 116):=by
 have:∀k:Fin 8,iu (Str.ofString "mt").cps.toList ((k.val:Int)/4)=some (if k.val/4=0 then 109 else 116):=by decide +kernel
 exact this ⟨k,h⟩
theorem N8(k:Nat)(h:k<8):iu (Str.ofString "nu").cps.toList ((k:Int)/2%2)=some (if k/2%2=0 then 110 else 117):=by
 have:∀k:Fin 8,iu (Str.ofString "nu").cps.toList ((k.val:Int)/2%2)=some (if k.val/2%2=0 then 110 else 117):=by decide +kernel
 exact this ⟨k,h⟩
theorem N7(k:Nat)(h:k<8):iu (Str.ofString "ov").cps.toList ((k:Int)%2)=some (if k%2=0 then 111 else 118):=by
 have:∀k:Fin 8,iu (Str.ofString "ov").cps.toList ((k.val:Int)%2)=some (if k.val%2=0 then 111 else 118):=by decide +kernel
 exact this ⟨k,h⟩
theorem V6(ds:List D)(Qr:R->Prop)(hl:ds.length=1)(h:AK ds Qr):FJ { nx:=fun _=>Qr (.fz .non),rt:=Qr } (g5 ["_law_cell","_law_size","_law_stem_here","_law_at","_law_other"] ds):=by
 obtain⟨i,rfl,q⟩:=h;show FJ _ [.fz (.int i),.un,.un,.un,.un];unfold FJ;walk_at "all";unfold t4 yx Ee at q;generalize (i%1000000000000000000000000+5)*7046029254386353131%1000000000000000000000007=c at q ⊢;have s0:0<=c%6:=bB _ (by decide);have s1:c%6<6:=bw _ (by decide);refine⟨c/512,6,rfl,by decide,by omega,?_⟩;have t0:0<=c/8%(c%6+1):=bB _ (by omega);have t1:c/8%(c%6+1)<c%6+1:=bw _ (by omega);have G9:=Kx 6 (c/512);have big:=j7;by_cases h0:c/64%3=0
 ·rw[if_pos h0] at q;rw[if_pos h0];refine pG [104,103,102,101,100,99,98,97] (fun c=>.str ⟨#[c]⟩) (fun s=>.str (j5 ((lN 6 (c/512)).take (c/8%(c%6+1)).toNat++[s]++((lN 6 (c/512)).drop (c/8%(c%6+1)).toNat).take ((c%6).toNat-(c/8%(c%6+1)).toNat)))) (fun Q' h=>?_) (by decide) (fun s hs K1 k=>?_) ?_
  ·walk_at "all";rw[O4];exact h
  ·walk_at "all";rw[zY _ t0,Sz _ t0 s0,v8,xa,xa];refine⟨by rw[oR];omega,?_,by rw[oR];omega,?_,k⟩
   ·simp only[oR,aM,aE,cx];omega
   ·simp only[oR,au,aM,bC,aE,cx];omega
  ·exact q
 ·rw[if_neg h0] at q;rw[if_neg h0];by_cases h1:c/64%3=1
  ·rw[if_pos h1] at q;rw[if_pos h1];have u0:0<=c%6%4:=bB _ (by decide);refine pG (List.range 8) (fun(i:Nat)=>.int (0+i)) (fun k=>.str (j5 ((lN 6 (c/512)).take (c%6%4).toNat++[if k/4=0 then 109 else 116]++[if k/2%2=0 then 110 else 117]++[if k%2=0 then 111 else 118]))) (fun Q' h=>?_) (by decide) (fun s hs K1 k=>?_) ?_
   ·walk_at "all";exact h
   ·have GR:s<8:=by simpa using hs
    rw[Int.zero_add];walk_at "all";rw[zY _ u0];refine⟨by rw[oR];omega,by decide,_,N9 s GR,?_,by decide,_,N8 s GR,?_,by decide,_,N7 s GR,?_,?_⟩
    ·simp only[oR,v8,aM,aE,cx];omega
    ·simp only[oR,v8,xa,au,aM,aE,cx];omega
    ·simp only[oR,v8,xa,au,aM,aE,cx];omega
    ·simp only[v8,xa];exact k
   ·rw[a9] at q;exact q
  ·rw[if_neg h1] at q;rw[if_neg h1];obtain⟨a,b,c',d,e,f,hs,ha,hb,hc,hd,he,hf⟩:=IA (c/512);rw[hs] at q ⊢;have mM:iu (j5 [a,b,c',d,e,f]).cps.toList 0=some a:=by rw[zZ];rfl
   refine⟨by rw[oR];simp;omega,a,mM,?_⟩;have ho:iu (Str.ofString "ab").cps.toList (if (⟨#[a]⟩:Str)=Str.ofString "a" then 1 else 0)=some (if a=97 then 98 else 97):=by
    by_cases HC:a=97
    ·subst HC;decide +kernel
    ·have:¬((⟨#[a]⟩:Str)=Str.ofString "a"):=by
      intro z;have z2:(⟨#[a]⟩:Str).cps.toList=(Str.ofString "a").cps.toList:=by rw[z]
      have z3:(Str.ofString "a").cps.toList=[97]:=by decide +kernel
      rw[z3] at z2;simp at z2;exact HC z2
     rw[if_neg this,if_neg HC];decide +kernel
   refine⟨by decide,_,ho,?_⟩;walk_at "all";rw[SO _ (by decide),v8,xa];refine⟨by rw[oR];simp;omega,by simp only[oR];simp;omega,?_⟩;refine pG (List.range 6) (fun(i:Nat)=>.int (0+i)) (fun k=>.str (j5 ([a,b,c',d,e,f].take (k+1)))) (fun Q' h=>?_) (by decide) (fun s hs K1 k=>?_) ?_
   ·walk_at "all";exact h
   ·walk_at "all";rw[zY _ (by omega),show(0+(s:Int)+1).toNat=s+1 by omega];exact⟨by rw[oR];simp;omega,k⟩
   ·walk_at "all";rw[zY _ (by decide),zY _ (by decide)];refine⟨by rw[oR];simp;omega,by rw[oR];simp;omega,by decide,by simp;omega,?_⟩;simp only[aT,a9,aA,cy] at q;exact q
def Ar:f6:=fun ds Q=>∃(ws:List Str) (cells:List Int) (fZ:Int) (W:Nat),ds=[dS ws,dI cells,.int fZ,.int W]/\ws.length=8/\W<=40/\
 ∀top eN:List (Option Str),top.length=W->eN.length=W->jb ws top->jb ws eN->Q (.fz (.tup [dP top,dP eN]))
def FY:TX:=(fg (kB 4 (i5 eY))
 (fg (kB 5 (i5 eY))
 (fg (kj (nr (eT (eP 3) eY)) (fG 6) (fg (kB 7 (i5 eY))
 (fg (kj (nr (eT (dC (.int 2)) eY)) (fG 8) (fg (gc 9 (eV iq (eV (oI lB fun i j=>.int (i*j)) (dC (.int 2)) (eP 6)) (eP 8)))
 (fg (gc 10 (gF 2 uc (eT (eP 2) (eT (eP 9) eY))))
 (fg (iE (fP (eV (jD fun i j=>.bl (decide (i<j))) (eP 9) (gV mP (eT (eP 1) eY)))) (gc 10 (gF 2 uc (eT (eV fX (eP 1) (eP 9)) (eT (eP 9) eY)))) iH)
 (lY 7 (eV fX (i5 (eT (eV fX (eP 0) (eV (oI (fun _ j=>0<j) fun i j=>.int (i%j)) (eP 10) (dC (.int 8)))) (eT (eV fX (eP 0) (eV (oI (fun _ j=>0<j) fun i j=>.int (i%j)) (eV (oI lT fun i j=>.int (i/j)) (eP 10) (dC (.int 8))) (dC (.int 3)))) (eT (eV fX (eP 0) (eV (oI (fun _ j=>0<j) fun i j=>.int (i%j)) (eV (oI lT fun i j=>.int (i/j)) (eP 10) (dC (.int 8))) (dC (.int 5)))) (eT (dC .non) eY))))) (eV (oI (fun _ j=>0<j) fun i j=>.int (i%j)) (eV (oI lT fun i j=>.int (i/j)) (eP 10) (dC (.int 64))) (dC (.int 4)))))))))
 (fg (lY 4 (qL 7 (dC (.int 0))))
 (lY 5 (qL 7 (dC (.int 1))))))))
 (tS 5 (tS 4 (ip (k7 (eT (eP 4) (eT (eP 5) eY)))))))))
theorem E9(ws:List Str):jb ws []:=fun w h=>by cases h
theorem Fi{ws:List Str}{l:List (Option Str)}{x:Option Str}(h:jb ws l)(hx:∀w,x=some w->w∈ws):jb ws (l++[x]):=fun w hw=>by
 rcases ay.mp hw with h1 | h1
 ·exact h w h1
 ·exact hx w (aX.mp h1).symm
theorem WC(ds:List D)(Qr:R->Prop)(hl:ds.length=4)(h:Ar ds Qr):FY { nx:=fun _=>Qr (.fz .non),rt:=Qr } (g5 ["_law_words","_law_cells","_law_seed","_law_width","_law_top","_law_bottom","_law_c","_law_row","_law_side","_law_k","_law_one"] ds):=by
 obtain⟨ws,cells,fZ,W,rfl,k6,hW,q⟩:=h;show FY _ [.fz (dS ws),.fz (dI cells),.fz (.int fZ),.fz (.int W),.un,.un,.un,.un,.un,.un,.un];unfold FY;have big:=j7;walk_at "px";refine⟨by omega,?_⟩;walk_at "go";refine⟨by omega,?_⟩;walk_at "go";refine vR W (fun Q' h=>?_) (fun i ρ=>∃(top eN:List (Option Str)) (a b c d e:Sl),ρ=[.fz (dS ws),.fz (dI cells),.fz (.int fZ),.fz (.int W),.ow (top.map dO),.ow (eN.map dO),a,b,c,d,e]/\top.length=i/\eN.length=i/\jb ws top/\jb ws eN) ⟨[],[],_,_,_,_,_,rfl,rfl,rfl,E9 _,E9 _⟩ ?_ ?_
 ·walk_at "px";exact⟨by omega,by omega,by simpa using h⟩
 ·rintro i ρ hi ⟨top,eN,a,b,c,d,e,rfl,ht,hb,pt,pb⟩;walk_at "px";refine⟨by omega,?_⟩;walk_at "go";refine vR 2 (fun Q' h=>?_) (fun j ρ=>∃(row:List (Option Str)) (c d e:Sl),ρ=[.fz (dS ws),.fz (dI cells),.fz (.int fZ),.fz (.int W),.ow (top.map dO),.ow (eN.map dO),.fz (.int i),.ow (row.map dO),c,d,e]/\row.length=j/\jb ws row) ⟨[],_,_,_,rfl,rfl,E9 _⟩ ?_ ?_
  ·walk_at "px";exact h
  ·rintro j ρ hj ⟨row,c,d,e,rfl,hr,pr⟩;walk_at "px";walk_at "go";have k0:(0:Int)<=2*(i:Int)+j:=by omega
   have k1:2*(i:Int)+j<=1000000:=by omega
   refine⟨fZ,_,rfl,k0,k1,?_⟩;walk_at "go";unfold dI;walk_at "px";split
   focus
    rename_i hc;rw[ae] at hc;obtain⟨z,hz,_⟩:=EH (l:=cells) k0 hc;refine⟨z,hz,z,_,rfl,k0,k1,?_⟩
   all_goals
    generalize wJ _ _=one;walk_at "go";unfold dS;walk_at "px";obtain⟨z1,h1,m1⟩:=Nc one k6;obtain⟨z2,h2,m2⟩:=Zr (one/8) k6;obtain⟨z3,h3,m3⟩:=Zq (one/8) k6;refine⟨z1,h1,z2,h2,z3,h3,by omega,?_⟩;have h4:=Cu (l:=[some z1,some z2,some z3,none]) (n:=4) (one/64) (by simp) (by decide);obtain⟨z,hz,mz⟩:=h4;refine⟨dO z,?_,by simp;omega,row++[z],_,_,_,by rw[aT];rfl,by simp[hr],Fi pr ?_⟩
    ·have:=et (Option.map dO) hz;rw[<-CO] at this;exact this
    ·intro w hw;subst hw;simp only[ar,aN,aP,cv,reduceCtorEq] at mz;rcases mz with rfl | rfl | rfl
     ·exact m1
     ·exact m2
     ·exact m3
  ·rintro ρ ⟨row,c,d,e,rfl,hr,pr⟩;obtain⟨x,y,rfl⟩:∃x y,row=[x,y]:=by
    match row,hr with
    | [x,y],_=>exact⟨x,y,rfl⟩
   walk_at "go";refine⟨dO x,rfl,by simp;omega,?_⟩;walk_at "go";refine⟨dO y,rfl,by simp;omega,top++[x],eN++[y],_,_,_,_,_,by rw[aT,aT];rfl,by simp[ht],by simp[hb],Fi pt fun w hw=>pr w (by simp[hw]),Fi pb fun w hw=>pr w (by simp[hw])⟩
 ·rintro ρ ⟨top,eN,a,b,c,d,e,rfl,ht,hb,pt,pb⟩;walk_at "go";exact⟨by omega,q top eN ht hb pt pb⟩
noncomputable def iT(top eN:List (Option Str))(left right:List Str)(w:Str):Nat:=top.count (some w)+eN.count (some w)+left.count w+right.count w
def yW:f6:=fun ds Q=>∃(top eN:List (Option Str)) (left right:List Str) (w:Str),ds=[dP top,dP eN,dS left,dS right,.str w]/\top.length+eN.length+left.length+right.length<=100000/\Q (.fz (.int (iT top eN left right w)))
def FX:TX:=(fg (gc 5 (eV iq (eV iq (eV iq (eP 0) (eP 1)) (eP 2)) (eP 3)))
 (ip (dM "list" Cq (eP 5) (eT (eP 4) eY))))
theorem IV(w:Str)(l:List (Option Str)):rG (.str w) (l.map dO)=l.count (some w):=by
 unfold rG;rw[List.countP_map,List.count];congr 1
 funext x
 simp only[eE,uL];rw[yC]
theorem IU(w:Str)(l:List Str):rG (.str w) (l.map D.str)=l.count w:=by
 unfold rG;rw[List.countP_map,List.count];congr 1
theorem E8(d:D)(a b:List D):rG d (a++b)=rG d a+rG d b:=by unfold rG;exact List.countP_append
theorem WB(ds:List D)(Qr:R->Prop)(hl:ds.length=5)(h:yW ds Qr):FX { nx:=fun _=>Qr (.fz .non),rt:=Qr } (g5 ["_law_top","_law_bottom","_law_left","_law_right","_law_word","_law_some"] ds):=by
 obtain⟨top,eN,left,right,w,rfl,hz,q⟩:=h;show FX _ [.fz (dP top),.fz (dP eN),.fz (dS left),.fz (dS right),.fz (.str w),.un];unfold FX;have big:=j7;unfold dP dS;walk_at "px";refine⟨by simp;omega,by simp;omega,by simp;omega,?_⟩;walk_at "go";refine⟨rfl,?_,?_⟩
 ·intro e he;simp only[ay] at he;rcases he with((he | he) | he) | he
  ·exact CQ 8 top e he
  ·exact CQ 8 eN e he
  ·exact uH 8 left e he
  ·exact uH 8 right e he
 ·rw[E8,E8,E8,IV,IV,IU,IU];exact q
theorem B4(l:List Int)(a:Int):l.map D.int++[D.int a]=(l++[a]).map D.int:=by simp
noncomputable def places(top eN:List (Option Str))(left right:List Str)(w:Str):List Int:=
 (((List.range top.length).filter fun c=>top[c]?==some (some w)||eN[c]?==some (some w)).map fun(c:Nat)=>(c:Int))++(if w∈left then [-1] else [])++(if w∈right then [(top.length:Int)] else [])
def wG(m:Int)(l:List Int):Prop:=m∈l/\∀a∈l,m<=a
def wH(m:Int)(l:List Int):Prop:=m∈l/\∀a∈l,a<=m
def AG:f6:=fun ds Q=>∃(top eN:List (Option Str)) (left right:List Str) (w:Str),ds=[dP top,dP eN,dS left,dS right,.str w]/\eN.length=top.length/\top.length<=100/\left.length<=100/\right.length<=100/\
 ∀m M,wG m (places top eN left right w++[99])->wH M (places top eN left right w++[-9])->Q (.fz (.tup [.int m,.int M]))
def F6:TX:=(fg (kB 5 (iI (nr (eT (gV mP (eT (eP 0) eY)) eY)) [none,some 4,some 0,some 1] (fG 0) (fP (eV (lZ false) (eP 1) (i5 (eT (eV fX (eP 2) (eP 0)) (eT (eV fX (eP 3) (eP 0)) eY))))) (eP 0)))
 (fg (iE (fP (eV (lZ false) (eP 4) (eP 2))) (lY 5 (zA (dC (.int 1)))) iH)
 (fg (iE (fP (eV (lZ false) (eP 4) (eP 3))) (lY 5 (gV mP (eT (eP 0) eY))) iH)
 (tS 5 (ip (k7 (eT (gV vm (eT (eV iq (eP 5) (i5 (eT (dC (.int 99)) eY))) eY)) (eT (gV vk (eT (eV iq (eP 5) (i5 (eT (zA (dC (.int 9))) eY))) eY)) eY))))))))
theorem Xd(ds:List D)(Qr:R->Prop)(hl:ds.length=5)(h:AG ds Qr):F6 { nx:=fun _=>Qr (.fz .non),rt:=Qr } (g5 ["_law_top","_law_bottom","_law_left","_law_right","_law_word","_law_places"] ds):=by
 obtain⟨top,eN,left,right,w,rfl,hb,ht,Hb,hr,q⟩:=h;show F6 _ [.fz (dP top),.fz (dP eN),.fz (dS left),.fz (dS right),.fz (.str w),.un];unfold F6;have big:=j7;unfold dP dS;walk_at "px";refine rP (List.range top.length) (fun(i:Nat)=>.int (0+i)) (fun(i:Nat)=>.int i) (fun c=>top[c]?==some (some w)||eN[c]?==some (some w)) (fun Q' h=>?_) (by simp;omega) (fun c hc K1 K0 k1 k0=>?_) ?_
 ·walk_at "px";rw[ae];exact⟨by omega,by omega,by simpa using h⟩
 ·have tD:c<top.length:=by simpa using hc
  rw[Int.zero_add];walk_at "px";refine⟨_,nu tD,_,nu (l:=eN) (by omega),by omega,?_,?_⟩
  ·intro e he;simp only[ar,aP,cv] at he;rcases he with rfl | rfl<;>(rw[t5];trivial)
  ·have e1:inD (.str w) [dO top[c],dO eN[c]]=(top[c]?==some (some w)||eN[c]?==some (some w)):=by
    unfold inD;simp only[dh,List.any_nil,Bool.or_false,uL];rw[ai tD,ai (l:=eN) (by omega),yC,yC];simp
   rw[e1];cases hb:(top[c]?==some (some w)||eN[c]?==some (some w)) with
   | true=>exact k1 hb
   | false=>exact k0 hb
 ·have e:∀L:List Nat,(L.map fun(i:Nat)=>D.int i)=(L.map (fun(c:Nat)=>(c:Int))).map D.int:=fun L=>by simp
  rw[e];have hlen:(((List.range top.length).filter fun c=>top[c]?==some (some w)||eN[c]?==some (some w)).map fun(c:Nat)=>(c:Int)).length<=100:=by
   rw[ae];refine aH (aY _ _) ?_;simp;omega
  unfold places at q;generalize (((List.range top.length).filter fun c=>top[c]?==some (some w)||eN[c]?==some (some w)).map fun(c:Nat)=>(c:Int))=base at q hlen ⊢;walk_at "go";refine⟨uH 8 left,?_⟩;rw[yr];by_cases h1:w∈left<;>by_cases h2:w∈right
  all_goals
   simp only[h1,h2,aR,aJ,bz] at q;simp only[h1,bR,bp,aR,af,aJ];try(refine⟨by simp;omega,?_⟩)
   walk_at "go";refine⟨uH 8 right,?_⟩;rw[yr];simp only[h2,bR,bp,aR,af,aJ];try(refine⟨by simp;omega,?_⟩)
   try simp only[B4,ae]
   walk_at "go";refine⟨by omega,by simp;omega,?_⟩;try simp only[B4,vm,vk,xm]
   refine⟨by simp,fun m u7 oE=>?_⟩;refine⟨by omega,by simp;omega,?_⟩;try simp only[B4,xm]
   refine⟨by simp,fun M HA Hz=>?_⟩;exact⟨by omega,q m M ⟨by simpa using u7,by simpa using oE⟩ ⟨by simpa using HA,by simpa using Hz⟩⟩
structure jQ (top eN:List (Option Str)) (left right ws:List Str) (fm:List (Int×Str)):Prop where
 len:fm.length<=top.length
 up:fm.Pairwise fun a b=>a.1<b.1
 at_:∀p∈fm,∃n:Nat,p.1=n/\n<top.length/\p.2∈ws/\(∃m M,wG m (places top eN left right p.2++[99])/\wH M (places top eN left right p.2++[-9])/\m<p.1/\p.1<M)/\((top[n]?=some none/\eN[n]?=some none)\/top[n]?=some (some p.2)\/eN[n]?=some (some p.2))
def AJ:f6:=fun ds Q=>∃(top eN:List (Option Str)) (left right ws:List Str) (cells:List Int) (fZ:Int),ds=[.lst [dP top,dP eN,dS left,dS right],dS ws,dI cells,.int fZ]/\eN.length=top.length/\top.length<=40/\left.length<=100/\right.length<=100/\ws.length=8/\jb ws top/\cells.length<=1000/\
 ∀fm,jQ top eN left right ws fm->Q (.ow (fm.map pM))
def FI:TX:=(fg (zB (eP 0) (B6 4 (gE (fG 4) (gE (fG 5) (gE (fG 6) (gE (fG 7) jR))))))
 (fg (kB 8 (i5 eY))
 (fg (kj (nr (eT (gV mP (eT (eP 4) eY)) eY)) (fG 9) (fg (gc 10 (gF 2 uc (eT (eV fX (eV iq (eP 2) (i5 (eT (eP 3) eY))) (eV (oI (fun _ j=>0<j) fun i j=>.int (i%j)) (eP 9) (eV iq (gV mP (eT (eP 2) eY)) (dC (.int 1))))) (eT (eV iq (eP 9) (dC (.int 200))) eY))))
 (fg (gc 11 (eV fX (eP 1) (eV (oI (fun _ j=>0<j) fun i j=>.int (i%j)) (eP 10) (dC (.int 8)))))
 (fg (iE (tT (fP (eV oEq (eV (oI (fun _ j=>0<j) fun i j=>.int (i%j)) (eV (oI lT fun i j=>.int (i/j)) (eP 10) (dC (.int 8))) (dC (.int 3))) (dC (.int 0)))) (fP (eV (oM true) (eV fX (eP 4) (eP 9)) (dC .non)))) (gc 11 (eV fX (eP 4) (eP 9))) iH)
 (fg (zB (gF 5 AG (eT (eP 4) (eT (eP 5) (eT (eP 6) (eT (eP 7) (eT (eP 11) eY)))))) (kA 2 (gE (fG 12) (gE (fG 13) jR))))
 (fg (gc 14 (iI (i4 (i5 (eT (eV fX (eP 4) (eP 9)) (eT (eV fX (eP 5) (eP 9)) eY)))) [none] (fG 0) (fP (eV (oM true) (eP 0) (dC .non))) (eP 0)))
 (iE (tT (fP (eV (jD fun i j=>.bl (decide (i<j))) (eP 12) (eP 9))) (tT (fP (eV (jD fun i j=>.bl (decide (i<j))) (eP 9) (eP 13))) (tT (yc (fP (eV oEq (eP 14) (i5 eY))) (fP (eV (lZ false) (eP 11) (eP 14)))) (fP (eV (jD fun i j=>.bl (decide (j<i))) (eV (oI (fun _ j=>0<j) fun i j=>.int (i%j)) (eV (oI lT fun i j=>.int (i/j)) (eP 10) (dC (.int 24))) (dC (.int 3))) (dC (.int 0))))))) (lY 8 (k7 (eT (eP 9) (eT (eP 11) eY)))) iH)))))))
 (pD 8))))
theorem Su(l:List D):oo l []=l.isEmpty:=by cases l<;>simp[oo]
theorem V5(ds:List D)(Qr:R->Prop)(hl:ds.length=4)(h:AJ ds Qr):FI { nx:=fun _=>Qr (.fz .non),rt:=Qr } (g5 ["_law_lists","_law_words","_law_cells","_law_seed","_law_top","_law_bottom","_law_left","_law_right","_law_bends_here","_law_c","_law_one","_law_word","_law_l","_law_r","_law_here"] ds):=by
 obtain⟨top,eN,left,right,ws,cells,fZ,rfl,hb,ht,Hb,hr,k6,pt,tw,q⟩:=h;show FI _ [.fz (.lst [dP top,dP eN,dS left,dS right]),.fz (dS ws),.fz (dI cells),.fz (.int fZ),.un,.un,.un,.un,.un,.un,.un,.un,.un,.un,.un];unfold FI;have big:=j7;walk_at "px";walk_at "go";refine⟨by omega,?_⟩;walk_at "go";refine vR top.length (fun Q' h=>?_) (fun i ρ=>∃(fm:List (Int×Str)) (a b c d e f:Sl),ρ=[.fz (.lst [dP top,dP eN,dS left,dS right]),.fz (dS ws),.fz (dI cells),.fz (.int fZ),.fz (dP top),.fz (dP eN),.fz (dS left),.fz (dS right),.ow (fm.map pM),a,b,c,d,e,f]/\jQ top eN left right ws fm/\(∀p∈fm,p.1<i)/\fm.length<=i) ⟨[],_,_,_,_,_,_,rfl,⟨by simp,by simp,by simp⟩,by simp,by simp⟩ ?_ ?_
 ·unfold dP;walk_at "px";rw[ae];exact⟨by omega,by omega,by simpa using h⟩
 ·rintro i ρ hi ⟨fm,a,b,c,d,e,f,rfl,bo,lt,ln⟩;unfold dI;walk_at "px";rw[ae];refine⟨by omega,by omega,by omega,?_⟩;have m0:0<=(i:Int)%((cells.length:Int)+1):=bB _ (by omega);have m1:(i:Int)%((cells.length:Int)+1)<(cells.length:Int)+1:=bw _ (by omega);rw[B4];obtain⟨z,hz,_⟩:=EH (l:=cells++[fZ]) m0 (by simp;omega);rw[IZ];refine⟨z,hz,z,_,rfl,by omega,by omega,?_⟩;generalize wJ _ _=one;unfold dS;walk_at "go";obtain⟨z1,h1,L7⟩:=Nc one k6;refine⟨z1,h1,?_⟩;unfold dP;walk_at "go";have mM:top[i]?=some top[i]:=ai hi;have nN:eN[i]?=some eN[i]:=ai (by omega);have key:∃w:Str,w∈ws/\∀K:D->Prop,K (.str w)->(if one/8%3=0 then ∃x,iu top (i:Int)=some x/\(if (!wQ (dO x))=true then ∃x,iu top (i:Int)=some x/\K (dO x) else K (.str z1)) else K (.str z1)):=by
   by_cases hc:one/8%3=0
   ·cases hx:top[i] with
    | none=>exact⟨z1,L7,fun K k=>by rw[if_pos hc];exact⟨none,by rw[nu hi,hx],by simpa[dO,wQ] using k⟩⟩
    | some w=>
     refine⟨w,pt w (by rw[<-hx];exact cC hi),fun K k=>?_⟩;rw[if_pos hc];exact⟨some w,by rw[nu hi,hx],by simp only[dO,wQ,dZ,aR];exact⟨some w,by rw[nu hi,hx],k⟩⟩
   ·exact⟨z1,L7,fun K k=>by rw[if_neg hc];exact k⟩
  obtain⟨w,hw,kw⟩:=key;refine kw (fun d=>qh _ _ [_,_,_,_,_,_,_,_,_,_,_,.fz d,_,_,_]) ?_;walk_at "go";refine⟨top,eN,left,right,w,rfl,hb,by omega,Hb,hr,fun m M hm hM=>?_⟩;walk_at "go";refine rP [top[i],eN[i]] dO dO (fun x=>x.isSome) (fun Q' h=>?_) (by simp;omega) (fun c hc K1 K0 k1 k0=>?_) ?_
  ·walk_at "px";exact⟨_,nu hi,_,nu (l:=eN) (by omega),by omega,h⟩
  ·walk_at "px";cases c with
   | none=>exact k0 rfl
   | some x=>exact k1 rfl
  ·walk_at "go";have skip:∀(a b c d e f:Sl) (X Y Z:D),∃(ja:List (Int×Str)) (a' b' c' d' e' f':Sl),[Sl.fz (D.lst [D.lst (List.map dO top),D.lst (List.map dO eN),D.lst (List.map D.str left),D.lst (List.map D.str right)]),Sl.fz (D.lst (List.map D.str ws)),Sl.fz (D.lst (List.map D.int cells)),Sl.fz (D.int fZ),Sl.fz (D.lst (List.map dO top)),Sl.fz (D.lst (List.map dO eN)),Sl.fz (D.lst (List.map D.str left)),Sl.fz (D.lst (List.map D.str right)),Sl.ow (List.map pM fm),a,b,c,d,e,f]=[Sl.fz (D.lst [D.lst (List.map dO top),D.lst (List.map dO eN),D.lst (List.map D.str left),D.lst (List.map D.str right)]),Sl.fz (D.lst (List.map D.str ws)),Sl.fz (D.lst (List.map D.int cells)),Sl.fz (D.int fZ),Sl.fz (D.lst (List.map dO top)),Sl.fz (D.lst (List.map dO eN)),Sl.fz (D.lst (List.map D.str left)),Sl.fz (D.lst (List.map D.str right)),Sl.ow (List.map pM ja),a',b',c',d',e',f']/\jQ top eN left right ws ja/\(∀p∈ja,p.1<((i+1:Nat):Int))/\ja.length<=i+1:=
    fun a b c d e f _ _ _=>⟨fm,a,b,c,d,e,f,rfl,bo,fun p hp=>by have:=lt p hp;omega,by omega⟩
   have nK:some w∈[top[i],eN[i]].filter (fun x=>x.isSome)↔top[i]=some w\/eN[i]=some w:=by
    simp only[bI,ar,aP,cv,Option.isSome_some,and_true];constructor
    ·rintro(h | h)
     ·exact .inl h.symm
     ·exact .inr h.symm
    ·rintro(h | h)
     ·exact .inl h.symm
     ·exact .inr h.symm
   have BI:([top[i],eN[i]].filter (fun x=>x.isSome)=[])->top[i]=none/\eN[i]=none:=by
    intro h;rw[List.filter_eq_nil_iff] at h;exact⟨by simpa using h top[i] (by simp),by simpa using h eN[i] (by simp)⟩
   generalize [top[i],eN[i]].filter (fun x=>x.isSome)=here at nK BI ⊢;split
   ·rename_i c1;split
    ·rename_i c2;refine⟨by omega,fQ.mono (n:=1) (by omega) (by intro d hd;exact CQ 0 here d hd),fQ.mono (n:=1) (by omega) (by intro d hd;cases hd),?_⟩;have fin:(top[i]=none/\eN[i]=none)\/top[i]=some w\/eN[i]=some w->jQ top eN left right ws (fm++[((i:Int),w)]):=fun hp=>by
      refine⟨by simp;omega,?_,?_⟩
      ·rw[bM];refine⟨bo.up,by simp,fun a ha b hb=>?_⟩;have:b=((i:Int),w):=by simpa using hb
       subst this;exact lt a ha
      ·intro p GX;rcases ay.mp GX with h | h
       ·exact bo.at_ p h
       ·have:p=((i:Int),w):=by simpa using h
        subst this;refine⟨i,rfl,hi,hw,⟨m,M,hm,hM,c1,c2⟩,?_⟩;rw[mM,nN];simpa using hp
     have put:(top[i]=none/\eN[i]=none)\/top[i]=some w\/eN[i]=some w->2<=sizeLine/\(List.map pM fm).length<sizeLine/\∃(ja:List (Int×Str)) (a' b' c' d' e' f':Sl),[Sl.fz (D.lst [D.lst (List.map dO top),D.lst (List.map dO eN),D.lst (List.map D.str left),D.lst (List.map D.str right)]),Sl.fz (D.lst (List.map D.str ws)),Sl.fz (D.lst (List.map D.int cells)),Sl.fz (D.int fZ),Sl.fz (D.lst (List.map dO top)),Sl.fz (D.lst (List.map dO eN)),Sl.fz (D.lst (List.map D.str left)),Sl.fz (D.lst (List.map D.str right)),Sl.ow (List.map pM fm++[D.tup [D.int i,D.str w]]),Sl.fz (D.int i),Sl.fz (D.int one),Sl.fz (D.str w),Sl.fz (D.int m),Sl.fz (D.int M),Sl.fz (D.lst (here.map dO))]=[Sl.fz (D.lst [D.lst (List.map dO top),D.lst (List.map dO eN),D.lst (List.map D.str left),D.lst (List.map D.str right)]),Sl.fz (D.lst (List.map D.str ws)),Sl.fz (D.lst (List.map D.int cells)),Sl.fz (D.int fZ),Sl.fz (D.lst (List.map dO top)),Sl.fz (D.lst (List.map dO eN)),Sl.fz (D.lst (List.map D.str left)),Sl.fz (D.lst (List.map D.str right)),Sl.ow (List.map pM ja),a',b',c',d',e',f']/\jQ top eN left right ws ja/\(∀p∈ja,p.1<((i+1:Nat):Int))/\ja.length<=i+1:=fun hp=>by
      refine⟨by omega,by simp;omega,fm++[((i:Int),w)],_,_,_,_,_,_,by rw[aT];rfl,fin hp,?_,by simp;omega⟩;intro p GX;rcases ay.mp GX with h | h
      ·have:=lt p h;omega
      ·have:p=((i:Int),w):=by simpa using h
       subst this;show(i:Int)<_;omega
     by_cases ce:here=[]
     ·simp only[ce,cy,fS,oo,aR];split
      ·have:=put (.inl (BI ce));rw[ce] at this;exact this
      ·have:=skip (.fz (D.int i)) (.fz (D.int one)) (.fz (D.str w)) (.fz (D.int m)) (.fz (D.int M)) (.fz (D.lst [])) .non .non .non;exact this
     ·have e1:fS (D.lst (here.map dO)) (D.lst [])=false:=by
       simp only[fS,Su];cases here with
       | nil=>exact absurd rfl ce
       | cons=>rfl
      simp only[e1,af,aJ];refine⟨CQ 8 here,?_⟩;rw[Ec];simp only[bF];split
      ·rename_i oF;split
       ·exact put (.inr (nK.mp oF))
       ·exact skip _ _ _ _ _ _ .non .non .non
      ·exact skip _ _ _ _ _ _ .non .non .non
    ·exact skip _ _ _ _ _ _ .non .non .non
   ·exact skip _ _ _ _ _ _ .non .non .non
 ·rintro ρ ⟨fm,a,b,c,d,e,f,rfl,bo,lt,ln⟩;walk_at "go";exact q fm bo
def nY(W:Nat)(keeps:List (Int×Int×Int)):Prop:=keeps.length<=6/\∀p∈keeps,0<=p.1/\p.1<=p.2.1/\p.2.1<W/\1<=p.2.2/\p.2.2<=3
def AI:f6:=fun ds Q=>∃(W:Nat) (cells:List Int) (fZ:Int),ds=[.int W,dI cells,.int fZ]/\1<=W/\W<=40/\∀keeps,nY W keeps->Q (.ow (keeps.map tK))
def FH:TX:=(fg (kB 3 (i5 eY))
 (fg (kj (vq (eT (nS (eP 1) pL (mQ (dC (.int 6)))) eY)) (kA 2 (gE (fG 4) (gE (fG 5) jR))) (fg (gc 6 (gF 2 uc (eT (eV iq (eP 5) (eP 2)) (eT (eV iq (eP 4) (dC (.int 300))) eY))))
 (fg (gc 7 (eV (oI (fun _ j=>0<j) fun i j=>.int (i%j)) (eP 6) (eP 0)))
 (iE (fP (eV oEq (eV (oI (fun _ j=>0<j) fun i j=>.int (i%j)) (eV (oI lT fun i j=>.int (i/j)) (eP 6) (dC (.int 64))) (dC (.int 4))) (dC (.int 0)))) (lY 3 (k7 (eT (eP 7) (eT (eV iq (eP 7) (eV (oI (fun _ j=>0<j) fun i j=>.int (i%j)) (eV (oI lT fun i j=>.int (i/j)) (eP 6) (dC (.int 256))) (eV (jD fun i j=>.int (i-j)) (eP 0) (eP 7)))) (eT (eV iq (dC (.int 1)) (eV (oI (fun _ j=>0<j) fun i j=>.int (i%j)) (eV (oI lT fun i j=>.int (i/j)) (eP 6) (dC (.int 1024))) (dC (.int 3)))) eY))))) iH))))
 (pD 3)))
theorem V4(ds:List D)(Qr:R->Prop)(hl:ds.length=3)(h:AI ds Qr):FH { nx:=fun _=>Qr (.fz .non),rt:=Qr } (g5 ["_law_width","_law_cells","_law_seed","_law_keeps_here","_law_k","_law_cell","_law_one","_law_first"] ds):=by
 obtain⟨W,cells,fZ,rfl,hW,ZW,q⟩:=h;show FH _ [.fz (.int W),.fz (dI cells),.fz (.int fZ),.un,.un,.un,.un,.un];unfold FH dI;have big:=j7;walk_at "px";refine⟨by omega,?_⟩;walk_at "go";refine Fj (cells.take 6) D.int (fun Q' h=>?_) (fun i ρ=>∃(keeps:List (Int×Int×Int)) (a b c d:Sl),ρ=[.fz (.int W),.fz (D.lst (List.map D.int cells)),.fz (.int fZ),.ow (keeps.map tK),a,b,c,d]/\keeps.length<=i/\∀p∈keeps,0<=p.1/\p.1<=p.2.1/\p.2.1<W/\1<=p.2.2/\p.2.2<=3) ⟨[],_,_,_,_,rfl,by simp,by simp⟩ ?_ ?_
 ·walk_at "px";rw[EG _ (by decide)];exact h
 ·rintro i x ρ hx ⟨keeps,a,b,c,d,rfl,kl,ko⟩;have hi:i<6:=by
   have:=(ax.mp hx).1;simp at this;omega
  walk_at "px";refine⟨x+fZ,(i:Int)+300,rfl,by omega,by omega,?_⟩;have n0:=O7 (x+fZ) ((i:Int)+300);generalize wJ _ _=one at n0 ⊢;walk_at "go";have f0:0<=one%(W:Int):=bB _ (by omega);have f1:one%(W:Int)<W:=bw _ (by omega);refine⟨by omega,?_⟩;generalize one%(W:Int)=fst at f0 f1 ⊢;walk_at "go";have g0:0<=one/256%((W:Int)-fst):=bB _ (by omega);have g1:one/256%((W:Int)-fst)<(W:Int)-fst:=bw _ (by omega);have k0:0<=one/1024%3:=bB _ (by omega);have k1:one/1024%3<3:=bw _ (by omega);generalize one/256%((W:Int)-fst)=sp at g0 g1 ⊢;generalize one/1024%3=kk at k0 k1 ⊢;split
  ·refine⟨by omega,by omega,by simp;omega,keeps++[(fst,fst+sp,1+kk)],_,_,_,_,by rw[aT];rfl,by simp;omega,fun p hp=>?_⟩;rcases ay.mp hp with h | h
   ·exact ko p h
   ·have:p=(fst,fst+sp,1+kk):=by simpa using h
    subst this;refine⟨f0,?_,?_,?_,?_⟩<;>dsimp only<;>omega
  ·exact⟨keeps,_,_,_,_,rfl,by omega,ko⟩
 ·rintro ρ ⟨keeps,a,b,c,d,rfl,kl,ko⟩;walk_at "go";refine q keeps ⟨?_,ko⟩;rw[aM] at kl;omega
def yV:f6:=fun ds Q=>∃(ws:List Str) (bits:Int),ds=[dS ws,.int bits]/\ws.length=8/\ws.Nodup/\∀l:List Str,l.length<=8->l.Nodup->(∀w∈l,w∈ws)->sortedS l=true->Q (.ow (l.map .str))
def FW:TX:=(fg (iE (fP (eV oEq (eV (oI (fun _ j=>0<j) fun i j=>.int (i%j)) (eV (oI lT fun i j=>.int (i/j)) (eP 1) (dC (.int 256))) (dC (.int 2))) (dC (.int 0)))) (ip (i5 eY)) iH)
 (ip (gV xf (eT (iI (nr (eT (dC (.int 8)) eY)) [none,some 0,some 1] (fG 0) (fP (eV oEq (eV (oI (fun _ j=>0<j) fun i j=>.int (i%j)) (eV (oI lT fun i j=>.int (i/j)) (eP 2) (eV fX (i5 (eT (dC (.int 1)) (eT (dC (.int 2)) (eT (dC (.int 4)) (eT (dC (.int 8)) (eT (dC (.int 16)) (eT (dC (.int 32)) (eT (dC (.int 64)) (eT (dC (.int 128)) eY))))))))) (eP 0))) (dC (.int 2))) (dC (.int 1)))) (eV fX (eP 1) (eP 0))) eY))))
theorem Rb(k:Nat)(h:k<8):iu ([1,2,4,8,16,32,64,128]:List Int) (k:Int)=some ((2:Int) ^ k):=by
 have:∀k:Fin 8,iu ([1,2,4,8,16,32,64,128]:List Int) (k.val:Int)=some ((2:Int) ^ k.val):=by decide +kernel
 exact this ⟨k,h⟩
theorem O3(k:Nat)(h:k<8):0<(2:Int) ^ k/\(2:Int) ^ k<1073741824:=by
 have:∀k:Fin 8,0<(2:Int) ^ k.val/\(2:Int) ^ k.val<1073741824:=by decide +kernel
 exact this ⟨k,h⟩
theorem UK{α:Type}(ws:List α)(d:α):(List.range ws.length).map (fun k=>ws.getD k d)=ws:=by
 apply List.ext_getElem
 ·simp
 ·intro i h1 h2;simp[h2]
theorem WA(ds:List D)(Qr:R->Prop)(hl:ds.length=2)(h:yV ds Qr):FW { nx:=fun _=>Qr (.fz .non),rt:=Qr } (g5 ["_law_words","_law_bits"] ds):=by
 obtain⟨ws,bits,rfl,k6,nd,q⟩:=h;show FW _ [.fz (dS ws),.fz (.int bits)];unfold FW dS;have big:=j7;walk_at "px";split
 ·exact⟨by omega,q [] (by simp) (by simp) (by simp) rfl⟩
 ·walk_at "go";refine rP (List.range 8) (fun(i:Nat)=>.int (0+i)) (fun k=>.str (ws.getD k "")) (fun k=>decide (bits/2 ^ k%2=1)) (fun Q' h=>?_) (by simp;omega) (fun c hc K1 K0 k1 k0=>?_) ?_
  ·walk_at "px";exact h
  ·have MO:c<8:=by simpa using hc
   rw[Int.zero_add];walk_at "px";refine⟨by omega,D.int (2 ^ c),?_,?_⟩
   ·have:=et (Option.map D.int) (Rb c MO);rw[<-CO] at this;exact this
   ·walk_at "px";refine⟨O3 c MO,?_⟩;by_cases hb:bits/2 ^ c%2=1
    ·simp only[hb,fS,de,aR];refine⟨ws[c],nu (by omega),?_⟩;have:=k1 (by simpa using hb);rwa [show ws.getD c ""=ws[c] by simp[show c<ws.length by omega]] at this
    ·rw[if_neg hb];exact k0 (by simpa using hb)
  ·have e:∀L:List Nat,(L.map fun k=>D.str (ws.getD k ""))=(L.map fun k=>ws.getD k "").map D.str:=fun L=>by simp
   show xf [D.lst _] _;rw[e];have sub:List.Sublist (((List.range 8).filter fun k=>decide (bits/2 ^ k%2=1)).map fun k=>ws.getD k "") ws:=by
    have:=List.Sublist.map (fun k=>ws.getD k "") (List.filter_sublist (p:=fun k=>decide (bits/2 ^ k%2=1)) (l:=List.range 8));rwa [<-k6,UK,k6] at this
   generalize (((List.range 8).filter fun k=>decide (bits/2 ^ k%2=1)).map fun k=>ws.getD k "")=ss at sub ⊢;unfold xf;simp only[C5];have hle:=sub.length_le;refine⟨by omega,fun l9 hp hs=>q l9 (by rw[hp.length_eq];omega) (hp.nodup_iff.mpr (sub.nodup nd)) (fun w hw=>sub.subset (hp.subset hw)) hs⟩
noncomputable def mV(fA:List Str):Option Str->Option Str
 | none=>none
 | some w=>if w∈fA then none else some w
theorem N6(x:Option Str)(l:List Str):inD (dO x) (l.map .str)=(match x with | none=>false | some w=>decide (w∈l)):=by
 cases x with
 | none=>
  unfold inD;rw[List.any_map];induction l with
  | nil=>rfl
  | cons a r ih=>rw[dh,ih];simp[dO,fS]
 | some w=>exact yr w l
theorem Lv(fA:List Str)(w:Str)(l:List (Option Str)):(l.map (mV fA)).count (some w)=if w∈fA then 0 else l.count (some w):=by
 induction l with
 | nil=>simp
 | cons a r ih=>
  rw[aA,eK,ih,eK];cases a with
  | none=>simp[mV]
  | some v=>
   unfold mV;by_cases h:v∈fA
   ·by_cases hw:w∈fA
    ·simp[h,hw]
    ·have:v≠w:=fun z=>hw (z▸h)
     simp[h,hw,this]
   ·by_cases hw:w∈fA
    ·have:v≠w:=fun z=>h (z▸hw)
     simp[h,hw,this]
    ·simp[h,hw]
theorem Lq(fA:List Str)(w:Str)(l:List Str):(l.filter fun x=>decide (x∉fA)).count w=if w∈fA then 0 else l.count w:=by
 by_cases hw:w∈fA
 ·rw[if_pos hw,cf];intro h;rw[bI] at h;simpa[hw] using h.2
 ·rw[if_neg hw,List.count_filter];simpa using hw
theorem Lr{ws fA:List Str}{l:List (Option Str)}(h:jb ws l):jb ws (l.map (mV fA)):=fun w hw=>by
 rw[aK] at hw;obtain⟨x,hx,e⟩:=hw;cases x with
 | none=>cases e
 | some v=>
  by_cases hv:v∈fA
  ·simp[mV,hv] at e
  ·simp[mV,hv] at e;subst e;exact h _ hx
theorem Ra{ws:List Str}{top eN:List (Option Str)}{left right:List Str}(pt:jb ws top)(pb:jb ws eN)(lf:∀w∈left,w∈ws)(rt:∀w∈right,w∈ws){w:Str}(h:w∉ws):iT top eN left right w=0:=by
 unfold iT;rw[cf.mpr fun z=>h (pt w z),cf.mpr fun z=>h (pb w z),cf.mpr fun z=>h (lf w z),cf.mpr fun z=>h (rt w z)]
theorem UJ{ws:List Str}{top eN:List (Option Str)}{left right:List Str}(pt:jb ws top)(pb:jb ws eN)(lf:∀w∈left,w∈ws)(rt:∀w∈right,w∈ws)(fA:List Str)(hl:fA=ws.filter fun w=>decide (iT top eN left right w=1))(w:Str) :
  iT (top.map (mV fA)) (eN.map (mV fA)) (left.filter fun x=>decide (x∉fA)) (right.filter fun x=>decide (x∉fA)) w≠1:=by
 have e:iT (top.map (mV fA)) (eN.map (mV fA)) (left.filter fun x=>decide (x∉fA)) (right.filter fun x=>decide (x∉fA)) w=if w∈fA then 0 else iT top eN left right w:=by
  unfold iT;rw[Lv,Lv,Lq,Lq];split<;>simp
 rw[e];by_cases h:w∈fA
 ·rw[if_pos h];decide
 ·rw[if_neg h];by_cases k6:w∈ws
  ·intro z;apply h;rw[hl,bI];exact⟨k6,by simpa using z⟩
  ·rw[Ra pt pb lf rt k6];decide
structure jI (ws:List Str) (most:Nat) (c:fc):Prop where
 w1:1<=c.top.length
 w2:c.top.length<=most
 bl:c.eN.length=c.top.length
 pt:jb ws c.top
 pb:jb ws c.eN
 ll:c.left.length<=8
 lw:∀w∈c.left,w∈ws
 lo:c.left.Pairwise o5
 rl:c.right.length<=8
 rw_:∀w∈c.right,w∈ws
 ro:c.right.Pairwise o5
 cnt:∀w,iT c.top c.eN c.left c.right w≠1
 wl:c.wide.length<=8
 wo:(c.wide.map (·.1)).Pairwise o5
 ww:∀p∈c.wide,p.1∈ws/\(p.2=2\/p.2=3)/\1<iT c.top c.eN c.left c.right p.1
 be:jQ c.top c.eN c.left c.right ws c.fm
 ke:nY c.top.length c.keeps
def AF:f6:=fun ds Q=>∃(ns:List Int) (most:Nat),ds=[dI ns,.int most]/\ns.length<=1000/\1<=most/\most<=40/\∀c,jI (t4 (zj ns)) most c->Q (.ow c.parts)
def F5:TX:=(fg (gc 2 (eV (oI (fun _ j=>0<j) fun i j=>.int (i%j)) (eV (oI lB fun i j=>.int (i*j)) (eV (oI (fun _ j=>0<j) fun i j=>.int (i%j)) (gV yq (eT (nS (eP 0) pL (mQ (dC (.int 1)))) eY)) (eV (oI tX fun i j=>.int (i ^ j.toNat)) (dC (.int 10)) (dC (.int 30)))) (dC (.int 40014))) (dC (.int 2147483563))))
 (fg (gc 3 (gF 1 AK (eT (gV yq (eT (nS (eP 0) pL (mQ (dC (.int 1)))) eY)) eY)))
 (fg (gc 4 (eV iq (dC (.int 1)) (eV (oI (fun _ j=>0<j) fun i j=>.int (i%j)) (eP 2) (eP 1))))
 (fg (gc 5 (nS (eP 0) (mQ (dC (.int 1))) pL))
 (fg (zB (gF 4 Ar (eT (eP 3) (eT (eP 5) (eT (eP 2) (eT (eP 4) eY))))) (kA 2 (gE (fG 6) (gE (fG 7) jR))))
 (fg (gc 8 (gF 2 uc (eT (gV yq (eT (nS (eP 0) (mQ (dC (.int 1))) (mQ (dC (.int 2)))) eY)) (eT (eV iq (dC (.int 400)) (eV (oI (fun _ j=>0<j) fun i j=>.int (i%j)) (eP 2) (dC (.int 7)))) eY))))
 (fg (gc 9 (gF 2 yV (eT (eP 3) (eT (eP 8) eY))))
 (fg (gc 10 (gF 2 yV (eT (eP 3) (eT (eV (oI lT fun i j=>.int (i/j)) (eP 8) (dC (.int 512))) eY))))
 (fg (gc 11 (iI (i4 (eP 3)) [none,some 6,some 7,some 9,some 10] (fG 0) (fP (eV oEq (gF 5 yW (eT (eP 1) (eT (eP 2) (eT (eP 3) (eT (eP 4) (eT (eP 0) eY)))))) (dC (.int 1)))) (eP 0)))
 (fg (gc 6 (iI (i4 (eP 6)) [none,some 11] (fG 0) lD (x9 (fP (eV (lZ false) (eP 0) (eP 1))) (dC .non) (eP 0))))
 (fg (gc 7 (iI (i4 (eP 7)) [none,some 11] (fG 0) lD (x9 (fP (eV (lZ false) (eP 0) (eP 1))) (dC .non) (eP 0))))
 (fg (gc 9 (iI (i4 (eP 9)) [none,some 11] (fG 0) (fP (eV (lZ true) (eP 0) (eP 1))) (eP 0)))
 (fg (gc 10 (iI (i4 (eP 10)) [none,some 11] (fG 0) (fP (eV (lZ true) (eP 0) (eP 1))) (eP 0)))
 (fg (kB 12 (i5 eY))
 (fg (kj (vq (eT (gV xf (eT (eP 3) eY)) eY)) (kA 2 (gE (fG 13) (gE (fG 14) jR))) (fg (gc 15 (gF 2 uc (eT (eV iq (eP 2) (eP 13)) (eT (dC (.int 500)) eY))))
 (iE (tT (fP (eV oEq (eV (oI (fun _ j=>0<j) fun i j=>.int (i%j)) (eP 15) (dC (.int 4))) (dC (.int 0)))) (fP (eV (jD fun i j=>.bl (decide (j<i))) (gF 5 yW (eT (eP 6) (eT (eP 7) (eT (eP 9) (eT (eP 10) (eT (eP 14) eY)))))) (dC (.int 1))))) (lY 12 (k7 (eT (eP 14) (eT (eV iq (dC (.int 2)) (eV (oI (fun _ j=>0<j) fun i j=>.int (i%j)) (eV (oI lT fun i j=>.int (i/j)) (eP 15) (dC (.int 4))) (dC (.int 2)))) eY)))) iH)))
 (fg (gc 16 (gF 4 AJ (eT (i5 (eT (eP 6) (eT (eP 7) (eT (eP 9) (eT (eP 10) eY))))) (eT (eP 3) (eT (eP 5) (eT (eP 2) eY))))))
 (fg (gc 17 (i5 eY))
 (fg (iE (fP (eV oEq (eV (oI (fun _ j=>0<j) fun i j=>.int (i%j)) (eV (oI lT fun i j=>.int (i/j)) (eP 2) (dC (.int 97))) (dC (.int 3))) (dC (.int 0)))) (gc 17 (gF 3 AI (eT (eP 4) (eT (eP 5) (eT (eP 2) eY))))) iH)
 (tS 12 (ip (i5 (eT (eP 6) (eT (eP 7) (eT (eP 9) (eT (eP 10) (eT (eP 12) (eT (eP 16) (eT (eP 17) eY))))))))))))))))))))))))))))
theorem Xc(ds:List D)(Qr:R->Prop)(hl:ds.length=2)(h:AF ds Qr):F5 { nx:=fun _=>Qr (.fz .non),rt:=Qr } (g5 ["_law_script","_law_most","_law_seed","_law_words","_law_width","_law_cells","_law_top","_law_bottom","_law_bits","_law_left","_law_right","_law_lone","_law_wide","_law_k","_law_word","_law_one","_law_bends_here","_law_keeps_here"] ds):=by
 obtain⟨ns,most,rfl,hn,hm,oE,q⟩:=h;show F5 _ [.fz (dI ns),.fz (.int most),.un,.un,.un,.un,.un,.un,.un,.un,.un,.un,.un,.un,.un,.un,.un,.un];unfold F5 dI;have big:=j7;walk_at "px";generalize wb:((mK ns none (some 1)).sum%1000000000000000000000000000000*40014)%2147483563=fZ;have s0:0<=fZ:=by rw[<-wb];exact bB _ (by decide)
 clear wb;walk_at "go";refine⟨_,rfl,?_⟩;rw[EG _ (by decide)];have hw:=Kw (zj ns);change qh _ _ [_,_,_,.fz (.lst ((t4 (zj ns)).map .str)),_,_,_,_,_,_,_,_,_,_,_,_,_,_];generalize t4 (zj ns)=ws at hw q ⊢;walk_at "go";refine⟨by omega,?_⟩;have m0:0<=fZ%(most:Int):=bB _ (by omega);have m1:fZ%(most:Int)<most:=bw _ (by omega);obtain⟨W,hW⟩:∃W:Nat,1+fZ%(most:Int)=W:=⟨(1+fZ%(most:Int)).toNat,by omega⟩
 rw[hW];walk_at "go";rw[C0 _ (by decide)];walk_at "go";refine⟨ws,ns.drop 1,fZ,W,rfl,hw.len,by omega,fun top eN ht hb pt pb=>?_⟩;walk_at "px";walk_at "go";refine⟨_,_,rfl,by have:=bB fZ (show(7:Int)≠0 by decide);omega,by have:=bw fZ (show(0:Int)<7 by decide);omega,?_⟩;generalize wJ _ _=bits;walk_at "go";refine⟨ws,bits,rfl,hw.len,hw.nd,fun left Ya X9 Mb X8=>?_⟩;walk_at "go";refine⟨ws,_,rfl,hw.len,hw.nd,fun right XR XQ LU XO=>?_⟩;walk_at "go";refine rP ws D.str D.str (fun w=>decide (iT top eN left right w=1)) (fun Q' h=>?_) (by have:=hw.len;omega) (fun w _ K1 K0 k1 k0=>?_) ?_
 ·walk_at "px";exact h
 ·walk_at "px";refine⟨top,eN,left,right,w,rfl,by omega,?_⟩;walk_at "px";by_cases hc:iT top eN left right w=1
  ·rw[if_pos (by omega)];exact k1 (by simpa using hc)
  ·rw[if_neg (by omega)];exact k0 (by simpa using hc)
 generalize wj:ws.filter (fun w=>decide (iT top eN left right w=1))=fA;have HK:=UJ pt pb Mb LU fA wj.symm;have MC:fA.length<=8:=by rw[<-wj];have:=aY (fun w=>decide (iT top eN left right w=1)) ws;have:=hw.len;omega
 have un:∀(l:List (Option Str)) (j:Nat) (ρ:Ev) (Q:R->Prop),l.length<=100->gt ρ j=.fz (dP l)->gt ρ 11=.fz (.lst (fA.map .str))->Q (.ow ((l.map (mV fA)).map dO))->iI (i4 (eP j)) [none,some 11] (fG 0) lD (x9 (fP (eV (lZ false) (eP 0) (eP 1))) (dC D.non) (eP 0)) ρ Q:=by
  intro l j ρ Q hl hj HD hq;refine pG l dO (fun x=>dO (mV fA x)) (fun Q' h=>?_) (by omega) (fun x hx K1 k=>?_) ?_
  ·simp only[i4,eP,hj];exact h
  ·simp only[iV,aA,cy,rH,HD];walk_at "px";have h2:fQ 8 (dO x)/\(∀e∈fA.map D.str,fQ 8 e):=⟨by rw[t5];trivial,uH 8 fA⟩
   have h3:if inD (dO x) (fA.map D.str)=true then K1 D.non else K1 (dO x):=by
    rw[N6];cases x with
    | none=>simpa[mV] using k
    | some v=>
     by_cases hv:v∈fA
     ·simpa[mV,hv,dO] using k
     ·simpa[mV,hv,dO] using k
   cases x with
   | none=>exact⟨h2.1,h2.2,h3⟩
   | some v=>exact⟨h2.1,h2.2,h3⟩
  ·rw[a9] at hq;exact hq
 have Gf:∀(l:List Str) (j:Nat) (ρ:Ev) (Q:R->Prop),l.length<=100->gt ρ j=.fz (dS l)->gt ρ 11=.fz (.lst (fA.map .str))->Q (.ow ((l.filter fun x=>decide (x∉fA)).map D.str))->iI (i4 (eP j)) [none,some 11] (fG 0) (fP (eV (lZ true) (eP 0) (eP 1))) (eP 0) ρ Q:=by
  intro l j ρ Q hl hj HD hq;refine rP l D.str D.str (fun x=>decide (x∉fA)) (fun Q' h=>?_) (by omega) (fun x hx K1 K0 k1 k0=>?_) hq
  ·simp only[i4,eP,hj];exact h
  ·simp only[iV,aA,cy,rH,HD];walk_at "px";refine⟨uH 8 fA,?_⟩;rw[yr];by_cases hv:x∈fA
   ·simpa[hv] using k0 (by simpa using hv)
   ·simpa[hv] using k1 (by simpa using hv)
 walk_at "go";refine un top 6 _ _ (by omega) rfl rfl ?_;walk_at "go";refine un eN 7 _ _ (by omega) rfl rfl ?_;walk_at "go";refine Gf left 9 _ _ (by omega) rfl rfl ?_;walk_at "go";refine Gf right 10 _ _ (by omega) rfl rfl ?_;clear un Gf;have LW:jb ws (top.map (mV fA)):=Lr pt;have y8:jb ws (eN.map (mV fA)):=Lr pb;have fY:(top.map (mV fA)).length=W:=by simpa using ht
 have zk:(eN.map (mV fA)).length=W:=by simpa using hb
 have X6:(left.filter fun x=>decide (x∉fA)).Pairwise o5:=(Ah X8 X9).sublist List.filter_sublist;have XT:(right.filter fun x=>decide (x∉fA)).Pairwise o5:=(Ah XO XQ).sublist List.filter_sublist;have X5:∀w∈(left.filter fun x=>decide (x∉fA)),w∈ws:=fun w h=>Mb w (bI.mp h).1
 have pJ:∀w∈(right.filter fun x=>decide (x∉fA)),w∈ws:=fun w h=>LU w (bI.mp h).1
 have X7:(left.filter fun x=>decide (x∉fA)).length<=8:=aH (aY _ _) Ya;have XU:(right.filter fun x=>decide (x∉fA)).length<=8:=aH (aY _ _) XR;generalize top.map (mV fA)=mZ at *;generalize eN.map (mV fA)=g7 at *;generalize (left.filter fun x=>decide (x∉fA))=j6 at *;generalize (right.filter fun x=>decide (x∉fA))=right' at *;walk_at "go";refine⟨by omega,?_⟩;walk_at "go";refine Fb (fun ds=>∃ss:List Str,ss.Perm ws/\sortedS ss=true/\ds=qj (ss.map .str)) (fun Q' h=>?_) ?_
 ·walk_at "px";simp only[xf,C5];refine⟨by have:=hw.len;omega,fun ss hp hs=>?_⟩;walk_at "px";exact h _ ⟨ss,hp,hs,rfl⟩
 rintro _ ⟨ss,hp,hs,rfl⟩;have ZK:ss.length=8:=by rw[hp.length_eq];exact hw.len
 have XF:ss.Pairwise o5:=Ah hs (hp.nodup_iff.mpr hw.nd);refine T6 ss D.str (fun i ρ=>∃(wide:List (Str×Int)) (a b c:Sl),ρ=[.fz (D.lst (List.map D.int ns)),.fz (D.int most),.fz (D.int fZ),.fz (D.lst (List.map D.str ws)),.fz (D.int W),.fz (D.lst (List.map D.int (List.drop 1 ns))),.fz (D.lst (mZ.map dO)),.fz (D.lst (g7.map dO)),.fz (D.int bits),.fz (D.lst (j6.map D.str)),.fz (D.lst (right'.map D.str)),.fz (D.lst (fA.map D.str)),.ow (wide.map uo),a,b,c,.un,.un]/\List.Sublist (wide.map (·.1)) (ss.take i)/\(∀p∈wide,(p.2=2\/p.2=3)/\1<iT mZ g7 j6 right' p.1)) ⟨[],_,_,_,rfl,by simp,by simp⟩ ?_ ?_
 ·rintro i x ρ hx ⟨wide,a,b,c,rfl,sub,wo⟩;have hi:i<8:=by have:=(ax.mp hx).1;omega
  have tk:ss.take (i+1)=ss.take i++[x]:=by rw[bg,hx];rfl
  have xM:wide.length<=8:=by have:=sub.length_le;simp at this;omega
  walk_at "px";refine⟨_,_,rfl,by omega,by omega,?_⟩;generalize wJ _ _=one;walk_at "go";have skip:∃(sC:List (Str×Int)) (a' b' c':Sl),[Sl.fz (D.lst (List.map D.int ns)),.fz (D.int most),.fz (D.int fZ),.fz (D.lst (List.map D.str ws)),.fz (D.int W),.fz (D.lst (List.map D.int (List.drop 1 ns))),.fz (D.lst (mZ.map dO)),.fz (D.lst (g7.map dO)),.fz (D.int bits),.fz (D.lst (j6.map D.str)),.fz (D.lst (right'.map D.str)),.fz (D.lst (fA.map D.str)),.ow (wide.map uo),.fz (D.int i),.fz (D.str x),.fz (D.int one),.un,.un]=[Sl.fz (D.lst (List.map D.int ns)),.fz (D.int most),.fz (D.int fZ),.fz (D.lst (List.map D.str ws)),.fz (D.int W),.fz (D.lst (List.map D.int (List.drop 1 ns))),.fz (D.lst (mZ.map dO)),.fz (D.lst (g7.map dO)),.fz (D.int bits),.fz (D.lst (j6.map D.str)),.fz (D.lst (right'.map D.str)),.fz (D.lst (fA.map D.str)),.ow (sC.map uo),a',b',c',.un,.un]/\List.Sublist (sC.map (·.1)) (ss.take (i+1))/\(∀p∈sC,(p.2=2\/p.2=3)/\1<iT mZ g7 j6 right' p.1):=
   ⟨wide,_,_,_,rfl,by rw[tk];exact sub.trans (List.sublist_append_left _ _),wo⟩
  split
  ·refine⟨mZ,g7,j6,right',x,rfl,by omega,?_⟩;walk_at "px";split
   ·rename_i hc;have e2:one/4%2=0\/one/4%2=1:=by omega
    refine⟨by omega,by simp;omega,wide++[(x,2+one/4%2)],_,_,_,by rw[aT];rfl,?_,fun p hp=>?_⟩
    ·rw[tk,aT];exact sub.append (List.Sublist.refl _)
    ·rcases ay.mp hp with h | h
     ·exact wo p h
     ·have:p=(x,2+one/4%2):=by simpa using h
      subst this;exact⟨by dsimp only;omega,by dsimp only;omega⟩
   ·exact skip
  ·exact skip
 rintro ρ ⟨wide,a,b,c,rfl,sub,wo⟩;rw[bN] at sub;have xM:wide.length<=8:=by have:=sub.length_le;simp at this;omega
 have Xv:(wide.map (·.1)).Pairwise o5:=XF.sublist sub;have ww:∀p∈wide,p.1∈ws/\(p.2=2\/p.2=3)/\1<iT mZ g7 j6 right' p.1:=fun p h=>⟨hp.subset (sub.subset (bU h)),wo p h⟩
 walk_at "go";refine⟨by omega,mZ,g7,j6,right',ws,ns.drop 1,fZ,rfl,by omega,by omega,by omega,by omega,hw.len,LW,by simp;omega,fun fm bo=>?_⟩;walk_at "go";refine⟨by omega,?_⟩;have fin:∀keeps,nY W keeps->Qr (R.ow [dP mZ,dP g7,dS j6,dS right',dW wide,dB fm,dK keeps]):=fun keeps ko=>q ⟨mZ,g7,j6,right',wide,fm,keeps⟩ ⟨by dsimp only;omega,by dsimp only;omega,by dsimp only;omega,LW,y8,X7,X5,X6,XU,pJ,XT,HK,xM,Xv,ww,bo,by dsimp only;rw[fY];exact ko⟩
 walk_at "go";split
 ·refine⟨W,ns.drop 1,fZ,rfl,by omega,by omega,fun keeps ko=>?_⟩;walk_at "go";exact⟨by omega,fin keeps ko⟩
 ·walk_at "go";exact⟨by omega,fin [] ⟨by simp,by simp⟩⟩
def Aw:f6:=fun ds Q=>∃a b c d e f g:List D,ds=[.lst a,.lst b,.lst c,.lst d,.lst e,.lst f,.lst g]/\Q (.fz (.obj "Channel" [("top",.lst a),("bottom",.lst b),("left",.lst c),("right",.lst d),("wide",.lst e),("bends",.lst f),("keeps",.lst g)]))
def CZ:yf:=(ur "top" (gV rK (eT (eP 1) eY)) (ur "bottom" (gV rK (eT (eP 2) eY)) (ur "left" (gV rK (eT (eP 3) eY)) (ur "right" (gV rK (eT (eP 4) eY)) (ur "wide" (gV rK (eT (eP 5) eY)) (ur "bends" (gV rK (eT (eP 6) eY)) (ur "keeps" (gV rK (eT (eP 7) eY)) D0)))))))
theorem Vd(ds:List D)(Qr:R->Prop)(NA:List (Str×D)->Prop)(na:∀fs:List (Str×D),fs.map (·.1)=(["top","bottom","left","right","wide","bends","keeps"]:List Str)->NA fs)(h:Aw ds Qr) :
  CZ (vB ["self","top","bottom","left","right","wide","bends","keeps"] ds) [] fun fs=>NA fs/\Qr (.fz (.obj "Channel" fs)):=by
 obtain⟨a,b,c,d,e,f,g,rfl,q⟩:=h;show CZ [.un,.fz (.lst a),.fz (.lst b),.fz (.lst c),.fz (.lst d),.fz (.lst e),.fz (.lst f),.fz (.lst g)] [] _;unfold CZ;simp only[ur,D0,gV,eT,eY,eP,gt,rK,vD,zR];exact⟨by decide,show 1<1000 by decide,show 2<1000 by decide,show 3<1000 by decide,show 4<1000 by decide,show 5<1000 by decide,show 6<1000 by decide,na _ rfl,q⟩
def yU:f6:=fun ds Q=>∃c:fc,ds=[.lst c.parts]/\Q (.fz c.obj)
def FV:TX:=(fg (gc 1 (iI (i4 (eP 0)) [none] (fG 0) lD (gV rK (eT (eP 0) eY))))
 (ip (gF 7 Aw (eT (eV fX (eP 1) (dC (.int 0))) (eT (eV fX (eP 1) (dC (.int 1))) (eT (eV fX (eP 1) (dC (.int 2))) (eT (eV fX (eP 1) (dC (.int 3))) (eT (eV fX (eP 1) (dC (.int 4))) (eT (eV fX (eP 1) (dC (.int 5))) (eT (eV fX (eP 1) (dC (.int 6))) eY))))))))))
theorem Wz(ds:List D)(Qr:R->Prop)(hl:ds.length=1)(h:yU ds Qr):FV { nx:=fun _=>Qr (.fz .non),rt:=Qr } (g5 ["_law_lists","_law_copies"] ds):=by
 obtain⟨c,rfl,q⟩:=h;show FV _ [.fz (.lst c.parts),.un];unfold FV;walk_at "px";refine pG c.parts id id (fun Q' h=>?_) (by rw[j7];show 7<=16777216;decide) (fun d hd K1 k=>?_) ?_
 ·walk_at "px";rw[List.map_id] at h;exact h
 ·walk_at "px";simp only[fc.parts,ar,aP,cv] at hd;rcases hd with rfl | rfl | rfl | rfl | rfl | rfl | rfl<;>exact k
 ·rw[List.map_id];walk_at "go";unfold fc.parts;exact⟨_,rfl,_,rfl,_,rfl,_,rfl,_,rfl,_,rfl,_,rfl,_,_,_,_,_,_,_,rfl,q⟩
def Aq:f6:=fun ds Q=>∃c:fc,ds=[c.obj,.lst c.parts]/\Q (.fz (.bl true))
def FU:TX:=(fg (gc 2 (i5 (eT (jy "top" (eP 0)) (eT (jy "bottom" (eP 0)) (eT (jy "left" (eP 0)) (eT (jy "right" (eP 0)) (eT (jy "wide" (eP 0)) (eT (jy "bends" (eP 0)) (eT (jy "keeps" (eP 0)) eY)))))))))
 (ip (eV oEq (eP 2) (eP 1))))
theorem Wy(ds:List D)(Qr:R->Prop)(hl:ds.length=2)(h:Aq ds Qr):FU { nx:=fun _=>Qr (.fz .non),rt:=Qr } (g5 ["_law_channel_here","_law_lists","_law_told"] ds):=by
 obtain⟨c,rfl,q⟩:=h;show FU _ [.fz c.obj,.fz (.lst c.parts),.un];unfold FU;unfold fc.obj;walk_at "px";refine⟨_,rfl,_,rfl,_,rfl,_,rfl,_,rfl,_,rfl,_,rfl,by rw[j7];decide,?_⟩;walk_at "go";have ok:=SK c;refine⟨ok.mono (by decide),ok.mono (by decide),?_⟩;show Qr (.fz (.bl (fS (.lst c.parts) (.lst c.parts))));rw[xk 3 _ ok];exact q
end Wc
open PySem L2 PyProof.Rows Wc
local macro_rules | `(tactic| walk_at "px")=>`(tactic| (repeat(first | walk_at "b" | simp only[uL,Ax,wZ,t5,yr,Ec])))
namespace Wc
open PySem L2 PyProof.Rows
inductive En where
 | lf | tp (n:Nat) | bt (n:Nat) | rt
noncomputable def dE:En->D
 | .lf=>.tup [.str "left"]
 | .tp n=>.tup [.str "top",.int n]
 | .bt n=>.tup [.str "bottom",.int n]
 | .rt=>.tup [.str "right"]
noncomputable def ql(c:fc)(w:Str)(n:Nat):List En:=(if c.top[n]?=some (some w) then [.tp n] else [])++(if c.eN[n]?=some (some w) then [.bt n] else [])
noncomputable def qO(c:fc)(w:Str):List En:=(if w∈c.left then [.lf] else [])++(List.range c.top.length).flatMap (ql c w)++(if w∈c.right then [.rt] else [])
theorem UI(c:fc)(w:Str)(n:Nat):(ql c w n).length<=2:=by unfold ql;split<;>split<;>simp
theorem ES(c:fc)(w:Str)(i:Nat):((List.range i).flatMap (ql c w)).length<=2*i:=by
 induction i with
 | zero=>simp
 | succ i ih=>
  rw[List.range_succ,c8,au];have:=UI c w i;simp only[dG,eG,bz];omega
structure mq (c:fc):Prop where
 w:c.top.length<=40
 b:c.eN.length=c.top.length
 l:c.left.length<=100
 r:c.right.length<=100
def yM:f6:=fun ds Q=>∃(c:fc) (w:Str),ds=[c.obj,.str w]/\mq c/\Q (.ow ((qO c w).map dE))
def Fh:TX:=(fg (kB 2 (i5 eY))
 (fg (iE (fP (eV (lZ false) (eP 1) (jy "left" (eP 0)))) (lY 2 (k7 (eT (dC (.str "left")) eY))) iH)
 (fg (kj (nr (eT (gV mP (eT (jy "top" (eP 0)) eY)) eY)) (fG 3) (fg (iE (fP (eV oEq (eV fX (jy "top" (eP 0)) (eP 3)) (eP 1))) (lY 2 (k7 (eT (dC (.str "top")) (eT (eP 3) eY)))) iH)
 (iE (fP (eV oEq (eV fX (jy "bottom" (eP 0)) (eP 3)) (eP 1))) (lY 2 (k7 (eT (dC (.str "bottom")) (eT (eP 3) eY)))) iH)))
 (fg (iE (fP (eV (lZ false) (eP 1) (jy "right" (eP 0)))) (lY 2 (k7 (eT (dC (.str "right")) eY))) iH)
 (pD 2)))))
theorem Vc(ds:List D)(Qr:R->Prop)(hl:ds.length=2)(h:yM ds Qr):Fh { nx:=fun _=>Qr (.fz .non),rt:=Qr } (g5 ["channel","name","ends","column"] ds):=by
 obtain⟨c,w,rfl,sh,q⟩:=h;show Fh _ [.fz c.obj,.fz (.str w),.un,.un];unfold Fh;have big:=j7;unfold fc.obj;walk_at "px";refine⟨by omega,?_⟩;walk_at "go";refine⟨_,rfl,?_⟩;unfold dS;walk_at "px";refine⟨uH 8 _,?_⟩;have obj:D.obj (Str.ofString "Channel") [(Str.ofString "top",dP c.top),(Str.ofString "bottom",dP c.eN),(Str.ofString "left",D.lst (c.left.map D.str)),(Str.ofString "right",D.lst (c.right.map D.str)),(Str.ofString "wide",dW c.wide),(Str.ofString "bends",dB c.fm),(Str.ofString "keeps",dK c.keeps)]=c.obj:=rfl;rw[obj];have rest:∀k:Sl,qh (fg (kj (nr (eT (gV mP (eT (jy "top" (eP 0)) eY)) eY)) (fG 3) (fg (iE (fP (eV oEq (eV fX (jy "top" (eP 0)) (eP 3)) (eP 1))) (lY 2 (k7 (eT (dC (.str "top")) (eT (eP 3) eY)))) iH)
 (iE (fP (eV oEq (eV fX (jy "bottom" (eP 0)) (eP 3)) (eP 1))) (lY 2 (k7 (eT (dC (.str "bottom")) (eT (eP 3) eY)))) iH)))
 (fg (iE (fP (eV (lZ false) (eP 1) (jy "right" (eP 0)))) (lY 2 (k7 (eT (dC (.str "right")) eY))) iH)
 (pD 2))) { nx:=fun x=>Qr (R.fz D.non),rt:=Qr } [.fz c.obj,.fz (.str w),.ow ((if w∈c.left then [En.lf] else []).map dE),k]:=by
  intro k;walk_at "go";refine vR c.top.length (fun Q' h=>?_) (fun i ρ=>∃k:Sl,ρ=[.fz c.obj,.fz (.str w),.ow (((if w∈c.left then [En.lf] else [])++(List.range i).flatMap (ql c w)).map dE),k]) ⟨k,by simp⟩ ?_ ?_
  ·unfold fc.obj;walk_at "px";refine⟨_,rfl,?_⟩;unfold dP;walk_at "px";rw[ae];have:=sh.w;exact⟨by omega,by omega,by simpa using h⟩
  ·rintro i ρ hi ⟨k,rfl⟩;have hle:=ES c w i;have hw:=sh.w;have Hf:∀(b:Prop) [Decidable b],(if b then [En.lf] else []).length<=1:=fun b _=>by split<;>simp
   have qG:=Hf (w∈c.left);rw[List.range_succ,c8,<-bO];generalize lP:(if w∈c.left then [En.lf] else [])++(List.range i).flatMap (ql c w)=acc;have MR:acc.length<=1000:=by rw[<-lP,au];omega
   simp only[dG,eG,bz];have Bz:i<c.eN.length:=by rw[sh.b];exact hi
   unfold fc.obj;walk_at "px";refine⟨_,rfl,?_⟩;unfold dP;walk_at "px";refine⟨_,nu hi,?_⟩;unfold ql;rw[ai hi,ai Bz];simp only[aN];split
   focus refine⟨by omega,by simp;omega,?_⟩
   all_goals
    walk_at "go";refine⟨_,rfl,?_⟩;walk_at "px";refine⟨_,nu Bz,?_⟩;split
   ·exact⟨by omega,by simp;omega,_,by simp[dE];rfl⟩
   ·exact⟨_,by simp[dE];rfl⟩
   ·exact⟨by omega,by simp;omega,_,by simp[dE];rfl⟩
   ·exact⟨_,by simp;rfl⟩
  ·rintro ρ ⟨k,rfl⟩;have hle:=ES c w c.top.length;have hw:=sh.w;have Hf:∀(b:Prop) [Decidable b],(if b then [En.lf] else []).length<=1:=fun b _=>by split<;>simp
   have qG:=Hf (w∈c.left);unfold qO at q;generalize lP:(if w∈c.left then [En.lf] else [])++(List.range c.top.length).flatMap (ql c w)=acc at q ⊢;have MR:acc.length<=1000:=by rw[<-lP,au];omega
   unfold fc.obj;walk_at "go";refine⟨_,rfl,?_⟩;unfold dS;walk_at "px";refine⟨uH 8 _,?_⟩;by_cases hr:w∈c.right
   ·rw[if_pos hr];rw[if_pos hr,aT] at q;refine⟨by omega,by simp;omega,?_⟩;walk_at "go";exact q
   ·rw[if_neg hr];rw[if_neg hr,bz] at q;walk_at "go";exact q
 by_cases hc:w∈c.left
 ·rw[if_pos hc];refine⟨by omega,by omega,?_⟩;have:=rest .un;rw[if_pos hc] at this;exact this
 ·rw[if_neg hc];have:=rest .un;rw[if_neg hc] at this;exact this
noncomputable def rD(c:fc):En->Int
 | .lf=>-1
 | .tp n=>n
 | .bt n=>n
 | .rt=>c.top.length
def Ap:f6:=fun ds Q=>∃(c:fc) (e:En),ds=[c.obj,dE e]/\Q (.fz (.int (rD c e)))
def FT:TX:=(fg (iE (fP (eV oEq (eV fX (eP 1) (dC (.int 0))) (dC (.str "left")))) (ip (zA (dC (.int 1)))) iH)
 (fg (iE (fP (eV oEq (eV fX (eP 1) (dC (.int 0))) (dC (.str "right")))) (ip (gV mP (eT (jy "top" (eP 0)) eY))) iH)
 (ip (eV fX (eP 1) (dC (.int 1))))))
theorem Wx(ds:List D)(Qr:R->Prop)(hl:ds.length=2)(h:Ap ds Qr):FT { nx:=fun _=>Qr (.fz .non),rt:=Qr } (g5 ["channel","end"] ds):=by
 obtain⟨c,e,rfl,q⟩:=h;show FT _ [.fz c.obj,.fz (dE e)];unfold FT;have n1:¬(Str.ofString "top"=Str.ofString "left"):=by decide +kernel
 have n2:¬(Str.ofString "bottom"=Str.ofString "left"):=by decide +kernel
 have n3:¬(Str.ofString "right"=Str.ofString "left"):=by decide +kernel
 have n4:¬(Str.ofString "top"=Str.ofString "right"):=by decide +kernel
 have n5:¬(Str.ofString "bottom"=Str.ofString "right"):=by decide +kernel
 cases e with
 | lf=>
  unfold dE;walk_at "px";refine⟨_,rfl,?_⟩;walk_at "px";exact q
 | tp n=>
  unfold dE;walk_at "px";refine⟨_,rfl,?_⟩;walk_at "px";rw[if_neg n1];walk_at "go";refine⟨_,rfl,?_⟩;walk_at "px";rw[if_neg n4];walk_at "go";exact⟨_,rfl,q⟩
 | bt n=>
  unfold dE;walk_at "px";refine⟨_,rfl,?_⟩;walk_at "px";rw[if_neg n2];walk_at "go";refine⟨_,rfl,?_⟩;walk_at "px";rw[if_neg n5];walk_at "go";exact⟨_,rfl,q⟩
 | rt=>
  unfold dE;walk_at "px";refine⟨_,rfl,?_⟩;walk_at "px";rw[if_neg n3];walk_at "go";refine⟨_,rfl,?_⟩;walk_at "px";unfold fc.obj;walk_at "px";refine⟨_,rfl,?_⟩;unfold dP;walk_at "px";rw[ae];exact q
noncomputable def pl(c:fc)(w:Str):List Int:=
 (if w∈c.left then [-1] else [])++(((List.range c.top.length).filter fun n=>c.top[n]?==some (some w)||c.eN[n]?==some (some w)).map fun(n:Nat)=>(n:Int))++(if w∈c.right then [(c.top.length:Int)] else [])
theorem Iz(c:fc)(w:Str):(pl c w).Pairwise (·<·):=by
 unfold pl;have xT:∀x∈(((List.range c.top.length).filter fun n=>c.top[n]?==some (some w)||c.eN[n]?==some (some w)).map fun(n:Nat)=>(n:Int)),0<=x/\x<c.top.length:=by
  intro x hx;rw[aK] at hx;obtain⟨n,hn,rfl⟩:=hx;rw[bI,bP] at hn;omega
 have qZ:(((List.range c.top.length).filter fun n=>c.top[n]?==some (some w)||c.eN[n]?==some (some w)).map fun(n:Nat)=>(n:Int)).Pairwise (·<·):=by
  rw[c6];refine List.Pairwise.imp ?_ (List.Pairwise.filter _ List.pairwise_lt_range);intro a b h;omega
 generalize (((List.range c.top.length).filter fun n=>c.top[n]?==some (some w)||c.eN[n]?==some (some w)).map fun(n:Nat)=>(n:Int))=mid at xT qZ;rw[bM,bM];refine⟨⟨by split<;>simp,qZ,fun a ha b hb=>?_⟩,by split<;>simp,fun a ha b hb=>?_⟩
 ·split at ha
  ·have:=xT b hb;simp at ha;omega
  ·cases ha
 ·split at hb
  ·rcases ay.mp ha with ha | ha
   ·split at ha
    ·simp at ha hb;omega
    ·cases ha
   ·have:=xT a ha;simp at hb;omega
  ·cases hb
theorem Ss(c:fc)(w:Str)(k:Int):k∈(qO c w).map (rD c)↔k∈pl c w:=by
 unfold qO pl;simp only[aT,ay];have h1:k∈(if w∈c.left then [En.lf] else []).map (rD c)↔k∈(if w∈c.left then [(-1:Int)] else []):=by split<;>simp[rD]
 have h3:k∈(if w∈c.right then [En.rt] else []).map (rD c)↔k∈(if w∈c.right then [(c.top.length:Int)] else []):=by split<;>simp[rD]
 rw[h1,h3];have h2:k∈((List.range c.top.length).flatMap (ql c w)).map (rD c)↔k∈(((List.range c.top.length).filter fun n=>c.top[n]?==some (some w)||c.eN[n]?==some (some w)).map fun(n:Nat)=>(n:Int)):=by
  simp only[aK,List.mem_flatMap,bP,bI,Bool.or_eq_true,dX];constructor
  ·rintro⟨e,⟨n,hn,he⟩,rfl⟩;unfold ql at he;rcases ay.mp he with h | h
   ·split at h
    ·rename_i ht;simp at h;subst h;exact⟨n,⟨hn,.inl ht⟩,rfl⟩
    ·cases h
   ·split at h
    ·rename_i hb;simp at h;subst h;exact⟨n,⟨hn,.inr hb⟩,rfl⟩
    ·cases h
  ·rintro⟨n,⟨hn,ht | hb⟩,rfl⟩
   ·exact⟨.tp n,⟨n,hn,by simp[ql,ht]⟩,rfl⟩
   ·exact⟨.bt n,⟨n,hn,by simp[ql,hb]⟩,rfl⟩
 rw[h2]
noncomputable def zF:List Int->D
 | []=>.non
 | a::r=>if a=(a::r).getLast (by simp) then .non else .tup [.int a,.int ((a::r).getLast (by simp))]
def yP:f6:=fun ds Q=>∃(c:fc) (w:Str),ds=[c.obj,.str w]/\mq c/\Q (.fz (zF (pl c w)))
def FG:TX:=(fg (gc 2 (iI (i4 (gF 2 yM (eT (eP 0) (eT (eP 1) eY)))) [none,some 0] (fG 0) lD (gF 2 Ap (eT (eP 1) (eT (eP 0) eY)))))
 (fg (iE (fP (eV (jD fun i j=>.bl (decide (i<j))) (gV yE (eT (eP 2) eY)) (dC (.int 2)))) (ip (dC .non)) iH)
 (ip (k7 (eT (gV vm (eT (eP 2) eY)) (eT (gV vk (eT (eP 2) eY)) eY))))))
theorem ER{a:Int}{r:List Int}(h:(a::r).Pairwise (·<·)):∀x∈a::r,x<=(a::r).getLast (by simp):=by
 induction r generalizing a with
 | nil=>intro x hx;simp at hx;simp[hx]
 | cons b r ih=>
  intro x hx;rw[dg] at h;rw[List.getLast_cons (by simp)];rcases ar.mp hx with rfl | hx
  ·have:=h.1 b (by simp);have:=ih h.2 b (by simp);omega
  ·exact ih h.2 x hx
theorem V3(ds:List D)(Qr:R->Prop)(hl:ds.length=2)(h:yP ds Qr):FG { nx:=fun _=>Qr (.fz .non),rt:=Qr } (g5 ["channel","name","columns"] ds):=by
 obtain⟨c,w,rfl,sh,q⟩:=h;show FG _ [.fz c.obj,.fz (.str w),.un];unfold FG;have big:=j7;walk_at "px";have ZT:(qO c w).length<=2*c.top.length+2:=by
  unfold qO;simp only[au];have:=ES c w c.top.length;have a:∀(b:Prop) [Decidable b] (x:En),(if b then [x] else []).length<=1:=fun b _ x=>by split<;>simp
  have a1:=a (w∈c.left) .lf;have a2:=a (w∈c.right) .rt;omega
 have hw:=sh.w;refine pG (qO c w) dE (fun e=>.int (rD c e)) (fun Q' h=>?_) (by omega) (fun e he K1 k=>?_) ?_
 ·walk_at "px";exact⟨c,w,rfl,sh,h⟩
 ·walk_at "px";exact⟨c,e,rfl,k⟩
 have e0:(qO c w).map (fun e=>D.int (rD c e))=((qO c w).map (rD c)).map D.int:=by simp
 rw[e0];have hm:=Ss c w;have qZ:=Iz c w;have wg:(pl c w).Nodup:=qZ.imp fun h=>by omega
 have tw:((qO c w).map (rD c)).length<=1000:=by rw[ae];omega
 generalize (qO c w).map (rD c)=cols at hm tw ⊢;generalize pl c w=p at hm qZ wg q ⊢;walk_at "go";simp only[yE,xm];refine⟨by omega,fun l ln lm=>?_⟩;have kP:l.Perm p:=(List.perm_ext_iff_of_nodup ln wg).mpr fun k=>by rw[lm,hm]
 have hlen:=kP.length_eq;walk_at "px";match p,qZ,hm,hlen,q with
 | [],_,_,hlen,q=>
  rw[if_pos (by rw[hlen];decide)];exact q
 | [a],_,_,hlen,q=>
  rw[if_pos (by rw[hlen];simp)];simpa[zF] using q
 | a::b::r,qZ,hm,hlen,q=>
  rw[if_neg (by rw[hlen];simp only[aE];omega)];walk_at "go";simp only[vm,vk,xm];have gP:cols≠[]:=fun z=>by have:=(hm a).mpr (by simp);rw[z] at this;cases this
  refine⟨gP,fun m u7 oE=>⟨gP,fun M HA Hz=>⟨by omega,?_⟩⟩⟩;have em:m=a:=by
   have h1:=oE a ((hm a).mpr (by simp));have h2:=(hm m).mp u7;rcases ar.mp h2 with h | h
   ·exact h
   ·have:=(dg.mp qZ).1 m h;omega
  have eM:M=(a::b::r).getLast (by simp):=by
   have h1:=Hz _ ((hm _).mpr (List.getLast_mem (by simp:a::b::r≠[])));have h2:=ER qZ M ((hm M).mp HA);omega
  have fI:a<(a::b::r).getLast (by simp):=by
   have h1:=(dg.mp qZ).1 b (by simp);have h2:=ER qZ b (by simp);omega
  subst em eM;simp only[zF] at q;rw[if_neg (by omega)] at q;exact q
def lO(c:fc)(w:Str):Prop:=some w∈c.top\/some w∈c.eN\/w∈c.left\/w∈c.right
def uK:f6:=fun ds Q=>∃(c:fc) (ws:List Str),ds=[c.obj]/\mq c/\ws.length<=40/\(∀w,lO c w->w∈ws)/\∀l:List Str,l.Nodup->(∀w,w∈l↔lO c w)->sortedS l=true->Q (.ow (l.map D.str))
def Fg:TX:=(fg (gc 1 (iI (i4 (eV iq (jy "top" (eP 0)) (jy "bottom" (eP 0)))) [none] (fG 0) (fP (eV (oM true) (eP 0) (dC .non))) (eP 0)))
 (ip (gV C4 (eT (eV iq (eV iq (eP 1) (jy "left" (eP 0))) (jy "right" (eP 0))) eY))))
theorem Ff{l ws:List Str}(nd:l.Nodup)(h:∀w∈l,w∈ws):l.length<=ws.length:=by
 induction l generalizing ws with
 | nil=>simp
 | cons a r ih=>
  rw[bA] at nd;have ha:a∈ws:=h a (by simp);have:=ih (ws:=ws.erase a) nd.2 fun w hw=>(List.mem_erase_of_ne fun(z:w=a)=>nd.1 (z▸hw)).mpr (h w (by simp[hw]))
  rw[List.length_erase_of_mem ha] at this;have hp:0<ws.length:=List.length_pos_of_mem ha;simp only[aE];omega
theorem Vb(ds:List D)(Qr:R->Prop)(hl:ds.length=1)(h:uK ds Qr):Fg { nx:=fun _=>Qr (.fz .non),rt:=Qr } (g5 ["channel","pins"] ds):=by
 obtain⟨c,ws,rfl,sh,k6,hm,q⟩:=h;show Fg _ [.fz c.obj,.un];unfold Fg fc.obj;have big:=j7;have hw:=sh.w;have hb:=sh.b;walk_at "px";refine rP (c.top++c.eN) dO dO (fun x=>x.isSome) (fun Q' h=>?_) (by simp;omega) (fun x hx K1 K0 k1 k0=>?_) ?_
 ·walk_at "px";refine⟨_,rfl,_,rfl,?_⟩;unfold dP;walk_at "px";refine⟨by simp;omega,?_⟩;rw[aT] at h;exact h
 ·walk_at "px";cases x with
  | none=>exact k0 rfl
  | some x=>exact k1 rfl
 have e0:∀L:List (Option Str),((L.filter fun x=>x.isSome).map dO)=(L.filterMap id).map D.str:=by
  intro L;induction L with
  | nil=>rfl
  | cons a r ih=>cases a<;>simp_all[dO]
 rw[e0];have kO:((c.top++c.eN).filterMap id).length<=100:=by
  refine aH (eC _ _) ?_;simp;omega
 have wd:∀w,w∈(c.top++c.eN).filterMap id↔some w∈c.top\/some w∈c.eN:=by
  intro w;simp[List.mem_filterMap]
 generalize (c.top++c.eN).filterMap id=Z8 at kO wd ⊢;walk_at "go";refine⟨_,rfl,?_⟩;unfold dS;walk_at "px";have Hb:=sh.l;have ZN:=sh.r;refine⟨by simp;omega,_,rfl,?_⟩;walk_at "px";refine⟨by simp;omega,?_⟩;rw[<-aT,<-aT];simp only[C4,C5];have mm:∀w,w∈Z8++c.left++c.right↔lO c w:=by
  intro w;simp only[ay,wd,lO];constructor
  ·rintro(((h | h) | h) | h)
   ·exact .inl h
   ·exact .inr (.inl h)
   ·exact .inr (.inr (.inl h))
   ·exact .inr (.inr (.inr h))
  ·rintro(h | h | h | h)
   ·exact .inl (.inl (.inl h))
   ·exact .inl (.inl (.inr h))
   ·exact .inl (.inr h)
   ·exact .inr h
 refine⟨by simp;omega,fun l nd h=>?_,fun l nd h hs=>q l nd (fun w=>by rw[h,mm]) hs⟩;have:=Ff nd fun w hw=>hm w ((mm w).mp (h w hw))
 omega
noncomputable def uz:List (Str×Int)->Str->Int
 | [],_=>1
 | p::r,w=>if p.1=w then p.2 else uz r w
def yY:f6:=fun ds Q=>∃(c:fc) (w:Str),ds=[c.obj,.str w]/\Q (.fz (.int (uz c.wide w)))
def Fu:TX:=(fg (kj (i4 (jy "wide" (eP 0))) (kA 2 (gE (fG 2) (gE (fG 3) jR))) (iE (fP (eV oEq (eP 2) (eP 1))) (ip (eP 3)) iH))
 (ip (dC (.int 1))))
theorem VC(ds:List D)(Qr:R->Prop)(hl:ds.length=2)(h:yY ds Qr):Fu { nx:=fun _=>Qr (.fz .non),rt:=Qr } (g5 ["channel","name","wide_name","width"] ds):=by
 obtain⟨c,w,rfl,q⟩:=h;show Fu _ [.fz c.obj,.fz (.str w),.un,.un];unfold Fu;walk_at "px";refine vP c.wide uo (fun Q' h=>?_) (fun i ρ=>∃a b:Sl,ρ=[.fz c.obj,.fz (.str w),a,b]/\uz c.wide w=uz (c.wide.drop i) w) ⟨_,_,rfl,rfl⟩ ?_ ?_
 ·unfold fc.obj;walk_at "px";exact⟨_,rfl,h⟩
 ·rintro i x ρ hx ⟨a,b,rfl,hd⟩;obtain⟨hi,m8⟩:=ax.mp hx;rw[bJ hi,m8] at hd;unfold uo;walk_at "px";by_cases hw:x.1=w
  ·rw[if_pos hw];simp only[uz,if_pos hw] at hd;rw[hd] at q;exact q
  ·rw[if_neg hw];simp only[uz,if_neg hw] at hd;exact⟨_,_,rfl,hd⟩
 ·rintro ρ ⟨a,b,rfl,hd⟩;rw[List.drop_length] at hd;simp only[uz] at hd;rw[hd] at q;walk_at "go";exact q
end Wc
open PySem L2 PyProof.Rows Wc
local macro_rules | `(tactic| walk_at "px")=>`(tactic| (repeat(first | walk_at "b" | simp only[uL,Ax,wZ,t5])))
namespace Wc
open PySem L2 PyProof.Rows
structure Pc where
 n:Option Str
 l:Int
 r:Int
 k:Int
 deriving DecidableEq
noncomputable def lL(p:Pc):D:=.tup [dO p.n,.int p.l,.int p.r,.int p.k]
noncomputable def oH(ps:List Pc):D:=.lst (ps.map lL)
noncomputable def dJ:Option Int->D
 | none=>.non
 | some i=>.int i
noncomputable def DZ(p:Pc)(c:Int):Bool:=decide (p.l<=c)&&decide (c<=p.r)
noncomputable def zE(p q:Pc):Option Int:=
 if (if q.l>p.l then q.l else p.l)>(if q.r<p.r then q.r else p.r) then none else some (if q.l>p.l then q.l else p.l)
def Ao:f6:=fun ds Q=>∃p q:Pc,ds=[lL p,lL q]/\Q (.fz (dJ (zE p q)))
def FR:TX:=(fg (gc 2 (gV vk (eT (eV fX (eP 0) (dC (.int 1))) (eT (eV fX (eP 1) (dC (.int 1))) eY))))
 (fg (iE (fP (eV (jD fun i j=>.bl (decide (j<i))) (eP 2) (gV vm (eT (eV fX (eP 0) (dC (.int 2))) (eT (eV fX (eP 1) (dC (.int 2))) eY))))) (ip (dC .non)) iH)
 (ip (eP 2))))
theorem Ww(ds:List D)(Qr:R->Prop)(hl:ds.length=2)(h:Ao ds Qr):FR { nx:=fun _=>Qr (.fz .non),rt:=Qr } (g5 ["one","other","column"] ds):=by
 obtain⟨p,q,rfl,Q⟩:=h;show FR _ [.fz (lL p),.fz (lL q),.un];unfold FR lL;walk_at "px";refine⟨_,rfl,_,rfl,?_⟩;simp only[vk,vD,Iu];walk_at "go";refine⟨_,rfl,_,rfl,?_⟩;unfold vm;walk_at "px";unfold zE at Q;generalize (if q.l>p.l then q.l else p.l)=a at Q ⊢;generalize (if q.r<p.r then q.r else p.r)=b at Q ⊢;by_cases h:b<a
 ·rw[if_pos h] at Q;rw[if_pos h];exact Q
 ·rw[if_neg h] at Q;rw[if_neg h];walk_at "go";exact Q
theorem Jn:∀a b:List Int,HT.fu a b=false->a≠b->HT.fu b a=true
 | [],[],_,h=>absurd rfl h
 | [],_::_,_,_=>rfl
 | _::_,[],h,_=>by cases h
 | x::xs,y::ys,h,gP=>by
  unfold HT.fu at h ⊢;by_cases e:x=y
  ·subst e;simp only[aR] at h ⊢;exact Jn xs ys h fun z=>gP (by rw[z])
  ·have e2:¬y=x:=fun z=>e z.symm
   simp[e] at h;simp[e2];omega
theorem Kv{α:Type}(f:α->List Int):∀L:List α,oN (L.map fun a=>D.tup ((f a).map D.int))=some (L.map f)
 | []=>rfl
 | a::L=>by
  rw[aA,aA];unfold oN;rw[xm,Kv f L]
noncomputable def ng(ps:List Pc)(n:Option Str)(c:Int):List Nat:=(ps.zipIdx.filter fun p=>decide (p.1.n=n)&&DZ p.1 c).map (·.2)
def yT:f6:=fun ds Q=>∃(ps:List Pc) (n:Option Str) (c:Int),ds=[oH ps,dO n,.int c]/\ps.length<=100000/\Q (.ow ((ng ps n c).map dN))
def FQ:TX:=(ip (iI (vq (eT (eP 0) eY)) [none,none,some 1,some 2] (kA 2 (gE (fG 0) (gE (fG 1) jR))) (tT (fP (eV oEq (eV fX (eP 1) (dC (.int 0))) (eP 2))) (fP (vG (jD fun i j=>.bl (decide (i<=j))) (jD fun i j=>.bl (decide (i<=j))) (eV fX (eP 1) (dC (.int 1))) (eP 3) (eV fX (eP 1) (dC (.int 2)))))) (eP 0)))
theorem Wv(ds:List D)(Qr:R->Prop)(hl:ds.length=3)(h:yT ds Qr):FQ { nx:=fun _=>Qr (.fz .non),rt:=Qr } (g5 ["pieces","name","column"] ds):=by
 obtain⟨ps,n,c,rfl,hn,q⟩:=h;show FQ _ [.fz (oH ps),.fz (dO n),.fz (.int c)];unfold FQ oH;have big:=j7;walk_at "px";refine rP ps.zipIdx (fun p=>.tup [.int (p.2:Nat),lL p.1]) (fun p=>dN p.2) (fun p=>decide (p.1.n=n)&&DZ p.1 c) (fun Q' h=>?_) (by simp;omega) (fun p hp K1 K0 k1 k0=>?_) ?_
 ·walk_at "px";rw[Kk];exact h
 ·unfold lL;walk_at "px";refine⟨_,rfl,?_⟩;walk_at "px";unfold DZ at k1 k0;by_cases h1:p.1.n=n
  ·rw[if_pos h1];refine⟨_,rfl,?_⟩;walk_at "px";by_cases h2:p.1.l<=c
   ·rw[if_pos h2];refine⟨_,rfl,?_⟩;walk_at "px";by_cases h3:c<=p.1.r
    ·rw[if_pos h3];exact k1 (by simp[h1,h2,h3])
    ·rw[if_neg h3];exact k0 (by simp[h1,h2,h3])
   ·rw[if_neg h2];exact k0 (by simp[h1,h2])
  ·rw[if_neg h1];exact k0 (by simp[h1])
 ·unfold ng at q;rw[a9] at q;exact q
end Wc
open PySem L2 PyProof.Rows Wc
local macro_rules | `(tactic| walk_at "px")=>`(tactic| (repeat(first | walk_at "b" | simp only[zH,zN,wK,vA,wV,yv,rE,vj,uD,wX,ux,wW,vw,pD,tZ])))
namespace Wc
open PySem L2 PyProof.Rows
theorem SH{α:Type}{wi:mO}{m:List (Option Nat)}{g:kh}{te:TD}{ρ:Ev}{Q:R->Prop}(L:List α)(φ:α->D)(f:α->List D)(hw:∀Q':List D->Prop,Q' (L.map φ)->wi ρ Q')(hl:L.length<=sizeLine)
  (h:∀x∈L,∀(K1:List D->Prop),K1 (f x)->g (φ x) (iV m ρ) fun gm=>te gm fun r=>match r with | .ow es=>K1 es | _=>False) (q:Q (.ov (.ll (L.map f)))):w6 wi m g lD te ρ Q:=by
 unfold w6;refine hw _ ⟨fun i acc=>acc=(L.take i).map f,by simp,fun i d acc hd ha=>?_,fun acc ha=>?_⟩
 ·subst ha;rw[aI] at hd;cases hx:L[i]? with
  | none=>rw[hx] at hd;cases hd
  | some x=>
   rw[hx] at hd;cases hd;have fI:i<L.length:=(ax.mp hx).1;have:=h x (aV hx) (fun es=>((L.take i).map f).length<sizeLine/\(L.take i).map f++[es]=(L.take (i+1)).map f) ⟨by simp;omega,by rw[bg,hx];simp⟩;exact this
 ·subst ha;simpa using q
noncomputable abbrev Tr:=Nat×Nat×Int
noncomputable def dT(t:Tr):D:=.tup [.int t.1,.int t.2.1,.int t.2.2]
noncomputable def nc(ts:List Tr):D:=.lst (ts.map dT)
noncomputable def ky(kv:List (Nat×Int)):List (Key×D):=kv.map fun p=>(.inl (p.1:Int),.int p.2)
theorem Ej(n:Nat)(t:Tr):fQ (n+1) (dT t):=by
 intro d hd;simp only[ar,aP,cv] at hd;rcases hd with rfl | rfl | rfl<;>(rw[zX];trivial)
theorem Q9(n:Nat)(ts:List Tr):fQ (n+2) (nc ts):=yB dT ts fun t _=>Ej n t
def zG(n:Nat)(ts:List Tr):Prop:=∀t∈ts,t.1<n/\t.2.1<n
noncomputable def keys(kv:List (Nat×Int)):List Nat:=kv.map (·.1)
theorem zW{kv:List (Nat×Int)}(nd:(keys kv).Nodup){p:Nat×Int}(h:p∈kv):look (ky kv) (.inl (p.1:Int))=some (.int p.2):=by
 induction kv with
 | nil=>cases h
 | cons a r ih=>
  unfold keys at nd;rw[aA,bA] at nd;unfold ky look;rw[aA,bW];rcases ar.mp h with rfl | h
  ·simp
  ·have gP:a.1≠p.1:=fun z=>nd.1 (by rw[z];exact bU h)
   have:¬((Sum.inl (a.1:Int):Key)=Sum.inl (p.1:Int)):=fun z=>gP (by injection z with z;omega)
   simp only[this,bp];exact ih nd.2 h
theorem Ku(kv:List (Nat×Int))(n:Nat):(look (ky kv) (.inl (n:Int))).isSome=decide (n∈keys kv):=by
 induction kv with
 | nil=>rfl
 | cons a r ih=>
  unfold ky look keys;rw[aA,bW,aA];by_cases h:a.1=n
  ·subst h;simp
  ·have:¬((Sum.inl (a.1:Int):Key)=Sum.inl (n:Int)):=fun z=>h (by injection z with z;omega)
   simp only[this,bp];rw[show(Option.map (fun x=>x.2) (List.find? (fun kv=>decide (kv.1=Sum.inl (n:Int))) (List.map (fun p=>((Sum.inl (p.1:Int):Key),D.int p.2)) r))).isSome=(look (ky r) (.inl (n:Int))).isSome from rfl,ih];rw[eh,decide_eq_true_iff,decide_eq_true_iff];simp[keys,Ne.symm h]
theorem Jm{kv:List (Nat×Int)}{n:Nat}{l:Int}(h:n∉keys kv):wL (ky kv) (.inl (n:Int)) (.int l)=ky (kv++[(n,l)]):=by
 unfold wL;rw[if_neg]
 ·unfold ky;simp
 ·intro z;rw[List.any_eq_true] at z;obtain⟨x,hx,e⟩:=z;unfold ky at hx;rw[aK] at hx;obtain⟨p,hp,rfl⟩:=hx;simp only[bF,Sum.inl.injEq] at e;exact h (by unfold keys;rw[aK];exact⟨p,hp,by omega⟩)
theorem EE{n k:Nat}(h:k<n):qD n (k:Int)=some k:=by
 unfold qD;rw[if_pos (by omega),if_pos (by omega)];simp
theorem Fe{α:Type}(n:Nat)(f:Nat->α)(u:Nat)(v:α):((List.range n).map f).set u v=(List.range n).map fun x=>if x=u then v else f x:=by
 apply List.ext_getElem?;intro i;rw[List.getElem?_set,aI,aI];by_cases hi:i<n
 ·rw[List.getElem?_range hi];by_cases h:u=i
  ·subst h;simp[hi]
  ·rw[if_neg h];simp[Ne.symm h]
 ·rw[c9 (by simpa using hi)];simp only[Option.map_none,ae,bE];split
  ·rename_i h;rw[if_neg (by omega)]
  ·rfl
theorem Ki{α:Type}{n:Nat}(f:Nat->α){u:Nat}(h:u<n):((List.range n).map f)[u]?=some (f u):=by rw[aI,List.getElem?_range h];rfl
theorem Ag{α:Type}{n:Nat}(f:Nat->α){u:Nat}(h:u<n):iu ((List.range n).map f) (u:Int)=some (f u):=by
 rw[CO,nu (by simpa using h)];simp
structure yi (n:Nat) (ts:List Tr) (kv:List (Nat×Int)):Prop where
 nd:(keys kv).Nodup
 lt:∀p∈kv,p.1<n
 up:∀p∈kv,∀t∈ts,t.2.1=p.1->∃l,(t.1,l)∈kv/\l+1<=p.2
 top:∀p∈kv,(p.2=0/\∀t∈ts,t.2.1≠p.1)\/∃t∈ts,t.2.1=p.1/\(t.1,p.2-1)∈kv
 out:∀q,q<n->q∉keys kv->∃t∈ts,t.2.1=q/\t.1∉keys kv
 oA:kv.Pairwise fun a b=>a.2<=b.2
noncomputable def nq(ts:List Tr)(u:Nat):List Nat:=(ts.filter fun t=>t.1==u).map (·.2.1)
noncomputable def il(ts:List Tr)(dn:List Nat)(q:Nat):Nat:=ts.countP fun t=>t.2.1==q&&!(dn.contains t.1)
structure Lp (n:Nat) (ts:List Tr) (kv:List (Nat×Int)) (w:Nat->Nat) (dn rest:List Nat):Prop where
 nd:(keys kv).Nodup
 lt:∀p∈kv,p.1<n
 up:∀p∈kv,∀t∈ts,t.2.1=p.1->∃l,(t.1,l)∈kv/\l+1<=p.2
 top:∀p∈kv,(p.2=0/\∀t∈ts,t.2.1≠p.1)\/∃t∈ts,t.2.1=p.1/\(t.1,p.2-1)∈kv
 wz:∀q,q<n->(w q=0↔q∈keys kv)
 wc:∀q,q<n->w q=il ts dn q+rest.count q
 oA:kv.Pairwise fun a b=>a.2<=b.2
theorem Lp.done{n:Nat}{ts:List Tr}{kv:List (Nat×Int)}{w:Nat->Nat}(h:Lp n ts kv w (keys kv) []):yi n ts kv:=by
 refine⟨h.nd,h.lt,h.up,h.top,fun q hq hn=>?_,h.oA⟩;have h1:w q≠0:=fun z=>hn ((h.wz q hq).mp z)
 rw[h.wc q hq,List.count_nil,Nat.add_zero] at h1;have h2:0<il ts (keys kv) q:=by omega
 unfold il at h2;rw[List.countP_pos_iff] at h2;obtain⟨t,ht,e⟩:=h2;simp only[cg,dX,bG,List.contains_eq_mem,aZ] at e;exact⟨t,ht,e.1,e.2⟩
theorem SG(ts:List Tr)(dn:List Nat)(u q:Nat)(hu:u∉dn):il ts dn q=il ts (dn++[u]) q+(nq ts u).count q:=by
 unfold il nq;induction ts with
 | nil=>rfl
 | cons t ts ih=>
  rw[dU,dU,ih,List.filter_cons];by_cases h1:t.1=u
  ·subst h1;have:dn.contains t.1=false:=by simpa using hu
   simp only[this,de,aR,aA,eK,List.contains_append,List.contains_cons,Bool.true_or,Bool.or_true,bS,Bool.and_false,af,aJ,dZ,Bool.and_true];omega
  ·have e1:(t.1==u)=false:=by simpa using h1
   have e2:(dn++[u]).contains t.1=dn.contains t.1:=by simp[h1]
   rw[e2];simp only[e1,af,aJ];omega
theorem yJ{α:Type}[DecidableEq α]{l ws:List α}(nd:l.Nodup)(h:∀w∈l,w∈ws):l.length<=ws.length:=by
 induction l generalizing ws with
 | nil=>simp
 | cons a r ih=>
  rw[bA] at nd;have ha:=h a (by simp);have h2:=ih (ws:=ws.erase a) nd.2 fun w hw=>(List.mem_erase_of_ne (fun z:w=a=>nd.1 (z▸hw))).mpr (h w (by simp[hw]))
  rw[List.length_erase_of_mem ha] at h2;have:=List.length_pos_of_mem ha;simp only[aE];omega
theorem CD{n:Nat}{kv:List (Nat×Int)}(nd:(keys kv).Nodup)(lt:∀p∈kv,p.1<n):kv.length<=n:=by
 have:=yJ (ws:=List.range n) nd fun w hw=>by
  unfold keys at hw;rw[aK] at hw;obtain⟨p,hp,rfl⟩:=hw;exact bP.mpr (lt p hp)
 simpa[keys] using this
theorem Lp.less{n:Nat}{ts:List Tr}{kv:List (Nat×Int)}{w:Nat->Nat}{dn rest:List Nat}{q:Nat}(h:Lp n ts kv w dn (q::rest))(hq:q<n):1<=w q/\q∉keys kv:=by
 have h1:=h.wc q hq;rw[List.count_cons_self] at h1;refine⟨by omega,fun z=>?_⟩;have:=(h.wz q hq).mpr z;omega
theorem Lp.nG{n:Nat}{ts:List Tr}{kv:List (Nat×Int)}{w:Nat->Nat}{dn rest:List Nat}{q:Nat}(h:Lp n ts kv w dn (q::rest))(hq:q<n)(gP:w q-1≠0):Lp n ts kv (fun x=>if x=q then w q-1 else w x) dn rest:=by
 obtain⟨h1,h2⟩:=h.less hq;refine⟨h.nd,h.lt,h.up,h.top,fun x hx=>?_,fun x hx=>?_,h.oA⟩
 ·split
  ·rename_i e;subst e;exact⟨fun z=>absurd z gP,fun z=>absurd z h2⟩
  ·exact h.wz x hx
 ·have:=h.wc x hx;rw[eK] at this;split
  ·rename_i e;subst e;simp at this;omega
  ·rename_i e;have e2:(q==x)=false:=by simpa using Ne.symm e
   simp[e2] at this;exact this
theorem Lp.step{n:Nat}{ts:List Tr}{kv:List (Nat×Int)}{w:Nat->Nat}{dn rest:List Nat}{q u:Nat}{lu:Int}(h:Lp n ts kv w dn (q::rest))(hq:q<n)(he:w q-1=0)
  (qZ:∀x∈dn,∃l,(x,l)∈kv/\l<=lu) (hu:(u,lu)∈kv) (ht:∃t∈ts,t.2.1=q/\t.1=u) (YZ:∀x∈kv,x.2<=lu+1):Lp n ts (kv++[(q,lu+1)]) (fun x=>if x=q then w q-1 else w x) dn rest:=by
 obtain⟨h1,h2⟩:=h.less hq;have hw:=h.wc q hq;rw[List.count_cons_self] at hw;have hc:il ts dn q=0:=by omega
 have hk:keys (kv++[(q,lu+1)])=keys kv++[q]:=by unfold keys;simp
 refine⟨?_,fun p hp=>?_,fun p hp t fY e=>?_,fun p hp=>?_,fun x hx=>?_,fun x hx=>?_,?_⟩
 ·rw[hk,cY];refine⟨h.nd,by simp,fun a ha b hb=>?_⟩;simp at hb;subst hb;exact fun z=>h2 (z▸ha)
 ·rcases ay.mp hp with hp | hp
  ·exact h.lt p hp
  ·simp at hp;subst hp;exact hq
 ·rcases ay.mp hp with hp | hp
  ·obtain⟨l,l1,l2⟩:=h.up p hp t fY e;exact⟨l,bZ _ l1,l2⟩
  ·simp at hp;subst hp;unfold il at hc;rw[List.countP_eq_zero] at hc;have:=hc t fY;simp only[cg,dX,bG,List.contains_eq_mem,aZ] at this;have hm:t.1∈dn:=ee fun z=>this ⟨e,z⟩
   obtain⟨l,l1,l2⟩:=qZ _ hm;exact⟨l,bZ _ l1,by dsimp only;omega⟩
 ·rcases ay.mp hp with hp | hp
  ·rcases h.top p hp with z | ⟨t,t1,t2,t3⟩
   ·exact .inl z
   ·exact .inr ⟨t,t1,t2,bZ _ t3⟩
  ·simp at hp;subst hp;obtain⟨t,t1,t2,t3⟩:=ht;refine .inr ⟨t,t1,t2,bZ _ ?_⟩;rw[t3];dsimp only;rw[show lu+1-1=lu by omega];exact hu
 ·rw[hk];split
  ·rename_i e;subst e;simp[he]
  ·rename_i e;rw[h.wz x hx];simp[e]
 ·have:=h.wc x hx;rw[eK] at this;split
  ·rename_i e;subst e;simp at this;omega
  ·rename_i e;have e2:(q==x)=false:=by simpa using Ne.symm e
   simp[e2] at this;exact this
 ·rw[bM];refine⟨h.oA,by simp,fun a ha b hb=>?_⟩;simp at hb;subst hb;exact YZ a ha
theorem Lp.next{n:Nat}{ts:List Tr}{kv:List (Nat×Int)}{w:Nat->Nat}{dn:List Nat}{u:Nat}(h:Lp n ts kv w dn [])(hu:u∉dn):Lp n ts kv w (dn++[u]) (nq ts u):=by
 refine⟨h.nd,h.lt,h.up,h.top,h.wz,fun x hx=>?_,h.oA⟩;rw[h.wc x hx,List.count_nil,Nat.add_zero,SG ts dn u x hu]
end Wc
open PySem L2 PyProof.Rows Wc
local macro_rules | `(tactic| walk_at "px")=>`(tactic| (repeat(first | walk_at "b" | simp only[uL,Ax,wZ,t5,Ca,wM])))
namespace Wc
open PySem L2 PyProof.Rows
noncomputable def yo:List Int->Option (Int×Int)
 | []=>none
 | a::r=>if a=(a::r).getLast (by simp) then none else some (a,(a::r).getLast (by simp))
theorem Jl(p:List Int):zF p=match yo p with | none=>.non | some q=>.tup [.int q.1,.int q.2]:=by
 cases p with
 | nil=>rfl
 | cons a r=>
  simp only[zF,yo];by_cases h:a=(a::r).getLast (by simp)
  ·rw[if_pos h,if_pos h]
  ·rw[if_neg h,if_neg h]
noncomputable def uC(c:fc)(w:Str):List Int:=(c.fm.filter fun p=>decide (p.2=w)).map (·.1)
def AE:f6:=fun ds Q=>∃(c:fc) (w:Str),ds=[c.obj,.str w]/\c.fm.length<=100/\Q (.ow ((uC c w).map D.int))
def F4:TX:=(ip (iI (i4 (jy "bends" (eP 0))) [none,none,some 1] (kA 2 (gE (fG 0) (gE (fG 1) jR))) (fP (eV oEq (eP 1) (eP 2))) (eP 0)))
theorem Xb(ds:List D)(Qr:R->Prop)(hl:ds.length=2)(h:AE ds Qr):F4 { nx:=fun _=>Qr (.fz .non),rt:=Qr } (g5 ["channel","name"] ds):=by
 obtain⟨c,w,rfl,hb,q⟩:=h;show F4 _ [.fz c.obj,.fz (.str w)];unfold F4;have big:=j7;walk_at "px";refine rP c.fm pM (fun p=>.int p.1) (fun p=>decide (p.2=w)) (fun Q' h=>?_) (by omega) (fun p hp K1 K0 k1 k0=>?_) ?_
 ·unfold fc.obj;walk_at "px";exact⟨_,rfl,h⟩
 ·unfold pM;walk_at "px";by_cases h1:p.2=w
  ·rw[if_pos h1];exact k1 (by simpa using h1)
  ·rw[if_neg h1];exact k0 (by simpa using h1)
 ·unfold uC at q;rw[a9] at q;exact q
noncomputable def B3(w:Str)(k:Int)(bs:List Int):List Pc:=(bs.zip (bs.drop 1)).map fun p=>⟨some w,p.1,p.2,k⟩
noncomputable def tR(c:fc)(hV:Bool)(w:Str):List Pc:=match yo (pl c w) with
 | none=>[]
 | some p=>B3 w (uz c.wide w) ([p.1]++(if hV then uC c w else [])++[p.2])
def xq:f6:=fun ds Q=>∃(c:fc) (w:Str) (hV:Bool),ds=[c.obj,.str w,.bl hV]/\mq c/\c.fm.length<=100/\Q (.ow ((tR c hV w).map lL))
def FF:TX:=(fg (gc 3 (gF 2 yP (eT (eP 0) (eT (eP 1) eY))))
 (fg (iE (fP (eV (oM false) (eP 3) (dC .non))) (ip (i5 eY)) iH)
 (fg (gc 4 (x9 (fP (eP 2)) (gF 2 AE (eT (eP 0) (eT (eP 1) eY))) (i5 eY)))
 (fg (gc 5 (eV iq (eV iq (i5 (eT (eV fX (eP 3) (dC (.int 0))) eY)) (eP 4)) (i5 (eT (eV fX (eP 3) (dC (.int 1))) eY))))
 (fg (gc 6 (gF 2 yY (eT (eP 0) (eT (eP 1) eY))))
 (ip (iI (Ca (eT (eP 5) (eT (nS (eP 5) (mQ (dC (.int 1))) pL) eY))) [none,none,some 1,some 6] (kA 2 (gE (fG 0) (gE (fG 1) jR))) lD (k7 (eT (eP 2) (eT (eP 0) (eT (eP 1) (eT (eP 3) eY))))))))))))
theorem SF(a b:List Int):ym (a.map D.int) (b.map D.int)=(a.zip b).map fun p=>.tup [.int p.1,.int p.2]:=by
 unfold ym;rw[List.zipWith_map];induction a generalizing b with
 | nil=>rfl
 | cons x r ih=>cases b with
  | nil=>rfl
  | cons y s=>rw[List.zipWith_cons_cons,List.zip_cons_cons,aA,ih]
theorem V2(ds:List D)(Qr:R->Prop)(hl:ds.length=3)(h:xq ds Qr):FF { nx:=fun _=>Qr (.fz .non),rt:=Qr } (g5 ["channel","name","bent","stretch","cuts","borders","width"] ds):=by
 obtain⟨c,w,hV,rfl,sh,hb,q⟩:=h;show FF _ [.fz c.obj,.fz (.str w),.fz (.bl hV),.un,.un,.un,.un];unfold FF;have big:=j7;walk_at "px";refine⟨c,w,rfl,sh,?_⟩;rw[Jl];unfold tR at q;generalize yo (pl c w)=st at q ⊢;cases st with
 | none=>
  walk_at "go";exact⟨by omega,q⟩
 | some p=>
  walk_at "go";have Dz:(if hV then uC c w else []).length<=100:=by
   split
   ·unfold uC;rw[ae];exact aH (aY _ _) hb
   ·simp
  have fin:∀cs:List Int,cs=(if hV then uC c w else [])->qh (fg (gc 5 (eV iq (eV iq (i5 (eT (eV fX (eP 3) (dC (.int 0))) eY)) (eP 4)) (i5 (eT (eV fX (eP 3) (dC (.int 1))) eY))))
 (fg (gc 6 (gF 2 yY (eT (eP 0) (eT (eP 1) eY))))
 (ip (iI (Ca (eT (eP 5) (eT (nS (eP 5) (mQ (dC (.int 1))) pL) eY))) [none,none,some 1,some 6] (kA 2 (gE (fG 0) (gE (fG 1) jR))) lD (k7 (eT (eP 2) (eT (eP 0) (eT (eP 1) (eT (eP 3) eY))))))))) { nx:=fun _=>Qr (.fz .non),rt:=Qr } [.fz c.obj,.fz (.str w),.fz (.bl hV),.fz (.tup [.int p.1,.int p.2]),.fz (.lst (cs.map D.int)),.un,.un]:=by
   intro cs Dy;rw[<-Dy] at q Dz;walk_at "go";refine⟨.int p.1,rfl,by omega,by simp;omega,.int p.2,rfl,by omega,by simp;omega,?_⟩;walk_at "go";refine⟨c,w,rfl,?_⟩;walk_at "go";have eb:(D.int p.1::(List.map D.int cs++[D.int p.2]))=([p.1]++cs++[p.2]).map D.int:=by simp
   simp only[eb];have Ht:([p.1]++cs++[p.2]).length<=102:=by simp;omega
   dsimp only at q;generalize [p.1]++cs++[p.2]=bs at q Ht ⊢;refine pG (bs.zip (bs.drop 1)) (fun p=>.tup [.int p.1,.int p.2]) (fun p=>lL ⟨some w,p.1,p.2,uz c.wide w⟩) (fun Q' h=>?_) (by simp;omega) (fun x hx K1 k=>?_) ?_
   ·walk_at "px";rw[C0 _ (by decide)];have e1:Int.toNat 1=1:=rfl;rw[SF];exact h
   ·walk_at "px";exact⟨by omega,k⟩
   ·unfold B3 at q;rw[a9] at q;exact q
  cases hV with
  | true=>
   walk_at "go";refine⟨c,w,rfl,hb,?_⟩;exact fin _ rfl
  | false=>
   walk_at "go";exact⟨by omega,fin [] rfl⟩
structure p7 (c:fc) (l:List Str):Prop where
 nd:l.Nodup
 mem:∀w,w∈l↔lO c w
 oA:sortedS l=true
noncomputable def wR(c:fc):List Pc:=c.keeps.map fun k=>⟨none,k.1,k.2.1,k.2.2⟩
noncomputable def uG(c:fc)(hV:Bool)(l:List Str):List Pc:=wR c++l.flatMap (tR c hV)
theorem Kh(c:fc)(hV:Bool)(w:Str):(tR c hV w).length<=c.fm.length+1:=by
 unfold tR;split
 ·simp
 ·unfold B3;have:(uC c w).length<=c.fm.length:=by unfold uC;rw[ae];exact aY _ _
  have:(if hV then uC c w else []).length<=c.fm.length:=by split<;>simp[*]
  simp;omega
theorem z6{α β:Type}(f:α->List β)(k:Nat)(h:∀a,(f a).length<=k):∀l:List α,(l.flatMap f).length<=l.length*k:=by
 intro l;induction l with
 | nil=>simp
 | cons a r ih=>
  rw[dG,au,aE,Nat.succ_mul];have:=h a;omega
def yS:f6:=fun ds Q=>∃(c:fc) (hV:Bool) (ws:List Str),ds=[c.obj,.bl hV]/\mq c/\c.fm.length<=100/\c.keeps.length<=100/\ws.length<=40/\(∀w,lO c w->w∈ws)/\∀l,p7 c l->Q (.ow ((uG c hV l).map lL))
def C2:TX:=(fg (kB 2 (iI (i4 (jy "keeps" (eP 0))) [none,none,none] (kA 3 (gE (fG 0) (gE (fG 1) (gE (fG 2) jR)))) lD (k7 (eT (dC .non) (eT (eP 0) (eT (eP 1) (eT (eP 2) eY)))))))
 (fg (kj (i4 (gF 1 uK (eT (eP 0) eY))) (fG 3) (wM 2 (gF 3 xq (eT (eP 0) (eT (eP 3) (eT (eP 1) eY))))))
 (pD 2)))
theorem Wu(ds:List D)(Qr:R->Prop)(hl:ds.length=2)(h:yS ds Qr):C2 { nx:=fun _=>Qr (.fz .non),rt:=Qr } (g5 ["channel","bent","pieces","name"] ds):=by
 obtain⟨c,hV,ws,rfl,sh,hb,hk,k6,hm,q⟩:=h;show C2 _ [.fz c.obj,.fz (.bl hV),.un,.un];unfold C2;have big:=j7;walk_at "px";refine pG c.keeps tK (fun k=>lL ⟨none,k.1,k.2.1,k.2.2⟩) (fun Q' h=>?_) (by omega) (fun x hx K1 k=>?_) ?_
 ·unfold fc.obj;walk_at "px";exact⟨_,rfl,h⟩
 ·unfold tK;walk_at "px";exact⟨by omega,k⟩
 ·have ek:c.keeps.map (fun k=>lL ⟨none,k.1,k.2.1,k.2.2⟩)=(wR c).map lL:=by unfold wR;rw[a9];rfl
  rw[ek];walk_at "go";refine Fb (fun ds=>∃l,p7 c l/\ds=l.map D.str) (fun Q' h=>?_) ?_
  ·walk_at "px";exact⟨c,ws,rfl,sh,k6,hm,fun l nd mem oA=>h _ ⟨l,⟨nd,mem,oA⟩,rfl⟩⟩
  rintro _ ⟨l,hN,rfl⟩;have MC:l.length<=40:=aH (Ff hN.nd fun w hw=>hm w ((hN.mem w).mp hw)) k6;refine Lc l D.str (fun i ρ=>∃a:Sl,ρ=[.fz c.obj,.fz (.bl hV),.ow ((wR c++(l.take i).flatMap (tR c hV)).map lL),a]) ⟨.un,by simp⟩ ?_ ?_
  ·rintro i x ρ hx ⟨a,rfl⟩;walk_at "px";refine⟨c,x,hV,rfl,sh,hb,?_⟩;have h1:=z6 (tR c hV) 101 (fun w=>by have:=Kh c hV w;omega) (l.take i);have h2:=Kh c hV x;have h3:(wR c).length<=100:=by unfold wR;rw[ae];exact hk
   have h4:(l.take i).length<=40:=by rw[aM];omega
   refine⟨by simp only[au,ae];omega,.fz (.str x),?_⟩;rw[bg,hx];simp[c8]
  ·rintro ρ ⟨a,rfl⟩;walk_at "go";rw[bN];exact q l hN
end Wc
open PySem L2 PyProof.Rows Wc
local macro_rules | `(tactic| walk_at "px")=>`(tactic| (repeat(first | walk_at "b" | simp only[uL,Ax,wZ,t5,wM])))
namespace Wc
open PySem L2 PyProof.Rows
noncomputable def uB(p:Pc)(ps:List Pc):List (Nat×Option Int):=(ps.zipIdx.filter fun q=>q.1.n.isSome).map fun q=>(q.2,zE p q.1)
noncomputable def vi(p:Pc)(ps:List Pc):List (Nat×Int):=(uB p ps).filterMap fun x=>x.2.map fun c=>(x.1,c)
def AD:f6:=fun ds Q=>∃(p:Pc) (ps:List Pc),ds=[lL p,oH ps]/\ps.length<=1000/\Q (.ow ((vi p ps).map fun x=>.tup [dN x.1,.int x.2]))
def F3:TX:=(fg (gc 2 (iI (vq (eT (eP 1) eY)) [none,none,some 0] (kA 2 (gE (fG 0) (gE (fG 1) jR))) (fP (eV (oM true) (eV fX (eP 1) (dC (.int 0))) (dC .non))) (k7 (eT (eP 0) (eT (gF 2 Ao (eT (eP 2) (eT (eP 1) eY))) eY)))))
 (ip (iI (i4 (eP 2)) [none,none] (kA 2 (gE (fG 0) (gE (fG 1) jR))) (fP (eV (oM true) (eP 1) (dC .non))) (k7 (eT (eP 0) (eT (eP 1) eY))))))
theorem Xa(ds:List D)(Qr:R->Prop)(hl:ds.length=2)(h:AD ds Qr):F3 { nx:=fun _=>Qr (.fz .non),rt:=Qr } (g5 ["keep","pieces","commons"] ds):=by
 obtain⟨p,ps,rfl,hn,q⟩:=h;show F3 _ [.fz (lL p),.fz (oH ps),.un];unfold F3;have big:=j7;walk_at "px";refine rP ps.zipIdx (fun p=>.tup [.int (p.2:Nat),lL p.1]) (fun q=>.tup [dN q.2,dJ (zE p q.1)]) (fun q=>q.1.n.isSome) (fun Q' h=>?_) (by simp;omega) (fun x hx K1 K0 k1 k0=>?_) ?_
 ·unfold oH;walk_at "px";rw[Kk];exact h
 ·show kA 2 (gE (fG 0) (gE (fG 1) jR)) (.tup [.int (x.2:Nat),lL x.1]) _ _;walk_at "px";have ed:lL x.1=.tup [dO x.1.n,.int x.1.l,.int x.1.r,.int x.1.k]:=rfl;simp only[ed];refine⟨_,rfl,?_⟩;cases sW:x.1.n with
  | none=>simp only[dO];walk_at "px";exact k0 (by rw[sW];rfl)
  | some w=>
   simp only[dO];walk_at "px";have e2:D.tup [D.str w,D.int x.1.l,D.int x.1.r,D.int x.1.k]=lL x.1:=by rw[ed,sW];rfl
   rw[e2];refine⟨p,x.1,rfl,?_⟩;exact⟨by omega,k1 (by rw[sW];rfl)⟩
 ·have e1:(ps.zipIdx.filter fun q=>q.1.n.isSome).map (fun q=>D.tup [dN q.2,dJ (zE p q.1)])=(uB p ps).map fun x=>.tup [dN x.1,dJ x.2]:=by unfold uB;rw[a9];rfl
  rw[e1];have tw:(uB p ps).length<=1000:=by
   unfold uB;rw[ae];refine aH (aY _ _) ?_;simpa using hn
  unfold vi at q;generalize uB p ps=cs at q tw ⊢;walk_at "go";refine EK cs (fun x=>.tup [dN x.1,dJ x.2]) (fun x=>(x.2.map fun c=>(x.1,c)).map fun x=>.tup [dN x.1,.int x.2]) (fun Q' h=>?_) (by omega) (fun x hx K1 K0 k1 k0=>?_) ?_
  ·walk_at "px";exact h
  ·walk_at "px";cases Mh:x.2 with
   | none=>simp only[dJ];walk_at "px";exact k0 (by rw[Mh];rfl)
   | some c=>
    simp only[dJ];walk_at "px";exact⟨by omega,k1 _ (by rw[Mh];rfl)⟩
  ·rw[List.map_filterMap] at q;exact q
theorem Jk(p:Pc)(ps:List Pc):(vi p ps).length<=ps.length:=by
 unfold vi uB;refine aH (eC _ _) ?_;rw[ae];refine aH (aY _ _) ?_;simp
noncomputable def rL(ps:List Pc)(p:Pc×Nat):List Tr:=if p.1.n=none then(vi p.1 ps).map fun x=>(p.2,x.1,x.2) else []
noncomputable def lK(ps:List Pc):List Tr:=ps.zipIdx.flatMap (rL ps)
theorem Lo(ps:List Pc)(p:Pc×Nat):(rL ps p).length<=ps.length:=by
 unfold rL;split
 ·rw[ae];exact Jk _ _
 ·simp
theorem yO{α β:Type}(f:α->List β)(k:Nat)(h:∀a,(f a).length<=k):∀l:List α,(l.flatMap f).length<=l.length*k:=by
 intro l;induction l with
 | nil=>simp
 | cons a r ih=>
  rw[dG,au,aE,Nat.succ_mul];have:=h a;omega
def AB:f6:=fun ds Q=>∃ps:List Pc,ds=[oH ps]/\ps.length<=1000/\Q (.ow ((lK ps).map dT))
def F2:TX:=(fg (kB 1 (i5 eY))
 (fg (kj (vq (eT (eP 0) eY)) (kA 2 (gE (fG 2) (gE (fG 3) jR))) (iE (fP (eV (oM false) (eV fX (eP 3) (dC (.int 0))) (dC .non))) (wM 1 (iI (i4 (gF 2 AD (eT (eP 3) (eT (eP 0) eY)))) [none,none,some 2] (kA 2 (gE (fG 0) (gE (fG 1) jR))) lD (k7 (eT (eP 2) (eT (eP 0) (eT (eP 1) eY)))))) iH))
 (pD 1)))
theorem W9(ds:List D)(Qr:R->Prop)(hl:ds.length=1)(h:AB ds Qr):F2 { nx:=fun _=>Qr (.fz .non),rt:=Qr } (g5 ["pieces","triples","upper","keep"] ds):=by
 obtain⟨ps,rfl,hn,q⟩:=h;show F2 _ [.fz (oH ps),.un,.un,.un];unfold F2;have big:=j7;walk_at "px";refine⟨by omega,?_⟩;walk_at "go";refine Fj ps lL (fun Q' h=>?_) (fun i ρ=>∃a b:Sl,ρ=[.fz (oH ps),.ow ((((ps.zipIdx.take i).flatMap (rL ps))).map dT),a,b]) ⟨.un,.un,by simp⟩ ?_ ?_
 ·unfold oH;walk_at "px";exact h
 ·rintro i x ρ hx ⟨a,b,rfl⟩;have hi:i<ps.length:=(ax.mp hx).1;have hz:ps.zipIdx[i]?=some (x,i):=by rw[List.getElem?_zipIdx,hx];simp
  have tk:ps.zipIdx.take (i+1)=ps.zipIdx.take i++[(x,i)]:=by rw[bg,hz];rfl
  have len:=yO (rL ps) 1000 (fun a=>aH (Lo ps a) hn) (ps.zipIdx.take i);have l4:(ps.zipIdx.take i).length<=1000:=by rw[aM];omega
  rw[tk,c8,dG,eG,bz];generalize (ps.zipIdx.take i).flatMap (rL ps)=acc at len ⊢;have ed:lL x=.tup [dO x.n,.int x.l,.int x.r,.int x.k]:=rfl;walk_at "px";simp only[ed];refine⟨_,rfl,?_⟩;cases sW:x.n with
  | some w=>
   simp only[dO];walk_at "px";refine⟨.fz (.int i),.fz (lL x),?_⟩;unfold rL;rw[if_neg (by rw[sW];exact fun z=>nomatch z),bz,ed,sW];rfl
  | none=>
   simp only[dO];walk_at "px";have e2:D.tup [D.non,D.int x.l,D.int x.r,D.int x.k]=lL x:=by rw[ed,sW];rfl
   rw[e2];have bl:=Jk x ps;refine pG (vi x ps) (fun y=>.tup [dN y.1,.int y.2]) (fun y=>dT (i,y.1,y.2)) (fun Q' h=>?_) (by omega) (fun y hy K1 k=>?_) ?_
   ·walk_at "px";exact⟨x,ps,rfl,hn,h⟩
   ·unfold dN;walk_at "px";exact⟨by omega,k⟩
   ·refine⟨by simp only[ae];omega,.fz (.int i),.fz (lL x),?_⟩;unfold rL;rw[if_pos (by exact sW),aT,a9];rfl
 ·rintro ρ ⟨a,b,rfl⟩;walk_at "go";rw[show ps.length=ps.zipIdx.length by simp,bN];exact q
noncomputable def qN(c:fc)(ps:List Pc)(n:Nat):List Tr:=match c.top[n]?,c.eN[n]? with
 | some (some u),some (some v)=>if u=v then [] else(ng ps (some u) n).flatMap fun a=>(ng ps (some v) n).map fun b=>(a,b,(n:Int))
 | _,_=>[]
noncomputable def o4(c:fc)(ps:List Pc):List Tr:=(List.range c.top.length).flatMap (qN c ps)
theorem CC(ps:List Pc)(n:Option Str)(c:Int):(ng ps n c).length<=ps.length:=by
 unfold ng;rw[ae];refine aH (aY _ _) ?_;simp
theorem Kt(c:fc)(ps:List Pc)(n:Nat):(qN c ps n).length<=ps.length*ps.length:=by
 unfold qN;split
 ·split
  ·simp
  ·rename_i u v _ _ _;refine aH (yO _ ps.length (fun a=>by rw[ae];exact CC _ _ _) _) ?_;exact Nat.mul_le_mul_right _ (CC _ _ _)
 ·simp
def AO:f6:=fun ds Q=>∃(c:fc) (ps:List Pc),ds=[c.obj,oH ps]/\mq c/\ps.length<=500/\Q (.ow ((o4 c ps).map dT))
def FL:TX:=(fg (kB 2 (i5 eY))
 (fg (kj (nr (eT (gV mP (eT (jy "top" (eP 0)) eY)) eY)) (fG 3) (fg (gc 4 (eV fX (jy "top" (eP 0)) (eP 3)))
 (fg (gc 5 (eV fX (jy "bottom" (eP 0)) (eP 3)))
 (iE (tT (fP (eV (oM true) (eP 4) (dC .non))) (tT (fP (eV (oM true) (eP 5) (dC .non))) (fP (eV A9 (eP 4) (eP 5))))) (fg (gc 6 (gF 3 yT (eT (eP 1) (eT (eP 5) (eT (eP 3) eY)))))
 (kj (i4 (gF 3 yT (eT (eP 1) (eT (eP 4) (eT (eP 3) eY))))) (fG 7) (wM 2 (iI (i4 (eP 6)) [none,some 7,some 3] (fG 0) lD (k7 (eT (eP 1) (eT (eP 0) (eT (eP 2) eY)))))))) iH))))
 (pD 2)))
theorem W0(ds:List D)(Qr:R->Prop)(hl:ds.length=2)(h:AO ds Qr):FL { nx:=fun _=>Qr (.fz .non),rt:=Qr } (g5 ["channel","pieces","triples","column","upper_name","lower_name","lowers","upper"] ds):=by
 obtain⟨c,ps,rfl,sh,hn,q⟩:=h;show FL _ [.fz c.obj,.fz (oH ps),.un,.un,.un,.un,.un,.un];unfold FL;have big:=j7;have hw:=sh.w;walk_at "px";refine⟨by omega,?_⟩;walk_at "go";refine vR c.top.length (fun Q' h=>?_) (fun i ρ=>∃a b d e f:Sl,ρ=[.fz c.obj,.fz (oH ps),.ow (((List.range i).flatMap (qN c ps)).map dT),a,b,d,e,f]) ⟨.un,.un,.un,.un,.un,by simp⟩ ?_ ?_
 ·unfold fc.obj;walk_at "px";refine⟨_,rfl,?_⟩;unfold dP;walk_at "px";rw[ae];exact⟨by omega,by omega,by simpa using h⟩
 ·rintro i ρ hi ⟨a,b,d,e,f,rfl⟩;have Bz:i<c.eN.length:=by rw[sh.b];exact hi
  have sq:ps.length*ps.length<=250000:=Nat.mul_le_mul hn hn;have len:=yO (qN c ps) 250000 (fun a=>aH (Kt c ps a) sq) (List.range i);rw[bE] at len;rw[List.range_succ,c8,dG,eG,bz];generalize (List.range i).flatMap (qN c ps)=acc at len ⊢;walk_at "px";unfold fc.obj;walk_at "px";refine⟨_,rfl,?_⟩;unfold dP;walk_at "px";refine⟨_,nu hi,?_⟩;walk_at "go";refine⟨_,rfl,?_⟩;walk_at "px";refine⟨_,nu Bz,?_⟩;have obj:D.obj (Str.ofString "Channel") [(Str.ofString "top",D.lst (c.top.map dO)),(Str.ofString "bottom",D.lst (c.eN.map dO)),(Str.ofString "left",dS c.left),(Str.ofString "right",dS c.right),(Str.ofString "wide",dW c.wide),(Str.ofString "bends",dB c.fm),(Str.ofString "keeps",dK c.keeps)]=c.obj:=rfl;rw[obj];have pe:qN c ps i=match c.top[i],c.eN[i] with | some u,some v=>(if u=v then [] else(ng ps (some u) i).flatMap fun a=>(ng ps (some v) i).map fun b=>(a,b,(i:Int))) | _,_=>[]:=by
   unfold qN;rw[ai hi,ai Bz];cases c.top[i]<;>cases c.eN[i]<;>rfl
  generalize c.top[i]=x at pe ⊢;generalize c.eN[i]=y at pe ⊢;generalize qN c ps i=new at pe ⊢;subst pe;cases x with
  | none=>
   simp only[dO];walk_at "go";exact⟨_,_,_,_,_,by rw[bz]⟩
  | some u=>
   cases y with
   | none=>
    simp only[dO];walk_at "go";exact⟨_,_,_,_,_,by rw[bz]⟩
   | some v=>
    simp only[dO];walk_at "go";by_cases Ml:u=v
    ·simp only[Ml,bR,bS,af,aJ,aR];exact⟨_,_,_,_,_,by rw[bz]⟩
    ·simp only[Ml,bp,dZ,aJ,aR];refine⟨ps,some v,i,rfl,by omega,?_⟩;walk_at "go";have l1:=CC ps (some u) i;have l2:=CC ps (some v) i;have l3:=yO (fun a=>(ng ps (some v) i).map fun b=>((a,b,(i:Int)):Tr)) 500 (fun a=>by rw[ae];omega);generalize ng ps (some v) i=vs at l2 l3 ⊢;refine vP (ng ps (some u) i) dN (fun Q' h=>?_) (fun j ρ=>∃f:Sl,ρ=[.fz c.obj,.fz (oH ps),.ow ((acc++((ng ps (some u) i).take j).flatMap fun a=>vs.map fun b=>(a,b,(i:Int))).map dT),.fz (.int i),.fz (.str u),.fz (.str v),.fz (.lst (vs.map dN)),f]) ⟨_,by rw[List.take_zero,eG,bz]⟩ ?_ ?_
     ·walk_at "px";exact⟨ps,some u,i,rfl,by omega,h⟩
     ·rintro j x ρ hx ⟨f,rfl⟩;have l5:=l3 ((ng ps (some u) i).take j);have l6:((ng ps (some u) i).take j).length<=500:=by rw[aM];omega
      rw[bg,hx,c8];generalize ((ng ps (some u) i).take j).flatMap (fun a=>vs.map fun b=>((a,b,(i:Int)):Tr))=Zt at l5 ⊢;unfold dN;walk_at "px";refine pG vs dN (fun b=>dT (x,b,(i:Int))) (fun Q' h=>?_) (by omega) (fun b hb K1 k=>?_) ?_
      ·walk_at "px";exact h
      ·unfold dN;walk_at "px";exact⟨by omega,k⟩
      ·refine⟨by simp only[ae,au];omega,.fz (.int x),?_⟩;simp
     ·rintro ρ ⟨f,rfl⟩;exact⟨_,_,_,_,_,by rw[bN]⟩
 ·rintro ρ ⟨a,b,d,e,f,rfl⟩;walk_at "go";exact q
noncomputable def kT(t:Tr):List Int:=[(t.1:Int),(t.2.1:Int),t.2.2]
structure Above (c:fc) (ps:List Pc) (ts:List Tr):Prop where
 pm:ts.Perm (o4 c ps++lK ps)
 oA:ts.Pairwise fun x y=>HT.fu (kT x) (kT y)=false
def yX:f6:=fun ds Q=>∃(c:fc) (ps:List Pc),ds=[c.obj,oH ps]/\mq c/\ps.length<=500/\∀ts,Above c ps ts->Q (.ow (ts.map dT))
def FD:TX:=(ip (gV CS (eT (eV iq (gF 2 AO (eT (eP 0) (eT (eP 1) eY))) (gF 1 AB (eT (eP 1) eY))) eY)))
theorem Sr(c:fc)(ps:List Pc)(sh:mq c)(hn:ps.length<=500):(o4 c ps).length<=10000000:=by
 have sq:ps.length*ps.length<=250000:=Nat.mul_le_mul hn hn;have:=yO (qN c ps) 250000 (fun a=>aH (Kt c ps a) sq) (List.range c.top.length);rw[bE] at this;have:=sh.w;unfold o4;omega
theorem SE(ps:List Pc)(hn:ps.length<=500):(lK ps).length<=250000:=by
 have:=yO (rL ps) 500 (fun a=>aH (Lo ps a) hn) ps.zipIdx;rw[List.length_zipIdx] at this;unfold lK;omega
theorem VB(ds:List D)(Qr:R->Prop)(hl:ds.length=2)(h:yX ds Qr):FD { nx:=fun _=>Qr (.fz .non),rt:=Qr } (g5 ["channel","pieces"] ds):=by
 obtain⟨c,ps,rfl,sh,hn,q⟩:=h;show FD _ [.fz c.obj,.fz (oH ps)];unfold FD;have big:=j7;have l1:=Sr c ps sh hn;have l2:=SE ps hn;walk_at "px";refine⟨c,ps,rfl,sh,hn,?_⟩;walk_at "px";refine⟨ps,rfl,by omega,?_⟩;walk_at "px";refine⟨by simp only[au,ae];omega,?_⟩;rw[<-aT];have e:((o4 c ps++lK ps).map dT)=(o4 c ps++lK ps).map fun a=>D.tup ((kT a).map D.int):=rfl
 rw[e];simp only[CS,Kv];refine⟨fun t ht=>?_,fun oV hp hs=>?_⟩
 ·obtain⟨a,_,rfl⟩:=aK.mp ht;simp[kT]
 ·obtain⟨ts,h1,rfl⟩:=K5 hp rfl;rw[a9];exact q ts ⟨h1,by rw[c6] at hs;exact hs⟩
end Wc
open PySem L2 PyProof.Rows Wc
local macro_rules | `(tactic| walk_at "px")=>`(tactic| (repeat(first | walk_at "b" | simp only[uL,Ax,wZ,t5,yr,Ec])))
namespace Wc
open PySem L2 PyProof.Rows
theorem CB{ws:List Str}{most:Nat}{c:fc}(g:jI ws most c)(hm:most<=40):mq c:=⟨aH g.w2 hm,g.bl,aH g.ll (by decide),aH g.rl (by decide)⟩
theorem Kg{ws:List Str}{most:Nat}{c:fc}(g:jI ws most c)(w:Str)(h:lO c w):w∈ws:=by
 rcases h with h | h | h | h
 ·exact g.pt w h
 ·exact g.pb w h
 ·exact g.lw w h
 ·exact g.rw_ w h
theorem IT{l:List Str}(h:l.Pairwise o5):l.Nodup:=List.Pairwise.imp (S:=(·≠·)) (fun{a b} h e=>by
 rw[e] at h;unfold o5 at h;rw[EF] at h;cases h) h
theorem Jj{α:Type}[DecidableEq α]{l:List α}(nd:l.Nodup)(w:α):l.count w=if w∈l then 1 else 0:=by
 by_cases h:w∈l
 ·rw[if_pos h];have h1:=(List.nodup_iff_count.mp nd) w;have h2:=List.count_pos_iff.mpr h;omega
 ·rw[if_neg h,cf.mpr h]
theorem Ry{c:fc}(w:Str)(hb:c.eN.length=c.top.length):∀i,((List.range i).flatMap (ql c w)).length=(c.top.take i).count (some w)+(c.eN.take i).count (some w):=by
 intro i;induction i with
 | zero=>simp
 | succ i ih=>
  rw[List.range_succ,c8,au,ih,bg,bg,List.count_append,List.count_append];simp only[dG,eG,bz];have a1:∀x:Option (Option Str),(x.toList).count (some w)=if x=some (some w) then 1 else 0:=fun x=>by
   cases x with
   | none=>simp
   | some y=>by_cases h:y=some w<;>simp[h,eK]
  rw[a1,a1];unfold ql;split<;>split<;>simp<;>omega
theorem SD{ws:List Str}{most:Nat}{c:fc}(g:jI ws most c)(w:Str):(qO c w).length=iT c.top c.eN c.left c.right w:=by
 unfold qO iT;rw[au,au,Ry w g.bl,bN];have e:c.eN.take c.top.length=c.eN:=by rw[<-g.bl,bN]
 rw[e,Jj (IT g.lo),Jj (IT g.ro)];split<;>split<;>simp<;>omega
theorem Q8{c:fc}{w:Str}(h:0<iT c.top c.eN c.left c.right w):lO c w:=by
 unfold iT at h;by_cases h1:some w∈c.top
 ·exact .inl h1
 ·by_cases h2:some w∈c.eN
  ·exact .inr (.inl h2)
  ·by_cases h3:w∈c.left
   ·exact .inr (.inr (.inl h3))
   ·by_cases h4:w∈c.right
    ·exact .inr (.inr (.inr h4))
    ·rw[cf.mpr h1,cf.mpr h2,cf.mpr h3,cf.mpr h4] at h;omega
theorem Ks(c:fc)(w:Str)(k:Int):k∈pl c w↔k∈places c.top c.eN c.left c.right w:=by
 unfold pl places;simp only[ay];constructor
 ·rintro((h | h) | h)
  ·exact .inl (.inr h)
  ·exact .inl (.inl h)
  ·exact .inr h
 ·rintro((h | h) | h)
  ·exact .inl (.inr h)
  ·exact .inl (.inl h)
  ·exact .inr h
theorem O1{c:fc}{w:Str}{k:Int}(h:k∈pl c w):lO c w:=by
 unfold pl at h;rcases ay.mp h with h | h
 ·rcases ay.mp h with h | h
  ·split at h
   ·rename_i h1;exact .inr (.inr (.inl h1))
   ·cases h
  ·obtain⟨n,hn,_⟩:=aK.mp h;have:=(bI.mp hn).2;simp only[Bool.or_eq_true,dX] at this;rcases this with h | h
   ·exact .inl (aV h)
   ·exact .inr (.inl (aV h))
 ·split at h
  ·rename_i h1;exact .inr (.inr (.inr h1))
  ·cases h
theorem Ji{ws:List Str}{most:Nat}{c:fc}(g:jI ws most c)(hm:most<=40){p:Int×Str}(hp:p∈c.fm):lO c p.2/\∃a b,yo (pl c p.2)=some (a,b)/\a<p.1/\p.1<b:=by
 obtain⟨n,hn,u5,_,⟨m,M,⟨i1,i2⟩,⟨j1,j2⟩,L9,L8⟩,_⟩:=g.be.at_ p hp;have hw:=g.w2;have m1:m∈pl c p.2:=by
  rw[Ks];rcases ay.mp i1 with h | h
  ·exact h
  ·simp at h;omega
 have M1:M∈pl c p.2:=by
  rw[Ks];rcases ay.mp j1 with h | h
  ·exact h
  ·simp at h;omega
 refine⟨O1 m1,?_⟩;have up:=Iz c p.2;generalize pl c p.2=l at m1 M1 up;cases l with
 | nil=>cases m1
 | cons a r=>
  have l1:=ER up M M1;have l0:a<=m:=by
   rcases ar.mp m1 with h | h
   ·omega
   ·have:=(dg.mp up).1 m h;omega
  refine⟨a,(a::r).getLast (by simp),?_,by omega,by omega⟩;simp only[yo];rw[if_neg (by omega)]
def vx(c:fc):Prop:=∃(ws:List Str) (most:Nat),ws.length<=40/\most<=40/\jI ws most c
def AN:f6:=fun ds Q=>∃c:fc,ds=[c.obj]/\vx c/\Q (.fz .non)
def FK:TX:=(kj (i4 (gF 1 uK (eT (eP 0) eY))) (fG 1) (iE (fP (eV oEq (gV mP (eT (gF 2 yM (eT (eP 0) (eT (eP 1) eY))) eY)) (dC (.int 1)))) zQ iH))
theorem WZ(ds:List D)(Qr:R->Prop)(hl:ds.length=1)(h:AN ds Qr):FK { nx:=fun _=>Qr (.fz .non),rt:=Qr } (g5 ["channel","name"] ds):=by
 obtain⟨c,rfl,⟨ws,most,k6,hm,g⟩,q⟩:=h;show FK _ [.fz c.obj,.un];unfold FK;refine Fb (fun ds=>∃l,p7 c l/\ds=l.map D.str) (fun Q' h=>?_) ?_
 ·walk_at "px";exact⟨c,ws,rfl,CB g hm,k6,Kg g,fun l nd mem oA=>h _ ⟨l,⟨nd,mem,oA⟩,rfl⟩⟩
 rintro _ ⟨l,hN,rfl⟩;refine Lc l D.str (fun i ρ=>∃a:Sl,ρ=[.fz c.obj,a]) ⟨_,rfl⟩ ?_ ?_
 ·rintro i x ρ hx ⟨a,rfl⟩;walk_at "px";refine⟨c,x,rfl,CB g hm,?_⟩;walk_at "px";rw[ae,SD g];have:=g.cnt x;rw[if_neg (by omega)];exact⟨_,rfl⟩
 ·rintro ρ ⟨a,rfl⟩;exact q
def AQ:f6:=fun ds Q=>∃c:fc,ds=[c.obj]/\vx c/\Q (.fz .non)
def Gd:TX:=(fg (gc 1 (gF 1 uK (eT (eP 0) eY)))
 (fg (gc 2 (eV iq (iI (i4 (jy "wide" (eP 0))) [none,none] (kA 2 (gE (fG 0) (gE (fG 1) jR))) lD (eP 0)) (iI (i4 (jy "bends" (eP 0))) [none,none] (kA 2 (gE (fG 0) (gE (fG 1) jR))) lD (eP 1))))
 (kj (i4 (eP 2)) (fG 3) (iE (fP (eV (lZ true) (eP 3) (eP 1))) zQ iH))))
theorem Xq(ds:List D)(Qr:R->Prop)(hl:ds.length=1)(h:AQ ds Qr):Gd { nx:=fun _=>Qr (.fz .non),rt:=Qr } (g5 ["channel","nets","names","name"] ds):=by
 obtain⟨c,rfl,⟨ws,most,k6,hm,g⟩,q⟩:=h;show Gd _ [.fz c.obj,.un,.un,.un];unfold Gd;have big:=j7;have h1:=g.wl;have h2:=g.be.len;have h3:=g.w2;walk_at "px";refine⟨c,ws,rfl,CB g hm,k6,Kg g,fun l nd mem oA=>?_⟩;walk_at "go";refine pG c.wide uo (fun p=>.str p.1) (fun Q' h=>?_) (by omega) (fun x hx K1 k=>?_) ?_
 ·unfold fc.obj;walk_at "px";exact⟨_,rfl,h⟩
 ·unfold uo;walk_at "px";exact k
 refine pG c.fm pM (fun p=>.str p.2) (fun Q' h=>?_) (by omega) (fun x hx K1 k=>?_) ?_
 ·unfold fc.obj;walk_at "px";exact⟨_,rfl,h⟩
 ·unfold pM;walk_at "px";exact k
 walk_at "px";refine⟨by simp only[au,ae];omega,?_⟩;have e0:c.wide.map (fun p=>D.str p.1)++c.fm.map (fun p=>D.str p.2)=(c.wide.map (·.1)++c.fm.map (·.2)).map D.str:=by rw[aT,a9,a9];rfl
 rw[e0];simp only[qh];refine vP (c.wide.map (·.1)++c.fm.map (·.2)) D.str (fun Q' h=>?_) (fun i ρ=>∃a:Sl,ρ=[.fz c.obj,.fz (.lst (l.map D.str)),.fz (.lst ((c.wide.map (·.1)++c.fm.map (·.2)).map D.str)),a]) ⟨_,rfl⟩ ?_ ?_
 ·walk_at "px";exact h
 ·rintro i x ρ hx ⟨a,rfl⟩;have Yk:x∈l:=by
   rw[mem];rcases ay.mp (aV hx) with h | h
   ·obtain⟨p,hp,rfl⟩:=aK.mp h;exact Q8 (Nat.lt_trans Nat.zero_lt_one (g.ww p hp).2.2)
   ·obtain⟨p,hp,rfl⟩:=aK.mp h;exact(Ji g hm hp).1
  walk_at "px";refine⟨uH 8 _,?_⟩;simp only[Yk,bR,bS,af,aJ];exact⟨_,rfl⟩
 ·rintro ρ ⟨a,rfl⟩;exact q
def Am:f6:=fun ds Q=>∃(c:fc) (p:Int×Str),ds=[c.obj,.int p.1,.str p.2]/\vx c/\p∈c.fm/\Q (.fz (.bl true))
def FC:TX:=(fg (gc 3 (gF 2 yP (eT (eP 0) (eT (eP 2) eY))))
 (fg (iE (yc (fP (eV (oM false) (eP 3) (dC .non))) (tU (fP (vG (jD fun i j=>.bl (decide (i<j))) (jD fun i j=>.bl (decide (i<j))) (eV fX (eP 3) (dC (.int 0))) (eP 1) (eV fX (eP 3) (dC (.int 1))))))) (ip (dC (.bl false))) iH)
 (fg (gc 4 (k7 (eT (eV fX (jy "top" (eP 0)) (eP 1)) (eT (eV fX (jy "bottom" (eP 0)) (eP 1)) eY))))
 (ip (HI (eV (lZ false) (eP 2) (eP 4)) (eV oEq (eP 4) (k7 (eT (dC .non) (eT (dC .non) eY)))))))))
theorem VA(ds:List D)(Qr:R->Prop)(hl:ds.length=3)(h:Am ds Qr):FC { nx:=fun _=>Qr (.fz .non),rt:=Qr } (g5 ["channel","column","name","stretch","pins"] ds):=by
 obtain⟨c,p,rfl,⟨ws,most,k6,hm,g⟩,hp,q⟩:=h;show FC _ [.fz c.obj,.fz (.int p.1),.fz (.str p.2),.un,.un];unfold FC;have big:=j7;walk_at "px";refine⟨c,p.2,rfl,CB g hm,?_⟩;rw[Jl];obtain⟨_,a,b,e,L9,L8⟩:=Ji g hm hp;obtain⟨n,hn,u5,_,_,sZ⟩:=g.be.at_ p hp;have My:n<c.eN.length:=by rw[g.bl];exact u5
 rw[e];walk_at "go";refine⟨.int a,rfl,?_⟩;walk_at "px";rw[if_pos L9];refine⟨.int b,rfl,?_⟩;walk_at "px";rw[if_neg (by simp[L8])];walk_at "go";unfold fc.obj;walk_at "px";refine⟨_,rfl,?_⟩;unfold dP;rw[hn];walk_at "px";refine⟨_,nu u5,_,rfl,?_⟩;walk_at "px";refine⟨_,nu My,?_⟩;refine⟨by omega,?_⟩;rw[ai u5,ai My] at sZ;simp only[aN] at sZ;generalize c.top[n]=x at sZ ⊢;generalize c.eN[n]=y at sZ ⊢;walk_at "go";have Dp:∀u v:Option Str,fQ 9 (D.tup [dO u,dO v]):=fun u v=>by
  intro d hd;simp only[ar,aP,cv] at hd;rcases hd with rfl | rfl<;>(rw[t5];trivial)
 refine⟨Dp x y,?_⟩;have ei:inD (.str p.2) [dO x,dO y]=(decide (x=some p.2)||decide (y=some p.2)):=by
  simp[inD,uL]
 rw[ei];rcases sZ with⟨rfl,rfl⟩ | h | h
 ·simp only[reduceCtorEq,bp,Bool.or_self,af,aJ];have:=xk 9 _ (Dp none none);exact⟨by omega,Dp none none,Dp none none,by rw[show D.tup [dO none,dO none]=D.tup [D.non,D.non] from rfl] at this ⊢;rw[this];exact q⟩
 ·rw[if_pos (by simp[h])];exact q
 ·rw[if_pos (by simp[h])];exact q
def Az:f6:=fun ds Q=>∃c:fc,ds=[c.obj]/\vx c/\Q (.fz .non)
def F1:TX:=(kj (i4 (jy "bends" (eP 0))) (kA 2 (gE (fG 1) (gE (fG 2) jR))) (iE (tU (fP (gF 3 Am (eT (eP 0) (eT (eP 1) (eT (eP 2) eY)))))) zQ iH))
theorem Xn(ds:List D)(Qr:R->Prop)(hl:ds.length=1)(h:Az ds Qr):F1 { nx:=fun _=>Qr (.fz .non),rt:=Qr } (g5 ["channel","column","name"] ds):=by
 obtain⟨c,rfl,g,q⟩:=h;show F1 _ [.fz c.obj,.un,.un];unfold F1;refine vP c.fm pM (fun Q' h=>?_) (fun i ρ=>∃a b:Sl,ρ=[.fz c.obj,a,b]) ⟨_,_,rfl⟩ ?_ ?_
 ·unfold fc.obj;walk_at "px";exact⟨_,rfl,h⟩
 ·rintro i x ρ hx ⟨a,b,rfl⟩;unfold pM;walk_at "px";refine⟨c,x,rfl,g,aV hx,?_⟩;walk_at "px";exact⟨_,_,rfl⟩
 ·rintro ρ ⟨a,b,rfl⟩;exact q
def Al:f6:=fun ds Q=>∃(W:Nat) (k:Int×Int×Int),ds=[.int W,tK k]/\(0<=k.1/\k.1<=k.2.1/\k.2.1<W/\1<=k.2.2/\k.2.2<=3)/\Q (.fz (.bl true))
def FA:TX:=(ip (Cb (vG (jD fun i j=>.bl (decide (i<=j))) (jD fun i j=>.bl (decide (i<j))) (eV fX (eP 1) (dC (.int 0))) (eV fX (eP 1) (dC (.int 1))) (eP 0)) (vG (jD fun i j=>.bl (decide (i<=j))) (jD fun i j=>.bl (decide (i<=j))) (dC (.int 1)) (eV fX (eP 1) (dC (.int 2))) (dC (.int 3)))))
theorem Vz(ds:List D)(Qr:R->Prop)(hl:ds.length=2)(h:Al ds Qr):FA { nx:=fun _=>Qr (.fz .non),rt:=Qr } (g5 ["columns","keep"] ds):=by
 obtain⟨W,k,rfl,hk,q⟩:=h;show FA _ [.fz (.int W),.fz (tK k)];unfold FA tK;walk_at "px";refine⟨.int k.1,rfl,.int k.2.1,rfl,?_⟩;walk_at "px";rw[if_pos hk.2.1,if_pos hk.2.2.1];refine⟨.int k.2.2,rfl,?_⟩;dsimp only;rw[if_pos hk.2.2.2.1];simpa[hk.2.2.2.2] using q
def Ay:f6:=fun ds Q=>∃c:fc,ds=[c.obj]/\vx c/\Q (.fz .non)
def F0:TX:=(kj (vq (eT (jy "keeps" (eP 0)) eY)) (kA 2 (gE (fG 1) (gE (fG 2) jR))) (iE (tU (fP (gF 2 Al (eT (gV mP (eT (jy "top" (eP 0)) eY)) (eT (eP 2) eY))))) zQ iH))
theorem Xm(ds:List D)(Qr:R->Prop)(hl:ds.length=1)(h:Ay ds Qr):F0 { nx:=fun _=>Qr (.fz .non),rt:=Qr } (g5 ["channel","place","keep"] ds):=by
 obtain⟨c,rfl,⟨ws,most,k6,hm,g⟩,q⟩:=h;show F0 _ [.fz c.obj,.un,.un];unfold F0;refine Fj c.keeps tK (fun Q' h=>?_) (fun i ρ=>∃a b:Sl,ρ=[.fz c.obj,a,b]) ⟨_,_,rfl⟩ ?_ ?_
 ·unfold fc.obj;walk_at "px";exact⟨_,rfl,h⟩
 ·rintro i x ρ hx ⟨a,b,rfl⟩;walk_at "px";unfold fc.obj;walk_at "px";refine⟨_,rfl,?_⟩;unfold dP;walk_at "px";rw[ae];refine⟨c.top.length,x,rfl,g.ke.2 x (aV hx),?_⟩;walk_at "px";exact⟨_,_,rfl⟩
 ·rintro ρ ⟨a,b,rfl⟩;exact q
def AR:f6:=fun ds Q=>∃c:fc,ds=[c.obj]/\vx c/\Q (.fz (.bl true))
def Gb:TX:=(fg (wO (gF 1 AN (eT (eP 0) eY)))
 (fg (wO (gF 1 AQ (eT (eP 0) eY)))
 (fg (wO (gF 1 Az (eT (eP 0) eY)))
 (fg (wO (gF 1 Ay (eT (eP 0) eY)))
 (ip (dC (.bl true)))))))
theorem Xo(ds:List D)(Qr:R->Prop)(hl:ds.length=1)(h:AR ds Qr):Gb { nx:=fun _=>Qr (.fz .non),rt:=Qr } (g5 ["channel"] ds):=by
 obtain⟨c,rfl,g,q⟩:=h;show Gb _ [.fz c.obj];unfold Gb;walk_at "px";refine⟨c,rfl,g,?_⟩;walk_at "go";refine⟨c,rfl,g,?_⟩;walk_at "go";refine⟨c,rfl,g,?_⟩;walk_at "go";refine⟨c,rfl,g,?_⟩;walk_at "go";exact q
end Wc
open PySem L2 PyProof.Rows Wc
local macro_rules | `(tactic| walk_at "px")=>`(tactic| (repeat(first | walk_at "b" | simp only[zH,zN,wK,vA,wV,yv,rE,vj,uD,wX,ux,wW,vw,pD])))
namespace Wc
open PySem L2 PyProof.Rows
noncomputable def dA{α:Type}(f:α->D)(kv:List (Nat×α)):List (Key×D):=kv.map fun p=>(.inl (p.1:Int),f p.2)
noncomputable def jw{α:Type}(kv:List (Nat×α))(n:Nat):Option α:=(kv.find? fun p=>decide (p.1=n)).map (·.2)
noncomputable def wN{α:Type}(kv:List (Nat×α))(n:Nat)(x:α):List (Nat×α):=
 if (kv.any fun p=>decide (p.1=n))=true then kv.map (fun p=>if p.1=n then(p.1,x) else p) else kv++[(n,x)]
theorem Ei(a b:Nat):((Sum.inl (a:Int):Key)=Sum.inl (b:Int))=(a=b):=by
 apply propext;constructor
 ·intro z;injection z with z;omega
 ·rintro rfl;rfl
theorem EO{α:Type}(f:α->D)(kv:List (Nat×α))(n:Nat):look (dA f kv) (.inl (n:Int))=(jw kv n).map f:=by
 induction kv with
 | nil=>rfl
 | cons a r ih=>
  unfold dA look jw;rw[aA,bW,bW];simp only[Ei];by_cases h:a.1=n
  ·simp[h]
  ·simp only[h,bp];exact ih
theorem O0{α:Type}(f:α->D)(kv:List (Nat×α))(n:Nat)(x:α):wL (dA f kv) (.inl (n:Int)) (f x)=dA f (wN kv n x):=by
 have e:((dA f kv).any fun p=>decide (p.1=Sum.inl (n:Int)))=kv.any fun p=>decide (p.1=n):=by
  unfold dA;rw[List.any_map];congr 1
  funext p
  simp only[eE,Ei]
 unfold wL wN;rw[e];split
 ·unfold dA;rw[a9,a9];refine eD fun p _=>?_
  simp only[eE,Ei];split<;>rfl
 ·unfold dA;simp
theorem S8{α:Type}(kv:List (Nat×α))(n:Nat):(jw kv n).isSome=true↔n∈kv.map (·.1):=by
 induction kv with
 | nil=>simp[jw]
 | cons a r ih=>
  unfold jw;rw[bW,aA,ar];by_cases h:a.1=n
  ·simp[h]
  ·simp only[h,bp];rw[show((List.find? (fun p=>decide (p.1=n)) r).map (·.2))=jw r n from rfl,ih];simp[Ne.symm h]
theorem vO{α:Type}(a:Nat×α)(r:List (Nat×α))(n:Nat):jw (a::r) n=if a.1=n then some a.2 else jw r n:=by
 unfold jw;rw[bW];by_cases h:a.1=n
 ·simp[h]
 ·simp[h]
theorem S7{α:Type}(kv:List (Nat×α))(n m:Nat)(x:α):jw (kv.map fun p=>if p.1=n then(p.1,x) else p) m=if m=n then(jw kv n).map (fun _=>x) else jw kv m:=by
 induction kv with
 | nil=>simp[jw]
 | cons a r ih=>
  rw[aA,vO,vO,vO,ih];by_cases h1:a.1=n
  ·rw[if_pos h1];by_cases h2:m=n
   ·subst h2;simp[h1]
   ·have:¬a.1=m:=fun z=>h2 (by omega)
    simp[h2,this]
  ·rw[if_neg h1];by_cases h2:m=n
   ·subst h2;simp[h1]
   ·simp[h2]
theorem S6{α:Type}(kv:List (Nat×α))(n m:Nat)(x:α)(hn:jw kv n=none):jw (kv++[(n,x)]) m=if m=n then some x else jw kv m:=by
 induction kv with
 | nil=>
  rw[eH,vO];by_cases h:n=m
  ·simp[h]
  ·simp[h,Ne.symm h]
 | cons a r ih=>
  rw[vO] at hn;by_cases h1:a.1=n
  ·rw[if_pos h1] at hn;cases hn
  ·rw[if_neg h1] at hn;rw[cA,vO,vO,ih hn];by_cases h2:m=n
   ·subst h2;simp[h1]
   ·simp[h2]
theorem Rx{α:Type}(kv:List (Nat×α))(n:Nat):(kv.any fun p=>decide (p.1=n))=(jw kv n).isSome:=by
 induction kv with
 | nil=>rfl
 | cons a r ih=>
  rw[dh,vO,ih];by_cases h:a.1=n<;>simp[h]
theorem Kf{α:Type}(kv:List (Nat×α))(n m:Nat)(x:α):jw (wN kv n x) m=if m=n then some x else jw kv m:=by
 unfold wN;rw[Rx];split
 ·rename_i h;rw[S7];split
  ·cases e:jw kv n with
   | none=>rw[e] at h;cases h
   | some y=>rfl
  ·rfl
 ·rename_i h;exact S6 kv n m x (by cases e:jw kv n with | none=>rfl | some y=>rw[e] at h;exact absurd rfl h)
theorem Rw{α:Type}(kv:List (Nat×α))(n:Nat)(x:α):(wN kv n x).length<=kv.length+1:=by
 unfold wN;split<;>simp
theorem UH{α:Type}(f:α->D)(kv:List (Nat×α)):xb (dA f kv)=some (kv.map fun p=>(p.1:Int)):=by
 induction kv with
 | nil=>rfl
 | cons a r ih=>
  show(xb (dA f r)).map ((a.1:Int)::·)=_;rw[ih];rfl
def Pt{α:Type}(t:(α->Prop)->Prop):Prop:=∀Q,t Q->∃r,Q r/\∀Q':α->Prop,Q' r->t Q'
section
variable {α β γ:Type} {t:(α->Prop)->Prop}
theorem Pt.pure(a:α):Pt fun Q=>Q a:=fun _ h=>⟨a,h,fun _ h=>h⟩
theorem Pt.no:Pt fun _:α->Prop=>False:=fun _ h=>h.elim
theorem Pt.bind{u:α->(β->Prop)->Prop}(h:Pt t)(k:∀a,Pt (u a)):Pt fun Q=>t fun a=>u a Q:=fun _ q=>by
 obtain⟨a,qa,ta⟩:=h _ q;obtain⟨b,qb,ub⟩:=k a _ qa;exact⟨b,qb,fun Q' h=>ta _ (ub Q' h)⟩
theorem Pt.and{p:Prop}(h:Pt t):Pt fun Q=>p/\t Q:=fun _ q=>by
 obtain⟨a,qa,ta⟩:=h _ q.2;exact⟨a,qa,fun Q' h=>⟨q.1,ta Q' h⟩⟩
theorem Pt.ex{u:γ->(α->Prop)->Prop}(h:∀c,Pt (u c)):Pt fun Q=>∃c,u c Q:=fun _ ⟨c,q⟩=>by
 obtain⟨a,qa,ta⟩:=h c _ q;exact⟨a,qa,fun Q' h=>⟨c,ta Q' h⟩⟩
theorem Pt.ite{u:(α->Prop)->Prop}{p:Prop}[Decidable p](h:Pt t)(k:Pt u):Pt fun Q=>if p then t Q else u Q:=fun Q q=>by
 by_cases c:p
 ·simp only[c,aR] at q ⊢;exact h Q q
 ·simp only[c,aJ] at q ⊢;exact k Q q
theorem EN{σ:Type}(ds:List D)(step:D->σ->((σ ⊕ β)->Prop)->Prop)(fin:σ->β)(hs:∀d s,Pt (step d s))(s0:σ) :
  Pt fun Q:β->Prop=>∃Iv:Nat->σ->Prop,Iv 0 s0/\(∀i d s,ds[i]?=some d->Iv i s->step d s fun x=>match x with | .inl s'=>Iv (i+1) s' | .inr b=>Q b)/\∀s,Iv ds.length s->Q (fin s):=by
 rintro Q ⟨Iv,h0,ht,hf⟩;have key:∀k i s,i+k=ds.length->Iv i s->∃o,Q o/\∀Q':β->Prop,Q' o->∃J:Nat->σ->Prop,J i s/\(∀j d s,i<=j->ds[j]?=some d->J j s->step d s fun x=>match x with | .inl s'=>J (j+1) s' | .inr b=>Q' b)/\∀s,J ds.length s->Q' (fin s):=by
  intro k;induction k with
  | zero=>
   intro i s e h;obtain rfl:i=ds.length:=e;refine⟨_,hf s h,fun Q' q=>⟨fun j s'=>s'=s,rfl,fun j d s' hj hd _=>?_,fun s' e=>e▸q⟩⟩;have:=(ax.mp hd).1;omega
  | succ k ih=>
   intro i s e h;have hi:i<ds.length:=by omega
   have hd:=ai hi;obtain⟨x,qx,bx⟩:=hs _ _ _ (ht i _ s hd h);cases x with
   | inl s'=>
    obtain⟨o,qo,bo⟩:=ih (i+1) s' (by omega) qx;refine⟨o,qo,fun Q' q=>?_⟩;obtain⟨J,j0,jt,jf⟩:=bo Q' q;refine⟨fun j z=>(j=i/\z=s)\/(i<j/\J j z),.inl ⟨rfl,rfl⟩,fun j d z hj zi hz=>?_,fun z hz=>?_⟩
    ·rcases hz with⟨rfl,rfl⟩ | ⟨h1,h2⟩
     ·rw[hd] at zi;cases zi;exact bx _ (.inr ⟨cO _,j0⟩)
     ·obtain⟨x,qx,bx⟩:=hs _ _ _ (jt j d z h1 zi h2);refine bx _ ?_;cases x with
      | inl s2=>exact .inr ⟨by omega,qx⟩
      | inr b=>exact qx
    ·rcases hz with⟨h1,_⟩ | ⟨_,h2⟩
     ·omega
     ·exact jf z h2
   | inr b=>
    refine⟨b,qx,fun Q' q=>⟨fun j z=>j=i/\z=s,⟨rfl,rfl⟩,fun j d z hj zi hz=>?_,fun z hz=>?_⟩⟩
    ·obtain⟨rfl,rfl⟩:=hz;rw[hd] at zi;cases zi;exact bx _ q
    ·omega
 obtain⟨o,qo,bo⟩:=key ds.length 0 s0 (by omega) h0;refine⟨o,qo,fun Q' q=>?_⟩;obtain⟨J,j0,jt,jf⟩:=bo Q' q;exact⟨J,j0,fun i d s hd hj=>jt i d s (aL _) hd hj,jf⟩
end
inductive Out where
 | nx (ρ:Ev) | rt (r:R) | bk (ρ:Ev) | ct (ρ:Ev)
def toQ(t:TX)(ρ:Ev):(Out->Prop)->Prop:=fun Q=>t ⟨fun ρ=>Q (.nx ρ),fun r=>Q (.rt r),fun ρ=>Q (.bk ρ),fun ρ=>Q (.ct ρ)⟩ ρ
abbrev lX(t:TX):Prop:=∀ρ,Pt (toQ t ρ)
abbrev fT{α β:Type}(t:α->(β->Prop)->Prop):Prop:=∀ρ,Pt (t ρ)
end Wc
open PySem L2 PyProof.Rows Wc
local macro_rules | `(tactic| walk_at "pt")=>`(tactic| (repeat(first | exact Pt.pure _ | exact Pt.no | assumption | (apply_assumption) | refine Pt.bind (by first | assumption | apply_assumption) fun _=>?_ | refine Pt.and ?_ | refine Pt.ex fun _=>?_ | refine Pt.ite ?_ ?_)))
namespace Wc
open PySem L2 PyProof.Rows
section
variable {te ta tb tk:TD} {ts us:lq} {c:kz} {t u:TX} {o:O2} {i j n:Nat} {f:f6} {wi:mO} {g:kh} {gs:qg} {tl th:zq} {m:List (Option Nat)}
theorem OZ:fT (eP i):=fun ρ=>by unfold eP;cases gt ρ i<;>walk_at "pt"
theorem Ny{d:D}:fT (dC d):=fun _=>Pt.pure _
theorem N5(ho:∀d e,Pt (o d e))(ha:fT ta)(hb:fT tb):fT (eV o ta tb):=fun ρ=>by unfold eV;exact Pt.bind (ha ρ) fun _=>Pt.bind (hb ρ) fun _=>ho _ _
theorem OY(h:fT te):fT (fP te):=fun ρ=>by
 unfold fP;refine Pt.bind (h ρ) fun r=>?_
 cases r with
 | fz d=>cases d<;>walk_at "pt"
 | _=>exact Pt.no
theorem OX(d e:D):Pt (iq d e):=by unfold iq;cases d<;>cases e<;>walk_at "pt"
theorem N4{φ:Int->Int->D}(d e:D):Pt (jD φ d e):=by unfold jD;cases d<;>cases e<;>walk_at "pt"
theorem N3(d e:D):Pt (oEq d e):=by unfold oEq;walk_at "pt"
theorem N2(d e:D):Pt (fX d e):=by unfold fX;cases d<;>cases e<;>walk_at "pt"
theorem OW{b:Bool}(d e:D):Pt (vj b d e):=by unfold vj;cases e<;>walk_at "pt"
theorem OU(h:fT tb):fT (qL i tb):=fun ρ=>by
 unfold qL;cases gt ρ i with
 | ow ds=>exact Pt.bind (h ρ) fun r=>by cases r.val<;>walk_at "pt"
 | _=>exact Pt.no
theorem Q7:fT (wY i):=fun ρ=>by unfold wY;cases gt ρ i<;>walk_at "pt"
theorem OT:fT eY:=fun _=>Pt.pure _
theorem PQ(h:fT te)(k:fT ts):fT (eT te ts):=fun ρ=>by unfold eT;exact Pt.bind (h ρ) fun _=>Pt.bind (k ρ) fun _=>Pt.pure _
theorem OS(h:fT ts):fT (k7 ts):=fun ρ=>by unfold k7;exact Pt.bind (h ρ) fun _=>Pt.and (Pt.pure _)
theorem OR(h:fT ts):fT (i5 ts):=fun ρ=>by unfold i5;exact Pt.bind (h ρ) fun _=>Pt.and (Pt.pure _)
theorem Ov(hf:∀ds,Pt (f ds))(h:fT ts):fT (gV f ts):=fun ρ=>by unfold gV;exact Pt.bind (h ρ) hf
theorem PN(hf:∀ds,Pt (f ds))(h:fT ts):fT (gF n f ts):=fun ρ=>by unfold gF;exact Pt.bind (h ρ) fun ds=>Pt.and (hf ds)
theorem PM(ds:List D):Pt (wW ds):=by unfold wW;split<;>walk_at "pt"
theorem PL(ds:List D):Pt (yt ds):=by
 unfold yt;split
 ·rename_i es;cases pairsOf es<;>walk_at "pt"
 ·exact Pt.no
theorem PK(ds:List D):Pt (yu ds):=by
 unfold yu;split
 ·rename_i kvs;cases xb kvs with
  | none=>exact Pt.no
  | some ns=>
   rintro Q ⟨ne,h⟩;obtain⟨M,hM,hm⟩:∃M∈ns,∀b∈ns,M<=b:=by
    clear h;induction ns with
    | nil=>exact absurd rfl ne
    | cons a r ih=>
     by_cases e:r=[]
     ·subst e;exact⟨a,by simp,by simp⟩
     ·obtain⟨M,h1,h2⟩:=ih e;by_cases c:a<=M
      ·exact⟨a,by simp,fun b hb=>by rcases ar.mp hb with rfl | hb;exact cj _;exact Int.le_trans c (h2 b hb)⟩
      ·exact⟨M,aQ _ h1,fun b hb=>by rcases ar.mp hb with rfl | hb;omega;exact h2 b hb⟩
   refine⟨_,h M hM hm,fun Q' q=>⟨ne,fun M' h1 h2=>?_⟩⟩;obtain rfl:M'=M:=by have:=hm M' h1;have:=h2 M hM;omega
   exact q
 ·exact Pt.no
theorem PJ(h:fT te)(k:fT tk):fT (uD te tk):=fun ρ=>by
 unfold uD;exact Pt.bind (h ρ) fun r=>Pt.bind (k ρ) fun _=>by cases r.val<;>walk_at "pt"
theorem PH(k:fT tk):fT (wX i tk):=fun ρ=>by
 unfold wX;cases gt ρ i with
 | ov o=>cases o with
  | dc kvs=>exact Pt.bind (k ρ) fun _=>by walk_at "pt"
  | _=>exact Pt.no
 | _=>exact Pt.no
theorem PF(h:fT ta)(k:fT tb):fT (wU ta tb):=fun ρ=>by unfold wU;exact Pt.bind (h ρ) fun _=>Pt.bind (k ρ) fun r=>by cases r<;>walk_at "pt"
theorem OQ(h:fT ta)(k:fT tb):fT (wK ta tb):=fun ρ=>by
 unfold wK;exact Pt.bind (h ρ) fun r=>Pt.bind (k ρ) fun q=>by cases r<;>(try exact Pt.no);cases q.val<;>walk_at "pt"
theorem Rv(h:fT te):fT (vz i te):=fun ρ=>by unfold vz;exact Pt.bind (h _) fun _=>Pt.and (Pt.pure _)
theorem Ru(h:fT c):fT (uE i c):=fun ρ=>h _
theorem Pz:fT yv:=fun _=>Pt.pure _
theorem OP:fT lD:=fun _=>Pt.pure _
theorem OO:fT pL:=fun _=>Pt.pure _
theorem Rt(h:fT te):fT (mQ te):=fun ρ=>by unfold mQ;exact Pt.bind (h ρ) fun r=>by cases r.val<;>walk_at "pt"
theorem Ou(h:fT te)(k:fT tl)(l:fT th):fT (nS te tl th):=fun ρ=>by unfold nS;exact Pt.bind (h ρ) fun r=>Pt.bind (k ρ) fun _=>Pt.bind (l ρ) fun _=>by cases r.val<;>walk_at "pt"
theorem Py(h:fT te):fT (i4 te):=fun ρ=>by unfold i4 Cr;exact Pt.bind (h ρ) fun r=>by cases r.val<;>walk_at "pt"
theorem ON(h:fT ts):fT (nr ts):=fun ρ=>by unfold nr;exact Pt.bind (h ρ) fun ds=>by split<;>walk_at "pt"
theorem Rr(d:D):fT (fG i d):=fun _=>Pt.pure _
theorem Px(ds:List D):fT (jR ds):=fun ρ=>by unfold jR;cases ds<;>walk_at "pt"
theorem Rq(h:∀d,fT (g d))(k:∀ds,fT (gs ds))(ds:List D):fT (gE g gs ds):=fun ρ=>by
 unfold gE;cases ds with
 | nil=>exact Pt.no
 | cons d r=>exact Pt.bind (h d ρ) fun _=>k r _
theorem Pw(h:∀ds,fT (gs ds))(d:D):fT (kA n gs d):=fun ρ=>by unfold kA;cases d<;>first | exact Pt.no | exact Pt.and (h _ ρ)
theorem Pu(hw:fT wi)(hg:∀d,fT (g d))(hc:fT c)(he:fT te):fT (iI wi m g c te):=fun ρ=>by
 unfold iI;exact Pt.bind (hw ρ) fun ds=>EN (β:=R) ds (fun d acc K=>g d (iV m ρ) fun gm=>c gm fun b=>if b=true then te gm fun r=>acc.length<sizeLine/\K (.inl (acc++[r.val])) else K (.inl acc)) (fun acc=>.ow acc)
  (fun d acc=>Pt.bind (hg d _) fun _=>Pt.bind (hc _) fun _=>Pt.ite (Pt.bind (he _) fun _=>Pt.and (Pt.pure _)) (Pt.pure _)) []
theorem Rp(hw:fT wi)(hg:∀d,fT (g d))(hc:fT c)(he:fT te):fT (w6 wi m g c te):=fun ρ=>by
 unfold w6;exact Pt.bind (hw ρ) fun ds=>EN (β:=R) ds (fun d acc K=>g d (iV m ρ) fun gm=>c gm fun b=>if b=true then te gm fun r=>match r with
  | .ow es=>acc.length<sizeLine/\K (.inl (acc++[es]))
  | _=>False
  else K (.inl acc)) (fun acc=>.ov (.ll acc))
  (fun d acc=>Pt.bind (hg d _) fun _=>Pt.bind (hc _) fun _=>Pt.ite (Pt.bind (he _) fun r=>by cases r<;>walk_at "pt") (Pt.pure _)) []
theorem OM(h:lX t)(k:lX u):lX (fg t u):=fun ρ=>by
 have:=Pt.bind (u:=fun o (Q:Out->Prop)=>match o with | .nx ρ'=>toQ u ρ' Q | o=>Q o) (h ρ) fun o=>by cases o<;>first | exact k _ | exact Pt.pure _
 exact this
theorem Pr:lX iH:=fun ρ=>Pt.pure (Out.nx ρ)
theorem OL(h:fT te):lX (ip te):=fun ρ=>by unfold toQ ip;exact Pt.bind (h ρ) fun r=>Pt.pure (Out.rt r)
theorem Pq:lX (pD i):=fun ρ=>by unfold toQ pD;cases gt ρ i<;>first | exact Pt.no | exact Pt.pure (Out.rt _)
theorem Pp:lX (vw i):=fun ρ=>by unfold toQ vw;cases gt ρ i<;>first | exact Pt.no | exact Pt.pure (Out.rt _)
theorem Ot(hc:fT c)(h:lX t)(k:lX u):lX (iE c t u):=fun ρ=>by unfold toQ iE;exact Pt.bind (hc ρ) fun _=>Pt.ite (h ρ) (k ρ)
theorem Pg(h:fT te):lX (kB i te):=fun ρ=>by unfold toQ kB;exact Pt.bind (h ρ) fun _=>Pt.pure (Out.nx _)
theorem Po(h:fT te):lX (gc i te):=fun ρ=>by unfold toQ gc;exact Pt.bind (h ρ) fun _=>Pt.pure (Out.nx _)
theorem Pf(h:fT te):lX (lY i te):=fun ρ=>by unfold toQ lY;cases gt ρ i<;>first | exact Pt.no | exact Pt.bind (h ρ) fun _=>Pt.and (Pt.pure (Out.nx _))
theorem Pe:lX (yK i):=fun ρ=>by unfold toQ yK;cases gt ρ i<;>first | exact Pt.no | exact Pt.pure (Out.nx _)
theorem Ro(hk:fT tk)(h:fT te):lX (vA i tk te):=fun ρ=>by
 unfold toQ vA;cases gt ρ i with
 | ow ds=>exact Pt.bind (h ρ) fun _=>Pt.bind (hk ρ) fun r=>by cases r.val<;>first | exact Pt.no | exact Pt.ex fun _=>Pt.and (Pt.pure (Out.nx _))
 | _=>exact Pt.no
theorem Pd(hk:fT tk)(h:fT te):lX (ux i tk te):=fun ρ=>by
 unfold toQ ux;cases gt ρ i with
 | ov o=>cases o with
  | dc kvs=>exact Pt.bind (h ρ) fun _=>Pt.bind (hk ρ) fun _=>Pt.ex fun _=>Pt.and (Pt.and (Pt.pure (Out.nx _)))
  | _=>exact Pt.no
 | _=>exact Pt.no
theorem Pn(hk:fT tk)(h:fT te):lX (wV i tk te):=fun ρ=>by
 unfold toQ wV;cases gt ρ i with
 | ov o=>cases o with
  | ll gw=>exact Pt.bind (hk ρ) fun r=>by cases r.val<;>first | exact Pt.no | exact Pt.ex fun _=>Pt.ex fun _=>Pt.and (Pt.and (Pt.bind (h ρ) fun _=>Pt.and (Pt.pure (Out.nx _))))
  | _=>exact Pt.no
 | _=>exact Pt.no
theorem Pb(h:lX t):lX (tS i t):=fun ρ=>h _
theorem Pa(hw:fT wi)(hg:∀d,fT (g d))(h:lX t):lX (kj wi g t):=fun ρ=>by
 unfold toQ kj;refine Pt.bind (hw ρ) fun ds=>EN (β:=Out) ds (fun d ρ K=>g d ρ fun gm=>t { nx:=fun x=>K (.inl x),ct:=fun x=>K (.inl x),bk:=fun x=>K (.inr (.nx x)),rt:=fun r=>K (.inr (.rt r)) } gm) .nx (fun d s=>Pt.bind (hg d s) fun gm=>?_) ρ
 have:=Pt.bind (u:=fun o (Q:Ev ⊕ Out->Prop)=>match o with | .nx x=>Q (.inl x) | .ct x=>Q (.inl x) | .bk x=>Q (.inr (.nx x)) | .rt r=>Q (.inr (.rt r))) (h gm) fun o=>by cases o<;>exact Pt.pure _
 exact this
theorem Rn(hc:fT c)(h:lX t):lX (vE c t):=fun ρ Q hq=>by
 obtain⟨W,⟨m,hm⟩,ht⟩:=hq;have key:∀m ρ,W m ρ->∃o,Q o/\∀Q':Out->Prop,Q' o->toQ (vE c t) ρ Q':=by
  intro m;induction m using Nat.strongRecOn with
  | _ m ih=>
   intro ρ hm;obtain⟨b,qb,bb⟩:=hc ρ _ (ht m ρ hm);by_cases e:b=true
   ·rw[if_pos e] at qb;obtain⟨o,qo,bo⟩:=h ρ (fun o=>match o with | .nx x=>∃m',m'<m/\W m' x | .ct x=>∃m',m'<m/\W m' x | .bk x=>Q (.nx x) | .rt r=>Q (.rt r)) qb;have go:∀x,(∃m',m'<m/\W m' x)->(o=.nx x\/o=.ct x)->∃o,Q o/\∀Q':Out->Prop,Q' o->toQ (vE c t) ρ Q':=fun x ⟨m',fI,hw⟩ ho=>by
     obtain⟨o2,q2,b2⟩:=ih m' fI x hw;refine⟨o2,q2,fun Q' q=>?_⟩;obtain⟨V,⟨k,hk⟩,vt⟩:=b2 Q' q;refine⟨fun n z=>(n=k+1/\z=ρ)\/(n<=k/\V n z),⟨k+1,.inl ⟨rfl,rfl⟩⟩,fun n z hz=>?_⟩;have body:∀n z,V n z->n<=k->c z fun b=>if b=true then t { nx:=fun gm=>∃m',m'<n/\((m'=k+1/\gm=ρ)\/(m'<=k/\V m' gm)),ct:=fun gm=>∃m',m'<n/\((m'=k+1/\gm=ρ)\/(m'<=k/\V m' gm)),bk:=fun x=>Q' (.nx x),rt:=fun r=>Q' (.rt r) } z else Q' (.nx z):=fun n z hv hn=>by
      obtain⟨b',Dl,Zp⟩:=hc z _ (vt n z hv);refine Zp _ ?_;by_cases e':b'=true
      ·rw[if_pos e'] at Dl ⊢;obtain⟨o3,q3,b3⟩:=h z (fun o=>match o with | .nx x=>∃m',m'<n/\V m' x | .ct x=>∃m',m'<n/\V m' x | .bk x=>Q' (.nx x) | .rt r=>Q' (.rt r)) Dl;refine b3 (fun o=>match o with | .nx x=>∃m',m'<n/\((m'=k+1/\x=ρ)\/(m'<=k/\V m' x)) | .ct x=>∃m',m'<n/\((m'=k+1/\x=ρ)\/(m'<=k/\V m' x)) | .bk x=>Q' (.nx x) | .rt r=>Q' (.rt r)) ?_;cases o3 with
       | nx x=>obtain⟨m',a,b⟩:=q3;exact⟨m',a,.inr ⟨by omega,b⟩⟩
       | ct x=>obtain⟨m',a,b⟩:=q3;exact⟨m',a,.inr ⟨by omega,b⟩⟩
       | bk x=>exact q3
       | rt r=>exact q3
      ·rw[if_neg e'] at Dl ⊢;exact Dl
     rcases hz with⟨rfl,rfl⟩ | ⟨h1,h2⟩
     ·refine bb _ ?_;rw[if_pos e];refine bo (fun o=>match o with | .nx x=>∃m',m'<k+1/\((m'=k+1/\x=z)\/(m'<=k/\V m' x)) | .ct x=>∃m',m'<k+1/\((m'=k+1/\x=z)\/(m'<=k/\V m' x)) | .bk x=>Q' (.nx x) | .rt r=>Q' (.rt r)) ?_;rcases ho with rfl | rfl<;>exact⟨k,cO _,.inr ⟨az _,hk⟩⟩
     ·exact body n z h2 h1
    have stop:∀o2,Q o2->(∀Q':Out->Prop,Q' o2->(match o with | .nx _=>False | .ct _=>False | .bk x=>Q' (.nx x) | .rt r=>Q' (.rt r)))->∃o,Q o/\∀Q':Out->Prop,Q' o->toQ (vE c t) ρ Q':=fun o2 q2 h2=>by
     refine⟨o2,q2,fun Q' q=>⟨fun _ z=>z=ρ,⟨0,rfl⟩,fun n z hz=>?_⟩⟩;subst hz;refine bb _ ?_;rw[if_pos e];refine bo (fun o=>match o with | .nx x=>∃m',m'<n/\x=z | .ct x=>∃m',m'<n/\x=z | .bk x=>Q' (.nx x) | .rt r=>Q' (.rt r)) ?_;have:=h2 Q' q;cases o<;>first | exact this.elim | exact this
    cases o with
    | nx x=>exact go x qo (.inl rfl)
    | ct x=>exact go x qo (.inr rfl)
    | bk x=>exact stop _ qo fun _ q=>q
    | rt r=>exact stop _ qo fun _ q=>q
   ·rw[if_neg e] at qb;refine⟨_,qb,fun Q' q=>⟨fun _ z=>z=ρ,⟨0,rfl⟩,fun n z hz=>?_⟩⟩;subst hz;refine bb _ ?_;rw[if_neg e];exact q
 exact key m ρ hm
end
def V1:f6:=fun ds Q=>∃(n:Nat) (ts:List Tr),ds=[.int n,nc ts]/\n<=1000/\ts.length<=100000/\zG n ts/\∀kv,yi n ts kv->Q (.ov (.dc (ky kv)))
def yR:TX:=(fg (kB 2 (w6 (nr (eT (eP 0) eY)) [none] (fG 0) lD (i5 eY)))
 (fg (kB 3 (wK (i5 (eT (dC (.int 0)) eY)) (eP 0)))
 (fg (kj (i4 (eP 1)) (kA 3 (gE (fG 4) (gE (fG 5) (gE (fG 6) jR)))) (fg (wV 2 (eP 4) (eP 5))
 (vA 3 (eP 5) (eV iq (qL 3 (eP 5)) (dC (.int 1))))))
 (fg (kB 7 (vz 3 (iI (nr (eT (eP 0) eY)) [none,some 3] (fG 0) (fP (eV oEq (eV fX (eP 1) (eP 0)) (dC (.int 0)))) (eP 0))))
 (fg (kB 8 (vz 7 (gV yt (eT (iI (i4 (eP 7)) [none] (fG 0) lD (k7 (eT (eP 0) (eT (dC (.int 0)) eY)))) eY))))
 (fg (gc 9 (dC (.int 0)))
 (tS 2 (fg (vE (fP (eV (jD fun i j=>.bl (decide (i<j))) (eP 9) (wY 7))) (fg (gc 4 (qL 7 (eP 9)))
 (fg (gc 9 (eV iq (eP 9) (dC (.int 1))))
 (kj (i4 (eV fX (eP 2) (eP 4))) (fG 5) (fg (vA 3 (eP 5) (eV (jD fun i j=>.int (i-j)) (qL 3 (eP 5)) (dC (.int 1))))
 (iE (fP (eV oEq (qL 3 (eP 5)) (dC (.int 0)))) (fg (ux 8 (eP 5) (eV iq (wX 8 (eP 4)) (dC (.int 1))))
 (lY 7 (eP 5))) iH))))))
 (vw 8)))))))))
noncomputable def sA(n:Nat)(w:Nat->Nat):List D:=(List.range n).map fun q=>.int (w q:Nat)
theorem Rm(n:Nat)(d:D):(List.replicate n [d]).flatten=List.replicate n d:=by
 induction n with
 | zero=>rfl
 | succ n ih=>rw[bT,bY,ih,bT];rfl
theorem S5{α:Type}(n:Nat)(d:α):List.replicate n d=(List.range n).map fun _=>d:=by
 apply List.ext_getElem
 ·simp
 ·intro i h1 h2;simp
theorem Vu(O:List Nat):pairsOf (O.map fun x=>D.tup [D.int (x:Nat),D.int 0])=some (ky (O.map fun x=>(x,(0:Int)))):=by
 induction O with
 | nil=>rfl
 | cons a r ih=>
  rw[aA];show(match rE (D.int (a:Nat)) with | some key=>(pairsOf (r.map fun x=>D.tup [D.int (x:Nat),D.int 0])).map ((key,D.int 0)::·) | none=>none)=_;rw[ih];rfl
theorem Rj(n:Nat)(ts:List Tr):Lp n ts (((List.range n).filter fun x=>decide (il ts [] x=0)).map fun x=>(x,(0:Int))) (il ts []) [] []:=by
 have hk:keys (((List.range n).filter fun x=>decide (il ts [] x=0)).map fun x=>(x,(0:Int)))=(List.range n).filter fun x=>decide (il ts [] x=0):=by
  unfold keys;rw[a9];exact List.map_id _
 have rj:∀p∈(((List.range n).filter fun x=>decide (il ts [] x=0)).map fun x=>(x,(0:Int))),p.1<n/\p.2=0/\∀t∈ts,t.2.1≠p.1:=by
  intro p hp;rw[aK] at hp;obtain⟨x,hx,rfl⟩:=hp;rw[bI,bP] at hx;refine⟨hx.1,rfl,fun t ht e=>?_⟩;have h0:il ts [] x=0:=by simpa using hx.2
  unfold il at h0;rw[List.countP_eq_zero] at h0;exact h0 t ht (by simp[e])
 refine⟨by rw[hk];exact List.Pairwise.filter _ List.nodup_range,fun p hp=>(rj p hp).1,fun p hp t ht e=>absurd e ((rj p hp).2.2 t ht),fun p hp=>.inl (rj p hp).2,fun q hq=>?_,fun q hq=>by simp,?_⟩
 ·rw[hk,bI,bP];simp[hq]
 ·rw[c6];exact List.Pairwise.imp (fun _=>cj _) (List.pairwise_of_forall (R:=fun _ _=>True) fun _ _=>trivial)
theorem WY(ds:List D)(Qr:R->Prop)(hl:ds.length=2)(h:V1 ds Qr):yR { nx:=fun _=>Qr (.fz .non),rt:=Qr } (g5 ["count","above","lowers","waits","upper","lower","column","order","levels","place"] ds):=by
 obtain⟨n,ts,rfl,hn,xO,val,q⟩:=h;show yR _ [.fz (.int n),.fz (nc ts),.un,.un,.un,.un,.un,.un,.un,.un];unfold yR nc;have big:=j7;walk_at "px";refine SH (List.range n) (fun(i:Nat)=>.int (0+i)) (fun _=>[]) (fun Q' h=>?_) (by simp;omega) (fun x hx K1 k=>?_) ?_
 ·walk_at "px";exact⟨by omega,by omega,by simpa using h⟩
 ·walk_at "px";exact⟨by omega,k⟩
 walk_at "go";refine⟨by omega,by omega,by omega,by simp;omega,?_⟩;rw[eB,Rm,S5];walk_at "go";refine vP ts dT (fun Q' h=>?_) (fun i ρ=>∃a b c:Sl,ρ=[.fz (.int n),.fz (.lst (ts.map dT)),.ov (.ll ((List.range n).map fun u=>(nq (ts.take i) u).map dN)),.ow (sA n (il (ts.take i) [])),a,b,c,.un,.un,.un])
  ⟨_,_,_,rfl⟩ ?_ ?_
 ·walk_at "px";exact h
 ·rintro i t ρ ht ⟨a,b,c,rfl⟩;obtain⟨v1,v2⟩:=val t (aV ht);have GL:i<ts.length:=(ax.mp ht).1;rw[show dT t=.tup [.int t.1,.int t.2.1,.int t.2.2] from rfl];walk_at "px";refine⟨t.1,_,by rw[ae,bE];exact EE v1,Ki _ v1,?_⟩;have MC:(nq (ts.take i) t.1).length<=i:=by
   unfold nq;rw[ae];refine aH (aY _ _) ?_;simp;omega
  refine⟨by rw[ae];omega,?_⟩;have e1:ts.take (i+1)=ts.take i++[t]:=by rw[bg,ht];rfl
  have e2:((List.range n).map fun u=>(nq (ts.take i) u).map dN).set t.1 ((nq (ts.take i) t.1).map dN++[D.int t.2.1])=(List.range n).map fun u=>(nq (ts.take (i+1)) u).map dN:=by
   rw[Fe];refine eD fun x hx=>?_
   rw[e1];unfold nq;rw[List.filter_append,aT,aT,List.filter_cons];by_cases h:x=t.1
   ·subst h;simp[dN]
   ·have:(t.1==x)=false:=by simpa using Ne.symm h
    simp[h,this]
  have e3:(sA n (il (ts.take i) [])).set t.2.1 (D.int ((il (ts.take i) [] t.2.1:Nat)+1))=sA n (il (ts.take (i+1)) []):=by
   unfold sA;rw[Fe];refine eD fun x hx=>?_
   rw[e1];unfold il;rw[List.countP_append,dU,List.countP_nil];by_cases h:x=t.2.1
   ·subst h;simp
   ·have:(t.2.1==x)=false:=by simpa using Ne.symm h
    simp[h,this]
  rw[e2];walk_at "go";refine⟨_,Ag _ v2,t.2.1,by unfold sA;rw[ae,bE];exact EE v2,?_⟩;rw[e3];exact⟨_,_,_,rfl⟩
 ·rintro ρ ⟨a,b,c,rfl⟩;rw[bN];walk_at "go";unfold vz;walk_at "px";refine rP (List.range n) (fun(i:Nat)=>.int (0+i)) (fun(i:Nat)=>dN i) (fun x=>decide (il ts [] x=0)) (fun Q' h=>?_) (by simp;omega) (fun x hx K1 K0 k1 k0=>?_) ?_
  ·walk_at "px";exact⟨by omega,by omega,by simpa using h⟩
  ·have m8:x<n:=by simpa using hx
   rw[Int.zero_add];walk_at "px";refine⟨_,Ag _ m8,?_⟩;walk_at "px";by_cases h:il ts [] x=0
   ·rw[if_pos (by omega)];exact k1 (by simpa using h)
   ·rw[if_neg (by omega)];exact k0 (by simpa using h)
  have Bm:∀L:List Nat,Ip (.ow (L.map dN))=true:=fun L=>by
   show(L.map dN).all tZ=true;rw[List.all_map,List.all_eq_true];intro x _;rfl
  refine⟨Bm _,?_⟩;walk_at "go";refine pG ((List.range n).filter fun x=>decide (il ts [] x=0)) dN (fun x=>.tup [.int (x:Nat),.int 0]) (fun Q' h=>?_) ?_ (fun x hx K1 k=>?_) ?_
  ·walk_at "px";exact h
  ·refine aH (aY _ _) ?_;simp;omega
  ·unfold dN;walk_at "px";exact⟨by omega,k⟩
  have sl:=Rj n ts;generalize ho:((List.range n).filter fun x=>decide (il ts [] x=0))=O at sl;simp only[zR,yt,Vu];have ME:keys (O.map fun x=>(x,(0:Int)))=O:=by unfold keys;rw[a9];exact List.map_id _
  refine⟨?_,?_,?_⟩
  ·have:(ky (O.map fun x=>(x,(0:Int)))).map (·.1)=O.map fun x=>(Sum.inl ((x:Nat):Int):Key):=by unfold ky;simp
   rw[this];have nd:=sl.nd;rw[ME] at nd;unfold List.Nodup at nd ⊢;rw[c6];exact nd.imp fun h z=>h (by injection z with z;omega)
  ·show(ky (O.map fun x=>(x,(0:Int)))).all (fun p=>tZ p.2)=true;rw[List.all_eq_true];intro x hx;unfold ky at hx;rw[aK] at hx;obtain⟨p,_,rfl⟩:=hx;rfl
  walk_at "go";have eO:(O.map fun i=>dN i)=(keys (O.map fun x=>(x,(0:Int)))).map dN:=by rw[ME]
  rw[eO];have GF:∀x∈(O.map fun x=>(x,(0:Int))),x.2=0:=by
   intro x hx;rw[aK] at hx;obtain⟨y,_,rfl⟩:=hx;rfl
  generalize (O.map fun x=>(x,(0:Int)))=Yd at sl GF;walk_at "go";simp only[OV.val];have Zk:((List.range n).map fun u=>(nq ts u).map dN).map D.lst=(List.range n).map fun u=>D.lst ((nq ts u).map dN):=by rw[a9];rfl
  rw[Zk];refine⟨fun m ρ=>∃(kv:List (Nat×Int)) (w:Nat->Nat) (pl:Nat) (a b c:Sl),ρ=[.fz (.int n),.fz (.lst (ts.map dT)),.fz (.lst ((List.range n).map fun u=>D.lst ((nq ts u).map dN))),.ow (sA n w),a,b,c,.ow ((keys kv).map dN),.ov (.dc (ky kv)),.fz (.int pl)]/\
   pl<=kv.length/\m=n-pl/\Lp n ts kv w (keys (kv.take pl)) []/\∀x∈kv,∀y∈kv.drop pl,x.2<=y.2+1,⟨n,Yd,il ts [],0,_,_,_,rfl,aL _,rfl,sl,fun x hx y hy=>?_⟩,?_⟩
  ·rw[GF x hx,GF y (cS hy)];decide
  rintro m ρ ⟨kv,w,pl,a,b,c,rfl,kO,rfl,lp,bd⟩;have YI:=CD lp.nd lp.lt;have Hh:(keys kv).length=kv.length:=by unfold keys;simp
  walk_at "px";rw[ae,Hh];by_cases hc:pl<kv.length
  ·rw[if_pos (by omega)];have hu:(keys kv)[pl]?=some kv[pl].1:=by unfold keys;rw[aI,ai hc];rfl
   have Yn:kv[pl].1<n:=lp.lt _ (cC hc);have mM:iu (keys kv) (pl:Int)=some kv[pl].1:=by
    rw[nu (by omega)];have:=(ax.mp hu).2;rw[this]
   refine⟨_,mM,?_⟩;walk_at "go";simp only[qh];have Mm:kv.take (pl+1)=kv.take pl++[kv[pl]]:=by rw[bg,ai hc];rfl
   have Bw:keys (kv.take (pl+1))=keys (kv.take pl)++[kv[pl].1]:=by rw[Mm];unfold keys;rw[aT];rfl
   have G7:kv[pl].1∉keys (kv.take pl):=by
    have nd:=lp.nd;rw[<-bH (pl+1) kv] at nd;unfold keys at nd;rw[aT,cY] at nd;have L6:=nd.1;rw[show List.map (·.1) (kv.take (pl+1))=keys (kv.take pl)++[kv[pl].1] from Bw,cY] at L6;exact fun z=>L6.2.2 _ z _ (by simp) rfl
   have Ma:=lp.next G7;rw[<-Bw] at Ma;have GP:=lp.oA;have Hm:∀x∈keys (kv.take (pl+1)),∃l,(x,l)∈kv/\l<=kv[pl].2:=by
    intro x hx;unfold keys at hx;rw[aK] at hx;obtain⟨p,hp,rfl⟩:=hx;refine⟨p.2,cw hp,?_⟩;rw[Mm] at hp;rcases ay.mp hp with hp | hp
    ·obtain⟨j,hj,e⟩:=bj hp;rw[aM] at hj;rw[dF] at e;have:=b9.mp GP j pl (by omega) hc (by omega);rw[e] at this;exact this
    ·simp at hp;rw[hp];exact cj _
   have Hu:∀x∈kv,x.2<=kv[pl].2+1:=fun x hx=>bd x hx _ (by rw[List.mem_iff_getElem?];exact⟨0,by rw[List.getElem?_drop];simpa using ai hc⟩)
   have nK:kv[pl]∈kv:=cC hc;generalize Yo:kv[pl]=ul at *;obtain⟨u,lu⟩:=ul;simp only at *;refine vP (nq ts u) dN (fun Q' h=>?_) (fun j ρ=>∃(pU:List (Nat×Int)) (w':Nat->Nat) (b c:Sl),ρ=[.fz (.int n),.fz (.lst (ts.map dT)),.fz (.lst ((List.range n).map fun u=>D.lst ((nq ts u).map dN))),.ow (sA n w'),.fz (.int u),b,c,.ow ((keys pU).map dN),.ov (.dc (ky pU)),.fz (.int (pl+1))]/\
    pU.take (pl+1)=kv.take (pl+1)/\pl+1<=pU.length/\Lp n ts pU w' (keys (kv.take (pl+1))) ((nq ts u).drop j)/\(∀x∈kv,x∈pU)/\∀x∈pU,x.2<=lu+1) ⟨kv,w,_,_,rfl,rfl,hc,Ma,fun _ h=>h,Hu⟩ ?_ ?_
   ·walk_at "px";refine⟨_,Ag _ Yn,?_⟩;exact h
   ·rintro j qq ρ hj ⟨pU,w',b,c,rfl,rS,uT,qX,qT,BW⟩;have GV:qq∈nq ts u:=aV hj;have Mp:∃t∈ts,t.2.1=qq/\t.1=u:=by
     unfold nq at GV;rw[aK] at GV;obtain⟨t,ht,e⟩:=GV;rw[bI] at ht;exact⟨t,ht.1,e,by simpa using ht.2⟩
    have zc:qq<n:=by
     obtain⟨t,ht,e,_⟩:=Mp;rw[<-e];exact(val t ht).2
    have BK:(nq ts u).drop j=qq::(nq ts u).drop (j+1):=by
     have MG:=(ax.mp hj)
     rw[bJ MG.1,MG.2]
    rw[BK] at qX;obtain⟨w1,w2⟩:=qX.less zc;have Hg:=CD qX.nd qX.lt;rw[show dN qq=.int (qq:Nat) from rfl];walk_at "px";refine⟨_,Ag _ zc,qq,by unfold sA;rw[ae,bE];exact EE zc,?_⟩;have e3:(sA n w').set qq (D.int ((w' qq:Nat)-1))=sA n (fun x=>if x=qq then w' qq-1 else w' x):=by
     unfold sA;rw[Fe];refine eD fun x hx=>?_
     dsimp only;by_cases h:x=qq
     ·rw[if_pos h,if_pos h];congr 1;omega
     ·rw[if_neg h,if_neg h]
    rw[e3];walk_at "go";refine⟨_,Ag _ zc,?_⟩;walk_at "px";by_cases he:w' qq-1=0
    ·rw[if_pos (by omega)];refine⟨_,_,rfl,zW qX.nd (qT _ nK),?_⟩;walk_at "px";refine⟨_,rfl,by unfold ky;rw[ae];omega,?_⟩;rw[Jm w2];walk_at "go";have ek:(keys pU).map dN++[D.int (qq:Nat)]=(keys (pU++[(qq,lu+1)])).map dN:=by unfold keys;simp[dN]
     rw[ek];refine⟨by rw[ae];unfold keys;rw[ae];omega,pU++[(qq,lu+1)],_,.fz (.int (qq:Nat)),c,rfl,?_,by rw[au];omega,qX.step zc he (fun x hx=>?_) (qT _ nK) Mp BW,fun x hx=>bZ _ (qT x hx),fun x hx=>?_⟩
     ·rw[List.take_append_of_le_length uT,rS]
     ·obtain⟨l,l1,l2⟩:=Hm x hx;exact⟨l,qT _ l1,l2⟩
     ·rcases ay.mp hx with hx | hx
      ·exact BW x hx
      ·simp at hx;subst hx;exact cj _
    ·rw[if_neg (by omega)];exact⟨pU,_,_,_,rfl,rS,uT,qX.nG zc he,qT,BW⟩
   ·rintro ρ ⟨pU,w',b,c,rfl,rS,uT,qX,qT,BW⟩;rw[List.drop_length,<-rS] at qX;have Hg:=CD qX.nd qX.lt;refine⟨n-(pl+1),by omega,pU,w',pl+1,_,_,_,rfl,uT,rfl,qX,fun x hx y hy=>?_⟩;have h1:=BW x hx;have GK:pU[pl]?=some (u,lu):=by
     have e:=et (fun l=>l[pl]?) rS;simp only[List.getElem?_take,cO,aR] at e;rw[e,ai hc,Yo]
    obtain⟨jj,YL,e⟩:=bj hy;rw[bC] at YL;rw[List.getElem_drop] at e;have h2:=b9.mp qX.oA pl (pl+1+jj) (by omega) (by omega) (by omega);rw[e,(ax.mp GK).2] at h2;simp only at h2;omega
  ·rw[if_neg (by omega)];have e:kv.take pl=kv:=bf (by omega);rw[e] at lp;walk_at "go";exact q kv lp.done
def xp:f6:=fun ds Q=>yR { nx:=fun _=>Q (.fz .non),rt:=Q } (g5 ["count","above","lowers","waits","upper","lower","column","order","levels","place"] ds)
theorem Xl(ds:List D)(Qr:R->Prop)(hl:ds.length=2)(h:xp ds Qr):yR { nx:=fun _=>Qr (.fz .non),rt:=Qr } (g5 ["count","above","lowers","waits","upper","lower","column","order","levels","place"] ds):=h
structure ki (ts rs:List Tr):Prop where
 ne:rs≠[]
 sub:∀t∈rs,t∈ts
 nd:(rs.map (·.1)).Nodup
 Zm:∀i t t',rs[i]?=some t->rs[(i+1)%rs.length]?=some t'->t.2.1=t'.1
structure Way (way:List Tr) (m0 m:Nat):Prop where
 ch:∀i t t',way[i]?=some t->way[i+1]?=some t'->t.1=t'.2.1
 last:∀t,way.getLast?=some t->t.1=m
 nil:way=[]->m=m0
theorem Vt{way ts:List Tr}{m0 m s:Nat}(w:Way way m0 m)(sub:∀t∈way,t∈ts)(nd:(way.map (·.2.1)).Nodup){t0:Tr}(hs:way[s]?=some t0)(h0:t0.2.1=m):ki ts (way.drop s).reverse:=by
 have fI:s<way.length:=(ax.mp hs).1;have hL:0<(way.drop s).length:=by rw[bC];omega
 generalize hv:way.drop s=v at hL;have mM:∀i,v[i]?=way[s+i]?:=fun i=>by rw[<-hv,List.getElem?_drop]
 have pX:∀i t t',v[i]?=some t->v[i+1]?=some t'->t.1=t'.2.1:=fun i t t' h1 h2=>w.ch (s+i) t t' (by rw[<-mM];exact h1) (by rw[<-h2,mM];rfl)
 have GI:v[0]?=some t0:=by rw[mM];exact hs
 have wt:∀t,v[v.length-1]?=some t->t.1=t0.2.1:=fun t ht=>by
  rw[h0];refine w.last t ?_;rw[List.getLast?_eq_getElem?];rw[mM] at ht;have:v.length=way.length-s:=by rw[<-hv,bC]
  rw[show way.length-1=s+(v.length-1) by omega];exact ht
 have rf:∀t∈v,t∈ts:=fun t ht=>sub t (cS (by rw[hv];exact ht))
 have wg:(v.map (·.2.1)).Nodup:=by
  rw[<-hv,List.map_drop];exact nd.sublist (List.drop_sublist _ _)
 -- qu HF are qu seconds,turned on by one
 have GS:v.map (·.1)=(v.map (·.2.1)).drop 1++[t0.2.1]:=by
  apply List.ext_getElem?;intro i;rw[aI];by_cases h1:i+1<v.length
  ·rw[cD (by simp;omega),List.getElem?_drop,aI,Nat.add_comm 1 i,ai (by omega:i<v.length),ai h1];simp only[bV,aN];exact pX i _ _ (ai _) (ai _)
  ·by_cases h2:i<v.length
   ·have e:i=v.length-1:=by omega
    rw[List.getElem?_append_right (by simp;omega)];have e2:i-((v.map (·.2.1)).drop 1).length=0:=by simp;omega
    rw[e2,ai h2];simp only[bV,bX,aN];exact wt _ (by rw[<-e];exact ai h2)
   ·rw[c9 (by omega),c9 (by simp;omega)];rfl
 have Bp:(v.map (·.1)).Nodup:=by
  rw[GS];have e:v.map (·.2.1)=t0.2.1::(v.map (·.2.1)).drop 1:=by
   cases v with
   | nil=>simp at hL
   | cons a r=>simp at GI;subst GI;rfl
  rw[e,bA] at wg;rw[cY];refine⟨wg.2,by simp,fun a ha b hb=>?_⟩;simp only[aX] at hb;subst hb;exact fun z=>wg.1 (z▸ha)
 refine⟨fun z=>by rw[List.reverse_eq_nil_iff] at z;rw[z] at hL;simp at hL,fun t ht=>rf t (List.mem_reverse.mp ht),?_,fun i t t' h1 h2=>?_⟩
 ·rw[List.map_reverse];unfold List.Nodup at Bp ⊢;rw[List.pairwise_reverse];exact Bp.imp fun h=>Ne.symm h
 ·have hi:i<v.length:=by simpa using (ax.mp h1).1
  rw[List.getElem?_reverse hi] at h1;rw[List.length_reverse] at h2;by_cases h3:i+1<v.length
  ·rw[Nat.mod_eq_of_lt h3,List.getElem?_reverse h3] at h2;exact(pX (v.length-1-(i+1)) t' t h2 (by rw[<-h1];congr 1;omega)).symm
  ·have e:i+1=v.length:=by omega
   rw[e,Nat.mod_self,List.getElem?_reverse hL] at h2;rw[show v.length-1-i=0 by omega,GI] at h1;cases h1;rw[Nat.sub_zero] at h2;exact(wt t' h2).symm
def V0:f6:=fun ds Q=>∃(n:Nat) (ts:List Tr) (kv:List (Nat×Int)),ds=[.dic (ky kv),nc ts]/\n<=1000/\ts.length<=100000/\zG n ts/\yi n ts kv/\kv.length<n/\∀rs,ki ts rs->Q (.ow (rs.map dT))
def yQ:TX:=(fg (kB 2 yv)
 (fg (kj (i4 (eP 1)) (fG 3) (iE (fP (eV (vj true) (eV fX (eP 3) (dC (.int 0))) (eP 0))) (ux 2 (eV fX (eP 3) (dC (.int 1))) (eP 3)) iH))
 (tS 2 (fg (gc 4 (gV yu (eT (eP 2) eY)))
 (fg (kB 5 yv)
 (fg (kB 6 (i5 eY))
 (fg (vE (uE 5 (fP (eV (vj true) (eP 4) (eP 5)))) (fg (ux 5 (eP 4) (wY 6))
 (fg (lY 6 (uD (eP 2) (eP 4)))
 (gc 4 (eV fX (uD (eP 2) (eP 4)) (dC (.int 0)))))))
 (tS 5 (tS 6 (fg (kB 7 (nS (eP 6) (mQ (uD (eP 5) (eP 4))) pL))
 (fg (yK 7)
 (pD 7))))))))))))
noncomputable def uf(way:List Tr):List (Nat×Int):=way.zipIdx.map fun p=>(p.1.2.1,(p.2:Int))
theorem EM(way:List Tr):keys (uf way)=way.map (·.2.1):=by
 unfold keys uf;rw[a9];have:((fun x:Nat×Int=>x.1)∘fun p:Tr×Nat=>(p.1.2.1,(p.2:Int)))=(fun t:Tr=>t.2.1)∘Prod.fst:=rfl;rw[this,<-a9,List.zipIdx_map_fst]
theorem Pl(way:List Tr)(t:Tr):uf (way++[t])=uf way++[(t.2.1,(way.length:Int))]:=by
 unfold uf;rw[List.zipIdx_append,aT];simp
theorem Oq{way:List Tr}{s:Nat}{t:Tr}(h:way[s]?=some t):(t.2.1,(s:Int))∈uf way:=by
 unfold uf;rw[aK];exact⟨(t,s),List.mem_zipIdx_iff_getElem?.mpr h,rfl⟩
theorem WX(ds:List D)(Qr:R->Prop)(hl:ds.length=2)(h:V0 ds Qr):yQ { nx:=fun _=>Qr (.fz .non),rt:=Qr } (g5 ["levels","above","triple_over","triple","number","places","way","ring"] ds):=by
 obtain⟨n,ts,kv,rfl,hn,xO,val,lv,fI,q⟩:=h;show yQ _ [.fz (.dic (ky kv)),.fz (nc ts),.un,.un,.un,.un,.un,.un];unfold yQ nc;have big:=j7;walk_at "px";walk_at "go";refine vP ts dT (fun Q' h=>?_) (fun i ρ=>∃(tv:List (Nat×Tr)) (a:Sl),ρ=[.fz (.dic (ky kv)),.fz (.lst (ts.map dT)),.ov (.dc (dA dT tv)),a,.un,.un,.un,.un]/\
  tv.length<=i/\(∀q t,jw tv q=some t->t∈ts/\t.2.1=q/\t.1∉keys kv)/\∀t∈ts.take i,t.1∉keys kv->(jw tv t.2.1).isSome=true) ⟨[],_,rfl,az _,fun q t e=>by simp[jw] at e,fun t ht=>by simp at ht⟩ ?_ ?_
 ·walk_at "px";exact h
 ·rintro i t ρ ht ⟨tv,a,rfl,h1,h2,h3⟩;have GL:i<ts.length:=(ax.mp ht).1;have e1:ts.take (i+1)=ts.take i++[t]:=by rw[bg,ht];rfl
  rw[show dT t=.tup [.int t.1,.int t.2.1,.int t.2.2] from rfl];walk_at "px";refine⟨_,rfl,?_⟩;walk_at "px";refine⟨_,rfl,?_⟩;simp only[Ku];by_cases hk:t.1∈keys kv
  ·simp only[hk,bR,bS,af,aJ];refine⟨tv,_,rfl,by omega,h2,fun t' fY ze=>?_⟩;rw[e1] at fY;rcases ay.mp fY with fY | fY
   ·exact h3 t' fY ze
   ·simp at fY;subst fY;exact absurd hk ze
  ·simp only[hk,bp,dZ,aR];refine⟨_,rfl,?_⟩;walk_at "px";refine⟨_,rfl,by unfold dA;rw[ae];omega,wN tv t.2.1 t,.fz (dT t),?_,?_,fun q' t' e=>?_,fun t' fY ze=>?_⟩
   ·rw[<-O0];rfl
   ·have:=Rw tv t.2.1 t;omega
   ·rw[Kf] at e;split at e
    ·rename_i hq;cases e;exact⟨aV ht,hq.symm,hk⟩
    ·exact h2 q' t' e
   ·rw[Kf];split
    ·rfl
    ·rename_i gP;rw[e1] at fY;rcases ay.mp fY with fY | fY
     ·exact h3 t' fY ze
     ·simp at fY;subst fY;exact absurd rfl gP
 ·rintro ρ ⟨tv,a,rfl,h1,h2,h3⟩;rw[bN] at h3;walk_at "go";have hF:∀x,x<n->x∉keys kv->∃t,jw tv x=some t:=fun x hx hk=>by
   obtain⟨t,t1,t2,t3⟩:=lv.out x hx hk;have:=h3 t t1 t3;rw[t2] at this;exact Option.isSome_iff_exists.mp this
  have hex:∃x,x<n/\x∉keys kv:=ee fun z=>by
   have:∀w∈List.range n,w∈keys kv:=fun w hw=>ee fun z2=>z ⟨w,bP.mp hw,z2⟩
   have:=yJ List.nodup_range this;rw[bE] at this;unfold keys at this;rw[ae] at this;omega
  simp only[OV.val,yu,UH];refine⟨?_,fun M hM _=>?_⟩
  ·obtain⟨x,x1,x2⟩:=hex;obtain⟨t,ht⟩:=hF x x1 x2;intro z;rw[List.map_eq_nil_iff] at z;rw[z] at ht;simp[jw] at ht
  rw[aK] at hM;obtain⟨pm,wd,rfl⟩:=hM;have MB:∃t,jw tv pm.1=some t:=Option.isSome_iff_exists.mp ((S8 tv pm.1).mpr (bU wd))
  generalize pm.1=m0 at MB;walk_at "go";walk_at "go";refine⟨aL _,?_⟩;walk_at "go";refine⟨fun mm ρ=>∃(way:List Tr) (m:Nat) (a:Sl),ρ=[.fz (.dic (ky kv)),.fz (.lst (ts.map dT)),.fz (.dic (dA dT tv)),a,.fz (.int m),.ov (.dc (ky (uf way))),.ow (way.map dT),.un]/\mm=n-way.length/\Way way m0 m/\(way.map fun t:Tr=>t.2.1).Nodup/\
   (∀t∈way,t∈ts)/\∃t,jw tv m=some t,⟨n,[],m0,_,rfl,rfl,⟨fun i t t' e=>by simp at e,fun t e=>by simp at e,fun _=>rfl⟩,by simp,fun t ht=>(by cases ht),MB⟩,?_⟩
  rintro mm ρ ⟨way,m,a,rfl,rfl,wy,nd,sub,t,ht⟩;obtain⟨GN,jF,Yr⟩:=h2 m t ht;have xM:way.length<=n:=by
   have:=yJ (ws:=List.range n) nd fun w hw=>by
    rw[aK] at hw;obtain⟨t,h,rfl⟩:=hw;exact bP.mpr (val t (sub t h)).2
   simpa using this
  walk_at "px";simp only[OV.val];refine⟨_,rfl,?_⟩;simp only[Ku,EM];by_cases hk:m∈way.map (·.2.1)
  ·simp only[hk,bR,bS,af,aJ];walk_at "go";simp only[OV.val];rw[aK] at hk;obtain⟨t0,GO,e0⟩:=hk;obtain⟨s,hs,es⟩:=bj GO;have uW:way[s]?=some t0:=by rw[ai hs,es]
   have Mt:=zW (by rw[EM];exact nd) (Oq uW);rw[e0] at Mt;refine⟨_,_,rfl,Mt,?_⟩;simp only;rw[C0 _ (by omega),eB];walk_at "go";simp only[yK];walk_at "go";rw[<-List.map_reverse];exact q _ (Vt wy sub nd uW e0)
  ·simp only[hk,bp,dZ,aR];refine⟨_,rfl,by unfold ky uf;simp;omega,?_⟩;have wu:m∉keys (uf way):=by rw[EM];exact hk
   rw[ae,Jm wu];walk_at "go";have MD:look (dA dT tv) (.inl (m:Int))=some (dT t):=by rw[EO,ht];rfl
   refine⟨_,_,rfl,MD,by rw[ae];omega,?_⟩;walk_at "go";refine⟨_,_,rfl,MD,?_⟩;simp only[dT];refine⟨_,rfl,n-(way++[t]).length,?_,way++[t],t.1,a,?_,rfl,⟨fun i x y hx hy=>?_,fun x hx=>?_,fun z=>by simp at z⟩,?_,fun x hx=>?_,?_⟩
   ·have:way.length<n:=by
     have:=yJ (l:=m::way.map (fun t:Tr=>t.2.1)) (ws:=List.range n) (bA.mpr ⟨hk,nd⟩) fun w hw=>by
      rcases ar.mp hw with rfl | hw
      ·rw[<-jF];exact bP.mpr (val t GN).2
      ·rw[aK] at hw;obtain⟨t,h,rfl⟩:=hw;exact bP.mpr (val t (sub t h)).2
     rw[aE,ae,bE] at this;omega
    rw[au];simp;omega
   ·rw[Pl,jF];simp[dT,jF]
   ·by_cases hi:i+1<way.length
    ·rw[cD hi] at hy;rw[cD (by omega)] at hx;exact wy.ch i x y hx hy
    ·have BA:i+1<(way++[t]).length:=(ax.mp hy).1;rw[au,List.length_singleton] at BA;have e:i+1=way.length:=by omega
     rw[e,List.getElem?_append_right (az _),Nat.sub_self] at hy;simp at hy;subst hy;rw[cD (by omega)] at hx;rw[jF];refine wy.last x ?_;rw[List.getLast?_eq_getElem?,show way.length-1=i by omega];exact hx
   ·simp at hx;subst hx;rfl
   ·rw[aT,cY];refine⟨nd,by simp,fun x hx y hy=>?_⟩;simp at hy;subst hy;rw[jF];exact fun z=>hk (z▸hx)
   ·rcases ay.mp hx with hx | hx
    ·exact sub x hx
    ·simp at hx;subst hx;exact GN
   ·exact hF _ (val t GN).1 Yr
def xo:f6:=fun ds Q=>yQ { nx:=fun _=>Q (.fz .non),rt:=Q } (g5 ["levels","above","triple_over","triple","number","places","way","ring"] ds)
theorem Xk(ds:List D)(Qr:R->Prop)(hl:ds.length=2)(h:xo ds Qr):yQ { nx:=fun _=>Qr (.fz .non),rt:=Qr } (g5 ["levels","above","triple_over","triple","number","places","way","ring"] ds):=h
def Em(n:Nat)(ts:List Tr)(ls:List Int):Prop:=ls.length=n/\∀q,q<n->∀l,ls[q]?=some l->(∀t∈ts,t.2.1=q->∃l',ls[t.1]?=some l'/\l'+1<=l)/\((l=0/\∀t∈ts,t.2.1≠q)\/∃t∈ts,t.2.1=q/\ls[t.1]?=some (l-1))
def S4:f6:=fun ds Q=>∃(n:Nat) (ts:List Tr),ds=[.int n,nc ts]/\n<=1000/\ts.length<=100000/\zG n ts/\(∀ls,Em n ts ls->Q (.ov (.tl (.str "levels") (ls.map .int))))/\∀rs,ki ts rs->Q (.ov (.tl (.str "ring") (rs.map dT)))
def yI:TX:=(fg (gc 2 (gF 2 xp (eT (eP 0) (eT (eP 1) eY))))
 (fg (iE (fP (eV (jD fun i j=>.bl (decide (i<j))) (gV wW (eT (eP 2) eY)) (eP 0))) (ip (wU (dC (.str "ring")) (gF 2 xo (eT (eP 2) (eT (eP 1) eY))))) iH)
 (ip (wU (dC (.str "levels")) (iI (nr (eT (eP 0) eY)) [none,some 2] (fG 0) lD (uD (eP 1) (eP 0)))))))
theorem UG(ds:List D)(Qr:R->Prop)(hl:ds.length=2)(h:S4 ds Qr):yI { nx:=fun _=>Qr (.fz .non),rt:=Qr } (g5 ["count","above","levels"] ds):=by
 obtain⟨n,ts,rfl,hn,xO,val,q1,q2⟩:=h;show yI _ [.fz (.int n),.fz (nc ts),.un];unfold yI;have big:=j7;walk_at "px";refine WY _ _ rfl ⟨n,ts,rfl,hn,xO,val,fun kv lv=>?_⟩;have YI:=CD lv.nd lv.lt;walk_at "go";simp only[OV.val];rw[show(ky kv).length=kv.length by unfold ky;simp];by_cases hc:kv.length<n
 ·rw[if_pos (by omega)];simp only[wU];walk_at "px";refine WX _ _ rfl ⟨n,ts,kv,rfl,hn,xO,val,lv,hc,fun rs r=>?_⟩;exact q2 rs r
 ·rw[if_neg (by omega)];have xX:∀x,x<n->x∈keys kv:=fun x hx=>ee fun z=>by
   have:=yJ (l:=x::keys kv) (ws:=List.range n) (bA.mpr ⟨z,lv.nd⟩) fun w hw=>by
    rcases ar.mp hw with rfl | hw
    ·exact bP.mpr hx
    ·unfold keys at hw;rw[aK] at hw;obtain⟨p,hp,rfl⟩:=hw;exact bP.mpr (lv.lt p hp)
   rw[aE,bE] at this;unfold keys at this;rw[ae] at this;omega
  have BD:∀x,x<n->∃l,(x,l)∈kv:=fun x hx=>by
   have:=xX x hx;unfold keys at this;rw[aK] at this;obtain⟨p,hp,rfl⟩:=this;exact⟨p.2,hp⟩
  walk_at "go";unfold wU;walk_at "px";refine pG (List.range n) (fun(i:Nat)=>.int (0+i)) (fun x=>.int ((jw kv x).getD 0)) (fun Q' h=>?_) (by simp;omega) (fun x hx K1 k=>?_) ?_
  ·walk_at "px";exact⟨by omega,by omega,by simpa using h⟩
  ·have m8:x<n:=by simpa using hx
   obtain⟨l,hl⟩:=BD x m8;rw[Int.zero_add];walk_at "px";refine⟨_,_,rfl,zW lv.nd hl,?_⟩;have e:look (dA D.int kv) (.inl (x:Int))=(jw kv x).map D.int:=EO _ _ _;have e2:look (ky kv) (.inl (x:Int))=some (.int l):=zW lv.nd hl;rw[show ky kv=dA D.int kv from rfl,e] at e2;cases hg:jw kv x with
   | none=>rw[hg] at e2;cases e2
   | some l'=>
    rw[hg] at e2 k;simp only[bV,aN,D.int.injEq] at e2;subst e2;exact k
  ·have e0:((List.range n).map fun x=>D.int ((jw kv x).getD 0))=((List.range n).map fun x=>(jw kv x).getD 0).map D.int:=by rw[a9];rfl
   rw[e0];have YR:∀x l,(x,l)∈kv->(jw kv x).getD 0=l:=fun x l hl=>by
    have e:look (dA D.int kv) (.inl (x:Int))=(jw kv x).map D.int:=EO _ _ _;have e2:look (ky kv) (.inl (x:Int))=some (.int l):=zW lv.nd hl;rw[show ky kv=dA D.int kv from rfl,e] at e2;cases hg:jw kv x with
    | none=>rw[hg] at e2;cases e2
    | some l'=>
     rw[hg] at e2;simp only[bV,aN,D.int.injEq] at e2;subst e2;rfl
   have mM:∀x l,(x,l)∈kv->((List.range n).map fun x=>(jw kv x).getD 0)[x]?=some l:=fun x l hl=>by
    rw[Ki _ (lv.lt _ hl),YR x l hl]
   refine q1 _ ⟨by simp,fun x hx l Mg=>?_⟩;obtain⟨l',Bv⟩:=BD x hx;rw[mM x l' Bv] at Mg;cases Mg;refine⟨fun t ht e=>?_,?_⟩
   ·obtain⟨l2,h1,h2⟩:=lv.up _ Bv t ht e;exact⟨l2,mM _ _ h1,h2⟩
   ·rcases lv.top _ Bv with⟨h1,h2⟩ | ⟨t,t1,t2,t3⟩
    ·exact .inl ⟨h1,h2⟩
    ·exact .inr ⟨t,t1,t2,mM _ _ t3⟩
def sj:f6:=fun ds Q=>yI { nx:=fun _=>Q (.fz .non),rt:=Q } (g5 ["count","above","levels"] ds)
theorem Vs(ds:List D)(Qr:R->Prop)(hl:ds.length=2)(h:sj ds Qr):yI { nx:=fun _=>Qr (.fz .non),rt:=Qr } (g5 ["count","above","levels"] ds):=h
theorem D4{t:TX}{ρ:Ev}(h:lX t):Pt fun Q:R->Prop=>t { nx:=fun _=>Q (.fz .non),rt:=Q } ρ:=by
 have:=Pt.bind (u:=fun o (Q:R->Prop)=>match o with | .nx _=>Q (.fz .non) | .rt r=>Q r | _=>False) (h ρ) fun o=>by cases o<;>first | exact Pt.no | exact Pt.pure _
 exact this
end Wc
open PySem L2 PyProof.Rows Wc
local macro_rules | `(tactic| walk_at "dt")=>`(tactic| (repeat' (with_reducible first | exact OZ | exact Ny | exact OT | exact Pr | exact OP | exact OO | exact Pz | exact Q7 | exact Pq | exact Pp | exact Pe | exact OX | exact N4 | exact N3 | exact N2 | exact OW | exact PM | exact PL | exact PK | exact Rr | exact Px | assumption | apply N5 | apply OY | apply OU | apply PQ | apply OS | apply OR | apply Ov | apply PN | apply PJ | apply PH | apply PF | apply OQ | apply Rv | apply Ru | apply Rt | apply Ou | apply Py | apply ON | apply Rq | apply Pw | apply Pu | apply Rp | apply OM | apply OL | apply Ot | apply Pg | apply Po | apply Pf | apply Ro | apply Pd | apply Pn | apply Pb | apply Pa | apply Rn)))
namespace Wc
open PySem L2 PyProof.Rows
theorem VZ(ds:List D):Pt (xp ds):=by
 unfold xp;refine D4 ?_;unfold yR;walk_at "dt"
theorem VY(ds:List D):Pt (xo ds):=by
 unfold xo;refine D4 ?_;unfold yQ;walk_at "dt"
theorem S1(ds:List D):Pt (sj ds):=by
 have h1:=VZ;have h2:=VY;unfold sj;refine D4 ?_;unfold yI;walk_at "dt"
theorem Ri{n:Nat}{ts:List Tr}(hn:n<=1000)(xO:ts.length<=100000)(val:zG n ts) :
  (∃ls,Em n ts ls/\∀Q:R->Prop,Q (.ov (.tl (.str "levels") (ls.map .int)))->sj [.int n,nc ts] Q)\/∃rs,ki ts rs/\∀Q:R->Prop,Q (.ov (.tl (.str "ring") (rs.map dT)))->sj [.int n,nc ts] Q:=by
 obtain⟨r,hr,k⟩:=S1 [.int n,nc ts] (fun r=>(∃ls,Em n ts ls/\r=.ov (.tl (.str "levels") (ls.map .int)))\/∃rs,ki ts rs/\r=.ov (.tl (.str "ring") (rs.map dT)))
  (UG _ _ rfl ⟨n,ts,rfl,hn,xO,val,fun ls h=>.inl ⟨ls,h,rfl⟩,fun rs h=>.inr ⟨rs,h,rfl⟩⟩)
 rcases hr with⟨ls,h,rfl⟩ | ⟨rs,h,rfl⟩
 ·exact .inl ⟨ls,h,k⟩
 ·exact .inr ⟨rs,h,k⟩
end Wc
open PySem L2 PyProof.Rows Wc
local macro_rules | `(tactic| walk_at "px")=>`(tactic| (repeat(first | walk_at "b" | simp only[zH,zN,wK,rE,vw,pD,Ek,B9,O6,IW,D9])))
namespace Wc
open PySem L2 PyProof.Rows
theorem Rh{c:fc}{a b:List Str}(h:p7 c a)(h':p7 c b):a=b:=by
 have hp:a.Perm b:=(List.perm_ext_iff_of_nodup h.nd h'.nd).mpr fun w=>by rw[h.mem,h'.mem]
 exact hp.eq_of_pairwise (fun x y _ _ h1 h2=>by
  have:=KA h1 h2;unfold o5 at this;rw[EF] at this;cases this) (Ah h.oA h.nd) (Ah h'.oA h'.nd)
theorem S0{c:fc}{ps:List Pc}{a b:List Tr}(h:Above c ps a)(h':Above c ps b):a=b:=
 (h.pm.trans h'.pm.symm).eq_of_pairwise (fun x y _ _ h1 h2=>by
  by_cases e:kT x=kT y
  ·obtain⟨x1,x2,x3⟩:=x;obtain⟨y1,y2,y3⟩:=y;simp only[kT,List.cons.injEq,and_true] at e;rw[show x1=y1 by omega,show x2=y2 by omega,e.2.2]
  ·rw[Jn _ _ h1 e] at h2;cases h2) h.oA h'.oA
theorem Pk(c:fc)(w:Str):(tR c false w).length<=1:=by
 unfold tR;split
 ·exact aL _
 ·simp[B3]
theorem Pj{ws:List Str}{most:Nat}{c:fc}(g:jI ws most c)(hw:ws.length=8){l:List Str}(hN:p7 c l)(k6:∀w,lO c w->w∈ws):(uG c false l).length<=14:=by
 unfold uG wR;rw[au,ae];have h1:=g.ke.1;have h2:=Ff hN.nd fun w h=>k6 w ((hN.mem w).mp h)
 have h5:=z6 (tR c false) 1 (Pk c) l;omega
theorem El{ps:List Pc}{p:Pc×Nat}(h:p∈ps.zipIdx):p.2<ps.length:=(ax.mp (List.mem_zipIdx_iff_getElem?.mp h)).1
theorem IS{ps:List Pc}{n:Option Str}{c:Int}{a:Nat}(h:a∈ng ps n c):a<ps.length:=by
 unfold ng at h;obtain⟨p,hp,rfl⟩:=aK.mp h;exact El (bI.mp hp).1
theorem Vr{c:fc}{ps:List Pc}{ts:List Tr}(h:Above c ps ts):zG ps.length ts:=fun t ht=>by
 rcases ay.mp (h.pm.mem_iff.mp ht) with ht | ht
 ·unfold o4 at ht;obtain⟨n,_,ht⟩:=List.mem_flatMap.mp ht;unfold qN at ht;split at ht
  ·split at ht
   ·cases ht
   ·obtain⟨a,ha,ht⟩:=List.mem_flatMap.mp ht;obtain⟨b,hb,rfl⟩:=aK.mp ht;exact⟨IS ha,IS hb⟩
  ·cases ht
 ·unfold lK at ht;obtain⟨p,hp,ht⟩:=List.mem_flatMap.mp ht;unfold rL at ht;split at ht
  ·obtain⟨x,hx,rfl⟩:=aK.mp ht;refine⟨El hp,?_⟩;unfold vi uB at hx;obtain⟨y,hy,e⟩:=List.mem_filterMap.mp hx;obtain⟨z,hz,rfl⟩:=aK.mp hy;obtain⟨cc,_,rfl⟩:=cB.mp e;exact El (bI.mp hz).1
  ·cases ht
theorem SY{c:fc}{ps:List Pc}{ts:List Tr}(h:Above c ps ts)(hp:ps.length<=14)(hc:c.top.length<=40):ts.length<=10000:=by
 have ha:∀n x,(ng ps n x).length<=14:=fun n x=>by
  unfold ng;rw[ae];exact aH (aY _ _) (by rw[List.length_zipIdx];exact hp)
 have h1:=z6 (qN c ps) 196 (fun n=>by
  unfold qN;split
  ·split
   ·exact aL _
   ·rename_i u v _ _ _;have:=z6 (fun a=>(ng ps (some v) n).map fun b=>(a,b,(n:Int))) 14 (fun a=>by rw[ae];exact ha _ _) (ng ps (some u) n);have:=ha (some u) n;omega
  ·exact aL _) (List.range c.top.length)
 have h2:=z6 (rL ps) 14 (fun p=>by
  unfold rL;split
  ·rw[ae];unfold vi uB;refine aH (eC _ _) ?_;rw[ae];exact aH (aY _ _) (by rw[List.length_zipIdx];exact hp)
  ·exact aL _) ps.zipIdx
 rw[bE] at h1;rw[List.length_zipIdx] at h2;have h3:=h.pm.length_eq;rw[au] at h3;unfold o4 lK at h3;omega
theorem Ph{d:D}{ds:List D}(h:d∈ds)(ok:fQ 8 d):inD d ds=true:=by
 unfold inD;rw[List.any_eq_true];exact⟨d,h,xk 8 d ok⟩
theorem IB(a:Nat)(L:List Nat):inD (.int (a:Nat)) (L.map dN)=decide (a∈L):=by
 unfold inD;rw[List.any_map,eh,List.any_eq_true,bF];constructor
 ·rintro⟨x,hx,e⟩;have:(x:Int)=a:=by simpa[dN,fS] using e
  have:x=a:=by omega
  exact this▸hx
 ·intro h;exact⟨a,h,by simp[dN,fS]⟩
theorem okN(L:List Nat)(n:Nat):∀e∈L.map dN,fQ n e:=fun e he=>by
 obtain⟨x,_,rfl⟩:=aK.mp he;unfold dN;cases n<;>simp only[fQ]
theorem Js{α:Type}(f:α->Bool):∀L:List α,oO (L.map fun a=>D.bl (f a))=some (L.map f)
 | []=>rfl
 | a::r=>by show(oO (r.map fun a=>D.bl (f a))).map (f a::·)=_;rw[Js f r];rfl
def AH:f6:=fun ds Q=>∃(n:Nat) (ts:List Tr) (f:Nat->Int),ds=[.int n,nc ts]/\n<=1000/\ts.length<=100000/\(∀t∈ts,f t.1<f t.2.1)/\Q (.fz (.bl true))
def FE:TX:=(fg (gc 2 (Ek (eT (eP 0) eY)))
 (fg (vE (fP (eV (jD fun i j=>.bl (decide (j<i))) (gV mP (eT (eP 2) eY)) (dC (.int 0)))) (fg (gc 3 (iI (i4 (eP 2)) [none,some 1,some 2] (fG 0) (tU (fP (gV B9 (eT (iI (i4 (eP 1)) [none,some 0,some 2] (fG 0) lD (Cb (eV oEq (eV fX (eP 0) (dC (.int 1))) (eP 1)) (eV (lZ false) (eV fX (eP 0) (dC (.int 0))) (eP 2)))) eY)))) (eP 0)))
 (fg (iE (fP (eV oEq (eP 3) (i5 eY))) (ip (dC (.bl false))) iH)
 (gc 2 (iI (i4 (eP 2)) [none,some 3] (fG 0) (fP (eV (lZ true) (eP 0) (eP 1))) (eP 0))))))
 (ip (dC (.bl true)))))
noncomputable def vn(ts:List Tr)(L:List Nat)(q:Nat):Bool:=!(ts.any fun t=>decide (t.2.1=q)&&decide (t.1∈L))
theorem IQ(f:Nat->Int):∀(l:List Nat),l≠[]->∃q∈l,∀r∈l,f q<=f r
 | [],h=>absurd rfl h
 | [a],_=>⟨a,by simp,fun r hr=>by simp at hr;subst hr;exact cj _⟩
 | a::b::l,_=>by
  obtain⟨q,h1,h2⟩:=IQ f (b::l) (by simp);by_cases h:f a<=f q
  ·exact⟨a,by simp,fun r hr=>by rcases ar.mp hr with rfl | hr;exact cj _;have:=h2 r hr;omega⟩
  ·exact⟨q,aQ _ h1,fun r hr=>by rcases ar.mp hr with rfl | hr;omega;exact h2 r hr⟩
theorem Wt(ds:List D)(Qr:R->Prop)(hl:ds.length=2)(h:AH ds Qr):FE { nx:=fun _=>Qr (.fz .non),rt:=Qr } (g5 ["_law_count","_law_above","_law_left","_law_free"] ds):=by
 obtain⟨n,ts,f,rfl,hn,xO,hf,q⟩:=h;show FE _ [.fz (.int n),.fz (nc ts),.un,.un];unfold FE nc;have big:=j7;walk_at "px";refine⟨by omega,by omega,?_⟩;rw[eB,show((List.range n).map fun(i:Nat)=>D.int (i:Nat))=(List.range n).map dN from rfl];have hr:(List.range n).length<=1000:=by simpa using hn
 generalize List.range n=L0 at hr;walk_at "go";refine⟨fun m ρ=>∃(L:List Nat) (x:Sl),ρ=[.fz (.int n),.fz (.lst (ts.map dT)),.fz (.lst (L.map dN)),x]/\L.length=m/\m<=1000,⟨_,L0,_,rfl,rfl,hr⟩,?_⟩;rintro m ρ ⟨L,x,rfl,rfl,hm⟩;walk_at "px";rw[ae];by_cases hL:0<L.length
 ·rw[if_pos (by omega)];walk_at "px";refine rP L dN dN (vn ts L) (fun Q' h=>?_) (by omega) (fun p hp K1 K0 h1 h0=>?_) ?_
  ·walk_at "px";exact h
  ·walk_at "px";refine pG ts dT (fun t=>.bl (decide (t.2.1=p)&&decide (t.1∈L))) (fun Q' h=>?_) (by omega) (fun t ht K1 k=>?_) ?_
   ·walk_at "px";exact h
   ·rw[show dT t=.tup [.int t.1,.int t.2.1,.int t.2.2] from rfl,show dN p=.int p from rfl];walk_at "px";refine⟨_,rfl,by simp only[fQ],?_⟩;by_cases e:t.2.1=p
    ·rw[if_pos (by rw[e];simp[fS])];refine⟨_,rfl,by simp only[fQ],okN L 8,?_⟩;rw[IB];simpa[e] using k
    ·rw[if_neg (by simp[fS];omega)];simpa[e] using k
   ·walk_at "px";simp only[Js,List.any_map,Function.comp_def,id];cases hb:ts.any (fun t=>decide (t.2.1=p)&&decide (t.1∈L)) with
    | true=>simp only[bS,af,aJ];exact h0 (by unfold vn;rw[hb];rfl)
    | false=>simp only[dZ,aR];exact h1 (by unfold vn;rw[hb];rfl)
  ·obtain⟨q0,Mq,o8⟩:=IQ f L (fun z=>by rw[z] at hL;cases hL);have tq:vn ts L q0=true:=by
    unfold vn;rw[bG,List.any_eq_false];intro t ht hz;simp only[cg,bF] at hz;have:=hf t ht;have:=o8 _ hz.2;rw[hz.1] at *;omega
   have oF:q0∈L.filter (vn ts L):=bI.mpr ⟨Mq,tq⟩;have YT:(L.filter (vn ts L)).length<=L.length:=aY _ _;generalize L.filter (vn ts L)=F at oF YT;walk_at "go";have e2:fS (.lst (F.map dN)) (.lst [])=false:=by
    cases F with
    | nil=>cases oF
    | cons a r=>simp[fS,oo]
   refine⟨aL _,(by simp only[fQ];exact okN F 8),(by simp only[fQ];exact fun e he=>by cases he),?_⟩;simp only[vD,zR,e2,af,aJ];walk_at "go";refine rP L dN dN (fun x=>!decide (x∈F)) (fun Q' h=>?_) (by omega) (fun p hp K1 K0 h1 h0=>?_) ?_
   ·walk_at "px";exact h
   ·rw[show dN p=.int p from rfl];walk_at "px";refine⟨okN F 8,?_⟩;simp only[IB];split
    ·rename_i e;exact h1 (by simpa using e)
    ·rename_i e;exact h0 (by simpa using e)
   ·have fI:(L.filter fun x=>!decide (x∈F)).length<L.length:=by
     refine Nat.lt_of_le_of_ne (aY _ _) fun z=>?_
     have:=(List.length_filter_eq_length_iff.mp z) q0 Mq;simp[oF] at this
    exact⟨_,fI,_,_,rfl,rfl,by omega⟩
 ·rw[if_neg (by omega)];walk_at "go";exact q
def An:f6:=fun ds Q=>∃(ts rs:List Tr),ds=[.lst (rs.map dT),nc ts]/\ki ts rs/\rs.length<=3000/\Q (.fz (.bl true))
def FP:TX:=(fg (iE (yc (tU (fP (B8 "list" (eP 0)))) (fP (eV oEq (gV mP (eT (eP 0) eY)) (dC (.int 0))))) (ip (dC (.bl false))) iH)
 (fg (kj (nr (eT (gV mP (eT (eP 0) eY)) eY)) (fG 2) (iE (yc (tU (fP (B8 "tuple" (eV fX (eP 0) (eP 2))))) (yc (fP (eV (lZ true) (eV fX (eP 0) (eP 2)) (eP 1))) (fP (eV A9 (eV fX (eV fX (eP 0) (eP 2)) (dC (.int 1))) (eV fX (eV fX (eP 0) (eV (oI (fun _ j=>0<j) fun i j=>.int (i%j)) (eV iq (eP 2) (dC (.int 1))) (gV mP (eT (eP 0) eY)))) (dC (.int 0))))))) (ip (dC (.bl false))) iH))
 (ip (eV oEq (gV yE (eT (iI (i4 (eP 0)) [none] (fG 0) lD (eV fX (eP 0) (dC (.int 0)))) eY)) (gV mP (eT (eP 0) eY))))))
theorem VS(ds:List D)(Qr:R->Prop)(hl:ds.length=2)(h:An ds Qr):FP { nx:=fun _=>Qr (.fz .non),rt:=Qr } (g5 ["_law_ring_here","_law_above","_law_k"] ds):=by
 obtain⟨ts,rs,rfl,r,hlen,q⟩:=h;show FP _ [.fz (.lst (rs.map dT)),.fz (nc ts),.un];unfold FP nc;have big:=j7;have Bn:0<rs.length:=List.length_pos_iff.mpr r.ne;walk_at "px";simp only[true_and,bS,af,aJ,ae];rw[if_neg (by omega)];walk_at "go";refine vR rs.length (fun Q' h=>?_) (fun i ρ=>∃a:Sl,ρ=[.fz (.lst (rs.map dT)),.fz (.lst (ts.map dT)),a]) ⟨_,rfl⟩ ?_ ?_
 ·walk_at "px";rw[ae];exact⟨by omega,by omega,by simpa using h⟩
 ·rintro i ρ hi ⟨a,rfl⟩;have hm:(i+1)%rs.length<rs.length:=Nat.mod_lt _ Bn;have ht:rs[i]?=some rs[i]:=ai hi;have Ho:=r.Zm i _ rs[(i+1)%rs.length] ht (ai hm);have rf:=r.sub _ (cC hi);generalize fY:rs[(i+1)%rs.length]=t' at Ho;generalize GO:rs[i]=t at Ho rf;have LY:fQ 8 (dT t):=Ej 7 t;have X0:∀e∈ts.map dT,fQ 8 e:=fun e he=>by
   rw[aK] at he;obtain⟨x,_,rfl⟩:=he;exact Ej 7 x
  have mM:iu rs (i:Int)=some t:=by rw[nu hi,GO]
  have Hw:iu rs (((i+1)%rs.length:Nat):Int)=some t':=by rw[nu hm,fY]
  have oF:inD (dT t) (ts.map dT)=true:=Ph (bU rf) LY;have tm:((i:Int)+1)%(rs.length:Int)=(((i+1)%rs.length:Nat):Int):=rfl;walk_at "px";rw[ae];refine⟨t,mM,rfl,?_⟩;rw[show uu (pI (dT t)) "tuple"=true from IW _,if_neg (by simp)];refine⟨t,mM,LY,X0,?_⟩;rw[oF,if_neg (by simp)];refine⟨t,mM,?_⟩;show ∃d,_
  refine⟨_,rfl,by omega,t',by rw[tm];exact Hw,?_⟩;show ∃d,_
  refine⟨_,rfl,by simp only[fQ],by simp only[fQ],?_⟩;have YV:(!fS (D.int (t.2.1:Nat)) (D.int (t'.1:Nat)))=false:=by rw[Ho];simp[fS]
  simp only[vD,YV,af,aJ];exact⟨_,rfl⟩
 ·rintro ρ ⟨a,rfl⟩;walk_at "go";refine pG rs dT (fun t=>.int t.1) (fun Q' h=>?_) (by omega) (fun t ht K1 k=>?_) ?_
  ·walk_at "px";exact h
  ·rw[show dT t=.tup [.int t.1,.int t.2.1,.int t.2.2] from rfl];walk_at "px";exact⟨_,rfl,k⟩
  ·have e:(rs.map fun t=>D.int (t.1:Nat))=(rs.map fun t=>((t.1:Nat):Int)).map D.int:=by rw[a9];rfl
   rw[e];simp only[zR,yE,xm];refine⟨by rw[ae];omega,fun l nd hm=>?_⟩;have X4:(rs.map fun t=>((t.1:Nat):Int)).Nodup:=by
    have:=List.Pairwise.map (f:=fun x:Nat=>(x:Int)) (S:=(·≠·)) (fun a b h=>by omega) r.nd;rw[a9] at this;exact this
   have hl:=((List.perm_ext_iff_of_nodup nd X4).mpr hm).length_eq;rw[ae] at hl;simp only[vD,hl,ae];refine⟨by simp only[fQ],?_⟩;rw[show fS (D.int (rs.length:Nat)) (D.int (rs.length:Nat))=true by simp[fS]];exact q
end Wc
open PySem L2 PyProof.Rows Wc
local macro_rules | `(tactic| walk_at "px")=>`(tactic| (repeat(first | walk_at "b" | simp only[zH,zN,zV,uE,Cv,OV.val])))
namespace Wc
open PySem L2 PyProof.Rows
def Av:f6:=fun ds Q=>∃(c:fc) (l:List Str) (ts:List Tr) (es:List D) (b:Bool),ds=[c.obj]/\vx c/\p7 c l/\Above c (uG c false l) ts/\(uG c false l).length<=14/\
 (∀Q':R->Prop,Q' (.ov (.tl (.str (if b then "ring" else "levels")) es))->sj [.int (uG c false l).length,nc ts] Q')/\Q (if b then .ow es else .fz .non)
def Fn:TX:=(fg (wO (gF 1 AR (eT (eP 0) eY)))
 (fg (gc 1 (zV 2 yS false (eT (eP 0) eY)))
 (fg (kB 2 (gF 2 sj (eT (gV mP (eT (eP 1) eY)) (eT (gF 2 yX (eT (eP 0) (eT (eP 1) eY))) eY))))
 (fg (iE (uE 2 (fP (eV oEq (eV fX (eP 2) (dC (.int 0))) (dC (.str "ring"))))) (Cv 2) iH)
 (ip (dC .non))))))
theorem Va(ds:List D)(Qr:R->Prop)(hl:ds.length=1)(h:Av ds Qr):Fn { nx:=fun _=>Qr (.fz .non),rt:=Qr } (g5 ["channel","pieces","rank"] ds):=by
 obtain⟨c,l,ts,es,b,rfl,ga,hN,ab,hp,rk,q⟩:=h;show Fn _ [.fz c.obj,.un,.un];unfold Fn;have big:=j7;obtain⟨ws,most,hw,hm,g⟩:=id ga;have sh:mq c:=⟨by have:=g.w2;omega,g.bl,aH g.ll (by decide),aH g.rl (by decide)⟩
 walk_at "px";refine⟨c,rfl,ga,?_⟩;walk_at "go";refine⟨c,_,ws,rfl,sh,by have:=g.be.len;have:=g.w2;omega,by have:=g.ke.1;omega,by omega,fun w h=>by rcases h with h | h | h | h;exact g.pt w h;exact g.pb w h;exact g.lw w h;exact g.rw_ w h,fun l' Y7=>?_⟩;rw[Rh Y7 hN];walk_at "go";refine⟨c,_,rfl,sh,by omega,fun ZJ Zu=>?_⟩;rw[S0 Zu ab];walk_at "px";rw[ae];refine rk _ ?_;have n1:¬(Str.ofString "levels"=Str.ofString "ring"):=by decide +kernel
 cases b with
 | true=>
  simp only[aR] at q ⊢;walk_at "go";refine⟨_,rfl,?_⟩;walk_at "px";exact q
 | false=>
  simp only[af,aJ] at q ⊢;walk_at "go";refine⟨_,rfl,?_⟩;walk_at "px";rw[if_neg n1];walk_at "go";exact q
end Wc
open PySem L2 PyProof.Rows Wc
local macro_rules | `(tactic| walk_at "px")=>`(tactic| (repeat(first | walk_at "b" | simp only[zH,zN,zV,uE,Cw,CA])))
namespace Wc
open PySem L2 PyProof.Rows
theorem IP{ws:List Str}{most:Nat}{c:fc}(g:jI ws most c)(w:Str)(h:lO c w):w∈ws:=by
 rcases h with h | h | h | h
 ·exact g.pt w h
 ·exact g.pb w h
 ·exact g.lw w h
 ·exact g.rw_ w h
theorem rat(i:Nat)(d:D):iu (List.replicate (i+1) d) (i:Int)=some d:=by
 rw[nu (by rw[List.length_replicate];omega),List.getElem_replicate]
theorem HV(i:Nat)(d:D):iu (List.replicate (i+1) d) 0=some d:=by
 rw[bT];exact Sw d _
def zI:TX:=(fg (gc 1 (gF 2 AF (eT (eP 0) (eT (dC (.int 20)) eY))))
 (fg (gc 2 (gF 1 yU (eT (eP 1) eY)))
 (fg (gc 3 (zV 2 yS false (eT (eP 2) eY)))
 (fg (gc 4 (gF 2 yX (eT (eP 2) (eT (eP 3) eY))))
 (fg (kB 5 (i5 eY))
 (fg (kj (nr (eT (dC (.int 3)) eY)) (fG 6) (fg (kB 7 (gF 1 Av (eT (eV fX (i5 (eT (eP 2) (eT (eP 2) (eT (gF 1 yU (eT (eP 1) eY)) eY)))) (eP 6)) eY)))
 (fg (lY 5 (x9 (uE 7 (fP (eV (oM false) (eP 7) (dC .non)))) (eP 7) (Cw 7)))
 (fg (iE (fP (eV A9 (qL 5 (eP 6)) (qL 5 (dC (.int 0))))) (ip (dC (.bl false))) iH)
 (iE (uE 7 (fP (eV (oM false) (eP 7) (dC .non)))) (iE (tU (fP (gF 2 AH (eT (gV mP (eT (eP 3) eY)) (eT (eP 4) eY))))) (ip (dC (.bl false))) iH) (fg (iE (tU (fP (Ed 7 (gF 2 An (eT (eP 7) (eT (eP 4) eY)))))) (ip (dC (.bl false))) iH)
 (CA 7)))))))
 (ip (gF 2 Aq (eT (eP 2) (eT (eP 1) eY))))))))))
theorem Rg(ds:List D)(Qr:R->Prop)(hl:ds.length=1)(h:D8 63 ds Qr):zI { nx:=fun _=>Qr (.fz .non),rt:=Qr } (g5 ["_law_script","_law_lists","_law_channel_here","_law_pieces","_law_above","_law_rings","_law_turn","_law_ring_here"] ds):=by
 obtain⟨ns,rfl,hn,q⟩:=h;show zI _ [.fz (dI ns),.un,.un,.un,.un,.un,.un,.un];unfold zI;have big:=j7;walk_at "px";refine⟨ns,20,rfl,by omega,by decide,by decide,fun c g=>?_⟩;have sh:mq c:=⟨aH g.w2 (by decide),g.bl,aH g.ll (by decide),aH g.rl (by decide)⟩
 have k6:=Kw (zj ns);generalize t4 (zj ns)=ws at g k6;have ga:vx c:=⟨ws,20,by have:=k6.len;omega,by decide,g⟩
 walk_at "go";refine⟨c,rfl,?_⟩;walk_at "go";refine⟨c,_,ws,rfl,sh,by have:=g.be.len;have:=g.w2;omega,by have:=g.ke.1;omega,by have:=k6.len;omega,IP g,fun l hN=>?_⟩;have pl:=Pj g k6.len hN (IP g);walk_at "go";refine⟨c,_,rfl,sh,by omega,fun ts ab=>?_⟩;have hv:=Vr ab;have hlen:=SY ab pl sh.w;have one:∃(es:List D) (b:Bool),(∀Q':R->Prop,Q' (.ov (.tl (.str (if b then "ring" else "levels")) es))->sj [.int (uG c false l).length,nc ts] Q')/\
   (b=false->∃f:Nat->Int,∀t∈ts,f t.1<f t.2.1)/\(b=true->∃rs:List Tr,es=rs.map dT/\ki ts rs/\rs.length<=3000):=by
  rcases Ri (by omega) (by omega) hv with⟨ls,lv,k⟩ | ⟨rs,rg,k⟩
  ·refine⟨_,false,k,fun _=>⟨fun q=>(ls[q]?).getD 0,fun t ht=>?_⟩,(fun h=>by cases h)⟩;have v:=hv t ht;obtain⟨h1,h2⟩:=lv;obtain⟨l',e,hle⟩:=(h2 t.2.1 v.2 ls[t.2.1] (ai _)).1 t ht rfl;show(ls[t.1]?).getD 0<(ls[t.2.1]?).getD 0;rw[e,ai (h1.symm▸v.2)];show l'<ls[t.2.1];omega
  ·refine⟨_,true,k,(fun h=>by cases h),fun _=>⟨rs,rfl,rg,?_⟩⟩;have:=yJ (ws:=List.range (uG c false l).length) rg.nd fun w hw=>by
    obtain⟨t,ht,rfl⟩:=aK.mp hw;exact bP.mpr (hv t (rg.sub t ht)).1
   rw[ae,bE] at this;omega
 obtain⟨es,b,k,fb,tb⟩:=one;walk_at "go";walk_at "go";refine⟨by omega,?_⟩;refine vR 3 (fun Q' h=>?_) (fun i ρ=>∃a b':Sl,ρ=[.fz (dI ns),.fz (.lst c.parts),.fz c.obj,.fz (oH (uG c false l)),.fz (nc ts),.ow (List.replicate i (if b then .lst es else .non)),a,b']) ⟨_,_,rfl⟩ ?_ ?_
 ·walk_at "px";exact h
 ·rintro i ρ hi ⟨a,b',rfl⟩;walk_at "px";refine⟨c,rfl,by omega,c.obj,?_,c,l,ts,es,b,rfl,ga,hN,ab,pl,k,?_⟩
  ·rw[nu (by simpa using hi)];match i,hi with
   | 0,_=>rfl
   | 1,_=>rfl
   | 2,_=>rfl
  ·cases b with
   | false=>
    obtain⟨f,hf⟩:=fb rfl;simp only[af,aJ];walk_at "go";rw[<-List.replicate_succ',List.length_replicate];refine⟨by omega,?_⟩;walk_at "go";refine⟨_,rat i _,_,HV i _,?_⟩;refine⟨by simp only[fQ],by simp only[fQ],?_⟩;simp only[vD,show fS .non .non=true by simp[fS],bS,af,aJ];walk_at "go";unfold oH;dsimp only;rw[ae];exact⟨_,ts,f,rfl,by omega,by omega,hf,_,_,rfl⟩
   | true=>
    obtain⟨rs,rfl,rg,hr⟩:=tb rfl;simp only[aR];walk_at "go";rw[<-List.replicate_succ',List.length_replicate];refine⟨by omega,?_⟩;walk_at "go";refine⟨_,rat i _,_,HV i _,?_⟩;have ok:fQ 9 (.lst (rs.map dT)):=Q9 7 rs;refine⟨ok,ok,?_⟩;simp only[vD,xk 9 _ ok,bS,af,aJ];walk_at "go";refine⟨ts,rs,rfl,rg,hr,?_⟩;walk_at "go";exact⟨rfl,_,_,rfl⟩
 ·rintro ρ ⟨a,b',rfl⟩;walk_at "go";exact⟨c,rfl,q⟩
end Wc
end
namespace Wc
open PySem PySem.Spec PyProof.Rows L2
local macro_rules | `(tactic| walk_at "sc")=>`(tactic| exact⟨rfl,rfl,rfl,by decide +kernel,rfl,by decide +kernel,by decide +kernel⟩)
local macro_rules | `(tactic| walk_at "bn")=>`(tactic| (intro _ _ _ _ _ _ us hl;first | (obtain⟨_,rfl⟩:=Ie hl;exact rfl) | (obtain⟨_,_,rfl⟩:=Ic hl;exact rfl) | (obtain⟨_,_,_,rfl⟩:=Ib hl;exact rfl) | (obtain⟨_,_,_,_,rfl⟩:=Ia hl;exact rfl) | (obtain⟨_,_,_,_,_,rfl⟩:=HZ hl;exact rfl) | (obtain⟨_,_,_,_,_,_,rfl⟩:=HY hl;exact rfl) | (obtain⟨_,_,_,_,_,_,_,rfl⟩:=HX hl;exact rfl)))
def top(i:Nat):Stmt:=PySem.Challenge.pw_wirechannel_k43_rings_told.main.body.getD i (.Pass ⟨0,0,0,0⟩)
structure Txt (K:Z9) (mg:Str->Option Value):Prop where
 b_any:mg "any"=none
 b_dict:mg "dict"=none
 b_enumerate:mg "enumerate"=none
 b_int:mg "int"=none
 b_isinstance:mg "isinstance"=none
 b_len:mg "len"=none
 b_list:mg "list"=none
 b_max:mg "max"=none
 b_min:mg "min"=none
 b_range:mg "range"=none
 b_set:mg "set"=none
 b_sorted:mg "sorted"=none
 b_sum:mg "sum"=none
 b_tuple:mg "tuple"=none
 b_zip:mg "zip"=none
 hU:∃t,mg "MOST_KEPT"=some (.int 3 t)
section
variable {P:Program} {w:World} {K:Z9} {mg:Str->Option Value} {base:Heap}
abbrev jL:Stmt:=QC (top 18) 0
theorem UE:eW ["self","top","bottom","left","right","wide","bends","keeps"] ("self"::["top","bottom","left","right","wide","bends","keeps"]) (eS jL):=by walk_at "sc"
theorem Vy(A:DU K mg "Channel" "Channel.__init__" jL ["top","bottom","left","right","wide","bends","keeps"])(T:Txt K mg):nX P w K mg base 1 "Channel" 7 Aw:=by
 obtain⟨C,f,fd,hC,M,F,hm,na⟩:=A.ex;refine⟨C,f,fd,_,M,TM (T:=CZ) F UE hC (fun fD A outer s H E hr=>?_) (fun ds Qr _ h=>Vd ds Qr _ (fun fs e p hp=>na.all _ (by rw[<-e];exact bU hp)) h),hm,F.binds fun _ _ _ _ _ _ us hl=>by obtain⟨_,_,_,_,_,_,_,_,rfl⟩:=HW hl;exact rfl⟩;have hu:=hr.units;exact(xc hC.cls na.1 (t9 vC T.b_list boot_list (eU (eR 1) e7))
  (xc hC.cls na.2.1 (t9 vC T.b_list boot_list (eU (eR 2) e7))
  (xc hC.cls na.2.2.1 (t9 vC T.b_list boot_list (eU (eR 3) e7))
  (xc hC.cls na.2.2.2.1 (t9 vC T.b_list boot_list (eU (eR 4) e7))
  (xc hC.cls na.2.2.2.2.1 (t9 vC T.b_list boot_list (eU (eR 5) e7))
  (xc hC.cls na.2.2.2.2.2.1 (t9 vC T.b_list boot_list (eU (eR 6) e7))
  (xc hC.cls na.2.2.2.2.2.2.1 (t9 vC T.b_list boot_list (eU (eR 7) e7))
  Q0)))))))
theorem kG:eW ["_law_cell","_law_size","_law_signs","_law_stem_here","_law_k"] ["_law_cell","_law_size"] (eS (top 41)):=by walk_at "sc"
theorem jY:eW ["_law_cell","_law_size","_law_stem_here","_law_at","_law_other"] ["_law_cell"] (eS (top 42)):=by walk_at "sc"
theorem Ws:(["_law_sign","_law_stem_here","_law_at","_law_size"]:List Str).Nodup:=by decide +kernel
theorem Wr:(["_law_k","_law_stem_here","_law_size"]:List Str).Nodup:=by decide +kernel
theorem Wq:(["_law_k","_law_stem_here"]:List Str).Nodup:=by decide +kernel
theorem lJ:eW ["_law_cell","_law_k"] ["_law_cell","_law_k"] (eS (top 43)):=by walk_at "sc"
theorem kI:eW ["_law_words","_law_cells","_law_seed","_law_width","_law_top","_law_bottom","_law_c","_law_row","_law_side","_law_k","_law_one"] ["_law_words","_law_cells","_law_seed","_law_width"] (eS (top 44)):=by walk_at "sc"
theorem kJ:eW ["_law_words","_law_bits"] ["_law_words","_law_bits"] (eS (top 49)):=by walk_at "sc"
theorem VR:(["_law_k","_law_words","_law_bits"]:List Str).Nodup:=by decide +kernel
theorem kK:eW ["_law_top","_law_bottom","_law_left","_law_right","_law_word","_law_some"] ["_law_top","_law_bottom","_law_left","_law_right","_law_word"] (eS (top 45)):=by walk_at "sc"
theorem jr:eW ["_law_top","_law_bottom","_law_left","_law_right","_law_word","_law_places"] ["_law_top","_law_bottom","_law_left","_law_right","_law_word"] (eS (top 46)):=by walk_at "sc"
theorem Xj:(["_law_c","_law_word","_law_top","_law_bottom"]:List Str).Nodup:=by decide +kernel
theorem j4:eW ["_law_lists","_law_words","_law_cells","_law_seed","_law_top","_law_bottom","_law_left","_law_right","_law_bends_here","_law_c","_law_one","_law_word","_law_l","_law_r","_law_here"] ["_law_lists","_law_words","_law_cells","_law_seed"] (eS (top 47)):=by walk_at "sc"
theorem Wo:(["_law_x"]:List Str).Nodup:=by decide +kernel
theorem jZ:eW ["_law_width","_law_cells","_law_seed","_law_keeps_here","_law_k","_law_cell","_law_one","_law_first"] ["_law_width","_law_cells","_law_seed"] (eS (top 48)):=by walk_at "sc"
theorem js:eW ["_law_script","_law_most","_law_seed","_law_words","_law_width","_law_cells","_law_top","_law_bottom","_law_bits","_law_left","_law_right","_law_lone","_law_wide","_law_k","_law_word","_law_one","_law_bends_here","_law_keeps_here"] ["_law_script","_law_most"] (eS (top 50)):=by walk_at "sc"
theorem Xi:(["_law_word","_law_top","_law_bottom","_law_left","_law_right"]:List Str).Nodup:=by decide +kernel
theorem Xh:(["_law_word","_law_lone"]:List Str).Nodup:=by decide +kernel
theorem WN:(["_law_word","_law_lone"]:List Str).Nodup:=by decide +kernel
theorem WM:(["_law_word","_law_lone"]:List Str).Nodup:=by decide +kernel
theorem WL:(["_law_word","_law_lone"]:List Str).Nodup:=by decide +kernel
theorem kL:eW ["_law_lists","_law_copies"] ["_law_lists"] (eS (top 51)):=by walk_at "sc"
theorem VQ:(["_law_one"]:List Str).Nodup:=by decide +kernel
theorem me:eW ["channel","pins"] ["channel"] (eS (top 2)):=by walk_at "sc"
theorem U9:(["name"]:List Str).Nodup:=by decide +kernel
theorem mf:eW ["channel","name","ends","column"] ["channel","name"] (eS (top 1)):=by walk_at "sc"
theorem kF:eW ["channel","end"] ["channel","end"] (eS (top 4)):=by walk_at "sc"
theorem jW:eW ["channel","name","columns"] ["channel","name"] (eS (top 5)):=by walk_at "sc"
theorem Wn:(["end","channel"]:List Str).Nodup:=by decide +kernel
theorem jq:eW ["channel","name"] ["channel","name"] (eS (top 9)):=by walk_at "sc"
theorem LK:(["column","bent_name","name"]:List Str).Nodup:=by decide +kernel
theorem lF:eW ["channel","name","wide_name","width"] ["channel","name"] (eS (top 3)):=by walk_at "sc"
theorem jX:eW ["channel","name","bent","stretch","cuts","borders","width"] ["channel","name","bent"] (eS (top 8)):=by walk_at "sc"
theorem LD:(["first","last","name","width"]:List Str).Nodup:=by decide +kernel
abbrev gf:Stmt:=top 7
theorem i8:eW ["channel","bent","pieces","name"] ["channel","bent"] (eS gf):=by walk_at "sc"
theorem FZ:(["first","last","tracks"]:List Str).Nodup:=by decide +kernel
theorem kD:eW ["pieces","name","column"] ["pieces","name","column"] (eS (top 11)):=by walk_at "sc"
theorem LF:(["number","piece","name","column"]:List Str).Nodup:=by decide +kernel
theorem jC:eW ["channel","pieces","triples","column","upper_name","lower_name","lowers","upper"] ["channel","pieces"] (eS (top 14)):=by walk_at "sc"
theorem WW:(["lower","upper","column"]:List Str).Nodup:=by decide +kernel
theorem kE:eW ["one","other","column"] ["one","other"] (eS (top 10)):=by walk_at "sc"
theorem jo:eW ["keep","pieces","commons"] ["keep","pieces"] (eS (top 16)):=by walk_at "sc"
theorem LJ:(["number","piece","keep"]:List Str).Nodup:=by decide +kernel
theorem LI:(["number","column"]:List Str).Nodup:=by decide +kernel
theorem jn:eW ["pieces","triples","upper","keep"] ["pieces"] (eS (top 15)):=by walk_at "sc"
theorem LH:(["lower","column","upper"]:List Str).Nodup:=by decide +kernel
theorem lI:eW ["channel","pieces"] ["channel","pieces"] (eS (top 13)):=by walk_at "sc"
theorem jB:eW ["channel","name"] ["channel"] (eS (top 28)):=by walk_at "sc"
theorem f7:eW ["channel","nets","names","name"] ["channel"] (eS (top 29)):=by walk_at "sc"
theorem LN:(["name","width"]:List Str).Nodup:=by decide +kernel
theorem LM:(["column","name"]:List Str).Nodup:=by decide +kernel
theorem lH:eW ["channel","column","name","stretch","pins"] ["channel","column","name"] (eS (top 31)):=by walk_at "sc"
theorem jl:eW ["channel","column","name"] ["channel"] (eS (top 30)):=by walk_at "sc"
theorem lG:eW ["columns","keep"] ["columns","keep"] (eS (top 33)):=by walk_at "sc"
theorem jk:eW ["channel","place","keep"] ["channel"] (eS (top 32)):=by walk_at "sc"
theorem iC:eW ["channel"] ["channel"] (eS (top 27)):=by walk_at "sc"
theorem jm:eW ["count","above","lowers","waits","upper","lower","column","order","levels","place"] ["count","above"] (eS (top 36)):=by walk_at "sc"
theorem WK:(["number"]:List Str).Nodup:=by decide +kernel
theorem WJ:(["number","waits"]:List Str).Nodup:=by decide +kernel
theorem WI:(["number"]:List Str).Nodup:=by decide +kernel
theorem ji:eW ["levels","above","triple_over","triple","number","places","way","ring"] ["levels","above"] (eS (top 37)):=by walk_at "sc"
theorem nA:eW ["count","above","levels"] ["count","above"] (eS (top 35)):=by walk_at "sc"
theorem Vq:(["number","levels"]:List Str).Nodup:=by decide +kernel
theorem md:eW ["channel","pieces","rank"] ["channel"] (eS (top 39)):=by walk_at "sc"
theorem j3:eW ["_law_count","_law_above","_law_left","_law_free"] ["_law_count","_law_above"] (eS (top 54)):=by walk_at "sc"
theorem Wm:(["_law_q","_law_above","_law_left"]:List Str).Nodup:=by decide +kernel
theorem Wl:(["_law_one","_law_q","_law_left"]:List Str).Nodup:=by decide +kernel
theorem Wk:(["_law_q","_law_free"]:List Str).Nodup:=by decide +kernel
theorem kH:eW ["_law_ring_here","_law_above","_law_k"] ["_law_ring_here","_law_above"] (eS (top 53)):=by walk_at "sc"
theorem VP:(["_law_one"]:List Str).Nodup:=by decide +kernel
theorem kM:eW ["_law_channel_here","_law_lists","_law_told"] ["_law_channel_here","_law_lists"] (eS (top 52)):=by walk_at "sc"
theorem sJ:eW ["_law_script","_law_lists","_law_channel_here","_law_pieces","_law_above","_law_rings","_law_turn","_law_ring_here"] ["_law_script"] (eS (top 55)):=by walk_at "sc"
variable (T:Txt K mg)
variable (jP:nX P w K mg base 1 "Channel" 7 Aw)
include T in
theorem Wj(A:At K mg "_law_stem" (top 41)):Known P w K mg base 1 "_law_stem" 2 As:=jh 0 A kG (fun f fD A outer s H E hr=>have hu:=hr.units;have nd:=kG.nd
 (fk (gD 2 oS nd)
   (fk (gD 3 oS nd)
   (fk (mX aU rfl (pP T.b_range (eU (eR 1) e7)) (fU 4 nd)
    (fk (gD 3 (fB iR (eR 3) (gn (eR 2) (fB jK (eR 0) ff))) nd)
   (fE (gD 0 (fB mT (eR 0) ff) nd))))
   (fE (iG (eR 3))))))) WD (by walk_at "bn")
variable (iN:Known P w K mg base 1 "_law_stem" 2 As)
include T iN in
theorem WV(A:At K mg "_law_named" (top 42)):Known P w K mg base 2 "_law_named" 1 AK:=jh 1 A jY (fun f fD A outer s H E hr=>have hu:=hr.units;have nd:=jY.nd
 (fk (gD 0 (fB jK (fB vv (fB iR (fB jK (eR 0) (fB Ce ff ff)) ff) ff) (fB iR (fB Ce ff ff) ff)) nd)
   (fk (gD 1 (fB jK (eR 0) ff) nd)
   (fk (gD 2 (ij iN hr (eU (fB mT (eR 0) ff) (eU ff e7))) nd)
   (fk (gD 3 (fB jK (fB mT (eR 0) ff) (fB iR (eR 1) ff)) nd)
   (fk (i6 (gB (kY hu) (fB jK (fB mT (eR 0) ff) ff) ff) (fE (iG (l8 rfl (.of (N':=["_law_sign","_law_stem_here","_law_at","_law_size"]) (m:=[none,some 2,some 3,some 1]) (by kernel_rfl)) kZ (j8 oS) (fun s3 H3 ex=>(fU 0 Ws)) (fun s3 H3 ex=>ot) (fun s3 H3 ex=>(fB iR (fB iR (qm (eR 1) rO (pH (eR 2))) (eR 0)) (qm (eR 1) (pH (eR 2)) (pH (eR 3)))))))) jg)
   (fk (i6 (gB (kY hu) (fB jK (fB mT (eR 0) ff) ff) ff) (fE (iG (l8 rfl (.of (N':=["_law_k","_law_stem_here","_law_size"]) (m:=[none,some 2,some 1]) (by kernel_rfl)) kZ (pP T.b_range (eU ff e7)) (fun s3 H3 ex=>(fU 0 Wr)) (fun s3 H3 ex=>ot) (fun s3 H3 ex=>(fB iR (fB iR (fB iR (qm (eR 1) rO (pH (fB jK (eR 2) ff))) (gn oS (fB mT (eR 0) ff))) (gn oS (fB jK (fB mT (eR 0) ff) ff))) (gn oS (fB jK (eR 0) ff))))))) jg)
   (fk (gD 4 (fB iR (gn oS (t9 Od T.b_int boot_int (eU (w8 (kY hu) (gn (eR 2) ff) oS) e7))) (qm (eR 2) (pH ff) rO)) nd)
   (fE (iG (fB iR (l8 rfl (.of (N':=["_law_k","_law_stem_here"]) (m:=[none,some 2]) (by kernel_rfl)) kZ (pP T.b_range (eU ff e7)) (fun s3 H3 ex=>(fU 0 Wq)) (fun s3 H3 ex=>ot) (fun s3 H3 ex=>(qm (eR 1) rO (pH (fB iR (eR 0) ff))))) (jS (eU (qm (eR 4) rO (pH ff)) (eU (qm (eR 4) rO (pH ff)) e7)))))))))))))) V6 (by walk_at "bn")
variable (iy:Known P w K mg base 2 "_law_named" 1 AK)
include T in
theorem VO(A:At K mg "_law_mix" (top 43)):Known P w K mg base 1 "_law_mix" 2 uc:=jh 0 A lJ (fun f fD A outer s H E hr=>have hu:=hr.units;have nd:=lJ.nd
 (fE (iG (fB mT (fB jK (fB iR (fB iR (fB vv (fB jK (eR 0) (fB Ce ff ff)) (fB iR (fB vv (eR 1) (eR 1)) ff)) (fB vv (fB vv (fB vv ff (eR 1)) (eR 1)) (eR 1))) ff) ff) ff)))) VW (by walk_at "bn")
variable (fq:Known P w K mg base 1 "_law_mix" 2 uc)
include T fq in
theorem Wi(A:At K mg "_law_pins" (top 44)):Known P w K mg base 2 "_law_pins" 4 Ar:=jh 1 A kI (fun f fD A outer s H E hr=>have hu:=hr.units;have nd:=kI.nd
 (fk (oz 4 (jS e7) nd)
   (fk (oz 5 (jS e7) nd)
   (fk (mX aU rfl (pP T.b_range (eU (eR 3) e7)) (fU 6 nd)
    (fk (oz 7 (jS e7) nd)
   (fk (mX aU rfl (pP T.b_range (eU ff e7)) (fU 8 nd)
    (fk (gD 9 (fB iR (fB vv ff (eR 6)) (eR 8)) nd)
   (fk (gD 10 (ij fq hr (eU (eR 2) (eU (eR 9) e7))) nd)
   (fk (i6 (gB yn (eR 9) (jU oP T.b_len cX (eU (eR 1) e7))) (fE (gD 10 (ij fq hr (eU (gn (eR 1) (eR 9)) (eU (eR 9) e7))) nd)) jg)
   (fE (pN 7 (gn (jS (eU (gn (eR 0) (fB jK (eR 10) ff)) (eU (gn (eR 0) (fB jK (fB mT (eR 10) ff) ff)) (eU (gn (eR 0) (fB jK (fB mT (eR 10) ff) ff)) (eU mU e7))))) (fB jK (fB mT (eR 10) ff) ff))))))))
   (fk (pN 4 (vF 7 ff))
   (fE (pN 5 (vF 7 ff)))))))
   (vL 5 (vL 4 (fE (iG (nE (eU (eR 4) (eU (eR 5) e7))))))))))) WC (by walk_at "bn")
variable (iP:Known P w K mg base 2 "_law_pins" 4 Ar)
include T in
theorem Wh(A:At K mg "_law_open" (top 49)):Known P w K mg base 1 "_law_open" 2 yV:=jh 0 A kJ (fun f fD A outer s H E hr=>have hu:=hr.units;have nd:=kJ.nd
 (fk (i6 (gB (kY hu) (fB jK (fB mT (eR 1) ff) ff) ff) (fE (iG (jS e7))) jg)
   (fE (iG (jU (JY rfl) T.b_sorted boot_sorted (eU (l8 rfl (.of (N':=["_law_k","_law_words","_law_bits"]) (m:=[none,some 0,some 1]) (by kernel_rfl)) kZ (pP T.b_range (eU ff e7)) (fun s3 H3 ex=>(fU 0 VR)) (fun s3 H3 ex=>(qp (gB (kY hu) (fB jK (fB mT (eR 2) (gn (jS (eU ff (eU ff (eU ff (eU ff (eU ff (eU ff (eU ff (eU ff e7))))))))) (eR 0))) ff) ff))) (fun s3 H3 ex=>(gn (eR 1) (eR 0)))) e7)))))) WA (by walk_at "bn")
variable (ic:Known P w K mg base 1 "_law_open" 2 yV)
include T in
theorem Wg(A:At K mg "_law_many" (top 45)):Known P w K mg base 1 "_law_many" 5 yW:=jh 0 A kK (fun f fD A outer s H E hr=>have hu:=hr.units;have nd:=kK.nd
 (fk (gD 5 (fB iR (fB iR (fB iR (eR 0) (eR 1)) (eR 2)) (eR 3)) nd)
   (fE (iG (Q5 (Q4 hu) (.inl rfl) cP PySem.F.slot_list_count PySem.F.type_list_count (eR 5) (eU (eR 4) e7)))))) WB (by walk_at "bn")
variable (ie:Known P w K mg base 1 "_law_many" 5 yW)
include T in
theorem W7(A:At K mg "_law_stretch" (top 46)):Known P w K mg base 1 "_law_stretch" 5 AG:=jh 0 A jr (fun f fD A outer s H E hr=>have hu:=hr.units;have nd:=jr.nd
 (fk (Jx 5 rfl (.of (N':=["_law_c","_law_word","_law_top","_law_bottom"]) (m:=[none,some 4,some 0,some 1]) (by kernel_rfl)) kZ (pP T.b_range (eU (jU oP T.b_len cX (eU (eR 0) e7)) e7)) (fun s3 H3 ex=>(fU 0 Xj)) (fun s3 H3 ex=>(qp (gB (tV hu) (eR 1) (jS (eU (gn (eR 2) (eR 0)) (eU (gn (eR 3) (eR 0)) e7)))))) (fun s3 H3 ex=>(eR 0)) nd)
   (fk (i6 (gB (tV hu) (eR 4) (eR 2)) (fE (pN 5 (Eo ff))) jg)
   (fk (i6 (gB (tV hu) (eR 4) (eR 3)) (fE (pN 5 (jU oP T.b_len cX (eU (eR 0) e7)))) jg)
   (vL 5 (fE (iG (nE (eU (jU (D6 rfl) T.b_min boot_min (eU (fB iR (eR 5) (jS (eU ff e7))) e7)) (eU (jU (D5 rfl) T.b_max boot_max (eU (fB iR (eR 5) (jS (eU (Eo ff) e7))) e7)) e7)))))))))) Xd (by walk_at "bn")
variable (gN:Known P w K mg base 1 "_law_stretch" 5 AG)
include T fq gN in
theorem WU(A:At K mg "_law_bends" (top 47)):Known P w K mg base 2 "_law_bends" 4 AJ:=jh 1 A j4 (fun f fD A outer s H E hr=>have hu:=hr.units;have nd:=j4.nd
 (fk (Ep (eR 0) (Q2 rfl (iU (fU 4 nd) (iU (fU 5 nd) (iU (fU 6 nd) (iU (fU 7 nd) nF))))))
   (fk (oz 8 (jS e7) nd)
   (fk (mX aU rfl (pP T.b_range (eU (jU oP T.b_len cX (eU (eR 4) e7)) e7)) (fU 9 nd)
    (fk (gD 10 (ij fq hr (eU (gn (fB iR (eR 2) (jS (eU (eR 3) e7))) (fB jK (eR 9) (fB iR (jU oP T.b_len cX (eU (eR 2) e7)) ff))) (eU (fB iR (eR 9) ff) e7))) nd)
   (fk (gD 11 (gn (eR 1) (fB jK (eR 10) ff)) nd)
   (fk (i6 (vM (gB (kY hu) (fB jK (fB mT (eR 10) ff) ff) ff) (Ab (gB xh (gn (eR 4) (eR 9)) mU))).pb (fE (gD 11 (gn (eR 4) (eR 9)) nd)) jg)
   (fk (Ep (ij gN hr (eU (eR 4) (eU (eR 5) (eU (eR 6) (eU (eR 7) (eU (eR 11) e7)))))) (ou rfl (iU (fU 12 nd) (iU (fU 13 nd) nF))))
   (fk (z9 14 rfl (.of (N':=["_law_x"]) (m:=[none]) (by kernel_rfl)) kZ (j8 (jS (eU (gn (eR 4) (eR 9)) (eU (gn (eR 5) (eR 9)) e7)))) (fun s3 H3 ex=>(fU 0 Wo)) (fun s3 H3 ex=>(qp (gB xh (eR 0) mU))) (fun s3 H3 ex=>(eR 0)) nd)
   (fE (i6 (vM (gB yn (eR 12) (eR 9)) (vM (gB yn (eR 9) (eR 13)) (vM (zS (gB (kY hu) (eR 14) (jS e7)) (CJ (gB (tV hu) (eR 11) (eR 14)))).pb (Ab (gB Cc (fB jK (fB mT (eR 10) ff) ff) ff))))).pb (fE (pN 8 (nE (eU (eR 9) (eU (eR 11) e7))))) jg))))))))
   (fE (xg 8)))))) V5 (by walk_at "bn")
variable (iB:Known P w K mg base 2 "_law_bends" 4 AJ)
include T fq in
theorem WT(A:At K mg "_law_keeps" (top 48)):Known P w K mg base 2 "_law_keeps" 3 AI:=jh 1 A jZ (fun f fD A outer s H E hr=>have hu:=hr.units;have nd:=jZ.nd
 (fk (oz 3 (jS e7) nd)
   (fk (mX aU rfl (yL T.b_enumerate (eU (qm (eR 1) rO (pH ff)) e7)) (ou rfl (iU (fU 4 nd) (iU (fU 5 nd) nF)))
    (fk (gD 6 (ij fq hr (eU (fB iR (eR 5) (eR 2)) (eU (fB iR (eR 4) ff) e7))) nd)
   (fk (gD 7 (fB jK (eR 6) (eR 0)) nd)
   (fE (i6 (gB (kY hu) (fB jK (fB mT (eR 6) ff) ff) ff) (fE (pN 3 (nE (eU (eR 7) (eU (fB iR (eR 7) (fB jK (fB mT (eR 6) ff) (fB Iy (eR 0) (eR 7)))) (eU (fB iR ff (fB jK (fB mT (eR 6) ff) ff)) e7)))))) jg)))))
   (fE (xg 3))))) V4 (by walk_at "bn")
variable (iz:Known P w K mg base 2 "_law_keeps" 3 AI)
include T iy fq iP ic ie iB iz in
theorem W6(A:At K mg "_law_channel" (top 50)):Known P w K mg base 3 "_law_channel" 2 AF:=jh 2 A js (fun f fD A outer s H E hr=>have hu:=hr.units;have nd:=js.nd
 (fk (gD 2 (fB jK (fB vv (fB jK (jU (D7 rfl) T.b_sum boot_sum (eU (qm (eR 0) rO (pH ff)) e7)) (fB Ce ff ff)) ff) ff) nd)
   (fk (gD 3 (ij iy hr (eU (jU (D7 rfl) T.b_sum boot_sum (eU (qm (eR 0) rO (pH ff)) e7)) e7)) nd)
   (fk (gD 4 (fB iR ff (fB jK (eR 2) (eR 1))) nd)
   (fk (gD 5 (qm (eR 0) (pH ff) rO) nd)
   (fk (Ep (ij iP hr (eU (eR 3) (eU (eR 5) (eU (eR 2) (eU (eR 4) e7))))) (ou rfl (iU (fU 6 nd) (iU (fU 7 nd) nF))))
   (fk (gD 8 (ij fq hr (eU (jU (D7 rfl) T.b_sum boot_sum (eU (qm (eR 0) (pH ff) (pH ff)) e7)) (eU (fB iR ff (fB jK (eR 2) ff)) e7))) nd)
   (fk (gD 9 (ij ic hr (eU (eR 3) (eU (eR 8) e7))) nd)
   (fk (gD 10 (ij ic hr (eU (eR 3) (eU (fB mT (eR 8) ff) e7))) nd)
   (fk (gD 11 (l8 rfl (.of (N':=["_law_word","_law_top","_law_bottom","_law_left","_law_right"]) (m:=[none,some 6,some 7,some 9,some 10]) (by kernel_rfl)) kZ (j8 (eR 3)) (fun s3 H3 ex=>(fU 0 Xi)) (fun s3 H3 ex=>(qp (gB (kY hu) (ij ie hr (eU (eR 1) (eU (eR 2) (eU (eR 3) (eU (eR 4) (eU (eR 0) e7)))))) ff))) (fun s3 H3 ex=>(eR 0))) nd)
   (fk (gD 6 (l8 rfl (.of (N':=["_law_word","_law_lone"]) (m:=[none,some 11]) (by kernel_rfl)) kZ (j8 (eR 6)) (fun s3 H3 ex=>(fU 0 Xh)) (fun s3 H3 ex=>ot) (fun s3 H3 ex=>(CW (gB (tV hu) (eR 0) (eR 1)) mU (eR 0)))) nd)
   (fk (gD 7 (l8 rfl (.of (N':=["_law_word","_law_lone"]) (m:=[none,some 11]) (by kernel_rfl)) kZ (j8 (eR 7)) (fun s3 H3 ex=>(fU 0 WN)) (fun s3 H3 ex=>ot) (fun s3 H3 ex=>(CW (gB (tV hu) (eR 0) (eR 1)) mU (eR 0)))) nd)
   (fk (gD 9 (l8 rfl (.of (N':=["_law_word","_law_lone"]) (m:=[none,some 11]) (by kernel_rfl)) kZ (j8 (eR 9)) (fun s3 H3 ex=>(fU 0 WM)) (fun s3 H3 ex=>(qp (gB (z5 hu) (eR 0) (eR 1)))) (fun s3 H3 ex=>(eR 0))) nd)
   (fk (gD 10 (l8 rfl (.of (N':=["_law_word","_law_lone"]) (m:=[none,some 11]) (by kernel_rfl)) kZ (j8 (eR 10)) (fun s3 H3 ex=>(fU 0 WL)) (fun s3 H3 ex=>(qp (gB (z5 hu) (eR 0) (eR 1)))) (fun s3 H3 ex=>(eR 0))) nd)
   (fk (oz 12 (jS e7) nd)
   (fk (mX aU rfl (yL T.b_enumerate (eU (jU (JY rfl) T.b_sorted boot_sorted (eU (eR 3) e7)) e7)) (ou rfl (iU (fU 13 nd) (iU (fU 14 nd) nF)))
    (fk (gD 15 (ij fq hr (eU (fB iR (eR 2) (eR 13)) (eU ff e7))) nd)
   (fE (i6 (vM (gB (kY hu) (fB jK (eR 15) ff) ff) (Ab (gB Cc (ij ie hr (eU (eR 6) (eU (eR 7) (eU (eR 9) (eU (eR 10) (eU (eR 14) e7)))))) ff))).pb (fE (pN 12 (nE (eU (eR 14) (eU (fB iR ff (fB jK (fB mT (eR 15) ff) ff)) e7))))) jg))))
   (fk (gD 16 (ij iB hr (eU (jS (eU (eR 6) (eU (eR 7) (eU (eR 9) (eU (eR 10) e7))))) (eU (eR 3) (eU (eR 5) (eU (eR 2) e7))))) nd)
   (fk (gD 17 (jS e7) nd)
   (fk (i6 (gB (kY hu) (fB jK (fB mT (eR 2) ff) ff) ff) (fE (gD 17 (ij iz hr (eU (eR 4) (eU (eR 5) (eU (eR 2) e7)))) nd)) jg)
   (vL 12 (fE (iG (jS (eU (eR 6) (eU (eR 7) (eU (eR 9) (eU (eR 10) (eU (eR 12) (eU (eR 16) (eU (eR 17) e7)))))))))))))))))))))))))))))) Xc (by walk_at "bn")
variable (gO:Known P w K mg base 3 "_law_channel" 2 AF)
include T jP in
theorem Wf(A:At K mg "_law_made" (top 51)):Known P w K mg base 3 "_law_made" 1 yU:=jh 2 A kL (fun f fD A outer s H E hr=>have hu:=hr.units;have nd:=kL.nd
 (fk (z9 1 rfl (.of (N':=["_law_one"]) (m:=[none]) (by kernel_rfl)) kZ (j8 (eR 0)) (fun s3 H3 ex=>(fU 0 VQ)) (fun s3 H3 ex=>ot) (fun s3 H3 ex=>(t9 vC T.b_list boot_list (eU (eR 0) e7))) nd)
   (fE (iG (RN jP hr (eU (gn (eR 1) ff) (eU (gn (eR 1) ff) (eU (gn (eR 1) ff) (eU (gn (eR 1) ff) (eU (gn (eR 1) ff) (eU (gn (eR 1) ff) (eU (gn (eR 1) ff) e7)))))))))))) Wz (by walk_at "bn")
variable (ig:Known P w K mg base 3 "_law_made" 1 yU)
include T in
theorem Vx(A:At K mg "nets_of" (top 2)):Known P w K mg base 1 "nets_of" 1 uK:=jh 0 A me (fun f fD A outer s H E hr=>have hu:=hr.units;have nd:=me.nd
 (fk (z9 1 rfl (.of (N':=["name"]) (m:=[none]) (by kernel_rfl)) kZ (j8 (fB iR (kn (eR 0)) (kn (eR 0)))) (fun s3 H3 ex=>(fU 0 U9)) (fun s3 H3 ex=>(qp (gB xh (eR 0) mU))) (fun s3 H3 ex=>(eR 0)) nd)
   (fE (iG (VE rfl T.b_sorted T.b_set (eU (fB iR (fB iR (eR 1) (kn (eR 0))) (kn (eR 0))) e7)))))) Vb (by walk_at "bn")
variable (fJ:Known P w K mg base 1 "nets_of" 1 uK)
include T in
theorem Vw(A:At K mg "ends_of" (top 1)):Known P w K mg base 1 "ends_of" 2 yM:=jh 0 A mf (fun f fD A outer s H E hr=>have hu:=hr.units;have nd:=mf.nd
 (fk (oz 2 (jS e7) nd)
   (fk (i6 (gB (tV hu) (eR 1) (kn (eR 0))) (fE (pN 2 (nE (eU oS e7)))) jg)
   (fk (mX aU rfl (pP T.b_range (eU (jU oP T.b_len cX (eU (kn (eR 0)) e7)) e7)) (fU 3 nd)
    (fk (i6 (gB (kY hu) (gn (kn (eR 0)) (eR 3)) (eR 1)) (fE (pN 2 (nE (eU oS (eU (eR 3) e7))))) jg)
   (fE (i6 (gB (kY hu) (gn (kn (eR 0)) (eR 3)) (eR 1)) (fE (pN 2 (nE (eU oS (eU (eR 3) e7))))) jg))))
   (fk (i6 (gB (tV hu) (eR 1) (kn (eR 0))) (fE (pN 2 (nE (eU oS e7)))) jg)
   (fE (xg 2))))))) Vc (by walk_at "bn")
variable (g4:Known P w K mg base 1 "ends_of" 2 yM)
include T in
theorem We(A:At K mg "column_of" (top 4)):Known P w K mg base 1 "column_of" 2 Ap:=jh 0 A kF (fun f fD A outer s H E hr=>have hu:=hr.units;have nd:=kF.nd
 (fk (i6 (gB (kY hu) (gn (eR 1) ff) oS) (fE (iG (Eo ff))) jg)
   (fk (i6 (gB (kY hu) (gn (eR 1) ff) oS) (fE (iG (jU oP T.b_len cX (eU (kn (eR 0)) e7)))) jg)
   (fE (iG (gn (eR 1) ff)))))) Wx (by walk_at "bn")
variable (iM:Known P w K mg base 1 "column_of" 2 Ap)
include T g4 iM in
theorem WS(A:At K mg "stretch_of" (top 5)):Known P w K mg base 2 "stretch_of" 2 yP:=jh 1 A jW (fun f fD A outer s H E hr=>have hu:=hr.units;have nd:=jW.nd
 (fk (z9 2 rfl (.of (N':=["end","channel"]) (m:=[none,some 0]) (by kernel_rfl)) kZ (j8 (ij g4 hr (eU (eR 0) (eU (eR 1) e7)))) (fun s3 H3 ex=>(fU 0 Wn)) (fun s3 H3 ex=>ot) (fun s3 H3 ex=>(ij iM hr (eU (eR 1) (eU (eR 0) e7)))) nd)
   (fk (i6 (gB yn (KU rfl T.b_len T.b_set (eU (eR 2) e7)) ff) (fE (iG mU)) jg)
   (fE (iG (nE (eU (jU (D6 rfl) T.b_min boot_min (eU (eR 2) e7)) (eU (jU (D5 rfl) T.b_max boot_max (eU (eR 2) e7)) e7)))))))) V3 (by walk_at "bn")
variable (fW:Known P w K mg base 2 "stretch_of" 2 yP)
include T in
theorem zev(A:At K mg "bend_columns" (top 9)):Known P w K mg base 1 "bend_columns" 2 AE:=jh 0 A jq (fun f fD A outer s H E hr=>have hu:=hr.units;have nd:=jq.nd
 (fE (iG (l8 rfl (.of (N':=["column","bent_name","name"]) (m:=[none,none,some 1]) (by kernel_rfl)) vS (j8 (kn (eR 0))) (fun s3 H3 ex=>(ou rfl (iU (fU 0 LK) (iU (fU 1 LK) nF)))) (fun s3 H3 ex=>(qp (gB (kY hu) (eR 1) (eR 2)))) (fun s3 H3 ex=>(eR 0)))))) Xb (by walk_at "bn")
variable (gM:Known P w K mg base 1 "bend_columns" 2 AE)
include T in
theorem VN(A:At K mg "width_of" (top 3)):Known P w K mg base 1 "width_of" 2 yY:=jh 0 A lF (fun f fD A outer s H E hr=>have hu:=hr.units;have nd:=lF.nd
 (fk (mX aU rfl (j8 (kn (eR 0))) (ou rfl (iU (fU 2 nd) (iU (fU 3 nd) nF)))
    (fE (i6 (gB (kY hu) (eR 2) (eR 1)) (fE (iG (eR 3))) jg)))
   (fE (iG ff)))) VC (by walk_at "bn")
variable (jc:Known P w K mg base 1 "width_of" 2 yY)
include T fW gM jc in
theorem WR(A:At K mg "net_pieces" (top 8)):Known P w K mg base 3 "net_pieces" 3 xq:=jh 2 A jX (fun f fD A outer s H E hr=>have hu:=hr.units;have nd:=jX.nd
 (fk (gD 3 (ij fW hr (eU (eR 0) (eU (eR 1) e7))) nd)
   (fk (i6 (gB zD (eR 3) mU) (fE (iG (jS e7))) jg)
   (fk (gD 4 (CW (vI (eR 2)) (ij gM hr (eU (eR 0) (eU (eR 1) e7))) (jS e7)) nd)
   (fk (gD 5 (fB iR (fB iR (jS (eU (gn (eR 3) ff) e7)) (eR 4)) (jS (eU (gn (eR 3) ff) e7))) nd)
   (fk (gD 6 (ij jc hr (eU (eR 0) (eU (eR 1) e7))) nd)
   (fE (iG (l8 rfl (.of (N':=["first","last","name","width"]) (m:=[none,none,some 1,some 6]) (by kernel_rfl)) vS (Qw T.b_zip (eU (eR 5) (eU (qm (eR 5) (pH ff) rO) e7))) (fun s3 H3 ex=>(ou rfl (iU (fU 0 LD) (iU (fU 1 LD) nF)))) (fun s3 H3 ex=>ot) (fun s3 H3 ex=>(nE (eU (eR 2) (eU (eR 0) (eU (eR 1) (eU (eR 3) e7))))))))))))))) V2 (by walk_at "bn")
variable (gr:Known P w K mg base 3 "net_pieces" 3 xq)
theorem U8(T:Txt K mg)(fJ:Known P w K mg base 1 "nets_of" 1 uK)(gr:Known P w K mg base 3 "net_pieces" 3 xq){f:Addr}(fD:Value)(A:Around)(outer:List Env)(s:Shared)(H:Hp)(E:XK)(hr:gz 3 (A.deeper (envOfC "pieces_of" (eS gf) s.heap.objs.size f fD))) :
  p5 (rJ oK P w K mg base ["channel","bent","pieces","name"] "pieces_of" (eS gf) f fD A outer s H E).uh (fK gf) C2:=by
 have hu:=hr.units
 exact(fk (Jx 2 rfl (.of (N':=["first","last","tracks"]) (m:=[none,none,none]) (by kernel_rfl)) Vp (j8 (kn (eR 0))) (fun s3 H3 ex=>(ou rfl (iU (fU 0 FZ) (iU (fU 1 FZ) (iU (fU 2 FZ) nF))))) (fun s3 H3 ex=>ot) (fun s3 H3 ex=>(nE (eU mU (eU (eR 0) (eU (eR 1) (eU (eR 2) e7)))))) i8.nd)
   (fk (mX aU rfl (j8 (ij fJ hr (eU (eR 0) e7))) (fU 3 i8.nd)
    (fE (Ex 2 (ij gr hr (eU (eR 0) (eU (eR 3) (eU (eR 1) e7)))))))
   (fE (xg 2))))
theorem Wd(A:DT K mg "pieces_of" gf [.bool false])(T:Txt K mg)(fJ:Known P w K mg base 1 "nets_of" 1 uK)(gr:Known P w K mg base 3 "net_pieces" 3 xq):nW P w K mg base 4 "pieces_of" 2 yS false:=by
 obtain⟨_,f,fd,_,_,F,hm,lk,hd⟩:=A.ex;exact⟨f,fd,["channel","bent"],EL F i8 (U8 T fJ gr) Wu,hm,F.kp,F.tM 2 lk hd (fun _ _ _ _ _ _ us hl=>match us,hl with | [_,_],_=>⟨_,rfl,rfl⟩),F.tM 1 lk hd (fun _ _ _ _ _ _ us hl=>match us,hl with | [_],_=>⟨_,rfl,rfl⟩)⟩
variable (gk:nW P w K mg base 4 "pieces_of" 2 yS false)
include T in
theorem Wb(A:At K mg "pieces_at" (top 11)):Known P w K mg base 1 "pieces_at" 3 yT:=jh 0 A kD (fun f fD A outer s H E hr=>have hu:=hr.units;have nd:=kD.nd
 (fE (iG (l8 rfl (.of (N':=["number","piece","name","column"]) (m:=[none,none,some 1,some 2]) (by kernel_rfl)) vS (yL T.b_enumerate (eU (eR 0) e7)) (fun s3 H3 ex=>(ou rfl (iU (fU 0 LF) (iU (fU 1 LF) nF)))) (fun s3 H3 ex=>(qp (vM (gB (kY hu) (gn (eR 1) ff) (eR 2)) (Ab (J5 zM zM (gn (eR 1) ff) (eR 3) (gn (eR 1) ff)))).pb)) (fun s3 H3 ex=>(eR 0)))))) Wv (by walk_at "bn")
variable (hZ:Known P w K mg base 1 "pieces_at" 3 yT)
include T hZ in
theorem WH(A:At K mg "pin_triples" (top 14)):Known P w K mg base 2 "pin_triples" 2 AO:=jh 1 A jC (fun f fD A outer s H E hr=>have hu:=hr.units;have nd:=jC.nd
 (fk (oz 2 (jS e7) nd)
   (fk (mX aU rfl (pP T.b_range (eU (jU oP T.b_len cX (eU (kn (eR 0)) e7)) e7)) (fU 3 nd)
    (fk (gD 4 (gn (kn (eR 0)) (eR 3)) nd)
   (fk (gD 5 (gn (kn (eR 0)) (eR 3)) nd)
   (fE (i6 (vM (gB xh (eR 4) mU) (vM (gB xh (eR 5) mU) (Ab (gB (D2 hu) (eR 4) (eR 5))))).pb (fk (gD 6 (ij hZ hr (eU (eR 1) (eU (eR 5) (eU (eR 3) e7)))) nd)
   (fE (mX aU rfl (j8 (ij hZ hr (eU (eR 1) (eU (eR 4) (eU (eR 3) e7))))) (fU 7 nd)
    (fE (Ex 2 (l8 rfl (.of (N':=["lower","upper","column"]) (m:=[none,some 7,some 3]) (by kernel_rfl)) kZ (j8 (eR 6)) (fun s3 H3 ex=>(fU 0 WW)) (fun s3 H3 ex=>ot) (fun s3 H3 ex=>(nE (eU (eR 1) (eU (eR 0) (eU (eR 2) e7))))))))))) jg)))))
   (fE (xg 2))))) W0 (by walk_at "bn")
variable (g9:Known P w K mg base 2 "pin_triples" 2 AO)
include T in
theorem Wa(A:At K mg "common_of" (top 10)):Known P w K mg base 1 "common_of" 2 Ao:=jh 0 A kE (fun f fD A outer s H E hr=>have hu:=hr.units;have nd:=kE.nd
 (fk (gD 2 (jU (D5 rfl) T.b_max boot_max (eU (gn (eR 0) ff) (eU (gn (eR 1) ff) e7))) nd)
   (fk (i6 (gB Cc (eR 2) (jU (D6 rfl) T.b_min boot_min (eU (gn (eR 0) ff) (eU (gn (eR 1) ff) e7)))) (fE (iG mU)) jg)
   (fE (iG (eR 2)))))) Ww (by walk_at "bn")
variable (iL:Known P w K mg base 1 "common_of" 2 Ao)
include T iL in
theorem W5(A:At K mg "beneath_keep" (top 16)):Known P w K mg base 2 "beneath_keep" 2 AD:=jh 1 A jo (fun f fD A outer s H E hr=>have hu:=hr.units;have nd:=jo.nd
 (fk (z9 2 rfl (.of (N':=["number","piece","keep"]) (m:=[none,none,some 0]) (by kernel_rfl)) vS (yL T.b_enumerate (eU (eR 1) e7)) (fun s3 H3 ex=>(ou rfl (iU (fU 0 LJ) (iU (fU 1 LJ) nF)))) (fun s3 H3 ex=>(qp (gB xh (gn (eR 1) ff) mU))) (fun s3 H3 ex=>(nE (eU (eR 0) (eU (ij iL hr (eU (eR 2) (eU (eR 1) e7))) e7)))) nd)
   (fE (iG (l8 rfl (.of (N':=["number","column"]) (m:=[none,none]) (by kernel_rfl)) vS (j8 (eR 2)) (fun s3 H3 ex=>(ou rfl (iU (fU 0 LI) (iU (fU 1 LI) nF)))) (fun s3 H3 ex=>(qp (gB xh (eR 1) mU))) (fun s3 H3 ex=>(nE (eU (eR 0) (eU (eR 1) e7))))))))) Xa (by walk_at "bn")
variable (gL:Known P w K mg base 2 "beneath_keep" 2 AD)
include T gL in
theorem W4(A:At K mg "keep_triples" (top 15)):Known P w K mg base 3 "keep_triples" 1 AB:=jh 2 A jn (fun f fD A outer s H E hr=>have hu:=hr.units;have nd:=jn.nd
 (fk (oz 1 (jS e7) nd)
   (fk (mX aU rfl (yL T.b_enumerate (eU (eR 0) e7)) (ou rfl (iU (fU 2 nd) (iU (fU 3 nd) nF)))
    (fE (i6 (gB zD (gn (eR 3) ff) mU) (fE (Ex 1 (l8 rfl (.of (N':=["lower","column","upper"]) (m:=[none,none,some 2]) (by kernel_rfl)) vS (j8 (ij gL hr (eU (eR 3) (eU (eR 0) e7)))) (fun s3 H3 ex=>(ou rfl (iU (fU 0 LH) (iU (fU 1 LH) nF)))) (fun s3 H3 ex=>ot) (fun s3 H3 ex=>(nE (eU (eR 2) (eU (eR 0) (eU (eR 1) e7)))))))) jg)))
   (fE (xg 1))))) W9 (by walk_at "bn")
variable (gK:Known P w K mg base 3 "keep_triples" 1 AB)
include T g9 gK in
theorem VM(A:At K mg "above_of" (top 13)):Known P w K mg base 4 "above_of" 2 yX:=jh 3 A lI (fun f fD A outer s H E hr=>have hu:=hr.units;have nd:=lI.nd
 (fE (iG (jU (SQ rfl) T.b_sorted boot_sorted (eU (fB iR (ij g9 hr (eU (eR 0) (eU (eR 1) e7))) (ij gK hr (eU (eR 1) e7))) e7))))) VB (by walk_at "bn")
variable (gC:Known P w K mg base 4 "above_of" 2 yX)
include T fJ g4 in
theorem WG(A:At K mg "refuse_lone" (top 28)):Known P w K mg base 2 "refuse_lone" 1 AN:=jh 1 A jB (fun f fD A outer s H E hr=>have hu:=hr.units;have nd:=jB.nd
 (fE (mX aU rfl (j8 (ij fJ hr (eU (eR 0) e7))) (fU 1 nd)
    (fE (i6 (gB (kY hu) (jU oP T.b_len cX (eU (ij g4 hr (eU (eR 0) (eU (eR 1) e7))) e7)) ff) (fE CT) jg))))) WZ (by walk_at "bn")
variable (g8:Known P w K mg base 2 "refuse_lone" 1 AN)
include T fJ in
theorem Xr(A:At K mg "refuse_names_without_net" (top 29)):Known P w K mg base 2 "refuse_names_without_net" 1 AQ:=jh 1 A f7 (fun f fD A outer s H E hr=>have hu:=hr.units;have nd:=f7.nd
 (fk (gD 1 (ij fJ hr (eU (eR 0) e7)) nd)
   (fk (gD 2 (fB iR (l8 rfl (.of (N':=["name","width"]) (m:=[none,none]) (by kernel_rfl)) vS (j8 (kn (eR 0))) (fun s3 H3 ex=>(ou rfl (iU (fU 0 LN) (iU (fU 1 LN) nF)))) (fun s3 H3 ex=>ot) (fun s3 H3 ex=>(eR 0))) (l8 rfl (.of (N':=["column","name"]) (m:=[none,none]) (by kernel_rfl)) vS (j8 (kn (eR 0))) (fun s3 H3 ex=>(ou rfl (iU (fU 0 LM) (iU (fU 1 LM) nF)))) (fun s3 H3 ex=>ot) (fun s3 H3 ex=>(eR 1)))) nd)
   (fE (mX aU rfl (j8 (eR 2)) (fU 3 nd)
    (fE (i6 (gB (z5 hu) (eR 3) (eR 1)) (fE CT) jg))))))) Xq (by walk_at "bn")
variable (fv:Known P w K mg base 2 "refuse_names_without_net" 1 AQ)
include T fW in
theorem VL(A:At K mg "can_bend" (top 31)):Known P w K mg base 3 "can_bend" 3 Am:=jh 2 A lH (fun f fD A outer s H E hr=>have hu:=hr.units;have nd:=lH.nd
 (fk (gD 3 (ij fW hr (eU (eR 0) (eU (eR 2) e7))) nd)
   (fk (i6 (zS (gB zD (eR 3) mU) (CJ (vH (J5 Co Co (gn (eR 3) ff) (eR 1) (gn (eR 3) ff))))).pb (fE (iG uF)) jg)
   (fk (gD 4 (nE (eU (gn (kn (eR 0)) (eR 1)) (eU (gn (kn (eR 0)) (eR 1)) e7))) nd)
   (fE (iG (Og (w8 (tV hu) (eR 2) (eR 4)) (Er (w8 (kY hu) (eR 4) (nE (eU mU (eU mU e7)))))))))))) VA (by walk_at "bn")
variable (je:Known P w K mg base 3 "can_bend" 3 Am)
include T je in
theorem W3(A:At K mg "refuse_bends" (top 30)):Known P w K mg base 4 "refuse_bends" 1 Az:=jh 3 A jl (fun f fD A outer s H E hr=>have hu:=hr.units;have nd:=jl.nd
 (fE (mX aU rfl (j8 (kn (eR 0))) (ou rfl (iU (fU 1 nd) (iU (fU 2 nd) nF)))
    (fE (i6 (vH (vI (ij je hr (eU (eR 0) (eU (eR 1) (eU (eR 2) e7)))))) (fE CT) jg))))) Xn (by walk_at "bn")
variable (gI:Known P w K mg base 4 "refuse_bends" 1 Az)
include T in
theorem VJ(A:At K mg "can_keep" (top 33)):Known P w K mg base 1 "can_keep" 2 Al:=jh 0 A lG (fun f fD A outer s H E hr=>have hu:=hr.units;have nd:=lG.nd
 have ⟨vW,hU⟩:=T.hU
 (fE (iG (Jf (J6 zM Co (gn (eR 1) ff) (gn (eR 1) ff) (eR 0)) (Er (J6 zM zM ff (gn (eR 1) ff) (RV hU))))))) Vz (by walk_at "bn")
variable (jd:Known P w K mg base 1 "can_keep" 2 Al)
include T jd in
theorem W2(A:At K mg "refuse_keeps" (top 32)):Known P w K mg base 2 "refuse_keeps" 1 Ay:=jh 1 A jk (fun f fD A outer s H E hr=>have hu:=hr.units;have nd:=jk.nd
 (fE (mX aU rfl (yL T.b_enumerate (eU (kn (eR 0)) e7)) (ou rfl (iU (fU 1 nd) (iU (fU 2 nd) nF)))
    (fE (i6 (vH (vI (ij jd hr (eU (jU oP T.b_len cX (eU (kn (eR 0)) e7)) (eU (eR 2) e7))))) (fE CT) jg))))) Xm (by walk_at "bn")
variable (gH:Known P w K mg base 2 "refuse_keeps" 1 Ay)
include T g8 fv gI gH in
theorem Xp(A:At K mg "checked_channel" (top 27)):Known P w K mg base 5 "checked_channel" 1 AR:=jh 4 A iC (fun f fD A outer s H E hr=>have hu:=hr.units;have nd:=iC.nd
 (fk (z0 (ij g8 hr (eU (eR 0) e7)))
   (fk (z0 (ij fv hr (eU (eR 0) e7)))
   (fk (z0 (ij gI hr (eU (eR 0) e7)))
   (fk (z0 (ij gH hr (eU (eR 0) e7)))
   (fE (iG uF))))))) Xo (by walk_at "bn")
variable (f9:Known P w K mg base 5 "checked_channel" 1 AR)
include T in
theorem Xg(A:At K mg "levels_found" (top 36)):Known P w K mg base 1 "levels_found" 2 xp:=jh 0 A jm (fun f fD A outer s H E hr=>have hu:=hr.units;have nd:=jm.nd
 (fk (Se 2 rfl (.of (N':=["number"]) (m:=[none]) (by kernel_rfl)) kZ (pP T.b_range (eU (eR 0) e7)) (fun s3 H3 ex=>(fU 0 WK)) (fun s3 H3 ex=>ot) (fun s3 H3 ex=>(jS e7)) nd)
   (fk (oz 3 (Oy (jS (eU ff e7)) (eR 0)) nd)
   (fk (mX aU rfl (j8 (eR 1)) (ou rfl (iU (fU 4 nd) (iU (fU 5 nd) (iU (fU 6 nd) nF))))
    (fk (QO 2 (eR 4) (eR 5))
   (fE (Kr 3 (eR 5) (fB iR (vF 3 (eR 5)) ff)))))
   (fk (Sb 3 7 rfl (.of (N':=["number","waits"]) (m:=[none,some 3]) (by kernel_rfl)) kZ (pP T.b_range (eU (eR 0) e7)) (fun s3 H3 ex=>(fU 0 WJ)) (fun s3 H3 ex=>(qp (gB (kY hu) (gn (eR 1) (eR 0)) ff))) (fun s3 H3 ex=>(eR 0)) nd)
   (fk (oz 8 (Sd 7 (t9 (Oz rfl) T.b_dict (by decide +kernel) (eU (l8 rfl (.of (N':=["number"]) (m:=[none]) (by kernel_rfl)) kZ (j8 (eR 7)) (fun s3 H3 ex=>(fU 0 WI)) (fun s3 H3 ex=>ot) (fun s3 H3 ex=>(nE (eU (eR 0) (eU ff e7))))) e7))) nd)
   (fk (gD 9 ff nd)
   (vL 2 (fk (EY aU (gB yn (eR 9) (Jv 7 T.b_len)) (fk (gD 4 (vF 7 (eR 9)) nd)
   (fk (gD 9 (fB iR (eR 9) ff) nd)
   (fE (mX aU rfl (j8 (gn (eR 2) (eR 4))) (fU 5 nd)
    (fk (Kr 3 (eR 5) (fB Iy (vF 3 (eR 5)) ff))
   (fE (i6 (gB (kY hu) (vF 3 (eR 5)) ff) (fk (Ew hu 8 (eR 5) (fB iR (QQ hu 8 (eR 4)) ff))
   (fE (pN 7 (eR 5)))) jg))))))))
   (fE (QP 8))))))))))) Xl (by walk_at "bn")
variable (gJ:Known P w K mg base 1 "levels_found" 2 xp)
include T in
theorem Xf(A:At K mg "ring_without" (top 37)):Known P w K mg base 1 "ring_without" 2 xo:=jh 0 A ji (fun f fD A outer s H E hr=>have hu:=hr.units;have nd:=ji.nd
 (fk (oz 2 JA nd)
   (fk (mX aU rfl (j8 (eR 1)) (fU 3 nd)
    (fE (i6 (gB (Kq hu) (gn (eR 3) ff) (eR 0)) (fE (Ew hu 2 (gn (eR 3) ff) (eR 3))) jg)))
   (vL 2 (fk (gD 4 (jU (OA rfl) T.b_min boot_min (eU (eR 2) e7)) nd)
   (fk (oz 5 JA nd)
   (fk (oz 6 (jS e7) nd)
   (fk (EY aU (CG 5 (gB (Kq hu) (eR 4) (eR 5))) (fk (Ew hu 5 (eR 4) (Jv 6 T.b_len))
   (fk (pN 6 (CF hu (eR 2) (eR 4)))
   (fE (gD 4 (gn (CF hu (eR 2) (eR 4)) ff) nd)))))
   (vL 5 (vL 6 (fk (oz 7 (qm (eR 6) (pH (CF hu (eR 5) (eR 4))) rO) nd)
   (fk (Uh 7)
   (fE (xg 7)))))))))))))) Xk (by walk_at "bn")
variable (gG:Known P w K mg base 1 "ring_without" 2 xo)
include T gJ gG in
theorem U7(A:At K mg "ranked" (top 35)):Known P w K mg base 2 "ranked" 2 sj:=jh 1 A nA (fun f fD A outer s H E hr=>have hu:=hr.units;have nd:=nA.nd
 (fk (gD 2 (ij gJ hr (eU (eR 0) (eU (eR 1) e7))) nd)
   (fk (i6 (gB yn (jU OB T.b_len cX (eU (eR 2) e7)) (eR 0)) (fE (iG (JN oS (ij gG hr (eU (eR 2) (eU (eR 1) e7)))))) jg)
   (fE (iG (JN oS (l8 rfl (.of (N':=["number","levels"]) (m:=[none,some 2]) (by kernel_rfl)) kZ (pP T.b_range (eU (eR 0) e7)) (fun s3 H3 ex=>(fU 0 Vq)) (fun s3 H3 ex=>ot) (fun s3 H3 ex=>(CF hu (eR 1) (eR 0)))))))))) Vs (by walk_at "bn")
variable (kW:Known P w K mg base 2 "ranked" 2 sj)
include T gk gC f9 kW in
theorem Vv(A:At K mg "ring_of" (top 39)):Known P w K mg base 6 "ring_of" 1 Av:=jh 5 A md (fun f fD A outer s H E hr=>have hu:=hr.units;have nd:=md.nd
 (fk (z0 (ij f9 hr (eU (eR 0) e7)))
   (fk (gD 1 (K4 gk hr (eU (eR 0) e7)) nd)
   (fk (oz 2 (ij kW hr (eU (jU oP T.b_len cX (eU (eR 1) e7)) (eU (ij gC hr (eU (eR 0) (eU (eR 1) e7))) e7))) nd)
   (fk (i6 (CG 2 (gB (kY hu) (gn (eR 2) ff) oS)) (fE (R4 2)) jg)
   (fE (iG mU))))))) Va (by walk_at "bn")
variable (jO:Known P w K mg base 6 "ring_of" 1 Av)
include T in
theorem WQ(A:At K mg "_law_falls" (top 54)):Known P w K mg base 1 "_law_falls" 2 AH:=jh 0 A j3 (fun f fD A outer s H E hr=>have hu:=hr.units;have nd:=j3.nd
 (fk (gD 2 (R5 rfl T.b_list T.b_range (eU (eR 0) e7)) nd)
   (fk (EY aU (gB Cc (jU oP T.b_len cX (eU (eR 2) e7)) ff) (fk (gD 3 (l8 rfl (.of (N':=["_law_q","_law_above","_law_left"]) (m:=[none,some 1,some 2]) (by kernel_rfl)) kZ (j8 (eR 2)) (fun s3 H3 ex=>(fU 0 Wm)) (fun s3 H3 ex=>(qp (vH (vI (jU (Of rfl) T.b_any boot_any (eU (l8 rfl (.of (N':=["_law_one","_law_q","_law_left"]) (m:=[none,some 0,some 2]) (by kernel_rfl)) kZ (j8 (eR 1)) (fun s3 H3 ex=>(fU 0 Wl)) (fun s3 H3 ex=>ot) (fun s3 H3 ex=>(Jf (w8 (kY hu) (gn (eR 0) ff) (eR 1)) (Er (w8 (tV hu) (gn (eR 0) ff) (eR 2)))))) e7)))))) (fun s3 H3 ex=>(eR 0))) nd)
   (fk (i6 (gB (kY hu) (eR 3) (jS e7)) (fE (iG uF)) jg)
   (fE (gD 2 (l8 rfl (.of (N':=["_law_q","_law_free"]) (m:=[none,some 3]) (by kernel_rfl)) kZ (j8 (eR 2)) (fun s3 H3 ex=>(fU 0 Wk)) (fun s3 H3 ex=>(qp (gB (z5 hu) (eR 0) (eR 1)))) (fun s3 H3 ex=>(eR 0))) nd)))))
   (fE (iG uF))))) Wt (by walk_at "bn")
variable (iA:Known P w K mg base 1 "_law_falls" 2 AH)
include T in
theorem V9(A:At K mg "_law_ring" (top 53)):Known P w K mg base 1 "_law_ring" 2 An:=jh 0 A kH (fun f fD A outer s H E hr=>have hu:=hr.units;have nd:=kH.nd
 (fk (i6 (zS (vH (vI (Je (eR 0) T.b_isinstance T.b_list boot_list))) (CJ (gB (kY hu) (jU oP T.b_len cX (eU (eR 0) e7)) ff))).pb (fE (iG uF)) jg)
   (fk (mX aU rfl (pP T.b_range (eU (jU oP T.b_len cX (eU (eR 0) e7)) e7)) (fU 2 nd)
    (fE (i6 (zS (vH (vI (Je (gn (eR 0) (eR 2)) T.b_isinstance T.b_tuple boot_tuple))) (zS (gB (z5 hu) (gn (eR 0) (eR 2)) (eR 1)) (CJ (gB (D2 hu) (gn (gn (eR 0) (eR 2)) ff) (gn (gn (eR 0) (fB jK (fB iR (eR 2) ff) (jU oP T.b_len cX (eU (eR 0) e7)))) ff))))).pb (fE (iG uF)) jg)))
   (fE (iG (w8 (kY hu) (KU rfl T.b_len T.b_set (eU (l8 rfl (.of (N':=["_law_one"]) (m:=[none]) (by kernel_rfl)) kZ (j8 (eR 0)) (fun s3 H3 ex=>(fU 0 VP)) (fun s3 H3 ex=>ot) (fun s3 H3 ex=>(gn (eR 0) ff))) e7)) (jU oP T.b_len cX (eU (eR 0) e7)))))))) VS (by walk_at "bn")
variable (iO:Known P w K mg base 1 "_law_ring" 2 An)
include T in
theorem V8(A:At K mg "_law_kept" (top 52)):Known P w K mg base 1 "_law_kept" 2 Aq:=jh 0 A kM (fun f fD A outer s H E hr=>have hu:=hr.units;have nd:=kM.nd
 (fk (gD 2 (jS (eU (kn (eR 0)) (eU (kn (eR 0)) (eU (kn (eR 0)) (eU (kn (eR 0)) (eU (kn (eR 0)) (eU (kn (eR 0)) (eU (kn (eR 0)) e7)))))))) nd)
   (fE (iG (w8 (kY hu) (eR 2) (eR 1)))))) Wy (by walk_at "bn")
variable (iQ:Known P w K mg base 1 "_law_kept" 2 Aq)
include T gO ig gk gC jO iA iO iQ in
theorem O9  {f:Addr} (fD:Value) (A:Around) (outer:List Env) (s:Shared) (H:Hp) (E:XK) (hr:gz 6 (A.deeper (envOfC "law" (eS (top 55)) s.heap.objs.size f fD))) :
  p5 (rJ oK P w K mg base ["_law_script","_law_lists","_law_channel_here","_law_pieces","_law_above","_law_rings","_law_turn","_law_ring_here"] "law" (eS (top 55)) f fD A outer s H E).uh (fK (top 55)) zI:=
 have hu:=hr.units;have nd:=sJ.nd
 (fk (gD 1 (ij gO hr (eU (eR 0) (eU ff e7))) nd)
   (fk (gD 2 (ij ig hr (eU (eR 1) e7)) nd)
   (fk (gD 3 (K4 gk hr (eU (eR 2) e7)) nd)
   (fk (gD 4 (ij gC hr (eU (eR 2) (eU (eR 3) e7))) nd)
   (fk (oz 5 (jS e7) nd)
   (fk (mX aU rfl (pP T.b_range (eU ff e7)) (fU 6 nd)
    (fk (oz 7 (ij jO hr (eU (gn (jS (eU (eR 2) (eU (eR 2) (eU (ij ig hr (eU (eR 1) e7)) e7)))) (eR 6)) e7)) nd)
   (fk (pN 5 (CW (CG 7 (gB zD (eR 7) mU)) (eR 7) (R7 7 T.b_list)))
   (fk (i6 (gB (D2 hu) (vF 5 (eR 6)) (vF 5 ff)) (fE (iG uF)) jg)
   (fE (i6 (CG 7 (gB zD (eR 7) mU)) (fE (i6 (vH (vI (ij iA hr (eU (jU oP T.b_len cX (eU (eR 3) e7)) (eU (eR 4) e7))))) (fE (iG uF)) jg)) (fk (i6 (vH (vI (QZ 7 (ij iO hr (eU (eR 7) (eU (eR 4) e7)))))) (fE (iG uF)) jg)
   (fE (Sm 7)))))))))
   (fE (iG (ij iQ hr (eU (eR 2) (eU (eR 1) e7)))))))))))
theorem xH{fa:Addr}(T:Txt K mg)(lC:DU K mg "Channel" "Channel.__init__" jL ["top","bottom","left","right","wide","bends","keeps"])(AA:At K mg "_law_stem" (top 41)/\At K mg "_law_named" (top 42)/\At K mg "_law_mix" (top 43)/\At K mg "_law_pins" (top 44)/\At K mg "_law_open" (top 49)/\At K mg "_law_many" (top 45)/\At K mg "_law_stretch" (top 46)/\At K mg "_law_bends" (top 47)/\At K mg "_law_keeps" (top 48)/\At K mg "_law_channel" (top 50)/\At K mg "_law_made" (top 51)/\At K mg "nets_of" (top 2)/\At K mg "ends_of" (top 1)/\At K mg "column_of" (top 4)/\At K mg "stretch_of" (top 5)/\At K mg "bend_columns" (top 9)/\At K mg "width_of" (top 3)/\At K mg "net_pieces" (top 8)/\At K mg "pieces_at" (top 11)/\At K mg "pin_triples" (top 14)/\At K mg "common_of" (top 10)/\At K mg "beneath_keep" (top 16)/\At K mg "keep_triples" (top 15)/\At K mg "above_of" (top 13)/\At K mg "refuse_lone" (top 28)/\At K mg "refuse_names_without_net" (top 29)/\At K mg "can_bend" (top 31)/\At K mg "refuse_bends" (top 30)/\At K mg "can_keep" (top 33)/\At K mg "refuse_keeps" (top 32)/\At K mg "checked_channel" (top 27)/\At K mg "levels_found" (top 36)/\At K mg "ring_without" (top 37)/\At K mg "ranked" (top 35)/\At K mg "ring_of" (top 39)/\At K mg "_law_falls" (top 54)/\At K mg "_law_ring" (top 53)/\At K mg "_law_kept" (top 52)/\At K mg "law" (top 55)/\True)(jJ:DT K mg "pieces_of" gf [.bool false])  (u6:mg "law"=some (.ref fa)):∃fd:FuncData,(∀(s:Shared) (u:Value),BindsTo s fd ⟨[u],[]⟩ [("_law_script",u)])/\∀base:Heap,jT P w K mg base oK 7 fa fd ["_law_script"] (yh K 1 (D8 63)):=by
 obtain⟨pq,oh,qf,pw,px,pz,mI,om,oi,mJ,pA,rA,rB,pk,oe,mH,p9,og,ph,ni,pj,mG,mF,qe,nh,iD,qd,mD,qc,mB,kX,mE,my,tQ,rq,oj,pv,pB,B2,_⟩:=AA;refine OG (T:=fun _=>zI) B2 u6 sJ (by walk_at "bn") (fun base f fD A outer s H E hr=>?_) (fun _=>Rg);have jP:nX P w K mg base 1 "Channel" 7 Aw:=Vy lC T;have iN:Known P w K mg base 1 "_law_stem" 2 As:=Wj T pq;have iy:Known P w K mg base 2 "_law_named" 1 AK:=WV T iN oh;have fq:Known P w K mg base 1 "_law_mix" 2 uc:=VO T qf;have iP:Known P w K mg base 2 "_law_pins" 4 Ar:=Wi T fq pw;have ic:Known P w K mg base 1 "_law_open" 2 yV:=Wh T px;have ie:Known P w K mg base 1 "_law_many" 5 yW:=Wg T pz;have gN:Known P w K mg base 1 "_law_stretch" 5 AG:=W7 T mI;have iB:Known P w K mg base 2 "_law_bends" 4 AJ:=WU T fq gN om;have iz:Known P w K mg base 2 "_law_keeps" 3 AI:=WT T fq oi;have gO:Known P w K mg base 3 "_law_channel" 2 AF:=W6 T iy fq iP ic ie iB iz mJ;have ig:Known P w K mg base 3 "_law_made" 1 yU:=Wf T jP pA;have fJ:Known P w K mg base 1 "nets_of" 1 uK:=Vx T rA;have g4:Known P w K mg base 1 "ends_of" 2 yM:=Vw T rB;have iM:Known P w K mg base 1 "column_of" 2 Ap:=We T pk;have fW:Known P w K mg base 2 "stretch_of" 2 yP:=WS T g4 iM oe;have gM:Known P w K mg base 1 "bend_columns" 2 AE:=zev T mH;have jc:Known P w K mg base 1 "width_of" 2 yY:=VN T p9;have gr:Known P w K mg base 3 "net_pieces" 3 xq:=WR T fW gM jc og;have gk:nW P w K mg base 4 "pieces_of" 2 yS false:=Wd jJ T fJ gr;have hZ:Known P w K mg base 1 "pieces_at" 3 yT:=Wb T ph;have g9:Known P w K mg base 2 "pin_triples" 2 AO:=WH T hZ ni;have iL:Known P w K mg base 1 "common_of" 2 Ao:=Wa T pj;have gL:Known P w K mg base 2 "beneath_keep" 2 AD:=W5 T iL mG;have gK:Known P w K mg base 3 "keep_triples" 1 AB:=W4 T gL mF;have gC:Known P w K mg base 4 "above_of" 2 yX:=VM T g9 gK qe;have g8:Known P w K mg base 2 "refuse_lone" 1 AN:=WG T fJ g4 nh;have fv:Known P w K mg base 2 "refuse_names_without_net" 1 AQ:=Xr T fJ iD;have je:Known P w K mg base 3 "can_bend" 3 Am:=VL T fW qd;have gI:Known P w K mg base 4 "refuse_bends" 1 Az:=W3 T je mD;have jd:Known P w K mg base 1 "can_keep" 2 Al:=VJ T qc;have gH:Known P w K mg base 2 "refuse_keeps" 1 Ay:=W2 T jd mB;have f9:Known P w K mg base 5 "checked_channel" 1 AR:=Xp T g8 fv gI gH kX;have gJ:Known P w K mg base 1 "levels_found" 2 xp:=Xg T mE;have gG:Known P w K mg base 1 "ring_without" 2 xo:=Xf T my;have kW:Known P w K mg base 2 "ranked" 2 sj:=U7 T gJ gG tQ;have jO:Known P w K mg base 6 "ring_of" 1 Av:=Vv T gk gC f9 kW rq;have iA:Known P w K mg base 1 "_law_falls" 2 AH:=WQ T oj;have iO:Known P w K mg base 1 "_law_ring" 2 An:=V9 T pv;have iQ:Known P w K mg base 1 "_law_kept" 2 Aq:=V8 T pB;exact O9 T gO ig gk gC jO iA iO iQ fD A outer s H E hr
end
end Wc
open PySem PySem.W PyProof.Rows
theorem PySem.W.Fast.te10638342431746272613:True:=trivial
noncomputable def PySem.W.Fast.tw6058544621671483340:PySem.Program:=PySem.Challenge.pw_wirechannel_k43_rings_told
theorem PySem.W.Fast.te6058544621671483340:PySem.Challenge.pw_wirechannel_k43_rings_told=PySem.W.Fast.tw6058544621671483340:=rfl
noncomputable def PySem.W.Fast.tw6649638775951112996:List PySem.Stmt:=(PySem.Challenge.pw_wirechannel_k43_rings_told.main.body.drop 0).take 16
theorem PySem.W.Fast.te6649638775951112996:(PySem.Challenge.pw_wirechannel_k43_rings_told.main.body.drop 0).take 16=PySem.W.Fast.tw6649638775951112996:=rfl
noncomputable def PySem.W.Fast.tw7213102911276862474:List PySem.Stmt:=(PySem.Challenge.pw_wirechannel_k43_rings_told.main.body.drop 16).take 4
theorem PySem.W.Fast.te7213102911276862474:(PySem.Challenge.pw_wirechannel_k43_rings_told.main.body.drop 16).take 4=PySem.W.Fast.tw7213102911276862474:=rfl
noncomputable def PySem.W.Fast.tw5164837563000309354:List PySem.Stmt:=(PySem.Challenge.pw_wirechannel_k43_rings_told.main.body.drop 20).take 1
theorem PySem.W.Fast.te5164837563000309354:(PySem.Challenge.pw_wirechannel_k43_rings_told.main.body.drop 20).take 1=PySem.W.Fast.tw5164837563000309354:=rfl
noncomputable def PySem.W.Fast.tw17527462923766681022:List PySem.Stmt:=(PySem.Challenge.pw_wirechannel_k43_rings_told.main.body.drop 21).take 1
theorem PySem.W.Fast.te17527462923766681022:(PySem.Challenge.pw_wirechannel_k43_rings_told.main.body.drop 21).take 1=PySem.W.Fast.tw17527462923766681022:=rfl
noncomputable def PySem.W.Fast.tw3660432605283986968:List PySem.Stmt:=(PySem.Challenge.pw_wirechannel_k43_rings_told.main.body.drop 22).take 1
theorem PySem.W.Fast.te3660432605283986968:(PySem.Challenge.pw_wirechannel_k43_rings_told.main.body.drop 22).take 1=PySem.W.Fast.tw3660432605283986968:=rfl
noncomputable def PySem.W.Fast.tw12128008736964004154:List PySem.Stmt:=(PySem.Challenge.pw_wirechannel_k43_rings_told.main.body.drop 23).take 1
theorem PySem.W.Fast.te12128008736964004154:(PySem.Challenge.pw_wirechannel_k43_rings_told.main.body.drop 23).take 1=PySem.W.Fast.tw12128008736964004154:=rfl
noncomputable def PySem.W.Fast.tw2355682135875723855:List PySem.Stmt:=(PySem.Challenge.pw_wirechannel_k43_rings_told.main.body.drop 24).take 7
theorem PySem.W.Fast.te2355682135875723855:(PySem.Challenge.pw_wirechannel_k43_rings_told.main.body.drop 24).take 7=PySem.W.Fast.tw2355682135875723855:=rfl
noncomputable def PySem.W.Fast.tw3852081725756091888:List PySem.Stmt:=(PySem.Challenge.pw_wirechannel_k43_rings_told.main.body.drop 31).take 14
theorem PySem.W.Fast.te3852081725756091888:(PySem.Challenge.pw_wirechannel_k43_rings_told.main.body.drop 31).take 14=PySem.W.Fast.tw3852081725756091888:=rfl
noncomputable def PySem.W.Fast.tw445297155109025420:List PySem.Stmt:=(PySem.Challenge.pw_wirechannel_k43_rings_told.main.body.drop 45).take 11
theorem PySem.W.Fast.te445297155109025420:(PySem.Challenge.pw_wirechannel_k43_rings_told.main.body.drop 45).take 11=PySem.W.Fast.tw445297155109025420:=rfl
inductive PySem.W.Fast|tw16397468275101641343|tw1458397826014108477|tw9082722667474777905|tw14288310248104877224|tw12298109217079293652|tw1500793811643054632|tw10252453154898253054|tw5448849834387764039|tw10089188092125558672|tw5750648173744169737|tw2831717066235952230|tw12555934063654841941|tw7692394337332964550|tw15090197503274324656|tw8031137601106588448|tw4160360853383286802|tw9523020390909001781|tw6364652341354092012|tw10448202835962277161|tw493231033614405373|tw14849722697611187253|tw7659287584481439210|tw9522231778119401345|tw11082153993059609597|tw17824689490877955723|tw9772461329302436231|tw7022005800207012964|tw14983601214064235222|tw4382268807065928676|tw17232393924062966940|tw1021741729619780844|tw328993040219656958|tw3494064184927431131|tw10007960337057762688|tw5288233549391275138|tw18110029617848659376|tw2115078129115693387|tw10620456822210957391|tw7758378847739564211|tw4962430871221023551|tw13861487212022265950|tw7595434493394130238|tw12287046240452273736|tw5983415398783477993|tw15689187830407098231|tw2546605666605079358|tw14399390300406464825|tw15493561561036317608|tw16823650680539716997|tw1772360456694704453|tw1500511318734479485|tw18279653827810761552|tw5051987431995506069|tw13062648648430374708|tw4452489698209051326|tw1619029387786049062|tw383974434280887894|tw5245400374038499823|tw9410138557925304625|tw16488973925134293115|tw6604966233002769877|tw14244297496186615400|tw4665055841849195803|tw15641375116731509895|tw929248452758076960|tw15100212007227794912|tw17072439261171038875|tw17302238428593173502|tw1321570614857111248|tw10481416308569441853|tw16034847510842636750|tw17243012839425422305|tw11783780738211825313|tw521659611352160918|tw8674116161373877944|tw10088655470999521635|tw14370475555206562344|tw7703025890986351260|tw12767855436370359694|tw401384049984334985|tw17382391874620248671|tw1707487259830644546|tw14885594512502659299|tw2423330381175435954|tw101889549066797500|tw13665418792979920811|tw10423851506134726600|tw16712849696161555165|tw706187707019018409|tw8000471640592690184|tw15018186734643161574|tw16355245173937424530|tw18154106948355554642|tw16363731535279072535|tw10184944917792711511|tw8208957270873416494|tw17982573294629422000|tw12741162565419452545|tw15629288004719888872|tw86729906891602264|tw10719763802692780452|tw7173553243718137116|tw2261001994180780144|tw5952114443977161805|tw7444720275185746098|tw6177855077941219651|tw2717973277581408163|tw13240776777723131417|tw11177534916723815448|tw15620599357430281937|tw8672413236642427451|tw1324168440573907779|tw12748065085634818634|tw1783757064926368386|tw17449806798457476258|tw12053619703425870763|tw6996096224624063460|tw13438319213796233865|tw2045103727065376281|tw14331682050404193236
noncomputable def PySem.W.Fast.tw4596454917472014368:PySem.Program:={ PySem.Challenge.pw_wirechannel_k43_rings_told with main:={ PySem.Challenge.pw_wirechannel_k43_rings_told.main with body:=[1,2,3,4,5,8,9,10,11,13,14,15,16,18,20,21,22,23,24,26,27,28,29,30,31,32,33,35,36,37,39,41,42,43,44,45,46,47,48,49,50,51,52,53,54,55].map fun i=>PySem.Challenge.pw_wirechannel_k43_rings_told.main.body.getD i (.Pass ⟨0,0,0,0⟩) } }
theorem PySem.W.Fast.te4596454917472014368:({ PySem.Challenge.pw_wirechannel_k43_rings_told with main:={ PySem.Challenge.pw_wirechannel_k43_rings_told.main with body:=[1,2,3,4,5,8,9,10,11,13,14,15,16,18,20,21,22,23,24,26,27,28,29,30,31,32,33,35,36,37,39,41,42,43,44,45,46,47,48,49,50,51,52,53,54,55].map fun i=>PySem.Challenge.pw_wirechannel_k43_rings_told.main.body.getD i (.Pass ⟨0,0,0,0⟩) } }:PySem.Program)=PySem.W.Fast.tw4596454917472014368:=rfl
local macro_rules | `(tactic| walk_at "A")=>`(tactic| ((try dsimp only[L2.yj]);refine' L2.BY KX G ?a ?l ?c ?k;(case a=>k_is);(case l=>k_is);(case c=>k_is);(case k=>k_is)))
theorem PySem.Challenge.cw_wirechannel_k43_rings_told_holds : PySem.Challenge.rw_wirechannel_k43_rings_told.Holds := by
 w_on;o_law;k_head;(case hw=>w_witness2)
 k_fill
 refine L2.qS (l:=PySem.Challenge.rw_wirechannel_k43_rings_told) (n:=63) (k:=7) (x:="_law_script") rfl (by decide) rfl ⟨rfl,by decide,by decide⟩ (fun w h Y=>PySem.W.kIn_of Y) ?F
 case F=>
  intro w mg fa h KX G u6;have lC:L2.DU (L2.yj KX) mg "Channel" "Channel.__init__" Wc.jL ["top","bottom","left","right","wide","bends","keeps"]:=by
   dsimp only[L2.yj];refine' L2.ye KX G ?aC ?a1 ?i1 ?l1 ?c1 ?k1 ?pg ?hd ?po ?sa ?mk ?kc ⟨?n0,?n1,?n2,?n3,?n4,?n5,?n6,trivial⟩
   (case aC=>k_is)
   (case a1=>k_is)
   (case i1=>k_is)
   (case l1=>k_is)
   (case c1=>k_is)
   (case k1=>k_is)
   (case pg=>k_is)
   (case hd=>k_is)
   (case po=>k_is)
   (case sa=>k_is)
   (case mk=>k_is)
   (case kc=>k_is)
   (case n0=>unfold L2.fV;k_is)
   (case n1=>unfold L2.fV;k_is)
   (case n2=>unfold L2.fV;k_is)
   (case n3=>unfold L2.fV;k_is)
   (case n4=>unfold L2.fV;k_is)
   (case n5=>unfold L2.fV;k_is)
   (case n6=>unfold L2.fV;k_is)
  have jJ:L2.DT (L2.yj KX) mg "pieces_of" Wc.gf [.bool false]:=by
   dsimp only[L2.yj];refine' L2.yd KX G ?a ?l ?c ?k ?t
   (case a=>k_is);(case l=>k_is);(case c=>k_is);(case k=>k_is);(case t=>k_is)
  have hU:∃t,mg "MOST_KEPT"=some (.int 3 t):=by
   refine' L2.ve KX G ?c ?e
   (case c=>k_is)
   (case e=>exact rfl)
  have T:Wc.Txt (L2.yj KX) mg:=by
   dsimp only[L2.yj];refine' ⟨bh KX G ?b_any,bh KX G ?b_dict,bh KX G ?b_enumerate,bh KX G ?b_int,bh KX G ?b_isinstance,bh KX G ?b_len,bh KX G ?b_list,bh KX G ?b_max,bh KX G ?b_min,bh KX G ?b_range,bh KX G ?b_set,bh KX G ?b_sorted,bh KX G ?b_sum,bh KX G ?b_tuple,bh KX G ?b_zip,hU⟩
   (case b_any=>k_is)
   (case b_dict=>k_is)
   (case b_enumerate=>k_is)
   (case b_int=>k_is)
   (case b_isinstance=>k_is)
   (case b_len=>k_is)
   (case b_list=>k_is)
   (case b_max=>k_is)
   (case b_min=>k_is)
   (case b_range=>k_is)
   (case b_set=>k_is)
   (case b_sorted=>k_is)
   (case b_sum=>k_is)
   (case b_tuple=>k_is)
   (case b_zip=>k_is)
  exact Wc.xH T lC ⟨by walk_at "A",by walk_at "A",by walk_at "A",by walk_at "A",by walk_at "A",by walk_at "A",by walk_at "A",by walk_at "A",by walk_at "A",by walk_at "A",by walk_at "A",by walk_at "A",by walk_at "A",by walk_at "A",by walk_at "A",by walk_at "A",by walk_at "A",by walk_at "A",by walk_at "A",by walk_at "A",by walk_at "A",by walk_at "A",by walk_at "A",by walk_at "A",by walk_at "A",by walk_at "A",by walk_at "A",by walk_at "A",by walk_at "A",by walk_at "A",by walk_at "A",by walk_at "A",by walk_at "A",by walk_at "A",by walk_at "A",by walk_at "A",by walk_at "A",by walk_at "A",by walk_at "A",trivial⟩ jJ u6
#print axioms PySem.Challenge.cw_wirechannel_k43_rings_told_holds
