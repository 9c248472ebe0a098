import PyProof.Rows.All
import Wide.All
import OpenK.AllK
import Wide.FinOn
import Lean
import PyProof.EqAt
import PyProof.EqKinds
import PyProof.TupleCall
import PyProof.NeKinds
import PyProof.SliceStr2
import PyProof.ConsumeWalk
import KE.KDictSum
import PyProof.DictWalks
import PyProof.AttrMissSeq
import KE.KDictOf
import PyProof.WalksS
import PyProof.Walks
import PyProof.DictList
import PyProof.MeetsDict
import PyProof.FactsAll.dict_3
import PyProof.MinMaxWalk
import PyProof.WalkInts
import PyProof.Rows.CallKwBuiltin
import PyProof.MaxThree
import PyProof.Rows.SortRunsK
import KE.KSortAsk
import PyProof.Rows.SortShellK
import KE.KSortTup
import PyProof.DictRoadsH
import PyProof.DictIter
import KE.KDictList
import PyProof.ZipIter
import PyProof.TupleIter
import PyProof.WalksMore
import PyProof.SumWalkG
import PyProof.DictValues
import PyProof.FactsAll.dict_4
import PySem.SetOps
import OpenK.KMore
import PyProof.ListRange
import PyProof.DictItems
import PyProof.CallStr
import KE.KIntText
import PyProof.StrCalls2
import PyProof.Rows.StrItems
import PyProof.FactsAll.NoneType
import KE.KTryOn
import PyProof.Draws
import PyProof.EnumMake
import PyProof.Rows.Range3
import KE.KRevIter
import PyProof.ListStr
import PyProof.NsDelKeeps
import PyProof.RulesAs
import KE.KIsAll
import PyProof.ExcArgsOwn
import KE.KFind
import PyProof.ExcInit
import KE.KTryMore
import PySem.Challenge.RW_wirechannel_k75_no_piles
abbrev J':=PySem.W.Frag
set_option hygiene false
set_option compiler.extract_closed false
noncomputable section
local macro_rules|`(tactic|omega)=>`(tactic|first|decide|lia)
local macro_rules|`(tactic|ext)=>`(tactic|omega)
local macro_rules|`(tactic|show $t)=>`(tactic|refine $t)
set_option Elab.async false
set_option linter.all false
set_option maxRecDepth 100000
def aa:=@PySem.wpAny_bind
def ae:=@List.length_map
def af:=@List.getElem?_eq_getElem
def ag:=@List.getD_eq_getElem?_getD
def ah:=@PySem.wpAny_pure
def aj:=@List.getElem?_eq_some_iff
def ao:=@List.map_cons
def aq:=@PySem.Heap.get?_push_of_some
def ar:=@List.getElem?_map
def au:=@List.mem_cons_of_mem
def av:=@List.length_cons
def aw:=@List.mem_of_getElem?
def ax:=@List.length_append
def ay:=@List.map_map
def az:=@List.mem_cons
def aA:=@List.mem_cons_self
def aB:=@List.size_toArray
def aC:=@Bool.false_ne_true
def aD:=@Nat.le_refl
def aE:=@List.mem_map
def aF:=@PySem.Heap.get?_push_size
def aG:=@decide_eq_false
def aH:=@List.map_append
def aI:=@PySem.Heap.lt_size
def aJ:=@List.mem_append
def aK:=@List.mem_singleton
def aM:=@List.all_eq_true
def aN:=@Option.some.injEq
def aO:=@Array.length_toList
def aP:=@List.length_take
def aQ:=@List.getElem?_of_mem
def aR:=@Nat.le_trans
def aS:=@Nat.lt_of_lt_of_le
def aT:=@Bool.and_eq_true
def aU:=@Bool.false_eq_true
def aV:=@List.getElem_mem
def aW:=@Nat.ne_of_lt
def aX:=@Option.some.inj
def aY:=@List.mem_append_right
def aZ:=@Option.map_eq_some_iff
def a9:=@Nat.zero_le
def ba:=@Int.toNat_natCast
def bc:=@decide_eq_true
def bf:=@PySem.PassesOwn.never
def bg:=@Option.getD_some
def bh:=@List.length_nil
def bj:=@List.nodup_cons
def bo:=@List.take_add_one
def bp:=@List.getElem?_cons_zero
def br:=@decide_eq_true_eq
def bu:=@List.nodup_iff_pairwise_ne
def bx:=@PySem.W.mg_none_of
def bz:=@PyProof.Rows.callWith_type1
def bA:=@List.mem_filter
def bB:=@PySem.wpAny_loadPart'
def bC:=@PySem.wpAny_holding
def bD:=@PySem.F.plainAttrs_str
def bE:=@List.mem_append_left
def bF:=@PySem.wpAny_mono
def bG:=@if_false
def bI:=@List.take_length
def bJ:=@Array.getElem?_eq_getElem
def bK:=@PySem.wpAny_truthy_bool
def bL:=@List.map_nil
def bM:=@PySem.Heap.get?_update_self
def bN:=@List.getElem?_cons_succ
def bO:=@Option.map_some
def bP:=@if_true
def bQ:=@PySem.wpAny_field
def bR:=@PySem.wpAny_newObj_type
def bS:=@List.forall_mem_cons
def bT:=@PySem.W.mg_of
def bU:=@List.length_zipIdx
def bV:=@List.not_mem_nil
def bW:=@PySem.boot_len
namespace L2
open PySem PySem.Spec PyProof.Rows
noncomputable abbrev Key:=Sum Int Str
noncomputable def ym:Key->Value->Bool
 | .inl k,v=>Value.isInt k v
 | .inr x,v=>Value.isStrOf x v
noncomputable def Px(w:World):Key->Int
 | .inl k=>hashInt k
 | .inr x=>hashStr w x
theorem uq:∀{k:Key}{v:Value},ym k v=true->(∃i t,k=Sum.inl i/\v=Value.int i t)\/(∃x t,k=Sum.inr x/\v=Value.str x t)
 | .inl i,v,h=>by
  obtain⟨t,e⟩:=Value.isInt_shape (k:=i) (v:=v) h;show .inl ⟨i,t,rfl,e⟩
 | .inr x,v,h=>by
  obtain⟨t,e⟩:=Value.isStrOf_shape (x:=x) (v:=v) h;show .inr ⟨x,t,rfl,e⟩
theorem V3(i:Int)(t:Tok):ym (.inl i) (.int i t)=true:=by simp[ym,Value.isInt]
theorem V2(x:Str)(t:Tok):ym (.inr x) (.str x t)=true:=by simp[ym,Value.isStrOf]
theorem RN(a b:Int):decide ((Sum.inl a:Key)=Sum.inl b)=(a==b):=by
 by_cases e:a=b
 .subst e;simp
 have h:¬(Sum.inl a:Key)=Sum.inl b:=λq=>e (Sum.inl.inj q)
 rw[aG h];show(beq_eq_false_iff_ne.mpr e).symm
theorem RM(a b:Str):decide ((Sum.inr a:Key)=Sum.inr b)=decide (a=b):=by
 by_cases e:a=b
 .subst e;simp
 have h:¬(Sum.inr a:Key)=Sum.inr b:=λq=>e (Sum.inr.inj q)
 rw[aG h,aG e]
theorem RL(a:Int)(b:Str):decide ((Sum.inl a:Key)=Sum.inr b)=false:=aG (λq=>nomatch q)
theorem RK(a:Str)(b:Int):decide ((Sum.inr a:Key)=Sum.inl b)=false:=aG (λq=>nomatch q)
noncomputable def nc(prog:Program)(w:World):PySem.KeyKind prog w Key where
 is:=ym
 hash:=Px w
 inj:=λv a b ha hb=>by
  rcases uq ha with⟨i,t,rfl,rfl⟩ | ⟨x,t,rfl,rfl⟩
  .rcases uq hb with⟨j,u,rfl,e⟩ | ⟨y,u,rfl,e⟩
   .injection e with c _;rw[c]
   show nomatch e
  rcases uq hb with⟨j,u,rfl,e⟩ | ⟨y,u,rfl,e⟩
  .exact nomatch e
  injection e with c _;rw[c]
 byValue:=λk v h=>by
  rcases uq h with⟨i,t,rfl,rfl⟩ | ⟨x,t,rfl,rfl⟩<;>rfl
 pyHash:=λd h=>by
  rcases uq d with⟨i,t,rfl,rfl⟩ | ⟨x,t,rfl,rfl⟩
  .exact wpAny_pyHash_int h
  show wpAny_pyHash_str h
 eqBool:=λf d h=>by
  rcases uq f with⟨i,t,rfl,rfl⟩ | ⟨x,t,rfl,rfl⟩
  .rcases uq d with⟨j,u,rfl,rfl⟩ | ⟨y,u,rfl,rfl⟩
   .rw[RN] at h;show wpAny_eqBool_int h
   rw[RL] at h;show SeqAt.EqAt.int_str i t y u _ _ _ _ h
  rcases uq d with⟨j,u,rfl,rfl⟩ | ⟨y,u,rfl,rfl⟩
  .rw[RK] at h;show SeqAt.EqAt.str_int x t j u _ _ _ _ h
  rw[RM] at h;show wpAny_eqBool_str h
 «strs»:=λk x t v h=>by
  rcases uq h with⟨i,u,rfl,e⟩ | ⟨y,u,rfl,e⟩
  .exact nomatch e
  injection e with c _
  subst c;cases v<;>rfl
theorem V9(prog:Program)(w:World)(i:Int)(t:Tok):(nc prog w).is (.inl i) (.int i t)=true:=V3 i t
theorem V8(prog:Program)(w:World)(x:Str)(t:Tok):(nc prog w).is (.inr x) (.str x t)=true:=V2 x t
inductive V where
 | non | bl (b:Bool) | int (i:Int) | str (x:Str) | Jj (b:Array UInt8) | Ja (b:UInt64) | ref (a:Addr) | ty (n:String)
 deriving DecidableEq
def RelV:V->Value->Prop
 | .non,u=>u=Value.none
 | .bl b,u=>u=Value.bool b
 | .int i,u=>∃t,u=Value.int i t
 | .str x,u=>∃t,u=Value.str x t
 | .Jj b,u=>∃t,u=Value.bytes b t
 | .Ja b,u=>∃t,u=Value.float b t
 | .ref a,u=>u=Value.ref a
 | .ty n,u=>u=Value.type n
abbrev Vals:List V->List Value->Prop:=Paired RelV
theorem Vals.length{xs:List V}{a:List Value}(r:Vals xs a):xs.length=a.length:=Paired.length r
theorem Vals.get:∀{xs:List V}{us:List Value}{i:Nat}{x:V},Vals xs us->xs[i]?=some x->∃u,us[i]?=some u/\RelV x u
 | _,_,_,_,.nil,e=>by simp at e
 | _,_,0,_,.cons r _,e=>by simp at e;subst e;show⟨_,rfl,r⟩
 | _,_,i+1,x,.cons _ t,e=>by
  obtain⟨u,b,a⟩:=Vals.get (i:=i) (x:=x) t (by simpa using e);show⟨u,by simpa using b,a⟩
theorem Vals.set{x:V}{u:Value}(r:RelV x u):∀{xs:List V}{us:List Value}(i:Nat),Vals xs us->Vals (xs.set i x) (us.set i u)
 | _,_,_,.nil=>.nil
 | _,_,0,.cons _ t=>.cons r t
 | _,_,i+1,.cons q t=>.cons q (Vals.set r i t)
theorem Vals.append{xs ys:List V}{a ws:List Value}(h:Vals xs a)(s:Vals ys ws):Vals (xs++ys) (a++ws):=by
 induction h with
 | nil=>show s
 | cons r t b=>show .cons r b
theorem Vals.take:∀{xs:List V}{us:List Value}(n:Nat),Vals xs us->Vals (xs.take n) (us.take n)
 | _,_,0,_=>.nil
 | _,_,_+1,.nil=>.nil
 | _,_,n+1,.cons r t=>.cons r (Vals.take n t)
theorem Vals.drop:∀{xs:List V}{us:List Value}(n:Nat),Vals xs us->Vals (xs.drop n) (us.drop n)
 | _,_,0,r=>r
 | _,_,_+1,.nil=>.nil
 | _,_,n+1,.cons _ t=>Vals.drop n t
def lS:Option V->Option Value->Prop
 | some v,some u=>RelV v u
 | none,none=>True
 | _,_=>False
def KV{κ:Type}:List (κ×V)->List (κ×Value)->Prop:=Paired λ(p:κ×V)(q:κ×Value)=>p.1=q.1/\RelV p.2 q.2
noncomputable def kV:Key->V
 | .inl i=>.int i
 | .inr x=>.str x
inductive HO where
 /-- a list -/
 | lst (xs:List V)
 /-- a tuple (never changes) -/
 | tup (xs:List V)
 /-- a dict Aq keys are ints and texts;one Aq keys are tuples of ints and texts (rY empty one is both) -/
 | dK (kvs:List (Key×V)) (ep:Nat) | dT (kvs:List (List Key×V)) (bs:List Addr×Nat)
 /-- a set of ints: its members,its size -/
 | set (S:Int->Bool) (n:Nat)
 /-- an instance of rY class at C,its dict at dx,its attributes -/
 | ins (C dx:Addr) (fs:List (Str×V))
 /-- rY dict of rY instance at x -/
 | own (x:Addr)
 /-- rY dict of an exception -/
 | xd (fs:List (Str×V))
 /-- a bound method,f of x -/
 | met (f x:Addr)
 /-- a range object lo,lo+1,.. below hi -/
 | DK (lo hi:Int)
 /-- a Av Yl is known to rY object (rY sd;a dict while a loop walks it): read,never written while it is so -/
 | lF (o:Obj) (u:HO)
 /-- a code AK table -/
 | vw (ps:Array Value)
 /-- any other Av,by wY is true of its one object (a def of NJ own: SetO a S n:=HO.ext λh=>..) -/
 | ext (φ:Heap->Prop)
noncomputable abbrev Hp:=Addr->Option HO
noncomputable def upd(H:Hp)(a:Addr)(o:HO):Hp:=λb=>if b=a then some o else H b
theorem gX{H:Hp}{a:Addr}{o:HO}:upd H a o a=some o:=by unfold upd;rw[if_pos rfl]
theorem dy{H:Hp}{a b:Addr}{o:HO}(h:b≠a):upd H a o b=H b:=by unfold upd;rw[if_neg h]
theorem Kd{H:Hp}{a b:Addr}{o u:HO}(h:H a=some o)(h':H b=some u)(d:o≠u):a≠b:=by
 intro e;subst e;rw[h] at h';show d (aX h')
theorem lC{H:Hp}{a b:Addr}{o:HO}(h:H a=some o)(h':H b=none):a≠b:=by
 intro e;subst e;rw[h] at h';cases h'
section
variable(P:Program)(w:World)
def df(H:Hp)(h:Heap)(a:Addr):HO->Prop
 | .lst xs=>xs.length<=sizeLine/\∃(its:List Value)(n:Nat),Vals xs its/\h.get? a=some { cls:=.type "list",data:=.seq its.toArray n }
 | .tup xs=>xs.length<=sizeLine/\∃its:List Value,Vals xs its/\IsTup h a its.toArray
 | .dK kvs c=>kvs.length<=sizeLine/\(a==sysModules)=false/\∃g,KV kvs g/\h.DictAt (nc P w) a g c
 | .dT kvs bs=>kvs.length<=sizeLine/\(a==sysModules)=false/\∃xs:List (List Key×Addr×Value),xs.map (λx=>x.2.1)=bs.1/\
   Paired (λ(p:List Key×V)(q:List Key×Addr×Value)=>p.1=q.1/\H q.2.1=some (.tup (p.1.map kV))/\RelV p.2 q.2.2) kvs xs/\
   ∃o k c,h.get? a=some o/\o.ExactDict/\o.data=.dict k c/\k.toList=xs.map (entryOfKey (tupleKind (nc P w)))/\(xs.map (·.1)).Nodup/\c=bs.2
 | .set S n=>h.SetOf (intKind P w) a S n
 | .ins C d fs=>H d=some (.own a)/\fs.length<=1000/\d≠a/\h.get? a=some (PySem.W.instObj C d)/\
   ∃b,h.Ns1 d b/\(∀f,lS (fs.lookup f) (b f))/\PySem.Within b (fs.map (·.1))
 | .own _=>∃o,h.get? a=some o
 | .xd fs=>∃b,h.Ns1 a b/\∀f,lS (fs.lookup f) (b f)
 | .DK lo l=>∃t u v,h.get? a=some { cls:=.type "range",data:=.fields #[.int lo t,.int l u,.int 1 v] }
 | .lF o u=>h.get? a=some o/\df H h a u
 | .vw ps=>h.get? a=some { cls:=.none,data:=.fields ps }
 | .met f x=>h.get? a=some (PySem.W.methodObj (.ref f) (.ref x))
 | .ext e=>e h/\(∃o,h.get? a=some o)/\∀j i:Heap,e j->(∀o,j.get? a=some o->i.get? a=some o)->e i
def i6(H:Hp)(h:Heap):Prop:=∀a o,H a=some o->df P w H h a o
end
section
variable{P:Program}{w:World}{H H':Hp}{h h':Heap}{a:Addr}{o:HO}
theorem df.lt(x:df P w H h a o):a<h.objs.size:=by
 cases o with
 | lst xs=>obtain⟨_,_,_,_,e⟩:=x;show aI e
 | tup xs=>obtain⟨_,_,_,p⟩:=x;show p.lt
 | dK kvs d=>obtain⟨_,_,_,_,o,_,e,_⟩:=x;show aI e
 | dT kvs bs=>obtain⟨_,_,_,_,_,o,_,_,e,_⟩:=x;show aI e
 | set S n=>obtain⟨o,_,_,_,e,_⟩:=x;show aI e
 | ins C g fs=>obtain⟨_,_,_,e,_⟩:=x;show aI e
 | own y=>obtain⟨_,e⟩:=x;show aI e
 | xd fs=>obtain⟨_,⟨_,_,_,e,_⟩,_⟩:=x;show aI e
 | DK lo c=>obtain⟨_,_,_,e⟩:=x;show aI e
 | lF ob u=>obtain⟨e,_⟩:=x;show aI e
 | vw ps=>show aI (show h.get? a=some _ from x)
 | met f y=>show aI (show h.get? a=some _ from x)
 | ext b=>obtain⟨_,⟨_,e⟩,_⟩:=x;show aI e
theorem Paired.AR{α β:Type}{F G:α->β->Prop}{l₁:List α}{l₂:List β}(h:Paired F l₁ l₂)(f:∀a b,F a b->G a b):Paired G l₁ l₂:=by
 induction h with
 | nil=>show .nil
 | cons r t c=>show .cons (f _ _ r) c
theorem df.kW(x:df P w H h a o)(k:∀b u,(b=a\/H b=some (.own a))->h.get? b=some u->h'.get? b=some u)
  (A:∀b,H b=some (.own a)->H' b=some (.own a)) (ht:∀b xs,H b=some (.tup xs)->H' b=some (.tup xs)):df P w H' h' a o:=by
 induction o with
 | lst xs=>obtain⟨z,its,n,r,e⟩:=x;show⟨z,its,n,r,k _ _ (.inl rfl) e⟩
 | tup xs=>obtain⟨z,its,r,ob,e,c⟩:=x;show⟨z,its,r,ob,k _ _ (.inl rfl) e,c⟩
 | dK kvs i=>obtain⟨z,y,m,r,ob,g,e,c⟩:=x;show⟨z,y,m,r,ob,g,k _ _ (.inl rfl) e,c⟩
 | dT kvs bs=>
  obtain⟨z,y,xs,D,r,ob,g,i,e,c⟩:=x;show⟨z,y,xs,D,Paired.AR r λp q z=>⟨z.1,ht _ _ z.2.1,z.2.2⟩,ob,g,i,k _ _ (.inl rfl) e,c⟩
 | set S n=>obtain⟨ob,g,i,t,e,c⟩:=x;show⟨ob,g,i,t,k _ _ (.inl rfl) e,c⟩
 | ins C G fs=>
  obtain⟨d,z,ne,e,l,⟨j,g,i,B,c⟩,r⟩:=x;show⟨A _ d,z,ne,k _ _ (.inl rfl) e,l,⟨j,g,i,k _ _ (.inr d) B,c⟩,r⟩
 | own y=>obtain⟨ob,e⟩:=x;show⟨ob,k _ _ (.inl rfl) e⟩
 | xd fs=>obtain⟨l,⟨j,g,i,e,c⟩,r⟩:=x;show⟨l,⟨j,g,i,k _ _ (.inl rfl) e,c⟩,r⟩
 | DK lo F=>obtain⟨t,u,v,e⟩:=x;show⟨t,u,v,k _ _ (.inl rfl) e⟩
 | lF ob u s=>obtain⟨e,q⟩:=x;show⟨k _ _ (.inl rfl) e,s q⟩
 | vw ps=>
  have e:h.get? a=some { cls:=.none,data:=.fields ps }:=x;show h'.get? a=some { cls:=.none,data:=.fields ps };show k a _ (.inl rfl) e
 | met f y=>
  have e:h.get? a=some (PySem.W.methodObj (.ref f) (.ref y)):=x;show h'.get? a=some (PySem.W.methodObj (.ref f) (.ref y));show k a _ (.inl rfl) e
 | ext E=>obtain⟨p,⟨o,e⟩,st⟩:=x;show⟨st _ _ p λo q=>k _ _ (.inl rfl) q,⟨o,k _ _ (.inl rfl) e⟩,st⟩
theorem i6.lt(x:i6 P w H h)(e:H a=some o):a<h.objs.size:=(x a o e).lt
theorem i6.fresh(x:i6 P w H h)(e:h.objs.size<=a):H a=none:=by
 cases q:H a with
 | none=>rfl
 | some u=>show absurd (aS (x.lt q) e) (Nat.lt_irrefl _)
theorem i6.kept(x:i6 P w H h)(k:∀b u,h.get? b=some u->h'.get? b=some u):i6 P w H h':=λa o e=>
 (x a o e).kW (λb u _ q=>k b u q) (λ_ q=>q) λ_ _ q=>q
theorem i6.laid(x:i6 P w H h)(k:∀b u,h.get? b=some u->h'.get? b=some u)(d:h.objs.size<=a)(new:df P w (upd H a o) h' a o):i6 P w (upd H a o) h':=λb u e=>by
 have hn:=x.fresh d;by_cases hb:b=a
 .subst hb;rw[gX] at e;cases e;show new
 rw[dy hb] at e;show(x b u e).kW (λc v _ q=>k c v q) (λc q=>by rw[dy (lC q hn)];show q) λc xs q=>by rw[dy (lC q hn)];show q
end
def Rd(H:Hp)(a:Addr)(u:HO):Prop:=H a=some u\/∃o,H a=some (.lF o u)
theorem Rd.ok{P:Program}{w:World}{H:Hp}{h:Heap}{a:Addr}{u:HO}(r:Rd H a u)(x:i6 P w H h):df P w H h a u:=by
 rcases r with r | ⟨o,r⟩
 .exact x a u r
 obtain⟨_,q⟩:=x a _ r;show q
def BZ:Option HO->Prop
 | some (.lst _)=>True
 | some (.dK _ _)=>True
 | some (.dT _ _)=>True
 | some (.set _ _)=>True
 | some (.ins _ _ _)=>True
 | some (.ext _)=>True
 | _=>False
section
variable{P:Program}{w:World}{H:Hp}{h h':Heap}{x e:Addr}{o':HO}
theorem i6.write(ok:i6 P w H h)(mu:BZ (H x))(he:e=x\/H e=some (.own x))(k:∀b u,b≠e->h.get? b=some u->h'.get? b=some u)(i:∃u,h'.get? e=some u)
  (new:df P w (upd H x o') h' x o'):i6 P w (upd H x o') h':=λb u q=>by
 have g:∀c y,H c=some (.own y)->c≠x:=λc y r z=>by subst z;rw[r] at mu;show mu
 have l:∀c xs,H c=some (.tup xs)->c≠x:=λc xs r z=>by subst z;rw[r] at mu;show mu
 by_cases hb:b=x
 .subst hb;rw[gX] at q;cases q;show new
 rw[dy hb] at q;by_cases a:b=e
 .have f:H b=some (.own x):=by
   rcases he with z | z
   .exact absurd (a.trans z) hb
   rw[a];show z
  rw[q] at f;cases f;obtain⟨v,j⟩:=i;show⟨v,by rw[a];show j⟩
 show(ok b u q).kW (λc v d r=>k c v ?_ r) (λc r=>by rw[dy (g c b r)];show r) λc xs r=>by rw[dy (l c xs r)];show r
 rcases d with rfl | d
 .exact a
 rintro rfl;rcases he with z | z
 .exact g c b d z
 rw[d] at z;cases z;show hb rfl
end
structure Un(fs ex:List Addr)(H H':Hp)(h h':Heap):Prop where
 keep:∀b o,h.get? b=some o->H b=none->b∉fs->b∉ex->h'.get? b=some o
 slot:∀b o,h.get? b=some o->H b=none->b∈fs->b∉ex->∃sl,h'.get? b=some { o with slots:=sl }
 free:∀b o,h.get? b=some o->H b=none->b∉ex->H' b=none
 there:∀b o,h.get? b=some o->b∉ex->∃o',h'.get? b=some o'
 kA:∀b xs,H b=some (.tup xs)->H' b=some (.tup xs)
 jT:∀b o u,H b=some (.lF o u)->H' b=some (.lF o u)
 kC:∀b ps,H b=some (.vw ps)->∃more,H' b=some (.vw (ps++more))
section
variable{fs fs' ex ex':List Addr}{H H1 H2:Hp}{h h1 h2 h':Heap}{a x e:Addr}{o:HO}
theorem Un.any(u:Un fs ex H H1 h h1){b:Addr}{ob:Obj}(q:h.get? b=some ob)(n:H b=none)(a:b∉ex):∃sl,h1.get? b=some { ob with slots:=sl }:=by
 by_cases hb:b∈fs
 .exact u.slot b ob q n hb a
 show⟨ob.slots,u.keep b ob q n hb a⟩
theorem Un.kept(k:∀b u,h.get? b=some u->h'.get? b=some u):Un fs ex H H h h':=
 ⟨λb ob q _ _ _=>k b ob q,λb ob q _ _ _=>⟨ob.slots,k b ob q⟩,λ_ _ _ n _=>n,λb ob q _=>⟨ob,k b ob q⟩,λ_ _ q=>q,λ_ _ _ q=>q,λ_ ps q=>⟨#[],by rw[q];simp⟩⟩
theorem Un.refl:Un fs ex H H h h:=Un.kept λ_ _ q=>q
theorem Un.laid(k:∀b u,h.get? b=some u->h'.get? b=some u)(c:h.objs.size<=a)(hn:H a=none):Un fs ex H (upd H a o) h h' where
 keep:=λb u q _ _ _=>k b u q
 slot:=λb u q _ _ _=>⟨u.slots,k b u q⟩
 free:=λb u q n _=>by rw[dy (aW (aS (aI q) c))];show n
 there:=λb u q _=>⟨u,k b u q⟩
 kA:=λb xs q=>by rw[dy (lC q hn)];show q
 jT:=λb u xs q=>by rw[dy (lC q hn)];show q
 kC:=λb ps q=>⟨#[],by rw[dy (lC q hn),q];simp⟩
theorem Un.write(mu:BZ (H x))(he:e=x\/H e=some (.own x))(k:∀b u,b≠e->h.get? b=some u->h'.get? b=some u)(d:∃u,h'.get? e=some u):Un fs ex H (upd H x o) h h':=by
 have c:∀b,H b=none->b≠x:=λb n z=>by subst z;rw[n] at mu;show mu
 have hb:∀b,H b=none->b≠e:=λb n z=>by
  subst z;rcases he with r | r
  .exact c b n r
  rw[n] at r;cases r
 have hm:∀b u,H b=some u->¬BZ (some u)->b≠x:=λb u q nm z=>by subst z;rw[q] at mu;show nm mu
 show⟨λb u q n _ _=>k b u (hb b n) q,λb u q n _ _=>⟨u.slots,k b u (hb b n) q⟩,λb u q n _=>by rw[dy (c b n)];show n,λb u q _=>?_,
  λb xs q=>by rw[dy (hm b _ q λz=>z)];show q,λb u xs q=>by rw[dy (hm b _ q λz=>z)];show q,λb ps q=>⟨#[],by rw[dy (hm b _ q λz=>z),q];simp⟩⟩
 by_cases a:b=e
 .subst a;show d
 show⟨u,k b u a q⟩
end
noncomputable def DC(h:Heap)(H:Hp):List Addr:=(List.range h.objs.size).filter λa=>(H a).isSome
noncomputable def ud(h:Heap)(H:Hp):Heap:=PySem.W.hideAll h (DC h H)
theorem V1(h:Heap)(H:Hp):(ud h H).objs.size=h.objs.size:=PySem.W.hideAll_size _ _
theorem TZ{h:Heap}{H:Hp}{b:Addr}{o:Obj}(e:h.get? b=some o)(n:H b=none):(ud h H).get? b=some o:=
 PySem.W.hideAll_get _ e λhm=>by
  have q:(H b).isSome=true:=(bA.mp hm).2;rw[n] at q;simp at q
theorem Sg{h:Heap}{H:Hp}{b:Addr}{o:Obj}(e:(ud h H).get? b=some o):h.get? b=some o/\H b=none:=by
 have a:h.get? b=some o:=PySem.W.of_hideAll (DC h H) e;show⟨a,?_⟩;cases q:H b with
 | none=>rfl
 | some x=>
  have hm:b∈DC h H:=bA.mpr ⟨List.mem_range.mpr (aI a),by simp[q]⟩;have z:(ud h H).get? b=none:=PySem.W.hideAll_none (DC h H) hm;rw[z] at e;cases e
noncomputable def Sf(g h:Heap)(L:Addr):List (Addr×Obj):=(List.range h.objs.size).filterMap λa=>if a=L\/(g.get? a).isSome=true then none else(h.get? a).map λo=>(a,o)
noncomputable def lq(g h:Heap)(L d:Addr):List (Addr×Obj):=(Sf g h L).filter λp=>decide (p.1≠d)
structure Mod(K:J')(mg:Str->Option Value)(base:Heap):Prop where
 vF:K.In base
 glob:base.Ns mainGlobals mg
 blt:∃mb,base.Ns builtinsNs mb/\∀x:Str,x≠"__name__"->mb x=bootBuiltins x
 nolimit:base.NoLimit
structure Cx where
 prog:Program
 w:World
 K:J'
 mg:Str->Option Value
 base:Heap
 A:Around
 N:List Str
 dA:Shared
 qQ:Hp
 env:Env
 outer:List Env
 stack:List Env
 ex:List Addr
 fn:Str->Bool
 calm:Bool
 pn:List (Addr×Obj)
 xe:Value->Shared->Prop
noncomputable def iA(l:List Env):List Addr:=l.filterMap (·.frame)
noncomputable abbrev Cx.fs(X:Cx):List Addr:=iA X.outer
def nR(a:Scope)(x:Str):Prop:=a.names.lookup x=some .local\/a.names.lookup x=some .cell\/a.names.lookup x=some .free
def Loc(a:Scope)(x:Str):Prop:=a.names.lookup x=some .local\/a.names.lookup x=some .cell
def Look(env:Env)(h:Heap)(m:Str->Option Value)(x:Str)(u:Value):Prop:=
 (env.kindOf x=some .local/\m x=some u)\/((env.kindOf x=some .cell\/env.kindOf x=some .free)/\∃c,env.cells.lookup x=some c/\h.IsCell c (some u))
structure Cx.Ok(X:Cx):Prop where
 mod:Mod X.K X.mg X.base
 kind:X.env.scope.kind=.function
 glob:X.env.globals=mainGlobals
 blt:X.env.builtins=builtinsNs
 above:X.dA.heap.objs.size<=X.env.locals
 inj:∀x y c,X.env.cells.lookup x=some c->X.env.cells.lookup y=some c->x=y
 has:∀x,(X.env.kindOf x=some .cell\/X.env.kindOf x=some .free)->∃c,X.env.cells.lookup x=some c
 cab:∀x c,X.fn x=true->X.env.cells.lookup x=some c->X.dA.heap.objs.size<=c
 hd:X.calm=true->X.A.handled=none
 frames:X.A.frames=some X.stack
 AE:X.stack=X.outer\/(X.stack=X.env::X.outer/\X.env.frame=some X.env.locals)
 exf:∀b∈X.ex,b≠X.env.locals/\∀x c,X.env.cells.lookup x=some c->c≠b
 bs:∀b o,X.base.get? b=some o->X.dA.heap.get? b=some o/\X.qQ b=none
 vY:X.base.objs.size<=X.dA.heap.objs.size
 qF:∀b o,X.base.get? b=some o->b∉X.ex
 qN:∀b∈X.ex,b∉X.fs
 ia:X.dA.heap.FunFrames X.base X.outer
 tX:∀b∈X.fs,X.qQ b=none
structure Inv(X:Cx)(K':List (Addr×Obj))(σ:List (Option V))(H:Hp)(s:Shared):Prop where
 ok:X.Ok
 os:s.os=X.dA.os
 bare:AllBare s.gens
 base:Un X.fs X.ex X.qQ H X.dA.heap s.heap
 loc:∃m,s.heap.Ns X.env.locals m/\∀(i:Nat)(x:Str)(v:V),X.N[i]?=some x->σ[i]?=some (some v)->nR X.env.scope x->∃u,RelV v u/\Look X.env s.heap m x u
 cell:∀x c,X.env.cells.lookup x=some c->∃v,s.heap.IsCell c v
 free:H X.env.locals=none
 gk:∀x c,X.env.cells.lookup x=some c->H c=none
 pin:∀p∈X.pn++K',s.heap.get? p.1=some p.2/\H p.1=none/\p.1≠X.env.locals/\p.1∉X.fs/\∀v,p.2.data≠.cell v
 cN:i6 X.prog X.w H s.heap
 len:σ.length=X.N.length
section
variable{X:Cx}{K':List (Addr×Obj)}{σ:List (Option V)}{H H':Hp}{s:Shared}{h':Heap}
theorem Cx.Ok.HF(ok:X.Ok){b:Addr}{o:Obj}(e:X.base.get? b=some o):b∉X.fs:=λhb=>by
 have:=(ok.ia.mem hb).1;rw[e] at this;cases this
theorem Inv.bs(I:Inv X K' σ H s):∀b o,X.base.get? b=some o->s.heap.get? b=some o/\H b=none:=λb o e=>
 ⟨I.base.keep b o (I.ok.bs b o e).1 (I.ok.bs b o e).2 (I.ok.HF e) (I.ok.qF b o e),I.base.free b o (I.ok.bs b o e).1 (I.ok.bs b o e).2 (I.ok.qF b o e)⟩
theorem Inv.bk(I:Inv X K' σ H s):∀b o,X.base.get? b=some o->s.heap.get? b=some o:=λb o e=>(I.bs b o e).1
theorem Inv.mod(I:Inv X K' σ H s):Mod X.K X.mg X.base:=I.ok.mod
theorem Inv.nB(I:Inv X K' σ H s):X.K.In s.heap:=I.ok.mod.vF.keeps I.bk
theorem Inv.lt(I:Inv X K' σ H s):X.env.locals<s.heap.objs.size:=let⟨_,hn,_⟩:=I.loc;hn.lt
theorem Inv.sz(I:Inv X K' σ H s):X.dA.heap.objs.size<=s.heap.objs.size:=aR I.ok.above (Nat.le_of_lt I.lt)
theorem Inv.HE(I:Inv X K' σ H s){a:Addr}(h:s.heap.objs.size<=a):a∉X.fs:=λhb=>by
 obtain⟨_,o,b,_⟩:=I.ok.ia.mem hb;show absurd (aS (aI b) (aR I.sz h)) (Nat.lt_irrefl _)
theorem Inv.sT(I:Inv X K' σ H s):∀x c,X.env.cells.lookup x=some c->c≠X.env.locals:=λx c e z=>by
 obtain⟨v,o,a,hd⟩:=I.cell x c e;obtain⟨m,⟨o',f,g,d,b,_⟩,_⟩:=I.loc;rw[z,d] at a;cases a;rw[b] at hd;cases hd
theorem Inv.ia(I:Inv X K' σ H s):s.heap.FunFrames X.base X.outer:=by
 have all:∀(l:List Env),(∀b∈iA l,b∈X.fs)->X.dA.heap.FunFrames X.base l->s.heap.FunFrames X.base l:=by
  intro l;induction l with
  | nil=>intro _ _;trivial
  | cons env r d=>
   intro c h;obtain⟨i,⟨L,o,hf,hn,g,hd⟩,f⟩:=h;have a:L∈X.fs:=c L (by unfold iA;rw[List.filterMap_cons,hf];show aA);obtain⟨sl,e⟩:=I.base.slot L o g (I.ok.tX L a) a λz=>I.ok.qN L z a
   show⟨i,⟨L,_,hf,hn,e,hd⟩,d (λb hb=>c b (by unfold iA;rw[List.filterMap_cons,hf];show au _ hb)) f⟩
 show all X.outer (λ_ hb=>hb) I.ok.ia
theorem Inv.stack(I:Inv X K' σ H s):s.heap.FunFrames X.base X.stack:=by
 rcases I.ok.AE with e | ⟨e,hf⟩
 .rw[e];show I.ia
 rw[e];obtain⟨m,hn,_⟩:=I.loc;show .cons (by rw[I.ok.kind];decide) hf hn ?_ I.ia;show Heap.get?_none_of_le (aR I.ok.vY I.ok.above)
theorem Inv.oO(I:Inv X K' σ H s):∀b∈iA X.stack,b∈X.env.locals::X.fs:=λb hb=>by
 rcases I.ok.AE with e | ⟨e,hf⟩
 .rw[e] at hb;show au _ hb
 rw[e] at hb;unfold iA at hb;rw[List.filterMap_cons,hf] at hb;show hb
theorem Inv.pM(I:Inv X K' σ H s):∀b∈iA X.stack,H b=none:=λb hb=>by
 rcases az.mp (I.oO b hb) with e | hb
 .rw[e];show I.free
 obtain⟨_,o,a,_⟩:=I.ok.ia.mem hb;show I.base.free b o a (I.ok.tX b hb) λz=>I.ok.qN b z hb
theorem Inv.step{g':Array GenState}{t':Nat}{d':Drawn}{ch:List Addr}(I:Inv X K' σ H s)
  (h:∀b∈ch,(b∈X.ex\/X.dA.heap.objs.size<=b)/\b≠X.env.locals/\(∀x c,X.env.cells.lookup x=some c->c≠b)/\∀p∈X.pn++K',p.1≠b)
  (keep:∀b o,b≠X.env.locals->b∉X.fs->b∉ch->s.heap.get? b=some o->H b=none->h'.get? b=some o)
  (slot:∀b o,b≠X.env.locals->b∈X.fs->b∉ch->s.heap.get? b=some o->H b=none->∃sl,h'.get? b=some { o with slots:=sl }) (free:∀b o,b∉ch->s.heap.get? b=some o->H b=none->H' b=none)
  (there:∀b o,b∉ch->s.heap.get? b=some o->∃o',h'.get? b=some o')
  (kA:∀b xs,H b=some (.tup xs)->H' b=some (.tup xs)) (jT:∀b o u,H b=some (.lF o u)->H' b=some (.lF o u)) (kC:∀b ps,H b=some (.vw ps)->∃more,H' b=some (.vw (ps++more)))
  (E:∀m,s.heap.Ns X.env.locals m->h'.Ns X.env.locals m) (cN:i6 X.prog X.w H' h') (hg:AllBare g') :
  Inv X K' σ H' { s with heap:=h',gens:=g',drawn:=d',toks:=t' }:=by
 have D:∀b o,X.dA.heap.get? b=some o->b≠X.env.locals:=λb o e=>aW (aS (aI e) I.ok.above)
 have y:∀b o,X.dA.heap.get? b=some o->b∉X.ex->b∉ch:=λb o e a hb=>by
  rcases(h b hb).1 with z | z
  .exact a z
  show absurd (aS (aI e) z) (Nat.lt_irrefl _)
 have cellK:∀x c,X.env.cells.lookup x=some c->∀v,s.heap.IsCell c v->h'.IsCell c v:=λx c e v ⟨o,g,hd⟩=>by
  have t:c∉ch:=λz=>(h c z).2.2.1 x c e rfl
  by_cases C:c∈X.fs
  .obtain⟨sl,q⟩:=slot c o (I.sT x c e) C t g (I.gk x c e);show⟨_,q,hd⟩
  show⟨o,keep c o (I.sT x c e) C t g (I.gk x c e),hd⟩
 show⟨I.ok,I.os,hg,⟨λb o e n hb a=>?_,λb o e n hb a=>?_,λb o e n a=>?_,λb o e a=>?_,λb xs e=>kA b xs (I.base.kA b xs e),λb o xs e=>jT b o xs (I.base.jT b o xs e),λb ps e=>?_⟩,?_,λx c e=>?_,?_,λx c e=>?_,λp B=>?_,cN,I.len⟩
 .exact keep b o (D b o e) hb (y b o e a) (I.base.keep b o e n hb a) (I.base.free b o e n a)
 .obtain⟨sl,f⟩:=I.base.slot b o e n hb a;obtain⟨K,j⟩:=slot b _ (D b o e) hb (y b o e a) f (I.base.free b o e n a);show⟨K,j⟩
 .obtain⟨o',f⟩:=I.base.there b o e a;show free b o' (y b o e a) f (I.base.free b o e n a)
 .obtain⟨o',f⟩:=I.base.there b o e a;show there b o' (y b o e a) f
 .obtain⟨G,f⟩:=I.base.kC b ps e;obtain⟨F,j⟩:=kC b _ f;show⟨G++F,by rw[j,Array.append_assoc]⟩
 .obtain⟨m,hn,J⟩:=I.loc;show⟨m,E m hn,λi x v f j e3=>?_⟩;obtain⟨u,r,l⟩:=J i x v f j e3;show⟨u,r,?_⟩;rcases l with l | ⟨k,c,e,z⟩
  .exact .inl l
  show .inr ⟨k,c,e,cellK x c e _ z⟩
 .obtain⟨v,z⟩:=I.cell x c e;show⟨v,cellK x c e v z⟩
 .obtain⟨m,⟨o,_,_,g,_⟩,_⟩:=I.loc;show free _ o (λz=>(h _ z).2.1 rfl) g I.free
 .obtain⟨v,o,g,hd⟩:=I.cell x c e;show free c o (λz=>(h c z).2.2.1 x c e rfl) g (I.gk x c e)
 obtain⟨e,n,ne,A,d⟩:=I.pin p B;have t:p.1∉ch:=λz=>(h p.1 z).2.2.2 p B rfl
 show⟨keep p.1 p.2 ne A t e n,free p.1 p.2 t e n,ne,A,d⟩
theorem Inv.un{t':Nat}(I:Inv X K' σ H s)(u:Un X.fs [] H H' s.heap h')(cN:i6 X.prog X.w H' h'):Inv X K' σ H' { s with heap:=h',toks:=t' }:=by
 obtain⟨m,⟨o,j,k,c,r⟩,_⟩:=id I.loc;obtain⟨sl,g⟩:=u.any c I.free (by simp)
 show I.step (g':=s.gens) (d':=s.drawn) (ch:=[]) (λ_ z=>nomatch z) (λb o _ hb _ e n=>u.keep b o e n hb (by simp)) (λb o _ hb _ e n=>u.slot b o e n hb (by simp)) (λb o _ e n=>u.free b o e n (by simp)) (λb o _ e=>u.there b o e (by simp)) u.kA u.jT u.kC (λi hm=>by
  obtain⟨o',d,h,a,f⟩:=hm;rw[c] at a;cases a;show⟨_,d,h,g,f⟩) cN I.bare
theorem Inv.call{g':Array GenState}{t':Nat}{d':Drawn}{ch:List Addr}(I:Inv X K' σ H s)(u:Un (iA X.stack) ch H H' s.heap h')(cN:i6 X.prog X.w H' h')(hg:AllBare g')
  (g:∀b∈ch,(b∈X.ex\/X.dA.heap.objs.size<=b)/\b≠X.env.locals/\(∀x c,X.env.cells.lookup x=some c->c≠b)/\∀p∈X.pn++K',p.1≠b) :
  Inv X K' σ H' { s with heap:=h',gens:=g',drawn:=d',toks:=t' }:=by
 obtain⟨m,⟨o,q,t,h,r⟩,_⟩:=id I.loc;obtain⟨sl,d⟩:=u.any h I.free λz=>(g _ z).2.1 rfl
 show I.step (ch:=ch) g (λb o d hb a e n=>u.keep b o e n (λz=>(az.mp (I.oO b z)).elim d hb) a) (λb o _ _ a e n=>u.any e n a) (λb o a e n=>u.free b o e n a) (λb o a e=>u.there b o e a) u.kA u.jT u.kC (λl hm=>by
  obtain⟨o',i,k,f,j⟩:=hm;rw[h] at f;cases f;show⟨_,i,k,d,j⟩) cN hg
theorem Inv.turned{t':Nat}{it:Addr}(I:Inv X K' σ H s)(k:∀b o,b≠it->s.heap.get? b=some o->h'.get? b=some o)(hn:H it=none)(f:it≠X.env.locals)
  (j:it∈X.ex\/X.dA.heap.objs.size<=it) (i:∀x c,X.env.cells.lookup x=some c->c≠it) (h:∀p∈X.pn++K',p.1≠it):Inv X K' σ H { s with heap:=h',toks:=t' }:=by
 have d:∀b u,H b=some u->b≠it:=λb u e z=>by rw[z,hn] at e;cases e
 show I.step (g':=s.gens) (d':=s.drawn) (ch:=[it]) (λb hb=>?_) (λb o _ _ a e _=>k b o (λz=>a (by simp[z])) e) (λb o _ _ a e _=>⟨o.slots,k b o (λz=>a (by simp[z])) e⟩) (λ_ _ _ _ n=>n)
  (λb o a e=>⟨o,k b o (λz=>a (by simp[z])) e⟩) (λ_ _ e=>e) (λ_ _ _ e=>e) (λb ps e=>⟨#[],by rw[e];simp⟩) (λm hm=>?_) (λb u e=>?_) I.bare
 .have e:b=it:=by simpa using hb
  subst e;show⟨j,f,i,h⟩
 .obtain⟨o,l,t,g,r⟩:=hm;show⟨o,l,t,k _ o (Ne.symm f) g,r⟩
 show(I.cN b u e).kW (λc v a q=>k c v ?_ q) (λ_ q=>q) λ_ _ q=>q
 rcases a with z | z
 .rw[z];show d b u e
 show d c _ z
theorem Inv.tok(I:Inv X K' σ H s)(t:Nat):Inv X K' σ H { s with toks:=t }:=I.un (h':=s.heap) (t':=t) Un.refl I.cN
theorem Inv.kept{t':Nat}(I:Inv X K' σ H s)(k:∀b u,s.heap.get? b=some u->h'.get? b=some u):Inv X K' σ H { s with heap:=h',toks:=t' }:=I.un (Un.kept k) (I.cN.kept k)
theorem Inv.laid{a:Addr}{o:HO}{t':Nat}(I:Inv X K' σ H s)(k:∀b u,s.heap.get? b=some u->h'.get? b=some u)(c:s.heap.objs.size<=a)(new:df X.prog X.w (upd H a o) h' a o) :
  Inv X K' σ (upd H a o) { s with heap:=h',toks:=t' }:=I.un (Un.laid k c (I.cN.fresh c)) (I.cN.laid k c new)
theorem Inv.write{x e:Addr}{o:HO}{t':Nat}(I:Inv X K' σ H s)(mu:BZ (H x))(he:e=x\/H e=some (.own x))(k:∀b u,b≠e->s.heap.get? b=some u->h'.get? b=some u)(a:∃u,h'.get? e=some u)
  (new:df X.prog X.w (upd H x o) h' x o):Inv X K' σ (upd H x o) { s with heap:=h',toks:=t' }:=I.un (Un.write mu he k a) (I.cN.write mu he k a new)
theorem Inv.pQ{a:List (Addr×Obj)}(I:Inv X K' σ H s)(h:∀p∈a,s.heap.get? p.1=some p.2/\H p.1=none/\p.1≠X.env.locals/\p.1∉X.fs/\∀v,p.2.data≠.cell v):Inv X a σ H s:=
 ⟨I.ok,I.os,I.bare,I.base,I.loc,I.cell,I.free,I.gk,λp b=>(aJ.mp b).elim (λz=>I.pin p (bE _ z)) (h p),I.cN,I.len⟩
theorem F2{N:List Str}(c:N.Nodup){i j:Nat}{x:Str}(a:N[i]?=some x)(b:N[j]?=some x):i=j:=by
 obtain⟨g,e⟩:=aj.mp a;obtain⟨f,d⟩:=aj.mp b;show(List.getElem_inj c).mp (e.trans d.symm)
theorem MG{M:Model}{A:Around}{E:Value->Shared->Prop}{i:Nat}{x:Str}{v:V}{u:Value}{Q:Unit->Shared->Prop}(I:Inv X K' σ H s)(hN:X.N.Nodup)(F:X.N[i]?=some x)(t:Loc X.env.scope x)(r:RelV v u)
  (h:∀O,Inv X K' (σ.set i (some v)) H O->(∃a,Heap.SameBut a s.heap O.heap/\(a=X.env.locals\/X.env.cells.lookup x=some a))->Q () O) (hf:X.fn x=true\/X.env.scope.names.lookup x=some .local:=by first | show .inl rfl | show .inr rfl | assumption):wpAny M A (storeName X.env x u) Q E s:=by
 obtain⟨m,hn,Z⟩:=id I.loc;have sJ:(X.env.scope.kind==.class||(X.env.scope.kind==.module&&X.env.locals != X.env.globals))=false:=by rw[I.ok.kind];rfl
 have Bm:i<σ.length:=by rw[I.len];show(aj.mp F).1
 have sT:=I.sT;have tracked:∀{a:Addr}{h':Heap},(∃o,s.heap.get? a=some o/\H a=none)->Heap.SameBut a s.heap h'->i6 X.prog X.w H h':=λ{a h'} ha f b ob e=>by
  obtain⟨_,_,ef⟩:=ha;show(I.cN b ob e).kW (λc G l q=>(f.2 c ?_).trans q) (λ_ q=>q) λ_ _ q=>q
  rintro rfl;rcases l with rfl | l
  .rw[ef] at e;cases e
  rw[ef] at l;cases l
 rcases t with C | C
 .refine wpAny_storeName_local C hn (λh' Bc f=>?_) sJ;obtain⟨oL,_,_,xA,_⟩:=id hn;show h _ ⟨I.ok,I.os,I.bare,⟨λb o e n hb t=>?_,λb o e n hb t=>?_,I.base.free,λb o e t=>?_,I.base.kA,I.base.jT,I.base.kC⟩,⟨_,Bc,λj y K g B e3=>?_⟩,λy c e=>?_,I.free,I.gk,λp S=>?_,tracked ⟨oL,xA,I.free⟩ f,by simpa using I.len⟩ ⟨_,f,.inl rfl⟩
  .exact(f.2 b (aW (aS (aI e) I.ok.above))).trans (I.base.keep b o e n hb t)
  .obtain⟨sl,g⟩:=I.base.slot b o e n hb t;show⟨sl,(f.2 b (aW (aS (aI e) I.ok.above))).trans g⟩
  .obtain⟨o',g⟩:=I.base.there b o e t;show⟨o',(f.2 b (aW (aS (aI e) I.ok.above))).trans g⟩
  .by_cases D:j=i
   .subst D;rw[F] at g;cases g;rw[List.getElem?_set_self Bm] at B;cases B;show⟨u,r,.inl ⟨C,by simp⟩⟩
   rw[List.getElem?_set_ne (Ne.symm D)] at B;obtain⟨L,P,q⟩:=Z j y K g B e3;show⟨L,P,?_⟩;rcases q with⟨k,e⟩ | ⟨k,c,e,z⟩
   .refine .inl ⟨k,?_⟩;have:y≠x:=λe=>D (F2 hN g (e▸F))
    simp[this,e]
   show .inr ⟨k,c,e,z.sameBut f (sT y c e)⟩
  .obtain⟨G,z⟩:=I.cell y c e;show⟨G,z.sameBut f (sT y c e)⟩
  obtain⟨e,n,ne,R,d⟩:=I.pin p S;show⟨(f.2 p.1 ne).trans e,n,ne,R,d⟩
 have T:X.fn x=true:=by
  rcases hf with z | z
  .exact z
  rw[z] at C;cases C
 obtain⟨c,l⟩:=I.ok.has x (.inl C);obtain⟨G,z⟩:=I.cell x c l;show wpAny_storeName_cell I.ok.kind C l z (λh' Y f=>?_);obtain⟨W,U,Ij⟩:=id z;show h { s with heap:=h' } ⟨I.ok,I.os,I.bare,⟨λb o e n hb t=>?_,λb o e n hb t=>?_,I.base.free,λb o e t=>?_,I.base.kA,I.base.jT,I.base.kC⟩,⟨m,hn.sameBut f (Ne.symm (sT x c l)),λj y K g B e3=>?_⟩,λy J e=>?_,I.free,I.gk,λp S=>?_,tracked ⟨W,U,I.gk x c l⟩ f,by simpa using I.len⟩ ⟨c,f,.inr l⟩
 .exact(f.2 b (aW (aS (aI e) (I.ok.cab x c T l)))).trans (I.base.keep b o e n hb t)
 .obtain⟨sl,g⟩:=I.base.slot b o e n hb t;show⟨sl,(f.2 b (aW (aS (aI e) (I.ok.cab x c T l)))).trans g⟩
 .obtain⟨o',g⟩:=I.base.there b o e t;show⟨o',(f.2 b (aW (aS (aI e) (I.ok.cab x c T l)))).trans g⟩
 .by_cases D:j=i
  .subst D;rw[F] at g;cases g;rw[List.getElem?_set_self Bm] at B;cases B;show⟨u,r,.inr ⟨.inl C,c,l,Y⟩⟩
  rw[List.getElem?_set_ne (Ne.symm D)] at B;obtain⟨L,P,q⟩:=Z j y K g B e3;show⟨L,P,?_⟩;rcases q with q | ⟨k,J,e,z'⟩
  .exact .inl q
  show .inr ⟨k,J,e,z'.sameBut f ?_⟩;rintro rfl;show D (F2 hN g (I.ok.inj _ _ _ e l▸F))
 .by_cases Bu:J=c
  .subst Bu;show⟨_,Y⟩
  obtain⟨w2,z2⟩:=I.cell y J e;show⟨w2,z2.sameBut f Bu⟩
 obtain⟨e,n,ne,R,d⟩:=I.pin p S;show⟨(f.2 p.1 ?_).trans e,n,ne,R,d⟩;intro q;rw[q,U] at e;have q':W=p.2:=aX e;show d G (by rw[<-q'];show Ij)
theorem C5{M:Model}{A:Around}{E:Value->Shared->Prop}{i:Nat}{x:Str}{v:V}{u:Value}{Q:Unit->Shared->Prop}(I:Inv X K' σ H s)(e:X.N.Nodup)(c:X.N[i]?=some x)(b:Loc X.env.scope x)(r:RelV v u)
  (h:∀a,Inv X K' (σ.set i (some v)) H a->Q () a) (d:X.fn x=true\/X.env.scope.names.lookup x=some .local:=by first | show .inl rfl | show .inr rfl | assumption):wpAny M A (storeName X.env x u) Q E s:=
 MG I e c b r (λa f _=>h a f) d
theorem Inv.sU{a:Shared}{ch:List Addr}(I:Inv X K' σ H s)(f:a.os=s.os)(u:Un (iA X.stack) ch H H' s.heap a.heap)(cN:i6 X.prog X.w H' a.heap)(hg:AllBare a.gens)
  (d:∀b∈ch,(b∈X.ex\/X.dA.heap.objs.size<=b)/\b≠X.env.locals/\(∀x c,X.env.cells.lookup x=some c->c≠b)/\∀p∈X.pn++K',p.1≠b):Inv X K' σ H' a:=by
 obtain⟨h',g',d',t',o'⟩:=a;have e:o'=s.os:=f;subst e;show I.call (g':=g') (t':=t') (d':=d') u cN hg d
end
noncomputable abbrev XK:=Value->Option Addr->Hp->Prop
noncomputable abbrev St:=List (Option V)
noncomputable abbrev VK:=V->Hp->Prop
noncomputable abbrev TE:=St->Hp->VK->Prop
noncomputable abbrev TT:=St->Hp->(Bool->Hp->Prop)->Prop
noncomputable abbrev TA:=St->Hp->(List V->Hp->Prop)->Prop
structure Ends where
 nx:St->Hp->Prop
 rt:VK
 bk:St->Hp->Prop:=λ_ _=>False
 ct:St->Hp->Prop:=λ_ _=>False
noncomputable abbrev TS:=Ends->St->Hp->Prop
def EP(X:Cx)(c:List (Addr×Obj))(a:St)(Q:VK)(u:Value)(b:Shared):Prop:=∃v H',Inv X c a H' b/\RelV v u/\Q v H'
def TP(X:Cx)(d:List (Addr×Obj))(a:St)(Q:Bool->Hp->Prop)(b:Bool)(c:Shared):Prop:=∃H',Inv X d a H' c/\Q b H'
def AP(X:Cx)(e:List (Addr×Obj))(b:St)(Q:List V->Hp->Prop)(c:List Value)(d:Shared):Prop:=∃a H',Inv X e b H' d/\Vals a c/\Q a H'
def SP(X:Cx)(c:List (Addr×Obj))(D:Ends)(f:Flow)(b:Shared):Prop:=
 match f with
 | .next=>∃a H',Inv X c a H' b/\D.nx a H'
 | .brk=>∃a H',Inv X c a H' b/\D.bk a H'
 | .cont=>∃a H',Inv X c a H' b/\D.ct a H'
 | .ret u=>∃v a H',Inv X c a H' b/\RelV v u/\D.rt v H'
def PE(X:Cx)(e:Expr)(t:TE):Prop:=
 ∀(a:List (Addr×Obj))(s:Shared)(σ:St)(H:Hp)(Q:VK),Inv X a σ H s->t σ H Q->wpAny (model X.prog X.w) X.A (eval e X.env) (EP X a σ Q) X.xe s
def PT(X:Cx)(e:Expr)(t:TT):Prop:=
 ∀(a:List (Addr×Obj))(s:Shared)(σ:St)(H:Hp)(Q:Bool->Hp->Prop),Inv X a σ H s->t σ H Q->wpAny (model X.prog X.w) X.A (isTrue e X.env (eval e X.env)) (TP X a σ Q) X.xe s
def PW(X:Cx)(e:Expr)(t:TT):Prop:=
 ∀(whole:Sem Value)(a:List (Addr×Obj))(s:Shared)(σ:St)(H:Hp)(Q:Bool->Hp->Prop),Inv X a σ H s->t σ H Q->wpAny (model X.prog X.w) X.A (isTrue e X.env whole) (TP X a σ Q) X.xe s
theorem PW.pt{X:Cx}{e:Expr}{t:TT}(h:PW X e t):PT X e t:=h _
def PA(X:Cx)(b:List Expr)(t:TA):Prop:=
 ∀(pos:Pos)(a:List (Addr×Obj))(s:Shared)(σ:St)(H:Hp)(Q:List V->Hp->Prop),Inv X a σ H s->t σ H Q->wpAny (model X.prog X.w) X.A (spliced (backTo pos (starEach b X.env))) (AP X a σ Q) X.xe s
def PS(X:Cx)(st:Stmt)(t:TS):Prop:=
 ∀(a:List (Addr×Obj))(s:Shared)(σ:St)(H:Hp)(D:Ends),Inv X a σ H s->t D σ H->wpAny (model X.prog X.w) X.A (exec st X.env) (SP X a D) X.xe s
def nT(X:Cx)(st:List Stmt)(t:TS):Prop:=
 ∀(a:List (Addr×Obj))(s:Shared)(σ:St)(H:Hp)(D:Ends),Inv X a σ H s->t D σ H->wpAny (model X.prog X.w) X.A (execs st X.env) (SP X a D) X.xe s
theorem cW{α:Type}{t:Sem α}{Q b:α->Shared->Prop}{M:Model}{A:Around}{E:Value->Shared->Prop}{s:Shared}(h:wpAny M A t Q E s)(c:∀a s,Q a s->b a s):wpAny M A t b E s:=bF h c λ_ _ x=>x
section
variable{X:Cx}
theorem bin{a b:Expr}{j i:TE}(ha:PE X a j)(hb:PE X b i){e:List (Addr×Obj)}{s:Shared}{c:St}{H:Hp}{R:V->V->Hp->Prop}(I:Inv X e c H s)(h:j c H λx H1=>i c H1 λy d=>R x y d)
  {α:Type} {Q:α->Shared->Prop} {f:Value->Value->Sem α}
  (p:∀v u s2 x y d,Inv X e c d s2->RelV x v->RelV y u->R x y d->wpAny (model X.prog X.w) X.A (f v u) Q X.xe s2) :
  wpAny (model X.prog X.w) X.A (eval a X.env) (λv q=>wpAny (model X.prog X.w) X.A (eval b X.env) (λu o=>wpAny (model X.prog X.w) X.A (f v u) Q X.xe o) X.xe q) X.xe s:=by
 show cW (ha e s c H _ I h) λv s1 g=>?_
 obtain⟨x,H1,I1,l,n⟩:=g;show cW (hb e s1 c H1 _ I1 n) λu s2 g=>?_
 obtain⟨y,d,I2,k,m⟩:=g;show p v u s2 x y d I2 l k m
def JQ(i:Nat):TE:=λσ H Q=>∃v,σ[i]?=some (some v)/\Q v H
def tC(v:V):TE:=λ_ H Q=>Q v H
theorem rh{i:Nat}{x:Str}{pos:Pos}(k:X.N[i]?=some x)(g:nR X.env.scope x)(hd:(x==("__debug__":Str))=false:=by decide)(f:(x==("__classdict__":Str))=false:=by decide):PE X (.Name x pos) (JQ i):=by
 intro n s σ H Q I h;obtain⟨v,e,h⟩:=h;obtain⟨m,hn,j⟩:=I.loc;obtain⟨u,r,l⟩:=j i x v k e g;have fin:EP X n σ Q u s:=⟨v,H,I,r,h⟩
 rcases l with⟨a,hm⟩ | ⟨a,c,d,b⟩
 .exact wpAny_Name (wpAny_loadName_local I.ok.kind a hn hm fin) hd
 rcases a with a | a
 .exact wpAny_Name (wpAny_loadName_cell I.ok.kind a d b fin) hd
 show wpAny_Name (wpAny_loadName_free I.ok.kind a d b fin f) hd
theorem KC{i j pos}:PE X (.Constant (.int i) j pos) (tC (.int i)):=λ_ _ _ H _ I h=>wpAny_Constant_int ⟨.int i,H,I.tok _,⟨_,rfl⟩,h⟩
theorem Qj{b j pos}:PE X (.Constant (.bool b) j pos) (tC (.bl b)):=λ_ _ _ H _ I h=>Constant_bool ⟨.bl b,H,I,rfl,h⟩
theorem RJ{j pos}:PE X (.Constant .none j pos) (tC .non):=λ_ _ _ H _ I h=>Constant_none ⟨.non,H,I,rfl,h⟩
theorem RI{x j pos}:PE X (.Constant (.str x) j pos) (tC (.str x)):=λ_ _ _ H _ I h=>Calls.Constant_str ⟨.str x,H,I.tok _,⟨_,rfl⟩,h⟩
def Gl(X:Cx)(x:Str):Prop:=X.env.kindOf x=some .globalImplicit
theorem zQ{E:Value->Shared->Prop}{b:List (Addr×Obj)}{s:Shared}{a:St}{H:Hp}{x:Str}{u:Value}{pos:Pos}{Q:Value->Shared->Prop}(I:Inv X b a H s)(hg:Gl X x)(hm:X.mg x=some u)(h:Q u s)
  (hd:(x==("__debug__":Str))=false:=by decide):wpAny (model X.prog X.w) X.A (eval (.Name x pos) X.env) Q E s:=
 Calls.Name_function_global I.ok.kind hg (Calls.loadGlobal_global (by rw[I.ok.glob];show I.mod.glob.keeps I.bk) hm h) hd
theorem rR{E:Value->Shared->Prop}{e:List (Addr×Obj)}{s:Shared}{a:St}{H:Hp}{x:Str}{u:Value}{pos:Pos}{Q:Value->Shared->Prop}(I:Inv X e a H s)(hg:Gl X x)(hm:X.mg x=none)(b:bootBuiltins x=some u)(h:Q u s)
  (hn:x≠"__name__":=by decide) (hd:(x==("__debug__":Str))=false:=by decide):wpAny (model X.prog X.w) X.A (eval (.Name x pos) X.env) Q E s:=by
 obtain⟨f,d,c⟩:=I.mod.blt;show Calls.Name_function_global I.ok.kind hg (Calls.loadGlobal_builtin (by rw[I.ok.glob];show I.mod.glob.keeps I.bk) hm (by rw[I.ok.blt];show d.keeps I.bk) ((c x hn).trans b) h) hd
theorem FA{x:Str}{v:V}{u:Value}{pos:Pos}(hg:Gl X x)(hm:X.mg x=some u)(r:RelV v u)(hd:(x==("__debug__":Str))=false:=by decide):PE X (.Name x pos) (tC v):=
 λ_ _ _ H _ I h=>zQ I hg hm ⟨v,H,I,r,h⟩ hd
theorem LB{x:Str}{v:V}{u:Value}{pos:Pos}(hg:Gl X x)(hm:X.mg x=none)(a:bootBuiltins x=some u)(r:RelV v u)(hn:x≠"__name__":=by decide)(hd:(x==("__debug__":Str))=false:=by decide):PE X (.Name x pos) (tC v):=
 λ_ _ _ H _ I h=>rR I hg hm a ⟨v,H,I,r,h⟩ hn hd
variable{a b:Expr}{ta tb:TE}{pos:Pos}
def PC(X:Cx)(op:CmpOp)(a b:Expr)(t:TE):Prop:=
 ∀(c:List (Addr×Obj))(s:Shared)(σ:St)(H:Hp)(Q:VK),Inv X c σ H s->t σ H Q->
  wpAny (model X.prog X.w) X.A (eval a X.env) (λv e=>wpAny (model X.prog X.w) X.A (eval b X.env) (λu d=>wpAny (model X.prog X.w) X.A (compareOp op v u) (EP X c σ Q) X.xe d) X.xe e) X.xe s
theorem TY(b:Expr){op:CmpOp}(h:op≠.In)(a:op≠.NotIn):behindInMarks op b=false:=by
 have d:(op==CmpOp.In)=false:=by cases op<;>first | rfl | show absurd rfl h
 have c:(op==CmpOp.NotIn)=false:=by cases op<;>first | rfl | show absurd rfl a
 cases b<;>simp[behindInMarks,d,c]
def tB(t:TE):TT:=λσ H Q=>t σ H λx H1=>∃c,x=.bl c/\Q c H1
theorem ztD{op:CmpOp}{t:TE}(h:PC X op a b t)(e:behindInMarks op b=false:=by first | show TY _ (by decide) (by decide) | rfl):PT X (.Compare a [op] [b] pos) (tB t):=by
 intro k s σ H Q I hw;show wpAny_isTrue_Compare1 (cW (h k s σ H _ I hw) λv s1 e=>cW e λu s2 i=>cW i λc s3 j=>?_) e;obtain⟨x,H1,I1,f,g⟩:=j;obtain⟨d,rfl,q⟩:=g;cases f;show bK ⟨H1,I1,q⟩
theorem RH{e:Expr}{t:TE}(h:PE X e t)(he:∀whole,isTrue e X.env whole=(do let v <-whole;standAt e.pos;holding [v] (truthy v)):=by intro _;rfl):PT X e (tB t):=by
 intro f s σ H Q I hw;show isTrue_plain (cW (h f s σ H _ I hw) λv s1 c=>?_) (he _);obtain⟨x,H1,I1,a,b⟩:=c;obtain⟨d,rfl,q⟩:=b;cases a;show bK ⟨H1,I1,q⟩
variable{tA DG:TT}{lq:List Expr}
def Pw(t u:TT):TT:=λσ H Q=>t σ H λc H1=>if c=true then u σ H1 Q else Q false H1
def Yp(t u:TT):TT:=λσ H Q=>t σ H λc H1=>if c=true then Q true H1 else u σ H1 Q
def Pu(t:TT):TT:=λσ H Q=>t σ H λc H1=>Q (!c) H1
theorem Se(ha:PT X a tA):PW X (.BoolOp .And [a] pos) tA:=by
 intro d b s σ H Q I h;show isTrue_and (cW (ha b s σ H Q I h) λc s1 e=>?_);cases c with
 | true=>show isTrue_and_nil e
 | false=>show e
theorem RG(ha:PT X a tA):PW X (.BoolOp .Or [a] pos) tA:=by
 intro d b s σ H Q I h;show isTrue_or (cW (ha b s σ H Q I h) λc s1 e=>?_);cases c with
 | false=>show isTrue_or_nil e
 | true=>show e
theorem RF(ha:PT X a tA)(hb:PW X (.BoolOp .And (b::lq) pos) DG):PW X (.BoolOp .And (a::b::lq) pos) (Pw tA DG):=by
 intro f e s σ H Q I h;show isTrue_and (cW (ha e s σ H _ I h) λc s1 g=>?_);obtain⟨H1,I1,d⟩:=g;cases c with
 | true=>show hb f e s1 σ H1 Q I1 d
 | false=>show⟨H1,I1,d⟩
theorem Qi(ha:PT X a tA)(hb:PW X (.BoolOp .Or (b::lq) pos) DG):PW X (.BoolOp .Or (a::b::lq) pos) (Yp tA DG):=by
 intro f e s σ H Q I h;show isTrue_or (cW (ha e s σ H _ I h) λc s1 g=>?_);obtain⟨H1,I1,d⟩:=g;cases c with
 | true=>show⟨H1,I1,d⟩
 | false=>show hb f e s1 σ H1 Q I1 d
theorem RE(ha:PT X a tA):PT X (.UnaryOp .Not a pos) (Pu tA):=by
 intro b s σ H Q I h;show isTrue_not (ha b s σ H (λc H1=>Q (!c) H1) I h)
def Qh(ta tb:TE):TE:=λσ H Q=>ta σ H λx H1=>∃c,x=.bl c/\if c=true then tb σ H1 Q else Q (.bl false) H1
def Qg(ta:TE):TE:=λσ H Q=>ta σ H λx H1=>∃c,x=.bl c/\Q (.bl (!c)) H1
theorem RD{op}{t:TE}(h:PE X a t):PE X (.BoolOp op [a] pos) t:=λb s σ H Q I hw=>BoolOp_one (h b s σ H Q I hw)
theorem R4(ha:PE X a ta)(hb:PE X (.BoolOp .And (b::lq) pos) tb):PE X (.BoolOp .And (a::b::lq) pos) (Qh ta tb):=by
 intro e s σ H Q I h;show BoolOp_and (cW (ha e s σ H _ I h) λv s1 g=>?_);obtain⟨x,H1,I1,f,d⟩:=g;obtain⟨c,rfl,d⟩:=d;cases f;show bK ?_;cases c with
 | true=>show hb e s1 σ H1 Q I1 d
 | false=>show⟨.bl false,H1,I1,rfl,d⟩
theorem R3(ha:PE X a ta):PE X (.UnaryOp .Not a pos) (Qg ta):=by
 intro f s σ H Q I h;show UnaryOp_ (cW (ha f s σ H _ I h) λv s1 e=>?_);obtain⟨x,H1,I1,d,b⟩:=e;obtain⟨c,rfl,b⟩:=b;cases d;show not_of (bK ⟨.bl (!c),H1,I1,rfl,b⟩)
def Yq(t:TT)(ta tb:TE):TE:=λσ H Q=>t σ H λc H1=>if c=true then ta σ H1 Q else tb σ H1 Q
theorem TV{c:Expr}(g:PT X c tA)(ha:PE X a ta)(hb:PE X b tb):PE X (.IfExp c a b pos) (Yq tA ta tb):=by
 intro e s σ H Q I h;show wpAny_IfExp (cW (g e s σ H _ I h) λd s1 i=>?_);obtain⟨H1,I1,f⟩:=i;cases d with
 | true=>show ha e s1 σ H1 Q I1 f
 | false=>show hb e s1 σ H1 Q I1 f
end
def eP(K:J')(H:Hp)(a:Addr)(xs:List V):Prop:=
 Rd H a (.lst xs)\/
  ∃(o:Obj)(its:Array Value)(n:Nat),K.lookup a=some o/\o.cls=.type "list"/\o.dict=none/\o.data=.seq its n/\its.size<=sizeLine/\Vals xs its.toList
def fk(K:J')(H:Hp)(a:Addr)(xs:List V):Prop:=
 Rd H a (.tup xs)\/
  ∃(o:Obj)(its:Array Value)(n:Nat),K.lookup a=some o/\o.cls=.type "tuple"/\o.data=.seq its n/\its.size<=sizeLine/\Vals xs its.toList
noncomputable def Pt:Value->Option V
 | .none=>some .non
 | .bool b=>some (.bl b)
 | .int i _=>some (.int i)
 | .str x _=>some (.str x)
 | .bytes b _=>some (.Jj b)
 | .float b _=>some (.Ja b)
 | .ref a=>some (.ref a)
 | .type n=>some (.ty n)
 | _=>none
theorem RelV.abs{x:V}{u:Value}(r:RelV x u):Pt u=some x:=by
 cases x with
 | non=>cases r;rfl
 | bl _=>cases r;rfl
 | int _=>obtain⟨t,rfl⟩:=r;rfl
 | str _=>obtain⟨t,rfl⟩:=r;rfl
 | Jj _=>obtain⟨t,rfl⟩:=r;rfl
 | Ja _=>obtain⟨t,rfl⟩:=r;rfl
 | ref _=>cases r;rfl
 | ty _=>cases r;rfl
theorem RelV.inj{x y:V}{u:Value}(r:RelV x u)(q:RelV y u):x=y:=aX (r.abs.symm.trans q.abs)
theorem Vals.inj{xs ys:List V}{a:List Value}(h:Vals xs a)(k:Vals ys a):xs=ys:=by
 induction h generalizing ys with
 | nil=>cases k;rfl
 | cons r t c=>
  cases k with
  | cons b t'=>rw[r.inj b,c t']
section
variable{X:Cx}{K':List (Addr×Obj)}{σ:St}{H:Hp}{s:Shared}{a:Addr}{xs ys:List V}
theorem eP.of{K:J'}(h:H a=some (.lst xs)):eP K H a xs:=.inl (.inl h)
theorem fk.of{K:J'}(h:H a=some (.tup xs)):fk K H a xs:=.inl (.inl h)
theorem Inv.list(I:Inv X K' σ H s)(h:eP X.K H a xs):∃its:List Value,Vals xs its/\PlainL s.heap a its.toArray/\xs.length<=sizeLine:=by
 rcases h with h | ⟨o,its,n,c,d,hd,b,hz,r⟩
 .obtain⟨z,its,n,r,e⟩:=h.ok I.cN;show⟨its,r,⟨_,n,e,rfl,rfl,rfl⟩,z⟩
 show⟨its.toList,r,⟨o,n,I.nB a o c,d,hd,by simpa using b⟩,?_⟩;have e:=r.length;simp only[aO] at e;ext
theorem Inv.tuple(I:Inv X K' σ H s)(h:fk X.K H a xs):∃its:List Value,Vals xs its/\IsTup s.heap a its.toArray/\xs.length<=sizeLine:=by
 rcases h with h | ⟨o,its,n,c,d,b,hz,r⟩
 .obtain⟨z,its,r,p⟩:=h.ok I.cN;show⟨its,r,p,z⟩
 show⟨its.toList,r,⟨o,I.nB a o c,d,n,by simpa using b⟩,?_⟩;have e:=r.length;simp only[aO] at e;ext
theorem Inv.iu(I:Inv X K' σ H s)(h:eP X.K H a xs)(h':eP X.K H a ys):xs=ys:=by
 obtain⟨its,r,⟨o,n,e,_,_,d⟩,_⟩:=I.list h;obtain⟨its',c,⟨o',g,b,_,_,d'⟩,_⟩:=I.list h';rw[e] at b;cases b;rw[d] at d';injection d' with f _
 have:its=its':=by simpa using congrArg Array.toList f
 subst this;show r.inj c
theorem Inv.lY(I:Inv X K' σ H s)(h:fk X.K H a xs)(h':fk X.K H a ys):xs=ys:=by
 obtain⟨its,r,⟨o,e,_,n,d⟩,_⟩:=I.tuple h;obtain⟨its',c,⟨o',b,_,g,d'⟩,_⟩:=I.tuple h';rw[e] at b;cases b;rw[d] at d';injection d' with f _
 have:its=its':=by simpa using congrArg Array.toList f
 subst this;show r.inj c
end
noncomputable abbrev Cx.lK(X:Cx)(E:Value->Shared->Prop):Cx:={ X with xe:=E }
noncomputable abbrev Cx.vA(X:Cx):Cx:=X.lK λ_ _=>False
theorem Cx.Ok.lK{X:Cx}(ok:X.Ok)(E:Value->Shared->Prop):(X.lK E).Ok:=
 ⟨ok.mod,ok.kind,ok.glob,ok.blt,ok.above,ok.inj,ok.has,ok.cab,ok.hd,ok.frames,ok.AE,ok.exf,ok.bs,ok.vY,ok.qF,ok.qN,ok.ia,ok.tX⟩
theorem Cx.Ok.ik{X:Cx}{E:Value->Shared->Prop}(ok:(X.lK E).Ok):X.Ok:=
 ⟨ok.mod,ok.kind,ok.glob,ok.blt,ok.above,ok.inj,ok.has,ok.cab,ok.hd,ok.frames,ok.AE,ok.exf,ok.bs,ok.vY,ok.qF,ok.qN,ok.ia,ok.tX⟩
section
variable{X:Cx}{K':List (Addr×Obj)}{σ:St}{H:Hp}{s:Shared}{E:Value->Shared->Prop}
theorem Inv.lK(I:Inv X K' σ H s)(E:Value->Shared->Prop):Inv (X.lK E) K' σ H s:=⟨I.ok.lK E,I.os,I.bare,I.base,I.loc,I.cell,I.free,I.gk,I.pin,I.cN,I.len⟩
theorem Inv.ik(I:Inv (X.lK E) K' σ H s):Inv X K' σ H s:=⟨I.ok.ik,I.os,I.bare,I.base,I.loc,I.cell,I.free,I.gk,I.pin,I.cN,I.len⟩
theorem SP.ik{D:Ends}{f:Flow}{b:Shared}(h:SP (X.lK E) K' D f b):SP X K' D f b:=by
 cases f with
 | next=>obtain⟨a,H',I,q⟩:=h;show⟨a,H',I.ik,q⟩
 | brk=>obtain⟨a,H',I,q⟩:=h;show⟨a,H',I.ik,q⟩
 | cont=>obtain⟨a,H',I,q⟩:=h;show⟨a,H',I.ik,q⟩
 | ret u=>obtain⟨v,a,H',I,r,q⟩:=h;show⟨v,a,H',I.ik,r,q⟩
theorem nT.vA{st:List Stmt}{t:TS}(h:nT X.vA st t):nT X st t:=λK' s σ H D I hw=>
 bF (h K' s σ H D (I.lK _) hw) (λ_ _ q=>q.ik) λ_ _ z=>False.elim z
end
section
variable{X:Cx}{st:Stmt}{lq:List Stmt}{t u:TS}{e:Expr}{te:TE}{pos:Pos}
def Qf:TS:=λD σ H=>D.nx σ H
def Pr(t u:TS):TS:=λD σ H=>t { D with nx:=u D } σ H
theorem Sb:nT X [] Qf:=λ_ _ σ H _ I h=>wpAny_execs_nil ⟨σ,H,I,h⟩
theorem F1(c:PS X st t)(b:nT X lq u):nT X (st::lq) (Pr t u):=by
 intro a s σ H D I h;show wpAny_execs_cons (cW (c a s σ H { D with nx:=u D } I h) λf s1 q=>?_);cases f with
 | next=>
  obtain⟨d,H',e,q⟩:=q;show b a s1 d H' D e q
 | ret v=>show q
 | brk=>show q
 | cont=>show q
theorem CV(a:PS X st t):nT X [st] t:=by
 intro b s σ H D I h;show wpAny_execs_cons (cW (a b s σ H D I h) λf s1 q=>?_);cases f with
 | next=>show wpAny_execs_nil q
 | ret v=>show q
 | brk=>show q
 | cont=>show q
theorem Inv.quiet{b:List (Addr×Obj)}{a:St}{H:Hp}{s:Shared}(I:Inv X b a H s):interactive X.env=false:=by simp[interactive,I.ok.kind]
def Qe(te:TE):TS:=λD σ H=>te σ H λ_ H1=>D.nx σ H1
theorem CU(he:PE X e te)(b:swapsWith e none pos.line X.env=pure false:=by rfl):PS X (.Expr e pos) (Qe te):=by
 intro d s σ H D I h;show wpAny_Expr_any (cW (he d s σ H _ I h) λv s1 c=>by obtain⟨x,H1,I1,f,a⟩:=c;show⟨σ,H1,I1,a⟩) I.quiet b
def Pq(te:TE):TS:=λD σ H=>te σ H D.rt
theorem Fv(he:PE X e te):PS X (.Return (some e) pos) (Pq te):=by
 intro d s σ H D I h;show wpAny_Return_some (cW (he d s σ H _ I h) λv s1 c=>by obtain⟨x,H1,I1,a,b⟩:=c;show⟨x,σ,H1,I1,a,b⟩)
def Pp(c:TT)(t u:TS):TS:=λD σ H=>c σ H λb H1=>if b=true then t D σ H1 else u D σ H1
theorem EL{c:Expr}{a b:List Stmt}{tc:TT}(g:PT X c tc)(ha:nT X a t)(hb:nT X b u):PS X (.If c a b pos) (Pp tc t u):=by
 intro e s σ H D I h;show wpAny_If (cW (g e s σ H _ I h) λd s1 i=>?_);obtain⟨H1,I1,f⟩:=i;cases d with
 | true=>show ha e s1 σ H1 D I1 f
 | false=>show hb e s1 σ H1 D I1 f
end
noncomputable abbrev TG:=V->St->Hp->(St->Hp->Prop)->Prop
noncomputable abbrev xU:=List V->St->Hp->(St->Hp->Prop)->Prop
def PG(X:Cx)(a:Expr)(t:TG):Prop:=
 ∀(c:List (Addr×Obj))(s:Shared)(σ:St)(H:Hp)(v:V)(u:Value)(Q:St->Hp->Prop),Inv X c σ H s->RelV v u->t v σ H Q->
  wpAny (model X.prog X.w) X.A (assign a X.env u) (λ_ d=>∃b H',Inv X c b H' d/\Q b H') X.xe s
def BY(X:Cx)(d:List Expr)(t:xU):Prop:=
 ∀(c:List (Addr×Obj))(s:Shared)(σ:St)(H:Hp)(a:List V)(us:List Value)(Q:St->Hp->Prop),Inv X c σ H s->Vals a us->t a σ H Q->
  wpAny (model X.prog X.w) X.A (assignInOrder ((assignEach d X.env).map (·.2)) us) (λ_ e=>∃b H',Inv X c b H' e/\Q b H') X.xe s
noncomputable abbrev EB:=V->V->V->Hp->(Hp->Prop)->Prop
def JP(X:Cx)(t:EB):Prop:=
 ∀(b:List (Addr×Obj))(s:Shared)(σ:St)(H:Hp)(o i v:V)(ov a u:Value)(Q:Hp->Prop),Inv X b σ H s->RelV o ov->RelV i a->RelV v u->t o i v H Q->
  wpAny (model X.prog X.w) X.A (setItem ov a u) (λ_ c=>∃H',Inv X b σ H' c/\Q H') X.xe s
section
variable{X:Cx}{pos:Pos}
def zD(i:Nat):TG:=λv σ H Q=>Q (σ.set i (some v)) H
theorem Sa{i:Nat}{x:Str}(d:X.N.Nodup)(b:X.N[i]?=some x)(a:Loc X.env.scope x)(c:X.fn x=true\/X.env.scope.names.lookup x=some .local:=by first | show .inl rfl | show .inr rfl | assumption):PG X (.Name x pos) (zD i):=by
 intro g s σ H v u Q I r h;show wpAny_assign_Name (C5 I d b a r (λf e=>⟨_,H,e,h⟩) c)
noncomputable def Pb:xU:=λa σ H Q=>a=[]/\Q σ H
noncomputable def Qd(t:TG)(u:xU):xU:=λa σ H Q=>∃v r,a=v::r/\t v σ H λb H'=>u r b H' Q
theorem R9:BY X [] Pb:=by
 intro b s σ H a us Q I r h;obtain⟨e,h⟩:=h;subst e;cases r;show assignInOrder_nil ⟨σ,H,I,h⟩
theorem TU{e:Expr}{a:List Expr}{t:TG}{u:xU}(j:PG X e t)(i:BY X a u)
  (g:(assignEach (e::a) X.env).map (·.2)=assign e X.env::(assignEach a X.env).map (·.2):=by rfl):BY X (e::a) (Qd t u):=by
 intro b s σ H m us Q I r h;obtain⟨v,n,k,h⟩:=h;subst k;cases r with
 | cons r d=>
  rw[g];show assignInOrder_cons (cW (j b s σ H _ _ _ I r h) λ_ s1 l=>?_);obtain⟨c,H1,I1,f⟩:=l;show i b s1 c H1 _ _ Q I1 d f
def Pa(K:J')(n:Nat)(t:xU):TG:=λv σ H Q=>∃a xs,v=.ref a/\fk K H a xs/\xs.length=n/\t xs σ H Q
theorem R1{c:List Expr}{k:Nat}{t:xU}{n:Nat}(l:X.calm=true)(h:BY X c t)
  (hn:(assignEach c X.env).length=n:=by rfl) (m:(assignEach c X.env).findIdx? (·.1)=none:=by rfl):PG X (.Tuple c k pos) (Pa X.K n t):=by
 intro f s σ H v u Q I r hw;obtain⟨a,xs,p,i,j,hw⟩:=hw;subst p;cases r;obtain⟨its,d,ht,hz⟩:=I.tuple i;show assign_Tuple_tuple (I.ok.hd l) ht (by simp[hn,<-j,d.length]) m λh' g=>?_
 have I1:Inv X f σ H { s with heap:=h' }:=I.kept (t':=s.toks) λb o e=>g b o (aW (aI e)) e
 show h f _ σ H xs _ Q I1 (by simpa using d) hw
def O9(to ti:TE)(t:EB):TG:=λv σ H Q=>to σ H λo H1=>ti σ H1 λi b=>t o i v b λa=>Q σ a
theorem R0{o i:Expr}{to ti:TE}{t:EB}(l:PE X o to)(m:PE X i ti)(k:JP X t)
  (ha:∀v,assign (.Subscript o i pos) X.env v=(do
   let ov <-holding [v] (eval o X.env)
   let a <-holding [v,ov] (eval i X.env)
   standAt pos
   holding [v,ov,a] (setItem ov a v)
   release [v,ov,a] []):=by intro _;rfl):PG X (.Subscript o i pos) (O9 to ti t):=by
 intro c s σ H v u Q I r h;rw[ha];show aa (bC (cW (l c s σ H _ I h) λov s1 b=>?_));obtain⟨x,H1,I1,e,j⟩:=b;show aa (bC (cW (m c s1 σ H1 _ I1 j) λa s2 b=>?_));obtain⟨y,p,I2,d,g⟩:=b;show aa (wpAny_standAt (aa (bC (cW (k c s2 σ p x y v ov a u _ I2 e d r g) λ_ s3 b=>?_))));obtain⟨n,I3,f⟩:=b;show wpAny_release ⟨σ,n,I3,f⟩
def zt(te:TE)(g:TG):TS:=λD σ H=>te σ H λx H1=>g x σ H1 D.nx
theorem RZ{a e:Expr}{te:TE}{g:TG}(he:PE X e te)(hg:PG X a g)(f:swapsWithSole [a] e pos.line X.env=pure false:=by rfl)(hw:swappedStores [a] e X.env=pure none:=by rfl)
  (i:(assignEach [a] X.env).map (·.2)=[assign a X.env]:=by rfl):PS X (.Assign [a] e pos) (zt te g):=by
 intro b s σ H D I h;show wpAny_Assign_stores (cW (he b s σ H _ I h) λv s1 j=>?_) f hw;obtain⟨x,H1,I1,c,d⟩:=j;rw[i];show cW (hg b s1 σ H1 x v _ I1 c d) λ_ s2 q=>q
theorem CJ{i:Nat}{x:Str}{e:Expr}{te:TE}{a:Pos}(k:X.N.Nodup)(g:X.N[i]?=some x)(d:Loc X.env.scope x)(he:PE X e te)(f:swapsWith e (some (.Name x a)) pos.line X.env=pure false:=by rfl)(j:X.fn x=true\/X.env.scope.names.lookup x=some .local:=by first | show .inl rfl | show .inr rfl | assumption) :
  PS X (.Assign [.Name x a] e pos) (zt te (zD i)):=by
 intro m s σ H D I h;show wpAny_Assign_Name (cW (he m s σ H _ I h) λv s1 l=>?_) f;obtain⟨y,H1,I1,b,c⟩:=l;show C5 I1 k g d b (λs2 I2=>⟨_,H1,I2,c⟩) j
end
section
variable{X:Cx}{pos:Pos}
def RY(c:TT)(e:TS):TS:=λD σ H=>∃W:Nat->St->Hp->Prop,(∃m,W m σ H)/\∀m σ H,W m σ H->
 c σ H λb H1=>if b=true then ∃N:St->Hp->Prop,(∀d H',N d H'->∃a,a<m/\W a d H')/\e { D with nx:=N,ct:=N,bk:=D.nx } σ H1 else D.nx σ H1
theorem TR{c:Expr}{body:List Stmt}{tc:TT}{o:TS}(p:PassesOwn (model X.prog X.w) X.A X.env X.xe)(z:PT X c tc)(hb:nT X body o):PS X (.While c body [] pos) (RY tc o):=by
 intro m s σ H D I h;obtain⟨W,⟨m0,x⟩,turn⟩:=h;show wpAny_While (codeAny_whileLoop (λn y=>∃r H',Inv X m r H' y/\W n r H') ?_ m0 ⟨σ,H,I,x⟩);rintro n s1 ⟨e,H1,I1,u⟩;show wpAny_passesOwn p (cW (z m s1 e H1 _ I1 (turn n e H1 u)) λb s2 B=>?_);obtain⟨t,I2,i⟩:=B;cases b with
 | true=>
  obtain⟨N,q,i⟩:=i;rw[if_pos rfl];show wpAny_passesOwn p (cW (hb m s2 e t _ I2 i) λf s3 g=>?_);cases f with
  | next=>
   obtain⟨a,d,I3,k⟩:=g;obtain⟨l,hm,j⟩:=q a d k;show⟨l,hm,a,d,I3,j⟩
  | cont=>
   obtain⟨a,d,I3,k⟩:=g;obtain⟨l,hm,j⟩:=q a d k;show⟨l,hm,a,d,I3,j⟩
  | brk=>show g
  | ret v=>show g
 | false=>
  rw[if_neg aC];show wpAny_execs_nil ⟨e,t,I2,i⟩
end
structure It where
 go:Nat->Hp->Prop
 Dz:Nat->Hp->V->Hp->Prop
 stop:Nat->Hp->Prop
def jX(X:Cx)(a:List (Addr×Obj))(H:Hp)(b:Addr):Prop:=
 H b=none/\b≠X.env.locals/\b∉X.fs/\(b∈X.ex\/X.dA.heap.objs.size<=b)/\(∀x c,X.env.cells.lookup x=some c->c≠b)/\∀p∈X.pn++a,p.1≠b
theorem Inv.k7{X:Cx}{a:List (Addr×Obj)}{d:St}{H H':Hp}{s:Shared}{b:Addr}(I:Inv X a d H s)(hb:s.heap.objs.size<=b)(hn:H' b=none):jX X a H' b:=by
 show⟨hn,Nat.ne_of_gt (aS I.lt hb),I.HE hb,.inr (aR I.sz hb),λx c e z=>?_,λp f z=>?_⟩
 .obtain⟨v,q⟩:=I.cell x c e;show absurd (aS q.lt (by rw[z];show hb)) (Nat.lt_irrefl _)
 show absurd (aS (aI (I.pin p f).1) (by rw[z];show hb)) (Nat.lt_irrefl _)
structure Turn(P:Program)(w:World)(K:J')(tg:Expr)(J:It)(fp:List Addr)(it:Addr)(tn:Nat->Heap->Prop):Prop where
 mem:it∈fp
 obj:∀i h,tn i h->∀b∈fp,∃o,h.get? b=some o/\∀v,o.data≠.cell v
 keep:∀i h h',tn i h->(∀b∈fp,∀o,h.get? b=some o->h'.get? b=some o)->tn i h'
 item:∀(X:Cx),X.prog=P->X.w=w->X.K=K->X.calm=true->∀(i:Nat)(K':List (Addr×Obj))(s:Shared)(σ:St)(H:Hp)(E:Value->Shared->Prop),Inv X K' σ H s->(∀b∈fp,jX X K' H b)->tn i s.heap->J.go i H->
  wpAny (model P w) X.A (pyNext (.ref it)) (λr s1=>∃u,r=some u/\
   wpAny (model P w) X.A (letOwnedTupleGo tg (.ref it) u) (λ_ s2=>∃x H',Inv X K' σ H' s2/\RelV x u/\J.Dz i H x H'/\tn (i+1) s2.heap/\∀b∈fp,H' b=none) E s1) E s
 done:∀(X:Cx),X.prog=P->X.w=w->X.K=K->X.calm=true->∀(i:Nat)(K':List (Addr×Obj))(s:Shared)(σ:St)(H:Hp)(E:Value->Shared->Prop),Inv X K' σ H s->(∀b∈fp,jX X K' H b)->tn i s.heap->J.stop i H->
  wpAny (model P w) X.A (pyNext (.ref it)) (λr s1=>r=none/\Inv X K' σ H s1) E s
 self:∀(A:Around)(i:Nat)(s:Shared)(Q:Value->Shared->Prop)(E:Value->Shared->Prop),tn i s.heap->Q (.ref it) s->wpAny (model P w) A (pyIter (.ref it)) Q E s
noncomputable abbrev TI:=St->Hp->(It->Hp->Prop)->Prop
def BX(X:Cx)(d:List (Addr×Obj))(e:St)(f:Expr)(R:It->Hp->Prop)(g:Value)(c:Shared):Prop:=
 ∃(it:Addr)(fp:List Addr)(a:Nat->Heap->Prop)(J:It)(H':Hp),g=.ref it/\Inv X d e H' c/\Turn X.prog X.w X.K f J fp it a/\a 0 c.heap/\(∀b∈fp,jX X d H' b)/\R J H'
def PI(X:Cx)(d a:Expr)(c:TI):Prop:=
 ∀(b:List (Addr×Obj))(s:Shared)(σ:St)(H:Hp)(R:It->Hp->Prop),Inv X b σ H s->c σ H R->
  wpAny (model X.prog X.w) X.A (eval a X.env) (λv s1=>wpAny (model X.prog X.w) X.A (pyIter v) (BX X b σ d R) X.xe s1) X.xe s
theorem wD{M:Model}{A:Around}{E:Value->Shared->Prop}{s:Shared}{c:Expr}{it:Addr}{u:Value}{o:Obj}{n:String}{b:Array Value}{Q:Unit->Shared->Prop}(d:s.heap.get? it=some o)(e:o.cls=.type n)(hd:o.data=.fields b)
  (hn:["enumerate","zip","dict_itemiterator","dict_reverseitemiterator","odict_iterator","itertools.zip_longest","itertools.pairwise"].contains n=false) (a:Q () s):wpAny M A (letOwnedTupleGo c (.ref it) u) Q E s:=by
 unfold letOwnedTupleGo;cases c<;>first
  | show ah a
  | (cases u<;>first
    | show ah a
    | (show aa (wpAny_load d ?_)
       rw[e,hd];show wpAny M A (if (["enumerate","zip","dict_itemiterator","dict_reverseitemiterator","odict_iterator","itertools.zip_longest","itertools.pairwise"].contains n&&b[0]?==some (rawInt _))=true then _ else _) Q E s;rw[if_neg (by intro h;rw[hn,Bool.false_and] at h;cases h)];show ah a))
noncomputable def Js(K:J')(a:Addr):It:=
 ⟨λi H=>∃xs x,eP K H a xs/\xs[i]?=some x,λi H x H'=>H'=H/\∀xs,eP K H a xs->xs[i]?=some x,λi H=>∃xs,eP K H a xs/\xs.length<=i⟩
noncomputable def Jr(K:J')(a:Addr):It:=
 ⟨λi H=>∃xs x,fk K H a xs/\xs[i]?=some x,λi H x H'=>H'=H/\∀xs,fk K H a xs->xs[i]?=some x,λi H=>∃xs,fk K H a xs/\xs.length<=i⟩
noncomputable def B0(a:Int)(n:Nat):It:=⟨λi _=>i<n,λi H x H'=>H'=H/\x=.int (a+i),λi _=>n<=i⟩
theorem V0{P:Program}{w:World}{K:J'}{A:Expr}(a it:Addr):Turn P w K A (Js K a) [it] it (λi h=>h.IsListIter it a i) where
 mem:=by simp
 obj:=λi h st b hb=>by
  have e:b=it:=by simpa using hb
  subst e;obtain⟨o,e,c,d⟩:=st;show⟨o,e,λv z=>by rw[d] at z;cases z⟩
 keep:=λi h h' st k=>st.at λo e=>k it (by simp) o e
 item:=by
  intro X l hw m r i y s σ H E I hf st hg;subst l hw m;obtain⟨xs,x,f,j⟩:=hg;obtain⟨its,g,p,hz⟩:=I.list f;obtain⟨u,F,C⟩:=g.get j;obtain⟨f0,f1,f2,q,f4,n⟩:=hf it (by simp);show wpAny_pyNext_list_item st p.isList (x:=u) (by simpa using F) λh' t B=>?_
  have I1:Inv X y σ H { s with heap:=h' }:=I.turned (t':=s.toks) (λb o hb e=>(B.2 b hb).trans e) f0 f1 q f4 n;obtain⟨o,e,c,d⟩:=id t;show⟨u,rfl,wD (s:={ s with heap:=h' }) e c d (by decide) ⟨x,H,I1,C,⟨rfl,λys D=>by rw[I.iu D f];show j⟩,t,λb hb=>(hf b hb).1⟩⟩
 done:=by
  intro X l hw m r i y s σ H E I hf st hg;subst l hw m;obtain⟨xs,f,j⟩:=hg;obtain⟨its,g,p,hz⟩:=I.list f;obtain⟨f0,f1,f2,q,f4,n⟩:=hf it (by simp);have J:=g.length;show wpAny_pyNext_list_end (I.ok.hd r) st p.isList (by simp;ext) λh' G=>⟨rfl,I.turned (t':=s.toks) (λb o hb e=>G b o hb e) f0 f1 q f4 n⟩
 self:=λ_ _ _ _ _ st h=>wpAny_pyIter_listiter st h
theorem V5{P:Program}{w:World}{K:J'}{A:Expr}(a it:Addr):Turn P w K A (Jr K a) [it] it (λi h=>h.IsTupleIter it a i) where
 mem:=by simp
 obj:=λi h st b hb=>by
  have e:b=it:=by simpa using hb
  subst e;obtain⟨o,e,c,d⟩:=st;show⟨o,e,λv z=>by rw[d] at z;cases z⟩
 keep:=λi h h' st k=>st.at λo e=>k it (by simp) o e
 item:=by
  intro X l hw m r i y s σ H E I hf st hg;subst l hw m;obtain⟨xs,x,f,j⟩:=hg;obtain⟨its,g,p,hz⟩:=I.tuple f;obtain⟨u,F,C⟩:=g.get j;obtain⟨f0,f1,f2,q,f4,n⟩:=hf it (by simp);show wpAny_pyNext_tuple_item st (show s.heap.IsTuple a its.toArray from p) (x:=u) (by simpa using F) λh' t B=>?_
  have I1:Inv X y σ H { s with heap:=h' }:=I.turned (t':=s.toks) (λb o hb e=>(B.2 b hb).trans e) f0 f1 q f4 n;obtain⟨o,e,c,d⟩:=id t;show⟨u,rfl,wD (s:={ s with heap:=h' }) e c d (by decide) ⟨x,H,I1,C,⟨rfl,λys D=>by rw[I.lY D f];show j⟩,t,λb hb=>(hf b hb).1⟩⟩
 done:=by
  intro X l hw m r i y s σ H E I hf st hg;subst l hw m;obtain⟨xs,f,j⟩:=hg;obtain⟨its,g,p,hz⟩:=I.tuple f;obtain⟨f0,f1,f2,q,f4,n⟩:=hf it (by simp);have J:=g.length;show wpAny_pyNext_tuple_end (I.ok.hd r) st (show s.heap.IsTuple a its.toArray from p) (by simp;ext) λh' G=>⟨rfl,I.turned (t':=s.toks) (λb o hb e=>G b o hb e) f0 f1 q f4 n⟩
 self:=λ_ _ _ _ _ st h=>wpAny_pyIter_tupleiter st h
theorem V4{P:Program}{w:World}{K:J'}{q:Expr}(it:Addr)(a:Int)(n:Nat):Turn P w K q (B0 a n) [it] it (λi h=>IsRangeIter h it (a+(i:Nat)*1) ((n:Int)-(i:Nat)) 1) where
 mem:=by simp
 obj:=λi h st b hb=>by
  have e:b=it:=by simpa using hb
  subst e
  show⟨_,st,λv z=>by
   have p:Data.fields _=Data.cell v:=z;cases p⟩
 keep:=λi h h' st k=>k it (by simp) _ st
 item:=by
  intro X d hw f c i m s σ H E I hf st hg;subst d hw f;obtain⟨f0,f1,f2,j,f4,g⟩:=hf it (by simp);have W:=Walks.range (prog:=X.prog) (w:=X.w) (I.ok.hd c) it a 1 n;show W.item i s _ _ hg st λv h' tk r l kk=>?_
  obtain⟨t,rfl⟩:=r;have I1:Inv X m σ H { s with heap:=h',toks:=tk }:=I.turned (λb o hb e=>kk b o (by simpa using hb) e) f0 f1 j f4 g;show⟨_,rfl,wD (s:={ s with heap:=h',toks:=tk }) (n:="range_iterator") l rfl rfl (by decide) ⟨.int (a+i),H,I1,⟨t,?_⟩,⟨rfl,rfl⟩,l,λb hb=>(hf b hb).1⟩⟩;rw[Int.mul_one]
 done:=by
  intro X d hw f c i m s σ H E I hf st hg;subst d hw f;obtain⟨f0,f1,f2,j,f4,g⟩:=hf it (by simp);show wpAny_pyNext_range_end (I.ok.hd c) st (by have:n<=i:=hg;ext) λh' u=>⟨rfl,I.turned (t':=s.toks) (λb o hb e=>u b o hb e) f0 f1 j f4 g⟩
 self:=λ_ _ _ _ _ st h=>wpAny_pyIter_rangeiter st h
section
variable{X:Cx}{tg:Expr}
theorem MF{f:List (Addr×Obj)}{d:St}{H:Hp}{s:Shared}{R:It->Hp->Prop}{E:Value->Shared->Prop}{a c:Int}{t u v:Tok}{tk:Nat}(I:Inv X f d H s)(j:-(2 ^ 62)<=a)(i:a<2 ^ 62)(h:-(2 ^ 62)<=c)(g:c<2 ^ 62)
  (q:R (B0 a (c-a).toNat) H):wpAny (model X.prog X.w) X.A (pyIter (.ref s.heap.objs.size)) (BX X f d tg R) E { s with heap:=s.heap.push { cls:=.type "range",data:=.fields #[.int a t,.int c u,.int 1 v] },toks:=tk }:=by
 show wpAny_pyIter_range (IsRange.new ..) (small_one j i h g) ?_;have I1:Inv X f d H { s with heap:=s.heap.push { cls:=.type "range",data:=.fields #[.int a t,.int c u,.int 1 v] },toks:=tk }:=I.kept λb o e=>aq _ e
 show⟨(s.heap.push { cls:=.type "range",data:=.fields #[.int a t,.int c u,.int 1 v] }).objs.size,[(s.heap.push { cls:=.type "range",data:=.fields #[.int a t,.int c u,.int 1 v] }).objs.size],_,_,H,rfl,
  I1.kept (t':=tk) λb o e=>aq _ e,V4 _ a (c-a).toNat,?_,λb hb=>?_,q⟩
 .have l:a+((0:Nat):Int)*1=a:=by simp
  have k:(((c-a).toNat:Nat):Int)-((0:Nat):Int)=Builtin.Range.rangeSize a c 1:=by rw[rangeSize_one];split<;>ext
  show IsRangeIter _ _ (a+((0:Nat):Int)*1) ((((c-a).toNat:Nat):Int)-((0:Nat):Int)) 1;rw[l,k];show aF _ rfl
 have e:b=(s.heap.push { cls:=.type "range",data:=.fields #[.int a t,.int c u,.int 1 v] }).objs.size:=by simpa using hb
 subst e;show I1.k7 (aD _) (I1.cN.fresh (aD _))
def Qc(b:TA):TI:=λσ H R=>b σ H λa H1=>∃j:Int,a=[.int j]/\-(2 ^ 62)<=j/\j<2 ^ 62/\R (B0 0 j.toNat) H1
def Qb(b:TA):TI:=λσ H R=>b σ H λa H1=>∃i j:Int,a=[.int i,.int j]/\(-(2 ^ 62)<=i/\i<2 ^ 62/\-(2 ^ 62)<=j/\j<2 ^ 62)/\R (B0 i (j-i).toNat) H1
theorem VZ{a:Expr}{c:TA}{p pos:Pos}(hg:Gl X "range")(hm:X.mg "range"=none)(ha:PA X [a] c)(i:starEach [a] X.env=[(false,eval a X.env)]:=by rfl):PI X tg (.Call (.Name "range" p) [a] [] pos) (Qc c):=by
 intro l s σ H R I h;show Call_ (rR I hg hm boot_range (bz (cW (ha pos l s σ H _ I h) λus s1 k=>?_) i rfl));obtain⟨m,H1,I1,f,b⟩:=k;obtain⟨j,e,b,g,q⟩:=b;subst e;cases f with
 | cons r d=>
  cases d;obtain⟨t,rfl⟩:=r;show call_range_1 (MF I1 (by ext) (by ext) b g (by simpa using q))
theorem VY{a b:Expr}{f:TA}{p pos:Pos}(hg:Gl X "range")(hm:X.mg "range"=none)(ha:PA X [a,b] f)(u:starEach [a,b] X.env=[(false,eval a X.env),(false,eval b X.env)]:=by rfl)(g:starEach [b] X.env=[(false,eval b X.env)]:=by rfl) :
  PI X tg (.Call (.Name "range" p) [a,b] [] pos) (Qb f):=by
 intro v s σ H R I h;show Call_ (rR I hg hm boot_range (bz (cW (ha pos v s σ H _ I h) λus s1 ⟨w,H1,I1,k,d⟩=>?_) (by rw[u,g]) (by rw[g];rfl)));obtain⟨i,j,e,⟨d,o,n,m⟩,q⟩:=d;subst e;cases k with
 | cons r c=>
  cases c with
  | cons l c=>
   cases c;obtain⟨t,rfl⟩:=r;obtain⟨t',rfl⟩:=l;show call_range_2 (MF I1 d o n m q)
def O8(c:TI)(g:TG)(d:TS):TS:=λD σ H=>c σ H λJ H1=>∃W:Nat->Nat->St->Hp->Prop,(∃m,W 0 m σ H1)/\∀i m σ H,W i m σ H->
 (J.stop i H/\D.nx σ H)\/(J.go i H/\∃N:St->Hp->Prop,(∀b H',N b H'->∃a,a<m/\W (i+1) a b H')/\∀x H',J.Dz i H x H'->g x σ H' λe f=>d { D with nx:=N,ct:=N,bk:=D.nx } e f)
noncomputable def zE(fp:List Addr)(h:Heap):List (Addr×Obj):=fp.filterMap λb=>(h.get? b).map λo=>(b,o)
theorem Dj{fp:List Addr}{h:Heap}{b:Addr}{o:Obj}(hb:b∈fp)(e:h.get? b=some o):(b,o)∈zE fp h:=List.mem_filterMap.mpr ⟨b,hb,by rw[e];rfl⟩
theorem U8{fp:List Addr}{h:Heap}{p:Addr×Obj}(a:p∈zE fp h):p.1∈fp/\h.get? p.1=some p.2:=by
 obtain⟨b,hb,e⟩:=List.mem_filterMap.mp a;cases q:h.get? b with
 | none=>rw[q] at e;cases e
 | some o=>
  rw[q] at e;have c:(b,o)=p:=aX e;subst c;show⟨hb,q⟩
theorem Inv.pinned{a:List (Addr×Obj)}{c:St}{H:Hp}{s:Shared}{fp:List Addr}(I:Inv X a c H s)(i:∀b∈fp,jX X a H b)(h:∀b∈fp,∃o,s.heap.get? b=some o/\∀v,o.data≠.cell v):Inv X (a++zE fp s.heap) c H s:=
 I.pQ λp g=>(aJ.mp g).elim (λz=>I.pin p (aY _ z)) λz=>by
  obtain⟨hb,e⟩:=U8 z;obtain⟨f0,f1,f2,_⟩:=i p.1 hb;obtain⟨o,f,d⟩:=h p.1 hb;rw[e] at f;cases f;show⟨e,f0,f1,f2,d⟩
theorem Inv.jd{b c:List (Addr×Obj)}{a:St}{H:Hp}{s:Shared}(I:Inv X (b++c) a H s):Inv X b a H s:=I.pQ λp d=>I.pin p (aY _ (bE _ d))
theorem RX{c:Expr}{body:List Stmt}{O:TI}{g:TG}{Q:TS}{pos:Pos}(z:PassesOwn (model X.prog X.w) X.A X.env X.xe)(S:X.calm=true)(hi:PI X tg c O)(hg:PG X tg g)(hb:nT X body Q)
  (hs:∀x,foldedSetIterable c X.env x=pure x:=by intro _;rfl):PS X (.For tg c body [] pos) (O8 O g Q):=by
 intro q s σ H D I h;show wpAny_For (cW (hi q s σ H _ I h) λv s1 h1=>cW h1 λHJ s2 h2=>?_) hs;obtain⟨it,fp,P,J,H2,e,I2,T,Z,f2,W,⟨m0,w0⟩,turn⟩:=h2;subst e
 -- wY stays true of rY xt objects through rY loop
 have E:∀{H':Hp},(∀b∈fp,H' b=none)->∀b∈fp,jX X q H' b:=λhn b hb=>⟨hn b hb,(f2 b hb).2⟩
 show codeAny_forLoop_any (λn R=>∃i B H',Inv X q B H' R/\P i R.heap/\(∀b∈fp,H' b=none)/\W i n B H') ?_ m0 ⟨0,σ,H2,I2,Z,λb hb=>(f2 b hb).1,w0⟩;rintro n s3 ⟨i,y,C,I3,V,U,w3⟩;rcases turn i n y C w3 with⟨stop,qn⟩ | ⟨go,N,hN,step⟩
 .refine wpAny_passesOwn z (cW (T.done X rfl rfl rfl S i q s3 y C X.xe I3 (E U) V stop) λr s4 p=>?_);obtain⟨G,I4⟩:=p;subst G;show wpAny_execs_nil ⟨y,C,I4,qn⟩
 show wpAny_passesOwn z (cW (T.item X rfl rfl rfl S i q s3 y C X.xe I3 (E U) V go) λr s4 p=>?_);obtain⟨u,G,h4⟩:=p;subst G;show wpAny_passesOwn z (cW h4 λ_ s5 p=>?_);obtain⟨x,Y,I5,r5,y5,M,K⟩:=p;have L:=I5.pinned (E K) (T.obj _ _ M);show wpAny_passesOwn z (cW (hg _ s5 y Y x u _ L r5 (step x Y y5)) λ_ s6 p=>?_);obtain⟨OM,H6,I6,q6⟩:=p;show wpAny_passesOwn z (cW (hb _ s6 OM H6 _ I6 q6) λf F l=>?_);have again:∀{a:St}{k:Hp},Inv X (q++zE fp s5.heap) a k F->N a k->∃m,m<n/\∃i B H',Inv X q B H' F/\P i F.heap/\(∀b∈fp,H' b=none)/\W i m B H':=λ{a k} j t=>by
  obtain⟨m',hm,w7⟩:=hN a k t;show⟨m',hm,i+1,a,k,j.jd,T.keep _ _ _ M λb hb o e=>(j.pin (b,o) (aY _ (aY _ (Dj hb e)))).1,λb hb=>?_,w7⟩;obtain⟨o,e,d⟩:=T.obj _ _ M b hb;show(j.pin (b,o) (aY _ (aY _ (Dj hb e)))).2.1
 cases f with
 | next=>obtain⟨a,k,j,t⟩:=l;show again j t
 | cont=>obtain⟨a,k,j,t⟩:=l;show again j t
 | brk=>obtain⟨a,k,j,l⟩:=l;show⟨a,k,j.jd,l⟩
 | ret v=>obtain⟨x7,a,k,j,r7,l⟩:=l;show⟨x7,a,k,j.jd,r7,l⟩
end
noncomputable abbrev R2:=V->V->Hp->VK->Prop
def ib(X:Cx)(f:Value->Value->Sem Value)(r:R2):Prop:=
 ∀(a:List (Addr×Obj))(s:Shared)(σ:St)(H:Hp)(x y:V)(v u:Value)(Q:VK),Inv X a σ H s->RelV x v->RelV y u->r x y H Q->
  wpAny (model X.prog X.w) X.A (f v u) (EP X a σ Q) X.xe s
def Jo(X:Cx)(f:Value->Sem Value)(r:V->Hp->VK->Prop):Prop:=
 ∀(a:List (Addr×Obj))(s:Shared)(σ:St)(H:Hp)(x:V)(v:Value)(Q:VK),Inv X a σ H s->RelV x v->r x H Q->
  wpAny (model X.prog X.w) X.A (f v) (EP X a σ Q) X.xe s
def dD(X:Cx)(f:Value)(r:List V->Hp->VK->Prop):Prop:=
 ∀(a:List (Addr×Obj))(s:Shared)(σ:St)(H:Hp)(xs:List V)(us:List Value)(Q:VK),Inv X a σ H s->Vals xs us->r xs H Q->
  wpAny (model X.prog X.w) X.A (call f us) (EP X a σ Q) X.xe s
def Aw(r:R2)(b a:TE):TE:=λσ H Q=>b σ H λx H1=>a σ H1 λy c=>r x y c Q
def Yn(r:V->Hp->VK->Prop)(a:TE):TE:=λσ H Q=>a σ H λx H1=>r x H1 Q
def rI(C:Int->Int->Prop)(g:Int->Int->V):R2:=λx y H Q=>∃i j,x=.int i/\y=.int j/\C i j/\Q (g i j) H
def qD(g:Int->Int->V):R2:=λx y H Q=>∃i j,x=.int i/\y=.int j/\Q (g i j) H
def rU(g:Int->V):V->Hp->VK->Prop:=λx H Q=>∃i,x=.int i/\Q (g i) H
section
variable{X:Cx}{a b c:Expr}{ta tb tc:TE}{pos:Pos}
theorem EA(ha:PE X a ta)(hb:PE X b tb){e:List (Addr×Obj)}{s:Shared}{c:St}{H:Hp}{R:V->V->Hp->Prop}(I:Inv X e c H s)
  (h:ta c H λx H1=>tb c H1 λy d=>R x y d) {Q:Value->Shared->Prop} {f:Value->Value->Sem Value}
  (n:∀v u s2 x y d,Inv X e c d s2->RelV x v->RelV y u->R x y d->wpAny (model X.prog X.w) X.A (f v u) Q X.xe s2) :
  wpAny (model X.prog X.w) X.A (eval a X.env) (λv o=>wpAny (model X.prog X.w) X.A (eval b X.env) (λu m=>wpAny (model X.prog X.w) X.A (f v u) Q X.xe m) X.xe o) X.xe s:=by
 show cW (ha e s c H _ I h) λv s1 g=>?_
 obtain⟨x,H1,I1,j,l⟩:=g;show cW (hb e s1 c H1 _ I1 l) λu s2 g=>?_
 obtain⟨y,d,I2,i,k⟩:=g;show n v u s2 x y d I2 j i k
theorem Ke{op:Operator}{r:R2}(e:ib X (binaryOp op) r)(ha:PE X a ta)(hb:PE X b tb):PE X (.BinOp a op b pos) (Aw r ta tb):=by
 intro f s σ H Q I h;show wpAny_BinOp (EA ha hb I h λv u s2 x y g I2 d c q=>e f s2 σ g x y v u Q I2 d c q)
theorem Qa{op:UnaryOp}{r:V->Hp->VK->Prop}(e:Jo X (unaryOp op) r)(ha:PE X a ta):PE X (.UnaryOp op a pos) (Yn r ta):=by
 intro b s σ H Q I h;show UnaryOp_ (cW (ha b s σ H _ I h) λv s1 f=>by obtain⟨x,H1,I1,c,d⟩:=f;show e b s1 σ H1 x v Q I1 c d)
theorem DN{f:Value->Value->Sem Value}{C:Int->Int->Prop}{g:Int->Int->Int}
  (a:∀(i j:Int)(t u:Tok)(s:Shared)(Q:Value->Shared->Prop)(E:Value->Shared->Prop),C i j->Q (.int (g i j) s.toks) { s with toks:=s.toks+1 }->wpAny (model X.prog X.w) X.A (f (.int i t) (.int j u)) Q E s) :
  ib X f (rI C λi j=>.int (g i j)):=by
 intro e s σ H x y v u Q I c b h;obtain⟨i,j,rfl,rfl,d,q⟩:=h;obtain⟨t,rfl⟩:=c;obtain⟨t',rfl⟩:=b;show a i j t t' s _ _ d ⟨.int (g i j),H,I.tok _,⟨_,rfl⟩,q⟩
theorem JO{f:Value->Value->Sem Value}{g:Int->Int->Int}
  (a:∀(i j:Int)(t u:Tok)(s:Shared)(Q:Value->Shared->Prop)(E:Value->Shared->Prop),Q (.int (g i j) s.toks) { s with toks:=s.toks+1 }->wpAny (model X.prog X.w) X.A (f (.int i t) (.int j u)) Q E s) :
  ib X f (qD λi j=>.int (g i j)):=by
 intro d s σ H x y v u Q I c b h;obtain⟨i,j,rfl,rfl,q⟩:=h;obtain⟨t,rfl⟩:=c;obtain⟨t',rfl⟩:=b;show a i j t t' s _ _ ⟨.int (g i j),H,I.tok _,⟨_,rfl⟩,q⟩
theorem B9{f:Value->Value->Sem Value}{g:Int->Int->Bool}
  (a:∀(i j:Int)(t u:Tok)(s:Shared)(Q:Value->Shared->Prop)(E:Value->Shared->Prop),Q (.bool (g i j)) s->wpAny (model X.prog X.w) X.A (f (.int i t) (.int j u)) Q E s) :
  ib X f (qD λi j=>.bl (g i j)):=by
 intro d s σ H x y v u Q I c b h;obtain⟨i,j,rfl,rfl,q⟩:=h;obtain⟨t,rfl⟩:=c;obtain⟨t',rfl⟩:=b;show a i j t t' s _ _ ⟨.bl (g i j),H,I,rfl,q⟩
def rO(i j:Int):Prop:=0<j/\j<1073741824
def wx(i j:Int):Prop:=0<=j/\j<=1000000/\i.natAbs<2 ^ 64
def iB(i j:Int):Prop:=(-(2 ^ 64)<i/\i<2 ^ 64)\/(-(2 ^ 64)<j/\j<2 ^ 64)
theorem iB.ok{i j:Int}(h:iB i j):IntMulOk i j:=by
 rcases h with⟨b,a⟩ | ⟨b,a⟩
 .exact .of_left (intBits_le_64 b a)
 show .of_right (intBits_le_64 b a)
theorem xj:ib X (binaryOp .Add) (qD λi j=>.int (i+j)):=JO λ_ _ _ _ _ _ _ q=>add_int q
theorem RW:ib X (binaryOp .Sub) (qD λi j=>.int (i-j)):=JO λ_ _ _ _ _ _ _ q=>sub_int q
theorem QM:ib X (binaryOp .Mult) (rI iB λi j=>.int (i*j)):=DN λ_ _ _ _ _ _ _ a q=>mul_int q a.ok
theorem R8:ib X (binaryOp .FloorDiv) (rI rO λi j=>.int (i/j)):=DN λi j _ _ _ _ _ a q=>by
 have c:(0:Int)<j:=a.1;have b:j<1073741824:=a.2;show floordiv_int (by ext) (by rw[Int.fdiv_eq_ediv_of_nonneg i (by ext)];show q) (.inl (PyProof.noPylong_small (by ext)))
theorem QL:ib X (binaryOp .Mod) (rI (λ_ j=>0<j) λi j=>.int (i%j)):=DN λi j _ _ _ _ _ a q=>by
 have b:(0:Int)<j:=a;show mod_int' (by ext) (by rw[Int.fmod_eq_emod_of_nonneg i (by ext)];show q)
theorem QK:ib X (binaryOp .Pow) (rI wx λi j=>.int (i ^ j.toNat)):=DN λ_ _ _ _ _ _ _ a q=>pow_int_small a.1 a.2.1 a.2.2 q
theorem Yf{f:Value->Sem Value}{g:Int->Int}
  (a:∀(i:Int)(t:Tok)(s:Shared)(Q:Value->Shared->Prop)(E:Value->Shared->Prop),Q (.int (g i) s.toks) { s with toks:=s.toks+1 }->wpAny (model X.prog X.w) X.A (f (.int i t)) Q E s) :
  Jo X f (rU λi=>.int (g i)):=by
 intro c s σ H x v Q I b h;obtain⟨i,rfl,q⟩:=h;obtain⟨t,rfl⟩:=b;show a i t s _ _ ⟨.int (g i),H,I.tok _,⟨_,rfl⟩,q⟩
theorem QJ:Jo X (unaryOp .USub) (rU λi=>.int (-i)):=Yf λ_ _ _ _ _ q=>neg_int q
end
section
variable{X:Cx}{a b c:Expr}{ta tb tc:TE}{pos:Pos}
theorem KA{c:List (Addr×Obj)}{a:St}{H:Hp}{s:Shared}{Q:VK}{k b:Bool}(I:Inv X c a H s)(q:Q (.bl k) H)(e:k=b):EP X c a Q (.bool b) s:=by
 subst e;show⟨.bl k,H,I,rfl,q⟩
theorem EJ:ib X (compareOp .Lt) (qD λi j=>.bl (decide (i<j))):=B9 λ_ _ _ _ _ _ _ q=>lt_int q
theorem J3:ib X (compareOp .LtE) (qD λi j=>.bl (decide (i<=j))):=B9 λ_ _ _ _ _ _ _ q=>le_int q
theorem P9:ib X (compareOp .Gt) (qD λi j=>.bl (decide (j<i))):=B9 λ_ _ _ _ _ _ _ q=>gt_int q
theorem P8:ib X (compareOp .GtE) (qD λi j=>.bl (decide (j<=i))):=B9 λ_ _ _ _ _ _ _ q=>ge_int q
theorem qE:ib X (compareOp .In) (λx y H Q=>∃i j,x=.str i/\y=.str j/\Q (.bl (!(Builtin.Str.occurrences j i 0 j.length 1).isEmpty)) H):=by
 intro c s σ H x y v u Q I b a h;obtain⟨i,j,rfl,rfl,q⟩:=h;obtain⟨t,rfl⟩:=b;obtain⟨t',rfl⟩:=a;show in_str (KA I q rfl)
theorem QI:ib X (compareOp .Is) (λx y H Q=>y=.non/\Q (.bl (decide (x=.non))) H):=by
 intro c s σ H x y v u Q I a b h;obtain⟨rfl,q⟩:=h;cases b;show is_none_gen (KA I q ?_);cases x<;>first
  | (cases a;rfl)
  | (obtain⟨t,rfl⟩:=a;rfl)
theorem ib.or{f:Value->Value->Sem Value}{r c:R2}(h:ib X f r)(h':ib X f c):ib X f (λx y H Q=>r x y H Q\/c x y H Q):=by
 intro d s σ H x y v u Q I b a q;rcases q with q | q
 .exact h d s σ H x y v u Q I b a q
 show h' d s σ H x y v u Q I b a q
theorem Kz(b:Expr){op:CmpOp}(h:op≠.In:=by decide)(a:op≠.NotIn:=by decide):behindInMarks op b=false:=by
 have d:(op==CmpOp.In)=false:=by cases op<;>first | rfl | show absurd rfl h
 have c:(op==CmpOp.NotIn)=false:=by cases op<;>first | rfl | show absurd rfl a
 cases b<;>simp[behindInMarks,d,c]
theorem R7{op:CmpOp}{r:R2}(e:ib X (compareOp op) r)(ha:PE X a ta)(hb:PE X b tb)(hm:behindInMarks op b=false):PE X (.Compare a [op] [b] pos) (Aw r ta tb):=by
 intro f s σ H Q I h;show wpAny_Compare1 (EA ha hb I h λv u s2 x y g I2 d c q=>e f s2 σ g x y v u Q I2 d c q) hm
def EH(t:TE):TT:=λσ H Q=>t σ H λx H'=>∃k,x=.bl k/\Q k H'
theorem R6{op:CmpOp}{r:R2}(o:ib X (compareOp op) r)(ha:PE X a ta)(hb:PE X b tb)(hm:behindInMarks op b=false):PT X (.Compare a [op] [b] pos) (EH (Aw r ta tb)):=by
 intro f s σ H Q I h;show wpAny_isTrue_Compare1 (cW (ha f s σ H _ I h) λv s1 d=>?_) hm;obtain⟨x,H1,I1,j,n⟩:=d;show cW (hb f s1 σ H1 _ I1 n) λu s2 d=>?_
 obtain⟨y,q,I2,i,m⟩:=d;show cW (o f s2 σ q x y v u _ I2 j i m) λc s3 d=>?_
 obtain⟨z,p,I3,g,k,e,l⟩:=d;subst e;cases g;show bK ⟨p,I3,l⟩
def Kw(r c:R2)(ta tb tc:TE):TE:=λσ H Q=>ta σ H λx H1=>tb σ H1 λy e=>r x y e λz a=>∃k,z=.bl k/\
 (if k=true then tc σ a λb d=>c y b d Q else Q (.bl false) a)
theorem TM{op i:CmpOp}{r l:R2}(J:ib X (compareOp op) r)(G:ib X (compareOp i) l)(ha:PE X a ta)(hb:PE X b tb)(K:PE X c tc)
  (hm:lastMarks [op,i] [b,c]=false:=by with_unfolding_all rfl):PT X (.Compare a [op,i] [b,c] pos) (EH (Kw r l ta tb tc)):=by
 intro g s σ H Q I h;show isTrue_chain (cW (ha g s σ H _ I h) λv s1 f=>?_) hm;obtain⟨x,H1,I1,A,E⟩:=f;show test_link (cW (hb g s1 σ H1 _ I1 E) λu s2 f=>?_);obtain⟨y,R,I2,j,D⟩:=f;show cW (J g s2 σ R x y v u _ I2 A j D) λd s3 f=>?_
 obtain⟨z,n,I3,w,k,e,m⟩:=f;subst e;cases w;show bK ?_;cases k with
 | false=>
  obtain⟨T,M,F⟩:=m;cases M;show ite_ff ⟨n,I3,F⟩
 | true=>
  show ite_tt (test_last (cW (K g s3 σ n _ I3 m) λp s4 f=>?_));obtain⟨o,P,I4,t,C⟩:=f;show cW (G g s4 σ P y o u p _ I4 j t C) λd' s5 f=>?_
  obtain⟨S,O,N,q,k2,L,B⟩:=f;subst L;cases q;show bK ⟨O,N,B⟩
theorem yr:(sizeLine:Nat)<2 ^ 63:=by rw[sizeLine_eq];decide
theorem oU:ib X (binaryOp .Add) (λx y H Q=>∃i j,x=.str i/\y=.str j/\i.length+j.length<=sizeLine/\Q (.str (i++j)) H):=by
 intro c s σ H x y v u Q I b a h;obtain⟨i,j,rfl,rfl,hz,q⟩:=h;obtain⟨t,rfl⟩:=b;obtain⟨t',rfl⟩:=a;show add_str (λt' tk=>⟨.str (i++j),H,I.tok _,⟨_,rfl⟩,q⟩) hz
theorem mV{x:V}{a:List Value}(r:Vals [x] a):∃u,a=[u]/\RelV x u:=by
 cases r with
 | cons c b=>cases b;show⟨_,rfl,c⟩
theorem yk{x y:V}{b:List Value}(r:Vals [x,y] b):∃u a,b=[u,a]/\RelV x u/\RelV y a:=by
 cases r with
 | cons f e=>
  cases e with
  | cons d c=>cases c;show⟨_,_,rfl,f,d⟩
theorem U7(b:X.calm=true):dD X (.builtin "max") (λxs H Q=>∃i j,xs=[.int i,.int j]/\Q (.int (if j>i then j else i)) H):=by
 intro d s σ H xs us Q I r h;obtain⟨i,j,rfl,q⟩:=h;obtain⟨u,c,rfl,⟨t,rfl⟩,⟨t',rfl⟩⟩:=yk r;show max_two_ints (I.ok.hd b) λh' tk k=>⟨_,H,I.kept k,?_,q⟩
 by_cases a:j>i
 .rw[if_pos a,if_pos a];show⟨_,rfl⟩
 rw[if_neg a,if_neg a];show⟨_,rfl⟩
theorem U6:dD X (.type "int") (λxs H Q=>(∃i,xs=[.int i]/\Q (.int i) H)\/∃k,xs=[.bl k]/\Q (.int (if k then 1 else 0)) H):=by
 intro b s σ H xs us Q I r h;rcases h with⟨i,rfl,q⟩ | ⟨k,rfl,q⟩
 .obtain⟨u,rfl,t,rfl⟩:=mV r;show call_int_int ⟨.int i,H,I,⟨_,rfl⟩,q⟩
 obtain⟨u,rfl,a⟩:=mV r;cases a;show call_int_bool ⟨.int (if k then 1 else 0),H,I.tok _,⟨_,rfl⟩,q⟩
end
theorem lS.some_of{v:V}{o:Option Value}(r:lS (some v) o):∃u,o=some u/\RelV v u:=by
 cases o with
 | none=>show(show False from r).elim
 | some u=>show⟨u,rfl,r⟩
structure Cls(K:J')(C:Addr):Prop where
 pg:PySem.W.plainGet K C Str.empty=true
 hd:PySem.W.hasDictIn K C=true
 po:PySem.W.plainOver K C=true
 sa:PySem.W.findIn K (.ref C) "__setattr__"=some (some (.builtin "object.__setattr__"))
def Kv(K:J')(C:Addr)(f:Str):Prop:=PySem.W.findIn K (.ref C) f=some none
structure eQ(k:Nat)(A:Around):Prop where
 hd:A.handled=none
 dp:A.depth+3*k+5<recursionLimit
 un:A.units+16*k+200<cLine
theorem eQ.mono{j k:Nat}{A:Around}(r:eQ k A)(h:j<=k):eQ j A:=⟨r.hd,by have:=r.dp;ext,by have:=r.un;ext⟩
theorem eQ.deeper{k:Nat}{A:Around}(r:eQ (k+1) A)(env:Env):eQ k (A.deeper env):=
 ⟨r.hd,by have:=r.dp;show A.depth+1+3*k+5<_;ext,by have:=r.un;show A.units+3+16*k+200<_;ext⟩
theorem eQ.depth{k:Nat}{A:Around}(r:eQ k A):A.depth<recursionLimit:=by have:=r.dp;ext
theorem eQ.units{k:Nat}{A:Around}(r:eQ k A):A.units+64<cLine:=by have:=r.un;ext
noncomputable def JN:TA:=λ_ H Q=>Q [] H
noncomputable def J2(a:TE)(tr:TA):TA:=λσ H Q=>a σ H λx H1=>tr σ H1 λxs b=>Q (x::xs) b
section
variable{X:Cx}{e:Expr}{es:List Expr}{te:TE}{t:TA}{pos:Pos}
theorem oM:PA X [] JN:=λ_ _ _ _ H Q I h=>Calls.spliced_nil ⟨[],H,I,.nil,h⟩
theorem m9(ha:PE X e te)(j:PA X es t)(i:starEach (e::es) X.env=(false,eval e X.env)::starEach es X.env:=by rfl):PA X (e::es) (J2 te t):=by
 intro pos b s σ H Q I h;rw[i];show wpAny _ _ (spliced ((false,eval e X.env)::backTo pos (starEach es X.env))) _ _ s;show Calls.spliced_cons (cW (ha b s σ H _ I h) λu s1 a=>?_);obtain⟨x,H1,I1,d,g⟩:=a;show cW (j pos b s1 σ H1 _ I1 g) λus s2 a=>by obtain⟨xs,k,I2,c,f⟩:=a;show⟨x::xs,k,I2,.cons d c,f⟩
def O7(t:TA):TE:=λσ H Q=>t σ H λxs H1=>xs.length<=sizeLine/\∀p,H1 p=none->Q (.ref p) (upd H1 p (.tup xs))
def O6(t:TA):TE:=λσ H Q=>t σ H λxs H1=>xs.length<=sizeLine/\∀p,H1 p=none->Q (.ref p) (upd H1 p (.lst xs))
theorem Ku{a}(h:PA X es t):PE X (.Tuple es a pos) (O7 t):=by
 intro d s σ H Q I c;show wpAny_Tuple_spliced (cW (h pos d s σ H _ I c) λus s1 ⟨xs,H1,I1,r,z,q⟩=>⟨by rw[<-r.length];show z,?_⟩);have hf:H1 s1.heap.objs.size=none:=I1.cN.fresh (aD _);show⟨.ref s1.heap.objs.size,upd H1 s1.heap.objs.size (.tup xs),I1.laid (t':=s1.toks) (λb u e=>aq _ e) (aD _) ?_,rfl,q _ hf⟩;show⟨z,us,r,⟨_,aF _ rfl,rfl,_,rfl⟩⟩
theorem Kt(h:PA X es t):PE X (.List es pos) (O6 t):=by
 intro c s σ H Q I a;show wpAny_List_spliced (cW (h pos c s σ H _ I a) λus s1 ⟨xs,H1,I1,r,z,q⟩=>⟨by rw[<-r.length];show z,?_⟩);have hf:H1 s1.heap.objs.size=none:=I1.cN.fresh (aD _);show⟨.ref s1.heap.objs.size,upd H1 s1.heap.objs.size (.lst xs),I1.laid (t':=s1.toks) (λb u e=>aq _ e) (aD _) ?_,rfl,q _ hf⟩;show⟨z,us,0,r,aF _ rfl⟩
end
noncomputable abbrev Sp:=List V->Hp->VK->XK->Prop
noncomputable abbrev t8:=List Env->Hp->Shared->XK->Value->Shared->Prop
structure uW(P:Program)(w:World)(K:J')(mg:Str->Option Value)(base:Heap)(A:Around)(outer:List Env)(s:Shared)(H:Hp):Prop where
 frames:A.frames=some outer
 mod:Mod K mg base
 bs:∀b o,base.get? b=some o->s.heap.get? b=some o/\H b=none
 vY:base.objs.size<=s.heap.objs.size
 ia:s.heap.FunFrames base outer
 tX:∀b∈iA outer,H b=none
 cN:i6 P w H s.heap
 bare:AllBare s.gens
def CE(outer:List Env)(P:Program)(w:World)(H:Hp)(s:Shared)(Q:VK)(u:Value)(a:Shared):Prop:=
 ∃v H',a.os=s.os/\AllBare a.gens/\Un (iA outer) [] H H' s.heap a.heap/\i6 P w H' a.heap/\RelV v u/\Q v H'
def CR(b:t8)(outer:List Env)(P:Program)(w:World)(H:Hp)(s:Shared)(Q:VK)(E:XK)(r:Result)(a:Shared):Prop:=
 match r with
 | .ok (.ret u)=>CE outer P w H s Q u a
 | .ok _=>False
 | .error e=>b outer H s E e a
structure jY(P:Program)(w:World)(K:J')(mg:Str->Option Value)(base:Heap)(CX:t8)(k:Nat)(f:Addr)(fd:FuncData)(ps:List Str)(sp:Sp):Prop where
 len:∀vs H Q E,sp vs H Q E->vs.length=ps.length
 run:∀(A:Around)(outer:List Env)(s:Shared)(H:Hp)(args:Args)(us:List Value)(vs:List V)(Q:VK)(E:XK),eQ k A->uW P w K mg base A outer s H->BindsTo s fd args (ps.zip us)->Vals vs us->sp vs H Q E->
  codeAny (model P w) A (.call (.ref f) args) (CR CX outer P w H s Q E) s
section
variable{X:Cx}{K':List (Addr×Obj)}{σ:St}{H:Hp}{s s':Shared}
theorem Inv.qO(I:Inv X K' σ H s):uW X.prog X.w X.K X.mg X.base X.A X.stack s H:=
 ⟨I.ok.frames,I.ok.mod,I.bs,aR I.ok.vY I.sz,I.stack,I.pM,I.cN,I.bare⟩
theorem Inv.after{Q:VK}{u:Value}(I:Inv X K' σ H s)(h:CE X.stack X.prog X.w H s Q u s'):EP X K' σ Q u s':=by
 obtain⟨v,H',os,bare,un,cN,r,q⟩:=h;obtain⟨hh,g,d,t,a⟩:=s';obtain rfl:a=s.os:=os;show⟨v,H',I.call (h':=hh) (g':=g) (d':=d) (t':=t) (ch:=[]) un cN bare (λb z=>absurd z (by simp)),r,q⟩
end
def P7(b:Sp)(c:List V)(E:XK)(t:TA):TE:=λσ H Q=>t σ H λa H1=>b (a++c) H1 Q E
def Binds(K:J')(a:FuncData)(ps:List Str)(ds:List Value):Prop:=
 ∀(s:Shared)(us:List Value),K.In s.heap->(us++ds).length=ps.length->BindsTo s a ⟨us,[]⟩ (ps.zip (us++ds))
theorem Binds.all{K:J'}{b:FuncData}{ps:List Str}(h:∀us:List Value,us.length=ps.length->bindArgs b ⟨us,[]⟩=pure (ps.zip us)):Binds K b ps []:=λs us _ a=>by
 rw[List.append_nil] at a ⊢;show .of_eq (h us a)
def zJ(c:t8)(X:Cx)(E:XK):Prop:=∀(b:List (Addr×Obj))(σ:St)(H:Hp)(s:Shared)(e:Value)(a:Shared),Inv X b σ H s->c X.stack H s E e a->X.xe e a
section
variable{X:Cx}{CX:t8}{k:Nat}{f C:Addr}{fd:FuncData}{ps:List Str}{sp:Sp}{qP:List V}{ds:List Value}{E:XK}{x m:Str}{p pos apos:Pos}{e o:Expr}{es:List Expr}{ta:TE}{t:TA}
theorem QH{g:List (Addr×Obj)}{d:St}{H:Hp}{s:Shared}{Q:VK}{a:List Value}{c:List V}(F:jY X.prog X.w X.K X.mg X.base CX k f fd ps sp)(m:eQ k X.A)(hb:Binds X.K fd ps ds)(hd:Vals qP ds)(l:zJ CX X E)
  (I:Inv X g d H s) (r:Vals c a) (h:sp (c++qP) H Q E):wpAny (model X.prog X.w) X.A (call (.ref f) a) (EP X g d Q) X.xe s:=by
 have i:Vals (c++qP) (a++ds):=r.append hd;have n:(a++ds).length=ps.length:=by rw[<-i.length];show F.len _ _ _ _ h
 show wpAny_call (codeAny_mono (F.run X.A X.stack s H ⟨a,[]⟩ (a++ds) (c++qP) Q E m I.qO (hb s a I.nB n) i h) λr j b=>?_);cases r with
 | error e=>show l g d H s e j I b
 | ok o=>
  cases o with
  | ret u=>show I.after b
  | next=>show False.elim b
  | brk=>show False.elim b
  | cont=>show False.elim b
theorem Ln(F:jY X.prog X.w X.K X.mg X.base CX k f fd ps sp)(c:eQ k X.A)(hg:Gl X x)(hm:X.mg x=some (.ref f))(d:PySem.W.keepIn X.K (.ref f)=true)(hb:Binds X.K fd ps ds)(hd:Vals qP ds)(b:zJ CX X E)
  (ha:PA X (e::es) t) (a:(x==("__debug__":Str))=false:=by decide) (he:starEach (e::es) X.env=(false,eval e X.env)::starEach es X.env:=by rfl) (g:(backTo pos (starEach es X.env)).any (·.1)=false:=by rfl) :
  PE X (.Call (.Name x p) (e::es) [] pos) (P7 sp qP E t):=by
 intro j s σ H Q I h;show wpAny_Call_Name_kw (zQ I hg hm ?_ a);show PySem.W.callWith_K (h₀:=X.base) I.ok.mod.vF d (cW (ha pos j s σ H _ I h) λus s1 i=>?_) he g;obtain⟨l,H1,I1,r,q⟩:=i;show⟨I1.nB,?_⟩;show QH F c hb hd b I1 r q
end
structure ck(N P:List Str)(sc:Scope):Prop where
 kind:sc.kind=.function
 co:sc.isCoroutine=false
 gen:sc.isGenerator=false
 nd:N.Nodup
 pre:N.take P.length=P
 par:∀x∈P,sc.names.lookup x=some .local\/sc.names.lookup x=some .cell
 xm:∀y∈sc.names,y.2≠.free
theorem MU{a:Str->Option NameKind}{x:Str}:∀{binds:List (Str×Value)}{m:Str->Option Value},(∀v,(x,v)∉binds)->bindL a binds m x=m x
 | [],_,_=>rfl
 | (n,v)::r,m,h=>by
  unfold bindL;rw[MU λw hw=>h w (au _ hw)];split
  .have:x≠n:=by rintro rfl;show h v aA
   simp[this]
  rfl
theorem MT{a:Str->Option NameKind}{x:Str}:∀{binds:List (Str×Value)}{m:Str->Option Value},(∀v,(x,v)∉binds)->bindC a binds m x=m x
 | [],_,_=>rfl
 | (n,v)::r,m,h=>by
  unfold bindC;rw[MT λw hw=>h w (au _ hw)];split
  .rfl
  have:x≠n:=by rintro rfl;show h v aA
  simp[this]
theorem MS{a:Str->Option NameKind}{x:Str}{v:Value}:∀{P:List Str}{b:List Value}{i:Nat}{m:Str->Option Value},P.Nodup->P[i]?=some x->b[i]?=some v->a x=some .local->
  bindL a (P.zip b) m x=some v
 | [],_,_,_,_,h,_,_=>by simp at h
 | _::_,[],_,_,_,_,h,_=>by simp at h
 | p::P,w::b,0,m,nd,d,c,e=>by
  simp at d c;subst d;subst c;show bindL a ((p,w)::P.zip b) m p=_;unfold bindL;rw[MU λv f=>(bj.mp nd).1 (List.of_mem_zip f).1,if_pos e];simp
 | p::P,w::b,i+1,m,nd,d,c,e=>by
  show bindL a ((p,w)::P.zip b) m x=_;unfold bindL;show MS (i:=i) (bj.mp nd).2 (by simpa using d) (by simpa using c) e
theorem MR{a:Str->Option NameKind}{x:Str}{v:Value}:∀{P:List Str}{b:List Value}{i:Nat}{m:Str->Option Value},P.Nodup->P[i]?=some x->b[i]?=some v->a x≠some .local->
  bindC a (P.zip b) m x=some v
 | [],_,_,_,_,h,_,_=>by simp at h
 | _::_,[],_,_,_,_,h,_=>by simp at h
 | p::P,w::b,0,m,nd,d,c,e=>by
  simp at d c;subst d;subst c;show bindC a ((p,w)::P.zip b) m p=_;unfold bindC;rw[MT λv f=>(bj.mp nd).1 (List.of_mem_zip f).1,if_neg e];simp
 | p::P,w::b,i+1,m,nd,d,c,e=>by
  show bindC a ((p,w)::P.zip b) m x=_;unfold bindC;show MR (i:=i) (bj.mp nd).2 (by simpa using d) (by simpa using c) e
noncomputable def start(N:List Str)(a:List V):St:=a.map some++List.replicate (N.length-a.length) none
noncomputable def pG(d:t8)(P:Program)(w:World)(K:J')(mg:Str->Option Value)(base:Heap)(N:List Str)(a:Str)(scope:Scope)(f:Addr)(b:Value)(A:Around)(outer:List Env)(s:Shared)(H:Hp)(E:XK):Cx where
 prog:=P
 w:=w
 K:=K
 mg:=mg
 base:=base
 A:=A.deeper (envOfC a scope s.heap.objs.size f b)
 N:=N
 dA:=s
 qQ:=H
 env:=envOfC a scope s.heap.objs.size f b
 outer:=outer
 stack:=envOfC a scope s.heap.objs.size f b::outer
 ex:=[]
 calm:=true
 fn:=λ_=>true
 pn:=[]
 xe:=λe g=>wpAny (model P w) (A.deeper (envOfC a scope s.heap.objs.size f b)) (leaving (envOfC a scope s.heap.objs.size f b) e) (λ_ c=>d outer H s E e c) (λh c=>d outer H s E h c) g
theorem ME{a:Scope}{n:Nat}{x:Str}(h:a.names.lookup x=some .cell):∃c,(cellsFrom n a.names []).lookup x=some c:=by
 have q:=PySem.W.cellsFrom_some a.names n [] (.inl h);show Option.isSome_iff_exists.mp q
theorem U5{M:t8}{P:Program}{w:World}{K:J'}{mg:Str->Option Value}{base:Heap}{N ps:List Str}{d:Str}{scope:Scope}{f:Addr}{C:Value}{A:Around}{outer:List Env}{s G:Shared}{H:Hp}{E:XK}{D:List Value}{l:List V}
  (S:ck N ps scope) (hd:A.handled=none) (j:uW P w K mg base A outer s H) (Q:l.length=ps.length) (r:Vals l D)
  (x:InCallC s s.heap.objs.size (bindL (envOfC d scope s.heap.objs.size f C).kindOf (ps.zip D) λ_=>none) (cellsFrom (s.heap.objs.size+1) scope.names []) (bindC (envOfC d scope s.heap.objs.size f C).kindOf (ps.zip D) λ_=>none) G) :
  Inv (pG M P w K mg base N d scope f C A outer s H E) [] (start N l) H G:=by
 have R:ps.length<=N.length:=by have:=congrArg List.length S.pre;rw[aP] at this;ext
 obtain⟨B,tk,rfl,J⟩:=x.done;have F:∀b:Addr,b∉(pG M P w K mg base N d scope f C A outer s H E).ex:=λb z=>absurd (show b∈([]:List Addr) from z) (by simp)
 show⟨⟨j.mod,S.kind,rfl,rfl,aD _,λy z c B g=>?_,λy m=>?_,λy c _ h=>?_,λ_=>hd,Around.frames_deeper j.frames,.inr ⟨rfl,rfl⟩,λb z=>absurd z (F b),j.bs,j.vY,λb _ _=>F b,λb z=>absurd z (F b),j.ia,j.tX⟩,
  rfl,j.bare,Un.kept J,⟨_,x.toInCall.ns,λi y v B g T=>?_⟩,λy c h=>⟨_,x.cell y c h⟩,j.cN.fresh (aD _),λy c h=>?_,λp o=>absurd (show p∈([]:List (Addr×Obj)) from o) (by simp),j.cN.kept J,?_⟩
 .exact name_of_addr x.apart (PySem.mem_of_lookup B) (PySem.mem_of_lookup g)
 .have m:scope.names.lookup y=some .cell\/scope.names.lookup y=some .free:=m;rcases m with m | m
  .exact ME m
  show absurd rfl (S.xm _ (PySem.mem_of_lookup m))
 .exact Nat.le_of_lt (x.above y c (PySem.mem_of_lookup h))
 .have t:i<l.length:=by
   unfold start at g;by_cases t:i<l.length
   .exact t
   rw[List.getElem?_append_right (by simpa using t)] at g;rw[List.getElem?_replicate] at g;split at g<;>cases g
  have ha:l[i]?=some v:=by
   unfold start at g;rw[List.getElem?_append_left (by simpa using t),ar] at g;cases e:l[i]? with
   | none=>rw[e] at g;cases g
   | some a=>rw[e] at g;cases g;rfl
  obtain⟨u,I,O⟩:=r.get ha;have o:ps[i]?=some y:=by
   rw[<-S.pre,List.getElem?_take_of_lt (by ext)];show B
  have L:ps.Nodup:=by rw[<-S.pre];show S.nd.sublist (List.take_sublist _ _)
  show⟨u,O,?_⟩;rcases S.par y (aw o) with k | k
  .exact .inl ⟨k,MS L o I k⟩
  obtain⟨c,e⟩:=ME (n:=s.heap.objs.size+1) k;show .inr ⟨.inl k,c,e,?_⟩;have q:=x.cell y c e;rw[MR L o I (by show scope.names.lookup y≠_;rw[k];decide)] at q;show q
 .exact j.cN.fresh (Nat.le_of_lt (x.above y c (PySem.mem_of_lookup h)))
 unfold start;show _=N.length;rw[ax,ae,List.length_replicate];ext
theorem J1{m:t8}{P:Program}{w:World}{K:J'}{mg:Str->Option Value}{base:Heap}{k:Nat}{f:Addr}{name a:Str}{c:Arguments}{body:List Stmt}{scope:Scope}{G kV j D g ct U:Value}{L T:Option Addr}
  {O:Array (Option Value)} {N ps:List Str} {p:Sp} (X:K.lookup f=some ⟨U,T,.func (PySem.W.fnOf name a c body scope G kV j D L g ct),O⟩) (Y:PySem.W.codeIn K g a=true) (S:ck N ps scope)
  (len:∀d H Q E,p d H Q E->d.length=ps.length)
  (M:∀(A:Around)(outer:List Env)(s:Shared)(H:Hp)(d:List V)(Q:VK)(E:XK),eQ k (A.deeper (envOfC a scope s.heap.objs.size f g))->p d H Q E->
   ∃t,nT (pG m P w K mg base N a scope f g A outer s H E) body t/\t { nx:=λ_ H'=>Q .non H',rt:=Q } (start N d) H) :
  jY P w K mg base m (k+1) f (PySem.W.fnOf name a c body scope G kV j D L g ct) ps p:=by
 show⟨len,λA outer s H args us d Q E C i hb r F=>?_⟩;have hl:=len _ _ _ _ F;have KX:K.In s.heap:=i.mod.vF.keeps λb o e=>(i.bs b o e).1
 have lim:s.heap.NoLimit:=i.mod.nolimit.keeps λb o e=>(i.bs b o e).1
 have R:∀y∈ps.zip us,scope.names.lookup y.1=some .local\/(scope.names.lookup y.1=some .cell/\((cellsFrom (s.heap.objs.size+1) scope.names []).lookup y.1).isSome=true):=λ⟨n,v⟩ Z=>by
  rcases S.par n (List.of_mem_zip Z).1 with q | q
  .exact .inl q
  show .inr ⟨q,PySem.W.cellsFrom_some _ _ _ (.inl q)⟩
 show codeAny_call_function C.depth (KX _ _ X) rfl S.co S.gen rfl (PySem.W.codeRec_of KX Y) (hb _ _ _ _ ?_);show wpAny_newFunctionEnv_cells S.kind R λenv he s1 x=>?_
 subst he;show⟨lim.keeps x.toInCall.keep,codeAny_func ?_⟩;obtain⟨t,ht,hq⟩:=M A outer s H d Q E (C.deeper _) F;have I:Inv (pG m P w K mg base N a scope f g A outer s H E) [] (start N d) H s1:=U5 S C.hd i hl r x;show bF (ht [] s1 (start N d) H _ I hq) (λfl z h=>?_) λe z h=>h
 have fin:∀{l:St}{H':Hp}{v:V}{u:Value},Inv (pG m P w K mg base N a scope f g A outer s H E) [] l H' z->RelV v u->Q v H'->CE outer P w H s Q u z:=
  λ{l H' v u} J B q=>⟨v,H',J.os,J.bare,J.base,J.cN,B,q⟩
 cases fl with
 | ret u=>
  obtain⟨v,l,H',J,B,q⟩:=h;show fin J B q
 | next=>
  obtain⟨l,H',J,q⟩:=h;show fin (v:=V.non) (u:=Value.none) J rfl q
 | brk=>
  obtain⟨_,_,_,q⟩:=h;show False.elim q
 | cont=>
  obtain⟨_,_,_,q⟩:=h;show False.elim q
section
variable{X:Cx}{x:Str}{p pos:Pos}{e:Expr}{es:List Expr}{t:TA}{id T:String}{r:List V->Hp->VK->Prop}
def DF(r:List V->Hp->VK->Prop)(t:TA):TE:=λσ H Q=>t σ H λa H1=>r a H1 Q
theorem vm(i:dD X (.builtin id) r)(hg:Gl X x)(hm:X.mg x=none)(g:bootBuiltins x=some (.builtin id))(ha:PA X (e::es) t)(hn:x≠"__name__":=by decide)(f:(x==("__debug__":Str))=false:=by decide)
  (he:starEach (e::es) X.env=(false,eval e X.env)::starEach es X.env:=by rfl) (j:(backTo pos (starEach es X.env)).any (·.1)=false:=by rfl):PE X (.Call (.Name x p) (e::es) [] pos) (DF r t):=by
 intro a s σ H Q I h;show wpAny_Call_Name_kw (rR I hg hm g ?_ hn f);show PyProof.Rows.callWith_builtin1 (cW (ha pos a s σ H _ I h) λus s1 k=>by obtain⟨b,H1,I1,c,d⟩:=k;show i a s1 σ H1 b us Q I1 c d) he j
theorem MQ(i:dD X (.type T) r)(hg:Gl X x)(hm:X.mg x=none)(g:bootBuiltins x=some (.type T))(ha:PA X (e::es) t)(hn:x≠"__name__":=by decide)(f:(x==("__debug__":Str))=false:=by decide)
  (he:starEach (e::es) X.env=(false,eval e X.env)::starEach es X.env:=by rfl) (j:(backTo pos (starEach es X.env)).any (·.1)=false:=by rfl):PE X (.Call (.Name x p) (e::es) [] pos) (DF r t):=by
 intro a s σ H Q I h;show wpAny_Call_Name_kw (rR I hg hm g ?_ hn f);show bz (cW (ha pos a s σ H _ I h) λus s1 k=>by obtain⟨b,H1,I1,c,d⟩:=k;show i a s1 σ H1 b us Q I1 c d) he j
end
end L2
namespace HT
open PySem PyProof.Rows
section
variable{prog:Program}{w:World}{A:Around}{E:Value->Shared->Prop}{s:Shared}
noncomputable def dS(n d:Nat):Option Int->Nat
 | none=>d
 | some v=>if v<0 then(v+(n:Int)).toNat else min v.toNat n
theorem jN(n d:Nat)(hd:d<=n)(o:Option Int):dS n d o<=n:=by
 cases o with
 | none=>show hd
 | some v=>
  show(if v<0 then(v+(n:Int)).toNat else min v.toNat n)<=n;by_cases a:v<0
  .rw[if_pos a];ext
  rw[if_neg a];show Nat.min_le_right _ _
theorem mD(v:Int)(n d:Nat):(if v<0 then max (v+(n:Int)) 0 else min v (n:Int))=((dS n d (some v):Nat):Int):=by
 show(if v<0 then max (v+(n:Int)) 0 else min v (n:Int))=(((if v<0 then(v+(n:Int)).toNat else min v.toNat n):Nat):Int)
 by_cases a:v<0
 .simp only[if_pos a];ext
 simp only[if_neg a];ext
theorem VE(a b:Option Int)(n:Nat):Builtin.Slice.sliceAdjust a b 1 (n:Int)=(((dS n 0 a:Nat):Int),((dS n n b:Nat):Int)):=by
 have c:¬((1:Int)<0):=by ext
 unfold Builtin.Slice.sliceAdjust;simp only[c,bG];show Prod.ext ?_ ?_
 .cases a with
  | none=>rfl
  | some v=>show mD v n 0
 cases b with
 | none=>rfl
 | some v=>show mD v n n
theorem VD(i j:Nat):Builtin.Slice.slicePlaces (i:Int) (j:Int) 1=j-i:=by
 unfold Builtin.Slice.slicePlaces;have a:(1:Int)>0:=by ext
 simp only[a,bP,Int.ediv_one];split<;>ext
theorem M5{v:Value}{o:Option Int}{Q:Option Int->Shared->Prop}(p:IsPart v o)(h:Q o s):wpAny (model prog w) A (Builtin.Slice.slicePartIndex v) Q E s:=by
 cases p with
 | none=>show slicePart_none h
 | int i t=>show slicePart_int h
theorem X0{sl:Addr}{e d:Value}{a b:Option Int}{n:Nat}{Q:Int×Int×Nat->Shared->Prop}(j:s.heap.IsSliceOf sl e d .none)(i:IsPart e a)(g:IsPart d b)
  (h:Q (((dS n 0 a:Nat):Int),1,dS n n b-dS n 0 a) s):wpAny (model prog w) A (Builtin.Slice.sliceApplied (.ref sl) (pure (n:Int))) Q E s:=by
 obtain⟨os,f,k,c⟩:=id j;unfold Builtin.Slice.sliceApplied Builtin.Slice.sliceFields;show aa (aa (bQ f c (x:=e) rfl (aa (bQ f c (x:=d) rfl (aa (bQ f c (x:=.none) rfl (ah ?_)))))));show aa (slicePart_none ?_);show wpAny _ _ (if ((1:Int)==0)=true then _ else _) _ _ s;rw[if_neg (by decide)];show aa (M5 i (aa (M5 g (aa (ah ?_)))));show wpAny _ _ (match Builtin.Slice.sliceAdjust a b 1 (n:Int) with | (a,b)=>pure (a,(1:Int),Builtin.Slice.slicePlaces a b 1)) _ _ s;rw[VE a b n];show wpAny _ _ (pure (((dS n 0 a:Nat):Int),(1:Int),Builtin.Slice.slicePlaces ((dS n 0 a:Nat):Int) ((dS n n b:Nat):Int) 1)) _ _ s;rw[VD];show ah h
theorem TL(xs:Array Value)(i k:Nat):((List.range k).filterMap λ(m:Nat)=>xs[((i:Int)+(m:Int)*1).toNat]?).toArray=((xs.toList.drop i).take k).toArray:=by
 have e:(λ(m:Nat)=>xs[((i:Int)+(m:Int)*1).toNat]?)=λm=>xs[i+m]?:=by
  funext m
  have:((i:Int)+(m:Int)*1).toNat=i+m:=by ext
  rw[this]
 rw[e];have:=pick_run xs i k;rw[List.filterMap_map] at this;have a:((λx=>xs[x]?)∘λx=>i+x)=λm=>xs[i+m]?:=rfl
 rw[a] at this;rw[this]
theorem jw{t sl:Addr}{items:Array Value}{e d:Value}{a b:Option Int}{Q:Value->Shared->Prop}(ht:IsTup s.heap t items)(f:s.heap.IsSliceOf sl e d .none)(j:IsPart e a)(i:IsPart d b)
  (hw:¬(dS items.size 0 a=0/\dS items.size items.size b=items.size))
  (h:Q (.ref s.heap.objs.size) { s with heap:=s.heap.push { cls:=.type "tuple",data:=.seq ((items.toList.drop (dS items.size 0 a)).take (dS items.size items.size b-dS items.size 0 a)).toArray } })
  (hsz:items.size<=sizeLine):wpAny (model prog w) A (getItem (.ref t) (.ref sl)) Q E s:=by
 have c:sizeOk (.seq ((items.toList.drop (dS items.size 0 a)).take (dS items.size items.size b-dS items.size 0 a)).toArray):=by
  show((items.toList.drop (dS items.size 0 a)).take (dS items.size items.size b-dS items.size 0 a)).toArray.size<=sizeLine;rw[aB,aP,List.length_drop,aO];ext
 have u:dS items.size items.size b<=items.size:=jN _ _ (aD _) b;obtain⟨os,n,k,o⟩:=id f;have l:s.TypeIs (.ref sl) "slice":=⟨os,n,k⟩
 unfold getItem;try with_reducible show bC ?_
 first | show aa (ah ?_) | skip
 show aa (wpAny_sequenceKey ht.typeIs (by decide) ?_);show aa (wpAny_callSpecial?_slot (name:=Str.ofString "__getitem__") ht.typeIs PyProof.Rows.slot_tuple_getitem
  (wpAny_call_entry PyProof.Rows.slot_tuple_getitem ht.typeIs entry_tuple_getitem ?_ (args_tuple_getitem _ _)))
 show wpAny _ _ (Builtin.Tuple.tupleItemsOf (.ref t) >>= _) _ _ s;show aa (tupleItemsOf_ ht ?_);show aa (wpAny_typeOf l ?_);rw[if_pos (by decide)];show aa (X0 f j i ?_);have g:¬((((dS items.size 0 a:Nat):Int)==0&&(1:Int)==1&&(dS items.size items.size b-dS items.size 0 a)==items.size)=true):=by
  intro q;rw[aT,aT] at q;have r:((dS items.size 0 a:Nat):Int)=0:=eq_of_beq q.1.1;have p:dS items.size items.size b-dS items.size 0 a=items.size:=eq_of_beq q.2;show hw ⟨by ext,by ext⟩
 show wpAny _ _ (if (((dS items.size 0 a:Nat):Int)==0&&(1:Int)==1&&(dS items.size items.size b-dS items.size 0 a)==items.size)=true then _ else _) _ _ s;rw[if_neg g,TL];first
  | show aa (m:=Builtin.Tuple.tupleExact _) (bR (ah ⟨_,rfl,ah h⟩) c)
  | show aa (m:=Builtin.Tuple.tupleExact _) (bR (aa (ah (ah ⟨_,rfl,ah h⟩))) c)
  | show aa (aa (m:=Builtin.Tuple.tupleExact _) (bR (ah (ah ⟨_,rfl,ah h⟩)) c))
  | show aa (aa (m:=Builtin.Tuple.tupleExact _) (bR (ah ⟨_,rfl,ah h⟩) c))
end
end HT
namespace L2
open PySem PySem.Spec PyProof.Rows
noncomputable abbrev TO:=St->Hp->(Option Int->Hp->Prop)->Prop
def PO(X:Cx)(e:Option Expr)(t:TO):Prop:=
 ∀(a:List (Addr×Obj))(s:Shared)(σ:St)(H:Hp)(Q:Option Int->Hp->Prop),Inv X a σ H s->t σ H Q->
  wpAny (model X.prog X.w) X.A (evalPart e X.env) (λu b=>∃o H',Inv X a σ H' b/\IsPart u o/\Q o H') X.xe s
noncomputable def R5:TO:=λ_ H Q=>Q none H
noncomputable def JZ(t:TE):TO:=λσ H Q=>t σ H λx H1=>∃i,x=.int i/\Q (some i) H1
theorem Di{a:List Int}:∀{us:List Value},Vals (a.map V.int) us->IntsAre us a:=by
 induction a with
 | nil=>intro us r;rw[bL] at r;cases r;show .nil
 | cons n a d=>
  intro us r;rw[ao] at r;cases r with
  | cons c b=>
   obtain⟨t,e⟩:=c;subst e;show .cons n t (d b)
section
variable{X:Cx}{e:Expr}{te:TE}{lo hi:Option Expr}{tl th:TO}{pos p2:Pos}
theorem SF:PO X none R5:=by
 intro a s σ H Q I h;rw[evalPart_none];show ah ⟨none,H,I,.none,h⟩
theorem Lm(h:PE X e te):PO X (some e) (JZ te):=by
 intro d s σ H Q I hw;rw[evalPart_some];show cW (h d s σ H _ I hw) λu s1 c=>?_
 obtain⟨x,H1,I1,a,b⟩:=c;obtain⟨i,rfl,q⟩:=b;obtain⟨t,rfl⟩:=a;show⟨some i,H1,I1,.int i t,q⟩
def v7(X:Cx)(r:V->Option Int->Option Int->Hp->VK->Prop):Prop:=
 ∀(c:List (Addr×Obj))(s:Shared)(σ:St)(H:Hp)(x:V)(v b a:Value)(lo hi:Option Int)(sl:Addr)(Q:VK),Inv X c σ H s->RelV x v->s.heap.IsSliceOf sl b a .none->IsPart b lo->IsPart a hi->r x lo hi H Q->
  ∃T id,typeLookup (.type T) "__getitem__"=pure (some (.builtin id))/\s.TypeIs v T/\wpAny (model X.prog X.w) X.A (getItem v (.ref sl)) (EP X c σ Q) X.xe s
theorem v7.or{r d:V->Option Int->Option Int->Hp->VK->Prop}(h:v7 X r)(h':v7 X d):v7 X (λx lo hi H Q=>r x lo hi H Q\/d x lo hi H Q):=by
 intro g s σ H x v b a lo hi sl Q I c f e pu q;rcases q with q | q
 .exact h g s σ H x v b a lo hi sl Q I c f e pu q
 show h' g s σ H x v b a lo hi sl Q I c f e pu q
def Yo(r:V->Option Int->Option Int->Hp->VK->Prop)(te:TE)(tl th:TO):TE:=λσ H Q=>te σ H λx H1=>tl σ H1 λl b=>th σ b λu a=>r x l u a Q
theorem TK{r:V->Option Int->Option Int->Hp->VK->Prop}(p:v7 X r)(he:PE X e te)(t:PO X lo tl)(o:PO X hi th):PE X (.Subscript e (.Slice lo hi none p2) pos) (Yo r te tl th):=by
 intro a s σ H Q I h;show Subscript_ (cW (he a s σ H _ I h) λv s1 c=>?_);obtain⟨x,H1,I1,i,m⟩:=c;show wpAny_Slice (cW (t a s1 σ H1 _ I1 m) λf s2 c=>?_);obtain⟨l,z,I2,n,k⟩:=c;show cW (o a s2 σ z _ I2 k) λd s3 c=>?_
 obtain⟨u,g,I3,pu,j⟩:=c;rw[evalPart_none];show ah ?_;have I4:Inv X a σ g { s3 with heap:=s3.heap.push { cls:=.type "slice",data:=.fields #[f,d,.none] } }:=I3.kept (t':=s3.toks) λb ob q=>aq _ q
 obtain⟨T,id,y,ht,hg⟩:=p a { s3 with heap:=s3.heap.push { cls:=.type "slice",data:=.fields #[f,d,.none] } } σ g x v f d l u s3.heap.objs.size Q I4 i (Heap.IsSliceOf.new ..) n pu j;show wpAny (model X.prog X.w) X.A (subscriptTail e (.Slice lo hi none p2) v (.ref s3.heap.objs.size)) (EP X a σ Q) X.xe { s3 with heap:=s3.heap.push { cls:=.type "slice",data:=.fields #[f,d,.none] } };show tail_any (ops:=[.ref s3.heap.objs.size,v]) ht y hg (by with_unfolding_all rfl)
noncomputable def tF(xs:List V)(lo hi:Option Int):List V:=(xs.drop (HT.dS xs.length 0 lo)).take (HT.dS xs.length xs.length hi-HT.dS xs.length 0 lo)
theorem Ni(xs:List V)(lo hi:Option Int):(tF xs lo hi).length<=xs.length:=by
 unfold tF;rw[aP,List.length_drop];ext
def O5(K:J'):V->Option Int->Option Int->Hp->VK->Prop:=λx lo hi H Q=>∃a xs,x=.ref a/\fk K H a xs/\
 ¬(HT.dS xs.length 0 lo=0/\HT.dS xs.length xs.length hi=xs.length)/\∀p,H p=none->Q (.ref p) (upd H p (.tup (tF xs lo hi)))
theorem QG:v7 X (O5 X.K):=by
 intro j s σ H x v i g lo hi sl Q I c f d pu h;obtain⟨a,xs,rfl,e,hw,q⟩:=h;cases c;obtain⟨its,r,ht,hz⟩:=I.tuple e;have hlen:its.toArray.size=xs.length:=by rw[aB];show r.length.symm
 show⟨"tuple",_,PyProof.Rows.slot_tuple_getitem.lookup,ht.typeIs,?_⟩;show HT.jw ht f d pu (by rw[hlen];show hw) ?_ (by rw[hlen];show hz);rw[hlen];show⟨.ref s.heap.objs.size,_,I.laid (t':=s.toks) (o:=.tup (tF xs lo hi)) (λb ob q=>aq _ q) (aD _) ?_,rfl,q _ (I.cN.fresh (aD _))⟩;show⟨aR (Ni xs lo hi) hz,_,(r.drop (HT.dS xs.length 0 lo)).take (HT.dS xs.length xs.length hi-HT.dS xs.length 0 lo),IsTup.new _ _⟩
end
noncomputable def nC(n:Nat)(i:Int):Option Nat:=if 0<=i then(if i<n then some i.toNat else none) else if -(n:Int)<=i then some (i+n).toNat else none
noncomputable def et{α:Type}(xs:List α)(i:Int):Option α:=(nC xs.length i).bind λj=>xs[j]?
theorem Ll{n:Nat}{i:Int}{j:Nat}(h:nC n i=some j):seqIndex? i n=some j/\j<n/\-(n:Int)<=i/\i<n:=by
 unfold nC at h;by_cases h0:0<=i
 .rw[if_pos h0] at h;by_cases a:i<n
  .rw[if_pos a] at h;have e:i.toNat=j:=aX h;show⟨by rw[seqIndex_of h0 a,e],by ext,by ext,a⟩
  rw[if_neg a] at h;cases h
 rw[if_neg h0] at h;by_cases a:-(n:Int)<=i
 .rw[if_pos a] at h;have e:(i+n).toNat=j:=aX h;show⟨by rw[seqIndex_neg (by ext) a,e],by ext,a,by ext⟩
 rw[if_neg a] at h;cases h
theorem yH{α:Type}{xs:List α}{i:Int}{v:α}(h:et xs i=some v):∃j,seqIndex? i xs.length=some j/\xs[j]?=some v/\j<xs.length/\-(xs.length:Int)<=i/\i<xs.length:=by
 unfold et at h;cases e:nC xs.length i with
 | none=>rw[e] at h;cases h
 | some j=>
  rw[e] at h;obtain⟨d,c,b,a⟩:=Ll e;show⟨j,d,h,c,b,a⟩
def Fz(b:Expr):Prop:=∀o i,subscripted b false o i=operate [o,i] (getItem o i)
def uU(X:Cx)(r:R2):Prop:=
 ∀(value slice:Expr)(a:List (Addr×Obj))(s:Shared)(σ:St)(H:Hp)(x y:V)(v u:Value)(Q:VK),Inv X a σ H s->RelV x v->RelV y u->r x y H Q->
  subscripted slice false v u=operate [v,u] (getItem v u)->wpAny (model X.prog X.w) X.A (subscriptTail value slice v u) (EP X a σ Q) X.xe s
def Jp(X:Cx)(id:String)(r:V->List V->Hp->VK->Prop):Prop:=
 ∀(a:List (Addr×Obj))(s:Shared)(σ:St)(H:Hp)(x:V)(xs:List V)(v:Value)(us:List Value)(Q:VK),Inv X a σ H s->RelV x v->Vals xs us->r x xs H Q->
  wpAny (model X.prog X.w) X.A (call (.builtin id) (v::us)) (EP X a σ Q) X.xe s
section
variable{X:Cx}{a b:Expr}{ta tb:TE}{pos:Pos}
theorem uU.or{r c:R2}(h:uU X r)(h':uU X c):uU X (λx y H Q=>r x y H Q\/c x y H Q):=by
 intro value slice e s σ H x y v u Q I b a q d;rcases q with q | q
 .exact h value slice e s σ H x y v u Q I b a q d
 show h' value slice e s σ H x y v u Q I b a q d
theorem JY{r:R2}(f:uU X r)(ha:PE X a ta)(hb:PE X b tb)(e:Fz b):PE X (.Subscript a b pos) (Aw r ta tb):=by
 intro g s σ H Q I h;show Subscript_ (EA ha hb I h λv u s2 x y i I2 d c q=>f a b g s2 σ i x y v u Q I2 d c q (e _ _))
def JM(K:J'):R2:=λx y H Q=>∃p xs i v,x=.ref p/\y=.int i/\eP K H p xs/\et xs i=some v/\Q v H
def JL(K:J'):R2:=λx y H Q=>∃p xs i v,x=.ref p/\y=.int i/\fk K H p xs/\et xs i=some v/\Q v H
def JK:R2:=λx y H Q=>∃z i c,x=.str z/\y=.int i/\z.length<=sizeLine/\et z.cps.toList i=some c/\Q (.str ⟨#[c]⟩) H
theorem pU:uU X (JM X.K):=by
 intro value slice f s σ H x y v u Q I l k h d;obtain⟨p,xs,i,z,rfl,rfl,n,he,q⟩:=h;cases l;obtain⟨t,rfl⟩:=k;obtain⟨its,r,b,hz⟩:=I.list n;obtain⟨j,a,C,D,B,A⟩:=yH he;obtain⟨w,e,m⟩:=r.get C;have o:=r.length;have hn:=yr;have fin:EP X f σ Q w s:=⟨z,H,I,m,q⟩
 by_cases h0:0<=i
 .have c:i.toNat=j:=by
   rw[seqIndex_of h0 A] at a;show aX a
  show item_listR b.isList h0 (by ext) (by rw[c];simpa using e) fin d
 have c:(i+(its.toArray.size:Int)).toNat=j:=by
  rw[seqIndex_neg (by ext) B] at a;rw[aB,<-o];show aX a
 show subscriptTail_builtinR (x:=w) b.isList.typeIs slot_list_getitem.lookup
  (wpAny_getItem_list_neg (Q:=λr g=>r=w/\EP X f σ Q r g) b.isList (by ext) (by rw[aB]<;>ext) (by ext) (by rw[c];simpa using e) ⟨rfl,fin⟩) d
theorem xr:uU X (JL X.K):=by
 intro value slice b s σ H x y v u Q I e d h g;obtain⟨p,xs,i,z,rfl,rfl,k,he,q⟩:=h;cases e;obtain⟨t,rfl⟩:=d;obtain⟨its,r,a,hz⟩:=I.tuple k;obtain⟨j,n,m,C,B,A⟩:=yH he;obtain⟨w,o,f⟩:=r.get m;have l:=r.length;have hn:=yr;have fin:EP X b σ Q w s:=⟨z,H,I,f,q⟩
 show subscriptTail_builtinR (x:=w) a.typeIs slot_tuple_getitem.lookup
  (getItem_tuple (j:=j) (Q:=λr c=>r=w/\EP X b σ Q r c) a (by ext) (by ext) (by rw[aB,<-l];show n) (by simpa using o) ⟨rfl,fin⟩) g
theorem QF:uU X JK:=by
 intro value slice p s σ H x y v u Q I d b h e;obtain⟨z,i,c,rfl,rfl,hz,he,q⟩:=h;obtain⟨t,rfl⟩:=d;obtain⟨t',rfl⟩:=b;obtain⟨j,a,l,o,k,g⟩:=yH he;have f:z.cps.toList.length=z.length:=by simp[Str.length]
 rw[f] at a k g;have hn:=yr
 show tail_any (typeIs_str s z t) slot_str_getitem.lookup (getItem_str (c:=c) (by
  have n:decide (i < -(2 ^ 63:Int))=false:=aG (by ext);have m:decide (i>=2 ^ 63)=false:=aG (by ext)
  rw[n,m,Bool.or_false]) (by rw[a];simpa using l) ⟨.str ⟨#[c]⟩,H,I.tok _,⟨_,rfl⟩,q⟩) e
def NH(K:J'):R2:=λx y H Q=>JM K x y H Q\/JL K x y H Q\/JK x y H Q
theorem QE:uU X (NH X.K):=pU.or (xr.or QF)
theorem VC(its:List Value)(n j:Nat)(u:Value):Obj.mapSeq (·.setIfInBounds j u) { cls:=.type "list",data:=.seq its.toArray n }={ cls:=.type "list",data:=.seq (its.set j u).toArray n }:=by
 simp[Obj.mapSeq]
theorem Inv.lst{b:List (Addr×Obj)}{a:St}{H:Hp}{s:Shared}{p:Addr}{xs:List V}(I:Inv X b a H s)(h:H p=some (.lst xs)) :
  ∃(its:List Value)(n:Nat),Vals xs its/\s.heap.get? p=some { cls:=.type "list",data:=.seq its.toArray n }/\xs.length<=sizeLine:=by
 obtain⟨z,its,n,r,e⟩:=I.cN p _ h;show⟨its,n,r,e,z⟩
theorem Inv.xn{g:List (Addr×Obj)}{c:St}{H:Hp}{s:Shared}{p:Addr}{xs ys:List V}{its its':List Value}{n a:Nat}{f:Obj->Obj}(I:Inv X g c H s)(h:H p=some (.lst xs))
  (i:s.heap.get? p=some { cls:=.type "list",data:=.seq its.toArray n }) (d:f { cls:=.type "list",data:=.seq its.toArray n }={ cls:=.type "list",data:=.seq its'.toArray a }) (r:Vals ys its') (hz:ys.length<=sizeLine) (t:Nat) :
  Inv X g c (upd H p (.lst ys)) { s with heap:=s.heap.update p f,toks:=t }:=by
 have e:(s.heap.update p f).get? p=some { cls:=.type "list",data:=.seq its'.toArray a }:=by
  rw[bM f i (by rw[d]<;>rfl),d]
 show I.write (x:=p) (e:=p) (by rw[h];trivial) (.inl rfl) (λb u hb q=>(Heap.get?_update_other _ _ (Ne.symm hb)).trans q) ⟨_,e⟩ ?_;show⟨hz,its',a,r,e⟩
def P6:V->V->V->Hp->(Hp->Prop)->Prop:=λo i v H Q=>∃p xs k j,o=.ref p/\i=.int k/\H p=some (.lst xs)/\nC xs.length k=some j/\Q (upd H p (.lst (xs.set j v)))
theorem TJ:JP X P6:=by
 intro z s σ H o i v ov A u Q I w x m h;obtain⟨p,xs,k,j,rfl,rfl,e,y,q⟩:=h;cases w;obtain⟨t,rfl⟩:=x;obtain⟨its,n,r,b,hz⟩:=I.lst e;obtain⟨a,B,g,f⟩:=Ll y;have c:=r.length;have hn:=yr;have l:Inv X z σ (upd H p (.lst (xs.set j v))) { s with heap:=s.heap.update p (Obj.mapSeq (·.setIfInBounds j u)) }:=
  I.xn e b (VC its n j u) (r.set m j) (by rw[List.length_set];show hz) s.toks
 by_cases h0:0<=k
 .have d:k.toNat=j:=by
   rw[seqIndex_of h0 f] at a;show aX a
  show PySem.W.ki_setAt b h0 (by ext) (by rw[aB,<-c];show f) (by rw[d];show⟨_,l,q⟩)
 have d:(k+(its.toArray.size:Int)).toNat=j:=by
  rw[seqIndex_neg (by ext) g] at a;rw[aB,<-c];show aX a
 show PySem.W.ki_setBack b (by ext) (by rw[aB,<-c];show g) (by ext) (by rw[d];show⟨_,l,q⟩)
theorem WI(a b:Option Int)(n:Nat):(sliceBounds a b none n).1=((HT.dS n 0 a:Nat):Int)/\(sliceBounds a b none n).2.1=((HT.dS n n b:Nat):Int)/\(sliceBounds a b none n).2.2=1:=by
 show⟨?_,?_,rfl⟩
 .cases a with
  | none=>simp[sliceBounds,HT.dS]
  | some i=>
   simp only[sliceBounds,HT.dS,Option.getD_none,show(1:Int)>0 by decide,bP];by_cases h:i<0
   .simp only[h,bP]<;>ext
   simp only[h,bG]<;>ext
 cases b with
 | none=>simp[sliceBounds,HT.dS]
 | some i=>
  simp only[sliceBounds,HT.dS,Option.getD_none,show(1:Int)>0 by decide,bP];by_cases h:i<0
  .simp only[h,bP]<;>ext
  simp only[h,bG]<;>ext
theorem W4(its:List Value)(a b:Option Int):slicePick its.toArray a b none=((its.drop (HT.dS its.length 0 a)).take (HT.dS its.length its.length b-HT.dS its.length 0 a)).toArray:=by
 obtain⟨e,d,c⟩:=WI a b its.toArray.size;unfold slicePick;rw[e,d,c];simp only[sliceRange_one,pick_run,aB]<;>rfl
def O4(K:J'):V->Option Int->Option Int->Hp->VK->Prop:=λx lo b H Q=>∃a xs,x=.ref a/\eP K H a xs/\∀p,H p=none->Q (.ref p) (upd H p (.lst (tF xs lo b)))
theorem ux:v7 X (O4 X.K):=by
 intro k s σ H x v j i lo c sl Q I d g e pu h;obtain⟨a,xs,rfl,f,q⟩:=h;cases d;obtain⟨its,r,ht,hz⟩:=I.list f;have hlen:=r.length;show⟨"list",_,slot_list_getitem.lookup,ht.isList.typeIs,?_⟩;show wpAny_getItem_list_slice ht.isList g e pu .none (by simp) ?_ (by rw[aB]<;>ext);rw[W4,<-hlen];show⟨.ref s.heap.objs.size,_,I.laid (t':=s.toks) (o:=.lst (tF xs lo c)) (λb ob q=>aq _ q) (aD _) ?_,rfl,q _ (I.cN.fresh (aD _))⟩;show⟨aR (Ni xs lo c) hz,_,0,(r.drop (HT.dS xs.length 0 lo)).take (HT.dS xs.length xs.length c-HT.dS xs.length 0 lo),aF _ rfl⟩
noncomputable def Cr:V->Bool
 | .non=>true
 | .bl _=>true
 | .int _=>true
 | .str _=>true
 | _=>false
noncomputable def Jd:V->V->Bool
 | .non,.non=>true
 | .bl a,.bl b=>a==b
 | .bl a,.int b=>(if a then 1 else 0)==b
 | .int a,.bl b=>a==(if b then 1 else 0)
 | .int a,.int b=>a==b
 | .str a,.str b=>a==b
 | _,_=>false
theorem Ks{A:Around}{s:Shared}{y x:V}{u v:Value}(d:RelV y u)(c:RelV x v)(f:Cr y=true)(e:Cr x=true):SeqAt.EqAt A s u v (Jd y x):=by
 cases y with
 | non=>
  cases d;cases x with
  | non=>cases c;show SeqAt.EqAt.same _
  | bl b=>cases c;show SeqAt.EqAt.none_bool b
  | int b=>obtain⟨t,rfl⟩:=c;show SeqAt.EqAt.none_int b t
  | str b=>obtain⟨t,rfl⟩:=c;show SeqAt.EqAt.none_str b t
  | _=>show absurd (show false=true from e) aC
 | bl a=>
  cases d;cases x with
  | non=>cases c;show SeqAt.EqAt.bool_none a
  | bl b=>cases c;show SeqAt.EqAt.bool_bool a b
  | int b=>obtain⟨t,rfl⟩:=c;show SeqAt.EqAt.bool_int a b t
  | str b=>obtain⟨t,rfl⟩:=c;show SeqAt.EqAt.bool_str a b t
  | _=>show absurd (show false=true from e) aC
 | int a=>
  obtain⟨t',rfl⟩:=d;cases x with
  | non=>cases c;show SeqAt.EqAt.int_none a t'
  | bl b=>cases c;show SeqAt.EqAt.int_bool a t' b
  | int b=>obtain⟨t,rfl⟩:=c;show SeqAt.EqAt.int_int a t' b t
  | str b=>obtain⟨t,rfl⟩:=c;show SeqAt.EqAt.int_str a t' b t
  | _=>show absurd (show false=true from e) aC
 | str a=>
  obtain⟨t',rfl⟩:=d;cases x with
  | non=>cases c;show SeqAt.EqAt.str_none a t'
  | bl b=>cases c;show SeqAt.EqAt.str_bool a t' b
  | int b=>obtain⟨t,rfl⟩:=c;show SeqAt.EqAt.str_int a t' b t
  | str b=>obtain⟨t,rfl⟩:=c;show SeqAt.EqAt.str_str a t' b t
  | _=>show absurd (show false=true from e) aC
 | _=>show absurd (show false=true from f) aC
theorem mn:ib X (compareOp .NotIn) (λx y H Q=>∃i j,x=.str i/\y=.str j/\Q (.bl (!(!(Builtin.Str.occurrences j i 0 j.length 1).isEmpty))) H):=by
 intro c s σ H x y v u Q I b a h;obtain⟨i,j,rfl,rfl,q⟩:=h;obtain⟨t,rfl⟩:=b;obtain⟨t',rfl⟩:=a;show notIn_str ⟨.bl _,H,I,rfl,q⟩
theorem jz:dD X (.builtin "len") (λxs H Q=>∃p ys,xs=[.ref p]/\(eP X.K H p ys\/fk X.K H p ys)/\Q (.int ys.length) H):=by
 intro e s σ H xs us Q I r h;obtain⟨p,ys,rfl,a,q⟩:=h;obtain⟨u,rfl,d⟩:=mV r;cases d;have hn:=yr;rcases a with a | a
 .obtain⟨its,b,c,hz⟩:=I.list a;have hlen:=b.length;show Calls.call_len_list c.isList (by simp only[aB]<;>ext) ⟨.int ys.length,H,I.tok _,⟨s.toks+1,by rw[aB,hlen]⟩,q⟩
 obtain⟨its,b,c,hz⟩:=I.tuple a;have hlen:=b.length;show len_tuple c (by simp only[aB]<;>ext) ⟨.int ys.length,H,I.tok _,⟨s.toks+1,by rw[aB,hlen]⟩,q⟩
theorem WH:dD X (.builtin "len") (λxs H Q=>∃z,xs=[.str z]/\z.length<=sizeLine/\Q (.int z.length) H):=by
 intro a s σ H xs us Q I r h;obtain⟨z,rfl,hz,q⟩:=h;obtain⟨u,rfl,t,rfl⟩:=mV r;have hn:=yr;show len_str (by ext) ⟨.int z.length,H,I.tok _,⟨_,rfl⟩,q⟩
theorem dD.or{f:Value}{r a:List V->Hp->VK->Prop}(h:dD X f r)(h':dD X f a):dD X f (λxs H Q=>r xs H Q\/a xs H Q):=by
 intro b s σ H xs us Q I rs q;rcases q with q | q
 .exact h b s σ H xs us Q I rs q
 show h' b s σ H xs us Q I rs q
def Ar(K:J')(T:String)(x:V)(H:Hp):Prop:=match x with
 | .str _=>T="str"
 | .int _=>T="int"
 | .ref p=>(T="list"/\∃xs,eP K H p xs)\/(T="tuple"/\∃o,K.lookup p=some o/\o.cls=.type "tuple"/\o.dict=none)\/
   (T="dict"/\((∃kvs a,H p=some (.dK kvs a))\/∃kvs bs,H p=some (.dT kvs bs)))\/(T="set"/\∃S n,H p=some (.set S n))
 | _=>False
theorem Kr{k:List (Addr×Obj)}{g:St}{H:Hp}{s:Shared}{T:String}{x:V}{v:Value}(I:Inv X k g H s)(r:RelV x v)(ty:Ar X.K T x H) :
  s.TypeIs v T/\∀a,v=.ref a->∃ob,s.heap.get? a=some ob/\ob.dict=none:=by
 cases x with
 | str z=>
  obtain⟨t,rfl⟩:=r;cases (show T="str" from ty);show⟨typeIs_str s z t,λ_ e=>nomatch e⟩
 | int i=>
  obtain⟨t,rfl⟩:=r;cases (show T="int" from ty);show⟨typeIs_int s i t,λ_ e=>nomatch e⟩
 | ref p=>
  cases r;rcases ty with⟨rfl,xs,h⟩ | ⟨rfl,o,b,j,hd⟩ | ⟨rfl,b⟩ | ⟨rfl,S,n,b⟩
  .obtain⟨its,_,f,_⟩:=I.list h;show⟨f.isList.typeIs,λa e=>?_⟩;cases e;obtain⟨o,n,e,c,hd,_⟩:=f;show⟨o,e,hd⟩
  .refine⟨⟨o,I.nB p o b,j⟩,λa e=>?_⟩;cases e;show⟨o,I.nB _ o b,hd⟩
  .have z:∃o,s.heap.get? p=some o/\o.ExactDict:=by
    rcases b with⟨kvs,l,b⟩ | ⟨kvs,bs,b⟩
    .obtain⟨_,_,_,_,o,_,e,ex,_⟩:=I.cN p _ b;show⟨o,e,ex⟩
    obtain⟨_,_,_,_,_,o,_,_,e,ex,_⟩:=I.cN p _ b;show⟨o,e,ex⟩
   obtain⟨o,e,ex⟩:=z;show⟨⟨o,e,ex.1⟩,λa d=>?_⟩;cases d;show⟨o,e,ex.2.1⟩
  obtain⟨o,_,_,_,e,ex,_⟩:=I.cN p _ b;show⟨⟨o,e,ex.1⟩,λa d=>?_⟩;cases d;show⟨o,e,ex.2.1⟩
 | _=>show False.elim ty
def JJ(K:J')(T:String)(r:V->List V->Hp->VK->Prop)(to:TE):TE:=λσ H Q=>to σ H λx H1=>Ar K T x H1/\r x [] H1 Q
def Ax(K:J')(T:String)(r:V->List V->Hp->VK->Prop)(to:TE)(t:TA):TE:=λσ H Q=>to σ H λx H1=>Ar K T x H1/\t σ H1 λxs a=>r x xs a Q
variable{o e:Expr}{es:List Expr}{to:TE}{t:TA}{name:Str}{apos dU:Pos}{T id:String}{r:V->List V->Hp->VK->Prop}
theorem QD(d:PlainAttrs T)(slot:Slot T name id)(l:typeOf (.builtin id)=pure (.type "method_descriptor"))(hm:Jp X id r)(g:PE X o to)
  (f:attributeBase o name X.env (eval o X.env)=eval o X.env:=by rfl) (e:(apos.endLine==dU.line)=true:=by rfl):PE X (.Call (.Attribute o name apos) [] [] dU) (JJ X.K T r to):=by
 intro b s σ H Q I h;show wpAny_Call_method0_late f e (cW (g b s σ H _ I h) λv s1 k=>?_);obtain⟨x,H1,I1,a,ty,c⟩:=k;obtain⟨j,i⟩:=Kr I1 a ty;show⟨T,id,d,slot,l,j,i,Calls.callWith_builtin rfl (PySem.evalArgs_none (hm b s1 σ H1 x [] v [] Q I1 a .nil c))⟩
theorem zA(l:PlainAttrs T)(slot:Slot T name id)(A:typeOf (.builtin id)=pure (.type "method_descriptor"))(hm:Jp X id r)(u:PE X o to)(ha:PA X (e::es) t)
  (p:attributeBase o name X.env (eval o X.env)=eval o X.env:=by rfl)
  (f:((backTo dU (starEach (e::es) X.env)).all (λx=>!x.1)&&(backToKw dU (keywordEach [] X.env)).all (λx=>x.1.isSome)
   && decide ((e::es).length+([]:List Keyword).length+(if ([]:List Keyword).isEmpty then 0 else 1)<30))=true:=by rfl)
  (n:(apos.endLine==dU.line)=true:=by rfl) (q:starEach (e::es) X.env=(false,eval e X.env)::starEach es X.env:=by rfl) (m:(backTo dU (starEach es X.env)).any (·.1)=false:=by rfl) :
  PE X (.Call (.Attribute o name apos) (e::es) [] dU) (Ax X.K T r to t):=by
 intro b s σ H Q I h;show wpAny_Call_method_late p f n rfl (cW (u b s σ H _ I h) λv s1 a=>?_);obtain⟨x,H1,I1,c,ty,k⟩:=a;obtain⟨y,w⟩:=Kr I1 c ty;show⟨T,id,l,slot,A,y,w,?_⟩;have d:=ha dU b s1 σ H1 _ I1 k;rw[q] at d ⊢;show Calls.callWith_builtin (by show(false||(backTo dU (starEach es X.env)).any (·.1))=false;rw[m]<;>rfl) (Calls.evalArgs_plain ?_);show cW d λus s2 a=>by obtain⟨g,z,I2,i,j⟩:=a;show hm b s2 σ z x g v us Q I2 c i j
end
def Ef(X:Cx)(id:String)(r:V->List V->Hp->VK->Prop):Prop:=
 ∀(a:List (Addr×Obj))(s:Shared)(σ:St)(H:Hp)(x:V)(xs:List V)(v:Value)(us:List Value)(Q:VK),Inv X a σ H s->RelV x v->Vals xs us->r x xs H Q->
  wpAny (model X.prog X.w) X.A (call (.builtin id) (v::us)) (EP X a σ Q) X.xe s
theorem Vals.one{x:V}{a:List Value}(h:Vals [x] a):∃u,a=[u]/\RelV x u:=by
 cases h with
 | cons r t=>cases t;show⟨_,rfl,r⟩
theorem Vals.zero:∀{us:List Value},Vals [] us->us=[]
 | _,.nil=>rfl
theorem Vals.dropLast{xs:List V}{a:List Value}(h:Vals xs a):Vals xs.dropLast a.dropLast:=by
 induction h with
 | nil=>show .nil
 | cons r t b=>
  cases t with
  | nil=>show .nil
  | cons q t'=>show .cons r b
theorem Vals.rep{xs:List V}{a:List Value}(h:Vals xs a):∀k:Nat,Vals (List.replicate k xs).flatten (List.replicate k a).flatten
 | 0=>.nil
 | k+1=>by
  rw[List.replicate_succ,List.replicate_succ,List.flatten_cons,List.flatten_cons];show Vals.append h (Vals.rep h k)
theorem VB{α:Type}(l:List α):l.eraseIdx (l.length-1)=l.dropLast:=by
 induction l with
 | nil=>rfl
 | cons a r c=>
  cases r with
  | nil=>rfl
  | cons b r=>
   have e:(a::b::r).length-1=((b::r).length-1)+1:=by
    have f:(a::b::r).length=r.length+2:=rfl;have d:(b::r).length=r.length+1:=rfl;ext
   rw[e,List.eraseIdx_cons_succ,c];all_goals rfl
theorem MP(its:List Value):∀(k:Nat)(acc:List Value),
  List.foldl (λb a=>b++a) acc.toArray (List.replicate k its.toArray)=(acc++(List.replicate k its).flatten).toArray
 | 0,acc=>by simp
 | k+1,acc=>by
  have e:acc.toArray++its.toArray=(acc++its).toArray:=by simp
  have c:(acc++its)++(List.replicate k its).flatten=acc++(List.replicate (k+1) its).flatten:=by
   rw[List.replicate_succ,List.flatten_cons,List.append_assoc]
  rw[<-c,<-MP its k (acc++its),<-e,List.replicate_succ,List.foldl_cons]
section
variable{X:Cx}{K':List (Addr×Obj)}{σ:St}{H:Hp}{s:Shared}{l b:Addr}{xs ys zs:List V}
theorem Inv.uD{its its':List Value}{n:Nat}{f:Array Value->Array Value}{t':Nat}(I:Inv X K' σ H s)(d:H l=some (.lst xs))
  (e:s.heap.get? l=some { cls:=.type "list",data:=.seq its.toArray n }) (c:f its.toArray=its'.toArray) (a:Vals ys its') (hz:ys.length<=sizeLine) :
  Inv X K' σ (upd H l (.lst ys)) { s with heap:=s.heap.update l (Obj.mapSeq f),toks:=t' }:=by
 have q:=PySem.IsL.update e f;rw[c] at q;show I.write (x:=l) (e:=l) (by rw[d];show trivial) (.inl rfl) (λg u hb b=>(Heap.get?_update_other s.heap (Obj.mapSeq f) (Ne.symm hb)).trans b) ⟨_,q⟩ ?_;show⟨hz,its',_,a,q⟩
theorem Inv.uE{its:List Value}{t':Nat}(I:Inv X K' σ H s)(a:Vals ys its)(hz:ys.length<=sizeLine) :
  Inv X K' σ (upd H s.heap.objs.size (.lst ys)) { s with heap:=s.heap.push { cls:=.type "list",data:=.seq its.toArray },toks:=t' }:=
 I.laid (λ_ _ q=>aq _ q) (aD _) ⟨hz,its,0,a,aF _ rfl⟩
theorem Inv.fresh(I:Inv X K' σ H s):H s.heap.objs.size=none:=I.cN.fresh (aD _)
theorem Inv.qH(I:Inv X K' σ H s)(a:H l=some (.lst xs)):xs.length<=sizeLine/\∃(its:List Value)(n:Nat),Vals xs its/\xs.length=its.length/\s.heap.get? l=some { cls:=.type "list",data:=.seq its.toArray n }:=by
 obtain⟨z,its,n,r,e⟩:=I.cN l _ a;show⟨z,its,n,r,r.length,e⟩
theorem FZ{n:Nat}(h:n<=sizeLine):Builtin.List.listTooLong n=false:=by
 unfold Builtin.List.listTooLong;show aG (by ext)
end
section
variable{X:Cx}
def CT:V->List V->Hp->VK->Prop:=λx a H Q=>∃l xs y,x=.ref l/\a=[y]/\H l=some (.lst xs)/\xs.length<sizeLine/\Q .non (upd H l (.lst (xs++[y])))
theorem Gg:Ef X "list.append" CT:=by
 intro i s σ H x f v us Q I b c h;obtain⟨l,xs,y,rfl,rfl,a,hz,q⟩:=h;cases b;obtain⟨u,rfl,d⟩:=c.one;obtain⟨z,its,n,r,g,e⟩:=I.qH a;show call_meets F.slot_list_append ⟨_,e,rfl⟩ F.entry_list_append (F.args_list_append_2 _ _) (PySem.list_append l its.toArray n u (by rw[aB];ext)) ⟨e,?_⟩;show⟨.non,_,I.uD (its':=its++[u]) a e (by simp) (r.append (.cons d .nil)) ?_,rfl,q⟩;rw[ax,List.length_singleton];ext
def Lk:V->List V->Hp->VK->Prop:=λx a H Q=>∃l b xs zs,x=.ref l/\a=[.ref b]/\H l=some (.lst xs)/\H b=some (.lst zs)/\xs.length+zs.length<=sizeLine/\Q .non (upd H l (.lst (xs++zs)))
theorem U4:Ef X "list.extend" Lk:=by
 intro A s σ H x t v us Q I d f h;obtain⟨l,b,xs,zs,rfl,rfl,c,m,hz,q⟩:=h;cases d;obtain⟨u,rfl,g⟩:=f.one;cases g;obtain⟨z,its,n,r,y,e⟩:=I.qH c;obtain⟨p,a,k,i,w,o⟩:=I.qH m;have hsz:its.toArray.size+a.toArray.size<=sizeLine:=by rw[aB,aB];ext
 have j:¬(!its.toArray.isEmpty&&Builtin.List.listTooLong (its.toArray.size+a.toArray.size))=true:=by
  rw[FZ hsz,Bool.and_false];show aC
 show call_meets F.slot_list_extend ⟨_,e,rfl⟩ F.entry_list_extend (F.args_list_extend_2 _ _)
  (AutoSeq1.list_extend_list_list_0 l its.toArray n b a.toArray k j (by rw[aB];ext) (by ext)) ⟨e,o,?_⟩
 show⟨.non,_,I.uD (its':=its++a) c e (by simp) (r.append i) ?_,rfl,q⟩;rw[ax];ext
def JI:V->List V->Hp->VK->Prop:=λx a H Q=>∃l xs y,x=.ref l/\a=[]/\H l=some (.lst xs)/\xs[xs.length-1]?=some y/\Q y (upd H l (.lst xs.dropLast))
theorem QC:Ef X "list.pop" JI:=by
 intro o s σ H x m v us Q I b c h;obtain⟨l,xs,y,rfl,rfl,a,f,q⟩:=h;cases b;have j:=c.zero;subst j;obtain⟨z,its,n,r,i,e⟩:=I.qH a;obtain⟨u,g,d⟩:=r.get f;have k:its.toArray[its.toArray.size-1]?=some u:=by
  show its.toArray[its.length-1]?=some u;rw[<-Array.getElem?_toList,<-i];show g
 show call_meets F.slot_list_pop ⟨_,e,rfl⟩ F.entry_list_pop (F.args_list_pop_1 _) (MeetsSeq.list_pop_last l its.toArray n u k (by rw[aB];ext)) ⟨e,?_⟩;show⟨y,_,I.uD (its':=its.dropLast) a e ?_ r.dropLast ?_,d,q⟩
 .show its.toArray.eraseIdxIfInBounds (its.toArray.size-1)=its.dropLast.toArray;rw[aB,List.eraseIdxIfInBounds_toArray,VB]
 rw[List.length_dropLast];ext
def O3:R2:=λx y H Q=>∃l k xs,x=.ref l/\y=.int k/\H l=some (.lst xs)/\-(2 ^ 63)<=k/\k<2 ^ 63/\xs.length*k.toNat<=sizeLine/\
 ∀p,H p=none->Q (.ref p) (upd H p (.lst (List.replicate k.toNat xs).flatten))
theorem SE{α:Type}(xs:List α)(k:Nat):(List.replicate k xs).flatten.length=k*xs.length:=by
 induction k with
 | zero=>simp
 | succ k a=>rw[List.replicate_succ,List.flatten_cons,ax,a,Nat.succ_mul,Nat.add_comm]
theorem QB:ib X (binaryOp .Mult) O3:=by
 intro E s σ H x y v u Q I i g h;obtain⟨l,k,xs,rfl,rfl,p,A,w,hz,q⟩:=h;cases i;obtain⟨t,rfl⟩:=g;obtain⟨z,its,n,r,o,e⟩:=I.qH p;have hlen:its.toArray.size*k.toNat<=sizeLine:=by rw[aB,<-o];show hz
 have B:¬its.toArray.size*k.toNat>(2 ^ 63-1)/8:=by
  have:(sizeLine:Nat)<=(2 ^ 63-1)/8:=by decide
  ext
 have C:¬(!Builtin.List.listFitsIndex k)=true:=by
  rw[fitsIndex_both A w];show aC
 have j:¬Builtin.List.listTooLong (its.toArray.size*k.toNat)=true:=by
  rw[FZ hlen];show aC
 have d:List.foldl (λc b=>c++b) #[] (List.replicate (if its.toArray.isEmpty=true then 0 else k.toNat) its.toArray)=(List.replicate k.toNat its).flatten.toArray:=by
  have f0:∀m:Nat,List.foldl (λc b=>c++b) #[] (List.replicate m its.toArray)=(List.replicate m its).flatten.toArray:=λm=>by
   have:=MP its m [];rw[List.nil_append] at this;show this
  rw[f0];cases its with
  | nil=>simp
  | cons a D=>rw[if_neg (by simp)]
 show wpAny_binaryOp_repeat_ref (T:="list") (U:="int") (by decide) ⟨_,e,rfl⟩ (λf=>typeIs_int f k t) noFill_list_mul F.fills_int_mul F.slot_int_rmul repeat_list F.slot_int_index.lookup
  (call_meets F.slot_int_rmul (typeIs_int s k t) F.entry_int_rmul (F.args_int_rmul_2 _ _) (int___rmul___int_list k t l its.toArray n)
   ⟨e,rfl,⟨_,e,rfl⟩,call_meets F.slot_list_mul ⟨_,e,rfl⟩ F.entry_list_mul (F.args_list_mul_2 _ _) (AutoListH.list___mul___list_int_3 l its.toArray n k t C B j) ⟨e,?_⟩⟩)
 rw[d];show⟨.ref _,_,I.uE (t':=s.toks) (r.rep k.toNat) (by rw[SE,Nat.mul_comm];show hz),rfl,q _ I.fresh⟩
end
section
variable{prog:Program}{w:World}{A:Around}{E:Value->Shared->Prop}{s:Shared}
end
end L2
namespace OL
open PySem PySem.W PySem.Calls PyProof.Rows
theorem W9{P:Params}{h:Heap}:∀(ns:List Int)(c:List Value),WellAll P h c (ns.map WData.int)->IntsAre c ns:=by
 intro ns;induction ns with
 | nil=>
  intro c w;rw[bL] at w;cases w;show .nil
 | cons n ns d=>
  intro c w;rw[ao] at w;cases w with
  | cons a b=>
   cases a;show .cons _ _ (d _ b)
theorem U3{l:OpenLaw}{n:Nat}(hn:l.most=some n){P:Params}{h:Heap}{args:List WData}{b:List Value}
  (g:l.row.toRowW.claim.pre args=true) (w:WellAll P h b args) :
  ∃a f ns,b=[Value.ref a]/\args=[WData.list (ns.map WData.int)]/\h.get? a=some { cls:=.type "list",data:=.seq f.toArray }/\IntsAre f ns/\ns.length<=n:=by
 have j:WShape.hasAll [] args [.list .int]=true:=(pre_splitW g).1;have i:l.pre.holds [] { args:=args }=true:=(pre_splitW g).2;obtain⟨d,r,rfl,u,t⟩:=hasAllW_cons j;obtain rfl:=hasAllW_nil t;obtain⟨xs,rfl,s⟩:=hasW_list u;obtain⟨ns,rfl⟩:=items_int s;have hlen:ns.length<=n:=by
  unfold OpenLaw.pre at i;have e:(WTm.not (.lt (.lit (.int (n:Int))) (.len (.arg 0)))).holds [] { args:=[.list (ns.map .int)] }=true:=by
   have e:=(holds_andW i).1;rw[hn] at e;show e
  have c:=condW_of e (w_not (w_lt w_lit (w_len_list (w_arg rfl))));rw[ae] at c;show Nat.le_of_not_lt λq=>?_
  have o:(n:Int)<((ns.length:Nat):Int):=by ext
  first
   | (rw[bc o] at c;show absurd c (by decide))
   | (simp at c;ext)
 cases w with
 | cons m k=>
  cases k;cases m with
  | list p v=>show⟨_,_,ns,rfl,rfl,p,W9 ns _ v,hlen⟩
theorem U2(l:OpenLaw)(args:List WData):l.row.toRowW.claim.post args (.bool true) args=true:=
 postW_of (r:=l.row.toRowW) (X:=(true==true))
  (show WShape.has [] (.bool true) .bool=true by first | rfl | decide | simp[WShape.has,WShape.arms,WShape.armsAll])
  (show(WTm.eq .res (.lit (.bool true))).value [] { args:=args,res:=some (.bool true),after:=args }=some (.bool (true==true)) from w_eq_bool (w_res rfl) w_lit) rfl
theorem nQ{l:OpenLaw}{n:Nat}{q:Program}{b:List Str}{k:(Str->Option Value)->Heap->Prop}{j:World->Heap->Prop}{d:DefRec}
  (hn:l.most=some n) (B:d.params.defaults=[])
  (call:∀(w:World)(dA c:Shared)(mg h:Str->Option Value)(fa:Addr)(o:Obj)(pm cd doc:Value)(a:Addr)(e:List Value)(ns:List Int),
   Ground q b [] k w dA mg h c.heap->j w c.heap->
   c.heap.get? fa=some o->o.data=.func (docDef d.name d.params d.body d.scope pm cd doc)->c.heap.CodeRec cd d.name->mg d.name=some (.ref fa)->
   c.heap.get? a=some { cls:=.type "list",data:=.seq e.toArray }->IntsAre e ns->ns.length<=n->c.gens=#[]->
   codeAny (model l.prog w) callerA (.call (.ref fa) ⟨[.ref a],[]⟩) (λr g=>r=.ok (.ret (.bool true))/\OldK c.heap g.heap/\g.os=c.os/\AllBare g.gens) c) :
  WalkO q b k j l.row.toRowW d [] (λf e=>PySem.call f e):=by
 intro w dA c mg h G Y fa o pm cd doc A kV v hd s i uL hg args vals as p D t C E;obtain rfl:A=.none:=Dflts.none i B;obtain rfl:kV=.none:=Dflts.noKw i;obtain⟨a,e,ns,rfl,rfl,m,hints,hlen⟩:=U3 hn p C;show enter_call (codeAny_mono (call w dA c mg h fa o pm cd doc a e ns G Y v (fd_plain hd) s uL m hints hlen hg) λr g u=>?_);obtain⟨rfl,z,y,x⟩:=u;show⟨.inl ⟨.bool true,.bool true,[],rfl,λ_=>rfl,.bool true,U2 l _,λ_=>⟨List.Pairwise.nil,λ_ hm=>(nomatch hm)⟩⟩,z,y,x⟩
end OL
namespace L2
open PySem PySem.Spec PyProof.Rows
theorem MO:∀{a:List Value}{ns:List Int},IntsAre a ns->Vals (ns.map V.int) a
 | _,_,.nil=>.nil
 | _,_,.cons n t h=>.cons ⟨t,rfl⟩ (MO h)
def JH(H:Hp):Prop:=∀b,H b=none\/∃o xs,H b=some (.lF o (.lst xs))
theorem TH{P:Program}{w:World}{K:J'}{mg y:Str->Option Value}{T:t8}{k:Nat}{fa a:Addr}{Q:FuncData}{x:Str}{D:Sp}{c:Shared}{g:List Value}{j:List Int}
  (KX:K.In c.heap) (J:c.heap.Ns mainGlobals mg) (hb:c.heap.Ns builtinsNs y) (D3:∀x:Str,x≠"__name__"->y x=bootBuiltins x) (Iu:c.heap.NoLimit) (hg:c.gens=#[])
  (ha:c.heap.get? a=some { cls:=.type "list",data:=.seq g.toArray }) (M:IntsAre g j) (L:j.length<=sizeLine) (hr:eQ k callerA)
  (F:∀base:Heap,K.In base->base.Ns mainGlobals mg->jY P w K mg base T k fa Q [x] D) (Bw:∀(s:Shared)(u:Value),BindsTo s Q ⟨[u],[]⟩ [(x,u)])
  (Z:∀H:Hp,JH H->eP K H a (j.map V.int)->D [.ref a] H (λv _=>v=.bl true) λ_ _ _=>False)
  (B:∀H e f,T [] H c (λ_ _ _=>False) e f->False) :
  codeAny (model P w) callerA (.call (.ref fa) ⟨[.ref a],[]⟩) (λr f=>r=.ok (.ret (.bool true))/\OldK c.heap f.heap/\f.os=c.os/\AllBare f.gens) c:=by
 have E:=MO M;have HH:=M.length
 -- from an abstract heap in Nv nothing but G W may be tracked
 have core:∀H:Hp,JH H->eP K H a (j.map V.int)->i6 P w H c.heap->(∀b,H b≠none->b=a)->(H a≠none->K.lookup a=none)->
   codeAny (model P w) callerA (.call (.ref fa) ⟨[.ref a],[]⟩) (λr f=>r=.ok (.ret (.bool true))/\OldK c.heap f.heap/\f.os=c.os/\AllBare f.gens) c:=by
  intro H N hS cN O hK;have I:∀{b:Addr}{o:Obj},c.heap.get? b=some o->H b=none->(ud c.heap H).get? b=some o:=λe n=>TZ e n
  have AM:∀{b:Addr}{o:Obj}{l:Array DictEntry}{p:Nat},c.heap.get? b=some o->o.data=.dict l p->H b=none:=λ{b o l p} e d=>by
   cases q:H b with
   | none=>rfl
   | some u=>
    have C:b=a:=O b (by rw[q];simp);subst C;rw[ha] at e;cases e;have d':Data.seq g.toArray _=Data.dict l p:=d;cases d'
  have t:∀{b:Addr}{m:Str->Option Value},c.heap.Ns b m->(ud c.heap H).Ns b m:=λ{b m} ⟨o,l,p,e,d,r⟩=>⟨o,l,p,I e (AM e d),d,r⟩
  have S:K.In (ud c.heap H):=λb o e=>I (KX b o e) (by
   cases q:H b with
   | none=>rfl
   | some u=>
    have C:b=a:=O b (by rw[q];simp);subst C
    rw[hK (by rw[q];simp)] at e;cases e)
  have hM:Mod K mg (ud c.heap H):=⟨S,t J,⟨y,t hb,D3⟩,let⟨mc,h1,h2⟩:=Iu;⟨mc,t h1,h2⟩⟩
  have e0:uW P w K mg (ud c.heap H) callerA [] c H:=⟨rfl,hM,λb o e=>Sg e,Nat.le_of_eq (V1 _ _),trivial,λb hb=>absurd (show b∈([]:List Addr) from hb) (by simp),cN,.of_eq hg⟩
  show codeAny_mono ((F _ S (t J)).run callerA [] c H ⟨[.ref a],[]⟩ [.ref a] [.ref a] _ _ hr e0 (Bw c (.ref a)) (.cons rfl .nil) (Z H N hS)) λr f h=>?_
  cases r with
  | error e=>show(B H e f h).elim
  | ok fl=>
   cases fl with
   | next=>show False.elim h
   | brk=>show False.elim h
   | cont=>show False.elim h
   | ret u=>
    obtain⟨v,H',os,bare,un,Ih,X,q⟩:=h;have Y:v=.bl true:=q;subst Y;obtain rfl:u=Value.bool true:=X;show⟨rfl,OldK.of_keep λb o e=>?_,os,bare⟩;cases q:H b with
    | none=>show un.keep b o e q (by intro z;show absurd (show b∈([]:List Addr) from z) (by simp)) (by simp)
    | some u=>
     rcases N b with z | ⟨ob,xs,z⟩
     .rw[q] at z;cases z
     have U:=un.jT b ob _ z;obtain⟨R,_⟩:=cN b _ z;obtain⟨e2,_⟩:=Ih b _ U;rw[e] at R;cases R;show e2
 cases A:K.lookup a with
 | some o=>
  -- G W is one of G AO own objects
  have e:=KX a o A;rw[ha] at e;cases e;show core (λ_=>none) (λ_=>.inl rfl) (.inr ⟨_,g.toArray,_,A,rfl,rfl,rfl,by rw[aB,HH];show L,by simpa using E⟩) (λb u z=>by have i:(none:Option HO)=some u:=z;cases i) (λb z=>absurd rfl z) λz=>absurd rfl z
 | none=>
  show core (λb=>if b=a then some (.lF { cls:=.type "list",data:=.seq g.toArray } (.lst (j.map V.int))) else none) (λb=>?_) (.inl (.inr ⟨{ cls:=.type "list",data:=.seq g.toArray },if_pos rfl⟩)) (λb u z=>?_) (λb z=>?_) λ_=>A
  .by_cases hb:b=a
   .exact .inr ⟨_,_,if_pos hb⟩
   show .inl (if_neg hb)
  .by_cases hb:b=a
   .have i:=(if_pos hb).symm.trans z;cases i;subst hb;show⟨ha,by rw[ae];show L,g,_,E,ha⟩
   have i:=(if_neg hb).symm.trans z;cases i
  by_cases hb:b=a
  .exact hb
  show absurd (if_neg hb) z
noncomputable abbrev nU{K:J'}{h:Heap}(_:K.In h):J':=K
noncomputable def gn(s:Stmt):Arguments:=match s with
 | .FunctionDef _ a _ _ _ _ _ _ _ _=>a
 | _=>{ posonlyargs:=[],args:=[],vararg:=none,kwonlyargs:=[],kw_defaults:=[],kwarg:=none,defaults:=[] }
noncomputable def dz(s:Stmt):List Stmt:=match s with
 | .FunctionDef _ _ b _ _ _ _ _ _ _=>b
 | _=>[]
noncomputable def b9(s:Stmt):Scope:=match s with
 | .FunctionDef _ _ _ _ _ _ sc _ _ _=>sc
 | _=>{ kind:=.function,names:=[],isGenerator:=false,isCoroutine:=false }
abbrev qS:t8:=λ_ _ _ _ _ _=>False
abbrev E0:XK:=λ_ _ _=>False
theorem P5{X:Cx}:zJ qS X E0:=λ_ _ _ _ _ _ _ h=>h.elim
structure qR(dV:Value)(K:J')(x qual:Str)(st:Stmt)(f:Addr)(fd:FuncData):Prop where
 ex:∃(oc:Value)(od:Option Addr)(kV doc pm:Value)(an:Option Addr)(c8 ct:Value)(rA:Array (Option Value)),
  fd=PySem.W.fnOf x qual (gn st) (dz st) (b9 st) dV kV doc pm an c8 ct/\K.lookup f=some ⟨oc,od,.func fd,rA⟩/\PySem.W.codeIn K c8 qual=true
 kp:PySem.W.keepIn K (.ref f)=true
noncomputable abbrev OJ:=qR .none
section
variable{P:Program}{w:World}{K:J'}{mg:Str->Option Value}{base:Heap}
theorem qR.ok{m:Value}{x a:Str}{st:Stmt}{f:Addr}{e:FuncData}{N ps:List Str}{k:Nat}{d:Sp}(F:qR m K x a st f e)(S:ck N ps (b9 st))(len:∀b H Q E,d b H Q E->b.length=ps.length)
  (g:∀(c:Value)(A:Around)(outer:List Env)(s:Shared)(H:Hp)(b:List V)(Q:VK)(E:XK),eQ k (A.deeper (envOfC a (b9 st) s.heap.objs.size f c))->d b H Q E->
   ∃t,nT (pG qS P w K mg base N a (b9 st) f c A outer s H E).vA (dz st) t/\t { nx:=λ_ H'=>Q .non H',rt:=Q } (start N b) H):jY P w K mg base qS (k+1) f e ps d:=by
 obtain⟨p,o,kV,doc,pm,an,c,ct,n,rfl,lk,j⟩:=F.ex;show J1 lk j S len λA outer s H b Q E l i=>?_
 obtain⟨t,h,q⟩:=g c A outer s H b Q E l i;show⟨t,h.vA,q⟩
theorem qR.binds{x a:Str}{st:Stmt}{f:Addr}{c:FuncData}{ps:List Str}(F:OJ K x a st f c)
  (h:∀(kV doc pm:Value)(an:Option Addr)(b ct:Value)(us:List Value),us.length=ps.length->bindArgs (PySem.W.fnOf x a (gn st) (dz st) (b9 st) .none kV doc pm an b ct) ⟨us,[]⟩=pure (ps.zip us)):Binds K c ps []:=by
 obtain⟨g,e,kV,doc,pm,an,b,ct,d,rfl,lk,i⟩:=F.ex;show .all (h kV doc pm an b ct)
theorem QA{x a:Str}{st:Stmt}{f:Addr}{m:Value}{j h:Option Addr}{i:Array (Option Value)}{g kV b e d ct:Value}(l:K.lookup f=some ⟨m,j,.func (PySem.W.fnOf x a (gn st) (dz st) (b9 st) g kV b e h d ct),i⟩)
  (c:PySem.W.codeIn K d a=true) (k:PySem.W.keepIn K (.ref f)=true):qR g K x a st f (PySem.W.fnOf x a (gn st) (dz st) (b9 st) g kV b e h d ct):=⟨⟨m,j,kV,b,e,h,d,ct,i,rfl,l,c⟩,k⟩
end
def cw(H H':Hp):Prop:=∀b o,H b=some o->H' b=some o
theorem cw.refl(H:Hp):cw H H:=λ_ _ h=>h
theorem cw.trans{H e d:Hp}(a:cw H e)(b:cw e d):cw H d:=λc o h=>b c o (a c o h)
theorem cw.free{H H':Hp}(e:cw H H'){l:Addr}(h:H' l=Option.none):H l=Option.none:=by
 cases q:H l with
 | none=>rfl
 | some o=>
  rw[e l o q] at h;cases h
end L2
set_option maxHeartbeats 0
namespace L2
open PySem PySem.Spec PyProof.Rows
def kP(K:J')(H:Hp)(a:Addr)(xs:List V):Prop:=
 Rd H a (.lst xs)\/∃(its:Array Value)(n:Nat),K.lookup a=some { cls:=.type "list",data:=.seq its n }/\its.size<=sizeLine/\Vals xs its.toList
theorem kP.of{K:J'}{H:Hp}{a:Addr}{xs:List V}(h:H a=some (.lst xs)):kP K H a xs:=.inl (.inl h)
theorem kP.sq{K:J'}{H:Hp}{a:Addr}{xs:List V}(h:kP K H a xs):eP K H a xs:=by
 rcases h with h | ⟨its,n,d,c,b⟩
 .exact .inl h
 show .inr ⟨_,its,n,d,rfl,rfl,rfl,c,b⟩
theorem cw.fZ{K:J'}{H H':Hp}{a:Addr}{xs:List V}(e:cw H H')(h:kP K H a xs):kP K H' a xs:=by
 rcases h with(h | ⟨o,h⟩) | h
 .exact .inl (.inl (e _ _ h))
 .exact .inl (.inr ⟨o,e _ _ h⟩)
 show .inr h
theorem Inv.fZ{X:Cx}{g:List (Addr×Obj)}{c:St}{H:Hp}{s:Shared}{a:Addr}{xs:List V}(I:Inv X g c H s)(h:kP X.K H a xs):xs.length<=sizeLine/\∃(its:List Value)(n:Nat),Vals xs its/\s.heap.get? a=some { cls:=.type "list",data:=.seq its.toArray n }:=by
 rcases h with h | ⟨its,n,f,d,b⟩
 .obtain⟨z,its,n,r,e⟩:=h.ok I.cN;show⟨z,its,n,r,e⟩
 show⟨by rw[b.length];simpa using d,its.toList,n,b,?_⟩;rw[Array.toArray_toList];show I.nB a _ f
noncomputable def kQ(cells:List (Str×Addr)):List (Str×NameKind)->List (Str×Addr)->List (Str×Addr)
 | [],acc=>acc
 | (n,k)::r,acc=>kQ cells r (if k==.free then(n,(cells.lookup n).getD 0)::acc else acc)
theorem M4{env:Env}:∀(names:List (Str×NameKind))(acc:List (Str×Addr)),(∀x∈names,x.2=.free->∃c,env.cells.lookup x.1=some c)->
  (forIn names acc λ(x:Str×NameKind)(r:List (Str×Addr))=>
   (if (x.2==NameKind.free)=true then do let a <-cellOf env x.1;pure (ForInStep.yield ((x.1,a)::r)) else pure (ForInStep.yield r):Sem (ForInStep (List (Str×Addr)))))=pure (kQ env.cells names acc)
 | [],acc,_=>by simp[kQ]
 | (n,k)::r,acc,h=>by
  have d:=λi=>M4 (env:=env) r i λx g=>h x (au _ g)
  rw[List.forIn_cons];by_cases e:k=.free
  .subst e;obtain⟨c,f⟩:=h (n,.free) (by simp) rfl;have j:cellOf env n=pure c:=by unfold cellOf;rw[f]
   simp only[beq_self_eq_true,bP,j,pure_bind];rw[d];simp[kQ,f]
  have b:(k==NameKind.free)=false:=by simpa using e
  simp only[b,aU,bG,pure_bind];rw[d];simp[kQ,b]
theorem M3{env:Env}{scope:Scope}(h:∀x∈scope.names,x.2=.free->∃c,env.cells.lookup x.1=some c):closureFor scope env=pure (kQ env.cells scope.names []):=by
 have e:closureFor scope env=(forIn scope.names ([]:List (Str×Addr)) λ(x:Str×NameKind)(r:List (Str×Addr))=>
   (if (x.2==NameKind.free)=true then do let a <-cellOf env x.1;pure (ForInStep.yield ((x.1,a)::r)) else pure (ForInStep.yield r):Sem (ForInStep (List (Str×Addr))))) >>= λr=>pure r:=rfl
 rw[e,M4 _ _ h];rfl
theorem MD{cells:List (Str×Addr)}:∀{names:List (Str×NameKind)}{acc:List (Str×Addr)}{x:Str}{c:Addr},(x,c)∈kQ cells names acc->(x,c)∈acc\/((x,.free)∈names/\c=(cells.lookup x).getD 0)
 | [],acc,x,c,h=>.inl h
 | (n,k)::r,acc,x,c,h=>by
  rcases MD (names:=r) h with h | ⟨h,e⟩
  .by_cases a:k=.free
   .subst a;simp only[beq_self_eq_true,bP] at h;rcases az.mp h with h | h
    .cases h;show .inr ⟨by simp,rfl⟩
    show .inl h
   have b:(k==NameKind.free)=false:=by simpa using a
   simp only[b,aU,bG] at h;show .inl h
  show .inr ⟨au _ h,e⟩
theorem MC{cells:List (Str×Addr)}:∀{names:List (Str×NameKind)}{acc:List (Str×Addr)}{p:Str×Addr},p∈acc->p∈kQ cells names acc
 | [],acc,p,h=>h
 | (n,k)::r,acc,p,h=>MC (names:=r) (by split<;>simp[h])
theorem FY{cells:List (Str×Addr)}:∀{names:List (Str×NameKind)}{acc:List (Str×Addr)}{x:Str},(x,.free)∈names->∃c,(x,c)∈kQ cells names acc
 | (n,k)::r,acc,x,h=>by
  rcases az.mp h with h | h
  .have b:x=n:=congrArg Prod.fst h;have a:NameKind.free=k:=congrArg Prod.snd h;subst b a;show⟨(cells.lookup x).getD 0,?_⟩;show(x,(cells.lookup x).getD 0)∈kQ cells r (if (NameKind.free==NameKind.free)=true then(x,(cells.lookup x).getD 0)::acc else acc);show MC (by simp)
  show FY (names:=r) h
theorem Du{α:Type}:∀{l:List (Str×α)}{x:Str}{c:α},(x,c)∈l->∃a,l.lookup x=some a
 | (n,k)::r,x,c,h=>by
  by_cases e:x=n
  .subst e;show⟨k,by simp[List.lookup_cons]⟩
  have b:(x==n)=false:=by simpa using e
  rcases az.mp h with h | h
  .cases h;show absurd rfl e
  obtain⟨a,q⟩:=Du h;show⟨a,by simp[List.lookup_cons,b,q]⟩
theorem GS{env:Env}:∀{names:List (Str×NameKind)}{x:Str},
  (names.map λ(n,k)=>if (k==NameKind.free&&env.scope.kind==.function&&env.kindOf n==some .cell) then(n,NameKind.cell) else(n,k)).lookup x
   = (names.lookup x).map λk=>if (k==NameKind.free&&env.scope.kind==.function&&env.kindOf x==some .cell) then NameKind.cell else k
 | [],x=>rfl
 | (n,k)::r,x=>by
  have a:=@GS env r x;rw[ao];have b:(if (k==NameKind.free&&env.scope.kind==.function&&env.kindOf n==some .cell)=true then(n,NameKind.cell) else(n,k))=(n,if (k==NameKind.free&&env.scope.kind==.function&&env.kindOf n==some .cell)=true then NameKind.cell else k):=by split<;>rfl
  show List.lookup x ((if (k==NameKind.free&&env.scope.kind==.function&&env.kindOf n==some .cell)=true then(n,NameKind.cell) else(n,k))::_)=_;rw[b];by_cases e:x=n
  .subst e;rw[List.lookup_cons,List.lookup_cons,beq_self_eq_true];rfl
  have c:(x==n)=false:=by simpa using e
  rw[List.lookup_cons,List.lookup_cons,c];show a
theorem G9:∀(names:List (Str×NameKind))(n:Nat)(acc a:List (Str×Addr)),cellsFrom n names (acc++a)=cellsFrom n names acc++a
 | [],_,_,_=>rfl
 | (x,k)::r,n,acc,a=>by
  unfold cellsFrom;split
  .exact G9 r (n+1) ((x,n)::acc) a
  show G9 r n acc a
theorem GZ:∀{names:List (Str×NameKind)}{n:Nat}{acc:List (Str×Addr)}{p:Str×Addr},p∈cellsFrom n names acc->p∈acc\/(p.1,.cell)∈names
 | [],_,_,_,h=>.inl h
 | (x,k)::r,n,acc,p,h=>by
  unfold cellsFrom at h;split at h
  .rename_i a;rcases GZ h with h | h
   .rcases az.mp h with rfl | h
    .rw[eq_of_beq a];show .inr (by simp)
    show .inl h
   show .inr (au _ h)
  show(GZ h).imp id (au _)
theorem z8:∀{names:List (Str×NameKind)}{n:Nat}{acc:List (Str×Addr)}{p:Str×Addr},p∈acc->p∈cellsFrom n names acc
 | [],_,_,_,h=>h
 | (x,k)::r,n,acc,p,h=>by
  unfold cellsFrom;split
  .exact z8 (au _ h)
  show z8 h
theorem GY:∀{names:List (Str×NameKind)}{n:Nat}{acc:List (Str×Addr)}{x:Str},(x,.cell)∈names->∃c,(x,c)∈cellsFrom n names acc
 | (y,k)::r,n,acc,x,h=>by
  unfold cellsFrom;rcases az.mp h with h | h
  .cases h;show⟨n,z8 (by simp)⟩
  split
  .exact GY h
  show GY h
theorem TF{M:Model}{A:Around}{E:Value->Shared->Prop}{s:Shared}{scope:Scope}{a:Addr}{b:List (Str×Addr)}{c:Str}{d:Option Addr}{e:Value}{f:Env}{Q:Env->Shared->Prop}
  (g:∀h',h'=pushCells (s.heap.push { cls:=.type "dict",data:=.dict #[] }) scope.names->Q (newEnv scope s.heap.objs.size a (cellsFrom (s.heap.objs.size+1) scope.names b) c d e (some f) builtinsNs) { s with heap:=h' }) :
  wpAny M A (newFunctionEnv scope a b [] c d e (some f)) Q E s:=by
 simp only[newFunctionEnv,Option.isSome_some,bP];show aa (wpAny_alloc ?_);show aa (wpAny_layCells _ (λname kind cells=>by cases h:kind==NameKind.cell<;>simp[h]) _ _ _ _ ?_);rw[show({ s with heap:=s.heap.push { cls:=.type "dict",data:=.dict #[] } }:Shared).heap.objs.size=s.heap.objs.size+1 from Heap.size_push ..];rw[List.forIn_nil];show aa (ah (ah (g _ rfl)))
noncomputable abbrev lG(X:Cx)(N':List Str)(scope:Scope)(a:Shared)(b:Hp)(ex:List Addr)(XE:Value->Shared->Prop):Cx:=
 { X with N:=N',dA:=a,qQ:=b,env:=compEnvC scope (cellsFrom (a.heap.objs.size+1) scope.names (kQ X.env.cells scope.names [])) a.heap.objs.size X.env,outer:=X.stack,stack:=X.stack,ex:=ex,fn:=λx=>scope.names.lookup x==some .cell,pn:=[],xe:=XE }
noncomputable abbrev nj(X:Cx)(N':List Str)(scope:Scope)(a:Shared)(b:Hp)(ex:List Addr):Cx:=lG X N' scope a b ex λ_ _=>False
def Ei(X:Cx)(C:Addr)(x:Value)(a:Shared):Prop:=
 ∃m,a.heap.Ns C m/\∀h',Heap.SameBut C a.heap h'->∀b:Env,b.locals=C->wpAny (model X.prog X.w) X.A (passOn "comprehension.variables-let-go" x b:Sem Value) (λ_ _=>False) X.xe { a with heap:=h' }
noncomputable def pV(m:List (Option Nat))(a:St):St:=m.map λo=>match o with
 | none=>none
 | some j=>(a[j]?).join
structure cK(X:Cx)(N':List Str)(m:List (Option Nat))(scope:Scope):Prop where
 kind:scope.kind=.function
 len:m.length=N'.length
 uniq:∀y∈scope.names,scope.names.lookup y.1=some y.2
 free:∀y∈scope.names,y.2=.free->X.env.kindOf y.1=some .cell\/X.env.kindOf y.1=some .free
 cap:∀(i j:Nat)(x:Str),m[i]?=some (some j)->N'[i]?=some x->X.N[j]?=some x/\scope.names.lookup x=some .free
def wb(X:Cx)(a:List Expr)(t:TT):Prop:=
 ∀(b:List (Addr×Obj))(s:Shared)(σ:St)(H:Hp)(Q:Bool->Hp->Prop),Inv X b σ H s->t σ H Q->
  wpAny (model X.prog X.w) X.A (forIn a true λc r=>if r=true then do let ok <-isTrue c X.env (eval c X.env);pure (ForInStep.yield ok) else pure (ForInStep.yield r)) (TP X b σ Q) X.xe s
def O0:TT:=λ_ H Q=>Q true H
theorem SD{X:Cx}:wb X [] O0:=λ_ _ σ H _ I h=>wpAny_tests_nil ⟨H,I,h⟩
theorem SA{X:Cx}{c:Expr}{t:TT}(h:PT X c t):wb X [c] t:=λa s σ H Q I q=>wpAny_tests_one (h a s σ H Q I q)
section
variable{prog:Program}{w:World}{A:Around}{R:Result->Shared->Prop}{s:Shared}
theorem V7{e a b:Expr}{d:List Expr}{scope:Scope}{pos:Pos}{it acc:Value}{env:Env}{f:Value->Shared->Prop}(g:∀x s,f x s->notedBy (model prog w) A env (λx y=>R (.error x) y) x s)(I:Nat->Shared->Prop)
  (turn:∀n s,I n s->wpAny (model prog w) A (pyNext it) (λr j=>match r with
   | none=>R (.ok .next) j
   | some v=>wpAny (model prog w) A (letOwnedTupleGo a it v) (λ_ k=>wpAny (model prog w) A (assign a env v) (λ_ p=>
     wpAny (model prog w) A (forIn d true λc r=>if r=true then do let ok <-isTrue c env (eval c env);pure (ForInStep.yield ok) else pure (ForInStep.yield r)) (λok i=>
      if ok=true then wpAny (model prog w) A (eval e env) (λx l=>
       wpAny (model prog w) A (call (.builtin "list.append") [acc,x]) (λ_ t=>∃m,m<n/\I m t) f l) f i
      else ∃m,m<n/\I m i) f p) f k) f j) f s)
  (n:Nat) (h:I n s) :
  codeAny (model prog w) A (.compLoop (.ListComp e [⟨a,b,d,0⟩] scope pos) 0 it acc env) R s:=by
 show codeAny_loop rfl I (λn s C=>?_) n h;show wpAny _ A ((compTurn (.ListComp e [⟨a,b,d,0⟩] scope pos) 0 it acc env).onRaise (λx=>do noteFrame x env;theTreesLotGoes x)) _ _ s;show wpAny_noted ?_;rw[compTurn_list];show aa (wpAny_standAt (aa (bF (turn n s C) (λr j q=>?_) g)));cases r with
 | none=>show ah q
 | some v=>
  show aa (bF q (λ_ k D=>?_) g);show aa (bF D (λ_ p z=>aa (bF z (λok i o=>?_) g)) g);cases ok with
  | false=>show ah ⟨rfl,o⟩
  | true=>
   show aa (aa (bF o (λx l B=>aa (bF B (λ_ t u=>ah (ah ⟨rfl,u⟩)) g)) g))
end
noncomputable abbrev pj(α:Type):=Shared->Hp->List Addr->α
def u9(j:TI)(m:List (Option Nat))(g:pj TG)(tc:pj TT)(te:pj TE):TE:=λσ H Q=>j σ H λJ H1=>∀D,H1 D=none->∀s3 ex,
 ∃W:Nat->Nat->St->Hp->Prop,(∃k,W 0 k (pV m σ) (upd H1 D (.lst [])))/\∀i k a H',W i k a H'->
  (J.stop i H'/\Q (.ref D) H')\/(J.go i H'/\∃N:St->Hp->Prop,(∀a H',N a H'->∃d,d<k/\W (i+1) d a H')/\
   ∀x h,J.Dz i H' x h->g s3 (upd H1 D (.lst [])) ex x a h λc l=>tc s3 (upd H1 D (.lst [])) ex c l λb f=>
    if b=true then te s3 (upd H1 D (.lst [])) ex c f λv e=>∃xs,e D=some (.lst xs)/\xs.length<sizeLine/\N c (upd e D (.lst (xs++[v]))) else N c f)
section
variable{X:Cx}{elt iter tg:Expr}{ifs:List Expr}{scope:Scope}{pos:Pos}{N':List Str}{m:List (Option Nat)}{wi:TI}{g:pj TG}{tc:pj TT}{te:pj TE}
theorem TC{XE:Value->Shared->Prop}{R:List (Addr×Obj)}{t:St}{H:Hp}{s:Shared}{fp:List Addr}{B:Heap}{tk:Nat}(cs:cK X N' m scope)(I:Inv X R t H s)(f:∀b∈fp,jX X R H b)(O:∀b∈fp,b<s.heap.objs.size)
  (hh:B=pushCells (s.heap.push { cls:=.type "dict",data:=.dict #[] }) scope.names) :
  Inv (lG X N' scope s H fp XE) [] (pV m t) H { s with heap:=B,toks:=tk }:=by
 have A:∀b o,s.heap.get? b=some o->B.get? b=some o:=λb o e=>by rw[hh];show pushCells_keeps _ _ b o (aq _ e)
 have U:B.Ns s.heap.objs.size (λ_=>none):=by rw[hh];show(Heap.Ns.new s.heap (.type "dict")).keeps (pushCells_keeps _ _)
 have ok:=cellsFrom_ok scope.names (s.heap.push { cls:=.type "dict",data:=.dict #[] }) (s.heap.objs.size+1) [] ⟨λ_ _ hm=>(nomatch hm),List.Pairwise.nil⟩ (by rw[Heap.size_push];show aD _);rw[Heap.size_push,<-hh] at ok;have ef:∀y∈scope.names,y.2=.free->∃c,X.env.cells.lookup y.1=some c:=λy W hf=>I.ok.has y.1 (cs.free y W hf)
 have app:cellsFrom (s.heap.objs.size+1) scope.names (kQ X.env.cells scope.names [])=cellsFrom (s.heap.objs.size+1) scope.names []++kQ X.env.cells scope.names []:=G9 _ _ [] _
 /- a cell: of its own,or one from om -/
 have r:∀x c,(cellsFrom (s.heap.objs.size+1) scope.names (kQ X.env.cells scope.names [])).lookup x=some c->((x,c)∈cellsFrom (s.heap.objs.size+1) scope.names []/\scope.names.lookup x=some .cell)\/(X.env.cells.lookup x=some c/\scope.names.lookup x=some .free):=λx c e=>by
  have hm:=PySem.mem_of_lookup e;rw[app] at hm;rcases aJ.mp hm with hm | hm
  .refine .inl ⟨hm,?_⟩;rcases GZ hm with z | z
   .cases z
   show cs.uniq _ z
  rcases MD hm with z | ⟨z,P⟩
  .cases z
  obtain⟨G,q⟩:=ef _ z rfl;rw[q] at P;show .inr ⟨by rw[q,P];rfl,cs.uniq _ z⟩
 have old:∀x c,X.env.cells.lookup x=some c->c<s.heap.objs.size:=λx c e=>by obtain⟨v,z⟩:=I.cell x c e;show z.lt
 show⟨⟨I.ok.mod,cs.kind,I.ok.glob,I.ok.blt,aD _,λx y c e1 e2=>?inj,λx E=>?_,λx c E e=>?cab,I.ok.hd,I.ok.frames,.inl rfl,λb hb=>⟨aW (O b hb),λx c e=>?exf⟩,
  λb o e=>I.bs b o e,aR I.ok.vY I.sz,λb o e hb=>?_,λb hb z=>?_,I.stack,I.pM⟩,
  rfl,I.bare,Un.kept A,⟨_,U,λi x v h1 d h3=>?_⟩,λx c e=>?_,I.cN.fresh (aD _),λx c e=>?frc,λp Y=>(by cases Y),I.cN.kept A,?_⟩
 case inj=>
  rcases r x c e1 with⟨g,_⟩ | ⟨l,_⟩<;>rcases r y c e2 with⟨N,_⟩ | ⟨M,_⟩
  .exact PySem.name_of_addr ok.apart g N
  .exact absurd (old y c M) (Nat.not_lt.mpr (aR (Nat.le_succ _) (ok.empty x c g).2))
  .exact absurd (old x c l) (Nat.not_lt.mpr (aR (Nat.le_succ _) (ok.empty y c N).2))
  show I.ok.inj x y c l M
 case cab=>
  rcases r x c e with⟨g,_⟩ | ⟨_,z⟩
  .exact aR (Nat.le_succ _) (ok.empty x c g).2
  have h:(scope.names.lookup x==some .cell)=true:=E;rw[z] at h;cases h
 case exf=>
  rcases r x c e with⟨g,_⟩ | ⟨l,_⟩
  .exact Nat.ne_of_gt (aS (Nat.lt_succ_of_lt (O b hb)) (ok.empty x c g).2)
  show(f b hb).2.2.2.2.1 x c l
 case frc=>
  rcases r x c e with⟨g,_⟩ | ⟨l,_⟩
  .exact I.cN.fresh (aR (Nat.le_succ _) (ok.empty x c g).2)
  show I.gk x c l
 .have h:(relabel scope X.env).names.lookup x=some .cell\/(relabel scope X.env).names.lookup x=some .free:=E;have e:(relabel scope X.env).names.lookup x=(scope.names.lookup x).map λk=>if (k==NameKind.free&&X.env.scope.kind==.function&&X.env.kindOf x==some .cell) then NameKind.cell else k:=GS
  rw[e] at h;have hf:(x,NameKind.free)∈scope.names\/(x,NameKind.cell)∈scope.names:=by
   cases q:scope.names.lookup x with
   | none=>rw[q] at h;simp at h
   | some k=>
    rw[q] at h;have hm:=PySem.mem_of_lookup q;by_cases J:k=.free
    .subst J;show .inl hm
    have S:(k==NameKind.free)=false:=by simpa using J
    simp only[S,bO,Bool.false_and,aU,bG,aN] at h;rcases h with z | z
    .subst z;show .inr hm
    show absurd z J
  show ∃c,(cellsFrom (s.heap.objs.size+1) scope.names (kQ X.env.cells scope.names [])).lookup x=some c
  rcases hf with hf | hf
  .obtain⟨c,F⟩:=FY (cells:=X.env.cells) (acc:=[]) hf;show Du (z8 F)
  obtain⟨c,F⟩:=GY (n:=s.heap.objs.size+1) (acc:=kQ X.env.cells scope.names []) hf;show Du F
 .rcases(f b hb).2.2.2.1 with z | z
  .exact I.ok.qF b o e z
  show absurd (aS (aI (I.ok.bs b o e).1) z) (Nat.lt_irrefl _)
 .rcases az.mp (I.oO b z) with q | q
  .exact(f b hb).2.1 q
  show(f b hb).2.2.1 q
 .unfold pV at d;rw[ar] at d;cases q:m[i]? with
  | none=>rw[q] at d;cases d
  | some o=>
   rw[q] at d;cases o with
   | none=>cases d
   | some j=>
    simp only[bO,aN] at d;have Ou:t[j]?=some (some v):=by
     cases z:t[j]? with
     | none=>rw[z] at d;cases d
     | some a=>rw[z] at d;simp at d;rw[d]
    obtain⟨hN,D⟩:=cs.cap i j x q h1;have Q:=PySem.mem_of_lookup D;obtain⟨m0,Z,hl⟩:=I.loc;have K:=cs.free _ Q rfl;have HU:nR X.env.scope x:=K.elim (λz=>.inr (.inl z)) (λz=>.inr (.inr z));obtain⟨u,T,V⟩:=hl j x v hN Ou HU;show⟨u,T,.inr ⟨?_,?_⟩⟩
    .show(relabel scope X.env).names.lookup x=some .cell\/(relabel scope X.env).names.lookup x=some .free;have e:(relabel scope X.env).names.lookup x=(scope.names.lookup x).map λk=>if (k==NameKind.free&&X.env.scope.kind==.function&&X.env.kindOf x==some .cell) then NameKind.cell else k:=GS
     rw[e,D];simp only[bO];split
     .exact .inl rfl
     show .inr rfl
    rcases V with⟨k,_⟩ | ⟨_,c,e,z⟩
    .rcases K with z | z<;>· rw[k] at z;cases z
    obtain⟨G,L⟩:=Du (z8 (names:=scope.names) (n:=s.heap.objs.size+1) (FY (cells:=X.env.cells) (acc:=[]) Q).choose_spec);have:X.env.cells.lookup x=some G:=by
     rcases r x G L with⟨_,z⟩ | ⟨z,_⟩
     .rw[D] at z;cases z
     show z
    rw[e] at this;cases this;obtain⟨w,C,hd⟩:=z;show⟨c,L,w,A c w C,hd⟩
 .rcases r x c e with⟨g,_⟩ | ⟨l,_⟩
  .exact⟨none,(ok.empty x c g).1⟩
  obtain⟨v,w,C,hd⟩:=I.cell x c l;show⟨v,w,A c w C,hd⟩
 show(pV m t).length=N'.length;unfold pV;rw[ae,cs.len]
def B4(X:Cx)(a:Shared)(d:Hp)(ex:List Addr):Prop:=∃c σ,Inv X c σ d a/\∀b∈ex,jX X c d b/\b<a.heap.objs.size
theorem MN{use:Option (Value->Sem Unit)}{V:Value->Shared->Prop}{k:List (Addr×Obj)}{s:Shared}{q:St}{H:Hp}{Q:VK}
  {XE:Shared->Value->Shared->Prop} (By:∀s3 x j,XE s3 x j->notedBy (model X.prog X.w) X.A (compEnvC scope (cellsFrom (s3.heap.objs.size+1) scope.names (kQ X.env.cells scope.names [])) s3.heap.objs.size X.env) (Ei X s3.heap.objs.size) x j)
  (hc:X.calm=true) (cs:cK X N' m scope) (hi:PI X tg iter wi) (hg:∀s3 l ex,PG (lG X N' scope s3 l ex (XE s3)) tg (g s3 l ex)) (ht:∀s3 l ex,wb (lG X N' scope s3 l ex (XE s3)) ifs (tc s3 l ex))
  (he:∀s3 l ex,B4 X s3 l ex->PE (lG X N' scope s3 l ex (XE s3)) elt (te s3 l ex)) (I:Inv X k q H s) (h:u9 wi m g tc te q H Q)
  (fin:∀D C j H',Inv X k q H' j->jX X k H' C->(∃m,j.heap.Ns C m)->Q (.ref D) H'->compPost (model X.prog X.w) X.A X.xe use V (.ref D) C (.ok .next) j) :
  wpAny (model X.prog X.w) X.A (eval iter X.env) (λx cH=>wpAny (model X.prog X.w) X.A (pyIter x) (λit ip=>wpAny (model X.prog X.w) X.A (newList []) (λacc lL=>
   wpAny (model X.prog X.w) X.A (newFunctionEnv scope X.env.globals (kQ X.env.cells scope.names []) [] X.env.qual none .none (some X.env)) (λkK uw=>
    codeAny (model X.prog X.w) X.A (.compStart (.ListComp elt [⟨tg,iter,ifs,0⟩] scope pos) 0 it acc { kK with scope:=relabel scope X.env }) (compPost (model X.prog X.w) X.A X.xe use V acc kK.locals) uw) X.xe lL) X.xe ip) X.xe cH) X.xe s:=by
 show cW (hi k s q H _ I h) λv s1 h1=>cW h1 λHJ s2 h2=>?_
 obtain⟨it,fp,O,J,f,e,I2,T,yS,f2,h⟩:=h2;subst e;show bR (TF λS vQ=>?_);have hf:f s2.heap.objs.size=none:=I2.cN.fresh (aD _);obtain⟨W,⟨k0,w0⟩,turn⟩:=h s2.heap.objs.size hf { s2 with heap:=s2.heap.push { cls:=.type "list",data:=.seq ([]:List Value).toArray } } fp;have I3:Inv X k q (upd f s2.heap.objs.size (.lst [])) { s2 with heap:=s2.heap.push { cls:=.type "list",data:=.seq ([]:List Value).toArray } }:=I2.uE (its:=[]) (t':=s2.toks) .nil (by simp);have Ow:∀b∈fp,b<s2.heap.objs.size:=λb hb=>by
  obtain⟨o,e,_⟩:=T.obj _ _ yS b hb;show aI e
 have U:∀b∈fp,jX X k (upd f s2.heap.objs.size (.lst [])) b:=λb hb=>⟨by rw[dy (aW (Ow b hb))];show(f2 b hb).1,(f2 b hb).2⟩
 generalize NY:({ s2 with heap:=s2.heap.push { cls:=.type "list",data:=.seq ([]:List Value).toArray } }:Shared)=s3 at *;have hC:s3.heap.objs.size=s2.heap.objs.size+1:=by rw[<-NY];show Heap.size_push ..
 have Z:∀b∈fp,b<s3.heap.objs.size:=λb hb=>by rw[hC];show Nat.lt_succ_of_lt (Ow b hb)
 have k3:∀b o,s2.heap.get? b=some o->s3.heap.get? b=some o:=λb o e=>by rw[<-NY];show aq _ e
 have k1:∀b o,s3.heap.get? b=some o->S.get? b=some o:=λb o e=>by rw[vQ];show pushCells_keeps _ _ b o (aq _ e)
 have Y:=TC (XE:=XE s3) (tk:=s3.toks) cs I3 U Z vQ;have NA:O 0 S:=T.keep _ _ _ yS λb _ o e=>k1 b o (k3 b o e)
 have IY:∀{H':Hp},(∀b∈fp,H' b=none)->∀b∈fp,jX (lG X N' scope s3 (upd f s2.heap.objs.size (.lst [])) fp (XE s3)) [] H' b:=λhn b hb=>
  ⟨hn b hb,aW (Z b hb),Y.ok.qN b hb,.inl hb,(Y.ok.exf b hb).2,λp hp=>by cases hp⟩
 have o6:∀b∈fp,(upd f s2.heap.objs.size (.lst [])) b=none:=λb hb=>(U b hb).1
 have loop:codeAny (model X.prog X.w) X.A (.compLoop (.ListComp elt [⟨tg,iter,ifs,0⟩] scope pos) 0 (.ref it) (.ref s2.heap.objs.size) (compEnvC scope (cellsFrom (s3.heap.objs.size+1) scope.names (kQ X.env.cells scope.names [])) s3.heap.objs.size X.env))
   (compPost (model X.prog X.w) X.A X.xe use V (.ref s2.heap.objs.size) s3.heap.objs.size) { s3 with heap:=S }:=by
  show V7 (By s3) (λn j=>∃i F H',Inv (lG X N' scope s3 (upd f s2.heap.objs.size (.lst [])) fp (XE s3)) [] F H' j/\O i j.heap/\(∀b∈fp,H' b=none)/\W i n F H') ?_ k0 ⟨0,_,_,Y,NA,o6,w0⟩;rintro n s4 ⟨i,L,K,I4,DI,y8,w4⟩;rcases turn i n L K w4 with⟨stop,qn⟩ | ⟨go,N,hN,step⟩
  .refine cW (T.done (lG X N' scope s3 (upd f s2.heap.objs.size (.lst [])) fp (XE s3)) rfl rfl rfl hc i [] s4 L K _ I4 (IY y8) DI stop) λr s5 a=>?_
   obtain⟨P,B⟩:=a;subst P;have k6:∀b∈fp,(b∈X.ex\/X.dA.heap.objs.size<=b)/\b≠X.env.locals/\(∀x c,X.env.cells.lookup x=some c->c≠b)/\∀p∈X.pn++k,p.1≠b:=λb hb=>⟨(f2 b hb).2.2.2.1,(f2 b hb).2.1,(f2 b hb).2.2.2.2.1,(f2 b hb).2.2.2.2.2⟩
   have I6:Inv X k q K s5:=I3.sU (ch:=fp) B.os B.base B.cN B.bare k6;obtain⟨m5,Io,_⟩:=id B.loc;show fin _ _ s5 K I6 (I3.k7 (aD _) B.free) ⟨m5,Io⟩ qn
  show cW (T.item (lG X N' scope s3 (upd f s2.heap.objs.size (.lst [])) fp (XE s3)) rfl rfl rfl hc i [] s4 L K _ I4 (IY y8) DI go) λr s5 a=>?_
  obtain⟨u,P,h5⟩:=a;subst P;show cW h5 λ_ s6 a=>?_
  obtain⟨x,H6,I6,r6,y6,Hm,R⟩:=a;have I6':=I6.pinned (IY R) (T.obj _ _ Hm);show cW (hg _ _ _ _ s6 L H6 x u _ I6' r6 (step x H6 y6)) λ_ s7 a=>?_
  obtain⟨M,H7,I7,q7⟩:=a;show cW (ht _ _ _ _ s7 M H7 _ I7 q7) λb s8 a=>?_
  obtain⟨H8,I8,q8⟩:=a;have again:∀{z:Shared}{E:St}{t:Hp},Inv (lG X N' scope s3 (upd f s2.heap.objs.size (.lst [])) fp (XE s3)) ([]++zE fp s6.heap) E t z->N E t->∃m,m<n/\∃i F H',Inv (lG X N' scope s3 (upd f s2.heap.objs.size (.lst [])) fp (XE s3)) [] F H' z/\O i z.heap/\(∀b∈fp,H' b=none)/\W i m F H':=λ{z E t} G n9=>by
   obtain⟨m',hm,w9⟩:=hN E t n9;show⟨m',hm,i+1,E,t,G.jd,T.keep _ _ _ Hm λb hb o e=>(G.pin (b,o) (aY _ (aY _ (Dj hb e)))).1,λb hb=>?_,w9⟩;obtain⟨o,e,d⟩:=T.obj _ _ Hm b hb;show(G.pin (b,o) (aY _ (aY _ (Dj hb e)))).2.1
  cases b with
  | false=>show again I8 q8
  | true=>
   rw[if_pos rfl];show cW (he _ _ _ ⟨k,q,I3,λb hb=>⟨U b hb,Z b hb⟩⟩ _ s8 M H8 _ I8 q8) λy z a=>?_
   obtain⟨v9,t,G,r9,xs,hD,hz,q9⟩:=a;show cW (Gg _ z M t (.ref s2.heap.objs.size) [v9] (.ref s2.heap.objs.size) [y] (λ_ H'=>N M H') G rfl (.cons r9 .nil) ⟨_,xs,v9,rfl,rfl,hD,hz,q9⟩) λ_ uz a=>?_
   obtain⟨_,H10,I10,_,YF⟩:=a;show again I10 YF
 show codeAny_compStart_list loop (T.self _ 0 _ _ _ NA loop)
theorem TB{XE:Shared->Value->Shared->Prop}(v:∀s3 x f,XE s3 x f->notedBy (model X.prog X.w) X.A (compEnvC scope (cellsFrom (s3.heap.objs.size+1) scope.names (kQ X.env.cells scope.names [])) s3.heap.objs.size X.env) (Ei X s3.heap.objs.size) x f)(r:X.calm=true)(cs:cK X N' m scope)(p:PI X tg iter wi)(hg:∀s3 a ex,PG (lG X N' scope s3 a ex (XE s3)) tg (g s3 a ex))(ht:∀s3 a ex,wb (lG X N' scope s3 a ex (XE s3)) ifs (tc s3 a ex))
  (he:∀s3 a ex,B4 X s3 a ex->PE (lG X N' scope s3 a ex (XE s3)) elt (te s3 a ex)) (l:∀x,foldedSetIterable iter X.env x=pure x:=by intro _;rfl):PE X (.ListComp elt [⟨tg,iter,ifs,0⟩] scope pos) (u9 wi m g tc te):=by
 intro z s σ H Q I h;rw[eval_ListComp];have t:∀y∈scope.names,y.2=.free->∃c,X.env.cells.lookup y.1=some c:=λy i hf=>I.ok.has y.1 (cs.free y i hf)
 show wpAny_comprehension_free (use:=none) rfl l (M3 t) cs.kind (λy i n=>by rw[cs.uniq y i,n]) (MN v r cs p hg ht he I h λD C f H' u d ⟨k,hn⟩ q=>?_);show⟨k,hn,λh' j=>⟨.ref D,H',u.turned (t':=f.toks) (λb o hb e=>(j.2 b hb).trans e) d.1 d.2.1 d.2.2.2.1 d.2.2.2.2.1 d.2.2.2.2.2,rfl,q⟩⟩
theorem Lj(d:X.calm=true)(cs:cK X N' m scope)(c:PI X tg iter wi)(hg:∀s3 a ex,PG (nj X N' scope s3 a ex) tg (g s3 a ex))(ht:∀s3 a ex,wb (nj X N' scope s3 a ex) ifs (tc s3 a ex))
  (he:∀s3 a ex,PE (nj X N' scope s3 a ex) elt (te s3 a ex)) (b:∀x,foldedSetIterable iter X.env x=pure x:=by intro _;rfl):PE X (.ListComp elt [⟨tg,iter,ifs,0⟩] scope pos) (u9 wi m g tc te):=TB (XE:=λ_ _ _=>False) (λ_ _ _ z=>z.elim) d cs c hg ht (λs3 a ex _=>he s3 a ex) b
theorem MB{XE:Shared->Value->Shared->Prop}(U:∀s3 x k,XE s3 x k->notedBy (model X.prog X.w) X.A (compEnvC scope (cellsFrom (s3.heap.objs.size+1) scope.names (kQ X.env.cells scope.names [])) s3.heap.objs.size X.env) (Ei X s3.heap.objs.size) x k){i:Nat}{x:Str}{d r:Pos}(M:X.N.Nodup)(v:X.N[i]?=some x)(E:Loc X.env.scope x)
  (L:X.calm=true) (cs:cK X N' m scope) (K:PI X tg iter wi) (hg:∀s3 f ex,PG (lG X N' scope s3 f ex (XE s3)) tg (g s3 f ex)) (ht:∀s3 f ex,wb (lG X N' scope s3 f ex (XE s3)) ifs (tc s3 f ex))
  (he:∀s3 f ex,B4 X s3 f ex->PE (lG X N' scope s3 f ex (XE s3)) elt (te s3 f ex)) (F:∀x,foldedSetIterable iter X.env x=pure x:=by intro _;rfl)
  (t:swapsWith (.ListComp elt [⟨tg,iter,ifs,0⟩] scope pos) (some (.Name x d)) r.line X.env=pure true:=by rfl)
  (n:X.fn x=true\/X.env.scope.names.lookup x=some .local:=by first | show .inl rfl | show .inr rfl | assumption) :
  PS X (.Assign [.Name x d] (.ListComp elt [⟨tg,iter,ifs,0⟩] scope pos) r) (zt (u9 wi m g tc te) (zD i)):=by
 intro S s σ H D I h;have O:∀y∈scope.names,y.2=.free->∃c,X.env.cells.lookup y.1=some c:=λy l n=>I.ok.has y.1 (cs.free y l n)
 rw[exec_Assign_Name_used _ _ _ _ t];show aa (wpAny_standAt (aa ?_));show wpAny _ _ (do let _ <-comprehension (.ListComp elt [⟨tg,iter,ifs,0⟩] scope pos) scope X.env _ (newList []) false (eval iter X.env) (some (assign (.Name x d) X.env))) _ _ s;show aa (bF (wpAny_comprehension_free (use:=some (assign (.Name x d) X.env)) (Q:=λ_ k=>SP X S D .next k) rfl F (M3 O) cs.kind (λy l J=>by rw[cs.uniq y l,J]) (MN U L cs K hg ht he I h λA C k H' T j ⟨B,hn⟩ q=>?_)) (λ_ k G=>ah (ah G)) λ_ _ e=>e);show wpAny _ _ (assign (.Name x d) X.env (.ref A)) _ _ _;show wpAny_assign_Name (MG T M v E (show RelV (.ref A) (.ref A) from rfl) (λs2 I2 P=>?_) n);obtain⟨a,R,ha⟩:=P;have p:C≠a:=by
  rcases ha with rfl | ha
  .exact j.2.1
  show λz=>j.2.2.2.2.1 x a ha z.symm
 show⟨B,hn.sameBut R p,λh' u=>⟨_,H',I2.turned (t':=s2.toks) (λb o hb e=>(u.2 b hb).trans e) j.1 j.2.1 j.2.2.2.1 j.2.2.2.2.1 j.2.2.2.2.2,q⟩⟩
theorem Li{i:Nat}{x:Str}{b c:Pos}(n:X.N.Nodup)(e:X.N[i]?=some x)(f:Loc X.env.scope x)
  (l:X.calm=true) (cs:cK X N' m scope) (j:PI X tg iter wi) (hg:∀s3 a ex,PG (nj X N' scope s3 a ex) tg (g s3 a ex)) (ht:∀s3 a ex,wb (nj X N' scope s3 a ex) ifs (tc s3 a ex))
  (he:∀s3 a ex,PE (nj X N' scope s3 a ex) elt (te s3 a ex)) (h:∀x,foldedSetIterable iter X.env x=pure x:=by intro _;rfl)
  (d:swapsWith (.ListComp elt [⟨tg,iter,ifs,0⟩] scope pos) (some (.Name x b)) c.line X.env=pure true:=by rfl)
  (k:X.fn x=true\/X.env.scope.names.lookup x=some .local:=by first | show .inl rfl | show .inr rfl | assumption) :
  PS X (.Assign [.Name x b] (.ListComp elt [⟨tg,iter,ifs,0⟩] scope pos) c) (zt (u9 wi m g tc te) (zD i)):=MB (XE:=λ_ _ _=>False) (λ_ _ _ z=>z.elim) n e f l cs j hg ht (λs3 a ex _=>he s3 a ex) h d k
end
theorem Fl:2<=sizeLine:=by decide
theorem Inv.ez{X:Cx}{d:List (Addr×Obj)}{g:St}{H:Hp}{s:Shared}{h':Heap}{t':Nat}{fp:List Addr}(I:Inv X d g H s)(k:∀b o,b∉fp->s.heap.get? b=some o->h'.get? b=some o)(f:∀b∈fp,jX X d H b) :
  Inv X d g H { s with heap:=h',toks:=t' }:=by
 have h:∀b u,H b=some u->b∉fp:=λb u e z=>by rw[(f b z).1] at e;cases e
 show I.step (g':=s.gens) (d':=s.drawn) (ch:=fp) (λb hb=>⟨(f b hb).2.2.2.1,(f b hb).2.1,(f b hb).2.2.2.2.1,(f b hb).2.2.2.2.2⟩) (λb o _ _ a e _=>k b o a e) (λb o _ _ a e _=>⟨o.slots,k b o a e⟩) (λ_ _ _ _ n=>n)
  (λb o a e=>⟨o,k b o a e⟩) (λ_ _ e=>e) (λ_ _ _ e=>e) (λb ps e=>⟨#[],by rw[e];simp⟩) (λm hm=>?_) (λb u e=>?_) I.bare
 .obtain⟨o,j,l,i,r⟩:=hm;show⟨o,j,l,k _ o (λz=>(f _ z).2.1 rfl) i,r⟩
 show(I.cN b u e).kW (λc v a q=>k c v ?_ q) (λ_ q=>q) λ_ _ q=>q
 rcases a with z | z
 .rw[z];show h b u e
 show h c _ z
theorem Inv.jM{X:Cx}{h:List (Addr×Obj)}{i:St}{H:Hp}{s:Shared}{h':Heap}{t':Nat}{fp:List Addr}{a:Addr}{o:HO}(I:Inv X h i H s)(k:∀b o,b∉fp->s.heap.get? b=some o->h'.get? b=some o)(f:∀b∈fp,jX X h H b)
  (l:s.heap.objs.size<=a) (new:df X.prog X.w (upd H a o) h' a o):Inv X h i (upd H a o) { s with heap:=h',toks:=t' }:=by
 have g:H a=none:=I.cN.fresh l;have j:∀b u,H b=some u->b∉fp:=λb u e z=>by rw[(f b z).1] at e;cases e
 show I.step (g':=s.gens) (d':=s.drawn) (ch:=fp) (λb hb=>⟨(f b hb).2.2.2.1,(f b hb).2.1,(f b hb).2.2.2.2.1,(f b hb).2.2.2.2.2⟩) (λb o _ _ d e _=>k b o d e) (λb o _ _ d e _=>⟨o.slots,k b o d e⟩)
  (λb o _ q n=>by rw[dy (aW (aS (aI q) l))];show n)
  (λb o d e=>⟨o,k b o d e⟩) (λb zs q=>by rw[dy (lC q g)];show q) (λb ob zs q=>by rw[dy (lC q g)];show q) (λb ps q=>⟨#[],by rw[dy (lC q g),q];simp⟩) (λm hm=>?_) (λb u q=>?_) I.bare
 .obtain⟨o,t,x,p,r⟩:=hm;show⟨o,t,x,k _ o (λz=>(f _ z).2.1 rfl) p,r⟩
 by_cases hb:b=a
 .subst hb;rw[gX] at q;cases q;show new
 rw[dy hb] at q;show(I.cN b u q).kW (λc v d z=>k c v ?_ z) (λc z=>by rw[dy (lC z g)];show z) λc zs z=>by rw[dy (lC z g)];show z
 rcases d with rfl | d
 .exact j _ _ q
 show j _ _ d
noncomputable def Eg(x:Str):It:=⟨λi _=>i<x.cps.size,λi H v H'=>H'=H/\∃c,x.cps[i]?=some c/\v=.str ⟨#[c]⟩,λi _=>i=x.cps.size⟩
theorem Tz{P:Program}{w:World}{K:J'}{p:Expr}{x:Str}{it:Addr}{n:String}{t:Tok}(hn:["enumerate","zip","dict_itemiterator","dict_reverseitemiterator","odict_iterator","itertools.zip_longest","itertools.pairwise"].contains n=false)
  (W:∀m:Around,m.handled=none->Walks P w m it [it] [it] x.cps.size (SignAt x) (λi h=>h.IsStrIter it n x t i))
  (B:∀(A:Around)(i:Nat)(s:Shared)(Q:Value->Shared->Prop)(E:Value->Shared->Prop),s.heap.IsStrIter it n x t i->Q (.ref it) s->wpAny (model P w) A (pyIter (.ref it)) Q E s):Turn P w K p (Eg x) [it] it (λi h=>h.IsStrIter it n x t i) where
 mem:=by simp
 obj:=λi h st b hb=>by
  have e:b=it:=by simpa using hb
  subst e;obtain⟨o,e,c,d⟩:=st;show⟨o,e,λv z=>by rw[d] at z;cases z⟩
 keep:=λi h h' st k=>by
  obtain⟨o,e,r⟩:=st;show⟨o,k it (by simp) o e,r⟩
 item:=by
  intro X f hw g a i l s σ H E I hf st hg;subst f hw g;show(W X.A (I.ok.hd a)).item i s _ _ hg st λv h' tk y j kk=>?_
  obtain⟨c,u,q,rfl⟩:=y;have I1:Inv X l σ H { s with heap:=h',toks:=tk }:=I.ez kk hf;obtain⟨o,e,C,d⟩:=id j;show⟨_,rfl,wD (s:={ s with heap:=h',toks:=tk }) e C d hn ⟨.str ⟨#[c]⟩,H,I1,⟨u,rfl⟩,⟨rfl,c,q,rfl⟩,j,λb hb=>(hf b hb).1⟩⟩
 done:=by
  intro X f hw g a i l s σ H E I hf st hg;subst f hw g;have e:i=x.cps.size:=hg;subst e;show(W X.A (I.ok.hd a)).done s _ _ st λh' tk kk=>⟨rfl,I.ez kk hf⟩
 self:=B
section
variable{X:Cx}{tg:Expr}
theorem Qz{g:List (Addr×Obj)}{c:St}{H:Hp}{s:Shared}{R:It->Hp->Prop}{E:Value->Shared->Prop}{x:Str}{t:Tok}(I:Inv X g c H s)(q:R (Eg x) H) :
  wpAny (model X.prog X.w) X.A (pyIter (.str x t)) (BX X g c tg R) E s:=by
 have fin:∀(o:Obj)(n:String),(hn:["enumerate","zip","dict_itemiterator","dict_reverseitemiterator","odict_iterator","itertools.zip_longest","itertools.pairwise"].contains n=false)->
   (W:∀a:Around,a.handled=none->Walks X.prog X.w a s.heap.objs.size [s.heap.objs.size] [s.heap.objs.size] x.cps.size (SignAt x) (λi h=>h.IsStrIter s.heap.objs.size n x t i))->
   (j:∀(A:Around)(i:Nat)(d:Shared)(Q:Value->Shared->Prop)(E:Value->Shared->Prop),d.heap.IsStrIter s.heap.objs.size n x t i->Q (.ref s.heap.objs.size) d->wpAny (model X.prog X.w) A (pyIter (.ref s.heap.objs.size)) Q E d)->
   (s.heap.push o).IsStrIter s.heap.objs.size n x t 0->BX X g c tg R (.ref s.heap.objs.size) { s with heap:=s.heap.push o }:=λo n hn W j st=>by
  show⟨s.heap.objs.size,[s.heap.objs.size],_,_,H,rfl,I.kept (t':=s.toks) λb o e=>aq _ e,Tz hn W j,st,λb hb=>?_,q⟩;have e:b=s.heap.objs.size:=by simpa using hb
  subst e;show I.k7 (aD _) (I.cN.fresh (aD _))
 cases ha:x.cps.all (·<128)
 .exact wpAny_pyIter_wide ha (fin _ _ (by decide) (λa f=>Walks.strWide f _ x t) (λ_ _ _ _ _ st q=>wpAny_pyIter_striter_wide st q) ⟨_,aF _ rfl,rfl,rfl⟩)
 show wpAny_pyIter_ascii ha (fin _ _ (by decide) (λa f=>Walks.strAscii f _ x t) (λ_ _ _ _ _ st q=>wpAny_pyIter_striter_ascii st q) ⟨_,aF _ rfl,rfl,rfl⟩)
def OZ(K:J')(tl:TE):TI:=λσ H R=>tl σ H λx H1=>(∃a,x=.ref a/\(∃xs,eP K H1 a xs)/\R (Js K a) H1)\/(∃a,x=.ref a/\(∃xs,fk K H1 a xs)/\R (Jr K a) H1)\/(∃z,x=.str z/\R (Eg z) H1)
theorem Qy{l:Expr}{tl:TE}(i:PE X l tl):PI X tg l (OZ X.K tl):=by
 intro k s σ H R I h;show cW (i k s σ H _ I h) λv s1 j=>?_
 obtain⟨x,H1,I1,c,g⟩:=j;rcases g with⟨a,e,⟨xs,d⟩,q⟩ | ⟨a,e,⟨xs,d⟩,q⟩ | ⟨z,e,q⟩
 .subst e;cases c;obtain⟨its,f,p,hz⟩:=I1.list d;show wpAny_pyIter_list p.isList ?_;show⟨s1.heap.objs.size,[s1.heap.objs.size],_,_,H1,rfl,I1.kept (t':=s1.toks) λb o e=>aq _ e,V0 a _,⟨_,aF _ rfl,rfl,rfl⟩,λb hb=>?_,q⟩;have e:b=s1.heap.objs.size:=by simpa using hb
  subst e;show I1.k7 (aD _) (I1.cN.fresh (aD _))
 .subst e;cases c;obtain⟨its,f,p,hz⟩:=I1.tuple d;show wpAny_pyIter_tuple (show s1.heap.IsTuple a its.toArray from p) ?_;show⟨s1.heap.objs.size,[s1.heap.objs.size],_,_,H1,rfl,I1.kept (t':=s1.toks) λb o e=>aq _ e,V5 a _,⟨_,aF _ rfl,rfl,rfl⟩,λb hb=>?_,q⟩;have e:b=s1.heap.objs.size:=by simpa using hb
  subst e;show I1.k7 (aD _) (I1.cN.fresh (aD _))
 subst e;obtain⟨t,rfl⟩:=c;show Qz I1 q
end
noncomputable def Jt(K:J')(a:Addr):It:=
 ⟨λi H=>∃xs x,eP K H a xs/\xs[i]?=some x,λi H v H'=>∃t,v=.ref t/\H t=none/\∀xs,eP K H a xs->∃x,xs[i]?=some x/\H'=upd H t (.tup [.int i,x]),λi H=>∃xs,eP K H a xs/\xs.length<=i⟩
noncomputable def Jq(K:J')(a b:Addr):It:=
 ⟨λi H=>∃xs ys x y,eP K H a xs/\eP K H b ys/\xs[i]?=some x/\ys[i]?=some y,λi H v H'=>∃t,v=.ref t/\H t=none/\∀xs ys,eP K H a xs->eP K H b ys->∃x y,xs[i]?=some x/\ys[i]?=some y/\H'=upd H t (.tup [x,y]),
  λi H=>∃xs ys,eP K H a xs/\eP K H b ys/\(xs.length<=i\/ys.length<=i)⟩
theorem Fj{H:Hp}{t:Addr}{o:HO}{fp:List Addr}(h:∀b∈fp,H b=none)(ht:∀b∈fp,b≠t):∀b∈fp,upd H t o b=none:=λb hb=>by rw[dy (ht b hb)];show h b hb
theorem M1{prog:Program}{w:World}{A:Around}{E:Value->Shared->Prop}{s:Shared}{a:List Expr}{b}{pos:Pos}{e it T:Addr}{i:Int}{old:Value}{Q:Unit->Shared->Prop}(he:IsEnumOut s.heap e it i old T)
  (d:∀h',IsEnum h' e it i old->Heap.SameBut e s.heap h'->Q () { s with heap:=h' }) :
  wpAny (model prog w) A (letOwnedTupleGo (.Tuple a b pos) (.ref e) (.ref T)) Q E s:=by
 unfold letOwnedTupleGo;show aa (wpAny_load he ?_);show wpAny _ _ (if (["enumerate","zip","dict_itemiterator","dict_reverseitemiterator","odict_iterator","itertools.zip_longest","itertools.pairwise"].contains "enumerate" &&
   (#[rawInt T,.bool false,.ref it,rawInt i,.none,old]:Array Value)[0]?==some (rawInt T))=true then _ else _) Q E s
 rw[if_pos (by simp)];show aa (wpAny_rule ?_);show wpAny _ _ (setField (.ref e) 0 .none) Q E s;show wpAny_setField_rec he (by simp) λh' f c=>d h' f c
theorem U1{P:Program}{w:World}{K:J'}{j:List Expr}{G}{pos:Pos}(a e it:Addr)(C:e≠it):Turn P w K (.Tuple j G pos) (Jt K a) [e,it] e (λi h=>(∃old,IsEnum h e it i old)/\h.IsListIter it a i) where
 mem:=by simp
 obj:=λi h st b hb=>by
  obtain⟨⟨old,f⟩,o,g,c,d⟩:=st;rcases az.mp hb with rfl | hb
  .exact⟨_,f,λv z=>by have F:Data.fields _=Data.cell v:=z;cases F⟩
  have e:b=it:=by simpa using hb
  subst e;show⟨o,g,λv z=>by rw[d] at z;cases z⟩
 keep:=λi h h' st k=>by
  obtain⟨⟨old,f⟩,g⟩:=st;show⟨⟨old,k e (by simp) _ f⟩,g.at λo q=>k it (by simp) o q⟩
 item:=by
  intro X t hw y B i U s σ H E I hf st hg;subst t hw y;obtain⟨xs,x,l,r⟩:=hg;obtain⟨its,n,p,hz⟩:=I.list l;obtain⟨u,M,J⟩:=n.get r;obtain⟨⟨old,f⟩,g⟩:=st;show wpAny_pyNext_enum_item f g p.isList (x:=u) (by simpa using M) C λh' T S e3 Y kk=>?_
  show⟨_,rfl,M1 T λA R m=>?_⟩;have D:s.heap.objs.size≠e:=Nat.ne_of_gt (aI f);have V:s.heap.objs.size≠it:=by obtain⟨o,q,_⟩:=g;show Nat.ne_of_gt (aI q)
  have N:A.get? s.heap.objs.size=some { cls:=.type "tuple",data:=.seq #[.int i s.toks,u] }:=m.extBut _ _ D e3;have O:H s.heap.objs.size=none:=I.cN.fresh (aD _);have new:df X.prog X.w (upd H s.heap.objs.size (.tup [.int i,x])) A s.heap.objs.size (.tup [.int i,x]):=⟨Fl,[.int i s.toks,u],.cons ⟨_,rfl⟩ (.cons J .nil),⟨_,N,rfl,_,rfl⟩⟩
  show⟨.ref s.heap.objs.size,upd H s.heap.objs.size (.tup [.int i,x]),I.jM (fp:=[e,it]) (λb o hb q=>m.extBut b o (λz=>hb (by simp[z])) (kk b o (λz=>hb (by simp[z])) (λz=>hb (by simp[z])) q)) hf (aD _) new,rfl,
   ⟨_,rfl,O,λys L=>⟨x,by rw[I.iu L l];show r,rfl⟩⟩,⟨⟨u,R⟩,S.extBut m.extBut (Ne.symm C)⟩,Fj (λb hb=>(hf b hb).1) λb hb=>?_⟩
  rcases az.mp hb with rfl | hb
  .exact D.symm
  have z:b=it:=by simpa using hb
  rw[z];show V.symm
 done:=by
  intro X t hw y B i U s σ H E I hf st hg;subst t hw y;obtain⟨xs,l,r⟩:=hg;obtain⟨its,n,p,hz⟩:=I.list l;obtain⟨⟨old,f⟩,g⟩:=st;have W:=n.length;show wpAny_pyNext_enum_end (I.ok.hd B) f g p.isList (by simp;ext) λh' Q=>⟨rfl,I.ez (fp:=[e,it]) (t':=s.toks) (λb o hb q=>Q b o (λz=>hb (by simp[z])) q) hf⟩
 self:=λ_ _ _ _ _ st h=>by
  obtain⟨⟨old,f⟩,_⟩:=st;show wpAny_pyIter_enum f h
section
variable{X:Cx}{elts:List Expr}{x1:Nat}{oN:Pos}
def P4(K:J')(c:TA):TI:=λσ H R=>c σ H λb H1=>∃a xs,b=[.ref a]/\kP K H1 a xs/\R (Jt K a) H1
theorem Sz{a:Expr}{c:TA}{p pos:Pos}(hg:Gl X "enumerate")(hm:X.mg "enumerate"=none)(ha:PA X [a] c)(k:starEach [a] X.env=[(false,eval a X.env)]:=by rfl):PI X (.Tuple elts x1 oN) (.Call (.Name "enumerate" p) [a] [] pos) (P4 X.K c):=by
 intro w s σ H R I h;show Call_ (rR I hg hm boot_enumerate (bz (cW (ha pos w s σ H _ I h) λus s1 v=>?_) k rfl));obtain⟨x,H1,I1,i,j⟩:=v;obtain⟨l,xs,e,m,q⟩:=j;subst e;obtain⟨u,rfl,g⟩:=mV i;cases g;obtain⟨z,its,n,r,e⟩:=I1.fZ m;show call_enumerate_1 e λh' f t e3 kk=>?_
 show wpAny_pyIter_enum f ?_;have o:s1.heap.objs.size+1≠s1.heap.objs.size:=by ext
 show⟨s1.heap.objs.size+1,[s1.heap.objs.size+1,s1.heap.objs.size],_,_,H1,rfl,I1.kept (t':=s1.toks) kk,U1 l _ _ o,⟨⟨_,f⟩,t⟩,λb hb=>?_,q⟩;have d:s1.heap.objs.size<=b:=by
  rcases az.mp hb with rfl | hb
  .exact Nat.le_succ _
  have e:b=s1.heap.objs.size:=by simpa using hb
  show Nat.le_of_eq e.symm
 show I1.k7 d (I1.cN.fresh d)
theorem Tx{P:Program}{w:World}{K:J'}(a b z TI TO i1 i2:Addr)(D1:TI≠z/\TO≠z/\i1≠z/\i2≠z/\TI≠TO/\TI≠i1/\TI≠i2/\TO≠i1/\TO≠i2/\i1≠i2):Turn P w K (.Tuple elts x1 oN) (Jq K a b) [z,TI,TO,i1,i2] z
  (λi h=>IsZip h z TI TO .none/\IsPair h TI (.ref i1) (.ref i2)/\(∃a b,IsPair h TO a b)/\h.IsListIter i1 a i/\h.IsListIter i2 b i) where
 mem:=by simp
 obj:=λi h st c f=>by
  obtain⟨m,t,⟨u,v,r⟩,⟨o1,g1,_,C⟩,⟨o2,g2,_,J⟩⟩:=st;simp only[az,bV,or_false] at f;rcases f with rfl | rfl | rfl | rfl | rfl
  .exact⟨_,m,λv z=>by have L:Data.fields _=Data.cell v:=z;cases L⟩
  .exact⟨_,t,λv z=>by have L:Data.seq _ _=Data.cell v:=z;cases L⟩
  .exact⟨_,r,λv z=>by have L:Data.seq _ _=Data.cell v:=z;cases L⟩
  .exact⟨_,g1,λv z=>by rw[C] at z;cases z⟩
  show⟨_,g2,λv z=>by rw[J] at z;cases z⟩
 keep:=λi h h' st k=>by
  obtain⟨m,t,⟨u,v,r⟩,B,A⟩:=st;show⟨k z (by simp) _ m,k TI (by simp) _ t,⟨u,v,k TO (by simp) _ r⟩,B.at λo q=>k i1 (by simp) o q,A.at λo q=>k i2 (by simp) o q⟩
 item:=by
  intro X hP hw hK f i K' s σ H E I hf st hg;subst hP hw hK;obtain⟨xs,ys,x,y,Q,O,G,hy⟩:=hg;obtain⟨its,W,p,hz⟩:=I.list Q;obtain⟨gf,Y,M,A0⟩:=I.list O;obtain⟨u,hu,ru⟩:=W.get G;obtain⟨v,hv,Yx⟩:=Y.get hy;obtain⟨m,t,⟨c,d,r⟩,B,A⟩:=st;obtain⟨C,J,V,U,T,S,R,d8,d9,Ji⟩:=D1;have N:∀{l:Addr}{its:List Value},PlainL s.heap l its.toArray->l≠z/\l≠TO/\l≠i1/\l≠i2:=λ{l its} Z=>by
   obtain⟨o,n,e,j,_,dd⟩:=Z;obtain⟨o1,g1,c4,_⟩:=B;obtain⟨o2,g2,c5,_⟩:=A;show⟨?_,?_,?_,?_⟩
   .rintro rfl;rw[m] at e;cases e;simp at j
   .rintro rfl;rw[r] at e;cases e;simp at j
   .rintro rfl;rw[g1] at e;cases e;rw[c4] at j;simp at j
   rintro rfl;rw[g2] at e;cases e;rw[c5] at j;simp at j
  obtain⟨e1,e2,e3,e4⟩:=N p;obtain⟨f1,f2,f3,f4⟩:=N M;have D:ZipApart z TI TO i1 i2 a b:=⟨C,J,V,U,T,S,R,d8,d9,Ji,e1,e2,e3,e4,f1,f2,f3,f4⟩
  show wpAny_pyNext_zip_item D m t r B A p.isList M.isList (x:=u) (y:=v) (by simpa using hu) (by simpa using hv) λh' a1 a2 a3 a4 a5 a6 kk=>?_
  show⟨_,rfl,wpAny_letOwnedTupleGo_zip a1 λtW b1 F=>?_⟩;have hTz:s.heap.objs.size≠z:=Nat.ne_of_gt (aI m);have ef:H s.heap.objs.size=none:=I.cN.fresh (aD _);have hT:tW.get? s.heap.objs.size=some { cls:=.type "tuple",data:=.seq #[u,v] }:=F.extBut _ _ hTz a5;have new:df X.prog X.w (upd H s.heap.objs.size (.tup [x,y])) tW s.heap.objs.size (.tup [x,y]):=⟨Fl,[u,v],.cons ru (.cons Yx .nil),⟨_,hT,rfl,_,rfl⟩⟩
  have lt:∀{c o},s.heap.get? c=some o->c≠s.heap.objs.size:=λe=>aW (aI e)
  show⟨.ref s.heap.objs.size,upd H s.heap.objs.size (.tup [x,y]),I.jM (fp:=[z,TI,TO,i1,i2]) (t':=s.toks) (λc o f q=>F.extBut c o (λe=>f (by simp[e])) (kk c o (λe=>f (by simp[e])) (λe=>f (by simp[e])) (λe=>f (by simp[e])) (λe=>f (by simp[e])) q)) hf (aD _) new,rfl,
   ⟨_,rfl,ef,λzs ws h6 h7=>⟨x,y,by rw[I.iu h6 Q];show G,by rw[I.iu h7 O];show hy,rfl⟩⟩,
   ⟨b1,F.extBut _ _ C (kk _ _ C T S R t),⟨_,_,F.extBut _ _ J a2⟩,a3.extBut F.extBut V,a4.extBut F.extBut U⟩,Fj (λb hb=>(hf b hb).1) λc f=>?_⟩
  simp only[az,bV,or_false] at f;rcases f with rfl | rfl | rfl | rfl | rfl
  .exact lt m
  .exact lt t
  .exact lt r
  .obtain⟨_,g,_⟩:=B;show lt g
  obtain⟨_,g,_⟩:=A;show lt g
 done:=by
  intro X hP hw hK f i K' s σ H E I hf st hg;subst hP hw hK;obtain⟨xs,ys,Q,O,G⟩:=hg;obtain⟨its,W,p,hz⟩:=I.list Q;obtain⟨gf,Y,M,A0⟩:=I.list O;obtain⟨m,t,⟨c,d,r⟩,B,A⟩:=st;obtain⟨C,J,V,U,T,S,R,d8,d9,Ji⟩:=D1;have N:∀{l:Addr}{its:List Value},PlainL s.heap l its.toArray->l≠z/\l≠TO/\l≠i1/\l≠i2:=λ{l its} Z=>by
   obtain⟨o,n,e,j,_,dd⟩:=Z;obtain⟨o1,g1,c4,_⟩:=B;obtain⟨o2,g2,c5,_⟩:=A;show⟨?_,?_,?_,?_⟩
   .rintro rfl;rw[m] at e;cases e;simp at j
   .rintro rfl;rw[r] at e;cases e;simp at j
   .rintro rfl;rw[g1] at e;cases e;rw[c4] at j;simp at j
   rintro rfl;rw[g2] at e;cases e;rw[c5] at j;simp at j
  obtain⟨e1,e2,e3,e4⟩:=N p;obtain⟨f1,f2,f3,f4⟩:=N M;have D:ZipApart z TI TO i1 i2 a b:=⟨C,J,V,U,T,S,R,d8,d9,Ji,e1,e2,e3,e4,f1,f2,f3,f4⟩
  have l1:=W.length;have l2:=Y.length;have IE:its.toArray[i]?=none\/gf.toArray[i]?=none:=by
   rcases G with G | G
   .exact .inl (by simp;ext)
   show .inr (by simp;ext)
  show wpAny_pyNext_zip_end (I.ok.hd f) D m t r B A p.isList M.isList IE λh' kk=>⟨rfl,I.ez (fp:=[z,TI,TO,i1,i2]) (t':=s.toks) (λc o f q=>kk c o (λe=>f (by simp[e])) (λe=>f (by simp[e])) (λe=>f (by simp[e])) (λe=>f (by simp[e])) q) hf⟩
 self:=λ_ _ _ _ _ st h=>wpAny_pyIter_zip st.1 h
theorem U0(n:Nat):(n+2:Nat)≠n+4/\(n+3:Nat)≠n+4/\n≠n+4/\(n+1:Nat)≠n+4/\(n+2:Nat)≠n+3/\(n+2:Nat)≠n/\(n+2:Nat)≠n+1/\(n+3:Nat)≠n/\(n+3:Nat)≠n+1/\n≠n+1:=by ext
def OY(K:J')(d:TA):TI:=λσ H R=>d σ H λc H1=>∃a b,c=[.ref a,.ref b]/\(∃xs,eP K H1 a xs)/\(∃ys,eP K H1 b ys)/\R (Jq K a b) H1
theorem Qw{a b:Expr}{c:TA}{p pos:Pos}(hg:Gl X "zip")(hm:X.mg "zip"=none)(ha:PA X [a,b] c)(w:starEach [a,b] X.env=[(false,eval a X.env),(false,eval b X.env)]:=by rfl)(d:starEach [b] X.env=[(false,eval b X.env)]:=by rfl) :
  PI X (.Tuple elts x1 oN) (.Call (.Name "zip" p) [a,b] [] pos) (OY X.K c):=by
 intro B s σ H R I h;show Call_ (rR I hg hm boot_zip (bz (cW (ha pos B s σ H _ I h) λus s1 ⟨C,H1,I1,m,n⟩=>?_) (by rw[w,d]) (by rw[d];rfl)));obtain⟨l,t,e,⟨xs,x⟩,⟨ys,i⟩,q⟩:=n;subst e;obtain⟨u,v,rfl,k,j⟩:=yk m;cases k;cases j;obtain⟨its,_,r,_⟩:=I1.list x;obtain⟨its',_,o,_⟩:=I1.list i;show call_zip_2 r.isList o.isList λh' g A e3 z y D kk=>?_
 show wpAny_pyIter_zip g ?_;show⟨s1.heap.objs.size+4,[s1.heap.objs.size+4,s1.heap.objs.size+2,s1.heap.objs.size+3,s1.heap.objs.size,s1.heap.objs.size+1],_,_,H1,rfl,I1.kept (t':=s1.toks) kk,Tx l t _ _ _ _ _ (U0 _),
  ⟨g,A,⟨_,_,e3⟩,z,y⟩,λb hb=>?_,q⟩
 have f:s1.heap.objs.size<=b:=by
  simp only[az,bV,or_false] at hb;rcases hb with rfl | rfl | rfl | rfl | rfl<;>first | show Nat.le_add_right _ _ | show aD _
 show I1.k7 f (I1.cN.fresh f)
end
inductive D where
 | non | bl (b:Bool) | int (i:Int) | str (x:Str) | tup (ds:List D) | lst (ds:List D) | obj (cn:Str) (fs:List (Str×D)) | dic (kvs:List (Key×D)) | dit (kvs:List (List Key×D)) | exc (cn:Str) (fs:List (Str×D))
structure ClsAt(K:J')(cn:Str)(C:Addr):Prop where
 at_:PySem.W.nsIn K mainGlobals cn=some (some (.ref C))
 cls:Cls K C
def cZ(H:Hp):List (List Key×V)->List Addr->Prop
 | [],[]=>True
 | p::ps,b::bs=>H b=some (.tup (p.1.map kV))/\cZ H ps bs
 | _,_=>False
theorem cZ.mono{H H':Hp}(e:cw H H'):∀{ps:List (List Key×V)}{bs:List Addr},cZ H ps bs->cZ H' ps bs
 | [],[],h=>h
 | p::ps,b::bs,h=>⟨e _ _ h.1,cZ.mono e h.2⟩
 | [],_::_,h=>h.elim
 | _::_,[],h=>h.elim
def uV(H:Hp):Option Addr->List (Str×V)->Prop
 | none,a=>a=[]
 | some d,a=>∃b,H d=some (.ext b)/\∀h:Heap,b h->∃c,h.Ns1 d c/\∀f v,a.lookup f=some v->∃u,c f=some u/\RelV v u
theorem uV.mono{H H':Hp}(e:cw H H'){dd:Option Addr}{c:List (Str×V)}(h:uV H dd c):uV H' dd c:=by
 cases dd with
 | none=>show h
 | some f=>show let⟨d,a,b⟩:=h;⟨d,e _ _ a,b⟩
mutual
def Rep(K:J')(H:Hp):V->D->Prop
 | v,.non=>v=.non
 | v,.bl b=>v=.bl b
 | v,.int i=>v=.int i
 | v,.str x=>v=.str x
 | v,.tup ds=>∃a xs,v=.ref a/\H a=some (.tup xs)/\bX K H xs ds
 | v,.lst ds=>∃a xs,v=.ref a/\kP K H a xs/\bX K H xs ds
 | v,.obj d fs=>∃a C j c,v=.ref a/\H a=some (.ins C j c)/\ClsAt K d C/\(∀p∈fs,Kv K C p.1)/\gM K H c fs
 | v,.dic kvs=>∃a ks g,v=.ref a/\H a=some (.dK ks g)/\fU K H ks kvs
 | v,.dit kvs=>∃a ks bs,v=.ref a/\H a=some (.dT ks bs)/\cZ H ks bs.1/\cy K H ks kvs
 | v,.exc d fs=>∃a e C dd c,v=.ref a/\H a=some (.ext e)/\PySem.W.nsIn K mainGlobals d=some (some (.ref C))/\(∀h:Heap,e h->∃o,h.get? a=some o/\o.cls=.ref C/\(fs=[]\/o.dict=dd/\∃f,o.data=.fields f))/\(fs=[]\/uV H dd c)/\gM K H c fs
def bX(K:J')(H:Hp):List V->List D->Prop
 | [],[]=>True
 | v::a,d::ds=>Rep K H v d/\bX K H a ds
 | _,_=>False
def gM(K:J')(H:Hp):List (Str×V)->List (Str×D)->Prop
 | [],[]=>True
 | v::a,d::ds=>(v.1=d.1/\Rep K H v.2 d.2)/\gM K H a ds
 | _,_=>False
def fU(K:J')(H:Hp):List (Key×V)->List (Key×D)->Prop
 | [],[]=>True
 | v::a,d::ds=>(v.1=d.1/\Rep K H v.2 d.2)/\fU K H a ds
 | _,_=>False
def cy(K:J')(H:Hp):List (List Key×V)->List (List Key×D)->Prop
 | [],[]=>True
 | v::a,d::ds=>(v.1=d.1/\Rep K H v.2 d.2)/\cy K H a ds
 | _,_=>False
end
theorem cw.nu{K:J'}{H H':Hp}{a:Addr}{xs:List V}(e:cw H H')(h:H a=some (.tup xs)):fk K H' a xs:=fk.of (e _ _ h)
theorem cw.ny{K:J'}{H H':Hp}{a:Addr}{xs:List V}(e:cw H H')(h:fk K H a xs):fk K H' a xs:=by
 rcases h with(h | ⟨o,h⟩) | h
 .exact .inl (.inl (e _ _ h))
 .exact .inl (.inr ⟨o,e _ _ h⟩)
 show .inr h
mutual
theorem Rep.mono{K:J'}{H H':Hp}(e:cw H H'):∀(v:V)(d:D),Rep K H v d->Rep K H' v d
 | v,.non,h=>by simpa only[Rep] using h
 | v,.bl b,h=>by simpa only[Rep] using h
 | v,.int i,h=>by simpa only[Rep] using h
 | v,.str x,h=>by simpa only[Rep] using h
 | v,.tup ds,h=>by
  simp only[Rep] at h ⊢;obtain⟨a,xs,g,f,c⟩:=h;show⟨a,xs,g,e _ _ f,bX.mono e xs ds c⟩
 | v,.lst ds,h=>by
  simp only[Rep] at h ⊢;obtain⟨a,xs,g,f,c⟩:=h;show⟨a,xs,g,e.fZ f,bX.mono e xs ds c⟩
 | v,.obj q fs,h=>by
  simp only[Rep] at h ⊢;obtain⟨a,C,p,k,g,f,c,j,l⟩:=h;show⟨a,C,p,k,g,e _ _ f,c,j,gM.mono e k fs l⟩
 | v,.dic kvs,h=>by
  simp only[Rep] at h ⊢;obtain⟨a,ks,o,g,f,c⟩:=h;show⟨a,ks,o,g,e _ _ f,fU.mono e ks kvs c⟩
 | v,.dit kvs,h=>by
  simp only[Rep] at h ⊢;obtain⟨a,ks,bs,g,f,c,j⟩:=h;show⟨a,ks,bs,g,e _ _ f,c.mono e,cy.mono e ks kvs j⟩
 | v,.exc q fs,h=>by
  simp only[Rep] at h ⊢;obtain⟨a,m,C,dd,k,g,f,c,j,l,n⟩:=h;show⟨a,m,C,dd,k,g,e _ _ f,c,j,l.imp id λz=>z.mono e,gM.mono e k fs n⟩
theorem bX.mono{K:J'}{H H':Hp}(e:cw H H'):∀(a:List V)(ds:List D),bX K H a ds->bX K H' a ds
 | [],[],h=>by simp only[bX]
 | v::a,d::ds,h=>by
  simp only[bX] at h ⊢;show⟨Rep.mono e v d h.1,bX.mono e a ds h.2⟩
 | [],_::_,h=>by simp only[bX] at h
 | _::_,[],h=>by simp only[bX] at h
theorem gM.mono{K:J'}{H H':Hp}(e:cw H H'):∀(a:List (Str×V))(ds:List (Str×D)),gM K H a ds->gM K H' a ds
 | [],[],h=>by simp only[gM]
 | (x,v)::a,(y,d)::ds,h=>by
  simp only[gM] at h ⊢;show⟨⟨h.1.1,Rep.mono e v d h.1.2⟩,gM.mono e a ds h.2⟩
 | [],_::_,h=>by simp only[gM] at h
 | _::_,[],h=>by simp only[gM] at h
theorem fU.mono{K:J'}{H H':Hp}(e:cw H H'):∀(a:List (Key×V))(ds:List (Key×D)),fU K H a ds->fU K H' a ds
 | [],[],h=>by simp only[fU]
 | (x,v)::a,(y,d)::ds,h=>by
  simp only[fU] at h ⊢;show⟨⟨h.1.1,Rep.mono e v d h.1.2⟩,fU.mono e a ds h.2⟩
 | [],_::_,h=>by simp only[fU] at h
 | _::_,[],h=>by simp only[fU] at h
theorem cy.mono{K:J'}{H H':Hp}(e:cw H H'):∀(a:List (List Key×V))(ds:List (List Key×D)),cy K H a ds->cy K H' a ds
 | [],[],h=>by simp only[cy]
 | (x,v)::a,(y,d)::ds,h=>by
  simp only[cy] at h ⊢;show⟨⟨h.1.1,Rep.mono e v d h.1.2⟩,cy.mono e a ds h.2⟩
 | [],_::_,h=>by simp only[cy] at h
 | _::_,[],h=>by simp only[cy] at h
end
section
variable{K:J'}{H H':Hp}
theorem bX.length:∀{a:List V}{ds:List D},bX K H a ds->a.length=ds.length
 | [],[],_=>rfl
 | v::a,d::ds,h=>by
  simp only[bX] at h;simp only[av,bX.length h.2]
 | [],_::_,h=>by simp only[bX] at h
 | _::_,[],h=>by simp only[bX] at h
theorem bX.get:∀{a:List V}{ds:List D}{i:Nat}{d:D},bX K H a ds->ds[i]?=some d->∃v,a[i]?=some v/\Rep K H v d
 | [],[],i,d,_,e=>by simp at e
 | v::a,d'::ds,0,d,h,e=>by
  simp only[bX] at h;simp only[bp,aN] at e;subst e;show⟨v,rfl,h.1⟩
 | v::a,d'::ds,i+1,d,h,e=>by
  simp only[bX] at h;simp only[bN] at e ⊢;show bX.get h.2 e
 | [],_::_,_,_,h,_=>by simp only[bX] at h
 | _::_,[],_,_,h,_=>by simp only[bX] at h
theorem bX.BK:∀{a:List V}{ds:List D}{i:Nat}{v:V},bX K H a ds->a[i]?=some v->∃d,ds[i]?=some d/\Rep K H v d
 | [],[],i,d,_,e=>by simp at e
 | b::a,d::ds,0,v,h,e=>by
  simp only[bX] at h;simp only[bp,aN] at e;subst e;show⟨d,rfl,h.1⟩
 | b::a,d::ds,i+1,v,h,e=>by
  simp only[bX] at h;simp only[bN] at e ⊢;show bX.BK h.2 e
 | [],_::_,_,_,h,_=>by simp only[bX] at h
 | _::_,[],_,_,h,_=>by simp only[bX] at h
theorem bX.nil:bX K H [] []:=by simp only[bX]
theorem bX.cons{v:V}{a:List V}{d:D}{ds:List D}(h:Rep K H v d)(b:bX K H a ds):bX K H (v::a) (d::ds):=by simp only[bX];show⟨h,b⟩
theorem bX.append:∀{a:List V}{ds:List D}{us:List V}{b:List D},bX K H a ds->bX K H us b->bX K H (a++us) (ds++b)
 | [],[],_,_,_,h=>h
 | v::a,d::ds,_,_,h,h'=>by
  simp only[bX] at h;show bX.cons h.1 (bX.append h.2 h')
 | [],_::_,_,_,h,_=>by simp only[bX] at h
 | _::_,[],_,_,h,_=>by simp only[bX] at h
theorem bX.take:∀{a:List V}{ds:List D}(n:Nat),bX K H a ds->bX K H (a.take n) (ds.take n)
 | _,_,0,_=>bX.nil
 | [],[],_+1,_=>bX.nil
 | v::a,d::ds,n+1,h=>by
  simp only[bX] at h;show bX.cons h.1 (bX.take n h.2)
 | [],_::_,_+1,h=>by simp only[bX] at h
 | _::_,[],_+1,h=>by simp only[bX] at h
theorem bX.drop:∀{a:List V}{ds:List D}(n:Nat),bX K H a ds->bX K H (a.drop n) (ds.drop n)
 | _,_,0,h=>h
 | [],[],_+1,_=>bX.nil
 | v::a,d::ds,n+1,h=>by
  simp only[bX] at h;show bX.drop n h.2
 | [],_::_,_+1,h=>by simp only[bX] at h
 | _::_,[],_+1,h=>by simp only[bX] at h
theorem bX.set:∀{a:List V}{ds:List D}{v:V}{d:D}(n:Nat),bX K H a ds->Rep K H v d->bX K H (a.set n v) (ds.set n d)
 | [],[],_,_,_,_,_=>bX.nil
 | b::a,d'::ds,v,d,0,h,q=>by
  simp only[bX] at h;show bX.cons q h.2
 | b::a,d'::ds,v,d,n+1,h,q=>by
  simp only[bX] at h;show bX.cons h.1 (bX.set n h.2 q)
 | [],_::_,_,_,_,h,_=>by simp only[bX] at h
 | _::_,[],_,_,_,h,_=>by simp only[bX] at h
end
structure Ext(G H G' H':Hp):Prop where
 g:cw G G'
 h:cw H H'
 s:cw G' H'
 n:∀p,G p=none->H p≠none->G' p=none
theorem Ext.refl{G H:Hp}(s:cw G H):Ext G H G H:=⟨cw.refl _,cw.refl _,s,λ_ h _=>h⟩
theorem Ext.trans{G H i e f d:Hp}(a:Ext G H i e)(b:Ext i e f d):Ext G H f d:=
 ⟨a.g.trans b.g,a.h.trans b.h,b.s,λp j c=>b.n p (a.n p j c) λz=>c (a.h.free z)⟩
theorem vj{H:Hp}{p:Addr}{o:HO}(h:H p=none):cw H (upd H p o):=λb u e=>by rw[dy (lC e h)];show e
theorem UZ{G H:Hp}{p:Addr}{o:HO}(s:cw G H):cw (upd G p o) (upd H p o):=λb u e=>by
 by_cases hb:b=p
 .subst hb;rw[gX] at e ⊢;show e
 rw[dy hb] at e ⊢;show s b u e
theorem Ext.new{G H:Hp}{p:Addr}{o:HO}(s:cw G H)(h:H p=none):Ext G H (upd G p o) (upd H p o):=
 ⟨vj (s.free h),vj h,UZ s,λq b a=>by rw[dy (λz=>a (by rw[z];show h))];show b⟩
theorem Ext.own{G H:Hp}{p:Addr}{o:HO}(s:cw G H)(h:H p=none):Ext G H G (upd H p o):=
 ⟨cw.refl _,vj h,s.trans (vj h),λq a _=>a⟩
inductive OV where
 | ll (dF:List (List D))
 | dc (kvs:List (Key×D))
 | dl (kvs:List (Key×List D))
 | tl (d:D) (ds:List D)
 | ld (xN:List (List (Key×D)))
 | dt (kvs:List (List Key×List D))
 | tp (ds:List D)
 | ob (cn:Str) (fs:List (Str×List D))
 | dq (kvs:List (List Key×D))
noncomputable def OV.val:OV->D
 | .ll b=>.lst (b.map .lst)
 | .dc kvs=>.dic kvs
 | .dl kvs=>.dic (kvs.map λp=>(p.1,.lst p.2))
 | .tl d ds=>.tup [d,.lst ds]
 | .ld a=>.lst (a.map .dic)
 | .dt kvs=>.dit (kvs.map λp=>(p.1,.lst p.2))
 | .tp ds=>.tup ds
 | .ob c fs=>.obj c (fs.map λp=>(p.1,.lst p.2))
 | .dq kvs=>.dit kvs
inductive R where
 | fz (d:D)
 | ow (ds:List D)
 | ov (o:OV)
noncomputable def R.val:R->D
 | .fz d=>d
 | .ow ds=>.lst ds
 | .ov o=>o.val
inductive Sl where
 | un
 | fz (d:D)
 | ow (ds:List D)
 | ov (o:OV)
noncomputable def R.sl:R->Sl
 | .fz d=>.fz d
 | .ow ds=>.ow ds
 | .ov o=>.ov o
def cC(K:J')(G H:Hp):List Addr->List (List D)->Prop
 | [],[]=>True
 | q::a,ds::b=>(∃xs,H q=some (.lst xs)/\bX K G xs ds)/\cC K G H a b
 | _,_=>False
theorem cC.mono{K:J'}{G H c H':Hp}(g:cw G c):∀{a:List Addr}{b:List (List D)},(∀q∈a,∀xs,H q=some (.lst xs)->H' q=some (.lst xs))->cC K G H a b->cC K c H' a b
 | [],[],_,_=>by simp only[cC]
 | q::a,ds::b,hh,h=>by
  simp only[cC] at h ⊢;obtain⟨⟨xs,i,f⟩,e⟩:=h;show⟨⟨xs,hh q (by simp) xs i,f.mono g⟩,cC.mono g (λr d=>hh r (by simp[d])) e⟩
 | [],_::_,_,h=>by simp only[cC] at h
 | _::_,[],_,h=>by simp only[cC] at h
theorem cC.here{K:J'}{G H:Hp}:∀{a:List Addr}{c:List (List D)},cC K G H a c->∀q∈a,H q≠none
 | [],[],_,q,d=>by cases d
 | q::a,ds::c,h,r,b=>by
  simp only[cC] at h;obtain⟨⟨xs,f,g⟩,e⟩:=h;rcases az.mp b with rfl | b
  .rw[f];show nofun
  show cC.here e r b
 | [],_::_,h,_,_=>by simp only[cC] at h
 | _::_,[],h,_,_=>by simp only[cC] at h
theorem cC.nA{K:J'}{G H c:Hp}(g:cw G c):∀{a:List Addr}{b:List (List D)},(∀q∈a,∀xs,H q=some (.lst xs)->c q=some (.lst xs))->cC K G H a b->bX K c (a.map V.ref) (b.map D.lst)
 | [],[],_,_=>bX.nil
 | q::a,ds::b,hh,h=>by
  simp only[cC] at h;obtain⟨⟨xs,i,f⟩,e⟩:=h;show bX.cons ?_ (cC.nA g (λr d=>hh r (by simp[d])) e);simp only[Rep];show⟨q,xs,rfl,kP.of (hh q (by simp) xs i),f.mono g⟩
 | [],_::_,_,h=>by simp only[cC] at h
 | _::_,[],_,h=>by simp only[cC] at h
def fF(K:J')(G H:Hp):List Addr->List (List (Key×D))->Prop
 | [],[]=>True
 | q::a,ds::c=>(∃ks b,H q=some (.dK ks b)/\fU K G ks ds)/\fF K G H a c
 | _,_=>False
theorem fF.mono{K:J'}{G H c H':Hp}(g:cw G c):∀{a:List Addr}{b:List (List (Key×D))},(∀q∈a,∀u,H q=some u->H' q=some u)->fF K G H a b->fF K c H' a b
 | [],[],_,_=>by simp only[fF]
 | q::a,ds::b,hh,h=>by
  simp only[fF] at h ⊢;obtain⟨⟨ks,j,i,f⟩,e⟩:=h;show⟨⟨ks,j,hh q (by simp) _ i,fU.mono g _ _ f⟩,fF.mono g (λr d=>hh r (by simp[d])) e⟩
 | [],_::_,_,h=>by simp only[fF] at h
 | _::_,[],_,h=>by simp only[fF] at h
theorem fF.kind{K:J'}{G H:Hp}:∀{a:List Addr}{d:List (List (Key×D))},fF K G H a d->∀q∈a,∃ks c,H q=some (.dK ks c)
 | [],[],_,q,e=>by cases e
 | q::a,ds::d,h,r,b=>by
  simp only[fF] at h;obtain⟨⟨ks,c,g,i⟩,f⟩:=h;rcases az.mp b with rfl | b
  .exact⟨ks,c,g⟩
  show fF.kind f r b
 | [],_::_,h,_,_=>by simp only[fF] at h
 | _::_,[],h,_,_=>by simp only[fF] at h
theorem fF.here{K:J'}{G H:Hp}{a:List Addr}{c:List (List (Key×D))}(h:fF K G H a c):∀q∈a,H q≠none:=λq b=>by
 obtain⟨ks,d,e⟩:=h.kind q b;rw[e];show nofun
theorem fF.nA{K:J'}{G H c:Hp}(g:cw G c):∀{a:List Addr}{b:List (List (Key×D))},(∀q∈a,∀u,H q=some u->c q=some u)->fF K G H a b->bX K c (a.map V.ref) (b.map D.dic)
 | [],[],_,_=>bX.nil
 | q::a,ds::b,hh,h=>by
  simp only[fF] at h;obtain⟨⟨ks,j,i,f⟩,e⟩:=h;show bX.cons ?_ (fF.nA g (λr d=>hh r (by simp[d])) e);simp only[Rep];show⟨q,ks,j,rfl,hh q (by simp) _ i,fU.mono g _ _ f⟩
 | [],_::_,_,h=>by simp only[fF] at h
 | _::_,[],_,h=>by simp only[fF] at h
def jW(K:J')(G H:Hp)(p:Addr)(fp:List Addr):OV->Prop
 | .ll f=>H p=some (.lst (fp.map V.ref))/\cC K G H fp f
 | .dc kvs=>fp=[]/\∃ks b,H p=some (.dK ks b)/\fU K G ks kvs
 | .dl kvs=>∃ks b,H p=some (.dK ks b)/\ks.map (·.1)=kvs.map (·.1)/\ks.map (·.2)=fp.map V.ref/\cC K G H fp (kvs.map (·.2))
 | .tl d ds=>∃q v xs,fp=[q]/\H p=some (.tup [v,.ref q])/\Rep K G v d/\H q=some (.lst xs)/\bX K G xs ds
 | .ld c=>H p=some (.lst (fp.map V.ref))/\fF K G H fp c
 | .dt kvs=>∃ks bs,H p=some (.dT ks bs)/\cZ G ks bs.1/\ks.map (·.1)=kvs.map (·.1)/\ks.map (·.2)=fp.map V.ref/\cC K G H fp (kvs.map (·.2))
 | .tp ds=>fp=[]/\∃xs,H p=some (.tup xs)/\bX K G xs ds
 | .ob g fs=>∃C e a,H p=some (.ins C e a)/\ClsAt K g C/\(∀p∈fs,Kv K C p.1)/\a.map (·.1)=fs.map (·.1)/\a.map (·.2)=fp.map V.ref/\cC K G H fp (fs.map (·.2))
 | .dq kvs=>fp=[]/\∃ks bs,H p=some (.dT ks bs)/\cZ G ks bs.1/\cy K G ks kvs
theorem jW.here{K:J'}{G H:Hp}{p:Addr}{fp:List Addr}{o:OV}(h:jW K G H p fp o):∀q∈p::fp,H q≠none:=by
 intro q a;cases o with
 | ll k=>
  rcases az.mp a with rfl | a
  .rw[h.1];show nofun
  show h.2.here q a
 | dc kvs=>
  obtain⟨rfl,ks,f,b,_⟩:=h;simp only[aK] at a;subst a;rw[b];show nofun
 | dl kvs=>
  obtain⟨ks,f,b,_,_,c⟩:=h;rcases az.mp a with rfl | a
  .rw[b];show nofun
  show c.here q a
 | tl d ds=>
  obtain⟨r,v,xs,rfl,b,_,e,_⟩:=h;simp only[az,bV,or_false] at a;rcases a with rfl | rfl
  .rw[b];show nofun
  rw[e];show nofun
 | ld g=>
  rcases az.mp a with rfl | a
  .rw[h.1];show nofun
  show h.2.here q a
 | dt kvs=>
  obtain⟨ks,bs,b,_,_,_,c⟩:=h;rcases az.mp a with rfl | a
  .rw[b];show nofun
  show c.here q a
 | tp ds=>
  obtain⟨rfl,xs,b,_⟩:=h;simp only[aK] at a;subst a;rw[b];show nofun
 | ob l fs=>
  obtain⟨C,j,i,b,_,_,_,_,c⟩:=h;rcases az.mp a with rfl | a
  .rw[b];show nofun
  show c.here q a
 | dq kvs=>
  obtain⟨rfl,ks,bs,b,_⟩:=h;simp only[aK] at a;subst a;rw[b];show nofun
theorem jW.mono{K:J'}{G H k H':Hp}{p:Addr}{fp:List Addr}{o:OV}(g:cw G k)(hh:∀q∈p::fp,∀u,H q=some u->H' q=some u)(h:jW K G H p fp o):jW K k H' p fp o:=by
 cases o with
 | ll t=>show⟨hh p (by simp) _ h.1,h.2.mono g λq c xs=>hh q (by simp[c]) _⟩
 | dc kvs=>
  obtain⟨rfl,ks,j,b,a⟩:=h;show⟨rfl,ks,j,hh p (by simp) _ b,fU.mono g _ _ a⟩
 | dl kvs=>
  obtain⟨ks,j,b,a,f,e⟩:=h;show⟨ks,j,hh p (by simp) _ b,a,f,e.mono g λq c xs=>hh q (by simp[c]) _⟩
 | tl d ds=>
  obtain⟨r,v,xs,rfl,b,a,f,e⟩:=h;show⟨r,v,xs,rfl,hh p (by simp) _ b,a.mono g,hh r (by simp) _ f,e.mono g⟩
 | ld s=>show⟨hh p (by simp) _ h.1,h.2.mono g λq c=>hh q (by simp[c])⟩
 | dt kvs=>
  obtain⟨ks,bs,b,i,a,f,e⟩:=h;show⟨ks,bs,hh p (by simp) _ b,i.mono g,a,f,e.mono g λq c xs=>hh q (by simp[c]) _⟩
 | tp ds=>
  obtain⟨rfl,xs,b,a⟩:=h;show⟨rfl,xs,hh p (by simp) _ b,a.mono g⟩
 | ob w fs=>
  obtain⟨C,n,m,b,l,hn,a,f,e⟩:=h;show⟨C,n,m,hh p (by simp) _ b,l,hn,a,f,e.mono g λq c xs=>hh q (by simp[c]) _⟩
 | dq kvs=>
  obtain⟨rfl,ks,bs,b,i,a⟩:=h;show⟨rfl,ks,bs,hh p (by simp) _ b,i.mono g,cy.mono g _ _ a⟩
theorem fU.eZ{K:J'}{G:Hp}:∀{ks:List (Key×V)}{kvs:List (Key×List D)}{fp:List Addr},ks.map (·.1)=kvs.map (·.1)->ks.map (·.2)=fp.map V.ref->bX K G (fp.map V.ref) ((kvs.map (·.2)).map D.lst)->fU K G ks (kvs.map λp=>(p.1,.lst p.2))
 | [],[],_,_,_,_=>by simp only[bL,fU]
 | a::ks,b::kvs,fp,e,c,d=>by
  simp only[ao,List.cons.injEq] at e;cases fp with
  | nil=>simp at c
  | cons q fp=>
   simp only[ao,List.cons.injEq] at c;simp only[ao,bX] at d;simp only[ao,fU];show⟨⟨e.1,by rw[c.1];show d.1⟩,fU.eZ e.2 c.2 d.2⟩
 | [],_::_,_,h,_,_=>by simp at h
 | _::_,[],_,h,_,_=>by simp at h
theorem cy.eZ{K:J'}{G:Hp}:∀{ks:List (List Key×V)}{kvs:List (List Key×List D)}{fp:List Addr},ks.map (·.1)=kvs.map (·.1)->ks.map (·.2)=fp.map V.ref->bX K G (fp.map V.ref) ((kvs.map (·.2)).map D.lst)->cy K G ks (kvs.map λp=>(p.1,.lst p.2))
 | [],[],_,_,_,_=>by simp only[bL,cy]
 | a::ks,b::kvs,fp,e,c,d=>by
  simp only[ao,List.cons.injEq] at e;cases fp with
  | nil=>simp at c
  | cons q fp=>
   simp only[ao,List.cons.injEq] at c;simp only[ao,bX] at d;simp only[ao,cy];show⟨⟨e.1,by rw[c.1];show d.1⟩,cy.eZ e.2 c.2 d.2⟩
 | [],_::_,_,h,_,_=>by simp at h
 | _::_,[],_,h,_,_=>by simp at h
theorem gM.eZ{K:J'}{G:Hp}:∀{ks:List (Str×V)}{kvs:List (Str×List D)}{fp:List Addr},ks.map (·.1)=kvs.map (·.1)->ks.map (·.2)=fp.map V.ref->bX K G (fp.map V.ref) ((kvs.map (·.2)).map D.lst)->gM K G ks (kvs.map λp=>(p.1,.lst p.2))
 | [],[],_,_,_,_=>by simp only[bL,gM]
 | a::ks,b::kvs,fp,e,c,d=>by
  simp only[ao,List.cons.injEq] at e;cases fp with
  | nil=>simp at c
  | cons q fp=>
   simp only[ao,List.cons.injEq] at c;simp only[ao,bX] at d;simp only[ao,gM];show⟨⟨e.1,by rw[c.1];show d.1⟩,gM.eZ e.2 c.2 d.2⟩
 | [],_::_,_,h,_,_=>by simp at h
 | _::_,[],_,h,_,_=>by simp at h
noncomputable def qm(G H:Hp)(l:List Addr):Hp:=λa=>if a∈l then H a else G a
theorem tN{G H:Hp}{l:List Addr}{a:Addr}(h:a∈l):qm G H l a=H a:=if_pos h
theorem rS{G H:Hp}{l:List Addr}{a:Addr}(h:a∉l):qm G H l a=G a:=if_neg h
theorem zY{G H:Hp}{l:List Addr}(h:∀q∈l,G q=none):cw G (qm G H l):=λb u e=>by
 rw[rS (λz=>by rw[h b z] at e;cases e)];show e
theorem jW.freeze{K:J'}{G H:Hp}{p:Addr}{fp:List Addr}{o:OV}(h:jW K G H p fp o)(hn:∀q∈p::fp,G q=none):Rep K (qm G H (p::fp)) (.ref p) o.val:=by
 have c:=zY (H:=H) hn;have g:qm G H (p::fp) p=H p:=tN (by simp);cases o with
 | ll y=>
  simp only[OV.val,Rep];show⟨p,_,rfl,kP.of (by rw[g];show h.1),h.2.nA c λq f xs e=>by rw[tN (by simp[f])];show e⟩
 | dc kvs=>
  obtain⟨rfl,ks,l,b,a⟩:=h;simp only[OV.val,Rep];show⟨p,ks,l,rfl,by rw[g];show b,fU.mono c _ _ a⟩
 | dl kvs=>
  obtain⟨ks,l,b,a,j,i⟩:=h;simp only[OV.val,Rep];show⟨p,ks,l,rfl,by rw[g];show b,fU.eZ a j (i.nA c λq f xs e=>by rw[tN (by simp[f])];show e)⟩
 | tl d ds=>
  obtain⟨r,v,xs,rfl,b,a,j,i⟩:=h;simp only[OV.val,Rep];show⟨p,_,rfl,(by rw[g];show b),bX.cons (a.mono c) (bX.cons ?_ bX.nil)⟩;simp only[Rep];show⟨r,xs,rfl,kP.of (by rw[tN (by simp)];show j),i.mono c⟩
 | dt kvs=>
  obtain⟨ks,bs,b,k,a,j,i⟩:=h;simp only[OV.val,Rep];show⟨p,ks,bs,rfl,by rw[g];show b,k.mono c,cy.eZ a j (i.nA c λq f xs e=>by rw[tN (by simp[f])];show e)⟩
 | tp ds=>
  obtain⟨rfl,xs,b,a⟩:=h;simp only[OV.val,Rep];show⟨p,xs,rfl,(by rw[g];show b),a.mono c⟩
 | ob z fs=>
  obtain⟨C,w,t,b,s,hn,a,j,i⟩:=h;simp only[OV.val,Rep];show⟨p,C,w,t,rfl,by rw[g];show b,s,λu n=>?_,gM.eZ a j (i.nA c λq f xs e=>by rw[tN (by simp[f])];show e)⟩;obtain⟨v,m,rfl⟩:=aE.mp n;show hn v m
 | ld x=>
  simp only[OV.val,Rep];show⟨p,_,rfl,kP.of (by rw[g];show h.1),h.2.nA c λq f u e=>by rw[tN (by simp[f])];show e⟩
 | dq kvs=>
  obtain⟨rfl,ks,bs,b,k,a⟩:=h;simp only[OV.val,Rep];show⟨p,ks,bs,rfl,by rw[g];show b,k.mono c,cy.mono c _ _ a⟩
noncomputable abbrev Ev:=List Sl
noncomputable def gt:Ev->Nat->Sl
 | [],_=>.un
 | a::_,0=>a
 | _::r,n+1=>gt r n
theorem vi{b:Ev}{i j:Nat}{s:Sl}:gt (b.set i s) j=if i=j/\j<b.length then s else gt b j:=by
 induction b generalizing i j with
 | nil=>simp[gt]
 | cons a r c=>
  cases i with
  | zero=>
   cases j with
   | zero=>simp[gt]
   | succ j=>simp[gt]
  | succ i=>
   cases j with
   | zero=>simp[gt]
   | succ j=>simp[gt,c]
def ee(K:J')(a H' H:Hp)(v:V):R->Prop
 | .fz d=>Rep K a v d
 | .ow ds=>∃p xs,v=.ref p/\H p=none/\a p=none/\H' p=some (.lst xs)/\bX K a xs ds
 | .ov o=>∃p fp,v=.ref p/\(p::fp).Nodup/\jW K a H' p fp o/\∀q∈p::fp,H q=none/\a q=none
structure c9(K:J')(G0 H0:Hp)(ρ:Ev)(σ:St)(G H:Hp):Prop where
 e:Ext G0 H0 G H
 len:σ.length=ρ.length
 fz:∀i d,gt ρ i=.fz d->∃v,σ[i]?=some (some v)/\Rep K G v d
 ow:∀i ds,gt ρ i=.ow ds->∃p xs,σ[i]?=some (some (.ref p))/\H p=some (.lst xs)/\G p=none/\H0 p=none/\bX K G xs ds
 dj:∀i j ds es,i≠j->gt ρ i=.ow ds->gt ρ j=.ow es->σ[i]?≠σ[j]?
 on:∃own:Addr->Option Nat,(∀i ds p,gt ρ i=.ow ds->σ[i]?=some (some (.ref p))->own p=some i)/\∀i o,gt ρ i=.ov o->∃p fp,σ[i]?=some (some (.ref p))/\(p::fp).Nodup/\jW K G H p fp o/\∀q∈p::fp,G q=none/\H0 q=none/\own q=some i
section
variable{K:J'}{G0 H0 G H G' H' G2 H2:Hp}{ρ:Ev}{σ:St}{v:V}
theorem c9.ext(E:c9 K G0 H0 ρ σ G H)(x:Ext G H G' H'):c9 K G0 H0 ρ σ G' H' where
 e:=E.e.trans x
 len:=E.len
 fz:=λi d h=>let⟨v,b,a⟩:=E.fz i d h;⟨v,b,a.mono x.g⟩
 ow:=λi ds h=>let⟨p,xs,b,a,m,l,k⟩:=E.ow i ds h;⟨p,xs,b,x.h _ _ a,x.n p m (by rw[a];show nofun),l,k.mono x.g⟩
 dj:=E.dj
 on:=by
  obtain⟨own,b,a⟩:=E.on;show⟨own,b,λi o h=>?_⟩;obtain⟨p,fp,s,r,j,f⟩:=a i o h;show⟨p,fp,s,r,j.mono x.g λq _ u e=>x.h q u e,λq c=>⟨x.n q (f q c).1 (j.here q c),(f q c).2⟩⟩
theorem ee.freeze{r:R}(x:Ext G H G' H')(h:ee K G' H' H v r):∃G2,Ext G H G2 H'/\Rep K G2 v r.val/\cw G' G2:=by
 cases r with
 | fz d=>show⟨G',x,h,cw.refl _⟩
 | ow ds=>
  obtain⟨p,xs,j,i,a,m,l⟩:=h;show⟨upd G' p (.lst xs),⟨x.g.trans (vj a),x.h,λb o e=>?_,λq f c=>?_⟩,?_,vj a⟩
  .by_cases hb:b=p
   .subst hb;rw[gX] at e;rw[m];show e
   rw[dy hb] at e;show x.s b o e
  .rw[dy (λz=>c (by rw[z];show i))];show x.n q f c
  show Rep K (upd G' p (.lst xs)) v (.lst ds);simp only[Rep];show⟨p,xs,j,kP.of gX,l.mono (vj a)⟩
 | ov o=>
  obtain⟨p,fp,rfl,j,i,a⟩:=h;have hn:∀q∈p::fp,G' q=none:=λq k=>(a q k).2
  show⟨qm G' H' (p::fp),⟨x.g.trans (zY hn),x.h,λb u e=>?_,λq f c=>?_⟩,i.freeze hn,zY hn⟩
  .by_cases hb:b∈p::fp
   .rw[tN hb] at e;show e
   rw[rS hb] at e;show x.s b u e
  rw[rS (λz=>c (a q z).1)];show x.n q f c
theorem ee.iq{r:R}{g f:Hp}(s:cw f g)(h:ee K G' H' g v r):ee K G' H' f v r:=by
 cases r with
 | fz d=>show h
 | ow ds=>
  obtain⟨p,xs,c,b,a,j,i⟩:=h;show⟨p,xs,c,s.free b,a,j,i⟩
 | ov o=>
  obtain⟨p,fp,rfl,c,b,a⟩:=h;show⟨p,fp,rfl,c,b,λq e=>⟨s.free (a q e).1,(a q e).2⟩⟩
end
noncomputable abbrev TD:=Ev->(R->Prop)->Prop
noncomputable abbrev iU:=Ev->(Bool->Prop)->Prop
noncomputable abbrev ix:=Ev->(List D->Prop)->Prop
structure DE where
 nx:Ev->Prop
 rt:R->Prop
 bk:Ev->Prop:=λ_=>False
 ct:Ev->Prop:=λ_=>False
noncomputable abbrev TX:=DE->Ev->Prop
def PD(X:Cx)(e:Expr)(t:TD):Prop:=∃tt,PE X e tt/\∀(a:Ev)(σ:St)(d c G H:Hp)(Q:R->Prop)(P:VK),c9 X.K d c a σ G H->t a Q->
 (∀v H' r b,Ext G H b H'->ee X.K b H' H v r->Q r->P v H')->tt σ H P
def PB(X:Cx)(e:Expr)(t:iU):Prop:=∃tt,PT X e tt/\∀(a:Ev)(σ:St)(d c G H:Hp)(Q:Bool->Prop)(P:Bool->Hp->Prop),c9 X.K d c a σ G H->t a Q->
 (∀b H' f,Ext G H f H'->Q b->P b H')->tt σ H P
def md(X:Cx)(d:List Expr)(t:ix):Prop:=∃tt,PA X d tt/\∀(a:Ev)(σ:St)(f e G H:Hp)(Q:List D->Prop)(P:List V->Hp->Prop),c9 X.K f e a σ G H->t a Q->
 (∀b H' ds c,Ext G H c H'->bX X.K c b ds->Q ds->P b H')->tt σ H P
structure Goes(K:J')(G0 H0 G:Hp)(D:DE)(E:Ends):Prop where
 nx:∀ρ σ G' H',cw G G'->c9 K G0 H0 ρ σ G' H'->D.nx ρ->E.nx σ H'
 rt:∀v H' r G',Ext G0 H0 G' H'->ee K G' H' H0 v r->D.rt r->E.rt v H'
 bk:∀ρ σ G' H',cw G G'->c9 K G0 H0 ρ σ G' H'->D.bk ρ->E.bk σ H'
 ct:∀ρ σ G' H',cw G G'->c9 K G0 H0 ρ σ G' H'->D.ct ρ->E.ct σ H'
theorem Goes.shift{K:J'}{e d G f:Hp}{D:DE}{E:Ends}(g:Goes K e d G D E)(s:cw G f):Goes K e d f D E:=
 ⟨λa σ c b s2=>g.nx a σ c b (s.trans s2),g.rt,λa σ c b s2=>g.bk a σ c b (s.trans s2),λa σ c b s2=>g.ct a σ c b (s.trans s2)⟩
def PX(X:Cx)(st:Stmt)(t:TX):Prop:=∃tt,PS X st tt/\∀(a:Ev)(σ:St)(c b G H:Hp)(D:DE)(E:Ends),c9 X.K c b a σ G H->t D a->Goes X.K c b G D E->tt E σ H
def oC(X:Cx)(st:List Stmt)(t:TX):Prop:=∃tt,nT X st tt/\∀(a:Ev)(σ:St)(c b G H:Hp)(D:DE)(E:Ends),c9 X.K c b a σ G H->t D a->Goes X.K c b G D E->tt E σ H
section
variable{X:Cx}{pos:Pos}{a b c:Expr}{ta tb tc:TD}
theorem f9{K:J'}{a H' H:Hp}{v:V}{d:D}(h:Rep K a v d):ee K a H' H v (.fz d):=h
def bY(i:Nat):TD:=λa Q=>match gt a i with
 | .fz d=>Q (.fz d)
 | _=>False
theorem b8(i:Nat){x:Str}(c:X.N[i]?=some x:=by rfl)(b:nR X.env.scope x:=by first | show Or.inl rfl | show Or.inr (Or.inl rfl) | show Or.inr (Or.inr rfl))(hd:(x==("__debug__":Str))=false:=by decide)
  (a:(x==("__classdict__":Str))=false:=by decide):PD X (.Name x pos) (bY i):=by
 show⟨_,rh c b hd a,λj σ m l G H Q P E h k=>?_⟩;unfold bY at h;split at h
 .rename_i d e;obtain⟨v,g,f⟩:=E.fz i d e;show⟨v,g,k v H (.fz d) G (.refl E.e.s) f h⟩
 show h.elim
def dC(d:D):TD:=λ_ Q=>Q (.fz d)
theorem zV{e:Expr}{v:V}{d:D}(h:PE X e (tC v))(r:∀K G,Rep K G v d):PD X e (dC d):=
 ⟨_,h,λa σ c b G H Q P E h k=>k v H (.fz d) G (.refl E.e.s) (r _ _) h⟩
theorem kU(K:J')(G:Hp)(i:Int):Rep K G (.int i) (.int i):=by simp only[Rep]
theorem ky(K:J')(G:Hp)(i:Bool):Rep K G (.bl i) (.bl i):=by simp only[Rep]
theorem tM(K:J')(G:Hp)(i:Str):Rep K G (.str i) (.str i):=by simp only[Rep]
theorem Fy(K:J')(G:Hp):Rep K G .non .non:=by simp only[Rep]
theorem cD{i j}:PD X (.Constant (.int i) j pos) (dC (.int i)):=zV KC λK G=>kU K G i
theorem lz{i j}:PD X (.Constant (.bool i) j pos) (dC (.bl i)):=zV Qj λK G=>ky K G i
theorem eX{i j}:PD X (.Constant (.str i) j pos) (dC (.str i)):=zV RI λK G=>tM K G i
theorem yq{j}:PD X (.Constant .none j pos) (dC .non):=zV RJ λK G=>Fy K G
theorem nq{x:Str}{i:Str}{t:Tok}(hm:X.mg x=some (.str i t))(hg:Gl X x:=by rfl)(hd:(x==("__debug__":Str))=false:=by decide):PD X (.Name x pos) (dC (.str i)):=zV (FA hg hm (v:=.str i) ⟨t,rfl⟩ hd) λK G=>tM K G i
noncomputable abbrev O2:=D->D->(R->Prop)->Prop
def lH(X:Cx)(f:Value->Value->Sem Value)(o:O2):Prop:=∃r:R2,ib X f r/\∀(G H:Hp)(x y:V)(d e:D)(Q:R->Prop)(P:VK),cw G H->Rep X.K G x d->Rep X.K G y e->o d e Q->
 (∀v H' a b,Ext G H b H'->ee X.K b H' H v a->Q a->P v H')->r x y H P
def cj(o:O2)(ta tb:TD):TD:=λa Q=>ta a λb=>tb a λrb=>o b.val rb.val Q
theorem CI{r:R2}{o:O2}{n p:TE}
  (L:∀(G H:Hp)(x y:V)(d e:D)(Q:R->Prop)(P:VK),cw G H->Rep X.K G x d->Rep X.K G y e->o d e Q->(∀v H' l a,Ext G H a H'->ee X.K a H' H v l->Q l->P v H')->r x y H P)
  (ha:∀(c:Ev)(b:St)(i f G H:Hp)(Q:R->Prop)(P:VK),c9 X.K i f c b G H->ta c Q->(∀v H' r a,Ext G H a H'->ee X.K a H' H v r->Q r->P v H')->n b H P)
  (hb:∀(c:Ev)(b:St)(i f G H:Hp)(Q:R->Prop)(P:VK),c9 X.K i f c b G H->tb c Q->(∀v H' r a,Ext G H a H'->ee X.K a H' H v r->Q r->P v H')->p b H P)
  (c:Ev) (b:St) (i f G H:Hp) (Q:R->Prop) (P:VK) (E:c9 X.K i f c b G H) (h:cj o ta tb c Q) (k:∀v H' r a,Ext G H a H'->ee X.K a H' H v r->Q r->P v H'):Aw r n p b H P:=by
 show ha c b i f G H _ _ E h λv H1 W Z z F O=>?_
 obtain⟨S,m,J,_⟩:=F.freeze z;show hb c b i f S H1 _ _ (E.ext m) O λu T rb Y w C N=>?_
 obtain⟨U,j,I,_⟩:=C.freeze w;show L U T v u _ _ Q P j.s (J.mono j.g) I N λA H' l a t B M=>?_
 have q:=(m.trans j).trans t;show k A H' l a q (B.iq (m.trans j).h) M
theorem cE{op:Operator}{o:O2}(h:lH X (binaryOp op) o)(ha:PD X a ta)(hb:PD X b tb):PD X (.BinOp a op b pos) (cj o ta tb):=by
 obtain⟨r,g,f⟩:=h;obtain⟨i,e,d⟩:=ha;obtain⟨j,pb,c⟩:=hb;show⟨_,Ke g e pb,CI f d c⟩
theorem oo{op:CmpOp}{o:O2}(h:lH X (compareOp op) o)(ha:PD X a ta)(hb:PD X b tb)(hm:behindInMarks op b=false:=by first | show Kz _ | rfl):PD X (.Compare a [op] [b] pos) (cj o ta tb):=by
 obtain⟨r,g,f⟩:=h;obtain⟨i,e,d⟩:=ha;obtain⟨j,pb,c⟩:=hb;show⟨_,R7 g e pb hm,CI f d c⟩
def dw(t:TD):iU:=λa Q=>t a λr=>match r with
 | .fz (.bl k)=>Q k
 | _=>False
theorem fQ{op:CmpOp}{o:O2}(p:lH X (compareOp op) o)(ha:PD X a ta)(hb:PD X b tb)(hm:behindInMarks op b=false:=by first | show Kz _ | rfl):PB X (.Compare a [op] [b] pos) (dw (cj o ta tb)):=by
 obtain⟨r,n,m⟩:=p;obtain⟨u,l,j⟩:=ha;obtain⟨w,pb,i⟩:=hb;show⟨_,R6 n l pb hm,λd σ s q G H Q P E h k=>?_⟩;show CI m j i d σ s q G H _ _ E h λv H' r t f g c=>?_
 split at c
 .rename_i kk;have e:v=.bl kk:=by simpa only[ee,Rep] using g
  show⟨kk,e,k kk H' t f c⟩
 show c.elim
theorem lJ{e:Expr}{t:TD}(h:PD X e t)(he:∀whole,isTrue e X.env whole=(do let v <-whole;standAt e.pos;holding [v] (truthy v)):=by intro _;rfl):PB X e (dw t):=by
 obtain⟨tt,p,q⟩:=h;show⟨_,RH p he,λb σ g f G H Q P E h k=>?_⟩;show q b σ g f G H _ _ E h λv H' r i c d a=>?_
 split at a
 .rename_i kk;have e:v=.bl kk:=by simpa only[ee,Rep] using d
  show⟨kk,e,k kk H' i c a⟩
 show a.elim
def dZ:O2:=λd e Q=>match d,e with
 | .int i,.int j=>Q (.fz (.int (i+j)))
 | .str x,.str y=>x.length+y.length<=sizeLine/\Q (.fz (.str (x++y)))
 | .lst xs,.lst ys=>xs.length+ys.length<=sizeLine/\Q (.ow (xs++ys))
 | _,_=>False
def Qs(K:J'):R2:=λx y H Q=>∃l b xs zs,x=.ref l/\y=.ref b/\kP K H l xs/\kP K H b zs/\xs.length+zs.length<=sizeLine/\∀p,H p=none->Q (.ref p) (upd H p (.lst (xs++zs)))
theorem Sy:ib X (binaryOp .Add) (Qs X.K):=by
 intro w s σ H x y v u Q I f d h;obtain⟨l,b,xs,zs,rfl,rfl,g,i,hz,q⟩:=h;cases f;cases d;obtain⟨z,its,n,r,e⟩:=I.fZ g;obtain⟨m,c,p,a,k⟩:=I.fZ i;have t:=r.length;have o:=a.length;show PySem.P.add_list e k ?_ (by rw[aB,aB];ext);have j:its.toArray++c.toArray=(its++c).toArray:=by simp
 rw[j];show⟨.ref _,_,I.uE (t':=s.toks) (r.append a) (by rw[ax];ext),rfl,q _ I.fresh⟩
theorem CS{G H:Hp}{xs:List V}{ds:List D}{Q:R->Prop}{P:VK}(s:cw G H)(r:bX X.K G xs ds)(q:Q (.ow ds))
  (k:∀v H' b c,Ext G H c H'->ee X.K c H' H v b->Q b->P v H'):∀p,H p=none->P (.ref p) (upd H p (.lst xs)):=λp a=>
 k _ _ (.ow ds) G (.own s a) ⟨p,xs,rfl,a,s.free a,gX,r⟩ q
theorem ej:lH X (binaryOp .Add) dZ:=by
 show⟨_,xj.or (oU.or Sy),λG H x y d e Q P s f c h k=>?_⟩;unfold dZ at h;split at h
 .simp only[Rep] at f c;show .inl ⟨_,_,f,c,k _ _ _ G (.refl s) (f9 (kU _ _ _)) h⟩
 .simp only[Rep] at f c;show .inr (.inl ⟨_,_,f,c,h.1,k _ _ _ G (.refl s) (f9 (tM _ _ _)) h.2⟩)
 .simp only[Rep] at f c;obtain⟨a,xs,rfl,l,i⟩:=f;obtain⟨b,ys,rfl,j,g⟩:=c;show .inr (.inr ⟨_,_,_,_,rfl,rfl,s.fZ l,s.fZ j,by rw[i.length,g.length];show h.1,CS s (i.append g) h.2 k⟩)
 show h.elim
def oI(C:Int->Int->Prop)(g:Int->Int->D):O2:=λd e Q=>match d,e with
 | .int i,.int j=>C i j/\Q (.fz (g i j))
 | _,_=>False
def jq(g:Int->Int->D):O2:=λd e Q=>match d,e with
 | .int i,.int j=>Q (.fz (g i j))
 | _,_=>False
theorem Cq{f:Value->Value->Sem Value}{C:Int->Int->Prop}{g:Int->Int->V}{g':Int->Int->D}(h:ib X f (rI C g))(hg:∀K G i j,Rep K G (g i j) (g' i j)):lH X f (oI C g'):=by
 show⟨_,h,λG H x y d e Q P s b a h k=>?_⟩;unfold oI at h;split at h
 .simp only[Rep] at b a;show⟨_,_,b,a,h.1,k _ _ _ G (.refl s) (f9 (hg _ _ _ _)) h.2⟩
 show h.elim
theorem CH{f:Value->Value->Sem Value}{g:Int->Int->V}{g':Int->Int->D}(h:ib X f (qD g))(hg:∀K G i j,Rep K G (g i j) (g' i j)):lH X f (jq g'):=by
 show⟨_,h,λG H x y d e Q P s b a h k=>?_⟩;unfold jq at h;split at h
 .simp only[Rep] at b a;show⟨_,_,b,a,k _ _ _ G (.refl s) (f9 (hg _ _ _ _)) h⟩
 show h.elim
theorem u7:lH X (binaryOp .Sub) (jq λi j=>.int (i-j)):=CH RW λK G i j=>kU K G _
theorem rQ:lH X (binaryOp .Mult) (oI iB λi j=>.int (i*j)):=Cq QM λK G i j=>kU K G _
theorem vh:lH X (binaryOp .FloorDiv) (oI rO λi j=>.int (i/j)):=Cq R8 λK G i j=>kU K G _
theorem ij:lH X (binaryOp .Mod) (oI (λ_ j=>0<j) λi j=>.int (i%j)):=Cq QL λK G i j=>kU K G _
theorem Qq:lH X (binaryOp .Pow) (oI wx λi j=>.int (i ^ j.toNat)):=Cq QK λK G i j=>kU K G _
theorem JG:lH X (compareOp .Lt) (jq λi j=>.bl (decide (i<j))):=CH EJ λK G i j=>ky K G _
theorem JF:lH X (compareOp .Gt) (jq λi j=>.bl (decide (j<i))):=CH P9 λK G i j=>ky K G _
theorem OX:lH X (compareOp .GtE) (jq λi j=>.bl (decide (j<=i))):=CH P8 λK G i j=>ky K G _
end
open PySem.SeqAt
mutual
noncomputable def eC:D->D->Bool
 | .non,.non=>true
 | .bl a,.bl b=>a==b
 | .bl a,.int b=>(if a then 1 else 0)==b
 | .int a,.bl b=>a==(if b then 1 else 0)
 | .int a,.int b=>a==b
 | .str a,.str b=>a==b
 | .tup xs,.tup ys=>pF xs ys
 | .lst xs,.lst ys=>pF xs ys
 | _,_=>false
noncomputable def pF:List D->List D->Bool
 | [],[]=>true
 | x::xs,y::ys=>eC x y&&pF xs ys
 | _,_=>false
end
def gK:Nat->D->Prop
 | _,.non=>True
 | _,.bl _=>True
 | _,.int _=>True
 | _,.str _=>True
 | n+1,.tup ds=>∀d∈ds,gK n d
 | n+1,.lst ds=>∀d∈ds,gK n d
 | _,_=>False
mutual
theorem FX:∀(n:Nat)(d:D),gK n d->eC d d=true
 | n,.non,_=>by simp only[eC]
 | n,.bl _,_=>by simp only[eC,beq_self_eq_true]
 | n,.int _,_=>by simp only[eC,beq_self_eq_true]
 | n,.str _,_=>by simp only[eC,beq_self_eq_true]
 | 0,.tup ds,h=>by cases h
 | 0,.lst ds,h=>by cases h
 | n+1,.tup ds,h=>by simp only[eC];show Gf n ds h
 | n+1,.lst ds,h=>by simp only[eC];show Gf n ds h
 | 0,.obj _ _,h=>by cases h
 | n+1,.obj _ _,h=>by cases h
 | 0,.dic _,h=>by cases h
 | 0,.dit _,h=>by cases h
 | 0,.exc _ _,h=>by cases h
 | n+1,.dic _,h=>by cases h
 | n+1,.dit _,h=>by cases h
 | n+1,.exc _ _,h=>by cases h
theorem Gf:∀(n:Nat)(ds:List D),(∀d∈ds,gK n d)->pF ds ds=true
 | n,[],_=>by simp only[pF]
 | n,d::ds,h=>by simp only[pF,FX n d (h d (by simp)),Gf n ds (λe he=>h e (by simp[he])),Bool.and_self]
end
theorem zU:∀{xs ys:List D},xs.length≠ys.length->pF xs ys=false
 | [],[],h=>absurd rfl h
 | x::xs,y::ys,h=>by
  rw[pF,zU (xs:=xs) (ys:=ys) (by simpa using h),Bool.and_false]
 | [],_::_,_=>by simp only[pF]
 | _::_,[],_=>by simp only[pF]
theorem zT:∀(xs ys:List D),xs.length=ys.length->pF xs ys=(List.range xs.length).all λj=>eC (xs.getD j .non) (ys.getD j .non)
 | [],[],_=>by simp[pF]
 | x::xs,y::ys,h=>by
  rw[pF,zT xs ys (by simpa using h),av,List.range_succ_eq_map,List.all_cons,List.all_map];congr 1
 | [],_::_,h=>by simp at h
 | _::_,[],h=>by simp at h
theorem FW(xs ys:List D):((List.range (min xs.length ys.length)).all (λj=>eC (xs.getD j .non) (ys.getD j .non))&&xs.length==ys.length)=pF xs ys:=by
 by_cases h:xs.length=ys.length
 .rw[zT xs ys h,h];simp
 rw[zU h];simp[h]
section
variable{X:Cx}{K':List (Addr×Obj)}{σ:St}{H:Hp}{s:Shared}
mutual
theorem CQ(I:Inv X K' σ H s):∀(n:Nat)(d e:D)(v:V),gK n d->gK n e->Rep X.K H v d->Rep X.K H v e->d=e
 | n,.non,e,v,h,h',r,c=>by
  cases e<;>simp only[Rep] at r c<;>subst r<;>first | rfl | (simp at c;done) | (simp only[V.bl.injEq,V.int.injEq,V.str.injEq] at c;rw[c])
 | n,.bl b,e,v,h,h',r,c=>by
  cases e<;>simp only[Rep] at r c<;>subst r<;>first | rfl | (simp at c;done) | (simp only[V.bl.injEq,V.int.injEq,V.str.injEq] at c;rw[c])
 | n,.int b,e,v,h,h',r,c=>by
  cases e<;>simp only[Rep] at r c<;>subst r<;>first | rfl | (simp at c;done) | (simp only[V.bl.injEq,V.int.injEq,V.str.injEq] at c;rw[c])
 | n,.str b,e,v,h,h',r,c=>by
  cases e<;>simp only[Rep] at r c<;>subst r<;>first | rfl | (simp at c;done) | (simp only[V.bl.injEq,V.int.injEq,V.str.injEq] at c;rw[c])
 | 0,.tup ds,e,v,h,h',r,c=>by cases h
 | 0,.lst ds,e,v,h,h',r,c=>by cases h
 | n+1,.tup ds,e,v,h,h',r,c=>by
  simp only[Rep] at r;obtain⟨a,xs,rfl,q,rs⟩:=r;cases e<;>simp only[Rep] at c
  case tup j=>
   obtain⟨b,ys,i,f,g⟩:=c;cases i;rw[I.lY (fk.of f) (fk.of q)] at g;rw[FV I n ds j xs h h' rs g]
  case lst j=>
   obtain⟨b,ys,i,f,g⟩:=c;cases i;obtain⟨its,_,ht,_⟩:=I.tuple (fk.of q);obtain⟨its',_,k,_⟩:=I.list f.sq;show absurd rfl (ne_of_list_tuple k.isList (show s.heap.IsTuple a its.toArray from ht))
  case obj=>cases h'
  case dic=>cases h'
  case dit=>cases h'
  case exc=>cases h'
  all_goals cases c
 | n+1,.lst ds,e,v,h,h',r,c=>by
  simp only[Rep] at r;obtain⟨a,xs,rfl,q,rs⟩:=r;cases e<;>simp only[Rep] at c
  case lst j=>
   obtain⟨b,ys,i,f,g⟩:=c;cases i;rw[I.iu f.sq q.sq] at g;rw[FV I n ds j xs h h' rs g]
  case tup j=>
   obtain⟨b,ys,i,f,g⟩:=c;cases i;obtain⟨its,_,ht,_⟩:=I.tuple (fk.of f);obtain⟨its',_,k,_⟩:=I.list q.sq;show absurd rfl (ne_of_list_tuple k.isList (show s.heap.IsTuple a its.toArray from ht))
  case obj=>cases h'
  case dic=>cases h'
  case dit=>cases h'
  case exc=>cases h'
  all_goals cases c
 | 0,.obj _ _,_,_,h,_,_,_=>by cases h
 | n+1,.obj _ _,_,_,h,_,_,_=>by cases h
 | 0,.dic _,_,_,h,_,_,_=>by cases h
 | 0,.dit _,_,_,h,_,_,_=>by cases h
 | 0,.exc _ _,_,_,h,_,_,_=>by cases h
 | n+1,.dic _,_,_,h,_,_,_=>by cases h
 | n+1,.dit _,_,_,h,_,_,_=>by cases h
 | n+1,.exc _ _,_,_,h,_,_,_=>by cases h
theorem FV(I:Inv X K' σ H s):∀(n:Nat)(ds a:List D)(b:List V),(∀d∈ds,gK n d)->(∀d∈a,gK n d)->bX X.K H b ds->bX X.K H b a->ds=a
 | n,[],[],_,_,_,_,_=>rfl
 | n,d::ds,e::a,v::b,h,h',r,c=>by
  simp only[bX] at r c;rw[CQ I n d e v (h d (by simp)) (h' e (by simp)) r.1 c.1,FV I n ds a b (λx f=>h x (by simp[f])) (λx f=>h' x (by simp[f])) r.2 c.2]
 | n,[],_::_,[],_,_,_,r=>by simp only[bX] at r
 | n,[],_::_,_::_,_,_,r,_=>by simp only[bX] at r
 | n,_::_,[],[],_,_,r,_=>by simp only[bX] at r
 | n,_::_,[],_::_,_,_,_,r=>by simp only[bX] at r
 | n,_::_,_::_,[],_,_,r,_=>by simp only[bX] at r
end
theorem qz{a:List V}{ds:List D}{b:List Value}{j:Nat}(f:Vals a b)(g:bX X.K H a ds)(l:j<b.toArray.size):∃v,RelV v b.toArray[j]/\Rep X.K H v (ds.getD j .non)/\ds.getD j .non∈ds:=by
 have i:j<b.length:=by simpa using l
 have e:j<a.length:=by rw[f.length];show i
 have c:j<ds.length:=by rw[<-g.length];show e
 obtain⟨u,h,k⟩:=f.get (af e);obtain⟨d,hd,m⟩:=g.BK (af e);rw[af i] at h;rw[af c] at hd;cases h;cases hd;show⟨a[j],?_,?_,?_⟩
 .simpa using k
 .simpa[List.getD,c] using m
 simp[List.getD,c]
noncomputable def yh:D->Bool
 | .non=>true
 | .bl _=>true
 | .int _=>true
 | .str _=>true
 | _=>false
theorem Lh{d e:D}{x y:V}(hd:yh d=true)(he:yh e=true)(b:Rep X.K H x d)(a:Rep X.K H y e):Cr x=true/\Cr y=true/\Jd x y=eC d e:=by
 cases d<;>first | cases hd | skip
 all_goals (cases e<;>first | cases he | skip)
 all_goals
  simp only[Rep] at b a;subst b a;show⟨rfl,rfl,by simp[Jd,eC]⟩
theorem zI(I:Inv X Z σ H s):∀(n:Nat)(A:Around)(d e:D)(x y:V)(v u:Value),gK n d->gK n e->A.units+n<cLine->Rep X.K H x d->Rep X.K H y e->RelV x v->RelV y u->EqAt A s v u (eC d e):=by
 intro n;induction n with
 | zero=>
  intro A d e x y v u hd he Y f c l k;have fd:yh d=true:=by cases d<;>first | rfl | cases hd
  have L:yh e=true:=by cases e<;>first | rfl | cases he
  obtain⟨C,B,M⟩:=Lh fd L f c;rw[<-M];show Ks l k C B
 | succ n W=>
  intro A d e x y v u hd he Y f c l k;have i:A.units<cLine:=by ext
  have U:A.in1.units+n<cLine:=by show A.units+1+n<cLine;ext
  by_cases fd:yh d=true
  .by_cases L:yh e=true
   .obtain⟨C,B,M⟩:=Lh fd L f c;rw[<-M];show Ks l k C B
   cases e<;>first | show absurd rfl L | skip
   case tup m=>
    simp only[Rep] at c;obtain⟨b,ys,rfl,q,rs⟩:=c;cases k;obtain⟨its,p,ht,_⟩:=I.tuple (fk.of q);have g:s.heap.IsTuple b its.toArray:=ht;cases d<;>first | cases fd | skip
    .simp only[Rep] at f;subst f;cases l;simpa only[eC] using EqAt.none_tuple g i
    .simp only[Rep] at f;subst f;cases l;simpa only[eC] using EqAt.bool_tuple _ g i
    .simp only[Rep] at f;subst f;obtain⟨t,rfl⟩:=l;simpa only[eC] using EqAt.int_tuple _ t g i
    simp only[Rep] at f;subst f;obtain⟨t,rfl⟩:=l;simpa only[eC] using EqAt.str_tuple _ t g i
   case lst m=>
    simp only[Rep] at c;obtain⟨b,ys,rfl,q,rs⟩:=c;cases k;obtain⟨its,p,ht,_⟩:=I.list q.sq;have g:=ht.isList;cases d<;>first | cases fd | skip
    .simp only[Rep] at f;subst f;cases l;simpa only[eC] using EqAt.none_list g i
    .simp only[Rep] at f;subst f;cases l;simpa only[eC] using EqAt.bool_list _ g i
    .simp only[Rep] at f;subst f;obtain⟨t,rfl⟩:=l;simpa only[eC] using EqAt.int_list _ t g i
    simp only[Rep] at f;subst f;obtain⟨t,rfl⟩:=l;simpa only[eC] using EqAt.str_list _ t g i
   case obj=>cases he
   case dic=>cases he
   case dit=>cases he
   case exc=>cases he
  cases d<;>first | show absurd rfl fd | skip
  case tup ds=>
   have S:=f;simp only[Rep] at f;obtain⟨a,xs,rfl,q,rs⟩:=f;cases l;obtain⟨its,p,ht,_⟩:=I.tuple (fk.of q);have g:s.heap.IsTuple a its.toArray:=ht;cases e
   case non=>simp only[Rep] at c;subst c;cases k;simpa only[eC] using EqAt.tuple_none g i
   case bl=>simp only[Rep] at c;subst c;cases k;simpa only[eC] using EqAt.tuple_bool _ g i
   case int=>simp only[Rep] at c;subst c;obtain⟨t,rfl⟩:=k;simpa only[eC] using EqAt.tuple_int _ t g i
   case str=>simp only[Rep] at c;subst c;obtain⟨t,rfl⟩:=k;simpa only[eC] using EqAt.tuple_str _ t g i
   case lst m=>
    simp only[Rep] at c;obtain⟨b,ys,rfl,r,z⟩:=c;cases k;obtain⟨its',w,o,_⟩:=I.list r.sq;simpa only[eC] using EqAt.tuple_list g o.isList i
   case tup m=>
    have T:=c;simp only[Rep] at c;obtain⟨b,ys,rfl,r,z⟩:=c;cases k;obtain⟨its',w,G,_⟩:=I.tuple (fk.of r);by_cases E:a=b
    .subst E;have N:=CQ I (n+1) _ _ _ hd he S T;rw[<-N,FX (n+1) _ hd];show EqAt.same _
    show EqAt.of_refs E ?_;have h:=RcAt.tuples (e:=λj=>eC (ds.getD j .non) (m.getD j .non)) g (show s.heap.IsTuple b its'.toArray from G) i λj C B=>by
     obtain⟨v1,a1,R,P⟩:=qz p rs C;obtain⟨v2,a2,Q,O⟩:=qz w z B;show W A.in1 _ _ v1 v2 _ _ (hd _ P) (he _ O) U R Q a1 a2
    have F:its.toArray.size=ds.length:=by rw[aB,<-p.length,rs.length]
    have J:its'.toArray.size=m.length:=by rw[aB,<-w.length,z.length]
    rw[F,J,FW] at h;simpa only[eC] using h
   case obj=>cases he
   case dic=>cases he
   case dit=>cases he
   case exc=>cases he
  case lst ds=>
   have S:=f;simp only[Rep] at f;obtain⟨a,xs,rfl,q,rs⟩:=f;cases l;obtain⟨its,p,ht,_⟩:=I.list q.sq;have g:=ht.isList;cases e
   case non=>simp only[Rep] at c;subst c;cases k;simpa only[eC] using EqAt.list_none g i
   case bl=>simp only[Rep] at c;subst c;cases k;simpa only[eC] using EqAt.list_bool _ g i
   case int=>simp only[Rep] at c;subst c;obtain⟨t,rfl⟩:=k;simpa only[eC] using EqAt.list_int _ t g i
   case str=>simp only[Rep] at c;subst c;obtain⟨t,rfl⟩:=k;simpa only[eC] using EqAt.list_str _ t g i
   case tup m=>
    simp only[Rep] at c;obtain⟨b,ys,rfl,r,z⟩:=c;cases k;obtain⟨its',w,o,_⟩:=I.tuple (fk.of r);simpa only[eC] using EqAt.list_tuple g (show s.heap.IsTuple b its'.toArray from o) i
   case lst m=>
    have T:=c;simp only[Rep] at c;obtain⟨b,ys,rfl,r,z⟩:=c;cases k;obtain⟨its',w,G,_⟩:=I.list r.sq;by_cases E:a=b
    .subst E;have N:=CQ I (n+1) _ _ _ hd he S T;rw[<-N,FX (n+1) _ hd];show EqAt.same _
    show EqAt.of_refs E ?_;have F:its.toArray.size=ds.length:=by rw[aB,<-p.length,rs.length]
    have J:its'.toArray.size=m.length:=by rw[aB,<-w.length,z.length]
    by_cases o:ds.length=m.length
    .have h:=RcAt.lists (e:=λj=>eC (ds.getD j .non) (m.getD j .non)) g G.isList (by rw[F,J,o]) i λj C B=>by
      obtain⟨v1,a1,R,P⟩:=qz p rs C;obtain⟨v2,a2,Q,O⟩:=qz w z B;show W A.in1 _ _ v1 v2 _ _ (hd _ P) (he _ O) U R Q a1 a2
     rw[F,<-zT ds m o] at h;simpa only[eC] using h
    have h:=RcAt.lists_lengths (A:=A) g G.isList (by rw[F,J];simpa using o) i;simp only[eC,zU o];show h
   case obj=>cases he
   case dic=>cases he
   case dit=>cases he
   case exc=>cases he
  case obj=>cases hd
  case dic=>cases hd
  case dit=>cases hd
  case exc=>cases hd
end
section
variable{X:Cx}{K':List (Addr×Obj)}{σ:St}{H:Hp}{s:Shared}
theorem rC{y:V}{u:Value}(r:Rep X.K H y .non)(q:RelV y u):u=.none:=by simp only[Rep] at r;subst r;cases q;rfl
theorem rE{y:V}{u:Value}{c:Bool}(r:Rep X.K H y (.bl c))(q:RelV y u):u=.bool c:=by simp only[Rep] at r;subst r;cases q;rfl
theorem rD{y:V}{u:Value}{i:Int}(r:Rep X.K H y (.int i))(q:RelV y u):∃t,u=.int i t:=by simp only[Rep] at r;subst r;show q
theorem rB{y:V}{u:Value}{x:Str}(r:Rep X.K H y (.str x))(q:RelV y u):∃t,u=.str x t:=by simp only[Rep] at r;subst r;show q
theorem tY{y:V}{u:Value}{a:List D}(I:Inv X K' σ H s)(r:Rep X.K H y (.tup a))(q:RelV y u):∃b it,u=.ref b/\s.heap.IsTuple b (List.toArray it):=by
 simp only[Rep] at r;obtain⟨b,ys,rfl,h,_⟩:=r;cases q;obtain⟨it,_,ht,_⟩:=I.tuple (fk.of h);show⟨b,it,rfl,ht⟩
theorem tZ{y:V}{u:Value}{a:List D}(I:Inv X K' σ H s)(r:Rep X.K H y (.lst a))(q:RelV y u):∃b it,u=.ref b/\s.heap.IsList b (List.toArray it):=by
 simp only[Rep] at r;obtain⟨b,ys,rfl,h,_⟩:=r;cases q;obtain⟨it,_,ht,_⟩:=I.list h.sq;show⟨b,it,rfl,ht.isList⟩
theorem Qv(I:Inv X K' σ H s):∀(n:Nat)(A:Around)(d e:D)(x y:V)(v u:Value),gK n d->gK n e->A.units+n<cLine->Rep X.K H x d->Rep X.K H y e->RelV x v->RelV y u->RcAt A s v u (eC d e):=by
 intro n A d e x y v u hd he P l c o f;have i:A.units<cLine:=by ext
 cases d
 case non=>
  simp only[Rep] at l;subst l;cases o;cases e
  case non=>cases rC c f;show RcAt.none_none
  case bl=>cases rE c f;show RcAt.none_bool _
  case int=>obtain⟨t,rfl⟩:=rD c f;show RcAt.none_int _ t
  case str=>obtain⟨t,rfl⟩:=rB c f;show RcAt.none_str _ t
  case tup=>obtain⟨b,it,rfl,g⟩:=tY I c f;show RcAt.none_tuple g i
  case lst=>obtain⟨b,it,rfl,g⟩:=tZ I c f;show RcAt.none_list g i
  all_goals (cases n<;>cases he)
 case bl a=>
  simp only[Rep] at l;subst l;cases o;cases e
  case non=>cases rC c f;show RcAt.bool_none _
  case bl=>cases rE c f;show RcAt.bool_bool _ _
  case int=>obtain⟨t,rfl⟩:=rD c f;show RcAt.bool_int _ _ t
  case str=>obtain⟨t,rfl⟩:=rB c f;show RcAt.bool_str _ _ t
  case tup=>obtain⟨b,it,rfl,g⟩:=tY I c f;show RcAt.bool_tuple _ g i
  case lst=>obtain⟨b,it,rfl,g⟩:=tZ I c f;show RcAt.bool_list _ g i
  all_goals (cases n<;>cases he)
 case int a=>
  simp only[Rep] at l;subst l;obtain⟨t0,rfl⟩:=o;cases e
  case non=>cases rC c f;show RcAt.int_none _ t0
  case bl=>cases rE c f;show RcAt.int_bool _ t0 _
  case int=>obtain⟨t,rfl⟩:=rD c f;show RcAt.int_int _ t0 _ t
  case str=>obtain⟨t,rfl⟩:=rB c f;show RcAt.int_str _ t0 _ t
  case tup=>obtain⟨b,it,rfl,g⟩:=tY I c f;show RcAt.int_tuple _ t0 g i
  case lst=>obtain⟨b,it,rfl,g⟩:=tZ I c f;show RcAt.int_list _ t0 g i
  all_goals (cases n<;>cases he)
 case str a=>
  simp only[Rep] at l;subst l;obtain⟨t0,rfl⟩:=o;cases e
  case non=>cases rC c f;show RcAt.str_none _ t0
  case bl=>cases rE c f;show RcAt.str_bool _ t0 _
  case int=>obtain⟨t,rfl⟩:=rD c f;show RcAt.str_int _ t0 _ t
  case str=>obtain⟨t,rfl⟩:=rB c f;show RcAt.str_str _ t0 _ t
  case tup=>obtain⟨b,it,rfl,g⟩:=tY I c f;show RcAt.str_tuple _ t0 g i
  case lst=>obtain⟨b,it,rfl,g⟩:=tZ I c f;show RcAt.str_list _ t0 g i
  all_goals (cases n<;>cases he)
 case tup ds=>
  cases n with
  | zero=>cases hd
  | succ n=>
  have F:A.in1.units+n<cLine:=by show A.units+1+n<cLine;ext
  simp only[Rep] at l;obtain⟨a,xs,rfl,q,rs⟩:=l;cases o;obtain⟨its,p,ht,_⟩:=I.tuple (fk.of q);have k:s.heap.IsTuple a its.toArray:=ht;cases e
  case non=>cases rC c f;show RcAt.tuple_none k i
  case bl=>cases rE c f;show RcAt.tuple_bool _ k i
  case int=>obtain⟨t,rfl⟩:=rD c f;show RcAt.tuple_int _ t k i
  case str=>obtain⟨t,rfl⟩:=rB c f;show RcAt.tuple_str _ t k i
  case lst m=>obtain⟨b,it,rfl,g⟩:=tZ I c f;show RcAt.tuple_list k g i
  case tup m=>
   simp only[Rep] at c;obtain⟨b,ys,rfl,G,z⟩:=c;cases f;obtain⟨its',r,B,_⟩:=I.tuple (fk.of G);have h:=RcAt.tuples (e:=λj=>eC (ds.getD j .non) (m.getD j .non)) k (show s.heap.IsTuple b its'.toArray from B) i λj J g=>by
    obtain⟨v1,a1,O,M⟩:=qz p rs J;obtain⟨v2,a2,N,L⟩:=qz r z g;show zI I n A.in1 _ _ v1 v2 _ _ (hd _ M) (he _ L) F O N a1 a2
   have w:its.toArray.size=ds.length:=by rw[aB,<-p.length,rs.length]
   have C:its'.toArray.size=m.length:=by rw[aB,<-r.length,z.length]
   rw[w,C,FW] at h;simpa only[eC] using h
  all_goals cases he
 case lst ds=>
  cases n with
  | zero=>cases hd
  | succ n=>
  have F:A.in1.units+n<cLine:=by show A.units+1+n<cLine;ext
  simp only[Rep] at l;obtain⟨a,xs,rfl,q,rs⟩:=l;cases o;obtain⟨its,p,ht,_⟩:=I.list q.sq;have k:=ht.isList;cases e
  case non=>cases rC c f;show RcAt.list_none k i
  case bl=>cases rE c f;show RcAt.list_bool _ k i
  case int=>obtain⟨t,rfl⟩:=rD c f;show RcAt.list_int _ t k i
  case str=>obtain⟨t,rfl⟩:=rB c f;show RcAt.list_str _ t k i
  case tup m=>obtain⟨b,it,rfl,g⟩:=tY I c f;show RcAt.list_tuple k g i
  case lst m=>
   simp only[Rep] at c;obtain⟨b,ys,rfl,G,z⟩:=c;cases f;obtain⟨its',r,B,_⟩:=I.list G.sq;have w:its.toArray.size=ds.length:=by rw[aB,<-p.length,rs.length]
   have C:its'.toArray.size=m.length:=by rw[aB,<-r.length,z.length]
   by_cases E:ds.length=m.length
   .have h:=RcAt.lists (e:=λj=>eC (ds.getD j .non) (m.getD j .non)) k B.isList (by rw[w,C,E]) i λj J g=>by
     obtain⟨v1,a1,O,M⟩:=qz p rs J;obtain⟨v2,a2,N,L⟩:=qz r z g;show zI I n A.in1 _ _ v1 v2 _ _ (hd _ M) (he _ L) F O N a1 a2
    rw[w,<-zT ds m E] at h;simpa only[eC] using h
   have h:=RcAt.lists_lengths (A:=A) k B.isList (by rw[w,C];simpa using E) i;simp only[eC,zU E];show h
  all_goals cases he
 all_goals (cases n<;>cases hd)
theorem Tw(I:Inv X K' σ H s):∀(n:Nat)(A:Around)(d e:D)(x y:V)(v u:Value),gK n d->gK n e->A.units+n<cLine->Rep X.K H x d->Rep X.K H y e->RelV x v->RelV y u->RcNeAt A s v u (!eC d e):=by
 intro n A d e x y v u hd he P l c o f;have i:A.units<cLine:=by ext
 cases d
 case non=>
  simp only[Rep] at l;subst l;cases o;cases e
  case non=>cases rC c f;show RcNeAt.none_none
  case bl=>cases rE c f;show RcNeAt.none_bool _
  case int=>obtain⟨t,rfl⟩:=rD c f;show RcNeAt.none_int _ t
  case str=>obtain⟨t,rfl⟩:=rB c f;show RcNeAt.none_str _ t
  case tup=>obtain⟨b,it,rfl,g⟩:=tY I c f;show RcNeAt.none_tuple g i
  case lst=>obtain⟨b,it,rfl,g⟩:=tZ I c f;show RcNeAt.none_list g i
  all_goals (cases n<;>cases he)
 case bl a=>
  simp only[Rep] at l;subst l;cases o;cases e
  case non=>cases rC c f;show RcNeAt.bool_none _
  case bl=>cases rE c f;show RcNeAt.bool_bool _ _
  case int=>obtain⟨t,rfl⟩:=rD c f;show RcNeAt.bool_int _ _ t
  case str=>obtain⟨t,rfl⟩:=rB c f;show RcNeAt.bool_str _ _ t
  case tup=>obtain⟨b,it,rfl,g⟩:=tY I c f;show RcNeAt.bool_tuple _ g i
  case lst=>obtain⟨b,it,rfl,g⟩:=tZ I c f;show RcNeAt.bool_list _ g i
  all_goals (cases n<;>cases he)
 case int a=>
  simp only[Rep] at l;subst l;obtain⟨t0,rfl⟩:=o;cases e
  case non=>cases rC c f;show RcNeAt.int_none _ t0
  case bl=>cases rE c f;show RcNeAt.int_bool _ t0 _
  case int=>obtain⟨t,rfl⟩:=rD c f;show RcNeAt.int_int _ t0 _ t
  case str=>obtain⟨t,rfl⟩:=rB c f;show RcNeAt.int_str _ t0 _ t
  case tup=>obtain⟨b,it,rfl,g⟩:=tY I c f;show RcNeAt.int_tuple _ t0 g i
  case lst=>obtain⟨b,it,rfl,g⟩:=tZ I c f;show RcNeAt.int_list _ t0 g i
  all_goals (cases n<;>cases he)
 case str a=>
  simp only[Rep] at l;subst l;obtain⟨t0,rfl⟩:=o;cases e
  case non=>cases rC c f;show RcNeAt.str_none _ t0
  case bl=>cases rE c f;show RcNeAt.str_bool _ t0 _
  case int=>obtain⟨t,rfl⟩:=rD c f;show RcNeAt.str_int _ t0 _ t
  case str=>obtain⟨t,rfl⟩:=rB c f;show RcNeAt.str_str _ t0 _ t
  case tup=>obtain⟨b,it,rfl,g⟩:=tY I c f;show RcNeAt.str_tuple _ t0 g i
  case lst=>obtain⟨b,it,rfl,g⟩:=tZ I c f;show RcNeAt.str_list _ t0 g i
  all_goals (cases n<;>cases he)
 case tup ds=>
  cases n with
  | zero=>cases hd
  | succ n=>
  have F:A.in1.units+n<cLine:=by show A.units+1+n<cLine;ext
  simp only[Rep] at l;obtain⟨a,xs,rfl,q,rs⟩:=l;cases o;obtain⟨its,p,ht,_⟩:=I.tuple (fk.of q);have k:s.heap.IsTuple a its.toArray:=ht;cases e
  case non=>cases rC c f;show RcNeAt.tuple_none k i
  case bl=>cases rE c f;show RcNeAt.tuple_bool _ k i
  case int=>obtain⟨t,rfl⟩:=rD c f;show RcNeAt.tuple_int _ t k i
  case str=>obtain⟨t,rfl⟩:=rB c f;show RcNeAt.tuple_str _ t k i
  case lst m=>obtain⟨b,it,rfl,g⟩:=tZ I c f;show RcNeAt.tuple_list k g i
  case tup m=>
   simp only[Rep] at c;obtain⟨b,ys,rfl,G,z⟩:=c;cases f;obtain⟨its',r,B,_⟩:=I.tuple (fk.of G);have h:=RcNeAt.tuples (e:=λj=>eC (ds.getD j .non) (m.getD j .non)) k (show s.heap.IsTuple b its'.toArray from B) i λj J g=>by
    obtain⟨v1,a1,O,M⟩:=qz p rs J;obtain⟨v2,a2,N,L⟩:=qz r z g;show zI I n A.in1 _ _ v1 v2 _ _ (hd _ M) (he _ L) F O N a1 a2
   have w:its.toArray.size=ds.length:=by rw[aB,<-p.length,rs.length]
   have C:its'.toArray.size=m.length:=by rw[aB,<-r.length,z.length]
   rw[w,C,FW] at h;simpa only[eC] using h
  all_goals cases he
 case lst ds=>
  cases n with
  | zero=>cases hd
  | succ n=>
  have F:A.in1.units+n<cLine:=by show A.units+1+n<cLine;ext
  simp only[Rep] at l;obtain⟨a,xs,rfl,q,rs⟩:=l;cases o;obtain⟨its,p,ht,_⟩:=I.list q.sq;have k:=ht.isList;cases e
  case non=>cases rC c f;show RcNeAt.list_none k i
  case bl=>cases rE c f;show RcNeAt.list_bool _ k i
  case int=>obtain⟨t,rfl⟩:=rD c f;show RcNeAt.list_int _ t k i
  case str=>obtain⟨t,rfl⟩:=rB c f;show RcNeAt.list_str _ t k i
  case tup m=>obtain⟨b,it,rfl,g⟩:=tY I c f;show RcNeAt.list_tuple k g i
  case lst m=>
   simp only[Rep] at c;obtain⟨b,ys,rfl,G,z⟩:=c;cases f;obtain⟨its',r,B,_⟩:=I.list G.sq;have w:its.toArray.size=ds.length:=by rw[aB,<-p.length,rs.length]
   have C:its'.toArray.size=m.length:=by rw[aB,<-r.length,z.length]
   by_cases E:ds.length=m.length
   .have h:=RcNeAt.lists (e:=λj=>eC (ds.getD j .non) (m.getD j .non)) k B.isList (by rw[w,C,E]) i λj J g=>by
     obtain⟨v1,a1,O,M⟩:=qz p rs J;obtain⟨v2,a2,N,L⟩:=qz r z g;show zI I n A.in1 _ _ v1 v2 _ _ (hd _ M) (he _ L) F O N a1 a2
    rw[w,<-zT ds m E] at h;simpa only[eC] using h
   have h:=RcNeAt.lists_lengths (A:=A) k B.isList (by rw[w,C];simpa using E) i;simp only[eC,zU E];show h
  all_goals cases he
 all_goals (cases n<;>cases hd)
end
section
variable{X:Cx}
def oEq:O2:=λd e Q=>gK 9 d/\gK 9 e/\Q (.fz (.bl (eC d e)))
def uC:O2:=λd e Q=>gK 9 d/\gK 9 e/\Q (.fz (.bl (!eC d e)))
theorem gE(f:X.A.units+64<cLine):lH X (compareOp .Eq) oEq:=by
 show⟨λx y H Q=>∃d e,gK 9 d/\gK 9 e/\Rep X.K H x d/\Rep X.K H y e/\Q (.bl (eC d e)) H,λg s σ H x y v u Q I b a h=>?_,λG H x y d e Q P s b a h k=>?_⟩
 .obtain⟨d,e,hd,he,c,re,q⟩:=h;show Qv I 9 X.A d e x y v u hd he (by ext) c re b a _ _ _ _ ⟨.bl _,H,I,rfl,q⟩
 show⟨d,e,h.1,h.2.1,b.mono s,a.mono s,k _ _ _ G (.refl s) (f9 (ky _ _ _)) h.2.2⟩
theorem wA(f:X.A.units+64<cLine):lH X (compareOp .NotEq) uC:=by
 show⟨λx y H Q=>∃d e,gK 9 d/\gK 9 e/\Rep X.K H x d/\Rep X.K H y e/\Q (.bl (!eC d e)) H,λg s σ H x y v u Q I b a h=>?_,λG H x y d e Q P s b a h k=>?_⟩
 .obtain⟨d,e,hd,he,c,re,q⟩:=h;show Tw I 9 X.A d e x y v u hd he (by ext) c re b a _ _ _ _ ⟨.bl _,H,I,rfl,q⟩
 show⟨d,e,h.1,h.2.1,b.mono s,a.mono s,k _ _ _ G (.refl s) (f9 (ky _ _ _)) h.2.2⟩
noncomputable def inD(d:D)(ds:List D):Bool:=ds.any λe=>eC e d
def qZ(a:Bool):O2:=λd e Q=>match d,e with
 | .str x,.str y=>Q (.fz (.bl (if a then !(!(Builtin.Str.occurrences y x 0 y.length 1).isEmpty) else !(Builtin.Str.occurrences y x 0 y.length 1).isEmpty)))
 | d,.lst b=>gK 8 d/\(∀e∈b,gK 8 e)/\Q (.fz (.bl (if a then !inD d b else inD d b)))
 | d,.tup b=>gK 8 d/\(∀e∈b,gK 8 e)/\Q (.fz (.bl (if a then !inD d b else inD d b)))
 | _,_=>False
noncomputable def jV(X:Cx)(H:Hp)(d:D)(u:Value):Bool:=open Classical in if h:∃(v:V)(e:D),gK 8 e/\RelV v u/\Rep X.K H v e then eC h.choose_spec.choose d else false
theorem Kq{p:List (Addr×Obj)}{g:St}{H:Hp}{s:Shared}(I:Inv X p g H s){d e:D}{v:V}{u:Value}(he:gK 8 e)(c:RelV v u)(f:Rep X.K H v e):jV X H d u=eC e d:=by
 have h:∃(v:V)(e:D),gK 8 e/\RelV v u/\Rep X.K H v e:=⟨v,e,he,c,f⟩
 unfold jV;rw[dif_pos h];obtain⟨m,l,k⟩:=h.choose_spec.choose_spec;have n:h.choose=v:=RelV.inj l c;have j:∀b,b=v->∀a,gK 8 a->Rep X.K H b a->a=e:=λb i a o r=>by subst i;show CQ I 8 _ e _ o he r f
 rw[j _ n _ m k]
theorem zH{i:List (Addr×Obj)}{f:St}{H:Hp}{s:Shared}(I:Inv X i f H s){d:D}:∀{a:List D}{c:List V}{us:List Value},(∀e∈a,gK 8 e)->Vals c us->bX X.K H c a->us.any (jV X H d)=inD d a
 | [],_,_,_,b,re=>by
  cases b
  .rfl
  simp only[bX] at re
 | e::a,_,_,h,b,re=>by
  cases b with
  | nil=>simp only[bX] at re
  | cons r t=>
   simp only[bX] at re;rw[List.any_cons,Kq I (h e (by simp)) r re.1,zH I (λx g=>h x (by simp[g])) t re.2];rfl
theorem Dg{q:List (Addr×Obj)}{h:St}{H:Hp}{s:Shared}{A:Around}(I:Inv X q h H s){d:D}{x:V}{v:Value}(hd:gK 8 d)(n:A.units+8<cLine)(i:Rep X.K H x d)(m:RelV x v){c:List D}{a:List V}{b:List Value}
  (he:∀e∈c,gK 8 e) (k:Vals a b) (l:bX X.K H a c):∀u∈b.toArray,EqAt A s u v (jV X H d u):=λu p=>by
 obtain⟨j,o,e⟩:=Array.mem_iff_getElem.mp p;obtain⟨w,a1,g,f⟩:=qz k l o;rw[e] at a1;rw[Kq I (he _ f) a1 g];show zI I 8 A _ _ w x _ _ (he _ f) hd n g i a1 m
theorem Qu(k:X.A.units+64<cLine):ib X (compareOp .In) (λx y H Q=>∃p d c b,y=.ref p/\(eP X.K H p b\/fk X.K H p b)/\gK 8 d/\(∀e∈c,gK 8 e)/\Rep X.K H x d/\bX X.K H b c/\Q (.bl (inD d c)) H):=by
 intro l s σ H x y v u Q I g j h;obtain⟨p,d,c,b,rfl,a,hd,he,i,re,q⟩:=h;cases j;rcases a with a | a
 .obtain⟨its,r,f,hz⟩:=I.list a;show SeqAt.in_listAt (jV X H d) f.isList (Dg I hd (by show X.A.units+1+8<cLine;ext) i g he r re) ⟨.bl _,H,I,rfl,?_⟩;rw[show its.toArray.any (jV X H d)=its.any (jV X H d) by simp,zH I he r re];show q
 obtain⟨its,r,f,hz⟩:=I.tuple a;show SeqAt.in_tupleAt (jV X H d) f (Dg I hd (by show X.A.units+1+8<cLine;ext) i g he r re) ⟨.bl _,H,I,rfl,?_⟩;rw[show its.toArray.any (jV X H d)=its.any (jV X H d) by simp,zH I he r re];show q
theorem UY(k:X.A.units+64<cLine):ib X (compareOp .NotIn) (λx y H Q=>∃p d c b,y=.ref p/\(eP X.K H p b\/fk X.K H p b)/\gK 8 d/\(∀e∈c,gK 8 e)/\Rep X.K H x d/\bX X.K H b c/\Q (.bl (!inD d c)) H):=by
 intro l s σ H x y v u Q I g j h;obtain⟨p,d,c,b,rfl,a,hd,he,i,re,q⟩:=h;cases j;rcases a with a | a
 .obtain⟨its,r,f,hz⟩:=I.list a;show SeqAt.notIn_listAt (jV X H d) f.isList (Dg I hd (by show X.A.units+1+8<cLine;ext) i g he r re) ⟨.bl _,H,I,rfl,?_⟩;rw[show its.toArray.any (jV X H d)=its.any (jV X H d) by simp,zH I he r re];show q
 obtain⟨its,r,f,hz⟩:=I.tuple a;show SeqAt.notIn_tupleAt (jV X H d) f (Dg I hd (by show X.A.units+1+8<cLine;ext) i g he r re) ⟨.bl _,H,I,rfl,?_⟩;rw[show its.toArray.any (jV X H d)=its.any (jV X H d) by simp,zH I he r re];show q
theorem zm(i:X.A.units+64<cLine):lH X (compareOp .In) (qZ false):=by
 show⟨_,qE.or (Qu i),λG H x y d e Q P s c b h k=>?_⟩;unfold qZ at h;split at h
 .simp only[Rep] at c b;show .inl ⟨_,_,c,b,k _ _ _ G (.refl s) (f9 (ky _ _ _)) h⟩
 .simp only[Rep] at b;obtain⟨a,ys,rfl,g,f⟩:=b;show .inr ⟨a,_,_,ys,rfl,.inl ((s.fZ g).sq),h.1,h.2.1,c.mono s,f.mono s,k _ _ _ G (.refl s) (f9 (ky _ _ _)) h.2.2⟩
 .simp only[Rep] at b;obtain⟨a,ys,rfl,g,f⟩:=b;show .inr ⟨a,_,_,ys,rfl,.inr (s.nu g),h.1,h.2.1,c.mono s,f.mono s,k _ _ _ G (.refl s) (f9 (ky _ _ _)) h.2.2⟩
 show h.elim
theorem Lg(i:X.A.units+64<cLine):lH X (compareOp .NotIn) (qZ true):=by
 show⟨_,mn.or (UY i),λG H x y d e Q P s c b h k=>?_⟩;unfold qZ at h;split at h
 .simp only[Rep] at c b;show .inl ⟨_,_,c,b,k _ _ _ G (.refl s) (f9 (ky _ _ _)) h⟩
 .simp only[Rep] at b;obtain⟨a,ys,rfl,g,f⟩:=b;show .inr ⟨a,_,_,ys,rfl,.inl ((s.fZ g).sq),h.1,h.2.1,c.mono s,f.mono s,k _ _ _ G (.refl s) (f9 (ky _ _ _)) h.2.2⟩
 .simp only[Rep] at b;obtain⟨a,ys,rfl,g,f⟩:=b;show .inr ⟨a,_,_,ys,rfl,.inr (s.nu g),h.1,h.2.1,c.mono s,f.mono s,k _ _ _ G (.refl s) (f9 (ky _ _ _)) h.2.2⟩
 show h.elim
noncomputable def Cp:D->Bool
 | .non=>true
 | _=>false
def zl(a:Bool):O2:=λd e Q=>match e with
 | .non=>Q (.fz (.bl (if a then !Cp d else Cp d)))
 | _=>False
theorem Ur{K:J'}{G:Hp}{x:V}{d:D}(r:Rep K G x d):decide (x=.non)=Cp d:=by
 cases d<;>simp only[Rep] at r
 case non=>subst r;rfl
 case bl=>subst r;rfl
 case int=>subst r;rfl
 case str=>subst r;rfl
 case tup=>obtain⟨_,_,rfl,_⟩:=r;rfl
 case lst=>obtain⟨_,_,rfl,_⟩:=r;rfl
 case obj=>obtain⟨_,_,_,_,rfl,_⟩:=r;rfl
 case dic=>obtain⟨_,_,_,rfl,_⟩:=r;rfl
 case dit=>obtain⟨_,_,_,rfl,_⟩:=r;rfl
 case exc=>obtain⟨_,_,_,_,_,rfl,_⟩:=r;rfl
theorem JE:lH X (compareOp .Is) (zl false):=by
 show⟨_,QI,λG H x y d e Q P s b a h k=>?_⟩;unfold zl at h;split at h
 .simp only[Rep] at a;show⟨a,?_⟩;rw[Ur b];show k _ _ _ G (.refl s) (f9 (ky _ _ _)) h
 show h.elim
end
section
variable{X:Cx}{pos:Pos}{a b c:Expr}{ta tb tc:TD}{pa DL:iU}{lq:List Expr}
def pE(t:iU):iU:=λa Q=>t a λk=>Q (!k)
def n8(t u:iU):iU:=λa Q=>t a λk=>if k=true then u a Q else Q false
def vZ(t u:iU):iU:=λa Q=>t a λk=>if k=true then Q true else u a Q
theorem rg(h:PB X a pa):PB X (.UnaryOp .Not a pos) (pE pa):=by
 obtain⟨t,p,q⟩:=h;show⟨_,RE p,λc σ f e G H Q P E h k=>q c σ f e G H _ _ E h λb H' g x d=>k _ H' g x d⟩
def wa(X:Cx)(e:Expr)(t:iU):Prop:=∃tt,PW X e tt/\∀(a:Ev)(σ:St)(d c G H:Hp)(Q:Bool->Prop)(P:Bool->Hp->Prop),c9 X.K d c a σ G H->t a Q->
 (∀b H' f,Ext G H f H'->Q b->P b H')->tt σ H P
theorem wa.pb{e:Expr}{t:iU}(h:wa X e t):PB X e t:=let⟨tt,p,q⟩:=h;⟨tt,p.pt,q⟩
theorem um(h:PB X a pa):wa X (.BoolOp .And [a] pos) pa:=let⟨tt,p,q⟩:=h;⟨tt,Se p,q⟩
theorem yG(h:PB X a pa):wa X (.BoolOp .Or [a] pos) pa:=let⟨tt,p,q⟩:=h;⟨tt,RG p,q⟩
theorem pJ(h:PB X a pa)(h':wa X (.BoolOp .And (b::lq) pos) DL):wa X (.BoolOp .And (a::b::lq) pos) (n8 pa DL):=by
 obtain⟨t,p,q⟩:=h;obtain⟨t',l,j⟩:=h';show⟨_,RF p l,λd σ f e G H Q P E h k=>q d σ f e G H _ _ E h λb H' g x c=>?_⟩;cases b with
 | true=>rw[if_pos rfl] at c ⊢;show j d σ f e g H' Q P (E.ext x) c λn o r i m=>k n o r (x.trans i) m
 | false=>rw[if_neg aC] at c ⊢;show k false H' g x c
theorem yp(h:PB X a pa)(h':wa X (.BoolOp .Or (b::lq) pos) DL):wa X (.BoolOp .Or (a::b::lq) pos) (vZ pa DL):=by
 obtain⟨t,p,q⟩:=h;obtain⟨t',l,j⟩:=h';show⟨_,Qi p l,λd σ f e G H Q P E h k=>q d σ f e G H _ _ E h λb H' g x c=>?_⟩;cases b with
 | true=>rw[if_pos rfl] at c ⊢;show k true H' g x c
 | false=>rw[if_neg aC] at c ⊢;show j d σ f e g H' Q P (E.ext x) c λn o r i m=>k n o r (x.trans i) m
def ED(t:TD):TD:=λa Q=>t a λr=>match r with
 | .fz (.bl k)=>Q (.fz (.bl (!k)))
 | _=>False
def tE(t u:TD):TD:=λa Q=>t a λr=>match r with
 | .fz (.bl k)=>if k=true then u a Q else Q (.fz (.bl false))
 | _=>False
theorem Qt(h:PD X a ta):PD X (.UnaryOp .Not a pos) (ED ta):=by
 obtain⟨t,p,q⟩:=h;show⟨_,R3 p,λc σ g f G H Q P E h k=>q c σ g f G H _ _ E h λv H' r i x d b=>?_⟩;split at b
 .rename_i kk;have e:v=.bl kk:=by simpa only[ee,Rep] using d
  show⟨kk,e,k _ H' _ i x (f9 (ky _ _ _)) b⟩
 show b.elim
theorem yo{op}(h:PD X a ta):PD X (.BoolOp op [a] pos) ta:=let⟨t,p,q⟩:=h;⟨t,RD p,q⟩
theorem vg(h:PD X a ta)(h':PD X (.BoolOp .And (b::lq) pos) tb):PD X (.BoolOp .And (a::b::lq) pos) (tE ta tb):=by
 obtain⟨t,p,q⟩:=h;obtain⟨t',s,o⟩:=h';show⟨_,R4 p s,λd σ g f G H Q P E h k=>q d σ g f G H _ _ E h λv H' r i x m c=>?_⟩;split at c
 .rename_i kk;have e:v=.bl kk:=by simpa only[ee,Rep] using m
  show⟨kk,e,?_⟩;cases kk with
  | true=>rw[if_pos rfl] at c ⊢;show o d σ g f i H' Q P (E.ext x) c λw y n z j l u=>k w y n z (x.trans j) (l.iq x.h) u
  | false=>rw[if_neg aC] at c ⊢;show k _ H' _ i x (f9 (ky _ _ _)) c
 show c.elim
def Jh(t:iU)(ta tb:TD):TD:=λa Q=>t a λk=>if k=true then ta a Q else tb a Q
theorem Uq(h:PB X c pa)(z:PD X a ta)(d:PD X b tb):PD X (.IfExp c a b pos) (Jh pa ta tb):=by
 obtain⟨t,p,q⟩:=h;obtain⟨t1,y,v⟩:=z;obtain⟨A,w,u⟩:=d;show⟨_,TV p y w,λf σ r n G H Q P E h k=>q f σ r n G H _ _ E h λb H' s x e=>?_⟩;cases b with
 | true=>rw[if_pos rfl] at e ⊢;show v f σ r n s H' Q P (E.ext x) e λl m j o g i d=>k l m j o (x.trans g) (i.iq x.h) d
 | false=>rw[if_neg aC] at e ⊢;show u f σ r n s H' Q P (E.ext x) e λl m j o g i d=>k l m j o (x.trans g) (i.iq x.h) d
def zG(o o':O2)(ta tb tc:TD):TD:=λa Q=>ta a λb=>tb a λrb=>o b.val rb.val λr=>match r with
 | .fz (.bl k)=>if k=true then tc a λrc=>o' rb.val rc.val Q else Q (.fz (.bl false))
 | _=>False
abbrev rJ(K:J')(t:TD)(c:TE):Prop:=∀(a:Ev)(σ:St)(e d G H:Hp)(Q:R->Prop)(P:VK),c9 K e d a σ G H->t a Q->(∀v H' r b,Ext G H b H'->ee K b H' H v r->Q r->P v H')->c σ H P
theorem Uo{K:J'}{g g':Int->Int->Bool}{s r q:TE}(F:rJ K ta s)(D:rJ K tb r)(C:rJ K tc q) :
  rJ K (zG (jq λi j=>.bl (g i j)) (jq λi j=>.bl (g' i j)) ta tb tc) (Kw (qD λi j=>.bl (g i j)) (qD λi j=>.bl (g' i j)) s r q):=by
 show λe σ p n G H Q P E h k=>F e σ p n G H _ _ E h λv1 H1 V G1 y O B=>?_
 obtain⟨N,b,m,_⟩:=O.freeze y;show D e σ p n N H1 _ _ (E.ext b) B λv2 R U Z x z a=>?_
 obtain⟨v,f,c,_⟩:=z.freeze x;unfold jq at a;split at a
 .rename_i i j L u;rw[L] at m;rw[u] at c;simp only[Rep] at m c;show⟨i,j,m,c,_,rfl,?_⟩;dsimp only at a;cases t:g i j with
  | false=>
   rw[t,if_neg aC] at a;rw[if_neg aC];show k _ _ _ v (b.trans f) (f9 (ky _ _ _)) a
  | true=>
   rw[t,if_pos rfl] at a;rw[if_pos rfl];show C e σ p n v R _ _ (E.ext (b.trans f)) a λS X T Y w A d=>?_
   obtain⟨o,M,l,_⟩:=A.freeze w;rw[u] at d;split at d
   .rename_i W I e3 J;cases e3;rw[J] at l;simp only[Rep] at l;show⟨j,I,c,l,k _ _ _ o ((b.trans f).trans M) (f9 (ky _ _ _)) d⟩
   show d.elim
 show a.elim
theorem Q4{K:J'}{t:TD}{g:TE}(q:rJ K t g)(c:Ev)(a:St)(j i G H:Hp)(Q:Bool->Prop)(P:Bool->Hp->Prop)(E:c9 K j i c a G H)(h:dw t c Q)(k:∀b H' f,Ext G H f H'->Q b->P b H'):EH g a H P:=by
 show q c a j i G H _ _ E h λv H' r f l m d=>?_
 split at d
 .rename_i kk;have e:v=.bl kk:=by simpa only[ee,Rep] using m
  show⟨kk,e,k kk H' f l d⟩
 show d.elim
theorem LY{op d:CmpOp}{g g':Int->Int->Bool}(o:ib X (compareOp op) (qD λi j=>.bl (g i j)))(n:ib X (compareOp d) (qD λi j=>.bl (g' i j)))(r:PD X a ta)(q:PD X b tb)(p:PD X c tc)(hm:lastMarks [op,d] [b,c]=false:=by with_unfolding_all rfl) :
  PB X (.Compare a [op,d] [b,c] pos) (dw (zG (jq λi j=>.bl (g i j)) (jq λi j=>.bl (g' i j)) ta tb tc)):=by
 obtain⟨t1,m,h⟩:=r;obtain⟨s,l,f⟩:=q;obtain⟨t3,k,e⟩:=p;show⟨_,TM o n m l k hm,Q4 (Uo h f e)⟩
def d0:O2:=λd e Q=>match d,e with
 | .lst ds,.int i=>∃d,et ds i=some d/\Q (.fz d)
 | .tup ds,.int i=>∃d,et ds i=some d/\Q (.fz d)
 | .str z,.int i=>z.length<=sizeLine/\∃c,et z.cps.toList i=some c/\Q (.fz (.str ⟨#[c]⟩))
 | _,_=>False
theorem Lf{K:J'}{G:Hp}{xs:List V}{ds:List D}{i:Int}{d:D}(r:bX K G xs ds)(h:et ds i=some d):∃v,et xs i=some v/\Rep K G v d:=by
 unfold et at h ⊢;rw[r.length];cases e:nC ds.length i with
 | none=>rw[e] at h;cases h
 | some j=>
  rw[e] at h;simp only[Option.bind_some] at h ⊢;show r.get h
theorem eh(A:PD X a ta)(z:PD X b tb)(u:Fz b:=by intro _ _;rfl):PD X (.Subscript a b pos) (cj d0 ta tb):=by
 obtain⟨t1,t,n⟩:=A;obtain⟨B,o,m⟩:=z;show⟨_,JY QE t o u,CI (r:=NH X.K) (λG H x y d e Q P s g f h k=>?_) n m⟩;unfold d0 at h;split at h
 .simp only[Rep] at g f;obtain⟨p,xs,rfl,l,rs⟩:=g;obtain⟨d,hd,q⟩:=h;obtain⟨v,j,i⟩:=Lf rs hd;show .inl ⟨p,xs,_,v,rfl,f,(s.fZ l).sq,j,k _ _ _ G (.refl s) (f9 i) q⟩
 .simp only[Rep] at g f;obtain⟨p,xs,rfl,l,rs⟩:=g;obtain⟨d,hd,q⟩:=h;obtain⟨v,j,i⟩:=Lf rs hd;show .inr (.inl ⟨p,xs,_,v,rfl,f,s.nu l,j,k _ _ _ G (.refl s) (f9 i) q⟩)
 .simp only[Rep] at g f;obtain⟨hz,c,w,q⟩:=h;show .inr (.inr ⟨_,_,c,g,f,hz,w,k _ _ _ G (.refl s) (f9 (tM _ _ _)) q⟩)
 show h.elim
variable{e:Expr}{es:List Expr}{te:TD}{ts:ix}
def cp:ix:=λ_ Q=>Q []
def cf(te:TD)(ts:ix):ix:=λa Q=>te a λr=>ts a λds=>Q (r.val::ds)
theorem cq:md X [] cp:=⟨_,oM,λa σ c b G H Q P E h k=>k [] H [] G (.refl E.e.s) bX.nil h⟩
theorem cg(h:PD X e te)(s:md X es ts)(q:starEach (e::es) X.env=(false,eval e X.env)::starEach es X.env:=by rfl):md X (e::es) (cf te ts):=by
 obtain⟨t1,p,n⟩:=h;obtain⟨A,o,m⟩:=s;show⟨_,m9 p o q,λa σ f d G H Q P E h k=>n a σ f d G H _ _ E h λv H' r B i l t=>?_⟩;obtain⟨y,c,j,_⟩:=l.freeze i;show m a σ f d y H' _ _ (E.ext c) t λz w ds x b rs u=>?_
 show k _ w _ x (c.trans b) (bX.cons (j.mono b.g) rs) u
def kj(ts:ix):TD:=λa Q=>ts a λds=>ds.length<=sizeLine/\Q (.fz (.tup ds))
def jc(ts:ix):TD:=λa Q=>ts a λds=>ds.length<=sizeLine/\Q (.ow ds)
theorem kS{f}(h:md X es ts):PD X (.Tuple es f pos) (kj ts):=by
 obtain⟨t,p,q⟩:=h;show⟨_,Ku p,λe σ l j G H Q P E h k=>q e σ l j G H _ _ E h λa H' ds d x rs c=>⟨by rw[rs.length];show c.1,λp i=>?_⟩⟩;have b:Ext d H' (upd d p (.tup a)) (upd H' p (.tup a)):=.new x.s i;show k _ _ (.fz (.tup ds)) _ (x.trans b) ?_ c.2;show Rep X.K _ _ (.tup ds);simp only[Rep];show⟨p,a,rfl,gX,rs.mono b.g⟩
theorem jL(h:md X es ts):PD X (.List es pos) (jc ts):=by
 obtain⟨t,p,q⟩:=h;show⟨_,Kt p,λc σ f e G H Q P E h k=>q c σ f e G H _ _ E h λd H' ds g x rs b=>⟨by rw[rs.length];show b.1,λp a=>?_⟩⟩;show k _ _ (.ow ds) g (x.trans (.own x.s a)) ⟨p,d,rfl,x.h.free a,x.s.free a,gX,rs⟩ b.2
def tH(X:Cx)(f:Value)(o:List D->(R->Prop)->Prop):Prop:=∃r,dD X f r/\∀(G H:Hp)(a:List V)(ds:List D)(Q:R->Prop)(P:VK),cw G H->bX X.K G a ds->o ds Q->
 (∀v H' b c,Ext G H c H'->ee X.K c H' H v b->Q b->P v H')->r a H P
def fE(o:List D->(R->Prop)->Prop)(ts:ix):TD:=λa Q=>ts a λds=>o ds Q
theorem J8{o:List D->(R->Prop)->Prop}{r:List V->Hp->VK->Prop}{t:TA}
  (l:∀(G H:Hp)(a:List V)(ds:List D)(Q:R->Prop)(P:VK),cw G H->bX X.K G a ds->o ds Q->(∀v H' d b,Ext G H b H'->ee X.K b H' H v d->Q d->P v H')->r a H P)
  (q:∀(c:Ev)(σ:St)(f e G H:Hp)(Q:List D->Prop)(P:List V->Hp->Prop),c9 X.K f e c σ G H->ts c Q->(∀a H' ds b,Ext G H b H'->bX X.K b a ds->Q ds->P a H')->t σ H P):rJ X.K (fE o ts) (DF r t):=
 λc σ f e G H Q P E h k=>q c σ f e G H _ _ E h λa H' ds b x rs m=>l b H' a ds Q P x.s rs m λv n d p g i j=>k v n d p (x.trans g) (i.iq x.h) j
theorem gJ{id:String}{x:Str}{p:Pos}{o:List D->(R->Prop)->Prop}(f:tH X (.builtin id) o)(hm:X.mg x=none)(c:bootBuiltins x=some (.builtin id))(ha:md X (e::es) ts)(hg:Gl X x:=by rfl)(hn:x≠"__name__":=by decide)(b:(x==("__debug__":Str))=false:=by decide)
  (he:starEach (e::es) X.env=(false,eval e X.env)::starEach es X.env:=by rfl) (g:(backTo pos (starEach es X.env)).any (·.1)=false:=by rfl):PD X (.Call (.Name x p) (e::es) [] pos) (fE o ts):=by
 obtain⟨r,d,a⟩:=f;obtain⟨t,pp,q⟩:=ha;show⟨_,vm d hg hm c pp hn b he g,J8 a q⟩
theorem MM{T:String}{x:Str}{p:Pos}{o:List D->(R->Prop)->Prop}(f:tH X (.type T) o)(hm:X.mg x=none)(c:bootBuiltins x=some (.type T))(ha:md X (e::es) ts)(hg:Gl X x:=by rfl)(hn:x≠"__name__":=by decide)(b:(x==("__debug__":Str))=false:=by decide)
  (he:starEach (e::es) X.env=(false,eval e X.env)::starEach es X.env:=by rfl) (g:(backTo pos (starEach es X.env)).any (·.1)=false:=by rfl):PD X (.Call (.Name x p) (e::es) [] pos) (fE o ts):=by
 obtain⟨r,d,a⟩:=f;obtain⟨t,pp,q⟩:=ha;show⟨_,MQ d hg hm c pp hn b he g,J8 a q⟩
end
theorem qr{a:St}{i j:Nat}{x:Option V}:(a.set i x)[j]?=if i=j/\j<a.length then some x else a[j]?:=by
 by_cases h:i=j
 .subst h;by_cases b:i<a.length
  .simp[b]
  simp[b]
 simp[h]
section
variable{K:J'}{G0 H0 G H G' H':Hp}{ρ:Ev}{σ:St}
theorem c9.put{i:Nat}{v:V}{r:R}(E:c9 K G0 H0 ρ σ G H)(x:Ext G H G' H')(J:ee K G' H' H v r):c9 K G0 H0 (ρ.set i r.sl) (σ.set i (some v)) G' H':=by
 have W:=E.ext x;have w:=E.len;have y:∀j s,gt (ρ.set i r.sl) j=s->(i=j/\j<ρ.length/\s=r.sl)\/(¬(i=j/\j<ρ.length)/\gt ρ j=s):=λj s e=>by
  rw[vi] at e;by_cases h:i=j/\j<ρ.length
  .rw[if_pos h] at e;show .inl ⟨h.1,h.2,e.symm⟩
  rw[if_neg h] at e;show .inr ⟨h,e⟩
 show⟨W.e,by simp[E.len],λj d h=>?_,λj ds h=>?_,λj k ds O X a c=>?_,?_⟩
 .rcases y j _ h with⟨a,c,f⟩ | ⟨a,c⟩
  .cases r with
   | ow=>cases f
   | ov=>cases f
   | fz d'=>
    cases f;show⟨v,by rw[qr,if_pos ⟨a,by ext⟩],J⟩
  obtain⟨u,hu,ru⟩:=W.fz j d c;show⟨u,by rw[qr,if_neg (by rw[w];show a)];show hu,ru⟩
 .rcases y j _ h with⟨a,c,f⟩ | ⟨a,c⟩
  .cases r with
   | fz=>cases f
   | ov=>cases f
   | ow zb=>
    cases f;obtain⟨p,xs,rfl,a1,a2,a3,U⟩:=J;show⟨p,xs,by rw[qr,if_pos ⟨a,by ext⟩],a3,a2,E.e.h.free a1,U⟩
  obtain⟨p,xs,m,l,I,F,Y⟩:=W.ow j ds c;show⟨p,xs,by rw[qr,if_neg (by rw[w];show a)];show m,l,I,F,Y⟩
 .have old:∀{j:Nat}{ds:List D},gt ρ j=.ow ds->∀O,r=.ow O->σ[j]?≠some (some v):=λ{j ds} h O e z=>by
   subst e;obtain⟨p,xs,rfl,a1,a2,a3,U⟩:=J;obtain⟨Q,kz,m,l,I,F,Y⟩:=E.ow j ds h;rw[m] at z;cases z;rw[a1] at l;cases l
  rcases y j _ a with⟨B,N,C⟩ | ⟨B,N⟩
  .rcases y k _ c with⟨A,M,T⟩ | ⟨A,M⟩
   .exact absurd (B.symm.trans A) X
   rw[qr,if_pos ⟨B,by ext⟩,qr,if_neg (by rw[w];show A)];cases r with
   | fz=>cases C
   | ov=>cases C
   | ow P=>show λz=>old M P rfl z.symm
  rcases y k _ c with⟨A,M,T⟩ | ⟨A,M⟩
  .rw[qr,if_neg (by rw[w];show B),qr,if_pos ⟨A,by ext⟩];cases r with
   | fz=>cases T
   | ov=>cases T
   | ow P=>show old N P rfl
  rw[qr,if_neg (by rw[w];show B),qr,if_neg (by rw[w];show A)];show E.dj j k ds O X N M
 obtain⟨own,o1,o2⟩:=E.on;have Z:∀j,¬(i=j/\j<ρ.length)->(σ.set i (some v))[j]?=σ[j]?:=λj h=>by rw[qr,if_neg (by rw[w];show h)]
 have gen:∀L:List Addr,(∀q∈L,H q=none)->(∀j ds p,i=j->j<ρ.length->r.sl=.ow ds->v=.ref p->p∈L)->
   (∀j o,i=j->j<ρ.length->r.sl=.ov o->∃p fp,v=.ref p/\(p::fp).Nodup/\jW K G' H' p fp o/\∀q∈p::fp,G' q=none/\q∈L)->
   ∃own:Addr->Option Nat,(∀j ds p,gt (ρ.set i r.sl) j=.ow ds->(σ.set i (some v))[j]?=some (some (.ref p))->own p=some j)/\∀j o,gt (ρ.set i r.sl) j=.ov o->∃p fp,(σ.set i (some v))[j]?=some (some (.ref p))/\(p::fp).Nodup/\jW K G' H' p fp o/\∀q∈p::fp,G' q=none/\H0 q=none/\own q=some j:=by
  intro L S hw ho;show⟨λq=>if q∈L then some i else own q,λj ds p h t=>?_,λj o h=>?_⟩
  .rcases y j _ h with⟨a,c,f⟩ | ⟨a,c⟩
   .rw[qr,if_pos ⟨a,by ext⟩] at t;have hv:v=.ref p:=by injection t with t;injection t
    dsimp only;rw[if_pos (hw j ds p a c f.symm hv),a]
   rw[Z j a] at t;obtain⟨Q,kz,m,l,_⟩:=E.ow j ds c;have e7:p∉L:=λz=>by
    rw[t] at m;cases m;rw[S p z] at l;cases l
   dsimp only;rw[if_neg e7];show o1 j ds p c t
  rcases y j _ h with⟨a,c,f⟩ | ⟨a,c⟩
  .obtain⟨p,fp,rfl,B,N,C⟩:=ho j o a c f.symm;show⟨p,fp,by rw[qr,if_pos ⟨a,by ext⟩],B,N,λq b=>⟨(C q b).1,E.e.h.free (S q (C q b).2),?_⟩⟩;dsimp only;rw[if_pos (C q b).2,a]
  obtain⟨p,fp,m,l,I,F⟩:=o2 j o c;show⟨p,fp,by rw[Z j a];show m,l,I.mono x.g λq _ u e=>x.h q u e,λq b=>⟨x.n q (F q b).1 (I.here q b),(F q b).2.1,?_⟩⟩;dsimp only;rw[if_neg (λz=>I.here q b (S q z))];show(F q b).2.2
 cases r with
 | fz d=>show gen [] (λq b=>by cases b) (λj ds p _ _ e=>by cases e) (λj o _ _ e=>by cases e)
 | ow zb=>
  obtain⟨p,xs,rfl,a1,a2,a3,U⟩:=J;show gen [p] (λq b=>?_) (λj ds Q _ _ e e2=>?_) (λj o _ _ e=>by cases e)
  .simp only[aK] at b;subst b;show a1
  cases e2;simp
 | ov o'=>
  obtain⟨p,fp,rfl,a1,a2,a3⟩:=J;show gen (p::fp) (λq b=>(a3 q b).1) (λj ds Q _ _ e=>by cases e) (λj o _ _ e=>?_);cases e;show⟨p,fp,rfl,a1,a2,λq b=>⟨(a3 q b).2,b⟩⟩
noncomputable def lF(i:Nat)(ρ:Ev):Ev:=match gt ρ i with
 | .ow ds=>ρ.set i (.fz (.lst ds))
 | .ov o=>ρ.set i (.fz o.val)
 | _=>ρ
theorem yg{ρ:Ev}{i:Nat}{s:Sl}(h:gt ρ i=s)(c:s≠.un):i<ρ.length:=by
 induction ρ generalizing i with
 | nil=>simp[gt] at h;show absurd h.symm c
 | cons a r b=>
  cases i with
  | zero=>simp
  | succ i=>simp only[gt] at h;have:=b h;simp;ext
theorem cC.NU{K:J'}{G H:Hp}:∀{b:List Addr}{c:List (List D)},cC K G H b c->∀q∈b,∃zs,H q=some (.lst zs)
 | [],[],_,q,a=>by cases a
 | p::b,ds::c,h,q,a=>by
  simp only[cC] at h;rcases az.mp a with rfl | a
  .exact⟨_,h.1.choose_spec.1⟩
  show cC.NU h.2 q a
 | [],_::_,h,_,_=>by simp only[cC] at h
 | _::_,[],h,_,_=>by simp only[cC] at h
theorem c9.sQ(i:Nat)(E:c9 K G0 H0 ρ σ G H):∃L:List Addr,(∀q∈L,G q=none)/\c9 K G0 H0 (lF i ρ) σ (qm G H L) H/\(((∀o,gt ρ i=.ov o->(∃kvs,o=.dc kvs)\/∃Y,o=.ll Y)->∀q∈L,H q≠none/\∀xs,¬Rd H q (.tup xs)))/\∀o p,gt ρ i=.ov o->σ[i]?=some (some (.ref p))->p∈L:=by
 unfold lF;split
 .rename_i ds hg;obtain⟨p,xs,J,O,A,I,y⟩:=E.ow i ds hg;have W:i<ρ.length:=yg hg (by simp);have w:cw G (upd G p (.lst xs)):=vj A;have r:∀j s,gt (ρ.set i (.fz (.lst ds))) j=s->(i=j/\s=.fz (.lst ds))\/(i≠j/\gt ρ j=s):=λj s e=>by
   rw[vi] at e;by_cases h:i=j
   .subst h;rw[if_pos ⟨rfl,W⟩] at e;show .inl ⟨rfl,e.symm⟩
   rw[if_neg (λz=>h z.1)] at e;show .inr ⟨h,e⟩
  have Q:qm G H [p]=upd G p (.lst xs):=by
   funext a
   by_cases ha:a=p
   .subst ha;rw[gX,tN (by simp)];show O
   rw[dy ha,rS (by simpa using ha)]
  show⟨[p],λq f=>?_,?_,λ_ q f=>by
   simp only[aK] at f;rw[f]
   show⟨(by rw[O];show nofun),λF e=>by rcases e with e | ⟨_,e⟩<;>(rw[O] at e;cases e)⟩,λo p z=>by rw[hg] at z;cases z⟩
  .simp only[aK] at f;subst f;show A
  rw[Q];show⟨⟨E.e.g.trans w,E.e.h,λb o e=>?_,λq T M=>?_⟩,by simp[E.len],λj d h=>?_,λj t h=>?_,λj k t fs U a1 a2=>?_,?_⟩
  .by_cases hb:b=p
   .subst hb;rw[gX] at e;rw[O];show e
   rw[dy hb] at e;show E.e.s b o e
  .rw[dy (λz=>M (by rw[z];show I))];show E.e.n q T M
  .rcases r j _ h with⟨e,c⟩ | ⟨e,c⟩
   .subst e;cases c;show⟨_,J,by simp only[Rep];show⟨p,xs,rfl,kP.of gX,y.mono w⟩⟩
   obtain⟨u,S,R⟩:=E.fz j d c;show⟨u,S,R.mono w⟩
  .rcases r j _ h with⟨e,c⟩ | ⟨e,c⟩
   .cases c
   obtain⟨l,F,x,D,C,v,X⟩:=E.ow j t c;have e7:l≠p:=λz=>by
    subst z;show E.dj i j ds t e hg c (by rw[J,x])
   show⟨l,F,x,D,by rw[dy e7];show C,v,X.mono w⟩
  .rcases r j _ a1 with⟨_,c⟩ | ⟨e,c⟩
   .cases c
   rcases r k _ a2 with⟨_,B⟩ | ⟨e3,B⟩
   .cases B
   show E.dj j k t fs U c B
  obtain⟨own,N,P⟩:=E.on;show⟨own,λj t l h V=>?_,λj o h=>?_⟩
  .rcases r j _ h with⟨_,c⟩ | ⟨_,c⟩
   .cases c
   show N j t l c V
  rcases r j _ h with⟨_,c⟩ | ⟨e,c⟩
  .cases c
  obtain⟨l,fp,x,D,C,v⟩:=P j o c;show⟨l,fp,x,D,C.mono w λq _ u e=>e,λq f=>⟨?_,(v q f).2⟩⟩;rw[dy λz=>?_]
  .exact(v q f).1
  have m:=(v q f).2.2;rw[z,N i ds p hg J] at m;injection m with m
  show e m
 .rename_i o hg;obtain⟨own,N,P⟩:=E.on;obtain⟨p,fp,J,O,A,I⟩:=P i o hg;have W:i<ρ.length:=yg hg (by simp);have hn:∀q∈p::fp,G q=none:=λq f=>(I q f).1
  have w:cw G (qm G H (p::fp)):=zY hn;have r:∀j s,gt (ρ.set i (.fz o.val)) j=s->(i=j/\s=.fz o.val)\/(i≠j/\gt ρ j=s):=λj s e=>by
   rw[vi] at e;by_cases h:i=j
   .subst h;rw[if_pos ⟨rfl,W⟩] at e;show .inl ⟨rfl,e.symm⟩
   rw[if_neg (λz=>h z.1)] at e;show .inr ⟨h,e⟩
  suffices Bf:c9 K G0 H0 (ρ.set i (.fz o.val)) σ (qm G H (p::fp)) H from⟨p::fp,hn,Bf,λhd q f=>by
   rcases hd o hg with⟨kvs,rfl⟩ | ⟨Y,rfl⟩
   .obtain⟨rfl,ks,Q,y,_⟩:=A;simp only[aK] at f;rw[f];show⟨(by rw[y];show nofun),λF e=>by rcases e with e | ⟨_,e⟩<;>(rw[y] at e;cases e)⟩
   .obtain⟨zs,y⟩:∃zs,H q=some (.lst zs):=by
     rcases az.mp f with rfl | f
     .exact⟨_,A.1⟩
     show cC.NU A.2 q f
    show⟨(by rw[y];show nofun),λF e=>by rcases e with e | ⟨_,e⟩<;>(rw[y] at e;cases e)⟩,λo' l _ e=>by rw[J] at e;cases e;simp⟩
  show⟨⟨E.e.g.trans w,E.e.h,λb u e=>?_,λq T M=>?_⟩,by simp[E.len],λj d h=>?_,λj t h=>?_,λj k t fs U a1 a2=>?_,own,λj t l h V=>?_,λj o' h=>?_⟩
  .by_cases hb:b∈p::fp
   .rw[tN hb] at e;show e
   rw[rS hb] at e;show E.e.s b u e
  .rw[rS (λz=>M (I q z).2.1)];show E.e.n q T M
  .rcases r j _ h with⟨e,c⟩ | ⟨e,c⟩
   .subst e;cases c;show⟨_,J,A.freeze hn⟩
   obtain⟨u,S,R⟩:=E.fz j d c;show⟨u,S,R.mono w⟩
  .rcases r j _ h with⟨e,c⟩ | ⟨e,c⟩
   .cases c
   obtain⟨l,F,x,D,C,v,X⟩:=E.ow j t c;show⟨l,F,x,D,?_,v,X.mono w⟩;rw[rS λz=>?_]
   .exact C
   have m:=(I l z).2.2;rw[N j t l c x] at m;injection m with m
   show e m.symm
  .rcases r j _ a1 with⟨_,c⟩ | ⟨e,c⟩
   .cases c
   rcases r k _ a2 with⟨_,B⟩ | ⟨e3,B⟩
   .cases B
   show E.dj j k t fs U c B
  .rcases r j _ h with⟨_,c⟩ | ⟨_,c⟩
   .cases c
   show N j t l c V
  rcases r j _ h with⟨_,c⟩ | ⟨e,c⟩
  .cases c
  obtain⟨l,lP,x,D,C,v⟩:=P j o' c;show⟨l,lP,x,D,C.mono w λq _ u e=>e,λq f=>⟨?_,(v q f).2⟩⟩;rw[rS λz=>?_]
  .exact(v q f).1
  have m:=(v q f).2.2;rw[(I q z).2.2] at m;injection m with m
  show e m
 rename_i Z YR;have Q:qm G H []=G:=by funext a;show rS (by simp)
 show⟨[],λq f=>(by cases f),by rw[Q];show E,λ_ q f=>(by cases f),λo p z=>(YR o z).elim⟩
theorem c9.qf(i:Nat)(E:c9 K G0 H0 ρ σ G H):∃L:List Addr,(∀q∈L,G q=none)/\c9 K G0 H0 (lF i ρ) σ (qm G H L) H/\((∀o,gt ρ i=.ov o->(∃kvs,o=.dc kvs)\/∃d,o=.ll d)->∀q∈L,H q≠none/\∀xs,¬Rd H q (.tup xs)):=
 let⟨L,a,b,c,_⟩:=E.sQ i
 ⟨L,a,b,c⟩
theorem c9.freeze(i:Nat)(E:c9 K G0 H0 ρ σ G H):∃G',c9 K G0 H0 (lF i ρ) σ G' H/\cw G G':=
 let⟨L,a,b,_⟩:=E.qf i
 ⟨_,b,zY a⟩
theorem c9.change{i:Nat}{ds r:List D}{p:Addr}{w:List V}(E:c9 K G0 H0 ρ σ G H)(hg:gt ρ i=.ow ds)(x:σ[i]?=some (some (.ref p)))(P:bX K G w r) :
  c9 K G0 H0 (ρ.set i (.ow r)) σ G (upd H p (.lst w)):=by
 obtain⟨c,N,M,Y,L,J,X⟩:=E.ow i ds hg;rw[x] at M;cases M;have S:i<ρ.length:=yg hg (by simp);have f:∀j s,gt (ρ.set i (.ow r)) j=s->(i=j/\s=.ow r)\/(i≠j/\gt ρ j=s):=λj s e=>by
  rw[vi] at e;by_cases h:i=j
  .subst h;rw[if_pos ⟨rfl,S⟩] at e;show .inl ⟨rfl,e.symm⟩
  rw[if_neg (λz=>h z.1)] at e;show .inr ⟨h,e⟩
 have R:cw G (upd H p (.lst w)):=λb o e=>by rw[dy (lC e L)];show E.e.s b o e
 show⟨⟨E.e.g,λb o e=>by rw[dy (lC e J)];show E.e.h b o e,R,E.e.n⟩,by simp[E.len],λj d h=>?_,λj l h=>?_,λj k l fs v a1 a2=>?_,?_⟩
 .rcases f j _ h with⟨_,a⟩ | ⟨e,a⟩
  .cases a
  show E.fz j d a
 .rcases f j _ h with⟨e,a⟩ | ⟨e,a⟩
  .subst e;cases a;show⟨p,w,x,gX,L,J,P⟩
  obtain⟨c,W,A,F,C,y,U⟩:=E.ow j l a;have T:c≠p:=λz=>by
   subst z;show E.dj i j ds l e hg a (by rw[x,A])
  show⟨c,W,A,by rw[dy T];show F,C,y,U⟩
 .rcases f j _ a1 with⟨e,a⟩ | ⟨e,a⟩
  .subst e;rcases f k _ a2 with⟨e3,m⟩ | ⟨e3,m⟩
   .exact absurd e3 v
   show E.dj i k ds fs v hg m
  rcases f k _ a2 with⟨e3,m⟩ | ⟨e3,m⟩
  .subst e3;show E.dj j i l ds v a hg
  show E.dj j k l fs v a m
 obtain⟨own,B,O⟩:=E.on;show⟨own,λj l c h I=>?_,λj o h=>?_⟩
 .rcases f j _ h with⟨e,a⟩ | ⟨_,a⟩
  .subst e;show B i ds c hg I
  show B j l c a I
 rcases f j _ h with⟨_,a⟩ | ⟨e,a⟩
 .cases a
 obtain⟨c,fp,A,F,C,y⟩:=O j o a;show⟨c,fp,A,F,C.mono (cw.refl _) λq Q u e3=>?_,y⟩;rw[dy λz=>?_]
 .exact e3
 have t:=(y q Q).2.2;rw[z,B i ds p hg x] at t;injection t with t
 show e t
theorem c9.jy{i:Nat}{o o':OV}{p:Addr}(E:c9 K G0 H0 ρ σ G H)(hg:gt ρ i=.ov o)(Q:σ[i]?=some (some (.ref p)))
  (U:∀fp,(p::fp).Nodup->jW K G H p fp o->∃x,(p::x).Nodup/\jW K G H' p x o'/\(∀q∈p::x,q∈p::fp\/H q=none)/\∀b,b∉p::fp->H b≠none->H' b=H b) :
  c9 K G0 H0 (ρ.set i (.ov o')) σ G H':=by
 obtain⟨own,N,M⟩:=E.on;obtain⟨l,fp,R,b2,b3,v⟩:=M i o hg;rw[Q] at R;cases R;obtain⟨x,Z,Y,J,I⟩:=U fp b2 b3;have W:i<ρ.length:=yg hg (by simp);have y:∀j s,gt (ρ.set i (.ov o')) j=s->(i=j/\s=.ov o')\/(i≠j/\gt ρ j=s):=λj s e=>by
  rw[vi] at e;by_cases h:i=j
  .subst h;rw[if_pos ⟨rfl,W⟩] at e;show .inl ⟨rfl,e.symm⟩
  rw[if_neg (λz=>h z.1)] at e;show .inr ⟨h,e⟩
 have P:∀(F:Hp),(∀q∈p::fp,F q=none)->cw F H->cw F H':=λF V s b u e=>by
  have hb:b∉p::fp:=λz=>by rw[V b z] at e;cases e
  rw[I b hb (by rw[s b u e];show nofun)];show s b u e
 show⟨⟨E.e.g,P H0 (λq c=>(v q c).2.1) E.e.h,P G (λq c=>(v q c).1) E.e.s,E.e.n⟩,by simp[E.len],λj d h=>?_,λj m h=>?_,λj k m fs T a1 a2=>?_,λq=>if q∈p::x then some i else own q,λj m l h O=>?_,λj YQ h=>?_⟩
 .rcases y j _ h with⟨_,a⟩ | ⟨e,a⟩
  .cases a
  show E.fz j d a
 .rcases y j _ h with⟨_,a⟩ | ⟨e,a⟩
  .cases a
  obtain⟨l,xs,t,r,B,A,X⟩:=E.ow j m a;show⟨l,xs,t,?_,B,A,X⟩;rw[I l (λz=>?_) (by rw[r];show nofun)]
  .exact r
  have f:=(v l z).2.2;rw[N j m l a t] at f;injection f with f
  show e f.symm
 .rcases y j _ a1 with⟨_,a⟩ | ⟨e,a⟩
  .cases a
  rcases y k _ a2 with⟨_,D⟩ | ⟨e3,D⟩
  .cases D
  show E.dj j k m fs T a D
 .rcases y j _ h with⟨_,a⟩ | ⟨e,a⟩
  .cases a
  have w:=N j m l a O;obtain⟨C,xs,t,r,_⟩:=E.ow j m a;rw[O] at t;cases t;dsimp only;rw[if_neg λz=>?_]
  .exact w
  rcases J l z with z | z
  .have f:=(v l z).2.2;rw[w] at f;injection f with f
   show e f.symm
  rw[z] at r;cases r
 rcases y j _ h with⟨e,a⟩ | ⟨e,a⟩
 .subst e;cases a;show⟨p,x,Q,Z,Y,λq c=>?_⟩;dsimp only;rw[if_pos c];rcases J q c with z | z
  .exact⟨(v q z).1,(v q z).2.1,rfl⟩
  show⟨E.e.s.free z,E.e.h.free z,rfl⟩
 obtain⟨C,S,t,r,B,A⟩:=M j YQ a;have L:∀q∈C::S,q∉p::fp:=λq c z=>by
  have f:=(v q z).2.2;rw[(A q c).2.2] at f;injection f with f
  show e f.symm
 show⟨C,S,t,r,B.mono (cw.refl _) λq c u e3=>?_,λq c=>⟨(A q c).1,(A q c).2.1,?_⟩⟩
 .rw[I q (L q c) (by rw[e3];show nofun)];show e3
 dsimp only;rw[if_neg λz=>?_]
 .exact(A q c).2.2
 rcases J q z with z | z
 .exact L q c z
 show B.here q c z
theorem c9.weak{ρ':Ev}(E:c9 K G0 H0 ρ σ G H)(f:ρ'.length=ρ.length)(w:∀i,gt ρ' i=.un\/gt ρ' i=gt ρ i):c9 K G0 H0 ρ' σ G H:=by
 have g:∀i s,gt ρ' i=s->s≠.un->gt ρ i=s:=λi s e n=>by
  rcases w i with h | h
  .exact absurd (e.symm.trans h) n
  rw[<-h];show e
 show⟨E.e,by rw[f];show E.len,λi d h=>E.fz i d (g i _ h (by simp)),λi d h=>E.ow i d (g i _ h (by simp)),λi j ds m a l k=>E.dj i j ds m a (g i _ l (by simp)) (g j _ k (by simp)),let⟨own,c,b⟩:=E.on;⟨own,λi ds p h=>c i ds p (g i _ h (by simp)),λi o h=>b i o (g i _ h (by simp))⟩⟩
end
section
variable{X:Cx}{pos:Pos}{e:Expr}{te:TD}
def cL(t u:TX):TX:=λD a=>t { D with nx:=u D } a
def gj:TX:=λD a=>D.nx a
theorem gH:oC X [] gj:=⟨_,Sb,λa σ c b G H D E k h g=>g.nx a σ G H (cw.refl _) k h⟩
theorem cQ{st:Stmt}{a:List Stmt}{t u:TX}(o:PX X st t)(n:oC X a u):oC X (st::a) (cL t u):=by
 obtain⟨t1,l,i⟩:=o;obtain⟨r,j,f⟩:=n;show⟨_,F1 l j,λd σ c b G H D E k h g=>i d σ c b G H _ _ k h ⟨λρ' p q H' e m h'=>f ρ' p c b q H' D E m h' (g.shift e),g.rt,g.bk,g.ct⟩⟩
theorem cR{st:Stmt}{t:TX}(c:PX X st t):oC X [st] t:=by
 obtain⟨t1,b,a⟩:=c;show⟨_,CV b,a⟩
theorem yD(i:Nat){b:List Stmt}{t:TX}(h:oC X b t):oC X b (λD a=>t D (lF i a)):=by
 obtain⟨t1,e,d⟩:=h;show⟨_,e,λa σ l j G H D E k h g=>?_⟩;obtain⟨m,f,c⟩:=k.freeze i;show d _ σ l j m H D E f h (g.shift c)
def eu(te:TD):TX:=λD a=>te a D.rt
theorem eK(h:PD X e te):PX X (.Return (some e) pos) (eu te):=by
 obtain⟨t,p,q⟩:=h;show⟨_,Fv p,λa σ f d G H D E k h g=>q a σ f d G H _ _ k h λv H' r i x b c=>g.rt v H' r i (k.e.trans x) (b.iq k.e.h) c⟩
def yf(i:Nat):TX:=λD a=>match gt a i with
 | .ow ds=>D.rt (.ow ds)
 | _=>False
theorem Fx(i:Nat){x:Str}{a:Pos}(d:X.N[i]?=some x:=by rfl)(c:nR X.env.scope x:=by first | show Or.inl rfl | show Or.inr (Or.inl rfl) | show Or.inr (Or.inr rfl))(hd:(x==("__debug__":Str))=false:=by decide)
  (b:(x==("__classdict__":Str))=false:=by decide):PX X (.Return (some (.Name x a)) pos) (yf i):=by
 show⟨_,Fv (rh d c hd b),λo σ r q G H D E k h g=>?_⟩;unfold yf at h;split at h
 .rename_i ds hg;obtain⟨p,xs,n,m,l,j,f⟩:=k.ow i ds hg;show⟨_,n,g.rt _ H (.ow ds) G k.e ⟨p,xs,rfl,j,l,m,f⟩ h⟩
 show h.elim
def fR(c:iU)(t u:TX):TX:=λD a=>c a λb=>if b=true then t D a else u D a
theorem gI{c:Expr}{a b:List Stmt}{tc:iU}{t u:TX}(r:PB X c tc)(ha:oC X a t)(hb:oC X b u):PX X (.If c a b pos) (fR tc t u):=by
 obtain⟨t0,q,n⟩:=r;obtain⟨t1,p,m⟩:=ha;obtain⟨s,o,l⟩:=hb;show⟨_,EL q p o,λe σ i f G H D E k h g=>n e σ i f G H _ _ k h λb H' j x d=>?_⟩;cases b with
 | true=>rw[if_pos rfl] at d ⊢;show m e σ i f j H' D E (k.ext x) d (g.shift x.g)
 | false=>rw[if_neg aC] at d ⊢;show l e σ i f j H' D E (k.ext x) d (g.shift x.g)
def mT(i:Nat)(te:TD):TX:=λD a=>te a λr=>D.nx (a.set i r.sl)
theorem pI(i:Nat){x:Str}{a:Pos}(he:PD X e te)(n:X.N.Nodup:=by assumption)(l:X.N[i]?=some x:=by rfl)(d:Loc X.env.scope x:=by first | show Or.inl rfl | show Or.inr rfl)(f:swapsWith e (some (.Name x a)) pos.line X.env=pure false:=by rfl)(m:X.fn x=true\/X.env.scope.names.lookup x=some .local:=by first | show .inl rfl | show .inr rfl | assumption) :
  PX X (.Assign [.Name x a] e pos) (mT i te):=by
 obtain⟨t,p,q⟩:=he;show⟨_,CJ n l d p f m,λb σ s o G H D E k h g=>q b σ s o G H _ _ k h λv H' r u x c j=>g.nx _ _ u H' x.g (k.put x c) j⟩
def fg(i:Nat)(te:TD):TX:=λD a=>te a λr=>D.nx (a.set i (.fz r.val))
theorem gd(i:Nat){x:Str}{a:Pos}(he:PD X e te)(s:X.N.Nodup:=by assumption)(n:X.N[i]?=some x:=by rfl)(j:Loc X.env.scope x:=by first | show Or.inl rfl | show Or.inr rfl)(l:swapsWith e (some (.Name x a)) pos.line X.env=pure false:=by rfl)(o:X.fn x=true\/X.env.scope.names.lookup x=some .local:=by first | show .inl rfl | show .inr rfl | assumption) :
  PX X (.Assign [.Name x a] e pos) (fg i te):=by
 obtain⟨t,p,q⟩:=he;show⟨_,CJ s n j p l o,λc σ y u G H D E k h g=>q c σ y u G H _ _ k h λv H' r z x f m=>?_⟩;obtain⟨w,b,d,_⟩:=f.freeze x;show g.nx _ _ w H' b.g (k.put b (r:=.fz r.val) d) m
def uf(i:Nat)(te:TD):TX:=λD a=>match gt a i with
 | .ow ds=>te a λr=>ds.length<sizeLine/\D.nx (a.set i (.ow (ds++[r.val])))
 | _=>False
theorem yn(i:Nat){x:Str}{l m b:Pos}(he:PD X e te)(B:X.N[i]?=some x:=by rfl)(A:nR X.env.scope x:=by first | show Or.inl rfl | show Or.inr (Or.inl rfl) | show Or.inr (Or.inr rfl))(hd:(x==("__debug__":Str))=false:=by decide)
  (z:(x==("__classdict__":Str))=false:=by decide) (C:starEach [e] X.env=(false,eval e X.env)::starEach [] X.env:=by rfl)
  (hb:∀{j:TE}{t:TA},PE X (.Name x l) j->PA X [e] t->PE X (.Call (.Attribute (.Name x l) "append" m) [e] [] b) (Ax X.K "list" CT j t):=by intro j t f d;show zA PySem.F.plainAttrs_list PySem.F.slot_list_append PySem.F.type_list_append Gg f d) :
  PX X (.Expr (.Call (.Attribute (.Name x l) "append" m) [e] [] b) pos) (uf i te):=by
 obtain⟨t,p,q⟩:=he;show⟨_,CU (hb (rh B A hd z) (m9 p oM C)),λs σ L I G H D E k h g=>?_⟩;unfold uf at h;split at h
 .rename_i ds hg;obtain⟨a,xs,f,d,O,M,o⟩:=k.ow i ds hg;show⟨_,f,.inl ⟨rfl,xs,eP.of d⟩,?_⟩;show q s σ L I G H _ _ k h λv H' r P u y n=>?_
  obtain⟨J,c,w,_⟩:=y.freeze u;have k2:=k.ext c;show⟨a,xs,v,rfl,rfl,c.h _ _ d,by rw[o.length];show n.1,?_⟩;show g.nx _ _ J _ c.g (k2.change hg f ((o.mono c.g).append (bX.cons w bX.nil))) n.2
 show h.elim
end
section
variable{X:Cx}{pos:Pos}{tg:Expr}
noncomputable abbrev jI:=D->Ev->(Ev->Prop)->Prop
noncomputable abbrev qY:=List D->Ev->(Ev->Prop)->Prop
def uT(X:Cx)(tg:Expr)(g:jI):Prop:=∃b,PG X tg b/\∀(a:Ev)(σ:St)(f e G H:Hp)(d:D)(v:V)(Q:Ev->Prop)(P:St->Hp->Prop),c9 X.K f e a σ G H->Rep X.K G v d->g d a Q->
 (∀ρ' c h H',c9 X.K f e ρ' c h H'->Ext G H h H'->Q ρ'->P c H')->b v σ H P
def B8(X:Cx)(i:List Expr)(g:qY):Prop:=∃c,BY X i c/\∀(a:Ev)(σ:St)(f e G H:Hp)(ds:List D)(b:List V)(Q:Ev->Prop)(P:St->Hp->Prop),c9 X.K f e a σ G H->bX X.K G b ds->g ds a Q->
 (∀ρ' d h H',c9 X.K f e ρ' d h H'->Ext G H h H'->Q ρ'->P d H')->c b σ H P
def dh(i:Nat):jI:=λd a Q=>Q (a.set i (.fz d))
theorem dB(i:Nat){x:Str}(f:X.N.Nodup:=by assumption)(b:X.N[i]?=some x:=by rfl)(a:Loc X.env.scope x:=by first | show Or.inl rfl | show Or.inr rfl)(c:X.fn x=true\/X.env.scope.names.lookup x=some .local:=by first | show .inl rfl | show .inr rfl | assumption):uT X (.Name x pos) (dh i):=
 ⟨_,Sa f b a c,λg σ l j G H d v Q P E r h k=>k _ _ G H (E.put (.refl E.e.s) (r:=.fz d) r) (.refl E.e.s) h⟩
noncomputable def jG:qY:=λds a Q=>match ds with
 | []=>Q a
 | _=>False
noncomputable def fm(t:jI)(u:qY):qY:=λds a Q=>match ds with
 | d::r=>t d a λρ'=>u r ρ' Q
 | []=>False
theorem mZ:B8 X [] jG:=by
 show⟨_,R9,λb σ d c G H ds a Q P E r h k=>?_⟩;unfold jG at h;split at h
 .cases a with
  | nil=>show⟨rfl,k _ _ G H E (.refl E.e.s) h⟩
  | cons=>simp only[bX] at r
 show h.elim
theorem hX{e:Expr}{b:List Expr}{t:jI}{u:qY}(y:uT X e t)(w:B8 X b u)(q:(assignEach (e::b) X.env).map (·.2)=assign e X.env::(assignEach b X.env).map (·.2):=by rfl):B8 X (e::b) (fm t u):=by
 obtain⟨t1,n,l⟩:=y;obtain⟨J,m,j⟩:=w;show⟨_,TU n m q,λf σ d c G H ds a Q P E r h k=>?_⟩;unfold fm at h;split at h
 .cases a with
  | nil=>simp only[bX] at r
  | cons v a=>
   simp only[bX] at r;show⟨v,a,rfl,l f σ d c G H _ v _ _ E r.1 h λρ' A D H' I x s=>?_⟩;show j ρ' A d c D H' _ a Q P I (r.2.mono x.g) s λz o C B F i p=>k z o C B F (x.trans i) p
 show h.elim
def kg(n:Nat)(t:qY):jI:=λd a Q=>match d with
 | .tup ds=>ds.length=n/\t ds a Q
 | _=>False
theorem mW{b:List Expr}{k:Nat}{t:qY}{n:Nat}(j:X.calm=true)(h:B8 X b t)(hn:(assignEach b X.env).length=n:=by rfl)(l:(assignEach b X.env).findIdx? (·.1)=none:=by rfl):uT X (.Tuple b k pos) (kg n t):=by
 obtain⟨t1,g,f⟩:=h;show⟨_,R1 j g hn l,λc σ o m G H d v Q P E r h k=>?_⟩;unfold kg at h;split at h
 .simp only[Rep] at r;obtain⟨a,xs,rfl,i,rs⟩:=r;show⟨a,xs,rfl,E.e.s.nu i,by rw[rs.length];show h.1,f c σ o m G H _ xs Q P E rs h.2 k⟩
 show h.elim
def pD(K:J')(J:It)(G:Hp)(ds:List D):Prop:=
 (∀i d a H',ds[i]?=some d->cw G a->cw a H'->J.go i H'/\∀v b,J.Dz i H' v b->∃c,Ext a H' c b/\Rep K c v d)/\∀a H',cw G a->cw a H'->J.stop ds.length H'
noncomputable abbrev kd:=Ev->(List D->Prop)->Prop
def PId(X:Cx)(tg a:Expr)(d:kd):Prop:=∃ww,PI X tg a ww/\∀(b:Ev)(σ:St)(f e G H:Hp)(Q:List D->Prop)(P:It->Hp->Prop),c9 X.K f e b σ G H->d b Q->
 (∀J H' ds c,Ext G H c H'->pD X.K J c ds->Q ds->P J H')->ww σ H P
def Cv(d:D)(Q:List D->Prop):Prop:=match d with
 | .lst ds=>Q ds
 | .tup ds=>Q ds
 | .str z=>Q (z.cps.toList.map λc=>.str ⟨#[c]⟩)
 | _=>False
def jZ(te:TD):kd:=λa Q=>te a λr=>Cv r.val Q
theorem UX{K:J'}{G:Hp}{a:Addr}{xs:List V}{ds:List D}(h:kP K G a xs)(r:bX K G xs ds):pD K (Js K a) G ds:=by
 show⟨λi d f H' hd s1 s2=>?_,λf H' s1 s2=>⟨xs,(s2.fZ (s1.fZ h)).sq,by rw[r.length];show aD _⟩⟩;obtain⟨v,b,g⟩:=r.get hd;have c:eP K H' a xs:=(s2.fZ (s1.fZ h)).sq;show⟨⟨xs,v,c,b⟩,λu k j=>?_⟩;obtain⟨e,y⟩:=j;subst e;have:=y xs c;rw[b] at this;cases this;show⟨f,.refl s2,g.mono s1⟩
theorem Um{K:J'}{G:Hp}{a:Addr}{xs:List V}{ds:List D}(h:fk K G a xs)(r:bX K G xs ds):pD K (Jr K a) G ds:=by
 show⟨λi d f H' hd s1 s2=>?_,λf H' s1 s2=>⟨xs,s2.ny (s1.ny h),by rw[r.length];show aD _⟩⟩;obtain⟨v,b,g⟩:=r.get hd;have c:fk K H' a xs:=s2.ny (s1.ny h);show⟨⟨xs,v,c,b⟩,λu k j=>?_⟩;obtain⟨e,y⟩:=j;subst e;have:=y xs c;rw[b] at this;cases this;show⟨f,.refl s2,g.mono s1⟩
theorem Ul{K:J'}{G:Hp}(z:Str):pD K (Eg z) G (z.cps.toList.map λc=>.str ⟨#[c]⟩):=by
 show⟨λi d f H' hd s1 s2=>?_,λf H' s1 s2=>?_⟩
 .rw[ar] at hd;cases e:z.cps.toList[i]? with
  | none=>rw[e] at hd;cases hd
  | some c=>
   rw[e] at hd;cases hd;have b:z.cps[i]?=some c:=by simpa using e
   show⟨(Array.getElem?_eq_some_iff.mp b).1,λv k g=>?_⟩;obtain⟨h,j,a,rfl⟩:=g;subst h;rw[b] at a;cases a;show⟨f,.refl s2,tM _ _ _⟩
 show _=_;simp
theorem Nd{K:J'}{G:Hp}(a:Int)(n:Nat):pD K (B0 a n) G ((List.range n).map λ(i:Nat)=>.int (a+i)):=by
 show⟨λi d b H' hd s1 s2=>?_,λb H' s1 s2=>?_⟩
 .rw[ar] at hd;cases e:(List.range n)[i]? with
  | none=>rw[e] at hd;cases hd
  | some c=>
   rw[e] at hd;cases hd;obtain⟨k,j⟩:=aj.mp e;have h:i<n:=by simpa using k
   have g:c=i:=by rw[<-j];simp
   subst g;show⟨h,λv m f=>?_⟩;obtain⟨l,rfl⟩:=f;subst l;show⟨b,.refl s2,kU _ _ _⟩
 show n<=_;simp
noncomputable def oj(ds:List D):List D:=ds.mapIdx λi d=>.tup [.int (i:Nat),d]
theorem F5{K:J'}{G:Hp}{t:Addr}{x y:V}{d e:D}(a:G t=some (.tup [x,y]))(c:Rep K G x d)(b:Rep K G y e):Rep K G (.ref t) (.tup [d,e]):=by
 simp only[Rep];show⟨t,[x,y],rfl,a,bX.cons c (bX.cons b bX.nil)⟩
theorem UW{K:J'}{G:Hp}{a:Addr}{xs:List V}{ds:List D}(h:kP K G a xs)(r:bX K G xs ds):pD K (Jt K a) G (oj ds):=by
 show⟨λi d b H' hd s1 s2=>?_,λb H' s1 s2=>⟨xs,(s2.fZ (s1.fZ h)).sq,by rw[r.length];simp[oj]⟩⟩;unfold oj at hd;rw[List.getElem?_mapIdx] at hd;cases e:ds[i]? with
 | none=>rw[e] at hd;cases hd
 | some d'=>
  rw[e] at hd;cases hd;obtain⟨v,j,l⟩:=r.get e;have k:eP K H' a xs:=(s2.fZ (s1.fZ h)).sq;show⟨⟨xs,v,k,j⟩,λu n m=>?_⟩;obtain⟨t,rfl,ht,y⟩:=m;obtain⟨x,f,rfl⟩:=y xs k;rw[j] at f;cases f;have c:Ext b H' (upd b t (.tup [.int i,v])) (upd H' t (.tup [.int i,v])):=.new s2 ht;show⟨_,c,F5 gX (kU _ _ _) ((l.mono s1).mono c.g)⟩
noncomputable def ya(ds a:List D):List D:=List.zipWith (λd e=>.tup [d,e]) ds a
theorem Uk{K:J'}{G:Hp}{a b:Addr}{xs ys:List V}{ds j:List D}(h:kP K G a xs)(r:bX K G xs ds)(h':kP K G b ys)(m:bX K G ys j):pD K (Jq K a b) G (ya ds j):=by
 show⟨λi d l H' hd s1 s2=>?_,λl H' s1 s2=>⟨xs,ys,(s2.fZ (s1.fZ h)).sq,(s2.fZ (s1.fZ h')).sq,?_⟩⟩
 .unfold ya at hd;rw[List.getElem?_zipWith] at hd;cases e:ds[i]? with
  | none=>rw[e] at hd;cases hd
  | some d'=>
   cases k:j[i]? with
   | none=>rw[e,k] at hd;cases hd
   | some E=>
    rw[e,k] at hd;cases hd;obtain⟨v,q,z⟩:=r.get e;obtain⟨f,w,A⟩:=m.get k;have s:eP K H' a xs:=(s2.fZ (s1.fZ h)).sq;have o:eP K H' b ys:=(s2.fZ (s1.fZ h')).sq;show⟨⟨xs,ys,v,f,s,o,q,w⟩,λu F B=>?_⟩;obtain⟨t,rfl,ht,y⟩:=B;obtain⟨x,C,p,n,rfl⟩:=y xs ys s o;rw[q] at p;rw[w] at n;cases p;cases n;have c:Ext l H' (upd l t (.tup [v,f])) (upd H' t (.tup [v,f])):=.new s2 ht;show⟨_,c,F5 gX ((z.mono s1).mono c.g) ((A.mono s1).mono c.g)⟩
 rw[r.length,m.length];unfold ya;rw[List.length_zipWith];ext
theorem kT{l:Expr}{te:TD}(h:PD X l te):PId X tg l (jZ te):=by
 obtain⟨t,p,q⟩:=h;show⟨_,Qy p,λj σ o n G H Q P E h k=>q j σ o n G H _ _ E h λv H' r u x m c=>?_⟩;obtain⟨i,d,b,_⟩:=m.freeze x;unfold Cv at c;split at c
 .rename_i ds e;rw[e] at b;simp only[Rep] at b;obtain⟨a,xs,rfl,f,g⟩:=b;show .inl ⟨a,rfl,⟨xs,(d.s.fZ f).sq⟩,k _ H' _ i d (UX f g) c⟩
 .rename_i ds e;rw[e] at b;simp only[Rep] at b;obtain⟨a,xs,rfl,f,g⟩:=b;show .inr (.inl ⟨a,rfl,⟨xs,d.s.nu f⟩,k _ H' _ i d (Um (fk.of f) g) c⟩)
 .rename_i z e;rw[e] at b;simp only[Rep] at b;show .inr (.inr ⟨z,b,k _ H' _ i d (Ul z) c⟩)
 show c.elim
def oH(b:ix):kd:=λa Q=>b a λds=>match ds with
 | [.int j]=>-(2 ^ 62)<=j/\j<2 ^ 62/\Q ((List.range j.toNat).map λ(i:Nat)=>.int (0+i))
 | _=>False
theorem mh{K:J'}{G:Hp}{a:List V}{d:D}(h:bX K G a [d]):∃v,a=[v]/\Rep K G v d:=by
 match a,h with
 | [],h=>simp only[bX] at h
 | [v],h=>simp only[bX] at h;show⟨v,rfl,h.1⟩
 | v::w::r,h=>simp only[bX] at h;show absurd h.2 (by simp)
theorem Ct{K:J'}{G:Hp}{a:List V}{d e:D}(h:bX K G a [d,e]):∃v w,a=[v,w]/\Rep K G v d/\Rep K G w e:=by
 match a,h with
 | [],h=>simp only[bX] at h
 | v::r,h=>
  simp only[bX] at h;obtain⟨w,rfl,hw⟩:=mh h.2;show⟨v,w,rfl,h.1,hw⟩
theorem qA{a:Expr}{c:ix}{p:Pos}(hm:X.mg "range"=none)(ha:md X [a] c)(hg:Gl X "range":=by rfl)(f:starEach [a] X.env=[(false,eval a X.env)]:=by rfl):PId X tg (.Call (.Name "range" p) [a] [] pos) (oH c):=by
 obtain⟨t,pp,q⟩:=ha;show⟨_,VZ hg hm pp f,λe σ i g G H Q P E h k=>q e σ i g G H _ _ E h λl H' ds j x rs b=>?_⟩;split at b
 .obtain⟨v,rfl,d⟩:=mh rs;simp only[Rep] at d;subst d;show⟨_,rfl,b.1,b.2.1,k _ H' _ j x (Nd 0 _) b.2.2⟩
 show b.elim
def EO(b:ix):kd:=λa Q=>b a λds=>match ds with
 | [.int i,.int j]=>(-(2 ^ 62)<=i/\i<2 ^ 62/\-(2 ^ 62)<=j/\j<2 ^ 62)/\Q ((List.range (j-i).toNat).map λ(n:Nat)=>.int (i+n))
 | _=>False
theorem VA{a b:Expr}{d:ix}{p:Pos}(hm:X.mg "range"=none)(ha:md X [a,b] d)(hg:Gl X "range":=by rfl)(j:starEach [a,b] X.env=[(false,eval a X.env),(false,eval b X.env)]:=by rfl)(i:starEach [b] X.env=[(false,eval b X.env)]:=by rfl):PId X tg (.Call (.Name "range" p) [a,b] [] pos) (EO d):=by
 obtain⟨t,pp,q⟩:=ha;show⟨_,VY hg hm pp j i,λg σ m l G H Q P E h k=>q g σ m l G H _ _ E h λr H' ds n x rs c=>?_⟩;split at c
 .obtain⟨v,o,rfl,e,f⟩:=Ct rs;simp only[Rep] at e f;subst e f;show⟨_,_,rfl,c.1,k _ H' _ n x (Nd _ _) c.2⟩
 show c.elim
def rP(b:ix):kd:=λa Q=>b a λds=>match ds with
 | [.lst c]=>Q (oj c)
 | _=>False
theorem uk{a:Expr}{d:ix}{p tp:Pos}{b:List Expr}{i:Nat}(hm:X.mg "enumerate"=none)(ha:md X [a] d)(hg:Gl X "enumerate":=by rfl)(j:starEach [a] X.env=[(false,eval a X.env)]:=by rfl):PId X (.Tuple b i tp) (.Call (.Name "enumerate" p) [a] [] pos) (rP d):=by
 obtain⟨t,pp,q⟩:=ha;show⟨_,Sz hg hm pp j,λg σ n m G H Q P E h k=>q g σ n m G H _ _ E h λr H' ds o x rs c=>?_⟩;split at c
 .obtain⟨v,rfl,e⟩:=mh rs;simp only[Rep] at e;obtain⟨a,xs,rfl,f,l⟩:=e;show⟨a,xs,rfl,x.s.fZ f,k _ H' _ o x (UW f l) c⟩
 show c.elim
def B7(b:ix):kd:=λa Q=>b a λds=>match ds with
 | [.lst c,.lst fs]=>Q (ya c fs)
 | _=>False
theorem Sx{a b:Expr}{e:ix}{p tp:Pos}{c:List Expr}{m:Nat}(hm:X.mg "zip"=none)(ha:md X [a,b] e)(hg:Gl X "zip":=by rfl)(o:starEach [a,b] X.env=[(false,eval a X.env),(false,eval b X.env)]:=by rfl)(n:starEach [b] X.env=[(false,eval b X.env)]:=by rfl) :
  PId X (.Tuple c m tp) (.Call (.Name "zip" p) [a,b] [] pos) (B7 e):=by
 obtain⟨t,pp,q⟩:=ha;show⟨_,Qw hg hm pp o n,λl σ y w G H Q P E h k=>q l σ y w G H _ _ E h λB H' ds z x rs d=>?_⟩;split at d
 .obtain⟨v,A,rfl,f,g⟩:=Ct rs;simp only[Rep] at f g;obtain⟨a,xs,rfl,j,u⟩:=f;obtain⟨b,ys,rfl,i,r⟩:=g;show⟨a,b,rfl,⟨xs,(x.s.fZ j).sq⟩,⟨ys,(x.s.fZ i).sq⟩,k _ H' _ z x (Uk j u i r) d⟩
 show d.elim
def jb(c:kd)(g:jI)(e:TX):TX:=λD b=>c b λds=>∃a:Nat->Ev->Prop,a 0 b/\
 (∀i d ρ',ds[i]?=some d->a i ρ'->g d ρ' λf=>e { D with nx:=a (i+1),ct:=a (i+1),bk:=D.nx } f)/\∀ρ',a ds.length ρ'->D.nx ρ'
theorem kR{a:Expr}{body:List Stmt}{O:kd}{g:jI}{P:TX}(hp:PassesOwn (model X.prog X.w) X.A X.env X.xe)(hc:X.calm=true)(S:PId X tg a O)(hg:uT X tg g)(hb:oC X body P)
  (hs:∀x,foldedSetIterable a X.env x=pure x:=by intro _;rfl):PX X (.For tg a body [] pos) (jb O g P):=by
 obtain⟨t1,p1,q1⟩:=S;obtain⟨t2,p2,q2⟩:=hg;obtain⟨t3,p3,q3⟩:=hb;show⟨_,RX hp hc p1 p2 p3 hs,λL σ p n G H D E k h C=>q1 L σ p n G H _ _ k h λJ H1 ds y z N hq=>?_⟩;obtain⟨T,i0,turn,fin⟩:=hq;show⟨λi m u H'=>m=ds.length-i/\i<=ds.length/\∃ρ' c,c9 X.K p n ρ' u c H'/\cw y c/\T i ρ',⟨ds.length,by simp,a9 _,L,y,k.ext z,cw.refl _,i0⟩,?_⟩;rintro i m u H' ⟨rfl,S,ρ',c,r,q,R⟩;by_cases F:i<ds.length
 .obtain⟨Y,w2⟩:=N;obtain⟨go,V⟩:=Y i ds[i] c H' (af F) q r.e.s;show .inr ⟨go,λQ l=>∃t b,c9 X.K p n t Q b l/\cw y b/\T (i+1) t,λQ l ⟨t,b,k2,s2,YY⟩=>⟨ds.length-(i+1),by ext,rfl,F,t,b,k2,s2,YY⟩,λv l hy=>?_⟩;obtain⟨b,M,rv⟩:=V v l hy;show q2 ρ' u p n b l ds[i] v _ _ (r.ext M) rv (turn i ds[i] ρ' (af F) R) λZ mf U H3 k3 W fi=>?_
  have s3:cw y U:=(q.trans M.g).trans W.g;show q3 Z mf p n U H3 _ _ k3 fi ⟨λd B o I s4 f j=>⟨d,o,f,s3.trans s4,j⟩,C.rt,λd B o I s4 f j=>C.nx d B o I ((z.g.trans s3).trans s4) f j,λd B o I s4 f j=>⟨d,o,f,s3.trans s4,j⟩⟩
 have e:i=ds.length:=by ext
 subst e;show .inl ⟨N.2 c H' q r.e.s,C.nx ρ' u c H' (z.g.trans q) r (fin ρ' R)⟩
def Kp(c:iU)(f:TX):TX:=λD e=>∃W:Nat->Ev->Prop,(∃m,W m e)/\∀m ρ',W m ρ'->c ρ' λb=>if b=true then f { D with nx:=λd=>∃a,a<m/\W a d,ct:=λd=>∃a,a<m/\W a d,bk:=D.nx } ρ' else D.nx ρ'
theorem Uj{c:Expr}{body:List Stmt}{tc:iU}{z:TX}(Q:PassesOwn (model X.prog X.w) X.A X.env X.xe)(R:PB X c tc)(hb:oC X body z):PX X (.While c body [] pos) (Kp tc z):=by
 obtain⟨t1,P,N⟩:=R;obtain⟨t3,O,M⟩:=hb;show⟨_,TR Q P O,λI σ r q G H D E k h v=>?_⟩;obtain⟨W,⟨m0,L⟩,turn⟩:=h;show⟨λm j H'=>∃ρ' s,c9 X.K r q ρ' j s H'/\cw G s/\W m ρ',⟨m0,I,G,k,cw.refl _,L⟩,?_⟩;rintro m j H' ⟨ρ',s,u,B,J⟩;show N ρ' j r q s H' _ _ u (turn m ρ' J) λb l d o p=>?_
 cases b with
 | true=>
  rw[if_pos rfl] at p ⊢;show⟨λC l=>∃a,a<m/\∃F d,c9 X.K r q F C d l/\cw G d/\W a F,λC l S=>S,?_⟩;have s2:cw G d:=B.trans o.g;show M ρ' j r q d l _ _ (u.ext o) p ⟨λe t n y s4 f x=>by obtain⟨a,hm,i⟩:=x;show⟨a,hm,e,n,f,s2.trans s4,i⟩,v.rt,λe t n y s4 f i=>v.nx e t n y (s2.trans s4) f i,λe t n y s4 f x=>by obtain⟨a,hm,i⟩:=x;show⟨a,hm,e,n,f,s2.trans s4,i⟩⟩
 | false=>
  rw[if_neg aC] at p ⊢;show v.nx ρ' j d l (B.trans o.g) (u.ext o) p
end
noncomputable def tD(a:Ev):Option Nat->Sl
 | none=>.un
 | some j=>match gt a j with
  | .fz d=>.fz d
  | _=>.un
noncomputable def gW(m:List (Option Nat))(a:Ev):Ev:=m.map (tD a)
theorem tK{m:List (Option Nat)}{b:Ev}{i:Nat}:gt (m.map (tD b)) i=match m[i]? with
  | some o=>tD b o
  | none=>.un:=by
 induction m generalizing i with
 | nil=>simp[gt]
 | cons a r c=>
  cases i with
  | zero=>simp[gt]
  | succ i=>simp only[ao,gt,bN];show c
def qt(m:List (Option Nat))(g:jI):Prop:=∀d a Q,g d a Q->g d a λb=>Q b/\b.length=a.length/\∀j c,m[j]?=some (some c)->gt b j=gt a j
def C4(m:List (Option Nat))(g:qY):Prop:=∀ds a Q,g ds a Q->g ds a λb=>Q b/\b.length=a.length/\∀j c,m[j]?=some (some c)->gt b j=gt a j
theorem jK{m:List (Option Nat)}{i:Nat}(h:m[i]?=some none:=by rfl):qt m (dh i):=λd b Q q=>by
 show⟨q,by simp,λj c a=>?_⟩;rw[vi,if_neg];rintro⟨e,_⟩;subst e;rw[h] at a;cases a
theorem LX{m:List (Option Nat)}:C4 m jG:=λds a Q q=>by
 unfold jG at q ⊢;split at q
 .exact⟨q,rfl,λ_ _ _=>rfl⟩
 show q.elim
theorem zX{m:List (Option Nat)}{t:jI}{u:qY}(mono:∀d a (Q b:Ev->Prop),(∀ρ',Q ρ'->b ρ')->t d a Q->t d a b)(g:∀d a (Q b:Ev->Prop),(∀ρ',Q ρ'->b ρ')->u d a Q->u d a b)(p:qt m t)(o:C4 m u):C4 m (fm t u):=λds a Q q=>by
 unfold fm at q ⊢;split at q
 .refine mono _ _ _ _ (λρ' e=>?_) (p _ _ _ q);obtain⟨i,l,n⟩:=e;show g _ _ _ _ (λr e=>by obtain⟨h,k,k2⟩:=e;show⟨h,k.trans l,λj c f=>(k2 j c f).trans (n j c f)⟩) (o _ _ _ i)
 show q.elim
theorem LW{m:List (Option Nat)}{n:Nat}{u:qY}(a:C4 m u):qt m (kg n u):=λd b Q q=>by
 unfold kg at q ⊢;split at q
 .exact⟨q.1,a _ _ _ q.2⟩
 show q.elim
theorem uj{i:Nat}:∀d a (Q b:Ev->Prop),(∀ρ',Q ρ'->b ρ')->dh i d a Q->dh i d a b:=λ_ _ _ _ h q=>h _ q
theorem zS:∀d a (Q b:Ev->Prop),(∀ρ',Q ρ'->b ρ')->jG d a Q->jG d a b:=λ_ _ _ _ h q=>by
 unfold jG at q ⊢;split at q
 .exact h _ q
 show q.elim
theorem Dr{t:jI}{u:qY}(mono:∀d a (Q b:Ev->Prop),(∀ρ',Q ρ'->b ρ')->t d a Q->t d a b)(c:∀d a (Q b:Ev->Prop),(∀ρ',Q ρ'->b ρ')->u d a Q->u d a b):∀d a (Q b:Ev->Prop),(∀ρ',Q ρ'->b ρ')->fm t u d a Q->fm t u d a b:=λ_ _ _ _ h q=>by
 unfold fm at q ⊢;split at q
 .exact mono _ _ _ _ (λρ' e=>c _ _ _ _ h e) q
 show q.elim
theorem wV{m:List (Option Nat)}{i j n:Nat}(h:m[i]?=some none:=by rfl)(h':m[j]?=some none:=by rfl):qt m (kg n (fm (dh i) (fm (dh j) jG))):=
 LW (zX uj (Dr uj zS) (jK h) (zX uj zS (jK h') LX))
theorem V6{m:List (Option Nat)}{i j k n:Nat}(h:m[i]?=some none:=by rfl)(h':m[j]?=some none:=by rfl)(a:m[k]?=some none:=by rfl):qt m (kg n (fm (dh i) (fm (dh j) (fm (dh k) jG)))):=
 LW (zX uj (Dr uj (Dr uj zS)) (jK h) (zX uj (Dr uj zS) (jK h') (zX uj zS (jK a) LX)))
def xW(X:Cx)(a:List Expr)(t:iU):Prop:=∃tt,wb X a tt/\∀(c:Ev)(σ:St)(e d G H:Hp)(Q:Bool->Prop)(P:Bool->Hp->Prop),c9 X.K e d c σ G H->t c Q->
 (∀b H' f,Ext G H f H'->Q b->P b H')->tt σ H P
def iD:iU:=λ_ Q=>Q true
theorem ku{X:Cx}:xW X [] iD:=⟨_,SD,λa σ c b G H Q P E h k=>k true H G (.refl E.e.s) h⟩
theorem zN{X:Cx}{c:Expr}{t:iU}(h:PB X c t):xW X [c] t:=let⟨tt,p,q⟩:=h;⟨tt,SA p,q⟩
def gY(f:kd)(m:List (Option Nat))(g:jI)(tc:iU)(te:TD):TD:=λc Q=>f c λds=>∃a:Nat->List D->Prop,a 0 []/\
 (∀i d acc,ds[i]?=some d->a i acc->g d (gW m c) λe=>tc e λb=>if b=true then te e λr=>acc.length<sizeLine/\a (i+1) (acc++[r.val]) else a (i+1) acc)/\∀acc,a ds.length acc->Q (.ow acc)
section
variable{X:Cx}{elt iter tg:Expr}{ifs:List Expr}{scope:Scope}{pos:Pos}{N':List Str}{m:List (Option Nat)}{wi:kd}{g:jI}{tc:iU}{te:TD}
theorem LV{f:Ev}{l:St}{w u G H:Hp}{Q:R->Prop}{P:VK}(cs:cK X N' m scope)(hk:qt m g){ww:TI}{gg:pj TG}{vv:pj TT}{F:pj TE}
  (q1:∀(f:Ev)(l:St)(w u G H:Hp)(Q:List D->Prop)(P:It->Hp->Prop),c9 X.K w u f l G H->wi f Q->(∀J H' ds a,Ext G H a H'->pD X.K J a ds->Q ds->P J H')->ww l H P)
  (q2:∀s3 y ex (f:Ev) (l:St) (w u G H:Hp) (d:D) (v:V) (Q:Ev->Prop) (P:St->Hp->Prop),c9 X.K w u f l G H->Rep X.K G v d->g d f Q->(∀ρ' t a H',c9 X.K w u ρ' t a H'->Ext G H a H'->Q ρ'->P t H')->gg s3 y ex v l H P)
  (q3:∀s3 y ex (f:Ev) (l:St) (w u G H:Hp) (Q:Bool->Prop) (P:Bool->Hp->Prop),c9 X.K w u f l G H->tc f Q->(∀b H' a,Ext G H a H'->Q b->P b H')->vv s3 y ex l H P)
  (q4:∀s3 y ex (ρ':Ev) (t:St) (p H1 a H':Hp) (Q':R->Prop) (P':VK),Ext G H p H1->c9 X.K p H1 ρ' t a H'->te ρ' Q'->(∀v q r O,Ext a H' O q->ee X.K O q H' v r->Q' r->P' v q)->F s3 y ex t H' P')
  (E:c9 X.K w u f l G H) (h:gY wi m g tc te f Q) (k:∀v H' r a,Ext G H a H'->ee X.K a H' H v r->Q r->P v H'):u9 ww m gg vv F l H P:=by
 show q1 f l w u G H _ _ E h λJ H1 ds p z wk hq=>?_
 obtain⟨Iv,i0,turn,fin⟩:=hq;intro D N s3 ex;have E1:=E.ext z;have IV:p D=none:=z.s.free N;have A:∀{i:Nat}{x:List L2.D},gt (gW m f) i=.ow x->False:=λ{i x} h=>by
  unfold gW at h;rw[tK] at h;split at h
  .rename_i o _;unfold tD at h;split at h
   .cases h
   split at h<;>cases h
  cases h
 have sr:∀{i:Nat}{o:OV},gt (gW m f) i=.ov o->False:=λ{i o} h=>by
  unfold gW at h;rw[tK] at h;split at h
  .rename_i o _;unfold tD at h;split at h
   .cases h
   split at h<;>cases h
  cases h
 have start:c9 X.K p H1 (gW m f) (pV m l) p (upd H1 D (.lst [])):=by
  show⟨.own z.s N,by simp[pV,gW],λi d h=>?_,λi x h=>(A h).elim,λi j x fs _ h=>(A h).elim,λ_=>none,λi x _ h=>(A h).elim,λi o h=>(sr h).elim⟩;unfold gW at h;rw[tK] at h;split at h
  .rename_i o ho;unfold tD at h;split at h
   .cases h
   rename_i j;split at h
   .rename_i d' vS;cases h;obtain⟨v,hv,Y⟩:=E1.fz j d vS;show⟨v,?_,Y⟩;unfold pV;rw[ar,ho];simp[hv]
   cases h
  cases h
 show⟨λi n t H'=>n=ds.length-i/\i<=ds.length/\∃acc xs a,c9 X.K p H1 (gW m f) t a H'/\H' D=some (.lst xs)/\a D=none/\bX X.K a xs acc/\Iv i acc,
  ⟨ds.length,by simp,a9 _,[],[],p,start,gX,IV,bX.nil,i0⟩,?_⟩
 rintro i n t H' ⟨rfl,hi,acc,xs,a,C,Z,Bp,W,iv⟩;by_cases eO:i<ds.length
 .obtain⟨w1,w2⟩:=wk;obtain⟨go,yl⟩:=w1 i ds[i] a H' (af eO) C.e.g C.e.s;show .inr ⟨go,λlT q=>∃acc xs a,c9 X.K p H1 (gW m f) lT a q/\q D=some (.lst xs)/\a D=none/\bX X.K a xs acc/\Iv (i+1) acc,λlT q h2=>⟨ds.length-(i+1),by ext,rfl,eO,h2⟩,λv q hy=>?_⟩;obtain⟨O,x2,Y⟩:=yl v q hy;show q2 _ _ _ (gW m f) t p H1 O q ds[i] v _ _ (C.ext x2) Y (hk _ _ _ (turn i ds[i] acc (af eO) iv)) λU mf G3 y E3 x3 fi=>?_
  obtain⟨fi,uM,Iz⟩:=fi;have weak:∀j,gt (gW m f) j=.un\/gt (gW m f) j=gt U j:=λj=>by
   cases hm:m[j]? with
   | none=>left;unfold gW;rw[tK,hm]
   | some o=>
    cases o with
    | none=>left;unfold gW;rw[tK,hm];rfl
    | some c=>right;show(Iz j c hm).symm
  have Hh:=x2.trans x3;show q3 _ _ _ U mf p H1 G3 y _ _ E3 fi λb H4 G4 S L=>?_
  have M:=Hh.trans S;have E4:=(E3.ext S).weak (ρ':=gW m f) (uM.symm) weak;have T:H4 D=some (.lst xs):=M.h _ _ Z;have Bo:G4 D=none:=M.n D Bp (by rw[Z];show nofun);cases b with
  | false=>
   rw[if_neg aC] at L ⊢;show⟨acc,xs,G4,E4,T,Bo,W.mono M.g,L⟩
  | true=>
   rw[if_pos rfl] at L ⊢;show q4 _ _ _ U mf p H1 G4 H4 _ _ z (E3.ext S) L λv5 H5 r5 G5 x5 xf lE=>?_
   obtain⟨G6,I,xc,_⟩:=xf.freeze x5;have B:=E4.ext I;have HR:H5 D=some (.lst xs):=I.h _ _ T;have Bn:G6 D=none:=I.n D Bo (by rw[T];show nofun);have r6:bX X.K G6 xs acc:=(W.mono M.g).mono I.g;show⟨xs,HR,by rw[r6.length];show lE.1,acc++[r5.val],xs++[v5],G6,?_,gX,Bn,r6.append (bX.cons xc bX.nil),lE.2⟩;show⟨⟨B.e.g,λb o e=>by rw[dy (lC e N)];show B.e.h b o e,λb o e=>by rw[dy (lC e Bn)];show B.e.s b o e,B.e.n⟩,B.len,B.fz,λi x h=>(A h).elim,λi j x fs _ h=>(A h).elim,λ_=>none,λi x _ h=>(A h).elim,λi o h=>(sr h).elim⟩
 have e:i=ds.length:=by ext
 subst e;show .inl ⟨wk.2 a H' C.e.g C.e.s,k _ H' (.ow acc) a (z.trans C.e) ⟨D,xs,rfl,z.h.free N,Bp,Z,W⟩ (fin acc iv)⟩
theorem Lw(cs:cK X N' m scope)(u:qt m g){n:TI}{p:pj TG}{o:pj TT}{j:pj TE}
  (t:∀(a:Ev)(σ:St)(i f G H:Hp)(Q:List D->Prop)(P:It->Hp->Prop),c9 X.K i f a σ G H->wi a Q->(∀J H' ds c,Ext G H c H'->pD X.K J c ds->Q ds->P J H')->n σ H P)
  (s:∀s3 e ex (a:Ev) (σ:St) (i f G H:Hp) (d:D) (v:V) (Q:Ev->Prop) (P:St->Hp->Prop),c9 X.K i f a σ G H->Rep X.K G v d->g d a Q->(∀ρ' l c H',c9 X.K i f ρ' l c H'->Ext G H c H'->Q ρ'->P l H')->p s3 e ex v σ H P)
  (r:∀s3 e ex (a:Ev) (σ:St) (i f G H:Hp) (Q:Bool->Prop) (P:Bool->Hp->Prop),c9 X.K i f a σ G H->tc a Q->(∀b H' c,Ext G H c H'->Q b->P b H')->o s3 e ex σ H P)
  (q:∀s3 e ex,rJ X.K te (j s3 e ex)):rJ X.K (gY wi m g tc te) (u9 n m p o j):=λa σ i f G H Q P E h k=>LV cs u t s r (λs3 e ex ρ' l y H1 c H' w x _=>q s3 e ex ρ' l y H1 c H' w x) E h k
theorem ko(h:X.calm=true)(cs:cK X N' m scope)(e:qt m g)(f:PId X tg iter wi)(hg:∀s3 a ex,uT (nj X N' scope s3 a ex) tg g)(ht:∀s3 a ex,xW (nj X N' scope s3 a ex) ifs tc)
  (he:∀s3 a ex,PD (nj X N' scope s3 a ex) elt te) (d:∀x,foldedSetIterable iter X.env x=pure x:=by intro _;rfl):PD X (.ListComp elt [⟨tg,iter,ifs,0⟩] scope pos) (gY wi m g tc te):=by
 obtain⟨ww,c,b⟩:=f;show⟨_,Lj (g:=λs3 a ex=>(hg s3 a ex).choose) (tc:=λs3 a ex=>(ht s3 a ex).choose) (te:=λs3 a ex=>(he s3 a ex).choose) h cs c (λs3 a ex=>(hg s3 a ex).choose_spec.1) (λs3 a ex=>(ht s3 a ex).choose_spec.1) (λs3 a ex=>(he s3 a ex).choose_spec.1) d,
  Lw cs e b (λs3 a ex=>(hg s3 a ex).choose_spec.2) (λs3 a ex=>(ht s3 a ex).choose_spec.2) (λs3 a ex=>(he s3 a ex).choose_spec.2)⟩
theorem LU(i:Nat){x:Str}{b d:Pos}(z:X.calm=true)(cs:cK X N' m scope)(u:qt m g)(w:PId X tg iter wi)(hg:∀s3 a ex,uT (nj X N' scope s3 a ex) tg g)(ht:∀s3 a ex,xW (nj X N' scope s3 a ex) ifs tc)
  (he:∀s3 a ex,PD (nj X N' scope s3 a ex) elt te) (A:X.N.Nodup:=by assumption) (n:X.N[i]?=some x:=by rfl) (q:Loc X.env.scope x:=by first | show Or.inl rfl | show Or.inr rfl) (s:∀x,foldedSetIterable iter X.env x=pure x:=by intro _;rfl)
  (f:swapsWith (.ListComp elt [⟨tg,iter,ifs,0⟩] scope pos) (some (.Name x b)) d.line X.env=pure true:=by rfl)
  (y:X.fn x=true\/X.env.scope.names.lookup x=some .local:=by first | show .inl rfl | show .inr rfl | assumption) :
  PX X (.Assign [.Name x b] (.ListComp elt [⟨tg,iter,ifs,0⟩] scope pos) d) (fg i (gY wi m g tc te)):=by
 obtain⟨ww,p,o⟩:=w;show⟨_,Li (g:=λs3 a ex=>(hg s3 a ex).choose) (tc:=λs3 a ex=>(ht s3 a ex).choose) (te:=λs3 a ex=>(he s3 a ex).choose) A n q z cs p (λs3 a ex=>(hg s3 a ex).choose_spec.1) (λs3 a ex=>(ht s3 a ex).choose_spec.1) (λs3 a ex=>(he s3 a ex).choose_spec.1) s f y,λe σ I C G H D E k h B=>?_⟩;show Lw cs u o (λs3 a ex=>(hg s3 a ex).choose_spec.2) (λs3 a ex=>(ht s3 a ex).choose_spec.2) (λs3 a ex=>(he s3 a ex).choose_spec.2) e σ I C G H _ _ k h λv H' r J x l t=>?_
 obtain⟨F,c,j,_⟩:=l.freeze x;show B.nx _ _ F H' c.g (k.put c (r:=.fz r.val) j) t
end
noncomputable abbrev e8:=List D->(R->Prop)->Prop
def zh(K:J')(n:Nat)(t:e8):Sp:=λc H Q _=>∃G ds a,cw G H/\bX K G c ds/\ds.length=n/\t ds a/\∀v H' r b,Ext G H b H'->ee K b H' H v r->a r->Q v H'
noncomputable def tJ(N:List Str)(ds:List D):Ev:=ds.map Sl.fz++List.replicate (N.length-ds.length) .un
theorem WG{ds:List D}{l:List Sl}{i:Nat}{s:Sl}(h:gt (ds.map Sl.fz++l) i=s):(∃d,ds[i]?=some d/\s=.fz d)\/(ds.length<=i/\gt l (i-ds.length)=s):=by
 induction ds generalizing i with
 | nil=>show .inr ⟨a9 _,by simpa using h⟩
 | cons d ds c=>
  cases i with
  | zero=>simp only[ao,List.cons_append,gt] at h;show .inl ⟨d,rfl,h.symm⟩
  | succ i=>
   simp only[ao,List.cons_append,gt] at h;rcases c h with⟨e,b,a⟩ | ⟨b,a⟩
   .exact .inl ⟨e,by simpa using b,a⟩
   show .inr ⟨by simp;ext,?_⟩;rw[av];rw[show i+1-(ds.length+1)=i-ds.length by ext];show a
theorem Vk{n i:Nat}:gt (List.replicate n Sl.un) i=.un:=by
 induction n generalizing i with
 | zero=>simp[gt]
 | succ n a=>
  cases i with
  | zero=>rfl
  | succ i=>show a
theorem LS{K:J'}{G H:Hp}{N:List Str}{e:List V}{ds:List D}(s:cw G H)(r:bX K G e ds):c9 K G H (tJ N ds) (start N e) G H:=by
 have l:=r.length;have c:∀{i:Nat}{t:Sl},gt (tJ N ds) i=t->t≠.un->∃d,ds[i]?=some d/\t=.fz d:=λ{i t} h n=>by
  rcases WG h with h | ⟨_,h⟩
  .exact h
  rw[Vk] at h;show absurd h.symm n
 show⟨.refl s,by simp[start,tJ,l],λi d h=>?_,λi g h=>?_,λi j g fs _ h=>?_,λ_=>none,λi g _ h=>?_,λi o h=>?_⟩
 .obtain⟨d',b,a⟩:=c h (by simp);cases a;obtain⟨v,f,k⟩:=r.get b;have m:i<e.length:=(aj.mp f).1;show⟨v,?_,k⟩;unfold start;rw[List.getElem?_append_left (by simpa using m),ar,f];rfl
 .obtain⟨d',b,a⟩:=c h (by simp);cases a
 .obtain⟨d',b,a⟩:=c h (by simp);cases a
 .obtain⟨d',b,a⟩:=c h (by simp);cases a
 obtain⟨d',b,a⟩:=c h (by simp);cases a
section
variable{P:Program}{w:World}{K:J'}{mg:Str->Option Value}{base:Heap}
theorem Lv{x a:Str}{st:Stmt}{f:Addr}{i:FuncData}{N ps:List Str}{k:Nat}{t:e8}{T:TX}{m:Value}(F:qR m K x a st f i)(S:ck N ps (b9 st))
  (body:∀(d:Value)(A:Around)(outer:List Env)(s:Shared)(H:Hp)(E:XK),eQ k (A.deeper (envOfC a (b9 st) s.heap.objs.size f d))->oC (pG qS P w K mg base N a (b9 st) f d A outer s H E).vA (dz st) T)
  (c:∀(ds:List D)(b:R->Prop),ds.length=ps.length->t ds b->T { nx:=λ_=>b (.fz .non),rt:=b } (tJ N ds)):jY P w K mg base qS (k+1) f i ps (zh K ps.length t):=by
 show F.ok S (λj H Q E h=>?_) (λd A outer s H j Q E l h=>?_)
 .obtain⟨G,ds,b,_,r,g,_⟩:=h;rw[r.length,g]
 obtain⟨G,ds,b,s0,r,g,ht,k0⟩:=h;obtain⟨tt,p,q⟩:=body d A outer s H E l;show⟨tt,p,q _ _ G H G H _ _ (LS s0 r) (c ds b g ht) ⟨λo σ n H' _ e h=>k0 _ H' _ n e.e (f9 (Fy _ _)) h,k0,λ_ _ _ _ _ _ h=>h.elim,λ_ _ _ _ _ _ h=>h.elim⟩⟩
end
section
variable{X:Cx}{k n:Nat}{f:Addr}{fd:FuncData}{ps:List Str}{t:e8}{x:Str}{p pos:Pos}{e:Expr}{es:List Expr}{ts:ix}
def fc(n:Nat)(t:e8)(ts:ix):TD:=λa Q=>ts a λds=>ds.length=n/\t ds Q
theorem Sw(F:jY X.prog X.w X.K X.mg X.base qS k f fd ps (zh X.K n t))(j:eQ k X.A)(hm:X.mg x=some (.ref f))(l:PySem.W.keepIn X.K (.ref f)=true)(hb:Binds X.K fd ps [])(ha:md X (e::es) ts)(hg:Gl X x:=by rfl)(i:(x==("__debug__":Str))=false:=by decide)
  (he:starEach (e::es) X.env=(false,eval e X.env)::starEach es X.env:=by rfl) (m:(backTo pos (starEach es X.env)).any (·.1)=false:=by rfl):PD X (.Call (.Name x p) (e::es) [] pos) (fc n t ts):=by
 obtain⟨tt,pp,q⟩:=ha;show⟨_,Ln F j hg hm l hb .nil P5 pp i he m,λb σ z u G H Q P E h k=>q b σ z u G H _ _ E h λC H' ds B x rs a=>?_⟩;rw[List.append_nil];show⟨B,ds,Q,x.s,rs,a.1,a.2,λv o r y c d g=>k v o r y (x.trans c) (d.iq x.h) g⟩
end
open PySem.StrLaws
noncomputable def jJ{α:Type}(xs:List α)(a b:Option Int):List α:=(xs.drop (HT.dS xs.length 0 a)).take (HT.dS xs.length xs.length b-HT.dS xs.length 0 a)
noncomputable def pC(z:Str)(a b:Option Int):Str:=⟨(jJ z.cps.toList a b).toArray⟩
theorem u6(v:Int)(n d:Nat):max 0 (min (if v<0 then v+(n:Int) else v) (n:Int))=((HT.dS n d (some v):Nat):Int):=by
 rw[<-HT.mD];by_cases h:v<0
 .rw[if_pos h,if_pos h];ext
 rw[if_neg h,if_neg h];ext
theorem Nc(z:Str)(d c:Option Int):(Builtin.Str.strSliceIndices d c 1 z.length).filterMap (z.cps[·]?)=jJ z.cps.toList d c:=by
 have i:z.cps.toList.length=z.length:=by simp[Str.length]
 have e:Builtin.Str.strSliceIndices d c 1 z.length=sliceRange ((HT.dS z.length 0 d:Nat):Int) ((HT.dS z.length z.length c:Nat):Int) 1:=by
  unfold Builtin.Str.strSliceIndices;cases d with
  | none=>
   cases c with
   | none=>rfl
   | some v=>simp only[show((1:Int)>0) from by decide,bP,u6 v z.length z.length];rfl
  | some u=>
   cases c with
   | none=>simp only[show((1:Int)>0) from by decide,bP,u6 u z.length 0];rfl
   | some v=>simp only[show((1:Int)>0) from by decide,bP,u6 v z.length z.length,u6 u z.length 0]
 rw[e];unfold jJ;rw[i];generalize ha:HT.dS z.length 0 d=a;generalize hb:HT.dS z.length z.length c=b;have g:b<=z.length:=by rw[<-hb];show HT.jN _ _ (aD _) _
 have j:a<=z.length:=by rw[<-ha];show HT.jN _ _ (a9 _) _
 by_cases f:a<=b
 .have:=sliced_plain z f g;rw[strSliceIndices_plain f g] at this;rw[<-this];unfold sliceRange;simp only[show((1:Int)>0) from by decide,bP];congr 1
  by_cases h:a<b
  .rw[if_pos (by ext)];rw[show(((b:Int)-(a:Int)+1-1)/1).toNat=b-a by ext];apply List.map_congr_left;intro k _;show((a:Int)+1*(k:Int)).toNat=a+k;ext
  rw[if_neg (by ext),show b-a=0 by ext];rfl
 rw[show b-a=0 by ext,List.take_zero];unfold sliceRange;simp only[show((1:Int)>0) from by decide,bP];rw[if_neg (by ext)];rfl
theorem Vj(z:Str)(b a:Option Int):Txt.slice z b a=pC z b a:=by
 unfold Txt.slice pC;split
 .rename_i h;have h':(Builtin.Str.strSliceIndices b a 1 z.length).length=z.length:=by simpa using h
  have f:z.cps.toList.length=z.length:=by simp[Str.length]
  have e:=Nc z b a;have g:(jJ z.cps.toList b a).length=z.length:=by
   unfold jJ;rw[aP,List.length_drop,f];have i:Builtin.Str.strSliceIndices b a 1 z.length=sliceRange ((HT.dS z.length 0 b:Nat):Int) ((HT.dS z.length z.length a:Nat):Int) 1:=by
    unfold Builtin.Str.strSliceIndices;cases b with
    | none=>
     cases a with
     | none=>rfl
     | some v=>simp only[show((1:Int)>0) from by decide,bP,u6 v z.length z.length];rfl
    | some u=>
     cases a with
     | none=>simp only[show((1:Int)>0) from by decide,bP,u6 u z.length 0];rfl
     | some v=>simp only[show((1:Int)>0) from by decide,bP,u6 v z.length z.length,u6 u z.length 0]
   rw[i] at h';unfold sliceRange at h';simp only[show((1:Int)>0) from by decide,bP,ae,List.length_range] at h';have j:=HT.jN z.length z.length (aD _) a;have k:=HT.jN z.length 0 (a9 _) b;by_cases c:((HT.dS z.length 0 b:Nat):Int)<((HT.dS z.length z.length a:Nat):Int)
   .rw[if_pos c] at h';ext
   rw[if_neg c] at h';simp at h';ext
  apply Str.ext';show z.cps=(jJ z.cps.toList b a).toArray;have c:jJ z.cps.toList b a=z.cps.toList:=by
   unfold jJ at g ⊢;rw[aP,List.length_drop,f] at g;rw[f];have j:=HT.jN z.length z.length (aD _) a;have d:HT.dS z.length 0 b=0\/z.length=0:=by ext
   rcases d with d | d
   .rw[d,List.drop_zero,Nat.sub_zero];show List.take_of_length_le (by ext)
   have:z.cps.toList=[]:=List.eq_nil_of_length_eq_zero (by ext);rw[this];simp
  rw[c]
 rw[Nc]
section
variable{X:Cx}{pos:Pos}{e:Expr}{te:TD}
theorem xa:v7 X (λx lo a H Q=>∃z,x=.str z/\z.length<=sizeLine/\Q (.str (pC z lo a)) H):=by
 intro r s σ H x v y w lo a sl Q I b f c pu h;obtain⟨z,rfl,hz,q⟩:=h;obtain⟨t,rfl⟩:=b;show⟨"str",_,F.slot_str_getitem.lookup,typeIs_str _ _ _,?_⟩;have part:∀{u:Value}{o:Option Int},IsPart u o->∃p:Option (Int×Tok),u=partValue p/\p.map (·.1)=o:=λh=>by
  cases h with
  | none=>show⟨none,rfl,rfl⟩
  | int i t=>show⟨some (i,t),rfl,rfl⟩
 obtain⟨e,rfl,n⟩:=part c;obtain⟨d,rfl,m⟩:=part pu;obtain⟨o,g,j,hd⟩:=f;show wpAny_getItem_str_slice (l:=e) (u:=d) (st:=none) ⟨o,g,j,hd⟩ rfl ?_;have fin:∀t' k,EP X r σ Q (.str (Txt.slice z lo a) t') { s with toks:=k }:=λt' k=>⟨.str (pC z lo a),H,I.tok k,⟨t',by rw[Vj]⟩,q⟩
 have hle:=aR (Txt.slice_le z lo a) hz;subst n m;show post_val_or_str ⟨hle,fin⟩
noncomputable abbrev xT:=Ev->(Option Int->Prop)->Prop
def zi(X:Cx)(e:Option Expr)(t:xT):Prop:=∃tt,PO X e tt/\∀(a:Ev)(σ:St)(c b G H:Hp)(Q:Option Int->Prop)(P:Option Int->Hp->Prop),c9 X.K c b a σ G H->t a Q->(∀o H' d,Ext G H d H'->Q o->P o H')->tt σ H P
def oz:xT:=λ_ Q=>Q none
def lr(te:TD):xT:=λa Q=>te a λr=>match r.val with
 | .int i=>Q (some i)
 | _=>False
theorem pK:zi X none oz:=⟨_,SF,λa σ c b G H Q P E h k=>k none H G (.refl E.e.s) h⟩
theorem lX(h:PD X e te):zi X (some e) (lr te):=by
 obtain⟨t,p,q⟩:=h;show⟨_,Lm p,λc σ m j G H Q P E h k=>q c σ m j G H _ _ E h λv H' r n x f b=>?_⟩;obtain⟨l,d,a,_⟩:=f.freeze x;split at b
 .rename_i i g;rw[g] at a;simp only[Rep] at a;show⟨i,a,k _ H' l d b⟩
 show b.elim
def ni(te:TD)(tl c:xT):TD:=λb Q=>te b λr=>tl b λlo=>c b λa=>match r.val with
 | .lst ds=>Q (.ow (jJ ds lo a))
 | .str z=>z.length<=sizeLine/\Q (.fz (.str (pC z lo a)))
 | .tup ds=>¬(HT.dS ds.length 0 lo=0/\HT.dS ds.length ds.length a=ds.length)/\Q (.fz (.tup (jJ ds lo a)))
 | _=>False
theorem Lu{K:J'}{G:Hp}{xs:List V}{ds:List D}(r:bX K G xs ds)(a b:Option Int):bX K G (tF xs a b) (jJ ds a b):=by
 unfold tF jJ;rw[r.length];show(r.drop _).take _
theorem oq{d f:Option Expr}{tl D:xT}{u:Pos}(he:PD X e te)(U:zi X d tl)(hh:zi X f D):PD X (.Subscript e (.Slice d f none u) pos) (ni te tl D):=by
 obtain⟨t1,R,N⟩:=he;obtain⟨Z,u,M⟩:=U;obtain⟨t3,O,L⟩:=hh;show⟨_,TK (ux.or (xa.or QG)) R u O,λo σ A y G H Q P E h k=>N o σ A y G H _ _ E h λv H' r G' x J T=>?_⟩;obtain⟨Y,t,I,_⟩:=J.freeze x;show M o σ A y Y H' _ _ (E.ext t) T λd V W q S=>?_
 show L o σ A y W V _ _ ((E.ext t).ext q) S λf F n C i=>?_
 have b:=(t.trans q).trans C;have c:=(I.mono q.g).mono C.g;split at i
 .rename_i ds l;rw[l] at c;simp only[Rep] at c;obtain⟨a,xs,rfl,w,m⟩:=c;show .inl ⟨a,xs,rfl,(b.s.fZ w).sq,λp j=>?_⟩;show k _ _ (.ow _) n (b.trans (.own b.s j)) ⟨p,_,rfl,b.h.free j,b.s.free j,gX,Lu m d f⟩ i
 .rename_i z l;rw[l] at c;simp only[Rep] at c;show .inr (.inl ⟨z,c,i.1,k _ _ _ n b (f9 (tM _ _ _)) i.2⟩)
 .rename_i ds l;rw[l] at c;simp only[Rep] at c;obtain⟨a,xs,rfl,w,m⟩:=c;show .inr (.inr ⟨a,xs,rfl,b.s.nu w,by rw[m.length];show i.1,λp j=>?_⟩);have B:Ext n F (upd n p (.tup (tF xs d f))) (upd F p (.tup (tF xs d f))):=.new b.s j;show k _ _ (.fz _) _ (b.trans B) ?_ i.2;show Rep X.K _ _ (.tup _);simp only[Rep];show⟨p,_,rfl,gX,(Lu m d f).mono B.g⟩
 show i.elim
def ja:e8:=λds Q=>match ds with
 | [.lst a]=>Q (.fz (.int a.length))
 | [.tup a]=>Q (.fz (.int a.length))
 | [.str z]=>z.length<=sizeLine/\Q (.fz (.int z.length))
 | _=>False
theorem j0:tH X (.builtin "len") ja:=by
 show⟨_,jz.or WH,λG H e ds Q P s rs h k=>?_⟩;unfold ja at h;split at h
 .obtain⟨v,rfl,b⟩:=mh rs;simp only[Rep] at b;obtain⟨a,xs,rfl,d,c⟩:=b;show .inl ⟨a,xs,rfl,.inl ((s.fZ d).sq),?_⟩;rw[c.length];show k _ _ _ G (.refl s) (f9 (kU _ _ _)) h
 .obtain⟨v,rfl,b⟩:=mh rs;simp only[Rep] at b;obtain⟨a,xs,rfl,d,c⟩:=b;show .inl ⟨a,xs,rfl,.inr (s.nu d),?_⟩;rw[c.length];show k _ _ _ G (.refl s) (f9 (kU _ _ _)) h
 .obtain⟨v,rfl,b⟩:=mh rs;simp only[Rep] at b;subst b;show .inr ⟨_,rfl,h.1,k _ _ _ G (.refl s) (f9 (kU _ _ _)) h.2⟩
 show h.elim
def Cs(i:Nat):TD:=λa Q=>match gt a i with
 | .ow ds=>Q (.fz (.int ds.length))
 | _=>False
theorem Sv(i:Nat){x:Str}{p b:Pos}(hm:X.mg "len"=none)(f:X.N[i]?=some x:=by rfl)(d:nR X.env.scope x:=by first | show Or.inl rfl | show Or.inr (Or.inl rfl) | show Or.inr (Or.inr rfl))(hg:Gl X "len":=by rfl)(hd:(x==("__debug__":Str))=false:=by decide)
  (c:(x==("__classdict__":Str))=false:=by decide) (m:starEach [Expr.Name x b] X.env=(false,eval (.Name x b) X.env)::starEach [] X.env:=by rfl):PD X (.Call (.Name "len" p) [.Name x b] [] pos) (Cs i):=by
 show⟨_,vm jz hg hm bW (m9 (rh f d hd c) oM m),λn σ t r G H Q P E h k=>?_⟩;unfold Cs at h;split at h
 .rename_i ds hg;obtain⟨a,xs,l,j,q,o,g⟩:=E.ow i ds hg;show⟨_,l,a,xs,rfl,.inl (eP.of j),?_⟩;rw[g.length];show k _ _ _ G (.refl E.e.s) (f9 (kU _ _ _)) h
 show h.elim
noncomputable def mU:List D->Option (List Bool)
 | []=>some []
 | .bl b::r=>(mU r).map (b::·)
 | _=>none
theorem Ge:∀{ds:List D}{bs:List Bool},mU ds=some bs->ds=bs.map D.bl
 | [],bs,h=>by simp[mU] at h;subst h;rfl
 | .bl b::r,bs,h=>by
  simp only[mU,aZ] at h;obtain⟨c,a,rfl⟩:=h;rw[Ge a];rfl
 | .non::r,bs,h=>by simp[mU] at h
 | .int _::r,bs,h=>by simp[mU] at h
 | .str _::r,bs,h=>by simp[mU] at h
 | .tup _::r,bs,h=>by simp[mU] at h
 | .lst _::r,bs,h=>by simp[mU] at h
 | .obj _ _::r,bs,h=>by simp[mU] at h
 | .dic _::r,bs,h=>by simp[mU] at h
 | .dit _::r,bs,h=>by simp[mU] at h
 | .exc _ _::r,bs,h=>by simp[mU] at h
theorem Fw{K:J'}{G:Hp}:∀{bs:List Bool}{a:List V},bX K G a (bs.map D.bl)->a=bs.map V.bl
 | [],[],_=>rfl
 | b::bs,v::a,h=>by
  simp only[ao,bX,Rep] at h;rw[h.1,Fw h.2];rfl
 | [],_::_,h=>by simp only[bL,bX] at h
 | _::_,[],h=>by simp only[ao,bX] at h
theorem LR{bs:List Bool}{a:List Value}(h:Vals (bs.map V.bl) a){i:Nat}{v:Value}(d:a[i]?=some v):∃b,bs[i]?=some b/\v=.bool b:=by
 have g:=h.length;have j:i<a.length:=(aj.mp d).1;have c:i<bs.length:=by rw[ae] at g;ext
 obtain⟨u,e,f⟩:=h.get (i:=i) (x:=V.bl bs[i]) (by simp[c]);rw[d] at e;cases e;show⟨bs[i],by simp[c],f⟩
theorem Ls{s:Shared}{h':Heap}{o:Obj}(a:∀b x,b∉[s.heap.objs.size]->(s.heap.push o).get? b=some x->h'.get? b=some x):∀b x,s.heap.get? b=some x->h'.get? b=some x:=
 λb x e=>a b x (λhm=>by rw[aK.mp hm] at e;show Nat.lt_irrefl _ (aI e)) (aq _ e)
theorem Su(bs:List Bool):((List.range bs.length).all λi=>(bs[i]?).getD true)=bs.all id:=by
 rw[Bool.eq_iff_iff];simp only[aM,List.mem_range,id];constructor
 .intro h b hb;obtain⟨i,a,rfl⟩:=List.mem_iff_getElem.mp hb;simpa[a] using h i a
 intro h i a;simpa[a] using h _ (aV a)
theorem Ss(bs:List Bool):((List.range bs.length).any λi=>(bs[i]?).getD false)=bs.any id:=by
 rw[Bool.eq_iff_iff];simp only[List.any_eq_true,List.mem_range,id];constructor
 .rintro⟨i,a,h⟩;show⟨bs[i],aV a,by simpa[a] using h⟩
 rintro⟨b,hb,h⟩;obtain⟨i,a,rfl⟩:=List.mem_iff_getElem.mp hb;show⟨i,a,by simpa[a] using h⟩
theorem Vi(l:X.calm=true):dD X (.builtin "all") (λxs H Q=>∃(p:Addr)(bs:List Bool),xs=[.ref p]/\eP X.K H p (bs.map V.bl)/\Q (.bl (bs.all id)) H):=by
 intro w s σ H xs us Q I r h;obtain⟨p,bs,rfl,g,q⟩:=h;obtain⟨u,rfl,f⟩:=mV r;cases f;obtain⟨its,c,a,hz⟩:=I.list g;have n:p<s.heap.objs.size:=by obtain⟨_,_,e,_⟩:=a;show aI e
 have j:its.length=bs.length:=by rw[<-c.length,ae]
 show call_all_walk (wpAny_pyIter_list a.isList ?_);show⟨s.heap.objs.size,[s.heap.objs.size,p],[s.heap.objs.size],its.toArray.size,_,_,λi=>(bs[i]?).getD true,rfl,Walks.list (A:=X.A.in1) (I.ok.hd l) _ p (aW n) its.toArray,
  ⟨⟨_,aF _ rfl,rfl,rfl⟩,a.isList.push _⟩,λi v o t x m d=>?_,λh' tk k=>?_⟩
 .obtain⟨b,e,rfl⟩:=LR c (i:=i) (v:=v) (by simpa using m);simp only[e,bg] at d;show bK d
 rw[aB,j,Su];show⟨.bl _,H,I.kept (Ls k),rfl,q⟩
theorem Vh(l:X.calm=true):dD X (.builtin "any") (λxs H Q=>∃(p:Addr)(bs:List Bool),xs=[.ref p]/\eP X.K H p (bs.map V.bl)/\Q (.bl (bs.any id)) H):=by
 intro w s σ H xs us Q I r h;obtain⟨p,bs,rfl,g,q⟩:=h;obtain⟨u,rfl,f⟩:=mV r;cases f;obtain⟨its,c,a,hz⟩:=I.list g;have n:p<s.heap.objs.size:=by obtain⟨_,_,e,_⟩:=a;show aI e
 have j:its.length=bs.length:=by rw[<-c.length,ae]
 show call_any_walk (wpAny_pyIter_list a.isList ?_);show⟨s.heap.objs.size,[s.heap.objs.size,p],[s.heap.objs.size],its.toArray.size,_,_,λi=>(bs[i]?).getD false,rfl,Walks.list (A:=X.A.in1) (I.ok.hd l) _ p (aW n) its.toArray,
  ⟨⟨_,aF _ rfl,rfl,rfl⟩,a.isList.push _⟩,λi v o t x m d=>?_,λh' tk k=>?_⟩
 .obtain⟨b,e,rfl⟩:=LR c (i:=i) (v:=v) (by simpa using m);simp only[e,bg] at d;show bK d
 rw[aB,j,Ss];show⟨.bl _,H,I.kept (Ls k),rfl,q⟩
def tw:e8:=λds Q=>match ds with
 | [.lst a]=>match mU a with
  | some bs=>Q (.fz (.bl (bs.all id)))
  | none=>False
 | _=>False
def zq:e8:=λds Q=>match ds with
 | [.lst a]=>match mU a with
  | some bs=>Q (.fz (.bl (bs.any id)))
  | none=>False
 | _=>False
theorem wI(e:X.calm=true):tH X (.builtin "all") tw:=by
 show⟨_,Vi e,λG H f ds Q P s rs h k=>?_⟩;unfold tw at h;split at h
 .split at h
  .rename_i g bs hb;obtain⟨v,rfl,b⟩:=mh rs;simp only[Rep] at b;obtain⟨a,xs,rfl,d,c⟩:=b;rw[Ge hb] at c;rw[Fw c] at d;show⟨a,bs,rfl,(s.fZ d).sq,k _ _ _ G (.refl s) (f9 (ky _ _ _)) h⟩
  show h.elim
 show h.elim
theorem Qp(e:X.calm=true):tH X (.builtin "any") zq:=by
 show⟨_,Vh e,λG H f ds Q P s rs h k=>?_⟩;unfold zq at h;split at h
 .split at h
  .rename_i g bs hb;obtain⟨v,rfl,b⟩:=mh rs;simp only[Rep] at b;obtain⟨a,xs,rfl,d,c⟩:=b;rw[Ge hb] at c;rw[Fw c] at d;show⟨a,bs,rfl,(s.fZ d).sq,k _ _ _ G (.refl s) (f9 (ky _ _ _)) h⟩
  show h.elim
 show h.elim
end
section
variable{X:Cx}{pos:Pos}{e:Expr}{te:TD}
noncomputable def qC:D->String
 | .non=>"NoneType"
 | .bl _=>"bool"
 | .int _=>"int"
 | .str _=>"str"
 | .tup _=>"tuple"
 | .lst _=>"list"
 | .obj _ _=>"object"
 | .dic _=>"dict"
 | .dit _=>"dict"
 | .exc _ _=>"object"
noncomputable def B6(t T:String):Bool:=(t==T)||(t=="bool"&&T=="int")
theorem yx{K:J'}{t T:String}(ht:t∈["NoneType","bool","int","str","tuple","list"])(a:T∈["bool","int","str","tuple","list"]):PySem.W.kitOne K (.type t) (.type T)=some (B6 t T):=by
 simp only[az,bV,or_false] at ht a;rcases ht with rfl | rfl | rfl | rfl | rfl | rfl<;>rcases a with rfl | rfl | rfl | rfl | rfl<;>(first | rfl | decide | (unfold PySem.W.kitOne PySem.W.kitCls;decide +kernel))
noncomputable def J7:D->Bool
 | .obj _ _=>false
 | .dic _=>false
 | .dit _=>false
 | .exc _ _=>false
 | _=>true
theorem Ui{T:String}(f:T∈["bool","int","str","tuple","list"]):dD X (.builtin "isinstance") (λxs H Q=>∃x d,xs=[x,.ty T]/\Rep X.K H x d/\J7 d=true/\Q (.bl (B6 (qC d) T)) H):=by
 intro p s σ H xs us Q I r h;obtain⟨x,d,rfl,b,g,q⟩:=h;obtain⟨u,c,rfl,e,rc⟩:=yk r;cases (show c=Value.type T from rc);have fin:∀tk,EP X p σ Q (.bool (B6 (qC d) T)) { s with toks:=tk }:=λtk=>⟨.bl _,H,I.tok tk,rfl,q⟩
 cases d with
 | non=>simp only[Rep] at b;subst b;cases (show u=Value.none from e);show PySem.W.kia_one PySem.W.kitx_none I.nB True.intro (yx (by simp) f) (λz=>nomatch z) fin
 | bl y=>simp only[Rep] at b;subst b;cases (show u=Value.bool y from e);show PySem.W.kia_one PySem.W.kitx_bool I.nB True.intro (yx (by simp) f) (λz=>nomatch z) fin
 | int i=>simp only[Rep] at b;subst b;obtain⟨t,j⟩:=(show ∃t,u=Value.int i t from e);cases j;show PySem.W.kia_one PySem.W.kitx_int I.nB True.intro (yx (by simp) f) (λz=>nomatch z) fin
 | str y=>simp only[Rep] at b;subst b;obtain⟨t,j⟩:=(show ∃t,u=Value.str y t from e);cases j;show PySem.W.kia_one PySem.W.kitx_str I.nB True.intro (yx (by simp) f) (λz=>nomatch z) fin
 | tup ds=>
  simp only[Rep] at b;obtain⟨a,xs,rfl,k,_⟩:=b;cases (show u=Value.ref a from e);obtain⟨its,_,ht,_⟩:=I.tuple (fk.of k);obtain⟨o,m,l,_⟩:=ht;show PySem.W.kia_one PySem.W.kitx_tuple I.nB ⟨o,m,l⟩ (yx (by simp) f) (λz=>nomatch z) fin
 | lst ds=>
  simp only[Rep] at b;obtain⟨a,xs,rfl,k,_⟩:=b;cases (show u=Value.ref a from e);obtain⟨its,_,ht,_⟩:=I.list k.sq;obtain⟨o,n,m,l,_⟩:=ht;show PySem.W.kia_one PySem.W.kitx_list I.nB ⟨o,m,l⟩ (yx (by simp) f) (λz=>nomatch z) fin
 | obj=>cases g
 | dic=>cases g
 | dit=>cases g
 | exc=>cases g
def EC(T:String)(te:TD):TD:=λa Q=>te a λr=>J7 r.val=true/\Q (.fz (.bl (B6 (qC r.val) T)))
theorem Q3{T:String}{a:Str}{p b:Pos}(he:PD X e te)(hm:X.mg "isinstance"=none)(m:X.mg a=none)(o:bootBuiltins a=some (.type T))(w:T∈["bool","int","str","tuple","list"]:=by decide)(hg:Gl X "isinstance":=by rfl)(l:Gl X a:=by rfl)(hn:a≠"__name__":=by decide)
  (hd:(a==("__debug__":Str))=false:=by decide) (f:starEach [e,Expr.Name a b] X.env=(false,eval e X.env)::starEach [Expr.Name a b] X.env:=by rfl) (n:starEach [Expr.Name a b] X.env=(false,eval (.Name a b) X.env)::starEach [] X.env:=by rfl)
  (u:(backTo pos (starEach [Expr.Name a b] X.env)).any (·.1)=false:=by rfl):PD X (.Call (.Name "isinstance" p) [e,.Name a b] [] pos) (EC T te):=by
 obtain⟨t,pp,q⟩:=he;show⟨_,vm (Ui w) hg hm boot_isinstance (m9 pp (m9 (LB (v:=.ty T) l m o rfl hn hd) oM n) f) (by decide) (by decide) f u,λg σ A y G H Q P E h k=>q g σ A y G H _ _ E h λv H' r B x j d=>?_⟩;obtain⟨z,c,i,_⟩:=j.freeze x;show⟨v,r.val,rfl,i.mono c.s,d.1,k _ _ _ z c (f9 (ky _ _ _)) d.2⟩
end
section
variable{P:Program}{w:World}{K:J'}{mg:Str->Option Value}{base:Heap}
structure Known(P:Program)(w:World)(K:J')(mg:Str->Option Value)(base:Heap)(k:Nat)(x:Str)(n:Nat)(t:e8):Prop where
 ex:∃(f:Addr)(fd:FuncData)(ps:List Str),jY P w K mg base qS k f fd ps (zh K n t)/\mg x=some (.ref f)/\PySem.W.keepIn K (.ref f)=true/\Binds K fd ps []
structure At(K:J')(mg:Str->Option Value)(x:Str)(st:Stmt):Prop where
 ex:∃(f:Addr)(fd:FuncData),OJ K x x st f fd/\mg x=some (.ref f)
theorem sY{h:Heap}{x:Str}{st:Stmt}{f:Addr}{j:Value}{i m:Option Addr}{e:Array (Option Value)}{kV b g d ct:Value}(X:K.In h)(G:h.Ns mainGlobals mg)(a:PySem.W.nsIn K mainGlobals x=some (some (.ref f)))
  (l:K.lookup f=some ⟨j,i,.func (PySem.W.fnOf x x (gn st) (dz st) (b9 st) .none kV b g m d ct),e⟩) (c:PySem.W.codeIn K d x=true) (k:PySem.W.keepIn K (.ref f)=true):At K mg x st:=
 ⟨f,_,QA l c k,bT X G a⟩
theorem jx{h:Heap}{x:Str}{u:Value}{z:Str}{t:Tok}(X:K.In h)(G:h.Ns mainGlobals mg)(c:PySem.W.nsIn K mainGlobals x=some (some u))(e:u=.str z t):∃t,mg x=some (.str z t):=⟨t,by rw[bT X G c,e]⟩
end
section
variable{X:Cx}{k k' n:Nat}{t:e8}{x:Str}{p pos:Pos}{e:Expr}{es:List Expr}{ts:ix}
theorem fA(C:Known X.prog X.w X.K X.mg X.base k x n t)(b:eQ k' X.A)(ha:md X (e::es) ts)(c:k<=k':=by decide)(hg:Gl X x:=by rfl)(a:(x==("__debug__":Str))=false:=by decide)
  (he:starEach (e::es) X.env=(false,eval e X.env)::starEach es X.env:=by rfl) (d:(backTo pos (starEach es X.env)).any (·.1)=false:=by rfl):PD X (.Call (.Name x p) (e::es) [] pos) (fc n t ts):=by
 obtain⟨f,fd,ps,F,hm,kp,hb⟩:=C.ex;show Sw F (b.mono c) hm kp hb ha hg a he d
end
noncomputable def Lr(a:Str->Option NameKind)(N N':List Str)(m:List (Option Nat))(scope:Scope):Bool:=
 (scope.kind==.function)&&(m.length==N'.length)&&(scope.names.all λy=>scope.names.lookup y.1==some y.2) &&
 (scope.names.all λy=>y.2 != .free||a y.1==some .cell||a y.1==some .free) &&
 ((m.zip N').all λp=>match p.1 with
   | none=>true
   | some j=>N[j]?==some p.2&&scope.names.lookup p.2==some .free)
theorem cK.of{X:Cx}{N':List Str}{m:List (Option Nat)}{scope:Scope}(h:Lr X.env.kindOf X.N N' m scope=true):cK X N' m scope:=by
 unfold Lr at h;simp only[aT,beq_iff_eq,aM,Bool.or_eq_true,bne_iff_ne,ne_eq] at h;obtain⟨⟨⟨⟨k,g⟩,f⟩,d⟩,c⟩:=h;show⟨k,g,λy a=>f y a,λy a e=>?_,λi j x hm b=>?_⟩
 .rcases d y a with(z | z) | z
  .exact absurd e z
  .exact .inl z
  show .inr z
 have hz:(some j,x)∈m.zip N':=by
  apply aw (i:=i);rw[List.getElem?_zip_eq_some];show⟨hm,b⟩
 have:=c _ hz;simpa using this
theorem Vz{K:J'}{G:Hp}{a:Addr}{b:List Int}(h:kP K G a (b.map V.int)):Rep K G (.ref a) (.lst (b.map D.int)):=by
 simp only[Rep];show⟨a,_,rfl,h,?_⟩;clear h;induction b with
 | nil=>show bX.nil
 | cons n r c=>show bX.cons (kU _ _ _) c
def EN(n:Nat):e8:=λds Q=>∃ns:List Int,ds=[.lst (ns.map .int)]/\ns.length<=n/\Q (.fz (.bl true))
theorem qB{l:PySem.W.OpenLaw}{n k:Nat}{q:Program}{c:List Str}{P:(Str->Option Value)->Heap->Prop}{A:World->Heap->Prop}{d:DefRec}{K:Params->J'}{x:Str}
  (hn:l.most=some n) (O:n<=sizeLine) (Q:d.params.defaults=[]) (C:eQ k callerA) (D:∀(w:World)(h:Heap),A w h->(K w.params).In h)
  (F:∀(w:World)(mg:Str->Option Value)(fa:Addr)(h:Heap),(K w.params).In h->h.Ns mainGlobals mg->mg d.name=some (.ref fa)->
   ∃fd:FuncData,(∀(s:Shared)(u:Value),BindsTo s fd ⟨[u],[]⟩ [(x,u)])/\∀base:Heap,jY l.prog w (K w.params) mg base qS k fa fd [x] (zh (K w.params) 1 (EN n))) :
  PySem.W.WalkO q c P A l.row.toRowW d [] (λf i=>PySem.call f i):=by
 show OL.nQ hn Q λw dA cH mg S fa o pm cd doc a i ns G Y X hd U uL t hints hlen hg=>?_
 have KX:=D w _ Y;obtain⟨fd,hb,I⟩:=F w mg fa _ KX G.T.g uL;show TH KX G.T.g G.T.b G.T.builtins G.T.nolimit hg t hints (aR hlen O) C (λbase _ _=>I base) hb (λH Z j=>?_) λH e R z=>z
 have E:kP (K w.params) H a (ns.map V.int):=by
  rcases j with j | ⟨o,its,m,y,h2,h3,M,L,J⟩
  .exact .inl j
  have e:=KX a o y;rw[t] at e;cases e;have p:Data.seq i.toArray _=Data.seq its m:=M;injection p with N e2
  subst N;show .inr ⟨_,_,y,L,J⟩
 show⟨H,[.lst (ns.map .int)],λr=>r=.fz (.bl true),cw.refl _,bX.cons (Vz E) bX.nil,rfl,⟨ns,rfl,hlen,rfl⟩,λv H' r G' _ B e=>?_⟩;subst e;simpa only[ee,Rep] using B
theorem Q2{P:Program}{w:World}{K:J'}{mg:Str->Option Value}{st:Stmt}{N:List Str}{x:Str}{k:Nat}{t:e8}{T:Heap->TX}{fa:Addr}(d:At K mg "law" st)(uL:mg "law"=some (.ref fa))(S:ck N [x] (b9 st))
  (hb:∀(kV doc pm:Value)(an:Option Addr)(a ct:Value)(us:List Value),us.length=1->bindArgs (PySem.W.fnOf "law" "law" (gn st) (dz st) (b9 st) .none kV doc pm an a ct) ⟨us,[]⟩=pure ([x].zip us))
  (body:∀(base:Heap)(f:Addr)(a:Value)(A:Around)(outer:List Env)(s:Shared)(H:Hp)(E:XK),eQ k (A.deeper (envOfC "law" (b9 st) s.heap.objs.size f a))->oC (pG qS P w K mg base N "law" (b9 st) f a A outer s H E).vA (dz st) (T base))
  (b:∀(base:Heap)(ds:List D)(c:R->Prop),ds.length=1->t ds c->T base { nx:=λ_=>c (.fz .non),rt:=c } (tJ N ds)) :
  ∃fd:FuncData,(∀(s:Shared)(u:Value),BindsTo s fd ⟨[u],[]⟩ [(x,u)])/\∀base:Heap,jY P w K mg base qS (k+1) fa fd [x] (zh K 1 t):=by
 obtain⟨f,fd,F,hm⟩:=d.ex;rw[uL] at hm;cases hm;show⟨fd,λs u=>?_,λbase=>Lv F S (body base fa) (b base)⟩;obtain⟨h,g,kV,doc,pm,an,a,ct,e,rfl,lk,i⟩:=F.ex;show .of_eq (hb kV doc pm an a ct [u] rfl)
def wz(i:Nat)(t:TX):TX:=λD a=>t D (lF i a)
theorem Q1(d:D):(R.fz d).val=d:=rfl
theorem yw(ds:List D):(R.ow ds).val=.lst ds:=rfl
theorem Qo(d:D):(R.fz d).sl=.fz d:=rfl
theorem Qn(ds:List D):(R.ow ds).sl=.ow ds:=rfl
theorem FN{α:Type}{k:kd}{m:List (Option Nat)}{g:jI}{tc:iU}{te:TD}{c:Ev}{Q:R->Prop}(L:List α)(j:α->D)(f:α->Option D)(hw:∀n:List D->Prop,n (L.map j)->k c n)(s:L.length<=sizeLine)
  (h:∀x∈L,∀(o:D->Prop)(p:Prop),(∀e,f x=some e->o e)->(f x=none->p)->g (j x) (gW m c) λl=>tc l λb=>if b=true then te l λr=>o r.val else p)
  (q:Q (.ow (L.filterMap f))):gY k m g tc te c Q:=by
 show hw _ ⟨λi acc=>acc=(L.take i).filterMap f,rfl,λi d acc hd ha=>?_,λacc ha=>?_⟩
 .rw[ar] at hd;cases a:L[i]? with
  | none=>rw[a] at hd;cases hd
  | some x=>
   rw[a] at hd;cases hd;have t:i<L.length:=(aj.mp a).1;have e:L.take (i+1)=L.take i++[x]:=by rw[bo,a];rfl
   have hlen:acc.length<sizeLine:=by
    rw[ha];show Nat.lt_of_le_of_lt (List.length_filterMap_le _ _) ?_;rw[aP];ext
   show h x (aw a) (λe=>acc.length<sizeLine/\acc++[e]=(L.take (i+1)).filterMap f) (acc=(L.take (i+1)).filterMap f)
    (λz hz=>⟨hlen,by rw[e,List.filterMap_append,ha];simp[hz]⟩) (λhz=>by rw[e,List.filterMap_append,ha];simp[hz])
 dsimp only at ha;rw[ae,bI] at ha;rw[ha];show q
theorem lD{α:Type}{i:kd}{m:List (Option Nat)}{g:jI}{te:TD}{d:Ev}{Q:R->Prop}(L:List α)(c f:α->D)(hw:∀j:List D->Prop,j (L.map c)->i d j)(l:L.length<=sizeLine)
  (h:∀x∈L,∀(b:D->Prop),b (f x)->g (c x) (gW m d) λo=>te o λr=>b r.val) (q:Q (.ow (L.map f))):gY i m g iD te d Q:=by
 show FN L c (λx=>some (f x)) hw l (λx k b s n _=>?_) ?_
 .have:=h x k b (n _ rfl);simpa[iD] using this
 have e:L.filterMap (λx=>some (f x))=L.map f:=by
  induction L with
  | nil=>rfl
  | cons a r p=>simp
 rw[e];show q
theorem Dt{α:Type}{k:kd}{m:List (Option Nat)}{g:jI}{tc:iU}{te:TD}{j:Ev}{Q:R->Prop}(L:List α)(i f:α->D)(p:α->Bool)(hw:∀o:List D->Prop,o (L.map i)->k j o)(l:L.length<=sizeLine)
  (h:∀x∈L,∀(c:D->Prop)(d:Prop),(p x=true->c (f x))->(p x=false->d)->g (i x) (gW m j) λn=>tc n λb=>if b=true then te n λr=>c r.val else d)
  (q:Q (.ow ((L.filter p).map f))):gY k m g tc te j Q:=by
 show FN L i (λx=>if p x=true then some (f x) else none) hw l (λx t c d u h0=>h x t c d (λz=>u _ (by simp[z])) (λz=>h0 (by simp[z]))) ?_;have e:L.filterMap (λx=>if p x=true then some (f x) else none)=(L.filter p).map f:=by
  clear h l hw q;induction L with
  | nil=>rfl
  | cons a r s=>by_cases z:p a=true<;>simp[z,s]
 rw[e];show q
theorem LQ{c:kd}{g:jI}{e:TX}{D:DE}{b:Ev}(ds:List L2.D)(hw:∀f:List L2.D->Prop,f ds->c b f)(a:Nat->Ev->Prop)(h:a 0 b)
  (turn:∀i d ρ',ds[i]?=some d->a i ρ'->g d ρ' λj=>e { D with nx:=a (i+1),ct:=a (i+1),bk:=D.nx } j) (fin:∀ρ',a ds.length ρ'->D.nx ρ'):jb c g e D b:=hw _ ⟨a,h,turn,fin⟩
theorem tO{α:Type}{h:kd}{g:jI}{j:TX}{D:DE}{c:Ev}(L:List α)(b:α->L2.D)(hw:∀k:List L2.D->Prop,k (L.map b)->h c k)(a:Nat->Ev->Prop)(l:a 0 c)
  (turn:∀i x ρ',L[i]?=some x->a i ρ'->g (b x) ρ' λm=>j { D with nx:=a (i+1),ct:=a (i+1),bk:=D.nx } m) (fin:∀ρ',a L.length ρ'->D.nx ρ'):jb h g j D c:=by
 show LQ (L.map b) hw a l (λi d ρ' hd e=>?_) (λρ' e=>fin ρ' (by simpa using e));rw[ar] at hd;cases f:L[i]? with
 | none=>rw[f] at hd;cases hd
 | some x=>rw[f] at hd;cases hd;show turn i x ρ' f e
theorem tQ{g:jI}{e:TX}{D:DE}{b:Ev}{d:kd}(n:Nat)(hw:∀f:List L2.D->Prop,f ((List.range n).map λ(i:Nat)=>.int (0+i))->d b f)(a:Nat->Ev->Prop)(o:a 0 b)
  (turn:∀(i:Nat) ρ',i<n->a i ρ'->g (.int i) ρ' λp=>e { D with nx:=a (i+1),ct:=a (i+1),bk:=D.nx } p) (fin:∀ρ',a n ρ'->D.nx ρ'):jb d g e D b:=by
 show tO (List.range n) (λ(i:Nat)=>.int (0+i)) hw a o (λi x ρ' h c=>?_) (λρ' c=>fin ρ' (by simpa using c));obtain⟨m,l⟩:=aj.mp h;have k:i<n:=by simpa using m
 have j:x=i:=by rw[<-l];simp
 subst j;rw[Int.zero_add];show turn x ρ' k c
theorem YI:(10:Int) ^ Int.toNat 24=1000000000000000000000000:=by decide
theorem YH:(10:Int) ^ Int.toNat 30=1000000000000000000000000000000:=by decide
theorem Q0:wx 10 24=True:=by simp only[wx,eq_iff_iff,iff_true];decide
theorem QZ:wx 10 30=True:=by simp only[wx,eq_iff_iff,iff_true];decide
section
variable{X:Cx}{pos:Pos}{e:Expr}{te:TD}{es:List Expr}{ts:ix}
def Ci(t:TD):TD:=λa Q=>t a λr=>match r.val with
 | .int i=>Q (.fz (.int (-i)))
 | _=>False
theorem KO(h:PD X e te):PD X (.UnaryOp .USub e pos) (Ci te):=by
 obtain⟨t,p,q⟩:=h;show⟨_,Qa QJ p,λc σ m j G H Q P E h k=>q c σ m j G H _ _ E h λv H' r n x f b=>?_⟩;obtain⟨l,d,a,_⟩:=f.freeze x;split at b
 .rename_i i g;rw[g] at a;simp only[Rep] at a;show⟨i,a,k _ _ _ l d (f9 (kU _ _ _)) b⟩
 show b.elim
def Qm:e8:=λds Q=>match ds with
 | [.lst es]=>Q (.ow es)
 | [.tup es]=>Q (.ow es)
 | _=>False
def Cg:e8:=λds Q=>match ds with
 | [.int i]=>Q (.fz (.int i))
 | [.bl b]=>Q (.fz (.int (if b then 1 else 0)))
 | _=>False
theorem Ql:tH X (.type "int") Cg:=by
 show⟨_,U6,λG H b ds Q P s rs h k=>?_⟩;unfold Cg at h;split at h
 .obtain⟨v,rfl,a⟩:=mh rs;simp only[Rep] at a;subst a;show .inl ⟨_,rfl,k _ _ _ G (.refl s) (f9 (kU _ _ _)) h⟩
 .obtain⟨v,rfl,a⟩:=mh rs;simp only[Rep] at a;subst a;show .inr ⟨_,rfl,k _ _ _ G (.refl s) (f9 (kU _ _ _)) h⟩
 show h.elim
noncomputable def lW:List D->Option (List Int)
 | []=>some []
 | .int b::r=>(lW r).map (b::·)
 | _=>none
theorem Dh:∀{ds:List D}{bs:List Int},lW ds=some bs->ds=bs.map D.int
 | [],bs,h=>by simp[lW] at h;subst h;rfl
 | .int b::r,bs,h=>by
  simp only[lW,aZ] at h;obtain⟨c,a,rfl⟩:=h;rw[Dh a];rfl
 | .non::r,bs,h=>by simp[lW] at h
 | .bl _::r,bs,h=>by simp[lW] at h
 | .str _::r,bs,h=>by simp[lW] at h
 | .tup _::r,bs,h=>by simp[lW] at h
 | .lst _::r,bs,h=>by simp[lW] at h
 | .obj _ _::r,bs,h=>by simp[lW] at h
 | .dic _::r,bs,h=>by simp[lW] at h
 | .dit _::r,bs,h=>by simp[lW] at h
 | .exc _ _::r,bs,h=>by simp[lW] at h
theorem GA(bs:List Int):lW (bs.map D.int)=some bs:=by
 induction bs with
 | nil=>rfl
 | cons b r a=>simp[lW,a]
theorem Df{K:J'}{G:Hp}:∀{bs:List Int}{a:List V},bX K G a (bs.map D.int)->a=bs.map V.int
 | [],[],_=>rfl
 | b::bs,v::a,h=>by
  simp only[ao,bX,Rep] at h;rw[h.1,Df h.2];rfl
 | [],_::_,h=>by simp only[bL,bX] at h
 | _::_,[],h=>by simp only[ao,bX] at h
theorem Gz{a:List Value}{b:List Int}(c:IntsAre a b):∃xs:Array (Int×Tok),a.toArray=intItems xs/\b=xs.toList.map (·.1):=by
 obtain⟨xs,e⟩:=c.allInts.items;show⟨xs,e,by rw[<-c.numsOf,<-nums_intItems,<-e]⟩
theorem Vg(j:X.calm=true):dD X (.builtin "sum") (λxs H Q=>∃(p:Addr)(ns:List Int),xs=[.ref p]/\eP X.K H p (ns.map V.int)/\Q (.int ns.sum) H):=by
 intro l s σ H xs us Q I r h;obtain⟨p,ns,rfl,g,q⟩:=h;obtain⟨u,rfl,c⟩:=mV r;cases c;obtain⟨its,b,d,hz⟩:=I.list g;obtain⟨ys,e,f⟩:=Gz (Di b);have a:=d.isList;rw[e] at a;show sum_intListG (I.ok.hd j) a λh' tk t' i=>?_
 have k:preSum (numAt ys) ys.size=ns.sum:=by
  rw[preSum_eq,List.take_of_length_le (by simp),f]
 rw[k];show⟨.int _,H,I.kept i,⟨_,rfl⟩,q⟩
theorem zrJ(x:X.calm=true):dD X (.builtin "min") (λxs H Q=>∃(p:Addr)(ns:List Int),xs=[.ref p]/\eP X.K H p (ns.map V.int)/\ns≠[]/\∀M,M∈ns->(∀a∈ns,M<=a)->Q (.int M) H):=by
 intro A s σ H xs us Q I r h;obtain⟨p,ns,rfl,n,f,q⟩:=h;obtain⟨u,rfl,k⟩:=mV r;cases k;obtain⟨its,i,l,hz⟩:=I.list n;obtain⟨ys,e,c⟩:=Gz (Di i);have d:=l.isList;rw[e] at d;have hsz:0<ys.size:=by
  cases g:ys.toList with
  | nil=>rw[c,g] at f;show absurd rfl f
  | cons a b=>have:ys.toList.length=b.length+1:=by rw[g];rfl
              rw[aO] at this;ext
 show min_intList (I.ok.hd x) d hsz λv h' tk m o=>?_
 obtain⟨t,rfl⟩:=intItems_at m;obtain⟨z,y⟩:=argBest_lt (numAt ys) (ys.size-1);show⟨.int _,H,I.kept o,⟨_,rfl⟩,q _ ?_ λa ha=>?_⟩
 .rw[c,numAt_eq];show getD_mem (by rw[ae,aO];ext)
 rw[c] at ha;obtain⟨j,w,rfl⟩:=mem_getD ha;rw[ae,aO] at w;rw[<-numAt_eq];show y j (by ext)
theorem Vf(x:X.calm=true):dD X (.builtin "max") (λxs H Q=>∃(p:Addr)(ns:List Int),xs=[.ref p]/\eP X.K H p (ns.map V.int)/\ns≠[]/\∀M,M∈ns->(∀a∈ns,a<=M)->Q (.int M) H):=by
 intro A s σ H xs us Q I r h;obtain⟨p,ns,rfl,n,f,q⟩:=h;obtain⟨u,rfl,k⟩:=mV r;cases k;obtain⟨its,i,l,hz⟩:=I.list n;obtain⟨ys,e,c⟩:=Gz (Di i);have d:=l.isList;rw[e] at d;have hsz:0<ys.size:=by
  cases g:ys.toList with
  | nil=>rw[c,g] at f;show absurd rfl f
  | cons a b=>have:ys.toList.length=b.length+1:=by rw[g];rfl
              rw[aO] at this;ext
 show max_intList (I.ok.hd x) d hsz λv h' tk m o=>?_
 obtain⟨t,rfl⟩:=intItems_at m;obtain⟨z,y⟩:=argBest_gt (numAt ys) (ys.size-1);show⟨.int _,H,I.kept o,⟨_,rfl⟩,q _ ?_ λa ha=>?_⟩
 .rw[c,numAt_eq];show getD_mem (by rw[ae,aO];ext)
 rw[c] at ha;obtain⟨j,w,rfl⟩:=mem_getD ha;rw[ae,aO] at w;rw[<-numAt_eq];show y j (by ext)
def u4:e8:=λds Q=>match ds with
 | [.lst es]=>match lW es with
  | some ns=>Q (.fz (.int ns.sum))
  | none=>False
 | _=>False
theorem zB(e:X.calm=true):tH X (.builtin "sum") u4:=by
 show⟨_,Vg e,λG H f ds Q P s rs h k=>?_⟩;unfold u4 at h;split at h
 .split at h
  .rename_i es bs hb;obtain⟨v,rfl,b⟩:=mh rs;simp only[Rep] at b;obtain⟨a,xs,rfl,d,c⟩:=b;rw[Dh hb] at c;rw[Df c] at d;show⟨a,bs,rfl,(s.fZ d).sq,k _ _ _ G (.refl s) (f9 (kU _ _ _)) h⟩
  show h.elim
 show h.elim
def zuw:e8:=λds Q=>match ds with
 | [.lst es]=>match lW es with
  | some ns=>ns≠[]/\∀M,M∈ns->(∀a∈ns,M<=a)->Q (.fz (.int M))
  | none=>False
 | [.int i,.int j]=>Q (.fz (.int (if j<i then j else i)))
 | _=>False
def Cf:e8:=λds Q=>match ds with
 | [.lst es]=>match lW es with
  | some ns=>ns≠[]/\∀M,M∈ns->(∀a∈ns,a<=M)->Q (.fz (.int M))
  | none=>False
 | [.int i,.int j]=>Q (.fz (.int (if j>i then j else i)))
 | _=>False
theorem Qk(d:X.calm=true):tH X (.builtin "max") Cf:=by
 show⟨_,(Vf d).or (U7 d),λG H j ds Q P s rs h k=>?_⟩;unfold Cf at h;split at h
 .split at h
  .rename_i es bs hb;obtain⟨v,rfl,b⟩:=mh rs;simp only[Rep] at b;obtain⟨a,xs,rfl,f,e⟩:=b;rw[Dh hb] at e;rw[Df e] at f;show .inl ⟨a,bs,rfl,(s.fZ f).sq,h.1,λM i g=>k _ _ _ G (.refl s) (f9 (kU _ _ _)) (h.2 M i g)⟩
  show h.elim
 .obtain⟨v,u,rfl,b,c⟩:=Ct rs;simp only[Rep] at b c;subst b c;show .inr ⟨_,_,rfl,k _ _ _ G (.refl s) (f9 (kU _ _ _)) h⟩
 show h.elim
noncomputable def nk:List D->Option (List Str)
 | []=>some []
 | .str b::r=>(nk r).map (b::·)
 | _=>none
theorem Nb:∀{ds:List D}{bs:List Str},nk ds=some bs->ds=bs.map D.str
 | [],bs,h=>by simp[nk] at h;subst h;rfl
 | .str b::r,bs,h=>by
  simp only[nk,aZ] at h;obtain⟨c,a,rfl⟩:=h;rw[Nb a];rfl
 | .non::r,bs,h=>by simp[nk] at h
 | .bl _::r,bs,h=>by simp[nk] at h
 | .int _::r,bs,h=>by simp[nk] at h
 | .tup _::r,bs,h=>by simp[nk] at h
 | .lst _::r,bs,h=>by simp[nk] at h
 | .obj _ _::r,bs,h=>by simp[nk] at h
 | .dic _::r,bs,h=>by simp[nk] at h
 | .dit _::r,bs,h=>by simp[nk] at h
 | .exc _ _::r,bs,h=>by simp[nk] at h
theorem wU(bs:List Str):nk (bs.map D.str)=some bs:=by
 induction bs with
 | nil=>rfl
 | cons b r a=>simp[nk,a]
theorem LP{K:J'}{G:Hp}:∀{bs:List Str}{a:List V},bX K G a (bs.map D.str)->a=bs.map V.str
 | [],[],_=>rfl
 | b::bs,v::a,h=>by
  simp only[ao,bX,Rep] at h;rw[h.1,LP h.2];rfl
 | [],_::_,h=>by simp only[bL,bX] at h
 | _::_,[],h=>by simp only[ao,bX] at h
theorem Vy{c:List Str}:∀{us:List Value},Vals (c.map V.str) us->StrsAre us c:=by
 induction c with
 | nil=>
  intro us h;cases h;show .nil
 | cons n r d=>
  intro us h;cases h with
  | cons a b=>
   obtain⟨t,rfl⟩:=a;show .cons _ _ (d b)
def zta:e8:=λds Q=>match ds with
 | [.lst es]=>match nk es with
  | some ss=>ss.length<64/\∀a:List Str,a.Perm ss->sortedS a=true->Q (.ow (a.map D.str))
  | none=>match lW es with
   | some ns=>ns.length<64/\∀b:List Int,b.Perm ns->b.Pairwise (·<=·)->Q (.ow (b.map D.int))
   | none=>False
 | _=>False
def Ee(X:Cx)(id:String)(o:D->List D->(R->Prop)->Prop):Prop:=∃r,Jp X id r/\∀(G H:Hp)(x:V)(d:D)(a:List V)(ds:List D)(Q:R->Prop)(P:VK),cw G H->Rep X.K G x d->bX X.K G a ds->o d ds Q->
 (∀v H' b c,Ext G H c H'->ee X.K c H' H v b->Q b->P v H')->r x a H P
def dM(T:String)(o:D->List D->(R->Prop)->Prop)(te:TD)(ts:ix):TD:=λa Q=>te a λr=>qC r.val=T/\ts a λds=>o r.val ds Q
theorem Sr{K:J'}{G H:Hp}{x:V}{d:D}{T:String}(s:cw G H)(r:Rep K G x d)(h:qC d=T)(b:T="list"\/T="str"):Ar K T x H:=by
 cases d with
 | str z=>simp only[Rep] at r;subst r;show h.symm
 | lst ds=>
  simp only[Rep] at r;obtain⟨a,xs,rfl,c,_⟩:=r;show .inl ⟨h.symm,xs,(s.fZ c).sq⟩
 | non=>subst h;rcases b with h | h<;>simp[qC] at h
 | bl=>subst h;rcases b with h | h<;>simp[qC] at h
 | int=>subst h;rcases b with h | h<;>simp[qC] at h
 | tup=>subst h;rcases b with h | h<;>simp[qC] at h
 | obj=>subst h;rcases b with h | h<;>simp[qC] at h
 | dic=>subst h;rcases b with h | h<;>simp[qC] at h
 | dit=>subst h;rcases b with h | h<;>simp[qC] at h
 | exc=>subst h;rcases b with h | h<;>simp[qC] at h
theorem rV{T id:String}{name:Str}{i:Pos}{a:Expr}{o:D->List D->(R->Prop)->Prop}(hm:Ee X id o)(S:T="list"\/T="str")(C:PlainAttrs T)(slot:Slot T name id)(A4:typeOf (.builtin id)=pure (.type "method_descriptor"))
  (he:PD X e te) (ha:md X (a::es) ts) (M:attributeBase e name X.env (eval e X.env)=eval e X.env:=by rfl)
  (n:((backTo pos (starEach (a::es) X.env)).all (λx=>!x.1)&&(backToKw pos (keywordEach [] X.env)).all (λx=>x.1.isSome)
   && decide ((a::es).length+([]:List Keyword).length+(if ([]:List Keyword).isEmpty then 0 else 1)<30))=true:=by rfl)
  (L:(i.endLine==pos.line)=true:=by rfl) (N:starEach (a::es) X.env=(false,eval a X.env)::starEach es X.env:=by rfl) (J:(backTo pos (starEach es X.env)).any (·.1)=false:=by rfl) :
  PD X (.Call (.Attribute e name i) (a::es) [] pos) (dM T o te ts):=by
 obtain⟨r,O,K⟩:=hm;obtain⟨t1,I,B⟩:=he;obtain⟨t2,F,A⟩:=ha;show⟨_,zA C slot A4 O I F M n L N J,λd σ m l G H Q P E h k=>B d σ m l G H _ _ E h λv H' y G' x u j=>?_⟩;obtain⟨G2,c,f,_⟩:=u.freeze x;show⟨Sr c.s f j.1 S,A d σ m l G2 H' _ _ (E.ext c) j.2 λt Y ds G3 b rs U=>?_⟩;show K G3 Y v y.val t ds Q P b.s (f.mono b.g) rs U λq W w Z p V z=>k q W w Z ((c.trans b).trans p) (V.iq (c.trans b).h) z
def oG:D->List D->(R->Prop)->Prop:=λd ds Q=>match d,ds with
 | .str x,[.lst es]=>match nk es with
  | some ys=>(ys.map (·.length)).sum+ys.length*x.length<=16777216/\Q (.fz (.str (Txt.join x ys)))
  | none=>False
 | _,_=>False
theorem yv:Ee X "str.join" oG:=by
 show⟨λx e H Q=>∃(z:Str)(p:Addr)(ys:List Str),x=.str z/\e=[.ref p]/\eP X.K H p (ys.map V.str)/\(ys.map (·.length)).sum+ys.length*z.length<=16777216/\Q (.str (Txt.join z ys)) H,λn s σ H x xs v us Q I b rs h=>?_,λG H x d e ds Q P s b rs h k=>?_⟩
 .obtain⟨z,p,ys,rfl,rfl,m,hz,q⟩:=h;obtain⟨t,rfl⟩:=b;obtain⟨u,rfl,i⟩:=mV rs;cases i;obtain⟨its,c,j,_⟩:=I.list m;show join_list j.isList (by simpa using Vy c) hz λt' k=>⟨.str _,H,I.tok _,⟨_,rfl⟩,q⟩
 unfold oG at h;split at h
 .split at h
  .rename_i z es ys l;obtain⟨v,rfl,c⟩:=mh rs;simp only[Rep] at c b;obtain⟨a,xs,rfl,g,f⟩:=c;rw[Nb l] at f;rw[LP f] at g;show⟨_,a,ys,b,rfl,(s.fZ g).sq,h.1,k _ _ _ G (.refl s) (f9 (tM _ _ _)) h.2⟩
  show h.elim
 show h.elim
end
section
variable{X:Cx}{pos:Pos}
def OW(n:Nat)(t:qY):jI:=λd a Q=>match d with
 | .lst ds=>ds.length=n/\t ds a Q
 | _=>False
end
theorem Uh{acc:List Int}{k:Int}:∀a,a∈step_dedup acc k↔a∈acc\/a=k:=by
 intro a;unfold step_dedup;split
 .rename_i h;constructor
  .exact .inl
  rintro(h' | rfl)
  .exact h'
  simpa using h
 simp
theorem Vx{acc:List Int}{k:Int}(h:acc.Nodup):(step_dedup acc k).Nodup:=by
 unfold step_dedup;split
 .exact h
 rename_i hn;rw[List.nodup_append];show⟨h,by simp,λa ha b hb=>?_⟩;have:b=k:=by simpa using hb
 subst this;rintro rfl;show hn (by simpa using ha)
theorem Vw(l acc:List Int)(h:acc.Nodup):(l.foldl step_dedup acc).Nodup/\∀a,a∈l.foldl step_dedup acc↔a∈acc\/a∈l:=by
 induction l generalizing acc with
 | nil=>show⟨h,λa=>by simp⟩
 | cons k r b=>
  obtain⟨d,c⟩:=b (step_dedup acc k) (Vx h);show⟨d,λa=>?_⟩;rw[List.foldl_cons,c a,Uh a,az,or_assoc]
theorem W5(a:List Int):firstMet (λi=>a.getD i 0) a.length=a.foldl step_dedup []:=by
 unfold firstMet;congr 1
 apply List.ext_getElem
 .simp
 intro i c b;simp[List.getD,b]
section
variable{X:Cx}{pos:Pos}{e:Expr}{te:TD}{es:List Expr}{ts:ix}
noncomputable def Fq(a:List Int):List Int:=a.foldl step_dedup []
theorem Ve(l:X.calm=true):dD X (.type "set") (λxs H Q=>∃(p:Addr)(ns:List Int),xs=[.ref p]/\eP X.K H p (ns.map V.int)/\ns.length<4000/\∀q,H q=none->∀S:Int->Bool,Q (.ref q) (upd H q (.set S (Fq ns).length))):=by
 intro m s σ H xs us Q I r h;obtain⟨p,ns,rfl,j,hsz,q⟩:=h;obtain⟨u,rfl,g⟩:=mV r;cases g;obtain⟨its,c,i,hz⟩:=I.list j;have f:its.toArray.size=ns.length:=by rw[aB,<-c.length,ae]
 show call_set_list (I.ok.hd l) i.isList (by simpa using Di c) (by rw[f];have:scanBound=4096:=(by decide);ext) λh' tk d k=>?_
 have hf:H s.heap.objs.size=none:=I.cN.fresh (aD _);rw[f] at d;show⟨.ref s.heap.objs.size,_,I.laid (a:=s.heap.objs.size) (t':=tk) (λb o e=>k b o (aI e) e) (aD _) (o:=.set _ _) d,rfl,?_⟩;rw[W5];show q _ hf _
theorem Vd:dD X (.builtin "len") (λxs H Q=>∃(p:Addr)(S:Int->Bool)(n:Nat),xs=[.ref p]/\H p=some (.set S n)/\Q (.int n) H):=by
 intro m s σ H xs us Q I r h;obtain⟨p,S,n,rfl,b,q⟩:=h;obtain⟨u,rfl,a⟩:=mV r;cases a;obtain⟨o,es,l,t,g,f,e,k,j,i,d,rfl⟩:=(show s.heap.SetOf (intKind X.prog X.w) p S n from I.cN p _ b)
 show call_len_set g f e d ?_ ⟨.int _,H,I.tok _,⟨_,rfl⟩,q⟩;have:scanBound=4096:=by decide
 have c:es.size<4096:=by ext
 show Int.ofNat_lt.mpr (Nat.lt_trans c (by decide))
theorem Vc:bootBuiltins "set"=some (.type "set"):=by rfl
def C3:e8:=λds Q=>match ds with
 | [.lst es]=>match lW es with
  | some ns=>ns.length<4000/\∀l:List Int,l.Nodup->(∀k,k∈l↔k∈ns)->Q (.fz (.int l.length))
  | none=>False
 | _=>False
theorem Vb{o c d:Pos}(r:X.calm=true)(w:X.mg "len"=none)(p:X.mg "set"=none)(ha:md X [e] ts)(u:Gl X "len":=by rfl)(m:Gl X "set":=by rfl)
  (he:starEach [e] X.env=(false,eval e X.env)::starEach [] X.env:=by rfl) (j:starEach [.Call (.Name "set" c) [e] [] d] X.env=(false,eval (.Call (.Name "set" c) [e] [] d) X.env)::starEach [] X.env:=by rfl):PD X (.Call (.Name "len" o) [.Call (.Name "set" c) [e] [] d] [] pos) (fE C3 ts):=by
 obtain⟨t,pp,q⟩:=ha;show⟨_,vm Vd u w bW (m9 (MQ (Ve r) m p Vc pp (by decide) (by decide) he rfl) oM j) (by decide) (by decide) j rfl,λl σ z y G H Q P E h k=>?_⟩;show q l σ z y G H _ _ E h λC H' ds A x rs b=>?_
 unfold C3 at b;split at b
 .split at b
  .rename_i es ns hn;obtain⟨v,rfl,f⟩:=mh rs;simp only[Rep] at f;obtain⟨a,xs,rfl,i,g⟩:=f;rw[Dh hn] at g;rw[Df g] at i;show⟨a,ns,rfl,(x.s.fZ i).sq,b.1,λn B S=>⟨n,S,_,rfl,gX,?_⟩⟩;obtain⟨f1,f2⟩:=Vw ns [] List.nodup_nil;show k _ _ _ A (x.trans (.own x.s B)) (f9 (kU _ _ _)) (b.2 (Fq ns) f1 λk=>by rw[Fq,f2];simp)
  show b.elim
 show b.elim
end
noncomputable def J6:D->Bool
 | .non=>true
 | .bl _=>true
 | .int _=>true
 | .str _=>true
 | _=>false
def ye(i:Nat)(te:TD):TD:=λa Q=>te (lF i a) λr=>match r with
 | .fz d=>J6 d=true/\Q (.fz d)
 | _=>False
def EM(i:Nat)(t:iU):iU:=λa Q=>t (lF i a) Q
theorem Ug{K:J'}{G a:Hp}{v:V}{d:D}(h:J6 d=true)(r:Rep K G v d):Rep K a v d:=by
 cases d<;>first | (simp only[Rep] at r ⊢;show r) | cases h
noncomputable def Ce(G:Hp)(L:List Addr):Hp:=λa=>if a∈L then none else G a
theorem Ue{G H a H':Hp}{L:List Addr}(i:∀q∈L,G q=none)(x:Ext (qm G H L) H a H'):Ext G H (Ce a L) H':=by
 show⟨λb u e=>?_,x.h,λb u e=>?_,λq f d=>?_⟩
 .have hb:b∉L:=λz=>by rw[i b z] at e;cases e
  unfold Ce;rw[if_neg hb];show x.g b u (by rw[rS hb];show e)
 .unfold Ce at e;split at e
  .cases e
  show x.s b u e
 unfold Ce;split
 .rfl
 rename_i c;show x.n q (by rw[rS c];show f) d
section
variable{X:Cx}{e:Expr}{te:TD}{t:iU}
theorem c9.AU{K:J'}{e c G H:Hp}{b:Ev}{a:St}(i:Nat)(E:c9 K e c b a G H):∃d,c9 K e c (lF i b) a d H/\∀f H',Ext d H f H'->∃h,Ext G H h H':=
 let⟨L,g,j,_⟩:=E.qf i
 ⟨_,j,λf H' x=>⟨_,Ue g x⟩⟩
theorem C1(i:Nat)(h:PD X e te):PD X e (ye i te):=by
 obtain⟨tt,p,q⟩:=h;show⟨tt,p,λo σ l f G H Q P E h k=>?_⟩;obtain⟨j,n,back⟩:=E.AU i;show q _ σ l f j H _ _ n h λv H' r m x c a=>?_
 split at a
 .rename_i d;obtain⟨g,b⟩:=back m H' x;show k v H' (.fz d) g b (Ug a.1 c) a.2
 show a.elim
theorem Sq(i:Nat)(h:PB X e t):PB X e (EM i t):=by
 obtain⟨tt,p,q⟩:=h;show⟨tt,p,λn σ j d G H Q P E h k=>?_⟩;obtain⟨g,m,back⟩:=E.AU i;show q _ σ j d g H _ _ m h λb H' l x c=>?_
 obtain⟨f,a⟩:=back l H' x;show k b H' f a c
end
section
variable{prog:Program}{w:World}{A:Around}{E:Value->Shared->Prop}{s:Shared}
theorem ztb{α:Type}{a:Array α}(h:a.size=1):∃e,a=#[e]:=⟨a[0]'(by ext),Array.ext (by simpa using h) λi b _=>by
 have:i=0:=by ext
 subst this;rfl⟩
end
section
variable{X:Cx}{pos:Pos}{e i':Expr}{te ti:TD}
def ztQ(i:Nat):TX:=λD a=>match gt a i with
 | .ow _=>D.nx (a.set i (.ow []))
 | _=>False
def uZ(i:Nat)(te:TD):TX:=λD a=>match gt a i with
 | .ow ds=>te a λr=>match r with
  | .ow b=>ds.length+b.length<=sizeLine/\D.nx (a.set i (.ow (ds++b)))
  | _=>False
 | _=>False
theorem Fp(i:Nat){x:Str}{n o c:Pos}(he:PD X e te)(B:X.N[i]?=some x:=by rfl)(A:nR X.env.scope x:=by first | show Or.inl rfl | show Or.inr (Or.inl rfl) | show Or.inr (Or.inr rfl))(hd:(x==("__debug__":Str))=false:=by decide)(z:(x==("__classdict__":Str))=false:=by decide)
  (C:starEach [e] X.env=(false,eval e X.env)::starEach [] X.env:=by rfl)
  (hb:∀{m:TE}{t:TA},PE X (.Name x n) m->PA X [e] t->PE X (.Call (.Attribute (.Name x n) "extend" o) [e] [] c) (Ax X.K "list" Lk m t):=by intro m t l j;show zA PySem.F.plainAttrs_list PySem.F.slot_list_extend PySem.F.type_list_extend U4 l j) :
  PX X (.Expr (.Call (.Attribute (.Name x n) "extend" o) [e] [] c) pos) (uZ i te):=by
 obtain⟨t,p,q⟩:=he;show⟨_,CU (hb (rh B A hd z) (m9 p oM C)),λw σ L J G H D E k h g=>?_⟩;unfold uZ at h;split at h
 .rename_i ds hg;obtain⟨a,xs,l,j,P,O,s⟩:=k.ow i ds hg;show⟨_,l,.inl ⟨rfl,xs,eP.of j⟩,q w σ L J G H _ _ k h λv H' r M d y f=>?_⟩;split at f
  .rename_i Q;obtain⟨b,zs,rfl,S,R,I,u⟩:=y;have k2:=k.ext d;show⟨a,b,xs,zs,rfl,rfl,d.h _ _ j,I,by rw[s.length,u.length];show f.1,?_⟩;show g.nx _ _ M _ d.g (k2.change hg l ((s.mono d.g).append u)) f.2
  show f.elim
 show h.elim
def CZ(j i:Nat):TX:=λD a=>match gt a i with
 | .ow ds=>∃d,ds[ds.length-1]?=some d/\D.nx ((a.set i (.ow ds.dropLast)).set j (.fz d))
 | _=>False
theorem bX.dropLast{K:J'}{H:Hp}{a:List V}{ds:List D}(h:bX K H a ds):bX K H a.dropLast ds.dropLast:=by
 rw[List.dropLast_eq_take,List.dropLast_eq_take,h.length];show h.take _
end
section
variable{κ:Type}[DecidableEq κ]
noncomputable def jF(kvs:List (κ×V))(k:κ):Option V:=(kvs.find? λkv=>decide (kv.1=k)).map (·.2)
noncomputable def qX(kvs:List (κ×V))(k:κ)(v:V):List (κ×V):=
 if (kvs.any λkv=>decide (kv.1=k))=true then kvs.map (λkv=>if kv.1=k then(kv.1,v) else kv) else kvs++[(k,v)]
theorem LO{p:κ×V}{r:List (κ×V)}{k:κ}(e:p.1=k):jF (p::r) k=some p.2:=by simp[jF,List.find?_cons,e]
theorem LN{p:κ×V}{r:List (κ×V)}{k:κ}(e:¬p.1=k):jF (p::r) k=jF r k:=by simp[jF,List.find?_cons,e]
theorem F4(k:κ):∀kvs:List (κ×V),(kvs.any λkv=>decide (kv.1=k))=(jF kvs k).isSome
 | []=>rfl
 | p::r=>by
  rw[List.any_cons];by_cases e:p.1=k
  .simp only[LO e,bc e,Bool.true_or,Option.isSome_some]
  rw[LN e,aG e,Bool.false_or];show F4 k r
theorem Wq(kvs:List (κ×V))(k:κ)(v:V):(qX kvs k v).length<=kvs.length+1:=by
 unfold qX;split
 .rw[ae];ext
 rw[ax,av,bh];ext
theorem lS.iy{o:Option V}{u:Option Value}(r:lS o u):o.isSome=u.isSome:=by
 cases o with
 | none=>cases u with
  | none=>rfl
  | some _=>show(show False from r).elim
 | some _=>cases u with
  | none=>show(show False from r).elim
  | some _=>rfl
theorem lS.getD{o:Option V}{u:Option Value}{d:V}{d':Value}(r:lS o u)(a:RelV d d'):RelV (o.getD d) (u.getD d'):=by
 cases o with
 | none=>cases u with
  | none=>show a
  | some _=>show(show False from r).elim
 | some _=>cases u with
  | none=>show(show False from r).elim
  | some _=>show r
end
theorem Pn{P:Program}{w:World}{k:Key}{u:Value}(r:RelV (kV k) u):(nc P w).is k u=true:=by
 cases k with
 | inl i=>obtain⟨t,e⟩:=(show ∃t,u=Value.int i t from r);subst e;show V9 P w i t
 | inr x=>obtain⟨t,e⟩:=(show ∃t,u=Value.str x t from r);subst e;show V8 P w x t
def Ey(i:Expr):Prop:=∀ov a,subscripted i false ov a=operate [ov,a] (getItem ov a)
theorem So{prog:Program}{w:World}{A:Around}{E:Value->Shared->Prop}{s:Shared}{env:Env}{b a:Expr}{pos:Pos}{T id:String}{Q:Value->Shared->Prop}
  (l:typeLookup (.type T) "__getitem__"=pure (some (.builtin id))) (k:Ey a)
  (h:wpAny (model prog w) A (eval b env) (λo g=>wpAny (model prog w) A (eval a env) (λi c=>c.TypeIs o T/\wpAny (model prog w) A (getItem o i) Q E c) E g) E s) :
  wpAny (model prog w) A (eval (.Subscript b a pos) env) Q E s:=by
 show Subscript_ (bF h (λo g m=>bF m (λi c d=>?_) λ_ _ x=>x) λ_ _ x=>x);obtain⟨f,d⟩:=d;unfold subscriptTail;show aa ?_;rw[getitemInPython_of_ne f.not_modules];show aa (wpAny_specialOf f l ?_);have fin:wpAny (model prog w) A (subscripted a false o i) (λr e=>wpAny (model prog w) A (letTemporaryGo b o r >>= λ_=>pure r) Q E e) E c:=by
  rw[k o i];show wpAny_operating (bF d (λr e j=>aa (wpAny_letTemporaryGo (ah j))) λ_ _ x=>x)
 first
  | show ah (aa fin)
  | show aa (ah (aa fin))
  | show aa fin
structure M2(X:Cx)(o:Expr)(m:Str)(apos:Pos)(e f:Expr)(dU:Pos):Prop where
 base:attributeBase o m X.env (eval o X.env)=eval o X.env
 rF:((backTo dU (starEach [e,f] X.env)).all (λx=>!x.1)&&(backToKw dU (keywordEach [] X.env)).all (λx=>x.1.isSome)
  && decide (([e,f]:List Expr).length+([]:List Keyword).length+(if ([]:List Keyword).isEmpty then 0 else 1)<30))=true
 line:(apos.endLine==dU.line)=true
 trees:backTo dU (starEach [e,f] X.env)=[(false,eval e X.env),(false,eval f X.env)]
section
variable{X:Cx}{K':List (Addr×Obj)}{σ:St}{H:Hp}{s:Shared}{a:Addr}{y v:V}{u r:Value}{o:Option V}{A:Around}{E:Value->Shared->Prop}
theorem Inv.big(I:Inv X K' σ H s):sysModules<s.heap.objs.size:=by
 have h:mainGlobals<s.heap.objs.size:=(I.mod.glob.keeps I.bk).lt;show Nat.lt_trans (by decide) h
theorem Lq{h':Heap}{t':Nat}{ob:HO}(I:Inv X K' σ H s)(mu:BZ (H a))(c:Heap.SameBut a s.heap h')(he:∃q,h'.get? a=some q)(new:df X.prog X.w (upd H a ob) h' a ob) :
  Inv X K' σ (upd H a ob) { s with heap:=h',toks:=t' }:=
 I.write (x:=a) (e:=a) mu (.inl rfl) (λb q hb z=>(c.2 b hb).trans z) he new
end
end L2
namespace PySem
open Sem (wp)
theorem WE:typeLookup (.type "list") "keys"=pure none:=by rw[typeLookup_type,builtinLookup_eq_fast];kernel_rfl
theorem X6{prog:Program}{w:World}{A:Around}{E:Value->Shared->Prop}{s:Shared}{a:Addr}{o:Obj}{xs:Array Value}{k:Nat}{name:Str}{Q:Option Value->Shared->Prop}
  (f:s.heap.get? a=some o) (i:o.cls=.type "list") (m:o.data=.seq xs k) (hd:o.dict=none) (r:typeLookup (.type "list") name=pure none) (t:(["__module__","__name__","__qualname__","__doc__","__annotations__"]:List Str).contains name=false) (p:A.handled=none)
  (h:∀h' tk e,Heap.NewExcOf s.heap h' e "AttributeError"->Q none { s with heap:=h',toks:=tk }) (hsz:name.length+100<=sizeLine:=by size_fits) :
  wpAny (model prog w) A (getAttr? (.ref a) name) Q E s:=by
 obtain⟨c,q,dat,sl⟩:=o;simp only at i m hd;subst i m hd;obtain⟨n,g,d,tk,os⟩:=s;have j:∀l,(⟨n,g,d,l,os⟩:Shared).TypeIs (.ref a) "list":=λ_=>⟨_,f,rfl⟩
 have f1:=sub_AttributeError;have x:=F.slot_list_getattribute.lookup;have f4:=F.slot_list_getattribute.bind (.ref a);have v:=am_list_getattr_none;unfold getAttr? getAttrBy? getAttrBy;repeat(any_goals (first | assumption | show j _ | ((with_reducible show wpAny _ _ (call (Value.builtin "list.__getattribute__") _ _) _ _ _);show call_meets F.slot_list_getattribute (j _) am_entry_list_getattribute (F.args_list_getattribute_2 _ _) (meets_getattribute_miss_list a xs k sl name _ r t hsz) ⟨f,p,λh' l e b=>?_⟩) | wp_step))
 obtain⟨t',u,he⟩:=b.there;show wpAny _ _ (getattributeRaised _ _ _ _ _ _ _) _ _ _;unfold getattributeRaised;repeat(any_goals (first | assumption | wp_step))
 show h _ _ _ b.of
theorem Nk:entryFor table "dict.update.loop"=some Builtin.«dict.update.loop»:=entryFor_of_tree (by kernel_rfl)
theorem Dw:plainId "dict.update.loop"=true:=by decide +kernel
end PySem
namespace L2
open PySem PySem.Spec PyProof.Rows
noncomputable def zp:D->Option Key
 | .int i=>some (.inl i)
 | .str x=>some (.inr x)
 | _=>none
noncomputable def pB:Key->D
 | .inl i=>.int i
 | .inr x=>.str x
theorem Ud{K:J'}{G:Hp}{v:V}{d:D}{k:Key}(r:Rep K G v d)(h:zp d=some k):v=kV k:=by
 cases d<;>simp only[zp,aN,reduceCtorEq] at h<;>subst h<;>simp only[Rep] at r<;>subst r<;>rfl
noncomputable def look(kvs:List (Key×D))(k:Key):Option D:=(kvs.find? λkv=>decide (kv.1=k)).map (·.2)
section
variable{X:Cx}{pos:Pos}{e i':Expr}{te ti tv:TD}
def zuo(i:Nat)(ti:TD):TD:=λa Q=>match gt a i with
 | .ov (.dc kvs)=>ti a λrk=>∃k d,zp rk.val=some k/\look kvs k=some d/\Q (.fz d)
 | _=>False
def yd(i:Nat):TX:=λD a=>match gt a i with
 | .ov o=>D.rt (.ov o)
 | _=>False
theorem Lp(i:Nat){x:Str}{d:Pos}(m:X.N[i]?=some x:=by rfl)(l:nR X.env.scope x:=by first | show Or.inl rfl | show Or.inr (Or.inl rfl) | show Or.inr (Or.inr rfl))(hd:(x==("__debug__":Str))=false:=by decide)
  (j:(x==("__classdict__":Str))=false:=by decide):PX X (.Return (some (.Name x d)) pos) (yd i):=by
 show⟨_,Fv (rh m l hd j),λs σ v u G H D E k h g=>?_⟩;unfold yd at h;split at h
 .rename_i o hg;obtain⟨own,t,f⟩:=k.on;obtain⟨a,fp,r,p,n,c⟩:=f i _ hg;show⟨_,r,g.rt _ H (.ov o) G k.e ⟨a,fp,rfl,p,n,λq b=>⟨(c q b).2.1,(c q b).1⟩⟩ h⟩
 show h.elim
end
section
variable{K:J'}{G H:Hp}
theorem cC.length:∀{a:List Addr}{b:List (List D)},cC K G H a b->a.length=b.length
 | [],[],_=>rfl
 | q::a,ds::b,h=>by
  simp only[cC] at h;simp only[av,cC.length h.2]
 | [],_::_,h=>by simp only[cC] at h
 | _::_,[],h=>by simp only[cC] at h
theorem cC.snoc{p:Addr}{ds:List D}{zs:List V}:∀{a:List Addr}{d:List (List D)},cC K G H a d->H p=some (.lst zs)->bX K G zs ds->cC K G H (a++[p]) (d++[ds])
 | [],[],_,c,b=>by simp only[List.nil_append,cC];show⟨⟨zs,c,b⟩,trivial⟩
 | q::a,e::d,h,c,b=>by
  simp only[cC] at h;simp only[List.cons_append,cC];show⟨h.1,cC.snoc h.2 c b⟩
 | [],_::_,h,_,_=>by simp only[cC] at h
 | _::_,[],h,_,_=>by simp only[cC] at h
theorem cC.get:∀{a:List Addr}{b:List (List D)}{j:Nat}{ds:List D},cC K G H a b->b[j]?=some ds->∃q xs,a[j]?=some q/\H q=some (.lst xs)/\bX K G xs ds
 | [],[],j,ds,_,e=>by simp at e
 | q::a,f::b,0,ds,h,e=>by
  simp only[cC] at h;simp only[bp,aN] at e;subst e;obtain⟨⟨xs,d,c⟩,_⟩:=h;show⟨q,xs,rfl,d,c⟩
 | q::a,f::b,j+1,ds,h,e=>by
  simp only[cC] at h;simp only[bN] at e ⊢;show cC.get h.2 e
 | [],_::_,_,_,h,_=>by simp only[cC] at h
 | _::_,[],_,_,h,_=>by simp only[cC] at h
theorem cC.set{q:Addr}{ys:List V}{d:List D}(c:bX K G ys d):∀{a:List Addr}{b:List (List D)}{j:Nat},cC K G H a b->a.Nodup->a[j]?=some q->cC K G (upd H q (.lst ys)) a (b.set j d)
 | [],[],j,_,_,e=>by simp at e
 | r::a,ds::b,0,h,nd,e=>by
  simp only[cC] at h;simp only[bp,aN] at e;subst e;simp only[List.set_cons_zero,cC];show⟨⟨ys,gX,c⟩,h.2.mono (cw.refl _) λp f xs e=>?_⟩;rw[dy (λz:p=r=>(bj.mp nd).1 (z▸f))];show e
 | r::a,ds::b,j+1,h,nd,e=>by
  simp only[cC] at h;simp only[bN] at e;simp only[List.set_cons_succ,cC];show⟨?_,cC.set c h.2 (bj.mp nd).2 e⟩;obtain⟨⟨xs,i,g⟩,_⟩:=h;show⟨xs,?_,g⟩;rw[dy (λz:r=q=>(bj.mp nd).1 (z▸aw e))];show i
 | [],_::_,_,h,_,_=>by simp only[cC] at h
 | _::_,[],_,h,_,_=>by simp only[cC] at h
end
def wL(f:kd)(m:List (Option Nat))(g:jI)(tc:iU)(te:TD):TD:=λc Q=>f c λds=>∃a:Nat->List (List D)->Prop,a 0 []/\
 (∀i d acc,ds[i]?=some d->a i acc->g d (gW m c) λe=>tc e λb=>if b=true then te e λr=>match r with
  | .ow h=>acc.length<sizeLine/\a (i+1) (acc++[h])
  | _=>False
  else a (i+1) acc)/\∀acc,a ds.length acc->Q (.ov (.ll acc))
section
variable{X:Cx}{elt iter tg:Expr}{ifs:List Expr}{scope:Scope}{pos:Pos}{N':List Str}{m:List (Option Nat)}{wi:kd}{g:jI}{tc:iU}{te:TD}
theorem LM(cs:cK X N' m scope)(hk:qt m g){ww:TI}{gg:pj TG}{vv:pj TT}{N:pj TE}
  (q1:∀(r:Ev)(σ:St)(x w G H:Hp)(Q:List D->Prop)(P:It->Hp->Prop),c9 X.K x w r σ G H->wi r Q->(∀J H' ds l,Ext G H l H'->pD X.K J l ds->Q ds->P J H')->ww σ H P)
  (q2:∀s3 y ex (r:Ev) (σ:St) (x w G H:Hp) (d:D) (v:V) (Q:Ev->Prop) (P:St->Hp->Prop),c9 X.K x w r σ G H->Rep X.K G v d->g d r Q->(∀ρ' I l H',c9 X.K x w ρ' I l H'->Ext G H l H'->Q ρ'->P I H')->gg s3 y ex v σ H P)
  (q3:∀s3 y ex (r:Ev) (σ:St) (x w G H:Hp) (Q:Bool->Prop) (P:Bool->Hp->Prop),c9 X.K x w r σ G H->tc r Q->(∀b H' l,Ext G H l H'->Q b->P b H')->vv s3 y ex σ H P)
  (q4:∀s3 y ex,rJ X.K te (N s3 y ex)):rJ X.K (wL wi m g tc te) (u9 ww m gg vv N):=by
 show λr σ x w G H Q P E h k=>q1 r σ x w G H _ _ E h λJ H1 ds u C wk f=>?_
 obtain⟨Iv,i0,turn,fin⟩:=f;intro D Y s3 ex;have E1:=E.ext C;have IV:u D=none:=C.s.free Y;have F:∀{i:Nat}{t:List L2.D},gt (gW m r) i=.ow t->False:=λ{i t} h=>by
  unfold gW at h;rw[tK] at h;split at h
  .rename_i o _;unfold tD at h;split at h
   .cases h
   split at h<;>cases h
  cases h
 have sr:∀{i:Nat}{o:OV},gt (gW m r) i=.ov o->False:=λ{i o} h=>by
  unfold gW at h;rw[tK] at h;split at h
  .rename_i o _;unfold tD at h;split at h
   .cases h
   split at h<;>cases h
  cases h
 have start:c9 X.K u H1 (gW m r) (pV m σ) u (upd H1 D (.lst [])):=by
  show⟨.own C.s Y,by simp[pV,gW],λi d h=>?_,λi t h=>(F h).elim,λi j t fs _ h=>(F h).elim,λ_=>none,λi t _ h=>(F h).elim,λi o h=>(sr h).elim⟩;unfold gW at h;rw[tK] at h;split at h
  .rename_i o ho;unfold tD at h;split at h
   .cases h
   rename_i j;split at h
   .rename_i d' vS;cases h;obtain⟨v,hv,rv⟩:=E1.fz j d vS;show⟨v,?_,rv⟩;unfold pV;rw[ar,ho];simp[hv]
   cases h
  cases h
 show⟨λi n I H'=>n=ds.length-i/\i<=ds.length/\∃acc fp l,c9 X.K u H1 (gW m r) I l H'/\H' D=some (.lst (fp.map V.ref))/\l D=none/\cC X.K l H' fp acc/\(D::fp).Nodup/\(∀q∈fp,H1 q=none/\l q=none)/\Iv i acc,
  ⟨ds.length,by simp,a9 _,[],[],u,start,gX,IV,by simp only[cC],by simp,λq f=>(by cases f),i0⟩,?_⟩
 rintro i n I H' ⟨rfl,hi,acc,fp,l,M,hx,Bp,rx,nd,fr,iv⟩;by_cases eO:i<ds.length
 .obtain⟨w1,w2⟩:=wk;obtain⟨go,yl⟩:=w1 i ds[i] l H' (af eO) M.e.g M.e.s;show .inr ⟨go,λlT A=>∃acc fp l,c9 X.K u H1 (gW m r) lT l A/\A D=some (.lst (fp.map V.ref))/\l D=none/\cC X.K l A fp acc/\(D::fp).Nodup/\(∀q∈fp,H1 q=none/\l q=none)/\Iv (i+1) acc,λlT A h2=>⟨ds.length-(i+1),by ext,rfl,eO,h2⟩,λv A hy=>?_⟩;obtain⟨G2,x2,rv⟩:=yl v A hy;show q2 _ _ _ (gW m r) I u H1 G2 A ds[i] v _ _ (M.ext x2) rv (hk _ _ _ (turn i ds[i] acc (af eO) iv)) λua mf G3 y E3 x3 fi=>?_
  obtain⟨fi,uM,Iz⟩:=fi;have weak:∀j,gt (gW m r) j=.un\/gt (gW m r) j=gt ua j:=λj=>by
   cases hm:m[j]? with
   | none=>left;unfold gW;rw[tK,hm]
   | some o=>
    cases o with
    | none=>left;unfold gW;rw[tK,hm];rfl
    | some c=>right;show(Iz j c hm).symm
  have Hh:=x2.trans x3;show q3 _ _ _ ua mf u H1 G3 y _ _ E3 fi λb H4 S x4 U=>?_
  have R:=Hh.trans x4;have E4:=(E3.ext x4).weak (ρ':=gW m r) (uM.symm) weak;have T:H4 D=some (.lst (fp.map V.ref)):=R.h _ _ hx;have Bo:S D=none:=R.n D Bp (by rw[hx];show nofun);have O:cC X.K S H4 fp acc:=rx.mono R.g λq _ zs e=>R.h _ _ e
  have y8:∀q∈fp,H1 q=none/\S q=none:=λq f=>⟨(fr q f).1,R.n q (fr q f).2 (rx.here q f)⟩
  cases b with
  | false=>
   rw[if_neg aC] at U ⊢;show⟨acc,fp,S,E4,T,Bo,O,nd,y8,U⟩
  | true=>
   rw[if_pos rfl] at U ⊢;show q4 _ _ _ ua mf u H1 S H4 _ _ (E3.ext x4) U λv5 H5 r5 G5 B xf W=>?_
   split at W
   .rename_i t;obtain⟨p,zs,rfl,Z,c2,c3,c4⟩:=xf;have L:=E4.ext B;have HR:H5 D=some (.lst (fp.map V.ref)):=B.h _ _ T;have Bn:G5 D=none:=B.n D Bo (by rw[T];show nofun);have N2:p≠D:=λz=>by rw[z,T] at Z;cases Z
    have Zu:p∉fp:=λz=>O.here p z Z
    have hDf:D∉fp:=λz=>(bj.mp nd).1 z
    have r6:cC X.K G5 (upd H5 D (.lst ((fp++[p]).map V.ref))) (fp++[p]) (acc++[t]):=by
     show cC.snoc (O.mono B.g λq f ys e=>?_) ?_ c4
     .rw[dy (λz:q=D=>hDf (z▸f))];show B.h _ _ e
     rw[dy N2];show c3
    show⟨fp.map V.ref,HR,by rw[ae,O.length];show W.1,acc++[t],fp++[p],G5,?_,by rw[show fp.map V.ref++[V.ref p]=(fp++[p]).map V.ref by simp];show gX,Bn,by rw[show fp.map V.ref++[V.ref p]=(fp++[p]).map V.ref by simp];show r6,?_,λq f=>?_,W.2⟩
    .refine⟨⟨L.e.g,λb o e=>by rw[dy (lC e Y)];show L.e.h b o e,λb o e=>by rw[dy (lC e Bn)];show L.e.s b o e,L.e.n⟩,L.len,L.fz,λi t h=>(F h).elim,λi j t fs _ h=>(F h).elim,λ_=>none,λi t _ h=>(F h).elim,λi o h=>(sr h).elim⟩
    .rw[bj] at nd ⊢;show⟨λz=>?_,?_⟩
     .rcases aJ.mp z with z | z
      .exact nd.1 z
      simp at z;show N2 z.symm
     rw[List.nodup_append];show⟨nd.2,by simp,λa ha b hb=>?_⟩;simp at hb;subst hb;show λz=>Zu (z▸ha)
    rcases aJ.mp f with f | f
    .exact⟨(y8 q f).1,B.n q (y8 q f).2 (O.here q f)⟩
    simp at f;subst f;show⟨E4.e.h.free Z,c2⟩
   show W.elim
 have e:i=ds.length:=by ext
 subst e;show .inl ⟨wk.2 l H' M.e.g M.e.s,k _ H' (.ov (.ll acc)) l (C.trans M.e) ⟨D,fp,rfl,nd,⟨hx,rx⟩,λq f=>?_⟩ (fin acc iv)⟩;rcases az.mp f with rfl | f
 .exact⟨C.h.free Y,Bp⟩
 show⟨C.h.free (fr q f).1,(fr q f).2⟩
theorem Uc(h:X.calm=true)(cs:cK X N' m scope)(e:qt m g)(f:PId X tg iter wi)(hg:∀s3 a ex,uT (nj X N' scope s3 a ex) tg g)(ht:∀s3 a ex,xW (nj X N' scope s3 a ex) ifs tc)
  (he:∀s3 a ex,PD (nj X N' scope s3 a ex) elt te) (d:∀x,foldedSetIterable iter X.env x=pure x:=by intro _;rfl):PD X (.ListComp elt [⟨tg,iter,ifs,0⟩] scope pos) (wL wi m g tc te):=by
 obtain⟨ww,c,b⟩:=f;show⟨_,Lj (g:=λs3 a ex=>(hg s3 a ex).choose) (tc:=λs3 a ex=>(ht s3 a ex).choose) (te:=λs3 a ex=>(he s3 a ex).choose) h cs c (λs3 a ex=>(hg s3 a ex).choose_spec.1) (λs3 a ex=>(ht s3 a ex).choose_spec.1) (λs3 a ex=>(he s3 a ex).choose_spec.1) d,
  LM cs e b (λs3 a ex=>(hg s3 a ex).choose_spec.2) (λs3 a ex=>(ht s3 a ex).choose_spec.2) (λs3 a ex=>(he s3 a ex).choose_spec.2)⟩
theorem Ub(i:Nat){x:Str}{b c:Pos}(w:X.calm=true)(cs:cK X N' m scope)(s:qt m g)(t:PId X tg iter wi)(hg:∀s3 a ex,uT (nj X N' scope s3 a ex) tg g)(ht:∀s3 a ex,xW (nj X N' scope s3 a ex) ifs tc)
  (he:∀s3 a ex,PD (nj X N' scope s3 a ex) elt te) (y:X.N.Nodup:=by assumption) (j:X.N[i]?=some x:=by rfl) (o:Loc X.env.scope x:=by first | show Or.inl rfl | show Or.inr rfl) (p:∀x,foldedSetIterable iter X.env x=pure x:=by intro _;rfl)
  (e:swapsWith (.ListComp elt [⟨tg,iter,ifs,0⟩] scope pos) (some (.Name x b)) c.line X.env=pure true:=by rfl)
  (u:X.fn x=true\/X.env.scope.names.lookup x=some .local:=by first | show .inl rfl | show .inr rfl | assumption) :
  PX X (.Assign [.Name x b] (.ListComp elt [⟨tg,iter,ifs,0⟩] scope pos) c) (mT i (wL wi m g tc te)):=by
 obtain⟨ww,n,l⟩:=t;show⟨_,Li (g:=λs3 a ex=>(hg s3 a ex).choose) (tc:=λs3 a ex=>(ht s3 a ex).choose) (te:=λs3 a ex=>(he s3 a ex).choose) y j o w cs n (λs3 a ex=>(hg s3 a ex).choose_spec.1) (λs3 a ex=>(ht s3 a ex).choose_spec.1) (λs3 a ex=>(he s3 a ex).choose_spec.1) p e u,λd σ B A G H D E k h z=>?_⟩;show LM cs s l (λs3 a ex=>(hg s3 a ex).choose_spec.2) (λs3 a ex=>(ht s3 a ex).choose_spec.2) (λs3 a ex=>(he s3 a ex).choose_spec.2) d σ B A G H _ _ k h λv H' r C x f q=>z.nx _ _ C H' x.g (k.put x f) q
end
section
variable{X:Cx}{pos:Pos}{e i':Expr}{te ti:TD}
noncomputable def pairsOf:List D->Option (List (Key×D))
 | []=>some []
 | .tup [k,v]::r=>match zp k with
  | some key=>(pairsOf r).map ((key,v)::·)
  | none=>none
 | _=>none
def ztR(j i:Nat)(ti:TD):TX:=λD a=>match gt a i with
 | .ow ds=>ti a λrk=>match rk.val with
  | .int k=>∃n d,-(2 ^ 63)<=k/\k<2 ^ 63/\nC ds.length k=some n/\ds[n]?=some d/\D.nx ((a.set i (.ow (ds.eraseIdx n))).set j (.fz d))
  | _=>False
 | _=>False
def Ew(c b:TD):TD:=λa Q=>c a λd=>b a λrb=>match d,rb.val with
 | .ow ds,.int k=>-(2 ^ 63)<=k/\k<2 ^ 63/\ds.length*k.toNat<=sizeLine/\Q (.ow (List.replicate k.toNat ds).flatten)
 | _,_=>False
theorem bX.rep{K:J'}{H:Hp}{a:List V}{ds:List D}(h:bX K H a ds):∀k:Nat,bX K H (List.replicate k a).flatten (List.replicate k ds).flatten
 | 0=>bX.nil
 | k+1=>by
  rw[List.replicate_succ,List.replicate_succ,List.flatten_cons,List.flatten_cons];show h.append (bX.rep h k)
theorem QY{a b:Expr}{o n:TD}(ha:PD X a o)(hb:PD X b n):PD X (.BinOp a .Mult b pos) (Ew o n):=by
 obtain⟨t1,C,A⟩:=ha;obtain⟨L,B,z⟩:=hb;show⟨_,Ke QB C B,λj σ t r G H Q P E h k=>?_⟩;show A j σ t r G H _ _ E h λv H1 M K m I y=>?_
 show z j σ t r K H1 _ _ (E.ext m) y λu R rb S w x c=>?_
 obtain⟨J,e,f,_⟩:=x.freeze w;split at c
 .rename_i ds kk D;obtain⟨p,xs,rfl,O,N,F,q⟩:=I;rw[D] at f;simp only[Rep] at f;have d:=m.trans e;show⟨p,kk,xs,rfl,f,e.h _ _ F,c.1,c.2.1,by rw[q.length];show c.2.2.1,λl i=>?_⟩;show k _ _ (.ow _) J (d.trans (.own d.s i)) ⟨l,_,rfl,d.h.free i,d.s.free i,gX,(q.mono e.g).rep kk.toNat⟩ c.2.2.2
 show c.elim
end
section
variable{X:Cx}{tg:Expr}
theorem Sn{K:J'}{G:Hp}(k:Key):Rep K G (kV k) (pB k):=by
 cases k<;>simp only[pB,Rep]<;>rfl
end
end L2
namespace HT
open PySem PyProof.Rows
noncomputable def vE:List Int->List Int->Bool
 | [],[]=>false
 | [],_::_=>false
 | _::_,[]=>true
 | x::xs,y::ys=>if x=y then vE xs ys else decide (y<x)
end HT
namespace L2
open PySem PySem.Spec PyProof.Rows
end L2
namespace HT
end HT
namespace L2
open PySem PySem.Spec PyProof.Rows
section
variable{X:Cx}{pos:Pos}{e:Expr}{te:TD}
theorem J5{K:J'}{G:Hp}{d:List V}{a b c:D}(r:bX K G d [a,b,c]):∃x y z,d=[x,y,z]/\Rep K G x a/\Rep K G y b/\Rep K G z c:=by
 match d,r with
 | [x,y,z],r=>simp only[bX] at r;show⟨x,y,z,rfl,r.1,r.2.1,r.2.2.1⟩
 | [],r=>simp only[bX] at r
 | [_],r=>simp only[bX] at r;show r.2.elim
 | [_,_],r=>simp only[bX] at r;show r.2.2.elim
 | _::_::_::_::_,r=>simp only[bX] at r;show r.2.2.2.elim
end
end L2
namespace Ts
open PySem PyProof.Rows
variable{M:Model}{A:Around}{E:Value->Shared->Prop}{s:Shared}
variable{α:Type}(rk:α->Int)
variable{rk}
variable{M:Model}{A:Around}{E:Value->Shared->Prop}{s:Shared}
def xV(rk:Keyed->Int)(l:List Keyed):Prop:=l.Pairwise λx y=>rk x<=rk y
noncomputable abbrev dk:Keyed:=(Value.none,Value.none)
variable{M:Model}{A:Around}{E:Value->Shared->Prop}{s:Shared}
variable{M:Model}{A:Around}{E:Value->Shared->Prop}{s:Shared}
noncomputable def kr(rk:Keyed->Int)(xs:Array Keyed)(i:Nat):Int:=rk (xs.getD i dk)
variable{M:Model}{A:Around}{E:Value->Shared->Prop}{s:Shared}
variable{M:Model}{A:Around}{E:Value->Shared->Prop}{s:Shared}
variable{M:Model}{A:Around}{E:Value->Shared->Prop}{s:Shared}
variable{M:Model}{A:Around}{E:Value->Shared->Prop}{s:Shared}
open PySem.W
section
variable{n N:Nat}{r:Nat->Int}{cmp:Nat->Nat->(Bool->Shared->Prop)->Shared->Prop}{s:Shared}{p:Array Nat}{i j k m:Nat}
noncomputable def kp(r:Nat->Int)(p:Array Nat)(i:Nat):Int:=r (p.getD i 0)
def Pm(n:Nat)(p:Array Nat):Prop:=p.toList.Perm (List.range n)
def Up(r:Nat->Int)(p:Array Nat)(m:Nat):Prop:=∀i j,i<=j->j<m->kp r p i<=kp r p j
abbrev Dn(r:Nat->Int):Array Nat->Nat->Prop:=Up λx=>-r x
abbrev Cm(n:Nat)(r:Nat->Int)(cmp:Nat->Nat->(Bool->Shared->Prop)->Shared->Prop)(s:Shared):Prop:=∀i j (C:Bool->Shared->Prop),i<n->j<n->C (decide (r i<r j)) s->cmp i j C s
theorem Pm.size(h:Pm n p):p.size=n:=by have:=h.length_eq;simpa using this
theorem Pm.lt(h:Pm n p)(hn:0<n)(i:Nat):p.getD i 0<n:=by
 by_cases a:i<p.size
 .have e:p.getD i 0=p[i]:=by simp[Array.getD,a]
  rw[e];show List.mem_range.mp (h.mem_iff.mp (by simp))
 have e:p.getD i 0=0:=by simp[Array.getD,a]
 rw[e];show hn
theorem Pm.to{q:Array Nat}(h:Pm n p)(k:q.Perm p):Pm n q:=(Array.perm_iff_toList_perm.mp k).trans h
theorem zR{q:Array Nat}(h:p[i]?=q[j]?):kp r p i=kp r q j:=by
 unfold kp;rw[Array.getD_eq_getD_getElem?,Array.getD_eq_getD_getElem?,h]
theorem mY:kp (λx=>-r x) p i=-kp r p i:=rfl
theorem Up.more(u:Up r p m)(d:1<=m)(h:kp r p (m-1)<=kp r p m):Up r p (m+1):=λi j a c=>by
 by_cases e:j<m
 .exact u i j a e
 obtain rfl:j=m:=by ext
 by_cases b:i=j
 .subst b;show Int.le_refl _
 show Int.le_trans (u i (j-1) (by ext) (by ext)) h
theorem Up.same{q:Array Nat}(u:Up r p m)(h:∀i,kp r q i=kp r p i):Up r q m:=λi j a b=>by rw[h,h];show u i j a b
theorem Fo(b:j<=p.size)(k:Nat):kp r (kas_rev p i j) k=if i<=k/\k<j then kp r p (i+j-1-k) else kp r p k:=by
 have e:=getElem?_mirror_all (i:=i) b k;by_cases a:i<=k/\k<j
 .rw[if_pos a] at e ⊢;show zR e
 rw[if_neg a] at e ⊢;show zR e
theorem Fn(b:j<=p.size)(a:∀k,i<=k->k<j->kp r p k=kp r p (j-1))(k:Nat):kp r (kas_rev p i j) k=kp r p k:=by
 rw[Fo b];by_cases h:i<=k/\k<j
 .rw[if_pos h,a _ (by ext) (by ext),a k h.1 h.2]
 rw[if_neg h]
theorem Up.turn(u:Dn r p m)(hm:m<=p.size):Up r (kas_rev p 0 m) m:=λi j b a=>by
 rw[Fo hm,Fo hm,if_pos ⟨a9 _,by ext⟩,if_pos ⟨a9 _,a⟩];have:=u (0+m-1-j) (0+m-1-i) (by ext) (by ext);rw[mY,mY] at this;ext
theorem Pm.rev(h:Pm n p):Pm n (kas_rev p i j):=h.to (mirror_perm _ _ _ _)
theorem Fm(d:Cm n r cmp s)(hn:0<n)(c:Pm n p){G:Nat->Shared->Prop}:∀k m,1<=m->m+k=N->Up r p m->(∀a,1<=a->a<=N->Up r p a->(a<N->kp r p a<kp r p (a-1))->G a s)->(kas_asc p k m).kasWp cmp G s
 | 0,m,b,e,u,g=>g m b (by ext) u (by ext)
 | k+1,m,b,e,u,g=>by
  show d _ _ _ (c.lt hn _) (c.lt hn _) ?_;by_cases h:kp r p m<kp r p (m-1)
  .rw[show decide (r (p.getD m 0)<r (p.getD (m-1) 0))=true from bc h];show g m b (by ext) u λ_=>h
  rw[show decide (r (p.getD m 0)<r (p.getD (m-1) 0))=false from aG h];show Fm d hn c k (m+1) (by ext) (by ext) (u.more b (by ext)) g
theorem CY(o:Cm n r cmp s)(hn:0<n)(w:N<=n){G:Array Nat×Nat×Nat->Shared->Prop}(g:∀p m q,Pm n p->1<=m->m<=N->Dn r p m->q<m->(∀t,t<=q->kp r p (m-1-t)=kp r p (m-1))->G (p,m,q) s) :
  ∀k p m q,Pm n p->1<=m->m+k=N->Dn r p m->q<m->(∀t,t<=q->kp r p (m-1-t)=kp r p (m-1))->(kas_desc k p m q).kasWp cmp G s
 | 0,p,m,q,f,l,e,d,v,eq=>g p m q f l (by ext) d v eq
 | k+1,p,m,q,f,l,e,d,v,eq=>by
  have hsz:=f.size;show o _ _ _ (f.lt hn _) (f.lt hn _) ?_;by_cases h:kp r p m<kp r p (m-1)
  .rw[show decide (r (p.getD m 0)<r (p.getD (m-1) 0))=true from bc h];simp only[bP];by_cases c:q>0
   .rw[if_pos c];have u:=Fn (r:=r) (p:=p) (i:=m-(q+1)) (j:=m) (by ext) λx a b=>by
     have:=eq (m-1-x) (by ext);rwa [show m-1-(m-1-x)=x by ext] at this
    show CY o hn w g k _ (m+1) 0 f.rev (by ext) (by ext) (Up.more (d.same λx=>by rw[mY,mY,u]) l ?_) (by ext) λt ht=>by rw[show t=0 by ext];rfl
    rw[mY,mY,u,u];ext
   rw[if_neg c];show CY o hn w g k _ (m+1) 0 f (by ext) (by ext) (Up.more d l ?_) (by ext) λt ht=>by rw[show t=0 by ext];rfl
   rw[mY,mY];ext
  rw[show decide (r (p.getD m 0)<r (p.getD (m-1) 0))=false from aG h];simp only[aU,bG];show o _ _ _ (f.lt hn _) (f.lt hn _) ?_;by_cases y:kp r p (m-1)<kp r p m
  .rw[show decide (r (p.getD (m-1) 0)<r (p.getD m 0))=true from bc y];show g p m q f l (by ext) d v eq
  rw[show decide (r (p.getD (m-1) 0)<r (p.getD m 0))=false from aG y];show CY o hn w g k _ (m+1) (q+1) f (by ext) (by ext) (Up.more d l ?_) (by ext) λt ht=>?_
  .rw[mY,mY];ext
  by_cases t0:t=0
  .subst t0;rfl
  have:=eq (t-1) (by ext);rw[show m+1-1-t=m-1-(t-1) by ext,this,show m+1-1=m by ext];ext
section
variable{G:Nat×Array Nat->Shared->Prop}(g:∀m p,Pm n p->1<=m->m<=N->Up r p m->G (m,p) s)
include g
theorem LK(f:Cm n r cmp s)(hn:0<n)(i:N<=n)(c:Pm n p)(h:1<=m)(hm:m<=N)(d:Dn r p m):(kas_tail3 m N p).kasWp cmp G s:=by
 unfold kas_tail3;rw[KasT.kasWp_bind];show Fm (N:=N) f hn c.rev (N-m) m h (by ext) (Up.turn d (by rw[c.size];ext)) λe a b u _=>g e _ c.rev a b u
theorem Nh(f:Cm n r cmp s)(hn:0<n)(h:N<=n)(e:Pm n p)(hm:m+1<=N)(d:Dn r p (m+1)):(kas_descPart m N p).kasWp cmp G s:=by
 unfold kas_descPart;rw[KasT.kasWp_bind];show CY f hn h (λp m q e k hm d o eq=>?_) (N-(m+1)) p (m+1) 0 e (by ext) (by ext) d (by ext) λt ht=>by rw[show t=0 by ext];rfl
 have hsz:=e.size;dsimp only;by_cases c:q>0
 .rw[if_pos c];have l:=Fn (r:=r) (p:=p) (i:=m-(q+1)) (j:=m) (by ext) λx a b=>by
   have:=eq (m-1-x) (by ext);rwa [show m-1-(m-1-x)=x by ext] at this
  show LK g f hn h e.rev k hm (d.same λx=>by rw[mY,mY,l])
 rw[if_neg c];show LK g f hn h e k hm d
theorem Ua(k:Cm n r cmp s)(hn:0<n)(o:N<=n)(w:1<=N)(d:Pm n p):(kas_count N p).kasWp cmp G s:=by
 unfold kas_count;rw[KasT.kasWp_bind];show Fm (N:=N) k hn d (N-1) 1 (aD _) (by ext) (λi j a b=>by rw[show i=j by ext];show Int.le_refl _) λm a b u hd=>?_
 by_cases e:m=N
 .rw[if_pos (by simpa using e)];show g m p d a b u
 rw[if_neg (by simpa using e)];have v:=hd (by ext);have hsz:=d.size;by_cases c:m>1
 .rw[if_pos c];show k _ _ _ (d.lt hn _) (d.lt hn _) ?_;by_cases h:kp r p 0<kp r p (m-1)
  .rw[show decide (r (p.getD 0 0)<r (p.getD (m-1) 0))=true from bc h];show g m p d a b u
  rw[show decide (r (p.getD 0 0)<r (p.getD (m-1) 0))=false from aG h];have same:∀x,0<=x->x<m->kp r p x=kp r p (m-1):=λx _ t=>by
   have:=u 0 x (a9 _) t;have:=u x (m-1) (by ext) (by ext);ext
  have f:=Fn (r:=r) (p:=p) (i:=0) (j:=m) (by ext) same;show Nh g k hn o d.rev (by ext) (Up.more (λi j q l=>?_) a ?_)
  .rw[mY,mY,f,f,same i (a9 _) (by ext),same j (a9 _) l];show Int.le_refl _
  rw[mY,mY,f,f];ext
 rw[if_neg c];obtain rfl:m=1:=by ext
 show Nh g k hn o d (by ext) (Up.more (λi j q l=>by rw[show i=j by ext];show Int.le_refl _) (aD _) ?_);rw[mY,mY];ext
end
theorem F3(m:Cm n r cmp s)(hn:0<n)(d:Pm n p)(u:Up r p k){G:Nat->Shared->Prop}(g:∀l,l<=k->(∀i,i<l->kp r p i<=kp r p k)->(∀i,l<=i->i<k->kp r p k<kp r p i)->G l s) :
  ∀f l h,l<=h->h<=k->h-l<=f->(∀i,i<l->kp r p i<=kp r p k)->(∀i,h<=i->i<k->kp r p k<kp r p i)->(kas_place p k f l h).kasWp cmp G s
 | 0,l,h,a,b,c,lo,j=>g l (by ext) lo λi x y=>j i (by ext) y
 | f+1,l,h,a,b,c,lo,j=>by
  unfold kas_place;by_cases e:l>=h
  .rw[if_pos e];show g l (by ext) lo λi x y=>j i (by ext) y
  rw[if_neg e];show m _ _ _ (d.lt hn _) (d.lt hn _) ?_;by_cases q:kp r p k<kp r p ((l+h)/2)
  .rw[show decide (r (p.getD k 0)<r (p.getD ((l+h)/2) 0))=true from bc q];show F3 m hn d u g f l _ (by ext) (by ext) (by ext) lo λi x y=>Int.lt_of_lt_of_le q (u _ i x y)
  rw[show decide (r (p.getD k 0)<r (p.getD ((l+h)/2) 0))=false from aG q];show F3 m hn d u g f _ h (by ext) b (by ext) (λi x=>Int.le_trans (u i _ (by ext) (by ext)) (Int.not_lt.mp q)) j
theorem KN(d:Cm n r cmp s)(hn:0<n){G:Array Nat->Shared->Prop}(g:∀p,Pm n p->Up r p n->G p s):∀f p k,Pm n p->k+f=n->Up r p k->(kas_bin f p k).kasWp cmp G s
 | 0,p,k,b,e,u=>g p b (by rwa [show n=k by ext])
 | f+1,p,k,b,e,u=>by
  unfold kas_bin;rw[KasT.kasWp_bind];show F3 d hn b u (λl v lo t=>?_) k 0 k (a9 _) (aD _) (by ext) (λi h=>by ext) λi h h'=>by ext
  have hb:∀i,kp r (bubble p k (k-l)) i=if i=l then kp r p k else if l<i/\i<=k then kp r p (i-1) else kp r p i:=λi=>by
   have e:=getElem?_bubble (xs:=p) (src:=k) (by rw[b.size];ext) (k-l) (by ext) i;rw[show k-(k-l)=l by ext] at e;by_cases c:i=l
   .rw[if_pos c] at e ⊢;show zR e
   rw[if_neg c] at e ⊢;by_cases a:l<i/\i<=k
   .rw[if_pos a] at e ⊢;show zR e
   rw[if_neg a] at e ⊢;show zR e
  show KN d hn g f _ (k+1) (b.to (bubble_perm _ _ _)) (by ext) λi j q w=>?_
  rw[hb,hb];by_cases c:i=l
  .rw[if_pos c];by_cases a:j=l
   .rw[if_pos a];show Int.le_refl _
   rw[if_neg a,if_pos (by ext)];show Int.le_of_lt (t _ (by ext) (by ext))
  rw[if_neg c];by_cases o:l<i/\i<=k
  .rw[if_pos o,if_neg (by ext),if_pos (by ext)];show u _ _ (by ext) (by ext)
  rw[if_neg o];by_cases a:j=l
  .rw[if_pos a];show lo i (by ext)
  rw[if_neg a];by_cases m:l<j/\j<=k
  .rw[if_pos m];show u _ _ (by ext) (by ext)
  rw[if_neg m];show u _ _ q (by ext)
theorem Sm(d:Cm n r cmp s)(hn:0<n){G:Array Nat->Shared->Prop}(g:∀p,Pm n p->Up r p n->G p s):(kas_sort n).kasWp cmp G s:=by
 unfold kas_sort;rw[KasT.kasWp_bind];show Ua (λm p c a b u=>?_) d hn (aD n) hn (show Pm n _ by unfold Pm;simp);dsimp only;by_cases e:m<n
 .rw[if_pos e,show max m 1=m by ext];show KN d hn g _ p m c (by ext) u
 rw[if_neg e];show g p c (by rwa [show n=m by ext])
end
section
variable{prog:Program}{w:World}{A:Around}{E:Value->Shared->Prop}{s:Shared}
structure Ky(prog:Program)(w:World)(A:Around)(s:Shared)(κ:SortKind)(ok:Keyed->Prop)(rk:Keyed->Int):Prop where
 key:∀x y (C:Bool->Shared->Prop),ok x->ok y->C (decide (rk x<rk y)) s->wpAny (model prog w) A (keyLt' κ x.1 y.1) C (λ_ _=>False) s
def i4(n:Nat):Prop:=∀{prog:Program}{w:World}{A:Around}{E:Value->Shared->Prop}{s:Shared}{κ:SortKind}{rk:Keyed->Int}{it:Array Keyed}(R:Ky prog w A s κ (λx=>x∈it) rk){Q:Unit->SortSt->Prop},it.size=n->
 (∀a,(arrOf a).toList.Perm it.toList->xV rk (arrOf a).toList->failedOf a=none->Q () a)->wpS (model prog w) A E s sortRuns' Q (SortSt.mk' κ it #[] 7 none)
structure Ask(prog:Program)(w:World)(A:Around)(E:Value->Shared->Prop)(vs:List Value)(rk:Keyed->Int)(s:Shared):Prop where
 ask:2<=vs.length->∃κ,(∀Q':SortKind->Shared->Prop,Q' κ s->wpAny (model prog w) A (keyKind' vs.toArray) Q' E s)/\Ky prog w A s κ (λx=>x∈pairsOf vs) rk
theorem Va{rk:Keyed->Int}{l:List Keyed}(h:l.length<2):xV rk l:=by
 cases l with
 | nil=>show .nil
 | cons a r=>
  cases r with
  | nil=>show List.pairwise_singleton _ _
  | cons b t=>
   simp only[av] at h;ext
theorem Wn{a:Addr}{c:List Value}{n:Nat}{P:Fin->Shared->Prop}{rk:Keyed->Int}(f:s.heap.get? a=some (seqObj "list" c.toArray n))(g:c.length<=sizeLine)(r:2<=c.length->i4 c.length)
  (R:∀h',(∀b o,b≠a->s.heap.get? b=some o->h'.get? b=some o)->Ask prog w A E c rk { s with heap:=h' })
  (h:∀d:SortSt,(arrOf d).toList.Perm (pairsOf c).toList->xV rk (arrOf d).toList->P (.done (.ret .none)) { s with heap:=sortedHeap s.heap a c ((arrOf d).map (·.2)) }) :
  wpAny (model prog w) A (Builtin.«list.sort» ⟨[.ref a],[]⟩) P E s:=by
 rw[list_sort_plain];have ha:a<s.heap.objs.size:=aI f;show aa (listItems_at f rfl ?_);show aa (listUpdate_at f rfl ?_ (by simpa using g) (a9 _));obtain⟨k,m⟩:∃k,(s.heap.update a (Obj.mapSeq λ_=>#[])).get? a=some (seqObj "list" #[] k):=⟨_,get?_update_seq f (λ_=>#[])⟩
 show aa (seqEpoch_at m rfl ?_);show aa (wpAny_newTuple ?_ (by show c.length<=_;show g));show aa (wpAny_newList ?_ (a9 _));show bC ?_;have j:(((s.heap.update a (Obj.mapSeq λ_=>#[])).push (seqObj "tuple" c.toArray 0)).push (seqObj "list" #[] 0)).get? a=some (seqObj "list" #[] k):=by
  rw[Heap.get?_push_ne _ _ _ (by rw[size_push',Heap.size_update];show aW (Nat.lt_succ_of_lt ha)),Heap.get?_push_ne _ _ _ (by rw[Heap.size_update];show aW ha)];show m
 have t:=R (((s.heap.update a (Obj.mapSeq λ_=>#[])).push (seqObj "tuple" c.toArray 0)).push (seqObj "list" #[] 0)) (λb o hb e=>aq _ (aq _ ((Heap.get?_update_other _ _ (Ne.symm hb)).trans e)));show wpAny (model prog w) A _ P E { s with heap:=((s.heap.update a (Obj.mapSeq λ_=>#[])).push (seqObj "tuple" c.toArray 0)).push (seqObj "list" #[] 0) };dsimp only;have hsz:c.toArray.size=c.length:=by simp
 have fin:=h;by_cases i:c.toArray.size<2
 .rw[if_pos i,if_pos i];show aa (ah ?_);rw[StateT.run_pure];show aa (ah ?_);dsimp only;show aa (seqEpoch_at j rfl ?_);show aa (listUpdate_at j rfl ?_ (a9 _) (by rw[Array.size_map];show(pairsOf c).size<=_;rw[pairsOf_size];show Nat.le_succ_of_le g));simp only[bne_self_eq_false,aU,bG];show ah (fin (SortSt.mk' general' (c.toArray.zip c.toArray) #[] 7 none) (List.Perm.refl _) ?_);show xV rk (pairsOf c).toList;show Va (by rw[aO,pairsOf_size];ext)
 rw[if_neg i,if_neg i];obtain⟨κ,p,kr⟩:=t.ask (by ext);show aa (p _ ?_)
 show aa (bF (r (by ext) kr
  (Q:=λ_ d=>(arrOf d).toList.Perm (pairsOf c).toList/\xV rk (arrOf d).toList/\failedOf d=none) (pairsOf_size c) λd a1 a2 a3=>⟨a1,a2,a3⟩) ?_ λ_ _ e=>e)
 rintro⟨⟨⟩,d⟩ u ⟨rfl,l,q,hf⟩;dsimp only;show aa (seqEpoch_at j rfl ?_)
 show aa (listUpdate_at j rfl ?_ (a9 _) (by
  rw[Array.size_map,<-aO,l.length_eq,aO,pairsOf_size];show Nat.le_succ_of_le g))
 rw[hf];simp only[bne_self_eq_false,aU,bG];show ah (fin d l q)
theorem r8{l:Addr}{a:List Value}{Q:Value->Shared->Prop}{rk:Keyed->Int}(i:s.heap.IsList l a.toArray)(hz:a.length<=sizeLine)(g:2<=a.length->i4 a.length)
  (R:∀h',(∀b o,s.heap.get? b=some o->h'.get? b=some o)->Ask prog w A.in1.in1 E a rk { s with heap:=h' })
  (h:∀c:SortSt,(arrOf c).toList.Perm (pairsOf a).toList->xV rk (arrOf c).toList->Q (.ref (s.heap.objs.size+1)) { s with heap:=sortedAll s.heap a ((arrOf c).map (·.2)) }) :
  wpAny (model prog w) A (call (.builtin "sorted") [.ref l]) Q E s:=by
 show Calls.call_function_entry kind_sorted plain_sorted entry_sorted (args_sorted1 _) ?_;unfold Builtin.«sorted»;show aa (m:=checkCount "sorted" 1 1 _) (ah ?_);show aa (collect_list i ?_ hz);show aa (wpAny_newList ?_ hz);have hsz:((s.heap.push (seqObj "list" #[] 0)).update s.heap.objs.size (Obj.mapSeq (·++a.toArray))).objs.size=s.heap.objs.size+1:=by
  rw[Heap.size_update,size_push']
 have f:(((s.heap.push (seqObj "list" #[] 0)).update s.heap.objs.size (Obj.mapSeq (·++a.toArray))).push (seqObj "list" a.toArray 0)).get? (s.heap.objs.size+1)=some (seqObj "list" a.toArray 0):=by
  rw[<-hsz];show aF _ rfl
 have keep:∀b o,s.heap.get? b=some o->(((s.heap.push (seqObj "list" #[] 0)).update s.heap.objs.size (Obj.mapSeq (·++a.toArray))).push (seqObj "list" a.toArray 0)).get? b=some o:=λb o q=>by
  have d:b<s.heap.objs.size:=aI q;rw[Heap.get?_push_ne _ _ _ (by rw[hsz];show aW (Nat.lt_succ_of_lt d)),Heap.get?_update_ne _ _ _ _ (aW d),Heap.get?_push_ne _ _ _ (aW d)];show q
 show wpAny _ _ _ _ _ { s with heap:=((s.heap.push (seqObj "list" #[] 0)).update s.heap.objs.size (Obj.mapSeq (·++a.toArray))).push (seqObj "list" a.toArray 0) };rw[hsz];show aa (bC (wpAny_call_entry slot_list_sort ⟨_,f,rfl⟩ entry_list_sort (Wn (rk:=rk) f hz g (λh' k=>R h' λb o e=>k b o (aW (Nat.lt_succ_of_lt (aI e))) (keep b o e)) λc a1 a2=>⟨_,rfl,?_⟩) (args_list_sort _)));show ah ⟨_,rfl,h c a1 a2⟩
end
end Ts
namespace HT
end HT
namespace Ts
open PySem PySem.W PyProof.Rows
section
variable{prog:Program}{w:World}{A:Around}{E:Value->Shared->Prop}{s:Shared}{fin:Bool}{Q:Bool->Shared->Prop}
noncomputable def Eu(h:Heap)(v:Value):List Int:=match v with
 | .ref a=>match h.get? a with
  | some o=>match o.data with
   | .seq xs _=>numsOf xs.toList
   | _=>[]
  | none=>[]
 | _=>[]
def Pl(h:Heap)(v:Value):Prop:=∃a o xs n,v=.ref a/\h.get? a=some o/\o.cls=.type "tuple"/\o.data=.seq xs n/\IntsAre xs.toList (Eu h v)/\Eu h v≠[]
theorem U9{h h':Heap}(k:∀b o,h.get? b=some o->h'.get? b=some o):∀{its:List Value},(∀v∈its,Pl h v)->∃fs,KatTups h' its fs/\fs.length=its.length/\∀v∈fs,∃n t,v=Value.int n t
 | [],_=>⟨[],.nil,rfl,λv d=>by cases d⟩
 | v::r,d=>by
  obtain⟨fs,q,p,j⟩:=U9 k (its:=r) λx c=>d x (au _ c)
  obtain⟨a,o,xs,n,rfl,g,i,hd,e,f⟩:=d v aA;generalize Eu h (.ref a)=t at e f;generalize c:xs.toList=l at e;cases e with
  | nil=>show absurd rfl f
  | cons m u s=>
   have h0:xs[0]?=some (.int m u):=by rw[<-Array.getElem?_toList,c];rfl
   show⟨.int m u::fs,KatTups.cons (k _ _ g) i hd h0 q,by simp[p],λx c=>by
    rcases az.mp c with rfl | c
    .exact⟨_,_,rfl⟩
    .exact j x c⟩
end
theorem pP{n:Nat}(l:2<=n)(m:n<64):i4 n:=by
 intro prog w A E s κ rk it R Q hn q;have mem:∀i,i<n->kas_item it i∈it:=λi a=>by
  have e:kas_item it i=it[i]:=by unfold kas_item;simp[Array.getD,hn,a]
  rw[e];show Array.getElem_mem _
 have hit:(List.toArray (List.range n)).map (kas_item it)=it:=by rw[<-hn];show kas_range it
 have h:(List.range n).map (kas_item it)=it.toList:=by
  have:=congrArg Array.toList hit;simpa using this
 have:=kas_runs (prog:=prog) (w:=w) (A:=A) (E:=E) (κ:=κ) (it:=it) (Q:=λu st b=>b=s/\Q u st) (G:=λp b=>b=s/\Pm n p/\Up (λi=>rk (kas_item it i)) p n) (s:=s) l m (λp st b hz ha hf ⟨e,d,c⟩=>⟨e,?_⟩)
  (Sm (r:=λi=>rk (kas_item it i)) (λi j C a f k=>R.key _ _ C (mem i a) (mem j f) k) (by ext) λp d c=>⟨rfl,d,c⟩)
 .unfold kas_st at this;rw[hit] at this;show this
 show q st ?_ ?_ hf
 .rw[ha,Array.toList_map,<-h];show d.map _
 rw[ha,Array.toList_map];show List.pairwise_iff_getElem.mpr λi j a f t=>?_
 have g:i<p.size:=by simpa using a
 have o:j<p.size:=by simpa using f
 have:=c i j (by ext) (by ext);unfold kp at this;simp only[Array.getD,g,o,dif_pos] at this;simpa using this
end Ts
namespace L2
open PySem PySem.Spec PyProof.Rows
theorem ML{α β:Type}{f:α->β}{a b:List β}(h:a.Perm b):∀{L:List α},b=L.map f->∃c:List α,c.Perm L/\a=c.map f:=by
 induction h with
 | nil=>intro L e;show⟨[],by rw[show L=[] from by simpa using e.symm],rfl⟩
 | cons x h i=>
  intro L e;cases L with
  | nil=>cases e
  | cons y L=>
   rw[ao] at e;injection e with k j
   obtain⟨c,g,d⟩:=i j;show⟨y::c,g.cons y,by rw[ao,k,d]⟩
 | swap x y l=>
  intro L e;match L,e with
  | [],e=>cases e
  | [_],e=>cases e
  | u::v::L,e=>
   simp only[ao,List.cons.injEq] at e;show⟨v::u::L,List.Perm.swap u v L,by simp[e]⟩
 | trans g d o p=>
  intro L e;obtain⟨L2,a1,a2⟩:=p e;obtain⟨q,n,m⟩:=o a2;show⟨q,n.trans a1,m⟩
section
variable{X:Cx}{pos:Pos}{e:Expr}{te:TD}
theorem Lo{α:Type}{f:α->V}{g:α->Value}:∀{L:List α},(∀q∈L,RelV (f q) (g q))->Vals (L.map f) (L.map g)
 | [],_=>.nil
 | q::L,h=>.cons (h q aA) (Lo λx a=>h x (au _ a))
theorem LA{α:Type}{K:J'}{G:Hp}{f:α->V}{g:α->D}:∀{L:List α},(∀q∈L,Rep K G (f q) (g q))->bX K G (L.map f) (L.map g)
 | [],_=>bX.nil
 | q::L,h=>bX.cons (h q aA) (LA λx a=>h x (au _ a))
end
theorem Gb{P:Program}{w:World}:∀{ks:List Key}{us:List Value},Vals (ks.map kV) us->ItemsAre (nc P w) ks us
 | [],_,r=>by rw[bL] at r;cases r;show .nil
 | k::ks,_,r=>by
  rw[ao] at r;cases r with
  | cons h t=>show .cons (Pn h) (Gb t)
abbrev KT(H:Hp):List (List Key×V)->List (List Key×Addr×Value)->Prop:=Paired λp q=>p.1=q.1/\H q.2.1=some (.tup (p.1.map kV))/\RelV p.2 q.2.2
theorem KT.val{H:Hp}{kvs:List (List Key×V)}{xs:List (List Key×Addr×Value)}(r:KT H kvs xs)(k:List Key):lS (jF kvs k) ((atKey xs k).map (·.2)):=by
 induction r with
 | nil=>show True.intro
 | @cons p q ps a h t f=>
  obtain⟨d,_,g⟩:=h;by_cases e:p.1=k
  .have c:q.1=k:=d.symm.trans e;have b:atKey (q::a) k=some q.2:=by simp[atKey,List.find?_cons,c]
   rw[LO e,b];show g
  have c:¬q.1=k:=λz=>e (d.trans z)
  have b:atKey (q::a) k=atKey a k:=by simp[atKey,List.find?_cons,c]
  rw[LN e,b];show f
theorem KT.oQ{H:Hp}{kvs:List (List Key×V)}{xs:List (List Key×Addr×Value)}(r:KT H kvs xs)(k:List Key){y:V}{u:Value}(c:RelV y u) :
  KT H (kvs.map λkv=>if kv.1=k then(kv.1,y) else kv) (xs.map (putAt k u)):=by
 induction r with
 | nil=>show .nil
 | @cons p q ps g h t d=>
  rw[ao,ao];show .cons ?_ d;obtain⟨a,b,f⟩:=h;unfold putAt;by_cases e:p.1=k
  .rw[if_pos e,if_pos (a.symm.trans e)];show⟨a,b,c⟩
  rw[if_neg e,if_neg (λz=>e (a.trans z))];show⟨a,b,f⟩
theorem KT.put{H:Hp}{kvs:List (List Key×V)}{xs:List (List Key×Addr×Value)}(r:KT H kvs xs)(k:List Key){b:Addr}{y:V}{u:Value}(hb:H b=some (.tup (k.map kV)))(a:RelV y u) :
  KT H (qX kvs k y) (storedH xs k b u):=by
 have e:(kvs.any λkv=>decide (kv.1=k))=(atKey xs k).isSome:=by
  rw[F4,(r.val k).iy,Option.isSome_map]
 unfold qX storedH;rw[e];by_cases q:(atKey xs k).isSome=true
 .rw[if_pos q,if_pos q];show r.oQ k a
 rw[if_neg q,if_neg q];show Paired.snoc r ⟨rfl,hb,a⟩
theorem KT.keeps{H H':Hp}{kvs:List (List Key×V)}{xs:List (List Key×Addr×Value)}(r:KT H kvs xs)(ht:∀b ys,H b=some (.tup ys)->H' b=some (.tup ys)):KT H' kvs xs:=
 Paired.AR r λ_ _ z=>⟨z.1,ht _ _ z.2.1,z.2.2⟩
section
variable{P:Program}{w:World}{H:Hp}{h:Heap}{a:Addr}
theorem J4{u:HO}(ok:i6 P w H h)(e:Rd H a u):df P w H h a u:=e.ok ok
theorem wK{ks:List Key}(ok:i6 P w H h)(e:H a=some (.tup (ks.map kV))):(tupleKind (nc P w)).is h ks a:=by
 obtain⟨_,its,r,o,d,c,n,b⟩:=(show df P w H h a (.tup (ks.map kV)) from ok a _ e)
 show⟨o,its.toArray,n,d,c,b,by simpa using Gb r⟩
end
end L2
namespace PySem
open Sem (wp)
section
variable{prog:Program}{w:World}{K:Type}[DecidableEq K]{knd:HeapKind prog w K}{A:Around}{E:Value->Shared->Prop}{s:Shared}
theorem W8{d a:Addr}{xs:List (K×Addr×Value)}{k:K}{b:Value}{Q:Value->Shared->Prop}(q:knd.room A)(g:knd.is s.heap k a)(hm:s.heap.DictOfH knd d xs)
  (there:∀p,atKey xs k=some p->Q p.2 { s with toks:=s.toks+knd.draws k })
  (new:atKey xs k=none->∀h',h'.DictOfH knd d (storedH xs k a b)->Heap.SameBut d s.heap h'->Q b { s with heap:=h',toks:=s.toks+knd.draws k })
  (hsz:xs.length<=sizeLine):wpAny (model prog w) A (dictSetDefault d (.ref a) b) Q E s:=by
 obtain⟨o,i,B,f,v,hd,he,u,hn⟩:=hm;unfold dictSetDefault;try with_reducible show bC ?_
 show aa (knd.pyHash q g (aa (wpAny_dictFind_heap (s:={ s with toks:=s.toks+knd.draws k }) q g f hd he u hn (λl=>?_) λj p r=>?_)))
 .have e:=atKey_none_of_get l;have nw:=new e;rw[storedH_new e] at nw;have D:k∉xs.map (·.1):=not_mem_keys_of_get l;have C:i.size<=sizeLine:=by have:=size_of_entries he;ext
  show aa (wpAny_rule (aa (wpAny_updateDictKeys (hz:=C) (s:={ s with toks:=s.toks+knd.draws k }) f hd (ah (nw _ ⟨_,_,B+1,bM _ f (Obj.isFreed_of_dict (Obj.data_mapDictKeys hd _)),
   v.mapDictKeys _,Obj.data_mapDictKeys hd _,by simp[he,entryOfKey],λx c=>?_,?_⟩ (Heap.SameBut.update ..))))))
  .have keep:∀{m:K}{t:Addr},knd.is s.heap m t->knd.is (s.heap.update d (Obj.mapDictKeys λi=>i.push ⟨knd.hash k,.ref a,b⟩)) m t:=λh=>knd.keeps h f hd (Heap.SameBut.update ..)
   rcases aJ.mp c with c | c
   .exact keep (u x c)
   rw[aK.mp c];show keep g
  rw[aH,List.nodup_append];show⟨hn,by simp,λx c y n z=>D (by rw[List.map_singleton,aK] at n;rw[<-show x=k from z.trans n];show c)⟩
 show aa (wpAny_dictEntries (s:={ s with toks:=s.toks+knd.draws k }) f hd ?_);rw[entry_at he j,r];show aa (wpAny_rule (ah (there p (atKey_of_get hn r))))
theorem Ya{d a:Addr}(hd:(d==sysModules)=false)(b:Value) :
  MeetsIn prog w (Builtin.«dict.setdefault» ⟨[.ref d,.ref a,b],[]⟩) (λA R s=>∃k xs,knd.room A.in1/\knd.is s.heap k a/\s.heap.DictOfH knd d xs/\xs.length<=sizeLine/\
   (∀p,atKey xs k=some p->R (.ok (.ret p.2)) { s with toks:=s.toks+knd.draws k })/\
   (atKey xs k=none->∀h',h'.DictOfH knd d (storedH xs k a b)->Heap.SameBut d s.heap h'->R (.ok (.ret b)) { s with heap:=h',toks:=s.toks+knd.draws k })):=
 .of_wp λA R s ⟨k,xs,e,g,hm,hz,i,h⟩=>by
  unfold Builtin.«dict.setdefault»;show aa ?_;unfold Builtin.Dict.keyAndDefault;show aa (wpAny_notOrdered_dict hm.typeIs ?_);show wpAny _ _ (pure (d,Value.ref a,some b)) _ _ s;show ah ?_;show wpAny _ _ (if (d==sysModules)=true then _ else(dictSetDefault d (.ref a) b >>= _)) _ _ s;rw[if_neg (by rw[hd];show aC)];show aa (W8 e g hm (λp f=>ah ⟨p.2,rfl,i p f⟩) (λhn h' j c=>ah ⟨b,rfl,h hn h' j c⟩) hz)
end
def hJ(h:Heap)(d:Addr)(a:Array DictEntry)(b:Nat):Prop:=∃o,h.get? d=some o/\o.ExactDict/\o.data=.dict a b
theorem hJ.kept{h h':Heap}{d:Addr}{a:Array DictEntry}{b:Nat}(x:hJ h d a b)(k:∀o,h.get? d=some o->h'.get? d=some o):hJ h' d a b:=let⟨o,c,r⟩:=x;⟨o,k o c,r⟩
section
variable{prog:Program}{w:World}{A:Around}{E:Value->Shared->Prop}{s:Shared}{d it:Addr}{es:Array DictEntry}{ep i:Nat}
theorem hJ.ty(x:hJ s.heap d es ep):s.TypeIs (.ref d) "dict":=let⟨o,a,b,_⟩:=x;⟨o,a,b.1⟩
theorem T9{Q:Value->Shared->Prop}(hd:(d==sysModules)=false)(x:hJ s.heap d es ep)
  (q:Q (.ref s.heap.objs.size) { s with heap:=s.heap.push { cls:=.type "dict_keyiterator",data:=.fields #[.ref d,.int 0 0,.int es.size 0,.int ep 0] } }):wpAny (model prog w) A (pyIter (.ref d)) Q E s:=by
 obtain⟨c,b,_,a⟩:=id x;show wpAny_pyIter_slot x.ty F.slot_dict_iter (wpAny_call_entry F.slot_dict_iter x.ty F.entry_dict_iter ?_ (F.args_dict_iter_1 _));unfold Builtin.«dict.__iter__»;show aa (m:=Builtin.Dict.dictSlotNone _ _) ?_;unfold Builtin.Dict.dictSlotNone;show aa (wpAny_notOrdered_dict x.ty (show wpAny _ _ (pure (Value.ref d)) _ _ s from ah ?_));show wpAny _ _ (Builtin.Dict.showsAll d >>= _) _ _ s;unfold Builtin.Dict.showsAll;rw[if_neg (by rw[hd];show aC)];show aa (ah (aa (wpAny_dictEntries b a (aa (wpAny_dictEpoch b a (aa (bR (ah ⟨_,rfl,"dict_keyiterator",_,⟨_,aF _ rfl,rfl⟩,F.slot_dict_keyiterator_next.lookup,?_⟩))))))));simpa[rawInt] using q
theorem T8{Q:Option Value->Shared->Prop}(t:s.heap.IsKeyIter it d i es.size ep)(x:hJ s.heap d es ep)(f:i<es.size)
  (q:∀h',h'.IsKeyIter it d (i+1) es.size ep->Heap.SameBut it s.heap h'->Q (some es[i].key) { s with heap:=h' }):wpAny (model prog w) A (pyNext (.ref it)) Q E s:=by
 obtain⟨h,b,g,a⟩:=id t;obtain⟨j,e,_,c⟩:=id x;unfold pyNext;show aa (wpAny_attempt (wpAny_callSpecial?_slot (name:=Str.ofString "__next__") t.typeIs F.slot_dict_keyiterator_next
  (wpAny_call_entry F.slot_dict_keyiterator_next t.typeIs F.entry_dict_keyiterator_next ?_ (F.args_dict_keyiterator_next_1 _))))
 show aa (ah (aa (aa ?_)));show aa (wpAny_typeNameOfWhole_keyiter t.typeIs (ah (aa (wpAny_fieldsOf b a ?_))));simp only[show Builtin.Dict_items.ownsTuple "dict_keyiterator"=false by decide,aU,bG];show wpAny _ _ (if (Value.ref d==Value.none)=true then _ else _) _ _ s;rw[if_neg (show ¬((Value.ref d==Value.none)=true) from aC)];show aa (ah (aa (wpAny_dictEntries e c ?_)));rw[if_neg (by simp)];show aa (ah (aa (wpAny_dictEpoch e c ?_)));rw[if_neg (by simp)];show ah ?_;simp only[show ¬((i:Int)<0) from by ext,bG,ba,bJ f];show aa (aa (wpAny_typeNameOfWhole_keyiter t.typeIs (ah (aa (wpAny_isOneOf_keyiter t.typeIs ?_)))));show wpAny _ _ (setField (.ref it) 1 (rawInt ((i:Int)+1)) >>= _) _ _ s;show aa (wpAny_setField b a (by simp) ?_);have t':(s.heap.update it (Obj.mapFields (·.setIfInBounds 1 (rawInt ((i:Int)+1))))).IsKeyIter it d (i+1) es.size ep:=
  ⟨_,bM _ b (Obj.isFreed_of_fields (Obj.data_mapFields a _)),(Obj.cls_mapFields ..).trans g,by rw[Obj.data_mapFields a];simp[rawInt]⟩
 show aa (bC (aa (wpAny_isOneOf_keyiter (s:={ s with heap:=s.heap.update it (Obj.mapFields (·.setIfInBounds 1 (rawInt ((i:Int)+1)))) }) t'.typeIs ?_)));show wpAny _ _ (pure es[i].key) _ _ _;show ah (ah ⟨_,rfl,ah (q _ t' (Heap.SameBut.update ..))⟩)
theorem Sk{Q:Option Value->Shared->Prop}(hh:A.handled=none)(t:s.heap.IsKeyIter it d i es.size ep)(x:hJ s.heap d es ep)(h:es.size<=i)
  (q:∀h',Heap.ExtBut it s.heap h'->Q none { s with heap:=h' }):wpAny (model prog w) A (pyNext (.ref it)) Q E s:=by
 obtain⟨j,c,l,e⟩:=id t;obtain⟨k,g,_,f⟩:=id x;unfold pyNext;show aa (wpAny_attempt (wpAny_callSpecial?_slot (name:=Str.ofString "__next__") t.typeIs F.slot_dict_keyiterator_next
  (wpAny_call_entry F.slot_dict_keyiterator_next t.typeIs F.entry_dict_keyiterator_next ?_ (F.args_dict_keyiterator_next_1 _))))
 show aa (ah (aa (aa ?_)));show aa (wpAny_typeNameOfWhole_keyiter t.typeIs (ah (aa (wpAny_fieldsOf c e ?_))));simp only[show Builtin.Dict_items.ownsTuple "dict_keyiterator"=false by decide,aU,bG];show wpAny _ _ (if (Value.ref d==Value.none)=true then _ else _) _ _ s;rw[if_neg (show ¬((Value.ref d==Value.none)=true) from aC)];show aa (ah (aa (wpAny_dictEntries g f ?_)));rw[if_neg (by simp)];show aa (ah (aa (wpAny_dictEpoch g f ?_)));rw[if_neg (by simp)];show ah ?_;simp only[show ¬((i:Int)<0) from by ext,bG,ba,Array.getElem?_eq_none h];show aa (aa (wpAny_typeNameOfWhole_keyiter t.typeIs (ah ?_)));show wpAny _ _ (setField (.ref it) 0 .none >>= _) _ _ s;show aa (wpAny_setField c e (by simp) ?_);show wpAny _ _ (newExc (.type "StopIteration") [] >>= _) _ _ _;show aa ?_;simp only[newExc,newTuple];show aa (bR (aa (m:=firstArgMember _ _) (wpAny_of_eq (a:=Value.none) (by first | rfl | (simp only[firstArgMember];rfl)) (bR ?_ (by size_fits)))) (by size_fits));simp only[raiseNew];show aa (wpAny_handled ?_);rw[show A.in1.handled=none from hh];show aa (ah (wpAny_throw ?_));show aa (wpAny_isInstance (T:="StopIteration") (b:=true) ⟨_,aF _ rfl,rfl⟩ isSubtype_stop ?_);show ah (q _ (((Heap.SameBut.update ..).extBut.push _).push _))
end
end PySem
namespace L2
open PySem PySem.Spec PyProof.Rows
def IsT(H:Hp)(a:Addr):Prop:=∃kvs bs,Rd H a (.dT kvs bs)
section
variable{P:Program}{w:World}{H:Hp}{h:Heap}{a:Addr}
theorem wH{kvs:List (List Key×V)}{bs:List Addr×Nat}(ok:i6 P w H h)(e:Rd H a (.dT kvs bs)):kvs.length<=sizeLine/\(a==sysModules)=false/\
  ∃xs,xs.map (λx=>x.2.1)=bs.1/\KT H kvs xs/\h.DictOfH (tupleKind (nc P w)) a xs:=by
 obtain⟨z,y,xs,u,r,o,n,s,k,j,i,g,f⟩:=(show df P w H h a (.dT kvs bs) from J4 ok e)
 have all:∀{l:List (List Key×V)}{m:List (List Key×Addr×Value)},KT H l m->∀x∈m,(tupleKind (nc P w)).is h x.1 x.2.1:=λ{l m} q=>by
  induction q with
  | nil=>show λx b=>nomatch b
  | @cons p q ps v c t d=>
   intro x b;cases b with
   | head=>show wK ok (by rw[<-c.1];show c.2.1)
   | tail _ b=>show d x b
 show⟨z,y,xs,u,r,o,n,s,k,j,i,g,all r,f.1⟩
end
def Pk:TE:=λ_ H Q=>∀p,H p=none->Q (.ref p) (upd H p (.dT [] ([],0)))
section
variable{X:Cx}{pos:Pos}{e i':Expr}{te ti:TD}
theorem Lz:PE X (.Dict [] [] pos) Pk:=λb s σ H Q I h=>by
 have ok:df X.prog X.w (upd H s.heap.objs.size (.dT [] ([],0))) (s.heap.push { cls:=.type "dict",data:=.dict #[] }) s.heap.objs.size (.dT [] ([],0)):=
  ⟨a9 _,beq_eq_false_iff_ne.mpr (Ne.symm (aW I.big)),[],rfl,.nil,_,#[],0,aF _ rfl,⟨rfl,rfl,rfl⟩,rfl,rfl,List.nodup_nil,rfl⟩
 show wpAny_Dict_empty ⟨.ref s.heap.objs.size,_,I.laid (a:=s.heap.objs.size) (o:=.dT [] ([],0)) (t':=s.toks) (λ_ _ q=>aq _ q) (aD _) ok,rfl,h _ (I.cN.fresh (aD _))⟩
theorem Fu{h:List (Addr×Obj)}{c:St}{H:Hp}{s:Shared}{a:Addr}(I:Inv X h c H s)(d:IsT H a) :
  s.TypeIs (.ref a) "dict"/\(∀b,Value.ref a=.ref b->∃ob,s.heap.get? b=some ob/\ob.dict=none)/\(a==sysModules)=false:=by
 obtain⟨kvs,bs,e⟩:=d;obtain⟨_,hd,xs,_,_,dd⟩:=wH I.cN e;show⟨dd.typeIs,λb q=>?_,hd⟩;cases q;obtain⟨ob,_,_,g,f,_⟩:=dd;show⟨ob,g,f.2.1⟩
def Pj(e ty d:TE):TE:=λσ H Q=>e σ H λx H1=>∃a,x=.ref a/\IsT H1 a/\ty σ H1 λy g=>d σ g λz c=>∃kvs bs k b,c a=some (.dT kvs bs)/\y=.ref b/\c b=some (.tup (k.map kV))/\kvs.length<sizeLine/\
 (∀v,jF kvs k=some v->Q v c)/\(jF kvs k=none->∀f,Q z (upd c a (.dT (kvs++[(k,z)]) (bs.1++[b],f))))
theorem Sj{o e f:Expr}{g M:Pos}{C ty B:TE}(hu:X.A.units+64<cLine)(ho:PE X o C)(he:PE X e ty)(hf:PE X f B)(m:M2 X o "setdefault" g e f M):PE X (.Call (.Attribute o "setdefault" g) [e,f] [] M) (Pj C ty B):=by
 intro t s σ H Q I h;show wpAny_Call_method m.base m.rF m.line PySem.F.plainAttrs_dict PySem.F.slot_dict_setdefault PySem.F.type_dict_setdefault (cW (ho t s σ H _ I h) λu s1 j=>?_);obtain⟨x,H1,I1,R,a,ex,d,V⟩:=j;subst ex;obtain rfl:u=Value.ref a:=R;obtain⟨t1,O,_⟩:=Fu I1 d;show⟨t1,O,?_⟩;rw[m.trees];show Calls.callWith_builtin rfl (Calls.evalArgs_plain (Calls.spliced_cons (cW (he t s1 σ H1 _ I1 V) λW s2 j=>?_)));obtain⟨y,H2,I2,P,U⟩:=j;show Calls.spliced_cons (cW (hf t s2 σ H2 _ I2 U) λK s3 j=>?_);obtain⟨z,v,I3,D,kvs,bs,k,b,n,ey,hb,hl,T,S⟩:=j;show Calls.spliced_nil ?_;subst ey;obtain rfl:W=Value.ref b:=P;obtain⟨hz,hd,xs,bq,rel,dd⟩:=wH I3.cN (.inl n);have hlen:kvs.length=xs.length:=Paired.length rel;show call_meetsIn PySem.F.slot_dict_setdefault dd.typeIs PySem.F.entry_dict_setdefault (PySem.F.args_dict_setdefault_3 _ _ _) (Ya (knd:=tupleKind (nc X.prog X.w)) hd K)
  ⟨k,xs,tupleKind_room_in1 (by show X.A.units+1<cLine;ext),wK I3.cN hb,dd,by rw[<-hlen];show hz,λp Z=>?_,λhn h' N Y=>?_⟩
 .have r:=rel.val k;rw[Z] at r;cases i:jF kvs k with
  | none=>rw[i] at r;show r.elim
  | some x=>
   rw[i] at r;show⟨x,v,I3.tok _,r,T x i⟩
 have r:=rel.val k;rw[hn] at r;cases i:jF kvs k with
 | some=>rw[i] at r;show r.elim
 | none=>
  obtain⟨q,es,l,E,h2,h3,J,_,G⟩:=N;rw[storedH_new hn] at J G;have Hx:KT v (kvs++[(k,z)]) (xs++[(k,b,K)]):=Paired.snoc rel ⟨rfl,hb,D⟩;have ok:df X.prog X.w (upd v a (.dT (kvs++[(k,z)]) (bs.1++[b],l))) h' a (.dT (kvs++[(k,z)]) (bs.1++[b],l)):=by
   show⟨by rw[ax];simp;ext,hd,_,by rw[aH,bq];rfl,Hx.keeps λc ys L=>?_,q,es,l,E,h2,h3,J,G,rfl⟩;rw[dy (Kd L n (λz=>nomatch z))];show L
  show⟨z,_,Lq I3 (by rw[n];show True.intro) Y ⟨q,E⟩ ok,D,S i l⟩
def zC:TD:=λ_ Q=>Q (.ov (.dt []))
theorem LJ:PD X (.Dict [] [] pos) zC:=by
 show⟨_,Lz,λb σ f c G H Q P E h k=>λd hd=>?_⟩;show k _ _ (.ov (.dt [])) G (.own E.e.s hd) ⟨d,[],rfl,by simp,⟨[],([],0),gX,trivial,rfl,rfl,by simp only[bL,cC]⟩,λq a=>?_⟩ h;simp only[aK] at a;subst a;show⟨hd,E.e.s.free hd⟩
theorem Vv{ks:List (List Key×V)}{k:List Key}{j:Nat}{v:V}(h:ks[j]?=some (k,v))(c:∀b<j,∀p,ks[b]?=some p->p.1≠k):jF ks k=some v:=by
 induction ks generalizing j with
 | nil=>simp at h
 | cons a ks d=>
  unfold jF;rw[List.find?_cons];cases j with
  | zero=>
   simp only[bp,aN] at h;subst h;simp
  | succ j=>
   have ha:a.1≠k:=c 0 (Nat.succ_pos _) a rfl;simp only[ha,decide_false];simp only[bN] at h;show d h λb f p e=>c (b+1) (Nat.succ_lt_succ f) p (by simpa using e)
theorem Ds{ks:List (List Key×V)}{k:List Key}:(ks.any λkv=>decide (kv.1=k))=(jF ks k).isSome:=by
 induction ks with
 | nil=>rfl
 | cons a ks b=>
  unfold jF;rw[List.any_cons,List.find?_cons];by_cases h:a.1=k
  .simp[h]
  simp only[h,decide_false,Bool.false_or];show b
theorem MK{α β:Type}{ks:List (List Key×α)}{kvs:List (List Key×β)}(h:ks.map (·.1)=kvs.map (·.1))(k:List Key):(ks.any λkv=>decide (kv.1=k))=kvs.any λkv=>decide (kv.1=k):=by
 have b:(ks.any λkv=>decide (kv.1=k))=(ks.map (·.1)).any λx=>decide (x=k):=by rw[List.any_map];rfl
 have a:(kvs.any λkv=>decide (kv.1=k))=(kvs.map (·.1)).any λx=>decide (x=k):=by rw[List.any_map];rfl
 rw[b,a,h]
theorem cZ.snoc{H:Hp}{k:List Key}{v:V}{b:Addr}(hb:H b=some (.tup (k.map kV))):∀{ps:List (List Key×V)}{bs:List Addr},cZ H ps bs->cZ H (ps++[(k,v)]) (bs++[b])
 | [],[],_=>⟨hb,trivial⟩
 | p::ps,c::bs,h=>⟨h.1,cZ.snoc hb h.2⟩
 | [],_::_,h=>h.elim
 | _::_,[],h=>h.elim
theorem Vm{ks:List (List Key×V)}{k:List Key}{v:V}(h:jF ks k=none):jF (ks++[(k,v)]) k=some v:=by
 unfold jF at h ⊢;rw[List.find?_append];rw[Option.map_eq_none_iff] at h;rw[h];simp
noncomputable def oF:List D->Option (List Key)
 | []=>some []
 | d::r=>match zp d,oF r with
  | some k,some ks=>some (k::ks)
  | _,_=>none
theorem yI{K:J'}{G:Hp}:∀{ds:List D}{a:List V}{ks:List Key},bX K G a ds->oF ds=some ks->a=ks.map kV
 | [],[],ks,_,h=>by simp only[oF,aN] at h;subst h;rfl
 | d::ds,v::a,ks,r,h=>by
  simp only[bX] at r;simp only[oF] at h;split at h
  .rename_i k e c b;simp only[aN] at h;subst h;rw[Ud r.1 c,yI r.2 b];rfl
  cases h
 | [],_::_,_,r,_=>by simp only[bX] at r
 | _::_,[],_,r,_=>by simp only[bX] at r
noncomputable def lA(kvs:List (List Key×List D))(k:List Key):List (List Key×List D):=if (kvs.any λkv=>decide (kv.1=k))=true then kvs else kvs++[(k,[])]
end
section
variable{X:Cx}{pos:Pos}{e i':Expr}{te ti:TD}
theorem LI{α β:Type}{F:α->β->Prop}:∀{l₁:List α}{l₂:List β},Paired F l₁ l₂->∀{i:Nat}{a:α}{b:β},l₁[i]?=some a->l₂[i]?=some b->F a b
 | _,_,.nil,i,a,b,e,_=>by simp at e
 | _,_,.cons r t,0,a,b,d,c=>by
  simp only[bp,aN] at d c;subst d c;show r
 | _,_,.cons r t,i+1,a,b,d,c=>by
  simp only[bN] at d c;show LI t d c
def ztj:e8:=λds Q=>match ds with
 | [.dit kvs]=>∃a:List (List Int),kvs.map (·.1)=a.map (λt=>t.map Sum.inl)/\a.length<64/\(∀t∈a,t≠[])/\∀b:List (List Int),b.Perm a->b.Pairwise (λx y=>HT.vE x y=false)->Q (.ow (b.map λt=>.tup (t.map D.int)))
 | _=>False
theorem cy.keys{K:J'}{G:Hp}:∀{ks:List (List Key×V)}{kvs:List (List Key×D)},cy K G ks kvs->ks.map (·.1)=kvs.map (·.1)
 | [],[],_=>rfl
 | a::ks,b::kvs,h=>by
  simp only[cy] at h;rw[ao,ao,h.1.1,cy.keys h.2]
 | [],_::_,h=>by simp only[cy] at h
 | _::_,[],h=>by simp only[cy] at h
theorem cZ.at{H:Hp}:∀{ps:List (List Key×V)}{bs:List Addr}{i:Nat}{b:Addr}{k:List Key},cZ H ps bs->bs[i]?=some b->(ps.map (·.1))[i]?=some k->H b=some (.tup (k.map kV))
 | p::ps,c::bs,0,b,k,h,a,d=>by
  simp only[bp,aN,ao] at a d;subst a d;show h.1
 | p::ps,c::bs,i+1,b,k,h,a,d=>by
  simp only[bN,ao] at a d;show cZ.at h.2 a d
 | [],[],_,_,_,_,a,_=>by simp at a
 | [],_::_,_,_,_,h,_,_=>h.elim
 | _::_,[],_,_,_,h,_,_=>h.elim
def QX(K:J')(d ty:TE):TE:=λσ H Q=>d σ H λx H1=>ty σ H1 λy c=>∃a b kvs bs k v,x=.ref a/\y=.ref b/\Rd c a (.dT kvs bs)/\fk K c b (k.map kV)/\jF kvs k=some v/\Q v c
theorem T7{o i:Expr}{d ty:TE}(P:X.A.units+64<cLine)(D:PE X o d)(E:PE X i ty)(B:Ey i):PE X (.Subscript o i pos) (QX X.K d ty):=by
 intro e s σ H Q I h;show So PySem.F.slot_dict_getitem.lookup B (cW (D e s σ H _ I h) λu s1 c=>?_);obtain⟨x,H1,I1,g,m⟩:=c;show cW (E e s1 σ H1 _ I1 m) λt s2 c=>?_
 obtain⟨y,N,I2,f,a,b,kvs,bs,k,v,ex,G,ha,hb,z,l⟩:=c;subst ex G;obtain rfl:u=Value.ref a:=g;obtain rfl:t=Value.ref b:=f;obtain⟨_,hd,xs,_,rel,dd⟩:=wH I2.cN ha;obtain⟨its,j,⟨n,g1,L,q,J⟩,_⟩:=I2.tuple hb;have key:(tupleKind (nc X.prog X.w)).is s2.heap k b:=⟨n,its.toArray,q,g1,L,J,by simpa using Gb j⟩
 obtain⟨O,hw,r⟩:=lS.some_of (v:=v) (o:=(atKey xs k).map (·.2)) (by rw[<-z];show rel.val k);obtain⟨p,C,M⟩:=aZ.mp hw;show⟨dd.typeIs,wpAny_getItem_heap (tupleKind_room_in1 (by show X.A.units+1<cLine;ext)) key dd C ?_⟩;rw[M];show⟨v,N,I2.tok _,r,l⟩
noncomputable def oh(kvs:List (List Key×D))(k:List Key):Option D:=(kvs.find? λkv=>decide (kv.1=k)).map (·.2)
def yc(te ti:TD):TD:=λa Q=>te a λr=>ti a λrk=>match r.val,rk.val with
 | .dit kvs,.tup b=>∃k d,oF b=some k/\oh kvs k=some d/\Q (.fz d)
 | _,_=>False
theorem cy.look{K:J'}{G:Hp}{k:List Key}{d:D}:∀{ks:List (List Key×V)}{kvs:List (List Key×D)},cy K G ks kvs->oh kvs k=some d->∃v,jF ks k=some v/\Rep K G v d
 | [],[],_,e=>by simp[oh] at e
 | a::ks,b::kvs,h,e=>by
  simp only[cy] at h;unfold oh at e;unfold jF;rw[List.find?_cons] at e ⊢;rw[h.1.1];by_cases c:b.1=k
  .simp only[c,decide_true,bO,aN] at e ⊢;subst e;show⟨_,rfl,h.1.2⟩
  simp only[c,decide_false] at e ⊢;show cy.look h.2 e
 | [],_::_,h,_=>by simp only[cy] at h
 | _::_,[],h,_=>by simp only[cy] at h
theorem FL(K:X.A.units+64<cLine)(he:PD X e te)(R:PD X i' ti)(L:Ey i':=by intro _ _;rfl):PD X (.Subscript e i' pos) (yc te ti):=by
 obtain⟨t,p,q⟩:=he;obtain⟨Z,F,D⟩:=R;show⟨_,T7 K p F L,λl σ o n G H Q P E h k=>q l σ o n G H _ _ E h λv H1 r G1 z C M=>?_⟩;obtain⟨W,m,i,_⟩:=C.freeze z;show D l σ o n W H1 _ _ (E.ext m) M λu U rk G3 y B f=>?_
 obtain⟨V,c,j,_⟩:=B.freeze y;split at f
 .rename_i kvs es T S;obtain⟨key,d,O,N,f⟩:=f;rw[T] at i;rw[S] at j;simp only[Rep] at i j;obtain⟨a,ks,bs,rfl,ha,Y,x⟩:=i;obtain⟨b,ys,rfl,hb,I⟩:=j;obtain⟨w,hw,J⟩:=(cy.mono c.g _ _ x).look N;show⟨a,b,ks,bs,key,w,rfl,rfl,.inl (c.s _ _ (c.g _ _ ha)),by rw[<-yI I O];show c.s.nu hb,hw,k w U (.fz d) V (m.trans c) J f⟩
 show f.elim
end
section
variable{K:J'}{G0 H0 G H G' H' G2 H2:Hp}{ρ:Ev}{σ:St}{v:V}
theorem c9.unset{i:Nat}{u:Option V}(E:c9 K G0 H0 ρ σ G H):c9 K G0 H0 (ρ.set i .un) (σ.set i u) G H:=by
 have a:∀j s,gt (ρ.set i .un) j=s->s≠.un->i≠j/\gt ρ j=s:=λj s e f=>by
  rw[vi] at e;by_cases h:i=j/\j<ρ.length
  .rw[if_pos h] at e;show absurd e.symm f
  rw[if_neg h] at e;show⟨λz=>h ⟨z,yg e f⟩,e⟩
 have ss:∀j,i≠j->(σ.set i u)[j]?=σ[j]?:=λj h=>by rw[List.getElem?_set,if_neg h]
 obtain⟨own,q,m⟩:=E.on;show⟨E.e,by simp[E.len],λj d h=>?_,λj ds h=>?_,λj k ds t l c b=>?_,own,λj ds p h g=>?_,λj o h=>?_⟩
 .obtain⟨n,h⟩:=a j _ h (by simp);rw[ss j n];show E.fz j d h
 .obtain⟨n,h⟩:=a j _ h (by simp);rw[ss j n];show E.ow j ds h
 .obtain⟨n,c⟩:=a j _ c (by simp);obtain⟨r,b⟩:=a k _ b (by simp);rw[ss j n,ss k r];show E.dj j k ds t l c b
 .obtain⟨n,h⟩:=a j _ h (by simp);rw[ss j n] at g;show q j ds p h g
 obtain⟨n,h⟩:=a j _ h (by simp);rw[ss j n];show m j o h
end
noncomputable def Cd(f:List D->Bool)(l:List (Addr×List D)):List V:=(l.filter λp=>f p.2).map λp=>.ref p.1
end L2
namespace PySem
open Sem (wp)
end PySem
namespace L2
open PySem PySem.Spec PyProof.Rows
end L2
namespace PySem
open Sem (wp)
end PySem
namespace L2
open PySem PySem.Spec PyProof.Rows
namespace SI
open PySem PySem.Spec PyProof.Rows
end SI
end L2
namespace L2
open PySem PySem.Spec PyProof.Rows
namespace SI
end SI
end L2
namespace L2
open PySem PySem.Spec PyProof.Rows
section
variable{P:Program}{w:World}{K:J'}{mg:Str->Option Value}{base:Heap}
theorem i7{x:Str}{st:Stmt}{N ps:List Str}{t:e8}{T:TX}{n d:Nat}(k:Nat)(A:At K mg x st)(S:ck N ps (b9 st))
  (body:∀(f:Addr)(c:Value)(A:Around)(outer:List Env)(s:Shared)(H:Hp)(E:XK),eQ k (A.deeper (envOfC x (b9 st) s.heap.objs.size f c))->oC (pG qS P w K mg base N x (b9 st) f c A outer s H E).vA (dz st) T)
  (a:∀(ds:List D)(e:R->Prop),ds.length=n->t ds e->T { nx:=λ_=>e (.fz .non),rt:=e } (tJ N ds))
  (b:∀(kV doc pm:Value)(an:Option Addr)(c ct:Value)(us:List Value),us.length=n->bindArgs (PySem.W.fnOf x x (gn st) (dz st) (b9 st) .none kV doc pm an c ct) ⟨us,[]⟩=pure (ps.zip us)) (hn:ps.length=n:=by rfl) (hd:k+1=d:=by rfl):Known P w K mg base d x n t:=by
 subst hn hd;obtain⟨f,fd,F,hm⟩:=A.ex;show⟨f,fd,ps,Lv F S (body f) a,hm,F.kp,F.binds b⟩
end
end L2
namespace Ts
open PySem PySem.W PyProof.Rows
end Ts
namespace L2
open PySem PySem.Spec PyProof.Rows
theorem ue{α:Type}{l:List α}{n:Nat}(h:l.length=n+1):∃a r,l=a::r/\r.length=n:=by
 cases l with
 | nil=>cases h
 | cons a r=>show⟨a,r,rfl,Nat.succ.inj h⟩
theorem OU{α:Type}{l:List α}(h:l.length=0):l=[]:=List.eq_nil_of_length_eq_zero h
theorem Cc{α:Type}{l:List α}(h:l.length=1):∃b,l=[b]:=by
 obtain⟨a,r,e,h⟩:=ue h;show⟨a,by rw[e,OU h]⟩
theorem JD{α:Type}{l:List α}(h:l.length=2):∃d a1,l=[d,a1]:=by
 obtain⟨a,r,e,h⟩:=ue h;obtain⟨c,b⟩:=Cc h;show⟨a,c,by rw[e,b]⟩
theorem JC{α:Type}{l:List α}(h:l.length=3):∃f a1 a2,l=[f,a1,a2]:=by
 obtain⟨a,r,e,h⟩:=ue h;obtain⟨d,c,b⟩:=JD h;show⟨a,d,c,by rw[e,b]⟩
theorem JB{α:Type}{l:List α}(h:l.length=4):∃g a1 a2 a3,l=[g,a1,a2,a3]:=by
 obtain⟨a,r,e,h⟩:=ue h;obtain⟨f,d,c,b⟩:=JC h;show⟨a,f,d,c,by rw[e,b]⟩
theorem JA{α:Type}{l:List α}(h:l.length=5):∃j a1 a2 a3 i,l=[j,a1,a2,a3,i]:=by
 obtain⟨a,r,e,h⟩:=ue h;obtain⟨g,f,d,c,b⟩:=JB h;show⟨a,g,f,d,c,by rw[e,b]⟩
theorem Jz{α:Type}{l:List α}(h:l.length=6):∃m a1 a2 a3 k j,l=[m,a1,a2,a3,k,j]:=by
 obtain⟨a,r,e,h⟩:=ue h;obtain⟨i,g,f,d,c,b⟩:=JA h;show⟨a,i,g,f,d,c,by rw[e,b]⟩
theorem Jy{α:Type}{l:List α}(h:l.length=7):∃o a1 a2 a3 n m k,l=[o,a1,a2,a3,n,m,k]:=by
 obtain⟨a,r,e,h⟩:=ue h;obtain⟨j,i,g,f,d,c,b⟩:=Jz h;show⟨a,j,i,g,f,d,c,by rw[e,b]⟩
theorem OS{α:Type}{l:List α}(h:l.length=8):∃q a1 a2 a3 p o n m,l=[q,a1,a2,a3,p,o,n,m]:=by
 obtain⟨a,r,e,h⟩:=ue h;obtain⟨k,j,i,g,f,d,c,b⟩:=Jy h;show⟨a,k,j,i,g,f,d,c,by rw[e,b]⟩
theorem zux{α:Type}{l:List α}(h:l.length=9):∃t a1 a2 a3 s q p o n,l=[t,a1,a2,a3,s,q,p,o,n]:=by
 obtain⟨a,r,e,h⟩:=ue h;obtain⟨m,k,j,i,g,f,d,c,b⟩:=OS h;show⟨a,m,k,j,i,g,f,d,c,by rw[e,b]⟩
open PySem.Builtin PySem.Builtin.Str
section
variable{X:Cx}
theorem Vu{A:Around}{E:Value->Shared->Prop}{prog:Program}{w:World}{s:Shared}{Q:Value->Shared->Prop}{x y:Str}{t u:Tok}(c:(y.length==0)=false)
  (b:∀l tk,l.map (·.1)=Txt.split x y->Q (.ref s.heap.objs.size) { s with heap:=s.heap.push { cls:=.type "list",data:=.seq (strValues l).toArray },toks:=tk })
  (hsz:x.length+2<=sizeLine):wpAny (model prog w) A (call (.builtin "str.split") [.str x t,.str y u]) Q E s:=by
 have d:(partsBetween x (occurrences x y 0 x.length (x.length+1)) y.length).length<=sizeLine:=by
  rw[len_partsBetween];have:=StrLaws.occ_length_le x y 0 x.length (x.length+1);ext
 cases a:(decide (x.length<y.length)||decide (strKind x<strKind y))
 .cases hf:(occurrences x y 0 x.length (x.length+1)).isEmpty
  .refine call_meets PySem.F.slot_str_split (typeIs_str _ _ _) PySem.F.entry_str_split (PySem.F.args_str_split_2 _ _) (meets_str_split_sep x y t u a c hf (by ext) d) ?_;show wants Q E _ { s with toks:=_,heap:=s.heap.push { cls:=.type "list",data:=.seq (strsFrom s.toks (partsBetween x (occurrences x y 0 x.length (x.length+1)) y.length)).toArray } };rw[strsFrom_eq];show b (numbered s.toks _) _ ((numbered_texts _ _).trans ((if_neg (ne_true_of_eq_false a)).trans (if_neg (ne_true_of_eq_false hf))).symm)
  show call_meets PySem.F.slot_str_split (typeIs_str _ _ _) PySem.F.entry_str_split (PySem.F.args_str_split_2 _ _) (meets_str_split_not_found x y t u a c hf)
   (b [(x,t)] s.toks ((if_neg (ne_true_of_eq_false a)).trans (if_pos hf)).symm)
 show call_meets PySem.F.slot_str_split (typeIs_str _ _ _) PySem.F.entry_str_split (PySem.F.args_str_split_2 _ _) (meets_str_split_cannot_occur x y t u a)
  (b [(x,t)] s.toks (if_pos a).symm)
theorem LH:∀(l:List (Str×Tok)),Vals ((l.map (·.1)).map V.str) (strValues l)
 | []=>.nil
 | (x,t)::r=>.cons ⟨t,rfl⟩ (LH r)
theorem MJ{K:J'}{G:Hp}:∀(l:List Str),bX K G (l.map V.str) (l.map D.str)
 | []=>bX.nil
 | x::r=>bX.cons (tM _ _ _) (MJ r)
def tI:D->List D->(R->Prop)->Prop:=λd ds Q=>match d,ds with
 | .str x,[.str y]=>y.length≠0/\x.length+2<=sizeLine/\Q (.ow ((Txt.split x y).map D.str))
 | _,_=>False
theorem CW:Ee X "str.split" tI:=by
 show⟨λx b H Q=>∃(z y:Str),x=.str z/\b=[.str y]/\y.length≠0/\z.length+2<=sizeLine/\∀p,H p=none->Q (.ref p) (upd H p (.lst ((Txt.split z y).map V.str))),λm s σ H x xs v us Q I a rs h=>?_,λG H x d b ds Q P s a rs h k=>?_⟩
 .obtain⟨z,y,rfl,rfl,g,hz,q⟩:=h;obtain⟨t,rfl⟩:=a;obtain⟨u,rfl,f⟩:=mV rs;obtain⟨j,rfl⟩:=f;show Vu (by simpa using g) (λl tk i=>?_) hz;have e:=LH l;rw[i] at e;show⟨.ref _,_,I.uE (t':=tk) e (by rw[ae];show aR (split_le z y) hz),rfl,q _ I.fresh⟩
 unfold tI at h;split at h
 .obtain⟨y,rfl,c⟩:=mh rs;simp only[Rep] at a c;subst a c;show⟨_,_,rfl,rfl,h.1,h.2.1,CS s (MJ _) h.2.2 k⟩
 show h.elim
def yb:O2:=λd e Q=>match d,e with
 | .str x,.int n=>x.length=1/\0<=n/\n<1000/\Q (.fz (.str (Txt.mul x n)))
 | _,_=>False
theorem Ph{x:Str}{n:Int}(c:x.length=1)(e:0<=n)(d:n<1000):MulOk x n:=by
 show⟨?_,λa b=>?_,λa b=>?_⟩
 .rw[aG (by ext),aG (by ext)];rfl
 .rw[c];have:1<=(2 ^ 63-1)/n:=Int.le_ediv_of_mul_le (by ext) (by ext);ext
 rw[c];unfold tooLong;simp only[decide_eq_false_iff_not];have:(1000:Nat)<=sizeLine:=by decide
 ext
theorem Ft:lH X (binaryOp .Mult) yb:=by
 show⟨λx y H Q=>∃(z:Str)(n:Int),x=.str z/\y=.int n/\z.length=1/\0<=n/\n<1000/\Q (.str (Txt.mul z n)) H,λj s σ H x y v u Q I b a h=>?_,λG H x y d e Q P s b a h k=>?_⟩
 .obtain⟨z,n,rfl,rfl,g,f,c,q⟩:=h;obtain⟨t,rfl⟩:=b;obtain⟨i,rfl⟩:=a;show SB.mul (Ph g f c) λt' kk=>⟨.str _,H,I.tok _,⟨_,rfl⟩,q⟩
 unfold yb at h;split at h
 .simp only[Rep] at b a;show⟨_,_,b,a,h.1,h.2.1,h.2.2.1,k _ _ _ G (.refl s) (f9 (tM _ _ _)) h.2.2.2⟩
 show h.elim
end
end L2
namespace L2.SO
open PySem PySem.Spec PyProof.Rows L2
end L2.SO
namespace L2
open PySem PySem.Spec PyProof.Rows
def t7(a:Shared)(H:Hp)(b:Addr):Prop:=(∃o,a.heap.get? b=some o)\/H b≠none
def Fly(l:List Env)(C a:Addr)(P:Addr->Prop)(h:Heap):Prop:=∃B c,Heap.FlyingW B l a (.ref C) c h/\∀b o,P b->h.get? b=some o->b∉iA l->B.get? b=some o
def t9(P:Program)(w:World)(C:Addr):t8:=λouter H s E e b=>∃a H',e=.ref a/\b.os=s.os/\AllBare b.gens/\Un (iA outer) [] H H' s.heap b.heap/\i6 P w H' b.heap/\H' a=none/\s.heap.get? a=none/\Fly outer C a (t7 s H') b.heap/\E (.ref a) none H'
section
variable{X:Cx}{K':List (Addr×Obj)}{σ:St}{H:Hp}{s:Shared}
theorem df.some{P:Program}{w:World}{H:Hp}{h:Heap}{a:Addr}{o:HO}(x:df P w H h a o):∃ob,h.get? a=some ob:=by
 cases o with
 | lst xs=>show⟨_,x.2.choose_spec.choose_spec.2⟩
 | tup xs=>
  obtain⟨_,its,_,ob,e,_⟩:=x;show⟨ob,e⟩
 | dK kvs d=>
  obtain⟨_,_,_,_,ob,_,e,_⟩:=x;show⟨ob,e⟩
 | dT kvs bs=>
  obtain⟨_,_,_,_,_,ob,_,_,e,_⟩:=x;show⟨ob,e⟩
 | set S n=>
  obtain⟨ob,_,_,_,e,_⟩:=x;show⟨ob,e⟩
 | ins C g fs=>show⟨_,x.2.2.2.1⟩
 | own y=>show x
 | xd fs=>
  obtain⟨_,⟨ob,_,_,e,_⟩,_⟩:=x;show⟨ob,e⟩
 | DK lo c=>
  obtain⟨_,_,_,e⟩:=x;show⟨_,e⟩
 | lF ob u=>show⟨ob,x.1⟩
 | vw ps=>show⟨_,x⟩
 | met f y=>show⟨_,x⟩
 | ext b=>show x.2.1
theorem Inv.there(I:Inv X K' σ H s)(a:X.ex=[]){b:Addr}(h:t7 X.dA H b):∃o,s.heap.get? b=some o:=by
 rcases h with⟨o,e⟩ | h
 .exact I.base.there b o e (by rw[a];simp)
 cases e:H b with
 | none=>show absurd e h
 | some u=>show(I.cN b u e).some
theorem Inv.gone(I:Inv X K' σ H s)(c:X.ex=[])(A:X.stack=X.env::X.outer)(y:X.env.frame=some X.env.locals){B h':Heap}(st:B.StaysIn h')(k:∀b o,t7 X.dA H b->s.heap.get? b=some o->b∉iA X.stack->B.get? b=some o)(j:∀b∈iA X.outer,∀o,s.heap.get? b=some o->(∀p,o.data≠.fields p)->∃sl,h'.get? b=some { o with slots:=sl }) :
  Un (iA X.outer) [] X.qQ H X.dA.heap h'/\i6 X.prog X.w H h'/\∀b o,t7 X.dA H b->h'.get? b=some o->b∉iA X.outer->B.get? b=some o:=by
 have q:iA X.stack=X.env.locals::iA X.outer:=by rw[A];simp[iA,y]
 have r:∀b,t7 X.dA H b->b≠X.env.locals:=λb h z=>by
  subst z;rcases h with⟨o,e⟩ | h
  .exact absurd (aI e) (Nat.not_lt.mpr I.ok.above)
  show h I.free
 have out:∀b,t7 X.dA H b->b∉iA X.outer->b∉iA X.stack:=λb h n=>by
  rw[q];simp only[az,not_or];show⟨r b h,n⟩
 have same:∀b o,t7 X.dA H b->b∉iA X.outer->s.heap.get? b=some o->h'.get? b=some o:=λb o h n e=>st b o (k b o h e (out b h n))
 have i:∀b,H b≠none->b∉iA X.outer:=λb h m=>by
  obtain⟨_,o,x,_⟩:=I.ok.ia.mem m;show h (I.base.free b o x (I.ok.tX b m) (by rw[c];simp))
 show⟨⟨λb o e n hb _=>?_,λb o e n hb _=>?_,λb o e n _=>?_,λb o e _=>?_,I.base.kA,I.base.jT,I.base.kC⟩,λa u e=>?_,λb o h e n=>?_⟩
 .exact same b o (.inl ⟨o,e⟩) hb (I.base.keep b o e n hb (by rw[c];simp))
 .obtain⟨sl,d⟩:=I.base.slot b o e n hb (by rw[c];simp);obtain⟨_,o',g,hd⟩:=I.ok.ia.mem hb;rw[e] at g;cases g;obtain⟨l,f⟩:=j b hb _ d hd;show⟨l,f⟩
 .exact I.base.free b o e n (by rw[c];simp)
 .by_cases hb:b∈iA X.outer
  .obtain⟨sl,d⟩:=I.base.slot b o e (I.ok.tX b hb) hb (by rw[c];simp);obtain⟨_,o',g,hd⟩:=I.ok.ia.mem hb;rw[e] at g;cases g;obtain⟨l,f⟩:=j b hb _ d hd;show⟨_,f⟩
  obtain⟨o',d⟩:=I.base.there b o e (by rw[c];simp);show⟨o',same b o' (.inl ⟨o,e⟩) hb d⟩
 .refine(I.cN a u e).kW (λb v hb t=>?_) (λ_ h=>h) λ_ _ h=>h
  have hn:H b≠none:=by
   rcases hb with rfl | hb
   .rw[e];show nofun
   rw[hb];show nofun
  show same b v (.inr hn) (i b hn) t
 obtain⟨o',d⟩:=I.there c h;have f:=same b o' h n d;rw[e] at f;cases f;show k b o h d (out b h n)
def Et(X:Cx)(C:Addr)(W:Hp->Prop):Prop:=∀(K':List (Addr×Obj))(σ:St)(H:Hp)(s:Shared)(h':Heap)(a:Addr)(b:List Value),Inv X K' σ H s->Heap.MadeExcOf s.heap h' a (.ref C) b->W H->X.xe (.ref a) { s with heap:=h' }
end
section
variable{P:Program}{w:World}{K:J'}{mg:Str->Option Value}{base:Heap}{N:List Str}{qual:Str}{scope:Scope}{f C:Addr}{cd:Value}{A:Around}{outer:List Env}{s0:Shared}{H0:Hp}{E:XK}
theorem Ly:Et (pG (t9 P w C) P w K mg base N qual scope f cd A outer s0 H0 E) C λH'=>∀a,E (.ref a) none H':=by
 intro p σ H s h' a i I c hw;have r:Inv (pG (t9 P w C) P w K mg base N qual scope f cd A outer s0 H0 E) p σ H { s with heap:=h' }:=I.kept (t':=s.toks) c.keeps;have l:=I.qO.ia;have no:∀b,t7 s0 H b->b≠a:=λb hb z=>by
  obtain⟨o,e⟩:=I.there rfl hb;rw[z,c.new] at e;cases e
 show wpAny_leaves_madeW (base:=PySem.W.hideAll s.heap (iA (envOfC qual scope s0.heap.objs.size f cd::outer))) (h:=s.heap) (cls:=.ref C) (args:=i) I.ok.frames rfl (λb o q=>PySem.W.of_hideAll _ q) (PySem.W.funFrames_hide l λenv he b hb=>List.mem_filterMap.mpr ⟨env,he,hb⟩) c λv t d tup x up=>?_
 have j:∀b o,t7 s0 H b->h'.get? b=some o->b∉iA (envOfC qual scope s0.heap.objs.size f cd::outer)->(PySem.W.hideAll s.heap (iA (envOfC qual scope s0.heap.objs.size f cd::outer))).get? b=some o:=λb o hb e n=>by
  obtain⟨k,g⟩:=I.there rfl hb;have:=c.keeps b k g;rw[e] at this;cases this;show PySem.W.hideAll_get _ g n
 obtain⟨un,cN,m⟩:=r.gone rfl rfl rfl d.1 j λb _=>up b
 show⟨a,H,rfl,I.os,I.bare,un,cN,?_,?_,⟨_,_,d,m⟩,hw a⟩
 .cases q:H a with
  | none=>rfl
  | some u=>show absurd rfl (no a (.inr (by rw[q];show nofun)))
 cases q:s0.heap.get? a with
 | none=>rfl
 | some u=>show absurd rfl (no a (.inl ⟨u,q⟩))
end
section
variable{X:Cx}{pos:Pos}{te:TE}{e0:Expr}{W:Hp->Prop}
def QW(W:Hp->Prop)(te:TE):TS:=λ_ σ H=>te σ H λx H1=>[x].length=1/\W H1
structure gr(K:J')(mg:Str->Option Value)(x:Str)(C:Addr)(qj:List Value)(newId:String):Prop where
 bound:mg x=some (.ref C)
 exc:PySem.W.excIn K C qj newId=true
theorem gr.at{K:J'}{mg:Str->Option Value}{x:Str}{C:Addr}{f:List Value}{a:String}{h:Heap}(o:gr K mg x C f a)(b:K.In h):OwnCls x C f a mg h:=by
 obtain⟨hb,z⟩:=o;unfold PySem.W.excIn at z;split at z
 .rename_i q n s1 look;split at z
  .rename_i r p e0 m l e3 nn k he hz;simp only[aT,beq_iff_eq,Bool.not_eq_true'] at z;obtain⟨⟨⟨⟨⟨j,i⟩,e⟩,g⟩,c⟩,d⟩:=z;subst j i;cases n;dsimp only at he e c d;subst he e;obtain rfl:s1=#[e0,m,l,e3,some (.builtin nn),k]:=by
    cases s1;simp only at hz;rw[hz]
   show⟨hb,_,_,_,_,_,_,_,_,_,_,_,_,_,_,_,_,_,b _ _ look,.of_isNs (PySem.W.isNs_of_in b c),PySem.W.nsMap_none_of_in b c d,PySem.W.tail_of_in b g⟩
  cases z
 cases z
theorem T6{C:Addr}{x:Str}{f:List Value}{b B k:String}{l d:Pos}(O:gr X.K X.mg x C f b)(j:ExcBaseFacts B b k f)(o:X.calm=true)(T:Et X C W)(he:PE X e0 te)(hg:Gl X x:=by rfl)(hd:(x==("__debug__":Str))=false:=by decide)
  (c:starEach [e0] X.env=(false,eval e0 X.env)::starEach [] X.env:=by rfl) (m:(backTo d (starEach [] X.env)).any (·.1)=false:=by rfl):PS X (.Raise (some (.Call (.Name x l) [e0] [] d)) none pos) (QW W te):=by
 intro i s σ H D I h;have O:=O.at I.ok.mod.vF;obtain⟨tl,w,nm,q,bs,hdct,sn,sub,ab,col,dd,k0,k1,k2,k3,k5,mN,t,p,y,g⟩:=O.obj;show wpAny_Raise_call_subT (C:=C) (nm:=nm) (q:=q) (N:=w) (bs:=bs) (bm:=tl) (hdct:=hdct) (sn:=sn) (sub:=sub) (ab:=ab) (col:=col) (dd:=dd) (k0:=k0) (k1:=k1) (k2:=k2) (k3:=k3) (k5:=k5) j (mN:=mN) (g.hasType j.hasBase) (I.ok.hd o) ?_ y (zQ I hg O.bound ⟨rfl,?_⟩ hd)
 .rw[c];show m
 have v:PA X [e0] (J2 te JN):=m9 he oM c;have run:=v d i s σ H (λe H1=>e.length=1/\W H1) I h;rw[c] at run ⊢;show Calls.evalArgs_plain (cW run λus s2 u=>?_);obtain⟨e,H1,I1,r,n,hw⟩:=u;show⟨rfl,?_,I1.bk _ _ t,p.keeps I1.bk,g.keeps I1.bk,λh' a hm=>T i σ H1 s2 h' a us I1 hm hw⟩;show us.length<=sizeLine;rw[<-r.length,n];decide
end
noncomputable abbrev uS:=List D->(R->Prop)->Prop->Prop
def BW(K:J')(n:Nat)(t:uS):Sp:=λe H Q E=>∃G ds d c,cw G H/\bX K G e ds/\ds.length=n/\t ds d c/\(∀v H' r b,Ext G H b H'->ee K b H' H v r->d r->Q v H')/\∀b H',Ext G H b H'->c->∀a,E (.ref a) none H'
structure gS(P:Program)(w:World)(K:J')(mg:Str->Option Value)(base:Heap)(C:Addr)(k:Nat)(x:Str)(n:Nat)(t:uS):Prop where
 ex:∃(f:Addr)(fd:FuncData)(ps:List Str),jY P w K mg base (t9 P w C) k f fd ps (BW K n t)/\mg x=some (.ref f)/\PySem.W.keepIn K (.ref f)=true/\Binds K fd ps []
section
variable{X:Cx}{W:Hp->Prop}{Qx:Prop}{pos:Pos}{e:Expr}{es:List Expr}{te:TD}{ts:ix}
def BU(X:Cx)(W:Hp->Prop)(Qx:Prop)(st:Stmt)(t:TX):Prop:=∃tt,PS X st tt/\∀(c:Ev)(σ:St)(b a G H:Hp)(D:DE)(E:Ends),c9 X.K b a c σ G H->t D c->Goes X.K b a G D E->(∀d H',Ext b a d H'->Qx->W H')->tt E σ H
def wy(X:Cx)(W:Hp->Prop)(Qx:Prop)(st:List Stmt)(t:TX):Prop:=∃tt,nT X st tt/\∀(c:Ev)(σ:St)(b a G H:Hp)(D:DE)(E:Ends),c9 X.K b a c σ G H->t D c->Goes X.K b a G D E->(∀d H',Ext b a d H'->Qx->W H')->tt E σ H
theorem QV{st:Stmt}{t:TX}(h:PX X st t):BU X W Qx st t:=let⟨tt,p,q⟩:=h;⟨tt,p,λa σ c b G H D E k h g _=>q a σ c b G H D E k h g⟩
theorem Lx{a:List Stmt}{t:TX}(h:oC X a t):wy X W Qx a t:=let⟨tt,p,q⟩:=h;⟨tt,p,λb σ d c G H D E k h g _=>q b σ d c G H D E k h g⟩
theorem MI{st:Stmt}{a:List Stmt}{t u:TX}(o:BU X W Qx st t)(n:wy X W Qx a u):wy X W Qx (st::a) (cL t u):=by
 obtain⟨t1,l,i⟩:=o;obtain⟨r,j,f⟩:=n;show⟨_,F1 l j,λd σ c b G H D E k h g hw=>i d σ c b G H _ _ k h ⟨λρ' p q H' e m h'=>f ρ' p c b q H' D E m h' (g.shift e) hw,g.rt,g.bk,g.ct⟩ hw⟩
theorem T5{st:Stmt}{t:TX}(c:BU X W Qx st t):wy X W Qx [st] t:=let⟨t1,b,a⟩:=c;⟨_,CV b,a⟩
theorem QU{c:Expr}{a b:List Stmt}{tc:iU}{t u:TX}(r:PB X c tc)(ha:wy X W Qx a t)(hb:wy X W Qx b u):BU X W Qx (.If c a b pos) (fR tc t u):=by
 obtain⟨t0,q,n⟩:=r;obtain⟨t1,p,m⟩:=ha;obtain⟨s,o,l⟩:=hb;show⟨_,EL q p o,λe σ i f G H D E k h g hw=>n e σ i f G H _ _ k h λb H' j x d=>?_⟩;cases b with
 | true=>
  rw[if_pos rfl] at d ⊢;show m e σ i f j H' D E (k.ext x) d (g.shift x.g) hw
 | false=>
  rw[if_neg aC] at d ⊢;show l e σ i f j H' D E (k.ext x) d (g.shift x.g) hw
def zF(Qx:Prop)(te:TD):TX:=λ_ a=>te a λ_=>Qx
theorem LG{C:Addr}{x:Str}{b:List Value}{a B f:String}{i c:Pos}(O:gr X.K X.mg x C b a)(u:ExcBaseFacts B a f b)(n:X.calm=true)(T:Et X C W)(he:PD X e te)(hg:Gl X x:=by rfl)(hd:(x==("__debug__":Str))=false:=by decide)
  (j:starEach [e] X.env=(false,eval e X.env)::starEach [] X.env:=by rfl) (m:(backTo c (starEach [] X.env)).any (·.1)=false:=by rfl):BU X W Qx (.Raise (some (.Call (.Name x i) [e] [] c)) none pos) (zF Qx te):=by
 obtain⟨tt,p,q⟩:=he;show⟨_,T6 O u n T p hg hd j m,λd σ s o G H D E k h g hw=>q d σ s o G H _ _ k h λv H' r t x w l=>⟨rfl,hw t H' (k.e.trans x) l⟩⟩
def Fs(n:Nat)(t:uS)(Qx:Prop)(ts:ix):TD:=λa Q=>ts a λds=>ds.length=n/\t ds Q Qx
end
section
variable{P:Program}{w:World}{K:J'}{mg:Str->Option Value}{base:Heap}
theorem MH{C:Addr}{x:Str}{st:Stmt}{N ps:List Str}{t:uS}{T:Prop->TX}{n d:Nat}(k:Nat)(A:At K mg x st)(S:ck N ps (b9 st))
  (body:∀(c:Prop)(f:Addr)(g:Value)(A:Around)(outer:List Env)(s:Shared)(H:Hp)(E:XK),eQ k (A.deeper (envOfC x (b9 st) s.heap.objs.size f g))->wy (pG (t9 P w C) P w K mg base N x (b9 st) f g A outer s H E) (λH'=>∀a,E (.ref a) none H') c (dz st) (T c))
  (j:∀(ds:List D)(i:R->Prop)(c:Prop),ds.length=n->t ds i c->T c { nx:=λ_=>i (.fz .non),rt:=i } (tJ N ds))
  (b:∀(kV doc pm:Value)(an:Option Addr)(g ct:Value)(us:List Value),us.length=n->bindArgs (PySem.W.fnOf x x (gn st) (dz st) (b9 st) .none kV doc pm an g ct) ⟨us,[]⟩=pure (ps.zip us)) (hn:ps.length=n:=by rfl) (hd:k+1=d:=by rfl):gS P w K mg base C d x n t:=by
 subst hn hd;obtain⟨f,fd,F,hm⟩:=A.ex;show⟨f,fd,ps,?_,hm,F.kp,F.binds b⟩;obtain⟨J,I,kV,doc,pm,an,g,ct,B,rfl,lk,u⟩:=F.ex;show J1 lk u S (λm H Q E h=>?_) λA outer s H m Q E v h=>?_
 .obtain⟨G,ds,i,c,_,r,l,_⟩:=h;rw[r.length,l]
 obtain⟨G,ds,i,c,s0,r,l,ht,k0,o⟩:=h;obtain⟨tt,p,q⟩:=body c f g A outer s H E v;show⟨tt,p,q _ _ G H G H _ _ (LS s0 r) (j ds i c l ht) ⟨λz σ y H' _ e h=>k0 _ H' _ y e.e (f9 (Fy _ _)) h,k0,λ_ _ _ _ _ _ h=>h.elim,λ_ _ _ _ _ _ h=>h.elim⟩ o⟩
end
theorem QT{P:Program}{w:World}{fs:List Addr}{H H':Hp}{h d c B:Heap}(u:Un fs [] H H' h d)(i:∀b∈fs,H b=none/\∃o,h.get? b=some o/\∀k,o.data≠.fields k)(st:B.StaysIn c)
  (p:∀b o,((∃o,h.get? b=some o)\/H' b≠none)->d.get? b=some o->b∉fs->B.get? b=some o) (l:d.UpToSlots c) (cN:i6 P w H' d):Un fs [] H H' h c/\i6 P w H' c:=by
 have same:∀b o,((∃o,h.get? b=some o)\/H' b≠none)->b∉fs->d.get? b=some o->c.get? b=some o:=λb o hb n e=>st b o (p b o hb e n)
 have slot:∀b∈fs,∀o,h.get? b=some o->∃sl,c.get? b=some { o with slots:=sl }:=λb hb o e=>by
  obtain⟨n,o',j,hd⟩:=i b hb;rw[e] at j;cases j;obtain⟨sl,g⟩:=u.slot b o e n hb (by simp);obtain⟨s,f⟩:=l b _ g hd;show⟨s,f⟩
 have r:∀b,H' b≠none->b∉fs:=λb hb m=>by
  obtain⟨n,o,e,_⟩:=i b m;show hb (u.free b o e n (by simp))
 show⟨⟨λb o e n hb _=>same b o (.inl ⟨o,e⟩) hb (u.keep b o e n hb (by simp)),λb o e n hb _=>slot b hb o e,λb o e n _=>u.free b o e n (by simp),λb o e _=>?_,u.kA,u.jT,u.kC⟩,λa v e=>?_⟩
 .by_cases hb:b∈fs
  .obtain⟨sl,f⟩:=slot b hb o e;show⟨_,f⟩
  obtain⟨o',g⟩:=u.there b o e (by simp);show⟨o',same b o' (.inl ⟨o,e⟩) hb g⟩
 show(cN a v e).kW (λb q hb t=>?_) (λ_ z=>z) λ_ _ z=>z
 have hn:H' b≠none:=by
  rcases hb with rfl | hb
  .rw[e];show nofun
  rw[hb];show nofun
 show same b q (.inr hn) (r b hn) t
section
variable{X:Cx}
noncomputable abbrev Cx.jr(X:Cx)(a:Addr):Cx:={ X with A:=X.A.mark (some (.ref a)),calm:=false }
theorem Inv.jr{c:List (Addr×Obj)}{b:St}{H:Hp}{s:Shared}(I:Inv X c b H s)(a:Addr):Inv (X.jr a) c b H s:=
 ⟨⟨I.ok.mod,I.ok.kind,I.ok.glob,I.ok.blt,I.ok.above,I.ok.inj,I.ok.has,I.ok.cab,λz=>(by cases z),I.ok.frames,I.ok.AE,I.ok.exf,I.ok.bs,I.ok.vY,I.ok.qF,I.ok.qN,I.ok.ia,I.ok.tX⟩,I.os,I.bare,I.base,I.loc,I.cell,I.free,I.gk,I.pin,I.cN,I.len⟩
theorem Inv.xh{c:List (Addr×Obj)}{b:St}{H:Hp}{s:Shared}{a:Addr}(ok:X.Ok)(I:Inv (X.jr a) c b H s):Inv X c b H s:=
 ⟨ok,I.os,I.bare,I.base,I.loc,I.cell,I.free,I.gk,I.pin,I.cN,I.len⟩
theorem Si{n:List (Addr×Obj)}{i:St}{H:Hp}{s:Shared}{Q:VK}{E:XK}{o:Value->Shared->Prop}{a ds:List Value}{c g:List V}{k:Nat}{f C:Addr}{m:FuncData}{ps:List Str}{j:Sp}(F:jY X.prog X.w X.K X.mg X.base (t9 X.prog X.w C) k f m ps j)(q:eQ k X.A)(hb:Binds X.K m ps ds)(hd:Vals g ds)
  (I:Inv X n i H s) (r:Vals c a) (h:j (c++g) H Q E) (p:∀e d,t9 X.prog X.w C X.stack H s E e d->o e d):wpAny (model X.prog X.w) X.A (call (.ref f) a) (EP X n i Q) o s:=by
 have l:Vals (c++g) (a++ds):=r.append hd;have t:(a++ds).length=ps.length:=by rw[<-l.length];show F.len _ _ _ _ h
 show wpAny_call (codeAny_mono (F.run X.A X.stack s H ⟨a,[]⟩ (a++ds) (c++g) Q E q I.qO (hb s a I.nB t) l h) λr d b=>?_);cases r with
 | error e=>show p e d b
 | ok v=>
  cases v with
  | ret u=>show I.after b
  | next=>show False.elim b
  | brk=>show False.elim b
  | cont=>show False.elim b
end
section
variable{prog:Program}{w:World}{K:Type}[DecidableEq K]{knd:HeapKind prog w K}{A:Around}{E:Value->Shared->Prop}{s:Shared}{d a:Addr}{k:K}{xs:List (K×Addr×Value)}
theorem Np{Q:Bool->Shared->Prop}(c:knd.room A.in1)(b:knd.is s.heap k a)(hd:(d==sysModules)=false)(hm:s.heap.DictOfH knd d xs)
  (h:Q (atKey xs k).isSome { s with toks:=s.toks+knd.draws k }):wpAny (model prog w) A (contains (.ref d) (.ref a)) Q E s:=by
 unfold contains;try with_reducible show bC ?_
 show aa (wpAny_specialOf hm.typeIs slot_dict_contains.lookup ?_);show wpAny _ _ (if (some (Value.builtin "dict.__contains__")==some Value.none)=true then _ else _) _ E s;rw[if_neg (by rw[beq_builtin_none];show aC)];show aa (wpAny_callSpecialUnlessNone?_slot (name:=Str.ofString "__contains__") hm.typeIs slot_dict_contains
  (wpAny_call_entry slot_dict_contains hm.typeIs entry_dict_contains ?_ (args_dict_contains _ _)))
 show wpAny _ _ (dictGet d (.ref a) >>= _) _ _ s;show aa (wpAny_dictGet_heap c b hm ?_);cases hf:atKey xs k with
 | some p=>
  rw[hf] at h;show wpAny _ _ (ret (.bool true)) _ _ _;show ah ⟨_,rfl,bK h⟩
 | none=>
  rw[hf] at h;show wpAny _ _ (Builtin.Dict.pendingKey? d (.ref a) >>= _) _ _ _;show aa (wpAny_pendingKey_other hd (ah ⟨_,rfl,bK h⟩))
end
section
variable{X:Cx}{pos:Pos}{e i':Expr}{te ti tv:TD}
def Es(n:Bool):R2:=λx y H Q=>∃a b kvs bs k,y=.ref a/\x=.ref b/\Rd H a (.dT kvs bs)/\H b=some (.tup (k.map kV))/\Q (.bl (if n then !(jF kvs k).isSome else(jF kvs k).isSome)) H
theorem ztY(e:X.A.units+64<cLine):ib X (compareOp .In) (Es false):=by
 intro f s σ H x y v u Q I d c h;obtain⟨a,b,kvs,bs,k,rfl,rfl,ha,hb,q⟩:=h;cases d;cases c;obtain⟨_,hd,xs,_,rel,dd⟩:=wH I.cN ha;show aa (Np (knd:=tupleKind (nc X.prog X.w)) (tupleKind_room_in1 (by show X.A.units+1<cLine;ext)) (wK I.cN hb) hd dd (ah ⟨.bl _,H,I.tok _,rfl,?_⟩));have:=(rel.val k).iy;rw[Option.isSome_map] at this;rw[<-this];show q
theorem Vl(e:X.A.units+64<cLine):ib X (compareOp .NotIn) (Es true):=by
 intro f s σ H x y v u Q I d c h;obtain⟨a,b,kvs,bs,k,rfl,rfl,ha,hb,q⟩:=h;cases d;cases c;obtain⟨_,hd,xs,_,rel,dd⟩:=wH I.cN ha;show aa (Np (knd:=tupleKind (nc X.prog X.w)) (tupleKind_room_in1 (by show X.A.units+1<cLine;ext)) (wK I.cN hb) hd dd (ah ⟨.bl _,H,I.tok _,rfl,?_⟩));have:=(rel.val k).iy;rw[Option.isSome_map] at this;rw[<-this];show q
theorem cy.isSome{K:J'}{G:Hp}(k:List Key):∀{ks:List (List Key×V)}{kvs:List (List Key×D)},cy K G ks kvs->(jF ks k).isSome=(oh kvs k).isSome
 | [],[],_=>rfl
 | a::ks,b::kvs,h=>by
  simp only[cy] at h;unfold oh jF;rw[List.find?_cons,List.find?_cons,h.1.1];by_cases c:b.1=k
  .simp only[c,decide_true,bO,Option.isSome_some]
  simp only[c,decide_false];show cy.isSome k h.2
 | [],_::_,h=>by simp only[cy] at h
 | _::_,[],h=>by simp only[cy] at h
def zo(a:Bool):O2:=λd e Q=>match d,e with
 | .tup b,.dit kvs=>∃k,oF b=some k/\Q (.fz (.bl (if a then !(oh kvs k).isSome else(oh kvs k).isSome)))
 | _,_=>False
theorem Sh{n:Bool}{G H:Hp}{x y:V}{d e:D}{Q:R->Prop}{P:VK}(s:cw G H)(f:Rep X.K G x d)(c:Rep X.K G y e)(h:zo n d e Q)(k:∀v H' r g,Ext G H g H'->ee X.K g H' H v r->Q r->P v H'):Es n x y H P:=by
 unfold zo at h;split at h
 .simp only[Rep] at f c;obtain⟨b,ys,rfl,hb,j⟩:=f;obtain⟨a,ks,bs,rfl,ha,m,i⟩:=c;obtain⟨key,l,q⟩:=h;show⟨a,b,ks,bs,key,rfl,rfl,.inl (s _ _ ha),by rw[<-yI j l];show s _ _ hb,?_⟩;rw[i.isSome key];show k _ _ _ G (.refl s) (f9 (ky _ _ _)) q
 show h.elim
theorem T4(c:X.A.units+64<cLine):lH X (compareOp .NotIn) (zo true):=⟨_,Vl c,λG H x y d e Q P s b a h k=>Sh s b a h k⟩
def ET:TD:=λ_ Q=>Q (.ov (.dq []))
theorem T1:PD X (.Dict [] [] pos) ET:=by
 show⟨_,Lz,λb σ f c G H Q P E h k=>λd hd=>?_⟩;show k _ _ (.ov (.dq [])) G (.own E.e.s hd) ⟨d,[],rfl,by simp,⟨rfl,[],([],0),gX,trivial,by simp only[cy]⟩,λq a=>?_⟩ h;simp only[aK] at a;subst a;show⟨hd,E.e.s.free hd⟩
def SM(e ty d:TE):TE:=λσ H Q=>e σ H λx H1=>∃a,x=.ref a/\IsT H1 a/\ty σ H1 λy f=>d σ f λz c=>∃kvs bs k b,Rd c a (.dT kvs bs)/\y=.ref b/\c b=some (.tup (k.map kV))/\Q ((jF kvs k).getD z) c
theorem UM{o e f:Expr}{c n:Pos}{l ty j:TE}(O:X.A.units+64<cLine)(E:PE X o l)(he:PE X e ty)(J:PE X f j)(m:M2 X o "get" c e f n):PE X (.Call (.Attribute o "get" c) [e,f] [] n) (SM l ty j):=by
 intro i s σ H Q I h;show wpAny_Call_method m.base m.rF m.line PySem.F.plainAttrs_dict PySem.F.slot_dict_get PySem.F.type_dict_get (cW (E i s σ H _ I h) λu s1 g=>?_);obtain⟨x,H1,I1,t,a,ex,d,C⟩:=g;subst ex;obtain rfl:u=Value.ref a:=t;obtain⟨t1,p,_⟩:=Fu I1 d;show⟨t1,p,?_⟩;rw[m.trees];show Calls.callWith_builtin rfl (Calls.evalArgs_plain (Calls.spliced_cons (cW (he i s1 σ H1 _ I1 C) λD s2 g=>?_)));obtain⟨y,N,I2,r,B⟩:=g;show Calls.spliced_cons (cW (J i s2 σ N _ I2 B) λK s3 g=>?_);obtain⟨z,M,I3,q,kvs,bs,k,b,G,L,hb,v⟩:=g;show Calls.spliced_nil ?_;subst L;obtain rfl:D=Value.ref b:=r;obtain⟨hz,hd,xs,P,rel,dd⟩:=wH I3.cN G;show call_meetsIn PySem.F.slot_dict_get dd.typeIs PySem.F.entry_dict_get (PySem.F.args_dict_get_3 _ _ _) (meetsH_dict_get_default (tupleKind (nc X.prog X.w)) a b hd K) ⟨tupleKind_room_in1 (by show X.A.units+1<cLine;ext),k,xs,wK I3.cN hb,dd,?_⟩;show⟨_,M,I3.tok _,(rel.val k).getD q,v⟩
def Fb(te ti b:TD):TD:=λa Q=>te a λr=>match r.val with
 | .dit kvs=>ti a λrk=>b a λc=>match rk.val with
  | .tup d=>∃k,oF d=some k/\Q (.fz ((oh kvs k).getD c.val))
  | _=>False
 | _=>False
theorem Uz(hu:X.A.units+64<cLine){f:Expr}{i:Pos}{J:TD}(he:PD X e te)(hi:PD X i' ti)(hf:PD X f J)(m:M2 X e "get" i i' f pos:=by show⟨rfl,rfl,rfl,rfl⟩):PD X (.Call (.Attribute e "get" i) [i',f] [] pos) (Fb te ti J):=by
 obtain⟨t,p,q⟩:=he;obtain⟨t2,p2,q2⟩:=hi;obtain⟨t3,p3,Z⟩:=hf;show⟨_,UM hu p p2 p3 m,λo σ F D G H Q P E h k=>q o σ F D G H _ _ E h λv H1 r G1 U Y C=>?_⟩;obtain⟨G2,j,y,_⟩:=Y.freeze U;split at C
 .rename_i kvs hk;rw[hk] at y;simp only[Rep] at y;obtain⟨a,ks,bs,rfl,ha,xE,N⟩:=y;show⟨a,rfl,⟨ks,bs,.inl (j.s _ _ ha)⟩,?_⟩;show q2 o σ F D G2 H1 _ _ (E.ext j) C λu H3 rk G3 T V fi=>?_
  obtain⟨G4,I,B,_⟩:=V.freeze T;show Z o σ F D G4 H3 _ _ ((E.ext j).ext I) fi λz L W G5 S O c=>?_
  obtain⟨M,x,R,_⟩:=O.freeze S;split at c
  .rename_i es e2;obtain⟨key,h1,c⟩:=c;have l:=I.trans x;rw[e2] at B;simp only[Rep] at B;obtain⟨b,ys,rfl,hb,lM⟩:=B;show⟨ks,bs,key,b,.inl (l.s _ _ (l.g _ _ ha)),rfl,by rw[<-yI lM h1];show x.s _ _ (x.g _ _ hb),?_⟩;have K:=cy.mono l.g _ _ N;cases n:oh kvs key with
   | none=>
    have:=K.isSome key;rw[n] at this;cases hv:jF ks key with
    | some=>rw[hv] at this;cases this
    | none=>
     rw[n] at c;show k _ L (.fz W.val) M (j.trans l) R c
   | some d=>
    obtain⟨w,hw,l7⟩:=K.look n;rw[hw];rw[n] at c;show k _ L (.fz d) M (j.trans l) l7 c
  show c.elim
 show C.elim
def QS(d ty tv:TE):TS:=λD σ H=>tv σ H λv H1=>d σ H1 λx f=>ty σ f λy c=>∃a b kvs bs k,x=.ref a/\y=.ref b/\c a=some (.dT kvs bs)/\c b=some (.tup (k.map kV))/\kvs.length<sizeLine/\∀e,D.nx σ (upd c a (.dT (qX kvs k v) (if (kvs.any λkv=>decide (kv.1=k))=true then bs.1 else bs.1++[b],e)))
theorem Uy{o i d:Expr}{f:Pos}{l ty tv:TE}(hu:X.A.units+64<cLine)(Q:PE X o l)(R:PE X i ty)(O:PE X d tv)(P:swapsWith d (some (.Subscript o i f)) pos.line X.env=pure false) :
  PS X (.Assign [.Subscript o i f] d pos) (QS l ty tv):=by
 intro j s σ H D I h;show wpAny_Assign_Subscript (cW (O j s σ H _ I h) λr s1 g=>?_) P;obtain⟨v,H1,I1,G,L⟩:=g;show cW (Q j s1 σ H1 _ I1 L) λu s2 g=>?_
 obtain⟨x,Z,I2,F,K⟩:=g;show cW (R j s2 σ Z _ I2 K) λN s3 g=>?_
 obtain⟨y,H3,I3,E,a,b,kvs,bs,k,ex,W,ha,hb,hl,J⟩:=g;subst ex W;obtain rfl:u=Value.ref a:=F;obtain rfl:N=Value.ref b:=E;obtain⟨hz,hd,xs,B,rel,dd⟩:=wH I3.cN (.inl ha);have hlen:kvs.length=xs.length:=Paired.length rel;show wpAny_setItem_heap (knd:=tupleKind (nc X.prog X.w)) (hsz:=by rw[<-hlen];show hz) (tupleKind_room_in1 (by show X.A.units+1<cLine;ext)) (wK I3.cN hb) dd λh' C M=>?_
 obtain⟨q,Y,n,m,V,U,T,_,S⟩:=C;show⟨σ,_,?_,J n⟩;show Lq I3 (by rw[ha];show True.intro) M ⟨q,m⟩ ⟨by have:=Wq kvs k v;ext,hd,_,?_,(rel.put k hb G).keeps λc ys t=>?_,q,Y,n,m,V,U,T,S,rfl⟩
 .have e:(kvs.any λkv=>decide (kv.1=k))=(atKey xs k).isSome:=by
   rw[F4,(rel.val k).iy,Option.isSome_map]
  unfold storedH;rw[e];by_cases z:(atKey xs k).isSome=true
  .rw[if_pos z,if_pos z,ay,<-B];show List.map_congr_left λp _=>?_
   show(putAt k r p).2.1=p.2.1;unfold putAt;split<;>rfl
  rw[if_neg z,if_neg z,aH,B];rfl
 rw[dy (Kd t ha (λz=>nomatch z))];show t
end
noncomputable def ug(kvs:List (List Key×D))(k:List Key)(d:D):List (List Key×D):=
 if (kvs.any λkv=>decide (kv.1=k))=true then kvs.map (λkv=>if kv.1=k then(kv.1,d) else kv) else kvs++[(k,d)]
section
variable{K:J'}{G:Hp}
theorem cy.length:∀{ks:List (List Key×V)}{kvs:List (List Key×D)},cy K G ks kvs->ks.length=kvs.length
 | [],[],_=>rfl
 | a::ks,b::kvs,h=>by
  simp only[cy] at h;simp only[av,cy.length h.2]
 | [],_::_,h=>by simp only[cy] at h
 | _::_,[],h=>by simp only[cy] at h
theorem cy.any(k:List Key):∀{ks:List (List Key×V)}{kvs:List (List Key×D)},cy K G ks kvs->(ks.any λkv=>decide (kv.1=k))=kvs.any λkv=>decide (kv.1=k)
 | [],[],_=>rfl
 | a::ks,b::kvs,h=>by
  simp only[cy] at h;rw[List.any_cons,List.any_cons,h.1.1,cy.any k h.2]
 | [],_::_,h=>by simp only[cy] at h
 | _::_,[],h=>by simp only[cy] at h
theorem cy.snoc{k:List Key}{v:V}{d:D}(r:Rep K G v d):∀{ks:List (List Key×V)}{kvs:List (List Key×D)},cy K G ks kvs->cy K G (ks++[(k,v)]) (kvs++[(k,d)])
 | [],[],_=>by simp only[List.nil_append,cy];show⟨⟨trivial,r⟩,trivial⟩
 | a::ks,b::kvs,h=>by
  simp only[cy] at h;simp only[List.cons_append,cy];show⟨h.1,cy.snoc r h.2⟩
 | [],_::_,h=>by simp only[cy] at h
 | _::_,[],h=>by simp only[cy] at h
theorem cy.oQ{k:List Key}{v:V}{d:D}(r:Rep K G v d):∀{ks:List (List Key×V)}{kvs:List (List Key×D)},cy K G ks kvs->cy K G (ks.map λkv=>if kv.1=k then(kv.1,v) else kv) (kvs.map λkv=>if kv.1=k then(kv.1,d) else kv)
 | [],[],_=>by simp only[bL,cy]
 | a::ks,b::kvs,h=>by
  simp only[cy] at h;simp only[ao,cy];show⟨?_,cy.oQ r h.2⟩;rw[h.1.1];split
  .exact⟨rfl,r⟩
  show⟨h.1.1,h.1.2⟩
 | [],_::_,h=>by simp only[cy] at h
 | _::_,[],h=>by simp only[cy] at h
theorem cy.put{ks:List (List Key×V)}{kvs:List (List Key×D)}{k:List Key}{v:V}{d:D}(h:cy K G ks kvs)(r:Rep K G v d):cy K G (qX ks k v) (ug kvs k d):=by
 unfold qX ug;rw[h.any k];split
 .exact h.oQ r
 show h.snoc r
theorem cZ.oQ{k:List Key}{v:V}:∀{ps:List (List Key×V)}{bs:List Addr},cZ G ps bs->cZ G (ps.map λkv=>if kv.1=k then(kv.1,v) else kv) bs
 | [],[],h=>h
 | p::ps,b::bs,h=>by
  rw[ao];show⟨?_,cZ.oQ h.2⟩;split
  .exact h.1
  show h.1
 | [],_::_,h=>h.elim
 | _::_,[],h=>h.elim
theorem cZ.put{ks:List (List Key×V)}{bs:List Addr}{k:List Key}{v:V}{b:Addr}(h:cZ G ks bs)(hb:G b=some (.tup (k.map kV))):cZ G (qX ks k v) (if (ks.any λkv=>decide (kv.1=k))=true then bs else bs++[b]):=by
 unfold qX;split
 .exact h.oQ
 show h.snoc hb
end
section
variable{X:Cx}{pos:Pos}{e i':Expr}{te ti tv:TD}
def Cu(i:Nat)(ti tv:TD):TX:=λD a=>match gt a i with
 | .ov (.dq kvs)=>tv a λr=>ti a λrk=>match rk.val with
  | .tup b=>∃k,oF b=some k/\kvs.length<sizeLine/\D.nx (a.set i (.ov (.dq (ug kvs k r.val))))
  | _=>False
 | _=>False
theorem SK(hu:X.A.units+64<cLine)(i:Nat){x:Str}{w o:Pos}(hi:PD X i' ti)(he:PD X e tv)(hN:X.N[i]?=some x:=by rfl)(Z:nR X.env.scope x:=by first | show Or.inl rfl | show Or.inr (Or.inl rfl) | show Or.inr (Or.inr rfl))(hd:(x==("__debug__":Str))=false:=by decide)(Y:(x==("__classdict__":Str))=false:=by decide)
  (hs:swapsWith e (some (.Subscript (.Name x w) i' o)) pos.line X.env=pure false:=by rfl) :
  PX X (.Assign [.Subscript (.Name x w) i' o] e pos) (Cu i ti tv):=by
 obtain⟨t,p,q⟩:=he;obtain⟨t2,Hy,U⟩:=hi;show⟨_,Uy hu (rh hN Z hd Y) Hy p hs,λm σ I C G H D E k h g=>?_⟩;unfold Cu at h;split at h
 .rename_i kvs hg;obtain⟨own,o1,V⟩:=k.on;obtain⟨a,fp,B,b2,⟨rfl,ks,bs,ha,xE,K⟩,b4⟩:=V i _ hg;show q m σ I C G H _ _ k h λv H' r G' M R l=>?_
  obtain⟨G2,n,Q,_⟩:=R.freeze M;show⟨_,B,U m σ I C G2 H' _ _ (k.ext n) l λu H3 rk G3 L O c=>?_⟩;obtain⟨F,f,j,_⟩:=O.freeze L;split at c
  .rename_i es e2;obtain⟨key,hk,hlen,c⟩:=c;rw[e2] at j;simp only[Rep] at j;obtain⟨b,ys,rfl,hb,W⟩:=j;have y:F b=some (.tup (key.map kV)):=by rw[<-yI W hk];show hb
   have d:=n.trans f;show⟨a,b,ks,bs,key,rfl,rfl,d.h _ _ ha,f.s _ _ y,by rw[K.length];show hlen,λep=>?_⟩;show g.nx _ _ F _ d.g ((k.ext d).jy hg B λfp nd ow=>?_) c;obtain⟨rfl,J,P,D6,Iy,Hv⟩:=ow;have e1:J=ks/\P=bs:=by
    have:=(d.h _ _ ha).symm.trans D6;injection this with this
    injection this with S T
    show⟨S.symm,T.symm⟩
   obtain⟨rfl,rfl⟩:=e1;show⟨[],by simp,⟨rfl,_,_,gX,Iy.put y,Hv.put (Q.mono f.g)⟩,λq l=>.inl l,λb hb _=>dy λz=>hb (by simp[z])⟩
  show c.elim
 show h.elim
end
section
variable{X:Cx}{pos:Pos}{e i':Expr}{te ti:TD}
def wC(i:Nat)(tk te:TD):TX:=λD a=>match gt a i with
 | .ov (.dt kvs)=>tk a λrk=>match rk.val with
  | .tup c=>∃k n ds,oF c=some k/\kvs.length<sizeLine/\(lA kvs k)[n]?=some (k,ds)/\(∀b<n,∀p,(lA kvs k)[b]?=some p->p.1≠k)/\
   te (a.set i (.ov (.dt (lA kvs k)))) λr=>ds.length<sizeLine/\D.nx (a.set i (.ov (.dt ((lA kvs k).set n (k,ds++[r.val])))))
  | _=>False
 | _=>False
theorem E8(hu:X.A.units+64<cLine)(i:Nat){x:Str}{y:Expr}{R Q p3 p4 p5 C:Pos}{tk:TD}(hk:PD X y tk)(he:PD X e te)(hN:X.N[i]?=some x:=by rfl)(L:nR X.env.scope x:=by first | show Or.inl rfl | show Or.inr (Or.inl rfl) | show Or.inr (Or.inr rfl))(hd:(x==("__debug__":Str))=false:=by decide)(iz:(x==("__classdict__":Str))=false:=by decide)
  (gh:starEach [e] X.env=(false,eval e X.env)::starEach [] X.env:=by rfl) (m:M2 X (.Name x R) "setdefault" Q y (.List [] p3) p4:=by show⟨rfl,rfl,rfl,rfl⟩)
  (hb:∀{ta:TE}{t:TA},PE X (.Call (.Attribute (.Name x R) "setdefault" Q) [y,.List [] p3] [] p4) ta->PA X [e] t->PE X (.Call (.Attribute (.Call (.Attribute (.Name x R) "setdefault" Q) [y,.List [] p3] [] p4) "append" p5) [e] [] C) (Ax X.K "list" CT ta t):=by intro ta t h1 h2;show zA PySem.F.plainAttrs_list PySem.F.slot_list_append PySem.F.type_list_append Gg h1 h2) :
  PX X (.Expr (.Call (.Attribute (.Call (.Attribute (.Name x R) "setdefault" Q) [y,.List [] p3] [] p4) "append" p5) [e] [] C) pos) (wC i tk te):=by
 obtain⟨t,p,q⟩:=he;obtain⟨tkk,pk,qk⟩:=hk;show⟨_,CU (hb (Sj hu (rh hN L hd iz) pk (Kt oM) m) (m9 p oM gh)),λρ σ W T G H D E k h g=>?_⟩;unfold wC at h;split at h
 .rename_i kvs hg;obtain⟨own,o1,o2⟩:=k.on;obtain⟨a,fp0,M,b20,⟨YW,bs0,ha0,_⟩,b40⟩:=o2 i _ hg;show⟨_,M,a,rfl,⟨YW,bs0,.inl ha0⟩,qk ρ σ W T G H _ _ k h λvk Hk rk Gk xk YA Ib=>?_⟩;obtain⟨U,x2,rm,_⟩:=YA.freeze xk;split at Ib;rotate_left
  .exact Ib.elim
  rename_i es f;obtain⟨key,n,ds,Bk,hlen,hj,xG,sF⟩:=Ib;rw[f] at rm;simp only[Rep] at rm;obtain⟨bb,vs,rfl,D3,Yy⟩:=rm;have Y:=k.ext x2;have s2:cw G U:=x2.g;have eO:i<ρ.length:=yg hg (by simp);obtain⟨YK,o12,YO⟩:=Y.on;obtain⟨a2,fp,OG,b2,⟨ks,bs,ha,xE,Iw,hkv,hr⟩,b4⟩:=YO i _ hg;rw[M] at OG;cases OG;have hb:Hk bb=some (.tup vs):=Y.e.s _ _ D3;have Oy:=yI Yy Bk;have yU:ks.length=kvs.length:=by have:=congrArg List.length Iw;simpa using this
  have qd:=hg;have Iq:=eO;have gbb:=D3;generalize hρ:ρ=ρ' at *;generalize hH:Hk=H1 at *
  -- KJ xb
  have fin:∀(O:Hp)(v:V)(Q5:VK),c9 X.K W T (ρ'.set i (.ov (.dt (lA kvs key)))) σ U O->(∀u BQ,O a=some (.dT u BQ)->jF u key=some v)->(∀H',E.nx σ H'->Q5 .non H')->
    Ar X.K "list" v O/\t σ O λw H6=>CT v [w] H6 Q5:=by
   intro O v Q5 E5 Zi hQ5;have Od:gt (ρ'.set i (.ov (.dt (lA kvs key)))) i=.ov (.dt (lA kvs key)):=by rw[vi,if_pos ⟨rfl,Iq⟩]
   obtain⟨YJ,_,o5⟩:=E5.on;obtain⟨a',fp5,c1,c2,⟨u,BQ,d1,dk,d2,d3,d4⟩,c4⟩:=o5 i _ Od;rw[M] at c1;cases c1;obtain⟨J,xs,f1,f2,f3⟩:=d4.get (j:=n) (ds:=ds) (by rw[ar,hj];rfl);have ZK:u[n]?=some (key,.ref J):=by
    have c:=congrArg (λl=>l[n]?) d2;have f:=congrArg (λl=>l[n]?) d3;simp only[ar,hj,f1,bO] at c f;cases yU:u[n]? with
    | none=>rw[yU] at c;cases c
    | some p=>
     rw[yU] at c f;simp only[bO,aN] at c f;obtain⟨R,Q⟩:=p;simp only at c f;rw[c,f]
   have L:v=.ref J:=by
    have c:=Vv ZK λj' Bl p hp z=>by
     have c:=congrArg (λl=>l[j']?) d2;simp only[ar,hp,bO] at c;cases ht:(lA kvs key)[j']? with
     | none=>rw[ht] at c;cases c
     | some p'=>
      rw[ht] at c;simp only[bO,aN] at c;show xG j' Bl p' ht (by rw[<-c];show z)
    rw[Zi u BQ d1] at c;injection c
   subst L;show⟨.inl ⟨rfl,xs,eP.of f2⟩,q _ σ W T U O _ _ E5 sF λw H7 r G7 x7 YB N1=>?_⟩;obtain⟨G8,P,Yz,_⟩:=YB.freeze x7;show⟨J,xs,w,rfl,rfl,P.h _ _ f2,by rw[f3.length];show N1.1,hQ5 _ (g.nx _ _ G8 _ (s2.trans P.g) ?_ N1.2)⟩;have E9:=(E5.ext P).jy (o':=.dt ((lA kvs key).set n (key,ds++[r.val]))) (H':=upd H7 J (.lst (xs++[w]))) Od M λB nd ow=>?_
   .rw[List.set_set] at E9;show E9
   obtain⟨xq,sV,c,ek,f,e3,e4⟩:=ow;have Jf:xq=u:=by
    have:=(P.h _ _ d1).symm.trans c;injection this with this
    injection this with this
    show this.symm
   subst Jf;have efp:B=fp5:=(List.map_inj_right λa b h=>by cases h;rfl).mp (e3.symm.trans d3);subst efp;have vC:=bj.mp nd;have N0:J∈B:=aw f1;show⟨B,nd,⟨xq,sV,?_,ek,?_,e3,?_⟩,λq d=>.inl d,λb hb _=>dy λz=>hb (by rw[z];show au _ N0)⟩
   .rw[dy (λz:a=J=>vC.1 (z▸N0))];show c
   .rw[f,List.map_set];apply List.ext_getElem?;intro m;rw[List.getElem?_set];split
    .rename_i hn;subst hn;rw[ar,hj];simp only[bO,ae];rw[if_pos (aj.mp hj).1]
    rfl
   rw[List.map_set];show e4.set ((f3.mono P.g).append (bX.cons Yz bX.nil)) vC.2 f1
  show⟨a9 _,λl I=>?_⟩;have Z:a≠l:=λz=>by rw[<-z,ha] at I;cases I
  have ZG:bb≠l:=λz=>by rw[<-z,hb] at I;cases I
  show⟨ks,bs,key,bb,by rw[dy Z];show ha,rfl,by rw[dy ZG,<-Oy];show hb,by rw[yU];show hlen,λv L=>?_,λhn ep=>?_⟩
  .have ht:lA kvs key=kvs:=by
    unfold lA;rw[if_pos];rw[<-MK Iw,Ds,L];rfl
   have E3:=Y.ext (.own Y.e.s I (o:=.lst []));have E4:c9 X.K W T (ρ'.set i (.ov (.dt (lA kvs key)))) σ U (upd H1 l (.lst [])):=by
    rw[ht];show E3.jy qd M λB nd ow=>⟨B,nd,ow,λq d=>.inl d,λ_ _ _=>rfl⟩
   show fin _ v (λ_ H'=>E.nx σ H') E4 (λu BQ S=>?_) λH' h'=>h'
   rw[dy Z,ha] at S;cases S;show L
  have IS:(kvs.any λkv=>decide (kv.1=key))=false:=by rw[<-MK Iw,Ds,hn];rfl
  have Om:(ks.any λkv=>decide (kv.1=key))=false:=by rw[Ds,hn];rfl
  have ht:lA kvs key=kvs++[(key,[])]:=by
   unfold lA;rw[IS];rfl
  have E4:c9 X.K W T (ρ'.set i (.ov (.dt (lA kvs key)))) σ U (upd (upd H1 l (.lst [])) a (.dT (ks++[(key,.ref l)]) (bs.1++[bb],ep))):=by
   rw[ht];show Y.jy qd M λB nd ow=>?_
   obtain⟨xq,sV,c,ek,f,e3,e4⟩:=ow;have Jf:xq=ks/\sV=bs:=by
    have:=ha.symm.trans c;injection this with this
    injection this with rX rW
    show⟨rX.symm,rW.symm⟩
   obtain⟨rfl,rfl⟩:=Jf;have Bg:l∉a::B:=λz=>by
    rcases az.mp z with z | z
    .exact Z z.symm
    show e4.here l z I
   have Z8:a∉B:=(bj.mp nd).1;show⟨B++[l],?_,⟨_,_,gX,?_,by simp[f],by simp[e3],?_⟩,λq d=>?_,λb hb hn=>?_⟩
   .rw[bj] at nd ⊢;show⟨λz=>?_,?_⟩
    .rcases aJ.mp z with z | z
     .exact nd.1 z
     simp at z;show Z z
    rw[List.nodup_append];show⟨nd.2,by simp,λx hx y hy=>?_⟩;simp at hy;subst hy;show λz=>Bg (au _ (z▸hx))
   .exact cZ.snoc (by rw[<-Oy];show gbb) ek
   .rw[aH];show cC.snoc (zs:=[]) (e4.mono (cw.refl _) λq d xs e=>?_) ?_ bX.nil
    .rw[dy (λz:q=a=>Z8 (z▸d)),dy (λz:q=l=>Bg (au _ (z▸d)))];show e
    rw[dy Z.symm];show gX
   .rcases az.mp d with rfl | d
    .exact .inl (by simp)
    rcases aJ.mp d with d | d
    .exact .inl (au _ d)
    simp at d;subst d;show .inr I
   rw[dy (λz:b=a=>hb (by rw[z];simp)),dy (λz:b=l=>hn (by rw[z];show I))]
  show fin _ _ (λ_ H'=>E.nx σ H') E4 (λu BQ S=>?_) λH' h'=>h'
  rw[gX] at S;cases S;have:=Ds (ks:=ks) (k:=key);show Vm hn
 show h.elim
end
end L2
namespace PySem
open Sem (wp)
section
variable{prog:Program}{w:World}{A:Around}{E:Value->Shared->Prop}{s:Shared}{d it v:Addr}{es:Array DictEntry}{ep i:Nat}
theorem Vt(d:Addr)(hd:(d==sysModules)=false) :
  MeetsIn prog w (Builtin.«dict.values» ⟨[.ref d],[]⟩) (λ_ R s=>s.TypeIs (.ref d) "dict"/\R (.ok (.ret (.ref s.heap.objs.size))) { s with heap:=s.heap.push { cls:=.type "dict_values",data:=.fields #[.ref d] } }):=
 .of_wp λA R s ⟨a,h⟩=>by
  show aa (m:=Builtin.Dict.noArgs _ _) ?_;unfold Builtin.Dict.noArgs;show aa (wpAny_notOrdered_dict a (show wpAny _ _ (pure d) _ _ s from ah ?_));show wpAny _ _ (Builtin.Dict.showsAll d >>= _) _ _ s;unfold Builtin.Dict.showsAll;rw[if_neg (by rw[hd];show aC)];show aa (ah (aa (bR (ah ⟨_,rfl,h⟩))))
theorem UL{Q:Value->Shared->Prop}(a:s.heap.IsValuesView v d)(x:hJ s.heap d es ep)
  (q:Q (.ref s.heap.objs.size) { s with heap:=s.heap.push { cls:=.type "dict_valueiterator",data:=.fields #[.ref d,.int 0 0,.int es.size 0,.int ep 0] } }):wpAny (model prog w) A (pyIter (.ref v)) Q E s:=by
 obtain⟨ov,f,e,g⟩:=id a;obtain⟨h,c,_,b⟩:=id x;show wpAny_pyIter_slot a.typeIs F.slot_dict_values_iter (wpAny_call_entry F.slot_dict_values_iter a.typeIs F.entry_dict_values_iter ?_ (F.args_dict_values_iter_1 _));unfold Builtin.«dict_values.__iter__»;show aa (ah (aa (m:=Builtin.Dict_items.dictOf _) ?_));unfold Builtin.Dict_items.dictOf;show aa (bQ f g (x:=.ref d) rfl (ah (aa (m:=Builtin.Dict_items.newIterator _ _) ?_)));unfold Builtin.Dict_items.newIterator;show aa (wpAny_dictEntries c b (aa (wpAny_dictEpoch c b ?_)));simp only[show Builtin.Dict_items.ownsTuple "dict_valueiterator"=false by decide,aU,bG];show bR (ah ⟨_,rfl,"dict_valueiterator",_,⟨_,aF _ rfl,rfl⟩,F.slot_dict_valueiterator_next.lookup,?_⟩);simpa[rawInt] using q
theorem UK{Q:Option Value->Shared->Prop}(t:s.heap.IsValIter it d i es.size ep)(x:hJ s.heap d es ep)(f:i<es.size)
  (q:∀h',h'.IsValIter it d (i+1) es.size ep->Heap.SameBut it s.heap h'->Q (some es[i].val) { s with heap:=h' }):wpAny (model prog w) A (pyNext (.ref it)) Q E s:=by
 obtain⟨h,b,g,a⟩:=id t;obtain⟨j,e,_,c⟩:=id x;unfold pyNext;show aa (wpAny_attempt (wpAny_callSpecial?_slot (name:=Str.ofString "__next__") t.typeIs F.slot_dict_valueiterator_next
  (wpAny_call_entry F.slot_dict_valueiterator_next t.typeIs F.entry_dict_valueiterator_next ?_ (F.args_dict_valueiterator_next_1 _))))
 show aa (ah (aa (aa ?_)));show aa (wpAny_typeNameOfWhole_valiter t.typeIs (ah (aa (wpAny_fieldsOf b a ?_))));simp only[show Builtin.Dict_items.ownsTuple "dict_valueiterator"=false by decide,aU,bG];show wpAny _ _ (if (Value.ref d==Value.none)=true then _ else _) _ _ s;rw[if_neg (show ¬((Value.ref d==Value.none)=true) from aC)];show aa (ah (aa (wpAny_dictEntries e c ?_)));rw[if_neg (by simp)];show aa (ah (aa (wpAny_dictEpoch e c ?_)));rw[if_neg (by simp)];show ah ?_;simp only[show ¬((i:Int)<0) from by ext,bG,ba,bJ f];show aa (aa (wpAny_typeNameOfWhole_valiter t.typeIs (ah (aa (wpAny_isOneOf_valiter t.typeIs ?_)))));show wpAny _ _ (setField (.ref it) 1 (rawInt ((i:Int)+1)) >>= _) _ _ s;show aa (wpAny_setField b a (by simp) ?_);have t':(s.heap.update it (Obj.mapFields (·.setIfInBounds 1 (rawInt ((i:Int)+1))))).IsValIter it d (i+1) es.size ep:=
  ⟨_,bM _ b (Obj.isFreed_of_fields (Obj.data_mapFields a _)),(Obj.cls_mapFields ..).trans g,by rw[Obj.data_mapFields a];simp[rawInt]⟩
 show aa (bC ?_);show aa (wpAny_isOneOf_valiter (s:={ s with heap:=s.heap.update it (Obj.mapFields (·.setIfInBounds 1 (rawInt ((i:Int)+1)))) }) t'.typeIs ?_);show aa (wpAny_isOneOf_valiter (s:={ s with heap:=s.heap.update it (Obj.mapFields (·.setIfInBounds 1 (rawInt ((i:Int)+1)))) }) t'.typeIs ?_);show wpAny _ _ (pure es[i].val) _ _ _;show ah (ah ⟨_,rfl,ah (q _ t' (Heap.SameBut.update ..))⟩)
theorem Ux{Q:Option Value->Shared->Prop}(hh:A.handled=none)(t:s.heap.IsValIter it d i es.size ep)(x:hJ s.heap d es ep)(h:es.size<=i)
  (q:∀h',Heap.ExtBut it s.heap h'->Q none { s with heap:=h' }):wpAny (model prog w) A (pyNext (.ref it)) Q E s:=by
 obtain⟨j,c,l,e⟩:=id t;obtain⟨k,g,_,f⟩:=id x;unfold pyNext;show aa (wpAny_attempt (wpAny_callSpecial?_slot (name:=Str.ofString "__next__") t.typeIs F.slot_dict_valueiterator_next
  (wpAny_call_entry F.slot_dict_valueiterator_next t.typeIs F.entry_dict_valueiterator_next ?_ (F.args_dict_valueiterator_next_1 _))))
 show aa (ah (aa (aa ?_)));show aa (wpAny_typeNameOfWhole_valiter t.typeIs (ah (aa (wpAny_fieldsOf c e ?_))));simp only[show Builtin.Dict_items.ownsTuple "dict_valueiterator"=false by decide,aU,bG];show wpAny _ _ (if (Value.ref d==Value.none)=true then _ else _) _ _ s;rw[if_neg (show ¬((Value.ref d==Value.none)=true) from aC)];show aa (ah (aa (wpAny_dictEntries g f ?_)));rw[if_neg (by simp)];show aa (ah (aa (wpAny_dictEpoch g f ?_)));rw[if_neg (by simp)];show ah ?_;simp only[show ¬((i:Int)<0) from by ext,bG,ba,Array.getElem?_eq_none h];show aa (aa (wpAny_typeNameOfWhole_valiter t.typeIs (ah ?_)));show wpAny _ _ (setField (.ref it) 0 .none >>= _) _ _ s;show aa (wpAny_setField c e (by simp) ?_);show wpAny _ _ (newExc (.type "StopIteration") [] >>= _) _ _ _;show aa ?_;simp only[newExc,newTuple];show aa (bR (aa (m:=firstArgMember _ _) (wpAny_of_eq (a:=Value.none) (by first | rfl | (simp only[firstArgMember];rfl)) (bR ?_ (by size_fits)))) (by size_fits));simp only[raiseNew];show aa (wpAny_handled ?_);rw[show A.in1.handled=none from hh];show aa (ah (wpAny_throw ?_));show aa (wpAny_isInstance (T:="StopIteration") (b:=true) ⟨_,aF _ rfl,rfl⟩ isSubtype_stop ?_);show ah (q _ (((Heap.SameBut.update ..).extBut.push _).push _))
end
end PySem
namespace L2
open PySem PySem.Spec PyProof.Rows
theorem yu{P:Program}{w:World}{H:Hp}{h:Heap}{a:Addr}{kvs:List (List Key×V)}{bs:List Addr×Nat}(ok:i6 P w H h)(e:H a=some (.dT kvs bs)):(a==sysModules)=false/\
  ∃xs b,xs.map (λx=>x.2.1)=bs.1/\KT H kvs xs/\hJ h a b bs.2/\b.toList=xs.map (entryOfKey (tupleKind (nc P w))):=by
 obtain⟨z,y,xs,j,r,o,b,l,i,g,c,f,k,d⟩:=(show df P w H h a (.dT kvs bs) from J4 ok (.inl e))
 rw[d] at c;show⟨y,xs,b,j,r,⟨o,i,g,c⟩,f⟩
noncomputable def Er(a:Addr)(ks:List (List Key×V))(bs:List Addr×Nat):It:=⟨λi H=>i<bs.1.length/\H a=some (.dT ks bs),λi H v H'=>H'=H/\∃b,bs.1[i]?=some b/\v=.ref b,λi H=>i=bs.1.length/\H a=some (.dT ks bs)⟩
theorem Vs{P:Program}{w:World}{K:J'}{D:Expr}{a it:Addr}{ks:List (List Key×V)}{bs:List Addr×Nat}:Turn P w K D (Er a ks bs) [it] it (λi h=>h.IsKeyIter it a i bs.1.length bs.2) where
 mem:=by simp
 obj:=λi h st b hb=>by
  have e:b=it:=by simpa using hb
  subst e;obtain⟨o,e,c,d⟩:=st;show⟨o,e,λv z=>by rw[d] at z;cases z⟩
 keep:=λi h h' st k=>by
  obtain⟨o,e,r⟩:=st;show⟨o,k it (by simp) o e,r⟩
 item:=by
  intro X n hw p u i C s σ H E I hf st hg;subst n hw p;obtain⟨j,ha⟩:=(show i<bs.1.length/\H a=some (.dT ks bs) from hg)
  obtain⟨hd,xs,f,m,rel,raw,g⟩:=yu I.cN ha;have hlen:bs.1.length=f.size:=by rw[<-m,<-aO,g,ae,ae]
  rw[hlen] at st;have t:i<f.size:=by ext
  show T8 st raw t λh' y F=>?_
  have kk:∀b o,b∉[it]->s.heap.get? b=some o->h'.get? b=some o:=λb o hb e=>F.extBut b o (λz=>hb (by simp[z])) e
  have I1:Inv X C σ H { s with heap:=h',toks:=s.toks }:=I.ez (fp:=[it]) kk hf;obtain⟨o,e,N,d⟩:=id y;have G:f[i].key=Value.ref (bs.1[i]):=by
   have B:f.toList[i]?=some f[i]:=by rw[Array.getElem?_toList,bJ t]
   rw[g,ar] at B;obtain⟨x,J,M⟩:=aZ.mp B;rw[<-M];have e3:=congrArg (λl=>l[i]?) m;simp only[ar,J,bO,af j,aN] at e3;rw[<-e3];rfl
  rw[G];show⟨_,rfl,wD (s:={ s with heap:=h',toks:=s.toks }) e N d (by decide) ⟨.ref bs.1[i],H,I1,rfl,⟨rfl,_,af j,rfl⟩,?_,λb hb=>(hf b hb).1⟩⟩;rw[hlen];show y
 done:=by
  intro X n hw p u i C s σ H E I hf st hg;subst n hw p;obtain⟨j,ha⟩:=(show i=bs.1.length/\H a=some (.dT ks bs) from hg)
  obtain⟨hd,xs,f,m,rel,raw,g⟩:=yu I.cN ha;have hlen:bs.1.length=f.size:=by rw[<-m,<-aO,g,ae,ae]
  subst j;rw[hlen] at st;show Sk (I.ok.hd u) st raw (aD _) λh' L=>⟨rfl,I.ez (fp:=[it]) (t':=s.toks) (λb o hb q=>L b o (λz=>hb (by simp[z])) q) hf⟩
 self:=λA i s Q E st q=>wpAny_pyIter_keyiter st q
noncomputable def Ep(a:Addr)(ks:List (List Key×V))(bs:List Addr×Nat):It:=⟨λi H=>i<ks.length/\H a=some (.dT ks bs),λi H v H'=>H'=H/\∃p,ks[i]?=some p/\v=p.2,λi H=>i=ks.length/\H a=some (.dT ks bs)⟩
theorem Vr:entryFor table "dict_valueiterator.__iter__"=some Builtin.«dict_keyiterator.__iter__»:=entryFor_alias (id':="dict_keyiterator.__iter__") (by kernel_rfl) rfl (by decide +kernel) (by kernel_rfl)
theorem Vq{P:Program}{w:World}{K:J'}{C:Expr}{a it:Addr}{ks:List (List Key×V)}{bs:List Addr×Nat}:Turn P w K C (Ep a ks bs) [it] it (λi h=>h.IsValIter it a i ks.length bs.2) where
 mem:=by simp
 obj:=λi h st b hb=>by
  have e:b=it:=by simpa using hb
  subst e;obtain⟨o,e,c,d⟩:=st;show⟨o,e,λv z=>by rw[d] at z;cases z⟩
 keep:=λi h h' st k=>by
  obtain⟨o,e,r⟩:=st;show⟨o,k it (by simp) o e,r⟩
 item:=by
  intro X m hw n x i B s σ H E I hf st hg;subst m hw n;obtain⟨g,ha⟩:=(show i<ks.length/\H a=some (.dT ks bs) from hg)
  obtain⟨hd,xs,f,M,rel,raw,j⟩:=yu I.cN ha;have hlen:ks.length=f.size:=by rw[Paired.length rel,<-aO,j,ae]
  rw[hlen] at st;have t:i<f.size:=by ext
  show UK st raw t λh' y D=>?_
  have kk:∀b o,b∉[it]->s.heap.get? b=some o->h'.get? b=some o:=λb o hb e=>D.extBut b o (λz=>hb (by simp[z])) e
  have I1:Inv X B σ H { s with heap:=h',toks:=s.toks }:=I.ez (fp:=[it]) kk hf;obtain⟨o,e,L,d⟩:=id y;have u:i<xs.length:=by rw[<-Paired.length rel];show g
  have G:f[i].val=xs[i].2.2:=by
   have p:f.toList[i]?=some f[i]:=by rw[Array.getElem?_toList,bJ t]
   rw[j,ar,af u] at p;simp only[bO,aN] at p;rw[<-p];rfl
  have pr:=LI rel (af g) (af u);rw[G];show⟨_,rfl,wD (s:={ s with heap:=h',toks:=s.toks }) e L d (by decide) ⟨ks[i].2,H,I1,pr.2.2,⟨rfl,_,af g,rfl⟩,?_,λb hb=>(hf b hb).1⟩⟩;rw[hlen];show y
 done:=by
  intro X m hw n x i B s σ H E I hf st hg;subst m hw n;obtain⟨g,ha⟩:=(show i=ks.length/\H a=some (.dT ks bs) from hg)
  obtain⟨hd,xs,f,M,rel,raw,j⟩:=yu I.cN ha;have hlen:ks.length=f.size:=by rw[Paired.length rel,<-aO,j,ae]
  subst g;rw[hlen] at st;show Ux (I.ok.hd x) st raw (aD _) λh' J=>⟨rfl,I.ez (fp:=[it]) (t':=s.toks) (λb o hb q=>J b o (λz=>hb (by simp[z])) q) hf⟩
 self:=λA i s Q E st q=>by
  have l:s.TypeIs (.ref it) "dict_valueiterator":=st.typeIs;show wpAny_pyIter_slot l PySem.F.slot_dict_valueiterator_iter (wpAny_call_entry PySem.F.slot_dict_valueiterator_iter l Vr ?_ (PySem.F.args_dict_valueiterator_iter_1 _));show wpAny _ _ (ret (.ref it)) _ _ s;show ah ⟨_,rfl,"dict_valueiterator",_,l,PySem.F.slot_dict_valueiterator_next.lookup,q⟩
section
variable{X:Cx}{tg:Expr}
def QR(tl:TE):TI:=λσ H R=>tl σ H λx H1=>∃a ks bs,x=.ref a/\H1 a=some (.dT ks bs)/\R (Er a ks bs) H1
theorem Uw{l:Expr}{tl:TE}(g:PE X l tl):PI X tg l (QR tl):=by
 intro m s σ H R I h;show cW (g m s σ H _ I h) λv s1 j=>?_
 obtain⟨x,H1,I1,c,f⟩:=j;obtain⟨a,ks,bs,e,ha,q⟩:=f;subst e;cases c;obtain⟨hd,xs,i,k,rel,raw,d⟩:=yu I1.cN ha;have hlen:bs.1.length=i.size:=by rw[<-k,<-aO,d,ae,ae]
 show T9 hd raw ?_;show⟨s1.heap.objs.size,[s1.heap.objs.size],_,_,H1,rfl,I1.kept (t':=s1.toks) λb o e=>aq _ e,Vs,⟨_,aF _ rfl,rfl,by rw[hlen];rfl⟩,λb hb=>?_,q⟩;have e:b=s1.heap.objs.size:=by simpa using hb
 subst e;show I1.k7 (aD _) (I1.cN.fresh (aD _))
def QP(tl:TE):TI:=λσ H R=>tl σ H λx H1=>∃a ks bs,x=.ref a/\H1 a=some (.dT ks bs)/\R (Ep a ks bs) H1
theorem Uv{o:Expr}{to:TE}{c g:Pos}(m:PE X o to)(l:attributeBase o "values" X.env (eval o X.env)=eval o X.env:=by rfl)(k:(c.endLine==g.line)=true:=by rfl) :
  PI X tg (.Call (.Attribute o "values" c) [] [] g) (QP to):=by
 intro u s σ H R I h;show wpAny_Call_method0_late l k (cW (m u s σ H _ I h) λv s1 r=>?_);obtain⟨x,H1,I1,i,a,ks,bs,ex,f,q⟩:=r;subst ex;obtain⟨d,n,_⟩:=Fu I1 ⟨ks,bs,.inl f⟩;obtain rfl:v=Value.ref a:=i;show⟨"dict","dict.values",PySem.F.plainAttrs_dict,PySem.F.slot_dict_values,PySem.F.type_dict_values,d,n,Calls.callWith_builtin rfl (PySem.evalArgs_none ?_)⟩;obtain⟨hd,xs,p,w,rel,raw,j⟩:=yu I1.cN f;have hlen:ks.length=p.size:=by rw[Paired.length rel,<-aO,j,ae]
 show call_meetsIn PySem.F.slot_dict_values d PySem.F.entry_dict_values (PySem.F.args_dict_values_1 _) (Vt a hd) ⟨d,?_⟩;have t:(s1.heap.push { cls:=.type "dict_values",data:=.fields #[.ref a] }).IsValuesView s1.heap.objs.size a:=⟨_,aF _ rfl,rfl,rfl⟩
 show UL t (raw.kept λo e=>aq _ e) ?_;show⟨_,[_],_,_,H1,rfl,(I1.kept (t':=s1.toks) λb o e=>aq _ e).kept (t':=s1.toks) λb o e=>aq _ e,Vq,⟨_,aF _ rfl,rfl,by rw[hlen];rfl⟩,λb hb=>?_,q⟩;have e:b=(s1.heap.push { cls:=.type "dict_values",data:=.fields #[.ref a] }).objs.size:=by simpa using hb
 subst e;rw[Heap.size_push];show I1.k7 (Nat.le_succ _) (I1.cN.fresh (Nat.le_succ _))
noncomputable def Cb(k:List Key):D:=.tup (k.map pB)
theorem cZ.length{G:Hp}:∀{ps:List (List Key×V)}{bs:List Addr},cZ G ps bs->ps.length=bs.length
 | [],[],_=>rfl
 | p::ps,b::bs,h=>by rw[av,av,cZ.length h.2]
 | [],_::_,h=>h.elim
 | _::_,[],h=>h.elim
theorem M0{K:J'}{G:Hp}:∀(k:List Key),bX K G (k.map kV) (k.map pB)
 | []=>bX.nil
 | a::k=>bX.cons (Sn a) (M0 k)
theorem Vp{K:J'}{G:Hp}{a:Addr}{ks:List (List Key×V)}{bs:List Addr×Nat}{kvs:List (List Key×D)}(h:G a=some (.dT ks bs))(g:cZ G ks bs.1)(r:cy K G ks kvs):pD K (Er a ks bs) G (kvs.map λp=>Cb p.1):=by
 have n:=r.length;have hb:=g.length;show⟨λi d c H' hd s1 s2=>?_,λc H' s1 s2=>⟨by rw[ae];ext,s2 _ _ (s1 _ _ h)⟩⟩;rw[ar] at hd;obtain⟨p,f,rfl⟩:=aZ.mp hd;have o:i<kvs.length:=(aj.mp f).1;show⟨⟨by ext,s2 _ _ (s1 _ _ h)⟩,λv l j=>?_⟩;obtain⟨rfl,b,m,rfl⟩:=j;show⟨c,.refl s2,?_⟩;have e:l b=some (.tup (p.1.map kV))/\c b=some (.tup (p.1.map kV)):=by
  have:=g.at m (k:=p.1) (by rw[r.keys,ar,f];rfl);show⟨s2 _ _ (s1 _ _ this),s1 _ _ this⟩
 simp only[Cb,Rep];show⟨b,_,rfl,e.2,M0 p.1⟩
theorem cy.at{K:J'}{G:Hp}:∀{ks:List (List Key×V)}{kvs:List (List Key×D)},cy K G ks kvs->∀(i:Nat){p:List Key×V}{q:List Key×D},ks[i]?=some p->kvs[i]?=some q->Rep K G p.2 q.2
 | [],[],_,i,_,_,h,_=>by simp at h
 | a::ks,b::kvs,r,i,p,q,h,h'=>by
  simp only[cy] at r;cases i with
  | zero=>
   simp only[bp,aN] at h h';subst h h';show r.1.2
  | succ i=>show cy.at r.2 i (by simpa using h) (by simpa using h')
 | [],_::_,r,_,_,_,_,_=>by simp only[cy] at r
 | _::_,[],r,_,_,_,_,_=>by simp only[cy] at r
theorem Vo{K:J'}{G:Hp}{a:Addr}{ks:List (List Key×V)}{bs:List Addr×Nat}{kvs:List (List Key×D)}(h:G a=some (.dT ks bs))(r:cy K G ks kvs):pD K (Ep a ks bs) G (kvs.map (·.2)):=by
 have g:=r.length;show⟨λi d c H' hd s1 s2=>?_,λc H' s1 s2=>⟨by rw[ae];show g.symm,s2 _ _ (s1 _ _ h)⟩⟩;rw[ar] at hd;obtain⟨p,b,rfl⟩:=aZ.mp hd;have j:i<kvs.length:=(aj.mp b).1;show⟨⟨by ext,s2 _ _ (s1 _ _ h)⟩,λv k e=>?_⟩;obtain⟨rfl,q,f,rfl⟩:=e;show⟨c,.refl s2,(r.at i f b).mono s1⟩
def ES(te:TD):kd:=λa Q=>te a λr=>match r.val with
 | .dit kvs=>Q (kvs.map λp=>Cb p.1)
 | _=>False
theorem Uu{l:Expr}{te:TD}(h:PD X l te):PId X tg l (ES te):=by
 obtain⟨t,p,q⟩:=h;show⟨_,Uw p,λg σ u n G H Q P E h k=>q g σ u n G H _ _ E h λv H' r w x i c=>?_⟩;obtain⟨o,d,b,_⟩:=i.freeze x;split at c
 .rename_i kvs e;rw[e] at b;simp only[Rep] at b;obtain⟨a,ks,bs,rfl,f,m,j⟩:=b;show⟨a,ks,bs,rfl,d.s _ _ f,k _ H' _ o d (Vp f m j) c⟩
 show c.elim
def E7(te:TD):kd:=λa Q=>te a λr=>match r.val with
 | .dit kvs=>Q (kvs.map (·.2))
 | _=>False
theorem UJ{o:Expr}{te:TD}{b i:Pos}(h:PD X o te)(n:attributeBase o "values" X.env (eval o X.env)=eval o X.env:=by rfl)(m:(b.endLine==i.line)=true:=by rfl):PId X tg (.Call (.Attribute o "values" b) [] [] i) (E7 te):=by
 obtain⟨t,p,q⟩:=h;show⟨_,Uv p n m,λj σ z w G H Q P E h k=>q j σ z w G H _ _ E h λv H' r B x l d=>?_⟩;obtain⟨y,f,c,_⟩:=l.freeze x;split at d
 .rename_i kvs e;rw[e] at c;simp only[Rep] at c;obtain⟨a,ks,bs,rfl,g,A,u⟩:=c;show⟨a,ks,bs,rfl,f.s _ _ g,k _ H' _ y f (Vo g u) d⟩
 show d.elim
end
end L2
namespace Ts
open PySem PySem.W PyProof.Rows
section
variable{α:Type}{lt:α->α->Bool}{l:List α}{a b:α}
noncomputable def ml(lt:α->α->Bool)(l:List α)(a:α):Int:=((l.countP λb=>lt b a:Nat):Int)
theorem KL{p q:α->Bool}(h:∀x∈l,p x=true->q x=true):l.countP p<=l.countP q:=by
 induction l with
 | nil=>show aD _
 | cons a r c=>
  have:=c λx d=>h x (au _ d)
  rw[List.countP_cons,List.countP_cons];by_cases b:p a=true
  .rw[if_pos b,if_pos (h a aA b)];ext
  rw[if_neg b];ext
theorem QO{p q:α->Bool}(h:∀x∈l,p x=true->q x=true)(ha:a∈l)(g:p a=false)(f:q a=true):l.countP p<l.countP q:=by
 induction l with
 | nil=>cases ha
 | cons c r e=>
  have i:=KL (l:=r) λx b=>h x (au _ b)
  rw[List.countP_cons,List.countP_cons];rcases az.mp ha with z | ha
  .subst z;rw[g,f];simp only[aU,bG,bP];ext
  have:=e (λx b=>h x (au _ b)) ha;by_cases d:p c=true
  .rw[if_pos d,if_pos (h c aA d)];ext
  rw[if_neg d];ext
structure Ord(lt:α->α->Bool):Prop where
 tr:∀a b c,lt a b=true->lt b c=true->lt a c=true
 ir:∀a,lt a a=false
 yR:∀a b,a≠b->lt a b=true\/lt b a=true
theorem EZ(O:Ord lt)(ha:a∈l):lt a b=decide (ml lt l a<ml lt l b):=by
 unfold ml;cases h:lt a b with
 | true=>
  symm
  rw[decide_eq_true_iff];have:=QO (l:=l) (p:=λc=>lt c a) (q:=λc=>lt c b) (λx _ d=>O.tr _ _ _ d h) ha (O.ir a) h;ext
 | false=>
  symm
  rw[decide_eq_false_iff_not];have:l.countP (λc=>lt c b)<=l.countP (λc=>lt c a):=by
   show KL λx _ d=>?_
   by_cases e:a=b
   .rw[e];show d
   rcases O.yR a b e with z | z
   .rw[z] at h;cases h
   show O.tr _ _ _ d z
  ext
theorem AH(O:Ord lt)(ha:a∈l)(hb:b∈l)(h:ml lt l a<=ml lt l b):lt b a=false:=by
 rw[EZ O hb,decide_eq_false_iff_not];ext
end
theorem SJ{a b:Str}(h:a.cps.toList=b.cps.toList):a=b:=by
 cases a;cases b;simp only[Str.mk.injEq];show Array.toList_inj.mp h
section
variable{prog:Program}{w:World}{A:Around}{E:Value->Shared->Prop}{s:Shared}
theorem Dq{its:List Value}{z:Keyed}(hz:z∈pairsOf its):z.1∈its:=by
 unfold pairsOf at hz;have a:z∈its.zip its:=by simpa using hz
 show(List.of_mem_zip a).1
end
end Ts
namespace L2
open PySem PySem.Spec PyProof.Rows
noncomputable def Eo(x:Str):It:=⟨λi _=>i<x.cps.size,λi H v H'=>∃t c,v=.ref t/\H t=none/\x.cps[i]?=some c/\H'=upd H t (.tup [.int i,.str ⟨#[c]⟩]),λi _=>i=x.cps.size⟩
theorem Vn{P:Program}{w:World}{K:J'}{g:List Expr}{J}{pos:Pos}{x:Str}{n:String}{t:Tok}(e it:Addr)(y:e≠it)
  (D:∀F:Around,F.handled=none->Draws P w F it [it] x.cps.size (λi v=>∃c u,x.cps[i]?=some c/\v=.str ⟨#[c]⟩ u) (λi h=>h.IsStrIter it n x t i)) :
  Turn P w K (.Tuple g J pos) (Eo x) [e,it] e (λi h=>(∃old,IsEnum h e it i old)/\h.IsStrIter it n x t i) where
 mem:=by simp
 obj:=λi h st b hb=>by
  obtain⟨⟨old,a⟩,o,f,c,d⟩:=st;rcases az.mp hb with rfl | hb
  .exact⟨_,a,λv z=>by have G:Data.fields _=Data.cell v:=z;cases G⟩
  have e:b=it:=by simpa using hb
  subst e;show⟨o,f,λv z=>by rw[d] at z;cases z⟩
 keep:=λi h h' st k=>by
  obtain⟨⟨old,a⟩,o,f,r⟩:=st;show⟨⟨old,k e (by simp) _ a⟩,o,k it (by simp) o f,r⟩
 item:=by
  intro X m hw p l i U s σ H E I hf st hg;subst m hw p;obtain⟨⟨old,a⟩,f⟩:=st;have C:s.heap.objs.size≠e:=Nat.ne_of_gt (aI a);have V:s.heap.objs.size≠it:=by obtain⟨o,q,_⟩:=f;show Nat.ne_of_gt (aI q)
  show wpAny_pyNext_enum_itemD (D _ (I.ok.hd l)) a f hg y (by simpa using y) λu h' tk M T S e3 W kk=>?_
  obtain⟨c,t',L,rfl⟩:=M;show⟨_,rfl,M1 T λB R j=>?_⟩;have N:=j.extBut _ _ C e3;have O:H s.heap.objs.size=none:=I.cN.fresh (aD _);have new:df X.prog X.w (upd H s.heap.objs.size (.tup [.int i,.str ⟨#[c]⟩])) B s.heap.objs.size (.tup [.int i,.str ⟨#[c]⟩]):=⟨Fl,[.int i tk,.str ⟨#[c]⟩ t'],.cons ⟨_,rfl⟩ (.cons ⟨_,rfl⟩ .nil),⟨_,N,rfl,_,rfl⟩⟩
  have A:B.IsStrIter it n x t (i+1):=by
   obtain⟨o,q,r⟩:=S;show⟨o,j.extBut _ _ (Ne.symm y) q,r⟩
  show⟨.ref s.heap.objs.size,upd H s.heap.objs.size (.tup [.int i,.str ⟨#[c]⟩]),I.jM (fp:=[e,it]) (λb o hb q=>j.extBut b o (λz=>hb (by simp[z])) (kk b o (λz=>hb (by simp[z])) (λz=>hb (by simp[z])) q)) hf (aD _) new,rfl,
   ⟨_,c,rfl,O,L,rfl⟩,⟨⟨_,R⟩,A⟩,Fj (λb hb=>(hf b hb).1) λb hb=>?_⟩
  rcases az.mp hb with rfl | hb
  .exact C.symm
  have z:b=it:=by simpa using hb
  rw[z];show V.symm
 done:=by
  intro X m hw p l i U s σ H E I hf st hg;subst m hw p;obtain⟨⟨old,a⟩,f⟩:=st;have e:i=x.cps.size:=hg;subst e;show wpAny_pyNext_enum_endD (D _ (I.ok.hd l)) a f λh' Q=>⟨rfl,I.ez (fp:=[e,it]) (t':=s.toks) (λb o hb q=>Q b o (λz=>hb (by simp[z])) q) hf⟩
 self:=λ_ _ _ _ _ st h=>by
  obtain⟨⟨old,a⟩,_⟩:=st;show wpAny_pyIter_enum a h
section
variable{X:Cx}{elts:List Expr}{x1:Nat}{oN:Pos}
def QN(b:TA):TI:=λσ H R=>b σ H λa H1=>∃z,a=[.str z]/\R (Eo z) H1
theorem Ut{a:Expr}{g:TA}{p pos:Pos}(hg:Gl X "enumerate")(hm:X.mg "enumerate"=none)(ha:PA X [a] g)(x:starEach [a] X.env=[(false,eval a X.env)]:=by rfl):PI X (.Tuple elts x1 oN) (.Call (.Name "enumerate" p) [a] [] pos) (QN g):=by
 intro m s σ H R I h;show Call_ (rR I hg hm boot_enumerate (bz (cW (ha pos m s σ H _ I h) λus s1 A=>?_) x rfl));obtain⟨B,H1,I1,o,r⟩:=A;obtain⟨z,e,q⟩:=r;subst e;obtain⟨u,rfl,t,rfl⟩:=mV o;show call_enumerate_str λh' l k e3 kk=>wpAny_pyIter_enum l ?_
 have y:s1.heap.objs.size+1≠s1.heap.objs.size:=by ext
 have fin:∀n,(D:∀d:Around,d.handled=none->Draws X.prog X.w d s1.heap.objs.size [s1.heap.objs.size] z.cps.size (λi v=>∃c u,z.cps[i]?=some c/\v=.str ⟨#[c]⟩ u) (λi h=>h.IsStrIter s1.heap.objs.size n z t i))->
   h'.IsStrIter s1.heap.objs.size n z t 0->BX X m σ (.Tuple elts x1 oN) R (.ref (s1.heap.objs.size+1)) { s1 with heap:=h' }:=λn D st=>by
  show⟨s1.heap.objs.size+1,[s1.heap.objs.size+1,s1.heap.objs.size],_,_,H1,rfl,I1.kept (t':=s1.toks) kk,Vn _ _ y D,⟨⟨_,l⟩,st⟩,λb hb=>?_,q⟩;have j:s1.heap.objs.size<=b:=by
   rcases az.mp hb with rfl | hb
   .exact Nat.le_succ _
   have e:b=s1.heap.objs.size:=by simpa using hb
   show Nat.le_of_eq e.symm
  show I1.k7 j (I1.cN.fresh j)
 cases ha:z.cps.all (·<128)
 .exact fin "str_iterator" (λd f=>Draws.strWide f _ z t) (by simpa[strIterType,ha] using k)
 show fin "str_ascii_iterator" (λd f=>Draws.strAscii f _ z t) (by simpa[strIterType,ha] using k)
theorem VX{K:J'}{G:Hp}(z:Str):pD K (Eo z) G (oj (z.cps.toList.map λc=>.str ⟨#[c]⟩)):=by
 show⟨λi d a H' hd s1 s2=>?_,λa H' s1 s2=>by show _=_;simp[oj]⟩;unfold oj at hd;rw[List.getElem?_mapIdx,ar] at hd;cases e:z.cps.toList[i]? with
 | none=>rw[e] at hd;cases hd
 | some c=>
  rw[e] at hd;cases hd;have f:z.cps[i]?=some c:=by simpa using e
  show⟨(Array.getElem?_eq_some_iff.mp f).1,λv k h=>?_⟩;obtain⟨t,j,rfl,ht,b,rfl⟩:=h;rw[f] at b;cases b;have g:Ext a H' (upd a t (.tup [.int i,.str ⟨#[c]⟩])) (upd H' t (.tup [.int i,.str ⟨#[c]⟩])):=.new s2 ht;show⟨_,g,F5 gX (kU _ _ _) (by simp only[Rep])⟩
def vf(b:ix):kd:=λa Q=>b a λds=>match ds with
 | [.str z]=>Q (oj (z.cps.toList.map λc=>.str ⟨#[c]⟩))
 | _=>False
theorem Ga{a:Expr}{c:ix}{p pos:Pos}(hm:X.mg "enumerate"=none)(ha:md X [a] c)(hg:Gl X "enumerate":=by rfl)(f:starEach [a] X.env=[(false,eval a X.env)]:=by rfl):PId X (.Tuple elts x1 oN) (.Call (.Name "enumerate" p) [a] [] pos) (vf c):=by
 obtain⟨t,pp,q⟩:=ha;show⟨_,Ut hg hm pp f,λe σ i g G H Q P E h k=>q e σ i g G H _ _ E h λl H' ds j x rs b=>?_⟩;split at b
 .obtain⟨v,rfl,d⟩:=mh rs;simp only[Rep] at d;subst d;show⟨_,rfl,k _ H' _ j x (VX _) b⟩
 show b.elim
end
noncomputable def En(a:Int)(n:Nat):It:=⟨λi _=>i<n,λi H x H'=>H'=H/\x=.int (a+i*2),λi _=>n<=i⟩
theorem Wm{P:Program}{w:World}{K:J'}{m:Expr}(it:Addr)(a:Int)(n:Nat):Turn P w K m (En a n) [it] it (λi h=>IsRangeIter h it (a+(i:Nat)*2) ((n:Int)-(i:Nat)) 2) where
 mem:=by simp
 obj:=λi h st b hb=>by
  have e:b=it:=by simpa using hb
  subst e
  show⟨_,st,λv z=>by
   have l:Data.fields _=Data.cell v:=z;cases l⟩
 keep:=λi h h' st k=>k it (by simp) _ st
 item:=by
  intro X d hw f c i j s σ H E I hf st hg;subst d hw f;have W:=Walks.range (prog:=X.prog) (w:=X.w) (I.ok.hd c) it a 2 n;show W.item i s _ _ hg st λv h' tk p g kk=>?_
  obtain⟨t,rfl⟩:=p;have I1:Inv X j σ H { s with heap:=h',toks:=tk }:=I.ez kk hf;show⟨_,rfl,wD (s:={ s with heap:=h',toks:=tk }) (n:="range_iterator") g rfl rfl (by decide) ⟨.int (a+i*2),H,I1,⟨t,rfl⟩,⟨rfl,rfl⟩,g,λb hb=>(hf b hb).1⟩⟩
 done:=by
  intro X d hw f c i j s σ H E I hf st hg;subst d hw f;show wpAny_pyNext_range_end (I.ok.hd c) st (by have:n<=i:=hg;ext) λh' q=>⟨rfl,I.ez (fp:=[it]) (t':=s.toks) (λb o hb e=>q b o (λz=>hb (by simp[z])) e) hf⟩
 self:=λ_ _ _ _ _ st h=>wpAny_pyIter_rangeiter st h
theorem LF{a b:Int}:Builtin.Range.rangeSize a b 2=(((b-a+1)/2).toNat:Int):=by
 unfold Builtin.Range.rangeSize;simp only[show(2:Int)>0 by decide,bP];split<;>ext
theorem UI{a b:Int}(h:0<=a/\a<1000000/\0<=b/\b<1000000):Builtin.Range.small a b 2=true:=by
 unfold Builtin.Range.small;rw[LF];simp only[Builtin.Range.rangeFitsLong,aT,Bool.or_eq_true,br,beq_iff_eq,show(2:Int)>0 by decide,bP];ext
section
variable{X:Cx}{tg:Expr}{pos:Pos}
def Pg(b:TA):TI:=λσ H R=>b σ H λa H1=>∃i j:Int,a=[.int i,.int j,.int 2]/\(0<=i/\i<1000000/\0<=j/\j<1000000)/\R (En i ((j-i+1)/2).toNat) H1
theorem UH{a b c:Expr}{i:TA}{p:Pos}(hg:Gl X "range")(hm:X.mg "range"=none)(ha:PA X [a,b,c] i)(u:starEach [a,b,c] X.env=(false,eval a X.env)::starEach [b,c] X.env:=by rfl)(m:(backTo pos (starEach [b,c] X.env)).any (·.1)=false:=by rfl) :
  PI X tg (.Call (.Name "range" p) [a,b,c] [] pos) (Pg i):=by
 intro j s σ H R I h;show Call_ (rR I hg hm boot_range (bz (cW (ha pos j s σ H _ I h) λus s1 x=>?_) u m));obtain⟨z,H1,I1,k,n⟩:=x;obtain⟨lo,d,e,hb,q⟩:=n;subst e;cases k with
 | cons r f=>
  cases f with
  | cons l f=>
   cases f with
   | cons y f=>
    cases f;obtain⟨t,rfl⟩:=r;obtain⟨t',rfl⟩:=l;obtain⟨g,rfl⟩:=y;show call_range_3 (by decide) ?_ (Or.inl (PyProof.noPylong_small (by decide)));show wpAny_pyIter_range (IsRange.new ..) (UI hb) ?_;have I2:Inv X j σ H1 { s1 with heap:=s1.heap.push { cls:=.type "range",data:=.fields #[.int lo t,.int d t',.int 2 g] },toks:=s1.toks }:=I1.kept λb o e=>aq _ e
    show⟨(s1.heap.push { cls:=.type "range",data:=.fields #[.int lo t,.int d t',.int 2 g] }).objs.size,[(s1.heap.push { cls:=.type "range",data:=.fields #[.int lo t,.int d t',.int 2 g] }).objs.size],_,_,H1,rfl,
     I2.kept (t':=s1.toks) λb o e=>aq _ e,Wm _ lo _,?_,λb hb=>?_,q⟩
    .have w:lo+((0:Nat):Int)*2=lo:=by simp
     have v:((((d-lo+1)/2).toNat:Nat):Int)-((0:Nat):Int)=Builtin.Range.rangeSize lo d 2:=by rw[LF];simp
     show IsRangeIter _ _ (lo+((0:Nat):Int)*2) (((((d-lo+1)/2).toNat:Nat):Int)-((0:Nat):Int)) 2;rw[w,v];show aF _ rfl
    have e:b=(s1.heap.push { cls:=.type "range",data:=.fields #[.int lo t,.int d t',.int 2 g] }).objs.size:=by simpa using hb
    subst e;show I2.k7 (aD _) (I2.cN.fresh (aD _))
theorem Wl{K:J'}{G:Hp}(a:Int)(n:Nat):pD K (En a n) G ((List.range n).map λ(i:Nat)=>.int (a+i*2)):=by
 show⟨λi d b H' hd s1 s2=>?_,λb H' s1 s2=>?_⟩
 .rw[ar] at hd;obtain⟨c,e,rfl⟩:=aZ.mp hd;obtain⟨k,j⟩:=aj.mp e;have h:i<n:=by simpa using k
  have g:c=i:=by rw[<-j];simp
  subst g;show⟨h,λv m f=>?_⟩;obtain⟨l,rfl⟩:=f;subst l;show⟨b,.refl s2,kU _ _ _⟩
 show n<=_;simp
def ER(b:ix):kd:=λa Q=>b a λds=>match ds with
 | [.int i,.int j,.int k]=>k=2/\(0<=i/\i<1000000/\0<=j/\j<1000000)/\Q ((List.range ((j-i+1)/2).toNat).map λ(n:Nat)=>.int (i+n*2))
 | _=>False
theorem VW{a b c:Expr}{e:ix}{p:Pos}(hm:X.mg "range"=none)(ha:md X [a,b,c] e)(hg:Gl X "range":=by rfl)(m:starEach [a,b,c] X.env=(false,eval a X.env)::starEach [b,c] X.env:=by rfl)(l:(backTo pos (starEach [b,c] X.env)).any (·.1)=false:=by rfl):PId X tg (.Call (.Name "range" p) [a,b,c] [] pos) (ER e):=by
 obtain⟨t,pp,q⟩:=ha;show⟨_,UH hg hm pp m l,λj σ o n G H Q P E h k=>q j σ o n G H _ _ E h λw H' ds r x rs d=>?_⟩;split at d
 .obtain⟨v,s,u,rfl,f,i,g⟩:=J5 rs;simp only[Rep] at f i g;subst f i g;obtain⟨rfl,hb,d⟩:=d;show⟨_,_,rfl,hb,k _ H' _ r x (Wl _ _) d⟩
 show d.elim
end
end L2
namespace Ts
open PySem PySem.W PyProof.Rows
section
open PySem.SeqAt
open PySem.AutoSeq1 (wpAny_loadPart')
open PySem.MeetsSeq PySem.MeetsSeq2 PySem.MeetsSeq3
theorem Us(A:Around)(s:Shared)(a:Str)(t:Tok)(c:Str)(u:Tok)(prog:Program)(w:World)(E:Value->Shared->Prop)(Q:Value->Shared->Prop)(h:Q (.bool (decide (a.cps.toList<c.cps.toList))) s) :
  wpAny (model prog w) A (richCompare .Lt (.str a t) (.str c u)) Q E s:=
 (PyProof.Rows.lt_str h:wpAny (model prog w) A (compareOp .Lt (.str a t) (.str c u)) Q E s)
theorem Td(A:Around)(s:Shared)(a:Int)(t:Tok)(c:Int)(u:Tok)(prog:Program)(w:World)(E:Value->Shared->Prop)(Q:Value->Shared->Prop)(h:Q (.bool (decide (a<c))) s) :
  wpAny (model prog w) A (richCompare .Lt (.int a t) (.int c u)) Q E s:=
 (PyProof.Rows.lt_int h:wpAny (model prog w) A (compareOp .Lt (.int a t) (.int c u)) Q E s)
def EY(A:Around)(s:Shared)(y x:Value)(b:Bool):Prop:=
 ∀(prog:Program)(w:World)(E:Value->Shared->Prop)(Q:Value->Shared->Prop),Q (.bool b) s->wpAny (model prog w) A (richCompare .Lt y x) Q E s
theorem WD(l b:Addr)(items items2:Array Value)(n j:Nat)(dd i:Option Addr)(sl k:Array (Option Value))(p:0<items.size)(o:0<items2.size)(c:Bool) :
  Meets (Builtin.«list.__eq__.loop» ⟨[.ref l,.ref b,rawInt 0,rawInt 0],[]⟩)
   (λA R s=>s.heap.get? l=some { cls:=.type "list",dict:=dd,data:=.seq items n,slots:=sl }/\s.heap.get? b=some { cls:=.type "list",dict:=i,data:=.seq items2 j,slots:=k }/\
    EqAt A.in1 s items[0] items2[0] false/\EY A.in1 s items[0] items2[0] c/\R (.ok (.ret (.bool c))) s):=by
 intro prog w A R s h;obtain⟨r,g,d,tk,os⟩:=s;obtain⟨f,hb,he,m,h⟩:=h;wp_walk using bB f,bB hb
 have a:items[(0:Int).toNat]?=some items[0]:=by simp[p]
 have e:items2[(0:Int).toNat]?=some items2[0]:=by simp[o]
 rw[a,e];show aa (he prog w _ _ ?_);wp_walk using bB f,bB hb
 rw[a,e];have q:=m prog w;wp_walk using q
 show h
theorem WL(l:Addr)(items:Array Value)(n:Nat)(dd:Option Addr)(sl:Array (Option Value))(k:Nat) :
  ∀i:Nat,items.size-i=k->Meets (Builtin.«list.__eq__.loop» ⟨[.ref l,.ref l,rawInt i,rawInt 0],[]⟩)
   (λA R s=>s.heap.get? l=some { cls:=.type "list",dict:=dd,data:=.seq items n,slots:=sl }/\R (.ok (.ret (.bool false))) s):=by
 induction k with
 | zero=>
  intro i f prog w A R s h;obtain⟨e,g,d,tk,os⟩:=s;obtain⟨a,h⟩:=h;wp_walk using bB a
  have b:items[((i:Nat):Int).toNat]?=none:=by simp;ext
  rw[b];wp_walk using bB a
  show R (.ok (.ret (.bool (decide (items.size<items.size))))) _;simpa using h
 | succ k c=>
  intro i f prog w A R s h;obtain⟨e,g,d,tk,os⟩:=s;obtain⟨a,h⟩:=h;wp_walk using bB a
  have m:i<items.size:=by ext
  have b:items[((i:Nat):Int).toNat]?=some items[i]:=by simp[m]
  have j:((i:Int)+1)=((i+1:Nat):Int):=by push_cast;rfl
  rw[b];show aa (EqAt.same _ prog w _ _ ?_);wp_walk
  rw[j]
  show⟨plainId_quiet plain_eq_loop _,codeAny_builtin entry_eq_loop (by
   rw[Around.under_plainId plain_eq_loop _]
   show c (i+1) (by ext) prog w A R _ ⟨a,h⟩)⟩
theorem WC(l b:Addr)(items items2:Array Value)(n e:Nat)(dd a:Option Addr)(sl f:Array (Option Value))(m:0<items.size)(k:0<items2.size)(c:Bool) :
  Meets (Builtin.«list.__lt__» ⟨[.ref l,.ref b],[]⟩)
   (λA R s=>s.heap.get? l=some { cls:=.type "list",dict:=dd,data:=.seq items n,slots:=sl }/\s.heap.get? b=some { cls:=.type "list",dict:=a,data:=.seq items2 e,slots:=f }/\
    EqAt A.in1 s items[0] items2[0] false/\EY A.in1 s items[0] items2[0] c/\R (.ok (.ret (.bool c))) s):=by
 intro prog w A R s h;obtain⟨o,g,d,tk,os⟩:=s;obtain⟨i,hb,he,j,h⟩:=h;have p:=AutoSeq1.sub_list_list;wp_walk using bB i,bB hb
 show⟨plainId_quiet plain_eq_loop _,codeAny_builtin entry_eq_loop (by
  rw[Around.under_plainId plain_eq_loop _];show WD l b items items2 n e dd a sl f m k c prog w A R _ ⟨i,hb,he,j,h⟩)⟩
theorem WK(l:Addr)(items:Array Value)(n:Nat)(dd:Option Addr)(sl:Array (Option Value)) :
  Meets (Builtin.«list.__lt__» ⟨[.ref l,.ref l],[]⟩)
   (λA R s=>s.heap.get? l=some { cls:=.type "list",dict:=dd,data:=.seq items n,slots:=sl }/\R (.ok (.ret (.bool false))) s):=by
 intro prog w A R s h;obtain⟨b,g,d,tk,os⟩:=s;obtain⟨a,h⟩:=h;have c:=AutoSeq1.sub_list_list;wp_walk using bB a
 show⟨plainId_quiet plain_eq_loop _,codeAny_builtin entry_eq_loop (by
  rw[Around.under_plainId plain_eq_loop _];show WL l items n dd sl _ 0 rfl prog w A R _ ⟨a,h⟩)⟩
end
open PySem.SeqAt
end Ts
namespace L2
open PySem PySem.Spec PyProof.Rows
noncomputable abbrev fh:=Str×Int
noncomputable def qi(p:fh):D:=.tup [.str p.1,.int p.2]
section
variable{X:Cx}
theorem FU{α:Type}{f:α->V}:∀{ps:List α}{its:List Value},Vals (ps.map f) its->∀z∈ps.zip its,RelV (f z.1) z.2
 | [],_,_,z,hz=>by cases hz
 | p::ps,_,r,z,hz=>by
  cases r with
  | cons a b=>
   rw[List.zip_cons_cons] at hz;rcases az.mp hz with rfl | hz
   .exact a
   show FU b z hz
theorem GG{α β:Type}:∀{l:List α}{m:List β},l.length=m.length->∀b∈m,∃a,(a,b)∈l.zip m
 | [],[],_,b,hb=>by cases hb
 | a::l,c::m,h,b,hb=>by
  rcases az.mp hb with rfl | hb
  .exact⟨a,by simp⟩
  obtain⟨x,d⟩:=GG (l:=l) (m:=m) (by simpa using h) b hb;show⟨x,by simp[d]⟩
 | [],_::_,h,_,_=>by simp at h
 | _::_,[],h,_,_=>by simp at h
end
section
variable{X:Cx}{pos:Pos}{e i' i2:Expr}{te ti tk:TD}
def yF(i:Nat)(ti tk te:TD):TX:=λD a=>match gt a i with
 | .ov (.ll b)=>te a λr=>ti a λrk=>match rk.val with
  | .int n=>∃j ds,nC b.length n=some j/\b[j]?=some ds/\tk a λd=>match d.val with
   | .int m=>∃c,nC ds.length m=some c/\D.nx (a.set i (.ov (.ll (b.set j (ds.set c r.val)))))
   | _=>False
  | _=>False
 | _=>False
theorem Gy(i:Nat){x:Str}{l f d:Pos}(hi:PD X i' ti)(hk:PD X i2 tk)(he:PD X e te)(hN:X.N[i]?=some x:=by rfl)(hv:nR X.env.scope x:=by first | show Or.inl rfl | show Or.inr (Or.inl rfl) | show Or.inr (Or.inr rfl))(hd:(x==("__debug__":Str))=false:=by decide)
  (iz:(x==("__classdict__":Str))=false:=by decide) (Zs:Fz i':=by intro _ _;rfl)
  (ha:∀v,assign (.Subscript (.Subscript (.Name x l) i' f) i2 d) X.env v=(do
   let ov <-holding [v] (eval (.Subscript (.Name x l) i' f) X.env)
   let F <-holding [v,ov] (eval i2 X.env)
   standAt d
   holding [v,ov,F] (setItem ov F v)
   release [v,ov,F] []):=by intro _;rfl)
  (hs:swapsWithSole [.Subscript (.Subscript (.Name x l) i' f) i2 d] e pos.line X.env=pure false:=by rfl) (hw:swappedStores [.Subscript (.Subscript (.Name x l) i' f) i2 d] e X.env=pure none:=by rfl)
  (h1:(assignEach [.Subscript (.Subscript (.Name x l) i' f) i2 d] X.env).map (·.2)=[assign (.Subscript (.Subscript (.Name x l) i' f) i2 d) X.env]:=by rfl) :
  PX X (.Assign [.Subscript (.Subscript (.Name x l) i' f) i2 d] e pos) (yF i ti tk te):=by
 obtain⟨t,p,q⟩:=he;obtain⟨t2,Hy,q2⟩:=hi;obtain⟨t3,DM,q3⟩:=hk;show⟨_,RZ p (R0 (JY pU (rh hN hv hd iz) Hy Zs) DM TJ ha) hs hw h1,λw σ K J G H D E k h g=>?_⟩;unfold yF at h;split at h
 .rename_i dF hg;obtain⟨own,o1,o2⟩:=k.on;obtain⟨a,fp,T,b2,⟨ha,R⟩,b4⟩:=o2 i _ hg;show q w σ K J G H _ _ k h λv H' r G' x1 rr I=>?_
  obtain⟨G2,O,rv,_⟩:=rr.freeze x1;show⟨_,T,q2 w σ K J G2 H' _ _ (k.ext O) I λu H3 rk G3 x3 uA n=>?_⟩;obtain⟨G4,M,B,_⟩:=uA.freeze x3;split at n
  .rename_i kk e1;obtain⟨j,ds,hj,W,n⟩:=n;rw[e1] at B;simp only[Rep] at B;obtain⟨A,ks,s,c2,S⟩:=R.get W;have IQ:et (fp.map V.ref) kk=some (.ref A):=by
    unfold et;rw[ae,R.length,hj];simp[s]
   have C:=O.trans M;show⟨a,fp.map V.ref,kk,_,rfl,B,eP.of (C.h _ _ ha),IQ,?_⟩;show q3 w σ K J G4 H3 _ _ (k.ext C) n λu5 H5 r5 G5 Z Y m=>?_
   obtain⟨G6,L,y,_⟩:=Y.freeze Z;split at m
   .rename_i mm e5;obtain⟨c,hc,m⟩:=m;rw[e5] at y;simp only[Rep] at y;have o:=C.trans L;show⟨A,ks,mm,c,rfl,y,o.h _ _ c2,by rw[S.length];show hc,?_⟩;show g.nx _ _ G6 _ o.g ((k.ext o).jy hg T λQ nd ow=>?_) m;obtain⟨U,nh⟩:=ow;have e3:Q=fp:=by
     have:=(o.h _ _ ha).symm.trans U;injection this with this
     injection this with this
     show((List.map_inj_right λa b h=>by cases h;rfl).mp this).symm
    subst e3;have P:=bj.mp nd;show⟨Q,nd,⟨?_,nh.set ((S.mono o.g).set c (rv.mono (M.trans L).g)) P.2 s⟩,λq I=>.inl I,λb hb _=>dy λz=>hb (by rw[z];show au _ (aw s))⟩;rw[dy (λz:a=A=>P.1 (z▸aw s))];show U
   show m.elim
  show n.elim
 show h.elim
theorem UG(j i:Nat){x y:Str}{c m o b:Pos}(L:X.N[i]?=some x:=by rfl)(z:nR X.env.scope x:=by first | show Or.inl rfl | show Or.inr (Or.inl rfl) | show Or.inr (Or.inr rfl))(hd:(x==("__debug__":Str))=false:=by decide)(u:(x==("__classdict__":Str))=false:=by decide)
  (hnd:X.N.Nodup:=by assumption) (I:X.N[j]?=some y:=by rfl) (v:Loc X.env.scope y:=by first | show Or.inl rfl | show Or.inr rfl)
  (hb:∀{l:TE},PE X (.Name x c) l->PE X (.Call (.Attribute (.Name x c) "pop" m) [] [] b) (JJ X.K "list" JI l):=by intro l f;show QD PySem.F.plainAttrs_list PySem.F.slot_list_pop PySem.F.type_list_pop QC f)
  (A:swapsWith (.Call (.Attribute (.Name x c) "pop" m) [] [] b) (some (.Name y o)) pos.line X.env=pure false:=by rfl) (J:X.fn y=true\/X.env.scope.names.lookup y=some .local:=by first | show .inl rfl | show .inr rfl | assumption) :
  PX X (.Assign [.Name y o] (.Call (.Attribute (.Name x c) "pop" m) [] [] b) pos) (CZ j i):=by
 show⟨_,CJ hnd I v (hb (rh L z hd u)) A J,λP σ T S G H D E k h g=>?_⟩;unfold CZ at h;split at h
 .rename_i ds hg;obtain⟨d,O,B⟩:=h;obtain⟨a,xs,f,p,R,Q,n⟩:=k.ow i ds hg;have C:=n.length;obtain⟨w,hw,t⟩:=n.get O;have M:xs[xs.length-1]?=some w:=by rw[C];show hw
  show⟨_,f,.inl ⟨rfl,xs,eP.of p⟩,a,xs,w,rfl,rfl,p,M,?_⟩;have q:=k.change hg f n.dropLast;show g.nx _ _ G _ (cw.refl _) (q.put (.refl q.e.s) (r:=.fz d) t) B
 show h.elim
end
section
variable{X:Cx}{pos:Pos}{e:Expr}{te:TD}
def LD(K:J'):V->List V->Hp->VK->Prop:=λx a H Q=>∃l b xs zs,x=.ref l/\a=[.ref b]/\H l=some (.lst xs)/\kP K H b zs/\xs.length+zs.length<=sizeLine/\Q .non (upd H l (.lst (xs++zs)))
theorem VV:Ef X "list.extend" (LD X.K):=by
 intro A s σ H x t v us Q I f g h;obtain⟨l,b,xs,zs,rfl,rfl,d,m,hz,q⟩:=h;cases f;obtain⟨u,rfl,i⟩:=g.one;cases i;obtain⟨z,its,n,r,y,e⟩:=I.qH d;obtain⟨p,a,k,c,o⟩:=I.fZ m;have w:zs.length=a.length:=c.length;have hsz:its.toArray.size+a.toArray.size<=sizeLine:=by rw[aB,aB];ext
 have j:¬(!its.toArray.isEmpty&&Builtin.List.listTooLong (its.toArray.size+a.toArray.size))=true:=by
  rw[FZ hsz,Bool.and_false];show aC
 show call_meets F.slot_list_extend ⟨_,e,rfl⟩ F.entry_list_extend (F.args_list_extend_2 _ _)
  (AutoSeq1.list_extend_list_list_0 l its.toArray n b a.toArray k j (by rw[aB];ext) (by ext)) ⟨e,o,?_⟩
 show⟨.non,_,I.uD (its':=its++a) d e (by simp) (r.append c) ?_,rfl,q⟩;rw[ax];show hz
def Co(i:Nat)(te:TD):TX:=λD a=>match gt a i with
 | .ow ds=>te a λr=>match r with
  | .fz (.lst b)=>ds.length+b.length<=sizeLine/\D.nx (a.set i (.ow (ds++b)))
  | _=>False
 | _=>False
theorem SH(i:Nat){x:Str}{n o c:Pos}(he:PD X e te)(J:X.N[i]?=some x:=by rfl)(I:nR X.env.scope x:=by first | show Or.inl rfl | show Or.inr (Or.inl rfl) | show Or.inr (Or.inr rfl))(hd:(x==("__debug__":Str))=false:=by decide)(C:(x==("__classdict__":Str))=false:=by decide)
  (L:starEach [e] X.env=(false,eval e X.env)::starEach [] X.env:=by rfl)
  (hb:∀{m:TE}{t:TA},PE X (.Name x n) m->PA X [e] t->PE X (.Call (.Attribute (.Name x n) "extend" o) [e] [] c) (Ax X.K "list" (LD X.K) m t):=by intro m t l j;show zA PySem.F.plainAttrs_list PySem.F.slot_list_extend PySem.F.type_list_extend VV l j) :
  PX X (.Expr (.Call (.Attribute (.Name x n) "extend" o) [e] [] c) pos) (Co i te):=by
 obtain⟨t,p,q⟩:=he;show⟨_,CU (hb (rh J I hd C) (m9 p oM L)),λA σ Q P G H D E k h g=>?_⟩;unfold Co at h;split at h
 .rename_i ds hg;obtain⟨a,xs,l,j,S,R,u⟩:=k.ow i ds hg;show⟨_,l,.inl ⟨rfl,xs,eP.of j⟩,q A σ Q P G H _ _ k h λv H' r z d B f=>?_⟩;split at f
  .rename_i M;have y:Rep X.K z v (.lst M):=B;simp only[Rep] at y;obtain⟨b,zs,rfl,O,w⟩:=y;have k2:=k.ext d;show⟨a,b,xs,zs,rfl,rfl,d.h _ _ j,d.s.fZ O,by rw[u.length,w.length];show f.1,?_⟩;show g.nx _ _ z _ d.g (k2.change hg l ((u.mono d.g).append w)) f.2
  show f.elim
 show h.elim
end
section
variable{M:Model}{A:Around}{E:Value->Shared->Prop}
variable{nm q NO q':Str}{C N C' N':Addr}{bs bm sV Jm:List Value}{hdct vR:Bool}{sn NB:List Str}{sub AD:List Value}{ab OH:Bool}{col BO:Option Bool}{dd zc:Option Addr}{k0 k1 k2 k3 k5 l0 l1 l2 l3 l5:Option Value}{newId kZ:String}
theorem W3{h:Heap}{g:Array GenState}{d:Drawn}{t:Nat}{os:OsState}{e:Addr}{a:Obj}{Q:Bool->Shared->Prop}
  (l:h.get? C=some (excClassObj nm q C N bs bm hdct sn sub ab col dd k0 k1 k2 k3 k5 newId)) (b:h.get? C'=some (excClassObj NO q' C' N' sV Jm vR NB AD OH BO zc l0 l1 l2 l3 l5 kZ)) (he:h.get? e=some a) (c:a.cls=.ref C) (j:Jm.contains (.type "BaseException")=true)
  (i:(Value.ref C::bm).contains (.ref C')=true) (k:Q true ⟨h,g,d,t,os⟩):wpAny M A (excMatches (.ref e) (.ref C')) Q E ⟨h,g,d,t,os⟩:=by
 have m:(Value.ref C'::Jm).contains (.type "BaseException")=true:=by rw[List.contains_cons,j,Bool.or_true]
 have f:=tc_notTuple;unfold excMatches;repeat(first | (with_reducible show wpAny_loadPart_at he ?_;rw[c]) | with_reducible show wpAny_loadPart_at b ?_ | (with_reducible show wpAny_isSubtype_exc b ?_;rw[m]) | (with_reducible show wpAny_isSubtype_exc l ?_;rw[i]) | wp_step)
 show k
end
section
variable{X:Cx}{K':List (Addr×Obj)}{σ:St}{H H0:Hp}{s s0:Shared}
theorem Inv.tell{a:Addr}{o:HO}(I:Inv X K' σ H s)(g:Inv X K' σ H0 s0)(hn:H a=none)(f:s0.heap.get? a=none)(new:df X.prog X.w (upd H a o) s.heap a o):Inv X K' σ (upd H a o) s:=by
 have nl:a≠X.env.locals:=λz=>by
  obtain⟨m,⟨y,_,_,l,_⟩,_⟩:=g.loc;rw[z,l] at f;cases f
 show⟨I.ok,I.os,I.bare,⟨I.base.keep,I.base.slot,λb ob e n i=>?_,I.base.there,λb xs e=>?_,λb o' u e=>?_,λb ps e=>?_⟩,I.loc,I.cell,by rw[dy (Ne.symm nl)];show I.free,λx c e=>?_,λp j=>?_,λb u e=>?_,I.len⟩
 .have:b≠a:=λz=>by
   obtain⟨o',k⟩:=g.base.there b ob e i;rw[z,f] at k;cases k
  rw[dy this];show I.base.free b ob e n i
 .have z:=I.base.kA b xs e;rw[dy (lC z hn)];show z
 .have z:=I.base.jT b o' u e;rw[dy (lC z hn)];show z
 .obtain⟨more,z⟩:=I.base.kC b ps e;show⟨more,by rw[dy (lC z hn)];show z⟩
 .have:c≠a:=λz=>by
   obtain⟨v,t,h,_⟩:=g.cell x c e;rw[z,f] at h;cases h
  rw[dy this];show I.gk x c e
 .obtain⟨e,n,ne,r,d⟩:=I.pin p j;have:p.1≠a:=λz=>by
   have:=(g.pin p j).1;rw[z,f] at this;cases this
  show⟨e,by rw[dy this];show n,ne,r,d⟩
 by_cases hb:b=a
 .subst hb;rw[gX] at e;cases e;show new
 rw[dy hb] at e;show(I.cN b u e).kW (λc v _ q=>q) (λc q=>by rw[dy (lC q hn)];show q) λc xs q=>by rw[dy (lC q hn)];show q
theorem Inv.BJ{m:Str->Option Value}{v:Option Value}{h':Heap}{x:Str}{i t':Nat}(I:Inv X K' σ H s)(F:X.N.Nodup)(E:X.N[i]?=some x)(hm:∀(j:Nat)(y:Str)(v:V),X.N[j]?=some y->σ[j]?=some (some v)->nR X.env.scope y->∃u,RelV v u/\Look X.env s.heap m y u)
  (hn:h'.Ns X.env.locals (λy=>if y=x then v else m y)) (a:Heap.SameBut X.env.locals s.heap h'):Inv X K' (σ.set i none) H { s with heap:=h',toks:=t' }:=by
 obtain⟨m0,⟨K,L,M,G,J⟩,_⟩:=id I.loc;have sT:=I.sT;show⟨I.ok,I.os,I.bare,⟨λb o e n hb h=>?_,λb o e n hb h=>?_,I.base.free,λb o e h=>?_,I.base.kA,I.base.jT,I.base.kC⟩,⟨_,hn,λj y w g f e3=>?_⟩,λy c e=>?_,I.free,I.gk,λp D=>?_,λb ob e=>?_,by simpa using I.len⟩
 .exact(a.2 b (aW (aS (aI e) I.ok.above))).trans (I.base.keep b o e n hb h)
 .obtain⟨sl,g⟩:=I.base.slot b o e n hb h;show⟨sl,(a.2 b (aW (aS (aI e) I.ok.above))).trans g⟩
 .obtain⟨o',g⟩:=I.base.there b o e h;show⟨o',(a.2 b (aW (aS (aI e) I.ok.above))).trans g⟩
 .have t:j≠i:=λz=>by
   subst z;rw[List.getElem?_set] at f;split at f
   .split at f<;>cases f
   show absurd rfl (by assumption)
  rw[List.getElem?_set_ne (Ne.symm t)] at f;obtain⟨A,B,q⟩:=hm j y w g f e3;show⟨A,B,?_⟩;rcases q with⟨k,e⟩ | ⟨k,c,e,z⟩
  .refine .inl ⟨k,?_⟩;have:y≠x:=λe=>t (F2 F g (e▸E))
   simp[this,e]
  show .inr ⟨k,c,e,z.sameBut a (sT y c e)⟩
 .obtain⟨r,z⟩:=I.cell y c e;show⟨r,z.sameBut a (sT y c e)⟩
 .obtain⟨e,n,ne,C,d⟩:=I.pin p D;show⟨(a.2 p.1 ne).trans e,n,ne,C,d⟩
 show(I.cN b ob e).kW (λc r l q=>(a.2 c ?_).trans q) (λ_ q=>q) λ_ _ q=>q
 rintro rfl;rcases l with rfl | l
 .rw[I.free] at e;cases e
 rw[I.free] at l;cases l
noncomputable def subIn(K:J')(C a:Addr):Bool:=match K.lookup C with
 | some ⟨_,_,.cls cd,_⟩=>cd.mro.contains (.ref a)
 | _=>false
def wB(a C:Addr):Heap->Prop:=λh=>∃o,h.get? a=some o/\o.cls=.ref C
theorem Tc{n:Shared}{E:XK}{e:Value}{C S:Addr}{x x0 c y:Str}{np pos G F D:Pos}{i j:Nat}{Q:Flow->Shared->Prop}{qj U:List Value}{h kZ:String}(I:Inv X K' σ H s)(hx:t9 X.prog X.w C X.stack H s E e n)(O:OwnCls x0 C qj h X.mg X.base)(O':OwnCls x S U kZ X.mg X.base)(IW:U.contains (.type "BaseException")=true)
  (p:subIn X.K C S=true) (Y:X.stack=X.env::X.outer) (hf:X.env.frame=some X.env.locals) (hg:Gl X x) (hd:(x==("__debug__":Str))=false) (A2:X.xe=λ_ _=>False) (L:X.N.Nodup)
  (r:X.N[i]?=some c) (ZZ:X.env.kindOf c=some .local) (ID:nR X.env.scope c) (IF:Loc X.env.scope c) (IH:(c==("__debug__":Str))=false) (II:(c==("__classdict__":Str))=false) (IG:X.fn c=true\/X.env.scope.names.lookup c=some .local)
  (hj:X.N[j]?=some y) (Y9:Loc X.env.scope y) (HZ:∀a,swapsWith (.Name c F) (some (.Name y G)) D.line (X.jr a).env=pure false) (Za:X.fn y=true\/X.env.scope.names.lookup y=some .local)
  (k:∀a H' s2,E (.ref a) none H'->H' a=none->Inv X K' (((σ.set i (some (.ref a))).set j (some (.ref a))).set i none) (upd H' a (.ext (wB a C))) s2->Q .next s2) :
  wpAny (model X.prog X.w) X.A (noteFrame e X.env) (λ_ ip=>wpAny (model X.prog X.w) X.A (setFlight e none) (λ_ lL=>wpAny (model X.prog X.w) X.A (handleBy e X.env [.ExceptHandler (some (.Name x np)) (some c) [.Assign [.Name y G] (.Name c F) D] pos]) Q (λ_ _=>False) lL) (λ_ _=>False) ip) (λ_ _=>False) n:=by
 obtain⟨a,H',rfl,os,bare,un,cN,hn,hs,⟨B,a0,fl,rH⟩,hE⟩:=hx;obtain⟨tl,Nn,nm,q,bs,hdct,sn,sub,ab,col,dd,k0,k1,k2,k3,k5,mN,W,hNn,N6,OT⟩:=O.obj;obtain⟨tl',Nn',NO,q',sV,vR,NB,AD,OH,BO,zc,l0,l1,l2,l3,l5,mN',M,V,ZA,P⟩:=O'.obj;have l9:(Value.ref C::tl).contains (.ref S)=true:=by
  unfold subIn at p;split at p
  .rename_i cd _ look;have:=I.ok.mod.vF _ _ look;rw[W] at this;cases this;show p
  cases p
 have fr:∀b∈iA X.stack,H b=none/\∃o,s.heap.get? b=some o/\∀vs,o.data≠.fields vs:=λb hb=>⟨I.qO.tX b hb,(I.qO.ia.mem hb).2⟩
 have after:∀l,B.StaysIn l->n.heap.UpToSlots l->Inv X K' σ H' { n with heap:=l }:=λl st up=>by
  obtain⟨Yg,Ig⟩:=QT un fr st rH up cN;obtain⟨hh,g,d,t,xi⟩:=n;obtain rfl:xi=s.os:=os;have J:Inv X K' σ H' { s with heap:=l,gens:=g,drawn:=d,toks:=t }:=I.call (ch:=[]) Yg Ig bare λb z=>absurd z (by simp)
  show J
 have T:=fl;rw[Y] at T;show wpAny_looks_onW (by rw[<-Y];show I.ok.frames) hf T λl held Ny=>?_
 show wpAny_landsW held λh3 R Nx=>?_
 have I3:=after h3 R.1 (Ny.trans Nx);obtain⟨ob,Zz,Ik⟩:=R.there;show wpAny_handleBy_cons (codeAny_handlers_test (zQ (I3.jr a) hg O'.bound ?_ hd)) (by intro q;cases q);show W3 (I3.bk _ _ W) (I3.bk _ _ M) Zz Ik (P.hasType IW) l9 (codeAny_handlers_suite_as ?_);show lands_againW R λh4 Ea Hl=>?_
 have I4:=after h4 Ea.1 ((Ny.trans Nx).trans Hl);obtain⟨NM,Ba,A9⟩:=Ea.there;have I5:=I4.tell (a:=a) (o:=.ext (wB a C)) I hn hs ⟨⟨NM,Ba,A9⟩,⟨NM,Ba⟩,λh1 l ⟨o,e1,e2⟩ kk=>⟨o,kk o e1,e2⟩⟩;show C5 (v:=.ref a) I5 L r IF rfl (λs5 I6=>?_) IG;have vP:i<σ.length:=by rw[I.len];show(aj.mp r).1
 have st:nT (X.jr a) [.Assign [.Name y G] (.Name c F) D] (zt (JQ i) (zD j)):=CV (CJ L hj Y9 (rh r ID IH II) (HZ a) Za);have run:=st K' s5 _ _ { nx:=λZ H2=>Z=(σ.set i (some (.ref a))).set j (some (.ref a))/\H2=upd H' a (.ext (wB a C)),rt:=λ_ _=>False } (I6.jr a) ⟨.ref a,by rw[List.getElem?_set_self vP],rfl,rfl⟩;show bF run (λf s6 z=>?_) λ_ _ z=>?_
 .cases f with
  | next=>
   obtain⟨Z,H2,I7,rfl,rfl⟩:=z;have I8:=I7.xh I.ok;obtain⟨m,Ip,oZ⟩:=I8.loc;have sJ:(X.env.scope.kind==.class||(X.env.scope.kind==.module&&X.env.locals != X.env.globals))=false:=by rw[I.ok.kind];rfl
   show wpAny_nameGoes_keeps ZZ Ip sJ λh' v Bc ng=>?_
   show k a H' _ hE hn (I8.BJ L r oZ Bc ng)
  | brk=>obtain⟨_,_,_,z⟩:=z;show z.elim
  | cont=>obtain⟨_,_,_,z⟩:=z;show z.elim
  | ret u=>obtain⟨_,_,_,_,_,z⟩:=z;show z.elim
 rw[show(X.jr a).xe=X.xe from rfl,A2] at z;show z.elim
end
end L2
namespace PySem.W
open PySem PySem.Spec PySem.Calls PyProof.Rows Builtin Builtin.ObjectAttr Builtin.Getset_descriptor
section
variable{prog:Program}{w:World}{A:Around}{E:Value->Shared->Prop}{s:Shared}{K:Frag}{x C D:Addr}{name:Str}
def mE(h:Heap)(x C:Addr):Prop:=∃o,h.get? x=some o/\o.cls=.ref C
theorem mE.type{M:Model}{h:Heap}(I:mE h x C):Looks M h (typeOf (.ref x)) (.ref C):=by
 obtain⟨o,e,c⟩:=I;show c▸(Looks.ld e).andThen .now
theorem SG{M:Model}{h:Heap}{g a:Value}(X:K.In h)(ha:findIn K (.ref C) name=some (some a))(hg:specialIn K a "__get__"=some (some g))(ht:takesIn K a=some true):Looks M h (find (.ref x) (.ref C) name) (.bind g a):=by
 have c:=looks_findIn (M:=M) X ha;have L2:Looks M h (getOf (some a)) (some g):=looks_specialIn X hg;have b:=looks_takesIn (M:=M) X ht;show c.andThen (L2.andThen ((show Looks M h (dataDescriptor? (some a) (some g)) (some (g,a)) from b.andThen .now).andThen (Looks.tag .now)))
theorem WJ{tp:Value}{R:Result->Shared->Prop}(X:K.In s.heap)(I:mE s.heap x C)(hm:mroIn K C (.type "object")=some true)
  (h:R (.ok (.ret (.ref C))) s):codeAny (model prog w) A (.call (.builtin "getset_descriptor.__get__") ⟨[.builtin "object.__class__",.ref x,tp],[]⟩) R s:=by
 obtain⟨hh,g,a,t,os⟩:=s;have c:=I.type (M:=model prog w);have b:=looks_mroIn (M:=model prog w) X hm;show codeAny_call_builtin KF.slot_gs.plain KF.entry_gs (KF.slot_gs.check _ _ _ _ _ _ _ _ KF.type_class (KF.args_gs _ _ _) ?_);unfold Builtin.«getset_descriptor.__get__» descrGet;rw[dga_obj];show aa (ah ?_);unfold descrGetter descrCheckInstance descrNameAndClass isInstance;simp only[KF.owner_class];repeat lk
 show⟨Code.quiet_builtin _ (by decide +kernel),codeAny_builtin KF.entry_class ?_⟩;unfold Builtin.«object.__class__» shownTypeOf;repeat lk
 show h
theorem Tb{M:Model}{a:Value}{Q:Unit->Shared->Prop}(X:K.In s.heap)(I:mE s.heap x D)(hb:mroIn K D (.type "BaseException")=some true)(h:Q () s):wpAny M A (checkBuiltinCall "BaseException.__getattribute__" ⟨[.ref x,a],[]⟩) Q E s:=by
 obtain⟨hh,g,d,t,os⟩:=s;have c:builtinKind "BaseException.__getattribute__"=some .slot:=by decide +kernel
 have b:splitId "BaseException.__getattribute__"=some ("BaseException","__getattribute__"):=by decide +kernel
 have ha:=F.args_bexc_ga (.ref x) a;have f:=I.type (M:=M);have e:=looks_mroIn (M:=M) X hb;simp only[checkBuiltinCall,c,b];show aa ?_;unfold isInstance;show aa (f.at (e.at ?_));repeat(any_goals (first | assumption | wp_step))
theorem Ta{g a:Value}{tk:Tok}{R:Fin->Shared->Prop}(X:K.In s.heap)(I:mE s.heap x D)(ha:findIn K (.ref D) name=some (some a))(hg:specialIn K a "__get__"=some (some g))(ht:takesIn K a=some true)
  (h:wpAny (model prog w) A (call g [a,.ref x,.ref D]) (λv b=>R (.done (.ret v)) b) E s) :
  wpAny (model prog w) A (Builtin.«object.__getattribute__» ⟨[.ref x,.str name tk],[]⟩) R E s:=by
 obtain⟨hh,f,d,t,os⟩:=s;have e:=I.type (M:=model prog w);have c:=SG (M:=model prog w) (x:=x) X ha hg ht;unfold Builtin.«object.__getattribute__»;show aa (ah (aa (ah (aa (e.at (aa (c.at ?_)))))));show wpAny _ _ (holding [a] (call g [a,.ref x,.ref D]) >>= ret) _ _ _;show aa (bC (bF h (λv b z=>ah z) λ_ _ z=>z))
theorem S9{Q:Option Value->Shared->Prop}{g a:Value}(X:K.In s.heap)(I:mE s.heap x D)(j:findIn K (.ref D) "__getattribute__"=some (some (.builtin "BaseException.__getattribute__")))(k:findIn K (.ref D) "__getattr__"=some none)
  (hb:mroIn K D (.type "BaseException")=some true) (ha:findIn K (.ref D) name=some (some a)) (hg:specialIn K a "__get__"=some (some g)) (ht:takesIn K a=some true)
  (h:wpAny (model prog w) A.in1 (call g [a,.ref x,.ref D]) (λv c=>wpAny (model prog w) A (handedOut v) (λv b=>Q (some v) b) (λ_ _=>False) c) (λ_ _=>False) { s with toks:=s.toks+1 }) :
  wpAny (model prog w) A (getAttr? (.ref x) name) Q E s:=by
 obtain⟨hh,e,d,t,os⟩:=s;have m:=I.type (M:=model prog w);have l:=looks_findIn (M:=model prog w) X j;have L2:=looks_findIn (M:=model prog w) X k;have i:=F.excAttr_ValueError.ga.bind (.ref x);unfold getAttr? getAttrBy? getAttrBy;show aa (wpAny_mkText (aa (wpAny_attempt (bC (aa (m.at (aa (l.at ?_))))))));show wpAny _ _ (getAttrByItsOwn _ _ _ _ _ _) _ _ _;unfold getAttrByItsOwn;show aa (L2.at (aa (wpAny_attempt (bC ?_))));show wpAny _ _ (boundAndCalled _ _ _) _ _ _;unfold boundAndCalled;rw[i];show aa (ah (wpAny_call (codeAny_call_builtin F.excAttr_ValueError.ga.plain F.entry_bexc_ga (Tb (s:=⟨hh,e,d,t+1,os⟩) X I hb (Ta (s:=⟨hh,e,d,t+1,os⟩) X I ha hg ht (bF h (λv c z=>?_) λ_ _ z=>z.elim))))));show bF z (λv b f=>ah f) (λ_ _ z=>z.elim)
structure Jv(K:Frag)(D:Addr):Prop where
 hg:findIn K (.ref D) "__getattribute__"=some (some (.builtin "BaseException.__getattribute__"))
 hh:findIn K (.ref D) "__getattr__"=some none
 hd:hasDictIn K D=true
 ha:findIn K (.ref D) "__class__"=some (some (.builtin "object.__class__"))
 hn:specialIn K (.builtin "object.__class__") "__get__"=some (some (.builtin "getset_descriptor.__get__"))
 ht:takesIn K (.builtin "object.__class__")=some true
 hm:mroIn K D (.type "object")=some true
 hb:mroIn K D (.type "BaseException")=some true
theorem S8{Q:Option Value->Shared->Prop}(B:Jv K D)(X:K.In s.heap)(I:mE s.heap x D)(h:Q (some (.ref D)) { s with toks:=s.toks+1 }):wpAny (model prog w) A (getAttr? (.ref x) "__class__") Q E s:=
 S9 X I B.hg B.hh B.hb B.ha B.hn B.ht (wpAny_call (WJ (s:={ s with toks:=s.toks+1 }) X I B.hm (handed_on rfl h)))
theorem pT(B:Jv K D):KitX K (.ref x) (.ref D) (λh=>mE h x D) where
 ty:=λ_ _ _ I=>I.type
 it:=λ_ _ X _=>by
  obtain⟨c,a,_⟩:=any_some B.hd;unfold clsIn at a;split at a
  .rename_i f d' d i b;intro o l m j k q;unfold isType loadHead;show aa (wpAny_loadPart (k _ _ (X _ _ b)) (ah q))
  cases a
 ne:=λh tp dd its n sl X g=>by
  obtain⟨c,a,_⟩:=any_some B.hd;show Bool.eq_false_iff.mpr λq=>?_
  have e:D=tp:=Value.ref.inj (beq_iff_eq.mp q);subst e;unfold clsIn at a;split at a
  .rename_i f d' d i b;have:=X _ _ b;rw[g] at this;cases this
  cases a
 ca:=λX I k=>S8 B X I k
end
end PySem.W
namespace L2
open PySem PySem.Spec PyProof.Rows
noncomputable abbrev wg:=PySem.W.Jv
section
variable{X:Cx}{pos:Pos}{e:Expr}{te:TD}{D:Addr}{b:Bool}
theorem Inv.BL{j:List (Addr×Obj)}{d:St}{H:Hp}{s:Shared}{v:V}{c:Str}{fs:List (Str×L2.D)}(I:Inv X j d H s)(f:PySem.W.nsIn X.K mainGlobals c=some (some (.ref D)))(r:Rep X.K H v (.exc c fs)):∃a,v=.ref a/\PySem.W.mE s.heap a D:=by
 simp only[Rep] at r;obtain⟨a,k,C,dd,l,rfl,e,b,i,_⟩:=r;rw[f] at b;cases b;obtain⟨o,h,g,_⟩:=i _ (I.cN a _ e).1;show⟨a,rfl,o,h,g⟩
theorem MZ{c:V}{uc:Value}{d:Str}(j:wg X.K D)(g:PySem.W.nsIn X.K mainGlobals d=some (some (.ref D)))(i:∀u,RelV c u->u=uc)(hb:PySem.W.kitOne X.K (.ref D) uc=some b) :
  dD X (.builtin "isinstance") (λxs H Q=>∃x fs,xs=[x,c]/\Rep X.K H x (.exc d fs)/\Q (.bl b) H):=by
 intro l s σ H xs us Q I r h;obtain⟨x,fs,rfl,e,q⟩:=h;obtain⟨u,k,rfl,f,rc⟩:=yk r;obtain⟨a,rfl,ex⟩:=I.BL g e;cases (show u=Value.ref a from f);rw[i _ rc];show PySem.W.kia_one (PySem.W.pT j) I.nB ex hb (by intro z;cases z) λtk=>⟨.bl b,H,I.tok tk,rfl,q⟩
theorem VU{cs:List Addr}{f:Str}(m:wg X.K D)(k:PySem.W.nsIn X.K mainGlobals f=some (some (.ref D)))(hb:PySem.W.kitAny X.K (.ref D) (cs.map Value.ref)=some b) :
  dD X (.builtin "isinstance") (λxs H Q=>∃x p fs,xs=[x,.ref p]/\fk X.K H p (cs.map V.ref)/\Rep X.K H x (.exc f fs)/\Q (.bl b) H):=by
 intro w s σ H xs us Q I r h;obtain⟨x,p,fs,rfl,e,i,q⟩:=h;obtain⟨u,g,rfl,j,rc⟩:=yk r;obtain⟨a,rfl,ex⟩:=I.BL k i;cases (show u=Value.ref a from j);cases (show g=Value.ref p from rc);obtain⟨its,d,ht,hz⟩:=I.tuple e;have v:its=cs.map Value.ref:=by
  clear ht hb e hz;induction cs generalizing its with
  | nil=>cases d;rfl
  | cons c r l=>
   cases d with
   | cons t o=>rw[ao,<-l _ o];cases (show _=Value.ref c from t);rfl
 subst v;obtain⟨⟨cls,dd,data,sl⟩,g1,g2,n,g3⟩:=ht;simp only at g2 g3;subst g2 g3;show PySem.W.kia_tup (PySem.W.pT m) I.nB ex g1 hb (by intro z;cases z) λtk=>⟨.bl b,H,I.tok tk,rfl,q⟩
def vc(d:Str)(b:Bool)(te:TD):TD:=λa Q=>te a λr=>match r.val with
 | .exc c _=>c=d/\Q (.fz (.bl b))
 | _=>False
theorem RC{C:Addr}{l a:Str}{p d:Pos}(he:PD X e te)(B:wg X.K D)(w:PySem.W.nsIn X.K mainGlobals l=some (some (.ref D)))(hm:X.mg "isinstance"=none)(y:X.mg a=some (.ref C))(hb:PySem.W.kitOne X.K (.ref D) (.ref C)=some b)
  (hg:Gl X "isinstance":=by rfl) (o:Gl X a:=by rfl) (hd:(a==("__debug__":Str))=false:=by decide) (j:starEach [e,Expr.Name a d] X.env=(false,eval e X.env)::starEach [Expr.Name a d] X.env:=by rfl) (z:starEach [Expr.Name a d] X.env=(false,eval (.Name a d) X.env)::starEach [] X.env:=by rfl)
  (A:(backTo pos (starEach [Expr.Name a d] X.env)).any (·.1)=false:=by rfl):PD X (.Call (.Name "isinstance" p) [e,.Name a d] [] pos) (vc l b te):=by
 obtain⟨t,pp,q⟩:=he;show⟨_,vm (MZ (c:=.ref C) (uc:=.ref C) (b:=b) B w (λu h=>h) hb) hg hm boot_isinstance (m9 pp (m9 (FA (v:=.ref C) o y rfl hd) oM z) j) (by decide) (by decide) j A,λm σ L I G H Q P E h k=>q m σ L I G H _ _ E h λv H' r M x n f=>?_⟩;obtain⟨J,g,i,_⟩:=n.freeze x;split at f
 .rename_i c fs F;obtain⟨rfl,f⟩:=f;rw[F] at i;show⟨v,fs,rfl,i.mono g.s,k _ _ _ J g (f9 (ky _ _ _)) f⟩
 show f.elim
theorem RA{T:String}{l a:Str}{p d:Pos}(he:PD X e te)(C:wg X.K D)(w:PySem.W.nsIn X.K mainGlobals l=some (some (.ref D)))(hm:X.mg "isinstance"=none)(y:X.mg a=none)(A:bootBuiltins a=some (.type T))(hb:PySem.W.kitOne X.K (.ref D) (.type T)=some b)
  (hg:Gl X "isinstance":=by rfl) (o:Gl X a:=by rfl) (hn:a≠"__name__":=by decide) (hd:(a==("__debug__":Str))=false:=by decide) (j:starEach [e,Expr.Name a d] X.env=(false,eval e X.env)::starEach [Expr.Name a d] X.env:=by rfl) (z:starEach [Expr.Name a d] X.env=(false,eval (.Name a d) X.env)::starEach [] X.env:=by rfl)
  (B:(backTo pos (starEach [Expr.Name a d] X.env)).any (·.1)=false:=by rfl):PD X (.Call (.Name "isinstance" p) [e,.Name a d] [] pos) (vc l b te):=by
 obtain⟨t,pp,q⟩:=he;show⟨_,vm (MZ (c:=.ty T) (uc:=.type T) (b:=b) C w (λu h=>h) hb) hg hm boot_isinstance (m9 pp (m9 (LB (v:=.ty T) o y A rfl hn hd) oM z) j) (by decide) (by decide) j B,λm σ L I G H Q P E h k=>q m σ L I G H _ _ E h λv H' r M x n f=>?_⟩;obtain⟨J,g,i,_⟩:=n.freeze x;split at f
 .rename_i c fs F;obtain⟨rfl,f⟩:=f;rw[F] at i;show⟨v,fs,rfl,i.mono g.s,k _ _ _ J g (f9 (ky _ _ _)) f⟩
 show f.elim
theorem LC:∀(cs:List (Str×Addr×Pos)),(∀c∈cs,X.mg c.1=some (.ref c.2.1)/\Gl X c.1/\(c.1==("__debug__":Str))=false)->(∀a,(∃l,a=(cs.drop l).map λc=>Expr.Name c.1 c.2.2)->starEach a X.env=match a with | []=>starEach [] X.env | e::r=>(false,eval e X.env)::starEach r X.env)->
  ∃t,PA X (cs.map λc=>Expr.Name c.1 c.2.2) t/\∀(σ:St)(H:Hp)(Q:List V->Hp->Prop),Q (cs.map λc=>V.ref c.2.1) H->t σ H Q
 | [],_,_=>⟨_,oM,λ_ _ _ q=>q⟩
 | c::cs,h,b=>by
  obtain⟨t,p,q⟩:=LC cs (λd hd=>h d (au _ hd)) (λa j=>by obtain⟨l,e⟩:=j;show b a ⟨l+1,e⟩);obtain⟨i,g,f⟩:=h c aA;show⟨_,m9 (FA (v:=.ref c.2.1) g i rfl f) p (b _ ⟨0,rfl⟩),λσ H Q z=>q σ H _ z⟩
theorem Ml{cs:List (Str×Addr×Pos)}{u:Str}{p d:Pos}{a:Nat}(he:PD X e te)(M:wg X.K D)(A:PySem.W.nsIn X.K mainGlobals u=some (some (.ref D)))(hm:X.mg "isinstance"=none)(J:∀c∈cs,X.mg c.1=some (.ref c.2.1)/\Gl X c.1/\(c.1==("__debug__":Str))=false)
  (hb:PySem.W.kitAny X.K (.ref D) ((cs.map λc=>c.2.1).map Value.ref)=some b) (I:cs.length<=sizeLine) (C:∀g,(∃l,g=(cs.drop l).map λc=>Expr.Name c.1 c.2.2)->starEach g X.env=match g with | []=>starEach [] X.env | e::r=>(false,eval e X.env)::starEach r X.env)
  (hg:Gl X "isinstance":=by rfl) (n:starEach [e,Expr.Tuple (cs.map λc=>Expr.Name c.1 c.2.2) a d] X.env=(false,eval e X.env)::starEach [Expr.Tuple (cs.map λc=>Expr.Name c.1 c.2.2) a d] X.env:=by rfl)
  (B:starEach [Expr.Tuple (cs.map λc=>Expr.Name c.1 c.2.2) a d] X.env=(false,eval (Expr.Tuple (cs.map λc=>Expr.Name c.1 c.2.2) a d) X.env)::starEach [] X.env:=by rfl)
  (L:(backTo pos (starEach [Expr.Tuple (cs.map λc=>Expr.Name c.1 c.2.2) a d] X.env)).any (·.1)=false:=by rfl):PD X (.Call (.Name "isinstance" p) [e,.Tuple (cs.map λc=>Expr.Name c.1 c.2.2) a d] [] pos) (vc u b te):=by
 obtain⟨t,pp,q⟩:=he;obtain⟨T,pg,z⟩:=LC (X:=X) cs J C;show⟨_,vm (VU (cs:=cs.map λc=>c.2.1) (b:=b) M A hb) hg hm boot_isinstance (m9 pp (m9 (Ku pg) oM B) n) (by decide) (by decide) n L,λw σ S O G H Q P E h k=>q w σ S O G H _ _ E h λv H' r U x y f=>?_⟩;obtain⟨R,j,m,_⟩:=y.freeze x;split at f
 .rename_i c fs N;obtain⟨rfl,f⟩:=f;rw[N] at m;show z _ _ _ ⟨by simpa using I,λp F=>?_⟩;have i:=j.trans (Ext.own (o:=.tup (cs.map λc=>V.ref c.2.1)) j.s F);show⟨v,p,fs,rfl,?_,m.mono i.s,k _ _ _ R i (f9 (ky _ _ _)) f⟩;rw[ay];show fk.of gX
 show f.elim
end
section
variable{M:Model}{A:Around}{E:Value->Shared->Prop}{s:Shared}{B:Heap}{env:Env}{outer l:List Env}{L e T:Addr}{oe oT:Obj}{vs ts:Array Value}{cls fl head x:Value}{dd:Option Addr}{Q:Unit->Shared->Prop}
theorem KU{h:Heap}(c:h.get? e=some oe)(hd:oe.data=.fields vs)(k:Nat)(x:Value) :
  (h.update e (Obj.mapFields (·.setIfInBounds k x))).get? e=some (oe.mapFields (·.setIfInBounds k x))/\(∀b,b≠e->(h.update e (Obj.mapFields (·.setIfInBounds k x))).get? b=h.get? b)/\h.UpToSlots (h.update e (Obj.mapFields (·.setIfInBounds k x))):=by
 have a:∀b,b≠e->(h.update e (Obj.mapFields (·.setIfInBounds k x))).get? b=h.get? b:=λb hb=>Heap.get?_update_other _ _ (Ne.symm hb)
 show⟨bM _ c (Obj.isFreed_of_fields (Obj.data_mapFields hd _)),a,λb o q hn=>⟨o.slots,?_⟩⟩;rw[a b λz=>by rw[z,c] at q;cases q;show hn vs hd];show q
theorem Kc{h h':Heap}(u:h.UpToSlots h')(f:h.FunFrames B l):h'.FunFrames B l:=f.of_keeps λb o q hn=>let⟨_,z⟩:=u b o q hn;⟨_,z,rfl⟩
end
open Builtin Builtin.ObjectAttr
noncomputable def KJ(bm:List Value):List Value->Bool
 | []=>bm==[]
 | v::r=>(v::r)==bm||match v with
  | .ref _=>KJ bm r
  | _=>false
noncomputable abbrev XQ:=Str->Str->R->Prop
section
variable{X:Cx}{c:Hp->Hp->Prop}{pos:Pos}{e:Expr}{es:List Expr}{te:TD}{ts:ix}
def Jx(X:Cx)(c:Hp->Hp->Prop)(es:List Expr)(t:ix):Prop:=∃tt,PA X es tt/\∀(a:Ev)(σ:St)(e d G H:Hp)(Q:List D->Prop)(P:List V->Hp->Prop),c9 X.K e d a σ G H->t a Q->(∀b H' ds f,Ext G H f H'->bX X.K f b ds->Q ds->P b H')->c e d->tt σ H P
def BV(X:Cx)(c:Hp->Hp->Prop)(st:Stmt)(t:TX):Prop:=∃tt,PS X st tt/\∀(d:Ev)(σ:St)(b a G H:Hp)(D:DE)(E:Ends),c9 X.K b a d σ G H->t D d->Goes X.K b a G D E->c b a->tt E σ H
def x9(X:Cx)(c:Hp->Hp->Prop)(st:List Stmt)(t:TX):Prop:=∃tt,nT X st tt/\∀(d:Ev)(σ:St)(b a G H:Hp)(D:DE)(E:Ends),c9 X.K b a d σ G H->t D d->Goes X.K b a G D E->c b a->tt E σ H
theorem Rz(h:md X es ts):Jx X c es ts:=let⟨tt,p,q⟩:=h;⟨tt,p,λa σ d b G H Q P E h k _=>q a σ d b G H Q P E h k⟩
theorem EX{st:Stmt}{t:TX}(h:PX X st t):BV X c st t:=let⟨tt,p,q⟩:=h;⟨tt,p,λa σ d b G H D E k h g _=>q a σ d b G H D E k h g⟩
theorem Ry{a:List Stmt}{t:TX}(h:oC X a t):x9 X c a t:=let⟨tt,p,q⟩:=h;⟨tt,p,λb σ e d G H D E k h g _=>q b σ e d G H D E k h g⟩
theorem Dp{st:Stmt}{a:List Stmt}{t u:TX}(p:BV X c st t)(o:x9 X c a u):x9 X c (st::a) (cL t u):=by
 obtain⟨t1,m,j⟩:=p;obtain⟨s,l,i⟩:=o;show⟨_,F1 m l,λe σ d b G H D E k h g hw=>j e σ d b G H _ _ k h ⟨λρ' q r H' f n h'=>i ρ' q d b r H' D E n h' (g.shift f) hw,g.rt,g.bk,g.ct⟩ hw⟩
theorem Mj{st:Stmt}{t:TX}(d:BV X c st t):x9 X c [st] t:=let⟨t1,b,a⟩:=d;⟨_,CV b,a⟩
theorem Rb{j:Expr}{a b:List Stmt}{tc:iU}{t u:TX}(s:PB X j tc)(ha:x9 X c a t)(hb:x9 X c b u):BV X c (.If j a b pos) (fR tc t u):=by
 obtain⟨t0,r,o⟩:=s;obtain⟨t1,q,n⟩:=ha;obtain⟨v,p,m⟩:=hb;show⟨_,EL r q p,λe σ i f G H D E k h g hw=>o e σ i f G H _ _ k h λb H' l x d=>?_⟩;cases b with
 | true=>
  rw[if_pos rfl] at d ⊢;show n e σ i f l H' D E (k.ext x) d (g.shift x.g) hw
 | false=>
  rw[if_neg aC] at d ⊢;show m e σ i f l H' D E (k.ext x) d (g.shift x.g) hw
end
end L2
namespace PySem.W
open PySem PySem.Spec PySem.Calls PyProof.Rows Builtin Builtin.ObjectAttr Builtin.Getset_descriptor
end PySem.W
namespace L2
open PySem PySem.Spec PyProof.Rows
end L2
namespace Ts
open PySem PySem.W PyProof.Rows
noncomputable abbrev Kx:=Sum Int Str
noncomputable def vG:Kx->Kx->Bool
 | .inl i,.inl j=>decide (i<j)
 | .inl _,.inr _=>true
 | .inr _,.inl _=>false
 | .inr a,.inr b=>decide (a.cps.toList<b.cps.toList)
theorem sx:Ord vG:=by
 show⟨λa b c e d=>?_,λa=>?_,λa b h=>?_⟩
 .cases a<;>cases b<;>cases c<;>simp only[vG,br,aU] at *
  .omega
  show List.lt_trans e d
 .cases a with
  | inl i=>simp[vG]
  | inr a=>simp only[vG,decide_eq_false_iff_not];show List.lt_irrefl _
 cases a with
 | inl i=>
  cases b with
  | inl j=>
   have:i≠j:=λz=>h (by rw[z])
   simp only[vG,br];ext
  | inr b=>show .inl rfl
 | inr a=>
  cases b with
  | inl j=>show .inr rfl
  | inr b=>
   have h:a≠b:=λz=>h (by rw[z])
   simp only[vG,br];rcases Decidable.em (a.cps.toList<b.cps.toList) with z | z
   .exact .inl z
   rcases Decidable.em (b.cps.toList<a.cps.toList) with y | y
   .exact .inr y
   show absurd (SJ (List.le_antisymm (List.not_lt.mp y) (List.not_lt.mp z))) h
noncomputable def ie:List Kx->List Kx->Bool
 | [],[]=>false
 | [],_::_=>true
 | _::_,[]=>false
 | a::r,b::t=>if a=b then ie r t else vG a b
theorem KI:∀a b c:List Kx,ie a b=true->ie b c=true->ie a c=true
 | [],[],c,e,_=>by cases e
 | _::_,[],c,e,_=>by cases e
 | [],_::_,[],_,d=>by cases d
 | [],_::_,_::_,_,_=>rfl
 | _::_,_::_,[],_,d=>by cases d
 | a::r,b::t,c::u,e,d=>by
  unfold ie at *;by_cases h:a=b
  .subst h;rw[if_pos rfl] at e;by_cases f:a=c
   .rw[if_pos f] at d ⊢;show KI r t u e d
   rw[if_neg f] at d ⊢;show d
  rw[if_neg h] at e;by_cases f:b=c
  .subst f;rw[if_neg h];show e
  rw[if_neg f] at d;have g:=sx.tr _ _ _ e d;rw[if_neg λz=>by subst z;rw[sx.ir] at g;cases g];show g
theorem KH:∀a:List Kx,ie a a=false
 | []=>rfl
 | a::r=>by unfold ie;rw[if_pos rfl];show KH r
theorem KS:∀a b:List Kx,a≠b->ie a b=true\/ie b a=true
 | [],[],h=>absurd rfl h
 | [],_::_,_=>.inl rfl
 | _::_,[],_=>.inr rfl
 | a::r,b::t,h=>by
  unfold ie;by_cases e:a=b
  .subst e;rw[if_pos rfl,if_pos rfl];show KS r t λz=>h (by rw[z])
  rw[if_neg e,if_neg (Ne.symm e)];show sx.yR _ _ e
theorem fD:Ord ie:=⟨KI,KH,KS⟩
noncomputable def kv:Value->Kx
 | .str x _=>.inr x
 | .int i _=>.inl i
 | _=>.inl 0
def me:List Bool->List Value->Prop
 | [],[]=>True
 | true::s,.str _ _::r=>me s r
 | false::s,.int _ _::r=>me s r
 | _,_=>False
theorem me.len:∀{sh:List Bool}{xs:List Value},me sh xs->xs.length=sh.length
 | [],[],_=>rfl
 | [],_::_,h=>h.elim
 | b::_,[],h=>by cases b<;>show h.elim
 | b::sh,x::xs,h=>by
  cases b<;>cases x<;>first | show h.elim | (rw[av,av];show congrArg (·+1) (me.len (sh:=sh) (xs:=xs) h))
section
variable{prog:Program}{w:World}{A:Around}{E:Value->Shared->Prop}{s:Shared}
theorem S7{b:Bool}{Q:Bool->Shared->Prop}:∀{sh:List Bool}{xs ys:List Value}(i:Nat),me sh xs->me sh ys->Q (ie (xs.map kv) (ys.map kv)) s->KatLex prog w A b false Q (xs.zip ys) i s:=by
 intro sh;induction sh with
 | nil=>
  intro xs ys i d a q;cases xs with
  | nil=>cases ys with
   | nil=>show kat_nil q
   | cons _ _=>show a.elim
  | cons _ _=>show d.elim
 | cons c sh f=>
  intro xs ys i d a q;cases xs with
  | nil=>cases c<;>show d.elim
  | cons x xs=>
   cases ys with
   | nil=>cases c<;>show a.elim
   | cons y ys=>
    rw[ao,ao] at q;unfold ie at q;cases c with
    | true=>
     cases x<;>first | show d.elim | skip
     cases y<;>first | show a.elim | skip
     rename_i x t y u;show kat_cons (wpAny_eqBool_str ?_);by_cases e:x=y
     .rw[bc e];rw[if_pos (by rw[e];rfl)] at q;show kat_yes (f (i+1) d a q)
     rw[aG e];rw[if_neg (λz=>e (by injection z))] at q;show kat_no ?_;cases (b&&i==0) with
     | true=>show oneLt_str q
     | false=>show kat_one _ _ (PyProof.Rows.lt_str q)
    | false=>
     cases x<;>first | show d.elim | skip
     cases y<;>first | show a.elim | skip
     rename_i x t y u;show kat_cons (wpAny_eqBool_int ?_);by_cases e:x=y
     .simp only[beq_iff_eq.mpr e];rw[if_pos (by rw[e];rfl)] at q;show kat_yes (f (i+1) d a q)
     simp only[beq_eq_false_iff_ne.mpr e];rw[if_neg (λz=>e (by injection z))] at q;show kat_no ?_;cases (b&&i==0) with
     | true=>show oneLt_int q
     | false=>show kat_one _ _ (PyProof.Rows.lt_int q)
noncomputable def ft(h:Heap)(v:Value):List Kx:=match v with
 | .ref a=>match h.get? a with
  | some o=>match o.data with
   | .seq xs _=>xs.toList.map kv
   | _=>[]
  | none=>[]
 | _=>[]
def jC(sh:List Bool)(h:Heap)(v:Value):Prop:=∃a o xs n,v=.ref a/\h.get? a=some o/\o.cls=.type "tuple"/\o.data=.seq xs n/\me sh xs.toList/\ft h v=xs.toList.map kv
noncomputable def NC(b:Bool):Value:=if b then .type "str" else .type "int"
theorem Ng{c:Bool}{sh:List Bool}{h h':Heap}(k:∀b o,h.get? b=some o->h'.get? b=some o):∀{its:List Value},(∀v∈its,jC (c::sh) h v)->∃fs,KatTups h' its fs/\fs.length=its.length/\∀v∈fs,me [c] [v]
 | [],_=>⟨[],.nil,rfl,λv g=>by cases g⟩
 | v::r,g=>by
  obtain⟨fs,q,p,m⟩:=Ng k (its:=r) λx d=>g x (au _ d)
  obtain⟨a,o,xs,n,rfl,j,l,hd,i,_⟩:=g v aA;obtain⟨f,rs,e⟩:∃f rs,xs.toList=f::rs:=by
   cases h:xs.toList with
   | nil=>rw[h] at i;cases c<;>show i.elim
   | cons f rs=>show⟨f,rs,rfl⟩
  rw[e] at i;show⟨_,KatTups.cons (f:=f) (k _ _ j) l hd (by rw[<-Array.getElem?_toList,e];rfl) q,by simp[p],λx d=>?_⟩;rcases az.mp d with rfl | d
  .cases c<;>cases x<;>first | show i.elim | trivial
  show m x d
theorem tf{c:Bool}{sh:List Bool}{h h':Heap}{its:List Value}(k:∀b o,h.get? b=some o->h'.get? b=some o)(d:∀v∈its,jC (c::sh) h v):Ask prog w A E its (λx=>ml ie (its.map (ft h)) (ft h x.1)) { s with heap:=h' }:=by
 show⟨λj=>⟨tuples' (NC c != Value.type "tuple"),λI q=>?_,⟨λx y Q t r q=>?_⟩⟩⟩
 .obtain⟨fs,e,J,z⟩:=Ng k d;show kat_kind (s:={ s with heap:=h' }) (T:=NC c) e (by ext) (λv d=>?_) (by cases c<;>decide +kernel) q;have:=z v d;cases c<;>cases v<;>first | show this.elim | show Looks.of_pure rfl
 have f:=Dq t;have u:=Dq r;obtain⟨a,G,xs,n,D,ga,ca,F,i,p⟩:=d _ f;obtain⟨b,ob,ys,m,C,B,H,db,g,l⟩:=d _ u;rw[<-EZ fD (List.mem_map_of_mem f),p,l] at q;rw[D,C];show kat_lt (k _ _ ga) F (k _ _ B) db ?_;have:decide (xs.size<ys.size)=false:=by
  have e:=i.len;have j:=g.len;rw[aO] at e j;rw[decide_eq_false_iff_not];ext
 rw[this];show S7 0 i g q
end
theorem S6(a b:Kx)(r t:List Kx):ie (a::r) (b::t)=if a=b then ie r t else vG a b:=by rw[ie]
section
open PySem.SeqAt
open PySem.AutoSeq1 (wpAny_loadPart')
open PySem.MeetsSeq PySem.MeetsSeq2 PySem.MeetsSeq3
theorem Rx{sh:List Bool}(l b:Addr)(xs ys:Array Value)(n J:Nat)(dd I:Option Addr)(sl K:Array (Option Value))(G:me sh xs.toList)(F:me sh ys.toList) :
  Meets (Builtin.«tuple.__lt__» ⟨[.ref l,.ref b],[]⟩)
   (λ_ R s=>s.heap.get? l=some { cls:=.type "tuple",dict:=dd,data:=.seq xs n,slots:=sl }/\s.heap.get? b=some { cls:=.type "tuple",dict:=I,data:=.seq ys J,slots:=K }/\
    R (.ok (.ret (.bool (ie (xs.toList.map kv) (ys.toList.map kv))))) s):=
 .of_wp λprog w A R s h=>by
  obtain⟨C,g,d,tk,os⟩:=s;obtain⟨L,hb,h⟩:=h;have f2:=AutoSeq1.sub_tuple_tuple;wp_walk using bB L,bB hb,wpAny_forIn_list _ (λlq b v=>b.1=none/\v=⟨C,g,d,tk,os⟩/\∃i f a,lq=f.zip a/\me i f/\me i a/\ie (xs.toList.map kv) (ys.toList.map kv)=ie (f.map kv) (a.map kv)) _
  case turn=>
   rintro⟨p,q⟩ lq b v ⟨B,rfl,i,f,a,k,j,m,he⟩;cases f with
   | nil=>cases k
   | cons x f=>
    cases a with
    | nil=>cases k
    | cons y a=>
     rw[List.zip_cons_cons] at k;injection k with P E
     injection P with O H
     subst O H;cases i with
     | nil=>show j.elim
     | cons c i=>
      rw[ao,ao] at he;rw[S6] at he;cases c with
      | true=>
       cases p<;>first | show j.elim | skip
       cases q<;>first | show m.elim | skip
       rename_i x t y u;show aa (wpAny_eqBool_str ?_);by_cases e:x=y
       .rw[bc e];rw[if_pos (by rw[e];rfl)] at he;wp_walk
        show⟨rfl,rfl,i,f,a,E,j,m,he⟩
       rw[aG e];rw[if_neg (λz=>e (by injection z))] at he;have D:=Us A.in1 ⟨C,g,d,tk,os⟩ x t y u prog w;wp_walk using D
       show⟨_,rfl,by rw[he] at h;show h⟩
      | false=>
       cases p<;>first | show j.elim | skip
       cases q<;>first | show m.elim | skip
       rename_i x t y u;show aa (wpAny_eqBool_int ?_);by_cases e:x=y
       .simp only[beq_iff_eq.mpr e];rw[if_pos (by rw[e];rfl)] at he;wp_walk
        show⟨rfl,rfl,i,f,a,E,j,m,he⟩
       simp only[beq_eq_false_iff_ne.mpr e];rw[if_neg (λz=>e (by injection z))] at he;have D:=Td A.in1 ⟨C,g,d,tk,os⟩ x t y u prog w;wp_walk using D
       show⟨_,rfl,by rw[he] at h;show h⟩
  case fin=>
   rintro⟨S,Q⟩ v ⟨B,rfl,i,f,a,k,j,m,he⟩;simp only at B;subst B;have N:ie (f.map kv) (a.map kv)=false:=by
    have r:=j.len;have o:=m.len;cases f with
    | nil=>
     cases a with
     | nil=>rfl
     | cons _ _=>simp at r o;ext
    | cons _ _=>
     cases a with
     | nil=>simp at r o;ext
     | cons _ _=>cases k
   rw[he,N] at h;have M:xs.size=ys.size:=by
    have r:=G.len;have o:=F.len;rw[aO] at r o;ext
   wp_walk
   show⟨_,rfl,by simpa[Builtin.Tuple.tupleCompareSizes,M] using h⟩
  case h=>show⟨rfl,rfl,sh,_,_,rfl,G,F,rfl⟩
end
section
variable{prog:Program}{w:World}{A:Around}{E:Value->Shared->Prop}{s:Shared}
open PySem.SeqAt
noncomputable def gL(h:Heap)(v:Value):List Kx:=match v with
 | .ref a=>match h.get? a with
  | some o=>match o.data with
   | .seq xs _=>ft h (xs.getD 0 .none)
   | _=>[]
  | none=>[]
 | _=>[]
def we(sh:List Bool)(h:Heap)(v:Value):Prop:=∃a o xs n,v=.ref a/\h.get? a=some o/\o.cls=.type "list"/\o.data=.seq xs n/\∃b:0<xs.size,jC sh h xs[0]/\ft h xs[0]=gL h v
theorem S5{sh:List Bool}{h:Heap}{v u:Value}(p:A.units<cLine)(k:∀b o,h.get? b=some o->s.heap.get? b=some o)(m:jC sh h v)(hw:jC sh h u):EY A s v u (ie (ft h v) (ft h u)):=λprog w E Q q=>by
 obtain⟨a,⟨y,dd,r,sl⟩,xs,n,rfl,g1,f,e,k1,v1⟩:=m;obtain⟨b,⟨t,i,db,l⟩,ys,j,rfl,g2,e3,d,k2,v2⟩:=hw;simp only at f e e3 d;subst f e e3 d;rw[v1,v2] at q;have c:=k _ _ g1;have g:=k _ _ g2;show richCompare_meets_room (op:=.Lt) ⟨_,c,rfl⟩ ⟨_,g,rfl⟩ PySem.F.slot_tuple_lt PySem.F.entry_tuple_lt (PySem.F.args_tuple_lt_2 _ _) (Rx a b xs ys n j dd i sl l k1 k2)
  ⟨c,g,show Value.bool _≠Value.notImplemented/\Q (.bool _) s from⟨(λx=>nomatch x),q⟩⟩ p
theorem me.at:∀{sh:List Bool}{xs ys:List Value},me sh xs->me sh ys->∀(j:Nat)(x y:Value),xs[j]?=some x->ys[j]?=some y->EqAt A s x y (decide (kv x=kv y))
 | [],[],_,_,_,j,x,y,e,_=>by cases e
 | [],_::_,_,h,_,_,_,_,_,_=>h.elim
 | c::_,[],_,h,_,_,_,_,_,_=>by cases c<;>show h.elim
 | c::_,_::_,[],_,h,_,_,_,_,_=>by cases c<;>show h.elim
 | c::sh,p::xs,q::ys,f,d,j,x,y,i,g=>by
  cases c with
  | true=>
   cases p<;>first | show f.elim | skip
   cases q<;>first | show d.elim | skip
   cases j with
   | zero=>
    cases i;cases g;intro prog w E Q q;show wpAny_eqBool_str ?_;simpa[kv] using q
   | succ j=>show me.at (sh:=sh) (xs:=xs) (ys:=ys) f d j x y i g
  | false=>
   cases p<;>first | show f.elim | skip
   cases q<;>first | show d.elim | skip
   cases j with
   | zero=>
    cases i;cases g;intro prog w E Q q;show wpAny_eqBool_int ?_;rename_i a _ b _;have:(a==b)=decide (a=b):=by by_cases z:a=b<;>simp[z]
    rw[this];simpa[kv] using q
   | succ j=>show me.at (sh:=sh) (xs:=xs) (ys:=ys) f d j x y i g
theorem S4{sh:List Bool}{h:Heap}{v u:Value}(r:A.units<cLine)(k:∀b o,h.get? b=some o->s.heap.get? b=some o)(q:jC sh h v)(hw:jC sh h u)(f:ft h v≠ft h u):EqAt A s v u false:=by
 obtain⟨a,g,xs,n,rfl,g1,x,w,k1,v1⟩:=q;obtain⟨b,ob,ys,y,rfl,g2,e3,t,k2,v2⟩:=hw;have l:a≠b:=λz=>f (by rw[z])
 have R:=RcAt.tuples (A:=A) (s:=s) (items:=xs) (items2:=ys) (e:=λj=>decide (kv (xs.getD j .none)=kv (ys.getD j .none))) ⟨g,k _ _ g1,x,_,w⟩ ⟨ob,k _ _ g2,e3,_,t⟩ r λj d c=>by
  have a1:xs.getD j .none=xs[j]:=by simp[Array.getD,d]
  have a2:ys.getD j .none=ys[j]:=by simp[Array.getD,c]
  show EqAt A.in1 s xs[j] ys[j] (decide (kv (xs.getD j .none)=kv (ys.getD j .none)));rw[a1,a2];show me.at k1 k2 j _ _ (by rw[Array.getElem?_toList];show bJ d) (by rw[Array.getElem?_toList];show bJ c)
 have p:=k1.len;have m:=k2.len;rw[aO] at p m;have e:((List.range (min xs.size ys.size)).all (λj=>decide (kv (xs.getD j .none)=kv (ys.getD j .none)))&&xs.size==ys.size)=false:=by
  rw[Bool.eq_false_iff];intro z;rw[aT,aM] at z;show f ?_;rw[v1,v2];apply List.ext_getElem
  .simp only[ae,aO];ext
  intro i d c;simp only[ae,aO] at d c;have:=z.1 i (List.mem_range.mpr (by ext));simp only[br] at this;simpa[Array.getD,d,c] using this
 rw[e] at R;show EqAt.of_refs l R
theorem sZ{sh:List Bool}{h h':Heap}{its:List Value}(S:A.units+8<cLine)(k:∀b o,h.get? b=some o->h'.get? b=some o)(g:∀v∈its,we sh h v)(hd:∀v∈its,∀u∈its,gL h v=gL h u->v=u):Ask prog w A E its (λx=>ml ie (its.map (gL h)) (gL h x.1)) { s with heap:=h' }:=by
 show⟨λO=>⟨oneType',λW q=>?_,⟨λx y Q H G q=>?_⟩⟩⟩
 .refine kas_kind (s:={ s with heap:=h' }) (T:=.type "list") O (λv hm=>?_) (by decide +kernel) (by decide +kernel) q;obtain⟨a,o,xs,n,rfl,g1,r,_⟩:=g v hm;rw[<-r];show(Looks.ld (k _ _ g1)).andThen .now
 have f:=Dq H;have i:=Dq G;rw[<-EZ fD (List.mem_map_of_mem f)] at q;have K:=g _ f;have J:=g _ i;have P:=hd _ f _ i;generalize x.1=v at *;generalize y.1=u at *;obtain⟨a,⟨r,dd,U,sl⟩,xs,n,rfl,g1,p,m,N,B,t⟩:=K;obtain⟨b,⟨V,D,db,L⟩,ys,I,rfl,g2,e3,l,M,C,z⟩:=J;simp only at p m e3 l;subst p m e3 l;rw[keyLt'_oneType,oneLt'_eq];simp only[bP];show aa (wpAny_cRoomFor (by ext) ?_);have d:=k _ _ g1;have R:=k _ _ g2;have fin:∀c,c=ie (gL h (.ref a)) (gL h (.ref b))->Q c { s with heap:=h' }:=λc e=>e▸q
 by_cases j:gL h (.ref a)=gL h (.ref b)
 .have:=P j;cases this;show aa (wpAny_callSpecialIfBound?_slot (T:="list") ⟨_,d,rfl⟩ PySem.F.slot_list_lt (call_meets PySem.F.slot_list_lt ⟨_,d,rfl⟩ PySem.F.entry_list_lt (PySem.F.args_list_lt_2 _ _) (WK a xs n dd sl) ⟨d,?_⟩));show bK (fin _ (fD.ir _).symm)
 show aa (wpAny_callSpecialIfBound?_slot (T:="list") ⟨_,d,rfl⟩ PySem.F.slot_list_lt (call_meets PySem.F.slot_list_lt ⟨_,d,rfl⟩ PySem.F.entry_list_lt (PySem.F.args_list_lt_2 _ _) (WC a b xs ys n I dd D sl L N M (ie (ft h xs[0]) (ft h ys[0])))
  ⟨d,R,S4 (by show A.units+1<cLine;ext) k B C (by rw[t,z];show j),S5 (by show A.units+1<cLine;ext) k B C,?_⟩))
 show bK (fin _ (by rw[t,z]))
end
end Ts
namespace L2
open PySem PySem.Spec PyProof.Rows
noncomputable abbrev EK:=List Key
noncomputable def de(p:EK):D:=.tup (p.map pB)
noncomputable def tR(p:EK):List Bool:=p.map Sum.isRight
section
variable{X:Cx}
def FK(X:Cx)(a:Heap->Value->EK)(C:Hp->List (V×EK)->Prop):Prop:=∀{c:List (Addr×Obj)}{s:Shared}{σ:St}{H:Hp}(I:Inv X c σ H s){ps:List (V×EK)}{its:List Value},C H ps->Vals (ps.map (·.1)) its->
 (∀z∈ps.zip its,a s.heap z.2=z.1.2)/\∀h',(∀b o,s.heap.get? b=some o->h'.get? b=some o)->Ts.Ask X.prog X.w X.A.in1.in1 X.xe its (λx=>Ts.ml Ts.ie (its.map (a s.heap)) (a s.heap x.1)) { s with heap:=h' }
def CF(K:J')(C:Hp->List (V×EK)->Prop):List V->Hp->VK->Prop:=λxs H Q=>∃(p:Addr)(ps:List (V×EK)),xs=[.ref p]/\eP K H p (ps.map (·.1))/\C H ps/\(2<=ps.length->Ts.i4 ps.length)/\
  ∀a:List (V×EK),a.Perm ps->a.Pairwise (λx y=>Ts.ie y.2 x.2=false)->∀l,H l=none->Q (.ref l) (upd H l (.lst (a.map (·.1))))
theorem Na{g:Heap->Value->EK}{C:Hp->List (V×EK)->Prop}(W:FK X g C):dD X (.builtin "sorted") (CF X.K C):=by
 intro K' s σ H xs us Q I r h;obtain⟨p,ps,rfl,T,U,S,q⟩:=h;obtain⟨u,rfl,M⟩:=mV r;cases M;obtain⟨its,t,N,hz⟩:=I.list T;obtain⟨kk,ask⟩:=W I U t;have v:ps.length=its.length:=by rw[<-t.length,ae]
 obtain⟨d,m⟩:∃d,d=ps.zip its:=⟨_,rfl⟩
 have y:ps=d.map (·.1):=by rw[m];show(List.map_fst_zip (by ext)).symm
 have j:its=d.map (·.2):=by rw[m];show(List.map_snd_zip (by ext)).symm
 have rel:∀z∈d,RelV z.1.1 z.2:=λz hz=>by
  obtain⟨i,E⟩:=aQ hz;have c:(ps.map (·.1))[i]?=some z.1.1:=by rw[y];simp[E]
  obtain⟨v',F,L⟩:=t.get c;have k:its[i]?=some z.2:=by rw[j];simp[E]
  rw[k] at F;cases F;show L
 rw[<-m] at kk;show Ts.r8 (rk:=λx=>Ts.ml Ts.ie (its.map (g s.heap)) (g s.heap x.1)) N.isList (by rw[<-v,<-ae (f:=(·.1))];show hz) (λk=>by rw[<-v];show S (by ext)) ask λw D l=>?_
 have Y:(PyProof.Rows.pairsOf its).toList=d.map λz=>((z.2,z.2):Keyed):=by
  unfold PyProof.Rows.pairsOf;rw[j];simp only[List.zip_toArray];clear m y j rel kk D l;induction d with
  | nil=>rfl
  | cons a r B=>simp at B ⊢;show B
 obtain⟨n,c,k⟩:=ML (D.trans (List.Perm.of_eq Y)) rfl;have Hw:∀z∈n,RelV z.1.1 z.2:=λz hz=>rel z (c.subset hz)
 have out:((arrOf w).map (·.2)).toList=n.map (·.2):=by
  rw[Array.toList_map,k,ay];rfl
 obtain⟨Z,he⟩:=sortedAll_at s.heap its ((arrOf w).map (·.2));have hf:H (s.heap.objs.size+1)=none:=I.cN.fresh (Nat.le_succ _)
 have A:=q (n.map (·.1)) (by rw[y];show c.map _) (by
  rw[List.pairwise_map];unfold Ts.xV at l;rw[k,List.pairwise_map] at l;show l.imp_of_mem λ{a b} ha hb O=>?_
  have J:=kk a (c.subset ha);have G:=kk b (c.subset hb);rw[<-J,<-G];have R:g s.heap a.2∈its.map (g s.heap):=List.mem_map_of_mem (by rw[j];show List.mem_map_of_mem (c.subset ha));have P:g s.heap b.2∈its.map (g s.heap):=List.mem_map_of_mem (by rw[j];show List.mem_map_of_mem (c.subset hb))
  show Ts.AH Ts.fD R P (by simp only at O;ext)) _ hf
 rw[ay] at A;show⟨.ref (s.heap.objs.size+1),_,I.laid (a:=s.heap.objs.size+1) (o:=.lst (n.map ((·.1)∘(·.1)))) (t':=s.toks) (λb o e=>sortedAll_old e) (Nat.le_succ _) ?_,rfl,A⟩;have el:d.length=its.length:=by rw[j,ae]
 show⟨by rw[ae,c.length_eq,el,<-v,<-ae (f:=(·.1))];show hz,((arrOf w).map (·.2)).toList,Z,?_,?_⟩
 .rw[out];show Lo Hw
 rw[Array.toArray_toList];show he
theorem MY:∀{p:EK}{its:List Value},Vals (p.map kV) its->Ts.me (tR p) its/\its.map Ts.kv=p
 | [],[],_=>⟨trivial,rfl⟩
 | [],_::_,r=>by cases r
 | k::p,_,r=>by
  cases r with
  | cons a b=>
   obtain⟨d,c⟩:=MY b;cases k with
   | inl i=>
    obtain⟨t,rfl⟩:=a;show⟨d,by rw[ao,c];rfl⟩
   | inr x=>
    obtain⟨t,rfl⟩:=a;show⟨d,by rw[ao,c];rfl⟩
theorem Kb{m:List (Addr×Obj)}{s:Shared}{f:St}{H:Hp}(I:Inv X m f H s){v:V}{u:Value}{e:EK}(h:∃b,v=.ref b/\fk X.K H b (e.map kV))(r:RelV v u):Ts.jC (tR e) s.heap u/\Ts.ft s.heap u=e:=by
 obtain⟨b,rfl,sq⟩:=h;cases r;obtain⟨i1,v1,g,_⟩:=I.tuple sq;obtain⟨i,g1,l,j,d⟩:=g;obtain⟨k,a⟩:=MY v1;have c:Ts.ft s.heap (.ref b)=e:=by
  unfold Ts.ft;simp only[g1,d];simpa using a
 show⟨⟨b,i,_,j,rfl,g1,l,d,by simpa using k,by rw[c];simpa using a.symm⟩,c⟩
def OK(K:J')(c:Bool)(sh:List Bool):Hp->List (V×EK)->Prop:=λH ps=>∀q∈ps,tR q.2=c::sh/\∃b,q.1=.ref b/\fk K H b (q.2.map kV)
theorem Rw{c:Bool}{sh:List Bool}:FK X Ts.ft (OK X.K c sh):=λ{h s σ H} I {ps its} e r=>by
 have d:ps.length=its.length:=by rw[<-r.length,ae]
 have at_:∀z∈ps.zip its,Ts.jC (c::sh) s.heap z.2/\Ts.ft s.heap z.2=z.1.2:=λz hz=>by
  obtain⟨g,f⟩:=e _ (List.of_mem_zip hz).1;rw[<-g];show Kb I f (FU r z hz)
 show⟨λz hz=>(at_ z hz).2,λh' k=>Ts.tf (c:=c) (sh:=sh) k λv b=>?_⟩;obtain⟨a,ha⟩:=GG d v b;show(at_ _ ha).1
def EW(C:Nat->Prop):e8:=λds Q=>∃(c:Bool)(sh:List Bool)(ps:List EK),ds=[.lst (ps.map de)]/\(∀p∈ps,tR p=c::sh)/\C ps.length/\∀a:List EK,a.Perm ps->a.Pairwise (λx y=>Ts.ie y x=false)->Q (.ow (a.map de))
theorem Mi{K:J'}{G:Hp}:∀{xs:List V}{p:EK},bX K G xs (p.map pB)->xs=p.map kV
 | [],[],_=>rfl
 | v::xs,k::p,r=>by
  rw[ao] at r;simp only[bX] at r;rw[ao,<-Mi r.2];have a:=r.1;cases k<;>(simp only[pB,Rep] at a;rw[a];rfl)
 | [],_::_,r=>by rw[ao] at r;simp only[bX] at r
 | _::_,[],r=>by rw[bL] at r;simp only[bX] at r
theorem EV{K:J'}{G:Hp}{v:V}{p:EK}(r:Rep K G v (de p)):∃b,v=.ref b/\G b=some (.tup (p.map kV)):=by
 unfold de at r;simp only[Rep] at r;obtain⟨a,ys,rfl,sq,c⟩:=r;show⟨a,rfl,by rw[<-Mi c];show sq⟩
theorem Mh{K:J'}{G:Hp}:∀{xs:List V}{ps:List EK},bX K G xs (ps.map de)->xs.length=ps.length/\∀q∈xs.zip ps,Rep K G q.1 (de q.2)
 | [],[],_=>⟨rfl,λq a=>by cases a⟩
 | v::xs,p::ps,r=>by
  rw[ao] at r;simp only[bX] at r;obtain⟨c,b⟩:=Mh r.2;show⟨by simp[c],λq a=>?_⟩;rw[List.zip_cons_cons] at a;rcases az.mp a with rfl | a
  .exact r.1
  show b q a
 | [],_::_,r=>by rw[ao] at r;simp only[bX] at r
 | _::_,[],r=>by rw[bL] at r;simp only[bX] at r
theorem Rv{C:Nat->Prop}(o:∀n,2<=n->C n->Ts.i4 n)(_:X.calm=true):tH X (.builtin "sorted") (EW C):=by
 show⟨λxs H Q=>∃c sh,CF X.K (OK X.K c sh) xs H Q,λA s σ H xs us Q I r y=>by obtain⟨c,sh,h⟩:=y;show Na Rw A s σ H xs us Q I r h,λG H B ds Q P s rs h k=>?_⟩;obtain⟨c,sh,ps,rfl,j,m,q⟩:=h;obtain⟨v,rfl,f⟩:=mh rs;simp only[Rep] at f;obtain⟨a,xs,rfl,t,p⟩:=f;obtain⟨D,hz⟩:=Mh p;have x:(xs.zip ps).map (·.1)=xs:=List.map_fst_zip (by ext);have w:(xs.zip ps).map (·.2)=ps:=List.map_snd_zip (by ext);have u:(xs.zip ps).length=ps.length:=by rw[List.length_zip];ext
 show⟨c,sh,a,xs.zip ps,rfl,by rw[x];show(s.fZ t).sq,λz d=>⟨j _ (List.of_mem_zip d).2,?_⟩,λh=>by rw[u] at h ⊢;show o _ h m,λg i l=>?_⟩
 .obtain⟨b,e,sq⟩:=EV (hz z d);show⟨b,e,s.ny (fk.of sq)⟩
 show CS s (ds:=(g.map (·.2)).map de) ?_ (q (g.map (·.2)) ((i.map _).trans (List.Perm.of_eq w)) (by rw[List.pairwise_map];show l)) k;rw[ay];show LA λq d=>hz q (i.subset d)
end
section
variable{X:Cx}
def Em(K:J')(sh:List Bool):Hp->List (V×EK)->Prop:=λH ps=>(ps.map (·.2)).Nodup/\∀q∈ps,tR q.2=sh/\∃b c xs,q.1=.ref b/\eP K H b (.ref c::xs)/\fk K H c (q.2.map kV)
theorem S3{sh:List Bool}(O:X.A.units+64<cLine):FK X Ts.gL (Em X.K sh):=λ{P s σ H} I {ps its} x r=>by
 have q:ps.length=its.length:=by rw[<-r.length,ae]
 have at_:∀z∈ps.zip its,Ts.we sh s.heap z.2/\Ts.gL s.heap z.2=z.1.2:=λz hz=>by
  obtain⟨y,b,c,xs,e,sl,st⟩:=x.2 _ (List.of_mem_zip hz).1;have m:=FU r z hz;rw[e] at m;obtain⟨⟨N,w⟩,M⟩:=z;simp only at m st y ⊢;subst y;cases m;obtain⟨it,F,⟨o,n,g,L,_,d⟩,_⟩:=I.list sl;cases F with
  | @cons _ _ _ ys G rb=>
   obtain⟨J,B⟩:=Kb (e:=w) I ⟨c,rfl,st⟩ G;have hh:Ts.gL s.heap (.ref b)=w:=by
    unfold Ts.gL;simp only[g,d];show B
   show⟨⟨b,o,_,n,rfl,g,L,d,by simp,J,by rw[hh];show B⟩,hh⟩
 show⟨λz hz=>(at_ z hz).2,λh' k=>Ts.sZ (sh:=sh) (by show X.A.units+1+1+8<cLine;ext) k (λv p=>?_) λv p u hw e=>?_⟩
 .obtain⟨a,ha⟩:=GG q v p;show(at_ _ ha).1
 obtain⟨i,t⟩:=aQ p;obtain⟨j,f⟩:=aQ hw;have h:i<ps.length:=by rw[q];show(aj.mp t).1
 have C:j<ps.length:=by rw[q];show(aj.mp f).1
 have E:(ps[i],v)∈ps.zip its:=aw (i:=i) (by rw[List.getElem?_zip_eq_some];show⟨af h,t⟩);have D:(ps[j],u)∈ps.zip its:=aw (i:=j) (by rw[List.getElem?_zip_eq_some];show⟨af C,f⟩);rw[(at_ _ E).2,(at_ _ D).2] at e;have:i=j:=(List.getElem?_inj (l:=ps.map (·.2)) (by simpa using h) x.1).mp (by rw[ar,ar,af h,af C];show congrArg some e);subst this;rw[t] at f;show aX f
noncomputable def h9(g:List EK):EK:=g.headD []
def Dd(C:Nat->Prop)(te:TD):TD:=λc Q=>te c λr=>match r with
 | .ov (.ll d)=>∃(sh:List Bool)(a:List (List EK)),d=a.map (λg=>g.map de)/\(∀g∈a,∀e∈g,tR e=sh)/\C a.length/\(∀g∈a,g≠[])/\(a.map h9).Nodup/\
  ∀b:List (List EK),b.Perm a->b.Pairwise (λx y=>Ts.ie (h9 y) (h9 x)=false)->Q (.ov (.ll (b.map λg=>g.map de)))
 | _=>False
theorem cC.atK{K:J'}{G H:Hp}:∀{a:List Addr}{b:List (List EK)},cC K G H a (b.map λg=>g.map de)->∀z∈a.zip b,∃xs,H z.1=some (.lst xs)/\bX K G xs (z.2.map de)
 | [],[],_,z,hz=>by cases hz
 | q::a,g::b,h,z,hz=>by
  rw[ao] at h;simp only[cC] at h;rw[List.zip_cons_cons] at hz;rcases az.mp hz with rfl | hz
  .exact h.1
  show cC.atK h.2 z hz
 | [],_::_,h,_,_=>by rw[ao] at h;simp only[cC] at h
 | _::_,[],h,_,_=>by rw[bL] at h;simp only[cC] at h
theorem Mg{K:J'}{G H:Hp}:∀{L:List (Addr×List EK)},(∀z∈L,∃xs,H z.1=some (.lst xs)/\bX K G xs (z.2.map de))->cC K G H (L.map (·.1)) ((L.map (·.2)).map λg=>g.map de)
 | [],_=>by simp only[bL,cC]
 | z::L,h=>by
  simp only[ao,cC];show⟨h z aA,Mg λy a=>h y (au _ a)⟩
theorem VT{C:Nat->Prop}(U:∀n,2<=n->C n->Ts.i4 n){te:TD}{t:TE}(q:rJ X.K te t):rJ X.K (Dd C te) (DF (λxs H Q=>∃sh,CF X.K (Em X.K sh) xs H Q) (λσ H Q=>t σ H λv H1=>Q [v] H1)):=by
 intro I σ G0 H0 G H Q P E h k;show q I σ G0 H0 G H _ _ E h λv H1 r o f M a=>?_
 split at a;rotate_left
 .exact a.elim
 rename_i dF;obtain⟨sh,i,rfl,J,Z,Y,nd,a⟩:=a;obtain⟨p,fp,rfl,D,⟨w,m⟩,fr⟩:=M;have hlen:fp.length=i.length:=by have:=m.length;simpa using this
 have at_:=m.atK;have B:(fp.zip i).map (·.1)=fp:=List.map_fst_zip (by ext);have A:(fp.zip i).map (·.2)=i:=List.map_snd_zip (by ext);show⟨sh,p,(fp.zip i).map λz=>(V.ref z.1,h9 z.2),rfl,?_,⟨?_,λy R=>?_⟩,λh=>by rw[ae,List.length_zip,hlen,Nat.min_self] at h ⊢;show U _ h Z,λrp O u l d=>?_⟩
 .rw[ay];have:((λx:V×EK=>x.1)∘λz:Addr×List EK=>(V.ref z.1,h9 z.2))=V.ref∘(λz:Addr×List EK=>z.1):=rfl;rw[this,<-ay,B];show eP.of w
 .rw[ay];have:((λx:V×EK=>x.2)∘λz:Addr×List EK=>(V.ref z.1,h9 z.2))=h9∘(λz:Addr×List EK=>z.2):=rfl;rw[this,<-ay,A];show nd
 .obtain⟨z,hz,rfl⟩:=aE.mp R;obtain⟨xs,g1,g2⟩:=at_ z hz;have HN:=Y z.2 (List.of_mem_zip hz).2;cases hg:z.2 with
  | nil=>show absurd hg HN
  | cons e g=>
   rw[hg,ao] at g2;cases xs with
   | nil=>simp only[bX] at g2
   | cons y ys=>
    simp only[bX] at g2;obtain⟨c,rfl,T⟩:=EV g2.1;show⟨J _ (List.of_mem_zip hz).2 _ (by rw[hg];show aA),z.1,c,ys,rfl,eP.of g1,fk.of (f.s _ _ T)⟩
 obtain⟨b,f1,rfl⟩:=ML O rfl;have S:l≠p:=λz=>by rw[z,w] at d;cases d
 have j:(b.map (·.1)).Perm fp:=(f1.map _).trans (List.Perm.of_eq B);have F:∀q∈fp,q≠l:=λq a z=>m.here q a (by rw[z];show d)
 have L:Ext o H1 o (upd H1 l (.lst (b.map λz=>V.ref z.1))):=.own f.s d;have N:=a (b.map (·.2)) ((f1.map _).trans (List.Perm.of_eq A)) (by rw[List.pairwise_map] at u ⊢;show u);have W:((b.map λz:Addr×List EK=>(V.ref z.1,h9 z.2)).map λx:V×EK=>x.1)=b.map λz=>V.ref z.1:=by rw[ay];rfl
 rw[W];show k _ _ (.ov (.ll ((b.map (·.2)).map λg=>g.map de))) o (f.trans L) ⟨l,b.map (·.1),rfl,?_,⟨?_,?_⟩,λq a=>?_⟩ N
 .rw[bj] at D ⊢;show⟨λz=>F l (j.subset z) rfl,j.nodup_iff.mpr D.2⟩
 .rw[gX,ay];rfl
 .refine Mg λz hz=>?_
  obtain⟨xs,g1,g2⟩:=at_ z (f1.subset hz);show⟨xs,?_,g2⟩;rw[dy (F z.1 (List.of_mem_zip (f1.subset hz)).1)];show g1
 rcases az.mp a with rfl | a
 .exact⟨f.h.free d,f.s.free d⟩
 show fr q (au _ (j.subset a))
theorem VS{C:Nat->Prop}(c:∀n,2<=n->C n->Ts.i4 n){e:Expr}{te:TD}{p pos:Pos}(b:X.A.units+64<cLine)(hm:X.mg "sorted"=none)(h:PD X e te)(hg:Gl X "sorted":=by rfl)(a:starEach [e] X.env=(false,eval e X.env)::starEach [] X.env:=by rfl):PD X (.Call (.Name "sorted" p) [e] [] pos) (Dd C te):=by
 obtain⟨tt,pp,q⟩:=h;have:=vm (pos:=pos) (p:=p) (r:=λxs H Q=>∃sh,CF X.K (Em X.K sh) xs H Q) (λf s σ H xs us Q I r d=>by obtain⟨sh,h⟩:=d;show Na (S3 b) f s σ H xs us Q I r h) hg hm boot_sorted (m9 pp oM a) (he:=a);show⟨_,this,VT c q⟩
end
section
variable{X:Cx}
def yC:D->List D->(R->Prop)->Prop:=λd ds Q=>match d,ds with
 | .str x,[.str y]=>Q (.fz (.bl (Txt.startswith x y)))
 | _,_=>False
theorem S2:Ee X "str.startswith" yC:=by
 show⟨λx b H Q=>∃(z y:Str),x=.str z/\b=[.str y]/\Q (.bl (Txt.startswith z y)) H,λg s σ H x xs v us Q I a rs h=>?_,λG H x d b ds Q P s a rs h k=>?_⟩
 .obtain⟨z,y,rfl,rfl,q⟩:=h;obtain⟨t,rfl⟩:=a;obtain⟨u,rfl,e⟩:=mV rs;obtain⟨f,rfl⟩:=e;show SC.startswith ⟨.bl _,H,I,rfl,q⟩
 unfold yC at h;split at h
 .obtain⟨y,rfl,c⟩:=mh rs;simp only[Rep] at a c;subst a c;show⟨_,_,rfl,rfl,k _ _ _ G (.refl s) (f9 (ky _ _ _)) h⟩
 show h.elim
open PySem.AutoSeq1 (wpAny_loadPart') in
theorem S1(l:Addr)(items:Array Value)(n:Nat)(b:Addr)(items2:Array Value)(c:Nat)(dd a:Option Addr)(sl e:Array (Option Value))(j:¬items.isEmpty=true)(i:¬items2.isEmpty=true)(m:items.size+items2.size<=sizeLine) :
  Meets (Builtin.«tuple.__add__» ⟨[.ref l,.ref b],[]⟩) (λ_ R s=>s.heap.get? l=some { cls:=.type "tuple",dict:=dd,data:=.seq items n,slots:=sl }/\s.heap.get? b=some { cls:=.type "tuple",dict:=a,data:=.seq items2 c,slots:=e }/\R (.ok (.ret (Value.ref s.heap.objs.size))) { s with heap:=s.heap.push { cls:=.type "tuple",data:=.seq (items++items2) } }):=
 .of_wp λprog w A R s h=>by
  obtain⟨k,g,d,tk,os⟩:=s;obtain⟨f,hb,h⟩:=h;have f2:=AutoSeq1.sub_tuple_tuple;wp_walk using bB f,bB hb
  show⟨_,rfl,h⟩
def Ck:O2:=λd e Q=>match d,e with
 | .tup xs,.tup ys=>xs≠[]/\ys≠[]/\xs.length+ys.length<=sizeLine/\Q (.fz (.tup (xs++ys)))
 | _,_=>False
theorem Ra:lH X (binaryOp .Add) Ck:=by
 show⟨λx y H Q=>∃l b xs zs,x=.ref l/\y=.ref b/\fk X.K H l xs/\fk X.K H b zs/\xs≠[]/\zs≠[]/\xs.length+zs.length<=sizeLine/\∀p,H p=none->Q (.ref p) (upd H p (.tup (xs++zs))),λ{K' s σ H x y v u Q} I j i h=>?_,λG H x y d e Q P s j i h k=>?_⟩
 .obtain⟨l,b,xs,zs,rfl,rfl,Y,Z,N,M,hz,q⟩:=h;cases j;cases i;obtain⟨its,r,⟨⟨c1,dd,da,sl⟩,g1,D,k1,C⟩,z1⟩:=I.tuple Y;obtain⟨f,n,⟨⟨c2,J,db,S⟩,g2,e3,k2,B⟩,z2⟩:=I.tuple Z;simp only at D C e3 B;subst D C e3 B;have W:=r.length;have L:=n.length;have R:its≠[]:=λz=>N (List.eq_nil_of_length_eq_zero (by rw[W,z];rfl))
  have O:f≠[]:=λz=>M (List.eq_nil_of_length_eq_zero (by rw[L,z];rfl))
  show concat_meets ⟨_,g1,rfl⟩ ⟨_,g2,rfl⟩ noFill_tuple_add seq_tuple_add F.slot_tuple_add F.entry_tuple_add (F.args_tuple_add_2 _ _) (S1 l its.toArray k1 b f.toArray k2 dd J sl S (by simpa using R) (by simpa using O) (by simp;ext)) ⟨g1,g2,?_⟩;have ea:its.toArray++f.toArray=(its++f).toArray:=by simp
  rw[ea];show⟨.ref _,_,I.laid (a:=s.heap.objs.size) (o:=.tup (xs++zs)) (t':=s.toks) (λc o e=>aq _ e) (aD _) ⟨by rw[ax];show hz,its++f,r.append n,⟨_,aF _ rfl,rfl,_,rfl⟩⟩,rfl,q _ I.fresh⟩
 unfold Ck at h;split at h
 .simp only[Rep] at j i;obtain⟨a,xs,rfl,U,E⟩:=j;obtain⟨b,ys,rfl,T,t⟩:=i;have A:=E.length;have w:=t.length;show⟨a,b,xs,ys,rfl,rfl,s.ny (fk.of U),s.ny (fk.of T),λz=>h.1 (List.eq_nil_of_length_eq_zero (by rw[<-A,z];rfl)),λz=>h.2.1 (List.eq_nil_of_length_eq_zero (by rw[<-w,z];rfl)),by rw[A,w];show h.2.2.1,λp V=>?_⟩;have m:Ext G H (upd G p (.tup (xs++ys))) (upd H p (.tup (xs++ys))):=.new s V;show k _ _ (.fz (.tup _)) _ m ?_ h.2.2.2;show Rep X.K _ _ (.tup _);simp only[Rep];show⟨p,xs++ys,rfl,gX,(E.append t).mono m.g⟩
 show h.elim
end
section
variable{X:Cx}{e:Expr}{te:TD}{lo hi:Option Expr}{tl th:xT}{pos p2:Pos}
noncomputable def yj(z:Str)(lo hi:Option Int)(k:Int):Str:=⟨((Builtin.Str.strSliceIndices lo hi k z.length).filterMap (z.cps[·]?)).toArray⟩
def OR(k:Int)(te:TE)(tl th:TO):TE:=λσ H Q=>te σ H λx H1=>tl σ H1 λl b=>th σ b λu a=>∃z,x=.str z/\(yj z l u k).length<=sizeLine/\Q (.str (yj z l u k)) a
theorem UE{k:Int}{kk}{c:Pos}{te:TE}{tl th:TO}(N:k≠0)(Y:k≠1)(he:PE X e te)(M:PO X lo tl)(L:PO X hi th):PE X (.Subscript e (.Slice lo hi (some (.Constant (.int k) kk c)) p2) pos) (OR k te tl th):=by
 intro a s σ H Q I h;have O:PO X (some (.Constant (.int k) kk c)) (JZ (tC (.int k))):=Lm KC;show Subscript_ (cW (he a s σ H _ I h) λv s1 z=>?_);obtain⟨x,H1,I1,D,J⟩:=z;show wpAny_Slice (cW (M a s1 σ H1 _ I1 J) λC s2 r=>?_);obtain⟨l,W,I2,K,G⟩:=r;show cW (L a s2 σ W _ I2 G) λy s3 n=>?_
 obtain⟨u,g,I3,pu,E⟩:=n;show cW (O a s3 σ g (λo f=>o=some k/\f=g) I3 ⟨k,rfl,rfl,rfl⟩) λB s4 m=>?_
 obtain⟨Z,f,I4,ps,S,R⟩:=m;subst S R;obtain⟨z,rfl,hz,q⟩:=E;obtain⟨t,rfl⟩:=D;have V:Inv X a σ _ { s4 with heap:=s4.heap.push { cls:=.type "slice",data:=.fields #[C,y,B] } }:=I4.kept (t':=s4.toks) λb ob q=>aq _ q
 show wpAny (model X.prog X.w) X.A (subscriptTail e (.Slice lo hi (some (.Constant (.int k) kk c)) p2) (.str z t) (.ref s4.heap.objs.size)) (EP X a σ Q) X.xe _;show tail_any (ops:=[.str z t,.ref s4.heap.objs.size]) (typeIs_str _ _ _) F.slot_str_getitem.lookup ?_ (by with_unfolding_all rfl);have part:∀{u:Value}{o:Option Int},IsPart u o->∃p:Option (Int×Tok),u=partValue p/\p.map (·.1)=o:=λh=>by
  cases h with
  | none=>show⟨none,rfl,rfl⟩
  | int i t=>show⟨some (i,t),rfl,rfl⟩
 obtain⟨d,rfl,U⟩:=part K;obtain⟨p2,rfl,T⟩:=part pu;obtain⟨j,rfl,e3⟩:=part ps;show wpAny_getItem_str_slice (l:=d) (u:=p2) (st:=j) ⟨_,aF _ rfl,rfl,rfl⟩ (by rw[e3];simpa using N) ?_;unfold sliceMade;rw[e3];rw[if_neg (by simp[Y])];have P:slicePicked z d p2 j=Builtin.Str.strSliceIndices l u k z.length:=by
  unfold slicePicked;rw[U,T,e3];rfl
 rw[P];show⟨hz,⟨.str _,_,V.tok _,⟨_,rfl⟩,q⟩⟩
def El(k:Int)(te:TD)(tl th:xT):TD:=λa Q=>te a λr=>tl a λlo=>th a λhi=>match r.val with
 | .str z=>(yj z lo hi k).length<=sizeLine/\Q (.fz (.str (yj z lo hi k)))
 | _=>False
theorem UD{k:Int}{kk}{f:Pos}(he:PD X e te)(w:zi X lo tl)(hh:zi X hi th)(y:k≠0:=by decide)(I:k≠1:=by decide):PD X (.Subscript e (.Slice lo hi (some (.Constant (.int k) kk f)) p2) pos) (El k te tl th):=by
 obtain⟨t1,q,p⟩:=he;obtain⟨J,p2,o⟩:=w;obtain⟨t3,f,n⟩:=hh;show⟨_,UE y I q p2 f,λb σ i g G H Q P E h kp=>p b σ i g G H _ _ E h λv H' r L x m u=>?_⟩;obtain⟨F,c,d,_⟩:=m.freeze x;show o b σ i g F H' _ _ (E.ext c) u λlo B D j t=>?_
 show n b σ i g D B _ _ ((E.ext c).ext j) t λhi K C l a=>?_
 have s:=(c.trans j).trans l;split at a
 .rename_i z A;rw[A] at d;simp only[Rep] at d;subst d;show⟨z,rfl,a.1,kp _ _ _ C s (f9 (tM _ _ _)) a.2⟩
 show a.elim
end
end L2
namespace PySem
open Sem (wp)
section
variable{prog:Program}{w:World}{K:Type}[DecidableEq K]{knd:KeyKind prog w K}{A:Around}{R:Result->Shared->Prop}{I:Addr}{fp wr:List Addr}{G:Array GenState->Array GenState->Prop}{n:Nat}{P:Nat->Value->Prop}{St:Nat->Shared->Prop}
noncomputable abbrev rK(K:Type):=List (List K×Addr×Value)
noncomputable def bH(l:rK K):rK K:=l.foldl (λacc p=>storedH acc p.1 p.2.1 p.2.2) []
theorem Ru{kvs:rK K}{i:Nat}{k:List K}{b:Addr}{y:Value}(e:kvs[i]?=some (k,b,y)):storedH (bH (kvs.take i)) k b y=bH (kvs.take (i+1)):=by
 unfold bH;have a:kvs.take (i+1)=kvs.take i++[(k,b,y)]:=by rw[bo,e];rfl
 rw[a,List.foldl_append];rfl
theorem Wk(l:rK K)(k:List K)(b:Addr)(y:Value):(storedH l k b y).length<=l.length+1:=by
 unfold storedH;split<;>simp
theorem KG(l:rK K):(bH l).length<=l.length:=by
 have:∀(r acc:rK K),(r.foldl (λacc p=>storedH acc p.1 p.2.1 p.2.2) acc).length<=acc.length+r.length:=by
  intro r;induction r with
  | nil=>intro acc;simp
  | cons p r a=>
   intro acc;have c:=a (storedH acc p.1 p.2.1 p.2.2);have b:=Wk acc p.1 p.2.1 p.2.2;rw[List.foldl_cons,av];ext
 simpa[bH] using this l []
theorem Pf(Z:Addr->Prop)(l:rK K)(f:∀p∈l,Z p.2.1):∀x∈bH l,Z x.2.1:=by
 have:∀(r acc:rK K),(∀p∈r,Z p.2.1)->(∀p∈acc,Z p.2.1)->∀x∈r.foldl (λacc p=>storedH acc p.1 p.2.1 p.2.2) acc,Z x.2.1:=by
  intro r;induction r with
  | nil=>intro acc _ h;show h
  | cons p r d=>
   intro acc c b;rw[List.foldl_cons];show d _ (λq a=>c q (au _ a)) λq a=>?_
   unfold storedH at a;split at a
   .obtain⟨z,hz,rfl⟩:=aE.mp a;unfold putAt;split<;>show b z hz
   rcases aJ.mp a with a | a
   .exact b q a
   rw[aK] at a;subst a;show c p aA
 show this l [] f λp e=>by cases e
theorem IsTupleKey.kept{h h':Heap}{k:List K}{a:Addr}(x:IsTupleKey knd h k a)(e:∀o,h.get? a=some o->h'.get? a=some o):IsTupleKey knd h' k a:=let⟨o,its,n,b,r⟩:=x;⟨o,its,n,e o b,r⟩
theorem Heap.DictOfH.kept{h h':Heap}{d:Addr}{xs:rK K}(T:h.DictOfH (tupleKind knd) d xs)(e:∀o,h.get? d=some o->h'.get? d=some o)(m:∀x∈xs,∀o,h.get? x.2.1=some o->h'.get? x.2.1=some o):h'.DictOfH (tupleKind knd) d xs:=by
 obtain⟨o,k,l,j,i,g,f,c,b⟩:=T;show⟨o,k,l,e o j,i,g,f,λx a=>IsTupleKey.kept (c x a) (m x a),b⟩
theorem UC(O:A.units+1<cLine)(W:WalksS prog w A.in1 I fp wr G n P St)(S:Addr)(D:S∉fp)(r:Heap)(kvs:rK K)(d:kvs.length=n)(hsz:kvs.length<=sizeLine)(H:∀p∈kvs,p.2.1≠S/\p.2.1∉wr)
  (L:∀i v,P i v->∃k y b a,kvs[i]?=some (k,b,y)/\v=.ref a/\IsTupleKey knd r k b/\r.IsTuple a #[.ref b,y]/\a≠S/\a∉wr) :
  ∀(m i:Nat)(s:Shared),n-i=m->i<=n->St i s->s.heap.DictOfH (tupleKind knd) S (bH (kvs.take i))->(∀b o,b≠S->b∉wr->r.get? b=some o->s.heap.get? b=some o)->
   (∀c,Moved (S::wr) G s c->c.heap.DictOfH (tupleKind knd) S (bH kvs)->R (.ok (.ret .none)) c)->codeAny (model prog w) A (.builtin "dict.update.loop" ⟨[.ref S,.ref I,rawInt (i:Int),.none],[]⟩) R s:=by
 have E:S∉wr:=λh=>D (W.sub _ h)
 have more:∀b∈wr,b∈S::wr:=λb hb=>au _ hb
 have F:∀i,∀x∈bH (kvs.take i),x.2.1≠S/\x.2.1∉wr:=λi=>Pf (λa=>a≠S/\a∉wr) _ λp Q=>H p (List.mem_of_mem_take Q)
 intro m;induction m with
 | zero=>
  intro i s V X st T tu q;have e:i=n:=by ext
  subst e;show codeAny_builtin Nk ?_;rw[Around.under_plainId Dw _];show wpAny _ A.in1 (pyNext (.ref I) >>= _) _ _ s;show aa (W.done s _ _ st λc hm=>?_);show wpAny _ A.in1 (Builtin.Dict.addKeywords S [] >>= _) _ _ c;have f:=T.kept (h':=c.heap) (λo e=>hm.heap S _ E e) λx d o e=>hm.heap _ o (F _ x d).2 e
  rw[<-d,bI] at f;show aa (ah (ah (q c (hm.mono more) f)))
 | succ m N=>
  intro i s V X st T tu q;have B:i<n:=by ext
  show codeAny_builtin Nk ?_;rw[Around.under_plainId Dw _];show wpAny _ A.in1 (pyNext (.ref I) >>= _) _ _ s;show aa (W.item i s _ _ B st λv c hP fq hm=>?_);obtain⟨k,y,b,a,t,rfl,M,Z,Z9,C⟩:=L i v hP;obtain⟨j,g⟩:=H _ (aw t);have T':=T.kept (h':=c.heap) (λo e=>hm.heap S _ E e) λx d o e=>hm.heap _ o (F _ x d).2 e
  have Bi:IsTupleKey knd c.heap k b:=M.kept λo e=>hm.heap b o g (tu b o j g e)
  obtain⟨o,U,Y,nn,hd⟩:=Z;have u:c.heap.get? a=some o:=hm.heap a o C (tu a o Z9 C U);show wpAny _ A.in1 (holding [Value.ref a] _ >>= _) _ _ c;show aa (bC ?_);show aa (wpAny_tryCatch ?_);unfold Builtin.Dict.pairItems;show aa (wpAny_typeOf (T:="tuple") ⟨o,u,Y⟩ ?_);rw[if_pos (by decide)];show aa (wpAny_seqItems u hd ?_);show ah ?_;show wpAny _ A.in1 (holding [Value.ref b,y] (dictSet S (.ref b) y)) _ _ c;show bC (wpAny_dictSet_heap (knd:=tupleKind knd) (hsz:=by have:=KG (kvs.take i);rw[aP] at this;ext) (tupleKind_room_in1 O) Bi T' λh' f l=>?_);rw[Ru t] at f;show ah ⟨plainId_quiet Dw _,N (i+1) _ (by ext) B (W.frame _ c _ _ fq (Nat.le_add_right _ _) λb hb o e=>?_) f (λb o j g e=>?_) λs2 J T3=>?_⟩
  .rw[l.2 b (λz:b=S=>D (by rw[<-z];show hb))];show e
  .show h'.get? b=some o;rw[l.2 b j];show hm.heap b o g (tu b o j g e)
  show q s2 (Moved.trans W.gtrans ((hm.mono more).then_heap (Nat.le_add_right _ _) λb o hb e=>?_) J) T3;rw[l.2 b (λz:b=S=>hb (by rw[z];show aA))];show e
end
section
variable{prog:Program}{w:World}{K:Type}[DecidableEq K]{knd:KeyKind prog w K}{A:Around}{E:Value->Shared->Prop}{s:Shared}
theorem Wj{l:Addr}{items:List Value}{kvs:rK K}{Q:Value->Shared->Prop}(hu:A.units+8<cLine)(hh:A.handled=none)(U:∃o n,s.heap.get? l=some o/\o.cls=.type "list"/\o.dict=none/\o.data=.seq items.toArray n)(d:kvs.length=items.length)(hsz:kvs.length<=sizeLine)
  (C:∀(i:Nat)(v:Value),items[i]?=some v->∃k y b a,kvs[i]?=some (k,b,y)/\v=.ref a/\IsTupleKey knd s.heap k b/\s.heap.IsTuple a #[.ref b,y])
  (h:∀h' tk,h'.DictOfH (tupleKind knd) s.heap.objs.size (bH kvs)->(∀b o,s.heap.get? b=some o->h'.get? b=some o)->Q (.ref s.heap.objs.size) { s with heap:=h',toks:=tk }) :
  wpAny (model prog w) A (call (.type "dict") [.ref l]) Q E s:=by
 obtain⟨ol,nl,N,u,Z2,z⟩:=U;show callType_codes (Q₁:=λobj I=>obj=.ref s.heap.objs.size/\I={ s with heap:=s.heap.push { cls:=.type "dict",data:=.dict #[] } }) F.kt_called_dict (F.kt_typeCall_dict_1 _) F.entry_dict_init (kt_code_dict_new _ ⟨rfl,rfl⟩) ?_;rintro obj I ⟨rfl,rfl⟩;have q:(s.heap.push { cls:=.type "dict",data:=.dict #[] }).DictOfH (tupleKind knd) s.heap.objs.size []:=Heap.DictOfH.new s.heap;show⟨q.typeIs,F.args_dict_init_2 _ _,?_⟩;have m:(s.heap.push { cls:=.type "dict",data:=.dict #[] }).get? l=some ol:=aq _ N;unfold Builtin.«dict.__init__»;show aa ?_;unfold Builtin.Dict.selfAndRest;show aa (wpAny_notOrdered_dict q.typeIs ?_);show wpAny _ _ (pure (s.heap.objs.size,[Value.ref l])) _ _ _;show ah ?_;show wpAny _ _ (Builtin.Dict.updateFrom "dict.__init__" s.heap.objs.size (.ref l) [] .none) _ _ _;unfold Builtin.Dict.updateFrom;show aa (wpAny_typeOf (T:="list") ⟨_,m,u⟩ ?_);rw[if_pos (by decide)];show aa (X6 m u z Z2 WE (by decide) (by simpa using hh) ?_);intro h' tk e ne;simp only[Option.isNone_none,bP];show aa (wpAny_rule ?_);have kp:∀b o,(s.heap.push { cls:=.type "dict",data:=.dict #[] }).get? b=some o->h'.get? b=some o:=ne.keeps
 have B:h'.IsList l items.toArray:=⟨_,kp _ _ m,u,nl,z⟩
 have J:h'.DictOfH (tupleKind knd) s.heap.objs.size []:=q.kept (λo e=>kp _ _ e) λx d=>by cases d
 have M:l<s.heap.objs.size:=aI N;have j:s.heap.objs.size<h'.objs.size:=by
  obtain⟨o,es,ep,f,r⟩:=J;show aI f
 have L:∀{c},(∃o,s.heap.get? c=some o)->c≠s.heap.objs.size/\c∉[h'.objs.size]:=λ⟨o,g⟩=>by
  have:=aI g;rw[aK];show⟨aW this,aW (Nat.lt_trans this j)⟩
 show aa (wpAny_pyIter_list B (ah ⟨plainId_quiet Dw _,?_⟩));have Im:l≠h'.objs.size:=aW (Nat.lt_trans M j);have D8:s.heap.objs.size∉[h'.objs.size,l]:=by
  simp only[az,bV,or_false,not_or];show⟨aW j,Nat.ne_of_gt M⟩
 have ZO:A.in1.in1.handled=none:=by simpa using hh
 show UC (by show A.units+1+1<cLine;ext) ((Walks.list ZO _ l Im items.toArray).toS) s.heap.objs.size D8 s.heap kvs (by simpa using d) hsz (λp S=>?_) (λi v D=>?_) (items.toArray.size-0) 0 _ rfl (a9 _)
  ⟨⟨_,aF _ rfl,rfl,rfl⟩,(B.push _)⟩ (J.kept (λo e=>aq _ e) λx d=>by cases d) (λb o V Bx e=>aq _ (kp _ _ (aq _ e))) ?_
 .obtain⟨i,G⟩:=aQ S;have P:i<items.length:=by rw[<-d];show(aj.mp G).1
  obtain⟨k,y,b,a,f,_,⟨o,_,_,g,_⟩,_⟩:=C i _ (af P);rw[G] at f;cases f;show L ⟨o,g⟩
 .rw[List.getElem?_toArray] at D;obtain⟨k,y,b,a,f,t,W,H⟩:=C i v D;have ha:=L (c:=a) (let⟨o,g,_⟩:=H;⟨o,g⟩);show⟨k,y,b,a,f,t,W,H,ha.1,ha.2⟩
 intro R hm T;obtain⟨t,g',d',DD,O⟩:=R;have Y:g'=s.gens:=hm.gens;have Z:d'=s.drawn:=hm.drawn;have X:O=s.os:=hm.os;subst Y Z X;show⟨rfl,h t DD T λb o e=>?_⟩;have hb:b<s.heap.objs.size:=aI e;show hm.heap b o ?_ (aq _ (kp _ _ (aq _ e)));simp only[az,bV,or_false,not_or];show⟨aW hb,aW (Nat.lt_trans hb j)⟩
end
end PySem
namespace L2
open PySem PySem.Spec PyProof.Rows
noncomputable abbrev TQ:=Addr×Addr×List Key×V
noncomputable def yB(a:List TQ):List (List Key×V):=a.foldl (λacc t=>qX acc t.2.2.1 t.2.2.2) []
noncomputable def FJ(ps:List (EK×D)):List (List Key×D):=ps.foldl (λacc p=>ug acc p.1 p.2) []
section
variable{X:Cx}
theorem KR{E:List (Addr×Obj)}{s:Shared}{j:St}{H G:Hp}(I:Inv X E j H s)(g:cw G H):∀{d:List TQ}{its:List Value},(∀t∈d,fk X.K H t.1 [.ref t.2.1,t.2.2.2]/\G t.2.1=some (.tup (t.2.2.1.map kV)))->Vals (d.map λt=>V.ref t.1) its->
  ∃kvs:rK Key,kvs.length=its.length/\(∀(i:Nat)(v:Value),its[i]?=some v->∃k y b a,kvs[i]?=some (k,b,y)/\v=.ref a/\IsTupleKey (nc X.prog X.w) s.heap k b/\s.heap.IsTuple a #[.ref b,y])/\
   ∀f c,KT G f c->KT G (d.foldl (λacc t=>qX acc t.2.2.1 t.2.2.2) f) (kvs.foldl (λacc p=>storedH acc p.1 p.2.1 p.2.2) c)
 | [],its,_,r=>by
  cases r;show⟨[],rfl,λi v e=>(by cases e),λf c h=>h⟩
 | t::d,_,h,r=>by
  cases r with
  | @cons _ u _ us a rs=>
   obtain⟨kvs,D,C,B⟩:=KR I g (λx z=>h x (au _ z)) rs;obtain⟨st,hb⟩:=h t aA;obtain⟨i1,v1,q,_⟩:=I.tuple st;obtain⟨m,l,rfl,o,n⟩:=yk v1;cases (show u=Value.ref t.1 from a);cases (show m=Value.ref t.2.1 from o);show⟨(t.2.2.1,t.2.1,l)::kvs,by rw[av,av,D],λi v e=>?_,λf c A=>?_⟩
   .cases i with
    | zero=>
     cases e;show⟨_,_,_,_,rfl,rfl,wK I.cN (g _ _ hb),q⟩
    | succ i=>show C i v e
   rw[List.foldl_cons,List.foldl_cons];show B _ _ (A.put t.2.2.1 hb n)
theorem KT.AV{G:Hp}:∀{ks:List (List Key×V)}{xs:List (List Key×Addr×Value)},KT G ks xs->cZ G ks (xs.map λx=>x.2.1):=by
 intro ks xs r;induction r with
 | nil=>trivial
 | cons h t a=>show⟨h.2.1,a⟩
def Q9(K:J'):List V->Hp->VK->Prop:=λb H Q=>∃(l:Addr)(a:List TQ)(G:Hp),b=[V.ref l]/\cw G H/\eP K H l (a.map λt=>V.ref t.1)/\(∀t∈a,fk K H t.1 [.ref t.2.1,t.2.2.2]/\G t.2.1=some (.tup (t.2.2.1.map kV)))/\
 ∀p,H p=none->∀bs:List Addr×Nat,cZ G (yB a) bs.1->Q (.ref p) (upd H p (.dT (yB a) bs))
theorem VR(y:X.calm=true)(P:X.A.units+64<cLine):dD X (.type "dict") (Q9 X.K):=by
 intro R s σ H xs us Q I r h;obtain⟨l,c,G,rfl,f,v,ht,q⟩:=h;obtain⟨u,rfl,j⟩:=mV r;cases j;obtain⟨its,g,k,hz⟩:=I.list v;obtain⟨kvs,hlen,p,fold⟩:=KR I f ht g;obtain⟨o,n,E,D,C,B⟩:=k;have d:kvs.length<=sizeLine:=by rw[hlen,<-g.length];show hz
 have kt:KT G (yB c) (bH kvs):=fold [] [] .nil;show Wj (knd:=nc X.prog X.w) (kvs:=kvs) (items:=its) (by ext) (I.ok.hd y) ⟨o,n,E,D,C,B⟩ hlen d p λh' tk dd kp=>?_
 have hf:H s.heap.objs.size=none:=I.cN.fresh (aD _);obtain⟨m,F,i,O,N,M,L,_,J⟩:=dd;have t:(yB c).length=(bH kvs).length:=Paired.length kt;show⟨.ref s.heap.objs.size,_,I.laid (a:=s.heap.objs.size) (o:=.dT (yB c) ((bH kvs).map λx=>x.2.1,i)) (t':=tk) kp (aD _) ⟨by rw[t];show aR (KG kvs) d,beq_eq_false_iff_ne.mpr (Ne.symm (aW I.big)),bH kvs,rfl,kt.keeps λb ys e=>?_,m,F,i,O,N,M,L,J,rfl⟩,rfl,q _ hf _ kt.AV⟩;have:=f _ _ e;rw[dy (λz=>by rw[z,hf] at this;cases this)];show this
def EU:e8:=λds Q=>∃ps:List (EK×D),ds=[.lst (ps.map λp=>.tup [de p.1,p.2])]/\Q (.ov (.dq (FJ ps)))
theorem KQ{K:J'}{G:Hp}:∀{xs:List V}{ps:List (EK×D)},bX K G xs (ps.map λp=>.tup [de p.1,p.2])->∃c:List TQ,xs=c.map (λt=>V.ref t.1)/\(∀t∈c,G t.1=some (.tup [.ref t.2.1,t.2.2.2])/\G t.2.1=some (.tup (t.2.2.1.map kV)))/\
  ∀e d,cy K G e d->cy K G (c.foldl (λacc t=>qX acc t.2.2.1 t.2.2.2) e) (ps.foldl (λacc p=>ug acc p.1 p.2) d)
 | [],[],_=>⟨[],rfl,λt ht=>(by cases ht),λe d h=>h⟩
 | v::xs,p::ps,r=>by
  rw[ao] at r;simp only[bX] at r;obtain⟨c,rfl,l,k⟩:=KQ r.2;have f:=r.1;simp only[Rep] at f;obtain⟨a,ys,rfl,ha,i⟩:=f;obtain⟨y,z,rfl,m,g⟩:=Ct i;obtain⟨b,rfl,hb⟩:=EV m;show⟨(a,b,p.1,z)::c,rfl,λt ht=>?_,λe d j=>?_⟩
  .rcases az.mp ht with rfl | ht
   .exact⟨ha,hb⟩
   show l t ht
  rw[List.foldl_cons,List.foldl_cons];show k _ _ (j.put g)
 | [],_::_,r=>by rw[ao] at r;simp only[bX] at r
 | _::_,[],r=>by rw[bL] at r;simp only[bX] at r
theorem Rt(j:X.calm=true)(g:X.A.units+64<cLine):tH X (.type "dict") EU:=by
 show⟨_,VR j g,λG H o ds Q P s rs h k=>?_⟩;obtain⟨ps,rfl,q⟩:=h;obtain⟨v,rfl,d⟩:=mh rs;simp only[Rep] at d;obtain⟨a,xs,rfl,n,m⟩:=d;obtain⟨c,rfl,f,l⟩:=KQ m;show⟨a,c,G,rfl,s,(s.fZ n).sq,λt ht=>⟨s.ny (fk.of (f t ht).1),(f t ht).2⟩,λp b bs i=>?_⟩;show k _ _ (.ov (.dq (FJ ps))) G (.own s b) ⟨p,[],rfl,by simp,⟨rfl,yB c,bs,gX,i,l [] [] (by simp only[cy])⟩,λq e=>?_⟩ q;simp only[aK] at e;subst e;show⟨b,s.free b⟩
end
section
variable{M:Model}{A:Around}{E:Value->Shared->Prop}{s:Shared}{B:Heap}{env:Env}{outer l:List Env}{L e:Addr}{cls a0 fl:Value}{Q:Unit->Shared->Prop}
theorem UB{x:Value}(a env:Env)(h:a.frame=env.frame):noteFrame x a=noteFrame x env:=by
 unfold noteFrame PySem.frameOf;rw[h]
theorem Mf(n:A.frames=some (env::outer))(c:env.frame=some L)(st:B.StaysIn s.heap)(new:B.get? e=none)(j:s.heap.FunFrames B (env::outer))(tr:s.heap.TracedAtW B e cls a0 fl)
  (k:∀h',Heap.HeldW B (env::outer) e cls a0 L h'->s.heap.UpToSlots h'->Q () { s with heap:=h' }):wpAny M A (noteFrame (.ref e) env) Q E s:=by
 by_cases l:fl=rawInt L
 .subst l;show wpAny_noteFrame_againW c tr (k s.heap ⟨st,new,j,tr⟩ (Heap.UpToSlots.refl _))
 obtain⟨w,t,T,x,u,he,⟨rfl,h0⟩,hd,i,hn,m,d,a,h⟩:=tr;unfold noteFrame;simp only[c];show aa (bQ he hd i ?_);rw[if_pos (show(Value.ref T != Value.none)=true from by simp)];show aa (bQ d a h ?_);rw[if_neg (show ¬((fl==rawInt L)=true) from by simpa using l)];obtain⟨v,g,f⟩:=KU d a 3 .none;show aa (wpAny_setField d a (Array.getElem?_eq_some_iff.mp h).1 ?_);show wpAny_entryW n (Kc f j) c ((g e (Ne.symm m)).trans he) (λb o q=>?_) new hd (Array.getElem?_eq_some_iff.mp i).1 h0 λh' r=>?_
 .exact(g b λz=>by rw[z,hn] at q;cases q).trans (st b o q)
 obtain⟨k1,k2,k3,p⟩:=r;show k h' ⟨k1,new,k2,k3⟩ (f.trans p)
theorem VQ(b:A.frames=some (env::outer))(c:env.frame=some L)(st:B.StaysIn s.heap)(new:B.get? e=none)(f:s.heap.FunFrames B (env::outer))(tr:s.heap.TracedAtW B e cls a0 fl)
  (k:∀h',Heap.FlyingW B outer e cls a0 h'->s.heap.UpToSlots h'->Q () { s with heap:=h' }):wpAny M A (leaving env (.ref e)) Q E s:=
 aa (Mf b c st new f tr λh' hh u=>wpAny_landsW hh λd f2 a=>k d ⟨f2.1,f2.2.1,f2.2.2.1.2.2,f2.2.2.2⟩ (u.trans a))
theorem S0{α:Type}{n:α->Shared->Prop}{p:String}{a:Env}(st:B.StaysIn s.heap)(C:s.heap.FunFrames B l)(tr:s.heap.TracedAtW B e cls a0 fl)
  (k:∀h' u,B.StaysIn h'->h'.FunFrames B l->h'.TracedAtW B e cls a0 u->s.heap.UpToSlots h'->E (.ref e) { s with heap:=h' }):wpAny M A (PySem.passOn p (.ref e) a:Sem α) n E s:=by
 obtain⟨w,r,T,D,t,he,x,hd,d,hn,h,m,c,y⟩:=tr;have g:3<t.size:=(Array.getElem?_eq_some_iff.mp y).1;unfold PySem.passOn;show aa (bQ he hd d ?_);rw[if_neg (show ¬((Value.ref T==Value.none)=true) from by simp)];obtain⟨v,j,i⟩:=KU m c 3 (a.frame.elim Value.none λf=>rawInt f);have fin:E (.ref e) { s with heap:=s.heap.update T (Obj.mapFields (·.setIfInBounds 3 (a.frame.elim Value.none λf=>rawInt f))) }:=
  k _ (a.frame.elim Value.none λf=>rawInt f) (λb o q=>(j b λz=>by rw[z,hn] at q;cases q).trans (st b o q)) (Kc i C) ⟨w,r,T,_,_,(j e (Ne.symm h)).trans he,x,hd,d,hn,h,v,Obj.data_mapFields c _,by simp[g]⟩ i
 have step:wpAny M A (setFlight (.ref e) a.frame >>= λ_=>(throw (.ref e):Sem α)) n E s:=by
  unfold setFlight;show aa (aa (bQ he hd d ?_));rw[if_pos (show(Value.ref T != Value.none)=true from by simp)];show wpAny_setField m c g (wpAny_throw fin)
 show step
end
theorem KP{h h' B e:Heap}(d:∀b,B.get? b=none->e.get? b=none):∀{l:List Env},(∀b∈iA l,h'.get? b=h.get? b)->h.FunFrames B l->h'.FunFrames e l
 | [],_,_=>trivial
 | env::l,c,x=>by
  obtain⟨x0,⟨L,o,a,m,k,j⟩,i⟩:=x;show⟨x0,⟨L,o,a,d _ m,(c L (List.mem_filterMap.mpr ⟨env,aA,a⟩)).trans k,j⟩,KP d (λb hb=>c b ?_) i⟩;obtain⟨z,g,f⟩:=List.mem_filterMap.mp hb;show List.mem_filterMap.mpr ⟨z,au _ g,f⟩
def JT(X:Cx)(C:Addr)(W:Hp->Prop):Prop:=∀(g:List (Addr×Obj))(σ:St)(H:Hp)(s:Shared)(a:Addr)(c B:Heap)(f e:Value),Inv X g σ H s->H a=none->X.dA.heap.get? a=none->
 B.StaysIn c->B.get? a=none->c.FunFrames B X.stack->c.TracedAtW B a (.ref C) f e->(∀b o,t7 X.dA H b->s.heap.get? b=some o->b∉iA X.stack->B.get? b=some o)->
 (∀b∈iA X.stack,∀o,s.heap.get? b=some o->(∀d,o.data≠.fields d)->∃sl,c.get? b=some { o with slots:=sl })->W H->X.xe (.ref a) { s with heap:=c }
section
variable{P:Program}{w:World}{K:J'}{mg:Str->Option Value}{base:Heap}{N:List Str}{qual:Str}{scope:Scope}{f C:Addr}{cd:Value}{A:Around}{outer:List Env}{s0:Shared}{H0:Hp}{E:XK}
theorem Rr:JT (pG (t9 P w C) P w K mg base N qual scope f cd A outer s0 H0 E) C λH'=>∀a,E (.ref a) none H':=by
 intro p σ H s a m B k n I hn h0 st new i tr d l hw;show VQ (outer:=outer) I.ok.frames rfl st new i tr λh' c up=>?_
 obtain⟨un,cN,j⟩:=I.gone rfl rfl rfl c.1 d λb hb o q hd=>by
  obtain⟨sl,g⟩:=l b (au _ hb) o q hd;obtain⟨h,e⟩:=up b _ g hd;show⟨h,e⟩
 show⟨a,H,rfl,I.os,I.bare,un,cN,hn,h0,⟨B,k,c,j⟩,hw a⟩
end
section
variable{X:Cx}{C:Addr}{W:Hp->Prop}{N':List Str}{scope:Scope}{s3:Shared}{H3:Hp}{fp:List Addr}
abbrev An(X:Cx)(scope:Scope)(s3:Shared):Value->Shared->Prop:=notedBy (model X.prog X.w) X.A (compEnvC scope (cellsFrom (s3.heap.objs.size+1) scope.names (kQ X.env.cells scope.names [])) s3.heap.objs.size X.env) (Ei X s3.heap.objs.size)
theorem Pe(i:X.ex=[])(y:X.stack=X.env::X.outer)(hf:X.env.frame=some X.env.locals)(T:JT X C W)(gc:B4 X s3 H3 fp):zJ (t9 X.prog X.w C) (lG X N' scope s3 H3 fp (An X scope s3)) λ_ _ H'=>W H':=by
 obtain⟨m,U,I3,k⟩:=gc;intro K' σ H s e s' I ⟨a,H',he,os,bare,un,cN,hn,hs,⟨B,P,fl,rH⟩,w⟩;subst he;obtain⟨hh,g,d,t,xi⟩:=s';obtain rfl:xi=s.os:=os;have I1:=I.call (h':=hh) (g':=g) (d':=d) (t':=t) (ch:=[]) un cN bare λb z=>absurd z (by simp)
 have K:∀b∈fp,(b∈X.ex\/X.dA.heap.objs.size<=b)/\b≠X.env.locals/\(∀x c,X.env.cells.lookup x=some c->c≠b)/\∀p∈X.pn++m,p.1≠b:=λb hb=>⟨(k b hb).1.2.2.2.1,(k b hb).1.2.1,(k b hb).1.2.2.2.2.1,(k b hb).1.2.2.2.2.2⟩
 have Oc:Inv X m U H s:=I3.sU (ch:=fp) I.os I.base I.cN I.bare K;have O1:=I3.sU (ch:=fp) I1.os I1.base I1.cN I1.bare K;have old:∀b o,X.dA.heap.get? b=some o->∃o',s.heap.get? b=some o':=λb o q=>Oc.base.there b o q (by rw[i];simp)
 have o6:X.A.frames=some (X.env::X.outer):=by rw[<-y];show I3.ok.frames
 obtain⟨f1,f2,f4,f5⟩:=fl;have F:hh.FunFrames B (X.env::X.outer):=by rw[<-y];show f4
 show wpAny _ _ (noteFrame (.ref a) (compEnvC _ _ _ X.env)) _ _ _;rw[UB (compEnvC scope (cellsFrom (s3.heap.objs.size+1) scope.names (kQ X.env.cells scope.names [])) s3.heap.objs.size X.env) X.env rfl];show Mf (outer:=X.outer) (L:=X.env.locals) o6 hf f1 f2 F f5 λh1 ZP up1=>?_
 obtain⟨k1,_,k3,k4⟩:=ZP;obtain⟨m5,Io,_⟩:=id I1.loc;have R:=up1.ns Io;show⟨m5,R,λu h kK _=>?_⟩;have O:∀{b o j},h1.get? b=some o->o.data=.fields j->b≠s3.heap.objs.size:=λ{b o j} q hd z=>by
  obtain⟨o',es,ep,f,G,_⟩:=R;rw[z] at q;rw[show(lG X N' scope s3 H3 fp (An X scope s3)).env.locals=s3.heap.objs.size from rfl,q] at f;cases f;rw[hd] at G;cases G
 have N:∀b∈iA X.stack,b≠s3.heap.objs.size:=λb hb z=>by
  obtain⟨_,o,ho,_⟩:=I3.qO.ia.mem hb;show absurd (z▸aI ho) (Nat.lt_irrefl _)
 have Yk:u.TracedAtW (PySem.W.hideAll B [s3.heap.objs.size]) a (.ref C) P (rawInt X.env.locals):=by
  obtain⟨oe,j,Q,oT,ts,he,hc,hd,v,S,Y,M,J,h3⟩:=k4;show⟨oe,j,Q,oT,ts,(h.2 _ (O he hd)).trans he,hc,hd,v,?_,Y,(h.2 _ (O M J)).trans M,J,h3⟩;cases q:(PySem.W.hideAll B [s3.heap.objs.size]).get? Q with
  | none=>rfl
  | some o=>rw[PySem.W.of_hideAll _ q] at S;cases S
 have no:∀b,B.get? b=none->(PySem.W.hideAll B [s3.heap.objs.size]).get? b=none:=λb hb=>by
  cases q:(PySem.W.hideAll B [s3.heap.objs.size]).get? b with
  | none=>rfl
  | some o=>rw[PySem.W.of_hideAll _ q] at hb;cases hb
 have Z:(PySem.W.hideAll B [s3.heap.objs.size]).StaysIn u:=λb o q=>by
  by_cases hb:b=s3.heap.objs.size
  .rw[PySem.W.hideAll_none _ (by rw[hb];simp)] at q;cases q
  show(h.2 b hb).trans (k1 b o (PySem.W.of_hideAll _ q))
 have E:u.FunFrames (PySem.W.hideAll B [s3.heap.objs.size]) X.stack:=KP no (λb hb=>h.2 b (N b hb)) (by rw[y];show k3);show S0 (l:=X.stack) Z E Yk λh4 Ea DI D Yj Hl=>?_
 show T m U H' ⟨hh,g,d,t,s.os⟩ a h4 _ P Ea O1 hn ?_ DI (no _ f2) D Yj (λb o hb q n=>?_) (λb hb o q hd=>?_) w
 .cases q:X.dA.heap.get? a with
  | none=>rfl
  | some o=>
   obtain⟨o',f⟩:=old a o q;rw[hs] at f;cases f
 .refine PySem.W.hideAll_get _ (rH b o (hb.imp (λ⟨o',f⟩=>old b o' f) id) q n) λz=>?_
  have V:b=s3.heap.objs.size:=by simpa using z
  subst V;rcases hb with⟨o',f⟩ | hb
  .obtain⟨o2,r⟩:=I3.base.there _ o' f (by rw[i];simp);show absurd (aI r) (Nat.lt_irrefl _)
  show hb I1.free
 obtain⟨sl,q1⟩:=up1 b o q hd;obtain⟨kX,r⟩:=Hl b _ ((h.2 b (N b hb)).trans q1) hd;show⟨kX,r⟩
end
def Wo(W:Hp->Prop)(a:Prop)(c b:Hp):Prop:=∀d H',Ext c b d H'->a->W H'
theorem Wo.mono{W:Hp->Prop}{a:Prop}{e c d b:Hp}(h:Wo W a e c)(x:Ext e c d b):Wo W a d b:=λf H' y=>h f H' (x.trans y)
def OI(X:Cx)(c:Hp->Hp->Prop)(g:Prop)(e:Expr)(t:TD):Prop:=∃tt,(g->PE X e tt)/\∀(a:Ev)(σ:St)(d b G H:Hp)(Q:R->Prop)(P:VK),c9 X.K d b a σ G H->t a Q->(∀v H' r f,Ext G H f H'->ee X.K f H' H v r->Q r->P v H')->c d b->tt σ H P
section
variable{X:Cx}{c:Hp->Hp->Prop}{CG:Prop}{W:Hp->Prop}{Qx:Prop}{pos:Pos}{e a b:Expr}{es:List Expr}{te ta tb:TD}{ts:ix}{pa:iU}
theorem UA{C:Addr}{k d n:Nat}{t:uS}{x:Str}{p:Pos}(F:gS X.prog X.w X.K X.mg X.base C k x n t)(z:eQ d X.A)(T:CG->zJ (t9 X.prog X.w C) X λ_ _ H'=>W H')(ha:Jx X (Wo W Qx) (e::es) ts)(B:k<=d:=by decide)(hg:Gl X x:=by rfl)(u:(x==("__debug__":Str))=false:=by decide)
  (he:starEach (e::es) X.env=(false,eval e X.env)::starEach es X.env:=by rfl) (D:(backTo pos (starEach es X.env)).any (·.1)=false:=by rfl):OI X (Wo W Qx) CG (.Call (.Name x p) (e::es) [] pos) (Fs n t Qx ts):=by
 obtain⟨f,fd,ps,F,hm,kp,hb⟩:=F.ex;obtain⟨tt,pp,q⟩:=ha;show⟨_,λg=>Ln F (z.mono B) hg hm kp hb .nil (T g) pp u he D,λj σ J I G H Q P E h k hw=>q j σ J I G H _ _ E h (λM H' ds L y rs i=>?_) hw⟩;rw[List.append_nil];show⟨L,ds,Q,Qx,y.s,rs,i.1,i.2,λv b r c a l o=>k v b r c (y.trans a) (l.iq y.h) o,λc b a m _=>hw c b ((E.e.trans y).trans a) m⟩
end
section
variable{X:Cx}{pos:Pos}{e:Expr}{es:List Expr}{ts:ix}
def Fh(i q j n:Nat)(t:uS)(ts:ix)(b:Str):TX:=λD a=>ts a λds=>ds.length=n/\t ds (λr=>D.nx (a.set i r.sl)) (D.nx (((a.set q .un).set j (.fz (.exc b []))).set q .un))
theorem SY(i q j:Nat){C C':Addr}{k k' n:Nat}{t:uS}{f x y ex c B:Str}{p1 p2 L Z p5 Y V U p9:Pos}{qj T:List Value}{d kZ:String}(F:gS X.prog X.w X.K X.mg X.base C k f n t)(hr:eQ k' X.A)(O:gr X.K X.mg B C qj d)(O':gr X.K X.mg ex C' T kZ)(IW:T.contains (.type "BaseException")=true)
  (qK:PySem.W.nsIn X.K mainGlobals B=some (some (.ref C))) (oX:subIn X.K C C'=true) (R:X.xe=λ_ _=>False) (hN:X.N.Nodup) (ha:md X (e::es) ts)
  (gh:X.stack=X.env::X.outer:=by rfl) (o6:X.env.frame=some X.env.locals:=by rfl) (hk:k<=k':=by decide) (hg:Gl X f:=by rfl) (nK:(f==("__debug__":Str))=false:=by decide) (ZQ:Gl X ex:=by rfl) (Z0:(ex==("__debug__":Str))=false:=by decide)
  (he:starEach (e::es) X.env=(false,eval e X.env)::starEach es X.env:=by rfl) (hZ:(backTo L (starEach es X.env)).any (·.1)=false:=by rfl)
  (hi:X.N[i]?=some x:=by rfl) (hx:Loc X.env.scope x:=by first | show Or.inl rfl | show Or.inr rfl) (hs:swapsWith (.Call (.Name f p2) (e::es) [] L) (some (.Name x p1)) Z.line X.env=pure false:=by rfl) (hf:X.fn x=true\/X.env.scope.names.lookup x=some .local:=by first | show .inl rfl | show .inr rfl)
  (hq:X.N[q]?=some c:=by rfl) (ZY:X.env.kindOf c=some .local:=by rfl) (ID:nR X.env.scope c:=by first | show Or.inl rfl | show Or.inr (Or.inl rfl) | show Or.inr (Or.inr rfl)) (IF:Loc X.env.scope c:=by first | show Or.inl rfl | show Or.inr rfl) (IH:(c==("__debug__":Str))=false:=by decide) (II:(c==("__classdict__":Str))=false:=by decide) (IG:X.fn c=true\/X.env.scope.names.lookup c=some .local:=by first | show .inl rfl | show .inr rfl)
  (hj:X.N[j]?=some y:=by rfl) (hy:Loc X.env.scope y:=by first | show Or.inl rfl | show Or.inr rfl) (HZ:∀a,swapsWith (.Name c V) (some (.Name y Y)) U.line (X.jr a).env=pure false:=by intro _;rfl) (ZV:X.fn y=true\/X.env.scope.names.lookup y=some .local:=by first | show .inl rfl | show .inr rfl) :
  PX X (.Try [.Assign [.Name x p1] (.Call (.Name f p2) (e::es) [] L) Z] [.ExceptHandler (some (.Name ex p5)) (some c) [.Assign [.Name y Y] (.Name c V) U] p9] [] [] pos) (Fh i q j n t ts B):=by
 obtain⟨fa,fd,ps,F,hm,kp,hb⟩:=F.ex;obtain⟨tt,pp,qq⟩:=ha;show⟨λD σ H=>tt σ H λM H1=>BW X.K n t M H1 (λv b=>D.nx (σ.set i (some v)) b) (λu _ b=>∀a,u=.ref a->b a=none->D.nx (((σ.set q (some (.ref a))).set j (some (.ref a))).set q none) (upd b a (.ext (wB a C)))),λP s σ H D I h=>?_,λρ σ G0 H0 G H D E k h g=>?_⟩
 .refine wpAny_Try_except ?_;rw[R];have args:=pp L P s σ H _ I h;rw[R] at args;show wpAny_execs_cons (bF (Q:=λf s1=>f=.next/\∃v b,Inv X P (σ.set i (some v)) b s1/\D.nx (σ.set i (some v)) b) (wpAny_Assign_Name (bF (Q:=EP X P σ λv b=>D.nx (σ.set i (some v)) b) (wpAny_Call_Name_kw (zQ I hg hm ?_ nK)) (λv s1 z=>?_) λ_ _ z=>z) hs) (λf s1 z=>?_) λ_ _ z=>z)
  .refine PySem.W.callWith_K (h₀:=X.base) I.ok.mod.vF kp (bF args (λus s1 z=>?_) λ_ _ z=>z.elim) he hZ;obtain⟨M,H1,I1,r,z⟩:=z;show⟨I1.nB,Si F (hr.mono hk) hb .nil I1 r (by rw[List.append_nil];show z) λe' s' hc=>?_⟩;show Tc I1 hc (O.at I1.ok.mod.vF) (O'.at I1.ok.mod.vF) IW oX gh o6 ZQ Z0 R hN hq ZY ID IF IH II IG hj hy HZ ZV λa H' s2 hE hn I2=>?_
   show⟨_,_,I2,hE a rfl hn⟩
  .obtain⟨u,b,I2,r2,p⟩:=z;show C5 I2 hN hi hx r2 (λs2 I3=>⟨rfl,u,b,I3,p⟩) hf
  obtain⟨rfl,v,b,I2,p⟩:=z;show wpAny_execs_nil (wpAny_execs_nil ⟨_,b,I2,p⟩)
 show qq ρ σ G0 H0 G H _ _ k h λM H' ds G' m rs DT=>?_
 show⟨G',ds,_,_,m.s,rs,DT.1,DT.2,λv b r J l rr z=>g.nx _ _ J b (m.g.trans l.g) (k.put (m.trans l) (rr.iq m.h)) z,λJ b l z a=>?_⟩;intro a' ea hn;cases ea;have k2:=k.ext (m.trans l);have S:Ext J b (upd J a (.ext (wB a C))) (upd b a (.ext (wB a C))):=.new l.s hn;have rep:Rep X.K (upd J a (.ext (wB a C))) (.ref a) (.exc B []):=by
  simp only[Rep,gM];show⟨a,_,C,none,[],rfl,gX,qK,λh cu=>by obtain⟨o,z1,p⟩:=cu;show⟨o,z1,p,.inl trivial⟩,.inl trivial,trivial⟩
 show g.nx _ _ _ _ ((m.g.trans l.g).trans S.g) (((k2.unset (i:=q) (u:=some (.ref a))).put S (r:=.fz (.exc B [])) (f9 rep)).unset (i:=q) (u:=none)) z
end
theorem VP:typeLookup (.type "zip") "__len__"=pure none:=by rw[typeLookup_type,builtinLookup_eq_fast];kernel_rfl
theorem Wi:typeLookup (.type "zip") "__length_hint__"=pure none:=by rw[typeLookup_type,builtinLookup_eq_fast];kernel_rfl
abbrev Zp(h:Heap)(n:Nat)(b a:Value):Prop:=h.get? (n+5)=some { cls:=.type "zip",dict:=none,data:=.fields #[b,a,.bool false,.ref (n+3),.ref (n+4)],slots:=#[] }
abbrev oB(h:Heap)(T:Nat)(a b c:Value):Prop:=h.get? T=some { cls:=.type "tuple",data:=.seq #[a,b,c] }
structure Z3(n l1 l2 l3:Nat)(xs ys zs:Array Value)(k:Nat)(h:Heap):Prop where
 z:∃f0 f1,Zp h n f0 f1/\(f0=.none\/∃(T:Nat)(o:Obj),f0=rawInt T/\h.get? T=some o/\n+6<T)
 ti:oB h (n+3) (.ref n) (.ref (n+1)) (.ref (n+2))
 to:∃a b c,oB h (n+4) a b c
 i1:h.IsListIter n l1 k
 i2:h.IsListIter (n+1) l2 k
 i3:h.IsListIter (n+2) l3 k
 a1:h.IsList l1 xs
 a2:h.IsList l2 ys
 a3:h.IsList l3 zs
theorem Z3.at{n g f d:Nat}{xs ys zs:Array Value}{k:Nat}{h h':Heap}(st:Z3 n g f d xs ys zs k h)(t:g<n)(s:f<n)(r:d<n)(kk:∀(c:Nat) o,c≠n+6->h.get? c=some o->h'.get? c=some o):Z3 n g f d xs ys zs k h':=by
 obtain⟨⟨f0,f1,j,i⟩,t1,⟨a,b,c,m⟩,i1,i2,i3,a1,a2,a3⟩:=st;show⟨⟨f0,f1,kk _ _ (by ext) j,i.imp id λp=>by obtain⟨T,o,e,q,l⟩:=p;show⟨T,o,e,kk _ _ (by ext) q,l⟩⟩,kk _ _ (by ext) t1,⟨a,b,c,kk _ _ (by ext) m⟩,i1.at λo e=>kk _ o (by ext) e,i2.at λo e=>kk _ o (by ext) e,i3.at λo e=>kk _ o (by ext) e,a1.at λo e=>kk _ o (by ext) e,a2.at λo e=>kk _ o (by ext) e,a3.at λo e=>kk _ o (by ext) e⟩
theorem dn{a b:Nat}(h:@Ne Nat a b):@Ne Addr a b:=h
section
variable{prog:Program}{w:World}{A:Around}{E:Value->Shared->Prop}{s:Shared}{n l1 l2 l3:Nat}{xs ys zs:Array Value}{k:Nat}{x y v:Value}
theorem Nf{M:Model}{a:Addr}{Q:Option Obj->Shared->Prop}(h:Q (s.heap.get? a) s):wpAny M A (loadIfAlive a) Q E s:=λ_ _ _=>h
theorem Ek{T:Addr}{a b c x:Value}{k:Nat}{Q:Unit->Shared->Prop}(d:oB s.heap T a b c)
  (h:∀h',h'.get? T=some { cls:=.type "tuple",data:=.seq ((#[a,b,c]:Array Value).setIfInBounds k x) }->Heap.SameBut T s.heap h'->Q () { s with heap:=h' }) :
  wpAny (model prog w) A (updateSeq T (·.setIfInBounds k x)) Q E s:=by
 show wpAny_updateSeq d rfl (h _ ?_ (Heap.SameBut.update ..));rw[bM _ d rfl];simp[Obj.mapSeq]
theorem US{Q:Value->Shared->Prop}(b1:l1<n)(b2:l2<n)(b3:l3<n)(hsz:n+6<s.heap.objs.size)(st:Z3 n l1 l2 l3 xs ys zs k s.heap)(hx:xs[k]?=some x)(hy:ys[k]?=some y)(hv:zs[k]?=some v)
  (hQ:∀h',Z3 n l1 l2 l3 xs ys zs (k+1) h'->oB h' s.heap.objs.size x y v->h'.objs.size=s.heap.objs.size+1->(∀(c:Nat) o,c<n\/n+5<c->s.heap.get? c=some o->h'.get? c=some o)->Q (.ref s.heap.objs.size) { s with heap:=h' }) :
  wpAny (model prog w) A (Builtin.«zip.__next__» ⟨[.ref (n+5)],[]⟩) (λfin K=>∃v,fin=.done (.ret v)/\Q v K) E s:=by
 obtain⟨⟨f0,f1,hz,hf⟩,Bz,⟨a,b,c,IU⟩,h1,h2,h3,L,M,J⟩:=st;show wpAny _ _ (field (.ref (n+5)) 2 >>= _) _ _ _;show aa (bQ hz rfl (x:=.bool false) rfl ?_);show wpAny _ _ (field (.ref (n+5)) 3 >>= _) _ _ _;show aa (bQ hz rfl (x:=.ref (n+3)) rfl ?_);show aa (wpAny_seqItems Bz rfl ?_);show wpAny _ _ (Builtin.SmallTypes.ownedTupleIsFree (.ref (n+5)) >>= _) _ _ _;rcases hf with rfl | ⟨T,o,rfl,hT,Oo⟩
 .refine aa ?_;unfold Builtin.SmallTypes.ownedTupleIsFree;show aa (bQ hz rfl (x:=.none) rfl (ah ?_));simp only[bP];show aa (wpAny_rule ?_);show aa (bQ hz rfl (x:=.ref (n+4)) rfl ?_);show aa (wpAny_setField_rec hz (by simp) λY F C=>?_);replace F:Zp Y n .ellipsis f1:=F
  show aa ?_;simp only[List.zipIdx_cons,List.zipIdx_nil,List.forIn_cons,List.forIn_nil];have m:=C.extBut;show aa (aa (wpAny_onRaise ?_));show wpAny _ _ (Builtin.SmallTypes.nextOf (.ref n) >>= _) _ _ _;show aa (wpAny_nextOf_list_item (h1.extBut m (dn (by ext))) (L.extBut m (dn (by ext))) hx λkE S D=>ah ?_);have f:=D.extBut;have sO:oB kE (n+4) a b c:=f _ _ (dn (by ext)) (m _ _ (dn (by ext)) IU);show aa (wpAny_seqItems sO rfl ?_);show aa (Ek sO λmq W B=>?_);replace W:oB mq (n+4) x b c:=W
  have i:=B.extBut;show aa (wpAny_letGo (ah ?_));show aa (aa (wpAny_onRaise ?_));show wpAny _ _ (Builtin.SmallTypes.nextOf (.ref (n+1)) >>= _) _ _ _;show aa (wpAny_nextOf_list_item (((h2.extBut m (dn (by ext))).extBut f (dn (by ext))).extBut i (dn (by ext))) (((M.extBut m (dn (by ext))).extBut f (dn (by ext))).extBut i (dn (by ext))) hy λj BF u=>ah ?_);have l:=u.extBut;have sN:oB j (n+4) x b c:=l _ _ (dn (by ext)) W;show aa (wpAny_seqItems sN rfl ?_);show aa (Ek sN λxu X vM=>?_);replace X:oB xu (n+4) x y c:=X
  have q:=vM.extBut;show aa (wpAny_letGo (ah ?_));show aa (aa (wpAny_onRaise ?_));show wpAny _ _ (Builtin.SmallTypes.nextOf (.ref (n+2)) >>= _) _ _ _;show aa (wpAny_nextOf_list_item (((((h3.extBut m (dn (by ext))).extBut f (dn (by ext))).extBut i (dn (by ext))).extBut l (dn (by ext))).extBut q (dn (by ext))) (((((J.extBut m (dn (by ext))).extBut f (dn (by ext))).extBut i (dn (by ext))).extBut l (dn (by ext))).extBut q (dn (by ext))) hv λHM BC vL=>ah ?_);have r:=vL.extBut;have sM:oB HM (n+4) x y c:=r _ _ (dn (by ext)) X;show aa (wpAny_seqItems sM rfl ?_);show aa (Ek sM λd N vK=>?_);replace N:oB d (n+4) x y v:=N
  have t:=vK.extBut;show aa (wpAny_letGo (ah (ah ?_)));show aa (wpAny_seqItems N rfl ?_);show aa (wpAny_newTuple ?_);have sz:d.objs.size=s.heap.objs.size:=by rw[vK.1,vL.1,vM.1,u.1,B.1,D.1,C.1]
  have AY:Zp d n .ellipsis f1:=t _ _ (dn (by ext)) (r _ _ (dn (by ext)) (q _ _ (dn (by ext)) (l _ _ (dn (by ext)) (i _ _ (dn (by ext)) (f _ _ (dn (by ext)) F)))));have kk:∀(c:Nat) o,c<n\/n+5<c\/c=n+3->s.heap.get? c=some o->d.get? c=some o:=λc o O e=>
   t _ _ (dn (by ext)) (r _ _ (dn (by ext)) (q _ _ (dn (by ext)) (l _ _ (dn (by ext)) (i _ _ (dn (by ext)) (f _ _ (dn (by ext)) (m _ _ (dn (by ext)) e))))))
  have BH:d.IsListIter n l1 (k+1):=((((S.extBut i (dn (by ext))).extBut l (dn (by ext))).extBut q (dn (by ext))).extBut r (dn (by ext))).extBut t (dn (by ext));have BE:d.IsListIter (n+1) l2 (k+1):=((BF.extBut q (dn (by ext))).extBut r (dn (by ext))).extBut t (dn (by ext));have BB:d.IsListIter (n+2) l3 (k+1):=BC.extBut t (dn (by ext));show wpAny _ _ (Builtin.SmallTypes.ownedTupleHandOut (.ref (n+5)) (.ref d.objs.size) >>= _) _ _ _;show aa ?_;unfold Builtin.SmallTypes.ownedTupleHandOut;have AX:Zp (d.push { cls:=.type "tuple",data:=.seq #[x,y,v] }) n .ellipsis f1:=aq _ AY;show aa (wpAny_setField_rec AX (by simp) λHL V U=>?_);replace V:Zp HL n (rawInt d.objs.size) f1:=V
  show wpAny_setField_rec V (by simp) λG R Z=>?_
  replace R:Zp G n (rawInt d.objs.size) (.bool false):=R
  have up:∀(c:Nat) o,c≠n+5->d.get? c=some o->G.get? c=some o:=λc o P e=>Z.extBut _ _ P (U.extBut _ _ P (aq _ e))
  have p:oB G d.objs.size x y v:=Z.extBut _ _ (dn (by ext)) (U.extBut _ _ (dn (by ext)) (aF _ rfl));have I:G.objs.size=d.objs.size+1:=by rw[Z.1,U.1,Heap.size_push]
  rw[sz] at R p I;show ah ⟨_,rfl,?_⟩;show Q (.ref d.objs.size) _;rw[sz];show hQ G ⟨⟨_,_,R,.inr ⟨_,_,rfl,p,hsz⟩⟩,up _ _ (by ext) (kk _ _ (by ext) Bz),⟨_,_,_,up _ _ (by ext) N⟩,BH.at λo e=>up _ o (by ext) e,BE.at λo e=>up _ o (by ext) e,BB.at λo e=>up _ o (by ext) e,L.at λo e=>up _ o (by ext) (kk _ o (by ext) e),M.at λo e=>up _ o (by ext) (kk _ o (by ext) e),J.at λo e=>up _ o (by ext) (kk _ o (by ext) e)⟩ p I λc o O e=>up c o (by ext) (kk c o (by ext) e)
 have lq:∀(h₀:Heap)(g:Value),h₀.objs.size=s.heap.objs.size->Zp h₀ n (rawInt T) g->(∀(c:Nat) o,c≠n+5->s.heap.get? c=some o->h₀.get? c=some o)->wpAny (model prog w) A (Builtin.SmallTypes.nextOf (.ref n)) (λx' s1=>x'=x/\wpAny (model prog w) A (Builtin.SmallTypes.nextOf (.ref (n+1))) (λy' s2=>y'=y/\wpAny (model prog w) A (Builtin.SmallTypes.nextOf (.ref (n+2))) (λv' s3=>v'=v/\wpAny (model prog w) A (newTuple [x,y,v]) Q E s3) E s2) E s1) E { s with heap:=h₀ }:=λh₀ g NZ AZ h=>by
  show wpAny_nextOf_list_item (h1.at λo e=>h _ o (by ext) e) (L.at λo e=>h _ o (by ext) e) hx λkE S D=>⟨rfl,?_⟩
  have f:=D.extBut;show wpAny_nextOf_list_item ((h2.at λo e=>h _ o (by ext) e).extBut f (dn (by ext))) ((M.at λo e=>h _ o (by ext) e).extBut f (dn (by ext))) hy λmq BG B=>⟨rfl,?_⟩
  have i:=B.extBut;show wpAny_nextOf_list_item (((h3.at λo e=>h _ o (by ext) e).extBut f (dn (by ext))).extBut i (dn (by ext))) (((J.at λo e=>h _ o (by ext) e).extBut f (dn (by ext))).extBut i (dn (by ext))) hv λj BD u=>⟨rfl,?_⟩
  have l:=u.extBut;show wpAny_newTuple ?_;have sz:j.objs.size=s.heap.objs.size:=by rw[u.1,B.1,D.1,NZ]
  have up:∀(c:Nat) o,c≠n->c≠n+1->c≠n+2->h₀.get? c=some o->(j.push { cls:=.type "tuple",data:=.seq #[x,y,v] }).get? c=some o:=λc o P c2 c3 e=>aq _ (l _ _ c3 (i _ _ c2 (f _ _ P e)))
  have p:oB (j.push { cls:=.type "tuple",data:=.seq #[x,y,v] }) j.objs.size x y v:=aF _ rfl;have I:(j.push { cls:=.type "tuple",data:=.seq #[x,y,v] }).objs.size=j.objs.size+1:=Heap.size_push ..;have p1:(j.push { cls:=.type "tuple",data:=.seq #[x,y,v] }).IsListIter n l1 (k+1):=((S.extBut i (dn (by ext))).extBut l (dn (by ext))).at λo e=>aq _ e
  have p2:(j.push { cls:=.type "tuple",data:=.seq #[x,y,v] }).IsListIter (n+1) l2 (k+1):=(BG.extBut l (dn (by ext))).at λo e=>aq _ e
  have p3:(j.push { cls:=.type "tuple",data:=.seq #[x,y,v] }).IsListIter (n+2) l3 (k+1):=BD.at λo e=>aq _ e
  show Q (.ref j.objs.size) _;rw[sz] at p I ⊢;show hQ _ ⟨⟨_,_,up _ _ (by ext) (by ext) (by ext) AZ,.inr ⟨T,o,rfl,up _ _ (by ext) (by ext) (by ext) (h _ _ (by ext) hT),Oo⟩⟩,up _ _ (by ext) (by ext) (by ext) (h _ _ (by ext) Bz),⟨a,b,c,up _ _ (by ext) (by ext) (by ext) (h _ _ (by ext) IU)⟩,p1,p2,p3,L.at λo e=>up _ o (by ext) (by ext) (by ext) (h _ o (by ext) e),M.at λo e=>up _ o (by ext) (by ext) (by ext) (h _ o (by ext) e),J.at λo e=>up _ o (by ext) (by ext) (by ext) (h _ o (by ext) e)⟩ p I λc o O e=>up c o (by ext) (by ext) (by ext) (h c o (by ext) e)
 show aa (bF (Q:=λa K=>a=false/\∃(h₀:Heap)(g:Value),K={ s with heap:=h₀ }/\h₀.objs.size=s.heap.objs.size/\Zp h₀ n (rawInt T) g/\∀(c:Nat) o,c≠n+5->s.heap.get? c=some o->h₀.get? c=some o) ?_ (λa K hz=>?_) λ_ _ z=>z)
 .unfold Builtin.SmallTypes.ownedTupleIsFree;show aa (bQ hz rfl (x:=rawInt T) rfl ?_);show wpAny _ _ (loadIfAlive ((T:Int).toNat) >>= _) _ _ _;show aa (Nf ?_);rw[ba,hT];simp only[Option.isNone_some,aU,bG];show aa (bQ hz rfl (x:=f1) rfl ?_);show wpAny_ite ?_;split
  .exact aa (wpAny_setField_rec hz (by simp) λY F C=>ah ⟨rfl,Y,_,rfl,C.1,F,λc o O e=>C.extBut _ _ O e⟩)
  show ah ⟨rfl,s.heap,f1,rfl,rfl,hz,λ_ _ _ e=>e⟩
 obtain⟨rfl,h₀,g,rfl,q1,q2,q3⟩:=hz;simp only[aU,bG];simp only[<-Array.forIn_toList,List.forIn_cons,List.forIn_nil];show aa (aa (aa (bC ?_)));show wpAny _ _ (Builtin.SmallTypes.nextOf (.ref n) >>= _) _ _ _;show aa (bF (lq h₀ g q1 q2 q3) (λx' s1 H=>?_) λ_ _ z=>z);obtain⟨e1,r1⟩:=H;show ah ?_;subst e1;show ah (aa (aa (bC ?_)));show wpAny _ _ (Builtin.SmallTypes.nextOf (.ref (n+1)) >>= _) _ _ _;show aa (bF r1 (λy' s2 H=>?_) λ_ _ z=>z);obtain⟨e2,r2⟩:=H;show ah ?_;subst e2;show ah (aa (aa (bC ?_)));show wpAny _ _ (Builtin.SmallTypes.nextOf (.ref (n+2)) >>= _) _ _ _;show aa (bF r2 (λv' s3 H=>?_) λ_ _ z=>z);obtain⟨e3,r3⟩:=H;show ah ?_;subst e3;show ah (ah ?_);show aa (bF r3 (λ_ _ z=>ah ⟨_,rfl,z⟩) λ_ _ z=>z)
theorem SX{Q:Fin->Shared->Prop}(hh:A.handled=none)(P:l1<n)(O:l2<n)(N:l3<n)(st:Z3 n l1 l2 l3 xs ys zs k s.heap)(v:xs[k]?=none)
  (y:∀h' e,(∀(c:Nat) o,c<n\/n+5<c->s.heap.get? c=some o->h'.get? c=some o)->(∃o,h'.get? e=some o/\o.cls=.type "StopIteration")->E (.ref e) { s with heap:=h' }) :
  wpAny (model prog w) A (Builtin.«zip.__next__» ⟨[.ref (n+5)],[]⟩) Q E s:=by
 obtain⟨⟨f0,f1,hz,hf⟩,I,⟨a,b,c,S⟩,B,M,L,t,K,J⟩:=st;show wpAny _ _ (field (.ref (n+5)) 2 >>= _) _ _ _;show aa (bQ hz rfl (x:=.bool false) rfl ?_);show wpAny _ _ (field (.ref (n+5)) 3 >>= _) _ _ _;show aa (bQ hz rfl (x:=.ref (n+3)) rfl ?_);show aa (wpAny_seqItems I rfl ?_);show wpAny _ _ (Builtin.SmallTypes.ownedTupleIsFree (.ref (n+5)) >>= _) _ _ _;rcases hf with rfl | ⟨T,o,rfl,G,R⟩
 .refine aa ?_;unfold Builtin.SmallTypes.ownedTupleIsFree;show aa (bQ hz rfl (x:=.none) rfl (ah ?_));simp only[bP];show aa (wpAny_rule ?_);show aa (bQ hz rfl (x:=.ref (n+4)) rfl ?_);show aa (wpAny_setField_rec hz (by simp) λm f j=>?_);replace f:Zp m n .ellipsis f1:=f
  show aa ?_;simp only[List.zipIdx_cons,List.zipIdx_nil,List.forIn_cons,List.forIn_nil];have h:=j.extBut;show aa (aa (wpAny_onRaise ?_));show wpAny _ _ (Builtin.SmallTypes.nextOf (.ref n) >>= _) _ _ _;show aa (wpAny_nextOf_list_end hh (B.extBut h (dn (by ext))) (t.extBut h (dn (by ext))) v λi e d he=>?_);obtain⟨D,p,C⟩:=he;have q:Zp i n .ellipsis f1:=d _ _ (dn (by ext)) f;have H:e≠n+5:=λx=>by subst x;rw[q] at p;cases p;simp at C
  show wpAny_setField_rec q (by simp) λF _ u=>y F e (λc o l x=>u.extBut _ _ (dn (by ext)) (d _ _ (dn (by ext)) (h _ _ (dn (by ext)) x))) ⟨D,u.extBut _ _ H p,C⟩
 show aa (bF (Q:=λa r=>a=false/\∃(h₀:Heap),r={ s with heap:=h₀ }/\∀(c:Nat) o,c≠n+5->s.heap.get? c=some o->h₀.get? c=some o) ?_ (λa r hz=>?_) λ_ _ z=>z)
 .unfold Builtin.SmallTypes.ownedTupleIsFree;show aa (bQ hz rfl (x:=rawInt T) rfl ?_);show wpAny _ _ (loadIfAlive ((T:Int).toNat) >>= _) _ _ _;show aa (Nf ?_);rw[ba,G];simp only[Option.isNone_some,aU,bG];show aa (bQ hz rfl (x:=f1) rfl ?_);show wpAny_ite ?_;split
  .exact aa (wpAny_setField_rec hz (by simp) λm f j=>ah ⟨rfl,m,rfl,λc o l e=>j.extBut _ _ l e⟩)
  show ah ⟨rfl,s.heap,rfl,λ_ _ _ e=>e⟩
 obtain⟨rfl,h₀,rfl,g⟩:=hz;simp only[aU,bG];simp only[<-Array.forIn_toList,List.forIn_cons,List.forIn_nil];show aa (aa (aa (bC ?_)));show wpAny _ _ (Builtin.SmallTypes.nextOf (.ref n) >>= _) _ _ _;show aa (wpAny_nextOf_list_end hh (B.at λo e=>g _ o (by ext) e) (t.at λo e=>g _ o (by ext) e) v λi e d he=>y i e (λc o l x=>d _ _ (dn (by ext)) (g _ _ (by ext) x)) he)
theorem VO{Q:Option Value->Shared->Prop}(i:l1<n)(h:l2<n)(g:l3<n)(hsz:n+6<s.heap.objs.size)(st:Z3 n l1 l2 l3 xs ys zs k s.heap)(d:xs[k]?=some x)(b:ys[k]?=some y)(e:zs[k]?=some v)
  (f:∀h',Z3 n l1 l2 l3 xs ys zs (k+1) h'->oB h' s.heap.objs.size x y v->h'.objs.size=s.heap.objs.size+1->(∀(c:Nat) o,c<n\/n+5<c->s.heap.get? c=some o->h'.get? c=some o)->Q (some (.ref s.heap.objs.size)) { s with heap:=h' }) :
  wpAny (model prog w) A (pyNext (.ref (n+5))) Q E s:=by
 obtain⟨f0,f1,hz,_⟩:=id st.z;have a:s.TypeIs (.ref (n+5)) "zip":=⟨_,hz,rfl⟩
 unfold pyNext;show aa (wpAny_attempt (wpAny_callSpecial?_slot (name:=Str.ofString "__next__") a F.slot_zip_next
  (wpAny_call_entry F.slot_zip_next a F.entry_zip_next (US i h g hsz st d b e λh' a1 a2 a3 j=>ah (f h' a1 a2 a3 j)) (F.args_zip_next_1 _))))
theorem UR{Q:Option Value->Shared->Prop}(hh:A.handled=none)(m:l1<n)(l:l2<n)(j:l3<n)(st:Z3 n l1 l2 l3 xs ys zs k s.heap)(d:xs[k]?=none)
  (i:∀h',(∀(c:Nat) o,c<n\/n+5<c->s.heap.get? c=some o->h'.get? c=some o)->Q none { s with heap:=h' }):wpAny (model prog w) A (pyNext (.ref (n+5))) Q E s:=by
 obtain⟨f0,f1,hz,_⟩:=id st.z;have a:s.TypeIs (.ref (n+5)) "zip":=⟨_,hz,rfl⟩
 unfold pyNext;show aa (wpAny_attempt (wpAny_callSpecial?_slot (name:=Str.ofString "__next__") a F.slot_zip_next
  (wpAny_call_entry F.slot_zip_next a F.entry_zip_next (SX hh m l j st d λh' e g he=>?_) (F.args_zip_next_1 _))))
 obtain⟨o,f,h⟩:=he;show aa (wpAny_isInstance (T:="StopIteration") (b:=true) ⟨o,f,h⟩ isSubtype_stop (ah (i _ g)))
end
structure mF(n:Nat)(xs ys zs:Array Value)(acc:Array Value)(k:Nat)(h:Heap):Prop where
 size:acc.size=k
 at_:∀(j:Nat) v,acc[j]?=some v->∃(T:Nat)(x y z:Value),v=.ref T/\n+6<T/\xs[j]?=some x/\ys[j]?=some y/\zs[j]?=some z/\oB h T x y z
 inj:∀(i j T:Nat),acc[i]?=some (.ref T)->acc[j]?=some (.ref T)->i=j
section
variable{prog:Program}{w:World}{A:Around}{E:Value->Shared->Prop}{s:Shared}{R:Result->Shared->Prop}{n l1 l2 l3:Nat}{xs ys zs:Array Value}
theorem mF.keep{acc:Array Value}{k:Nat}{h h':Heap}(a:mF n xs ys zs acc k h)(kk:∀(c:Nat) o,n+6<c->h.get? c=some o->h'.get? c=some o):mF n xs ys zs acc k h':=
 ⟨a.size,λj v g=>let⟨T,x,y,z,e,l,f,d,b,q⟩:=a.at_ j v g;⟨T,x,y,z,e,l,f,d,b,kk T _ l q⟩,a.inj⟩
theorem Pd(hh:A.handled=none)(G:l1<n)(E:l2<n)(D:l3<n)(hn:xs.size<=sizeLine)(W:ys.size=xs.size)(hz:zs.size=xs.size)(res:Value) :
  ∀(j k:Nat)(s:Shared)(acc:Array Value)(c:Nat),xs.size-k=j->k<=xs.size->Z3 n l1 l2 l3 xs ys zs k s.heap->n+6<s.heap.objs.size->s.heap.get? (n+6)=some { cls:=.type "list",dict:=none,data:=.seq acc c,slots:=#[] }->mF n xs ys zs acc k s.heap->
  (∀h' h C,(∀(c:Nat) o,c<n\/n+6<c->s.heap.get? c=some o->h'.get? c=some o)->h'.get? (n+6)=some { cls:=.type "list",dict:=none,data:=.seq h C,slots:=#[] }->mF n xs ys zs h xs.size h'->R (.ok (.ret res)) { s with heap:=h' })->
  codeAny (model prog w) A (.builtin "list.extend.loop" ⟨[.ref (n+6),.ref (n+5),res],[]⟩) R s:=by
 intro j;induction j with
 | zero=>
  intro k s acc c N p st hsz u ha B;have Q:k=xs.size:=by ext
  subst Q;show codeAny_builtin F.entry_extend_loop ?_;rw[Around.under_plainId F.plain_extend_loop _];show wpAny _ A.in1 (pyNext (.ref (n+5)) >>= _) _ _ s;show aa (UR (A:=A.in1) hh G E D st (Array.getElem?_eq_none (aD _)) λh' kk=>?_);show ah (B h' acc c (λc o a e=>kk c o (by ext) e) (kk (n+6) _ (by ext) u) (ha.keep λc o a e=>kk c o (by ext) e))
 | succ j M=>
  intro k s acc c N p st hsz u ha B;have L:k<xs.size:=by ext
  show codeAny_builtin F.entry_extend_loop ?_;rw[Around.under_plainId F.plain_extend_loop _];show wpAny _ A.in1 (pyNext (.ref (n+5)) >>= _) _ _ s;have K:xs[k]?=some xs[k]:=bJ L;have J:ys[k]?=some (ys[k]'(by ext)):=bJ (by ext);have I:zs[k]?=some (zs[k]'(by ext)):=bJ (by ext);show aa (VO G E D hsz st K J I λh' P O U kk=>?_);have H:=kk (n+6) _ (by ext) u;show wpAny _ A.in1 (updateSeq (n+6) (·.push (.ref s.heap.objs.size)) >>= _) _ _ _;have m:=ha.size;have f:∀(c:Nat) o,c≠n+6->h'.get? c=some o->(h'.update (n+6) (Obj.mapSeq (·.push (.ref s.heap.objs.size)))).get? c=some o:=λc o a e=>(Heap.get?_update_other _ _ (dn (Ne.symm a))).trans e
  show aa (wpAny_updateSeq H rfl (ah ⟨plainId_quiet F.plain_extend_loop _,M (k+1) _ (acc.push (.ref s.heap.objs.size)) _ (by ext) L (P.at G E D f) ?_ (bM _ H rfl) ?_ λb h C S t r=>?_⟩) (by rw[m];ext) (by show(acc.push (Value.ref s.heap.objs.size)).size<=sizeLine+1;rw[Array.size_push,m];ext))
  .show n+6<(h'.update (n+6) _).objs.size;rw[Heap.size_update,U];ext
  .have a2:=(ha.keep λc o a e=>kk c o (by ext) e).keep λc o a e=>f c o (by ext) e
   have old:∀(i T:Nat),acc[i]?=some (.ref T)->T≠s.heap.objs.size:=λi T p z=>by
    obtain⟨Z,x,y,V,e,l,_,_,_,q⟩:=ha.at_ i _ p;cases e;show absurd (z▸aI q) (Nat.lt_irrefl _)
   show⟨by rw[Array.size_push,m],λi v g=>?_,λi j T d b=>?_⟩
   .rw[Array.getElem?_push] at g;split at g
    .rename_i e;cases g;rw[m] at e;subst e;show⟨_,_,_,_,rfl,hsz,K,J,I,f _ _ (by ext) O⟩
    show a2.at_ i v g
   rw[Array.getElem?_push] at d b;split at d<;>split at b
   .rename_i Y X;ext
   .cases d;show absurd rfl (old _ _ b)
   .cases b;show absurd rfl (old _ _ d)
   show ha.inj i j T d b
  show B b h C (λc o a e=>S c o a (f c o (by ext) (kk c o (by ext) e))) t r
theorem Rq(hh:A.handled=none)(x:l1<n)(u:l2<n)(t:l3<n)(hn:xs.size<=sizeLine)(z:ys.size=xs.size)(hz:zs.size=xs.size)(res:Value)(d:Nat)(m:Zp s.heap n .none (.bool false))(st:Z3 n l1 l2 l3 xs ys zs 0 s.heap)(hsz:n+6<s.heap.objs.size)
  (r:s.heap.get? (n+6)=some { cls:=.type "list",data:=.seq #[] d })
  (C:∀h' k a,(∀(c:Nat) o,c<n\/n+6<c->s.heap.get? c=some o->h'.get? c=some o)->h'.get? (n+6)=some { cls:=.type "list",dict:=none,data:=.seq k a,slots:=#[] }->mF n xs ys zs k xs.size h'->R (.ok (.ret res)) { s with heap:=h' }) :
  wpAny (model prog w) A.in1 (Builtin.List.listExtendWith (.ref (n+6)) (.ref (n+5)) res)
   (λfin g=>match fin with | .done f=>R (.ok f) g | .again a=>a.quiet=true/\codeAny (model prog w) A a R g) (λe g=>R (.error e) g) s:=by
 have l:s.TypeIs (.ref (n+5)) "zip":=⟨_,m,rfl⟩
 unfold Builtin.List.listExtendWith;show aa (wpAny_typeOf (T:="zip") l ?_);have G:Builtin.List.listSameRef (.ref (n+6)) (.ref (n+5))=false:=by simp[Builtin.List.listSameRef]
 have E:(Value.type "zip"==Value.type "list")=false:=by decide
 have D:(Value.type "zip"==Value.type "tuple")=false:=by decide
 simp only[G,E,D,Bool.or_false,aU,bG];show aa (wpAny_pyIter_zip m ?_);show aa (bC ?_);unfold Builtin.List.listLengthHint;show aa (wpAny_specialOf (T:="zip") l VP ?_);show wpAny _ A.in1 (specialOf (Value.ref (n+5)) (Str.ofString "__length_hint__") >>= _) _ _ _;show aa (wpAny_specialOf (T:="zip") l Wi ?_);show ah ?_;show wpAny _ A.in1 (rule "list.extend.makes-room" >>= λ_=>Builtin.List.listTouch (.ref (n+6)) >>= λ_=>again (.builtin "list.extend.loop" ⟨[.ref (n+6),.ref (n+5),res],[]⟩)) _ _ _;show aa (wpAny_rule ?_);show aa ?_;show wpAny _ A.in1 (updateSeq (n+6) (·.push .none) >>= λ_=>updateSeq (n+6) (·.pop)) _ _ _;show aa (wpAny_updateSeq r rfl ?_);have q:=bM (Obj.mapSeq (·.push Value.none)) r rfl;show wpAny_updateSeq q rfl ?_;have H:=bM (Obj.mapSeq (·.pop)) q rfl;have p:∀(b:Nat) o,b≠n+6->s.heap.get? b=some o->((s.heap.update (n+6) (Obj.mapSeq (·.push Value.none))).update (n+6) (Obj.mapSeq (·.pop))).get? b=some o:=
  λb o hb e=>(Heap.get?_update_other _ _ (dn (Ne.symm hb))).trans ((Heap.get?_update_other _ _ (dn (Ne.symm hb))).trans e)
 show ah ⟨plainId_quiet F.plain_extend_loop _,Pd hh x u t hn z hz res xs.size 0 _ _ _ rfl (a9 _) (st.at x u t p) ?_ H ⟨rfl,λj v h=>?_,λi j T h=>?_⟩ λh' k a kk y ha=>C h' k a (λc o B e=>kk c o B (p c o (by ext) e)) y ha⟩
 .show n+6<((s.heap.update (n+6) _).update (n+6) _).objs.size;rw[Heap.size_update,Heap.size_update];show hsz
 .simp at h
 simp at h
theorem VN(hh:A.handled=none)(l:l1<n)(k:l2<n)(j:l3<n)(hn:xs.size<=sizeLine)(t:ys.size=xs.size)(hz:zs.size=xs.size)(q:Zp s.heap n .none (.bool false))(st:Z3 n l1 l2 l3 xs ys zs 0 s.heap)(hsz:n+6<s.heap.objs.size)
  (i:s.heap.get? (n+6)=some { cls:=.type "list",data:=.seq #[] })
  (v:∀h' g a,(∀(c:Nat) o,c<n\/n+6<c->s.heap.get? c=some o->h'.get? c=some o)->h'.get? (n+6)=some { cls:=.type "list",dict:=none,data:=.seq g a,slots:=#[] }->mF n xs ys zs g xs.size h'->R (.ok (.ret .none)) { s with heap:=h' }) :
  wpAny (model prog w) A.in1 (Builtin.«list.__init__» ⟨[.ref (n+6),.ref (n+5)],[]⟩)
   (λfin d=>match fin with | .done f=>R (.ok f) d | .again a=>a.quiet=true/\codeAny (model prog w) A a R d) (λe d=>R (.error e) d) s:=by
 show wpAny _ _ (do let old <-Builtin.List.listItems (.ref (n+6));Builtin.List.listUpdate (.ref (n+6)) (λ_=>#[]);letGo old.toList.reverse;Builtin.List.listExtendWith (.ref (n+6)) (.ref (n+5)) .none) _ _ s;show aa ?_;unfold Builtin.List.listItems;show aa (wpAny_seqItems i rfl (ah ?_));show wpAny _ _ (updateSeq (n+6) (λ_=>#[]) >>= λ_=>letGo (#[]:Array Value).toList.reverse >>= λ_=>Builtin.List.listExtendWith (.ref (n+6)) (.ref (n+5)) .none) _ _ s;show aa (wpAny_updateSeq i rfl ?_);have r:=bM (Obj.mapSeq (λ_=>(#[]:Array Value))) i rfl;have h:∀(b:Nat) o,b≠n+6->s.heap.get? b=some o->(s.heap.update (n+6) (Obj.mapSeq (λ_=>(#[]:Array Value)))).get? b=some o:=λb o hb e=>(Heap.get?_update_other _ _ (dn (Ne.symm hb))).trans e
 show aa (wpAny_letGo ?_);show Rq hh l k j hn t hz .none _ (h _ _ (by ext) q) (st.at l k j h) ?_ r λh' g a u p m=>v h' g a (λb o hb e=>u b o hb (h b o (by ext) e)) p m
 show n+6<(s.heap.update (n+6) _).objs.size;rw[Heap.size_update];show hsz
theorem VM{Q:Value->Shared->Prop}(hh:A.handled=none)(h:l1<n)(g:l2<n)(f:l3<n)(hn:xs.size<=sizeLine)(k:ys.size=xs.size)(hz:zs.size=xs.size)(j:Zp s.heap n .none (.bool false))(st:Z3 n l1 l2 l3 xs ys zs 0 s.heap)(hsz:s.heap.objs.size=n+6)
  (l:∀h' acc c,(∀(b:Nat) o,b<n->s.heap.get? b=some o->h'.get? b=some o)->h'.get? (n+6)=some { cls:=.type "list",dict:=none,data:=.seq acc c,slots:=#[] }->mF n xs ys zs acc xs.size h'->Q (.ref (n+6)) { s with heap:=h' }) :
  wpAny (model prog w) A (call (.type "list") [.ref (n+5)]) Q E s:=by
 show callType_codes (Q₁:=λobj d=>obj=.ref (n+6)/\d={ s with heap:=s.heap.push { cls:=.type "list",data:=.seq #[] } }) F.called_list (F.typeCall_list_1 _) F.entry_list_init
  (code_list_new _ ⟨by rw[hsz],rfl⟩) λobj d m=>?_
 obtain⟨rfl,rfl⟩:=m;have a:(s.heap.push { cls:=.type "list",data:=.seq #[] }).get? (n+6)=some { cls:=.type "list",data:=.seq #[] }:=by rw[<-hsz];show aF _ rfl
 show⟨⟨_,a,rfl⟩,F.args_list_init_2 _ _,VN (A:=A.in1) hh h g f hn k hz (aq _ j) (st.at h g f λc o _ e=>aq _ e) (by show n+6<(s.heap.push _).objs.size;rw[Heap.size_push,hsz];ext) a λh' acc c kk i ha=>?_⟩;show⟨rfl,l h' acc c (λb o hb e=>kk b o (.inl hb) (aq _ e)) i ha⟩
theorem W2(a b c:Value):checkTypeCall "zip" ⟨[a,b,c],[]⟩=pure ():=by kernel_rfl
theorem WB(a b c:Value):checkBuiltinCall "zip.__new__" ⟨[.type "zip",a,b,c],[]⟩=pure ():=by kernel_rfl
open PySem.F in
theorem Wh(a b c d:Value):argsOk "object.__init__" ⟨[a,b,c,d],[]⟩:=by
 unfold argsOk;rw[signature?_of (id:="object.__init__") (n:="__tini__".toList) (o:="tcejbo".toList) (by kernel_rfl) owner_object];kernel_rfl
noncomputable abbrev kM(h:Heap)(a:Addr):Heap:=h.push { cls:=.type "list_iterator",data:=.fields #[.ref a,.int 0 0] }
noncomputable abbrev Dy(h:Heap)(a b c:Addr):Heap:=(kM (kM (kM h a) b) c).push { cls:=.type "tuple",data:=.seq #[.ref h.objs.size,.ref (kM h a).objs.size,.ref (kM (kM h a) b).objs.size] }
noncomputable abbrev Dx(h:Heap)(a b c:Addr):Heap:=(Dy h a b c).push { cls:=.type "tuple",data:=.seq #[.none,.none,.none] }
noncomputable abbrev ur(h:Heap)(a b c:Addr):Heap:=(Dx h a b c).push { cls:=.type "zip",data:=.fields #[.none,.bool false,.bool false,.ref (kM (kM (kM h a) b) c).objs.size,.ref (Dy h a b c).objs.size] }
theorem VL(a b c:Addr)(xs ys zs:Array Value) :
  Meets (Builtin.«zip.__new__» ⟨[.type "zip",.ref a,.ref b,.ref c],[]⟩) (λ_ R s=>s.heap.IsList a xs/\s.heap.IsList b ys/\s.heap.IsList c zs/\
   R (.ok (.ret (.ref (Dx s.heap a b c).objs.size))) { s with heap:=ur s.heap a b c }):=
 .of_wp λprog w A R s h=>by
  obtain⟨e,g,d,tk,os⟩:=s;obtain⟨m,l,k,h⟩:=h;have n:=sub_zip;have j:Heap.IsList (Shared.heap ⟨e,g,d,tk,os⟩) a xs:=m;have i:Heap.IsList (Shared.heap ⟨kM e a,g,d,tk,os⟩) b ys:=Heap.IsList.push l _;have f:Heap.IsList (Shared.heap ⟨kM (kM e a) b,g,d,tk,os⟩) c zs:=(Heap.IsList.push k _).push _;wp_walk using wpAny_pyIter_list j,wpAny_pyIter_list i,wpAny_pyIter_list f
  show⟨_,rfl,h⟩
theorem UQ{a b c:Addr}{Q:Value->Shared->Prop}(n:s.heap.IsList a xs)(m:s.heap.IsList b ys)(l:s.heap.IsList c zs)
  (h:∀h',Zp h' s.heap.objs.size .none (.bool false)->Z3 s.heap.objs.size a b c xs ys zs 0 h'->h'.objs.size=s.heap.objs.size+6->(∀c o,s.heap.get? c=some o->h'.get? c=some o)->Q (.ref (s.heap.objs.size+5)) { s with heap:=h' }) :
  wpAny (model prog w) A (call (.type "zip") [.ref a,.ref b,.ref c]) Q E s:=by
 show callType_new F.called_zip (by decide) (W2 _ _ _) (WB _ _ _) (λobj=>Wh obj _ _ _) F.entry_zip_new (VL a b c xs ys zs) ⟨n,m,l,?_⟩;have k:(kM s.heap a).objs.size=s.heap.objs.size+1:=Heap.size_push ..;have j:(kM (kM s.heap a) b).objs.size=s.heap.objs.size+2:=by rw[Heap.size_push,k]
 have i:(kM (kM (kM s.heap a) b) c).objs.size=s.heap.objs.size+3:=by rw[Heap.size_push,j]
 have g:(Dy s.heap a b c).objs.size=s.heap.objs.size+4:=by rw[Heap.size_push,i]
 have f:(Dx s.heap a b c).objs.size=s.heap.objs.size+5:=by rw[Heap.size_push,g]
 have t:(ur s.heap a b c).objs.size=s.heap.objs.size+6:=by rw[Heap.size_push,f]
 have u:∀{h:Heap}{x:Addr}{o o':Obj},h.get? x=some o->(h.push o').get? x=some o:=λe=>aq _ e
 have d:(ur s.heap a b c).get? (Dx s.heap a b c).objs.size=some _:=aF _ rfl;have p:(ur s.heap a b c).get? (Dy s.heap a b c).objs.size=some _:=u (aF _ rfl);have q:(ur s.heap a b c).get? (kM (kM (kM s.heap a) b) c).objs.size=some _:=u (u (aF _ rfl));have g3:(ur s.heap a b c).get? (kM (kM s.heap a) b).objs.size=some _:=u (u (u (aF _ rfl)));have g2:(ur s.heap a b c).get? (kM s.heap a).objs.size=some _:=u (u (u (u (aF _ rfl))));have g1:(ur s.heap a b c).get? s.heap.objs.size=some _:=u (u (u (u (u (aF _ rfl)))));have kk:∀r o,s.heap.get? r=some o->(ur s.heap a b c).get? r=some o:=λc o e=>u (u (u (u (u (u e)))))
 show _/\_;rw[i,g,f] at d;rw[k,j,i] at q;rw[g] at p;rw[j] at g3;rw[k] at g2;rw[f];show⟨⟨_,d,rfl⟩,h _ d ⟨⟨_,_,d,.inl rfl⟩,q,⟨_,_,_,p⟩,⟨_,g1,rfl,rfl⟩,⟨_,g2,rfl,rfl⟩,⟨_,g3,rfl,rfl⟩,n.at λo e=>kk _ o e,m.at λo e=>kk _ o e,l.at λo e=>kk _ o e⟩ t kk⟩
end
noncomputable def tG:Hp->List Addr->List V->List V->List V->Hp
 | H,T::Ts,x::xs,y::ys,z::zs=>tG (upd H T (.tup [x,y,z])) Ts xs ys zs
 | H,_,_,_,_=>H
theorem Q8{v w u:V}{d:List Value}(r:Vals [v,w,u] d):∃a b c,d=[a,b,c]/\RelV v a/\RelV w b/\RelV u c:=by
 cases r with
 | cons g t=>cases t with
  | cons f t=>cases t with
   | cons e t=>cases t;show⟨_,_,_,rfl,g,f,e⟩
noncomputable def wG:List D->List D->List D->List D
 | a::as,b::bs,c::cs=>.tup [a,b,c]::wG as bs cs
 | _,_,_=>[]
section
variable{X:Cx}{K':List (Addr×Obj)}{σ:St}{H0:Hp}{s0 s:Shared}
theorem Ka(g:Inv X K' σ H0 s0):∀{Ts:List Addr}{xs ys zs:List V}{H:Hp},Inv X K' σ H s->Ts.Nodup->(∀T∈Ts,H T=none/\s0.heap.get? T=none)->
  (∀(i:Nat)(T:Addr)(x y z:V),Ts[i]?=some T->xs[i]?=some x->ys[i]?=some y->zs[i]?=some z->∃a b c,oB s.heap T a b c/\Vals [x,y,z] [a,b,c])->Inv X K' σ (tG H Ts xs ys zs) s
 | [],_,_,_,H,I,_,_,_=>by unfold tG;show I
 | T::Ts,[],_,_,H,I,_,_,_=>I
 | T::Ts,_::_,[],_,H,I,_,_,_=>I
 | T::Ts,_::_,_::_,[],H,I,_,_,_=>I
 | T::Ts,x::xs,y::ys,z::zs,H,I,nd,h0,f=>by
  rw[bj] at nd;obtain⟨a,b,c,q,v⟩:=f 0 T x y z rfl rfl rfl rfl;show Inv X K' σ (tG (upd H T (.tup [x,y,z])) Ts xs ys zs) s;show Ka g (I.tell g (h0 T aA).1 (h0 T aA).2 ⟨by show 3<=sizeLine;decide,[a,b,c],v,⟨_,q,rfl,_,rfl⟩⟩) nd.2 (λd h=>⟨?_,(h0 d (au _ h)).2⟩) λi d l k j p o n m=>f (i+1) d l k j p o n m
  rw[dy (λe:d=T=>nd.1 (by rw[<-e];show h))];show(h0 d (au _ h)).1
theorem F9:∀{Ts:List Addr}{xs ys zs:List V}{H:Hp}{p:Addr},p∉Ts->H p=none->tG H Ts xs ys zs p=none
 | [],_,_,_,H,p,_,h=>by unfold tG;show h
 | T::Ts,[],_,_,H,p,_,h=>h
 | T::Ts,_::_,[],_,H,p,_,h=>h
 | T::Ts,_::_,_::_,[],H,p,_,h=>h
 | T::Ts,x::xs,y::ys,z::zs,H,p,a,h=>F9 (H:=upd H T (.tup [x,y,z])) (λz=>a (au _ z)) (by rw[dy (λe:p=T=>a (by rw[e];show aA))];show h)
theorem J9{K:J'}:∀{Ts:List Addr}{xs ys zs:List V}{as bs cs:List D}{G H:Hp},cw G H->bX K G xs as->bX K G ys bs->bX K G zs cs->ys.length=xs.length->zs.length=xs.length->Ts.length=xs.length->Ts.Nodup->(∀T∈Ts,H T=none)->
  Ext G H (tG G Ts xs ys zs) (tG H Ts xs ys zs)/\bX K (tG G Ts xs ys zs) (Ts.map V.ref) (wG as bs cs)
 | [],[],[],[],as,bs,cs,G,H,s,f,rb,rc,_,_,_,_,_=>by
  cases as with
  | cons a r=>simp only[bX] at f
  | nil=>show⟨.refl s,by simp only[bX,bL,wG]⟩
 | T::Ts,x::xs,y::ys,z::zs,as,bs,cs,G,H,s,f,rb,rc,k,j,i,nd,hn=>by
  cases as with
  | nil=>simp only[bX] at f
  | cons a as=>
  cases bs with
  | nil=>simp only[bX] at rb
  | cons b bs=>
  cases cs with
  | nil=>simp only[bX] at rc
  | cons c cs=>
  simp only[bX] at f rb rc;rw[bj] at nd;have d:Ext G H (upd G T (.tup [x,y,z])) (upd H T (.tup [x,y,z])):=.new s (hn T aA);obtain⟨l,n⟩:=J9 (K:=K) (Ts:=Ts) (xs:=xs) (ys:=ys) (zs:=zs) (as:=as) (bs:=bs) (cs:=cs) d.s (f.2.mono d.g) (rb.2.mono d.g) (rc.2.mono d.g) (by simpa using k) (by simpa using j) (by simpa using i) nd.2 λm h=>by
   rw[dy (λe:m=T=>nd.1 (by rw[<-e];show h))];show hn m (au _ h)
  show⟨d.trans l,?_⟩;show bX K _ (.ref T::Ts.map V.ref) (.tup [a,b,c]::wG as bs cs);simp only[bX];show⟨?_,n⟩;have:Rep K (upd G T (.tup [x,y,z])) (.ref T) (.tup [a,b,c]):=by
   simp only[Rep];show⟨T,_,rfl,gX,by simp only[bX];show⟨f.1.mono d.g,rb.1.mono d.g,rc.1.mono d.g,trivial⟩⟩
  show this.mono l.g
 | [],_::_,_,_,_,_,_,_,_,_,_,_,_,_,_,i,_,_=>by simp at i
 | _::_,[],_,_,_,_,_,_,_,_,_,_,_,_,_,i,_,_=>by simp at i
 | [],[],_::_,_,_,_,_,_,_,_,_,_,_,k,_,_,_,_=>by simp at k
 | [],[],[],_::_,_,_,_,_,_,_,_,_,_,_,j,_,_,_=>by simp at j
 | _::_,_::_,[],_,_,_,_,_,_,_,_,_,_,k,_,_,_,_=>by simp at k
 | _::_,_::_,_::_,[],_,_,_,_,_,_,_,_,_,_,j,_,_,_=>by simp at j
end
section
variable{X:Cx}{p p2 pos jP:Pos}{a b c:Expr}
def Q7(K:J')(b:TA):TE:=λσ H Q=>b σ H λa H1=>∃p q r xs ys zs,a=[.ref p,.ref q,.ref r]/\eP K H1 p xs/\eP K H1 q ys/\eP K H1 r zs/\ys.length=xs.length/\zs.length=xs.length/\
 ∀(Ts:List Addr) l,Ts.length=xs.length->Ts.Nodup->(∀T∈Ts,H1 T=none)->l∉Ts->H1 l=none->Q (.ref l) (upd (tG H1 Ts xs ys zs) l (.lst (Ts.map V.ref)))
theorem Rp{n:Nat}{xs ys zs acc:Array Value}{k:Nat}{h:Heap}(ha:mF n xs ys zs acc k h):∃Ts:List Addr,acc.toList=Ts.map Value.ref:=by
 have:∀l:List Value,(∀v∈l,∃T,v=Value.ref T)->∃Ts:List Addr,l=Ts.map Value.ref:=λl=>by
  induction l with
  | nil=>show λ_=>⟨[],rfl⟩
  | cons v r b=>
   intro a;obtain⟨T,rfl⟩:=a v aA;obtain⟨Ts,rfl⟩:=b λu c=>a u (au _ c)
   show⟨T::Ts,rfl⟩
 show this _ λv a=>?_
 obtain⟨i,d⟩:=aQ a;obtain⟨T,_,_,_,e,_⟩:=ha.at_ i v (by simpa using d);show⟨T,e⟩
theorem MX:∀Ts:List Addr,Vals (Ts.map V.ref) (Ts.map Value.ref)
 | []=>.nil
 | T::Ts=>.cons rfl (MX Ts)
theorem SW{v:TA}(hc:X.calm=true)(hm:X.mg "list"=none)(W:X.mg "zip"=none)(ha:PA X [a,b,c] v)(hg:Gl X "list")(R:Gl X "zip")(gh:starEach [a,b,c] X.env=(false,eval a X.env)::starEach [b,c] X.env)(hZ:(backTo jP (starEach [b,c] X.env)).any (·.1)=false)
  (C:starEach [Expr.Call (.Name "zip" p2) [a,b,c] [] jP] X.env=(false,eval (.Call (.Name "zip" p2) [a,b,c] [] jP) X.env)::starEach [] X.env):PE X (.Call (.Name "list" p) [.Call (.Name "zip" p2) [a,b,c] [] jP] [] pos) (Q7 X.K v):=by
 intro D s σ H Q I h;show wpAny_Call_Name_kw (rR I hg hm boot_list (bz ?_ C rfl));rw[C];show wpAny _ _ (spliced ((false,eval _ X.env)::backTo pos (starEach [] X.env))) _ _ s;show Calls.spliced_cons (wpAny_Call_Name_kw (rR I R W boot_zip (bz (cW (ha jP D s σ H _ I h) λus s1 m=>?_) gh hZ)));obtain⟨vs,H1,I1,P,g⟩:=m;obtain⟨x,y,z,xs,ys,zs,rfl,hx,Z,hz,l1,l2,Y⟩:=g;obtain⟨u1,u2,u3,rfl,O,N,M⟩:=Q8 P;cases O;cases N;cases M;obtain⟨Y1,v1,B,z1⟩:=I1.list hx;obtain⟨Y0,v2,p2,z2⟩:=I1.list Z;obtain⟨YZ,u,A,z3⟩:=I1.list hz;have e1:=v1.length;have e2:=v2.length;have e3:=u.length;have lt:∀{l:Addr}{is:Array Value},s1.heap.IsList l is->l<s1.heap.objs.size:=λm=>by obtain⟨o,ho,_⟩:=m;show aI ho
 show UQ B.isList p2.isList A.isList λh' L st hsz kk=>?_
 show Calls.spliced_nil ?_;show VM (I.ok.hd hc) (lt B.isList) (lt p2.isList) (lt A.isList) (by simp;ext) (by simp;ext) (by simp;ext) L st hsz λf acc c k2 hS ha=>?_
 obtain⟨Ts,IT⟩:=Rp ha;have E:acc=(Ts.map Value.ref).toArray:=by rw[<-IT]
 subst E;have k3:∀b o,s1.heap.get? b=some o->f.get? b=some o:=λb o e=>k2 b o (aI e) (kk b o e)
 have new:∀{T:Addr},s1.heap.objs.size<=T->H1 T=none/\s1.heap.get? T=none:=λ{T} h=>⟨I1.cN.fresh h,by
  cases q:s1.heap.get? T with
  | none=>rfl
  | some o=>show absurd (aS (aI q) h) (Nat.lt_irrefl _)⟩
 have Yi:Ts.length=xs.length:=by
  have:=ha.size;simp only[aB,ae] at this;ext
 have at_:∀(i:Nat) T,Ts[i]?=some T->∃(x y z:Value),s1.heap.objs.size+6<T/\Y1[i]?=some x/\Y0[i]?=some y/\YZ[i]?=some z/\oB f T x y z:=λi T d=>by
  obtain⟨T',x,y,z,e,l,a1,a2,a3,q⟩:=ha.at_ i (.ref T) (by simp[d]);cases e;show⟨x,y,z,l,by simpa using a1,by simpa using a2,by simpa using a3,q⟩
 have big:∀T∈Ts,s1.heap.objs.size+6<T:=λT d=>by
  obtain⟨i,k⟩:=aQ d;obtain⟨_,_,_,l,_⟩:=at_ i T k;show l
 have nd:Ts.Nodup:=by
  rw[bu,List.pairwise_iff_getElem];intro i j k hj tU e;have:=ha.inj i j Ts[i] (by simp[k]) (by simp[hj,<-e]);ext
 have I2:Inv X D σ H1 { s1 with heap:=f }:=I1.kept (t':=s1.toks) k3;have I3:=Ka (xs:=xs) (ys:=ys) (zs:=zs) I1 I2 nd (λT d=>new (aR (Nat.le_add_right _ 6) (Nat.le_of_lt (big T d)))) λi T x y z d g U S=>by
  obtain⟨x',y',z',_,a1,a2,a3,q⟩:=at_ i T d;obtain⟨y1,t,J⟩:=v1.get g;obtain⟨y2,r,G⟩:=v2.get U;obtain⟨y3,n,F⟩:=u.get S;rw[a1] at t;rw[a2] at r;rw[a3] at n;cases t;cases r;cases n;show⟨_,_,_,q,.cons J (.cons G (.cons F .nil))⟩
 have ln:s1.heap.objs.size+6∉Ts:=λhm=>absurd (big _ hm) (Nat.lt_irrefl _)
 have nl:=new (Nat.le_add_right s1.heap.objs.size 6);show⟨.ref _,_,I3.tell I1 (F9 ln nl.1) nl.2 (show df X.prog X.w _ f _ (.lst (Ts.map V.ref)) from⟨by simp;ext,Ts.map Value.ref,c,MX Ts,hS⟩),rfl,Y Ts _ Yi nd (λT d=>(new (aR (Nat.le_add_right _ 6) (Nat.le_of_lt (big T d)))).1) ln nl.1⟩
def CD(b:ix):TD:=λa Q=>b a λds=>match ds with
 | [.lst as,.lst bs,.lst cs]=>bs.length=as.length/\cs.length=as.length/\Q (.ow (wG as bs cs))
 | _=>False
theorem SV{g:ix}(I:X.calm=true)(hm:X.mg "list"=none)(B:X.mg "zip"=none)(ha:md X [a,b,c] g)(hg:Gl X "list":=by rfl)(w:Gl X "zip":=by rfl)(N:starEach [a,b,c] X.env=(false,eval a X.env)::starEach [b,c] X.env:=by rfl)(J:(backTo jP (starEach [b,c] X.env)).any (·.1)=false:=by rfl)
  (D:starEach [Expr.Call (.Name "zip" p2) [a,b,c] [] jP] X.env=(false,eval (.Call (.Name "zip" p2) [a,b,c] [] jP) X.env)::starEach [] X.env:=by rfl):PD X (.Call (.Name "list" p) [.Call (.Name "zip" p2) [a,b,c] [] jP] [] pos) (CD g):=by
 obtain⟨t,pp,q⟩:=ha;show⟨_,SW I hm B pp hg w N J D,λn σ T R G H Q P E h k=>q n σ T R G H _ _ E h λU H' ds Z x rs f=>?_⟩;split at f
 .obtain⟨Y,W,V,rfl,m,d,j⟩:=J5 rs;simp only[Rep] at m d j;obtain⟨A,xs,rfl,M,i⟩:=m;obtain⟨p2,ys,rfl,L,rb⟩:=d;obtain⟨z,zs,rfl,K,rc⟩:=j;have g1:=i.length;have g2:=rb.length;have g3:=rc.length;show⟨A,p2,z,xs,ys,zs,rfl,(x.s.fZ M).sq,(x.s.fZ L).sq,(x.s.fZ K).sq,by ext,by ext,λTs l tl nd hn F C=>?_⟩;obtain⟨e,d⟩:=J9 x.s i rb rc (by ext) (by ext) tl nd hn;show CS e.s d f.2.2 (λv O r S o u y=>k v O r S ((x.trans e).trans o) (u.iq (x.h.trans e.h)) y) l (F9 F C)
 show f.elim
end
section
variable{X:Cx}{elt iter tg:Expr}{ifs:List Expr}{scope:Scope}{pos:Pos}{N':List Str}{m:List (Option Nat)}{wi:kd}{g:jI}{tc:iU}{te:TD}{W:Hp->Prop}{Qx:Prop}
theorem UP(i:Nat){x:Str}{b d:Pos}(C:X.calm=true)(cs:cK X N' m scope)(z:qt m g)(A:PId X tg iter wi)(hg:∀s3 a ex,uT (lG X N' scope s3 a ex (An X scope s3)) tg g)(ht:∀s3 a ex,xW (lG X N' scope s3 a ex (An X scope s3)) ifs tc)
  (he:∀s3 a ex,OI (lG X N' scope s3 a ex (An X scope s3)) (Wo W Qx) (B4 X s3 a ex) elt te) (F:X.N.Nodup:=by assumption) (p:X.N[i]?=some x:=by rfl) (u:Loc X.env.scope x:=by first | show Or.inl rfl | show Or.inr rfl) (w:∀x,foldedSetIterable iter X.env x=pure x:=by intro _;rfl)
  (l:swapsWith (.ListComp elt [⟨tg,iter,ifs,0⟩] scope pos) (some (.Name x b)) d.line X.env=pure true:=by rfl)
  (B:X.fn x=true\/X.env.scope.names.lookup x=some .local:=by first | show .inl rfl | show .inr rfl | assumption) :
  BV X (Wo W Qx) (.Assign [.Name x b] (.ListComp elt [⟨tg,iter,ifs,0⟩] scope pos) d) (fg i (gY wi m g tc te)):=by
 obtain⟨ww,s,q⟩:=A;show⟨_,MB (g:=λs3 a ex=>(hg s3 a ex).choose) (tc:=λs3 a ex=>(ht s3 a ex).choose) (te:=λs3 a ex=>(he s3 a ex).choose) (λ_ _ _ h=>h) F p u C cs s (λs3 a ex=>(hg s3 a ex).choose_spec.1) (λs3 a ex=>(ht s3 a ex).choose_spec.1) (λs3 a ex=>(he s3 a ex).choose_spec.1) w l B,λQ σ S R G H D E k h I hw=>?_⟩;show LV cs z q (λs3 a ex=>(hg s3 a ex).choose_spec.2) (λs3 a ex=>(ht s3 a ex).choose_spec.2) (λs3 a ex ρ' J O H1 f H' K L j P h' t=>(he s3 a ex).choose_spec.2 ρ' J O H1 f H' K L P h' t (hw.mono (k.e.trans j))) k h λv H' r f x o y=>?_
 obtain⟨M,c,n,_⟩:=o.freeze x;show I.nx _ _ M H' c.g (k.put c (r:=.fz r.val) n) y
end
end L2
section
namespace Wc
open PySem L2
noncomputable def cz(l:List Nat):Str:=⟨l.toArray⟩
theorem mi(l:List Nat):(cz l).cps.toList=l:=by simp[cz]
theorem gG(l:List Nat):(cz l).length=l.length:=by simp[cz,Str.length]
theorem La(a b:List Nat):cz a++cz b=cz (a++b):=by
 show(⟨(cz a).cps++(cz b).cps⟩:Str)=_;simp[cz]
theorem zM{a b:List Nat}:cz a=cz b↔a=b:=by
 constructor
 .intro h;have:(cz a).cps.toList=(cz b).cps.toList:=by rw[h]
  simpa[cz] using this
 rintro rfl;rfl
theorem CC(w:Str):cz w.cps.toList=w:=by cases w;simp[cz]
theorem AQ(c:Nat):(⟨#[c]⟩:Str)=cz [c]:=rfl
theorem wM{α β:Type}(f:α->β)(l:List α)(i:Int):et (l.map f) i=(et l i).map f:=by
 unfold et;rw[ae];cases nC l.length i with
 | none=>rfl
 | some j=>simp
theorem Q6{α β:Type}{f:α->β}{o:Option α}{p:β->Prop}:(∃d,o.map f=some d/\p d)↔∃x,o=some x/\p (f x):=by
 cases o with
 | none=>simp
 | some x=>simp
theorem P2{α β:Type}{f:α->β}{l:List α}{i:Int}{p:β->Prop}:(∃d,et (l.map f) i=some d/\p d)↔∃x,et l i=some x/\p (f x):=by rw[wM];show Q6
theorem yH{α:Type}{l:List α}{i:Int}(b:0<=i)(a:i<l.length):∃h:i.toNat<l.length,et l i=some (l[i.toNat]'h):=by
 show⟨by ext,?_⟩;unfold et nC;rw[if_pos b,if_pos a];simp only[Option.bind_some];show af _
theorem Ro{α:Type}{l:List α}{i:Int}(b:0<=i)(a:i<l.length):∃z,et l i=some z/\z∈l:=by
 obtain⟨h,e⟩:=yH b a;show⟨_,e,aV h⟩
theorem P1{α:Type}{l:List α}{n:Nat}(i:Int)(a:n<=l.length)(h:0<n):∃z,et l (i%(n:Int))=some z/\z∈l:=
 Ro (Int.emod_nonneg _ (by ext)) (by have:=Int.emod_lt_of_pos i (show(0:Int)<n by ext);ext)
theorem zg{α:Type}{l:List α}(i:Int)(a:l.length=8):∃z,et l (i%3)=some z/\z∈l:=P1 (n:=3) i (by ext) (by ext)
theorem rT{α:Type}{l:List α}{j:Nat}(h:j<l.length):et l (j:Int)=some l[j]:=by
 obtain⟨h',e⟩:=yH (l:=l) (i:=(j:Int)) (by ext) (by ext);simpa using e
theorem CP{n d:Nat}{j:Int}(h:0<=j):HT.dS n d (some j)=min j.toNat n:=by show(if j<0 then _ else _)=_;rw[if_neg (by ext)]
theorem zL{α:Type}(l:List α){j:Int}(h:0<=j):jJ l none (some j)=l.take j.toNat:=by
 unfold jJ;rw[CP h];show((l.drop 0).take (min j.toNat l.length-0))=_;rw[List.drop_zero,Nat.sub_zero,Nat.min_comm];by_cases a:l.length<=j.toNat
 .rw[Nat.min_eq_left a,List.take_of_length_le a,List.take_of_length_le (aD _)]
 rw[Nat.min_eq_right (by ext)]
theorem MW{α:Type}(l:List α){j:Int}(h:0<=j):jJ l (some j) none=l.drop j.toNat:=by
 unfold jJ;rw[CP h];show((l.drop (min j.toNat l.length)).take (l.length-_))=_;by_cases a:l.length<=j.toNat
 .rw[Nat.min_eq_right a,List.drop_of_length_le a,List.drop_of_length_le (aD _)];simp
 rw[Nat.min_eq_left (by ext),List.take_of_length_le (by simp)]
theorem Me{α:Type}(l:List α){i j:Int}(d:0<=i)(h:0<=j):jJ l (some i) (some j)=(l.drop i.toNat).take (j.toNat-i.toNat):=by
 unfold jJ;rw[CP h,CP d];by_cases b:l.length<=i.toNat
 .rw[Nat.min_eq_right b,List.drop_of_length_le b,List.drop_of_length_le (aD _)];simp
 rw[Nat.min_eq_left (a:=i.toNat) (by ext)];by_cases c:l.length<=j.toNat
 .rw[Nat.min_eq_right c,List.take_of_length_le (by simp),List.take_of_length_le (by simp;ext)]
 rw[Nat.min_eq_left (by ext)]
theorem K9(l:List Nat){j:Int}(h:0<=j):pC (cz l) none (some j)=cz (l.take j.toNat):=by unfold pC;rw[mi,zL _ h];rfl
theorem MV(l:List Nat){j:Int}(h:0<=j):pC (cz l) (some j) none=cz (l.drop j.toNat):=by unfold pC;rw[mi,MW _ h];rfl
theorem SU(l:List Nat){i j:Int}(a:0<=i)(h:0<=j):pC (cz l) (some i) (some j)=cz ((l.drop i.toNat).take (j.toNat-i.toNat)):=by unfold pC;rw[mi,Me _ a h];rfl
theorem SS{α β:Type}(f:α->β)(l:List α)(a b:Option Int):jJ (l.map f) a b=(jJ l a b).map f:=by unfold jJ;rw[ae,List.map_take,List.map_drop]
theorem Rn(n:Nat)(i:Int):gK n (.int i)=True:=by cases n<;>show eq_true trivial
theorem Rm(n:Nat)(i:Str):gK n (.str i)=True:=by cases n<;>show eq_true trivial
theorem PZ(n:Nat)(i:Bool):gK n (.bl i)=True:=by cases n<;>show eq_true trivial
theorem Rl(n:Nat):gK n .non=True:=by cases n<;>show eq_true trivial
theorem K8{α:Type}[BEq α][LawfulBEq α][DecidableEq α](a b:α):(a==b)=decide (a=b):=by rw[Bool.eq_iff_iff];simp
theorem Rk(a b:Str):eC (.str a) (.str b)=decide (a=b):=by simp only[eC,K8]
theorem Rj(a b:Int):eC (.int a) (.int b)=decide (a=b):=by simp only[eC,K8]
theorem iW:sizeLine=16777216:=by decide
@[irreducible] def tu(u:TX)(D:DE):Ev->Prop:=u D
theorem PY(t u:TX)(D:DE)(a:Ev):cL t u D a=t { nx:=tu u D,rt:=D.rt,bk:=D.bk,ct:=D.ct } a:=by unfold tu;rfl
end Wc
open PySem L2 Wc
local macro_rules | `(tactic| walk_at"b")=>`(tactic| simp only[PY,fR,pE,n8,vZ,dw,zG,dC,Q1,yw,Qo,Qn,fE,cf,cp,bY,ao,bL,List.cons_append,List.nil_append,List.set,gt,ja,jq,oI,cj,dZ,eu,gj,mT,fg,jc,kj,gW,tD,dh,jG,fm,kg,OW,qZ,oEq,uC,d0,ni,oz,lr,fc,tE,ED,EC,Jh,Cs,Ci,dM,uf,yf,wz,lF,zl,Cp,iD,jZ,Cv,oH,rP,u4,Cg,Qm,Q0,QZ,YI,YH,rO,iB,Int.reduceLT,Int.reduceLE,Int.reduceAdd,Int.reduceSub,Int.reduceMul,Int.reduceNeg,Int.reducePow,Int.reduceToNat,decide_true,decide_false,true_and,and_true,and_self,or_true,true_or,Rn,Rm,PZ,Rl,P2,aU,bG,bP,Bool.not_true,Bool.not_false,av,bh,Nat.reduceAdd,br,Rj,Rk,SS,GA,wU,ye,EM])
local macro_rules | `(tactic| walk_at"all")=>`(tactic| ((try walk_at"px");repeat(simp only[tu];try walk_at"px")))
local macro_rules | `(tactic| walk_at"px")=>`(tactic| walk_at"b")
local macro_rules | `(tactic| walk_at"go")=>`(tactic| (simp only[tu];walk_at"px"))
namespace Wc
open PySem L2
noncomputable def wq(c k:Int):Int:=(c%1000000000000000000000000000000*(k*k+48271)+7919*k*k*k+11)%2147483647/7
theorem Fg(c k:Int):0<=wq c k:=Int.ediv_nonneg (Int.emod_nonneg _ (by decide)) (by decide)
def tP:e8:=λds Q=>∃c k:Int,ds=[.int c,.int k]/\0<=k/\k<=1000000/\Q (.fz (.int (wq c k)))
def Gx:TX:=(eu (cj (oI rO λi j=>.int (i/j)) (cj (oI (λ_ j=>0<j) λi j=>.int (i%j)) (cj dZ (cj dZ (cj (oI iB λi j=>.int (i*j)) (cj (oI (λ_ j=>0<j) λi j=>.int (i%j)) (bY 0) (cj (oI wx λi j=>.int (i ^ j.toNat)) (dC (.int 10)) (dC (.int 30)))) (cj dZ (cj (oI iB λi j=>.int (i*j)) (bY 1) (bY 1)) (dC (.int 48271)))) (cj (oI iB λi j=>.int (i*j)) (cj (oI iB λi j=>.int (i*j)) (cj (oI iB λi j=>.int (i*j)) (dC (.int 7919)) (bY 1)) (bY 1)) (bY 1))) (dC (.int 11))) (dC (.int 2147483647))) (dC (.int 7))))
abbrev iV(n:Nat)(b:e8)(T:TX)(N:List Str):Prop:=∀(ds:List D)(a:R->Prop),ds.length=n->b ds a->T { nx:=λ_=>a (.fz .non),rt:=a } (tJ N ds)
theorem WA:iV 2 tP Gx ["_law_cell","_law_k"]:=by
 intro ds e hl h;obtain⟨c,k,rfl,h0,b,q⟩:=h;show Gx _ [.fz (.int c),.fz (.int k)];unfold Gx;walk_at"all";have d:k*k<=1000000*1000000:=Int.mul_le_mul b b h0 (by decide);have f:0<=k*k:=Int.mul_nonneg h0 h0;show⟨.inl ⟨by ext,by ext⟩,.inr ⟨by ext,by ext⟩,.inr ⟨by ext,by ext⟩,.inr ⟨by ext,by ext⟩,?_⟩;show q
open PyProof.Rows
noncomputable def dI(l:List Int):D:=.lst (l.map .int)
noncomputable def dKp(p:Int×Int×Int):D:=.tup [.int p.1,.int p.2.1,.int p.2.2]
noncomputable def dK(l:List (Int×Int×Int)):D:=.lst (l.map dKp)
theorem F8{α:Type}{h:kd}{g:jI}{j:TX}{D:DE}{c:Ev}(L:List α)(b:α->L2.D)(hw:∀k:List L2.D->Prop,k (oj (L.map b))->h c k)(a:Nat->Ev->Prop)(l:a 0 c)
  (turn:∀(i:Nat) x ρ',L[i]?=some x->a i ρ'->g (.tup [.int i,b x]) ρ' λm=>j { D with nx:=a (i+1),ct:=a (i+1),bk:=D.nx } m) (fin:∀ρ',a L.length ρ'->D.nx ρ'):jb h g j D c:=by
 show LQ (oj (L.map b)) hw a l (λi d ρ' hd e=>?_) (λρ' e=>fin ρ' (by simpa[oj] using e));unfold oj at hd;rw[List.getElem?_mapIdx,ar] at hd;cases f:L[i]? with
 | none=>rw[f] at hd;cases hd
 | some x=>rw[f] at hd;cases hd;show turn i x ρ' f e
def EF(g:jI)(c:TX)(D:DE)(b:Ev)(ds:List L2.D):Prop:=∃a:Nat->Ev->Prop,a 0 b/\
 (∀i d ρ',ds[i]?=some d->a i ρ'->g d ρ' λe=>c { D with nx:=a (i+1),ct:=a (i+1),bk:=D.nx } e)/\∀ρ',a ds.length ρ'->D.nx ρ'
theorem VJ{α:Type}{g:jI}{h:TX}{D:DE}{f:Ev}(L:List α)(e:α->L2.D)(a:Nat->Ev->Prop)(j:a 0 f)
  (turn:∀i x ρ',L[i]?=some x->a i ρ'->g (e x) ρ' λk=>h { D with nx:=a (i+1),ct:=a (i+1),bk:=D.nx } k) (fin:∀ρ',a L.length ρ'->D.nx ρ'):EF g h D f (L.map e):=by
 show⟨a,j,λi d ρ' hd b=>?_,λρ' b=>fin ρ' (by simpa using b)⟩;rw[ar] at hd;cases c:L[i]? with
 | none=>rw[c] at hd;cases hd
 | some x=>rw[c] at hd;cases hd;show turn i x ρ' c b
theorem Md{α:Type}(l:List α)(a:α->D):oj (l.map a)=l.zipIdx.map λp=>.tup [.int (p.2:Nat),a p.1]:=by
 unfold oj;apply List.ext_getElem
 .simp
 intro i c b;simp
theorem SR{α:Type}(a:α)(r:List α):et (a::r) 0=some a:=by
 unfold et nC;rw[if_pos (by decide),if_pos (by simp only[av];ext)];rfl
theorem Cj(o:OV):(R.ov o).sl=.ov o:=rfl
theorem CB(o:OV):(R.ov o).val=o.val:=rfl
inductive Cn{α:Type}(E:List (α×α)):α->α->Prop
 | refl (a:α):Cn E a a
 | step {a b c:α}:Cn E a b->(b,c)∈E\/(c,b)∈E->Cn E a c
section
variable{α β:Type}{E:List (α×α)}{F:List (β×β)}{a b c:α}
theorem Cn.trans(h:Cn E a b)(k:Cn E b c):Cn E a c:=by
 induction k with
 | refl=>show h
 | step _ e d=>show .step d e
theorem Cn.symm(h:Cn E a b):Cn E b a:=by
 induction h with
 | refl=>show .refl _
 | step _ e c=>show(Cn.step (.refl _) e.symm).trans c
theorem PV{lab:α->α}(d:∀x y,(x,y)∈E->lab x=lab y)(c:∀x,Cn E x (lab x)):lab a=lab b↔Cn E a b:=by
 constructor
 .intro h;show(c a).trans ?_;rw[h];show(c b).symm
 intro h;induction h with
 | refl=>rfl
 | step _ e f=>
  rw[f];rcases e with e | e
  .exact d _ _ e
  show(d _ _ e).symm
end
structure ke{κ α:Type}[DecidableEq κ](l:List (κ×α))(kvs:List (κ×List α)):Prop where
 nd:(kvs.map (·.1)).Nodup
 is:∀p∈kvs,p.2=(l.filter λq=>decide (q.1=p.1)).map (·.2)
 all:∀p∈l,∃g,(p.1,g)∈kvs
 ex:∀p∈kvs,∃q∈l,q.1=p.1
section
variable{κ wj α:Type}[DecidableEq κ][DecidableEq wj]{l:List (κ×α)}{kvs:List (κ×List α)}{m:List (wj×α)}{YV:List (wj×List α)}
theorem ke.nil:ke (κ:=κ) (α:=α) [] []:=⟨by simp,by simp,by simp,by simp⟩
theorem KD{p q:κ×List α}(nd:(kvs.map (·.1)).Nodup)(c:p∈kvs)(b:q∈kvs)(e:p.1=q.1):p=q:=by
 induction kvs with
 | nil=>cases c
 | cons a r d=>
  rw[ao,bj] at nd;rcases az.mp c with rfl | c
  .rcases az.mp b with rfl | b
   .rfl
   show absurd (aE.mpr ⟨q,b,e.symm⟩) nd.1
  rcases az.mp b with z | b
  .exact absurd (aE.mpr ⟨p,c,by rw[e,z]⟩) nd.1
  show d nd.2 c b
theorem ke.fresh(G:ke l kvs){k:κ}{e:α}(h:∀p∈kvs,p.1≠k):ke (l++[(k,e)]) (kvs++[(k,[e])]):=by
 have f:∀p∈l,p.1≠k:=λp a z=>by
  obtain⟨g,hg⟩:=G.all p a;show h _ hg z
 show⟨?_,λp a=>?_,λp a=>?_,λp a=>?_⟩
 .rw[aH,List.nodup_append];show⟨G.nd,by simp,λx d y c z=>?_⟩;obtain⟨p,a,rfl⟩:=aE.mp d;simp at c;show h p a (z.trans c)
 .rw[List.filter_append,aH];rcases aJ.mp a with a | a
  .rw[<-G.is p a];have:decide (k=p.1)=false:=aG λz=>h p a z.symm
   simp[List.filter_cons,this]
  simp at a;subst a;have:(l.filter λq=>decide (q.1=k))=[]:=List.filter_eq_nil_iff.mpr λq b=>by simpa using f q b
  simp[this]
 .rcases aJ.mp a with a | a
  .obtain⟨g,hg⟩:=G.all p a;show⟨g,bE _ hg⟩
  simp at a;subst a;show⟨[e],by simp⟩
 rcases aJ.mp a with a | a
 .obtain⟨q,b,i⟩:=G.ex p a;show⟨q,bE _ b,i⟩
 simp at a;subst a;show⟨(k,e),by simp,rfl⟩
theorem ke.more(G:ke l kvs){k:κ}{e:α}{n:Nat}{g:List α}(h:kvs[n]?=some (k,g)):ke (l++[(k,e)]) (kvs.set n (k,g++[e])):=by
 have hn:n<kvs.length:=(aj.mp h).1;have m:(k,g)∈kvs:=aw h;have keys:(kvs.set n (k,g++[e])).map (·.1)=kvs.map (·.1):=by
  rw[List.map_set];apply List.ext_getElem?;intro i;rw[List.getElem?_set];split
  .rename_i z;subst z;rw[if_pos (by simpa using hn),ar,h];rfl
  rfl
 have other:∀p∈kvs.set n (k,g++[e]),p=(k,g++[e])\/(p∈kvs/\p.1≠k):=λp a=>by
  obtain⟨i,b⟩:=aQ a;rw[List.getElem?_set] at b;split at b
  .rename_i z;subst z;simp[hn] at b;show .inl b.symm
  rename_i z;show .inr ⟨aw b,λo=>z ?_⟩;have c:(kvs.map (·.1))[i]?=some k:=by rw[ar,b];simp[o]
  have j:(kvs.map (·.1))[n]?=some k:=by rw[ar,h];rfl
  have s:i<(kvs.map (·.1)).length:=(aj.mp c).1;have r:n<(kvs.map (·.1)).length:=(aj.mp j).1;show(List.getElem?_inj r G.nd).mp (by rw[c,j])
 show⟨by rw[keys];show G.nd,λp a=>?_,λp a=>?_,λp a=>?_⟩
 .rw[List.filter_append,aH];rcases other p a with rfl | ⟨a,f⟩
  .have:=G.is _ m;simp only at this;simp[<-this]
  rw[<-G.is p a];have:decide (k=p.1)=false:=aG λz=>f z.symm
  simp[List.filter_cons,this]
 .have:p.1∈(kvs.set n (k,g++[e])).map (·.1):=by
   rw[keys];rcases aJ.mp a with a | a
   .obtain⟨g,hg⟩:=G.all p a;show aE.mpr ⟨_,hg,rfl⟩
   simp at a;subst a;show aE.mpr ⟨_,m,rfl⟩
  obtain⟨q,d,c⟩:=aE.mp this;show⟨q.2,by rw[<-c];show d⟩
 rcases other p a with rfl | ⟨a,f⟩
 .exact⟨(k,e),by simp,rfl⟩
 obtain⟨q,d,c⟩:=G.ex p a;show⟨q,bE _ d,c⟩
end
section
variable{κ:Type}{E:List (κ×κ)}{nb:κ->List κ}{F F0:κ->Option κ}{iT:κ}{wt:List κ}
def CA(E:List (κ×κ))(nb:κ->List κ)(F:κ->Option κ):Prop:=∀x a,F x=some a->Cn E x a/\∀y∈nb x,F y=some a
structure rL(E:List (κ×κ))(nb:κ->List κ)(F0 F:κ->Option κ)(iT:κ)(wt:List κ):Prop where
 old:∀x,F0 x≠none->F x=F0 x
 new:∀x y,F x=some y->F0 x=none->y=iT/\Cn E iT x
 xP:∀x y,F x≠none->F0 x=none->y∈nb x->F y≠none\/y∈wt
 wait:∀x∈wt,Cn E iT x
 fst:F iT≠none\/iT∈wt
theorem rL.start:rL E nb F F iT [iT]:=⟨λ_ _=>rfl,λx y b a=>(by rw[b] at a;cases a),λx y b a=>absurd a b,λx c=>by
 have:x=iT:=by simpa using c
 rw[this]
 show .refl _,.inr (by simp)⟩
theorem rL.skip{x:κ}(D:rL E nb F0 F iT (wt++[x]))(h:F x≠none):rL E nb F0 F iT wt:=by
 show⟨D.old,D.new,λa b e d c=>?_,λa ha=>D.wait a (bE _ ha),?_⟩
 .rcases D.xP a b e d c with z | z
  .exact .inl z
  rcases aJ.mp z with z | z
  .exact .inr z
  have:b=x:=by simpa using z
  rw[this];show .inl h
 rcases D.fst with z | z
 .exact .inl z
 rcases aJ.mp z with z | z
 .exact .inr z
 have:iT=x:=by simpa using z
 rw[this];show .inl h
theorem rL.take[DecidableEq κ]{x:κ}(hn:∀x y,y∈nb x->(x,y)∈E\/(y,x)∈E)(D:rL E nb F0 F iT (wt++[x]))(h:F x=none):rL E nb F0 (λy=>if y=x then some iT else F y) iT (wt++nb x):=by
 have h0:F0 x=none:=by
  cases e:F0 x with
  | none=>rfl
  | some a=>
   have:=D.old x (by rw[e];show nofun);rw[h,e] at this;cases this
 have j:Cn E iT x:=D.wait x (by simp);show⟨λy d=>?_,λy z c f=>?_,λa b c f g=>?_,λa ha=>?_,?_⟩
 .have:y≠x:=λz=>by rw[z,h0] at d;show d rfl
  simp only[if_neg this];show D.old y d
 .by_cases e:y=x
  .subst e;simp only[bP,aN] at c;show⟨c.symm,j⟩
  simp only[if_neg e] at c;show D.new y z c f
 .by_cases e:b=x
  .simp only[if_pos e];show .inl nofun
  simp only[if_neg e];by_cases i:a=x
  .subst i;show .inr (aY _ g)
  simp only[if_neg i] at c;rcases D.xP a b c f g with z | z
  .exact .inl z
  rcases aJ.mp z with z | z
  .exact .inr (bE _ z)
  show absurd (by simpa using z) e
 .rcases aJ.mp ha with ha | ha
  .exact D.wait a (bE _ ha)
  show .step j (hn _ _ ha)
 by_cases e:iT=x
 .simp only[if_pos e];show .inl nofun
 simp only[if_neg e];rcases D.fst with z | z
 .exact .inl z
 rcases aJ.mp z with z | z
 .exact .inr (bE _ z)
 show absurd (by simpa using z) e
theorem rL.done(j:∀x y,y∈nb x->x∈nb y)(C:CA E nb F0)(D:rL E nb F0 F iT []):CA E nb F/\F iT≠none/\∀x,F0 x≠none->F x≠none:=by
 show⟨λx a h=>?_,?_,λx h=>by rw[D.old x h];show h⟩
 .cases d:F0 x with
  | some b=>
   have:=D.old x (by rw[d];show nofun);rw[h,d] at this;cases this;obtain⟨l,i⟩:=C x a d;show⟨l,λy e=>?_⟩;rw[D.old y (by rw[i y e];show nofun)];show i y e
  | none=>
   obtain⟨rfl,k⟩:=D.new x a h d;show⟨k.symm,λy e=>?_⟩;rcases D.xP x y (by rw[h];show nofun) d e with z | z
   .cases g:F y with
    | none=>show absurd g z
    | some c=>
     cases f:F0 y with
     | none=>rw[(D.new y c g f).1]
     | some b=>
      have:=(C y b f).2 x (j _ _ e);rw[d] at this;cases this
   cases z
 rcases D.fst with z | z
 .exact z
 cases z
theorem VI(C:CA E nb F)(d:∀x y,(x,y)∈E->F x≠none/\y∈nb x){a b:κ}:((F a).getD a=(F b).getD b)↔Cn E a b:=by
 show PV (lab:=λx=>(F x).getD x) (λx y h=>?_) λx=>?_
 .obtain⟨g,f⟩:=d x y h;cases e:F x with
  | none=>show absurd e g
  | some c=>simp only[(C x c e).2 y f,bg]
 cases e:F x with
 | none=>show .refl _
 | some c=>show(C x c e).1
end
section
variable{κ:Type}
variable[DecidableEq κ]{E:List (κ×κ)}{ks:List κ}{code:κ->Nat}{f f0:κ->κ}
noncomputable def mu(code:κ->Nat)(ks:List κ)(f:κ->κ):Nat:=(ks.map λk=>code (f k)).sum
end
noncomputable def jE(p:Nat->Bool):Nat->Nat
 | 0=>0
 | s+1=>if p s=true then jE p s else s+1
noncomputable abbrev N3:=Nat×Nat×Nat
noncomputable abbrev Sd:=Bool×Nat×Nat
noncomputable def lO(c:Nat):Bool:=decide (c=45\/c=43\/c=35)
noncomputable def kN(c:Nat):Bool:=decide (c=124\/c=43\/c=35)
noncomputable def HP(g:Nat->Nat->Nat)(r:Nat):Nat->Bool:=λs=>lO (g r s)
noncomputable def Hj(g:Nat->Nat->Nat)(s:Nat):Nat->Bool:=λr=>kN (g r s)
noncomputable def OQ(g:Nat->Nat->Nat)(r s:Nat):Sd:=(false,r,jE (HP g r) s)
noncomputable def OP(g:Nat->Nat->Nat)(r s:Nat):Sd:=(true,s,jE (Hj g s) r)
noncomputable def ph(g:Nat->Nat->Nat)(x:N3):Sd:=if x.2.2=0 then OQ g x.1 x.2.1 else OP g x.1 x.2.1
noncomputable def ps(y:Sd):N3:=if y.1=true then(y.2.2,y.2.1,1) else(y.2.1,y.2.2,0)
theorem Ri:lO 43=true:=by decide
theorem Rh:kN 43=true:=by decide
section
variable{R S:Nat}{g:Nat->Nat->Nat}{E:List (N3×N3)}{F:List (Sd×Sd)}
theorem SQ{p:Nat->Bool}{s:Nat}(h:p s=true):jE p (s+1)=jE p s:=by
 show(if p s=true then jE p s else s+1)=_;rw[if_pos h]
end
theorem F7{α:Type}[DecidableEq α]{l ws:List α}(nd:l.Nodup)(h:∀w∈l,w∈ws):l.length<=ws.length:=by
 induction l generalizing ws with
 | nil=>simp
 | cons a r b=>
  rw[bj] at nd;have ha:a∈ws:=h a (by simp);have:=b (ws:=ws.erase a) nd.2 λw hw=>(List.mem_erase_of_ne λ(z:w=a)=>nd.1 (z▸hw)).mpr (h w (by simp[hw]))
  rw[List.length_erase_of_mem ha] at this;have c:0<ws.length:=List.length_pos_of_mem ha;simp only[av];ext
section
variable{κ α:Type}[DecidableEq κ]{l:List (κ×α)}{B:List (κ×List α)}{kk:κ->List Key}{dv:α->D}
theorem ke.len(G:ke l B):B.length<=l.length:=by
 have:=F7 G.nd (ws:=l.map (·.1)) λw hw=>by
  obtain⟨p,b,rfl⟩:=aE.mp hw;obtain⟨q,a,e⟩:=G.ex p b;show aE.mpr ⟨q,a,e⟩
 simpa using this
theorem ke.xM(G:ke l B){p:κ×List α}(a:p∈B):p.2.length<=l.length:=by
 rw[G.is p a,ae];show List.length_filter_le _ _
noncomputable def iX(kk:κ->List Key)(dv:α->D)(B:List (κ×List α)):List (List Key×List D):=B.map λp=>(kk p.1,p.2.map dv)
theorem Ko(inj:∀a b,kk a=kk b->a=b)(x:κ):((iX kk dv B).any λkv=>decide (kv.1=kk x))=B.any λp=>decide (p.1=x):=by
 unfold iX;rw[List.any_map];congr 1
 funext p
 simp only[Function.comp_apply];by_cases h:p.1=x
 .simp[h]
 rw[aG h,aG λz=>h (inj _ _ z)]
theorem FI(inj:∀a b,kk a=kk b->a=b)(G:ke l B)(x:κ)(e:α):∃n ds m,(lA (iX kk dv B) (kk x))[n]?=some (kk x,ds)/\(∀f<n,∀p,(lA (iX kk dv B) (kk x))[f]?=some p->p.1≠kk x)/\
  (lA (iX kk dv B) (kk x)).set n (kk x,ds++[dv e])=iX kk dv m/\ke (l++[(x,e)]) m/\ds.length<=l.length:=by
 by_cases h:∃p∈B,p.1=x
 .obtain⟨⟨y,g⟩,d,rfl⟩:=h;have ha:((iX kk dv B).any λkv=>decide (kv.1=kk y))=true:=by
   rw[Ko inj];show List.any_eq_true.mpr ⟨_,d,by simp⟩
  obtain⟨n,hn⟩:=aQ d;have ht:lA (iX kk dv B) (kk y)=iX kk dv B:=by unfold lA;rw[if_pos ha]
  rw[ht];show⟨n,g.map dv,B.set n (y,g++[e]),?_,λf o p c z=>?_,?_,G.more hn,?_⟩
  .unfold iX;rw[ar,hn];rfl
  .unfold iX at c;rw[ar] at c;obtain⟨q,i,rfl⟩:=aZ.mp c;have r:q.1=y:=inj _ _ z;have i1:(B.map (·.1))[f]?=some y:=by rw[ar,i];simp[r]
   have i2:(B.map (·.1))[n]?=some y:=by rw[ar,hn];rfl
   have:f=n:=(List.getElem?_inj (aj.mp i1).1 G.nd).mp (i1.trans i2.symm);ext
  .unfold iX;rw[List.map_set,aH];rfl
  rw[ae];show G.xM d
 have j:∀p∈B,p.1≠x:=λp d z=>h ⟨p,d,z⟩
 have ha:¬((iX kk dv B).any λkv=>decide (kv.1=kk x))=true:=by
  rw[Ko inj,List.any_eq_true];rintro⟨p,d,z⟩;show j p d (by simpa using z)
 have ht:lA (iX kk dv B) (kk x)=iX kk dv B++[(kk x,[])]:=by unfold lA;rw[if_neg ha]
 have k:(iX kk dv B).length=B.length:=by unfold iX;simp
 rw[ht];show⟨B.length,[],B++[(x,[e])],by rw[<-k];simp,λf o p c z=>?_,?_,G.fresh j,a9 _⟩
 .rw[List.getElem?_append_left (by ext)] at c;unfold iX at c;rw[ar] at c;obtain⟨q,i,rfl⟩:=aZ.mp c;show j q (aw i) (inj _ _ z)
 rw[<-k,List.set_append_right _ _ (aD _),Nat.sub_self];unfold iX;rw[aH];rfl
end
section
variable{κ α:Type}[DecidableEq κ]{F:List (κ×α)}{kk:κ->List Key}{dv:α->D}
noncomputable def f6(F:List (κ×α))(x:κ):Option α:=(F.find? λp=>decide (p.1=x)).map (·.2)
noncomputable def i9(kk:κ->List Key)(dv:α->D)(F:List (κ×α)):List (List Key×D):=F.map λp=>(kk p.1,dv p.2)
theorem CO(inj:∀a b,kk a=kk b->a=b)(x:κ):oh (i9 kk dv F) (kk x)=(f6 F x).map dv:=by
 unfold oh i9 f6;induction F with
 | nil=>rfl
 | cons p r c=>
  rw[ao,List.find?_cons,List.find?_cons];by_cases h:p.1=x
  .simp[h]
  rw[aG h,aG λz=>h (inj _ _ z)];show c
theorem CM(x y:κ)(a:α)(h:f6 F x=none):f6 (F++[(x,a)]) y=if y=x then some a else f6 F y:=by
 unfold f6 at h ⊢;rw[List.find?_append];by_cases e:y=x
 .subst e;rw[Option.map_eq_none_iff] at h;rw[h,if_pos rfl];simp
 rw[if_neg e];have:[(x,a)].find? (λp=>decide (p.1=y))=none:=by simp[Ne.symm e]
 rw[this,Option.or_none]
theorem Mc(inj:∀a b,kk a=kk b->a=b)(x:κ)(a:α)(h:f6 F x=none):ug (i9 kk dv F) (kk x) (dv a)=i9 kk dv (F++[(x,a)]):=by
 have hn:¬((i9 kk dv F).any λkv=>decide (kv.1=kk x))=true:=by
  rw[List.any_eq_true];rintro⟨p,e,z⟩;obtain⟨q,d,rfl⟩:=aE.mp e;have c:q.1=x:=inj _ _ (by simpa using z);unfold f6 at h;rw[Option.map_eq_none_iff,List.find?_eq_none] at h;show h q d (by simpa using c)
 unfold ug;rw[if_neg hn];unfold i9;rw[aH];rfl
end
noncomputable def lI(x y:EK):Bool:=!Ts.ie y x
theorem Mb(a b c:EK)(f:lI a b=true)(d:lI b c=true):lI a c=true:=by
 unfold lI at *;simp only[Bool.not_eq_true'] at *;cases h:Ts.ie c a with
 | false=>rfl
 | true=>
  by_cases e:a=b
  .subst e;rw[d] at h;cases h
  rcases Ts.fD.yR _ _ e with z | z
  .rw[Ts.fD.tr _ _ _ h z] at d;cases d
  rw[z] at f;cases f
theorem MA(a b:EK):(lI a b||lI b a)=true:=by
 unfold lI;cases d:Ts.ie b a<;>cases c:Ts.ie a b<;>simp
 have:=Ts.fD.tr _ _ _ d c;rw[Ts.fD.ir] at this;cases this
theorem M9(a b:EK)(d:lI a b=true)(c:lI b a=true):a=b:=by
 unfold lI at *;simp only[Bool.not_eq_true'] at *;show Decidable.byContradiction λe=>?_
 rcases Ts.fD.yR _ _ e with z | z
 .rw[z] at c;cases c
 rw[z] at d;cases d
noncomputable def sK(g:List EK):List EK:=g.mergeSort lI
theorem tL(g:List EK):(sK g).Perm g:=List.mergeSort_perm _ _
theorem GF{α:Type}{le:α->α->Prop}:∀{l m:List α},(∀a∈l,∀b∈l,le a b->le b a->a=b)->l.Perm m->l.Pairwise le->m.Pairwise le->l=m
 | [],m,_,p,_,_=>p.nil_eq
 | a::l,[],_,p,_,_=>absurd p.length_eq (by simp)
 | a::l,b::m,an,p,k,j=>by
  have hb:b∈a::l:=p.symm.subset aA;have ha:a∈b::m:=p.subset aA;obtain⟨g,f⟩:=List.pairwise_cons.mp k;obtain⟨d,c⟩:=List.pairwise_cons.mp j;have e:a=b:=by
   rcases az.mp hb with z | z
   .exact z.symm
   rcases az.mp ha with y | y
   .exact y
   show an _ aA _ hb (g _ z) (d _ y)
  subst e;rw[GF (λx i y h=>an x (au _ i) y (au _ h)) ((List.perm_cons a).mp p) f c]
theorem PU(g:List EK):(sK g).Pairwise (λx y=>lI x y=true):=List.pairwise_mergeSort Mb MA g
theorem Pc{g s:List EK}(h:s.Perm g)(p:s.Pairwise (λx y=>Ts.ie y x=false)):s=sK g:=
 GF (le:=λx y=>lI x y=true) (λa _ b _=>M9 a b) (h.trans (tL g).symm) (p.imp λh=>by unfold lI;rw[h];rfl) (PU g)
theorem K7{g:List EK}(h:g≠[]):h9 (sK g)∈g:=by
 cases e:sK g with
 | nil=>show absurd (List.perm_nil.mp ((tL g).symm.trans (List.Perm.of_eq e))) h
 | cons a r=>show(tL g).subset (by rw[e];show aA)
noncomputable def AF(a:List (List EK)):List (List EK):=a.mergeSort λx y=>lI (h9 x) (h9 y)
theorem Ma(g:List (List EK)):(AF g).Perm g:=List.mergeSort_perm _ _
theorem Rg(g:List (List EK)):(AF g).Pairwise (λx y=>lI (h9 x) (h9 y)=true):=List.pairwise_mergeSort (le:=λx y=>lI (h9 x) (h9 y)) (λa b c=>Mb (h9 a) (h9 b) (h9 c)) (λa b=>MA (h9 a) (h9 b)) g
theorem PR{c:List (List EK)}(nd:(c.map h9).Nodup):∀a∈c,∀b∈c,lI (h9 a) (h9 b)=true->lI (h9 b) (h9 a)=true->a=b:=λa ha b hb k h=>by
 have e:=M9 _ _ k h;obtain⟨i,f⟩:=aQ ha;obtain⟨j,d⟩:=aQ hb;have g:(c.map h9)[i]?=some (h9 a):=by rw[ar,f];rfl
 have l:(c.map h9)[j]?=some (h9 a):=by rw[ar,d,e];rfl
 have:i=j:=(List.getElem?_inj (aj.mp g).1 nd).mp (g.trans l.symm);subst this;rw[f] at d;show aX d
theorem PQ{c s:List (List EK)}(nd:(c.map h9).Nodup)(h:s.Perm c)(p:s.Pairwise (λx y=>Ts.ie (h9 y) (h9 x)=false)):s=AF c:=by
 show GF (le:=λx y=>lI (h9 x) (h9 y)=true) (λa ha b hb=>PR nd a (h.subset ha) b (h.subset hb)) (h.trans (Ma c).symm) (p.imp λh=>?_) (Rg c);unfold lI;rw[h];rfl
section
variable{κ wj:Type}[DecidableEq κ][DecidableEq wj]{l:List (κ×EK)}{kvs:List (κ×List EK)}{m:List (wj×EK)}{YV:List (wj×List EK)}
theorem ke.HG(G:ke l kvs){p:κ×List EK}(h:p∈kvs):p.2≠[]:=by
 obtain⟨q,b,e⟩:=G.ex p h;rw[G.is p h];show List.ne_nil_of_mem (a:=q.2) (aE.mpr ⟨q,bA.mpr ⟨b,by simpa using e⟩,rfl⟩)
theorem ke.atK(G:ke l kvs)(nd:(l.map (·.2)).Nodup){p q:κ×List EK}(f:p∈kvs)(d:q∈kvs){e:EK}(k:e∈p.2)(h:e∈q.2):p=q:=by
 rw[G.is p f] at k;rw[G.is q d] at h;obtain⟨x,b,ex⟩:=aE.mp k;obtain⟨y,a,m⟩:=aE.mp h;obtain⟨b,r⟩:=bA.mp b;obtain⟨a,o⟩:=bA.mp a;have:x=y:=by
  obtain⟨i,g⟩:=aQ b;obtain⟨j,c⟩:=aQ a;have e3:(l.map (·.2))[i]?=some e:=by rw[ar,g];simp[ex]
  have n:(l.map (·.2))[j]?=some e:=by rw[ar,c];simp[m]
  have:i=j:=(List.getElem?_inj (aj.mp e3).1 nd).mp (e3.trans n.symm);subst this;rw[g] at c;show aX c
 subst this;show KD G.nd f d ?_;have a1:x.1=p.1:=by simpa using r
 have a2:x.1=q.1:=by simpa using o
 rw[<-a1,a2]
theorem ke.Br(G:ke l kvs)(nd:(l.map (·.2)).Nodup):((kvs.map λp=>sK p.2).map h9).Nodup:=by
 have d:kvs.Pairwise (·≠·):=by
  have:=G.nd;rw[bu,List.pairwise_map] at this;show this.imp λh z=>h (by rw[z])
 rw[ay,bu,List.pairwise_map];show d.imp_of_mem λ{a b} ha hb c z=>c (G.atK nd ha hb (K7 (G.HG ha)) ?_)
 have z:h9 (sK a.2)=h9 (sK b.2):=z;rw[z];show K7 (G.HG hb)
end
end Wc
open PySem L2 PyProof.Rows Wc
local macro_rules | `(tactic| walk_at"px")=>`(tactic| (repeat(first | walk_at"b" | simp only[Co,zC,ET,wC,Cu,CZ,ES,yc,zo])))
namespace Wc
open PySem L2 PyProof.Rows
theorem L9:∀x:EK,oF (x.map pB)=some x
 | []=>rfl
 | k::r=>by
  rw[ao];unfold oF;rw[L9 r];cases k<;>rfl
noncomputable def qW(p:EK×EK):D:=.tup [de p.1,de p.2]
noncomputable def kk(x:EK):List Key:=x
theorem zK(x:EK):oF (x.map pB)=some (kk x):=L9 x
theorem uh:∀a b:EK,kk a=kk b->a=b:=λ_ _ h=>h
noncomputable def rN(a:List (EK×EK)):List (EK×EK):=a.flatMap λp=>[(p.1,p.2),(p.2,p.1)]
noncomputable def su(a:List (EK×EK))(x:EK):List EK:=((rN a).filter λq=>decide (q.1=x)).map (·.2)
theorem pS{a:List (EK×EK)}{x y:EK}:(x,y)∈rN a↔(x,y)∈a\/(y,x)∈a:=by
 unfold rN;simp only[List.mem_flatMap,az,bV,or_false,Prod.mk.injEq];constructor
 .rintro⟨p,b,⟨rfl,rfl⟩ | ⟨rfl,rfl⟩⟩
  .exact .inl b
  show .inr b
 rintro(h | h)
 .exact⟨_,h,.inl ⟨rfl,rfl⟩⟩
 show⟨_,h,.inr ⟨rfl,rfl⟩⟩
theorem jR{c:List (EK×EK)}{x y:EK}:y∈su c x↔(x,y)∈c\/(y,x)∈c:=by
 rw[<-pS];unfold su;rw[aE];constructor
 .rintro⟨⟨a,b⟩,h,rfl⟩;obtain⟨e,d⟩:=bA.mp h;have:a=x:=by simpa using d
  rw[<-this];show e
 intro h;show⟨(x,y),bA.mpr ⟨h,by simp⟩,rfl⟩
noncomputable def tq(B:List (EK×List EK))(F:List (EK×EK)):Nat:=((B.filter λp=>(f6 F p.1).isNone).map λp=>1+p.2.length).sum
theorem Mz{F:List (EK×EK)}{x a:EK}{g:List EK}(b:f6 F x=none):∀{B:List (EK×List EK)},(B.map (·.1)).Nodup->(x,g)∈B->tq B (F++[(x,a)])+(1+g.length)<=tq B F
 | [],_,h=>by cases h
 | p::B,nd,h=>by
  rw[ao,bj] at nd;unfold tq;by_cases c:p.1=x
  .have k:p=(x,g):=by
    rcases az.mp h with z | z
    .exact z.symm
    show absurd (aE.mpr ⟨_,z,c.symm⟩) nd.1
   subst k;have j:(f6 (F++[(x,a)]) x).isNone=false:=by rw[CM _ _ _ b,if_pos rfl];rfl
   have i:(f6 F x).isNone=true:=by rw[b];rfl
   rw[List.filter_cons_of_neg (by simp[j]),List.filter_cons_of_pos (by simpa using i),ao,List.sum_cons];have:((B.filter λp=>(f6 (F++[(x,a)]) p.1).isNone).map λp=>1+p.2.length).sum=((B.filter λp=>(f6 F p.1).isNone).map λp=>1+p.2.length).sum:=by
    congr 2
    show List.filter_congr λq f=>?_
    have:q.1≠x:=λz=>nd.1 (aE.mpr ⟨q,f,z⟩)
    rw[CM _ _ _ b,if_neg this]
   rw[this];simp only;ext
  have d:=Mz (F:=F) (a:=a) b nd.2 (by
   rcases az.mp h with z | z
   .exact absurd (by rw[<-z]) c
   .exact z)
  unfold tq at d;have e:(f6 (F++[(x,a)]) p.1).isNone=(f6 F p.1).isNone:=by rw[CM _ _ _ b,if_neg c]
  cases hb:(f6 F p.1).isNone with
  | true=>
   rw[List.filter_cons_of_pos (by rw[e,hb]),List.filter_cons_of_pos (by simpa using hb),ao,ao,List.sum_cons,List.sum_cons];ext
  | false=>
   rw[List.filter_cons_of_neg (by rw[e,hb];show aC),List.filter_cons_of_neg (by rw[hb];show aC)];show d
theorem Rf{B:List (EK×List EK)}{F:List (EK×EK)}{k:Nat}(h:∀p∈B,p.2.length<=k):tq B F<=B.length*(1+k):=by
 unfold tq;have:∀a:List (EK×List EK),(∀p∈a,p.2.length<=k)->(a.map λp=>1+p.2.length).sum<=a.length*(1+k):=λa=>by
  induction a with
  | nil=>intro _;simp
  | cons p r b=>
   intro h;rw[ao,List.sum_cons,av,Nat.succ_mul];have:=b λq c=>h q (au _ c)
   have:=h p aA;ext
 show aR (this _ λp d=>h p (bA.mp d).1) ?_;show Nat.mul_le_mul_right _ (List.length_filter_le _ _)
theorem K6(b:List (EK×EK)):(rN b).length=2*b.length:=by
 unfold rN;induction b with
 | nil=>rfl
 | cons a r c=>rw[List.flatMap_cons,ax,c];simp;ext
def Af:e8:=λds Q=>∃links:List (EK×EK),ds=[.lst (links.map qW)]/\links.length<=1600/\∀F:List (EK×EK),(∀a b,(f6 F a).getD a=(f6 F b).getD b↔Cn links a b)->F.length<=3200->Q (.ov (.dq (i9 kk de F)))
def GD:TX:=(cL (mT 1 zC)
 (cL (jb (jZ (bY 0)) (kg 2 (fm (dh 2) (fm (dh 3) jG))) (cL (wC 1 (bY 2) (bY 3))
 (wC 1 (bY 3) (bY 2))))
 (cL (mT 4 ET)
 (wz 1 (cL (jb (ES (bY 1)) (dh 5) (cL (mT 6 (jc (cf (bY 5) cp)))
 (Kp (dw (cj (jq λi j=>.bl (decide (j<i))) (Cs 6) (dC (.int 0)))) (cL (CZ 7 6)
 (fR (EM 4 (dw (cj (zo true) (bY 7) (bY 4)))) (cL (Cu 4 (bY 7) (bY 5))
 (Co 6 (yc (bY 1) (bY 7)))) gj)))))
 (yd 4))))))
theorem W0:iV 1 Af GD ["links","beside","one","other","firsts","first","waiting","strand"]:=by
 intro ds Qr hl h;obtain⟨links,rfl,DW,q⟩:=h;show GD _ [.fz (.lst (links.map qW)),.un,.un,.un,.un,.un,.un,.un];unfold GD;have big:=iW;walk_at"px";walk_at"go";show tO links qW (λQ' h=>?_) (λi n=>∃(B:List (EK×List EK))(a c:Sl),ke (rN (links.take i)) B/\n=[.fz (.lst (links.map qW)),.ov (.dt (iX kk de B)),a,c,.un,.un,.un,.un]) ⟨[],_,_,by simpa[rN] using ke.nil,rfl⟩ ?_ ?_
 .walk_at"px";show h
 .rintro i ⟨x,y⟩ n v ⟨B,a,c,G,rfl⟩;have tk:rN (links.take (i+1))=rN (links.take i)++[(x,y)]++[(y,x)]:=by
   unfold rN;rw[bo,v,List.flatMap_append];simp
  have l1:=K6 (links.take i);have l2:(links.take i).length<=1600:=by rw[aP];ext
  have g1:=G.len;obtain⟨X,Jg,S,s1,s2,s3,R,s4⟩:=FI (dv:=de) uh G x y;obtain⟨W,I,B2,t1,T,t3,Q,L⟩:=FI (dv:=de) uh R y x;have g2:=R.len;rw[ax] at g2 L;simp only[av,bh] at g2 L;have k1:(iX kk de B).length=B.length:=by unfold iX;simp
  have k2:(iX kk de S).length=S.length:=by unfold iX;simp
  rw[<-tk] at Q;rw[show qW (x,y)=.tup [.tup (x.map pB),.tup (y.map pB)] from rfl];walk_at"px";show⟨_,X,Jg,zK x,by ext,s1,s2,by ext,?_⟩;rw[show D.tup (y.map pB)=de y from rfl,s3];rw[show de y=D.tup (y.map pB) from rfl];walk_at"go";show⟨_,W,I,zK y,by ext,t1,T,by ext,?_⟩;rw[show D.tup (x.map pB)=de x from rfl,t3];show⟨B2,_,_,Q,rfl⟩
 rintro n ⟨B,a,c,G,rfl⟩;rw[bI] at G;have g1:=G.len;have g2:=K6 links;have gl:∀p∈B,p.2.length<=3200:=λp f=>aR (G.xM f) (by ext)
 have bs:∀F,tq B F<=3200*3201:=λF=>aR (Rf gl) (Nat.mul_le_mul (by ext) (by ext))
 have HY:∀x y,y∈su links x->x∈su links y:=λx y h=>jR.mpr (jR.mp h).symm
 have ZC:∀x y,y∈su links x->(x,y)∈links\/(y,x)∈links:=λx y h=>jR.mp h
 have M:∀x y,y∈su links x->y∈B.map (·.1):=λx y h=>by
  have:(y,x)∈rN links:=pS.mpr (jR.mp h).symm;obtain⟨g,hg⟩:=G.all _ this;show aE.mpr ⟨_,hg,rfl⟩
 have O:∀x∈B.map (·.1),∃g,(x,g)∈B/\g=su links x:=λx d=>by
  obtain⟨p,f,rfl⟩:=aE.mp d;show⟨p.2,f,G.is p f⟩
 have Y:∀x∈B.map (·.1),oh (i9 kk (λg:List EK=>D.lst (g.map de)) B) (kk x)=some (.lst ((su links x).map de)):=λx d=>by
  rw[CO uh];obtain⟨g,hg,e⟩:=O x d;have:f6 B x=some g:=by
   unfold f6;cases hf:B.find? λp=>decide (p.1=x) with
   | none=>show absurd (by simp) (List.find?_eq_none.mp hf _ hg)
   | some p=>
    have h1:=List.find?_some hf;have Z:=List.mem_of_find?_eq_some hf;rw[KD G.nd Z hg (by simpa using h1)];rfl
  rw[this,e];rfl
 have eD:(OV.dt (iX kk de B)).val=.dit (i9 kk (λg:List EK=>D.lst (g.map de)) B):=by
  show D.dit _=_;unfold iX i9;rw[ay];rfl
 walk_at"go";walk_at"go";rw[eD];show tO (B.map (·.1)) de (λQ' h=>?_) (λi n=>∃(F:List (EK×EK))(s5 E o:Sl),CA links (su links) (f6 F)/\(∀x∈(B.map (·.1)).take i,f6 F x≠none)/\(F.map (·.1)).Nodup/\(∀p∈F,p.1∈B.map (·.1))/\
  n=[.fz (.lst (links.map qW)),.fz (.dit (i9 kk (λg:List EK=>D.lst (g.map de)) B)),a,c,.ov (.dq (i9 kk de F)),s5,E,o]) ⟨[],_,_,_,λx a h=>(by cases h),λx d=>by simp at d,by simp,by simp,rfl⟩ ?_ ?_
 .walk_at"px";unfold i9;rw[ay];have e:((λp:List Key×D=>Cb p.1)∘λp:EK×List EK=>(kk p.1,D.lst (p.2.map de)))=de∘(λp:EK×List EK=>p.1):=rfl;rw[e,<-ay];show h
 .rintro i j n v ⟨K,s5,E,o,C0,Ob,YT,HK,rfl⟩;have ZW:j∈B.map (·.1):=aw v;walk_at"px";show⟨by ext,?_⟩;walk_at"go";have V:∀F:List (EK×EK),(F.map (·.1)).Nodup->(∀p∈F,p.1∈B.map (·.1))->F.length<=3200:=λF nd t=>by
   have:=F7 nd (ws:=B.map (·.1)) λw hw=>by
    obtain⟨p,f,rfl⟩:=aE.mp hw;show t p f
   rw[ae,ae] at this;ext
  show⟨λm n=>∃(F:List (EK×EK))(s:List EK)(o:Sl),m=tq B F+s.length/\m<=3200*3201+1/\rL links (su links) (f6 K) (f6 F) j s/\(F.map (·.1)).Nodup/\(∀p∈F,p.1∈B.map (·.1))/\(∀x∈s,x∈B.map (·.1))/\
   n=[.fz (.lst (links.map qW)),.fz (.dit (i9 kk (λg:List EK=>D.lst (g.map de)) B)),a,c,.ov (.dq (i9 kk de F)),.fz (de j),.ow (s.map de),o],
   ⟨_,K,[j],o,rfl,by have:=bs K;simp only[av,bh];ext,rL.start,YT,HK,λx d=>by rw[aK.mp d];show ZW,rfl⟩,?_⟩
  rintro m n ⟨F,s,o,rfl,hm,A,nd,t,hw,rfl⟩;rcases List.eq_nil_or_concat s with rfl | ⟨wr,x,rfl⟩
  .walk_at"px";obtain⟨d1,d2,d3⟩:=A.done HY C0;show⟨F,_,_,_,d1,λx d=>?_,nd,t,rfl⟩;rw[bo,v] at d;rcases aJ.mp d with d | d
   .exact d3 x (Ob x d)
   have:x=j:=by simpa using d
   rw[this];show d2
  rw[List.concat_eq_append] at A hw hm ⊢;have J:x∈B.map (·.1):=hw x (by simp);have P:∀y∈wr,y∈B.map (·.1):=λy r=>hw y (bE _ r)
  have lw:((wr++[x]).map de).length=wr.length+1:=by simp
  have dl:((wr++[x]).map de).dropLast=wr.map de:=by rw[aH];simp
  have ls:((wr++[x]).map de)[wr.length+1-1]?=some (de x):=by rw[aH];simp
  have lc:tq B F+(wr++[x]).length=tq B F+wr.length+1:=by simp;ext
  obtain⟨H,he,u⟩:∃H,de x=.tup H/\oF H=some (kk x):=⟨_,rfl,zK x⟩
  walk_at"px";rw[lw,if_pos (by ext)];show⟨_,ls,?_⟩;rw[dl,he];walk_at"go";show⟨_,u,?_⟩;show(if (!(oh (i9 kk de F) (kk x)).isSome)=true then _ else _);rw[CO uh];cases d:f6 F x with
  | some y=>
   rw[if_neg (by simp)];show⟨_,?_,F,wr,_,rfl,?_,A.skip (by rw[d];show nofun),nd,t,P,rfl⟩
   .omega
   ext
  | none=>
   rw[if_pos (by simp)];walk_at"px";have N:=V F nd t;have kq:(i9 kk de F).length=F.length:=by unfold i9;simp
   show⟨_,u,by ext,?_⟩;rw[Mc uh x j d];walk_at"go";show⟨_,_,u,Y x J,?_⟩;obtain⟨g,hg,rfl⟩:=O x J;have tt:=Mz (a:=j) d G.nd hg;have b0:=bs F;show⟨by simp only[ae];ext,?_⟩;show⟨_,?_,F++[(x,j)],wr++su links x,_,rfl,?_,?_,?_,?_,?_,by rw[aH]⟩
   .simp only[ax] at *;ext
   .simp only[ax] at *;ext
   .have:=A.take ZC d;have e:(λy=>if y=x then some j else f6 F y)=f6 (F++[(x,j)]):=funext λy=>(CM x y j d).symm
    rw[<-e];show this
   .rw[aH];show List.nodup_append.mpr ⟨nd,by simp,λa ha b hb z=>?_⟩;have U:b=x:=by simpa using hb
    subst U;subst z;obtain⟨p,f,e⟩:=aE.mp ha;unfold f6 at d;rw[Option.map_eq_none_iff,List.find?_eq_none] at d;show d p f (by simpa using e)
   .intro p f;rcases aJ.mp f with f | f
    .exact t p f
    have:p=(x,j):=by simpa using f
    rw[this];show J
   intro y r;rcases aJ.mp r with r | r
   .exact P y r
   show M x y r
 rintro n ⟨F,s5,E,o,C,u,nd,Y2,rfl⟩;rw[bI] at u;have N:F.length<=3200:=by
  have:=F7 nd (ws:=B.map (·.1)) λw hw=>by
   obtain⟨p,f,rfl⟩:=aE.mp hw;show Y2 p f
  rw[ae,ae] at this;ext
 have:=q F (λa b=>VI C λx y h=>⟨u x (M y x (jR.mpr (.inr h))),jR.mpr (.inl h)⟩) N;simp only[tu,yd,gt];show this
end Wc
open PySem L2 PyProof.Rows Wc
local macro_rules | `(tactic| walk_at"px")=>`(tactic| (repeat(first | walk_at"b" | simp only[EW,Cj,CB,zC,wC,Fb,E7,Dd])))
namespace Wc
open PySem L2 PyProof.Rows
theorem M8{α:Type}{j:kd}{m:List (Option Nat)}{g:jI}{te:TD}{b:Ev}{Q:R->Prop}(L:List α)(e:α->D)(f:α->List D)(hw:∀k:List D->Prop,k (L.map e)->j b k)(o:L.length<=sizeLine)
  (h:∀x∈L,∀(l:List D->Prop),l (f x)->g (e x) (gW m b) λn=>te n λr=>match r with | .ow c=>l c | _=>False) (q:Q (.ov (.ll (L.map f)))):wL j m g iD te b Q:=by
 unfold wL;show hw _ ⟨λi acc=>acc=(L.take i).map f,by simp,λi d acc hd ha=>?_,λacc ha=>?_⟩
 .subst ha;rw[ar] at hd;cases a:L[i]? with
  | none=>rw[a] at hd;cases hd
  | some x=>
   rw[a] at hd;cases hd;have p:i<L.length:=(aj.mp a).1;have:=h x (aw a) (λc=>((L.take i).map f).length<sizeLine/\(L.take i).map f++[c]=(L.take (i+1)).map f) ⟨by simp;ext,by rw[bo,a];simp⟩;show this
 subst ha;simpa using q
noncomputable def qV(p:EK×EK):D:=.tup [de p.1,de p.2]
def Gd(d:List (EK×EK))(c:List (EK×EK))(e:List (List EK)):Prop:=∃(lab:EK->EK)(kvs:List (EK×List EK)),(∀a b,lab a=lab b↔Cn c a b)/\ke (d.map λp=>(lab p.1,p.2)) kvs/\e=AF (kvs.map λp=>sK p.2)
def wR:e8:=λds Q=>∃(b:Bool)(sh:List Bool)(ends:List (EK×EK))(links:List (EK×EK)),ds=[.lst (ends.map qV),.lst (links.map qW)]/\links.length<=1600/\ends.length<64/\(∀p∈ends,tR p.2=b::sh)/\(ends.map (·.2)).Nodup/\∀a,Gd ends links a->Q (.ov (.ll (a.map λg=>g.map de)))
def F6:TX:=(cL (fg 2 (fc 1 Af (cf (bY 1) cp)))
 (cL (mT 3 zC)
 (cL (jb (jZ (bY 0)) (kg 2 (fm (dh 4) (fm (dh 5) jG))) (wC 3 (Fb (bY 2) (bY 4) (bY 4)) (bY 5)))
 (wz 3 (eu (Dd (λn=>n<64) (wL (E7 (bY 3)) [none] (dh 0) iD (fE (EW (λn=>n<64)) (cf (bY 0) cp)))))))))
theorem We:iV 2 wR F6 ["ends","links","firsts","groups","strand","end"]:=by
 intro ds U hl h;obtain⟨o,sh,ends,links,rfl,P,hle,v,nd,q⟩:=h;show F6 _ [.fz (.lst (ends.map qV)),.fz (.lst (links.map qW)),.un,.un,.un,.un];unfold F6;have big:=iW;walk_at"px";show⟨links,rfl,P,λF I _=>?_⟩;walk_at"go";walk_at"go";have N:∀k,(((ends.take k).map λp:EK×EK=>(((f6 F p.1).getD p.1,p.2):EK×EK))).length<=64:=λk=>by
  rw[ae,aP];ext
 show tO ends qV (λL h=>?_) (λi j=>∃(B:List (EK×List EK))(a c:Sl),ke ((ends.take i).map λp=>((f6 F p.1).getD p.1,p.2)) B/\j=[.fz (.lst (ends.map qV)),.fz (.lst (links.map qW)),.fz (.dit (i9 kk de F)),.ov (.dt (iX kk de B)),a,c]) ⟨[],_,_,by simpa using ke.nil,rfl⟩ ?_ ?_
 .walk_at"px";show h
 .rintro i ⟨x,f⟩ j H ⟨B,a,c,G,rfl⟩;obtain⟨w,M,R,s1,s2,s3,u,s4⟩:=FI (dv:=de) uh G ((f6 F x).getD x) f;have g1:=G.len;have g2:=N i;have k1:(iX kk de B).length=B.length:=by unfold iX;simp
  obtain⟨d,he,E⟩:∃d,de x=.tup d/\oF d=some (kk x):=⟨_,rfl,zK x⟩
  have K:((oh (i9 kk de F) (kk x)).getD (.tup d))=de ((f6 F x).getD x):=by
   rw[CO uh,<-he];cases f6 F x<;>rfl
  obtain⟨r,O,Q⟩:∃r,de ((f6 F x).getD x)=.tup r/\oF r=some (kk ((f6 F x).getD x)):=⟨_,rfl,zK _⟩
  have tk:(ends.take (i+1)).map (λp=>((f6 F p.1).getD p.1,p.2))=(ends.take i).map (λp=>((f6 F p.1).getD p.1,p.2))++[((f6 F x).getD x,f)]:=by
   rw[bo,H,aH];rfl
  rw[<-tk] at u;rw[show qV (x,f)=.tup [de x,de f] from rfl,he];walk_at"px";show⟨_,E,?_⟩;rw[K,O];walk_at"px";show⟨_,w,M,Q,by ext,s1,s2,by ext,?_⟩;rw[s3];show⟨R,_,_,u,rfl⟩
 rintro j ⟨B,a,c,G,rfl⟩;rw[bI] at G;have g1:=G.len;rw[ae] at g1;have s:((ends.map λp=>((f6 F p.1).getD p.1,p.2)).map (·.2)).Nodup:=by
  rw[ay];show nd
 have t:∀p∈B,∀e∈p.2,tR e=o::sh:=λp b e he=>by
  rw[G.is p b] at he;obtain⟨x,C,rfl⟩:=aE.mp he;obtain⟨y,A,rfl⟩:=aE.mp (bA.mp C).1;show v y A
 have J:(OV.dt (iX kk de B)).val=.dit (i9 kk (λg:List EK=>D.lst (g.map de)) B):=by
  show D.dit _=_;unfold iX i9;rw[ay];rfl
 walk_at"go";rw[J];show M8 B (λp=>D.lst (p.2.map de)) (λp=>(sK p.2).map de) (λL h=>?_) (by ext) (λp b V k1=>?_) ?_
 .walk_at"px";unfold i9;rw[ay];show h
 .walk_at"px";have:=G.xM b;rw[ae] at this;show⟨o,sh,p.2,rfl,t p b,by ext,λT n m=>?_⟩;rw[Pc n m];show k1
 show⟨o::sh,B.map λp=>sK p.2,by rw[ay];rfl,λg hg e he=>?_,by rw[ae];ext,λg hg=>?_,G.Br s,λS n m=>?_⟩
 .obtain⟨p,b,rfl⟩:=aE.mp hg;show t p b e ((tL p.2).subset he)
 .obtain⟨p,b,rfl⟩:=aE.mp hg;show λz=>G.HG b (List.perm_nil.mp ((tL p.2).symm.trans (List.Perm.of_eq z)))
 rw[PQ (G.Br s) n m];show q _ ⟨_,B,I,G,rfl⟩
end Wc
open PySem L2 PyProof.Rows Wc
local macro_rules | `(tactic| walk_at"px")=>`(tactic| walk_at"b")
namespace Wc
open PySem L2 PyProof.Rows
noncomputable def fB(rows:List (List Nat)):D:=.lst (rows.map λl=>.str (cz l))
noncomputable def eY:List Nat:=[32,45,124,43,35,61,120,46]
noncomputable def oA(S:Str)(c:Nat):Bool:=!(Builtin.Str.occurrences S ⟨#[c]⟩ 0 S.length 1).isEmpty
theorem EE:∀c∈eY,oA "-+#" c=lO c:=by decide +kernel
theorem zx:∀c∈eY,oA "|+#" c=kN c:=by decide +kernel
noncomputable def kD(r p:Nat)(c:Nat):Bool:=decide (c=32)||(decide (r%2=1)&&decide (c=45))||(decide (p%2=1)&&decide (c=124))||(decide (r%2=1)&&decide (p%2=1)&&(decide (c=43)||decide (c=35)))
noncomputable def yt(r p:Nat):Str:=if r%2=1 then(if p%2=1 then " -|+#" else " -") else(if p%2=1 then " |" else " ")
theorem HK:∀c∈eY,oA " " c=kD 0 0 c:=by decide +kernel
theorem in1:∀c∈eY,oA " -" c=kD 1 0 c:=by decide +kernel
theorem Y4:∀c∈eY,oA " |" c=kD 0 1 c:=by decide +kernel
theorem Y3:∀c∈eY,oA " -|+#" c=kD 1 1 c:=by decide +kernel
theorem L8(r p c:Nat)(h:c∈eY):oA (yt r p) c=kD r p c:=by
 unfold yt;by_cases b:r%2=1
 .by_cases a:p%2=1
  .rw[if_pos b,if_pos a,Y3 c h];simp[kD,b,a]
  rw[if_pos b,if_neg a,in1 c h];simp[kD,b,a]
 by_cases a:p%2=1
 .rw[if_neg b,if_pos a,Y4 c h];simp[kD,b,a]
 rw[if_neg b,if_neg a,HK c h];simp[kD,b,a]
structure RB(rows:List (List Nat)):Prop where
 len:rows.length<=100
 eN:∀l∈rows,l.length<=100
 eY:∀l∈rows,∀c∈l,c∈Wc.eY
noncomputable def wd(rows:List (List Nat)):Nat:=(rows.headD []).length
noncomputable def oE(rows:List (List Nat)):Bool:=decide (rows.length%2=1)&&decide (wd rows%2=1)&&decide (3<=wd rows)&&rows.all λl=>decide (l.length=wd rows)
noncomputable def ui(rows:List (List Nat)):Bool:=rows.zipIdx.all λp=>p.1.zipIdx.all λq=>kD p.2 q.2 q.1
theorem My(l:List Bool):mU (l.map D.bl)=some l:=by
 induction l with
 | nil=>rfl
 | cons a r b=>simp[mU,b]
theorem wJ{α:Type}(L:List α)(f:α->Bool){Q:R->Prop}(q:Q (.fz (.bl (L.all f)))):tw [R.val (.ow (L.map λa=>D.bl (f a)))] Q:=by
 show match mU _ with | some bs=>Q (.fz (.bl (bs.all id))) | none=>False
 have e:(L.map λa=>D.bl (f a))=(L.map f).map D.bl:=by simp
 rw[e,My];simpa[List.all_map] using q
end Wc
open PySem L2 PyProof.Rows Wc
local macro_rules | `(tactic| walk_at"px")=>`(tactic| (repeat(first | walk_at"b" | simp only[vf,gG])))
namespace Wc
open PySem L2 PyProof.Rows
theorem JS{rows:List (List Nat)}(h:rows≠[]):et rows 0=some (rows.headD []):=by
 cases rows with
 | nil=>show absurd rfl h
 | cons a r=>simp[SR]
theorem yE{rows:List (List Nat)}(h:rows≠[]):rows.headD []∈rows:=by
 cases rows with
 | nil=>show absurd rfl h
 | cons a r=>simp
def Ae:e8:=λds Q=>∃rows,ds=[fB rows]/\rows≠[]/\RB rows/\Q (.fz (.bl (oE rows)))
def GC:TX:=(cL (fg 1 (fE ja (cf (cj d0 (bY 0) (dC (.int 0))) cp)))
 (cL (fg 2 (tE (cj oEq (cj (oI (λ_ j=>0<j) λi j=>.int (i%j)) (fE ja (cf (bY 0) cp)) (dC (.int 2))) (dC (.int 1))) (cj oEq (cj (oI (λ_ j=>0<j) λi j=>.int (i%j)) (bY 1) (dC (.int 2))) (dC (.int 1)))))
 (eu (tE (bY 2) (tE (cj (jq λi j=>.bl (decide (j<=i))) (bY 1) (dC (.int 3))) (fE tw (cf (gY (jZ (bY 0)) [none,some 1] (dh 0) iD (cj oEq (fE ja (cf (bY 0) cp)) (bY 1))) cp)))))))
theorem WZ:iV 1 Ae GC ["rows","length","is_odd"]:=by
 intro ds r hl h;obtain⟨rows,rfl,i,b,q⟩:=h;show GC _ [.fz (fB rows),.un,.un];unfold GC fB;have big:=iW;have t:=b.len;have n:=JS i;have hw:(rows.headD []).length=wd rows:=rfl;have s:=b.eN _ (yE i);walk_at"px";show⟨_,n,by ext,?_⟩;rw[hw];walk_at"go";generalize m:wd rows=W at *;have d:r (.fz (.bl (decide (rows.length%2=1)&&decide (W%2=1)&&decide (3<=W)&&rows.all λl=>decide (l.length=W)))):=by rw[<-m];show q
 rw[ae];have p:((rows.length:Int)%2=1)↔rows.length%2=1:=by ext
 have o:((W:Int)%2=1)↔W%2=1:=by ext
 have j:((3:Int)<=(W:Int))↔3<=W:=by ext
 simp only[p,o];by_cases e:rows.length%2=1
 .rw[if_pos e];by_cases g:W%2=1
  .simp only[e,g,decide_true,Bool.true_and] at d ⊢;walk_at"go";by_cases f:3<=W
   .simp only[f,decide_true,Bool.true_and] at d;simp only[j,f,decide_true,bP];show lD rows (λl=>.str (cz l)) (λl=>.bl (decide (l.length=W))) (λu h=>?_) (by ext) (λl hm v k1=>?_) (wJ rows _ d)
    .walk_at"px";show h
    have:=b.eN l hm;walk_at"px";simp only[show((l.length:Int)=(W:Int))↔l.length=W by ext];show⟨by ext,k1⟩
   simp only[f,decide_false,Bool.false_and] at d;simp only[j,f,decide_false,aU,bG];show d
  simp only[e,g,decide_true,decide_false,Bool.true_and,Bool.false_and] at d ⊢;walk_at"go";show d
 rw[if_neg e];simp only[e,decide_false,Bool.false_and] at d;walk_at"go";show d
def zW:e8:=λds Q=>∃r p:Nat,ds=[.int r,.int p]/\Q (.fz (.str (yt r p)))
def Gw:TX:=(cL (fg 2 (dC (.str " ")))
 (cL (fR (dw (cj oEq (cj (oI (λ_ j=>0<j) λi j=>.int (i%j)) (bY 0) (dC (.int 2))) (dC (.int 1)))) (fg 2 (cj dZ (bY 2) (dC (.str "-")))) gj)
 (cL (fR (dw (cj oEq (cj (oI (λ_ j=>0<j) λi j=>.int (i%j)) (bY 1) (dC (.int 2))) (dC (.int 1)))) (fg 2 (cj dZ (bY 2) (dC (.str "|")))) gj)
 (cL (fR (n8 (dw (cj oEq (cj (oI (λ_ j=>0<j) λi j=>.int (i%j)) (bY 0) (dC (.int 2))) (dC (.int 1)))) (dw (cj oEq (cj (oI (λ_ j=>0<j) λi j=>.int (i%j)) (bY 1) (dC (.int 2))) (dC (.int 1))))) (fg 2 (cj dZ (bY 2) (dC (.str "+#")))) gj)
 (eu (bY 2))))))
theorem Wz:iV 2 zW Gw ["row","place","signs"]:=by
 intro ds g hl h;obtain⟨r,p,rfl,q⟩:=h;show Gw _ [.fz (.int r),.fz (.int p),.un];unfold Gw;have s1:(" ":Str)++"-"=" -":=by decide +kernel
 have s2:(" ":Str)++"|"=" |":=by decide +kernel
 have s3:(" -":Str)++"|"=" -|":=by decide +kernel
 have s4:(" -|":Str)++"+#"=" -|+#":=by decide +kernel
 unfold yt at q;by_cases f:r%2=1
 .have d:((r:Int)%2=1)=True:=eq_true (by ext);rw[if_pos f] at q;by_cases e:p%2=1
  .have b:((p:Int)%2=1)=True:=eq_true (by ext);rw[if_pos e] at q;walk_at"px";walk_at"go";simp only[d,bP,s1];walk_at"go";simp only[b,bP,s3];walk_at"go";simp only[d,b,bP,s4];walk_at"go";show⟨by decide +kernel,by decide +kernel,by decide +kernel,q⟩
  have b:((p:Int)%2=1)=False:=eq_false (by ext);rw[if_neg e] at q;walk_at"px";walk_at"go";simp only[d,bP,s1];walk_at"go";simp only[b,bG];walk_at"go";simp only[d,b,bP,bG];walk_at"go";show⟨by decide +kernel,q⟩
 have d:((r:Int)%2=1)=False:=eq_false (by ext);rw[if_neg f] at q;by_cases e:p%2=1
 .have b:((p:Int)%2=1)=True:=eq_true (by ext);rw[if_pos e] at q;walk_at"px";walk_at"go";simp only[d,bG];walk_at"go";simp only[b,bP,s2];walk_at"go";simp only[d,bG];walk_at"go";show⟨by decide +kernel,q⟩
 have b:((p:Int)%2=1)=False:=eq_false (by ext);rw[if_neg e] at q;walk_at"px";walk_at"go";simp only[d,bG];walk_at"go";simp only[b,bG];walk_at"go";simp only[d,bG];walk_at"go";show q
theorem wO{α:Type}(f:α->D)(l:List α):oj (l.map f)=l.zipIdx.map λp=>.tup [.int (p.2:Nat),f p.1]:=by
 unfold oj;apply List.ext_getElem?;intro i;simp only[List.getElem?_mapIdx,ar,List.getElem?_zipIdx];cases l[i]?<;>simp
theorem mem_zipIdx{α:Type}{l:List α}{a:α}{i:Nat}(h:(a,i)∈l.zipIdx):a∈l:=(List.mem_zipIdx h).2.2▸aV _
def Al:e8:=λds Q=>∃rows,ds=[fB rows]/\RB rows/\Q (.fz (.bl (ui rows)))
def GX:TX:=(cL (jb (rP (cf (bY 0) cp)) (kg 2 (fm (dh 1) (fm (dh 2) jG))) (fR (pE (dw (fE tw (cf (gY (vf (cf (bY 2) cp)) [none,none,some 1] (kg 2 (fm (dh 0) (fm (dh 1) jG))) iD (cj (qZ false) (bY 1) (fc 2 zW (cf (bY 2) (cf (bY 0) cp))))) cp)))) (eu (dC (.bl false))) gj))
 (eu (dC (.bl true))))
theorem W7:iV 1 Al GX ["rows","number","row"]:=by
 intro ds o hl h;obtain⟨rows,rfl,b,q⟩:=h;show GX _ [.fz (fB rows),.un,.un];unfold GX fB;have big:=iW;walk_at"px";show tO rows.zipIdx (λp=>.tup [.int (p.2:Nat),.str (cz p.1)]) (λm h=>?_) (λi e=>((rows.zipIdx.take i).all λp=>p.1.zipIdx.all λq=>kD p.2 q.2 q.1)=true/\∃a c:Sl,e=[.fz (.lst (rows.map λl=>D.str (cz l))),a,c]) ⟨rfl,_,_,rfl⟩ ?_ ?_
 .walk_at"px";rw[wO];show h
 .rintro i ⟨l,r⟩ e f ⟨d,a,c,rfl⟩;have hm:l∈rows:=mem_zipIdx (aw f);have hw:=b.eN l hm;walk_at"px";show lD l.zipIdx (λp=>.tup [.int (p.2:Nat),.str ⟨#[p.1]⟩]) (λp=>.bl (kD r p.2 p.1)) (λm h=>?_) (by rw[bU];ext) (λp j n k1=>?_) (wJ _ _ ?_)
  .walk_at"px";rw[mi,wO];show h
  .obtain⟨g,pp⟩:=p;walk_at"px";show⟨r,pp,rfl,?_⟩;show n (.bl (oA (yt r pp) g));rw[L8 r pp g (b.eY l hm g (mem_zipIdx j))];show k1
  have tk:((rows.zipIdx.take (i+1)).all λp=>p.1.zipIdx.all λq=>kD p.2 q.2 q.1)=(l.zipIdx.all λq=>kD r q.2 q.1):=by
   rw[bo,f,List.all_append,d];simp
  cases hb:l.zipIdx.all λq=>kD r q.2 q.1 with
  | true=>
   dsimp only;rw[if_neg (by simp)];show⟨by rw[tk];show hb,_,_,rfl⟩
  | false=>
   dsimp only;rw[if_pos (by simp)];have:ui rows=false:=by
    unfold ui;rw[List.all_eq_false];show⟨(l,r),aw f,by simp only[hb];show aC⟩
   rw[this] at q;show q
 rintro e ⟨d,a,c,rfl⟩;walk_at"go";rw[bI] at d;rw[show ui rows=true from d] at q;show q
end Wc
open PySem L2 PyProof.Rows Wc
local macro_rules | `(tactic| walk_at"px")=>`(tactic| (repeat(first | walk_at"b" | simp only[vf,gG,ER,Cf])))
namespace Wc
open PySem L2 PyProof.Rows
structure Mk(mk:Str)(m:Nat)(p:Nat->Bool):Prop where
 is:mk=cz [m]
 pV:∀c∈eY,oA (mk++"+#") c=p c
theorem JX:Mk "-" 45 lO:=⟨by decide +kernel,λc h=>by rw[show("-":Str)++"+#"="-+#" by decide +kernel];show EE c h⟩
theorem JW:Mk "|" 124 kN:=⟨by decide +kernel,λc h=>by rw[show("|":Str)++"+#"="|+#" by decide +kernel];show zx c h⟩
noncomputable def om(l:List Nat)(k:Nat):List Nat:=(l.drop (k-1)).take (k+2-(k-1))
noncomputable def oK(m:Nat)(p:Nat->Bool)(l:List Nat):Bool:=(List.range ((l.length+1)/2)).all λj=>!decide (l[2*j]?=some m)||(om l (2*j)).all p
def yN:e8:=λds Q=>∃(l:List Nat)(mk:Str)(m:Nat)(p:Nat->Bool),ds=[.str (cz l),.str mk]/\Mk mk m p/\l.length<=100/\(∀c∈l,c∈eY)/\Q (.fz (.bl (oK m p l)))
def Gv:TX:=(cL (jb (ER (cf (dC (.int 0)) (cf (fE ja (cf (bY 0) cp)) (cf (dC (.int 2)) cp)))) (dh 2) (cL (fg 3 (ni (bY 0) (lr (fE Cf (cf (cj (jq λi j=>.int (i-j)) (bY 2) (dC (.int 1))) (cf (dC (.int 0)) cp)))) (lr (cj dZ (bY 2) (dC (.int 2))))))
 (fR (n8 (dw (cj oEq (cj d0 (bY 0) (bY 2)) (bY 1))) (pE (dw (fE tw (cf (gY (jZ (bY 3)) [none,some 1] (dh 0) iD (cj (qZ false) (bY 0) (cj dZ (bY 1) (dC (.str "+#"))))) cp))))) (eu (dC (.bl false))) gj)))
 (eu (dC (.bl true))))
theorem Wy:iV 2 yN Gv ["line","mark","place","around"]:=by
 intro ds w hl h;obtain⟨l,mk,m,p,rfl,M,u,o,q⟩:=h;show Gv _ [.fz (.str (cz l)),.fz (.str mk),.un,.un];unfold Gv;have big:=iW;walk_at"px";show tO (List.range ((l.length+1)/2)) (λj=>.int (0+(j:Nat)*2)) (λs h=>?_) (λi d=>(((List.range ((l.length+1)/2)).take i).all λj=>!decide (l[2*j]?=some m)||(om l (2*j)).all p)=true/\∃a c:Sl,d=[.fz (.str (cz l)),.fz (.str mk),a,c]) ⟨rfl,_,_,rfl⟩ ?_ ?_
 .walk_at"px";rw[show(((l.length:Int)-0+1)/2).toNat=(l.length+1)/2 by ext];show⟨by ext,by ext,h⟩
 .rintro i j d e ⟨b,a,c,rfl⟩;have v:j<(l.length+1)/2:=by simpa using aw e
  have g:2*j<l.length:=by ext
  have t:pC (cz l) (some (if (0:Int)>0+(j:Int)*2-1 then 0 else 0+(j:Int)*2-1)) (some (0+(j:Int)*2+2))=cz (om l (2*j)):=by
   rw[show(if (0:Int)>0+(j:Int)*2-1 then(0:Int) else 0+(j:Int)*2-1)=((2*j-1:Nat):Int) by split<;>ext,show(0:Int)+(j:Int)*2+2=((2*j+2:Nat):Int) by ext,SU l (by ext) (by ext)];rfl
  have r:∀c∈om l (2*j),c∈l:=λc f=>List.mem_of_mem_drop (List.mem_of_mem_take f)
  have y:(om l (2*j)).length<=100:=by unfold om;rw[aP,List.length_drop];ext
  have tk:(((List.range ((l.length+1)/2)).take (i+1)).all λj=>!decide (l[2*j]?=some m)||(om l (2*j)).all p)=(!decide (l[2*j]?=some m)||(om l (2*j)).all p):=by
   rw[bo,e,List.all_append,b];simp
  have bad:(!decide (l[2*j]?=some m)||(om l (2*j)).all p)=false->oK m p l=false:=λh=>by
   unfold oK;rw[List.all_eq_false];show⟨j,aw e,by rw[h];show aC⟩
  have n:et l (0+(j:Int)*2)=some l[2*j]:=by rw[show(0:Int)+(j:Int)*2=((2*j:Nat):Int) by ext];show rT g
  walk_at"px";show⟨by ext,?_⟩;rw[t,M.is];walk_at"go";rw[mi];show⟨by ext,_,n,?_⟩;rw[af g] at tk bad;simp only[AQ,zM,List.cons.injEq,and_true,aN] at tk bad ⊢;by_cases hm:l[2*j]=m
  .simp only[hm,decide_true,Bool.not_true,Bool.false_or,bP] at tk bad ⊢;show lD (om l (2*j)) (λc=>.str ⟨#[c]⟩) (λc=>.bl (p c)) (λs h=>?_) (by ext) (λc f x k1=>?_) (wJ _ _ ?_)
   .walk_at"px";rw[mi];show h
   .walk_at"px";show⟨by rw[big];decide +kernel,?_⟩;have:=M.pV c (o c (r c f));rw[M.is] at this;unfold oA at this;rw[this];show k1
   cases hb:(om l (2*j)).all p with
   | true=>
    dsimp only;rw[if_neg (by simp)];show⟨tk.trans hb,_,_,trivial,trivial,rfl,rfl⟩
   | false=>
    dsimp only;rw[if_pos (by simp)];rw[bad hb] at q;show q
  simp only[hm,decide_false,Bool.not_false,Bool.true_or,aU,bG] at tk ⊢;show⟨tk,_,_,trivial,trivial,rfl,rfl⟩
 rintro d ⟨b,a,c,rfl⟩;walk_at"go";rw[bI] at b;rw[show oK m p l=true from b] at q;show q
noncomputable def ig(rows:List (List Nat))(k:Nat):List Nat:=rows.map λl=>l.getD k 0
noncomputable def jH(rows:List (List Nat)):List (List Nat):=(List.range (wd rows)).map (ig rows)
structure v8(rows:List (List Nat)):Prop where
 b:RB rows
 ne:rows≠[]
 w:∀l∈rows,l.length=wd rows
theorem v8.Hi{rows:List (List Nat)}(h:v8 rows):wd rows<=100:=h.b.eN _ (yE h.ne)
theorem Mx(z:Array Nat):∀(l:List Str)(a:Array Nat),(l.foldl (λacc p=>acc++z++p.cps) a).toList=a.toList++(l.map λp=>z.toList++p.cps.toList).flatten
 | [],a=>by simp
 | x::l,a=>by
  rw[List.foldl_cons,Mx z l];simp
theorem Dc(x:Str)(a:Str)(l:List Str):(Txt.join x (a::l)).cps.toList=a.cps.toList++(l.map λp=>x.cps.toList++p.cps.toList).flatten:=by
 unfold Txt.join Builtin.Str.glued;show Mx _ l a.cps
theorem Cz{a:Str}{l:List Nat}(h:a.cps.toList=l):a=cz l:=by rw[<-h,CC]
theorem M7(L:List Nat):Txt.join "" (L.map λc=>(⟨#[c]⟩:Str))=cz L:=by
 show Cz ?_;cases L with
 | nil=>rfl
 | cons a L=>
  rw[ao,Dc];show [a]++_=_;rw[ay];have:∀L:List Nat,(L.map ((λp:Str=>(("":Str).cps.toList++p.cps.toList))∘λc=>(⟨#[c]⟩:Str))).flatten=L:=λL=>by
   induction L with
   | nil=>rfl
   | cons b r d=>rw[ao,List.flatten_cons,d];rfl
  rw[this];rfl
def Ak:e8:=λds Q=>∃(rows:List (List Nat))(k:Nat),ds=[fB rows,.int k]/\v8 rows/\k<wd rows/\Q (.fz (.str (cz (ig rows k))))
def GW:TX:=(eu (dM "str" oG (dC (.str "")) (cf (gY (jZ (bY 0)) [none,some 1] (dh 0) iD (cj d0 (bY 0) (bY 1))) cp)))
theorem W6:iV 2 Ak GW ["rows","place"]:=by
 intro ds m hl h;obtain⟨rows,k,rfl,b,g,q⟩:=h;show GW _ [.fz (fB rows),.fz (.int k)];unfold GW fB;have big:=iW;have j:=b.b.len;walk_at"px";show⟨rfl,?_⟩;show lD rows (λl=>.str (cz l)) (λl=>.str ⟨#[l.getD k 0]⟩) (λn h=>?_) (by ext) (λl hm o k1=>?_) ?_
 .walk_at"px";show h
 .have hw:=b.b.eN l hm;have d:k<l.length:=by rw[b.w l hm];show g
  walk_at"px";rw[mi];show⟨by ext,_,rT d,?_⟩;rw[ag,af d] at k1;show k1
 have e:(rows.map λl=>D.str ⟨#[l.getD k 0]⟩)=((ig rows k).map λc=>(⟨#[c]⟩:Str)).map D.str:=by unfold ig;simp
 rw[e];simp only[oG,yw,wU];rw[M7];show⟨?_,q⟩;have i:∀L:List Nat,((L.map λc=>(⟨#[c]⟩:Str)).map λx=>x.length).sum=L.length:=λL=>by
  induction L with
  | nil=>rfl
  | cons a r f=>rw[ao,ao,List.sum_cons,f,av];show 1+r.length=_;ext
 rw[i,ae,show(Str.ofString "").length=0 by decide +kernel];unfold ig;rw[ae];ext
def wN:e8:=λds Q=>∃(rows:List (List Nat)),ds=[fB rows]/\v8 rows/\Q (.ow ((jH rows).map λl=>.str (cz l)))
def FT:TX:=(eu (gY (oH (cf (fE ja (cf (cj d0 (bY 0) (dC (.int 0))) cp)) cp)) [none,some 0] (dh 0) iD (fc 2 Ak (cf (bY 1) (cf (bY 0) cp)))))
theorem Wg:iV 1 wN FT ["rows"]:=by
 intro ds f hl h;obtain⟨rows,rfl,b,q⟩:=h;show FT _ [.fz (fB rows)];unfold FT fB;have big:=iW;have e:=b.Hi;walk_at"px";show lD (List.range (wd rows)) (λk=>.int (0+(k:Nat))) (λk=>.str (cz (ig rows k))) (λg h=>?_) (by rw[List.length_range];ext) (λk d i k1=>?_) ?_
 .walk_at"px";show⟨_,JS b.ne,?_⟩;rw[show(rows.headD []).length=wd rows from rfl,ba];show⟨by ext,by ext,by ext,h⟩
 .have:=List.mem_range.mp d;walk_at"px";show⟨rows,k,by simp[fB],b,this,k1⟩
 unfold jH at q;rw[ay] at q;show q
theorem K5{rows:List (List Nat)}(b:v8 rows):RB (jH rows):=by
 have i:=b.Hi;have h:=b.b.len;show⟨by unfold jH;rw[ae,List.length_range];show i,λl a=>?_,λl a c g=>?_⟩
 .obtain⟨k,_,rfl⟩:=aE.mp a;unfold ig;rw[ae];show h
 obtain⟨k,f,rfl⟩:=aE.mp a;obtain⟨r,e,rfl⟩:=aE.mp g;have d:k<r.length:=by rw[b.w r e];show List.mem_range.mp f
 rw[ag,af d];show b.b.eY r e _ (aV d)
theorem Rc{rows:List (List Nat)}(b:RB rows)(c:rows≠[])(h:oE rows=true):v8 rows:=by
 show⟨b,c,λl a=>?_⟩;unfold oE at h;simp only[aT,aM] at h;simpa using h.2 l a
noncomputable def cV(rows:List (List Nat)):Bool:=oE rows&&ui rows&&rows.all (oK 45 lO)&&(jH rows).all (oK 124 kN)
def yL:e8:=λds Q=>∃rows,ds=[fB rows]/\rows≠[]/\RB rows/\Q (.fz (.bl (cV rows)))
def GV:TX:=(cL (fR (vZ (pE (dw (fc 1 Ae (cf (bY 0) cp)))) (pE (dw (fc 1 Al (cf (bY 0) cp))))) (eu (dC (.bl false))) gj)
 (cL (fg 1 (fE tw (cf (gY (jZ (bY 0)) [none] (dh 0) iD (fc 2 yN (cf (bY 0) (cf (dC (.str "-")) cp)))) cp)))
 (eu (tE (bY 1) (fE tw (cf (gY (jZ (fc 1 wN (cf (bY 0) cp))) [none] (dh 0) iD (fc 2 yN (cf (bY 0) (cf (dC (.str "|")) cp)))) cp))))))
theorem Xq:iV 1 yL GV ["rows","stretches_hold"]:=by
 intro ds r hl h;obtain⟨rows,rfl,i,b,q⟩:=h;show GV _ [.fz (fB rows),.un];unfold GV;have big:=iW;have p:=b.len;unfold cV at q;walk_at"px";show⟨rows,rfl,i,b,?_⟩;cases d:oE rows with
 | false=>
  rw[d] at q;walk_at"px";show q
 | true=>
  have j:=Rc b i d;rw[d] at q;walk_at"px";show⟨rows,rfl,b,?_⟩;cases g:ui rows with
  | false=>
   rw[g] at q;walk_at"px";show q
  | true=>
   rw[g] at q;walk_at"px";walk_at"go";show lD rows (λl=>.str (cz l)) (λl=>.bl (oK 45 lO l)) (λm h=>?_) (by ext) (λl hm n k1=>?_) (wJ _ _ ?_)
   .unfold fB;walk_at"px";show h
   .walk_at"px";show⟨l,_,45,lO,rfl,JX,b.eN l hm,b.eY l hm,k1⟩
   have e:=K5 j;have o:=e.len;walk_at"go";cases f:rows.all (oK 45 lO) with
   | false=>
    rw[if_neg aC];rw[f] at q;show q
   | true=>
    rw[if_pos rfl];rw[f] at q;simp only[Bool.true_and] at q;show lD (jH rows) (λl=>.str (cz l)) (λl=>.bl (oK 124 kN l)) (λm h=>?_) (by ext) (λl hm n k1=>?_) (wJ _ _ q)
    .walk_at"px";show⟨rows,rfl,j,h⟩
    walk_at"px";show⟨l,_,124,kN,rfl,JW,e.eN l hm,e.eY l hm,k1⟩
end Wc
open PySem L2 PyProof.Rows Wc
local macro_rules | `(tactic| walk_at"px")=>`(tactic| (repeat(first | walk_at"b" | simp only[vf,gG])))
namespace Wc
open PySem L2 PyProof.Rows
noncomputable def qG(b:Bool):Str:=if b then "|" else "-"
noncomputable def mO(b:Bool):Nat:=if b then 124 else 45
noncomputable def pO(b:Bool):Nat->Bool:=if b then kN else lO
theorem JR(b:Bool):Mk (qG b) (mO b) (pO b):=by
 cases b
 .exact JX
 show JW
theorem OO(b:Bool):pO b (mO b)=true:=by cases b<;>decide
noncomputable def uQ(s:Sd):D:=.tup [.str (qG s.1),.int s.2.1,.int s.2.2]
noncomputable def rG:Option Sd->D
 | none=>.non
 | some s=>uQ s
noncomputable def i8(b:Bool)(l:List Nat):Nat->Bool:=λi=>pO b (l.getD i 0)
noncomputable def nt(b:Bool)(n:Nat)(l:List Nat)(k:Nat):Option Sd:=if i8 b l k=true then some (b,n,jE (i8 b l) k) else none
noncomputable def kn(b:Bool)(n:Nat)(l:List Nat):List (Option Sd):=(List.range l.length).map (nt b n l)
def Ab:e8:=λds Q=>∃(n:Nat)(l:List Nat)(b:Bool),ds=[.int n,.str (cz l),.str (qG b)]/\l.length<=100/\(∀c∈l,c∈eY)/\Q (.ow ((kn b n l).map rG))
def GR:TX:=(cL (mT 3 (jc cp))
 (cL (fg 4 (dC .non))
 (cL (jb (vf (cf (bY 1) cp)) (kg 2 (fm (dh 5) (fm (dh 6) jG))) (cL (fR (dw (cj (qZ true) (bY 6) (cj dZ (bY 2) (dC (.str "+#"))))) (fg 4 (dC .non)) (fR (dw (cj (zl false) (bY 4) (dC .non))) (fg 4 (kj (cf (bY 2) (cf (bY 0) (cf (bY 5) cp))))) gj))
 (uf 3 (bY 4))))
 (yf 3))))
theorem XH:iV 3 Ab GR ["number","line","mark","strands","strand","place","sign"]:=by
 intro ds F hl h;obtain⟨n,l,b,rfl,D,x,q⟩:=h;show GR _ [.fz (.int n),.fz (.str (cz l)),.fz (.str (qG b)),.un,.un,.un,.un];unfold GR;have big:=iW;have M:=JR b;walk_at"px";walk_at"go";show⟨a9 _,?_⟩;walk_at"go";show tO l.zipIdx (λp=>.tup [.int (p.2:Nat),.str ⟨#[p.1]⟩]) (λH h=>?_) (λi g=>∃a c:Sl,g=[.fz (.int n),.fz (.str (cz l)),.fz (.str (qG b)),.ow (((List.range i).map (nt b n l)).map rG),.fz (rG (if i=0 then none else nt b n l (i-1))),a,c]) ⟨_,_,rfl⟩ ?_ ?_
 .walk_at"px";rw[mi,wO];show h
 .rintro i ⟨E,pp⟩ g v ⟨a,c,rfl⟩;rw[List.getElem?_zipIdx] at v;obtain⟨e,m,w⟩:=aZ.mp v;simp only[Prod.mk.injEq] at w;obtain⟨rfl,rfl⟩:=w;have C:i<l.length:=(aj.mp m).1;have B:e∈l:=aw m;have y:i8 b l i=pO b e:=by unfold i8;rw[ag,m];rfl
  rw[Nat.zero_add];have t:=M.pV e (x e B);unfold oA at t;have A:(qG b).length+(Str.ofString "+#").length<=sizeLine:=by rw[big];cases b<;>decide +kernel
  have rs:(List.range (i+1)).map (nt b n l)=(List.range i).map (nt b n l)++[nt b n l i]:=by rw[List.range_succ,aH];rfl
  have s:(if i+1=0 then none else nt b n l (i+1-1))=nt b n l i:=by rw[if_neg (by ext),Nat.add_sub_cancel]
  walk_at"px";show⟨A,?_⟩;rw[t,<-y];cases u:i8 b l i with
  | false=>
   have f:nt b n l i=none:=by unfold nt;rw[u];rfl
   rw[if_pos (by simp)];walk_at"go";rw[rs,s,f];show⟨by simp;ext,.fz (.int i),.fz (.str ⟨#[e]⟩),by rw[aH];rfl⟩
  | true=>
   rw[if_neg (by simp)];have f:nt b n l i=some (b,n,jE (i8 b l) i):=by unfold nt;rw[u];rfl
   cases d:(if i=0 then none else nt b n l (i-1)) with
   | none=>
    have r:jE (i8 b l) i=i:=by
     cases i with
     | zero=>rfl
     | succ j=>
      rw[if_neg (by ext),Nat.add_sub_cancel] at d;unfold nt at d;split at d
      .cases d
      rename_i o;unfold jE;rw[if_neg o]
    rw[r] at f;show(if_pos rfl:ite _ _ _=_).mpr ?_;show⟨by ext,?_⟩;walk_at"go";rw[rs,s,f];show⟨by simp;ext,.fz (.int i),.fz (.str ⟨#[e]⟩),by rw[aH];rfl⟩
   | some z=>
    have r:nt b n l i=some z:=by
     cases i with
     | zero=>cases d
     | succ j=>
      rw[if_neg (by ext),Nat.add_sub_cancel] at d;rw[f];unfold nt at d;split at d
      .rename_i o;rw[SQ o];show d
      cases d
    show(if_neg (by simp[rG,uQ]):ite _ _ _=_).mpr ?_;walk_at"go";rw[rs,s,r];show⟨by simp;ext,.fz (.int i),.fz (.str ⟨#[e]⟩),by rw[aH];rfl⟩
 rintro g ⟨a,c,rfl⟩;walk_at"go";rw[bU];show q
noncomputable def FR(b:Bool)(a:List (List Nat)):List (List (Option Sd)):=a.zipIdx.map λq=>kn b q.2 q.1
noncomputable def qo(b:Bool)(a:List (List Nat)):List D:=(FR b a).map λl=>.lst (l.map rG)
def wX:e8:=λds Q=>∃(ls:List (List Nat))(b:Bool),ds=[fB ls,.str (qG b)]/\RB ls/\Q (.ow (qo b ls))
def GU:TX:=(eu (gY (rP (cf (bY 0) cp)) [none,none,some 1] (kg 2 (fm (dh 0) (fm (dh 1) jG))) iD (fc 3 Ab (cf (bY 0) (cf (bY 1) (cf (bY 2) cp))))))
theorem Xp:iV 2 wX GU ["lines","mark"]:=by
 intro ds f hl h;obtain⟨ls,b,rfl,rb,q⟩:=h;show GU _ [.fz (fB ls),.fz (.str (qG b))];unfold GU;have big:=iW;have e:=rb.len;walk_at"px";show lD ls.zipIdx (λp=>.tup [.int (p.2:Nat),.str (cz p.1)]) (λp=>.lst ((kn b p.2 p.1).map rG)) (λg h=>?_) (by rw[bU];ext) (λp d i k1=>?_) ?_
 .unfold fB;walk_at"px";rw[wO];show h
 .obtain⟨l,n⟩:=p;have hm:=mem_zipIdx d;walk_at"px";show⟨n,l,b,rfl,rb.eN l hm,rb.eY l hm,k1⟩
 unfold qo FR at q;rw[ay] at q;show q
end Wc
open PySem L2 PyProof.Rows Wc
local macro_rules | `(tactic| walk_at"px")=>`(tactic| (repeat(first | walk_at"b" | simp only[vf,gG,uZ])))
namespace Wc
open PySem L2 PyProof.Rows
theorem K4{α:Type}{l:List α}(h:0<l.length):et l (-1)=some (l[l.length-1]'(by ext)):=by
 unfold et nC;rw[if_neg (by ext),if_pos (by ext)];simp only[Option.bind_some];rw[show((-1:Int)+(l.length:Int)).toNat=l.length-1 by ext];show af _
noncomputable def BN(p:Sd×fh):D:=.tup [uQ p.1,qi p.2]
noncomputable def kI(b:Bool)(c a:Str)(q:List Nat×Nat):List (Sd×fh):=
 (if q.1[0]?=some (mO b) then [((b,q.2,0),(c,((q.2/2:Nat):Int)))] else [])++(if q.1[q.1.length-1]?=some (mO b) then [((b,q.2,jE (i8 b q.1) (q.1.length-1)),(a,((q.2/2:Nat):Int)))] else [])
noncomputable def ve(b:Bool)(c a:Str)(d:List (List Nat)):List (Sd×fh):=d.zipIdx.flatMap (kI b c a)
theorem K3(b:Bool)(c a:Str)(q:List Nat×Nat):(kI b c a q).length<=2:=by
 unfold kI;rw[ax];split<;>split<;>simp
theorem C9{α β:Type}{f:α->List β}{k:Nat}(b:∀a,(f a).length<=k):∀l:List α,(l.flatMap f).length<=l.length*k
 | []=>by simp
 | a::l=>by
  rw[List.flatMap_cons,ax,av,Nat.succ_mul];have:=b a;have:=C9 b l;ext
theorem zu{b:Bool}{a:List (List Nat)}{l:List Nat}{n:Nat}(h:a[n]?=some l):et (qo b a) (n:Nat)=some (.lst ((kn b n l).map rG)):=by
 have hn:n<a.length:=(aj.mp h).1;unfold qo FR;rw[wM,wM,rT (by simpa using hn)];simp only[bO,List.getElem_zipIdx];rw[show a[n]=l from(aj.mp h).2,Nat.zero_add]
theorem CL{b:Bool}{n k:Nat}{l:List Nat}(c:k<l.length)(a:i8 b l k=true):(kn b n l)[k]?=some (some (b,n,jE (i8 b l) k)):=by
 unfold kn;rw[ar,List.getElem?_range c];simp[nt,a]
theorem SN{b:Bool}{n:Nat}{l:List Nat}(c:0<l.length)(d:i8 b l 0=true):et ((kn b n l).map rG) 0=some (uQ (b,n,0)):=by
 have h:=CL (n:=n) c d;have a:0<(kn b n l).length:=by unfold kn;simpa using c
 rw[wM,show et (kn b n l) 0=some (kn b n l)[0] from rT (j:=0) a];rw[af a] at h;rw[aX h];rfl
theorem L7{b:Bool}{n:Nat}{l:List Nat}(d:0<l.length)(a:i8 b l (l.length-1)=true):et ((kn b n l).map rG) (-1)=some (uQ (b,n,jE (i8 b l) (l.length-1))):=by
 have h:=CL (n:=n) (show l.length-1<l.length by ext) a;have e:(kn b n l).length=l.length:=by unfold kn;simp
 have c:0<(kn b n l).length:=by ext
 rw[wM,K4 c];simp only[e];rw[af (by ext)] at h;rw[aX h];rfl
def wQ:e8:=λds Q=>∃(ls:List (List Nat))(b:Bool)(s0 s1:Str),ds=[fB ls,.lst (qo b ls),.str (qG b),.tup [.str s0,.str s1]]/\RB ls/\(∀l∈ls,0<l.length)/\Q (.ow ((ve b s0 s1 ls).map BN))
def GB:TX:=(cL (mT 4 (jc cp))
 (cL (jb (rP (cf (bY 0) cp)) (kg 2 (fm (dh 5) (fm (dh 6) jG))) (cL (fR (dw (cj oEq (cj d0 (bY 6) (dC (.int 0))) (bY 2))) (uf 4 (kj (cf (cj d0 (cj d0 (bY 1) (bY 5)) (dC (.int 0))) (cf (kj (cf (cj d0 (bY 3) (dC (.int 0))) (cf (cj (oI rO λi j=>.int (i/j)) (bY 5) (dC (.int 2))) cp))) cp)))) gj)
 (fR (dw (cj oEq (cj d0 (bY 6) (Ci (dC (.int 1)))) (bY 2))) (uf 4 (kj (cf (cj d0 (cj d0 (bY 1) (bY 5)) (Ci (dC (.int 1)))) (cf (kj (cf (cj d0 (bY 3) (dC (.int 1))) (cf (cj (oI rO λi j=>.int (i/j)) (bY 5) (dC (.int 2))) cp))) cp)))) gj)))
 (yf 4)))
theorem WY:iV 4 wQ GB ["lines","strands","mark","sides","ends","number","line"]:=by
 intro ds F hl h;obtain⟨ls,b,s0,s1,rfl,rb,z,q⟩:=h;show GB _ [.fz (fB ls),.fz (.lst (qo b ls)),.fz (.str (qG b)),.fz (.tup [.str s0,.str s1]),.un,.un,.un];unfold GB;have big:=iW;have M:=JR b;have E:=rb.len;walk_at"px";show⟨a9 _,?_⟩;walk_at"go";show tO ls.zipIdx (λp=>.tup [.int (p.2:Nat),.str (cz p.1)]) (λH h=>?_) (λi o=>∃a c:Sl,o=[.fz (fB ls),.fz (.lst (qo b ls)),.fz (.str (qG b)),.fz (.tup [.str s0,.str s1]),.ow (((ls.zipIdx.take i).flatMap (kI b s0 s1)).map BN),a,c]) ⟨_,_,rfl⟩ ?_ ?_
 .unfold fB;walk_at"px";rw[wO];show h
 .rintro i ⟨l,n⟩ o m ⟨a,c,rfl⟩;have hm:l∈ls:=mem_zipIdx (aw m);have g:=z l hm;have hw:=rb.eN l hm;have r:ls[n]?=some l:=by
   rw[List.getElem?_zipIdx] at m;obtain⟨D,x,v⟩:=aZ.mp m;simp only[Prod.mk.injEq] at v;obtain⟨rfl,rfl⟩:=v;rw[Nat.zero_add];show x
  have tk:(ls.zipIdx.take (i+1)).flatMap (kI b s0 s1)=(ls.zipIdx.take i).flatMap (kI b s0 s1)++kI b s0 s1 (l,n):=by
   rw[bo,m,List.flatMap_append];simp
  have C:=C9 (K3 b s0 s1) (ls.zipIdx.take i);have I:(ls.zipIdx.take i).length<=100:=by rw[aP,bU];ext
  rw[tk];have f:kI b s0 s1 (l,n)=(if l[0]=mO b then [((b,n,0),(s0,((n/2:Nat):Int)))] else [])++(if l[l.length-1]'(by ext)=mO b then [((b,n,jE (i8 b l) (l.length-1)),(s1,((n/2:Nat):Int)))] else []):=by
   unfold kI;simp only[af g,af (show l.length-1<l.length by ext),aN]
  generalize kI b s0 s1 (l,n)=e at f ⊢;generalize (ls.zipIdx.take i).flatMap (kI b s0 s1)=acc at C ⊢;have B:et l 0=some l[0]:=rT (l:=l) (j:=0) g;have w:=K4 g;have A:qG b=cz [mO b]:=M.is;have t:∀k (u:k<l.length),l[k]=mO b->i8 b l k=true:=λk u h=>by
   unfold i8;rw[ag,af u,bg,h];show OO b
  have s:((n:Int)/2)=((n/2:Nat):Int):=by ext
  have ll:((kn b n l).map rG).length=l.length:=by unfold kn;simp
  have y:(kn b n l).length=l.length:=by unfold kn;simp
  walk_at"px";rw[mi];show⟨by ext,_,B,?_⟩;rw[A];simp only[AQ,zM,List.cons.injEq,and_true];by_cases h0:l[0]=mO b
  .rw[if_pos h0] at f;rw[if_pos h0];show⟨_,zu r,_,SN g (t _ g h0),_,rfl,by ext,by ext,by simp;ext,?_⟩;walk_at"go";rw[mi];show⟨by ext,_,w,?_⟩;simp only[AQ,zM,List.cons.injEq,and_true];by_cases d:l[l.length-1]'(by ext)=mO b
   .rw[if_pos d] at f;rw[if_pos d];show⟨_,zu r,_,L7 g (t _ (by ext) d),_,rfl,by ext,by ext,by simp;ext,.fz (.int n),.fz (.str (cz l)),?_⟩;rw[f,s];simp[BN,qi]
   rw[if_neg d] at f;rw[if_neg d,f,s];show⟨.fz (.int n),.fz (.str (cz l)),by simp[BN,qi]⟩
  rw[if_neg h0] at f;rw[if_neg h0];walk_at"go";rw[mi];show⟨by ext,_,w,?_⟩;simp only[AQ,zM,List.cons.injEq,and_true];by_cases d:l[l.length-1]'(by ext)=mO b
  .rw[if_pos d] at f;rw[if_pos d];show⟨_,zu r,_,L7 g (t _ (by ext) d),_,rfl,by ext,by ext,by simp;ext,.fz (.int n),.fz (.str (cz l)),?_⟩;rw[f,s];simp[BN,qi]
  rw[if_neg d] at f;rw[if_neg d,f];show⟨.fz (.int n),.fz (.str (cz l)),by simp⟩
 rintro o ⟨a,c,rfl⟩;walk_at"go";rw[bI];show q
noncomputable def sy(rows:List (List Nat))(q:List Nat×Nat):List (Sd×Sd):=(q.1.zipIdx.filter λp=>decide (p.1=43)).map λp=>((false,q.2,jE (i8 false q.1) p.2),(true,p.2,jE (i8 true (ig rows p.2)) q.2))
noncomputable def FH(rows:List (List Nat)):List (Sd×Sd):=rows.zipIdx.flatMap (sy rows)
noncomputable def Ej(p:Sd×Sd):D:=.tup [uQ p.1,uQ p.2]
theorem FG{rows:List (List Nat)}{q:List Nat×Nat}:(sy rows q).length<=q.1.length:=by
 unfold sy;rw[ae];show aR (List.length_filter_le _ _) (by simp)
theorem Gq{α β:Type}{f:α->List β}{k:Nat}:∀{l:List α},(∀a∈l,(f a).length<=k)->(l.flatMap f).length<=l.length*k
 | [],_=>by simp
 | a::l,hf=>by
  rw[List.flatMap_cons,ax,av,Nat.succ_mul];have:=hf a aA;have:=Gq (l:=l) λb hb=>hf b (au _ hb)
  ext
def yJ:e8:=λds Q=>∃(rows:List (List Nat)),ds=[fB rows,.lst (qo false rows),.lst (qo true (jH rows))]/\v8 rows/\Q (.ow ((FH rows).map Ej))
def GK:TX:=(cL (mT 3 (jc cp))
 (cL (jb (rP (cf (bY 0) cp)) (kg 2 (fm (dh 4) (fm (dh 5) jG))) (cL (fg 6 (gY (vf (cf (bY 5) cp)) [none,none] (kg 2 (fm (dh 0) (fm (dh 1) jG))) (dw (cj oEq (bY 1) (dC (.str "+")))) (bY 0)))
 (uZ 3 (gY (jZ (bY 6)) [none,some 4,some 1,some 2] (dh 0) iD (kj (cf (cj d0 (cj d0 (bY 2) (bY 1)) (bY 0)) (cf (cj d0 (cj d0 (bY 3) (bY 0)) (bY 1)) cp)))))))
 (yf 3)))
theorem WX:iV 3 yJ GK ["rows","stretches","uprights","joints","number","row","places"]:=by
 intro ds P hl h;obtain⟨rows,rfl,b,q⟩:=h;show GK _ [.fz (fB rows),.fz (.lst (qo false rows)),.fz (.lst (qo true (jH rows))),.un,.un,.un,.un];unfold GK;have big:=iW;have O:=b.b.len;have N:=b.Hi;walk_at"px";show⟨a9 _,?_⟩;walk_at"go";show tO rows.zipIdx (λp=>.tup [.int (p.2:Nat),.str (cz p.1)]) (λu h=>?_) (λi o=>∃a c d:Sl,o=[.fz (fB rows),.fz (.lst (qo false rows)),.fz (.lst (qo true (jH rows))),.ow (((rows.zipIdx.take i).flatMap (sy rows)).map Ej),a,c,d]) ⟨_,_,_,rfl⟩ ?_ ?_
 .unfold fB;walk_at"px";rw[wO];show h
 .rintro i ⟨l,n⟩ o j ⟨a,c,d,rfl⟩;have hm:l∈rows:=mem_zipIdx (aw j);have hw:=b.b.eN l hm;have S:=b.w l hm;have r:rows[n]?=some l:=by
   rw[List.getElem?_zipIdx] at j;obtain⟨M,x,m⟩:=aZ.mp j;simp only[Prod.mk.injEq] at m;obtain⟨rfl,rfl⟩:=m;rw[Nat.zero_add];show x
  have tk:(rows.zipIdx.take (i+1)).flatMap (sy rows)=(rows.zipIdx.take i).flatMap (sy rows)++sy rows (l,n):=by
   rw[bo,j,List.flatMap_append];simp
  have H:((rows.zipIdx.take i).flatMap (sy rows)).length<=(rows.zipIdx.take i).length*100:=Gq λq z=>aR FG (b.b.eN _ (mem_zipIdx (i:=q.2) (List.mem_of_mem_take z)))
  have R:(rows.zipIdx.take i).length<=100:=by rw[aP,bU];ext
  rw[tk];have L:=FG (rows:=rows) (q:=(l,n));generalize (rows.zipIdx.take i).flatMap (sy rows)=acc at H ⊢;have K:(l.zipIdx.filter λp=>decide (p.1=43)).length<=100:=aR (List.length_filter_le _ _) (by simpa using hw);walk_at"px";show Dt l.zipIdx (λp=>.tup [.int (p.2:Nat),.str ⟨#[p.1]⟩]) (λp=>.int (p.2:Nat)) (λp=>decide (p.1=43)) (λu h=>?_) (by rw[bU];ext) (λp t F Q k1 k0=>?_) ?_
  .walk_at"px";rw[mi,wO];show h
  .obtain⟨g,pp⟩:=p;have B:(⟨#[g]⟩:Str)="+"↔g=43:=by
    rw[show("+":Str)=cz [43] by decide +kernel,AQ,zM];simp
   walk_at"px";simp only[B];by_cases f:g=43
   .rw[if_pos f];show k1 (by simpa using f)
   rw[if_neg f];show k0 (by simpa using f)
  walk_at"go";show lD (l.zipIdx.filter λp=>decide (p.1=43)) (λp=>.int (p.2:Nat)) (λp=>Ej ((false,n,jE (i8 false l) p.2),(true,p.2,jE (i8 true (ig rows p.2)) n))) (λu h=>?_) (by ext) (λp t F k1=>?_) ?_
  .walk_at"px";show h
  .obtain⟨g,pp⟩:=p;obtain⟨hz,f⟩:=bA.mp t;have f:g=43:=by simpa using f
   have J:=List.mem_zipIdx hz;have s:pp<l.length:=by ext
   have v:l[pp]=43:=by
    have:=J.2.2;simp only[Nat.sub_zero] at this;rw[<-this];show f
   have A:n<rows.length:=(aj.mp r).1;have I:(jH rows)[pp]?=some (ig rows pp):=by
    unfold jH;rw[ar,List.getElem?_range (by ext)];rfl
   have C:i8 false l pp=true:=by
    unfold i8;rw[ag,af s,bg,v];show Ri
   have E:i8 true (ig rows pp) n=true:=by
    unfold i8 ig;rw[ag,ar,r,bO,bg,ag,af s,bg,v];show Rh
   have y:et ((kn false n l).map rG) (pp:Nat)=some (uQ (false,n,jE (i8 false l) pp)):=by
    have h:=CL (n:=n) s C;have e:(kn false n l).length=l.length:=by unfold kn;simp
    rw[wM,rT (by ext)];rw[af (by ext)] at h;rw[aX h];rfl
   have at2:et ((kn true pp (ig rows pp)).map rG) (n:Nat)=some (uQ (true,pp,jE (i8 true (ig rows pp)) n)):=by
    have m:(ig rows pp).length=rows.length:=by unfold ig;simp
    have h:=CL (n:=pp) (l:=ig rows pp) (k:=n) (by ext) E;have e:(kn true pp (ig rows pp)).length=rows.length:=by unfold kn;simp[m]
    rw[wM,rT (by ext)];rw[af (by ext)] at h;rw[aX h];rfl
   walk_at"px";show⟨_,zu r,_,y,_,zu I,_,at2,by ext,k1⟩
  walk_at"px";show⟨by rw[ae,ae];ext,.fz (.int n),.fz (.str (cz l)),.fz (.lst (List.map (λp=>D.int (p.2:Nat)) (List.filter (λp=>decide (p.1=43)) l.zipIdx))),?_⟩;rw[aH];unfold sy;rw[ay];rfl
 rintro o ⟨a,c,d,rfl⟩;walk_at"go";rw[bI];show q
end Wc
open PySem L2 PyProof.Rows Wc
local macro_rules | `(tactic| walk_at"px")=>`(tactic| (repeat(first | walk_at"b" | simp only[tI,uZ])))
namespace Wc
open PySem L2 PyProof.Rows
noncomputable def endsF(rows:List (List Nat)):List (Sd×fh):=ve false "left" "right" rows++ve true "top" "bottom" (jH rows)
theorem L6{rows:List (List Nat)}(h:cV rows=true):oE rows=true/\ui rows=true/\rows.all (oK 45 lO)=true/\(jH rows).all (oK 124 kN)=true:=by
 unfold cV at h;simp only[aT] at h;show⟨h.1.1.1,h.1.1.2,h.1.2,h.2⟩
theorem Ff{rows:List (List Nat)}(h:oE rows=true):3<=wd rows/\∀l∈rows,l.length=wd rows:=by
 unfold oE at h;simp only[aT,br,aM] at h;show⟨h.1.2,h.2⟩
structure Any(rows:List (List Nat))(t:Str):Prop where
 ne:rows≠[]
 rb:RB rows
 txt:Txt.split t "\n"=rows.map cz
 len:t.length<10000
 h40:rows.length<=40
 Yd:wd rows<=40
 rF:cV rows=true->(endsF rows).length<64/\((endsF rows).map (·.2)).Nodup
noncomputable def pd(e:fh):EK:=[.inr e.1,.inl e.2]
noncomputable def y9(s:Sd):EK:=[.inr (qG s.1),.inl (s.2.1:Int),.inl (s.2.2:Int)]
noncomputable def vt:EK->fh
 | [.inr s,.inl i]=>(s,i)
 | _=>("",0)
theorem JV(e:fh):vt (pd e)=e:=rfl
theorem Tv{κ:Type}[DecidableEq κ]{l:List (κ×EK)}{kvs:List (κ×List EK)}(G:ke l kvs)(nd:(l.map (·.2)).Nodup):(kvs.map λp=>sK p.2).flatten.Perm (l.map (·.2)):=by
 show(List.perm_ext_iff_of_nodup ?_ nd).mpr λe=>?_
 .rw[bu,List.pairwise_flatten];show⟨λg hg=>?_,?_⟩
  .obtain⟨p,d,rfl⟩:=aE.mp hg;show bu.mp ((tL p.2).nodup_iff.mpr ?_);rw[G.is p d];show List.Nodup.sublist (List.Sublist.map _ List.filter_sublist) nd
  rw[List.pairwise_map];have j:kvs.Pairwise (·≠·):=by
   have:=G.nd;rw[bu,List.pairwise_map] at this;show this.imp λh z=>h (by rw[z])
  show j.imp_of_mem λ{a b} ha hb f=>?_
  intro x c y i z;subst z;show f (G.atK nd ha hb ((tL _).subset c) ((tL _).subset i))
 rw[List.mem_flatten];constructor
 .rintro⟨g,hg,he⟩;obtain⟨p,d,rfl⟩:=aE.mp hg;have:=(tL p.2).subset he;rw[G.is p d] at this;obtain⟨x,c,rfl⟩:=aE.mp this;show aE.mpr ⟨x,(bA.mp c).1,rfl⟩
 intro he;obtain⟨x,c,rfl⟩:=aE.mp he;obtain⟨g,hg⟩:=G.all x c;show⟨sK g,aE.mpr ⟨_,hg,rfl⟩,(tL g).symm.subset ?_⟩;have e:=G.is _ hg;simp only at e;rw[e];show aE.mpr ⟨x,bA.mpr ⟨c,by simp⟩,rfl⟩
theorem RV{c:List (Sd×fh)}{d:List (EK×EK)}{f:List (List EK)}(nd:(c.map (·.2)).Nodup)(h:Gd (c.map λp=>(y9 p.1,pd p.2)) d f):∃g2:List (List fh),f=g2.map (λg=>g.map pd)/\g2.flatten.Perm (c.map (·.2)):=by
 obtain⟨lab,kvs,_,G,rfl⟩:=h;rw[ay] at G;have i:(c.map ((λp:EK×EK=>(lab p.1,p.2))∘λp=>(y9 p.1,pd p.2))).map (·.2)=(c.map (·.2)).map pd:=by rw[ay,ay];rfl
 have inj:∀a b:fh,pd a=pd b->a=b:=λa b h=>by have:=congrArg vt h;rwa [JV,JV] at this
 have j:((c.map ((λp:EK×EK=>(lab p.1,p.2))∘λp=>(y9 p.1,pd p.2))).map (·.2)).Nodup:=by
  rw[i,bu,List.pairwise_map];rw[bu] at nd;show nd.imp λh z=>h (inj _ _ z)
 have P:=((Ma (kvs.map λp=>sK p.2)).flatten).trans (Tv G j);rw[i] at P;generalize AF (kvs.map λp=>sK p.2)=f at P ⊢;have un:∀g∈f,∀e∈g,pd (vt e)=e:=λg hg e he=>by
  obtain⟨x,_,rfl⟩:=aE.mp (P.subset (List.mem_flatten.mpr ⟨g,hg,he⟩));rfl
 show⟨f.map λg=>g.map vt,?_,?_⟩
 .rw[ay];conv=>lhs;rw[<-List.map_id f]
  show List.map_congr_left λg hg=>?_
  show g=(g.map vt).map pd;rw[ay];conv=>lhs;rw[<-List.map_id g]
  show List.map_congr_left λe he=>(un g hg e he).symm
 rw[<-List.map_flatten];have:=P.map vt;rwa [ay,show vt∘pd=id from rfl,List.map_id] at this
def zZ:uS:=λds c b=>∃(t:Str)(rows:List (List Nat)),ds=[.str t]/\Any rows t/\(cV rows=true->∀a:List (List fh),a.flatten.Perm ((endsF rows).map (·.2))->c (.ov (.ll (a.map λg=>g.map qi))))/\(cV rows=false->b)
def Dm(a:Prop):TX:=(cL (fg 1 (dM "str" tI (bY 0) (cf (dC (.str "\n")) cp)))
 (cL (fR (pE (dw (fc 1 yL (cf (bY 1) cp)))) (zF a (dC (.str "the text is no drawing"))) gj)
 (cL (fg 2 (fc 1 wN (cf (bY 1) cp)))
 (cL (fg 3 (fc 2 wX (cf (bY 1) (cf (dC (.str "-")) cp))))
 (cL (fg 4 (fc 2 wX (cf (bY 2) (cf (dC (.str "|")) cp))))
 (cL (mT 5 (fc 4 wQ (cf (bY 1) (cf (bY 3) (cf (dC (.str "-")) (cf (kj (cf (dC (.str "left")) (cf (dC (.str "right")) cp))) cp))))))
 (cL (uZ 5 (fc 4 wQ (cf (bY 2) (cf (bY 4) (cf (dC (.str "|")) (cf (kj (cf (dC (.str "top")) (cf (dC (.str "bottom")) cp))) cp))))))
 (wz 5 (eu (fc 2 wR (cf (bY 5) (cf (fc 3 yJ (cf (bY 1) (cf (bY 3) (cf (bY 4) cp)))) cp))))))))))))
theorem Wd(ds:List D)(n:R->Prop)(m:Prop)(hl:ds.length=1)(h:zZ ds n m):Dm m { nx:=λ_=>n (.fz .non),rt:=n } (tJ ["text","rows","columns","stretches","uprights","ends"] ds):=by
 obtain⟨t,rows,rfl,W,q,r⟩:=h;show Dm m _ [.fz (.str t),.un,.un,.un,.un,.un];unfold Dm;have big:=iW;have hlen:=W.len;have y:D.lst ((rows.map cz).map D.str)=fB rows:=by rw[ay];rfl
 walk_at"px";show⟨rfl,by decide,by ext,?_⟩;rw[W.txt,y];walk_at"go";show⟨rows,rfl,W.ne,W.rb,?_⟩;cases i:cV rows with
 | false=>
  walk_at"px";simp only[zF];walk_at"px";show r i
 | true=>
  have rF:=W.rF i;have v:=Ff (L6 i).1;have d:v8 rows:=⟨W.rb,W.ne,v.2⟩
  have rc:=K5 d;have wl:=W.Yd;have u:=W.h40;have cl:(jH rows).length=wd rows:=by unfold jH;simp
  have o:∀b s0 s1 (ls:List (List Nat)),(ve b s0 s1 ls).length<=ls.length*2:=λb s0 s1 ls=>by
   have:=C9 (K3 b s0 s1) ls.zipIdx;rw[bU] at this;show this
  have s:(FH rows).length<=1600:=by
   have:=Gq (f:=sy rows) (k:=40) (l:=rows.zipIdx) λa ha=>by
    show aR FG ?_;have:=List.mem_zipIdx ha;rw[this.2.2,d.w _ (aV _)];show wl
   rw[bU] at this;show aR this ?_;ext
  walk_at"go";show⟨rows,rfl,d,?_⟩;walk_at"go";show⟨rows,false,rfl,W.rb,?_⟩;walk_at"go";show⟨jH rows,true,rfl,rc,?_⟩;walk_at"go";show⟨by ext,?_⟩;show⟨rows,false,"left","right",rfl,W.rb,λl hl=>by rw[d.w l hl];ext,?_⟩;walk_at"go";show⟨by ext,?_⟩;show⟨jH rows,true,"top","bottom",rfl,rc,λl hl=>?_,?_⟩
  .unfold jH ig at hl;obtain⟨k,A,rfl⟩:=aE.mp hl;rw[ae];show List.length_pos_iff.mpr W.ne
  have k1:=o false "left" "right" rows;have k2:=o true "top" "bottom" (jH rows);show⟨by simp only[ae];ext,?_⟩;walk_at"go";rw[<-aH];show⟨rows,rfl,d,?_⟩;walk_at"px";show⟨true,[false],(endsF rows).map λp=>(y9 p.1,pd p.2),(FH rows).map λp=>(y9 p.1,y9 p.2),?_,by rw[ae];show s,by rw[ae];show rF.1,λp j=>?_,?_,λB hg=>?_⟩
  .rw[ay,ay];rfl
  .obtain⟨x,_,rfl⟩:=aE.mp j;rfl
  .rw[ay];have:=rF.2;rw[bu,List.pairwise_map] at this ⊢;show this.imp λ{a b} h z=>h (show a.2=b.2 from congrArg vt (show pd a.2=pd b.2 from z))
  obtain⟨g2,rfl,j⟩:=RV rF.2 hg;have:=q i g2 j;rw[ay];have e:((λg=>g.map de)∘λg:List fh=>g.map pd)=λg:List fh=>g.map qi:=funext λg=>by
   simp only[Function.comp_apply,ay];rfl
  rw[e];show this
end Wc
open PySem L2 PyProof.Rows Wc
local macro_rules | `(tactic| walk_at"px")=>`(tactic| (repeat(first | walk_at"b" | simp only[Cj,CB,uZ,Ck,EU,yc,OV.val])))
namespace Wc
open PySem L2 PyProof.Rows
noncomputable def e3(n:Nat)(e:fh):EK:=[.inl (n:Int),.inr e.1,.inl e.2]
noncomputable def pk(n a:Nat):EK:=[.inl (n:Int),.inl (a:Int)]
noncomputable def t6(a:List (List fh)):D:=.lst (a.map λg=>.lst (g.map qi))
noncomputable def uR(a:List Bool):D:=.lst (a.map .bl)
noncomputable def lU(n:Nat):Nat->List (List fh)->List (EK×EK)
 | _,[]=>[]
 | p,g::r=>(g.map λe=>(pk n p,e3 n e))++lU n (p+1) r
noncomputable def hU:Nat->List (List (List fh))->List (EK×EK)
 | _,[]=>[]
 | n,a::r=>lU n 0 a++hU (n+1) r
theorem Gp(n:Nat):∀(p:Nat)(a b:List (List fh)),lU n p (a++b)=lU n p a++lU n (p+a.length) b
 | p,[],b=>rfl
 | p,g::a,b=>by
  rw[List.cons_append,lU,lU,Gp n (p+1) a b,List.append_assoc,av,show p+1+a.length=p+(a.length+1) by ext]
theorem Gn:∀(n:Nat)(a b:List (List (List fh))),hU n (a++b)=hU n a++hU (n+a.length) b
 | n,[],b=>rfl
 | n,g::a,b=>by
  rw[List.cons_append,hU,hU,Gn (n+1) a b,List.append_assoc,av,show n+1+a.length=n+(a.length+1) by ext]
theorem VH{n i:Nat}{a:List (List fh)}{g:List fh}(h:a[i]?=some g):lU n 0 (a.take (i+1))=lU n 0 (a.take i)++g.map λe=>(pk n i,e3 n e):=by
 have b:=(aj.mp h).1;rw[bo,h,Gp,aP,Nat.min_eq_left (by ext),Nat.zero_add];simp[lU]
theorem VG{i:Nat}{a:List (List (List fh))}{b:List (List fh)}(h:a[i]?=some b):hU 0 (a.take (i+1))=hU 0 (a.take i)++lU i 0 b:=by
 have c:=(aj.mp h).1;rw[bo,h,Gn,aP,Nat.min_eq_left (by ext),Nat.zero_add];simp[hU]
theorem Tu(i:Nat)(a:List (List (List fh))):(hU 0 (a.take i)).length<=(hU 0 a).length:=by
 have:=Gn 0 (a.take i) (a.drop i);rw[List.take_append_drop] at this;rw[this,ax];ext
theorem Tt(n i:Nat)(a:List (List fh)):(lU n 0 (a.take i)).length<=(lU n 0 a).length:=by
 have:=Gp n 0 (a.take i) (a.drop i);rw[List.take_append_drop] at this;rw[this,ax];ext
noncomputable def rf(a:List Bool):List Nat:=(a.zipIdx.filter (·.1)).map (·.2)
noncomputable def mX(P:EK->EK):Nat->List (List Bool)->List (EK×EK)
 | _,[]=>[]
 | n,a::r=>((rf a).map λ(c:Nat)=>(P (e3 n ("bottom",(c:Int))),P (e3 (n+1) ("top",(c:Int)))))++mX P (n+1) r
theorem Gu(P:EK->EK):∀(n:Nat)(a b:List (List Bool)),mX P n (a++b)=mX P n a++mX P (n+a.length) b
 | n,[],b=>rfl
 | n,g::a,b=>by
  rw[List.cons_append,mX,mX,Gu P (n+1) a b,List.append_assoc,av,show n+1+a.length=n+(a.length+1) by ext]
theorem Wf{P:EK->EK}{i:Nat}{dQ:List (List Bool)}{a:List Bool}(h:dQ[i]?=some a):mX P 0 (dQ.take (i+1))=mX P 0 (dQ.take i)++(rf a).map λ(c:Nat)=>(P (e3 i ("bottom",(c:Int))),P (e3 (i+1) ("top",(c:Int)))):=by
 have b:=(aj.mp h).1;rw[bo,h,Gu,aP,Nat.min_eq_left (by ext),Nat.zero_add];simp[mX]
theorem UO(P:EK->EK)(i:Nat)(dQ:List (List Bool)):(mX P 0 (dQ.take i)).length<=(mX P 0 dQ).length:=by
 have:=Gu P 0 (dQ.take i) (dQ.drop i);rw[List.take_append_drop] at this;rw[this,ax];ext
noncomputable def pL(a:List (EK×EK)):List (EK×EK):=a.map λp=>(p.2,p.1)
noncomputable def si(a:List (EK×EK))(e:EK):EK:=(f6 (pL a) e).getD []
theorem Mw:∀(r acc:List (EK×EK)),((acc++r).map (·.1)).Nodup->(r.map λp=>(p.1,de p.2)).foldl (λa p=>ug a p.1 p.2) (i9 kk de acc)=i9 kk de (acc++r)
 | [],acc,_=>by rw[List.append_nil];rfl
 | p::r,acc,nd=>by
  have hn:f6 acc p.1=none:=by
   unfold f6;rw[Option.map_eq_none_iff,List.find?_eq_none];intro q b z;have z:q.1=p.1:=by simpa using z
   rw[aH,List.nodup_append] at nd;show nd.2.2 q.1 (List.mem_map_of_mem b) p.1 (by simp) z
  rw[ao,List.foldl_cons];have e:=Mc (dv:=de) uh p.1 p.2 hn;rw[show ug (i9 kk de acc) p.1 (de p.2)=i9 kk de (acc++[p]) from e,Mw r (acc++[p]) (by rw[List.append_assoc];show nd),List.append_assoc];rfl
theorem PN{F:List (EK×EK)}(nd:(F.map (·.1)).Nodup){x a:EK}(h:(x,a)∈F):f6 F x=some a:=by
 induction F with
 | nil=>cases h
 | cons p r b=>
  rw[ao,bj] at nd;unfold f6 at *;rw[List.find?_cons];rcases az.mp h with e | e
  .subst e;simp
  have:p.1≠x:=λz=>nd.1 (z▸List.mem_map_of_mem (f:=(·.1)) e)
  simp only[this,decide_false];show b nd.2 e
def yQ:e8:=λds Q=>∃(b:List (List (List fh)))(dQ:List (List Bool)),ds=[.lst (b.map t6),.lst (dQ.map uR)]/\(∀e∈b,∀g∈e,g.length<=1000)/\(hU 0 b).length<64/\((hU 0 b).map (·.2)).Nodup/\(∀d∈dQ,d.length<=1000)/\(mX (si (hU 0 b)) 0 dQ).length<=1600/\
 (∀n d,dQ[n]?=some d->∀c∈rf d,(∃a,(a,e3 n ("bottom",(c:Int)))∈hU 0 b)/\∃a,(a,e3 (n+1) ("top",(c:Int)))∈hU 0 b)/\∀e,Gd (hU 0 b) (mX (si (hU 0 b)) 0 dQ) e->Q (.ov (.ll (e.map λg=>g.map de)))
theorem KZ:∀(n:Nat)(b:List (List (List fh))),∀p∈hU n b,tR p.2=[false,true,false]
 | _,[],p,h=>by cases h
 | n,c::r,p,h=>by
  rcases aJ.mp h with h | h
  .have:∀(k:Nat)(l:List (List fh)),∀p∈lU n k l,tR p.2=[false,true,false]:=λk l=>by
    induction l generalizing k with
    | nil=>intro p h;cases h
    | cons g l a=>
     intro p h;rcases aJ.mp h with h | h
     .obtain⟨e,_,rfl⟩:=aE.mp h;rfl
     show a _ p h
   show this 0 c p h
  show KZ (n+1) r p h
theorem PM{te:TD}{g:jI}{b:TX}{c:DE}{a:Ev}(h:te a λr=>Cv r.val λds=>EF g b c a ds):jb (jZ te) g b c a:=h
def GQ:TX:=(cL (mT 2 (jc cp))
 (cL (jb (rP (cf (bY 0) cp)) (kg 2 (fm (dh 3) (fm (dh 4) jG))) (jb (rP (cf (bY 4) cp)) (kg 2 (fm (dh 5) (fm (dh 6) jG))) (uZ 2 (gY (jZ (bY 6)) [none,some 3,some 5] (dh 0) iD (kj (cf (kj (cf (bY 1) (cf (bY 2) cp))) (cf (cj Ck (kj (cf (bY 1) cp)) (bY 0)) cp)))))))
 (wz 2 (cL (fg 7 (fE EU (cf (gY (jZ (bY 2)) [none,none] (kg 2 (fm (dh 0) (fm (dh 1) jG))) iD (kj (cf (bY 1) (cf (bY 0) cp)))) cp)))
 (cL (mT 8 (jc cp))
 (cL (jb (rP (cf (bY 1) cp)) (kg 2 (fm (dh 3) (fm (dh 9) jG))) (jb (jZ (gY (rP (cf (bY 9) cp)) [none,none] (kg 2 (fm (dh 0) (fm (dh 1) jG))) (dw (bY 1)) (bY 0))) (dh 10) (uf 8 (kj (cf (yc (bY 7) (kj (cf (bY 3) (cf (dC (.str "bottom")) (cf (bY 10) cp))))) (cf (yc (bY 7) (kj (cf (cj dZ (bY 3) (dC (.int 1))) (cf (dC (.str "top")) (cf (bY 10) cp))))) cp))))))
 (wz 8 (eu (fc 2 wR (cf (bY 2) (cf (bY 8) cp)))))))))))
theorem XG:iV 2 yQ GQ ["groups","borders","ends","number","layout_groups","place","group","places","links","joints","column"]:=by
 intro ds T hl h;obtain⟨f,dQ,rfl,hg,hle,nd,K,R,H,q⟩:=h;show GQ _ [.fz (.lst (f.map t6)),.fz (.lst (dQ.map uR)),.un,.un,.un,.un,.un,.un,.un,.un,.un];unfold GQ;have big:=iW;walk_at"px";show⟨a9 _,?_⟩;walk_at"go";show F8 f t6 (λv h=>?_) (λi m=>∃a b c d:Sl,m=[.fz (.lst (f.map t6)),.fz (.lst (dQ.map uR)),.ow ((hU 0 (f.take i)).map qV),a,b,c,d,.un,.un,.un,.un]) ⟨_,_,_,_,rfl⟩ ?_ ?_
 .walk_at"px";show h
 .rintro i s m t ⟨a,b,c,d,rfl⟩;have s1:=VG t;have y:=Tu (i+1) f;rw[s1,ax] at y;have N:=aw t;rw[show t6 s=.lst (s.map λg=>.lst (g.map qi)) from rfl];walk_at"px";show F8 s (λg=>.lst (g.map qi)) (λv h=>?_) (λj m=>∃c d:Sl,m=[.fz (.lst (f.map t6)),.fz (.lst (dQ.map uR)),.ow ((hU 0 (f.take i)++lU i 0 (s.take j)).map qV),.fz (.int (i:Nat)),.fz (.lst (s.map λg=>.lst (g.map qi))),c,d,.un,.un,.un,.un]) ⟨c,d,by simp[lU]⟩ ?_ ?_
  .walk_at"px";show h
  .rintro j g m E ⟨c,d,rfl⟩;have s2:=VH (n:=i) E;have I:=Tt i (j+1) s;rw[s2,ax,ae] at I;have gl:=hg _ N _ (aw E);walk_at"px";show lD g qi (λe=>qV (pk i j,e3 i e)) (λv h=>?_) (by ext) (λe he B k=>?_) ?_
   .walk_at"px";show h
   .rw[show qi e=.tup [.str e.1,.int e.2] from rfl];walk_at"px";show⟨by ext,by ext,by simp,by simp,by ext,by ext,?_⟩;show k
   show _/\_;show⟨by simp only[ae,ax];ext,.fz (.int (j:Nat)),.fz (.lst (g.map qi)),?_⟩;rw[s2,<-List.append_assoc,aH (l₁:=hU 0 (f.take i)++lU i 0 (s.take j)),ay];rfl
  rintro m ⟨c,d,rfl⟩;rw[bI,<-s1];show⟨_,_,_,_,rfl⟩
 rintro m ⟨a,b,c,d,rfl⟩;rw[bI];have sh:=KZ 0 f;have C:((([]:List (EK×EK))++pL (hU 0 f)).map (·.1)).Nodup:=by
  rw[List.nil_append];unfold pL;rw[ay];show nd
 have Q:((pL (hU 0 f)).map (·.1)).Nodup:=C;have at_:∀{x:EK},(∃a,(a,x)∈hU 0 f)->f6 (pL (hU 0 f)) x=some (si (hU 0 f) x):=λ{x} ⟨a,ha⟩=>by
  have:=PN Q (x:=x) (a:=a) (by unfold pL;show aE.mpr ⟨_,ha,rfl⟩);unfold si;rw[this];rfl
 generalize hU 0 f=ends at *;walk_at"go";show lD ends qV (λp=>.tup [de p.2,de p.1]) (λv h=>?_) (by ext) (λp J B k=>?_) ?_
 .walk_at"px";show h
 .rw[show qV p=.tup [de p.1,de p.2] from rfl];walk_at"px";show⟨by ext,k⟩
 show⟨(pL ends).map λp=>(p.1,de p.2),by unfold pL;simp only[yw,ay];rfl,?_⟩;rw[show FJ ((pL ends).map λp=>(p.1,de p.2))=i9 kk de (pL ends) from Mw (pL ends) [] C];have look:∀{x:EK},(∃a,(a,x)∈ends)->oh (i9 kk de (pL ends)) x=some (de (si ends x)):=λ{x} h=>by
  have:=CO (dv:=de) (F:=pL ends) uh x;rw[at_ h] at this;show this
 generalize i9 kk de (pL ends)=A at look;walk_at"go";show⟨a9 _,?_⟩;walk_at"go";show F8 dQ uR (λv h=>?_) (λi m=>∃s3 w r:Sl,m=[.fz (.lst (f.map t6)),.fz (.lst (dQ.map uR)),.fz (.lst (ends.map qV)),s3,b,c,d,.fz (.dit A),.ow ((mX (si ends) 0 (dQ.take i)).map qW),w,r]) ⟨_,_,_,rfl⟩ ?_ ?_
 .walk_at"px";show h
 .rintro i o m t ⟨s3,w,r,rfl⟩;have s1:=Wf (P:=si ends) t;have y:=UO (si ends) (i+1) dQ;rw[s1,ax,ae] at y;have S:=K _ (aw t);rw[show uR o=.lst (o.map .bl) from rfl];walk_at"px";show PM ?_;show Dt o.zipIdx (λp=>.tup [.int (p.2:Nat),.bl p.1]) (λp=>.int (p.2:Nat)) (·.1) (λv h=>?_) (by rw[bU];ext) (λp J B U k1 k0=>?_) ?_
  .walk_at"px";rw[Md];show h
  .walk_at"px";cases hb:p.1 with
   | true=>show k1 hb
   | false=>show k0 hb
  show EF _ _ _ _ ((o.zipIdx.filter (·.1)).map λp=>D.int (p.2:Nat));rw[show((o.zipIdx.filter (·.1)).map λp=>D.int (p.2:Nat))=(rf o).map λ(c:Nat)=>D.int (c:Int) by unfold rf;rw[ay];rfl];show VJ (rf o) (λ(c:Nat)=>D.int (c:Int)) (λj m=>∃r:Sl,m=[.fz (.lst (f.map t6)),.fz (.lst (dQ.map uR)),.fz (.lst (ends.map qV)),.fz (.int (i:Nat)),b,c,d,.fz (.dit A),.ow ((mX (si ends) 0 (dQ.take i)++((rf o).take j).map λ(c:Nat)=>(si ends (e3 i ("bottom",(c:Int))),si ends (e3 (i+1) ("top",(c:Int))))).map qW),.fz (.lst (o.map .bl)),r]) ⟨r,by simp⟩ ?_ ?_
  .rintro j u m z ⟨r,rfl⟩;have O:=aw z;obtain⟨M,L⟩:=H i o t u O;have cl:=(aj.mp z).1;walk_at"px";show⟨by ext,e3 i ("bottom",(u:Int)),_,rfl,look M,by ext,e3 (i+1) ("top",(u:Int)),_,rfl,look L,by ext,by simp only[ae,ax,aP];ext,.fz (.int (u:Nat)),?_⟩;rw[bo,z,Option.toList_some,aH (l₁:=(rf o).take j),<-List.append_assoc,aH (l₂:=[u].map _)];rfl
  rintro m ⟨r,rfl⟩;rw[bI,<-s1];show⟨_,_,_,rfl⟩
 rintro m ⟨s3,w,r,rfl⟩;rw[bI];walk_at"go";show⟨_,_,ends,_,rfl,R,hle,sh,nd,q⟩
noncomputable def gv(rows:List (List Nat))(r s:Nat):Nat:=(rows.getD r []).getD s 0
def pq(R S:Nat)(g:Nat->Nat->Nat)(r s:Nat):Prop:=
 (r%2=1->s%2=1->g r s∈[32,45,124,43,35])/\(r%2=0->s%2=0->g r s=32)/\
 (r%2=1->s%2=0->g r s=32\/g r s=45/\(0<s->lO (g r (s-1))=true)/\(s+1<S->lO (g r (s+1))=true))/\
 (r%2=0->s%2=1->g r s=32\/g r s=124/\(0<r->kN (g (r-1) s)=true)/\(r+1<R->kN (g (r+1) s)=true))
structure i5(R S:Nat)(rows:List (List Nat)):Prop where
 len:rows.length=R
 eN:∀l∈rows,l.length=S
 ok:∀r s,r<R->s<S->pq R S (gv rows) r s
structure nS(R S:Nat)(rows:List (List Nat)):Prop where
 len:rows.length=R
 eN:∀l∈rows,l.length=S
 ok:∀r s,r<R->s<S->gv rows r s∈[32,45,124,43,35]/\(¬(r%2=1/\s%2=1)->gv rows r s=32)
section
variable{R S:Nat}{rows:List (List Nat)}
theorem nS.YG(P:nS R S rows):i5 R S rows:=⟨P.len,P.eN,λr s e d=>by
 obtain⟨f,c⟩:=P.ok r s e d
 show⟨λ_ _=>f,λa b=>c (by ext),λa b=>.inl (c (by ext)),λa b=>.inl (c (by ext))⟩⟩
noncomputable def oD(rows:List (List Nat))(r s c:Nat):List (List Nat):=rows.set r ((rows.getD r []).set s c)
theorem Kn(j:rows.length=R)(hw:∀l∈rows,l.length=S){r s c:Nat}(i:r<R)(h:s<S)(b a:Nat):gv (oD rows r s c) b a=if b=r/\a=s then c else gv rows b a:=by
 unfold gv oD;have f:r<rows.length:=by ext
 have hm:rows.getD r []∈rows:=by
  rw[ag,af f,bg];show aV _
 have g:s<(rows.getD r []).length:=by rw[hw _ hm];show h
 by_cases e:b=r
 .subst e;rw[ag (l:=rows.set _ _),List.getElem?_set_self f,bg];by_cases d:a=s
  .subst d;rw[if_pos ⟨rfl,rfl⟩,ag,List.getElem?_set_self g,bg]
  rw[if_neg (λz=>d z.2),ag,List.getElem?_set_ne (Ne.symm d),<-ag]
 rw[if_neg (λz=>e z.1),ag (l:=rows.set _ _),List.getElem?_set_ne (Ne.symm e),<-ag]
theorem KY(b:rows.length=R)(hw:∀l∈rows,l.length=S){r s c:Nat}(d:r<R):(oD rows r s c).length=R/\∀l∈oD rows r s c,l.length=S:=by
 unfold oD;have a:r<rows.length:=by ext
 have hm:rows.getD r []∈rows:=by
  rw[ag,af a,bg];show aV _
 show⟨by rw[List.length_set];show b,λl h=>?_⟩;rcases List.mem_or_eq_of_mem_set h with h | rfl
 .exact hw l h
 rw[List.length_set];show hw _ hm
theorem nS.set(P:nS R S rows){r s c:Nat}(d:r<R)(j:s<S)(o:r%2=1)(n:s%2=1)(k:c∈[32,45,124,43,35]):nS R S (oD rows r s c):=by
 obtain⟨f,e⟩:=KY (s:=s) (c:=c) P.len P.eN d;show⟨f,e,λb a g i=>?_⟩;rw[Kn P.len P.eN d j];obtain⟨m,l⟩:=P.ok b a g i;by_cases h:b=r/\a=s
 .rw[if_pos h];show⟨k,λz=>absurd ⟨by ext,by ext⟩ z⟩
 rw[if_neg h];show⟨m,l⟩
theorem i5.set(P:i5 R S rows){r s c:Nat}(k:r<R)(p:s<S)(w:(r+s)%2=1)
  (g:c=32\/(r%2=1/\c=45/\(0<s->lO (gv rows r (s-1))=true)/\(s+1<S->lO (gv rows r (s+1))=true))\/(r%2=0/\c=124/\(0<r->kN (gv rows (r-1) s)=true)/\(r+1<R->kN (gv rows (r+1) s)=true))):i5 R S (oD rows r s c):=by
 obtain⟨m,l⟩:=KY (s:=s) (c:=c) P.len P.eN k;have hg:=λf d=>Kn (c:=c) P.len P.eN k p f d
 show⟨m,l,λf d n o=>?_⟩;obtain⟨v,u,t,q⟩:=P.ok f d n o;have ne:∀a b,(a+b)%2=0->gv (oD rows r s c) a b=gv rows a b:=λa b e=>by
  rw[hg,if_neg (by ext)]
 show⟨λa b=>?_,λa b=>?_,λa b=>?_,λa b=>?_⟩
 .rw[ne _ _ (by ext)];show v a b
 .rw[ne _ _ (by ext)];show u a b
 .have j:0<d->gv (oD rows r s c) f (d-1)=gv rows f (d-1):=λz=>ne _ _ (by ext)
  have i:gv (oD rows r s c) f (d+1)=gv rows f (d+1):=ne _ _ (by ext);by_cases h:f=r/\d=s
  .obtain⟨rfl,rfl⟩:=h;rw[hg,if_pos ⟨rfl,rfl⟩,i];rcases g with g | g | g
   .exact .inl g
   .exact .inr ⟨g.2.1,λz=>by rw[j z];show g.2.2.1 z,g.2.2.2⟩
   ext
  rw[hg f d,if_neg h,i];rcases t a b with z | z
  .exact .inl z
  show .inr ⟨z.1,λy=>by rw[j y];show z.2.1 y,z.2.2⟩
 have j:0<f->gv (oD rows r s c) (f-1) d=gv rows (f-1) d:=λz=>ne _ _ (by ext)
 have i:gv (oD rows r s c) (f+1) d=gv rows (f+1) d:=ne _ _ (by ext);by_cases h:f=r/\d=s
 .obtain⟨rfl,rfl⟩:=h;rw[hg,if_pos ⟨rfl,rfl⟩,i];rcases g with g | g | g
  .exact .inl g
  .omega
  show .inr ⟨g.2.1,λz=>by rw[j z];show g.2.2.1 z,g.2.2.2⟩
 rw[hg f d,if_neg h,i];rcases q a b with z | z
 .exact .inl z
 show .inr ⟨z.1,λy=>by rw[j y];show z.2.1 y,z.2.2⟩
theorem i5.sg(P:i5 R S rows){r s:Nat}(d:r<R)(c:s<S):gv rows r s∈[32,45,124,43,35]:=by
 obtain⟨h,g,f,e⟩:=P.ok r s d c;have b:r%2=0\/r%2=1:=by ext
 have a:s%2=0\/s%2=1:=by ext
 rcases b with b | b<;>rcases a with a | a
 .rw[g b a];simp
 .rcases e b a with z | z
  .rw[z];simp
  rw[z.1];simp
 .rcases f b a with z | z
  .rw[z];simp
  rw[z.1];simp
 show h b a
theorem qp(c:rows.length=R)(hw:∀l∈rows,l.length=S){r s:Nat}{l:List Nat}(h:rows[r]?=some l)(a:s<S):l[s]?=some (gv rows r s):=by
 have b:=(aj.mp h).1;have hm:l∈rows:=aw h;unfold gv;rw[ag (l:=rows),h,bg,ag,af (by rw[hw l hm];show a)];rfl
theorem i5.wd(P:i5 R S rows)(b:0<R):wd rows=S:=by
 unfold Wc.wd;cases rows with
 | nil=>have:=P.len;simp at this;ext
 | cons a r=>show P.eN a aA
theorem i5.rb(P:i5 R S rows)(i:R<=100)(h:S<=100):RB rows:=by
 show⟨by rw[P.len];show i,λl a=>by rw[P.eN l a];show h,λl a c g=>?_⟩;obtain⟨r,e⟩:=aQ a;obtain⟨s,b⟩:=aQ g;have d:s<S:=by rw[<-P.eN l a];show(aj.mp b).1
 have f:r<R:=by rw[<-P.len];show(aj.mp e).1
 rw[qp P.len P.eN e d] at b;have:=P.sg f d;rw[aX b] at this;revert this
 simp only[eY,az,bV,or_false];ext
end
theorem VF{l:List Nat}{k c:Nat}(h:c∈om l k):∃i,k-1<=i/\i<k+2/\l[i]?=some c:=by
 unfold om at h;obtain⟨i,a⟩:=aQ h;rw[List.getElem?_take] at a;split at a
 .rw[List.getElem?_drop] at a;show⟨k-1+i,by ext,by ext,a⟩
 cases a
theorem L5{m:Nat}{p:Nat->Bool}{l:List Nat}(h:∀j,l[2*j]?=some m->∀i c,2*j-1<=i->i<2*j+2->l[i]?=some c->p c=true):oK m p l=true:=by
 unfold oK;rw[aM];intro j g;rw[Bool.or_eq_true];by_cases e:l[2*j]?=some m
 .right
  rw[aM];intro c a;obtain⟨i,f,d,b⟩:=VF a;show h j e i c f d b
 left
 simp[e]
section
variable{R S:Nat}{rows:List (List Nat)}
theorem Km(b:rows.length=R){k i:Nat}{c:Nat}(h:(ig rows k)[i]?=some c):i<R/\c=gv rows i k:=by
 unfold ig at h;rw[ar] at h;obtain⟨l,a,d⟩:=aZ.mp h;show⟨by rw[<-b];show(aj.mp a).1,?_⟩;unfold gv;rw[ag (l:=rows),a,bg];show d.symm
theorem Fe(d:rows.length=R)(hw:∀l∈rows,l.length=S){r i:Nat}{l:List Nat}{c:Nat}(a:rows[r]?=some l)(h:l[i]?=some c):r<R/\i<S/\c=gv rows r i:=by
 have b:=(aj.mp h).1;rw[hw l (aw a)] at b;show⟨by rw[<-d];show(aj.mp a).1,b,?_⟩;have:=qp d hw a b;rw[h] at this;show aX this
theorem i5.YN(P:i5 R S rows){r s:Nat}(d:r<R)(c:s<S):kD r s (gv rows r s)=true:=by
 obtain⟨h,g,f,e⟩:=P.ok r s d c;have b:r%2=0\/r%2=1:=by ext
 have a:s%2=0\/s%2=1:=by ext
 unfold kD;rcases b with b | b<;>rcases a with a | a
 .simp[g b a]
 .rcases e b a with z | z
  .simp[z]
  simp[z.1,a]
 .rcases f b a with z | z
  .simp[z]
  simp[z.1,b]
 have:=h b a;simp only[az,bV,or_false] at this;rcases this with z | z | z | z | z<;>simp[z,b,a]
theorem i5.drw(P:i5 R S rows)(x:R%2=1)(w:S%2=1)(y:3<=S):cV rows=true:=by
 have hw:=P.wd (by ext);unfold cV;simp only[aT];show⟨⟨⟨?_,?_⟩,?_⟩,?_⟩
 .unfold oE;simp only[aT,br,aM];show⟨⟨⟨by rw[P.len];show x,by rw[hw];show w⟩,by rw[hw];show y⟩,λl d=>by rw[hw];show P.eN l d⟩
 .unfold ui;rw[aM];rintro⟨l,r⟩ u;rw[aM];rintro⟨c,s⟩ t;have D:rows[r]?=some l:=by
   have:=List.mem_zipIdx_iff_getElem?.mp u;simpa using this
  have C:l[s]?=some c:=by
   have:=List.mem_zipIdx_iff_getElem?.mp t;simpa using this
  obtain⟨f,q,rfl⟩:=Fe P.len P.eN D C;show P.YN f q
 .rw[aM];intro l d;obtain⟨r,f⟩:=aQ d;show L5 λj g i c B A h=>?_
  obtain⟨o,F,e⟩:=Fe P.len P.eN f g;obtain⟨_,G,rfl⟩:=Fe P.len P.eN f h;obtain⟨_,k2,k3,_⟩:=P.ok r (2*j) o F;have b:r%2=0\/r%2=1:=by ext
  rcases b with b | b
  .rw[k2 b (by ext)] at e;ext
  rcases k3 b (by ext) with z | z
  .omega
  have a:i=2*j-1/\0<2*j\/i=2*j\/i=2*j+1:=by ext
  rcases a with a | a | a
  .rw[a.1];show z.2.1 a.2
  .rw[a,z.1];decide
  rw[a];show z.2.2 (by ext)
 rw[aM];intro l d;unfold jH at d;obtain⟨k,m,rfl⟩:=aE.mp d;have n:k<S:=by rw[hw] at m;simpa using m
 show L5 λj g i c B A h=>?_
 obtain⟨E,e⟩:=Km P.len g;obtain⟨v,rfl⟩:=Km P.len h;obtain⟨_,k2,_,p⟩:=P.ok (2*j) k E n;have b:k%2=0\/k%2=1:=by ext
 rcases b with b | b
 .rw[k2 (by ext) b] at e;ext
 rcases p (by ext) b with z | z
 .omega
 have a:i=2*j-1/\0<2*j\/i=2*j\/i=2*j+1:=by ext
 rcases a with a | a | a
 .rw[a.1];show z.2.1 a.2
 .rw[a,z.1];decide
 rw[a];show z.2.2 (by ext)
end
noncomputable def jD{α:Type}(b:Prop)[Decidable b](x:α):List α:=if b then [x] else []
noncomputable def xo(R S:Nat)(g:Nat->Nat->Nat):List (N3×fh):=(List.range (R/2)).flatMap λk=>jD (g (2*k+1) 0=45) (((2*k+1,0,0),("left",((k:Nat):Int))):N3×fh)++jD (g (2*k+1) (S-1)=45) (((2*k+1,S-1,0),("right",((k:Nat):Int))):N3×fh)
noncomputable def uu(R S:Nat)(g:Nat->Nat->Nat):List (N3×fh):=(List.range (S/2)).flatMap λk=>jD (g 0 (2*k+1)=124) (((0,2*k+1,1),("top",((k:Nat):Int))):N3×fh)++jD (g (R-1) (2*k+1)=124) (((R-1,2*k+1,1),("bottom",((k:Nat):Int))):N3×fh)
theorem Gm{α:Type}(d:α)(l:List α):l.zipIdx=(List.range l.length).map λi=>(l.getD i d,i):=by
 apply List.ext_getElem?;intro i;rw[List.getElem?_zipIdx,ar];by_cases h:i<l.length
 .rw[List.getElem?_range h,af h];simp[h]
 rw[List.getElem?_eq_none (by ext),List.getElem?_eq_none (by simpa using h)];rfl
theorem FQ{β:Type}(f:Nat->List β)(h:∀k,f (2*k)=[]):∀m,(List.range (2*m+1)).flatMap f=(List.range m).flatMap λk=>f (2*k+1)
 | 0=>by
  have:=h 0;simp[List.range_succ,this]
 | m+1=>by
  rw[show 2*(m+1)+1=2*m+1+1+1 by ext,List.range_succ,List.range_succ (n:=2*m+1),List.range_succ (n:=m),List.flatMap_append,List.flatMap_append,List.flatMap_append,FQ f h m];have:=h (m+1);rw[show 2*(m+1)=2*m+1+1 by ext] at this;simp[this]
theorem z7{α β:Type}{f g:α->List β}:∀{l:List α},(∀a∈l,f a=g a)->l.flatMap f=l.flatMap g
 | [],_=>rfl
 | a::l,h=>by
  rw[List.flatMap_cons,List.flatMap_cons,h a aA,z7 λb hb=>h b (au _ hb)]
theorem Fd{α β:Type}(d c:Str)(f:d≠c)(a b:Nat->Prop)[∀k,Decidable (a k)][∀k,Decidable (b k)](x y:Nat->α):∀n,(((List.range n).flatMap λk=>jD (a k) (x k,(d,((k:Nat):Int)))++jD (b k) (y k,(c,((k:Nat):Int)))).map (·.2)).Nodup/\
  ∀e∈((List.range n).flatMap λk=>jD (a k) (x k,(d,((k:Nat):Int)))++jD (b k) (y k,(c,((k:Nat):Int)))).map (·.2),(e.1=d\/e.1=c)/\e.2<(n:Int)
 | 0=>by simp
 | n+1=>by
  obtain⟨i,g⟩:=Fd (β:=β) d c f a b x y n;have new:∀e∈(jD (a n) (x n,(d,((n:Nat):Int)))++jD (b n) (y n,(c,((n:Nat):Int)))).map (·.2),(e.1=d\/e.1=c)/\e.2=(n:Int):=λe he=>by
   unfold jD at he;split at he<;>split at he<;>simp at he
   .rcases he with rfl | rfl
    .exact⟨.inl rfl,rfl⟩
    show⟨.inr rfl,rfl⟩
   .subst he;show⟨.inl rfl,rfl⟩
   subst he;show⟨.inr rfl,rfl⟩
  rw[List.range_succ,List.flatMap_append,aH];show⟨List.nodup_append.mpr ⟨i,?_,λe he j h z=>?_⟩,λe he=>?_⟩
  .simp only[List.flatMap_cons,List.flatMap_nil,List.append_nil];unfold jD;split<;>split<;>simp[f]
  .simp only[List.flatMap_cons,List.flatMap_nil,List.append_nil] at h;have:=(g e he).2;have:=(new j h).2;rw[z] at *;ext
  rcases aJ.mp he with he | he
  .have:=g e he;show⟨this.1,by ext⟩
  simp only[List.flatMap_cons,List.flatMap_nil,List.append_nil] at he;have:=new e he;show⟨this.1,by ext⟩
theorem C8{α:Type}(a b:Nat->Prop)[∀k,Decidable (a k)][∀k,Decidable (b k)](x y:Nat->α)(n:Nat):((List.range n).flatMap λk=>jD (a k) (x k)++jD (b k) (y k)).length<=n*2:=by
 have:=C9 (f:=λk=>jD (a k) (x k)++jD (b k) (y k)) (k:=2) (λk=>by unfold jD;split<;>split<;>simp) (List.range n);simpa using this
section
variable{R S:Nat}{rows:List (List Nat)}{g:Nat->Nat->Nat}
theorem RU:((xo R S g++uu R S g).map (·.2)).Nodup:=by
 rw[aH];have d:=Fd (α:=N3) (β:=Nat) "left" "right" (by decide +kernel) (λk=>g (2*k+1) 0=45) (λk=>g (2*k+1) (S-1)=45) (λk=>(2*k+1,0,0)) (λk=>(2*k+1,S-1,0)) (R/2);have c:=Fd (α:=N3) (β:=Nat) "top" "bottom" (by decide +kernel) (λk=>g 0 (2*k+1)=124) (λk=>g (R-1) (2*k+1)=124) (λk=>(0,2*k+1,1)) (λk=>(R-1,2*k+1,1)) (S/2);show List.nodup_append.mpr ⟨d.1,c.1,λe he h f z=>?_⟩;subst z;rcases(d.2 e he).1 with a | a<;>rcases(c.2 e f).1 with b | b<;>(rw[a] at b;show absurd b (by decide +kernel))
theorem Tr(h:R/2*2+S/2*2<64):(xo R S g++uu R S g).length<64:=by
 have b:=C8 (λk=>g (2*k+1) 0=45) (λk=>g (2*k+1) (S-1)=45) (λk=>(((2*k+1,0,0),("left",((k:Nat):Int))):N3×fh)) (λk=>((2*k+1,S-1,0),("right",((k:Nat):Int)))) (R/2);have a:=C8 (λk=>g 0 (2*k+1)=124) (λk=>g (R-1) (2*k+1)=124) (λk=>(((0,2*k+1,1),("top",((k:Nat):Int))):N3×fh)) (λk=>((R-1,2*k+1,1),("bottom",((k:Nat):Int)))) (S/2);rw[ax];unfold xo uu;ext
theorem Fc(a b:Nat->Bool):∀n,(∀i,i<n->a i=b i)->jE a n=jE b n
 | 0,_=>rfl
 | n+1,h=>by
  show(if a n=true then jE a n else n+1)=if b n=true then jE b n else n+1
  rw[h n (Nat.lt_succ_self n),Fc a b n λi c=>h i (Nat.lt_succ_of_lt c)]
theorem CK{α β:Type}{b:Prop}[Decidable b](f:α->β)(x:α):(jD b x).map f=jD b (f x):=by
 unfold jD;split<;>rfl
theorem RT(P:i5 R S rows)(f:S%2=1){r:Nat}(a:r<R)(c:r%2=0):kI false "left" "right" (rows.getD r [],r)=[]:=by
 have d:r<rows.length:=by rw[P.len];show a
 have b:rows[r]?=some (rows.getD r []):=by rw[ag,af d];rfl
 have e:(rows.getD r []).length=S:=P.eN _ (aw b);have k1:gv rows r 0=32:=(P.ok r 0 a (by ext)).2.1 c rfl;have k2:gv rows r (S-1)=32:=(P.ok r (S-1) a (by ext)).2.1 c (by ext);unfold kI;rw[e,qp P.len P.eN b (s:=0) (by ext),qp P.len P.eN b (s:=S-1) (by ext),k1,k2,if_neg (by decide),if_neg (by decide)];rfl
theorem PL(P:i5 R S rows)(g:S%2=1){k:Nat}(c:2*k+1<R):kI false "left" "right" (rows.getD (2*k+1) [],2*k+1) =
  (jD (gv rows (2*k+1) 0=45) (((2*k+1,0,0),("left",((k:Nat):Int))):N3×fh)++jD (gv rows (2*k+1) (S-1)=45) (((2*k+1,S-1,0),("right",((k:Nat):Int))):N3×fh)).map λq=>(ph (gv rows) q.1,q.2):=by
 have b:2*k+1<rows.length:=by rw[P.len];show c
 have a:rows[2*k+1]?=some (rows.getD (2*k+1) []):=by rw[ag,af b];rfl
 have d:(rows.getD (2*k+1) []).length=S:=P.eN _ (aw a);have hh:(2*k+1)/2=k:=by ext
 unfold kI;rw[d,qp P.len P.eN a (s:=0) (by ext),qp P.len P.eN a (s:=S-1) (by ext),aH,CK,CK];simp only[hh];have e:jE (i8 false (rows.getD (2*k+1) [])) (S-1)=jE (HP (gv rows) (2*k+1)) (S-1):=Fc _ _ _ λi f=>by
  unfold i8 HP;have:=qp P.len P.eN a (s:=i) (by ext);rw[ag (l:=rows.getD (2*k+1) []),this];rfl
 rw[e];unfold jD;simp only[aN];rfl
theorem Tq(P:i5 R S rows)(f:R%2=1)(c:S%2=1):ve false "left" "right" rows=(xo R S (gv rows)).map λq=>(ph (gv rows) q.1,q.2):=by
 unfold ve xo;rw[Gm [] rows,List.flatMap_map,List.map_flatMap,P.len];have hm:R=2*(R/2)+1:=by ext
 have key:=FQ (λr=>if r<R then kI false "left" "right" (rows.getD r [],r) else []) (λk=>by
  split
  .exact RT P c (by assumption) (by ext)
  .rfl) (R/2)
 rw[<-hm] at key;have e:(List.range R).flatMap (λa=>kI false "left" "right" (rows.getD a [],a))=(List.range R).flatMap λr=>if r<R then kI false "left" "right" (rows.getD r [],r) else []:=z7 λr d=>by rw[if_pos (by simpa using d)]
 rw[e,key];show z7 λk b=>?_
 have b:k<R/2:=by simpa using b
 rw[if_pos (by ext)];show PL P c (by ext)
theorem zk(P:i5 R S rows){k i:Nat}(b:i<R):(ig rows k)[i]?=some (gv rows i k):=by
 have a:i<rows.length:=by rw[P.len];show b
 unfold ig gv;rw[ar,af a,ag (l:=rows),af a];rfl
theorem KW(P:i5 R S rows)(k:Nat):(ig rows k).length=R:=by unfold ig;rw[ae,P.len]
theorem RS(P:i5 R S rows)(c:R%2=1){r:Nat}(a:r<S)(b:r%2=0):kI true "top" "bottom" (ig rows r,r)=[]:=by
 have k1:gv rows 0 r=32:=(P.ok 0 r (by ext) a).2.1 rfl b;have k2:gv rows (R-1) r=32:=(P.ok (R-1) r (by ext) a).2.1 (by ext) b;unfold kI;rw[KW P,zk P (i:=0) (by ext),zk P (i:=R-1) (by ext),k1,k2,if_neg (by decide),if_neg (by decide)];rfl
theorem PK(P:i5 R S rows)(d:R%2=1){k:Nat}(b:2*k+1<S):kI true "top" "bottom" (ig rows (2*k+1),2*k+1) =
  (jD (gv rows 0 (2*k+1)=124) (((0,2*k+1,1),("top",((k:Nat):Int))):N3×fh)++jD (gv rows (R-1) (2*k+1)=124) (((R-1,2*k+1,1),("bottom",((k:Nat):Int))):N3×fh)).map λq=>(ph (gv rows) q.1,q.2):=by
 have hh:(2*k+1)/2=k:=by ext
 unfold kI;rw[KW P,zk P (i:=0) (by ext),zk P (i:=R-1) (by ext),aH,CK,CK];simp only[hh];have a:jE (i8 true (ig rows (2*k+1))) (R-1)=jE (Hj (gv rows) (2*k+1)) (R-1):=Fc _ _ _ λi c=>by
  unfold i8 Hj;rw[ag,zk P (by ext)];rfl
 rw[a];unfold jD;simp only[aN];rfl
theorem Tp(P:i5 R S rows)(d:R%2=1)(h:S%2=1):ve true "top" "bottom" (jH rows)=(uu R S (gv rows)).map λq=>(ph (gv rows) q.1,q.2):=by
 unfold ve uu;have hw:=P.wd (by ext);have g:(jH rows).length=S:=by unfold jH;simp[hw]
 rw[Gm [] (jH rows),List.flatMap_map,List.map_flatMap,g];have e:∀r,r<S->(jH rows).getD r []=ig rows r:=λr b=>by
  unfold jH;rw[ag,ar,List.getElem?_range (by rw[hw];show b)];rfl
 have hm:S=2*(S/2)+1:=by ext
 have key:=FQ (λr=>if r<S then kI true "top" "bottom" (ig rows r,r) else []) (λk=>by
  split
  .exact RS P d (by assumption) (by ext)
  .rfl) (S/2)
 rw[<-hm] at key;have f:(List.range S).flatMap (λa=>kI true "top" "bottom" ((jH rows).getD a [],a))=(List.range S).flatMap λr=>if r<S then kI true "top" "bottom" (ig rows r,r) else []:=z7 λr b=>by rw[if_pos (by simpa using b),e r (by simpa using b)]
 rw[f,key];show z7 λk c=>?_
 have c:k<S/2:=by simpa using c
 rw[if_pos (by ext)];show PK P d (by ext)
theorem FF(P:i5 R S rows)(b:R%2=1)(a:S%2=1):endsF rows=(xo R S (gv rows)++uu R S (gv rows)).map λq=>(ph (gv rows) q.1,q.2):=by
 unfold endsF;rw[Tq P b a,Tp P b a,aH]
end
theorem UN{l:List Nat}{k i c:Nat}(b:k-1<=i)(a:i<k+2)(h:l[i]?=some c):c∈om l k:=by
 unfold om;show aw (i:=i-(k-1)) ?_;rw[List.getElem?_take,if_pos (by ext),List.getElem?_drop,show k-1+(i-(k-1))=i by ext];show h
theorem C7{m:Nat}{p:Nat->Bool}{l:List Nat}(h:oK m p l=true){j i c:Nat}(a:l[2*j]?=some m)(e:2*j-1<=i)(d:i<2*j+2)(b:l[i]?=some c):p c=true:=by
 unfold oK at h;rw[aM] at h;have f:=(aj.mp a).1;have:=h j (by rw[List.mem_range];ext);rw[Bool.or_eq_true] at this;rcases this with z | z
 .rw[a] at z;simp at z
 rw[aM] at z;show z c (UN e d b)
theorem yA{rows:List (List Nat)}(hd:cV rows=true):i5 rows.length (wd rows) rows/\rows.length%2=1/\wd rows%2=1/\3<=wd rows:=by
 obtain⟨hf,d,hh,t⟩:=L6 hd;have hw:=Ff hf;unfold oE at hf;simp only[aT,br] at hf;show⟨⟨rfl,hw.2,λr s c m=>?_⟩,hf.1.1.1,hf.1.1.2,hf.1.2⟩;have h:∀r s,r<rows.length->s<wd rows->(rows.getD r [])[s]?=some (gv rows r s):=λr s c d=>qp rfl hw.2 (by rw[ag,af c];rfl) d
 have u:∀r,r<rows.length->rows.getD r []∈rows:=λr c=>by
  rw[ag,af c,bg];show aV _
 have ok:kD r s (gv rows r s)=true:=by
  unfold ui at d;rw[aM] at d
  have q:=d (rows.getD r [],r) (List.mem_zipIdx_iff_getElem?.mpr (by
   show rows[r]?=some (rows.getD r []);rw[ag,af c];rfl))
  rw[aM] at q;show q (gv rows r s,s) (List.mem_zipIdx_iff_getElem?.mpr (h r s c m))
 have j:∀i k,i<rows.length->(ig rows k)[i]?=some (gv rows i k):=λi k p=>by
  unfold ig gv;rw[ar,af p,ag (l:=rows),af p];rfl
 unfold kD at ok;simp only[Bool.or_eq_true,aT,br] at ok;show⟨λa b=>?_,λa b=>?_,λa b=>?_,λa b=>?_⟩
 .simp only[az,bV,or_false];ext
 .omega
 .by_cases e:gv rows r s=32
  .exact .inl e
  have n:gv rows r s=45:=by ext
  show .inr ⟨n,λz=>?_,λz=>?_⟩;all_goals
   have f:=aM.mp hh _ (u r c);have g:(rows.getD r [])[2*(s/2)]?=some 45:=by rw[show 2*(s/2)=s by ext,h r s c m,n]
  .exact C7 f g (i:=s-1) (by ext) (by ext) (h r (s-1) c (by ext))
  show C7 f g (i:=s+1) (by ext) (by ext) (h r (s+1) c (by ext))
 by_cases e:gv rows r s=32
 .exact .inl e
 have o:gv rows r s=124:=by ext
 show .inr ⟨o,λz=>?_,λz=>?_⟩;all_goals
  have f:=aM.mp t (ig rows s) (by unfold jH;show aE.mpr ⟨s,List.mem_range.mpr m,rfl⟩);have g:(ig rows s)[2*(r/2)]?=some 124:=by rw[show 2*(r/2)=r by ext,j r s c,o]
 .exact C7 f g (i:=r-1) (by ext) (by ext) (j (r-1) s (by ext))
 show C7 f g (i:=r+1) (by ext) (by ext) (j (r+1) s (by ext))
theorem Le{rows:List (List Nat)}(hd:cV rows=true)(h:rows.length/2*2+wd rows/2*2<64):(endsF rows).length<64/\((endsF rows).map (·.2)).Nodup:=by
 obtain⟨P,b,a,_⟩:=yA hd;rw[FF P b a];show⟨by rw[ae];show Tr h,by rw[ay];show RU⟩
end Wc
open PySem L2 PyProof.Rows Wc
local macro_rules | `(tactic| walk_at"px")=>`(tactic| (repeat(first | walk_at"b" | simp only[yF,Ew,yd,Cj,CB])))
namespace Wc
open PySem L2 PyProof.Rows
noncomputable def kJ(c:Nat):D:=.str (cz [c])
noncomputable def f7(rows:List (List Nat)):List (List D):=rows.map λl=>l.map kJ
noncomputable def Ec(rows:List (List Nat)):D:=.lst ((f7 rows).map .lst)
theorem lV{α:Type}{l:List α}{j:Nat}(h:j<l.length):et l (j:Int)=l[j]?:=by rw[rT h,af h]
def wW:e8:=λds Q=>∃(ns:List Int)(k m:Nat),ds=[dI ns,.int k,.int m]/\ns.length<=1000/\0<m/\k<=100000/\∀d:Nat,d<m->Q (.fz (.int d))
def Hg:TX:=(cL (fR (dw (cj (jq λi j=>.bl (decide (i<j))) (cj dZ (bY 1) (dC (.int 2))) (fE ja (cf (bY 0) cp)))) (eu (cj (oI (λ_ j=>0<j) λi j=>.int (i%j)) (fc 2 tP (cf (cj d0 (bY 0) (cj dZ (bY 1) (dC (.int 2)))) (cf (cj (oI (λ_ j=>0<j) λi j=>.int (i%j)) (bY 1) (dC (.int 7))) cp))) (bY 2))) gj)
 (eu (cj (oI (λ_ j=>0<j) λi j=>.int (i%j)) (fc 2 tP (cf (fE u4 (cf (ni (bY 0) oz (lr (dC (.int 1)))) cp)) (cf (bY 1) cp))) (bY 2))))
theorem Xo:iV 3 wW Hg ["_law_script","_law_k","_law_many"]:=by
 intro ds d hl h;obtain⟨ns,k,m,rfl,hn,hm,e,q⟩:=h;show Hg _ [.fz (dI ns),.fz (.int k),.fz (.int m)];unfold Hg dI;have big:=iW;have fin:∀x:Int,d (.fz (.int (x%(m:Int)))):=λx=>by
  have b:=Int.emod_nonneg x (show(m:Int)≠0 by ext);have f:=Int.emod_lt_of_pos x (show(0:Int)<m by ext);have:=q (x%(m:Int)).toNat (by ext);rw[Int.toNat_of_nonneg b] at this;show this
 walk_at"px";split
 .rename_i h;rw[ae] at h;show⟨ns[k+2]'(by ext),?_,_,_,rfl,by ext,by ext,by ext,fin _⟩;rw[show((k:Int)+2)=((k+2:Nat):Int) by ext,rT (by ext)]
 walk_at"go";show⟨_,_,rfl,by ext,by ext,by ext,fin _⟩
noncomputable def zd(p:Int×Int):D:=.tup [.int p.1,.int p.2]
noncomputable def iC(R S:Nat)(g:Nat->Nat->Nat)(p:Nat->Bool)(q:Int×Int):Bool:=!(decide (0<=q.1/\q.1<R)&&decide (0<=q.2/\q.2<S))||p (g q.1.toNat q.2.toNat)
noncomputable def gF(b:Bool)(rows:List (List Nat)):D:=if b then fB rows else Ec rows
def vn:e8:=λds Q=>∃(b:Bool)(R S:Nat)(rows:List (List Nat))(a:List (Int×Int))(w:Str)(p:Nat->Bool),ds=[gF b rows,.lst (a.map zd),.str w]/\rows.length=R/\(∀l∈rows,l.length=S)/\0<R/\S<=1000/\(∀l∈rows,∀c∈l,c∈eY)/\(∀c∈eY,oA w c=p c)/\a.length<=100/\Q (.fz (.bl (a.all (iC R S (gv rows) p))))
def Gs:TX:=(cL (jb (jZ (bY 1)) (kg 2 (fm (dh 3) (fm (dh 4) jG))) (fR (n8 (dw (zG (jq λi j=>.bl (decide (i<=j))) (jq λi j=>.bl (decide (i<j))) (dC (.int 0)) (bY 3) (fE ja (cf (bY 0) cp)))) (n8 (dw (zG (jq λi j=>.bl (decide (i<=j))) (jq λi j=>.bl (decide (i<j))) (dC (.int 0)) (bY 4) (fE ja (cf (cj d0 (bY 0) (dC (.int 0))) cp)))) (dw (cj (qZ true) (cj d0 (cj d0 (bY 0) (bY 3)) (bY 4)) (bY 2))))) (eu (dC (.bl false))) gj))
 (eu (dC (.bl true))))
theorem Wx:iV 3 vn Gs ["_law_grid","_law_places","_law_wanted","_law_r","_law_s"]:=by
 intro ds V hl h;obtain⟨b,R,S,rows,g,w,p,rfl,x,v,M,L,I,J,T,q⟩:=h;show Gs _ [.fz (gF b rows),.fz (.lst (g.map zd)),.fz (.str w),.un,.un];unfold Gs;have big:=iW;have A:∃u,rows[0]?=some u/\u.length=S:=⟨rows[0]'(by ext),af _,v _ (aV _)⟩
 obtain⟨u,A,h0⟩:=A;show tO g zd (λW h=>?_) (λi B=>∃a c:Sl,(g.take i).all (iC R S (gv rows) p)=true/\B=[.fz (gF b rows),.fz (.lst (g.map zd)),.fz (.str w),a,c]) ⟨_,_,by simp,rfl⟩ ?_ ?_
 .walk_at"px";show h
 .rintro i ⟨r,s⟩ B K ⟨a,c,f,rfl⟩;have O:((f7 rows).map D.lst).length=R:=by unfold f7;simp[x]
  have U:(f7 rows).length=R:=by unfold f7;simp[x]
  have H:et (f7 rows) 0=some (u.map kJ):=by
   rw[show(0:Int)=((0:Nat):Int) from rfl,lV (by ext)];unfold f7;rw[ar,A];rfl
  have tk:(g.take (i+1)).all (iC R S (gv rows) p)=((g.take i).all (iC R S (gv rows) p)&&iC R S (gv rows) p (r,s)):=by
   rw[bo,K,List.all_append];simp
  have bad:iC R S (gv rows) p (r,s)=false->g.all (iC R S (gv rows) p)=false:=λh=>by
   cases e:g.all (iC R S (gv rows) p) with
   | false=>rfl
   | true=>
    rw[aM] at e;rw[e _ (aw K)] at h;cases h
  have N:(rows.map λl=>D.str (cz l)).length=R:=by rw[ae,x]
  have F:et rows 0=some u:=by
   rw[show(0:Int)=((0:Nat):Int) from rfl,lV (by ext),A]
  have gG:∀l:List Nat,(cz l).length=l.length:=λl=>by simp[cz,Str.length]
  have Q:(cz u).length=S:=by rw[gG,h0]
  cases b with
  | false=>
   rw[show zd (r,s)=.tup [.int r,.int s] from rfl,show gF false rows=.lst ((f7 rows).map .lst) from rfl];walk_at"px";rw[O];by_cases t:0<=r
   .rw[if_pos t];by_cases o:r<R
    .rw[if_pos o];by_cases m:0<=s
     .rw[if_pos m];show⟨_,H,?_⟩;walk_at"px";rw[ae,h0];by_cases j:s<S
      .rw[if_pos j];obtain⟨d,rfl⟩:∃n:Nat,r=n:=⟨r.toNat,by ext⟩
       obtain⟨sn,rfl⟩:∃n:Nat,s=n:=⟨s.toNat,by ext⟩
       have C:d<rows.length:=by ext
       have z:rows[d]?=some rows[d]:=af C;have y:=qp x v z (s:=sn) (by ext);have hm:gv rows d sn∈eY:=I _ (aV _) _ (aw y);have a1:et (f7 rows) (d:Nat)=some (rows[d].map kJ):=by
        rw[lV (by ext)];unfold f7;rw[ar,z];rfl
       have a2:et rows[d] (sn:Nat)=some (gv rows d sn):=by
        rw[lV (by rw[v _ (aV _)];ext),y]
       show⟨_,a1,?_⟩;walk_at"px";show⟨_,a2,?_⟩;have E:(Builtin.Str.occurrences w ⟨#[gv rows d sn]⟩ 0 w.length 1).isEmpty=!(p (gv rows d sn)):=by
        rw[<-J _ hm];unfold oA;rw[Bool.not_not]
       have lf:iC R S (gv rows) p ((d:Int),(sn:Int))=p (gv rows d sn):=by
        unfold iC;have g1:(0:Int)<=d/\(d:Int)<R:=⟨by ext,by ext⟩
        have g2:(0:Int)<=sn/\(sn:Int)<S:=⟨by ext,by ext⟩
        simp[g1,g2]
       show(if (!!(Builtin.Str.occurrences w ⟨#[gv rows d sn]⟩ 0 w.length 1).isEmpty)=true then _ else _);rw[E];cases hb:p (gv rows d sn) with
       | false=>
        rw[if_pos (by decide)];rw[bad (by rw[lf,hb])] at q;show q
       | true=>
        rw[if_neg (by simp)];show⟨_,_,by rw[tk,f,lf,hb];rfl,rfl⟩
      rw[if_neg j];show⟨_,_,by rw[tk,f];unfold iC;simp[j],rfl⟩
     rw[if_neg m];show⟨_,_,by rw[tk,f];unfold iC;simp[m],rfl⟩
    rw[if_neg o];show⟨_,_,by rw[tk,f];unfold iC;simp[o],rfl⟩
   rw[if_neg t];show⟨_,_,by rw[tk,f];unfold iC;simp[t],rfl⟩
  | true=>
   rw[show zd (r,s)=.tup [.int r,.int s] from rfl,show gF true rows=.lst (rows.map λl=>.str (cz l)) from rfl];walk_at"px";rw[N];by_cases t:0<=r
   .rw[if_pos t];by_cases o:r<R
    .rw[if_pos o];by_cases m:0<=s
     .rw[if_pos m];show⟨_,F,?_⟩;walk_at"px";rw[Q];show⟨by ext,?_⟩;by_cases j:s<S
      .rw[if_pos j];obtain⟨d,rfl⟩:∃n:Nat,r=n:=⟨r.toNat,by ext⟩
       obtain⟨sn,rfl⟩:∃n:Nat,s=n:=⟨s.toNat,by ext⟩
       have C:d<rows.length:=by ext
       have z:rows[d]?=some rows[d]:=af C;have y:=qp x v z (s:=sn) (by ext);have hm:gv rows d sn∈eY:=I _ (aV _) _ (aw y);have a1:et rows (d:Nat)=some rows[d]:=by
        rw[lV (by ext),z]
       have P:rows[d].length=S:=v _ (aV _);have a2:et rows[d] (sn:Nat)=some (gv rows d sn):=by
        rw[lV (by rw[v _ (aV _)];ext),y]
       show⟨_,a1,?_⟩;walk_at"px";show⟨by rw[gG,P];ext,_,by rw[mi];show a2,?_⟩;have E:(Builtin.Str.occurrences w ⟨#[gv rows d sn]⟩ 0 w.length 1).isEmpty=!(p (gv rows d sn)):=by
        rw[<-J _ hm];unfold oA;rw[Bool.not_not]
       have lf:iC R S (gv rows) p ((d:Int),(sn:Int))=p (gv rows d sn):=by
        unfold iC;have g1:(0:Int)<=d/\(d:Int)<R:=⟨by ext,by ext⟩
        have g2:(0:Int)<=sn/\(sn:Int)<S:=⟨by ext,by ext⟩
        simp[g1,g2]
       show(if (!!(Builtin.Str.occurrences w ⟨#[gv rows d sn]⟩ 0 w.length 1).isEmpty)=true then _ else _);rw[E];cases hb:p (gv rows d sn) with
       | false=>
        rw[if_pos (by decide)];rw[bad (by rw[lf,hb])] at q;show q
       | true=>
        rw[if_neg (by simp)];show⟨_,_,by rw[tk,f,lf,hb];rfl,rfl⟩
      rw[if_neg j];show⟨_,_,by rw[tk,f];unfold iC;simp[j],rfl⟩
     rw[if_neg m];show⟨_,_,by rw[tk,f];unfold iC;simp[m],rfl⟩
    rw[if_neg o];show⟨_,_,by rw[tk,f];unfold iC;simp[o],rfl⟩
   rw[if_neg t];show⟨_,_,by rw[tk,f];unfold iC;simp[t],rfl⟩
 rintro B ⟨a,c,f,rfl⟩;rw[bI] at f;walk_at"go";rw[f] at q;show q
noncomputable def vq(b:List Int)(a:Nat):Nat:=(1+wq (jJ b none (some 1)).sum 802%(a:Int)).toNat
def yP:e8:=λds Q=>∃(ns:List Int)(high wide:Nat),ds=[dI ns,.int high,.int wide]/\ns.length<=1000/\high<=20/\1<=wide/\wide<=20/\∀(t:Nat)(rows:List (List Nat)),t<=high->1<=vq ns wide->vq ns wide<=wide->i5 (2*t+1) (2*vq ns wide+1) rows->Q (.ov (.ll (f7 rows)))
theorem Cy{n k:Nat}(h:k<n):nC n (k:Int)=some k:=by
 unfold nC;rw[if_pos (by ext),if_pos (by ext),ba]
theorem FE{rows:List (List Nat)}{r s c:Nat}:(f7 rows).set r (((rows.getD r []).map kJ).set s (kJ c))=f7 (oD rows r s c):=by
 unfold f7 oD;rw[List.map_set,List.map_set]
theorem Cw{rows:List (List Nat)}{r:Nat}(h:r<rows.length):(f7 rows)[r]?=some ((rows.getD r []).map kJ):=by
 unfold f7;rw[ar,ag,af h];rfl
theorem Yu:∀d,d<8->∃c∈[32,45,124,43,35],et (" -|+#+#-":Str).cps.toList ((d:Nat):Int)=some c:=by decide +kernel
theorem Yt:∀d,d<3->∃c∈[32,45],et (" --":Str).cps.toList ((d:Nat):Int)=some c:=by decide +kernel
theorem Ys:∀d,d<3->∃c∈[32,124],et (" ||":Str).cps.toList ((d:Nat):Int)=some c:=by decide +kernel
theorem Ca{R S:Nat}{g:Nat->Nat->Nat}{p:Nat->Bool}{a b:Int×Int}(h:[a,b].all (iC R S g p)=true):((0<=a.1/\a.1<R)->(0<=a.2/\a.2<S)->p (g a.1.toNat a.2.toNat)=true)/\((0<=b.1/\b.1<R)->(0<=b.2/\b.2<S)->p (g b.1.toNat b.2.toNat)=true):=by
 simp only[List.all_cons,List.all_nil,Bool.and_true,aT] at h;unfold iC at h;show⟨λd c=>?_,λd c=>?_⟩
 .have:=h.1;rw[bc d,bc c] at this;simpa using this
 have:=h.2;rw[bc d,bc c] at this;simpa using this
def GP:TX:=(cL (fg 3 (cj (oI (λ_ j=>0<j) λi j=>.int (i%j)) (fc 2 tP (cf (fE u4 (cf (ni (bY 0) oz (lr (dC (.int 2)))) cp)) (cf (dC (.int 801)) cp))) (cj dZ (bY 1) (dC (.int 1)))))
 (cL (fg 4 (cj dZ (dC (.int 1)) (cj (oI (λ_ j=>0<j) λi j=>.int (i%j)) (fc 2 tP (cf (fE u4 (cf (ni (bY 0) oz (lr (dC (.int 1)))) cp)) (cf (dC (.int 802)) cp))) (bY 2))))
 (cL (mT 5 (wL (oH (cf (cj dZ (cj (oI iB λi j=>.int (i*j)) (dC (.int 2)) (bY 3)) (dC (.int 1))) cp)) [none,some 4] (dh 0) iD (Ew (jc (cf (dC (.str " ")) cp)) (cj dZ (cj (oI iB λi j=>.int (i*j)) (dC (.int 2)) (bY 1)) (dC (.int 1))))))
 (cL (fg 6 (dC (.int 0)))
 (cL (jb (oH (cf (bY 3) cp)) (dh 7) (jb (oH (cf (bY 4) cp)) (dh 8) (cL (yF 5 (cj dZ (cj (oI iB λi j=>.int (i*j)) (dC (.int 2)) (bY 7)) (dC (.int 1))) (cj dZ (cj (oI iB λi j=>.int (i*j)) (dC (.int 2)) (bY 8)) (dC (.int 1))) (cj d0 (dC (.str " -|+#+#-")) (fc 3 wW (cf (bY 0) (cf (bY 6) (cf (dC (.int 8)) cp))))))
 (fg 6 (cj dZ (bY 6) (dC (.int 1)))))))
 (cL (jb (oH (cf (cj dZ (cj (oI iB λi j=>.int (i*j)) (dC (.int 2)) (bY 3)) (dC (.int 1))) cp)) (dh 9) (jb (oH (cf (cj dZ (cj (oI iB λi j=>.int (i*j)) (dC (.int 2)) (bY 4)) (dC (.int 1))) cp)) (dh 10) (cL (fR (n8 (dw (cj oEq (cj (oI (λ_ j=>0<j) λi j=>.int (i%j)) (bY 9) (dC (.int 2))) (dC (.int 1)))) (n8 (dw (cj oEq (cj (oI (λ_ j=>0<j) λi j=>.int (i%j)) (bY 10) (dC (.int 2))) (dC (.int 0)))) (dw (ye 5 (fc 3 vn (cf (bY 5) (cf (jc (cf (kj (cf (bY 9) (cf (cj (jq λi j=>.int (i-j)) (bY 10) (dC (.int 1))) cp))) (cf (kj (cf (bY 9) (cf (cj dZ (bY 10) (dC (.int 1))) cp))) cp))) (cf (dC (.str "-+#")) cp)))))))) (cL (yF 5 (bY 9) (bY 10) (cj d0 (dC (.str " --")) (fc 3 wW (cf (bY 0) (cf (bY 6) (cf (dC (.int 3)) cp))))))
 (fg 6 (cj dZ (bY 6) (dC (.int 1))))) gj)
 (fR (n8 (dw (cj oEq (cj (oI (λ_ j=>0<j) λi j=>.int (i%j)) (bY 9) (dC (.int 2))) (dC (.int 0)))) (n8 (dw (cj oEq (cj (oI (λ_ j=>0<j) λi j=>.int (i%j)) (bY 10) (dC (.int 2))) (dC (.int 1)))) (dw (ye 5 (fc 3 vn (cf (bY 5) (cf (jc (cf (kj (cf (cj (jq λi j=>.int (i-j)) (bY 9) (dC (.int 1))) (cf (bY 10) cp))) (cf (kj (cf (cj dZ (bY 9) (dC (.int 1))) (cf (bY 10) cp))) cp))) (cf (dC (.str "|+#")) cp)))))))) (cL (yF 5 (bY 9) (bY 10) (cj d0 (dC (.str " ||")) (fc 3 wW (cf (bY 0) (cf (bY 6) (cf (dC (.int 3)) cp))))))
 (fg 6 (cj dZ (bY 6) (dC (.int 1))))) gj))))
 (yd 5)))))))
theorem XF:iV 3 yP GP ["_law_script","_law_high","_law_wide","_law_tracks","_law_width","_law_grid","_law_k","_law_t","_law_c","_law_r","_law_s"]:=by
 intro ds Qr hl h;obtain⟨ns,high,wide,rfl,hn,hh,Ze,S,q⟩:=h;show GP _ [.fz (dI ns),.fz (.int high),.fz (.int wide),.un,.un,.un,.un,.un,.un,.un,.un];unfold GP dI;have big:=iW;walk_at"px";show⟨_,_,rfl,by decide,by decide,?_⟩;have sn:=Fg (jJ ns none (some 2)).sum 801;generalize wq (jJ ns none (some 2)).sum 801=A at sn ⊢;show⟨by ext,?_⟩;have t0:=Int.emod_nonneg A (show(high:Int)+1≠0 by ext);have t1:=Int.emod_lt_of_pos A (show(0:Int)<(high:Int)+1 by ext);obtain⟨t,ht⟩:∃t:Nat,A%((high:Int)+1)=t:=⟨(A%((high:Int)+1)).toNat,by ext⟩
 rw[ht] at t1 ⊢;walk_at"go";show⟨_,_,rfl,by decide,by decide,?_⟩;have X:=Fg (jJ ns none (some 1)).sum 802;unfold vq at q;generalize wq (jJ ns none (some 1)).sum 802=E at X q ⊢;show⟨by ext,?_⟩;have w0:=Int.emod_nonneg E (show(wide:Int)≠0 by ext);have Z:=Int.emod_lt_of_pos E (show(0:Int)<(wide:Int) by ext);obtain⟨w,hw⟩:∃w:Nat,1+E%(wide:Int)=w:=⟨(1+E%(wide:Int)).toNat,by ext⟩
 have Q:1<=w/\w<=wide:=by ext
 rw[hw] at q ⊢;rw[ba] at q;walk_at"go";have tt:(2*(t:Int)+1)=((2*t+1:Nat):Int):=by ext
 have ww:(2*(w:Int)+1)=((2*w+1:Nat):Int):=by ext
 show M8 (List.range (2*t+1)) (λi=>D.int (i:Nat)) (λ_=>List.replicate (2*w+1) (kJ 32)) (λm h=>?_) (by simp;ext) (λ_ _ K1 k1=>?_) ?_
 .walk_at"px";rw[tt,ba];show⟨by ext,by ext,?_⟩;have e:(λi:Nat=>D.int (0+(i:Int)))=λi:Nat=>D.int (i:Int):=funext λi=>by rw[Int.zero_add]
  rw[e];show h
 .walk_at"px";rw[ww,ba];show⟨by ext,by ext,by ext,by ext,?_⟩;have e:(List.replicate (2*w+1) [D.str " "]).flatten=List.replicate (2*w+1) (kJ 32):=by
   rw[show kJ 32=D.str " " by unfold kJ;congr 1];simp
  rw[e];show k1
 have U:(List.range (2*t+1)).map (λ_=>List.replicate (2*w+1) (kJ 32))=f7 (List.replicate (2*t+1) (List.replicate (2*w+1) 32)):=by
  unfold f7;rw[List.map_replicate,List.map_replicate];apply List.ext_getElem
  .simp
  intro i h1 g;simp
 rw[U];have O:nS (2*t+1) (2*w+1) (List.replicate (2*t+1) (List.replicate (2*w+1) 32)):=by
  show⟨by simp,λl hl=>by rw[List.eq_of_mem_replicate hl];simp,λr s o T=>?_⟩;have:gv (List.replicate (2*t+1) (List.replicate (2*w+1) 32)) r s=32:=by
   unfold gv;rw[ag (l:=List.replicate _ _),List.getElem?_replicate,if_pos o,bg,ag,List.getElem?_replicate,if_pos T];rfl
  rw[this];show⟨by simp,λ_=>rfl⟩
 generalize List.replicate (2*t+1) (List.replicate (2*w+1) 32)=rows0 at O ⊢;walk_at"px";walk_at"go";walk_at"go";have y:∀(n:Nat),n<1000->∀m:List D->Prop,m ((List.range n).map λ(i:Nat)=>.int (0+i))->-4611686018427387904<=(n:Int)/\(n:Int)<4611686018427387904/\m ((List.range (n:Int).toNat).map λ(i:Nat)=>D.int (0+i)):=λn hn m h=>⟨by ext,by ext,by rw[ba];show h⟩
 show tQ t (λm h=>?_) (λi f=>∃(rows:List (List Nat))(k:Nat)(a b c d:Sl),nS (2*t+1) (2*w+1) rows/\k<=i*20/\f=[.fz (.lst (ns.map D.int)),.fz (.int high),.fz (.int wide),.fz (.int t),.fz (.int w),.ov (.ll (f7 rows)),.fz (.int k),a,b,c,d]) ⟨rows0,0,_,_,_,_,O,a9 _,rfl⟩ ?_ ?_
 .walk_at"px";show y t (by ext) m h
 .rintro i f J ⟨rows,k,a,b,c,d,P,p,rfl⟩;walk_at"px";show tQ w (λm h=>?_) (λj f=>∃(rows:List (List Nat))(k:Nat)(b c d:Sl),nS (2*t+1) (2*w+1) rows/\k<=i*20+j/\f=[.fz (.lst (ns.map D.int)),.fz (.int high),.fz (.int wide),.fz (.int t),.fz (.int w),.ov (.ll (f7 rows)),.fz (.int k),.fz (.int i),b,c,d]) ⟨rows,k,_,_,_,P,by ext,rfl⟩ ?_ ?_
  .walk_at"px";show y w (by ext) m h
  .rintro j f I ⟨rows,k,b,c,d,P,p,rfl⟩;walk_at"px";show⟨ns,k,8,rfl,hn,by decide,by ext,λx hd=>?_⟩;obtain⟨ch,v,u⟩:=Yu x hd;have hg:(f7 rows).length=2*t+1:=by unfold f7;rw[ae,P.len]
   have o:2*i+1<rows.length:=by rw[P.len];ext
   have hm:rows.getD (2*i+1) []∈rows:=by
    rw[ag,af o,bg];show aV _
   have K:=P.eN _ hm;show⟨by decide +kernel,ch,u,2*i+1,_,?_,Cw o,2*j+1,?_,?_⟩
   .rw[show(2*(i:Int)+1)=((2*i+1:Nat):Int) by ext];show Cy (by ext)
   .rw[show(2*(j:Int)+1)=((2*j+1:Nat):Int) by ext];show Cy (by rw[ae,K];ext)
   rw[show D.str ⟨#[ch]⟩=kJ ch from rfl,FE];walk_at"go";show⟨oD rows (2*i+1) (2*j+1) ch,k+1,_,_,_,P.set (by ext) (by ext) (by ext) (by ext) v,by ext,rfl⟩
  rintro f ⟨rows,k,b,c,d,P,p,rfl⟩;show⟨rows,k,_,_,_,_,P,by ext,rfl⟩
 rintro f ⟨rows,k,a,b,c,d,P,p,rfl⟩;walk_at"go";show tQ (2*t+1) (λm h=>?_) (λi f=>∃(rows:List (List Nat))(k:Nat)(a b c d:Sl),i5 (2*t+1) (2*w+1) rows/\k<=400+i*82/\f=[.fz (.lst (ns.map D.int)),.fz (.int high),.fz (.int wide),.fz (.int t),.fz (.int w),.ov (.ll (f7 rows)),.fz (.int k),a,b,c,d]) ⟨rows,k,_,_,_,_,P.YG,by ext,rfl⟩ ?_ ?_
 .walk_at"px";rw[tt];show y _ (by ext) m h
 .rintro i f J ⟨rows,k,a,b,c,d,P,p,rfl⟩;walk_at"px";show tQ (2*w+1) (λm h=>?_) (λj f=>∃(rows:List (List Nat))(k:Nat)(d:Sl),i5 (2*t+1) (2*w+1) rows/\k<=400+i*82+j*2/\f=[.fz (.lst (ns.map D.int)),.fz (.int high),.fz (.int wide),.fz (.int t),.fz (.int w),.ov (.ll (f7 rows)),.fz (.int k),a,b,.fz (.int i),d]) ⟨rows,k,_,P,by ext,rfl⟩ ?_ ?_
  .walk_at"px";rw[ww];show y _ (by ext) m h
  .rintro j f I ⟨rows,k,d,P,p,rfl⟩;have hg:(f7 rows).length=2*t+1:=by unfold f7;rw[ae,P.len]
   have o:i<rows.length:=by rw[P.len];ext
   have hm:rows.getD i []∈rows:=by
    rw[ag,af o,bg];show aV _
   have K:=P.eN _ hm;have L:=(P.rb (by ext) (by ext)).eY;have N:nC (f7 rows).length (i:Int)=some i:=Cy (by ext);have M:nC ((rows.getD i []).map kJ).length (j:Int)=some j:=Cy (by rw[ae,K];ext);walk_at"px";by_cases W:i%2=1
   .rw[if_pos (by ext)];have skip:∀(C:List (List Nat))(B:Nat),i5 (2*t+1) (2*w+1) C->B<=400+i*82+(j+1)*2->∃(rows:List (List Nat))(k:Nat)(d:Sl),i5 (2*t+1) (2*w+1) rows/\k<=400+i*82+(j+1)*2/\
      [.fz (.lst (ns.map D.int)),.fz (.int high),.fz (.int wide),.fz (.int t),.fz (.int w),.ov (.ll (f7 C)),.fz (.int B),a,b,.fz (.int i),.fz (.int j)]=[Sl.fz (.lst (ns.map D.int)),.fz (.int high),.fz (.int wide),.fz (.int t),.fz (.int w),.ov (.ll (f7 rows)),.fz (.int k),a,b,.fz (.int i),d]:=
     λC B Y R=>⟨C,B,_,Y,R,rfl⟩
    by_cases V:j%2=0
    .rw[if_pos (by ext)];show⟨by ext,by ext,by ext,false,2*t+1,2*w+1,rows,[((i:Int),(j:Int)-1),((i:Int),(j:Int)+1)],"-+#",lO,rfl,P.len,P.eN,by ext,by ext,L,EE,by simp,rfl,?_⟩;cases hb:[((i:Int),(j:Int)-1),((i:Int),(j:Int)+1)].all (iC (2*t+1) (2*w+1) (gv rows) lO) with
     | true=>
      obtain⟨H,F⟩:=Ca hb;walk_at"px";show⟨ns,k,3,rfl,hn,by decide,by ext,λx hd=>?_⟩;obtain⟨ch,v,u⟩:=Yt x hd;show⟨by decide +kernel,ch,u,i,_,N,Cw o,j,M,?_⟩;rw[show D.str ⟨#[ch]⟩=kJ ch from rfl,FE];walk_at"go";walk_at"go";rw[if_neg (by ext)];show skip _ (k+1) (P.set J I (by ext) ?_) (by ext);have g:ch=32\/ch=45:=by simpa using v
      rcases g with g | g
      .exact .inl g
      show .inr (.inl ⟨W,g,λz=>?_,λz=>?_⟩)
      .have:=H ⟨by ext,by ext⟩ ⟨by ext,by ext⟩;rw[show((i:Int)).toNat=i by ext,show((j:Int)-1).toNat=j-1 by ext] at this;show this
      have:=F ⟨by ext,by ext⟩ ⟨by ext,by ext⟩;rw[show((i:Int)).toNat=i by ext,show((j:Int)+1).toNat=j+1 by ext] at this;show this
     | false=>
      walk_at"px";walk_at"go";rw[if_neg (by ext)];show skip _ k P (by ext)
    rw[if_neg (by ext)];walk_at"go";rw[if_neg (by ext)];show skip _ k P (by ext)
   rw[if_neg (by ext)];walk_at"go";rw[if_pos (by ext)];by_cases V:j%2=1
   .rw[if_pos (by ext)];show⟨by ext,by ext,by ext,false,2*t+1,2*w+1,rows,[((i:Int)-1,(j:Int)),((i:Int)+1,(j:Int))],"|+#",kN,rfl,P.len,P.eN,by ext,by ext,L,zx,by simp,rfl,?_⟩;cases hb:[((i:Int)-1,(j:Int)),((i:Int)+1,(j:Int))].all (iC (2*t+1) (2*w+1) (gv rows) kN) with
    | true=>
     obtain⟨H,F⟩:=Ca hb;walk_at"px";show⟨ns,k,3,rfl,hn,by decide,by ext,λx hd=>?_⟩;obtain⟨ch,v,u⟩:=Ys x hd;show⟨by decide +kernel,ch,u,i,_,N,Cw o,j,M,?_⟩;rw[show D.str ⟨#[ch]⟩=kJ ch from rfl,FE];walk_at"go";show⟨_,k+1,_,P.set J I (by ext) ?_,by ext,rfl⟩;have g:ch=32\/ch=124:=by simpa using v
     rcases g with g | g
     .exact .inl g
     show .inr (.inr ⟨by ext,g,λz=>?_,λz=>?_⟩)
     .have:=H ⟨by ext,by ext⟩ ⟨by ext,by ext⟩;rw[show((j:Int)).toNat=j by ext,show((i:Int)-1).toNat=i-1 by ext] at this;show this
     have:=F ⟨by ext,by ext⟩ ⟨by ext,by ext⟩;rw[show((j:Int)).toNat=j by ext,show((i:Int)+1).toNat=i+1 by ext] at this;show this
    | false=>
     walk_at"px";show⟨rows,k,_,P,by ext,rfl⟩
   rw[if_neg (by ext)];show⟨rows,k,_,P,by ext,rfl⟩
  rintro f ⟨rows,k,d,P,p,rfl⟩;show⟨rows,k,_,_,_,_,P,by ext,rfl⟩
 rintro f ⟨rows,k,a,b,c,d,P,p,rfl⟩;walk_at"go";show q t rows (by ext) Q.1 Q.2 P
end Wc
open PySem L2 PyProof.Rows Wc
local macro_rules | `(tactic| walk_at"px")=>`(tactic| (repeat(first | walk_at"b" | simp only[oG])))
namespace Wc
open PySem L2 PyProof.Rows
noncomputable def n6(c:Nat):List Nat->List (List Nat)
 | []=>[[]]
 | x::r=>if x=c then []::n6 c r else match n6 c r with
  | []=>[[x]]
  | h::t=>(x::h)::t
theorem RR(c:Nat):∀l,n6 c l≠[]
 | []=>by simp[n6]
 | x::r=>by
  unfold n6;split
  .simp
  split<;>simp
theorem L4(c:Nat)(b:List Nat):∀a:List Nat,n6 c (a++c::b)=n6 c a++n6 c b
 | []=>by simp[n6]
 | x::r=>by
  rw[List.cons_append,n6,L4 c b r];conv=>rhs;rw[n6]
  by_cases h:x=c
  .simp[h]
  simp only[h,bG];cases e:n6 c r with
  | nil=>show absurd e (RR c r)
  | cons u v=>simp
theorem Gj(c:Nat):∀a:List Nat,c∉a->n6 c a=[a]
 | [],_=>rfl
 | x::r,h=>by
  simp only[az,not_or] at h;rw[n6,if_neg (λz=>h.1 z.symm),Gj c r h.2]
noncomputable def og(c:Nat):List (List Nat)->List Nat
 | []=>[]
 | [a]=>a
 | a::b::r=>a++c::og c (b::r)
theorem Dl(c:Nat):∀l:List (List Nat),l≠[]->(∀a∈l,c∉a)->n6 c (og c l)=l
 | [],h,_=>absurd rfl h
 | [a],_,h=>Gj c a (h a (by simp))
 | a::b::r,_,h=>by
  rw[og,L4,Gj c a (h a (by simp)),Dl c (b::r) (by simp) λz hz=>h z (by simp[hz])];rfl
theorem z0(c:Nat):∀(l:List Str),(Txt.join ⟨#[c]⟩ l).cps.toList=og c (l.map λs=>s.cps.toList)
 | []=>rfl
 | [a]=>by rw[Dc];simp[og]
 | a::b::r=>by
  have d:=z0 c (b::r);rw[Dc] at d ⊢;simp only[ao,og];simp only[ao] at d;rw[<-d];simp
theorem Mv(x:Str)(c:Nat):(Txt.split x ⟨#[c]⟩).map (λs=>s.cps.toList)=n6 c x.cps.toList:=by
 have g:Txt.join ⟨#[c]⟩ (Txt.split x ⟨#[c]⟩)=x:=(StrLaws.glued_eq_join _ _).trans (StrLaws.join_split x ⟨#[c]⟩);have f:=StrLaws.split_free x c;have d:Txt.split x ⟨#[c]⟩≠[]:=λz=>by
  have:=PyProof.Rows.split_pos x ⟨#[c]⟩;rw[z] at this;simp at this
 have e:x.cps.toList=og c ((Txt.split x ⟨#[c]⟩).map λs=>s.cps.toList):=by
  rw[<-z0];show congrArg (λs:Str=>s.cps.toList) g.symm
 rw[e,Dl]
 .simpa using d
 intro a ha;obtain⟨s,b,rfl⟩:=aE.mp ha;show f s b
theorem Gi(c k:Nat):∀l:List (List Nat),(∀a∈l,a.length<=k)->(og c l).length<=l.length*(k+1)
 | [],_=>by simp[og]
 | [a],h=>by have:=h a (by simp);simp[og];ext
 | a::b::r,h=>by
  have e:=h a (by simp);have d:=Gi c k (b::r) λz hz=>h z (by simp[hz])
  rw[og,ax,av,av (a:=a),Nat.succ_mul];ext
theorem zz:("\n":Str)=⟨#[10]⟩:=by decide +kernel
def Aj:e8:=λds Q=>∃(rows:List (List Nat)),ds=[Ec rows]/\rows≠[]/\rows.length<=41/\(∀l∈rows,l.length<=41/\∀c∈l,c∈eY)/\∀t:Str,Txt.split t "\n"=rows.map cz->t.length<10000->Q (.fz (.str t))
def Hf:TX:=(eu (dM "str" oG (dC (.str "\n")) (cf (gY (jZ (bY 0)) [none] (dh 0) iD (dM "str" oG (dC (.str "")) (cf (bY 0) cp))) cp)))
theorem Xn:iV 1 Aj Hf ["_law_grid"]:=by
 intro ds v hl h;obtain⟨rows,rfl,i,o,hw,q⟩:=h;show Hf _ [.fz (Ec rows)];unfold Hf Ec;have big:=iW;have m:∀L:List Nat,((L.map λc=>(⟨#[c]⟩:Str)).map λx=>x.length).sum=L.length:=λL=>by
  induction L with
  | nil=>rfl
  | cons a r d=>rw[ao,ao,List.sum_cons,d,av];show 1+r.length=_;ext
 walk_at"px";show⟨rfl,?_⟩;show lD rows (λl=>.lst (l.map kJ)) (λl=>.str (cz l)) (λw h=>?_) (by ext) (λl hm y k1=>?_) ?_
 .walk_at"px";unfold f7;rw[ay];show h
 .walk_at"px";have e:l.map kJ=(l.map λc=>(⟨#[c]⟩:Str)).map D.str:=by rw[ay];rfl
  rw[e];simp only[wU];rw[M7,m,ae,show(Str.ofString "").length=0 by decide +kernel];have:=(hw l hm).1;show⟨rfl,by ext,k1⟩
 have e:rows.map (λl=>D.str (cz l))=(rows.map cz).map D.str:=by rw[ay];rfl
 rw[e];simp only[oG,yw,wU];have hl:(rows.map cz).map (λs=>s.cps.toList)=rows:=by
  rw[ay];have:(λs:Str=>s.cps.toList)∘cz=id:=funext λl=>by simp[cz]
  rw[this,List.map_id]
 have f:(Txt.join "\n" (rows.map cz)).cps.toList=og 10 rows:=by rw[zz,z0,hl]
 have hf:∀a∈rows,10∉a:=λa ha n=>by
  have:=(hw a ha).2 10 n;revert this
  decide
 have g:∀a∈rows,a.length<=41:=λa ha=>(hw a ha).1
 have u:=Gi 10 41 rows g;have t:rows.length*(41+1)<=41*42:=Nat.mul_le_mul (by ext) (by ext);show⟨?_,q _ ?_ ?_⟩
 .have:((rows.map cz).map (·.length)).sum<=rows.length*41:=by
   rw[ay];have:∀l:List (List Nat),(∀a∈l,a.length<=41)->(l.map ((λx:Str=>x.length)∘cz)).sum<=l.length*41:=λl=>by
    induction l with
    | nil=>intro _;simp
    | cons a r d=>
     intro h;rw[ao,List.sum_cons,av,Nat.succ_mul];have:=d λb hb=>h b (au _ hb)
     have p:=h a aA;have:(cz a).length=a.length:=by simp[cz,Str.length]
     simp only[Function.comp_apply];ext
   show this rows g
  rw[ae,show(Str.ofString "\n").length=1 by decide +kernel];ext
 .have:=Mv (Txt.join "\n" (rows.map cz)) 10;rw[f,Dl 10 rows i hf,<-zz] at this;have j:cz∘(λs:Str=>s.cps.toList)=id:=funext λs=>CC s
  have:=congrArg (List.map cz) this;rw[ay,j,List.map_id] at this;show this
 have:(Txt.join "\n" (rows.map cz)).length=(og 10 rows).length:=by rw[<-f];simp[Str.length]
 rw[this];ext
end Wc
open PySem L2 PyProof.Rows Wc
local macro_rules | `(tactic| walk_at"px")=>`(tactic| (repeat(first | walk_at"b" | simp only[zq])))
namespace Wc
open PySem L2 PyProof.Rows
theorem PJ:(" ":Str).cps.toList=[32]:=by decide +kernel
theorem rj{c x:Nat}{w:Str}(h:w.cps.toList=[x]):((⟨#[c]⟩:Str)=w)↔c=x:=by
 constructor
 .intro e;have:=congrArg (λs:Str=>s.cps.toList) e;simp only[h] at this;simpa using this
 rintro rfl;show(Cz h).symm
theorem FD{w:Str}{b:Bool}{x:Nat}(h:oA w x=b):(Builtin.Str.occurrences w ⟨#[x]⟩ 0 w.length 1).isEmpty=!b:=by
 rw[<-h];unfold oA;rw[Bool.not_not]
def Ad:e8:=λds Q=>∃r s c:Nat,ds=[.int r,.int s,.str ⟨#[c]⟩]/\c∈eY/\Q (.fz (.bl (kD r s c)))
def GJ:TX:=(cL (fR (n8 (dw (cj oEq (cj (oI (λ_ j=>0<j) λi j=>.int (i%j)) (bY 0) (dC (.int 2))) (dC (.int 1)))) (dw (cj oEq (cj (oI (λ_ j=>0<j) λi j=>.int (i%j)) (bY 1) (dC (.int 2))) (dC (.int 1))))) (eu (cj (qZ false) (bY 2) (dC (.str " -|+#")))) gj)
 (cL (fR (dw (cj oEq (cj (oI (λ_ j=>0<j) λi j=>.int (i%j)) (bY 0) (dC (.int 2))) (dC (.int 1)))) (eu (cj (qZ false) (bY 2) (dC (.str " -")))) gj)
 (cL (fR (dw (cj oEq (cj (oI (λ_ j=>0<j) λi j=>.int (i%j)) (bY 1) (dC (.int 2))) (dC (.int 1)))) (eu (cj (qZ false) (bY 2) (dC (.str " |")))) gj)
 (eu (cj oEq (bY 2) (dC (.str " ")))))))
theorem WW:iV 3 Ad GJ ["_law_row","_law_place","_law_sign"]:=by
 intro ds j hl h;obtain⟨r,s,c,rfl,f,q⟩:=h;show GJ _ [.fz (.int r),.fz (.int s),.fz (.str ⟨#[c]⟩)];unfold GJ;have big:=iW;have b:=L8 r s c f;unfold yt at b;walk_at"px";by_cases e:r%2=1
 .rw[if_pos e] at b;rw[if_pos (by ext)];by_cases d:s%2=1
  .rw[if_pos d] at b;rw[if_pos (by ext),FD b,Bool.not_not];show q
  rw[if_neg d] at b;rw[if_neg (by ext)];walk_at"go";rw[if_pos (by ext),FD b,Bool.not_not];show q
 rw[if_neg e] at b;rw[if_neg (by ext)];walk_at"go";rw[if_neg (by ext)];walk_at"go";by_cases d:s%2=1
 .rw[if_pos d] at b;rw[if_pos (by ext),FD b,Bool.not_not];show q
 rw[if_neg d] at b;rw[if_neg (by ext)];walk_at"go";have:kD r s c=decide ((⟨#[c]⟩:Str)=" "):=by
  unfold kD;have i:decide (r%2=1)=false:=aG e;have g:decide (s%2=1)=false:=aG d;rw[i,g];simp only[Bool.false_and,Bool.or_false];show decide_eq_decide.mpr (rj PJ).symm
 rw[this] at q;show q
section
variable{R S:Nat}{g:Nat->Nat->Nat}{rows:List (List Nat)}
noncomputable def uY(R S:Nat)(g:Nat->Nat->Nat)(r s:Nat):Bool:=[((r:Int),(s:Int)-1),((r:Int),(s:Int)+1)].all (iC R S g lO)
noncomputable def tm(R S:Nat)(g:Nat->Nat->Nat)(r s:Nat):Bool:=[((r:Int)-1,(s:Int)),((r:Int)+1,(s:Int))].all (iC R S g kN)
theorem To{r s:Nat}(f:r<R)(e:s<S):uY R S g r s=true↔(0<s->lO (g r (s-1))=true)/\(s+1<S->lO (g r (s+1))=true):=by
 unfold uY;constructor
 .intro h;obtain⟨b,a⟩:=Ca h;show⟨λz=>?_,λz=>?_⟩
  .have:=b ⟨by ext,by ext⟩ ⟨by ext,by ext⟩;rw[show((r:Int)).toNat=r by ext,show((s:Int)-1).toNat=s-1 by ext] at this;show this
  have:=a ⟨by ext,by ext⟩ ⟨by ext,by ext⟩;rw[show((r:Int)).toNat=r by ext,show((s:Int)+1).toNat=s+1 by ext] at this;show this
 rintro⟨d,c⟩;simp only[List.all_cons,List.all_nil,Bool.and_true,aT];unfold iC;simp only[Bool.or_eq_true];show⟨?_,?_⟩
 .by_cases z:0<s
  .right
   rw[show((r:Int)).toNat=r by ext,show((s:Int)-1).toNat=s-1 by ext];show d z
  left
  have:¬(0<=(s:Int)-1/\(s:Int)-1<S):=by ext
  simp[this]<;>ext
 by_cases z:s+1<S
 .right
  rw[show((r:Int)).toNat=r by ext,show((s:Int)+1).toNat=s+1 by ext];show c z
 left
 have:¬(0<=(s:Int)+1/\(s:Int)+1<S):=by ext
 simp[this]<;>ext
theorem Tn{r s:Nat}(f:r<R)(e:s<S):tm R S g r s=true↔(0<r->kN (g (r-1) s)=true)/\(r+1<R->kN (g (r+1) s)=true):=by
 unfold tm;constructor
 .intro h;obtain⟨b,a⟩:=Ca h;show⟨λz=>?_,λz=>?_⟩
  .have:=b ⟨by ext,by ext⟩ ⟨by ext,by ext⟩;rw[show((s:Int)).toNat=s by ext,show((r:Int)-1).toNat=r-1 by ext] at this;show this
  have:=a ⟨by ext,by ext⟩ ⟨by ext,by ext⟩;rw[show((s:Int)).toNat=s by ext,show((r:Int)+1).toNat=r+1 by ext] at this;show this
 rintro⟨d,c⟩;simp only[List.all_cons,List.all_nil,Bool.and_true,aT];unfold iC;simp only[Bool.or_eq_true];show⟨?_,?_⟩
 .by_cases z:0<r
  .right
   rw[show((s:Int)).toNat=s by ext,show((r:Int)-1).toNat=r-1 by ext];show d z
  left
  have:¬(0<=(r:Int)-1/\(r:Int)-1<R):=by ext
  simp[this]<;>ext
 by_cases z:r+1<R
 .right
  rw[show((s:Int)).toNat=s by ext,show((r:Int)+1).toNat=r+1 by ext];show c z
 left
 have:¬(0<=(r:Int)+1/\(r:Int)+1<R):=by ext
 simp[this]<;>ext
noncomputable def cT(R S:Nat)(g:Nat->Nat->Nat)(r s:Nat):Bool:=kD r s (g r s)&&(!(decide (g r s=45)&&decide (s%2=0))||uY R S g r s)&&(!(decide (g r s=124)&&decide (r%2=0))||tm R S g r s)
theorem Kl{r s:Nat}(k:r<R)(j:s<S):cT R S g r s=true↔pq R S g r s:=by
 unfold cT pq;simp only[aT,Bool.or_eq_true,Bool.not_eq_true',Bool.and_eq_false_iff,decide_eq_false_iff_not,To k j,Tn k j];unfold kD;simp only[Bool.or_eq_true,aT,br,az,bV,or_false];constructor
 .rintro⟨⟨l,i⟩,h⟩;show⟨λa b=>by ext,λa b=>by ext,λa b=>?_,λa b=>?_⟩
  .by_cases e:g r s=32
   .exact .inl e
   have f:g r s=45:=by ext
   rcases i with(z | z) | z
   .exact absurd f z
   .exact absurd b z
   show .inr ⟨f,z⟩
  by_cases e:g r s=32
  .exact .inl e
  have f:g r s=124:=by ext
  rcases h with(z | z) | z
  .exact absurd f z
  .exact absurd a z
  show .inr ⟨f,z⟩
 rintro⟨l,i,h,m⟩;have d:r%2=0\/r%2=1:=by ext
 have c:s%2=0\/s%2=1:=by ext
 rcases d with d | d<;>rcases c with c | c
 .have:=i d c;show⟨⟨by ext,.inl (.inl (by ext))⟩,.inl (.inl (by ext))⟩
 .rcases m d c with z | z
  .exact⟨⟨by ext,.inl (.inl (by ext))⟩,.inl (.inl (by ext))⟩
  show⟨⟨by ext,.inl (.inl (by ext))⟩,.inr z.2⟩
 .rcases h d c with z | z
  .exact⟨⟨by ext,.inl (.inl (by ext))⟩,.inl (.inl (by ext))⟩
  show⟨⟨by ext,.inr z.2⟩,.inl (.inl (by ext))⟩
 have:=l d c;show⟨⟨by ext,.inl (.inr (by ext))⟩,.inl (.inr (by ext))⟩
end
theorem qw{c:Prop}{i:Decidable c}{a b:Prop}(h:¬c)(hb:b):@ite Prop c i a b:=by rw[if_neg h];show hb
theorem qu{c:Prop}{i:Decidable c}{a b:Prop}(h:c)(hb:a):@ite Prop c i a b:=by rw[if_pos h];show hb
theorem Mu{rows:List (List Nat)}(d:oE rows=true):cV rows=true↔∀r s,r<rows.length->s<wd rows->cT rows.length (wd rows) (gv rows) r s=true:=by
 have hw:=Ff d;have c:=d;unfold oE at c;simp only[aT,br] at c;constructor
 .intro h r s b a;show(Kl b a).mpr ((yA h).1.ok r s b a)
 intro h;show i5.drw (R:=rows.length) (S:=wd rows) ⟨rfl,hw.2,λr s b a=>(Kl b a).mp (h r s b a)⟩ c.1.1.1 c.1.1.2 c.1.2
def yK:e8:=λds Q=>∃(rows:List (List Nat))(W:Nat),ds=[fB rows]/\RB rows/\(∀l∈rows,l.length=W)/\W%2=1/\3<=W/\Q (.fz (.bl (cV rows)))
def He:TX:=(cL (fR (dw (cj oEq (cj (oI (λ_ j=>0<j) λi j=>.int (i%j)) (fE ja (cf (bY 0) cp)) (dC (.int 2))) (dC (.int 0)))) (eu (dC (.bl false))) gj)
 (cL (jb (oH (cf (fE ja (cf (bY 0) cp)) cp)) (dh 1) (jb (oH (cf (fE ja (cf (cj d0 (bY 0) (bY 1)) cp)) cp)) (dh 2) (cL (fR (pE (dw (fc 3 Ad (cf (bY 1) (cf (bY 2) (cf (cj d0 (cj d0 (bY 0) (bY 1)) (bY 2)) cp)))))) (eu (dC (.bl false))) gj)
 (cL (fg 3 (jc (cf (kj (cf (bY 1) (cf (cj (jq λi j=>.int (i-j)) (bY 2) (dC (.int 1))) cp))) (cf (kj (cf (bY 1) (cf (cj dZ (bY 2) (dC (.int 1))) cp))) cp))))
 (cL (fR (n8 (dw (cj oEq (cj d0 (cj d0 (bY 0) (bY 1)) (bY 2)) (dC (.str "-")))) (n8 (dw (cj oEq (cj (oI (λ_ j=>0<j) λi j=>.int (i%j)) (bY 2) (dC (.int 2))) (dC (.int 0)))) (pE (dw (fc 3 vn (cf (bY 0) (cf (bY 3) (cf (dC (.str "-+#")) cp)))))))) (eu (dC (.bl false))) gj)
 (cL (fg 3 (jc (cf (kj (cf (cj (jq λi j=>.int (i-j)) (bY 1) (dC (.int 1))) (cf (bY 2) cp))) (cf (kj (cf (cj dZ (bY 1) (dC (.int 1))) (cf (bY 2) cp))) cp))))
 (fR (n8 (dw (cj oEq (cj d0 (cj d0 (bY 0) (bY 1)) (bY 2)) (dC (.str "|")))) (n8 (dw (cj oEq (cj (oI (λ_ j=>0<j) λi j=>.int (i%j)) (bY 1) (dC (.int 2))) (dC (.int 0)))) (pE (dw (fc 3 vn (cf (bY 0) (cf (bY 3) (cf (dC (.str "|+#")) cp)))))))) (eu (dC (.bl false))) gj)))))))
 (eu (dC (.bl true)))))
theorem Xm:iV 1 yK He ["_law_rows_here","_law_r","_law_s","_law_beside"]:=by
 intro ds P hl h;obtain⟨rows,W,rfl,rb,g,K,L,q⟩:=h;show He _ [.fz (fB rows),.un,.un,.un];unfold He fB;have big:=iW;have gG:∀l:List Nat,(cz l).length=l.length:=λl=>by simp[cz,Str.length]
 have R:=rb.len;walk_at"px";rw[ae];by_cases a1:rows.length%2=0
 .rw[if_pos (by ext)];have:cV rows=false:=by unfold cV oE;rw[aG (show ¬rows.length%2=1 by ext)];rfl
  rw[this] at q;show q
 rw[if_neg (by ext)];have h0:0<rows.length:=by ext
 have O:wd rows=W:=by
  unfold wd;cases rows with
  | nil=>simp at h0
  | cons a r=>show g a aA
 subst O;have hf:oE rows=true:=by
  unfold oE;simp only[aT,br,aM];show⟨⟨⟨by ext,K⟩,L⟩,g⟩
 have S:wd rows<=100:=by
  cases rows with
  | nil=>simp at h0
  | cons a r=>show rb.eN a aA
 have u:∀r,r<rows.length->et rows (r:Int)=some (rows.getD r []):=λr d=>by
  rw[lV d,ag,af d];rfl
 have y:∀r,r<rows.length->rows.getD r []∈rows:=λr d=>by
  rw[ag,af d,bg];show aV _
 have at2:∀r s,r<rows.length->s<wd rows->et (rows.getD r []) (s:Int)=some (gv rows r s):=λr s d f=>by
  rw[lV (by rw[g _ (y r d)];show f)];show qp rfl g (by rw[ag,af d];rfl) f
 have sg:∀r s,r<rows.length->s<wd rows->gv rows r s∈eY:=λr s d f=>by
  have:=at2 r s d f;rw[lV (by rw[g _ (y r d)];show f)] at this;show rb.eY _ (y r d) _ (aw this)
 have ll:∀r,r<rows.length->(cz (rows.getD r [])).length<=sizeLine:=λr d=>by rw[gG,g _ (y r d)];ext
 have F:∀(n:Nat),n<1000->∀t:List D->Prop,t ((List.range n).map λ(i:Nat)=>.int (0+i))->-4611686018427387904<=(n:Int)/\(n:Int)<4611686018427387904/\t ((List.range (n:Int).toNat).map λ(i:Nat)=>D.int (0+i)):=λn hn t h=>⟨by ext,by ext,by rw[ba];show h⟩
 have w:∀r s,r<rows.length->s<wd rows->cT rows.length (wd rows) (gv rows) r s=false->P (.fz (.bl false)):=λr s d f I=>by
  have:cV rows=false:=by
   cases e:cV rows with
   | false=>rfl
   | true=>
    rw[(Mu hf).mp e r s d f] at I;cases I
  rw[this] at q;show q
 walk_at"go";show tQ rows.length (λt h=>?_) (λi p=>∃a b c:Sl,(∀r s,r<i->s<wd rows->cT rows.length (wd rows) (gv rows) r s=true)/\p=[.fz (.lst (rows.map λl=>.str (cz l))),a,b,c]) ⟨_,_,_,λr s h=>absurd h (Nat.not_lt_zero _),rfl⟩ ?_ ?_
 .walk_at"px";rw[ae];show F _ (by ext) t h
 .rintro r p d ⟨a,b,c,E,rfl⟩;walk_at"px";show tQ (wd rows) (λt h=>?_) (λj p=>∃b c:Sl,(∀s,s<j->cT rows.length (wd rows) (gv rows) r s=true)/\p=[.fz (.lst (rows.map λl=>.str (cz l))),.fz (.int r),b,c]) ⟨_,_,λs h=>absurd h (Nat.not_lt_zero _),rfl⟩ ?_ ?_
  .walk_at"px";show⟨_,u r d,?_⟩;rw[gG,g _ (y r d)];show⟨by ext,F _ (by ext) t h⟩
  .rintro s p f ⟨b,c,C,rfl⟩;walk_at"px";have zg:et (cz (rows.getD r [])).cps.toList (s:Int)=some (gv rows r s):=by rw[mi];show at2 r s d f
   show⟨_,u r d,ll r d,_,zg,r,s,_,rfl,sg r s d f,?_⟩;cases cN:kD r s (gv rows r s) with
   | false=>show w r s d f (by unfold cT;rw[cN];rfl)
   | true=>
   walk_at"px";walk_at"go";show⟨by ext,by ext,by ext,?_⟩;walk_at"go";show⟨_,u r d,ll r d,_,zg,?_⟩;have fin:(!(decide (gv rows r s=45)&&decide (s%2=0))||uY rows.length (wd rows) (gv rows) r s)=true->(!(decide (gv rows r s=124)&&decide (r%2=0))||tm rows.length (wd rows) (gv rows) r s)=true->∀m,m<s+1->cT rows.length (wd rows) (gv rows) r m=true:=λN M m B=>by
    by_cases e:m=s
    .rw[e];unfold cT;rw[cN,N,M];rfl
    show C m (by ext)
   by_cases v:gv rows r s=45
   .refine qu ((rj (x:=45) (by decide +kernel)).mpr v) ?_;by_cases A:s%2=0
    .rw[if_pos (by ext)];show⟨true,rows.length,wd rows,rows,[((r:Int),(s:Int)-1),((r:Int),(s:Int)+1)],"-+#",lO,rfl,rfl,g,h0,by ext,rb.eY,EE,by simp,?_⟩;cases hb:[((r:Int),(s:Int)-1),((r:Int),(s:Int)+1)].all (iC rows.length (wd rows) (gv rows) lO) with
     | false=>show w r s d f (by unfold cT uY;rw[hb,v,bc A];simp)
     | true=>
      walk_at"px";walk_at"go";show⟨by ext,by ext,by ext,?_⟩;walk_at"go";show⟨_,u r d,ll r d,_,zg,?_⟩;by_cases e3:gv rows r s=124
      .refine qu ((rj (x:=124) (by decide +kernel)).mpr e3) ?_;by_cases o:r%2=0
       .rw[if_pos (by ext)];show⟨true,rows.length,wd rows,rows,[((r:Int)-1,(s:Int)),((r:Int)+1,(s:Int))],"|+#",kN,rfl,rfl,g,h0,by ext,rb.eY,zx,by simp,?_⟩;cases J:[((r:Int)-1,(s:Int)),((r:Int)+1,(s:Int))].all (iC rows.length (wd rows) (gv rows) kN) with
        | false=>show w r s d f (by unfold cT tm;rw[J,e3,bc o];simp)
        | true=>
         walk_at"px";show⟨_,_,fin (by unfold uY;rw[hb,Bool.or_true]) (by unfold tm;rw[J,Bool.or_true]),rfl⟩
       rw[if_neg (by ext)];show⟨_,_,fin (by unfold uY;rw[hb,Bool.or_true]) (by rw[aG o,Bool.and_false];rfl),rfl⟩
      show qw (λz=>e3 ((rj (x:=124) (by decide +kernel)).mp z)) ?_;show⟨_,_,fin (by unfold uY;rw[hb,Bool.or_true]) (by rw[aG e3];rfl),rfl⟩
    rw[if_neg (by ext)];walk_at"go";show⟨by ext,by ext,by ext,?_⟩;walk_at"go";show⟨_,u r d,ll r d,_,zg,?_⟩;by_cases e3:gv rows r s=124
    .refine qu ((rj (x:=124) (by decide +kernel)).mpr e3) ?_;by_cases o:r%2=0
     .rw[if_pos (by ext)];show⟨true,rows.length,wd rows,rows,[((r:Int)-1,(s:Int)),((r:Int)+1,(s:Int))],"|+#",kN,rfl,rfl,g,h0,by ext,rb.eY,zx,by simp,?_⟩;cases hb:[((r:Int)-1,(s:Int)),((r:Int)+1,(s:Int))].all (iC rows.length (wd rows) (gv rows) kN) with
      | false=>show w r s d f (by unfold cT tm;rw[hb,e3,bc o];simp)
      | true=>
       walk_at"px";show⟨_,_,fin (by rw[aG A,Bool.and_false];rfl) (by unfold tm;rw[hb,Bool.or_true]),rfl⟩
     rw[if_neg (by ext)];show⟨_,_,fin (by rw[aG A,Bool.and_false];rfl) (by rw[aG o,Bool.and_false];rfl),rfl⟩
    show qw (λz=>e3 ((rj (x:=124) (by decide +kernel)).mp z)) ?_;show⟨_,_,fin (by rw[aG A,Bool.and_false];rfl) (by rw[aG e3];rfl),rfl⟩
   show qw (λz=>v ((rj (x:=45) (by decide +kernel)).mp z)) ?_;walk_at"go";show⟨by ext,by ext,by ext,?_⟩;walk_at"go";show⟨_,u r d,ll r d,_,zg,?_⟩;by_cases e3:gv rows r s=124
   .refine qu ((rj (x:=124) (by decide +kernel)).mpr e3) ?_;by_cases o:r%2=0
    .rw[if_pos (by ext)];show⟨true,rows.length,wd rows,rows,[((r:Int)-1,(s:Int)),((r:Int)+1,(s:Int))],"|+#",kN,rfl,rfl,g,h0,by ext,rb.eY,zx,by simp,?_⟩;cases hb:[((r:Int)-1,(s:Int)),((r:Int)+1,(s:Int))].all (iC rows.length (wd rows) (gv rows) kN) with
     | false=>show w r s d f (by unfold cT tm;rw[hb,e3,bc o];simp)
     | true=>
      walk_at"px";show⟨_,_,fin (by rw[aG v];rfl) (by unfold tm;rw[hb,Bool.or_true]),rfl⟩
    rw[if_neg (by ext)];show⟨_,_,fin (by rw[aG v];rfl) (by rw[aG o,Bool.and_false];rfl),rfl⟩
   show qw (λz=>e3 ((rj (x:=124) (by decide +kernel)).mp z)) ?_;show⟨_,_,fin (by rw[aG v];rfl) (by rw[aG e3];rfl),rfl⟩
  rintro p ⟨b,c,C,rfl⟩;show⟨_,_,_,λH m Q B=>?_,rfl⟩;by_cases e:H=r
  .rw[e];show C m B
  show E H m (by ext) B
 rintro p ⟨a,b,c,E,rfl⟩;walk_at"go";rw[(Mu hf).mpr E] at q;show q
end Wc
open PySem L2 PyProof.Rows Wc
local macro_rules | `(tactic| walk_at"px")=>`(tactic| (repeat(first | walk_at"b" | simp only[oG,wU,El,B7,CD,yC])))
namespace Wc
open PySem L2 PyProof.Rows
noncomputable def xZ(l:List Nat):List Nat:=(List.range (l.length/2)).map λk=>l.getD (2*k+1) 0
noncomputable def jn(l:List Nat):List Bool:=(xZ l).map λc=>decide (c=124)
theorem Tj(l:List Nat):yj (cz l) (some 1) none 2=cz (xZ l):=by
 unfold yj Builtin.Str.strSliceIndices;rw[gG];have e:sliceRange (max 0 (min (1:Int) (l.length:Int))) (l.length:Int) 2=(List.range (l.length/2)).map λk=>2*k+1:=by
  unfold sliceRange;simp only[show((2:Int)>0)=True from eq_true (by decide),bP];by_cases h:l.length<2
  .by_cases f:l.length=0
   .rw[f];rfl
   have:l.length=1:=by ext
   rw[this];rfl
  rw[show max 0 (min (1:Int) (l.length:Int))=1 by ext,if_pos (by ext),show(((l.length:Int)-1+2-1)/2).toNat=l.length/2 by ext];show List.map_congr_left λk _=>?_
  ext
 have g:∀x:List Nat,(∀i∈x,i<l.length)->x.filterMap (λi=>(cz l).cps[i]?)=x.map λi=>l.getD i 0:=λx=>by
  induction x with
  | nil=>intro _;rfl
  | cons i r b=>
   intro h;have a:=h i aA;have:(cz l).cps[i]?=some (l.getD i 0):=by
    unfold cz;rw[List.getElem?_toArray,af a,ag,af a];rfl
   rw[List.filterMap_cons,this,ao,b λj d=>h j (au _ d)]
 show(⟨((sliceRange (max 0 (min (1:Int) (l.length:Int))) (l.length:Int) 2).filterMap _).toArray⟩:Str)=_
 rw[e,g _ (λi a=>by
  obtain⟨k,c,rfl⟩:=aE.mp a;have:=List.mem_range.mp c;ext),ay]
 rfl
def uo:e8:=λds Q=>∃l:List Nat,ds=[.str (cz l)]/\l.length<=100/\Q (.ow ((jn l).map .bl))
def Hd:TX:=(eu (gY (jZ (El 2 (bY 0) (lr (dC (.int 1))) oz)) [none] (dh 0) iD (cj oEq (bY 0) (dC (.str "|")))))
theorem LZ(l:List Nat):(xZ l).length=l.length/2:=by unfold xZ;simp
theorem vd(l:List Nat):(jn l).length=l.length/2:=by unfold jn;rw[ae,LZ]
theorem Xl:iV 1 uo Hd ["row"]:=by
 intro ds d hl h;obtain⟨l,rfl,hb,q⟩:=h;show Hd _ [.fz (.str (cz l))];unfold Hd;have big:=iW;have ol:=LZ l;walk_at"px";show lD (xZ l) (λc=>.str ⟨#[c]⟩) (λc=>.bl (decide (c=124))) (λe h=>?_) (by ext) (λc b f k=>?_) ?_
 .walk_at"px";rw[Tj,gG,mi];show⟨by ext,h⟩
 .walk_at"px";have:decide ((⟨#[c]⟩:Str)="|")=decide (c=124):=decide_eq_decide.mpr (rj (by decide +kernel));rw[<-this] at k;show k
 unfold jn at q;rw[ay] at q;show q
noncomputable def ub(bs:List Bool):List Nat:=61::bs.flatMap λb=>[if b then 124 else 61,61]
noncomputable def BR(bs:List Bool):Str:=cz (ub bs)
theorem Ti(bs:List Bool):(ub bs).length=1+2*bs.length:=by
 unfold ub;rw[av];induction bs with
 | nil=>rfl
 | cons b r a=>rw[List.flatMap_cons,ax,av];simp only[av,bh] at a ⊢;ext
theorem JU:∀l:List Str,(Txt.join (Str.ofString "") l).cps.toList=(l.map λs=>s.cps.toList).flatten
 | []=>rfl
 | a::l=>by
  rw[Dc];rw[show(Str.ofString "").cps.toList=[] by decide +kernel];simp
noncomputable def tS(b:Bool):Str:=cz [if b then 124 else 61,61]
theorem PH(bs:List Bool):Str.ofString "="++Txt.join (Str.ofString "") (bs.map tS)=BR bs:=by
 rw[<-CC (Txt.join _ _),JU,show Str.ofString "="=cz [61] by decide +kernel,La];unfold BR ub;rw[List.singleton_append,ay,List.flatMap];congr 3
def Ai:e8:=λds Q=>∃bs:List Bool,ds=[.lst (bs.map .bl)]/\bs.length<=100/\Q (.fz (.str (BR bs)))
def Hc:TX:=(eu (cj dZ (dC (.str "=")) (dM "str" oG (dC (.str "")) (cf (gY (jZ (bY 0)) [none] (dh 0) iD (cj dZ (Jh (dw (bY 0)) (dC (.str "|")) (dC (.str "="))) (dC (.str "=")))) cp))))
theorem Xk:iV 1 Ai Hc ["joints"]:=by
 intro ds j hl h;obtain⟨bs,rfl,hb,q⟩:=h;show Hc _ [.fz (.lst (bs.map .bl))];unfold Hc;have big:=iW;walk_at"px";show⟨rfl,?_⟩;show lD bs D.bl (λb=>.str (tS b)) (λm h=>?_) (by ext) (λb hb n k=>?_) ?_
 .walk_at"px";show h
 .walk_at"px";cases b with
  | false=>show⟨by decide +kernel,by rw[show("=":Str)++"="=tS false by decide +kernel];show k⟩
  | true=>show⟨by decide +kernel,by rw[show("|":Str)++"="=tS true by decide +kernel];show k⟩
 rw[show bs.map (λb=>D.str (tS b))=(bs.map tS).map D.str by rw[ay];rfl];have g:(Str.ofString "").length=0:=by decide +kernel
 have f:(Str.ofString "=").length=1:=by decide +kernel
 have e:((bs.map tS).map (·.length)).sum=2*bs.length:=by
  rw[ay];clear q hb hl;induction bs with
  | nil=>rfl
  | cons b r d=>rw[ao,List.sum_cons,d,av,Function.comp_apply,tS,gG];simp only[av,bh];ext
 have i:(Txt.join (Str.ofString "") (bs.map tS)).length=2*bs.length:=by
  have:=congrArg List.length (JU (bs.map tS));have e3:(List.length∘λs:Str=>s.cps.toList)=λs=>s.length:=funext λs=>by simp[Str.length]
  rw[List.length_flatten,ay,e3,e] at this;simpa[Str.length] using this
 walk_at"px";rw[g,ae];show⟨by ext,by rw[f];ext,?_⟩;rw[PH];show q
noncomputable def uX(l:List Nat):Bool:=decide (l.head?=some 61)
theorem UU(l:List Nat):Txt.startswith (cz l) (Str.ofString "=")=uX l:=by
 unfold Txt.startswith Builtin.Str.subAt uX;rw[gG,show(Str.ofString "=").length=1 by decide +kernel,show(Str.ofString "=").cps=#[61] by decide +kernel];cases l with
 | nil=>rfl
 | cons a r=>
  have e:(cz (a::r)).cps.extract 0 (0+1)=#[a]:=by simp[cz]
  rw[e,List.head?_cons,av,bc (show 0+1<=r.length+1 by ext),Bool.true_and];by_cases h:a=61
  .subst h;rfl
  rw[aG λz=>h (aX z)];simpa using h
end Wc
open PySem L2 PyProof.Rows Wc
local macro_rules | `(tactic| walk_at"px")=>`(tactic| (repeat(first | walk_at"b" | simp only[oG,wU,B7,CD,yC,GA])))
namespace Wc
open PySem L2 PyProof.Rows
noncomputable def xY(rows:List (List Nat))(i:Nat):Bool:=uX (rows.getD i [])
noncomputable def qv(rows:List (List Nat))(i:Nat):List Nat:=(List.range' i (rows.length-i)).filter (xY rows)
noncomputable def dQ(rows:List (List Nat)):List Nat:=qv rows 0
theorem PF(rows:List (List Nat)):(rows.zipIdx.filter λp=>uX p.1).map (·.2)=dQ rows:=by
 rw[Gm [] rows,List.filter_map,ay];unfold dQ qv;rw[Nat.sub_zero,List.range_eq_range'];have:((λp:List Nat×Nat=>p.2)∘λi=>(rows.getD i [],i))=id:=rfl;rw[this,List.map_id];rfl
theorem Th{rows:List (List Nat)}{i:Nat}(h:i<rows.length):qv rows i=if xY rows i=true then i::qv rows (i+1) else qv rows (i+1):=by
 unfold qv;rw[show rows.length-i=(rows.length-(i+1))+1 by ext,List.range'_succ,List.filter_cons]
theorem RQ(rows:List (List Nat)):qv rows rows.length=[]:=by unfold qv;simp
theorem yz{rows:List (List Nat)}{i b:Nat}(h:b∈qv rows i):i<=b/\b<rows.length/\xY rows b=true:=by
 unfold qv at h;obtain⟨a,c⟩:=bA.mp h;rw[List.mem_range'_1] at a;show⟨a.1,by ext,c⟩
noncomputable def ic(R:Nat):Nat->List Nat->List (Nat×Nat)
 | a,[]=>[(a,R)]
 | a,b::bs=>(a,b)::ic R (b+1) bs
noncomputable def seg(rows:List (List Nat))(p:Nat×Nat):List (List Nat):=(rows.take p.2).drop p.1
noncomputable def lR(n:Nat):D:=.int (n:Nat)
theorem Mr(R:Nat):∀(a:Nat)(bs:List Nat),ya (lR a::bs.map λb=>lR (b+1)) (bs.map lR++[lR R])=(ic R a bs).map λp=>.tup [lR p.1,lR p.2]
 | a,[]=>rfl
 | a,b::bs=>by
  have:=Mr R (b+1) bs;unfold ya at this ⊢;rw[ao,ao,List.cons_append,List.zipWith_cons_cons,this];rfl
theorem FP(R:Nat):∀(a:Nat)(bs:List Nat),(ic R a bs).length=bs.length+1
 | a,[]=>rfl
 | a,b::bs=>by rw[ic,av,FP R (b+1) bs,av]
def yM:e8:=λds Q=>∃(rows:List (List Nat))(bs:List Nat),ds=[fB rows,.lst (bs.map lR)]/\rows.length<=100/\bs.length<=100/\Q (.ow ((ic rows.length 0 bs).map λp=>fB (seg rows p)))
def Gr:TX:=(cL (fg 2 (cj dZ (jc (cf (dC (.int 0)) cp)) (gY (jZ (bY 1)) [none] (dh 0) iD (cj dZ (bY 0) (dC (.int 1))))))
 (cL (fg 3 (cj dZ (bY 1) (jc (cf (fE ja (cf (bY 0) cp)) cp))))
 (eu (gY (B7 (cf (bY 2) (cf (bY 3) cp))) [none,none,some 0] (kg 2 (fm (dh 0) (fm (dh 1) jG))) iD (ni (bY 2) (lr (bY 0)) (lr (bY 1)))))))
theorem Ww:iV 2 yM Gr ["lines","borders","begins","ends"]:=by
 intro ds i hl h;obtain⟨rows,bs,rfl,f,hb,q⟩:=h;show Gr _ [.fz (fB rows),.fz (.lst (bs.map lR)),.un,.un];unfold Gr fB;have big:=iW;walk_at"px";show⟨by ext,?_⟩;show lD bs lR (λb=>lR (b+1)) (λd h=>?_) (by ext) (λb hb e k=>?_) ?_
 .walk_at"px";show h
 .unfold lR at k ⊢;walk_at"px";rw[show((b+1:Nat):Int)=(b:Int)+1 by ext] at k;show k
 walk_at"px";show⟨by simp only[ae,av,bh];ext,?_⟩;walk_at"go";show⟨by ext,by simp only[ae,av,bh];ext,?_⟩;rw[ae];walk_at"go";have z:=Mr rows.length 0 bs;show lD (ic rows.length 0 bs) (λp=>.tup [lR p.1,lR p.2]) (λp=>fB (seg rows p)) (λd h=>?_) (by rw[FP];ext) (λp g e k=>?_) q
 .walk_at"px";rw[<-z] at h;show h
 unfold lR;walk_at"px";unfold fB seg at k;rw[Me _ (by ext) (by ext),ba,ba];rw[List.drop_take] at k;show k
theorem Mq{α:Type}(f:α->D):∀(a b c:List α),wG (a.map f) (b.map f) (c.map f)=(a.zip (b.zip c)).map λp=>.tup [f p.1,f p.2.1,f p.2.2]
 | [],_,_=>rfl
 | _::_,[],_=>rfl
 | _::_,_::_,[]=>rfl
 | x::a,y::b,z::c=>by
  rw[ao,ao,ao,wG,Mq f a b c];rfl
noncomputable def zf(over row under:List Nat):Bool:=decide (row=ub (jn row))&&(((jn row).zip ((jn over).zip (jn under))).filter (·.1)).all λp=>p.2.1&&p.2.2
def Ac:e8:=λds Q=>∃(over row under:List Nat),ds=[.str (cz over),.str (cz row),.str (cz under)]/\over.length=row.length/\under.length=row.length/\row.length<=100/\Q (.fz (.bl (zf over row under)))
def GI:TX:=(cL (fg 3 (fc 1 uo (cf (bY 1) cp)))
 (cL (fR (dw (cj uC (bY 1) (fc 1 Ai (cf (bY 3) cp)))) (eu (dC (.bl false))) gj)
 (cL (fg 4 (CD (cf (bY 3) (cf (fc 1 uo (cf (bY 0) cp)) (cf (fc 1 uo (cf (bY 2) cp)) cp)))))
 (eu (fE tw (cf (gY (jZ (bY 4)) [none,none,none] (kg 3 (fm (dh 0) (fm (dh 1) (fm (dh 2) jG)))) (dw (bY 0)) (tE (bY 1) (bY 2))) cp))))))
theorem WV:iV 3 Ac GI ["over","row","under","joints","beside"]:=by
 intro ds i hl h;obtain⟨over,row,under,rfl,t,r,g,q⟩:=h;show GI _ [.fz (.str (cz over)),.fz (.str (cz row)),.fz (.str (cz under)),.un,.un];unfold GI;have big:=iW;have n:=vd row;have m:=vd over;have j:=vd under;walk_at"px";show⟨row,rfl,g,?_⟩;walk_at"go";show⟨jn row,rfl,by ext,?_⟩;walk_at"px";have e:(cz row=BR (jn row))↔row=ub (jn row):=by
  unfold BR;constructor
  .intro z;have:=congrArg (λs:Str=>s.cps.toList) z;simpa[cz] using this
  intro z;conv=>lhs;rw[z]
 by_cases c:row=ub (jn row)
 .refine qw (λz=>absurd (e.mpr c) (by simpa using z)) ?_;walk_at"go";show⟨over,rfl,by ext,under,rfl,by ext,?_⟩;show⟨by rw[ae,ae];ext,by rw[ae,ae];ext,?_⟩;rw[Mq];walk_at"go";have f:i (.fz (.bl ((((jn row).zip ((jn over).zip (jn under))).filter (·.1)).all λp=>p.2.1&&p.2.2))):=by
   unfold zf at q;rw[bc c,Bool.true_and] at q;show q
  show Dt ((jn row).zip ((jn over).zip (jn under))) (λp=>.tup [.bl p.1,.bl p.2.1,.bl p.2.2]) (λp=>.bl (p.2.1&&p.2.2)) (·.1) (λu h=>?_) (by simp only[List.length_zip];ext) (λp o v w k1 k0=>?_) (wJ _ _ f)
  .walk_at"px";show h
  walk_at"px";obtain⟨a,b,d⟩:=p;cases a with
  | false=>show k0 rfl
  | true=>
   have:=k1 rfl;cases b<;>cases d<;>show this
 show qu (by simpa using λz=>c (e.mp z)) ?_;unfold zf at q;rw[aG c] at q;show q
noncomputable def jV(rows:List (List Nat)):Bool:=rows.all λl=>decide (l.length=wd rows)
theorem RP{rows:List (List Nat)}{l:List Int}(f:rows≠[])(nd:l.Nodup)(h:∀k,k∈l↔k∈rows.map λr=>((r.length:Nat):Int)):l.length=1↔jV rows=true:=by
 unfold jV;rw[aM];have hd:((wd rows:Nat):Int)∈l:=(h _).mpr (aE.mpr ⟨rows.headD [],yE f,rfl⟩);constructor
 .intro z r c;obtain⟨a,rfl⟩:=List.length_eq_one_iff.mp z;have e:=(h _).mpr (aE.mpr ⟨r,c,rfl⟩);rw[aK] at e hd;have:r.length=wd rows:=by ext
  simpa using this
 intro z;have all:∀k∈l,k=((wd rows:Nat):Int):=λk d=>by
  obtain⟨r,c,rfl⟩:=aE.mp ((h k).mp d);have:=z r c;have:r.length=wd rows:=by simpa using this
  rw[this]
 cases l with
 | nil=>cases hd
 | cons a r=>
  cases r with
  | nil=>rfl
  | cons b r=>
   rw[bj] at nd;show absurd (by rw[all a aA,all b (by simp)];simp) nd.1
noncomputable def wu(rows:List (List Nat))(b:Nat):Bool:=zf (rows.getD (b-1) []) (rows.getD b []) (rows.getD (b+1) [])
def yO:e8:=λds Q=>∃(rows:List (List Nat))(bs:List Nat),ds=[fB rows,.lst (bs.map lR)]/\rows≠[]/\RB rows/\bs.length<=100/\(∀b∈bs,0<b/\b+1<rows.length)/\Q (.fz (.bl (jV rows&&bs.all (wu rows))))
def GO:TX:=(cL (fR (dw (cj uC (fE C3 (cf (gY (jZ (bY 0)) [none] (dh 0) iD (fE ja (cf (bY 0) cp))) cp)) (dC (.int 1)))) (eu (dC (.bl false))) gj)
 (eu (fE tw (cf (gY (jZ (bY 1)) [none,some 0] (dh 0) iD (fc 3 Ac (cf (cj d0 (bY 1) (cj (jq λi j=>.int (i-j)) (bY 0) (dC (.int 1)))) (cf (cj d0 (bY 1) (bY 0)) (cf (cj d0 (bY 1) (cj dZ (bY 0) (dC (.int 1)))) cp))))) cp))))
theorem XD:iV 2 yO GO ["rows","borders"]:=by
 intro ds y hl h;obtain⟨rows,bs,rfl,o,rb,hb,t,q⟩:=h;show GO _ [.fz (fB rows),.fz (.lst (bs.map lR))];unfold GO fB;have big:=iW;have f:=rb.len;walk_at"px";show lD rows (λl=>.str (cz l)) (λl=>.int ((l.length:Nat):Int)) (λu h=>?_) (by ext) (λl hm v k=>?_) ?_
 .walk_at"px";show h
 .have:=rb.eN l hm;walk_at"px";rw[gG];show⟨by ext,k⟩
 have e:rows.map (λl=>D.int ((l.length:Nat):Int))=(rows.map λl=>((l.length:Nat):Int)).map D.int:=by rw[ay];rfl
 rw[e];simp only[yw,C3,GA];show⟨by rw[ae];ext,λl nd hm=>?_⟩;have i:=RP o nd hm;walk_at"px";cases d:jV rows with
 | false=>
  rw[d] at q i;show qu ?_ q;have:¬l.length=1:=λz=>aC (i.mp z)
  have:¬((l.length:Nat):Int)=1:=by ext
  simpa using this
 | true=>
  rw[d,Bool.true_and] at q;show qw ?_ ?_
  .have:((l.length:Nat):Int)=1:=by have:=i.mpr d;ext
   simp[this]
  have wl:∀l∈rows,l.length=wd rows:=λl hl=>by
   unfold jV at d;rw[aM] at d;simpa using d l hl
  have g:∀r,r<rows.length->rows.getD r []∈rows:=λr f=>by
   rw[ag,af f,bg];show aV _
  have j:∀r:Nat,r<rows.length->et rows (r:Int)=some (rows.getD r []):=λr f=>by
   rw[lV f,ag,af f];rfl
  have p:wd rows<=100:=rb.eN _ (yE o);walk_at"go";show lD bs lR (λb=>.bl (wu rows b)) (λu h=>?_) (by ext) (λb s v k=>?_) (wJ bs _ q)
  .walk_at"px";show h
  obtain⟨x,w⟩:=t b s;unfold lR;walk_at"px";have n:=j (b-1) (by ext);have m:=j (b+1) (by ext);rw[show((b-1:Nat):Int)=(b:Int)-1 by ext] at n;rw[show((b+1:Nat):Int)=(b:Int)+1 by ext] at m;show⟨_,n,_,j b (by ext),_,m,rows.getD (b-1) [],rows.getD b [],rows.getD (b+1) [],rfl,?_,?_,?_,k⟩
  .rw[wl _ (g (b-1) (by ext)),wl _ (g b (by ext))]
  .rw[wl _ (g (b+1) (by ext)),wl _ (g b (by ext))]
  rw[wl _ (g b (by ext))];show p
theorem Po(bs:List Bool):∀(k:Nat)(b:Bool),bs[k]?=some b->(bs.flatMap λb=>[if b then 124 else 61,61])[2*k]?=some (if b then 124 else 61)/\(bs.flatMap λb=>[if b then 124 else 61,61])[2*k+1]?=some 61:=by
 induction bs with
 | nil=>intro k b h;simp at h
 | cons a r c=>
  intro k b h;cases k with
  | zero=>
   simp only[bp,aN] at h;subst h;show⟨rfl,rfl⟩
  | succ k=>
   obtain⟨e,d⟩:=c k b (by simpa using h);rw[List.flatMap_cons,show 2*(k+1)=2*k+2 by ext,show 2*k+2+1=2*k+1+2 by ext];show⟨by simpa using e,by simpa using d⟩
theorem wF{l:List Nat}{k:Nat}(h:k<l.length/2):(jn l)[k]?=some (decide (l.getD (2*k+1) 0=124)):=by
 unfold jn xZ;rw[ay,ar,List.getElem?_range h];rfl
theorem Kk{l:List Nat}{s:Nat}(h:s<1+2*(l.length/2)):(ub (jn l))[s]?=some (if s%2=1/\l.getD s 0=124 then 124 else 61):=by
 unfold ub;cases s with
 | zero=>rfl
 | succ s=>
  rw[bN];obtain⟨b,a⟩:=Po (jn l) (s/2) _ (wF (by ext));by_cases e:s%2=0
  .rw[show 2*(s/2)=s by ext] at b;rw[b];by_cases c:l.getD (s+1) 0=124
   .rw[if_pos (bc c),if_pos ⟨by ext,c⟩]
   rw[if_neg (λz=>c (of_decide_eq_true z)),if_neg λz=>c z.2]
  rw[show 2*(s/2)+1=s by ext] at a;rw[a,if_neg (by ext)]
def yi(over row under:List Nat)(s:Nat):Prop:=row.getD s 0=61\/(row.getD s 0=124/\s%2=1/\over.getD s 0=124/\under.getD s 0=124)
theorem Ld{over row under:List Nat}(y:over.length=row.length)(w:under.length=row.length)(u:row.length%2=1):zf over row under=true↔∀s,s<row.length->yi over row under s:=by
 have v:row.length=1+2*(row.length/2):=by ext
 have q:∀s,s<row.length->row[s]?=some (row.getD s 0):=λs n=>by rw[ag,af n];rfl
 unfold zf;rw[aT,br,aM];constructor
 .rintro⟨e,z⟩ s n;have x:=Kk (l:=row) (s:=s) (by ext);rw[<-e,q s n] at x;have x:=aX x;by_cases c:s%2=1/\row.getD s 0=124
  .rw[if_pos c] at x;have o:s/2<row.length/2:=by ext
   have m:(true,(decide (over.getD s 0=124),decide (under.getD s 0=124)))∈((jn row).zip ((jn over).zip (jn under))).filter (·.1):=by
    show bA.mpr ⟨aw (i:=s/2) ?_,rfl⟩;rw[List.getElem?_zip_eq_some,List.getElem?_zip_eq_some];have t:2*(s/2)+1=s:=by ext
    have f:=wF (l:=row) o;have j:=wF (l:=over) (k:=s/2) (by ext);have g:=wF (l:=under) (k:=s/2) (by ext);rw[t] at f j g;rw[bc c.2] at f;show⟨f,j,g⟩
   have:=z _ m;simp only[aT,br] at this;show .inr ⟨c.2,c.1,this.1,this.2⟩
  rw[if_neg c] at x;show .inl x
 intro h;show⟨?_,?_⟩
 .apply List.ext_getElem?;intro s;by_cases n:s<row.length
  .rw[q s n,Kk (by ext)];congr 1
   rcases h s n with z | z
   .rw[if_neg (by ext)];show z
   rw[if_pos ⟨z.2.1,z.1⟩];show z.1
  rw[List.getElem?_eq_none (by ext),List.getElem?_eq_none (by rw[Ti,vd];ext)]
 rintro⟨a,b,d⟩ p;obtain⟨p,ht⟩:=bA.mp p;obtain⟨k,o⟩:=aQ p;rw[List.getElem?_zip_eq_some,List.getElem?_zip_eq_some] at o;obtain⟨f,j,g⟩:=o;simp only at f j g ht;have r:k<row.length/2:=by
  have:=(aj.mp f).1;rwa [vd] at this
 rw[wF r] at f;rw[wF (by ext)] at j g;have c:row.getD (2*k+1) 0=124:=by
  have:=aX f;rw[ht] at this;simpa using this
 rcases h (2*k+1) (by ext) with z | z
 .omega
 rw[<-aX j,<-aX g,bc z.2.2.1,bc z.2.2.2];rfl
theorem FC(R:Nat):∀(bs:List Nat)(a n b:Nat),bs[n]?=some b->(∃c,(ic R a bs)[n]?=some (c,b))/\∃e,(ic R a bs)[n+1]?=some (b+1,e)
 | [],a,n,b,h=>by simp at h
 | x::bs,a,0,b,h=>by
  simp only[bp,aN] at h;subst h;show⟨⟨a,rfl⟩,?_⟩;cases bs with
  | nil=>show⟨R,rfl⟩
  | cons y bs=>show⟨y,rfl⟩
 | x::bs,a,n+1,b,h=>FC R bs (x+1) n b (by simpa using h)
theorem Lc(R:Nat):∀(bs:List Nat)(a:Nat),(∀b∈bs,b<R)->∀p∈ic R a bs,p.2<=R
 | [],a,_,p,d=>by
  have:p=(a,R):=by simpa[ic] using d
  rw[this];show aD _
 | b::bs,a,h,p,d=>by
  rcases az.mp d with rfl | d
  .exact Nat.le_of_lt (h b aA)
  show Lc R bs (b+1) (λc e=>h c (au _ e)) p d
theorem Mp(R:Nat):∀(bs:List Nat)(a:Nat)(ns:List Nat),ns.length=(ic R a bs).length->(∀(i:Nat)(p:Nat×Nat)(n:Nat),(ic R a bs)[i]?=some p->ns[i]?=some n->p.1<p.2/\p.2<=R/\n<=p.2-p.1+7)->ns.sum+4*a<=4*(R+1)
 | [],a,ns,c,h=>by
  obtain⟨n,rfl⟩:=List.length_eq_one_iff.mp c;have:=h 0 (a,R) n rfl rfl;simp only[List.sum_cons,List.sum_nil] at this ⊢;ext
 | b::bs,a,ns,c,h=>by
  cases ns with
  | nil=>simp[ic] at c
  | cons n ns=>
   have h0:=h 0 (a,b) n rfl rfl;have f:=Mp R bs (b+1) ns (by simpa[ic] using c) λi p m e d=>h (i+1) p m (by simpa[ic] using e) (by simpa using d)
   rw[List.sum_cons];simp only at h0;ext
theorem zP{rows:List (List Nat)}{p:Nat×Nat}(h:p.2<=rows.length):(seg rows p).length=p.2-p.1:=by
 unfold seg;rw[List.length_drop,aP,Nat.min_eq_left h]
theorem Kj{rows:List (List Nat)}{p:Nat×Nat}{i:Nat}(h:p.2<=rows.length)(a:i<p.2-p.1):(seg rows p).getD i []=rows.getD (p.1+i) []:=by
 unfold seg;rw[ag,List.getElem?_drop,List.getElem?_take,if_pos (by ext),<-ag]
theorem yy{rows:List (List Nat)}{p:Nat×Nat}{l:List Nat}(h:l∈seg rows p):l∈rows:=List.mem_of_mem_take (List.mem_of_mem_drop h)
theorem Fi{rows:List (List Nat)}(h:cV rows=true):rows≠[]:=λz=>by rw[z] at h;show absurd h (by decide)
theorem Ki{rows:List (List Nat)}(hd:cV rows=true){c:Nat}(e:2*c+1<wd rows):(gv rows 0 (2*c+1)=124->(("top",(c:Int)):fh)∈(endsF rows).map (·.2))/\(gv rows (rows.length-1) (2*c+1)=124->(("bottom",(c:Int)):fh)∈(endsF rows).map (·.2)):=by
 obtain⟨P,d,b,_⟩:=yA hd;rw[FF P d b,ay,aH];have a:c∈List.range (wd rows/2):=List.mem_range.mpr (by ext);show⟨λh=>?_,λh=>?_⟩
 .refine aY _ (aE.mpr ⟨((0,2*c+1,1),("top",(c:Int))),?_,rfl⟩);unfold uu;show List.mem_flatMap.mpr ⟨c,a,bE _ ?_⟩;unfold jD;rw[if_pos h];show aK.mpr rfl
 show aY _ (aE.mpr ⟨((rows.length-1,2*c+1,1),("bottom",(c:Int))),?_,rfl⟩);unfold uu;show List.mem_flatMap.mpr ⟨c,a,aY _ ?_⟩;unfold jD;rw[if_pos h];show aK.mpr rfl
theorem Pz{rows:List (List Nat)}(hd:cV rows=true)(hw:wd rows<=10):(endsF rows).length<=rows.length+7:=by
 obtain⟨P,b,a,_⟩:=yA hd;rw[FF P b a,ae,ax];have d:=C8 (λk=>gv rows (2*k+1) 0=45) (λk=>gv rows (2*k+1) (wd rows-1)=45) (λk=>(((2*k+1,0,0),("left",((k:Nat):Int))):N3×fh)) (λk=>((2*k+1,wd rows-1,0),("right",((k:Nat):Int)))) (rows.length/2);have c:=C8 (λk=>gv rows 0 (2*k+1)=124) (λk=>gv rows (rows.length-1) (2*k+1)=124) (λk=>(((0,2*k+1,1),("top",((k:Nat):Int))):N3×fh)) (λk=>((rows.length-1,2*k+1,1),("bottom",((k:Nat):Int)))) (wd rows/2);unfold xo uu;ext
theorem Kh{n m:Nat}{a b:fh}(h:e3 n a=e3 m b):n=m/\a=b:=by
 unfold e3 at h;simp only[List.cons.injEq,Sum.inl.injEq,Sum.inr.injEq,and_true] at h;show⟨by ext,Prod.ext h.2.1 h.2.2⟩
theorem Dk(n:Nat):∀(p:Nat)(a:List (List fh)),(lU n p a).map (·.2)=a.flatten.map (e3 n)
 | p,[]=>rfl
 | p,g::r=>by
  rw[lU,aH,Dk n (p+1) r,ay,List.flatten_cons,aH];rfl
theorem Mo:∀(k:Nat)(b:List (List (List fh))),(∀c∈b,c.flatten.Nodup)->((hU k b).map (·.2)).Nodup/\∀x∈(hU k b).map (·.2),∃n e,x=e3 n e/\k<=n
 | k,[],_=>⟨by simp[hU],by simp[hU]⟩
 | k,c::r,h=>by
  obtain⟨i,d⟩:=Mo (k+1) r λg hg=>h g (au _ hg)
  rw[hU,aH,Dk];show⟨List.nodup_append.mpr ⟨?_,i,λx a y f z=>?_⟩,λx a=>?_⟩
  .have:=h c aA;rw[bu] at this ⊢;rw[List.pairwise_map];show this.imp λh z=>h (Kh z).2
  .obtain⟨e,_,rfl⟩:=aE.mp a;obtain⟨n,j,rfl,hn⟩:=d y f;have:=(Kh z).1;ext
  rcases aJ.mp a with a | a
  .obtain⟨e,_,rfl⟩:=aE.mp a;show⟨k,e,rfl,aD _⟩
  obtain⟨n,e,z,hn⟩:=d x a;show⟨n,e,z,by ext⟩
theorem Mt:∀(k:Nat)(a:List (List (List fh))),(hU k a).length=(a.map λg=>g.flatten.length).sum
 | k,[]=>rfl
 | k,b::r=>by
  have:=congrArg List.length (Dk k 0 b);rw[ae,ae] at this;rw[hU,ax,Mt (k+1) r,this,ao,List.sum_cons]
theorem Gh:∀(k:Nat)(d:List (List (List fh)))(n:Nat)(c:List (List fh))(e:fh),d[n]?=some c->e∈c.flatten->∃a,(a,e3 (k+n) e)∈hU k d
 | k,[],n,c,e,h,_=>by simp at h
 | k,g::r,0,c,e,h,he=>by
  simp only[bp,aN] at h;subst h;have:e3 k e∈(lU k 0 g).map (·.2):=by rw[Dk];show List.mem_map_of_mem he
  obtain⟨⟨a,b⟩,f,rfl⟩:=aE.mp this;show⟨a,bE _ f⟩
 | k,g::r,n+1,c,e,h,he=>by
  obtain⟨a,ha⟩:=Gh (k+1) r n c e (by simpa using h) he;rw[show k+1+n=k+(n+1) by ext] at ha;show⟨a,aY _ ha⟩
theorem M6(P:EK->EK)(K:Nat):∀(n:Nat)(bs:List (List Bool)),(∀a∈bs,a.length<=K)->(mX P n bs).length<=bs.length*K
 | n,[],_=>by simp[mX]
 | n,a::r,h=>by
  have d:=M6 P K (n+1) r λj b=>h j (au _ b)
  have c:=h a aA;rw[mX,ax,ae,av,Nat.succ_mul];have:(rf a).length<=a.length:=by
   unfold rf;rw[ae];show aR (List.length_filter_le _ _) (by rw[bU];show aD _)
  ext
theorem Tg{a:List Bool}{c:Nat}(h:c∈rf a):a[c]?=some true:=by
 unfold rf at h;obtain⟨⟨b,i⟩,e,rfl⟩:=aE.mp h;obtain⟨f,d⟩:=bA.mp e;have:=List.mem_zipIdx_iff_getElem?.mp f;simp only at this d ⊢;rw[this,d]
end Wc
open PySem L2 PyProof.Rows Wc
local macro_rules | `(tactic| walk_at"px")=>`(tactic| (repeat(first | walk_at"b" | simp only[tI,yC,oG,wU,Fs,zF])))
namespace Wc
open PySem L2 PyProof.Rows
theorem UT{α β:Type}{t:kd}{m:List (Option Nat)}{g:jI}{te:TD}{k:Ev}{Q:R->Prop}(L:List α)(s:α->D)(c:β->D)(P:α->β->Prop)(a:α->Prop)(hw:∀u:List D->Prop,u (L.map s)->t k u)(I:L.length<=sizeLine)
  (h:∀x∈L,∀v:D->Prop,(a x->∀y,P x y->v (c y))->g (s x) (gW m k) λE=>te E λr=>v r.val)
  (q:(∀x∈L,a x)->∀ys:List β,ys.length=L.length->(∀(i:Nat) x y,L[i]?=some x->ys[i]?=some y->P x y)->Q (.ow (ys.map c))):gY t m g iD te k Q:=by
 unfold gY;show hw _ ⟨λi acc=>i<=L.length/\(∀x∈L.take i,a x)/\∃ys:List β,ys.length=i/\(∀(j:Nat) x y,L[j]?=some x->ys[j]?=some y->P x y)/\acc=ys.map c,⟨a9 _,by simp,[],rfl,by simp,rfl⟩,λi d acc hd ha=>?_,λacc ha=>?_⟩
 .obtain⟨H,ha,ys,f,o,rfl⟩:=ha;rw[ar] at hd;cases e:L[i]? with
  | none=>rw[e] at hd;cases hd
  | some x=>
   rw[e] at hd;cases hd;have F:i<L.length:=(aj.mp e).1;have tk:L.take (i+1)=L.take i++[x]:=by rw[bo,e];rfl
   have:=h x (aw e) (λd=>(ys.map c).length<sizeLine/\i+1<=L.length/\(∀x∈L.take (i+1),a x)/\∃n:List β,n.length=i+1/\(∀(j:Nat) x y,L[j]?=some x->n[j]?=some y->P x y)/\ys.map c++[d]=n.map c) λg1 y B=>⟨by rw[ae];ext,F,λz hz=>?_,ys++[y],by simp[f],λj A w p b=>?_,by simp⟩
   .simpa[iD] using this
   .rw[tk] at hz;rcases aJ.mp hz with l | l
    .exact ha z l
    rw[aK.mp l];show g1
   by_cases C:j<ys.length
   .rw[List.getElem?_append_left C] at b;show o j A w p b
   rw[List.getElem?_append_right (by ext)] at b;have G:j=i:=by
    have:=(aj.mp b).1;simp only[av,bh] at this;ext
   subst G;rw[f,Nat.sub_self] at b;simp only[bp,aN] at b;subst b;rw[e] at p;cases p;show B
 obtain⟨_,ha,ys,f,o,rfl⟩:=ha;rw[ae] at ha f;rw[bI] at ha;show q ha ys f o
theorem Ms(rows:List (List Nat))(h:∀a∈rows,10∉a):Txt.split (Txt.join "\n" (rows.map cz)) "\n"=(if rows=[] then [[]] else rows).map cz:=by
 have b:(rows.map cz).map (λs=>s.cps.toList)=rows:=by
  rw[ay];have:(λs:Str=>s.cps.toList)∘cz=id:=funext λl=>by simp[cz]
  rw[this,List.map_id]
 have c:(Txt.join "\n" (rows.map cz)).cps.toList=og 10 rows:=by rw[zz,z0,b]
 have:=Mv (Txt.join "\n" (rows.map cz)) 10;rw[c,<-zz] at this;have d:cz∘(λs:Str=>s.cps.toList)=id:=funext λs=>CC s
 have t:=congrArg (List.map cz) this;rw[ay,d,List.map_id] at t;rw[t];by_cases e:rows=[]
 .subst e;rfl
 rw[if_neg e,Dl 10 rows e h]
theorem Mn{rows:List (List Nat)}{k:Nat}(h:∀a∈rows,a.length<=k):(Txt.join "\n" (rows.map cz)).length<=rows.length*(k+1)/\((rows.map cz).map (λx=>x.length)).sum<=rows.length*k:=by
 have c:(rows.map cz).map (λs=>s.cps.toList)=rows:=by
  rw[ay];have:(λs:Str=>s.cps.toList)∘cz=id:=funext λl=>by simp[cz]
  rw[this,List.map_id]
 have d:(Txt.join "\n" (rows.map cz)).cps.toList=og 10 rows:=by rw[zz,z0,c]
 show⟨?_,?_⟩
 .have:(Txt.join "\n" (rows.map cz)).length=(og 10 rows).length:=by rw[<-d];simp[Str.length]
  rw[this];show Gi 10 k rows h
 rw[ay];clear c d;induction rows with
 | nil=>simp
 | cons a r e=>
  rw[ao,List.sum_cons,av,Nat.succ_mul];have:=e λb hb=>h b (au _ hb)
  have f:=h a aA;have:=gG a;simp only[Function.comp_apply];ext
noncomputable def oJ(rows:List (List Nat)):Bool:=((ic rows.length 0 (dQ rows)).all λp=>cV (seg rows p))&&(jV rows&&(dQ rows).all (wu rows))
structure B3(rows:List (List Nat)):Prop where
 ne:rows≠[]
 len:rows.length<=12
 eN:∀l∈rows,l.length<=10
 eY:∀l∈rows,∀c∈l,c∈Wc.eY
theorem B3.rb{rows:List (List Nat)}(F:B3 rows):RB rows:=⟨aR F.len (by decide),λl a=>aR (F.eN l a) (by decide),F.eY⟩
theorem EG{rows:List (List Nat)}{k:Nat}(h:∀l∈rows,l.length<=k):wd rows<=k:=by
 unfold wd;cases rows with
 | nil=>show a9 _
 | cons a r=>show h a aA
theorem Kg{rows:List (List Nat)}(h:∀p∈ic rows.length 0 (dQ rows),cV (seg rows p)=true):(∀p∈ic rows.length 0 (dQ rows),p.1<p.2/\p.2<=rows.length)/\∀b∈dQ rows,0<b/\b+1<rows.length:=by
 have f:=Lc rows.length (dQ rows) 0 λb hb=>(yz hb).2.1
 have d:∀p∈ic rows.length 0 (dQ rows),p.1<p.2/\p.2<=rows.length:=λp c=>by
  have:=List.length_pos_iff.mpr (Fi (h p c));rw[zP (f p c)] at this;show⟨by ext,f p c⟩
 show⟨d,λb hb=>?_⟩;obtain⟨n,hn⟩:=aQ hb;obtain⟨⟨a,ha⟩,e,he⟩:=FC rows.length (dQ rows) 0 n b hn;have i:=d _ (aw ha);have g:=d _ (aw he);simp only at i g;ext
noncomputable def OF(a:List (List EK)):R:=.ov (.ll (a.map λg=>g.map de))
def Aa:uS:=λds c b=>∃(t:Str)(rows:List (List Nat)),ds=[.str t]/\B3 rows/\Txt.split t "\n"=rows.map cz/\t.length<10000/\(oJ rows=true->∀a:List (List EK),c (OF a))/\(oJ rows=false->b)
def Dv(a:Prop):TX:=(cL (fg 1 (dM "str" tI (bY 0) (cf (dC (.str "\n")) cp)))
 (cL (fg 2 (gY (rP (cf (bY 1) cp)) [none,none] (kg 2 (fm (dh 0) (fm (dh 1) jG))) (dw (dM "str" yC (bY 1) (cf (dC (.str "=")) cp))) (bY 0)))
 (cL (fg 3 (gY (jZ (fc 2 yM (cf (bY 1) (cf (bY 2) cp)))) [none] (dh 0) iD (Fs 1 zZ a (cf (dM "str" oG (dC (.str "\n")) (cf (bY 0) cp)) cp))))
 (cL (fR (pE (dw (fc 2 yO (cf (bY 1) (cf (bY 2) cp))))) (zF a (dC (.str "the text is no pile's drawing"))) gj)
 (eu (fc 2 yQ (cf (bY 3) (cf (gY (jZ (bY 2)) [none,some 1] (dh 0) iD (fc 1 uo (cf (cj d0 (bY 1) (bY 0)) cp))) cp))))))))
theorem zev(ds:List D)(L:R->Prop)(I:Prop)(hl:ds.length=1)(h:Aa ds L I):Dv I { nx:=λ_=>L (.fz .non),rt:=L } (tJ ["text","rows","borders","groups"] ds):=by
 obtain⟨t,rows,rfl,F,ht,htl,q,Q⟩:=h;show Dv I _ [.fz (.str t),.un,.un,.un];unfold Dv;have big:=iW;have rl:=F.len;have eR:D.lst ((rows.map cz).map D.str)=fB rows:=by rw[ay];rfl
 walk_at"px";show⟨rfl,by decide,by ext,?_⟩;rw[ht,eR];unfold fB;walk_at"go";show Dt rows.zipIdx (λp=>.tup [.int (p.2:Nat),.str (cz p.1)]) (λp=>.int (p.2:Nat)) (λp=>uX p.1) (λY h=>?_) (by rw[bU];ext) (λp j M K0 k1 k0=>?_) ?_
 .walk_at"px";rw[Md];show h
 .walk_at"px";rw[UU];cases hb:uX p.1 with
  | true=>show⟨rfl,k1 hb⟩
  | false=>show⟨rfl,k0 hb⟩
 rw[show(rows.zipIdx.filter λp=>uX p.1).map (λp=>D.int (p.2:Nat))=(dQ rows).map lR by rw[<-PF,ay];rfl];have bl:(dQ rows).length<=12:=by
  unfold dQ qv;show aR (List.length_filter_le _ _) ?_;rw[List.length_range'];ext
 have bad:∀p∈ic rows.length 0 (dQ rows),cV (seg rows p)=false->I:=λp j hd=>by
  show Q ?_;unfold oJ;rw[List.all_eq_false.mpr ⟨p,j,by rw[hd];show aC⟩,Bool.false_and]
 walk_at"go";show UT (ic rows.length 0 (dQ rows)) (λp=>fB (seg rows p)) t6 (λp f=>f.flatten.Perm ((endsF (seg rows p)).map (·.2))) (λp=>cV (seg rows p)=true) (λY h=>?_) (by rw[FP];ext) (λp j M k1=>?_) λgood s gl hg=>?_
 .walk_at"px";show⟨rows,dQ rows,rfl,by ext,by ext,h⟩
 .have sub:∀l∈seg rows p,l∈rows:=λl hl=>yy hl
  have sl:(seg rows p).length<=12:=by
   unfold seg;rw[List.length_drop,aP];ext
  have U:=bad p j;generalize seg rows p=part at *;unfold fB;rw[show part.map (λl=>D.str (cz l))=(part.map cz).map D.str by rw[ay];rfl];walk_at"px";have jl:=Mn (rows:=part) (k:=10) λa ha=>F.eN a (sub a ha)
  show⟨rfl,by rw[ae,show(Str.ofString "\n").length=1 by decide +kernel];ext,?_⟩;have B:=Ms part λa ha BI=>by
   have:=F.eY a (sub a ha) 10 BI;revert this
   decide
  show⟨_,(if part=[] then [[]] else part),rfl,?_,λhd=>?_,λhd=>?_⟩
  .by_cases e:part=[]
   .rw[if_pos e] at B ⊢;show⟨by simp,⟨by simp,by simp,by simp⟩,B,by ext,by simp,by decide,λz=>absurd z (by decide)⟩
   rw[if_neg e] at B ⊢;have w:=EG λl hl=>F.eN l (sub l hl)
   show⟨e,⟨by ext,λl hl=>aR (F.eN l (sub l hl)) (by decide),λl hl=>F.eY l (sub l hl)⟩,B,by ext,by ext,by ext,λhd=>Le hd (by ext)⟩
  .by_cases e:part=[]
   .rw[if_pos e] at hd;show absurd hd (by decide)
   rw[if_neg e] at hd ⊢;intro f Ie;have:=k1 hd f Ie;unfold t6 at this;show M (D.lst ((f.map λg=>g.map qi).map D.lst));rw[ay];show this
  by_cases e:part=[]
  .exact U (by rw[e];decide)
  rw[if_neg e] at hd;show U hd
 obtain⟨sin,bin⟩:=Kg good;walk_at"px";walk_at"go";show⟨rows,dQ rows,rfl,F.ne,F.rb,by ext,bin,?_⟩;cases hb:(jV rows&&(dQ rows).all (wu rows)) with
 | false=>
  walk_at"px";show Q (by unfold oJ;rw[hb,Bool.and_false])
 | true=>
  rw[aT] at hb;obtain⟨H,hb⟩:=hb;have ok:oJ rows=true:=by
   unfold oJ;rw[H,hb,aM.mpr good];rfl
  have wl:∀l∈rows,l.length=wd rows:=λl hl=>by
   unfold jV at H;rw[aM] at H;simpa using H l hl
  have Nw:=EG F.eN;have m:∀r,r<rows.length->rows.getD r []∈rows:=λr C=>by
   rw[ag,af C,bg];show aV _
  have iZ:∀r:Nat,r<rows.length->et rows (r:Int)=some (rows.getD r []):=λr C=>by
   rw[lV C,ag,af C];rfl
  have A:∀p∈ic rows.length 0 (dQ rows),wd (seg rows p)=wd rows:=λp j=>by
   have ne:=Fi (good p j);show((seg rows p).headD []).length=_;show wl _ (yy (yE ne))
  walk_at"px";walk_at"go";show lD (dQ rows) lR (λb=>uR (jn (rows.getD b []))) (λY h=>?_) (by ext) (λb o M k=>?_) ?_
  .walk_at"px";show h
  .have W:=(yz o).2.1;unfold lR;walk_at"px";show⟨_,iZ b W,rows.getD b [],rfl,by rw[wl _ (m b W)];ext,k⟩
  have NI:∀f∈s,∃p∈ic rows.length 0 (dQ rows),f.flatten.Perm ((endsF (seg rows p)).map (·.2)):=λf hm=>by
   obtain⟨i,y⟩:=aQ hm;have u:=(aj.mp y).1;rw[gl] at u;show⟨_,aV u,hg i _ _ (af u) y⟩
  have rF:∀p∈ic rows.length 0 (dQ rows),(endsF (seg rows p)).length<=p.2-p.1+7/\((endsF (seg rows p)).map (·.2)).Nodup:=λp j=>by
   have d:=good p j;have l1:=zP (sin p j).2;have S:=Pz d (by rw[A p j];show Nw);have l3:=(sin p j).2;rw[l1] at S;show⟨S,(Le d (by rw[A p j];ext)).2⟩
  have yR:(hU 0 s).length<64:=by
   have:=Mp rows.length (dQ rows) 0 (s.map λg=>g.flatten.length) (by rw[ae];show gl) λi p n E K=>by
    rw[ar] at K;obtain⟨f,V,rfl⟩:=aZ.mp K;have hm:=aw E;have:=(hg i p f E V).length_eq;rw[ae] at this;show⟨(sin p hm).1,(sin p hm).2,by rw[this];show(rF p hm).1⟩
   rw[Mt];ext
  show⟨s,(dQ rows).map λb=>jn (rows.getD b []),by rw[ay];rfl,λf hm g ZR=>?_,yR,(Mo 0 s λf hm=>?_).1,λT v=>?_,?_,λn T hn c hc=>?_,λf _=>q ok f⟩
  .obtain⟨p,j,N⟩:=NI f hm;have E:=N.length_eq;rw[ae] at E;have K:=(rF p j).1;have V:=(sin p j).2;have h4:g.length<=f.flatten.length:=(List.sublist_flatten_of_mem ZR).length_le;ext
  .obtain⟨p,j,N⟩:=NI f hm;show N.nodup_iff.mpr (rF p j).2
  .obtain⟨b,o,rfl⟩:=aE.mp v;rw[vd,wl _ (m b (yz o).2.1)];ext
  .refine aR (M6 _ 5 0 _ λT v=>?_) (by rw[ae];ext);obtain⟨b,o,rfl⟩:=aE.mp v;rw[vd,wl _ (m b (yz o).2.1)];ext
  rw[ar] at hn;obtain⟨b,Z,rfl⟩:=aZ.mp hn;have o:=aw Z;obtain⟨b0,b1⟩:=bin b o;obtain⟨⟨a,ha⟩,e,he⟩:=FC rows.length (dQ rows) 0 n b Z;have x:=aw ha;have J:=aw he;have v:=Tg hc;have cl:=(aj.mp v).1;rw[vd,wl _ (m b (by ext))] at cl;rw[wF (by rw[wl _ (m b (by ext))];show cl)] at v;have X:(rows.getD b []).getD (2*c+1) 0=124:=by simpa using v
  have odd:wd rows%2=1:=by
   have:=(yA (good _ x)).2.2.1;rwa [A _ x] at this
  have cell:=(Ld (by rw[wl _ (m (b-1) (by ext)),wl _ (m b (by ext))]) (by rw[wl _ (m (b+1) (by ext)),wl _ (m b (by ext))]) (by rw[wl _ (m b (by ext))];show odd)).mp (aM.mp hb b o) (2*c+1) (by rw[wl _ (m b (by ext))];ext);have cell:(rows.getD (b-1) []).getD (2*c+1) 0=124/\(rows.getD (b+1) []).getD (2*c+1) 0=124:=by
   rcases cell with z | z
   .omega
   show z.2.2
  have sa:=sin _ x;have P:=sin _ J;simp only at sa P;have O:∀(i:Nat) p,(ic rows.length 0 (dQ rows))[i]?=some p->∃f,s[i]?=some f/\f.flatten.Perm ((endsF (seg rows p)).map (·.2)):=λi p y=>by
   have u:=(aj.mp y).1;rw[<-gl] at u;show⟨_,af u,hg i p _ y (af u)⟩
  show⟨?_,?_⟩
  .obtain⟨f,g1,g2⟩:=O n _ ha
   have:=(Ki (good _ x) (c:=c) (by rw[A _ x];ext)).2 (by
    unfold gv;rw[zP sa.2,Kj sa.2 (by simp only;ext)];simp only;rw[show a+(b-a-1)=b-1 by ext];show cell.1)
   have:=Gh 0 s n f _ g1 (g2.symm.subset this);rwa [Nat.zero_add] at this
  obtain⟨f,g1,g2⟩:=O (n+1) _ he
  have:=(Ki (good _ J) (c:=c) (by rw[A _ J];ext)).1 (by
   unfold gv;rw[Kj P.2 (by simp only;ext)];show cell.2)
  have:=Gh 0 s (n+1) f _ g1 (g2.symm.subset this);rwa [Nat.zero_add] at this
end Wc
open PySem L2 PyProof.Rows Wc
local macro_rules | `(tactic| walk_at"px")=>`(tactic| (repeat(first | walk_at"b" | simp only[zq])))
namespace Wc
open PySem L2 PyProof.Rows
theorem C6{rows:List (List Nat)}(h:oJ rows=true):(∀p∈ic rows.length 0 (dQ rows),cV (seg rows p)=true)/\(∀l∈rows,l.length=wd rows)/\∀b∈dQ rows,wu rows b=true:=by
 unfold oJ jV at h;simp only[aT,aM,br] at h;show⟨h.1,h.2.1,h.2.2⟩
theorem RO(R a:Nat)(bs:List Nat):ic R a bs≠[]:=by cases bs<;>simp[ic]
theorem Kf{rows:List (List Nat)}(h:oJ rows=true):wd rows%2=1/\3<=wd rows:=by
 obtain⟨b,a,_⟩:=C6 h;obtain⟨p,r,e⟩:=List.exists_cons_of_ne_nil (RO rows.length 0 (dQ rows));have d:=b p (by rw[e];show aA);obtain⟨_,_,o,w⟩:=yA d;have:wd (seg rows p)=wd rows:=by
  show((seg rows p).headD []).length=_;show a _ (yy (yE (Fi d)))
 rw[this] at o w;show⟨o,w⟩
theorem Tf{rows:List (List Nat)}{a i:Nat}(ha:a<=i)(b:i<rows.length):seg rows (a,i+1)=seg rows (a,i)++[rows.getD i []]:=by
 unfold seg;simp only;rw[bo,af b,List.drop_append_of_le_length (by rw[aP];ext),ag,af b];rfl
theorem pN{rows:List (List Nat)}{a:Nat}:seg rows (a,a)=[]:=by
 unfold seg;show List.drop_eq_nil_of_le (by rw[aP];ext)
noncomputable def Eb(l:List Nat):D:=.str (cz l)
def Ah:e8:=λds Q=>∃(rows:List (List Nat)),ds=[fB rows]/\B3 rows/\Q (.fz (.bl (oJ rows)))
def Hb:TX:=(cL (fg 1 (fE ja (cf (cj d0 (bY 0) (dC (.int 0))) cp)))
 (cL (fR (vZ (dw (cj oEq (cj (oI (λ_ j=>0<j) λi j=>.int (i%j)) (bY 1) (dC (.int 2))) (dC (.int 0)))) (dw (cj (jq λi j=>.bl (decide (i<j))) (bY 1) (dC (.int 3))))) (eu (dC (.bl false))) gj)
 (cL (fR (dw (fE zq (cf (gY (jZ (bY 0)) [none,some 1] (dh 0) iD (cj uC (fE ja (cf (bY 0) cp)) (bY 1))) cp))) (eu (dC (.bl false))) gj)
 (cL (mT 2 (jc cp))
 (cL (jb (oH (cf (cj dZ (fE ja (cf (bY 0) cp)) (dC (.int 1))) cp)) (dh 3) (fR (vZ (dw (cj oEq (bY 3) (fE ja (cf (bY 0) cp)))) (dw (cj oEq (cj d0 (cj d0 (bY 0) (bY 3)) (dC (.int 0))) (dC (.str "="))))) (cL (fR (pE (dw (ye 2 (fc 1 yK (cf (bY 2) cp))))) (eu (dC (.bl false))) gj)
 (mT 2 (jc cp))) (uf 2 (cj d0 (bY 0) (bY 3)))))
 (cL (jb (oH (cf (fE ja (cf (bY 0) cp)) cp)) (dh 3) (jb (oH (cf (bY 1) cp)) (dh 4) (fR (n8 (dw (cj oEq (cj d0 (cj d0 (bY 0) (bY 3)) (dC (.int 0))) (dC (.str "=")))) (dw (cj uC (cj d0 (cj d0 (bY 0) (bY 3)) (bY 4)) (dC (.str "="))))) (cL (fR (vZ (dw (cj uC (cj d0 (cj d0 (bY 0) (bY 3)) (bY 4)) (dC (.str "|")))) (dw (cj oEq (cj (oI (λ_ j=>0<j) λi j=>.int (i%j)) (bY 4) (dC (.int 2))) (dC (.int 0))))) (eu (dC (.bl false))) gj)
 (fR (vZ (dw (cj uC (cj d0 (cj d0 (bY 0) (cj (jq λi j=>.int (i-j)) (bY 3) (dC (.int 1)))) (bY 4)) (dC (.str "|")))) (dw (cj uC (cj d0 (cj d0 (bY 0) (cj dZ (bY 3) (dC (.int 1)))) (bY 4)) (dC (.str "|"))))) (eu (dC (.bl false))) gj)) gj)))
 (eu (dC (.bl true)))))))))
theorem Xj:iV 1 Ah Hb ["_law_rows_here","_law_width","_law_part","_law_at","_law_s"]:=by
 intro ds P hl h;obtain⟨rows,rfl,F,q⟩:=h;show Hb _ [.fz (fB rows),.un,.un,.un,.un];unfold Hb fB;have big:=iW;have rl:=F.len;have rb:=F.rb;have h0:0<rows.length:=List.length_pos_iff.mpr F.ne;have Nw:=EG F.eN;have bad:(oJ rows=true->False)->P (.fz (.bl false)):=λz=>by
  have:oJ rows=false:=by
   cases e:oJ rows with
   | false=>rfl
   | true=>show(z e).elim
  rw[this] at q;show q
 have H:∀r,r<rows.length->rows.getD r []∈rows:=λr m=>by
  rw[ag,af m,bg];show aV _
 have w:∀r:Nat,r<rows.length->et rows (r:Int)=some (rows.getD r []):=λr m=>by
  rw[lV m,ag,af m];rfl
 have Zf:(rows.getD 0 []).length=wd rows:=by
  unfold wd;cases rows with
  | nil=>rfl
  | cons a r=>rfl
 walk_at"px";show⟨_,w 0 h0,?_⟩;rw[gG,Zf];show⟨by ext,?_⟩;walk_at"go";by_cases a1:wd rows%2=0
 .rw[if_pos (by ext)];show bad λz=>by have:=(Kf z).1;ext
 rw[if_neg (by ext)];by_cases a2:wd rows<3
 .rw[if_pos (by ext)];show bad λz=>by have:=(Kf z).2;ext
 rw[if_neg (by ext)];walk_at"go";show lD rows (λl=>.str (cz l)) (λl=>.bl (decide (l.length≠wd rows))) (λv h=>?_) (by ext) (λl hm K1 k1=>?_) ?_
 .walk_at"px";show h
 .have e:(!decide (((cz l).length:Int)=(wd rows:Int)))=decide (l.length≠wd rows):=by
   rw[gG];by_cases z:l.length=wd rows
   .simp[z]
   have:¬((l.length:Int)=(wd rows:Int)):=by ext
   simp[z,this]
  have:=F.eN l hm;walk_at"px";rw[e];show⟨by rw[gG];ext,k1⟩
 walk_at"px";have eb:rows.map (λl=>D.bl (decide (l.length≠wd rows)))=(rows.map λl=>decide (l.length≠wd rows)).map D.bl:=by rw[ay];rfl
 rw[eb,My];by_cases o:∀l∈rows,l.length=wd rows
 .refine qw (λz=>?_) ?_
  .rw[List.any_map,List.any_eq_true] at z;obtain⟨l,T,hz⟩:=z;have:=o l T;simp[this] at hz
  have ll:∀r,r<rows.length->(cz (rows.getD r [])).length<=sizeLine:=λr m=>by rw[gG,o _ (H r m)];ext
  have at2:∀r s:Nat,r<rows.length->s<wd rows->et (cz (rows.getD r [])).cps.toList (s:Int)=some (gv rows r s):=λr s m f=>by
   rw[mi,lV (by rw[o _ (H r m)];show f)];show qp rfl o (by rw[ag,af m];rfl) f
  have S:∀r,r<rows.length->xY rows r=decide (gv rows r 0=61):=λr m=>by
   have:=at2 r 0 m (by ext);rw[mi,lV (by rw[o _ (H r m)];ext)] at this;unfold xY uX;rw[List.head?_eq_getElem?,this];show decide_eq_decide.mpr ⟨λz=>aX z,λz=>by rw[z]⟩
  have B:∀c:Nat,((⟨#[c]⟩:Str)="=")↔c=61:=λc=>rj (by decide +kernel)
  have E:∀c:Nat,((⟨#[c]⟩:Str)="|")↔c=124:=λc=>rj (by decide +kernel)
  walk_at"go";show⟨a9 _,?_⟩;walk_at"go";show tQ (rows.length+1) (λv h=>?_) (λi t=>∃(s3:Sl)(part:List (List Nat)),((i<=rows.length/\∃a ds,a<=i/\part=seg rows (a,i)/\ic rows.length 0 (dQ rows)=ds++ic rows.length a (qv rows i)/\∀p∈ds,cV (seg rows p)=true)\/(i=rows.length+1/\∀p∈ic rows.length 0 (dQ rows),cV (seg rows p)=true))/\
    t=[.fz (.lst (rows.map λl=>.str (cz l))),.fz (.int (wd rows)),.ow (part.map Eb),s3,.un]) ⟨_,[],.inl ⟨a9 _,0,[],aD _,pN.symm,rfl,by simp⟩,rfl⟩ ?_ ?_
  .walk_at"px";rw[ae];show⟨by ext,by ext,?_⟩;rw[show((rows.length:Int)+1).toNat=rows.length+1 by ext];show h
  .rintro i t g ⟨s3,part,d,rfl⟩;rcases d with⟨M,a,dd,O,rfl,f,U⟩ | ⟨z,_⟩
   .have right:∀b,a<=b->b<=rows.length->∀Q:R->Prop,Q (.fz (.bl (cV (seg rows (a,b)))))->yK [.lst ((seg rows (a,b)).map Eb)] Q:=λb h1 h2 Q k=>⟨seg rows (a,b),wd rows,rfl,⟨by rw[zP h2];simp only;ext,λl hl=>rb.eN l (yy hl),λl hl=>F.eY l (yy hl)⟩,λl hl=>o l (yy hl),by ext,by ext,k⟩
    have stop:∀b,(a,b)∈ic rows.length 0 (dQ rows)->cV (seg rows (a,b))=false->P (.fz (.bl false)):=λb hm hd=>bad λz=>by
     rw[(C6 z).1 _ hm] at hd;cases hd
    walk_at"px";by_cases e:i=rows.length
    .subst e;rw[if_pos (by rw[ae])];rw[RQ] at f;have hm:(a,rows.length)∈ic rows.length 0 (dQ rows):=by rw[f];show aY _ (aK.mpr rfl)
     show right _ O M _ ⟨rfl,?_⟩;cases hd:cV (seg rows (a,rows.length)) with
     | false=>show stop _ hm hd
     | true=>
      walk_at"px";walk_at"go";show⟨a9 _,_,[],.inr λp d=>?_,rfl⟩;rw[f] at d;rcases aJ.mp d with d | d
      .exact U p d
      have:p=(a,rows.length):=by simpa[ic] using d
      rw[this];show hd
    have u:i<rows.length:=by ext
    rw[if_neg (by rw[ae];ext)];show⟨_,w i u,ll i u,_,at2 i 0 u (by ext),?_⟩;have bs:=Th u;have L:=S i u;by_cases c:gv rows i 0=61
    .rw[bc c] at L;rw[L,if_pos rfl] at bs;rw[bs] at f;have hm:(a,i)∈ic rows.length 0 (dQ rows):=by rw[f];show aY _ aA
     show qu ((B _).mpr c) ?_;show right _ O M _ ⟨rfl,?_⟩;cases hd:cV (seg rows (a,i)) with
     | false=>show stop _ hm hd
     | true=>
      walk_at"px";walk_at"go";show⟨a9 _,_,[],.inl ⟨u,i+1,dd++[(a,i)],aD _,pN.symm,by rw[f];simp[ic],λp d=>?_⟩,rfl⟩;rcases aJ.mp d with d | d
      .exact U p d
      rw[aK.mp d];show hd
    rw[aG c] at L;rw[L,if_neg aC] at bs;rw[bs] at f;show qw (λz=>c ((B _).mp z)) ?_;show⟨_,w i u,by rw[ae,zP M];simp only;ext,?_⟩;show⟨_,seg rows (a,i+1),.inl ⟨u,a,dd,by ext,rfl,f,U⟩,by rw[Tf O u,aH];rfl⟩
   ext
  rintro t ⟨s3,part,d,rfl⟩;rcases d with⟨z,_⟩ | ⟨_,good⟩
  .omega
  obtain⟨sin,bin⟩:=Kg good;have mem:∀b,b<rows.length->xY rows b=true->b∈dQ rows:=λb hb hz=>by
   unfold dQ qv;show bA.mpr ⟨List.mem_range'_1.mpr ⟨a9 _,by ext⟩,hz⟩
  have cell:∀b,b∈dQ rows->(wu rows b=true↔∀s,s<wd rows->yi (rows.getD (b-1) []) (rows.getD b []) (rows.getD (b+1) []) s):=λb hb=>by
   obtain⟨Y,X⟩:=bin b hb;have W:=o _ (H b (by ext));have y1:=o _ (H (b-1) (by ext));have y2:=o _ (H (b+1) (by ext));have:=Ld (over:=rows.getD (b-1) []) (row:=rows.getD b []) (under:=rows.getD (b+1) []) (by ext) (by ext) (by ext);rw[W] at this;show this
  have stop:∀b s,b∈dQ rows->s<wd rows->¬yi (rows.getD (b-1) []) (rows.getD b []) (rows.getD (b+1) []) s->P (.fz (.bl false)):=λb s hb f hn=>bad λz=>hn ((cell b hb).mp ((C6 z).2.2 b hb) s f)
  have V:∀(n:Nat),n<1000->∀v:List D->Prop,v ((List.range n).map λ(i:Nat)=>.int (0+i))->-4611686018427387904<=(n:Int)/\(n:Int)<4611686018427387904/\v ((List.range (n:Int).toNat).map λ(i:Nat)=>D.int (0+i)):=λn hn v h=>⟨by ext,by ext,by rw[ba];show h⟩
  walk_at"go";generalize List.map Eb part=pt;show tQ rows.length (λv h=>?_) (λi t=>∃(s3 s4:Sl),(∀b∈dQ rows,b<i->wu rows b=true)/\t=[.fz (.lst (rows.map λl=>.str (cz l))),.fz (.int (wd rows)),.ow pt,s3,s4]) ⟨_,_,λb _ h=>absurd h (Nat.not_lt_zero _),rfl⟩ ?_ ?_
  .walk_at"px";rw[ae];show V _ (by ext) v h
  .rintro i t g ⟨s3,s4,hb,rfl⟩;walk_at"px";show tQ (wd rows) (λv h=>?_) (λj t=>∃(s4:Sl),(i∈dQ rows->∀s,s<j->yi (rows.getD (i-1) []) (rows.getD i []) (rows.getD (i+1) []) s)/\t=[.fz (.lst (rows.map λl=>.str (cz l))),.fz (.int (wd rows)),.ow pt,.fz (.int i),s4]) ⟨_,λ_ s h=>absurd h (Nat.not_lt_zero _),rfl⟩ ?_ ?_
   .walk_at"px";show V _ (by ext) v h
   .rintro j t x ⟨s4,N,rfl⟩;walk_at"px";show⟨_,w i g,ll i g,_,at2 i 0 g (by ext),?_⟩
    have go:(i∈dQ rows->yi (rows.getD (i-1) []) (rows.getD i []) (rows.getD (i+1) []) j)->∃(s4:Sl),(i∈dQ rows->∀s,s<j+1->yi (rows.getD (i-1) []) (rows.getD i []) (rows.getD (i+1) []) s)/\[Sl.fz (.lst (rows.map λl=>.str (cz l))),.fz (.int (wd rows)),.ow pt,.fz (.int i),.fz (.int j)]=[.fz (.lst (rows.map λl=>.str (cz l))),.fz (.int (wd rows)),.ow pt,.fz (.int i),s4]:=λz=>⟨_,λhm s f=>by
     by_cases e:s=j
     .rw[e];show z hm
     .exact N hm s (by ext),rfl⟩
    by_cases c:gv rows i 0=61
    .have hm:i∈dQ rows:=mem i g (by rw[S i g,bc c]);obtain⟨Y,X⟩:=bin i hm;show qu ((B _).mpr c) ?_;show⟨_,w i g,ll i g,_,at2 i j g x,?_⟩;have up:et rows ((i:Int)-1)=some (rows.getD (i-1) []):=by rw[<-w (i-1) (by ext)];congr 1;ext
     have dn:et rows ((i:Int)+1)=some (rows.getD (i+1) []):=by rw[<-w (i+1) (by ext)];congr 1
     by_cases A:gv rows i j=61
     .refine qw (λz=>by simp[(B _).mpr A] at z) ?_;show go λ_=>.inl A
     show qu (by simp[show ¬((⟨#[gv rows i j]⟩:Str)="=") from λz=>A ((B _).mp z)]) ?_;show⟨_,w i g,ll i g,_,at2 i j g x,?_⟩;by_cases K:gv rows i j=124
     .refine qw (λz=>by simp[(E _).mpr K] at z) ?_;by_cases c4:j%2=0
      .rw[if_pos (by ext)];show stop i j hm x λz=>by
        rcases z with z | z
        .exact A z
        ext
      rw[if_neg (by ext)];walk_at"go";show⟨_,up,ll _ (by ext),_,at2 (i-1) j (by ext) x,?_⟩;by_cases J:gv rows (i-1) j=124
      .refine qw (λz=>by simp[(E _).mpr J] at z) ?_;show⟨_,dn,ll _ (by ext),_,at2 (i+1) j (by ext) x,?_⟩;by_cases I:gv rows (i+1) j=124
       .refine qw (λz=>by simp[(E _).mpr I] at z) ?_;show go λ_=>.inr ⟨K,by ext,J,I⟩
       show qu (by simp[show ¬((⟨#[gv rows (i+1) j]⟩:Str)="|") from λz=>I ((E _).mp z)]) ?_;show stop i j hm x λz=>by
        rcases z with z | z
        .exact A z
        show I z.2.2.2
      show qu (by simp[show ¬((⟨#[gv rows (i-1) j]⟩:Str)="|") from λz=>J ((E _).mp z)]) ?_;show stop i j hm x λz=>by
       rcases z with z | z
       .exact A z
       show J z.2.2.1
     show qu (by simp[show ¬((⟨#[gv rows i j]⟩:Str)="|") from λz=>K ((E _).mp z)]) ?_;show stop i j hm x λz=>by
      rcases z with z | z
      .exact A z
      show K z.1
    show qw (λz=>c ((B _).mp z)) ?_;show go λhm=>absurd (yz hm).2.2 (by rw[S i g,aG c];show aC)
   rintro t ⟨s4,N,rfl⟩;show⟨_,_,λb C Z=>?_,rfl⟩;by_cases e:b=i
   .subst e;show(cell b C).mpr (N C)
   show hb b C (by ext)
  rintro t ⟨s3,s4,hb,rfl⟩;walk_at"go";have:oJ rows=true:=by
   unfold oJ jV;rw[aM.mpr good,aM.mpr λb C=>hb b C (yz C).2.1,aM.mpr λl hl=>bc (o l hl)];rfl
  rw[this] at q;show q
 show qu ?_ ?_
 .rw[List.any_map,List.any_eq_true];show Classical.byContradiction λz=>o λl T=>?_
  show Classical.byContradiction λy=>z ⟨l,T,?_⟩
  simp[y]
 show bad λz=>o (C6 z).2.1
end Wc
open PySem L2 PyProof.Rows Wc
local macro_rules | `(tactic| walk_at"px")=>`(tactic| (repeat(first | walk_at"b" | simp only[EO,tI])))
namespace Wc
open PySem L2 PyProof.Rows
noncomputable def pH(b:List Int)(a k:Nat):List Int:=b.take 1++(List.range (b.length-1)).filterMap λj=>if (1+j)%a=k then b[1+j]? else none
theorem FO(b:List Int)(a k:Nat):(pH b a k).length<=1+b.length:=by
 unfold pH;have:=List.length_filterMap_le (λj=>if (1+j)%a=k then b[1+j]? else none) (List.range (b.length-1));rw[List.length_range] at this;simp only[ax,aP];ext
theorem Lb(b:List Int)(a k w:Nat):vq (pH b a k) w=vq b w:=by
 unfold vq pH;rw[zL _ (by decide),zL _ (by decide)];cases b<;>rfl
def Ag:e8:=λds Q=>∃(ns:List Int)(many:Nat),ds=[dI ns,.int many]/\ns.length<=63/\1<=many/\many<=8/\Q (.ow ((List.range many).map λk=>dI (pH ns many k)))
def Ha:TX:=(eu (gY (oH (cf (bY 1) cp)) [none,some 0,some 1] (dh 0) iD (cj dZ (ni (bY 1) oz (lr (dC (.int 1)))) (gY (EO (cf (dC (.int 1)) (cf (fE ja (cf (bY 1) cp)) cp))) [none,some 1,some 0,some 2] (dh 0) (dw (cj oEq (cj (oI (λ_ j=>0<j) λi j=>.int (i%j)) (bY 0) (bY 3)) (bY 2))) (cj d0 (bY 1) (bY 0))))))
theorem Xi:iV 2 Ag Ha ["_law_script","_law_many"]:=by
 intro ds r hl h;obtain⟨ns,many,rfl,hn,o,n,q⟩:=h;show Ha _ [.fz (dI ns),.fz (.int many)];unfold Ha;have big:=iW;unfold dI at q ⊢;walk_at"px";show lD (List.range many) (λ(k:Nat)=>.int (0+k)) (λk=>.lst ((pH ns many k).map .int)) (λm h=>?_) (by simp;ext) (λk p t kk=>?_) q
 .walk_at"px";show⟨by ext,by ext,by simpa using h⟩
 rw[Int.zero_add];walk_at"px";rw[zL _ (by decide)];show FN (List.range (ns.length-1)) (λ(j:Nat)=>.int (1+j)) (λj=>(if (1+j)%many=k then ns[1+j]? else none).map .int) (λm h=>?_) (by simp;ext) (λj i s u k2 k0=>?_) ?_
 .walk_at"px";rw[ae,show((ns.length:Int)-1).toNat=ns.length-1 by ext];show⟨⟨by ext,by ext⟩,h⟩
 .have v:=List.mem_range.mp i;have g:1+j<ns.length:=by ext
  walk_at"px";show⟨by ext,?_⟩;by_cases b:(1+j)%many=k
  .have f:((1:Int)+j)%many=k:=by
    have:(((1+j)%many:Nat):Int)=(k:Int):=by rw[b]
    simpa using this
   rw[if_pos f];show⟨ns[1+j],?_,k2 _ ?_⟩
   .have:=rT g;simpa using this
   rw[if_pos b,af g];rfl
  have f:¬((1:Int)+j)%many=k:=λz=>b (by
   have:(((1+j)%many:Nat):Int)=(k:Int):=by simpa using z
   ext)
  rw[if_neg f];show k0 (by rw[if_neg b];rfl)
 have d:=FO ns many k;unfold pH at d kk;have e:(List.range (ns.length-1)).filterMap (λj=>(if (1+j)%many=k then ns[1+j]? else none).map D.int)=((List.range (ns.length-1)).filterMap λj=>if (1+j)%many=k then ns[1+j]? else none).map D.int:=by
  rw[List.map_filterMap]
 rw[e];rw[aH] at kk;rw[ax] at d;simp only[yw,List.map_take] at kk ⊢;show⟨?_,kk⟩;simp only[ae,aP] at d ⊢;ext
structure Rws(rows:List (List Nat)):Prop where
 ne:rows≠[]
 len:rows.length<=11
 eN:∀l∈rows,0<l.length/\l.length<=9
 eY:∀l∈rows,∀c∈l,c∈Wc.eY
def Am:e8:=λds Q=>∃(ns:List Int),ds=[dI ns]/\ns.length<=63/\∀rows:List (List Nat),Rws rows->Q (.ow (rows.map Eb))
def GH:TX:=(cL (fg 1 (fc 2 Ag (cf (bY 0) (cf (dC (.int 2)) cp))))
 (cL (fg 2 (fc 3 yP (cf (cj d0 (bY 1) (dC (.int 0))) (cf (dC (.int 2)) (cf (dC (.int 4)) cp)))))
 (cL (fg 3 (fc 3 yP (cf (cj d0 (bY 1) (dC (.int 1))) (cf (dC (.int 2)) (cf (dC (.int 4)) cp)))))
 (cL (mT 4 (jc cp))
 (cL (jb (oH (cf (fE ja (cf (cj d0 (bY 2) (dC (.int 0))) cp)) cp)) (dh 5) (cL (fg 6 (cj dZ (cj d0 (cj d0 (bY 2) (cj (jq λi j=>.int (i-j)) (fE ja (cf (bY 2) cp)) (dC (.int 1)))) (bY 5)) (cj d0 (cj d0 (bY 3) (dC (.int 0))) (bY 5))))
 (cL (fg 7 (cj (oI (λ_ j=>0<j) λi j=>.int (i%j)) (fc 2 tP (cf (fE u4 (cf (ni (bY 0) oz (lr (dC (.int 2)))) cp)) (cf (cj dZ (dC (.int 820)) (bY 5)) cp))) (dC (.int 4))))
 (uf 4 (cj d0 (jc (cf (dC (.str "=")) (cf (dC (.str "|")) cp))) (fE Cg (cf (tE (cj oEq (cj (oI (λ_ j=>0<j) λi j=>.int (i%j)) (bY 5) (dC (.int 2))) (dC (.int 1))) (tE (cj oEq (bY 6) (dC (.str "||"))) (cj (jq λi j=>.bl (decide (j<i))) (bY 7) (dC (.int 0))))) cp)))))))
 (wz 4 (eu (dM "str" tI (fc 1 Aj (cf (cj dZ (cj dZ (bY 2) (jc (cf (bY 4) cp))) (bY 3)) cp)) (cf (dC (.str "\n")) cp)))))))))
theorem WU:iV 1 Am GH ["_law_script","_law_parts_here","_law_upper","_law_lower","_law_signs","_law_s","_law_some","_law_one"]:=by
 intro ds N hl h;obtain⟨ns,rfl,hn,q⟩:=h;show GH _ [.fz (dI ns),.un,.un,.un,.un,.un,.un,.un];unfold GH;have big:=iW;walk_at"px";show⟨ns,2,rfl,hn,by decide,by decide,?_⟩;rw[show(List.range 2).map (λk=>dI (pH ns 2 k))=[dI (pH ns 2 0),dI (pH ns 2 1)] from rfl];have J:=FO ns 2 0;have I:=FO ns 2 1;walk_at"go";show⟨_,rfl,pH ns 2 0,2,4,rfl,by ext,by decide,by decide,by decide,λt upper ht z v P=>?_⟩;rw[Lb] at z v P;walk_at"go";show⟨_,rfl,pH ns 2 1,2,4,rfl,by ext,by decide,by decide,by decide,λu lower M _ _ L=>?_⟩;rw[Lb] at L;generalize vq ns 4=w at *;have E:=P.len;have F:=L.len;walk_at"go";show⟨a9 _,?_⟩;have n:∀{R S:Nat}{rows:List (List Nat)},i5 R S rows->∀r s:Nat,r<R->s<S->et (f7 rows) (r:Int)=some ((rows.getD r []).map kJ)/\et ((rows.getD r []).map kJ) (s:Int)=some (kJ (gv rows r s))/\(rows.getD r []).length=S:=λ{R S rows} P r s B d=>by
  have j:r<rows.length:=by rw[P.len];show B
  have hm:rows.getD r []∈rows:=by
   rw[ag,af j,bg];show aV _
  have hw:=P.eN _ hm;show⟨?_,?_,hw⟩
  .rw[lV (by simp only[ae,f7];show j),Cw j]
  rw[lV (by rw[ae,hw];show d),ar,qp P.len P.eN (by rw[ag,af j];rfl) d];rfl
 have gl:((f7 upper).map D.lst).length=2*t+1:=by rw[ae];unfold f7;rw[ae,E]
 rw[show(R.ov (OV.ll (f7 upper))).val=.lst ((f7 upper).map .lst) from rfl,show(R.ov (OV.ll (f7 lower))).val=.lst ((f7 lower).map .lst) from rfl];walk_at"go";show tQ (2*w+1) (λO h=>?_) (λi m=>∃(sg:List Nat)(a b c:Sl),sg.length=i/\(∀c∈sg,c∈eY)/\m=[.fz (dI ns),.fz (.lst [dI (pH ns 2 0),dI (pH ns 2 1)]),.fz (.lst ((f7 upper).map .lst)),.fz (.lst ((f7 lower).map .lst)),.ow (sg.map kJ),a,b,c]) ⟨[],_,_,_,rfl,by simp,rfl⟩ ?_ ?_
 .walk_at"px";obtain⟨g1,_,g3⟩:=n P 0 0 (by ext) (by ext);show⟨_,g1,?_⟩;rw[ae,g3];show⟨by ext,by ext,?_⟩;rw[ba];show h
 .rintro i m p ⟨sg,a,b,c,sl,ss,rfl⟩;unfold dI;walk_at"px";obtain⟨g1,g2,_⟩:=n P (2*t) i (by ext) p;obtain⟨k1,k2,_⟩:=n L 0 i (by ext) p;rw[gl,show((2*t+1:Nat):Int)-1=((2*t:Nat):Int) by ext];show⟨_,g1,kJ _,g2,_,k1,kJ _,k2,?_⟩;unfold kJ;show⟨by rw[gG,gG];simp only[av,bh];ext,?_⟩;rw[La];generalize cz _=two;walk_at"go";show⟨_,_,rfl,by ext,by ext,by decide,?_⟩;generalize wq _ _%4=one;walk_at"go";show⟨by ext,?_⟩;have lt:(sg.map λc=>D.str (cz [c])).length<sizeLine:=by rw[ae];ext
  have g:∀x∈[61,124],∀c∈sg++[x],c∈eY:=λx A c f=>by
   rcases aJ.mp f with f | f
   .exact ss c f
   rw[aK.mp f];show(by decide:∀y∈[61,124],y∈eY) x A
  rw[show Str.ofString "="=cz [61] by decide +kernel,show Str.ofString "|"=cz [124] by decide +kernel];split
  .split
   .by_cases o:0<one
    .rw[if_pos o];show⟨_,rfl,lt,sg++[124],_,_,_,by simp[sl],g _ (by simp),by rw[aH];rfl⟩
    rw[if_neg o];show⟨_,rfl,lt,sg++[61],_,_,_,by simp[sl],g _ (by simp),by rw[aH];rfl⟩
   show⟨_,rfl,lt,sg++[61],_,_,_,by simp[sl],g _ (by simp),by rw[aH];rfl⟩
  show⟨_,rfl,lt,sg++[61],_,_,_,by simp[sl],g _ (by simp),by rw[aH];rfl⟩
 rintro m ⟨sg,a,b,c,sl,ss,rfl⟩;walk_at"go";have e:(f7 upper).map D.lst++[D.lst (sg.map kJ)]++(f7 lower).map D.lst=(f7 (upper++[sg]++lower)).map D.lst:=by unfold f7;simp
 have d:∀l∈upper++[sg]++lower,l.length=2*w+1/\∀c∈l,c∈eY:=λl hl=>by
  rcases aJ.mp hl with hl | hl
  .rcases aJ.mp hl with hl | hl
   .exact⟨P.eN l hl,(P.rb (by ext) (by ext)).eY l hl⟩
   rw[aK.mp hl];show⟨sl,ss⟩
  show⟨L.eN l hl,(L.rb (by ext) (by ext)).eY l hl⟩
 have ln:(upper++[sg]++lower).length<=11:=by simp only[ax,av,bh];ext
 have g2:((f7 lower).map D.lst).length=2*u+1:=by rw[ae];unfold f7;rw[ae,F]
 show⟨by ext,by ext,by rw[ax,gl,g2];simp only[av,bh];ext,?_⟩;rw[e];show⟨upper++[sg]++lower,rfl,by simp,by ext,λl hl=>⟨by rw[(d l hl).1];ext,(d l hl).2⟩,λH C K=>⟨rfl,by decide +kernel,by ext,?_⟩⟩;rw[C];have:=q (upper++[sg]++lower) ⟨by simp,ln,λl hl=>by rw[(d l hl).1];ext,λl hl=>(d l hl).2⟩;rw[ay];show this
end Wc
open PySem L2 PyProof.Rows Wc
local macro_rules | `(tactic| walk_at"px")=>`(tactic| (repeat(first | walk_at"b" | simp only[yb])))
namespace Wc
open PySem L2 PyProof.Rows
noncomputable def dR(l:List Nat):D:=.str (cz l)
def kL(k:Nat)(l:List Nat):Prop:=l.length<=k/\∀c∈l,c∈eY
theorem zO(a b:List Nat):cz a++cz b=cz (a++b):=by
 show Cz ?_;show((cz a).cps++(cz b).cps).toList=a++b;rw[Array.toList_append,mi,mi]
theorem Mm(c:Nat):∀(k:Nat)(a:Array Nat),((List.replicate k #[c]).foldl (·++·) a).toList=a.toList++List.replicate k c
 | 0,a=>by simp
 | k+1,a=>by
  rw[List.replicate_succ,List.foldl_cons,Mm c k];simp[List.replicate_succ]
theorem Ez(c n:Nat):Txt.mul (cz [c]) (n:Int)=cz (List.replicate n c):=by
 show Cz ?_;rw[show cz [c]=⟨#[c]⟩ from rfl];unfold Txt.mul;by_cases a:(n:Int)<1
 .rw[if_pos a];have:n=0:=by ext
  rw[this];rfl
 rw[if_neg a];by_cases b:n=1
 .subst b;rfl
 have e:(((n:Int)==1||(⟨#[c]⟩:Str).length==0)=true)=False:=by
  simp[show ¬(n:Int)=1 by ext,Str.length]
 rw[if_neg (by rw[e];show not_false)];simp only[Mm,ba];rfl
theorem kL.app{k j:Nat}{a b:List Nat}(e:kL k a)(d:kL j b):kL (k+j) (a++b):=⟨by rw[ax];show Nat.add_le_add e.1 d.1,λc f=>(aJ.mp f).elim (e.2 c) (d.2 c)⟩
theorem kL.take{k:Nat}{a:List Nat}(b:kL k a)(n:Nat):kL k (a.take n):=⟨aR (List.length_take_le' _ _) b.1,λc d=>b.2 c (List.mem_of_mem_take d)⟩
theorem kL.drop{k:Nat}{a:List Nat}(b:kL k a)(n:Nat):kL k (a.drop n):=⟨by rw[List.length_drop];have:=b.1;ext,λc d=>b.2 c (List.mem_of_mem_drop d)⟩
theorem kL.mono{k j:Nat}{a:List Nat}(h:kL k a)(b:k<=j):kL j a:=⟨aR h.1 b,h.2⟩
theorem ON:∀d,d<10->∃c∈eY,et (" -|+#=x.=|":Str).cps.toList ((d:Nat):Int)=some c:=by decide +kernel
def z9:e8:=λds Q=>∃(rows:List (List Nat))(m x:Int),ds=[.lst (rows.map dR),.int m,.int x]/\rows≠[]/\(∀l∈rows,0<l.length/\kL 9 l)/\rows.length<=11/\0<=x/\∀a:List (List Nat),(∀l∈a,kL 10 l)->a.length<=12->Q (.ow (a.map dR))
def GN:TX:=(cL (fg 3 (cj (oI (λ_ j=>0<j) λi j=>.int (i%j)) (bY 2) (fE ja (cf (bY 0) cp))))
 (cL (fg 4 (cj d0 (bY 0) (bY 3)))
 (cL (fg 5 (ni (bY 0) oz (lr (bY 3))))
 (cL (fg 6 (ni (bY 0) (lr (cj dZ (bY 3) (dC (.int 1)))) oz))
 (cL (fg 7 (cj (oI (λ_ j=>0<j) λi j=>.int (i%j)) (cj (oI rO λi j=>.int (i/j)) (bY 2) (dC (.int 64))) (fE ja (cf (bY 4) cp))))
 (cL (fg 8 (cj d0 (dC (.str " -|+#=x.=|")) (cj (oI (λ_ j=>0<j) λi j=>.int (i%j)) (cj (oI rO λi j=>.int (i/j)) (bY 2) (dC (.int 4096))) (dC (.int 10)))))
 (cL (fR (dw (cj oEq (bY 1) (dC (.int 0)))) (eu (cj dZ (bY 5) (bY 6))) gj)
 (cL (fR (dw (cj oEq (bY 1) (dC (.int 1)))) (eu (cj dZ (cj dZ (bY 5) (jc (cf (bY 4) (cf (bY 4) cp)))) (bY 6))) gj)
 (cL (fR (dw (cj oEq (bY 1) (dC (.int 2)))) (eu (cj dZ (cj dZ (bY 5) (jc (cf (cj yb (dC (.str "=")) (fE ja (cf (bY 4) cp))) (cf (bY 4) cp)))) (bY 6))) gj)
 (cL (fR (dw (cj oEq (bY 1) (dC (.int 3)))) (eu (cj dZ (cj dZ (bY 5) (jc (cf (cj dZ (ni (bY 4) oz (lr (bY 7))) (ni (bY 4) (lr (cj dZ (bY 7) (dC (.int 1)))) oz)) cp))) (bY 6))) gj)
 (cL (fR (dw (cj oEq (bY 1) (dC (.int 4)))) (eu (cj dZ (cj dZ (bY 5) (jc (cf (cj dZ (bY 4) (dC (.str " "))) cp))) (bY 6))) gj)
 (cL (fR (dw (cj oEq (bY 1) (dC (.int 5)))) (eu (gY (jZ (bY 0)) [none,some 7] (dh 0) iD (cj dZ (ni (bY 0) oz (lr (bY 1))) (ni (bY 0) (lr (cj dZ (bY 1) (dC (.int 1)))) oz)))) gj)
 (cL (fR (dw (cj oEq (bY 1) (dC (.int 6)))) (eu (cj dZ (bY 0) (jc (cf (cj d0 (jc (cf (dC (.str "")) (cf (cj yb (dC (.str "=")) (fE ja (cf (bY 4) cp))) (cf (cj yb (dC (.str " ")) (fE ja (cf (bY 4) cp))) cp)))) (cj (oI (λ_ j=>0<j) λi j=>.int (i%j)) (cj (oI rO λi j=>.int (i/j)) (bY 2) (dC (.int 4096))) (dC (.int 3)))) cp)))) gj)
 (cL (fR (dw (cj oEq (bY 1) (dC (.int 7)))) (eu (jc (cf (cj d0 (jc (cf (dC (.str "")) (cf (dC (.str "=")) (cf (dC (.str "===")) (cf (dC (.str " ")) cp))))) (cj (oI (λ_ j=>0<j) λi j=>.int (i%j)) (cj (oI rO λi j=>.int (i/j)) (bY 2) (dC (.int 4096))) (dC (.int 4)))) cp))) gj)
 (eu (cj dZ (cj dZ (bY 5) (jc (cf (cj dZ (cj dZ (ni (bY 4) oz (lr (bY 7))) (bY 8)) (ni (bY 4) (lr (cj dZ (bY 7) (dC (.int 1)))) oz)) cp))) (bY 6)))))))))))))))))
theorem XC:iV 3 z9 GN ["_law_rows_here","_law_manner","_law_mix_here","_law_at","_law_row","_law_ahead","_law_behind","_law_place","_law_sign"]:=by
 intro ds X hl h;obtain⟨rows,m,x,rfl,W,ok,hlen,hx,q⟩:=h;show GN _ [.fz (.lst (rows.map dR)),.fz (.int m),.fz (.int x),.un,.un,.un,.un,.un,.un];unfold GN;have big:=iW;have h0:0<rows.length:=List.length_pos_iff.mpr W;walk_at"px";rw[ae];show⟨by ext,?_⟩;have p0:=Int.emod_nonneg x (show(rows.length:Int)≠0 by ext);have R:=Int.emod_lt_of_pos x (show(0:Int)<rows.length by ext);obtain⟨at_,Y⟩:∃n:Nat,x%(rows.length:Int)=n:=⟨(x%(rows.length:Int)).toNat,by ext⟩
 rw[Y] at R ⊢;have O:at_<rows.length:=by ext
 walk_at"go";show⟨_,rT O,?_⟩;have e:=ok _ (aV O);generalize rows[at_]=row at e ⊢;walk_at"go";rw[zL _ (by ext),ba];walk_at"go";rw[MW _ (by ext),show((at_:Int)+1).toNat=at_+1 by ext];rw[show dR row=.str (cz row) from rfl];walk_at"go";have gG:∀l:List Nat,(cz l).length=l.length:=λl=>by simp[cz,Str.length]
 have S:=e.2.1;rw[gG];show⟨by ext,by ext,?_⟩;have t0:=Int.emod_nonneg (x/64) (show(row.length:Int)≠0 by ext);obtain⟨b,V⟩:∃n:Nat,x/64%(row.length:Int)=n:=⟨(x/64%(row.length:Int)).toNat,by ext⟩
 rw[V];have u0:=Int.emod_nonneg (x/4096) (show(10:Int)≠0 by decide);have Z:=Int.emod_lt_of_pos (x/4096) (show(0:Int)<10 by decide);obtain⟨sg,P⟩:∃n:Nat,x/4096%10=n:=⟨(x/4096%10).toNat,by ext⟩
 obtain⟨ch,T,Q⟩:=ON sg (by ext);walk_at"go";rw[P];show⟨by decide +kernel,ch,Q,?_⟩;have M:∀l∈rows.take at_,kL 10 l:=λl hl=>(ok l (List.mem_of_mem_take hl)).2.mono (by decide)
 have N:∀l∈rows.drop (at_+1),kL 10 l:=λl hl=>(ok l (List.mem_of_mem_drop hl)).2.mono (by decide)
 have L:(rows.take at_).length+(rows.drop (at_+1)).length+1<=11:=by rw[aP,List.length_drop];ext
 generalize rows.take at_=A at M L ⊢;generalize rows.drop (at_+1)=B at N L ⊢;have put:∀mid:List (List Nat),(∀l∈mid,kL 10 l)->mid.length<=2->X (.ow (A.map dR++mid.map dR++B.map dR)):=λmid hm U=>by
  rw[<-aH,<-aH];show q _ (λl hl=>?_) (by rw[ax,ax];ext);rcases aJ.mp hl with hl | hl
  .rcases aJ.mp hl with hl | hl
   .exact M l hl
   show hm l hl
  show N l hl
 have K:pC (cz row) none (some (b:Int))=cz (row.take b):=by rw[K9 _ (by ext),ba]
 have J:pC (cz row) (some ((b:Int)+1)) none=cz (row.drop (b+1)):=by rw[MV _ (by ext),show((b:Int)+1).toNat=b+1 by ext]
 have cut:∀(l:List Nat)(n:Nat),kL 9 l->kL 9 (l.take n++l.drop (n+1)):=λl n h=>⟨by have:=h.1;rw[ax,aP,List.length_drop];ext,λc f=>(aJ.mp f).elim (λz=>h.2 c (List.mem_of_mem_take z)) λz=>h.2 c (List.mem_of_mem_drop z)⟩
 have rep:∀c:Nat,c∈eY->kL 9 (List.replicate row.length c):=λc f=>⟨by rw[List.length_replicate];show e.2.1,λd hd=>by rw[List.eq_of_mem_replicate hd];show f⟩
 walk_at"go";by_cases m0:m=0
 .rw[if_pos m0];have:=put [] (by simp) (by simp);simp only[bL,List.append_nil] at this;show⟨by simp only[ae];ext,this⟩
 rw[if_neg m0];walk_at"go";by_cases F:m=1
 .rw[if_pos F]
  have:=put [row,row] (λl hl=>by
   have:l=row:=by simpa using hl
   rw[this]
   show e.2.mono (by decide)) (by simp)
  show⟨by ext,by simp only[ae];ext,by simp only[ax,ae,av,bh];ext,this⟩
 rw[if_neg F];walk_at"go";by_cases E:m=2
 .rw[if_pos E]
  have:=put [List.replicate row.length 61,row] (λl hl=>by
   rcases az.mp hl with z | z
   .rw[z];show(rep 61 (by decide)).mono (by decide)
   .rw[aK.mp z];show e.2.mono (by decide)) (by simp)
  rw[show Str.ofString "="=cz [61] by decide +kernel,gG row,Ez];show⟨by ext,rfl,by ext,by ext,by ext,by rw[ae];ext,by simp only[ax,ae,av,bh];ext,this⟩
 rw[if_neg E];walk_at"go";by_cases C:m=3
 .rw[if_pos C];rw[K,J,zO]
  have:=put [row.take b++row.drop (b+1)] (λl hl=>by
   have:l=row.take b++row.drop (b+1):=by simpa using hl
   rw[this]
   show(cut row b e.2).mono (by decide)) (by simp)
  have I:=(e.2.take b).1;have H:=(e.2.drop (b+1)).1;show⟨by rw[gG];ext,by rw[gG];ext,by rw[gG,gG];ext,by ext,by rw[ae];ext,by simp only[ax,ae,av,bh];ext,this⟩
 rw[if_neg C];walk_at"go";by_cases y:m=4
 .rw[if_pos y];rw[show(Str.ofString " ")=cz [32] by decide +kernel,zO];have s:kL 10 (row++[32]):=e.2.app (j:=1) ⟨by simp,by simp[eY]⟩
  have:=put [row++[32]] (λl hl=>by
   have:l=row++[32]:=by simpa using hl
   rw[this]
   show s) (by simp)
  show⟨by rw[gG,gG];simp only[av,bh];ext,by ext,by rw[ae];ext,by simp only[ax,ae,av,bh];ext,this⟩
 rw[if_neg y];walk_at"go";by_cases w:m=5
 .rw[if_pos w];show lD rows dR (λl=>dR (l.take b++l.drop (b+1))) (λQ' h=>?_) (by ext) (λl hm K1 k1=>?_) ?_
  .walk_at"px";show h
  .have t:=(ok l hm).2;have I:=(t.take b).1;have H:=(t.drop (b+1)).1;have l3:=t.1;rw[show dR l=.str (cz l) from rfl];walk_at"px";rw[K9 _ (by ext),ba,MV _ (by ext),show((b:Int)+1).toNat=b+1 by ext,zO];show⟨by rw[gG];ext,by rw[gG];ext,by rw[gG,gG];ext,k1⟩
  have:=q (rows.map λl=>l.take b++l.drop (b+1)) (λl hl=>by
   obtain⟨i,o,rfl⟩:=aE.mp hl
   show(cut i b (ok i o).2).mono (by decide)) (by rw[ae];ext)
  rw[ay] at this;show this
 rw[if_neg w];walk_at"go";by_cases v:m=6
 .rw[if_pos v];have v0:=Int.emod_nonneg (x/4096) (show(3:Int)≠0 by decide);have v1:=Int.emod_lt_of_pos (x/4096) (show(0:Int)<3 by decide);obtain⟨k,g⟩:∃n:Nat,x/4096%3=n:=⟨(x/4096%3).toNat,by ext⟩
  rw[g,show Str.ofString "="=cz [61] by decide +kernel,show Str.ofString " "=cz [32] by decide +kernel,show Str.ofString ""=cz [] by decide +kernel,gG row,Ez,Ez];have Cd:∀k:Nat,k<3->∃l:List Nat,et [dR [],dR (List.replicate row.length 61),dR (List.replicate row.length 32)] (k:Int)=some (dR l)/\kL 10 l:=λk g=>by
   match k,g with
   | 0,_=>show⟨[],rfl,by simp,by simp⟩
   | 1,_=>show⟨_,rfl,(rep 61 (by decide)).mono (by decide)⟩
   | 2,_=>show⟨_,rfl,(rep 32 (by decide)).mono (by decide)⟩
  obtain⟨l,p,r⟩:=Cd k (by ext);show⟨by ext,rfl,by ext,by ext,by ext,rfl,by ext,by ext,by ext,_,p,by ext,by rw[ae];ext,?_⟩
  have:=q (rows++[l]) (λi o=>by
   rcases aJ.mp o with z | z
   .exact(ok i z).2.mono (by decide)
   .rw[aK.mp z];show r) (by rw[ax];simp only[av,bh];ext)
  rw[aH] at this;show this
 rw[if_neg v];walk_at"go";by_cases u:m=7
 .rw[if_pos u];have v0:=Int.emod_nonneg (x/4096) (show(4:Int)≠0 by decide);have v1:=Int.emod_lt_of_pos (x/4096) (show(0:Int)<4 by decide);obtain⟨k,g⟩:∃n:Nat,x/4096%4=n:=⟨(x/4096%4).toNat,by ext⟩
  rw[g];have Cd:∀k:Nat,k<4->∃l:List Nat,et [D.str (Str.ofString ""),D.str (Str.ofString "="),D.str (Str.ofString "==="),D.str (Str.ofString " ")] (k:Int)=some (dR l)/\kL 10 l:=λk g=>by
   match k,g with
   | 0,_=>show⟨[],by rw[lV (by decide)];show some (D.str (Str.ofString ""))=_;unfold dR;congr 2,by simp,by simp⟩
   | 1,_=>show⟨[61],by rw[lV (by decide)];show some (D.str (Str.ofString "="))=_;unfold dR;congr 2,by simp,by simp[eY]⟩
   | 2,_=>show⟨[61,61,61],by rw[lV (by decide)];show some (D.str (Str.ofString "==="))=_;unfold dR;congr 2,by simp,by simp[eY]⟩
   | 3,_=>show⟨[32],by rw[lV (by decide)];show some (D.str (Str.ofString " "))=_;unfold dR;congr 2,by simp,by simp[eY]⟩
  obtain⟨l,p,r⟩:=Cd k (by ext);show⟨by ext,_,p,by ext,?_⟩
  show q [l] (λi o=>by
   have:i=l:=by simpa using o
   rw[this]
   show r) (by simp)
 rw[if_neg u];walk_at"go";rw[K,J,show(⟨#[ch]⟩:Str)=cz [ch] from rfl,zO,zO]
 have s:kL 10 (row.take b++[ch]++row.drop (b+1)):=⟨by have:=e.2.1;simp only[ax,aP,List.length_drop,av,bh];ext,λc f=>by
  rcases aJ.mp f with f | f
  .rcases aJ.mp f with f | f
   .exact e.2.2 c (List.mem_of_mem_take f)
   rw[aK.mp f];show T
  .exact e.2.2 c (List.mem_of_mem_drop f)⟩
 have:=put [row.take b++[ch]++row.drop (b+1)] (λl hl=>by
  have:l=row.take b++[ch]++row.drop (b+1):=by simpa using hl
  rw[this]
  show s) (by simp)
 have I:=(e.2.take b).1;have H:=(e.2.drop (b+1)).1;show⟨by rw[gG];ext,by rw[gG,gG];simp only[av,bh];ext,by rw[gG];ext,by rw[gG,gG,ax];simp only[av,bh];ext,by ext,by rw[ae];ext,by simp only[ax,ae,av,bh];ext,this⟩
end Wc
open PySem L2 PyProof.Rows Wc
local macro_rules | `(tactic| walk_at"px")=>`(tactic| (repeat(first | walk_at"b" | simp only[Cj,CB,tI,oG,Fh,vc])))
namespace Wc
open PySem L2 PyProof.Rows
def zy:TX:=(cL (fg 1 (fc 2 tP (cf (fE u4 (cf (ni (bY 0) (lr (dC (.int 1))) (lr (dC (.int 2)))) cp)) (cf (dC (.int 900)) cp))))
 (cL (fg 2 (dM "str" oG (dC (.str "\n")) (cf (fc 3 z9 (cf (fc 1 Am (cf (bY 0) cp)) (cf (cj (oI (λ_ j=>0<j) λi j=>.int (i%j)) (bY 1) (dC (.int 16))) (cf (cj (oI rO λi j=>.int (i/j)) (bY 1) (dC (.int 16))) cp)))) cp)))
 (cL (fg 3 (dC .non))
 (cL (mT 4 (dC .non))
 (cL (Fh 4 5 3 1 Aa (cf (bY 2) cp) "BadDrawing")
 (cL (fR (dw (fc 1 Ah (cf (dM "str" tI (bY 2) (cf (dC (.str "\n")) cp)) cp))) (eu (tE (cj (zl false) (bY 3) (dC .non)) (ye 4 (EC "list" (bY 4))))) gj)
 (cL (fR (vZ (pE (dw (vc "BadDrawing" true (bY 3)))) (pE (dw (vc "BadDrawing" true (bY 3))))) (eu (dC (.bl false))) gj)
 (cL (fR (dw (vc "BadDrawing" false (bY 3))) (eu (dC (.bl false))) gj)
 (eu (ED (vc "BadDrawing" false (bY 3))))))))))))
theorem Te:iV 1 (EN 63) zy ["_law_script","_law_mix_here","_law_text","_law_caught","_law_found","error"]:=by
 intro ds v hl h;obtain⟨ns,rfl,hn,q⟩:=h;show zy _ [.fz (dI ns),.un,.un,.un,.un,.un];unfold zy dI;have big:=iW;walk_at"px";show⟨_,_,rfl,by decide,by decide,?_⟩;have x0:=Fg (jJ ns (some 1) (some 2)).sum 900;generalize wq _ _=x at x0 ⊢;walk_at"go";show⟨rfl,ns,rfl,hn,λrows W=>?_⟩;show⟨rows,_,_,rfl,W.ne,λl hl=>⟨(W.eN l hl).1,(W.eN l hl).2,W.eY l hl⟩,W.len,by ext,λb i n=>?_⟩;have o:b.map dR=(b.map cz).map D.str:=by rw[ay];rfl
 rw[o];walk_at"go";have r:=Mn (rows:=b) (k:=10) λa ha=>(i a ha).1
 have d:=Ms b λa ha t=>by
  have:=(i a ha).2 10 t;revert this
  decide
 have g:B3 (if b=[] then [[]] else b):=by
  by_cases e:b=[]
  .rw[if_pos e];show⟨by simp,by simp,by simp,by simp⟩
  rw[if_neg e];show⟨e,n,λl hl=>(i l hl).1,λl hl=>(i l hl).2⟩
 generalize (if b=[] then [[]] else b)=f at d g;obtain⟨p,j⟩:∃s:Str,s=Txt.join "\n" (b.map cz):=⟨_,rfl⟩
 rw[<-j] at d r;have m:D.lst ((f.map cz).map D.str)=fB f:=by rw[ay];rfl
 show⟨by rw[ae,show(Str.ofString "\n").length=1 by decide +kernel];ext,?_⟩;walk_at"go";walk_at"go";rw[<-j];show⟨p,f,rfl,g,d,by ext,λhd u=>?_,λhd=>?_⟩
 .unfold OF;walk_at"go";show⟨rfl,by decide,by ext,?_⟩;rw[d,m];show⟨f,rfl,g,?_⟩;rw[hd];walk_at"px";show⟨rfl,rfl,q⟩
 walk_at"go";show⟨rfl,by decide,by ext,?_⟩;rw[d,m];show⟨f,rfl,g,?_⟩;rw[hd];walk_at"px";walk_at"go";walk_at"go";walk_at"go";show q
end Wc
end
namespace Wc
open PySem PySem.Spec PyProof.Rows L2
local macro_rules | `(tactic| walk_at"sc")=>`(tactic| show⟨rfl,rfl,rfl,by decide +kernel,rfl,by decide +kernel,by decide +kernel⟩)
local macro_rules | `(tactic| walk_at"bn")=>`(tactic| (intro _ _ _ _ _ _ us hl;first | (obtain⟨_,rfl⟩:=Cc hl;show rfl) | (obtain⟨_,_,rfl⟩:=JD hl;show rfl) | (obtain⟨_,_,_,rfl⟩:=JC hl;show rfl) | (obtain⟨_,_,_,_,rfl⟩:=JB hl;show rfl) | (obtain⟨_,_,_,_,_,rfl⟩:=JA hl;show rfl) | (obtain⟨_,_,_,_,_,_,_,rfl⟩:=Jy hl;show rfl)))
def top(i:Nat):Stmt:=PySem.Challenge.pw_wirechannel_k75_no_piles.main.body.getD i (.Pass ⟨0,0,0,0⟩)
structure Txt(K:J')(mg:Str->Option Value):Prop where
 b_ValueError:mg "ValueError"=none
 b_all:mg "all"=none
 b_any:mg "any"=none
 b_dict:mg "dict"=none
 b_enumerate:mg "enumerate"=none
 b_int:mg "int"=none
 b_isinstance:mg "isinstance"=none
 b_len:mg "len"=none
 b_list:mg "list"=none
 b_max:mg "max"=none
 b_range:mg "range"=none
 b_set:mg "set"=none
 b_sorted:mg "sorted"=none
 b_sum:mg "sum"=none
 b_zip:mg "zip"=none
 dY:∃t,mg "BORDER"=some (.str "=" t)
 cP:∃t,mg "CROSSINGS"=some (.str "+#" t)
 gq:∃t,mg "JOINT"=some (.str "|" t)
 cY:∃t,mg "STRETCH"=some (.str "-" t)
 cX:∃t,mg "UPRIGHT"=some (.str "|" t)
theorem r0{K:J'}{C a:Addr}(h:PySem.W.mroIn K C (.ref a)=some true):subIn K C a=true:=by
 unfold PySem.W.mroIn PySem.W.clsIn at h;unfold subIn;split at h
 .rename_i e;rw[e];simp only[Option.bind_some] at h;split at h
  .cases h
  simpa using h
 cases h
section
variable{P:Program}{w:World}{K:J'}{mg:Str->Option Value}{base:Heap}{bZ c7 dP dO dN dJ gV du fP dH dm fO:Addr}
theorem jg:ck ["rows","length","is_odd"] ["rows"] (b9 (top 19)):=by walk_at"sc"
theorem WT:(["row","length"]:List Str).Nodup:=by decide +kernel
theorem j5:ck ["row","place","signs"] ["row","place"] (b9 (top 21)):=by walk_at"sc"
theorem iI:ck ["rows","number","row"] ["rows"] (b9 (top 20)):=by walk_at"sc"
theorem Nu:(["place","sign","number"]:List Str).Nodup:=by decide +kernel
theorem j7:ck ["line","mark","place","around"] ["line","mark"] (b9 (top 22)):=by walk_at"sc"
theorem Wv:(["sign","mark"]:List Str).Nodup:=by decide +kernel
theorem iF:ck ["rows","place"] ["rows","place"] (b9 (top 24)):=by walk_at"sc"
theorem Xh:(["row","place"]:List Str).Nodup:=by decide +kernel
theorem l6:ck ["rows"] ["rows"] (b9 (top 23)):=by walk_at"sc"
theorem Wr:(["place","rows"]:List Str).Nodup:=by decide +kernel
theorem iH:ck ["rows","stretches_hold"] ["rows"] (b9 (top 18)):=by walk_at"sc"
theorem Xg:(["row"]:List Str).Nodup:=by decide +kernel
theorem Xf:(["column"]:List Str).Nodup:=by decide +kernel
theorem g0:ck ["number","line","mark","strands","strand","place","sign"] ["number","line","mark"] (b9 (top 26)):=by walk_at"sc"
theorem iE:ck ["lines","mark"] ["lines","mark"] (b9 (top 25)):=by walk_at"sc"
theorem Nl:(["number","line","mark"]:List Str).Nodup:=by decide +kernel
theorem ji:ck ["lines","strands","mark","sides","ends","number","line"] ["lines","strands","mark","sides"] (b9 (top 27)):=by walk_at"sc"
theorem jh:ck ["links","beside","one","other","firsts","first","waiting","strand"] ["links"] (b9 (top 30)):=by walk_at"sc"
theorem kY:ck ["ends","links","firsts","groups","strand","end"] ["ends","links"] (b9 (top 29)):=by walk_at"sc"
theorem Wb:(["group"]:List Str).Nodup:=by decide +kernel
theorem je:ck ["rows","stretches","uprights","joints","number","row","places"] ["rows","stretches","uprights"] (b9 (top 28)):=by walk_at"sc"
theorem Nj:(["place","sign"]:List Str).Nodup:=by decide +kernel
theorem WS:(["place","number","stretches","uprights"]:List Str).Nodup:=by decide +kernel
theorem j6:ck ["lines","borders","begins","ends"] ["lines","borders"] (b9 (top 37)):=by walk_at"sc"
theorem Wu:(["border"]:List Str).Nodup:=by decide +kernel
theorem Nm:(["begin","end","lines"]:List Str).Nodup:=by decide +kernel
theorem iG:ck ["row"] ["row"] (b9 (top 40)):=by walk_at"sc"
theorem Xe:(["sign"]:List Str).Nodup:=by decide +kernel
theorem iJ:ck ["joints"] ["joints"] (b9 (top 34)):=by walk_at"sc"
theorem Xd:(["joined"]:List Str).Nodup:=by decide +kernel
theorem jf:ck ["over","row","under","joints","beside"] ["over","row","under"] (b9 (top 39)):=by walk_at"sc"
theorem GL:(["joined","has_upper","has_lower"]:List Str).Nodup:=by decide +kernel
theorem g7:ck ["rows","borders"] ["rows","borders"] (b9 (top 38)):=by walk_at"sc"
theorem XB:(["row"]:List Str).Nodup:=by decide +kernel
theorem XA:(["border","rows"]:List Str).Nodup:=by decide +kernel
theorem gZ:ck ["groups","borders","ends","number","layout_groups","place","group","places","links","joints","column"] ["groups","borders"] (b9 (top 35)):=by walk_at"sc"
theorem Xz:(["end","number","place"]:List Str).Nodup:=by decide +kernel
theorem Nt:(["place","end"]:List Str).Nodup:=by decide +kernel
theorem Nr:(["column","joined"]:List Str).Nodup:=by decide +kernel
theorem j8:ck ["_law_cell","_law_k"] ["_law_cell","_law_k"] (b9 (top 42)):=by walk_at"sc"
theorem g9:ck ["_law_rows_here","_law_manner","_law_mix_here","_law_at","_law_row","_law_ahead","_law_behind","_law_place","_law_sign"] ["_law_rows_here","_law_manner","_law_mix_here"] (b9 (top 51)):=by walk_at"sc"
theorem X2:(["_law_line","_law_place"]:List Str).Nodup:=by decide +kernel
theorem iN:ck ["_law_script","_law_many"] ["_law_script","_law_many"] (b9 (top 47)):=by walk_at"sc"
theorem Xc:(["_law_k","_law_script","_law_many"]:List Str).Nodup:=by decide +kernel
theorem Xb:(["_law_j","_law_script","_law_k","_law_many"]:List Str).Nodup:=by decide +kernel
theorem iO:ck ["_law_script","_law_k","_law_many"] ["_law_script","_law_k","_law_many"] (b9 (top 43)):=by walk_at"sc"
theorem j9:ck ["_law_grid","_law_places","_law_wanted","_law_r","_law_s"] ["_law_grid","_law_places","_law_wanted"] (b9 (top 44)):=by walk_at"sc"
theorem g8:ck ["_law_script","_law_high","_law_wide","_law_tracks","_law_width","_law_grid","_law_k","_law_t","_law_c","_law_r","_law_s"] ["_law_script","_law_high","_law_wide"] (b9 (top 45)):=by walk_at"sc"
theorem X1:(["_law_r","_law_width"]:List Str).Nodup:=by decide +kernel
theorem iK:ck ["_law_grid"] ["_law_grid"] (b9 (top 46)):=by walk_at"sc"
theorem Xa:(["_law_row"]:List Str).Nodup:=by decide +kernel
theorem jj:ck ["_law_script","_law_parts_here","_law_upper","_law_lower","_law_signs","_law_s","_law_some","_law_one"] ["_law_script"] (b9 (top 52)):=by walk_at"sc"
theorem jk:ck ["_law_row","_law_place","_law_sign"] ["_law_row","_law_place","_law_sign"] (b9 (top 48)):=by walk_at"sc"
theorem iL:ck ["_law_rows_here","_law_r","_law_s","_law_beside"] ["_law_rows_here"] (b9 (top 49)):=by walk_at"sc"
theorem iM:ck ["_law_rows_here","_law_width","_law_part","_law_at","_law_s"] ["_law_rows_here"] (b9 (top 50)):=by walk_at"sc"
theorem Xy:(["_law_row","_law_width"]:List Str).Nodup:=by decide +kernel
theorem sf:ck ["_law_script","_law_mix_here","_law_text","_law_caught","_law_found","error"] ["_law_script"] (b9 (top 53)):=by walk_at"sc"
variable(T:Txt K mg)
include T in
theorem Xx(A:At K mg "have_form" (top 19)):Known P w K mg base 1 "have_form" 1 Ae:=i7 0 A jg (λf g A outer s H E e=>have b:=e.units;have nd:=jg.nd
 (cQ (gd 1 (gJ j0 T.b_len bW (cg (eh (b8 0) cD) cq)) nd)
   (cQ (gd 2 (vg (oo (gE b) (cE ij (gJ j0 T.b_len bW (cg (b8 0) cq)) cD) cD) (yo (oo (gE b) (cE ij (b8 1) cD) cD))) nd)
   (cR (eK (vg (b8 2) (vg (oo OX (b8 1) cD) (yo (gJ (wI rfl) T.b_all boot_all (cg (ko rfl (.of (N':=["row","length"]) (m:=[none,some 1]) (by kernel_rfl)) jK (kT (b8 0)) (λs3 d ex=>(dB 0 WT)) (λs3 d ex=>ku) (λs3 d ex=>(oo (gE b) (gJ j0 T.b_len bW (cg (b8 0) cq)) (b8 1)))) cq)))))))))) WZ (by walk_at"bn")
variable(gx:Known P w K mg base 1 "have_form" 1 Ae)
include T in
theorem WR(A:At K mg "signs_at" (top 21)):Known P w K mg base 1 "signs_at" 2 zW:=i7 0 A j5 (λf i A outer s H E d=>have b:=d.units;have nd:=j5.nd
 have ⟨h,cP⟩:=T.cP;have ⟨g,cY⟩:=T.cY;have ⟨e,cX⟩:=T.cX
 (cQ (gd 2 eX nd)
   (cQ (gI (fQ (gE b) (cE ij (b8 0) cD) cD) (cR (gd 2 (cE ej (b8 2) (nq cY)) nd)) gH)
   (cQ (gI (fQ (gE b) (cE ij (b8 1) cD) cD) (cR (gd 2 (cE ej (b8 2) (nq cX)) nd)) gH)
   (cQ (gI (pJ (fQ (gE b) (cE ij (b8 0) cD) cD) (um (fQ (gE b) (cE ij (b8 1) cD) cD))).pb (cR (gd 2 (cE ej (b8 2) (nq cP)) nd)) gH)
   (cR (eK (b8 2)))))))) Wz (by walk_at"bn")
variable(gT:Known P w K mg base 1 "signs_at" 2 zW)
include T gT in
theorem XZ(A:At K mg "have_signs" (top 20)):Known P w K mg base 2 "have_signs" 1 Al:=i7 1 A iI (λf g A outer s H E b=>have e:=b.units;have nd:=iI.nd
 (cQ (kR bf rfl (uk T.b_enumerate (cg (b8 0) cq)) (mW rfl (hX (dB 1 nd) (hX (dB 2 nd) mZ)))
    (cR (gI (rg (lJ (gJ (wI rfl) T.b_all boot_all (cg (ko rfl (.of (N':=["place","sign","number"]) (m:=[none,none,some 1]) (by kernel_rfl)) wV (Ga T.b_enumerate (cg (b8 2) cq)) (λs3 d ex=>(mW rfl (hX (dB 0 Nu) (hX (dB 1 Nu) mZ)))) (λs3 d ex=>ku) (λs3 d ex=>(oo (zm e) (b8 1) (fA gT b (cg (b8 2) (cg (b8 0) cq)))))) cq)))) (cR (eK lz)) gH)))
   (cR (eK lz)))) W7 (by walk_at"bn")
variable(fI:Known P w K mg base 2 "have_signs" 1 Al)
include T in
theorem WQ(A:At K mg "holds_on" (top 22)):Known P w K mg base 1 "holds_on" 2 yN:=i7 0 A j7 (λf h A outer s H E e=>have b:=e.units;have nd:=j7.nd
 have ⟨g,cP⟩:=T.cP
 (cQ (kR bf rfl (VW T.b_range (cg cD (cg (gJ j0 T.b_len bW (cg (b8 0) cq)) (cg cD cq)))) (dB 2 nd)
    (cQ (gd 3 (oq (b8 0) (lX (gJ (Qk rfl) T.b_max boot_max (cg (cE u7 (b8 2) cD) (cg cD cq)))) (lX (cE ej (b8 2) cD))) nd)
   (cR (gI (pJ (fQ (gE b) (eh (b8 0) (b8 2)) (b8 1)) (um (rg (lJ (gJ (wI rfl) T.b_all boot_all (cg (ko rfl (.of (N':=["sign","mark"]) (m:=[none,some 1]) (by kernel_rfl)) jK (kT (b8 3)) (λs3 d ex=>(dB 0 Wv)) (λs3 d ex=>ku) (λs3 d ex=>(oo (zm b) (b8 0) (cE ej (b8 1) (nq cP))))) cq)))))).pb (cR (eK lz)) gH))))
   (cR (eK lz)))) Wy (by walk_at"bn")
variable(fY:Known P w K mg base 1 "holds_on" 2 yN)
include T in
theorem XY(A:At K mg "signs_down" (top 24)):Known P w K mg base 1 "signs_down" 2 Ak:=i7 0 A iF (λf g A outer s H E d=>have e:=d.units;have nd:=iF.nd
 (cR (eK (rV yv (.inr rfl) bD PySem.F.slot_str_join PySem.F.type_str_join eX (cg (ko rfl (.of (N':=["row","place"]) (m:=[none,some 1]) (by kernel_rfl)) jK (kT (b8 0)) (λs3 b ex=>(dB 0 Xh)) (λs3 b ex=>ku) (λs3 b ex=>(eh (b8 0) (b8 1)))) cq))))) W6 (by walk_at"bn")
variable(fG:Known P w K mg base 1 "signs_down" 2 Ak)
include T fG in
theorem Wa(A:At K mg "turned" (top 23)):Known P w K mg base 2 "turned" 1 wN:=i7 1 A l6 (λf g A outer s H E b=>have e:=b.units;have nd:=l6.nd
 (cR (eK (ko rfl (.of (N':=["place","rows"]) (m:=[none,some 0]) (by kernel_rfl)) jK (qA T.b_range (cg (gJ j0 T.b_len bW (cg (eh (b8 0) cD) cq)) cq)) (λs3 d ex=>(dB 0 Wr)) (λs3 d ex=>ku) (λs3 d ex=>(fA fG b (cg (b8 1) (cg (b8 0) cq)))))))) Wg (by walk_at"bn")
variable(fX:Known P w K mg base 2 "turned" 1 wN)
include T gx fI fY fX in
theorem XX(A:At K mg "is_drawing" (top 18)):Known P w K mg base 3 "is_drawing" 1 yL:=i7 2 A iH (λf i A outer s H E b=>have h:=b.units;have nd:=iH.nd
 have ⟨g,cY⟩:=T.cY;have ⟨e,cX⟩:=T.cX
 (cQ (gI (yp (rg (lJ (fA gx b (cg (b8 0) cq)))) (yG (rg (lJ (fA fI b (cg (b8 0) cq)))))).pb (cR (eK lz)) gH)
   (cQ (gd 1 (gJ (wI rfl) T.b_all boot_all (cg (ko rfl (.of (N':=["row"]) (m:=[none]) (by kernel_rfl)) jK (kT (b8 0)) (λs3 d ex=>(dB 0 Xg)) (λs3 d ex=>ku) (λs3 d ex=>(fA fY b (cg (b8 0) (cg (nq cY) cq))))) cq)) nd)
   (cR (eK (vg (b8 1) (yo (gJ (wI rfl) T.b_all boot_all (cg (ko rfl (.of (N':=["column"]) (m:=[none]) (by kernel_rfl)) jK (kT (fA fX b (cg (b8 0) cq))) (λs3 d ex=>(dB 0 Xf)) (λs3 d ex=>ku) (λs3 d ex=>(fA fY b (cg (b8 0) (cg (nq cX) cq))))) cq))))))))) Xq (by walk_at"bn")
variable(fH:Known P w K mg base 3 "is_drawing" 1 yL)
include T in
theorem X5(A:At K mg "line_strands" (top 26)):Known P w K mg base 1 "line_strands" 3 Ab:=i7 0 A g0 (λf g A outer s H E d=>have b:=d.units;have nd:=g0.nd
 have ⟨e,cP⟩:=T.cP
 (cQ (pI 3 (jL cq) nd)
   (cQ (gd 4 yq nd)
   (cQ (kR bf rfl (Ga T.b_enumerate (cg (b8 1) cq)) (mW rfl (hX (dB 5 nd) (hX (dB 6 nd) mZ)))
    (cQ (gI (fQ (Lg b) (b8 6) (cE ej (b8 2) (nq cP))) (cR (gd 4 yq nd)) (cR (gI (fQ JE (b8 4) yq) (cR (gd 4 (kS (cg (b8 2) (cg (b8 0) (cg (b8 5) cq)))) nd)) gH)))
   (cR (yn 3 (b8 4)))))
   (cR (Fx 3)))))) XH (by walk_at"bn")
variable(eH:Known P w K mg base 1 "line_strands" 3 Ab)
include T eH in
theorem XW(A:At K mg "strands_of" (top 25)):Known P w K mg base 2 "strands_of" 2 wX:=i7 1 A iE (λf g A outer s H E b=>have e:=b.units;have nd:=iE.nd
 (cR (eK (ko rfl (.of (N':=["number","line","mark"]) (m:=[none,none,some 1]) (by kernel_rfl)) wV (uk T.b_enumerate (cg (b8 0) cq)) (λs3 d ex=>(mW rfl (hX (dB 0 Nl) (hX (dB 1 Nl) mZ)))) (λs3 d ex=>ku) (λs3 d ex=>(fA eH b (cg (b8 0) (cg (b8 1) (cg (b8 2) cq))))))))) Xp (by walk_at"bn")
variable(eF:Known P w K mg base 2 "strands_of" 2 wX)
include T in
theorem Xw(A:At K mg "edge_ends" (top 27)):Known P w K mg base 1 "edge_ends" 4 wQ:=i7 0 A ji (λf e A outer s H E d=>have b:=d.units;have nd:=ji.nd
 (cQ (pI 4 (jL cq) nd)
   (cQ (kR bf rfl (uk T.b_enumerate (cg (b8 0) cq)) (mW rfl (hX (dB 5 nd) (hX (dB 6 nd) mZ)))
    (cQ (gI (fQ (gE b) (eh (b8 6) cD) (b8 2)) (cR (yn 4 (kS (cg (eh (eh (b8 1) (b8 5)) cD) (cg (kS (cg (eh (b8 3) cD) (cg (cE vh (b8 5) cD) cq))) cq))))) gH)
   (cR (gI (fQ (gE b) (eh (b8 6) (KO cD)) (b8 2)) (cR (yn 4 (kS (cg (eh (eh (b8 1) (b8 5)) (KO cD)) (cg (kS (cg (eh (b8 3) cD) (cg (cE vh (b8 5) cD) cq))) cq))))) gH))))
   (cR (Fx 4))))) WY (by walk_at"bn")
variable(fb:Known P w K mg base 1 "edge_ends" 4 wQ)
include T in
theorem Xv(A:At K mg "firsts_of" (top 30)):Known P w K mg base 1 "firsts_of" 1 Af:=i7 0 A jh (λf e A outer s H E d=>have b:=d.units;have nd:=jh.nd
 (cQ (pI 1 LJ nd)
   (cQ (kR bf rfl (kT (b8 0)) (mW rfl (hX (dB 2 nd) (hX (dB 3 nd) mZ)))
    (cQ (E8 b 1 (b8 2) (b8 3))
   (cR (E8 b 1 (b8 3) (b8 2)))))
   (cQ (pI 4 T1 nd)
   (yD 1 (cQ (kR bf rfl (Uu (b8 1)) (dB 5 nd)
    (cQ (pI 6 (jL (cg (b8 5) cq)) nd)
   (cR (Uj bf (fQ JF (Sv 6 T.b_len) cD) (cQ (UG 7 6 (hnd:=nd))
   (cR (gI (Sq 4 (fQ (T4 b) (b8 7) (b8 4))) (cQ (SK b 4 (b8 7) (b8 5))
   (cR (SH 6 (FL b (b8 1) (b8 7))))) gH)))))))
   (cR (Lp 4)))))))) W0 (by walk_at"bn")
variable(gy:Known P w K mg base 1 "firsts_of" 1 Af)
include T gy in
theorem Wt(A:At K mg "grouped" (top 29)):Known P w K mg base 2 "grouped" 2 wR:=i7 1 A kY (λf i A outer s H E g=>have b:=g.units;have nd:=kY.nd
 (cQ (gd 2 (fA gy g (cg (b8 1) cq)) nd)
   (cQ (pI 3 LJ nd)
   (cQ (kR bf rfl (kT (b8 0)) (mW rfl (hX (dB 4 nd) (hX (dB 5 nd) mZ)))
    (cR (E8 b 3 (Uz b (b8 2) (b8 4) (b8 4)) (b8 5))))
   (yD 3 (cR (eK (VS (λn e d=>Ts.pP e d) b T.b_sorted (Uc rfl (.of (N':=["group"]) (m:=[none]) (by kernel_rfl)) jK (UJ (b8 3)) (λs3 h ex=>(dB 0 Wb)) (λs3 h ex=>ku) (λs3 h ex=>(gJ (Rv (λn e d=>Ts.pP e d) rfl) T.b_sorted boot_sorted (cg (b8 0) cq)))))))))))) We (by walk_at"bn")
variable(eT:Known P w K mg base 2 "grouped" 2 wR)
include T in
theorem Xu(A:At K mg "joints_of" (top 28)):Known P w K mg base 1 "joints_of" 3 yJ:=i7 0 A je (λf g A outer s H E e=>have d:=e.units;have nd:=je.nd
 (cQ (pI 3 (jL cq) nd)
   (cQ (kR bf rfl (uk T.b_enumerate (cg (b8 0) cq)) (mW rfl (hX (dB 4 nd) (hX (dB 5 nd) mZ)))
    (cQ (LU 6 rfl (.of (N':=["place","sign"]) (m:=[none,none]) (by kernel_rfl)) wV (Ga T.b_enumerate (cg (b8 5) cq)) (λs3 b ex=>(mW rfl (hX (dB 0 Nj) (hX (dB 1 Nj) mZ)))) (λs3 b ex=>(zN (fQ (gE d) (b8 1) eX))) (λs3 b ex=>(b8 0)) nd)
   (cR (Fp 3 (ko rfl (.of (N':=["place","number","stretches","uprights"]) (m:=[none,some 4,some 1,some 2]) (by kernel_rfl)) jK (kT (b8 6)) (λs3 b ex=>(dB 0 WS)) (λs3 b ex=>ku) (λs3 b ex=>(kS (cg (eh (eh (b8 2) (b8 1)) (b8 0)) (cg (eh (eh (b8 3) (b8 0)) (b8 1)) cq)))))))))
   (cR (Fx 3))))) WX (by walk_at"bn")
variable(gu:Known P w K mg base 1 "joints_of" 3 yJ)
include T in
theorem WO(A:At K mg "parts_of" (top 37)):Known P w K mg base 1 "parts_of" 2 yM:=i7 0 A j6 (λf g A outer s H E d=>have e:=d.units;have nd:=j6.nd
 (cQ (gd 2 (cE ej (jL (cg cD cq)) (ko rfl (.of (N':=["border"]) (m:=[none]) (by kernel_rfl)) jK (kT (b8 1)) (λs3 b ex=>(dB 0 Wu)) (λs3 b ex=>ku) (λs3 b ex=>(cE ej (b8 0) cD)))) nd)
   (cQ (gd 3 (cE ej (b8 1) (jL (cg (gJ j0 T.b_len bW (cg (b8 0) cq)) cq))) nd)
   (cR (eK (ko rfl (.of (N':=["begin","end","lines"]) (m:=[none,none,some 0]) (by kernel_rfl)) wV (Sx T.b_zip (cg (b8 2) (cg (b8 3) cq))) (λs3 b ex=>(mW rfl (hX (dB 0 Nm) (hX (dB 1 Nm) mZ)))) (λs3 b ex=>ku) (λs3 b ex=>(oq (b8 2) (lX (b8 0)) (lX (b8 1)))))))))) Ww (by walk_at"bn")
variable(gU:Known P w K mg base 1 "parts_of" 2 yM)
include T in
theorem XU(A:At K mg "row_joints" (top 40)):Known P w K mg base 1 "row_joints" 1 uo:=i7 0 A iG (λf h A outer s H E e=>have d:=e.units;have nd:=iG.nd
 have ⟨g,gq⟩:=T.gq
 (cR (eK (ko rfl (.of (N':=["sign"]) (m:=[none]) (by kernel_rfl)) jK (kT (UD (b8 0) (lX cD) pK)) (λs3 b ex=>(dB 0 Xe)) (λs3 b ex=>ku) (λs3 b ex=>(oo (gE d) (b8 0) (nq gq))))))) Xl (by walk_at"bn")
variable(cU:Known P w K mg base 1 "row_joints" 1 uo)
include T in
theorem XT(A:At K mg "border_row" (top 34)):Known P w K mg base 1 "border_row" 1 Ai:=i7 0 A iJ (λf i A outer s H E d=>have h:=d.units;have nd:=iJ.nd
 have ⟨g,dY⟩:=T.dY;have ⟨e,gq⟩:=T.gq
 (cR (eK (cE ej (nq dY) (rV yv (.inr rfl) bD PySem.F.slot_str_join PySem.F.type_str_join eX (cg (ko rfl (.of (N':=["joined"]) (m:=[none]) (by kernel_rfl)) jK (kT (b8 0)) (λs3 b ex=>(dB 0 Xd)) (λs3 b ex=>ku) (λs3 b ex=>(cE ej (Uq (lJ (b8 0)) (nq gq) (nq dY)) (nq dY)))) cq)))))) Xk (by walk_at"bn")
variable(fJ:Known P w K mg base 1 "border_row" 1 Ai)
include T cU fJ in
theorem Xt(A:At K mg "is_border" (top 39)):Known P w K mg base 2 "is_border" 3 Ac:=i7 1 A jf (λf g A outer s H E b=>have e:=b.units;have nd:=jf.nd
 (cQ (gd 3 (fA cU b (cg (b8 1) cq)) nd)
   (cQ (gI (fQ (wA e) (b8 1) (fA fJ b (cg (b8 3) cq))) (cR (eK lz)) gH)
   (cQ (gd 4 (SV rfl T.b_list T.b_zip (cg (b8 3) (cg (fA cU b (cg (b8 0) cq)) (cg (fA cU b (cg (b8 2) cq)) cq)))) nd)
   (cR (eK (gJ (wI rfl) T.b_all boot_all (cg (ko rfl (.of (N':=["joined","has_upper","has_lower"]) (m:=[none,none,none]) (by kernel_rfl)) V6 (kT (b8 4)) (λs3 d ex=>(mW rfl (hX (dB 0 GL) (hX (dB 1 GL) (hX (dB 2 GL) mZ))))) (λs3 d ex=>(zN (lJ (b8 0)))) (λs3 d ex=>(vg (b8 1) (yo (b8 2))))) cq)))))))) WV (by walk_at"bn")
variable(gw:Known P w K mg base 2 "is_border" 3 Ac)
include T gw in
theorem X4(A:At K mg "have_borders" (top 38)):Known P w K mg base 3 "have_borders" 2 yO:=i7 2 A g7 (λf g A outer s H E d=>have e:=d.units;have nd:=g7.nd
 (cQ (gI (fQ (wA e) (Vb rfl T.b_len T.b_set (cg (ko rfl (.of (N':=["row"]) (m:=[none]) (by kernel_rfl)) jK (kT (b8 0)) (λs3 b ex=>(dB 0 XB)) (λs3 b ex=>ku) (λs3 b ex=>(gJ j0 T.b_len bW (cg (b8 0) cq)))) cq)) cD) (cR (eK lz)) gH)
   (cR (eK (gJ (wI rfl) T.b_all boot_all (cg (ko rfl (.of (N':=["border","rows"]) (m:=[none,some 0]) (by kernel_rfl)) jK (kT (b8 1)) (λs3 b ex=>(dB 0 XA)) (λs3 b ex=>ku) (λs3 b ex=>(fA gw d (cg (eh (b8 1) (cE u7 (b8 0) cD)) (cg (eh (b8 1) (b8 0)) (cg (eh (b8 1) (cE ej (b8 0) cD)) cq)))))) cq)))))) XD (by walk_at"bn")
variable(eI:Known P w K mg base 3 "have_borders" 2 yO)
include T eT in
theorem X3(A:At K mg "pile_grouped" (top 35)):Known P w K mg base 3 "pile_grouped" 2 yQ:=i7 2 A gZ (λf g A outer s H E e=>have d:=e.units;have nd:=gZ.nd
 (cQ (pI 2 (jL cq) nd)
   (cQ (kR bf rfl (uk T.b_enumerate (cg (b8 0) cq)) (mW rfl (hX (dB 3 nd) (hX (dB 4 nd) mZ)))
    (cR (kR bf rfl (uk T.b_enumerate (cg (b8 4) cq)) (mW rfl (hX (dB 5 nd) (hX (dB 6 nd) mZ)))
    (cR (Fp 2 (ko rfl (.of (N':=["end","number","place"]) (m:=[none,some 3,some 5]) (by kernel_rfl)) jK (kT (b8 6)) (λs3 b ex=>(dB 0 Xz)) (λs3 b ex=>ku) (λs3 b ex=>(kS (cg (kS (cg (b8 1) (cg (b8 2) cq))) (cg (cE Ra (kS (cg (b8 1) cq)) (b8 0)) cq))))))))))
   (yD 2 (cQ (gd 7 (MM (Rt rfl d) T.b_dict (by decide +kernel) (cg (ko rfl (.of (N':=["place","end"]) (m:=[none,none]) (by kernel_rfl)) wV (kT (b8 2)) (λs3 b ex=>(mW rfl (hX (dB 0 Nt) (hX (dB 1 Nt) mZ)))) (λs3 b ex=>ku) (λs3 b ex=>(kS (cg (b8 1) (cg (b8 0) cq))))) cq)) nd)
   (cQ (pI 8 (jL cq) nd)
   (cQ (kR bf rfl (uk T.b_enumerate (cg (b8 1) cq)) (mW rfl (hX (dB 3 nd) (hX (dB 9 nd) mZ)))
    (cR (kR bf rfl (kT (ko rfl (.of (N':=["column","joined"]) (m:=[none,none]) (by kernel_rfl)) wV (uk T.b_enumerate (cg (b8 9) cq)) (λs3 b ex=>(mW rfl (hX (dB 0 Nr) (hX (dB 1 Nr) mZ)))) (λs3 b ex=>(zN (lJ (b8 1)))) (λs3 b ex=>(b8 0)))) (dB 10 nd)
    (cR (yn 8 (kS (cg (FL d (b8 7) (kS (cg (b8 3) (cg eX (cg (b8 10) cq))))) (cg (FL d (b8 7) (kS (cg (cE ej (b8 3) cD) (cg eX (cg (b8 10) cq))))) cq))))))))
   (yD 8 (cR (eK (fA eT e (cg (b8 2) (cg (b8 8) cq))))))))))))) XG (by walk_at"bn")
variable(eG:Known P w K mg base 3 "pile_grouped" 2 yQ)
include T in
theorem WN(A:At K mg "_law_mix" (top 42)):Known P w K mg base 1 "_law_mix" 2 tP:=i7 0 A j8 (λf e A outer s H E b=>have d:=b.units;have nd:=j8.nd
 (cR (eK (cE vh (cE ij (cE ej (cE ej (cE rQ (cE ij (b8 0) (cE Qq cD cD)) (cE ej (cE rQ (b8 1) (b8 1)) cD)) (cE rQ (cE rQ (cE rQ cD (b8 1)) (b8 1)) (b8 1))) cD) cD) cD)))) WA (by walk_at"bn")
variable(cG:Known P w K mg base 1 "_law_mix" 2 tP)
include T in
theorem X9(A:At K mg "_law_changed" (top 51)):Known P w K mg base 1 "_law_changed" 3 z9:=i7 0 A g9 (λf g A outer s H E e=>have b:=e.units;have nd:=g9.nd
 (cQ (gd 3 (cE ij (b8 2) (gJ j0 T.b_len bW (cg (b8 0) cq))) nd)
   (cQ (gd 4 (eh (b8 0) (b8 3)) nd)
   (cQ (gd 5 (oq (b8 0) pK (lX (b8 3))) nd)
   (cQ (gd 6 (oq (b8 0) (lX (cE ej (b8 3) cD)) pK) nd)
   (cQ (gd 7 (cE ij (cE vh (b8 2) cD) (gJ j0 T.b_len bW (cg (b8 4) cq))) nd)
   (cQ (gd 8 (eh eX (cE ij (cE vh (b8 2) cD) cD)) nd)
   (cQ (gI (fQ (gE b) (b8 1) cD) (cR (eK (cE ej (b8 5) (b8 6)))) gH)
   (cQ (gI (fQ (gE b) (b8 1) cD) (cR (eK (cE ej (cE ej (b8 5) (jL (cg (b8 4) (cg (b8 4) cq)))) (b8 6)))) gH)
   (cQ (gI (fQ (gE b) (b8 1) cD) (cR (eK (cE ej (cE ej (b8 5) (jL (cg (cE Ft eX (gJ j0 T.b_len bW (cg (b8 4) cq))) (cg (b8 4) cq)))) (b8 6)))) gH)
   (cQ (gI (fQ (gE b) (b8 1) cD) (cR (eK (cE ej (cE ej (b8 5) (jL (cg (cE ej (oq (b8 4) pK (lX (b8 7))) (oq (b8 4) (lX (cE ej (b8 7) cD)) pK)) cq))) (b8 6)))) gH)
   (cQ (gI (fQ (gE b) (b8 1) cD) (cR (eK (cE ej (cE ej (b8 5) (jL (cg (cE ej (b8 4) eX) cq))) (b8 6)))) gH)
   (cQ (gI (fQ (gE b) (b8 1) cD) (cR (eK (ko rfl (.of (N':=["_law_line","_law_place"]) (m:=[none,some 7]) (by kernel_rfl)) jK (kT (b8 0)) (λs3 d ex=>(dB 0 X2)) (λs3 d ex=>ku) (λs3 d ex=>(cE ej (oq (b8 0) pK (lX (b8 1))) (oq (b8 0) (lX (cE ej (b8 1) cD)) pK)))))) gH)
   (cQ (gI (fQ (gE b) (b8 1) cD) (cR (eK (cE ej (b8 0) (jL (cg (eh (jL (cg eX (cg (cE Ft eX (gJ j0 T.b_len bW (cg (b8 4) cq))) (cg (cE Ft eX (gJ j0 T.b_len bW (cg (b8 4) cq))) cq)))) (cE ij (cE vh (b8 2) cD) cD)) cq))))) gH)
   (cQ (gI (fQ (gE b) (b8 1) cD) (cR (eK (jL (cg (eh (jL (cg eX (cg eX (cg eX (cg eX cq))))) (cE ij (cE vh (b8 2) cD) cD)) cq)))) gH)
   (cR (eK (cE ej (cE ej (b8 5) (jL (cg (cE ej (cE ej (oq (b8 4) pK (lX (b8 7))) (b8 8)) (oq (b8 4) (lX (cE ej (b8 7) cD)) pK)) cq))) (b8 6))))))))))))))))))) XC (by walk_at"bn")
variable(eJ:Known P w K mg base 1 "_law_changed" 3 z9)
include T in
theorem XS(A:At K mg "_law_parts" (top 47)):Known P w K mg base 1 "_law_parts" 2 Ag:=i7 0 A iN (λf g A outer s H E e=>have d:=e.units;have nd:=iN.nd
 (cR (eK (ko rfl (.of (N':=["_law_k","_law_script","_law_many"]) (m:=[none,some 0,some 1]) (by kernel_rfl)) jK (qA T.b_range (cg (b8 1) cq)) (λs3 b ex=>(dB 0 Xc)) (λs3 b ex=>ku) (λs3 b ex=>(cE ej (oq (b8 1) pK (lX cD)) (ko rfl (.of (N':=["_law_j","_law_script","_law_k","_law_many"]) (m:=[none,some 1,some 0,some 2]) (by kernel_rfl)) jK (VA T.b_range (cg cD (cg (gJ j0 T.b_len bW (cg (b8 1) cq)) cq))) (λs3 b ex=>(dB 0 Xb)) (λs3 b ex=>(zN (fQ (gE d) (cE ij (b8 0) (b8 3)) (b8 2)))) (λs3 b ex=>(eh (b8 1) (b8 0)))))))))) Xi (by walk_at"bn")
variable(fN:Known P w K mg base 1 "_law_parts" 2 Ag)
include T cG in
theorem XR(A:At K mg "_law_digit" (top 43)):Known P w K mg base 2 "_law_digit" 3 wW:=i7 1 A iO (λf e A outer s H E b=>have d:=b.units;have nd:=iO.nd
 (cQ (gI (fQ JG (cE ej (b8 1) cD) (gJ j0 T.b_len bW (cg (b8 0) cq))) (cR (eK (cE ij (fA cG b (cg (eh (b8 0) (cE ej (b8 1) cD)) (cg (cE ij (b8 1) cD) cq))) (b8 2)))) gH)
   (cR (eK (cE ij (fA cG b (cg (gJ (zB rfl) T.b_sum boot_sum (cg (oq (b8 0) pK (lX cD)) cq)) (cg (b8 1) cq))) (b8 2)))))) Xo (by walk_at"bn")
variable(dG:Known P w K mg base 2 "_law_digit" 3 wW)
include T in
theorem WM(A:At K mg "_law_led" (top 44)):Known P w K mg base 1 "_law_led" 3 vn:=i7 0 A j9 (λf e A outer s H E d=>have b:=d.units;have nd:=j9.nd
 (cQ (kR bf rfl (kT (b8 1)) (mW rfl (hX (dB 3 nd) (hX (dB 4 nd) mZ)))
    (cR (gI (pJ (LY J3 EJ cD (b8 3) (gJ j0 T.b_len bW (cg (b8 0) cq))) (pJ (LY J3 EJ cD (b8 4) (gJ j0 T.b_len bW (cg (eh (b8 0) cD) cq))) (um (fQ (Lg b) (eh (eh (b8 0) (b8 3)) (b8 4)) (b8 2))))).pb (cR (eK lz)) gH)))
   (cR (eK lz)))) Wx (by walk_at"bn")
variable(di:Known P w K mg base 1 "_law_led" 3 vn)
include T cG dG di in
theorem X8(A:At K mg "_law_picture" (top 45)):Known P w K mg base 3 "_law_picture" 3 yP:=i7 2 A g8 (λf g A outer s H E b=>have d:=b.units;have nd:=g8.nd
 (cQ (gd 3 (cE ij (fA cG b (cg (gJ (zB rfl) T.b_sum boot_sum (cg (oq (b8 0) pK (lX cD)) cq)) (cg cD cq))) (cE ej (b8 1) cD)) nd)
   (cQ (gd 4 (cE ej cD (cE ij (fA cG b (cg (gJ (zB rfl) T.b_sum boot_sum (cg (oq (b8 0) pK (lX cD)) cq)) (cg cD cq))) (b8 2))) nd)
   (cQ (Ub 5 rfl (.of (N':=["_law_r","_law_width"]) (m:=[none,some 4]) (by kernel_rfl)) jK (qA T.b_range (cg (cE ej (cE rQ cD (b8 3)) cD) cq)) (λs3 e ex=>(dB 0 X1)) (λs3 e ex=>ku) (λs3 e ex=>(QY (jL (cg eX cq)) (cE ej (cE rQ cD (b8 1)) cD))) nd)
   (cQ (gd 6 cD nd)
   (cQ (kR bf rfl (qA T.b_range (cg (b8 3) cq)) (dB 7 nd)
    (cR (kR bf rfl (qA T.b_range (cg (b8 4) cq)) (dB 8 nd)
    (cQ (Gy 5 (cE ej (cE rQ cD (b8 7)) cD) (cE ej (cE rQ cD (b8 8)) cD) (eh eX (fA dG b (cg (b8 0) (cg (b8 6) (cg cD cq))))))
   (cR (gd 6 (cE ej (b8 6) cD) nd))))))
   (cQ (kR bf rfl (qA T.b_range (cg (cE ej (cE rQ cD (b8 3)) cD) cq)) (dB 9 nd)
    (cR (kR bf rfl (qA T.b_range (cg (cE ej (cE rQ cD (b8 4)) cD) cq)) (dB 10 nd)
    (cQ (gI (pJ (fQ (gE d) (cE ij (b8 9) cD) cD) (pJ (fQ (gE d) (cE ij (b8 10) cD) cD) (um (lJ (C1 5 (fA di b (cg (b8 5) (cg (jL (cg (kS (cg (b8 9) (cg (cE u7 (b8 10) cD) cq))) (cg (kS (cg (b8 9) (cg (cE ej (b8 10) cD) cq))) cq))) (cg eX cq))))))))).pb (cQ (Gy 5 (b8 9) (b8 10) (eh eX (fA dG b (cg (b8 0) (cg (b8 6) (cg cD cq))))))
   (cR (gd 6 (cE ej (b8 6) cD) nd))) gH)
   (cR (gI (pJ (fQ (gE d) (cE ij (b8 9) cD) cD) (pJ (fQ (gE d) (cE ij (b8 10) cD) cD) (um (lJ (C1 5 (fA di b (cg (b8 5) (cg (jL (cg (kS (cg (cE u7 (b8 9) cD) (cg (b8 10) cq))) (cg (kS (cg (cE ej (b8 9) cD) (cg (b8 10) cq))) cq))) (cg eX cq))))))))).pb (cQ (Gy 5 (b8 9) (b8 10) (eh eX (fA dG b (cg (b8 0) (cg (b8 6) (cg cD cq))))))
   (cR (gd 6 (cE ej (b8 6) cD) nd))) gH))))))
   (cR (Lp 5))))))))) XF (by walk_at"bn")
variable(dE:Known P w K mg base 3 "_law_picture" 3 yP)
include T in
theorem XO(A:At K mg "_law_shown" (top 46)):Known P w K mg base 1 "_law_shown" 1 Aj:=i7 0 A iK (λf g A outer s H E d=>have e:=d.units;have nd:=iK.nd
 (cR (eK (rV yv (.inr rfl) bD PySem.F.slot_str_join PySem.F.type_str_join eX (cg (ko rfl (.of (N':=["_law_row"]) (m:=[none]) (by kernel_rfl)) jK (kT (b8 0)) (λs3 b ex=>(dB 0 Xa)) (λs3 b ex=>ku) (λs3 b ex=>(rV yv (.inr rfl) bD PySem.F.slot_str_join PySem.F.type_str_join eX (cg (b8 0) cq)))) cq))))) Xn (by walk_at"bn")
variable(fK:Known P w K mg base 1 "_law_shown" 1 Aj)
include T cG fN dE fK in
theorem Xs(A:At K mg "_law_rows" (top 52)):Known P w K mg base 4 "_law_rows" 1 Am:=i7 3 A jj (λf e A outer s H E b=>have d:=b.units;have nd:=jj.nd
 (cQ (gd 1 (fA fN b (cg (b8 0) (cg cD cq))) nd)
   (cQ (gd 2 (fA dE b (cg (eh (b8 1) cD) (cg cD (cg cD cq)))) nd)
   (cQ (gd 3 (fA dE b (cg (eh (b8 1) cD) (cg cD (cg cD cq)))) nd)
   (cQ (pI 4 (jL cq) nd)
   (cQ (kR bf rfl (qA T.b_range (cg (gJ j0 T.b_len bW (cg (eh (b8 2) cD) cq)) cq)) (dB 5 nd)
    (cQ (gd 6 (cE ej (eh (eh (b8 2) (cE u7 (gJ j0 T.b_len bW (cg (b8 2) cq)) cD)) (b8 5)) (eh (eh (b8 3) cD) (b8 5))) nd)
   (cQ (gd 7 (cE ij (fA cG b (cg (gJ (zB rfl) T.b_sum boot_sum (cg (oq (b8 0) pK (lX cD)) cq)) (cg (cE ej cD (b8 5)) cq))) cD) nd)
   (cR (yn 4 (eh (jL (cg eX (cg eX cq))) (MM Ql T.b_int boot_int (cg (vg (oo (gE d) (cE ij (b8 5) cD) cD) (vg (oo (gE d) (b8 6) eX) (yo (oo JF (b8 7) cD)))) cq))))))))
   (yD 4 (cR (eK (rV CW (.inr rfl) bD PySem.F.slot_str_split PySem.F.type_str_split (fA fK b (cg (cE ej (cE ej (b8 2) (jL (cg (b8 4) cq))) (b8 3)) cq)) (cg eX cq))))))))))) WU (by walk_at"bn")
variable(gz:Known P w K mg base 4 "_law_rows" 1 Am)
include T in
theorem Xr(A:At K mg "_law_fits" (top 48)):Known P w K mg base 1 "_law_fits" 3 Ad:=i7 0 A jk (λf e A outer s H E d=>have b:=d.units;have nd:=jk.nd
 (cQ (gI (pJ (fQ (gE b) (cE ij (b8 0) cD) cD) (um (fQ (gE b) (cE ij (b8 1) cD) cD))).pb (cR (eK (oo (zm b) (b8 2) eX))) gH)
   (cQ (gI (fQ (gE b) (cE ij (b8 0) cD) cD) (cR (eK (oo (zm b) (b8 2) eX))) gH)
   (cQ (gI (fQ (gE b) (cE ij (b8 1) cD) cD) (cR (eK (oo (zm b) (b8 2) eX))) gH)
   (cR (eK (oo (gE b) (b8 2) eX))))))) WW (by walk_at"bn")
variable(gA:Known P w K mg base 1 "_law_fits" 3 Ad)
include T di gA in
theorem XN(A:At K mg "_law_right" (top 49)):Known P w K mg base 2 "_law_right" 1 yK:=i7 1 A iL (λf e A outer s H E d=>have b:=d.units;have nd:=iL.nd
 (cQ (gI (fQ (gE b) (cE ij (gJ j0 T.b_len bW (cg (b8 0) cq)) cD) cD) (cR (eK lz)) gH)
   (cQ (kR bf rfl (qA T.b_range (cg (gJ j0 T.b_len bW (cg (b8 0) cq)) cq)) (dB 1 nd)
    (cR (kR bf rfl (qA T.b_range (cg (gJ j0 T.b_len bW (cg (eh (b8 0) (b8 1)) cq)) cq)) (dB 2 nd)
    (cQ (gI (rg (lJ (fA gA d (cg (b8 1) (cg (b8 2) (cg (eh (eh (b8 0) (b8 1)) (b8 2)) cq)))))) (cR (eK lz)) gH)
   (cQ (gd 3 (jL (cg (kS (cg (b8 1) (cg (cE u7 (b8 2) cD) cq))) (cg (kS (cg (b8 1) (cg (cE ej (b8 2) cD) cq))) cq))) nd)
   (cQ (gI (pJ (fQ (gE b) (eh (eh (b8 0) (b8 1)) (b8 2)) eX) (pJ (fQ (gE b) (cE ij (b8 2) cD) cD) (um (rg (lJ (fA di d (cg (b8 0) (cg (b8 3) (cg eX cq))))))))).pb (cR (eK lz)) gH)
   (cQ (gd 3 (jL (cg (kS (cg (cE u7 (b8 1) cD) (cg (b8 2) cq))) (cg (kS (cg (cE ej (b8 1) cD) (cg (b8 2) cq))) cq))) nd)
   (cR (gI (pJ (fQ (gE b) (eh (eh (b8 0) (b8 1)) (b8 2)) eX) (pJ (fQ (gE b) (cE ij (b8 1) cD) cD) (um (rg (lJ (fA di d (cg (b8 0) (cg (b8 3) (cg eX cq))))))))).pb (cR (eK lz)) gH)))))))))
   (cR (eK lz))))) Xm (by walk_at"bn")
variable(fL:Known P w K mg base 2 "_law_right" 1 yK)
include T fL in
theorem XM(A:At K mg "_law_piled" (top 50)):Known P w K mg base 3 "_law_piled" 1 Ah:=i7 2 A iM (λf g A outer s H E d=>have b:=d.units;have nd:=iM.nd
 (cQ (gd 1 (gJ j0 T.b_len bW (cg (eh (b8 0) cD) cq)) nd)
   (cQ (gI (yp (fQ (gE b) (cE ij (b8 1) cD) cD) (yG (fQ JG (b8 1) cD))).pb (cR (eK lz)) gH)
   (cQ (gI (lJ (gJ (Qp rfl) T.b_any boot_any (cg (ko rfl (.of (N':=["_law_row","_law_width"]) (m:=[none,some 1]) (by kernel_rfl)) jK (kT (b8 0)) (λs3 e ex=>(dB 0 Xy)) (λs3 e ex=>ku) (λs3 e ex=>(oo (wA b) (gJ j0 T.b_len bW (cg (b8 0) cq)) (b8 1)))) cq))) (cR (eK lz)) gH)
   (cQ (pI 2 (jL cq) nd)
   (cQ (kR bf rfl (qA T.b_range (cg (cE ej (gJ j0 T.b_len bW (cg (b8 0) cq)) cD) cq)) (dB 3 nd)
    (cR (gI (yp (fQ (gE b) (b8 3) (gJ j0 T.b_len bW (cg (b8 0) cq))) (yG (fQ (gE b) (eh (eh (b8 0) (b8 3)) cD) eX))).pb (cQ (gI (rg (lJ (C1 2 (fA fL d (cg (b8 2) cq))))) (cR (eK lz)) gH)
   (cR (pI 2 (jL cq) nd))) (cR (yn 2 (eh (b8 0) (b8 3)))))))
   (cQ (kR bf rfl (qA T.b_range (cg (gJ j0 T.b_len bW (cg (b8 0) cq)) cq)) (dB 3 nd)
    (cR (kR bf rfl (qA T.b_range (cg (b8 1) cq)) (dB 4 nd)
    (cR (gI (pJ (fQ (gE b) (eh (eh (b8 0) (b8 3)) cD) eX) (um (fQ (wA b) (eh (eh (b8 0) (b8 3)) (b8 4)) eX))).pb (cQ (gI (yp (fQ (wA b) (eh (eh (b8 0) (b8 3)) (b8 4)) eX) (yG (fQ (gE b) (cE ij (b8 4) cD) cD))).pb (cR (eK lz)) gH)
   (cR (gI (yp (fQ (wA b) (eh (eh (b8 0) (cE u7 (b8 3) cD)) (b8 4)) eX) (yG (fQ (wA b) (eh (eh (b8 0) (cE ej (b8 3) cD)) (b8 4)) eX))).pb (cR (eK lz)) gH))) gH)))))
   (cR (eK lz))))))))) Xj (by walk_at"bn")
variable(fM:Known P w K mg base 3 "_law_piled" 1 Ah)
abbrev jm:Stmt:=top 17
theorem fS:ck ["text","rows","columns","stretches","uprights","ends"] ["text"] (b9 jm):=by walk_at"sc"
theorem Ws(A:At K mg "traced" jm)(T:Txt K mg)(fH:Known P w K mg base 3 "is_drawing" 1 yL)(fX:Known P w K mg base 2 "turned" 1 wN)(eF:Known P w K mg base 2 "strands_of" 2 wX)(fb:Known P w K mg base 1 "edge_ends" 4 wQ)(eT:Known P w K mg base 2 "grouped" 2 wR)(gu:Known P w K mg base 1 "joints_of" 3 yJ)(cJ:gr K mg "BadDrawing" bZ [.type "ValueError",.type "Exception",.type "BaseException",.type "object"] "ValueError.__new__"):gS P w K mg base bZ 4 "traced" 1 zZ:=MH (T:=Dm) 3 A fS (λh f g A outer s H E a=>have e:=a.units
 have ⟨d,cY⟩:=T.cY;have ⟨c,cX⟩:=T.cX
 (MI (QV (gd 1 (rV CW (.inr rfl) bD PySem.F.slot_str_split PySem.F.type_str_split (b8 0) (cg eX cq)) fS.nd))
   (MI (QU (rg (lJ (fA fH a (cg (b8 1) cq)))) (T5 (LG cJ PySem.F.excBase_ValueError rfl Ly eX)) (Lx gH))
   (Lx (cQ (gd 2 (fA fX a (cg (b8 1) cq)) fS.nd)
   (cQ (gd 3 (fA eF a (cg (b8 1) (cg (nq cY) cq))) fS.nd)
   (cQ (gd 4 (fA eF a (cg (b8 2) (cg (nq cX) cq))) fS.nd)
   (cQ (pI 5 (fA fb a (cg (b8 1) (cg (b8 3) (cg (nq cY) (cg (kS (cg eX (cg eX cq))) cq))))) fS.nd)
   (cQ (Fp 5 (fA fb a (cg (b8 2) (cg (b8 4) (cg (nq cX) (cg (kS (cg eX (cg eX cq))) cq))))))
   (yD 5 (cR (eK (fA eT a (cg (b8 5) (cg (fA gu a (cg (b8 1) (cg (b8 3) (cg (b8 4) cq)))) cq))))))))))))))) Wd λ_ _ _ _ _ _ us b=>by obtain⟨_,rfl⟩:=Cc b;show rfl
abbrev eV:Stmt:=top 36
theorem eA:ck ["text","rows","borders","groups"] ["text"] (b9 eV):=by walk_at"sc"
theorem Nq:(["number","row"]:List Str).Nodup:=by decide +kernel
theorem XJ:(["part"]:List Str).Nodup:=by decide +kernel
theorem XI:(["border","rows"]:List Str).Nodup:=by decide +kernel
theorem X7(A:At K mg "traced_pile" eV)(T:Txt K mg)(gU:Known P w K mg base 1 "parts_of" 2 yM)(eI:Known P w K mg base 3 "have_borders" 2 yO)(eG:Known P w K mg base 3 "pile_grouped" 2 yQ)(cU:Known P w K mg base 1 "row_joints" 1 uo)(c:gS P w K mg base bZ 4 "traced" 1 zZ)(cJ:gr K mg "BadDrawing" bZ [.type "ValueError",.type "Exception",.type "BaseException",.type "object"] "ValueError.__new__"):gS P w K mg base bZ 5 "traced_pile" 1 Aa:=MH (T:=Dv) 4 A eA (λi f h A outer s H E b=>have g:=b.units
 have ⟨e,dY⟩:=T.dY
 (Dp (EX (gd 1 (rV CW (.inr rfl) bD PySem.F.slot_str_split PySem.F.type_str_split (b8 0) (cg eX cq)) eA.nd))
   (Dp (EX (LU 2 rfl (.of (N':=["number","row"]) (m:=[none,none]) (by kernel_rfl)) wV (uk T.b_enumerate (cg (b8 1) cq)) (λs3 a ex=>(mW rfl (hX (dB 0 Nq) (hX (dB 1 Nq) mZ)))) (λs3 a ex=>(zN (lJ (rV S2 (.inr rfl) bD PySem.F.slot_str_startswith PySem.F.type_str_startswith (b8 1) (cg (nq dY) cq))))) (λs3 a ex=>(b8 0)) eA.nd))
   (Dp (UP 3 rfl (.of (N':=["part"]) (m:=[none]) (by kernel_rfl)) jK (kT (fA gU b (cg (b8 1) (cg (b8 2) cq)))) (λs3 a ex=>(dB 0 XJ)) (λs3 a ex=>ku) (λs3 a ex=>(UA c b (Pe rfl rfl rfl Rr) (Rz (cg (rV yv (.inr rfl) bD PySem.F.slot_str_join PySem.F.type_str_join eX (cg (b8 0) cq)) cq)))) eA.nd)
   (Dp (Rb (rg (lJ (fA eI b (cg (b8 1) (cg (b8 2) cq))))) (Mj (LG cJ PySem.F.excBase_ValueError rfl Ly eX)) (Ry gH))
   (Mj (EX (eK (fA eG b (cg (b8 3) (cg (ko rfl (.of (N':=["border","rows"]) (m:=[none,some 1]) (by kernel_rfl)) jK (kT (b8 2)) (λs3 a ex=>(dB 0 XI)) (λs3 a ex=>ku) (λs3 a ex=>(fA cU b (cg (eh (b8 1) (b8 0)) cq)))) cq))))))))))) zev λ_ _ _ _ _ _ us d=>by obtain⟨_,rfl⟩:=Cc d;show rfl
include T cG eJ gz fM in
theorem Py(d:gS P w K mg base bZ 5 "traced_pile" 1 Aa)(cJ:gr K mg "BadDrawing" bZ [.type "ValueError",.type "Exception",.type "BaseException",.type "object"] "ValueError.__new__")(e9:gr K mg "WireError" c7 [.type "ValueError",.type "Exception",.type "BaseException",.type "object"] "ValueError.__new__")(cS:PySem.W.nsIn K mainGlobals "BadDrawing"=some (some (.ref bZ)))(cI:subIn K bZ c7=true)(EK:wg K bZ)(eE:mg "BadDrawing"=some (.ref bZ))(gR:mg "BadBend"=some (.ref dP))(gQ:mg "BadKeep"=some (.ref dO))(gP:mg "BadPile"=some (.ref dN))(gO:mg "BadText"=some (.ref dJ))(k9:mg "Lone"=some (.ref gV))(fW:mg "NoLayout"=some (.ref du))(jB:mg "NoNet"=some (.ref fP))(gN:mg "NoOrder"=some (.ref dH))(fV:mg "PinTaken"=some (.ref dm))(jA:mg "Taken"=some (.ref fO))(I1:PySem.W.kitOne K (.ref bZ) (.ref bZ)=some true)(I2:PySem.W.kitOne K (.ref bZ) (.type "ValueError")=some true)(I3:PySem.W.kitAny K (.ref bZ) [.ref dP,.ref dO,.ref dN,.ref dJ,.ref gV,.ref du]=some false)(I4:PySem.W.kitAny K (.ref bZ) [.ref fP,.ref dH,.ref dm,.ref fO]=some false){f:Addr}(c:Value)(A:Around)(outer:List Env)(s:Shared)(H:Hp)(E:XK)(a:eQ 5 (A.deeper (envOfC "law" (b9 (top 53)) s.heap.objs.size f c))) :
  oC (pG qS P w K mg base ["_law_script","_law_mix_here","_law_text","_law_caught","_law_found","error"] "law" (b9 (top 53)) f c A outer s H E).vA (dz (top 53)) zy:=
 have i:=a.units;have nd:=sf.nd
 (cQ (gd 1 (fA cG a (cg (gJ (zB rfl) T.b_sum boot_sum (cg (oq (b8 0) (lX cD) (lX cD)) cq)) (cg cD cq))) nd)
   (cQ (gd 2 (rV yv (.inr rfl) bD PySem.F.slot_str_join PySem.F.type_str_join eX (cg (fA eJ a (cg (fA gz a (cg (b8 0) cq)) (cg (cE ij (b8 1) cD) (cg (cE vh (b8 1) cD) cq)))) cq)) nd)
   (cQ (gd 3 yq nd)
   (cQ (pI 4 yq nd)
   (cQ (SY 4 5 3 d a cJ e9 rfl cS cI rfl nd (cg (b8 2) cq))
   (cQ (gI (lJ (fA fM a (cg (rV CW (.inr rfl) bD PySem.F.slot_str_split PySem.F.type_str_split (b8 2) (cg eX cq)) cq))) (cR (eK (vg (oo JE (b8 3) yq) (yo (C1 4 (Q3 (b8 4) T.b_isinstance T.b_list boot_list)))))) gH)
   (cQ (gI (yp (rg (lJ (RC (b:=true) (b8 3) EK cS T.b_isinstance eE I1))) (yG (rg (lJ (RA (b:=true) (b8 3) EK cS T.b_isinstance T.b_ValueError (by decide +kernel) I2))))).pb (cR (eK lz)) gH)
   (cQ (gI (lJ (Ml (cs:=[("BadBend",dP,_),("BadKeep",dO,_),("BadPile",dN,_),("BadText",dJ,_),("Lone",gV,_),("NoLayout",du,_)]) (b:=false) (b8 3) EK cS T.b_isinstance (bS.mpr ⟨⟨gR,rfl,show(("BadBend":Str)==("__debug__":Str))=false by decide⟩,(bS.mpr ⟨⟨gQ,rfl,show(("BadKeep":Str)==("__debug__":Str))=false by decide⟩,(bS.mpr ⟨⟨gP,rfl,show(("BadPile":Str)==("__debug__":Str))=false by decide⟩,(bS.mpr ⟨⟨gO,rfl,show(("BadText":Str)==("__debug__":Str))=false by decide⟩,(bS.mpr ⟨⟨k9,rfl,show(("Lone":Str)==("__debug__":Str))=false by decide⟩,(bS.mpr ⟨⟨fW,rfl,show(("NoLayout":Str)==("__debug__":Str))=false by decide⟩,(λ_ h=>nomatch h)⟩)⟩)⟩)⟩)⟩)⟩) I3 (show 6<=sizeLine by decide +kernel) (by intro g h;obtain⟨l,e⟩:=h;subst e;rcases l with _ | _ | _ | _ | _ | _ | _ | _<;>rfl))) (cR (eK lz)) gH)
   (cR (eK (Qt (Ml (cs:=[("NoNet",fP,_),("NoOrder",dH,_),("PinTaken",dm,_),("Taken",fO,_)]) (b:=false) (b8 3) EK cS T.b_isinstance (bS.mpr ⟨⟨jB,rfl,show(("NoNet":Str)==("__debug__":Str))=false by decide⟩,(bS.mpr ⟨⟨gN,rfl,show(("NoOrder":Str)==("__debug__":Str))=false by decide⟩,(bS.mpr ⟨⟨fV,rfl,show(("PinTaken":Str)==("__debug__":Str))=false by decide⟩,(bS.mpr ⟨⟨jA,rfl,show(("Taken":Str)==("__debug__":Str))=false by decide⟩,(λ_ h=>nomatch h)⟩)⟩)⟩)⟩) I4 (show 4<=sizeLine by decide +kernel) (by intro g h;obtain⟨l,e⟩:=h;subst e;rcases l with _ | _ | _ | _ | _ | _<;>rfl)))))))))))))
theorem xp{fa:Addr}(T:Txt K mg)(Z:At K mg "have_form" (top 19)/\At K mg "signs_at" (top 21)/\At K mg "have_signs" (top 20)/\At K mg "holds_on" (top 22)/\At K mg "signs_down" (top 24)/\At K mg "turned" (top 23)/\At K mg "is_drawing" (top 18)/\At K mg "line_strands" (top 26)/\At K mg "strands_of" (top 25)/\At K mg "edge_ends" (top 27)/\At K mg "firsts_of" (top 30)/\At K mg "grouped" (top 29)/\At K mg "joints_of" (top 28)/\At K mg "parts_of" (top 37)/\At K mg "row_joints" (top 40)/\At K mg "border_row" (top 34)/\At K mg "is_border" (top 39)/\At K mg "have_borders" (top 38)/\At K mg "pile_grouped" (top 35)/\At K mg "_law_mix" (top 42)/\At K mg "_law_changed" (top 51)/\At K mg "_law_parts" (top 47)/\At K mg "_law_digit" (top 43)/\At K mg "_law_led" (top 44)/\At K mg "_law_picture" (top 45)/\At K mg "_law_shown" (top 46)/\At K mg "_law_rows" (top 52)/\At K mg "_law_fits" (top 48)/\At K mg "_law_right" (top 49)/\At K mg "_law_piled" (top 50)/\At K mg "law" (top 53)/\True)(la:At K mg "traced" jm)(gD:At K mg "traced_pile" eV)(cJ:gr K mg "BadDrawing" bZ [.type "ValueError",.type "Exception",.type "BaseException",.type "object"] "ValueError.__new__")(e9:gr K mg "WireError" c7 [.type "ValueError",.type "Exception",.type "BaseException",.type "object"] "ValueError.__new__")(cS:PySem.W.nsIn K mainGlobals "BadDrawing"=some (some (.ref bZ)))(cI:subIn K bZ c7=true)(EK:wg K bZ)(eE:mg "BadDrawing"=some (.ref bZ))(gR:mg "BadBend"=some (.ref dP))(gQ:mg "BadKeep"=some (.ref dO))(gP:mg "BadPile"=some (.ref dN))(gO:mg "BadText"=some (.ref dJ))(k9:mg "Lone"=some (.ref gV))(fW:mg "NoLayout"=some (.ref du))(jB:mg "NoNet"=some (.ref fP))(gN:mg "NoOrder"=some (.ref dH))(fV:mg "PinTaken"=some (.ref dm))(jA:mg "Taken"=some (.ref fO))(I1:PySem.W.kitOne K (.ref bZ) (.ref bZ)=some true)(I2:PySem.W.kitOne K (.ref bZ) (.type "ValueError")=some true)(I3:PySem.W.kitAny K (.ref bZ) [.ref dP,.ref dO,.ref dN,.ref dJ,.ref gV,.ref du]=some false)(I4:PySem.W.kitAny K (.ref bZ) [.ref fP,.ref dH,.ref dm,.ref fO]=some false)(uL:mg "law"=some (.ref fa)):∃fd:FuncData,(∀(s:Shared)(u:Value),BindsTo s fd ⟨[u],[]⟩ [("_law_script",u)])/\∀base:Heap,jY P w K mg base qS 6 fa fd ["_law_script"] (zh K 1 (EN 63)):=by
 obtain⟨o,i,D,g,J,b,F,Q,L,m,n,d,q,h,I,C,p,O,R,e,M,x,v,j,N,B,t,r,z,y,Y,_⟩:=Z;show Q2 (T:=λ_=>zy) Y uL sf (by walk_at"bn") (λbase f X A outer s H E U=>?_) (λ_=>Te);have gx:Known P w K mg base 1 "have_form" 1 Ae:=Xx T o;have gT:Known P w K mg base 1 "signs_at" 2 zW:=WR T i;have fI:Known P w K mg base 2 "have_signs" 1 Al:=XZ T gT D;have fY:Known P w K mg base 1 "holds_on" 2 yN:=WQ T g;have fG:Known P w K mg base 1 "signs_down" 2 Ak:=XY T J;have fX:Known P w K mg base 2 "turned" 1 wN:=Wa T fG b;have fH:Known P w K mg base 3 "is_drawing" 1 yL:=XX T gx fI fY fX F;have eH:Known P w K mg base 1 "line_strands" 3 Ab:=X5 T Q;have eF:Known P w K mg base 2 "strands_of" 2 wX:=XW T eH L;have fb:Known P w K mg base 1 "edge_ends" 4 wQ:=Xw T m;have gy:Known P w K mg base 1 "firsts_of" 1 Af:=Xv T n;have eT:Known P w K mg base 2 "grouped" 2 wR:=Wt T gy d;have gu:Known P w K mg base 1 "joints_of" 3 yJ:=Xu T q;have gU:Known P w K mg base 1 "parts_of" 2 yM:=WO T h;have cU:Known P w K mg base 1 "row_joints" 1 uo:=XU T I;have fJ:Known P w K mg base 1 "border_row" 1 Ai:=XT T C;have gw:Known P w K mg base 2 "is_border" 3 Ac:=Xt T cU fJ p;have eI:Known P w K mg base 3 "have_borders" 2 yO:=X4 T gw O;have eG:Known P w K mg base 3 "pile_grouped" 2 yQ:=X3 T eT R;have cG:Known P w K mg base 1 "_law_mix" 2 tP:=WN T e;have eJ:Known P w K mg base 1 "_law_changed" 3 z9:=X9 T M;have fN:Known P w K mg base 1 "_law_parts" 2 Ag:=XS T x;have dG:Known P w K mg base 2 "_law_digit" 3 wW:=XR T cG v;have di:Known P w K mg base 1 "_law_led" 3 vn:=WM T j;have dE:Known P w K mg base 3 "_law_picture" 3 yP:=X8 T cG dG di N;have fK:Known P w K mg base 1 "_law_shown" 1 Aj:=XO T B;have gz:Known P w K mg base 4 "_law_rows" 1 Am:=Xs T cG fN dE fK t;have gA:Known P w K mg base 1 "_law_fits" 3 Ad:=Xr T r;have fL:Known P w K mg base 2 "_law_right" 1 yK:=XN T di gA z;have fM:Known P w K mg base 3 "_law_piled" 1 Ah:=XM T fL y;have S:gS P w K mg base bZ 4 "traced" 1 zZ:=Ws la T fH fX eF fb eT gu cJ;have V:gS P w K mg base bZ 5 "traced_pile" 1 Aa:=X7 gD T gU eI eG cU S cJ;show Py T cG eJ gz fM V cJ e9 cS cI EK eE gR gQ gP gO k9 fW jB gN fV jA I1 I2 I3 I4 X A outer s H E U
end
end Wc
open PySem PySem.W PyProof.Rows
theorem PySem.W.Fast.te4936071682838339832:True:=trivial
noncomputable def PySem.W.Fast.tw17475789372624859050:PySem.Program:=PySem.Challenge.pw_wirechannel_k75_no_piles
theorem PySem.W.Fast.te17475789372624859050:PySem.Challenge.pw_wirechannel_k75_no_piles=PySem.W.Fast.tw17475789372624859050:=rfl
noncomputable def PySem.W.Fast.tw1081576911316836321:List PySem.Stmt:=(PySem.Challenge.pw_wirechannel_k75_no_piles.main.body.drop 0).take 2
theorem PySem.W.Fast.te1081576911316836321:(PySem.Challenge.pw_wirechannel_k75_no_piles.main.body.drop 0).take 2=PySem.W.Fast.tw1081576911316836321:=rfl
noncomputable def PySem.W.Fast.tw10286665839217244424:List PySem.Stmt:=(PySem.Challenge.pw_wirechannel_k75_no_piles.main.body.drop 2).take 1
theorem PySem.W.Fast.te10286665839217244424:(PySem.Challenge.pw_wirechannel_k75_no_piles.main.body.drop 2).take 1=PySem.W.Fast.tw10286665839217244424:=rfl
noncomputable def PySem.W.Fast.tw4492718156055590691:List PySem.Stmt:=(PySem.Challenge.pw_wirechannel_k75_no_piles.main.body.drop 3).take 1
theorem PySem.W.Fast.te4492718156055590691:(PySem.Challenge.pw_wirechannel_k75_no_piles.main.body.drop 3).take 1=PySem.W.Fast.tw4492718156055590691:=rfl
noncomputable def PySem.W.Fast.tw2274389946161604149:List PySem.Stmt:=(PySem.Challenge.pw_wirechannel_k75_no_piles.main.body.drop 4).take 1
theorem PySem.W.Fast.te2274389946161604149:(PySem.Challenge.pw_wirechannel_k75_no_piles.main.body.drop 4).take 1=PySem.W.Fast.tw2274389946161604149:=rfl
noncomputable def PySem.W.Fast.tw1291051678017962919:List PySem.Stmt:=(PySem.Challenge.pw_wirechannel_k75_no_piles.main.body.drop 5).take 1
theorem PySem.W.Fast.te1291051678017962919:(PySem.Challenge.pw_wirechannel_k75_no_piles.main.body.drop 5).take 1=PySem.W.Fast.tw1291051678017962919:=rfl
noncomputable def PySem.W.Fast.tw5426034058676243090:List PySem.Stmt:=(PySem.Challenge.pw_wirechannel_k75_no_piles.main.body.drop 6).take 1
theorem PySem.W.Fast.te5426034058676243090:(PySem.Challenge.pw_wirechannel_k75_no_piles.main.body.drop 6).take 1=PySem.W.Fast.tw5426034058676243090:=rfl
noncomputable def PySem.W.Fast.tw8161861718104786254:List PySem.Stmt:=(PySem.Challenge.pw_wirechannel_k75_no_piles.main.body.drop 7).take 1
theorem PySem.W.Fast.te8161861718104786254:(PySem.Challenge.pw_wirechannel_k75_no_piles.main.body.drop 7).take 1=PySem.W.Fast.tw8161861718104786254:=rfl
noncomputable def PySem.W.Fast.tw6814989474794377380:List PySem.Stmt:=(PySem.Challenge.pw_wirechannel_k75_no_piles.main.body.drop 8).take 1
theorem PySem.W.Fast.te6814989474794377380:(PySem.Challenge.pw_wirechannel_k75_no_piles.main.body.drop 8).take 1=PySem.W.Fast.tw6814989474794377380:=rfl
noncomputable def PySem.W.Fast.tw11934678359141861114:List PySem.Stmt:=(PySem.Challenge.pw_wirechannel_k75_no_piles.main.body.drop 9).take 1
theorem PySem.W.Fast.te11934678359141861114:(PySem.Challenge.pw_wirechannel_k75_no_piles.main.body.drop 9).take 1=PySem.W.Fast.tw11934678359141861114:=rfl
noncomputable def PySem.W.Fast.tw17040129617568286115:List PySem.Stmt:=(PySem.Challenge.pw_wirechannel_k75_no_piles.main.body.drop 10).take 1
theorem PySem.W.Fast.te17040129617568286115:(PySem.Challenge.pw_wirechannel_k75_no_piles.main.body.drop 10).take 1=PySem.W.Fast.tw17040129617568286115:=rfl
noncomputable def PySem.W.Fast.tw4376924796692127187:List PySem.Stmt:=(PySem.Challenge.pw_wirechannel_k75_no_piles.main.body.drop 11).take 1
theorem PySem.W.Fast.te4376924796692127187:(PySem.Challenge.pw_wirechannel_k75_no_piles.main.body.drop 11).take 1=PySem.W.Fast.tw4376924796692127187:=rfl
noncomputable def PySem.W.Fast.tw14831670513160177159:List PySem.Stmt:=(PySem.Challenge.pw_wirechannel_k75_no_piles.main.body.drop 12).take 10
theorem PySem.W.Fast.te14831670513160177159:(PySem.Challenge.pw_wirechannel_k75_no_piles.main.body.drop 12).take 10=PySem.W.Fast.tw14831670513160177159:=rfl
noncomputable def PySem.W.Fast.tw10951108066076887189:List PySem.Stmt:=(PySem.Challenge.pw_wirechannel_k75_no_piles.main.body.drop 22).take 16
theorem PySem.W.Fast.te10951108066076887189:(PySem.Challenge.pw_wirechannel_k75_no_piles.main.body.drop 22).take 16=PySem.W.Fast.tw10951108066076887189:=rfl
noncomputable def PySem.W.Fast.tw10119562594030221548:List PySem.Stmt:=(PySem.Challenge.pw_wirechannel_k75_no_piles.main.body.drop 38).take 14
theorem PySem.W.Fast.te10119562594030221548:(PySem.Challenge.pw_wirechannel_k75_no_piles.main.body.drop 38).take 14=PySem.W.Fast.tw10119562594030221548:=rfl
noncomputable def PySem.W.Fast.tw7527713526478216686:List PySem.Stmt:=(PySem.Challenge.pw_wirechannel_k75_no_piles.main.body.drop 52).take 2
theorem PySem.W.Fast.te7527713526478216686:(PySem.Challenge.pw_wirechannel_k75_no_piles.main.body.drop 52).take 2=PySem.W.Fast.tw7527713526478216686:=rfl
namespace PySem.W.Fast
def tw12483308873509945549:=Nat
def tw8782500499747108305:=Nat
def tw17837425839126405248:=Nat
def tw6667692056444482490:=Nat
def tw3185316171527920416:=Nat
def tw11431599114574765663:=Nat
def tw10534986145770898106:=Nat
def tw13227055520863856929:=Nat
def tw7914462387218867199:=Nat
def tw16136998051313656022:=Nat
def tw18140029353219075510:=Nat
def tw2637723082336289983:=Nat
def tw9705689649075192798:=Nat
def tw12624797245528698564:=Nat
def tw5058838454497998693:=Nat
def tw9350724336319208867:=Nat
def tw5204025414568361419:=Nat
def tw2456391173585350945:=Nat
def tw6416166696380691607:=Nat
def tw16756500801210831922:=Nat
def tw16254122127057712787:=Nat
def tw17855370001026944505:=Nat
def tw12687476257991733545:=Nat
def tw12988600751404147218:=Nat
def tw96312381910437997:=Nat
def tw13154592116888497304:=Nat
def tw5201951122706452897:=Nat
def tw15110277282386811630:=Nat
def tw16508860372745254500:=Nat
def tw3548989263607488527:=Nat
def tw18182968632835151532:=Nat
def tw2118688378339468851:=Nat
def tw16486748946286156047:=Nat
def tw10476118867713910741:=Nat
def tw2447346632288567329:=Nat
def tw16792642720410409973:=Nat
def tw15849312354453580663:=Nat
def tw12782615379311609755:=Nat
def tw2782807172034984292:=Nat
def tw6653403611038654814:=Nat
def tw3615830492511778515:=Nat
def tw16288500909071719257:=Nat
def tw15771555206500430253:=Nat
def tw120430419363314773:=Nat
def tw3835399124340311664:=Nat
def tw16431743851120795318:=Nat
def tw3479735744102175251:=Nat
def tw13496967060957520382:=Nat
def tw17598862204121579030:=Nat
def tw17896824658963545196:=Nat
def tw13011444152300650016:=Nat
def tw11070941169717761763:=Nat
def tw4428223336928943996:=Nat
def tw14624937146381545170:=Nat
def tw4346911032902264592:=Nat
def tw14481121983009143360:=Nat
def tw1850868324539524463:=Nat
def tw4482782085841152827:=Nat
def tw13370668830155137308:=Nat
def tw6581355688853181172:=Nat
def tw17958567299241072203:=Nat
def tw8306608790071653675:=Nat
def tw3367268076997350898:=Nat
def tw4917101190716746194:=Nat
def tw2415801416247703701:=Nat
def tw8187700466145375594:=Nat
def tw5919929096317830748:=Nat
def tw7765945004466884696:=Nat
def tw1171555547716391532:=Nat
def tw10347055812523653385:=Nat
def tw2910914248818767450:=Nat
def tw8617216430396259670:=Nat
def tw15990614415299364366:=Nat
def tw9266046736888640578:=Nat
def tw11085626715526851897:=Nat
def tw15833411312848562120:=Nat
def tw17448956286442520820:=Nat
def tw17366172354971676386:=Nat
def tw10329092277016630346:=Nat
def tw4643491988202175741:=Nat
def tw13225793284676641684:=Nat
def tw16132490316264488443:=Nat
def tw6176279058558959391:=Nat
def tw1819278247315601733:=Nat
def tw5344749519498597029:=Nat
def tw4314659415079116600:=Nat
def tw7597190312353402837:=Nat
def tw9447786298684025274:=Nat
def tw714322558208104764:=Nat
def tw3884567921565865626:=Nat
def tw13557998918906659919:=Nat
def tw1263760213269809448:=Nat
def tw15872863738057583294:=Nat
def tw4201642514083717958:=Nat
def tw1703275202455062240:=Nat
def tw15175657995100401390:=Nat
def tw7672414897267608786:=Nat
def tw4856373509176857306:=Nat
def tw17138437594196029370:=Nat
def tw11046771399113260141:=Nat
def tw5508273401025720488:=Nat
def tw15617414778418722688:=Nat
def tw10623648364174926149:=Nat
def tw17539392258287791564:=Nat
def tw4200615807616497887:=Nat
def tw10751810582778886029:=Nat
def tw13242819776677280187:=Nat
def tw18408439415480112074:=Nat
def tw12961794109128262309:=Nat
def tw4004769294012432343:=Nat
def tw15450646840901166273:=Nat
def tw17220093926415610351:=Nat
def tw13224904685939448876:=Nat
def tw15348083661788272815:=Nat
def tw853354284031610710:=Nat
def tw17344084941029868563:=Nat
def tw5784545242191423377:=Nat
def tw10344751717828527863:=Nat
def tw399069559826970281:=Nat
def tw17494615310255347733:=Nat
def tw5587597867299331341:=Nat
def tw4211021582012131297:=Nat
def tw7793978817593141645:=Nat
def tw8348041205101970758:=Nat
def tw14832263102984830570:=Nat
def tw13114356766412930949:=Nat
def tw13884960620768895776:=Nat
def tw7021601566621023911:=Nat
def tw5777086606548503732:=Nat
def tw4515816460897411952:=Nat
def tw14950217918854285195:=Nat
def tw1848919182297740262:=Nat
def tw11144655047548837416:=Nat
def tw4854692149884500496:=Nat
def tw4041088144306439217:=Nat
def tw15270595721764722292:=Nat
def tw9064320263687185714:=Nat
def tw16815591764430215964:=Nat
def tw12287295040421740002:=Nat
def tw7489034870355525783:=Nat
def tw14544109775913154804:=Nat
def tw17200321163634273748:=Nat
def tw11304275242677557349:=Nat
def tw13557462609346006114:=Nat
def tw13136267886964237309:=Nat
def tw3383315538704081426:=Nat
def tw8798743257694772211:=Nat
def tw5208602676595062942:=Nat
def tw7771429396660680304:=Nat
def tw8536325473198994577:=Nat
def tw5106226495314260745:=Nat
def tw3099501805642593664:=Nat
def tw16256104849642031109:=Nat
def tw3064762687545996621:=Nat
def tw12062791960012690266:=Nat
def tw13696856976911611103:=Nat
def tw5399495096267293463:=Nat
def tw7096752015464547867:=Nat
def tw12732518803394279856:=Nat
def tw6340513889993515208:=Nat
def tw7218454209725504420:=Nat
def tw13629449050677601667:=Nat
def tw11809763970748574463:=Nat
def tw6981431465614834363:=Nat
def tw17132019572816452277:=Nat
def tw15686900566937190471:=Nat
def tw9554769452662395080:=Nat
def tw7675006796500409550:=Nat
def tw12352177007830407360:=Nat
def tw5676870418973231338:=Nat
def tw15404242839664751615:=Nat
def tw8634510383348614362:=Nat
def tw1369540721692707449:=Nat
def tw5127971080967170387:=Nat
def tw10164271928735565430:=Nat
def tw2841407602279968123:=Nat
def tw2449934266654016150:=Nat
def tw3917445277175198510:=Nat
def tw2640514777998920334:=Nat
def tw1298662447225549087:=Nat
def tw4794005968010411062:=Nat
def tw11482646940112112940:=Nat
def tw15888302164102169682:=Nat
def tw11909845215378917918:=Nat
def tw13863653944343305015:=Nat
def tw2001481723308666772:=Nat
def tw1590050126473602492:=Nat
def tw16034761317904347822:=Nat
def tw16435424220949412231:=Nat
def tw17408541404529424513:=Nat
def tw10207533402295123:=Nat
def tw8317264862618260609:=Nat
def tw4103212115562637083:=Nat
def tw10344111771112538536:=Nat
def tw1521376000865842673:=Nat
def tw12138359213943239317:=Nat
def tw13123466984965765921:=Nat
def tw10161775911614181722:=Nat
def tw2939019339139913998:=Nat
def tw1584470962151199853:=Nat
def tw2496353544729988349:=Nat
def tw1911708100134028421:=Nat
def tw12146881375199280986:=Nat
def tw12077962492604943885:=Nat
def tw16102833419591366395:=Nat
def tw12189869909508831208:=Nat
def tw6797273699935559870:=Nat
def tw6357858004159496203:=Nat
def tw11975906762662352205:=Nat
def tw6110531540857303682:=Nat
def tw9415767832412702663:=Nat
def tw15225615341750919668:=Nat
def tw13738819696358038454:=Nat
def tw17303057913435314008:=Nat
def tw16221688929261232536:=Nat
def tw1728834918934455797:=Nat
def tw5490421026774434109:=Nat
def tw8524395199268899302:=Nat
def tw13343504174107223457:=Nat
def tw10358991872216874724:=Nat
def tw6661002546982201478:=Nat
def tw1959025762360941785:=Nat
def tw15377280201069649907:=Nat
def tw14425360397917077863:=Nat
def tw5799303078256117452:=Nat
def tw9997662805849416767:=Nat
def tw7297727832195911031:=Nat
def tw4221321401552425324:=Nat
def tw14445265240220905707:=Nat
def tw11395231404601849941:=Nat
def tw8558450562158952781:=Nat
def tw3152920554832685365:=Nat
def tw8587932390665692031:=Nat
def tw4069127271568830367:=Nat
def tw17953894796144121160:=Nat
def tw4747756692684577475:=Nat
def tw11312811657113318326:=Nat
def tw13073380738044390973:=Nat
def tw6145900463715610077:=Nat
def tw8975369886299211571:=Nat
def tw3377886021035193870:=Nat
def tw4304906432403607448:=Nat
def tw17280174490945688912:=Nat
end PySem.W.Fast
noncomputable def PySem.W.Fast.tw10442500050927628509:PySem.Program:={ PySem.Challenge.pw_wirechannel_k75_no_piles with main:={ PySem.Challenge.pw_wirechannel_k75_no_piles.main with body:=[1,2,3,4,5,6,7,8,9,10,11,12,14,15,16,17,18,19,20,21,22,23,24,25,26,27,28,29,30,32,33,34,35,36,37,38,39,40,42,43,44,45,46,47,48,49,50,51,52,53].map λi=>PySem.Challenge.pw_wirechannel_k75_no_piles.main.body.getD i (.Pass ⟨0,0,0,0⟩) } }
theorem PySem.W.Fast.te10442500050927628509:({ PySem.Challenge.pw_wirechannel_k75_no_piles with main:={ PySem.Challenge.pw_wirechannel_k75_no_piles.main with body:=[1,2,3,4,5,6,7,8,9,10,11,12,14,15,16,17,18,19,20,21,22,23,24,25,26,27,28,29,30,32,33,34,35,36,37,38,39,40,42,43,44,45,46,47,48,49,50,51,52,53].map λi=>PySem.Challenge.pw_wirechannel_k75_no_piles.main.body.getD i (.Pass ⟨0,0,0,0⟩) } }:PySem.Program)=PySem.W.Fast.tw10442500050927628509:=rfl
local macro_rules | `(tactic| walk_at"A")=>`(tactic| ((try dsimp only[L2.nU]);refine' L2.sY KX G ?a ?l ?c ?k;(case a=>k_is);(case l=>k_is);(case c=>k_is);(case k=>k_is)))
theorem PySem.Challenge.cw_wirechannel_k75_no_piles_holds : PySem.Challenge.rw_wirechannel_k75_no_piles.Holds := by
 w_on;o_law;k_head;(case hw=>w_witness2)
 k_fill
 show L2.qB (l:=PySem.Challenge.rw_wirechannel_k75_no_piles) (n:=63) (k:=6) (x:="_law_script") rfl (by decide) rfl ⟨rfl,by decide,by decide⟩ (λw h Y=>PySem.W.kIn_of Y) ?F
 case F=>
  intro w mg fa h KX G uL;have la:L2.At (L2.nU KX) mg "traced" Wc.jm:=by
   dsimp only[L2.nU];refine' L2.sY KX G ?a ?l ?c ?k
   (case a=>k_is);(case l=>k_is);(case c=>k_is);(case k=>k_is)
  have gD:L2.At (L2.nU KX) mg "traced_pile" Wc.eV:=by
   dsimp only[L2.nU];refine' L2.sY KX G ?a ?l ?c ?k
   (case a=>k_is);(case l=>k_is);(case c=>k_is);(case k=>k_is)
  have dY:∃t,mg "BORDER"=some (.str "=" t):=by
   refine' L2.jx KX G ?c ?e
   (case c=>k_is)
   (case e=>show rfl)
  have cP:∃t,mg "CROSSINGS"=some (.str "+#" t):=by
   refine' L2.jx KX G ?c ?e
   (case c=>k_is)
   (case e=>show rfl)
  have gq:∃t,mg "JOINT"=some (.str "|" t):=by
   refine' L2.jx KX G ?c ?e
   (case c=>k_is)
   (case e=>show rfl)
  have cY:∃t,mg "STRETCH"=some (.str "-" t):=by
   refine' L2.jx KX G ?c ?e
   (case c=>k_is)
   (case e=>show rfl)
  have cX:∃t,mg "UPRIGHT"=some (.str "|" t):=by
   refine' L2.jx KX G ?c ?e
   (case c=>k_is)
   (case e=>show rfl)
  have T:Wc.Txt (L2.nU KX) mg:=by
   dsimp only[L2.nU];refine' ⟨bx KX G ?b_ValueError,bx KX G ?b_all,bx KX G ?b_any,bx KX G ?b_dict,bx KX G ?b_enumerate,bx KX G ?b_int,bx KX G ?b_isinstance,bx KX G ?b_len,bx KX G ?b_list,bx KX G ?b_max,bx KX G ?b_range,bx KX G ?b_set,bx KX G ?b_sorted,bx KX G ?b_sum,bx KX G ?b_zip,dY,cP,gq,cY,cX⟩
   (case b_ValueError=>k_is)
   (case b_all=>k_is)
   (case b_any=>k_is)
   (case b_dict=>k_is)
   (case b_enumerate=>k_is)
   (case b_int=>k_is)
   (case b_isinstance=>k_is)
   (case b_len=>k_is)
   (case b_list=>k_is)
   (case b_max=>k_is)
   (case b_range=>k_is)
   (case b_set=>k_is)
   (case b_sorted=>k_is)
   (case b_sum=>k_is)
   (case b_zip=>k_is)
  have BS:∃bZ:Addr,mg "BadDrawing"=some (.ref bZ)/\∃c7:Addr,mg "WireError"=some (.ref c7)/\∃dP:Addr,mg "BadBend"=some (.ref dP)/\∃dO:Addr,mg "BadKeep"=some (.ref dO)/\∃dN:Addr,mg "BadPile"=some (.ref dN)/\∃dJ:Addr,mg "BadText"=some (.ref dJ)/\∃gV:Addr,mg "Lone"=some (.ref gV)/\∃du:Addr,mg "NoLayout"=some (.ref du)/\∃fP:Addr,mg "NoNet"=some (.ref fP)/\∃dH:Addr,mg "NoOrder"=some (.ref dH)/\∃dm:Addr,mg "PinTaken"=some (.ref dm)/\∃fO:Addr,mg "Taken"=some (.ref fO)/\(L2.gr (L2.nU KX) mg "BadDrawing" bZ [.type "ValueError",.type "Exception",.type "BaseException",.type "object"] "ValueError.__new__")/\(L2.gr (L2.nU KX) mg "WireError" c7 [.type "ValueError",.type "Exception",.type "BaseException",.type "object"] "ValueError.__new__")/\(PySem.W.nsIn (L2.nU KX) mainGlobals "BadDrawing"=some (some (.ref bZ)))/\(L2.subIn (L2.nU KX) bZ c7=true)/\(L2.wg (L2.nU KX) bZ)/\(PySem.W.kitOne (L2.nU KX) (.ref bZ) (.ref bZ)=some true)/\(PySem.W.kitOne (L2.nU KX) (.ref bZ) (.type "ValueError")=some true)/\(PySem.W.kitAny (L2.nU KX) (.ref bZ) [.ref dP,.ref dO,.ref dN,.ref dJ,.ref gV,.ref du]=some false)/\(PySem.W.kitAny (L2.nU KX) (.ref bZ) [.ref fP,.ref dH,.ref dm,.ref fO]=some false):=by
   dsimp only[L2.nU];show⟨_,bT KX G (by k_is),_,bT KX G (by k_is),_,bT KX G (by k_is),_,bT KX G (by k_is),_,bT KX G (by k_is),_,bT KX G (by k_is),_,bT KX G (by k_is),_,bT KX G (by k_is),_,bT KX G (by k_is),_,bT KX G (by k_is),_,bT KX G (by k_is),_,bT KX G (by k_is),⟨bT KX G (by k_is),by k_exc⟩,⟨bT KX G (by k_is),by k_exc⟩,by k_is,Wc.r0 (by k_is),⟨by k_is,by k_is,by k_is,by k_is,by k_is,by k_is,by k_is,by k_is⟩,by kit_is,by kit_is,by kit_is,by kit_is⟩
  obtain⟨bZ,eE,c7,wc,dP,gR,dO,gQ,dN,gP,dJ,gO,gV,k9,du,fW,fP,jB,dH,gN,dm,fV,fO,jA,cJ,e9,cS,cI,EK,I1,I2,I3,I4⟩:=BS;show Wc.xp T  ⟨by walk_at"A",by walk_at"A",by walk_at"A",by walk_at"A",by walk_at"A",by walk_at"A",by walk_at"A",by walk_at"A",by walk_at"A",by walk_at"A",by walk_at"A",by walk_at"A",by walk_at"A",by walk_at"A",by walk_at"A",by walk_at"A",by walk_at"A",by walk_at"A",by walk_at"A",by walk_at"A",by walk_at"A",by walk_at"A",by walk_at"A",by walk_at"A",by walk_at"A",by walk_at"A",by walk_at"A",by walk_at"A",by walk_at"A",by walk_at"A",by walk_at"A",trivial⟩ la gD cJ e9 cS cI EK eE gR gQ gP gO k9 fW jB gN fV jA I1 I2 I3 I4 uL
#print axioms PySem.Challenge.cw_wirechannel_k75_no_piles_holds
