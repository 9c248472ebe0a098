import PyProof.Rows.All
import Wide.All
import OpenK.AllK
import Wide.FinOn
import Lean
import PyProof.EqAt
import PyProof.EqKinds
import PyProof.TupleCall
import PyProof.NeKinds
import PyProof.SliceStr2
import PyProof.ConsumeWalk
import KE.KDictSum
import PyProof.DictWalks
import PyProof.AttrMissSeq
import KE.KDictOf
import PyProof.WalksS
import PyProof.Walks
import PyProof.DictList
import PyProof.MeetsDict
import PyProof.FactsAll.dict_3
import PyProof.MinMaxWalk
import PyProof.WalkInts
import PyProof.Rows.CallKwBuiltin
import PyProof.MaxThree
import PyProof.Rows.SortRunsK
import KE.KSortAsk
import PyProof.Rows.SortShellK
import KE.KSortTup
import PyProof.DictRoadsH
import PyProof.DictIter
import KE.KDictList
import PyProof.ZipIter
import PyProof.TupleIter
import PyProof.WalksMore
import PyProof.SumWalkG
import PyProof.DictValues
import PyProof.FactsAll.dict_4
import PySem.SetOps
import OpenK.KMore
import PyProof.ListRange
import PyProof.DictItems
import PyProof.CallStr
import KE.KIntText
import PyProof.StrCalls2
import PyProof.Rows.StrItems
import PyProof.FactsAll.NoneType
import KE.KTryOn
import PyProof.Draws
import PyProof.EnumMake
import PyProof.Rows.Range3
import KE.KRevIter
import PyProof.ListStr
import PyProof.NsDelKeeps
import PyProof.RulesAs
import KE.KIsAll
import PyProof.ExcArgsOwn
import KE.KFind
import PyProof.ExcInit
import KE.KTryMore
import PySem.Challenge.RW_wirechannel_k34_the_better_one
abbrev J':=PySem.W.Frag
set_option hygiene false
set_option compiler.extract_closed false
noncomputable section
local macro_rules|`(tactic|omega)=>`(tactic|first|decide|lia)
local macro_rules|`(tactic|ext)=>`(tactic|omega)
local macro_rules|`(tactic|show $t)=>`(tactic|refine $t)
set_option Elab.async false
set_option linter.all false
set_option maxRecDepth 100000
def aa:=@PySem.wpAny_bind
def ae:=@PySem.Heap.get?_push_of_some
def af:=@List.length_map
def ag:=@List.getElem?_eq_getElem
def ah:=@List.getElem?_eq_some_iff
def ai:=@PySem.wpAny_pure
def aj:=@List.mem_cons
def ao:=@List.getElem?_map
def aq:=@PySem.Heap.lt_size
def ar:=@Bool.false_eq_true
def au:=@Nat.le_refl
def av:=@List.map_cons
def aw:=@List.mem_of_getElem?
def ax:=@List.mem_cons_of_mem
def ay:=@List.size_toArray
def az:=@PySem.Heap.get?_push_size
def aA:=@Option.some.injEq
def aB:=@List.mem_map
def aC:=@List.mem_append
def aD:=@Bool.false_ne_true
def aE:=@Nat.ne_of_lt
def aF:=@List.map_map
def aG:=@List.length_cons
def aH:=@List.nodup_cons
def aI:=@List.map_append
def aJ:=@Option.map_some
def aK:=@Nat.lt_of_lt_of_le
def aL:=@List.length_append
def aM:=@List.mem_singleton
def aN:=@List.mem_filter
def aO:=@List.length_take
def aP:=@PySem.Heap.get?_update_other
def aQ:=@List.take_add_one
def aR:=@List.mem_range
def aS:=@List.not_mem_nil
def aT:=@List.mem_cons_self
def aU:=@if_false
def aV:=@List.getElem?_cons_zero
def aW:=@List.getElem?_cons_succ
def aX:=@List.mem_map_of_mem
def aY:=@PySem.W.mg_none_of
def aZ:=@List.mem_append_left
def a9:=@decide_eq_true_eq
def ba:=@List.find?_cons
def bc:=@Nat.zero_le
def bg:=@List.mem_append_right
def bh:=@PySem.PassesOwn.never
def bj:=@Bool.and_eq_true
def bo:=@List.take_length
def bp:=@decide_eq_false
def br:=@if_true
def bu:=@Int.emod_lt_of_pos
def bw:=@Array.length_toList
def bx:=@Int.emod_nonneg
def bz:=@PySem.wpAny_holding
def bA:=@Option.map_eq_some_iff
def bB:=@List.flatten_cons
def bC:=@List.getElem?_set
def bD:=@PySem.Heap.get?_update_self
def bE:=@PySem.wpAny_mono
def bF:=@Bool.not_true
def bG:=@PySem.wpAny_newObj_type
def bH:=@List.nodup_append
def bI:=@List.foldl_cons
def bJ:=@List.getElem_mem
def bK:=@List.take_of_length_le
def bL:=@List.pairwise_map
def bM:=@PySem.wpAny_field
def bN:=@List.length_filter_le
def bO:=@Nat.le_trans
def bP:=@List.length_nil
def bQ:=@PySem.F.plainAttrs_list
def bR:=@List.length_range
def bS:=@List.getElem?_append_left
def bT:=@List.pairwise_iff_getElem
def bU:=@decide_false
def bV:=@PySem.Heap.size_push
def bW:=@PySem.wpAny_seqItems
def bX:=@List.replicate_succ
namespace L2
open PySem PySem.Spec PyProof.Rows
noncomputable abbrev Key:=Sum Int Str
noncomputable def sg:Key->Value->Bool
 | .inl k,v=>Value.isInt k v
 | .inr x,v=>Value.isStrOf x v
noncomputable def N5(w:World):Key->Int
 | .inl k=>hashInt k
 | .inr x=>hashStr w x
theorem pe:∀{k:Key}{v:Value},sg k v=true->(∃i t,k=Sum.inl i/\v=Value.int i t)\/(∃x t,k=Sum.inr x/\v=Value.str x t)
 | .inl i,v,h=>by
  obtain⟨t,e⟩:=Value.isInt_shape (k:=i) (v:=v) h;show .inl ⟨i,t,rfl,e⟩
 | .inr x,v,h=>by
  obtain⟨t,e⟩:=Value.isStrOf_shape (x:=x) (v:=v) h;show .inr ⟨x,t,rfl,e⟩
theorem UZ(i:Int)(t:Tok):sg (.inl i) (.int i t)=true:=by simp[sg,Value.isInt]
theorem UY(x:Str)(t:Tok):sg (.inr x) (.str x t)=true:=by simp[sg,Value.isStrOf]
theorem Qu(a b:Int):decide ((Sum.inl a:Key)=Sum.inl b)=(a==b):=by
 by_cases e:a=b
 .subst e;simp
 have h:¬(Sum.inl a:Key)=Sum.inl b:=λq=>e (Sum.inl.inj q)
 rw[bp h];show(beq_eq_false_iff_ne.mpr e).symm
theorem Qt(a b:Str):decide ((Sum.inr a:Key)=Sum.inr b)=decide (a=b):=by
 by_cases e:a=b
 .subst e;simp
 have h:¬(Sum.inr a:Key)=Sum.inr b:=λq=>e (Sum.inr.inj q)
 rw[bp h,bp e]
theorem Qs(a:Int)(b:Str):decide ((Sum.inl a:Key)=Sum.inr b)=false:=bp (λq=>nomatch q)
theorem Qq(a:Str)(b:Int):decide ((Sum.inr a:Key)=Sum.inl b)=false:=bp (λq=>nomatch q)
noncomputable def jY(prog:Program)(w:World):PySem.KeyKind prog w Key where
 is:=sg
 hash:=N5 w
 inj:=λv a b ha hb=>by
  rcases pe ha with⟨i,t,rfl,rfl⟩ | ⟨x,t,rfl,rfl⟩
  .rcases pe hb with⟨j,u,rfl,e⟩ | ⟨y,u,rfl,e⟩
   .injection e with c _;rw[c]
   show nomatch e
  rcases pe hb with⟨j,u,rfl,e⟩ | ⟨y,u,rfl,e⟩
  .exact nomatch e
  injection e with c _;rw[c]
 byValue:=λk v h=>by
  rcases pe h with⟨i,t,rfl,rfl⟩ | ⟨x,t,rfl,rfl⟩<;>rfl
 pyHash:=λd h=>by
  rcases pe d with⟨i,t,rfl,rfl⟩ | ⟨x,t,rfl,rfl⟩
  .exact wpAny_pyHash_int h
  show wpAny_pyHash_str h
 eqBool:=λf d h=>by
  rcases pe f with⟨i,t,rfl,rfl⟩ | ⟨x,t,rfl,rfl⟩
  .rcases pe d with⟨j,u,rfl,rfl⟩ | ⟨y,u,rfl,rfl⟩
   .rw[Qu] at h;show wpAny_eqBool_int h
   rw[Qs] at h;show SeqAt.EqAt.int_str i t y u _ _ _ _ h
  rcases pe d with⟨j,u,rfl,rfl⟩ | ⟨y,u,rfl,rfl⟩
  .rw[Qq] at h;show SeqAt.EqAt.str_int x t j u _ _ _ _ h
  rw[Qt] at h;show wpAny_eqBool_str h
 «strs»:=λk x t v h=>by
  rcases pe h with⟨i,u,rfl,e⟩ | ⟨y,u,rfl,e⟩
  .exact nomatch e
  injection e with c _
  subst c;cases v<;>rfl
theorem Vg(prog:Program)(w:World)(i:Int)(t:Tok):(jY prog w).is (.inl i) (.int i t)=true:=UZ i t
theorem Vf(prog:Program)(w:World)(x:Str)(t:Tok):(jY prog w).is (.inr x) (.str x t)=true:=UY x t
inductive V where
 | non | bl (b:Bool) | int (i:Int) | str (x:Str) | Dp (b:Array UInt8) | Dl (b:UInt64) | ref (a:Addr) | ty (n:String)
 deriving DecidableEq
def RelV:V->Value->Prop
 | .non,u=>u=Value.none
 | .bl b,u=>u=Value.bool b
 | .int i,u=>∃t,u=Value.int i t
 | .str x,u=>∃t,u=Value.str x t
 | .Dp b,u=>∃t,u=Value.bytes b t
 | .Dl b,u=>∃t,u=Value.float b t
 | .ref a,u=>u=Value.ref a
 | .ty n,u=>u=Value.type n
abbrev Vals:List V->List Value->Prop:=Paired RelV
theorem Vals.length{xs:List V}{us:List Value}(r:Vals xs us):xs.length=us.length:=Paired.length r
theorem Vals.get:∀{xs:List V}{us:List Value}{i:Nat}{x:V},Vals xs us->xs[i]?=some x->∃u,us[i]?=some u/\RelV x u
 | _,_,_,_,.nil,e=>by simp at e
 | _,_,0,_,.cons r _,e=>by simp at e;subst e;show⟨_,rfl,r⟩
 | _,_,i+1,x,.cons _ t,e=>by
  obtain⟨u,b,a⟩:=Vals.get (i:=i) (x:=x) t (by simpa using e);show⟨u,by simpa using b,a⟩
theorem Vals.set{x:V}{u:Value}(r:RelV x u):∀{xs:List V}{us:List Value}(i:Nat),Vals xs us->Vals (xs.set i x) (us.set i u)
 | _,_,_,.nil=>.nil
 | _,_,0,.cons _ t=>.cons r t
 | _,_,i+1,.cons q t=>.cons q (Vals.set r i t)
theorem Vals.append{xs ys:List V}{us ws:List Value}(h:Vals xs us)(s:Vals ys ws):Vals (xs++ys) (us++ws):=by
 induction h with
 | nil=>show s
 | cons r t a=>show .cons r a
theorem Vals.take:∀{xs:List V}{us:List Value}(n:Nat),Vals xs us->Vals (xs.take n) (us.take n)
 | _,_,0,_=>.nil
 | _,_,_+1,.nil=>.nil
 | _,_,n+1,.cons r t=>.cons r (Vals.take n t)
theorem Vals.drop:∀{xs:List V}{us:List Value}(n:Nat),Vals xs us->Vals (xs.drop n) (us.drop n)
 | _,_,0,r=>r
 | _,_,_+1,.nil=>.nil
 | _,_,n+1,.cons _ t=>Vals.drop n t
def jR:Option V->Option Value->Prop
 | some v,some u=>RelV v u
 | none,none=>True
 | _,_=>False
def KV{κ:Type}:List (κ×V)->List (κ×Value)->Prop:=Paired λ(p:κ×V)(q:κ×Value)=>p.1=q.1/\RelV p.2 q.2
noncomputable def kV:Key->V
 | .inl i=>.int i
 | .inr x=>.str x
inductive HO where
 /-- a list -/
 | lst (xs:List V)
 /-- a tuple (never changes) -/
 | tup (xs:List V)
 /-- a dict zk keys are ints and texts;one zk keys are tuples of ints and texts (ou empty one is both) -/
 | dK (kvs:List (Key×V)) (ep:Nat) | dT (kvs:List (List Key×V)) (bs:List Addr×Nat)
 /-- a set of ints: its members,its size -/
 | set (S:Int->Bool) (n:Nat)
 /-- an instance of ou class at C,its dict at dx,its attributes -/
 | ins (C dx:Addr) (fs:List (Str×V))
 /-- ou dict of ou instance at x -/
 | own (x:Addr)
 /-- ou dict of an exception -/
 | xd (fs:List (Str×V))
 /-- a bound method,f of x -/
 | met (f x:Addr)
 /-- a range object lo,lo+1,.. below hi -/
 | CL (lo hi:Int)
 /-- a zu Xi is known to ou object (ou qo;a dict while a loop walks it): read,never written while it is so -/
 | iH (o:Obj) (u:HO)
 /-- a code zF table -/
 | t7 (ps:Array Value)
 /-- any other zu,by F4 is true of its one object (a def of Mm own: ZN a S n:=HO.ext λh=>..) -/
 | ext (φ:Heap->Prop)
noncomputable abbrev Hp:=Addr->Option HO
noncomputable def upd(H:Hp)(a:Addr)(o:HO):Hp:=λb=>if b=a then some o else H b
theorem eT{H:Hp}{a:Addr}{o:HO}:upd H a o a=some o:=by unfold upd;rw[if_pos rfl]
theorem cL{H:Hp}{a b:Addr}{o:HO}(h:b≠a):upd H a o b=H b:=by unfold upd;rw[if_neg h]
theorem OM{H:Hp}{a b:Addr}{o u:HO}(h:H a=some o)(h':H b=some u)(d:o≠u):a≠b:=by
 intro e;subst e;rw[h] at h';show d (Option.some.inj h')
theorem iu{H:Hp}{a b:Addr}{o:HO}(h:H a=some o)(h':H b=none):a≠b:=by
 intro e;subst e;rw[h] at h';cases h'
section
variable(P:Program)(w:World)
def cM(H:Hp)(h:Heap)(a:Addr):HO->Prop
 | .lst xs=>xs.length<=sizeLine/\∃(its:List Value)(n:Nat),Vals xs its/\h.get? a=some { cls:=.type "list",data:=.seq its.toArray n }
 | .tup xs=>xs.length<=sizeLine/\∃its:List Value,Vals xs its/\IsTup h a its.toArray
 | .dK kvs ep=>kvs.length<=sizeLine/\(a==sysModules)=false/\∃e,KV kvs e/\h.DictAt (jY P w) a e ep
 | .dT kvs bs=>kvs.length<=sizeLine/\(a==sysModules)=false/\∃xs:List (List Key×Addr×Value),xs.map (λx=>x.2.1)=bs.1/\
   Paired (λ(p:List Key×V)(q:List Key×Addr×Value)=>p.1=q.1/\H q.2.1=some (.tup (p.1.map kV))/\RelV p.2 q.2.2) kvs xs/\
   ∃o j ep,h.get? a=some o/\o.ExactDict/\o.data=.dict j ep/\j.toList=xs.map (entryOfKey (tupleKind (jY P w)))/\(xs.map (·.1)).Nodup/\ep=bs.2
 | .set S n=>h.SetOf (intKind P w) a S n
 | .ins C c fs=>H c=some (.own a)/\fs.length<=1000/\c≠a/\h.get? a=some (PySem.W.instObj C c)/\
   ∃b,h.Ns1 c b/\(∀f,jR (fs.lookup f) (b f))/\PySem.Within b (fs.map (·.1))
 | .own _=>∃o,h.get? a=some o
 | .xd fs=>∃b,h.Ns1 a b/\∀f,jR (fs.lookup f) (b f)
 | .CL lo k=>∃t u v,h.get? a=some { cls:=.type "range",data:=.fields #[.int lo t,.int k u,.int 1 v] }
 | .iH o u=>h.get? a=some o/\cM H h a u
 | .t7 ps=>h.get? a=some { cls:=.none,data:=.fields ps }
 | .met f x=>h.get? a=some (PySem.W.methodObj (.ref f) (.ref x))
 | .ext d=>d h/\(∃o,h.get? a=some o)/\∀i g:Heap,d i->(∀o,i.get? a=some o->g.get? a=some o)->d g
def ic(H:Hp)(h:Heap):Prop:=∀a o,H a=some o->cM P w H h a o
end
section
variable{P:Program}{w:World}{H H':Hp}{h h':Heap}{a:Addr}{o:HO}
theorem cM.lt(x:cM P w H h a o):a<h.objs.size:=by
 cases o with
 | lst xs=>obtain⟨_,_,_,_,e⟩:=x;show aq e
 | tup xs=>obtain⟨_,_,_,p⟩:=x;show p.lt
 | dK kvs ep=>obtain⟨_,_,_,_,o,_,e,_⟩:=x;show aq e
 | dT kvs bs=>obtain⟨_,_,_,_,_,o,_,_,e,_⟩:=x;show aq e
 | set S n=>obtain⟨o,_,_,_,e,_⟩:=x;show aq e
 | ins C d fs=>obtain⟨_,_,_,e,_⟩:=x;show aq e
 | own y=>obtain⟨_,e⟩:=x;show aq e
 | xd fs=>obtain⟨_,⟨_,_,_,e,_⟩,_⟩:=x;show aq e
 | CL lo c=>obtain⟨_,_,_,e⟩:=x;show aq e
 | iH ob u=>obtain⟨e,_⟩:=x;show aq e
 | t7 ps=>show aq (show h.get? a=some _ from x)
 | met f y=>show aq (show h.get? a=some _ from x)
 | ext b=>obtain⟨_,⟨_,e⟩,_⟩:=x;show aq e
theorem Paired.zL{d c:Type}{F G:d->c->Prop}{e:List d}{g:List c}(h:Paired F e g)(f:∀a b,F a b->G a b):Paired G e g:=by
 induction h with
 | nil=>show .nil
 | cons r t i=>show .cons (f _ _ r) i
theorem cM.f6(x:cM P w H h a o)(k:∀b u,(b=a\/H b=some (.own a))->h.get? b=some u->h'.get? b=some u)
  (m:∀b,H b=some (.own a)->H' b=some (.own a)) (ht:∀b xs,H b=some (.tup xs)->H' b=some (.tup xs)):cM P w H' h' a o:=by
 induction o with
 | lst xs=>obtain⟨z,its,n,r,e⟩:=x;show⟨z,its,n,r,k _ _ (.inl rfl) e⟩
 | tup xs=>obtain⟨z,its,r,ob,e,c⟩:=x;show⟨z,its,r,ob,k _ _ (.inl rfl) e,c⟩
 | dK kvs ep=>obtain⟨z,y,j,r,ob,g,e,c⟩:=x;show⟨z,y,j,r,ob,g,k _ _ (.inl rfl) e,c⟩
 | dT kvs bs=>
  obtain⟨z,y,xs,A,r,ob,g,ep,e,c⟩:=x;show⟨z,y,xs,A,Paired.zL r λp q z=>⟨z.1,ht _ _ z.2.1,z.2.2⟩,ob,g,ep,k _ _ (.inl rfl) e,c⟩
 | set S n=>obtain⟨ob,g,ep,t,e,c⟩:=x;show⟨ob,g,ep,t,k _ _ (.inl rfl) e,c⟩
 | ins C E fs=>
  obtain⟨d,z,ne,e,i,⟨od,g,ep,s,c⟩,r⟩:=x;show⟨m _ d,z,ne,k _ _ (.inl rfl) e,i,⟨od,g,ep,k _ _ (.inr d) s,c⟩,r⟩
 | own y=>obtain⟨ob,e⟩:=x;show⟨ob,k _ _ (.inl rfl) e⟩
 | xd fs=>obtain⟨i,⟨od,g,ep,e,c⟩,r⟩:=x;show⟨i,⟨od,g,ep,k _ _ (.inl rfl) e,c⟩,r⟩
 | CL lo D=>obtain⟨t,u,v,e⟩:=x;show⟨t,u,v,k _ _ (.inl rfl) e⟩
 | iH ob u l=>obtain⟨e,q⟩:=x;show⟨k _ _ (.inl rfl) e,l q⟩
 | t7 ps=>
  have e:h.get? a=some { cls:=.none,data:=.fields ps }:=x;show h'.get? a=some { cls:=.none,data:=.fields ps };show k a _ (.inl rfl) e
 | met f y=>
  have e:h.get? a=some (PySem.W.methodObj (.ref f) (.ref y)):=x;show h'.get? a=some (PySem.W.methodObj (.ref f) (.ref y));show k a _ (.inl rfl) e
 | ext B=>obtain⟨p,⟨o,e⟩,st⟩:=x;show⟨st _ _ p λo q=>k _ _ (.inl rfl) q,⟨o,k _ _ (.inl rfl) e⟩,st⟩
theorem ic.lt(x:ic P w H h)(e:H a=some o):a<h.objs.size:=(x a o e).lt
theorem ic.fresh(x:ic P w H h)(e:h.objs.size<=a):H a=none:=by
 cases q:H a with
 | none=>rfl
 | some u=>show absurd (aK (x.lt q) e) (Nat.lt_irrefl _)
theorem ic.kept(x:ic P w H h)(k:∀b u,h.get? b=some u->h'.get? b=some u):ic P w H h':=λa o e=>
 (x a o e).f6 (λb u _ q=>k b u q) (λ_ q=>q) λ_ _ q=>q
theorem ic.laid(x:ic P w H h)(k:∀b u,h.get? b=some u->h'.get? b=some u)(d:h.objs.size<=a)(new:cM P w (upd H a o) h' a o):ic P w (upd H a o) h':=λb u e=>by
 have hn:=x.fresh d;by_cases hb:b=a
 .subst hb;rw[eT] at e;cases e;show new
 rw[cL hb] at e;show(x b u e).f6 (λc v _ q=>k c v q) (λc q=>by rw[cL (iu q hn)];show q) λc xs q=>by rw[cL (iu q hn)];show q
end
def Rd(H:Hp)(a:Addr)(u:HO):Prop:=H a=some u\/∃o,H a=some (.iH o u)
theorem Rd.ok{P:Program}{w:World}{H:Hp}{h:Heap}{a:Addr}{u:HO}(r:Rd H a u)(x:ic P w H h):cM P w H h a u:=by
 rcases r with r | ⟨o,r⟩
 .exact x a u r
 obtain⟨_,q⟩:=x a _ r;show q
def Bf:Option HO->Prop
 | some (.lst _)=>True
 | some (.dK _ _)=>True
 | some (.dT _ _)=>True
 | some (.set _ _)=>True
 | some (.ins _ _ _)=>True
 | some (.ext _)=>True
 | _=>False
section
variable{P:Program}{w:World}{H:Hp}{h h':Heap}{x e:Addr}{o':HO}
theorem ic.write(ok:ic P w H h)(d:Bf (H x))(j:e=x\/H e=some (.own x))(k:∀b u,b≠e->h.get? b=some u->h'.get? b=some u)(l:∃u,h'.get? e=some u)
  (new:cM P w (upd H x o') h' x o'):ic P w (upd H x o') h':=λb u q=>by
 have g:∀c y,H c=some (.own y)->c≠x:=λc y r z=>by subst z;rw[r] at d;show d
 have n:∀c xs,H c=some (.tup xs)->c≠x:=λc xs r z=>by subst z;rw[r] at d;show d
 by_cases hb:b=x
 .subst hb;rw[eT] at q;cases q;show new
 rw[cL hb] at q;by_cases a:b=e
 .have i:H b=some (.own x):=by
   rcases j with z | z
   .exact absurd (a.trans z) hb
   rw[a];show z
  rw[q] at i;cases i;obtain⟨v,m⟩:=l;show⟨v,by rw[a];show m⟩
 show(ok b u q).f6 (λc v f r=>k c v ?_ r) (λc r=>by rw[cL (g c b r)];show r) λc xs r=>by rw[cL (n c xs r)];show r
 rcases f with rfl | f
 .exact a
 rintro rfl;rcases j with z | z
 .exact g c b f z
 rw[f] at z;cases z;show hb rfl
end
structure Un(fs ex:List Addr)(H H':Hp)(h h':Heap):Prop where
 keep:∀b o,h.get? b=some o->H b=none->b∉fs->b∉ex->h'.get? b=some o
 slot:∀b o,h.get? b=some o->H b=none->b∈fs->b∉ex->∃sl,h'.get? b=some { o with slots:=sl }
 free:∀b o,h.get? b=some o->H b=none->b∉ex->H' b=none
 there:∀b o,h.get? b=some o->b∉ex->∃o',h'.get? b=some o'
 iM:∀b xs,H b=some (.tup xs)->H' b=some (.tup xs)
 iz:∀b o u,H b=some (.iH o u)->H' b=some (.iH o u)
 iO:∀b ps,H b=some (.t7 ps)->∃more,H' b=some (.t7 (ps++more))
section
variable{fs fs' ex ex':List Addr}{H H1 H2:Hp}{h h1 h2 h':Heap}{a x e:Addr}{o:HO}
theorem Un.any(u:Un fs ex H H1 h h1){b:Addr}{ob:Obj}(q:h.get? b=some ob)(n:H b=none)(a:b∉ex):∃sl,h1.get? b=some { ob with slots:=sl }:=by
 by_cases hb:b∈fs
 .exact u.slot b ob q n hb a
 show⟨ob.slots,u.keep b ob q n hb a⟩
theorem Un.kept(k:∀b u,h.get? b=some u->h'.get? b=some u):Un fs ex H H h h':=
 ⟨λb ob q _ _ _=>k b ob q,λb ob q _ _ _=>⟨ob.slots,k b ob q⟩,λ_ _ _ n _=>n,λb ob q _=>⟨ob,k b ob q⟩,λ_ _ q=>q,λ_ _ _ q=>q,λ_ ps q=>⟨#[],by rw[q];simp⟩⟩
theorem Un.refl:Un fs ex H H h h:=Un.kept λ_ _ q=>q
theorem Un.laid(k:∀b u,h.get? b=some u->h'.get? b=some u)(c:h.objs.size<=a)(hn:H a=none):Un fs ex H (upd H a o) h h' where
 keep:=λb u q _ _ _=>k b u q
 slot:=λb u q _ _ _=>⟨u.slots,k b u q⟩
 free:=λb u q n _=>by rw[cL (aE (aK (aq q) c))];show n
 there:=λb u q _=>⟨u,k b u q⟩
 iM:=λb xs q=>by rw[cL (iu q hn)];show q
 iz:=λb u xs q=>by rw[cL (iu q hn)];show q
 iO:=λb ps q=>⟨#[],by rw[cL (iu q hn),q];simp⟩
theorem Un.write(a:Bf (H x))(g:e=x\/H e=some (.own x))(k:∀b u,b≠e->h.get? b=some u->h'.get? b=some u)(f:∃u,h'.get? e=some u):Un fs ex H (upd H x o) h h':=by
 have d:∀b,H b=none->b≠x:=λb n z=>by subst z;rw[n] at a;show a
 have hb:∀b,H b=none->b≠e:=λb n z=>by
  subst z;rcases g with r | r
  .exact d b n r
  rw[n] at r;cases r
 have hm:∀b u,H b=some u->¬Bf (some u)->b≠x:=λb u q nm z=>by subst z;rw[q] at a;show nm a
 show⟨λb u q n _ _=>k b u (hb b n) q,λb u q n _ _=>⟨u.slots,k b u (hb b n) q⟩,λb u q n _=>by rw[cL (d b n)];show n,λb u q _=>?_,
  λb xs q=>by rw[cL (hm b _ q λz=>z)];show q,λb u xs q=>by rw[cL (hm b _ q λz=>z)];show q,λb ps q=>⟨#[],by rw[cL (hm b _ q λz=>z),q];simp⟩⟩
 by_cases c:b=e
 .subst c;show f
 show⟨u,k b u c q⟩
end
noncomputable def CI(h:Heap)(H:Hp):List Addr:=(List.range h.objs.size).filter λa=>(H a).isSome
noncomputable def se(h:Heap)(H:Hp):Heap:=PySem.W.hideAll h (CI h H)
theorem UX(h:Heap)(H:Hp):(se h H).objs.size=h.objs.size:=PySem.W.hideAll_size _ _
theorem Td{h:Heap}{H:Hp}{b:Addr}{o:Obj}(e:h.get? b=some o)(n:H b=none):(se h H).get? b=some o:=
 PySem.W.hideAll_get _ e λhm=>by
  have q:(H b).isSome=true:=(aN.mp hm).2;rw[n] at q;simp at q
theorem Sb{h:Heap}{H:Hp}{b:Addr}{o:Obj}(e:(se h H).get? b=some o):h.get? b=some o/\H b=none:=by
 have a:h.get? b=some o:=PySem.W.of_hideAll (CI h H) e;show⟨a,?_⟩;cases q:H b with
 | none=>rfl
 | some x=>
  have hm:b∈CI h H:=aN.mpr ⟨aR.mpr (aq a),by simp[q]⟩;have z:(se h H).get? b=none:=PySem.W.hideAll_none (CI h H) hm;rw[z] at e;cases e
noncomputable def Sa(g h:Heap)(L:Addr):List (Addr×Obj):=(List.range h.objs.size).filterMap λa=>if a=L\/(g.get? a).isSome=true then none else(h.get? a).map λo=>(a,o)
noncomputable def rest(g h:Heap)(L d:Addr):List (Addr×Obj):=(Sa g h L).filter λp=>decide (p.1≠d)
structure Mod(K:J')(mg:Str->Option Value)(base:Heap):Prop where
 zS:K.In base
 glob:base.Ns mainGlobals mg
 blt:∃mb,base.Ns builtinsNs mb/\∀x:Str,x≠"__name__"->mb x=bootBuiltins x
 nolimit:base.NoLimit
structure Cx where
 prog:Program
 w:World
 K:J'
 mg:Str->Option Value
 base:Heap
 A:Around
 N:List Str
 c7:Shared
 oP:Hp
 env:Env
 outer:List Env
 stack:List Env
 ex:List Addr
 fn:Str->Bool
 calm:Bool
 pn:List (Addr×Obj)
 xe:Value->Shared->Prop
noncomputable def i9(l:List Env):List Addr:=l.filterMap (·.frame)
noncomputable abbrev Cx.fs(X:Cx):List Addr:=i9 X.outer
def hZ(a:Scope)(x:Str):Prop:=a.names.lookup x=some .local\/a.names.lookup x=some .cell\/a.names.lookup x=some .free
def Loc(a:Scope)(x:Str):Prop:=a.names.lookup x=some .local\/a.names.lookup x=some .cell
def Look(env:Env)(h:Heap)(m:Str->Option Value)(x:Str)(u:Value):Prop:=
 (env.kindOf x=some .local/\m x=some u)\/((env.kindOf x=some .cell\/env.kindOf x=some .free)/\∃c,env.cells.lookup x=some c/\h.IsCell c (some u))
structure Cx.Ok(X:Cx):Prop where
 mod:Mod X.K X.mg X.base
 kind:X.env.scope.kind=.function
 glob:X.env.globals=mainGlobals
 blt:X.env.builtins=builtinsNs
 above:X.c7.heap.objs.size<=X.env.locals
 inj:∀x y c,X.env.cells.lookup x=some c->X.env.cells.lookup y=some c->x=y
 has:∀x,(X.env.kindOf x=some .cell\/X.env.kindOf x=some .free)->∃c,X.env.cells.lookup x=some c
 cab:∀x c,X.fn x=true->X.env.cells.lookup x=some c->X.c7.heap.objs.size<=c
 hd:X.calm=true->X.A.handled=none
 frames:X.A.frames=some X.stack
 zz:X.stack=X.outer\/(X.stack=X.env::X.outer/\X.env.frame=some X.env.locals)
 exf:∀b∈X.ex,b≠X.env.locals/\∀x c,X.env.cells.lookup x=some c->c≠b
 bs:∀b o,X.base.get? b=some o->X.c7.heap.get? b=some o/\X.oP b=none
 tG:X.base.objs.size<=X.c7.heap.objs.size
 oC:∀b o,X.base.get? b=some o->b∉X.ex
 oK:∀b∈X.ex,b∉X.fs
 gG:X.c7.heap.FunFrames X.base X.outer
 qW:∀b∈X.fs,X.oP b=none
structure Inv(X:Cx)(K':List (Addr×Obj))(σ:List (Option V))(H:Hp)(s:Shared):Prop where
 ok:X.Ok
 os:s.os=X.c7.os
 bare:AllBare s.gens
 base:Un X.fs X.ex X.oP H X.c7.heap s.heap
 loc:∃m,s.heap.Ns X.env.locals m/\∀(i:Nat)(x:Str)(v:V),X.N[i]?=some x->σ[i]?=some (some v)->hZ X.env.scope x->∃u,RelV v u/\Look X.env s.heap m x u
 cell:∀x c,X.env.cells.lookup x=some c->∃v,s.heap.IsCell c v
 free:H X.env.locals=none
 fA:∀x c,X.env.cells.lookup x=some c->H c=none
 pin:∀p∈X.pn++K',s.heap.get? p.1=some p.2/\H p.1=none/\p.1≠X.env.locals/\p.1∉X.fs/\∀v,p.2.data≠.cell v
 cH:ic X.prog X.w H s.heap
 len:σ.length=X.N.length
section
variable{X:Cx}{K':List (Addr×Obj)}{σ:List (Option V)}{H H':Hp}{s:Shared}{h':Heap}
theorem Cx.Ok.Gs(ok:X.Ok){b:Addr}{o:Obj}(e:X.base.get? b=some o):b∉X.fs:=λhb=>by
 have:=(ok.gG.mem hb).1;rw[e] at this;cases this
theorem Inv.bs(I:Inv X K' σ H s):∀b o,X.base.get? b=some o->s.heap.get? b=some o/\H b=none:=λb o e=>
 ⟨I.base.keep b o (I.ok.bs b o e).1 (I.ok.bs b o e).2 (I.ok.Gs e) (I.ok.oC b o e),I.base.free b o (I.ok.bs b o e).1 (I.ok.bs b o e).2 (I.ok.oC b o e)⟩
theorem Inv.bk(I:Inv X K' σ H s):∀b o,X.base.get? b=some o->s.heap.get? b=some o:=λb o e=>(I.bs b o e).1
theorem Inv.mod(I:Inv X K' σ H s):Mod X.K X.mg X.base:=I.ok.mod
theorem Inv.g8(I:Inv X K' σ H s):X.K.In s.heap:=I.ok.mod.zS.keeps I.bk
theorem Inv.lt(I:Inv X K' σ H s):X.env.locals<s.heap.objs.size:=let⟨_,hn,_⟩:=I.loc;hn.lt
theorem Inv.sz(I:Inv X K' σ H s):X.c7.heap.objs.size<=s.heap.objs.size:=bO I.ok.above (Nat.le_of_lt I.lt)
theorem Inv.Gr(I:Inv X K' σ H s){a:Addr}(h:s.heap.objs.size<=a):a∉X.fs:=λhb=>by
 obtain⟨_,o,b,_⟩:=I.ok.gG.mem hb;show absurd (aK (aq b) (bO I.sz h)) (Nat.lt_irrefl _)
theorem Inv.qY(I:Inv X K' σ H s):∀x c,X.env.cells.lookup x=some c->c≠X.env.locals:=λx c e z=>by
 obtain⟨v,o,a,hd⟩:=I.cell x c e;obtain⟨m,⟨o',f,ep,d,b,_⟩,_⟩:=I.loc;rw[z,d] at a;cases a;rw[b] at hd;cases hd
theorem Inv.gG(I:Inv X K' σ H s):s.heap.FunFrames X.base X.outer:=by
 have all:∀(l:List Env),(∀b∈i9 l,b∈X.fs)->X.c7.heap.FunFrames X.base l->s.heap.FunFrames X.base l:=by
  intro l;induction l with
  | nil=>intro _ _;trivial
  | cons env r d=>
   intro c h;obtain⟨hk,⟨L,o,hf,hn,g,hd⟩,f⟩:=h;have a:L∈X.fs:=c L (by unfold i9;rw[List.filterMap_cons,hf];show aT);obtain⟨sl,e⟩:=I.base.slot L o g (I.ok.qW L a) a λz=>I.ok.oK L z a
   show⟨hk,⟨L,_,hf,hn,e,hd⟩,d (λb hb=>c b (by unfold i9;rw[List.filterMap_cons,hf];show ax _ hb)) f⟩
 show all X.outer (λ_ hb=>hb) I.ok.gG
theorem Inv.stack(I:Inv X K' σ H s):s.heap.FunFrames X.base X.stack:=by
 rcases I.ok.zz with e | ⟨e,hf⟩
 .rw[e];show I.gG
 rw[e];obtain⟨m,hn,_⟩:=I.loc;show .cons (by rw[I.ok.kind];decide) hf hn ?_ I.gG;show Heap.get?_none_of_le (bO I.ok.tG I.ok.above)
theorem Inv.mX(I:Inv X K' σ H s):∀b∈i9 X.stack,b∈X.env.locals::X.fs:=λb hb=>by
 rcases I.ok.zz with e | ⟨e,hf⟩
 .rw[e] at hb;show ax _ hb
 rw[e] at hb;unfold i9 at hb;rw[List.filterMap_cons,hf] at hb;show hb
theorem Inv.nJ(I:Inv X K' σ H s):∀b∈i9 X.stack,H b=none:=λb hb=>by
 rcases aj.mp (I.mX b hb) with e | hb
 .rw[e];show I.free
 obtain⟨_,o,a,_⟩:=I.ok.gG.mem hb;show I.base.free b o a (I.ok.qW b hb) λz=>I.ok.oK b z hb
theorem Inv.step{g':Array GenState}{t':Nat}{d':Drawn}{ch:List Addr}(I:Inv X K' σ H s)
  (j:∀b∈ch,(b∈X.ex\/X.c7.heap.objs.size<=b)/\b≠X.env.locals/\(∀x c,X.env.cells.lookup x=some c->c≠b)/\∀p∈X.pn++K',p.1≠b)
  (keep:∀b o,b≠X.env.locals->b∉X.fs->b∉ch->s.heap.get? b=some o->H b=none->h'.get? b=some o)
  (slot:∀b o,b≠X.env.locals->b∈X.fs->b∉ch->s.heap.get? b=some o->H b=none->∃sl,h'.get? b=some { o with slots:=sl }) (free:∀b o,b∉ch->s.heap.get? b=some o->H b=none->H' b=none)
  (there:∀b o,b∉ch->s.heap.get? b=some o->∃o',h'.get? b=some o')
  (iM:∀b xs,H b=some (.tup xs)->H' b=some (.tup xs)) (iz:∀b o u,H b=some (.iH o u)->H' b=some (.iH o u)) (iO:∀b ps,H b=some (.t7 ps)->∃more,H' b=some (.t7 (ps++more)))
  (E:∀m,s.heap.Ns X.env.locals m->h'.Ns X.env.locals m) (cH:ic X.prog X.w H' h') (hg:AllBare g') :
  Inv X K' σ H' { s with heap:=h',gens:=g',drawn:=d',toks:=t' }:=by
 have D:∀b o,X.c7.heap.get? b=some o->b≠X.env.locals:=λb o e=>aE (aK (aq e) I.ok.above)
 have y:∀b o,X.c7.heap.get? b=some o->b∉X.ex->b∉ch:=λb o e a hb=>by
  rcases(j b hb).1 with z | z
  .exact a z
  show absurd (aK (aq e) z) (Nat.lt_irrefl _)
 have cellK:∀x c,X.env.cells.lookup x=some c->∀v,s.heap.IsCell c v->h'.IsCell c v:=λx c e v ⟨o,g,hd⟩=>by
  have h:c∉ch:=λz=>(j c z).2.2.1 x c e rfl
  by_cases C:c∈X.fs
  .obtain⟨sl,q⟩:=slot c o (I.qY x c e) C h g (I.fA x c e);show⟨_,q,hd⟩
  show⟨o,keep c o (I.qY x c e) C h g (I.fA x c e),hd⟩
 show⟨I.ok,I.os,hg,⟨λb o e n hb a=>?_,λb o e n hb a=>?_,λb o e n a=>?_,λb o e a=>?_,λb xs e=>iM b xs (I.base.iM b xs e),λb o xs e=>iz b o xs (I.base.iz b o xs e),λb ps e=>?_⟩,?_,λx c e=>?_,?_,λx c e=>?_,λp B=>?_,cH,I.len⟩
 .exact keep b o (D b o e) hb (y b o e a) (I.base.keep b o e n hb a) (I.base.free b o e n a)
 .obtain⟨sl,f⟩:=I.base.slot b o e n hb a;obtain⟨L,t⟩:=slot b _ (D b o e) hb (y b o e a) f (I.base.free b o e n a);show⟨L,t⟩
 .obtain⟨o',f⟩:=I.base.there b o e a;show free b o' (y b o e a) f (I.base.free b o e n a)
 .obtain⟨o',f⟩:=I.base.there b o e a;show there b o' (y b o e a) f
 .obtain⟨G,f⟩:=I.base.iO b ps e;obtain⟨F,t⟩:=iO b _ f;show⟨G++F,by rw[t,Array.append_assoc]⟩
 .obtain⟨m,hn,J⟩:=I.loc;show⟨m,E m hn,λi x v f t K=>?_⟩;obtain⟨u,r,l⟩:=J i x v f t K;show⟨u,r,?_⟩;rcases l with l | ⟨k,c,e,z⟩
  .exact .inl l
  show .inr ⟨k,c,e,cellK x c e _ z⟩
 .obtain⟨v,z⟩:=I.cell x c e;show⟨v,cellK x c e v z⟩
 .obtain⟨m,⟨o,_,_,g,_⟩,_⟩:=I.loc;show free _ o (λz=>(j _ z).2.1 rfl) g I.free
 .obtain⟨v,o,g,hd⟩:=I.cell x c e;show free c o (λz=>(j c z).2.2.1 x c e rfl) g (I.fA x c e)
 obtain⟨e,n,ne,A,d⟩:=I.pin p B;have h:p.1∉ch:=λz=>(j p.1 z).2.2.2 p B rfl
 show⟨keep p.1 p.2 ne A h e n,free p.1 p.2 h e n,ne,A,d⟩
theorem Inv.un{t':Nat}(I:Inv X K' σ H s)(u:Un X.fs [] H H' s.heap h')(cH:ic X.prog X.w H' h'):Inv X K' σ H' { s with heap:=h',toks:=t' }:=by
 obtain⟨m,⟨o,j,ep,c,r⟩,_⟩:=id I.loc;obtain⟨sl,h⟩:=u.any c I.free (by simp)
 show I.step (g':=s.gens) (d':=s.drawn) (ch:=[]) (λ_ z=>nomatch z) (λb o _ hb _ e n=>u.keep b o e n hb (by simp)) (λb o _ hb _ e n=>u.slot b o e n hb (by simp)) (λb o _ e n=>u.free b o e n (by simp)) (λb o _ e=>u.there b o e (by simp)) u.iM u.iz u.iO (λi hm=>by
  obtain⟨o',d,g,a,f⟩:=hm;rw[c] at a;cases a;show⟨_,d,g,h,f⟩) cH I.bare
theorem Inv.call{g':Array GenState}{t':Nat}{d':Drawn}{ch:List Addr}(I:Inv X K' σ H s)(u:Un (i9 X.stack) ch H H' s.heap h')(cH:ic X.prog X.w H' h')(hg:AllBare g')
  (f:∀b∈ch,(b∈X.ex\/X.c7.heap.objs.size<=b)/\b≠X.env.locals/\(∀x c,X.env.cells.lookup x=some c->c≠b)/\∀p∈X.pn++K',p.1≠b) :
  Inv X K' σ H' { s with heap:=h',gens:=g',drawn:=d',toks:=t' }:=by
 obtain⟨m,⟨o,q,ep,h,r⟩,_⟩:=id I.loc;obtain⟨sl,d⟩:=u.any h I.free λz=>(f _ z).2.1 rfl
 show I.step (ch:=ch) f (λb o d hb a e n=>u.keep b o e n (λz=>(aj.mp (I.mX b z)).elim d hb) a) (λb o _ _ a e n=>u.any e n a) (λb o a e n=>u.free b o e n a) (λb o a e=>u.there b o e a) u.iM u.iz u.iO (λl hm=>by
  obtain⟨o',i,k,g,j⟩:=hm;rw[h] at g;cases g;show⟨_,i,k,d,j⟩) cH hg
theorem Inv.turned{t':Nat}{it:Addr}(I:Inv X K' σ H s)(k:∀b o,b≠it->s.heap.get? b=some o->h'.get? b=some o)(hn:H it=none)(f:it≠X.env.locals)
  (j:it∈X.ex\/X.c7.heap.objs.size<=it) (i:∀x c,X.env.cells.lookup x=some c->c≠it) (h:∀p∈X.pn++K',p.1≠it):Inv X K' σ H { s with heap:=h',toks:=t' }:=by
 have d:∀b u,H b=some u->b≠it:=λb u e z=>by rw[z,hn] at e;cases e
 show I.step (g':=s.gens) (d':=s.drawn) (ch:=[it]) (λb hb=>?_) (λb o _ _ a e _=>k b o (λz=>a (by simp[z])) e) (λb o _ _ a e _=>⟨o.slots,k b o (λz=>a (by simp[z])) e⟩) (λ_ _ _ _ n=>n)
  (λb o a e=>⟨o,k b o (λz=>a (by simp[z])) e⟩) (λ_ _ e=>e) (λ_ _ _ e=>e) (λb ps e=>⟨#[],by rw[e];simp⟩) (λm hm=>?_) (λb u e=>?_) I.bare
 .have e:b=it:=by simpa using hb
  subst e;show⟨j,f,i,h⟩
 .obtain⟨o,l,ep,g,r⟩:=hm;show⟨o,l,ep,k _ o (Ne.symm f) g,r⟩
 show(I.cH b u e).f6 (λc v a q=>k c v ?_ q) (λ_ q=>q) λ_ _ q=>q
 rcases a with z | z
 .rw[z];show d b u e
 show d c _ z
theorem Inv.tok(I:Inv X K' σ H s)(t:Nat):Inv X K' σ H { s with toks:=t }:=I.un (h':=s.heap) (t':=t) Un.refl I.cH
theorem Inv.kept{t':Nat}(I:Inv X K' σ H s)(k:∀b u,s.heap.get? b=some u->h'.get? b=some u):Inv X K' σ H { s with heap:=h',toks:=t' }:=I.un (Un.kept k) (I.cH.kept k)
theorem Inv.laid{a:Addr}{o:HO}{t':Nat}(I:Inv X K' σ H s)(k:∀b u,s.heap.get? b=some u->h'.get? b=some u)(c:s.heap.objs.size<=a)(new:cM X.prog X.w (upd H a o) h' a o) :
  Inv X K' σ (upd H a o) { s with heap:=h',toks:=t' }:=I.un (Un.laid k c (I.cH.fresh c)) (I.cH.laid k c new)
theorem Inv.write{x e:Addr}{o:HO}{t':Nat}(I:Inv X K' σ H s)(c:Bf (H x))(d:e=x\/H e=some (.own x))(k:∀b u,b≠e->s.heap.get? b=some u->h'.get? b=some u)(a:∃u,h'.get? e=some u)
  (new:cM X.prog X.w (upd H x o) h' x o):Inv X K' σ (upd H x o) { s with heap:=h',toks:=t' }:=I.un (Un.write c d k a) (I.cH.write c d k a new)
theorem Inv.nM{a:List (Addr×Obj)}(I:Inv X K' σ H s)(h:∀p∈a,s.heap.get? p.1=some p.2/\H p.1=none/\p.1≠X.env.locals/\p.1∉X.fs/\∀v,p.2.data≠.cell v):Inv X a σ H s:=
 ⟨I.ok,I.os,I.bare,I.base,I.loc,I.cell,I.free,I.fA,λp b=>(aC.mp b).elim (λz=>I.pin p (aZ _ z)) (h p),I.cH,I.len⟩
theorem EM{N:List Str}(hN:N.Nodup){i j:Nat}{x:Str}(a:N[i]?=some x)(b:N[j]?=some x):i=j:=by
 obtain⟨f,d⟩:=ah.mp a;obtain⟨e,c⟩:=ah.mp b;show(List.getElem_inj hN).mp (d.trans c.symm)
theorem Ln{M:Model}{A:Around}{E:Value->Shared->Prop}{i:Nat}{x:Str}{v:V}{u:Value}{Q:Unit->Shared->Prop}(I:Inv X K' σ H s)(hN:X.N.Nodup)(D:X.N[i]?=some x)(t:Loc X.env.scope x)(r:RelV v u)
  (h:∀O,Inv X K' (σ.set i (some v)) H O->(∃a,Heap.SameBut a s.heap O.heap/\(a=X.env.locals\/X.env.cells.lookup x=some a))->Q () O) (hf:X.fn x=true\/X.env.scope.names.lookup x=some .local:=by first | show .inl rfl | show .inr rfl | assumption):wpAny M A (storeName X.env x u) Q E s:=by
 obtain⟨m,hn,Z⟩:=id I.loc;have wa:(X.env.scope.kind==.class||(X.env.scope.kind==.module&&X.env.locals != X.env.globals))=false:=by rw[I.ok.kind];rfl
 have AF:i<σ.length:=by rw[I.len];show(ah.mp D).1
 have qY:=I.qY;have tracked:∀{a:Addr}{h':Heap},(∃o,s.heap.get? a=some o/\H a=none)->Heap.SameBut a s.heap h'->ic X.prog X.w H h':=λ{a h'} ha f b ob e=>by
  obtain⟨_,_,dW⟩:=ha;show(I.cH b ob e).f6 (λc F l q=>(f.2 c ?_).trans q) (λ_ q=>q) λ_ _ q=>q
  rintro rfl;rcases l with rfl | l
  .rw[dW] at e;cases e
  rw[dW] at l;cases l
 rcases t with hk | hk
 .refine wpAny_storeName_local hk hn (λh' qM f=>?_) wa;obtain⟨oL,_,_,qK,_⟩:=id hn;show h _ ⟨I.ok,I.os,I.bare,⟨λb o e n hb t=>?_,λb o e n hb t=>?_,I.base.free,λb o e t=>?_,I.base.iM,I.base.iz,I.base.iO⟩,⟨_,qM,λj y J g B T=>?_⟩,λy c e=>?_,I.free,I.fA,λp S=>?_,tracked ⟨oL,qK,I.free⟩ f,by simpa using I.len⟩ ⟨_,f,.inl rfl⟩
  .exact(f.2 b (aE (aK (aq e) I.ok.above))).trans (I.base.keep b o e n hb t)
  .obtain⟨sl,g⟩:=I.base.slot b o e n hb t;show⟨sl,(f.2 b (aE (aK (aq e) I.ok.above))).trans g⟩
  .obtain⟨o',g⟩:=I.base.there b o e t;show⟨o',(f.2 b (aE (aK (aq e) I.ok.above))).trans g⟩
  .by_cases C:j=i
   .subst C;rw[D] at g;cases g;rw[List.getElem?_set_self AF] at B;cases B;show⟨u,r,.inl ⟨hk,by simp⟩⟩
   rw[List.getElem?_set_ne (Ne.symm C)] at B;obtain⟨L,P,q⟩:=Z j y J g B T;show⟨L,P,?_⟩;rcases q with⟨k,e⟩ | ⟨k,c,e,z⟩
   .refine .inl ⟨k,?_⟩;have:y≠x:=λe=>C (EM hN g (e▸D))
    simp[this,e]
   show .inr ⟨k,c,e,z.sameBut f (qY y c e)⟩
  .obtain⟨F,z⟩:=I.cell y c e;show⟨F,z.sameBut f (qY y c e)⟩
  obtain⟨e,n,ne,R,d⟩:=I.pin p S;show⟨(f.2 p.1 ne).trans e,n,ne,R,d⟩
 have K:X.fn x=true:=by
  rcases hf with z | z
  .exact z
  rw[z] at hk;cases hk
 obtain⟨c,l⟩:=I.ok.has x (.inl hk);obtain⟨F,z⟩:=I.cell x c l;show wpAny_storeName_cell I.ok.kind hk l z (λh' U f=>?_);obtain⟨Y,W,He⟩:=id z;show h { s with heap:=h' } ⟨I.ok,I.os,I.bare,⟨λb o e n hb t=>?_,λb o e n hb t=>?_,I.base.free,λb o e t=>?_,I.base.iM,I.base.iz,I.base.iO⟩,⟨m,hn.sameBut f (Ne.symm (qY x c l)),λj y J g B T=>?_⟩,λy G e=>?_,I.free,I.fA,λp S=>?_,tracked ⟨Y,W,I.fA x c l⟩ f,by simpa using I.len⟩ ⟨c,f,.inr l⟩
 .exact(f.2 b (aE (aK (aq e) (I.ok.cab x c K l)))).trans (I.base.keep b o e n hb t)
 .obtain⟨sl,g⟩:=I.base.slot b o e n hb t;show⟨sl,(f.2 b (aE (aK (aq e) (I.ok.cab x c K l)))).trans g⟩
 .obtain⟨o',g⟩:=I.base.there b o e t;show⟨o',(f.2 b (aE (aK (aq e) (I.ok.cab x c K l)))).trans g⟩
 .by_cases C:j=i
  .subst C;rw[D] at g;cases g;rw[List.getElem?_set_self AF] at B;cases B;show⟨u,r,.inr ⟨.inl hk,c,l,U⟩⟩
  rw[List.getElem?_set_ne (Ne.symm C)] at B;obtain⟨L,P,q⟩:=Z j y J g B T;show⟨L,P,?_⟩;rcases q with q | ⟨k,G,e,z'⟩
  .exact .inl q
  show .inr ⟨k,G,e,z'.sameBut f ?_⟩;rintro rfl;show C (EM hN g (I.ok.inj _ _ _ e l▸D))
 .by_cases M4:G=c
  .subst M4;show⟨_,U⟩
  obtain⟨w2,z2⟩:=I.cell y G e;show⟨w2,z2.sameBut f M4⟩
 obtain⟨e,n,ne,R,d⟩:=I.pin p S;show⟨(f.2 p.1 ?_).trans e,n,ne,R,d⟩;intro q;rw[q,W] at e;have q':Y=p.2:=Option.some.inj e;show d F (by rw[<-q'];show He)
theorem Ck{M:Model}{A:Around}{E:Value->Shared->Prop}{i:Nat}{x:Str}{v:V}{u:Value}{Q:Unit->Shared->Prop}(I:Inv X K' σ H s)(hN:X.N.Nodup)(c:X.N[i]?=some x)(b:Loc X.env.scope x)(r:RelV v u)
  (h:∀a,Inv X K' (σ.set i (some v)) H a->Q () a) (d:X.fn x=true\/X.env.scope.names.lookup x=some .local:=by first | show .inl rfl | show .inr rfl | assumption):wpAny M A (storeName X.env x u) Q E s:=
 Ln I hN c b r (λa e _=>h a e) d
theorem Inv.A6{a:Shared}{ch:List Addr}(I:Inv X K' σ H s)(f:a.os=s.os)(u:Un (i9 X.stack) ch H H' s.heap a.heap)(cH:ic X.prog X.w H' a.heap)(hg:AllBare a.gens)
  (d:∀b∈ch,(b∈X.ex\/X.c7.heap.objs.size<=b)/\b≠X.env.locals/\(∀x c,X.env.cells.lookup x=some c->c≠b)/\∀p∈X.pn++K',p.1≠b):Inv X K' σ H' a:=by
 obtain⟨h',g',d',t',o'⟩:=a;have e:o'=s.os:=f;subst e;show I.call (g':=g') (t':=t') (d':=d') u cH hg d
end
noncomputable abbrev XK:=Value->Option Addr->Hp->Prop
noncomputable abbrev St:=List (Option V)
noncomputable abbrev VK:=V->Hp->Prop
noncomputable abbrev TE:=St->Hp->VK->Prop
noncomputable abbrev TT:=St->Hp->(Bool->Hp->Prop)->Prop
noncomputable abbrev TA:=St->Hp->(List V->Hp->Prop)->Prop
structure Ends where
 nx:St->Hp->Prop
 rt:VK
 bk:St->Hp->Prop:=λ_ _=>False
 ct:St->Hp->Prop:=λ_ _=>False
noncomputable abbrev TS:=Ends->St->Hp->Prop
def EP(X:Cx)(c:List (Addr×Obj))(a:St)(Q:VK)(u:Value)(b:Shared):Prop:=∃v H',Inv X c a H' b/\RelV v u/\Q v H'
def TP(X:Cx)(d:List (Addr×Obj))(a:St)(Q:Bool->Hp->Prop)(b:Bool)(c:Shared):Prop:=∃H',Inv X d a H' c/\Q b H'
def AP(X:Cx)(d:List (Addr×Obj))(b:St)(Q:List V->Hp->Prop)(us:List Value)(c:Shared):Prop:=∃a H',Inv X d b H' c/\Vals a us/\Q a H'
def SP(X:Cx)(c:List (Addr×Obj))(D:Ends)(f:Flow)(b:Shared):Prop:=
 match f with
 | .next=>∃a H',Inv X c a H' b/\D.nx a H'
 | .brk=>∃a H',Inv X c a H' b/\D.bk a H'
 | .cont=>∃a H',Inv X c a H' b/\D.ct a H'
 | .ret u=>∃v a H',Inv X c a H' b/\RelV v u/\D.rt v H'
def PE(X:Cx)(e:Expr)(t:TE):Prop:=
 ∀(a:List (Addr×Obj))(s:Shared)(σ:St)(H:Hp)(Q:VK),Inv X a σ H s->t σ H Q->wpAny (model X.prog X.w) X.A (eval e X.env) (EP X a σ Q) X.xe s
def PT(X:Cx)(e:Expr)(t:TT):Prop:=
 ∀(a:List (Addr×Obj))(s:Shared)(σ:St)(H:Hp)(Q:Bool->Hp->Prop),Inv X a σ H s->t σ H Q->wpAny (model X.prog X.w) X.A (isTrue e X.env (eval e X.env)) (TP X a σ Q) X.xe s
def PW(X:Cx)(e:Expr)(t:TT):Prop:=
 ∀(whole:Sem Value)(a:List (Addr×Obj))(s:Shared)(σ:St)(H:Hp)(Q:Bool->Hp->Prop),Inv X a σ H s->t σ H Q->wpAny (model X.prog X.w) X.A (isTrue e X.env whole) (TP X a σ Q) X.xe s
theorem PW.pt{X:Cx}{e:Expr}{t:TT}(h:PW X e t):PT X e t:=h _
def PA(X:Cx)(b:List Expr)(t:TA):Prop:=
 ∀(pos:Pos)(a:List (Addr×Obj))(s:Shared)(σ:St)(H:Hp)(Q:List V->Hp->Prop),Inv X a σ H s->t σ H Q->wpAny (model X.prog X.w) X.A (spliced (backTo pos (starEach b X.env))) (AP X a σ Q) X.xe s
def PS(X:Cx)(st:Stmt)(t:TS):Prop:=
 ∀(a:List (Addr×Obj))(s:Shared)(σ:St)(H:Hp)(D:Ends),Inv X a σ H s->t D σ H->wpAny (model X.prog X.w) X.A (exec st X.env) (SP X a D) X.xe s
def l8(X:Cx)(st:List Stmt)(t:TS):Prop:=
 ∀(a:List (Addr×Obj))(s:Shared)(σ:St)(H:Hp)(D:Ends),Inv X a σ H s->t D σ H->wpAny (model X.prog X.w) X.A (execs st X.env) (SP X a D) X.xe s
theorem cQ{b:Type}{t:Sem b}{Q c:b->Shared->Prop}{M:Model}{A:Around}{E:Value->Shared->Prop}{s:Shared}(h:wpAny M A t Q E s)(d:∀a s,Q a s->c a s):wpAny M A t c E s:=bE h d λ_ _ x=>x
section
variable{X:Cx}
theorem bin{a b:Expr}{k j:TE}(ha:PE X a k)(hb:PE X b j){e:List (Addr×Obj)}{s:Shared}{c:St}{H:Hp}{R:V->V->Hp->Prop}(I:Inv X e c H s)(h:k c H λx H1=>j c H1 λy d=>R x y d)
  {i:Type} {Q:i->Shared->Prop} {f:Value->Value->Sem i}
  (o:∀v u s2 x y d,Inv X e c d s2->RelV x v->RelV y u->R x y d->wpAny (model X.prog X.w) X.A (f v u) Q X.xe s2) :
  wpAny (model X.prog X.w) X.A (eval a X.env) (λv q=>wpAny (model X.prog X.w) X.A (eval b X.env) (λu p=>wpAny (model X.prog X.w) X.A (f v u) Q X.xe p) X.xe q) X.xe s:=by
 show cQ (ha e s c H _ I h) λv s1 g=>?_
 obtain⟨x,H1,I1,r1,n⟩:=g;show cQ (hb e s1 c H1 _ I1 n) λu s2 g=>?_
 obtain⟨y,d,I2,l,m⟩:=g;show o v u s2 x y d I2 r1 l m
def uV(i:Nat):TE:=λσ H Q=>∃v,σ[i]?=some (some v)/\Q v H
def tC(v:V):TE:=λ_ H Q=>Q v H
theorem iK{i:Nat}{x:Str}{a:Pos}(hN:X.N[i]?=some x)(f:hZ X.env.scope x)(hd:(x==("__debug__":Str))=false:=by decide)(j:(x==("__classdict__":Str))=false:=by decide):PE X (.Name x a) (uV i):=by
 intro k s σ H Q I h;obtain⟨v,e,h⟩:=h;obtain⟨m,hn,g⟩:=I.loc;obtain⟨u,r,l⟩:=g i x v hN e f;have fin:EP X k σ Q u s:=⟨v,H,I,r,h⟩
 rcases l with⟨hk,hm⟩ | ⟨hk,c,d,b⟩
 .exact wpAny_Name (wpAny_loadName_local I.ok.kind hk hn hm fin) hd
 rcases hk with hk | hk
 .exact wpAny_Name (wpAny_loadName_cell I.ok.kind hk d b fin) hd
 show wpAny_Name (wpAny_loadName_free I.ok.kind hk d b fin j) hd
theorem BY{i j pos}:PE X (.Constant (.int i) j pos) (tC (.int i)):=λ_ _ _ H _ I h=>wpAny_Constant_int ⟨.int i,H,I.tok _,⟨_,rfl⟩,h⟩
theorem OL{b j pos}:PE X (.Constant (.bool b) j pos) (tC (.bl b)):=λ_ _ _ H _ I h=>Constant_bool ⟨.bl b,H,I,rfl,h⟩
theorem Qp{j pos}:PE X (.Constant .none j pos) (tC .non):=λ_ _ _ H _ I h=>Constant_none ⟨.non,H,I,rfl,h⟩
theorem JC{x j pos}:PE X (.Constant (.str x) j pos) (tC (.str x)):=λ_ _ _ H _ I h=>Calls.Constant_str ⟨.str x,H,I.tok _,⟨_,rfl⟩,h⟩
def Gl(X:Cx)(x:Str):Prop:=X.env.kindOf x=some .globalImplicit
theorem xh{E:Value->Shared->Prop}{c:List (Addr×Obj)}{s:Shared}{b:St}{H:Hp}{x:Str}{u:Value}{a:Pos}{Q:Value->Shared->Prop}(I:Inv X c b H s)(hg:Gl X x)(hm:X.mg x=some u)(h:Q u s)
  (hd:(x==("__debug__":Str))=false:=by decide):wpAny (model X.prog X.w) X.A (eval (.Name x a) X.env) Q E s:=
 Calls.Name_function_global I.ok.kind hg (Calls.loadGlobal_global (by rw[I.ok.glob];show I.mod.glob.keeps I.bk) hm h) hd
theorem zev{E:Value->Shared->Prop}{f:List (Addr×Obj)}{s:Shared}{b:St}{H:Hp}{x:Str}{u:Value}{a:Pos}{Q:Value->Shared->Prop}(I:Inv X f b H s)(hg:Gl X x)(hm:X.mg x=none)(c:bootBuiltins x=some u)(h:Q u s)
  (hn:x≠"__name__":=by decide) (hd:(x==("__debug__":Str))=false:=by decide):wpAny (model X.prog X.w) X.A (eval (.Name x a) X.env) Q E s:=by
 obtain⟨mb,e,d⟩:=I.mod.blt;show Calls.Name_function_global I.ok.kind hg (Calls.loadGlobal_builtin (by rw[I.ok.glob];show I.mod.glob.keeps I.bk) hm (by rw[I.ok.blt];show e.keeps I.bk) ((d x hn).trans c) h) hd
theorem Kp{x:Str}{v:V}{u:Value}{a:Pos}(hg:Gl X x)(hm:X.mg x=some u)(r:RelV v u)(hd:(x==("__debug__":Str))=false:=by decide):PE X (.Name x a) (tC v):=
 λ_ _ _ H _ I h=>xh I hg hm ⟨v,H,I,r,h⟩ hd
theorem B1{x:Str}{v:V}{u:Value}{a:Pos}(hg:Gl X x)(hm:X.mg x=none)(b:bootBuiltins x=some u)(r:RelV v u)(hn:x≠"__name__":=by decide)(hd:(x==("__debug__":Str))=false:=by decide):PE X (.Name x a) (tC v):=
 λ_ _ _ H _ I h=>zev I hg hm b ⟨v,H,I,r,h⟩ hn hd
variable{a b:Expr}{ta tb:TE}{pos:Pos}
def PC(X:Cx)(op:CmpOp)(a b:Expr)(t:TE):Prop:=
 ∀(c:List (Addr×Obj))(s:Shared)(σ:St)(H:Hp)(Q:VK),Inv X c σ H s->t σ H Q->
  wpAny (model X.prog X.w) X.A (eval a X.env) (λv e=>wpAny (model X.prog X.w) X.A (eval b X.env) (λu d=>wpAny (model X.prog X.w) X.A (compareOp op v u) (EP X c σ Q) X.xe d) X.xe e) X.xe s
theorem Tc(b:Expr){op:CmpOp}(h:op≠.In)(a:op≠.NotIn):behindInMarks op b=false:=by
 have d:(op==CmpOp.In)=false:=by cases op<;>first | rfl | show absurd rfl h
 have c:(op==CmpOp.NotIn)=false:=by cases op<;>first | rfl | show absurd rfl a
 cases b<;>simp[behindInMarks,d,c]
def tB(t:TE):TT:=λσ H Q=>t σ H λx H1=>∃c,x=.bl c/\Q c H1
theorem ZW{op:CmpOp}{t:TE}(h:PC X op a b t)(e:behindInMarks op b=false:=by first | show Tc _ (by decide) (by decide) | rfl):PT X (.Compare a [op] [b] pos) (tB t):=by
 intro j s σ H Q I hw;show wpAny_isTrue_Compare1 (cQ (h j s σ H _ I hw) λv s1 e=>cQ e λu s2 g=>cQ g λc s3 i=>?_) e;obtain⟨x,H1,I1,r1,f⟩:=i;obtain⟨d,rfl,q⟩:=f;cases r1;show wpAny_truthy_bool ⟨H1,I1,q⟩
theorem Qo{e:Expr}{t:TE}(h:PE X e t)(b:∀whole,isTrue e X.env whole=(do let v <-whole;standAt e.pos;holding [v] (truthy v)):=by intro _;rfl):PT X e (tB t):=by
 intro f s σ H Q I hw;show isTrue_plain (cQ (h f s σ H _ I hw) λv s1 c=>?_) (b _);obtain⟨x,H1,I1,r1,a⟩:=c;obtain⟨d,rfl,q⟩:=a;cases r1;show wpAny_truthy_bool ⟨H1,I1,q⟩
variable{tA CJ:TT}{rest:List Expr}
def N4(t u:TT):TT:=λσ H Q=>t σ H λc H1=>if c=true then u σ H1 Q else Q false H1
def Xm(t u:TT):TT:=λσ H Q=>t σ H λc H1=>if c=true then Q true H1 else u σ H1 Q
def N3(t:TT):TT:=λσ H Q=>t σ H λc H1=>Q (!c) H1
theorem Rf(ha:PT X a tA):PW X (.BoolOp .And [a] pos) tA:=by
 intro d b s σ H Q I h;show isTrue_and (cQ (ha b s σ H Q I h) λc s1 e=>?_);cases c with
 | true=>show isTrue_and_nil e
 | false=>show e
theorem Qn(ha:PT X a tA):PW X (.BoolOp .Or [a] pos) tA:=by
 intro d b s σ H Q I h;show isTrue_or (cQ (ha b s σ H Q I h) λc s1 e=>?_);cases c with
 | false=>show isTrue_or_nil e
 | true=>show e
theorem Qm(ha:PT X a tA)(hb:PW X (.BoolOp .And (b::rest) pos) CJ):PW X (.BoolOp .And (a::b::rest) pos) (N4 tA CJ):=by
 intro f e s σ H Q I h;show isTrue_and (cQ (ha e s σ H _ I h) λc s1 g=>?_);obtain⟨H1,I1,d⟩:=g;cases c with
 | true=>show hb f e s1 σ H1 Q I1 d
 | false=>show⟨H1,I1,d⟩
theorem OK(ha:PT X a tA)(hb:PW X (.BoolOp .Or (b::rest) pos) CJ):PW X (.BoolOp .Or (a::b::rest) pos) (Xm tA CJ):=by
 intro f e s σ H Q I h;show isTrue_or (cQ (ha e s σ H _ I h) λc s1 g=>?_);obtain⟨H1,I1,d⟩:=g;cases c with
 | true=>show⟨H1,I1,d⟩
 | false=>show hb f e s1 σ H1 Q I1 d
theorem QR(ha:PT X a tA):PT X (.UnaryOp .Not a pos) (N3 tA):=by
 intro b s σ H Q I h;show isTrue_not (ha b s σ H (λc H1=>Q (!c) H1) I h)
def OJ(ta tb:TE):TE:=λσ H Q=>ta σ H λx H1=>∃c,x=.bl c/\if c=true then tb σ H1 Q else Q (.bl false) H1
def N2(ta tb:TE):TE:=λσ H Q=>ta σ H λx H1=>∃c,x=.bl c/\if c=true then Q (.bl true) H1 else tb σ H1 Q
def OI(ta:TE):TE:=λσ H Q=>ta σ H λx H1=>∃c,x=.bl c/\Q (.bl (!c)) H1
theorem QQ{op}{t:TE}(h:PE X a t):PE X (.BoolOp op [a] pos) t:=λb s σ H Q I hw=>BoolOp_one (h b s σ H Q I hw)
theorem QP(ha:PE X a ta)(hb:PE X (.BoolOp .And (b::rest) pos) tb):PE X (.BoolOp .And (a::b::rest) pos) (OJ ta tb):=by
 intro e s σ H Q I h;show BoolOp_and (cQ (ha e s σ H _ I h) λv s1 f=>?_);obtain⟨x,H1,I1,r1,d⟩:=f;obtain⟨c,rfl,d⟩:=d;cases r1;show wpAny_truthy_bool ?_;cases c with
 | true=>show hb e s1 σ H1 Q I1 d
 | false=>show⟨.bl false,H1,I1,rfl,d⟩
theorem OH(ha:PE X a ta)(hb:PE X (.BoolOp .Or (b::rest) pos) tb):PE X (.BoolOp .Or (a::b::rest) pos) (N2 ta tb):=by
 intro e s σ H Q I h;show BoolOp_or (cQ (ha e s σ H _ I h) λv s1 f=>?_);obtain⟨x,H1,I1,r1,d⟩:=f;obtain⟨c,rfl,d⟩:=d;cases r1;show wpAny_truthy_bool ?_;cases c with
 | false=>show hb e s1 σ H1 Q I1 d
 | true=>show⟨.bl true,H1,I1,rfl,d⟩
theorem QO(ha:PE X a ta):PE X (.UnaryOp .Not a pos) (OI ta):=by
 intro e s σ H Q I h;show UnaryOp_ (cQ (ha e s σ H _ I h) λv s1 d=>?_);obtain⟨x,H1,I1,r1,b⟩:=d;obtain⟨c,rfl,b⟩:=b;cases r1;show not_of (wpAny_truthy_bool ⟨.bl (!c),H1,I1,rfl,b⟩)
end
def eh(K:J')(H:Hp)(a:Addr)(xs:List V):Prop:=
 Rd H a (.lst xs)\/
  ∃(o:Obj)(its:Array Value)(n:Nat),K.lookup a=some o/\o.cls=.type "list"/\o.dict=none/\o.data=.seq its n/\its.size<=sizeLine/\Vals xs its.toList
def dF(K:J')(H:Hp)(a:Addr)(xs:List V):Prop:=
 Rd H a (.tup xs)\/
  ∃(o:Obj)(its:Array Value)(n:Nat),K.lookup a=some o/\o.cls=.type "tuple"/\o.data=.seq its n/\its.size<=sizeLine/\Vals xs its.toList
noncomputable def N1:Value->Option V
 | .none=>some .non
 | .bool b=>some (.bl b)
 | .int i _=>some (.int i)
 | .str x _=>some (.str x)
 | .bytes b _=>some (.Dp b)
 | .float b _=>some (.Dl b)
 | .ref a=>some (.ref a)
 | .type n=>some (.ty n)
 | _=>none
theorem RelV.abs{x:V}{u:Value}(r:RelV x u):N1 u=some x:=by
 cases x with
 | non=>cases r;rfl
 | bl _=>cases r;rfl
 | int _=>obtain⟨t,rfl⟩:=r;rfl
 | str _=>obtain⟨t,rfl⟩:=r;rfl
 | Dp _=>obtain⟨t,rfl⟩:=r;rfl
 | Dl _=>obtain⟨t,rfl⟩:=r;rfl
 | ref _=>cases r;rfl
 | ty _=>cases r;rfl
theorem RelV.inj{x y:V}{u:Value}(r:RelV x u)(q:RelV y u):x=y:=Option.some.inj (r.abs.symm.trans q.abs)
theorem Vals.inj{xs ys:List V}{us:List Value}(h:Vals xs us)(k:Vals ys us):xs=ys:=by
 induction h generalizing ys with
 | nil=>cases k;rfl
 | cons r t b=>
  cases k with
  | cons a t'=>rw[r.inj a,b t']
section
variable{X:Cx}{K':List (Addr×Obj)}{σ:St}{H:Hp}{s:Shared}{a:Addr}{xs ys:List V}
theorem eh.of{K:J'}(h:H a=some (.lst xs)):eh K H a xs:=.inl (.inl h)
theorem dF.of{K:J'}(h:H a=some (.tup xs)):dF K H a xs:=.inl (.inl h)
theorem Inv.list(I:Inv X K' σ H s)(h:eh X.K H a xs):∃its:List Value,Vals xs its/\PlainL s.heap a its.toArray/\xs.length<=sizeLine:=by
 rcases h with h | ⟨o,its,n,hk,c,hd,b,hz,r⟩
 .obtain⟨z,its,n,r,e⟩:=h.ok I.cH;show⟨its,r,⟨_,n,e,rfl,rfl,rfl⟩,z⟩
 show⟨its.toList,r,⟨o,n,I.g8 a o hk,c,hd,by simpa using b⟩,?_⟩;have e:=r.length;simp only[bw] at e;ext
theorem Inv.tuple(I:Inv X K' σ H s)(h:dF X.K H a xs):∃its:List Value,Vals xs its/\IsTup s.heap a its.toArray/\xs.length<=sizeLine:=by
 rcases h with h | ⟨o,its,n,hk,c,b,hz,r⟩
 .obtain⟨z,its,r,p⟩:=h.ok I.cH;show⟨its,r,p,z⟩
 show⟨its.toList,r,⟨o,I.g8 a o hk,c,n,by simpa using b⟩,?_⟩;have e:=r.length;simp only[bw] at e;ext
theorem Inv.gQ(I:Inv X K' σ H s)(h:eh X.K H a xs)(h':eh X.K H a ys):xs=ys:=by
 obtain⟨its,r,⟨o,n,e,_,_,d⟩,_⟩:=I.list h;obtain⟨its',c,⟨o',g,b,_,_,d'⟩,_⟩:=I.list h';rw[e] at b;cases b;rw[d] at d';injection d' with f _
 have:its=its':=by simpa using congrArg Array.toList f
 subst this;show r.inj c
theorem Inv.g6(I:Inv X K' σ H s)(h:dF X.K H a xs)(h':dF X.K H a ys):xs=ys:=by
 obtain⟨its,r,⟨o,e,_,n,d⟩,_⟩:=I.tuple h;obtain⟨its',c,⟨o',b,_,g,d'⟩,_⟩:=I.tuple h';rw[e] at b;cases b;rw[d] at d';injection d' with f _
 have:its=its':=by simpa using congrArg Array.toList f
 subst this;show r.inj c
end
noncomputable abbrev Cx.kz(X:Cx)(E:Value->Shared->Prop):Cx:={ X with xe:=E }
noncomputable abbrev Cx.lg(X:Cx):Cx:=X.kz λ_ _=>False
theorem Cx.Ok.kz{X:Cx}(ok:X.Ok)(E:Value->Shared->Prop):(X.kz E).Ok:=
 ⟨ok.mod,ok.kind,ok.glob,ok.blt,ok.above,ok.inj,ok.has,ok.cab,ok.hd,ok.frames,ok.zz,ok.exf,ok.bs,ok.tG,ok.oC,ok.oK,ok.gG,ok.qW⟩
theorem Cx.Ok.gN{X:Cx}{E:Value->Shared->Prop}(ok:(X.kz E).Ok):X.Ok:=
 ⟨ok.mod,ok.kind,ok.glob,ok.blt,ok.above,ok.inj,ok.has,ok.cab,ok.hd,ok.frames,ok.zz,ok.exf,ok.bs,ok.tG,ok.oC,ok.oK,ok.gG,ok.qW⟩
section
variable{X:Cx}{K':List (Addr×Obj)}{σ:St}{H:Hp}{s:Shared}{E:Value->Shared->Prop}
theorem Inv.kz(I:Inv X K' σ H s)(E:Value->Shared->Prop):Inv (X.kz E) K' σ H s:=⟨I.ok.kz E,I.os,I.bare,I.base,I.loc,I.cell,I.free,I.fA,I.pin,I.cH,I.len⟩
theorem Inv.gN(I:Inv (X.kz E) K' σ H s):Inv X K' σ H s:=⟨I.ok.gN,I.os,I.bare,I.base,I.loc,I.cell,I.free,I.fA,I.pin,I.cH,I.len⟩
theorem SP.gN{D:Ends}{f:Flow}{b:Shared}(h:SP (X.kz E) K' D f b):SP X K' D f b:=by
 cases f with
 | next=>obtain⟨a,H',I,q⟩:=h;show⟨a,H',I.gN,q⟩
 | brk=>obtain⟨a,H',I,q⟩:=h;show⟨a,H',I.gN,q⟩
 | cont=>obtain⟨a,H',I,q⟩:=h;show⟨a,H',I.gN,q⟩
 | ret u=>obtain⟨v,a,H',I,r,q⟩:=h;show⟨v,a,H',I.gN,r,q⟩
theorem l8.lg{st:List Stmt}{t:TS}(h:l8 X.lg st t):l8 X st t:=λK' s σ H D I hw=>
 bE (h K' s σ H D (I.kz _) hw) (λ_ _ q=>q.gN) λ_ _ z=>False.elim z
end
section
variable{X:Cx}{st:Stmt}{rest:List Stmt}{t u:TS}{e:Expr}{te:TE}{pos:Pos}
def OG:TS:=λD σ H=>D.nx σ H
def DM(t u:TS):TS:=λD σ H=>t { D with nx:=u D } σ H
theorem Rc:l8 X [] OG:=λ_ _ σ H _ I h=>wpAny_execs_nil ⟨σ,H,I,h⟩
theorem yS(c:PS X st t)(b:l8 X rest u):l8 X (st::rest) (DM t u):=by
 intro a s σ H D I h;show wpAny_execs_cons (cQ (c a s σ H { D with nx:=u D } I h) λf s1 q=>?_);cases f with
 | next=>
  obtain⟨d,H',e,q⟩:=q;show b a s1 d H' D e q
 | ret v=>show q
 | brk=>show q
 | cont=>show q
theorem yJ(a:PS X st t):l8 X [st] t:=by
 intro b s σ H D I h;show wpAny_execs_cons (cQ (a b s σ H D I h) λf s1 q=>?_);cases f with
 | next=>show wpAny_execs_nil q
 | ret v=>show q
 | brk=>show q
 | cont=>show q
theorem Inv.quiet{b:List (Addr×Obj)}{a:St}{H:Hp}{s:Shared}(I:Inv X b a H s):interactive X.env=false:=by simp[interactive,I.ok.kind]
def OF(te:TE):TS:=λD σ H=>te σ H λ_ H1=>D.nx σ H1
theorem tX(c:PE X e te)(b:swapsWith e none pos.line X.env=pure false:=by rfl):PS X (.Expr e pos) (OF te):=by
 intro f s σ H D I h;show wpAny_Expr_any (cQ (c f s σ H _ I h) λv s1 d=>by obtain⟨x,H1,I1,r1,a⟩:=d;show⟨σ,H1,I1,a⟩) I.quiet b
def N0(te:TE):TS:=λD σ H=>te σ H D.rt
theorem yA(b:PE X e te):PS X (.Return (some e) pos) (N0 te):=by
 intro d s σ H D I h;show wpAny_Return_some (cQ (b d s σ H _ I h) λv s1 c=>by obtain⟨x,H1,I1,r1,a⟩:=c;show⟨x,σ,H1,I1,r1,a⟩)
def NZ(c:TT)(t u:TS):TS:=λD σ H=>c σ H λb H1=>if b=true then t D σ H1 else u D σ H1
theorem DW{c:Expr}{a b:List Stmt}{tc:TT}(g:PT X c tc)(ha:l8 X a t)(hb:l8 X b u):PS X (.If c a b pos) (NZ tc t u):=by
 intro e s σ H D I h;show wpAny_If (cQ (g e s σ H _ I h) λd s1 i=>?_);obtain⟨H1,I1,f⟩:=i;cases d with
 | true=>show ha e s1 σ H1 D I1 f
 | false=>show hb e s1 σ H1 D I1 f
end
noncomputable abbrev TG:=V->St->Hp->(St->Hp->Prop)->Prop
noncomputable abbrev wB:=List V->St->Hp->(St->Hp->Prop)->Prop
def PG(X:Cx)(a:Expr)(t:TG):Prop:=
 ∀(c:List (Addr×Obj))(s:Shared)(σ:St)(H:Hp)(v:V)(u:Value)(Q:St->Hp->Prop),Inv X c σ H s->RelV v u->t v σ H Q->
  wpAny (model X.prog X.w) X.A (assign a X.env u) (λ_ d=>∃b H',Inv X c b H' d/\Q b H') X.xe s
def Bd(X:Cx)(d:List Expr)(t:wB):Prop:=
 ∀(c:List (Addr×Obj))(s:Shared)(σ:St)(H:Hp)(a:List V)(us:List Value)(Q:St->Hp->Prop),Inv X c σ H s->Vals a us->t a σ H Q->
  wpAny (model X.prog X.w) X.A (assignInOrder ((assignEach d X.env).map (·.2)) us) (λ_ e=>∃b H',Inv X c b H' e/\Q b H') X.xe s
noncomputable abbrev DL:=V->V->V->Hp->(Hp->Prop)->Prop
def IH(X:Cx)(t:DL):Prop:=
 ∀(b:List (Addr×Obj))(s:Shared)(σ:St)(H:Hp)(o i v:V)(ov a u:Value)(Q:Hp->Prop),Inv X b σ H s->RelV o ov->RelV i a->RelV v u->t o i v H Q->
  wpAny (model X.prog X.w) X.A (setItem ov a u) (λ_ c=>∃H',Inv X b σ H' c/\Q H') X.xe s
section
variable{X:Cx}{pos:Pos}
def u3(i:Nat):TG:=λv σ H Q=>Q (σ.set i (some v)) H
theorem Ko{i:Nat}{x:Str}(hN:X.N.Nodup)(b:X.N[i]?=some x)(a:Loc X.env.scope x)(c:X.fn x=true\/X.env.scope.names.lookup x=some .local:=by first | show .inl rfl | show .inr rfl | assumption):PG X (.Name x pos) (u3 i):=by
 intro f s σ H v u Q I r h;show wpAny_assign_Name (Ck I hN b a r (λe d=>⟨_,H,d,h⟩) c)
noncomputable def NY:wB:=λa σ H Q=>a=[]/\Q σ H
noncomputable def OE(t:TG)(u:wB):wB:=λa σ H Q=>∃v r,a=v::r/\t v σ H λb H'=>u r b H' Q
theorem Rb:Bd X [] NY:=by
 intro b s σ H a us Q I r h;obtain⟨e,h⟩:=h;subst e;cases r;show assignInOrder_nil ⟨σ,H,I,h⟩
theorem TH{e:Expr}{a:List Expr}{t:TG}{u:wB}(j:PG X e t)(i:Bd X a u)
  (g:(assignEach (e::a) X.env).map (·.2)=assign e X.env::(assignEach a X.env).map (·.2):=by rfl):Bd X (e::a) (OE t u):=by
 intro b s σ H m us Q I r h;obtain⟨v,n,k,h⟩:=h;subst k;cases r with
 | cons r d=>
  rw[g];show assignInOrder_cons (cQ (j b s σ H _ _ _ I r h) λ_ s1 l=>?_);obtain⟨c,H1,I1,f⟩:=l;show i b s1 c H1 _ _ Q I1 d f
def NX(K:J')(n:Nat)(t:wB):TG:=λv σ H Q=>∃a xs,v=.ref a/\dF K H a xs/\xs.length=n/\t xs σ H Q
theorem QN{c:List Expr}{k:Nat}{t:wB}{n:Nat}(l:X.calm=true)(h:Bd X c t)
  (hn:(assignEach c X.env).length=n:=by rfl) (p:(assignEach c X.env).findIdx? (·.1)=none:=by rfl):PG X (.Tuple c k pos) (NX X.K n t):=by
 intro f s σ H v u Q I r hw;obtain⟨a,xs,m,i,j,hw⟩:=hw;subst m;cases r;obtain⟨its,d,ht,hz⟩:=I.tuple i;show assign_Tuple_tuple (I.ok.hd l) ht (by simp[hn,<-j,d.length]) p λh' g=>?_
 have I1:Inv X f σ H { s with heap:=h' }:=I.kept (t':=s.toks) λb o e=>g b o (aE (aq e)) e
 show h f _ σ H xs _ Q I1 (by simpa using d) hw
def NW(to a:TE)(t:DL):TG:=λv σ H Q=>to σ H λo H1=>a σ H1 λi c=>t o i v c λb=>Q σ b
theorem QM{o i:Expr}{to d:TE}{t:DL}(l:PE X o to)(m:PE X i d)(k:IH X t)
  (ha:∀v,assign (.Subscript o i pos) X.env v=(do
   let ov <-holding [v] (eval o X.env)
   let a <-holding [v,ov] (eval i X.env)
   standAt pos
   holding [v,ov,a] (setItem ov a v)
   release [v,ov,a] []):=by intro _;rfl):PG X (.Subscript o i pos) (NW to d t):=by
 intro c s σ H v u Q I r h;rw[ha];show aa (bz (cQ (l c s σ H _ I h) λov s1 b=>?_));obtain⟨x,H1,I1,r1,j⟩:=b;show aa (bz (cQ (m c s1 σ H1 _ I1 j) λa s2 b=>?_));obtain⟨y,p,I2,e,g⟩:=b;show aa (wpAny_standAt (aa (bz (cQ (k c s2 σ p x y v ov a u _ I2 r1 e r g) λ_ s3 b=>?_))));obtain⟨n,I3,f⟩:=b;show wpAny_release ⟨σ,n,I3,f⟩
def yj(te:TE)(g:TG):TS:=λD σ H=>te σ H λx H1=>g x σ H1 D.nx
theorem QL{a e:Expr}{te:TE}{g:TG}(f:PE X e te)(hg:PG X a g)(d:swapsWithSole [a] e pos.line X.env=pure false:=by rfl)(hw:swappedStores [a] e X.env=pure none:=by rfl)
  (i:(assignEach [a] X.env).map (·.2)=[assign a X.env]:=by rfl):PS X (.Assign [a] e pos) (yj te g):=by
 intro b s σ H D I h;show wpAny_Assign_stores (cQ (f b s σ H _ I h) λv s1 j=>?_) d hw;obtain⟨x,H1,I1,r1,c⟩:=j;rw[i];show cQ (hg b s1 σ H1 x v _ I1 r1 c) λ_ s2 q=>q
theorem yz{i:Nat}{x:Str}{e:Expr}{te:TE}{a:Pos}(hN:X.N.Nodup)(f:X.N[i]?=some x)(c:Loc X.env.scope x)(j:PE X e te)(d:swapsWith e (some (.Name x a)) pos.line X.env=pure false:=by rfl)(g:X.fn x=true\/X.env.scope.names.lookup x=some .local:=by first | show .inl rfl | show .inr rfl | assumption) :
  PS X (.Assign [.Name x a] e pos) (yj te (u3 i)):=by
 intro l s σ H D I h;show wpAny_Assign_Name (cQ (j l s σ H _ I h) λv s1 k=>?_) d;obtain⟨y,H1,I1,r1,b⟩:=k;show Ck I1 hN f c r1 (λs2 I2=>⟨_,H1,I2,b⟩) g
end
section
variable{X:Cx}{pos:Pos}
def QK(c:TT)(e:TS):TS:=λD σ H=>∃W:Nat->St->Hp->Prop,(∃m,W m σ H)/\∀m σ H,W m σ H->
 c σ H λb H1=>if b=true then ∃N:St->Hp->Prop,(∀d H',N d H'->∃a,a<m/\W a d H')/\e { D with nx:=N,ct:=N,bk:=D.nx } σ H1 else D.nx σ H1
theorem TF{c:Expr}{body:List Stmt}{tc:TT}{o:TS}(p:PassesOwn (model X.prog X.w) X.A X.env X.xe)(y:PT X c tc)(hb:l8 X body o):PS X (.While c body [] pos) (QK tc o):=by
 intro m s σ H D I h;obtain⟨W,⟨m0,u⟩,turn⟩:=h;show wpAny_While (codeAny_whileLoop (λn x=>∃q H',Inv X m q H' x/\W n q H') ?_ m0 ⟨σ,H,I,u⟩);rintro n s1 ⟨e,H1,I1,t⟩;show wpAny_passesOwn p (cQ (y m s1 e H1 _ I1 (turn n e H1 t)) λb s2 z=>?_);obtain⟨r,I2,i⟩:=z;cases b with
 | true=>
  obtain⟨N,hN,i⟩:=i;rw[if_pos rfl];show wpAny_passesOwn p (cQ (hb m s2 e r _ I2 i) λf s3 g=>?_);cases f with
  | next=>
   obtain⟨a,d,I3,k⟩:=g;obtain⟨l,hm,j⟩:=hN a d k;show⟨l,hm,a,d,I3,j⟩
  | cont=>
   obtain⟨a,d,I3,k⟩:=g;obtain⟨l,hm,j⟩:=hN a d k;show⟨l,hm,a,d,I3,j⟩
  | brk=>show g
  | ret v=>show g
 | false=>
  rw[if_neg aD];show wpAny_execs_nil ⟨e,r,I2,i⟩
end
structure It where
 go:Nat->Hp->Prop
 CG:Nat->Hp->V->Hp->Prop
 stop:Nat->Hp->Prop
def jS(X:Cx)(a:List (Addr×Obj))(H:Hp)(b:Addr):Prop:=
 H b=none/\b≠X.env.locals/\b∉X.fs/\(b∈X.ex\/X.c7.heap.objs.size<=b)/\(∀x c,X.env.cells.lookup x=some c->c≠b)/\∀p∈X.pn++a,p.1≠b
theorem Inv.kF{X:Cx}{a:List (Addr×Obj)}{d:St}{H H':Hp}{s:Shared}{b:Addr}(I:Inv X a d H s)(hb:s.heap.objs.size<=b)(hn:H' b=none):jS X a H' b:=by
 show⟨hn,Nat.ne_of_gt (aK I.lt hb),I.Gr hb,.inr (bO I.sz hb),λx c e z=>?_,λp f z=>?_⟩
 .obtain⟨v,q⟩:=I.cell x c e;show absurd (aK q.lt (by rw[z];show hb)) (Nat.lt_irrefl _)
 show absurd (aK (aq (I.pin p f).1) (by rw[z];show hb)) (Nat.lt_irrefl _)
structure Turn(P:Program)(w:World)(K:J')(tg:Expr)(J:It)(fp:List Addr)(it:Addr)(tn:Nat->Heap->Prop):Prop where
 mem:it∈fp
 obj:∀i h,tn i h->∀b∈fp,∃o,h.get? b=some o/\∀v,o.data≠.cell v
 keep:∀i h h',tn i h->(∀b∈fp,∀o,h.get? b=some o->h'.get? b=some o)->tn i h'
 item:∀(X:Cx),X.prog=P->X.w=w->X.K=K->X.calm=true->∀(i:Nat)(K':List (Addr×Obj))(s:Shared)(σ:St)(H:Hp)(E:Value->Shared->Prop),Inv X K' σ H s->(∀b∈fp,jS X K' H b)->tn i s.heap->J.go i H->
  wpAny (model P w) X.A (pyNext (.ref it)) (λr s1=>∃u,r=some u/\
   wpAny (model P w) X.A (letOwnedTupleGo tg (.ref it) u) (λ_ s2=>∃x H',Inv X K' σ H' s2/\RelV x u/\J.CG i H x H'/\tn (i+1) s2.heap/\∀b∈fp,H' b=none) E s1) E s
 done:∀(X:Cx),X.prog=P->X.w=w->X.K=K->X.calm=true->∀(i:Nat)(K':List (Addr×Obj))(s:Shared)(σ:St)(H:Hp)(E:Value->Shared->Prop),Inv X K' σ H s->(∀b∈fp,jS X K' H b)->tn i s.heap->J.stop i H->
  wpAny (model P w) X.A (pyNext (.ref it)) (λr s1=>r=none/\Inv X K' σ H s1) E s
 self:∀(A:Around)(i:Nat)(s:Shared)(Q:Value->Shared->Prop)(E:Value->Shared->Prop),tn i s.heap->Q (.ref it) s->wpAny (model P w) A (pyIter (.ref it)) Q E s
noncomputable abbrev TI:=St->Hp->(It->Hp->Prop)->Prop
def Dv(X:Cx)(d:List (Addr×Obj))(e:St)(f:Expr)(R:It->Hp->Prop)(g:Value)(c:Shared):Prop:=
 ∃(it:Addr)(fp:List Addr)(a:Nat->Heap->Prop)(J:It)(H':Hp),g=.ref it/\Inv X d e H' c/\Turn X.prog X.w X.K f J fp it a/\a 0 c.heap/\(∀b∈fp,jS X d H' b)/\R J H'
def PI(X:Cx)(d a:Expr)(c:TI):Prop:=
 ∀(b:List (Addr×Obj))(s:Shared)(σ:St)(H:Hp)(R:It->Hp->Prop),Inv X b σ H s->c σ H R->
  wpAny (model X.prog X.w) X.A (eval a X.env) (λv s1=>wpAny (model X.prog X.w) X.A (pyIter v) (Dv X b σ d R) X.xe s1) X.xe s
theorem yu{M:Model}{A:Around}{E:Value->Shared->Prop}{s:Shared}{c:Expr}{it:Addr}{u:Value}{o:Obj}{n:String}{b:Array Value}{Q:Unit->Shared->Prop}(d:s.heap.get? it=some o)(e:o.cls=.type n)(hd:o.data=.fields b)
  (hn:["enumerate","zip","dict_itemiterator","dict_reverseitemiterator","odict_iterator","itertools.zip_longest","itertools.pairwise"].contains n=false) (a:Q () s):wpAny M A (letOwnedTupleGo c (.ref it) u) Q E s:=by
 unfold letOwnedTupleGo;cases c<;>first
  | show ai a
  | (cases u<;>first
    | show ai a
    | (show aa (wpAny_load d ?_)
       rw[e,hd];show wpAny M A (if (["enumerate","zip","dict_itemiterator","dict_reverseitemiterator","odict_iterator","itertools.zip_longest","itertools.pairwise"].contains n&&b[0]?==some (rawInt _))=true then _ else _) Q E s;rw[if_neg (by intro h;rw[hn,Bool.false_and] at h;cases h)];show ai a))
noncomputable def Iq(K:J')(a:Addr):It:=
 ⟨λi H=>∃xs x,eh K H a xs/\xs[i]?=some x,λi H x H'=>H'=H/\∀xs,eh K H a xs->xs[i]?=some x,λi H=>∃xs,eh K H a xs/\xs.length<=i⟩
noncomputable def Ip(K:J')(a:Addr):It:=
 ⟨λi H=>∃xs x,dF K H a xs/\xs[i]?=some x,λi H x H'=>H'=H/\∀xs,dF K H a xs->xs[i]?=some x,λi H=>∃xs,dF K H a xs/\xs.length<=i⟩
noncomputable def Dz(a:Int)(n:Nat):It:=⟨λi _=>i<n,λi H x H'=>H'=H/\x=.int (a+i),λi _=>n<=i⟩
theorem UW{P:Program}{w:World}{K:J'}{A:Expr}(a it:Addr):Turn P w K A (Iq K a) [it] it (λi h=>h.IsListIter it a i) where
 mem:=by simp
 obj:=λi h st b hb=>by
  have e:b=it:=by simpa using hb
  subst e;obtain⟨o,e,c,d⟩:=st;show⟨o,e,λv z=>by rw[d] at z;cases z⟩
 keep:=λi h h' st k=>st.at λo e=>k it (by simp) o e
 item:=by
  intro X l hw m r i y s σ H E I hf st hg;subst l hw m;obtain⟨xs,x,f,j⟩:=hg;obtain⟨its,g,p,hz⟩:=I.list f;obtain⟨u,F,C⟩:=g.get j;obtain⟨f0,f1,f2,q,f4,n⟩:=hf it (by simp);show wpAny_pyNext_list_item st p.isList (x:=u) (by simpa using F) λh' t B=>?_
  have I1:Inv X y σ H { s with heap:=h' }:=I.turned (t':=s.toks) (λb o hb e=>(B.2 b hb).trans e) f0 f1 q f4 n;obtain⟨o,e,c,d⟩:=id t;show⟨u,rfl,yu (s:={ s with heap:=h' }) e c d (by decide) ⟨x,H,I1,C,⟨rfl,λys D=>by rw[I.gQ D f];show j⟩,t,λb hb=>(hf b hb).1⟩⟩
 done:=by
  intro X l hw m r i y s σ H E I hf st hg;subst l hw m;obtain⟨xs,f,j⟩:=hg;obtain⟨its,g,p,hz⟩:=I.list f;obtain⟨f0,f1,f2,q,f4,n⟩:=hf it (by simp);have J:=g.length;show wpAny_pyNext_list_end (I.ok.hd r) st p.isList (by simp;ext) λh' G=>⟨rfl,I.turned (t':=s.toks) (λb o hb e=>G b o hb e) f0 f1 q f4 n⟩
 self:=λ_ _ _ _ _ st h=>wpAny_pyIter_listiter st h
theorem U8{P:Program}{w:World}{K:J'}{A:Expr}(a it:Addr):Turn P w K A (Ip K a) [it] it (λi h=>h.IsTupleIter it a i) where
 mem:=by simp
 obj:=λi h st b hb=>by
  have e:b=it:=by simpa using hb
  subst e;obtain⟨o,e,c,d⟩:=st;show⟨o,e,λv z=>by rw[d] at z;cases z⟩
 keep:=λi h h' st k=>st.at λo e=>k it (by simp) o e
 item:=by
  intro X l hw m r i y s σ H E I hf st hg;subst l hw m;obtain⟨xs,x,f,j⟩:=hg;obtain⟨its,g,p,hz⟩:=I.tuple f;obtain⟨u,F,C⟩:=g.get j;obtain⟨f0,f1,f2,q,f4,n⟩:=hf it (by simp);show wpAny_pyNext_tuple_item st (show s.heap.IsTuple a its.toArray from p) (x:=u) (by simpa using F) λh' t B=>?_
  have I1:Inv X y σ H { s with heap:=h' }:=I.turned (t':=s.toks) (λb o hb e=>(B.2 b hb).trans e) f0 f1 q f4 n;obtain⟨o,e,c,d⟩:=id t;show⟨u,rfl,yu (s:={ s with heap:=h' }) e c d (by decide) ⟨x,H,I1,C,⟨rfl,λys D=>by rw[I.g6 D f];show j⟩,t,λb hb=>(hf b hb).1⟩⟩
 done:=by
  intro X l hw m r i y s σ H E I hf st hg;subst l hw m;obtain⟨xs,f,j⟩:=hg;obtain⟨its,g,p,hz⟩:=I.tuple f;obtain⟨f0,f1,f2,q,f4,n⟩:=hf it (by simp);have J:=g.length;show wpAny_pyNext_tuple_end (I.ok.hd r) st (show s.heap.IsTuple a its.toArray from p) (by simp;ext) λh' G=>⟨rfl,I.turned (t':=s.toks) (λb o hb e=>G b o hb e) f0 f1 q f4 n⟩
 self:=λ_ _ _ _ _ st h=>wpAny_pyIter_tupleiter st h
theorem U7{P:Program}{w:World}{K:J'}{q:Expr}(it:Addr)(a:Int)(n:Nat):Turn P w K q (Dz a n) [it] it (λi h=>IsRangeIter h it (a+(i:Nat)*1) ((n:Int)-(i:Nat)) 1) where
 mem:=by simp
 obj:=λi h st b hb=>by
  have e:b=it:=by simpa using hb
  subst e
  show⟨_,st,λv z=>by
   have p:Data.fields _=Data.cell v:=z;cases p⟩
 keep:=λi h h' st k=>k it (by simp) _ st
 item:=by
  intro X d hw f c i m s σ H E I hf st hg;subst d hw f;obtain⟨f0,f1,f2,j,f4,g⟩:=hf it (by simp);have W:=Walks.range (prog:=X.prog) (w:=X.w) (I.ok.hd c) it a 1 n;show W.item i s _ _ hg st λv h' tk r l kk=>?_
  obtain⟨t,rfl⟩:=r;have I1:Inv X m σ H { s with heap:=h',toks:=tk }:=I.turned (λb o hb e=>kk b o (by simpa using hb) e) f0 f1 j f4 g;show⟨_,rfl,yu (s:={ s with heap:=h',toks:=tk }) (n:="range_iterator") l rfl rfl (by decide) ⟨.int (a+i),H,I1,⟨t,?_⟩,⟨rfl,rfl⟩,l,λb hb=>(hf b hb).1⟩⟩;rw[Int.mul_one]
 done:=by
  intro X d hw f c i m s σ H E I hf st hg;subst d hw f;obtain⟨f0,f1,f2,j,f4,g⟩:=hf it (by simp);show wpAny_pyNext_range_end (I.ok.hd c) st (by have:n<=i:=hg;ext) λh' u=>⟨rfl,I.turned (t':=s.toks) (λb o hb e=>u b o hb e) f0 f1 j f4 g⟩
 self:=λ_ _ _ _ _ st h=>wpAny_pyIter_rangeiter st h
section
variable{X:Cx}{tg:Expr}
theorem TC{f:List (Addr×Obj)}{d:St}{H:Hp}{s:Shared}{R:It->Hp->Prop}{E:Value->Shared->Prop}{a c:Int}{t u v:Tok}{tk:Nat}(I:Inv X f d H s)(j:-(2 ^ 62)<=a)(i:a<2 ^ 62)(h:-(2 ^ 62)<=c)(g:c<2 ^ 62)
  (q:R (Dz a (c-a).toNat) H):wpAny (model X.prog X.w) X.A (pyIter (.ref s.heap.objs.size)) (Dv X f d tg R) E { s with heap:=s.heap.push { cls:=.type "range",data:=.fields #[.int a t,.int c u,.int 1 v] },toks:=tk }:=by
 show wpAny_pyIter_range (IsRange.new ..) (small_one j i h g) ?_;have I1:Inv X f d H { s with heap:=s.heap.push { cls:=.type "range",data:=.fields #[.int a t,.int c u,.int 1 v] },toks:=tk }:=I.kept λb o e=>ae _ e
 show⟨(s.heap.push { cls:=.type "range",data:=.fields #[.int a t,.int c u,.int 1 v] }).objs.size,[(s.heap.push { cls:=.type "range",data:=.fields #[.int a t,.int c u,.int 1 v] }).objs.size],_,_,H,rfl,
  I1.kept (t':=tk) λb o e=>ae _ e,U7 _ a (c-a).toNat,?_,λb hb=>?_,q⟩
 .have l:a+((0:Nat):Int)*1=a:=by simp
  have k:(((c-a).toNat:Nat):Int)-((0:Nat):Int)=Builtin.Range.rangeSize a c 1:=by rw[rangeSize_one];split<;>ext
  show IsRangeIter _ _ (a+((0:Nat):Int)*1) ((((c-a).toNat:Nat):Int)-((0:Nat):Int)) 1;rw[l,k];show az _ rfl
 have e:b=(s.heap.push { cls:=.type "range",data:=.fields #[.int a t,.int c u,.int 1 v] }).objs.size:=by simpa using hb
 subst e;show I1.kF (au _) (I1.cH.fresh (au _))
def OD(b:TA):TI:=λσ H R=>b σ H λa H1=>∃j:Int,a=[.int j]/\-(2 ^ 62)<=j/\j<2 ^ 62/\R (Dz 0 j.toNat) H1
theorem UU{a:Expr}{d:TA}{p b:Pos}(hg:Gl X "range")(hm:X.mg "range"=none)(ha:PA X [a] d)(i:starEach [a] X.env=[(false,eval a X.env)]:=by rfl):PI X tg (.Call (.Name "range" p) [a] [] b) (OD d):=by
 intro l s σ H R I h;show Call_ (zev I hg hm boot_range (PyProof.Rows.callWith_type1 (cQ (ha b l s σ H _ I h) λus s1 k=>?_) i rfl));obtain⟨m,H1,I1,r1,c⟩:=k;obtain⟨j,e,c,g,q⟩:=c;subst e;cases r1 with
 | cons r f=>
  cases f;obtain⟨t,rfl⟩:=r;show call_range_1 (TC I1 (by ext) (by ext) c g (by simpa using q))
def NV(c:TI)(g:TG)(d:TS):TS:=λD σ H=>c σ H λJ H1=>∃W:Nat->Nat->St->Hp->Prop,(∃m,W 0 m σ H1)/\∀i m σ H,W i m σ H->
 (J.stop i H/\D.nx σ H)\/(J.go i H/\∃N:St->Hp->Prop,(∀b H',N b H'->∃a,a<m/\W (i+1) a b H')/\∀x H',J.CG i H x H'->g x σ H' λe f=>d { D with nx:=N,ct:=N,bk:=D.nx } e f)
noncomputable def yy(fp:List Addr)(h:Heap):List (Addr×Obj):=fp.filterMap λb=>(h.get? b).map λo=>(b,o)
theorem Cu{fp:List Addr}{h:Heap}{b:Addr}{o:Obj}(hb:b∈fp)(e:h.get? b=some o):(b,o)∈yy fp h:=List.mem_filterMap.mpr ⟨b,hb,by rw[e];rfl⟩
theorem UT{fp:List Addr}{h:Heap}{p:Addr×Obj}(a:p∈yy fp h):p.1∈fp/\h.get? p.1=some p.2:=by
 obtain⟨b,hb,e⟩:=List.mem_filterMap.mp a;cases q:h.get? b with
 | none=>rw[q] at e;cases e
 | some o=>
  rw[q] at e;have c:(b,o)=p:=Option.some.inj e;subst c;show⟨hb,q⟩
theorem Inv.pinned{a:List (Addr×Obj)}{c:St}{H:Hp}{s:Shared}{fp:List Addr}(I:Inv X a c H s)(i:∀b∈fp,jS X a H b)(h:∀b∈fp,∃o,s.heap.get? b=some o/\∀v,o.data≠.cell v):Inv X (a++yy fp s.heap) c H s:=
 I.nM λp g=>(aC.mp g).elim (λz=>I.pin p (bg _ z)) λz=>by
  obtain⟨hb,e⟩:=UT z;obtain⟨f0,f1,f2,_⟩:=i p.1 hb;obtain⟨o,f,d⟩:=h p.1 hb;rw[e] at f;cases f;show⟨e,f0,f1,f2,d⟩
theorem Inv.iL{b pl:List (Addr×Obj)}{a:St}{H:Hp}{s:Shared}(I:Inv X (b++pl) a H s):Inv X b a H s:=I.nM λp c=>I.pin p (bg _ (aZ _ c))
theorem QJ{c:Expr}{body:List Stmt}{M:TI}{g:TG}{P:TS}{G:Pos}(z:PassesOwn (model X.prog X.w) X.A X.env X.xe)(R:X.calm=true)(hi:PI X tg c M)(hg:PG X tg g)(hb:l8 X body P)
  (hs:∀x,foldedSetIterable c X.env x=pure x:=by intro _;rfl):PS X (.For tg c body [] G) (NV M g P):=by
 intro q s σ H D I h;show wpAny_For (cQ (hi q s σ H _ I h) λv s1 h1=>cQ h1 λGy s2 h2=>?_) hs;obtain⟨it,fp,O,J,H2,e,I2,T,CK,f2,W,⟨m0,w0⟩,turn⟩:=h2;subst e
 -- F4 stays true of ou vQ objects through ou loop
 have E:∀{H':Hp},(∀b∈fp,H' b=none)->∀b∈fp,jS X q H' b:=λhn b hb=>⟨hn b hb,(f2 b hb).2⟩
 show codeAny_forLoop_any (λn Q=>∃i B H',Inv X q B H' Q/\O i Q.heap/\(∀b∈fp,H' b=none)/\W i n B H') ?_ m0 ⟨0,σ,H2,I2,CK,λb hb=>(f2 b hb).1,w0⟩;rintro n s3 ⟨i,y,C,I3,U,S,w3⟩;rcases turn i n y C w3 with⟨stop,qn⟩ | ⟨go,N,hN,step⟩
 .refine wpAny_passesOwn z (cQ (T.done X rfl rfl rfl R i q s3 y C X.xe I3 (E S) U stop) λr s4 p=>?_);obtain⟨K,I4⟩:=p;subst K;show wpAny_execs_nil ⟨y,C,I4,qn⟩
 show wpAny_passesOwn z (cQ (T.item X rfl rfl rfl R i q s3 y C X.xe I3 (E S) U go) λr s4 p=>?_);obtain⟨u,K,h4⟩:=p;subst K;show wpAny_passesOwn z (cQ h4 λ_ s5 p=>?_);obtain⟨x,V,I5,r5,Y,L,Zv⟩:=p;have ZQ:=I5.pinned (E Zv) (T.obj _ _ L);show wpAny_passesOwn z (cQ (hg _ s5 y V x u _ ZQ r5 (step x V Y)) λ_ s6 p=>?_);obtain⟨NC,H6,I6,q6⟩:=p;show wpAny_passesOwn z (cQ (hb _ s6 NC H6 _ I6 q6) λf F l=>?_);have again:∀{a:St}{k:Hp},Inv X (q++yy fp s5.heap) a k F->N a k->∃m,m<n/\∃i B H',Inv X q B H' F/\O i F.heap/\(∀b∈fp,H' b=none)/\W i m B H':=λ{a k} j t=>by
  obtain⟨m',hm,w7⟩:=hN a k t;show⟨m',hm,i+1,a,k,j.iL,T.keep _ _ _ L λb hb o e=>(j.pin (b,o) (bg _ (bg _ (Cu hb e)))).1,λb hb=>?_,w7⟩;obtain⟨o,e,d⟩:=T.obj _ _ L b hb;show(j.pin (b,o) (bg _ (bg _ (Cu hb e)))).2.1
 cases f with
 | next=>obtain⟨a,k,j,t⟩:=l;show again j t
 | cont=>obtain⟨a,k,j,t⟩:=l;show again j t
 | brk=>obtain⟨a,k,j,l⟩:=l;show⟨a,k,j.iL,l⟩
 | ret v=>obtain⟨Z,a,k,j,r7,l⟩:=l;show⟨Z,a,k,j.iL,r7,l⟩
end
noncomputable abbrev R2:=V->V->Hp->VK->Prop
def gL(X:Cx)(f:Value->Value->Sem Value)(r:R2):Prop:=
 ∀(a:List (Addr×Obj))(s:Shared)(σ:St)(H:Hp)(x y:V)(v u:Value)(Q:VK),Inv X a σ H s->RelV x v->RelV y u->r x y H Q->
  wpAny (model X.prog X.w) X.A (f v u) (EP X a σ Q) X.xe s
def Io(X:Cx)(f:Value->Sem Value)(r:V->Hp->VK->Prop):Prop:=
 ∀(a:List (Addr×Obj))(s:Shared)(σ:St)(H:Hp)(x:V)(v:Value)(Q:VK),Inv X a σ H s->RelV x v->r x H Q->
  wpAny (model X.prog X.w) X.A (f v) (EP X a σ Q) X.xe s
def cW(X:Cx)(f:Value)(r:List V->Hp->VK->Prop):Prop:=
 ∀(a:List (Addr×Obj))(s:Shared)(σ:St)(H:Hp)(xs:List V)(us:List Value)(Q:VK),Inv X a σ H s->Vals xs us->r xs H Q->
  wpAny (model X.prog X.w) X.A (call f us) (EP X a σ Q) X.xe s
def zx(r:R2)(b a:TE):TE:=λσ H Q=>b σ H λx H1=>a σ H1 λy c=>r x y c Q
def Xk(r:V->Hp->VK->Prop)(a:TE):TE:=λσ H Q=>a σ H λx H1=>r x H1 Q
def rI(C:Int->Int->Prop)(g:Int->Int->V):R2:=λx y H Q=>∃i j,x=.int i/\y=.int j/\C i j/\Q (g i j) H
def pj(g:Int->Int->V):R2:=λx y H Q=>∃i j,x=.int i/\y=.int j/\Q (g i j) H
def rU(g:Int->V):V->Hp->VK->Prop:=λx H Q=>∃i,x=.int i/\Q (g i) H
section
variable{X:Cx}{a b c:Expr}{ta tb tc:TE}{pos:Pos}
theorem DK(ha:PE X a ta)(hb:PE X b tb){e:List (Addr×Obj)}{s:Shared}{c:St}{H:Hp}{R:V->V->Hp->Prop}(I:Inv X e c H s)
  (h:ta c H λx H1=>tb c H1 λy d=>R x y d) {Q:Value->Shared->Prop} {f:Value->Value->Sem Value}
  (l:∀v u s2 x y d,Inv X e c d s2->RelV x v->RelV y u->R x y d->wpAny (model X.prog X.w) X.A (f v u) Q X.xe s2) :
  wpAny (model X.prog X.w) X.A (eval a X.env) (λv n=>wpAny (model X.prog X.w) X.A (eval b X.env) (λu m=>wpAny (model X.prog X.w) X.A (f v u) Q X.xe m) X.xe n) X.xe s:=by
 show cQ (ha e s c H _ I h) λv s1 g=>?_
 obtain⟨x,H1,I1,r1,k⟩:=g;show cQ (hb e s1 c H1 _ I1 k) λu s2 g=>?_
 obtain⟨y,d,I2,i,j⟩:=g;show l v u s2 x y d I2 r1 i j
theorem Ja{op:Operator}{r:R2}(e:gL X (binaryOp op) r)(ha:PE X a ta)(hb:PE X b tb):PE X (.BinOp a op b pos) (zx r ta tb):=by
 intro f s σ H Q I h;show wpAny_BinOp (DK ha hb I h λv u s2 x y g I2 d c q=>e f s2 σ g x y v u Q I2 d c q)
theorem OC{op:UnaryOp}{r:V->Hp->VK->Prop}(d:Io X (unaryOp op) r)(ha:PE X a ta):PE X (.UnaryOp op a pos) (Xk r ta):=by
 intro b s σ H Q I h;show UnaryOp_ (cQ (ha b s σ H _ I h) λv s1 e=>by obtain⟨x,H1,I1,r1,c⟩:=e;show d b s1 σ H1 x v Q I1 r1 c)
theorem CQ{f:Value->Value->Sem Value}{C:Int->Int->Prop}{g:Int->Int->Int}
  (a:∀(i j:Int)(t u:Tok)(s:Shared)(Q:Value->Shared->Prop)(E:Value->Shared->Prop),C i j->Q (.int (g i j) s.toks) { s with toks:=s.toks+1 }->wpAny (model X.prog X.w) X.A (f (.int i t) (.int j u)) Q E s) :
  gL X f (rI C λi j=>.int (g i j)):=by
 intro e s σ H x y v u Q I c b h;obtain⟨i,j,rfl,rfl,d,q⟩:=h;obtain⟨t,rfl⟩:=c;obtain⟨t',rfl⟩:=b;show a i j t t' s _ _ d ⟨.int (g i j),H,I.tok _,⟨_,rfl⟩,q⟩
theorem IG{f:Value->Value->Sem Value}{g:Int->Int->Int}
  (a:∀(i j:Int)(t u:Tok)(s:Shared)(Q:Value->Shared->Prop)(E:Value->Shared->Prop),Q (.int (g i j) s.toks) { s with toks:=s.toks+1 }->wpAny (model X.prog X.w) X.A (f (.int i t) (.int j u)) Q E s) :
  gL X f (pj λi j=>.int (g i j)):=by
 intro d s σ H x y v u Q I c b h;obtain⟨i,j,rfl,rfl,q⟩:=h;obtain⟨t,rfl⟩:=c;obtain⟨t',rfl⟩:=b;show a i j t t' s _ _ ⟨.int (g i j),H,I.tok _,⟨_,rfl⟩,q⟩
theorem DJ{f:Value->Value->Sem Value}{g:Int->Int->Bool}
  (a:∀(i j:Int)(t u:Tok)(s:Shared)(Q:Value->Shared->Prop)(E:Value->Shared->Prop),Q (.bool (g i j)) s->wpAny (model X.prog X.w) X.A (f (.int i t) (.int j u)) Q E s) :
  gL X f (pj λi j=>.bl (g i j)):=by
 intro d s σ H x y v u Q I c b h;obtain⟨i,j,rfl,rfl,q⟩:=h;obtain⟨t,rfl⟩:=c;obtain⟨t',rfl⟩:=b;show a i j t t' s _ _ ⟨.bl (g i j),H,I,rfl,q⟩
def kq(i j:Int):Prop:=0<j/\j<1073741824
def rn(i j:Int):Prop:=0<=j/\j<=1000000/\i.natAbs<2 ^ 64
def je(i j:Int):Prop:=(-(2 ^ 64)<i/\i<2 ^ 64)\/(-(2 ^ 64)<j/\j<2 ^ 64)
theorem je.ok{i j:Int}(h:je i j):IntMulOk i j:=by
 rcases h with⟨b,a⟩ | ⟨b,a⟩
 .exact .of_left (intBits_le_64 b a)
 show .of_right (intBits_le_64 b a)
theorem vK:gL X (binaryOp .Add) (pj λi j=>.int (i+j)):=IG λ_ _ _ _ _ _ _ q=>add_int q
theorem Pg:gL X (binaryOp .Sub) (pj λi j=>.int (i-j)):=IG λ_ _ _ _ _ _ _ q=>sub_int q
theorem Pf:gL X (binaryOp .Mult) (rI je λi j=>.int (i*j)):=CQ λ_ _ _ _ _ _ _ a q=>mul_int q a.ok
theorem Ra:gL X (binaryOp .FloorDiv) (rI kq λi j=>.int (i/j)):=CQ λi j _ _ _ _ _ a q=>by
 have c:(0:Int)<j:=a.1;have b:j<1073741824:=a.2;show floordiv_int (by ext) (by rw[Int.fdiv_eq_ediv_of_nonneg i (by ext)];show q) (.inl (PyProof.noPylong_small (by ext)))
theorem Pe:gL X (binaryOp .Mod) (rI (λ_ j=>0<j) λi j=>.int (i%j)):=CQ λi j _ _ _ _ _ a q=>by
 have b:(0:Int)<j:=a;show mod_int' (by ext) (by rw[Int.fmod_eq_emod_of_nonneg i (by ext)];show q)
theorem Pd:gL X (binaryOp .Pow) (rI rn λi j=>.int (i ^ j.toNat)):=CQ λ_ _ _ _ _ _ _ a q=>pow_int_small a.1 a.2.1 a.2.2 q
theorem Xg{f:Value->Sem Value}{g:Int->Int}
  (a:∀(i:Int)(t:Tok)(s:Shared)(Q:Value->Shared->Prop)(E:Value->Shared->Prop),Q (.int (g i) s.toks) { s with toks:=s.toks+1 }->wpAny (model X.prog X.w) X.A (f (.int i t)) Q E s) :
  Io X f (rU λi=>.int (g i)):=by
 intro c s σ H x v Q I b h;obtain⟨i,rfl,q⟩:=h;obtain⟨t,rfl⟩:=b;show a i t s _ _ ⟨.int (g i),H,I.tok _,⟨_,rfl⟩,q⟩
theorem Pb:Io X (unaryOp .USub) (rU λi=>.int (-i)):=Xg λ_ _ _ _ _ q=>neg_int q
end
section
variable{X:Cx}{a b c:Expr}{ta tb tc:TE}{pos:Pos}
theorem JB{c:List (Addr×Obj)}{a:St}{H:Hp}{s:Shared}{Q:VK}{k b:Bool}(I:Inv X c a H s)(q:Q (.bl k) H)(e:k=b):EP X c a Q (.bool b) s:=by
 subst e;show⟨.bl k,H,I,rfl,q⟩
theorem OB:gL X (compareOp .Lt) (pj λi j=>.bl (decide (i<j))):=DJ λ_ _ _ _ _ _ _ q=>lt_int q
theorem DV:gL X (compareOp .LtE) (pj λi j=>.bl (decide (i<=j))):=DJ λ_ _ _ _ _ _ _ q=>le_int q
theorem OA:gL X (compareOp .Gt) (pj λi j=>.bl (decide (j<i))):=DJ λ_ _ _ _ _ _ _ q=>gt_int q
theorem Pa:gL X (compareOp .Is) (λx y H Q=>y=.non/\Q (.bl (decide (x=.non))) H):=by
 intro c s σ H x y v u Q I a b h;obtain⟨rfl,q⟩:=h;cases b;show is_none_gen (JB I q ?_);cases x<;>first
  | (cases a;rfl)
  | (obtain⟨t,rfl⟩:=a;rfl)
theorem Q9:gL X (compareOp .IsNot) (λx y H Q=>y=.non/\Q (.bl (!decide (x=.non))) H):=by
 intro c s σ H x y v u Q I a b h;obtain⟨rfl,q⟩:=h;cases b;show isnot_none_gen (JB I q ?_);cases x<;>first
  | (cases a;rfl)
  | (obtain⟨t,rfl⟩:=a;rfl)
theorem gL.or{f:Value->Value->Sem Value}{r c:R2}(h:gL X f r)(h':gL X f c):gL X f (λx y H Q=>r x y H Q\/c x y H Q):=by
 intro d s σ H x y v u Q I b a q;rcases q with q | q
 .exact h d s σ H x y v u Q I b a q
 show h' d s σ H x y v u Q I b a q
theorem JA(b:Expr){op:CmpOp}(h:op≠.In:=by decide)(a:op≠.NotIn:=by decide):behindInMarks op b=false:=by
 have d:(op==CmpOp.In)=false:=by cases op<;>first | rfl | show absurd rfl h
 have c:(op==CmpOp.NotIn)=false:=by cases op<;>first | rfl | show absurd rfl a
 cases b<;>simp[behindInMarks,d,c]
theorem Q8{op:CmpOp}{r:R2}(e:gL X (compareOp op) r)(ha:PE X a ta)(hb:PE X b tb)(hm:behindInMarks op b=false):PE X (.Compare a [op] [b] pos) (zx r ta tb):=by
 intro f s σ H Q I h;show wpAny_Compare1 (DK ha hb I h λv u s2 x y g I2 d c q=>e f s2 σ g x y v u Q I2 d c q) hm
def DU(t:TE):TT:=λσ H Q=>t σ H λx H'=>∃k,x=.bl k/\Q k H'
theorem Q7{op:CmpOp}{r:R2}(n:gL X (compareOp op) r)(ha:PE X a ta)(hb:PE X b tb)(hm:behindInMarks op b=false):PT X (.Compare a [op] [b] pos) (DU (zx r ta tb)):=by
 intro f s σ H Q I h;show wpAny_isTrue_Compare1 (cQ (ha f s σ H _ I h) λv s1 d=>?_) hm;obtain⟨x,H1,I1,r1,m⟩:=d;show cQ (hb f s1 σ H1 _ I1 m) λu s2 d=>?_
 obtain⟨y,p,I2,i,l⟩:=d;show cQ (n f s2 σ p x y v u _ I2 r1 i l) λc s3 d=>?_
 obtain⟨z,o,I3,g,k,e,j⟩:=d;subst e;cases g;show wpAny_truthy_bool ⟨o,I3,j⟩
def Jz(r c:R2)(ta tb tc:TE):TE:=λσ H Q=>ta σ H λx H1=>tb σ H1 λy e=>r x y e λz a=>∃k,z=.bl k/\
 (if k=true then tc σ a λb d=>c y b d Q else Q (.bl false) a)
theorem TB{op i:CmpOp}{r l:R2}(G:gL X (compareOp op) r)(F:gL X (compareOp i) l)(ha:PE X a ta)(hb:PE X b tb)(J:PE X c tc)
  (hm:lastMarks [op,i] [b,c]=false:=by with_unfolding_all rfl):PT X (.Compare a [op,i] [b,c] pos) (DU (Jz r l ta tb tc)):=by
 intro g s σ H Q I h;show isTrue_chain (cQ (ha g s σ H _ I h) λv s1 f=>?_) hm;obtain⟨x,H1,I1,r1,D⟩:=f;show test_link (cQ (hb g s1 σ H1 _ I1 D) λu s2 f=>?_);obtain⟨y,R,I2,j,C⟩:=f;show cQ (G g s2 σ R x y v u _ I2 r1 j C) λd s3 f=>?_
 obtain⟨z,n,I3,w,k,e,m⟩:=f;subst e;cases w;show wpAny_truthy_bool ?_;cases k with
 | false=>
  obtain⟨U,L,E⟩:=m;cases L;show ite_ff ⟨n,I3,E⟩
 | true=>
  show ite_tt (test_last (cQ (J g s3 σ n _ I3 m) λp s4 f=>?_));obtain⟨o,P,N,t,B⟩:=f;show cQ (F g s4 σ P y o u p _ N j t B) λd' s5 f=>?_
  obtain⟨S,O,M,q,T,K,A⟩:=f;subst K;cases q;show wpAny_truthy_bool ⟨O,M,A⟩
theorem w5:(sizeLine:Nat)<2 ^ 63:=by rw[sizeLine_eq];decide
theorem mZ:gL X (binaryOp .Add) (λx y H Q=>∃i j,x=.str i/\y=.str j/\i.length+j.length<=sizeLine/\Q (.str (i++j)) H):=by
 intro c s σ H x y v u Q I b a h;obtain⟨i,j,rfl,rfl,hz,q⟩:=h;obtain⟨t,rfl⟩:=b;obtain⟨t',rfl⟩:=a;show add_str (λt' tk=>⟨.str (i++j),H,I.tok _,⟨_,rfl⟩,q⟩) hz
theorem lP{x:V}{us:List Value}(r:Vals [x] us):∃u,us=[u]/\RelV x u:=by
 cases r with
 | cons r1 a=>cases a;show⟨_,rfl,r1⟩
theorem pV{x y:V}{us:List Value}(r:Vals [x,y] us):∃u a,us=[u,a]/\RelV x u/\RelV y a:=by
 cases r with
 | cons r1 d=>
  cases d with
  | cons c b=>cases b;show⟨_,_,rfl,r1,c⟩
theorem US(b:X.calm=true):cW X (.builtin "max") (λxs H Q=>∃i j,xs=[.int i,.int j]/\Q (.int (if j>i then j else i)) H):=by
 intro d s σ H xs us Q I r h;obtain⟨i,j,rfl,q⟩:=h;obtain⟨u,c,rfl,⟨t,rfl⟩,⟨t',rfl⟩⟩:=pV r;show max_two_ints (I.ok.hd b) λh' tk k=>⟨_,H,I.kept k,?_,q⟩
 by_cases a:j>i
 .rw[if_pos a,if_pos a];show⟨_,rfl⟩
 rw[if_neg a,if_neg a];show⟨_,rfl⟩
theorem UR(b:X.calm=true):cW X (.builtin "min") (λxs H Q=>∃i j,xs=[.int i,.int j]/\Q (.int (if j<i then j else i)) H):=by
 intro d s σ H xs us Q I r h;obtain⟨i,j,rfl,q⟩:=h;obtain⟨u,c,rfl,⟨t,rfl⟩,⟨t',rfl⟩⟩:=pV r;show min_two_ints (I.ok.hd b) λh' tk k=>⟨_,H,I.kept k,?_,q⟩
 by_cases a:j<i
 .rw[if_pos a,if_pos a];show⟨_,rfl⟩
 rw[if_neg a,if_neg a];show⟨_,rfl⟩
theorem UQ:cW X (.type "int") (λxs H Q=>(∃i,xs=[.int i]/\Q (.int i) H)\/∃k,xs=[.bl k]/\Q (.int (if k then 1 else 0)) H):=by
 intro a s σ H xs us Q I r h;rcases h with⟨i,rfl,q⟩ | ⟨k,rfl,q⟩
 .obtain⟨u,rfl,t,rfl⟩:=lP r;show call_int_int ⟨.int i,H,I,⟨_,rfl⟩,q⟩
 obtain⟨u,rfl,r1⟩:=lP r;cases r1;show call_int_bool ⟨.int (if k then 1 else 0),H,I.tok _,⟨_,rfl⟩,q⟩
end
theorem UP{h:Heap}{d:Addr}{b:Str->Option Value}(n:h.Ns1 d b):∃od,h.get? d=some od/\∀name,PySem.W.lookIn name od=some (b name):=by
 obtain⟨o,c,ep,i,hd,hk,_,hm⟩:=n;show⟨o,i,λname=>?_⟩;have e:=hm name;unfold nsFind findBy at e;rw[<-Array.find?_toList] at e;unfold PySem.W.lookIn;rw[hd];dsimp only;split
 .rename_i y q;rw[q] at e;show congrArg some e
 rename_i q;rw[q] at e;have a:c.toList.any (·.refKey)=false:=by
  rw[List.any_eq_false];intro y g;obtain⟨z,t,f⟩:=hk y (Array.mem_toList_iff.mp g);simp[DictEntry.refKey,f]
 have j:¬c.toList.any (·.refKey)=true:=by rw[a];show aD
 rw[if_neg j];show congrArg some e
theorem jR.some_of{v:V}{o:Option Value}(r:jR (some v) o):∃u,o=some u/\RelV v u:=by
 cases o with
 | none=>show(show False from r).elim
 | some u=>show⟨u,rfl,r⟩
theorem UO{v:V}{u:Value}(r:RelV v u):PySem.W.handedIn u=true:=by
 cases v with
 | non=>cases (show u=Value.none from r);rfl
 | bl b=>cases (show u=Value.bool b from r);rfl
 | int i=>obtain⟨t,e⟩:=(show ∃t,u=Value.int i t from r);cases e;rfl
 | str x=>obtain⟨t,e⟩:=(show ∃t,u=Value.str x t from r);cases e;rfl
 | Dp b=>obtain⟨t,e⟩:=(show ∃t,u=Value.bytes b t from r);cases e;rfl
 | Dl b=>obtain⟨t,e⟩:=(show ∃t,u=Value.float b t from r);cases e;rfl
 | ref a=>cases (show u=Value.ref a from r);rfl
 | ty n=>cases (show u=Value.type n from r);rfl
structure ZT(K:J')(C:Addr):Prop where
 pg:PySem.W.plainGet K C Str.empty=true
 hd:PySem.W.hasDictIn K C=true
 po:PySem.W.plainOver K C=true
 sa:PySem.W.findIn K (.ref C) "__setattr__"=some (some (.builtin "object.__setattr__"))
def Jy(K:J')(C:Addr)(f:Str):Prop:=PySem.W.findIn K (.ref C) f=some none
section
variable{X:Cx}{K':List (Addr×Obj)}{σ:St}{H:Hp}{s:Shared}{a C dx:Addr}{fs:List (Str×V)}{f:Str}{v:V}{A:Around}{E:Value->Shared->Prop}
theorem Q6{prog:Program}{w:World}{env:Env}{e:Expr}{f:Str}{a:Pos}{s:Shared}{Q:Value->Shared->Prop}(hb:attributeBase e f env (eval e env)=eval e env)
  (h:wpAny (model prog w) A (eval e env) (λo b=>wpAny (model prog w) A (getAttr o f true) Q E b) E s):wpAny (model prog w) A (eval (.Attribute e f a) env) Q E s:=
 Attribute_any_ h (by rw[arm_eval_Attribute,hb])
end
structure dG(k:Nat)(A:Around):Prop where
 hd:A.handled=none
 dp:A.depth+3*k+5<recursionLimit
 un:A.units+16*k+200<cLine
theorem dG.mono{j k:Nat}{A:Around}(r:dG k A)(h:j<=k):dG j A:=⟨r.hd,by have:=r.dp;ext,by have:=r.un;ext⟩
theorem dG.deeper{k:Nat}{A:Around}(r:dG (k+1) A)(env:Env):dG k (A.deeper env):=
 ⟨r.hd,by have:=r.dp;show A.depth+1+3*k+5<_;ext,by have:=r.un;show A.units+3+16*k+200<_;ext⟩
theorem U6{A:Around}{C:Addr}{us:List Value}{a:List (Str×Value)}:(A.under (.builtin "type.__call__" ⟨.ref C::us,a⟩)).depth=A.depth+1:=by
 first | rfl | simp[Around.under,Code.weight,Code.isCreation,Code.isGuard,Code.isCaller,Code.frames,Code.isFrame,guardIds]
theorem U5{A:Around}{C:Addr}{us:List Value}{a:List (Str×Value)}:(A.under (.builtin "type.__call__" ⟨.ref C::us,a⟩)).units=A.units+1:=by
 first | rfl | simp[Around.under,Code.cUnits,Code.frames,Code.isFrame]
theorem dG.make{k:Nat}{A:Around}(r:dG (k+1) A)(C:Addr)(us:List Value)(a:List (Str×Value)):dG k (A.under (.builtin "type.__call__" ⟨.ref C::us,a⟩)):=
 ⟨r.hd,by have:=r.dp;rw[U6];ext,by have:=r.un;rw[U5];ext⟩
theorem dG.depth{k:Nat}{A:Around}(r:dG k A):A.depth<recursionLimit:=by have:=r.dp;ext
theorem dG.units{k:Nat}{A:Around}(r:dG k A):A.units+64<cLine:=by have:=r.un;ext
noncomputable def DI:TA:=λ_ H Q=>Q [] H
noncomputable def DT(a:TE)(tr:TA):TA:=λσ H Q=>a σ H λx H1=>tr σ H1 λxs b=>Q (x::xs) b
section
variable{X:Cx}{e:Expr}{es:List Expr}{te:TE}{t:TA}{pos:Pos}
theorem kl:PA X [] DI:=λ_ _ _ _ H Q I h=>Calls.spliced_nil ⟨[],H,I,.nil,h⟩
theorem ie(ha:PE X e te)(i:PA X es t)(g:starEach (e::es) X.env=(false,eval e X.env)::starEach es X.env:=by rfl):PA X (e::es) (DT te t):=by
 intro pos b s σ H Q I h;rw[g];show wpAny _ _ (spliced ((false,eval e X.env)::backTo pos (starEach es X.env))) _ _ s;show Calls.spliced_cons (cQ (ha b s σ H _ I h) λu s1 a=>?_);obtain⟨x,H1,I1,r1,f⟩:=a;show cQ (i pos b s1 σ H1 _ I1 f) λus s2 a=>by obtain⟨xs,j,I2,c,d⟩:=a;show⟨x::xs,j,I2,.cons r1 c,d⟩
def NU(t:TA):TE:=λσ H Q=>t σ H λxs H1=>xs.length<=sizeLine/\∀p,H1 p=none->Q (.ref p) (upd H1 p (.tup xs))
def NT(t:TA):TE:=λσ H Q=>t σ H λxs H1=>xs.length<=sizeLine/\∀p,H1 p=none->Q (.ref p) (upd H1 p (.lst xs))
theorem wZ{a}(h:PA X es t):PE X (.Tuple es a pos) (NU t):=by
 intro d s σ H Q I c;show wpAny_Tuple_spliced (cQ (h pos d s σ H _ I c) λus s1 ⟨xs,H1,I1,r,z,q⟩=>⟨by rw[<-r.length];show z,?_⟩);have hf:H1 s1.heap.objs.size=none:=I1.cH.fresh (au _);show⟨.ref s1.heap.objs.size,upd H1 s1.heap.objs.size (.tup xs),I1.laid (t':=s1.toks) (λb u e=>ae _ e) (au _) ?_,rfl,q _ hf⟩;show⟨z,us,r,⟨_,az _ rfl,rfl,_,rfl⟩⟩
theorem Ek(h:PA X es t):PE X (.List es pos) (NT t):=by
 intro c s σ H Q I a;show wpAny_List_spliced (cQ (h pos c s σ H _ I a) λus s1 ⟨xs,H1,I1,r,z,q⟩=>⟨by rw[<-r.length];show z,?_⟩);have hf:H1 s1.heap.objs.size=none:=I1.cH.fresh (au _);show⟨.ref s1.heap.objs.size,upd H1 s1.heap.objs.size (.lst xs),I1.laid (t':=s1.toks) (λb u e=>ae _ e) (au _) ?_,rfl,q _ hf⟩;show⟨z,us,0,r,az _ rfl⟩
end
noncomputable abbrev Sp:=List V->Hp->VK->XK->Prop
noncomputable abbrev rf:=List Env->Hp->Shared->XK->Value->Shared->Prop
structure nz(P:Program)(w:World)(K:J')(mg:Str->Option Value)(base:Heap)(A:Around)(outer:List Env)(s:Shared)(H:Hp):Prop where
 frames:A.frames=some outer
 mod:Mod K mg base
 bs:∀b o,base.get? b=some o->s.heap.get? b=some o/\H b=none
 tG:base.objs.size<=s.heap.objs.size
 gG:s.heap.FunFrames base outer
 qW:∀b∈i9 outer,H b=none
 cH:ic P w H s.heap
 bare:AllBare s.gens
def CE(outer:List Env)(P:Program)(w:World)(H:Hp)(s:Shared)(Q:VK)(u:Value)(a:Shared):Prop:=
 ∃v H',a.os=s.os/\AllBare a.gens/\Un (i9 outer) [] H H' s.heap a.heap/\ic P w H' a.heap/\RelV v u/\Q v H'
def CR(b:rf)(outer:List Env)(P:Program)(w:World)(H:Hp)(s:Shared)(Q:VK)(E:XK)(r:Result)(a:Shared):Prop:=
 match r with
 | .ok (.ret u)=>CE outer P w H s Q u a
 | .ok _=>False
 | .error e=>b outer H s E e a
structure iC(P:Program)(w:World)(K:J')(mg:Str->Option Value)(base:Heap)(CX:rf)(k:Nat)(f:Addr)(fd:FuncData)(ps:List Str)(sp:Sp):Prop where
 len:∀vs H Q E,sp vs H Q E->vs.length=ps.length
 run:∀(A:Around)(outer:List Env)(s:Shared)(H:Hp)(args:Args)(us:List Value)(vs:List V)(Q:VK)(E:XK),dG k A->nz P w K mg base A outer s H->BindsTo s fd args (ps.zip us)->Vals vs us->sp vs H Q E->
  codeAny (model P w) A (.call (.ref f) args) (CR CX outer P w H s Q E) s
theorem nz.make{P:Program}{w:World}{K:J'}{mg:Str->Option Value}{base:Heap}{A:Around}{outer:List Env}{s:Shared}{H:Hp}(e:nz P w K mg base A outer s H)(C:Addr)(us:List Value)(a:List (Str×Value)) :
  nz P w K mg base (A.under (.builtin "type.__call__" ⟨.ref C::us,a⟩)) outer s H:=⟨by first | show e.frames | (simpa[Around.under,Code.envs,Code.isFrame,pushEnvs] using e.frames),e.mod,e.bs,e.tG,e.gG,e.qW,e.cH,e.bare⟩
section
variable{X:Cx}{K':List (Addr×Obj)}{σ:St}{H:Hp}{s s':Shared}
theorem Inv.oM(I:Inv X K' σ H s):nz X.prog X.w X.K X.mg X.base X.A X.stack s H:=
 ⟨I.ok.frames,I.ok.mod,I.bs,bO I.ok.tG I.sz,I.stack,I.nJ,I.cH,I.bare⟩
theorem Inv.after{Q:VK}{u:Value}(I:Inv X K' σ H s)(h:CE X.stack X.prog X.w H s Q u s'):EP X K' σ Q u s':=by
 obtain⟨v,H',os,bare,un,cH,r,q⟩:=h;obtain⟨hh,g,d,t,a⟩:=s';obtain rfl:a=s.os:=os;show⟨v,H',I.call (h':=hh) (g':=g) (d':=d) (t':=t) (ch:=[]) un cH bare (λb z=>absurd z (by simp)),r,q⟩
end
def Oz(c:Sp)(b:List V)(E:XK)(t:TA):TE:=λσ H Q=>t σ H λa H1=>c (a++b) H1 Q E
def Binds(K:J')(a:FuncData)(ps:List Str)(ds:List Value):Prop:=
 ∀(s:Shared)(us:List Value),K.In s.heap->(us++ds).length=ps.length->BindsTo s a ⟨us,[]⟩ (ps.zip (us++ds))
theorem Binds.all{K:J'}{b:FuncData}{ps:List Str}(h:∀us:List Value,us.length=ps.length->bindArgs b ⟨us,[]⟩=pure (ps.zip us)):Binds K b ps []:=λs us _ a=>by
 rw[List.append_nil] at a ⊢;show .of_eq (h us a)
def BS(c:rf)(X:Cx)(E:XK):Prop:=∀(b:List (Addr×Obj))(σ:St)(H:Hp)(s:Shared)(e:Value)(a:Shared),Inv X b σ H s->c X.stack H s E e a->X.xe e a
section
variable{X:Cx}{CX:rf}{k:Nat}{f C:Addr}{fd:FuncData}{ps:List Str}{sp:Sp}{uN:List V}{ds:List Value}{E:XK}{x m:Str}{p pos apos:Pos}{e o:Expr}{es:List Expr}{ta:TE}{t:TA}
theorem O9{d:List (Addr×Obj)}{c:St}{H:Hp}{s:Shared}{Q:VK}{us:List Value}{b:List V}(F:iC X.prog X.w X.K X.mg X.base CX k f fd ps sp)(l:dG k X.A)(hb:Binds X.K fd ps ds)(hd:Vals uN ds)(j:BS CX X E)
  (I:Inv X d c H s) (r:Vals b us) (h:sp (b++uN) H Q E):wpAny (model X.prog X.w) X.A (call (.ref f) us) (EP X d c Q) X.xe s:=by
 have g:Vals (b++uN) (us++ds):=r.append hd;have m:(us++ds).length=ps.length:=by rw[<-g.length];show F.len _ _ _ _ h
 show wpAny_call (codeAny_mono (F.run X.A X.stack s H ⟨us,[]⟩ (us++ds) (b++uN) Q E l I.oM (hb s us I.g8 m) g h) λr i a=>?_);cases r with
 | error e=>show j d c H s e i I a
 | ok n=>
  cases n with
  | ret u=>show I.after a
  | next=>show False.elim a
  | brk=>show False.elim a
  | cont=>show False.elim a
theorem Er(F:iC X.prog X.w X.K X.mg X.base CX k f fd ps sp)(c:dG k X.A)(hg:Gl X x)(hm:X.mg x=some (.ref f))(hk:PySem.W.keepIn X.K (.ref f)=true)(hb:Binds X.K fd ps ds)(hd:Vals uN ds)(b:BS CX X E)
  (ha:PA X (e::es) t) (a:(x==("__debug__":Str))=false:=by decide) (d:starEach (e::es) X.env=(false,eval e X.env)::starEach es X.env:=by rfl) (g:(backTo pos (starEach es X.env)).any (·.1)=false:=by rfl) :
  PE X (.Call (.Name x p) (e::es) [] pos) (Oz sp uN E t):=by
 intro j s σ H Q I h;show wpAny_Call_Name_kw (xh I hg hm ?_ a);show PySem.W.callWith_K (h₀:=X.base) I.ok.mod.zS hk (cQ (ha pos j s σ H _ I h) λus s1 i=>?_) d g;obtain⟨l,H1,I1,r,q⟩:=i;show⟨I1.g8,?_⟩;show O9 F c hb hd b I1 r q
end
def PK(X:Cx)(b:List Keyword)(t:TA):Prop:=
 ∀(pos:Pos)(a:List (Addr×Obj))(s:Shared)(σ:St)(H:Hp)(Q:List V->Hp->Prop),Inv X a σ H s->t σ H Q->wpAny (model X.prog X.w) X.A (evalAll ((backToKw pos (keywordEach b X.env)).map (·.2))) (AP X a σ Q) X.xe s
section
variable{X:Cx}{CX:rf}{k:Nat}{f C:Addr}{fd:FuncData}{ps ks:List Str}{sp:Sp}{E:XK}{x m:Str}{p pos apos Gx:Pos}{e o:Expr}{es:List Expr}{zP:List Keyword}{te ta:TE}{t tk:TA}{nm:Option Str}
theorem O8:PK X [] DI:=λ_ _ _ _ H Q I h=>wpAny_evalAll_nil ⟨[],H,I,.nil,h⟩
theorem Q4(ha:PE X e te)(g:PK X zP t):PK X (⟨nm,e,Gx⟩::zP) (DT te t):=by
 intro pos b s σ H Q I h;show wpAny _ _ (evalAll ((do let v <-eval e X.env;standAt pos;pure v)::(backToKw pos (keywordEach zP X.env)).map (·.2))) _ _ s;show wpAny_evalAll_cons (aa (cQ (ha b s σ H _ I h) λu s1 a=>?_));obtain⟨x,H1,I1,r1,f⟩:=a;show aa (wpAny_standAt (ai ?_));show cQ (g pos b s1 σ H1 _ I1 f) λus s2 a=>by obtain⟨xs,i,I2,c,d⟩:=a;show⟨x::xs,i,I2,.cons r1 c,d⟩
variable{g:List Value->List Value->List Value}{gV:List V->List V->List V}
end
structure ck(N P:List Str)(sc:Scope):Prop where
 kind:sc.kind=.function
 co:sc.isCoroutine=false
 gen:sc.isGenerator=false
 nd:N.Nodup
 pre:N.take P.length=P
 par:∀x∈P,sc.names.lookup x=some .local\/sc.names.lookup x=some .cell
 vM:∀y∈sc.names,y.2≠.free
theorem Lm{a:Str->Option NameKind}{x:Str}:∀{binds:List (Str×Value)}{m:Str->Option Value},(∀v,(x,v)∉binds)->bindL a binds m x=m x
 | [],_,_=>rfl
 | (n,v)::r,m,h=>by
  unfold bindL;rw[Lm λw hw=>h w (ax _ hw)];split
  .have:x≠n:=by rintro rfl;show h v aT
   simp[this]
  rfl
theorem Ll{a:Str->Option NameKind}{x:Str}:∀{binds:List (Str×Value)}{m:Str->Option Value},(∀v,(x,v)∉binds)->bindC a binds m x=m x
 | [],_,_=>rfl
 | (n,v)::r,m,h=>by
  unfold bindC;rw[Ll λw hw=>h w (ax _ hw)];split
  .rfl
  have:x≠n:=by rintro rfl;show h v aT
  simp[this]
theorem Lk{a:Str->Option NameKind}{x:Str}{v:Value}:∀{P:List Str}{b:List Value}{i:Nat}{m:Str->Option Value},P.Nodup->P[i]?=some x->b[i]?=some v->a x=some .local->
  bindL a (P.zip b) m x=some v
 | [],_,_,_,_,h,_,_=>by simp at h
 | _::_,[],_,_,_,_,h,_=>by simp at h
 | p::P,w::b,0,m,nd,d,c,hk=>by
  simp at d c;subst d;subst c;show bindL a ((p,w)::P.zip b) m p=_;unfold bindL;rw[Lm λv e=>(aH.mp nd).1 (List.of_mem_zip e).1,if_pos hk];simp
 | p::P,w::b,i+1,m,nd,d,c,hk=>by
  show bindL a ((p,w)::P.zip b) m x=_;unfold bindL;show Lk (i:=i) (aH.mp nd).2 (by simpa using d) (by simpa using c) hk
theorem Lj{a:Str->Option NameKind}{x:Str}{v:Value}:∀{P:List Str}{b:List Value}{i:Nat}{m:Str->Option Value},P.Nodup->P[i]?=some x->b[i]?=some v->a x≠some .local->
  bindC a (P.zip b) m x=some v
 | [],_,_,_,_,h,_,_=>by simp at h
 | _::_,[],_,_,_,_,h,_=>by simp at h
 | p::P,w::b,0,m,nd,d,c,hk=>by
  simp at d c;subst d;subst c;show bindC a ((p,w)::P.zip b) m p=_;unfold bindC;rw[Ll λv e=>(aH.mp nd).1 (List.of_mem_zip e).1,if_neg hk];simp
 | p::P,w::b,i+1,m,nd,d,c,hk=>by
  show bindC a ((p,w)::P.zip b) m x=_;unfold bindC;show Lj (i:=i) (aH.mp nd).2 (by simpa using d) (by simpa using c) hk
noncomputable def k7(N:List Str)(a:List V):St:=a.map some++List.replicate (N.length-a.length) none
noncomputable def jV(d:rf)(P:Program)(w:World)(K:J')(mg:Str->Option Value)(base:Heap)(N:List Str)(a:Str)(scope:Scope)(f:Addr)(b:Value)(A:Around)(outer:List Env)(s:Shared)(H:Hp)(E:XK):Cx where
 prog:=P
 w:=w
 K:=K
 mg:=mg
 base:=base
 A:=A.deeper (envOfC a scope s.heap.objs.size f b)
 N:=N
 c7:=s
 oP:=H
 env:=envOfC a scope s.heap.objs.size f b
 outer:=outer
 stack:=envOfC a scope s.heap.objs.size f b::outer
 ex:=[]
 calm:=true
 fn:=λ_=>true
 pn:=[]
 xe:=λe g=>wpAny (model P w) (A.deeper (envOfC a scope s.heap.objs.size f b)) (leaving (envOfC a scope s.heap.objs.size f b) e) (λ_ c=>d outer H s E e c) (λh c=>d outer H s E h c) g
theorem KO{a:Scope}{n:Nat}{x:Str}(h:a.names.lookup x=some .cell):∃c,(cellsFrom n a.names []).lookup x=some c:=by
 have q:=PySem.W.cellsFrom_some a.names n [] (.inl h);show Option.isSome_iff_exists.mp q
theorem UN{J:rf}{P:Program}{w:World}{K:J'}{mg:Str->Option Value}{base:Heap}{N ps:List Str}{d:Str}{scope:Scope}{f:Addr}{C:Value}{A:Around}{outer:List Env}{s F:Shared}{H:Hp}{E:XK}{us:List Value}{l:List V}
  (S:ck N ps scope) (hd:A.handled=none) (j:nz P w K mg base A outer s H) (M:l.length=ps.length) (r:Vals l us)
  (x:InCallC s s.heap.objs.size (bindL (envOfC d scope s.heap.objs.size f C).kindOf (ps.zip us) λ_=>none) (cellsFrom (s.heap.objs.size+1) scope.names []) (bindC (envOfC d scope s.heap.objs.size f C).kindOf (ps.zip us) λ_=>none) F) :
  Inv (jV J P w K mg base N d scope f C A outer s H E) [] (k7 N l) H F:=by
 have Q:ps.length<=N.length:=by have:=congrArg List.length S.pre;rw[aO] at this;ext
 obtain⟨B,tk,rfl,hk⟩:=x.done;have D:∀b:Addr,b∉(jV J P w K mg base N d scope f C A outer s H E).ex:=λb z=>absurd (show b∈([]:List Addr) from z) (by simp)
 show⟨⟨j.mod,S.kind,rfl,rfl,au _,λy z c B g=>?_,λy m=>?_,λy c _ h=>?_,λ_=>hd,Around.frames_deeper j.frames,.inr ⟨rfl,rfl⟩,λb z=>absurd z (D b),j.bs,j.tG,λb _ _=>D b,λb z=>absurd z (D b),j.gG,j.qW⟩,
  rfl,j.bare,Un.kept hk,⟨_,x.toInCall.ns,λi y v B g O=>?_⟩,λy c h=>⟨_,x.cell y c h⟩,j.cH.fresh (au _),λy c h=>?_,λp o=>absurd (show p∈([]:List (Addr×Obj)) from o) (by simp),j.cH.kept hk,?_⟩
 .exact name_of_addr x.apart (PySem.mem_of_lookup B) (PySem.mem_of_lookup g)
 .have m:scope.names.lookup y=some .cell\/scope.names.lookup y=some .free:=m;rcases m with m | m
  .exact KO m
  show absurd rfl (S.vM _ (PySem.mem_of_lookup m))
 .exact Nat.le_of_lt (x.above y c (PySem.mem_of_lookup h))
 .have t:i<l.length:=by
   unfold k7 at g;by_cases t:i<l.length
   .exact t
   rw[List.getElem?_append_right (by simpa using t)] at g;rw[List.getElem?_replicate] at g;split at g<;>cases g
  have ha:l[i]?=some v:=by
   unfold k7 at g;rw[bS (by simpa using t),ao] at g;cases e:l[i]? with
   | none=>rw[e] at g;cases g
   | some a=>rw[e] at g;cases g;rfl
  obtain⟨u,G,L⟩:=r.get ha;have o:ps[i]?=some y:=by
   rw[<-S.pre,List.getElem?_take_of_lt (by ext)];show B
  have I:ps.Nodup:=by rw[<-S.pre];show S.nd.sublist (List.take_sublist _ _)
  show⟨u,L,?_⟩;rcases S.par y (aw o) with k | k
  .exact .inl ⟨k,Lk I o G k⟩
  obtain⟨c,e⟩:=KO (n:=s.heap.objs.size+1) k;show .inr ⟨.inl k,c,e,?_⟩;have q:=x.cell y c e;rw[Lj I o G (by show scope.names.lookup y≠_;rw[k];decide)] at q;show q
 .exact j.cH.fresh (Nat.le_of_lt (x.above y c (PySem.mem_of_lookup h)))
 unfold k7;show _=N.length;rw[aL,af,List.length_replicate];ext
theorem IZ{m:rf}{P:Program}{w:World}{K:J'}{mg:Str->Option Value}{base:Heap}{k:Nat}{f:Addr}{name a:Str}{c:Arguments}{body:List Stmt}{scope:Scope}{F kV j pm g ct O:Value}{G od:Option Addr}
  {M:Array (Option Value)} {N ps:List Str} {p:Sp} (lk:K.lookup f=some ⟨O,od,.func (PySem.W.fnOf name a c body scope F kV j pm G g ct),M⟩) (Z:PySem.W.codeIn K g a=true) (S:ck N ps scope)
  (len:∀d H Q E,p d H Q E->d.length=ps.length)
  (L:∀(A:Around)(outer:List Env)(s:Shared)(H:Hp)(d:List V)(Q:VK)(E:XK),dG k (A.deeper (envOfC a scope s.heap.objs.size f g))->p d H Q E->
   ∃t,l8 (jV m P w K mg base N a scope f g A outer s H E) body t/\t { nx:=λ_ H'=>Q .non H',rt:=Q } (k7 N d) H) :
  iC P w K mg base m (k+1) f (PySem.W.fnOf name a c body scope F kV j pm G g ct) ps p:=by
 show⟨len,λA outer s H args us d Q E C i hb r D=>?_⟩;have X:=len _ _ _ _ D;have KX:K.In s.heap:=i.mod.zS.keeps λb o e=>(i.bs b o e).1
 have lim:s.heap.NoLimit:=i.mod.nolimit.keeps λb o e=>(i.bs b o e).1
 have R:∀y∈ps.zip us,scope.names.lookup y.1=some .local\/(scope.names.lookup y.1=some .cell/\((cellsFrom (s.heap.objs.size+1) scope.names []).lookup y.1).isSome=true):=λ⟨n,v⟩ T=>by
  rcases S.par n (List.of_mem_zip T).1 with q | q
  .exact .inl q
  show .inr ⟨q,PySem.W.cellsFrom_some _ _ _ (.inl q)⟩
 show codeAny_call_function C.depth (KX _ _ lk) rfl S.co S.gen rfl (PySem.W.codeRec_of KX Z) (hb _ _ _ _ ?_);show wpAny_newFunctionEnv_cells S.kind R λenv he s1 x=>?_
 subst he;show⟨lim.keeps x.toInCall.keep,codeAny_func ?_⟩;obtain⟨t,ht,U⟩:=L A outer s H d Q E (C.deeper _) D;have I:Inv (jV m P w K mg base N a scope f g A outer s H E) [] (k7 N d) H s1:=UN S C.hd i X r x;show bE (ht [] s1 (k7 N d) H _ I U) (λY z h=>?_) λe z h=>h
 have fin:∀{l:St}{H':Hp}{v:V}{u:Value},Inv (jV m P w K mg base N a scope f g A outer s H E) [] l H' z->RelV v u->Q v H'->CE outer P w H s Q u z:=
  λ{l H' v u} J B q=>⟨v,H',J.os,J.bare,J.base,J.cH,B,q⟩
 cases Y with
 | ret u=>
  obtain⟨v,l,H',J,B,q⟩:=h;show fin J B q
 | next=>
  obtain⟨l,H',J,q⟩:=h;show fin (v:=V.non) (u:=Value.none) J rfl q
 | brk=>
  obtain⟨_,_,_,q⟩:=h;show False.elim q
 | cont=>
  obtain⟨_,_,_,q⟩:=h;show False.elim q
section
variable{X:Cx}{x:Str}{p pos:Pos}{e:Expr}{es:List Expr}{t:TA}{id T:String}{r:List V->Hp->VK->Prop}
def F5(r:List V->Hp->VK->Prop)(t:TA):TE:=λσ H Q=>t σ H λa H1=>r a H1 Q
theorem vq(i:cW X (.builtin id) r)(hg:Gl X x)(hm:X.mg x=none)(f:bootBuiltins x=some (.builtin id))(ha:PA X (e::es) t)(hn:x≠"__name__":=by decide)(d:(x==("__debug__":Str))=false:=by decide)
  (g:starEach (e::es) X.env=(false,eval e X.env)::starEach es X.env:=by rfl) (j:(backTo pos (starEach es X.env)).any (·.1)=false:=by rfl):PE X (.Call (.Name x p) (e::es) [] pos) (F5 r t):=by
 intro a s σ H Q I h;show wpAny_Call_Name_kw (zev I hg hm f ?_ hn d);show PyProof.Rows.callWith_builtin1 (cQ (ha pos a s σ H _ I h) λus s1 k=>by obtain⟨b,H1,I1,r1,c⟩:=k;show i a s1 σ H1 b us Q I1 r1 c) g j
theorem UM(i:cW X (.type T) r)(hg:Gl X x)(hm:X.mg x=none)(f:bootBuiltins x=some (.type T))(ha:PA X (e::es) t)(hn:x≠"__name__":=by decide)(d:(x==("__debug__":Str))=false:=by decide)
  (g:starEach (e::es) X.env=(false,eval e X.env)::starEach es X.env:=by rfl) (j:(backTo pos (starEach es X.env)).any (·.1)=false:=by rfl):PE X (.Call (.Name x p) (e::es) [] pos) (F5 r t):=by
 intro a s σ H Q I h;show wpAny_Call_Name_kw (zev I hg hm f ?_ hn d);show PyProof.Rows.callWith_type1 (cQ (ha pos a s σ H _ I h) λus s1 k=>by obtain⟨b,H1,I1,r1,c⟩:=k;show i a s1 σ H1 b us Q I1 r1 c) g j
end
end L2
namespace HT
open PySem PyProof.Rows
noncomputable def lexLt:List Int->List Int->Bool
 | [],[]=>false
 | [],_::_=>true
 | _::_,[]=>false
 | x::xs,y::ys=>if x=y then lexLt xs ys else decide (x<y)
theorem m3(x y:Int)(xs ys:List Int):lexLt (x::xs) (y::ys)=if x=y then lexLt xs ys else decide (x<y):=rfl
theorem Tz(A:Around)(s:Shared)(a:Int)(t:Tok)(c:Int)(u:Tok):∃e,SeqAt.EqAt A s (.int a t) (.int c u) e/\(e=true↔a=c):=
 ⟨(a==c),SeqAt.EqAt.int_int a t c u,by simp⟩
theorem qt(A:Around)(s:Shared)(a:Int)(t:Tok)(c:Int)(u:Tok)(prog:Program)(w:World)(E:Value->Shared->Prop)(Q:Value->Shared->Prop)(h:Q (.bool (decide (a<c))) s) :
  wpAny (model prog w) A (richCompare .Lt (.int a t) (.int c u)) Q E s:=
 (PyProof.Rows.lt_int h:wpAny (model prog w) A (compareOp .Lt (.int a t) (.int c u)) Q E s)
section
variable{prog:Program}{w:World}{A:Around}{E:Value->Shared->Prop}{s:Shared}
noncomputable def dB(n d:Nat):Option Int->Nat
 | none=>d
 | some v=>if v<0 then(v+(n:Int)).toNat else min v.toNat n
theorem jo(n d:Nat)(hd:d<=n)(o:Option Int):dB n d o<=n:=by
 cases o with
 | none=>show hd
 | some v=>
  show(if v<0 then(v+(n:Int)).toNat else min v.toNat n)<=n;by_cases a:v<0
  .rw[if_pos a];ext
  rw[if_neg a];show Nat.min_le_right _ _
theorem lD(v:Int)(n d:Nat):(if v<0 then max (v+(n:Int)) 0 else min v (n:Int))=((dB n d (some v):Nat):Int):=by
 show(if v<0 then max (v+(n:Int)) 0 else min v (n:Int))=(((if v<0 then(v+(n:Int)).toNat else min v.toNat n):Nat):Int)
 by_cases a:v<0
 .simp only[if_pos a];ext
 simp only[if_neg a];ext
theorem U4(a b:Option Int)(n:Nat):Builtin.Slice.sliceAdjust a b 1 (n:Int)=(((dB n 0 a:Nat):Int),((dB n n b:Nat):Int)):=by
 have c:¬((1:Int)<0):=by ext
 unfold Builtin.Slice.sliceAdjust;simp only[c,aU];show Prod.ext ?_ ?_
 .cases a with
  | none=>rfl
  | some v=>show lD v n 0
 cases b with
 | none=>rfl
 | some v=>show lD v n n
theorem U3(i j:Nat):Builtin.Slice.slicePlaces (i:Int) (j:Int) 1=j-i:=by
 unfold Builtin.Slice.slicePlaces;have a:(1:Int)>0:=by ext
 simp only[a,br,Int.ediv_one];split<;>ext
theorem LU{v:Value}{o:Option Int}{Q:Option Int->Shared->Prop}(p:IsPart v o)(h:Q o s):wpAny (model prog w) A (Builtin.Slice.slicePartIndex v) Q E s:=by
 cases p with
 | none=>show slicePart_none h
 | int i t=>show slicePart_int h
theorem WX{sl:Addr}{d c:Value}{a b:Option Int}{n:Nat}{Q:Int×Int×Nat->Shared->Prop}(i:s.heap.IsSliceOf sl d c .none)(pl:IsPart d a)(g:IsPart c b)
  (h:Q (((dB n 0 a:Nat):Int),1,dB n n b-dB n 0 a) s):wpAny (model prog w) A (Builtin.Slice.sliceApplied (.ref sl) (pure (n:Int))) Q E s:=by
 obtain⟨os,f,j,e⟩:=id i;unfold Builtin.Slice.sliceApplied Builtin.Slice.sliceFields;show aa (aa (bM f e (x:=d) rfl (aa (bM f e (x:=c) rfl (aa (bM f e (x:=.none) rfl (ai ?_)))))));show aa (slicePart_none ?_);show wpAny _ _ (if ((1:Int)==0)=true then _ else _) _ _ s;rw[if_neg (by decide)];show aa (LU pl (aa (LU g (aa (ai ?_)))));show wpAny _ _ (match Builtin.Slice.sliceAdjust a b 1 (n:Int) with | (a,b)=>pure (a,(1:Int),Builtin.Slice.slicePlaces a b 1)) _ _ s;rw[U4 a b n];show wpAny _ _ (pure (((dB n 0 a:Nat):Int),(1:Int),Builtin.Slice.slicePlaces ((dB n 0 a:Nat):Int) ((dB n n b:Nat):Int) 1)) _ _ s;rw[U3];show ai h
theorem Tx(xs:Array Value)(i k:Nat):((List.range k).filterMap λ(m:Nat)=>xs[((i:Int)+(m:Int)*1).toNat]?).toArray=((xs.toList.drop i).take k).toArray:=by
 have e:(λ(m:Nat)=>xs[((i:Int)+(m:Int)*1).toNat]?)=λm=>xs[i+m]?:=by
  funext m
  have:((i:Int)+(m:Int)*1).toNat=i+m:=by ext
  rw[this]
 rw[e];have:=pick_run xs i k;rw[List.filterMap_map] at this;have a:((λx=>xs[x]?)∘λx=>i+x)=λm=>xs[i+m]?:=rfl
 rw[a] at this;rw[this]
theorem i8{t sl:Addr}{items:Array Value}{e d:Value}{a b:Option Int}{Q:Value->Shared->Prop}(ht:IsTup s.heap t items)(f:s.heap.IsSliceOf sl e d .none)(pl:IsPart e a)(g:IsPart d b)
  (hw:¬(dB items.size 0 a=0/\dB items.size items.size b=items.size))
  (h:Q (.ref s.heap.objs.size) { s with heap:=s.heap.push { cls:=.type "tuple",data:=.seq ((items.toList.drop (dB items.size 0 a)).take (dB items.size items.size b-dB items.size 0 a)).toArray } })
  (hsz:items.size<=sizeLine):wpAny (model prog w) A (getItem (.ref t) (.ref sl)) Q E s:=by
 have c:sizeOk (.seq ((items.toList.drop (dB items.size 0 a)).take (dB items.size items.size b-dB items.size 0 a)).toArray):=by
  show((items.toList.drop (dB items.size 0 a)).take (dB items.size items.size b-dB items.size 0 a)).toArray.size<=sizeLine;rw[ay,aO,List.length_drop,bw];ext
 have r:dB items.size items.size b<=items.size:=jo _ _ (au _) b;obtain⟨os,l,k,p⟩:=id f;have j:s.TypeIs (.ref sl) "slice":=⟨os,l,k⟩
 unfold getItem;try with_reducible show bz ?_
 first | show aa (ai ?_) | skip
 show aa (wpAny_sequenceKey ht.typeIs (by decide) ?_);show aa (wpAny_callSpecial?_slot (name:=Str.ofString "__getitem__") ht.typeIs PyProof.Rows.slot_tuple_getitem
  (wpAny_call_entry PyProof.Rows.slot_tuple_getitem ht.typeIs entry_tuple_getitem ?_ (args_tuple_getitem _ _)))
 show wpAny _ _ (Builtin.Tuple.tupleItemsOf (.ref t) >>= _) _ _ s;show aa (tupleItemsOf_ ht ?_);show aa (wpAny_typeOf j ?_);rw[if_pos (by decide)];show aa (WX f pl g ?_);have i:¬((((dB items.size 0 a:Nat):Int)==0&&(1:Int)==1&&(dB items.size items.size b-dB items.size 0 a)==items.size)=true):=by
  intro q;rw[bj,bj] at q;have o:((dB items.size 0 a:Nat):Int)=0:=eq_of_beq q.1.1;have n:dB items.size items.size b-dB items.size 0 a=items.size:=eq_of_beq q.2;show hw ⟨by ext,by ext⟩
 show wpAny _ _ (if (((dB items.size 0 a:Nat):Int)==0&&(1:Int)==1&&(dB items.size items.size b-dB items.size 0 a)==items.size)=true then _ else _) _ _ s;rw[if_neg i,Tx];first
  | show aa (m:=Builtin.Tuple.tupleExact _) (bG (ai ⟨_,rfl,ai h⟩) c)
  | show aa (m:=Builtin.Tuple.tupleExact _) (bG (aa (ai (ai ⟨_,rfl,ai h⟩))) c)
  | show aa (aa (m:=Builtin.Tuple.tupleExact _) (bG (ai (ai ⟨_,rfl,ai h⟩)) c))
  | show aa (aa (m:=Builtin.Tuple.tupleExact _) (bG (ai ⟨_,rfl,ai h⟩) c))
end
end HT
namespace L2
open PySem PySem.Spec PyProof.Rows
noncomputable abbrev TO:=St->Hp->(Option Int->Hp->Prop)->Prop
def PO(X:Cx)(e:Option Expr)(t:TO):Prop:=
 ∀(a:List (Addr×Obj))(s:Shared)(σ:St)(H:Hp)(Q:Option Int->Hp->Prop),Inv X a σ H s->t σ H Q->
  wpAny (model X.prog X.w) X.A (evalPart e X.env) (λu b=>∃o H',Inv X a σ H' b/\IsPart u o/\Q o H') X.xe s
noncomputable def Q3:TO:=λ_ H Q=>Q none H
noncomputable def Oy(t:TE):TO:=λσ H Q=>t σ H λx H1=>∃i,x=.int i/\Q (some i) H1
theorem vw{a:List Int}:∀{us:List Value},Vals (a.map V.int) us->IntsAre us a:=by
 induction a with
 | nil=>intro us r;rw[List.map_nil] at r;cases r;show .nil
 | cons n a c=>
  intro us r;rw[av] at r;cases r with
  | cons r1 b=>
   obtain⟨t,e⟩:=r1;subst e;show .cons n t (c b)
section
variable{X:Cx}{e:Expr}{te:TE}{lo hi:Option Expr}{tl th:TO}{pos p2:Pos}
theorem Q2:PO X none Q3:=by
 intro a s σ H Q I h;rw[evalPart_none];show ai ⟨none,H,I,.none,h⟩
theorem Q1(h:PE X e te):PO X (some e) (Oy te):=by
 intro c s σ H Q I hw;rw[evalPart_some];show cQ (h c s σ H _ I hw) λu s1 b=>?_
 obtain⟨x,H1,I1,r1,a⟩:=b;obtain⟨i,rfl,q⟩:=a;obtain⟨t,rfl⟩:=r1;show⟨some i,H1,I1,.int i t,q⟩
def uQ(X:Cx)(r:V->Option Int->Option Int->Hp->VK->Prop):Prop:=
 ∀(c:List (Addr×Obj))(s:Shared)(σ:St)(H:Hp)(x:V)(v b a:Value)(lo hi:Option Int)(sl:Addr)(Q:VK),Inv X c σ H s->RelV x v->s.heap.IsSliceOf sl b a .none->IsPart b lo->IsPart a hi->r x lo hi H Q->
  ∃T id,typeLookup (.type T) "__getitem__"=pure (some (.builtin id))/\s.TypeIs v T/\wpAny (model X.prog X.w) X.A (getItem v (.ref sl)) (EP X c σ Q) X.xe s
theorem uQ.or{r d:V->Option Int->Option Int->Hp->VK->Prop}(h:uQ X r)(h':uQ X d):uQ X (λx lo hi H Q=>r x lo hi H Q\/d x lo hi H Q):=by
 intro f s σ H x v b a lo hi sl Q I c e pl pu q;rcases q with q | q
 .exact h f s σ H x v b a lo hi sl Q I c e pl pu q
 show h' f s σ H x v b a lo hi sl Q I c e pl pu q
def Xl(r:V->Option Int->Option Int->Hp->VK->Prop)(te:TE)(tl th:TO):TE:=λσ H Q=>te σ H λx H1=>tl σ H1 λl b=>th σ b λu a=>r x l u a Q
theorem Tw{r:V->Option Int->Option Int->Hp->VK->Prop}(n:uQ X r)(p:PE X e te)(o:PO X lo tl)(m:PO X hi th):PE X (.Subscript e (.Slice lo hi none p2) pos) (Xl r te tl th):=by
 intro a s σ H Q I h;show Subscript_ (cQ (p a s σ H _ I h) λv s1 c=>?_);obtain⟨x,H1,I1,r1,k⟩:=c;show wpAny_Slice (cQ (o a s1 σ H1 _ I1 k) λf s2 c=>?_);obtain⟨l,z,I2,pl,j⟩:=c;show cQ (m a s2 σ z _ I2 j) λd s3 c=>?_
 obtain⟨u,g,I3,pu,i⟩:=c;rw[evalPart_none];show ai ?_;have y:Inv X a σ g { s3 with heap:=s3.heap.push { cls:=.type "slice",data:=.fields #[f,d,.none] } }:=I3.kept (t':=s3.toks) λb ob q=>ae _ q
 obtain⟨T,id,t,ht,hg⟩:=n a { s3 with heap:=s3.heap.push { cls:=.type "slice",data:=.fields #[f,d,.none] } } σ g x v f d l u s3.heap.objs.size Q y r1 (Heap.IsSliceOf.new ..) pl pu i;show wpAny (model X.prog X.w) X.A (subscriptTail e (.Slice lo hi none p2) v (.ref s3.heap.objs.size)) (EP X a σ Q) X.xe { s3 with heap:=s3.heap.push { cls:=.type "slice",data:=.fields #[f,d,.none] } };show tail_any (ops:=[.ref s3.heap.objs.size,v]) ht t hg (by with_unfolding_all rfl)
noncomputable def rm(xs:List V)(lo hi:Option Int):List V:=(xs.drop (HT.dB xs.length 0 lo)).take (HT.dB xs.length xs.length hi-HT.dB xs.length 0 lo)
theorem L5(xs:List V)(lo hi:Option Int):(rm xs lo hi).length<=xs.length:=by
 unfold rm;rw[aO,List.length_drop];ext
def NS(K:J'):V->Option Int->Option Int->Hp->VK->Prop:=λx lo hi H Q=>∃a xs,x=.ref a/\dF K H a xs/\
 ¬(HT.dB xs.length 0 lo=0/\HT.dB xs.length xs.length hi=xs.length)/\∀p,H p=none->Q (.ref p) (upd H p (.tup (rm xs lo hi)))
theorem O7:uQ X (NS X.K):=by
 intro i s σ H x v g f lo hi sl Q I c e pl pu h;obtain⟨a,xs,rfl,d,hw,q⟩:=h;cases c;obtain⟨its,r,ht,hz⟩:=I.tuple d;have hlen:its.toArray.size=xs.length:=by rw[ay];show r.length.symm
 show⟨"tuple",_,PyProof.Rows.slot_tuple_getitem.lookup,ht.typeIs,?_⟩;show HT.i8 ht e pl pu (by rw[hlen];show hw) ?_ (by rw[hlen];show hz);rw[hlen];show⟨.ref s.heap.objs.size,_,I.laid (t':=s.toks) (o:=.tup (rm xs lo hi)) (λb ob q=>ae _ q) (au _) ?_,rfl,q _ (I.cH.fresh (au _))⟩;show⟨bO (L5 xs lo hi) hz,_,(r.drop (HT.dB xs.length 0 lo)).take (HT.dB xs.length xs.length hi-HT.dB xs.length 0 lo),IsTup.new _ _⟩
end
noncomputable def kP(n:Nat)(i:Int):Option Nat:=if 0<=i then(if i<n then some i.toNat else none) else if -(n:Int)<=i then some (i+n).toNat else none
noncomputable def di{a:Type}(xs:List a)(i:Int):Option a:=(kP xs.length i).bind λj=>xs[j]?
theorem Ep{n:Nat}{i:Int}{j:Nat}(h:kP n i=some j):seqIndex? i n=some j/\j<n/\-(n:Int)<=i/\i<n:=by
 unfold kP at h;by_cases h0:0<=i
 .rw[if_pos h0] at h;by_cases a:i<n
  .rw[if_pos a] at h;have e:i.toNat=j:=Option.some.inj h;show⟨by rw[seqIndex_of h0 a,e],by ext,by ext,a⟩
  rw[if_neg a] at h;cases h
 rw[if_neg h0] at h;by_cases a:-(n:Int)<=i
 .rw[if_pos a] at h;have e:(i+n).toNat=j:=Option.some.inj h;show⟨by rw[seqIndex_neg (by ext) a,e],by ext,a,by ext⟩
 rw[if_neg a] at h;cases h
theorem vp{a:Type}{xs:List a}{i:Int}{v:a}(h:di xs i=some v):∃j,seqIndex? i xs.length=some j/\xs[j]?=some v/\j<xs.length/\-(xs.length:Int)<=i/\i<xs.length:=by
 unfold di at h;cases e:kP xs.length i with
 | none=>rw[e] at h;cases h
 | some j=>
  rw[e] at h;obtain⟨f,d,c,b⟩:=Ep e;show⟨j,f,h,d,c,b⟩
theorem Q0{a:Type}{xs:List a}{j:Nat}{v:a}(h:xs[j]?=some v):di xs (j:Int)=some v:=by
 have b:j<xs.length:=(ah.mp h).1;have e:kP xs.length (j:Int)=some j:=by
  unfold kP;rw[if_pos (by ext),if_pos (by ext)];simp
 unfold di;rw[e];show h
def xg(b:Expr):Prop:=∀o i,subscripted b false o i=operate [o,i] (getItem o i)
def tJ(X:Cx)(r:R2):Prop:=
 ∀(value slice:Expr)(a:List (Addr×Obj))(s:Shared)(σ:St)(H:Hp)(x y:V)(v u:Value)(Q:VK),Inv X a σ H s->RelV x v->RelV y u->r x y H Q->
  subscripted slice false v u=operate [v,u] (getItem v u)->wpAny (model X.prog X.w) X.A (subscriptTail value slice v u) (EP X a σ Q) X.xe s
def NA(X:Cx)(b:String)(r:V->List V->Hp->VK->Prop):Prop:=
 ∀(a:List (Addr×Obj))(s:Shared)(σ:St)(H:Hp)(x:V)(xs:List V)(v:Value)(us:List Value)(Q:VK),Inv X a σ H s->RelV x v->Vals xs us->r x xs H Q->
  wpAny (model X.prog X.w) X.A (call (.builtin b) (v::us)) (EP X a σ Q) X.xe s
section
variable{X:Cx}{a b:Expr}{ta tb:TE}{pos:Pos}
theorem tJ.or{r c:R2}(h:tJ X r)(h':tJ X c):tJ X (λx y H Q=>r x y H Q\/c x y H Q):=by
 intro value slice e s σ H x y v u Q I b a q d;rcases q with q | q
 .exact h value slice e s σ H x y v u Q I b a q d
 show h' value slice e s σ H x y v u Q I b a q d
theorem tM{r:R2}(f:tJ X r)(ha:PE X a ta)(hb:PE X b tb)(e:xg b):PE X (.Subscript a b pos) (zx r ta tb):=by
 intro g s σ H Q I h;show Subscript_ (DK ha hb I h λv u s2 x y i I2 d c q=>f a b g s2 σ i x y v u Q I2 d c q (e _ _))
def IF(K:J'):R2:=λx y H Q=>∃p xs i v,x=.ref p/\y=.int i/\eh K H p xs/\di xs i=some v/\Q v H
def IE(K:J'):R2:=λx y H Q=>∃p xs i v,x=.ref p/\y=.int i/\dF K H p xs/\di xs i=some v/\Q v H
def ID:R2:=λx y H Q=>∃z i c,x=.str z/\y=.int i/\z.length<=sizeLine/\di z.cps.toList i=some c/\Q (.str ⟨#[c]⟩) H
theorem i7:tJ X (IF X.K):=by
 intro value slice e s σ H x y v u Q I k g h c;obtain⟨p,xs,i,z,rfl,rfl,m,he,q⟩:=h;cases k;obtain⟨t,rfl⟩:=g;obtain⟨its,r,pl,hz⟩:=I.list m;obtain⟨j,a,B,C,A,o⟩:=vp he;obtain⟨w,d,l⟩:=r.get B;have n:=r.length;have hn:=w5;have fin:EP X e σ Q w s:=⟨z,H,I,l,q⟩
 by_cases h0:0<=i
 .have b:i.toNat=j:=by
   rw[seqIndex_of h0 o] at a;show Option.some.inj a
  show item_listR pl.isList h0 (by ext) (by rw[b];simpa using d) fin c
 have b:(i+(its.toArray.size:Int)).toNat=j:=by
  rw[seqIndex_neg (by ext) A] at a;rw[ay,<-n];show Option.some.inj a
 show subscriptTail_builtinR (x:=w) pl.isList.typeIs slot_list_getitem.lookup
  (wpAny_getItem_list_neg (Q:=λr f=>r=w/\EP X e σ Q r f) pl.isList (by ext) (by rw[ay]<;>ext) (by ext) (by rw[b];simpa using d) ⟨rfl,fin⟩) c
theorem m6:tJ X (IE X.K):=by
 intro value slice a s σ H x y v u Q I d c h f;obtain⟨p,xs,i,z,rfl,rfl,g,he,q⟩:=h;cases d;obtain⟨t,rfl⟩:=c;obtain⟨its,r,pl,hz⟩:=I.tuple g;obtain⟨j,m,l,B,A,o⟩:=vp he;obtain⟨w,n,e⟩:=r.get l;have k:=r.length;have hn:=w5;have fin:EP X a σ Q w s:=⟨z,H,I,e,q⟩
 show subscriptTail_builtinR (x:=w) pl.typeIs slot_tuple_getitem.lookup
  (getItem_tuple (j:=j) (Q:=λr b=>r=w/\EP X a σ Q r b) pl (by ext) (by ext) (by rw[ay,<-k];show m) (by simpa using n) ⟨rfl,fin⟩) f
theorem O6:tJ X ID:=by
 intro value slice p s σ H x y v u Q I d b h e;obtain⟨z,i,c,rfl,rfl,hz,he,q⟩:=h;obtain⟨t,rfl⟩:=d;obtain⟨t',rfl⟩:=b;obtain⟨j,a,l,o,k,g⟩:=vp he;have f:z.cps.toList.length=z.length:=by simp[Str.length]
 rw[f] at a k g;have hn:=w5
 show tail_any (typeIs_str s z t) slot_str_getitem.lookup (getItem_str (c:=c) (by
  have n:decide (i < -(2 ^ 63:Int))=false:=bp (by ext);have m:decide (i>=2 ^ 63)=false:=bp (by ext)
  rw[n,m,Bool.or_false]) (by rw[a];simpa using l) ⟨.str ⟨#[c]⟩,H,I.tok _,⟨_,rfl⟩,q⟩) e
def Ml(K:J'):R2:=λx y H Q=>IF K x y H Q\/IE K x y H Q\/ID x y H Q
theorem Jx:tJ X (Ml X.K):=i7.or (m6.or O6)
theorem U2(its:List Value)(n j:Nat)(u:Value):Obj.mapSeq (·.setIfInBounds j u) { cls:=.type "list",data:=.seq its.toArray n }={ cls:=.type "list",data:=.seq (its.set j u).toArray n }:=by
 simp[Obj.mapSeq]
theorem Inv.lst{b:List (Addr×Obj)}{a:St}{H:Hp}{s:Shared}{p:Addr}{xs:List V}(I:Inv X b a H s)(h:H p=some (.lst xs)) :
  ∃(its:List Value)(n:Nat),Vals xs its/\s.heap.get? p=some { cls:=.type "list",data:=.seq its.toArray n }/\xs.length<=sizeLine:=by
 obtain⟨z,its,n,r,e⟩:=I.cH p _ h;show⟨its,n,r,e,z⟩
theorem Inv.vN{g:List (Addr×Obj)}{c:St}{H:Hp}{s:Shared}{p:Addr}{xs ys:List V}{its its':List Value}{n a:Nat}{f:Obj->Obj}(I:Inv X g c H s)(h:H p=some (.lst xs))
  (i:s.heap.get? p=some { cls:=.type "list",data:=.seq its.toArray n }) (d:f { cls:=.type "list",data:=.seq its.toArray n }={ cls:=.type "list",data:=.seq its'.toArray a }) (r:Vals ys its') (hz:ys.length<=sizeLine) (t:Nat) :
  Inv X g c (upd H p (.lst ys)) { s with heap:=s.heap.update p f,toks:=t }:=by
 have e:(s.heap.update p f).get? p=some { cls:=.type "list",data:=.seq its'.toArray a }:=by
  rw[bD f i (by rw[d]<;>rfl),d]
 show I.write (x:=p) (e:=p) (by rw[h];trivial) (.inl rfl) (λb u hb q=>(aP _ _ (Ne.symm hb)).trans q) ⟨_,e⟩ ?_;show⟨hz,its',a,r,e⟩
def Ox:V->V->V->Hp->(Hp->Prop)->Prop:=λo i v H Q=>∃p xs k j,o=.ref p/\i=.int k/\H p=some (.lst xs)/\kP xs.length k=some j/\Q (upd H p (.lst (xs.set j v)))
theorem Tv:IH X Ox:=by
 intro y s σ H o i v ov z u Q I m w l h;obtain⟨p,xs,k,j,rfl,rfl,d,x,q⟩:=h;cases m;obtain⟨t,rfl⟩:=w;obtain⟨its,n,r,b,hz⟩:=I.lst d;obtain⟨a,A,f,e⟩:=Ep x;have c:=r.length;have hn:=w5;have g:Inv X y σ (upd H p (.lst (xs.set j v))) { s with heap:=s.heap.update p (Obj.mapSeq (·.setIfInBounds j u)) }:=
  I.vN d b (U2 its n j u) (r.set l j) (by rw[List.length_set];show hz) s.toks
 by_cases h0:0<=k
 .have hk:k.toNat=j:=by
   rw[seqIndex_of h0 e] at a;show Option.some.inj a
  show PySem.W.ki_setAt b h0 (by ext) (by rw[ay,<-c];show e) (by rw[hk];show⟨_,g,q⟩)
 have hk:(k+(its.toArray.size:Int)).toNat=j:=by
  rw[seqIndex_neg (by ext) f] at a;rw[ay,<-c];show Option.some.inj a
 show PySem.W.ki_setBack b (by ext) (by rw[ay,<-c];show f) (by ext) (by rw[hk];show⟨_,g,q⟩)
theorem VB(a b:Option Int)(n:Nat):(sliceBounds a b none n).1=((HT.dB n 0 a:Nat):Int)/\(sliceBounds a b none n).2.1=((HT.dB n n b:Nat):Int)/\(sliceBounds a b none n).2.2=1:=by
 show⟨?_,?_,rfl⟩
 .cases a with
  | none=>simp[sliceBounds,HT.dB]
  | some i=>
   simp only[sliceBounds,HT.dB,Option.getD_none,show(1:Int)>0 by decide,br];by_cases h:i<0
   .simp only[h,br]<;>ext
   simp only[h,aU]<;>ext
 cases b with
 | none=>simp[sliceBounds,HT.dB]
 | some i=>
  simp only[sliceBounds,HT.dB,Option.getD_none,show(1:Int)>0 by decide,br];by_cases h:i<0
  .simp only[h,br]<;>ext
  simp only[h,aU]<;>ext
theorem VN(its:List Value)(a b:Option Int):slicePick its.toArray a b none=((its.drop (HT.dB its.length 0 a)).take (HT.dB its.length its.length b-HT.dB its.length 0 a)).toArray:=by
 obtain⟨e,d,c⟩:=VB a b its.toArray.size;unfold slicePick;rw[e,d,c];simp only[sliceRange_one,pick_run,ay]<;>rfl
def NR(K:J'):V->Option Int->Option Int->Hp->VK->Prop:=λx lo b H Q=>∃a xs,x=.ref a/\eh K H a xs/\∀p,H p=none->Q (.ref p) (upd H p (.lst (rm xs lo b)))
theorem sL:uQ X (NR X.K):=by
 intro j s σ H x v i g lo c sl Q I d f pl pu h;obtain⟨a,xs,rfl,e,q⟩:=h;cases d;obtain⟨its,r,ht,hz⟩:=I.list e;have hlen:=r.length;show⟨"list",_,slot_list_getitem.lookup,ht.isList.typeIs,?_⟩;show wpAny_getItem_list_slice ht.isList f pl pu .none (by simp) ?_ (by rw[ay]<;>ext);rw[VN,<-hlen];show⟨.ref s.heap.objs.size,_,I.laid (t':=s.toks) (o:=.lst (rm xs lo c)) (λb ob q=>ae _ q) (au _) ?_,rfl,q _ (I.cH.fresh (au _))⟩;show⟨bO (L5 xs lo c) hz,_,0,(r.drop (HT.dB xs.length 0 lo)).take (HT.dB xs.length xs.length c-HT.dB xs.length 0 lo),az _ rfl⟩
noncomputable def BL:V->Bool
 | .non=>true
 | .bl _=>true
 | .int _=>true
 | .str _=>true
 | _=>false
noncomputable def Ie:V->V->Bool
 | .non,.non=>true
 | .bl a,.bl b=>a==b
 | .bl a,.int b=>(if a then 1 else 0)==b
 | .int a,.bl b=>a==(if b then 1 else 0)
 | .int a,.int b=>a==b
 | .str a,.str b=>a==b
 | _,_=>false
theorem Jw{A:Around}{s:Shared}{y x:V}{u v:Value}(d:RelV y u)(c:RelV x v)(f:BL y=true)(e:BL x=true):SeqAt.EqAt A s u v (Ie y x):=by
 cases y with
 | non=>
  cases d;cases x with
  | non=>cases c;show SeqAt.EqAt.same _
  | bl b=>cases c;show SeqAt.EqAt.none_bool b
  | int b=>obtain⟨t,rfl⟩:=c;show SeqAt.EqAt.none_int b t
  | str b=>obtain⟨t,rfl⟩:=c;show SeqAt.EqAt.none_str b t
  | _=>show absurd (show false=true from e) aD
 | bl a=>
  cases d;cases x with
  | non=>cases c;show SeqAt.EqAt.bool_none a
  | bl b=>cases c;show SeqAt.EqAt.bool_bool a b
  | int b=>obtain⟨t,rfl⟩:=c;show SeqAt.EqAt.bool_int a b t
  | str b=>obtain⟨t,rfl⟩:=c;show SeqAt.EqAt.bool_str a b t
  | _=>show absurd (show false=true from e) aD
 | int a=>
  obtain⟨t',rfl⟩:=d;cases x with
  | non=>cases c;show SeqAt.EqAt.int_none a t'
  | bl b=>cases c;show SeqAt.EqAt.int_bool a t' b
  | int b=>obtain⟨t,rfl⟩:=c;show SeqAt.EqAt.int_int a t' b t
  | str b=>obtain⟨t,rfl⟩:=c;show SeqAt.EqAt.int_str a t' b t
  | _=>show absurd (show false=true from e) aD
 | str a=>
  obtain⟨t',rfl⟩:=d;cases x with
  | non=>cases c;show SeqAt.EqAt.str_none a t'
  | bl b=>cases c;show SeqAt.EqAt.str_bool a t' b
  | int b=>obtain⟨t,rfl⟩:=c;show SeqAt.EqAt.str_int a t' b t
  | str b=>obtain⟨t,rfl⟩:=c;show SeqAt.EqAt.str_str a t' b t
  | _=>show absurd (show false=true from e) aD
 | _=>show absurd (show false=true from f) aD
theorem la:gL X (compareOp .NotIn) (λx y H Q=>∃i j,x=.str i/\y=.str j/\Q (.bl (!(!(Builtin.Str.occurrences j i 0 j.length 1).isEmpty))) H):=by
 intro c s σ H x y v u Q I b a h;obtain⟨i,j,rfl,rfl,q⟩:=h;obtain⟨t,rfl⟩:=b;obtain⟨t',rfl⟩:=a;show notIn_str ⟨.bl _,H,I,rfl,q⟩
theorem jc:cW X (.builtin "len") (λxs H Q=>∃p ys,xs=[.ref p]/\(eh X.K H p ys\/dF X.K H p ys)/\Q (.int ys.length) H):=by
 intro d s σ H xs us Q I r h;obtain⟨p,ys,rfl,a,q⟩:=h;obtain⟨u,rfl,c⟩:=lP r;cases c;have hn:=w5;rcases a with a | a
 .obtain⟨its,b,pl,hz⟩:=I.list a;have hlen:=b.length;show Calls.call_len_list pl.isList (by simp only[ay]<;>ext) ⟨.int ys.length,H,I.tok _,⟨s.toks+1,by rw[ay,hlen]⟩,q⟩
 obtain⟨its,b,pl,hz⟩:=I.tuple a;have hlen:=b.length;show len_tuple pl (by simp only[ay]<;>ext) ⟨.int ys.length,H,I.tok _,⟨s.toks+1,by rw[ay,hlen]⟩,q⟩
theorem VA:cW X (.builtin "len") (λxs H Q=>∃z,xs=[.str z]/\z.length<=sizeLine/\Q (.int z.length) H):=by
 intro a s σ H xs us Q I r h;obtain⟨z,rfl,hz,q⟩:=h;obtain⟨u,rfl,t,rfl⟩:=lP r;have hn:=w5;show len_str (by ext) ⟨.int z.length,H,I.tok _,⟨_,rfl⟩,q⟩
theorem cW.or{f:Value}{r a:List V->Hp->VK->Prop}(h:cW X f r)(h':cW X f a):cW X f (λxs H Q=>r xs H Q\/a xs H Q):=by
 intro b s σ H xs us Q I rs q;rcases q with q | q
 .exact h b s σ H xs us Q I rs q
 show h' b s σ H xs us Q I rs q
theorem Vz:cW X (.type "list") (λxs H Q=>∃p ys,xs=[.ref p]/\(eh X.K H p ys\/dF X.K H p ys)/\∀l,H l=none->Q (.ref l) (upd H l (.lst ys))):=by
 intro j s σ H xs us Q I r h;obtain⟨p,ys,rfl,d,q⟩:=h;obtain⟨u,rfl,i⟩:=lP r;cases i;have fin:∀(its:List Value),Vals ys its->ys.length<=sizeLine->∀(h':Heap)(c:Nat),(∀b o',s.heap.get? b=some o'->h'.get? b=some o')->
   h'.get? s.heap.objs.size=some { cls:=.type "list",dict:=none,data:=.seq its.toArray c,slots:=#[] }->EP X j σ Q (.ref s.heap.objs.size) { s with heap:=h' }:=λits a hz h' c kp e=>
  ⟨.ref s.heap.objs.size,_,I.laid (t':=s.toks) kp (au _) (show cM X.prog X.w _ h' _ (.lst ys) from⟨hz,its,c,a,e⟩),rfl,q _ (I.cH.fresh (au _))⟩
 rcases d with d | d
 .obtain⟨its,a,pl,hz⟩:=I.list d;have hlen:=a.length;obtain⟨o,f,g,n,hd⟩:=pl.isList;show call_list_seq p (.inl rfl) f g hd (λh' c kp e=>fin its a hz h' c kp e) (by simp only[ay]<;>ext)
 obtain⟨its,a,pl,hz⟩:=I.tuple d;have hlen:=a.length;obtain⟨o,f,g,n,hd⟩:=pl;show call_list_seq p (.inr rfl) f g hd (λh' c kp e=>fin its a hz h' c kp e) (by simp only[ay]<;>ext)
def CH(K:J')(T:String)(x:V)(H:Hp):Prop:=match x with
 | .str _=>T="str"
 | .int _=>T="int"
 | .ref p=>(T="list"/\∃xs,eh K H p xs)\/(T="tuple"/\∃o,K.lookup p=some o/\o.cls=.type "tuple"/\o.dict=none)\/
   (T="dict"/\((∃kvs ep,H p=some (.dK kvs ep))\/∃kvs bs,H p=some (.dT kvs bs)))\/(T="set"/\∃S n,H p=some (.set S n))
 | _=>False
theorem Jv{h:List (Addr×Obj)}{d:St}{H:Hp}{s:Shared}{T:String}{x:V}{v:Value}(I:Inv X h d H s)(r:RelV x v)(ty:CH X.K T x H) :
  s.TypeIs v T/\∀a,v=.ref a->∃ob,s.heap.get? a=some ob/\ob.dict=none:=by
 cases x with
 | str z=>
  obtain⟨t,rfl⟩:=r;cases (show T="str" from ty);show⟨typeIs_str s z t,λ_ e=>nomatch e⟩
 | int i=>
  obtain⟨t,rfl⟩:=r;cases (show T="int" from ty);show⟨typeIs_int s i t,λ_ e=>nomatch e⟩
 | ref p=>
  cases r;rcases ty with⟨rfl,xs,f⟩ | ⟨rfl,o,hk,g,hd⟩ | ⟨rfl,hk⟩ | ⟨rfl,S,n,hk⟩
  .obtain⟨its,_,pl,_⟩:=I.list f;show⟨pl.isList.typeIs,λa e=>?_⟩;cases e;obtain⟨o,n,e,c,hd,_⟩:=pl;show⟨o,e,hd⟩
  .refine⟨⟨o,I.g8 p o hk,g⟩,λa e=>?_⟩;cases e;show⟨o,I.g8 _ o hk,hd⟩
  .have z:∃o,s.heap.get? p=some o/\o.ExactDict:=by
    rcases hk with⟨kvs,ep,hk⟩ | ⟨kvs,bs,hk⟩
    .obtain⟨_,_,_,_,o,_,e,ex,_⟩:=I.cH p _ hk;show⟨o,e,ex⟩
    obtain⟨_,_,_,_,_,o,_,_,e,ex,_⟩:=I.cH p _ hk;show⟨o,e,ex⟩
   obtain⟨o,e,ex⟩:=z;show⟨⟨o,e,ex.1⟩,λa b=>?_⟩;cases b;show⟨o,e,ex.2.1⟩
  obtain⟨o,_,_,_,e,ex,_⟩:=I.cH p _ hk;show⟨⟨o,e,ex.1⟩,λa b=>?_⟩;cases b;show⟨o,e,ex.2.1⟩
 | _=>show False.elim ty
def DH(K:J')(T:String)(r:V->List V->Hp->VK->Prop)(to:TE):TE:=λσ H Q=>to σ H λx H1=>CH K T x H1/\r x [] H1 Q
def vz(K:J')(T:String)(r:V->List V->Hp->VK->Prop)(to:TE)(t:TA):TE:=λσ H Q=>to σ H λx H1=>CH K T x H1/\t σ H1 λxs a=>r x xs a Q
variable{o e:Expr}{es:List Expr}{to:TE}{t:TA}{name:Str}{apos eU:Pos}{T id:String}{r:V->List V->Hp->VK->Prop}
theorem Ju(f:PlainAttrs T)(slot:Slot T name id)(b:typeOf (.builtin id)=pure (.type "method_descriptor"))(hm:NA X id r)(g:PE X o to)
  (c:attributeBase o name X.env (eval o X.env)=eval o X.env:=by rfl) (d:(apos.endLine==eU.line)=true:=by rfl):PE X (.Call (.Attribute o name apos) [] [] eU) (DH X.K T r to):=by
 intro a s σ H Q I h;show wpAny_Call_method0_late c d (cQ (g a s σ H _ I h) λv s1 k=>?_);obtain⟨x,H1,I1,r1,ty,e⟩:=k;obtain⟨j,i⟩:=Jv I1 r1 ty;show⟨T,id,f,slot,b,j,i,Calls.callWith_builtin rfl (PySem.evalArgs_none (hm a s1 σ H1 x [] v [] Q I1 r1 .nil e))⟩
theorem wO(n:PlainAttrs T)(slot:Slot T name id)(d:typeOf (.builtin id)=pure (.type "method_descriptor"))(hm:NA X id r)(q:PE X o to)(ha:PA X (e::es) t)
  (j:attributeBase o name X.env (eval o X.env)=eval o X.env:=by rfl)
  (y:((backTo eU (starEach (e::es) X.env)).all (λx=>!x.1)&&(backToKw eU (keywordEach [] X.env)).all (λx=>x.1.isSome)
   && decide ((e::es).length+([]:List Keyword).length+(if ([]:List Keyword).isEmpty then 0 else 1)<30))=true:=by rfl)
  (k:(apos.endLine==eU.line)=true:=by rfl) (p:starEach (e::es) X.env=(false,eval e X.env)::starEach es X.env:=by rfl) (g:(backTo eU (starEach es X.env)).any (·.1)=false:=by rfl) :
  PE X (.Call (.Attribute o name apos) (e::es) [] eU) (vz X.K T r to t):=by
 intro b s σ H Q I h;show wpAny_Call_method_late j y k rfl (cQ (q b s σ H _ I h) λv s1 a=>?_);obtain⟨x,H1,I1,r1,ty,m⟩:=a;obtain⟨w,u⟩:=Jv I1 r1 ty;show⟨T,id,n,slot,d,w,u,?_⟩;have c:=ha eU b s1 σ H1 _ I1 m;rw[p] at c ⊢;show Calls.callWith_builtin (by show(false||(backTo eU (starEach es X.env)).any (·.1))=false;rw[g]<;>rfl) (Calls.evalArgs_plain ?_);show cQ c λus s2 a=>by obtain⟨f,z,I2,i,l⟩:=a;show hm b s2 σ z x f v us Q I2 r1 i l
end
def Dw(X:Cx)(b:String)(r:V->List V->Hp->VK->Prop):Prop:=
 ∀(a:List (Addr×Obj))(s:Shared)(σ:St)(H:Hp)(x:V)(xs:List V)(v:Value)(us:List Value)(Q:VK),Inv X a σ H s->RelV x v->Vals xs us->r x xs H Q->
  wpAny (model X.prog X.w) X.A (call (.builtin b) (v::us)) (EP X a σ Q) X.xe s
theorem Vals.one{x:V}{us:List Value}(h:Vals [x] us):∃u,us=[u]/\RelV x u:=by
 cases h with
 | cons r t=>cases t;show⟨_,rfl,r⟩
theorem Vals.zero:∀{us:List Value},Vals [] us->us=[]
 | _,.nil=>rfl
theorem Vals.eraseIdx:∀{xs:List V}{us:List Value}(i:Nat),Vals xs us->Vals (xs.eraseIdx i) (us.eraseIdx i)
 | _,_,_,.nil=>.nil
 | _,_,0,.cons _ t=>t
 | _,_,i+1,.cons r t=>.cons r (Vals.eraseIdx i t)
theorem Vals.reverse{xs:List V}{us:List Value}(h:Vals xs us):Vals xs.reverse us.reverse:=by
 induction h with
 | nil=>show .nil
 | cons r t a=>rw[List.reverse_cons,List.reverse_cons];show Vals.append a (.cons r .nil)
theorem Vals.rep{xs:List V}{us:List Value}(h:Vals xs us):∀k:Nat,Vals (List.replicate k xs).flatten (List.replicate k us).flatten
 | 0=>.nil
 | k+1=>by
  rw[bX,bX,bB,bB];show Vals.append h (Vals.rep h k)
theorem Z1{c:Type}(l:List c):l.eraseIdx (l.length-1)=l.dropLast:=by
 induction l with
 | nil=>rfl
 | cons a r d=>
  cases r with
  | nil=>rfl
  | cons b r=>
   have e:(a::b::r).length-1=((b::r).length-1)+1:=by
    have g:(a::b::r).length=r.length+2:=rfl;have f:(b::r).length=r.length+1:=rfl;ext
   rw[e,List.eraseIdx_cons_succ,d];all_goals rfl
theorem Li{a:Type}:∀(l:List a)(i:Nat),(l.eraseIdx i).length<=l.length
 | [],_=>au _
 | _::_,0=>Nat.le_succ _
 | _::r,i+1=>Nat.succ_le_succ (Li r i)
theorem Lh(its:List Value):∀(k:Nat)(acc:List Value),
  List.foldl (λb a=>b++a) acc.toArray (List.replicate k its.toArray)=(acc++(List.replicate k its).flatten).toArray
 | 0,acc=>by simp
 | k+1,acc=>by
  have e:acc.toArray++its.toArray=(acc++its).toArray:=by simp
  have c:(acc++its)++(List.replicate k its).flatten=acc++(List.replicate (k+1) its).flatten:=by
   rw[bX,bB,List.append_assoc]
  rw[<-c,<-Lh its k (acc++its),<-e,bX,bI]
section
variable{X:Cx}{K':List (Addr×Obj)}{σ:St}{H:Hp}{s:Shared}{l b:Addr}{xs ys zs:List V}
theorem Inv.sR{its its':List Value}{n:Nat}{f:Array Value->Array Value}{t':Nat}(I:Inv X K' σ H s)(d:H l=some (.lst xs))
  (e:s.heap.get? l=some { cls:=.type "list",data:=.seq its.toArray n }) (c:f its.toArray=its'.toArray) (a:Vals ys its') (hz:ys.length<=sizeLine) :
  Inv X K' σ (upd H l (.lst ys)) { s with heap:=s.heap.update l (Obj.mapSeq f),toks:=t' }:=by
 have q:=PySem.IsL.update e f;rw[c] at q;show I.write (x:=l) (e:=l) (by rw[d];show trivial) (.inl rfl) (λg u hb b=>(aP s.heap (Obj.mapSeq f) (Ne.symm hb)).trans b) ⟨_,q⟩ ?_;show⟨hz,its',_,a,q⟩
theorem Inv.vO{its:List Value}{t':Nat}(I:Inv X K' σ H s)(a:Vals ys its)(hz:ys.length<=sizeLine) :
  Inv X K' σ (upd H s.heap.objs.size (.lst ys)) { s with heap:=s.heap.push { cls:=.type "list",data:=.seq its.toArray },toks:=t' }:=
 I.laid (λ_ _ q=>ae _ q) (au _) ⟨hz,its,0,a,az _ rfl⟩
theorem Inv.fresh(I:Inv X K' σ H s):H s.heap.objs.size=none:=I.cH.fresh (au _)
theorem Inv.qA(I:Inv X K' σ H s)(a:H l=some (.lst xs)):xs.length<=sizeLine/\∃(its:List Value)(n:Nat),Vals xs its/\xs.length=its.length/\s.heap.get? l=some { cls:=.type "list",data:=.seq its.toArray n }:=by
 obtain⟨z,its,n,r,e⟩:=I.cH l _ a;show⟨z,its,n,r,r.length,e⟩
theorem Tu{n:Nat}(h:n<=sizeLine):Builtin.List.listTooLong n=false:=by
 unfold Builtin.List.listTooLong;show bp (by ext)
end
section
variable{X:Cx}
def vo:V->List V->Hp->VK->Prop:=λx a H Q=>∃l xs y,x=.ref l/\a=[y]/\H l=some (.lst xs)/\xs.length<sizeLine/\Q .non (upd H l (.lst (xs++[y])))
theorem xk:Dw X "list.append" vo:=by
 intro i s σ H x f v us Q I b c h;obtain⟨l,xs,y,rfl,rfl,a,hz,q⟩:=h;cases b;obtain⟨u,rfl,d⟩:=c.one;obtain⟨z,its,n,r,g,e⟩:=I.qA a;show call_meets F.slot_list_append ⟨_,e,rfl⟩ F.entry_list_append (F.args_list_append_2 _ _) (PySem.list_append l its.toArray n u (by rw[ay];ext)) ⟨e,?_⟩;show⟨.non,_,I.sR (its':=its++[u]) a e (by simp) (r.append (.cons d .nil)) ?_,rfl,q⟩;rw[aL,List.length_singleton];ext
def Jt:V->List V->Hp->VK->Prop:=λx a H Q=>∃l xs i k y,x=.ref l/\a=[.int i]/\H l=some (.lst xs)/\-(2 ^ 63)<=i/\i<2 ^ 63/\seqIndex? i xs.length=some k/\xs[k]?=some y/\Q y (upd H l (.lst (xs.eraseIdx k)))
theorem Sx:Dw X "list.pop" Jt:=by
 intro A s σ H x p v us Q I b c h;obtain⟨l,xs,i,k,y,rfl,rfl,a,o,m,hk,g,q⟩:=h;cases b;obtain⟨u,rfl,d⟩:=c.one;obtain⟨t,rfl⟩:=d;obtain⟨z,its,n,r,j,e⟩:=I.qA a;obtain⟨w,hw,f⟩:=r.get g;show call_meets F.slot_list_pop ⟨_,e,rfl⟩ F.entry_list_pop (F.args_list_pop_2 _ _)
  (MeetsSeq.list_pop_at l its.toArray n i t k w (fitsIndex_both o m) (by rw[ay,<-j];show hk) (by rw[<-Array.getElem?_toList];show hw) (by rw[ay];ext)) ⟨e,?_⟩
 show⟨y,_,I.sR (its':=its.eraseIdx k) a e ?_ (r.eraseIdx k) ?_,f,q⟩
 .show its.toArray.eraseIdxIfInBounds k=(its.eraseIdx k).toArray;rw[List.eraseIdxIfInBounds_toArray]
 have:=Li xs k;ext
def KN:V->List V->Hp->VK->Prop:=λx a H Q=>∃l xs,x=.ref l/\a=[]/\H l=some (.lst xs)/\Q .non (upd H l (.lst xs.reverse))
theorem Vd:Dw X "list.reverse" KN:=by
 intro i s σ H x f v us Q I c d h;obtain⟨l,xs,rfl,rfl,a,q⟩:=h;cases c;have b:=d.zero;subst b;obtain⟨z,its,n,r,g,e⟩:=I.qA a;show call_meets F.slot_list_reverse ⟨_,e,rfl⟩ F.entry_list_reverse (F.args_list_reverse_1 _) (AutoSeq1.list_reverse_list_0 l its.toArray n (by rw[ay];ext)) ⟨e,?_⟩;show⟨.non,_,I.sR (its':=its.reverse) a e (by simp) r.reverse ?_,rfl,q⟩;rw[List.length_reverse];ext
def Js:V->List V->Hp->VK->Prop:=λx a H Q=>∃l xs,x=.ref l/\a=[]/\H l=some (.lst xs)/\Q .non (upd H l (.lst []))
theorem Sw:Dw X "list.clear" Js:=by
 intro i s σ H x f v us Q I c d h;obtain⟨l,xs,rfl,rfl,a,q⟩:=h;cases c;have b:=d.zero;subst b;obtain⟨z,its,n,r,g,e⟩:=I.qA a;show call_meets F.slot_list_clear ⟨_,e,rfl⟩ F.entry_list_clear (F.args_list_clear_1 _) (AutoSeq1.list_clear_list_0 l its.toArray n (by rw[ay];ext)) ⟨e,?_⟩;show⟨.non,_,I.sR (its':=[]) (ys:=[]) a e rfl .nil (bc _),rfl,q⟩
def NQ:R2:=λx y H Q=>∃l k xs,x=.ref l/\y=.int k/\H l=some (.lst xs)/\-(2 ^ 63)<=k/\k<2 ^ 63/\xs.length*k.toNat<=sizeLine/\
 ∀p,H p=none->Q (.ref p) (upd H p (.lst (List.replicate k.toNat xs).flatten))
theorem QZ{a:Type}(xs:List a)(k:Nat):(List.replicate k xs).flatten.length=k*xs.length:=by
 induction k with
 | zero=>simp
 | succ k b=>rw[bX,bB,aL,b,Nat.succ_mul,Nat.add_comm]
theorem O5:gL X (binaryOp .Mult) NQ:=by
 intro E s σ H x y v u Q I g f h;obtain⟨l,k,xs,rfl,rfl,o,w,p,hz,q⟩:=h;cases g;obtain⟨t,rfl⟩:=f;obtain⟨z,its,n,r,j,e⟩:=I.qA o;have hlen:its.toArray.size*k.toNat<=sizeLine:=by rw[ay,<-j];show hz
 have A:¬its.toArray.size*k.toNat>(2 ^ 63-1)/8:=by
  have:(sizeLine:Nat)<=(2 ^ 63-1)/8:=by decide
  ext
 have B:¬(!Builtin.List.listFitsIndex k)=true:=by
  rw[fitsIndex_both w p];show aD
 have C:¬Builtin.List.listTooLong (its.toArray.size*k.toNat)=true:=by
  rw[Tu hlen];show aD
 have i:List.foldl (λc b=>c++b) #[] (List.replicate (if its.toArray.isEmpty=true then 0 else k.toNat) its.toArray)=(List.replicate k.toNat its).flatten.toArray:=by
  have f0:∀m:Nat,List.foldl (λc b=>c++b) #[] (List.replicate m its.toArray)=(List.replicate m its).flatten.toArray:=λm=>by
   have:=Lh its m [];rw[List.nil_append] at this;show this
  rw[f0];cases its with
  | nil=>simp
  | cons a D=>rw[if_neg (by simp)]
 show wpAny_binaryOp_repeat_ref (T:="list") (U:="int") (by decide) ⟨_,e,rfl⟩ (λd=>typeIs_int d k t) noFill_list_mul F.fills_int_mul F.slot_int_rmul repeat_list F.slot_int_index.lookup
  (call_meets F.slot_int_rmul (typeIs_int s k t) F.entry_int_rmul (F.args_int_rmul_2 _ _) (int___rmul___int_list k t l its.toArray n)
   ⟨e,rfl,⟨_,e,rfl⟩,call_meets F.slot_list_mul ⟨_,e,rfl⟩ F.entry_list_mul (F.args_list_mul_2 _ _) (AutoListH.list___mul___list_int_3 l its.toArray n k t B A C) ⟨e,?_⟩⟩)
 rw[i];show⟨.ref _,_,I.vO (t':=s.toks) (r.rep k.toNat) (by rw[QZ,Nat.mul_comm];show hz),rfl,q _ I.fresh⟩
end
section
variable{prog:Program}{w:World}{A:Around}{E:Value->Shared->Prop}{s:Shared}
end
end L2
namespace NB
open PySem PySem.W PySem.Calls PyProof.Rows
theorem WQ{P:Params}{h:Heap}:∀(ns:List Int)(c:List Value),WellAll P h c (ns.map WData.int)->IntsAre c ns:=by
 intro ns;induction ns with
 | nil=>
  intro c w;rw[List.map_nil] at w;cases w;show .nil
 | cons n ns d=>
  intro c w;rw[av] at w;cases w with
  | cons a b=>
   cases a;show .cons _ _ (d _ b)
theorem UL{l:OpenLaw}{n:Nat}(hn:l.most=some n){P:Params}{h:Heap}{args:List WData}{vals:List Value}
  (f:l.row.toRowW.claim.pre args=true) (v:WellAll P h vals args) :
  ∃a e ns,vals=[Value.ref a]/\args=[WData.list (ns.map WData.int)]/\h.get? a=some { cls:=.type "list",data:=.seq e.toArray }/\IntsAre e ns/\ns.length<=n:=by
 have u:WShape.hasAll [] args [.list .int]=true:=(pre_splitW f).1;have g:l.pre.holds [] { args:=args }=true:=(pre_splitW f).2;obtain⟨d,r,rfl,t,s⟩:=hasAllW_cons u;obtain rfl:=hasAllW_nil s;obtain⟨xs,rfl,p⟩:=hasW_list t;obtain⟨ns,rfl⟩:=items_int p;have hlen:ns.length<=n:=by
  unfold OpenLaw.pre at g;have c:(WTm.not (.lt (.lit (.int (n:Int))) (.len (.arg 0)))).holds [] { args:=[.list (ns.map .int)] }=true:=by
   have c:=(holds_andW g).1;rw[hn] at c;show c
  have b:=condW_of c (w_not (w_lt w_lit (w_len_list (w_arg rfl))));rw[af] at b;show Nat.le_of_not_lt λq=>?_
  have k:(n:Int)<((ns.length:Nat):Int):=by ext
  first
   | (rw[decide_eq_true k] at b;show absurd b (by decide))
   | (simp at b;ext)
 cases v with
 | cons j i=>
  cases i;cases j with
  | list o m=>show⟨_,_,ns,rfl,rfl,o,WQ ns _ m,hlen⟩
theorem UK(l:OpenLaw)(args:List WData):l.row.toRowW.claim.post args (.bool true) args=true:=
 postW_of (r:=l.row.toRowW) (X:=(true==true))
  (show WShape.has [] (.bool true) .bool=true by first | rfl | decide | simp[WShape.has,WShape.arms,WShape.armsAll])
  (show(WTm.eq .res (.lit (.bool true))).value [] { args:=args,res:=some (.bool true),after:=args }=some (.bool (true==true)) from w_eq_bool (w_res rfl) w_lit) rfl
theorem l6{l:OpenLaw}{n:Nat}{q:Program}{b:List Str}{j:(Str->Option Value)->Heap->Prop}{i:World->Heap->Prop}{d:DefRec}
  (hn:l.most=some n) (A:d.params.defaults=[])
  (call:∀(w:World)(c7 c:Shared)(mg mb:Str->Option Value)(fa:Addr)(o:Obj)(pm cd doc:Value)(a:Addr)(e:List Value)(ns:List Int),
   Ground q b [] j w c7 mg mb c.heap->i w c.heap->
   c.heap.get? fa=some o->o.data=.func (docDef d.name d.params d.body d.scope pm cd doc)->c.heap.CodeRec cd d.name->mg d.name=some (.ref fa)->
   c.heap.get? a=some { cls:=.type "list",data:=.seq e.toArray }->IntsAre e ns->ns.length<=n->c.gens=#[]->
   codeAny (model l.prog w) callerA (.call (.ref fa) ⟨[.ref a],[]⟩) (λr g=>r=.ok (.ret (.bool true))/\OldK c.heap g.heap/\g.os=c.os/\AllBare g.gens) c) :
  WalkO q b j i l.row.toRowW d [] (λf e=>PySem.call f e):=by
 intro w c7 c mg mb G Y fa o pm cd doc z kV s hd y h tf hg args vals as m C D B t;obtain rfl:z=.none:=Dflts.none h A;obtain rfl:kV=.none:=Dflts.noKw h;obtain⟨a,e,ns,rfl,rfl,k,hints,hlen⟩:=UL hn m B;show enter_call (codeAny_mono (call w c7 c mg mb fa o pm cd doc a e ns G Y s (fd_plain hd) y tf k hints hlen hg) λr g p=>?_);obtain⟨rfl,x,v,u⟩:=p;show⟨.inl ⟨.bool true,.bool true,[],rfl,λ_=>rfl,.bool true,UK l _,λ_=>⟨List.Pairwise.nil,λ_ hm=>(nomatch hm)⟩⟩,x,v,u⟩
end NB
namespace L2
open PySem PySem.Spec PyProof.Rows
theorem Lg:∀{a:List Value}{ns:List Int},IntsAre a ns->Vals (ns.map V.int) a
 | _,_,.nil=>.nil
 | _,_,.cons n t h=>.cons ⟨t,rfl⟩ (Lg h)
def IC(H:Hp):Prop:=∀b,H b=none\/∃o xs,H b=some (.iH o (.lst xs))
theorem Sv{P:Program}{w:World}{K:J'}{mg mb:Str->Option Value}{O:rf}{k:Nat}{fa a:Addr}{L:FuncData}{x:Str}{y:Sp}{c:Shared}{g:List Value}{j:List Int}
  (KX:K.In c.heap) (D:c.heap.Ns mainGlobals mg) (hb:c.heap.Ns builtinsNs mb) (Y8:∀x:Str,x≠"__name__"->mb x=bootBuiltins x) (Hq:c.heap.NoLimit) (hg:c.gens=#[])
  (ha:c.heap.get? a=some { cls:=.type "list",data:=.seq g.toArray }) (G:IntsAre g j) (E:j.length<=sizeLine) (Y:dG k callerA)
  (F:∀base:Heap,K.In base->base.Ns mainGlobals mg->iC P w K mg base O k fa L [x] y) (AS:∀(s:Shared)(u:Value),BindsTo s L ⟨[u],[]⟩ [(x,u)])
  (S:∀H:Hp,IC H->eh K H a (j.map V.int)->y [.ref a] H (λv _=>v=.bl true) λ_ _ _=>False)
  (Zn:∀H e f,O [] H c (λ_ _ _=>False) e f->False) :
  codeAny (model P w) callerA (.call (.ref fa) ⟨[.ref a],[]⟩) (λr f=>r=.ok (.ret (.bool true))/\OldK c.heap f.heap/\f.os=c.os/\AllBare f.gens) c:=by
 have A:=Lg G;have Gv:=G.length
 -- from an abstract heap in Md nothing but B U may be tracked
 have core:∀H:Hp,IC H->eh K H a (j.map V.int)->ic P w H c.heap->(∀b,H b≠none->b=a)->(H a≠none->K.lookup a=none)->
   codeAny (model P w) callerA (.call (.ref fa) ⟨[.ref a],[]⟩) (λr f=>r=.ok (.ret (.bool true))/\OldK c.heap f.heap/\f.os=c.os/\AllBare f.gens) c:=by
  intro H I Z cH J hK;have C:∀{b:Addr}{o:Obj},c.heap.get? b=some o->H b=none->(se c.heap H).get? b=some o:=λe n=>Td e n
  have Q:∀{b:Addr}{o:Obj}{l:Array DictEntry}{ep:Nat},c.heap.get? b=some o->o.data=.dict l ep->H b=none:=λ{b o l ep} e d=>by
   cases q:H b with
   | none=>rfl
   | some u=>
    have t:b=a:=J b (by rw[q];simp);subst t;rw[ha] at e;cases e;have d':Data.seq g.toArray _=Data.dict l ep:=d;cases d'
  have p:∀{b:Addr}{m:Str->Option Value},c.heap.Ns b m->(se c.heap H).Ns b m:=λ{b m} ⟨o,l,ep,e,d,r⟩=>⟨o,l,ep,C e (Q e d),d,r⟩
  have N:K.In (se c.heap H):=λb o e=>C (KX b o e) (by
   cases q:H b with
   | none=>rfl
   | some u=>
    have t:b=a:=J b (by rw[q];simp);subst t
    rw[hK (by rw[q];simp)] at e;cases e)
  have hM:Mod K mg (se c.heap H):=⟨N,p D,⟨mb,p hb,Y8⟩,let⟨X,h1,h2⟩:=Hq;⟨X,p h1,h2⟩⟩
  have e0:nz P w K mg (se c.heap H) callerA [] c H:=⟨rfl,hM,λb o e=>Sb e,Nat.le_of_eq (UX _ _),trivial,λb hb=>absurd (show b∈([]:List Addr) from hb) (by simp),cH,.of_eq hg⟩
  show codeAny_mono ((F _ N (p D)).run callerA [] c H ⟨[.ref a],[]⟩ [.ref a] [.ref a] _ _ Y e0 (AS c (.ref a)) (.cons rfl .nil) (S H I Z)) λr f h=>?_
  cases r with
  | error e=>show(Zn H e f h).elim
  | ok fl=>
   cases fl with
   | next=>show False.elim h
   | brk=>show False.elim h
   | cont=>show False.elim h
   | ret u=>
    obtain⟨v,H',os,bare,un,Hd,T,q⟩:=h;have W:v=.bl true:=q;subst W;obtain rfl:u=Value.bool true:=T;show⟨rfl,OldK.of_keep λb o e=>?_,os,bare⟩;cases q:H b with
    | none=>show un.keep b o e q (by intro z;show absurd (show b∈([]:List Addr) from z) (by simp)) (by simp)
    | some u=>
     rcases I b with z | ⟨ob,xs,z⟩
     .rw[q] at z;cases z
     have R:=un.iz b ob _ z;obtain⟨M,_⟩:=cH b _ z;obtain⟨e2,_⟩:=Hd b _ R;rw[e] at M;cases M;show e2
 cases hk:K.lookup a with
 | some o=>
  -- B U is one of B zK own objects
  have e:=KX a o hk;rw[ha] at e;cases e;show core (λ_=>none) (λ_=>.inl rfl) (.inr ⟨_,g.toArray,_,hk,rfl,rfl,rfl,by rw[ay,Gv];show E,by simpa using A⟩) (λb u z=>by have i:(none:Option HO)=some u:=z;cases i) (λb z=>absurd rfl z) λz=>absurd rfl z
 | none=>
  show core (λb=>if b=a then some (.iH { cls:=.type "list",data:=.seq g.toArray } (.lst (j.map V.int))) else none) (λb=>?_) (.inl (.inr ⟨{ cls:=.type "list",data:=.seq g.toArray },if_pos rfl⟩)) (λb u z=>?_) (λb z=>?_) λ_=>hk
  .by_cases hb:b=a
   .exact .inr ⟨_,_,if_pos hb⟩
   show .inl (if_neg hb)
  .by_cases hb:b=a
   .have i:=(if_pos hb).symm.trans z;cases i;subst hb;show⟨ha,by rw[af];show E,g,_,A,ha⟩
   have i:=(if_neg hb).symm.trans z;cases i
  by_cases hb:b=a
  .exact hb
  show absurd (if_neg hb) z
noncomputable abbrev nu{K:J'}{h:Heap}(_:K.In h):J':=K
def QY(s:Stmt)(j:Nat):Stmt:=match s with
 | .ClassDef _ _ _ body _ _ _ _ _ _ _=>body.getD j (.Pass ⟨0,0,0,0⟩)
 | _=>.Pass ⟨0,0,0,0⟩
noncomputable def e9(s:Stmt):Arguments:=match s with
 | .FunctionDef _ a _ _ _ _ _ _ _ _=>a
 | _=>{ posonlyargs:=[],args:=[],vararg:=none,kwonlyargs:=[],kw_defaults:=[],kwarg:=none,defaults:=[] }
noncomputable def cO(s:Stmt):List Stmt:=match s with
 | .FunctionDef _ _ b _ _ _ _ _ _ _=>b
 | _=>[]
noncomputable def bZ(s:Stmt):Scope:=match s with
 | .FunctionDef _ _ _ _ _ _ sc _ _ _=>sc
 | _=>{ kind:=.function,names:=[],isGenerator:=false,isCoroutine:=false }
abbrev jt:rf:=λ_ _ _ _ _ _=>False
abbrev E0:XK:=λ_ _ _=>False
theorem IY{X:Cx}:BS jt X E0:=λ_ _ _ _ _ _ _ h=>h.elim
structure oQ(dV:Value)(K:J')(x qual:Str)(st:Stmt)(f:Addr)(fd:FuncData):Prop where
 ex:∃(oc:Value)(od:Option Addr)(kV doc pm:Value)(an:Option Addr)(cI ct:Value)(pq:Array (Option Value)),
  fd=PySem.W.fnOf x qual (e9 st) (cO st) (bZ st) dV kV doc pm an cI ct/\K.lookup f=some ⟨oc,od,.func fd,pq⟩/\PySem.W.codeIn K cI qual=true
 kp:PySem.W.keepIn K (.ref f)=true
noncomputable abbrev DC:=oQ .none
section
variable{P:Program}{w:World}{K:J'}{mg:Str->Option Value}{base:Heap}
theorem oQ.ok{m:Value}{x a:Str}{st:Stmt}{f:Addr}{e:FuncData}{N ps:List Str}{k:Nat}{d:Sp}(F:oQ m K x a st f e)(S:ck N ps (bZ st))(len:∀b H Q E,d b H Q E->b.length=ps.length)
  (i:∀(c:Value)(A:Around)(outer:List Env)(s:Shared)(H:Hp)(b:List V)(Q:VK)(E:XK),dG k (A.deeper (envOfC a (bZ st) s.heap.objs.size f c))->d b H Q E->
   ∃t,l8 (jV jt P w K mg base N a (bZ st) f c A outer s H E).lg (cO st) t/\t { nx:=λ_ H'=>Q .non H',rt:=Q } (k7 N b) H):iC P w K mg base jt (k+1) f e ps d:=by
 obtain⟨o,od,kV,doc,pm,an,c,ct,n,rfl,lk,l⟩:=F.ex;show IZ lk l S len λA outer s H b Q E j g=>?_
 obtain⟨t,h,q⟩:=i c A outer s H b Q E j g;show⟨t,h.lg,q⟩
theorem oQ.binds{x a:Str}{st:Stmt}{f:Addr}{c:FuncData}{ps:List Str}(F:DC K x a st f c)
  (h:∀(kV doc pm:Value)(an:Option Addr)(b ct:Value)(us:List Value),us.length=ps.length->bindArgs (PySem.W.fnOf x a (e9 st) (cO st) (bZ st) .none kV doc pm an b ct) ⟨us,[]⟩=pure (ps.zip us)):Binds K c ps []:=by
 obtain⟨e,od,kV,doc,pm,an,b,ct,d,rfl,lk,g⟩:=F.ex;show .all (h kV doc pm an b ct)
theorem qV{x a:Str}{st:Stmt}{f:Addr}{i:Value}{od g:Option Addr}{h:Array (Option Value)}{e kV b pm d ct:Value}(l:K.lookup f=some ⟨i,od,.func (PySem.W.fnOf x a (e9 st) (cO st) (bZ st) e kV b pm g d ct),h⟩)
  (c:PySem.W.codeIn K d a=true) (k:PySem.W.keepIn K (.ref f)=true):oQ e K x a st f (PySem.W.fnOf x a (e9 st) (cO st) (bZ st) e kV b pm g d ct):=⟨⟨i,od,kV,b,pm,g,d,ct,h,rfl,l,c⟩,k⟩
end
section
variable{X:Cx}
theorem pv(i:Nat){x:Str}{a:Pos}(hN:X.N[i]?=some x:=by rfl)(b:hZ X.env.scope x:=by first | show Or.inl rfl | show Or.inr (Or.inl rfl) | show Or.inr (Or.inr rfl))(hd:(x==("__debug__":Str))=false:=by decide)
  (c:(x==("__classdict__":Str))=false:=by decide):PE X (.Name x a) (uV i):=iK hN b hd c
end
def cq(H H':Hp):Prop:=∀b o,H b=some o->H' b=some o
theorem cq.refl(H:Hp):cq H H:=λ_ _ h=>h
theorem cq.trans{H e d:Hp}(a:cq H e)(b:cq e d):cq H d:=λc o h=>b c o (a c o h)
theorem cq.free{H H':Hp}(e:cq H H'){l:Addr}(h:H' l=Option.none):H l=Option.none:=by
 cases q:H l with
 | none=>rfl
 | some o=>
  rw[e l o q] at h;cases h
end L2
set_option maxHeartbeats 0
namespace L2
open PySem PySem.Spec PyProof.Rows
def kc(K:J')(H:Hp)(a:Addr)(xs:List V):Prop:=
 Rd H a (.lst xs)\/∃(its:Array Value)(n:Nat),K.lookup a=some { cls:=.type "list",data:=.seq its n }/\its.size<=sizeLine/\Vals xs its.toList
theorem kc.of{K:J'}{H:Hp}{a:Addr}{xs:List V}(h:H a=some (.lst xs)):kc K H a xs:=.inl (.inl h)
theorem kc.sq{K:J'}{H:Hp}{a:Addr}{xs:List V}(h:kc K H a xs):eh K H a xs:=by
 rcases h with h | ⟨its,n,d,c,b⟩
 .exact .inl h
 show .inr ⟨_,its,n,d,rfl,rfl,rfl,c,b⟩
theorem cq.fW{K:J'}{H H':Hp}{a:Addr}{xs:List V}(e:cq H H')(h:kc K H a xs):kc K H' a xs:=by
 rcases h with(h | ⟨o,h⟩) | h
 .exact .inl (.inl (e _ _ h))
 .exact .inl (.inr ⟨o,e _ _ h⟩)
 show .inr h
theorem Inv.fW{X:Cx}{g:List (Addr×Obj)}{c:St}{H:Hp}{s:Shared}{a:Addr}{xs:List V}(I:Inv X g c H s)(h:kc X.K H a xs):xs.length<=sizeLine/\∃(its:List Value)(n:Nat),Vals xs its/\s.heap.get? a=some { cls:=.type "list",data:=.seq its.toArray n }:=by
 rcases h with h | ⟨its,n,f,d,b⟩
 .obtain⟨z,its,n,r,e⟩:=h.ok I.cH;show⟨z,its,n,r,e⟩
 show⟨by rw[b.length];simpa using d,its.toList,n,b,?_⟩;rw[Array.toArray_toList];show I.g8 a _ f
noncomputable def lK(cells:List (Str×Addr)):List (Str×NameKind)->List (Str×Addr)->List (Str×Addr)
 | [],acc=>acc
 | (n,k)::r,acc=>lK cells r (if k==.free then(n,(cells.lookup n).getD 0)::acc else acc)
theorem LS{env:Env}:∀(names:List (Str×NameKind))(acc:List (Str×Addr)),(∀x∈names,x.2=.free->∃c,env.cells.lookup x.1=some c)->
  (forIn names acc λ(x:Str×NameKind)(r:List (Str×Addr))=>
   (if (x.2==NameKind.free)=true then do let a <-cellOf env x.1;pure (ForInStep.yield ((x.1,a)::r)) else pure (ForInStep.yield r):Sem (ForInStep (List (Str×Addr)))))=pure (lK env.cells names acc)
 | [],acc,_=>by simp[lK]
 | (n,k)::r,acc,h=>by
  have d:=λf=>LS (env:=env) r f λx g=>h x (ax _ g)
  rw[List.forIn_cons];by_cases hk:k=.free
  .subst hk;obtain⟨c,e⟩:=h (n,.free) (by simp) rfl;have i:cellOf env n=pure c:=by unfold cellOf;rw[e]
   simp only[beq_self_eq_true,br,i,pure_bind];rw[d];simp[lK,e]
  have b:(k==NameKind.free)=false:=by simpa using hk
  simp only[b,ar,aU,pure_bind];rw[d];simp[lK,b]
theorem LR{env:Env}{scope:Scope}(h:∀x∈scope.names,x.2=.free->∃c,env.cells.lookup x.1=some c):closureFor scope env=pure (lK env.cells scope.names []):=by
 have e:closureFor scope env=(forIn scope.names ([]:List (Str×Addr)) λ(x:Str×NameKind)(r:List (Str×Addr))=>
   (if (x.2==NameKind.free)=true then do let a <-cellOf env x.1;pure (ForInStep.yield ((x.1,a)::r)) else pure (ForInStep.yield r):Sem (ForInStep (List (Str×Addr))))) >>= λr=>pure r:=rfl
 rw[e,LS _ _ h];rfl
theorem KL{cells:List (Str×Addr)}:∀{names:List (Str×NameKind)}{acc:List (Str×Addr)}{x:Str}{c:Addr},(x,c)∈lK cells names acc->(x,c)∈acc\/((x,.free)∈names/\c=(cells.lookup x).getD 0)
 | [],acc,x,c,h=>.inl h
 | (n,k)::r,acc,x,c,h=>by
  rcases KL (names:=r) h with h | ⟨h,e⟩
  .by_cases hk:k=.free
   .subst hk;simp only[beq_self_eq_true,br] at h;rcases aj.mp h with h | h
    .cases h;show .inr ⟨by simp,rfl⟩
    show .inl h
   have a:(k==NameKind.free)=false:=by simpa using hk
   simp only[a,ar,aU] at h;show .inl h
  show .inr ⟨ax _ h,e⟩
theorem KJ{cells:List (Str×Addr)}:∀{names:List (Str×NameKind)}{acc:List (Str×Addr)}{p:Str×Addr},p∈acc->p∈lK cells names acc
 | [],acc,p,h=>h
 | (n,k)::r,acc,p,h=>KJ (names:=r) (by split<;>simp[h])
theorem EL{cells:List (Str×Addr)}:∀{names:List (Str×NameKind)}{acc:List (Str×Addr)}{x:Str},(x,.free)∈names->∃c,(x,c)∈lK cells names acc
 | (n,k)::r,acc,x,h=>by
  rcases aj.mp h with h | h
  .have b:x=n:=congrArg Prod.fst h;have a:NameKind.free=k:=congrArg Prod.snd h;subst b a;show⟨(cells.lookup x).getD 0,?_⟩;show(x,(cells.lookup x).getD 0)∈lK cells r (if (NameKind.free==NameKind.free)=true then(x,(cells.lookup x).getD 0)::acc else acc);show KJ (by simp)
  show EL (names:=r) h
theorem CF{b:Type}:∀{l:List (Str×b)}{x:Str}{c:b},(x,c)∈l->∃a,l.lookup x=some a
 | (n,k)::r,x,c,h=>by
  by_cases e:x=n
  .subst e;show⟨k,by simp[List.lookup_cons]⟩
  have d:(x==n)=false:=by simpa using e
  rcases aj.mp h with h | h
  .cases h;show absurd rfl e
  obtain⟨a,q⟩:=CF h;show⟨a,by simp[List.lookup_cons,d,q]⟩
theorem F2{env:Env}:∀{names:List (Str×NameKind)}{x:Str},
  (names.map λ(n,k)=>if (k==NameKind.free&&env.scope.kind==.function&&env.kindOf n==some .cell) then(n,NameKind.cell) else(n,k)).lookup x
   = (names.lookup x).map λk=>if (k==NameKind.free&&env.scope.kind==.function&&env.kindOf x==some .cell) then NameKind.cell else k
 | [],x=>rfl
 | (n,k)::r,x=>by
  have a:=@F2 env r x;rw[av];have b:(if (k==NameKind.free&&env.scope.kind==.function&&env.kindOf n==some .cell)=true then(n,NameKind.cell) else(n,k))=(n,if (k==NameKind.free&&env.scope.kind==.function&&env.kindOf n==some .cell)=true then NameKind.cell else k):=by split<;>rfl
  show List.lookup x ((if (k==NameKind.free&&env.scope.kind==.function&&env.kindOf n==some .cell)=true then(n,NameKind.cell) else(n,k))::_)=_;rw[b];by_cases e:x=n
  .subst e;rw[List.lookup_cons,List.lookup_cons,beq_self_eq_true];rfl
  have c:(x==n)=false:=by simpa using e
  rw[List.lookup_cons,List.lookup_cons,c];show a
theorem FR:∀(names:List (Str×NameKind))(n:Nat)(acc a:List (Str×Addr)),cellsFrom n names (acc++a)=cellsFrom n names acc++a
 | [],_,_,_=>rfl
 | (x,k)::r,n,acc,a=>by
  unfold cellsFrom;split
  .exact FR r (n+1) ((x,n)::acc) a
  show FR r n acc a
theorem FQ:∀{names:List (Str×NameKind)}{n:Nat}{acc:List (Str×Addr)}{p:Str×Addr},p∈cellsFrom n names acc->p∈acc\/(p.1,.cell)∈names
 | [],_,_,_,h=>.inl h
 | (x,k)::r,n,acc,p,h=>by
  unfold cellsFrom at h;split at h
  .rename_i hk;rcases FQ h with h | h
   .rcases aj.mp h with rfl | h
    .rw[eq_of_beq hk];show .inr (by simp)
    show .inl h
   show .inr (ax _ h)
  show(FQ h).imp id (ax _)
theorem y2:∀{names:List (Str×NameKind)}{n:Nat}{acc:List (Str×Addr)}{p:Str×Addr},p∈acc->p∈cellsFrom n names acc
 | [],_,_,_,h=>h
 | (x,k)::r,n,acc,p,h=>by
  unfold cellsFrom;split
  .exact y2 (ax _ h)
  show y2 h
theorem FP:∀{names:List (Str×NameKind)}{n:Nat}{acc:List (Str×Addr)}{x:Str},(x,.cell)∈names->∃c,(x,c)∈cellsFrom n names acc
 | (y,k)::r,n,acc,x,h=>by
  unfold cellsFrom;rcases aj.mp h with h | h
  .cases h;show⟨n,y2 (by simp)⟩
  split
  .exact FP h
  show FP h
theorem Su{M:Model}{A:Around}{E:Value->Shared->Prop}{s:Shared}{scope:Scope}{a:Addr}{b:List (Str×Addr)}{c:Str}{d:Option Addr}{e:Value}{out:Env}{Q:Env->Shared->Prop}
  (f:∀h',h'=pushCells (s.heap.push { cls:=.type "dict",data:=.dict #[] }) scope.names->Q (newEnv scope s.heap.objs.size a (cellsFrom (s.heap.objs.size+1) scope.names b) c d e (some out) builtinsNs) { s with heap:=h' }) :
  wpAny M A (newFunctionEnv scope a b [] c d e (some out)) Q E s:=by
 simp only[newFunctionEnv,Option.isSome_some,br];show aa (wpAny_alloc ?_);show aa (wpAny_layCells _ (λname kind cells=>by cases g:kind==NameKind.cell<;>simp[g]) _ _ _ _ ?_);rw[show({ s with heap:=s.heap.push { cls:=.type "dict",data:=.dict #[] } }:Shared).heap.objs.size=s.heap.objs.size+1 from bV ..];rw[List.forIn_nil];show aa (ai (ai (f _ rfl)))
noncomputable abbrev gH(X:Cx)(N':List Str)(scope:Scope)(a:Shared)(b:Hp)(ex:List Addr):Cx:=
 { X with N:=N',c7:=a,oP:=b,env:=compEnvC scope (cellsFrom (a.heap.objs.size+1) scope.names (lK X.env.cells scope.names [])) a.heap.objs.size X.env,outer:=X.stack,stack:=X.stack,ex:=ex,fn:=λx=>scope.names.lookup x==some .cell,pn:=[],xe:=λ_ _=>False }
noncomputable def lY(m:List (Option Nat))(a:St):St:=m.map λo=>match o with
 | none=>none
 | some j=>(a[j]?).join
structure cD(X:Cx)(N':List Str)(m:List (Option Nat))(scope:Scope):Prop where
 kind:scope.kind=.function
 len:m.length=N'.length
 uniq:∀y∈scope.names,scope.names.lookup y.1=some y.2
 free:∀y∈scope.names,y.2=.free->X.env.kindOf y.1=some .cell\/X.env.kindOf y.1=some .free
 ZL:∀(i j:Nat)(x:Str),m[i]?=some (some j)->N'[i]?=some x->X.N[j]?=some x/\scope.names.lookup x=some .free
def xZ(X:Cx)(a:List Expr)(t:TT):Prop:=
 ∀(b:List (Addr×Obj))(s:Shared)(σ:St)(H:Hp)(Q:Bool->Hp->Prop),Inv X b σ H s->t σ H Q->
  wpAny (model X.prog X.w) X.A (forIn a true λc r=>if r=true then do let ok <-isTrue c X.env (eval c X.env);pure (ForInStep.yield ok) else pure (ForInStep.yield r)) (TP X b σ Q) X.xe s
def Oa:TT:=λ_ H Q=>Q true H
theorem QX{X:Cx}:xZ X [] Oa:=λ_ _ σ H _ I h=>wpAny_tests_nil ⟨H,I,h⟩
theorem QW{X:Cx}{c:Expr}{t:TT}(h:PT X c t):xZ X [c] t:=λa s σ H Q I q=>wpAny_tests_one (h a s σ H Q I q)
section
variable{prog:Program}{w:World}{A:Around}{R:Result->Shared->Prop}{s:Shared}
theorem Ve{e a b:Expr}{d:List Expr}{scope:Scope}{i:Pos}{it acc:Value}{env:Env}(I:Nat->Shared->Prop)
  (turn:∀n s,I n s->wpAny (model prog w) A (pyNext it) (λr k=>match r with
   | none=>R (.ok .next) k
   | some v=>wpAny (model prog w) A (letOwnedTupleGo a it v) (λ_ o=>wpAny (model prog w) A (assign a env v) (λ_ u=>
     wpAny (model prog w) A (forIn d true λc r=>if r=true then do let ok <-isTrue c env (eval c env);pure (ForInStep.yield ok) else pure (ForInStep.yield r)) (λok j=>
      if ok=true then wpAny (model prog w) A (eval e env) (λx p=>
       wpAny (model prog w) A (call (.builtin "list.append") [acc,x]) (λ_ l=>∃m,m<n/\I m l) (λ_ _=>False) p) (λ_ _=>False) j
      else ∃m,m<n/\I m j) (λ_ _=>False) u) (λ_ _=>False) o) (λ_ _=>False) k) (λ_ _=>False) s)
  (n:Nat) (h:I n s) :
  codeAny (model prog w) A (.compLoop (.ListComp e [⟨a,b,d,0⟩] scope i) 0 it acc env) R s:=by
 show codeAny_loop rfl I (λn s C=>?_) n h;show wpAny _ A ((compTurn (.ListComp e [⟨a,b,d,0⟩] scope i) 0 it acc env).onRaise (λx=>do noteFrame x env;theTreesLotGoes x)) _ _ s;show wpAny_noted ?_;rw[compTurn_list];have g:∀{E:Value->Shared->Prop}(x:Value)(s:Shared),(λ(_:Value)(_:Shared)=>False) x s->E x s:=λ_ _ f=>f.elim
 show aa (wpAny_standAt (aa (bE (turn n s C) (λr k t=>?_) g)));cases r with
 | none=>show ai t
 | some v=>
  show aa (bE t (λ_ o y=>?_) g);show aa (bE y (λ_ u B=>aa (bE B (λok j q=>?_) g)) g);cases ok with
  | false=>show ai ⟨rfl,q⟩
  | true=>
   show aa (aa (bE q (λx p z=>aa (bE z (λ_ l D=>ai (ai ⟨rfl,D⟩)) g)) g))
end
noncomputable abbrev mO(a:Type):=Shared->Hp->List Addr->a
def uZ(j:TI)(m:List (Option Nat))(g:mO TG)(tc:mO TT)(te:mO TE):TE:=λσ H Q=>j σ H λJ H1=>∀D,H1 D=none->∀s3 ex,
 ∃W:Nat->Nat->St->Hp->Prop,(∃k,W 0 k (lY m σ) (upd H1 D (.lst [])))/\∀i k a H',W i k a H'->
  (J.stop i H'/\Q (.ref D) H')\/(J.go i H'/\∃N:St->Hp->Prop,(∀a H',N a H'->∃d,d<k/\W (i+1) d a H')/\
   ∀x h,J.CG i H' x h->g s3 (upd H1 D (.lst [])) ex x a h λc l=>tc s3 (upd H1 D (.lst [])) ex c l λb f=>
    if b=true then te s3 (upd H1 D (.lst [])) ex c f λv e=>∃xs,e D=some (.lst xs)/\xs.length<sizeLine/\N c (upd e D (.lst (xs++[v]))) else N c f)
section
variable{X:Cx}{elt iter tg:Expr}{ifs:List Expr}{scope:Scope}{pos:Pos}{N':List Str}{m:List (Option Nat)}{wi:TI}{g:mO TG}{tc:mO TT}{te:mO TE}
theorem Ss{Q:List (Addr×Obj)}{t:St}{H:Hp}{s:Shared}{fp:List Addr}{A:Heap}{tk:Nat}(cs:cD X N' m scope)(I:Inv X Q t H s)(f:∀b∈fp,jS X Q H b)(N:∀b∈fp,b<s.heap.objs.size)
  (hh:A=pushCells (s.heap.push { cls:=.type "dict",data:=.dict #[] }) scope.names) :
  Inv (gH X N' scope s H fp) [] (lY m t) H { s with heap:=A,toks:=tk }:=by
 have hk:∀b o,s.heap.get? b=some o->A.get? b=some o:=λb o e=>by rw[hh];show pushCells_keeps _ _ b o (ae _ e)
 have T:A.Ns s.heap.objs.size (λ_=>none):=by rw[hh];show(Heap.Ns.new s.heap (.type "dict")).keeps (pushCells_keeps _ _)
 have ok:=cellsFrom_ok scope.names (s.heap.push { cls:=.type "dict",data:=.dict #[] }) (s.heap.objs.size+1) [] ⟨λ_ _ hm=>(nomatch hm),List.Pairwise.nil⟩ (by rw[bV];show au _);rw[bV,<-hh] at ok;have dW:∀y∈scope.names,y.2=.free->∃c,X.env.cells.lookup y.1=some c:=λy V hf=>I.ok.has y.1 (cs.free y V hf)
 have app:cellsFrom (s.heap.objs.size+1) scope.names (lK X.env.cells scope.names [])=cellsFrom (s.heap.objs.size+1) scope.names []++lK X.env.cells scope.names []:=FR _ _ [] _
 /- a cell: of its own,or one from around -/
 have r:∀x c,(cellsFrom (s.heap.objs.size+1) scope.names (lK X.env.cells scope.names [])).lookup x=some c->((x,c)∈cellsFrom (s.heap.objs.size+1) scope.names []/\scope.names.lookup x=some .cell)\/(X.env.cells.lookup x=some c/\scope.names.lookup x=some .free):=λx c e=>by
  have hm:=PySem.mem_of_lookup e;rw[app] at hm;rcases aC.mp hm with hm | hm
  .refine .inl ⟨hm,?_⟩;rcases FQ hm with z | z
   .cases z
   show cs.uniq _ z
  rcases KL hm with z | ⟨z,O⟩
  .cases z
  obtain⟨G,q⟩:=dW _ z rfl;rw[q] at O;show .inr ⟨by rw[q,O];rfl,cs.uniq _ z⟩
 have old:∀x c,X.env.cells.lookup x=some c->c<s.heap.objs.size:=λx c e=>by obtain⟨v,z⟩:=I.cell x c e;show z.lt
 show⟨⟨I.ok.mod,cs.kind,I.ok.glob,I.ok.blt,au _,λx y c e1 e2=>?inj,λx E=>?_,λx c E e=>?cab,I.ok.hd,I.ok.frames,.inl rfl,λb hb=>⟨aE (N b hb),λx c e=>?exf⟩,
  λb o e=>I.bs b o e,bO I.ok.tG I.sz,λb o e hb=>?_,λb hb z=>?_,I.stack,I.nJ⟩,
  rfl,I.bare,Un.kept hk,⟨_,T,λi x v h1 d h3=>?_⟩,λx c e=>?_,I.cH.fresh (au _),λx c e=>?frc,λp W=>(by cases W),I.cH.kept hk,?_⟩
 case inj=>
  rcases r x c e1 with⟨g,_⟩ | ⟨l,_⟩<;>rcases r y c e2 with⟨M,_⟩ | ⟨K,_⟩
  .exact PySem.name_of_addr ok.apart g M
  .exact absurd (old y c K) (Nat.not_lt.mpr (bO (Nat.le_succ _) (ok.empty x c g).2))
  .exact absurd (old x c l) (Nat.not_lt.mpr (bO (Nat.le_succ _) (ok.empty y c M).2))
  show I.ok.inj x y c l K
 case cab=>
  rcases r x c e with⟨g,_⟩ | ⟨_,z⟩
  .exact bO (Nat.le_succ _) (ok.empty x c g).2
  have h:(scope.names.lookup x==some .cell)=true:=E;rw[z] at h;cases h
 case exf=>
  rcases r x c e with⟨g,_⟩ | ⟨l,_⟩
  .exact Nat.ne_of_gt (aK (Nat.lt_succ_of_lt (N b hb)) (ok.empty x c g).2)
  show(f b hb).2.2.2.2.1 x c l
 case frc=>
  rcases r x c e with⟨g,_⟩ | ⟨l,_⟩
  .exact I.cH.fresh (bO (Nat.le_succ _) (ok.empty x c g).2)
  show I.fA x c l
 .have h:(relabel scope X.env).names.lookup x=some .cell\/(relabel scope X.env).names.lookup x=some .free:=E;have e:(relabel scope X.env).names.lookup x=(scope.names.lookup x).map λk=>if (k==NameKind.free&&X.env.scope.kind==.function&&X.env.kindOf x==some .cell) then NameKind.cell else k:=F2
  rw[e] at h;have hf:(x,NameKind.free)∈scope.names\/(x,NameKind.cell)∈scope.names:=by
   cases q:scope.names.lookup x with
   | none=>rw[q] at h;simp at h
   | some k=>
    rw[q] at h;have hm:=PySem.mem_of_lookup q;by_cases C:k=.free
    .subst C;show .inl hm
    have R:(k==NameKind.free)=false:=by simpa using C
    simp only[R,aJ,Bool.false_and,ar,aU,aA] at h;rcases h with z | z
    .subst z;show .inr hm
    show absurd z C
  show ∃c,(cellsFrom (s.heap.objs.size+1) scope.names (lK X.env.cells scope.names [])).lookup x=some c
  rcases hf with hf | hf
  .obtain⟨c,F⟩:=EL (cells:=X.env.cells) (acc:=[]) hf;show CF (y2 F)
  obtain⟨c,F⟩:=FP (n:=s.heap.objs.size+1) (acc:=lK X.env.cells scope.names []) hf;show CF F
 .rcases(f b hb).2.2.2.1 with z | z
  .exact I.ok.oC b o e z
  show absurd (aK (aq (I.ok.bs b o e).1) z) (Nat.lt_irrefl _)
 .rcases aj.mp (I.mX b z) with q | q
  .exact(f b hb).2.1 q
  show(f b hb).2.2.1 q
 .unfold lY at d;rw[ao] at d;cases q:m[i]? with
  | none=>rw[q] at d;cases d
  | some o=>
   rw[q] at d;cases o with
   | none=>cases d
   | some j=>
    simp only[aJ,aA] at d;have Np:t[j]?=some (some v):=by
     cases z:t[j]? with
     | none=>rw[z] at d;cases d
     | some a=>rw[z] at d;simp at d;rw[d]
    obtain⟨hN,D⟩:=cs.ZL i j x q h1;have P:=PySem.mem_of_lookup D;obtain⟨m0,Y,Z⟩:=I.loc;have L:=cs.free _ P rfl;have GH:hZ X.env.scope x:=L.elim (λz=>.inr (.inl z)) (λz=>.inr (.inr z));obtain⟨u,S,U⟩:=Z j x v hN Np GH;show⟨u,S,.inr ⟨?_,?_⟩⟩
    .show(relabel scope X.env).names.lookup x=some .cell\/(relabel scope X.env).names.lookup x=some .free;have e:(relabel scope X.env).names.lookup x=(scope.names.lookup x).map λk=>if (k==NameKind.free&&X.env.scope.kind==.function&&X.env.kindOf x==some .cell) then NameKind.cell else k:=F2
     rw[e,D];simp only[aJ];split
     .exact .inl rfl
     show .inr rfl
    rcases U with⟨k,_⟩ | ⟨_,c,e,z⟩
    .rcases L with z | z<;>· rw[k] at z;cases z
    obtain⟨G,J⟩:=CF (y2 (names:=scope.names) (n:=s.heap.objs.size+1) (EL (cells:=X.env.cells) (acc:=[]) P).choose_spec);have:X.env.cells.lookup x=some G:=by
     rcases r x G J with⟨_,z⟩ | ⟨z,_⟩
     .rw[D] at z;cases z
     show z
    rw[e] at this;cases this;obtain⟨w,B,hd⟩:=z;show⟨c,J,w,hk c w B,hd⟩
 .rcases r x c e with⟨g,_⟩ | ⟨l,_⟩
  .exact⟨none,(ok.empty x c g).1⟩
  obtain⟨v,w,B,hd⟩:=I.cell x c l;show⟨v,w,hk c w B,hd⟩
 show(lY m t).length=N'.length;unfold lY;rw[af,cs.len]
theorem Lf{use:Option (Value->Sem Unit)}{S:Value->Shared->Prop}{j:List (Addr×Obj)}{s:Shared}{q:St}{H:Hp}{Q:VK}
  (hc:X.calm=true) (cs:cD X N' m scope) (hi:PI X tg iter wi) (hg:∀s3 k ex,PG (gH X N' scope s3 k ex) tg (g s3 k ex)) (ht:∀s3 k ex,xZ (gH X N' scope s3 k ex) ifs (tc s3 k ex))
  (he:∀s3 k ex,PE (gH X N' scope s3 k ex) elt (te s3 k ex)) (I:Inv X j q H s) (h:uZ wi m g tc te q H Q)
  (fin:∀D C z H',Inv X j q H' z->jS X j H' C->(∃m,z.heap.Ns C m)->Q (.ref D) H'->compPost (model X.prog X.w) X.A X.xe use S (.ref D) C (.ok .next) z) :
  wpAny (model X.prog X.w) X.A (eval iter X.env) (λx cE=>wpAny (model X.prog X.w) X.A (pyIter x) (λit gO=>wpAny (model X.prog X.w) X.A (newList []) (λacc kA=>
   wpAny (model X.prog X.w) X.A (newFunctionEnv scope X.env.globals (lK X.env.cells scope.names []) [] X.env.qual none .none (some X.env)) (λA5 sJ=>
    codeAny (model X.prog X.w) X.A (.compStart (.ListComp elt [⟨tg,iter,ifs,0⟩] scope pos) 0 it acc { A5 with scope:=relabel scope X.env }) (compPost (model X.prog X.w) X.A X.xe use S acc A5.locals) sJ) X.xe kA) X.xe gO) X.xe cE) X.xe s:=by
 show cQ (hi j s q H _ I h) λv s1 h1=>cQ h1 λGy s2 h2=>?_
 obtain⟨it,fp,O,J,f,e,I2,T,CK,f2,h⟩:=h2;subst e;show bG (Su λR uy=>?_);have hf:f s2.heap.objs.size=none:=I2.cH.fresh (au _);obtain⟨W,⟨k0,w0⟩,turn⟩:=h s2.heap.objs.size hf { s2 with heap:=s2.heap.push { cls:=.type "list",data:=.seq ([]:List Value).toArray } } fp;have I3:Inv X j q (upd f s2.heap.objs.size (.lst [])) { s2 with heap:=s2.heap.push { cls:=.type "list",data:=.seq ([]:List Value).toArray } }:=I2.vO (its:=[]) (t':=s2.toks) .nil (by simp);have Nt:∀b∈fp,b<s2.heap.objs.size:=λb hb=>by
  obtain⟨o,e,_⟩:=T.obj _ _ CK b hb;show aq e
 have f3:∀b∈fp,jS X j (upd f s2.heap.objs.size (.lst [])) b:=λb hb=>⟨by rw[cL (aE (Nt b hb))];show(f2 b hb).1,(f2 b hb).2⟩
 generalize MH:({ s2 with heap:=s2.heap.push { cls:=.type "list",data:=.seq ([]:List Value).toArray } }:Shared)=s3 at *;have hC:s3.heap.objs.size=s2.heap.objs.size+1:=by rw[<-MH];show bV ..
 have Nu:∀b∈fp,b<s3.heap.objs.size:=λb hb=>by rw[hC];show Nat.lt_succ_of_lt (Nt b hb)
 have k3:∀b o,s2.heap.get? b=some o->s3.heap.get? b=some o:=λb o e=>by rw[<-MH];show ae _ e
 have k1:∀b o,s3.heap.get? b=some o->R.get? b=some o:=λb o e=>by rw[uy];show pushCells_keeps _ _ b o (ae _ e)
 have U:=Ss (tk:=s3.toks) cs I3 f3 Nu uy;have vB:O 0 R:=T.keep _ _ _ CK λb _ o e=>k1 b o (k3 b o e)
 have V:∀{H':Hp},(∀b∈fp,H' b=none)->∀b∈fp,jS (gH X N' scope s3 (upd f s2.heap.objs.size (.lst [])) fp) [] H' b:=λhn b hb=>
  ⟨hn b hb,aE (Nu b hb),U.ok.oK b hb,.inl hb,(U.ok.exf b hb).2,λp hp=>by cases hp⟩
 have lz:∀b∈fp,(upd f s2.heap.objs.size (.lst [])) b=none:=λb hb=>(f3 b hb).1
 have loop:codeAny (model X.prog X.w) X.A (.compLoop (.ListComp elt [⟨tg,iter,ifs,0⟩] scope pos) 0 (.ref it) (.ref s2.heap.objs.size) (compEnvC scope (cellsFrom (s3.heap.objs.size+1) scope.names (lK X.env.cells scope.names [])) s3.heap.objs.size X.env))
   (compPost (model X.prog X.w) X.A X.xe use S (.ref s2.heap.objs.size) s3.heap.objs.size) { s3 with heap:=R }:=by
  show Ve (λn z=>∃i F H',Inv (gH X N' scope s3 (upd f s2.heap.objs.size (.lst [])) fp) [] F H' z/\O i z.heap/\(∀b∈fp,H' b=none)/\W i n F H') ?_ k0 ⟨0,_,_,U,vB,lz,w0⟩;rintro n s4 ⟨i,L,K,I4,Mh,rO,w4⟩;rcases turn i n L K w4 with⟨stop,qn⟩ | ⟨go,N,hN,step⟩
  .refine cQ (T.done (gH X N' scope s3 (upd f s2.heap.objs.size (.lst [])) fp) rfl rfl rfl hc i [] s4 L K _ I4 (V rO) Mh stop) λr s5 a=>?_
   obtain⟨P,B⟩:=a;subst P;have ng:∀b∈fp,(b∈X.ex\/X.c7.heap.objs.size<=b)/\b≠X.env.locals/\(∀x c,X.env.cells.lookup x=some c->c≠b)/\∀p∈X.pn++j,p.1≠b:=λb hb=>⟨(f2 b hb).2.2.2.1,(f2 b hb).2.1,(f2 b hb).2.2.2.2.1,(f2 b hb).2.2.2.2.2⟩
   have Y:Inv X j q K s5:=I3.A6 (ch:=fp) B.os B.base B.cH B.bare ng;obtain⟨m5,Yv,_⟩:=id B.loc;show fin _ _ s5 K Y (I3.kF (au _) B.free) ⟨m5,Yv⟩ qn
  show cQ (T.item (gH X N' scope s3 (upd f s2.heap.objs.size (.lst [])) fp) rfl rfl rfl hc i [] s4 L K _ I4 (V rO) Mh go) λr s5 a=>?_
  obtain⟨u,P,h5⟩:=a;subst P;show cQ h5 λ_ s6 a=>?_
  obtain⟨x,H6,Y,r6,y6,Z,Zu⟩:=a;have ZP:=Y.pinned (V Zu) (T.obj _ _ Z);show cQ (hg _ _ _ _ s6 L H6 x u _ ZP r6 (step x H6 y6)) λ_ s7 a=>?_
  obtain⟨M,H7,I7,q7⟩:=a;show cQ (ht _ _ _ _ s7 M H7 _ I7 q7) λb s8 a=>?_
  obtain⟨H8,I8,q8⟩:=a;have again:∀{t:Shared}{E:St}{l:Hp},Inv (gH X N' scope s3 (upd f s2.heap.objs.size (.lst [])) fp) ([]++yy fp s6.heap) E l t->N E l->∃m,m<n/\∃i F H',Inv (gH X N' scope s3 (upd f s2.heap.objs.size (.lst [])) fp) [] F H' t/\O i t.heap/\(∀b∈fp,H' b=none)/\W i m F H':=λ{t E l} G n9=>by
   obtain⟨m',hm,w9⟩:=hN E l n9;show⟨m',hm,i+1,E,l,G.iL,T.keep _ _ _ Z λb hb o e=>(G.pin (b,o) (bg _ (bg _ (Cu hb e)))).1,λb hb=>?_,w9⟩;obtain⟨o,e,d⟩:=T.obj _ _ Z b hb;show(G.pin (b,o) (bg _ (bg _ (Cu hb e)))).2.1
  cases b with
  | false=>show again I8 q8
  | true=>
   rw[if_pos rfl];show cQ (he _ _ _ _ s8 M H8 _ I8 q8) λy t a=>?_
   obtain⟨v9,l,G,r9,xs,hD,hz,q9⟩:=a;show cQ (xk _ t M l (.ref s2.heap.objs.size) [v9] (.ref s2.heap.objs.size) [y] (λ_ H'=>N M H') G rfl (.cons r9 .nil) ⟨_,xs,v9,rfl,rfl,hD,hz,q9⟩) λ_ Z4 a=>?_
   obtain⟨_,H10,ZR,_,Xv⟩:=a;show again ZR Xv
 show codeAny_compStart_list loop (T.self _ 0 _ _ _ vB loop)
theorem QV(t:X.calm=true)(cs:cD X N' m scope)(p:PI X tg iter wi)(hg:∀s3 a ex,PG (gH X N' scope s3 a ex) tg (g s3 a ex))(ht:∀s3 a ex,xZ (gH X N' scope s3 a ex) ifs (tc s3 a ex))
  (r:∀s3 a ex,PE (gH X N' scope s3 a ex) elt (te s3 a ex)) (l:∀x,foldedSetIterable iter X.env x=pure x:=by intro _;rfl):PE X (.ListComp elt [⟨tg,iter,ifs,0⟩] scope pos) (uZ wi m g tc te):=by
 intro w s σ H Q I h;rw[eval_ListComp];have u:∀y∈scope.names,y.2=.free->∃c,X.env.cells.lookup y.1=some c:=λy f hf=>I.ok.has y.1 (cs.free y f hf)
 show wpAny_comprehension_free (use:=none) rfl l (LR u) cs.kind (λy f n=>by rw[cs.uniq y f,n]) (Lf t cs p hg ht r I h λD C j H' v d ⟨k,hn⟩ q=>?_);show⟨k,hn,λh' i=>⟨.ref D,H',v.turned (t':=j.toks) (λb o hb e=>(i.2 b hb).trans e) d.1 d.2.1 d.2.2.2.1 d.2.2.2.2.1 d.2.2.2.2.2,rfl,q⟩⟩
theorem xf{i:Nat}{x:Str}{d p:Pos}(hN:X.N.Nodup)(u:X.N[i]?=some x)(w:Loc X.env.scope x)
  (K:X.calm=true) (cs:cD X N' m scope) (G:PI X tg iter wi) (hg:∀s3 f ex,PG (gH X N' scope s3 f ex) tg (g s3 f ex)) (ht:∀s3 f ex,xZ (gH X N' scope s3 f ex) ifs (tc s3 f ex))
  (J:∀s3 f ex,PE (gH X N' scope s3 f ex) elt (te s3 f ex)) (B:∀x,foldedSetIterable iter X.env x=pure x:=by intro _;rfl)
  (t:swapsWith (.ListComp elt [⟨tg,iter,ifs,0⟩] scope pos) (some (.Name x d)) p.line X.env=pure true:=by rfl)
  (n:X.fn x=true\/X.env.scope.names.lookup x=some .local:=by first | show .inl rfl | show .inr rfl | assumption) :
  PS X (.Assign [.Name x d] (.ListComp elt [⟨tg,iter,ifs,0⟩] scope pos) p) (yj (uZ wi m g tc te) (u3 i)):=by
 intro R s σ H D I h;have L:∀y∈scope.names,y.2=.free->∃c,X.env.cells.lookup y.1=some c:=λy l n=>I.ok.has y.1 (cs.free y l n)
 rw[exec_Assign_Name_used _ _ _ _ t];show aa (wpAny_standAt (aa ?_));show wpAny _ _ (do let _ <-comprehension (.ListComp elt [⟨tg,iter,ifs,0⟩] scope pos) scope X.env _ (newList []) false (eval iter X.env) (some (assign (.Name x d) X.env))) _ _ s;show aa (bE (wpAny_comprehension_free (use:=some (assign (.Name x d) X.env)) (Q:=λ_ k=>SP X R D .next k) rfl B (LR L) cs.kind (λy l F=>by rw[cs.uniq y l,F]) (Lf K cs G hg ht J I h λA C k H' S j ⟨v,hn⟩ q=>?_)) (λ_ k E=>ai (ai E)) λ_ _ e=>e);show wpAny _ _ (assign (.Name x d) X.env (.ref A)) _ _ _;show wpAny_assign_Name (Ln S hN u w (show RelV (.ref A) (.ref A) from rfl) (λs2 I2 O=>?_) n);obtain⟨a,P,ha⟩:=O;have M:C≠a:=by
  rcases ha with rfl | ha
  .exact j.2.1
  show λz=>j.2.2.2.2.1 x a ha z.symm
 show⟨v,hn.sameBut P M,λh' r=>⟨_,H',I2.turned (t':=s2.toks) (λb o hb e=>(r.2 b hb).trans e) j.1 j.2.1 j.2.2.2.1 j.2.2.2.2.1 j.2.2.2.2.2,q⟩⟩
end
theorem Ej:2<=sizeLine:=by decide
theorem Inv.gm{X:Cx}{d:List (Addr×Obj)}{g:St}{H:Hp}{s:Shared}{h':Heap}{t':Nat}{fp:List Addr}(I:Inv X d g H s)(k:∀b o,b∉fp->s.heap.get? b=some o->h'.get? b=some o)(f:∀b∈fp,jS X d H b) :
  Inv X d g H { s with heap:=h',toks:=t' }:=by
 have h:∀b u,H b=some u->b∉fp:=λb u e z=>by rw[(f b z).1] at e;cases e
 show I.step (g':=s.gens) (d':=s.drawn) (ch:=fp) (λb hb=>⟨(f b hb).2.2.2.1,(f b hb).2.1,(f b hb).2.2.2.2.1,(f b hb).2.2.2.2.2⟩) (λb o _ _ a e _=>k b o a e) (λb o _ _ a e _=>⟨o.slots,k b o a e⟩) (λ_ _ _ _ n=>n)
  (λb o a e=>⟨o,k b o a e⟩) (λ_ _ e=>e) (λ_ _ _ e=>e) (λb ps e=>⟨#[],by rw[e];simp⟩) (λm hm=>?_) (λb u e=>?_) I.bare
 .obtain⟨o,j,ep,i,r⟩:=hm;show⟨o,j,ep,k _ o (λz=>(f _ z).2.1 rfl) i,r⟩
 show(I.cH b u e).f6 (λc v a q=>k c v ?_ q) (λ_ q=>q) λ_ _ q=>q
 rcases a with z | z
 .rw[z];show h b u e
 show h c _ z
theorem Inv.jm{X:Cx}{h:List (Addr×Obj)}{i:St}{H:Hp}{s:Shared}{h':Heap}{t':Nat}{fp:List Addr}{a:Addr}{o:HO}(I:Inv X h i H s)(k:∀b o,b∉fp->s.heap.get? b=some o->h'.get? b=some o)(f:∀b∈fp,jS X h H b)
  (l:s.heap.objs.size<=a) (new:cM X.prog X.w (upd H a o) h' a o):Inv X h i (upd H a o) { s with heap:=h',toks:=t' }:=by
 have g:H a=none:=I.cH.fresh l;have j:∀b u,H b=some u->b∉fp:=λb u e z=>by rw[(f b z).1] at e;cases e
 show I.step (g':=s.gens) (d':=s.drawn) (ch:=fp) (λb hb=>⟨(f b hb).2.2.2.1,(f b hb).2.1,(f b hb).2.2.2.2.1,(f b hb).2.2.2.2.2⟩) (λb o _ _ d e _=>k b o d e) (λb o _ _ d e _=>⟨o.slots,k b o d e⟩)
  (λb o _ q n=>by rw[cL (aE (aK (aq q) l))];show n)
  (λb o d e=>⟨o,k b o d e⟩) (λb zs q=>by rw[cL (iu q g)];show q) (λb ob zs q=>by rw[cL (iu q g)];show q) (λb ps q=>⟨#[],by rw[cL (iu q g),q];simp⟩) (λm hm=>?_) (λb u q=>?_) I.bare
 .obtain⟨o,t,ep,p,r⟩:=hm;show⟨o,t,ep,k _ o (λz=>(f _ z).2.1 rfl) p,r⟩
 by_cases hb:b=a
 .subst hb;rw[eT] at q;cases q;show new
 rw[cL hb] at q;show(I.cH b u q).f6 (λc v d z=>k c v ?_ z) (λc z=>by rw[cL (iu z g)];show z) λc zs z=>by rw[cL (iu z g)];show z
 rcases d with rfl | d
 .exact j _ _ q
 show j _ _ d
noncomputable def Dy(x:Str):It:=⟨λi _=>i<x.cps.size,λi H v H'=>H'=H/\∃c,x.cps[i]?=some c/\v=.str ⟨#[c]⟩,λi _=>i=x.cps.size⟩
theorem Sr{P:Program}{w:World}{K:J'}{p:Expr}{x:Str}{it:Addr}{n:String}{t:Tok}(hn:["enumerate","zip","dict_itemiterator","dict_reverseitemiterator","odict_iterator","itertools.zip_longest","itertools.pairwise"].contains n=false)
  (W:∀m:Around,m.handled=none->Walks P w m it [it] [it] x.cps.size (SignAt x) (λi h=>h.IsStrIter it n x t i))
  (B:∀(A:Around)(i:Nat)(s:Shared)(Q:Value->Shared->Prop)(E:Value->Shared->Prop),s.heap.IsStrIter it n x t i->Q (.ref it) s->wpAny (model P w) A (pyIter (.ref it)) Q E s):Turn P w K p (Dy x) [it] it (λi h=>h.IsStrIter it n x t i) where
 mem:=by simp
 obj:=λi h st b hb=>by
  have e:b=it:=by simpa using hb
  subst e;obtain⟨o,e,c,d⟩:=st;show⟨o,e,λv z=>by rw[d] at z;cases z⟩
 keep:=λi h h' st k=>by
  obtain⟨o,e,r⟩:=st;show⟨o,k it (by simp) o e,r⟩
 item:=by
  intro X f hw g a i l s σ H E I hf st hg;subst f hw g;show(W X.A (I.ok.hd a)).item i s _ _ hg st λv h' tk y j kk=>?_
  obtain⟨c,u,q,rfl⟩:=y;have I1:Inv X l σ H { s with heap:=h',toks:=tk }:=I.gm kk hf;obtain⟨o,e,C,d⟩:=id j;show⟨_,rfl,yu (s:={ s with heap:=h',toks:=tk }) e C d hn ⟨.str ⟨#[c]⟩,H,I1,⟨u,rfl⟩,⟨rfl,c,q,rfl⟩,j,λb hb=>(hf b hb).1⟩⟩
 done:=by
  intro X f hw g a i l s σ H E I hf st hg;subst f hw g;have e:i=x.cps.size:=hg;subst e;show(W X.A (I.ok.hd a)).done s _ _ st λh' tk kk=>⟨rfl,I.gm kk hf⟩
 self:=B
section
variable{X:Cx}{tg:Expr}
theorem O4{g:List (Addr×Obj)}{c:St}{H:Hp}{s:Shared}{R:It->Hp->Prop}{E:Value->Shared->Prop}{x:Str}{t:Tok}(I:Inv X g c H s)(q:R (Dy x) H) :
  wpAny (model X.prog X.w) X.A (pyIter (.str x t)) (Dv X g c tg R) E s:=by
 have fin:∀(o:Obj)(n:String),(hn:["enumerate","zip","dict_itemiterator","dict_reverseitemiterator","odict_iterator","itertools.zip_longest","itertools.pairwise"].contains n=false)->
   (W:∀a:Around,a.handled=none->Walks X.prog X.w a s.heap.objs.size [s.heap.objs.size] [s.heap.objs.size] x.cps.size (SignAt x) (λi h=>h.IsStrIter s.heap.objs.size n x t i))->
   (j:∀(A:Around)(i:Nat)(d:Shared)(Q:Value->Shared->Prop)(E:Value->Shared->Prop),d.heap.IsStrIter s.heap.objs.size n x t i->Q (.ref s.heap.objs.size) d->wpAny (model X.prog X.w) A (pyIter (.ref s.heap.objs.size)) Q E d)->
   (s.heap.push o).IsStrIter s.heap.objs.size n x t 0->Dv X g c tg R (.ref s.heap.objs.size) { s with heap:=s.heap.push o }:=λo n hn W j st=>by
  show⟨s.heap.objs.size,[s.heap.objs.size],_,_,H,rfl,I.kept (t':=s.toks) λb o e=>ae _ e,Sr hn W j,st,λb hb=>?_,q⟩;have e:b=s.heap.objs.size:=by simpa using hb
  subst e;show I.kF (au _) (I.cH.fresh (au _))
 cases ha:x.cps.all (·<128)
 .exact wpAny_pyIter_wide ha (fin _ _ (by decide) (λa f=>Walks.strWide f _ x t) (λ_ _ _ _ _ st q=>wpAny_pyIter_striter_wide st q) ⟨_,az _ rfl,rfl,rfl⟩)
 show wpAny_pyIter_ascii ha (fin _ _ (by decide) (λa f=>Walks.strAscii f _ x t) (λ_ _ _ _ _ st q=>wpAny_pyIter_striter_ascii st q) ⟨_,az _ rfl,rfl,rfl⟩)
def IB(K:J')(tl:TE):TI:=λσ H R=>tl σ H λx H1=>(∃a,x=.ref a/\(∃xs,eh K H1 a xs)/\R (Iq K a) H1)\/(∃a,x=.ref a/\(∃xs,dF K H1 a xs)/\R (Ip K a) H1)\/(∃z,x=.str z/\R (Dy z) H1)
theorem Jr{l:Expr}{tl:TE}(g:PE X l tl):PI X tg l (IB X.K tl):=by
 intro j s σ H R I h;show cQ (g j s σ H _ I h) λv s1 i=>?_
 obtain⟨x,H1,I1,r1,f⟩:=i;rcases f with⟨a,e,⟨xs,c⟩,q⟩ | ⟨a,e,⟨xs,c⟩,q⟩ | ⟨z,e,q⟩
 .subst e;cases r1;obtain⟨its,d,p,hz⟩:=I1.list c;show wpAny_pyIter_list p.isList ?_;show⟨s1.heap.objs.size,[s1.heap.objs.size],_,_,H1,rfl,I1.kept (t':=s1.toks) λb o e=>ae _ e,UW a _,⟨_,az _ rfl,rfl,rfl⟩,λb hb=>?_,q⟩;have e:b=s1.heap.objs.size:=by simpa using hb
  subst e;show I1.kF (au _) (I1.cH.fresh (au _))
 .subst e;cases r1;obtain⟨its,d,p,hz⟩:=I1.tuple c;show wpAny_pyIter_tuple (show s1.heap.IsTuple a its.toArray from p) ?_;show⟨s1.heap.objs.size,[s1.heap.objs.size],_,_,H1,rfl,I1.kept (t':=s1.toks) λb o e=>ae _ e,U8 a _,⟨_,az _ rfl,rfl,rfl⟩,λb hb=>?_,q⟩;have e:b=s1.heap.objs.size:=by simpa using hb
  subst e;show I1.kF (au _) (I1.cH.fresh (au _))
 subst e;obtain⟨t,rfl⟩:=r1;show O4 I1 q
end
noncomputable def Ir(K:J')(a:Addr):It:=
 ⟨λi H=>∃xs x,eh K H a xs/\xs[i]?=some x,λi H v H'=>∃t,v=.ref t/\H t=none/\∀xs,eh K H a xs->∃x,xs[i]?=some x/\H'=upd H t (.tup [.int i,x]),λi H=>∃xs,eh K H a xs/\xs.length<=i⟩
noncomputable def Dx(K:J')(a b:Addr):It:=
 ⟨λi H=>∃xs ys x y,eh K H a xs/\eh K H b ys/\xs[i]?=some x/\ys[i]?=some y,λi H v H'=>∃t,v=.ref t/\H t=none/\∀xs ys,eh K H a xs->eh K H b ys->∃x y,xs[i]?=some x/\ys[i]?=some y/\H'=upd H t (.tup [x,y]),
  λi H=>∃xs ys,eh K H a xs/\eh K H b ys/\(xs.length<=i\/ys.length<=i)⟩
theorem Ei{H:Hp}{t:Addr}{o:HO}{fp:List Addr}(h:∀b∈fp,H b=none)(ht:∀b∈fp,b≠t):∀b∈fp,upd H t o b=none:=λb hb=>by rw[cL (ht b hb)];show h b hb
theorem Vc{prog:Program}{w:World}{A:Around}{E:Value->Shared->Prop}{s:Shared}{b:List Expr}{f}{c:Pos}{e it T:Addr}{i:Int}{a:Value}{Q:Unit->Shared->Prop}(d:IsEnumOut s.heap e it i a T)
  (h:∀h',IsEnum h' e it i a->Heap.SameBut e s.heap h'->Q () { s with heap:=h' }) :
  wpAny (model prog w) A (letOwnedTupleGo (.Tuple b f c) (.ref e) (.ref T)) Q E s:=by
 unfold letOwnedTupleGo;show aa (wpAny_load d ?_);show wpAny _ _ (if (["enumerate","zip","dict_itemiterator","dict_reverseitemiterator","odict_iterator","itertools.zip_longest","itertools.pairwise"].contains "enumerate" &&
   (#[rawInt T,.bool false,.ref it,rawInt i,.none,a]:Array Value)[0]?==some (rawInt T))=true then _ else _) Q E s
 rw[if_pos (by simp)];show aa (wpAny_rule ?_);show wpAny _ _ (setField (.ref e) 0 .none) Q E s;show wpAny_setField_rec d (by simp) λh' j g=>h h' j g
theorem UJ{P:Program}{w:World}{K:J'}{j:List Expr}{J}{r:Pos}(a e it:Addr)(D:e≠it):Turn P w K (.Tuple j J r) (Ir K a) [e,it] e (λi h=>(∃old,IsEnum h e it i old)/\h.IsListIter it a i) where
 mem:=by simp
 obj:=λi h st b hb=>by
  obtain⟨⟨old,f⟩,o,g,c,d⟩:=st;rcases aj.mp hb with rfl | hb
  .exact⟨_,f,λv z=>by have G:Data.fields _=Data.cell v:=z;cases G⟩
  have e:b=it:=by simpa using hb
  subst e;show⟨o,g,λv z=>by rw[d] at z;cases z⟩
 keep:=λi h h' st k=>by
  obtain⟨⟨old,f⟩,g⟩:=st;show⟨⟨old,k e (by simp) _ f⟩,g.at λo q=>k it (by simp) o q⟩
 item:=by
  intro X y hw A C i W s σ H E I hf st hg;subst y hw A;obtain⟨xs,x,l,t⟩:=hg;obtain⟨its,n,p,hz⟩:=I.list l;obtain⟨u,N,L⟩:=n.get t;obtain⟨⟨old,f⟩,g⟩:=st;show wpAny_pyNext_enum_item f g p.isList (x:=u) (by simpa using N) D λh' U T S e4 kk=>?_
  show⟨_,rfl,Vc U λB R m=>?_⟩;have F:s.heap.objs.size≠e:=Nat.ne_of_gt (aq f);have Y:s.heap.objs.size≠it:=by obtain⟨o,q,_⟩:=g;show Nat.ne_of_gt (aq q)
  have O:B.get? s.heap.objs.size=some { cls:=.type "tuple",data:=.seq #[.int i s.toks,u] }:=m.extBut _ _ F S;have V:H s.heap.objs.size=none:=I.cH.fresh (au _);have new:cM X.prog X.w (upd H s.heap.objs.size (.tup [.int i,x])) B s.heap.objs.size (.tup [.int i,x]):=⟨Ej,[.int i s.toks,u],.cons ⟨_,rfl⟩ (.cons L .nil),⟨_,O,rfl,_,rfl⟩⟩
  show⟨.ref s.heap.objs.size,upd H s.heap.objs.size (.tup [.int i,x]),I.jm (fp:=[e,it]) (λb o hb q=>m.extBut b o (λz=>hb (by simp[z])) (kk b o (λz=>hb (by simp[z])) (λz=>hb (by simp[z])) q)) hf (au _) new,rfl,
   ⟨_,rfl,V,λys M=>⟨x,by rw[I.gQ M l];show t,rfl⟩⟩,⟨⟨u,R⟩,T.extBut m.extBut (Ne.symm D)⟩,Ei (λb hb=>(hf b hb).1) λb hb=>?_⟩
  rcases aj.mp hb with rfl | hb
  .exact F.symm
  have z:b=it:=by simpa using hb
  rw[z];show Y.symm
 done:=by
  intro X y hw A C i W s σ H E I hf st hg;subst y hw A;obtain⟨xs,l,t⟩:=hg;obtain⟨its,n,p,hz⟩:=I.list l;obtain⟨⟨old,f⟩,g⟩:=st;have Z:=n.length;show wpAny_pyNext_enum_end (I.ok.hd C) f g p.isList (by simp;ext) λh' Q=>⟨rfl,I.gm (fp:=[e,it]) (t':=s.toks) (λb o hb q=>Q b o (λz=>hb (by simp[z])) q) hf⟩
 self:=λ_ _ _ _ _ st h=>by
  obtain⟨⟨old,f⟩,_⟩:=st;show wpAny_pyIter_enum f h
section
variable{X:Cx}{elts:List Expr}{x1:Nat}{mW:Pos}
def Ow(K:J')(c:TA):TI:=λσ H R=>c σ H λb H1=>∃a xs,b=[.ref a]/\kc K H1 a xs/\R (Ir K a) H1
theorem QU{a:Expr}{d:TA}{p c:Pos}(hg:Gl X "enumerate")(hm:X.mg "enumerate"=none)(ha:PA X [a] d)(k:starEach [a] X.env=[(false,eval a X.env)]:=by rfl):PI X (.Tuple elts x1 mW) (.Call (.Name "enumerate" p) [a] [] c) (Ow X.K d):=by
 intro w s σ H R I h;show Call_ (zev I hg hm boot_enumerate (PyProof.Rows.callWith_type1 (cQ (ha c w s σ H _ I h) λus s1 t=>?_) k rfl));obtain⟨x,H1,I1,r1,j⟩:=t;obtain⟨l,xs,e,m,q⟩:=j;subst e;obtain⟨u,rfl,i⟩:=lP r1;cases i;obtain⟨z,its,n,r,e⟩:=I1.fW m;show call_enumerate_1 e λh' g o y kk=>?_
 show wpAny_pyIter_enum g ?_;have v:s1.heap.objs.size+1≠s1.heap.objs.size:=by ext
 show⟨s1.heap.objs.size+1,[s1.heap.objs.size+1,s1.heap.objs.size],_,_,H1,rfl,I1.kept (t':=s1.toks) kk,UJ l _ _ v,⟨⟨_,g⟩,o⟩,λb hb=>?_,q⟩;have f:s1.heap.objs.size<=b:=by
  rcases aj.mp hb with rfl | hb
  .exact Nat.le_succ _
  have e:b=s1.heap.objs.size:=by simpa using hb
  show Nat.le_of_eq e.symm
 show I1.kF f (I1.cH.fresh f)
theorem KI{P:Program}{w:World}{K:J'}(a b z TI TO m j:Addr)(D1:TI≠z/\TO≠z/\m≠z/\j≠z/\TI≠TO/\TI≠m/\TI≠j/\TO≠m/\TO≠j/\m≠j):Turn P w K (.Tuple elts x1 mW) (Dx K a b) [z,TI,TO,m,j] z
  (λi h=>IsZip h z TI TO .none/\IsPair h TI (.ref m) (.ref j)/\(∃a b,IsPair h TO a b)/\h.IsListIter m a i/\h.IsListIter j b i) where
 mem:=by simp
 obj:=λi h st c f=>by
  obtain⟨t,B,⟨u,v,A⟩,⟨o1,g1,_,G⟩,⟨o2,g2,_,M⟩⟩:=st;simp only[aj,aS,or_false] at f;rcases f with rfl | rfl | rfl | rfl | rfl
  .exact⟨_,t,λv z=>by have O:Data.fields _=Data.cell v:=z;cases O⟩
  .exact⟨_,B,λv z=>by have O:Data.seq _ _=Data.cell v:=z;cases O⟩
  .exact⟨_,A,λv z=>by have O:Data.seq _ _=Data.cell v:=z;cases O⟩
  .exact⟨_,g1,λv z=>by rw[G] at z;cases z⟩
  show⟨_,g2,λv z=>by rw[M] at z;cases z⟩
 keep:=λi h h' st k=>by
  obtain⟨t,B,⟨u,v,A⟩,F,C⟩:=st;show⟨k z (by simp) _ t,k TI (by simp) _ B,⟨u,v,k TO (by simp) _ A⟩,F.at λo q=>k m (by simp) o q,C.at λo q=>k j (by simp) o q⟩
 item:=by
  intro X hP hw hK f i K' s σ H E I hf st hg;subst hP hw hK;obtain⟨xs,ys,x,y,R,S,L,hy⟩:=hg;obtain⟨its,Z,p,hz⟩:=I.list R;obtain⟨kC,j0,Q,vR⟩:=I.list S;obtain⟨u,hu,ru⟩:=Z.get L;obtain⟨v,hv,Gb⟩:=j0.get hy;obtain⟨t,B,⟨c,d,A⟩,F,C⟩:=st;obtain⟨G,M,Y,W,V,U,T,d8,d9,A4⟩:=D1;have N:∀{l:Addr}{its:List Value},PlainL s.heap l its.toArray->l≠z/\l≠TO/\l≠m/\l≠j:=λ{l its} pl=>by
   obtain⟨o,n,e,r,_,dd⟩:=pl;obtain⟨o1,g1,c4,_⟩:=F;obtain⟨o2,g2,c5,_⟩:=C;show⟨?_,?_,?_,?_⟩
   .rintro rfl;rw[t] at e;cases e;simp at r
   .rintro rfl;rw[A] at e;cases e;simp at r
   .rintro rfl;rw[g1] at e;cases e;rw[c4] at r;simp at r
   rintro rfl;rw[g2] at e;cases e;rw[c5] at r;simp at r
  obtain⟨e1,e2,e3,e4⟩:=N p;obtain⟨f1,f2,f3,f4⟩:=N Q;have D:ZipApart z TI TO m j a b:=⟨G,M,Y,W,V,U,T,d8,d9,A4,e1,e2,e3,e4,f1,f2,f3,f4⟩
  show wpAny_pyNext_zip_item D t B A F C p.isList Q.isList (x:=u) (y:=v) (by simpa using hu) (by simpa using hv) λh' a1 a2 a3 a4 a5 a6 kk=>?_
  show⟨_,rfl,wpAny_letOwnedTupleGo_zip a1 λrM b1 J=>?_⟩;have HR:s.heap.objs.size≠z:=Nat.ne_of_gt (aq t);have dW:H s.heap.objs.size=none:=I.cH.fresh (au _);have hT:rM.get? s.heap.objs.size=some { cls:=.type "tuple",data:=.seq #[u,v] }:=J.extBut _ _ HR a5;have new:cM X.prog X.w (upd H s.heap.objs.size (.tup [x,y])) rM s.heap.objs.size (.tup [x,y]):=⟨Ej,[u,v],.cons ru (.cons Gb .nil),⟨_,hT,rfl,_,rfl⟩⟩
  have lt:∀{c o},s.heap.get? c=some o->c≠s.heap.objs.size:=λe=>aE (aq e)
  show⟨.ref s.heap.objs.size,upd H s.heap.objs.size (.tup [x,y]),I.jm (fp:=[z,TI,TO,m,j]) (t':=s.toks) (λc o f q=>J.extBut c o (λe=>f (by simp[e])) (kk c o (λe=>f (by simp[e])) (λe=>f (by simp[e])) (λe=>f (by simp[e])) (λe=>f (by simp[e])) q)) hf (au _) new,rfl,
   ⟨_,rfl,dW,λzs ws h6 h7=>⟨x,y,by rw[I.gQ h6 R];show L,by rw[I.gQ h7 S];show hy,rfl⟩⟩,
   ⟨b1,J.extBut _ _ G (kk _ _ G V U T B),⟨_,_,J.extBut _ _ M a2⟩,a3.extBut J.extBut Y,a4.extBut J.extBut W⟩,Ei (λb hb=>(hf b hb).1) λc f=>?_⟩
  simp only[aj,aS,or_false] at f;rcases f with rfl | rfl | rfl | rfl | rfl
  .exact lt t
  .exact lt B
  .exact lt A
  .obtain⟨_,g,_⟩:=F;show lt g
  obtain⟨_,g,_⟩:=C;show lt g
 done:=by
  intro X hP hw hK f i K' s σ H E I hf st hg;subst hP hw hK;obtain⟨xs,ys,R,S,L⟩:=hg;obtain⟨its,Z,p,hz⟩:=I.list R;obtain⟨kC,j0,Q,vR⟩:=I.list S;obtain⟨t,B,⟨c,d,A⟩,F,C⟩:=st;obtain⟨G,M,Y,W,V,U,T,d8,d9,A4⟩:=D1;have N:∀{l:Addr}{its:List Value},PlainL s.heap l its.toArray->l≠z/\l≠TO/\l≠m/\l≠j:=λ{l its} pl=>by
   obtain⟨o,n,e,r,_,dd⟩:=pl;obtain⟨o1,g1,c4,_⟩:=F;obtain⟨o2,g2,c5,_⟩:=C;show⟨?_,?_,?_,?_⟩
   .rintro rfl;rw[t] at e;cases e;simp at r
   .rintro rfl;rw[A] at e;cases e;simp at r
   .rintro rfl;rw[g1] at e;cases e;rw[c4] at r;simp at r
   rintro rfl;rw[g2] at e;cases e;rw[c5] at r;simp at r
  obtain⟨e1,e2,e3,e4⟩:=N p;obtain⟨f1,f2,f3,f4⟩:=N Q;have D:ZipApart z TI TO m j a b:=⟨G,M,Y,W,V,U,T,d8,d9,A4,e1,e2,e3,e4,f1,f2,f3,f4⟩
  have l1:=Z.length;have l2:=j0.length;have nc:its.toArray[i]?=none\/kC.toArray[i]?=none:=by
   rcases L with L | L
   .exact .inl (by simp;ext)
   show .inr (by simp;ext)
  show wpAny_pyNext_zip_end (I.ok.hd f) D t B A F C p.isList Q.isList nc λh' kk=>⟨rfl,I.gm (fp:=[z,TI,TO,m,j]) (t':=s.toks) (λc o f q=>kk c o (λe=>f (by simp[e])) (λe=>f (by simp[e])) (λe=>f (by simp[e])) (λe=>f (by simp[e])) q) hf⟩
 self:=λ_ _ _ _ _ st h=>wpAny_pyIter_zip st.1 h
theorem Fw(n:Nat):(n+2:Nat)≠n+4/\(n+3:Nat)≠n+4/\n≠n+4/\(n+1:Nat)≠n+4/\(n+2:Nat)≠n+3/\(n+2:Nat)≠n/\(n+2:Nat)≠n+1/\(n+3:Nat)≠n/\(n+3:Nat)≠n+1/\n≠n+1:=by ext
def N9(K:J')(d:TA):TI:=λσ H R=>d σ H λc H1=>∃a b,c=[.ref a,.ref b]/\(∃xs,eh K H1 a xs)/\(∃ys,eh K H1 b ys)/\R (Dx K a b) H1
theorem O3{a b:Expr}{d:TA}{p c:Pos}(hg:Gl X "zip")(hm:X.mg "zip"=none)(ha:PA X [a,b] d)(w:starEach [a,b] X.env=[(false,eval a X.env),(false,eval b X.env)]:=by rfl)(f:starEach [b] X.env=[(false,eval b X.env)]:=by rfl) :
  PI X (.Tuple elts x1 mW) (.Call (.Name "zip" p) [a,b] [] c) (N9 X.K d):=by
 intro C s σ H R I h;show Call_ (zev I hg hm boot_zip (PyProof.Rows.callWith_type1 (cQ (ha c C s σ H _ I h) λus s1 ⟨D,H1,I1,r1,n⟩=>?_) (by rw[w,f]) (by rw[f];rfl)));obtain⟨l,t,e,⟨xs,x⟩,⟨ys,j⟩,q⟩:=n;subst e;obtain⟨u,v,rfl,m,k⟩:=pV r1;cases m;cases k;obtain⟨its,_,r,_⟩:=I1.list x;obtain⟨its',_,o,_⟩:=I1.list j;show call_zip_2 r.isList o.isList λh' i B A z y E kk=>?_
 show wpAny_pyIter_zip i ?_;show⟨s1.heap.objs.size+4,[s1.heap.objs.size+4,s1.heap.objs.size+2,s1.heap.objs.size+3,s1.heap.objs.size,s1.heap.objs.size+1],_,_,H1,rfl,I1.kept (t':=s1.toks) kk,KI l t _ _ _ _ _ (Fw _),
  ⟨i,B,⟨_,_,A⟩,z,y⟩,λb hb=>?_,q⟩
 have g:s1.heap.objs.size<=b:=by
  simp only[aj,aS,or_false] at hb;rcases hb with rfl | rfl | rfl | rfl | rfl<;>first | show Nat.le_add_right _ _ | show au _
 show I1.kF g (I1.cH.fresh g)
end
inductive D where
 | non | bl (b:Bool) | int (i:Int) | str (x:Str) | tup (ds:List D) | lst (ds:List D) | obj (cn:Str) (fs:List (Str×D)) | dic (kvs:List (Key×D)) | dit (kvs:List (List Key×D)) | exc (cn:Str) (fs:List (Str×D))
structure ClsAt(K:J')(cn:Str)(C:Addr):Prop where
 at_:PySem.W.nsIn K mainGlobals cn=some (some (.ref C))
 cls:ZT K C
def eP(H:Hp):List (List Key×V)->List Addr->Prop
 | [],[]=>True
 | p::ps,b::bs=>H b=some (.tup (p.1.map kV))/\eP H ps bs
 | _,_=>False
theorem eP.mono{H H':Hp}(e:cq H H'):∀{ps:List (List Key×V)}{bs:List Addr},eP H ps bs->eP H' ps bs
 | [],[],h=>h
 | p::ps,b::bs,h=>⟨e _ _ h.1,eP.mono e h.2⟩
 | [],_::_,h=>h.elim
 | _::_,[],h=>h.elim
def ny(H:Hp):Option Addr->List (Str×V)->Prop
 | none,a=>a=[]
 | some d,a=>∃b,H d=some (.ext b)/\∀h:Heap,b h->∃c,h.Ns1 d c/\∀f v,a.lookup f=some v->∃u,c f=some u/\RelV v u
theorem ny.mono{H H':Hp}(e:cq H H'){c:Option Addr}{d:List (Str×V)}(h:ny H c d):ny H' c d:=by
 cases c with
 | none=>show h
 | some g=>show let⟨f,a,b⟩:=h;⟨f,e _ _ a,b⟩
mutual
def Rep(K:J')(H:Hp):V->D->Prop
 | v,.non=>v=.non
 | v,.bl b=>v=.bl b
 | v,.int i=>v=.int i
 | v,.str x=>v=.str x
 | v,.tup ds=>∃a xs,v=.ref a/\H a=some (.tup xs)/\bY K H xs ds
 | v,.lst ds=>∃a xs,v=.ref a/\kc K H a xs/\bY K H xs ds
 | v,.obj d fs=>∃a C j c,v=.ref a/\H a=some (.ins C j c)/\ClsAt K d C/\(∀p∈fs,Jy K C p.1)/\gh K H c fs
 | v,.dic kvs=>∃a ks ep,v=.ref a/\H a=some (.dK ks ep)/\cp K H ks kvs
 | v,.dit kvs=>∃a ks bs,v=.ref a/\H a=some (.dT ks bs)/\eP H ks bs.1/\dH K H ks kvs
 | v,.exc d fs=>∃a e C f c,v=.ref a/\H a=some (.ext e)/\PySem.W.nsIn K mainGlobals d=some (some (.ref C))/\(∀h:Heap,e h->∃o g,h.get? a=some o/\o.cls=.ref C/\o.dict=f/\o.data=.fields g)/\ny H f c/\gh K H c fs
def bY(K:J')(H:Hp):List V->List D->Prop
 | [],[]=>True
 | v::a,d::ds=>Rep K H v d/\bY K H a ds
 | _,_=>False
def gh(K:J')(H:Hp):List (Str×V)->List (Str×D)->Prop
 | [],[]=>True
 | v::a,d::ds=>(v.1=d.1/\Rep K H v.2 d.2)/\gh K H a ds
 | _,_=>False
def cp(K:J')(H:Hp):List (Key×V)->List (Key×D)->Prop
 | [],[]=>True
 | v::a,d::ds=>(v.1=d.1/\Rep K H v.2 d.2)/\cp K H a ds
 | _,_=>False
def dH(K:J')(H:Hp):List (List Key×V)->List (List Key×D)->Prop
 | [],[]=>True
 | v::a,d::ds=>(v.1=d.1/\Rep K H v.2 d.2)/\dH K H a ds
 | _,_=>False
end
theorem cq.j4{K:J'}{H H':Hp}{a:Addr}{xs:List V}(e:cq H H')(h:H a=some (.tup xs)):dF K H' a xs:=dF.of (e _ _ h)
theorem cq.iP{K:J'}{H H':Hp}{a:Addr}{xs:List V}(e:cq H H')(h:dF K H a xs):dF K H' a xs:=by
 rcases h with(h | ⟨o,h⟩) | h
 .exact .inl (.inl (e _ _ h))
 .exact .inl (.inr ⟨o,e _ _ h⟩)
 show .inr h
mutual
theorem Rep.mono{K:J'}{H H':Hp}(e:cq H H'):∀(v:V)(d:D),Rep K H v d->Rep K H' v d
 | v,.non,h=>by simpa only[Rep] using h
 | v,.bl b,h=>by simpa only[Rep] using h
 | v,.int i,h=>by simpa only[Rep] using h
 | v,.str x,h=>by simpa only[Rep] using h
 | v,.tup ds,h=>by
  simp only[Rep] at h ⊢;obtain⟨a,xs,g,f,c⟩:=h;show⟨a,xs,g,e _ _ f,bY.mono e xs ds c⟩
 | v,.lst ds,h=>by
  simp only[Rep] at h ⊢;obtain⟨a,xs,g,f,c⟩:=h;show⟨a,xs,g,e.fW f,bY.mono e xs ds c⟩
 | v,.obj q fs,h=>by
  simp only[Rep] at h ⊢;obtain⟨a,C,o,k,g,f,c,j,l⟩:=h;show⟨a,C,o,k,g,e _ _ f,c,j,gh.mono e k fs l⟩
 | v,.dic kvs,h=>by
  simp only[Rep] at h ⊢;obtain⟨a,ks,ep,g,f,c⟩:=h;show⟨a,ks,ep,g,e _ _ f,cp.mono e ks kvs c⟩
 | v,.dit kvs,h=>by
  simp only[Rep] at h ⊢;obtain⟨a,ks,bs,g,f,c,j⟩:=h;show⟨a,ks,bs,g,e _ _ f,c.mono e,dH.mono e ks kvs j⟩
 | v,.exc q fs,h=>by
  simp only[Rep] at h ⊢;obtain⟨a,m,C,p,k,g,f,c,j,l,n⟩:=h;show⟨a,m,C,p,k,g,e _ _ f,c,j,l.mono e,gh.mono e k fs n⟩
theorem bY.mono{K:J'}{H H':Hp}(e:cq H H'):∀(a:List V)(ds:List D),bY K H a ds->bY K H' a ds
 | [],[],h=>by simp only[bY]
 | v::a,d::ds,h=>by
  simp only[bY] at h ⊢;show⟨Rep.mono e v d h.1,bY.mono e a ds h.2⟩
 | [],_::_,h=>by simp only[bY] at h
 | _::_,[],h=>by simp only[bY] at h
theorem gh.mono{K:J'}{H H':Hp}(e:cq H H'):∀(a:List (Str×V))(ds:List (Str×D)),gh K H a ds->gh K H' a ds
 | [],[],h=>by simp only[gh]
 | (x,v)::a,(y,d)::ds,h=>by
  simp only[gh] at h ⊢;show⟨⟨h.1.1,Rep.mono e v d h.1.2⟩,gh.mono e a ds h.2⟩
 | [],_::_,h=>by simp only[gh] at h
 | _::_,[],h=>by simp only[gh] at h
theorem cp.mono{K:J'}{H H':Hp}(e:cq H H'):∀(a:List (Key×V))(ds:List (Key×D)),cp K H a ds->cp K H' a ds
 | [],[],h=>by simp only[cp]
 | (x,v)::a,(y,d)::ds,h=>by
  simp only[cp] at h ⊢;show⟨⟨h.1.1,Rep.mono e v d h.1.2⟩,cp.mono e a ds h.2⟩
 | [],_::_,h=>by simp only[cp] at h
 | _::_,[],h=>by simp only[cp] at h
theorem dH.mono{K:J'}{H H':Hp}(e:cq H H'):∀(a:List (List Key×V))(ds:List (List Key×D)),dH K H a ds->dH K H' a ds
 | [],[],h=>by simp only[dH]
 | (x,v)::a,(y,d)::ds,h=>by
  simp only[dH] at h ⊢;show⟨⟨h.1.1,Rep.mono e v d h.1.2⟩,dH.mono e a ds h.2⟩
 | [],_::_,h=>by simp only[dH] at h
 | _::_,[],h=>by simp only[dH] at h
end
section
variable{K:J'}{H H':Hp}
theorem bY.length:∀{a:List V}{ds:List D},bY K H a ds->a.length=ds.length
 | [],[],_=>rfl
 | v::a,d::ds,h=>by
  simp only[bY] at h;simp only[aG,bY.length h.2]
 | [],_::_,h=>by simp only[bY] at h
 | _::_,[],h=>by simp only[bY] at h
theorem bY.get:∀{a:List V}{ds:List D}{i:Nat}{d:D},bY K H a ds->ds[i]?=some d->∃v,a[i]?=some v/\Rep K H v d
 | [],[],i,d,_,e=>by simp at e
 | v::a,d'::ds,0,d,h,e=>by
  simp only[bY] at h;simp only[aV,aA] at e;subst e;show⟨v,rfl,h.1⟩
 | v::a,d'::ds,i+1,d,h,e=>by
  simp only[bY] at h;simp only[aW] at e ⊢;show bY.get h.2 e
 | [],_::_,_,_,h,_=>by simp only[bY] at h
 | _::_,[],_,_,h,_=>by simp only[bY] at h
theorem bY.AZ:∀{a:List V}{ds:List D}{i:Nat}{v:V},bY K H a ds->a[i]?=some v->∃d,ds[i]?=some d/\Rep K H v d
 | [],[],i,d,_,e=>by simp at e
 | b::a,d::ds,0,v,h,e=>by
  simp only[bY] at h;simp only[aV,aA] at e;subst e;show⟨d,rfl,h.1⟩
 | b::a,d::ds,i+1,v,h,e=>by
  simp only[bY] at h;simp only[aW] at e ⊢;show bY.AZ h.2 e
 | [],_::_,_,_,h,_=>by simp only[bY] at h
 | _::_,[],_,_,h,_=>by simp only[bY] at h
theorem bY.nil:bY K H [] []:=by simp only[bY]
theorem bY.cons{v:V}{a:List V}{d:D}{ds:List D}(h:Rep K H v d)(b:bY K H a ds):bY K H (v::a) (d::ds):=by simp only[bY];show⟨h,b⟩
theorem bY.append:∀{a:List V}{ds:List D}{us:List V}{b:List D},bY K H a ds->bY K H us b->bY K H (a++us) (ds++b)
 | [],[],_,_,_,h=>h
 | v::a,d::ds,_,_,h,h'=>by
  simp only[bY] at h;show bY.cons h.1 (bY.append h.2 h')
 | [],_::_,_,_,h,_=>by simp only[bY] at h
 | _::_,[],_,_,h,_=>by simp only[bY] at h
theorem bY.take:∀{a:List V}{ds:List D}(n:Nat),bY K H a ds->bY K H (a.take n) (ds.take n)
 | _,_,0,_=>bY.nil
 | [],[],_+1,_=>bY.nil
 | v::a,d::ds,n+1,h=>by
  simp only[bY] at h;show bY.cons h.1 (bY.take n h.2)
 | [],_::_,_+1,h=>by simp only[bY] at h
 | _::_,[],_+1,h=>by simp only[bY] at h
theorem bY.drop:∀{a:List V}{ds:List D}(n:Nat),bY K H a ds->bY K H (a.drop n) (ds.drop n)
 | _,_,0,h=>h
 | [],[],_+1,_=>bY.nil
 | v::a,d::ds,n+1,h=>by
  simp only[bY] at h;show bY.drop n h.2
 | [],_::_,_+1,h=>by simp only[bY] at h
 | _::_,[],_+1,h=>by simp only[bY] at h
theorem bY.set:∀{a:List V}{ds:List D}{v:V}{d:D}(n:Nat),bY K H a ds->Rep K H v d->bY K H (a.set n v) (ds.set n d)
 | [],[],_,_,_,_,_=>bY.nil
 | b::a,d'::ds,v,d,0,h,q=>by
  simp only[bY] at h;show bY.cons q h.2
 | b::a,d'::ds,v,d,n+1,h,q=>by
  simp only[bY] at h;show bY.cons h.1 (bY.set n h.2 q)
 | [],_::_,_,_,_,h,_=>by simp only[bY] at h
 | _::_,[],_,_,_,h,_=>by simp only[bY] at h
theorem bY.reverse{a:List V}{ds:List D}(h:bY K H a ds):bY K H a.reverse ds.reverse:=by
 induction a generalizing ds with
 | nil=>
  cases ds with
  | nil=>show bY.nil
  | cons=>simp only[bY] at h
 | cons v a b=>
  cases ds with
  | nil=>simp only[bY] at h
  | cons d ds=>
   simp only[bY] at h;rw[List.reverse_cons,List.reverse_cons];show bY.append (b h.2) (bY.cons h.1 bY.nil)
end
structure Ext(G H G' H':Hp):Prop where
 g:cq G G'
 h:cq H H'
 s:cq G' H'
 n:∀p,G p=none->H p≠none->G' p=none
theorem Ext.refl{G H:Hp}(s:cq G H):Ext G H G H:=⟨cq.refl _,cq.refl _,s,λ_ h _=>h⟩
theorem Ext.trans{G H i e f d:Hp}(a:Ext G H i e)(b:Ext i e f d):Ext G H f d:=
 ⟨a.g.trans b.g,a.h.trans b.h,b.s,λp j c=>b.n p (a.n p j c) λz=>c (a.h.free z)⟩
theorem t4{H:Hp}{p:Addr}{o:HO}(h:H p=none):cq H (upd H p o):=λb u e=>by rw[cL (iu e h)];show e
theorem UI{G H:Hp}{p:Addr}{o:HO}(s:cq G H):cq (upd G p o) (upd H p o):=λb u e=>by
 by_cases hb:b=p
 .subst hb;rw[eT] at e ⊢;show e
 rw[cL hb] at e ⊢;show s b u e
theorem Ext.new{G H:Hp}{p:Addr}{o:HO}(s:cq G H)(h:H p=none):Ext G H (upd G p o) (upd H p o):=
 ⟨t4 (s.free h),t4 h,UI s,λq b a=>by rw[cL (λz=>a (by rw[z];show h))];show b⟩
theorem Ext.own{G H:Hp}{p:Addr}{o:HO}(s:cq G H)(h:H p=none):Ext G H G (upd H p o):=
 ⟨cq.refl _,t4 h,s.trans (t4 h),λq a _=>a⟩
inductive OV where
 | ll (dss:List (List D))
 | dc (kvs:List (Key×D))
 | dl (kvs:List (Key×List D))
 | tl (d:D) (ds:List D)
 | ld (pF:List (List (Key×D)))
 | dt (kvs:List (List Key×List D))
 | tp (ds:List D)
 | ob (cn:Str) (fs:List (Str×List D))
 | dq (kvs:List (List Key×D))
noncomputable def OV.val:OV->D
 | .ll dss=>.lst (dss.map .lst)
 | .dc kvs=>.dic kvs
 | .dl kvs=>.dic (kvs.map λp=>(p.1,.lst p.2))
 | .tl d ds=>.tup [d,.lst ds]
 | .ld a=>.lst (a.map .dic)
 | .dt kvs=>.dit (kvs.map λp=>(p.1,.lst p.2))
 | .tp ds=>.tup ds
 | .ob b fs=>.obj b (fs.map λp=>(p.1,.lst p.2))
 | .dq kvs=>.dit kvs
inductive R where
 | fz (d:D)
 | ow (ds:List D)
 | ov (o:OV)
noncomputable def R.val:R->D
 | .fz d=>d
 | .ow ds=>.lst ds
 | .ov o=>o.val
inductive Sl where
 | un
 | fz (d:D)
 | ow (ds:List D)
 | ov (o:OV)
noncomputable def R.sl:R->Sl
 | .fz d=>.fz d
 | .ow ds=>.ow ds
 | .ov o=>.ov o
def cy(K:J')(G H:Hp):List Addr->List (List D)->Prop
 | [],[]=>True
 | q::a,ds::dss=>(∃xs,H q=some (.lst xs)/\bY K G xs ds)/\cy K G H a dss
 | _,_=>False
theorem cy.mono{K:J'}{G H b H':Hp}(g:cq G b):∀{a:List Addr}{dss:List (List D)},(∀q∈a,∀xs,H q=some (.lst xs)->H' q=some (.lst xs))->cy K G H a dss->cy K b H' a dss
 | [],[],_,_=>by simp only[cy]
 | q::a,ds::dss,hh,h=>by
  simp only[cy] at h ⊢;obtain⟨⟨xs,f,e⟩,d⟩:=h;show⟨⟨xs,hh q (by simp) xs f,e.mono g⟩,cy.mono g (λr c=>hh r (by simp[c])) d⟩
 | [],_::_,_,h=>by simp only[cy] at h
 | _::_,[],_,h=>by simp only[cy] at h
theorem cy.here{K:J'}{G H:Hp}:∀{a:List Addr}{dss:List (List D)},cy K G H a dss->∀q∈a,H q≠none
 | [],[],_,q,c=>by cases c
 | q::a,ds::dss,h,r,b=>by
  simp only[cy] at h;obtain⟨⟨xs,e,f⟩,d⟩:=h;rcases aj.mp b with rfl | b
  .rw[e];show nofun
  show cy.here d r b
 | [],_::_,h,_,_=>by simp only[cy] at h
 | _::_,[],h,_,_=>by simp only[cy] at h
theorem cy.lW{K:J'}{G H b:Hp}(g:cq G b):∀{a:List Addr}{dss:List (List D)},(∀q∈a,∀xs,H q=some (.lst xs)->b q=some (.lst xs))->cy K G H a dss->bY K b (a.map V.ref) (dss.map D.lst)
 | [],[],_,_=>bY.nil
 | q::a,ds::dss,hh,h=>by
  simp only[cy] at h;obtain⟨⟨xs,f,e⟩,d⟩:=h;show bY.cons ?_ (cy.lW g (λr c=>hh r (by simp[c])) d);simp only[Rep];show⟨q,xs,rfl,kc.of (hh q (by simp) xs f),e.mono g⟩
 | [],_::_,_,h=>by simp only[cy] at h
 | _::_,[],_,h=>by simp only[cy] at h
def cA(K:J')(G H:Hp):List Addr->List (List (Key×D))->Prop
 | [],[]=>True
 | q::a,ds::dss=>(∃ks ep,H q=some (.dK ks ep)/\cp K G ks ds)/\cA K G H a dss
 | _,_=>False
theorem cA.mono{K:J'}{G H b H':Hp}(g:cq G b):∀{a:List Addr}{dss:List (List (Key×D))},(∀q∈a,∀u,H q=some u->H' q=some u)->cA K G H a dss->cA K b H' a dss
 | [],[],_,_=>by simp only[cA]
 | q::a,ds::dss,hh,h=>by
  simp only[cA] at h ⊢;obtain⟨⟨ks,ep,f,e⟩,d⟩:=h;show⟨⟨ks,ep,hh q (by simp) _ f,cp.mono g _ _ e⟩,cA.mono g (λr c=>hh r (by simp[c])) d⟩
 | [],_::_,_,h=>by simp only[cA] at h
 | _::_,[],_,h=>by simp only[cA] at h
theorem cA.kind{K:J'}{G H:Hp}:∀{a:List Addr}{dss:List (List (Key×D))},cA K G H a dss->∀q∈a,∃ks ep,H q=some (.dK ks ep)
 | [],[],_,q,c=>by cases c
 | q::a,ds::dss,h,r,b=>by
  simp only[cA] at h;obtain⟨⟨ks,ep,e,f⟩,d⟩:=h;rcases aj.mp b with rfl | b
  .exact⟨ks,ep,e⟩
  show cA.kind d r b
 | [],_::_,h,_,_=>by simp only[cA] at h
 | _::_,[],h,_,_=>by simp only[cA] at h
theorem cA.here{K:J'}{G H:Hp}{a:List Addr}{dss:List (List (Key×D))}(h:cA K G H a dss):∀q∈a,H q≠none:=λq b=>by
 obtain⟨ks,ep,e⟩:=h.kind q b;rw[e];show nofun
theorem cA.lW{K:J'}{G H b:Hp}(g:cq G b):∀{a:List Addr}{dss:List (List (Key×D))},(∀q∈a,∀u,H q=some u->b q=some u)->cA K G H a dss->bY K b (a.map V.ref) (dss.map D.dic)
 | [],[],_,_=>bY.nil
 | q::a,ds::dss,hh,h=>by
  simp only[cA] at h;obtain⟨⟨ks,ep,f,e⟩,d⟩:=h;show bY.cons ?_ (cA.lW g (λr c=>hh r (by simp[c])) d);simp only[Rep];show⟨q,ks,ep,rfl,hh q (by simp) _ f,cp.mono g _ _ e⟩
 | [],_::_,_,h=>by simp only[cA] at h
 | _::_,[],_,h=>by simp only[cA] at h
def js(K:J')(G H:Hp)(p:Addr)(fp:List Addr):OV->Prop
 | .ll dss=>H p=some (.lst (fp.map V.ref))/\cy K G H fp dss
 | .dc kvs=>fp=[]/\∃ks ep,H p=some (.dK ks ep)/\cp K G ks kvs
 | .dl kvs=>∃ks ep,H p=some (.dK ks ep)/\ks.map (·.1)=kvs.map (·.1)/\ks.map (·.2)=fp.map V.ref/\cy K G H fp (kvs.map (·.2))
 | .tl d ds=>∃q v xs,fp=[q]/\H p=some (.tup [v,.ref q])/\Rep K G v d/\H q=some (.lst xs)/\bY K G xs ds
 | .ld b=>H p=some (.lst (fp.map V.ref))/\cA K G H fp b
 | .dt kvs=>∃ks bs,H p=some (.dT ks bs)/\eP G ks bs.1/\ks.map (·.1)=kvs.map (·.1)/\ks.map (·.2)=fp.map V.ref/\cy K G H fp (kvs.map (·.2))
 | .tp ds=>fp=[]/\∃xs,H p=some (.tup xs)/\bY K G xs ds
 | .ob e fs=>∃C c a,H p=some (.ins C c a)/\ClsAt K e C/\(∀p∈fs,Jy K C p.1)/\a.map (·.1)=fs.map (·.1)/\a.map (·.2)=fp.map V.ref/\cy K G H fp (fs.map (·.2))
 | .dq kvs=>fp=[]/\∃ks bs,H p=some (.dT ks bs)/\eP G ks bs.1/\dH K G ks kvs
theorem js.here{K:J'}{G H:Hp}{p:Addr}{fp:List Addr}{o:OV}(h:js K G H p fp o):∀q∈p::fp,H q≠none:=by
 intro q a;cases o with
 | ll dss=>
  rcases aj.mp a with rfl | a
  .rw[h.1];show nofun
  show h.2.here q a
 | dc kvs=>
  obtain⟨rfl,ks,ep,b,_⟩:=h;simp only[aM] at a;subst a;rw[b];show nofun
 | dl kvs=>
  obtain⟨ks,ep,b,_,_,c⟩:=h;rcases aj.mp a with rfl | a
  .rw[b];show nofun
  show c.here q a
 | tl d ds=>
  obtain⟨r,v,xs,rfl,b,_,e,_⟩:=h;simp only[aj,aS,or_false] at a;rcases a with rfl | rfl
  .rw[b];show nofun
  rw[e];show nofun
 | ld f=>
  rcases aj.mp a with rfl | a
  .rw[h.1];show nofun
  show h.2.here q a
 | dt kvs=>
  obtain⟨ks,bs,b,_,_,_,c⟩:=h;rcases aj.mp a with rfl | a
  .rw[b];show nofun
  show c.here q a
 | tp ds=>
  obtain⟨rfl,xs,b,_⟩:=h;simp only[aM] at a;subst a;rw[b];show nofun
 | ob j fs=>
  obtain⟨C,i,g,b,_,_,_,_,c⟩:=h;rcases aj.mp a with rfl | a
  .rw[b];show nofun
  show c.here q a
 | dq kvs=>
  obtain⟨rfl,ks,bs,b,_⟩:=h;simp only[aM] at a;subst a;rw[b];show nofun
theorem js.mono{K:J'}{G H i H':Hp}{p:Addr}{fp:List Addr}{o:OV}(g:cq G i)(hh:∀q∈p::fp,∀u,H q=some u->H' q=some u)(h:js K G H p fp o):js K i H' p fp o:=by
 cases o with
 | ll dss=>show⟨hh p (by simp) _ h.1,h.2.mono g λq c xs=>hh q (by simp[c]) _⟩
 | dc kvs=>
  obtain⟨rfl,ks,ep,b,a⟩:=h;show⟨rfl,ks,ep,hh p (by simp) _ b,cp.mono g _ _ a⟩
 | dl kvs=>
  obtain⟨ks,ep,b,a,f,e⟩:=h;show⟨ks,ep,hh p (by simp) _ b,a,f,e.mono g λq c xs=>hh q (by simp[c]) _⟩
 | tl d ds=>
  obtain⟨r,v,xs,rfl,b,a,f,e⟩:=h;show⟨r,v,xs,rfl,hh p (by simp) _ b,a.mono g,hh r (by simp) _ f,e.mono g⟩
 | ld m=>show⟨hh p (by simp) _ h.1,h.2.mono g λq c=>hh q (by simp[c])⟩
 | dt kvs=>
  obtain⟨ks,bs,b,hk,a,f,e⟩:=h;show⟨ks,bs,hh p (by simp) _ b,hk.mono g,a,f,e.mono g λq c xs=>hh q (by simp[c]) _⟩
 | tp ds=>
  obtain⟨rfl,xs,b,a⟩:=h;show⟨rfl,xs,hh p (by simp) _ b,a.mono g⟩
 | ob n fs=>
  obtain⟨C,l,k,b,j,hn,a,f,e⟩:=h;show⟨C,l,k,hh p (by simp) _ b,j,hn,a,f,e.mono g λq c xs=>hh q (by simp[c]) _⟩
 | dq kvs=>
  obtain⟨rfl,ks,bs,b,hk,a⟩:=h;show⟨rfl,ks,bs,hh p (by simp) _ b,hk.mono g,dH.mono g _ _ a⟩
theorem cp.eL{K:J'}{G:Hp}:∀{ks:List (Key×V)}{kvs:List (Key×List D)}{fp:List Addr},ks.map (·.1)=kvs.map (·.1)->ks.map (·.2)=fp.map V.ref->bY K G (fp.map V.ref) ((kvs.map (·.2)).map D.lst)->cp K G ks (kvs.map λp=>(p.1,.lst p.2))
 | [],[],_,_,_,_=>by simp only[List.map_nil,cp]
 | a::ks,b::kvs,fp,e,c,d=>by
  simp only[av,List.cons.injEq] at e;cases fp with
  | nil=>simp at c
  | cons q fp=>
   simp only[av,List.cons.injEq] at c;simp only[av,bY] at d;simp only[av,cp];show⟨⟨e.1,by rw[c.1];show d.1⟩,cp.eL e.2 c.2 d.2⟩
 | [],_::_,_,h,_,_=>by simp at h
 | _::_,[],_,h,_,_=>by simp at h
theorem dH.eL{K:J'}{G:Hp}:∀{ks:List (List Key×V)}{kvs:List (List Key×List D)}{fp:List Addr},ks.map (·.1)=kvs.map (·.1)->ks.map (·.2)=fp.map V.ref->bY K G (fp.map V.ref) ((kvs.map (·.2)).map D.lst)->dH K G ks (kvs.map λp=>(p.1,.lst p.2))
 | [],[],_,_,_,_=>by simp only[List.map_nil,dH]
 | a::ks,b::kvs,fp,e,c,d=>by
  simp only[av,List.cons.injEq] at e;cases fp with
  | nil=>simp at c
  | cons q fp=>
   simp only[av,List.cons.injEq] at c;simp only[av,bY] at d;simp only[av,dH];show⟨⟨e.1,by rw[c.1];show d.1⟩,dH.eL e.2 c.2 d.2⟩
 | [],_::_,_,h,_,_=>by simp at h
 | _::_,[],_,h,_,_=>by simp at h
theorem gh.eL{K:J'}{G:Hp}:∀{ks:List (Str×V)}{kvs:List (Str×List D)}{fp:List Addr},ks.map (·.1)=kvs.map (·.1)->ks.map (·.2)=fp.map V.ref->bY K G (fp.map V.ref) ((kvs.map (·.2)).map D.lst)->gh K G ks (kvs.map λp=>(p.1,.lst p.2))
 | [],[],_,_,_,_=>by simp only[List.map_nil,gh]
 | a::ks,b::kvs,fp,e,c,d=>by
  simp only[av,List.cons.injEq] at e;cases fp with
  | nil=>simp at c
  | cons q fp=>
   simp only[av,List.cons.injEq] at c;simp only[av,bY] at d;simp only[av,gh];show⟨⟨e.1,by rw[c.1];show d.1⟩,gh.eL e.2 c.2 d.2⟩
 | [],_::_,_,h,_,_=>by simp at h
 | _::_,[],_,h,_,_=>by simp at h
noncomputable def mz(G H:Hp)(l:List Addr):Hp:=λa=>if a∈l then H a else G a
theorem qj{G H:Hp}{l:List Addr}{a:Addr}(h:a∈l):mz G H l a=H a:=if_pos h
theorem qi{G H:Hp}{l:List Addr}{a:Addr}(h:a∉l):mz G H l a=G a:=if_neg h
theorem xj{G H:Hp}{l:List Addr}(h:∀q∈l,G q=none):cq G (mz G H l):=λb u e=>by
 rw[qi (λz=>by rw[h b z] at e;cases e)];show e
theorem js.freeze{K:J'}{G H:Hp}{p:Addr}{fp:List Addr}{o:OV}(h:js K G H p fp o)(hn:∀q∈p::fp,G q=none):Rep K (mz G H (p::fp)) (.ref p) o.val:=by
 have c:=xj (H:=H) hn;have g:mz G H (p::fp) p=H p:=qj (by simp);cases o with
 | ll dss=>
  simp only[OV.val,Rep];show⟨p,_,rfl,kc.of (by rw[g];show h.1),h.2.lW c λq f xs e=>by rw[qj (by simp[f])];show e⟩
 | dc kvs=>
  obtain⟨rfl,ks,ep,b,a⟩:=h;simp only[OV.val,Rep];show⟨p,ks,ep,rfl,by rw[g];show b,cp.mono c _ _ a⟩
 | dl kvs=>
  obtain⟨ks,ep,b,a,j,i⟩:=h;simp only[OV.val,Rep];show⟨p,ks,ep,rfl,by rw[g];show b,cp.eL a j (i.lW c λq f xs e=>by rw[qj (by simp[f])];show e)⟩
 | tl d ds=>
  obtain⟨r,v,xs,rfl,b,a,j,i⟩:=h;simp only[OV.val,Rep];show⟨p,_,rfl,(by rw[g];show b),bY.cons (a.mono c) (bY.cons ?_ bY.nil)⟩;simp only[Rep];show⟨r,xs,rfl,kc.of (by rw[qj (by simp)];show j),i.mono c⟩
 | dt kvs=>
  obtain⟨ks,bs,b,hk,a,j,i⟩:=h;simp only[OV.val,Rep];show⟨p,ks,bs,rfl,by rw[g];show b,hk.mono c,dH.eL a j (i.lW c λq f xs e=>by rw[qj (by simp[f])];show e)⟩
 | tp ds=>
  obtain⟨rfl,xs,b,a⟩:=h;simp only[OV.val,Rep];show⟨p,xs,rfl,(by rw[g];show b),a.mono c⟩
 | ob w fs=>
  obtain⟨C,s,n,b,m,hn,a,j,i⟩:=h;simp only[OV.val,Rep];show⟨p,C,s,n,rfl,by rw[g];show b,m,λu l=>?_,gh.eL a j (i.lW c λq f xs e=>by rw[qj (by simp[f])];show e)⟩;obtain⟨v,k,rfl⟩:=aB.mp l;show hn v k
 | ld t=>
  simp only[OV.val,Rep];show⟨p,_,rfl,kc.of (by rw[g];show h.1),h.2.lW c λq f u e=>by rw[qj (by simp[f])];show e⟩
 | dq kvs=>
  obtain⟨rfl,ks,bs,b,hk,a⟩:=h;simp only[OV.val,Rep];show⟨p,ks,bs,rfl,by rw[g];show b,hk.mono c,dH.mono c _ _ a⟩
noncomputable abbrev Ev:=List Sl
noncomputable def gt:Ev->Nat->Sl
 | [],_=>.un
 | a::_,0=>a
 | _::r,n+1=>gt r n
theorem o9{b:Ev}{i j:Nat}{s:Sl}:gt (b.set i s) j=if i=j/\j<b.length then s else gt b j:=by
 induction b generalizing i j with
 | nil=>simp[gt]
 | cons a r c=>
  cases i with
  | zero=>
   cases j with
   | zero=>simp[gt]
   | succ j=>simp[gt]
  | succ i=>
   cases j with
   | zero=>simp[gt]
   | succ j=>simp[gt,c]
def dm(K:J')(a H' H:Hp)(v:V):R->Prop
 | .fz d=>Rep K a v d
 | .ow ds=>∃p xs,v=.ref p/\H p=none/\a p=none/\H' p=some (.lst xs)/\bY K a xs ds
 | .ov o=>∃p fp,v=.ref p/\(p::fp).Nodup/\js K a H' p fp o/\∀q∈p::fp,H q=none/\a q=none
structure cP(K:J')(G0 H0:Hp)(ρ:Ev)(σ:St)(G H:Hp):Prop where
 e:Ext G0 H0 G H
 len:σ.length=ρ.length
 fz:∀i d,gt ρ i=.fz d->∃v,σ[i]?=some (some v)/\Rep K G v d
 ow:∀i ds,gt ρ i=.ow ds->∃p xs,σ[i]?=some (some (.ref p))/\H p=some (.lst xs)/\G p=none/\H0 p=none/\bY K G xs ds
 dj:∀i j ds es,i≠j->gt ρ i=.ow ds->gt ρ j=.ow es->σ[i]?≠σ[j]?
 on:∃own:Addr->Option Nat,(∀i ds p,gt ρ i=.ow ds->σ[i]?=some (some (.ref p))->own p=some i)/\∀i o,gt ρ i=.ov o->∃p fp,σ[i]?=some (some (.ref p))/\(p::fp).Nodup/\js K G H p fp o/\∀q∈p::fp,G q=none/\H0 q=none/\own q=some i
section
variable{K:J'}{G0 H0 G H G' H' G2 H2:Hp}{ρ:Ev}{σ:St}{v:V}
theorem cP.ext(E:cP K G0 H0 ρ σ G H)(x:Ext G H G' H'):cP K G0 H0 ρ σ G' H' where
 e:=E.e.trans x
 len:=E.len
 fz:=λi d h=>let⟨v,b,a⟩:=E.fz i d h;⟨v,b,a.mono x.g⟩
 ow:=λi ds h=>let⟨p,xs,b,a,m,l,k⟩:=E.ow i ds h;⟨p,xs,b,x.h _ _ a,x.n p m (by rw[a];show nofun),l,k.mono x.g⟩
 dj:=E.dj
 on:=by
  obtain⟨own,b,a⟩:=E.on;show⟨own,b,λi o h=>?_⟩;obtain⟨p,fp,s,r,j,f⟩:=a i o h;show⟨p,fp,s,r,j.mono x.g λq _ u e=>x.h q u e,λq c=>⟨x.n q (f q c).1 (j.here q c),(f q c).2⟩⟩
theorem dm.freeze{r:R}(x:Ext G H G' H')(h:dm K G' H' H v r):∃G2,Ext G H G2 H'/\Rep K G2 v r.val/\cq G' G2:=by
 cases r with
 | fz d=>show⟨G',x,h,cq.refl _⟩
 | ow ds=>
  obtain⟨p,xs,j,f,a,m,l⟩:=h;show⟨upd G' p (.lst xs),⟨x.g.trans (t4 a),x.h,λb o e=>?_,λq i c=>?_⟩,?_,t4 a⟩
  .by_cases hb:b=p
   .subst hb;rw[eT] at e;rw[m];show e
   rw[cL hb] at e;show x.s b o e
  .rw[cL (λz=>c (by rw[z];show f))];show x.n q i c
  show Rep K (upd G' p (.lst xs)) v (.lst ds);simp only[Rep];show⟨p,xs,j,kc.of eT,l.mono (t4 a)⟩
 | ov o=>
  obtain⟨p,fp,rfl,j,f,a⟩:=h;have hn:∀q∈p::fp,G' q=none:=λq k=>(a q k).2
  show⟨mz G' H' (p::fp),⟨x.g.trans (xj hn),x.h,λb u e=>?_,λq i c=>?_⟩,f.freeze hn,xj hn⟩
  .by_cases hb:b∈p::fp
   .rw[qj hb] at e;show e
   rw[qi hb] at e;show x.s b u e
  rw[qi (λz=>c (a q z).1)];show x.n q i c
theorem dm.ext{r:R}{j:Hp}(x:Ext G' H' G2 H2)(h:dm K G' H' j v r):dm K G2 H2 j v r:=by
 cases r with
 | fz d=>show Rep.mono x.g v d h
 | ow ds=>
  obtain⟨p,xs,f,b,a,i,k⟩:=h;show⟨p,xs,f,b,x.n p a (by rw[i];show nofun),x.h _ _ i,k.mono x.g⟩
 | ov o=>
  obtain⟨p,fp,rfl,f,b,a⟩:=h;show⟨p,fp,rfl,f,b.mono x.g λq _ u e=>x.h q u e,λq c=>⟨(a q c).1,x.n q (a q c).2 (b.here q c)⟩⟩
theorem dm.f9{r:R}{g f:Hp}(s:cq f g)(h:dm K G' H' g v r):dm K G' H' f v r:=by
 cases r with
 | fz d=>show h
 | ow ds=>
  obtain⟨p,xs,c,b,a,j,i⟩:=h;show⟨p,xs,c,s.free b,a,j,i⟩
 | ov o=>
  obtain⟨p,fp,rfl,c,b,a⟩:=h;show⟨p,fp,rfl,c,b,λq e=>⟨s.free (a q e).1,(a q e).2⟩⟩
end
noncomputable abbrev TD:=Ev->(R->Prop)->Prop
noncomputable abbrev gX:=Ev->(Bool->Prop)->Prop
noncomputable abbrev iJ:=Ev->(List D->Prop)->Prop
structure DE where
 nx:Ev->Prop
 rt:R->Prop
 bk:Ev->Prop:=λ_=>False
 ct:Ev->Prop:=λ_=>False
noncomputable abbrev TX:=DE->Ev->Prop
def PD(X:Cx)(e:Expr)(t:TD):Prop:=∃tt,PE X e tt/\∀(a:Ev)(σ:St)(d c G H:Hp)(Q:R->Prop)(P:VK),cP X.K d c a σ G H->t a Q->
 (∀v H' r b,Ext G H b H'->dm X.K b H' H v r->Q r->P v H')->tt σ H P
def PB(X:Cx)(e:Expr)(t:gX):Prop:=∃tt,PT X e tt/\∀(a:Ev)(σ:St)(d c G H:Hp)(Q:Bool->Prop)(P:Bool->Hp->Prop),cP X.K d c a σ G H->t a Q->
 (∀b H' f,Ext G H f H'->Q b->P b H')->tt σ H P
def mP(X:Cx)(d:List Expr)(t:iJ):Prop:=∃tt,PA X d tt/\∀(a:Ev)(σ:St)(f e G H:Hp)(Q:List D->Prop)(P:List V->Hp->Prop),cP X.K f e a σ G H->t a Q->
 (∀b H' ds c,Ext G H c H'->bY X.K c b ds->Q ds->P b H')->tt σ H P
structure Goes(K:J')(G0 H0 G:Hp)(D:DE)(E:Ends):Prop where
 nx:∀ρ σ G' H',cq G G'->cP K G0 H0 ρ σ G' H'->D.nx ρ->E.nx σ H'
 rt:∀v H' r G',Ext G0 H0 G' H'->dm K G' H' H0 v r->D.rt r->E.rt v H'
 bk:∀ρ σ G' H',cq G G'->cP K G0 H0 ρ σ G' H'->D.bk ρ->E.bk σ H'
 ct:∀ρ σ G' H',cq G G'->cP K G0 H0 ρ σ G' H'->D.ct ρ->E.ct σ H'
theorem Goes.shift{K:J'}{e d G f:Hp}{D:DE}{E:Ends}(g:Goes K e d G D E)(s:cq G f):Goes K e d f D E:=
 ⟨λa σ c b s2=>g.nx a σ c b (s.trans s2),g.rt,λa σ c b s2=>g.bk a σ c b (s.trans s2),λa σ c b s2=>g.ct a σ c b (s.trans s2)⟩
def PX(X:Cx)(st:Stmt)(t:TX):Prop:=∃tt,PS X st tt/\∀(a:Ev)(σ:St)(c b G H:Hp)(D:DE)(E:Ends),cP X.K c b a σ G H->t D a->Goes X.K c b G D E->tt E σ H
def kX(X:Cx)(st:List Stmt)(t:TX):Prop:=∃tt,l8 X st tt/\∀(a:Ev)(σ:St)(c b G H:Hp)(D:DE)(E:Ends),cP X.K c b a σ G H->t D a->Goes X.K c b G D E->tt E σ H
section
variable{X:Cx}{pos:Pos}{a b c:Expr}{ta tb tc:TD}
theorem eY{K:J'}{a H' H:Hp}{v:V}{d:D}(h:Rep K a v d):dm K a H' H v (.fz d):=h
def b8(i:Nat):TD:=λa Q=>match gt a i with
 | .fz d=>Q (.fz d)
 | _=>False
theorem b9(i:Nat){x:Str}(hN:X.N[i]?=some x:=by rfl)(a:hZ X.env.scope x:=by first | show Or.inl rfl | show Or.inr (Or.inl rfl) | show Or.inr (Or.inr rfl))(hd:(x==("__debug__":Str))=false:=by decide)
  (f:(x==("__classdict__":Str))=false:=by decide):PD X (.Name x pos) (b8 i):=by
 show⟨_,iK hN a hd f,λg σ l j G H Q P E h k=>?_⟩;unfold b8 at h;split at h
 .rename_i d e;obtain⟨v,c,b⟩:=E.fz i d e;show⟨v,c,k v H (.fz d) G (.refl E.e.s) b h⟩
 show h.elim
def dC(d:D):TD:=λ_ Q=>Q (.fz d)
theorem Cj{e:Expr}{v:V}{d:D}(h:PE X e (tC v))(r:∀K G,Rep K G v d):PD X e (dC d):=
 ⟨_,h,λa σ c b G H Q P E h k=>k v H (.fz d) G (.refl E.e.s) (r _ _) h⟩
theorem jy(K:J')(G:Hp)(i:Int):Rep K G (.int i) (.int i):=by simp only[Rep]
theorem jZ(K:J')(G:Hp)(i:Bool):Rep K G (.bl i) (.bl i):=by simp only[Rep]
theorem yI(K:J')(G:Hp)(i:Str):Rep K G (.str i) (.str i):=by simp only[Rep]
theorem Eo(K:J')(G:Hp):Rep K G .non .non:=by simp only[Rep]
theorem cz{i j}:PD X (.Constant (.int i) j pos) (dC (.int i)):=Cj BY λK G=>jy K G i
theorem oj{i j}:PD X (.Constant (.bool i) j pos) (dC (.bl i)):=Cj OL λK G=>jZ K G i
theorem o8{i j}:PD X (.Constant (.str i) j pos) (dC (.str i)):=Cj JC λK G=>yI K G i
theorem o7{j}:PD X (.Constant .none j pos) (dC .non):=Cj Qp λK G=>Eo K G
noncomputable abbrev O2:=D->D->(R->Prop)->Prop
def kG(X:Cx)(f:Value->Value->Sem Value)(o:O2):Prop:=∃r:R2,gL X f r/\∀(G H:Hp)(x y:V)(d e:D)(Q:R->Prop)(P:VK),cq G H->Rep X.K G x d->Rep X.K G y e->o d e Q->
 (∀v H' a b,Ext G H b H'->dm X.K b H' H v a->Q a->P v H')->r x y H P
def cg(o:O2)(ta tb:TD):TD:=λa Q=>ta a λc=>tb a λb=>o c.val b.val Q
theorem BR{r:R2}{o:O2}{n p:TE}
  (J:∀(G H:Hp)(x y:V)(d e:D)(Q:R->Prop)(P:VK),cq G H->Rep X.K G x d->Rep X.K G y e->o d e Q->(∀v H' l a,Ext G H a H'->dm X.K a H' H v l->Q l->P v H')->r x y H P)
  (ha:∀(c:Ev)(b:St)(i f G H:Hp)(Q:R->Prop)(P:VK),cP X.K i f c b G H->ta c Q->(∀v H' r a,Ext G H a H'->dm X.K a H' H v r->Q r->P v H')->n b H P)
  (hb:∀(c:Ev)(b:St)(i f G H:Hp)(Q:R->Prop)(P:VK),cP X.K i f c b G H->tb c Q->(∀v H' r a,Ext G H a H'->dm X.K a H' H v r->Q r->P v H')->p b H P)
  (c:Ev) (b:St) (i f G H:Hp) (Q:R->Prop) (P:VK) (E:cP X.K i f c b G H) (h:cg o ta tb c Q) (k:∀v H' r a,Ext G H a H'->dm X.K a H' H v r->Q r->P v H'):zx r n p b H P:=by
 show ha c b i f G H _ _ E h λv H1 W Z z r1 N=>?_
 obtain⟨O,m,I,_⟩:=r1.freeze z;show hb c b i f O H1 _ _ (E.ext m) N λu S U Y w C M=>?_
 obtain⟨T,j,F,_⟩:=C.freeze w;show J T S v u _ _ Q P j.s (I.mono j.g) F M λA H' l a t B L=>?_
 have q:=(m.trans j).trans t;show k A H' l a q (B.f9 (m.trans j).h) L
theorem cR{op:Operator}{o:O2}(h:kG X (binaryOp op) o)(ha:PD X a ta)(hb:PD X b tb):PD X (.BinOp a op b pos) (cg o ta tb):=by
 obtain⟨r,g,f⟩:=h;obtain⟨i,e,d⟩:=ha;obtain⟨j,pb,c⟩:=hb;show⟨_,Ja g e pb,BR f d c⟩
theorem qe{op:CmpOp}{o:O2}(h:kG X (compareOp op) o)(ha:PD X a ta)(hb:PD X b tb)(hm:behindInMarks op b=false:=by first | show JA _ | rfl):PD X (.Compare a [op] [b] pos) (cg o ta tb):=by
 obtain⟨r,g,f⟩:=h;obtain⟨i,e,d⟩:=ha;obtain⟨j,pb,c⟩:=hb;show⟨_,Q8 g e pb hm,BR f d c⟩
def eR(t:TD):gX:=λa Q=>t a λr=>match r with
 | .fz (.bl k)=>Q k
 | _=>False
theorem hW{op:CmpOp}{o:O2}(n:kG X (compareOp op) o)(ha:PD X a ta)(hb:PD X b tb)(hm:behindInMarks op b=false:=by first | show JA _ | rfl):PB X (.Compare a [op] [b] pos) (eR (cg o ta tb)):=by
 obtain⟨r,m,l⟩:=n;obtain⟨t,j,i⟩:=ha;obtain⟨u,pb,g⟩:=hb;show⟨_,Q7 m j pb hm,λd σ q p G H Q P E h k=>?_⟩;show BR l i g d σ q p G H _ _ E h λv H' r s f r1 c=>?_
 split at c
 .rename_i kk;have e:v=.bl kk:=by simpa only[dm,Rep] using r1
  show⟨kk,e,k kk H' s f c⟩
 show c.elim
theorem qd{e:Expr}{t:TD}(h:PD X e t)(d:∀whole,isTrue e X.env whole=(do let v <-whole;standAt e.pos;holding [v] (truthy v)):=by intro _;rfl):PB X e (eR t):=by
 obtain⟨tt,p,q⟩:=h;show⟨_,Qo p d,λb σ g f G H Q P E h k=>?_⟩;show q b σ g f G H _ _ E h λv H' r i c r1 a=>?_
 split at a
 .rename_i kk;have e:v=.bl kk:=by simpa only[dm,Rep] using r1
  show⟨kk,e,k kk H' i c a⟩
 show a.elim
def gZ:O2:=λd e Q=>match d,e with
 | .int i,.int j=>Q (.fz (.int (i+j)))
 | .str x,.str y=>x.length+y.length<=sizeLine/\Q (.fz (.str (x++y)))
 | .lst xs,.lst ys=>xs.length+ys.length<=sizeLine/\Q (.ow (xs++ys))
 | _,_=>False
def Ov(K:J'):R2:=λx y H Q=>∃l b xs zs,x=.ref l/\y=.ref b/\kc K H l xs/\kc K H b zs/\xs.length+zs.length<=sizeLine/\∀p,H p=none->Q (.ref p) (upd H p (.lst (xs++zs)))
theorem QT:gL X (binaryOp .Add) (Ov X.K):=by
 intro w s σ H x y v u Q I f d h;obtain⟨l,b,xs,zs,rfl,rfl,g,i,hz,q⟩:=h;cases f;cases d;obtain⟨z,its,n,r,e⟩:=I.fW g;obtain⟨m,c,p,a,k⟩:=I.fW i;have t:=r.length;have o:=a.length;show PySem.P.add_list e k ?_ (by rw[ay,ay];ext);have j:its.toArray++c.toArray=(its++c).toArray:=by simp
 rw[j];show⟨.ref _,_,I.vO (t':=s.toks) (r.append a) (by rw[aL];ext),rfl,q _ I.fresh⟩
theorem yN{G H:Hp}{xs:List V}{ds:List D}{Q:R->Prop}{P:VK}(s:cq G H)(r:bY X.K G xs ds)(q:Q (.ow ds))
  (k:∀v H' b c,Ext G H c H'->dm X.K c H' H v b->Q b->P v H'):∀p,H p=none->P (.ref p) (upd H p (.lst xs)):=λp a=>
 k _ _ (.ow ds) G (.own s a) ⟨p,xs,rfl,a,s.free a,eT,r⟩ q
theorem iq:kG X (binaryOp .Add) gZ:=by
 show⟨_,vK.or (mZ.or QT),λG H x y d e Q P s f c h k=>?_⟩;unfold gZ at h;split at h
 .simp only[Rep] at f c;show .inl ⟨_,_,f,c,k _ _ _ G (.refl s) (eY (jy _ _ _)) h⟩
 .simp only[Rep] at f c;show .inr (.inl ⟨_,_,f,c,h.1,k _ _ _ G (.refl s) (eY (yI _ _ _)) h.2⟩)
 .simp only[Rep] at f c;obtain⟨a,xs,rfl,l,i⟩:=f;obtain⟨b,ys,rfl,j,g⟩:=c;show .inr (.inr ⟨_,_,_,_,rfl,rfl,s.fW l,s.fW j,by rw[i.length,g.length];show h.1,yN s (i.append g) h.2 k⟩)
 show h.elim
def oI(C:Int->Int->Prop)(g:Int->Int->D):O2:=λd e Q=>match d,e with
 | .int i,.int j=>C i j/\Q (.fz (g i j))
 | _,_=>False
def ji(g:Int->Int->D):O2:=λd e Q=>match d,e with
 | .int i,.int j=>Q (.fz (g i j))
 | _,_=>False
theorem Bw{f:Value->Value->Sem Value}{C:Int->Int->Prop}{g:Int->Int->V}{g':Int->Int->D}(h:gL X f (rI C g))(hg:∀K G i j,Rep K G (g i j) (g' i j)):kG X f (oI C g'):=by
 show⟨_,h,λG H x y d e Q P s b a h k=>?_⟩;unfold oI at h;split at h
 .simp only[Rep] at b a;show⟨_,_,b,a,h.1,k _ _ _ G (.refl s) (eY (hg _ _ _ _)) h.2⟩
 show h.elim
theorem BQ{f:Value->Value->Sem Value}{g:Int->Int->V}{g':Int->Int->D}(h:gL X f (pj g))(hg:∀K G i j,Rep K G (g i j) (g' i j)):kG X f (ji g'):=by
 show⟨_,h,λG H x y d e Q P s b a h k=>?_⟩;unfold ji at h;split at h
 .simp only[Rep] at b a;show⟨_,_,b,a,k _ _ _ G (.refl s) (eY (hg _ _ _ _)) h⟩
 show h.elim
theorem IX:kG X (binaryOp .Sub) (ji λi j=>.int (i-j)):=BQ Pg λK G i j=>jy K G _
theorem sf:kG X (binaryOp .Mult) (oI je λi j=>.int (i*j)):=Bw Pf λK G i j=>jy K G _
theorem lS:kG X (binaryOp .FloorDiv) (oI kq λi j=>.int (i/j)):=Bw Ra λK G i j=>jy K G _
theorem jh:kG X (binaryOp .Mod) (oI (λ_ j=>0<j) λi j=>.int (i%j)):=Bw Pe λK G i j=>jy K G _
theorem Bv:kG X (binaryOp .Pow) (oI rn λi j=>.int (i ^ j.toNat)):=Bw Pd λK G i j=>jy K G _
theorem Bq:kG X (compareOp .Lt) (ji λi j=>.bl (decide (i<j))):=BQ OB λK G i j=>jZ K G _
theorem IA:kG X (compareOp .LtE) (ji λi j=>.bl (decide (i<=j))):=BQ DV λK G i j=>jZ K G _
theorem yf:kG X (compareOp .Gt) (ji λi j=>.bl (decide (j<i))):=BQ OA λK G i j=>jZ K G _
end
open PySem.SeqAt
mutual
noncomputable def dD:D->D->Bool
 | .non,.non=>true
 | .bl a,.bl b=>a==b
 | .bl a,.int b=>(if a then 1 else 0)==b
 | .int a,.bl b=>a==(if b then 1 else 0)
 | .int a,.int b=>a==b
 | .str a,.str b=>a==b
 | .tup xs,.tup ys=>nF xs ys
 | .lst xs,.lst ys=>nF xs ys
 | _,_=>false
noncomputable def nF:List D->List D->Bool
 | [],[]=>true
 | x::xs,y::ys=>dD x y&&nF xs ys
 | _,_=>false
end
def eI:Nat->D->Prop
 | _,.non=>True
 | _,.bl _=>True
 | _,.int _=>True
 | _,.str _=>True
 | n+1,.tup ds=>∀d∈ds,eI n d
 | n+1,.lst ds=>∀d∈ds,eI n d
 | _,_=>False
mutual
theorem xt:∀(n:Nat)(d:D),eI n d->dD d d=true
 | n,.non,_=>by simp only[dD]
 | n,.bl _,_=>by simp only[dD,beq_self_eq_true]
 | n,.int _,_=>by simp only[dD,beq_self_eq_true]
 | n,.str _,_=>by simp only[dD,beq_self_eq_true]
 | 0,.tup ds,h=>by cases h
 | 0,.lst ds,h=>by cases h
 | n+1,.tup ds,h=>by simp only[dD];show Fy n ds h
 | n+1,.lst ds,h=>by simp only[dD];show Fy n ds h
 | 0,.obj _ _,h=>by cases h
 | n+1,.obj _ _,h=>by cases h
 | 0,.dic _,h=>by cases h
 | 0,.dit _,h=>by cases h
 | 0,.exc _ _,h=>by cases h
 | n+1,.dic _,h=>by cases h
 | n+1,.dit _,h=>by cases h
 | n+1,.exc _ _,h=>by cases h
theorem Fy:∀(n:Nat)(ds:List D),(∀d∈ds,eI n d)->nF ds ds=true
 | n,[],_=>by simp only[nF]
 | n,d::ds,h=>by simp only[nF,xt n d (h d (by simp)),Fy n ds (λe he=>h e (by simp[he])),Bool.and_self]
end
theorem yR:∀{xs ys:List D},xs.length≠ys.length->nF xs ys=false
 | [],[],h=>absurd rfl h
 | x::xs,y::ys,h=>by
  rw[nF,yR (xs:=xs) (ys:=ys) (by simpa using h),Bool.and_false]
 | [],_::_,_=>by simp only[nF]
 | _::_,[],_=>by simp only[nF]
theorem yQ:∀(xs ys:List D),xs.length=ys.length->nF xs ys=(List.range xs.length).all λj=>dD (xs.getD j .non) (ys.getD j .non)
 | [],[],_=>by simp[nF]
 | x::xs,y::ys,h=>by
  rw[nF,yQ xs ys (by simpa using h),aG,List.range_succ_eq_map,List.all_cons,List.all_map];congr 1
 | [],_::_,h=>by simp at h
 | _::_,[],h=>by simp at h
theorem EJ(xs ys:List D):((List.range (min xs.length ys.length)).all (λj=>dD (xs.getD j .non) (ys.getD j .non))&&xs.length==ys.length)=nF xs ys:=by
 by_cases h:xs.length=ys.length
 .rw[yQ xs ys h,h];simp
 rw[yR h];simp[h]
section
variable{X:Cx}{K':List (Addr×Obj)}{σ:St}{H:Hp}{s:Shared}
mutual
theorem B0(I:Inv X K' σ H s):∀(n:Nat)(d e:D)(v:V),eI n d->eI n e->Rep X.K H v d->Rep X.K H v e->d=e
 | n,.non,e,v,h,h',r,c=>by
  cases e<;>simp only[Rep] at r c<;>subst r<;>first | rfl | (simp at c;done) | (simp only[V.bl.injEq,V.int.injEq,V.str.injEq] at c;rw[c])
 | n,.bl b,e,v,h,h',r,c=>by
  cases e<;>simp only[Rep] at r c<;>subst r<;>first | rfl | (simp at c;done) | (simp only[V.bl.injEq,V.int.injEq,V.str.injEq] at c;rw[c])
 | n,.int b,e,v,h,h',r,c=>by
  cases e<;>simp only[Rep] at r c<;>subst r<;>first | rfl | (simp at c;done) | (simp only[V.bl.injEq,V.int.injEq,V.str.injEq] at c;rw[c])
 | n,.str b,e,v,h,h',r,c=>by
  cases e<;>simp only[Rep] at r c<;>subst r<;>first | rfl | (simp at c;done) | (simp only[V.bl.injEq,V.int.injEq,V.str.injEq] at c;rw[c])
 | 0,.tup ds,e,v,h,h',r,c=>by cases h
 | 0,.lst ds,e,v,h,h',r,c=>by cases h
 | n+1,.tup ds,e,v,h,h',r,c=>by
  simp only[Rep] at r;obtain⟨a,xs,rfl,q,rs⟩:=r;cases e<;>simp only[Rep] at c
  case tup j=>
   obtain⟨b,ys,i,f,g⟩:=c;cases i;rw[I.g6 (dF.of f) (dF.of q)] at g;rw[EY I n ds j xs h h' rs g]
  case lst j=>
   obtain⟨b,ys,i,f,g⟩:=c;cases i;obtain⟨its,_,ht,_⟩:=I.tuple (dF.of q);obtain⟨its',_,k,_⟩:=I.list f.sq;show absurd rfl (ne_of_list_tuple k.isList (show s.heap.IsTuple a its.toArray from ht))
  case obj=>cases h'
  case dic=>cases h'
  case dit=>cases h'
  case exc=>cases h'
  all_goals cases c
 | n+1,.lst ds,e,v,h,h',r,c=>by
  simp only[Rep] at r;obtain⟨a,xs,rfl,q,rs⟩:=r;cases e<;>simp only[Rep] at c
  case lst j=>
   obtain⟨b,ys,i,f,g⟩:=c;cases i;rw[I.gQ f.sq q.sq] at g;rw[EY I n ds j xs h h' rs g]
  case tup j=>
   obtain⟨b,ys,i,f,g⟩:=c;cases i;obtain⟨its,_,ht,_⟩:=I.tuple (dF.of f);obtain⟨its',_,k,_⟩:=I.list q.sq;show absurd rfl (ne_of_list_tuple k.isList (show s.heap.IsTuple a its.toArray from ht))
  case obj=>cases h'
  case dic=>cases h'
  case dit=>cases h'
  case exc=>cases h'
  all_goals cases c
 | 0,.obj _ _,_,_,h,_,_,_=>by cases h
 | n+1,.obj _ _,_,_,h,_,_,_=>by cases h
 | 0,.dic _,_,_,h,_,_,_=>by cases h
 | 0,.dit _,_,_,h,_,_,_=>by cases h
 | 0,.exc _ _,_,_,h,_,_,_=>by cases h
 | n+1,.dic _,_,_,h,_,_,_=>by cases h
 | n+1,.dit _,_,_,h,_,_,_=>by cases h
 | n+1,.exc _ _,_,_,h,_,_,_=>by cases h
theorem EY(I:Inv X K' σ H s):∀(n:Nat)(ds a:List D)(b:List V),(∀d∈ds,eI n d)->(∀d∈a,eI n d)->bY X.K H b ds->bY X.K H b a->ds=a
 | n,[],[],_,_,_,_,_=>rfl
 | n,d::ds,e::a,v::b,h,h',r,c=>by
  simp only[bY] at r c;rw[B0 I n d e v (h d (by simp)) (h' e (by simp)) r.1 c.1,EY I n ds a b (λx f=>h x (by simp[f])) (λx f=>h' x (by simp[f])) r.2 c.2]
 | n,[],_::_,[],_,_,_,r=>by simp only[bY] at r
 | n,[],_::_,_::_,_,_,r,_=>by simp only[bY] at r
 | n,_::_,[],[],_,_,r,_=>by simp only[bY] at r
 | n,_::_,[],_::_,_,_,_,r=>by simp only[bY] at r
 | n,_::_,_::_,[],_,_,r,_=>by simp only[bY] at r
end
theorem om{a:List V}{ds:List D}{us:List Value}{j:Nat}(e:Vals a us)(f:bY X.K H a ds)(k:j<us.toArray.size):∃v,RelV v us.toArray[j]/\Rep X.K H v (ds.getD j .non)/\ds.getD j .non∈ds:=by
 have h:j<us.length:=by simpa using k
 have c:j<a.length:=by rw[e.length];show h
 have b:j<ds.length:=by rw[<-f.length];show c
 obtain⟨u,g,i⟩:=e.get (ag c);obtain⟨d,hd,l⟩:=f.AZ (ag c);rw[ag h] at g;rw[ag b] at hd;cases g;cases hd;show⟨a[j],?_,?_,?_⟩
 .simpa using i
 .simpa[List.getD,b] using l
 simp[List.getD,b]
noncomputable def wR:D->Bool
 | .non=>true
 | .bl _=>true
 | .int _=>true
 | .str _=>true
 | _=>false
theorem Kn{d e:D}{x y:V}(hd:wR d=true)(c:wR e=true)(b:Rep X.K H x d)(a:Rep X.K H y e):BL x=true/\BL y=true/\Ie x y=dD d e:=by
 cases d<;>first | cases hd | skip
 all_goals (cases e<;>first | cases c | skip)
 all_goals
  simp only[Rep] at b a;subst b a;show⟨rfl,rfl,by simp[Ie,dD]⟩
theorem yx(I:Inv X Z σ H s):∀(n:Nat)(A:Around)(d e:D)(x y:V)(v u:Value),eI n d->eI n e->A.units+n<cLine->Rep X.K H x d->Rep X.K H y e->RelV x v->RelV y u->EqAt A s v u (dD d e):=by
 intro n;induction n with
 | zero=>
  intro A d e x y v u hd he Y f c l k;have fd:wR d=true:=by cases d<;>first | rfl | cases hd
  have L:wR e=true:=by cases e<;>first | rfl | cases he
  obtain⟨C,B,M⟩:=Kn fd L f c;rw[<-M];show Jw l k C B
 | succ n W=>
  intro A d e x y v u hd he Y f c l k;have i:A.units<cLine:=by ext
  have U:A.in1.units+n<cLine:=by show A.units+1+n<cLine;ext
  by_cases fd:wR d=true
  .by_cases L:wR e=true
   .obtain⟨C,B,M⟩:=Kn fd L f c;rw[<-M];show Jw l k C B
   cases e<;>first | show absurd rfl L | skip
   case tup m=>
    simp only[Rep] at c;obtain⟨b,ys,rfl,q,rs⟩:=c;cases k;obtain⟨its,p,ht,_⟩:=I.tuple (dF.of q);have g:s.heap.IsTuple b its.toArray:=ht;cases d<;>first | cases fd | skip
    .simp only[Rep] at f;subst f;cases l;simpa only[dD] using EqAt.none_tuple g i
    .simp only[Rep] at f;subst f;cases l;simpa only[dD] using EqAt.bool_tuple _ g i
    .simp only[Rep] at f;subst f;obtain⟨t,rfl⟩:=l;simpa only[dD] using EqAt.int_tuple _ t g i
    simp only[Rep] at f;subst f;obtain⟨t,rfl⟩:=l;simpa only[dD] using EqAt.str_tuple _ t g i
   case lst m=>
    simp only[Rep] at c;obtain⟨b,ys,rfl,q,rs⟩:=c;cases k;obtain⟨its,p,ht,_⟩:=I.list q.sq;have g:=ht.isList;cases d<;>first | cases fd | skip
    .simp only[Rep] at f;subst f;cases l;simpa only[dD] using EqAt.none_list g i
    .simp only[Rep] at f;subst f;cases l;simpa only[dD] using EqAt.bool_list _ g i
    .simp only[Rep] at f;subst f;obtain⟨t,rfl⟩:=l;simpa only[dD] using EqAt.int_list _ t g i
    simp only[Rep] at f;subst f;obtain⟨t,rfl⟩:=l;simpa only[dD] using EqAt.str_list _ t g i
   case obj=>cases he
   case dic=>cases he
   case dit=>cases he
   case exc=>cases he
  cases d<;>first | show absurd rfl fd | skip
  case tup ds=>
   have S:=f;simp only[Rep] at f;obtain⟨a,xs,rfl,q,rs⟩:=f;cases l;obtain⟨its,p,ht,_⟩:=I.tuple (dF.of q);have g:s.heap.IsTuple a its.toArray:=ht;cases e
   case non=>simp only[Rep] at c;subst c;cases k;simpa only[dD] using EqAt.tuple_none g i
   case bl=>simp only[Rep] at c;subst c;cases k;simpa only[dD] using EqAt.tuple_bool _ g i
   case int=>simp only[Rep] at c;subst c;obtain⟨t,rfl⟩:=k;simpa only[dD] using EqAt.tuple_int _ t g i
   case str=>simp only[Rep] at c;subst c;obtain⟨t,rfl⟩:=k;simpa only[dD] using EqAt.tuple_str _ t g i
   case lst m=>
    simp only[Rep] at c;obtain⟨b,ys,rfl,r,z⟩:=c;cases k;obtain⟨its',w,o,_⟩:=I.list r.sq;simpa only[dD] using EqAt.tuple_list g o.isList i
   case tup m=>
    have T:=c;simp only[Rep] at c;obtain⟨b,ys,rfl,r,z⟩:=c;cases k;obtain⟨its',w,J,_⟩:=I.tuple (dF.of r);by_cases F:a=b
    .subst F;have N:=B0 I (n+1) _ _ _ hd he S T;rw[<-N,xt (n+1) _ hd];show EqAt.same _
    show EqAt.of_refs F ?_;have h:=RcAt.tuples (e:=λj=>dD (ds.getD j .non) (m.getD j .non)) g (show s.heap.IsTuple b its'.toArray from J) i λj C B=>by
     obtain⟨v1,a1,R,P⟩:=om p rs C;obtain⟨v2,a2,Q,O⟩:=om w z B;show W A.in1 _ _ v1 v2 _ _ (hd _ P) (he _ O) U R Q a1 a2
    have E:its.toArray.size=ds.length:=by rw[ay,<-p.length,rs.length]
    have G:its'.toArray.size=m.length:=by rw[ay,<-w.length,z.length]
    rw[E,G,EJ] at h;simpa only[dD] using h
   case obj=>cases he
   case dic=>cases he
   case dit=>cases he
   case exc=>cases he
  case lst ds=>
   have S:=f;simp only[Rep] at f;obtain⟨a,xs,rfl,q,rs⟩:=f;cases l;obtain⟨its,p,ht,_⟩:=I.list q.sq;have g:=ht.isList;cases e
   case non=>simp only[Rep] at c;subst c;cases k;simpa only[dD] using EqAt.list_none g i
   case bl=>simp only[Rep] at c;subst c;cases k;simpa only[dD] using EqAt.list_bool _ g i
   case int=>simp only[Rep] at c;subst c;obtain⟨t,rfl⟩:=k;simpa only[dD] using EqAt.list_int _ t g i
   case str=>simp only[Rep] at c;subst c;obtain⟨t,rfl⟩:=k;simpa only[dD] using EqAt.list_str _ t g i
   case tup m=>
    simp only[Rep] at c;obtain⟨b,ys,rfl,r,z⟩:=c;cases k;obtain⟨its',w,o,_⟩:=I.tuple (dF.of r);simpa only[dD] using EqAt.list_tuple g (show s.heap.IsTuple b its'.toArray from o) i
   case lst m=>
    have T:=c;simp only[Rep] at c;obtain⟨b,ys,rfl,r,z⟩:=c;cases k;obtain⟨its',w,J,_⟩:=I.list r.sq;by_cases F:a=b
    .subst F;have N:=B0 I (n+1) _ _ _ hd he S T;rw[<-N,xt (n+1) _ hd];show EqAt.same _
    show EqAt.of_refs F ?_;have E:its.toArray.size=ds.length:=by rw[ay,<-p.length,rs.length]
    have G:its'.toArray.size=m.length:=by rw[ay,<-w.length,z.length]
    by_cases o:ds.length=m.length
    .have h:=RcAt.lists (e:=λj=>dD (ds.getD j .non) (m.getD j .non)) g J.isList (by rw[E,G,o]) i λj C B=>by
      obtain⟨v1,a1,R,P⟩:=om p rs C;obtain⟨v2,a2,Q,O⟩:=om w z B;show W A.in1 _ _ v1 v2 _ _ (hd _ P) (he _ O) U R Q a1 a2
     rw[E,<-yQ ds m o] at h;simpa only[dD] using h
    have h:=RcAt.lists_lengths (A:=A) g J.isList (by rw[E,G];simpa using o) i;simp only[dD,yR o];show h
   case obj=>cases he
   case dic=>cases he
   case dit=>cases he
   case exc=>cases he
  case obj=>cases hd
  case dic=>cases hd
  case dit=>cases hd
  case exc=>cases hd
end
section
variable{X:Cx}{K':List (Addr×Obj)}{σ:St}{H:Hp}{s:Shared}
theorem pC{y:V}{u:Value}(r:Rep X.K H y .non)(q:RelV y u):u=.none:=by simp only[Rep] at r;subst r;cases q;rfl
theorem pE{y:V}{u:Value}{c:Bool}(r:Rep X.K H y (.bl c))(q:RelV y u):u=.bool c:=by simp only[Rep] at r;subst r;cases q;rfl
theorem pD{y:V}{u:Value}{i:Int}(r:Rep X.K H y (.int i))(q:RelV y u):∃t,u=.int i t:=by simp only[Rep] at r;subst r;show q
theorem pB{y:V}{u:Value}{x:Str}(r:Rep X.K H y (.str x))(q:RelV y u):∃t,u=.str x t:=by simp only[Rep] at r;subst r;show q
theorem rP{y:V}{u:Value}{a:List D}(I:Inv X K' σ H s)(r:Rep X.K H y (.tup a))(q:RelV y u):∃b it,u=.ref b/\s.heap.IsTuple b (List.toArray it):=by
 simp only[Rep] at r;obtain⟨b,ys,rfl,h,_⟩:=r;cases q;obtain⟨it,_,ht,_⟩:=I.tuple (dF.of h);show⟨b,it,rfl,ht⟩
theorem rQ{y:V}{u:Value}{a:List D}(I:Inv X K' σ H s)(r:Rep X.K H y (.lst a))(q:RelV y u):∃b it,u=.ref b/\s.heap.IsList b (List.toArray it):=by
 simp only[Rep] at r;obtain⟨b,ys,rfl,h,_⟩:=r;cases q;obtain⟨it,_,ht,_⟩:=I.list h.sq;show⟨b,it,rfl,ht.isList⟩
theorem O1(I:Inv X K' σ H s):∀(n:Nat)(A:Around)(d e:D)(x y:V)(v u:Value),eI n d->eI n e->A.units+n<cLine->Rep X.K H x d->Rep X.K H y e->RelV x v->RelV y u->RcAt A s v u (dD d e):=by
 intro n A d e x y v u hd he P l c o f;have i:A.units<cLine:=by ext
 cases d
 case non=>
  simp only[Rep] at l;subst l;cases o;cases e
  case non=>cases pC c f;show RcAt.none_none
  case bl=>cases pE c f;show RcAt.none_bool _
  case int=>obtain⟨t,rfl⟩:=pD c f;show RcAt.none_int _ t
  case str=>obtain⟨t,rfl⟩:=pB c f;show RcAt.none_str _ t
  case tup=>obtain⟨b,it,rfl,g⟩:=rP I c f;show RcAt.none_tuple g i
  case lst=>obtain⟨b,it,rfl,g⟩:=rQ I c f;show RcAt.none_list g i
  all_goals (cases n<;>cases he)
 case bl a=>
  simp only[Rep] at l;subst l;cases o;cases e
  case non=>cases pC c f;show RcAt.bool_none _
  case bl=>cases pE c f;show RcAt.bool_bool _ _
  case int=>obtain⟨t,rfl⟩:=pD c f;show RcAt.bool_int _ _ t
  case str=>obtain⟨t,rfl⟩:=pB c f;show RcAt.bool_str _ _ t
  case tup=>obtain⟨b,it,rfl,g⟩:=rP I c f;show RcAt.bool_tuple _ g i
  case lst=>obtain⟨b,it,rfl,g⟩:=rQ I c f;show RcAt.bool_list _ g i
  all_goals (cases n<;>cases he)
 case int a=>
  simp only[Rep] at l;subst l;obtain⟨t0,rfl⟩:=o;cases e
  case non=>cases pC c f;show RcAt.int_none _ t0
  case bl=>cases pE c f;show RcAt.int_bool _ t0 _
  case int=>obtain⟨t,rfl⟩:=pD c f;show RcAt.int_int _ t0 _ t
  case str=>obtain⟨t,rfl⟩:=pB c f;show RcAt.int_str _ t0 _ t
  case tup=>obtain⟨b,it,rfl,g⟩:=rP I c f;show RcAt.int_tuple _ t0 g i
  case lst=>obtain⟨b,it,rfl,g⟩:=rQ I c f;show RcAt.int_list _ t0 g i
  all_goals (cases n<;>cases he)
 case str a=>
  simp only[Rep] at l;subst l;obtain⟨t0,rfl⟩:=o;cases e
  case non=>cases pC c f;show RcAt.str_none _ t0
  case bl=>cases pE c f;show RcAt.str_bool _ t0 _
  case int=>obtain⟨t,rfl⟩:=pD c f;show RcAt.str_int _ t0 _ t
  case str=>obtain⟨t,rfl⟩:=pB c f;show RcAt.str_str _ t0 _ t
  case tup=>obtain⟨b,it,rfl,g⟩:=rP I c f;show RcAt.str_tuple _ t0 g i
  case lst=>obtain⟨b,it,rfl,g⟩:=rQ I c f;show RcAt.str_list _ t0 g i
  all_goals (cases n<;>cases he)
 case tup ds=>
  cases n with
  | zero=>cases hd
  | succ n=>
  have F:A.in1.units+n<cLine:=by show A.units+1+n<cLine;ext
  simp only[Rep] at l;obtain⟨a,xs,rfl,q,rs⟩:=l;cases o;obtain⟨its,p,ht,_⟩:=I.tuple (dF.of q);have k:s.heap.IsTuple a its.toArray:=ht;cases e
  case non=>cases pC c f;show RcAt.tuple_none k i
  case bl=>cases pE c f;show RcAt.tuple_bool _ k i
  case int=>obtain⟨t,rfl⟩:=pD c f;show RcAt.tuple_int _ t k i
  case str=>obtain⟨t,rfl⟩:=pB c f;show RcAt.tuple_str _ t k i
  case lst m=>obtain⟨b,it,rfl,g⟩:=rQ I c f;show RcAt.tuple_list k g i
  case tup m=>
   simp only[Rep] at c;obtain⟨b,ys,rfl,G,z⟩:=c;cases f;obtain⟨its',w,C,_⟩:=I.tuple (dF.of G);have h:=RcAt.tuples (e:=λj=>dD (ds.getD j .non) (m.getD j .non)) k (show s.heap.IsTuple b its'.toArray from C) i λj J g=>by
    obtain⟨v1,a1,O,M⟩:=om p rs J;obtain⟨v2,a2,N,L⟩:=om w z g;show yx I n A.in1 _ _ v1 v2 _ _ (hd _ M) (he _ L) F O N a1 a2
   have r:its.toArray.size=ds.length:=by rw[ay,<-p.length,rs.length]
   have B:its'.toArray.size=m.length:=by rw[ay,<-w.length,z.length]
   rw[r,B,EJ] at h;simpa only[dD] using h
  all_goals cases he
 case lst ds=>
  cases n with
  | zero=>cases hd
  | succ n=>
  have F:A.in1.units+n<cLine:=by show A.units+1+n<cLine;ext
  simp only[Rep] at l;obtain⟨a,xs,rfl,q,rs⟩:=l;cases o;obtain⟨its,p,ht,_⟩:=I.list q.sq;have k:=ht.isList;cases e
  case non=>cases pC c f;show RcAt.list_none k i
  case bl=>cases pE c f;show RcAt.list_bool _ k i
  case int=>obtain⟨t,rfl⟩:=pD c f;show RcAt.list_int _ t k i
  case str=>obtain⟨t,rfl⟩:=pB c f;show RcAt.list_str _ t k i
  case tup m=>obtain⟨b,it,rfl,g⟩:=rP I c f;show RcAt.list_tuple k g i
  case lst m=>
   simp only[Rep] at c;obtain⟨b,ys,rfl,G,z⟩:=c;cases f;obtain⟨its',w,C,_⟩:=I.list G.sq;have r:its.toArray.size=ds.length:=by rw[ay,<-p.length,rs.length]
   have B:its'.toArray.size=m.length:=by rw[ay,<-w.length,z.length]
   by_cases E:ds.length=m.length
   .have h:=RcAt.lists (e:=λj=>dD (ds.getD j .non) (m.getD j .non)) k C.isList (by rw[r,B,E]) i λj J g=>by
     obtain⟨v1,a1,O,M⟩:=om p rs J;obtain⟨v2,a2,N,L⟩:=om w z g;show yx I n A.in1 _ _ v1 v2 _ _ (hd _ M) (he _ L) F O N a1 a2
    rw[r,<-yQ ds m E] at h;simpa only[dD] using h
   have h:=RcAt.lists_lengths (A:=A) k C.isList (by rw[r,B];simpa using E) i;simp only[dD,yR E];show h
  all_goals cases he
 all_goals (cases n<;>cases hd)
theorem Sq(I:Inv X K' σ H s):∀(n:Nat)(A:Around)(d e:D)(x y:V)(v u:Value),eI n d->eI n e->A.units+n<cLine->Rep X.K H x d->Rep X.K H y e->RelV x v->RelV y u->RcNeAt A s v u (!dD d e):=by
 intro n A d e x y v u hd he P l c o f;have i:A.units<cLine:=by ext
 cases d
 case non=>
  simp only[Rep] at l;subst l;cases o;cases e
  case non=>cases pC c f;show RcNeAt.none_none
  case bl=>cases pE c f;show RcNeAt.none_bool _
  case int=>obtain⟨t,rfl⟩:=pD c f;show RcNeAt.none_int _ t
  case str=>obtain⟨t,rfl⟩:=pB c f;show RcNeAt.none_str _ t
  case tup=>obtain⟨b,it,rfl,g⟩:=rP I c f;show RcNeAt.none_tuple g i
  case lst=>obtain⟨b,it,rfl,g⟩:=rQ I c f;show RcNeAt.none_list g i
  all_goals (cases n<;>cases he)
 case bl a=>
  simp only[Rep] at l;subst l;cases o;cases e
  case non=>cases pC c f;show RcNeAt.bool_none _
  case bl=>cases pE c f;show RcNeAt.bool_bool _ _
  case int=>obtain⟨t,rfl⟩:=pD c f;show RcNeAt.bool_int _ _ t
  case str=>obtain⟨t,rfl⟩:=pB c f;show RcNeAt.bool_str _ _ t
  case tup=>obtain⟨b,it,rfl,g⟩:=rP I c f;show RcNeAt.bool_tuple _ g i
  case lst=>obtain⟨b,it,rfl,g⟩:=rQ I c f;show RcNeAt.bool_list _ g i
  all_goals (cases n<;>cases he)
 case int a=>
  simp only[Rep] at l;subst l;obtain⟨t0,rfl⟩:=o;cases e
  case non=>cases pC c f;show RcNeAt.int_none _ t0
  case bl=>cases pE c f;show RcNeAt.int_bool _ t0 _
  case int=>obtain⟨t,rfl⟩:=pD c f;show RcNeAt.int_int _ t0 _ t
  case str=>obtain⟨t,rfl⟩:=pB c f;show RcNeAt.int_str _ t0 _ t
  case tup=>obtain⟨b,it,rfl,g⟩:=rP I c f;show RcNeAt.int_tuple _ t0 g i
  case lst=>obtain⟨b,it,rfl,g⟩:=rQ I c f;show RcNeAt.int_list _ t0 g i
  all_goals (cases n<;>cases he)
 case str a=>
  simp only[Rep] at l;subst l;obtain⟨t0,rfl⟩:=o;cases e
  case non=>cases pC c f;show RcNeAt.str_none _ t0
  case bl=>cases pE c f;show RcNeAt.str_bool _ t0 _
  case int=>obtain⟨t,rfl⟩:=pD c f;show RcNeAt.str_int _ t0 _ t
  case str=>obtain⟨t,rfl⟩:=pB c f;show RcNeAt.str_str _ t0 _ t
  case tup=>obtain⟨b,it,rfl,g⟩:=rP I c f;show RcNeAt.str_tuple _ t0 g i
  case lst=>obtain⟨b,it,rfl,g⟩:=rQ I c f;show RcNeAt.str_list _ t0 g i
  all_goals (cases n<;>cases he)
 case tup ds=>
  cases n with
  | zero=>cases hd
  | succ n=>
  have F:A.in1.units+n<cLine:=by show A.units+1+n<cLine;ext
  simp only[Rep] at l;obtain⟨a,xs,rfl,q,rs⟩:=l;cases o;obtain⟨its,p,ht,_⟩:=I.tuple (dF.of q);have k:s.heap.IsTuple a its.toArray:=ht;cases e
  case non=>cases pC c f;show RcNeAt.tuple_none k i
  case bl=>cases pE c f;show RcNeAt.tuple_bool _ k i
  case int=>obtain⟨t,rfl⟩:=pD c f;show RcNeAt.tuple_int _ t k i
  case str=>obtain⟨t,rfl⟩:=pB c f;show RcNeAt.tuple_str _ t k i
  case lst m=>obtain⟨b,it,rfl,g⟩:=rQ I c f;show RcNeAt.tuple_list k g i
  case tup m=>
   simp only[Rep] at c;obtain⟨b,ys,rfl,G,z⟩:=c;cases f;obtain⟨its',w,C,_⟩:=I.tuple (dF.of G);have h:=RcNeAt.tuples (e:=λj=>dD (ds.getD j .non) (m.getD j .non)) k (show s.heap.IsTuple b its'.toArray from C) i λj J g=>by
    obtain⟨v1,a1,O,M⟩:=om p rs J;obtain⟨v2,a2,N,L⟩:=om w z g;show yx I n A.in1 _ _ v1 v2 _ _ (hd _ M) (he _ L) F O N a1 a2
   have r:its.toArray.size=ds.length:=by rw[ay,<-p.length,rs.length]
   have B:its'.toArray.size=m.length:=by rw[ay,<-w.length,z.length]
   rw[r,B,EJ] at h;simpa only[dD] using h
  all_goals cases he
 case lst ds=>
  cases n with
  | zero=>cases hd
  | succ n=>
  have F:A.in1.units+n<cLine:=by show A.units+1+n<cLine;ext
  simp only[Rep] at l;obtain⟨a,xs,rfl,q,rs⟩:=l;cases o;obtain⟨its,p,ht,_⟩:=I.list q.sq;have k:=ht.isList;cases e
  case non=>cases pC c f;show RcNeAt.list_none k i
  case bl=>cases pE c f;show RcNeAt.list_bool _ k i
  case int=>obtain⟨t,rfl⟩:=pD c f;show RcNeAt.list_int _ t k i
  case str=>obtain⟨t,rfl⟩:=pB c f;show RcNeAt.list_str _ t k i
  case tup m=>obtain⟨b,it,rfl,g⟩:=rP I c f;show RcNeAt.list_tuple k g i
  case lst m=>
   simp only[Rep] at c;obtain⟨b,ys,rfl,G,z⟩:=c;cases f;obtain⟨its',w,C,_⟩:=I.list G.sq;have r:its.toArray.size=ds.length:=by rw[ay,<-p.length,rs.length]
   have B:its'.toArray.size=m.length:=by rw[ay,<-w.length,z.length]
   by_cases E:ds.length=m.length
   .have h:=RcNeAt.lists (e:=λj=>dD (ds.getD j .non) (m.getD j .non)) k C.isList (by rw[r,B,E]) i λj J g=>by
     obtain⟨v1,a1,O,M⟩:=om p rs J;obtain⟨v2,a2,N,L⟩:=om w z g;show yx I n A.in1 _ _ v1 v2 _ _ (hd _ M) (he _ L) F O N a1 a2
    rw[r,<-yQ ds m E] at h;simpa only[dD] using h
   have h:=RcNeAt.lists_lengths (A:=A) k C.isList (by rw[r,B];simpa using E) i;simp only[dD,yR E];show h
  all_goals cases he
 all_goals (cases n<;>cases hd)
end
section
variable{X:Cx}
def oEq:O2:=λd e Q=>eI 9 d/\eI 9 e/\Q (.fz (.bl (dD d e)))
def ue:O2:=λd e Q=>eI 9 d/\eI 9 e/\Q (.fz (.bl (!dD d e)))
theorem my(f:X.A.units+64<cLine):kG X (compareOp .Eq) oEq:=by
 show⟨λx y H Q=>∃d e,eI 9 d/\eI 9 e/\Rep X.K H x d/\Rep X.K H y e/\Q (.bl (dD d e)) H,λg s σ H x y v u Q I b a h=>?_,λG H x y d e Q P s b a h k=>?_⟩
 .obtain⟨d,e,hd,he,c,re,q⟩:=h;show O1 I 9 X.A d e x y v u hd he (by ext) c re b a _ _ _ _ ⟨.bl _,H,I,rfl,q⟩
 show⟨d,e,h.1,h.2.1,b.mono s,a.mono s,k _ _ _ G (.refl s) (eY (jZ _ _ _)) h.2.2⟩
theorem wK(f:X.A.units+64<cLine):kG X (compareOp .NotEq) ue:=by
 show⟨λx y H Q=>∃d e,eI 9 d/\eI 9 e/\Rep X.K H x d/\Rep X.K H y e/\Q (.bl (!dD d e)) H,λg s σ H x y v u Q I b a h=>?_,λG H x y d e Q P s b a h k=>?_⟩
 .obtain⟨d,e,hd,he,c,re,q⟩:=h;show Sq I 9 X.A d e x y v u hd he (by ext) c re b a _ _ _ _ ⟨.bl _,H,I,rfl,q⟩
 show⟨d,e,h.1,h.2.1,b.mono s,a.mono s,k _ _ _ G (.refl s) (eY (jZ _ _ _)) h.2.2⟩
noncomputable def inD(d:D)(ds:List D):Bool:=ds.any λe=>dD e d
def Bp(a:Bool):O2:=λd e Q=>match d,e with
 | .str x,.str y=>Q (.fz (.bl (if a then !(!(Builtin.Str.occurrences y x 0 y.length 1).isEmpty) else !(Builtin.Str.occurrences y x 0 y.length 1).isEmpty)))
 | d,.lst b=>eI 8 d/\(∀e∈b,eI 8 e)/\Q (.fz (.bl (if a then !inD d b else inD d b)))
 | d,.tup b=>eI 8 d/\(∀e∈b,eI 8 e)/\Q (.fz (.bl (if a then !inD d b else inD d b)))
 | _,_=>False
noncomputable def mM(X:Cx)(H:Hp)(d:D)(u:Value):Bool:=open Classical in if h:∃(v:V)(e:D),eI 8 e/\RelV v u/\Rep X.K H v e then dD h.choose_spec.choose d else false
theorem Jq{q:List (Addr×Obj)}{i:St}{H:Hp}{s:Shared}(I:Inv X q i H s){d e:D}{v:V}{u:Value}(g:eI 8 e)(c:RelV v u)(f:Rep X.K H v e):mM X H d u=dD e d:=by
 have h:∃(v:V)(e:D),eI 8 e/\RelV v u/\Rep X.K H v e:=⟨v,e,g,c,f⟩
 unfold mM;rw[dif_pos h];obtain⟨n,m,l⟩:=h.choose_spec.choose_spec;have p:h.choose=v:=RelV.inj m c;have k:∀b,b=v->∀a,eI 8 a->Rep X.K H b a->a=e:=λb j a o r=>by subst j;show B0 I 8 _ e _ o g r f
 rw[k _ p _ n l]
theorem yw{i:List (Addr×Obj)}{f:St}{H:Hp}{s:Shared}(I:Inv X i f H s){d:D}:∀{a:List D}{c:List V}{us:List Value},(∀e∈a,eI 8 e)->Vals c us->bY X.K H c a->us.any (mM X H d)=inD d a
 | [],_,_,_,b,re=>by
  cases b
  .rfl
  simp only[bY] at re
 | e::a,_,_,h,b,re=>by
  cases b with
  | nil=>simp only[bY] at re
  | cons r t=>
   simp only[bY] at re;rw[List.any_cons,Jq I (h e (by simp)) r re.1,yw I (λx g=>h x (by simp[g])) t re.2];rfl
theorem Ci{p:List (Addr×Obj)}{h:St}{H:Hp}{s:Shared}{A:Around}(I:Inv X p h H s){d:D}{x:V}{v:Value}(hd:eI 8 d)(n:A.units+8<cLine)(i:Rep X.K H x d)(m:RelV x v){c:List D}{a:List V}{us:List Value}
  (b:∀e∈c,eI 8 e) (k:Vals a us) (l:bY X.K H a c):∀u∈us.toArray,EqAt A s u v (mM X H d u):=λu q=>by
 obtain⟨j,o,e⟩:=Array.mem_iff_getElem.mp q;obtain⟨w,a1,g,f⟩:=om k l o;rw[e] at a1;rw[Jq I (b _ f) a1 g];show yx I 8 A _ _ w x _ _ (b _ f) hd n g i a1 m
theorem ZV(j:X.A.units+64<cLine):gL X (compareOp .In) (λx y H Q=>∃p d c b,y=.ref p/\(eh X.K H p b\/dF X.K H p b)/\eI 8 d/\(∀e∈c,eI 8 e)/\Rep X.K H x d/\bY X.K H b c/\Q (.bl (inD d c)) H):=by
 intro k s σ H x y v u Q I f i h;obtain⟨p,d,c,b,rfl,a,hd,he,g,re,q⟩:=h;cases i;rcases a with a | a
 .obtain⟨its,r,pl,hz⟩:=I.list a;show SeqAt.in_listAt (mM X H d) pl.isList (Ci I hd (by show X.A.units+1+8<cLine;ext) g f he r re) ⟨.bl _,H,I,rfl,?_⟩;rw[show its.toArray.any (mM X H d)=its.any (mM X H d) by simp,yw I he r re];show q
 obtain⟨its,r,pl,hz⟩:=I.tuple a;show SeqAt.in_tupleAt (mM X H d) pl (Ci I hd (by show X.A.units+1+8<cLine;ext) g f he r re) ⟨.bl _,H,I,rfl,?_⟩;rw[show its.toArray.any (mM X H d)=its.any (mM X H d) by simp,yw I he r re];show q
theorem UH(j:X.A.units+64<cLine):gL X (compareOp .NotIn) (λx y H Q=>∃p d c b,y=.ref p/\(eh X.K H p b\/dF X.K H p b)/\eI 8 d/\(∀e∈c,eI 8 e)/\Rep X.K H x d/\bY X.K H b c/\Q (.bl (!inD d c)) H):=by
 intro k s σ H x y v u Q I f i h;obtain⟨p,d,c,b,rfl,a,hd,he,g,re,q⟩:=h;cases i;rcases a with a | a
 .obtain⟨its,r,pl,hz⟩:=I.list a;show SeqAt.notIn_listAt (mM X H d) pl.isList (Ci I hd (by show X.A.units+1+8<cLine;ext) g f he r re) ⟨.bl _,H,I,rfl,?_⟩;rw[show its.toArray.any (mM X H d)=its.any (mM X H d) by simp,yw I he r re];show q
 obtain⟨its,r,pl,hz⟩:=I.tuple a;show SeqAt.notIn_tupleAt (mM X H d) pl (Ci I hd (by show X.A.units+1+8<cLine;ext) g f he r re) ⟨.bl _,H,I,rfl,?_⟩;rw[show its.toArray.any (mM X H d)=its.any (mM X H d) by simp,yw I he r re];show q
theorem QS(i:X.A.units+64<cLine):kG X (compareOp .NotIn) (Bp true):=by
 show⟨_,la.or (UH i),λG H x y d e Q P s c b h k=>?_⟩;unfold Bp at h;split at h
 .simp only[Rep] at c b;show .inl ⟨_,_,c,b,k _ _ _ G (.refl s) (eY (jZ _ _ _)) h⟩
 .simp only[Rep] at b;obtain⟨a,ys,rfl,g,f⟩:=b;show .inr ⟨a,_,_,ys,rfl,.inl ((s.fW g).sq),h.1,h.2.1,c.mono s,f.mono s,k _ _ _ G (.refl s) (eY (jZ _ _ _)) h.2.2⟩
 .simp only[Rep] at b;obtain⟨a,ys,rfl,g,f⟩:=b;show .inr ⟨a,_,_,ys,rfl,.inr (s.j4 g),h.1,h.2.1,c.mono s,f.mono s,k _ _ _ G (.refl s) (eY (jZ _ _ _)) h.2.2⟩
 show h.elim
noncomputable def tL:D->Bool
 | .non=>true
 | _=>false
def pS(a:Bool):O2:=λd e Q=>match e with
 | .non=>Q (.fz (.bl (if a then !tL d else tL d)))
 | _=>False
theorem KH{K:J'}{G:Hp}{x:V}{d:D}(r:Rep K G x d):decide (x=.non)=tL d:=by
 cases d<;>simp only[Rep] at r
 case non=>subst r;rfl
 case bl=>subst r;rfl
 case int=>subst r;rfl
 case str=>subst r;rfl
 case tup=>obtain⟨_,_,rfl,_⟩:=r;rfl
 case lst=>obtain⟨_,_,rfl,_⟩:=r;rfl
 case obj=>obtain⟨_,_,_,_,rfl,_⟩:=r;rfl
 case dic=>obtain⟨_,_,_,rfl,_⟩:=r;rfl
 case dit=>obtain⟨_,_,_,rfl,_⟩:=r;rfl
 case exc=>obtain⟨_,_,_,_,_,rfl,_⟩:=r;rfl
theorem Bo:kG X (compareOp .Is) (pS false):=by
 show⟨_,Pa,λG H x y d e Q P s b a h k=>?_⟩;unfold pS at h;split at h
 .simp only[Rep] at a;show⟨a,?_⟩;rw[KH b];show k _ _ _ G (.refl s) (eY (jZ _ _ _)) h
 show h.elim
theorem Kq:kG X (compareOp .IsNot) (pS true):=by
 show⟨_,Q9,λG H x y d e Q P s b a h k=>?_⟩;unfold pS at h;split at h
 .simp only[Rep] at a;show⟨a,?_⟩;rw[KH b];show k _ _ _ G (.refl s) (eY (jZ _ _ _)) h
 show h.elim
end
section
variable{X:Cx}{pos:Pos}{a b c:Expr}{ta tb tc:TD}{pa CP:gX}{rest:List Expr}
def r8(t:gX):gX:=λa Q=>t a λk=>Q (!k)
def ye(t u:gX):gX:=λa Q=>t a λk=>if k=true then u a Q else Q false
def tH(t u:gX):gX:=λa Q=>t a λk=>if k=true then Q true else u a Q
theorem ve(h:PB X a pa):PB X (.UnaryOp .Not a pos) (r8 pa):=by
 obtain⟨t,p,q⟩:=h;show⟨_,QR p,λc σ f e G H Q P E h k=>q c σ f e G H _ _ E h λb H' g x d=>k _ H' g x d⟩
def uR(X:Cx)(e:Expr)(t:gX):Prop:=∃tt,PW X e tt/\∀(a:Ev)(σ:St)(d c G H:Hp)(Q:Bool->Prop)(P:Bool->Hp->Prop),cP X.K d c a σ G H->t a Q->
 (∀b H' f,Ext G H f H'->Q b->P b H')->tt σ H P
theorem uR.pb{e:Expr}{t:gX}(h:uR X e t):PB X e t:=let⟨tt,p,q⟩:=h;⟨tt,p.pt,q⟩
theorem EW(h:PB X a pa):uR X (.BoolOp .And [a] pos) pa:=let⟨tt,p,q⟩:=h;⟨tt,Rf p,q⟩
theorem xc(h:PB X a pa):uR X (.BoolOp .Or [a] pos) pa:=let⟨tt,p,q⟩:=h;⟨tt,Qn p,q⟩
theorem En(h:PB X a pa)(h':uR X (.BoolOp .And (b::rest) pos) CP):uR X (.BoolOp .And (a::b::rest) pos) (ye pa CP):=by
 obtain⟨t,p,q⟩:=h;obtain⟨t',l,j⟩:=h';show⟨_,Qm p l,λd σ f e G H Q P E h k=>q d σ f e G H _ _ E h λb H' g x c=>?_⟩;cases b with
 | true=>rw[if_pos rfl] at c ⊢;show j d σ f e g H' Q P (E.ext x) c λn o r i m=>k n o r (x.trans i) m
 | false=>rw[if_neg aD] at c ⊢;show k false H' g x c
theorem vd(h:PB X a pa)(h':uR X (.BoolOp .Or (b::rest) pos) CP):uR X (.BoolOp .Or (a::b::rest) pos) (tH pa CP):=by
 obtain⟨t,p,q⟩:=h;obtain⟨t',l,j⟩:=h';show⟨_,OK p l,λd σ f e G H Q P E h k=>q d σ f e G H _ _ E h λb H' g x c=>?_⟩;cases b with
 | true=>rw[if_pos rfl] at c ⊢;show k true H' g x c
 | false=>rw[if_neg aD] at c ⊢;show j d σ f e g H' Q P (E.ext x) c λn o r i m=>k n o r (x.trans i) m
def yd(t:TD):TD:=λa Q=>t a λr=>match r with
 | .fz (.bl k)=>Q (.fz (.bl (!k)))
 | _=>False
def oY(t u:TD):TD:=λa Q=>t a λr=>match r with
 | .fz (.bl k)=>if k=true then u a Q else Q (.fz (.bl false))
 | _=>False
def Ij(t u:TD):TD:=λa Q=>t a λr=>match r with
 | .fz (.bl k)=>if k=true then Q (.fz (.bl true)) else u a Q
 | _=>False
theorem Em(h:PD X a ta):PD X (.UnaryOp .Not a pos) (yd ta):=by
 obtain⟨t,p,q⟩:=h;show⟨_,QO p,λc σ g f G H Q P E h k=>q c σ g f G H _ _ E h λv H' r i x d b=>?_⟩;split at b
 .rename_i kk;have e:v=.bl kk:=by simpa only[dm,Rep] using d
  show⟨kk,e,k _ H' _ i x (eY (jZ _ _ _)) b⟩
 show b.elim
theorem sx{op}(h:PD X a ta):PD X (.BoolOp op [a] pos) ta:=let⟨t,p,q⟩:=h;⟨t,QQ p,q⟩
theorem rB(h:PD X a ta)(h':PD X (.BoolOp .And (b::rest) pos) tb):PD X (.BoolOp .And (a::b::rest) pos) (oY ta tb):=by
 obtain⟨t,p,q⟩:=h;obtain⟨t',s,o⟩:=h';show⟨_,QP p s,λd σ g f G H Q P E h k=>q d σ g f G H _ _ E h λv H' r i x m c=>?_⟩;split at c
 .rename_i kk;have e:v=.bl kk:=by simpa only[dm,Rep] using m
  show⟨kk,e,?_⟩;cases kk with
  | true=>rw[if_pos rfl] at c ⊢;show o d σ g f i H' Q P (E.ext x) c λw y n z j l u=>k w y n z (x.trans j) (l.f9 x.h) u
  | false=>rw[if_neg aD] at c ⊢;show k _ H' _ i x (eY (jZ _ _ _)) c
 show c.elim
theorem Ou(h:PD X a ta)(h':PD X (.BoolOp .Or (b::rest) pos) tb):PD X (.BoolOp .Or (a::b::rest) pos) (Ij ta tb):=by
 obtain⟨t,p,q⟩:=h;obtain⟨t',s,o⟩:=h';show⟨_,OH p s,λd σ g f G H Q P E h k=>q d σ g f G H _ _ E h λv H' r i x m c=>?_⟩;split at c
 .rename_i kk;have e:v=.bl kk:=by simpa only[dm,Rep] using m
  show⟨kk,e,?_⟩;cases kk with
  | true=>rw[if_pos rfl] at c ⊢;show k _ H' _ i x (eY (jZ _ _ _)) c
  | false=>rw[if_neg aD] at c ⊢;show o d σ g f i H' Q P (E.ext x) c λw y n z j l u=>k w y n z (x.trans j) (l.f9 x.h) u
 show c.elim
def BP(o o':O2)(ta tb tc:TD):TD:=λa Q=>ta a λc=>tb a λb=>o c.val b.val λr=>match r with
 | .fz (.bl k)=>if k=true then tc a λrc=>o' b.val rc.val Q else Q (.fz (.bl false))
 | _=>False
abbrev nY(K:J')(t:TD)(c:TE):Prop:=∀(a:Ev)(σ:St)(e d G H:Hp)(Q:R->Prop)(P:VK),cP K e d a σ G H->t a Q->(∀v H' r b,Ext G H b H'->dm K b H' H v r->Q r->P v H')->c σ H P
theorem So{K:J'}{g g':Int->Int->Bool}{r q p:TE}(A:nY K ta r)(z:nY K tb q)(y:nY K tc p) :
  nY K (BP (ji λi j=>.bl (g i j)) (ji λi j=>.bl (g' i j)) ta tb tc) (Jz (pj λi j=>.bl (g i j)) (pj λi j=>.bl (g' i j)) r q p):=by
 show λe σ o m G H Q P E h k=>A e σ o m G H _ _ E h λv1 H1 r1 Z w B F=>?_
 obtain⟨O,b,n,_⟩:=B.freeze w;show z e σ o m O H1 _ _ (E.ext b) F λv2 R U Y v x a=>?_
 obtain⟨t,f,c,_⟩:=x.freeze v;unfold ji at a;split at a
 .rename_i i j L s;rw[L] at n;rw[s] at c;simp only[Rep] at n c;show⟨i,j,n,c,_,rfl,?_⟩;dsimp only at a;cases hk:g i j with
  | false=>
   rw[hk,if_neg aD] at a;rw[if_neg aD];show k _ _ _ t (b.trans f) (eY (jZ _ _ _)) a
  | true=>
   rw[hk,if_pos rfl] at a;rw[if_pos rfl];show y e σ o m t R _ _ (E.ext (b.trans f)) a λS W T X u C d=>?_
   obtain⟨M,N,l,_⟩:=C.freeze u;rw[s] at d;split at d
   .rename_i V D J I;cases J;rw[I] at l;simp only[Rep] at l;show⟨j,D,c,l,k _ _ _ M ((b.trans f).trans N) (eY (jZ _ _ _)) d⟩
   show d.elim
 show a.elim
theorem O0{K:J'}{t:TD}{g:TE}(q:nY K t g)(c:Ev)(a:St)(j i G H:Hp)(Q:Bool->Prop)(P:Bool->Hp->Prop)(E:cP K j i c a G H)(h:eR t c Q)(k:∀b H' f,Ext G H f H'->Q b->P b H'):DU g a H P:=by
 show q c a j i G H _ _ E h λv H' r f l r1 d=>?_
 split at d
 .rename_i kk;have e:v=.bl kk:=by simpa only[dm,Rep] using r1
  show⟨kk,e,k kk H' f l d⟩
 show d.elim
theorem Sn{op d:CmpOp}{g g':Int->Int->Bool}(o:gL X (compareOp op) (pj λi j=>.bl (g i j)))(n:gL X (compareOp d) (pj λi j=>.bl (g' i j)))(r:PD X a ta)(q:PD X b tb)(p:PD X c tc)(hm:lastMarks [op,d] [b,c]=false:=by with_unfolding_all rfl) :
  PB X (.Compare a [op,d] [b,c] pos) (eR (BP (ji λi j=>.bl (g i j)) (ji λi j=>.bl (g' i j)) ta tb tc)):=by
 obtain⟨t1,m,h⟩:=r;obtain⟨s,l,f⟩:=q;obtain⟨t3,k,e⟩:=p;show⟨_,TB o n m l k hm,O0 (So h f e)⟩
def de:O2:=λd e Q=>match d,e with
 | .lst ds,.int i=>∃d,di ds i=some d/\Q (.fz d)
 | .tup ds,.int i=>∃d,di ds i=some d/\Q (.fz d)
 | .str z,.int i=>z.length<=sizeLine/\∃c,di z.cps.toList i=some c/\Q (.fz (.str ⟨#[c]⟩))
 | _,_=>False
theorem EF{K:J'}{G:Hp}{xs:List V}{ds:List D}{i:Int}{d:D}(r:bY K G xs ds)(h:di ds i=some d):∃v,di xs i=some v/\Rep K G v d:=by
 unfold di at h ⊢;rw[r.length];cases e:kP ds.length i with
 | none=>rw[e] at h;cases h
 | some j=>
  rw[e] at h;simp only[Option.bind_some] at h ⊢;show r.get h
theorem dz(A:PD X a ta)(z:PD X b tb)(u:xg b:=by intro _ _;rfl):PD X (.Subscript a b pos) (cg de ta tb):=by
 obtain⟨t1,t,n⟩:=A;obtain⟨B,o,m⟩:=z;show⟨_,tM Jx t o u,BR (r:=Ml X.K) (λG H x y d e Q P s g f h k=>?_) n m⟩;unfold de at h;split at h
 .simp only[Rep] at g f;obtain⟨p,xs,rfl,l,rs⟩:=g;obtain⟨d,hd,q⟩:=h;obtain⟨v,j,i⟩:=EF rs hd;show .inl ⟨p,xs,_,v,rfl,f,(s.fW l).sq,j,k _ _ _ G (.refl s) (eY i) q⟩
 .simp only[Rep] at g f;obtain⟨p,xs,rfl,l,rs⟩:=g;obtain⟨d,hd,q⟩:=h;obtain⟨v,j,i⟩:=EF rs hd;show .inr (.inl ⟨p,xs,_,v,rfl,f,s.j4 l,j,k _ _ _ G (.refl s) (eY i) q⟩)
 .simp only[Rep] at g f;obtain⟨hz,c,w,q⟩:=h;show .inr (.inr ⟨_,_,c,g,f,hz,w,k _ _ _ G (.refl s) (eY (yI _ _ _)) q⟩)
 show h.elim
def uY(i:Nat)(tb:TD):TD:=λa Q=>match gt a i with
 | .ow ds=>tb a λb=>match b.val with
  | .int j=>∃d,di ds j=some d/\Q (.fz d)
  | _=>False
 | _=>False
theorem BO(i:Nat){x:Str}{w:Pos}(f:PD X b tb)(hN:X.N[i]?=some x:=by rfl)(z:hZ X.env.scope x:=by first | show Or.inl rfl | show Or.inr (Or.inl rfl) | show Or.inr (Or.inr rfl))(A:xg b:=by intro _ _;rfl)(hd:(x==("__debug__":Str))=false:=by decide)
  (D:(x==("__classdict__":Str))=false:=by decide):PD X (.Subscript (.Name x w) b pos) (uY i tb):=by
 obtain⟨L,u,t⟩:=f;show⟨_,tM Jx (iK hN z hd D) u A,λl σ K I G H Q P E h k=>?_⟩;unfold uY at h;split at h
 .rename_i ds hg;obtain⟨p,xs,C,f,O,M,B⟩:=E.ow i ds hg;show⟨_,C,t l σ K I G H _ _ E h λv H' r R m o e=>?_⟩;obtain⟨J,a,c,_⟩:=o.freeze m;split at e
  .rename_i j F;obtain⟨d,s,q⟩:=e;obtain⟨n,hw,y⟩:=EF (B.mono a.g) s;rw[F] at c;simp only[Rep] at c;show .inl ⟨p,xs,_,n,rfl,c,eh.of (a.h _ _ f),hw,k _ _ _ J a (eY y) q⟩
  show e.elim
 show h.elim
variable{e:Expr}{es:List Expr}{te:TD}{ts:iJ}
def cC:iJ:=λ_ Q=>Q []
def cm(te:TD)(ts:iJ):iJ:=λa Q=>te a λr=>ts a λds=>Q (r.val::ds)
theorem cG:mP X [] cC:=⟨_,kl,λa σ c b G H Q P E h k=>k [] H [] G (.refl E.e.s) bY.nil h⟩
theorem cw(h:PD X e te)(s:mP X es ts)(q:starEach (e::es) X.env=(false,eval e X.env)::starEach es X.env:=by rfl):mP X (e::es) (cm te ts):=by
 obtain⟨t1,p,n⟩:=h;obtain⟨A,o,m⟩:=s;show⟨_,ie p o q,λa σ f d G H Q P E h k=>n a σ f d G H _ _ E h λv H' r B i l t=>?_⟩;obtain⟨y,c,j,_⟩:=l.freeze i;show m a σ f d y H' _ _ (E.ext c) t λz w ds x b rs u=>?_
 show k _ w _ x (c.trans b) (bY.cons (j.mono b.g) rs) u
def pR(ts:iJ):TD:=λa Q=>ts a λds=>ds.length<=sizeLine/\Q (.fz (.tup ds))
def og(ts:iJ):TD:=λa Q=>ts a λds=>ds.length<=sizeLine/\Q (.ow ds)
theorem vc{f}(h:mP X es ts):PD X (.Tuple es f pos) (pR ts):=by
 obtain⟨t,p,q⟩:=h;show⟨_,wZ p,λe σ l j G H Q P E h k=>q e σ l j G H _ _ E h λa H' ds d x rs c=>⟨by rw[rs.length];show c.1,λp i=>?_⟩⟩;have b:Ext d H' (upd d p (.tup a)) (upd H' p (.tup a)):=.new x.s i;show k _ _ (.fz (.tup ds)) _ (x.trans b) ?_ c.2;show Rep X.K _ _ (.tup ds);simp only[Rep];show⟨p,a,rfl,eT,rs.mono b.g⟩
theorem qc(h:mP X es ts):PD X (.List es pos) (og ts):=by
 obtain⟨t,p,q⟩:=h;show⟨_,Ek p,λc σ f e G H Q P E h k=>q c σ f e G H _ _ E h λd H' ds g x rs b=>⟨by rw[rs.length];show b.1,λp a=>?_⟩⟩;show k _ _ (.ow ds) g (x.trans (.own x.s a)) ⟨p,d,rfl,x.h.free a,x.s.free a,eT,rs⟩ b.2
def nG(X:Cx)(f:Value)(o:List D->(R->Prop)->Prop):Prop:=∃r,cW X f r/\∀(G H:Hp)(a:List V)(ds:List D)(Q:R->Prop)(P:VK),cq G H->bY X.K G a ds->o ds Q->
 (∀v H' b c,Ext G H c H'->dm X.K c H' H v b->Q b->P v H')->r a H P
def gf(o:List D->(R->Prop)->Prop)(ts:iJ):TD:=λa Q=>ts a λds=>o ds Q
theorem IW{o:List D->(R->Prop)->Prop}{r:List V->Hp->VK->Prop}{t:TA}
  (l:∀(G H:Hp)(a:List V)(ds:List D)(Q:R->Prop)(P:VK),cq G H->bY X.K G a ds->o ds Q->(∀v H' d b,Ext G H b H'->dm X.K b H' H v d->Q d->P v H')->r a H P)
  (q:∀(c:Ev)(σ:St)(f e G H:Hp)(Q:List D->Prop)(P:List V->Hp->Prop),cP X.K f e c σ G H->ts c Q->(∀a H' ds b,Ext G H b H'->bY X.K b a ds->Q ds->P a H')->t σ H P):nY X.K (gf o ts) (F5 r t):=
 λc σ f e G H Q P E h k=>q c σ f e G H _ _ E h λa H' ds b x rs m=>l b H' a ds Q P x.s rs m λv n d p g i j=>k v n d p (x.trans g) (i.f9 x.h) j
theorem j3{a:String}{x:Str}{p:Pos}{o:List D->(R->Prop)->Prop}(h:nG X (.builtin a) o)(hm:X.mg x=none)(d:bootBuiltins x=some (.builtin a))(ha:mP X (e::es) ts)(hg:Gl X x:=by rfl)(hn:x≠"__name__":=by decide)(c:(x==("__debug__":Str))=false:=by decide)
  (g:starEach (e::es) X.env=(false,eval e X.env)::starEach es X.env:=by rfl) (i:(backTo pos (starEach es X.env)).any (·.1)=false:=by rfl):PD X (.Call (.Name x p) (e::es) [] pos) (gf o ts):=by
 obtain⟨r,f,b⟩:=h;obtain⟨t,pp,q⟩:=ha;show⟨_,vq f hg hm d pp hn c g i,IW b q⟩
theorem qk{T:String}{x:Str}{p:Pos}{o:List D->(R->Prop)->Prop}(g:nG X (.type T) o)(hm:X.mg x=none)(c:bootBuiltins x=some (.type T))(ha:mP X (e::es) ts)(hg:Gl X x:=by rfl)(hn:x≠"__name__":=by decide)(b:(x==("__debug__":Str))=false:=by decide)
  (f:starEach (e::es) X.env=(false,eval e X.env)::starEach es X.env:=by rfl) (h:(backTo pos (starEach es X.env)).any (·.1)=false:=by rfl):PD X (.Call (.Name x p) (e::es) [] pos) (gf o ts):=by
 obtain⟨r,d,a⟩:=g;obtain⟨t,pp,q⟩:=ha;show⟨_,UM d hg hm c pp hn b f h,IW a q⟩
end
theorem oh{a:St}{i j:Nat}{x:Option V}:(a.set i x)[j]?=if i=j/\j<a.length then some x else a[j]?:=by
 by_cases h:i=j
 .subst h;by_cases b:i<a.length
  .simp[b]
  simp[b]
 simp[h]
section
variable{K:J'}{G0 H0 G H G' H':Hp}{ρ:Ev}{σ:St}
theorem cP.put{i:Nat}{v:V}{r:R}(E:cP K G0 H0 ρ σ G H)(x:Ext G H G' H')(M:dm K G' H' H v r):cP K G0 H0 (ρ.set i r.sl) (σ.set i (some v)) G' H':=by
 have X:=E.ext x;have w:=E.len;have y:∀j s,gt (ρ.set i r.sl) j=s->(i=j/\j<ρ.length/\s=r.sl)\/(¬(i=j/\j<ρ.length)/\gt ρ j=s):=λj s e=>by
  rw[o9] at e;by_cases h:i=j/\j<ρ.length
  .rw[if_pos h] at e;show .inl ⟨h.1,h.2,e.symm⟩
  rw[if_neg h] at e;show .inr ⟨h,e⟩
 show⟨X.e,by simp[E.len],λj d h=>?_,λj ds h=>?_,λj k ds P Y a c=>?_,?_⟩
 .rcases y j _ h with⟨a,c,f⟩ | ⟨a,c⟩
  .cases r with
   | ow=>cases f
   | ov=>cases f
   | fz d'=>
    cases f;show⟨v,by rw[oh,if_pos ⟨a,by ext⟩],M⟩
  obtain⟨u,hu,ru⟩:=X.fz j d c;show⟨u,by rw[oh,if_neg (by rw[w];show a)];show hu,ru⟩
 .rcases y j _ h with⟨a,c,f⟩ | ⟨a,c⟩
  .cases r with
   | fz=>cases f
   | ov=>cases f
   | ow xX=>
    cases f;obtain⟨p,xs,rfl,a1,a2,J,W⟩:=M;show⟨p,xs,by rw[oh,if_pos ⟨a,by ext⟩],J,a2,E.e.h.free a1,W⟩
  obtain⟨p,xs,m,l,I,F,Z⟩:=X.ow j ds c;show⟨p,xs,by rw[oh,if_neg (by rw[w];show a)];show m,l,I,F,Z⟩
 .have old:∀{j:Nat}{ds:List D},gt ρ j=.ow ds->∀P,r=.ow P->σ[j]?≠some (some v):=λ{j ds} h P e z=>by
   subst e;obtain⟨p,xs,rfl,a1,a2,J,W⟩:=M;obtain⟨S,oq,m,l,I,F,Z⟩:=E.ow j ds h;rw[m] at z;cases z;rw[a1] at l;cases l
  rcases y j _ a with⟨B,O,C⟩ | ⟨B,O⟩
  .rcases y k _ c with⟨A,N,U⟩ | ⟨A,N⟩
   .exact absurd (B.symm.trans A) Y
   rw[oh,if_pos ⟨B,by ext⟩,oh,if_neg (by rw[w];show A)];cases r with
   | fz=>cases C
   | ov=>cases C
   | ow Q=>show λz=>old N Q rfl z.symm
  rcases y k _ c with⟨A,N,U⟩ | ⟨A,N⟩
  .rw[oh,if_neg (by rw[w];show B),oh,if_pos ⟨A,by ext⟩];cases r with
   | fz=>cases U
   | ov=>cases U
   | ow Q=>show old O Q rfl
  rw[oh,if_neg (by rw[w];show B),oh,if_neg (by rw[w];show A)];show E.dj j k ds P Y O N
 obtain⟨own,o1,o2⟩:=E.on;have CV:∀j,¬(i=j/\j<ρ.length)->(σ.set i (some v))[j]?=σ[j]?:=λj h=>by rw[oh,if_neg (by rw[w];show h)]
 have gen:∀L:List Addr,(∀q∈L,H q=none)->(∀j ds p,i=j->j<ρ.length->r.sl=.ow ds->v=.ref p->p∈L)->
   (∀j o,i=j->j<ρ.length->r.sl=.ov o->∃p fp,v=.ref p/\(p::fp).Nodup/\js K G' H' p fp o/\∀q∈p::fp,G' q=none/\q∈L)->
   ∃own:Addr->Option Nat,(∀j ds p,gt (ρ.set i r.sl) j=.ow ds->(σ.set i (some v))[j]?=some (some (.ref p))->own p=some j)/\∀j o,gt (ρ.set i r.sl) j=.ov o->∃p fp,(σ.set i (some v))[j]?=some (some (.ref p))/\(p::fp).Nodup/\js K G' H' p fp o/\∀q∈p::fp,G' q=none/\H0 q=none/\own q=some j:=by
  intro L T hw ho;show⟨λq=>if q∈L then some i else own q,λj ds p h t=>?_,λj o h=>?_⟩
  .rcases y j _ h with⟨a,c,f⟩ | ⟨a,c⟩
   .rw[oh,if_pos ⟨a,by ext⟩] at t;have hv:v=.ref p:=by injection t with t;injection t
    dsimp only;rw[if_pos (hw j ds p a c f.symm hv),a]
   rw[CV j a] at t;obtain⟨S,oq,m,l,_⟩:=E.ow j ds c;have cV:p∉L:=λz=>by
    rw[t] at m;cases m;rw[T p z] at l;cases l
   dsimp only;rw[if_neg cV];show o1 j ds p c t
  rcases y j _ h with⟨a,c,f⟩ | ⟨a,c⟩
  .obtain⟨p,fp,rfl,B,O,C⟩:=ho j o a c f.symm;show⟨p,fp,by rw[oh,if_pos ⟨a,by ext⟩],B,O,λq b=>⟨(C q b).1,E.e.h.free (T q (C q b).2),?_⟩⟩;dsimp only;rw[if_pos (C q b).2,a]
  obtain⟨p,fp,m,l,I,F⟩:=o2 j o c;show⟨p,fp,by rw[CV j a];show m,l,I.mono x.g λq _ u e=>x.h q u e,λq b=>⟨x.n q (F q b).1 (I.here q b),(F q b).2.1,?_⟩⟩;dsimp only;rw[if_neg (λz=>I.here q b (T q z))];show(F q b).2.2
 cases r with
 | fz d=>show gen [] (λq b=>by cases b) (λj ds p _ _ e=>by cases e) (λj o _ _ e=>by cases e)
 | ow xX=>
  obtain⟨p,xs,rfl,a1,a2,J,W⟩:=M;show gen [p] (λq b=>?_) (λj ds S _ _ e e2=>?_) (λj o _ _ e=>by cases e)
  .simp only[aM] at b;subst b;show a1
  cases e2;simp
 | ov o'=>
  obtain⟨p,fp,rfl,a1,a2,J⟩:=M;show gen (p::fp) (λq b=>(J q b).1) (λj ds S _ _ e=>by cases e) (λj o _ _ e=>?_);cases e;show⟨p,fp,rfl,a1,a2,λq b=>⟨(J q b).2,b⟩⟩
noncomputable def iH(i:Nat)(ρ:Ev):Ev:=match gt ρ i with
 | .ow ds=>ρ.set i (.fz (.lst ds))
 | .ov o=>ρ.set i (.fz o.val)
 | _=>ρ
theorem u9{ρ:Ev}{i:Nat}{s:Sl}(h:gt ρ i=s)(c:s≠.un):i<ρ.length:=by
 induction ρ generalizing i with
 | nil=>simp[gt] at h;show absurd h.symm c
 | cons a r b=>
  cases i with
  | zero=>simp
  | succ i=>simp only[gt] at h;have:=b h;simp;ext
theorem cy.My{K:J'}{G H:Hp}:∀{b:List Addr}{dss:List (List D)},cy K G H b dss->∀q∈b,∃zs,H q=some (.lst zs)
 | [],[],_,q,a=>by cases a
 | p::b,ds::dss,h,q,a=>by
  simp only[cy] at h;rcases aj.mp a with rfl | a
  .exact⟨_,h.1.choose_spec.1⟩
  show cy.My h.2 q a
 | [],_::_,h,_,_=>by simp only[cy] at h
 | _::_,[],h,_,_=>by simp only[cy] at h
theorem cP.l5(i:Nat)(E:cP K G0 H0 ρ σ G H):∃L:List Addr,(∀q∈L,G q=none)/\cP K G0 H0 (iH i ρ) σ (mz G H L) H/\(((∀o,gt ρ i=.ov o->(∃kvs,o=.dc kvs)\/∃dss,o=.ll dss)->∀q∈L,H q≠none/\∀xs,¬Rd H q (.tup xs)))/\∀o p,gt ρ i=.ov o->σ[i]?=some (some (.ref p))->p∈L:=by
 unfold iH;split
 .rename_i ds hg;obtain⟨p,xs,J,O,A,I,y⟩:=E.ow i ds hg;have V:i<ρ.length:=u9 hg (by simp);have w:cq G (upd G p (.lst xs)):=t4 A;have r:∀j s,gt (ρ.set i (.fz (.lst ds))) j=s->(i=j/\s=.fz (.lst ds))\/(i≠j/\gt ρ j=s):=λj s e=>by
   rw[o9] at e;by_cases h:i=j
   .subst h;rw[if_pos ⟨rfl,V⟩] at e;show .inl ⟨rfl,e.symm⟩
   rw[if_neg (λz=>h z.1)] at e;show .inr ⟨h,e⟩
  have ep:mz G H [p]=upd G p (.lst xs):=by
   funext a
   by_cases ha:a=p
   .subst ha;rw[eT,qj (by simp)];show O
   rw[cL ha,qi (by simpa using ha)]
  show⟨[p],λq f=>?_,?_,λ_ q f=>by
   simp only[aM] at f;rw[f]
   show⟨(by rw[O];show nofun),λF e=>by rcases e with e | ⟨_,e⟩<;>(rw[O] at e;cases e)⟩,λo p z=>by rw[hg] at z;cases z⟩
  .simp only[aM] at f;subst f;show A
  rw[ep];show⟨⟨E.e.g.trans w,E.e.h,λb o e=>?_,λq S M=>?_⟩,by simp[E.len],λj d h=>?_,λj t h=>?_,λj k t fs T a1 a2=>?_,?_⟩
  .by_cases hb:b=p
   .subst hb;rw[eT] at e;rw[O];show e
   rw[cL hb] at e;show E.e.s b o e
  .rw[cL (λz=>M (by rw[z];show I))];show E.e.n q S M
  .rcases r j _ h with⟨e,c⟩ | ⟨e,c⟩
   .subst e;cases c;show⟨_,J,by simp only[Rep];show⟨p,xs,rfl,kc.of eT,y.mono w⟩⟩
   obtain⟨u,R,Q⟩:=E.fz j d c;show⟨u,R,Q.mono w⟩
  .rcases r j _ h with⟨e,c⟩ | ⟨e,c⟩
   .cases c
   obtain⟨l,F,x,D,C,v,W⟩:=E.ow j t c;have Z:l≠p:=λz=>by
    subst z;show E.dj i j ds t e hg c (by rw[J,x])
   show⟨l,F,x,D,by rw[cL Z];show C,v,W.mono w⟩
  .rcases r j _ a1 with⟨_,c⟩ | ⟨e,c⟩
   .cases c
   rcases r k _ a2 with⟨_,B⟩ | ⟨Y,B⟩
   .cases B
   show E.dj j k t fs T c B
  obtain⟨own,N,P⟩:=E.on;show⟨own,λj t l h U=>?_,λj o h=>?_⟩
  .rcases r j _ h with⟨_,c⟩ | ⟨_,c⟩
   .cases c
   show N j t l c U
  rcases r j _ h with⟨_,c⟩ | ⟨e,c⟩
  .cases c
  obtain⟨l,fp,x,D,C,v⟩:=P j o c;show⟨l,fp,x,D,C.mono w λq _ u e=>e,λq f=>⟨?_,(v q f).2⟩⟩;rw[cL λz=>?_]
  .exact(v q f).1
  have m:=(v q f).2.2;rw[z,N i ds p hg J] at m;injection m with m
  show e m
 .rename_i o hg;obtain⟨own,N,P⟩:=E.on;obtain⟨p,fp,J,O,A,I⟩:=P i o hg;have V:i<ρ.length:=u9 hg (by simp);have hn:∀q∈p::fp,G q=none:=λq f=>(I q f).1
  have w:cq G (mz G H (p::fp)):=xj hn;have r:∀j s,gt (ρ.set i (.fz o.val)) j=s->(i=j/\s=.fz o.val)\/(i≠j/\gt ρ j=s):=λj s e=>by
   rw[o9] at e;by_cases h:i=j
   .subst h;rw[if_pos ⟨rfl,V⟩] at e;show .inl ⟨rfl,e.symm⟩
   rw[if_neg (λz=>h z.1)] at e;show .inr ⟨h,e⟩
  suffices As:cP K G0 H0 (ρ.set i (.fz o.val)) σ (mz G H (p::fp)) H from⟨p::fp,hn,As,λhd q f=>by
   rcases hd o hg with⟨kvs,rfl⟩ | ⟨dss,rfl⟩
   .obtain⟨rfl,ks,ep,y,_⟩:=A;simp only[aM] at f;rw[f];show⟨(by rw[y];show nofun),λF e=>by rcases e with e | ⟨_,e⟩<;>(rw[y] at e;cases e)⟩
   .obtain⟨zs,y⟩:∃zs,H q=some (.lst zs):=by
     rcases aj.mp f with rfl | f
     .exact⟨_,A.1⟩
     show cy.My A.2 q f
    show⟨(by rw[y];show nofun),λF e=>by rcases e with e | ⟨_,e⟩<;>(rw[y] at e;cases e)⟩,λo' l _ e=>by rw[J] at e;cases e;simp⟩
  show⟨⟨E.e.g.trans w,E.e.h,λb u e=>?_,λq S M=>?_⟩,by simp[E.len],λj d h=>?_,λj t h=>?_,λj k t fs T a1 a2=>?_,own,λj t l h U=>?_,λj o' h=>?_⟩
  .by_cases hb:b∈p::fp
   .rw[qj hb] at e;show e
   rw[qi hb] at e;show E.e.s b u e
  .rw[qi (λz=>M (I q z).2.1)];show E.e.n q S M
  .rcases r j _ h with⟨e,c⟩ | ⟨e,c⟩
   .subst e;cases c;show⟨_,J,A.freeze hn⟩
   obtain⟨u,R,Q⟩:=E.fz j d c;show⟨u,R,Q.mono w⟩
  .rcases r j _ h with⟨e,c⟩ | ⟨e,c⟩
   .cases c
   obtain⟨l,F,x,D,C,v,W⟩:=E.ow j t c;show⟨l,F,x,D,?_,v,W.mono w⟩;rw[qi λz=>?_]
   .exact C
   have m:=(I l z).2.2;rw[N j t l c x] at m;injection m with m
   show e m.symm
  .rcases r j _ a1 with⟨_,c⟩ | ⟨e,c⟩
   .cases c
   rcases r k _ a2 with⟨_,B⟩ | ⟨Y,B⟩
   .cases B
   show E.dj j k t fs T c B
  .rcases r j _ h with⟨_,c⟩ | ⟨_,c⟩
   .cases c
   show N j t l c U
  rcases r j _ h with⟨_,c⟩ | ⟨e,c⟩
  .cases c
  obtain⟨l,X,x,D,C,v⟩:=P j o' c;show⟨l,X,x,D,C.mono w λq _ u e=>e,λq f=>⟨?_,(v q f).2⟩⟩;rw[qi λz=>?_]
  .exact(v q f).1
  have m:=(v q f).2.2;rw[(I q z).2.2] at m;injection m with m
  show e m
 rename_i Z6 XH;have ep:mz G H []=G:=by funext a;show qi (by simp)
 show⟨[],λq f=>(by cases f),by rw[ep];show E,λ_ q f=>(by cases f),λo p z=>(XH o z).elim⟩
theorem cP.ja(i:Nat)(E:cP K G0 H0 ρ σ G H):∃L:List Addr,(∀q∈L,G q=none)/\cP K G0 H0 (iH i ρ) σ (mz G H L) H/\((∀o,gt ρ i=.ov o->(∃kvs,o=.dc kvs)\/∃dss,o=.ll dss)->∀q∈L,H q≠none/\∀xs,¬Rd H q (.tup xs)):=
 let⟨L,a,b,c,_⟩:=E.l5 i
 ⟨L,a,b,c⟩
theorem cP.freeze(i:Nat)(E:cP K G0 H0 ρ σ G H):∃G',cP K G0 H0 (iH i ρ) σ G' H/\cq G G':=
 let⟨L,a,b,_⟩:=E.ja i
 ⟨_,b,xj a⟩
theorem cP.change{i:Nat}{ds v:List D}{p:Addr}{w:List V}(E:cP K G0 H0 ρ σ G H)(hg:gt ρ i=.ow ds)(y:σ[i]?=some (some (.ref p)))(P:bY K G w v) :
  cP K G0 H0 (ρ.set i (.ow v)) σ G (upd H p (.lst w)):=by
 obtain⟨c,Z,N,Y,M,L,X⟩:=E.ow i ds hg;rw[y] at N;cases N;have S:i<ρ.length:=u9 hg (by simp);have f:∀j s,gt (ρ.set i (.ow v)) j=s->(i=j/\s=.ow v)\/(i≠j/\gt ρ j=s):=λj s e=>by
  rw[o9] at e;by_cases h:i=j
  .subst h;rw[if_pos ⟨rfl,S⟩] at e;show .inl ⟨rfl,e.symm⟩
  rw[if_neg (λz=>h z.1)] at e;show .inr ⟨h,e⟩
 have R:cq G (upd H p (.lst w)):=λb o e=>by rw[cL (iu e M)];show E.e.s b o e
 show⟨⟨E.e.g,λb o e=>by rw[cL (iu e L)];show E.e.h b o e,R,E.e.n⟩,by simp[E.len],λj d h=>?_,λj l h=>?_,λj k l fs x a1 a2=>?_,?_⟩
 .rcases f j _ h with⟨_,a⟩ | ⟨e,a⟩
  .cases a
  show E.fz j d a
 .rcases f j _ h with⟨e,a⟩ | ⟨e,a⟩
  .subst e;cases a;show⟨p,w,y,eT,M,L,P⟩
  obtain⟨c,W,B,I,F,A,U⟩:=E.ow j l a;have T:c≠p:=λz=>by
   subst z;show E.dj i j ds l e hg a (by rw[y,B])
  show⟨c,W,B,by rw[cL T];show I,F,A,U⟩
 .rcases f j _ a1 with⟨e,a⟩ | ⟨e,a⟩
  .subst e;rcases f k _ a2 with⟨m,r⟩ | ⟨m,r⟩
   .exact absurd m x
   show E.dj i k ds fs x hg r
  rcases f k _ a2 with⟨m,r⟩ | ⟨m,r⟩
  .subst m;show E.dj j i l ds x a hg
  show E.dj j k l fs x a r
 obtain⟨own,C,O⟩:=E.on;show⟨own,λj l c h J=>?_,λj o h=>?_⟩
 .rcases f j _ h with⟨e,a⟩ | ⟨_,a⟩
  .subst e;show C i ds c hg J
  show C j l c a J
 rcases f j _ h with⟨_,a⟩ | ⟨e,a⟩
 .cases a
 obtain⟨c,fp,B,I,F,A⟩:=O j o a;show⟨c,fp,B,I,F.mono (cq.refl _) λq Q u m=>?_,A⟩;rw[cL λz=>?_]
 .exact m
 have t:=(A q Q).2.2;rw[z,C i ds p hg y] at t;injection t with t
 show e t
theorem cP.fb{i:Nat}{o o':OV}{p:Addr}(E:cP K G0 H0 ρ σ G H)(hg:gt ρ i=.ov o)(Q:σ[i]?=some (some (.ref p)))
  (U:∀fp,(p::fp).Nodup->js K G H p fp o->∃y,(p::y).Nodup/\js K G H' p y o'/\(∀q∈p::y,q∈p::fp\/H q=none)/\∀b,b∉p::fp->H b≠none->H' b=H b) :
  cP K G0 H0 (ρ.set i (.ov o')) σ G H':=by
 obtain⟨own,N,M⟩:=E.on;obtain⟨l,fp,R,b2,b3,v⟩:=M i o hg;rw[Q] at R;cases R;obtain⟨y,Z,Y,L,J⟩:=U fp b2 b3;have W:i<ρ.length:=u9 hg (by simp);have x:∀j s,gt (ρ.set i (.ov o')) j=s->(i=j/\s=.ov o')\/(i≠j/\gt ρ j=s):=λj s e=>by
  rw[o9] at e;by_cases h:i=j
  .subst h;rw[if_pos ⟨rfl,W⟩] at e;show .inl ⟨rfl,e.symm⟩
  rw[if_neg (λz=>h z.1)] at e;show .inr ⟨h,e⟩
 have hk:∀(F:Hp),(∀q∈p::fp,F q=none)->cq F H->cq F H':=λF V s b u e=>by
  have hb:b∉p::fp:=λz=>by rw[V b z] at e;cases e
  rw[J b hb (by rw[s b u e];show nofun)];show s b u e
 show⟨⟨E.e.g,hk H0 (λq c=>(v q c).2.1) E.e.h,hk G (λq c=>(v q c).1) E.e.s,E.e.n⟩,by simp[E.len],λj d h=>?_,λj m h=>?_,λj k m fs T a1 a2=>?_,λq=>if q∈p::y then some i else own q,λj m l h P=>?_,λj XG h=>?_⟩
 .rcases x j _ h with⟨_,a⟩ | ⟨e,a⟩
  .cases a
  show E.fz j d a
 .rcases x j _ h with⟨_,a⟩ | ⟨e,a⟩
  .cases a
  obtain⟨l,xs,t,r,B,A,X⟩:=E.ow j m a;show⟨l,xs,t,?_,B,A,X⟩;rw[J l (λz=>?_) (by rw[r];show nofun)]
  .exact r
  have f:=(v l z).2.2;rw[N j m l a t] at f;injection f with f
  show e f.symm
 .rcases x j _ a1 with⟨_,a⟩ | ⟨e,a⟩
  .cases a
  rcases x k _ a2 with⟨_,D⟩ | ⟨I,D⟩
  .cases D
  show E.dj j k m fs T a D
 .rcases x j _ h with⟨_,a⟩ | ⟨e,a⟩
  .cases a
  have w:=N j m l a P;obtain⟨C,xs,t,r,_⟩:=E.ow j m a;rw[P] at t;cases t;dsimp only;rw[if_neg λz=>?_]
  .exact w
  rcases L l z with z | z
  .have f:=(v l z).2.2;rw[w] at f;injection f with f
   show e f.symm
  rw[z] at r;cases r
 rcases x j _ h with⟨e,a⟩ | ⟨e,a⟩
 .subst e;cases a;show⟨p,y,Q,Z,Y,λq c=>?_⟩;dsimp only;rw[if_pos c];rcases L q c with z | z
  .exact⟨(v q z).1,(v q z).2.1,rfl⟩
  show⟨E.e.s.free z,E.e.h.free z,rfl⟩
 obtain⟨C,S,t,r,B,A⟩:=M j XG a;have O:∀q∈C::S,q∉p::fp:=λq c z=>by
  have f:=(v q z).2.2;rw[(A q c).2.2] at f;injection f with f
  show e f.symm
 show⟨C,S,t,r,B.mono (cq.refl _) λq c u I=>?_,λq c=>⟨(A q c).1,(A q c).2.1,?_⟩⟩
 .rw[J q (O q c) (by rw[I];show nofun)];show I
 dsimp only;rw[if_neg λz=>?_]
 .exact(A q c).2.2
 rcases L q z with z | z
 .exact O q c z
 show B.here q c z
theorem cP.weak{ρ':Ev}(E:cP K G0 H0 ρ σ G H)(f:ρ'.length=ρ.length)(w:∀i,gt ρ' i=.un\/gt ρ' i=gt ρ i):cP K G0 H0 ρ' σ G H:=by
 have g:∀i s,gt ρ' i=s->s≠.un->gt ρ i=s:=λi s e n=>by
  rcases w i with h | h
  .exact absurd (e.symm.trans h) n
  rw[<-h];show e
 show⟨E.e,by rw[f];show E.len,λi d h=>E.fz i d (g i _ h (by simp)),λi d h=>E.ow i d (g i _ h (by simp)),λi j ds m a l k=>E.dj i j ds m a (g i _ l (by simp)) (g j _ k (by simp)),let⟨own,c,b⟩:=E.on;⟨own,λi ds p h=>c i ds p (g i _ h (by simp)),λi o h=>b i o (g i _ h (by simp))⟩⟩
end
section
variable{X:Cx}{pos:Pos}{e:Expr}{te:TD}
def cF(t u:TX):TX:=λD a=>t { D with nx:=u D } a
def jf:TX:=λD a=>D.nx a
theorem jB:kX X [] jf:=⟨_,Rc,λa σ c b G H D E k h g=>g.nx a σ G H (cq.refl _) k h⟩
theorem cJ{st:Stmt}{a:List Stmt}{t u:TX}(o:PX X st t)(n:kX X a u):kX X (st::a) (cF t u):=by
 obtain⟨t1,l,i⟩:=o;obtain⟨r,j,f⟩:=n;show⟨_,yS l j,λd σ c b G H D E k h g=>i d σ c b G H _ _ k h ⟨λρ' p q H' e m h'=>f ρ' p c b q H' D E m h' (g.shift e),g.rt,g.bk,g.ct⟩⟩
theorem c8{st:Stmt}{t:TX}(c:PX X st t):kX X [st] t:=by
 obtain⟨t1,b,a⟩:=c;show⟨_,yJ b,a⟩
theorem vm(i:Nat){b:List Stmt}{t:TX}(h:kX X b t):kX X b (λD a=>t D (iH i a)):=by
 obtain⟨t1,e,d⟩:=h;show⟨_,e,λa σ l j G H D E k h g=>?_⟩;obtain⟨m,f,c⟩:=k.freeze i;show d _ σ l j m H D E f h (g.shift c)
def gJ(te:TD):TX:=λD a=>te a D.rt
theorem hV(h:PD X e te):PX X (.Return (some e) pos) (gJ te):=by
 obtain⟨t,p,q⟩:=h;show⟨_,yA p,λa σ f d G H D E k h g=>q a σ f d G H _ _ k h λv H' r i x b c=>g.rt v H' r i (k.e.trans x) (b.f9 k.e.h) c⟩
def lO(i:Nat):TX:=λD a=>match gt a i with
 | .ow ds=>D.rt (.ow ds)
 | _=>False
theorem vk(i:Nat){x:Str}{a:Pos}(hN:X.N[i]?=some x:=by rfl)(b:hZ X.env.scope x:=by first | show Or.inl rfl | show Or.inr (Or.inl rfl) | show Or.inr (Or.inr rfl))(hd:(x==("__debug__":Str))=false:=by decide)
  (m:(x==("__classdict__":Str))=false:=by decide):PX X (.Return (some (.Name x a)) pos) (lO i):=by
 show⟨_,yA (iK hN b hd m),λn σ q o G H D E k h g=>?_⟩;unfold lO at h;split at h
 .rename_i ds hg;obtain⟨p,xs,l,j,f,d,c⟩:=k.ow i ds hg;show⟨_,l,g.rt _ H (.ow ds) G k.e ⟨p,xs,rfl,d,f,j,c⟩ h⟩
 show h.elim
def iw(c:gX)(t u:TX):TX:=λD a=>c a λb=>if b=true then t D a else u D a
theorem jx{c:Expr}{a b:List Stmt}{tc:gX}{t u:TX}(r:PB X c tc)(ha:kX X a t)(hb:kX X b u):PX X (.If c a b pos) (iw tc t u):=by
 obtain⟨t0,q,n⟩:=r;obtain⟨t1,p,m⟩:=ha;obtain⟨s,o,l⟩:=hb;show⟨_,DW q p o,λe σ i f G H D E k h g=>n e σ i f G H _ _ k h λb H' j x d=>?_⟩;cases b with
 | true=>rw[if_pos rfl] at d ⊢;show m e σ i f j H' D E (k.ext x) d (g.shift x.g)
 | false=>rw[if_neg aD] at d ⊢;show l e σ i f j H' D E (k.ext x) d (g.shift x.g)
def gM(i:Nat)(te:TD):TX:=λD a=>te a λr=>D.nx (a.set i r.sl)
theorem ku(i:Nat){x:Str}{a:Pos}(n:PD X e te)(hN:X.N.Nodup:=by assumption)(l:X.N[i]?=some x:=by rfl)(d:Loc X.env.scope x:=by first | show Or.inl rfl | show Or.inr rfl)(f:swapsWith e (some (.Name x a)) pos.line X.env=pure false:=by rfl)(m:X.fn x=true\/X.env.scope.names.lookup x=some .local:=by first | show .inl rfl | show .inr rfl | assumption) :
  PX X (.Assign [.Name x a] e pos) (gM i te):=by
 obtain⟨t,p,q⟩:=n;show⟨_,yz hN l d p f m,λb σ s o G H D E k h g=>q b σ s o G H _ _ k h λv H' r u x c j=>g.nx _ _ u H' x.g (k.put x c) j⟩
def fq(i:Nat)(te:TD):TX:=λD a=>te a λr=>D.nx (a.set i (.fz r.val))
theorem fV(i:Nat){x:Str}{a:Pos}(s:PD X e te)(hN:X.N.Nodup:=by assumption)(n:X.N[i]?=some x:=by rfl)(j:Loc X.env.scope x:=by first | show Or.inl rfl | show Or.inr rfl)(l:swapsWith e (some (.Name x a)) pos.line X.env=pure false:=by rfl)(o:X.fn x=true\/X.env.scope.names.lookup x=some .local:=by first | show .inl rfl | show .inr rfl | assumption) :
  PX X (.Assign [.Name x a] e pos) (fq i te):=by
 obtain⟨t,p,q⟩:=s;show⟨_,yz hN n j p l o,λc σ y u G H D E k h g=>q c σ y u G H _ _ k h λv H' r z x f m=>?_⟩;obtain⟨w,b,d,_⟩:=f.freeze x;show g.nx _ _ w H' b.g (k.put b (r:=.fz r.val) d) m
def n8(i:Nat)(te:TD):TX:=λD a=>match gt a i with
 | .ow ds=>te a λr=>ds.length<sizeLine/\D.nx (a.set i (.ow (ds++[r.val])))
 | _=>False
theorem tW(i:Nat){x:Str}{l m b:Pos}(B:PD X e te)(hN:X.N[i]?=some x:=by rfl)(A:hZ X.env.scope x:=by first | show Or.inl rfl | show Or.inr (Or.inl rfl) | show Or.inr (Or.inr rfl))(hd:(x==("__debug__":Str))=false:=by decide)
  (C:(x==("__classdict__":Str))=false:=by decide) (I:starEach [e] X.env=(false,eval e X.env)::starEach [] X.env:=by rfl)
  (hb:∀{j:TE}{t:TA},PE X (.Name x l) j->PA X [e] t->PE X (.Call (.Attribute (.Name x l) "append" m) [e] [] b) (vz X.K "list" vo j t):=by intro j t f d;show wO bQ PySem.F.slot_list_append PySem.F.type_list_append xk f d) :
  PX X (.Expr (.Call (.Attribute (.Name x l) "append" m) [e] [] b) pos) (n8 i te):=by
 obtain⟨t,p,q⟩:=B;show⟨_,tX (hb (iK hN A hd C) (ie p kl I)),λs σ M J G H D E k h g=>?_⟩;unfold n8 at h;split at h
 .rename_i ds hg;obtain⟨a,xs,f,d,P,O,o⟩:=k.ow i ds hg;show⟨_,f,.inl ⟨rfl,xs,eh.of d⟩,?_⟩;show q s σ M J G H _ _ k h λv H' r Q u y n=>?_
  obtain⟨L,c,w,_⟩:=y.freeze u;have z:=k.ext c;show⟨a,xs,v,rfl,rfl,c.h _ _ d,by rw[o.length];show n.1,?_⟩;show g.nx _ _ L _ c.g (z.change hg f ((o.mono c.g).append (bY.cons w bY.nil))) n.2
 show h.elim
end
section
variable{X:Cx}{pos:Pos}{tg:Expr}
noncomputable abbrev iA:=D->Ev->(Ev->Prop)->Prop
noncomputable abbrev pQ:=List D->Ev->(Ev->Prop)->Prop
def rS(X:Cx)(tg:Expr)(g:iA):Prop:=∃b,PG X tg b/\∀(a:Ev)(σ:St)(f e G H:Hp)(d:D)(v:V)(Q:Ev->Prop)(P:St->Hp->Prop),cP X.K f e a σ G H->Rep X.K G v d->g d a Q->
 (∀ρ' c h H',cP X.K f e ρ' c h H'->Ext G H h H'->Q ρ'->P c H')->b v σ H P
def Bn(X:Cx)(i:List Expr)(g:pQ):Prop:=∃c,Bd X i c/\∀(a:Ev)(σ:St)(f e G H:Hp)(ds:List D)(b:List V)(Q:Ev->Prop)(P:St->Hp->Prop),cP X.K f e a σ G H->bY X.K G b ds->g ds a Q->
 (∀ρ' d h H',cP X.K f e ρ' d h H'->Ext G H h H'->Q ρ'->P d H')->c b σ H P
def dM(i:Nat):iA:=λd a Q=>Q (a.set i (.fz d))
theorem eS(i:Nat){x:Str}(hN:X.N.Nodup:=by assumption)(b:X.N[i]?=some x:=by rfl)(a:Loc X.env.scope x:=by first | show Or.inl rfl | show Or.inr rfl)(c:X.fn x=true\/X.env.scope.names.lookup x=some .local:=by first | show .inl rfl | show .inr rfl | assumption):rS X (.Name x pos) (dM i):=
 ⟨_,Ko hN b a c,λf σ j g G H d v Q P E r h k=>k _ _ G H (E.put (.refl E.e.s) (r:=.fz d) r) (.refl E.e.s) h⟩
noncomputable def ko:pQ:=λds a Q=>match ds with
 | []=>Q a
 | _=>False
noncomputable def gy(t:iA)(u:pQ):pQ:=λds a Q=>match ds with
 | d::r=>t d a λρ'=>u r ρ' Q
 | []=>False
theorem sE:Bn X [] ko:=by
 show⟨_,Rb,λb σ d c G H ds a Q P E r h k=>?_⟩;unfold ko at h;split at h
 .cases a with
  | nil=>show⟨rfl,k _ _ G H E (.refl E.e.s) h⟩
  | cons=>simp only[bY] at r
 show h.elim
theorem ky{e:Expr}{b:List Expr}{t:iA}{u:pQ}(w:rS X e t)(s:Bn X b u)(p:(assignEach (e::b) X.env).map (·.2)=assign e X.env::(assignEach b X.env).map (·.2):=by rfl):Bn X (e::b) (gy t u):=by
 obtain⟨t1,n,l⟩:=w;obtain⟨J,m,j⟩:=s;show⟨_,TH n m p,λf σ d c G H ds a Q P E r h k=>?_⟩;unfold gy at h;split at h
 .cases a with
  | nil=>simp only[bY] at r
  | cons v a=>
   simp only[bY] at r;show⟨v,a,rfl,l f σ d c G H _ v _ _ E r.1 h λρ' A D H' I x q=>?_⟩;show j ρ' A d c D H' _ a Q P I (r.2.mono x.g) q λz o C B F i y=>k z o C B F (x.trans i) y
 show h.elim
def lJ(n:Nat)(t:pQ):iA:=λd a Q=>match d with
 | .tup ds=>ds.length=n/\t ds a Q
 | _=>False
theorem sA{b:List Expr}{k:Nat}{t:pQ}{n:Nat}(j:X.calm=true)(h:Bn X b t)(hn:(assignEach b X.env).length=n:=by rfl)(l:(assignEach b X.env).findIdx? (·.1)=none:=by rfl):rS X (.Tuple b k pos) (lJ n t):=by
 obtain⟨t1,g,f⟩:=h;show⟨_,QN j g hn l,λc σ o m G H d v Q P E r h k=>?_⟩;unfold lJ at h;split at h
 .simp only[Rep] at r;obtain⟨a,xs,rfl,i,rs⟩:=r;show⟨a,xs,rfl,E.e.s.j4 i,by rw[rs.length];show h.1,f c σ o m G H _ xs Q P E rs h.2 k⟩
 show h.elim
def oX(K:J')(J:It)(G:Hp)(ds:List D):Prop:=
 (∀i d a H',ds[i]?=some d->cq G a->cq a H'->J.go i H'/\∀v b,J.CG i H' v b->∃c,Ext a H' c b/\Rep K c v d)/\∀a H',cq G a->cq a H'->J.stop ds.length H'
noncomputable abbrev jQ:=Ev->(List D->Prop)->Prop
def PId(X:Cx)(tg a:Expr)(d:jQ):Prop:=∃ww,PI X tg a ww/\∀(b:Ev)(σ:St)(f e G H:Hp)(Q:List D->Prop)(P:It->Hp->Prop),cP X.K f e b σ G H->d b Q->
 (∀J H' ds c,Ext G H c H'->oX X.K J c ds->Q ds->P J H')->ww σ H P
def wY(d:D)(Q:List D->Prop):Prop:=match d with
 | .lst ds=>Q ds
 | .tup ds=>Q ds
 | .str z=>Q (z.cps.toList.map λc=>.str ⟨#[c]⟩)
 | _=>False
def iD(te:TD):jQ:=λa Q=>te a λr=>wY r.val Q
theorem Lz{K:J'}{G:Hp}{a:Addr}{xs:List V}{ds:List D}(h:kc K G a xs)(r:bY K G xs ds):oX K (Iq K a) G ds:=by
 show⟨λi d f H' hd s1 s2=>?_,λf H' s1 s2=>⟨xs,(s2.fW (s1.fW h)).sq,by rw[r.length];show au _⟩⟩;obtain⟨v,b,g⟩:=r.get hd;have c:eh K H' a xs:=(s2.fW (s1.fW h)).sq;show⟨⟨xs,v,c,b⟩,λu k j=>?_⟩;obtain⟨e,y⟩:=j;subst e;have:=y xs c;rw[b] at this;cases this;show⟨f,.refl s2,g.mono s1⟩
theorem Sm{K:J'}{G:Hp}{a:Addr}{xs:List V}{ds:List D}(h:dF K G a xs)(r:bY K G xs ds):oX K (Ip K a) G ds:=by
 show⟨λi d f H' hd s1 s2=>?_,λf H' s1 s2=>⟨xs,s2.iP (s1.iP h),by rw[r.length];show au _⟩⟩;obtain⟨v,b,g⟩:=r.get hd;have c:dF K H' a xs:=s2.iP (s1.iP h);show⟨⟨xs,v,c,b⟩,λu k j=>?_⟩;obtain⟨e,y⟩:=j;subst e;have:=y xs c;rw[b] at this;cases this;show⟨f,.refl s2,g.mono s1⟩
theorem Sk{K:J'}{G:Hp}(z:Str):oX K (Dy z) G (z.cps.toList.map λc=>.str ⟨#[c]⟩):=by
 show⟨λi d f H' hd s1 s2=>?_,λf H' s1 s2=>?_⟩
 .rw[ao] at hd;cases e:z.cps.toList[i]? with
  | none=>rw[e] at hd;cases hd
  | some c=>
   rw[e] at hd;cases hd;have b:z.cps[i]?=some c:=by simpa using e
   show⟨(Array.getElem?_eq_some_iff.mp b).1,λv k g=>?_⟩;obtain⟨h,j,a,rfl⟩:=g;subst h;rw[b] at a;cases a;show⟨f,.refl s2,yI _ _ _⟩
 show _=_;simp
theorem Vb{K:J'}{G:Hp}(a:Int)(n:Nat):oX K (Dz a n) G ((List.range n).map λ(i:Nat)=>.int (a+i)):=by
 show⟨λi d b H' hd s1 s2=>?_,λb H' s1 s2=>?_⟩
 .rw[ao] at hd;cases e:(List.range n)[i]? with
  | none=>rw[e] at hd;cases hd
  | some c=>
   rw[e] at hd;cases hd;obtain⟨k,j⟩:=ah.mp e;have h:i<n:=by simpa using k
   have g:c=i:=by rw[<-j];simp
   subst g;show⟨h,λv m f=>?_⟩;obtain⟨l,rfl⟩:=f;subst l;show⟨b,.refl s2,jy _ _ _⟩
 show n<=_;simp
noncomputable def rp(ds:List D):List D:=ds.mapIdx λi d=>.tup [.int (i:Nat),d]
theorem EV{K:J'}{G:Hp}{t:Addr}{x y:V}{d e:D}(a:G t=some (.tup [x,y]))(r1:Rep K G x d)(b:Rep K G y e):Rep K G (.ref t) (.tup [d,e]):=by
 simp only[Rep];show⟨t,[x,y],rfl,a,bY.cons r1 (bY.cons b bY.nil)⟩
theorem U1{K:J'}{G:Hp}{a:Addr}{xs:List V}{ds:List D}(h:kc K G a xs)(r:bY K G xs ds):oX K (Ir K a) G (rp ds):=by
 show⟨λi d b H' hd s1 s2=>?_,λb H' s1 s2=>⟨xs,(s2.fW (s1.fW h)).sq,by rw[r.length];simp[rp]⟩⟩;unfold rp at hd;rw[List.getElem?_mapIdx] at hd;cases e:ds[i]? with
 | none=>rw[e] at hd;cases hd
 | some d'=>
  rw[e] at hd;cases hd;obtain⟨v,j,l⟩:=r.get e;have k:eh K H' a xs:=(s2.fW (s1.fW h)).sq;show⟨⟨xs,v,k,j⟩,λu n m=>?_⟩;obtain⟨t,rfl,ht,y⟩:=m;obtain⟨x,f,rfl⟩:=y xs k;rw[j] at f;cases f;have c:Ext b H' (upd b t (.tup [.int i,v])) (upd H' t (.tup [.int i,v])):=.new s2 ht;show⟨_,c,EV eT (jy _ _ _) ((l.mono s1).mono c.g)⟩
noncomputable def n6(ds a:List D):List D:=List.zipWith (λd e=>.tup [d,e]) ds a
theorem KG{K:J'}{G:Hp}{a b:Addr}{xs ys:List V}{ds j:List D}(h:kc K G a xs)(r:bY K G xs ds)(h':kc K G b ys)(m:bY K G ys j):oX K (Dx K a b) G (n6 ds j):=by
 show⟨λi d l H' hd s1 s2=>?_,λl H' s1 s2=>⟨xs,ys,(s2.fW (s1.fW h)).sq,(s2.fW (s1.fW h')).sq,?_⟩⟩
 .unfold n6 at hd;rw[List.getElem?_zipWith] at hd;cases e:ds[i]? with
  | none=>rw[e] at hd;cases hd
  | some d'=>
   cases k:j[i]? with
   | none=>rw[e,k] at hd;cases hd
   | some E=>
    rw[e,k] at hd;cases hd;obtain⟨v,s,z⟩:=r.get e;obtain⟨f,n,A⟩:=m.get k;have w:eh K H' a xs:=(s2.fW (s1.fW h)).sq;have o:eh K H' b ys:=(s2.fW (s1.fW h')).sq;show⟨⟨xs,ys,v,f,w,o,s,n⟩,λu F B=>?_⟩;obtain⟨t,rfl,ht,y⟩:=B;obtain⟨x,C,q,p,rfl⟩:=y xs ys w o;rw[s] at q;rw[n] at p;cases q;cases p;have c:Ext l H' (upd l t (.tup [v,f])) (upd H' t (.tup [v,f])):=.new s2 ht;show⟨_,c,EV eT ((z.mono s1).mono c.g) ((A.mono s1).mono c.g)⟩
 rw[r.length,m.length];unfold n6;rw[List.length_zipWith];ext
theorem jO{l:Expr}{te:TD}(h:PD X l te):PId X tg l (iD te):=by
 obtain⟨t,p,q⟩:=h;show⟨_,Jr p,λj σ o n G H Q P E h k=>q j σ o n G H _ _ E h λv H' r u x m c=>?_⟩;obtain⟨i,d,b,_⟩:=m.freeze x;unfold wY at c;split at c
 .rename_i ds e;rw[e] at b;simp only[Rep] at b;obtain⟨a,xs,rfl,f,g⟩:=b;show .inl ⟨a,rfl,⟨xs,(d.s.fW f).sq⟩,k _ H' _ i d (Lz f g) c⟩
 .rename_i ds e;rw[e] at b;simp only[Rep] at b;obtain⟨a,xs,rfl,f,g⟩:=b;show .inr (.inl ⟨a,rfl,⟨xs,d.s.j4 f⟩,k _ H' _ i d (Sm (dF.of f) g) c⟩)
 .rename_i z e;rw[e] at b;simp only[Rep] at b;show .inr (.inr ⟨z,b,k _ H' _ i d (Sk z) c⟩)
 show c.elim
def sj(b:iJ):jQ:=λa Q=>b a λds=>match ds with
 | [.int j]=>-(2 ^ 62)<=j/\j<2 ^ 62/\Q ((List.range j.toNat).map λ(i:Nat)=>.int (0+i))
 | _=>False
theorem mD{K:J'}{G:Hp}{a:List V}{d:D}(h:bY K G a [d]):∃v,a=[v]/\Rep K G v d:=by
 match a,h with
 | [],h=>simp only[bY] at h
 | [v],h=>simp only[bY] at h;show⟨v,rfl,h.1⟩
 | v::w::r,h=>simp only[bY] at h;show absurd h.2 (by simp)
theorem yv{K:J'}{G:Hp}{a:List V}{d e:D}(h:bY K G a [d,e]):∃v w,a=[v,w]/\Rep K G v d/\Rep K G w e:=by
 match a,h with
 | [],h=>simp only[bY] at h
 | v::r,h=>
  simp only[bY] at h;obtain⟨w,rfl,hw⟩:=mD h.2;show⟨v,w,rfl,h.1,hw⟩
theorem vv{a:Expr}{c:iJ}{p:Pos}(hm:X.mg "range"=none)(ha:mP X [a] c)(hg:Gl X "range":=by rfl)(f:starEach [a] X.env=[(false,eval a X.env)]:=by rfl):PId X tg (.Call (.Name "range" p) [a] [] pos) (sj c):=by
 obtain⟨t,pp,q⟩:=ha;show⟨_,UU hg hm pp f,λe σ i g G H Q P E h k=>q e σ i g G H _ _ E h λl H' ds j x rs b=>?_⟩;split at b
 .obtain⟨v,rfl,d⟩:=mD rs;simp only[Rep] at d;subst d;show⟨_,rfl,b.1,b.2.1,k _ H' _ j x (Vb 0 _) b.2.2⟩
 show b.elim
def wQ(b:iJ):jQ:=λa Q=>b a λds=>match ds with
 | [.lst c]=>Q (rp c)
 | _=>False
theorem Cg{a:Expr}{d:iJ}{p tp:Pos}{b:List Expr}{i:Nat}(hm:X.mg "enumerate"=none)(ha:mP X [a] d)(hg:Gl X "enumerate":=by rfl)(j:starEach [a] X.env=[(false,eval a X.env)]:=by rfl):PId X (.Tuple b i tp) (.Call (.Name "enumerate" p) [a] [] pos) (wQ d):=by
 obtain⟨t,pp,q⟩:=ha;show⟨_,QU hg hm pp j,λg σ n m G H Q P E h k=>q g σ n m G H _ _ E h λr H' ds o x rs c=>?_⟩;split at c
 .obtain⟨v,rfl,e⟩:=mD rs;simp only[Rep] at e;obtain⟨a,xs,rfl,f,l⟩:=e;show⟨a,xs,rfl,x.s.fW f,k _ H' _ o x (U1 f l) c⟩
 show c.elim
def Bm(b:iJ):jQ:=λa Q=>b a λds=>match ds with
 | [.lst c,.lst fs]=>Q (n6 c fs)
 | _=>False
theorem RB{a b:Expr}{e:iJ}{p tp:Pos}{c:List Expr}{m:Nat}(hm:X.mg "zip"=none)(ha:mP X [a,b] e)(hg:Gl X "zip":=by rfl)(o:starEach [a,b] X.env=[(false,eval a X.env),(false,eval b X.env)]:=by rfl)(n:starEach [b] X.env=[(false,eval b X.env)]:=by rfl) :
  PId X (.Tuple c m tp) (.Call (.Name "zip" p) [a,b] [] pos) (Bm e):=by
 obtain⟨t,pp,q⟩:=ha;show⟨_,O3 hg hm pp o n,λl σ y w G H Q P E h k=>q l σ y w G H _ _ E h λB H' ds z x rs d=>?_⟩;split at d
 .obtain⟨v,A,rfl,f,g⟩:=yv rs;simp only[Rep] at f g;obtain⟨a,xs,rfl,j,u⟩:=f;obtain⟨b,ys,rfl,i,r⟩:=g;show⟨a,b,rfl,⟨xs,(x.s.fW j).sq⟩,⟨ys,(x.s.fW i).sq⟩,k _ H' _ z x (KG j u i r) d⟩
 show d.elim
def jM(b:jQ)(g:iA)(c:TX):TX:=λD a=>b a λds=>∃Iv:Nat->Ev->Prop,Iv 0 a/\
 (∀i d ρ',ds[i]?=some d->Iv i ρ'->g d ρ' λe=>c { D with nx:=Iv (i+1),ct:=Iv (i+1),bk:=D.nx } e)/\∀ρ',Iv ds.length ρ'->D.nx ρ'
theorem lR{a:Expr}{body:List Stmt}{O:jQ}{g:iA}{P:TX}(hp:PassesOwn (model X.prog X.w) X.A X.env X.xe)(hc:X.calm=true)(S:PId X tg a O)(hg:rS X tg g)(hb:kX X body P)
  (hs:∀x,foldedSetIterable a X.env x=pure x:=by intro _;rfl):PX X (.For tg a body [] pos) (jM O g P):=by
 obtain⟨t1,p1,q1⟩:=S;obtain⟨t2,p2,q2⟩:=hg;obtain⟨t3,p3,Z⟩:=hb;show⟨_,QJ hp hc p1 p2 p3 hs,λL σ p n G H D E k h C=>q1 L σ p n G H _ _ k h λJ H1 ds y z N hq=>?_⟩;obtain⟨Iv,i0,turn,fin⟩:=hq;show⟨λi m u H'=>m=ds.length-i/\i<=ds.length/\∃ρ' c,cP X.K p n ρ' u c H'/\cq y c/\Iv i ρ',⟨ds.length,by simp,bc _,L,y,k.ext z,cq.refl _,i0⟩,?_⟩;rintro i m u H' ⟨rfl,S,ρ',c,r,q,R⟩;by_cases F:i<ds.length
 .obtain⟨W,w2⟩:=N;obtain⟨go,U⟩:=W i ds[i] c H' (ag F) q r.e.s;show .inr ⟨go,λQ l=>∃t b,cP X.K p n t Q b l/\cq y b/\Iv (i+1) t,λQ l ⟨t,b,k2,s2,XR⟩=>⟨ds.length-(i+1),by ext,rfl,F,t,b,k2,s2,XR⟩,λv l hy=>?_⟩;obtain⟨b,M,Y⟩:=U v l hy;show q2 ρ' u p n b l ds[i] v _ _ (r.ext M) Y (turn i ds[i] ρ' (ag F) R) λnZ kj T H3 k3 V cS=>?_
  have s3:cq y T:=(q.trans M.g).trans V.g;show Z nZ kj p n T H3 _ _ k3 cS ⟨λd B o I s4 f j=>⟨d,o,f,s3.trans s4,j⟩,C.rt,λd B o I s4 f j=>C.nx d B o I ((z.g.trans s3).trans s4) f j,λd B o I s4 f j=>⟨d,o,f,s3.trans s4,j⟩⟩
 have e:i=ds.length:=by ext
 subst e;show .inl ⟨N.2 c H' q r.e.s,C.nx ρ' u c H' (z.g.trans q) r (fin ρ' R)⟩
def El(c:gX)(f:TX):TX:=λD e=>∃W:Nat->Ev->Prop,(∃m,W m e)/\∀m ρ',W m ρ'->c ρ' λb=>if b=true then f { D with nx:=λd=>∃a,a<m/\W a d,ct:=λd=>∃a,a<m/\W a d,bk:=D.nx } ρ' else D.nx ρ'
theorem KD{c:Expr}{body:List Stmt}{tc:gX}{z:TX}(Q:PassesOwn (model X.prog X.w) X.A X.env X.xe)(R:PB X c tc)(hb:kX X body z):PX X (.While c body [] pos) (El tc z):=by
 obtain⟨t1,P,N⟩:=R;obtain⟨t3,O,M⟩:=hb;show⟨_,TF Q P O,λI σ r q G H D E k h v=>?_⟩;obtain⟨W,⟨m0,L⟩,turn⟩:=h;show⟨λm j H'=>∃ρ' s,cP X.K r q ρ' j s H'/\cq G s/\W m ρ',⟨m0,I,G,k,cq.refl _,L⟩,?_⟩;rintro m j H' ⟨ρ',s,u,B,J⟩;show N ρ' j r q s H' _ _ u (turn m ρ' J) λb l d o p=>?_
 cases b with
 | true=>
  rw[if_pos rfl] at p ⊢;show⟨λC l=>∃a,a<m/\∃F d,cP X.K r q F C d l/\cq G d/\W a F,λC l S=>S,?_⟩;have s2:cq G d:=B.trans o.g;show M ρ' j r q d l _ _ (u.ext o) p ⟨λe t n y s4 f x=>by obtain⟨a,hm,i⟩:=x;show⟨a,hm,e,n,f,s2.trans s4,i⟩,v.rt,λe t n y s4 f i=>v.nx e t n y (s2.trans s4) f i,λe t n y s4 f x=>by obtain⟨a,hm,i⟩:=x;show⟨a,hm,e,n,f,s2.trans s4,i⟩⟩
 | false=>
  rw[if_neg aD] at p ⊢;show v.nx ρ' j d l (B.trans o.g) (u.ext o) p
end
noncomputable def mx(a:Ev):Option Nat->Sl
 | none=>.un
 | some j=>match gt a j with
  | .fz d=>.fz d
  | _=>.un
noncomputable def c9(m:List (Option Nat))(a:Ev):Ev:=m.map (mx a)
theorem k8{m:List (Option Nat)}{b:Ev}{i:Nat}:gt (m.map (mx b)) i=match m[i]? with
  | some o=>mx b o
  | none=>.un:=by
 induction m generalizing i with
 | nil=>simp[gt]
 | cons a r c=>
  cases i with
  | zero=>simp[gt]
  | succ i=>simp only[av,gt,aW];show c
def nI(m:List (Option Nat))(g:iA):Prop:=∀d a Q,g d a Q->g d a λb=>Q b/\b.length=a.length/\∀j c,m[j]?=some (some c)->gt b j=gt a j
def Ca(m:List (Option Nat))(g:pQ):Prop:=∀ds a Q,g ds a Q->g ds a λb=>Q b/\b.length=a.length/\∀j c,m[j]?=some (some c)->gt b j=gt a j
theorem jW{m:List (Option Nat)}{i:Nat}(h:m[i]?=some none:=by rfl):nI m (dM i):=λd b Q q=>by
 show⟨q,by simp,λj c a=>?_⟩;rw[o9,if_neg];rintro⟨e,_⟩;subst e;rw[h] at a;cases a
theorem KC{m:List (Option Nat)}:Ca m ko:=λds a Q q=>by
 unfold ko at q ⊢;split at q
 .exact⟨q,rfl,λ_ _ _=>rfl⟩
 show q.elim
theorem yX{m:List (Option Nat)}{t:iA}{u:pQ}(mono:∀d a (Q b:Ev->Prop),(∀ρ',Q ρ'->b ρ')->t d a Q->t d a b)(g:∀d a (Q b:Ev->Prop),(∀ρ',Q ρ'->b ρ')->u d a Q->u d a b)(r:nI m t)(p:Ca m u):Ca m (gy t u):=λds a Q q=>by
 unfold gy at q ⊢;split at q
 .refine mono _ _ _ _ (λρ' e=>?_) (r _ _ _ q);obtain⟨i,l,o⟩:=e;show g _ _ _ _ (λs e=>by obtain⟨h,k,n⟩:=e;show⟨h,k.trans l,λj c f=>(n j c f).trans (o j c f)⟩) (p _ _ _ i)
 show q.elim
theorem KA{m:List (Option Nat)}{n:Nat}{u:pQ}(a:Ca m u):nI m (lJ n u):=λd b Q q=>by
 unfold lJ at q ⊢;split at q
 .exact⟨q.1,a _ _ _ q.2⟩
 show q.elim
theorem sC{i:Nat}:∀d a (Q b:Ev->Prop),(∀ρ',Q ρ'->b ρ')->dM i d a Q->dM i d a b:=λ_ _ _ _ h q=>h _ q
theorem yP:∀d a (Q b:Ev->Prop),(∀ρ',Q ρ'->b ρ')->ko d a Q->ko d a b:=λ_ _ _ _ h q=>by
 unfold ko at q ⊢;split at q
 .exact h _ q
 show q.elim
theorem Cs{t:iA}{u:pQ}(mono:∀d a (Q b:Ev->Prop),(∀ρ',Q ρ'->b ρ')->t d a Q->t d a b)(c:∀d a (Q b:Ev->Prop),(∀ρ',Q ρ'->b ρ')->u d a Q->u d a b):∀d a (Q b:Ev->Prop),(∀ρ',Q ρ'->b ρ')->gy t u d a Q->gy t u d a b:=λ_ _ _ _ h q=>by
 unfold gy at q ⊢;split at q
 .exact mono _ _ _ _ (λρ' e=>c _ _ _ _ h e) q
 show q.elim
theorem Fx{m:List (Option Nat)}{i j n:Nat}(h:m[i]?=some none:=by rfl)(h':m[j]?=some none:=by rfl):nI m (lJ n (gy (dM i) (gy (dM j) ko))):=
 KA (yX sC (Cs sC yP) (jW h) (yX sC yP (jW h') KC))
theorem Vu{m:List (Option Nat)}{i j k n:Nat}(h:m[i]?=some none:=by rfl)(h':m[j]?=some none:=by rfl)(a:m[k]?=some none:=by rfl):nI m (lJ n (gy (dM i) (gy (dM j) (gy (dM k) ko)))):=
 KA (yX sC (Cs sC (Cs sC yP)) (jW h) (yX sC (Cs sC yP) (jW h') (yX sC yP (jW a) KC)))
def tI(X:Cx)(a:List Expr)(t:gX):Prop:=∃tt,xZ X a tt/\∀(c:Ev)(σ:St)(e d G H:Hp)(Q:Bool->Prop)(P:Bool->Hp->Prop),cP X.K e d c σ G H->t c Q->
 (∀b H' f,Ext G H f H'->Q b->P b H')->tt σ H P
def jk:gX:=λ_ Q=>Q true
theorem k9{X:Cx}:tI X [] jk:=⟨_,QX,λa σ c b G H Q P E h k=>k true H G (.refl E.e.s) h⟩
theorem yM{X:Cx}{c:Expr}{t:gX}(h:PB X c t):tI X [c] t:=let⟨tt,p,q⟩:=h;⟨tt,QW p,q⟩
def hU(e:jQ)(m:List (Option Nat))(g:iA)(tc:gX)(te:TD):TD:=λa Q=>e a λds=>∃Iv:Nat->List D->Prop,Iv 0 []/\
 (∀i d acc,ds[i]?=some d->Iv i acc->g d (c9 m a) λc=>tc c λb=>if b=true then te c λr=>acc.length<sizeLine/\Iv (i+1) (acc++[r.val]) else Iv (i+1) acc)/\∀acc,Iv ds.length acc->Q (.ow acc)
section
variable{X:Cx}{elt iter tg:Expr}{ifs:List Expr}{scope:Scope}{pos:Pos}{N':List Str}{m:List (Option Nat)}{wi:jQ}{g:iA}{tc:gX}{te:TD}
theorem B9(cs:cD X N' m scope)(hk:nI m g){ww:TI}{gg:mO TG}{pf:mO TT}{B:mO TE}
  (q1:∀(a:Ev)(σ:St)(r q G H:Hp)(Q:List D->Prop)(P:It->Hp->Prop),cP X.K r q a σ G H->wi a Q->(∀J H' ds f,Ext G H f H'->oX X.K J f ds->Q ds->P J H')->ww σ H P)
  (q2:∀s3 t ex (a:Ev) (σ:St) (r q G H:Hp) (d:D) (v:V) (Q:Ev->Prop) (P:St->Hp->Prop),cP X.K r q a σ G H->Rep X.K G v d->g d a Q->(∀ρ' w f H',cP X.K r q ρ' w f H'->Ext G H f H'->Q ρ'->P w H')->gg s3 t ex v σ H P)
  (q3:∀s3 t ex (a:Ev) (σ:St) (r q G H:Hp) (Q:Bool->Prop) (P:Bool->Hp->Prop),cP X.K r q a σ G H->tc a Q->(∀b H' f,Ext G H f H'->Q b->P b H')->pf s3 t ex σ H P)
  (q4:∀s3 t ex,nY X.K te (B s3 t ex)):nY X.K (hU wi m g tc te) (uZ ww m gg pf B):=by
 show λa σ r q G H Q P E h k=>q1 a σ r q G H _ _ E h λJ H1 ds l A wk hq=>?_
 obtain⟨Iv,i0,turn,fin⟩:=hq;intro D I s3 ex;have E1:=E.ext A;have wj:l D=none:=A.s.free I;have u:∀{i:Nat}{p:List L2.D},gt (c9 m a) i=.ow p->False:=λ{i p} h=>by
  unfold c9 at h;rw[k8] at h;split at h
  .rename_i o _;unfold mx at h;split at h
   .cases h
   split at h<;>cases h
  cases h
 have j6:∀{i:Nat}{o:OV},gt (c9 m a) i=.ov o->False:=λ{i o} h=>by
  unfold c9 at h;rw[k8] at h;split at h
  .rename_i o _;unfold mx at h;split at h
   .cases h
   split at h<;>cases h
  cases h
 have k7:cP X.K l H1 (c9 m a) (lY m σ) l (upd H1 D (.lst [])):=by
  show⟨.own A.s I,by simp[lY,c9],λi d h=>?_,λi p h=>(u h).elim,λi j p fs _ h=>(u h).elim,λ_=>none,λi p _ h=>(u h).elim,λi o h=>(j6 h).elim⟩;unfold c9 at h;rw[k8] at h;split at h
  .rename_i o ho;unfold mx at h;split at h
   .cases h
   rename_i j;split at h
   .rename_i d' qR;cases h;obtain⟨v,hv,O⟩:=E1.fz j d qR;show⟨v,?_,O⟩;unfold lY;rw[ao,ho];simp[hv]
   cases h
  cases h
 show⟨λi n w H'=>n=ds.length-i/\i<=ds.length/\∃acc xs f,cP X.K l H1 (c9 m a) w f H'/\H' D=some (.lst xs)/\f D=none/\bY X.K f xs acc/\Iv i acc,
  ⟨ds.length,by simp,bc _,[],[],l,k7,eT,wj,bY.nil,i0⟩,?_⟩
 rintro i n w H' ⟨rfl,hi,acc,xs,f,z,T,qQ,N,iv⟩;by_cases U:i<ds.length
 .obtain⟨w1,w2⟩:=wk;obtain⟨go,yl⟩:=w1 i ds[i] f H' (ag U) z.e.g z.e.s;show .inr ⟨go,λjw x=>∃acc xs f,cP X.K l H1 (c9 m a) jw f x/\x D=some (.lst xs)/\f D=none/\bY X.K f xs acc/\Iv (i+1) acc,λjw x h2=>⟨ds.length-(i+1),by ext,rfl,U,h2⟩,λv x hy=>?_⟩;obtain⟨G2,x2,O⟩:=yl v x hy;show q2 _ _ _ (c9 m a) w l H1 G2 x ds[i] v _ _ (z.ext x2) O (hk _ _ _ (turn i ds[i] acc (ag U) iv)) λR kj G3 t E3 x3 W=>?_
  obtain⟨W,Ax,AD⟩:=W;have weak:∀j,gt (c9 m a) j=.un\/gt (c9 m a) j=gt R j:=λj=>by
   cases hm:m[j]? with
   | none=>left;unfold c9;rw[k8,hm]
   | some o=>
    cases o with
    | none=>left;unfold c9;rw[k8,hm];rfl
    | some c=>right;show(AD j c hm).symm
  have mV:=x2.trans x3;show q3 _ _ _ R kj l H1 G3 t _ _ E3 W λb H4 Z M F=>?_
  have L:=mV.trans M;have E4:=(E3.ext M).weak (ρ':=c9 m a) (Ax.symm) weak;have S:H4 D=some (.lst xs):=L.h _ _ T;have pA:Z D=none:=L.n D qQ (by rw[T];show nofun);cases b with
  | false=>
   rw[if_neg aD] at F ⊢;show⟨acc,xs,Z,E4,S,pA,N.mono L.g,F⟩
  | true=>
   rw[if_pos rfl] at F ⊢;show q4 _ _ _ R kj l H1 Z H4 _ _ (E3.ext M) F λv5 H5 r5 G5 x5 vE mH=>?_
   obtain⟨Y,C,Ge,_⟩:=vE.freeze x5;have y:=E4.ext C;have zZ:H5 D=some (.lst xs):=C.h _ _ S;have uA:Y D=none:=C.n D pA (by rw[S];show nofun);have r6:bY X.K Y xs acc:=(N.mono L.g).mono C.g;show⟨xs,zZ,by rw[r6.length];show mH.1,acc++[r5.val],xs++[v5],Y,?_,eT,uA,r6.append (bY.cons Ge bY.nil),mH.2⟩;show⟨⟨y.e.g,λb o e=>by rw[cL (iu e I)];show y.e.h b o e,λb o e=>by rw[cL (iu e uA)];show y.e.s b o e,y.e.n⟩,y.len,y.fz,λi p h=>(u h).elim,λi j p fs _ h=>(u h).elim,λ_=>none,λi p _ h=>(u h).elim,λi o h=>(j6 h).elim⟩
 have e:i=ds.length:=by ext
 subst e;show .inl ⟨wk.2 f H' z.e.g z.e.s,k _ H' (.ow acc) f (A.trans z.e) ⟨D,xs,rfl,A.h.free I,qQ,T,N⟩ (fin acc iv)⟩
theorem mE(h:X.calm=true)(cs:cD X N' m scope)(hk:nI m g)(f:PId X tg iter wi)(hg:∀s3 a ex,rS (gH X N' scope s3 a ex) tg g)(ht:∀s3 a ex,tI (gH X N' scope s3 a ex) ifs tc)
  (b:∀s3 a ex,PD (gH X N' scope s3 a ex) elt te) (e:∀x,foldedSetIterable iter X.env x=pure x:=by intro _;rfl):PD X (.ListComp elt [⟨tg,iter,ifs,0⟩] scope pos) (hU wi m g tc te):=by
 obtain⟨ww,d,c⟩:=f;show⟨_,QV (g:=λs3 a ex=>(hg s3 a ex).choose) (tc:=λs3 a ex=>(ht s3 a ex).choose) (te:=λs3 a ex=>(b s3 a ex).choose) h cs d (λs3 a ex=>(hg s3 a ex).choose_spec.1) (λs3 a ex=>(ht s3 a ex).choose_spec.1) (λs3 a ex=>(b s3 a ex).choose_spec.1) e,
  B9 cs hk c (λs3 a ex=>(hg s3 a ex).choose_spec.2) (λs3 a ex=>(ht s3 a ex).choose_spec.2) (λs3 a ex=>(b s3 a ex).choose_spec.2)⟩
theorem RA(i:Nat){x:Str}{b d:Pos}(w:X.calm=true)(cs:cD X N' m scope)(hk:nI m g)(t:PId X tg iter wi)(hg:∀s3 a ex,rS (gH X N' scope s3 a ex) tg g)(ht:∀s3 a ex,tI (gH X N' scope s3 a ex) ifs tc)
  (c:∀s3 a ex,PD (gH X N' scope s3 a ex) elt te) (hN:X.N.Nodup:=by assumption) (o:X.N[i]?=some x:=by rfl) (p:Loc X.env.scope x:=by first | show Or.inl rfl | show Or.inr rfl) (q:∀x,foldedSetIterable iter X.env x=pure x:=by intro _;rfl)
  (n:swapsWith (.ListComp elt [⟨tg,iter,ifs,0⟩] scope pos) (some (.Name x b)) d.line X.env=pure true:=by rfl)
  (u:X.fn x=true\/X.env.scope.names.lookup x=some .local:=by first | show .inl rfl | show .inr rfl | assumption) :
  PX X (.Assign [.Name x b] (.ListComp elt [⟨tg,iter,ifs,0⟩] scope pos) d) (gM i (hU wi m g tc te)):=by
 obtain⟨ww,l,j⟩:=t;show⟨_,xf (g:=λs3 a ex=>(hg s3 a ex).choose) (tc:=λs3 a ex=>(ht s3 a ex).choose) (te:=λs3 a ex=>(c s3 a ex).choose) hN o p w cs l (λs3 a ex=>(hg s3 a ex).choose_spec.1) (λs3 a ex=>(ht s3 a ex).choose_spec.1) (λs3 a ex=>(c s3 a ex).choose_spec.1) q n u,λe σ A z G H D E k h y=>?_⟩;show B9 cs hk j (λs3 a ex=>(hg s3 a ex).choose_spec.2) (λs3 a ex=>(ht s3 a ex).choose_spec.2) (λs3 a ex=>(c s3 a ex).choose_spec.2) e σ A z G H _ _ k h λv H' r B x f s=>y.nx _ _ B H' x.g (k.put x f) s
theorem Sj(i:Nat){x:Str}{b e:Pos}(z:X.calm=true)(cs:cD X N' m scope)(hk:nI m g)(w:PId X tg iter wi)(hg:∀s3 a ex,rS (gH X N' scope s3 a ex) tg g)(ht:∀s3 a ex,tI (gH X N' scope s3 a ex) ifs tc)
  (c:∀s3 a ex,PD (gH X N' scope s3 a ex) elt te) (hN:X.N.Nodup:=by assumption) (q:X.N[i]?=some x:=by rfl) (s:Loc X.env.scope x:=by first | show Or.inl rfl | show Or.inr rfl) (t:∀x,foldedSetIterable iter X.env x=pure x:=by intro _;rfl)
  (p:swapsWith (.ListComp elt [⟨tg,iter,ifs,0⟩] scope pos) (some (.Name x b)) e.line X.env=pure true:=by rfl)
  (y:X.fn x=true\/X.env.scope.names.lookup x=some .local:=by first | show .inl rfl | show .inr rfl | assumption) :
  PX X (.Assign [.Name x b] (.ListComp elt [⟨tg,iter,ifs,0⟩] scope pos) e) (fq i (hU wi m g tc te)):=by
 obtain⟨ww,o,n⟩:=w;show⟨_,xf (g:=λs3 a ex=>(hg s3 a ex).choose) (tc:=λs3 a ex=>(ht s3 a ex).choose) (te:=λs3 a ex=>(c s3 a ex).choose) hN q s z cs o (λs3 a ex=>(hg s3 a ex).choose_spec.1) (λs3 a ex=>(ht s3 a ex).choose_spec.1) (λs3 a ex=>(c s3 a ex).choose_spec.1) t p y,λf σ F B G H D E k h A=>?_⟩;show B9 cs hk n (λs3 a ex=>(hg s3 a ex).choose_spec.2) (λs3 a ex=>(ht s3 a ex).choose_spec.2) (λs3 a ex=>(c s3 a ex).choose_spec.2) f σ F B G H _ _ k h λv H' r I x l u=>?_
 obtain⟨C,d,j,_⟩:=l.freeze x;show A.nx _ _ C H' d.g (k.put d (r:=.fz r.val) j) u
end
noncomputable abbrev eJ:=List D->(R->Prop)->Prop
def x9(K:J')(n:Nat)(t:eJ):Sp:=λc H Q _=>∃G ds a,cq G H/\bY K G c ds/\ds.length=n/\t ds a/\∀v H' r b,Ext G H b H'->dm K b H' H v r->a r->Q v H'
noncomputable def pZ(N:List Str)(ds:List D):Ev:=ds.map Sl.fz++List.replicate (N.length-ds.length) .un
theorem VL{ds:List D}{l:List Sl}{i:Nat}{s:Sl}(h:gt (ds.map Sl.fz++l) i=s):(∃d,ds[i]?=some d/\s=.fz d)\/(ds.length<=i/\gt l (i-ds.length)=s):=by
 induction ds generalizing i with
 | nil=>show .inr ⟨bc _,by simpa using h⟩
 | cons d ds c=>
  cases i with
  | zero=>simp only[av,List.cons_append,gt] at h;show .inl ⟨d,rfl,h.symm⟩
  | succ i=>
   simp only[av,List.cons_append,gt] at h;rcases c h with⟨e,b,a⟩ | ⟨b,a⟩
   .exact .inl ⟨e,by simpa using b,a⟩
   show .inr ⟨by simp;ext,?_⟩;rw[aG];rw[show i+1-(ds.length+1)=i-ds.length by ext];show a
theorem U0{n i:Nat}:gt (List.replicate n Sl.un) i=.un:=by
 induction n generalizing i with
 | zero=>simp[gt]
 | succ n a=>
  cases i with
  | zero=>rfl
  | succ i=>show a
theorem Kz{K:J'}{G H:Hp}{N:List Str}{e:List V}{ds:List D}(s:cq G H)(r:bY K G e ds):cP K G H (pZ N ds) (k7 N e) G H:=by
 have l:=r.length;have c:∀{i:Nat}{t:Sl},gt (pZ N ds) i=t->t≠.un->∃d,ds[i]?=some d/\t=.fz d:=λ{i t} h n=>by
  rcases VL h with h | ⟨_,h⟩
  .exact h
  rw[U0] at h;show absurd h.symm n
 show⟨.refl s,by simp[k7,pZ,l],λi d h=>?_,λi g h=>?_,λi j g fs _ h=>?_,λ_=>none,λi g _ h=>?_,λi o h=>?_⟩
 .obtain⟨d',b,a⟩:=c h (by simp);cases a;obtain⟨v,f,k⟩:=r.get b;have m:i<e.length:=(ah.mp f).1;show⟨v,?_,k⟩;unfold k7;rw[bS (by simpa using m),ao,f];rfl
 .obtain⟨d',b,a⟩:=c h (by simp);cases a
 .obtain⟨d',b,a⟩:=c h (by simp);cases a
 .obtain⟨d',b,a⟩:=c h (by simp);cases a
 obtain⟨d',b,a⟩:=c h (by simp);cases a
section
variable{P:Program}{w:World}{K:J'}{mg:Str->Option Value}{base:Heap}
theorem sy{x a:Str}{st:Stmt}{f:Addr}{i:FuncData}{N ps:List Str}{k:Nat}{t:eJ}{T:TX}{m:Value}(F:oQ m K x a st f i)(S:ck N ps (bZ st))
  (body:∀(d:Value)(A:Around)(outer:List Env)(s:Shared)(H:Hp)(E:XK),dG k (A.deeper (envOfC a (bZ st) s.heap.objs.size f d))->kX (jV jt P w K mg base N a (bZ st) f d A outer s H E).lg (cO st) T)
  (c:∀(ds:List D)(b:R->Prop),ds.length=ps.length->t ds b->T { nx:=λ_=>b (.fz .non),rt:=b } (pZ N ds)):iC P w K mg base jt (k+1) f i ps (x9 K ps.length t):=by
 show F.ok S (λj H Q E h=>?_) (λd A outer s H j Q E l h=>?_)
 .obtain⟨G,ds,b,_,r,g,_⟩:=h;rw[r.length,g]
 obtain⟨G,ds,b,s0,r,g,ht,k0⟩:=h;obtain⟨tt,p,q⟩:=body d A outer s H E l;show⟨tt,p,q _ _ G H G H _ _ (Kz s0 r) (c ds b g ht) ⟨λo σ n H' _ e h=>k0 _ H' _ n e.e (eY (Eo _ _)) h,k0,λ_ _ _ _ _ _ h=>h.elim,λ_ _ _ _ _ _ h=>h.elim⟩⟩
end
section
variable{X:Cx}{k n:Nat}{f:Addr}{fd:FuncData}{ps:List Str}{t:eJ}{x:Str}{p pos:Pos}{e:Expr}{es:List Expr}{ts:iJ}
def e8(n:Nat)(t:eJ)(ts:iJ):TD:=λa Q=>ts a λds=>ds.length=n/\t ds Q
theorem Ry(F:iC X.prog X.w X.K X.mg X.base jt k f fd ps (x9 X.K n t))(j:dG k X.A)(hm:X.mg x=some (.ref f))(hk:PySem.W.keepIn X.K (.ref f)=true)(hb:Binds X.K fd ps [])(ha:mP X (e::es) ts)(hg:Gl X x:=by rfl)(i:(x==("__debug__":Str))=false:=by decide)
  (l:starEach (e::es) X.env=(false,eval e X.env)::starEach es X.env:=by rfl) (m:(backTo pos (starEach es X.env)).any (·.1)=false:=by rfl):PD X (.Call (.Name x p) (e::es) [] pos) (e8 n t ts):=by
 obtain⟨tt,pp,q⟩:=ha;show⟨_,Er F j hg hm hk hb .nil IY pp i l m,λb σ z u G H Q P E h k=>q b σ z u G H _ _ E h λC H' ds B x rs a=>?_⟩;rw[List.append_nil];show⟨B,ds,Q,x.s,rs,a.1,a.2,λv o r y c d g=>k v o r y (x.trans c) (d.f9 x.h) g⟩
end
open PySem.StrLaws
noncomputable def jU{a:Type}(xs:List a)(b c:Option Int):List a:=(xs.drop (HT.dB xs.length 0 b)).take (HT.dB xs.length xs.length c-HT.dB xs.length 0 b)
noncomputable def pP(z:Str)(a b:Option Int):Str:=⟨(jU z.cps.toList a b).toArray⟩
theorem tT(v:Int)(n d:Nat):max 0 (min (if v<0 then v+(n:Int) else v) (n:Int))=((HT.dB n d (some v):Nat):Int):=by
 rw[<-HT.lD];by_cases h:v<0
 .rw[if_pos h,if_pos h];ext
 rw[if_neg h,if_neg h];ext
theorem LQ(z:Str)(d c:Option Int):(Builtin.Str.strSliceIndices d c 1 z.length).filterMap (z.cps[·]?)=jU z.cps.toList d c:=by
 have i:z.cps.toList.length=z.length:=by simp[Str.length]
 have e:Builtin.Str.strSliceIndices d c 1 z.length=sliceRange ((HT.dB z.length 0 d:Nat):Int) ((HT.dB z.length z.length c:Nat):Int) 1:=by
  unfold Builtin.Str.strSliceIndices;cases d with
  | none=>
   cases c with
   | none=>rfl
   | some v=>simp only[show((1:Int)>0) from by decide,br,tT v z.length z.length];rfl
  | some u=>
   cases c with
   | none=>simp only[show((1:Int)>0) from by decide,br,tT u z.length 0];rfl
   | some v=>simp only[show((1:Int)>0) from by decide,br,tT v z.length z.length,tT u z.length 0]
 rw[e];unfold jU;rw[i];generalize ha:HT.dB z.length 0 d=a;generalize hb:HT.dB z.length z.length c=b;have g:b<=z.length:=by rw[<-hb];show HT.jo _ _ (au _) _
 have j:a<=z.length:=by rw[<-ha];show HT.jo _ _ (bc _) _
 by_cases f:a<=b
 .have:=sliced_plain z f g;rw[strSliceIndices_plain f g] at this;rw[<-this];unfold sliceRange;simp only[show((1:Int)>0) from by decide,br];congr 1
  by_cases h:a<b
  .rw[if_pos (by ext)];rw[show(((b:Int)-(a:Int)+1-1)/1).toNat=b-a by ext];apply List.map_congr_left;intro k _;show((a:Int)+1*(k:Int)).toNat=a+k;ext
  rw[if_neg (by ext),show b-a=0 by ext];rfl
 rw[show b-a=0 by ext,List.take_zero];unfold sliceRange;simp only[show((1:Int)>0) from by decide,br];rw[if_neg (by ext)];rfl
theorem TZ(z:Str)(b a:Option Int):Txt.slice z b a=pP z b a:=by
 unfold Txt.slice pP;split
 .rename_i h;have h':(Builtin.Str.strSliceIndices b a 1 z.length).length=z.length:=by simpa using h
  have f:z.cps.toList.length=z.length:=by simp[Str.length]
  have e:=LQ z b a;have g:(jU z.cps.toList b a).length=z.length:=by
   unfold jU;rw[aO,List.length_drop,f];have i:Builtin.Str.strSliceIndices b a 1 z.length=sliceRange ((HT.dB z.length 0 b:Nat):Int) ((HT.dB z.length z.length a:Nat):Int) 1:=by
    unfold Builtin.Str.strSliceIndices;cases b with
    | none=>
     cases a with
     | none=>rfl
     | some v=>simp only[show((1:Int)>0) from by decide,br,tT v z.length z.length];rfl
    | some u=>
     cases a with
     | none=>simp only[show((1:Int)>0) from by decide,br,tT u z.length 0];rfl
     | some v=>simp only[show((1:Int)>0) from by decide,br,tT v z.length z.length,tT u z.length 0]
   rw[i] at h';unfold sliceRange at h';simp only[show((1:Int)>0) from by decide,br,af,bR] at h';have j:=HT.jo z.length z.length (au _) a;have k:=HT.jo z.length 0 (bc _) b;by_cases c:((HT.dB z.length 0 b:Nat):Int)<((HT.dB z.length z.length a:Nat):Int)
   .rw[if_pos c] at h';ext
   rw[if_neg c] at h';simp at h';ext
  apply Str.ext';show z.cps=(jU z.cps.toList b a).toArray;have c:jU z.cps.toList b a=z.cps.toList:=by
   unfold jU at g ⊢;rw[aO,List.length_drop,f] at g;rw[f];have j:=HT.jo z.length z.length (au _) a;have d:HT.dB z.length 0 b=0\/z.length=0:=by ext
   rcases d with d | d
   .rw[d,List.drop_zero,Nat.sub_zero];show bK (by ext)
   have:z.cps.toList=[]:=List.eq_nil_of_length_eq_zero (by ext);rw[this];simp
  rw[c]
 rw[LQ]
section
variable{X:Cx}{pos:Pos}{e:Expr}{te:TD}
theorem vC:uQ X (λx lo a H Q=>∃z,x=.str z/\z.length<=sizeLine/\Q (.str (pP z lo a)) H):=by
 intro n s σ H x v w r lo a sl Q I b e pl pu h;obtain⟨z,rfl,hz,q⟩:=h;obtain⟨t,rfl⟩:=b;show⟨"str",_,F.slot_str_getitem.lookup,typeIs_str _ _ _,?_⟩;have part:∀{u:Value}{o:Option Int},IsPart u o->∃p:Option (Int×Tok),u=partValue p/\p.map (·.1)=o:=λh=>by
  cases h with
  | none=>show⟨none,rfl,rfl⟩
  | int i t=>show⟨some (i,t),rfl,rfl⟩
 obtain⟨d,rfl,m⟩:=part pl;obtain⟨c,rfl,j⟩:=part pu;obtain⟨o,f,g,hd⟩:=e;show wpAny_getItem_str_slice (l:=d) (u:=c) (st:=none) ⟨o,f,g,hd⟩ rfl ?_;have fin:∀t' k,EP X n σ Q (.str (Txt.slice z lo a) t') { s with toks:=k }:=λt' k=>⟨.str (pP z lo a),H,I.tok k,⟨t',by rw[TZ]⟩,q⟩
 have hle:=bO (Txt.slice_le z lo a) hz;subst m j;show post_val_or_str ⟨hle,fin⟩
noncomputable abbrev Bc:=Ev->(Option Int->Prop)->Prop
def Du(X:Cx)(e:Option Expr)(t:Bc):Prop:=∃tt,PO X e tt/\∀(a:Ev)(σ:St)(c b G H:Hp)(Q:Option Int->Prop)(P:Option Int->Hp->Prop),cP X.K c b a σ G H->t a Q->(∀o H' d,Ext G H d H'->Q o->P o H')->tt σ H P
def qu:Bc:=λ_ Q=>Q none
def mT(te:TD):Bc:=λa Q=>te a λr=>match r.val with
 | .int i=>Q (some i)
 | _=>False
theorem sD:Du X none qu:=⟨_,Q2,λa σ c b G H Q P E h k=>k none H G (.refl E.e.s) h⟩
theorem oo(h:PD X e te):Du X (some e) (mT te):=by
 obtain⟨t,p,q⟩:=h;show⟨_,Q1 p,λc σ m j G H Q P E h k=>q c σ m j G H _ _ E h λv H' r n x f b=>?_⟩;obtain⟨l,d,a,_⟩:=f.freeze x;split at b
 .rename_i i g;rw[g] at a;simp only[Rep] at a;show⟨i,a,k _ H' l d b⟩
 show b.elim
def oN(te:TD)(tl c:Bc):TD:=λb Q=>te b λr=>tl b λlo=>c b λa=>match r.val with
 | .lst ds=>Q (.ow (jU ds lo a))
 | .str z=>z.length<=sizeLine/\Q (.fz (.str (pP z lo a)))
 | .tup ds=>¬(HT.dB ds.length 0 lo=0/\HT.dB ds.length ds.length a=ds.length)/\Q (.fz (.tup (jU ds lo a)))
 | _=>False
theorem Ke{K:J'}{G:Hp}{xs:List V}{ds:List D}(r:bY K G xs ds)(a b:Option Int):bY K G (rm xs a b) (jU ds a b):=by
 unfold rm jU;rw[r.length];show(r.drop _).take _
theorem qh{d f:Option Expr}{tl D:Bc}{u:Pos}(U:PD X e te)(T:Du X d tl)(hh:Du X f D):PD X (.Subscript e (.Slice d f none u) pos) (oN te tl D):=by
 obtain⟨t1,R,N⟩:=U;obtain⟨t2,u,M⟩:=T;obtain⟨t3,O,L⟩:=hh;show⟨_,Tw (sL.or (vC.or O7)) R u O,λo σ A y G H Q P E h k=>N o σ A y G H _ _ E h λv H' r G' x J S=>?_⟩;obtain⟨Z,t,I,_⟩:=J.freeze x;show M o σ A y Z H' _ _ (E.ext t) S λd W Y q V=>?_
 show L o σ A y Y W _ _ ((E.ext t).ext q) V λf F n C i=>?_
 have b:=(t.trans q).trans C;have c:=(I.mono q.g).mono C.g;split at i
 .rename_i ds l;rw[l] at c;simp only[Rep] at c;obtain⟨a,xs,rfl,w,m⟩:=c;show .inl ⟨a,xs,rfl,(b.s.fW w).sq,λp j=>?_⟩;show k _ _ (.ow _) n (b.trans (.own b.s j)) ⟨p,_,rfl,b.h.free j,b.s.free j,eT,Ke m d f⟩ i
 .rename_i z l;rw[l] at c;simp only[Rep] at c;show .inr (.inl ⟨z,c,i.1,k _ _ _ n b (eY (yI _ _ _)) i.2⟩)
 .rename_i ds l;rw[l] at c;simp only[Rep] at c;obtain⟨a,xs,rfl,w,m⟩:=c;show .inr (.inr ⟨a,xs,rfl,b.s.j4 w,by rw[m.length];show i.1,λp j=>?_⟩);have B:Ext n F (upd n p (.tup (rm xs d f))) (upd F p (.tup (rm xs d f))):=.new b.s j;show k _ _ (.fz _) _ (b.trans B) ?_ i.2;show Rep X.K _ _ (.tup _);simp only[Rep];show⟨p,_,rfl,eT,(Ke m d f).mono B.g⟩
 show i.elim
def pO:eJ:=λds Q=>match ds with
 | [.lst a]=>Q (.fz (.int a.length))
 | [.tup a]=>Q (.fz (.int a.length))
 | [.str z]=>z.length<=sizeLine/\Q (.fz (.int z.length))
 | _=>False
theorem tS:nG X (.builtin "len") pO:=by
 show⟨_,jc.or VA,λG H e ds Q P s rs h k=>?_⟩;unfold pO at h;split at h
 .obtain⟨v,rfl,b⟩:=mD rs;simp only[Rep] at b;obtain⟨a,xs,rfl,d,c⟩:=b;show .inl ⟨a,xs,rfl,.inl ((s.fW d).sq),?_⟩;rw[c.length];show k _ _ _ G (.refl s) (eY (jy _ _ _)) h
 .obtain⟨v,rfl,b⟩:=mD rs;simp only[Rep] at b;obtain⟨a,xs,rfl,d,c⟩:=b;show .inl ⟨a,xs,rfl,.inr (s.j4 d),?_⟩;rw[c.length];show k _ _ _ G (.refl s) (eY (jy _ _ _)) h
 .obtain⟨v,rfl,b⟩:=mD rs;simp only[Rep] at b;subst b;show .inr ⟨_,rfl,h.1,k _ _ _ G (.refl s) (eY (jy _ _ _)) h.2⟩
 show h.elim
def tR(i:Nat):TD:=λa Q=>match gt a i with
 | .ow ds=>Q (.fz (.int ds.length))
 | _=>False
theorem yL(i:Nat){x:Str}{p b:Pos}(hm:X.mg "len"=none)(hN:X.N[i]?=some x:=by rfl)(c:hZ X.env.scope x:=by first | show Or.inl rfl | show Or.inr (Or.inl rfl) | show Or.inr (Or.inr rfl))(hg:Gl X "len":=by rfl)(hd:(x==("__debug__":Str))=false:=by decide)
  (j:(x==("__classdict__":Str))=false:=by decide) (l:starEach [Expr.Name x b] X.env=(false,eval (.Name x b) X.env)::starEach [] X.env:=by rfl):PD X (.Call (.Name "len" p) [.Name x b] [] pos) (tR i):=by
 show⟨_,vq jc hg hm boot_len (ie (iK hN c hd j) kl l),λm σ r q G H Q P E h k=>?_⟩;unfold tR at h;split at h
 .rename_i ds hg;obtain⟨a,xs,g,f,o,n,d⟩:=E.ow i ds hg;show⟨_,g,a,xs,rfl,.inl (eh.of f),?_⟩;rw[d.length];show k _ _ _ G (.refl E.e.s) (eY (jy _ _ _)) h
 show h.elim
noncomputable def lN:List D->Option (List Bool)
 | []=>some []
 | .bl b::r=>(lN r).map (b::·)
 | _=>none
theorem Ly:∀{ds:List D}{bs:List Bool},lN ds=some bs->ds=bs.map D.bl
 | [],bs,h=>by simp[lN] at h;subst h;rfl
 | .bl b::r,bs,h=>by
  simp only[lN,bA] at h;obtain⟨c,a,rfl⟩:=h;rw[Ly a];rfl
 | .non::r,bs,h=>by simp[lN] at h
 | .int _::r,bs,h=>by simp[lN] at h
 | .str _::r,bs,h=>by simp[lN] at h
 | .tup _::r,bs,h=>by simp[lN] at h
 | .lst _::r,bs,h=>by simp[lN] at h
 | .obj _ _::r,bs,h=>by simp[lN] at h
 | .dic _::r,bs,h=>by simp[lN] at h
 | .dit _::r,bs,h=>by simp[lN] at h
 | .exc _ _::r,bs,h=>by simp[lN] at h
theorem Lx(bs:List Bool):lN (bs.map D.bl)=some bs:=by
 induction bs with
 | nil=>rfl
 | cons b r a=>simp[lN,a]
theorem Kb{K:J'}{G:Hp}:∀{bs:List Bool}{a:List V},bY K G a (bs.map D.bl)->a=bs.map V.bl
 | [],[],_=>rfl
 | b::bs,v::a,h=>by
  simp only[av,bY,Rep] at h;rw[h.1,Kb h.2];rfl
 | [],_::_,h=>by simp only[List.map_nil,bY] at h
 | _::_,[],h=>by simp only[av,bY] at h
theorem Si{bs:List Bool}{us:List Value}(h:Vals (bs.map V.bl) us){i:Nat}{v:Value}(c:us[i]?=some v):∃b,bs[i]?=some b/\v=.bool b:=by
 have f:=h.length;have g:i<us.length:=(ah.mp c).1;have a:i<bs.length:=by rw[af] at f;ext
 obtain⟨u,d,e⟩:=h.get (i:=i) (x:=V.bl bs[i]) (by simp[a]);rw[c] at d;cases d;show⟨bs[i],by simp[a],e⟩
theorem Rx{s:Shared}{h':Heap}{o:Obj}(hk:∀b x,b∉[s.heap.objs.size]->(s.heap.push o).get? b=some x->h'.get? b=some x):∀b x,s.heap.get? b=some x->h'.get? b=some x:=
 λb x e=>hk b x (λhm=>by rw[aM.mp hm] at e;show Nat.lt_irrefl _ (aq e)) (ae _ e)
theorem Rw(bs:List Bool):((List.range bs.length).all λi=>(bs[i]?).getD true)=bs.all id:=by
 rw[Bool.eq_iff_iff];simp only[List.all_eq_true,aR,id];constructor
 .intro h b hb;obtain⟨i,a,rfl⟩:=List.mem_iff_getElem.mp hb;simpa[a] using h i a
 intro h i a;simpa[a] using h _ (bJ a)
theorem TY(j:X.calm=true):cW X (.builtin "all") (λxs H Q=>∃(p:Addr)(bs:List Bool),xs=[.ref p]/\eh X.K H p (bs.map V.bl)/\Q (.bl (bs.all id)) H):=by
 intro o s σ H xs us Q I r h;obtain⟨p,bs,rfl,f,q⟩:=h;obtain⟨u,rfl,d⟩:=lP r;cases d;obtain⟨its,a,pl,hz⟩:=I.list f;have l:p<s.heap.objs.size:=by obtain⟨_,_,e,_⟩:=pl;show aq e
 have g:its.length=bs.length:=by rw[<-a.length,af]
 show call_all_walk (wpAny_pyIter_list pl.isList ?_);show⟨s.heap.objs.size,[s.heap.objs.size,p],[s.heap.objs.size],its.toArray.size,_,_,λi=>(bs[i]?).getD true,rfl,Walks.list (A:=X.A.in1) (I.ok.hd j) _ p (aE l) its.toArray,
  ⟨⟨_,az _ rfl,rfl,rfl⟩,pl.isList.push _⟩,λi v m n t k c=>?_,λh' tk hk=>?_⟩
 .obtain⟨b,e,rfl⟩:=Si a (i:=i) (v:=v) (by simpa using k);simp only[e,Option.getD_some] at c;show wpAny_truthy_bool c
 rw[ay,g,Rw];show⟨.bl _,H,I.kept (Rx hk),rfl,q⟩
def rl:eJ:=λds Q=>match ds with
 | [.lst a]=>match lN a with
  | some bs=>Q (.fz (.bl (bs.all id)))
  | none=>False
 | _=>False
theorem DZ(e:X.calm=true):nG X (.builtin "all") rl:=by
 show⟨_,TY e,λG H f ds Q P s rs h k=>?_⟩;unfold rl at h;split at h
 .split at h
  .rename_i g bs hb;obtain⟨v,rfl,b⟩:=mD rs;simp only[Rep] at b;obtain⟨a,xs,rfl,d,c⟩:=b;rw[Ly hb] at c;rw[Kb c] at d;show⟨a,bs,rfl,(s.fW d).sq,k _ _ _ G (.refl s) (eY (jZ _ _ _)) h⟩
  show h.elim
 show h.elim
end
section
variable{X:Cx}{pos:Pos}{e:Expr}{te:TD}
noncomputable def jP:D->String
 | .non=>"NoneType"
 | .bl _=>"bool"
 | .int _=>"int"
 | .str _=>"str"
 | .tup _=>"tuple"
 | .lst _=>"list"
 | .obj _ _=>"object"
 | .dic _=>"dict"
 | .dit _=>"dict"
 | .exc _ _=>"object"
noncomputable def fF(t T:String):Bool:=(t==T)||(t=="bool"&&T=="int")
theorem tV{K:J'}{t T:String}(ht:t∈["NoneType","bool","int","str","tuple","list"])(a:T∈["bool","int","str","tuple","list"]):PySem.W.kitOne K (.type t) (.type T)=some (fF t T):=by
 simp only[aj,aS,or_false] at ht a;rcases ht with rfl | rfl | rfl | rfl | rfl | rfl<;>rcases a with rfl | rfl | rfl | rfl | rfl<;>(first | rfl | decide | (unfold PySem.W.kitOne PySem.W.kitCls;decide +kernel))
noncomputable def mB:D->Bool
 | .obj _ _=>false
 | .dic _=>false
 | .dit _=>false
 | .exc _ _=>false
 | _=>true
theorem Sh{T:String}(f:T∈["bool","int","str","tuple","list"]):cW X (.builtin "isinstance") (λxs H Q=>∃x d,xs=[x,.ty T]/\Rep X.K H x d/\mB d=true/\Q (.bl (fF (jP d) T)) H):=by
 intro p s σ H xs us Q I r h;obtain⟨x,d,rfl,b,g,q⟩:=h;obtain⟨u,c,rfl,e,rc⟩:=pV r;cases (show c=Value.type T from rc);have fin:∀tk,EP X p σ Q (.bool (fF (jP d) T)) { s with toks:=tk }:=λtk=>⟨.bl _,H,I.tok tk,rfl,q⟩
 cases d with
 | non=>simp only[Rep] at b;subst b;cases (show u=Value.none from e);show PySem.W.kia_one PySem.W.kitx_none I.g8 True.intro (tV (by simp) f) (λz=>nomatch z) fin
 | bl y=>simp only[Rep] at b;subst b;cases (show u=Value.bool y from e);show PySem.W.kia_one PySem.W.kitx_bool I.g8 True.intro (tV (by simp) f) (λz=>nomatch z) fin
 | int i=>simp only[Rep] at b;subst b;obtain⟨t,j⟩:=(show ∃t,u=Value.int i t from e);cases j;show PySem.W.kia_one PySem.W.kitx_int I.g8 True.intro (tV (by simp) f) (λz=>nomatch z) fin
 | str y=>simp only[Rep] at b;subst b;obtain⟨t,j⟩:=(show ∃t,u=Value.str y t from e);cases j;show PySem.W.kia_one PySem.W.kitx_str I.g8 True.intro (tV (by simp) f) (λz=>nomatch z) fin
 | tup ds=>
  simp only[Rep] at b;obtain⟨a,xs,rfl,k,_⟩:=b;cases (show u=Value.ref a from e);obtain⟨its,_,ht,_⟩:=I.tuple (dF.of k);obtain⟨o,m,l,_⟩:=ht;show PySem.W.kia_one PySem.W.kitx_tuple I.g8 ⟨o,m,l⟩ (tV (by simp) f) (λz=>nomatch z) fin
 | lst ds=>
  simp only[Rep] at b;obtain⟨a,xs,rfl,k,_⟩:=b;cases (show u=Value.ref a from e);obtain⟨its,_,ht,_⟩:=I.list k.sq;obtain⟨o,n,m,l,_⟩:=ht;show PySem.W.kia_one PySem.W.kitx_list I.g8 ⟨o,m,l⟩ (tV (by simp) f) (λz=>nomatch z) fin
 | obj=>cases g
 | dic=>cases g
 | dit=>cases g
 | exc=>cases g
def oW(T:String)(te:TD):TD:=λa Q=>te a λr=>mB r.val=true/\Q (.fz (.bl (fF (jP r.val) T)))
theorem rA{T:String}{a:Str}{p b:Pos}(u:PD X e te)(hm:X.mg "isinstance"=none)(m:X.mg a=none)(o:bootBuiltins a=some (.type T))(w:T∈["bool","int","str","tuple","list"]:=by decide)(hg:Gl X "isinstance":=by rfl)(l:Gl X a:=by rfl)(hn:a≠"__name__":=by decide)
  (hd:(a==("__debug__":Str))=false:=by decide) (f:starEach [e,Expr.Name a b] X.env=(false,eval e X.env)::starEach [Expr.Name a b] X.env:=by rfl) (n:starEach [Expr.Name a b] X.env=(false,eval (.Name a b) X.env)::starEach [] X.env:=by rfl)
  (y:(backTo pos (starEach [Expr.Name a b] X.env)).any (·.1)=false:=by rfl):PD X (.Call (.Name "isinstance" p) [e,.Name a b] [] pos) (oW T te):=by
 obtain⟨t,pp,q⟩:=u;show⟨_,vq (Sh w) hg hm boot_isinstance (ie pp (ie (B1 (v:=.ty T) l m o rfl hn hd) kl n) f) (by decide) (by decide) f y,λg σ B z G H Q P E h k=>q g σ B z G H _ _ E h λv H' r C x j d=>?_⟩;obtain⟨A,c,i,_⟩:=j.freeze x;show⟨v,r.val,rfl,i.mono c.s,d.1,k _ _ _ A c (eY (jZ _ _ _)) d.2⟩
end
section
variable{P:Program}{w:World}{K:J'}{mg:Str->Option Value}{base:Heap}
structure Known(P:Program)(w:World)(K:J')(mg:Str->Option Value)(base:Heap)(k:Nat)(x:Str)(n:Nat)(t:eJ):Prop where
 ex:∃(f:Addr)(fd:FuncData)(ps:List Str),iC P w K mg base jt k f fd ps (x9 K n t)/\mg x=some (.ref f)/\PySem.W.keepIn K (.ref f)=true/\Binds K fd ps []
structure At(K:J')(mg:Str->Option Value)(x:Str)(st:Stmt):Prop where
 ex:∃(f:Addr)(fd:FuncData),DC K x x st f fd/\mg x=some (.ref f)
theorem uP{h:Heap}{x:Str}{st:Stmt}{f:Addr}{g:Value}{od i:Option Addr}{e:Array (Option Value)}{kV b pm d ct:Value}(X:K.In h)(G:h.Ns mainGlobals mg)(a:PySem.W.nsIn K mainGlobals x=some (some (.ref f)))
  (l:K.lookup f=some ⟨g,od,.func (PySem.W.fnOf x x (e9 st) (cO st) (bZ st) .none kV b pm i d ct),e⟩) (c:PySem.W.codeIn K d x=true) (k:PySem.W.keepIn K (.ref f)=true):At K mg x st:=
 ⟨f,_,qV l c k,PySem.W.mg_of X G a⟩
end
section
variable{X:Cx}{k k' n:Nat}{t:eJ}{x:Str}{p pos:Pos}{e:Expr}{es:List Expr}{ts:iJ}
theorem fY(C:Known X.prog X.w X.K X.mg X.base k x n t)(b:dG k' X.A)(ha:mP X (e::es) ts)(hk:k<=k':=by decide)(hg:Gl X x:=by rfl)(a:(x==("__debug__":Str))=false:=by decide)
  (c:starEach (e::es) X.env=(false,eval e X.env)::starEach es X.env:=by rfl) (d:(backTo pos (starEach es X.env)).any (·.1)=false:=by rfl):PD X (.Call (.Name x p) (e::es) [] pos) (e8 n t ts):=by
 obtain⟨f,fd,ps,F,hm,kp,hb⟩:=C.ex;show Ry F (b.mono hk) hm kp hb ha hg a c d
end
noncomputable def Ka(a:Str->Option NameKind)(N N':List Str)(m:List (Option Nat))(scope:Scope):Bool:=
 (scope.kind==.function)&&(m.length==N'.length)&&(scope.names.all λy=>scope.names.lookup y.1==some y.2) &&
 (scope.names.all λy=>y.2 != .free||a y.1==some .cell||a y.1==some .free) &&
 ((m.zip N').all λp=>match p.1 with
   | none=>true
   | some j=>N[j]?==some p.2&&scope.names.lookup p.2==some .free)
theorem cD.of{X:Cx}{N':List Str}{m:List (Option Nat)}{scope:Scope}(h:Ka X.env.kindOf X.N N' m scope=true):cD X N' m scope:=by
 unfold Ka at h;simp only[bj,beq_iff_eq,List.all_eq_true,Bool.or_eq_true,bne_iff_ne,ne_eq] at h;obtain⟨⟨⟨⟨g,f⟩,d⟩,c⟩,b⟩:=h;show⟨g,f,λy a=>d y a,λy a e=>?_,λi j x hm hN=>?_⟩
 .rcases c y a with(z | z) | z
  .exact absurd e z
  .exact .inl z
  show .inr z
 have hz:(some j,x)∈m.zip N':=by
  apply aw (i:=i);rw[List.getElem?_zip_eq_some];show⟨hm,hN⟩
 have:=b _ hz;simpa using this
theorem Va{K:J'}{G:Hp}{a:Addr}{b:List Int}(h:kc K G a (b.map V.int)):Rep K G (.ref a) (.lst (b.map D.int)):=by
 simp only[Rep];show⟨a,_,rfl,h,?_⟩;clear h;induction b with
 | nil=>show bY.nil
 | cons n r c=>show bY.cons (jy _ _ _) c
def DY(n:Nat):eJ:=λds Q=>∃ns:List Int,ds=[.lst (ns.map .int)]/\ns.length<=n/\Q (.fz (.bl true))
theorem ot{l:PySem.W.OpenLaw}{n k:Nat}{q:Program}{c:List Str}{O:(Str->Option Value)->Heap->Prop}{y:World->Heap->Prop}{d:DefRec}{K:Params->J'}{x:Str}
  (hn:l.most=some n) (Q:n<=sizeLine) (P:d.params.defaults=[]) (B:dG k callerA) (C:∀(w:World)(h:Heap),y w h->(K w.params).In h)
  (F:∀(w:World)(mg:Str->Option Value)(fa:Addr)(h:Heap),(K w.params).In h->h.Ns mainGlobals mg->mg d.name=some (.ref fa)->
   ∃fd:FuncData,(∀(s:Shared)(u:Value),BindsTo s fd ⟨[u],[]⟩ [(x,u)])/\∀base:Heap,iC l.prog w (K w.params) mg base jt k fa fd [x] (x9 (K w.params) 1 (DY n))) :
  PySem.W.WalkO q c O y l.row.toRowW d [] (λf i=>PySem.call f i):=by
 show NB.l6 hn P λw c7 cE mg mb fa o pm cd doc a i ns G Y S hd eX tf p hints hlen hg=>?_
 have KX:=C w _ Y;obtain⟨fd,hb,E⟩:=F w mg fa _ KX G.T.g tf;show Sv KX G.T.g G.T.b G.T.builtins G.T.nolimit hg p hints (bO hlen Q) B (λbase _ _=>E base) hb (λH U j=>?_) λH e R z=>z
 have D:kc (K w.params) H a (ns.map V.int):=by
  rcases j with j | ⟨o,its,m,t,Z,X,L,J,I⟩
  .exact .inl j
  have e:=KX a o t;rw[p] at e;cases e;have N:Data.seq i.toArray _=Data.seq its m:=L;injection N with M e2
  subst M;show .inr ⟨_,_,t,J,I⟩
 show⟨H,[.lst (ns.map .int)],λr=>r=.fz (.bl true),cq.refl _,bY.cons (Va D) bY.nil,rfl,⟨ns,rfl,hlen,rfl⟩,λv H' r G' _ A e=>?_⟩;subst e;simpa only[dm,Rep] using A
theorem OZ{P:Program}{w:World}{K:J'}{mg:Str->Option Value}{st:Stmt}{N:List Str}{x:Str}{k:Nat}{t:eJ}{T:Heap->TX}{fa:Addr}(d:At K mg "law" st)(tf:mg "law"=some (.ref fa))(S:ck N [x] (bZ st))
  (hb:∀(kV doc pm:Value)(an:Option Addr)(a ct:Value)(us:List Value),us.length=1->bindArgs (PySem.W.fnOf "law" "law" (e9 st) (cO st) (bZ st) .none kV doc pm an a ct) ⟨us,[]⟩=pure ([x].zip us))
  (body:∀(base:Heap)(f:Addr)(a:Value)(A:Around)(outer:List Env)(s:Shared)(H:Hp)(E:XK),dG k (A.deeper (envOfC "law" (bZ st) s.heap.objs.size f a))->kX (jV jt P w K mg base N "law" (bZ st) f a A outer s H E).lg (cO st) (T base))
  (b:∀(base:Heap)(ds:List D)(c:R->Prop),ds.length=1->t ds c->T base { nx:=λ_=>c (.fz .non),rt:=c } (pZ N ds)) :
  ∃fd:FuncData,(∀(s:Shared)(u:Value),BindsTo s fd ⟨[u],[]⟩ [(x,u)])/\∀base:Heap,iC P w K mg base jt (k+1) fa fd [x] (x9 K 1 t):=by
 obtain⟨f,fd,F,hm⟩:=d.ex;rw[tf] at hm;cases hm;show⟨fd,λs u=>?_,λbase=>sy F S (body base fa) (b base)⟩;obtain⟨g,od,kV,doc,pm,an,a,ct,e,rfl,lk,h⟩:=F.ex;show .of_eq (hb kV doc pm an a ct [u] rfl)
def rZ(i:Nat)(t:TX):TX:=λD a=>t D (iH i a)
theorem rq(d:D):(R.fz d).val=d:=rfl
theorem wX(ds:List D):(R.ow ds).val=.lst ds:=rfl
theorem IV(d:D):(R.fz d).sl=.fz d:=rfl
theorem Ot(ds:List D):(R.ow ds).sl=.ow ds:=rfl
theorem J9{j:Type}{l:jQ}{m:List (Option Nat)}{g:iA}{tc:gX}{te:TD}{c:Ev}{Q:R->Prop}(L:List j)(k:j->D)(f:j->Option D)(hw:∀o:List D->Prop,o (L.map k)->l c o)(t:L.length<=sizeLine)
  (h:∀x∈L,∀(p:D->Prop)(s:Prop),(∀e,f x=some e->p e)->(f x=none->s)->g (k x) (c9 m c) λn=>tc n λb=>if b=true then te n λr=>p r.val else s)
  (q:Q (.ow (L.filterMap f))):hU l m g tc te c Q:=by
 show hw _ ⟨λi acc=>acc=(L.take i).filterMap f,rfl,λi d acc hd ha=>?_,λacc ha=>?_⟩
 .rw[ao] at hd;cases a:L[i]? with
  | none=>rw[a] at hd;cases hd
  | some x=>
   rw[a] at hd;cases hd;have u:i<L.length:=(ah.mp a).1;have e:L.take (i+1)=L.take i++[x]:=by rw[aQ,a];rfl
   have hlen:acc.length<sizeLine:=by
    rw[ha];show Nat.lt_of_le_of_lt (List.length_filterMap_le _ _) ?_;rw[aO];ext
   show h x (aw a) (λe=>acc.length<sizeLine/\acc++[e]=(L.take (i+1)).filterMap f) (acc=(L.take (i+1)).filterMap f)
    (λz hz=>⟨hlen,by rw[e,List.filterMap_append,ha];simp[hz]⟩) (λhz=>by rw[e,List.filterMap_append,ha];simp[hz])
 dsimp only at ha;rw[af,bo] at ha;rw[ha];show q
theorem lT{i:Type}{j:jQ}{m:List (Option Nat)}{g:iA}{te:TD}{d:Ev}{Q:R->Prop}(L:List i)(c f:i->D)(hw:∀k:List D->Prop,k (L.map c)->j d k)(n:L.length<=sizeLine)
  (h:∀x∈L,∀(b:D->Prop),b (f x)->g (c x) (c9 m d) λp=>te p λr=>b r.val) (q:Q (.ow (L.map f))):hU j m g jk te d Q:=by
 show J9 L c (λx=>some (f x)) hw n (λx l b t o _=>?_) ?_
 .have:=h x l b (o _ rfl);simpa[jk] using this
 have e:L.filterMap (λx=>some (f x))=L.map f:=by
  induction L with
  | nil=>rfl
  | cons a r s=>simp
 rw[e];show q
theorem Ct{k:Type}{l:jQ}{m:List (Option Nat)}{g:iA}{tc:gX}{te:TD}{j:Ev}{Q:R->Prop}(L:List k)(i f:k->D)(p:k->Bool)(hw:∀s:List D->Prop,s (L.map i)->l j s)(n:L.length<=sizeLine)
  (h:∀x∈L,∀(c:D->Prop)(d:Prop),(p x=true->c (f x))->(p x=false->d)->g (i x) (c9 m j) λo=>tc o λb=>if b=true then te o λr=>c r.val else d)
  (q:Q (.ow ((L.filter p).map f))):hU l m g tc te j Q:=by
 show J9 L i (λx=>if p x=true then some (f x) else none) hw n (λx u c d v h0=>h x u c d (λz=>v _ (by simp[z])) (λz=>h0 (by simp[z]))) ?_;have e:L.filterMap (λx=>if p x=true then some (f x) else none)=(L.filter p).map f:=by
  clear h n hw q;induction L with
  | nil=>rfl
  | cons a r t=>by_cases z:p a=true<;>simp[z,t]
 rw[e];show q
theorem Kx{b:jQ}{g:iA}{c:TX}{D:DE}{a:Ev}(ds:List L2.D)(hw:∀e:List L2.D->Prop,e ds->b a e)(Iv:Nat->Ev->Prop)(f:Iv 0 a)
  (turn:∀i d ρ',ds[i]?=some d->Iv i ρ'->g d ρ' λh=>c { D with nx:=Iv (i+1),ct:=Iv (i+1),bk:=D.nx } h) (fin:∀ρ',Iv ds.length ρ'->D.nx ρ'):jM b g c D a:=hw _ ⟨Iv,f,turn,fin⟩
theorem rC{f:Type}{h:jQ}{g:iA}{j:TX}{D:DE}{b:Ev}(L:List f)(a:f->L2.D)(hw:∀k:List L2.D->Prop,k (L.map a)->h b k)(Iv:Nat->Ev->Prop)(l:Iv 0 b)
  (turn:∀i x ρ',L[i]?=some x->Iv i ρ'->g (a x) ρ' λm=>j { D with nx:=Iv (i+1),ct:=Iv (i+1),bk:=D.nx } m) (fin:∀ρ',Iv L.length ρ'->D.nx ρ'):jM h g j D b:=by
 show Kx (L.map a) hw Iv l (λi d ρ' hd c=>?_) (λρ' c=>fin ρ' (by simpa using c));rw[ao] at hd;cases e:L[i]? with
 | none=>rw[e] at hd;cases hd
 | some x=>rw[e] at hd;cases hd;show turn i x ρ' e c
theorem U9{g:iA}{d:TX}{D:DE}{a:Ev}{c:jQ}(n:Nat)(hw:∀e:List L2.D->Prop,e ((List.range n).map λ(i:Nat)=>.int (0+i))->c a e)(Iv:Nat->Ev->Prop)(m:Iv 0 a)
  (turn:∀(i:Nat) ρ',i<n->Iv i ρ'->g (.int i) ρ' λo=>d { D with nx:=Iv (i+1),ct:=Iv (i+1),bk:=D.nx } o) (fin:∀ρ',Iv n ρ'->D.nx ρ'):jM c g d D a:=by
 show rC (List.range n) (λ(i:Nat)=>.int (0+i)) hw Iv m (λi x ρ' f b=>?_) (λρ' b=>fin ρ' (by simpa using b));obtain⟨l,k⟩:=ah.mp f;have j:i<n:=by simpa using l
 have h:x=i:=by rw[<-k];simp
 subst h;rw[Int.zero_add];show turn x ρ' j b
theorem Xz:(10:Int) ^ Int.toNat 24=1000000000000000000000000:=by decide
theorem Xx:(10:Int) ^ Int.toNat 30=1000000000000000000000000000000:=by decide
theorem OY:rn 10 24=True:=by simp only[rn,eq_iff_iff,iff_true];decide
theorem PL:rn 10 30=True:=by simp only[rn,eq_iff_iff,iff_true];decide
section
variable{X:Cx}{pos:Pos}{e:Expr}{te:TD}{es:List Expr}{ts:iJ}
def Bl(t:TD):TD:=λa Q=>t a λr=>match r.val with
 | .int i=>Q (.fz (.int (-i)))
 | _=>False
theorem Jp(h:PD X e te):PD X (.UnaryOp .USub e pos) (Bl te):=by
 obtain⟨t,p,q⟩:=h;show⟨_,OC Pb p,λc σ m j G H Q P E h k=>q c σ m j G H _ _ E h λv H' r n x f b=>?_⟩;obtain⟨l,d,a,_⟩:=f.freeze x;split at b
 .rename_i i g;rw[g] at a;simp only[Rep] at a;show⟨i,a,k _ _ _ l d (eY (jy _ _ _)) b⟩
 show b.elim
def o4:eJ:=λds Q=>match ds with
 | [.lst es]=>Q (.ow es)
 | [.tup es]=>Q (.ow es)
 | _=>False
theorem sv:nG X (.type "list") o4:=by
 show⟨_,Vz,λG H e ds Q P s rs h k=>?_⟩;unfold o4 at h;split at h
 .obtain⟨v,rfl,b⟩:=mD rs;simp only[Rep] at b;obtain⟨a,xs,rfl,d,c⟩:=b;show⟨a,xs,rfl,.inl (s.fW d).sq,yN s c h k⟩
 .obtain⟨v,rfl,b⟩:=mD rs;simp only[Rep] at b;obtain⟨a,xs,rfl,d,c⟩:=b;show⟨a,xs,rfl,.inr (s.j4 d),yN s c h k⟩
 show h.elim
def Bk:eJ:=λds Q=>match ds with
 | [.int i]=>Q (.fz (.int i))
 | [.bl b]=>Q (.fz (.int (if b then 1 else 0)))
 | _=>False
theorem OX:nG X (.type "int") Bk:=by
 show⟨_,UQ,λG H b ds Q P s rs h k=>?_⟩;unfold Bk at h;split at h
 .obtain⟨v,rfl,a⟩:=mD rs;simp only[Rep] at a;subst a;show .inl ⟨_,rfl,k _ _ _ G (.refl s) (eY (jy _ _ _)) h⟩
 .obtain⟨v,rfl,a⟩:=mD rs;simp only[Rep] at a;subst a;show .inr ⟨_,rfl,k _ _ _ G (.refl s) (eY (jy _ _ _)) h⟩
 show h.elim
noncomputable def kL:List D->Option (List Int)
 | []=>some []
 | .int b::r=>(kL r).map (b::·)
 | _=>none
theorem xy:∀{ds:List D}{bs:List Int},kL ds=some bs->ds=bs.map D.int
 | [],bs,h=>by simp[kL] at h;subst h;rfl
 | .int b::r,bs,h=>by
  simp only[kL,bA] at h;obtain⟨c,a,rfl⟩:=h;rw[xy a];rfl
 | .non::r,bs,h=>by simp[kL] at h
 | .bl _::r,bs,h=>by simp[kL] at h
 | .str _::r,bs,h=>by simp[kL] at h
 | .tup _::r,bs,h=>by simp[kL] at h
 | .lst _::r,bs,h=>by simp[kL] at h
 | .obj _ _::r,bs,h=>by simp[kL] at h
 | .dic _::r,bs,h=>by simp[kL] at h
 | .dit _::r,bs,h=>by simp[kL] at h
 | .exc _ _::r,bs,h=>by simp[kL] at h
theorem Cz(bs:List Int):kL (bs.map D.int)=some bs:=by
 induction bs with
 | nil=>rfl
 | cons b r a=>simp[kL,a]
theorem xr{K:J'}{G:Hp}:∀{bs:List Int}{a:List V},bY K G a (bs.map D.int)->a=bs.map V.int
 | [],[],_=>rfl
 | b::bs,v::a,h=>by
  simp only[av,bY,Rep] at h;rw[h.1,xr h.2];rfl
 | [],_::_,h=>by simp only[List.map_nil,bY] at h
 | _::_,[],h=>by simp only[av,bY] at h
theorem FL{a:List Value}{b:List Int}(c:IntsAre a b):∃xs:Array (Int×Tok),a.toArray=intItems xs/\b=xs.toList.map (·.1):=by
 obtain⟨xs,e⟩:=c.allInts.items;show⟨xs,e,by rw[<-c.numsOf,<-nums_intItems,<-e]⟩
theorem TV(g:X.calm=true):cW X (.builtin "sum") (λxs H Q=>∃(p:Addr)(ns:List Int),xs=[.ref p]/\eh X.K H p (ns.map V.int)/\Q (.int ns.sum) H):=by
 intro j s σ H xs us Q I r h;obtain⟨p,ns,rfl,f,q⟩:=h;obtain⟨u,rfl,c⟩:=lP r;cases c;obtain⟨its,b,pl,hz⟩:=I.list f;obtain⟨ys,e,d⟩:=FL (vw b);have a:=pl.isList;rw[e] at a;show sum_intListG (I.ok.hd g) a λh' tk t' hk=>?_
 have i:preSum (numAt ys) ys.size=ns.sum:=by
  rw[preSum_eq,bK (by simp),d]
 rw[i];show⟨.int _,H,I.kept hk,⟨_,rfl⟩,q⟩
theorem TU(o:X.calm=true):cW X (.builtin "min") (λxs H Q=>∃(p:Addr)(ns:List Int),xs=[.ref p]/\eh X.K H p (ns.map V.int)/\ns≠[]/\∀M,M∈ns->(∀a∈ns,M<=a)->Q (.int M) H):=by
 intro y s σ H xs us Q I r h;obtain⟨p,ns,rfl,m,g,q⟩:=h;obtain⟨u,rfl,k⟩:=lP r;cases k;obtain⟨its,i,pl,hz⟩:=I.list m;obtain⟨ys,e,c⟩:=FL (vw i);have f:=pl.isList;rw[e] at f;have hsz:0<ys.size:=by
  cases d:ys.toList with
  | nil=>rw[c,d] at g;show absurd rfl g
  | cons a b=>have:ys.toList.length=b.length+1:=by rw[d];rfl
              rw[bw] at this;ext
 show min_intList (I.ok.hd o) f hsz λv h' tk l hk=>?_
 obtain⟨t,rfl⟩:=intItems_at l;obtain⟨x,w⟩:=argBest_lt (numAt ys) (ys.size-1);show⟨.int _,H,I.kept hk,⟨_,rfl⟩,q _ ?_ λa ha=>?_⟩
 .rw[c,numAt_eq];show getD_mem (by rw[af,bw];ext)
 rw[c] at ha;obtain⟨j,n,rfl⟩:=mem_getD ha;rw[af,bw] at n;rw[<-numAt_eq];show w j (by ext)
theorem TR(o:X.calm=true):cW X (.builtin "max") (λxs H Q=>∃(p:Addr)(ns:List Int),xs=[.ref p]/\eh X.K H p (ns.map V.int)/\ns≠[]/\∀M,M∈ns->(∀a∈ns,a<=M)->Q (.int M) H):=by
 intro y s σ H xs us Q I r h;obtain⟨p,ns,rfl,m,g,q⟩:=h;obtain⟨u,rfl,k⟩:=lP r;cases k;obtain⟨its,i,pl,hz⟩:=I.list m;obtain⟨ys,e,c⟩:=FL (vw i);have f:=pl.isList;rw[e] at f;have hsz:0<ys.size:=by
  cases d:ys.toList with
  | nil=>rw[c,d] at g;show absurd rfl g
  | cons a b=>have:ys.toList.length=b.length+1:=by rw[d];rfl
              rw[bw] at this;ext
 show max_intList (I.ok.hd o) f hsz λv h' tk l hk=>?_
 obtain⟨t,rfl⟩:=intItems_at l;obtain⟨x,w⟩:=argBest_gt (numAt ys) (ys.size-1);show⟨.int _,H,I.kept hk,⟨_,rfl⟩,q _ ?_ λa ha=>?_⟩
 .rw[c,numAt_eq];show getD_mem (by rw[af,bw];ext)
 rw[c] at ha;obtain⟨j,n,rfl⟩:=mem_getD ha;rw[af,bw] at n;rw[<-numAt_eq];show w j (by ext)
def yi:eJ:=λds Q=>match ds with
 | [.lst es]=>match kL es with
  | some ns=>Q (.fz (.int ns.sum))
  | none=>False
 | _=>False
theorem Jf(e:X.calm=true):nG X (.builtin "sum") yi:=by
 show⟨_,TV e,λG H f ds Q P s rs h k=>?_⟩;unfold yi at h;split at h
 .split at h
  .rename_i es bs hb;obtain⟨v,rfl,b⟩:=mD rs;simp only[Rep] at b;obtain⟨a,xs,rfl,d,c⟩:=b;rw[xy hb] at c;rw[xr c] at d;show⟨a,bs,rfl,(s.fW d).sq,k _ _ _ G (.refl s) (eY (jy _ _ _)) h⟩
  show h.elim
 show h.elim
def wJ:eJ:=λds Q=>match ds with
 | [.lst es]=>match kL es with
  | some ns=>ns≠[]/\∀M,M∈ns->(∀a∈ns,M<=a)->Q (.fz (.int M))
  | none=>False
 | [.int i,.int j]=>Q (.fz (.int (if j<i then j else i)))
 | _=>False
def rj:eJ:=λds Q=>match ds with
 | [.lst es]=>match kL es with
  | some ns=>ns≠[]/\∀M,M∈ns->(∀a∈ns,a<=M)->Q (.fz (.int M))
  | none=>False
 | [.int i,.int j]=>Q (.fz (.int (if j>i then j else i)))
 | _=>False
theorem Je(d:X.calm=true):nG X (.builtin "min") wJ:=by
 show⟨_,(TU d).or (UR d),λG H j ds Q P s rs h k=>?_⟩;unfold wJ at h;split at h
 .split at h
  .rename_i es bs hb;obtain⟨v,rfl,b⟩:=mD rs;simp only[Rep] at b;obtain⟨a,xs,rfl,f,e⟩:=b;rw[xy hb] at e;rw[xr e] at f;show .inl ⟨a,bs,rfl,(s.fW f).sq,h.1,λM i g=>k _ _ _ G (.refl s) (eY (jy _ _ _)) (h.2 M i g)⟩
  show h.elim
 .obtain⟨v,u,rfl,b,c⟩:=yv rs;simp only[Rep] at b c;subst b c;show .inr ⟨_,_,rfl,k _ _ _ G (.refl s) (eY (jy _ _ _)) h⟩
 show h.elim
theorem Bu(d:X.calm=true):nG X (.builtin "max") rj:=by
 show⟨_,(TR d).or (US d),λG H j ds Q P s rs h k=>?_⟩;unfold rj at h;split at h
 .split at h
  .rename_i es bs hb;obtain⟨v,rfl,b⟩:=mD rs;simp only[Rep] at b;obtain⟨a,xs,rfl,f,e⟩:=b;rw[xy hb] at e;rw[xr e] at f;show .inl ⟨a,bs,rfl,(s.fW f).sq,h.1,λM i g=>k _ _ _ G (.refl s) (eY (jy _ _ _)) (h.2 M i g)⟩
  show h.elim
 .obtain⟨v,u,rfl,b,c⟩:=yv rs;simp only[Rep] at b c;subst b c;show .inr ⟨_,_,rfl,k _ _ _ G (.refl s) (eY (jy _ _ _)) h⟩
 show h.elim
noncomputable def Ec:List D->Option (List Str)
 | []=>some []
 | .str b::r=>(Ec r).map (b::·)
 | _=>none
theorem UG(bs:List Str):Ec (bs.map D.str)=some bs:=by
 induction bs with
 | nil=>rfl
 | cons b r a=>simp[Ec,a]
theorem TQ{K:J'}{G:Hp}(bs:List Int):bY K G (bs.map V.int) (bs.map D.int):=by
 induction bs with
 | nil=>show bY.nil
 | cons b r a=>show bY.cons (jy _ _ _) a
end
noncomputable def kK:D->Bool
 | .non=>true
 | .bl _=>true
 | .int _=>true
 | .str _=>true
 | _=>false
def Bt(i:Nat)(te:TD):TD:=λa Q=>te (iH i a) λr=>match r with
 | .fz d=>kK d=true/\Q (.fz d)
 | _=>False
def si(i:Nat)(t:gX):gX:=λa Q=>t (iH i a) Q
theorem xq{K:J'}{G a:Hp}{v:V}{d:D}(h:kK d=true)(r:Rep K G v d):Rep K a v d:=by
 cases d<;>first | (simp only[Rep] at r ⊢;show r) | cases h
noncomputable def less(G:Hp)(L:List Addr):Hp:=λa=>if a∈L then none else G a
theorem Cf{G H a H':Hp}{L:List Addr}(i:∀q∈L,G q=none)(x:Ext (mz G H L) H a H'):Ext G H (less a L) H':=by
 show⟨λb u e=>?_,x.h,λb u e=>?_,λq f d=>?_⟩
 .have hb:b∉L:=λz=>by rw[i b z] at e;cases e
  unfold less;rw[if_neg hb];show x.g b u (by rw[qi hb];show e)
 .unfold less at e;split at e
  .cases e
  show x.s b u e
 unfold less;split
 .rfl
 rename_i c;show x.n q (by rw[qi c];show f) d
section
variable{X:Cx}{e:Expr}{te:TD}{t:gX}
theorem cP.zO{K:J'}{e c G H:Hp}{b:Ev}{a:St}(i:Nat)(E:cP K e c b a G H):∃d,cP K e c (iH i b) a d H/\∀f H',Ext d H f H'->∃h,Ext G H h H':=
 let⟨L,g,j,_⟩:=E.ja i
 ⟨_,j,λf H' x=>⟨_,Cf g x⟩⟩
theorem J8(i:Nat)(h:PD X e te):PD X e (Bt i te):=by
 obtain⟨tt,p,q⟩:=h;show⟨tt,p,λo σ l f G H Q P E h k=>?_⟩;obtain⟨j,n,back⟩:=E.zO i;show q _ σ l f j H _ _ n h λv H' r m x c a=>?_
 split at a
 .rename_i d;obtain⟨g,b⟩:=back m H' x;show k v H' (.fz d) g b (xq a.1 c) a.2
 show a.elim
theorem vh(i:Nat)(h:PB X e t):PB X e (si i t):=by
 obtain⟨tt,p,q⟩:=h;show⟨tt,p,λn σ j d G H Q P E h k=>?_⟩;obtain⟨g,m,back⟩:=E.zO i;show q _ σ j d g H _ _ m h λb H' l x c=>?_
 obtain⟨f,a⟩:=back l H' x;show k b H' f a c
end
section
variable{prog:Program}{w:World}{A:Around}{E:Value->Shared->Prop}{s:Shared}
theorem Z0{b:Type}{a:Array b}(h:a.size=1):∃e,a=#[e]:=⟨a[0]'(by ext),Array.ext (by simpa using h) λi c _=>by
 have:i=0:=by ext
 subst this;rfl⟩
end
section
variable{X:Cx}{pos:Pos}{e i':Expr}{te ti:TD}
def ZU(i:Nat):TX:=λD a=>match gt a i with
 | .ow _=>D.nx (a.set i (.ow []))
 | _=>False
def Ce(i:Nat):TX:=λD a=>match gt a i with
 | .ow ds=>D.nx (a.set i (.ow ds.reverse))
 | _=>False
theorem UE(i:Nat){x:Str}{e f b:Pos}(hN:X.N[i]?=some x:=by rfl)(l:hZ X.env.scope x:=by first | show Or.inl rfl | show Or.inr (Or.inl rfl) | show Or.inr (Or.inr rfl))(hd:(x==("__debug__":Str))=false:=by decide)(n:(x==("__classdict__":Str))=false:=by decide)
  (hb:∀{d:TE},PE X (.Name x e) d->PE X (.Call (.Attribute (.Name x e) "reverse" f) [] [] b) (DH X.K "list" KN d):=by intro d c;show Ju bQ PySem.F.slot_list_reverse PySem.F.type_list_reverse Vd c) :
  PX X (.Expr (.Call (.Attribute (.Name x e) "reverse" f) [] [] b) pos) (Ce i):=by
 show⟨_,tX (hb (iK hN l hd n)),λo σ s r G H D E k h g=>?_⟩;unfold Ce at h;split at h
 .rename_i ds hg;obtain⟨a,xs,c,j,q,p,m⟩:=k.ow i ds hg;show⟨_,c,.inl ⟨rfl,xs,eh.of j⟩,a,xs,rfl,rfl,j,g.nx _ _ G _ (cq.refl _) (k.change hg c m.reverse) h⟩
 show h.elim
def o6(i:Nat)(ti te:TD):TX:=λD a=>match gt a i with
 | .ow ds=>te a λr=>ti a λrk=>match rk.val with
  | .int k=>∃j,kP ds.length k=some j/\D.nx (a.set i (.ow (ds.set j r.val)))
  | _=>False
 | _=>False
theorem Cd(i:Nat){x:Str}{c b:Pos}(R:PD X i' ti)(S:PD X e te)(hN:X.N[i]?=some x:=by rfl)(M:hZ X.env.scope x:=by first | show Or.inl rfl | show Or.inr (Or.inl rfl) | show Or.inr (Or.inr rfl))(hd:(x==("__debug__":Str))=false:=by decide)(U:(x==("__classdict__":Str))=false:=by decide)
  (ha:∀v,assign (.Subscript (.Name x c) i' b) X.env v=(do
   let ov <-holding [v] (eval (.Name x c) X.env)
   let n <-holding [v,ov] (eval i' X.env)
   standAt b
   holding [v,ov,n] (setItem ov n v)
   release [v,ov,n] []):=by intro _;rfl)
  (O:swapsWithSole [.Subscript (.Name x c) i' b] e pos.line X.env=pure false:=by rfl) (hw:swappedStores [.Subscript (.Name x c) i' b] e X.env=pure none:=by rfl)
  (f:(assignEach [.Subscript (.Name x c) i' b] X.env).map (·.2)=[assign (.Subscript (.Name x c) i' b) X.env]:=by rfl) :
  PX X (.Assign [.Subscript (.Name x c) i' b] e pos) (o6 i ti te):=by
 obtain⟨t,p,q⟩:=S;obtain⟨Z,F,K⟩:=R;show⟨_,QL p (QM (iK hN M hd U) F Tv ha) O hw f,λo σ A z G H D E k h g=>?_⟩;unfold o6 at h;split at h
 .rename_i ds hg;obtain⟨a,xs,f,T,h3,h4,y⟩:=k.ow i ds hg;show q o σ A z G H _ _ k h λv H' r G' C J P=>?_
  obtain⟨Y,w,I,_⟩:=J.freeze C;show⟨_,f,K o σ A z Y H' _ _ (k.ext w) P λu H3 rk G3 B L d=>?_⟩;obtain⟨W,s,m,_⟩:=L.freeze B;split at d
  .rename_i kk V;obtain⟨j,Q,d⟩:=d;rw[V] at m;simp only[Rep] at m;have l:=w.trans s;show⟨a,xs,kk,j,rfl,m,l.h _ _ T,by rw[y.length];show Q,?_⟩;show g.nx _ _ W _ l.g ((k.ext l).change hg f ((y.mono l.g).set j (I.mono s.g))) d
  show d.elim
 show h.elim
end
section
variable{κ:Type}[DecidableEq κ]
noncomputable def jg(kvs:List (κ×V))(k:κ):Option V:=(kvs.find? λa=>decide (a.1=k)).map (·.2)
noncomputable def rY(kvs:List (κ×V))(k:κ)(v:V):List (κ×V):=
 if (kvs.any λa=>decide (a.1=k))=true then kvs.map (λa=>if a.1=k then(a.1,v) else a) else kvs++[(k,v)]
theorem Kw{p:κ×V}{r:List (κ×V)}{k:κ}(e:p.1=k):jg (p::r) k=some p.2:=by simp[jg,ba,e]
theorem Kv{p:κ×V}{r:List (κ×V)}{k:κ}(e:¬p.1=k):jg (p::r) k=jg r k:=by simp[jg,ba,e]
theorem Vt(kvs:List (κ×V))(k:κ)(v:V):(rY kvs k v).length<=kvs.length+1:=by
 unfold rY;split
 .rw[af];ext
 rw[aL,aG,bP];ext
theorem jR.kQ{o:Option V}{u:Option Value}(r:jR o u):o.isSome=u.isSome:=by
 cases o with
 | none=>cases u with
  | none=>rfl
  | some _=>show(show False from r).elim
 | some _=>cases u with
  | none=>show(show False from r).elim
  | some _=>rfl
theorem KV.val{kvs:List (κ×V)}{d:List (κ×Value)}(r:KV kvs d)(k:κ):jR (jg kvs k) (valueAt d k):=by
 unfold KV at r;induction r with
 | nil=>show True.intro
 | @cons p q ps a h t g=>
  obtain⟨f,i⟩:=h;by_cases e:p.1=k
  .have c:q.1=k:=f.symm.trans e;have b:valueAt (q::a) k=some q.2:=by simp[valueAt,ba,c]
   rw[Kw e,b];show i
  have c:¬q.1=k:=λz=>e (f.trans z)
  have b:valueAt (q::a) k=valueAt a k:=by simp[valueAt,ba,c]
  rw[Kv e,b];show g
theorem KV.any{kvs:List (κ×V)}{b:List (κ×Value)}(r:KV kvs b)(k:κ):(kvs.any λa=>decide (a.1=k))=b.any λa=>decide (a.1=k):=by
 unfold KV at r;induction r with
 | nil=>rfl
 | cons h t c=>rw[List.any_cons,List.any_cons,c,h.1]
theorem KV.sN{kvs:List (κ×V)}{c:List (κ×Value)}(r:KV kvs c)(k:κ){y:V}{u:Value}(d:RelV y u) :
  KV (kvs.map λa=>if a.1=k then(a.1,y) else a) (c.map λa=>if a.1=k then(a.1,u) else a):=by
 unfold KV at r ⊢;induction r with
 | nil=>show .nil
 | @cons p q ps i h t f=>
  rw[av,av];show .cons ?_ f;obtain⟨b,g⟩:=h;by_cases e:p.1=k
  .rw[if_pos e,if_pos (b.symm.trans e)];show⟨b,d⟩
  rw[if_neg e,if_neg (λz=>e (b.trans z))];show⟨b,g⟩
theorem KV.put{kvs:List (κ×V)}{a:List (κ×Value)}(r:KV kvs a)(k:κ){y:V}{u:Value}(b:RelV y u):KV (rY kvs k y) (stored a k u):=by
 unfold rY stored;rw[r.any k];by_cases e:(a.any λc=>decide (c.1=k))=true
 .rw[if_pos e,if_pos e];show r.sN k b
 rw[if_neg e,if_neg e];show Paired.snoc r ⟨rfl,b⟩
theorem KV.keys{kvs:List (κ×V)}{a:List (κ×Value)}(r:KV kvs a):kvs.map (·.1)=a.map (·.1):=by
 unfold KV at r;induction r with
 | nil=>rfl
 | cons h t b=>rw[av,av,b,h.1]
theorem KV.length{kvs:List (κ×V)}{a:List (κ×Value)}(r:KV kvs a):kvs.length=a.length:=Paired.length r
end
theorem wN{P:Program}{w:World}{k:Key}{u:Value}(r:RelV (kV k) u):(jY P w).is k u=true:=by
 cases k with
 | inl i=>obtain⟨t,e⟩:=(show ∃t,u=Value.int i t from r);subst e;show Vg P w i t
 | inr x=>obtain⟨t,e⟩:=(show ∃t,u=Value.str x t from r);subst e;show Vf P w x t
def wI(i:Expr):Prop:=∀ov a,subscripted i false ov a=operate [ov,a] (getItem ov a)
theorem J7{prog:Program}{w:World}{A:Around}{E:Value->Shared->Prop}{s:Shared}{env:Env}{b a:Expr}{d:Pos}{T l:String}{Q:Value->Shared->Prop}
  (n:typeLookup (.type T) "__getitem__"=pure (some (.builtin l))) (m:wI a)
  (h:wpAny (model prog w) A (eval b env) (λo j=>wpAny (model prog w) A (eval a env) (λi c=>c.TypeIs o T/\wpAny (model prog w) A (getItem o i) Q E c) E j) E s) :
  wpAny (model prog w) A (eval (.Subscript b a d) env) Q E s:=by
 show Subscript_ (bE h (λo j p=>bE p (λi c e=>?_) λ_ _ x=>x) λ_ _ x=>x);obtain⟨g,e⟩:=e;unfold subscriptTail;show aa ?_;rw[getitemInPython_of_ne g.not_modules];show aa (wpAny_specialOf g n ?_);have fin:wpAny (model prog w) A (subscripted a false o i) (λr f=>wpAny (model prog w) A (letTemporaryGo b o r >>= λ_=>pure r) Q E f) E c:=by
  rw[m o i];show wpAny_operating (bE e (λr f k=>aa (wpAny_letTemporaryGo (ai k))) λ_ _ x=>x)
 first
  | show ai (aa fin)
  | show aa (ai (aa fin))
  | show aa fin
structure M2(X:Cx)(o:Expr)(m:Str)(apos:Pos)(e f:Expr)(eU:Pos):Prop where
 base:attributeBase o m X.env (eval o X.env)=eval o X.env
 Zy:((backTo eU (starEach [e,f] X.env)).all (λx=>!x.1)&&(backToKw eU (keywordEach [] X.env)).all (λx=>x.1.isSome)
  && decide (([e,f]:List Expr).length+([]:List Keyword).length+(if ([]:List Keyword).isEmpty then 0 else 1)<30))=true
 line:(apos.endLine==eU.line)=true
 trees:backTo eU (starEach [e,f] X.env)=[(false,eval e X.env),(false,eval f X.env)]
section
variable{P:Program}{w:World}{H:Hp}{h:Heap}{a:Addr}
theorem Bs{kvs:List (Key×V)}{ep:Nat}(ok:ic P w H h)(e:Rd H a (.dK kvs ep)):kvs.length<=sizeLine/\(a==sysModules)=false/\∃b,KV kvs b/\h.DictAt (jY P w) a b ep:=
 show cM P w H h a (.dK kvs ep) from e.ok ok
theorem wM{kvs:List (Key×V)}{ep:Nat}(ok:ic P w H h)(e:Rd H a (.dK kvs ep)):kvs.length<=sizeLine/\(a==sysModules)=false/\∃b,KV kvs b/\h.DictOf (jY P w) a b:=
 let⟨g,f,b,d,c⟩:=Bs ok e
 ⟨g,f,b,d,c.dictOf⟩
theorem Jd{kvs:List (Key×V)}{ep:Nat}(ok:ic P w H h)(e:H a=some (.dK kvs ep)):kvs.length<=sizeLine/\(a==sysModules)=false/\∃b,KV kvs b/\h.DictOf (jY P w) a b:=wM ok (.inl e)
end
def jT(H:Hp)(a:Addr)(y:V)(r:Option V):Prop:=∃kvs ep k,Rd H a (.dK kvs ep)/\y=kV k/\r=jg kvs k
theorem jT.k{H:Hp}{a:Addr}{kvs:List (Key×V)}{ep:Nat}{k:Key}(e:H a=some (.dK kvs ep)):jT H a (kV k) (jg kvs k):=⟨kvs,ep,k,.inl e,rfl,rfl⟩
section
variable{X:Cx}{K':List (Addr×Obj)}{σ:St}{H:Hp}{s:Shared}{a:Addr}{y v:V}{u r:Value}{o:Option V}{A:Around}{E:Value->Shared->Prop}
theorem Inv.big(I:Inv X K' σ H s):sysModules<s.heap.objs.size:=by
 have h:mainGlobals<s.heap.objs.size:=(I.mod.glob.keeps I.bk).lt;show Nat.lt_trans (by decide) h
theorem TM{Q:Value->Shared->Prop}(I:Inv X K' σ H s)(g:jT H a y (some v))(f:RelV y u)(h:∀b c,Inv X K' σ H c->RelV v b->Q b c):wpAny (model X.prog X.w) A (getItem (.ref a) u) Q E s:=by
 obtain⟨kvs,ep,k,e,j,l⟩:=g;subst j;obtain⟨z,hd,d,rel,m⟩:=wM I.cH e;obtain⟨b,hw,i⟩:=jR.some_of (v:=v) (o:=valueAt d k) (by rw[l];show rel.val k);show wpAny_getItem_of (wN f) m.mapOf hw (h b _ (I.tok _) i)
theorem N8{Q:Value->Shared->Prop}(I:Inv X K' σ H s)(g:jT H a y o)(c:RelV y u)(h:∀b,Inv X K' σ H b->Q (.bool o.isSome) b):wpAny (model X.prog X.w) A (compareOp .In u (.ref a)) Q E s:=by
 obtain⟨kvs,ep,k,e,d,l⟩:=g;subst d;obtain⟨z,hd,i,rel,f⟩:=wM I.cH e;show wpAny_in_of (wN c) hd f.mapOf ?_;rw[<-(rel.val k).kQ,<-l];show h _ (I.tok _)
theorem Rv{Q:Value->Shared->Prop}(I:Inv X K' σ H s)(g:jT H a y o)(c:RelV y u)(h:∀b,Inv X K' σ H b->Q (.bool (!o.isSome)) b):wpAny (model X.prog X.w) A (compareOp .NotIn u (.ref a)) Q E s:=by
 obtain⟨kvs,ep,k,e,d,l⟩:=g;subst d;obtain⟨z,hd,i,rel,f⟩:=wM I.cH e;show wpAny_notIn_of (wN c) hd f.mapOf ?_;rw[<-(rel.val k).kQ,<-l];show h _ (I.tok _)
theorem J6{h':Heap}{t':Nat}{ob:HO}(I:Inv X K' σ H s)(c:Bf (H a))(d:Heap.SameBut a s.heap h')(f:∃q,h'.get? a=some q)(new:cM X.prog X.w (upd H a ob) h' a ob) :
  Inv X K' σ (upd H a ob) { s with heap:=h',toks:=t' }:=
 I.write (x:=a) (e:=a) c (.inl rfl) (λb q hb z=>(d.2 b hb).trans z) f new
theorem Jc{P:Program}{w:World}{h':Heap}{b:List (Key×Value)}(d:h'.DictOf (jY P w) a b):∃ep,h'.DictAt (jY P w) a b ep:=let⟨o,c,ep,r⟩:=d;⟨ep,o,c,r⟩
theorem Jo{P:Program}{w:World}{H':Hp}{h':Heap}{kvs:List (Key×V)}{b:List (Key×Value)}{ep:Nat}(z:kvs.length<=sizeLine)(hd:(a==sysModules)=false)(c:KV kvs b)(d:h'.DictAt (jY P w) a b ep) :
  cM P w H' h' a (.dK kvs ep):=⟨z,hd,b,c,d⟩
theorem TL{kvs:List (Key×V)}{ep:Nat}{k:Key}{Q:Unit->Shared->Prop}(I:Inv X K' σ H s)(e:H a=some (.dK kvs ep))(l:kvs.length<sizeLine)(g:RelV (kV k) u)(i:RelV v r)(h:∀c b,Inv X K' σ (upd H a (.dK (rY kvs k v) b)) c->Q () c) :
  wpAny (model X.prog X.w) A (setItem (.ref a) u r) Q E s:=by
 obtain⟨z,hd,f,rel,o⟩:=Jd I.cH e;have hz:f.length<=sizeLine:=by rw[<-rel.length];show z
 have n:(rY kvs k v).length<=sizeLine:=by have:=Vt kvs k v;ext
 show wpAny_setItem_pairs (hsz:=hz) (wN g) o λh' d j=>?_
 have he:∃q,h'.get? a=some q:=let⟨q,_,_,m,_⟩:=d;⟨q,m⟩
 obtain⟨b,p⟩:=Jc d;show h _ b (J6 I (by rw[e];show True.intro) j he (Jo n hd (rel.put k i) p))
end
def OW(c ty:TE):TE:=λσ H Q=>c σ H λx H1=>ty σ H1 λy b=>∃a v,x=.ref a/\jT b a y (some v)/\Q v b
def OU(d ty c:TE):TS:=λD σ H=>c σ H λv H1=>d σ H1 λx f=>ty σ f λy b=>∃a kvs ep k,x=.ref a/\b a=some (.dK kvs ep)/\y=kV k/\kvs.length<sizeLine/\∀e,D.nx σ (upd b a (.dK (rY kvs k v) e))
def ZO(H:Hp)(a:Addr):Prop:=∃kvs ep,Rd H a (.dK kvs ep)
theorem PJ{X:Cx}{i:List (Addr×Obj)}{f:St}{H:Hp}{s:Shared}{a:Addr}(I:Inv X i f H s)(d:ZO H a) :
  s.TypeIs (.ref a) "dict"/\(∀b,Value.ref a=.ref b->∃ob,s.heap.get? b=some ob/\ob.dict=none)/\(a==sysModules)=false:=by
 obtain⟨kvs,ep,e⟩:=d;obtain⟨_,hd,j,_,c⟩:=wM I.cH e;show⟨c.typeIs,λb q=>?_,hd⟩;cases q;obtain⟨ob,_,_,h,g,_⟩:=c;show⟨ob,h,g.2.1⟩
section
variable{X:Cx}{o i e value:Expr}{pos pos' mW:Pos}{td ty tv:TE}
theorem J5(p:PE X o td)(q:PE X i ty)(n:wI i):PE X (.Subscript o i pos) (OW td ty):=by
 intro c s σ H Q I h;show J7 PySem.F.slot_dict_getitem.lookup n (cQ (p c s σ H _ I h) λu s1 b=>?_);obtain⟨x,H1,I1,f,m⟩:=b;show cQ (q c s1 σ H1 _ I1 m) λA s2 b=>?_
 obtain⟨y,t,I2,d,a,v,ex,g,l⟩:=b;subst ex;obtain rfl:u=Value.ref a:=f;obtain⟨kvs,ep,k,e,_⟩:=id g;show⟨(PJ I2 ⟨kvs,ep,e⟩).1,TM I2 g d λw z r j=>⟨v,t,r,j,l⟩⟩
theorem J4(w:PE X o td)(z:PE X i ty)(q:PE X value tv)(t:swapsWith value (some (.Subscript o i pos')) pos.line X.env=pure false) :
  PS X (.Assign [.Subscript o i pos'] value pos) (OU td ty tv):=by
 intro c s σ H D I h;show wpAny_Assign_Subscript (cQ (q c s σ H _ I h) λr s1 b=>?_) t;obtain⟨v,H1,I1,f,n⟩:=b;show cQ (w c s1 σ H1 _ I1 n) λu s2 b=>?_
 obtain⟨x,C,I2,e,m⟩:=b;show cQ (z c s2 σ C _ I2 m) λE s3 b=>?_
 obtain⟨y,F,I3,d,a,kvs,ep,k,ex,g,A,l,j⟩:=b;subst ex A;obtain rfl:u=Value.ref a:=e;show TL I3 g l d f λs4 p B=>⟨σ,_,B,j p⟩
theorem Sg{P:Program}{w:World}{H:Hp}(h:Heap)(hb:sysModules<h.objs.size):cM P w H (h.push { cls:=.type "dict",data:=.dict #[] }) h.objs.size (.dK [] 0):=
 ⟨bc _,beq_eq_false_iff_ne.mpr (Ne.symm (aE hb)),[],.nil,_,#[],az _ rfl,⟨rfl,rfl,rfl⟩,rfl,λ_ he=>by simp at he,Pairs.nil,List.nodup_nil⟩
def PH:TE:=λ_ H Q=>∀p,H p=none->Q (.ref p) (upd H p (.dK [] 0))
theorem Sf:PE X (.Dict [] [] pos) PH:=λb s σ H Q I h=>
 wpAny_Dict_empty ⟨.ref s.heap.objs.size,_,I.laid (a:=s.heap.objs.size) (o:=.dK [] 0) (t':=s.toks) (λ_ _ q=>ae _ q) (au _) (Sg s.heap I.big),rfl,h _ (I.cH.fresh (au _))⟩
end
section
variable{X:Cx}{o e f:Expr}{apos eU:Pos}{td ty tx:TE}
theorem TK:cW X (.builtin "len") (λxs H Q=>∃a kvs ep,xs=[V.ref a]/\H a=some (.dK kvs ep)/\Q (.int kvs.length) H):=by
 intro e s σ H xs us Q I r h;obtain⟨a,kvs,ep,rfl,ha,q⟩:=h;obtain⟨u,rfl,b⟩:=lP r;cases b;obtain⟨z,hd,d,rel,c⟩:=wM I.cH (.inl ha);show call_len_dict hd c (by rw[<-rel.length];rw[sizeLine_eq] at z;ext) ?_;rw[<-rel.length];show⟨.int kvs.length,H,I.tok _,⟨_,rfl⟩,q⟩
end
end L2
namespace PySem
open Sem (wp)
theorem VJ:typeLookup (.type "list") "keys"=pure none:=by rw[typeLookup_type,builtinLookup_eq_fast];kernel_rfl
theorem W6{prog:Program}{w:World}{A:Around}{E:Value->Shared->Prop}{s:Shared}{a:Addr}{o:Obj}{xs:Array Value}{k:Nat}{name:Str}{Q:Option Value->Shared->Prop}
  (i:s.heap.get? a=some o) (j:o.cls=.type "list") (m:o.data=.seq xs k) (hd:o.dict=none) (r:typeLookup (.type "list") name=pure none) (t:(["__module__","__name__","__qualname__","__doc__","__annotations__"]:List Str).contains name=false) (p:A.handled=none)
  (h:∀h' tk e,Heap.NewExcOf s.heap h' e "AttributeError"->Q none { s with heap:=h',toks:=tk }) (hsz:name.length+100<=sizeLine:=by size_fits) :
  wpAny (model prog w) A (getAttr? (.ref a) name) Q E s:=by
 obtain⟨c,q,dat,sl⟩:=o;simp only at j m hd;subst j m hd;obtain⟨n,g,d,tk,os⟩:=s;have l:∀b,(⟨n,g,d,b,os⟩:Shared).TypeIs (.ref a) "list":=λ_=>⟨_,i,rfl⟩
 have f1:=sub_AttributeError;have x:=F.slot_list_getattribute.lookup;have f4:=F.slot_list_getattribute.bind (.ref a);have v:=am_list_getattr_none;unfold getAttr? getAttrBy? getAttrBy;repeat(any_goals (first | assumption | show l _ | ((with_reducible show wpAny _ _ (call (Value.builtin "list.__getattribute__") _ _) _ _ _);show call_meets F.slot_list_getattribute (l _) am_entry_list_getattribute (F.args_list_getattribute_2 _ _) (meets_getattribute_miss_list a xs k sl name _ r t hsz) ⟨i,p,λh' b e f=>?_⟩) | wp_step))
 obtain⟨t',u,he⟩:=f.there;show wpAny _ _ (getattributeRaised _ _ _ _ _ _ _) _ _ _;unfold getattributeRaised;repeat(any_goals (first | assumption | wp_step))
 show h _ _ _ f.of
theorem L7:entryFor table "dict.update.loop"=some Builtin.«dict.update.loop»:=entryFor_of_tree (by kernel_rfl)
theorem CA:plainId "dict.update.loop"=true:=by decide +kernel
section
variable{prog:Program}{w:World}{K:Type}[DecidableEq K]{knd:KeyKind prog w K}{A:Around}{R:Result->Shared->Prop}{I:Addr}{fp wr:List Addr}{G:Array GenState->Array GenState->Prop}{n:Nat}{P:Nat->Value->Prop}{St:Nat->Shared->Prop}
theorem Vs{kvs:List (K×Value)}(hn:(kvs.map (·.1)).Nodup){i:Nat}{k:K}{y:Value}(e:kvs[i]?=some (k,y)):stored (kvs.take i) k y=kvs.take (i+1):=by
 have b:(kvs.take i).any (λc=>c.1=k)=false:=by
  rw[Bool.eq_false_iff];intro z;rw[List.any_eq_true] at z;obtain⟨p,d,hk⟩:=z;obtain⟨j,f,a⟩:=List.getElem_of_mem d;rw[aO] at f;have h:i<kvs.length:=(ah.mp e).1;have g:(kvs.map (·.1))[j]'(by rw[af];ext)=(kvs.map (·.1))[i]'(by rw[af];ext):=by
   rw[List.getElem_map,List.getElem_map];rw[List.getElem_take] at a;rw[a,(ah.mp e).2];simpa using hk
  show bT.mp hn j i (by rw[af];ext) (by rw[af];ext) (by ext) g
 unfold stored;rw[b];simp only[ar,aU];rw[aQ,e];rfl
theorem Se(W:WalksS prog w A.in1 I fp wr G n P St)(S:Addr)(l:S∉fp)(t:Heap)(kvs:List (K×Value))(M:kvs.length=n)(hn:(kvs.map (·.1)).Nodup)(hsz:kvs.length<=sizeLine)
  (F:∀i v,P i v->∃k y key a,kvs[i]?=some (k,y)/\v=.ref a/\knd.is k key=true/\t.IsTuple a #[key,y]/\a≠S/\a∉wr) :
  ∀(m i:Nat)(s:Shared),n-i=m->i<=n->St i s->s.heap.DictOf knd S (kvs.take i)->(∀b o,b≠S->b∉wr->t.get? b=some o->s.heap.get? b=some o)->
   (∀c,Moved (S::wr) G s c->c.heap.DictOf knd S kvs->R (.ok (.ret .none)) c)->codeAny (model prog w) A (.builtin "dict.update.loop" ⟨[.ref S,.ref I,rawInt (i:Int),.none],[]⟩) R s:=by
 have j:S∉wr:=λh=>l (W.sub _ h)
 have more:∀b∈wr,b∈S::wr:=λb hb=>ax _ hb
 intro m;induction m with
 | zero=>
  intro i s hk O st T mQ q;have e:i=n:=by ext
  subst e;show codeAny_builtin L7 ?_;rw[Around.under_plainId CA _];show wpAny _ A.in1 (pyNext (.ref I) >>= _) _ _ s;show aa (W.done s _ _ st λc hm=>?_);show wpAny _ A.in1 (Builtin.Dict.addKeywords S [] >>= _) _ _ c;rw[<-M,bo] at T;show aa (ai (ai (q c (hm.mono more) ?_)));obtain⟨o,g,ep,f,r⟩:=T;show⟨o,g,ep,hm.heap S _ j f,r⟩
 | succ m L=>
  intro i s hk O st T mQ q;have u:i<n:=by ext
  show codeAny_builtin L7 ?_;rw[Around.under_plainId CA _];show wpAny _ A.in1 (pyNext (.ref I) >>= _) _ _ s;show aa (W.item i s _ _ u st λv c V X hm=>?_);obtain⟨k,y,key,a,E,rfl,J,U,Y,B⟩:=F i v V;have T':c.heap.DictOf knd S (kvs.take i):=by
   obtain⟨o,g,ep,f,r⟩:=T;show⟨o,g,ep,hm.heap S _ j f,r⟩
  obtain⟨o,N,Q,nn,hd⟩:=U;have p:c.heap.get? a=some o:=hm.heap a o B (mQ a o Y B N);show wpAny _ A.in1 (holding [Value.ref a] _ >>= _) _ _ c;show aa (bz ?_);show aa (wpAny_tryCatch ?_);unfold Builtin.Dict.pairItems;show aa (wpAny_typeOf (T:="tuple") ⟨o,p,Q⟩ ?_);rw[if_pos (by decide)];show aa (bW p hd ?_);show ai ?_;show wpAny _ A.in1 (holding [key,y] (dictSet S key y)) _ _ c;show bz (wpAny_dictSet_pairs (hsz:=by rw[aO];ext) J T' λh' x d=>?_);rw[Vs hn E] at x;show ai ⟨plainId_quiet CA _,L (i+1) _ (by ext) u (W.frame _ c _ _ X (Nat.le_succ _) λb hb o e=>?_) x (λb o D C e=>?_) λs2 H Z=>?_⟩
  .rw[d.2 b (λz:b=S=>l (by rw[<-z];show hb))];show e
  .show h'.get? b=some o;rw[d.2 b D];show hm.heap b o C (mQ b o D C e)
  show q s2 (Moved.trans W.gtrans ((hm.mono more).then_heap (Nat.le_succ _) λb o hb e=>?_) H) Z;rw[d.2 b (λz:b=S=>hb (by rw[z];show aT))];show e
end
section
variable{prog:Program}{w:World}{K:Type}[DecidableEq K]{knd:KeyKind prog w K}{A:Around}{E:Value->Shared->Prop}{s:Shared}
theorem UD{l:Addr}{items:List Value}{kvs:List (K×Value)}{Q:Value->Shared->Prop}(hh:A.handled=none)(O:∃o n,s.heap.get? l=some o/\o.cls=.type "list"/\o.dict=none/\o.data=.seq items.toArray n)(M:kvs.length=items.length)(hn:(kvs.map (·.1)).Nodup)(hsz:kvs.length<=sizeLine)
  (L:∀(i:Nat)(v:Value),items[i]?=some v->∃k y key a,kvs[i]?=some (k,y)/\v=.ref a/\knd.is k key=true/\s.heap.IsTuple a #[key,y])
  (h:∀h' tk,h'.DictOf knd s.heap.objs.size kvs->(∀b o,s.heap.get? b=some o->h'.get? b=some o)->Q (.ref s.heap.objs.size) { s with heap:=h',toks:=tk }) :
  wpAny (model prog w) A (call (.type "dict") [.ref l]) Q E s:=by
 obtain⟨ol,nl,q,p,Y,D⟩:=O;show callType_codes (Q₁:=λobj z=>obj=.ref s.heap.objs.size/\z={ s with heap:=s.heap.push { cls:=.type "dict",data:=.dict #[] } }) F.kt_called_dict (F.kt_typeCall_dict_1 _) F.entry_dict_init (kt_code_dict_new _ ⟨rfl,rfl⟩) ?_;rintro obj z ⟨rfl,rfl⟩;have j:(s.heap.push { cls:=.type "dict",data:=.dict #[] }).DictOf knd s.heap.objs.size []:=Heap.DictOf.new s.heap;show⟨j.typeIs,F.args_dict_init_2 _ _,?_⟩;have g:(s.heap.push { cls:=.type "dict",data:=.dict #[] }).get? l=some ol:=ae _ q;unfold Builtin.«dict.__init__»;show aa ?_;unfold Builtin.Dict.selfAndRest;show aa (wpAny_notOrdered_dict j.typeIs ?_);show wpAny _ _ (pure (s.heap.objs.size,[Value.ref l])) _ _ _;show ai ?_;show wpAny _ _ (Builtin.Dict.updateFrom "dict.__init__" s.heap.objs.size (.ref l) [] .none) _ _ _;unfold Builtin.Dict.updateFrom;show aa (wpAny_typeOf (T:="list") ⟨_,g,p⟩ ?_);rw[if_pos (by decide)];show aa (W6 g p D Y VJ (by decide) (by simpa using hh) ?_);intro h' tk e ne;simp only[Option.isNone_none,br];show aa (wpAny_rule ?_);have kp:∀b o,(s.heap.push { cls:=.type "dict",data:=.dict #[] }).get? b=some o->h'.get? b=some o:=ne.keeps
 have t:h'.IsList l items.toArray:=⟨_,kp _ _ g,p,nl,D⟩
 have B:h'.DictOf knd s.heap.objs.size []:=by
  obtain⟨o,d,ep,c,r⟩:=j;show⟨o,d,ep,kp _ _ c,r⟩
 have C:l<s.heap.objs.size:=aq q;have f:s.heap.objs.size<h'.objs.size:=by
  obtain⟨o,d,ep,c,r⟩:=B;show aq c
 show aa (wpAny_pyIter_list t (ai ⟨plainId_quiet CA _,?_⟩));have X:l≠h'.objs.size:=aE (Nat.lt_trans C f);have G:s.heap.objs.size∉[h'.objs.size,l]:=by
  simp only[aj,aS,or_false,not_or];show⟨aE f,Nat.ne_of_gt C⟩
 have W:A.in1.in1.handled=none:=by simpa using hh
 show Se ((Walks.list W _ l X items.toArray).toS) s.heap.objs.size G s.heap kvs (by simpa using M) hn hsz (λi v u=>?_) (items.toArray.size-0) 0 _ rfl (bc _)
  ⟨⟨_,az _ rfl,rfl,rfl⟩,(t.push _)⟩ (by
   obtain⟨o,d,ep,c,r⟩:=B;show⟨o,d,ep,ae _ c,r⟩) (λb o P Z e=>ae _ (kp _ _ (ae _ e))) ?_
 .rw[List.getElem?_toArray] at u;obtain⟨k,y,key,a,c,m,R,x⟩:=L i v u;have ha:a<s.heap.objs.size:=by obtain⟨o,N,_⟩:=x;show aq N
  show⟨k,y,key,a,c,m,R,x,aE ha,?_⟩;simp only[aM];show aE (Nat.lt_trans ha f)
 intro I hm T;obtain⟨m,g',d',J,H⟩:=I;have U:g'=s.gens:=hm.gens;have V:d'=s.drawn:=hm.drawn;have S:H=s.os:=hm.os;subst U V S;show⟨rfl,h m J T λb o e=>?_⟩;have hb:b<s.heap.objs.size:=aq e;show hm.heap b o ?_ (ae _ (kp _ _ (ae _ e)));simp only[aj,aS,or_false,not_or];show⟨aE hb,aE (Nat.lt_trans hb f)⟩
end
end PySem
namespace L2
open PySem PySem.Spec PyProof.Rows
noncomputable def mw:D->Option Key
 | .int i=>some (.inl i)
 | .str x=>some (.inr x)
 | _=>none
noncomputable def uX:Key->D
 | .inl i=>.int i
 | .inr x=>.str x
theorem tZ{K:J'}{G:Hp}{v:V}{d:D}{k:Key}(r:Rep K G v d)(h:mw d=some k):v=kV k:=by
 cases d<;>simp only[mw,aA,reduceCtorEq] at h<;>subst h<;>simp only[Rep] at r<;>subst r<;>rfl
noncomputable def look(kvs:List (Key×D))(k:Key):Option D:=(kvs.find? λa=>decide (a.1=k)).map (·.2)
noncomputable def pN(kvs:List (Key×D))(k:Key)(d:D):List (Key×D):=
 if (kvs.any λa=>decide (a.1=k))=true then kvs.map (λa=>if a.1=k then(a.1,d) else a) else kvs++[(k,d)]
section
variable{K:J'}{G:Hp}
theorem cp.length:∀{ks:List (Key×V)}{kvs:List (Key×D)},cp K G ks kvs->ks.length=kvs.length
 | [],[],_=>rfl
 | a::ks,b::kvs,h=>by
  simp only[cp] at h;simp only[aG,cp.length h.2]
 | [],_::_,h=>by simp only[cp] at h
 | _::_,[],h=>by simp only[cp] at h
theorem cp.nil:cp K G [] []:=by simp only[cp]
theorem cp.any(k:Key):∀{ks:List (Key×V)}{kvs:List (Key×D)},cp K G ks kvs->(ks.any λc=>decide (c.1=k))=kvs.any λc=>decide (c.1=k)
 | [],[],_=>rfl
 | a::ks,b::kvs,h=>by
  simp only[cp] at h;rw[List.any_cons,List.any_cons,h.1.1,cp.any k h.2]
 | [],_::_,h=>by simp only[cp] at h
 | _::_,[],h=>by simp only[cp] at h
theorem cp.snoc{k:Key}{v:V}{d:D}(r:Rep K G v d):∀{ks:List (Key×V)}{kvs:List (Key×D)},cp K G ks kvs->cp K G (ks++[(k,v)]) (kvs++[(k,d)])
 | [],[],_=>by simp only[List.nil_append,cp];show⟨⟨trivial,r⟩,trivial⟩
 | a::ks,b::kvs,h=>by
  simp only[cp] at h;simp only[List.cons_append,cp];show⟨h.1,cp.snoc r h.2⟩
 | [],_::_,h=>by simp only[cp] at h
 | _::_,[],h=>by simp only[cp] at h
theorem cp.sN{k:Key}{v:V}{d:D}(r:Rep K G v d):∀{ks:List (Key×V)}{kvs:List (Key×D)},cp K G ks kvs->cp K G (ks.map λc=>if c.1=k then(c.1,v) else c) (kvs.map λc=>if c.1=k then(c.1,d) else c)
 | [],[],_=>by simp only[List.map_nil,cp]
 | a::ks,b::kvs,h=>by
  simp only[cp] at h;simp only[av,cp];show⟨?_,cp.sN r h.2⟩;rw[h.1.1];split
  .exact⟨rfl,r⟩
  show⟨h.1.1,h.1.2⟩
 | [],_::_,h=>by simp only[cp] at h
 | _::_,[],h=>by simp only[cp] at h
theorem cp.put{ks:List (Key×V)}{kvs:List (Key×D)}{k:Key}{v:V}{d:D}(h:cp K G ks kvs)(r:Rep K G v d):cp K G (rY ks k v) (pN kvs k d):=by
 unfold rY pN;rw[h.any k];split
 .exact h.sN r
 show h.snoc r
theorem cp.look{k:Key}{d:D}:∀{ks:List (Key×V)}{kvs:List (Key×D)},cp K G ks kvs->look kvs k=some d->∃v,jg ks k=some v/\Rep K G v d
 | [],[],_,e=>by simp[L2.look] at e
 | a::ks,b::kvs,h,e=>by
  simp only[cp] at h;unfold L2.look at e;unfold jg;rw[ba] at e ⊢;rw[h.1.1];by_cases hk:b.1=k
  .simp only[hk,decide_true,aJ,aA] at e ⊢;subst e;show⟨_,rfl,h.1.2⟩
  simp only[hk,bU] at e ⊢;show cp.look h.2 e
 | [],_::_,h,_=>by simp only[cp] at h
 | _::_,[],h,_=>by simp only[cp] at h
theorem cp.isSome(k:Key):∀{ks:List (Key×V)}{kvs:List (Key×D)},cp K G ks kvs->(jg ks k).isSome=(L2.look kvs k).isSome
 | [],[],_=>rfl
 | a::ks,b::kvs,h=>by
  simp only[cp] at h;unfold L2.look jg;rw[ba,ba,h.1.1];by_cases hk:b.1=k
  .simp only[hk,decide_true,aJ,Option.isSome_some]
  simp only[hk,bU];show cp.isSome k h.2
 | [],_::_,h=>by simp only[cp] at h
 | _::_,[],h=>by simp only[cp] at h
end
section
variable{X:Cx}{pos:Pos}{e i':Expr}{te ti tv:TD}
def pW:TD:=λ_ Q=>Q (.ov (.dc []))
theorem yK:PD X (.Dict [] [] pos) pW:=by
 show⟨_,Sf,λb σ f c G H Q P E h k=>λd hd=>?_⟩;show k _ _ (.ov (.dc [])) G (.own E.e.s hd) ⟨d,[],rfl,by simp,⟨rfl,[],0,eT,cp.nil⟩,λq a=>?_⟩ h;simp only[aM] at a;subst a;show⟨hd,E.e.s.free hd⟩
def n5(a:Bool):O2:=λd e Q=>match e with
 | .dic kvs=>∃k,mw d=some k/\Q (.fz (.bl (if a then !(look kvs k).isSome else(look kvs k).isSome)))
 | _=>False
theorem PF(f:X.A.units+64<cLine):gL X (compareOp .In) (λx y H Q=>∃a o,y=.ref a/\jT H a x o/\Q (.bl o.isSome) H):=by
 intro i s σ H x y v u Q I c b h;obtain⟨a,o,rfl,g,q⟩:=h;cases b;show N8 I g c λe d=>⟨.bl _,H,d,rfl,q⟩
theorem TJ(f:X.A.units+64<cLine):gL X (compareOp .NotIn) (λx y H Q=>∃a o,y=.ref a/\jT H a x o/\Q (.bl (!o.isSome)) H):=by
 intro i s σ H x y v u Q I c b h;obtain⟨a,o,rfl,g,q⟩:=h;cases b;show Rv I g c λe d=>⟨.bl _,H,d,rfl,q⟩
theorem OS(g:X.A.units+64<cLine):kG X (compareOp .In) (n5 false):=by
 show⟨_,PF g,λG H x y d e Q P s c b h k=>?_⟩;unfold n5 at h;split at h
 .simp only[Rep] at b;obtain⟨a,ks,ep,rfl,f,rk⟩:=b;obtain⟨key,hk,q⟩:=h;rw[tZ c hk];show⟨a,_,rfl,jT.k (k:=key) (s _ _ f),?_⟩;rw[rk.isSome key];show k _ _ _ G (.refl s) (eY (jZ _ _ _)) q
 show h.elim
theorem EU(g:X.A.units+64<cLine):kG X (compareOp .NotIn) (n5 true):=by
 show⟨_,TJ g,λG H x y d e Q P s c b h k=>?_⟩;unfold n5 at h;split at h
 .simp only[Rep] at b;obtain⟨a,ks,ep,rfl,f,rk⟩:=b;obtain⟨key,hk,q⟩:=h;rw[tZ c hk];show⟨a,_,rfl,jT.k (k:=key) (s _ _ f),?_⟩;rw[rk.isSome key];show k _ _ _ G (.refl s) (eY (jZ _ _ _)) q
 show h.elim
def o3(te ti:TD):TD:=λa Q=>te a λr=>ti a λrk=>match r.val with
 | .dic kvs=>∃k d,mw rk.val=some k/\look kvs k=some d/\Q (.fz d)
 | _=>False
theorem xb(U:X.A.units+64<cLine)(M:PD X e te)(L:PD X i' ti)(I:wI i':=by intro _ _;rfl):PD X (.Subscript e i' pos) (o3 te ti):=by
 obtain⟨t,p,q⟩:=M;obtain⟨T,B,z⟩:=L;show⟨_,J5 p B I,λi σ m l G H Q P E h k=>q i σ m l G H _ _ E h λv H1 r W o y J=>?_⟩;obtain⟨S,j,f,_⟩:=y.freeze o;show z i σ m l S H1 _ _ (E.ext j) J λu O rk V n D b=>?_
 obtain⟨R,c,C,_⟩:=D.freeze n;split at b
 .rename_i kvs N;obtain⟨key,d,hk,K,b⟩:=b;rw[N] at f;simp only[Rep] at f;obtain⟨a,ks,ep,rfl,ha,x⟩:=f;rw[tZ C hk];obtain⟨w,hw,F⟩:=(cp.mono c.g _ _ x).look K;show⟨a,w,rfl,?_,k w O (.fz d) R (j.trans c) F b⟩;rw[<-hw];show jT.k (k:=key) (c.s _ _ (c.g _ _ ha))
 show b.elim
def tQ(i:Nat)(ti:TD):TD:=λa Q=>match gt a i with
 | .ov (.dc kvs)=>ti a λrk=>∃k d,mw rk.val=some k/\look kvs k=some d/\Q (.fz d)
 | _=>False
theorem Ru(L:X.A.units+64<cLine)(i:Nat){x:Str}{n:Pos}(y:PD X i' ti)(t:wI i':=by intro _ _;rfl)(hN:X.N[i]?=some x:=by rfl)(s:hZ X.env.scope x:=by first | show Or.inl rfl | show Or.inr (Or.inl rfl) | show Or.inr (Or.inr rfl))(hd:(x==("__debug__":Str))=false:=by decide)(z:(x==("__classdict__":Str))=false:=by decide):PD X (.Subscript (.Name x n) i' pos) (tQ i ti):=by
 obtain⟨J,m,l⟩:=y;show⟨_,J5 (iK hN s hd z) m t,λe σ I D G H Q P E h k=>?_⟩;unfold tQ at h;split at h
 .rename_i kvs hg;obtain⟨own,K,o⟩:=E.on;obtain⟨a,fp,B,O,⟨rfl,ks,ep,ha,j⟩,M⟩:=o i _ hg;show⟨_,B,l e σ I D G H _ _ E h λu C rk R f q c=>?_⟩;obtain⟨F,b,p,_⟩:=q.freeze f;obtain⟨key,d,hk,v,c⟩:=c;rw[tZ p hk];obtain⟨w,hw,r⟩:=(cp.mono b.g _ _ j).look v;show⟨a,w,rfl,?_,k w C (.fz d) F b r c⟩;rw[<-hw];show jT.k (k:=key) (b.h _ _ ha)
 show h.elim
def oV(i:Nat)(ti tv:TD):TX:=λD a=>match gt a i with
 | .ov (.dc kvs)=>tv a λr=>ti a λrk=>∃k,mw rk.val=some k/\kvs.length<sizeLine/\D.nx (a.set i (.ov (.dc (pN kvs k r.val))))
 | _=>False
theorem yE(hu:X.A.units+64<cLine)(i:Nat){x:Str}{o n:Pos}(V:PD X i' ti)(W:PD X e tv)(hN:X.N[i]?=some x:=by rfl)(T:hZ X.env.scope x:=by first | show Or.inl rfl | show Or.inr (Or.inl rfl) | show Or.inr (Or.inr rfl))(hd:(x==("__debug__":Str))=false:=by decide)(Z:(x==("__classdict__":Str))=false:=by decide)
  (U:swapsWith e (some (.Subscript (.Name x o) i' n)) pos.line X.env=pure false:=by rfl) :
  PX X (.Assign [.Subscript (.Name x o) i' n] e pos) (oV i ti tv):=by
 obtain⟨t,p,q⟩:=W;obtain⟨t2,I,M⟩:=V;show⟨_,J4 (iK hN T hd Z) I p U,λj σ y w G H D E k h g=>?_⟩;unfold oV at h;split at h
 .rename_i kvs hg;obtain⟨own,o1,O⟩:=k.on;obtain⟨a,fp,s,b2,⟨rfl,ks,ep,ha,F⟩,b4⟩:=O i _ hg;show q j σ y w G H _ _ k h λv H' r G' C K d=>?_
  obtain⟨G2,m,J,_⟩:=K.freeze C;show⟨_,s,M j σ y w G2 H' _ _ (k.ext m) d λu H3 rk G3 B S f=>?_⟩;obtain⟨G4,l,R,_⟩:=S.freeze B;obtain⟨key,hk,hlen,f⟩:=f;have c:=m.trans l;show⟨a,ks,ep,key,rfl,c.h _ _ ha,tZ R hk,by rw[F.length];show hlen,λQ=>?_⟩;show g.nx _ _ G4 _ c.g ((k.ext c).fb hg s λfp nd ow=>?_) f;obtain⟨rfl,L,Y,P,Gh⟩:=ow;have e1:L=ks:=by
   have:=(c.h _ _ ha).symm.trans P;injection this with this
   injection this with this
   show this.symm
  subst e1;show⟨[],by simp,⟨rfl,_,Q,eT,Gh.put (J.mono l.g)⟩,λq d=>.inl d,λb hb _=>cL λz=>hb (by simp[z])⟩
 show h.elim
def tP:eJ:=λds Q=>match ds with
 | [.dic kvs]=>Q (.fz (.int kvs.length))
 | _=>False
theorem Pz:nG X (.builtin "len") tP:=by
 show⟨_,TK,λG H b ds Q P s r h k=>?_⟩;unfold tP at h;split at h
 .rename_i kvs;cases b with
  | nil=>simp only[bY] at r
  | cons v b=>
   cases b with
   | cons=>simp only[bY] at r;show r.2.elim
   | nil=>
    simp only[bY,Rep] at r;obtain⟨⟨a,ks,ep,rfl,ha,rk⟩,_⟩:=r;show⟨a,ks,ep,rfl,s _ _ ha,?_⟩;rw[rk.length];show k _ _ _ G (.refl s) (eY (jy _ _ _)) h
 show h.elim
def pU(i:Nat):TX:=λD a=>match gt a i with
 | .ov o=>D.rt (.ov o)
 | _=>False
theorem EE(i:Nat){x:Str}{d:Pos}(hN:X.N[i]?=some x:=by rfl)(j:hZ X.env.scope x:=by first | show Or.inl rfl | show Or.inr (Or.inl rfl) | show Or.inr (Or.inr rfl))(hd:(x==("__debug__":Str))=false:=by decide)
  (l:(x==("__classdict__":Str))=false:=by decide):PX X (.Return (some (.Name x d)) pos) (pU i):=by
 show⟨_,yA (iK hN j hd l),λr σ u t G H D E k h g=>?_⟩;unfold pU at h;split at h
 .rename_i o hg;obtain⟨own,s,f⟩:=k.on;obtain⟨a,fp,p,n,m,c⟩:=f i _ hg;show⟨_,p,g.rt _ H (.ov o) G k.e ⟨a,fp,rfl,n,m,λq b=>⟨(c q b).2.1,(c q b).1⟩⟩ h⟩
 show h.elim
end
section
variable{K:J'}{G H:Hp}
theorem cy.length:∀{a:List Addr}{dss:List (List D)},cy K G H a dss->a.length=dss.length
 | [],[],_=>rfl
 | q::a,ds::dss,h=>by
  simp only[cy] at h;simp only[aG,cy.length h.2]
 | [],_::_,h=>by simp only[cy] at h
 | _::_,[],h=>by simp only[cy] at h
theorem cy.snoc{p:Addr}{ds:List D}{zs:List V}:∀{a:List Addr}{dss:List (List D)},cy K G H a dss->H p=some (.lst zs)->bY K G zs ds->cy K G H (a++[p]) (dss++[ds])
 | [],[],_,c,b=>by simp only[List.nil_append,cy];show⟨⟨zs,c,b⟩,trivial⟩
 | q::a,d::dss,h,c,b=>by
  simp only[cy] at h;simp only[List.cons_append,cy];show⟨h.1,cy.snoc h.2 c b⟩
 | [],_::_,h,_,_=>by simp only[cy] at h
 | _::_,[],h,_,_=>by simp only[cy] at h
theorem cy.get:∀{a:List Addr}{dss:List (List D)}{j:Nat}{ds:List D},cy K G H a dss->dss[j]?=some ds->∃q xs,a[j]?=some q/\H q=some (.lst xs)/\bY K G xs ds
 | [],[],j,ds,_,e=>by simp at e
 | q::a,d::dss,0,ds,h,e=>by
  simp only[cy] at h;simp only[aV,aA] at e;subst e;obtain⟨⟨xs,c,b⟩,_⟩:=h;show⟨q,xs,rfl,c,b⟩
 | q::a,d::dss,j+1,ds,h,e=>by
  simp only[cy] at h;simp only[aW] at e ⊢;show cy.get h.2 e
 | [],_::_,_,_,h,_=>by simp only[cy] at h
 | _::_,[],_,_,h,_=>by simp only[cy] at h
theorem cy.set{q:Addr}{ys:List V}{c:List D}(b:bY K G ys c):∀{a:List Addr}{dss:List (List D)}{j:Nat},cy K G H a dss->a.Nodup->a[j]?=some q->cy K G (upd H q (.lst ys)) a (dss.set j c)
 | [],[],j,_,_,e=>by simp at e
 | r::a,ds::dss,0,h,nd,e=>by
  simp only[cy] at h;simp only[aV,aA] at e;subst e;simp only[List.set_cons_zero,cy];show⟨⟨ys,eT,b⟩,h.2.mono (cq.refl _) λp d xs e=>?_⟩;rw[cL (λz:p=r=>(aH.mp nd).1 (z▸d))];show e
 | r::a,ds::dss,j+1,h,nd,e=>by
  simp only[cy] at h;simp only[aW] at e;simp only[List.set_cons_succ,cy];show⟨?_,cy.set b h.2 (aH.mp nd).2 e⟩;obtain⟨⟨xs,g,f⟩,_⟩:=h;show⟨xs,?_,f⟩;rw[cL (λz:r=q=>(aH.mp nd).1 (z▸aw e))];show g
 | [],_::_,_,h,_,_=>by simp only[cy] at h
 | _::_,[],_,h,_,_=>by simp only[cy] at h
end
def yD(e:jQ)(m:List (Option Nat))(g:iA)(tc:gX)(te:TD):TD:=λa Q=>e a λds=>∃Iv:Nat->List (List D)->Prop,Iv 0 []/\
 (∀i d acc,ds[i]?=some d->Iv i acc->g d (c9 m a) λc=>tc c λb=>if b=true then te c λr=>match r with
  | .ow f=>acc.length<sizeLine/\Iv (i+1) (acc++[f])
  | _=>False
  else Iv (i+1) acc)/\∀acc,Iv ds.length acc->Q (.ov (.ll acc))
section
variable{X:Cx}{elt iter tg:Expr}{ifs:List Expr}{scope:Scope}{pos:Pos}{N':List Str}{m:List (Option Nat)}{wi:jQ}{g:iA}{tc:gX}{te:TD}
theorem Sd(cs:cD X N' m scope)(hk:nI m g){ww:TI}{gg:mO TG}{pf:mO TT}{N:mO TE}
  (q1:∀(r:Ev)(σ:St)(x w G H:Hp)(Q:List D->Prop)(P:It->Hp->Prop),cP X.K x w r σ G H->wi r Q->(∀J H' ds l,Ext G H l H'->oX X.K J l ds->Q ds->P J H')->ww σ H P)
  (q2:∀s3 y ex (r:Ev) (σ:St) (x w G H:Hp) (d:D) (v:V) (Q:Ev->Prop) (P:St->Hp->Prop),cP X.K x w r σ G H->Rep X.K G v d->g d r Q->(∀ρ' I l H',cP X.K x w ρ' I l H'->Ext G H l H'->Q ρ'->P I H')->gg s3 y ex v σ H P)
  (q3:∀s3 y ex (r:Ev) (σ:St) (x w G H:Hp) (Q:Bool->Prop) (P:Bool->Hp->Prop),cP X.K x w r σ G H->tc r Q->(∀b H' l,Ext G H l H'->Q b->P b H')->pf s3 y ex σ H P)
  (q4:∀s3 y ex,nY X.K te (N s3 y ex)):nY X.K (yD wi m g tc te) (uZ ww m gg pf N):=by
 show λr σ x w G H Q P E h k=>q1 r σ x w G H _ _ E h λJ H1 ds u C wk f=>?_
 obtain⟨Iv,i0,turn,fin⟩:=f;intro D Y s3 ex;have E1:=E.ext C;have wj:u D=none:=C.s.free Y;have F:∀{i:Nat}{t:List L2.D},gt (c9 m r) i=.ow t->False:=λ{i t} h=>by
  unfold c9 at h;rw[k8] at h;split at h
  .rename_i o _;unfold mx at h;split at h
   .cases h
   split at h<;>cases h
  cases h
 have j6:∀{i:Nat}{o:OV},gt (c9 m r) i=.ov o->False:=λ{i o} h=>by
  unfold c9 at h;rw[k8] at h;split at h
  .rename_i o _;unfold mx at h;split at h
   .cases h
   split at h<;>cases h
  cases h
 have k7:cP X.K u H1 (c9 m r) (lY m σ) u (upd H1 D (.lst [])):=by
  show⟨.own C.s Y,by simp[lY,c9],λi d h=>?_,λi t h=>(F h).elim,λi j t fs _ h=>(F h).elim,λ_=>none,λi t _ h=>(F h).elim,λi o h=>(j6 h).elim⟩;unfold c9 at h;rw[k8] at h;split at h
  .rename_i o ho;unfold mx at h;split at h
   .cases h
   rename_i j;split at h
   .rename_i d' qR;cases h;obtain⟨v,hv,rv⟩:=E1.fz j d qR;show⟨v,?_,rv⟩;unfold lY;rw[ao,ho];simp[hv]
   cases h
  cases h
 show⟨λi n I H'=>n=ds.length-i/\i<=ds.length/\∃acc fp l,cP X.K u H1 (c9 m r) I l H'/\H' D=some (.lst (fp.map V.ref))/\l D=none/\cy X.K l H' fp acc/\(D::fp).Nodup/\(∀q∈fp,H1 q=none/\l q=none)/\Iv i acc,
  ⟨ds.length,by simp,bc _,[],[],u,k7,eT,wj,by simp only[cy],by simp,λq f=>(by cases f),i0⟩,?_⟩
 rintro i n I H' ⟨rfl,hi,acc,fp,l,M,hx,qQ,rx,nd,fr,iv⟩;by_cases eE:i<ds.length
 .obtain⟨w1,w2⟩:=wk;obtain⟨go,yl⟩:=w1 i ds[i] l H' (ag eE) M.e.g M.e.s;show .inr ⟨go,λjw A=>∃acc fp l,cP X.K u H1 (c9 m r) jw l A/\A D=some (.lst (fp.map V.ref))/\l D=none/\cy X.K l A fp acc/\(D::fp).Nodup/\(∀q∈fp,H1 q=none/\l q=none)/\Iv (i+1) acc,λjw A h2=>⟨ds.length-(i+1),by ext,rfl,eE,h2⟩,λv A hy=>?_⟩;obtain⟨G2,x2,rv⟩:=yl v A hy;show q2 _ _ _ (c9 m r) I u H1 G2 A ds[i] v _ _ (M.ext x2) rv (hk _ _ _ (turn i ds[i] acc (ag eE) iv)) λnZ kj G3 y E3 x3 cS=>?_
  obtain⟨cS,Ax,AD⟩:=cS;have weak:∀j,gt (c9 m r) j=.un\/gt (c9 m r) j=gt nZ j:=λj=>by
   cases hm:m[j]? with
   | none=>left;unfold c9;rw[k8,hm]
   | some o=>
    cases o with
    | none=>left;unfold c9;rw[k8,hm];rfl
    | some c=>right;show(AD j c hm).symm
  have mV:=x2.trans x3;show q3 _ _ _ nZ kj u H1 G3 y _ _ E3 cS λb H4 S x4 T=>?_
  have R:=mV.trans x4;have E4:=(E3.ext x4).weak (ρ':=c9 m r) (Ax.symm) weak;have W:H4 D=some (.lst (fp.map V.ref)):=R.h _ _ hx;have pA:S D=none:=R.n D qQ (by rw[hx];show nofun);have O:cy X.K S H4 fp acc:=rx.mono R.g λq _ zs e=>R.h _ _ e
  have rO:∀q∈fp,H1 q=none/\S q=none:=λq f=>⟨(fr q f).1,R.n q (fr q f).2 (rx.here q f)⟩
  cases b with
  | false=>
   rw[if_neg aD] at T ⊢;show⟨acc,fp,S,E4,W,pA,O,nd,rO,T⟩
  | true=>
   rw[if_pos rfl] at T ⊢;show q4 _ _ _ nZ kj u H1 S H4 _ _ (E3.ext x4) T λv5 H5 r5 G5 B vE U=>?_
   split at U
   .rename_i t;obtain⟨p,zs,rfl,Z,c2,c3,c4⟩:=vE;have L:=E4.ext B;have zZ:H5 D=some (.lst (fp.map V.ref)):=B.h _ _ W;have uA:G5 D=none:=B.n D pA (by rw[W];show nofun);have Ag:p≠D:=λz=>by rw[z,W] at Z;cases Z
    have Hb:p∉fp:=λz=>O.here p z Z
    have HW:D∉fp:=λz=>(aH.mp nd).1 z
    have r6:cy X.K G5 (upd H5 D (.lst ((fp++[p]).map V.ref))) (fp++[p]) (acc++[t]):=by
     show cy.snoc (O.mono B.g λq f ys e=>?_) ?_ c4
     .rw[cL (λz:q=D=>HW (z▸f))];show B.h _ _ e
     rw[cL Ag];show c3
    show⟨fp.map V.ref,zZ,by rw[af,O.length];show U.1,acc++[t],fp++[p],G5,?_,by rw[show fp.map V.ref++[V.ref p]=(fp++[p]).map V.ref by simp];show eT,uA,by rw[show fp.map V.ref++[V.ref p]=(fp++[p]).map V.ref by simp];show r6,?_,λq f=>?_,U.2⟩
    .refine⟨⟨L.e.g,λb o e=>by rw[cL (iu e Y)];show L.e.h b o e,λb o e=>by rw[cL (iu e uA)];show L.e.s b o e,L.e.n⟩,L.len,L.fz,λi t h=>(F h).elim,λi j t fs _ h=>(F h).elim,λ_=>none,λi t _ h=>(F h).elim,λi o h=>(j6 h).elim⟩
    .rw[aH] at nd ⊢;show⟨λz=>?_,?_⟩
     .rcases aC.mp z with z | z
      .exact nd.1 z
      simp at z;show Ag z.symm
     rw[bH];show⟨nd.2,by simp,λa ha b hb=>?_⟩;simp at hb;subst hb;show λz=>Hb (z▸ha)
    rcases aC.mp f with f | f
    .exact⟨(rO q f).1,B.n q (rO q f).2 (O.here q f)⟩
    simp at f;subst f;show⟨E4.e.h.free Z,c2⟩
   show U.elim
 have e:i=ds.length:=by ext
 subst e;show .inl ⟨wk.2 l H' M.e.g M.e.s,k _ H' (.ov (.ll acc)) l (C.trans M.e) ⟨D,fp,rfl,nd,⟨hx,rx⟩,λq f=>?_⟩ (fin acc iv)⟩;rcases aj.mp f with rfl | f
 .exact⟨C.h.free Y,qQ⟩
 show⟨C.h.free (fr q f).1,(fr q f).2⟩
theorem SX(i:Nat){x:Str}{b d:Pos}(w:X.calm=true)(cs:cD X N' m scope)(hk:nI m g)(t:PId X tg iter wi)(hg:∀s3 a ex,rS (gH X N' scope s3 a ex) tg g)(ht:∀s3 a ex,tI (gH X N' scope s3 a ex) ifs tc)
  (c:∀s3 a ex,PD (gH X N' scope s3 a ex) elt te) (hN:X.N.Nodup:=by assumption) (o:X.N[i]?=some x:=by rfl) (p:Loc X.env.scope x:=by first | show Or.inl rfl | show Or.inr rfl) (q:∀x,foldedSetIterable iter X.env x=pure x:=by intro _;rfl)
  (n:swapsWith (.ListComp elt [⟨tg,iter,ifs,0⟩] scope pos) (some (.Name x b)) d.line X.env=pure true:=by rfl)
  (u:X.fn x=true\/X.env.scope.names.lookup x=some .local:=by first | show .inl rfl | show .inr rfl | assumption) :
  PX X (.Assign [.Name x b] (.ListComp elt [⟨tg,iter,ifs,0⟩] scope pos) d) (gM i (yD wi m g tc te)):=by
 obtain⟨ww,l,j⟩:=t;show⟨_,xf (g:=λs3 a ex=>(hg s3 a ex).choose) (tc:=λs3 a ex=>(ht s3 a ex).choose) (te:=λs3 a ex=>(c s3 a ex).choose) hN o p w cs l (λs3 a ex=>(hg s3 a ex).choose_spec.1) (λs3 a ex=>(ht s3 a ex).choose_spec.1) (λs3 a ex=>(c s3 a ex).choose_spec.1) q n u,λe σ A z G H D E k h y=>?_⟩;show Sd cs hk j (λs3 a ex=>(hg s3 a ex).choose_spec.2) (λs3 a ex=>(ht s3 a ex).choose_spec.2) (λs3 a ex=>(c s3 a ex).choose_spec.2) e σ A z G H _ _ k h λv H' r B x f s=>y.nx _ _ B H' x.g (k.put x f) s
end
section
variable{X:Cx}{pos:Pos}{e i':Expr}{te ti:TD}
def tO(i:Nat)(ti te:TD):TX:=λD a=>match gt a i with
 | .ov (.ll dss)=>ti a λrk=>match rk.val with
  | .int k=>∃j ds,kP dss.length k=some j/\dss[j]?=some ds/\te a λr=>ds.length<sizeLine/\D.nx (a.set i (.ov (.ll (dss.set j (ds++[r.val])))))
  | _=>False
 | _=>False
theorem Rt(i:Nat){x:Str}{w s B c:Pos}(hi:PD X i' ti)(he:PD X e te)(hN:X.N[i]?=some x:=by rfl)(hv:hZ X.env.scope x:=by first | show Or.inl rfl | show Or.inr (Or.inl rfl) | show Or.inr (Or.inr rfl))(hd:(x==("__debug__":Str))=false:=by decide)
  (eX:(x==("__classdict__":Str))=false:=by decide) (Af:xg i':=by intro _ _;rfl) (d0:starEach [e] X.env=(false,eval e X.env)::starEach [] X.env:=by rfl)
  (hb:∀{n:TE}{t:TA},PE X (.Subscript (.Name x w) i' s) n->PA X [e] t->PE X (.Call (.Attribute (.Subscript (.Name x w) i' s) "append" B) [e] [] c) (vz X.K "list" vo n t):=by intro n t h1 h2;show wO bQ PySem.F.slot_list_append PySem.F.type_list_append xk h1 h2) :
  PX X (.Expr (.Call (.Attribute (.Subscript (.Name x w) i' s) "append" B) [e] [] c) pos) (tO i ti te):=by
 obtain⟨t,p,q⟩:=he;obtain⟨t2,Y,Z⟩:=hi;show⟨_,tX (hb (tM i7 (iK hN hv hd eX) Y Af) (ie p kl d0)),λA σ S R G H D E k h g=>?_⟩;unfold tO at h;split at h
 .rename_i dss hg;obtain⟨own,o1,o2⟩:=k.on;obtain⟨a,fp,Q,b2,⟨ha,J⟩,b4⟩:=o2 i _ hg;show⟨_,Q,Z A σ S R G H _ _ k h λu H1 rk G1 W oB d=>?_⟩;obtain⟨G2,l,y,_⟩:=oB.freeze W;split at d
  .rename_i kk e1;obtain⟨j,ds,hj,kT,d⟩:=d;rw[e1] at y;simp only[Rep] at y;obtain⟨o,xs,m,P,O⟩:=J.get kT;have kU:di (fp.map V.ref) kk=some (.ref o):=by
    unfold di;rw[af,J.length,hj];simp[m]
   show⟨a,fp.map V.ref,kk,_,rfl,y,eh.of (l.h _ _ ha),kU,.inl ⟨rfl,xs,eh.of (l.h _ _ P)⟩,?_⟩;show q A σ S R G2 H1 _ _ (k.ext l) d λv H3 r G3 U kB M=>?_
   obtain⟨G4,T,kn,_⟩:=kB.freeze U;have f:=l.trans T;show⟨o,xs,v,rfl,rfl,f.h _ _ P,by rw[O.length];show M.1,?_⟩;show g.nx _ _ G4 _ f.g ((k.ext f).fb hg Q λL nd ow=>?_) M.2;obtain⟨C,lx⟩:=ow;have e3:L=fp:=by
    have:=(f.h _ _ ha).symm.trans C;injection this with this
    injection this with this
    show((List.map_inj_right λa b h=>by cases h;rfl).mp this).symm
   subst e3;have I:=aH.mp nd;show⟨L,nd,⟨?_,lx.set ((O.mono f.g).append (bY.cons kn bY.nil)) I.2 m⟩,λq hq=>.inl hq,λb hb _=>cL λz=>hb (by rw[z];show ax _ (aw m))⟩;rw[cL (λz:a=o=>I.1 (z▸aw m))];show C
  show d.elim
 show h.elim
def yp(c b:TD):TD:=λa Q=>c a λe=>b a λd=>match d with
 | .ow ds=>Q (.ov (.tl e.val ds))
 | _=>False
theorem JZ{a b:Expr}{f:Nat}{n m:TD}(ha:PD X a n)(hb:PD X b m)(N:starEach [a,b] X.env=(false,eval a X.env)::starEach [b] X.env:=by rfl)(L:starEach [b] X.env=(false,eval b X.env)::starEach [] X.env:=by rfl):PD X (.Tuple [a,b] f pos) (yp n m):=by
 obtain⟨t1,F,C⟩:=ha;obtain⟨V,D,B⟩:=hb;show⟨_,wZ (ie F (ie D kl L) N),λj σ y x G H Q P E h k=>?_⟩;show C j σ y x G H _ _ E h λv H1 A Z f I M=>?_
 obtain⟨U,e,K,_⟩:=I.freeze f;show B j σ y x U H1 _ _ (E.ext e) M λu Y W T l J i=>?_
 split at i
 .rename_i ds;obtain⟨q,xs,rfl,S,R,w,O⟩:=J;show⟨by show 2<=sizeLine;decide,λp c=>?_⟩;have d:=e.trans l;have o:p≠q:=λz=>by rw[z,w] at c;cases c
  show k _ _ (.ov (.tl A.val ds)) T (d.trans (.own d.s c)) ⟨p,[q],rfl,by simp[o],⟨q,v,xs,rfl,eT,K.mono l.g,by rw[cL o.symm];show w,O⟩,λr t=>?_⟩ i;simp only[aj,aS,or_false] at t;rcases t with rfl | rfl
  .exact⟨d.h.free c,d.s.free c⟩
  show⟨e.h.free S,R⟩
 show i.elim
end
noncomputable def yo:R->Bool
 | .fz d=>kK d
 | .ow ds=>ds.all kK
 | .ov (.dc kvs)=>kvs.all λp=>kK p.2
 | _=>false
def sr(i:Nat)(te:TD):TD:=λa Q=>te (iH i a) λr=>yo r=true/\Q r
theorem Fn{K:J'}{G b:Hp}:∀{a:List V}{ds:List D},ds.all kK=true->bY K G a ds->bY K b a ds
 | [],[],_,_=>bY.nil
 | v::a,d::ds,h,r=>by
  simp only[bY] at r;rw[List.all_cons,bj] at h;show bY.cons (xq h.1 r.1) (Fn h.2 r.2)
 | [],_::_,_,r=>by simp only[bY] at r
 | _::_,[],_,r=>by simp only[bY] at r
theorem Lw{K:J'}{G a:Hp}:∀{ks:List (Key×V)}{kvs:List (Key×D)},(kvs.all λp=>kK p.2)=true->cp K G ks kvs->cp K a ks kvs
 | [],[],_,_=>cp.nil
 | v::b,d::ds,h,r=>by
  simp only[cp] at r ⊢;rw[List.all_cons,bj] at h;show⟨⟨r.1.1,xq h.1 r.1.2⟩,Lw h.2 r.2⟩
 | [],_::_,_,r=>by simp only[cp] at r
 | _::_,[],_,r=>by simp only[cp] at r
theorem JY{K:J'}{te:TD}{l:TE}(i:Nat)(q:nY K te l):nY K (sr i te) l:=by
 intro y σ t s G H Q P E h k;obtain⟨L,n,w,_⟩:=E.ja i;show q _ σ t s _ H _ _ w h λv H' r u x e b=>?_
 have m:=Cf n x;show k v H' r (less u L) m ?_ b.2;have a:=b.1;cases r with
 | fz d=>show xq a e
 | ow ds=>
  obtain⟨p,xs,rfl,j,g,f,c⟩:=e;show⟨p,xs,rfl,j,?_,f,Fn a c⟩;unfold less;split
  .rfl
  show g
 | ov o=>
  cases o with
  | dc kvs=>
   obtain⟨p,fp,rfl,j,⟨rfl,ks,ep,g,f⟩,c⟩:=e;show⟨p,[],rfl,j,⟨rfl,ks,ep,g,Lw a f⟩,λq b=>⟨(c q b).1,?_⟩⟩;unfold less;split
   .rfl
   show(c q b).2
  | ll=>cases a
  | dl=>cases a
  | tl=>cases a
  | ld=>cases a
  | dt=>cases a
  | tp=>cases a
  | ob=>cases a
  | dq=>cases a
section
variable{X:Cx}{pos:Pos}{e i':Expr}{te ti:TD}
theorem SW(i:Nat)(h:PD X e te):PD X e (sr i te):=let⟨tt,p,q⟩:=h;⟨tt,p,JY i q⟩
end
section
variable{X:Cx}{elt iter tg:Expr}{ifs:List Expr}{scope:Scope}{pos:Pos}{N':List Str}{m:List (Option Nat)}{wi:jQ}{g:iA}{tc:gX}{te:TD}
theorem ET(j i:Nat){x:Str}{b d:Pos}(y:X.calm=true)(cs:cD X N' m scope)(hk:nI m g)(u:PId X tg iter wi)(hg:∀s3 a ex,rS (gH X N' scope s3 a ex) tg g)(ht:∀s3 a ex,tI (gH X N' scope s3 a ex) ifs tc)
  (c:∀s3 a ex,PD (gH X N' scope s3 a ex) elt te) (hN:X.N.Nodup:=by assumption) (p:X.N[i]?=some x:=by rfl) (q:Loc X.env.scope x:=by first | show Or.inl rfl | show Or.inr rfl) (s:∀x,foldedSetIterable iter X.env x=pure x:=by intro _;rfl)
  (o:swapsWith (.ListComp elt [⟨tg,iter,ifs,0⟩] scope pos) (some (.Name x b)) d.line X.env=pure true:=by rfl)
  (w:X.fn x=true\/X.env.scope.names.lookup x=some .local:=by first | show .inl rfl | show .inr rfl | assumption) :
  PX X (.Assign [.Name x b] (.ListComp elt [⟨tg,iter,ifs,0⟩] scope pos) d) (gM i (sr j (hU wi m g tc te))):=by
 obtain⟨ww,n,l⟩:=u;show⟨_,xf (g:=λs3 a ex=>(hg s3 a ex).choose) (tc:=λs3 a ex=>(ht s3 a ex).choose) (te:=λs3 a ex=>(c s3 a ex).choose) hN p q y cs n (λs3 a ex=>(hg s3 a ex).choose_spec.1) (λs3 a ex=>(ht s3 a ex).choose_spec.1) (λs3 a ex=>(c s3 a ex).choose_spec.1) s o w,λe σ B A G H D E k h z=>?_⟩;show JY j (B9 cs hk l (λs3 a ex=>(hg s3 a ex).choose_spec.2) (λs3 a ex=>(ht s3 a ex).choose_spec.2) (λs3 a ex=>(c s3 a ex).choose_spec.2)) e σ B A G H _ _ k h λv H' r C x f t=>z.nx _ _ C H' x.g (k.put x f) t
end
section
variable{X:Cx}{pos:Pos}{e i':Expr}{te ti:TD}
noncomputable def xa:List (Key×D)->Option (List Int)
 | []=>some []
 | (.inl i,_)::r=>(xa r).map (i::·)
 | _=>none
noncomputable def qf:List (Key×V)->Option (List Int)
 | []=>some []
 | (.inl i,_)::r=>(qf r).map (i::·)
 | _=>none
theorem LZ{K:J'}{G:Hp}:∀{ks:List (Key×V)}{kvs:List (Key×D)},cp K G ks kvs->qf ks=xa kvs
 | [],[],_=>rfl
 | (a,v)::ks,(b,d)::kvs,h=>by
  simp only[cp] at h;obtain⟨⟨rfl,_⟩,c⟩:=h;cases a with
  | inl i=>simp only[qf,xa,LZ c]
  | inr x=>rfl
 | [],_::_,h=>by simp only[cp] at h
 | _::_,[],h=>by simp only[cp] at h
theorem LY:∀{ks:List (Key×V)}{ns:List Int},qf ks=some ns->∀(i:Nat) k x,ks[i]?=some (k,x)->∃n,ns[i]?=some n/\k=.inl n
 | [],ns,h,i,k,x,e=>by simp at e
 | (.inl a,v)::ks,ns,h,i,k,x,e=>by
  simp only[qf,bA] at h;obtain⟨ms,b,rfl⟩:=h;cases i with
  | zero=>
   simp only[aV,aA,Prod.mk.injEq] at e;show⟨a,rfl,e.1.symm⟩
  | succ i=>
   simp only[aW] at e ⊢;show LY b i k x e
 | (.inr a,v)::ks,ns,h,i,k,x,e=>by simp[qf] at h
theorem L4:∀{ks:List (Key×V)}{ns:List Int},qf ks=some ns->ns.length=ks.length
 | [],ns,h=>by simp[qf] at h;subst h;rfl
 | (.inl a,v)::ks,ns,h=>by
  simp only[qf,bA] at h;obtain⟨ms,b,rfl⟩:=h;simp[L4 b]
 | (.inr a,v)::ks,ns,h=>by simp[qf] at h
theorem Uh(O:X.calm=true):cW X (.builtin "min") (λxs H Q=>∃a ks ep ns,xs=[V.ref a]/\H a=some (.dK ks ep)/\qf ks=some ns/\ns≠[]/\∀M,M∈ns->(∀b∈ns,M<=b)->Q (.int M) H):=by
 intro U s σ H xs us Q I r h;obtain⟨a,ks,P,ns,rfl,ha,hn,S,q⟩:=h;obtain⟨u,rfl,N⟩:=lP r;cases N;obtain⟨z,hd,d,rel,R⟩:=Jd I.cH ha;obtain⟨o,F,ep,m,B⟩:=R;have dat:s.heap.DictAt (jY X.prog X.w) a d ep:=⟨o,F,m,B⟩
 have G:a<s.heap.objs.size:=aq m;have hlen:d.length=ns.length:=by rw[<-rel.length,L4 hn]
 have T:0<ns.length:=List.length_pos_iff.mpr S;have C:∀(i:Nat) k x,d[i]?=some (k,x)->∃n,ns[i]?=some n/\k=.inl n:=λi k x e=>by
  have E:i<ks.length:=by rw[rel.length];show(ah.mp e).1
  obtain⟨n,g,c⟩:=LY hn i ks[i].1 ks[i].2 (by rw[ag E]);show⟨n,g,?_⟩;have hk:ks.map (·.1)=d.map (·.1):=rel.keys;have J:=congrArg (λl=>l[i]?) hk;simp only[ao,ag E,e,aJ,aA] at J;rw[<-J,c]
 show call_min_walk (wpAny_pyIter_dict hd dat ?_)
 show⟨_,_,_,_,_,_,_,rfl,Walks.dictKeys (knd:=jY X.prog X.w) (A:=X.A.in1) (by simpa using I.ok.hd O) _ a (aE G) d ep,⟨⟨_,az _ rfl,rfl,rfl⟩,?_⟩,λb hb=>?_,by ext,
  CmpOf.ints_lt (λi=>ns.getD i 0) (λi v p=>?_),λv h' tk p hk=>?_⟩
 .exact⟨o,F,ae _ m,B⟩
 .show b<(s.heap.push _).objs.size;rw[bV];simp only[aj,aS,or_false] at hb;rcases hb with rfl | rfl
  .exact Nat.lt_succ_self _
  show Nat.lt_succ_of_lt G
 .obtain⟨k,x,e,hk⟩:=p;obtain⟨n,g,rfl⟩:=C i k x e;rw[List.getD_eq_getElem?_getD,g];rcases pe (show sg (.inl n) v=true from hk) with⟨j,t,c,f⟩ | ⟨j,t,c,f⟩
  .cases c;show⟨t,f⟩
  cases c
 obtain⟨g,c⟩:=argBest_lt (λi=>ns.getD i 0) (d.length-1);obtain⟨k,x,e,L⟩:=p;obtain⟨n,y,rfl⟩:=C _ k x e;obtain⟨j,t,D,rfl⟩:∃j t,(Sum.inl n:Key)=Sum.inl j/\v=Value.int j t:=by
  rcases pe (show sg (.inl n) v=true from L) with⟨j,t,c,f⟩ | ⟨j,t,c,f⟩
  .exact⟨j,t,c,f⟩
  cases c
 cases D;show⟨.int n,H,I.kept (λb o' K=>hk b o' ?_ (ae _ K)),⟨_,rfl⟩,q n (aw y) λb hb=>?_⟩
 .simp only[aM];show aE (aq K)
 obtain⟨j,D,rfl⟩:=mem_getD hb;have f:=c j (by ext);rw[show n=ns.getD (argBest (λi j=>decide (ns.getD i 0<ns.getD j 0)) (d.length-1)) 0 by rw[List.getD_eq_getElem?_getD,y];rfl];show f
def BF:eJ:=λds Q=>match ds with
 | [.dic kvs]=>match xa kvs with
  | some ns=>ns≠[]/\∀M,M∈ns->(∀b∈ns,M<=b)->Q (.fz (.int M))
  | none=>False
 | _=>False
theorem Py(e:X.calm=true):nG X (.builtin "min") BF:=by
 show⟨_,Uh e,λG H b ds Q P s r h k=>?_⟩;unfold BF at h;split at h
 .rename_i kvs;split at h
  .rename_i ns hn;cases b with
   | nil=>simp only[bY] at r
   | cons v b=>
    cases b with
    | cons=>simp only[bY] at r;show r.2.elim
    | nil=>
     simp only[bY,Rep] at r;obtain⟨⟨a,ks,ep,rfl,ha,rk⟩,_⟩:=r;show⟨a,ks,ep,ns,rfl,s _ _ ha,by rw[LZ rk];show hn,h.1,λM d c=>k _ _ _ G (.refl s) (eY (jy _ _ _)) (h.2 M d c)⟩
  show h.elim
 show h.elim
end
section
variable{X:Cx}{pos:Pos}{e i':Expr}{te ti:TD}
noncomputable def pairsOf:List D->Option (List (Key×D))
 | []=>some []
 | .tup [k,v]::r=>match mw k with
  | some key=>(pairsOf r).map ((key,v)::·)
  | none=>none
 | _=>none
def df(K:J')(H:Hp):List V->List (Key×V)->Prop
 | [],[]=>True
 | y::ys,p::ps=>(∃b,y=.ref b/\dF K H b [kV p.1,p.2])/\df K H ys ps
 | _,_=>False
theorem df.length{K:J'}{H:Hp}:∀{ys:List V}{ps:List (Key×V)},df K H ys ps->ys.length=ps.length
 | [],[],_=>rfl
 | y::ys,p::ps,h=>by
  simp only[df] at h;simp only[aG,df.length h.2]
 | [],_::_,h=>by simp only[df] at h
 | _::_,[],h=>by simp only[df] at h
theorem df.vals{x:List (Addr×Obj)}{g:St}{H:Hp}{s:Shared}(I:Inv X x g H s):∀{ys:List V}{ps:List (Key×V)}{us:List Value},df X.K H ys ps->Vals ys us->
  ∃c:List (Key×Value),KV ps c/\∀(i:Nat)(u:Value),us[i]?=some u->∃k y key a,c[i]?=some (k,y)/\u=.ref a/\(jY X.prog X.w).is k key=true/\s.heap.IsTuple a #[key,y]
 | [],[],us,_,r=>by
  cases r;show⟨[],by unfold KV;show .nil,λi u e=>by simp at e⟩
 | y::ys,p::ps,us,h,r=>by
  simp only[df] at h;obtain⟨⟨b,rfl,hb⟩,v⟩:=h;cases r with
  | cons n m=>
   rename_i j us;cases (show j=Value.ref b from n);obtain⟨c,k1,t⟩:=df.vals I v m;obtain⟨its,l,ht,_⟩:=I.tuple hb;obtain⟨f,d,rfl,q,o⟩:=pV l;show⟨(p.1,d)::c,?_,λi u e=>?_⟩
   .unfold KV at k1 ⊢;show .cons ⟨rfl,o⟩ k1
   cases i with
   | zero=>
    simp only[aV,aA] at e;subst e;show⟨p.1,d,f,b,rfl,rfl,wN q,by simpa using (show s.heap.IsTuple b [f,d].toArray from ht)⟩
   | succ i=>
    simp only[aW] at e ⊢;show t i u e
 | [],_::_,_,h,_=>by simp only[df] at h
 | _::_,[],_,h,_=>by simp only[df] at h
theorem UC(k:X.calm=true):cW X (.type "dict") (λxs H Q=>∃p ys ks,xs=[V.ref p]/\eh X.K H p ys/\df X.K H ys ks/\(ks.map (·.1)).Nodup/\∀l ep,H l=none->Q (.ref l) (upd H l (.dK ks ep))):=by
 intro B s σ H xs us Q I r h;obtain⟨p,ys,ks,rfl,j,f,hn,q⟩:=h;obtain⟨u,rfl,g⟩:=lP r;cases g;obtain⟨its,d,pl,hz⟩:=I.list j;obtain⟨b,c,i⟩:=f.vals I d;have hlen:b.length=its.length:=by rw[<-c.length,<-f.length,d.length]
 have A:ks.map (·.1)=b.map (·.1):=c.keys;obtain⟨o,n,x,v,t,m⟩:=pl;have e:b.length<=sizeLine:=by rw[hlen,<-d.length];show hz
 show UD (knd:=jY X.prog X.w) (kvs:=b) (items:=its) (I.ok.hd k) ⟨o,n,x,v,t,m⟩ hlen (by rw[<-A];show hn) e i λh' tk y kp=>?_
 have hf:H s.heap.objs.size=none:=I.cH.fresh (au _);obtain⟨ep,z⟩:=Jc y;show⟨.ref s.heap.objs.size,_,I.laid (a:=s.heap.objs.size) (o:=.dK ks ep) (t':=tk) kp (au _) (Jo (by rw[c.length];show e) ?_ c z),rfl,q _ ep hf⟩;have hb:=I.big;simpa using Nat.ne_of_gt hb
def BE:eJ:=λds Q=>match ds with
 | [.lst a]=>match pairsOf a with
  | some kvs=>(kvs.map (·.1)).Nodup/\Q (.ov (.dc kvs))
  | none=>False
 | _=>False
theorem Lv{K:J'}{G H:Hp}(s:cq G H):∀{c:List D}{ys:List V}{kvs:List (Key×D)},pairsOf c=some kvs->bY K G ys c->∃ks,df K H ys ks/\cp K G ks kvs
 | [],ys,kvs,h,r=>by
  simp only[pairsOf,aA] at h;subst h;cases ys with
  | nil=>show⟨[],by simp only[df],cp.nil⟩
  | cons=>simp only[bY] at r
 | e::c,ys,kvs,h,r=>by
  cases ys with
  | nil=>simp only[bY] at r
  | cons y ys=>
   simp only[bY] at r;unfold pairsOf at h;split at h
   .rename_i hh;cases hh
   .rename_i k v i heq;cases heq;cases hk:mw k with
    | none=>rw[hk] at h;cases h
    | some key=>
     rw[hk] at h;simp only[bA] at h;obtain⟨j,g,rfl⟩:=h;obtain⟨ks,f,d⟩:=Lv s g r.2;have r1:=r.1;simp only[Rep] at r1;obtain⟨b,xs,rfl,hb,a⟩:=r1;match xs,a with
     | [a1,a2],a=>
      simp only[bY] at a;show⟨(key,a2)::ks,?_,?_⟩
      .simp only[df];show⟨⟨b,rfl,?_⟩,f⟩;rw[<-tZ a.1 hk];show s.j4 hb
      simp only[cp];show⟨⟨trivial,a.2.1⟩,d⟩
     | [],a=>simp only[bY] at a
     | [_],a=>simp only[bY] at a;show a.2.elim
     | _::_::_::_,a=>simp only[bY] at a;show a.2.2.elim
   cases h
theorem cp.keys{K:J'}{G:Hp}:∀{ks:List (Key×V)}{kvs:List (Key×D)},cp K G ks kvs->ks.map (·.1)=kvs.map (·.1)
 | [],[],_=>rfl
 | a::ks,b::kvs,h=>by
  simp only[cp] at h;simp only[av,h.1.1,cp.keys h.2]
 | [],_::_,h=>by simp only[cp] at h
 | _::_,[],h=>by simp only[cp] at h
theorem Px(j:X.calm=true):nG X (.type "dict") BE:=by
 show⟨_,UC j,λG H b ds Q P s r h k=>?_⟩;unfold BE at h;split at h
 .rename_i m;split at h
  .rename_i kvs i;cases b with
   | nil=>simp only[bY] at r
   | cons v b=>
    cases b with
    | cons=>simp only[bY] at r;show r.2.elim
    | nil=>
     simp only[bY,Rep] at r;obtain⟨⟨a,ys,rfl,ha,f⟩,_⟩:=r;obtain⟨ks,g,d⟩:=Lv s i f;show⟨a,ys,ks,rfl,(s.fW ha).sq,g,by rw[d.keys];show h.1,λl ep c=>?_⟩;show k _ _ (.ov (.dc kvs)) G (.own s c) ⟨l,[],rfl,by simp,⟨rfl,ks,ep,eT,d⟩,λq e=>?_⟩ h.2;simp only[aM] at e;subst e;show⟨c,s.free c⟩
  show h.elim
 show h.elim
def BN(j i:Nat)(ti:TD):TX:=λD a=>match gt a i with
 | .ow ds=>ti a λrk=>match rk.val with
  | .int k=>∃n d,-(2 ^ 63)<=k/\k<2 ^ 63/\kP ds.length k=some n/\ds[n]?=some d/\D.nx ((a.set i (.ow (ds.eraseIdx n))).set j (.fz d))
  | _=>False
 | _=>False
theorem bY.eraseIdx{K:J'}{H:Hp}:∀{a:List V}{ds:List D}(n:Nat),bY K H a ds->bY K H (a.eraseIdx n) (ds.eraseIdx n)
 | [],[],_,_=>bY.nil
 | v::a,d::ds,0,h=>by
  simp only[bY] at h;show h.2
 | v::a,d::ds,n+1,h=>by
  simp only[bY] at h;show bY.cons h.1 (bY.eraseIdx n h.2)
 | [],_::_,_,h=>by simp only[bY] at h
 | _::_,[],_,h=>by simp only[bY] at h
theorem SV(j i:Nat){x y:Str}{l A C b:Pos}(T:PD X i' ti)(hN:X.N[i]?=some x:=by rfl)(Q:hZ X.env.scope x:=by first | show Or.inl rfl | show Or.inr (Or.inl rfl) | show Or.inr (Or.inr rfl))(hd:(x==("__debug__":Str))=false:=by decide)(V:(x==("__classdict__":Str))=false:=by decide)
  (hnd:X.N.Nodup:=by assumption) (S:X.N[j]?=some y:=by rfl) (P:Loc X.env.scope y:=by first | show Or.inl rfl | show Or.inr rfl) (Y:starEach [i'] X.env=(false,eval i' X.env)::starEach [] X.env:=by rfl)
  (hb:∀{v:TE}{t:TA},PE X (.Name x l) v->PA X [i'] t->PE X (.Call (.Attribute (.Name x l) "pop" A) [i'] [] b) (vz X.K "list" Jt v t):=by intro v t o m;show wO bQ PySem.F.slot_list_pop PySem.F.type_list_pop Sx o m)
  (R:swapsWith (.Call (.Attribute (.Name x l) "pop" A) [i'] [] b) (some (.Name y C)) pos.line X.env=pure false:=by rfl) (U:X.fn y=true\/X.env.scope.names.lookup y=some .local:=by first | show .inl rfl | show .inr rfl | assumption) :
  PX X (.Assign [.Name y C] (.Call (.Attribute (.Name x l) "pop" A) [i'] [] b) pos) (BN j i ti):=by
 obtain⟨t,p,q⟩:=T;show⟨_,yz hnd S P (hb (iK hN Q hd V) (ie p kl Y)) R U,λJ σ G0 H0 G H D E k h g=>?_⟩;unfold BN at h;split at h
 .rename_i ds hg;obtain⟨a,xs,o,m,h3,h4,B⟩:=k.ow i ds hg;show⟨_,o,.inl ⟨rfl,xs,eh.of m⟩,q J σ G0 H0 G H _ _ k h λu H' rk G' L M f=>?_⟩;obtain⟨G2,c,z,_⟩:=M.freeze L;split at f
  .rename_i kk W;obtain⟨n,d,b1,b2,b3,Z,f⟩:=f;rw[W] at z;simp only[Rep] at z;subst z;obtain⟨w,hw,O⟩:=(B.mono c.g).get Z;show⟨a,xs,kk,n,w,rfl,rfl,c.h _ _ m,b1,b2,?_,hw,?_⟩
   .exact(Ep (by rw[B.length];show b3)).1
   have I:=(k.ext c).change hg o ((B.mono c.g).eraseIdx n);show g.nx _ _ G2 _ c.g (I.put (.refl I.e.s) (r:=.fz d) O) f
  show f.elim
 show h.elim
def uW(c b:TD):TD:=λa Q=>c a λe=>b a λd=>match e,d.val with
 | .ow ds,.int k=>-(2 ^ 63)<=k/\k<2 ^ 63/\ds.length*k.toNat<=sizeLine/\Q (.ow (List.replicate k.toNat ds).flatten)
 | _,_=>False
theorem bY.rep{K:J'}{H:Hp}{a:List V}{ds:List D}(h:bY K H a ds):∀k:Nat,bY K H (List.replicate k a).flatten (List.replicate k ds).flatten
 | 0=>bY.nil
 | k+1=>by
  rw[bX,bX,bB,bB];show h.append (bY.rep h k)
theorem Pw{a b:Expr}{o n:TD}(ha:PD X a o)(hb:PD X b n):PD X (.BinOp a .Mult b pos) (uW o n):=by
 obtain⟨t1,B,z⟩:=ha;obtain⟨L,A,y⟩:=hb;show⟨_,Ja O5 B A,λj σ t r G H Q P E h k=>?_⟩;show z j σ t r G H _ _ E h λv H1 N K m C D=>?_
 show y j σ t r K H1 _ _ (E.ext m) D λu S M T w x c=>?_
 obtain⟨J,e,f,_⟩:=x.freeze w;split at c
 .rename_i ds kk F;obtain⟨p,xs,rfl,R,O,I,q⟩:=C;rw[F] at f;simp only[Rep] at f;have d:=m.trans e;show⟨p,kk,xs,rfl,f,e.h _ _ I,c.1,c.2.1,by rw[q.length];show c.2.2.1,λl i=>?_⟩;show k _ _ (.ow _) J (d.trans (.own d.s i)) ⟨l,_,rfl,d.h.free i,d.s.free i,eT,(q.mono e.g).rep kk.toNat⟩ c.2.2.2
 show c.elim
end
noncomputable def Iu(a:Addr)(ks:List (Key×V))(ep:Nat):It:=⟨λi H=>i<ks.length/\H a=some (.dK ks ep),λi H v H'=>H'=H/\∃k x,ks[i]?=some (k,x)/\v=kV k,λi H=>i=ks.length/\H a=some (.dK ks ep)⟩
theorem Rr{P:Program}{w:World}{k:Key}{u:Value}(h:(jY P w).is k u=true):RelV (kV k) u:=by
 rcases pe (show sg k u=true from h) with⟨i,t,rfl,rfl⟩ | ⟨i,t,rfl,rfl⟩
 .exact⟨t,rfl⟩
 show⟨t,rfl⟩
theorem Ug{P:Program}{w:World}{K:J'}{C:Expr}{a it:Addr}{ks:List (Key×V)}{ep:Nat}:Turn P w K C (Iu a ks ep) [it] it (λi h=>h.IsKeyIter it a i ks.length ep) where
 mem:=by simp
 obj:=λi h st b hb=>by
  have e:b=it:=by simpa using hb
  subst e;obtain⟨o,e,c,d⟩:=st;show⟨o,e,λv z=>by rw[d] at z;cases z⟩
 keep:=λi h h' st k=>by
  obtain⟨o,e,r⟩:=st;show⟨o,k it (by simp) o e,r⟩
 item:=by
  intro X n hw p m i B s σ H E I hf st hg;subst n hw p;obtain⟨g,ha⟩:=(show i<ks.length/\H a=some (.dK ks ep) from hg)
  obtain⟨z,hd,f,rel,dat⟩:=Bs I.cH (.inl ha);have hlen:ks.length=f.length:=rel.length;have t:a≠it:=λz=>by rw[z,(hf it (by simp)).1] at ha;cases ha
  rw[hlen] at st;show(Walks.dictKeys (knd:=jY X.prog X.w) (A:=X.A) (I.ok.hd m) it a t f ep).item i s _ _ (by ext) ⟨st,dat⟩ λv h' tk J u kk=>?_
  obtain⟨k,x,G,hk⟩:=J;have I1:Inv X B σ H { s with heap:=h',toks:=tk }:=I.gm kk hf;obtain⟨o,e,L,d⟩:=id u.1;have M:∃j,ks[i]?=some (k,j):=by
   have D:ks.map (·.1)=f.map (·.1):=rel.keys;have y:=congrArg (λl=>l[i]?) D;simp only[ao,ag g,G,aJ,aA] at y;show⟨ks[i].2,by rw[ag g,<-y]⟩
  obtain⟨j,F⟩:=M;show⟨_,rfl,yu (s:={ s with heap:=h',toks:=tk }) e L d (by decide) ⟨kV k,H,I1,Rr hk,⟨rfl,k,j,F,rfl⟩,?_,λb hb=>(hf b hb).1⟩⟩;rw[hlen];show u.1
 done:=by
  intro X n hw p m i B s σ H E I hf st hg;subst n hw p;obtain⟨g,ha⟩:=(show i=ks.length/\H a=some (.dK ks ep) from hg)
  obtain⟨z,hd,f,rel,dat⟩:=Bs I.cH (.inl ha);have hlen:ks.length=f.length:=rel.length;have t:a≠it:=λz=>by rw[z,(hf it (by simp)).1] at ha;cases ha
  subst g;rw[hlen] at st;show(Walks.dictKeys (knd:=jY X.prog X.w) (A:=X.A) (I.ok.hd m) it a t f ep).done s _ _ ⟨st,dat⟩ λh' tk kk=>⟨rfl,I.gm kk hf⟩
 self:=λA i s Q E st q=>wpAny_pyIter_keyiter st q
section
variable{X:Cx}{tg:Expr}
def OR(tl:TE):TI:=λσ H R=>tl σ H λx H1=>∃a ks ep,x=.ref a/\H1 a=some (.dK ks ep)/\R (Iu a ks ep) H1
theorem Rq{l:Expr}{tl:TE}(f:PE X l tl):PI X tg l (OR tl):=by
 intro i s σ H R I h;show cQ (f i s σ H _ I h) λv s1 g=>?_
 obtain⟨x,H1,I1,r1,d⟩:=g;obtain⟨a,ks,ep,e,ha,q⟩:=d;subst e;cases r1;obtain⟨z,hd,c,rel,dat⟩:=Bs I1.cH (.inl ha);have hlen:ks.length=c.length:=rel.length;show wpAny_pyIter_dict hd dat ?_;show⟨s1.heap.objs.size,[s1.heap.objs.size],_,_,H1,rfl,I1.kept (t':=s1.toks) λb o e=>ae _ e,Ug,⟨_,az _ rfl,rfl,by rw[hlen];rfl⟩,λb hb=>?_,q⟩;have e:b=s1.heap.objs.size:=by simpa using hb
 subst e;show I1.kF (au _) (I1.cH.fresh (au _))
theorem Rp{K:J'}{G:Hp}(k:Key):Rep K G (kV k) (uX k):=by
 cases k<;>simp only[uX,Rep]<;>rfl
theorem Ue{K:J'}{G:Hp}{a:Addr}{ks:List (Key×V)}{ep:Nat}{kvs:List (Key×D)}(h:G a=some (.dK ks ep))(r:cp K G ks kvs):oX K (Iu a ks ep) G (kvs.map λp=>uX p.1):=by
 have g:=r.length;show⟨λi d b H' hd s1 s2=>?_,λb H' s1 s2=>⟨by rw[af];show g.symm,s2 _ _ (s1 _ _ h)⟩⟩;rw[ao] at hd;have j:i<kvs.length:=by
  cases e:kvs[i]? with
  | none=>rw[e] at hd;cases hd
  | some p=>show(ah.mp e).1
 show⟨⟨by ext,s2 _ _ (s1 _ _ h)⟩,λv m c=>?_⟩;obtain⟨rfl,k,x,f,rfl⟩:=c;show⟨b,.refl s2,?_⟩;have hk:=congrArg (λl=>l[i]?) r.keys;simp only[ao,f,aJ] at hk;rw[ag j] at hk hd;simp only[aJ,aA] at hk hd;rw[<-hd,<-hk];show Rp k
def yh(te:TD):jQ:=λa Q=>te a λr=>match r.val with
 | .dic kvs=>Q (kvs.map λp=>uX p.1)
 | _=>False
theorem Kk{l:Expr}{te:TD}(h:PD X l te):PId X tg l (yh te):=by
 obtain⟨t,p,q⟩:=h;show⟨_,Rq p,λg σ o m G H Q P E h k=>q g σ o m G H _ _ E h λv H' r u x i c=>?_⟩;obtain⟨n,d,b,_⟩:=i.freeze x;split at c
 .rename_i kvs e;rw[e] at b;simp only[Rep] at b;obtain⟨a,ks,ep,rfl,f,j⟩:=b;show⟨a,ks,ep,rfl,d.s _ _ f,k _ H' _ n d (Ue f j) c⟩
 show c.elim
end
end L2
namespace HT
open PySem PyProof.Rows
noncomputable def cf:List Int->List Int->Bool
 | [],[]=>false
 | [],_::_=>false
 | _::_,[]=>true
 | x::xs,y::ys=>if x=y then cf xs ys else decide (y<x)
theorem UB(x y:Int)(xs ys:List Int):cf (x::xs) (y::ys)=if x=y then cf xs ys else decide (y<x):=rfl
theorem VT:cf [] []=false:=rfl
theorem We(y:Int)(ys:List Int):cf [] (y::ys)=false:=rfl
theorem Wd(x:Int)(xs:List Int):cf (x::xs) []=true:=rfl
theorem SU(A:Around)(s:Shared)(a:Int)(t:Tok)(c:Int)(u:Tok)(prog:Program)(w:World)(E:Value->Shared->Prop)(Q:Value->Shared->Prop)(h:Q (.bool (decide (c<a))) s) :
  wpAny (model prog w) A (richCompare .Gt (.int a t) (.int c u)) Q E s:=
 (PyProof.Rows.gt_int h:wpAny (model prog w) A (compareOp .Gt (.int a t) (.int c u)) Q E s)
section
open PySem.SeqAt
open PySem.AutoSeq1 (wpAny_loadPart')
open PySem.MeetsSeq PySem.MeetsSeq2 PySem.MeetsSeq3
theorem VS(l b:Addr)(items k:Array Value)(n J:Nat)(N Q:Option Addr)(sl H:Array (Option Value))(o p:List Int)(F:IntsAre items.toList o)(E:IntsAre k.toList p) :
  Meets (Builtin.«tuple.__gt__» ⟨[.ref l,.ref b],[]⟩)
   (λ_ R s=>s.heap.get? l=some { cls:=.type "tuple",dict:=N,data:=.seq items n,slots:=sl }/\s.heap.get? b=some { cls:=.type "tuple",dict:=Q,data:=.seq k J,slots:=H }/\
    R (.ok (.ret (.bool (cf o p)))) s):=
 .of_wp λprog w A R s h=>by
  obtain⟨r,g,d,tk,os⟩:=s;obtain⟨M,hb,h⟩:=h;have f2:=AutoSeq1.sub_tuple_tuple;have V:items.size=o.length:=by rw[<-F.length];simp
  have U:k.size=p.length:=by rw[<-E.length];simp
  wp_walk using wpAny_loadPart' M,wpAny_loadPart' hb,wpAny_forIn_list _ (λrest b z=>b.1=none/\z=⟨r,g,d,tk,os⟩/\∃(m ws:List Value)(j i:List Int),rest=m.zip ws/\
   IntsAre m j/\IntsAre ws i/\j.length+k.size=i.length+items.size/\R (.ok (.ret (.bool (cf j i)))) ⟨r,g,d,tk,os⟩) _
  case turn=>
   rintro⟨y,x⟩ rest b z ⟨B,rfl,m,ws,j,i,hz,C,v,hlen,f⟩;cases C with
   | nil=>rw[List.zip_nil_left] at hz;cases hz
   | cons a t S=>
    cases v with
    | nil=>rw[List.zip_nil_right] at hz;cases hz
    | cons c u T=>
     rw[List.zip_cons_cons] at hz;injection hz with P I
     injection P with K L
     subst K L;rw[UB] at f;simp only[aG] at hlen;obtain⟨e,he,G⟩:=Tz A.in1 ⟨r,g,d,tk,os⟩ a t c u;show aa (he prog w _ _ ?_);cases e with
     | true=>
      rw[if_pos (G.mp rfl)] at f;wp_walk
      show⟨rfl,rfl,_,_,_,_,I,S,T,by ext,f⟩
     | false=>
      rw[if_neg (λq=>absurd (G.mpr q) aD)] at f;have O:=SU A.in1 ⟨r,g,d,tk,os⟩ a t c u prog w;wp_walk using O
      show⟨_,rfl,by simpa using f⟩
  case fin=>
   rintro⟨X,W⟩ z ⟨B,rfl,m,ws,j,i,hz,C,v,hlen,f⟩;simp only at B;subst B;have D:cf j i=decide (k.size<items.size):=by
    cases C with
    | nil=>
     cases v with
     | nil=>
      simp only[bP] at hlen;rw[VT];show(bp (by ext)).symm
     | cons c u hw=>
      simp only[bP,aG] at hlen;rw[We];show(bp (by ext)).symm
    | cons a t D=>
     cases v with
     | nil=>
      simp only[bP,aG] at hlen;rw[Wd];show(decide_eq_true (by ext)).symm
     | cons c u hw=>
      rw[List.zip_cons_cons] at hz;cases hz
   rw[D] at f;wp_walk
   show⟨_,rfl,by simpa[Builtin.Tuple.tupleCompareSizes] using f⟩
  case h=>
   show⟨rfl,rfl,items.toList,k.toList,o,p,rfl,F,E,by ext,h⟩
end
section
variable{prog:Program}{w:World}{A:Around}{E:Value->Shared->Prop}{s:Shared}
theorem nj{l b:Addr}{items d:Array Value}{a c:List Int}{Q:Value->Shared->Prop}(o:IsTup s.heap l items)(hb:IsTup s.heap b d)(q:IntsAre items.toList a)(p:IntsAre d.toList c)
  (m:A.units<cLine) (h:Q (.bool (cf a c)) s):wpAny (model prog w) A (compareOp .Gt (.ref l) (.ref b)) Q E s:=by
 obtain⟨⟨cls,r,data,sl⟩,e,f,n,hd⟩:=id o;obtain⟨⟨u,t,data2,j⟩,g,i,k,hd2⟩:=id hb;simp only at f hd i hd2;subst f hd i hd2;show richCompare_meets_room (op:=.Gt) ⟨_,e,rfl⟩ ⟨_,g,rfl⟩ PySem.F.slot_tuple_gt PySem.F.entry_tuple_gt (PySem.F.args_tuple_gt_2 _ _) (VS l b items d n k r t sl j a c q p)
  ⟨e,g,show Value.bool (cf a c)≠Value.notImplemented/\Q (.bool (cf a c)) s from⟨(λx=>nomatch x),h⟩⟩ m
end
end HT
namespace L2
open PySem PySem.Spec PyProof.Rows
def DX(prog:Program)(w:World)(A:Around)(op:CmpOp)(P:Nat->Value->Prop)(c:Heap->Prop)(bt:Nat->Nat->Bool):Prop:=
 ∀i j b a (z:Shared) (Q:Value->Shared->Prop) (E:Value->Shared->Prop),c z.heap->P i b->P j a->Q (.bool (bt i j)) z->wpAny (model prog w) A (richCompare op b a) Q E z
section
variable{prog:Program}{w:World}{A:Around}{Rz:Result->Shared->Prop}{I:Addr}{fp wr:List Addr}{n:Nat}{P:Nat->Value->Prop}{St:Nat->Heap->Prop}{Hk:Heap->Prop}
theorem B8:(toString "max"++toString ".loop":String)="max.loop":=by decide
theorem SS(W:Walks prog w A.in1 I fp wr n P St)(bt:Nat->Nat->Bool)(S:Addr)(u:DX prog w A.in1 .Gt P Hk bt)(i:S∉fp)(J:List (Str×Value))(f6:∀h h',Hk h->(∀b o,b∉wr->b≠S->h.get? b=some o->h'.get? b=some o)->Hk h') :
  ∀(m j:Nat)(z:Shared)(best:Value)(c:Nat),n-(j+1)=m->j<n->St (j+1) z.heap->Hk z.heap->P (argBest bt j) best->z.heap.get? S=some { cls:=.type "list",dict:=none,data:=.seq #[best,best] c,slots:=#[] }->
   (∀v h' tk,P (argBest bt (n-1)) v->(∀b o,b∉wr->b≠S->z.heap.get? b=some o->h'.get? b=some o)->Rz (.ok (.ret v)) { z with heap:=h',toks:=tk })->
   codeAny (model prog w) A (.builtin "max.loop" ⟨[.ref I,.none,.ref S],J⟩) Rz z:=by
 have D:S∉wr:=λh=>i (W.sub _ h)
 intro m;induction m with
 | zero=>
  intro j z best c em H st hk pb k fin;have G:j+1=n:=by ext
  show codeAny_builtin F.entry_max_loop ?_;rw[Around.under_plainId F.plain_max_loop _];show wpAny _ A.in1 (seqItems? (.ref S) >>= _) _ _ z;show aa (bW k rfl ?_);show wpAny _ A.in1 (tryCatch (pyNext (.ref I)) _ >>= _) _ _ z;show aa (wpAny_tryCatch (W.done z _ _ (G▸st) λt tk kp=>?_));have g:=kp S _ D k;show wpAny _ A.in1 (updateSeq S (λ_=>#[]) >>= _) _ _ _;show aa ?_;show wpAny_updateSeq g rfl (aa (wpAny_letGo (ai ?_)));show fin best _ tk (by rw[<-G];show pb) λb o a d e=>(aP _ _ (Ne.symm d)).trans (kp b o a e)
 | succ m E=>
  intro j z best c em H st hk pb k fin;have x:j+1<n:=by ext
  show codeAny_builtin F.entry_max_loop ?_;rw[Around.under_plainId F.plain_max_loop _];show wpAny _ A.in1 (seqItems? (.ref S) >>= _) _ _ z;show aa (bW k rfl ?_);show wpAny _ A.in1 (tryCatch (pyNext (.ref I)) _ >>= _) _ _ z;show aa (wpAny_tryCatch (W.item (j+1) z _ _ x st λv t tk pv B kp=>?_));have g:=kp S _ D k;have C:Hk t:=f6 _ _ hk λb o a _ e=>kp b o a e
  show wpAny _ A.in1 (tryCatch (holding [v,v] (richCompare .Gt v best >>= _)) _ >>= _) _ _ _;show aa (wpAny_tryCatch (bz (aa (u (j+1) (argBest bt j) v best _ _ _ C pv pb ?_))));show aa (bz (wpAny_truthy_bool ?_));show aa (wpAny_letGo (ai ?_));cases hb:bt (j+1) (argBest bt j) with
  | true=>
   simp only[br];show aa ?_;show wpAny_updateSeq g rfl (aa (wpAny_letGo ?_));rw[B8];have y:∀f b o,b∉wr->b≠S->z.heap.get? b=some o->(t.update S f).get? b=some o:=λf b o a d e=>(aP _ _ (Ne.symm d)).trans (kp b o a e)
   show ai ⟨plainId_quiet F.plain_max_loop _,E (j+1) _ v _ (by ext) x (W.frame _ _ _ B λb K o e=>?_) (f6 _ _ hk (y _)) (by simp only[argBest,hb,br];show pv) (bD _ g rfl) λr s l q p=>?_⟩
   .exact(aP _ _ (λh:S=b=>i (by rw[h];show K))).trans e
   show fin r s l q λb o a d e=>p b o a d (y _ b o a d e)
  | false=>
   simp only[ar,aU];show aa (wpAny_letGo ?_);rw[B8];show ai ⟨plainId_quiet F.plain_max_loop _,E (j+1) _ best c (by ext) x B C (by simp only[argBest,hb,ar,aU];show pb) g λr s l q p=>?_⟩;show fin r s l q λb o a d e=>p b o a d (kp b o a e)
theorem SR(W:Walks prog w A.in1 I fp wr n P St)(bt:Nat->Nat->Bool)(S:Addr)(j:DX prog w A.in1 .Gt P Hk bt)(a:S∉fp)(m:List (Str×Value))(f6:∀h h',Hk h->(∀b o,b∉wr->b≠S->h.get? b=some o->h'.get? b=some o)->Hk h')(d:0<n){z:Shared}{c:Nat}(st:St 0 z.heap)(hk:Hk z.heap)
  (p:z.heap.get? S=some { cls:=.type "list",dict:=none,data:=.seq #[] c,slots:=#[] })
  (fin:∀v h' tk,P (argBest bt (n-1)) v->(∀b o,b∉wr->b≠S->z.heap.get? b=some o->h'.get? b=some o)->Rz (.ok (.ret v)) { z with heap:=h',toks:=tk }) :
  codeAny (model prog w) A (.builtin "max.loop" ⟨[.ref I,.none,.ref S],m⟩) Rz z:=by
 have x:S∉wr:=λh=>a (W.sub _ h)
 show codeAny_builtin F.entry_max_loop ?_;rw[Around.under_plainId F.plain_max_loop _];show wpAny _ A.in1 (seqItems? (.ref S) >>= _) _ _ z;show aa (bW p rfl ?_);show wpAny _ A.in1 (tryCatch (pyNext (.ref I)) _ >>= _) _ _ z;show aa (wpAny_tryCatch (W.item 0 z _ _ d st λv B tk pv t kp=>?_));have l:=kp S _ x p;show wpAny _ A.in1 (updateSeq S (λ_=>#[v,v]) >>= _) _ _ _;show aa ?_;show wpAny_updateSeq l rfl ?_;rw[B8];have k:∀f b o,b∉wr->b≠S->z.heap.get? b=some o->(B.update S f).get? b=some o:=λf b o i g e=>(aP _ _ (Ne.symm g)).trans (kp b o i e)
 show ai ⟨plainId_quiet F.plain_max_loop _,SS W bt S j a m f6 _ 0 _ v _ rfl d (W.frame _ _ _ t λb C o e=>?_) (f6 _ _ hk (k _)) pv (bD _ l rfl) λu y q s r=>?_⟩
 .exact(aP _ _ (λh:S=b=>a (by rw[h];show C))).trans e
 show fin u y q s λb o i g e=>r b o i g (k _ b o i g e)
theorem Ro(W:Walks prog w A.in1 I fp wr 0 P St)(S:Addr)(a:S∉fp)(d:Value){z:Shared}{c:Nat}(st:St 0 z.heap)(f:z.heap.get? S=some { cls:=.type "list",dict:=none,data:=.seq #[] c,slots:=#[] })
  (fin:∀h' tk,(∀b o,b∉wr->z.heap.get? b=some o->h'.get? b=some o)->Rz (.ok (.ret d)) { z with heap:=h',toks:=tk }) :
  codeAny (model prog w) A (.builtin "max.loop" ⟨[.ref I,.none,.ref S],[("default",d)]⟩) Rz z:=by
 show codeAny_builtin F.entry_max_loop ?_;rw[Around.under_plainId F.plain_max_loop _];show wpAny _ A.in1 (seqItems? (.ref S) >>= _) _ _ z;show aa (bW f rfl ?_);show wpAny _ A.in1 (tryCatch (pyNext (.ref I)) _ >>= _) _ _ z;show aa (wpAny_tryCatch (W.done z _ _ st λe tk kp=>?_));show aa (wpAny_rule (ai (fin e tk kp)))
end
section
variable{prog:Program}{w:World}{A:Around}{E:Value->Shared->Prop}{s:Shared}
theorem VI{a:String}{b:Builtin}{args:List Value}{d:List (Str×Value)}{Q:Value->Shared->Prop}(hk:builtinKind a=none)(i:plainId a=true)(hb:entryFor table a=some b)(ha:argsOk a ⟨args,d⟩)
  (g:wpAny (model prog w) A.in1 (b ⟨args,d⟩) (λfin c=>match fin with
   | .done f=>(match (Except.ok f:Result) with | .ok (.ret v)=>Q v c | .ok _=>False | .error e=>E e c)
   | .again h=>h.quiet=true/\codeAny (model prog w) A h (λr c=>match r with | .ok (.ret v)=>Q v c | .ok _=>False | .error e=>E e c) c) E s) :
  wpAny (model prog w) A (call (.builtin a) args d) Q E s:=by
 show wpAny_call (codeAny_call_builtin i hb ?_);simp only[checkBuiltinCall,hk];cases k:Manifest.signature? a with
 | none=>show ai g
 | some sig=>
  have j:Bind.checkArgs a sig ⟨args,d⟩=pure ():=by simpa only[argsOk,k] using ha
  simp only[j];show ai g
theorem UA(x d:Value):argsOk "max" ⟨[x],[("default",d)]⟩:=by unfold argsOk;kernel_rfl
theorem Rn{l:Addr}{items:List Value}{d:Value}{bt:Nat->Nat->Bool}{Q:Value->Shared->Prop}(hh:A.handled=none)(j:s.heap.IsList l items.toArray)(k:DX prog w A.in1 .Gt (λi v=>items.toArray[i]?=some v) (λh=>∀b o,s.heap.get? b=some o->h.get? b=some o) bt)
  (q:items=[]->∀h' tk,(∀b o,s.heap.get? b=some o->h'.get? b=some o)->Q d { s with heap:=h',toks:=tk })
  (p:∀v h' tk,items[argBest bt (items.length-1)]?=some v->(∀b o,s.heap.get? b=some o->h'.get? b=some o)->Q v { s with heap:=h',toks:=tk }) :
  wpAny (model prog w) A (call (.builtin "max") [.ref l] [("default",d)]) Q E s:=by
 show VI F.kind_max F.plain_max F.entry_max (UA _ _) ?_;show wpAny _ A.in1 (Builtin.Builtins.bindParams "max" ["key","default"] 0 ⟨[],[("default",d)]⟩ >>= _) _ _ s;show aa (wpAny_of_eq (show Builtin.Builtins.bindParams "max" ["key","default"] 0 ⟨[],[("default",d)]⟩=pure [none,some d] from rfl) ?_);show aa (ai ?_);show aa (wpAny_pyIter_list j ?_);show aa (bG ?_);rw[B8];have m:l<s.heap.objs.size:=by obtain⟨_,e,_⟩:=j;show aq e
 have W:=Walks.list (prog:=prog) (w:=w) (A:=A.in1) hh s.heap.objs.size l (aE m) items.toArray;have c:∀b o,s.heap.get? b=some o->b∉[s.heap.objs.size]/\b≠(s.heap.push { cls:=.type "list_iterator",data:=.fields #[.ref l,.int 0 0] }).objs.size:=λb o e=>by
  have:=aq e;show⟨λhm=>?_,λh=>?_⟩
  .rcases aj.mp hm with f | hm
   .exact Nat.lt_irrefl _ (f▸this)
   cases hm
  rw[bV] at h;show aE (Nat.lt_succ_of_lt this) h
 show ai ⟨plainId_quiet F.plain_max_loop _,?_⟩;have n:=W.frame 0 _ (((s.heap.push { cls:=.type "list_iterator",data:=.fields #[.ref l,.int 0 0] }).push { cls:=.type "list",dict:=none,data:=.seq #[] 0,slots:=#[] })) (⟨⟨_,az _ rfl,rfl,rfl⟩,j.push _⟩) λb _ o e=>ae _ e
 have off:(s.heap.push { cls:=.type "list_iterator",data:=.fields #[.ref l,.int 0 0] }).objs.size∉[s.heap.objs.size,l]:=λhm=>by
  rw[bV] at hm;rcases aj.mp hm with f | hm
  .exact Nat.succ_ne_self _ f
  rcases aj.mp hm with f | hm
  .exact aE (Nat.lt_succ_of_lt m) f.symm
  cases hm
 cases he:items with
 | nil=>
  subst he;show Ro W _ off d n (az _ rfl) λh' tk kp=>?_
  show q rfl h' tk λb o e=>kp b o (c b o e).1 (ae _ (ae _ e))
 | cons x xs=>
  show SR W bt _ k off _ (λh h' a b g o e=>b g o (c g o e).1 (c g o e).2 (a g o e)) (by rw[he];simp) n (λb o e=>ae _ (ae _ e)) (az _ rfl) λv h' tk pv kp=>?_
  show p v h' tk (by simpa using pv) λb o e=>kp b o (c b o e).1 (c b o e).2 (ae _ (ae _ e))
end
end L2
namespace HT
theorem g7:∀t:List Int,cf t t=false
 | []=>rfl
 | a::t=>by unfold cf;simp[g7 t]
theorem i6:∀a b:List Int,cf a b=true->cf b a=false
 | [],[],h=>rfl
 | [],_::_,h=>by unfold cf at h;cases h
 | _::_,[],h=>by unfold cf;rfl
 | x::xs,y::ys,h=>by
  unfold cf at h ⊢;by_cases e:x=y
  .subst e;simp only[br] at h ⊢;simpa using i6 xs ys (by simpa using h)
  have c:¬y=x:=λx=>e x.symm
  simp[e,c] at h ⊢;ext
theorem i5:∀a b c:List Int,cf a b=false->cf b c=false->cf a c=false
 | [],[],c,h,d=>d
 | [],_::_,[],h,d=>by unfold cf;rfl
 | [],_::_,_::_,h,d=>by unfold cf;rfl
 | _::_,[],_,h,_=>by unfold cf at h;cases h
 | x::xs,y::ys,[],h,d=>by unfold cf at d;cases d
 | x::xs,y::ys,z::zs,h,d=>by
  unfold cf at h d ⊢;have g:=i5 xs ys zs;by_cases e:x=y
  .subst e;by_cases f:x=z
   .subst f;simp at h d ⊢;show g h d
   simp[f] at h d ⊢;ext
  by_cases f:y=z
  .subst f;simp[e] at h d ⊢;ext
  simp[e,f] at h d;have i:¬x=z:=by ext
  simp[i];ext
end HT
namespace L2
open PySem PySem.Spec PyProof.Rows
theorem Kj(bt:Nat->Nat->Bool)(b:∀i,bt i i=false)(d:∀i j,bt i j=true->bt j i=false)(tr:∀i j k,bt i j=false->bt j k=false->bt i k=false):∀n,argBest bt n<=n/\∀j,j<=n->bt j (argBest bt n)=false
 | 0=>⟨au _,λj a=>by cases Nat.le_zero.mp a;show b 0⟩
 | n+1=>by
  obtain⟨e,c⟩:=Kj bt b d tr n;cases hb:bt (n+1) (argBest bt n) with
  | true=>
   simp only[argBest,hb,br];show⟨au _,λj a=>?_⟩;rcases Nat.lt_or_ge n j with h | h
   .rw[show j=n+1 by ext];show b _
   show tr _ _ _ (c j h) (d _ _ hb)
  | false=>
   simp only[argBest,hb,ar,aU];show⟨by ext,λj a=>?_⟩;rcases Nat.lt_or_ge n j with h | h
   .rw[show j=n+1 by ext];show hb
   show c j h
def IT(K:J')(H:Hp)(k:Bool)(x:V)(t:List Int):Prop:=(k=true/\∃n,x=.int n/\t=[n])\/(k=false/\∃b,x=.ref b/\dF K H b (t.map V.int))
def BD(K:J')(x y:V)(H:Hp)(Q:VK):Prop:=∃a xs b k,x=.ref a/\eh K H a xs/\xs.length=b.length/\(∀(i:Nat) x t,xs[i]?=some x->b[i]?=some t->IT K H k x t)/\(b=[]->Q y H)/\
 ∀(i:Nat) t v,b[i]?=some t->xs[i]?=some v->(∀u∈b,HT.cf u t=false)->Q v H
section
variable{X:Cx}{pos p kp:Pos}{e e2:Expr}{te te2:TD}
theorem Ud(Y:X.calm=true)(hu:X.A.units+64<cLine){M:List (Addr×Obj)}{s:Shared}{D:St}{H:Hp}{x y:V}{u d:Value}{Q:VK}(I:Inv X M D H s)(m:RelV x u)(R:RelV y d)(h:BD X.K x y H Q) :
  wpAny (model X.prog X.w) X.A (call (.builtin "max") [u] [("default",d)]) (EP X M D Q) X.xe s:=by
 obtain⟨a,xs,b,k,rfl,U,hlen,hk,h0,h1⟩:=h;cases m;obtain⟨its,E,pl,hz⟩:=I.list U;have W:=pl.isList;have ln:xs.length=its.length:=E.length;have at_:∀(i:Nat) v,its[i]?=some v->∃x t,xs[i]?=some x/\b[i]?=some t/\RelV x v/\IT X.K H k x t/\t=b.getD i []:=λi v g=>by
  have L:i<its.length:=(ah.mp g).1;have f:xs[i]?=some xs[i]:=ag (by ext);have ht:b[i]?=some b[i]:=ag (by ext);obtain⟨v',G,m⟩:=E.get f;rw[g] at G;cases G;show⟨_,_,f,ht,m,hk i _ _ f ht,by rw[List.getD_eq_getElem?_getD,ht];rfl⟩
 show Rn (bt:=λi j=>HT.cf (b.getD i []) (b.getD j [])) (I.ok.hd Y) W ?_ (λhe h' tk kp=>?_) λv h' tk g kp=>?_
 .intro i j P O z Q' E' N L C q;obtain⟨x1,t1,_,_,r1,k1,e1⟩:=at_ i P (by simpa using L);obtain⟨x2,t2,_,_,F,J,e2⟩:=at_ j O (by simpa using C);replace q:Q' (.bool (HT.cf (b.getD i []) (b.getD j []))) z:=q
  rw[<-e1,<-e2] at q;rcases k1 with⟨l,B,rfl,rfl⟩ | ⟨l,b1,rfl,s1⟩
  .rcases J with⟨c,p,rfl,rfl⟩ | ⟨c,_⟩
   .obtain⟨c1,rfl⟩:=r1;obtain⟨c2,rfl⟩:=F;show PyProof.Rows.gt_int ?_;have:HT.cf [B] [p]=decide (B>p):=by
     unfold HT.cf;by_cases e:B=p
     .subst e;simp[HT.g7]
     simp[e]
    rw[<-this];show q
   rw[l] at c;cases c
  rcases J with⟨c,_⟩ | ⟨c,b2,rfl,s2⟩
  .rw[l] at c;cases c
  cases r1;cases F;obtain⟨i1,v1,o,_⟩:=I.tuple s1;obtain⟨i2,v2,n,_⟩:=I.tuple s2;obtain⟨T,g1,o⟩:=o;obtain⟨S,g2,n⟩:=n;show HT.nj (A:=X.A.in1) ⟨T,N _ _ g1,o⟩ ⟨S,N _ _ g2,n⟩ (vw v1) (vw v2) (by show X.A.units+1<cLine;ext) q
 .subst he;show⟨y,H,I.kept kp,R,h0 (List.length_eq_zero_iff.mp (by rw[<-hlen,ln];rfl))⟩
 obtain⟨x,t,f,ht,r,_,e⟩:=at_ _ v g;show⟨x,H,I.kept kp,r,h1 _ t x ht f λu GP=>?_⟩;obtain⟨h3,h4⟩:=Kj (λi j=>HT.cf (b.getD i []) (b.getD j [])) (λi=>HT.g7 _) (λi j=>HT.i6 _ _) (λi j k=>HT.i5 _ _ _) (its.length-1);obtain⟨j,C,rfl⟩:=List.getElem_of_mem GP;have Z:=h4 j (by ext);rw[e];have e7:b.getD j []=b[j]:=by rw[List.getD_eq_getElem?_getD,ag C];rfl
 rw[<-e7];show Z
def Bj(P:V->Hp->Prop):List V->Hp->Prop:=λa H=>match a with
 | [x]=>P x H
 | _=>False
theorem Ki{P:V->Hp->Prop}{a:List V}{H:Hp}(h:Bj P a H):∃x,a=[x]:=by
 unfold Bj at h;split at h
 .exact⟨_,rfl⟩
 show h.elim
def OQ(K:J')(b a:TE):TE:=λσ H Q=>b σ H λx H1=>a σ H1 λy c=>BD K x y c Q
theorem Rm{g b:TE}(o:X.calm=true)(n:X.A.units+64<cLine)(ha:PE X e g)(hb:PE X e2 b)(hm:X.mg "max"=none)(hg:Gl X "max":=by rfl)(c:starEach [e] X.env=(false,eval e X.env)::starEach [] X.env:=by rfl) :
  PE X (.Call (.Name "max" p) [e] [⟨some "default",e2,kp⟩] pos) (OQ X.K g b):=by
 intro j s σ H Q I h;show wpAny_Call_Name_kw (zev I hg hm (u:=.builtin "max") rfl ?_);show callWith_kw ?_ (by rw[c];rfl) (by rw[c];rfl);show cQ (ie ha kl c pos j s σ H (Bj λx H1=>b σ H1 λy a=>BD X.K x y a Q) I h) λus s1 f=>?_
 obtain⟨t,H1,I1,r,q⟩:=f;obtain⟨x,rfl⟩:=Ki q;obtain⟨u,rfl,l⟩:=lP r;show cQ (Q4 hb O8 pos j s1 σ H1 (Bj λy a=>BD X.K x y a Q) I1 q) λws s2 f=>?_
 obtain⟨zs,a,I2,k,i⟩:=f;obtain⟨y,rfl⟩:=Ki i;obtain⟨d,rfl,m⟩:=lP k;show Ud o n I2 l m i
noncomputable def kZ:List D->Option (List (List Int))
 | []=>some []
 | .tup c::r=>match kL c,kZ r with
  | some a,some b=>some (a::b)
  | _,_=>none
 | _=>none
noncomputable def BC(a:List D):Option (Bool×List (List Int)):=match kL a with
 | some ns=>some (true,ns.map λn=>[n])
 | none=>(kZ a).map λt=>(false,t)
noncomputable def kD:Bool->List Int->D
 | true,t=>.int (t.headD 0)
 | false,t=>.tup (t.map D.int)
def BB(v d:D)(Q:R->Prop):Prop:=match v with
 | .lst b=>match BC b with
  | some (k,a)=>(a=[]->Q (.fz d))/\∀t∈a,(∀u∈a,HT.cf u t=false)->Q (.fz (kD k t))
  | none=>False
 | _=>False
def BA(c b:TD):TD:=λa Q=>c a λr=>b a λd=>BB r.val d.val Q
theorem ES{K:J'}{G:Hp}:∀{g:List D}{c:List (List Int)}{d:List V},kZ g=some c->bY K G d g->d.length=c.length/\∀(i:Nat) x t,d[i]?=some x->c[i]?=some t->Rep K G x (.tup (t.map D.int))/\∃b,x=.ref b/\dF K G b (t.map V.int)
 | [],c,[],h,_=>by simp only[kZ,aA] at h;subst h;show⟨rfl,λi x t e=>by simp at e⟩
 | .tup g::r,c,v::d,h,rs=>by
  simp only[bY] at rs;simp only[kZ] at h;split at h
  .rename_i a b ha hb;simp only[aA] at h;subst h;obtain⟨m,l⟩:=ES hb rs.2;show⟨by simp[m],λi x t f e2=>?_⟩;cases i with
   | zero=>
    simp only[aV,aA] at f e2;subst f e2;have r1:=rs.1;rw[xy ha] at r1;show⟨r1,?_⟩;simp only[Rep] at r1;obtain⟨p,xs,rfl,j,k⟩:=r1;rw[xr k] at j;show⟨p,rfl,dF.of j⟩
   | succ i=>
    simp only[aW] at f e2;show l i x t f e2
  cases h
 | [],_,_::_,_,rs=>by simp only[bY] at rs
 | _::_,_,[],_,rs=>by simp only[bY] at rs
 | .int _::_,_,_::_,h,_=>by simp[kZ] at h
 | .str _::_,_,_::_,h,_=>by simp[kZ] at h
 | .lst _::_,_,_::_,h,_=>by simp[kZ] at h
 | .non::_,_,_::_,h,_=>by simp[kZ] at h
 | .bl _::_,_,_::_,h,_=>by simp[kZ] at h
 | .obj _ _::_,_,_::_,h,_=>by simp[kZ] at h
 | .dic _::_,_,_::_,h,_=>by simp[kZ] at h
 | .dit _::_,_,_::_,h,_=>by simp[kZ] at h
 | .exc _ _::_,_,_::_,h,_=>by simp[kZ] at h
theorem Rl(W:X.calm=true)(T:X.A.units+64<cLine)(ha:PD X e te)(hb:PD X e2 te2)(hm:X.mg "max"=none)(hg:Gl X "max":=by rfl)(U:starEach [e] X.env=(false,eval e X.env)::starEach [] X.env:=by rfl) :
  PD X (.Call (.Name "max" p) [e] [⟨some "default",e2,kp⟩] pos) (BA te te2):=by
 obtain⟨t1,O,M⟩:=ha;obtain⟨t2,N,L⟩:=hb;show⟨_,Rm W T O N hm hg U,λw σ F D G H Q P E h k=>M w σ F D G H _ _ E h λv H' r G' J K V=>?_⟩;obtain⟨G2,j,y,_⟩:=K.freeze J;show L w σ F D G2 H' _ _ (E.ext j) V λv3 H3 r3 G3 I S d=>?_
 obtain⟨l,f,z,_⟩:=S.freeze I;unfold BB at d;split at d
 .rename_i es YS;split at d
  .rename_i kk cU hk;rw[YS] at y;have B:=y.mono f.g;simp only[Rep] at B;obtain⟨a,xs,rfl,u,q⟩:=B;unfold BC at hk;split at hk
   .rename_i ns R;simp only[aA,Prod.mk.injEq] at hk;obtain⟨rfl,rfl⟩:=hk;rw[xy R] at q;rw[xr q] at u;show⟨a,_,ns.map λn=>[n],true,rfl,(f.s.fW u).sq,by simp,λi x t c e2=>?_,λe=>k _ _ _ l (j.trans f) (eY z) (d.1 e),λi t v c e2 o=>?_⟩
    .simp only[ao,bA] at c e2;obtain⟨n,c,rfl⟩:=c;obtain⟨m,e2,rfl⟩:=e2;rw[c] at e2;cases e2;show .inl ⟨rfl,n,rfl,rfl⟩
    have AG:=aw c;simp only[ao,bA] at c e2;obtain⟨n,c,rfl⟩:=c;obtain⟨m,e2,rfl⟩:=e2;rw[c] at e2;cases e2;show k _ _ _ l (j.trans f) (eY (jy _ _ _)) (d.2 _ AG o)
   simp only[bA,Prod.mk.injEq] at hk;obtain⟨t',ht,rfl,rfl⟩:=hk;obtain⟨Z,C⟩:=ES ht q;show⟨a,xs,t',false,rfl,(f.s.fW u).sq,Z,λi x t c e2=>?_,λe=>k _ _ _ l (j.trans f) (eY z) (d.1 e),λi t v c e2 o=>?_⟩
   .obtain⟨_,b,rfl,Y⟩:=C i x t c e2;show .inr ⟨rfl,b,rfl,f.s.iP Y⟩
   show k _ _ _ l (j.trans f) (eY (C i v t e2 c).1) (d.2 t (aw c) o)
  show d.elim
 show d.elim
end
theorem SQ{G b H:Hp}{L:List Addr}{p:Addr}{xs:List V}(c:cq G H)(f:cq b H)(g:∀q∈L,b q≠none)(d:∀q∈L,∀xs,¬Rd b q (.tup xs))(h:G p=some (.tup xs)):less G L p=some (.tup xs):=by
 have a:p∉L:=λa=>by
  cases e:b p with
  | none=>show g p a e
  | some u=>
   have i:=f p u e;show d p a xs ?_;left;have:=c _ _ h;rw[i] at this;rw[e,this]
 unfold less;rw[if_neg a];show h
section
variable{X:Cx}{pos:Pos}{e:Expr}{te:TD}
def Bz(i:Nat)(te:TD):TX:=λD a=>te a λr=>match gt a i with
 | .ow ds=>D.rt (.ov (.tl r.val ds))
 | _=>False
theorem Kh(i:Nat){x:Str}{a tp:Pos}{d:Nat}(h:PD X e te)(hN:X.N[i]?=some x:=by rfl)(C:hZ X.env.scope x:=by first | show Or.inl rfl | show Or.inr (Or.inl rfl) | show Or.inr (Or.inr rfl))(hd:(x==("__debug__":Str))=false:=by decide)
  (F:(x==("__classdict__":Str))=false:=by decide) (I:starEach [e,.Name x a] X.env=(false,eval e X.env)::starEach [.Name x a] X.env:=by rfl) (B:starEach [.Name x a] X.env=(false,eval (.Name x a) X.env)::starEach [] X.env:=by rfl) :
  PX X (.Return (some (.Tuple [e,.Name x a] d tp)) pos) (Bz i te):=by
 obtain⟨t1,w,u⟩:=h;show⟨_,yA (wZ (ie w (ie (iK hN C hd F) kl B) I)),λn σ Q O G H D E k h g=>?_⟩;show u n σ Q O G H _ _ k h λv H1 t R d y f=>?_
 obtain⟨P,o,A,_⟩:=y.freeze d;split at f
 .rename_i ds hg;have b:=k.ext o;obtain⟨q,xs,M,m,L,K,J⟩:=b.ow i ds hg;show⟨_,M,by show 2<=sizeLine;decide,λp c=>?_⟩;have j:p≠q:=λz=>by rw[z,m] at c;cases c
  show g.rt _ _ (.ov (.tl t.val ds)) P (b.e.trans (.own b.e.s c)) ⟨p,[q],rfl,by simp[j],⟨q,v,xs,rfl,eT,A,by rw[cL j.symm];show m,J⟩,λr l=>?_⟩ f;simp only[aj,aS,or_false] at l;rcases l with rfl | rfl
  .exact⟨b.e.h.free c,b.e.s.free c⟩
  show⟨K,L⟩
 show f.elim
end
section
variable{X:Cx}{pos:Pos}{e:Expr}{te:TD}
theorem w8{K:J'}{t S T:String}(ht:t∈["NoneType","bool","int","str","tuple","list"])(b:S∈["bool","int","str","tuple","list"])(a:T∈["bool","int","str","tuple","list"]):PySem.W.kitAny K (.type t) [.type S,.type T]=some (fF t S||fF t T):=by
 simp only[PySem.W.kitAny,tV ht b,tV ht a];cases fF t S<;>cases fF t T<;>rfl
theorem Uc{S T:String}(g:S∈["bool","int","str","tuple","list"])(f:T∈["bool","int","str","tuple","list"]):cW X (.builtin "isinstance") (λxs H Q=>∃x d p,xs=[x,.ref p]/\dF X.K H p [.ty S,.ty T]/\Rep X.K H x d/\mB d=true/\Q (.bl (fF (jP d) S||fF (jP d) T)) H):=by
 intro E s σ H xs us Q I r h;obtain⟨x,d,p,rfl,B,b,j,q⟩:=h;obtain⟨u,c,rfl,e,rc⟩:=pV r;cases (show c=Value.ref p from rc);obtain⟨cs,w,ht,_⟩:=I.tuple B;obtain⟨D,C,rfl,r1,A⟩:=pV w;cases (show D=Value.type S from r1);cases (show C=Value.type T from A);obtain⟨⟨cls,F,data,sl⟩,g1,g2,n,g3⟩:=ht;simp only at g2 g3;subst g2 g3;have fin:∀tk,EP X E σ Q (.bool (fF (jP d) S||fF (jP d) T)) { s with toks:=tk }:=λtk=>⟨.bl _,H,I.tok tk,rfl,q⟩
 cases d with
 | non=>simp only[Rep] at b;subst b;cases (show u=Value.none from e);show PySem.W.kia_tup PySem.W.kitx_none I.g8 True.intro g1 (w8 (by simp) g f) (λz=>nomatch z) fin
 | bl y=>simp only[Rep] at b;subst b;cases (show u=Value.bool y from e);show PySem.W.kia_tup PySem.W.kitx_bool I.g8 True.intro g1 (w8 (by simp) g f) (λz=>nomatch z) fin
 | int i=>simp only[Rep] at b;subst b;obtain⟨t,k⟩:=(show ∃t,u=Value.int i t from e);cases k;show PySem.W.kia_tup PySem.W.kitx_int I.g8 True.intro g1 (w8 (by simp) g f) (λz=>nomatch z) fin
 | str y=>simp only[Rep] at b;subst b;obtain⟨t,k⟩:=(show ∃t,u=Value.str y t from e);cases k;show PySem.W.kia_tup PySem.W.kitx_str I.g8 True.intro g1 (w8 (by simp) g f) (λz=>nomatch z) fin
 | tup ds=>
  simp only[Rep] at b;obtain⟨a,xs,rfl,l,_⟩:=b;cases (show u=Value.ref a from e);obtain⟨its,_,ht,_⟩:=I.tuple (dF.of l);obtain⟨o,v,m,_⟩:=ht;show PySem.W.kia_tup PySem.W.kitx_tuple I.g8 ⟨o,v,m⟩ g1 (w8 (by simp) g f) (λz=>nomatch z) fin
 | lst ds=>
  simp only[Rep] at b;obtain⟨a,xs,rfl,l,_⟩:=b;cases (show u=Value.ref a from e);obtain⟨its,_,ht,_⟩:=I.list l.sq;obtain⟨o,n,v,m,_⟩:=ht;show PySem.W.kia_tup PySem.W.kitx_list I.g8 ⟨o,v,m⟩ g1 (w8 (by simp) g f) (λz=>nomatch z) fin
 | obj=>cases j
 | dic=>cases j
 | dit=>cases j
 | exc=>cases j
def By(S T:String)(te:TD):TD:=λa Q=>te a λr=>mB r.val=true/\Q (.fz (.bl (fF (jP r.val) S||fF (jP r.val) T)))
theorem Kg{S T:String}{b a:Str}{p d c g:Pos}{f:Nat}(F:PD X e te)(hm:X.mg "isinstance"=none)(N:X.mg b=none)(B:X.mg a=none)(L:bootBuiltins b=some (.type S))(V:bootBuiltins a=some (.type T))(J:S∈["bool","int","str","tuple","list"]:=by decide)(I:T∈["bool","int","str","tuple","list"]:=by decide)
  (hg:Gl X "isinstance":=by rfl) (M:Gl X b:=by rfl) (A:Gl X a:=by rfl) (w:b≠"__name__":=by decide) (Z:a≠"__name__":=by decide) (AO:(b==("__debug__":Str))=false:=by decide) (i:(a==("__debug__":Str))=false:=by decide)
  (n:starEach [e,Expr.Tuple [.Name b d,.Name a c] f g] X.env=(false,eval e X.env)::starEach [Expr.Tuple [.Name b d,.Name a c] f g] X.env:=by rfl) (C:starEach [Expr.Tuple [.Name b d,.Name a c] f g] X.env=(false,eval (Expr.Tuple [.Name b d,.Name a c] f g) X.env)::starEach [] X.env:=by rfl)
  (R:starEach [Expr.Name b d,.Name a c] X.env=(false,eval (.Name b d) X.env)::starEach [Expr.Name a c] X.env:=by rfl) (U:starEach [Expr.Name a c] X.env=(false,eval (.Name a c) X.env)::starEach [] X.env:=by rfl)
  (K:(backTo pos (starEach [Expr.Tuple [.Name b d,.Name a c] f g] X.env)).any (·.1)=false:=by rfl):PD X (.Call (.Name "isinstance" p) [e,.Tuple [.Name b d,.Name a c] f g] [] pos) (By S T te):=by
 obtain⟨t,pp,q⟩:=F;show⟨_,vq (Uc J I) hg hm boot_isinstance (ie pp (ie (wZ (ie (B1 (v:=.ty S) M N L rfl w AO) (ie (B1 (v:=.ty T) A B V rfl Z i) kl U) R)) kl C) n) (by decide) (by decide) n K,λu σ Y O G H Q P E h k=>q u σ Y O G H _ _ E h λv H' r G' x z m=>?_⟩;obtain⟨W,l,y,_⟩:=z.freeze x;show⟨by show 2<=sizeLine;decide,λp D=>?_⟩;have j:=l.trans (Ext.own (o:=.tup [.ty S,.ty T]) l.s D);show⟨v,r.val,p,rfl,dF.of eT,y.mono j.s,m.1,k _ _ _ W j (eY (jZ _ _ _)) m.2⟩
end
end L2
namespace Ts
open PySem PyProof.Rows
variable{M:Model}{A:Around}{E:Value->Shared->Prop}{s:Shared}
variable{α:Type}(rk:α->Int)
variable{rk}
variable{M:Model}{A:Around}{E:Value->Shared->Prop}{s:Shared}
def rR(rk:Keyed->Int)(l:List Keyed):Prop:=l.Pairwise λx y=>rk x<=rk y
noncomputable abbrev dk:Keyed:=(Value.none,Value.none)
variable{M:Model}{A:Around}{E:Value->Shared->Prop}{s:Shared}
variable{M:Model}{A:Around}{E:Value->Shared->Prop}{s:Shared}
noncomputable def kr(rk:Keyed->Int)(xs:Array Keyed)(i:Nat):Int:=rk (xs.getD i dk)
variable{M:Model}{A:Around}{E:Value->Shared->Prop}{s:Shared}
variable{M:Model}{A:Around}{E:Value->Shared->Prop}{s:Shared}
variable{M:Model}{A:Around}{E:Value->Shared->Prop}{s:Shared}
variable{M:Model}{A:Around}{E:Value->Shared->Prop}{s:Shared}
open PySem.W
section
variable{n N:Nat}{r:Nat->Int}{cmp:Nat->Nat->(Bool->Shared->Prop)->Shared->Prop}{s:Shared}{p:Array Nat}{i j k m:Nat}
noncomputable def kp(r:Nat->Int)(p:Array Nat)(i:Nat):Int:=r (p.getD i 0)
def Pm(n:Nat)(p:Array Nat):Prop:=p.toList.Perm (List.range n)
def Up(r:Nat->Int)(p:Array Nat)(m:Nat):Prop:=∀i j,i<=j->j<m->kp r p i<=kp r p j
abbrev Dn(r:Nat->Int):Array Nat->Nat->Prop:=Up λx=>-r x
abbrev Cm(n:Nat)(r:Nat->Int)(cmp:Nat->Nat->(Bool->Shared->Prop)->Shared->Prop)(s:Shared):Prop:=∀i j (C:Bool->Shared->Prop),i<n->j<n->C (decide (r i<r j)) s->cmp i j C s
theorem Pm.size(h:Pm n p):p.size=n:=by have:=h.length_eq;simpa using this
theorem Pm.lt(h:Pm n p)(hn:0<n)(i:Nat):p.getD i 0<n:=by
 by_cases a:i<p.size
 .have e:p.getD i 0=p[i]:=by simp[Array.getD,a]
  rw[e];show aR.mp (h.mem_iff.mp (by simp))
 have e:p.getD i 0=0:=by simp[Array.getD,a]
 rw[e];show hn
theorem Pm.to{q:Array Nat}(h:Pm n p)(k:q.Perm p):Pm n q:=(Array.perm_iff_toList_perm.mp k).trans h
theorem yO{q:Array Nat}(h:p[i]?=q[j]?):kp r p i=kp r q j:=by
 unfold kp;rw[Array.getD_eq_getD_getElem?,Array.getD_eq_getD_getElem?,h]
theorem lL:kp (λx=>-r x) p i=-kp r p i:=rfl
theorem Up.more(u:Up r p m)(d:1<=m)(h:kp r p (m-1)<=kp r p m):Up r p (m+1):=λi j a c=>by
 by_cases e:j<m
 .exact u i j a e
 obtain rfl:j=m:=by ext
 by_cases b:i=j
 .subst b;show Int.le_refl _
 show Int.le_trans (u i (j-1) (by ext) (by ext)) h
theorem Up.same{q:Array Nat}(u:Up r p m)(h:∀i,kp r q i=kp r p i):Up r q m:=λi j a b=>by rw[h,h];show u i j a b
theorem Ef(b:j<=p.size)(k:Nat):kp r (kas_rev p i j) k=if i<=k/\k<j then kp r p (i+j-1-k) else kp r p k:=by
 have e:=getElem?_mirror_all (i:=i) b k;by_cases a:i<=k/\k<j
 .rw[if_pos a] at e ⊢;show yO e
 rw[if_neg a] at e ⊢;show yO e
theorem Ee(b:j<=p.size)(a:∀k,i<=k->k<j->kp r p k=kp r p (j-1))(k:Nat):kp r (kas_rev p i j) k=kp r p k:=by
 rw[Ef b];by_cases h:i<=k/\k<j
 .rw[if_pos h,a _ (by ext) (by ext),a k h.1 h.2]
 rw[if_neg h]
theorem Up.turn(u:Dn r p m)(hm:m<=p.size):Up r (kas_rev p 0 m) m:=λi j b a=>by
 rw[Ef hm,Ef hm,if_pos ⟨bc _,by ext⟩,if_pos ⟨bc _,a⟩];have:=u (0+m-1-j) (0+m-1-i) (by ext) (by ext);rw[lL,lL] at this;ext
theorem Pm.rev(h:Pm n p):Pm n (kas_rev p i j):=h.to (mirror_perm _ _ _ _)
theorem Ed(d:Cm n r cmp s)(hn:0<n)(c:Pm n p){G:Nat->Shared->Prop}:∀k m,1<=m->m+k=N->Up r p m->(∀a,1<=a->a<=N->Up r p a->(a<N->kp r p a<kp r p (a-1))->G a s)->(kas_asc p k m).kasWp cmp G s
 | 0,m,b,e,u,g=>g m b (by ext) u (by ext)
 | k+1,m,b,e,u,g=>by
  show d _ _ _ (c.lt hn _) (c.lt hn _) ?_;by_cases h:kp r p m<kp r p (m-1)
  .rw[show decide (r (p.getD m 0)<r (p.getD (m-1) 0))=true from decide_eq_true h];show g m b (by ext) u λ_=>h
  rw[show decide (r (p.getD m 0)<r (p.getD (m-1) 0))=false from bp h];show Ed d hn c k (m+1) (by ext) (by ext) (u.more b (by ext)) g
theorem B7(o:Cm n r cmp s)(hn:0<n)(hN:N<=n){G:Array Nat×Nat×Nat->Shared->Prop}(g:∀p m q,Pm n p->1<=m->m<=N->Dn r p m->q<m->(∀t,t<=q->kp r p (m-1-t)=kp r p (m-1))->G (p,m,q) s) :
  ∀k p m q,Pm n p->1<=m->m+k=N->Dn r p m->q<m->(∀t,t<=q->kp r p (m-1-t)=kp r p (m-1))->(kas_desc k p m q).kasWp cmp G s
 | 0,p,m,q,f,l,e,d,v,eq=>g p m q f l (by ext) d v eq
 | k+1,p,m,q,f,l,e,d,v,eq=>by
  have hsz:=f.size;show o _ _ _ (f.lt hn _) (f.lt hn _) ?_;by_cases h:kp r p m<kp r p (m-1)
  .rw[show decide (r (p.getD m 0)<r (p.getD (m-1) 0))=true from decide_eq_true h];simp only[br];by_cases c:q>0
   .rw[if_pos c];have u:=Ee (r:=r) (p:=p) (i:=m-(q+1)) (j:=m) (by ext) λx a b=>by
     have:=eq (m-1-x) (by ext);rwa [show m-1-(m-1-x)=x by ext] at this
    show B7 o hn hN g k _ (m+1) 0 f.rev (by ext) (by ext) (Up.more (d.same λx=>by rw[lL,lL,u]) l ?_) (by ext) λt ht=>by rw[show t=0 by ext];rfl
    rw[lL,lL,u,u];ext
   rw[if_neg c];show B7 o hn hN g k _ (m+1) 0 f (by ext) (by ext) (Up.more d l ?_) (by ext) λt ht=>by rw[show t=0 by ext];rfl
   rw[lL,lL];ext
  rw[show decide (r (p.getD m 0)<r (p.getD (m-1) 0))=false from bp h];simp only[ar,aU];show o _ _ _ (f.lt hn _) (f.lt hn _) ?_;by_cases w:kp r p (m-1)<kp r p m
  .rw[show decide (r (p.getD (m-1) 0)<r (p.getD m 0))=true from decide_eq_true w];show g p m q f l (by ext) d v eq
  rw[show decide (r (p.getD (m-1) 0)<r (p.getD m 0))=false from bp w];show B7 o hn hN g k _ (m+1) (q+1) f (by ext) (by ext) (Up.more d l ?_) (by ext) λt ht=>?_
  .rw[lL,lL];ext
  by_cases t0:t=0
  .subst t0;rfl
  have:=eq (t-1) (by ext);rw[show m+1-1-t=m-1-(t-1) by ext,this,show m+1-1=m by ext];ext
section
variable{G:Nat×Array Nat->Shared->Prop}(g:∀m p,Pm n p->1<=m->m<=N->Up r p m->G (m,p) s)
include g
theorem Ku(f:Cm n r cmp s)(hn:0<n)(hN:N<=n)(c:Pm n p)(h:1<=m)(hm:m<=N)(d:Dn r p m):(kas_tail3 m N p).kasWp cmp G s:=by
 unfold kas_tail3;rw[KasT.kasWp_bind];show Ed (N:=N) f hn c.rev (N-m) m h (by ext) (Up.turn d (by rw[c.size];ext)) λe a b u _=>g e _ c.rev a b u
theorem LX(f:Cm n r cmp s)(hn:0<n)(hN:N<=n)(e:Pm n p)(hm:m+1<=N)(d:Dn r p (m+1)):(kas_descPart m N p).kasWp cmp G s:=by
 unfold kas_descPart;rw[KasT.kasWp_bind];show B7 f hn hN (λp m q e h hm d l eq=>?_) (N-(m+1)) p (m+1) 0 e (by ext) (by ext) d (by ext) λt ht=>by rw[show t=0 by ext];rfl
 have hsz:=e.size;dsimp only;by_cases c:q>0
 .rw[if_pos c];have k:=Ee (r:=r) (p:=p) (i:=m-(q+1)) (j:=m) (by ext) λx a b=>by
   have:=eq (m-1-x) (by ext);rwa [show m-1-(m-1-x)=x by ext] at this
  show Ku g f hn hN e.rev h hm (d.same λx=>by rw[lL,lL,k])
 rw[if_neg c];show Ku g f hn hN e h hm d
theorem SM(k:Cm n r cmp s)(hn:0<n)(hN:N<=n)(v:1<=N)(d:Pm n p):(kas_count N p).kasWp cmp G s:=by
 unfold kas_count;rw[KasT.kasWp_bind];show Ed (N:=N) k hn d (N-1) 1 (au _) (by ext) (λi j a b=>by rw[show i=j by ext];show Int.le_refl _) λm a b u hd=>?_
 by_cases e:m=N
 .rw[if_pos (by simpa using e)];show g m p d a b u
 rw[if_neg (by simpa using e)];have t:=hd (by ext);have hsz:=d.size;by_cases c:m>1
 .rw[if_pos c];show k _ _ _ (d.lt hn _) (d.lt hn _) ?_;by_cases h:kp r p 0<kp r p (m-1)
  .rw[show decide (r (p.getD 0 0)<r (p.getD (m-1) 0))=true from decide_eq_true h];show g m p d a b u
  rw[show decide (r (p.getD 0 0)<r (p.getD (m-1) 0))=false from bp h];have same:∀x,0<=x->x<m->kp r p x=kp r p (m-1):=λx _ q=>by
   have:=u 0 x (bc _) q;have:=u x (m-1) (by ext) (by ext);ext
  have f:=Ee (r:=r) (p:=p) (i:=0) (j:=m) (by ext) same;show LX g k hn hN d.rev (by ext) (Up.more (λi j o l=>?_) a ?_)
  .rw[lL,lL,f,f,same i (bc _) (by ext),same j (bc _) l];show Int.le_refl _
  rw[lL,lL,f,f];ext
 rw[if_neg c];obtain rfl:m=1:=by ext
 show LX g k hn hN d (by ext) (Up.more (λi j o l=>by rw[show i=j by ext];show Int.le_refl _) (au _) ?_);rw[lL,lL];ext
end
theorem ER(m:Cm n r cmp s)(hn:0<n)(d:Pm n p)(u:Up r p k){G:Nat->Shared->Prop}(g:∀l,l<=k->(∀i,i<l->kp r p i<=kp r p k)->(∀i,l<=i->i<k->kp r p k<kp r p i)->G l s) :
  ∀f l h,l<=h->h<=k->h-l<=f->(∀i,i<l->kp r p i<=kp r p k)->(∀i,h<=i->i<k->kp r p k<kp r p i)->(kas_place p k f l h).kasWp cmp G s
 | 0,l,h,a,b,c,lo,j=>g l (by ext) lo λi x y=>j i (by ext) y
 | f+1,l,h,a,b,c,lo,j=>by
  unfold kas_place;by_cases e:l>=h
  .rw[if_pos e];show g l (by ext) lo λi x y=>j i (by ext) y
  rw[if_neg e];show m _ _ _ (d.lt hn _) (d.lt hn _) ?_;by_cases q:kp r p k<kp r p ((l+h)/2)
  .rw[show decide (r (p.getD k 0)<r (p.getD ((l+h)/2) 0))=true from decide_eq_true q];show ER m hn d u g f l _ (by ext) (by ext) (by ext) lo λi x y=>Int.lt_of_lt_of_le q (u _ i x y)
  rw[show decide (r (p.getD k 0)<r (p.getD ((l+h)/2) 0))=false from bp q];show ER m hn d u g f _ h (by ext) b (by ext) (λi x=>Int.le_trans (u i _ (by ext) (by ext)) (Int.not_lt.mp q)) j
theorem Jn(d:Cm n r cmp s)(hn:0<n){G:Array Nat->Shared->Prop}(g:∀p,Pm n p->Up r p n->G p s):∀f p k,Pm n p->k+f=n->Up r p k->(kas_bin f p k).kasWp cmp G s
 | 0,p,k,b,e,u=>g p b (by rwa [show n=k by ext])
 | f+1,p,k,b,e,u=>by
  unfold kas_bin;rw[KasT.kasWp_bind];show ER d hn b u (λl v lo t=>?_) k 0 k (bc _) (au _) (by ext) (λi h=>by ext) λi h h'=>by ext
  have hb:∀i,kp r (bubble p k (k-l)) i=if i=l then kp r p k else if l<i/\i<=k then kp r p (i-1) else kp r p i:=λi=>by
   have e:=getElem?_bubble (xs:=p) (src:=k) (by rw[b.size];ext) (k-l) (by ext) i;rw[show k-(k-l)=l by ext] at e;by_cases c:i=l
   .rw[if_pos c] at e ⊢;show yO e
   rw[if_neg c] at e ⊢;by_cases a:l<i/\i<=k
   .rw[if_pos a] at e ⊢;show yO e
   rw[if_neg a] at e ⊢;show yO e
  show Jn d hn g f _ (k+1) (b.to (bubble_perm _ _ _)) (by ext) λi j q w=>?_
  rw[hb,hb];by_cases c:i=l
  .rw[if_pos c];by_cases a:j=l
   .rw[if_pos a];show Int.le_refl _
   rw[if_neg a,if_pos (by ext)];show Int.le_of_lt (t _ (by ext) (by ext))
  rw[if_neg c];by_cases o:l<i/\i<=k
  .rw[if_pos o,if_neg (by ext),if_pos (by ext)];show u _ _ (by ext) (by ext)
  rw[if_neg o];by_cases a:j=l
  .rw[if_pos a];show lo i (by ext)
  rw[if_neg a];by_cases m:l<j/\j<=k
  .rw[if_pos m];show u _ _ (by ext) (by ext)
  rw[if_neg m];show u _ _ q (by ext)
theorem Rk(d:Cm n r cmp s)(hn:0<n){G:Array Nat->Shared->Prop}(g:∀p,Pm n p->Up r p n->G p s):(kas_sort n).kasWp cmp G s:=by
 unfold kas_sort;rw[KasT.kasWp_bind];show SM (λm p c a b u=>?_) d hn (au n) hn (show Pm n _ by unfold Pm;simp);dsimp only;by_cases e:m<n
 .rw[if_pos e,show max m 1=m by ext];show Jn d hn g _ p m c (by ext) u
 rw[if_neg e];show g p c (by rwa [show n=m by ext])
end
section
variable{prog:Program}{w:World}{A:Around}{E:Value->Shared->Prop}{s:Shared}
structure Ky(prog:Program)(w:World)(A:Around)(s:Shared)(κ:SortKind)(ok:Keyed->Prop)(rk:Keyed->Int):Prop where
 key:∀x y (C:Bool->Shared->Prop),ok x->ok y->C (decide (rk x<rk y)) s->wpAny (model prog w) A (keyLt' κ x.1 y.1) C (λ_ _=>False) s
def gY(n:Nat):Prop:=∀{prog:Program}{w:World}{A:Around}{E:Value->Shared->Prop}{s:Shared}{κ:SortKind}{rk:Keyed->Int}{it:Array Keyed}(R:Ky prog w A s κ (λx=>x∈it) rk){Q:Unit->SortSt->Prop},it.size=n->
 (∀a,(arrOf a).toList.Perm it.toList->rR rk (arrOf a).toList->failedOf a=none->Q () a)->wpS (model prog w) A E s sortRuns' Q (SortSt.mk' κ it #[] 7 none)
structure Ask(prog:Program)(w:World)(A:Around)(E:Value->Shared->Prop)(vs:List Value)(rk:Keyed->Int)(s:Shared):Prop where
 ask:2<=vs.length->∃κ,(∀Q':SortKind->Shared->Prop,Q' κ s->wpAny (model prog w) A (keyKind' vs.toArray) Q' E s)/\Ky prog w A s κ (λx=>x∈pairsOf vs) rk
theorem Ub{rk:Keyed->Int}{l:List Keyed}(h:l.length<2):rR rk l:=by
 cases l with
 | nil=>show .nil
 | cons a r=>
  cases r with
  | nil=>show List.pairwise_singleton _ _
  | cons b t=>
   simp only[aG] at h;ext
theorem jI{a:Addr}{c:List Value}{n:Nat}{P:Fin->Shared->Prop}{rk:Keyed->Int}(f:s.heap.get? a=some (seqObj "list" c.toArray n))(g:c.length<=sizeLine)(r:2<=c.length->gY c.length)
  (R:∀h',(∀b o,b≠a->s.heap.get? b=some o->h'.get? b=some o)->Ask prog w A E c rk { s with heap:=h' })
  (h:∀d:SortSt,(arrOf d).toList.Perm (pairsOf c).toList->rR rk (arrOf d).toList->P (.done (.ret .none)) { s with heap:=sortedHeap s.heap a c ((arrOf d).map (·.2)) }) :
  wpAny (model prog w) A (Builtin.«list.sort» ⟨[.ref a],[]⟩) P E s:=by
 rw[list_sort_plain];have ha:a<s.heap.objs.size:=aq f;show aa (listItems_at f rfl ?_);show aa (listUpdate_at f rfl ?_ (by simpa using g) (bc _));obtain⟨k,m⟩:∃k,(s.heap.update a (Obj.mapSeq λ_=>#[])).get? a=some (seqObj "list" #[] k):=⟨_,get?_update_seq f (λ_=>#[])⟩
 show aa (seqEpoch_at m rfl ?_);show aa (wpAny_newTuple ?_ (by show c.length<=_;show g));show aa (wpAny_newList ?_ (bc _));show bz ?_;have j:(((s.heap.update a (Obj.mapSeq λ_=>#[])).push (seqObj "tuple" c.toArray 0)).push (seqObj "list" #[] 0)).get? a=some (seqObj "list" #[] k):=by
  rw[Heap.get?_push_ne _ _ _ (by rw[size_push',Heap.size_update];show aE (Nat.lt_succ_of_lt ha)),Heap.get?_push_ne _ _ _ (by rw[Heap.size_update];show aE ha)];show m
 have t:=R (((s.heap.update a (Obj.mapSeq λ_=>#[])).push (seqObj "tuple" c.toArray 0)).push (seqObj "list" #[] 0)) (λb o hb e=>ae _ (ae _ ((aP _ _ (Ne.symm hb)).trans e)));show wpAny (model prog w) A _ P E { s with heap:=((s.heap.update a (Obj.mapSeq λ_=>#[])).push (seqObj "tuple" c.toArray 0)).push (seqObj "list" #[] 0) };dsimp only;have hsz:c.toArray.size=c.length:=by simp
 have fin:=h;by_cases i:c.toArray.size<2
 .rw[if_pos i,if_pos i];show aa (ai ?_);rw[StateT.run_pure];show aa (ai ?_);dsimp only;show aa (seqEpoch_at j rfl ?_);show aa (listUpdate_at j rfl ?_ (bc _) (by rw[Array.size_map];show(pairsOf c).size<=_;rw[pairsOf_size];show Nat.le_succ_of_le g));simp only[bne_self_eq_false,ar,aU];show ai (fin (SortSt.mk' general' (c.toArray.zip c.toArray) #[] 7 none) (List.Perm.refl _) ?_);show rR rk (pairsOf c).toList;show Ub (by rw[bw,pairsOf_size];ext)
 rw[if_neg i,if_neg i];obtain⟨κ,p,kr⟩:=t.ask (by ext);show aa (p _ ?_)
 show aa (bE (r (by ext) kr
  (Q:=λ_ d=>(arrOf d).toList.Perm (pairsOf c).toList/\rR rk (arrOf d).toList/\failedOf d=none) (pairsOf_size c) λd a1 a2 u=>⟨a1,a2,u⟩) ?_ λ_ _ e=>e)
 rintro⟨⟨⟩,d⟩ v ⟨rfl,l,q,hf⟩;dsimp only;show aa (seqEpoch_at j rfl ?_)
 show aa (listUpdate_at j rfl ?_ (bc _) (by
  rw[Array.size_map,<-bw,l.length_eq,bw,pairsOf_size];show Nat.le_succ_of_le g))
 rw[hf];simp only[bne_self_eq_false,ar,aU];show ai (fin d l q)
theorem qm{l:Addr}{a:List Value}{Q:Value->Shared->Prop}{rk:Keyed->Int}(i:s.heap.IsList l a.toArray)(hz:a.length<=sizeLine)(g:2<=a.length->gY a.length)
  (R:∀h',(∀b o,s.heap.get? b=some o->h'.get? b=some o)->Ask prog w A.in1.in1 E a rk { s with heap:=h' })
  (h:∀c:SortSt,(arrOf c).toList.Perm (pairsOf a).toList->rR rk (arrOf c).toList->Q (.ref (s.heap.objs.size+1)) { s with heap:=sortedAll s.heap a ((arrOf c).map (·.2)) }) :
  wpAny (model prog w) A (call (.builtin "sorted") [.ref l]) Q E s:=by
 show Calls.call_function_entry kind_sorted plain_sorted entry_sorted (args_sorted1 _) ?_;unfold Builtin.«sorted»;show aa (m:=checkCount "sorted" 1 1 _) (ai ?_);show aa (collect_list i ?_ hz);show aa (wpAny_newList ?_ hz);have hsz:((s.heap.push (seqObj "list" #[] 0)).update s.heap.objs.size (Obj.mapSeq (·++a.toArray))).objs.size=s.heap.objs.size+1:=by
  rw[Heap.size_update,size_push']
 have f:(((s.heap.push (seqObj "list" #[] 0)).update s.heap.objs.size (Obj.mapSeq (·++a.toArray))).push (seqObj "list" a.toArray 0)).get? (s.heap.objs.size+1)=some (seqObj "list" a.toArray 0):=by
  rw[<-hsz];show az _ rfl
 have keep:∀b o,s.heap.get? b=some o->(((s.heap.push (seqObj "list" #[] 0)).update s.heap.objs.size (Obj.mapSeq (·++a.toArray))).push (seqObj "list" a.toArray 0)).get? b=some o:=λb o q=>by
  have d:b<s.heap.objs.size:=aq q;rw[Heap.get?_push_ne _ _ _ (by rw[hsz];show aE (Nat.lt_succ_of_lt d)),Heap.get?_update_ne _ _ _ _ (aE d),Heap.get?_push_ne _ _ _ (aE d)];show q
 show wpAny _ _ _ _ _ { s with heap:=((s.heap.push (seqObj "list" #[] 0)).update s.heap.objs.size (Obj.mapSeq (·++a.toArray))).push (seqObj "list" a.toArray 0) };rw[hsz];show aa (bz (wpAny_call_entry slot_list_sort ⟨_,f,rfl⟩ entry_list_sort (jI (rk:=rk) f hz g (λh' k=>R h' λb o e=>k b o (aE (Nat.lt_succ_of_lt (aq e))) (keep b o e)) λc a1 a2=>⟨_,rfl,?_⟩) (args_list_sort _)));show ai ⟨_,rfl,h c a1 a2⟩
end
end Ts
namespace HT
theorem lX:∀a b:List Int,lexLt a b=cf b a
 | [],[]=>rfl
 | [],_::_=>rfl
 | _::_,[]=>rfl
 | x::xs,y::ys=>by
  unfold lexLt cf;rw[lX xs ys];by_cases e:x=y
  .subst e;simp
  have c:¬y=x:=λz=>e z.symm
  simp[e,c]
end HT
namespace Ts
open PySem PySem.W PyProof.Rows
section
variable{prog:Program}{w:World}{A:Around}{E:Value->Shared->Prop}{s:Shared}{fin:Bool}{Q:Bool->Shared->Prop}
theorem SK{g ws:List Value}{d c:List Int}(h:IntsAre g d)(hw:IntsAre ws c)(i:Nat)(f:fin=decide (d.length<c.length))(q:Q (HT.lexLt d c) s):KatLex prog w A true fin Q (g.zip ws) i s:=by
 induction h generalizing ws c i with
 | nil=>
  subst f;cases hw with
  | nil=>show kat_nil q
  | cons b u hw=>show kat_nil (by simpa[HT.lexLt] using q)
 | cons a t h j=>
  cases hw with
  | nil=>subst f;show kat_nil (by simpa[HT.lexLt] using q)
  | cons b u hw=>
   rw[List.zip_cons_cons];show kat_cons (wpAny_eqBool_int ?_);rw[HT.m3] at q;by_cases e:a=b
   .rw[if_pos e] at q;subst e;simp only[BEq.rfl,decide_true];show kat_yes (j hw (i+1) (by rw[f];simp) q)
   rw[if_neg e] at q;simp only[beq_eq_false_iff_ne.mpr e,bp e];show kat_no ?_;cases i with
   | zero=>show oneLt_int q
   | succ i=>show kat_one _ _ (HT.qt A s a t b u prog w _ _ q)
noncomputable def ft(h:Heap)(v:Value):List Int:=match v with
 | .ref a=>match h.get? a with
  | some o=>match o.data with
   | .seq xs _=>numsOf xs.toList
   | _=>[]
  | none=>[]
 | _=>[]
def TupAt(h:Heap)(v:Value):Prop:=∃a o xs n,v=.ref a/\h.get? a=some o/\o.cls=.type "tuple"/\o.data=.seq xs n/\IntsAre xs.toList (ft h v)/\ft h v≠[]
noncomputable def sM(h:Heap)(a:List (List Int))(x:Keyed):Int:=(a.countP λt=>HT.cf (ft h x.1) t:Nat)
theorem qr{d:List (List Int)}{a b:List Int}(ha:a∈d):(d.countP λt=>HT.cf a t)<(d.countP λt=>HT.cf b t)↔HT.cf b a=true:=by
 constructor
 .intro h;cases hb:HT.cf b a with
  | true=>rfl
  | false=>
   have:(d.countP λt=>HT.cf b t)<=(d.countP λt=>HT.cf a t):=by
    show List.countP_mono_left λt _ ht=>?_
    cases e:HT.cf a t with
    | true=>rfl
    | false=>
     have:=HT.i5 b a t hb e;rw[this] at ht;cases ht
   ext
 intro h;have sub:∀t,HT.cf a t=true->HT.cf b t=true:=λt ht=>by
  cases e:HT.cf b t with
  | true=>rfl
  | false=>
   have:=HT.i5 b t a e (HT.i6 a t ht);rw[this] at h;cases h
 induction d with
 | nil=>cases ha
 | cons c r f=>
  rw[List.countP_cons,List.countP_cons];rcases aj.mp ha with rfl | ha
  .have le:(r.countP λt=>HT.cf a t)<=(r.countP λt=>HT.cf b t):=List.countP_mono_left λt _ ht=>sub t ht
   rw[HT.g7,h];simp only[ar,aU,br];ext
  have:=f ha;cases e:HT.cf a c with
  | true=>rw[sub c e];simp only[br];ext
  | false=>simp only[ar,aU];split<;>ext
theorem Lu{h h':Heap}(k:∀b o,h.get? b=some o->h'.get? b=some o):∀{its:List Value},(∀v∈its,TupAt h v)->∃fs,KatTups h' its fs/\fs.length=its.length/\∀v∈fs,∃n t,v=Value.int n t
 | [],_=>⟨[],.nil,rfl,λv d=>by cases d⟩
 | v::r,d=>by
  obtain⟨fs,q,p,j⟩:=Lu k (its:=r) λx c=>d x (ax _ c)
  obtain⟨a,o,xs,n,rfl,g,i,hd,e,f⟩:=d v aT;generalize ft h (.ref a)=t at e f;generalize c:xs.toList=l at e;cases e with
  | nil=>show absurd rfl f
  | cons m u s=>
   have h0:xs[0]?=some (.int m u):=by rw[<-Array.getElem?_toList,c];rfl
   show⟨.int m u::fs,KatTups.cons (k _ _ g) i hd h0 q,by simp[p],λx c=>by
    rcases aj.mp c with rfl | c
    .exact⟨_,_,rfl⟩
    .exact j x c⟩
theorem l7{h h':Heap}{its:List Value}(k:∀b o,h.get? b=some o->h'.get? b=some o)(c:∀v∈its,TupAt h v):Ask prog w A E its (sM h (its.map (ft h))) { s with heap:=h' }:=by
 show⟨λG=>⟨tuples' (Value.type "int" != Value.type "tuple"),λI q=>?_,⟨λx y Q p l q=>?_⟩⟩⟩
 .obtain⟨fs,B,J,u⟩:=Lu k c;show kat_kind (s:={ s with heap:=h' }) (T:=.type "int") B (by ext) (λv c=>?_) (by decide +kernel) q;obtain⟨n,t,rfl⟩:=u v c;show Looks.of_pure rfl
 have mem:∀z,z∈pairsOf its->TupAt h z.1/\z.1∈its:=λz hz=>by
  have:z.1∈its:=by
   unfold pairsOf at hz;have j:z∈its.zip its:=by simpa using hz
   show(List.of_mem_zip j).1
  show⟨c _ this,this⟩
 obtain⟨⟨a,F,xs,n,i,ga,ca,D,f,_⟩,r⟩:=mem x p;obtain⟨⟨b,ob,ys,m,g,gb,H,db,d,_⟩,mb⟩:=mem y l;have e:decide (sM h (its.map (ft h)) x<sM h (its.map (ft h)) y)=HT.lexLt (ft h x.1) (ft h y.1):=by
  rw[HT.lX,Bool.eq_iff_iff,a9];unfold sM;rw[Int.ofNat_lt];show qr (aX r)
 rw[e] at q;rw[i,g];rw[i,g] at q;rw[i] at f;rw[g] at d;have C:(Value.type "int" != Value.type "tuple")=true:=by decide +kernel
 rw[C];show kat_lt (k _ _ ga) D (k _ _ gb) db (SK f d 0 ?_ q);rw[<-f.length,<-d.length];simp
end
theorem nK{n:Nat}(l:2<=n)(m:n<64):gY n:=by
 intro prog w A E s κ rk it R Q hn q;have mem:∀i,i<n->kas_item it i∈it:=λi a=>by
  have e:kas_item it i=it[i]:=by unfold kas_item;simp[Array.getD,hn,a]
  rw[e];show Array.getElem_mem _
 have hit:(List.toArray (List.range n)).map (kas_item it)=it:=by rw[<-hn];show kas_range it
 have h:(List.range n).map (kas_item it)=it.toList:=by
  have:=congrArg Array.toList hit;simpa using this
 have:=kas_runs (prog:=prog) (w:=w) (A:=A) (E:=E) (κ:=κ) (it:=it) (Q:=λu st b=>b=s/\Q u st) (G:=λp b=>b=s/\Pm n p/\Up (λi=>rk (kas_item it i)) p n) (s:=s) l m (λp st b hz ha hf ⟨e,d,c⟩=>⟨e,?_⟩)
  (Rk (r:=λi=>rk (kas_item it i)) (λi j C a f k=>R.key _ _ C (mem i a) (mem j f) k) (by ext) λp d c=>⟨rfl,d,c⟩)
 .unfold kas_st at this;rw[hit] at this;show this
 show q st ?_ ?_ hf
 .rw[ha,Array.toList_map,<-h];show d.map _
 rw[ha,Array.toList_map];show bT.mpr λi j a f t=>?_
 have g:i<p.size:=by simpa using a
 have o:j<p.size:=by simpa using f
 have:=c i j (by ext) (by ext);unfold kp at this;simp only[Array.getD,g,o,dif_pos] at this;simpa using this
end Ts
namespace L2
open PySem PySem.Spec PyProof.Rows
theorem Cr{d g:Type}{f:d->g}{a b:List g}(h:a.Perm b):∀{L:List d},b=L.map f->∃c:List d,c.Perm L/\a=c.map f:=by
 induction h with
 | nil=>intro L e;show⟨[],by rw[show L=[] from by simpa using e.symm],rfl⟩
 | cons x h k=>
  intro L e;cases L with
  | nil=>cases e
  | cons y L=>
   rw[av] at e;injection e with n m
   obtain⟨c,j,i⟩:=k m;show⟨y::c,j.cons y,by rw[av,n,i]⟩
 | swap x y l=>
  intro L e;match L,e with
  | [],e=>cases e
  | [_],e=>cases e
  | u::v::L,e=>
   simp only[av,List.cons.injEq] at e;show⟨v::u::L,List.Perm.swap u v L,by simp[e]⟩
 | trans j i q r=>
  intro L e;obtain⟨L2,a1,a2⟩:=r e;obtain⟨s,p,o⟩:=q a2;show⟨s,p.trans a1,o⟩
section
variable{X:Cx}{pos:Pos}{e:Expr}{te:TD}
theorem ED{a:Type}{f:a->V}{g:a->Value}:∀{L:List a},(∀q∈L,RelV (f q) (g q))->Vals (L.map f) (L.map g)
 | [],_=>.nil
 | q::L,h=>.cons (h q aT) (ED λx b=>h x (ax _ b))
theorem Uz:cW X (.builtin "sorted") (λxs H Q=>∃(p:Addr)(ps:List (V×List Int)),xs=[.ref p]/\eh X.K H p (ps.map (·.1))/\(∀q∈ps,q.2≠[]/\∃b,q.1=.ref b/\dF X.K H b (q.2.map V.int))/\(2<=ps.length->Ts.gY ps.length)/\
  ∀w:List (V×List Int),w.Perm ps->w.Pairwise (λx y=>HT.cf x.2 y.2=false)->∀l,H l=none->Q (.ref l) (upd H l (.lst (w.map (·.1))))):=by
 intro K' s σ H xs us Q I r h;obtain⟨p,ps,rfl,hq,hk,hr,q⟩:=h;obtain⟨u,rfl,Z⟩:=lP r;cases Z;obtain⟨its,D,pl,hz⟩:=I.list hq;have A:ps.length=its.length:=by rw[<-D.length,af]
 obtain⟨d,n,g⟩:∃d:List ((V×List Int)×Value),ps=d.map (·.1)/\its=d.map (·.2):=
  ⟨ps.zip its,(List.map_fst_zip (by ext)).symm,(List.map_snd_zip (by ext)).symm⟩
 have rel:∀z∈d,RelV z.1.1 z.2:=λz hz=>by
  obtain⟨i,O⟩:=List.getElem?_of_mem hz;have c:(ps.map (·.1))[i]?=some z.1.1:=by rw[n];simp[O]
  obtain⟨v',E,Y⟩:=D.get c;have m:its[i]?=some z.2:=by rw[g];simp[O]
  rw[m] at E;cases E;show Y
 have tup:∀z∈d,Ts.TupAt s.heap z.2/\Ts.ft s.heap z.2=z.1.2:=λz hz=>by
  obtain⟨S,b,P,sq⟩:=hk z.1 (by rw[n];show aX hz);have C:=rel z hz;obtain⟨i1,v1,p1,_⟩:=I.tuple sq;obtain⟨o1,g1,c1,n1,R⟩:=p1;obtain⟨⟨zv,T⟩,zw⟩:=z;simp only at P C v1 S ⊢;subst P;cases C;have L:=vw v1;have e:Ts.ft s.heap (.ref b)=T:=by
   unfold Ts.ft;simp only[g1,R];show L.numsOf
  show⟨⟨b,o1,_,n1,rfl,g1,c1,R,by rw[e];show L,by rw[e];show S⟩,e⟩
 show Ts.qm (rk:=Ts.sM s.heap (its.map (Ts.ft s.heap))) pl.isList (by rw[<-A,<-af (f:=(·.1))];show hz) (by rw[<-A];show hr) (λh' k=>Ts.l7 k λv M=>?_) λB N j=>?_
 .rw[g] at M;obtain⟨z,hz,rfl⟩:=aB.mp M;show(tup z hz).1
 have ep:(PyProof.Rows.pairsOf its).toList=d.map λz=>((z.2,z.2):Keyed):=by
  unfold PyProof.Rows.pairsOf;rw[g];simp only[List.zip_toArray];clear n g rel tup N j;induction d with
  | nil=>rfl
  | cons a r J=>simp at J ⊢;show J
 obtain⟨t,c,m⟩:=Cr (N.trans (List.Perm.of_eq ep)) rfl;have Gi:∀z∈t,RelV z.1.1 z.2:=λz hz=>rel z (c.subset hz)
 have out:((arrOf B).map (·.2)).toList=t.map (·.2):=by
  rw[Array.toList_map,m,aF];rfl
 obtain⟨en,he⟩:=sortedAll_at s.heap its ((arrOf B).map (·.2));have hf:H (s.heap.objs.size+1)=none:=I.cH.fresh (Nat.le_succ _)
 have F:=q (t.map (·.1)) (by rw[n];show c.map _) (by
  rw[bL];unfold Ts.rR at j;rw[m,bL] at j;show j.imp_of_mem λ{a b} ha hb G=>?_
  have W:=(tup a (c.subset ha)).2;have U:=(tup b (c.subset hb)).2;have mb:Ts.ft s.heap b.2∈its.map (Ts.ft s.heap):=aX (by rw[g];show aX (c.subset hb));unfold Ts.sM at G;cases hg:HT.cf a.1.2 b.1.2 with
  | false=>rfl
  | true=>
   rw[<-W,<-U] at hg;have:=(Ts.qr mb).mpr hg;simp only at G;ext) _ hf
 rw[aF] at F;show⟨.ref (s.heap.objs.size+1),_,I.laid (a:=s.heap.objs.size+1) (o:=.lst (t.map ((·.1)∘(·.1)))) (t':=s.toks) (λb o e=>sortedAll_old e) (Nat.le_succ _) ?_,rfl,F⟩
 show⟨by
  rw[af,c.length_eq];have:d.length=its.length:=by rw[g,af]
  rw[this,<-A,<-af (f:=(·.1))];show hz,((arrOf B).map (·.2)).toList,en,?_,?_⟩
 .rw[out];show ED Gi
 rw[Array.toArray_toList];show he
def ZZ:eJ:=λds Q=>match ds with
 | [.lst c]=>match kZ c with
  | some b=>(∀t∈b,t≠[])/\∀a:List (List Int),a.Perm b->a.Pairwise (λx y=>HT.cf x y=false)->Q (.ow (a.map λt=>.tup (t.map D.int)))
  | none=>False
 | _=>False
theorem EC{a:Type}{K:J'}{G:Hp}{f:a->V}{g:a->D}:∀{L:List a},(∀q∈L,Rep K G (f q) (g q))->bY K G (L.map f) (L.map g)
 | [],_=>bY.nil
 | q::L,h=>bY.cons (h q aT) (EC λx b=>h x (ax _ b))
def Cq:eJ:=λds Q=>match ds with
 | [.lst c]=>match kZ c with
  | some b=>b.length<64/\(∀t∈b,t≠[])/\∀a:List (List Int),a.Perm b->a.Pairwise (λx y=>HT.cf x y=false)->Q (.ow (a.map λt=>.tup (t.map D.int)))
  | none=>False
 | _=>False
theorem SJ{G H:Hp}{j:List V}{u:List D}{c:List (List Int)}{Q:R->Prop}{P:VK}(s:cq G H)(B:bY X.K G j [.lst u])(ht:kZ u=some c)(hn:∀t∈c,t≠[])(E:2<=c.length->Ts.gY c.length)
  (q:∀g:List (List Int),g.Perm c->g.Pairwise (λx y=>HT.cf x y=false)->Q (.ow (g.map λt=>.tup (t.map D.int)))) (k:∀v H' n A,Ext G H A H'->dm X.K A H' H v n->Q n->P v H') :
  ∃(p:Addr)(ps:List (V×List Int)),j=[.ref p]/\eh X.K H p (ps.map (·.1))/\(∀q∈ps,q.2≠[]/\∃b,q.1=.ref b/\dF X.K H b (q.2.map V.int))/\(2<=ps.length->Ts.gY ps.length)/\
   ∀d:List (V×List Int),d.Perm ps->d.Pairwise (λx y=>HT.cf x.2 y.2=false)->∀l,H l=none->P (.ref l) (upd H l (.lst (d.map (·.1)))):=by
 obtain⟨v,rfl,m⟩:=mD B;simp only[Rep] at m;obtain⟨a,xs,rfl,J,I⟩:=m;obtain⟨M,F⟩:=ES ht I;have w:(xs.zip c).map (·.1)=xs:=List.map_fst_zip (by ext);have h:(xs.zip c).map (·.2)=c:=List.map_snd_zip (by ext);have L:(xs.zip c).length=c.length:=by rw[List.length_zip];ext
 have hz:∀q∈xs.zip c,Rep X.K G q.1 (.tup (q.2.map D.int))/\∃b,q.1=.ref b/\dF X.K G b (q.2.map V.int):=λq f=>by
  obtain⟨i,r⟩:=List.getElem?_of_mem f;have a1:xs[i]?=some q.1:=by rw[<-w];simp only[ao,r];rfl
  have a2:c[i]?=some q.2:=by rw[<-h];simp only[ao,r];rfl
  show F i _ _ a1 a2
 show⟨a,xs.zip c,rfl,by rw[w];show(s.fW J).sq,λz f=>⟨hn _ (by rw[<-h];show aX f),?_⟩,by rw[L];show E,λd o C=>?_⟩
 .obtain⟨_,b,e,sq⟩:=hz z f;show⟨b,e,s.iP sq⟩
 show yN s (ds:=(d.map (·.2)).map λt=>.tup (t.map D.int)) ?_ (q (d.map (·.2)) (by rw[<-h];show o.map _) (by rw[bL];show C)) k;rw[aF];show EC λq f=>(hz q (o.subset f)).1
theorem Uy(_:X.calm=true):nG X (.builtin "sorted") Cq:=by
 show⟨_,Uz,λG H a ds Q P s rs h k=>?_⟩;unfold Cq at h;split at h
 .split at h
  .rename_i c d ht;show SJ s rs ht h.2.1 (λb=>Ts.nK (by ext) h.1) h.2.2 k
  show h.elim
 show h.elim
end
section
variable{K:J'}{G H:Hp}
theorem cA.length:∀{a:List Addr}{dss:List (List (Key×D))},cA K G H a dss->a.length=dss.length
 | [],[],_=>rfl
 | q::a,ds::dss,h=>by
  simp only[cA] at h;simp only[aG,cA.length h.2]
 | [],_::_,h=>by simp only[cA] at h
 | _::_,[],h=>by simp only[cA] at h
theorem cA.snoc{p:Addr}{ds:List (Key×D)}{zs:List (Key×V)}{ep:Nat}:∀{a:List Addr}{dss:List (List (Key×D))},cA K G H a dss->H p=some (.dK zs ep)->cp K G zs ds->cA K G H (a++[p]) (dss++[ds])
 | [],[],_,c,b=>by simp only[List.nil_append,cA];show⟨⟨zs,ep,c,b⟩,trivial⟩
 | q::a,d::dss,h,c,b=>by
  simp only[cA] at h;simp only[List.cons_append,cA];show⟨h.1,cA.snoc h.2 c b⟩
 | [],_::_,h,_,_=>by simp only[cA] at h
 | _::_,[],h,_,_=>by simp only[cA] at h
theorem cA.get:∀{a:List Addr}{dss:List (List (Key×D))}{j:Nat}{ds:List (Key×D)},cA K G H a dss->dss[j]?=some ds->∃q ks ep,a[j]?=some q/\H q=some (.dK ks ep)/\cp K G ks ds
 | [],[],j,ds,_,e=>by simp at e
 | q::a,d::dss,0,ds,h,e=>by
  simp only[cA] at h;simp only[aV,aA] at e;subst e;obtain⟨⟨ks,ep,c,b⟩,_⟩:=h;show⟨q,ks,ep,rfl,c,b⟩
 | q::a,d::dss,j+1,ds,h,e=>by
  simp only[cA] at h;simp only[aW] at e ⊢;show cA.get h.2 e
 | [],_::_,_,_,h,_=>by simp only[cA] at h
 | _::_,[],_,_,h,_=>by simp only[cA] at h
theorem cA.set{q:Addr}{ys:List (Key×V)}{ep:Nat}{c:List (Key×D)}(b:cp K G ys c):∀{a:List Addr}{dss:List (List (Key×D))}{j:Nat},cA K G H a dss->a.Nodup->a[j]?=some q->cA K G (upd H q (.dK ys ep)) a (dss.set j c)
 | [],[],j,_,_,e=>by simp at e
 | r::a,ds::dss,0,h,nd,e=>by
  simp only[cA] at h;simp only[aV,aA] at e;subst e;simp only[List.set_cons_zero,cA];show⟨⟨ys,ep,eT,b⟩,h.2.mono (cq.refl _) λp d u e=>?_⟩;rw[cL (λz:p=r=>(aH.mp nd).1 (z▸d))];show e
 | r::a,ds::dss,j+1,h,nd,e=>by
  simp only[cA] at h;simp only[aW] at e;simp only[List.set_cons_succ,cA];show⟨?_,cA.set b h.2 (aH.mp nd).2 e⟩;obtain⟨⟨ks,ep,g,f⟩,_⟩:=h;show⟨ks,ep,?_,f⟩;rw[cL (λz:r=q=>(aH.mp nd).1 (z▸aw e))];show g
 | [],_::_,_,h,_,_=>by simp only[cA] at h
 | _::_,[],_,h,_,_=>by simp only[cA] at h
end
def yC(e:jQ)(m:List (Option Nat))(g:iA)(tc:gX)(te:TD):TD:=λa Q=>e a λds=>∃Iv:Nat->List (List (Key×D))->Prop,Iv 0 []/\
 (∀i d acc,ds[i]?=some d->Iv i acc->g d (c9 m a) λc=>tc c λb=>if b=true then te c λr=>match r with
  | .ov (.dc f)=>acc.length<sizeLine/\Iv (i+1) (acc++[f])
  | _=>False
  else Iv (i+1) acc)/\∀acc,Iv ds.length acc->Q (.ov (.ld acc))
section
variable{X:Cx}{elt iter tg:Expr}{ifs:List Expr}{scope:Scope}{pos:Pos}{N':List Str}{m:List (Option Nat)}{wi:jQ}{g:iA}{tc:gX}{te:TD}
theorem SH(cs:cD X N' m scope)(hk:nI m g){ww:TI}{gg:mO TG}{pf:mO TT}{N:mO TE}
  (q1:∀(r:Ev)(σ:St)(x w G H:Hp)(Q:List D->Prop)(P:It->Hp->Prop),cP X.K x w r σ G H->wi r Q->(∀J H' ds l,Ext G H l H'->oX X.K J l ds->Q ds->P J H')->ww σ H P)
  (q2:∀s3 y ex (r:Ev) (σ:St) (x w G H:Hp) (d:D) (v:V) (Q:Ev->Prop) (P:St->Hp->Prop),cP X.K x w r σ G H->Rep X.K G v d->g d r Q->(∀ρ' I l H',cP X.K x w ρ' I l H'->Ext G H l H'->Q ρ'->P I H')->gg s3 y ex v σ H P)
  (q3:∀s3 y ex (r:Ev) (σ:St) (x w G H:Hp) (Q:Bool->Prop) (P:Bool->Hp->Prop),cP X.K x w r σ G H->tc r Q->(∀b H' l,Ext G H l H'->Q b->P b H')->pf s3 y ex σ H P)
  (q4:∀s3 y ex,nY X.K te (N s3 y ex)):nY X.K (yC wi m g tc te) (uZ ww m gg pf N):=by
 show λr σ x w G H Q P E h k=>q1 r σ x w G H _ _ E h λJ H1 ds u C wk f=>?_
 obtain⟨Iv,i0,turn,fin⟩:=f;intro D Y s3 ex;have E1:=E.ext C;have wj:u D=none:=C.s.free Y;have F:∀{i:Nat}{t:List L2.D},gt (c9 m r) i=.ow t->False:=λ{i t} h=>by
  unfold c9 at h;rw[k8] at h;split at h
  .rename_i o _;unfold mx at h;split at h
   .cases h
   split at h<;>cases h
  cases h
 have j6:∀{i:Nat}{o:OV},gt (c9 m r) i=.ov o->False:=λ{i o} h=>by
  unfold c9 at h;rw[k8] at h;split at h
  .rename_i o _;unfold mx at h;split at h
   .cases h
   split at h<;>cases h
  cases h
 have k7:cP X.K u H1 (c9 m r) (lY m σ) u (upd H1 D (.lst [])):=by
  show⟨.own C.s Y,by simp[lY,c9],λi d h=>?_,λi t h=>(F h).elim,λi j t fs _ h=>(F h).elim,λ_=>none,λi t _ h=>(F h).elim,λi o h=>(j6 h).elim⟩;unfold c9 at h;rw[k8] at h;split at h
  .rename_i o ho;unfold mx at h;split at h
   .cases h
   rename_i j;split at h
   .rename_i d' qR;cases h;obtain⟨v,hv,rv⟩:=E1.fz j d qR;show⟨v,?_,rv⟩;unfold lY;rw[ao,ho];simp[hv]
   cases h
  cases h
 show⟨λi n I H'=>n=ds.length-i/\i<=ds.length/\∃acc fp l,cP X.K u H1 (c9 m r) I l H'/\H' D=some (.lst (fp.map V.ref))/\l D=none/\cA X.K l H' fp acc/\(D::fp).Nodup/\(∀q∈fp,H1 q=none/\l q=none)/\Iv i acc,
  ⟨ds.length,by simp,bc _,[],[],u,k7,eT,wj,by simp only[cA],by simp,λq f=>(by cases f),i0⟩,?_⟩
 rintro i n I H' ⟨rfl,hi,acc,fp,l,M,hx,qQ,rx,nd,fr,iv⟩;by_cases eE:i<ds.length
 .obtain⟨w1,w2⟩:=wk;obtain⟨go,yl⟩:=w1 i ds[i] l H' (ag eE) M.e.g M.e.s;show .inr ⟨go,λjw A=>∃acc fp l,cP X.K u H1 (c9 m r) jw l A/\A D=some (.lst (fp.map V.ref))/\l D=none/\cA X.K l A fp acc/\(D::fp).Nodup/\(∀q∈fp,H1 q=none/\l q=none)/\Iv (i+1) acc,λjw A h2=>⟨ds.length-(i+1),by ext,rfl,eE,h2⟩,λv A hy=>?_⟩;obtain⟨G2,x2,rv⟩:=yl v A hy;show q2 _ _ _ (c9 m r) I u H1 G2 A ds[i] v _ _ (M.ext x2) rv (hk _ _ _ (turn i ds[i] acc (ag eE) iv)) λnZ kj G3 y E3 x3 cS=>?_
  obtain⟨cS,Ax,AD⟩:=cS;have weak:∀j,gt (c9 m r) j=.un\/gt (c9 m r) j=gt nZ j:=λj=>by
   cases hm:m[j]? with
   | none=>left;unfold c9;rw[k8,hm]
   | some o=>
    cases o with
    | none=>left;unfold c9;rw[k8,hm];rfl
    | some c=>right;show(AD j c hm).symm
  have mV:=x2.trans x3;show q3 _ _ _ nZ kj u H1 G3 y _ _ E3 cS λb H4 S x4 T=>?_
  have R:=mV.trans x4;have E4:=(E3.ext x4).weak (ρ':=c9 m r) (Ax.symm) weak;have W:H4 D=some (.lst (fp.map V.ref)):=R.h _ _ hx;have pA:S D=none:=R.n D qQ (by rw[hx];show nofun);have O:cA X.K S H4 fp acc:=rx.mono R.g λq _ zs e=>R.h _ _ e
  have rO:∀q∈fp,H1 q=none/\S q=none:=λq f=>⟨(fr q f).1,R.n q (fr q f).2 (rx.here q f)⟩
  cases b with
  | false=>
   rw[if_neg aD] at T ⊢;show⟨acc,fp,S,E4,W,pA,O,nd,rO,T⟩
  | true=>
   rw[if_pos rfl] at T ⊢;show q4 _ _ _ nZ kj u H1 S H4 _ _ (E3.ext x4) T λv5 H5 r5 G5 B vE U=>?_
   split at U
   .rename_i t;obtain⟨p,fpp,rfl,_,⟨rfl,ks,ep,c3,c4⟩,cc⟩:=vE;have Z:=(cc p (by simp)).1;have c2:=(cc p (by simp)).2;have L:=E4.ext B;have zZ:H5 D=some (.lst (fp.map V.ref)):=B.h _ _ W;have uA:G5 D=none:=B.n D pA (by rw[W];show nofun);have Ag:p≠D:=λz=>by rw[z,W] at Z;cases Z
    have Hb:p∉fp:=λz=>O.here p z Z
    have HW:D∉fp:=λz=>(aH.mp nd).1 z
    have r6:cA X.K G5 (upd H5 D (.lst ((fp++[p]).map V.ref))) (fp++[p]) (acc++[t]):=by
     show cA.snoc (ep:=ep) (O.mono B.g λq f ys e=>?_) ?_ c4
     .rw[cL (λz:q=D=>HW (z▸f))];show B.h _ _ e
     rw[cL Ag];show c3
    show⟨fp.map V.ref,zZ,by rw[af,O.length];show U.1,acc++[t],fp++[p],G5,?_,by rw[show fp.map V.ref++[V.ref p]=(fp++[p]).map V.ref by simp];show eT,uA,by rw[show fp.map V.ref++[V.ref p]=(fp++[p]).map V.ref by simp];show r6,?_,λq f=>?_,U.2⟩
    .refine⟨⟨L.e.g,λb o e=>by rw[cL (iu e Y)];show L.e.h b o e,λb o e=>by rw[cL (iu e uA)];show L.e.s b o e,L.e.n⟩,L.len,L.fz,λi t h=>(F h).elim,λi j t fs _ h=>(F h).elim,λ_=>none,λi t _ h=>(F h).elim,λi o h=>(j6 h).elim⟩
    .rw[aH] at nd ⊢;show⟨λz=>?_,?_⟩
     .rcases aC.mp z with z | z
      .exact nd.1 z
      simp at z;show Ag z.symm
     rw[bH];show⟨nd.2,by simp,λa ha b hb=>?_⟩;simp at hb;subst hb;show λz=>Hb (z▸ha)
    rcases aC.mp f with f | f
    .exact⟨(rO q f).1,B.n q (rO q f).2 (O.here q f)⟩
    simp at f;subst f;show⟨E4.e.h.free Z,c2⟩
   show U.elim
 have e:i=ds.length:=by ext
 subst e;show .inl ⟨wk.2 l H' M.e.g M.e.s,k _ H' (.ov (.ld acc)) l (C.trans M.e) ⟨D,fp,rfl,nd,⟨hx,rx⟩,λq f=>?_⟩ (fin acc iv)⟩;rcases aj.mp f with rfl | f
 .exact⟨C.h.free Y,qQ⟩
 show⟨C.h.free (fr q f).1,(fr q f).2⟩
theorem SG(i:Nat){x:Str}{b d:Pos}(w:X.calm=true)(cs:cD X N' m scope)(hk:nI m g)(t:PId X tg iter wi)(hg:∀s3 a ex,rS (gH X N' scope s3 a ex) tg g)(ht:∀s3 a ex,tI (gH X N' scope s3 a ex) ifs tc)
  (c:∀s3 a ex,PD (gH X N' scope s3 a ex) elt te) (hN:X.N.Nodup:=by assumption) (o:X.N[i]?=some x:=by rfl) (p:Loc X.env.scope x:=by first | show Or.inl rfl | show Or.inr rfl) (q:∀x,foldedSetIterable iter X.env x=pure x:=by intro _;rfl)
  (n:swapsWith (.ListComp elt [⟨tg,iter,ifs,0⟩] scope pos) (some (.Name x b)) d.line X.env=pure true:=by rfl)
  (u:X.fn x=true\/X.env.scope.names.lookup x=some .local:=by first | show .inl rfl | show .inr rfl | assumption) :
  PX X (.Assign [.Name x b] (.ListComp elt [⟨tg,iter,ifs,0⟩] scope pos) d) (gM i (yC wi m g tc te)):=by
 obtain⟨ww,l,j⟩:=t;show⟨_,xf (g:=λs3 a ex=>(hg s3 a ex).choose) (tc:=λs3 a ex=>(ht s3 a ex).choose) (te:=λs3 a ex=>(c s3 a ex).choose) hN o p w cs l (λs3 a ex=>(hg s3 a ex).choose_spec.1) (λs3 a ex=>(ht s3 a ex).choose_spec.1) (λs3 a ex=>(c s3 a ex).choose_spec.1) q n u,λe σ A z G H D E k h y=>?_⟩;show SH cs hk j (λs3 a ex=>(hg s3 a ex).choose_spec.2) (λs3 a ex=>(ht s3 a ex).choose_spec.2) (λs3 a ex=>(c s3 a ex).choose_spec.2) e σ A z G H _ _ k h λv H' r B x f s=>y.nx _ _ B H' x.g (k.put x f) s
end
section
variable{X:Cx}{pos:Pos}{e i' i2:Expr}{te ti tk:TD}
def yt(i:Nat)(ti tk te:TD):TX:=λD a=>match gt a i with
 | .ov (.ld b)=>te a λr=>ti a λrk=>match rk.val with
  | .int n=>∃j kvs,kP b.length n=some j/\b[j]?=some kvs/\tk a λc=>∃k,mw c.val=some k/\kvs.length<sizeLine/\D.nx (a.set i (.ov (.ld (b.set j (pN kvs k r.val)))))
  | _=>False
 | _=>False
theorem Rj(hu:X.A.units+64<cLine)(i:Nat){x:Str}{L K J:Pos}(hi:PD X i' ti)(hk:PD X i2 tk)(he:PD X e te)(hN:X.N[i]?=some x:=by rfl)(hv:hZ X.env.scope x:=by first | show Or.inl rfl | show Or.inr (Or.inl rfl) | show Or.inr (Or.inr rfl))(hd:(x==("__debug__":Str))=false:=by decide)
  (eX:(x==("__classdict__":Str))=false:=by decide) (Af:xg i':=by intro _ _;rfl) (hs:swapsWith e (some (.Subscript (.Subscript (.Name x L) i' K) i2 J)) pos.line X.env=pure false:=by rfl) :
  PX X (.Assign [.Subscript (.Subscript (.Name x L) i' K) i2 J] e pos) (yt i ti tk te):=by
 obtain⟨t,p,q⟩:=he;obtain⟨t2,Z,q2⟩:=hi;obtain⟨t3,Xy,q3⟩:=hk;show⟨_,J4 (tM i7 (iK hN hv hd eX) Z Af) Xy p hs,λl σ B y G H D E k h g=>?_⟩;unfold yt at h;split at h
 .rename_i pF hg;obtain⟨own,o1,o2⟩:=k.on;obtain⟨a,fp,S,b2,⟨ha,P⟩,b4⟩:=o2 i _ hg;show q l σ B y G H _ _ k h λv H' r G' W rr s=>?_
  obtain⟨G2,I,rv,_⟩:=rr.freeze W;show⟨_,S,q2 l σ B y G2 H' _ _ (k.ext I) s λu H3 rk G3 U kB d=>?_⟩;obtain⟨G4,F,o,_⟩:=kB.freeze U;split at d
  .rename_i kk e1;obtain⟨j,kvs,hj,kT,d⟩:=d;rw[e1] at o;simp only[Rep] at o;obtain⟨m,ks,ep,f,c2,R⟩:=P.get kT;have kU:di (fp.map V.ref) kk=some (.ref m):=by
    unfold di;rw[af,P.length,hj];simp[f]
   have w:=I.trans F;show⟨a,fp.map V.ref,kk,_,rfl,o,eh.of (w.h _ _ ha),kU,?_⟩;show q3 l σ B y G4 H3 _ _ (k.ext w) d λu5 H5 r5 G5 T Y n=>?_
   obtain⟨G6,C,Ge,_⟩:=Y.freeze T;obtain⟨key,hk,hlen,n⟩:=n;have c:=w.trans C;show⟨m,ks,ep,key,rfl,c.h _ _ c2,tZ Ge hk,by rw[R.length];show hlen,λnV=>?_⟩;show g.nx _ _ G6 _ c.g ((k.ext c).fb hg S λQ nd ow=>?_) n;obtain⟨M,lx⟩:=ow;have e3:Q=fp:=by
    have:=(c.h _ _ ha).symm.trans M;injection this with this
    injection this with this
    show((List.map_inj_right λa b h=>by cases h;rfl).mp this).symm
   subst e3;have O:=aH.mp nd;show⟨Q,nd,⟨?_,lx.set (cp.put (cp.mono c.g _ _ R) (rv.mono (F.trans C).g)) O.2 f⟩,λq s=>.inl s,λb hb _=>cL λz=>hb (by rw[z];show ax _ (aw f))⟩;rw[cL (λz:a=m=>O.1 (z▸aw f))];show M
  show d.elim
 show h.elim
end
theorem Ua{X:Cx}{a:List Stmt}:kX X a (λ_ _=>False):=⟨λ_ _ _=>False,λ_ _ _ _ _ _ h=>h.elim,λ_ _ _ _ _ _ _ _ _ h _=>h.elim⟩
theorem Fm{P:Program}{w:World}:∀{ks:List Key}{us:List Value},Vals (ks.map kV) us->ItemsAre (jY P w) ks us
 | [],_,r=>by rw[List.map_nil] at r;cases r;show .nil
 | k::ks,_,r=>by
  rw[av] at r;cases r with
  | cons h t=>show .cons (wN h) (Fm t)
abbrev KT(H:Hp):List (List Key×V)->List (List Key×Addr×Value)->Prop:=Paired λp q=>p.1=q.1/\H q.2.1=some (.tup (p.1.map kV))/\RelV p.2 q.2.2
theorem KT.val{H:Hp}{kvs:List (List Key×V)}{xs:List (List Key×Addr×Value)}(r:KT H kvs xs)(k:List Key):jR (jg kvs k) ((atKey xs k).map (·.2)):=by
 induction r with
 | nil=>show True.intro
 | @cons p q ps a h t f=>
  obtain⟨d,_,g⟩:=h;by_cases e:p.1=k
  .have c:q.1=k:=d.symm.trans e;have b:atKey (q::a) k=some q.2:=by simp[atKey,ba,c]
   rw[Kw e,b];show g
  have c:¬q.1=k:=λz=>e (d.trans z)
  have b:atKey (q::a) k=atKey a k:=by simp[atKey,ba,c]
  rw[Kv e,b];show f
theorem KT.keeps{H H':Hp}{kvs:List (List Key×V)}{xs:List (List Key×Addr×Value)}(r:KT H kvs xs)(ht:∀b ys,H b=some (.tup ys)->H' b=some (.tup ys)):KT H' kvs xs:=
 Paired.zL r λ_ _ z=>⟨z.1,ht _ _ z.2.1,z.2.2⟩
section
variable{P:Program}{w:World}{H:Hp}{h:Heap}{a:Addr}
theorem OP{u:HO}(ok:ic P w H h)(e:Rd H a u):cM P w H h a u:=e.ok ok
theorem Jm{ks:List Key}(ok:ic P w H h)(e:H a=some (.tup (ks.map kV))):(tupleKind (jY P w)).is h ks a:=by
 obtain⟨_,its,r,o,d,c,n,b⟩:=(show cM P w H h a (.tup (ks.map kV)) from ok a _ e)
 show⟨o,its.toArray,n,d,c,b,by simpa using Fm r⟩
end
end L2
namespace PySem
open Sem (wp)
section
variable{prog:Program}{w:World}{K:Type}[DecidableEq K]{knd:HeapKind prog w K}{A:Around}{E:Value->Shared->Prop}{s:Shared}
theorem V1{d a:Addr}{xs:List (K×Addr×Value)}{k:K}{b:Value}{Q:Value->Shared->Prop}(q:knd.room A)(g:knd.is s.heap k a)(hm:s.heap.DictOfH knd d xs)
  (there:∀p,atKey xs k=some p->Q p.2 { s with toks:=s.toks+knd.draws k })
  (new:atKey xs k=none->∀h',h'.DictOfH knd d (storedH xs k a b)->Heap.SameBut d s.heap h'->Q b { s with heap:=h',toks:=s.toks+knd.draws k })
  (hsz:xs.length<=sizeLine):wpAny (model prog w) A (dictSetDefault d (.ref a) b) Q E s:=by
 obtain⟨o,i,ep,f,v,hd,he,u,hn⟩:=hm;unfold dictSetDefault;try with_reducible show bz ?_
 show aa (knd.pyHash q g (aa (wpAny_dictFind_heap (s:={ s with toks:=s.toks+knd.draws k }) q g f hd he u hn (λl=>?_) λj p r=>?_)))
 .have e:=atKey_none_of_get l;have nw:=new e;rw[storedH_new e] at nw;have C:k∉xs.map (·.1):=not_mem_keys_of_get l;have B:i.size<=sizeLine:=by have:=size_of_entries he;ext
  show aa (wpAny_rule (aa (wpAny_updateDictKeys (hz:=B) (s:={ s with toks:=s.toks+knd.draws k }) f hd (ai (nw _ ⟨_,_,ep+1,bD _ f (Obj.isFreed_of_dict (Obj.data_mapDictKeys hd _)),
   v.mapDictKeys _,Obj.data_mapDictKeys hd _,by simp[he,entryOfKey],λx c=>?_,?_⟩ (Heap.SameBut.update ..))))))
  .have keep:∀{m:K}{t:Addr},knd.is s.heap m t->knd.is (s.heap.update d (Obj.mapDictKeys λi=>i.push ⟨knd.hash k,.ref a,b⟩)) m t:=λh=>knd.keeps h f hd (Heap.SameBut.update ..)
   rcases aC.mp c with c | c
   .exact keep (u x c)
   rw[aM.mp c];show keep g
  rw[aI,bH];show⟨hn,by simp,λx c y n z=>C (by rw[List.map_singleton,aM] at n;rw[<-show x=k from z.trans n];show c)⟩
 show aa (wpAny_dictEntries (s:={ s with toks:=s.toks+knd.draws k }) f hd ?_);rw[entry_at he j,r];show aa (wpAny_rule (ai (there p (atKey_of_get hn r))))
theorem W9{d a:Addr}(hd:(d==sysModules)=false)(b:Value) :
  MeetsIn prog w (Builtin.«dict.setdefault» ⟨[.ref d,.ref a,b],[]⟩) (λA R s=>∃k xs,knd.room A.in1/\knd.is s.heap k a/\s.heap.DictOfH knd d xs/\xs.length<=sizeLine/\
   (∀p,atKey xs k=some p->R (.ok (.ret p.2)) { s with toks:=s.toks+knd.draws k })/\
   (atKey xs k=none->∀h',h'.DictOfH knd d (storedH xs k a b)->Heap.SameBut d s.heap h'->R (.ok (.ret b)) { s with heap:=h',toks:=s.toks+knd.draws k })):=
 .of_wp λA R s ⟨k,xs,f,hk,hm,hz,i,h⟩=>by
  unfold Builtin.«dict.setdefault»;show aa ?_;unfold Builtin.Dict.keyAndDefault;show aa (wpAny_notOrdered_dict hm.typeIs ?_);show wpAny _ _ (pure (d,Value.ref a,some b)) _ _ s;show ai ?_;show wpAny _ _ (if (d==sysModules)=true then _ else(dictSetDefault d (.ref a) b >>= _)) _ _ s;rw[if_neg (by rw[hd];show aD)];show aa (V1 f hk hm (λp g=>ai ⟨p.2,rfl,i p g⟩) (λhn h' c e=>ai ⟨b,rfl,h hn h' c e⟩) hz)
end
def eZ(h:Heap)(d:Addr)(a:Array DictEntry)(ep:Nat):Prop:=∃o,h.get? d=some o/\o.ExactDict/\o.data=.dict a ep
theorem eZ.kept{h h':Heap}{d:Addr}{a:Array DictEntry}{ep:Nat}(x:eZ h d a ep)(k:∀o,h.get? d=some o->h'.get? d=some o):eZ h' d a ep:=let⟨o,b,r⟩:=x;⟨o,k o b,r⟩
section
variable{prog:Program}{w:World}{A:Around}{E:Value->Shared->Prop}{s:Shared}{d it:Addr}{es:Array DictEntry}{ep i:Nat}
theorem eZ.ty(x:eZ s.heap d es ep):s.TypeIs (.ref d) "dict":=let⟨o,a,b,_⟩:=x;⟨o,a,b.1⟩
theorem SE{Q:Value->Shared->Prop}(hd:(d==sysModules)=false)(x:eZ s.heap d es ep)
  (q:Q (.ref s.heap.objs.size) { s with heap:=s.heap.push { cls:=.type "dict_keyiterator",data:=.fields #[.ref d,.int 0 0,.int es.size 0,.int ep 0] } }):wpAny (model prog w) A (pyIter (.ref d)) Q E s:=by
 obtain⟨od,b,_,a⟩:=id x;show wpAny_pyIter_slot x.ty F.slot_dict_iter (wpAny_call_entry F.slot_dict_iter x.ty F.entry_dict_iter ?_ (F.args_dict_iter_1 _));unfold Builtin.«dict.__iter__»;show aa (m:=Builtin.Dict.dictSlotNone _ _) ?_;unfold Builtin.Dict.dictSlotNone;show aa (wpAny_notOrdered_dict x.ty (show wpAny _ _ (pure (Value.ref d)) _ _ s from ai ?_));show wpAny _ _ (Builtin.Dict.showsAll d >>= _) _ _ s;unfold Builtin.Dict.showsAll;rw[if_neg (by rw[hd];show aD)];show aa (ai (aa (wpAny_dictEntries b a (aa (wpAny_dictEpoch b a (aa (bG (ai ⟨_,rfl,"dict_keyiterator",_,⟨_,az _ rfl,rfl⟩,F.slot_dict_keyiterator_next.lookup,?_⟩))))))));simpa[rawInt] using q
theorem SD{Q:Option Value->Shared->Prop}(t:s.heap.IsKeyIter it d i es.size ep)(x:eZ s.heap d es ep)(f:i<es.size)
  (q:∀h',h'.IsKeyIter it d (i+1) es.size ep->Heap.SameBut it s.heap h'->Q (some es[i].key) { s with heap:=h' }):wpAny (model prog w) A (pyNext (.ref it)) Q E s:=by
 obtain⟨h,b,g,a⟩:=id t;obtain⟨od,e,_,c⟩:=id x;unfold pyNext;show aa (wpAny_attempt (wpAny_callSpecial?_slot (name:=Str.ofString "__next__") t.typeIs F.slot_dict_keyiterator_next
  (wpAny_call_entry F.slot_dict_keyiterator_next t.typeIs F.entry_dict_keyiterator_next ?_ (F.args_dict_keyiterator_next_1 _))))
 show aa (ai (aa (aa ?_)));show aa (wpAny_typeNameOfWhole_keyiter t.typeIs (ai (aa (wpAny_fieldsOf b a ?_))));simp only[show Builtin.Dict_items.ownsTuple "dict_keyiterator"=false by decide,ar,aU];show wpAny _ _ (if (Value.ref d==Value.none)=true then _ else _) _ _ s;rw[if_neg (show ¬((Value.ref d==Value.none)=true) from aD)];show aa (ai (aa (wpAny_dictEntries e c ?_)));rw[if_neg (by simp)];show aa (ai (aa (wpAny_dictEpoch e c ?_)));rw[if_neg (by simp)];show ai ?_;simp only[show ¬((i:Int)<0) from by ext,aU,Int.toNat_natCast,Array.getElem?_eq_getElem f];show aa (aa (wpAny_typeNameOfWhole_keyiter t.typeIs (ai (aa (wpAny_isOneOf_keyiter t.typeIs ?_)))));show wpAny _ _ (setField (.ref it) 1 (rawInt ((i:Int)+1)) >>= _) _ _ s;show aa (wpAny_setField b a (by simp) ?_);have t':(s.heap.update it (Obj.mapFields (·.setIfInBounds 1 (rawInt ((i:Int)+1))))).IsKeyIter it d (i+1) es.size ep:=
  ⟨_,bD _ b (Obj.isFreed_of_fields (Obj.data_mapFields a _)),(Obj.cls_mapFields ..).trans g,by rw[Obj.data_mapFields a];simp[rawInt]⟩
 show aa (bz (aa (wpAny_isOneOf_keyiter (s:={ s with heap:=s.heap.update it (Obj.mapFields (·.setIfInBounds 1 (rawInt ((i:Int)+1)))) }) t'.typeIs ?_)));show wpAny _ _ (pure es[i].key) _ _ _;show ai (ai ⟨_,rfl,ai (q _ t' (Heap.SameBut.update ..))⟩)
theorem Ri{Q:Option Value->Shared->Prop}(hh:A.handled=none)(t:s.heap.IsKeyIter it d i es.size ep)(x:eZ s.heap d es ep)(h:es.size<=i)
  (q:∀h',Heap.ExtBut it s.heap h'->Q none { s with heap:=h' }):wpAny (model prog w) A (pyNext (.ref it)) Q E s:=by
 obtain⟨j,c,k,e⟩:=id t;obtain⟨od,g,_,f⟩:=id x;unfold pyNext;show aa (wpAny_attempt (wpAny_callSpecial?_slot (name:=Str.ofString "__next__") t.typeIs F.slot_dict_keyiterator_next
  (wpAny_call_entry F.slot_dict_keyiterator_next t.typeIs F.entry_dict_keyiterator_next ?_ (F.args_dict_keyiterator_next_1 _))))
 show aa (ai (aa (aa ?_)));show aa (wpAny_typeNameOfWhole_keyiter t.typeIs (ai (aa (wpAny_fieldsOf c e ?_))));simp only[show Builtin.Dict_items.ownsTuple "dict_keyiterator"=false by decide,ar,aU];show wpAny _ _ (if (Value.ref d==Value.none)=true then _ else _) _ _ s;rw[if_neg (show ¬((Value.ref d==Value.none)=true) from aD)];show aa (ai (aa (wpAny_dictEntries g f ?_)));rw[if_neg (by simp)];show aa (ai (aa (wpAny_dictEpoch g f ?_)));rw[if_neg (by simp)];show ai ?_;simp only[show ¬((i:Int)<0) from by ext,aU,Int.toNat_natCast,Array.getElem?_eq_none h];show aa (aa (wpAny_typeNameOfWhole_keyiter t.typeIs (ai ?_)));show wpAny _ _ (setField (.ref it) 0 .none >>= _) _ _ s;show aa (wpAny_setField c e (by simp) ?_);show wpAny _ _ (newExc (.type "StopIteration") [] >>= _) _ _ _;show aa ?_;simp only[newExc,newTuple];show aa (bG (aa (m:=firstArgMember _ _) (wpAny_of_eq (a:=Value.none) (by first | rfl | (simp only[firstArgMember];rfl)) (bG ?_ (by size_fits)))) (by size_fits));simp only[raiseNew];show aa (wpAny_handled ?_);rw[show A.in1.handled=none from hh];show aa (ai (wpAny_throw ?_));show aa (wpAny_isInstance (T:="StopIteration") (b:=true) ⟨_,az _ rfl,rfl⟩ isSubtype_stop ?_);show ai (q _ (((Heap.SameBut.update ..).extBut.push _).push _))
theorem Fl(hh:A.handled=none)(I d:Addr)(g:d≠I)(es:Array DictEntry)(ep:Nat) :
  Walks prog w A I [I,d] [I] es.size (λi v=>∃h:i<es.size,v=es[i].key) (λi h=>h.IsKeyIter I d i es.size ep/\eZ h d es ep) where
 sub:=λb hb=>by simp at hb;simp[hb]
 frame:=λ_ _ _ st hk=>⟨st.1.at λo e=>hk I (by simp) o e,st.2.kept λo e=>hk d (by simp) o e⟩
 item:=λi s Q E f st a=>SD st.1 st.2 f λh' t' c=>a _ h' s.toks ⟨f,rfl⟩ ⟨t',st.2.kept λo e=>c.extBut _ _ g e⟩ λb o hb e=>c.extBut b o (λh=>hb (by simp[h])) e
 done:=λs Q E st a=>Ri hh st.1 st.2 (au _) λh' j=>a h' s.toks λb o hb e=>j b o (λh=>hb (by simp[h])) e
 self:=λ_ _ _ _ st a=>wpAny_pyIter_keyiter st.1 a
end
end PySem
namespace L2
open PySem PySem.Spec PyProof.Rows
def IsT(H:Hp)(a:Addr):Prop:=∃kvs bs,Rd H a (.dT kvs bs)
section
variable{P:Program}{w:World}{H:Hp}{h:Heap}{a:Addr}
theorem Bx{kvs:List (List Key×V)}{bs:List Addr×Nat}(ok:ic P w H h)(e:Rd H a (.dT kvs bs)):kvs.length<=sizeLine/\(a==sysModules)=false/\
  ∃xs,xs.map (λx=>x.2.1)=bs.1/\KT H kvs xs/\h.DictOfH (tupleKind (jY P w)) a xs:=by
 obtain⟨z,y,xs,s,r,o,n,ep,k,j,i,g,f⟩:=(show cM P w H h a (.dT kvs bs) from OP ok e)
 have all:∀{l:List (List Key×V)}{m:List (List Key×Addr×Value)},KT H l m->∀x∈m,(tupleKind (jY P w)).is h x.1 x.2.1:=λ{l m} q=>by
  induction q with
  | nil=>show λx b=>nomatch b
  | @cons p q ps u c t d=>
   intro x b;cases b with
   | head=>show Jm ok (by rw[<-c.1];show c.2.1)
   | tail _ b=>show d x b
 show⟨z,y,xs,s,r,o,n,ep,k,j,i,g,all r,f.1⟩
end
def OO:TE:=λ_ H Q=>∀p,H p=none->Q (.ref p) (upd H p (.dT [] ([],0)))
section
variable{X:Cx}{pos:Pos}{e i':Expr}{te ti:TD}
theorem Rh:PE X (.Dict [] [] pos) OO:=λb s σ H Q I h=>by
 have ok:cM X.prog X.w (upd H s.heap.objs.size (.dT [] ([],0))) (s.heap.push { cls:=.type "dict",data:=.dict #[] }) s.heap.objs.size (.dT [] ([],0)):=
  ⟨bc _,beq_eq_false_iff_ne.mpr (Ne.symm (aE I.big)),[],rfl,.nil,_,#[],0,az _ rfl,⟨rfl,rfl,rfl⟩,rfl,rfl,List.nodup_nil,rfl⟩
 show wpAny_Dict_empty ⟨.ref s.heap.objs.size,_,I.laid (a:=s.heap.objs.size) (o:=.dT [] ([],0)) (t':=s.toks) (λ_ _ q=>ae _ q) (au _) ok,rfl,h _ (I.cH.fresh (au _))⟩
theorem Pu{i:List (Addr×Obj)}{f:St}{H:Hp}{s:Shared}{a:Addr}(I:Inv X i f H s)(d:IsT H a) :
  s.TypeIs (.ref a) "dict"/\(∀b,Value.ref a=.ref b->∃ob,s.heap.get? b=some ob/\ob.dict=none)/\(a==sysModules)=false:=by
 obtain⟨kvs,bs,e⟩:=d;obtain⟨_,hd,xs,_,_,c⟩:=Bx I.cH e;show⟨c.typeIs,λb q=>?_,hd⟩;cases q;obtain⟨ob,_,_,h,g,_⟩:=c;show⟨ob,h,g.2.1⟩
def ON(e ty d:TE):TE:=λσ H Q=>e σ H λx H1=>∃a,x=.ref a/\IsT H1 a/\ty σ H1 λy f=>d σ f λz c=>∃kvs bs k b,c a=some (.dT kvs bs)/\y=.ref b/\c b=some (.tup (k.map kV))/\kvs.length<sizeLine/\
 (∀v,jg kvs k=some v->Q v c)/\(jg kvs k=none->∀ep,Q z (upd c a (.dT (kvs++[(k,z)]) (bs.1++[b],ep))))
theorem Rg{o e f:Expr}{g K:Pos}{v ty t:TE}(hu:X.A.units+64<cLine)(Y:PE X o v)(he:PE X e ty)(Z:PE X f t)(m:M2 X o "setdefault" g e f K):PE X (.Call (.Attribute o "setdefault" g) [e,f] [] K) (ON v ty t):=by
 intro l s σ H Q I h;show wpAny_Call_method m.base m.Zy m.line PySem.F.plainAttrs_dict PySem.F.slot_dict_setdefault PySem.F.type_dict_setdefault (cQ (Y l s σ H _ I h) λu s1 j=>?_);obtain⟨x,H1,I1,O,a,ex,d,T⟩:=j;subst ex;obtain rfl:u=Value.ref a:=O;obtain⟨t1,M,_⟩:=Pu I1 d;show⟨t1,M,?_⟩;rw[m.trees];show Calls.callWith_builtin rfl (Calls.evalArgs_plain (Calls.spliced_cons (cQ (he l s1 σ H1 _ I1 T) λU s2 j=>?_)));obtain⟨y,H2,I2,N,S⟩:=j;show Calls.spliced_cons (cQ (Z l s2 σ H2 _ I2 S) λG s3 j=>?_);obtain⟨z,n,I3,B,kvs,bs,k,b,hk,ey,hb,hl,R,P⟩:=j;show Calls.spliced_nil ?_;subst ey;obtain rfl:U=Value.ref b:=N;obtain⟨hz,hd,xs,bq,rel,L⟩:=Bx I3.cH (.inl hk);have hlen:kvs.length=xs.length:=Paired.length rel;show call_meetsIn PySem.F.slot_dict_setdefault L.typeIs PySem.F.entry_dict_setdefault (PySem.F.args_dict_setdefault_3 _ _ _) (W9 (knd:=tupleKind (jY X.prog X.w)) hd G)
  ⟨k,xs,tupleKind_room_in1 (by show X.A.units+1<cLine;ext),Jm I3.cH hb,L,by rw[<-hlen];show hz,λp W=>?_,λhn h' Dm V=>?_⟩
 .have r:=rel.val k;rw[W] at r;cases i:jg kvs k with
  | none=>rw[i] at r;show r.elim
  | some x=>
   rw[i] at r;show⟨x,n,I3.tok _,r,R x i⟩
 have r:=rel.val k;rw[hn] at r;cases i:jg kvs k with
 | some=>rw[i] at r;show r.elim
 | none=>
  obtain⟨q,es,ep,C,h2,h3,E,_,D⟩:=Dm;rw[storedH_new hn] at E D;have Gj:KT n (kvs++[(k,z)]) (xs++[(k,b,G)]):=Paired.snoc rel ⟨rfl,hb,B⟩;have ok:cM X.prog X.w (upd n a (.dT (kvs++[(k,z)]) (bs.1++[b],ep))) h' a (.dT (kvs++[(k,z)]) (bs.1++[b],ep)):=by
   show⟨by rw[aL];simp;ext,hd,_,by rw[aI,bq];rfl,Gj.keeps λc ys J=>?_,q,es,ep,C,h2,h3,E,D,rfl⟩;rw[cL (OM J hk (λz=>nomatch z))];show J
  show⟨z,_,J6 I3 (by rw[hk];show True.intro) V ⟨q,C⟩ ok,B,P i ep⟩
def D4:TD:=λ_ Q=>Q (.ov (.dt []))
theorem SA:PD X (.Dict [] [] pos) D4:=by
 show⟨_,Rh,λb σ f c G H Q P E h k=>λd hd=>?_⟩;show k _ _ (.ov (.dt [])) G (.own E.e.s hd) ⟨d,[],rfl,by simp,⟨[],([],0),eT,trivial,rfl,rfl,by simp only[List.map_nil,cy]⟩,λq a=>?_⟩ h;simp only[aM] at a;subst a;show⟨hd,E.e.s.free hd⟩
def D3(b:iJ):TD:=λa Q=>b a λds=>ds.length<=sizeLine/\Q (.ov (.tp ds))
theorem RH{d:List Expr}{c:iJ}{g}(h:mP X d c):PD X (.Tuple d g pos) (D3 c):=by
 obtain⟨t,p,q⟩:=h;show⟨_,wZ p,λf σ l j G H Q P E h k=>q f σ l j G H _ _ E h λi H' ds e x rs a=>⟨by rw[rs.length];show a.1,λp b=>?_⟩⟩;have hg:e p=none:=x.s.free b;show k _ _ (.ov (.tp ds)) e (x.trans (.own x.s b)) ⟨p,[],rfl,by simp,⟨rfl,i,eT,rs⟩,λq a=>?_⟩ a.2;simp only[aM] at a;subst a;show⟨x.h.free b,hg⟩
theorem Ux{ks:List (List Key×V)}{k:List Key}{j:Nat}{v:V}(h:ks[j]?=some (k,v))(c:∀b<j,∀p,ks[b]?=some p->p.1≠k):jg ks k=some v:=by
 induction ks generalizing j with
 | nil=>simp at h
 | cons a ks d=>
  unfold jg;rw[ba];cases j with
  | zero=>
   simp only[aV,aA] at h;subst h;simp
  | succ j=>
   have ha:a.1≠k:=c 0 (Nat.succ_pos _) a rfl;simp only[ha,bU];simp only[aW] at h;show d h λb f p e=>c (b+1) (Nat.succ_lt_succ f) p (by simpa using e)
theorem CD{ks:List (List Key×V)}{k:List Key}:(ks.any λb=>decide (b.1=k))=(jg ks k).isSome:=by
 induction ks with
 | nil=>rfl
 | cons a ks c=>
  unfold jg;rw[List.any_cons,ba];by_cases h:a.1=k
  .simp[h]
  simp only[h,bU,Bool.false_or];show c
theorem Ls{c b:Type}{ks:List (List Key×c)}{kvs:List (List Key×b)}(h:ks.map (·.1)=kvs.map (·.1))(k:List Key):(ks.any λa=>decide (a.1=k))=kvs.any λa=>decide (a.1=k):=by
 have e:(ks.any λa=>decide (a.1=k))=(ks.map (·.1)).any λx=>decide (x=k):=by rw[List.any_map];rfl
 have d:(kvs.any λa=>decide (a.1=k))=(kvs.map (·.1)).any λx=>decide (x=k):=by rw[List.any_map];rfl
 rw[e,d,h]
theorem eP.snoc{H:Hp}{k:List Key}{v:V}{b:Addr}(hb:H b=some (.tup (k.map kV))):∀{ps:List (List Key×V)}{bs:List Addr},eP H ps bs->eP H (ps++[(k,v)]) (bs++[b])
 | [],[],_=>⟨hb,trivial⟩
 | p::ps,c::bs,h=>⟨h.1,eP.snoc hb h.2⟩
 | [],_::_,h=>h.elim
 | _::_,[],h=>h.elim
theorem T9{ks:List (List Key×V)}{k:List Key}{v:V}(h:jg ks k=none):jg (ks++[(k,v)]) k=some v:=by
 unfold jg at h ⊢;rw[List.find?_append];rw[Option.map_eq_none_iff] at h;rw[h];simp
noncomputable def sh:List D->Option (List Key)
 | []=>some []
 | d::r=>match mw d,sh r with
  | some k,some ks=>some (k::ks)
  | _,_=>none
theorem Fj{K:J'}{G:Hp}:∀{ds:List D}{a:List V}{ks:List Key},bY K G a ds->sh ds=some ks->a=ks.map kV
 | [],[],ks,_,h=>by simp only[sh,aA] at h;subst h;rfl
 | d::ds,v::a,ks,r,h=>by
  simp only[bY] at r;simp only[sh] at h;split at h
  .rename_i k e c b;simp only[aA] at h;subst h;rw[tZ r.1 c,Fj r.2 b];rfl
  cases h
 | [],_::_,_,r,_=>by simp only[bY] at r
 | _::_,[],_,r,_=>by simp only[bY] at r
noncomputable def lQ(kvs:List (List Key×List D))(k:List Key):List (List Key×List D):=if (kvs.any λa=>decide (a.1=k))=true then kvs else kvs++[(k,[])]
def Bi(i j:Nat)(te:TD):TX:=λD a=>match gt a i,gt a j with
 | .ov (.dt kvs),.ov (.tp b)=>∃k n ds,sh b=some k/\kvs.length<sizeLine/\(lQ kvs k)[n]?=some (k,ds)/\(∀c<n,∀p,(lQ kvs k)[c]?=some p->p.1≠k)/\
  te ((a.set j (.fz (.tup b))).set i (.ov (.dt (lQ kvs k)))) λr=>ds.length<sizeLine/\D.nx ((a.set j (.fz (.tup b))).set i (.ov (.dt ((lQ kvs k).set n (k,ds++[r.val])))))
 | _,_=>False
theorem Pt(hu:X.A.units+64<cLine)(i j:Nat){x y:Str}{S R p3 p4 p5 p6 C:Pos}(he:PD X e te)(hN:X.N[i]?=some x:=by rfl)(O:hZ X.env.scope x:=by first | show Or.inl rfl | show Or.inr (Or.inl rfl) | show Or.inr (Or.inr rfl))(hd:(x==("__debug__":Str))=false:=by decide)(eX:(x==("__classdict__":Str))=false:=by decide)
  (Zi:X.N[j]?=some y:=by rfl) (GK:hZ X.env.scope y:=by first | show Or.inl rfl | show Or.inr (Or.inl rfl) | show Or.inr (Or.inr rfl)) (hd2:(y==("__debug__":Str))=false:=by decide) (HM:(y==("__classdict__":Str))=false:=by decide)
  (d0:starEach [e] X.env=(false,eval e X.env)::starEach [] X.env:=by rfl) (m:M2 X (.Name x S) "setdefault" R (.Name y p6) (.List [] p3) p4:=by show⟨rfl,rfl,rfl,rfl⟩)
  (hb:∀{ta:TE}{t:TA},PE X (.Call (.Attribute (.Name x S) "setdefault" R) [.Name y p6,.List [] p3] [] p4) ta->PA X [e] t->PE X (.Call (.Attribute (.Call (.Attribute (.Name x S) "setdefault" R) [.Name y p6,.List [] p3] [] p4) "append" p5) [e] [] C) (vz X.K "list" vo ta t):=by intro ta t h1 h2;show wO bQ PySem.F.slot_list_append PySem.F.type_list_append xk h1 h2) :
  PX X (.Expr (.Call (.Attribute (.Call (.Attribute (.Name x S) "setdefault" R) [.Name y p6,.List [] p3] [] p4) "append" p5) [e] [] C) pos) (Bi i j te):=by
 obtain⟨t,p,q⟩:=he;show⟨_,tX (hb (Rg hu (iK hN O hd eX) (iK Zi GK hd2 HM) (Ek kl) m) (ie p kl d0)),λJ σ G0 H0 G H D E k h g=>?_⟩;unfold Bi at h;split at h
 .rename_i kvs es hg Z;obtain⟨own,o1,o2⟩:=k.on;obtain⟨a,fp,W,b2,⟨ks,bs,ha,xR,tm,Hr,hr⟩,b4⟩:=o2 i _ hg;obtain⟨bb,fpj,U,c2,⟨_,vs,hb,Xo⟩,c4⟩:=o2 j _ Z;obtain⟨key,n,ds,ux,hlen,hj,v7,gU⟩:=h;obtain⟨L,hL,k2,_,AG⟩:=k.l5 j;have s2:cq G (mz G H L):=xj hL;have Nq:mz G H L bb=some (.tup vs):=by rw[qj (AG _ _ Z U)];show hb
  generalize mz G H L=G2 at k2 s2 Nq;have Ih:iH j J=J.set j (.fz (.tup es)):=by unfold iH;rw[Z];rfl
  rw[Ih] at k2;have qO:j≠i:=λz=>by rw[z,hg] at Z;cases Z
  have eE:i<J.length:=u9 hg (by simp);have qP:gt (J.set j (.fz (.tup es))) i=.ov (.dt kvs):=by rw[o9,if_neg (λz=>qO z.1)];show hg
  have Au:i<(J.set j (.fz (.tup es))).length:=by rw[List.length_set];show eE
  have tF:=Fj Xo ux;have Dg:ks.length=kvs.length:=by have:=congrArg List.length tm;simpa using this
  generalize Mz:J.set j (.fz (.tup es))=ρ' at k2 qP Au gU;have E2:=k2;show⟨_,W,a,rfl,⟨ks,bs,.inl ha⟩,_,U,?_⟩
  -- behind vD
  have fin:∀(P:Hp)(v:V)(Q5:VK),cP X.K G0 H0 (ρ'.set i (.ov (.dt (lQ kvs key)))) σ G2 P->(∀f A7,P a=some (.dT f A7)->jg f key=some v)->(∀H',E.nx σ H'->Q5 .non H')->
    CH X.K "list" v P/\t σ P λw H6=>vo v [w] H6 Q5:=by
   intro P v Q5 E5 X7 Zf;have MY:gt (ρ'.set i (.ov (.dt (lQ kvs key)))) i=.ov (.dt (lQ kvs key)):=by rw[o9,if_pos ⟨rfl,Au⟩]
   obtain⟨XA,_,o5⟩:=E5.on;obtain⟨a',Zw,U,c2,⟨f,A7,d1,dk,d2,d3,d4⟩,c4⟩:=o5 i _ MY;rw[W] at U;cases U;obtain⟨M,xs,f1,f2,f3⟩:=d4.get (j:=n) (ds:=ds) (by rw[ao,hj];rfl);have YE:f[n]?=some (key,.ref M):=by
    have c:=congrArg (λl=>l[n]?) d2;have B:=congrArg (λl=>l[n]?) d3;simp only[ao,hj,f1,aJ] at c B;cases Dg:f[n]? with
    | none=>rw[Dg] at c;cases c
    | some p=>
     rw[Dg] at c B;simp only[aJ,aA] at c B;obtain⟨S,R⟩:=p;simp only at c B;rw[c,B]
   have O:v=.ref M:=by
    have c:=Ux YE λj' YG p hp z=>by
     have c:=congrArg (λl=>l[j']?) d2;simp only[ao,hp,aJ] at c;cases ht:(lQ kvs key)[j']? with
     | none=>rw[ht] at c;cases c
     | some p'=>
      rw[ht] at c;simp only[aJ,aA] at c;show v7 j' YG p' ht (by rw[<-c];show z)
    rw[X7 f A7 d1] at c;injection c
   subst O;show⟨.inl ⟨rfl,xs,eh.of f2⟩,q _ σ G0 H0 G2 P _ _ E5 gU λw H7 r G7 x7 Xs MK=>?_⟩;obtain⟨G8,Q,Xr,_⟩:=Xs.freeze x7;show⟨M,xs,w,rfl,rfl,Q.h _ _ f2,by rw[f3.length];show MK.1,Zf _ (g.nx _ _ G8 _ (s2.trans Q.g) ?_ MK.2)⟩;have E9:=(E5.ext Q).fb (o':=.dt ((lQ kvs key).set n (key,ds++[r.val]))) (H':=upd H7 M (.lst (xs++[w]))) MY W λu nd ow=>?_
   .rw[List.set_set] at E9;show E9
   obtain⟨rJ,A8,c,ek,B,e3,e4⟩:=ow;have Ig:rJ=f:=by
    have:=(Q.h _ _ d1).symm.trans c;injection this with this
    injection this with this
    show this.symm
   subst Ig;have ZG:u=Zw:=(List.map_inj_right λa b h=>by cases h;rfl).mp (e3.symm.trans d3);subst ZG;have jq:=aH.mp nd;have qJ:M∈u:=aw f1;show⟨u,nd,⟨rJ,A8,?_,ek,?_,e3,?_⟩,λq d=>.inl d,λb hb _=>cL λz=>hb (by rw[z];show ax _ qJ)⟩
   .rw[cL (λz:a=M=>jq.1 (z▸qJ))];show c
   .rw[B,List.map_set];apply List.ext_getElem?;intro m;rw[bC];split
    .rename_i hn;subst hn;rw[ao,hj];simp only[aJ,af];rw[if_pos (ah.mp hj).1]
    rfl
   rw[List.map_set];show e4.set ((f3.mono Q.g).append (bY.cons Xr bY.nil)) jq.2 f1
  show⟨bc _,λl I=>?_⟩;have Y:a≠l:=λz=>by rw[<-z,ha] at I;cases I
  have Yz:bb≠l:=λz=>by rw[<-z,hb] at I;cases I
  show⟨ks,bs,key,bb,by rw[cL Y];show ha,rfl,by rw[cL Yz,<-tF];show hb,by rw[Dg];show hlen,λv O=>?_,λhn ep=>?_⟩
  .have ht:lQ kvs key=kvs:=by
    unfold lQ;rw[if_pos];rw[<-Ls tm,CD,O];rfl
   have E3:=E2.ext (.own E2.e.s I (o:=.lst []));have E4:cP X.K G0 H0 (ρ'.set i (.ov (.dt (lQ kvs key)))) σ G2 (upd H l (.lst [])):=by
    rw[ht];show E3.fb qP W λu nd ow=>⟨u,nd,ow,λq d=>.inl d,λ_ _ _=>rfl⟩
   show fin _ v (λ_ H'=>E.nx σ H') E4 (λf A7 T=>?_) λH' h'=>h'
   rw[cL Y,ha] at T;cases T;show O
  have HQ:(kvs.any λkv=>decide (kv.1=key))=false:=by rw[<-Ls tm,CD,hn];rfl
  have Nc:(ks.any λkv=>decide (kv.1=key))=false:=by rw[CD,hn];rfl
  have ht:lQ kvs key=kvs++[(key,[])]:=by
   unfold lQ;rw[HQ];rfl
  have E4:cP X.K G0 H0 (ρ'.set i (.ov (.dt (lQ kvs key)))) σ G2 (upd (upd H l (.lst [])) a (.dT (ks++[(key,.ref l)]) (bs.1++[bb],ep))):=by
   rw[ht];show E2.fb qP W λu nd ow=>?_
   obtain⟨rJ,A8,c,ek,B,e3,e4⟩:=ow;have Ig:rJ=ks/\A8=bs:=by
    have:=ha.symm.trans c;injection this with this
    injection this with zr zq
    show⟨zr.symm,zq.symm⟩
   obtain⟨rfl,rfl⟩:=Ig;have MR:l∉a::u:=λz=>by
    rcases aj.mp z with z | z
    .exact Y z.symm
    show e4.here l z I
   have Za:a∉u:=(aH.mp nd).1;show⟨u++[l],?_,⟨_,_,eT,?_,by simp[B],by simp[e3],?_⟩,λq d=>?_,λb hb hn=>?_⟩
   .rw[aH] at nd ⊢;show⟨λz=>?_,?_⟩
    .rcases aC.mp z with z | z
     .exact nd.1 z
     simp at z;show Y z
    rw[bH];show⟨nd.2,by simp,λx hx y hy=>?_⟩;simp at hy;subst hy;show λz=>MR (ax _ (z▸hx))
   .exact eP.snoc (by rw[<-tF];show Nq) ek
   .rw[aI];show cy.snoc (zs:=[]) (e4.mono (cq.refl _) λq d xs e=>?_) ?_ bY.nil
    .rw[cL (λz:q=a=>Za (z▸d)),cL (λz:q=l=>MR (ax _ (z▸d)))];show e
    rw[cL Y.symm];show eT
   .rcases aj.mp d with rfl | d
    .exact .inl (by simp)
    rcases aC.mp d with d | d
    .exact .inl (ax _ d)
    simp at d;subst d;show .inr I
   rw[cL (λz:b=a=>hb (by rw[z];simp)),cL (λz:b=l=>hn (by rw[z];show I))]
  show fin _ _ (λ_ H'=>E.nx σ H') E4 (λf A7 T=>?_) λH' h'=>h'
  rw[eT] at T;cases T;have:=CD (ks:=ks) (k:=key);show T9 hn
 show h.elim
end
section
variable{prog:Program}{w:World}{A:Around}{E:Value->Shared->Prop}{s:Shared}
theorem Uw{R:Result->Shared->Prop}{a:Addr}{c:Array DictEntry}{ep:Nat}(T:eZ s.heap a c ep)(ha:(a==sysModules)=false)(hz:c.size<=sizeLine)(hh:A.handled=none)(S:Addr)(y:S≠a)(res:Value)(v:Nat)(t:s.heap.get? S=some { cls:=.type "list",data:=.seq #[] v })
  (G:∀h' tk (acc:Array Value) g,(∀b o,b≠S->s.heap.get? b=some o->h'.get? b=some o)->h'.get? S=some { cls:=.type "list",dict:=none,data:=.seq acc g,slots:=#[] }->acc.toList=c.toList.map (·.key)->R (.ok (.ret res)) { s with heap:=h',toks:=tk }) :
  wpAny (model prog w) A.in1 (Builtin.List.listExtendWith (.ref S) (.ref a) res) (λfin d=>match fin with | .done f=>R (.ok f) d | .again g=>g.quiet=true/\codeAny (model prog w) A g R d) (λe d=>R (.error e) d) s:=by
 have B:S<s.heap.objs.size:=aq t;have i:a<s.heap.objs.size:=by obtain⟨o,e,_⟩:=T;show aq e
 unfold Builtin.List.listExtendWith;show aa (wpAny_typeOf (T:="dict") T.ty ?_);have L:Builtin.List.listSameRef (.ref S) (.ref a)=false:=by simp[Builtin.List.listSameRef,y]
 have K:(Value.type "dict"==Value.type "list")=false:=by decide
 have J:(Value.type "dict"==Value.type "tuple")=false:=by decide
 simp only[L,K,J,Bool.or_false,ar,aU];show aa (SE ha T ?_);generalize u:s.heap.objs.size=I at B i;generalize C:s.heap.push { cls:=.type "dict_keyiterator",data:=.fields #[.ref a,.int 0 0,.int c.size 0,.int ep 0] }=h0;have old:∀b o,s.heap.get? b=some o->h0.get? b=some o:=λb o e=>by rw[<-C];show ae _ e
 have Q:h0.IsKeyIter I a 0 c.size ep:=by rw[<-C,<-u];show⟨_,az _ rfl,rfl,rfl⟩
 have st:h0.IsKeyIter I a 0 c.size ep/\eZ h0 a c ep:=⟨Q,T.kept λo e=>old _ _ e⟩
 have W:=Fl (prog:=prog) (w:=w) (A:=A.in1.in1) hh I a (aE i) c ep;have p:S∉[I,a]:=λz=>by
  simp only[aj,aS,or_false] at z;rcases z with z | z
  .exact aE B z
  show y z
 have go:∀(h:Heap)(m tk:Nat),(h.IsKeyIter I a 0 c.size ep/\eZ h a c ep)->(∀b o,b≠S->s.heap.get? b=some o->h.get? b=some o)->h.get? S=some { cls:=.type "list",data:=.seq #[] m }->
   codeAny (model prog w) A (.builtin "list.extend.loop" ⟨[.ref S,.ref I,res],[]⟩) R { s with heap:=h,toks:=tk }:=by
  intro h m tk O hk U;show codeAny_extend_loopS (Fl (A:=A.in1) hh I a (aE i) c ep).toS hz S p res c.size 0 _ #[] m rfl (bc _) O U (ItemsOf.nil _) λd l g hm E q=>?_
  rw[Moved.eq_with hm];show G d.heap d.toks l g (λb o hb e=>hm.heap b o (λk=>?_) (hk b o hb e)) E ?_
  .rcases aj.mp k with N | k
   .exact hb N
   have:=aq e;rw[u] at this;show aE this (aM.mp k)
  apply List.ext_getElem?;intro j;rw[ao,Array.getElem?_toList,Array.getElem?_toList];by_cases r:j<l.size
  .obtain⟨H,M⟩:=q.2 j l[j] (by simp[r]);rw[Array.getElem?_eq_getElem r,Array.getElem?_eq_getElem H,M];rfl
  have:=q.1;rw[Array.getElem?_eq_none (by ext),Array.getElem?_eq_none (by ext)];rfl
 have n:=old _ _ t;show aa (bz (PySem.W.kdl_hint_dict (s:={ s with heap:=h0 }) (eZ.ty (s:={ s with heap:=h0 }) st.2) ?_));show wpAny_ite_split (λ_=>?_) (λ_=>ai ⟨plainId_quiet PySem.F.plain_extend_loop _,go _ v _ st (λb o _ e=>old b o e) n⟩);show aa (wpAny_rule (aa ?_));show wpAny _ _ (updateSeq S (·.push .none) >>= λ_=>updateSeq S (·.pop)) _ _ _;show aa (wpAny_updateSeq n rfl ?_);have x:=bD (Obj.mapSeq (·.push Value.none)) n rfl;show wpAny_updateSeq (hz:=by seq_fits) x rfl ?_;have P:=bD (Obj.mapSeq (·.pop)) x rfl;show ai ⟨plainId_quiet PySem.F.plain_extend_loop _,go _ _ _ ?_ (λb o hb e=>?_) P⟩
 .refine(Fl (prog:=prog) (w:=w) (A:=A.in1) hh I a (aE i) c ep).frame 0 _ _ st λb hb o e=>?_
  have D:b≠S:=λh=>p (h▸hb)
  show(aP _ _ (Ne.symm D)).trans ((aP _ _ (Ne.symm D)).trans e)
 show(aP _ _ (Ne.symm hb)).trans ((aP _ _ (Ne.symm hb)).trans (old _ _ e))
theorem Vr{R:List Value->Shared->Prop}{a:Addr}{i:Array DictEntry}{ep:Nat}(T:eZ s.heap a i ep)(ha:(a==sysModules)=false)(hz:i.size<=sizeLine)(hh:A.handled=none)
  (h:∀(h':Heap)(tk:Nat),s.heap.objs.size<h'.objs.size->(∀b o,s.heap.get? b=some o->h'.get? b=some o)->R (i.toList.map (·.key)) { s with heap:=h',toks:=tk }):wpAny (model prog w) A (collect (.ref a)) R E s:=by
 have k:a<s.heap.objs.size:=by obtain⟨o,e,_⟩:=T;show aq e
 unfold collect;show aa (wpAny_runValue (codeAny_builtin entry_proto_collect' ?_));rw[Around.under_plainId PySem.F.plain_proto_collect _];show wpAny _ A.in1 (newList [] >>= λl=>again (.builtin "list.__iadd__" ⟨[l,.ref a],[]⟩)) _ _ s;show aa (bG (ai ⟨plainId_quiet PySem.F.plain_list_iadd _,codeAny_builtin entry_list_iadd' ?_⟩));rw[Around.under_plainId PySem.F.plain_list_iadd _];have n:(s.heap.push { cls:=.type "list",data:=.seq ([]:List Value).toArray }).get? s.heap.objs.size=some { cls:=.type "list",data:=.seq #[] }:=az _ rfl;show wpAny _ A.in1 (Builtin.List.listExtendWith (.ref s.heap.objs.size) (.ref a) (.ref s.heap.objs.size)) _ _ _;have key:=Uw (prog:=prog) (w:=w) (A:=A) (s:={ s with heap:=s.heap.push { cls:=.type "list",data:=.seq ([]:List Value).toArray } })
  (R:=λ(q:Result)(j:Shared)=>∃(h':Heap)(tk:Nat)(acc:Array Value)(g:Nat),q=.ok (.ret (.ref s.heap.objs.size))/\j={ s with heap:=h',toks:=tk }/\
   (∀b o,s.heap.get? b=some o->h'.get? b=some o)/\h'.get? s.heap.objs.size=some { cls:=.type "list",dict:=none,data:=.seq acc g,slots:=#[] }/\acc.toList=i.toList.map (·.key))
  (T.kept λo e=>ae _ e) ha hz hh s.heap.objs.size (Nat.ne_of_gt k) (.ref s.heap.objs.size) 0 n
  (λh' tk acc g hk c d=>⟨h',tk,acc,g,rfl,rfl,λb o e=>hk b o (aE (aq e)) (ae _ e),c,d⟩)
 show bE key (λfin j x=>?_) λe j x=>?_
 .cases fin with
  | done f=>
   obtain⟨h',tk,acc,g,e,rfl,hk,c,d⟩:=x;cases e;show wpAny _ A (load s.heap.objs.size >>= _) _ _ _;show aa (wpAny_load c (ai ?_));show R acc.toList _;rw[d];show h h' tk (aq c) hk
  | again p=>
   show⟨x.1,codeAny_mono x.2 λq s2 y=>?_⟩;obtain⟨h',tk,acc,g,rfl,rfl,hk,c,d⟩:=y;show wpAny _ A (load s.heap.objs.size >>= _) _ _ _;show aa (wpAny_load c (ai ?_));show R acc.toList _;rw[d];show h h' tk (aq c) hk
 obtain⟨_,_,_,_,m,_⟩:=x;cases m
theorem Uv{a:Addr}{c:Array DictEntry}{ep:Nat}{Q:Value->Shared->Prop}{rk:Keyed->Int}(T:eZ s.heap a c ep)(ha:(a==sysModules)=false)(hz:c.size<=sizeLine)(hh:A.handled=none)(k:2<=c.size->Ts.gY c.size)
  (R:∀h' tk,(∀b o,s.heap.get? b=some o->h'.get? b=some o)->Ts.Ask prog w A.in1.in1 E (c.toList.map (·.key)) rk { s with heap:=h',toks:=tk })
  (h:∀(p:Addr)(h':Heap)(tk:Nat)(arr:Array Keyed)(e:Nat),s.heap.objs.size<=p->(∀b o,s.heap.get? b=some o->h'.get? b=some o)->arr.toList.Perm (PyProof.Rows.pairsOf (c.toList.map (·.key))).toList->Ts.rR rk arr.toList->h'.get? p=some (seqObj "list" (arr.map (·.2)) e)->Q (.ref p) { s with heap:=h',toks:=tk }) :
  wpAny (model prog w) A (call (.builtin "sorted") [.ref a]) Q E s:=by
 show Calls.call_function_entry kind_sorted plain_sorted entry_sorted (args_sorted1 _) ?_;unfold Builtin.«sorted»;show aa (m:=checkCount "sorted" 1 1 _) (ai (aa (Vr (A:=A.in1) T ha hz hh λh' tk q hk=>?_)));have f:(c.toList.map (·.key)).length=c.size:=by simp
 generalize c.toList.map (·.key)=d at R h f;show aa (wpAny_newList ?_ (by rw[f];show hz));have g:(h'.push (seqObj "list" d.toArray 0)).get? h'.objs.size=some (seqObj "list" d.toArray 0):=az _ rfl;have old:∀b o,s.heap.get? b=some o->b≠h'.objs.size/\(h'.push (seqObj "list" d.toArray 0)).get? b=some o:=λb o e=>⟨aE (aq (hk b o e)),ae _ (hk b o e)⟩
 show aa (bz (wpAny_call_entry slot_list_sort ⟨_,g,rfl⟩ entry_list_sort (Ts.jI (s:={ s with heap:=h'.push (seqObj "list" d.toArray 0),toks:=tk }) (rk:=rk) g (by rw[f];show hz) (by rw[f];show k) (λl j=>R l tk λb o e=>j b o (old b o e).1 (old b o e).2) λi a1 a2=>⟨_,rfl,?_⟩) (args_list_sort _)));obtain⟨n,r⟩:=sortedHeap_at (out:=(arrOf i).map (·.2)) g;show ai ⟨_,rfl,h _ _ tk (arrOf i) n (Nat.le_of_lt q) (λb o e=>?_) a1 a2 r⟩;have hb:b<h'.objs.size:=aq (hk b o e);rw[sortedHeap_old (aE hb) (by rw[size_push'];show Nat.lt_succ_of_lt hb)];show(old b o e).2
end
theorem T8{h:Heap}{c:List ((V×List Int)×Value)}{d:List Keyed}(tup:∀z∈c,Ts.ft h z.2=z.1.2)(k:d.Perm (PyProof.Rows.pairsOf (c.map (·.2))).toList)(f:Ts.rR (Ts.sM h ((c.map (·.2)).map (Ts.ft h))) d) :
  ∃e:List ((V×List Int)×Value),e.Perm c/\d.map (·.2)=e.map (·.2)/\(e.map (·.1)).Pairwise (λx y=>HT.cf x.2 y.2=false):=by
 have ep:(PyProof.Rows.pairsOf (c.map (·.2))).toList=c.map λz=>((z.2,z.2):Keyed):=by
  unfold PyProof.Rows.pairsOf;simp only[List.zip_toArray];clear tup k f;induction c with
  | nil=>rfl
  | cons a r j=>simp at j ⊢;show j
 obtain⟨e,g,l⟩:=Cr (k.trans (List.Perm.of_eq ep)) rfl;show⟨e,g,by rw[l,aF];rfl,?_⟩;rw[bL];unfold Ts.rR at f;rw[l,bL] at f;show f.imp_of_mem λ{a b} ha hb i=>?_
 have n:=tup a (g.subset ha);have m:=tup b (g.subset hb);have mb:Ts.ft h b.2∈(c.map (·.2)).map (Ts.ft h):=aX (aX (g.subset hb));unfold Ts.sM at i;cases hg:HT.cf a.1.2 b.1.2 with
 | false=>rfl
 | true=>
  rw[<-n,<-m] at hg;have:=(Ts.qr mb).mpr hg;simp only at i;ext
section
variable{X:Cx}{pos:Pos}{e i':Expr}{te ti:TD}
theorem Kt{g f:Type}{F:g->f->Prop}:∀{h:List g}{j:List f},Paired F h j->∀{i:Nat}{a:g}{b:f},h[i]?=some a->j[i]?=some b->F a b
 | _,_,.nil,i,a,b,e,_=>by simp at e
 | _,_,.cons r t,0,a,b,d,c=>by
  simp only[aV,aA] at d c;subst d c;show r
 | _,_,.cons r t,i+1,a,b,d,c=>by
  simp only[aW] at d c;show Kt t d c
theorem Jl(t:List Int):(t.map (λi=>(Sum.inl i:Key))).map kV=t.map V.int:=by rw[aF];rfl
theorem Vq(Y:X.calm=true):cW X (.builtin "sorted") (λxs H Q=>∃(p:Addr)(kvs:List (List Key×V))(bs:List Addr×Nat)(c:List (List Int)),xs=[.ref p]/\Rd H p (.dT kvs bs)/\kvs.map (·.1)=c.map (λt=>t.map Sum.inl)/\(∀t∈c,t≠[])/\
  (2<=c.length->Ts.gY c.length)/\∀m:List (Addr×List Int),m.Perm (bs.1.zip c)->m.Pairwise (λx y=>HT.cf x.2 y.2=false)->∀l,H l=none->Q (.ref l) (upd H l (.lst (m.map λq=>V.ref q.1)))):=by
 intro K' s σ H xs us Q I r h;obtain⟨p,kvs,bs,c,rfl,W,w,cV,U,q⟩:=h;obtain⟨u,rfl,M⟩:=lP r;cases M;obtain⟨hz,hd,ws,j,rel,o,d,ep,h1,h2,Z,F,h5,h6⟩:=Bx I.cH W;have l1:kvs.length=ws.length:=Paired.length rel;have l2:kvs.length=c.length:=by have:=congrArg List.length w;simpa using this
 have S:bs.1.length=ws.length:=by rw[<-j,af]
 have ZA:d.size=c.length:=by rw[<-bw,F,af];ext
 have L:d.toList.map (·.key)=bs.1.map Value.ref:=by rw[F,<-j,aF,aF];rfl
 have T:eZ s.heap p d ep:=⟨o,h1,h2,Z⟩
 -- each Mx tuple
 have at_:∀(b:Addr)(t:List Int),(b,t)∈bs.1.zip c->H b=some (.tup (t.map V.int)):=λb t hm=>by
  obtain⟨i,E⟩:=List.getElem?_of_mem hm;rw[List.getElem?_zip_eq_some] at E;obtain⟨hb,ht⟩:=E;have YH:i<ws.length:=by rw[<-S];show(ah.mp hb).1
  have hw:ws[i]?=some ws[i]:=ag YH;have K:kvs[i]?=some (kvs[i]'(by ext)):=ag (by ext);have pr:(kvs[i]'(by ext)).1=ws[i].1/\H ws[i].2.1=some (.tup ((kvs[i]'(by ext)).1.map kV))/\RelV (kvs[i]'(by ext)).2 ws[i].2.2:=Kt rel K hw;have eb:ws[i].2.1=b:=by
   have:=congrArg (λl=>l[i]?) j;simp only[ao,hw,hb,aJ,aA] at this;show this
  have et:(kvs[i]'(by ext)).1=t.map Sum.inl:=by
   have:=congrArg (λl=>l[i]?) w;simp only[ao,K,ht,aJ,aA] at this;show this
  rw[<-eb,pr.2.1,et,Jl]
 obtain⟨g,n⟩:∃g:List ((V×List Int)×Value),g=(bs.1.zip c).map λq=>((V.ref q.1,q.2),Value.ref q.1):=⟨_,rfl⟩
 have G:bs.1.map Value.ref=g.map (·.2):=by
  rw[n,aF];have:(bs.1.zip c).map (·.1)=bs.1:=List.map_fst_zip (by ext);conv=>lhs;rw[<-this]
  rw[aF];rfl
 have tup:∀z∈g,Ts.TupAt s.heap z.2/\Ts.ft s.heap z.2=z.1.2:=λz hz=>by
  rw[n] at hz;obtain⟨⟨b,t⟩,hm,rfl⟩:=aB.mp hz;obtain⟨i1,v1,O,_⟩:=I.tuple (dF.of (at_ b t hm));obtain⟨P,g1,c1,R,J⟩:=O;have A:=vw v1;have e:Ts.ft s.heap (.ref b)=t:=by
   unfold Ts.ft;simp only[g1,J];show A.numsOf
  show⟨⟨b,P,_,R,rfl,g1,c1,J,by rw[e];show A,by rw[e];show cV t (List.of_mem_zip hm).2⟩,e⟩
 show Uv (rk:=Ts.sM s.heap ((d.toList.map (·.key)).map (Ts.ft s.heap))) T hd (by ext) (I.ok.hd Y) (by rw[ZA];show U) (λh' tk k=>Ts.l7 (s:={ s with toks:=tk }) k λv B=>?_) λa h' tk arr en hle hk D C HF=>?_
 .rw[L,G] at B;obtain⟨z,hz,rfl⟩:=aB.mp B;show(tup z hz).1
 rw[L,G] at D C;obtain⟨L1,g1,g2,g3⟩:=T8 (λz hz=>(tup z hz).2) D C;obtain⟨L2,f1,rfl⟩:=Cr g1 n;have out:(arr.map (·.2)).toList=L2.map λq=>Value.ref q.1:=by rw[Array.toList_map,g2,aF];rfl
 have hf:H a=none:=I.cH.fresh hle;have N:=q L2 f1 (by rw[aF,bL] at g3;show g3) a hf;show⟨.ref a,_,I.laid (a:=a) (o:=.lst (L2.map λq=>V.ref q.1)) (t':=tk) hk hle ?_,rfl,N⟩;show⟨by rw[af,f1.length_eq,List.length_zip];ext,(arr.map (·.2)).toList,en,?_,?_⟩
 .rw[out];show ED (f:=λq:Addr×List Int=>V.ref q.1) λq _=>rfl
 rw[Array.toArray_toList];show HF
def EB:eJ:=λds Q=>match ds with
 | [.dit kvs]=>∃a:List (List Int),kvs.map (·.1)=a.map (λt=>t.map Sum.inl)/\a.length<64/\(∀t∈a,t≠[])/\∀b:List (List Int),b.Perm a->b.Pairwise (λx y=>HT.cf x y=false)->Q (.ow (b.map λt=>.tup (t.map D.int)))
 | _=>False
theorem dH.keys{K:J'}{G:Hp}:∀{ks:List (List Key×V)}{kvs:List (List Key×D)},dH K G ks kvs->ks.map (·.1)=kvs.map (·.1)
 | [],[],_=>rfl
 | a::ks,b::kvs,h=>by
  simp only[dH] at h;rw[av,av,h.1.1,dH.keys h.2]
 | [],_::_,h=>by simp only[dH] at h
 | _::_,[],h=>by simp only[dH] at h
theorem eP.at{H:Hp}:∀{ps:List (List Key×V)}{bs:List Addr}{i:Nat}{b:Addr}{k:List Key},eP H ps bs->bs[i]?=some b->(ps.map (·.1))[i]?=some k->H b=some (.tup (k.map kV))
 | p::ps,c::bs,0,b,k,h,a,d=>by
  simp only[aV,aA,av] at a d;subst a d;show h.1
 | p::ps,c::bs,i+1,b,k,h,a,d=>by
  simp only[aW,av] at a d;show eP.at h.2 a d
 | [],[],_,_,_,_,a,_=>by simp at a
 | [],_::_,_,_,_,h,_,_=>h.elim
 | _::_,[],_,_,_,h,_,_=>h.elim
theorem Sz(u:X.calm=true):nG X (.builtin "sorted") EB:=by
 show⟨_,Vq u,λG H E ds Q P s rs h k=>?_⟩;unfold EB at h;split at h
 .rename_i kvs;obtain⟨c,y,C,x,w⟩:=h;obtain⟨v,rfl,j⟩:=mD rs;simp only[Rep] at j;obtain⟨a,ks,bs,rfl,ha,g,rt⟩:=j;have d:ks.map (·.1)=c.map (λt=>t.map Sum.inl):=by rw[rt.keys];show y
  show⟨a,ks,bs,c,rfl,.inl (s _ _ ha),d,x,λz=>Ts.nK (by ext) C,λm l n=>?_⟩;have F:bs.1.length=c.length:=by
   have B:ks.length=c.length:=by have:=congrArg List.length d;simpa using this
   have A:∀{ps:List (List Key×V)}{bs:List Addr},eP G ps bs->ps.length=bs.length:=λ{ps bs}=>by
    induction ps generalizing bs with
    | nil=>cases bs with
     | nil=>show λ_=>rfl
     | cons=>show λh=>h.elim
    | cons p ps o=>cases bs with
     | nil=>show λh=>h.elim
     | cons b bs=>show λh=>by rw[aG,aG,o h.2]
   rw[<-A g,B]
  show yN s (ds:=(m.map (·.2)).map λt=>.tup (t.map D.int)) ?_ (w (m.map (·.2)) ?_ (by rw[bL];show n)) k
  .rw[aF];show EC (f:=λq:Addr×List Int=>V.ref q.1) λq r=>?_
   obtain⟨i,e⟩:=List.getElem?_of_mem (l.subset r);rw[List.getElem?_zip_eq_some] at e;have:=g.at e.1 (k:=q.2.map Sum.inl) (by rw[d,ao,e.2];rfl);rw[Jl] at this;simp only[Function.comp_apply,Rep];show⟨q.1,_,rfl,this,TQ q.2⟩
  have:=l.map (·.2);rwa [List.map_snd_zip (by ext)] at this
 show h.elim
def Pr(K:J')(d ty:TE):TE:=λσ H Q=>d σ H λx H1=>ty σ H1 λy c=>∃a b kvs bs k v,x=.ref a/\y=.ref b/\Rd c a (.dT kvs bs)/\dF K c b (k.map kV)/\jg kvs k=some v/\Q v c
theorem Sy{o i:Expr}{d ty:TE}(R:X.A.units+64<cLine)(G:PE X o d)(J:PE X i ty)(D:wI i):PE X (.Subscript o i pos) (Pr X.K d ty):=by
 intro f s σ H Q I h;show J7 PySem.F.slot_dict_getitem.lookup D (cQ (G f s σ H _ I h) λu s1 c=>?_);obtain⟨x,H1,I1,l,q⟩:=c;show cQ (J f s1 σ H1 _ I1 q) λz s2 c=>?_
 obtain⟨y,O,I2,j,a,b,kvs,bs,k,v,ex,L,ha,hb,C,n⟩:=c;subst ex L;obtain rfl:u=Value.ref a:=l;obtain rfl:z=Value.ref b:=j;obtain⟨_,hd,xs,_,rel,e⟩:=Bx I2.cH ha;obtain⟨its,m,⟨r,g1,N,t,M⟩,_⟩:=I2.tuple hb;have key:(tupleKind (jY X.prog X.w)).is s2.heap k b:=⟨r,its.toArray,t,g1,N,M,by simpa using Fm m⟩
 obtain⟨P,hw,B⟩:=jR.some_of (v:=v) (o:=(atKey xs k).map (·.2)) (by rw[<-C];show rel.val k);obtain⟨p,E,g⟩:=bA.mp hw;show⟨e.typeIs,wpAny_getItem_heap (tupleKind_room_in1 (by show X.A.units+1<cLine;ext)) key e E ?_⟩;rw[g];show⟨v,O,I2.tok _,B,n⟩
noncomputable def yr(kvs:List (List Key×D))(k:List Key):Option D:=(kvs.find? λa=>decide (a.1=k)).map (·.2)
def D2(te ti:TD):TD:=λa Q=>te a λr=>ti a λrk=>match r.val,rk.val with
 | .dit kvs,.tup b=>∃k d,sh b=some k/\yr kvs k=some d/\Q (.fz d)
 | _,_=>False
theorem dH.look{K:J'}{G:Hp}{k:List Key}{d:D}:∀{ks:List (List Key×V)}{kvs:List (List Key×D)},dH K G ks kvs->yr kvs k=some d->∃v,jg ks k=some v/\Rep K G v d
 | [],[],_,e=>by simp[yr] at e
 | a::ks,b::kvs,h,e=>by
  simp only[dH] at h;unfold yr at e;unfold jg;rw[ba] at e ⊢;rw[h.1.1];by_cases hk:b.1=k
  .simp only[hk,decide_true,aJ,aA] at e ⊢;subst e;show⟨_,rfl,h.1.2⟩
  simp only[hk,bU] at e ⊢;show dH.look h.2 e
 | [],_::_,h,_=>by simp only[dH] at h
 | _::_,[],h,_=>by simp only[dH] at h
theorem RG(K:X.A.units+64<cLine)(R:PD X e te)(O:PD X i' ti)(L:wI i':=by intro _ _;rfl):PD X (.Subscript e i' pos) (D2 te ti):=by
 obtain⟨t,p,q⟩:=R;obtain⟨Z,F,D⟩:=O;show⟨_,Sy K p F L,λl σ o n G H Q P E h k=>q l σ o n G H _ _ E h λv H1 r G1 y C M=>?_⟩;obtain⟨W,m,i,_⟩:=C.freeze y;show D l σ o n W H1 _ _ (E.ext m) M λu U rk G3 x I f=>?_
 obtain⟨V,c,j,_⟩:=I.freeze x;split at f
 .rename_i kvs es T S;obtain⟨key,d,hk,N,f⟩:=f;rw[T] at i;rw[S] at j;simp only[Rep] at i j;obtain⟨a,ks,bs,rfl,ha,Y,z⟩:=i;obtain⟨b,ys,rfl,hb,B⟩:=j;obtain⟨w,hw,J⟩:=(dH.mono c.g _ _ z).look N;show⟨a,b,ks,bs,key,w,rfl,rfl,.inl (c.s _ _ (c.g _ _ ha)),by rw[<-Fj B hk];show c.s.j4 hb,hw,k w U (.fz d) V (m.trans c) J f⟩
 show f.elim
end
section
variable{K:J'}{G0 H0 G H G' H' G2 H2:Hp}{ρ:Ev}{σ:St}{v:V}
theorem cP.unset{i:Nat}{u:Option V}(E:cP K G0 H0 ρ σ G H):cP K G0 H0 (ρ.set i .un) (σ.set i u) G H:=by
 have a:∀j s,gt (ρ.set i .un) j=s->s≠.un->i≠j/\gt ρ j=s:=λj s e f=>by
  rw[o9] at e;by_cases h:i=j/\j<ρ.length
  .rw[if_pos h] at e;show absurd e.symm f
  rw[if_neg h] at e;show⟨λz=>h ⟨z,u9 e f⟩,e⟩
 have ss:∀j,i≠j->(σ.set i u)[j]?=σ[j]?:=λj h=>by rw[bC,if_neg h]
 obtain⟨own,m,l⟩:=E.on;show⟨E.e,by simp[E.len],λj d h=>?_,λj ds h=>?_,λj k ds t r c b=>?_,own,λj ds p h g=>?_,λj o h=>?_⟩
 .obtain⟨n,h⟩:=a j _ h (by simp);rw[ss j n];show E.fz j d h
 .obtain⟨n,h⟩:=a j _ h (by simp);rw[ss j n];show E.ow j ds h
 .obtain⟨n,c⟩:=a j _ c (by simp);obtain⟨q,b⟩:=a k _ b (by simp);rw[ss j n,ss k q];show E.dj j k ds t r c b
 .obtain⟨n,h⟩:=a j _ h (by simp);rw[ss j n] at g;show m j ds p h g
 obtain⟨n,h⟩:=a j _ h (by simp);rw[ss j n];show l j o h
end
noncomputable def oU(f:List D->Bool)(l:List (Addr×List D)):List V:=(l.filter λp=>f p.2).map λp=>.ref p.1
theorem LP(f:List D->Bool):∀(fp:List Addr)(dss:List (List D))(j:Nat),fp.length=dss.length->dss.findIdx? f=some j->∃q,fp[j]?=some q/\(oU f (fp.zip dss))[0]?=some (.ref q)
 | [],[],j,_,h=>by simp at h
 | q::fp,ds::dss,j,a,h=>by
  rw[List.findIdx?_cons] at h;by_cases hf:f ds=true
  .rw[if_pos hf] at h;cases h;show⟨q,rfl,by simp[oU,hf]⟩
  rw[if_neg hf] at h;obtain⟨k,hk,rfl⟩:=bA.mp h;obtain⟨r,c,b⟩:=LP f fp dss k (by simpa using a) hk;show⟨r,by simpa using c,by simpa[oU,hf] using b⟩
 | [],_::_,_,a,_=>by simp at a
 | _::_,[],_,a,_=>by simp at a
theorem FK(f:List D->Bool):∀dss:List (List D),(dss.findIdx? f=none↔dss.filter f=[])
 | []=>by simp
 | ds::dss=>by
  rw[List.findIdx?_cons];by_cases hf:f ds=true
  .simp[hf]
  simp only[hf,ar,aU,Option.map_eq_none_iff,List.filter_cons];show FK f dss
section
variable{X:Cx}{pos:Pos}{scope:Scope}{N':List Str}{m:List (Option Nat)}
theorem S2{iS:Nat}{tc:gX}{L:mO TT}{f:List D->Bool}(hm:m[0]?=some none)
  (q3:∀s3 H3 ex (l:Ev) (u:St) (S O G H:Hp) (Q:Bool->Prop) (P:Bool->Hp->Prop),cP X.K S O l u G H->tc l Q->(∀b H' c,Ext G H c H'->Q b->P b H')->L s3 H3 ex u H P)
  {l:Ev} {u:St} {S O G H:Hp} {P:VK} {a:Addr} {fp:List Addr} {dss:List (List D)} (E:cP X.K S O l u G H) (CV:u[iS]?=some (some (.ref a))) (hH:H a=some (.lst (fp.map V.ref))) (hr:Rep X.K G (.ref a) (.lst (dss.map .lst)))
  (hl:fp.length=dss.length) (hz:dss.length<=sizeLine) (hf:∀ds∈dss,tc ((c9 m l).set 0 (.fz (.lst ds))) λb=>b=f ds)
  (k:∀D H' c,Ext G H c H'->H D=none->c D=none->H' D=some (.lst (oU f (fp.zip dss)))->bY X.K c (oU f (fp.zip dss)) ((dss.filter f).map .lst)->P (.ref D) H') :
  uZ (IB X.K (uV iS)) m (λ_ _ _=>u3 0) L (λ_ _ _=>uV 0) u H P:=by
 simp only[Rep] at hr;obtain⟨a',ys,e0,Ha,Yj⟩:=hr;cases e0;show⟨_,CV,.inl ⟨a,rfl,⟨_,(E.e.s.fW Ha).sq⟩,?_⟩⟩;have U:=Lz Ha Yj;intro D C s3 ex;have wj:G D=none:=E.e.s.free C;have x:∀{i:Nat}{p:List L2.D},gt (c9 m l) i=.ow p->False:=λ{i p} h=>by
  unfold c9 at h;rw[k8] at h;split at h
  .rename_i o _;unfold mx at h;split at h
   .cases h
   split at h<;>cases h
  cases h
 have j6:∀{i:Nat}{o:OV},gt (c9 m l) i=.ov o->False:=λ{i o} h=>by
  unfold c9 at h;rw[k8] at h;split at h
  .rename_i o _;unfold mx at h;split at h
   .cases h
   split at h<;>cases h
  cases h
 have k7:cP X.K G H (c9 m l) (lY m u) G (upd H D (.lst [])):=by
  show⟨.own E.e.s C,by simp[lY,c9],λi d h=>?_,λi p h=>(x h).elim,λi j p fs _ h=>(x h).elim,λ_=>none,λi p _ h=>(x h).elim,λi o h=>(j6 h).elim⟩;unfold c9 at h;rw[k8] at h;split at h
  .rename_i o ho;unfold mx at h;split at h
   .cases h
   rename_i j;split at h
   .rename_i d' qR;cases h;obtain⟨v,hv,B⟩:=E.fz j d qR;show⟨v,?_,B⟩;unfold lY;rw[ao,ho];simp[hv]
   cases h
  cases h
 have lm:0<(c9 m l).length:=by
  unfold c9;rw[af];show(ah.mp hm).1
 have Yy:(dss.map L2.D.lst).length=dss.length:=by simp
 show⟨λi n y H'=>n=dss.length-i/\i<=dss.length/\∃xs c,cP X.K G H (c9 m l) y c H'/\H' D=some (.lst xs)/\c D=none/\bY X.K c xs (((dss.take i).filter f).map .lst)/\xs=oU f ((fp.zip dss).take i),
  ⟨dss.length,by simp,bc _,[],G,k7,eT,wj,by simpa using bY.nil,by simp[oU]⟩,?_⟩
 rintro i n y H' ⟨rfl,hi,xs,c,t,N,Y,A,z⟩;by_cases I:i<dss.length
 .obtain⟨w1,w2⟩:=U;have kT:(dss.map L2.D.lst)[i]?=some (.lst dss[i]):=by rw[ao,ag I];rfl
  obtain⟨go,yl⟩:=w1 i _ c H' kT t.e.g t.e.s;show .inr ⟨go,λjw q=>∃xs c,cP X.K G H (c9 m l) jw c q/\q D=some (.lst xs)/\c D=none/\bY X.K c xs (((dss.take (i+1)).filter f).map .lst)/\xs=oU f ((fp.zip dss).take (i+1)),λjw q h2=>⟨dss.length-(i+1),by ext,rfl,I,h2⟩,λv q hy=>?_⟩;have ev:v=.ref (fp[i]'(by ext)):=by
   have:=hy.2 _ (eh.of (t.e.h _ _ hH));rw[ao,ag (by ext)] at this;cases this;rfl
  obtain⟨G2,T,B⟩:=yl v q hy;have E2:=t.ext T;show L s3 _ ex (y.set 0 (some v)) q _;have E3:cP X.K G H ((c9 m l).set 0 (.fz (.lst dss[i]))) (y.set 0 (some v)) G2 q:=E2.put (.refl E2.e.s) (r:=.fz (.lst dss[i])) B;show q3 _ _ _ _ _ G H G2 q _ _ E3 (hf dss[i] (bJ I)) λb H4 R J mI=>?_
  have F:=T.trans J;have weak:∀j,gt (c9 m l) j=.un\/gt (c9 m l) j=gt ((c9 m l).set 0 (.fz (.lst dss[i]))) j:=λj=>by
   cases j with
   | zero=>left;unfold c9;rw[k8,hm];rfl
   | succ j=>right;rw[o9,if_neg (by ext)]
  have w:=(E3.ext J).weak (ρ':=c9 m l) (by simp) weak;have Z:H4 D=some (.lst xs):=F.h _ _ N;have M:R D=none:=F.n D Y (by rw[N];show nofun);have tz:(fp.zip dss).take (i+1)=(fp.zip dss).take i++[(fp[i]'(by ext),dss[i])]:=by
   rw[aQ,ag (by rw[List.length_zip];ext),List.getElem_zip];rfl
  have W:dss.take (i+1)=dss.take i++[dss[i]]:=by rw[aQ,ag I];rfl
  subst mI;cases hb:f dss[i] with
  | false=>
   rw[if_neg aD];show⟨xs,R,w,Z,M,by rw[W,List.filter_append];simpa[hb] using A.mono F.g,by rw[tz,z];simp[oU,hb]⟩
  | true=>
   rw[if_pos rfl];have l0:0<y.length:=by rw[t.len];show lm
   show⟨v,by rw[bC,if_pos rfl,if_pos l0],xs,Z,?_,xs++[v],R,?_,eT,M,?_,?_⟩
   .rw[z];unfold oU;rw[af];show Nat.lt_of_le_of_lt (bN _ _) ?_;rw[aO,List.length_zip];ext
   .refine⟨⟨w.e.g,λb o e=>by rw[cL (iu e C)];show w.e.h b o e,λb o e=>by rw[cL (iu e M)];show w.e.s b o e,w.e.n⟩,w.len,w.fz,λi p h=>(x h).elim,λi j p fs _ h=>(x h).elim,λ_=>none,λi p _ h=>(x h).elim,λi o h=>(j6 h).elim⟩
   .rw[W,List.filter_append,aI];show(A.mono F.g).append ?_;simpa[hb] using bY.cons (B.mono J.g) bY.nil
   rw[tz,z,ev];simp[oU,hb]
 have e:i=dss.length:=by ext
 subst e;have tz:(fp.zip dss).take dss.length=fp.zip dss:=bK (by rw[List.length_zip];ext);rw[tz] at z;rw[bo] at A;subst z;show .inl ⟨by have:=U.2 c H' t.e.g t.e.s;rwa [Yy] at this,k D H' c t.e C Y N A⟩
def DG(c e g:Nat)(m:List (Option Nat))(tc i:gX)(h:TX):TX:=λD a=>c<a.length/\c≠e/\c≠g/\match gt a e,gt a g with
 | .ov (.ll dss),.fz d=>dss.length<=sizeLine/\∃f:List L2.D->Bool,(∀ds∈dss,tc ((c9 m (a.set e (.fz (.lst (dss.map .lst))))).set 0 (.fz (.lst ds))) λb=>b=f ds)/\
   i ((a.set e (.fz (.lst (dss.map .lst)))).set c (.ow ((dss.filter f).map .lst))) (λb=>b=true↔dss.filter f=[])/\
   (dss.findIdx? f=none->h D (a.set c .un))/\
   ∀j ds,dss.findIdx? f=some j->dss[j]?=some ds->ds.length<sizeLine/\D.nx ((a.set c .un).set e (.ov (.ll (dss.set j (ds++[d])))))
 | _,_=>False
theorem RF(s i W:Nat){x y z t:Str}{c:Expr}{n:List Expr}{ab:List Stmt}{tc sI:gX}{v:TX}{Z:Nat}{V U T S R Q p7 p8 A l f7 Gn Gp:Pos}(hc:X.calm=true)(cs:cD X N' m scope)
  (ht:∀s3 e ex,tI (gH X N' scope s3 e ex) n tc) (lB:PB X c sI) (kW:kX X ab v)
  (GS:∀s3 e ex,PG (gH X N' scope s3 e ex) (.Name t U) (u3 0)) (YX:∀s3 e ex,PE (gH X N' scope s3 e ex) (.Name t V) (uV 0))
  (hm:m[0]?=some none:=by rfl) (hN:X.N.Nodup:=by assumption) (mL:X.N[s]?=some x:=by rfl) (hx:Loc X.env.scope x:=by first | show Or.inl rfl | show Or.inr rfl)
  (hs:∀u,foldedSetIterable (.Name y T) X.env u=pure u:=by intro _;rfl)
  (oG:swapsWith (.ListComp (.Name t V) [⟨.Name t U,.Name y T,n,0⟩] scope pos) (some (.Name x l)) f7.line X.env=pure true:=by rfl)
  (hf:X.fn x=true\/X.env.scope.names.lookup x=some .local:=by first | show .inl rfl | show .inr rfl | assumption)
  (Zh:X.N[i]?=some y:=by rfl) (X4:hZ X.env.scope y:=by first | show Or.inl rfl | show Or.inr (Or.inl rfl) | show Or.inr (Or.inr rfl)) (Y0:(y==("__debug__":Str))=false:=by decide) (HK:(y==("__classdict__":Str))=false:=by decide)
  (Zg:X.N[W]?=some z:=by rfl) (X3:hZ X.env.scope z:=by first | show Or.inl rfl | show Or.inr (Or.inl rfl) | show Or.inr (Or.inr rfl)) (YZ:(z==("__debug__":Str))=false:=by decide) (HJ:(z==("__classdict__":Str))=false:=by decide)
  (X5:hZ X.env.scope x:=by first | show Or.inl rfl | show Or.inr (Or.inl rfl) | show Or.inr (Or.inr rfl)) (tu:(x==("__debug__":Str))=false:=by decide) (HL:(x==("__classdict__":Str))=false:=by decide)
  (d0:starEach [.Name z A] X.env=(false,eval (.Name z A) X.env)::starEach [] X.env:=by rfl)
  (hb:∀{v:TE}{u:TA},PE X (.Subscript (.Name x S) (.Constant (.int 0) Z R) Q) v->PA X [.Name z A] u->PE X (.Call (.Attribute (.Subscript (.Name x S) (.Constant (.int 0) Z R) Q) "append" p7) [.Name z A] [] p8) (vz X.K "list" vo v u):=by intro v t h1 h2;show wO bQ PySem.F.slot_list_append PySem.F.type_list_append xk h1 h2) :
  kX X [.Assign [.Name x l] (.ListComp (.Name t V) [⟨.Name t U,.Name y T,n,0⟩] scope pos) f7,.If c ab [.Expr (.Call (.Attribute (.Subscript (.Name x S) (.Constant (.int 0) Z R) Q) "append" p7) [.Name z A] [] p8) Gp] Gn] (DG s i W m tc sI v):=by
 obtain⟨t0,p0,q0⟩:=lB;obtain⟨t1,pa,qa⟩:=kW;show⟨_,yS (xf (g:=λ_ _ _=>u3 0) (tc:=λs3 e ex=>(ht s3 e ex).choose) (te:=λ_ _ _=>uV 0) hN mL hx hc cs (Jr (iK Zh X4 Y0 HK)) GS (λs3 e ex=>(ht s3 e ex).choose_spec.1) YX hs oG hf)
  (yJ (DW p0 pa (yJ (tX (hb (tM i7 (iK mL X5 tu HL) BY (λ_ _=>rfl)) (ie (iK Zg X3 YZ HJ) kl d0)))))),λw σ J I G H D E k h g=>?_⟩
 obtain⟨eE,vZ,Ap,h⟩:=h;split at h
 .rename_i dss d P YK;obtain⟨hz,f,YQ,YO,YN,YM⟩:=h;obtain⟨own,o1,o2⟩:=k.on;obtain⟨a,fp,b1,b2,⟨ha,C⟩,b4⟩:=o2 i _ P;have ZF:iH i w=w.set i (.fz (.lst (dss.map .lst))):=by unfold iH;rw[P];rfl
  have Df:i<w.length:=u9 P (by simp);obtain⟨L,hL,M,_⟩:=k.ja i;rw[ZF] at M;obtain⟨va,ME,Xq⟩:=M.fz i (.lst (dss.map .lst)) (by rw[o9,if_pos ⟨rfl,Df⟩]);rw[b1] at ME;cases ME;unfold DM yj;show S2 (f:=f) (dss:=dss) (fp:=fp) hm (λs3 e ex=>(ht s3 e ex).choose_spec.2) M b1 ha Xq C.length hz YQ λO H1 G1 x1 hD Zl Nk Yk=>?_
  have E2:cP X.K J I ((w.set i (.fz (.lst (dss.map .lst)))).set s (.ow ((dss.filter f).map .lst))) (σ.set s (some (.ref O))) G1 H1:=M.put x1 (r:=.ow ((dss.filter f).map .lst)) ⟨O,_,rfl,hD,Zl,Nk,Yk⟩;show q0 _ _ J I G1 H1 _ _ E2 YO λb e G3 x3 cS=>?_
  have mF:=x1.trans x3;have xL:=Cf hL mF;have kk:cP X.K J I (w.set s .un) (σ.set s (some (.ref O))) (less G3 L) e:=(k.ext xL).unset;cases b with
  | true=>
   rw[if_pos rfl];show qa _ _ J I _ e D E kk (YN ((FK f dss).mpr (cS.mp rfl))) (g.shift xL.g)
  | false=>
   rw[if_neg aD];cases Y:dss.findIdx? f with
   | none=>show absurd (cS.mpr ((FK f dss).mp Y)) aD
   | some j=>
    obtain⟨Gk,B,sW⟩:=LP f fp dss j C.length Y;have tq:j<dss.length:=by rw[<-C.length];show(ah.mp B).1
    obtain⟨hsz,Ys⟩:=YM j dss[j] Y (ag tq);obtain⟨qb,xs,c1,c2,c3⟩:=C.get (ag tq);rw[B] at c1;cases c1;have Ho:s<σ.length:=by rw[k.len];show eE
    obtain⟨vn,X6,Xp⟩:=k.fz W d YK;have kU:di (oU f (fp.zip dss)) 0=some (.ref Gk):=Q0 (j:=0) sW;show⟨_,by rw[bC,if_pos rfl,if_pos Ho],O,_,0,_,rfl,rfl,eh.of (x3.h _ _ Nk),kU,.inl ⟨rfl,xs,eh.of (xL.h _ _ c2)⟩,vn,by rw[bC,if_neg Ap];show X6,?_⟩;show⟨Gk,xs,vn,rfl,rfl,xL.h _ _ c2,by rw[c3.length];show hsz,?_⟩;show g.nx _ _ (less G3 L) _ xL.g (kk.fb (o:=.ll dss) (by rw[o9,if_neg (λz=>vZ z.1)];show P) (p:=a) (by rw[bC,if_neg vZ];show b1) λg9 nd ow=>?_) Ys;obtain⟨ni,lx⟩:=ow;have e3:g9=fp:=by
     have:=(xL.h _ _ ha).symm.trans ni;injection this with this
     injection this with this
     show((List.map_inj_right λa b h=>by cases h;rfl).mp this).symm
    subst e3;have jq:=aH.mp nd;show⟨g9,nd,⟨?_,lx.set ((c3.mono xL.g).append (bY.cons (Xp.mono xL.g) bY.nil)) jq.2 B⟩,λq hq=>.inl hq,λb hb _=>cL λz=>hb (by rw[z];show ax _ (aw B))⟩;rw[cL (λz:a=Gk=>jq.1 (z▸aw B))];show ni
 show h.elim
def D0:TD:=λ_ Q=>Q (.ov (.ll []))
theorem RE{e:Expr}(h:PD X e (og cC)):PD X e D0:=by
 obtain⟨tt,p,q⟩:=h;show⟨tt,p,λb σ l j G H Q P E h k=>q b σ l j G H (λr=>r=.ow []) _ E ⟨by decide,rfl⟩ λv H' r m x c a=>?_⟩;subst a;obtain⟨p,xs,rfl,i,g,f,d⟩:=c;cases xs with
 | cons=>simp only[bY] at d
 | nil=>show k _ H' (.ov (.ll [])) m x ⟨p,[],rfl,by simp,⟨f,by simp only[cy]⟩,λq a=>by simp at a;subst a;show⟨i,g⟩⟩ h
def BK(i:Nat)(te:TD):TX:=λD a=>match gt a i with
 | .ov (.ll dss)=>te a λr=>match r with
  | .ow ds=>dss.length<sizeLine/\D.nx (a.set i (.ov (.ll (dss++[ds]))))
  | _=>False
 | _=>False
theorem RD(i:Nat){x:Str}{e:Expr}{te:TD}{o J j:Pos}(Y:PD X e te)(hN:X.N[i]?=some x:=by rfl)(U:hZ X.env.scope x:=by first | show Or.inl rfl | show Or.inr (Or.inl rfl) | show Or.inr (Or.inr rfl))(hd:(x==("__debug__":Str))=false:=by decide)
  (eX:(x==("__classdict__":Str))=false:=by decide) (d0:starEach [e] X.env=(false,eval e X.env)::starEach [] X.env:=by rfl)
  (hb:∀{m:TE}{t:TA},PE X (.Name x o) m->PA X [e] t->PE X (.Call (.Attribute (.Name x o) "append" J) [e] [] j) (vz X.K "list" vo m t):=by intro m t h1 Z;show wO bQ PySem.F.slot_list_append PySem.F.type_list_append xk h1 Z) :
  PX X (.Expr (.Call (.Attribute (.Name x o) "append" J) [e] [] j) pos) (BK i te):=by
 obtain⟨t,p,q⟩:=Y;show⟨_,tX (hb (iK hN U hd eX) (ie p kl d0)),λQ σ G0 H0 G H D E k h g=>?_⟩;unfold BK at h;split at h
 .rename_i dss hg;obtain⟨own,o1,S⟩:=k.on;obtain⟨a,fp,L,b2,⟨ha,A⟩,b4⟩:=S i _ hg;show⟨_,L,.inl ⟨rfl,_,eh.of ha⟩,?_⟩;show q Q σ G0 H0 G H _ _ k h λv H' r P d R c=>?_
  split at c
  .rename_i ds;obtain⟨f,xs,rfl,l,c2,c3,c4⟩:=R;have M:f≠a:=λz=>by rw[z,ha] at l;cases l
   show⟨a,fp.map V.ref,.ref f,rfl,rfl,d.h _ _ ha,by rw[af,A.length];show c.1,?_⟩;let O:Hp:=λb=>if b=f then none else H' b
   have C:∀b,b≠f->O b=H' b:=λb h=>if_neg h
   have I:Ext G H P O:=⟨d.g,λb u e=>by rw[C b (iu e l)];show d.h b u e,λb u e=>by rw[C b (iu e c2)];show d.s b u e,d.n⟩
   show g.nx _ _ P _ d.g ((k.ext I).fb hg L λB nd ow=>?_) c.2;obtain⟨T,lx⟩:=ow;have e3:B=fp:=by
    have:=(I.h _ _ ha).symm.trans T;injection this with this
    injection this with this
    show((List.map_inj_right λa b h=>by cases h;rfl).mp this).symm
   subst e3;have y:=aH.mp nd;have Yt:f∉B:=λz=>A.here f z l
   show⟨B++[f],?_,⟨by rw[eT];simp,cy.snoc (A.mono d.g λq c zs e=>?_) (by rw[cL M];show c3) c4⟩,λq c=>?_,λb hb M8=>?_⟩
   .rw[aH,bH];show⟨λz=>?_,y.2,by simp,λu W w hw=>?_⟩
    .rcases aC.mp z with z | z
     .exact y.1 z
     simp at z;show M z.symm
    simp at hw;subst hw;show λz=>Yt (z▸W)
   .rw[cL (λz:q=a=>y.1 (z▸c))];show d.h _ _ e
   .rcases aj.mp c with rfl | c
    .exact .inl (by simp)
    rcases aC.mp c with c | c
    .exact .inl (by simp[c])
    simp at c;subst c;show .inr (if_pos rfl)
   have Y6:b≠f:=λz=>M8 (by rw[z];show if_pos rfl)
   rw[cL (λz=>hb (by simp[z])),C b Y6]
  show c.elim
 show h.elim
end
end L2
namespace PySem
open Sem (wp)
def StopAt (h : Heap) (e : Addr) : Prop := ∃ o, h.get? e = some o ∧ o.cls = .type "StopIteration"
def Grown (h h' : Heap) : Prop := ∀ c o, h.get? c = some o → h'.get? c = some o
section
variable {prog : Program} {w : World} {A : Around} {E : Value → Shared → Prop} {s : Shared}
theorem wpAny_stop {α : Type} {M : Model} {Q : α → Shared → Prop} (hh : A.handled = none) (hE : ∀ h' e, Grown s.heap h' → StopAt h' e → E (.ref e) { s with heap := h' }) : wpAny M A (Builtin.SmallTypes.stopIteration : Sem α) Q E s := by
  refine wpAny_bind (wpAny_bind (wpAny_newObj_type ?_ (by size_fits)))
  refine wpAny_bind (wpAny_of_eq (a := Value.none) (by simp only [firstArgMember]; rfl) (wpAny_newObj_type ?_ (by size_fits)))
  exact wpAny_raiseNew_none hh (hE _ _ (fun c o e => Heap.get?_push_of_some _ (Heap.get?_push_of_some _ e)) ⟨_, Heap.get?_push_size _ rfl, rfl⟩)
theorem tup_next {it t : Addr} {i : Nat} {items : Array Value} {Q : Value → Shared → Prop} (hh : items[i]? = none → A.handled = none) (hit : s.heap.IsTupleIter it t i) (ht : s.heap.IsTuple t items)
    (hQ : ∀ x h', items[i]? = some x → h'.IsTupleIter it t (i + 1) → Heap.ExtBut it s.heap h' → h'.objs.size = s.heap.objs.size → Q x { s with heap := h' })
    (hE : ∀ h' e, items[i]? = none → Heap.ExtBut it s.heap h' → StopAt h' e → E (.ref e) { s with heap := h' }) :
    wpAny (model prog w) A (Builtin.SmallTypes.nextOf (.ref it)) Q E s := by
  obtain ⟨o, ho, hc, hd⟩ := id hit
  obtain ⟨ol, hol, _, nl, hdl⟩ := ht
  refine wpAny_bind (wpAny_callSpecial?_slot (name := Str.ofString "__next__") hit.typeIs F.slot_tuple_iterator_next
    (wpAny_call_entry F.slot_tuple_iterator_next hit.typeIs F.entry_tuple_iterator_next ?_ (F.args_tuple_iterator_next_1 _)))
  refine wpAny_bind (wpAny_of_eq rfl (wpAny_bind (wpAny_field ho hd rfl ?_)))
  refine wpAny_bind (wpAny_field ho hd rfl (wpAny_bind (wpAny_seqItems hol hdl ?_)))
  simp only [Int.toNat_natCast]
  cases hx : items[i]? with
  | some x =>
    refine wpAny_bind (wpAny_setField ho hd (by exact Nat.le_refl _) (wpAny_pure ⟨x, rfl, wpAny_pure (hQ x _ hx ⟨_, Heap.get?_update_self _ ho (Obj.isFreed_of_fields (Obj.data_mapFields hd _)), (Obj.cls_mapFields ..).trans hc, ?_⟩ (Heap.SameBut.update ..).extBut (Heap.SameBut.update ..).1)⟩))
    rw [Obj.data_mapFields hd]
    rfl
  | none =>
    refine wpAny_bind (wpAny_rule (wpAny_bind (wpAny_setField ho hd (by exact Nat.le_succ _) ?_)))
    exact wpAny_stop (hh hx) fun h' e k q => hE h' e hx (fun c o hc q => k c o ((Heap.SameBut.update ..).extBut c o hc q)) q
theorem Heap.IsTupleIter.at' {h h' : Heap} {it t : Addr} {i : Nat} (x : h.IsTupleIter it t i) (k : ∀ o, h.get? it = some o → h'.get? it = some o) : h'.IsTupleIter it t i := let ⟨o, a, b⟩ := x; ⟨o, k o a, b⟩
theorem Heap.IsTuple.at' {h h' : Heap} {t : Addr} {xs : Array Value} (x : h.IsTuple t xs) (k : ∀ o, h.get? t = some o → h'.get? t = some o) : h'.IsTuple t xs := let ⟨o, a, b⟩ := x; ⟨o, k o a, b⟩
def Els (z T i j : Addr) (h h' : Heap) : Prop := ∀ c o, c ≠ z → c ≠ T → c ≠ i → c ≠ j → h.get? c = some o → h'.get? c = some o
theorem zip_turn {z TI TO i1 i2 l1 l2 : Addr} {k : Nat} {xs ys : Array Value} {a b : Value} {Q : Value → Shared → Prop} (hh : xs[k]? = none ∨ ys[k]? = none → A.handled = none) (D : ZipApart z TI TO i1 i2 l1 l2)
    (hz : IsZip s.heap z TI TO .none) (hTI : IsPair s.heap TI (.ref i1) (.ref i2)) (hTO : IsPair s.heap TO a b)
    (h1 : s.heap.IsTupleIter i1 l1 k) (h2 : s.heap.IsTupleIter i2 l2 k) (hl1 : s.heap.IsTuple l1 xs) (hl2 : s.heap.IsTuple l2 ys)
    (hQ : ∀ h' x y, xs[k]? = some x → ys[k]? = some y → IsZip h' z TI TO (rawInt s.heap.objs.size) → IsPair h' TO x y → h'.IsTupleIter i1 l1 (k + 1) → h'.IsTupleIter i2 l2 (k + 1) →
      IsPair h' s.heap.objs.size x y → Els z TO i1 i2 s.heap h' → Q (.ref s.heap.objs.size) { s with heap := h' })
    (hE : ∀ h' e, (xs[k]? = none ∨ ys[k]? = none) → Els z TO i1 i2 s.heap h' → StopAt h' e → E (.ref e) { s with heap := h' }) :
    wpAny (model prog w) A (Builtin.«zip.__next__» ⟨[.ref z], []⟩) (fun fin s' => ∃ v, fin = .done (.ret v) ∧ Q v s') E s := by
  refine wpAny_bind (wpAny_of_eq rfl (wpAny_bind (wpAny_field hz rfl rfl (wpAny_bind (wpAny_field hz rfl rfl (wpAny_bind (wpAny_seqItems hTI rfl ?_)))))))
  refine wpAny_bind (wpAny_bind (wpAny_field hz rfl rfl (wpAny_pure (wpAny_bind (wpAny_rule (wpAny_bind (wpAny_field hz rfl rfl ?_)))))))
  refine wpAny_bind (wpAny_setField_rec hz (by exact Nat.succ_pos _) fun g1 z1 c1 => wpAny_bind ?_)
  replace z1 : IsZip g1 z TI TO .ellipsis := z1
  have off : ∀ (g : Heap) (e : Addr), IsZip g z TI TO .ellipsis → Els z TO i1 i2 s.heap g → StopAt g e → (xs[k]? = none ∨ ys[k]? = none) → wpAny (model prog w) A (setField (.ref z) 0 Value.none) (fun _ s' => E (.ref e) s') E { s with heap := g } := by
    intro g e hg kg st d
    refine wpAny_setField_rec hg (by exact Nat.succ_pos _) fun g' _ cg => hE g' e d (fun c o a1 a2 a3 a4 q => cg.extBut c o a1 (kg c o a1 a2 a3 a4 q)) ?_
    obtain ⟨o, p, q⟩ := st
    exact ⟨o, cg.extBut _ _ (fun x => by subst x; rw [hg] at p; cases p; simp at q) p, q⟩
  have k1 : Els z TO i1 i2 s.heap g1 := fun c o a1 _ _ _ q => c1.extBut c o a1 q
  simp only [List.zipIdx_cons, List.zipIdx_nil, List.forIn_cons, List.forIn_nil]
  refine wpAny_bind (wpAny_bind (wpAny_onRaise ?_))
  refine wpAny_bind (tup_next (fun e => hh (.inl e)) (h1.at' fun o => c1.extBut _ o D.i1z) (hl1.at' fun o => c1.extBut _ o D.l1z) (fun x g2 hx i1' c2 n2 => wpAny_pure ?_) fun g2 e hx c2 st => off g2 e (c2 _ _ D.i1z.symm z1) (fun c o a1 a2 a3 a4 q => c2 c o a3 (k1 c o a1 a2 a3 a4 q)) st (.inl hx))
  have k2 : Els z TO i1 i2 s.heap g2 := fun c o a1 a2 a3 a4 q => c2 c o a3 (k1 c o a1 a2 a3 a4 q)
  have t2 : IsPair g2 TO a b := c2 _ _ D.TOi1 (c1.extBut _ _ D.TOz hTO)
  refine wpAny_bind (wpAny_seqItems t2 rfl (wpAny_bind (wpAny_updateSeq_pair t2 fun g3 t3 c3 => wpAny_bind (wpAny_letGo (wpAny_pure ?_)))))
  replace t3 : IsPair g3 TO x b := t3
  have k3 : Els z TO i1 i2 s.heap g3 := fun c o a1 a2 a3 a4 q => c3.extBut c o a2 (k2 c o a1 a2 a3 a4 q)
  have z3 : IsZip g3 z TI TO .ellipsis := c3.extBut _ _ D.TOz.symm (c2 _ _ D.i1z.symm z1)
  have i2' : ∀ o, s.heap.get? i2 = some o → g3.get? i2 = some o := fun o q => c3.extBut _ o D.TOi2.symm (c2 _ o D.i12.symm (c1.extBut _ o D.i2z q))
  refine wpAny_bind (wpAny_bind (wpAny_onRaise ?_))
  refine wpAny_bind (tup_next (fun e => hh (.inr e)) (h2.at' i2') (hl2.at' fun o => k3 _ o D.l2z D.l2TO D.l2i1 D.l2i2) (fun y g4 hy i2'' c4 n4 => wpAny_pure ?_) fun g4 e hy c4 st => off g4 e (c4 _ _ D.i2z.symm z3) (fun c o a1 a2 a3 a4 q => c4 c o a4 (k3 c o a1 a2 a3 a4 q)) st (.inr hy))
  have t4 : IsPair g4 TO x b := c4 _ _ D.TOi2 t3
  refine wpAny_bind (wpAny_seqItems t4 rfl (wpAny_bind (wpAny_updateSeq_pair t4 fun g5 t5 c5 => wpAny_bind (wpAny_letGo (wpAny_pure (wpAny_pure ?_))))))
  replace t5 : IsPair g5 TO x y := t5
  refine wpAny_bind (wpAny_seqItems t5 rfl (wpAny_bind (wpAny_newTuple (wpAny_bind ?_))))
  have n5 : g5.objs.size = s.heap.objs.size := by rw [c5.1, n4, c3.1, n2, c1.1]
  have z5 : IsZip g5 z TI TO .ellipsis := c5.extBut _ _ D.TOz.symm (c4 _ _ D.i2z.symm z3)
  have k5 : Els z TO i1 i2 s.heap g5 := fun c o a1 a2 a3 a4 q => c5.extBut c o a2 (c4 c o a4 (k3 c o a1 a2 a3 a4 q))
  have new : z ≠ g5.objs.size := Nat.ne_of_lt (Heap.lt_size z5)
  have z6 : IsZip (g5.push { cls := .type "tuple", data := .seq #[x, y] }) z TI TO .ellipsis := Heap.get?_push_of_some _ z5
  refine wpAny_bind (wpAny_setField_rec z6 (by exact Nat.succ_pos _) fun g7 z7 c7 => ?_)
  replace z7 : IsZip g7 z TI TO (rawInt g5.objs.size) := z7
  refine wpAny_setField_rec z7 (by simp) fun g8 z8 c8 => wpAny_pure ⟨_, rfl, ?_⟩
  have up : ∀ c o, c ≠ z → (g5.push { cls := .type "tuple", data := .seq #[x, y] }).get? c = some o → g8.get? c = some o := fun c o a q => c8.extBut c o a (c7.extBut c o a q)
  have dn : ∀ c o, c ≠ z → g5.get? c = some o → g8.get? c = some o := fun c o a q => up c o a (Heap.get?_push_of_some _ q)
  have T8 : IsPair g8 g5.objs.size x y := up _ _ new.symm (Heap.get?_push_size _ rfl)
  rw [n5] at z8 T8
  change Q (.ref g5.objs.size) _
  rw [n5]
  exact hQ g8 x y hx hy z8 (dn _ _ D.TOz t5) (i1'.at' fun o q => dn _ o D.i1z (c5.extBut _ o D.TOi1.symm (c4 _ o D.i12 (c3.extBut _ o D.TOi1.symm q)))) (i2''.at' fun o q => dn _ o D.i2z (c5.extBut _ o D.TOi2.symm q)) T8 fun c o a1 a2 a3 a4 q => dn c o a1 (k5 c o a1 a2 a3 a4 q)
theorem zip_asked {z TI TO i1 i2 l1 l2 : Addr} {k : Nat} {xs ys : Array Value} {a b : Value} {Q : Option Value → Shared → Prop} (hh : xs[k]? = none ∨ ys[k]? = none → A.handled = none) (D : ZipApart z TI TO i1 i2 l1 l2)
    (hz : IsZip s.heap z TI TO .none) (hTI : IsPair s.heap TI (.ref i1) (.ref i2)) (hTO : IsPair s.heap TO a b)
    (h1 : s.heap.IsTupleIter i1 l1 k) (h2 : s.heap.IsTupleIter i2 l2 k) (hl1 : s.heap.IsTuple l1 xs) (hl2 : s.heap.IsTuple l2 ys)
    (hQ : ∀ h' x y, xs[k]? = some x → ys[k]? = some y → IsZip h' z TI TO (rawInt s.heap.objs.size) → IsPair h' TO x y → h'.IsTupleIter i1 l1 (k + 1) → h'.IsTupleIter i2 l2 (k + 1) →
      IsPair h' s.heap.objs.size x y → Els z TO i1 i2 s.heap h' → Q (some (.ref s.heap.objs.size)) { s with heap := h' })
    (hE : ∀ h', (xs[k]? = none ∨ ys[k]? = none) → Els z TO i1 i2 s.heap h' → Q none { s with heap := h' }) : wpAny (model prog w) A (pyNext (.ref z)) Q E s := by
  have hT : s.TypeIs (.ref z) "zip" := ⟨_, hz, rfl⟩
  refine wpAny_bind (wpAny_attempt (wpAny_callSpecial?_slot (name := Str.ofString "__next__") hT F.slot_zip_next (wpAny_call_entry F.slot_zip_next hT F.entry_zip_next
    (zip_turn hh D hz hTI hTO h1 h2 hl1 hl2 (fun h' x y a1 a2 a3 a4 a5 a6 a7 a8 => wpAny_pure (hQ h' x y a1 a2 a3 a4 a5 a6 a7 a8)) fun h' e d kk q => ?_) (F.args_zip_next_1 _))))
  exact wpAny_bind (wpAny_isInstance (b := true) q isSubtype_stop (wpAny_pure (hE _ d kk)))
theorem grown_all (os : List Obj) : ∀ h : Heap, Grown h (os.foldl Heap.push h) := by
  induction os with
  | nil => exact fun h c o q => q
  | cons o os ih => exact fun h c o' q => ih _ c o' (Heap.get?_push_of_some _ q)
theorem got_all (os : List Obj) : ∀ (h : Heap) (i : Nat) (o : Obj), os[i]? = some o → o.isFreed = false → (os.foldl Heap.push h).get? (h.objs.size + i) = some o := by
  induction os with
  | nil => exact fun h i o e => by cases e
  | cons o' os ih =>
    intro h i o e f
    cases i with
    | zero => cases e; exact grown_all os _ _ _ (Heap.get?_push_size _ f)
    | succ i =>
      have := ih (h.push o') i o e f
      rw [Heap.size_push, Nat.add_right_comm] at this
      exact this
theorem zip_made {l1 l2 : Addr} {xs ys : Array Value} {Q : Value → Shared → Prop} (hl1 : s.heap.IsTuple l1 xs) (hl2 : s.heap.IsTuple l2 ys)
    (h : ∀ h' n, n = s.heap.objs.size → IsZip h' (n + 4) (n + 2) (n + 3) .none → IsPair h' (n + 2) (.ref n) (.ref (n + 1)) → IsPair h' (n + 3) .none .none → h'.IsTupleIter n l1 0 → h'.IsTupleIter (n + 1) l2 0 → Grown s.heap h' → Q (.ref (n + 4)) { s with heap := h' }) :
    wpAny (model prog w) A (call (.type "zip") [.ref l1, .ref l2]) Q E s := by
  let os (n : Nat) : List Obj := [{ cls := .type "tuple_iterator", data := .fields #[.ref l1, .int 0 0] }, { cls := .type "tuple_iterator", data := .fields #[.ref l2, .int 0 0] }, { cls := .type "tuple", data := .seq #[.ref n, .ref (n + 1)] },
    { cls := .type "tuple", data := .seq #[.none, .none] }, { cls := .type "zip", data := .fields #[.none, .bool false, .bool false, .ref (n + 2), .ref (n + 3)] }]
  let hp (n : Nat) (h : Heap) : Heap := (os n).foldl Heap.push h
  have M : Meets (Builtin.«zip.__new__» ⟨[.type "zip", .ref l1, .ref l2], []⟩) (fun _ R s => s.heap.IsTuple l1 xs ∧ s.heap.IsTuple l2 ys ∧ R (.ok (.ret (.ref (s.heap.objs.size + 4)))) { s with heap := hp s.heap.objs.size s.heap }) :=
    .of_wp fun prog w A R s q => by
      obtain ⟨h0, g, d, tk, os⟩ := s
      obtain ⟨q1, q2, q3⟩ := q
      have e1 : Heap.IsTuple (Shared.heap ⟨h0, g, d, tk, os⟩) l1 xs := q1
      have e2 : Heap.IsTuple (Shared.heap ⟨h0.push { cls := .type "tuple_iterator", data := .fields #[.ref l1, .int 0 0] }, g, d, tk, os⟩) l2 ys := Heap.IsTuple.push q2 _
      have hs := sub_zip
      wp_walk using wpAny_pyIter_tuple e1, wpAny_pyIter_tuple e2
      simp only [Heap.size_push]
      exact ⟨_, rfl, q3⟩
  refine callType_new F.called_zip (by rfl) (F.typeCall_zip_2 _ _) (F.newCall_zip_2 _ _) (fun obj => F.args_object_init_3 obj _ _) F.entry_zip_new M ⟨hl1, hl2, ?_⟩
  have at' : ∀ i o, (os s.heap.objs.size)[i]? = some o → o.isFreed = false → (hp s.heap.objs.size s.heap).get? (s.heap.objs.size + i) = some o := got_all _ _
  exact ⟨⟨_, at' 4 _ rfl rfl, rfl⟩, h _ _ rfl (at' 4 _ rfl rfl) (at' 2 _ rfl rfl) (at' 3 _ rfl rfl) ⟨_, at' 0 _ rfl rfl, rfl, rfl⟩ ⟨_, at' 1 _ rfl rfl, rfl, rfl⟩ (grown_all _ _)⟩
end
section
variable {prog : Program} {w : World} {A : Around} {E : Value → Shared → Prop} {s : Shared}
theorem Xa {z TI TO i1 i2 l1 l2 : Addr} {k : Nat} {xs ys : Array Value} {x y a b : Value} {Q : Option Value → Shared → Prop} (D : ZipApart z TI TO i1 i2 l1 l2) (hz : IsZip s.heap z TI TO .none)
    (hp : IsPair s.heap TI (.ref i1) (.ref i2)) (ho : IsPair s.heap TO a b) (h1 : s.heap.IsTupleIter i1 l1 k) (h2 : s.heap.IsTupleIter i2 l2 k) (m1 : s.heap.IsTuple l1 xs) (m2 : s.heap.IsTuple l2 ys) (hx : xs[k]? = some x) (hy : ys[k]? = some y)
    (q : ∀ h', IsZip h' z TI TO (rawInt s.heap.objs.size) → IsPair h' TO x y → h'.IsTupleIter i1 l1 (k + 1) → h'.IsTupleIter i2 l2 (k + 1) → IsPair h' s.heap.objs.size x y → True → Els z TO i1 i2 s.heap h' → Q (some (.ref s.heap.objs.size)) { s with heap := h' }) : wpAny (model prog w) A (pyNext (.ref z)) Q E s :=
  zip_asked (fun e => by simp [hx, hy] at e) D hz hp ho h1 h2 m1 m2 (fun h' x' y' e1 e2 a1 a2 a3 a4 a5 a6 => by rw [hx] at e1; rw [hy] at e2; cases e1; cases e2; exact q h' a1 a2 a3 a4 a5 trivial a6) fun _ e _ => by simp [hx, hy] at e
theorem W8 {z TI TO i1 i2 l1 l2 : Addr} {k : Nat} {xs ys : Array Value} {a b : Value} {Q : Option Value → Shared → Prop} (hh : A.handled = none) (D : ZipApart z TI TO i1 i2 l1 l2) (hz : IsZip s.heap z TI TO .none)
    (hp : IsPair s.heap TI (.ref i1) (.ref i2)) (ho : IsPair s.heap TO a b) (h1 : s.heap.IsTupleIter i1 l1 k) (h2 : s.heap.IsTupleIter i2 l2 k) (m1 : s.heap.IsTuple l1 xs) (m2 : s.heap.IsTuple l2 ys) (d : xs[k]? = none ∨ ys[k]? = none)
    (q : ∀ h', Els z TO i1 i2 s.heap h' → Q none { s with heap := h' }) : wpAny (model prog w) A (pyNext (.ref z)) Q E s :=
  zip_asked (fun _ => hh) D hz hp ho h1 h2 m1 m2 (fun _ _ _ e1 e2 _ _ _ _ _ _ => by simp [e1, e2] at d) fun h' _ a => q h' a
theorem Vp {l1 l2 : Addr} {xs ys : Array Value} {Q : Value → Shared → Prop} (m1 : s.heap.IsTuple l1 xs) (m2 : s.heap.IsTuple l2 ys)
    (q : ∀ h', IsZip h' (s.heap.objs.size + 4) (s.heap.objs.size + 2) (s.heap.objs.size + 3) .none → IsPair h' (s.heap.objs.size + 2) (.ref s.heap.objs.size) (.ref (s.heap.objs.size + 1)) → IsPair h' (s.heap.objs.size + 3) .none .none → h'.IsTupleIter s.heap.objs.size l1 0 → h'.IsTupleIter (s.heap.objs.size + 1) l2 0 → True → Grown s.heap h' → Q (.ref (s.heap.objs.size + 4)) { s with heap := h' }) : wpAny (model prog w) A (call (.type "zip") [.ref l1, .ref l2]) Q E s :=
  zip_made m1 m2 fun h' n e a1 a2 a3 a4 a5 a6 => by subst e; exact q h' a1 a2 a3 a4 a5 trivial a6
end
end PySem
namespace L2
open PySem PySem.Spec PyProof.Rows
noncomputable def DF(K:J')(a b:Addr):It:=
 ⟨λi H=>∃xs ys x y,dF K H a xs/\dF K H b ys/\xs[i]?=some x/\ys[i]?=some y,λi H v H'=>∃t,v=.ref t/\H t=none/\∀xs ys,dF K H a xs->dF K H b ys->∃x y,xs[i]?=some x/\ys[i]?=some y/\H'=upd H t (.tup [x,y]),
  λi H=>∃xs ys,dF K H a xs/\dF K H b ys/\(xs.length<=i\/ys.length<=i)⟩
section
variable{X:Cx}{elts:List Expr}{x1:Nat}{mW:Pos}
theorem T7{P:Program}{w:World}{K:J'}(a b z TI TO r n:Addr)(D:ZipApart z TI TO r n a b):Turn P w K (.Tuple elts x1 mW) (DF K a b) [z,TI,TO,r,n] z
  (λi h=>IsZip h z TI TO .none/\IsPair h TI (.ref r) (.ref n)/\(∃a b,IsPair h TO a b)/\h.IsTupleIter r a i/\h.IsTupleIter n b i) where
 mem:=by simp
 obj:=λi h st c f=>by
  obtain⟨l,j,⟨u,v,m⟩,⟨o1,g1,_,d1⟩,⟨o2,g2,_,d2⟩⟩:=st;simp only[aj,aS,or_false] at f;rcases f with rfl | rfl | rfl | rfl | rfl
  .exact⟨_,l,λv z=>by have F:Data.fields _=Data.cell v:=z;cases F⟩
  .exact⟨_,j,λv z=>by have F:Data.seq _ _=Data.cell v:=z;cases F⟩
  .exact⟨_,m,λv z=>by have F:Data.seq _ _=Data.cell v:=z;cases F⟩
  .exact⟨_,g1,λv z=>by rw[d1] at z;cases z⟩
  show⟨_,g2,λv z=>by rw[d2] at z;cases z⟩
 keep:=λi h h' st k=>by
  obtain⟨l,j,⟨u,v,m⟩,C,B⟩:=st;show⟨k z (by simp) _ l,k TI (by simp) _ j,⟨u,v,k TO (by simp) _ m⟩,C.at λo q=>k r (by simp) o q,B.at λo q=>k n (by simp) o q⟩
 item:=by
  intro X Q hw R f i K' s σ H E I hf st hg;subst Q hw R;obtain⟨xs,ys,x,y,J,L,A,T⟩:=hg;obtain⟨its,M,p,hz⟩:=I.tuple J;obtain⟨G,O,N,U⟩:=I.tuple L;obtain⟨u,Z,V⟩:=M.get A;obtain⟨v,Y,Gb⟩:=O.get T;obtain⟨l,j,⟨c,d,m⟩,C,B⟩:=st;show Xa D l j m C B (show s.heap.IsTuple a its.toArray from p) (show s.heap.IsTuple b G.toArray from N) (x:=u) (y:=v) (by simpa using Z) (by simpa using Y) λh' a1 a2 a3 a4 a5 a6 kk=>?_
  show⟨_,rfl,wpAny_letOwnedTupleGo_zip a1 λS b1 t=>?_⟩;have HR:s.heap.objs.size≠z:=Nat.ne_of_gt (aq l);have dW:H s.heap.objs.size=none:=I.cH.fresh (au _);have hT:S.get? s.heap.objs.size=some { cls:=.type "tuple",data:=.seq #[u,v] }:=t.extBut _ _ HR a5;have new:cM X.prog X.w (upd H s.heap.objs.size (.tup [x,y])) S s.heap.objs.size (.tup [x,y]):=⟨Ej,[u,v],.cons V (.cons Gb .nil),⟨_,hT,rfl,_,rfl⟩⟩
  have lt:∀{c o},s.heap.get? c=some o->c≠s.heap.objs.size:=λe=>aE (aq e)
  show⟨.ref s.heap.objs.size,upd H s.heap.objs.size (.tup [x,y]),I.jm (fp:=[z,TI,TO,r,n]) (t':=s.toks) (λc o f q=>t.extBut c o (λe=>f (by simp[e])) (kk c o (λe=>f (by simp[e])) (λe=>f (by simp[e])) (λe=>f (by simp[e])) (λe=>f (by simp[e])) q)) hf (au _) new,rfl,
   ⟨_,rfl,dW,λzs ws h6 h7=>⟨x,y,by rw[I.g6 h6 J];show A,by rw[I.g6 h7 L];show T,rfl⟩⟩,
   ⟨b1,t.extBut _ _ D.TIz (kk _ _ D.TIz D.TITO D.TIi1 D.TIi2 j),⟨_,_,t.extBut _ _ D.TOz a2⟩,a3.extBut t.extBut D.i1z,a4.extBut t.extBut D.i2z⟩,Ei (λb hb=>(hf b hb).1) λc f=>?_⟩
  simp only[aj,aS,or_false] at f;rcases f with rfl | rfl | rfl | rfl | rfl
  .exact lt l
  .exact lt j
  .exact lt m
  .obtain⟨_,g,_⟩:=C;show lt g
  obtain⟨_,g,_⟩:=B;show lt g
 done:=by
  intro X Q hw R f i K' s σ H E I hf st hg;subst Q hw R;obtain⟨xs,ys,J,L,A⟩:=hg;obtain⟨its,M,p,hz⟩:=I.tuple J;obtain⟨G,O,N,U⟩:=I.tuple L;obtain⟨l,j,⟨c,d,m⟩,C,B⟩:=st;have l1:=M.length;have l2:=O.length;have W:its.toArray[i]?=none\/G.toArray[i]?=none:=by
   rcases A with A | A
   .exact .inl (by simp;ext)
   show .inr (by simp;ext)
  show W8 (I.ok.hd f) D l j m C B (show s.heap.IsTuple a its.toArray from p) (show s.heap.IsTuple b G.toArray from N) W λh' kk=>⟨rfl,I.gm (fp:=[z,TI,TO,r,n]) (t':=s.toks) (λc o f q=>kk c o (λe=>f (by simp[e])) (λe=>f (by simp[e])) (λe=>f (by simp[e])) (λe=>f (by simp[e])) q) hf⟩
 self:=λ_ _ _ _ _ st h=>wpAny_pyIter_zip st.1 h
def NP(K:J')(d:TA):TI:=λσ H R=>d σ H λc H1=>∃a b,c=[.ref a,.ref b]/\(((∃xs,eh K H1 a xs)/\(∃ys,eh K H1 b ys)/\R (Dx K a b) H1)\/((∃xs,dF K H1 a xs)/\(∃ys,dF K H1 b ys)/\R (DF K a b) H1))
theorem RC{a b:Expr}{A:TA}{p d:Pos}(hg:Gl X "zip")(hm:X.mg "zip"=none)(ha:PA X [a,b] A)(E:starEach [a,b] X.env=[(false,eval a X.env),(false,eval b X.env)]:=by rfl)(B:starEach [b] X.env=[(false,eval b X.env)]:=by rfl) :
  PI X (.Tuple elts x1 mW) (.Call (.Name "zip" p) [a,b] [] d) (NP X.K A):=by
 intro T s σ H R I h;show Call_ (zev I hg hm boot_zip (PyProof.Rows.callWith_type1 (cQ (ha d T s σ H _ I h) λus s1 ⟨V,H1,I1,r1,r⟩=>?_) (by rw[E,B]) (by rw[B];rfl)));obtain⟨l,n,e,r⟩:=r;subst e;obtain⟨u,v,rfl,D,C⟩:=pV r1;cases D;cases C;rcases r with⟨⟨xs,t⟩,⟨ys,o⟩,q⟩ | ⟨⟨xs,t⟩,⟨ys,o⟩,q⟩
 .obtain⟨its,_,j,_⟩:=I1.list t;obtain⟨its',_,i,_⟩:=I1.list o;show call_zip_2 j.isList i.isList λh' g z y x w F kk=>?_
  show wpAny_pyIter_zip g ?_;show⟨s1.heap.objs.size+4,[s1.heap.objs.size+4,s1.heap.objs.size+2,s1.heap.objs.size+3,s1.heap.objs.size,s1.heap.objs.size+1],_,_,H1,rfl,I1.kept (t':=s1.toks) kk,KI l n _ _ _ _ _ (Fw _),
   ⟨g,z,⟨_,_,y⟩,x,w⟩,λb hb=>?_,q⟩
  have f:s1.heap.objs.size<=b:=by
   simp only[aj,aS,or_false] at hb;rcases hb with rfl | rfl | rfl | rfl | rfl<;>first | show Nat.le_add_right _ _ | show au _
  show I1.kF f (I1.cH.fresh f)
 obtain⟨its,_,j,_⟩:=I1.tuple t;obtain⟨its',_,i,_⟩:=I1.tuple o;have g1:l<s1.heap.objs.size:=by obtain⟨_,e,_⟩:=j;show aq e
 have g2:n<s1.heap.objs.size:=by obtain⟨_,e,_⟩:=i;show aq e
 show Vp (show s1.heap.IsTuple l its.toArray from j) (show s1.heap.IsTuple n its'.toArray from i) λh' g z y x w F kk=>?_
 show wpAny_pyIter_zip g ?_;obtain⟨S,Q,P,O,N,M,L,J,G,U⟩:=Fw s1.heap.objs.size;have c:∀{m:Addr}(k:Nat),m<s1.heap.objs.size->m≠s1.heap.objs.size+k:=λ{m} k h=>aE (aK h (Nat.le_add_right _ _))
 show⟨s1.heap.objs.size+4,[s1.heap.objs.size+4,s1.heap.objs.size+2,s1.heap.objs.size+3,s1.heap.objs.size,s1.heap.objs.size+1],_,_,H1,rfl,I1.kept (t':=s1.toks) kk,
  T7 l n _ _ _ _ _ ⟨S,Q,P,O,N,M,L,J,G,U,c 4 g1,c 3 g1,c 0 g1,c 1 g1,c 4 g2,c 3 g2,c 0 g2,c 1 g2⟩,
  ⟨g,z,⟨_,_,y⟩,x,w⟩,λb hb=>?_,q⟩
 have f:s1.heap.objs.size<=b:=by
  simp only[aj,aS,or_false] at hb;rcases hb with rfl | rfl | rfl | rfl | rfl<;>first | show Nat.le_add_right _ _ | show au _
 show I1.kF f (I1.cH.fresh f)
end
theorem T6{K:J'}{G:Hp}{a b:Addr}{xs ys:List V}{ds j:List D}(h:dF K G a xs)(r:bY K G xs ds)(h':dF K G b ys)(m:bY K G ys j):oX K (DF K a b) G (n6 ds j):=by
 show⟨λi d l H' hd s1 s2=>?_,λl H' s1 s2=>⟨xs,ys,s2.iP (s1.iP h),s2.iP (s1.iP h'),?_⟩⟩
 .unfold n6 at hd;rw[List.getElem?_zipWith] at hd;cases e:ds[i]? with
  | none=>rw[e] at hd;cases hd
  | some d'=>
   cases k:j[i]? with
   | none=>rw[e,k] at hd;cases hd
   | some E=>
    rw[e,k] at hd;cases hd;obtain⟨v,s,z⟩:=r.get e;obtain⟨f,n,A⟩:=m.get k;have w:dF K H' a xs:=s2.iP (s1.iP h);have o:dF K H' b ys:=s2.iP (s1.iP h');show⟨⟨xs,ys,v,f,w,o,s,n⟩,λu F B=>?_⟩;obtain⟨t,rfl,ht,y⟩:=B;obtain⟨x,C,q,p,rfl⟩:=y xs ys w o;rw[s] at q;rw[n] at p;cases q;cases p;have c:Ext l H' (upd l t (.tup [v,f])) (upd H' t (.tup [v,f])):=.new s2 ht;show⟨_,c,EV eT ((z.mono s1).mono c.g) ((A.mono s1).mono c.g)⟩
 rw[r.length,m.length];unfold n6;rw[List.length_zipWith];ext
section
variable{X:Cx}{pos:Pos}
def yq(c:iJ):jQ:=λb Q=>c b λds=>match ds with
 | [.lst a,.lst fs]=>Q (n6 a fs)
 | [.tup a,.tup fs]=>Q (n6 a fs)
 | _=>False
theorem S1{a b:Expr}{m:iJ}{p tp:Pos}{g:List Expr}{r:Nat}(hm:X.mg "zip"=none)(ha:mP X [a,b] m)(hg:Gl X "zip":=by rfl)(y:starEach [a,b] X.env=[(false,eval a X.env),(false,eval b X.env)]:=by rfl)(w:starEach [b] X.env=[(false,eval b X.env)]:=by rfl) :
  PId X (.Tuple g r tp) (.Call (.Name "zip" p) [a,b] [] pos) (yq m):=by
 obtain⟨t,pp,q⟩:=ha;show⟨_,RC hg hm pp y w,λo σ A z G H Q P E h k=>q o σ A z G H _ _ E h λB H' ds n x rs i=>?_⟩;split at i
 .obtain⟨v,u,rfl,c,d⟩:=yv rs;simp only[Rep] at c d;obtain⟨a,xs,rfl,f,l⟩:=c;obtain⟨b,ys,rfl,e,j⟩:=d;show⟨a,b,rfl,.inl ⟨⟨xs,(x.s.fW f).sq⟩,⟨ys,(x.s.fW e).sq⟩,k _ H' _ n x (KG f l e j) i⟩⟩
 .obtain⟨v,u,rfl,c,d⟩:=yv rs;simp only[Rep] at c d;obtain⟨a,xs,rfl,f,l⟩:=c;obtain⟨b,ys,rfl,e,j⟩:=d;show⟨a,b,rfl,.inr ⟨⟨xs,x.s.j4 f⟩,⟨ys,x.s.j4 e⟩,k _ H' _ n x (T6 (dF.of f) l (dF.of e) j) i⟩⟩
 show i.elim
end
end L2
namespace PySem
open Sem (wp)
end PySem
namespace L2
open PySem PySem.Spec PyProof.Rows
namespace SI
open PySem PySem.Spec PyProof.Rows
end SI
end L2
namespace L2
open PySem PySem.Spec PyProof.Rows
namespace SI
end SI
end L2
namespace L2
open PySem PySem.Spec PyProof.Rows
section
variable{X:Cx}{p p' pos pos':Pos}{e:Expr}{ts:iJ}
def BM(i:Nat):TX:=λD a=>match gt a i with
 | .ov (.tl _ ds)=>D.rt (.ow ds)
 | _=>False
theorem S0(i:Nat){x:Str}{l j f:Pos}{c:Nat}(hN:X.N[i]?=some x:=by rfl)(n:hZ X.env.scope x:=by first | show Or.inl rfl | show Or.inr (Or.inl rfl) | show Or.inr (Or.inr rfl))(hd:(x==("__debug__":Str))=false:=by decide)
  (o:(x==("__classdict__":Str))=false:=by decide):PX X (.Return (some (.Subscript (.Name x l) (.Constant (.int 1) c f) j)) pos) (BM i):=by
 show⟨_,yA (tM m6 (iK hN n hd o) BY (λ_ _=>rfl)),λt σ z y G H D E k h g=>?_⟩;unfold BM at h;split at h
 .rename_i d ds hg;obtain⟨own,u,m⟩:=k.on;obtain⟨a,fp,s,w,⟨b,v0,xs,rfl,q,v,p,c⟩,r⟩:=m i _ hg;show⟨_,s,a,[v0,.ref b],1,.ref b,rfl,rfl,dF.of q,rfl,?_⟩;have:=r b (by simp);show g.rt _ H (.ow ds) G k.e ⟨b,xs,rfl,this.2.1,this.1,p,c⟩ h
 show h.elim
end
section
variable{P:Program}{w:World}{K:J'}{mg:Str->Option Value}{base:Heap}
theorem jz{x:Str}{st:Stmt}{N ps:List Str}{t:eJ}{T:TX}{n d:Nat}(k:Nat)(A:At K mg x st)(S:ck N ps (bZ st))
  (body:∀(f:Addr)(c:Value)(A:Around)(outer:List Env)(s:Shared)(H:Hp)(E:XK),dG k (A.deeper (envOfC x (bZ st) s.heap.objs.size f c))->kX (jV jt P w K mg base N x (bZ st) f c A outer s H E).lg (cO st) T)
  (a:∀(ds:List D)(e:R->Prop),ds.length=n->t ds e->T { nx:=λ_=>e (.fz .non),rt:=e } (pZ N ds))
  (b:∀(kV doc pm:Value)(an:Option Addr)(c ct:Value)(us:List Value),us.length=n->bindArgs (PySem.W.fnOf x x (e9 st) (cO st) (bZ st) .none kV doc pm an c ct) ⟨us,[]⟩=pure (ps.zip us)) (hn:ps.length=n:=by rfl) (hd:k+1=d:=by rfl):Known P w K mg base d x n t:=by
 subst hn hd;obtain⟨f,fd,F,hm⟩:=A.ex;show⟨f,fd,ps,sy F S (body f) a,hm,F.kp,F.binds b⟩
end
end L2
namespace Ts
open PySem PySem.W PyProof.Rows
end Ts
namespace L2
open PySem PySem.Spec PyProof.Rows
noncomputable def tN:D->Bool
 | .tup ds=>ds.all kK
 | d=>kK d
def DR:Sl->Prop
 | .ov (.dc _)=>True
 | .ov (.ll _)=>True
 | .ov _=>False
 | _=>True
def ZX(i:Nat)(te:TD):TD:=λa Q=>DR (gt a i)/\te (iH i a) λr=>match r with
 | .ow ds=>ds.all tN=true/\Q (.ow ds)
 | _=>False
theorem SY{K:J'}{G c H:Hp}{L:List Addr}{v:V}{d:D}(g:cq G H)(h:cq c H)(f:∀q∈L,c q≠none/\∀xs,¬Rd c q (.tup xs))(e:tN d=true)(r:Rep K G v d):Rep K (less G L) v d:=by
 cases d with
 | tup ds=>
  simp only[Rep] at r ⊢;obtain⟨a,xs,rfl,j,i⟩:=r;show⟨a,xs,rfl,SQ g h (λq b=>(f q b).1) (λq b=>(f q b).2) j,Fn e i⟩
 | _=>show xq e r
theorem Lr{K:J'}{G b H:Hp}{L:List Addr}(c:cq G H)(f:cq b H)(e:∀q∈L,b q≠none/\∀xs,¬Rd b q (.tup xs)):∀{a:List V}{ds:List D},ds.all tN=true->bY K G a ds->bY K (less G L) a ds
 | [],[],_,_=>bY.nil
 | v::a,d::ds,h,r=>by
  simp only[bY] at r;rw[List.all_cons,bj] at h;show bY.cons (SY c f e h.1 r.1) (Lr c f e h.2 r.2)
 | [],_::_,_,r=>by simp only[bY] at r
 | _::_,[],_,r=>by simp only[bY] at r
section
variable{X:Cx}{pos:Pos}{e i':Expr}{te ti:TD}
def DQ(c b:TD):TD:=λa Q=>c a λe=>match e with
 | .ow ds=>b a λd=>match d with
  | .ow f=>Q (.ov (.ll [ds,f]))
  | _=>False
 | _=>False
theorem Ql{a b:Expr}{o m:TD}(ha:PD X a o)(hb:PD X b m)(S:starEach [a,b] X.env=(false,eval a X.env)::starEach [b] X.env:=by rfl)(O:starEach [b] X.env=(false,eval b X.env)::starEach [] X.env:=by rfl):PD X (.List [a,b] pos) (DQ o m):=by
 obtain⟨t1,L,J⟩:=ha;obtain⟨t2,K,I⟩:=hb;show⟨_,Ek (ie L (ie K kl O) S),λl σ D C G H Q P E h k=>?_⟩;show J l σ D C G H _ _ E h λv H1 ra G1 f M i=>?_
 split at i
 .rename_i ds;obtain⟨p,xs,rfl,Y,W,e,V⟩:=M;show I l σ D C G1 H1 _ _ (E.ext f) i λu Z rb G3 c N j=>?_
  split at j
  .rename_i R;obtain⟨q,ys,rfl,x,U,w,T⟩:=N;show⟨by show 2<=sizeLine;decide,λa ha=>?_⟩;have d:=f.trans c;have B:a≠q:=λz=>by rw[z,w] at ha;cases ha
   have y:Z p=some (.lst xs):=c.h _ _ e;have A:a≠p:=λz=>by rw[z,y] at ha;cases ha
   have F:p≠q:=λz=>by rw[z,x] at e;cases e
   show k _ _ (.ov (.ll [ds,R])) G3 (d.trans (.own d.s ha)) ⟨a,[p,q],rfl,by simp[B,A,F],⟨eT,?_⟩,λr t=>?_⟩ j
   .simp only[cy];show⟨⟨xs,by rw[cL A.symm];show y,V.mono c.g⟩,⟨ys,by rw[cL B.symm];show w,T⟩,trivial⟩
   simp only[aj,aS,or_false] at t;rcases t with rfl | rfl | rfl
   .exact⟨d.h.free ha,d.s.free ha⟩
   .exact⟨Y,c.n _ W (by rw[e];show nofun)⟩
   show⟨f.h.free x,U⟩
  show j.elim
 show i.elim
end
theorem sd{b:Type}{l:List b}{n:Nat}(h:l.length=n+1):∃a r,l=a::r/\r.length=n:=by
 cases l with
 | nil=>cases h
 | cons a r=>show⟨a,r,rfl,Nat.succ.inj h⟩
theorem N7{a:Type}{l:List a}(h:l.length=0):l=[]:=List.eq_nil_of_length_eq_zero h
theorem IS{b:Type}{l:List b}(h:l.length=1):∃c,l=[c]:=by
 obtain⟨a,r,e,h⟩:=sd h;show⟨a,by rw[e,N7 h]⟩
theorem rW{b:Type}{l:List b}(h:l.length=2):∃f a1,l=[f,a1]:=by
 obtain⟨a,r,e,h⟩:=sd h;obtain⟨d,c⟩:=IS h;show⟨a,d,by rw[e,c]⟩
theorem IQ{b:Type}{l:List b}(h:l.length=3):∃g a1 a2,l=[g,a1,a2]:=by
 obtain⟨a,r,e,h⟩:=sd h;obtain⟨f,d,c⟩:=rW h;show⟨a,f,d,by rw[e,c]⟩
theorem IP{b:Type}{l:List b}(h:l.length=4):∃j a1 a2 i,l=[j,a1,a2,i]:=by
 obtain⟨a,r,e,h⟩:=sd h;obtain⟨g,f,d,c⟩:=IQ h;show⟨a,g,f,d,by rw[e,c]⟩
theorem IM{b:Type}{l:List b}(h:l.length=5):∃m a1 a2 k j,l=[m,a1,a2,k,j]:=by
 obtain⟨a,r,e,h⟩:=sd h;obtain⟨i,g,f,d,c⟩:=IP h;show⟨a,i,g,f,d,by rw[e,c]⟩
theorem IL{b:Type}{l:List b}(h:l.length=6):∃o a1 a2 n m k,l=[o,a1,a2,n,m,k]:=by
 obtain⟨a,r,e,h⟩:=sd h;obtain⟨j,i,g,f,d,c⟩:=IM h;show⟨a,j,i,g,f,d,by rw[e,c]⟩
theorem IK{b:Type}{l:List b}(h:l.length=7):∃q a1 a2 p o n m,l=[q,a1,a2,p,o,n,m]:=by
 obtain⟨a,r,e,h⟩:=sd h;obtain⟨k,j,i,g,f,d,c⟩:=IL h;show⟨a,k,j,i,g,f,d,by rw[e,c]⟩
theorem N6{b:Type}{l:List b}(h:l.length=8):∃t a1 a2 s q p o n,l=[t,a1,a2,s,q,p,o,n]:=by
 obtain⟨a,r,e,h⟩:=sd h;obtain⟨m,k,j,i,g,f,d,c⟩:=IK h;show⟨a,m,k,j,i,g,f,d,by rw[e,c]⟩
theorem ZY{b:Type}{l:List b}(h:l.length=9):∃v a1 a2 u t s q p o,l=[v,a1,a2,u,t,s,q,p,o]:=by
 obtain⟨a,r,e,h⟩:=sd h;obtain⟨n,m,k,j,i,g,f,d,c⟩:=N6 h;show⟨a,n,m,k,j,i,g,f,d,by rw[e,c]⟩
open PySem.Builtin PySem.Builtin.Str
end L2
namespace L2.SO
open PySem PySem.Spec PyProof.Rows L2
end L2.SO
namespace L2
open PySem PySem.Spec PyProof.Rows
section
variable{X:Cx}{pos:Pos}{e:Expr}{te:TD}{ts:iJ}{t:TA}
noncomputable def oD:Option Str->D
 | none=>.non
 | some x=>.str x
end
def rT(a:Shared)(H:Hp)(b:Addr):Prop:=(∃o,a.heap.get? b=some o)\/H b≠none
section
variable{X:Cx}{K':List (Addr×Obj)}{σ:St}{H:Hp}{s:Shared}
theorem cM.some{P:Program}{w:World}{H:Hp}{h:Heap}{a:Addr}{o:HO}(x:cM P w H h a o):∃ob,h.get? a=some ob:=by
 cases o with
 | lst xs=>show⟨_,x.2.choose_spec.choose_spec.2⟩
 | tup xs=>
  obtain⟨_,its,_,ob,e,_⟩:=x;show⟨ob,e⟩
 | dK kvs ep=>
  obtain⟨_,_,_,_,ob,_,e,_⟩:=x;show⟨ob,e⟩
 | dT kvs bs=>
  obtain⟨_,_,_,_,_,ob,_,_,e,_⟩:=x;show⟨ob,e⟩
 | set S n=>
  obtain⟨ob,_,_,_,e,_⟩:=x;show⟨ob,e⟩
 | ins C d fs=>show⟨_,x.2.2.2.1⟩
 | own y=>show x
 | xd fs=>
  obtain⟨_,⟨ob,_,_,e,_⟩,_⟩:=x;show⟨ob,e⟩
 | CL lo c=>
  obtain⟨_,_,_,e⟩:=x;show⟨_,e⟩
 | iH ob u=>show⟨ob,x.1⟩
 | t7 ps=>show⟨_,x⟩
 | met f y=>show⟨_,x⟩
 | ext b=>show x.2.1
theorem Inv.there(I:Inv X K' σ H s)(a:X.ex=[]){b:Addr}(h:rT X.c7 H b):∃o,s.heap.get? b=some o:=by
 rcases h with⟨o,e⟩ | h
 .exact I.base.there b o e (by rw[a];simp)
 cases e:H b with
 | none=>show absurd e h
 | some u=>show(I.cH b u e).some
theorem Inv.gone(I:Inv X K' σ H s)(c:X.ex=[])(t:X.stack=X.env::X.outer)(r:X.env.frame=some X.env.locals){B h':Heap}(st:B.StaysIn h')(j:∀b o,rT X.c7 H b->s.heap.get? b=some o->b∉i9 X.stack->B.get? b=some o)(up:s.heap.UpToSlots h') :
  Un (i9 X.outer) [] X.oP H X.c7.heap h'/\ic X.prog X.w H h'/\∀b o,rT X.c7 H b->h'.get? b=some o->b∉i9 X.outer->B.get? b=some o:=by
 have l:i9 X.stack=X.env.locals::i9 X.outer:=by rw[t];simp[i9,r]
 have k:∀b,rT X.c7 H b->b≠X.env.locals:=λb h z=>by
  subst z;rcases h with⟨o,e⟩ | h
  .exact absurd (aq e) (Nat.not_lt.mpr I.ok.above)
  show h I.free
 have out:∀b,rT X.c7 H b->b∉i9 X.outer->b∉i9 X.stack:=λb h n=>by
  rw[l];simp only[aj,not_or];show⟨k b h,n⟩
 have same:∀b o,rT X.c7 H b->b∉i9 X.outer->s.heap.get? b=some o->h'.get? b=some o:=λb o h n e=>st b o (j b o h e (out b h n))
 have x:∀b,H b≠none->b∉i9 X.outer:=λb h m=>by
  obtain⟨_,o,q,_⟩:=I.ok.gG.mem m;show h (I.base.free b o q (I.ok.qW b m) (by rw[c];simp))
 show⟨⟨λb o e n hb _=>?_,λb o e n hb _=>?_,λb o e n _=>?_,λb o e _=>?_,I.base.iM,I.base.iz,I.base.iO⟩,λa u e=>?_,λb o h e n=>?_⟩
 .exact same b o (.inl ⟨o,e⟩) hb (I.base.keep b o e n hb (by rw[c];simp))
 .obtain⟨sl,d⟩:=I.base.slot b o e n hb (by rw[c];simp);obtain⟨_,o',g,hd⟩:=I.ok.gG.mem hb;rw[e] at g;cases g;obtain⟨i,f⟩:=up b _ d hd;show⟨i,f⟩
 .exact I.base.free b o e n (by rw[c];simp)
 .by_cases hb:b∈i9 X.outer
  .obtain⟨sl,d⟩:=I.base.slot b o e (I.ok.qW b hb) hb (by rw[c];simp);obtain⟨_,o',g,hd⟩:=I.ok.gG.mem hb;rw[e] at g;cases g;obtain⟨i,f⟩:=up b _ d hd;show⟨_,f⟩
  obtain⟨o',d⟩:=I.base.there b o e (by rw[c];simp);show⟨o',same b o' (.inl ⟨o,e⟩) hb d⟩
 .refine(I.cH a u e).f6 (λb v hb p=>?_) (λ_ h=>h) λ_ _ h=>h
  have hn:H b≠none:=by
   rcases hb with rfl | hb
   .rw[e];show nofun
   rw[hb];show nofun
  show same b v (.inr hn) (x b hn) p
 obtain⟨o',d⟩:=I.there c h;have f:=same b o' h n d;rw[e] at f;cases f;show j b o h d (out b h n)
end
theorem Pq{P:Program}{w:World}{fs:List Addr}{H H':Hp}{h d c B:Heap}(u:Un fs [] H H' h d)(i:∀b∈fs,H b=none/\∃o,h.get? b=some o/\∀k,o.data≠.fields k)(st:B.StaysIn c)
  (p:∀b o,((∃o,h.get? b=some o)\/H' b≠none)->d.get? b=some o->b∉fs->B.get? b=some o) (up:d.UpToSlots c) (cH:ic P w H' d):Un fs [] H H' h c/\ic P w H' c:=by
 have same:∀b o,((∃o,h.get? b=some o)\/H' b≠none)->b∉fs->d.get? b=some o->c.get? b=some o:=λb o hb n e=>st b o (p b o hb e n)
 have slot:∀b∈fs,∀o,h.get? b=some o->∃sl,c.get? b=some { o with slots:=sl }:=λb hb o e=>by
  obtain⟨n,o',j,hd⟩:=i b hb;rw[e] at j;cases j;obtain⟨sl,g⟩:=u.slot b o e n hb (by simp);obtain⟨l,f⟩:=up b _ g hd;show⟨l,f⟩
 have r:∀b,H' b≠none->b∉fs:=λb hb m=>by
  obtain⟨n,o,e,_⟩:=i b m;show hb (u.free b o e n (by simp))
 show⟨⟨λb o e n hb _=>same b o (.inl ⟨o,e⟩) hb (u.keep b o e n hb (by simp)),λb o e n hb _=>slot b hb o e,λb o e n _=>u.free b o e n (by simp),λb o e _=>?_,u.iM,u.iz,u.iO⟩,λa v e=>?_⟩
 .by_cases hb:b∈fs
  .obtain⟨sl,f⟩:=slot b hb o e;show⟨_,f⟩
  obtain⟨o',g⟩:=u.there b o e (by simp);show⟨o',same b o' (.inl ⟨o,e⟩) hb g⟩
 show(cH a v e).f6 (λb q hb s=>?_) (λ_ z=>z) λ_ _ z=>z
 have hn:H' b≠none:=by
  rcases hb with rfl | hb
  .rw[e];show nofun
  rw[hb];show nofun
 show same b q (.inr hn) (r b hn) s
section
variable{X:Cx}
noncomputable abbrev Cx.gc(X:Cx)(a:Addr):Cx:={ X with A:=X.A.mark (some (.ref a)),calm:=false }
theorem Inv.gc{c:List (Addr×Obj)}{b:St}{H:Hp}{s:Shared}(I:Inv X c b H s)(a:Addr):Inv (X.gc a) c b H s:=
 ⟨⟨I.ok.mod,I.ok.kind,I.ok.glob,I.ok.blt,I.ok.above,I.ok.inj,I.ok.has,I.ok.cab,λz=>(by cases z),I.ok.frames,I.ok.zz,I.ok.exf,I.ok.bs,I.ok.tG,I.ok.oC,I.ok.oK,I.ok.gG,I.ok.qW⟩,I.os,I.bare,I.base,I.loc,I.cell,I.free,I.fA,I.pin,I.cH,I.len⟩
theorem Inv.vI{c:List (Addr×Obj)}{b:St}{H:Hp}{s:Shared}{a:Addr}(ok:X.Ok)(I:Inv (X.gc a) c b H s):Inv X c b H s:=
 ⟨ok,I.os,I.bare,I.base,I.loc,I.cell,I.free,I.fA,I.pin,I.cH,I.len⟩
end
end L2
namespace PySem
open Sem (wp)
end PySem
namespace L2
open PySem PySem.Spec PyProof.Rows
end L2
namespace Ts
open PySem PySem.W PyProof.Rows
end Ts
namespace L2
open PySem PySem.Spec PyProof.Rows
end L2
namespace Ts
open PySem PySem.W PyProof.Rows
open PySem.SeqAt
end Ts
namespace L2
open PySem PySem.Spec PyProof.Rows
section
variable{X:Cx}{K':List (Addr×Obj)}{σ:St}{H H0:Hp}{s s0:Shared}
theorem Inv.tell{a:Addr}{o:HO}(I:Inv X K' σ H s)(g:Inv X K' σ H0 s0)(hn:H a=none)(f:s0.heap.get? a=none)(new:cM X.prog X.w (upd H a o) s.heap a o):Inv X K' σ (upd H a o) s:=by
 have nl:a≠X.env.locals:=λz=>by
  obtain⟨m,⟨y,_,_,l,_⟩,_⟩:=g.loc;rw[z,l] at f;cases f
 show⟨I.ok,I.os,I.bare,⟨I.base.keep,I.base.slot,λb ob e n i=>?_,I.base.there,λb xs e=>?_,λb o' u e=>?_,λb ps e=>?_⟩,I.loc,I.cell,by rw[cL (Ne.symm nl)];show I.free,λx c e=>?_,λp j=>?_,λb u e=>?_,I.len⟩
 .have:b≠a:=λz=>by
   obtain⟨o',k⟩:=g.base.there b ob e i;rw[z,f] at k;cases k
  rw[cL this];show I.base.free b ob e n i
 .have z:=I.base.iM b xs e;rw[cL (iu z hn)];show z
 .have z:=I.base.iz b o' u e;rw[cL (iu z hn)];show z
 .obtain⟨more,z⟩:=I.base.iO b ps e;show⟨more,by rw[cL (iu z hn)];show z⟩
 .have:c≠a:=λz=>by
   obtain⟨v,t,h,_⟩:=g.cell x c e;rw[z,f] at h;cases h
  rw[cL this];show I.fA x c e
 .obtain⟨e,n,ne,r,d⟩:=I.pin p j;have:p.1≠a:=λz=>by
   have:=(g.pin p j).1;rw[z,f] at this;cases this
  show⟨e,by rw[cL this];show n,ne,r,d⟩
 by_cases hb:b=a
 .subst hb;rw[eT] at e;cases e;show new
 rw[cL hb] at e;show(I.cH b u e).f6 (λc v _ q=>q) (λc q=>by rw[cL (iu q hn)];show q) λc xs q=>by rw[cL (iu q hn)];show q
theorem Inv.AY{m:Str->Option Value}{v:Option Value}{h':Heap}{x:Str}{i t':Nat}(I:Inv X K' σ H s)(hN:X.N.Nodup)(E:X.N[i]?=some x)(hm:∀(j:Nat)(y:Str)(v:V),X.N[j]?=some y->σ[j]?=some (some v)->hZ X.env.scope y->∃u,RelV v u/\Look X.env s.heap m y u)
  (hn:h'.Ns X.env.locals (λy=>if y=x then v else m y)) (a:Heap.SameBut X.env.locals s.heap h'):Inv X K' (σ.set i none) H { s with heap:=h',toks:=t' }:=by
 obtain⟨m0,⟨J,L,ep,G,K⟩,_⟩:=id I.loc;have qY:=I.qY;show⟨I.ok,I.os,I.bare,⟨λb o e n hb h=>?_,λb o e n hb h=>?_,I.base.free,λb o e h=>?_,I.base.iM,I.base.iz,I.base.iO⟩,⟨_,hn,λj y w g f F=>?_⟩,λy c e=>?_,I.free,I.fA,λp D=>?_,λb ob e=>?_,by simpa using I.len⟩
 .exact(a.2 b (aE (aK (aq e) I.ok.above))).trans (I.base.keep b o e n hb h)
 .obtain⟨sl,g⟩:=I.base.slot b o e n hb h;show⟨sl,(a.2 b (aE (aK (aq e) I.ok.above))).trans g⟩
 .obtain⟨o',g⟩:=I.base.there b o e h;show⟨o',(a.2 b (aE (aK (aq e) I.ok.above))).trans g⟩
 .have t:j≠i:=λz=>by
   subst z;rw[bC] at f;split at f
   .split at f<;>cases f
   show absurd rfl (by assumption)
  rw[List.getElem?_set_ne (Ne.symm t)] at f;obtain⟨A,B,q⟩:=hm j y w g f F;show⟨A,B,?_⟩;rcases q with⟨k,e⟩ | ⟨k,c,e,z⟩
  .refine .inl ⟨k,?_⟩;have:y≠x:=λe=>t (EM hN g (e▸E))
   simp[this,e]
  show .inr ⟨k,c,e,z.sameBut a (qY y c e)⟩
 .obtain⟨r,z⟩:=I.cell y c e;show⟨r,z.sameBut a (qY y c e)⟩
 .obtain⟨e,n,ne,C,d⟩:=I.pin p D;show⟨(a.2 p.1 ne).trans e,n,ne,C,d⟩
 show(I.cH b ob e).f6 (λc r l q=>(a.2 c ?_).trans q) (λ_ q=>q) λ_ _ q=>q
 rintro rfl;rcases l with rfl | l
 .rw[I.free] at e;cases e
 rw[I.free] at l;cases l
end
end L2
namespace PySem.W
open PySem PySem.Spec PySem.Calls PyProof.Rows Builtin Builtin.ObjectAttr Builtin.Getset_descriptor
section
variable{prog:Program}{w:World}{A:Around}{E:Value->Shared->Prop}{s:Shared}{K:Frag}{x C D:Addr}{name:Str}
def kd(h:Heap)(x C:Addr):Prop:=∃o,h.get? x=some o/\o.cls=.ref C
theorem kd.type{M:Model}{h:Heap}(I:kd h x C):Looks M h (typeOf (.ref x)) (.ref C):=by
 obtain⟨o,e,c⟩:=I;show c▸(Looks.ld e).andThen .now
theorem Qk{M:Model}{h:Heap}{g a:Value}(X:K.In h)(ha:findIn K (.ref C) name=some (some a))(hg:specialIn K a "__get__"=some (some g))(ht:takesIn K a=some true):Looks M h (find (.ref x) (.ref C) name) (.bind g a):=by
 have c:=looks_findIn (M:=M) X ha;have L2:Looks M h (getOf (some a)) (some g):=looks_specialIn X hg;have b:=looks_takesIn (M:=M) X ht;show c.andThen (L2.andThen ((show Looks M h (dataDescriptor? (some a) (some g)) (some (g,a)) from b.andThen .now).andThen (Looks.tag .now)))
theorem VH{tp:Value}{R:Result->Shared->Prop}(X:K.In s.heap)(I:kd s.heap x C)(hm:mroIn K C (.type "object")=some true)
  (h:R (.ok (.ret (.ref C))) s):codeAny (model prog w) A (.call (.builtin "getset_descriptor.__get__") ⟨[.builtin "object.__class__",.ref x,tp],[]⟩) R s:=by
 obtain⟨hh,g,a,t,os⟩:=s;have c:=I.type (M:=model prog w);have b:=looks_mroIn (M:=model prog w) X hm;show codeAny_call_builtin KF.slot_gs.plain KF.entry_gs (KF.slot_gs.check _ _ _ _ _ _ _ _ KF.type_class (KF.args_gs _ _ _) ?_);unfold Builtin.«getset_descriptor.__get__» descrGet;rw[dga_obj];show aa (ai ?_);unfold descrGetter descrCheckInstance descrNameAndClass isInstance;simp only[KF.owner_class];repeat lk
 show⟨Code.quiet_builtin _ (by decide +kernel),codeAny_builtin KF.entry_class ?_⟩;unfold Builtin.«object.__class__» shownTypeOf;repeat lk
 show h
theorem Ks{M:Model}{a:Value}{Q:Unit->Shared->Prop}(X:K.In s.heap)(I:kd s.heap x D)(hb:mroIn K D (.type "BaseException")=some true)(f:Q () s):wpAny M A (checkBuiltinCall "BaseException.__getattribute__" ⟨[.ref x,a],[]⟩) Q E s:=by
 obtain⟨hh,g,d,t,os⟩:=s;have hk:builtinKind "BaseException.__getattribute__"=some .slot:=by decide +kernel
 have b:splitId "BaseException.__getattribute__"=some ("BaseException","__getattribute__"):=by decide +kernel
 have ha:=F.args_bexc_ga (.ref x) a;have e:=I.type (M:=M);have c:=looks_mroIn (M:=M) X hb;simp only[checkBuiltinCall,hk,b];show aa ?_;unfold isInstance;show aa (e.at (c.at ?_));repeat(any_goals (first | assumption | wp_step))
theorem R5{g a:Value}{tk:Tok}{R:Fin->Shared->Prop}(X:K.In s.heap)(I:kd s.heap x D)(ha:findIn K (.ref D) name=some (some a))(hg:specialIn K a "__get__"=some (some g))(ht:takesIn K a=some true)
  (h:wpAny (model prog w) A (call g [a,.ref x,.ref D]) (λv b=>R (.done (.ret v)) b) E s) :
  wpAny (model prog w) A (Builtin.«object.__getattribute__» ⟨[.ref x,.str name tk],[]⟩) R E s:=by
 obtain⟨hh,f,d,t,os⟩:=s;have e:=I.type (M:=model prog w);have c:=Qk (M:=model prog w) (x:=x) X ha hg ht;unfold Builtin.«object.__getattribute__»;show aa (ai (aa (ai (aa (e.at (aa (c.at ?_)))))));show wpAny _ _ (holding [a] (call g [a,.ref x,.ref D]) >>= ret) _ _ _;show aa (bz (bE h (λv b z=>ai z) λ_ _ z=>z))
theorem R4{Q:Option Value->Shared->Prop}{g a:Value}(X:K.In s.heap)(I:kd s.heap x D)(l:findIn K (.ref D) "__getattribute__"=some (some (.builtin "BaseException.__getattribute__")))(m:findIn K (.ref D) "__getattr__"=some none)
  (hb:mroIn K D (.type "BaseException")=some true) (ha:findIn K (.ref D) name=some (some a)) (hg:specialIn K a "__get__"=some (some g)) (ht:takesIn K a=some true)
  (h:wpAny (model prog w) A.in1 (call g [a,.ref x,.ref D]) (λv c=>wpAny (model prog w) A (handedOut v) (λv b=>Q (some v) b) (λ_ _=>False) c) (λ_ _=>False) { s with toks:=s.toks+1 }) :
  wpAny (model prog w) A (getAttr? (.ref x) name) Q E s:=by
 obtain⟨hh,e,d,t,os⟩:=s;have k:=I.type (M:=model prog w);have j:=looks_findIn (M:=model prog w) X l;have L2:=looks_findIn (M:=model prog w) X m;have i:=F.excAttr_ValueError.ga.bind (.ref x);unfold getAttr? getAttrBy? getAttrBy;show aa (wpAny_mkText (aa (wpAny_attempt (bz (aa (k.at (aa (j.at ?_))))))));show wpAny _ _ (getAttrByItsOwn _ _ _ _ _ _) _ _ _;unfold getAttrByItsOwn;show aa (L2.at (aa (wpAny_attempt (bz ?_))));show wpAny _ _ (boundAndCalled _ _ _) _ _ _;unfold boundAndCalled;rw[i];show aa (ai (wpAny_call (codeAny_call_builtin F.excAttr_ValueError.ga.plain F.entry_bexc_ga (Ks (s:=⟨hh,e,d,t+1,os⟩) X I hb (R5 (s:=⟨hh,e,d,t+1,os⟩) X I ha hg ht (bE h (λv c z=>?_) λ_ _ z=>z.elim))))));show bE z (λv b f=>ai f) (λ_ _ z=>z.elim)
structure Iy(K:Frag)(D:Addr):Prop where
 hg:findIn K (.ref D) "__getattribute__"=some (some (.builtin "BaseException.__getattribute__"))
 hh:findIn K (.ref D) "__getattr__"=some none
 hd:hasDictIn K D=true
 ha:findIn K (.ref D) "__class__"=some (some (.builtin "object.__class__"))
 hn:specialIn K (.builtin "object.__class__") "__get__"=some (some (.builtin "getset_descriptor.__get__"))
 ht:takesIn K (.builtin "object.__class__")=some true
 hm:mroIn K D (.type "object")=some true
 hb:mroIn K D (.type "BaseException")=some true
theorem R3{Q:Option Value->Shared->Prop}(B:Iy K D)(X:K.In s.heap)(I:kd s.heap x D)(h:Q (some (.ref D)) { s with toks:=s.toks+1 }):wpAny (model prog w) A (getAttr? (.ref x) "__class__") Q E s:=
 R4 X I B.hg B.hh B.hb B.ha B.hn B.ht (wpAny_call (VH (s:={ s with toks:=s.toks+1 }) X I B.hm (handed_on rfl h)))
theorem nN(B:Iy K D):KitX K (.ref x) (.ref D) (λh=>kd h x D) where
 ty:=λ_ _ _ I=>I.type
 it:=λ_ _ X _=>by
  obtain⟨f,a,_⟩:=any_some B.hd;unfold clsIn at a;split at a
  .rename_i c d' d i b;intro p m o j k q;unfold isType loadHead;show aa (wpAny_loadPart (k _ _ (X _ _ b)) (ai q))
  cases a
 ne:=λh tp l its n sl X g=>by
  obtain⟨f,a,_⟩:=any_some B.hd;show Bool.eq_false_iff.mpr λq=>?_
  have e:D=tp:=Value.ref.inj (beq_iff_eq.mp q);subst e;unfold clsIn at a;split at a
  .rename_i c d' d i b;have:=X _ _ b;rw[g] at this;cases this
  cases a
 ca:=λX I k=>R3 B X I k
end
end PySem.W
namespace L2
open PySem PySem.Spec PyProof.Rows
noncomputable abbrev uT:=PySem.W.Iy
section
variable{X:Cx}{pos:Pos}{e:Expr}{te:TD}{D:Addr}{b:Bool}
theorem Inv.A1{i:List (Addr×Obj)}{d:St}{H:Hp}{s:Shared}{v:V}{c:Str}{fs:List (Str×L2.D)}(I:Inv X i d H s)(f:PySem.W.nsIn X.K mainGlobals c=some (some (.ref D)))(r:Rep X.K H v (.exc c fs)):∃a,v=.ref a/\PySem.W.kd s.heap a D:=by
 simp only[Rep] at r;obtain⟨a,k,C,m,l,rfl,e,b,j,_⟩:=r;rw[f] at b;cases b;obtain⟨o,_,h,g,_⟩:=j _ (I.cH a _ e).1;show⟨a,rfl,o,h,g⟩
theorem Lq{c:V}{uc:Value}{d:Str}(j:uT X.K D)(g:PySem.W.nsIn X.K mainGlobals d=some (some (.ref D)))(i:∀u,RelV c u->u=uc)(hb:PySem.W.kitOne X.K (.ref D) uc=some b) :
  cW X (.builtin "isinstance") (λxs H Q=>∃x fs,xs=[x,c]/\Rep X.K H x (.exc d fs)/\Q (.bl b) H):=by
 intro l s σ H xs us Q I r h;obtain⟨x,fs,rfl,e,q⟩:=h;obtain⟨u,k,rfl,f,rc⟩:=pV r;obtain⟨a,rfl,ex⟩:=I.A1 g e;cases (show u=Value.ref a from f);rw[i _ rc];show PySem.W.kia_one (PySem.W.nN j) I.g8 ex hb (by intro z;cases z) λtk=>⟨.bl b,H,I.tok tk,rfl,q⟩
theorem Uu{cs:List Addr}{f:Str}(m:uT X.K D)(k:PySem.W.nsIn X.K mainGlobals f=some (some (.ref D)))(hb:PySem.W.kitAny X.K (.ref D) (cs.map Value.ref)=some b) :
  cW X (.builtin "isinstance") (λxs H Q=>∃x p fs,xs=[x,.ref p]/\dF X.K H p (cs.map V.ref)/\Rep X.K H x (.exc f fs)/\Q (.bl b) H):=by
 intro y s σ H xs us Q I r h;obtain⟨x,p,fs,rfl,e,i,q⟩:=h;obtain⟨u,g,rfl,j,rc⟩:=pV r;obtain⟨a,rfl,ex⟩:=I.A1 k i;cases (show u=Value.ref a from j);cases (show g=Value.ref p from rc);obtain⟨its,d,ht,hz⟩:=I.tuple e;have v:its=cs.map Value.ref:=by
  clear ht hb e hz;induction cs generalizing its with
  | nil=>cases d;rfl
  | cons c r l=>
   cases d with
   | cons t o=>rw[av,<-l _ o];cases (show _=Value.ref c from t);rfl
 subst v;obtain⟨⟨cls,w,data,sl⟩,g1,g2,n,g3⟩:=ht;simp only at g2 g3;subst g2 g3;show PySem.W.kia_tup (PySem.W.nN m) I.g8 ex g1 hb (by intro z;cases z) λtk=>⟨.bl b,H,I.tok tk,rfl,q⟩
def u6(d:Str)(b:Bool)(te:TD):TD:=λa Q=>te a λr=>match r.val with
 | .exc c _=>c=d/\Q (.fz (.bl b))
 | _=>False
theorem Qj{C:Addr}{l a:Str}{p d:Pos}(A:PD X e te)(B:uT X.K D)(y:PySem.W.nsIn X.K mainGlobals l=some (some (.ref D)))(hm:X.mg "isinstance"=none)(w:X.mg a=some (.ref C))(hb:PySem.W.kitOne X.K (.ref D) (.ref C)=some b)
  (hg:Gl X "isinstance":=by rfl) (o:Gl X a:=by rfl) (hd:(a==("__debug__":Str))=false:=by decide) (j:starEach [e,Expr.Name a d] X.env=(false,eval e X.env)::starEach [Expr.Name a d] X.env:=by rfl) (z:starEach [Expr.Name a d] X.env=(false,eval (.Name a d) X.env)::starEach [] X.env:=by rfl)
  (F:(backTo pos (starEach [Expr.Name a d] X.env)).any (·.1)=false:=by rfl):PD X (.Call (.Name "isinstance" p) [e,.Name a d] [] pos) (u6 l b te):=by
 obtain⟨t,pp,q⟩:=A;show⟨_,vq (Lq (c:=.ref C) (uc:=.ref C) (b:=b) B y (λu h=>h) hb) hg hm boot_isinstance (ie pp (ie (Kp (v:=.ref C) o w rfl hd) kl z) j) (by decide) (by decide) j F,λm σ M J G H Q P E h k=>q m σ M J G H _ _ E h λv H' r N x n f=>?_⟩;obtain⟨L,g,i,_⟩:=n.freeze x;split at f
 .rename_i c fs I;obtain⟨rfl,f⟩:=f;rw[I] at i;show⟨v,fs,rfl,i.mono g.s,k _ _ _ L g (eY (jZ _ _ _)) f⟩
 show f.elim
theorem Qi{T:String}{l a:Str}{p d:Pos}(B:PD X e te)(C:uT X.K D)(y:PySem.W.nsIn X.K mainGlobals l=some (some (.ref D)))(hm:X.mg "isinstance"=none)(w:X.mg a=none)(A:bootBuiltins a=some (.type T))(hb:PySem.W.kitOne X.K (.ref D) (.type T)=some b)
  (hg:Gl X "isinstance":=by rfl) (o:Gl X a:=by rfl) (hn:a≠"__name__":=by decide) (hd:(a==("__debug__":Str))=false:=by decide) (j:starEach [e,Expr.Name a d] X.env=(false,eval e X.env)::starEach [Expr.Name a d] X.env:=by rfl) (z:starEach [Expr.Name a d] X.env=(false,eval (.Name a d) X.env)::starEach [] X.env:=by rfl)
  (F:(backTo pos (starEach [Expr.Name a d] X.env)).any (·.1)=false:=by rfl):PD X (.Call (.Name "isinstance" p) [e,.Name a d] [] pos) (u6 l b te):=by
 obtain⟨t,pp,q⟩:=B;show⟨_,vq (Lq (c:=.ty T) (uc:=.type T) (b:=b) C y (λu h=>h) hb) hg hm boot_isinstance (ie pp (ie (B1 (v:=.ty T) o w A rfl hn hd) kl z) j) (by decide) (by decide) j F,λm σ M J G H Q P E h k=>q m σ M J G H _ _ E h λv H' r N x n f=>?_⟩;obtain⟨L,g,i,_⟩:=n.freeze x;split at f
 .rename_i c fs I;obtain⟨rfl,f⟩:=f;rw[I] at i;show⟨v,fs,rfl,i.mono g.s,k _ _ _ L g (eY (jZ _ _ _)) f⟩
 show f.elim
theorem Kr:∀(cs:List (Str×Addr×Pos)),(∀c∈cs,X.mg c.1=some (.ref c.2.1)/\Gl X c.1/\(c.1==("__debug__":Str))=false)->(∀a,(∃l,a=(cs.drop l).map λc=>Expr.Name c.1 c.2.2)->starEach a X.env=match a with | []=>starEach [] X.env | e::r=>(false,eval e X.env)::starEach r X.env)->
  ∃t,PA X (cs.map λc=>Expr.Name c.1 c.2.2) t/\∀(σ:St)(H:Hp)(Q:List V->Hp->Prop),Q (cs.map λc=>V.ref c.2.1) H->t σ H Q
 | [],_,_=>⟨_,kl,λ_ _ _ q=>q⟩
 | c::cs,h,b=>by
  obtain⟨t,p,q⟩:=Kr cs (λd hd=>h d (ax _ hd)) (λa j=>by obtain⟨l,e⟩:=j;show b a ⟨l+1,e⟩);obtain⟨i,g,f⟩:=h c aT;show⟨_,ie (Kp (v:=.ref c.2.1) g i rfl f) p (b _ ⟨0,rfl⟩),λσ H Q z=>q σ H _ z⟩
theorem R1{cs:List (Str×Addr×Pos)}{u:Str}{p d:Pos}{a:Nat}(J:PD X e te)(M:uT X.K D)(A:PySem.W.nsIn X.K mainGlobals u=some (some (.ref D)))(hm:X.mg "isinstance"=none)(L:∀c∈cs,X.mg c.1=some (.ref c.2.1)/\Gl X c.1/\(c.1==("__debug__":Str))=false)
  (hb:PySem.W.kitAny X.K (.ref D) ((cs.map λc=>c.2.1).map Value.ref)=some b) (I:cs.length<=sizeLine) (C:∀g,(∃l,g=(cs.drop l).map λc=>Expr.Name c.1 c.2.2)->starEach g X.env=match g with | []=>starEach [] X.env | e::r=>(false,eval e X.env)::starEach r X.env)
  (hg:Gl X "isinstance":=by rfl) (n:starEach [e,Expr.Tuple (cs.map λc=>Expr.Name c.1 c.2.2) a d] X.env=(false,eval e X.env)::starEach [Expr.Tuple (cs.map λc=>Expr.Name c.1 c.2.2) a d] X.env:=by rfl)
  (B:starEach [Expr.Tuple (cs.map λc=>Expr.Name c.1 c.2.2) a d] X.env=(false,eval (Expr.Tuple (cs.map λc=>Expr.Name c.1 c.2.2) a d) X.env)::starEach [] X.env:=by rfl)
  (N:(backTo pos (starEach [Expr.Tuple (cs.map λc=>Expr.Name c.1 c.2.2) a d] X.env)).any (·.1)=false:=by rfl):PD X (.Call (.Name "isinstance" p) [e,.Tuple (cs.map λc=>Expr.Name c.1 c.2.2) a d] [] pos) (u6 u b te):=by
 obtain⟨t,pp,q⟩:=J;obtain⟨U,pg,z⟩:=Kr (X:=X) cs L C;show⟨_,vq (Uu (cs:=cs.map λc=>c.2.1) (b:=b) M A hb) hg hm boot_isinstance (ie pp (ie (wZ pg) kl B) n) (by decide) (by decide) n N,λw σ T R G H Q P E h k=>q w σ T R G H _ _ E h λv H' r Y x y f=>?_⟩;obtain⟨S,j,m,_⟩:=y.freeze x;split at f
 .rename_i c fs O;obtain⟨rfl,f⟩:=f;rw[O] at m;show z _ _ _ ⟨by simpa using I,λp F=>?_⟩;have i:=j.trans (Ext.own (o:=.tup (cs.map λc=>V.ref c.2.1)) j.s F);show⟨v,p,fs,rfl,?_,m.mono i.s,k _ _ _ S i (eY (jZ _ _ _)) f⟩;rw[aF];show dF.of eT
 show f.elim
end
theorem T5(o:Obj)(f:Array Value->Array Value):(o.mapFields f).dict=o.dict:=by
 obtain⟨c,d,a,s⟩:=o;cases a<;>rfl
def ZM(h B:Heap)(e:Addr)(cls:Value)(g:Option Addr)(f:Value):Prop:=
 ∃a b T d c,h.get? e=some a/\(a.cls=cls/\a.dict=g)/\a.data=.fields b/\b[1]?=some (.ref T)/\(B.get? T=none/\T≠e)/\h.get? T=some d/\d.data=.fields c/\c[3]?=some f
structure pH(B:Heap)(l:List Env)(e:Addr)(cls:Value)(dd:Option Addr)(fl:Value)(h:Heap):Prop where
 st:B.StaysIn h
 new:B.get? e=none
 ff:h.FunFrames B l
 tr:ZM h B e cls dd fl
theorem pH.there{B h:Heap}{l:List Env}{e:Addr}{cls j:Value}{b:Option Addr}(x:pH B l e cls b j h):∃o a,h.get? e=some o/\o.cls=cls/\o.dict=b/\o.data=.fields a:=
 let⟨c,a,_,_,_,i,⟨g,f⟩,d,_⟩:=x.tr;⟨c,a,i,g,f,d⟩
section
variable{M:Model}{A:Around}{E:Value->Shared->Prop}{s:Shared}{B:Heap}{env:Env}{outer l:List Env}{L e T:Addr}{oe oT:Obj}{vs ts:Array Value}{cls fl head x:Value}{dd:Option Addr}{Q:Unit->Shared->Prop}
theorem EA{h:Heap}(c:h.get? e=some oe)(hd:oe.data=.fields vs)(k:Nat)(x:Value) :
  (h.update e (Obj.mapFields (·.setIfInBounds k x))).get? e=some (oe.mapFields (·.setIfInBounds k x))/\(∀b,b≠e->(h.update e (Obj.mapFields (·.setIfInBounds k x))).get? b=h.get? b)/\h.UpToSlots (h.update e (Obj.mapFields (·.setIfInBounds k x))):=by
 have a:∀b,b≠e->(h.update e (Obj.mapFields (·.setIfInBounds k x))).get? b=h.get? b:=λb hb=>aP _ _ (Ne.symm hb)
 show⟨bD _ c (Obj.isFreed_of_fields (Obj.data_mapFields hd _)),a,λb o q hn=>⟨o.slots,?_⟩⟩;rw[a b λz=>by rw[z,c] at q;cases q;show hn vs hd];show q
theorem DP{h h':Heap}(u:h.UpToSlots h')(f:h.FunFrames B l):h'.FunFrames B l:=f.of_keeps λb o q hn=>let⟨_,z⟩:=u b o q hn;⟨_,z,rfl⟩
theorem Jk{r:Bool}(u:A.frames=some (env::outer))(ff:s.heap.FunFrames B (env::outer))(v:env.frame=some L)(l:s.heap.get? e=some oe)(st:B.StaysIn s.heap)(new:B.get? e=none)(hd:oe.data=.fields vs)(m:1<vs.size)
  (k:∀h',pH B (env::outer) e oe.cls oe.dict (rawInt L) h'->s.heap.UpToSlots h'->Q () { s with heap:=h' }) :
  wpAny M A (do let a <-frameOf env;let pl <-entryPlaceOf L r;let b <-EntryCells.newEntry head a .none (rawInt L) .none pl;setField (.ref e) 1 b) Q E s:=by
 have t:∀b∈(env::outer).filterMap (·.frame),b≠e:=λb hb z=>by
  obtain⟨_,o,j,hn⟩:=ff.mem hb;rw[z,l] at j;cases j;show hn vs hd
 show aa (wpAny_frameOf_fun u ff v λg so=>aa (wpAny_entryPlaceOf λpl n=>?_));unfold EntryCells.newEntry newFields;show aa (bG ?_ (n.sizeOk5 _ _ _ _ _));generalize y:({ cls:=.type "traceback",dict:=none,data:=.fields _ }:Obj)=ob;obtain⟨us,c,x⟩:∃us,ob.data=.fields us/\us[3]?=some (rawInt L):=by
  rw[<-y];show⟨_,rfl,?_⟩;first | (simp;done) | (rcases n with rfl | ⟨_,_,_,_,_,_,_,rfl⟩<;>simp)
 have g1:g.get? e=some oe:=(so.2.1 e λz=>t e z rfl).trans l;have f:s.heap.UpToSlots g:=λb o q _=>so.2.2 b o q
 have d:g.UpToSlots (g.push ob):=.of_keeps λb o q=>ae ob q
 have g2:=ae ob g1;have w:(g.push ob).get? g.objs.size=some ob:=az g (Obj.isFreed_of_fields c);have p:g.objs.size≠e:=Nat.ne_of_gt (aq g1);have s1:B.StaysIn g:=λb o q=>(so.2.1 b λz=>by rw[(ff.mem z).1] at q;cases q).trans (st b o q)
 obtain⟨r1,i,h⟩:=EA g2 hd 1 (.ref g.objs.size);show wpAny_setField g2 hd m (k _ ⟨λb o q=>?_,new,DP ((f.trans d).trans h) ff,_,_,g.objs.size,_,_,r1,⟨Obj.cls_mapFields _ _,T5 _ _⟩,Obj.data_mapFields hd _,by simp[m],⟨s1.fresh,p⟩,(i _ p).trans w,c,x⟩ ((f.trans d).trans h));rw[i b λz=>by rw[z,new] at q;cases q];show ae ob (s1 b o q)
theorem Ut(d:A.frames=some (env::outer))(ff:s.heap.FunFrames B (env::outer))(a:env.frame=some L)(b:s.heap.get? e=some oe)(st:B.StaysIn s.heap)(new:B.get? e=none)(hd:oe.data=.fields vs)(c:vs[1]?=some .none)
  (k:∀h',pH B (env::outer) e oe.cls oe.dict (rawInt L) h'->s.heap.UpToSlots h'->Q () { s with heap:=h' }):wpAny M A (noteFrame (.ref e) env) Q E s:=by
 unfold noteFrame;simp only[a];show aa (bM b hd c ?_);rw[if_neg (by decide)];show Jk d ff a b st new hd (Array.getElem?_eq_some_iff.mp c).1 k
theorem Kf(l:A.frames=some (env::outer))(h:env.frame=some L)(x:pH B (env::outer) e cls dd .none s.heap)
  (k:∀h',pH B (env::outer) e cls dd (rawInt L) h'->s.heap.UpToSlots h'->Q () { s with heap:=h' }):wpAny M A (noteFrame (.ref e) env) Q E s:=by
 obtain⟨st,new,ff,oe,vs,T,oT,ts,he,⟨rfl,rfl⟩,hd,j,⟨hn,m⟩,c,a,i⟩:=x;unfold noteFrame;simp only[h];show aa (bM he hd j ?_);rw[if_pos (show(Value.ref T != Value.none)=true from by simp)];show aa (bM c a i ?_);rw[if_neg (show ¬((Value.none==rawInt L)=true) from by simp[rawInt])];obtain⟨r1,g,d⟩:=EA c a 3 .none;show aa (wpAny_setField c a (Array.getElem?_eq_some_iff.mp i).1 ?_);show Jk l (DP d ff) h ((g e (Ne.symm m)).trans he) (λb o q=>?_) new hd (Array.getElem?_eq_some_iff.mp j).1 λh' f u=>k h' f (d.trans u)
 show(g b λz=>by rw[z,hn] at q;cases q).trans (st b o q)
theorem BX(x:pH B l e cls dd fl s.heap)(k:∀h',pH B l e cls dd .none h'->s.heap.UpToSlots h'->Q () { s with heap:=h' }):wpAny M A (setFlight (.ref e) none) Q E s:=by
 obtain⟨st,new,ff,oe,vs,T,oT,ts,he,m,hd,i,⟨hn,j⟩,h,a,n⟩:=x;have c:3<ts.size:=(Array.getElem?_eq_some_iff.mp n).1;unfold setFlight;show aa (bM he hd i ?_);rw[if_pos (show(Value.ref T != Value.none)=true from by simp)];obtain⟨r1,g,d⟩:=EA h a 3 ((none:Option Addr).elim Value.none λf=>rawInt f);show wpAny_setField h a c (k _ ⟨λb o q=>(g b λz=>by rw[z,hn] at q;cases q).trans (st b o q),new,DP d ff,oe,vs,T,_,_,(g e (Ne.symm j)).trans he,m,hd,i,⟨hn,j⟩,r1,Obj.data_mapFields a _,by simp[c]⟩ d)
theorem VG(b:A.frames=some (env::outer))(ff:s.heap.FunFrames B (env::outer))(c:env.frame=some L)(d:s.heap.get? e=some oe)(st:B.StaysIn s.heap)(new:B.get? e=none)(hd:oe.data=.fields vs)(h:vs[1]?=some .none)
  (k:∀h',pH B outer e oe.cls oe.dict .none h'->s.heap.UpToSlots h'->Q () { s with heap:=h' }):wpAny M A (leaving env (.ref e)) Q E s:=
 aa (Ut b ff c d st new hd h λh' f u=>BX f λg f2 a=>k g ⟨f2.st,f2.new,f2.ff.2.2,f2.tr⟩ (u.trans a))
theorem T4(b:A.frames=some (env::outer))(c:env.frame=some L)(x:pH B (env::outer) e cls dd .none s.heap)
  (k:∀h',pH B outer e cls dd .none h'->s.heap.UpToSlots h'->Q () { s with heap:=h' }):wpAny M A (leaving env (.ref e)) Q E s:=
 aa (Kf b c x λh' f u=>BX f λd f2 a=>k d ⟨f2.st,f2.new,f2.ff.2.2,f2.tr⟩ (u.trans a))
end
section
variable{prog:Program}{w:World}{A:Around}{E:Value->Shared->Prop}{h:Heap}{g:Array GenState}{d:Drawn}{t:Nat}{os:OsState}
variable{nm q:Str}{C N fI:Addr}{bs bm bmB:List Value}{oJ:Bool}{sn:List Str}{sub:List Value}{ab:Bool}{col:Option Bool}{dd:Option Addr}{k0 k1 k2 k3 k5:Option Value}{B newId initId:String}{mN:Str->Option Value}{rest:List Value}{oI:Obj}
theorem T1(F:ExcBaseFacts B newId initId bmB)(T:OwnTail h bmB bm){Q:Value->Shared->Prop}(a:h.get? C=some (excClassObj nm q C N bs bm oJ sn sub ab col dd k0 k1 k2 k3 k5 newId))(hn:h.Ns N mN)(n:mN "__init__"=some (.ref fI))(v:h.get? fI=some oI)(y:oI.cls=.type "function")
  (k:∀h' e,Heap.MadeExcOf h h' e (.ref C) rest->wpAny (model prog w) (A.under (.builtin "type.__call__" ⟨.ref C::rest,[]⟩)) (call (.ref fI) (.ref e::rest)) (λr i=>r=.none/\Q (.ref e) i) E ⟨h',g,d,t,os⟩) (l:rest.length<=sizeLine) :
  wpAny (model prog w) A (call (.ref C) rest) Q E ⟨h,g,d,t,os⟩:=by
 have f1:=tc_lookup;have f2:=tc_bind (.ref C);have D:(⟨h,g,d,t,os⟩:Shared).TypeIs (.ref C) "type":=⟨_,a,rfl⟩
 show wpAny_call (codeAny_of_tree ?_);show wpAny _ _ (callAny (.ref C) _) _ _ _;repeat(any_goals (first | assumption | with_reducible show wpAny_loadPart_at a ?_ | wp_step))
 show⟨rfl,codeAny_call_builtin_at (Code.quiet_builtin _ (by decide +kernel)) entry_typeCall (wpAny_check_type_call_sub a ?_)⟩;repeat(first | with_reducible show wpAny_loadPart_at a ?_ | with_reducible show wpAny_madeBy_exc a ?_ | wp_step)
 show codeAny_call_builtin_code (Code.quiet_builtin _ F.quiet) (wpAny_check_new_subT F T a (codeAny_exc_new_subT F T a ?_ l));generalize c:(h.push _).push _=f;have kp:∀b o,h.get? b=some o->f.get? b=some o:=λb o z=>by rw[<-c];show ae _ (ae _ z)
 have ge:f.get? (h.objs.size+1)=some { cls:=.ref C,data:=.fields #[.ref h.objs.size,.none,.none,.none,.bool false,.none] }:=by rw[<-c];heap_get
 have s:f.get? h.objs.size=some { cls:=.type "tuple",data:=.seq rest.toArray }:=by rw[<-c];show ae _ (Heap.get?_push_at rfl rfl)
 clear c;have j:=kp _ _ a;have u:(Value.ref C::bm).contains (.ref C)=true:=by simp
 show wpAny _ _ _ _ _ _;unfold isInstance;repeat(first | with_reducible show wpAny_loadPart_at ge ?_ | (with_reducible show wpAny_isSubtype_exc j ?_;rw[u]) | wp_step)
 show wpAny _ _ (typeLookup (.ref C) _) _ _ _;show wpAny_typeLookup_tail j (hn.keeps kp) (T.keeps kp) F.mroIs F.init.lookup ?_;rw[n];show bz (aa ?_);unfold bindSpecial;show aa (wpAny_typeOf (T:="function") ⟨_,kp _ _ v,y⟩ ?_);rw[if_pos (by decide)];show ai (aa (bE (k _ (h.objs.size+1) ⟨kp,Heap.get?_none_of_le (Nat.le_succ _),h.objs.size,ge,Heap.get?_none_of_le (au _),s⟩) (λr i m=>?_) λ_ _ x=>x));obtain⟨rfl,p⟩:=m;wp_walk
 show p
end
noncomputable def nk(K:J')(C:Addr)(bmB:List Value)(newId:String)(a:Option Addr):Bool:=match K.lookup C with
 | some ⟨.type "type",_,.cls cd,sl⟩=>(match cd.mro,sl.toList with
  | .ref b::bm,[_,_,_,_,some (.builtin n),_]=>b==C&&n==newId&&!cd.hasDel&&PySem.W.tailIn K bmB bm&&PySem.W.nsOkIn K cd.ns&&PySem.W.nsIn K cd.ns "__init__"==some (a.map Value.ref)
  | _,_=>false)
 | _=>false
def nt(C:Addr)(bmB:List Value)(newId:String)(c:Option Addr)(h:Heap):Prop:=
 ∃bm N nm q bs b sn sub i col g k0 k1 f e d a,h.get? C=some (excClassObj nm q C N bs bm b sn sub i col g k0 k1 f e d newId)/\h.Ns N a/\a "__init__"=c.map Value.ref/\OwnTail h bmB bm
theorem NO{K:J'}{h:Heap}{N:Addr}{m:Str->Option Value}{n:Str}{v:Option Value}(X:K.In h)(G:h.Ns N m)(e:PySem.W.nsIn K N n=some v):m n=v:=by
 obtain⟨o,b,ep,a,hd,_,hf⟩:=G;unfold PySem.W.nsIn at e;split at e
 .rename_i look;have:=X _ _ look;rw[a] at this;cases this;cases hd;rw[<-hf];unfold nsFind findBy;split at e
  .rename_i he;cases e;rw[<-Array.find?_toList,he];rfl
  rename_i he;rw[<-Array.find?_toList,he];split at e
  .cases e
  cases e;rfl
 cases e
theorem nt.of{K:J'}{C:Addr}{bmB:List Value}{newId:String}{d:Option Addr}{h:Heap}(X:K.In h)(z:nk K C bmB newId d=true):nt C bmB newId d h:=by
 unfold nk at z;split at z
 .rename_i o cd sl look;split at z
  .rename_i p n m l k j nn i he hz;simp only[bj,beq_iff_eq,Bool.not_eq_true'] at z;obtain⟨⟨⟨⟨⟨g,f⟩,c⟩,e⟩,b⟩,a⟩:=z;subst g f;cases cd;dsimp only at he c b a;subst he c;obtain rfl:sl=#[m,l,k,j,some (.builtin nn),i]:=by
    cases sl;simp only at hz;rw[hz]
   have N:Heap.Ns h _ _:=.of_isNs (PySem.W.isNs_of_in X b);show⟨_,_,_,_,_,_,_,_,_,_,_,_,_,_,_,_,_,X _ _ look,N,NO X N a,PySem.W.tail_of_in X e⟩
  cases z
 cases z
def kH(e C:Addr)(a:Option Addr):Heap->Prop:=λh=>∃t,h.get? e=some { cls:=.ref C,dict:=a,data:=.fields #[.ref t,.none,.none,.none,.bool false,.none] }
theorem Eh{P:Program}{w:World}{H:Hp}{h:Heap}{e C:Addr}{a:Option Addr}(x:kH e C a h):cM P w H h e (.ext (kH e C a)):=
 ⟨x,⟨_,x.choose_spec⟩,λ_ _ ⟨t,z⟩ k=>⟨t,k _ z⟩⟩
theorem Pp{H:Hp}{a:Addr}{o:HO}(h:H a=some o):upd H a o=H:=by
 funext b
 unfold upd;split
 .rename_i z;rw[z,h]
 rfl
section
variable{X:Cx}{pos p ap:Pos}{es:List Expr}{e1 e2:Expr}{W:Str}{Wa:Addr}{B newId initId:String}{bmB:List Value}{t1 t2:TE}
def NN(K:J')(bmB:List Value)(newId:String)(c:TA):TE:=λσ H Q=>c σ H λb H1=>∃a v C e d,b=[.ref a,v]/\H1 a=some (.ext (kH a C e))/\nk K C bmB newId d=true/\Q .non H1
theorem Qh{i:TA}{pl:Sem Bool}(F:ExcBaseFacts B newId initId bmB)(hm:X.mg W=some (.ref Wa))(y:PySem.W.readsIn X.K Wa (.type "type")=true)(w:PySem.W.specialIn X.K (.ref Wa) "__getattribute__"=some (some (.builtin "type.__getattribute__")))
  (A:PySem.W.findCls X.K (.ref Wa) (.type "type") "__init__"=some (.val (.builtin initId))) (hh:PySem.W.handedIn (.builtin initId)=true) (ha:PA X [e1,e2] i) (hg:Gl X W:=by rfl) (hd:(W==("__debug__":Str))=false:=by decide)
  (G:starEach [e1,e2] X.env=(false,eval e1 X.env)::starEach [e2] X.env:=by rfl) (E:(backTo pos (starEach [e2] X.env)).any (·.1)=false:=by rfl)
  (ht:eval (.Call (.Attribute (.Name W p) "__init__" ap) [e1,e2] [] pos) X.env=(do
   let ov <-eval (.Name W p) X.env
   standAt ap.atName
   let(f,first) <-holding [ov] (getMethod ov "__init__" pl)
   callWith pos f first (backTo pos (starEach [e1,e2] X.env)) (backToKw pos (keywordEach [] X.env))):=by rfl) :
  PE X (.Call (.Attribute (.Name W p) "__init__" ap) [e1,e2] [] pos) (NN X.K bmB newId i):=by
 intro P s σ H Q I h;show PySem.W.methodCall_KW (pl:=pl) (xh I hg hm ?_ hd) ht;show PySem.W.method_cls I.g8 w (PySem.W.cls_value I.g8 y A hh ?_);show PyProof.Rows.callWith_builtin1 (cQ (ha pos P _ σ H _ (I.tok _) h) λus s1 M=>?_) G E;obtain⟨R,H1,I1,r,a,v,C,L,Y,n,c,m,q⟩:=M;subst n;obtain⟨l,k,rfl,r1,S⟩:=pV r;cases (show l=Value.ref a from r1);obtain⟨bm,N,nm,T,bs,U,sn,sub,ab,col,dc,k0,k1,k2,k3,Z,V,D,hN,Hj,O⟩:=nt.of I1.g8 m;obtain⟨t,he⟩:=(I1.cH a _ c).1;obtain⟨j,g,d,tk,os⟩:=s1;show wpAny_call (codeAny_call_builtin F.init.plain F.initEntry (wpAny_check_init_subT F O D he rfl ?_));wp_walk
 have ge:=bD (Obj.mapFields λx=>x.setIfInBounds 0 (Value.ref j.objs.size)) (ae { cls:=.type "tuple",data:=.seq #[k] } he) rfl;show⟨.non,H1,?_,rfl,q⟩;have J:=I1.write (x:=a) (e:=a) (o:=.ext (kH a C L)) (t':=tk) (by rw[c];trivial) (.inl rfl) (λb u hb z=>(aP _ _ (Ne.symm hb)).trans (ae _ z)) ⟨_,ge⟩ (Eh ⟨j.objs.size,ge⟩);rw[Pp c] at J;show J
end
open Builtin Builtin.ObjectAttr
noncomputable def behind(a:List Value):List Value->Bool
 | []=>a==[]
 | v::r=>(v::r)==a||match v with
  | .ref _=>behind a r
  | _=>false
theorem LW{b:List Value}{self:Value}(a:refuseLoop self "__setattr__" b=pure ()):∀{l:List Value},behind b l=true->refuseLoop self "__setattr__" l=pure ()
 | [],e=>by rw[beq_iff_eq.mp e] at a;show a
 | v::r,e=>by
  unfold behind at e;rcases Bool.or_eq_true_iff.mp e with q | q
  .rw[beq_iff_eq.mp q];show a
  split at q
  .rw[refuseLoop_ref];show LW a q
  cases q
theorem LO{b:List Value}{v:Value}(a:b.contains v=true):∀{l:List Value},behind b l=true->l.contains v=true
 | [],e=>by rw[beq_iff_eq.mp e] at a;show a
 | u::r,e=>by
  unfold behind at e;rcases Bool.or_eq_true_iff.mp e with q | q
  .rw[beq_iff_eq.mp q];show a
  split at q
  .rw[List.contains_cons,LO a q,Bool.or_true]
  cases q
noncomputable abbrev Il:List Value:=[.type "ValueError",.type "Exception",.type "BaseException",.type "object"]
section
variable{prog:Program}{w:World}{A:Around}{E:Value->Shared->Prop}{s:Shared}{K:J'}{x C dx:Addr}{ox:Obj}{od:Option Obj}{name:Str}{v:Value}{cd:ClassData}{Q:Unit->Shared->Prop}
theorem R0(X:K.In s.heap)(I:PySem.W.InstAt s.heap x ox C od)(d:PySem.W.clsIn K C=some cd)(hb:behind Il cd.mro=true)(e:PySem.W.findIn K (.ref C) "__setattr__"=some (some (.builtin "object.__setattr__")))(hn:PySem.W.findIn K (.ref C) name=some none)
  (k:∀tk b,wpAny (model prog w) A.in1 (storeInOwnDict (.ref x) (.ref C) (.str name tk) name v b) (λfin c=>match fin with | .done (.ret _)=>Q () c | _=>False) E { s with toks:=s.toks+1 }) :
  wpAny (model prog w) A (setAttr (.ref x) name v) Q E s:=by
 have a:=PySem.F.store_ValueError;have ne:cd.mro.isEmpty=false:=by
  cases q:cd.mro with
  | nil=>rw[q] at hb;cases hb
  | cons _ _=>rfl
 have sub:PySem.W.Looks (model prog w) s.heap (isInstance (.ref x) (.type "object")) true:=I.type.andThen (PySem.W.looks_mroIn X (by unfold PySem.W.mroIn;rw[d,Option.bind_some,if_neg (by rw[ne];decide),LO rfl hb]));have hm:PySem.W.Looks (model prog w) s.heap (mroOf (.ref C)) cd.mro:=(PySem.W.looks_clsIn X d).andThen .now;show PySem.W.set_plain X I e ?_;show codeAny_call_builtin a.slot.plain a.entry (@PySem.W.check_slot (model prog w) _ _ { s with toks:=s.toks+1 } "object.__setattr__" "object" "__setattr__" (.ref x) [.str name s.toks,v] [] _ a.kind a.split sub (a.args (.ref x) (.str name s.toks) v) ?_);rw[PySem.W.osa_eq,refuse_eq];show aa (aa (PySem.W.Looks.here (s:={ s with toks:=s.toks+1 }) I.type (aa (PySem.W.Looks.here (s:={ s with toks:=s.toks+1 }) hm ?_))));rw[LW (a.passes _) hb];show ai (aa (PySem.W.Looks.here (s:={ s with toks:=s.toks+1 }) I.type (aa (PySem.W.Looks.here (s:={ s with toks:=s.toks+1 }) (PySem.W.looks_findIn X hn) (aa (PySem.W.Looks.here (s:={ s with toks:=s.toks+1 }) PySem.W.Looks.now ?_))))));show bE (k s.toks _) (λfin c z=>?_) λ_ _ z=>z
 rcases fin with(_ | _ | _ | _) | _<;>first | show z | show z.elim
theorem Qf{i:Array Value}(X:K.In s.heap)(a:s.heap.get? x=some ⟨.ref C,none,.fields i,#[]⟩)(n:PySem.W.clsIn K C=some cd)(hd:cd.hasDict=true)(hb:behind Il cd.mro=true)(r:PySem.W.findIn K (.ref C) "__setattr__"=some (some (.builtin "object.__setattr__")))(hn:PySem.W.findIn K (.ref C) name=some none)
  (k:∀h' t',h'.get? x=some ⟨.ref C,some s.heap.objs.size,.fields i,#[]⟩->h'.Ns1 s.heap.objs.size (λy=>if y=name then some v else none)->(∀b o,b≠x->s.heap.get? b=some o->h'.get? b=some o)->Q () { s with heap:=h',toks:=t' }) :
  wpAny (model prog w) A (setAttr (.ref x) name v) Q E s:=by
 show R0 X (od:=none) ⟨a,rfl,rfl,trivial⟩ n hb r hn λtk b=>?_
 obtain⟨h,g,d,t,os⟩:=s;dsimp only at a X k ⊢;show aa (ai (aa (aa (wpAny_loadPart a (aa (PySem.W.Looks.here (s:=⟨h,g,d,t+1,os⟩) (PySem.W.looks_clsIn X n) ?_))))));rw[hd];have j:(h.push { cls:=.type "dict",data:=.dict #[] }).get? x=some _:=ae _ a;have p:x≠h.objs.size:=aE (aq a);show aa (wpAny_alloc' (aa (wpAny_update' j (ai ?_))));generalize c:(h.push _).update x _=f;have u:f.get? x=some ⟨.ref C,some h.objs.size,.fields i,#[]⟩:=by rw[<-c];show bD _ j rfl
 have B:f.get? h.objs.size=some { cls:=.type "dict",data:=.dict #[] }:=by rw[<-c];show(aP _ _ p).trans (Heap.get?_push_at rfl rfl)
 have go:∀b o,b≠x->h.get? b=some o->f.get? b=some o:=λb o hb z=>by rw[<-c];show(aP _ _ (Ne.symm hb)).trans (ae _ z)
 clear c;have nd:f.Ns h.objs.size (λ_=>none):=⟨_,#[],_,B,rfl,λe he=>absurd he (by simp),λ_=>rfl⟩
 show wpAny _ _ (storeInDict h.objs.size (.str name tk) name v) _ _ _;unfold storeInDict newKeyGuard;show aa (ai (aa (wpAny_nsSet1 (Heap.Ns1.of_empty nd) λh' l m=>?_)));obtain⟨oD,D,F,G,H,q⟩:=l.count (PySem.Within.cons name v PySem.Within.nil);show aa (wpAny_lookBehind G (by rw[H];show pastItsLine_dict (bO q (by rw[aG,bP,sizeLine_eq];ext))) ?_);show ai (k h' _ ((m.2 x p).trans u) l λb o hb z=>(m.2 b (aE (aq z))).trans (go b o hb z))
end
def Xd(c:Addr)(b:List (Str×V)):Heap->Prop:=λh=>∃a,h.Ns1 c a/\∀f,jR (b.lookup f) (a f)
theorem NM{P:Program}{w:World}{H:Hp}{h:Heap}{a:Addr}{c:List (Str×V)}(x:Xd a c h):cM P w H h a (.ext (Xd a c)):=by
 show⟨x,?_,λg f ⟨b,⟨o,d,ep,e,r⟩,q⟩ k=>⟨b,⟨o,d,ep,k _ e,r⟩,q⟩⟩;obtain⟨b,⟨o,d,ep,e,_⟩,_⟩:=x;show⟨o,e⟩
structure wF(K:J')(C:Addr)(f:Str):Prop where
 ex:(PySem.W.clsIn K C).any (λcd=>cd.hasDict&&behind Il cd.mro)=true
 sa:PySem.W.findIn K (.ref C) "__setattr__"=some (some (.builtin "object.__setattr__"))
 no:PySem.W.findIn K (.ref C) f=some none
section
variable{X:Cx}{o value:Expr}{ta tv:TE}{f:Str}{pos pos':Pos}
def NL(K:J')(ta tv:TE)(f:Str):TS:=λD σ H=>tv σ H λy H1=>ta σ H1 λx c=>∃a C,x=.ref a/\wF K C f/\c a=some (.ext (kH a C none))/\∀b,c b=none->b≠a->D.nx σ (upd (upd c a (.ext (kH a C (some b)))) b (.ext (Xd b [(f,y)])))
theorem Qe(ha:PE X o ta)(p:PE X value tv)(r:swapsWith value (some (.Attribute o f pos')) pos.line X.env=pure false:=by rfl):PS X (.Assign [.Attribute o f pos'] value pos) (NL X.K ta tv f):=by
 intro k s σ H D I h;show plainObj_wpAny_Assign_Attribute (cQ (p k s σ H _ I h) λu s1 b=>?_) r;obtain⟨y,H1,I1,l,q⟩:=b;show cQ (ha k s1 σ H1 _ I1 q) λov s2 b=>?_
 obtain⟨x,B,I2,m,a,C,ex,c,i,n⟩:=b;subst ex;obtain rfl:ov=Value.ref a:=m;obtain⟨cd,w,hb⟩:=PySem.W.any_some c.ex;rw[bj] at hb;obtain⟨t,he⟩:=(I2.cH a _ i).1;have hn:B s2.heap.objs.size=none:=I2.fresh;have j:s2.heap.objs.size≠a:=Nat.ne_of_gt (aq he);show Qf I2.g8 he w hb.1 hb.2 c.sa c.no λh' t' d hN v=>?_
 have J:=I2.write (x:=a) (e:=a) (o:=.ext (kH a C (some s2.heap.objs.size))) (t':=t') (by rw[i];trivial) (.inl rfl) v ⟨_,d⟩ (Eh ⟨t,d⟩);have A:=J.tell (a:=s2.heap.objs.size) (o:=.ext (Xd s2.heap.objs.size [(f,y)])) I2 (by rw[cL j];show hn) (Heap.get?_none_of_le (au _)) (NM ⟨_,hN,λg=>?_⟩)
 .exact⟨σ,_,A,n _ hn j⟩
 by_cases z:g=f
 .subst z;simp only[List.lookup_cons,beq_self_eq_true,br];show l
 simp only[List.lookup_cons,List.lookup_nil,beq_eq_false_iff_ne.mpr z,if_neg z];trivial
end
def Ds(C:Addr)(f:Str):Sp:=λc H Q _=>∃a v,c=[.ref a,v]/\H a=some (.ext (kH a C none))/\∀b,H b=none->b≠a->Q .non (upd (upd H a (.ext (kH a C (some b)))) b (.ext (Xd b [(f,v)])))
section
variable{P:Program}{w:World}{K:J'}{mg:Str->Option Value}{base:Heap}
theorem NK{b e fn p:Str}{st:Stmt}{f C Wa:Addr}{t:FuncData}{r:Option Addr}{k:Nat}{kk}{m l j g d I G D z x:Pos}{B newId initId:String}{bmB:List Value}(F:DC K "__init__" b st f t)(S:ck ["self",p] ["self",p] (bZ st))
  (hb:cO st=[.Expr (.Call (.Attribute (.Name "WireError" m) "__init__" l) [.Name "self" j,.Constant (.str e) kk g] [] d) I,.Assign [.Attribute (.Name "self" G) fn D] (.Name p z) x]) (X:ExcBaseFacts B newId initId bmB)
  (hm:mg "WireError"=some (.ref Wa)) (M:PySem.W.readsIn K Wa (.type "type")=true) (L:PySem.W.specialIn K (.ref Wa) "__getattribute__"=some (some (.builtin "type.__getattribute__"))) (N:PySem.W.findCls K (.ref Wa) (.type "type") "__init__"=some (.val (.builtin initId))) (hh:PySem.W.handedIn (.builtin initId)=true)
  (J:nk K C bmB newId r=true) (O:wF K C fn) (o:hZ (bZ st) "self") (y:hZ (bZ st) p) (Y:(p==("__debug__":Str))=false) (n:(p==("__classdict__":Str))=false)
  (hg:∀c A outer s H E,Gl (jV jt P w K mg base ["self",p] b (bZ st) f c A outer s H E).lg "WireError")
  (ht:∀c A outer s H E,∃pl,eval (.Call (.Attribute (.Name "WireError" m) "__init__" l) [.Name "self" j,.Constant (.str e) kk g] [] d) (jV jt P w K mg base ["self",p] b (bZ st) f c A outer s H E).lg.env=(do
   let ov <-eval (.Name "WireError" m) (jV jt P w K mg base ["self",p] b (bZ st) f c A outer s H E).lg.env
   standAt l.atName
   let(U,first) <-holding [ov] (getMethod ov "__init__" pl)
   callWith d U first (backTo d (starEach [.Name "self" j,.Constant (.str e) kk g] (jV jt P w K mg base ["self",p] b (bZ st) f c A outer s H E).lg.env)) (backToKw d (keywordEach [] (jV jt P w K mg base ["self",p] b (bZ st) f c A outer s H E).lg.env)))):iC P w K mg base jt (k+1) f t ["self",p] (Ds C fn):=by
 show F.ok S (λu H Q E h=>?_) (λc A outer s H u Q E Z h=>?_)
 .obtain⟨a,v,rfl,_⟩:=h;rfl
 obtain⟨a,v,rfl,ha,q⟩:=h;rw[hb];obtain⟨pl,ht⟩:=ht c A outer s H E;show⟨_,yS (tX (Qh (initId:=initId) (Wa:=Wa) X hm M L N hh (ie (iK (i:=0) rfl o (by decide) (by decide)) (ie JC kl)) (hg c A outer s H E) (by decide) rfl rfl ht) rfl) (yJ (Qe (iK (i:=0) rfl o (by decide) (by decide)) (iK (i:=1) rfl y Y n))),?_⟩;show⟨.ref a,rfl,a,_,C,none,r,rfl,ha,J,v,rfl,.ref a,rfl,a,C,rfl,O,ha,λV T R=>q V T R⟩
end
def IJ(l:List Env)(C a:Addr)(c:Option Addr)(P:Addr->Prop)(h:Heap):Prop:=∃B,pH B l a (.ref C) c .none h/\∀b o,P b->h.get? b=some o->b∉i9 l->B.get? b=some o
def ya(P:Program)(w:World):rf:=λouter H s E e b=>∃a C c H',e=.ref a/\b.os=s.os/\AllBare b.gens/\Un (i9 outer) [] H H' s.heap b.heap/\ic P w H' b.heap/\H' a=none/\s.heap.get? a=none/\IJ outer C a c (rT s H') b.heap/\E (.ref C) c H'
noncomputable def u4(H:Hp)(a:Addr):Hp:=λb=>if b=a then none else H b
theorem xp{H:Hp}{a b:Addr}(h:b≠a):u4 H a b=H b:=if_neg h
theorem RZ{H:Hp}{a b:Addr}{o:HO}(h:u4 H a b=some o):b≠a/\H b=some o:=by
 unfold u4 at h;split at h
 .cases h
 rename_i z;show⟨z,h⟩
section
variable{X:Cx}{K':List (Addr×Obj)}{σ:St}{H:Hp}{s:Shared}{a:Addr}{φ:Heap->Prop}
theorem Inv.drop{f:Hp}{j:Shared}(I:Inv X K' σ H s)(e:H a=some (.ext φ))(I1:Inv X K' σ f j)(d:f a=none):Inv X K' σ (u4 H a) s:=by
 have nn:∀b,H b=none->u4 H a b=none:=λb z=>by
  unfold u4;split
  .rfl
  show z
 show⟨I.ok,I.os,I.bare,⟨I.base.keep,I.base.slot,λb o z n l=>nn b (I.base.free b o z n l),I.base.there,λb xs z=>?_,λb o u z=>?_,λb ps z=>?_⟩,I.loc,I.cell,nn _ I.free,λx c z=>nn _ (I.fA x c z),λp r=>?_,λb u z=>?_,I.len⟩
 .rw[xp (iu (I1.base.iM b xs z) d)];show I.base.iM b xs z
 .rw[xp (iu (I1.base.iz b o u z) d)];show I.base.iz b o u z
 .obtain⟨m,q⟩:=I.base.iO b ps z;obtain⟨t,k⟩:=I1.base.iO b ps z;show⟨m,by rw[xp (iu k d)];show q⟩
 .obtain⟨i,h,g⟩:=I.pin p r;show⟨i,nn _ h,g⟩
 obtain⟨hb,q⟩:=RZ z;show(I.cH b u q).f6 (λ_ _ _ q=>q) (λc q=>?_) λc xs q=>?_
 .rw[xp λz=>by rw[z,e] at q;cases q];show q
 rw[xp λz=>by rw[z,e] at q;cases q];show q
def DD(X:Cx)(W:XK):Prop:=∀(K':List (Addr×Obj))(σ:St)(H:Hp)(s:Shared)(a C:Addr)(b:Option Addr),Inv X K' σ H s->H a=none->X.c7.heap.get? a=none->IJ X.stack C a b (rT X.c7 H) s.heap->W (.ref C) b H->X.xe (.ref a) s
def DO(X:Cx)(W:XK):Prop:=∀(K':List (Addr×Obj))(σ:St)(H:Hp)(s:Shared)(a C:Addr)(b:Option Addr),Inv X K' σ H s->H a=none->X.c7.heap.get? a=none->kH a C b s.heap->W (.ref C) b H->X.xe (.ref a) s
theorem NJ{W:XK}(f:X.ex=[])(T:DD X W):BS (ya X.prog X.w) X W:=by
 intro K' σ H s e i I ⟨a,C,m,H',he,os,bare,un,cH,hn,k,⟨B,l,j⟩,w⟩;subst he;obtain⟨hh,g,d,t,h⟩:=i;obtain rfl:h=s.os:=os;have back:∀b o,X.c7.heap.get? b=some o->∃o',s.heap.get? b=some o':=λb o e=>I.base.there b o e (by rw[f];simp)
 show T K' σ H' _ a C m (I.call (h':=hh) (g':=g) (d':=d) (t':=t) (ch:=[]) un cH bare λb z=>absurd z (by simp)) hn ?_ ⟨B,l,λb o hb e n=>j b o (hb.imp (λp=>by obtain⟨o',c⟩:=p;show back b o' c) id) e n⟩ w;cases q:X.c7.heap.get? a with
 | none=>rfl
 | some o=>
  obtain⟨o',c⟩:=back a o q;rw[k] at c;cases c
end
section
variable{P:Program}{w:World}{K:J'}{mg:Str->Option Value}{base:Heap}{N:List Str}{qual:Str}{scope:Scope}{f C:Addr}{cd:Value}{A:Around}{outer:List Env}{s0:Shared}{H0:Hp}{E:XK}
theorem Qd:DD (jV (ya P w) P w K mg base N qual scope f cd A outer s0 H0 E) E:=by
 intro h σ H s a C e I hn h0 ⟨B,d,c⟩ hw;show T4 (B:=B) (outer:=outer) I.ok.frames rfl d λh' b up=>?_
 obtain⟨un,cH,g⟩:=I.gone rfl rfl rfl b.st c up;show⟨a,C,e,H,rfl,I.os,I.bare,un,cH,hn,h0,⟨B,b,g⟩,hw⟩
theorem RY:DO (jV (ya P w) P w K mg base N qual scope f cd A outer s0 H0 E) E:=by
 intro k σ H s a C h I hn h0 ⟨t,he⟩ hw;have g:=I.oM.gG;obtain⟨l,j⟩:∃l,l=i9 (envOfC qual scope s0.heap.objs.size f cd::outer):=⟨_,rfl⟩
 have no:∀b,rT s0 H b->b≠a:=λb hb z=>by
  rcases hb with⟨o,e⟩ | e
  .rw[z,show s0.heap.get? a=none from h0] at e;cases e
  show e (by rw[z];show hn)
 have d:∀b o,rT s0 H b->s.heap.get? b=some o->b∉i9 (envOfC qual scope s0.heap.objs.size f cd::outer)->(PySem.W.hideAll s.heap (a::i9 (envOfC qual scope s0.heap.objs.size f cd::outer))).get? b=some o:=λb o hb e n=>PySem.W.hideAll_get _ e λz=>(aj.mp z).elim (no b hb) n
 show VG (B:=PySem.W.hideAll s.heap (a::i9 (envOfC qual scope s0.heap.objs.size f cd::outer))) (outer:=outer) I.ok.frames (PySem.W.funFrames_hide g λenv he b hb=>ax _ (List.mem_filterMap.mpr ⟨env,he,hb⟩)) rfl he (λb o q=>PySem.W.of_hideAll _ q) (PySem.W.hideAll_none _ (by simp)) rfl rfl λh' c up=>?_
 obtain⟨un,cH,i⟩:=I.gone rfl rfl rfl c.st d up;show⟨a,C,h,H,rfl,I.os,I.bare,un,cH,hn,h0,⟨_,c,i⟩,hw⟩
end
section
variable{M:Model}{A:Around}{E:Value->Shared->Prop}{s:Shared}{env:Env}{Q:Flow->Shared->Prop}{x:Sem Value}{bmB:List Value}{newId:String}
theorem Uo(i:bmB.contains (.type "BaseException")=true)(hh:A.handled=none)(h:wpAny M A x (λv s1=>∃a C e b,v=.ref a/\nt C bmB newId b s1.heap/\kH a C e s1.heap/\E (.ref a) s1) E s):wpAny M A (raiseStmt env (some x) none) Q E s:=by
 unfold raiseStmt;show aa (bE h (λv s1 z=>?_) λ_ _ z=>z);obtain⟨a,C,e,b,rfl,⟨bm,N,nm,l,bs,m,sn,sub,u,col,dc,k0,k1,q,p,o,n,c,hN,w,k⟩,⟨t,he⟩,f⟩:=z;have j:(Value.ref C::bm).contains (.type "BaseException")=true:=by rw[List.contains_cons,k.hasType i,Bool.or_true]
 obtain⟨r,g,d,tk,os⟩:=s1;repeat(first | with_reducible show wpAny_loadPart_at he ?_ | with_reducible show wpAny_loadPart_at c ?_ | (with_reducible show wpAny_isSubtype_exc c ?_;rw[j]) | wp_step)
 show wpAny_raiseNew_none hh f
end
section
variable{X:Cx}{pos np eU:Pos}{te:TE}{e0:Expr}{W:XK}{C f:Addr}{fd:FuncData}{ps:List Str}{k k':Nat}{x fn:Str}{B newId initId:String}{bmB:List Value}
def Qc(W:XK)(C:Addr)(fn:Str)(te:TE):TS:=λ_ σ H=>te σ H λv H1=>[v].length=1/\∀a,H1 a=none->W (.ref C) (some a) (upd H1 a (.ext (Xd a [(fn,[v].headD .non)])))
theorem Um(Z:ExcBaseFacts B newId initId bmB)(O:nk X.K C bmB newId (some f)=true)(hm:X.mg x=some (.ref C))(Ht:PySem.W.keepIn X.K (.ref C)=true)(M:PySem.W.typeIn X.K (.ref f)=some (.type "function"))(F:iC X.prog X.w X.K X.mg X.base jt k f fd ps (Ds C fn))(hb:Binds X.K fd ps [])(hr:dG (k+1) X.A)(hc:X.calm=true)(n:X.ex=[])(T:DO X W)(he:PE X e0 te)(hg:Gl X x:=by rfl)(hd:(x==("__debug__":Str))=false:=by decide)
  (P:starEach [e0] X.env=(false,eval e0 X.env)::starEach [] X.env:=by rfl) (hp:(backTo eU (starEach [] X.env)).any (·.1)=false:=by rfl):PS X (.Raise (some (.Call (.Name x np) [e0] [] eU)) none pos) (Qc W C fn te):=by
 intro y s σ H D I h;rw[arm_exec_Raise];show aa (wpAny_standAt ?_);show wpAny _ _ (raiseStmt X.env (some (do let v <-eval (.Call (.Name x np) [e0] [] eU) X.env;standAt pos;pure v)) none) _ _ _;show Uo (bmB:=bmB) (newId:=newId) Z.hasBase (I.ok.hd hc) (aa (bE (Q:=λv s1=>∃a C dd lZ,v=.ref a/\nt C bmB newId lZ s1.heap/\kH a C dd s1.heap/\X.xe (.ref a) s1) ?_ (λv s1 z=>aa (wpAny_standAt (ai z))) λ_ _ z=>z));have C6:PA X [e0] (DT te DI):=ie he kl P;show wpAny_Call_Name_kw (xh I hg hm ?_ hd);show PySem.W.callWith_K (h₀:=X.base) I.ok.mod.zS Ht (cQ (C6 eU y s σ H (λm H1=>m.length=1/\∀c,H1 c=none->W (.ref C) (some c) (upd H1 c (.ext (Xd c [(fn,m.headD .non)])))) I ?_) λus s1 ⟨m,H1,I1,r,hv,q⟩=>⟨I1.g8,?_⟩) P hp
 .exact h
 obtain⟨v,rfl⟩:∃v,m=[v]:=List.length_eq_one_iff.mp hv
 rw[List.headD_cons] at q;obtain⟨u,rfl,ru⟩:=Vals.one r;obtain⟨bm,N,nm,qq,bs,oJ,sn,sub,ab,col,dc,k0,k1,k2,k3,k5,mN,hC,hN,Hj,OT⟩:=nt.of I1.g8 O;obtain⟨oI,look,HC⟩:∃oI,X.K.lookup f=some oI/\oI.cls=.type "function":=by
  unfold PySem.W.typeIn at M;show bA.mp M
 have HD:=I1.g8 _ _ look;obtain⟨C7,g,d,tk,os⟩:=s1;show wpAny _ _ (call (.ref C) [u]) _ _ _;show T1 Z OT hC hN Hj HD HC (λh' e j=>?_) (by rw[sizeLine_eq];show(by decide:1<=16777216));have hn:H1 e=none:=by
  cases z:H1 e with
  | none=>rfl
  | some o=>
   obtain⟨ob,i⟩:=(I1.cH e _ z).some;rw[j.new] at i;cases i
 have h0:X.c7.heap.get? e=none:=by
  cases z:X.c7.heap.get? e with
  | none=>rfl
  | some o=>
   obtain⟨ob,i⟩:=I1.base.there e o z (by rw[n];simp);rw[j.new] at i;cases i
 obtain⟨t,het,_,_⟩:=j.there;have J:Inv X y σ H1 ⟨h',g,d,tk,os⟩:=I1.kept (t':=tk) j.keeps;have G:=J.tell (a:=e) (o:=.ext (kH e C none)) I1 hn j.new (Eh ⟨t,het⟩);have sp:Ds C fn [.ref e,v] (upd H1 e (.ext (kH e C none))) (λL H'=>L=.non/\∃c,H1 c=none/\c≠e/\H'=upd (upd (upd H1 e (.ext (kH e C none))) e (.ext (kH e C (some c)))) c (.ext (Xd c [(fn,v)]))) (λ_ _ _=>False):=
  ⟨e,v,rfl,eT,λc U S=>⟨rfl,c,by rw[cL S] at U;show U,S,rfl⟩⟩
 have pl:=F.len _ _ _ _ sp;have bd:=hb ⟨h',g,d,tk,os⟩ [.ref e,u] G.g8 (by rw[List.append_nil];show pl);rw[List.append_nil] at bd;show wpAny_call (codeAny_mono (F.run _ X.stack ⟨h',g,d,tk,os⟩ _ ⟨[.ref e,u],[]⟩ [.ref e,u] [.ref e,v] _ _ (hr.make C [u] []) (G.oM.make C [u] []) bd (.cons rfl (.cons ru .nil)) sp) λr s' l=>?_);cases r with
 | error e'=>show l.elim
 | ok fl=>
  cases fl with
  | ret u'=>
   obtain⟨L,H',E,iE,rfl,c,tu,p,rfl⟩:=G.after l;have V:upd (upd (upd H1 e (.ext (kH e C none))) e (.ext (kH e C (some c)))) c (.ext (Xd c [(fn,v)])) e=some (.ext (kH e C (some c))):=by rw[cL (Ne.symm p),eT]
   have R:=(E.cH e _ V).1;have eH:u4 (upd (upd (upd H1 e (.ext (kH e C none))) e (.ext (kH e C (some c)))) c (.ext (Xd c [(fn,v)]))) e=upd H1 c (.ext (Xd c [(fn,v)])):=by
    funext b
    by_cases z:b=e
    .rw[z,cL (Ne.symm p),hn];show if_pos rfl
    rw[xp z];by_cases i:b=c
    .rw[i,eT,eT]
    rw[cL i,cL z,cL z,cL i]
   have Y:=E.drop V I1 hn;rw[eH] at Y;show⟨iE,e,C,some c,some f,rfl,nt.of E.g8 O,R,T y σ _ s' e C (some c) Y (by rw[cL (Ne.symm p)];show hn) h0 R (q c tu)⟩
  | next=>show l.elim
  | brk=>show l.elim
  | cont=>show l.elim
end
noncomputable abbrev XQ:=Str->Str->R->Prop
noncomputable abbrev lE:=List D->(R->Prop)->XQ->Prop
def Dt(K:J')(G H d:Hp)(C:Addr)(b:Option Addr)(c fn:Str)(r:R):Prop:=PySem.W.nsIn K mainGlobals c=some (some (.ref C))/\∃a v,b=some a/\ny G (some a) [(fn,v)]/\dm K G H d v r
theorem Dt.f9{K:J'}{G H g f:Hp}{C:Addr}{d:Option Addr}{e fn:Str}{r:R}(s:cq f g)(x:Dt K G H g C d e fn r):Dt K G H f C d e fn r:=let⟨h,i,v,a,b,c⟩:=x;⟨h,i,v,a,b,c.f9 s⟩
def Wx(K:J')(W:XK)(e:XQ)(f c:Hp):Prop:=∀d H' C a b fn r,Ext f c d H'->Dt K d H' c C a b fn r->e b fn r->W (.ref C) a H'
def uS(K:J')(n:Nat)(t:lE):Sp:=λd H Q E=>∃G ds b a,cq G H/\bY K G d ds/\ds.length=n/\t ds b a/\(∀v H' r c,Ext G H c H'->dm K c H' H v r->b r->Q v H')/\Wx K E a G H
structure fg(P:Program)(w:World)(K:J')(mg:Str->Option Value)(base:Heap)(k:Nat)(x:Str)(n:Nat)(t:lE):Prop where
 ex:∃(f:Addr)(fd:FuncData)(ps:List Str),iC P w K mg base (ya P w) k f fd ps (uS K n t)/\mg x=some (.ref f)/\PySem.W.keepIn K (.ref f)=true/\Binds K fd ps []
theorem Qb{H:Hp}{a:Addr}{c:List (Str×V)}(h:H a=some (.ext (Xd a c))):ny H (some a) c:=
 ⟨_,h,λ_ ⟨b,n,r⟩=>⟨b,n,λf v l=>let⟨u,e,z⟩:=jR.some_of (v:=v) (o:=b f) (by rw[<-l];show r f);⟨u,e,z⟩⟩⟩
section
variable{X:Cx}{c:Hp->Hp->Prop}{pos:Pos}{e:Expr}{es:List Expr}{te:TD}{ts:iJ}
def Be(X:Cx)(c:Hp->Hp->Prop)(e:Expr)(t:TD):Prop:=∃tt,PE X e tt/\∀(a:Ev)(σ:St)(d b G H:Hp)(Q:R->Prop)(P:VK),cP X.K d b a σ G H->t a Q->(∀v H' r f,Ext G H f H'->dm X.K f H' H v r->Q r->P v H')->c d b->tt σ H P
def yg(X:Cx)(c:Hp->Hp->Prop)(es:List Expr)(t:iJ):Prop:=∃tt,PA X es tt/\∀(a:Ev)(σ:St)(e d G H:Hp)(Q:List D->Prop)(P:List V->Hp->Prop),cP X.K e d a σ G H->t a Q->(∀b H' ds f,Ext G H f H'->bY X.K f b ds->Q ds->P b H')->c e d->tt σ H P
def xY(X:Cx)(c:Hp->Hp->Prop)(st:Stmt)(t:TX):Prop:=∃tt,PS X st tt/\∀(d:Ev)(σ:St)(b a G H:Hp)(D:DE)(E:Ends),cP X.K b a d σ G H->t D d->Goes X.K b a G D E->c b a->tt E σ H
def uU(X:Cx)(c:Hp->Hp->Prop)(st:List Stmt)(t:TX):Prop:=∃tt,l8 X st tt/\∀(d:Ev)(σ:St)(b a G H:Hp)(D:DE)(E:Ends),cP X.K b a d σ G H->t D d->Goes X.K b a G D E->c b a->tt E σ H
theorem Po(h:PD X e te):Be X c e te:=let⟨tt,p,q⟩:=h;⟨tt,p,λa σ d b G H Q P E h k _=>q a σ d b G H Q P E h k⟩
theorem Km(h:mP X es ts):yg X c es ts:=let⟨tt,p,q⟩:=h;⟨tt,p,λa σ d b G H Q P E h k _=>q a σ d b G H Q P E h k⟩
theorem Jj{st:Stmt}{t:TX}(h:PX X st t):xY X c st t:=let⟨tt,p,q⟩:=h;⟨tt,p,λa σ d b G H D E k h g _=>q a σ d b G H D E k h g⟩
theorem Kl{a:List Stmt}{t:TX}(h:kX X a t):uU X c a t:=let⟨tt,p,q⟩:=h;⟨tt,p,λb σ e d G H D E k h g _=>q b σ e d G H D E k h g⟩
theorem Lo(h:Be X c e te)(u:yg X c es ts)(t:starEach (e::es) X.env=(false,eval e X.env)::starEach es X.env:=by rfl):yg X c (e::es) (cm te ts):=by
 obtain⟨t1,s,p⟩:=h;obtain⟨C,q,o⟩:=u;show⟨_,ie s q t,λa σ j i G H Q P E h k f=>p a σ j i G H _ _ E h (λv H' r D l n w=>?_) f⟩;obtain⟨A,d,m,_⟩:=n.freeze l;show o a σ j i A H' _ _ (E.ext d) w (λB y ds z b rs x=>k _ y _ z (d.trans b) (bY.cons (m.mono b.g) rs) x) f
theorem Fi{st:Stmt}{a:List Stmt}{t u:TX}(p:xY X c st t)(o:uU X c a u):uU X c (st::a) (cF t u):=by
 obtain⟨t1,m,j⟩:=p;obtain⟨s,l,i⟩:=o;show⟨_,yS m l,λe σ d b G H D E k h g hw=>j e σ d b G H _ _ k h ⟨λρ' q r H' f n h'=>i ρ' q d b r H' D E n h' (g.shift f) hw,g.rt,g.bk,g.ct⟩ hw⟩
theorem K7{st:Stmt}{t:TX}(d:xY X c st t):uU X c [st] t:=let⟨t1,b,a⟩:=d;⟨_,yJ b,a⟩
theorem Pn{j:Expr}{a b:List Stmt}{tc:gX}{t u:TX}(s:PB X j tc)(ha:uU X c a t)(hb:uU X c b u):xY X c (.If j a b pos) (iw tc t u):=by
 obtain⟨t0,r,o⟩:=s;obtain⟨t1,q,n⟩:=ha;obtain⟨v,p,m⟩:=hb;show⟨_,DW r q p,λe σ i f G H D E k h g hw=>o e σ i f G H _ _ k h λb H' l x d=>?_⟩;cases b with
 | true=>
  rw[if_pos rfl] at d ⊢;show n e σ i f l H' D E (k.ext x) d (g.shift x.g) hw
 | false=>
  rw[if_neg aD] at d ⊢;show m e σ i f l H' D E (k.ext x) d (g.shift x.g) hw
theorem Qa(i:Nat){x:Str}{a:Pos}(o:Be X c e te)(hN:X.N.Nodup:=by assumption)(m:X.N[i]?=some x:=by rfl)(f:Loc X.env.scope x:=by first | show Or.inl rfl | show Or.inr rfl)(j:swapsWith e (some (.Name x a)) pos.line X.env=pure false:=by rfl)(n:X.fn x=true\/X.env.scope.names.lookup x=some .local:=by first | show .inl rfl | show .inr rfl) :
  xY X c (.Assign [.Name x a] e pos) (gM i te):=by
 obtain⟨t,p,q⟩:=o;show⟨_,yz hN m f p j n,λb σ u s G H D E k h g hw=>q b σ u s G H _ _ k h (λv H' r w x d l=>g.nx _ _ w H' x.g (k.put x d) l) hw⟩
theorem Ul{k a n:Nat}{t:eJ}{x:Str}{p:Pos}(C:Known X.prog X.w X.K X.mg X.base k x n t)(m:dG a X.A)(ha:yg X c (e::es) ts)(hk:k<=a:=by decide)(hg:Gl X x:=by rfl)(l:(x==("__debug__":Str))=false:=by decide)
  (o:starEach (e::es) X.env=(false,eval e X.env)::starEach es X.env:=by rfl) (y:(backTo pos (starEach es X.env)).any (·.1)=false:=by rfl):Be X c (.Call (.Name x p) (e::es) [] pos) (e8 n t ts):=by
 obtain⟨f,fd,ps,F,hm,kp,hb⟩:=C.ex;obtain⟨tt,pp,q⟩:=ha;show⟨_,Er F (m.mono hk) hg hm kp hb .nil IY pp l o y,λd σ I B G H Q P E h k u=>q d σ I B G H _ _ E h (λL H' ds J x rs b=>?_) u⟩;rw[List.append_nil];show⟨J,ds,Q,x.s,rs,b.1,b.2,λv z r D g i j=>k v z r D (x.trans g) (i.f9 x.h) j⟩
end
section
variable{X:Cx}{W:XK}{Qx:XQ}{pos:Pos}{e:Expr}{es:List Expr}{te:TD}{ts:iJ}
def Ez(n:Nat)(t:lE)(Qx:XQ)(ts:iJ):TD:=λa Q=>ts a λds=>ds.length=n/\t ds Q Qx
theorem Uk{k g n:Nat}{t:lE}{x:Str}{p:Pos}(F:fg X.prog X.w X.K X.mg X.base k x n t)(z:dG g X.A)(b:X.ex=[])(T:DD X W)(ha:yg X (Wx X.K W Qx) (e::es) ts)(hk:k<=g:=by decide)(hg:Gl X x:=by rfl)(u:(x==("__debug__":Str))=false:=by decide)
  (B:starEach (e::es) X.env=(false,eval e X.env)::starEach es X.env:=by rfl) (D:(backTo pos (starEach es X.env)).any (·.1)=false:=by rfl):Be X (Wx X.K W Qx) (.Call (.Name x p) (e::es) [] pos) (Ez n t Qx ts):=by
 obtain⟨f,fd,ps,F,hm,kp,hb⟩:=F.ex;obtain⟨tt,pp,q⟩:=ha;show⟨_,Er F (z.mono hk) hg hm kp hb .nil (NJ b T) pp u B D,λj σ M L G H Q P E h k hw=>q j σ M L G H _ _ E h (λO H' ds N y rs i=>?_) hw⟩;rw[List.append_nil];show⟨N,ds,Q,Qx,y.s,rs,i.1,i.2,λv c r d a m o=>k v c r d (y.trans a) (m.f9 y.h) o,λd c C I J fn r a l=>hw d c C I J fn r ((E.e.trans y).trans a) (l.f9 (E.e.trans y).h)⟩
structure tK(P:Program)(w:World)(K:J')(mg:Str->Option Value)(base:Heap)(k:Nat)(cn fn:Str):Prop where
 ex:∃(C f:Addr)(fd:FuncData)(ps:List Str)(B newId initId:String)(bmB:List Value),ExcBaseFacts B newId initId bmB/\nk K C bmB newId (some f)=true/\PySem.W.nsIn K mainGlobals cn=some (some (.ref C))/\mg cn=some (.ref C)/\PySem.W.keepIn K (.ref C)=true/\PySem.W.typeIn K (.ref f)=some (.type "function")/\iC P w K mg base jt k f fd ps (Ds C fn)/\Binds K fd ps []
def B6(b fn:Str)(Qx:XQ)(i:Nat):TX:=λ_ a=>match gt a i with
 | .ov (.tl _ ds)=>Qx b fn (.ow ds)
 | _=>False
theorem Uj(i:Nat){j fn:Str}{k p:Nat}{x:Str}{I R v u t:Pos}{n:Nat}(O:tK X.prog X.w X.K X.mg X.base k j fn)(P:dG p X.A)(Q:X.calm=true)(m:X.ex=[])(T:DO X W)(hk:k+1<=p:=by decide)(hg:Gl X j:=by rfl)(hd:(j==("__debug__":Str))=false:=by decide)
  (hN:X.N[i]?=some x:=by rfl) (M:hZ X.env.scope x:=by first | show Or.inl rfl | show Or.inr (Or.inl rfl) | show Or.inr (Or.inr rfl)) (l:(x==("__debug__":Str))=false:=by decide) (Z:(x==("__classdict__":Str))=false:=by decide) :
  xY X (Wx X.K W Qx) (.Raise (some (.Call (.Name j I) [.Subscript (.Name x v) (.Constant (.int 1) n t) u] [] R)) none pos) (B6 j fn Qx i):=by
 obtain⟨C,f,fd,ps,B,newId,initId,bmB,FB,L,J,hm,Ht,q,F,hb⟩:=O.ex;show⟨_,Um FB L hm Ht q F hb (P.mono hk) Q m T (tM m6 (iK hN M l Z) BY (λ_ _=>rfl)) hg hd,λρ σ G0 H0 G H D E k h g hw=>?_⟩;unfold B6 at h;split at h
 .rename_i d ds hg;obtain⟨own,o1,y⟩:=k.on;obtain⟨a,fp,Y,b2,⟨b,v0,xs,rfl,U,c2,S,n⟩,V⟩:=y i _ hg;show⟨_,Y,a,[v0,.ref b],1,.ref b,rfl,rfl,dF.of U,rfl,rfl,λc l=>?_⟩;have z:=V b (by simp);have o:Ext G H (upd G c (.ext (Xd c [(fn,.ref b)]))) (upd H c (.ext (Xd c [(fn,.ref b)]))):=.new k.e.s l;have r:dm X.K G H H0 (.ref b) (.ow ds):=⟨b,xs,rfl,z.2.1,z.1,S,n⟩
  show hw _ _ C (some c) j fn (.ow ds) (k.e.trans o) ⟨J,c,.ref b,rfl,Qb eT,r.ext o⟩ h
 show h.elim
end
section
variable{P:Program}{w:World}{K:J'}{mg:Str->Option Value}{base:Heap}
theorem LN{x:Str}{st:Stmt}{N ps:List Str}{t:lE}{T:XQ->TX}{n d:Nat}(k:Nat)(A:At K mg x st)(S:ck N ps (bZ st))
  (body:∀(a:XQ)(f:Addr)(c:Value)(A:Around)(outer:List Env)(s:Shared)(H:Hp)(E:XK),dG k (A.deeper (envOfC x (bZ st) s.heap.objs.size f c))->uU (jV (ya P w) P w K mg base N x (bZ st) f c A outer s H E) (Wx K E a) (cO st) (T a))
  (i:∀(ds:List D)(g:R->Prop)(a:XQ),ds.length=n->t ds g a->T a { nx:=λ_=>g (.fz .non),rt:=g } (pZ N ds))
  (b:∀(kV doc pm:Value)(an:Option Addr)(c ct:Value)(us:List Value),us.length=n->bindArgs (PySem.W.fnOf x x (e9 st) (cO st) (bZ st) .none kV doc pm an c ct) ⟨us,[]⟩=pure (ps.zip us)) (hn:ps.length=n:=by rfl) (hd:k+1=d:=by rfl):fg P w K mg base d x n t:=by
 subst hn hd;obtain⟨f,fd,F,hm⟩:=A.ex;show⟨f,fd,ps,?_,hm,F.kp,F.binds b⟩;obtain⟨B,od,kV,doc,pm,an,c,ct,z,rfl,lk,u⟩:=F.ex;show IZ lk u S (λl H Q E h=>?_) λA outer s H l Q E o h=>?_
 .obtain⟨G,ds,g,a,_,r,j,_⟩:=h;rw[r.length,j]
 obtain⟨G,ds,g,a,s0,r,j,ht,k0,m⟩:=h;obtain⟨tt,p,q⟩:=body a f c A outer s H E o;show⟨tt,p,q _ _ G H G H _ _ (Kz s0 r) (i ds g a j ht) ⟨λy σ v H' _ e h=>k0 _ H' _ v e.e (eY (Eo _ _)) h,k0,λ_ _ _ _ _ _ h=>h.elim,λ_ _ _ _ _ _ h=>h.elim⟩ m⟩
end
end L2
namespace PySem.W
open PySem PySem.Spec PySem.Calls PyProof.Rows Builtin Builtin.ObjectAttr Builtin.Getset_descriptor
section
variable{prog:Program}{w:World}{A:Around}{E:Value->Shared->Prop}{s:Shared}{K:Frag}{x C:Addr}{ox:Obj}{od:Option Obj}{name:Str}{v:Value}
theorem qX{a:Bool}{Q:Value->Shared->Prop}(X:K.In s.heap)(I:InstAt s.heap x ox C od)(m:findIn K (.ref C) "__getattribute__"=some (some (.builtin "BaseException.__getattribute__")))(n:findIn K (.ref C) "__getattr__"=some none)
  (hb:mroIn K C (.type "BaseException")=some true) (f:findObj K C od name=some (.value v)) (hh:handedIn v=true) (h:Q v { s with toks:=s.toks+1 }):wpAny (model prog w) A (getAttr (.ref x) name a) Q E s:=by
 obtain⟨b,g,d,t,os⟩:=s;have o:kd b x C:=⟨ox,I.at_,I.cls⟩
 have c:=I.type (M:=model prog w);have l:=looks_findIn (M:=model prog w) X m;have L2:=looks_findIn (M:=model prog w) X n;have k:=looks_find (M:=model prog w) X I f;have i:=F.excAttr_ValueError.ga.bind (.ref x);have j:(a&&onTheHeap (Value.builtin "BaseException.__getattribute__"))=false:=by cases a<;>rfl
 have e:(onTheHeap (Value.ref C)&&Value.builtin "BaseException.__getattribute__"==Value.builtin "object.__getattribute__")=false:=by rw[show(Value.builtin "BaseException.__getattribute__"==Value.builtin "object.__getattribute__")=false by decide +kernel];rfl
 unfold getAttr;show aa (wpAny_mkText ?_);unfold getAttrBy;show bz (aa (c.at (aa (l.at ?_))));dsimp only;rw[if_neg (by rw[e];decide)];unfold getAttrByItsOwn;show aa (L2.at (aa (wpAny_attempt (bz ?_))));unfold callGetattribute;rw[j,if_neg (by decide)];unfold boundAndCalled;rw[i];show aa (ai (wpAny_call (codeAny_call_builtin F.excAttr_ValueError.ga.plain F.entry_bexc_ga (Ks (s:=⟨b,g,d,t+1,os⟩) X o hb ?_))));unfold Builtin.«object.__getattribute__»;show aa (ai (aa (ai (aa (c.at (aa (k.at ?_)))))));show ai ?_;show wpAny _ _ (handedOut v) _ _ _;rw[handedOut_of hh];show ai h
end
end PySem.W
namespace L2
open PySem PySem.Spec PyProof.Rows
structure wG(K:J')(C:Addr)(f:Str):Prop where
 ga:PySem.W.findIn K (.ref C) "__getattribute__"=some (some (.builtin "BaseException.__getattribute__"))
 gb:PySem.W.findIn K (.ref C) "__getattr__"=some none
 mb:PySem.W.mroIn K C (.type "BaseException")=some true
 hd:PySem.W.hasDictIn K C=true
 no:PySem.W.findIn K (.ref C) f=some none
section
variable{X:Cx}{e:Expr}{pos:Pos}{f:Str}{ta:TE}{te:TD}
def Jb(K:J')(ta:TE)(f:Str):TE:=λσ H Q=>ta σ H λx H1=>∃a b C d c v,x=.ref a/\H1 a=some (.ext b)/\(∀h:Heap,b h->∃o e,h.get? a=some o/\o.cls=.ref C/\o.dict=some d/\o.data=.fields e)/\ny H1 (some d) c/\wG K C f/\c.lookup f=some v/\Q v H1
theorem P9(m:PE X e ta)(hb:attributeBase e f X.env (eval e X.env)=eval e X.env):PE X (.Attribute e f pos) (Jb X.K ta f):=by
 intro D s σ H Q I h;show Q6 hb (cQ (m D s σ H _ I h) λu s1 A=>?_);obtain⟨x,H1,I1,d,a,G,C,z,N,v,ex,y,E,⟨F,w,B⟩,c,l,q⟩:=A;subst ex;obtain rfl:u=Value.ref a:=d;obtain⟨o,L,t,r,p,n⟩:=E _ (I1.cH a _ y).1;obtain⟨M,hN,i⟩:=B _ (I1.cH z _ w).1;obtain⟨od,j,k⟩:=UP hN;obtain⟨u,g,b⟩:=i f v l;have J:PySem.W.InstAt s1.heap a o C (some od):=⟨t,r,by unfold PySem.W.notCls;rw[n],by rw[p];show j⟩
 show PySem.W.qX I1.g8 J c.ga c.gb c.mb (PySem.W.findObj_own c.hd c.no rfl (by rw[k,g])) (UO b) ⟨v,H1,I1.tok _,b,q⟩
end
def xJ(a C:Addr)(c:Option Addr):Heap->Prop:=λh=>∃o b,h.get? a=some o/\o.cls=.ref C/\o.dict=c/\o.data=.fields b
section
variable{X:Cx}{K':List (Addr×Obj)}{σ:St}{H:Hp}{s:Shared}
theorem P8{l:Shared}{E:XK}{e:Value}{y:Addr}{ex j:Str}{np r:Pos}{q:Nat}{S:Stmt}{M:List Stmt}{L:Addr->TS}{D:Ends}{Q:Flow->Shared->Prop}(I:Inv X K' σ H s)(hx:ya X.prog X.w X.stack H s E e l)(hm:X.mg ex=some (.ref y))
  (R:X.stack=X.env::X.outer) (hf:X.env.frame=some X.env.locals) (hg:Gl X ex) (hd:(ex==("__debug__":Str))=false) (zY:X.xe=λ_ _=>False) (hN:X.N.Nodup)
  (O:X.N[q]?=some j) (YU:X.env.kindOf j=some .local) (HG:Loc X.env.scope j) (HH:X.fn j=true\/X.env.scope.names.lookup j=some .local) (st:∀a,l8 (X.gc a) (S::M) (L a))
  (hE:∀C n H',E (.ref C) n H'->∀a,H' a=none->PySem.W.exmOne X.K (.ref C) (.ref y)=some true/\L a { nx:=λi p=>D.nx (i.set q none) p,rt:=λ_ _=>False } (σ.set q (some (.ref a))) (upd H' a (.ext (xJ a C n))))
  (k:∀i H' s2,Inv X K' i H' s2->D.nx i H'->Q .next s2) :
  wpAny (model X.prog X.w) X.A (noteFrame e X.env) (λ_ gO=>wpAny (model X.prog X.w) X.A (setFlight e none) (λ_ kA=>wpAny (model X.prog X.w) X.A (handleBy e X.env [.ExceptHandler (some (.Name ex np)) (some j) (S::M) r]) Q (λ_ _=>False) kA) (λ_ _=>False) gO) (λ_ _=>False) l:=by
 obtain⟨a,C,n,H',rfl,os,bare,un,cH,hn,hs,⟨B,fl,pG⟩,he⟩:=hx;obtain⟨Yx,Yc⟩:=hE C n H' he a hn;have fr:∀b∈i9 X.stack,H b=none/\∃o,s.heap.get? b=some o/\∀F,o.data≠.fields F:=λb hb=>⟨I.oM.qW b hb,(I.oM.gG.mem hb).2⟩
 have after:∀h,B.StaysIn h->l.heap.UpToSlots h->Inv X K' σ H' { l with heap:=h }:=λh st up=>by
  obtain⟨Xh,Hc⟩:=Pq un fr st pG up cH;obtain⟨hh,g,d,t,vJ⟩:=l;obtain rfl:vJ=s.os:=os;have J:Inv X K' σ H' { s with heap:=h,gens:=g,drawn:=d,toks:=t }:=I.call (ch:=[]) Xh Hc bare λb z=>absurd z (by simp)
  show J
 have G:=fl;rw[R] at G;show Kf (by rw[<-R];show I.ok.frames) hf G λh held V=>?_
 show BX held λP x Y=>?_
 have I3:=after P x.st (V.trans Y);obtain⟨ob,F,Hg,Hf,Yq,Yp⟩:=x.there;show wpAny_handleBy_cons (codeAny_handlers_test (xh (I3.gc a) hg hm ?_ hd)) (by intro q;cases q);have LT:PySem.W.Looks (model X.prog X.w) P (typeOf (.ref a)) (.ref C):=PySem.W.kd.type ⟨ob,Hg,Hf⟩;show(PySem.W.exm_one (c:=.ref y) I3.g8 LT Yx).at ?_;show codeAny_handlers_suite_as ?_;show BX x λh4 T Xf=>?_
 have I4:=after h4 T.st ((V.trans Y).trans Xf);obtain⟨U,Xe,Al,Ak,Aj,Ai⟩:=T.there;have I5:=I4.tell (a:=a) (o:=.ext (xJ a C n)) I hn hs ⟨⟨U,Xe,Al,Ak,Aj,Ai⟩,⟨U,Al⟩,λh1 h ⟨o,v,e1,e2⟩ kk=>⟨o,v,kk o e1,e2⟩⟩;show Ck (v:=.ref a) I5 hN O HG rfl (λs5 I6=>?_) HH;have run:=st a K' s5 _ _ { nx:=λi p=>D.nx (i.set q none) p,rt:=λ_ _=>False } (I6.gc a) Yc;show bE run (λf s6 z=>?_) λ_ _ z=>?_
 .cases f with
  | next=>
   obtain⟨i,p,I7,z⟩:=z;have Z:=I7.vI I.ok;obtain⟨m,Hn,nT⟩:=Z.loc;have wa:(X.env.scope.kind==.class||(X.env.scope.kind==.module&&X.env.locals != X.env.globals))=false:=by rw[I.ok.kind];rfl
   show wpAny_nameGoes_keeps YU Hn wa λh' v qM j2=>?_
   show k _ _ _ (Z.AY hN O nT qM j2) z
  | brk=>obtain⟨_,_,_,z⟩:=z;show z.elim
  | cont=>obtain⟨_,_,_,z⟩:=z;show z.elim
  | ret u=>obtain⟨_,_,_,_,_,z⟩:=z;show z.elim
 rw[show(X.gc a).xe=X.xe from rfl,zY] at z;show z.elim
end
section
variable{X:Cx}{pos:Pos}{e:Expr}{es:List Expr}{ts:iJ}
def DN(i q j n:Nat)(t:lE)(ts:iJ)(ok:List Str)(fn:Str)(u:TX):TX:=λD a=>q<a.length/\ts a λds=>ds.length=n/\t ds (λr=>D.nx (a.set i r.sl)) (λb f r=>b∈ok/\f=fn/\u { nx:=λρ'=>D.nx (ρ'.set q .un),rt:=λ_=>False } ((a.set j r.sl).set q (.fz (.exc b []))))
theorem P7(i q j:Nat){C':Addr}{k k' n:Nat}{t:lE}{ok:List Str}{u:TX}{f x ex d y fn:Str}{kM:List Stmt}{p1 p2 T p4 p5 p6 J p8 p9 vH:Pos}(F:fg X.prog X.w X.K X.mg X.base k f n t)(hr:dG k' X.A)(px:X.mg ex=some (.ref C'))(cH:∀L∈ok,∀C,PySem.W.nsIn X.K mainGlobals L=some (some (.ref C))->PySem.W.exmOne X.K (.ref C) (.ref C')=some true/\wG X.K C fn)(Yn:q≠j)(Z:X.xe=λ_ _=>False)(hN:X.N.Nodup)(ha:mP X (e::es) ts)(hu:∀a,kX (X.gc a) kM u)
  (d0:X.stack=X.env::X.outer:=by rfl) (lz:X.env.frame=some X.env.locals:=by rfl) (hk:k<=k':=by decide) (hg:Gl X f:=by rfl) (lA:(f==("__debug__":Str))=false:=by decide) (YJ:Gl X ex:=by rfl) (tu:(ex==("__debug__":Str))=false:=by decide)
  (he:starEach (e::es) X.env=(false,eval e X.env)::starEach es X.env:=by rfl) (gF:(backTo T (starEach es X.env)).any (·.1)=false:=by rfl)
  (hi:X.N[i]?=some x:=by rfl) (hx:Loc X.env.scope x:=by first | show Or.inl rfl | show Or.inr rfl) (hs:swapsWith (.Call (.Name f p2) (e::es) [] T) (some (.Name x p1)) p4.line X.env=pure false:=by rfl) (hf:X.fn x=true\/X.env.scope.names.lookup x=some .local:=by first | show .inl rfl | show .inr rfl)
  (hq:X.N[q]?=some d:=by rfl) (YT:X.env.kindOf d=some .local:=by rfl) (HG:Loc X.env.scope d:=by first | show Or.inl rfl | show Or.inr rfl) (HH:X.fn d=true\/X.env.scope.names.lookup d=some .local:=by first | show .inl rfl | show .inr rfl)
  (YR:hZ X.env.scope d:=by first | show Or.inl rfl | show Or.inr (Or.inl rfl) | show Or.inr (Or.inr rfl)) (YV:(d==("__debug__":Str))=false:=by decide) (YW:(d==("__classdict__":Str))=false:=by decide) (hj:X.N[j]?=some y:=by rfl) (hy:Loc X.env.scope y:=by first | show Or.inl rfl | show Or.inr rfl) (YL:X.fn y=true\/X.env.scope.names.lookup y=some .local:=by first | show .inl rfl | show .inr rfl)
  (Yg:∀a,swapsWith (.Attribute (.Name d J) fn p8) (some (.Name y p6)) vH.line (X.gc a).env=pure false:=by intro _;rfl) (Y9:∀a,attributeBase (.Name d J) fn (X.gc a).env (eval (.Name d J) (X.gc a).env)=eval (.Name d J) (X.gc a).env:=by intro _;rfl) :
  PX X (.Try [.Assign [.Name x p1] (.Call (.Name f p2) (e::es) [] T) p4] [.ExceptHandler (some (.Name ex p5)) (some d) (.Assign [.Name y p6] (.Attribute (.Name d J) fn p8) vH::kM) p9] [] [] pos) (DN i q j n t ts ok fn u):=by
 obtain⟨fa,fd,ps,F,hm,kp,hb⟩:=F.ex;obtain⟨tt,pp,qq⟩:=ha;have h1:∀a,l8 (X.gc a) (.Assign [.Name y p6] (.Attribute (.Name d J) fn p8) vH::kM) _:=λa=>yS (yz hN hj hy (P9 (iK hq YR YV YW) (Y9 a)) (Yg a) YL) (hu a).choose_spec.1
 have h2:=λa=>(hu a).choose_spec.2
 show⟨λD σ H=>tt σ H λO H1=>uS X.K n t O H1 (λv b=>D.nx (σ.set i (some v)) b) (λc dd b=>∀C,c=.ref C->∀a,b a=none->PySem.W.exmOne X.K (.ref C) (.ref C')=some true/\DM (yj (Jb X.K (uV q) fn) (u3 j)) (hu a).choose { nx:=λY H3=>D.nx (Y.set q none) H3,rt:=λ_ _=>False } (σ.set q (some (.ref a))) (upd b a (.ext (xJ a C dd)))),λK' s σ H D I h=>?_,λρ σ G0 H0 G H D E k h g=>?_⟩
 .refine wpAny_Try_except ?_;rw[Z];have args:=pp T K' s σ H _ I h;rw[Z] at args;show wpAny_execs_cons (bE (Q:=λf s1=>f=.next/\∃v b,Inv X K' (σ.set i (some v)) b s1/\D.nx (σ.set i (some v)) b) (wpAny_Assign_Name (bE (Q:=EP X K' σ λv b=>D.nx (σ.set i (some v)) b) (wpAny_Call_Name_kw (xh I hg hm ?_ lA)) (λv s1 z=>?_) λ_ _ z=>z) hs) (λf s1 z=>?_) λ_ _ z=>z)
  .refine PySem.W.callWith_K (h₀:=X.base) I.ok.mod.zS kp (bE args (λus s1 z=>?_) λ_ _ z=>z.elim) he gF;obtain⟨O,H1,I1,r,z⟩:=z;have S:Vals (O++[]) (us++[]):=by rw[List.append_nil,List.append_nil];show r
   have hl:(us++[]).length=ps.length:=by rw[<-S.length];show F.len _ _ _ _ (by rw[List.append_nil];show z)
   show⟨I1.g8,wpAny_call (codeAny_mono (F.run X.A X.stack s1 H1 ⟨us,[]⟩ (us++[]) (O++[]) _ _ (hr.mono hk) I1.oM (hb s1 us I1.g8 hl) S (by rw[List.append_nil];show z)) λr s' m=>?_)⟩;cases r with
   | error e'=>
    dsimp only[CR] at m;show P8 (D:=D) I1 m px d0 lz YJ tu Z hN hq YT HG HH h1 (λC dd H' z=>z C rfl) λY H' s2 I2 z=>⟨Y,H',I2,z⟩
   | ok fl=>
    cases fl with
    | ret u=>show I1.after m
    | next=>show False.elim m
    | brk=>show False.elim m
    | cont=>show False.elim m
  .obtain⟨u,b,I2,S,M⟩:=z;show Ck I2 hN hi hx S (λs2 I3=>⟨rfl,u,b,I3,M⟩) hf
  obtain⟨rfl,v,b,I2,M⟩:=z;show wpAny_execs_nil (wpAny_execs_nil ⟨_,b,I2,M⟩)
 obtain⟨Ac,h⟩:=h;rw[<-k.len] at Ac;show qq ρ σ G0 H0 G H _ _ k h λO H' ds G' p rs m=>?_
 show⟨G',ds,_,_,p.s,rs,m.1,m.2,λv b r R B rr z=>g.nx _ _ R b (p.g.trans B.g) (k.put (p.trans B) (rr.f9 p.h)) z,λR b C dd L fn r B xo z C2 ec a hn=>?_⟩;cases ec;obtain⟨lB,P,v,rfl,hd,hf⟩:=xo;obtain⟨z1,rfl,M⟩:=z;show⟨(cH L z1 C lB).1,?_⟩;have o:Ext R b (upd R a (.ext (xJ a C (some P)))) (upd b a (.ext (xJ a C (some P)))):=.new B.s hn;have rep:Rep X.K (upd R a (.ext (xJ a C (some P)))) (.ref a) (.exc L []):=by
  simp only[Rep,gh];show⟨a,_,C,some P,[],rfl,eT,lB,λh z=>z,?_,trivial⟩;obtain⟨ψ,e1,e2⟩:=hd.mono o.g;show⟨ψ,e1,λh z=>let⟨mA,n,_⟩:=e2 h z;⟨mA,n,λf v l=>by cases l⟩⟩
 have U:=(k.put (i:=j) ((p.trans B).trans o) ((hf.f9 p.h).ext o)).put (i:=q) (.refl o.s) (r:=.fz (.exc L [])) (eY rep);rw[show(σ.set j (some v)).set q (some (V.ref a))=(σ.set q (some (.ref a))).set j (some v) from List.set_comm _ _ (Ne.symm Yn)] at U;show⟨.ref a,by rw[List.getElem?_set_self Ac],a,_,C,P,[(fn,v)],v,rfl,eT,λh z=>z,(hd.mono o.g).mono o.s,(cH L z1 C lB).2,by simp,?_⟩;show h2 a _ _ G0 H0 _ _ _ _ U M ⟨λρ' Y G3 H3 s3 U z3=>?_,λ_ _ _ _ _ _ z=>z.elim,λ_ _ _ _ _ _ z=>z.elim,λ_ _ _ _ _ _ z=>z.elim⟩;show g.nx _ _ G3 H3 (((p.g.trans B.g).trans o.g).trans s3) (U.unset (i:=q) (u:=none)) z3
end
def Eg(i:Nat)(te:TD):TD:=λa Q=>DR (gt a i)/\te (iH i a) λr=>match r with
 | .ov (.tl d ds)=>kK d=true/\ds.all tN=true/\Q (.ov (.tl d ds))
 | _=>False
section
variable{X:Cx}{pos:Pos}{e i':Expr}{te ti:TD}
theorem RX(i:Nat)(h:PD X e te):PD X e (Eg i te):=by
 obtain⟨tt,p,q⟩:=h;show⟨tt,p,λD σ A z G H Q P E h k=>?_⟩;obtain⟨L,m,C,l⟩:=E.ja i;have y:=l λo j=>by
  have:=h.1;rw[j] at this;cases o with
  | dc kvs=>show .inl ⟨kvs,rfl⟩
  | ll dss=>show .inr ⟨dss,rfl⟩
  | _=>show this.elim
 show q _ σ A z _ H _ _ C h.2 λv H' r B x g a=>?_
 split at a
 .rename_i d ds;obtain⟨p,fp,rfl,nd,⟨c,v0,xs,rfl,w,u,t,n⟩,f⟩:=g;show k _ H' (.ov (.tl d ds)) (less B L) (Cf m x) ⟨p,[c],rfl,nd,⟨c,v0,xs,rfl,w,xq a.1 u,t,Lr x.s x.h y a.2.1 n⟩,λb hb=>⟨(f b hb).1,?_⟩⟩ a.2.2;unfold less;split
  .rfl
  show(f b hb).2
 show a.elim
def Br(i:Nat)(ti:TD):TX:=λD a=>match gt a i with
 | .ov (.ll dss)=>ti a λrk=>match rk.val with
  | .int k=>∃j ds,kP dss.length k=some j/\dss[j]?=some ds/\D.nx (a.set i (.ov (.ll (dss.set j []))))
  | _=>False
 | _=>False
theorem P6(i:Nat){x:Str}{o n r c:Pos}(U:PD X i' ti)(hN:X.N[i]?=some x:=by rfl)(R:hZ X.env.scope x:=by first | show Or.inl rfl | show Or.inr (Or.inl rfl) | show Or.inr (Or.inr rfl))(hd:(x==("__debug__":Str))=false:=by decide)
  (Y:(x==("__classdict__":Str))=false:=by decide) (Af:xg i':=by intro _ _;rfl)
  (hb:∀{l:TE},PE X (.Subscript (.Name x o) i' n) l->PE X (.Call (.Attribute (.Subscript (.Name x o) i' n) "clear" r) [] [] c) (DH X.K "list" Js l):=by intro l W;show Ju bQ PySem.F.slot_list_clear PySem.F.type_list_clear Sw W) :
  PX X (.Expr (.Call (.Attribute (.Subscript (.Name x o) i' n) "clear" r) [] [] c) pos) (Br i ti):=by
 obtain⟨t2,I,J⟩:=U;show⟨_,tX (hb (tM i7 (iK hN R hd Y) I Af)),λB σ G0 H0 G H D E k h g=>?_⟩;unfold Br at h;split at h
 .rename_i dss hg;obtain⟨own,o1,M⟩:=k.on;obtain⟨a,fp,A,b2,⟨ha,v⟩,b4⟩:=M i _ hg;show⟨_,A,J B σ G0 H0 G H _ _ k h λu H1 rk G1 C L e=>?_⟩;obtain⟨G2,d,p,_⟩:=L.freeze C;split at e
  .rename_i kk e1;obtain⟨j,ds,T,Q,e⟩:=e;rw[e1] at p;simp only[Rep] at p;obtain⟨m,xs,f,y,c3⟩:=v.get Q;have P:di (fp.map V.ref) kk=some (.ref m):=by
    unfold di;rw[af,v.length,T];simp[f]
   show⟨a,fp.map V.ref,kk,_,rfl,p,eh.of (d.h _ _ ha),P,.inl ⟨rfl,xs,eh.of (d.h _ _ y)⟩,m,xs,rfl,rfl,d.h _ _ y,?_⟩;show g.nx _ _ G2 _ d.g ((k.ext d).fb hg A λw nd ow=>?_) e;obtain⟨s,O⟩:=ow;have Z:w=fp:=by
    have:=(d.h _ _ ha).symm.trans s;injection this with this
    injection this with this
    show((List.map_inj_right λa b h=>by cases h;rfl).mp this).symm
   subst Z;have t:=aH.mp nd;show⟨w,nd,⟨?_,O.set bY.nil t.2 f⟩,λq S=>.inl S,λb hb _=>cL λz=>hb (by rw[z];show ax _ (aw f))⟩;rw[cL (λz:a=m=>t.1 (z▸aw f))];show s
  show e.elim
 show h.elim
end
theorem P5{K:J'}{d fn:Str}{C e:Addr}(N:PySem.W.nsIn K mainGlobals d=some (some (.ref C)))(m:PySem.W.exmOne K (.ref C) (.ref e)=some true)(f:wG K C fn):∀c∈[d],∀D,PySem.W.nsIn K mainGlobals c=some (some (.ref D))->PySem.W.exmOne K (.ref D) (.ref e)=some true/\wG K D fn:=by
 intro c a D b;rw[aM] at a;subst a;rw[N] at b;cases b;show⟨m,f⟩
structure Iz(K:J')(mg:Str->Option Value)(cn qual fn:Str)(st:Stmt):Prop where
 ex:∃(C f Wa:Addr)(fd:FuncData),PySem.W.nsIn K mainGlobals cn=some (some (.ref C))/\PySem.W.findIn K (.ref C) "__init__"=some (some (.ref f))/\mg cn=some (.ref C)/\PySem.W.keepIn K (.ref C)=true/\nk K C [.type "ValueError",.type "Exception",.type "BaseException",.type "object"] "ValueError.__new__" (some f)=true/\PySem.W.typeIn K (.ref f)=some (.type "function")/\DC K "__init__" qual st f fd/\wF K C fn/\
  mg "WireError"=some (.ref Wa)/\PySem.W.readsIn K Wa (.type "type")=true/\PySem.W.specialIn K (.ref Wa) "__getattribute__"=some (some (.builtin "type.__getattribute__"))/\PySem.W.findCls K (.ref Wa) (.type "type") "__init__"=some (.val (.builtin "ValueError.__init__"))/\PySem.W.handedIn (.builtin "ValueError.__init__")=true
section
variable{P:Program}{w:World}{K:J'}{mg:Str->Option Value}{base:Heap}
theorem P4{n a e fn p:Str}{st:Stmt}{kk}{j i h g d x v u t o:Pos}(A:Iz K mg n a fn st)(S:ck ["self",p] ["self",p] (bZ st))
  (hb:cO st=[.Expr (.Call (.Attribute (.Name "WireError" j) "__init__" i) [.Name "self" h,.Constant (.str e) kk g] [] d) x,.Assign [.Attribute (.Name "self" v) fn u] (.Name p t) o])
  (b:∀(kV doc pm:Value)(an:Option Addr)(c ct:Value)(us:List Value),us.length=2->bindArgs (PySem.W.fnOf "__init__" a (e9 st) (cO st) (bZ st) .none kV doc pm an c ct) ⟨us,[]⟩=pure ((["self",p]:List Str).zip us))
  (r:hZ (bZ st) "self":=by first | show Or.inl rfl | show Or.inr (Or.inl rfl) | show Or.inr (Or.inr rfl)) (q:hZ (bZ st) p:=by first | show Or.inl rfl | show Or.inr (Or.inl rfl) | show Or.inr (Or.inr rfl)) (Q:(p==("__debug__":Str))=false:=by decide) (l:(p==("__classdict__":Str))=false:=by decide)
  (hg:∀f c A outer s H E,Gl (jV jt P w K mg base ["self",p] a (bZ st) f c A outer s H E).lg "WireError":=by intros;rfl)
  (ht:∀f c A outer s H E,∃pl,eval (.Call (.Attribute (.Name "WireError" j) "__init__" i) [.Name "self" h,.Constant (.str e) kk g] [] d) (jV jt P w K mg base ["self",p] a (bZ st) f c A outer s H E).lg.env=(do
   let ov <-eval (.Name "WireError" j) (jV jt P w K mg base ["self",p] a (bZ st) f c A outer s H E).lg.env
   standAt i.atName
   let(M,first) <-holding [ov] (getMethod ov "__init__" pl)
   callWith d M first (backTo d (starEach [.Name "self" h,.Constant (.str e) kk g] (jV jt P w K mg base ["self",p] a (bZ st) f c A outer s H E).lg.env)) (backToKw d (keywordEach [] (jV jt P w K mg base ["self",p] a (bZ st) f c A outer s H E).lg.env))):=by intros;show⟨_,rfl⟩):tK P w K mg base 1 n fn:=by
 obtain⟨C,f,Wa,fd,L,_,J,I,m,G,F,D,B,z,y,N,O⟩:=A.ex;show⟨C,f,fd,["self",p],_,_,_,_,PySem.F.excBase_ValueError,m,L,J,I,G,NK (k:=0) F S hb PySem.F.excBase_ValueError B z y N O m D r q Q l (λc A outer s H E=>hg f c A outer s H E) (λc A outer s H E=>ht f c A outer s H E),F.binds b⟩
end
end L2
section
namespace Wc
open PySem L2
noncomputable def iG(l:List Nat):Str:=⟨l.toArray⟩
theorem yH(l:List Nat):(iG l).cps.toList=l:=by simp[iG]
theorem lU(l:List Nat):(iG l).length=l.length:=by simp[iG,Str.length]
theorem vg(a b:List Nat):iG a++iG b=iG (a++b):=by
 show(⟨(iG a).cps++(iG b).cps⟩:Str)=_;simp[iG]
theorem sQ{a b:List Nat}:iG a=iG b↔a=b:=by
 constructor
 .intro h;have:(iG a).cps.toList=(iG b).cps.toList:=by rw[h]
  simpa[iG] using this
 rintro rfl;rfl
theorem uk(c:Nat):(⟨#[c]⟩:Str)=iG [c]:=rfl
theorem rD{a b:Type}(f:a->b)(l:List a)(i:Int):di (l.map f) i=(di l i).map f:=by
 unfold di;rw[af];cases kP l.length i with
 | none=>rfl
 | some j=>simp
theorem Pk{b a:Type}{f:b->a}{o:Option b}{p:a->Prop}:(∃d,o.map f=some d/\p d)↔∃x,o=some x/\p (f x):=by
 cases o with
 | none=>simp
 | some x=>simp
theorem Pj{b a:Type}{f:b->a}{l:List b}{i:Int}{p:a->Prop}:(∃d,di (l.map f) i=some d/\p d)↔∃x,di l i=some x/\p (f x):=by rw[rD];show Pk
theorem vp{a:Type}{l:List a}{i:Int}(c:0<=i)(b:i<l.length):∃h:i.toNat<l.length,di l i=some (l[i.toNat]'h):=by
 show⟨by ext,?_⟩;unfold di kP;rw[if_pos c,if_pos b];simp only[Option.bind_some];show ag _
theorem P2{a:Type}{l:List a}{i:Int}(c:0<=i)(b:i<l.length):∃z,di l i=some z/\z∈l:=by
 obtain⟨h,e⟩:=vp c b;show⟨_,e,bJ h⟩
theorem Ji{a:Type}{l:List a}{n:Nat}(i:Int)(b:n<=l.length)(h:0<n):∃z,di l (i%(n:Int))=some z/\z∈l:=
 P2 (bx _ (by ext)) (by have:=bu i (show(0:Int)<n by ext);ext)
theorem mU{a:Type}{l:List a}{j:Nat}(h:j<l.length):di l (j:Int)=some l[j]:=by
 obtain⟨h',e⟩:=vp (l:=l) (i:=(j:Int)) (by ext) (by ext);simpa using e
theorem B5{n d:Nat}{j:Int}(h:0<=j):HT.dB n d (some j)=min j.toNat n:=by show(if j<0 then _ else _)=_;rw[if_neg (by ext)]
theorem P1{b:Type}(l:List b){j:Int}(h:0<=j):jU l none (some j)=l.take j.toNat:=by
 unfold jU;rw[B5 h];show((l.drop 0).take (min j.toNat l.length-0))=_;rw[List.drop_zero,Nat.sub_zero,Nat.min_comm];by_cases a:l.length<=j.toNat
 .rw[Nat.min_eq_left a,bK a,bK (au _)]
 rw[Nat.min_eq_right (by ext)]
theorem Fh{b:Type}(l:List b){j:Int}(h:0<=j):jU l (some j) none=l.drop j.toNat:=by
 unfold jU;rw[B5 h];show((l.drop (min j.toNat l.length)).take (l.length-_))=_;by_cases a:l.length<=j.toNat
 .rw[Nat.min_eq_right a,List.drop_of_length_le a,List.drop_of_length_le (au _)];simp
 rw[Nat.min_eq_left (by ext),bK (by simp)]
theorem K6{c:Type}(l:List c){i j:Int}(e:0<=i)(h:0<=j):jU l (some i) (some j)=(l.drop i.toNat).take (j.toNat-i.toNat):=by
 unfold jU;rw[B5 h,B5 e];by_cases b:l.length<=i.toNat
 .rw[Nat.min_eq_right b,List.drop_of_length_le b,List.drop_of_length_le (au _)];simp
 rw[Nat.min_eq_left (a:=i.toNat) (by ext)];by_cases d:l.length<=j.toNat
 .rw[Nat.min_eq_right d,bK (by simp),bK (by simp;ext)]
 rw[Nat.min_eq_left (by ext)]
theorem yG(l:List Nat){j:Int}(h:0<=j):pP (iG l) none (some j)=iG (l.take j.toNat):=by unfold pP;rw[yH,P1 _ h];rfl
theorem Ui(l:List Nat){j:Int}(h:0<=j):pP (iG l) (some j) none=iG (l.drop j.toNat):=by unfold pP;rw[yH,Fh _ h];rfl
theorem RW(l:List Nat){i j:Int}(a:0<=i)(h:0<=j):pP (iG l) (some i) (some j)=iG ((l.drop i.toNat).take (j.toNat-i.toNat)):=by unfold pP;rw[yH,K6 _ a h];rfl
theorem RV{a d:Type}(f:a->d)(l:List a)(b c:Option Int):jU (l.map f) b c=(jU l b c).map f:=by unfold jU;rw[af,List.map_take,List.map_drop]
theorem Ey(n:Nat)(i:Int):eI n (.int i)=True:=by cases n<;>show eq_true trivial
theorem B4(n:Nat)(i:Str):eI n (.str i)=True:=by cases n<;>show eq_true trivial
theorem Eb(n:Nat)(i:Bool):eI n (.bl i)=True:=by cases n<;>show eq_true trivial
theorem JT(n:Nat):eI n .non=True:=by cases n<;>show eq_true trivial
theorem Ex{c:Type}[BEq c][LawfulBEq c][DecidableEq c](a b:c):(a==b)=decide (a=b):=by rw[Bool.eq_iff_iff];simp
theorem Ew(a b:Str):dD (.str a) (.str b)=decide (a=b):=by simp only[dD,Ex]
theorem JS(a b:Int):dD (.int a) (.int b)=decide (a=b):=by simp only[dD,Ex]
theorem jX:sizeLine=16777216:=by decide
@[irreducible] def mQ(u:TX)(D:DE):Ev->Prop:=u D
theorem Ph(t u:TX)(D:DE)(a:Ev):cF t u D a=t { nx:=mQ u D,rt:=D.rt,bk:=D.bk,ct:=D.ct } a:=by unfold mQ;rfl
end Wc
open PySem L2 Wc
local macro_rules | `(tactic| walk_at"b")=>`(tactic| simp only[Ph,iw,r8,ye,tH,eR,BP,dC,rq,wX,IV,Ot,gf,cm,cC,b8,av,List.map_nil,List.cons_append,List.nil_append,List.set,gt,pO,ji,oI,cg,gZ,gJ,jf,gM,fq,og,pR,c9,mx,dM,ko,gy,lJ,Bp,oEq,ue,de,oN,qu,mT,e8,oY,Ij,yd,oW,uY,tR,Bl,n8,lO,rZ,iH,pS,tL,jk,iD,wY,sj,wQ,yi,Bk,o4,OY,PL,Xz,Xx,kq,je,Int.reduceLT,Int.reduceLE,Int.reduceAdd,Int.reduceSub,Int.reduceMul,Int.reduceNeg,Int.reducePow,Int.reduceToNat,decide_true,bU,true_and,and_true,and_self,or_true,true_or,Ey,B4,Eb,JT,Pj,ar,aU,br,bF,Bool.not_false,aG,bP,Nat.reduceAdd,a9,JS,Ew,RV,Cz,UG,Bt,si])
local macro_rules | `(tactic| walk_at"all")=>`(tactic| ((try walk_at"px");repeat(simp only[mQ];try walk_at"px")))
local macro_rules | `(tactic| walk_at"px")=>`(tactic| walk_at"b")
local macro_rules | `(tactic| walk_at"go")=>`(tactic| (simp only[mQ];walk_at"px"))
namespace Wc
open PySem L2
noncomputable def n4(c k:Int):Int:=(c%1000000000000000000000000000000*(k*k+48271)+7919*k*k*k+11)%2147483647/7
theorem Ea(c k:Int):0<=n4 c k:=Int.ediv_nonneg (bx _ (by decide)) (by decide)
theorem PZ(c k:Int):n4 c k<306783379:=by
 unfold n4;generalize c%1000000000000000000000000000000*(k*k+48271)+7919*k*k*k+11=x;ext
def sG:eJ:=λds Q=>∃c k:Int,ds=[.int c,.int k]/\0<=k/\k<=1000000/\Q (.fz (.int (n4 c k)))
def Fv:TX:=(gJ (cg (oI kq λi j=>.int (i/j)) (cg (oI (λ_ j=>0<j) λi j=>.int (i%j)) (cg gZ (cg gZ (cg (oI je λi j=>.int (i*j)) (cg (oI (λ_ j=>0<j) λi j=>.int (i%j)) (b8 0) (cg (oI rn λi j=>.int (i ^ j.toNat)) (dC (.int 10)) (dC (.int 30)))) (cg gZ (cg (oI je λi j=>.int (i*j)) (b8 1) (b8 1)) (dC (.int 48271)))) (cg (oI je λi j=>.int (i*j)) (cg (oI je λi j=>.int (i*j)) (cg (oI je λi j=>.int (i*j)) (dC (.int 7919)) (b8 1)) (b8 1)) (b8 1))) (dC (.int 11))) (dC (.int 2147483647))) (dC (.int 7))))
abbrev jl(n:Nat)(b:eJ)(T:TX)(N:List Str):Prop:=∀(ds:List D)(a:R->Prop),ds.length=n->b ds a->T { nx:=λ_=>a (.fz .non),rt:=a } (pZ N ds)
theorem VQ:jl 2 sG Fv ["_law_cell","_law_k"]:=by
 intro ds d hl h;obtain⟨c,k,rfl,h0,b,q⟩:=h;show Fv _ [.fz (.int c),.fz (.int k)];unfold Fv;walk_at"all";have hk:k*k<=1000000*1000000:=Int.mul_le_mul b b h0 (by decide);have e:0<=k*k:=Int.mul_nonneg h0 h0;show⟨.inl ⟨by ext,by ext⟩,.inr ⟨by ext,by ext⟩,.inr ⟨by ext,by ext⟩,.inr ⟨by ext,by ext⟩,?_⟩;show q
open PyProof.Rows
noncomputable def dO:Option Str->D
 | none=>.non
 | some s=>.str s
noncomputable def dS(l:List Str):D:=.lst (l.map .str)
noncomputable def dI(l:List Int):D:=.lst (l.map .int)
noncomputable def ZH(p:Int×Int×Int):D:=.tup [.int p.1,.int p.2.1,.int p.2.2]
noncomputable def dK(l:List (Int×Int×Int)):D:=.lst (l.map ZH)
theorem yB(n:Nat)(o:Option Str):eI n (dO o)=True:=by
 cases o with
 | none=>show JT n
 | some s=>show B4 n s
theorem wW(a b:Option Str):dD (dO a) (dO b)=decide (a=b):=by
 cases a<;>cases b<;>simp only[dO,dD,Ex,aA,reduceCtorEq,decide_true,bU]
theorem Cy(a:Option Str)(b:Str):dD (dO a) (.str b)=decide (a=some b):=wW a (some b)
theorem Cw(a:Str)(b:Option Str):dD (.str a) (dO b)=decide (some a=b):=wW (some a) b
theorem Fg{f:Type}{h:jQ}{g:iA}{j:TX}{D:DE}{b:Ev}(L:List f)(a:f->L2.D)(hw:∀k:List L2.D->Prop,k (rp (L.map a))->h b k)(Iv:Nat->Ev->Prop)(l:Iv 0 b)
  (turn:∀(i:Nat) x ρ',L[i]?=some x->Iv i ρ'->g (.tup [.int i,a x]) ρ' λm=>j { D with nx:=Iv (i+1),ct:=Iv (i+1),bk:=D.nx } m) (fin:∀ρ',Iv L.length ρ'->D.nx ρ'):jM h g j D b:=by
 show Kx (rp (L.map a)) hw Iv l (λi d ρ' hd c=>?_) (λρ' c=>fin ρ' (by simpa[rp] using c));unfold rp at hd;rw[List.getElem?_mapIdx,ao] at hd;cases e:L[i]? with
 | none=>rw[e] at hd;cases hd
 | some x=>rw[e] at hd;cases hd;show turn i x ρ' e c
def ym(g:iA)(b:TX)(D:DE)(a:Ev)(ds:List L2.D):Prop:=∃Iv:Nat->Ev->Prop,Iv 0 a/\
 (∀i d ρ',ds[i]?=some d->Iv i ρ'->g d ρ' λc=>b { D with nx:=Iv (i+1),ct:=Iv (i+1),bk:=D.nx } c)/\∀ρ',Iv ds.length ρ'->D.nx ρ'
theorem Fu{f:Type}{g:iA}{h:TX}{D:DE}{e:Ev}(L:List f)(c:f->L2.D)(Iv:Nat->Ev->Prop)(j:Iv 0 e)
  (turn:∀i x ρ',L[i]?=some x->Iv i ρ'->g (c x) ρ' λk=>h { D with nx:=Iv (i+1),ct:=Iv (i+1),bk:=D.nx } k) (fin:∀ρ',Iv L.length ρ'->D.nx ρ'):ym g h D e (L.map c):=by
 show⟨Iv,j,λi d ρ' hd a=>?_,λρ' a=>fin ρ' (by simpa using a)⟩;rw[ao] at hd;cases b:L[i]? with
 | none=>rw[b] at hd;cases hd
 | some x=>rw[b] at hd;cases hd;show turn i x ρ' b a
theorem JR{n:Nat}{a:Type}(f:a->D)(l:List a)(h:∀x∈l,eI n (f x)):eI (n+1) (.lst (l.map f)):=by
 intro d hd;rw[aB] at hd;obtain⟨x,b,rfl⟩:=hd;show h x b
theorem JK(l:List D):fF (jP (.tup l)) "tuple"=true:=by show fF "tuple" "tuple"=true;decide
theorem PY(l:List D):fF (jP (.tup l)) "list"=false:=by show fF "tuple" "list"=false;decide
theorem JJ(l:List D):fF (jP (.lst l)) "list"=true:=by show fF "list" "list"=true;decide
theorem PV(l:List D):fF (jP (.lst l)) "tuple"=false:=by show fF "list" "tuple"=false;decide
theorem JI(z:Int):fF (jP (.int z)) "bool"=false:=by show fF "int" "bool"=false;decide
theorem JH(z:Int):fF (jP (.int z)) "int"=true:=by show fF "int" "int"=true;decide
theorem PU(z:Str):fF (jP (.str z)) "str"=true:=by show fF "str" "str"=true;decide
theorem PR(z:Str):fF (jP (.str z)) "list"=false:=by show fF "str" "list"=false;decide
noncomputable def dN(n:Nat):D:=.int n
theorem RU{a:Type}(l:List a)(h:l≠[]):di l (-1)=some (l.getLast h):=by
 have b:0<l.length:=List.length_pos_iff.mpr h;unfold di kP;rw[if_neg (by decide),if_pos (by ext)];simp only[Option.bind_some];rw[List.getLast_eq_getElem,show(-1+(l.length:Int)).toNat=l.length-1 by ext];show ag _
theorem pT(o:OV):(R.ov o).sl=.ov o:=rfl
theorem pY(o:OV):(R.ov o).val=o.val:=rfl
noncomputable def jN:Nat->Int->List Nat
 | 0,_=>[]
 | n+1,c=>(97+(c%26).toNat)::jN n (c/26)
theorem LJ(n:Nat)(c:Int):(jN n c).length=n:=by
 induction n generalizing c with
 | zero=>rfl
 | succ n a=>simp[jN,a]
theorem K5(n:Nat)(c:Int):∀x∈jN n c,97<=x/\x<=122:=by
 induction n generalizing c with
 | zero=>intro x a;cases a
 | succ n b=>
  intro x a;rcases aj.mp a with rfl | h
  .have h0:=bx c (show(26:Int)≠0 by decide);have d:=bu c (show(0:Int)<26 by decide);ext
  show b _ x h
noncomputable def Dr:Str:="abcdefghijklmnopqrstuvwxyz"
theorem PQ:∀k:Fin 26,di Dr.cps.toList (k.val:Int)=some (97+k.val):=by decide +kernel
theorem P0(c:Int):di Dr.cps.toList (c%26)=some (97+(c%26).toNat):=by
 have h0:=bx c (show(26:Int)≠0 by decide);have a:=bu c (show(0:Int)<26 by decide);have:=PQ ⟨(c%26).toNat,by ext⟩;simp only at this;rwa [Int.toNat_of_nonneg h0] at this
def ze:eJ:=λds Q=>∃(c:Int)(n:Nat),ds=[.int c,.int n]/\n<=1000/\Q (.fz (.str (iG (jN n c))))
def FJ:TX:=(cF (fq 2 (dC (.str "abcdefghijklmnopqrstuvwxyz")))
 (cF (fq 3 (dC (.str "")))
 (cF (jM (sj (cm (b8 1) cC)) (dM 4) (cF (fq 3 (cg gZ (b8 3) (cg de (b8 2) (cg (oI (λ_ j=>0<j) λi j=>.int (i%j)) (b8 0) (dC (.int 26))))))
 (fq 0 (cg (oI kq λi j=>.int (i/j)) (b8 0) (dC (.int 26))))))
 (gJ (b8 3)))))
theorem V8:jl 2 ze FJ ["_law_cell","_law_size","_law_signs","_law_stem_here","_law_k"]:=by
 intro ds g hl h;obtain⟨c,n,rfl,hn,q⟩:=h;show FJ _ [.fz (.int c),.fz (.int n),.un,.un,.un];unfold FJ;walk_at"all";show U9 n (λj h=>?_) (λi d=>∃(b:Int)(acc:List Nat)(k:Sl),d=[.fz (.int b),.fz (.int n),.fz (.str Dr),.fz (.str (iG acc)),k]/\acc.length=i/\acc++jN (n-i) b=jN n c) ⟨_,[],_,rfl,rfl,rfl⟩ ?_ ?_
 .walk_at"all";show⟨by ext,by ext,by simpa using h⟩
 .rintro i d f ⟨b,acc,k,rfl,e,he⟩;walk_at"all";show⟨by decide,_,P0 b,?_,_,acc++[97+(b%26).toNat],_,by rw[uk,vg],by simp[e],?_⟩
  .rw[lU,uk,lU,jX];simp;ext
  rw[<-he,show n-i=(n-(i+1))+1 by ext,jN];simp
 rintro d ⟨b,acc,k,rfl,e,he⟩;walk_at"all";rw[Nat.sub_self] at he;simp only[jN,List.append_nil] at he;rw[he];show q
noncomputable def wV(c:Int):List (List Nat):=
 if c/64%3=0 then [104,103,102,101,100,99,98,97].map λs=>(jN 6 (c/512)).take (c/8%(c%6+1)).toNat++[s]++((jN 6 (c/512)).drop (c/8%(c%6+1)).toNat).take ((c%6).toNat-(c/8%(c%6+1)).toNat)
 else if c/64%3=1 then(List.range 8).map λk=>(jN 6 (c/512)).take (c%6%4).toNat++[if k/4=0 then 109 else 116]++[if k/2%2=0 then 110 else 117]++[if k%2=0 then 111 else 118]
 else(List.range 6).map (λk=>(jN 6 (c/512)).take (k+1))++[([if (jN 6 (c/512)).headD 0=97 then 98 else 97]++(jN 6 (c/512)).drop 1).take 1,([if (jN 6 (c/512)).headD 0=97 then 98 else 97]++(jN 6 (c/512)).drop 1).take 3]
noncomputable def DS(i:Int):Int:=(i%1000000000000000000000000+5)*7046029254386353131%1000000000000000000000007
noncomputable def vb(i:Int):List Str:=(wV (DS i)).map iG
structure Words(ws:List Str):Prop where
 len:ws.length=8
 sz:∀w∈ws,1<=w.length/\w.length<=6
 Dr:∀w∈ws,∀x∈w.cps.toList,97<=x/\x<=122
 nd:ws.Nodup
theorem Jh(x:Int):∃a b c d e f:Nat,jN 6 x=[a,b,c,d,e,f]/\(97<=a/\a<=122)/\(97<=b/\b<=122)/\(97<=c/\c<=122)/\(97<=d/\d<=122)/\(97<=e/\e<=122)/\(97<=f/\f<=122):=by
 have h:=K5 6 x;simp only[jN,aj,aS,or_false,forall_eq_or_imp,forall_eq] at h;show⟨_,_,_,_,_,_,by simp only[jN],h.1,h.2.1,h.2.2.1,h.2.2.2.1,h.2.2.2.2.1,h.2.2.2.2.2⟩
theorem RT{l:List (List Nat)}(h:l.Nodup):(l.map iG).Nodup:=by
 unfold List.Nodup at *;rw[bL];show h.imp λa e=>a (sQ.mp e)
theorem Ta(c:Int):(wV c).length=8/\(∀w∈wV c,(1<=w.length/\w.length<=6)/\∀x∈w,97<=x/\x<=122)/\(wV c).Nodup:=by
 have i:=K5 6 (c/512);have l:=LJ 6 (c/512);have s0:0<=c%6:=bx _ (by decide);have s1:c%6<6:=bu _ (by decide);unfold wV;by_cases h0:c/64%3=0
 .rw[if_pos h0];have t0:0<=c/8%(c%6+1):=bx _ (by ext);have t1:c/8%(c%6+1)<c%6+1:=bu _ (by ext);generalize c/8%(c%6+1)=at' at *;generalize jN 6 (c/512)=st at *;show⟨rfl,λw hw=>?_,?_⟩
  .rw[aB] at hw;obtain⟨s,h,rfl⟩:=hw;have n:97<=s/\s<=122:=by
    simp only[aj,aS,or_false] at h;ext
   show⟨?_,λx g=>?_⟩
   .simp only[aL,aO,List.length_drop,aG,bP,l];ext
   simp only[aC,aM] at g;rcases g with(g | rfl) | g
   .exact i x (List.mem_of_mem_take g)
   .exact n
   show i x (List.mem_of_mem_drop (List.mem_of_mem_take g))
  simp[List.append_assoc]
 rw[if_neg h0];by_cases k:c/64%3=1
 .rw[if_pos k];have q:0<=c%6%4:=bx _ (by decide);have p:c%6%4<4:=bu _ (by decide);generalize c%6%4=m at *;generalize jN 6 (c/512)=st at *;show⟨by simp,λw hw=>?_,?_⟩
  .rw[aB] at hw;obtain⟨s,h,rfl⟩:=hw;show⟨?_,λx g=>?_⟩
   .simp only[aL,aO,List.length_drop,aG,bP,l];ext
   simp only[aC,aM] at g;rcases g with((g | rfl) | rfl) | rfl
   .exact i x (List.mem_of_mem_take g)
   .split<;>ext
   .split<;>ext
   split<;>ext
  simp[List.range,List.range.loop,List.append_assoc]
 rw[if_neg k];obtain⟨a,b,t,d,e,f,h,ha,hb,r,hd,he,hf⟩:=Jh (c/512);rw[h];have j:97<=(if a=97 then 98 else 97)/\(if a=97 then 98 else 97)<=122/\(if a=97 then 98 else 97)≠a:=by split<;>ext
 generalize (if a=97 then 98 else 97)=o at j;show⟨by simp,?_,?_⟩
 .intro w hw;simp[List.range,List.range.loop] at hw;rcases hw with rfl | rfl | rfl | rfl | rfl | rfl | rfl | rfl<;>(show⟨by simp,λx g=>?_⟩)<;>simp at g<;>(try split at g)<;>ext
 have:¬a=o:=λz=>j.2.2 z.symm
 simp[List.range,List.range.loop];split<;>ext
theorem S9(i:Int):Words (vb i):=by
 obtain⟨d,b,c⟩:=Ta (DS i);show⟨by simp[vb,d],λw hw=>?_,λw hw=>?_,RT c⟩
 .unfold vb at hw;rw[aB] at hw;obtain⟨l,a,rfl⟩:=hw;rw[lU];show(b l a).1
 unfold vb at hw;rw[aB] at hw;obtain⟨l,a,rfl⟩:=hw;rw[yH];show(b l a).2
def y1:eJ:=λds Q=>∃i:Int,ds=[.int i]/\Q (.ow ((vb i).map .str))
def F0:TX:=(cF (fq 0 (cg (oI (λ_ j=>0<j) λi j=>.int (i%j)) (cg (oI je λi j=>.int (i*j)) (cg gZ (cg (oI (λ_ j=>0<j) λi j=>.int (i%j)) (b8 0) (cg (oI rn λi j=>.int (i ^ j.toNat)) (dC (.int 10)) (dC (.int 24)))) (dC (.int 5))) (dC (.int 7046029254386353131))) (cg gZ (cg (oI rn λi j=>.int (i ^ j.toNat)) (dC (.int 10)) (dC (.int 24))) (dC (.int 7)))))
 (cF (fq 1 (cg (oI (λ_ j=>0<j) λi j=>.int (i%j)) (b8 0) (dC (.int 6))))
 (cF (fq 2 (e8 2 ze (cm (cg (oI kq λi j=>.int (i/j)) (b8 0) (dC (.int 512))) (cm (dC (.int 6)) cC))))
 (cF (fq 3 (cg (oI (λ_ j=>0<j) λi j=>.int (i%j)) (cg (oI kq λi j=>.int (i/j)) (b8 0) (dC (.int 8))) (cg gZ (b8 1) (dC (.int 1)))))
 (cF (iw (eR (cg oEq (cg (oI (λ_ j=>0<j) λi j=>.int (i%j)) (cg (oI kq λi j=>.int (i/j)) (b8 0) (dC (.int 64))) (dC (.int 3))) (dC (.int 0)))) (gJ (hU (iD (dC (.str "hgfedcba"))) [none,some 2,some 3,some 1] (dM 0) jk (cg gZ (cg gZ (oN (b8 1) qu (mT (b8 2))) (b8 0)) (oN (b8 1) (mT (b8 2)) (mT (b8 3)))))) jf)
 (cF (iw (eR (cg oEq (cg (oI (λ_ j=>0<j) λi j=>.int (i%j)) (cg (oI kq λi j=>.int (i/j)) (b8 0) (dC (.int 64))) (dC (.int 3))) (dC (.int 1)))) (gJ (hU (sj (cm (dC (.int 8)) cC)) [none,some 2,some 1] (dM 0) jk (cg gZ (cg gZ (cg gZ (oN (b8 1) qu (mT (cg (oI (λ_ j=>0<j) λi j=>.int (i%j)) (b8 2) (dC (.int 4))))) (cg de (dC (.str "mt")) (cg (oI kq λi j=>.int (i/j)) (b8 0) (dC (.int 4))))) (cg de (dC (.str "nu")) (cg (oI (λ_ j=>0<j) λi j=>.int (i%j)) (cg (oI kq λi j=>.int (i/j)) (b8 0) (dC (.int 2))) (dC (.int 2))))) (cg de (dC (.str "ov")) (cg (oI (λ_ j=>0<j) λi j=>.int (i%j)) (b8 0) (dC (.int 2))))))) jf)
 (cF (fq 4 (cg gZ (cg de (dC (.str "ab")) (gf Bk (cm (cg oEq (cg de (b8 2) (dC (.int 0))) (dC (.str "a"))) cC))) (oN (b8 2) (mT (dC (.int 1))) qu)))
 (gJ (cg gZ (hU (sj (cm (dC (.int 6)) cC)) [none,some 2] (dM 0) jk (oN (b8 1) qu (mT (cg gZ (b8 0) (dC (.int 1)))))) (og (cm (oN (b8 4) qu (mT (dC (.int 1)))) (cm (oN (b8 4) qu (mT (dC (.int 3)))) cC))))))))))))
theorem PN:(Str.ofString "hgfedcba").cps.toList=[104,103,102,101,100,99,98,97]:=by decide +kernel
theorem NI(k:Nat)(h:k<8):di (Str.ofString "mt").cps.toList ((k:Int)/4)=some (if k/4=0 then 109 else 116):=by
 have:∀k:Fin 8,di (Str.ofString "mt").cps.toList ((k.val:Int)/4)=some (if k.val/4=0 then 109 else 116):=by decide +kernel
 show this ⟨k,h⟩
theorem NH(k:Nat)(h:k<8):di (Str.ofString "nu").cps.toList ((k:Int)/2%2)=some (if k/2%2=0 then 110 else 117):=by
 have:∀k:Fin 8,di (Str.ofString "nu").cps.toList ((k.val:Int)/2%2)=some (if k.val/2%2=0 then 110 else 117):=by decide +kernel
 show this ⟨k,h⟩
theorem NG(k:Nat)(h:k<8):di (Str.ofString "ov").cps.toList ((k:Int)%2)=some (if k%2=0 then 111 else 118):=by
 have:∀k:Fin 8,di (Str.ofString "ov").cps.toList ((k.val:Int)%2)=some (if k.val%2=0 then 111 else 118):=by decide +kernel
 show this ⟨k,h⟩
theorem V0:jl 1 y1 F0 ["_law_cell","_law_size","_law_stem_here","_law_at","_law_other"]:=by
 intro ds A hl h;obtain⟨i,rfl,q⟩:=h;show F0 _ [.fz (.int i),.un,.un,.un,.un];unfold F0;walk_at"all";unfold vb wV DS at q;generalize (i%1000000000000000000000000+5)*7046029254386353131%1000000000000000000000007=c at q ⊢;have s0:0<=c%6:=bx _ (by decide);have s1:c%6<6:=bu _ (by decide);show⟨c/512,6,rfl,by decide,by ext,?_⟩;have t0:0<=c/8%(c%6+1):=bx _ (by ext);have t1:c/8%(c%6+1)<c%6+1:=bu _ (by ext);have B:=LJ 6 (c/512);have big:=jX;by_cases h0:c/64%3=0
 .rw[if_pos h0] at q;rw[if_pos h0];show lT [104,103,102,101,100,99,98,97] (λc=>.str ⟨#[c]⟩) (λs=>.str (iG ((jN 6 (c/512)).take (c/8%(c%6+1)).toNat++[s]++((jN 6 (c/512)).drop (c/8%(c%6+1)).toNat).take ((c%6).toNat-(c/8%(c%6+1)).toNat)))) (λr h=>?_) (by decide) (λs g t k=>?_) ?_
  .walk_at"all";rw[PN];show h
  .walk_at"all";rw[yG _ t0,RW _ t0 s0,uk,vg,vg];show⟨by rw[lU];ext,?_,by rw[lU];ext,?_,k⟩
   .simp only[lU,aO,aG,bP];ext
   simp only[lU,aL,aO,List.length_drop,aG,bP];ext
  show q
 rw[if_neg h0] at q;rw[if_neg h0];by_cases j:c/64%3=1
 .rw[if_pos j] at q;rw[if_pos j];have v:0<=c%6%4:=bx _ (by decide);show lT (List.range 8) (λ(i:Nat)=>.int (0+i)) (λk=>.str (iG ((jN 6 (c/512)).take (c%6%4).toNat++[if k/4=0 then 109 else 116]++[if k/2%2=0 then 110 else 117]++[if k%2=0 then 111 else 118]))) (λr h=>?_) (by decide) (λs g t k=>?_) ?_
  .walk_at"all";show h
  .have o:s<8:=by simpa using g
   rw[Int.zero_add];walk_at"all";rw[yG _ v];show⟨by rw[lU];ext,by decide,_,NI s o,?_,by decide,_,NH s o,?_,by decide,_,NG s o,?_,?_⟩
   .simp only[lU,uk,aO,aG,bP];ext
   .simp only[lU,uk,vg,aL,aO,aG,bP];ext
   .simp only[lU,uk,vg,aL,aO,aG,bP];ext
   simp only[uk,vg];show k
  rw[aF] at q;show q
 rw[if_neg j] at q;rw[if_neg j];obtain⟨a,b,p,d,e,f,g,ha,hb,y,hd,he,hf⟩:=Jh (c/512);rw[g] at q ⊢;have w:di (iG [a,b,p,d,e,f]).cps.toList 0=some a:=by rw[yH];rfl
 show⟨by rw[lU];simp;ext,a,w,?_⟩;have x:di (Str.ofString "ab").cps.toList (if (⟨#[a]⟩:Str)=Str.ofString "a" then 1 else 0)=some (if a=97 then 98 else 97):=by
  by_cases n:a=97
  .subst n;decide +kernel
  have:¬((⟨#[a]⟩:Str)=Str.ofString "a"):=by
   intro z;have m:(⟨#[a]⟩:Str).cps.toList=(Str.ofString "a").cps.toList:=by rw[z]
   have u:(Str.ofString "a").cps.toList=[97]:=by decide +kernel
   rw[u] at m;simp at m;show n m
  rw[if_neg this,if_neg n];decide +kernel
 show⟨by decide,_,x,?_⟩;walk_at"all";rw[Ui _ (by decide),uk,vg];show⟨by rw[lU];simp;ext,by simp only[lU];simp;ext,?_⟩;show lT (List.range 6) (λ(i:Nat)=>.int (0+i)) (λk=>.str (iG ([a,b,p,d,e,f].take (k+1)))) (λr h=>?_) (by decide) (λs g t k=>?_) ?_
 .walk_at"all";show h
 .walk_at"all";rw[yG _ (by ext),show(0+(s:Int)+1).toNat=s+1 by ext];show⟨by rw[lU];simp;ext,k⟩
 walk_at"all";rw[yG _ (by decide),yG _ (by decide)];show⟨by rw[lU];simp;ext,by rw[lU];simp;ext,by decide,by simp;ext,?_⟩;simp only[aI,aF,av,List.map_nil] at q;show q
end Wc
open PySem L2 PyProof.Rows Wc
local macro_rules | `(tactic| walk_at"px")=>`(tactic| (repeat(first | walk_at"b" | simp only[Cy,Cw,wW,yB])))
namespace Wc
open PySem L2 PyProof.Rows
structure Pc where
 n:Option Str
 l:Int
 r:Int
 k:Int
 deriving DecidableEq
noncomputable def ee(p:Pc):D:=.tup [dO p.n,.int p.l,.int p.r,.int p.k]
noncomputable def eN(ps:List Pc):D:=.lst (ps.map ee)
noncomputable def dJ:Option Int->D
 | none=>.non
 | some i=>.int i
theorem QI(n:Nat)(p:Pc):eI (n+1) (ee p):=by
 intro d hd;simp only[aj,aS,or_false] at hd;rcases hd with rfl | rfl | rfl | rfl
 .rw[yB];trivial
 all_goals (rw[Ey];trivial)
theorem QH(n:Nat)(ps:List Pc):eI (n+2) (eN ps):=JR ee ps λp _=>QI n p
noncomputable def Bh(p q:Pc):Option Int:=
 if (if q.l>p.l then q.l else p.l)>(if q.r<p.r then q.r else p.r) then none else some (if q.l>p.l then q.l else p.l)
noncomputable def cu(ps:List Pc)(q:Nat):Pc:=ps[q]?.getD ⟨none,0,0,1⟩
noncomputable def gK(tr:List Int)(q:Nat):Int:=tr[q]?.getD 0
theorem nH{ps:List Pc}{q:Nat}(h:q<ps.length):cu ps q=ps[q]:=by unfold cu;rw[ag h];rfl
theorem wU{tr:List Int}{q:Nat}(h:q<tr.length):gK tr q=tr[q]:=by unfold gK;rw[ag h];rfl
theorem Eu:∀a b:List Int,HT.cf a b=false->a≠b->HT.cf b a=true
 | [],[],_,h=>absurd rfl h
 | [],_::_,_,_=>rfl
 | _::_,[],h,_=>by cases h
 | x::xs,y::ys,h,d=>by
  unfold HT.cf at h ⊢;by_cases e:x=y
  .subst e;simp only[br] at h ⊢;show Eu xs ys h λz=>d (by rw[z])
  have c:¬y=x:=λz=>e z.symm
  simp[e] at h;simp[c];ext
theorem LI{b:Type}(f:b->List Int):∀L:List b,kZ (L.map λa=>D.tup ((f a).map D.int))=some (L.map f)
 | []=>rfl
 | a::L=>by
  rw[av,av];unfold kZ;rw[Cz,LI f L]
local macro_rules | `(tactic| walk_at"px")=>`(tactic| (repeat(first | walk_at"b" | simp only[pT,pY,uW,o6,tO,pW,mw,n5,o3,tQ,oV,tP,pU,lO,kK])))
theorem S8{c:Type}{k:jQ}{m:List (Option Nat)}{g:iA}{te:TD}{b:Ev}{Q:R->Prop}(L:List c)(j:c->D)(f:c->List D)(hw:∀l:List D->Prop,l (L.map j)->k b l)(p:L.length<=sizeLine)
  (h:∀x∈L,∀(n:List D->Prop),n (f x)->g (j x) (c9 m b) λo=>te o λr=>match r with | .ow e=>n e | _=>False) (q:Q (.ov (.ll (L.map f)))):yD k m g jk te b Q:=by
 unfold yD;show hw _ ⟨λi acc=>acc=(L.take i).map f,by simp,λi d acc hd ha=>?_,λacc ha=>?_⟩
 .subst ha;rw[ao] at hd;cases a:L[i]? with
  | none=>rw[a] at hd;cases hd
  | some x=>
   rw[a] at hd;cases hd;have s:i<L.length:=(ah.mp a).1;have:=h x (aw a) (λe=>((L.take i).map f).length<sizeLine/\(L.take i).map f++[e]=(L.take (i+1)).map f) ⟨by simp;ext,by rw[aQ,a];simp⟩;show this
 subst ha;simpa using q
noncomputable abbrev Tr:=Nat×Nat×Int
noncomputable def dT(t:Tr):D:=.tup [.int t.1,.int t.2.1,.int t.2.2]
noncomputable def jb(a:List Tr):D:=.lst (a.map dT)
noncomputable def iI(a:List (Nat×Int)):List (Key×D):=a.map λp=>(.inl (p.1:Int),.int p.2)
theorem D9(n:Nat)(t:Tr):eI (n+1) (dT t):=by
 intro d hd;simp only[aj,aS,or_false] at hd;rcases hd with rfl | rfl | rfl<;>(rw[Ey];trivial)
theorem QG(n:Nat)(a:List Tr):eI (n+2) (jb a):=JR dT a λt _=>D9 n t
def Ord(n:Nat)(a:List Tr):Prop:=∃f:Nat->Int,∀t∈a,f t.1<f t.2.1
def kY(n:Nat)(a:List Tr):Prop:=∀t∈a,t.1<n/\t.2.1<n
noncomputable def keys(a:List (Nat×Int)):List Nat:=a.map (·.1)
theorem yF{b:List (Nat×Int)}(nd:(keys b).Nodup){p:Nat×Int}(h:p∈b):look (iI b) (.inl (p.1:Int))=some (.int p.2):=by
 induction b with
 | nil=>cases h
 | cons a r c=>
  unfold keys at nd;rw[av,aH] at nd;unfold iI look;rw[av,ba];rcases aj.mp h with rfl | h
  .simp
  have d:a.1≠p.1:=λz=>nd.1 (by rw[z];show aX h)
  have:¬((Sum.inl (a.1:Int):Key)=Sum.inl (p.1:Int)):=λz=>d (by injection z with z;ext)
  simp only[this,bU];show c nd.2 h
theorem LH(b:List (Nat×Int))(n:Nat):(look (iI b) (.inl (n:Int))).isSome=decide (n∈keys b):=by
 induction b with
 | nil=>rfl
 | cons a r c=>
  unfold iI look keys;rw[av,ba,av];by_cases h:a.1=n
  .subst h;simp
  have:¬((Sum.inl (a.1:Int):Key)=Sum.inl (n:Int)):=λz=>h (by injection z with z;ext)
  simp only[this,bU];rw[show(Option.map (λx=>x.2) (List.find? (λb=>decide (b.1=Sum.inl (n:Int))) (List.map (λp=>((Sum.inl (p.1:Int):Key),D.int p.2)) r))).isSome=(look (iI r) (.inl (n:Int))).isSome from rfl,c];rw[Bool.eq_iff_iff,decide_eq_true_iff,decide_eq_true_iff];simp[keys,Ne.symm h]
theorem JQ{a:List (Nat×Int)}{n:Nat}{l:Int}(h:n∉keys a):pN (iI a) (.inl (n:Int)) (.int l)=iI (a++[(n,l)]):=by
 unfold pN;rw[if_neg]
 .unfold iI;simp
 intro z;rw[List.any_eq_true] at z;obtain⟨x,b,e⟩:=z;unfold iI at b;rw[aB] at b;obtain⟨p,c,rfl⟩:=b;simp only[a9,Sum.inl.injEq] at e;show h (by unfold keys;rw[aB];show⟨p,c,by ext⟩)
theorem w6{n k:Nat}(h:k<n):kP n (k:Int)=some k:=by
 unfold kP;rw[if_pos (by ext),if_pos (by ext)];simp
theorem Ff{b:Type}(n:Nat)(f:Nat->b)(u:Nat)(v:b):((List.range n).map f).set u v=(List.range n).map λx=>if x=u then v else f x:=by
 apply List.ext_getElem?;intro i;rw[bC,ao,ao];by_cases a:i<n
 .rw[List.getElem?_range a];by_cases h:u=i
  .subst h;simp[a]
  rw[if_neg h];simp[Ne.symm h]
 rw[List.getElem?_eq_none (by simpa using a)];simp only[Option.map_none,af,bR];split
 .rename_i h;rw[if_neg (by ext)]
 rfl
theorem K4{a:Type}{n:Nat}(f:Nat->a){u:Nat}(h:u<n):((List.range n).map f)[u]?=some (f u):=by rw[ao,List.getElem?_range h];rfl
theorem yW{a:Type}{n:Nat}(f:Nat->a){u:Nat}(h:u<n):di ((List.range n).map f) (u:Int)=some (f u):=by
 rw[rD,mU (by simpa using h)];simp
structure wC(n:Nat)(ts:List Tr)(kv:List (Nat×Int)):Prop where
 nd:(keys kv).Nodup
 lt:∀p∈kv,p.1<n
 up:∀p∈kv,∀t∈ts,t.2.1=p.1->∃l,(t.1,l)∈kv/\l+1<=p.2
 top:∀p∈kv,(p.2=0/\∀t∈ts,t.2.1≠p.1)\/∃t∈ts,t.2.1=p.1/\(t.1,p.2-1)∈kv
 out:∀q,q<n->q∉keys kv->∃t∈ts,t.2.1=q/\t.1∉keys kv
 mY:kv.Pairwise λa b=>a.2<=b.2
noncomputable def kJ(a:List Tr)(u:Nat):List Nat:=(a.filter λt=>t.1==u).map (·.2.1)
noncomputable def eV(a:List Tr)(b:List Nat)(q:Nat):Nat:=a.countP λt=>t.2.1==q&&!(b.contains t.1)
structure Lp(n:Nat)(ts:List Tr)(kv:List (Nat×Int))(w:Nat->Nat)(dn rest:List Nat):Prop where
 nd:(keys kv).Nodup
 lt:∀p∈kv,p.1<n
 up:∀p∈kv,∀t∈ts,t.2.1=p.1->∃l,(t.1,l)∈kv/\l+1<=p.2
 top:∀p∈kv,(p.2=0/\∀t∈ts,t.2.1≠p.1)\/∃t∈ts,t.2.1=p.1/\(t.1,p.2-1)∈kv
 wz:∀q,q<n->(w q=0↔q∈keys kv)
 wc:∀q,q<n->w q=eV ts dn q+rest.count q
 mY:kv.Pairwise λa b=>a.2<=b.2
theorem Lp.done{n:Nat}{b:List Tr}{a:List (Nat×Int)}{w:Nat->Nat}(h:Lp n b a w (keys a) []):wC n b a:=by
 show⟨h.nd,h.lt,h.up,h.top,λq d hn=>?_,h.mY⟩;have f:w q≠0:=λz=>hn ((h.wz q d).mp z)
 rw[h.wc q d,List.count_nil,Nat.add_zero] at f;have c:0<eV b (keys a) q:=by ext
 unfold eV at c;rw[List.countP_pos_iff] at c;obtain⟨t,ht,e⟩:=c;simp only[bj,beq_iff_eq,Bool.not_eq_true',List.contains_eq_mem,decide_eq_false_iff_not] at e;show⟨t,ht,e.1,e.2⟩
theorem S7(b:List Tr)(a:List Nat)(u q:Nat)(e:u∉a):eV b a q=eV b (a++[u]) q+(kJ b u).count q:=by
 unfold eV kJ;induction b with
 | nil=>rfl
 | cons t b d=>
  rw[List.countP_cons,List.countP_cons,d,List.filter_cons];by_cases c:t.1=u
  .subst c;have:a.contains t.1=false:=by simpa using e
   simp only[this,beq_self_eq_true,br,av,List.count_cons,List.contains_append,List.contains_cons,Bool.true_or,Bool.or_true,bF,Bool.and_false,ar,aU,Bool.not_false,Bool.and_true];ext
  have g:(t.1==u)=false:=by simpa using c
  have f:(a++[u]).contains t.1=a.contains t.1:=by simp[c]
  rw[f];simp only[g,ar,aU];ext
theorem xm{b:Type}[DecidableEq b]{l ws:List b}(nd:l.Nodup)(h:∀w∈l,w∈ws):l.length<=ws.length:=by
 induction l generalizing ws with
 | nil=>simp
 | cons a r c=>
  rw[aH] at nd;have ha:=h a (by simp);have d:=c (ws:=ws.erase a) nd.2 λw hw=>(List.mem_erase_of_ne (λz:w=a=>nd.1 (z▸hw))).mpr (h w (by simp[hw]))
  rw[List.length_erase_of_mem ha] at d;have:=List.length_pos_of_mem ha;simp only[aG];ext
theorem B3{n:Nat}{a:List (Nat×Int)}(nd:(keys a).Nodup)(lt:∀p∈a,p.1<n):a.length<=n:=by
 have:=xm (ws:=List.range n) nd λw hw=>by
  unfold keys at hw;rw[aB] at hw;obtain⟨p,b,rfl⟩:=hw;show aR.mpr (lt p b)
 simpa[keys] using this
theorem Lp.less{n:Nat}{c:List Tr}{a:List (Nat×Int)}{w:Nat->Nat}{e rest:List Nat}{q:Nat}(h:Lp n c a w e (q::rest))(b:q<n):1<=w q/\q∉keys a:=by
 have d:=h.wc q b;rw[List.count_cons_self] at d;show⟨by ext,λz=>?_⟩;have:=(h.wz q b).mpr z;ext
theorem Lp.f6{n:Nat}{b:List Tr}{c:List (Nat×Int)}{w:Nat->Nat}{d rest:List Nat}{q:Nat}(h:Lp n b c w d (q::rest))(f:q<n)(j:w q-1≠0):Lp n b c (λx=>if x=q then w q-1 else w x) d rest:=by
 obtain⟨k,g⟩:=h.less f;show⟨h.nd,h.lt,h.up,h.top,λx a=>?_,λx a=>?_,h.mY⟩
 .split
  .rename_i e;subst e;show⟨λz=>absurd z j,λz=>absurd z g⟩
  show h.wz x a
 have:=h.wc x a;rw[List.count_cons] at this;split
 .rename_i e;subst e;simp at this;ext
 rename_i e;have i:(q==x)=false:=by simpa using Ne.symm e
 simp[i] at this;show this
theorem Lp.step{n:Nat}{i:List Tr}{f:List (Nat×Int)}{w:Nat->Nat}{g rest:List Nat}{q u:Nat}{d:Int}(h:Lp n i f w g (q::rest))(o:q<n)(A:w q-1=0)
  (E:∀x∈g,∃l,(x,l)∈f/\l<=d) (y:(u,d)∈f) (ht:∃t∈i,t.2.1=q/\t.1=u) (D:∀x∈f,x.2<=d+1):Lp n i (f++[(q,d+1)]) (λx=>if x=q then w q-1 else w x) g rest:=by
 obtain⟨F,B⟩:=h.less o;have hw:=h.wc q o;rw[List.count_cons_self] at hw;have r:eV i g q=0:=by ext
 have hk:keys (f++[(q,d+1)])=keys f++[q]:=by unfold keys;simp
 show⟨?_,λp c=>?_,λp c t v e=>?_,λp c=>?_,λx m=>?_,λx m=>?_,?_⟩
 .rw[hk,bH];show⟨h.nd,by simp,λa ha b hb=>?_⟩;simp at hb;subst hb;show λz=>B (z▸ha)
 .rcases aC.mp c with c | c
  .exact h.lt p c
  simp at c;subst c;show o
 .rcases aC.mp c with c | c
  .obtain⟨l,k,s⟩:=h.up p c t v e;show⟨l,aZ _ k,s⟩
  simp at c;subst c;unfold eV at r;rw[List.countP_eq_zero] at r;have:=r t v;simp only[bj,beq_iff_eq,Bool.not_eq_true',List.contains_eq_mem,decide_eq_false_iff_not] at this;have hm:t.1∈g:=Classical.byContradiction λz=>this ⟨e,z⟩
  obtain⟨l,k,s⟩:=E _ hm;show⟨l,aZ _ k,by dsimp only;ext⟩
 .rcases aC.mp c with c | c
  .rcases h.top p c with z | ⟨t,t1,j,t3⟩
   .exact .inl z
   show .inr ⟨t,t1,j,aZ _ t3⟩
  simp at c;subst c;obtain⟨t,t1,j,t3⟩:=ht;show .inr ⟨t,t1,j,aZ _ ?_⟩;rw[t3];dsimp only;rw[show d+1-1=d by ext];show y
 .rw[hk];split
  .rename_i e;subst e;simp[A]
  rename_i e;rw[h.wz x m];simp[e]
 .have:=h.wc x m;rw[List.count_cons] at this;split
  .rename_i e;subst e;simp at this;ext
  rename_i e;have C:(q==x)=false:=by simpa using Ne.symm e
  simp[C] at this;show this
 rw[List.pairwise_append];show⟨h.mY,by simp,λa ha b hb=>?_⟩;simp at hb;subst hb;show D a ha
theorem Lp.next{n:Nat}{a:List Tr}{c:List (Nat×Int)}{w:Nat->Nat}{b:List Nat}{u:Nat}(h:Lp n a c w b [])(e:u∉b):Lp n a c w (b++[u]) (kJ a u):=by
 show⟨h.nd,h.lt,h.up,h.top,h.wz,λx d=>?_,h.mY⟩;rw[h.wc x d,List.count_nil,Nat.add_zero,S7 a b u x e]
end Wc
open PySem L2 PyProof.Rows Wc
local macro_rules | `(tactic| walk_at"px")=>`(tactic| (repeat(first | walk_at"b" | simp only[pT,pY,uW,o6,tO,pW,mw,n5,o3,tQ,oV,tP,pU,lO])))
namespace Wc
open PySem L2 PyProof.Rows
noncomputable def ph(s:Int)(x:Nat):Int:=n4 s (x+600)*128+x
def xw:eJ:=λds Q=>∃(s:Int)(x:Nat),ds=[.int s,.int x]/\x<=1000/\Q (.fz (.int (ph s x)))
def FI:TX:=(gJ (cg gZ (cg (oI je λi j=>.int (i*j)) (e8 2 sG (cm (b8 0) (cm (cg gZ (b8 1) (dC (.int 600))) cC))) (dC (.int 128))) (b8 1)))
theorem V7:jl 2 xw FI ["_law_seed","_law_piece"]:=by
 intro ds f hl h;obtain⟨s,x,rfl,b,q⟩:=h;show FI _ [.fz (.int s),.fz (.int x)];unfold FI;walk_at"px";have e:=Ea s (x+600);have d:=PZ s (x+600);show⟨s,x+600,rfl,by ext,by ext,?_⟩;walk_at"px";show q
theorem D8(a:List Tr)(p q:Nat)(c:Int):a.map dT++[.tup [.int (p:Nat),.int (q:Nat),.int c]]=(a++[(p,q,c)]).map dT:=by rw[aI];rfl
def Up(s:Int)(a:List Tr):Prop:=∀t∈a,ph s t.1<ph s t.2.1
def zi:eJ:=λds Q=>∃(s:Int)(cells:List Int)(n:Nat),ds=[.int s,dI cells,.int n]/\cells.length<=1000/\n<=128/\∀a,kY n a->a.length<=cells.length->Up s a->Q (.ow (a.map dT))
def FX:TX:=(cF (gM 3 (og cC))
 (cF (jM (wQ (cm (b8 1) cC)) (lJ 2 (gy (dM 4) (gy (dM 5) ko))) (cF (fq 6 (e8 2 sG (cm (b8 5) (cm (cg gZ (b8 4) (dC (.int 150))) cC))))
 (cF (fq 7 (cg (oI (λ_ j=>0<j) λi j=>.int (i%j)) (b8 6) (gf rj (cm (dC (.int 1)) (cm (b8 2) cC)))))
 (cF (fq 8 (cg (oI (λ_ j=>0<j) λi j=>.int (i%j)) (cg (oI kq λi j=>.int (i/j)) (b8 6) (dC (.int 128))) (gf rj (cm (dC (.int 1)) (cm (b8 2) cC)))))
 (iw (ye (eR (cg ue (b8 7) (b8 8))) (eR (cg (ji λi j=>.bl (decide (i<j))) (e8 2 xw (cm (b8 0) (cm (b8 7) cC))) (e8 2 xw (cm (b8 0) (cm (b8 8) cC)))))) (n8 3 (pR (cm (b8 7) (cm (b8 8) (cm (cg (oI (λ_ j=>0<j) λi j=>.int (i%j)) (cg (oI kq λi j=>.int (i/j)) (b8 6) (dC (.int 16384))) (dC (.int 41))) cC))))) (iw (eR (cg ue (b8 7) (b8 8))) (n8 3 (pR (cm (b8 8) (cm (b8 7) (cm (cg (oI (λ_ j=>0<j) λi j=>.int (i%j)) (cg (oI kq λi j=>.int (i/j)) (b8 6) (dC (.int 16384))) (dC (.int 41))) cC))))) jf))))))
 (lO 3)))
theorem PM{s:Int}{p q:Nat}(d:p<128)(c:q<128)(e:p≠q):ph s p≠ph s q:=by
 unfold ph;generalize n4 s (p+600)=a;generalize n4 s (q+600)=b;ext
theorem WO:jl 3 zi FX ["_law_seed","_law_cells","_law_many","_law_above","_law_k","_law_cell","_law_one","_law_p","_law_q"]:=by
 intro ds N hl h;obtain⟨s,cells,n,rfl,M,hn,q⟩:=h;show FX _ [.fz (.int s),.fz (dI cells),.fz (.int n),.un,.un,.un,.un,.un,.un];unfold FX dI;have big:=jX;walk_at"px";show⟨bc _,?_⟩;walk_at"go";show Fg cells D.int (λO h=>?_) (λi o=>∃(f:List Tr)(a b c d e:Sl),o=[.fz (.int s),.fz (.lst (cells.map .int)),.fz (.int n),.ow (f.map dT),a,b,c,d,e]/\kY n f/\f.length<=i/\Up s f) ⟨[],_,_,_,_,_,rfl,λt ht=>(by cases ht),au _,λt ht=>(by cases ht)⟩ ?_ ?_
 .walk_at"px";show h
 .rintro i cell o C ⟨f,a,b,c,d,e,rfl,v,len,up⟩;have P:i<cells.length:=(ah.mp C).1;walk_at"px";show⟨cell,(i:Int)+150,rfl,by ext,by ext,?_⟩;have o0:=Ea cell ((i:Int)+150);generalize n4 cell ((i:Int)+150)=one at o0;walk_at"go";have hm:(if (n:Int)>1 then(n:Int) else 1)=max 1 (n:Int):=by split<;>ext
  have z:∀Q:R->Prop,rj [D.int 1,D.int n] Q=Q (.fz (.int (max 1 (n:Int)))):=λQ=>by
   show Q (.fz (.int (if (n:Int)>1 then(n:Int) else 1)))=_;rw[hm]
  simp only[z];have m:0<max 1 (n:Int):=by ext
  show⟨m,?_⟩;obtain⟨p,B⟩:∃p:Nat,one%max 1 (n:Int)=(p:Int):=⟨(one%max 1 (n:Int)).toNat,(Int.toNat_of_nonneg (bx _ (by ext))).symm⟩
  have I:=bu one m;rw[B] at I ⊢;walk_at"go";simp only[z];show⟨m,?_⟩;obtain⟨j,A⟩:∃p:Nat,one/128%max 1 (n:Int)=(p:Int):=⟨(one/128%max 1 (n:Int)).toNat,(Int.toNat_of_nonneg (bx _ (by ext))).symm⟩
  have L:=bu (one/128) m;rw[A] at L ⊢;walk_at"go";have low:∀t:Tr,t.1<n->t.2.1<n->ph s t.1<ph s t.2.1->kY n (f++[t])/\(f++[t]).length<=i+1/\Up s (f++[t]):=λt H F E=>by
   show⟨λx g=>?_,by rw[aL];simp;ext,λx g=>?_⟩
   .rcases aC.mp g with g | g
    .exact v x g
    simp at g;subst g;show⟨H,F⟩
   rcases aC.mp g with g | g
   .exact up x g
   simp at g;subst g;show E
  by_cases w:p=j
  .subst w;simp only[decide_true,bF,ar,aU];show⟨f,_,_,_,_,_,rfl,v,by ext,up⟩
  have K:¬((p:Int)=(j:Int)):=by ext
  have y:p<n:=by ext
  have u:j<n:=by ext
  simp only[K,bU,Bool.not_false,br];show⟨s,p,rfl,by ext,s,j,rfl,by ext,?_⟩;walk_at"px";by_cases r:ph s p<ph s j
  .rw[if_pos r];rw[D8];show⟨by ext,by rw[af];ext,f++[(p,j,one/16384%41)],_,_,_,_,_,rfl,low _ y u r⟩
  rw[if_neg r];have J:ph s j<ph s p:=by
   have:=PM (s:=s) (p:=p) (q:=j) (by ext) (by ext) w;ext
  rw[D8];show⟨by ext,by rw[af];ext,f++[(j,p,one/16384%41)],_,_,_,_,_,rfl,low _ u y J⟩
 rintro o ⟨f,a,b,c,d,e,rfl,v,len,up⟩;walk_at"go";show q f v len up
local macro_rules | `(tactic| walk_at"px")=>`(tactic| (repeat(first | walk_at"b" | simp only[Cy,Cw,wW,yB])))
def zd:eJ:=λds Q=>∃p q:Pc,ds=[ee p,ee q]/\Q (.fz (dJ (Bh p q)))
def FH:TX:=(cF (fq 2 (gf rj (cm (cg de (b8 0) (dC (.int 1))) (cm (cg de (b8 1) (dC (.int 1))) cC))))
 (cF (iw (eR (cg (ji λi j=>.bl (decide (j<i))) (b8 2) (gf wJ (cm (cg de (b8 0) (dC (.int 2))) (cm (cg de (b8 1) (dC (.int 2))) cC))))) (gJ (dC .non)) jf)
 (gJ (b8 2))))
theorem V6:jl 2 zd FH ["one","other","column"]:=by
 intro ds d hl h;obtain⟨p,q,rfl,Q⟩:=h;show FH _ [.fz (ee p),.fz (ee q),.un];unfold FH ee;walk_at"px";show⟨_,rfl,_,rfl,?_⟩;simp only[rj,rq,IV];walk_at"go";show⟨_,rfl,_,rfl,?_⟩;try unfold wJ
 walk_at"px";unfold Bh at Q;generalize (if q.l>p.l then q.l else p.l)=a at Q ⊢;generalize (if q.r<p.r then q.r else p.r)=b at Q ⊢;by_cases h:b<a
 .rw[if_pos h] at Q;rw[if_pos h];show Q
 rw[if_neg h] at Q;rw[if_neg h];walk_at"go";show Q
local macro_rules | `(tactic| walk_at"px")=>`(tactic| (repeat(first | walk_at"b" | simp only[Cy,Cw,wW,yB])))
noncomputable def pX(p q:Pc):Bool:=decide (Bh p q=none)||(decide (p.n≠none)&&decide (p.n=q.n))
def zc:eJ:=λds Q=>∃p q:Pc,ds=[ee p,ee q]/\Q (.fz (.bl (pX p q)))
def FG:TX:=(gJ (Ij (cg (pS false) (e8 2 zd (cm (b8 0) (cm (b8 1) cC))) (dC .non)) (oY (cg (pS true) (cg de (b8 0) (dC (.int 0))) (dC .non)) (cg oEq (cg de (b8 0) (dC (.int 0))) (cg de (b8 1) (dC (.int 0)))))))
theorem V5:jl 2 zc FG ["one","other"]:=by
 intro ds d hl h;obtain⟨p,q,rfl,Q⟩:=h;show FG _ [.fz (ee p),.fz (ee q)];unfold FG;walk_at"px";show⟨p,q,rfl,?_⟩;unfold pX at Q;unfold ee;cases b:Bh p q with
 | none=>
  rw[b] at Q;simp only[dJ,rq];simpa using Q
 | some c=>
  rw[b] at Q;simp only[dJ,rq];show⟨_,rfl,?_⟩;cases hn:p.n with
  | none=>
   rw[hn] at Q;simp only[dO,rq];simpa using Q
  | some x=>
   rw[hn] at Q;simp only[show dO (some x)=D.str x from rfl];walk_at"px";show⟨_,rfl,_,rfl,?_⟩;walk_at"px";simpa using Q
noncomputable def dA{a:Type}(f:a->D)(b:List (Nat×a)):List (Key×D):=b.map λp=>(.inl (p.1:Int),f p.2)
noncomputable def fE{a:Type}(b:List (Nat×a))(n:Nat):Option a:=(b.find? λp=>decide (p.1=n)).map (·.2)
noncomputable def oZ{a:Type}(b:List (Nat×a))(n:Nat)(x:a):List (Nat×a):=
 if (b.any λp=>decide (p.1=n))=true then b.map (λp=>if p.1=n then(p.1,x) else p) else b++[(n,x)]
theorem D7(a b:Nat):((Sum.inl (a:Int):Key)=Sum.inl (b:Int))=(a=b):=by
 apply propext;constructor
 .intro z;injection z with z;ext
 rintro rfl;rfl
theorem vf{c:Type}(f:c->D)(b:List (Nat×c))(n:Nat):look (dA f b) (.inl (n:Int))=(fE b n).map f:=by
 induction b with
 | nil=>rfl
 | cons a r d=>
  unfold dA look fE;rw[av,ba,ba];simp only[D7];by_cases h:a.1=n
  .simp[h]
  simp only[h,bU];show d
theorem BW{b:Type}(f:b->D)(a:List (Nat×b))(n:Nat)(x:b):pN (dA f a) (.inl (n:Int)) (f x)=dA f (oZ a n x):=by
 have e:((dA f a).any λp=>decide (p.1=Sum.inl (n:Int)))=a.any λp=>decide (p.1=n):=by
  unfold dA;rw[List.any_map];congr 1
  funext p
  simp only[Function.comp_apply,D7]
 unfold pN oZ;rw[e];split
 .unfold dA;rw[aF,aF];show List.map_congr_left λp _=>?_
  simp only[Function.comp_apply,D7];split<;>rfl
 unfold dA;simp
theorem yV{c:Type}(b:List (Nat×c))(n:Nat):(fE b n).isSome=true↔n∈b.map (·.1):=by
 induction b with
 | nil=>simp[fE]
 | cons a r d=>
  unfold fE;rw[ba,av,aj];by_cases h:a.1=n
  .simp[h]
  simp only[h,bU];rw[show((List.find? (λp=>decide (p.1=n)) r).map (·.2))=fE r n from rfl,d];simp[Ne.symm h]
theorem tY{b:Type}(a:Nat×b)(r:List (Nat×b))(n:Nat):fE (a::r) n=if a.1=n then some a.2 else fE r n:=by
 unfold fE;rw[ba];by_cases h:a.1=n
 .simp[h]
 simp[h]
theorem S6{e:Type}(c:List (Nat×e))(n m:Nat)(x:e):fE (c.map λp=>if p.1=n then(p.1,x) else p) m=if m=n then(fE c n).map (λ_=>x) else fE c m:=by
 induction c with
 | nil=>simp[fE]
 | cons a r f=>
  rw[av,tY,tY,tY,f];by_cases d:a.1=n
  .rw[if_pos d];by_cases b:m=n
   .subst b;simp[d]
   have:¬a.1=m:=λz=>b (by ext)
   simp[b,this]
  rw[if_neg d];by_cases b:m=n
  .subst b;simp[d]
  simp[b]
theorem S5{d:Type}(b:List (Nat×d))(n m:Nat)(x:d)(hn:fE b n=none):fE (b++[(n,x)]) m=if m=n then some x else fE b m:=by
 induction b with
 | nil=>
  rw[List.nil_append,tY];by_cases h:n=m
  .simp[h]
  simp[h,Ne.symm h]
 | cons a r f=>
  rw[tY] at hn;by_cases c:a.1=n
  .rw[if_pos c] at hn;cases hn
  rw[if_neg c] at hn;rw[List.cons_append,tY,tY,f hn];by_cases e:m=n
  .subst e;simp[c]
  simp[e]
theorem EO{c:Type}(b:List (Nat×c))(n:Nat):(b.any λp=>decide (p.1=n))=(fE b n).isSome:=by
 induction b with
 | nil=>rfl
 | cons a r d=>
  rw[List.any_cons,tY,d];by_cases h:a.1=n<;>simp[h]
theorem EN{b:Type}(a:List (Nat×b))(n m:Nat)(x:b):fE (oZ a n x) m=if m=n then some x else fE a m:=by
 unfold oZ;rw[EO];split
 .rename_i h;rw[S6];split
  .cases e:fE a n with
   | none=>rw[e] at h;cases h
   | some y=>rfl
  rfl
 rename_i h;show S5 a n m x (by cases e:fE a n with | none=>rfl | some y=>rw[e] at h;show absurd rfl h)
theorem K3{a:Type}(b:List (Nat×a))(n:Nat)(x:a):(oZ b n x).length<=b.length+1:=by
 unfold oZ;split<;>simp
theorem Us{c:Type}(f:c->D)(b:List (Nat×c)):xa (dA f b)=some (b.map λp=>(p.1:Int)):=by
 induction b with
 | nil=>rfl
 | cons a r d=>
  show(xa (dA f r)).map ((a.1:Int)::·)=_;rw[d];rfl
noncomputable def fK(ps:List Pc)(q:Nat):List Int:=[(cu ps q).l,(cu ps q).r,(q:Int)]
theorem K2(a b:Int)(xs ys:List Int):HT.cf (a::xs) (b::ys)=if a=b then HT.cf xs ys else decide (b<a):=by
 rfl
theorem RS{a b:List Int}(h:a.Perm b):a.sum=b.sum:=by
 induction h with
 | nil=>rfl
 | cons x _ c=>simp[c]
 | swap x y l=>simp;ext
 | trans _ _ e d=>rw[e,d]
theorem B2(f:Nat->Int):∀(L M:List Nat),L.Nodup->(∀x∈L,x∈M)->(∀x∈M,0<=f x)->(L.map f).sum<=(M.map f).sum
 | [],M,_,_,h=>by
  show 0<=_;induction M with
  | nil=>simp
  | cons a r g=>
   have:=h a (by simp);have:=g (λx c=>by cases c) λx c=>h x (by simp[c])
   simp;ext
 | x::L,M,nd,sub,h=>by
  have p:=List.perm_cons_erase (sub x aT);have e:=RS (p.map f);rw[e];have d:=aH.mp nd;have:=B2 f L (M.erase x) d.2 (λy b=>(List.mem_erase_of_ne (λz:y=x=>d.1 (z▸b))).mpr (sub y (ax _ b))) λy b=>h y (List.mem_of_mem_erase b)
  simp only[av,List.sum_cons];ext
theorem LG(ps:List Pc):((List.range ps.length).map λq=>(cu ps q).k).sum=(ps.map Pc.k).sum:=by
 congr 1
 apply List.ext_getElem
 .simp
 intro i b c;have a:i<ps.length:=by simpa using b
 simp[nH a]
local macro_rules | `(tactic| walk_at"px")=>`(tactic| (repeat(first | walk_at"b" | simp only[pT,pY])))
structure eC(ps:List Pc)(ord:List Nat):Prop where
 pm:ord.Perm (List.range ps.length)
 mY:ord.Pairwise λx y=>HT.cf (fK ps y) (fK ps x)=true
theorem eC.nd{ps:List Pc}{ord:List Nat}(h:eC ps ord):ord.Nodup:=h.pm.nodup_iff.mpr List.nodup_range
theorem eC.mem{ps:List Pc}{ord:List Nat}(h:eC ps ord)(q:Nat):q∈ord↔q<ps.length:=by rw[h.pm.mem_iff,aR]
theorem eC.len{ps:List Pc}{ord:List Nat}(h:eC ps ord):ord.length=ps.length:=by rw[h.pm.length_eq,bR]
noncomputable def dX(l:List Nat):List D:=l.map λ(q:Nat)=>D.int (q:Int)
def xu:eJ:=λds Q=>∃ps:List Pc,ds=[eN ps]/\ps.length<=63/\∀ord,eC ps ord->Q (.ow (dX ord))
def Ft:TX:=(cF (fq 1 (gf Cq (cm (hU (wQ (cm (b8 0) cC)) [none,none] (lJ 2 (gy (dM 0) (gy (dM 1) ko))) jk (pR (cm (cg de (b8 1) (dC (.int 1))) (cm (cg de (b8 1) (dC (.int 2))) (cm (b8 0) cC))))) cC)))
 (gJ (hU (iD (b8 1)) [none,none,none] (lJ 3 (gy (dM 0) (gy (dM 1) (gy (dM 2) ko)))) jk (b8 2))))
theorem VP:jl 1 xu Ft ["pieces","keys"]:=by
 intro ds v hl h;obtain⟨ps,rfl,hn,q⟩:=h;show Ft _ [.fz (eN ps),.un];unfold Ft;have big:=jX;walk_at"px";show lT (List.range ps.length) (λi=>.tup [.int (i:Nat),ee (cu ps i)]) (λi=>.tup ((fK ps i).map D.int)) (λo h=>?_) (by simp;ext) (λx g p k=>?_) ?_
 .unfold eN;walk_at"px";have e:rp (ps.map ee)=(List.range ps.length).map λi=>D.tup [.int (i:Nat),ee (cu ps i)]:=by
   unfold rp;apply List.ext_getElem
   .simp
   intro i d s;have m:i<ps.length:=by simpa using d
   simp[nH m]
  rw[e];show h
 .rw[show ee (cu ps x)=.tup [dO (cu ps x).n,.int (cu ps x).l,.int (cu ps x).r,.int (cu ps x).k] from rfl];walk_at"px";show⟨_,rfl,_,rfl,by ext,?_⟩;show k
 simp only[wX,Cq,LI];show⟨by simp;ext,λt ht=>?_,λu j f=>?_⟩
 .obtain⟨i,_,rfl⟩:=aB.mp ht;simp[fK]
 obtain⟨ord,d,rfl⟩:=Cr j rfl;have nd:ord.Nodup:=d.nodup_iff.mpr List.nodup_range;have inj:∀x y,fK ps x=fK ps y->x=y:=λx y e=>by unfold fK at e;simp at e;ext
 have io:eC ps ord:=by
  show⟨d,?_⟩;rw[bL] at f;show(f.and nd).imp λ{a b} h=>Eu _ _ h.1 λz=>h.2 (inj _ _ z)
 walk_at"go";rw[aF];show lT ord (λq=>.tup ((fK ps q).map D.int)) (λ(q:Nat)=>.int (q:Int)) (λo h=>?_) (by rw[io.len];ext) (λx g p k=>?_) ?_
 .walk_at"px";show h
 .unfold fK;walk_at"px";show k
 show q ord io
noncomputable abbrev Pl:=Nat×Int
noncomputable def eB(pl:List Pl):List Nat:=pl.map (·.1)
noncomputable def pw(ps:List Pc)(us:Nat->List Nat)(pl:List Pl)(t:Int)(q:Nat):Bool:=
 ((us q).all λu=>pl.any λp=>decide (p.1=u)&&decide (p.2+(cu ps u).k<=t))&&((pl.filter λp=>decide (t<p.2+(cu ps p.1).k)).map (·.1)).all λx=>pX (cu ps x) (cu ps q)
noncomputable def gi(ps:List Pc)(us:Nat->List Nat)(t:Int)(pl:List Pl)(q:Nat):List Pl:=if pw ps us pl t q=true then pl++[(q,t)] else pl
noncomputable def rF(ps:List Pc)(us:Nat->List Nat)(pl:List Pl)(e:Int×Nat):List Pl:=if e.2∈eB pl then pl else gi ps us e.1 pl e.2
noncomputable def gI(ord:List Nat)(pl:List Pl):List Nat:=ord.filter λq=>decide (q∉eB pl)
noncomputable def row(ps:List Pc)(us:Nat->List Nat)(ord:List Nat)(t:Int)(pl:List Pl):List Pl:=(gI ord pl).foldl (gi ps us t) pl
noncomputable def gE(ps:List Pc)(us:Nat->List Nat)(ord:List Nat):Nat->List Pl
 | 0=>[]
 | n+1=>row ps us ord (n:Int) (gE ps us ord n)
noncomputable def tF(ord:List Nat):Nat->List (Int×Nat)
 | 0=>[]
 | n+1=>tF ord n++ord.map λq=>((n:Int),q)
section
variable{ps:List Pc}{us:Nat->List Nat}
theorem JP{t:Int}{pl:List Pl}{q x:Nat}(h:x≠q):x∈eB (gi ps us t pl q)↔x∈eB pl:=by
 unfold gi eB;split
 .simp[h]
 rfl
theorem Et{t:Int}(a:List Pl):∀(o:List Nat)(pl:List Pl),o.Nodup->(∀q∈o,q∈eB pl↔q∈eB a)->(o.filter λq=>decide (q∉eB a)).foldl (gi ps us t) pl=(o.map λq=>(t,q)).foldl (rF ps us) pl
 | [],pl,_,_=>rfl
 | q::o,pl,nd,h=>by
  have d:=aH.mp nd;rw[av,bI];by_cases c:q∈eB a
  .rw[List.filter_cons_of_neg (by simp[c])];have e:rF ps us pl (t,q)=pl:=by unfold rF;rw[if_pos ((h q aT).mpr c)]
   rw[e];show Et a o pl d.2 λx b=>h x (ax _ b)
  rw[List.filter_cons_of_pos (by simp[c]),bI];have e:rF ps us pl (t,q)=gi ps us t pl q:=by unfold rF;rw[if_neg (λz=>c ((h q aT).mp z))]
  rw[e];show Et a o _ d.2 λx b=>by
   rw[JP (λz:x=q=>d.1 (z▸b))];show h x (ax _ b)
theorem KZ{ord:List Nat}(nd:ord.Nodup):∀n,gE ps us ord n=(tF ord n).foldl (rF ps us) []
 | 0=>rfl
 | n+1=>by
  show row ps us ord (n:Int) (gE ps us ord n)=_;unfold row gI;rw[Et _ ord _ nd λq _=>Iff.rfl,tF,List.foldl_append,KZ nd n]
noncomputable def at_(ps:List Pc)(us:Nat->List Nat)(E:List (Int×Nat))(j:Nat):List Pl:=(E.take j).foldl (rF ps us) []
theorem QF{E:List (Int×Nat)}{j:Nat}{e:Int×Nat}(h:E[j]?=some e):at_ ps us E (j+1)=rF ps us (at_ ps us E j) e:=by
 unfold at_;rw[aQ,h,Option.toList_some,List.foldl_append];rfl
theorem yk{E:List (Int×Nat)}:∀j,(eB (at_ ps us E j)).Nodup
 | 0=>by simp[at_,eB]
 | j+1=>by
  cases hm:E[j]? with
  | none=>
   have e:at_ ps us E (j+1)=at_ ps us E j:=by unfold at_;rw[aQ,hm];simp
   rw[e];show yk j
  | some e=>
   rw[QF hm];unfold rF;split
   .exact yk j
   rename_i hn;unfold gi;split
   .unfold eB at hn ⊢;rw[aI,bH];show⟨yk j,by simp,λa ha b hb=>by simp at hb;subst hb;show λz=>hn (z▸ha)⟩
   show yk j
theorem NF{pl:List Pl}(nd:(eB pl).Nodup){p q:Pl}(c:p∈pl)(b:q∈pl)(h:p.1=q.1):p=q:=by
 induction pl with
 | nil=>cases c
 | cons a r g=>
  unfold eB at nd;rw[av,aH] at nd;have mp:∀z:Pl,z∈r->z.1∈List.map (λx=>x.1) r:=λz hz=>aX (f:=(·.1)) hz
  rcases aj.mp c with e | c
  .rcases aj.mp b with d | b
   .rw[e,d]
   show absurd (mp q b) (by rw[<-h,e];show nd.1)
  rcases aj.mp b with d | b
  .exact absurd (mp p c) (by rw[h,d];show nd.1)
  show g nd.2 c b
end
theorem BV(f:Nat->Int):∀L:List Nat,L≠[]->∃x∈L,∀y∈L,f x<=f y
 | [],h=>absurd rfl h
 | [a],_=>⟨a,by simp,λy c=>by simp at c;subst c;show Int.le_refl _⟩
 | a::b::r,_=>by
  obtain⟨x,e,d⟩:=BV f (b::r) (by simp);by_cases h:f a<=f x
  .exact⟨a,by simp,λy c=>by
    rcases aj.mp c with rfl | c
    .exact Int.le_refl _
    .exact Int.le_trans h (d y c)⟩
  show⟨x,ax _ e,λy c=>by
   rcases aj.mp c with rfl | c
   .omega
   .exact d y c⟩
noncomputable def wt(ps:List Pc)(pl:List Pl):Int:=(pl.map λp=>(cu ps p.1).k).sum
section
variable{ps:List Pc}{us:Nat->List Nat}{ts:List Tr}{ord:List Nat}
theorem RR{t:Int}{pl:List Pl}{q:Nat}{p:Pl}(h:p∈pl):p∈gi ps us t pl q:=by
 unfold gi;split
 .exact aZ _ h
 show h
theorem yU{t:Int}:∀(o:List Nat)(pl:List Pl)(p:Pl),p∈pl->p∈o.foldl (gi ps us t) pl
 | [],_,_,h=>h
 | q::o,pl,p,h=>yU o _ p (RR h)
theorem Fc{t:Int}:∀(o:List Nat)(pl:List Pl)(p:Pl),p∈o.foldl (gi ps us t) pl->p∈pl\/(p.2=t/\p.1∈o)
 | [],_,_,h=>.inl h
 | q::o,pl,p,h=>by
  rcases Fc o _ p h with h | h
  .unfold gi at h;split at h
   .rcases aC.mp h with h | h
    .exact .inl h
    simp at h;subst h;show .inr ⟨rfl,by simp⟩
   show .inl h
  show .inr ⟨h.1,ax _ h.2⟩
def behind(ps:List Pc)(us:Nat->List Nat)(pl:List Pl)(t:Int)(q:Nat):Prop:=∀u∈us q,∃x,(u,x)∈pl/\x+(cu ps u).k<=t
theorem QE{pl:List Pl}{t:Int}{q:Nat}:pw ps us pl t q=true↔behind ps us pl t q/\∀p∈pl,t<p.2+(cu ps p.1).k->pX (cu ps p.1) (cu ps q)=true:=by
 unfold pw behind;rw[bj,List.all_eq_true,List.all_eq_true];constructor
 .rintro⟨d,c⟩;show⟨λu b=>?_,λp a ht=>c p.1 (aB.mpr ⟨p,aN.mpr ⟨a,by simpa using ht⟩,rfl⟩)⟩;have:=d u b;rw[List.any_eq_true] at this;obtain⟨p,a,e⟩:=this;simp only[bj,a9] at e;obtain⟨j,i⟩:=e;show⟨p.2,by rw[<-j];show a,i⟩
 rintro⟨d,c⟩;show⟨λu b=>?_,λx h=>?_⟩
 .obtain⟨y,g,e⟩:=d u b;rw[List.any_eq_true];show⟨(u,y),g,by simpa using e⟩
 obtain⟨p,a,rfl⟩:=aB.mp h;obtain⟨l,f⟩:=aN.mp a;show c p l (by simpa using f)
theorem KY{t:Int}(hk:∀q,1<=(cu ps q).k):∀(o:List Nat)(pl:List Pl)(q:Nat),q∈o->behind ps us pl t q->∃p∈o.foldl (gi ps us t) pl,t<p.2+(cu ps p.1).k
 | [],_,_,h,_=>by cases h
 | a::o,pl,q,h,hb=>by
  rw[bI];by_cases ha:pw ps us pl t a=true
  .refine⟨(a,t),yU o _ _ ?_,?_⟩
   .unfold gi;rw[if_pos ha];simp
   have:=hk a;show t<t+(cu ps a).k;ext
  have e:gi ps us t pl a=pl:=by unfold gi;rw[if_neg ha]
  rw[e];rcases aj.mp h with rfl | h
  .rw[QE] at ha;have:¬∀p∈pl,t<p.2+(cu ps p.1).k->pX (cu ps p.1) (cu ps q)=true:=λz=>ha ⟨hb,z⟩
   by_cases c:∃p∈pl,t<p.2+(cu ps p.1).k
   .obtain⟨p,b,ht⟩:=c;show⟨p,yU o pl p b,ht⟩
   show absurd (λp b ht=>absurd ⟨p,b,ht⟩ c) this
  show KY hk o pl q h hb
theorem D6{t:Int}(hk:∀q,1<=(cu ps q).k):∀(o:List Nat)(pl:List Pl),(∀p∈pl,p.2+(cu ps p.1).k<=wt ps pl)->t<=wt ps pl->∀p∈o.foldl (gi ps us t) pl,p.2+(cu ps p.1).k<=wt ps (o.foldl (gi ps us t) pl)
 | [],_,h,_=>h
 | a::o,pl,h,ht=>by
  rw[bI];by_cases ha:pw ps us pl t a=true
  .have e:gi ps us t pl a=pl++[(a,t)]:=by unfold gi;rw[if_pos ha]
   rw[e];have c:wt ps (pl++[(a,t)])=wt ps pl+(cu ps a).k:=by unfold wt;simp
   have:=hk a;show D6 hk o _ (λp b=>?_) (by ext);rcases aC.mp b with b | b
   .have:=h p b;ext
   simp at b;subst b;show t+(cu ps a).k<=_;ext
  have e:gi ps us t pl a=pl:=by unfold gi;rw[if_neg ha]
  rw[e];show D6 hk o pl h ht
theorem dQ{pl:List Pl}{q:Nat}:q∈eB pl↔∃x,(q,x)∈pl:=by
 unfold eB;rw[aB];constructor
 .rintro⟨p,b,rfl⟩;show⟨p.2,b⟩
 rintro⟨x,a⟩;show⟨_,a,rfl⟩
theorem JO(hk:∀q,1<=(cu ps q).k)(g:∀q,q∈ord↔q<ps.length){f:Nat->Int}(r:∀q,q<ps.length->∀u∈us q,u<ps.length/\f u<f q):∀m,(∀p∈gE ps us ord m,p.2+(cu ps p.1).k<=wt ps (gE ps us ord m))/\((∃q,q<ps.length/\q∉eB (gE ps us ord m))->(m:Int)<=wt ps (gE ps us ord m))
 | 0=>⟨λp b=>absurd b (by show p∉([]:List Pl);simp),λ_=>by show(0:Int)<=0;ext⟩
 | m+1=>by
  obtain⟨i,t⟩:=JO hk g r m;show(∀p∈row ps us ord m (gE ps us ord m),_<=wt ps (row ps us ord m (gE ps us ord m)))/\((∃q,q<ps.length/\q∉eB (row ps us ord m (gE ps us ord m)))->((m+1:Nat):Int)<=wt ps (row ps us ord m (gE ps us ord m)));generalize gE ps us ord m=pl at i t;by_cases d:∃q,q<ps.length/\q∉eB pl
  .have hm:=t d;have s:∀p∈row ps us ord m pl,p.2+(cu ps p.1).k<=wt ps (row ps us ord m pl):=D6 hk _ pl i hm
   show⟨s,λa=>?_⟩;suffices hh:∃p∈row ps us ord m pl,(m:Int)<p.2+(cu ps p.1).k by
    obtain⟨p,b,ht⟩:=hh;have:=s p b;ext
   by_cases c:∃p∈row ps us ord m pl,(m:Int)<p.2+(cu ps p.1).k
   .exact c
   have same:∀p∈row ps us ord m pl,p∈pl:=λp b=>by
    rcases Fc _ _ p b with h | ⟨h,_⟩
    .exact h
    have:=hk p.1;show absurd ⟨p,b,by ext⟩ c
   have D:∀q,q∈eB (row ps us ord m pl)->q∈eB pl:=λq a=>by
    obtain⟨x,c⟩:=dQ.mp a;show dQ.mpr ⟨x,same _ c⟩
   obtain⟨o,v,B⟩:=a;have ne:gI ord (row ps us ord m pl)≠[]:=λz=>by
    have:o∈gI ord (row ps us ord m pl):=aN.mpr ⟨(g o).mpr v,by simpa using B⟩;rw[z] at this;cases this
   obtain⟨q,a,w⟩:=BV f _ ne;obtain⟨n,l⟩:=aN.mp a;have A:=(g q).mp n;simp only[decide_not,Bool.not_eq_true',decide_eq_false_iff_not] at l;have hb:behind ps us pl m q:=λu d=>by
    obtain⟨un,C⟩:=r q A u d;have up:u∈eB (row ps us ord m pl):=by
     by_cases z:u∈eB (row ps us ord m pl)
     .exact z
     have:=w u (aN.mpr ⟨(g u).mpr un,by simpa using z⟩);ext
    obtain⟨x,j⟩:=dQ.mp up;show⟨x,same _ j,?_⟩;by_cases z:x+(cu ps u).k<=(m:Int)
    .exact z
    show absurd ⟨_,j,by show(m:Int)<x+(cu ps u).k;ext⟩ c
   have hw:q∈gI ord pl:=aN.mpr ⟨n,by
    simp only[decide_not,Bool.not_eq_true',decide_eq_false_iff_not];intro z;obtain⟨x,y⟩:=dQ.mp z;show l (dQ.mpr ⟨x,yU _ _ _ y⟩)⟩
   show KY hk _ pl q hw hb
  have hw:gI ord pl=[]:=by
   unfold gI;rw[List.filter_eq_nil_iff];intro q a;simp only[decide_not,Bool.not_eq_true',Bool.not_eq_false,a9];by_cases z:q∈eB pl
   .exact z
   show absurd ⟨q,(g q).mp a,z⟩ d
  have e:row ps us ord m pl=pl:=by unfold row;rw[hw];rfl
  rw[e];show⟨i,λz=>absurd z d⟩
theorem JN:∀(N:Nat)(x:Nat)(y:Int),(x,y)∈gE ps us ord N->x∈ord
 | 0,x,y,a=>absurd a (by show _∉([]:List Pl);simp)
 | m+1,x,y,a=>by
  rcases Fc _ _ _ a with h | ⟨_,h⟩
  .exact JN m x y h
  show(aN.mp h).1
theorem RQ(hk:∀q,1<=(cu ps q).k)(nd:ord.Nodup)(c:∀q,q∈ord↔q<ps.length){f:Nat->Int}(e:∀q,q<ps.length->∀u∈us q,u<ps.length/\f u<f q){N:Nat}(hN:(N:Int)=(ps.map Pc.k).sum):∀q,q<ps.length->q∈eB (gE ps us ord N):=by
 intro q b;by_cases z:q∈eB (gE ps us ord N)
 .exact z
 have h:=(JO (us:=us) hk c e N).2 ⟨q,b,z⟩;have hn:(q::eB (gE ps us ord N)).Nodup:=by
  rw[aH];show⟨z,?_⟩;rw[KZ nd,show(tF ord N).foldl (rF ps us) []=at_ ps us (tF ord N) (tF ord N).length by unfold at_;rw[bo]];show yk _
 have sub:∀x∈q::eB (gE ps us ord N),x∈List.range ps.length:=λx a=>by
  rcases aj.mp a with rfl | a
  .exact aR.mpr b
  show aR.mpr ((c x).mp ?_);obtain⟨y,d⟩:=dQ.mp a;show JN N x y d
 have le:=B2 (λq=>(cu ps q).k) _ _ hn sub λx _=>by have:=hk x;ext
 rw[LG,<-hN] at le;have g:((q::eB (gE ps us ord N)).map λq=>(cu ps q).k).sum=(cu ps q).k+wt ps (gE ps us ord N):=by
  unfold wt eB;rw[av,List.sum_cons,aF];rfl
 rw[g] at le;have:=hk q;ext
noncomputable def lk(pl:List Pl)(q:Nat):Option Int:=(pl.find? λp=>decide (p.1=q)).map (·.2)
theorem Jg{pl:List Pl}(nd:(eB pl).Nodup){q:Nat}{x:Int}(h:(q,x)∈pl):lk pl q=some x:=by
 unfold lk;cases hf:pl.find? λp=>decide (p.1=q) with
 | none=>
  have:=List.find?_eq_none.mp hf _ h;simp at this
 | some p=>
  have b:=List.mem_of_find?_eq_some hf;have a:=List.find?_some hf;simp only[a9] at a;have:=NF nd b h a;rw[this];rfl
theorem JM{pl:List Pl}{q:Nat}(h:q∉eB pl):lk pl q=none:=by
 unfold lk;rw[Option.map_eq_none_iff,List.find?_eq_none];intro p a z;simp at z;show h (dQ.mpr ⟨p.2,by rw[<-z];show a⟩)
end
local macro_rules | `(tactic| walk_at"px")=>`(tactic| (repeat(first | walk_at"b" | simp only[pT,pY,uW,o6,tO,pW,mw,n5,o3,tQ,oV,tP,pU,lO,yh])))
theorem S4{c:Type}{k:jQ}{m:List (Option Nat)}{g:iA}{te:TD}{b:Ev}{Q:R->Prop}(L:List c)(j:c->D)(f:c->List (Key×D))(hw:∀l:List D->Prop,l (L.map j)->k b l)(p:L.length<=sizeLine)
  (h:∀x∈L,∀(n:List (Key×D)->Prop),n (f x)->g (j x) (c9 m b) λo=>te o λr=>match r with | .ov (.dc e)=>n e | _=>False) (q:Q (.ov (.ld (L.map f)))):yC k m g jk te b Q:=by
 unfold yC;show hw _ ⟨λi acc=>acc=(L.take i).map f,by simp,λi d acc hd ha=>?_,λacc ha=>?_⟩
 .subst ha;rw[ao] at hd;cases a:L[i]? with
  | none=>rw[a] at hd;cases hd
  | some x=>
   rw[a] at hd;cases hd;have s:i<L.length:=(ah.mp a).1;have:=h x (aw a) (λe=>((L.take i).map f).length<sizeLine/\(L.take i).map f++[e]=(L.take (i+1)).map f) ⟨by simp;ext,by rw[aQ,a];simp⟩;show this
 subst ha;simpa using q
noncomputable def dU(a:List (Nat×Unit)):List (Key×D):=dA (λ_=>D.bl true) a
noncomputable def ix(us:List (List (Nat×Unit)))(q:Nat):List Nat:=(us[q]?.getD []).map (·.1)
structure Im(ps:List Pc)(ts:List Tr)(us:List (List (Nat×Unit))):Prop where
 len:us.length=ps.length
 mem:∀q,q<ps.length->∀u,u∈ix us q↔∃c,((u,q,c):Tr)∈ts
def zb:eJ:=λds Q=>∃(ps:List Pc)(a:List Tr),ds=[eN ps,jb a]/\ps.length<=1000/\a.length<=100000/\kY ps.length a/\∀us,Im ps a us->Q (.ov (.ld (us.map dU)))
def FF:TX:=(cF (gM 2 (yC (iD (b8 0)) [none] (dM 0) jk pW))
 (cF (jM (iD (b8 1)) (lJ 3 (gy (dM 3) (gy (dM 4) (gy (dM 5) ko)))) (yt 2 (b8 4) (b8 3) (dC (.bl true))))
 (pU 2)))
theorem RP{a:List (Nat×Unit)}{n u:Nat}:u∈(oZ a n ()).map (·.1)↔u=n\/u∈a.map (·.1):=by
 rw[<-yV,EN,<-yV];by_cases h:u=n
 .simp[h]
 simp[h]
theorem V4:jl 2 zb FF ["pieces","above","uppers","upper","lower","column"]:=by
 intro ds y hl h;obtain⟨ps,f,rfl,hn,v,val,q⟩:=h;show FF _ [.fz (eN ps),.fz (jb f),.un,.un,.un,.un];unfold FF;have big:=jX;walk_at"px";show S4 ps ee (λ_=>[]) (λr h=>?_) (by ext) (λx w z k=>?_) ?_
 .unfold eN;walk_at"px";show h
 .walk_at"px";show k
 walk_at"go";show rC f dT (λr h=>?_) (λi j=>∃(us:List (List (Nat×Unit)))(a b c:Sl),j=[.fz (eN ps),.fz (jb f),.ov (.ld (us.map dU)),a,b,c]/\us.length=ps.length/\(∀q:Nat,((us[q]?.getD []).length<=i))/\∀q,q<ps.length->∀u,u∈ix us q↔∃c,((u,q,c):Tr)∈f.take i) ?_ ?_ ?_
 .unfold jb;walk_at"px";show h
 .refine⟨ps.map λ_=>[],_,_,_,by rw[aF];rfl,by simp,λq=>?_,λq g u=>?_⟩
  .rw[ao];cases ps[q]?<;>simp
  unfold ix;rw[ao];cases ps[q]?<;>simp
 .rintro i t j m ⟨us,a,b,c,rfl,hlen,hsz,hm⟩;have s:=val t (aw m);have A:i<f.length:=(ah.mp m).1;rw[show dT t=.tup [.int t.1,.int t.2.1,.int t.2.2] from rfl];walk_at"px";show yt 2 _ _ _ _ _;unfold yt;simp only[gt];walk_at"px";have g:us[t.2.1]?=some (us[t.2.1]'(by ext)):=ag (by ext);have o:=hsz t.2.1;rw[g,Option.getD_some] at o;show⟨t.2.1,dU (us[t.2.1]'(by ext)),by rw[af];show w6 (by ext),by rw[ao,g];rfl,.inl (t.1:Int),rfl,by unfold dU dA;rw[af];ext,?_⟩;have ep:pN (dU (us[t.2.1]'(by ext))) (.inl (t.1:Int)) (.bl true)=dU (oZ (us[t.2.1]'(by ext)) t.1 ()):=BW (λ_=>D.bl true) _ t.1 ();rw[ep,<-List.map_set];show⟨us.set t.2.1 (oZ (us[t.2.1]'(by ext)) t.1 ()),_,_,_,rfl,by rw[List.length_set];show hlen,λq=>?_,λq p u=>?_⟩
  .rw[bC];split
   .split
    .rename_i e _;have:=K3 (us[t.2.1]'(by ext)) t.1 ();rw[Option.getD_some];ext
    simp
   have:=hsz q;ext
  have n:f.take (i+1)=f.take i++[t]:=by rw[aQ,m];rfl
  have old:=hm q p u;unfold ix at old ⊢;rw[bC];by_cases e:t.2.1=q
  .rw[if_pos e,if_pos (by ext),Option.getD_some,RP];subst e;rw[g,Option.getD_some] at old;rw[old,n];constructor
   .rintro(h | ⟨c,d⟩)
    .exact⟨t.2.2,by rw[h];simp⟩
    show⟨c,aZ _ d⟩
   rintro⟨c,d⟩;rcases aC.mp d with d | d
   .exact .inr ⟨c,d⟩
   simp at d;left
   rw[<-d]
  rw[if_neg e,old,n];constructor
  .rintro⟨c,d⟩;show⟨c,aZ _ d⟩
  rintro⟨c,d⟩;rcases aC.mp d with d | d
  .exact⟨c,d⟩
  simp at d;show absurd (by rw[<-d]) e
 rintro j ⟨us,a,b,c,rfl,hlen,hsz,hm⟩;walk_at"go";rw[bo] at hm;show q us ⟨hlen,hm⟩
noncomputable def rV(a:List (Nat×Unit))(b:List (Nat×Int))(t:Int):Bool:=a.all λu=>match fE b u.1 with
 | some e=>decide (e<=t)
 | none=>false
noncomputable def dE(a:List (Nat×Int)):List (Key×D):=dA D.int a
def y0:eJ:=λds Q=>∃(a:List (Nat×Unit))(b:List (Nat×Int))(t:Int),ds=[.dic (dU a),.dic (dE b),.int t]/\Q (.fz (.bl (rV a b t)))
def FZ:TX:=(cF (jM (yh (b8 0)) (dM 3) (iw (tH (eR (cg (n5 true) (b8 3) (b8 1))) (eR (cg (ji λi j=>.bl (decide (j<i))) (o3 (b8 1) (b8 3)) (b8 2)))) (gJ (dC (.bl false))) jf))
 (gJ (dC (.bl true))))
theorem VZ:jl 3 y0 FZ ["uppers","ends","track","upper"]:=by
 intro ds n hl h;obtain⟨b,d,t,rfl,q⟩:=h;show FZ _ [.fz (.dic (dU b)),.fz (.dic (dE d)),.fz (.int t),.un];unfold FZ;walk_at"px";show rC b (λp=>.int (p.1:Nat)) (λo h=>?_) (λi f=>∃a:Sl,f=[.fz (.dic (dU b)),.fz (.dic (dE d)),.fz (.int t),a]/\rV (b.take i) d t=true) ⟨_,rfl,rfl⟩ ?_ ?_
 .walk_at"px";rw[show((dU b).map λp=>uX p.1)=b.map λp=>D.int (p.1:Nat) by unfold dU dA;rw[aF];rfl];show h
 .rintro i u f g ⟨a,rfl,hb⟩;have m:b.take (i+1)=b.take i++[u]:=by rw[aQ,g];rfl
  have j:u∈b:=aw g;have more:(match fE d u.1 with | some e=>decide (e<=t) | none=>false)=true->rV (b.take (i+1)) d t=true:=λh=>by
   unfold rV at hb ⊢;rw[m,List.all_append,hb,List.all_cons,List.all_nil,h];rfl
  have less:(match fE d u.1 with | some e=>decide (e<=t) | none=>false)=false->rV b d t=false:=λh=>by
   unfold rV;rw[Bool.eq_false_iff];intro z;rw[List.all_eq_true] at z;have:=z u j;rw[h] at this;cases this
  walk_at"px";unfold dE;show⟨_,rfl,?_⟩;rw[vf];cases hg:fE d u.1 with
  | none=>
   rw[hg] at less;rw[less rfl] at q;simp only[Option.map_none,Option.isSome_none,Bool.not_false,br];show q
  | some e=>
   rw[hg] at less more;simp only[aJ,Option.isSome_some,bF,ar,aU];show⟨_,_,rfl,by rw[vf,hg];rfl,?_⟩;simp only[a9];by_cases he:t<e
   .rw[if_pos he];rw[less (bp (by ext))] at q;show q
   rw[if_neg he];show⟨_,rfl,more (decide_eq_true (by ext))⟩
 rintro f ⟨a,rfl,hb⟩;rw[bo] at hb;walk_at"go";rw[hb] at q;show q
def y7:eJ:=λds Q=>∃(ps:List Pc)(a:List Nat)(n:Nat),ds=[eN ps,.lst (dX a),.int n]/\a.length<=100000/\n<ps.length/\(∀x∈a,x<ps.length)/\Q (.fz (.bl (a.all λx=>pX (cu ps x) (cu ps n))))
def Fs:TX:=(gJ (gf rl (cm (hU (iD (b8 1)) [none,some 0,some 2] (dM 0) jk (e8 2 zc (cm (cg de (b8 1) (b8 0)) (cm (cg de (b8 1) (b8 2)) cC)))) cC)))
theorem RO{ps:List Pc}{p:Nat}(a:p<ps.length):di (ps.map ee) (p:Int)=some (ee (cu ps p)):=by rw[rD,show di ps (p:Int)=some (cu ps p) by rw[nH a];show mU a];rfl
theorem VW:jl 3 y7 Fs ["pieces","taking","number"]:=by
 intro ds g hl h;obtain⟨ps,b,n,rfl,f,hn,d,q⟩:=h;show Fs _ [.fz (eN ps),.fz (.lst (dX b)),.fz (.int n)];unfold Fs;have big:=jX;walk_at"px";show lT b (λ(x:Nat)=>.int (x:Int)) (λx=>.bl (pX (cu ps x) (cu ps n))) (λi h=>?_) (by ext) (λx e j k=>?_) ?_
 .unfold dX;walk_at"px";show h
 .walk_at"px";unfold eN;walk_at"px";have g1:di ps (x:Int)=some (cu ps x):=by rw[nH (d x e)];show mU (d x e)
  have g2:di ps (n:Int)=some (cu ps n):=by rw[nH hn];show mU hn
  show⟨_,g1,_,g2,cu ps x,cu ps n,rfl,k⟩
 rw[show(b.map λx=>D.bl (pX (cu ps x) (cu ps n)))=(b.map λx=>pX (cu ps x) (cu ps n)).map D.bl by rw[aF];rfl];simp only[wX,rl,Lx];rw[List.all_map];show q
local macro_rules | `(tactic| walk_at"px")=>`(tactic| (repeat(first | walk_at"b" | simp only[pT,pY,uW,o6,tO,pW,mw,n5,o3,tQ,oV,tP,pU,lO,yh,gt])))
noncomputable def lM(ps:List Pc)(pl:List Pl):List (Nat×Int):=pl.map λp=>(p.1,p.2+(cu ps p.1).k)
noncomputable def nq(n:Nat)(pl:List Pl):List D:=(List.range n).map λq=>dJ (lk pl q)
theorem JL{ps:List Pc}{pl:List Pl}(u:Nat):fE (lM ps pl) u=(pl.find? λp=>decide (p.1=u)).map λp=>p.2+(cu ps p.1).k:=by
 unfold fE lM;induction pl with
 | nil=>rfl
 | cons a r b=>
  rw[av,ba,ba];by_cases h:a.1=u
  .simp[h]
  simp only[h,bU];show b
theorem KW{ps:List Pc}{pl:List Pl}(nd:(eB pl).Nodup){u:Nat}{x:Int}(h:(u,x)∈pl):fE (lM ps pl) u=some (x+(cu ps u).k):=by
 have:=Jg nd h;unfold lk at this;rw[JL];cases hf:pl.find? λp=>decide (p.1=u) with
 | none=>rw[hf] at this;cases this
 | some p=>
  rw[hf] at this;simp only[aJ,aA] at this ⊢;have:=List.find?_some hf;simp only[a9] at this;rw[this];ext
theorem QD{ps:List Pc}{us:List (List (Nat×Unit))}{pl:List Pl}{t:Int}{q:Nat}(nd:(eB pl).Nodup):(rV (us[q]?.getD []) (lM ps pl) t&&((pl.filter λp=>decide (t<p.2+(cu ps p.1).k)).map (·.1)).all λx=>pX (cu ps x) (cu ps q))=pw ps (ix us) pl t q:=by
 unfold pw;congr 1
 unfold rV ix;rw[List.all_map];congr 1
 funext u
 simp only[Function.comp_apply];rw[Bool.eq_iff_iff,List.any_eq_true];constructor
 .intro h;rw[JL] at h;cases hf:pl.find? λp=>decide (p.1=u.1) with
  | none=>rw[hf] at h;cases h
  | some p=>
   rw[hf] at h;have c:=List.mem_of_find?_eq_some hf;have a:=List.find?_some hf;simp only[a9] at a;simp only[aJ,a9] at h;rw[a] at h;show⟨p,c,by simp[a,h]⟩
 rintro⟨p,b,e⟩;simp only[bj,a9] at e;obtain⟨f,d⟩:=e;have:(u.1,p.2)∈pl:=by rw[<-f];show b
 rw[KW nd this];simpa using d
theorem Oq{n:Nat}{pl:List Pl}{q:Nat}{t:Int}(b:q<n)(hn:q∉eB pl):(nq n pl).set q (.int t)=nq n (pl++[(q,t)]):=by
 unfold nq;apply List.ext_getElem
 .simp
 intro i d a;have c:i<n:=by simpa using a
 rw[List.getElem_set];simp only[List.getElem_map,List.getElem_range];by_cases e:q=i
 .subst e;rw[if_pos rfl];have:lk (pl++[(q,t)]) q=some t:=by
   unfold lk;rw[List.find?_append];have:=JM hn;unfold lk at this;rw[Option.map_eq_none_iff] at this;rw[this];simp
  rw[this];rfl
 rw[if_neg e];congr 1
 unfold lk;rw[List.find?_append];cases List.find? (λp=>decide (p.1=i)) pl with
 | some p=>rfl
 | none=>simp[e]
theorem Oo{ps:List Pc}{pl:List Pl}{q:Nat}{t:Int}(hn:q∉eB pl):pN (dE (lM ps pl)) (.inl (q:Int)) (.int (t+(cu ps q).k))=dE (lM ps (pl++[(q,t)])):=by
 unfold dE;rw[BW];unfold oZ;rw[if_neg]
 .unfold lM;simp
 rw[EO,yV];intro z;apply hn;unfold lM at z;rw[aF] at z;show z
theorem D5{n:Nat}{pl:List Pl}(nd:(eB pl).Nodup)(h:∀q∈eB pl,q<n):pl.length<=n:=by
 have:=B2 (λ_=>1) (eB pl) (List.range n) nd (λx c=>aR.mpr (h x c)) (λ_ _=>by decide);have e:∀l:List Nat,(l.map λ_=>(1:Int)).sum=l.length:=λl=>by
  induction l with
  | nil=>rfl
  | cons a r b=>simp[b];ext
 rw[e,e] at this;simp[eB] at this;ext
structure nr(n:Nat)(pl:List Pl):Prop where
 nd:(eB pl).Nodup
 lt:∀q∈eB pl,q<n
theorem nr.gi{ps:List Pc}{us:Nat->List Nat}{n:Nat}{pl:List Pl}{t:Int}{q:Nat}(h:nr n pl)(d:q<n)(hn:q∉eB pl):nr n (gi ps us t pl q):=by
 unfold Wc.gi;split
 .unfold eB at hn;show⟨?_,λx c=>?_⟩
  .unfold eB;rw[aI,bH];show⟨h.nd,by simp,λa ha b hb=>by simp at hb;subst hb;show λz=>hn (z▸ha)⟩
  unfold eB at c;rw[aI] at c;rcases aC.mp c with c | c
  .exact h.lt x c
  simp at c;subst c;show d
 show h
theorem Es{ps:List Pc}{us:Nat->List Nat}{n:Nat}{t:Int}:∀(a b:List Nat)(pl:List Pl),(a++b).Nodup->(∀q∈a++b,q<n/\q∉eB pl)->nr n pl->nr n (a.foldl (gi ps us t) pl)/\∀q∈b,q∉eB (a.foldl (gi ps us t) pl)
 | [],b,pl,_,h,ok=>⟨ok,λq c=>(h q c).2⟩
 | x::a,b,pl,nd,h,ok=>by
  rw[List.cons_append,aH] at nd;have e:=h x (by simp);show Es a b _ nd.2 (λq c=>?_) (ok.gi e.1 e.2);have d:=h q (by simp at c ⊢;show .inr c);show⟨d.1,?_⟩;rw[JP (λz:q=x=>nd.1 (z▸c))];show d.2
theorem S3{pl:List Pl}{q:Nat}:tL (dJ (lk pl q))=decide (q∉eB pl):=by
 by_cases h:q∈eB pl
 .obtain⟨x,a⟩:=dQ.mp h;have:lk pl q≠none:=λz=>by
   unfold lk at z;rw[Option.map_eq_none_iff,List.find?_eq_none] at z;have:=z _ a;simp at this
  cases b:lk pl q with
  | none=>show absurd b this
  | some y=>simp[dJ,tL,h]
 rw[JM h];simp[dJ,tL,h]
theorem Tt{ps:List Pc}{us:Nat->List Nat}{ord:List Nat}{t:Int}{pl:List Pl}(o:List Nat):(gI ord pl).filter (λq=>decide (q∉eB (o.foldl (gi ps us t) pl)))=gI ord (o.foldl (gi ps us t) pl):=by
 unfold gI;rw[List.filter_filter];show List.filter_congr λq _=>?_
 by_cases h:q∈eB pl
 .obtain⟨x,a⟩:=dQ.mp h;have:=dQ.mpr ⟨x,yU (ps:=ps) (us:=us) (t:=t) o pl _ a⟩;simp[h,this]
 simp[h]
theorem Om{ps:List Pc}(h:∀p∈ps,p.k<=3):(ps.map Pc.k).sum<=3*ps.length:=by
 induction ps with
 | nil=>simp
 | cons a r b=>
  have e:=h a (by simp);have d:=b λp c=>h p (by simp[c])
  simp only[av,List.sum_cons,aG];ext
def iB(ps:List Pc)(a:List Tr)(tr:List Int):Prop:=∃(us:Nat->List Nat)(ord:List Nat),(∀q,q<ps.length->∀u,u∈us q↔∃c,((u,q,c):Tr)∈a)/\eC ps ord/\tr=(List.range ps.length).map λx=>(lk (gE ps us ord (ps.map Pc.k).sum.toNat) x).getD 0
def xx:eJ:=λds Q=>∃(ps:List Pc)(a:List Tr),ds=[eN ps,jb a]/\ps.length<=63/\a.length<=100000/\kY ps.length a/\Ord ps.length a/\(∀p∈ps,1<=p.k/\p.k<=3/\p.l<=p.r)/\∀tr,iB ps a tr->Q (.ow (tr.map .int))
theorem LF(i:Nat)(te:TD)(a:Ev)(Q:R->Prop):sr i te a Q=te (iH i a) λr=>yo r=true/\Q r:=rfl
def Fe:TX:=(cF (fq 2 (e8 2 zb (cm (b8 0) (cm (b8 1) cC))))
 (cF (fq 3 (e8 1 xu (cm (b8 0) cC)))
 (cF (gM 4 (hU (iD (b8 0)) [none] (dM 0) jk (dC .non)))
 (cF (gM 5 pW)
 (cF (jM (sj (cm (gf yi (cm (hU (iD (b8 0)) [none] (dM 0) jk (cg de (b8 0) (dC (.int 3)))) cC)) cC)) (dM 6) (cF (gM 7 (sr 5 (hU (yh (b8 5)) [none,some 6,some 5] (dM 0) (eR (cg (ji λi j=>.bl (decide (j<i))) (o3 (b8 2) (b8 0)) (b8 1))) (b8 0))))
 (cF (jM (iD (b8 3)) (dM 8) (iw (ye (eR (Bt 5 (e8 3 y0 (cm (cg de (b8 2) (b8 8)) (cm (b8 5) (cm (b8 6) cC)))))) (eR (Bt 7 (e8 3 y7 (cm (b8 0) (cm (b8 7) (cm (b8 8) cC))))))) (cF (o6 4 (b8 8) (b8 6))
 (cF (oV 5 (b8 8) (cg gZ (b8 6) (cg de (cg de (b8 0) (b8 8)) (dC (.int 3)))))
 (n8 7 (b8 8)))) jf))
 (cF (gM 3 (sr 4 (hU (iD (b8 3)) [none,some 4] (dM 0) (eR (cg (pS false) (cg de (b8 1) (b8 0)) (dC .non))) (b8 0))))
 (rZ 3 jf)))))
 (lO 4))))))
theorem VM:jl 2 xx Fe ["pieces","above","uppers","waiting","tracks","ends","track","taking","number"]:=by
 intro ds Qr hl h;obtain⟨ps,w,rfl,hn,X,val,od,O,q⟩:=h;show Fe _ [.fz (eN ps),.fz (jb w),.un,.un,.un,.un,.un,.un,.un];unfold Fe;have big:=jX;have Xw:∀x,x<ps.length->1<=(cu ps x).k/\(cu ps x).l<=(cu ps x).r:=λx g=>by rw[nH g];have:=O _ (bJ g);show⟨this.1,this.2.2⟩
 have hk:∀x,1<=(cu ps x).k:=λx=>by
  by_cases g:x<ps.length
  .exact(Xw x g).1
  unfold cu;rw[List.getElem?_eq_none (by ext)];decide
 have s0:0<=(ps.map Pc.k).sum:=by
  rw[<-LG];have:=B2 (λq=>(cu ps q).k) [] (List.range ps.length) List.nodup_nil (λx g=>by cases g) λx _=>by have:=hk x;ext
  simpa using this
 walk_at"px";show⟨ps,w,rfl,by ext,X,val,λus z=>?_⟩;walk_at"go";show⟨ps,rfl,by ext,λord io=>?_⟩;walk_at"go";show lT ps ee (λ_=>.non) (λC h=>?_) (by ext) (λx g M k=>?_) ?_
 .unfold eN;walk_at"px";show h
 .walk_at"px";show k
 walk_at"go";walk_at"go";have s1:=Om (ps:=ps) λp F=>(O p F).2.1
 have hN:(((ps.map Pc.k).sum.toNat:Nat):Int)=(ps.map Pc.k).sum:=Int.toNat_of_nonneg s0;show jM _ _ _ _ [Sl.fz (eN ps),Sl.fz (jb w),Sl.fz (.lst ((us.map dU).map .dic)),Sl.fz (D.lst (dX ord)),
   Sl.ow (List.map (λx=>D.non) ps),Sl.ov (OV.dc []),Sl.un,Sl.un,Sl.un]
 have Z3:∀x,x<ps.length->us[x]?=some (us[x]?.getD []):=λx g=>by rw[ag (by rw[z.len];show g)];rfl
 show rC (List.range (ps.map Pc.k).sum.toNat) (λ(i:Nat)=>.int (0+i)) (λC h=>?_) (λm v=>∃a b c:Sl,v=[Sl.fz (eN ps),Sl.fz (jb w),Sl.fz (.lst ((us.map dU).map .dic)),Sl.fz (D.lst (dX (gI ord (gE ps (ix us) ord m)))),
   Sl.ow (nq ps.length (gE ps (ix us) ord m)),Sl.ov (OV.dc (dE (lM ps (gE ps (ix us) ord m)))),a,b,c]/\nr ps.length (gE ps (ix us) ord m)) ?_ ?_ ?_
 .walk_at"px";show lT ps ee (λp=>.int p.k) (λC h=>?_) (by ext) (λx g M k=>?_) ?_
  .unfold eN;walk_at"px";show h
  .unfold ee;walk_at"px";show⟨_,rfl,k⟩
  rw[show(ps.map λp=>D.int p.k)=(ps.map Pc.k).map D.int by rw[aF];rfl];walk_at"px";show⟨by ext,by ext,h⟩
 .refine⟨.un,.un,.un,?_,⟨List.nodup_nil,λq B=>by cases B⟩⟩;have e1:gI ord (gE ps (ix us) ord 0)=ord:=by
   unfold gI gE;rw[List.filter_eq_self];intro a _;simp[eB]
  have s:nq ps.length (gE ps (ix us) ord 0)=ps.map λ_=>D.non:=by
   unfold nq gE;apply List.ext_getElem
   .simp
   intro i S R;simp[lk,dJ]
  rw[e1,s];rfl
 .rintro m A v hm ⟨a,b,c,rfl,ok⟩;have W:A=m:=by
   obtain⟨hh,e⟩:=ah.mp hm;rw[List.getElem_range] at e;show e.symm
  subst W;have er:gE ps (ix us) ord (A+1)=row ps (ix us) ord (A:Int) (gE ps (ix us) ord A):=rfl;rw[er];generalize gE ps (ix us) ord A=pl at ok;rw[Int.zero_add];generalize (A:Int)=t;have V:(gI ord pl).Nodup:=io.nd.filter _;have H:∀x∈gI ord pl,x<ps.length/\x∉eB pl:=λx g=>by
   obtain⟨S,R⟩:=aN.mp g;show⟨(io.mem x).mp S,by simpa using R⟩
  walk_at"px";rw[LF];show Ct pl (λp=>.int (p.1:Nat)) (λp=>.int (p.1:Nat)) (λp=>decide (t<p.2+(cu ps p.1).k)) (λC h=>?_) (by have:=D5 ok.nd ok.lt;ext) (λp F M K0 k1 k0=>?_) ?_
  .walk_at"px";show C ((dE (lM ps pl)).map λp=>uX p.1);rw[show((dE (lM ps pl)).map λp=>uX p.1)=pl.map λp=>D.int (p.1:Nat) by unfold dE dA lM;rw[aF,aF];rfl];show h
  .have hg:=KW (ps:=ps) ok.nd (u:=p.1) (x:=p.2) F;walk_at"px";show⟨_,_,rfl,by unfold dE;rw[vf,hg];rfl,?_⟩;simp only[a9];by_cases h:t<p.2+(cu ps p.1).k
   .rw[if_pos h];show k1 (decide_eq_true h)
   rw[if_neg h];show k0 (bp h)
  show⟨by simp[yo,kK],?_⟩;walk_at"go";have ZD:=D5 ok.nd ok.lt;have Zz:∀l:List Pl,(l.map λp=>D.int (p.1:Nat))=dX (l.map (·.1)):=λl=>by unfold dX;rw[aF];rfl
  rw[Zz];show rC (gI ord pl) (λ(x:Nat)=>.int (x:Int)) (λC h=>?_) (λi v=>∃(c:Sl)(d:List Pl),d=((gI ord pl).take i).foldl (gi ps (ix us) t) pl/\v=[Sl.fz (eN ps),Sl.fz (jb w),Sl.fz (.lst ((us.map dU).map .dic)),Sl.fz (D.lst (dX (gI ord pl))),
   Sl.ow (nq ps.length d),Sl.ov (OV.dc (dE (lM ps d))),Sl.fz (.int t),.ow (dX ((d.filter λp=>decide (t<p.2+(cu ps p.1).k)).map (·.1))),c]) ⟨_,pl,rfl,rfl⟩ ?_ ?_
  .unfold dX;walk_at"px";show h
  .rintro i x v I ⟨c,d,s,rfl⟩;have AH:i<(gI ord pl).length:=(ah.mp I).1;have et:(gI ord pl).take (i+1)=(gI ord pl).take i++[x]:=by rw[aQ,I];rfl
   have sp:(gI ord pl)=(gI ord pl).take i++(gI ord pl).drop i:=(List.take_append_drop i _).symm;obtain⟨E,fr⟩:=Es (ps:=ps) (us:=ix us) (t:=t) ((gI ord pl).take i) ((gI ord pl).drop i) pl (by rw[<-sp];show V) (λq B=>by rw[<-sp] at B;show H q B) ok;rw[<-s] at E fr;have xd:x∈(gI ord pl).drop i:=by
    rw[List.mem_iff_getElem?];show⟨0,by rw[List.getElem?_drop];show I⟩
   have N:=fr x xd;have o:=(H x (aw I)).1;have l2:=D5 E.nd E.lt;have ob:=QD (ps:=ps) (us:=us) (t:=t) (q:=x) E.nd;have U:gi ps (ix us) t d x=((gI ord pl).take (i+1)).foldl (gi ps (ix us) t) pl:=by rw[et,List.foldl_append,s];rfl
   walk_at"px";have Z:di us (x:Int)=some (us[x]?.getD []):=by
    rw[show us[x]?.getD []=us[x]'(by rw[z.len];show o) by rw[ag (by rw[z.len];show o)];rfl];show mU (by rw[z.len];show o)
   have T:pw ps (ix us) d t x=false->∃(c:Sl)(J:List Pl),J=((gI ord pl).take (i+1)).foldl (gi ps (ix us) t) pl/\([Sl.fz (eN ps),Sl.fz (jb w),Sl.fz (.lst ((us.map dU).map .dic)),Sl.fz (D.lst (dX (gI ord pl))),
     Sl.ow (nq ps.length d),Sl.ov (OV.dc (dE (lM ps d))),Sl.fz (.int t),.ow (dX ((d.filter λp=>decide (t<p.2+(cu ps p.1).k)).map (·.1))),.fz (.int (x:Nat))]:Ev)=[Sl.fz (eN ps),Sl.fz (jb w),Sl.fz (.lst ((us.map dU).map .dic)),Sl.fz (D.lst (dX (gI ord pl))),
     Sl.ow (nq ps.length J),Sl.ov (OV.dc (dE (lM ps J))),Sl.fz (.int t),.ow (dX ((J.filter λp=>decide (t<p.2+(cu ps p.1).k)).map (·.1))),c]:=λh=>by
    show⟨_,d,?_,rfl⟩;rw[<-U];unfold gi;rw[h];rfl
   show⟨_,Z,us[x]?.getD [],lM ps d,t,rfl,rfl,?_⟩;simp only[];cases hb:rV (us[x]?.getD []) (lM ps d) t with
   | false=>
    simp only[ar,aU];show T (by rw[<-ob,hb];rfl)
   | true=>
    simp only[br];show⟨ps,_,x,rfl,?_,o,λy K=>?_,rfl,?_⟩
    .rw[af];have:=bN (λp:Pl=>decide (t<p.2+(cu ps p.1).k)) d;ext
    .obtain⟨p,F,rfl⟩:=aB.mp K;show E.lt _ (dQ.mpr ⟨p.2,(aN.mp F).1⟩)
    simp only[];cases P:((d.filter λp=>decide (t<p.2+(cu ps p.1).k)).map (·.1)).all λy=>pX (cu ps y) (cu ps x) with
    | false=>
     simp only[ar,aU];show T (by rw[<-ob,hb,P];rfl)
    | true=>
     simp only[br];have yes:pw ps (ix us) d t x=true:=by rw[<-ob,hb,P];rfl
     have L:gi ps (ix us) t d x=d++[(x,t)]:=by unfold gi;rw[yes];rfl
     have XJ:(nq ps.length d).length=ps.length:=by unfold nq;simp
     show⟨x,w6 (by rw[XJ];show o),?_⟩;rw[Oq o N];walk_at"go";unfold eN;show⟨_,RO o,?_⟩;rw[show ee (cu ps x)=.tup [dO (cu ps x).n,.int (cu ps x).l,.int (cu ps x).r,.int (cu ps x).k] from rfl];show⟨_,rfl,_,rfl,?_,?_⟩
     .unfold dE dA lM;simp;ext
     rw[Oo N];walk_at"go";show⟨?_,?_⟩
     .unfold dX;rw[af,af];have:=bN (λp:Pl=>decide (t<p.2+(cu ps p.1).k)) d;ext
     have ef:dX ((d.filter λp=>decide (t<p.2+(cu ps p.1).k)).map (·.1))++[D.int (x:Int)]=dX (((d++[(x,t)]).filter λp=>decide (t<p.2+(cu ps p.1).k)).map (·.1)):=by
      rw[List.filter_append,aI];have:[((x,t):Pl)].filter (λp=>decide (t<p.2+(cu ps p.1).k))=[(x,t)]:=by
       have:=hk x;rw[List.filter_cons_of_pos]
       .rfl
       simp;ext
      rw[this];unfold dX;rw[aI];rfl
     rw[ef];show⟨_,d++[(x,t)],by rw[<-U,L],rfl⟩
  rintro v ⟨c,d,s,rfl⟩;rw[bo] at s;have L:d=row ps (ix us) ord t pl:=s;walk_at"go";rw[LF];show Ct (gI ord pl) (λ(x:Nat)=>.int (x:Int)) (λ(x:Nat)=>.int (x:Int)) (λx=>decide (x∉eB d)) (λC h=>?_) ?_ (λx g M K0 k1 k0=>?_) ?_
  .unfold dX;walk_at"px";show h
  .have:=bN (λq=>decide (q∉eB pl)) ord;have:=io.len;unfold gI;ext
  .have o:=(H x g).1;have Zr:di (nq ps.length d) (x:Int)=some (dJ (lk d x)):=by
    unfold nq;rw[rD];have:di (List.range ps.length) (x:Int)=some x:=by
     have:=mU (l:=List.range ps.length) (j:=x) (by simpa using o);rw[this,List.getElem_range]
    rw[this];rfl
   walk_at"px";show⟨_,Zr,?_⟩;have hz:=S3 (pl:=d) (q:=x);unfold tL at hz;rw[hz];by_cases h:x∈eB d
   .rw[if_neg (by simpa using h)];show k0 (by simpa using h)
   rw[if_pos (by simpa using h)];show k1 (by simpa using h)
  show⟨by simp[yo,kK],?_⟩;have ew:(gI ord pl).filter (λq=>decide (q∉eB d))=gI ord d:=by rw[s];show Tt _
  rw[ew];walk_at"go";have XC:nr ps.length (row ps (ix us) ord t pl):=by
   have:=Es (ps:=ps) (us:=ix us) (t:=t) (gI ord pl) [] pl (by simpa using V) (λq B=>H q (by simpa using B)) ok;show this.1
  rw[L];show⟨_,_,_,rfl,XC⟩
 rintro v ⟨a,b,c,rfl,ok⟩;rw[bR] at ok;rw[bR];walk_at"go"
 have all:=RQ (us:=ix us) (ord:=ord) hk io.nd (λx=>io.mem x) (f:=od.choose) (λx g u Y=>by
  obtain⟨c,Q⟩:=(z.mem x g u).mp Y;show⟨(val _ Q).1,od.choose_spec _ Q⟩) hN
 have e:nq ps.length (gE ps (ix us) ord (ps.map Pc.k).sum.toNat)=((List.range ps.length).map λx=>(lk (gE ps (ix us) ord (ps.map Pc.k).sum.toNat) x).getD 0).map D.int:=by
  unfold nq;rw[aF];show List.map_congr_left λx g=>?_
  obtain⟨y,K⟩:=dQ.mp (all x (aR.mp g));rw[Function.comp_apply,Jg ok.nd K];rfl
 rw[e];show q _ ⟨ix us,ord,λx g u=>z.mem x g u,io,rfl⟩
def zh:eJ:=λds Q=>∃(n:Nat)(a:List Tr),ds=[.int n,jb a]/\n<=1000/\a.length<=100000/\kY n a/\∀b,wC n a b->Q (.ov (.dc (iI b)))
def FW:TX:=(cF (gM 2 (yD (sj (cm (b8 0) cC)) [none] (dM 0) jk (og cC)))
 (cF (gM 3 (uW (og (cm (dC (.int 0)) cC)) (b8 0)))
 (cF (jM (iD (b8 1)) (lJ 3 (gy (dM 4) (gy (dM 5) (gy (dM 6) ko)))) (cF (tO 2 (b8 4) (b8 5))
 (o6 3 (b8 5) (cg gZ (uY 3 (b8 5)) (dC (.int 1))))))
 (cF (gM 7 (sr 3 (hU (sj (cm (b8 0) cC)) [none,some 3] (dM 0) (eR (cg oEq (cg de (b8 1) (b8 0)) (dC (.int 0)))) (b8 0))))
 (cF (gM 8 (sr 7 (gf BE (cm (hU (iD (b8 7)) [none] (dM 0) jk (pR (cm (b8 0) (cm (dC (.int 0)) cC)))) cC))))
 (cF (fq 9 (dC (.int 0)))
 (rZ 2 (cF (El (eR (cg (ji λi j=>.bl (decide (i<j))) (b8 9) (tR 7))) (cF (fq 4 (uY 7 (b8 9)))
 (cF (fq 9 (cg gZ (b8 9) (dC (.int 1))))
 (jM (iD (cg de (b8 2) (b8 4))) (dM 5) (cF (o6 3 (b8 5) (cg (ji λi j=>.int (i-j)) (uY 3 (b8 5)) (dC (.int 1))))
 (iw (eR (cg oEq (uY 3 (b8 5)) (dC (.int 0)))) (cF (oV 8 (b8 5) (cg gZ (tQ 8 (b8 4)) (dC (.int 1))))
 (n8 7 (b8 5))) jf))))))
 (pU 8)))))))))
noncomputable def ql(n:Nat)(w:Nat->Nat):List D:=(List.range n).map λq=>.int (w q:Nat)
theorem RN(n:Nat)(d:D):(List.replicate n [d]).flatten=List.replicate n d:=by
 induction n with
 | zero=>rfl
 | succ n a=>rw[bX,bB,a,bX];rfl
theorem Tq{a:Type}(n:Nat)(d:a):List.replicate n d=(List.range n).map λ_=>d:=by
 apply List.ext_getElem
 .simp
 intro i c b;simp
theorem Vo(O:List Nat):pairsOf (O.map λx=>D.tup [D.int (x:Nat),D.int 0])=some (iI (O.map λx=>(x,(0:Int)))):=by
 induction O with
 | nil=>rfl
 | cons a r b=>
  rw[av];show(match mw (D.int (a:Nat)) with | some key=>(pairsOf (r.map λx=>D.tup [D.int (x:Nat),D.int 0])).map ((key,D.int 0)::·) | none=>none)=_;rw[b];rfl
theorem RM(n:Nat)(a:List Tr):Lp n a (((List.range n).filter λx=>decide (eV a [] x=0)).map λx=>(x,(0:Int))) (eV a []) [] []:=by
 have hk:keys (((List.range n).filter λx=>decide (eV a [] x=0)).map λx=>(x,(0:Int)))=(List.range n).filter λx=>decide (eV a [] x=0):=by
  unfold keys;rw[aF];show List.map_id _
 have c:∀p∈(((List.range n).filter λx=>decide (eV a [] x=0)).map λx=>(x,(0:Int))),p.1<n/\p.2=0/\∀t∈a,t.2.1≠p.1:=by
  intro p b;rw[aB] at b;obtain⟨x,d,rfl⟩:=b;rw[aN,aR] at d;show⟨d.1,rfl,λt ht e=>?_⟩;have h0:eV a [] x=0:=by simpa using d.2
  unfold eV at h0;rw[List.countP_eq_zero] at h0;show h0 t ht (by simp[e])
 show⟨by rw[hk];show List.Pairwise.filter _ List.nodup_range,λp b=>(c p b).1,λp b t ht e=>absurd e ((c p b).2.2 t ht),λp b=>.inl (c p b).2,λq f=>?_,λq f=>by simp,?_⟩
 .rw[hk,aN,aR];simp[f]
 rw[bL];show List.Pairwise.imp (λ_=>Int.le_refl _) (List.pairwise_of_forall (R:=λ_ _=>True) λ_ _=>trivial)
theorem WN:jl 2 zh FW ["count","above","lowers","waits","upper","lower","column","order","levels","place"]:=by
 intro ds Qr hl h;obtain⟨n,f,rfl,hn,lq,val,q⟩:=h;show FW _ [.fz (.int n),.fz (jb f),.un,.un,.un,.un,.un,.un,.un,.un];unfold FW jb;have big:=jX;walk_at"px";show S8 (List.range n) (λ(i:Nat)=>.int (0+i)) (λ_=>[]) (λP h=>?_) (by simp;ext) (λx g K1 k=>?_) ?_
 .walk_at"px";show⟨by ext,by ext,by simpa using h⟩
 .walk_at"px";show⟨by ext,k⟩
 walk_at"go";show⟨by ext,by ext,by ext,by simp;ext,?_⟩;rw[Int.toNat_natCast,RN,Tq];walk_at"go";show rC f dT (λP h=>?_) (λi v=>∃a b c:Sl,v=[.fz (.int n),.fz (.lst (f.map dT)),.ov (.ll ((List.range n).map λu=>(kJ (f.take i) u).map dN)),.ow (ql n (eV (f.take i) [])),a,b,c,.un,.un,.un])
  ⟨_,_,_,rfl⟩ ?_ ?_
 .walk_at"px";show h
 .rintro i t v ht ⟨a,b,c,rfl⟩;obtain⟨v1,v2⟩:=val t (aw ht);have GQ:i<f.length:=(ah.mp ht).1;rw[show dT t=.tup [.int t.1,.int t.2.1,.int t.2.2] from rfl];walk_at"px";show⟨t.1,_,by rw[af,bR];show w6 v1,K4 _ v1,?_⟩;have hll:(kJ (f.take i) t.1).length<=i:=by
   unfold kJ;rw[af];show bO (bN _ _) ?_;simp;ext
  show⟨by rw[af];ext,?_⟩;have X:f.take (i+1)=f.take i++[t]:=by rw[aQ,ht];rfl
  have e2:((List.range n).map λu=>(kJ (f.take i) u).map dN).set t.1 ((kJ (f.take i) t.1).map dN++[D.int t.2.1])=(List.range n).map λu=>(kJ (f.take (i+1)) u).map dN:=by
   rw[Ff];show List.map_congr_left λx g=>?_
   rw[X];unfold kJ;rw[List.filter_append,aI,aI,List.filter_cons];by_cases h:x=t.1
   .subst h;simp[dN]
   have:(t.1==x)=false:=by simpa using Ne.symm h
   simp[h,this]
  have S:(ql n (eV (f.take i) [])).set t.2.1 (D.int ((eV (f.take i) [] t.2.1:Nat)+1))=ql n (eV (f.take (i+1)) []):=by
   unfold ql;rw[Ff];show List.map_congr_left λx g=>?_
   rw[X];unfold eV;rw[List.countP_append,List.countP_cons,List.countP_nil];by_cases h:x=t.2.1
   .subst h;simp
   have:(t.2.1==x)=false:=by simpa using Ne.symm h
   simp[h,this]
  rw[e2];walk_at"go";show⟨_,yW _ v2,t.2.1,by unfold ql;rw[af,bR];show w6 v2,?_⟩;rw[S];show⟨_,_,_,rfl⟩
 rintro v ⟨a,b,c,rfl⟩;rw[bo];walk_at"go";unfold sr;walk_at"px";show Ct (List.range n) (λ(i:Nat)=>.int (0+i)) (λ(i:Nat)=>dN i) (λx=>decide (eV f [] x=0)) (λP h=>?_) (by simp;ext) (λx g K1 K0 k1 k0=>?_) ?_
 .walk_at"px";show⟨by ext,by ext,by simpa using h⟩
 .have j1:x<n:=by simpa using g
  rw[Int.zero_add];walk_at"px";show⟨_,yW _ j1,?_⟩;walk_at"px";by_cases h:eV f [] x=0
  .rw[if_pos (by ext)];show k1 (by simpa using h)
  rw[if_neg (by ext)];show k0 (by simpa using h)
 have Ab:∀L:List Nat,yo (.ow (L.map dN))=true:=λL=>by
  show(L.map dN).all kK=true;rw[List.all_map,List.all_eq_true];intro x _;rfl
 show⟨Ab _,?_⟩;walk_at"go";show lT ((List.range n).filter λx=>decide (eV f [] x=0)) dN (λx=>.tup [.int (x:Nat),.int 0]) (λP h=>?_) ?_ (λx g K1 k=>?_) ?_
 .walk_at"px";show h
 .refine bO (bN _ _) ?_;simp;ext
 .unfold dN;walk_at"px";show⟨by ext,k⟩
 have sl:=RM n f;generalize ho:((List.range n).filter λx=>decide (eV f [] x=0))=O at sl;simp only[wX,BE,Vo];have MS:keys (O.map λx=>(x,(0:Int)))=O:=by unfold keys;rw[aF];show List.map_id _
 show⟨?_,?_,?_⟩
 .have:(iI (O.map λx=>(x,(0:Int)))).map (·.1)=O.map λx=>(Sum.inl ((x:Nat):Int):Key):=by unfold iI;simp
  rw[this];have nd:=sl.nd;rw[MS] at nd;unfold List.Nodup at nd ⊢;rw[bL];show nd.imp λh z=>h (by injection z with z;ext)
 .show(iI (O.map λx=>(x,(0:Int)))).all (λp=>kK p.2)=true;rw[List.all_eq_true];intro x g;unfold iI at g;rw[aB] at g;obtain⟨p,_,rfl⟩:=g;rfl
 walk_at"go";have eO:(O.map λi=>dN i)=(keys (O.map λx=>(x,(0:Int)))).map dN:=by rw[MS]
 rw[eO];have T:∀x∈(O.map λx=>(x,(0:Int))),x.2=0:=by
  intro x g;rw[aB] at g;obtain⟨y,_,rfl⟩:=g;rfl
 generalize (O.map λx=>(x,(0:Int)))=XO at sl T;walk_at"go";simp only[OV.val];have ZC:((List.range n).map λu=>(kJ f u).map dN).map D.lst=(List.range n).map λu=>D.lst ((kJ f u).map dN):=by rw[aF];rfl
 rw[ZC];show⟨λm v=>∃(d:List (Nat×Int))(w:Nat->Nat)(pl:Nat)(a b c:Sl),v=[.fz (.int n),.fz (.lst (f.map dT)),.fz (.lst ((List.range n).map λu=>D.lst ((kJ f u).map dN))),.ow (ql n w),a,b,c,.ow ((keys d).map dN),.ov (.dc (iI d)),.fz (.int pl)]/\
  pl<=d.length/\m=n-pl/\Lp n f d w (keys (d.take pl)) []/\∀x∈d,∀y∈d.drop pl,x.2<=y.2+1,⟨n,XO,eV f [],0,_,_,_,rfl,bc _,rfl,sl,λx g y R=>?_⟩,?_⟩
 .rw[T x g,T y (List.mem_of_mem_drop R)];decide
 rintro m v ⟨d,w,pl,a,b,c,rfl,gF,rfl,B,bd⟩;have YC:=B3 B.nd B.lt;have tm:(keys d).length=d.length:=by unfold keys;simp
 walk_at"px";rw[af,tm];by_cases E:pl<d.length
 .rw[if_pos (by ext)];have hu:(keys d)[pl]?=some d[pl].1:=by unfold keys;rw[ao,ag E];rfl
  have Ya:d[pl].1<n:=B.lt _ (bJ E);have kU:di (keys d) (pl:Int)=some d[pl].1:=by
   rw[mU (by ext)];have:=(ah.mp hu).2;rw[this]
  show⟨_,kU,?_⟩;walk_at"go";simp only[mQ];have MF:d.take (pl+1)=d.take pl++[d[pl]]:=by rw[aQ,ag E];rfl
  have Az:keys (d.take (pl+1))=keys (d.take pl)++[d[pl].1]:=by rw[MF];unfold keys;rw[aI];rfl
  have Hi:d[pl].1∉keys (d.take pl):=by
   have nd:=B.nd;rw[<-List.take_append_drop (pl+1) d] at nd;unfold keys at nd;rw[aI,bH] at nd;have Z:=nd.1;rw[show List.map (·.1) (d.take (pl+1))=keys (d.take pl)++[d[pl].1] from Az,bH] at Z;show λz=>Z.2.2 _ z _ (by simp) rfl
  have Y:=B.next Hi;rw[<-Az] at Y;have GW:=B.mY;have Y1:∀x∈keys (d.take (pl+1)),∃l,(x,l)∈d/\l<=d[pl].2:=by
   intro x g;unfold keys at g;rw[aB] at g;obtain⟨p,C,rfl⟩:=g;show⟨p.2,List.mem_of_mem_take C,?_⟩;rw[MF] at C;rcases aC.mp C with C | C
   .obtain⟨j,N,e⟩:=List.getElem_of_mem C;rw[aO] at N;rw[List.getElem_take] at e;have:=bT.mp GW j pl (by ext) E (by ext);rw[e] at this;show this
   simp at C;rw[C];show Int.le_refl _
  have HP:∀x∈d,x.2<=d[pl].2+1:=λx g=>bd x g _ (by rw[List.mem_iff_getElem?];show⟨0,by rw[List.getElem?_drop];simpa using ag E⟩)
  have V:d[pl]∈d:=bJ E;generalize GO:d[pl]=ul at *;obtain⟨u,M⟩:=ul;simp only at *;show rC (kJ f u) dN (λP h=>?_) (λj v=>∃(r:List (Nat×Int))(A:Nat->Nat)(b c:Sl),v=[.fz (.int n),.fz (.lst (f.map dT)),.fz (.lst ((List.range n).map λu=>D.lst ((kJ f u).map dN))),.ow (ql n A),.fz (.int u),b,c,.ow ((keys r).map dN),.ov (.dc (iI r)),.fz (.int (pl+1))]/\
   r.take (pl+1)=d.take (pl+1)/\pl+1<=r.length/\Lp n f r A (keys (d.take (pl+1))) ((kJ f u).drop j)/\(∀x∈d,x∈r)/\∀x∈r,x.2<=M+1) ⟨d,w,_,_,rfl,rfl,E,Y,λ_ h=>h,HP⟩ ?_ ?_
  .walk_at"px";show⟨_,yW _ Ya,?_⟩;show h
  .rintro j o v N ⟨r,A,b,c,rfl,I,K,s,F,J⟩;have Q:o∈kJ f u:=aw N;have MI:∃t∈f,t.2.1=o/\t.1=u:=by
    unfold kJ at Q;rw[aB] at Q;obtain⟨t,ht,e⟩:=Q;rw[aN] at ht;show⟨t,ht.1,e,by simpa using ht.2⟩
   have H:o<n:=by
    obtain⟨t,ht,e,_⟩:=MI;rw[<-e];show(val t ht).2
   have AL:(kJ f u).drop j=o::(kJ f u).drop (j+1):=by
    have U:=(ah.mp N)
    rw[List.drop_eq_getElem_cons U.1,U.2]
   rw[AL] at s;obtain⟨w1,w2⟩:=s.less H;have Hs:=B3 s.nd s.lt;rw[show dN o=.int (o:Nat) from rfl];walk_at"px";show⟨_,yW _ H,o,by unfold ql;rw[af,bR];show w6 H,?_⟩;have S:(ql n A).set o (D.int ((A o:Nat)-1))=ql n (λx=>if x=o then A o-1 else A x):=by
    unfold ql;rw[Ff];show List.map_congr_left λx g=>?_
    dsimp only;by_cases h:x=o
    .rw[if_pos h,if_pos h];congr 1;ext
    rw[if_neg h,if_neg h]
   rw[S];walk_at"go";show⟨_,yW _ H,?_⟩;walk_at"px";by_cases he:A o-1=0
   .rw[if_pos (by ext)];show⟨_,_,rfl,yF s.nd (F _ V),?_⟩;walk_at"px";show⟨_,rfl,by unfold iI;rw[af];ext,?_⟩;rw[JQ w2];walk_at"go";have ek:(keys r).map dN++[D.int (o:Nat)]=(keys (r++[(o,M+1)])).map dN:=by unfold keys;simp[dN]
    rw[ek];show⟨by rw[af];unfold keys;rw[af];ext,r++[(o,M+1)],_,.fz (.int (o:Nat)),c,rfl,?_,by rw[aL];ext,s.step H he (λx g=>?_) (F _ V) MI J,λx g=>aZ _ (F x g),λx g=>?_⟩
    .rw[List.take_append_of_le_length K,I]
    .obtain⟨l,l1,l2⟩:=Y1 x g;show⟨l,F _ l1,l2⟩
    rcases aC.mp g with g | g
    .exact J x g
    simp at g;subst g;show Int.le_refl _
   rw[if_neg (by ext)];show⟨r,_,_,_,rfl,I,K,s.f6 H he,F,J⟩
  rintro v ⟨r,A,b,c,rfl,I,K,s,F,J⟩;rw[List.drop_length,<-I] at s;have Hs:=B3 s.nd s.lt;show⟨n-(pl+1),by ext,r,A,pl+1,_,_,_,rfl,K,rfl,s,λx g y R=>?_⟩;have h1:=J x g;have GN:r[pl]?=some (u,M):=by
   have e:=congrArg (λl=>l[pl]?) I;simp only[List.getElem?_take,Nat.lt_succ_self,br] at e;rw[e,ag E,GO]
  obtain⟨jj,YF,e⟩:=List.getElem_of_mem R;rw[List.length_drop] at YF;rw[List.getElem_drop] at e;have W:=bT.mp s.mY pl (pl+1+jj) (by ext) (by ext) (by ext);rw[e,(ah.mp GN).2] at W;simp only at W;ext
 rw[if_neg (by ext)];have e:d.take pl=d:=bK (by ext);rw[e] at B;walk_at"go";show q d B.done
structure gn(ts rs:List Tr):Prop where
 ne:rs≠[]
 sub:∀t∈rs,t∈ts
 nd:(rs.map (·.1)).Nodup
 Ny:∀i t t',rs[i]?=some t->rs[(i+1)%rs.length]?=some t'->t.2.1=t'.1
structure Way(way:List Tr)(m0 m:Nat):Prop where
 ch:∀i t t',way[i]?=some t->way[i+1]?=some t'->t.1=t'.2.1
 last:∀t,way.getLast?=some t->t.1=m
 nil:way=[]->m=m0
theorem Vn{c n:List Tr}{C m s:Nat}(w:Way c C m)(sub:∀t∈c,t∈n)(nd:(c.map (·.2.1)).Nodup){g:Tr}(u:c[s]?=some g)(E:g.2.1=m):gn n (c.drop s).reverse:=by
 have H:s<c.length:=(ah.mp u).1;have j:0<(c.drop s).length:=by rw[List.length_drop];ext
 generalize l:c.drop s=v at j;have k:∀i,v[i]?=c[s+i]?:=λi=>by rw[<-l,List.getElem?_drop]
 have q:∀i t t',v[i]?=some t->v[i+1]?=some t'->t.1=t'.2.1:=λi t t' f d=>w.ch (s+i) t t' (by rw[<-k];show f) (by rw[<-d,k];rfl)
 have o:v[0]?=some g:=by rw[k];show u
 have p:∀t,v[v.length-1]?=some t->t.1=g.2.1:=λt ht=>by
  rw[E];show w.last t ?_;rw[List.getLast?_eq_getElem?];rw[k] at ht;have:v.length=c.length-s:=by rw[<-l,List.length_drop]
  rw[show c.length-1=s+(v.length-1) by ext];show ht
 have A:∀t∈v,t∈n:=λt ht=>sub t (List.mem_of_mem_drop (by rw[l];show ht))
 have hnd:(v.map (·.2.1)).Nodup:=by
  rw[<-l,List.map_drop];show nd.sublist (List.drop_sublist _ _)
 -- B I are B seconds,turned on by one
 have G:v.map (·.1)=(v.map (·.2.1)).drop 1++[g.2.1]:=by
  apply List.ext_getElem?;intro i;rw[ao];by_cases f:i+1<v.length
  .rw[bS (by simp;ext),List.getElem?_drop,ao,Nat.add_comm 1 i,ag (by omega:i<v.length),ag f];simp only[aJ,aA];show q i _ _ (ag _) (ag _)
  by_cases d:i<v.length
  .have e:i=v.length-1:=by ext
   rw[List.getElem?_append_right (by simp;ext)];have F:i-((v.map (·.2.1)).drop 1).length=0:=by simp;ext
   rw[F,ag d];simp only[aJ,aV,aA];show p _ (by rw[<-e];show ag d)
  rw[List.getElem?_eq_none (by ext),List.getElem?_eq_none (by simp;ext)];rfl
 have y:(v.map (·.1)).Nodup:=by
  rw[G];have e:v.map (·.2.1)=g.2.1::(v.map (·.2.1)).drop 1:=by
   cases v with
   | nil=>simp at j
   | cons a r=>simp at o;subst o;rfl
  rw[e,aH] at hnd;rw[bH];show⟨hnd.2,by simp,λa ha b hb=>?_⟩;simp only[aM] at hb;subst hb;show λz=>hnd.1 (z▸ha)
 show⟨λz=>by rw[List.reverse_eq_nil_iff] at z;rw[z] at j;simp at j,λt ht=>A t (List.mem_reverse.mp ht),?_,λi t t' f d=>?_⟩
 .rw[List.map_reverse];unfold List.Nodup at y ⊢;rw[List.pairwise_reverse];show y.imp λh=>Ne.symm h
 have D:i<v.length:=by simpa using (ah.mp f).1
 rw[List.getElem?_reverse D] at f;rw[List.length_reverse] at d;by_cases x:i+1<v.length
 .rw[Nat.mod_eq_of_lt x,List.getElem?_reverse x] at d;show(q (v.length-1-(i+1)) t' t d (by rw[<-f];congr 1;ext)).symm
 have e:i+1=v.length:=by ext
 rw[e,Nat.mod_self,List.getElem?_reverse j] at d;rw[show v.length-1-i=0 by ext,o] at f;cases f;rw[Nat.sub_zero] at d;show(p t' d).symm
def zg:eJ:=λds Q=>∃(n:Nat)(a:List Tr)(b:List (Nat×Int)),ds=[.dic (iI b),jb a]/\n<=1000/\a.length<=100000/\kY n a/\wC n a b/\b.length<n/\∀rs,gn a rs->Q (.ow (rs.map dT))
def FV:TX:=(cF (gM 2 pW)
 (cF (jM (iD (b8 1)) (dM 3) (iw (eR (cg (n5 true) (cg de (b8 3) (dC (.int 0))) (b8 0))) (oV 2 (cg de (b8 3) (dC (.int 1))) (b8 3)) jf))
 (rZ 2 (cF (fq 4 (gf BF (cm (b8 2) cC)))
 (cF (gM 5 pW)
 (cF (gM 6 (og cC))
 (cF (El (si 5 (eR (cg (n5 true) (b8 4) (b8 5)))) (cF (oV 5 (b8 4) (tR 6))
 (cF (n8 6 (o3 (b8 2) (b8 4)))
 (fq 4 (cg de (o3 (b8 2) (b8 4)) (dC (.int 0)))))))
 (rZ 5 (rZ 6 (cF (gM 7 (oN (b8 6) (mT (o3 (b8 5) (b8 4))) qu))
 (cF (Ce 7)
 (lO 7))))))))))))
noncomputable def rG(a:List Tr):List (Nat×Int):=a.zipIdx.map λp=>(p.1.2.1,(p.2:Int))
theorem EI(a:List Tr):keys (rG a)=a.map (·.2.1):=by
 unfold keys rG;rw[aF];have:((λx:Nat×Int=>x.1)∘λp:Tr×Nat=>(p.1.2.1,(p.2:Int)))=(λt:Tr=>t.2.1)∘Prod.fst:=rfl;rw[this,<-aF,List.zipIdx_map_fst]
theorem QC(a:List Tr)(t:Tr):rG (a++[t])=rG a++[(t.2.1,(a.length:Int))]:=by
 unfold rG;rw[List.zipIdx_append,aI];simp
theorem ND{a:List Tr}{s:Nat}{t:Tr}(h:a[s]?=some t):(t.2.1,(s:Int))∈rG a:=by
 unfold rG;rw[aB];show⟨(t,s),List.mem_zipIdx_iff_getElem?.mpr h,rfl⟩
theorem WM:jl 2 zg FV ["levels","above","triple_over","triple","number","places","way","ring"]:=by
 intro ds Qr hl h;obtain⟨n,g,j,rfl,hn,lq,val,lv,eE,q⟩:=h;show FV _ [.fz (.dic (iI j)),.fz (jb g),.un,.un,.un,.un,.un,.un];unfold FV jb;have big:=jX;walk_at"px";walk_at"go";show rC g dT (λQ' h=>?_) (λi p=>∃(d:List (Nat×Tr))(a:Sl),p=[.fz (.dic (iI j)),.fz (.lst (g.map dT)),.ov (.dc (dA dT d)),a,.un,.un,.un,.un]/\
  d.length<=i/\(∀q t,fE d q=some t->t∈g/\t.2.1=q/\t.1∉keys j)/\∀t∈g.take i,t.1∉keys j->(fE d t.2.1).isSome=true) ⟨[],_,rfl,au _,λq t e=>by simp[fE] at e,λt ht=>by simp at ht⟩ ?_ ?_
 .walk_at"px";show h
 .rintro i t p ht ⟨d,a,rfl,Y,A,u⟩;have GQ:i<g.length:=(ah.mp ht).1;have I:g.take (i+1)=g.take i++[t]:=by rw[aQ,ht];rfl
  rw[show dT t=.tup [.int t.1,.int t.2.1,.int t.2.2] from rfl];walk_at"px";show⟨_,rfl,?_⟩;walk_at"px";show⟨_,rfl,?_⟩;simp only[LH];by_cases hk:t.1∈keys j
  .simp only[hk,decide_true,bF,ar,aU];show⟨d,_,rfl,by ext,A,λt' f v=>?_⟩;rw[I] at f;rcases aC.mp f with f | f
   .exact u t' f v
   simp at f;subst f;show absurd hk v
  simp only[hk,bU,Bool.not_false,br];show⟨_,rfl,?_⟩;walk_at"px";show⟨_,rfl,by unfold dA;rw[af];ext,oZ d t.2.1 t,.fz (dT t),?_,?_,λT t' e=>?_,λt' f v=>?_⟩
  .rw[<-BW];rfl
  .have:=K3 d t.2.1 t;ext
  .rw[EN] at e;split at e
   .rename_i W;cases e;show⟨aw ht,W.symm,hk⟩
   show A T t' e
  rw[EN];split
  .rfl
  rename_i cV;rw[I] at f;rcases aC.mp f with f | f
  .exact u t' f v
  simp at f;subst f;show absurd rfl cV
 rintro p ⟨d,a,rfl,Y,A,u⟩;rw[bo] at u;walk_at"go";have H:∀x,x<n->x∉keys j->∃t,fE d x=some t:=λx b hk=>by
  obtain⟨t,t1,S,t3⟩:=lv.out x b hk;have:=u t t1 t3;rw[S] at this;show Option.isSome_iff_exists.mp this
 have hex:∃x,x<n/\x∉keys j:=Classical.byContradiction λz=>by
  have:∀w∈List.range n,w∈keys j:=λw hw=>Classical.byContradiction λO=>z ⟨w,aR.mp hw,O⟩
  have:=xm List.nodup_range this;rw[bR] at this;unfold keys at this;rw[af] at this;ext
 simp only[OV.val,BF,Us];show⟨?_,λM F _=>?_⟩
 .obtain⟨x,R,Q⟩:=hex;obtain⟨t,ht⟩:=H x R Q;intro z;rw[List.map_eq_nil_iff] at z;rw[z] at ht;simp[fE] at ht
 rw[aB] at F;obtain⟨pm,C5,rfl⟩:=F;have L:∃t,fE d pm.1=some t:=Option.isSome_iff_exists.mp ((yV d pm.1).mpr (aX C5))
 generalize pm.1=m0 at L;walk_at"go";walk_at"go";show⟨bc _,?_⟩;walk_at"go";show⟨λD p=>∃(way:List Tr)(m:Nat)(a:Sl),p=[.fz (.dic (iI j)),.fz (.lst (g.map dT)),.fz (.dic (dA dT d)),a,.fz (.int m),.ov (.dc (iI (rG way))),.ow (way.map dT),.un]/\D=n-way.length/\Way way m0 m/\(way.map λt:Tr=>t.2.1).Nodup/\
  (∀t∈way,t∈g)/\∃t,fE d m=some t,⟨n,[],m0,_,rfl,rfl,⟨λi t t' e=>by simp at e,λt e=>by simp at e,λ_=>rfl⟩,by simp,λt ht=>(by cases ht),L⟩,?_⟩
 rintro D p ⟨way,m,a,rfl,rfl,B,nd,sub,t,ht⟩;obtain⟨C,r,Yf⟩:=A m t ht;have CY:way.length<=n:=by
  have:=xm (ws:=List.range n) nd λw hw=>by
   rw[aB] at hw;obtain⟨t,h,rfl⟩:=hw;show aR.mpr (val t (sub t h)).2
  simpa using this
 walk_at"px";simp only[OV.val];show⟨_,rfl,?_⟩;simp only[LH,EI];by_cases hk:m∈way.map (·.2.1)
 .simp only[hk,decide_true,bF,ar,aU];walk_at"go";simp only[OV.val];rw[aB] at hk;obtain⟨t0,GS,J⟩:=hk;obtain⟨s,V,Z⟩:=List.getElem_of_mem GS;have E:way[s]?=some t0:=by rw[ag V,Z]
  have N:=yF (by rw[EI];show nd) (ND E);rw[J] at N;show⟨_,_,rfl,N,?_⟩;simp only;rw[Fh _ (by ext),Int.toNat_natCast];walk_at"go";simp only[Ce];walk_at"go";rw[<-List.map_reverse];show q _ (Vn B sub nd E J)
 simp only[hk,bU,Bool.not_false,br];show⟨_,rfl,by unfold iI rG;simp;ext,?_⟩;have U:m∉keys (rG way):=by rw[EI];show hk
 rw[af,JQ U];walk_at"go";have K:look (dA dT d) (.inl (m:Int))=some (dT t):=by rw[vf,ht];rfl
 show⟨_,_,rfl,K,by rw[af];ext,?_⟩;walk_at"go";show⟨_,_,rfl,K,?_⟩;simp only[dT];show⟨_,rfl,n-(way++[t]).length,?_,way++[t],t.1,a,?_,rfl,⟨λi x y b o=>?_,λx b=>?_,λz=>by simp at z⟩,?_,λx b=>?_,?_⟩
 .have:way.length<n:=by
   have:=xm (l:=m::way.map (λt:Tr=>t.2.1)) (ws:=List.range n) (aH.mpr ⟨hk,nd⟩) λw hw=>by
    rcases aj.mp hw with rfl | hw
    .rw[<-r];show aR.mpr (val t C).2
    rw[aB] at hw;obtain⟨t,h,rfl⟩:=hw;show aR.mpr (val t (sub t h)).2
   rw[aG,af,bR] at this;ext
  rw[aL];simp;ext
 .rw[QC,r];simp[dT,r]
 .by_cases X:i+1<way.length
  .rw[bS X] at o;rw[bS (by ext)] at b;show B.ch i x y b o
  have P:i+1<(way++[t]).length:=(ah.mp o).1;rw[aL,List.length_singleton] at P;have e:i+1=way.length:=by ext
  rw[e,List.getElem?_append_right (au _),Nat.sub_self] at o;simp at o;subst o;rw[bS (by ext)] at b;rw[r];show B.last x ?_;rw[List.getLast?_eq_getElem?,show way.length-1=i by ext];show b
 .simp at b;subst b;rfl
 .rw[aI,bH];show⟨nd,by simp,λx b y o=>?_⟩;simp at o;subst o;rw[r];show λz=>hk (z▸b)
 .rcases aC.mp b with b | b
  .exact sub x b
  simp at b;subst b;show C
 show H _ (val t C).1 Yf
def eW(n:Nat)(b:List Tr)(a:List Int):Prop:=a.length=n/\∀q,q<n->∀l,a[q]?=some l->(∀t∈b,t.2.1=q->∃c,a[t.1]?=some c/\c+1<=l)/\((l=0/\∀t∈b,t.2.1≠q)\/∃t∈b,t.2.1=q/\a[t.1]?=some (l-1))
def xi:eJ:=λds Q=>∃(n:Nat)(a:List Tr),ds=[.int n,jb a]/\n<=1000/\a.length<=100000/\kY n a/\(∀ls,eW n a ls->Q (.ov (.tl (.str "levels") (ls.map .int))))/\∀rs,gn a rs->Q (.ov (.tl (.str "ring") (rs.map dT)))
def Fb:TX:=(cF (fq 2 (e8 2 zh (cm (b8 0) (cm (b8 1) cC))))
 (cF (iw (eR (cg (ji λi j=>.bl (decide (i<j))) (gf tP (cm (b8 2) cC)) (b8 0))) (gJ (yp (dC (.str "ring")) (e8 2 zg (cm (b8 2) (cm (b8 1) cC))))) jf)
 (gJ (yp (dC (.str "levels")) (hU (sj (cm (b8 0) cC)) [none,some 2] (dM 0) jk (o3 (b8 1) (b8 0)))))))
theorem Vy:jl 2 xi Fb ["count","above","levels"]:=by
 intro ds N hl h;obtain⟨n,g,rfl,hn,v,val,F,E⟩:=h;show Fb _ [.fz (.int n),.fz (jb g),.un];unfold Fb;have big:=jX;walk_at"px";show⟨n,g,rfl,hn,v,val,λb lv=>?_⟩;have M:=B3 lv.nd lv.lt;walk_at"go";simp only[OV.val];rw[show(iI b).length=b.length by unfold iI;simp];by_cases K:b.length<n
 .rw[if_pos (by ext)];simp only[yp];walk_at"px";show⟨n,g,b,rfl,hn,v,val,lv,K,λrs r=>?_⟩;show E rs r
 rw[if_neg (by ext)];have I:∀x,x<n->x∈keys b:=λx f=>Classical.byContradiction λz=>by
  have:=xm (l:=x::keys b) (ws:=List.range n) (aH.mpr ⟨z,lv.nd⟩) λw hw=>by
   rcases aj.mp hw with rfl | hw
   .exact aR.mpr f
   unfold keys at hw;rw[aB] at hw;obtain⟨p,q,rfl⟩:=hw;show aR.mpr (lv.lt p q)
  rw[aG,bR] at this;unfold keys at this;rw[af] at this;ext
 have A:∀x,x<n->∃l,(x,l)∈b:=λx f=>by
  have:=I x f;unfold keys at this;rw[aB] at this;obtain⟨p,q,rfl⟩:=this;show⟨p.2,q⟩
 walk_at"go";unfold yp;walk_at"px";show lT (List.range n) (λ(i:Nat)=>.int (0+i)) (λx=>.int ((fE b x).getD 0)) (λO h=>?_) (by simp;ext) (λx f P k=>?_) ?_
 .walk_at"px";show⟨by ext,by ext,by simpa using h⟩
 .have J:x<n:=by simpa using f
  obtain⟨l,hl⟩:=A x J;rw[Int.zero_add];walk_at"px";show⟨_,_,rfl,yF lv.nd hl,?_⟩;have e:look (dA D.int b) (.inl (x:Int))=(fE b x).map D.int:=vf _ _ _;have d:look (iI b) (.inl (x:Int))=some (.int l):=yF lv.nd hl;rw[show iI b=dA D.int b from rfl,e] at d;cases hg:fE b x with
  | none=>rw[hg] at d;cases d
  | some m=>
   rw[hg] at d k;simp only[aJ,aA,D.int.injEq] at d;subst d;show k
 have L:((List.range n).map λx=>D.int ((fE b x).getD 0))=((List.range n).map λx=>(fE b x).getD 0).map D.int:=by rw[aF];rfl
 rw[L];have B:∀x l,(x,l)∈b->(fE b x).getD 0=l:=λx l hl=>by
  have e:look (dA D.int b) (.inl (x:Int))=(fE b x).map D.int:=vf _ _ _;have d:look (iI b) (.inl (x:Int))=some (.int l):=yF lv.nd hl;rw[show iI b=dA D.int b from rfl,e] at d;cases hg:fE b x with
  | none=>rw[hg] at d;cases d
  | some m=>
   rw[hg] at d;simp only[aJ,aA,D.int.injEq] at d;subst d;rfl
 have o:∀x l,(x,l)∈b->((List.range n).map λx=>(fE b x).getD 0)[x]?=some l:=λx l hl=>by
  rw[K4 _ (lv.lt _ hl),B x l hl]
 show F _ ⟨by simp,λx f l y=>?_⟩;obtain⟨m,j⟩:=A x f;rw[o x m j] at y;cases y;show⟨λt ht e=>?_,?_⟩
 .obtain⟨H,u,s⟩:=lv.up _ j t ht e;show⟨H,o _ _ u,s⟩
 rcases lv.top _ j with⟨u,s⟩ | ⟨t,t1,C,t3⟩
 .exact .inl ⟨u,s⟩
 show .inr ⟨t,t1,C,o _ _ t3⟩
end Wc
open PySem L2 PyProof.Rows Wc
local macro_rules | `(tactic| walk_at"px")=>`(tactic| (repeat(first | walk_at"b" | simp only[Bm])))
namespace Wc
open PySem L2 PyProof.Rows
noncomputable def II(a:Option Int)(p:Pc×Int):Option Int:=match a with
 | none=>some (p.2+p.1.k)
 | some m=>some (if m<p.2+p.1.k then p.2+p.1.k else m)
noncomputable def pM(ps:List Pc)(tr:List Int):Option Int:=(ps.zip tr).foldl II none
def sF:eJ:=λds Q=>∃(ps:List Pc)(tr:List Int),ds=[eN ps,dI tr]/\tr.length=ps.length/\ps.length<=1000/\(∀p∈ps,1<=p.k/\p.k<=3)/\Q (.fz (.int ((pM ps tr).getD 0)))
theorem QB(ps:List Pc)(tr:List Int):n6 (ps.map ee) (tr.map D.int)=(ps.zip tr).map λp=>.tup [ee p.1,.int p.2]:=by unfold n6;rw[List.zipWith_map,List.map_zip_eq_zipWith];rfl
theorem Tp(L:List Int)(d:D)(Q:R->Prop)(g:L=[]->Q (.fz d))(f:∀p∈L,(∀r∈L,r<=p)->Q (.fz (.int p))):BB (.lst (L.map D.int)) d Q:=by
 unfold BB;have e:BC (L.map D.int)=some (true,L.map λn=>[n]):=by unfold BC;rw[Cz]
 simp only[e];show⟨λe=>g (by simpa using e),λt ht a=>?_⟩;obtain⟨p,c,rfl⟩:=aB.mp ht;show f p c λr b=>?_
 have:=a [r] (aX b);simp[HT.cf] at this;ext
theorem LD:∀(L:List (Pc×Int))(m:Int),∃x,L.foldl II (some m)=some x/\m<=x/\(∀p∈L,p.2+p.1.k<=x)/\(x=m\/∃p∈L,x=p.2+p.1.k)
 | [],m=>⟨m,rfl,Int.le_refl _,λp e=>(by cases e),.inl rfl⟩
 | p::L,m=>by
  obtain⟨x,g,d,f,a⟩:=LD L (if m<p.2+p.1.k then p.2+p.1.k else m);show⟨x,g,by split at d<;>ext,λq b=>?_,?_⟩
  .rcases aj.mp b with rfl | b
   .split at d<;>ext
   show f q b
  rcases a with a | ⟨q,b,a⟩
  .by_cases c:m<p.2+p.1.k
   .rw[if_pos c] at a;show .inr ⟨p,aT,a⟩
   rw[if_neg c] at a;show .inl a
  show .inr ⟨q,ax _ b,a⟩
theorem RL{ps:List Pc}{tr:List Int}(h:ps.zip tr=[]):pM ps tr=none:=by unfold pM;rw[h];rfl
theorem KU{ps:List Pc}{tr:List Int}(h:ps.zip tr≠[]):∃x,pM ps tr=some x/\(∀p∈ps.zip tr,p.2+p.1.k<=x)/\∃p∈ps.zip tr,x=p.2+p.1.k:=by
 unfold pM;cases hz:ps.zip tr with
 | nil=>show absurd hz h
 | cons p L=>
  obtain⟨x,e,d,c,b⟩:=LD L (p.2+p.1.k);show⟨x,e,λq a=>?_,?_⟩
  .rcases aj.mp a with rfl | a
   .exact d
   show c q a
  rcases b with b | ⟨q,a,b⟩
  .exact⟨p,aT,b⟩
  show⟨q,ax _ a,b⟩
def Fq:TX:=(gJ (BA (hU (Bm (cm (b8 0) (cm (b8 1) cC))) [none,none] (lJ 2 (gy (dM 0) (gy (dM 1) ko))) jk (cg gZ (b8 1) (cg de (b8 0) (dC (.int 3))))) (dC (.int 0))))
theorem VV:jl 2 sF Fq ["pieces","tracks"]:=by
 intro ds o hl h;obtain⟨ps,tr,rfl,ht,d,hk,q⟩:=h;show Fq _ [.fz (eN ps),.fz (dI tr)];unfold Fq;have big:=jX;show BA _ _ _ _;unfold BA;show lT (ps.zip tr) (λp=>.tup [ee p.1,.int p.2]) (λp=>.int (p.2+p.1.k)) (λs h=>?_) (by rw[List.length_zip];ext) (λp d t k1=>?_) ?_
 .unfold eN dI;walk_at"px";rw[QB];show h
 .rw[show ee p.1=.tup [dO p.1.n,.int p.1.l,.int p.1.r,.int p.1.k] from rfl];walk_at"px";show⟨_,rfl,?_⟩;show k1
 simp only[dC,wX,rq];rw[show(ps.zip tr).map (λp=>D.int (p.2+p.1.k))=((ps.zip tr).map λp=>p.2+p.1.k).map D.int by rw[aF];rfl];show Tp _ _ _ (λe=>?_) λp d g=>?_
 .rw[RL (by simpa using e)] at q;show q
 obtain⟨z,hz,rfl⟩:=aB.mp d;obtain⟨x,j,i,y,f,m⟩:=KU (ps:=ps) (tr:=tr) (λe=>by rw[e] at hz;cases hz);rw[j] at q;have a:=i z hz;have b:=g _ (aX f);have e:z.2+z.1.k=x:=by ext
 rw[<-e] at q;show q
end Wc
open PySem L2 PyProof.Rows Wc
local macro_rules | `(tactic| walk_at"px")=>`(tactic| (repeat(first | walk_at"b" | simp only[pT,pY,D4,D3,gt])))
namespace Wc
open PySem L2 PyProof.Rows
noncomputable def gk(ps:List Pc)(a:List Int)(q:Nat):List Int:=[gK a q,-(cu ps q).k]
noncomputable def gW(ps:List Pc)(a:List Int)(ord:List Nat)(t:List Int):List Nat:=ord.filter λq=>decide (gk ps a q=t)
structure lF(ps:List Pc)(lv:List Int)(ord:List Nat)(ks:List (List Int)):Prop where
 mY:ks.Pairwise λx y=>HT.cf y x=true
 mem:∀t,t∈ks↔∃q∈ord,gk ps lv q=t
noncomputable def Ik(a:List (List Nat)):List D:=a.map λg=>.lst (dX g)
def xC:eJ:=λds Q=>∃(ps:List Pc)(lv:List Int),ds=[eN ps,dI lv]/\lv.length=ps.length/\ps.length<=63/\∀ord ks,eC ps ord->lF ps lv ord ks->Q (.ow (Ik (ks.map (gW ps lv ord))))
def FU:TX:=(cF (gM 2 D4)
 (cF (jM (iD (e8 1 xu (cm (b8 0) cC))) (dM 3) (cF (gM 4 (D3 (cm (cg de (b8 1) (b8 3)) (cm (Bl (cg de (cg de (b8 0) (b8 3)) (dC (.int 3)))) cC))))
 (Bi 2 4 (b8 3))))
 (rZ 2 (gJ (hU (iD (gf EB (cm (b8 2) cC))) [none,some 2] (dM 0) jk (D2 (b8 1) (b8 0)))))))
noncomputable abbrev Tb:=List Int×List Nat
noncomputable def nW(p:Tb):List Key×List D:=(p.1.map Sum.inl,dX p.2)
structure Bb(ps:List Pc)(lv:List Int)(o:List Nat)(tab:List Tb):Prop where
 nd:(tab.map (·.1)).Nodup
 mem:∀t,t∈tab.map (·.1)↔∃q∈o,gk ps lv q=t
 val:∀p∈tab,p.2=gW ps lv o p.1
 len:tab.length<=o.length
theorem Cc{a b:List Int}(h:a.map (λi=>(Sum.inl i:Key))=b.map Sum.inl):a=b:=by
 show(List.map_inj_right λx y z=>?_).mp h;injection z
theorem QA(a:List Tb)(t:List Int):((a.map nW).any λc=>decide (c.1=t.map Sum.inl))=decide (t∈a.map (·.1)):=by
 rw[List.any_map,Bool.eq_iff_iff,List.any_eq_true,a9,aB];constructor
 .rintro⟨p,b,e⟩;simp only[Function.comp_apply,nW] at e;show⟨p,b,Cc (of_decide_eq_true e)⟩
 rintro⟨p,b,rfl⟩;show⟨p,b,by simp[nW]⟩
theorem KS(ps:List Pc)(a:List Int)(o:List Nat)(q:Nat)(t:List Int):gW ps a (o++[q]) t=if gk ps a q=t then gW ps a o t++[q] else gW ps a o t:=by
 unfold gW;rw[List.filter_append];by_cases h:gk ps a q=t
 .simp[h]
 simp[h]
theorem Fp:∀t:List Int,sh (t.map D.int)=some (t.map Sum.inl)
 | []=>rfl
 | a::t=>by
  rw[av];unfold sh;rw[Fp t];rfl
theorem To{te a:TD}{m:List (Option Nat)}{g:iA}{tc:gX}{b:Ev}{Q:R->Prop}(h:te b λr=>wY r.val λds=>hU (λ_ c=>c ds) m g tc a b Q):hU (iD te) m g tc a b Q:=h
theorem Tn(te:TD)(g:iA)(c:TX)(a:DE)(b:Ev):jM (iD te) g c a b=te b λr=>wY r.val λds=>∃Iv:Nat->Ev->Prop,Iv 0 b/\(∀i d ρ',ds[i]?=some d->Iv i ρ'->g d ρ' λe=>c { a with nx:=Iv (i+1),ct:=Iv (i+1),bk:=a.nx } e)/\∀ρ',Iv ds.length ρ'->a.nx ρ':=rfl
theorem WL:jl 2 xC FU ["pieces","levels","groups","number","key"]:=by
 intro ds Qr hl h;obtain⟨ps,lv,rfl,Dc,hn,Q⟩:=h;show FU _ [.fz (eN ps),.fz (dI lv),.un,.un,.un];unfold FU;have big:=jX;have gl:∀q,q<ps.length->di lv (q:Int)=some (gK lv q):=λq s=>by rw[wU (by ext)];show mU (by ext)
 have T:∀q,q<ps.length->di ps (q:Int)=some (cu ps q):=λq s=>by rw[nH s];show mU s
 walk_at"px";walk_at"go";rw[Tn];walk_at"px";show⟨ps,rfl,by ext,λord io=>?_⟩;have vX:ord.length=ps.length:=io.len;show ∃Iv:Nat->Ev->Prop,_
 show⟨λi E=>∃(tab:List Tb)(a b:Sl),E=[.fz (eN ps),.fz (dI lv),.ov (.dt (tab.map nW)),a,b]/\Bb ps lv (ord.take i) tab,⟨[],_,_,rfl,⟨List.nodup_nil,λt=>by simp,λp o=>(by cases o),au _⟩⟩,?_,?_⟩
 .rintro i d E hd ⟨tab,a,b,rfl,ok⟩;unfold dX at hd;rw[ao] at hd;cases s:ord[i]? with
  | none=>rw[s] at hd;cases hd
  | some q=>
   rw[s] at hd;cases hd;have J:q<ps.length:=(io.mem q).mp (aw s);have AH:i<ord.length:=(ah.mp s).1;have w:ord.take (i+1)=ord.take i++[q]:=by rw[aQ,s];rfl
   have tl:tab.length<=63:=by have:=ok.len;rw[aO] at this;ext
   unfold dI eN;walk_at"px";show⟨_,gl q J,_,T q J,?_⟩;rw[show ee (cu ps q)=.tup [dO (cu ps q).n,.int (cu ps q).l,.int (cu ps q).r,.int (cu ps q).k] from rfl];show⟨_,rfl,by ext,?_⟩;simp only[mQ];unfold Bi;simp only[gt];have B:sh [D.int (gK lv q),D.int (-(cu ps q).k)]=some ((gk ps lv q).map Sum.inl):=Fp (gk ps lv q);have ht:lQ (tab.map nW) ((gk ps lv q).map Sum.inl)=if gk ps lv q∈tab.map (·.1) then tab.map nW else(tab++[(gk ps lv q,[])]).map nW:=by
    unfold lQ;rw[QA];by_cases h:gk ps lv q∈tab.map (·.1)
    .simp[h]
    rw[if_neg (by simp[h]),if_neg h,aI];rfl
   by_cases h:gk ps lv q∈tab.map (·.1)
   .rw[if_pos h] at ht;obtain⟨p,o,u⟩:=aB.mp h;obtain⟨n,hn⟩:=List.getElem?_of_mem o;have C:n<tab.length:=(ah.mp hn).1;have first:∀j,j<n->∀x,tab[j]?=some x->x.1≠gk ps lv q:=λj m x f z=>by
     obtain⟨F,I⟩:=ah.mp f;have:=bT.mp ok.nd j n (by rw[af];show F) (by rw[af];show C) m;rw[List.getElem_map,List.getElem_map,I,(ah.mp hn).2] at this;show this (z.trans u.symm)
    show⟨_,n,dX p.2,B,by rw[af];ext,?_,λj m x f=>?_,?_⟩
    .rw[ht,ao,hn,<-u];rfl
    .rw[ht,ao] at f;cases v:tab[j]? with
     | none=>rw[v] at f;cases f
     | some y=>
      rw[v] at f;cases f;show λz=>first j m y v (Cc z)
    rw[ht];walk_at"px";show⟨?_,tab.set n (p.1,p.2++[q]),.fz (.int (q:Nat)),.fz (.tup [.int (gK lv q),.int (-(cu ps q).k)]),?_,⟨?_,λt=>?_,λy g=>?_,?_⟩⟩
    .have:=ok.val p o;unfold dX;rw[af,this];have:=bN (λN=>decide (gk ps lv N=p.1)) (ord.take i);unfold gW;rw[aO] at this;ext
    .rw[List.map_set];have:nW (p.1,p.2++[q])=((gk ps lv q).map Sum.inl,dX p.2++[D.int (q:Int)]):=by
      unfold nW dX;rw[aI,u];rfl
     rw[this]
    .have:(tab.set n (p.1,p.2++[q])).map (·.1)=tab.map (·.1):=by
      rw[List.map_set];apply List.ext_getElem?;intro j;rw[bC];split
      .rename_i e;subst e;rw[ao,hn];simp[C]
      rfl
     rw[this];show ok.nd
    .have:(tab.set n (p.1,p.2++[q])).map (·.1)=tab.map (·.1):=by
      rw[List.map_set];apply List.ext_getElem?;intro j;rw[bC];split
      .rename_i e;subst e;rw[ao,hn];simp[C]
      rfl
     rw[this,ok.mem t,w];constructor
     .rintro⟨x,f,e⟩;show⟨x,aZ _ f,e⟩
     rintro⟨x,f,e⟩;rcases aC.mp f with f | f
     .exact⟨x,f,e⟩
     simp at f;subst f;rw[e] at h;show(ok.mem t).mp h
    .rw[w,KS];obtain⟨j,m⟩:=List.getElem?_of_mem g;rw[bC] at m;split at m
     .rename_i U;cases m;rw[if_pos u.symm,ok.val p o]
     rename_i U;have GD:y∈tab:=aw m;have H:¬gk ps lv q=y.1:=λz=>by
      obtain⟨F,I⟩:=ah.mp m;have nd:=ok.nd;have W:(tab.map (·.1))[j]'(by rw[af];show F)=(tab.map (·.1))[n]'(by rw[af];show C):=by
       rw[List.getElem_map,List.getElem_map,I,(ah.mp hn).2,u,<-z]
      have:=(List.getElem_inj nd).mp W;ext
     rw[if_neg H];show ok.val y GD
    rw[List.length_set,w,aL];have:=ok.len;ext
   rw[if_neg h] at ht;show⟨_,tab.length,[],B,by rw[af];ext,?_,λj m x f=>?_,?_⟩
   .rw[ht,ao,List.getElem?_append_right (au _)];simp[nW,dX]
   .rw[ht,ao,bS m] at f;cases v:tab[j]? with
    | none=>rw[v] at f;cases f
    | some y=>
     rw[v] at f;cases f;show λz=>h (aB.mpr ⟨y,aw v,Cc z⟩)
   rw[ht];walk_at"px";have X:gW ps lv (ord.take i) (gk ps lv q)=[]:=by
    unfold gW;rw[List.filter_eq_nil_iff];intro x f z;show h ((ok.mem _).mpr ⟨x,f,of_decide_eq_true z⟩)
   show⟨by rw[big];decide,tab++[(gk ps lv q,[q])],.fz (.int (q:Nat)),.fz (.tup [.int (gK lv q),.int (-(cu ps q).k)]),?_,⟨?_,λt=>?_,λy g=>?_,?_⟩⟩
   .have:((tab++[(gk ps lv q,[])]).map nW).set tab.length ((gk ps lv q).map Sum.inl,[D.int (q:Int)])=(tab++[(gk ps lv q,[q])]).map nW:=by
     rw[aI,aI,List.set_append_right _ _ (by simp)];simp[nW,dX]
    rw[this]
   .rw[aI,bH];show⟨ok.nd,by simp,λx f y g=>by simp at g;subst g;show λz=>h (z▸f)⟩
   .rw[aI,aC,ok.mem t,w];constructor
    .rintro(⟨x,f,e⟩ | f)
     .exact⟨x,aZ _ f,e⟩
     simp at f;show⟨q,by simp,f.symm⟩
    rintro⟨x,f,e⟩;rcases aC.mp f with f | f
    .exact .inl ⟨x,f,e⟩
    simp at f;subst f;show .inr (by simp[e])
   .rw[w,KS];rcases aC.mp g with g | g
    .have H:¬gk ps lv q=y.1:=λz=>h (z▸aX g)
     rw[if_neg H];show ok.val y g
    simp at g;subst g;rw[if_pos rfl,X];rfl
   rw[aL,w,aL];have:=ok.len;simp only[List.length_singleton];ext
 rintro E ⟨tab,a,b,rfl,ok⟩;have V:(dX ord).length=ord.length:=by unfold dX;simp
 rw[V,bo] at ok;have tl:tab.length<=63:=by have:=ok.len;ext
 walk_at"go";simp only[OV.val];have B:((tab.map nW).map λp=>(p.1,D.lst p.2))=tab.map λp=>(p.1.map Sum.inl,D.lst (dX p.2)):=by rw[aF];rfl
 rw[B];have Y:(tab.map λp:Tb=>((p.1.map Sum.inl:List Key),D.lst (dX p.2))).map (·.1)=(tab.map (·.1)).map (λt=>t.map Sum.inl):=by rw[aF,aF];rfl
 have M:∀t∈tab.map (·.1),t≠[]:=λt ht=>by
  obtain⟨x,_,e⟩:=(ok.mem t).mp ht;rw[<-e];simp[gk]
 show To ?_;walk_at"px";show⟨tab.map (·.1),Y,by rw[af];ext,M,λA o R=>?_⟩;have P:A.Nodup:=o.nodup_iff.mpr ok.nd;show lT A (λt=>D.tup (t.map D.int)) (λt=>.lst (dX (gW ps lv ord t))) (λQ' h=>h) (by rw[o.length_eq,af];ext) (λt ht K1 k=>?_) ?_
 .unfold D2;walk_at"px";obtain⟨p,L,u⟩:=aB.mp (o.subset ht);show⟨_,D.lst (dX (gW ps lv ord t)),Fp t,?_,k⟩;have hv:=ok.val p L;unfold yr;cases hf:(tab.map λp:Tb=>((p.1.map Sum.inl:List Key),D.lst (dX p.2))).find? λO=>decide (O.1=t.map Sum.inl) with
  | none=>
   have:=List.find?_eq_none.mp hf _ (aX L);simp[u] at this
  | some x=>
   have S:=List.mem_of_find?_eq_some hf;have K:=List.find?_some hf;simp only[a9] at K;obtain⟨y,g,rfl⟩:=aB.mp S;have Z:y.1=t:=Cc K;rw[aJ,ok.val y g,Z]
 have:(A.map λt=>D.lst (dX (gW ps lv ord t)))=Ik (A.map (gW ps lv ord)):=by unfold Ik;rw[aF];rfl
 rw[this];show Q ord A io ⟨(R.and P).imp λ{a b} h=>Eu _ _ h.1 h.2,λt=>by rw[o.mem_iff];show ok.mem t⟩
end Wc
open PySem L2 PyProof.Rows Wc
local macro_rules | `(tactic| walk_at"px")=>`(tactic| (repeat(first | walk_at"b" | simp only[pT,pY,D0,gt])))
namespace Wc
open PySem L2 PyProof.Rows
noncomputable def pL(ps:List Pc)(q:Nat)(s:List Nat):Bool:=decide ((cu ps (s.getLastD 0)).r<(cu ps q).l)
noncomputable def pK(ps:List Pc)(S:List (List Nat))(q:Nat):List (List Nat):=match S.findIdx? (pL ps q) with
 | none=>S++[[q]]
 | some j=>S.set j (S.getD j []++[q])
noncomputable def jA(ps:List Pc)(g:List Nat):List (List Nat):=g.foldl (pK ps) []
structure qZ(ps:List Pc)(g:List Nat)(S:List (List Nat)):Prop where
 ne:∀s∈S,s≠[]
 mem:∀s∈S,∀q∈s,q∈g
 cnt:S.flatten.Perm g
theorem Qz{ps:List Pc}{g:List Nat}{S:List (List Nat)}(q:Nat)(h:qZ ps g S):qZ ps (g++[q]) (pK ps S q):=by
 unfold pK;cases f:S.findIdx? (pL ps q) with
 | none=>
  show⟨λs a=>?_,λs a x b=>?_,?_⟩
  .rcases aC.mp a with a | a
   .exact h.ne s a
   simp at a;subst a;simp
  .rcases aC.mp a with a | a
   .exact aZ _ (h.mem s a x b)
   simp at a;subst a;show bg _ b
  show(S++[[q]]).flatten.Perm _;rw[List.flatten_append];simpa using h.cnt.append_right [q]
 | some j=>
  have c:j<S.length:=(List.findIdx?_eq_some_iff_getElem.mp f).1;have e:S.getD j []=S[j]:=by rw[List.getD_eq_getElem?_getD,ag c];rfl
  show⟨λs a=>?_,λs a x b=>?_,?_⟩
  .rcases List.mem_or_eq_of_mem_set a with a | rfl
   .exact h.ne s a
   simp
  .rcases List.mem_or_eq_of_mem_set a with a | rfl
   .exact aZ _ (h.mem s a x b)
   rcases aC.mp b with b | b
   .rw[e] at b;show aZ _ (h.mem _ (bJ c) x b)
   show bg _ b
  show(S.set j (S.getD j []++[q])).flatten.Perm _;have k:S=S.take j++S[j]::S.drop (j+1):=by rw[List.getElem_cons_drop,List.take_append_drop]
  have i:S.set j (S.getD j []++[q])=S.take j++(S[j]++[q])::S.drop (j+1):=by
   rw[e,List.set_eq_take_append_cons_drop,if_pos c]
  rw[i];have d:(S.take j++(S[j]++[q])::S.drop (j+1)).flatten.Perm (S.flatten++[q]):=by
   conv=>rhs;rw[k]
   simp only[List.flatten_append,bB,List.append_assoc];show List.Perm.append_left _ (List.Perm.append_left _ ?_);show List.perm_append_comm
  show d.trans (h.cnt.append_right [q])
theorem vx(ps:List Pc):∀(g:List Nat),qZ ps g (jA ps g):=by
 intro g;have:∀(r a:List Nat)(S:List (List Nat)),qZ ps a S->qZ ps (a++r) (r.foldl (pK ps) S):=by
  intro r;induction r with
  | nil=>intro a S h;simpa using h
  | cons q r c=>
   intro a S h;have:=c (a++[q]) _ (Qz q h);simpa using this
 simpa[jA] using this g [] [] ⟨λs b=>(by cases b),λs b=>(by cases b),by simp⟩
theorem FE{ps:List Pc}{g:List Nat}{i q:Nat}(h:g[i]?=some q):jA ps (g.take (i+1))=pK ps (jA ps (g.take i)) q:=by
 have a:g.take (i+1)=g.take i++[q]:=by rw[aQ,h];rfl
 unfold jA;rw[a,List.foldl_append];rfl
def za:eJ:=λds Q=>∃(ps:List Pc)(g:List Nat),ds=[eN ps,.lst (dX g)]/\(∀q∈g,q<ps.length)/\g.length<=63/\Q (.ov (.ll ((jA ps g).map dX)))
def FD:TX:=(cF (gM 2 D0)
 (cF (jM (iD (b8 1)) (dM 3) (DG 4 2 3 [none,some 0,some 3] (eR (cg (ji λi j=>.bl (decide (i<j))) (cg de (cg de (b8 1) (cg de (b8 0) (Bl (dC (.int 1))))) (dC (.int 2))) (cg de (cg de (b8 1) (b8 2)) (dC (.int 1))))) (eR (cg oEq (tR 4) (dC (.int 0)))) (BK 2 (og (cm (b8 3) cC)))))
 (pU 2)))
noncomputable def fD(ps:List Pc)(q:Nat)(ds:List D):Bool:=match ds.getLast? with
 | some (.int i)=>decide ((cu ps i.toNat).r<(cu ps q).l)
 | _=>false
theorem IU(ps:List Pc)(q:Nat){s:List Nat}(h:s≠[]):fD ps q (dX s)=pL ps q s:=by
 unfold fD pL dX;rw[List.getLast?_map];cases a:s.getLast? with
 | none=>show absurd (List.getLast?_eq_none_iff.mp a) h
 | some x=>
  have:s.getLastD 0=x:=by rw[List.getLastD_eq_getLast?,a];rfl
  rw[this];rfl
theorem LM{b a:Type}{f:a->b}{p:b->Bool}{q:a->Bool}:∀{l:List a},(∀x∈l,p (f x)=q x)->(l.map f).findIdx? p=l.findIdx? q
 | [],_=>rfl
 | x::l,h=>by
  rw[av,List.findIdx?_cons,List.findIdx?_cons,h x (by simp),LM λy c=>h y (by simp[c])]
theorem V3:jl 2 za FD ["pieces","group","strips","number","free"]:=by
 intro ds K hl h;obtain⟨ps,g,rfl,m,hn,Q⟩:=h;show FD _ [.fz (eN ps),.fz (.lst (dX g)),.un,.un,.un];unfold FD;have big:=jX;have y:∀q,q<ps.length->di ps (q:Int)=some (cu ps q):=λq m=>by rw[nH m];show mU m
 walk_at"px";walk_at"go";show rC g (λ(q:Nat)=>.int (q:Int)) (λL h=>?_) (λi p=>∃a:Sl,p=[.fz (eN ps),.fz (.lst (dX g)),.ov (.ll ((jA ps (g.take i)).map dX)),a,.un]) ⟨_,rfl⟩ ?_ ?_
 .walk_at"px";show h
 .rintro i q p o ⟨a,rfl⟩;have A:q∈g:=aw o;have B:=m q A;have ok:=vx ps (g.take i);have O:i<g.length:=(ah.mp o).1;have M:(jA ps (g.take i)).length<=62:=by
   have u:=ok.cnt.length_eq;rw[aO] at u;have w:∀S:List (List Nat),(∀s∈S,s≠[])->S.length<=S.flatten.length:=by
    intro S;induction S with
    | nil=>intro _;simp
    | cons s S C=>
     intro h;have J:=C λx t=>h x (by simp[t])
     have I:0<s.length:=List.length_pos_iff.mpr (h s (by simp));rw[bB,aL,aG];ext
   have:=w _ ok.ne;ext
  show DG 4 2 3 _ _ _ _ _ [.fz (eN ps),.fz (.lst (dX g)),.ov (.ll ((jA ps (g.take i)).map dX)),.fz (.int (q:Int)),.un];show⟨by simp,by decide,by decide,?_⟩;have z:((jA ps (g.take i)).map dX).findIdx? (fD ps q)=(jA ps (g.take i)).findIdx? (pL ps q):=LM λs e=>IU ps q (ok.ne s e)
  show⟨by rw[af,big];ext,fD ps q,λds f=>?_,?_,λE=>?_,λj ds v f=>?_⟩
  .obtain⟨s,e,rfl⟩:=aB.mp f;rw[IU ps q (ok.ne s e)];have b:=ok.ne s e;have t:s.getLast b∈g:=List.mem_of_mem_take (ok.mem s e _ (List.getLast_mem b));have H:0<s.length:=List.length_pos_iff.mpr b;have F:di (dX s) (-1)=some (.int (s.getLast b:Nat)):=by
    unfold dX;rw[rD];have:di s (-1)=some (s.getLast b):=RU s b;rw[this];rfl
   unfold eN;show eR _ [.fz (.lst (dX s)),.fz (.lst (ps.map ee)),.fz (.int (q:Int))] _;walk_at"px";show⟨_,F,?_⟩;show ∃d,di (ps.map ee) ((s.getLast b:Nat):Int)=some d/\_
   show⟨ee (cu ps (s.getLast b)),by rw[rD,y _ (m _ t)];rfl,?_⟩;show ∃d,di [dO (cu ps (s.getLast b)).n,.int (cu ps (s.getLast b)).l,.int (cu ps (s.getLast b)).r,.int (cu ps (s.getLast b)).k] 2=some d/\_
   show⟨.int (cu ps (s.getLast b)).r,rfl,_,y q B,?_⟩;show ∃d,di [dO (cu ps q).n,.int (cu ps q).l,.int (cu ps q).r,.int (cu ps q).k] 1=some d/\_
   show⟨.int (cu ps q).l,rfl,?_⟩;show decide _=pL ps q s;unfold pL;rw[List.getLastD_eq_getLast?,List.getLast?_eq_some_getLast b];rfl
  .simp only[List.set_cons_succ,List.set_cons_zero];walk_at"px";rw[af];constructor
   .intro h;show List.eq_nil_of_length_eq_zero (by ext)
   intro h;rw[h];rfl
  .unfold BK;simp only[List.set_cons_succ,List.set_cons_zero,gt];walk_at"px";show⟨by rw[big];decide,by rw[af,big];ext,.fz (.int (q:Int)),?_⟩;rw[FE o];unfold pK;rw[<-z,E,aI];rfl
  rw[ao] at f;cases e:(jA ps (g.take i))[j]? with
  | none=>rw[e] at f;cases f
  | some s=>
   rw[e] at f;cases f;have D:=aw e;have N:s.length<=g.length:=by
    have u:=ok.cnt.length_eq;rw[aO] at u;have w:s.length<=(jA ps (g.take i)).flatten.length:=(List.sublist_flatten_of_mem D).length_le;ext
   show⟨by unfold dX;rw[af,big];ext,.fz (.int (q:Int)),?_⟩;rw[FE o];unfold pK;rw[z] at v;rw[v];simp only[List.set_cons_succ,List.set_cons_zero,List.getD_eq_getElem?_getD,e,Option.getD_some,List.map_set];unfold dX;rw[aI];rfl
 rintro p ⟨a,rfl⟩;rw[bo];simp only[mQ,pU,gt];show Q
end Wc
open PySem L2 PyProof.Rows Wc
local macro_rules | `(tactic| walk_at"px")=>`(tactic| (repeat(first | walk_at"b" | simp only[pT,pY,gt])))
namespace Wc
open PySem L2 PyProof.Rows
noncomputable abbrev La:=List Int×Int
noncomputable def pJ(ps:List Pc)(st:La)(s:List Nat):La:=(s.foldl (λtr q=>tr.set q st.2) st.1,st.2+(cu ps (s.headD 0)).k)
noncomputable def yc(ps:List Pc)(st:La)(g:List Nat):La:=(jA ps g).foldl (pJ ps) st
noncomputable def mS(ps:List Pc)(a:List (List Nat)):La:=a.foldl (yc ps) (List.replicate ps.length 0,0)
theorem E8(x:Int):∀(s:List Nat)(tr:List Int),(s.foldl (λtr q=>tr.set q x) tr).length=tr.length
 | [],tr=>rfl
 | q::s,tr=>by rw[bI,E8 x s,List.length_set]
theorem RK(ps:List Pc)(st:La)(s:List Nat):(pJ ps st s).1.length=st.1.length:=E8 _ _ _
theorem Cp(ps:List Pc):∀(S:List (List Nat))(st:La),(S.foldl (pJ ps) st).1.length=st.1.length
 | [],st=>rfl
 | s::S,st=>by rw[bI,Cp ps S,RK]
theorem RJ(ps:List Pc)(st:La)(g:List Nat):(yc ps st g).1.length=st.1.length:=Cp ps _ st
theorem Co(ps:List Pc):∀(a:List (List Nat))(st:La),(a.foldl (yc ps) st).1.length=st.1.length
 | [],st=>rfl
 | s::S,st=>by rw[bI,Co ps S,RJ]
def xv:eJ:=λds Q=>∃(ps:List Pc)(lv:List Int),ds=[eN ps,dI lv]/\lv.length=ps.length/\ps.length<=63/\∀ord ks,eC ps ord->lF ps lv ord ks->Q (.ow ((mS ps (ks.map (gW ps lv ord))).1.map D.int))
def FC:TX:=(cF (gM 2 (hU (iD (b8 0)) [none] (dM 0) jk (dC (.int 0))))
 (cF (fq 3 (dC (.int 0)))
 (cF (jM (iD (e8 2 xC (cm (b8 0) (cm (b8 1) cC)))) (dM 4) (jM (iD (e8 2 za (cm (b8 0) (cm (b8 4) cC)))) (dM 5) (cF (jM (iD (b8 5)) (dM 6) (o6 2 (b8 6) (b8 3)))
 (fq 3 (cg gZ (b8 3) (cg de (cg de (b8 0) (cg de (b8 5) (dC (.int 0)))) (dC (.int 3))))))))
 (lO 2))))
theorem Ol{n k:Nat}(h:k<n):kP n (k:Int)=some k:=by
 unfold kP;rw[if_pos (by ext),if_pos (by ext)];simp
theorem EH{te:TD}{g:iA}{b:TX}{c:DE}{a:Ev}(h:te a λr=>wY r.val λds=>ym g b c a ds):jM (iD te) g b c a:=h
theorem Cv{c a:Type}(f:a->c->a)(b:a){l:List c}{i:Nat}{x:c}(h:l[i]?=some x):(l.take (i+1)).foldl f b=f ((l.take i).foldl f b) x:=by
 have d:l.take (i+1)=l.take i++[x]:=by rw[aQ,h];rfl
 rw[d,List.foldl_append];rfl
theorem V2:jl 2 xv FC ["pieces","levels","tracks","track","group","strip","number"]:=by
 intro ds X hl h;obtain⟨ps,lv,rfl,U,hn,Q⟩:=h;show FC _ [.fz (eN ps),.fz (dI lv),.un,.un,.un,.un,.un];unfold FC;have big:=jX;have N:∀q,q<ps.length->di ps (q:Int)=some (cu ps q):=λq u=>by rw[nH u];show mU u
 walk_at"px";show lT ps ee (λ_=>.int 0) (λP h=>?_) (by rw[big];ext) (λp W Y k=>?_) ?_
 .walk_at"px";show h
 .walk_at"px";show k
 have O:(ps.map λ_=>D.int 0)=(List.replicate ps.length (0:Int)).map D.int:=by
  rw[List.map_replicate];show List.map_const'
 rw[O];walk_at"go";walk_at"go";show EH ?_;walk_at"px";show⟨ps,lv,rfl,U,hn,λord ks io L=>?_⟩;have R:∀t,∀q∈gW ps lv ord t,q<ps.length:=λt q u=>(io.mem q).mp ((aN.mp u).1)
 have y:∀t,(gW ps lv ord t).length<=63:=λt=>by
  have:=bN (λq=>decide (gk ps lv q=t)) ord;have:=io.len;unfold gW;ext
 generalize F:ks.map (gW ps lv ord)=x;have E:=Q ord ks io L;rw[F] at E;have M:∀g∈x,(∀q∈g,q<ps.length)/\g.length<=63:=λg hg=>by
  rw[<-F] at hg;obtain⟨t,_,rfl⟩:=aB.mp hg;show⟨R t,y t⟩
 show ym _ _ _ _ (x.map λg=>D.lst (dX g));show Fu x (λg=>D.lst (dX g)) (λi e=>∃(st:La)(a b c:Sl),e=[.fz (eN ps),.fz (dI lv),.ow (st.1.map D.int),.fz (.int st.2),a,b,c]/\st=(x.take i).foldl (yc ps) (List.replicate ps.length 0,0)) ⟨(List.replicate ps.length 0,0),.un,.un,.un,rfl,rfl⟩ ?_ ?_
 .rintro i g e hg ⟨st,a,b,c,rfl,w⟩;obtain⟨u,y⟩:=M g (aw hg);have ok:=vx ps g;have V:st.1.length=ps.length:=by rw[w,Co];simp
  walk_at"px";show EH ?_;walk_at"px";show⟨ps,g,rfl,u,y,?_⟩;show ym _ _ _ _ (((jA ps g).map dX).map D.lst);rw[aF];show Fu (jA ps g) (D.lst∘dX) (λj e=>∃(f:La)(b c:Sl),e=[.fz (eN ps),.fz (dI lv),.ow (f.1.map D.int),.fz (.int f.2),.fz (.lst (dX g)),b,c]/\f=((jA ps g).take j).foldl (pJ ps) st) ⟨st,b,c,rfl,rfl⟩ ?_ ?_
  .rintro j s e C ⟨f,b,c,rfl,v⟩;have H:=aw C;have T:f.1.length=ps.length:=by rw[v,Cp];show V
   have S:=ok.ne s H;have z:∀q∈s,q<ps.length:=λq J=>u q (ok.mem s H q J)
   walk_at"px";show rC s (λ(q:Nat)=>.int (q:Int)) (λP h=>?_) (λm e=>∃(c:Sl),e=[.fz (eN ps),.fz (dI lv),.ow (((s.take m).foldl (λtr q=>tr.set q f.2) f.1).map D.int),.fz (.int f.2),.fz (.lst (dX g)),.fz (.lst (dX s)),c]) ⟨c,rfl⟩ ?_ ?_
   .walk_at"px";show h
   .rintro m q e B ⟨c,rfl⟩;have K:=z q (aw B);walk_at"px";unfold o6;simp only[gt];walk_at"px";show⟨q,by rw[af,E8,T];show Ol K,.fz (.int (q:Int)),?_⟩;rw[Cv _ _ B,List.map_set]
   rintro e ⟨c,rfl⟩;rw[bo];walk_at"go";cases s with
   | nil=>show absurd rfl S
   | cons o A=>
    have I:=z o (by simp);show⟨.int (o:Int),(by unfold dX;rw[rD];show congrArg (Option.map _) (mU (l:=o::A) (j:=0) (by simp))),?_⟩;show ∃d,di (ps.map ee) (o:Int)=some d/\_
    show⟨ee (cu ps o),by rw[rD,N _ I];rfl,?_⟩;show ∃d,di [dO (cu ps o).n,.int (cu ps o).l,.int (cu ps o).r,.int (cu ps o).k] 3=some d/\_
    show⟨.int (cu ps o).k,rfl,?_⟩;show⟨pJ ps f (o::A),_,_,rfl,by rw[Cv _ _ C,<-v]⟩
  rintro e ⟨f,b,c,rfl,v⟩;rw[bo] at v;show⟨f,_,_,_,rfl,?_⟩;rw[Cv _ _ hg,<-w,v];rfl
 rintro e ⟨st,a,b,c,rfl,w⟩;rw[bo] at w;simp only[mQ,lO,gt];rw[w];show E
theorem Cb(x:Int):∀(s:List Nat)(tr:List Int)(q:Nat),q<tr.length->gK (s.foldl (λtr q=>tr.set q x) tr) q=if q∈s then x else gK tr q
 | [],tr,q,_=>by simp
 | a::s,tr,q,h=>by
  rw[bI,Cb x s _ q (by rw[List.length_set];show h)];by_cases c:q∈s
  .simp[c]
  rw[if_neg c];unfold gK;rw[bC];by_cases b:a=q
  .subst b;simp[h]
  have:¬q=a:=λz=>b z.symm
  simp[c,b,this]
theorem E7{g:List Nat}(h:g≠[]):g.headD 0∈g:=by
 cases g with
 | nil=>show absurd rfl h
 | cons a r=>simp
theorem KR(ps:List Pc):∀(A:List (List Nat))(st:La),(A.foldl (pJ ps) st).2=st.2+(A.map λs=>(cu ps (s.headD 0)).k).sum
 | [],st=>by simp
 | s::A,st=>by
  rw[bI,KR ps A];simp[pJ];ext
theorem LC{b:Type}(f:b->Int)(k:Int):∀(L:List b),(∀x∈L,f x=k)->(L.map f).sum=k*(L.length:Int)
 | [],_=>by simp
 | a::L,h=>by
  rw[av,List.sum_cons,LC f k L λx c=>h x (by simp[c]),h a (by simp),aG];push_cast
  rw[Int.mul_add];ext
theorem LB(ps:List Pc)(a:List (List Nat))(st:La):a.foldl (yc ps) st=(a.flatMap (jA ps)).foldl (pJ ps) st:=by
 induction a generalizing st with
 | nil=>rfl
 | cons g a b=>rw[bI,b,List.flatMap_cons,List.foldl_append];rfl
structure Laid(ps:List Pc)(A:List (List Nat))(st:La):Prop where
 le:∀q∈A.flatten,0<=gK st.1 q/\gK st.1 q+(cu ps q).k<=st.2
 ex:A=[]/\st.2=0\/∃q∈A.flatten,gK st.1 q+(cu ps q).k=st.2
 ps:0<=st.2
theorem RI(ps:List Pc)(hk:∀q,1<=(cu ps q).k)(A:List (List Nat))(nd:A.flatten.Nodup)(hn:∀s∈A,s≠[]/\∀q∈s,q<ps.length/\(cu ps q).k=(cu ps (s.headD 0)).k):Laid ps A (A.foldl (pJ ps) (List.replicate ps.length 0,0)):=by
 have:∀i,i<=A.length->Laid ps (A.take i) ((A.take i).foldl (pJ ps) (List.replicate ps.length 0,0)):=by
  intro i;induction i with
  | zero=>intro _;show⟨λq b=>by simp at b,.inl ⟨rfl,rfl⟩,Int.le_refl _⟩
  | succ i o=>
   intro w;have c:=o (by ext);have j:A[i]?=some A[i]:=ag (by ext);obtain⟨u,g⟩:=hn A[i] (bJ _);rw[Cv _ _ j];generalize t:(A.take i).foldl (pJ ps) (List.replicate ps.length 0,0)=st at c ⊢;have v:st.1.length=ps.length:=by rw[<-t,Cp];simp
   have p:A.take (i+1)=A.take i++[A[i]]:=by rw[aQ,j];rfl
   have f:(A.take (i+1)).flatten=(A.take i).flatten++A[i]:=by rw[p,List.flatten_append];simp
   have z:((A.take i).flatten++A[i]).Nodup:=by
    rw[<-f];show nd.sublist ?_;conv=>rhs;rw[<-List.take_append_drop (i+1) A]
    rw[List.flatten_append];show List.sublist_append_left _ _
   have B:=hk (A[i].headD 0);have hh:A[i].headD 0∈A[i]:=by
    cases e:A[i] with
    | nil=>show absurd e u
    | cons a r=>simp
   show⟨λq b=>?_,.inr ⟨A[i].headD 0,?_,?_⟩,?_⟩
   .rw[f] at b;show 0<=gK (A[i].foldl (λtr q=>tr.set q st.2) st.1) q/\gK (A[i].foldl (λtr q=>tr.set q st.2) st.1) q+(cu ps q).k<=st.2+(cu ps (A[i].headD 0)).k;by_cases d:q∈A[i]
    .obtain⟨y,x⟩:=g q d;rw[Cb _ _ _ _ (by ext),if_pos d];have:=c.ps;ext
    have l:q∈(A.take i).flatten:=by
     rcases aC.mp b with h | h
     .exact h
     show absurd h d
    have C:q<ps.length:=by
     obtain⟨s,m,n⟩:=List.mem_flatten.mp l;show((hn s (List.mem_of_mem_take m)).2 q n).1
    rw[Cb _ _ _ _ (by ext),if_neg d];have:=c.le q l;ext
   .rw[f];show bg _ hh
   .show gK (A[i].foldl (λtr q=>tr.set q st.2) st.1) _+_=st.2+(cu ps (A[i].headD 0)).k;rw[Cb _ _ _ _ (by have:=(g _ hh).1;ext),if_pos hh]
   show 0<=st.2+_;have:=c.ps;ext
 have h:=this A.length (au _);rwa [bo] at h
structure wD(ps:List Pc)(g:List Nat):Prop where
 ne:g≠[]
 lt:∀q∈g,q<ps.length
 kk:∀q∈g,(cu ps q).k=(cu ps (g.headD 0)).k
 so:g.Pairwise λx y=>(cu ps x).l<=(cu ps y).l
theorem Vx(a b:List Int):(a++b).sum=a.sum+b.sum:=by
 induction a with
 | nil=>simp
 | cons x r c=>simp[c];ext
theorem Fd(ps:List Pc):∀a:List (List Nat),(a.flatMap (jA ps)).flatten.Perm a.flatten
 | []=>by simp
 | g::a=>by
  rw[List.flatMap_cons,List.flatten_append,bB];show(vx ps g).cnt.append (Fd ps a)
theorem Qy(ps:List Pc)(hk:∀q,1<=(cu ps q).k)(a:List (List Nat))(hg:∀g∈a,wD ps g)(l:a.flatten.Perm (List.range ps.length)):(pM ps (mS ps a).1).getD 0=(mS ps a).2:=by
 have d:Laid ps (a.flatMap (jA ps)) (mS ps a):=by
  unfold mS;rw[LB];show RI ps hk _ ?_ λs o=>?_
  .exact((Fd ps a).trans l).nodup_iff.mpr List.nodup_range
  obtain⟨g,C,c⟩:=List.mem_flatMap.mp o;have go:=hg g C;have so:=vx ps g;have n:=so.ne s c;show⟨n,λq b=>⟨go.lt q (so.mem s c q b),?_⟩⟩;rw[go.kk q (so.mem s c q b),go.kk _ (so.mem s c _ (E7 n))]
 have pm:=(Fd ps a).trans l;have r:(mS ps a).1.length=ps.length:=by unfold mS;rw[Co];simp
 generalize mS ps a=st at d r ⊢;have f:∀q,q<ps.length->(cu ps q,gK st.1 q)∈ps.zip st.1:=λq b=>by
  show List.mem_iff_getElem.mpr ⟨q,by rw[List.length_zip];ext,?_⟩;rw[List.getElem_zip,nH b,wU (by ext)]
 rcases d.ex with⟨B,A⟩ | ⟨q,b,e⟩
 .have:ps.length=0:=by
   have:=pm.length_eq;rw[B] at this;simpa using this.symm
  have:ps=[]:=List.eq_nil_of_length_eq_zero this;subst this;rw[A];rfl
 have i:q<ps.length:=aR.mp (pm.mem_iff.mp b);have hz:ps.zip st.1≠[]:=λz=>by have:=f q i;rw[z] at this;cases this
 obtain⟨x,y,w,p,D,m⟩:=KU hz;rw[y];show x=st.2;have v:=w _ (f q i);obtain⟨j,t,rfl⟩:=List.mem_iff_getElem.mp D;rw[List.length_zip] at t;have h:j<ps.length:=by ext
 have u:=d.le j (pm.mem_iff.mpr (aR.mpr h));rw[List.getElem_zip] at m;rw[nH h,wU (by ext)] at u;simp only at m v;ext
theorem Tj{ps:List Pc}{x y:Nat}(h:HT.cf (fK ps y) (fK ps x)=true):(cu ps x).l<=(cu ps y).l:=by
 unfold fK at h;rw[K2] at h;by_cases e:(cu ps y).l=(cu ps x).l
 .omega
 rw[if_neg e] at h;have:=of_decide_eq_true h;ext
theorem JG{ps:List Pc}{b:List Int}{ord:List Nat}{ks:List (List Int)}(c:eC ps ord)(j:lF ps b ord ks):∀g∈ks.map (gW ps b ord),wD ps g:=by
 intro g hg;obtain⟨t,ht,rfl⟩:=aB.mp hg;have kt:∀q∈gW ps b ord t,gk ps b q=t:=λq a=>of_decide_eq_true (aN.mp a).2
 have i:gW ps b ord t≠[]:=λz=>by
  obtain⟨q,a,e⟩:=(j.mem t).mp ht;have:q∈gW ps b ord t:=aN.mpr ⟨a,by simp[e]⟩;rw[z] at this;cases this
 show⟨i,λq a=>(c.mem q).mp (aN.mp a).1,λq a=>?_,(c.mY.imp λh=>Tj h).filter _⟩;have f:=kt q a;have d:=kt _ (E7 i);unfold gk at f d;have:=f.trans d.symm;simp only[List.cons.injEq,and_true] at this;ext
theorem Ti{ps:List Pc}{c:List Int}{ord:List Nat}{ks:List (List Int)}(e:eC ps ord)(f:lF ps c ord ks):(ks.map (gW ps c ord)).flatten.Perm (List.range ps.length):=by
 have p:ks.Nodup:=f.mY.imp λ{a b} h z=>by
  subst z;have:∀a:List Int,HT.cf a a=false:=by
   intro a;induction a with
   | nil=>rfl
   | cons x r l=>rw[K2,if_pos rfl];show l
  rw[this] at h;cases h
 have j:∀q,q∈(ks.map (gW ps c ord)).flatten↔q<ps.length:=λq=>by
  rw[List.mem_flatten];constructor
  .rintro⟨g,hg,d⟩;obtain⟨t,_,rfl⟩:=aB.mp hg;show(e.mem q).mp (aN.mp d).1
  intro d;have i:=(e.mem q).mpr d;show⟨_,aX ((f.mem _).mpr ⟨q,i,rfl⟩),aN.mpr ⟨i,by simp⟩⟩
 show(List.perm_ext_iff_of_nodup ?_ List.nodup_range).mpr λq=>by rw[j q,aR]
 unfold List.Nodup;rw[List.pairwise_flatten];show⟨λg hg=>?_,?_⟩
 .obtain⟨t,_,rfl⟩:=aB.mp hg;show e.nd.filter _
 rw[bL];show p.imp λ{a b} k=>?_
 intro q d s o z;subst z;have n:gk ps c q=a:=of_decide_eq_true (aN.mp d).2;have m:gk ps c q=b:=of_decide_eq_true (aN.mp o).2;show k (n.symm.trans m)
noncomputable def ud(c:Int)(p:Pc):Bool:=decide (p.l<=c)&&decide (c<=p.r)
def y9:eJ:=λds Q=>∃(ps:List Pc)(c:Int),ds=[eN ps,.int c]/\ps.length<=1000/\Q (.ow ((ps.filter (ud c)).map ee))
def FA:TX:=(gJ (hU (iD (b8 0)) [none,some 1] (dM 0) (eR (BP (ji λi j=>.bl (decide (i<=j))) (ji λi j=>.bl (decide (i<=j))) (cg de (b8 0) (dC (.int 1))) (b8 1) (cg de (b8 0) (dC (.int 2))))) (b8 0)))
theorem WC:jl 2 y9 FA ["pieces","column"]:=by
 intro ds g hl h;obtain⟨ps,c,rfl,hn,Q⟩:=h;show FA _ [.fz (eN ps),.fz (.int c)];unfold FA;have big:=jX;walk_at"px";show Ct ps ee ee (ud c) (λi h=>?_) (by rw[big];ext) (λp f j m e h0=>?_) Q
 .walk_at"px";show h
 rw[show ee p=.tup [dO p.n,.int p.l,.int p.r,.int p.k] from rfl] at e ⊢;walk_at"px";show⟨.int p.l,rfl,?_⟩;show if p.l<=c then _ else _
 unfold ud at e h0;by_cases d:p.l<=c
 .rw[if_pos d];show⟨.int p.r,rfl,?_⟩;show if c<=p.r then _ else _
  by_cases b:c<=p.r
  .rw[if_pos b];show e (by simp[d,b])
  rw[if_neg b];show h0 (by simp[b])
 rw[if_neg d];show h0 (by simp[d])
noncomputable def rX(ps:List Pc):List Int:=ps.map λp=>((ps.countP (ud p.l):Nat):Int)
noncomputable def wL(ps:List Pc):Int:=(rX ps).foldl max 0
theorem LA:∀(L:List Int)(m:Int),m<=L.foldl max m/\(∀x∈L,x<=L.foldl max m)/\(L.foldl max m=m\/L.foldl max m∈L)
 | [],m=>⟨Int.le_refl _,λx d=>(by cases d),.inl rfl⟩
 | a::L,m=>by
  obtain⟨f,e,b⟩:=LA L (max m a);rw[bI];show⟨by ext,λx d=>?_,?_⟩
  .rcases aj.mp d with rfl | d
   .omega
   show e x d
  rcases b with b | b
  .by_cases c:m<a
   .right;rw[b,show max m a=a by ext];simp
   left;rw[b];ext
  right;simp[b]
theorem KQ{ps:List Pc}{M:Int}(h:M∈rX ps)(u:∀b∈rX ps,b<=M):M=wL ps:=by
 obtain⟨e,c,a⟩:=LA (rX ps) 0;have d:=c M h;have pos:0<=M:=by
  obtain⟨p,_,rfl⟩:=aB.mp h;ext
 unfold wL;rcases a with a | a
 .omega
 have:=u _ a;ext
def zf:eJ:=λds Q=>∃ps:List Pc,ds=[eN ps]/\ps≠[]/\ps.length<=1000/\Q (.fz (.int (wL ps)))
def F1:TX:=(gJ (gf rj (cm (hU (iD (b8 0)) [none,some 0] (dM 0) jk (gf pO (cm (e8 2 y9 (cm (b8 1) (cm (cg de (b8 0) (dC (.int 1))) cC))) cC))) cC)))
theorem WY:jl 1 zf F1 ["pieces"]:=by
 intro ds d hl h;obtain⟨ps,rfl,b,hn,Q⟩:=h;show F1 _ [.fz (eN ps)];unfold F1;have big:=jX;walk_at"px";show lT ps ee (λp=>.int ((ps.countP (ud p.l):Nat):Int)) (λi h=>?_) (by rw[big];ext) (λp g f k=>?_) ?_
 .walk_at"px";show h
 .rw[show ee p=.tup [dO p.n,.int p.l,.int p.r,.int p.k] from rfl];walk_at"px";show⟨.int p.l,rfl,ps,p.l,rfl,hn,?_⟩;show f (.int (((ps.filter (ud p.l)).map ee).length:Nat));rw[af,<-List.countP_eq_length_filter];show k
 have e:(ps.map λp=>D.int ((ps.countP (ud p.l):Nat):Int))=(rX ps).map D.int:=by unfold rX;rw[aF];rfl
 rw[e];show rj [.lst ((rX ps).map D.int)] d;unfold rj;simp only[Cz];show⟨λz=>?_,λM h u=>by rw[KQ h u];show Q⟩;unfold rX at z;show b (List.map_eq_nil_iff.mp z)
noncomputable def uO(ps:List Pc)(a:List (List Nat)):Int:=(a.map λg=>(cu ps (g.headD 0)).k*wL (g.map (cu ps))).sum
def y4:eJ:=λds Q=>∃(ps:List Pc)(lv:List Int),ds=[eN ps,dI lv]/\lv.length=ps.length/\ps.length<=63/\(∀p∈ps,1<=p.k/\p.k<=3)/\∀ord ks,eC ps ord->lF ps lv ord ks->Q (.fz (.int (uO ps (ks.map (gW ps lv ord)))))
def Fo:TX:=(cF (fq 2 (dC (.int 0)))
 (cF (jM (iD (e8 2 xC (cm (b8 0) (cm (b8 1) cC)))) (dM 3) (cF (fq 4 (hU (iD (b8 3)) [none,some 0] (dM 0) jk (cg de (b8 1) (b8 0))))
 (fq 2 (cg gZ (b8 2) (cg (oI je λi j=>.int (i*j)) (cg de (cg de (b8 4) (dC (.int 0))) (dC (.int 3))) (e8 1 zf (cm (b8 4) cC)))))))
 (gJ (b8 2))))
theorem VU:jl 2 y4 Fo ["pieces","levels","bound","group","members"]:=by
 intro ds J hl h;obtain⟨ps,lv,rfl,I,hn,hk,Q⟩:=h;show Fo _ [.fz (eN ps),.fz (dI lv),.un,.un,.un];unfold Fo;have big:=jX;have A:∀q,q<ps.length->di ps (q:Int)=some (cu ps q):=λq m=>by rw[nH m];show mU m
 walk_at"px";walk_at"go";show EH ?_;walk_at"px";show⟨ps,lv,rfl,I,hn,λord ks io w=>?_⟩;have F:∀t,∀q∈gW ps lv ord t,q<ps.length:=λt q m=>(io.mem q).mp (aN.mp m).1
 have v:∀t,(gW ps lv ord t).length<=63:=λt=>by
  have:=bN (λq=>decide (gk ps lv q=t)) ord;have:=io.len;unfold gW;ext
 have s:∀t∈ks,gW ps lv ord t≠[]:=λt ht z=>by
  obtain⟨q,m,e⟩:=(w.mem t).mp ht;have:q∈gW ps lv ord t:=aN.mpr ⟨m,by simp[e]⟩;rw[z] at this;cases this
 have x:=Q ord ks io w;generalize H:ks.map (gW ps lv ord)=o at x ⊢;have y:∀g∈o,(∀q∈g,q<ps.length)/\g.length<=63/\g≠[]:=λg hg=>by
  rw[<-H] at hg;obtain⟨t,ht,rfl⟩:=aB.mp hg;show⟨F t,v t,s t ht⟩
 show ym _ _ _ _ (o.map λg=>D.lst (dX g));show Fu o (λg=>D.lst (dX g)) (λi p=>∃(a b:Sl),p=[.fz (eN ps),.fz (dI lv),.fz (.int (uO ps (o.take i))),a,b]) ⟨.un,.un,rfl⟩ ?_ ?_
 .rintro i g p hg ⟨a,b,rfl⟩;obtain⟨m,v,s⟩:=y g (aw hg);walk_at"px";show lT g (λ(q:Nat)=>.int (q:Int)) (λq=>ee (cu ps q)) (λK h=>?_) (by rw[big];ext) (λq E L k=>?_) ?_
  .walk_at"px";show h
  .unfold eN;walk_at"px";show⟨_,A q (m q E),k⟩
  have C:uO ps (o.take (i+1))=uO ps (o.take i)+(cu ps (g.headD 0)).k*wL (g.map (cu ps)):=by
   unfold uO;rw[aQ,hg];simp
  rw[C];have B:(g.map λq=>ee (cu ps q))=(g.map (cu ps)).map ee:=by rw[aF];rfl
  rw[B];walk_at"go";cases g with
  | nil=>show absurd rfl s
  | cons f g'=>
   have u:=m f (by simp);have M:=hk (cu ps f) (by rw[nH u];show bJ u);show⟨f,mU (l:=f::g') (j:=0) (by simp),?_⟩;show ∃d,di [dO (cu ps f).n,.int (cu ps f).l,.int (cu ps f).r,.int (cu ps f).k] 3=some d/\_
   show⟨.int (cu ps f).k,rfl,(f::g').map (cu ps),rfl,by simp,by rw[af];ext,?_⟩;show⟨.inl ⟨by ext,by ext⟩,_,_,rfl⟩
 rintro p ⟨a,b,rfl⟩;rw[bo];walk_at"go";show x
noncomputable abbrev Iv:=Int×Int
def ip:List Iv->Prop
 | []=>True
 | [a]=>a.1<=a.2
 | a::b::r=>a.1<=a.2/\b.2<a.1/\ip (b::r)
noncomputable def hits(c:Int)(a:Iv):Bool:=decide (a.1<=c)&&decide (c<=a.2)
theorem LV:∀{r:List Iv}{a:Iv},ip (a::r)->∀b∈r,b.2<a.1
 | [],a,_,b,hb=>by cases hb
 | x::r,a,h,b,hb=>by
  obtain⟨g,d,c⟩:=h;rcases aj.mp hb with rfl | hb
  .exact d
  have f:=LV c b hb;have e:x.1<=x.2:=by cases r with | nil=>show c | cons y r=>show c.1
  ext
theorem ip.tail{a:Iv}{r:List Iv}(h:ip (a::r)):ip r:=by
 cases r with
 | nil=>trivial
 | cons b r=>show h.2.2
theorem Le:∀{s:List Iv},ip s->∀c,s.countP (hits c)<=1
 | [],_,c=>by simp
 | a::r,h,c=>by
  rw[List.countP_cons];have d:=Le h.tail c;by_cases ha:hits c a=true
  .have:r.countP (hits c)=0:=by
    rw[List.countP_eq_zero];intro b hb z;have e:=LV h b hb;simp only[hits,bj,a9] at ha z;ext
   simp[ha,this]
  simp[ha];show d
theorem Ld:∀(S:List (List Iv)),(∀s∈S,ip s)->∀c,S.flatten.countP (hits c)<=S.length
 | [],_,c=>by simp
 | s::S,h,c=>by
  rw[bB,List.countP_append,aG];have d:=Le (h s (by simp)) c;have b:=Ld S (λx a=>h x (by simp[a])) c;ext
noncomputable def mR(a:Iv):List (List Iv)->List (List Iv)
 | []=>[[a]]
 | s::S=>if (s.headD (0,0)).2<a.1 then(a::s)::S else s::mR a S
structure Gd(done:List Iv)(S:List (List Iv)):Prop where
 st:∀s∈S,ip s/\s≠[]
 pm:S.flatten.Perm done
 le:∀x∈S,∀a∈x,a∈done
 ex:S=[]\/∃p∈done,S.length<=done.countP (hits p.1)
theorem Lc(a:Iv):∀S:List (List Iv),(mR a S).flatten.Perm (a::S.flatten)
 | []=>by simp[mR]
 | s::S=>by
  unfold mR;split
  .simp
  rw[bB,bB];show(List.Perm.append_left s (Lc a S)).trans List.perm_middle
theorem KP(a:Iv):∀S:List (List Iv),(mR a S).length=S.length\/((mR a S).length=S.length+1/\∀s∈S,a.1<=(s.headD (0,0)).2)
 | []=>.inr ⟨rfl,λs c=>by cases c⟩
 | s::S=>by
  unfold mR;split
  .exact .inl rfl
  rename_i h;rcases KP a S with e | ⟨e,f⟩
  .exact .inl (by simp[e])
  show .inr ⟨by simp[e],λx b=>?_⟩;rcases aj.mp b with rfl | b
  .omega
  show f x b
theorem LK(a:Iv)(ha:a.1<=a.2):∀S:List (List Iv),(∀s∈S,ip s/\s≠[])->∀s∈mR a S,ip s/\s≠[]
 | [],_,s,c=>by simp[mR] at c;subst c;show⟨ha,by simp⟩
 | x::S,h,s,c=>by
  unfold mR at c;obtain⟨e,d⟩:=h x (by simp);split at c
  .rename_i hf;rcases aj.mp c with rfl | c
   .refine⟨?_,by simp⟩;cases x with
    | nil=>show absurd rfl d
    | cons b r=>show⟨ha,hf,e⟩
   show h s (by simp[c])
  rcases aj.mp c with rfl | c
  .exact⟨e,d⟩
  show LK a ha S (λy f=>h y (by simp[f])) s c
theorem Lb(a:Iv):∀S:List (List Iv),(∀s∈S,s≠[])->(∀s∈S,a.1<=(s.headD (0,0)).2)->(∀s∈S,∀b∈s,b.1<=a.1)->S.length<=S.flatten.countP (hits a.1)
 | [],_,_,_=>by simp
 | s::S,f,e,d=>by
  rw[bB,List.countP_append,aG];have i:=Lb a S (λx c=>f x (by simp[c])) (λx c=>e x (by simp[c])) (λx c=>d x (by simp[c]));have:1<=s.countP (hits a.1):=by
   cases s with
   | nil=>show absurd rfl (f [] (by simp))
   | cons b r=>
    rw[List.countP_cons];have h:=e (b::r) (by simp);have g:=d (b::r) (by simp) b (by simp);have:hits a.1 b=true:=by simp only[hits,bj,a9];show⟨g,h⟩
    simp[this]
  ext
theorem Gd.put{done:List Iv}{S:List (List Iv)}(g:Gd done S){a:Iv}(ha:a.1<=a.2)(c:∀b∈done,b.1<=a.1):Gd (done++[a]) (mR a S):=by
 have pm:(mR a S).flatten.Perm (done++[a]):=(Lc a S).trans ((List.Perm.cons a g.pm).trans (List.perm_append_singleton a done).symm);show⟨LK a ha S g.st,pm,λx i b hb=>pm.mem_iff.mp (List.mem_flatten.mpr ⟨x,i,hb⟩),?_⟩;right
 rcases KP a S with e | ⟨e,f⟩
 .rcases g.ex with rfl | ⟨p,j,l⟩
  .exact absurd e (by simp[mR])
  show⟨p,by simp[j],?_⟩;rw[e,List.countP_append];ext
 show⟨a,by simp,?_⟩;have d:=Lb a S (λs c=>(g.st s c).2) f (λs h b hb=>c b (g.le s h b hb));rw[g.pm.countP_eq] at d;have k:hits a.1 a=true:=by simp only[hits,bj,a9];ext
 rw[e,List.countP_append];simp[k];show d
theorem Gd.count{done:List Iv}{S:List (List Iv)}(g:Gd done S):(∀c,done.countP (hits c)<=S.length)/\(S=[]\/∃p∈done,S.length=done.countP (hits p.1)):=by
 have a:∀c,done.countP (hits c)<=S.length:=λc=>by
  rw[<-g.pm.countP_eq];show Ld S (λs b=>(g.st s b).1) c
 show⟨a,?_⟩;rcases g.ex with h | ⟨p,d,e⟩
 .exact .inl h
 show .inr ⟨p,d,by have:=a p.1;ext⟩
noncomputable def oF(ps:List Pc)(q:Nat):Iv:=((cu ps q).l,(cu ps q).r)
noncomputable def rN(ps:List Pc)(S:List (List Nat)):List (List Iv):=S.map λs=>(s.map (oF ps)).reverse
theorem Th(ps:List Pc)(s:List Nat)(S:List (List Nat))(q:Nat):pK ps (s::S) q=if pL ps q s=true then(s++[q])::S else s::pK ps S q:=by
 unfold pK;rw[List.findIdx?_cons];by_cases h:pL ps q s=true
 .rw[if_pos h,if_pos h];rfl
 rw[if_neg h,if_neg h];cases S.findIdx? (pL ps q) with
 | none=>rfl
 | some j=>rfl
theorem JX(ps:List Pc)(q:Nat):∀S:List (List Nat),(∀s∈S,s≠[])->rN ps (pK ps S q)=mR (oF ps q) (rN ps S)
 | [],_=>rfl
 | s::S,h=>by
  have d:=h s (by simp);have a:=JX ps q S λx b=>h x (by simp[b])
  rw[Th];have e:(((s.map (oF ps)).reverse).headD (0,0)).2=(cu ps (s.getLastD 0)).r:=by
   rw[List.headD_eq_head?_getD,List.head?_reverse,List.getLast?_map,List.getLastD_eq_getLast?,List.getLast?_eq_some_getLast d];rfl
  have f:rN ps (s::S)=(s.map (oF ps)).reverse::rN ps S:=rfl;rw[f];unfold mR;rw[e];unfold pL;by_cases c:(cu ps (s.getLastD 0)).r<(cu ps q).l
  .rw[if_pos (by simpa using c),if_pos (show(cu ps (s.getLastD 0)).r<(oF ps q).1 from c)];unfold rN;rw[av,aI,List.reverse_append];rfl
  rw[if_neg (by simpa using c),if_neg (show ¬(cu ps (s.getLastD 0)).r<(oF ps q).1 from c),<-a];rfl
theorem Tg(ps:List Pc)(e:∀q,(cu ps q).l<=(cu ps q).r)(g:List Nat)(c:g.Pairwise λx y=>(cu ps x).l<=(cu ps y).l):Gd (g.map (oF ps)) (rN ps (jA ps g)):=by
 have:∀i,i<=g.length->Gd ((g.take i).map (oF ps)) (rN ps (jA ps (g.take i))):=by
  intro i;induction i with
  | zero=>intro _;show⟨λs c=>(by cases c),by simp[jA,rN],λx a=>(by cases a),.inl rfl⟩
  | succ i d=>
   intro m;have f:=d (by ext);have hg:g[i]?=some g[i]:=ag (by ext);rw[FE hg,JX ps _ _ (vx ps (g.take i)).ne,aQ,hg];show Gd ((g.take i++[g[i]]).map (oF ps)) _;rw[aI];show f.put (e g[i]) λb hb=>?_
   obtain⟨x,a,rfl⟩:=aB.mp hb;obtain⟨j,k,rfl⟩:=List.mem_take_iff_getElem.mp a;show bT.mp c j i (by ext) (by ext) (by ext)
 have h:=this g.length (au _);rwa [bo] at h
theorem JF(ps:List Pc)(g:List Nat)(c:Int):(g.map (oF ps)).countP (hits c)=(g.map (cu ps)).countP (ud c):=by
 rw[List.countP_map,List.countP_map];rfl
theorem Vw(ps:List Pc)(d:∀q,(cu ps q).l<=(cu ps q).r)(g:List Nat)(h:g.Pairwise λx y=>(cu ps x).l<=(cu ps y).l):((jA ps g).length:Int)=wL (g.map (cu ps)):=by
 obtain⟨e,a⟩:=(Tg ps d g h).count;have f:(rN ps (jA ps g)).length=(jA ps g).length:=by unfold rN;rw[af]
 cases g with
 | nil=>rfl
 | cons c g'=>
  rw[f] at a;rcases a with a | ⟨p,j,a⟩
  .have:=e (oF ps c).1;rw[a] at this;have k:hits (oF ps c).1 (oF ps c)=true:=by
    simp only[hits,bj,a9];show⟨Int.le_refl _,d c⟩
   rw[av,List.countP_cons,k] at this;simp at this
  show KQ ?_ λb hb=>?_
  .obtain⟨q,i,rfl⟩:=aB.mp j;unfold rX;rw[aF];show aB.mpr ⟨q,i,?_⟩;rw[a,JF];rfl
  obtain⟨p,_,rfl⟩:=aB.mp hb;have:=e p.l;rw[JF,f] at this;ext
theorem Qw(ps:List Pc)(e:∀q,(cu ps q).l<=(cu ps q).r)(a:List (List Nat))(hg:∀g∈a,wD ps g):(mS ps a).2=uO ps a:=by
 unfold mS;rw[LB,KR];show(0:Int)+_=_;rw[Int.zero_add];unfold uO;induction a with
 | nil=>rfl
 | cons g a c=>
  have go:=hg g (by simp);rw[List.flatMap_cons,aI,Vx,c λx d=>hg x (by simp[d]),av,List.sum_cons];congr 1
  rw[<-Vw ps e g go.so];show LC _ _ _ λs b=>?_
  show go.kk _ ((vx ps g).mem s b _ (E7 ((vx ps g).ne s b)))
end Wc
open PySem L2 PyProof.Rows Wc
local macro_rules | `(tactic| walk_at"px")=>`(tactic| (repeat(first | walk_at"b" | simp only[wJ])))
namespace Wc
open PySem L2 PyProof.Rows
structure oO(ws:List Str)(p:Pc):Prop where
 nm:p.n=none\/∃w∈ws,p.n=some w
 l0:-1<=p.l
 lr:p.l<=p.r
 r1:p.r<=40
 k0:1<=p.k
 k1:p.k<=3
def y8:eJ:=λds Q=>∃(ws:List Str)(s:Int)(cells:List Int)(pl:Bool),ds=[dS ws,.int s,dI cells,.bl pl]/\ws.length=8/\cells.length<=5000/\∀ps:List Pc,ps.length=cells.length->(∀p∈ps,oO ws p)->Q (.ow (ps.map ee))
def Fz:TX:=(cF (gM 4 (og cC))
 (cF (jM (wQ (cm (b8 2) cC)) (lJ 2 (gy (dM 5) (gy (dM 6) ko))) (cF (fq 7 (e8 2 sG (cm (b8 6) (cm (b8 5) cC))))
 (cF (fq 8 (cg (oI (λ_ j=>0<j) λi j=>.int (i%j)) (b8 7) (dC (.int 9))))
 (cF (fq 9 (cg (oI (λ_ j=>0<j) λi j=>.int (i%j)) (cg (oI kq λi j=>.int (i/j)) (b8 7) (dC (.int 9))) (cg de (og (cm (dC (.int 12)) (cm (dC (.int 41)) cC))) (cg (oI (λ_ j=>0<j) λi j=>.int (i%j)) (cg (oI kq λi j=>.int (i/j)) (b8 7) (dC (.int 500))) (dC (.int 2))))))
 (cF (fq 10 (gf wJ (cm (dC (.int 40)) (cm (cg gZ (b8 9) (cg (oI (λ_ j=>0<j) λi j=>.int (i%j)) (e8 2 sG (cm (b8 6) (cm (cg gZ (b8 5) (dC (.int 80))) cC))) (cg de (og (cm (dC (.int 2)) (cm (dC (.int 6)) (cm (dC (.int 41)) cC)))) (cg (oI (λ_ j=>0<j) λi j=>.int (i%j)) (cg (oI kq λi j=>.int (i/j)) (b8 7) (dC (.int 1000))) (dC (.int 3)))))) cC))))
 (cF (fq 11 (dC (.int 1)))
 (cF (iw (r8 (eR (b8 3))) (fq 11 (cg gZ (dC (.int 1)) (cg (oI (λ_ j=>0<j) λi j=>.int (i%j)) (e8 2 sG (cm (cg gZ (b8 1) (cg (oI je λi j=>.int (i*j)) (cg (oI kq λi j=>.int (i/j)) (b8 8) (dC (.int 8))) (b8 5))) (cm (cg gZ (b8 8) (dC (.int 7))) cC))) (dC (.int 3))))) jf)
 (iw (eR (cg oEq (b8 8) (dC (.int 8)))) (n8 4 (pR (cm (dC .non) (cm (b8 9) (cm (b8 10) (cm (b8 11) cC)))))) (n8 4 (pR (cm (cg de (b8 0) (b8 8)) (cm (cg (ji λi j=>.int (i-j)) (b8 9) (cg (oI (λ_ j=>0<j) λi j=>.int (i%j)) (cg (oI kq λi j=>.int (i/j)) (b8 7) (dC (.int 3000))) (dC (.int 2)))) (cm (b8 10) (cm (b8 11) cC))))))))))))))
 (lO 4)))
theorem JW(ps:List Pc)(n:Option Str)(l r k:Int):ps.map ee++[.tup [dO n,.int l,.int r,.int k]]=(ps++[Pc.mk n l r k]).map ee:=by rw[aI];rfl
theorem WB:jl 4 y8 Fz ["_law_words","_law_seed","_law_cells","_law_plain","_law_pieces","_law_k","_law_cell","_law_one","_law_net","_law_first","_law_last","_law_wide"]:=by
 intro ds v hl h;obtain⟨ws,s,cells,pl,rfl,hw,U,q⟩:=h;show Fz _ [.fz (dS ws),.fz (.int s),.fz (dI cells),.fz (.bl pl),.un,.un,.un,.un,.un,.un,.un,.un];unfold Fz dI dS;have big:=jX;walk_at"px";show⟨bc _,?_⟩;walk_at"go";show Fg cells D.int (λY h=>?_) (λi r=>∃(ps:List Pc)(a b c d e f g:Sl),r=[.fz (.lst (ws.map .str)),.fz (.int s),.fz (.lst (cells.map .int)),.fz (.bl pl),.ow (ps.map ee),a,b,c,d,e,f,g]/\ps.length=i/\∀p∈ps,oO ws p) ⟨[],_,_,_,_,_,_,_,rfl,rfl,λp u=>(by cases u)⟩ ?_ ?_
 .walk_at"px";show h
 .rintro i cell r M ⟨ps,a,b,c,d,e,f,g,rfl,hl,ok⟩;have Z:i<cells.length:=(ah.mp M).1;walk_at"px";show⟨cell,(i:Int),rfl,by ext,by ext,?_⟩;have o0:=Ea cell (i:Int);generalize n4 cell (i:Int)=one at o0;walk_at"go";have E:=bx one (show(9:Int)≠0 by decide);have J:=bu one (show(0:Int)<9 by decide);generalize X:one%9=o at E J;walk_at"go";obtain⟨z,hz,O⟩:=Ji (n:=2) (l:=([12,41]:List Int)) (one/500) (by simp) (by decide);have I:di ([12,41]:List Int) (one/500%2)=some z:=hz;have N:di (([12,41]:List Int).map D.int) (one/500%2)=some (.int z):=by rw[rD,I];rfl
  show⟨by ext,.int z,N,?_⟩;have W:z=12\/z=41:=by simpa using O
  simp only[];show⟨by ext,?_⟩;have f0:=bx (one/9) (show z≠0 by ext);have f1:=bu (one/9) (show(0:Int)<z by ext);generalize one/9%z=first at f0 f1;walk_at"go";obtain⟨y,K,T⟩:=Ji (n:=3) (l:=([2,6,41]:List Int)) (one/1000) (by simp) (by decide);have S:di ([2,6,41]:List Int) (one/1000%3)=some y:=K;have Q:di (([2,6,41]:List Int).map D.int) (one/1000%3)=some (.int y):=by rw[rD,S];rfl
  have V:y=2\/y=6\/y=41:=by simpa using T
  show⟨cell,(i:Int)+80,rfl,by ext,by ext,by ext,.int y,Q,?_⟩;simp only[rq];show⟨by ext,?_⟩;have m0:=bx (n4 cell ((i:Int)+80)) (show y≠0 by ext);generalize n4 cell ((i:Int)+80)%y=m at m0;have H:first<=(if first+m<40 then first+m else 40):=by split<;>ext
  have w:(if first+m<40 then first+m else 40)<=40:=by split<;>ext
  generalize (if first+m<40 then first+m else 40)=last at H w
  have key:∀(wide:Int),1<=wide->wide<=3->mQ (iw (eR (cg oEq (b8 8) (dC (D.int 8))))
           (n8 4 (pR (cm (dC D.non) (cm (b8 9) (cm (b8 10) (cm (b8 11) cC))))))
           (n8 4
            (pR
             (cm (cg de (b8 0) (b8 8))
              (cm
               (cg (ji λi j=>D.int (i-j)) (b8 9)
                (cg (oI (λx j=>0<j) λi j=>D.int (i%j))
                 (cg (oI kq λi j=>D.int (i/j)) (b8 7) (dC (D.int 3000))) (dC (D.int 2))))
               (cm (b8 10) (cm (b8 11) cC))))))) {
         nx:=λr=>
          ∃(ps:List Pc)(a b c d e f g:Sl),
           r =
             [Sl.fz (D.lst (List.map D.str ws)),Sl.fz (D.int s),Sl.fz (D.lst (List.map D.int cells)),
              Sl.fz (D.bl pl),Sl.ow (List.map ee ps),a,b,c,d,e,f,g]/\
            ps.length=i+1/\∀(p:Pc),p∈ps->oO ws p,
         rt:=v,bk:=lO 4 { nx:=λx=>v (R.fz D.non),rt:=v },
         ct:=λr=>
          ∃(ps:List Pc)(a b c d e f g:Sl),
           r =
             [Sl.fz (D.lst (List.map D.str ws)),Sl.fz (D.int s),Sl.fz (D.lst (List.map D.int cells)),
              Sl.fz (D.bl pl),Sl.ow (List.map ee ps),a,b,c,d,e,f,g]/\
            ps.length=i+1/\∀(p:Pc),p∈ps->oO ws p }
        [Sl.fz (D.lst (List.map D.str ws)),Sl.fz (D.int s),Sl.fz (D.lst (List.map D.int cells)),
         Sl.fz (D.bl pl),Sl.ow (List.map ee ps),Sl.fz (D.int ↑i),Sl.fz (D.int cell),Sl.fz (D.int one),
         Sl.fz (D.int o),Sl.fz (D.int first),Sl.fz (D.int last),Sl.fz (.int wide)]:=by
   intro wide C B
   have more:∀p,oO ws p->∃(A:List Pc)(a b c d e f g:Sl),[Sl.fz (D.lst (List.map D.str ws)),Sl.fz (D.int s),Sl.fz (D.lst (List.map D.int cells)),
         Sl.fz (D.bl pl),Sl.ow (List.map ee (ps++[p])),Sl.fz (D.int ↑i),Sl.fz (D.int cell),Sl.fz (D.int one),
         Sl.fz (D.int o),Sl.fz (D.int first),Sl.fz (D.int last),Sl.fz (.int wide)]=[Sl.fz (D.lst (List.map D.str ws)),Sl.fz (D.int s),Sl.fz (D.lst (List.map D.int cells)),
              Sl.fz (D.bl pl),Sl.ow (List.map ee A),a,b,c,d,e,f,g]/\
            A.length=i+1/\∀(p:Pc),p∈A->oO ws p:=λp u=>by
    show⟨ps++[p],_,_,_,_,_,_,_,rfl,by rw[aL,hl];rfl,λx t=>?_⟩;rcases aC.mp t with t | t
    .exact ok x t
    simp at t;subst t;show u
   walk_at"go";by_cases F:o=8
   .rw[if_pos F];show⟨by ext,by rw[af];ext,?_⟩;rw[show [D.tup [D.non,D.int first,D.int last,D.int wide]]=[D.tup [dO none,D.int first,D.int last,D.int wide]] from rfl,JW];show more _ ⟨.inl rfl,by show -1<=first;ext,H,w,C,B⟩
   rw[if_neg F];obtain⟨L,P⟩:=vp (l:=ws) (i:=o) E (by ext);show⟨_,P,by ext,by rw[af];ext,?_⟩;rw[show ∀(x:Str)(l:Int),[D.tup [D.str x,D.int l,D.int last,D.int wide]]=[D.tup [dO (some x),D.int l,D.int last,D.int wide]] from λ_ _=>rfl,JW];show more _ ⟨.inr ⟨_,bJ L,rfl⟩,by show -1<=first-one/3000%2;ext,by show first-one/3000%2<=last;ext,w,C,B⟩
  walk_at"go";walk_at"go";cases pl with
  | true=>
   simp only[bF,ar,aU];show key 1 (by decide) (by decide)
  | false=>
   simp only[Bool.not_false,br];show⟨.inl (by ext),_,_,rfl,by ext,by ext,?_⟩;simp only[rq];show⟨by decide,?_⟩;have t0:=bx (n4 (s+o/8*(i:Int)) (o+7)) (show(3:Int)≠0 by decide);have t1:=bu (n4 (s+o/8*(i:Int)) (o+7)) (show(0:Int)<3 by decide);show key _ (by ext) (by ext)
 rintro r ⟨ps,a,b,c,d,e,f,g,rfl,hl,ok⟩;walk_at"go";show q ps hl ok
def yZ:eJ:=λds Q=>∃i:Int,ds=[.int i]/\Q (.fz (.bl true))
def FY:TX:=(gJ (oY (oW "int" (b8 0)) (yd (oW "bool" (b8 0)))))
theorem VY:jl 1 yZ FY ["_law_found"]:=by
 intro ds b hl h;obtain⟨i,rfl,q⟩:=h;show FY _ [.fz (.int i)];unfold FY;walk_at"px";simp only[JH,JI,mB,true_and,Bool.not_false,br];show q
end Wc
open PySem L2 PyProof.Rows Wc
local macro_rules | `(tactic| walk_at"px")=>`(tactic| (repeat(first | walk_at"b" | simp only[Cy,Cw,wW,yB,yq,By])))
namespace Wc
open PySem L2 PyProof.Rows
def tU:Nat->D->Prop
 | 0,_=>False
 | n+1,.lst ds=>ds.length<=100000/\∀d∈ds,tU n d
 | n+1,.tup ds=>ds.length<=100000/\∀d∈ds,tU n d
 | _+1,.int _=>True
 | _+1,.str _=>True
 | _+1,.non=>True
 | _+1,_=>False
def pd:Nat->eJ
 | 0=>λ_ _=>False
 | n+1=>λds Q=>∃d,ds=[d,d]/\tU (n+1) d/\Q (.fz (.bl true))
def sH:eJ:=pd 6
def CC(sH:eJ):TX:=(cF (iw (eR (By "list" "tuple" (b8 1))) (cF (iw (tH (r8 (eR (By "list" "tuple" (b8 0)))) (eR (cg ue (oW "list" (b8 0)) (oW "list" (b8 1))))) (gJ (dC (.bl false))) jf)
 (gJ (oY (cg oEq (gf pO (cm (b8 0) cC)) (gf pO (cm (b8 1) cC))) (gf rl (cm (hU (yq (cm (b8 0) (cm (b8 1) cC))) [none,none] (lJ 2 (gy (dM 0) (gy (dM 1) ko))) jk (e8 2 sH (cm (b8 0) (cm (b8 1) cC)))) cC))))) jf)
 (cF (iw (eR (oW "str" (b8 1))) (gJ (oY (oW "str" (b8 0)) (cg oEq (b8 0) (b8 1)))) jf)
 (cF (iw (eR (cg (pS false) (b8 1) (dC .non))) (gJ (cg (pS false) (b8 0) (dC .non))) jf)
 (gJ (oY (oW "int" (b8 0)) (oY (yd (oW "bool" (b8 0))) (cg oEq (b8 0) (b8 1))))))))
theorem Oj:fF (jP .non) "str"=false:=by show fF "NoneType" "str"=false;decide
theorem Oi:fF (jP .non) "list"=false:=by show fF "NoneType" "list"=false;decide
theorem Oh:fF (jP .non) "tuple"=false:=by show fF "NoneType" "tuple"=false;decide
theorem Og(i:Int):fF (jP (.int i)) "str"=false:=by show fF "int" "str"=false;decide
theorem Of(i:Int):fF (jP (.int i)) "list"=false:=by show fF "int" "list"=false;decide
theorem Oe(i:Int):fF (jP (.int i)) "tuple"=false:=by show fF "int" "tuple"=false;decide
theorem Od(x:Str):fF (jP (.str x)) "tuple"=false:=by show fF "str" "tuple"=false;decide
theorem Tf(ds:List D):n6 ds ds=ds.map λd=>.tup [d,d]:=by
 unfold n6;induction ds with
 | nil=>rfl
 | cons a r b=>rw[List.zipWith_cons_cons,b];rfl
theorem K9{n:Nat}(ds:List D)(h:∀d∈ds,tU n d)(Q:R->Prop)(hl:ds.length<=100000)(b:Ev)(f g:D)(i:f=.lst ds\/f=.tup ds)(j:b=[.fz f,.fz f])(hn:n=0->ds=[])(q:Q (.fz (.bl true))) :
  gf rl (cm (hU (yq (cm (b8 0) (cm (b8 1) cC))) [none,none] (lJ 2 (gy (dM 0) (gy (dM 1) ko))) jk (e8 2 (pd n) (cm (b8 0) (cm (b8 1) cC)))) cC) b Q:=by
 subst j;have big:=jX;have key:∀(x:D),x=.lst ds\/x=.tup ds->gf rl (cm (hU (yq (cm (b8 0) (cm (b8 1) cC))) [none,none] (lJ 2 (gy (dM 0) (gy (dM 1) ko))) jk (e8 2 (pd n) (cm (b8 0) (cm (b8 1) cC)))) cC) [.fz x,.fz x] Q:=λx e=>by
  simp only[gf,cm,cC];show lT ds (λd=>.tup [d,d]) (λ_=>.bl true) (λm h'=>?_) (by ext) (λd hd o k=>?_) ?_
  .rcases e with rfl | rfl<;>(walk_at"px";rw[Tf];show h')
  .walk_at"px";cases n with
   | zero=>rw[hn rfl] at hd;cases hd
   | succ n=>show⟨d,rfl,h d hd,k⟩
  rw[show(ds.map λ_=>D.bl true)=(ds.map λ_=>true).map D.bl by rw[aF];rfl];simp only[wX,rl,Lx];rw[show(ds.map λ_=>true).all id=true by simp];show q
 show key f i
theorem xB(j:Nat){a b:Str}(ds:List D)(m:R->Prop)(hl:ds.length=2)(h:pd (j+1) ds m):CC (pd j) { nx:=λ_=>m (.fz .non),rt:=m } (pZ [a,b] ds):=by
 obtain⟨d,rfl,f,q⟩:=h;show CC _ _ [.fz d,.fz d];unfold CC;have n:∀ds:List D,(∀d∈ds,tU j d)->j=0->ds=[]:=λds h o=>by
  subst o;cases ds with
  | nil=>rfl
  | cons a r=>show absurd (h a (by simp)) (by simp[tU])
 cases d with
 | lst e=>
  obtain⟨hlen,g⟩:=(show e.length<=100000/\∀d∈e,tU j d from f)
  walk_at"px";simp only[JJ,PV,mB,Bool.true_or,true_and,br,bF,ar,aU,dD,decide_true,BEq.rfl];walk_at"go";show K9 e g _ hlen _ _ (.lst e) (.inl rfl) rfl (n e g) q
 | tup e=>
  obtain⟨hlen,g⟩:=(show e.length<=100000/\∀d∈e,tU j d from f)
  walk_at"px";simp only[PY,JK,mB,Bool.or_true,true_and,br,bF,ar,aU,dD,decide_true,BEq.rfl];walk_at"go";show K9 e g _ hlen _ _ (.tup e) (.inr rfl) rfl (n e g) q
 | int i=>
  walk_at"px";simp only[Of,Oe,mB,Bool.or_false,true_and,ar,aU];walk_at"go";simp only[Og,mB,Bool.or_false,true_and,ar,aU];walk_at"go";walk_at"go";simp only[JH,JI,mB,true_and,br,Bool.not_false,JS,decide_true];show q
 | str x=>
  walk_at"px";simp only[PR,Od,mB,Bool.or_false,true_and,ar,aU];walk_at"go";simp only[PU,mB,true_and,br];show q
 | non=>
  walk_at"px";simp only[Oi,Oh,mB,Bool.or_false,true_and,ar,aU];walk_at"go";simp only[Oj,mB,true_and,ar,aU];walk_at"go";show q
 | bl b=>show f.elim
 | obj c fs=>show f.elim
 | dic kvs=>show f.elim
 | dit kvs=>show f.elim
 | exc c fs=>show f.elim
end Wc
open PySem L2 PyProof.Rows Wc
local macro_rules | `(tactic| walk_at"px")=>`(tactic| (repeat(first | walk_at"b" | simp only[pT,pY,uW,o6,tO,pW,mw,n5,o3,tQ,oV,tP,pU,lO])))
namespace Wc
open PySem L2 PyProof.Rows
theorem Qv{d:D}{ds:List D}(h:d∈ds)(ok:eI 8 d):inD d ds=true:=by
 unfold inD;rw[List.any_eq_true];show⟨d,h,xt 8 d ok⟩
def xA:eJ:=λds Q=>∃(a rs:List Tr),ds=[.lst (rs.map dT),jb a]/\gn a rs/\rs.length<=100000/\Q (.fz (.bl true))
def FT:TX:=(cF (iw (tH (r8 (eR (oW "list" (b8 0)))) (eR (cg oEq (gf pO (cm (b8 0) cC)) (dC (.int 0))))) (gJ (dC (.bl false))) jf)
 (cF (gM 2 pW)
 (cF (jM (wQ (cm (b8 0) cC)) (lJ 2 (gy (dM 3) (gy (dM 4) ko))) (cF (fq 5 (cg de (b8 0) (cg (oI (λ_ j=>0<j) λi j=>.int (i%j)) (cg gZ (b8 3) (dC (.int 1))) (gf pO (cm (b8 0) cC)))))
 (cF (iw (tH (r8 (eR (oW "tuple" (b8 4)))) (r8 (eR (gf rl (cm (hU (iD (b8 4)) [none] (dM 0) jk (e8 1 yZ (cm (b8 0) cC))) cC))))) (gJ (dC (.bl false))) jf)
 (cF (iw (tH (eR (cg (Bp true) (b8 4) (b8 1))) (tH (eR (cg ue (cg de (b8 4) (dC (.int 1))) (cg de (b8 5) (dC (.int 0))))) (si 2 (eR (cg (n5 false) (cg de (b8 4) (dC (.int 0))) (b8 2)))))) (gJ (dC (.bl false))) jf)
 (oV 2 (cg de (b8 4) (dC (.int 0))) (dC (.bl true)))))))
 (gJ (dC (.bl true))))))
theorem WK:jl 2 xA FT ["_law_ring","_law_above","_law_seen","_law_k","_law_triple","_law_after"]:=by
 intro ds K hl h;obtain⟨d,rs,rfl,r,hlen,q⟩:=h;show FT _ [.fz (.lst (rs.map dT)),.fz (jb d),.un,.un,.un,.un];unfold FT jb;have big:=jX;have v:0<rs.length:=List.length_pos_iff.mpr r.ne;walk_at"px";simp only[JJ,mB,true_and,bF,ar,aU,af];rw[if_neg (by ext)];walk_at"go";walk_at"go";show Fg rs dT (λH h=>?_) (λi f=>∃a b c:Sl,f=[.fz (.lst (rs.map dT)),.fz (.lst (d.map dT)),.ov (.dc (dA D.bl ((rs.take i).map λt=>(t.1,true)))),a,b,c]) ⟨_,_,_,rfl⟩ ?_ ?_
 .walk_at"px";show h
 .rintro i t f ht ⟨a,b,c,rfl⟩;have J:i<rs.length:=(ah.mp ht).1;have hm:(i+1)%rs.length<rs.length:=Nat.mod_lt _ v;have C:rs.take (i+1)=rs.take i++[t]:=by rw[aQ,ht];rfl
  have p:=r.Ny i t rs[(i+1)%rs.length] ht (ag hm);generalize E:rs[(i+1)%rs.length]=t' at p;walk_at"px";rw[af];have w:((i:Int)+1)%(rs.length:Int)=(((i+1)%rs.length:Nat):Int):=rfl;rw[w];show⟨by ext,t',by rw[mU hm,E],?_⟩;have s:eI 8 (dT t):=D9 7 t;have F:∀e∈d.map dT,eI 8 e:=λe he=>by
   rw[aB] at he;obtain⟨x,_,rfl⟩:=he;show D9 7 x
  have I:inD (dT t) (d.map dT)=true:=Qv (aX (r.sub t (aw ht))) s;have u:mB (dT t)=true/\fF (jP (dT t)) "tuple"=true:=⟨rfl,JK _⟩
  walk_at"go";simp only[u,true_and,bF,ar,aU];show lT [D.int t.1,D.int t.2.1,D.int t.2.2] id (λ_=>.bl true) (λH h=>?_) (by simp;ext) (λx m L k=>?_) ?_
  .walk_at"px";show h
  .walk_at"px";simp only[aj,aS,or_false] at m;rcases m with rfl | rfl | rfl<;>show⟨_,rfl,k⟩
  walk_at"px";simp only[rl,lN,aJ,List.all_cons,List.all_nil,id,Bool.and_self,bF,ar,aU];walk_at"go";simp only[I,bF,ar,aU];show⟨s,F,?_⟩;simp only[dT];show⟨_,rfl,_,rfl,?_⟩;walk_at"px";simp only[p,decide_true,bF,ar,aU];show⟨_,rfl,?_⟩;simp only[OV.val];show⟨_,rfl,?_⟩;have g:fE ((rs.take i).map λt=>(t.1,true)) t.1=none:=by
   cases hg:fE ((rs.take i).map λt=>(t.1,true)) t.1 with
   | none=>rfl
   | some x=>
    have:=(yV ((rs.take i).map λt=>(t.1,true)) t.1).mp (by rw[hg];rfl);rw[aF,aB] at this;obtain⟨y,z,e⟩:=this;obtain⟨j,A,o⟩:=List.getElem_of_mem z;rw[aO] at A;rw[List.getElem_take] at o;have n:=bT.mp r.nd j i (by rw[af];ext) (by rw[af];ext) (by ext);rw[List.getElem_map,List.getElem_map,o,(ah.mp ht).2] at n;show absurd e n
  rw[vf,g];simp only[Option.map_none,Option.isSome_none,ar,aU];walk_at"go";show⟨_,rfl,_,rfl,by unfold dA;rw[af,af,aO];ext,?_⟩;have B:pN (dA D.bl ((rs.take i).map λt=>(t.1,true))) (.inl (t.1:Int)) (.bl true)=dA D.bl ((rs.take (i+1)).map λt=>(t.1,true)):=by
   rw[BW,C,aI];unfold oZ;rw[EO,g];rfl
  rw[B];show⟨_,_,_,rfl⟩
 rintro f ⟨a,b,c,rfl⟩;walk_at"go";show q
theorem EZ{i:Type}{r:i->i->Prop}(g:∀a b,r a b->r b a->False):∀{l j:List i},l.Pairwise r->j.Pairwise r->(∀x,x∈l↔x∈j)->l=j
 | [],[],_,_,_=>rfl
 | [],b::t',_,_,h=>absurd ((h b).mpr aT) (by simp)
 | a::t,[],_,_,h=>absurd ((h a).mp aT) (by simp)
 | a::t,b::t',f,d,h=>by
  rw[List.pairwise_cons] at f d;have e:a=b:=by
   rcases aj.mp ((h a).mp aT) with e | e
   .exact e
   rcases aj.mp ((h b).mpr aT) with k | k
   .exact k.symm
   show(g _ _ (f.1 b k) (d.1 a e)).elim
  subst e;rw[EZ g f.2 d.2 λx=>⟨λc=>?_,λc=>?_⟩]
  .rcases aj.mp ((h x).mp (ax _ c)) with e | e
   .subst e;show(g _ _ (f.1 x c) (f.1 x c)).elim
   show e
  rcases aj.mp ((h x).mpr (ax _ c)) with e | e
  .subst e;show(g _ _ (d.1 x c) (d.1 x c)).elim
  show e
theorem JE{a b:List Int}(h:HT.cf a b=true)(c:HT.cf b a=true):False:=by
 rw[HT.i6 _ _ h] at c;cases c
theorem eC.uniq{ps:List Pc}{o o':List Nat}(h:eC ps o)(h':eC ps o'):o=o':=EZ (λ_ _ b a=>JE b a) h.mY h'.mY λx=>by rw[h.mem,h'.mem]
theorem lF.uniq{ps:List Pc}{b:List Int}{o:List Nat}{ks a:List (List Int)}(h:lF ps b o ks)(h':lF ps b o a):ks=a:=EZ (λ_ _ d c=>JE d c) h.mY h'.mY λx=>by rw[h.mem,h'.mem]
theorem BU{n:Nat}{f:List Tr}{d:List Int}(h:eW n f d){q:Nat}(g:q<n):(∀t∈f,t.2.1=q->gK d t.1+1<=gK d q)/\((gK d q=0/\∀t∈f,t.2.1≠q)\/∃t∈f,t.2.1=q/\gK d t.1=gK d q-1):=by
 have e:d[q]?=some (gK d q):=by rw[wU (by rw[h.1];show g),ag]
 obtain⟨k,j⟩:=h.2 q g _ e;show⟨λt ht e=>?_,j.imp id λ⟨t,a,b,c⟩=>⟨t,a,b,by unfold gK at c ⊢;rw[c];rfl⟩⟩;obtain⟨i,a,b⟩:=k t ht e;have:gK d t.1=i:=by unfold gK;rw[a];rfl
 ext
theorem BZ{n:Nat}{a:List Tr}{b:List Int}(v:kY n a)(h:eW n a b):Ord n a:=⟨gK b,λt ht=>by have:=(BU h (v t ht).2).1 t ht rfl;ext⟩
theorem JV{n:Nat}{e:List Tr}{d:List Int}(v:kY n e)(h:eW n e d){q:Nat}(g:q<n):0<=gK d q:=by
 obtain⟨m,hm,f⟩:=BV (gK d) (List.range n) (by intro z;rw[List.range_eq_nil] at z;ext);have:=f q (aR.mpr g);rcases(BU h (aR.mp hm)).2 with⟨h0,_⟩ | ⟨t,a,b,c⟩
 .omega
 have:=f t.1 (aR.mpr (v t a).1);ext
theorem Oc{n:Nat}{d:List Tr}{b f:List Int}(v:kY n d)(h:eW n d b)(h':eW n d f):∀(m q:Nat),q<n->gK b q=(m:Int)->gK f q=gK b q:=by
 intro m;induction m using Nat.strongRecOn with
 | ind m l=>
  intro q g e;obtain⟨a1,a2⟩:=BU h g;obtain⟨o,j⟩:=BU h' g;have step:∀t∈d,t.2.1=q->gK f t.1=gK b t.1:=λt ht a=>by
   have s:=a1 t ht a;have r:=JV v h (v t ht).1;show l (gK b t.1).toNat (by ext) t.1 (v t ht).1 (by ext)
  rcases a2 with⟨z,no⟩ | ⟨t,ht,a,c⟩
  .rcases j with⟨p,_⟩ | ⟨t,ht,a,_⟩
   .omega
   show absurd a (no t ht)
  have:=o t ht a;have:=step t ht a;rcases j with⟨_,no⟩ | ⟨t',i,k,u⟩
  .exact absurd a (no t ht)
  have:=a1 t' i k;have:=step t' i k;ext
theorem eW.uniq{n:Nat}{a:List Tr}{b c:List Int}(v:kY n a)(h:eW n a b)(h':eW n a c):b=c:=by
 apply List.ext_getElem
 .rw[h.1,h'.1]
 intro i e f;have d:i<n:=by rw[<-h.1];show e
 have p:=JV v h d;have:=Oc v h h' (gK b i).toNat i d (by ext);rw[wU e,wU f] at this;show this.symm
theorem JU{n:Nat}{b a:List Tr}(o:Ord n b)(r:gn b a):False:=by
 obtain⟨f,hf⟩:=o;have j:0<a.length:=List.length_pos_iff.mpr r.ne;obtain⟨m,hm,p⟩:=BV (λi=>- f (a[i]?.getD (0,0,0)).1) (List.range a.length) (by intro z;rw[List.range_eq_nil] at z;ext);have d:m<a.length:=aR.mp hm;have e:(m+1)%a.length<a.length:=Nat.mod_lt _ j;have h:a[m]?=some a[m]:=ag d;have g:a[(m+1)%a.length]?=some a[(m+1)%a.length]:=ag e;have c:=r.Ny m _ _ h g;have l:=p _ (aR.mpr e);simp only[h,g,Option.getD_some] at l;have k:=hf _ (r.sub _ (bJ d));rw[c] at k;ext
theorem R9{l b:List Nat}(h:∀u,u∈l↔u∈b)(p:Nat->Bool):l.all p=b.all p:=by
 rw[Bool.eq_iff_iff,List.all_eq_true,List.all_eq_true];show⟨λz x a=>z x ((h x).mpr a),λz x a=>z x ((h x).mp a)⟩
theorem K8{ps:List Pc}{us us':Nat->List Nat}{ord:List Nat}(h:∀q∈ord,∀u,u∈us q↔u∈us' q):∀m,gE ps us ord m=gE ps us' ord m
 | 0=>rfl
 | m+1=>by
  have ok:∀q∈ord,∀(pl:List Pl)(t:Int),pw ps us pl t q=pw ps us' pl t q:=λq b pl t=>by
   unfold pw;rw[R9 (h q b)]
  have e:∀(l:List Nat)(t:Int)(pl:List Pl),(∀q∈l,q∈ord)->l.foldl (gi ps us t) pl=l.foldl (gi ps us' t) pl:=by
   intro l t;induction l with
   | nil=>intro pl _;rfl
   | cons a r d=>
    intro pl c;rw[bI,bI,d _ λq b=>c q (ax _ b)];congr 1
    unfold gi;rw[ok a (c a aT)]
  show row ps us ord m (gE ps us ord m)=row ps us' ord m (gE ps us' ord m);rw[K8 h m];show e _ _ _ λq b=>(aN.mp b).1
theorem iB.uniq{ps:List Pc}{c:List Tr}{tr e:List Int}(h:iB ps c tr)(h':iB ps c e):tr=e:=by
 obtain⟨us,ord,a,b,rfl⟩:=h;obtain⟨us',i,g,f,rfl⟩:=h';obtain rfl:=b.uniq f;rw[K8 (us':=us') λq d u=>by rw[a q ((b.mem q).mp d),g q ((b.mem q).mp d)]]
theorem iB.len{ps:List Pc}{a:List Tr}{tr:List Int}(h:iB ps a tr):tr.length=ps.length:=by
 obtain⟨us,ord,_,_,rfl⟩:=h;simp
end Wc
open PySem L2 PyProof.Rows Wc
local macro_rules | `(tactic| walk_at"px")=>`(tactic| (repeat(first | walk_at"b" | simp only[pT,pY,gt,Bm,OV.val,B6,Ez,DN,u6,BM,Bz])))
namespace Wc
open PySem L2 PyProof.Rows
noncomputable def yY:lE:=λds Q b=>∃(ps:List Pc)(a:List Tr),ds=[eN ps,jb a]/\ps.length<=63/\a.length<=100000/\kY ps.length a/\(∀ls,eW ps.length a ls->Q (.ow (ls.map .int)))/\∀rs,gn a rs->b "NoOrder" "ring" (.ow (rs.map dT))
def CB(a:XQ):TX:=(cF (gM 2 (e8 2 xi (cm (gf pO (cm (b8 0) cC)) (cm (b8 1) cC))))
 (cF (iw (si 2 (eR (cg oEq (cg de (b8 2) (dC (.int 0))) (dC (.str "ring"))))) (B6 "NoOrder" "ring" a 2) jf)
 (BM 2)))
theorem VX(ds:List D)(d:R->Prop)(b:XQ)(hl:ds.length=2)(h:yY ds d b):CB b { nx:=λ_=>d (.fz .non),rt:=d } (pZ ["pieces","above","rank"] ds):=by
 obtain⟨ps,e,rfl,hn,j,val,g,f⟩:=h;show CB b _ [.fz (eN ps),.fz (jb e),.un];unfold CB;have big:=jX;have i:¬(Str.ofString "levels"=Str.ofString "ring"):=by decide +kernel
 unfold eN;walk_at"px";rw[af];show⟨ps.length,e,rfl,by ext,j,val,λls lv=>?_,λrs r=>?_⟩
 .walk_at"go";show⟨_,rfl,?_⟩;walk_at"px";rw[if_neg i];walk_at"go";show g ls lv
 walk_at"go";show⟨_,rfl,?_⟩;walk_at"px";show f rs r
def JD(ps:List Pc)(a:List Tr)(tr:List Int):Prop:=∃lv rt ord ks,eW ps.length a lv/\iB ps a rt/\eC ps ord/\lF ps lv ord ks/\tr=if (pM ps (mS ps (ks.map (gW ps lv ord))).1).getD 0<(pM ps rt).getD 0 then(mS ps (ks.map (gW ps lv ord))).1 else rt
theorem EG(ps:List Pc)(a:List (List Nat)):(mS ps a).1.length=ps.length:=by unfold mS;rw[Co];simp
noncomputable def yT:lE:=λds Q b=>∃(ps:List Pc)(a:List Tr),ds=[eN ps,jb a]/\ps.length<=63/\a.length<=100000/\kY ps.length a/\(∀p∈ps,1<=p.k/\p.k<=3/\p.l<=p.r)/\(∀tr,JD ps a tr->Q (.ow (tr.map .int)))/\∀rs,gn a rs->b "NoOrder" "ring" (.ow (rs.map dT))
def Cn(a:XQ):TX:=(cF (gM 2 (e8 2 xv (cm (b8 0) (cm (Ez 2 yY a (cm (b8 0) (cm (b8 1) cC))) cC))))
 (cF (gM 3 (e8 2 xx (cm (b8 0) (cm (b8 1) cC))))
 (cF (iw (si 3 (si 2 (eR (cg (ji λi j=>.bl (decide (j<i))) (e8 2 sF (cm (b8 0) (cm (b8 3) cC))) (e8 2 sF (cm (b8 0) (cm (b8 2) cC))))))) (lO 2) jf)
 (lO 3))))
theorem Vm(ds:List D)(g:R->Prop)(f:XQ)(hl:ds.length=2)(h:yT ds g f):Cn f { nx:=λ_=>g (.fz .non),rt:=g } (pZ ["pieces","above","leveled","rowed"] ds):=by
 obtain⟨ps,e,rfl,hn,j,val,b,n,m⟩:=h;show Cn f _ [.fz (eN ps),.fz (jb e),.un,.un];unfold Cn;have big:=jX;walk_at"px";show⟨ps,e,rfl,hn,j,val,λls lv=>?_,m⟩;walk_at"px";show⟨ps,ls,rfl,lv.1,hn,λord ks io o=>?_⟩;walk_at"go";show⟨ps,e,rfl,hn,j,val,BZ val lv,b,λtr i=>?_⟩;walk_at"go";show⟨ps,tr,rfl,i.len,by ext,λp d=>⟨(b p d).1,(b p d).2.1⟩,?_⟩;walk_at"px";show⟨ps,_,rfl,EG _ _,by ext,λp d=>⟨(b p d).1,(b p d).2.1⟩,?_⟩;walk_at"px";have q:=n _ ⟨ls,tr,ord,ks,lv,i,io,o,rfl⟩;split
 .rename_i c;rw[if_pos c] at q;show q
 rename_i c;rw[if_neg c] at q;walk_at"go";show q
def y3:eJ:=λds Q=>∃(ps:List Pc)(a:List Tr),ds=[eN ps,jb a]/\ps.length<=63/\a.length<=100000/\kY ps.length a/\(∀p∈ps,1<=p.k/\p.k<=3/\p.l<=p.r)/\(∀tr,JD ps a tr->Q (.ov (.tl (.bl true) (tr.map .int))))/\∀rs,gn a rs->Q (.ov (.tl (.bl false) (rs.map dT)))
def FO:TX:=(cF (gM 2 (dC .non))
 (cF (gM 3 (dC .non))
 (cF (fq 4 (dC (.bl false)))
 (cF (DN 2 5 3 2 yT (cm (b8 0) (cm (b8 1) cC)) ["NoOrder"] "ring" (fq 4 (oY (u6 "NoOrder" true (b8 5)) (oY (u6 "NoOrder" true (b8 5)) (yd (u6 "NoOrder" false (b8 5)))))))
 (cF (iw (si 2 (eR (cg (pS true) (b8 2) (dC .non)))) (Bz 2 (dC (.bl true))) jf)
 (cF (iw (r8 (eR (b8 4))) (gM 3 (dC .non)) jf)
 (Bz 3 (dC (.bl false)))))))))
theorem WW:jl 2 y3 FO ["_law_pieces","_law_above","_law_found","_law_ring","_law_fine","e"]:=by
 intro ds i hl h;obtain⟨ps,b,rfl,hn,g,val,f,e,d⟩:=h;show FO _ [.fz (eN ps),.fz (jb b),.un,.un,.un,.un];unfold FO;have big:=jX;walk_at"px";walk_at"go";walk_at"go";walk_at"go";show⟨by decide,ps,b,rfl,hn,g,val,f,λtr pt=>?_,λrs r=>?_⟩
 .walk_at"go";show e tr pt
 show⟨by simp,rfl,?_⟩;walk_at"px";walk_at"go";walk_at"go";walk_at"go";show d rs r
end Wc
open PySem L2 PyProof.Rows Wc
local macro_rules | `(tactic| walk_at"px")=>`(tactic| (repeat(first | walk_at"b" | simp only[pT,pY,gt,OV.val,DQ,Eg,Br,BN,DR,kK])))
namespace Wc
open PySem L2 PyProof.Rows
theorem L6{b c:Type}(f:b->c):∀(l:List b)(n:Nat),(l.map f).eraseIdx n=(l.eraseIdx n).map f
 | [],_=>rfl
 | a::r,0=>rfl
 | a::r,n+1=>by show f a::(r.map f).eraseIdx n=_;rw[L6 f r n];rfl
theorem Ur{n:Nat}{b:List Tr}{t:Tr}(h:kY n b)(d:t.1<n)(c:t.2.1<n):kY n (b++[t]):=λx a=>by
 rcases aC.mp a with a | a
 .exact h x a
 simp at a;subst a;show⟨d,c⟩
theorem R8(a:Int){n:Nat}(h:0<n):∃p:Nat,a%(n:Int)=(p:Int)/\p<n:=by
 have b:=bx a (show(n:Int)≠0 by ext);have c:=bu a (show(0:Int)<n by ext);show⟨(a%(n:Int)).toNat,(Int.toNat_of_nonneg b).symm,by ext⟩
theorem R7{n:Nat}{a b:List Tr}(v:kY n a)(r:gn a b):b.length<=n:=by
 have:=xm (ws:=List.range n) r.nd λw hw=>by
  rw[aB] at hw;obtain⟨t,h,rfl⟩:=hw;show aR.mpr (v t (r.sub t h)).1
 simpa using this
def yn:TX:=(cF (fq 1 (cg (oI (λ_ j=>0<j) λi j=>.int (i%j)) (gf yi (cm (oN (b8 0) qu (mT (dC (.int 1)))) cC)) (cg (oI rn λi j=>.int (i ^ j.toNat)) (dC (.int 10)) (dC (.int 30)))))
 (cF (fq 2 (e8 4 y8 (cm (e8 1 y1 (cm (b8 1) cC)) (cm (b8 1) (cm (oN (b8 0) (mT (dC (.int 1))) (mT (dC (.int 15)))) (cm (cg oEq (cg (oI (λ_ j=>0<j) λi j=>.int (i%j)) (b8 1) (dC (.int 3))) (dC (.int 0))) cC))))))
 (cF (gM 3 (e8 3 zi (cm (b8 1) (cm (oN (b8 0) (mT (dC (.int 1))) qu) (cm (gf pO (cm (b8 2) cC)) cC)))))
 (cF (iw (ye (eR (cg oEq (cg (oI (λ_ j=>0<j) λi j=>.int (i%j)) (cg (oI kq λi j=>.int (i/j)) (b8 1) (dC (.int 3))) (dC (.int 2))) (dC (.int 1)))) (eR (cg (ji λi j=>.bl (decide (j<i))) (tR 3) (dC (.int 0))))) (cF (BN 4 3 (cg (oI (λ_ j=>0<j) λi j=>.int (i%j)) (b8 1) (tR 3)))
 (n8 3 (pR (cm (cg de (b8 4) (dC (.int 1))) (cm (cg de (b8 4) (dC (.int 0))) (cm (cg de (b8 4) (dC (.int 2))) cC)))))) jf)
 (rZ 3 (cF (gM 5 (DQ (gf o4 (cm (b8 2) cC)) (gf o4 (cm (b8 3) cC))))
 (cF (fq 6 (Eg 5 (e8 2 y3 (cm (cg de (b8 5) (dC (.int 0))) (cm (cg de (b8 5) (dC (.int 1))) cC)))))
 (cF (fq 7 (e8 2 xi (cm (gf pO (cm (b8 2) cC)) (cm (gf o4 (cm (b8 3) cC)) cC))))
 (cF (iw (si 5 (tH (eR (cg ue (b8 5) (og (cm (b8 2) (cm (b8 3) cC))))) (eR (cg ue (cg oEq (cg de (b8 7) (dC (.int 0))) (dC (.str "levels"))) (cg de (b8 6) (dC (.int 0))))))) (gJ (dC (.bl false))) jf)
 (cF (iw (r8 (eR (cg de (b8 6) (dC (.int 0))))) (cF (fq 8 (e8 2 xA (cm (cg de (b8 6) (dC (.int 1))) (cm (b8 3) cC))))
 (cF (Br 5 (dC (.int 1)))
 (gJ (oY (b8 8) (e8 2 xA (cm (cg de (b8 6) (dC (.int 1))) (cm (b8 3) cC))))))) jf)
 (cF (fq 9 (e8 2 xx (cm (gf o4 (cm (b8 2) cC)) (cm (gf o4 (cm (b8 3) cC)) cC))))
 (cF (fq 10 (e8 2 xv (cm (gf o4 (cm (b8 2) cC)) (cm (gf o4 (cm (cg de (b8 7) (dC (.int 1))) cC)) cC))))
 (cF (iw (eR (cg (ji λi j=>.bl (decide (i<=j))) (e8 2 sF (cm (b8 2) (cm (b8 9) cC))) (e8 2 sF (cm (b8 2) (cm (b8 10) cC))))) (fq 10 (b8 9)) jf)
 (gJ (oY (e8 2 sH (cm (cg de (b8 6) (dC (.int 1))) (cm (b8 10) cC))) (cg (ji λi j=>.bl (decide (i<=j))) (e8 2 sF (cm (b8 2) (cm (cg de (b8 6) (dC (.int 1))) cC))) (e8 2 y4 (cm (gf o4 (cm (b8 2) cC)) (cm (gf o4 (cm (cg de (b8 7) (dC (.int 1))) cC)) cC)))))))))))))))))))
theorem R6:jl 1 (DY 63) yn ["_law_script","_law_first","_law_pieces","_law_above","_law_turned","_law_handed","_law_found","_law_order","_law_fine","_law_rows","_law_due"]:=by
 intro ds z hl h;obtain⟨ns,rfl,hn,q⟩:=h;show yn _ [.fz (dI ns),.un,.un,.un,.un,.un,.un,.un,.un,.un,.un];unfold yn dI;have big:=jX;walk_at"px";generalize (jU ns none (some 1)).sum=N;generalize N%1000000000000000000000000000000=first;walk_at"go";have Z:(jU ns (some 1) (some 15)).length<=14:=by rw[K6 _ (by decide) (by decide)];simp;ext
 generalize jU ns (some 1) (some 15)=cells at Z;show⟨_,rfl,vb first,first,_,_,rfl,(S9 first).len,by ext,λps gF m=>?_⟩;walk_at"go";rw[Fh _ (by decide)];show⟨first,ns.drop (1:Int).toNat,ps.length,by rw[af];rfl,by simp;ext,by ext,λb v len up=>?_⟩;have s:b.length<=63:=by simp at len;ext
 clear len up;walk_at"go";generalize w:mQ (rZ _ _)=X;have fin:∀(b:List Tr)(d:Sl),kY ps.length b->b.length<=63->X { nx:=λx=>z (R.fz D.non),rt:=z } [.fz (.lst (ns.map .int)),.fz (.int first),.fz (.lst (ps.map ee)),.ow (b.map dT),d,.un,.un,.un,.un,.un,.un]:=by
  clear s v b;intro b d v s;subst w;have Y:eI 8 (.lst (b.map dT)):=QG 6 b;have V:eI 8 (.lst (ps.map ee)):=QH 6 ps;have g:eI 9 (.lst [.lst (ps.map ee),.lst (b.map dT)]):=λd hd=>by
   simp only[aj,aS,or_false] at hd;rcases hd with rfl | rfl
   .exact V
   show Y
  have B:∀p∈ps,1<=p.k/\p.k<=3/\p.l<=p.r:=λp e=>⟨(m p e).k0,(m p e).k1,(m p e).lr⟩
  have O:¬(Str.ofString "ring"=Str.ofString "levels"):=by decide +kernel
  have A:∀p∈ps,1<=p.k/\p.k<=3:=λp e=>⟨(m p e).k0,(m p e).k1⟩
  walk_at"go";walk_at"go";show⟨_,rfl,_,rfl,ps,b,rfl,by ext,by ext,v,B,λtr pt=>?_,λrs r=>?_⟩
  .refine⟨by simp[tN,kK],?_⟩;walk_at"go";obtain⟨j,rt,H,L,M,F,i,n,f⟩:=pt;show⟨by simp[tN,kK],ps.length,b,by rw[af];rfl,by ext,by ext,v,λlv lw=>?_,λP J=>(JU (BZ v M) J).elim⟩;obtain rfl:=eW.uniq v M lw;walk_at"go";simp only[xt 9 _ g,bF,ar,aU];show⟨by ext,g,g,.str "levels",rfl,by rw[B4];trivial,.bl true,rfl,by rw[Eb];trivial,?_⟩;simp only[Ew,decide_true,show dD (.bl true) (.bl true)=true from rfl,bF,ar,aU];walk_at"go";show⟨_,rfl,?_⟩;walk_at"px";walk_at"go";show⟨ps,b,rfl,by ext,by ext,v,BZ v lw,B,λZ5 U=>?_⟩;obtain rfl:=F.uniq U;walk_at"go";show⟨_,rfl,ps,j,rfl,lw.1,by ext,λord ks io C=>?_⟩;obtain rfl:=i.uniq io;obtain rfl:=n.uniq C;have I:∀x,1<=(cu ps x).k/\(cu ps x).l<=(cu ps x).r:=λx=>by
    by_cases u:x<ps.length
    .rw[nH u];have:=B _ (bJ u);show⟨this.1,this.2.2⟩
    unfold cu;rw[List.getElem?_eq_none (by ext)];decide
   have E:=Qy ps (λx=>(I x).1) _ (JG i n) (Ti i n);rw[Qw ps (λx=>(I x).2) _ (JG i n)] at E;walk_at"go";generalize w:mQ (gJ _)=W;have fin2:W { nx:=λx=>z (R.fz D.non),rt:=z } [.fz (.lst (ns.map .int)),.fz (.int first),.fz (.lst (ps.map ee)),.fz (.lst (b.map dT)),d,.ov (.ll [ps.map ee,b.map dT]),.fz (.tup [.bl true,.lst (tr.map .int)]),.fz (.tup [.str (Str.ofString "levels"),.lst (j.map .int)]),.un,.fz (.lst (rt.map .int)),.fz (.lst (tr.map .int))]:=by
    subst w;have T:tr.length=ps.length:=by rw[f];split;show EG _ _;show F.len
    have hb:(pM ps tr).getD 0<=uO ps (L.map (gW ps j H)):=by rw[f];split<;>ext
    clear f;walk_at"go";show⟨_,rfl,_,rfl,⟨by rw[af];ext,λx u=>?_⟩,?_⟩
    .obtain⟨y,_,rfl⟩:=aB.mp u;trivial
    simp only[br];show⟨_,rfl,ps,tr,rfl,T,by ext,A,_,rfl,ps,j,rfl,lw.1,by ext,A,λord ks io C=>?_⟩;obtain rfl:=i.uniq io;obtain rfl:=n.uniq C;simp only[rq,decide_eq_true hb];show q
   show⟨ps,rt,rfl,F.len,by ext,A,ps,_,rfl,EG _ _,by ext,A,?_⟩;simp only[rq];by_cases c:(pM ps rt).getD 0<=(pM ps (mS ps (L.map (gW ps j H))).1).getD 0
   .rw[if_neg (by ext)] at f;subst f;rw[if_pos c];show fin2
   rw[if_pos (by ext)] at f;subst f;rw[if_neg c];show fin2
  show⟨by simp[tN,kK,dT],?_⟩;walk_at"go";show⟨by simp[tN,kK,dT],ps.length,b,by rw[af];rfl,by ext,by ext,v,λlv lw=>(JU (BZ v lw) r).elim,λP J=>?_⟩;have Q:=R7 v r;walk_at"go";simp only[xt 9 _ g,bF,ar,aU];show⟨by ext,g,g,.str "ring",rfl,by rw[B4];trivial,.bl false,rfl,by rw[Eb];trivial,?_⟩;simp only[Ew,O,bU,show dD (.bl false) (.bl false)=true from rfl,bF,ar,aU];walk_at"go";show⟨_,rfl,?_⟩;walk_at"px";show⟨_,rfl,b,rs,rfl,r,by ext,?_⟩;walk_at"go";show⟨1,_,rfl,rfl,?_⟩;walk_at"go";show⟨_,rfl,b,rs,rfl,r,by ext,q⟩
 clear w;by_cases K:first/3%2=1
 .rw[if_pos K];by_cases S:0<b.length
  .rw[if_pos (by rw[af];ext)];obtain⟨p,e,o⟩:=R8 first S;rw[af,e];show⟨by ext,p,dT b[p],by ext,by ext,w6 o,by rw[ao,ag o];rfl,?_⟩;obtain⟨v1,v2⟩:=v _ (bJ o);rw[show dT b[p]=.tup [.int b[p].1,.int b[p].2.1,.int b[p].2.2] from rfl];walk_at"go";show⟨_,rfl,_,rfl,_,rfl,by ext,?_⟩;have E:(b.map dT).eraseIdx p=(b.eraseIdx p).map dT:=L6 dT b p;have hle:(b.eraseIdx p).length+1=b.length:=by rw[List.length_eraseIdx,if_pos o];ext
   rw[E,D8];show⟨by rw[af];ext,fin _ _ (Ur (t:=(b[p].2.1,b[p].1,b[p].2.2)) (λt ht=>v t (List.mem_of_mem_eraseIdx ht)) v2 v1) ?_⟩;rw[aL,List.length_singleton];ext
  rw[if_neg (by rw[af];ext)];show fin b _ v s
 rw[if_neg K];show fin b _ v s
end Wc
end
namespace Wc
open PySem PySem.Spec PyProof.Rows L2
local macro_rules | `(tactic| walk_at"sc")=>`(tactic| show⟨rfl,rfl,rfl,by decide +kernel,rfl,by decide +kernel,by decide +kernel⟩)
local macro_rules | `(tactic| walk_at"bn")=>`(tactic| (intro _ _ _ _ _ _ us hl;first | (obtain⟨_,rfl⟩:=IS hl;show rfl) | (obtain⟨_,_,rfl⟩:=rW hl;show rfl) | (obtain⟨_,_,_,rfl⟩:=IQ hl;show rfl) | (obtain⟨_,_,_,_,rfl⟩:=IP hl;show rfl) | (obtain⟨_,_,_,_,_,rfl⟩:=IM hl;show rfl) | (obtain⟨_,_,_,_,_,_,_,rfl⟩:=IK hl;show rfl)))
def top(i:Nat):Stmt:=PySem.Challenge.pw_wirechannel_k34_the_better_one.main.body.getD i (.Pass ⟨0,0,0,0⟩)
structure Txt(K:J')(mg:Str->Option Value):Prop where
 b_ValueError:mg "ValueError"=none
 b_all:mg "all"=none
 b_bool:mg "bool"=none
 b_dict:mg "dict"=none
 b_enumerate:mg "enumerate"=none
 b_int:mg "int"=none
 b_isinstance:mg "isinstance"=none
 b_len:mg "len"=none
 b_list:mg "list"=none
 b_max:mg "max"=none
 b_min:mg "min"=none
 b_range:mg "range"=none
 b_sorted:mg "sorted"=none
 b_str:mg "str"=none
 b_sum:mg "sum"=none
 b_tuple:mg "tuple"=none
 b_zip:mg "zip"=none
section
variable{P:Program}{w:World}{K:J'}{mg:Str->Option Value}{base:Heap}{cj cX dy cZ:Addr}
theorem jG:ck ["_law_cell","_law_k"] ["_law_cell","_law_k"] (bZ (top 30)):=by walk_at"sc"
theorem iZ:ck ["_law_words","_law_seed","_law_cells","_law_plain","_law_pieces","_law_k","_law_cell","_law_one","_law_net","_law_first","_law_last","_law_wide"] ["_law_words","_law_seed","_law_cells","_law_plain"] (bZ (top 32)):=by walk_at"sc"
theorem iY:ck ["_law_cell","_law_size","_law_signs","_law_stem_here","_law_k"] ["_law_cell","_law_size"] (bZ (top 28)):=by walk_at"sc"
theorem ik:ck ["_law_cell","_law_size","_law_stem_here","_law_at","_law_other"] ["_law_cell"] (bZ (top 29)):=by walk_at"sc"
theorem Wr:(["_law_sign","_law_stem_here","_law_at","_law_size"]:List Str).Nodup:=by decide +kernel
theorem Wq:(["_law_k","_law_stem_here","_law_size"]:List Str).Nodup:=by decide +kernel
theorem Wo:(["_law_k","_law_stem_here"]:List Str).Nodup:=by decide +kernel
theorem i3:ck ["_law_seed","_law_piece"] ["_law_seed","_law_piece"] (bZ (top 33)):=by walk_at"sc"
theorem gC:ck ["_law_seed","_law_cells","_law_many","_law_above","_law_k","_law_cell","_law_one","_law_p","_law_q"] ["_law_seed","_law_cells","_law_many"] (bZ (top 34)):=by walk_at"sc"
theorem gA:ck ["count","above","lowers","waits","upper","lower","column","order","levels","place"] ["count","above"] (bZ (top 9)):=by walk_at"sc"
theorem WJ:(["number"]:List Str).Nodup:=by decide +kernel
theorem WI:(["number","waits"]:List Str).Nodup:=by decide +kernel
theorem WH:(["number"]:List Str).Nodup:=by decide +kernel
theorem gz:ck ["levels","above","triple_over","triple","number","places","way","ring"] ["levels","above"] (bZ (top 10)):=by walk_at"sc"
theorem kN:ck ["count","above","levels"] ["count","above"] (bZ (top 8)):=by walk_at"sc"
theorem Vv:(["number","levels"]:List Str).Nodup:=by decide +kernel
theorem jD:ck ["pieces","keys"] ["pieces"] (bZ (top 15)):=by walk_at"sc"
theorem L9:(["number","piece"]:List Str).Nodup:=by decide +kernel
theorem FN:(["first","last","number"]:List Str).Nodup:=by decide +kernel
theorem gB:ck ["pieces","levels","groups","number","key"] ["pieces","levels"] (bZ (top 14)):=by walk_at"sc"
theorem WG:(["key","groups"]:List Str).Nodup:=by decide +kernel
theorem iR:ck ["pieces","group","strips","number","free"] ["pieces","group"] (bZ (top 16)):=by walk_at"sc"
theorem WA:(["strip","pieces","number"]:List Str).Nodup:=by decide +kernel
theorem iX:ck ["pieces","levels","tracks","track","group","strip","number"] ["pieces","levels"] (bZ (top 13)):=by walk_at"sc"
theorem Wz:(["piece"]:List Str).Nodup:=by decide +kernel
theorem iQ:ck ["pieces","above","uppers","upper","lower","column"] ["pieces","above"] (bZ (top 21)):=by walk_at"sc"
theorem Wy:(["piece"]:List Str).Nodup:=by decide +kernel
theorem ig:ck ["uppers","ends","track","upper"] ["uppers","ends","track"] (bZ (top 22)):=by walk_at"sc"
theorem iW:ck ["one","other","column"] ["one","other"] (bZ (top 6)):=by walk_at"sc"
theorem iU:ck ["one","other"] ["one","other"] (bZ (top 24)):=by walk_at"sc"
theorem jC:ck ["pieces","taking","number"] ["pieces","taking","number"] (bZ (top 23)):=by walk_at"sc"
theorem VF:(["other","pieces","number"]:List Str).Nodup:=by decide +kernel
theorem j5:ck ["pieces","above","uppers","waiting","tracks","ends","track","taking","number"] ["pieces","above"] (bZ (top 20)):=by walk_at"sc"
theorem Vl:(["piece"]:List Str).Nodup:=by decide +kernel
theorem Vk:(["piece"]:List Str).Nodup:=by decide +kernel
theorem Vj:(["number","track","ends"]:List Str).Nodup:=by decide +kernel
theorem Vi:(["number","tracks"]:List Str).Nodup:=by decide +kernel
theorem jE:ck ["pieces","tracks"] ["pieces","tracks"] (bZ (top 12)):=by walk_at"sc"
theorem L8:(["piece","track"]:List Str).Nodup:=by decide +kernel
theorem gP:ck ["_law_pieces","_law_above","_law_found","_law_ring","_law_fine","e"] ["_law_pieces","_law_above"] (bZ (top 37)):=by walk_at"sc"
theorem ij:ck ["_law_found"] ["_law_found"] (bZ (top 35)):=by walk_at"sc"
theorem gD:ck ["_law_ring","_law_above","_law_seen","_law_k","_law_triple","_law_after"] ["_law_ring","_law_above"] (bZ (top 36)):=by walk_at"sc"
theorem WE:(["_law_part"]:List Str).Nodup:=by decide +kernel
abbrev cY:Stmt:=top 31
theorem vy:ck ["_law_found","_law_due"] ["_law_found","_law_due"] (bZ cY):=by walk_at"sc"
theorem Ma:(["_law_one","_law_other"]:List Str).Nodup:=by decide +kernel
theorem iT:ck ["pieces","column"] ["pieces","column"] (bZ (top 19)):=by walk_at"sc"
theorem Ww:(["piece","column"]:List Str).Nodup:=by decide +kernel
theorem fL:ck ["pieces"] ["pieces"] (bZ (top 18)):=by walk_at"sc"
theorem W7:(["begun","pieces"]:List Str).Nodup:=by decide +kernel
theorem jF:ck ["pieces","levels","bound","group","members"] ["pieces","levels"] (bZ (top 17)):=by walk_at"sc"
theorem VE:(["number","pieces"]:List Str).Nodup:=by decide +kernel
theorem qp:ck ["_law_script","_law_first","_law_pieces","_law_above","_law_turned","_law_handed","_law_found","_law_order","_law_fine","_law_rows","_law_due"] ["_law_script"] (bZ (top 38)):=by walk_at"sc"
abbrev jn:Stmt:=QY (top 3) 0
theorem Uq:ck ["self","ring"] ["self","ring"] (bZ jn):=by walk_at"sc"
variable(T:Txt K mg)
include T in
theorem Wv(A:At K mg "_law_mix" (top 30)):Known P w K mg base 1 "_law_mix" 2 sG:=jz 0 A jG (λf e A outer s H E b=>have d:=b.units;have nd:=jG.nd
 (c8 (hV (cR lS (cR jh (cR iq (cR iq (cR sf (cR jh (b9 0) (cR Bv cz cz)) (cR iq (cR sf (b9 1) (b9 1)) cz)) (cR sf (cR sf (cR sf cz (b9 1)) (b9 1)) (b9 1))) cz) cz) cz)))) VQ (by walk_at"bn")
variable(cK:Known P w K mg base 1 "_law_mix" 2 sG)
include T cK in
theorem Wn(A:At K mg "_law_some" (top 32)):Known P w K mg base 2 "_law_some" 4 y8:=jz 1 A iZ (λf e A outer s H E b=>have d:=b.units;have nd:=iZ.nd
 (cJ (ku 4 (qc cG) nd)
   (cJ (lR bh rfl (Cg T.b_enumerate (cw (b9 2) cG)) (sA rfl (ky (eS 5 nd) (ky (eS 6 nd) sE)))
    (cJ (fV 7 (fY cK b (cw (b9 6) (cw (b9 5) cG))) nd)
   (cJ (fV 8 (cR jh (b9 7) cz) nd)
   (cJ (fV 9 (cR jh (cR lS (b9 7) cz) (dz (qc (cw cz (cw cz cG))) (cR jh (cR lS (b9 7) cz) cz))) nd)
   (cJ (fV 10 (j3 (Je rfl) T.b_min boot_min (cw cz (cw (cR iq (b9 9) (cR jh (fY cK b (cw (b9 6) (cw (cR iq (b9 5) cz) cG))) (dz (qc (cw cz (cw cz (cw cz cG)))) (cR jh (cR lS (b9 7) cz) cz)))) cG))) nd)
   (cJ (fV 11 cz nd)
   (cJ (jx (ve (qd (b9 3))) (c8 (fV 11 (cR iq cz (cR jh (fY cK b (cw (cR iq (b9 1) (cR sf (cR lS (b9 8) cz) (b9 5))) (cw (cR iq (b9 8) cz) cG))) cz)) nd)) jB)
   (c8 (jx (hW (my d) (b9 8) cz) (c8 (tW 4 (vc (cw o7 (cw (b9 9) (cw (b9 10) (cw (b9 11) cG))))))) (c8 (tW 4 (vc (cw (dz (b9 0) (b9 8)) (cw (cR IX (b9 9) (cR jh (cR lS (b9 7) cz) cz)) (cw (b9 10) (cw (b9 11) cG))))))))))))))))
   (c8 (vk 4))))) WB (by walk_at"bn")
variable(fU:Known P w K mg base 2 "_law_some" 4 y8)
include T in
theorem Wm(A:At K mg "_law_stem" (top 28)):Known P w K mg base 1 "_law_stem" 2 ze:=jz 0 A iY (λf e A outer s H E b=>have d:=b.units;have nd:=iY.nd
 (cJ (fV 2 o8 nd)
   (cJ (fV 3 o8 nd)
   (cJ (lR bh rfl (vv T.b_range (cw (b9 1) cG)) (eS 4 nd)
    (cJ (fV 3 (cR iq (b9 3) (dz (b9 2) (cR jh (b9 0) cz))) nd)
   (c8 (fV 0 (cR lS (b9 0) cz) nd))))
   (c8 (hV (b9 3))))))) V8 (by walk_at"bn")
variable(fT:Known P w K mg base 1 "_law_stem" 2 ze)
include T fT in
theorem WV(A:At K mg "_law_named" (top 29)):Known P w K mg base 2 "_law_named" 1 y1:=jz 1 A ik (λf g A outer s H E e=>have d:=e.units;have nd:=ik.nd
 (cJ (fV 0 (cR jh (cR sf (cR iq (cR jh (b9 0) (cR Bv cz cz)) cz) cz) (cR iq (cR Bv cz cz) cz)) nd)
   (cJ (fV 1 (cR jh (b9 0) cz) nd)
   (cJ (fV 2 (fY fT e (cw (cR lS (b9 0) cz) (cw cz cG))) nd)
   (cJ (fV 3 (cR jh (cR lS (b9 0) cz) (cR iq (b9 1) cz)) nd)
   (cJ (jx (hW (my d) (cR jh (cR lS (b9 0) cz) cz) cz) (c8 (hV (mE rfl (.of (N':=["_law_sign","_law_stem_here","_law_at","_law_size"]) (m:=[none,some 2,some 3,some 1]) (by kernel_rfl)) jW (jO o8) (λs3 b ex=>(eS 0 Wr)) (λs3 b ex=>k9) (λs3 b ex=>(cR iq (cR iq (qh (b9 1) sD (oo (b9 2))) (b9 0)) (qh (b9 1) (oo (b9 2)) (oo (b9 3)))))))) jB)
   (cJ (jx (hW (my d) (cR jh (cR lS (b9 0) cz) cz) cz) (c8 (hV (mE rfl (.of (N':=["_law_k","_law_stem_here","_law_size"]) (m:=[none,some 2,some 1]) (by kernel_rfl)) jW (vv T.b_range (cw cz cG)) (λs3 b ex=>(eS 0 Wq)) (λs3 b ex=>k9) (λs3 b ex=>(cR iq (cR iq (cR iq (qh (b9 1) sD (oo (cR jh (b9 2) cz))) (dz o8 (cR lS (b9 0) cz))) (dz o8 (cR jh (cR lS (b9 0) cz) cz))) (dz o8 (cR jh (b9 0) cz))))))) jB)
   (cJ (fV 4 (cR iq (dz o8 (qk OX T.b_int boot_int (cw (qe (my d) (dz (b9 2) cz) o8) cG))) (qh (b9 2) (oo cz) sD)) nd)
   (c8 (hV (cR iq (mE rfl (.of (N':=["_law_k","_law_stem_here"]) (m:=[none,some 2]) (by kernel_rfl)) jW (vv T.b_range (cw cz cG)) (λs3 b ex=>(eS 0 Wo)) (λs3 b ex=>k9) (λs3 b ex=>(qh (b9 1) sD (oo (cR iq (b9 0) cz))))) (qc (cw (qh (b9 4) sD (oo cz)) (cw (qh (b9 4) sD (oo cz)) cG)))))))))))))) V0 (by walk_at"bn")
variable(fj:Known P w K mg base 2 "_law_named" 1 y1)
include T cK in
theorem Wl(A:At K mg "_law_rank" (top 33)):Known P w K mg base 2 "_law_rank" 2 xw:=jz 1 A i3 (λf e A outer s H E b=>have d:=b.units;have nd:=i3.nd
 (c8 (hV (cR iq (cR sf (fY cK b (cw (b9 0) (cw (cR iq (b9 1) cz) cG))) cz) (b9 1))))) V7 (by walk_at"bn")
variable(eQ:Known P w K mg base 2 "_law_rank" 2 xw)
include T cK eQ in
theorem W5(A:At K mg "_law_triples" (top 34)):Known P w K mg base 3 "_law_triples" 3 zi:=jz 2 A gC (λf e A outer s H E b=>have d:=b.units;have nd:=gC.nd
 (cJ (ku 3 (qc cG) nd)
   (cJ (lR bh rfl (Cg T.b_enumerate (cw (b9 1) cG)) (sA rfl (ky (eS 4 nd) (ky (eS 5 nd) sE)))
    (cJ (fV 6 (fY cK b (cw (b9 5) (cw (cR iq (b9 4) cz) cG))) nd)
   (cJ (fV 7 (cR jh (b9 6) (j3 (Bu rfl) T.b_max boot_max (cw cz (cw (b9 2) cG)))) nd)
   (cJ (fV 8 (cR jh (cR lS (b9 6) cz) (j3 (Bu rfl) T.b_max boot_max (cw cz (cw (b9 2) cG)))) nd)
   (c8 (jx (En (hW (wK d) (b9 7) (b9 8)) (EW (hW Bq (fY eQ b (cw (b9 0) (cw (b9 7) cG))) (fY eQ b (cw (b9 0) (cw (b9 8) cG)))))).pb (c8 (tW 3 (vc (cw (b9 7) (cw (b9 8) (cw (cR jh (cR lS (b9 6) cz) cz) cG)))))) (c8 (jx (hW (wK d) (b9 7) (b9 8)) (c8 (tW 3 (vc (cw (b9 8) (cw (b9 7) (cw (cR jh (cR lS (b9 6) cz) cz) cG)))))) jB))))))))
   (c8 (vk 3))))) WO (by walk_at"bn")
variable(eA:Known P w K mg base 3 "_law_triples" 3 zi)
include T in
theorem W4(A:At K mg "levels_found" (top 9)):Known P w K mg base 1 "levels_found" 2 zh:=jz 0 A gA (λf g A outer s H E e=>have d:=e.units;have nd:=gA.nd
 (cJ (SX 2 rfl (.of (N':=["number"]) (m:=[none]) (by kernel_rfl)) jW (vv T.b_range (cw (b9 0) cG)) (λs3 b ex=>(eS 0 WJ)) (λs3 b ex=>k9) (λs3 b ex=>(qc cG)) nd)
   (cJ (ku 3 (Pw (qc (cw cz cG)) (b9 0)) nd)
   (cJ (lR bh rfl (jO (b9 1)) (sA rfl (ky (eS 4 nd) (ky (eS 5 nd) (ky (eS 6 nd) sE))))
    (cJ (Rt 2 (b9 4) (b9 5))
   (c8 (Cd 3 (b9 5) (cR iq (BO 3 (b9 5)) cz)))))
   (cJ (ET 3 7 rfl (.of (N':=["number","waits"]) (m:=[none,some 3]) (by kernel_rfl)) jW (vv T.b_range (cw (b9 0) cG)) (λs3 b ex=>(eS 0 WI)) (λs3 b ex=>(yM (hW (my d) (dz (b9 1) (b9 0)) cz))) (λs3 b ex=>(b9 0)) nd)
   (cJ (ku 8 (SW 7 (qk (Px rfl) T.b_dict (by decide +kernel) (cw (mE rfl (.of (N':=["number"]) (m:=[none]) (by kernel_rfl)) jW (jO (b9 7)) (λs3 b ex=>(eS 0 WH)) (λs3 b ex=>k9) (λs3 b ex=>(vc (cw (b9 0) (cw cz cG))))) cG))) nd)
   (cJ (fV 9 cz nd)
   (vm 2 (cJ (KD bh (hW Bq (b9 9) (yL 7 T.b_len)) (cJ (fV 4 (BO 7 (b9 9)) nd)
   (cJ (fV 9 (cR iq (b9 9) cz) nd)
   (c8 (lR bh rfl (jO (dz (b9 2) (b9 4))) (eS 5 nd)
    (cJ (Cd 3 (b9 5) (cR IX (BO 3 (b9 5)) cz))
   (c8 (jx (hW (my d) (BO 3 (b9 5)) cz) (cJ (yE d 8 (b9 5) (cR iq (Ru d 8 (b9 4)) cz))
   (c8 (tW 7 (b9 5)))) jB))))))))
   (c8 (EE 8))))))))))) WN (by walk_at"bn")
variable(ez:Known P w K mg base 1 "levels_found" 2 zh)
include T in
theorem W3(A:At K mg "ring_without" (top 10)):Known P w K mg base 1 "ring_without" 2 zg:=jz 0 A gz (λf e A outer s H E d=>have b:=d.units;have nd:=gz.nd
 (cJ (ku 2 yK nd)
   (cJ (lR bh rfl (jO (b9 1)) (eS 3 nd)
    (c8 (jx (hW (EU b) (dz (b9 3) cz) (b9 0)) (c8 (yE b 2 (dz (b9 3) cz) (b9 3))) jB)))
   (vm 2 (cJ (fV 4 (j3 (Py rfl) T.b_min boot_min (cw (b9 2) cG)) nd)
   (cJ (ku 5 yK nd)
   (cJ (ku 6 (qc cG) nd)
   (cJ (KD bh (vh 5 (hW (EU b) (b9 4) (b9 5))) (cJ (yE b 5 (b9 4) (yL 6 T.b_len))
   (cJ (tW 6 (xb b (b9 2) (b9 4)))
   (c8 (fV 4 (dz (xb b (b9 2) (b9 4)) cz) nd)))))
   (vm 5 (vm 6 (cJ (ku 7 (qh (b9 6) (oo (xb b (b9 5) (b9 4))) sD) nd)
   (cJ (UE 7)
   (c8 (vk 7)))))))))))))) WM (by walk_at"bn")
variable(eu:Known P w K mg base 1 "ring_without" 2 zg)
include T ez eu in
theorem Vh(A:At K mg "ranked" (top 8)):Known P w K mg base 2 "ranked" 2 xi:=jz 1 A kN (λf g A outer s H E b=>have e:=b.units;have nd:=kN.nd
 (cJ (fV 2 (fY ez b (cw (b9 0) (cw (b9 1) cG))) nd)
   (cJ (jx (hW Bq (j3 Pz T.b_len boot_len (cw (b9 2) cG)) (b9 0)) (c8 (hV (JZ o8 (fY eu b (cw (b9 2) (cw (b9 1) cG)))))) jB)
   (c8 (hV (JZ o8 (mE rfl (.of (N':=["number","levels"]) (m:=[none,some 2]) (by kernel_rfl)) jW (vv T.b_range (cw (b9 0) cG)) (λs3 d ex=>(eS 0 Vv)) (λs3 d ex=>k9) (λs3 d ex=>(xb e (b9 1) (b9 0)))))))))) Vy (by walk_at"bn")
variable(fB:Known P w K mg base 2 "ranked" 2 xi)
include T in
theorem Wu(A:At K mg "in_order" (top 15)):Known P w K mg base 1 "in_order" 1 xu:=jz 0 A jD (λf g A outer s H E d=>have e:=d.units;have nd:=jD.nd
 (cJ (fV 1 (j3 (Uy rfl) T.b_sorted boot_sorted (cw (mE rfl (.of (N':=["number","piece"]) (m:=[none,none]) (by kernel_rfl)) Fx (Cg T.b_enumerate (cw (b9 0) cG)) (λs3 b ex=>(sA rfl (ky (eS 0 L9) (ky (eS 1 L9) sE)))) (λs3 b ex=>k9) (λs3 b ex=>(vc (cw (dz (b9 1) cz) (cw (dz (b9 1) cz) (cw (b9 0) cG)))))) cG)) nd)
   (c8 (hV (mE rfl (.of (N':=["first","last","number"]) (m:=[none,none,none]) (by kernel_rfl)) Vu (jO (b9 1)) (λs3 b ex=>(sA rfl (ky (eS 0 FN) (ky (eS 1 FN) (ky (eS 2 FN) sE))))) (λs3 b ex=>k9) (λs3 b ex=>(b9 2))))))) VP (by walk_at"bn")
variable(dR:Known P w K mg base 1 "in_order" 1 xu)
include T dR in
theorem W2(A:At K mg "level_groups" (top 14)):Known P w K mg base 2 "level_groups" 2 xC:=jz 1 A gB (λf g A outer s H E d=>have b:=d.units;have nd:=gB.nd
 (cJ (ku 2 SA nd)
   (cJ (lR bh rfl (jO (fY dR d (cw (b9 0) cG))) (eS 3 nd)
    (cJ (ku 4 (RH (cw (dz (b9 1) (b9 3)) (cw (Jp (dz (dz (b9 0) (b9 3)) cz)) cG))) nd)
   (c8 (Pt b 2 4 (b9 3)))))
   (vm 2 (c8 (hV (mE rfl (.of (N':=["key","groups"]) (m:=[none,some 2]) (by kernel_rfl)) jW (jO (j3 (Sz rfl) T.b_sorted boot_sorted (cw (b9 2) cG))) (λs3 e ex=>(eS 0 WG)) (λs3 e ex=>k9) (λs3 e ex=>(RG b (b9 1) (b9 0)))))))))) WL (by walk_at"bn")
variable(cN:Known P w K mg base 2 "level_groups" 2 xC)
include T in
theorem Wk(A:At K mg "strips_of" (top 16)):Known P w K mg base 1 "strips_of" 2 za:=jz 0 A iR (λf g A outer s H E e=>have d:=e.units;have nd:=iR.nd
 (cJ (ku 2 (RE (qc cG)) nd)
   (cJ (lR bh rfl (jO (b9 1)) (eS 3 nd)
    (RF 4 2 3 rfl (.of (N':=["strip","pieces","number"]) (m:=[none,some 0,some 3]) (by kernel_rfl)) (λs3 b ex=>(yM (hW Bq (dz (dz (b9 1) (dz (b9 0) (Jp cz))) cz) (dz (dz (b9 1) (b9 2)) cz)))) (hW (my d) (yL 4 T.b_len) cz) (c8 (RD 2 (qc (cw (b9 3) cG)))) (λs3 b ex=>Ko WA rfl (by first | show Or.inl rfl | show Or.inr rfl)) (λs3 b ex=>iK rfl (by first | show Or.inl rfl | show Or.inr (Or.inl rfl) | show Or.inr (Or.inr rfl))) (hN:=nd)))
   (c8 (EE 2))))) V3 (by walk_at"bn")
variable(fP:Known P w K mg base 1 "strips_of" 2 za)
include T cN fP in
theorem Wj(A:At K mg "by_levels" (top 13)):Known P w K mg base 3 "by_levels" 2 xv:=jz 2 A iX (λf g A outer s H E b=>have e:=b.units;have nd:=iX.nd
 (cJ (RA 2 rfl (.of (N':=["piece"]) (m:=[none]) (by kernel_rfl)) jW (jO (b9 0)) (λs3 d ex=>(eS 0 Wz)) (λs3 d ex=>k9) (λs3 d ex=>cz) nd)
   (cJ (fV 3 cz nd)
   (cJ (lR bh rfl (jO (fY cN b (cw (b9 0) (cw (b9 1) cG)))) (eS 4 nd)
    (c8 (lR bh rfl (jO (fY fP b (cw (b9 0) (cw (b9 4) cG)))) (eS 5 nd)
    (cJ (lR bh rfl (jO (b9 5)) (eS 6 nd)
    (c8 (Cd 2 (b9 6) (b9 3))))
   (c8 (fV 3 (cR iq (b9 3) (dz (dz (b9 0) (dz (b9 5) cz)) cz)) nd))))))
   (c8 (vk 2)))))) V2 (by walk_at"bn")
variable(dg:Known P w K mg base 3 "by_levels" 2 xv)
include T in
theorem Wi(A:At K mg "uppers_of" (top 21)):Known P w K mg base 1 "uppers_of" 2 zb:=jz 0 A iQ (λf g A outer s H E e=>have d:=e.units;have nd:=iQ.nd
 (cJ (SG 2 rfl (.of (N':=["piece"]) (m:=[none]) (by kernel_rfl)) jW (jO (b9 0)) (λs3 b ex=>(eS 0 Wy)) (λs3 b ex=>k9) (λs3 b ex=>yK) nd)
   (cJ (lR bh rfl (jO (b9 1)) (sA rfl (ky (eS 3 nd) (ky (eS 4 nd) (ky (eS 5 nd) sE))))
    (c8 (Rj d 2 (b9 4) (b9 3) oj)))
   (c8 (EE 2))))) V4 (by walk_at"bn")
variable(fO:Known P w K mg base 1 "uppers_of" 2 zb)
include T in
theorem WU(A:At K mg "are_behind" (top 22)):Known P w K mg base 1 "are_behind" 3 y0:=jz 0 A ig (λf e A outer s H E d=>have b:=d.units;have nd:=ig.nd
 (cJ (lR bh rfl (Kk (b9 0)) (eS 3 nd)
    (c8 (jx (vd (hW (EU b) (b9 3) (b9 1)) (xc (hW yf (xb b (b9 1) (b9 3)) (b9 2)))).pb (c8 (hV oj)) jB)))
   (c8 (hV oj)))) VZ (by walk_at"bn")
variable(fh:Known P w K mg base 1 "are_behind" 3 y0)
include T in
theorem Wh(A:At K mg "common_of" (top 6)):Known P w K mg base 1 "common_of" 2 zd:=jz 0 A iW (λf e A outer s H E b=>have d:=b.units;have nd:=iW.nd
 (cJ (fV 2 (j3 (Bu rfl) T.b_max boot_max (cw (dz (b9 0) cz) (cw (dz (b9 1) cz) cG))) nd)
   (cJ (jx (hW yf (b9 2) (j3 (Je rfl) T.b_min boot_min (cw (dz (b9 0) cz) (cw (dz (b9 1) cz) cG)))) (c8 (hV o7)) jB)
   (c8 (hV (b9 2)))))) V6 (by walk_at"bn")
variable(fS:Known P w K mg base 1 "common_of" 2 zd)
include T fS in
theorem Wg(A:At K mg "may_share" (top 24)):Known P w K mg base 2 "may_share" 2 zc:=jz 1 A iU (λf e A outer s H E b=>have d:=b.units;have nd:=iU.nd
 (c8 (hV (Ou (qe Bo (fY fS b (cw (b9 0) (cw (b9 1) cG))) o7) (sx (rB (qe Kq (dz (b9 0) cz) o7) (sx (qe (my d) (dz (b9 0) cz) (dz (b9 1) cz))))))))) V5 (by walk_at"bn")
variable(fR:Known P w K mg base 2 "may_share" 2 zc)
include T fR in
theorem Wt(A:At K mg "may_join" (top 23)):Known P w K mg base 3 "may_join" 3 y7:=jz 2 A jC (λf g A outer s H E b=>have e:=b.units;have nd:=jC.nd
 (c8 (hV (j3 (DZ rfl) T.b_all boot_all (cw (mE rfl (.of (N':=["other","pieces","number"]) (m:=[none,some 0,some 2]) (by kernel_rfl)) jW (jO (b9 1)) (λs3 d ex=>(eS 0 VF)) (λs3 d ex=>k9) (λs3 d ex=>(fY fR b (cw (dz (b9 1) (b9 0)) (cw (dz (b9 1) (b9 2)) cG))))) cG))))) VW (by walk_at"bn")
variable(gu:Known P w K mg base 3 "may_join" 3 y7)
include T dR fO fh gu in
theorem VD(A:At K mg "by_rows" (top 20)):Known P w K mg base 4 "by_rows" 2 xx:=jz 3 A j5 (λf g A outer s H E d=>have e:=d.units;have nd:=j5.nd
 (cJ (fV 2 (fY fO d (cw (b9 0) (cw (b9 1) cG))) nd)
   (cJ (fV 3 (fY dR d (cw (b9 0) cG)) nd)
   (cJ (ku 4 (mE rfl (.of (N':=["piece"]) (m:=[none]) (by kernel_rfl)) jW (jO (b9 0)) (λs3 b ex=>(eS 0 Vl)) (λs3 b ex=>k9) (λs3 b ex=>o7)) nd)
   (cJ (ku 5 yK nd)
   (cJ (lR bh rfl (vv T.b_range (cw (j3 (Jf rfl) T.b_sum boot_sum (cw (mE rfl (.of (N':=["piece"]) (m:=[none]) (by kernel_rfl)) jW (jO (b9 0)) (λs3 b ex=>(eS 0 Vk)) (λs3 b ex=>k9) (λs3 b ex=>(dz (b9 0) cz))) cG)) cG)) (eS 6 nd)
    (cJ (ET 5 7 rfl (.of (N':=["number","track","ends"]) (m:=[none,some 6,some 5]) (by kernel_rfl)) jW (Kk (b9 5)) (λs3 b ex=>(eS 0 Vj)) (λs3 b ex=>(yM (hW yf (xb e (b9 2) (b9 0)) (b9 1)))) (λs3 b ex=>(b9 0)) nd)
   (cJ (lR bh rfl (jO (b9 3)) (eS 8 nd)
    (c8 (jx (En (qd (J8 5 (fY fh d (cw (dz (b9 2) (b9 8)) (cw (b9 5) (cw (b9 6) cG)))))) (EW (qd (J8 7 (fY gu d (cw (b9 0) (cw (b9 7) (cw (b9 8) cG)))))))).pb (cJ (Cd 4 (b9 8) (b9 6))
   (cJ (yE e 5 (b9 8) (cR iq (b9 6) (dz (dz (b9 0) (b9 8)) cz)))
   (c8 (tW 7 (b9 8))))) jB)))
   (cJ (ET 4 3 rfl (.of (N':=["number","tracks"]) (m:=[none,some 4]) (by kernel_rfl)) jW (jO (b9 3)) (λs3 b ex=>(eS 0 Vi)) (λs3 b ex=>(yM (hW Bo (dz (b9 1) (b9 0)) o7))) (λs3 b ex=>(b9 0)) nd)
   (vm 3 jB)))))
   (c8 (vk 4)))))))) VM (by walk_at"bn")
variable(eG:Known P w K mg base 4 "by_rows" 2 xx)
include T in
theorem Ws(A:At K mg "count_of" (top 12)):Known P w K mg base 1 "count_of" 2 sF:=jz 0 A jE (λf g A outer s H E e=>have d:=e.units;have nd:=jE.nd
 (c8 (hV (Rl rfl d (mE rfl (.of (N':=["piece","track"]) (m:=[none,none]) (by kernel_rfl)) Fx (RB T.b_zip (cw (b9 0) (cw (b9 1) cG))) (λs3 b ex=>(sA rfl (ky (eS 0 L8) (ky (eS 1 L8) sE)))) (λs3 b ex=>k9) (λs3 b ex=>(cR iq (b9 1) (dz (b9 0) cz)))) cz T.b_max)))) VV (by walk_at"bn")
variable(cT:Known P w K mg base 1 "count_of" 2 sF)
variable(hJ:tK P w K mg base 1 "NoOrder" "ring")
theorem iV:ck ["pieces","above","rank"] ["pieces","above"] (bZ (top 26)):=by walk_at"sc"
include T fB hJ in
theorem WT(A:At K mg "levels_of" (top 26)):fg P w K mg base 3 "levels_of" 2 yY:=LN (T:=CB) 2 A iV (λg f e A outer s H E b=>have d:=b.units;have nd:=iV.nd
 (Fi (Jj (ku 2 (fY fB b (cw (j3 tS T.b_len boot_len (cw (b9 0) cG)) (cw (b9 1) cG))) nd))
   (Fi (Pn (vh 2 (hW (my d) (dz (b9 2) cz) o8)) (K7 (Uj 2 hJ b rfl rfl RY)) (Kl jB))
   (K7 (Jj (S0 2)))))) VX (by walk_at"bn")
variable(fN:fg P w K mg base 3 "levels_of" 2 yY)
theorem kO:ck ["pieces","above","leveled","rowed"] ["pieces","above"] (bZ (top 25)):=by walk_at"sc"
include T dg eG cT fN in
theorem VC(A:At K mg "packed" (top 25)):fg P w K mg base 5 "packed" 2 yT:=LN (T:=Cn) 4 A kO (λg f e A outer s H E b=>have d:=b.units;have nd:=kO.nd
 (Fi (Qa 2 (Ul dg b (Lo (Po (b9 0)) (Lo (Uk fN b rfl Qd (Km (cw (b9 0) (cw (b9 1) cG)))) (Km cG)))) nd)
   (Kl (cJ (ku 3 (fY eG b (cw (b9 0) (cw (b9 1) cG))) nd)
   (cJ (jx (vh 3 (vh 2 (hW yf (fY cT b (cw (b9 0) (cw (b9 3) cG))) (fY cT b (cw (b9 0) (cw (b9 2) cG)))))) (c8 (vk 2)) jB)
   (c8 (vk 3))))))) Vm (by walk_at"bn")
variable(jd:fg P w K mg base 5 "packed" 2 yT)
variable(du:PySem.W.nsIn K mainGlobals "NoOrder"=some (some (.ref cj)))(XM:PySem.W.exmOne K (.ref cj) (.ref cj)=some true)(XF:wG K cj "ring")(EK:uT K cj)(fk:mg "NoOrder"=some (.ref cj))(dY:mg "WireError"=some (.ref cX))(fm:mg "BadText"=some (.ref dy))(eF:mg "NoLayout"=some (.ref cZ))(I1:PySem.W.kitOne K (.ref cj) (.ref cX)=some true)(I2:PySem.W.kitOne K (.ref cj) (.type "ValueError")=some true)(I3:PySem.W.kitAny K (.ref cj) [.ref dy,.ref cZ]=some false)
include T jd du XM XF EK fk dY fm eF I1 I2 I3 in
theorem WD(A:At K mg "_law_packed" (top 37)):Known P w K mg base 6 "_law_packed" 2 y3:=jz 5 A gP (λf j A outer s H E d=>have g:=d.units;have nd:=gP.nd
 (cJ (ku 2 o7 nd)
   (cJ (ku 3 o7 nd)
   (cJ (fV 4 oj nd)
   (cJ (P7 2 5 3 jd d fk (P5 du XM XF) (by decide) rfl nd (cw (b9 0) (cw (b9 1) cG)) (λa=>(c8 (fV 4 (rB (Qj (b:=true) (b9 5) EK du T.b_isinstance dY I1) (rB (Qi (b:=true) (b9 5) EK du T.b_isinstance T.b_ValueError (by decide +kernel) I2) (sx (Em (R1 (cs:=[("BadText",dy,_),("NoLayout",cZ,_)]) (b:=false) (b9 5) EK du T.b_isinstance (List.forall_mem_cons.mpr ⟨⟨fm,rfl,show(("BadText":Str)==("__debug__":Str))=false by decide⟩,(List.forall_mem_cons.mpr ⟨⟨eF,rfl,show(("NoLayout":Str)==("__debug__":Str))=false by decide⟩,(λ_ h=>nomatch h)⟩)⟩) I3 (show 2<=sizeLine by decide +kernel) (by intro i h;obtain⟨l,e⟩:=h;subst e;rcases l with _ | _ | _ | _<;>rfl)))))) nd))))
   (cJ (jx (vh 2 (hW Kq (b9 2) o7)) (c8 (Kh 2 oj)) jB)
   (cJ (jx (ve (qd (b9 4))) (c8 (ku 3 o7 nd)) jB)
   (c8 (Kh 3 oj))))))))) WW (by walk_at"bn")
variable(eK:Known P w K mg base 6 "_law_packed" 2 y3)
include T in
theorem WS(A:At K mg "_law_whole" (top 35)):Known P w K mg base 1 "_law_whole" 1 yZ:=jz 0 A ij (λf e A outer s H E b=>have d:=b.units;have nd:=ij.nd
 (c8 (hV (rB (rA (b9 0) T.b_isinstance T.b_int boot_int) (sx (Em (rA (b9 0) T.b_isinstance T.b_bool boot_bool))))))) VY (by walk_at"bn")
variable(fi:Known P w K mg base 1 "_law_whole" 1 yZ)
include T fi in
theorem W0(A:At K mg "_law_is_ring" (top 36)):Known P w K mg base 2 "_law_is_ring" 2 xA:=jz 1 A gD (λf g A outer s H E d=>have b:=d.units;have nd:=gD.nd
 (cJ (jx (vd (ve (qd (rA (b9 0) T.b_isinstance T.b_list boot_list))) (xc (hW (my b) (j3 tS T.b_len boot_len (cw (b9 0) cG)) cz))).pb (c8 (hV oj)) jB)
   (cJ (ku 2 yK nd)
   (cJ (lR bh rfl (Cg T.b_enumerate (cw (b9 0) cG)) (sA rfl (ky (eS 3 nd) (ky (eS 4 nd) sE)))
    (cJ (fV 5 (dz (b9 0) (cR jh (cR iq (b9 3) cz) (j3 tS T.b_len boot_len (cw (b9 0) cG)))) nd)
   (cJ (jx (vd (ve (qd (rA (b9 4) T.b_isinstance T.b_tuple boot_tuple))) (xc (ve (qd (j3 (DZ rfl) T.b_all boot_all (cw (mE rfl (.of (N':=["_law_part"]) (m:=[none]) (by kernel_rfl)) jW (jO (b9 4)) (λs3 e ex=>(eS 0 WE)) (λs3 e ex=>k9) (λs3 e ex=>(fY fi d (cw (b9 0) cG)))) cG)))))).pb (c8 (hV oj)) jB)
   (cJ (jx (vd (hW (QS b) (b9 4) (b9 1)) (vd (hW (wK b) (dz (b9 4) cz) (dz (b9 5) cz)) (xc (vh 2 (hW (OS b) (dz (b9 4) cz) (b9 2)))))).pb (c8 (hV oj)) jB)
   (c8 (yE b 2 (dz (b9 4) cz) oj))))))
   (c8 (hV oj)))))) WK (by walk_at"bn")
variable(dh:Known P w K mg base 2 "_law_is_ring" 2 xA)
theorem xD(T:Txt K mg){sH:eJ}{k kk:Nat}(g:0<=k)(e:kk<=k)(dw:Known P w K mg base kk "_law_alike" 2 sH){f:Addr}(c:Value)(A:Around)(outer:List Env)(s:Shared)(H:Hp)(E:XK)(b:dG k (A.deeper (envOfC "_law_alike" (bZ cY) s.heap.objs.size f c))) :
  kX (jV jt P w K mg base ["_law_found","_law_due"] "_law_alike" (bZ cY) f c A outer s H E).lg (cO cY) (CC sH):=by
 have a:=b.units;show(cJ (jx (qd (Kg (b9 1) T.b_isinstance T.b_list T.b_tuple boot_list boot_tuple)) (cJ (jx (vd (ve (qd (Kg (b9 0) T.b_isinstance T.b_list T.b_tuple boot_list boot_tuple))) (xc (hW (wK a) (rA (b9 0) T.b_isinstance T.b_list boot_list) (rA (b9 1) T.b_isinstance T.b_list boot_list)))).pb (c8 (hV oj)) jB)
   (c8 (hV (rB (qe (my a) (j3 tS T.b_len boot_len (cw (b9 0) cG)) (j3 tS T.b_len boot_len (cw (b9 1) cG))) (sx (j3 (DZ rfl) T.b_all boot_all (cw (mE rfl (.of (N':=["_law_one","_law_other"]) (m:=[none,none]) (by kernel_rfl)) Fx (S1 T.b_zip (cw (b9 0) (cw (b9 1) cG))) (λs3 d ex=>(sA rfl (ky (eS 0 Ma) (ky (eS 1 Ma) sE)))) (λs3 d ex=>k9) (λs3 d ex=>(fY (hk:=e) dw b (cw (b9 0) (cw (b9 1) cG))))) cG))))))) jB)
   (cJ (jx (qd (rA (b9 1) T.b_isinstance T.b_str boot_str)) (c8 (hV (rB (rA (b9 0) T.b_isinstance T.b_str boot_str) (sx (qe (my a) (b9 0) (b9 1)))))) jB)
   (cJ (jx (hW Bo (b9 1) o7) (c8 (hV (qe Bo (b9 0) o7))) jB)
   (c8 (hV (rB (rA (b9 0) T.b_isinstance T.b_int boot_int) (rB (Em (rA (b9 0) T.b_isinstance T.b_bool boot_bool)) (sx (qe (my a) (b9 0) (b9 1))))))))))
theorem WR(A:At K mg "_law_alike" cY)(T:Txt K mg) :Known P w K mg base 7 "_law_alike" 2 sH:=by
 obtain⟨f,fd,F,hm⟩:=A.ex;have k0:Known P w K mg base 1 "_law_alike" 2 (pd 0):=⟨⟨f,fd,["_law_found","_law_due"],sy (k:=0) (T:=λ_ _=>False) F vy (λ_ _ _ _ _ _ _=>Ua) (λ_ _ _ h=>h),hm,F.kp,F.binds λ_ _ _ _ _ _ us a=>by obtain⟨_,_,rfl⟩:=rW a;show rfl⟩⟩
 have k1:Known P w K mg base 2 "_law_alike" 2 (pd 1):=⟨⟨f,fd,["_law_found","_law_due"],sy (k:=1) F vy (xD T  (by decide) (au _) k0) (xB 0),hm,F.kp,F.binds λ_ _ _ _ _ _ us a=>by obtain⟨_,_,rfl⟩:=rW a;show rfl⟩⟩
 have g:Known P w K mg base 3 "_law_alike" 2 (pd 2):=⟨⟨f,fd,["_law_found","_law_due"],sy (k:=2) F vy (xD T  (by decide) (au _) k1) (xB 1),hm,F.kp,F.binds λ_ _ _ _ _ _ us a=>by obtain⟨_,_,rfl⟩:=rW a;show rfl⟩⟩
 have e:Known P w K mg base 4 "_law_alike" 2 (pd 3):=⟨⟨f,fd,["_law_found","_law_due"],sy (k:=3) F vy (xD T  (by decide) (au _) g) (xB 2),hm,F.kp,F.binds λ_ _ _ _ _ _ us a=>by obtain⟨_,_,rfl⟩:=rW a;show rfl⟩⟩
 have d:Known P w K mg base 5 "_law_alike" 2 (pd 4):=⟨⟨f,fd,["_law_found","_law_due"],sy (k:=4) F vy (xD T  (by decide) (au _) e) (xB 3),hm,F.kp,F.binds λ_ _ _ _ _ _ us a=>by obtain⟨_,_,rfl⟩:=rW a;show rfl⟩⟩
 have c:Known P w K mg base 6 "_law_alike" 2 (pd 5):=⟨⟨f,fd,["_law_found","_law_due"],sy (k:=5) F vy (xD T  (by decide) (au _) d) (xB 4),hm,F.kp,F.binds λ_ _ _ _ _ _ us a=>by obtain⟨_,_,rfl⟩:=rW a;show rfl⟩⟩
 have b:Known P w K mg base 7 "_law_alike" 2 (pd 6):=⟨⟨f,fd,["_law_found","_law_due"],sy (k:=6) F vy (xD T  (by decide) (au _) c) (xB 5),hm,F.kp,F.binds λ_ _ _ _ _ _ us a=>by obtain⟨_,_,rfl⟩:=rW a;show rfl⟩⟩
 show b
variable(dw:Known P w K mg base 7 "_law_alike" 2 sH)
include T in
theorem Wf(A:At K mg "pieces_in" (top 19)):Known P w K mg base 1 "pieces_in" 2 y9:=jz 0 A iT (λf g A outer s H E d=>have e:=d.units;have nd:=iT.nd
 (c8 (hV (mE rfl (.of (N':=["piece","column"]) (m:=[none,some 1]) (by kernel_rfl)) jW (jO (b9 0)) (λs3 b ex=>(eS 0 Ww)) (λs3 b ex=>(yM (Sn DV DV (dz (b9 0) cz) (b9 1) (dz (b9 0) cz)))) (λs3 b ex=>(b9 0)))))) WC (by walk_at"bn")
variable(fQ:Known P w K mg base 1 "pieces_in" 2 y9)
include T fQ in
theorem WZ(A:At K mg "most_in_column" (top 18)):Known P w K mg base 2 "most_in_column" 1 zf:=jz 1 A fL (λf g A outer s H E b=>have e:=b.units;have nd:=fL.nd
 (c8 (hV (j3 (Bu rfl) T.b_max boot_max (cw (mE rfl (.of (N':=["begun","pieces"]) (m:=[none,some 0]) (by kernel_rfl)) jW (jO (b9 0)) (λs3 d ex=>(eS 0 W7)) (λs3 d ex=>k9) (λs3 d ex=>(j3 tS T.b_len boot_len (cw (fY fQ b (cw (b9 1) (cw (dz (b9 0) cz) cG))) cG)))) cG))))) WY (by walk_at"bn")
variable(dv:Known P w K mg base 2 "most_in_column" 1 zf)
include T cN dv in
theorem VO(A:At K mg "bound_of" (top 17)):Known P w K mg base 3 "bound_of" 2 y4:=jz 2 A jF (λf g A outer s H E b=>have e:=b.units;have nd:=jF.nd
 (cJ (fV 2 cz nd)
   (cJ (lR bh rfl (jO (fY cN b (cw (b9 0) (cw (b9 1) cG)))) (eS 3 nd)
    (cJ (Sj 4 rfl (.of (N':=["number","pieces"]) (m:=[none,some 0]) (by kernel_rfl)) jW (jO (b9 3)) (λs3 d ex=>(eS 0 VE)) (λs3 d ex=>k9) (λs3 d ex=>(dz (b9 1) (b9 0))) nd)
   (c8 (fV 2 (cR iq (b9 2) (cR sf (dz (dz (b9 4) cz) cz) (fY dv b (cw (b9 4) cG)))) nd))))
   (c8 (hV (b9 2)))))) VU (by walk_at"bn")
variable(gv:Known P w K mg base 3 "bound_of" 2 y4)
include T fU fj eA fB dg eG cT eK dh dw gv in
theorem Ob{f:Addr}(c:Value)(A:Around)(outer:List Env)(s:Shared)(H:Hp)(E:XK)(a:dG 7 (A.deeper (envOfC "law" (bZ (top 38)) s.heap.objs.size f c))) :
  kX (jV jt P w K mg base ["_law_script","_law_first","_law_pieces","_law_above","_law_turned","_law_handed","_law_found","_law_order","_law_fine","_law_rows","_law_due"] "law" (bZ (top 38)) f c A outer s H E).lg (cO (top 38)) yn:=
 have b:=a.units;have nd:=qp.nd
 (cJ (fV 1 (cR jh (j3 (Jf rfl) T.b_sum boot_sum (cw (qh (b9 0) sD (oo cz)) cG)) (cR Bv cz cz)) nd)
   (cJ (fV 2 (fY fU a (cw (fY fj a (cw (b9 1) cG)) (cw (b9 1) (cw (qh (b9 0) (oo cz) (oo cz)) (cw (qe (my b) (cR jh (b9 1) cz) cz) cG))))) nd)
   (cJ (ku 3 (fY eA a (cw (b9 1) (cw (qh (b9 0) (oo cz) sD) (cw (j3 tS T.b_len boot_len (cw (b9 2) cG)) cG)))) nd)
   (cJ (jx (En (hW (my b) (cR jh (cR lS (b9 1) cz) cz) cz) (EW (hW yf (yL 3 T.b_len) cz))).pb (cJ (SV 4 3 (cR jh (b9 1) (yL 3 T.b_len)) (hnd:=nd))
   (c8 (tW 3 (vc (cw (dz (b9 4) cz) (cw (dz (b9 4) cz) (cw (dz (b9 4) cz) cG))))))) jB)
   (vm 3 (cJ (ku 5 (Ql (qk sv T.b_list boot_list (cw (b9 2) cG)) (qk sv T.b_list boot_list (cw (b9 3) cG))) nd)
   (cJ (fV 6 (RX 5 (fY eK a (cw (dz (b9 5) cz) (cw (dz (b9 5) cz) cG)))) nd)
   (cJ (fV 7 (fY fB a (cw (j3 tS T.b_len boot_len (cw (b9 2) cG)) (cw (qk sv T.b_list boot_list (cw (b9 3) cG)) cG))) nd)
   (cJ (jx (vh 5 (vd (hW (wK b) (b9 5) (qc (cw (b9 2) (cw (b9 3) cG)))) (xc (hW (wK b) (qe (my b) (dz (b9 7) cz) o8) (dz (b9 6) cz)))).pb) (c8 (hV oj)) jB)
   (cJ (jx (ve (qd (dz (b9 6) cz))) (cJ (fV 8 (fY dh a (cw (dz (b9 6) cz) (cw (b9 3) cG))) nd)
   (cJ (P6 5 cz)
   (c8 (hV (rB (b9 8) (sx (fY dh a (cw (dz (b9 6) cz) (cw (b9 3) cG))))))))) jB)
   (cJ (fV 9 (fY eG a (cw (qk sv T.b_list boot_list (cw (b9 2) cG)) (cw (qk sv T.b_list boot_list (cw (b9 3) cG)) cG))) nd)
   (cJ (fV 10 (fY dg a (cw (qk sv T.b_list boot_list (cw (b9 2) cG)) (cw (qk sv T.b_list boot_list (cw (dz (b9 7) cz) cG)) cG))) nd)
   (cJ (jx (hW IA (fY cT a (cw (b9 2) (cw (b9 9) cG))) (fY cT a (cw (b9 2) (cw (b9 10) cG)))) (c8 (fV 10 (b9 9) nd)) jB)
   (c8 (hV (rB (fY dw a (cw (dz (b9 6) cz) (cw (b9 10) cG))) (sx (qe IA (fY cT a (cw (b9 2) (cw (dz (b9 6) cz) cG))) (fY gv a (cw (qk sv T.b_list boot_list (cw (b9 2) cG)) (cw (qk sv T.b_list boot_list (cw (dz (b9 7) cz) cG)) cG)))))))))))))))))))))
theorem vP{fa:Addr}(T:Txt K mg)(U:At K mg "_law_mix" (top 30)/\At K mg "_law_some" (top 32)/\At K mg "_law_stem" (top 28)/\At K mg "_law_named" (top 29)/\At K mg "_law_rank" (top 33)/\At K mg "_law_triples" (top 34)/\At K mg "levels_found" (top 9)/\At K mg "ring_without" (top 10)/\At K mg "ranked" (top 8)/\At K mg "in_order" (top 15)/\At K mg "level_groups" (top 14)/\At K mg "strips_of" (top 16)/\At K mg "by_levels" (top 13)/\At K mg "uppers_of" (top 21)/\At K mg "are_behind" (top 22)/\At K mg "common_of" (top 6)/\At K mg "may_share" (top 24)/\At K mg "may_join" (top 23)/\At K mg "by_rows" (top 20)/\At K mg "count_of" (top 12)/\At K mg "_law_packed" (top 37)/\At K mg "_law_whole" (top 35)/\At K mg "_law_is_ring" (top 36)/\At K mg "pieces_in" (top 19)/\At K mg "most_in_column" (top 18)/\At K mg "bound_of" (top 17)/\At K mg "law" (top 38)/\True)(gw:At K mg "_law_alike" cY)(jv:Iz K mg "NoOrder" "NoOrder.__init__" "ring" jn)(t:At K mg "levels_of" (top 26))(b:At K mg "packed" (top 25))(du:PySem.W.nsIn K mainGlobals "NoOrder"=some (some (.ref cj)))(XM:PySem.W.exmOne K (.ref cj) (.ref cj)=some true)(XF:wG K cj "ring")(EK:uT K cj)(fk:mg "NoOrder"=some (.ref cj))(dY:mg "WireError"=some (.ref cX))(fm:mg "BadText"=some (.ref dy))(eF:mg "NoLayout"=some (.ref cZ))(I1:PySem.W.kitOne K (.ref cj) (.ref cX)=some true)(I2:PySem.W.kitOne K (.ref cj) (.type "ValueError")=some true)(I3:PySem.W.kitAny K (.ref cj) [.ref dy,.ref cZ]=some false)(tf:mg "law"=some (.ref fa)):∃fd:FuncData,(∀(s:Shared)(u:Value),BindsTo s fd ⟨[u],[]⟩ [("_law_script",u)])/\∀base:Heap,iC P w K mg base jt 8 fa fd ["_law_script"] (x9 K 1 (DY 63)):=by
 obtain⟨g,o,p,z,n,I,L,M,d,j,J,y,q,D,C,r,v,m,e,i,N,B,F,x,O,h,S,_⟩:=U;show OZ (T:=λ_=>yn) S tf qp (by walk_at"bn") (λbase f R A outer s H E Q=>?_) (λ_=>R6);have cK:Known P w K mg base 1 "_law_mix" 2 sG:=Wv T g;have fU:Known P w K mg base 2 "_law_some" 4 y8:=Wn T cK o;have fT:Known P w K mg base 1 "_law_stem" 2 ze:=Wm T p;have fj:Known P w K mg base 2 "_law_named" 1 y1:=WV T fT z;have eQ:Known P w K mg base 2 "_law_rank" 2 xw:=Wl T cK n;have eA:Known P w K mg base 3 "_law_triples" 3 zi:=W5 T cK eQ I;have ez:Known P w K mg base 1 "levels_found" 2 zh:=W4 T L;have eu:Known P w K mg base 1 "ring_without" 2 zg:=W3 T M;have fB:Known P w K mg base 2 "ranked" 2 xi:=Vh T ez eu d;have dR:Known P w K mg base 1 "in_order" 1 xu:=Wu T j;have cN:Known P w K mg base 2 "level_groups" 2 xC:=W2 T dR J;have fP:Known P w K mg base 1 "strips_of" 2 za:=Wk T y;have dg:Known P w K mg base 3 "by_levels" 2 xv:=Wj T cN fP q;have fO:Known P w K mg base 1 "uppers_of" 2 zb:=Wi T D;have fh:Known P w K mg base 1 "are_behind" 3 y0:=WU T C;have fS:Known P w K mg base 1 "common_of" 2 zd:=Wh T r;have fR:Known P w K mg base 2 "may_share" 2 zc:=Wg T fS v;have gu:Known P w K mg base 3 "may_join" 3 y7:=Wt T fR m;have eG:Known P w K mg base 4 "by_rows" 2 xx:=VD T dR fO fh gu e;have cT:Known P w K mg base 1 "count_of" 2 sF:=Ws T i;have hJ:tK P w K mg base 1 "NoOrder" "ring":=P4 jv Uq rfl (by walk_at"bn");have fN:fg P w K mg base 3 "levels_of" 2 yY:=WT T fB hJ t;have jd:fg P w K mg base 5 "packed" 2 yT:=VC T dg eG cT fN b;have eK:Known P w K mg base 6 "_law_packed" 2 y3:=WD T jd du XM XF EK fk dY fm eF I1 I2 I3 N;have fi:Known P w K mg base 1 "_law_whole" 1 yZ:=WS T B;have dh:Known P w K mg base 2 "_law_is_ring" 2 xA:=W0 T fi F;have dw:Known P w K mg base 7 "_law_alike" 2 sH:=WR gw T ;have fQ:Known P w K mg base 1 "pieces_in" 2 y9:=Wf T x;have dv:Known P w K mg base 2 "most_in_column" 1 zf:=WZ T fQ O;have gv:Known P w K mg base 3 "bound_of" 2 y4:=VO T cN dv h;show Ob T fU fj eA fB dg eG cT eK dh dw gv R A outer s H E Q
end
end Wc
open PySem PySem.W PyProof.Rows
theorem PySem.W.Fast.te3645217992624465404:True:=trivial
noncomputable def PySem.W.Fast.tw3463985615905596915:PySem.Program:=PySem.Challenge.pw_wirechannel_k34_the_better_one
theorem PySem.W.Fast.te3463985615905596915:PySem.Challenge.pw_wirechannel_k34_the_better_one=PySem.W.Fast.tw3463985615905596915:=rfl
noncomputable def PySem.W.Fast.tw5429078681507473469:List PySem.Stmt:=(PySem.Challenge.pw_wirechannel_k34_the_better_one.main.body.drop 0).take 2
theorem PySem.W.Fast.te5429078681507473469:(PySem.Challenge.pw_wirechannel_k34_the_better_one.main.body.drop 0).take 2=PySem.W.Fast.tw5429078681507473469:=rfl
noncomputable def PySem.W.Fast.tw10448649749872672940:List PySem.Stmt:=(PySem.Challenge.pw_wirechannel_k34_the_better_one.main.body.drop 2).take 1
theorem PySem.W.Fast.te10448649749872672940:(PySem.Challenge.pw_wirechannel_k34_the_better_one.main.body.drop 2).take 1=PySem.W.Fast.tw10448649749872672940:=rfl
noncomputable def PySem.W.Fast.tw3405081016953057151:List PySem.Stmt:=(PySem.Challenge.pw_wirechannel_k34_the_better_one.main.body.drop 3).take 1
theorem PySem.W.Fast.te3405081016953057151:(PySem.Challenge.pw_wirechannel_k34_the_better_one.main.body.drop 3).take 1=PySem.W.Fast.tw3405081016953057151:=rfl
noncomputable def PySem.W.Fast.tw7558883441914228185:List PySem.Stmt:=(PySem.Challenge.pw_wirechannel_k34_the_better_one.main.body.drop 4).take 8
theorem PySem.W.Fast.te7558883441914228185:(PySem.Challenge.pw_wirechannel_k34_the_better_one.main.body.drop 4).take 8=PySem.W.Fast.tw7558883441914228185:=rfl
noncomputable def PySem.W.Fast.tw11612301423438331613:List PySem.Stmt:=(PySem.Challenge.pw_wirechannel_k34_the_better_one.main.body.drop 12).take 14
theorem PySem.W.Fast.te11612301423438331613:(PySem.Challenge.pw_wirechannel_k34_the_better_one.main.body.drop 12).take 14=PySem.W.Fast.tw11612301423438331613:=rfl
noncomputable def PySem.W.Fast.tw10072565827425147241:List PySem.Stmt:=(PySem.Challenge.pw_wirechannel_k34_the_better_one.main.body.drop 26).take 13
theorem PySem.W.Fast.te10072565827425147241:(PySem.Challenge.pw_wirechannel_k34_the_better_one.main.body.drop 26).take 13=PySem.W.Fast.tw10072565827425147241:=rfl
namespace PySem.W.Fast
def tw16440699794287155113:=Nat
def tw14825632927210453217:=Nat
def tw7452988412945445862:=Nat
def tw17959782797896960105:=Nat
def tw16482778373505357192:=Nat
def tw389024406726616850:=Nat
def tw17567006691117516483:=Nat
def tw16947348634345397826:=Nat
def tw13536840894834014114:=Nat
def tw1395687943363176259:=Nat
def tw10903772935659856473:=Nat
def tw5941048683526074376:=Nat
def tw13505224457391327154:=Nat
def tw4630548817536553595:=Nat
def tw1674781167289024569:=Nat
def tw15115027348500234444:=Nat
def tw10106514717644553315:=Nat
def tw12009180984439335539:=Nat
def tw8129415832643273918:=Nat
def tw14722727066543853257:=Nat
def tw974062639479633738:=Nat
def tw18162201700915986065:=Nat
def tw11962931207154098679:=Nat
def tw11650376478356597553:=Nat
def tw12177097077014762271:=Nat
def tw12660170893635069226:=Nat
def tw7172119097161467080:=Nat
def tw4275910938497674012:=Nat
def tw7444886930517744054:=Nat
def tw5260157002307366525:=Nat
def tw3175126445491944468:=Nat
def tw9996878384571079717:=Nat
def tw14254555309688684401:=Nat
def tw10636493805537050413:=Nat
def tw757764162640833427:=Nat
def tw13340020217764879048:=Nat
def tw7819430705288157292:=Nat
def tw7907661378100285095:=Nat
def tw7824093905175136121:=Nat
def tw16463132036383702933:=Nat
def tw6221810787994712549:=Nat
def tw11581177781425895758:=Nat
def tw16326112464983760143:=Nat
def tw2786284447010352035:=Nat
def tw10578573117871424505:=Nat
def tw7274094387697035024:=Nat
def tw2350331643087533958:=Nat
def tw599790364925014226:=Nat
def tw11337691641477170587:=Nat
def tw15146174911680236502:=Nat
def tw15763938418493057680:=Nat
def tw4730315687509003882:=Nat
def tw13184434030785349958:=Nat
def tw9158724638425233655:=Nat
def tw6834699854802923725:=Nat
def tw4901200006891056496:=Nat
def tw18265924964251174446:=Nat
def tw11845102294953838717:=Nat
def tw5230911252650304023:=Nat
def tw15194846489071879262:=Nat
def tw15417165925688487564:=Nat
def tw10053540801118816519:=Nat
def tw2127871877262236391:=Nat
def tw8377963677528110973:=Nat
def tw12745244678375745097:=Nat
def tw15385521607645661595:=Nat
def tw13352813111737763042:=Nat
def tw7996484638749487163:=Nat
def tw17400717175066394755:=Nat
def tw6684599356707897828:=Nat
def tw16595064225456954350:=Nat
def tw4833168188977376376:=Nat
def tw2328304190777236164:=Nat
def tw16349793663533509032:=Nat
def tw5989859895068743465:=Nat
def tw7521855438579631569:=Nat
def tw15845675871593528202:=Nat
def tw12379135660430825508:=Nat
def tw8962171987184657847:=Nat
def tw7292439350383036087:=Nat
def tw10112238341408536442:=Nat
def tw1446136231375477614:=Nat
def tw4709018346813398106:=Nat
def tw2372742133820067684:=Nat
def tw11348498367315931028:=Nat
def tw13616486477641845318:=Nat
def tw2106271979943751887:=Nat
def tw1885294602800583816:=Nat
def tw11216572392719128063:=Nat
def tw17107448385946381098:=Nat
def tw11263088419685405034:=Nat
def tw6360260000750496860:=Nat
def tw13566189195853856000:=Nat
def tw116287416422997864:=Nat
def tw15876094039355878931:=Nat
def tw14475589035681130409:=Nat
def tw9290483121349270065:=Nat
def tw1684248910755878025:=Nat
def tw4393804836280915267:=Nat
def tw17303059222655989188:=Nat
def tw8849913464461872399:=Nat
def tw17041731636725168204:=Nat
def tw5628559203227504943:=Nat
def tw6117202301243002168:=Nat
def tw12953057211709267473:=Nat
def tw8851354857161187213:=Nat
def tw16432231753377635775:=Nat
def tw8557818812209472321:=Nat
def tw2056027418606389356:=Nat
def tw3873667442382064248:=Nat
def tw3311628898697561331:=Nat
def tw4040897197263246231:=Nat
def tw9456270693894164527:=Nat
def tw2546802585023632102:=Nat
def tw6143499568816374791:=Nat
def tw17316698614842109711:=Nat
def tw9708301860192702096:=Nat
def tw11631238905525603433:=Nat
def tw10787516994559511681:=Nat
def tw7788638521916545620:=Nat
def tw8015262176827471048:=Nat
def tw12330881438347576438:=Nat
def tw1205699642235898232:=Nat
def tw11589459245588545984:=Nat
def tw4396777736284630944:=Nat
def tw6805642321280727976:=Nat
def tw18162235507422465832:=Nat
def tw7146159530811499555:=Nat
def tw7559106787147266763:=Nat
def tw146052659351516594:=Nat
def tw2372571321463433335:=Nat
def tw7803978902359407250:=Nat
def tw7517926531038050047:=Nat
def tw1786303078268967350:=Nat
def tw9602279499934465554:=Nat
def tw5853061432955583326:=Nat
def tw4341398299582003820:=Nat
def tw5923845218101918866:=Nat
def tw5420102989914647683:=Nat
def tw11708934818023492829:=Nat
def tw18434468332743494586:=Nat
def tw6308548757669100562:=Nat
def tw7442598435873598734:=Nat
def tw12057439623930873114:=Nat
def tw9537130929749330092:=Nat
def tw7712056017628954612:=Nat
def tw6885208085743581233:=Nat
def tw11070591436822687424:=Nat
def tw16886043010297403097:=Nat
end PySem.W.Fast
noncomputable def PySem.W.Fast.tw4024308438501550209:PySem.Program:={ PySem.Challenge.pw_wirechannel_k34_the_better_one with main:={ PySem.Challenge.pw_wirechannel_k34_the_better_one.main with body:=[1,2,3,4,6,8,9,10,12,13,14,15,16,17,18,19,20,21,22,23,24,25,26,28,29,30,31,32,33,34,35,36,37,38].map λi=>PySem.Challenge.pw_wirechannel_k34_the_better_one.main.body.getD i (.Pass ⟨0,0,0,0⟩) } }
theorem PySem.W.Fast.te4024308438501550209:({ PySem.Challenge.pw_wirechannel_k34_the_better_one with main:={ PySem.Challenge.pw_wirechannel_k34_the_better_one.main with body:=[1,2,3,4,6,8,9,10,12,13,14,15,16,17,18,19,20,21,22,23,24,25,26,28,29,30,31,32,33,34,35,36,37,38].map λi=>PySem.Challenge.pw_wirechannel_k34_the_better_one.main.body.getD i (.Pass ⟨0,0,0,0⟩) } }:PySem.Program)=PySem.W.Fast.tw4024308438501550209:=rfl
local macro_rules | `(tactic| walk_at"A")=>`(tactic| ((try dsimp only[L2.nu]);refine' L2.uP KX G ?a ?l ?c ?k;(case a=>k_is);(case l=>k_is);(case c=>k_is);(case k=>k_is)))
theorem PySem.Challenge.cw_wirechannel_k34_the_better_one_holds : PySem.Challenge.rw_wirechannel_k34_the_better_one.Holds := by
 w_on;o_law;k_head;(case hw=>w_witness2)
 k_fill
 show L2.ot (l:=PySem.Challenge.rw_wirechannel_k34_the_better_one) (n:=63) (k:=8) (x:="_law_script") rfl (by decide) rfl ⟨rfl,by decide,by decide⟩ (λw h Y=>PySem.W.kIn_of Y) ?F
 case F=>
  intro w mg fa h KX G tf;have gw:L2.At (L2.nu KX) mg "_law_alike" Wc.cY:=by
   dsimp only[L2.nu];refine' L2.uP KX G ?a ?l ?c ?k
   (case a=>k_is);(case l=>k_is);(case c=>k_is);(case k=>k_is)
  have T:Wc.Txt (L2.nu KX) mg:=by
   dsimp only[L2.nu];refine' ⟨aY KX G ?b_ValueError,aY KX G ?b_all,aY KX G ?b_bool,aY KX G ?b_dict,aY KX G ?b_enumerate,aY KX G ?b_int,aY KX G ?b_isinstance,aY KX G ?b_len,aY KX G ?b_list,aY KX G ?b_max,aY KX G ?b_min,aY KX G ?b_range,aY KX G ?b_sorted,aY KX G ?b_str,aY KX G ?b_sum,aY KX G ?b_tuple,aY KX G ?b_zip⟩
   (case b_ValueError=>k_is)
   (case b_all=>k_is)
   (case b_bool=>k_is)
   (case b_dict=>k_is)
   (case b_enumerate=>k_is)
   (case b_int=>k_is)
   (case b_isinstance=>k_is)
   (case b_len=>k_is)
   (case b_list=>k_is)
   (case b_max=>k_is)
   (case b_min=>k_is)
   (case b_range=>k_is)
   (case b_sorted=>k_is)
   (case b_str=>k_is)
   (case b_sum=>k_is)
   (case b_tuple=>k_is)
   (case b_zip=>k_is)
  have jv:L2.Iz (L2.nu KX) mg "NoOrder" "NoOrder.__init__" "ring" Wc.jn:=by
   dsimp only[L2.nu];show⟨_,_,_,_,by k_is,by k_is,PySem.W.mg_of KX G (by k_is),by k_is,by kernel_rfl,by k_is,L2.qV (by k_is) (by k_is) (by k_is),⟨by kernel_rfl,by k_is,by k_is⟩,PySem.W.mg_of KX G (by k_is),by k_is,by k_is,by k_is,by decide +kernel⟩
  have Ba:∃cj:Addr,mg "NoOrder"=some (.ref cj)/\∃cX:Addr,mg "WireError"=some (.ref cX)/\∃dy:Addr,mg "BadText"=some (.ref dy)/\∃cZ:Addr,mg "NoLayout"=some (.ref cZ)/\(PySem.W.nsIn (L2.nu KX) mainGlobals "NoOrder"=some (some (.ref cj)))/\(PySem.W.exmOne (L2.nu KX) (.ref cj) (.ref cj)=some true)/\(L2.wG (L2.nu KX) cj "ring")/\(L2.uT (L2.nu KX) cj)/\(PySem.W.kitOne (L2.nu KX) (.ref cj) (.ref cX)=some true)/\(PySem.W.kitOne (L2.nu KX) (.ref cj) (.type "ValueError")=some true)/\(PySem.W.kitAny (L2.nu KX) (.ref cj) [.ref dy,.ref cZ]=some false):=by
   dsimp only[L2.nu];show⟨_,PySem.W.mg_of KX G (by k_is),_,PySem.W.mg_of KX G (by k_is),_,PySem.W.mg_of KX G (by k_is),_,PySem.W.mg_of KX G (by k_is),by k_is,by kernel_rfl,⟨by k_is,by k_is,by k_is,by k_is,by k_is⟩,⟨by k_is,by k_is,by k_is,by k_is,by k_is,by k_is,by k_is,by k_is⟩,by kit_is,by kit_is,by kit_is⟩
  obtain⟨cj,fk,cX,dY,dy,fm,cZ,eF,du,XM,XF,EK,I1,I2,I3⟩:=Ba;show Wc.vP T  ⟨by walk_at"A",by walk_at"A",by walk_at"A",by walk_at"A",by walk_at"A",by walk_at"A",by walk_at"A",by walk_at"A",by walk_at"A",by walk_at"A",by walk_at"A",by walk_at"A",by walk_at"A",by walk_at"A",by walk_at"A",by walk_at"A",by walk_at"A",by walk_at"A",by walk_at"A",by walk_at"A",by walk_at"A",by walk_at"A",by walk_at"A",by walk_at"A",by walk_at"A",by walk_at"A",by walk_at"A",trivial⟩ gw jv (by walk_at"A") (by walk_at"A") du XM XF EK fk dY fm eF I1 I2 I3 tf
#print axioms PySem.Challenge.cw_wirechannel_k34_the_better_one_holds
