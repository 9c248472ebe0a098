import PyProof.Rows.All
import Wide.All
import OpenK.AllK
import Wide.FinOn
import Lean
import PyProof.EqAt
import PyProof.EqKinds
import PyProof.TupleCall
import PyProof.NeKinds
import PyProof.SliceStr2
import PyProof.ConsumeWalk
import KE.KDictSum
import PyProof.DictWalks
import PyProof.AttrMissSeq
import KE.KDictOf
import PyProof.WalksS
import PyProof.Walks
import PyProof.DictList
import PyProof.MeetsDict
import PyProof.FactsAll.dict_3
import PyProof.MinMaxWalk
import PyProof.WalkInts
import PyProof.Rows.CallKwBuiltin
import PyProof.MaxThree
import PyProof.Rows.SortRunsK
import PyProof.Rows.SortShellK
import KE.KSortTup
import PyProof.DictRoadsH
import PyProof.DictIter
import KE.KDictList
import PyProof.ZipIter
import PyProof.TupleIter
import PyProof.WalksMore
import PyProof.SumWalkG
import PyProof.DictValues
import PyProof.FactsAll.dict_4
import PySem.SetOps
import OpenK.KMore
import PyProof.ListRange
import PyProof.DictItems
import PyProof.CallStr
import KE.KIntText
import PyProof.StrCalls2
import PyProof.Rows.StrItems
import PyProof.FactsAll.NoneType
import KE.KTryOn
import PyProof.Draws
import PyProof.EnumMake
import PyProof.Rows.Range3
import KE.KRevIter
import PyProof.ListStr
import PyProof.NsDelKeeps
import PyProof.RulesAs
import KE.KIsAll
import PyProof.ExcArgsOwn
import KE.KFind
import PySem.Challenge.RW_wirechannel_k50_sign_by_sign
abbrev J':=PySem.W.Frag
set_option hygiene false
set_option compiler.extract_closed false
noncomputable section
local macro_rules|`(tactic|omega)=>`(tactic|first|decide|lia)
local macro_rules|`(tactic|ext)=>`(tactic|omega)
local macro_rules|`(tactic|show $t)=>`(tactic|refine $t)
set_option Elab.async false
set_option linter.all false
set_option maxRecDepth 100000
def aa:=@PySem.wpAny_bind
def ae:=@List.length_map
def af:=@Array.length_toList
def ag:=@PyProof.Rows.wpS_pure
def ah:=@List.getElem?_eq_getElem
def ai:=@PyProof.Rows.wpS_bind
def aj:=@PySem.Heap.get?_push_of_some
def ao:=@PySem.wpAny_pure
def aq:=@Bool.false_eq_true
def ar:=@List.getElem?_eq_some_iff
def au:=@List.mem_append
def av:=@List.mem_cons
def aw:=@Array.getElem_toList
def ax:=@List.map_cons
def ay:=@Nat.le_refl
def az:=@PySem.Heap.get?_push_size
def aA:=@List.size_toArray
def aB:=@Option.some.injEq
def aD:=@List.length_append
def aE:=@List.map_append
def aF:=@PySem.Heap.lt_size
def aG:=@List.length_cons
def aH:=@Array.toList_push
def aI:=@List.getElem?_map
def aJ:=@Nat.ne_of_lt
def aK:=@List.mem_cons_of_mem
def aL:=@List.mem_of_getElem?
def aM:=@Nat.le_trans
def aN:=@List.mem_map
def aO:=@PySem.PassesOwn.never
def aP:=@List.mem_filter
def aQ:=@List.mem_append_right
def aR:=@if_false
def aS:=@List.append_nil
def aT:=@List.length_take
def aU:=@List.map_map
def aV:=@Array.getElem_mem
def aW:=@Nat.lt_of_lt_of_le
def aX:=@if_true
def aY:=@Bool.false_ne_true
def aZ:=@Nat.zero_le
def a9:=@List.length_filter_le
def ba:=@decide_eq_true_eq
def bg:=@List.not_mem_nil
def bh:=@decide_eq_false
def bj:=@PySem.Heap.get?_update_other
def bp:=@List.mem_singleton
def br:=@List.take_add_one
def bw:=@List.append_assoc
def bx:=@List.pairwise_append
def bz:=@exists_eq_left'
def bA:=@decide_eq_false_iff_not
def bB:=@PyProof.Rows.wpS_forRange
def bC:=@List.mem_range
def bD:=@PySem.W.mg_none_of
def bE:=@List.take_of_length_le
def bF:=@List.mem_append_left
def bG:=@List.length_range
def bH:=@List.take_length
def bI:=@List.take_append_drop
def bJ:=@Int.emod_nonneg
def bK:=@Int.emod_lt_of_pos
def bL:=@Array.toList_append
def bM:=@PySem.wpAny_holding
def bN:=@List.pairwise_cons
def bO:=@List.getElem?_cons_succ
def bP:=@List.mem_map_of_mem
def bQ:=@List.drop_eq_getElem_cons
def bR:=@Array.mem_toList_iff
def bS:=@decide_false
def bT:=@List.count_eq_zero
def bU:=@Nat.le_succ
def bV:=@List.map_nil
def bW:=@List.getElem_of_mem
def bX:=@Option.some.inj
def bY:=@Bool.and_eq_true
def bZ:=@List.getElem?_cons_zero
def b8:=@Nat.lt_succ_of_lt
def b9:=@Bool.not_eq_true'
def cf:=@List.eq_nil_of_length_eq_zero
def cg:=@PySem.Around.under_plainId
def cj:=@List.nodup_cons
def cq:=@List.cons_append
def cv:=@List.getElem_mem
def cw:=@decide_true
def cx:=@PyProof.Rows.callWith_type1
def cy:=@PySem.wpAny_newObj_type
def cz:=@List.mem_cons_self
def cA:=@List.any_cons
def cB:=@List.length_drop
def cC:=@Option.map_eq_some_iff
def cD:=@Int.le_of_lt
def cE:=@PySem.boot_len
def cF:=@List.getElem?_zip_eq_some
def cG:=@Array.getElem?_eq_getElem
def cH:=@PyProof.Rows.wpS_mono
def cI:=@beq_eq_false_iff_ne
def cJ:=@PySem.mem_of_lookup
def cK:=@PyProof.Rows.wpS_modify
def cL:=@Int.le_refl
def cM:=@Array.getElem?_toList
def cN:=@Nat.lt_irrefl
def cO:=@PySem.Heap.size_push
def cP:=@decide_eq_true
def cQ:=@List.length_filterMap_le
def cR:=@PySem.codeAny_builtin
def cS:=@Nat.max_eq_right
def cT:=@List.mem_flatMap
def cU:=@List.flatMap_cons
def cV:=@Option.map_some
def cW:=@List.length_nil
def cX:=@List.find?_cons
def cY:=@or_false
namespace L2
open PySem PySem.Spec PyProof.Rows
noncomputable abbrev Key:=Sum Int Str
noncomputable def vS:Key->Value->Bool
 | .inl k,v=>Value.isInt k v
 | .inr x,v=>Value.isStrOf x v
noncomputable def NK(w:World):Key->Int
 | .inl k=>hashInt k
 | .inr x=>hashStr w x
theorem tU:∀{k:Key}{v:Value},vS k v=true->(∃i t,k=Sum.inl i/\v=Value.int i t)\/(∃x t,k=Sum.inr x/\v=Value.str x t)
 | .inl i,v,h=>by
  obtain⟨t,e⟩:=Value.isInt_shape (k:=i) (v:=v) h;show .inl ⟨i,t,rfl,e⟩
 | .inr x,v,h=>by
  obtain⟨t,e⟩:=Value.isStrOf_shape (x:=x) (v:=v) h;show .inr ⟨x,t,rfl,e⟩
theorem Th(i:Int)(t:Tok):vS (.inl i) (.int i t)=true:=by simp[vS,Value.isInt]
theorem Tg(x:Str)(t:Tok):vS (.inr x) (.str x t)=true:=by simp[vS,Value.isStrOf]
theorem OT(a b:Int):decide ((Sum.inl a:Key)=Sum.inl b)=(a==b):=by
 by_cases e:a=b
 .subst e;simp
 have h:¬(Sum.inl a:Key)=Sum.inl b:=λq=>e (Sum.inl.inj q)
 rw[bh h];show(cI.mpr e).symm
theorem OS(a b:Str):decide ((Sum.inr a:Key)=Sum.inr b)=decide (a=b):=by
 by_cases e:a=b
 .subst e;simp
 have h:¬(Sum.inr a:Key)=Sum.inr b:=λq=>e (Sum.inr.inj q)
 rw[bh h,bh e]
theorem OR(a:Int)(b:Str):decide ((Sum.inl a:Key)=Sum.inr b)=false:=bh (λq=>nomatch q)
theorem OQ(a:Str)(b:Int):decide ((Sum.inr a:Key)=Sum.inl b)=false:=bh (λq=>nomatch q)
noncomputable def mW(prog:Program)(w:World):PySem.KeyKind prog w Key where
 is:=vS
 hash:=NK w
 inj:=λv a b ha f=>by
  rcases tU ha with⟨i,t,rfl,rfl⟩ | ⟨x,t,rfl,rfl⟩
  .rcases tU f with⟨j,u,rfl,e⟩ | ⟨y,u,rfl,e⟩
   .injection e with c _;rw[c]
   show nomatch e
  rcases tU f with⟨j,u,rfl,e⟩ | ⟨y,u,rfl,e⟩
  .exact nomatch e
  injection e with c _;rw[c]
 byValue:=λk v h=>by
  rcases tU h with⟨i,t,rfl,rfl⟩ | ⟨x,t,rfl,rfl⟩<;>rfl
 pyHash:=λd h=>by
  rcases tU d with⟨i,t,rfl,rfl⟩ | ⟨x,t,rfl,rfl⟩
  .exact wpAny_pyHash_int h
  show wpAny_pyHash_str h
 eqBool:=λg d h=>by
  rcases tU g with⟨i,t,rfl,rfl⟩ | ⟨x,t,rfl,rfl⟩
  .rcases tU d with⟨j,u,rfl,rfl⟩ | ⟨y,u,rfl,rfl⟩
   .rw[OT] at h;show wpAny_eqBool_int h
   rw[OR] at h;show SeqAt.EqAt.int_str i t y u _ _ _ _ h
  rcases tU d with⟨j,u,rfl,rfl⟩ | ⟨y,u,rfl,rfl⟩
  .rw[OQ] at h;show SeqAt.EqAt.str_int x t j u _ _ _ _ h
  rw[OS] at h;show wpAny_eqBool_str h
 «strs»:=λk x t v h=>by
  rcases tU h with⟨i,u,rfl,e⟩ | ⟨y,u,rfl,e⟩
  .exact nomatch e
  injection e with c _
  subst c;cases v<;>rfl
theorem Ur(prog:Program)(w:World)(i:Int)(t:Tok):(mW prog w).is (.inl i) (.int i t)=true:=Th i t
theorem Uq(prog:Program)(w:World)(x:Str)(t:Tok):(mW prog w).is (.inr x) (.str x t)=true:=Tg x t
inductive V where
 | non | bl (b:Bool) | int (i:Int) | str (x:Str) | Dl (b:Array UInt8) | Di (b:UInt64) | ref (a:Addr) | ty (n:String)
 deriving DecidableEq
def RelV:V->Value->Prop
 | .non,u=>u=Value.none
 | .bl b,u=>u=Value.bool b
 | .int i,u=>∃t,u=Value.int i t
 | .str x,u=>∃t,u=Value.str x t
 | .Dl b,u=>∃t,u=Value.bytes b t
 | .Di b,u=>∃t,u=Value.float b t
 | .ref a,u=>u=Value.ref a
 | .ty n,u=>u=Value.type n
abbrev Vals:List V->List Value->Prop:=Paired RelV
theorem Vals.length{xs:List V}{a:List Value}(r:Vals xs a):xs.length=a.length:=Paired.length r
theorem Vals.get:∀{xs:List V}{us:List Value}{i:Nat}{x:V},Vals xs us->xs[i]?=some x->∃u,us[i]?=some u/\RelV x u
 | _,_,_,_,.nil,e=>by simp at e
 | _,_,0,_,.cons r _,e=>by simp at e;subst e;show⟨_,rfl,r⟩
 | _,_,i+1,x,.cons _ t,e=>by
  obtain⟨u,b,a⟩:=Vals.get (i:=i) (x:=x) t (by simpa using e);show⟨u,by simpa using b,a⟩
theorem Vals.set{x:V}{u:Value}(r:RelV x u):∀{xs:List V}{us:List Value}(i:Nat),Vals xs us->Vals (xs.set i x) (us.set i u)
 | _,_,_,.nil=>.nil
 | _,_,0,.cons _ t=>.cons r t
 | _,_,i+1,.cons q t=>.cons q (Vals.set r i t)
theorem Vals.append{xs ys:List V}{a ws:List Value}(h:Vals xs a)(s:Vals ys ws):Vals (xs++ys) (a++ws):=by
 induction h with
 | nil=>show s
 | cons r t b=>show .cons r b
theorem Vals.take:∀{xs:List V}{us:List Value}(n:Nat),Vals xs us->Vals (xs.take n) (us.take n)
 | _,_,0,_=>.nil
 | _,_,_+1,.nil=>.nil
 | _,_,n+1,.cons r t=>.cons r (Vals.take n t)
theorem Vals.drop:∀{xs:List V}{us:List Value}(n:Nat),Vals xs us->Vals (xs.drop n) (us.drop n)
 | _,_,0,r=>r
 | _,_,_+1,.nil=>.nil
 | _,_,n+1,.cons _ t=>Vals.drop n t
def lh:Option V->Option Value->Prop
 | some v,some u=>RelV v u
 | none,none=>True
 | _,_=>False
def KV{a:Type}:List (a×V)->List (a×Value)->Prop:=Paired λ(p:a×V)(q:a×Value)=>p.1=q.1/\RelV p.2 q.2
noncomputable def kV:Key->V
 | .inl i=>.int i
 | .inr x=>.str x
inductive HO where
 /-- a list -/
 | lst (xs:List V)
 /-- a tuple (never changes) -/
 | tup (xs:List V)
 /-- a dict Ac keys are ints and texts;one Ac keys are tuples of ints and texts (pz empty one is both) -/
 | dK (di:List (Key×V)) (ep:Nat) | dT (di:List (List Key×V)) (bs:List Addr×Nat)
 /-- a set of ints: its members,its size -/
 | set (S:Int->Bool) (n:Nat)
 /-- an instance of pz class at C,its dict at dx,its attributes -/
 | ins (C dx:Addr) (fs:List (Str×V))
 /-- pz dict of pz instance at x -/
 | own (x:Addr)
 /-- pz dict of an exception -/
 | xd (fs:List (Str×V))
 /-- a bound method,f of x -/
 | met (f x:Addr)
 /-- a range object lo,lo+1,.. below hi -/
 | sF (lo hi:Int)
 /-- a Ak Wz is known to pz object (pz sC;a dict while a loop walks it): read,never written while it is so -/
 | mN (o:Obj) (u:HO)
 /-- a code Ay table -/
 | wB (ps:Array Value)
 /-- any other Ak,by Ad is true of its one object (a def of L0 own: Yw a S n:=HO.ext λh=>..) -/
 | ext (φ:Heap->Prop)
noncomputable abbrev Hp:=Addr->Option HO
noncomputable def upd(H:Hp)(a:Addr)(o:HO):Hp:=λb=>if b=a then some o else H b
theorem i7{H:Hp}{a:Addr}{o:HO}:upd H a o a=some o:=by unfold upd;rw[if_pos rfl]
theorem fI{H:Hp}{a b:Addr}{o:HO}(h:b≠a):upd H a o b=H b:=by unfold upd;rw[if_neg h]
theorem Ii{H:Hp}{a b:Addr}{o u:HO}(h:H a=some o)(h':H b=some u)(d:o≠u):a≠b:=by
 intro e;subst e;rw[h] at h';show d (bX h')
theorem lI{H:Hp}{a b:Addr}{o:HO}(h:H a=some o)(h':H b=none):a≠b:=by
 intro e;subst e;rw[h] at h';cases h'
section
variable(P:Program)(w:World)
def eU(H:Hp)(h:Heap)(a:Addr):HO->Prop
 | .lst xs=>xs.length<=sizeLine/\∃(its:List Value)(n:Nat),Vals xs its/\h.get? a=some { cls:=.type "list",data:=.seq its.toArray n }
 | .tup xs=>xs.length<=sizeLine/\∃its:List Value,Vals xs its/\IsTup h a its.toArray
 | .dK c ep=>c.length<=sizeLine/\(a==sysModules)=false/\∃g,KV c g/\h.DictAt (mW P w) a g ep
 | .dT c bs=>c.length<=sizeLine/\(a==sysModules)=false/\∃xs:List (List Key×Addr×Value),xs.map (λx=>x.2.1)=bs.1/\
   Paired (λ(p:List Key×V)(q:List Key×Addr×Value)=>p.1=q.1/\H q.2.1=some (.tup (p.1.map kV))/\RelV p.2 q.2.2) c xs/\
   ∃o es ep,h.get? a=some o/\o.ExactDict/\o.data=.dict es ep/\es.toList=xs.map (entryOfKey (tupleKind (mW P w)))/\(xs.map (·.1)).Nodup/\ep=bs.2
 | .set S n=>h.SetOf (intKind P w) a S n
 | .ins C d fs=>H d=some (.own a)/\fs.length<=1000/\d≠a/\h.get? a=some (PySem.W.instObj C d)/\
   ∃b,h.Ns1 d b/\(∀f,lh (fs.lookup f) (b f))/\PySem.Within b (fs.map (·.1))
 | .own _=>∃o,h.get? a=some o
 | .xd fs=>∃b,h.Ns1 a b/\∀f,lh (fs.lookup f) (b f)
 | .sF lo hi=>∃t u v,h.get? a=some { cls:=.type "range",data:=.fields #[.int lo t,.int hi u,.int 1 v] }
 | .mN o u=>h.get? a=some o/\eU H h a u
 | .wB ps=>h.get? a=some { cls:=.none,data:=.fields ps }
 | .met f x=>h.get? a=some (PySem.W.methodObj (.ref f) (.ref x))
 | .ext e=>e h/\(∃o,h.get? a=some o)/\∀j i:Heap,e j->(∀o,j.get? a=some o->i.get? a=some o)->e i
def jS(H:Hp)(h:Heap):Prop:=∀a o,H a=some o->eU P w H h a o
end
section
variable{P:Program}{w:World}{H H':Hp}{h h':Heap}{a:Addr}{o:HO}
theorem eU.lt(x:eU P w H h a o):a<h.objs.size:=by
 cases o with
 | lst xs=>obtain⟨_,_,_,_,e⟩:=x;show aF e
 | tup xs=>obtain⟨_,_,_,p⟩:=x;show p.lt
 | dK b ep=>obtain⟨_,_,_,_,o,_,e,_⟩:=x;show aF e
 | dT b bs=>obtain⟨_,_,_,_,_,o,_,_,e,_⟩:=x;show aF e
 | set S n=>obtain⟨o,_,_,_,e,_⟩:=x;show aF e
 | ins C d fs=>obtain⟨_,_,_,e,_⟩:=x;show aF e
 | own y=>obtain⟨_,e⟩:=x;show aF e
 | xd fs=>obtain⟨_,⟨_,_,_,e,_⟩,_⟩:=x;show aF e
 | sF lo hi=>obtain⟨_,_,_,e⟩:=x;show aF e
 | mN ob u=>obtain⟨e,_⟩:=x;show aF e
 | wB ps=>show aF (show h.get? a=some _ from x)
 | met f y=>show aF (show h.get? a=some _ from x)
 | ext c=>obtain⟨_,⟨_,e⟩,_⟩:=x;show aF e
theorem Paired.AF{d c:Type}{F G:d->c->Prop}{e:List d}{g:List c}(h:Paired F e g)(f:∀a b,F a b->G a b):Paired G e g:=by
 induction h with
 | nil=>show .nil
 | cons r t i=>show .cons (f _ _ r) i
theorem eU.pB(x:eU P w H h a o)(k:∀b u,(b=a\/H b=some (.own a))->h.get? b=some u->h'.get? b=some u)
  (m:∀b,H b=some (.own a)->H' b=some (.own a)) (l:∀b xs,H b=some (.tup xs)->H' b=some (.tup xs)):eU P w H' h' a o:=by
 induction o with
 | lst xs=>obtain⟨z,its,n,r,e⟩:=x;show⟨z,its,n,r,k _ _ (.inl rfl) e⟩
 | tup xs=>obtain⟨z,its,r,ob,e,c⟩:=x;show⟨z,its,r,ob,k _ _ (.inl rfl) e,c⟩
 | dK A ep=>obtain⟨z,y,i,r,ob,es,e,c⟩:=x;show⟨z,y,i,r,ob,es,k _ _ (.inl rfl) e,c⟩
 | dT A bs=>
  obtain⟨z,y,xs,B,r,ob,es,ep,e,c⟩:=x;show⟨z,y,xs,B,Paired.AF r λp q z=>⟨z.1,l _ _ z.2.1,z.2.2⟩,ob,es,ep,k _ _ (.inl rfl) e,c⟩
 | set S n=>obtain⟨ob,es,ep,t,e,c⟩:=x;show⟨ob,es,ep,t,k _ _ (.inl rfl) e,c⟩
 | ins C E fs=>
  obtain⟨d,z,ne,e,g,⟨od,es,ep,s,c⟩,r⟩:=x;show⟨m _ d,z,ne,k _ _ (.inl rfl) e,g,⟨od,es,ep,k _ _ (.inr d) s,c⟩,r⟩
 | own y=>obtain⟨ob,e⟩:=x;show⟨ob,k _ _ (.inl rfl) e⟩
 | xd fs=>obtain⟨g,⟨od,es,ep,e,c⟩,r⟩:=x;show⟨g,⟨od,es,ep,k _ _ (.inl rfl) e,c⟩,r⟩
 | sF lo hi=>obtain⟨t,u,v,e⟩:=x;show⟨t,u,v,k _ _ (.inl rfl) e⟩
 | mN ob u j=>obtain⟨e,q⟩:=x;show⟨k _ _ (.inl rfl) e,j q⟩
 | wB ps=>
  have e:h.get? a=some { cls:=.none,data:=.fields ps }:=x;show h'.get? a=some { cls:=.none,data:=.fields ps };show k a _ (.inl rfl) e
 | met f y=>
  have e:h.get? a=some (PySem.W.methodObj (.ref f) (.ref y)):=x;show h'.get? a=some (PySem.W.methodObj (.ref f) (.ref y));show k a _ (.inl rfl) e
 | ext D=>obtain⟨p,⟨o,e⟩,st⟩:=x;show⟨st _ _ p λo q=>k _ _ (.inl rfl) q,⟨o,k _ _ (.inl rfl) e⟩,st⟩
theorem jS.lt(x:jS P w H h)(e:H a=some o):a<h.objs.size:=(x a o e).lt
theorem jS.fresh(x:jS P w H h)(e:h.objs.size<=a):H a=none:=by
 cases q:H a with
 | none=>rfl
 | some u=>show absurd (aW (x.lt q) e) (cN _)
theorem jS.kept(x:jS P w H h)(k:∀b u,h.get? b=some u->h'.get? b=some u):jS P w H h':=λa o e=>
 (x a o e).pB (λb u _ q=>k b u q) (λ_ q=>q) λ_ _ q=>q
theorem jS.laid(x:jS P w H h)(k:∀b u,h.get? b=some u->h'.get? b=some u)(g:h.objs.size<=a)(new:eU P w (upd H a o) h' a o):jS P w (upd H a o) h':=λb u e=>by
 have d:=x.fresh g;by_cases f:b=a
 .subst f;rw[i7] at e;cases e;show new
 rw[fI f] at e;show(x b u e).pB (λc v _ q=>k c v q) (λc q=>by rw[fI (lI q d)];show q) λc xs q=>by rw[fI (lI q d)];show q
end
def Rd(H:Hp)(a:Addr)(u:HO):Prop:=H a=some u\/∃o,H a=some (.mN o u)
theorem Rd.ok{P:Program}{w:World}{H:Hp}{h:Heap}{a:Addr}{u:HO}(r:Rd H a u)(x:jS P w H h):eU P w H h a u:=by
 rcases r with r | ⟨o,r⟩
 .exact x a u r
 obtain⟨_,q⟩:=x a _ r;show q
def Bv:Option HO->Prop
 | some (.lst _)=>True
 | some (.dK _ _)=>True
 | some (.dT _ _)=>True
 | some (.set _ _)=>True
 | some (.ins _ _ _)=>True
 | some (.ext _)=>True
 | _=>False
section
variable{P:Program}{w:World}{H:Hp}{h h':Heap}{x e:Addr}{o':HO}
theorem jS.write(ok:jS P w H h)(d:Bv (H x))(he:e=x\/H e=some (.own x))(k:∀b u,b≠e->h.get? b=some u->h'.get? b=some u)(l:∃u,h'.get? e=some u)
  (new:eU P w (upd H x o') h' x o'):jS P w (upd H x o') h':=λb u q=>by
 have j:∀c y,H c=some (.own y)->c≠x:=λc y r z=>by subst z;rw[r] at d;show d
 have n:∀c xs,H c=some (.tup xs)->c≠x:=λc xs r z=>by subst z;rw[r] at d;show d
 by_cases g:b=x
 .subst g;rw[i7] at q;cases q;show new
 rw[fI g] at q;by_cases a:b=e
 .have i:H b=some (.own x):=by
   rcases he with z | z
   .exact absurd (a.trans z) g
   rw[a];show z
  rw[q] at i;cases i;obtain⟨v,m⟩:=l;show⟨v,by rw[a];show m⟩
 show(ok b u q).pB (λc v f r=>k c v ?_ r) (λc r=>by rw[fI (j c b r)];show r) λc xs r=>by rw[fI (n c xs r)];show r
 rcases f with rfl | f
 .exact a
 rintro rfl;rcases he with z | z
 .exact j c b f z
 rw[f] at z;cases z;show g rfl
end
structure Un(fs ex:List Addr)(H H':Hp)(h h':Heap):Prop where
 keep:∀b o,h.get? b=some o->H b=none->b∉fs->b∉ex->h'.get? b=some o
 slot:∀b o,h.get? b=some o->H b=none->b∈fs->b∉ex->∃sl,h'.get? b=some { o with slots:=sl }
 free:∀b o,h.get? b=some o->H b=none->b∉ex->H' b=none
 there:∀b o,h.get? b=some o->b∉ex->∃o',h'.get? b=some o'
 oo:∀b xs,H b=some (.tup xs)->H' b=some (.tup xs)
 nj:∀b o u,H b=some (.mN o u)->H' b=some (.mN o u)
 ou:∀b ps,H b=some (.wB ps)->∃more,H' b=some (.wB (ps++more))
section
variable{fs Dh ex Y3:List Addr}{H H1 H2:Hp}{h h1 h2 h':Heap}{a x e:Addr}{o:HO}
theorem Un.any(u:Un fs ex H H1 h h1){b:Addr}{ob:Obj}(q:h.get? b=some ob)(n:H b=none)(hx:b∉ex):∃sl,h1.get? b=some { ob with slots:=sl }:=by
 by_cases a:b∈fs
 .exact u.slot b ob q n a hx
 show⟨ob.slots,u.keep b ob q n a hx⟩
theorem Un.kept(k:∀b u,h.get? b=some u->h'.get? b=some u):Un fs ex H H h h':=
 ⟨λb ob q _ _ _=>k b ob q,λb ob q _ _ _=>⟨ob.slots,k b ob q⟩,λ_ _ _ n _=>n,λb ob q _=>⟨ob,k b ob q⟩,λ_ _ q=>q,λ_ _ _ q=>q,λ_ ps q=>⟨#[],by rw[q];simp⟩⟩
theorem Un.refl:Un fs ex H H h h:=Un.kept λ_ _ q=>q
theorem Un.laid(k:∀b u,h.get? b=some u->h'.get? b=some u)(d:h.objs.size<=a)(c:H a=none):Un fs ex H (upd H a o) h h' where
 keep:=λb u q _ _ _=>k b u q
 slot:=λb u q _ _ _=>⟨u.slots,k b u q⟩
 free:=λb u q n _=>by rw[fI (aJ (aW (aF q) d))];show n
 there:=λb u q _=>⟨u,k b u q⟩
 oo:=λb xs q=>by rw[fI (lI q c)];show q
 nj:=λb u xs q=>by rw[fI (lI q c)];show q
 ou:=λb ps q=>⟨#[],by rw[fI (lI q c),q];simp⟩
theorem Un.write(a:Bv (H x))(he:e=x\/H e=some (.own x))(k:∀b u,b≠e->h.get? b=some u->h'.get? b=some u)(f:∃u,h'.get? e=some u):Un fs ex H (upd H x o) h h':=by
 have hx:∀b,H b=none->b≠x:=λb n z=>by subst z;rw[n] at a;show a
 have d:∀b,H b=none->b≠e:=λb n z=>by
  subst z;rcases he with r | r
  .exact hx b n r
  rw[n] at r;cases r
 have hm:∀b u,H b=some u->¬Bv (some u)->b≠x:=λb u q nm z=>by subst z;rw[q] at a;show nm a
 show⟨λb u q n _ _=>k b u (d b n) q,λb u q n _ _=>⟨u.slots,k b u (d b n) q⟩,λb u q n _=>by rw[fI (hx b n)];show n,λb u q _=>?_,
  λb xs q=>by rw[fI (hm b _ q λz=>z)];show q,λb u xs q=>by rw[fI (hm b _ q λz=>z)];show q,λb ps q=>⟨#[],by rw[fI (hm b _ q λz=>z),q];simp⟩⟩
 by_cases c:b=e
 .subst c;show f
 show⟨u,k b u c q⟩
end
noncomputable def qH(h:Heap)(H:Hp):List Addr:=(List.range h.objs.size).filter λa=>(H a).isSome
noncomputable def ub(h:Heap)(H:Hp):Heap:=PySem.W.hideAll h (qH h H)
theorem Tf(h:Heap)(H:Hp):(ub h H).objs.size=h.objs.size:=PySem.W.hideAll_size _ _
theorem Sd{h:Heap}{H:Hp}{b:Addr}{o:Obj}(e:h.get? b=some o)(n:H b=none):(ub h H).get? b=some o:=
 PySem.W.hideAll_get _ e λhm=>by
  have q:(H b).isSome=true:=(aP.mp hm).2;rw[n] at q;simp at q
theorem QM{h:Heap}{H:Hp}{b:Addr}{o:Obj}(e:(ub h H).get? b=some o):h.get? b=some o/\H b=none:=by
 have a:h.get? b=some o:=PySem.W.of_hideAll (qH h H) e;show⟨a,?_⟩;cases q:H b with
 | none=>rfl
 | some x=>
  have hm:b∈qH h H:=aP.mpr ⟨bC.mpr (aF a),by simp[q]⟩;have z:(ub h H).get? b=none:=PySem.W.hideAll_none (qH h H) hm;rw[z] at e;cases e
noncomputable def QL(g h:Heap)(L:Addr):List (Addr×Obj):=(List.range h.objs.size).filterMap λa=>if a=L\/(g.get? a).isSome=true then none else(h.get? a).map λo=>(a,o)
noncomputable def nY(g h:Heap)(L d:Addr):List (Addr×Obj):=(QL g h L).filter λp=>decide (p.1≠d)
structure Mod(K:J')(mg:Str->Option Value)(base:Heap):Prop where
 yo:K.In base
 glob:base.Ns mainGlobals mg
 blt:∃mb,base.Ns builtinsNs mb/\∀x:Str,x≠"__name__"->mb x=bootBuiltins x
 nolimit:base.NoLimit
structure Cx where
 prog:Program
 w:World
 K:J'
 mg:Str->Option Value
 base:Heap
 A:Around
 N:List Str
 gQ:Shared
 tI:Hp
 env:Env
 outer:List Env
 stack:List Env
 ex:List Addr
 fn:Str->Bool
 calm:Bool
 pn:List (Addr×Obj)
 xe:Value->Shared->Prop
noncomputable def tj(l:List Env):List Addr:=l.filterMap (·.frame)
noncomputable abbrev Cx.fs(X:Cx):List Addr:=tj X.outer
def oR(a:Scope)(x:Str):Prop:=a.names.lookup x=some .local\/a.names.lookup x=some .cell\/a.names.lookup x=some .free
def Loc(a:Scope)(x:Str):Prop:=a.names.lookup x=some .local\/a.names.lookup x=some .cell
def Look(env:Env)(h:Heap)(m:Str->Option Value)(x:Str)(u:Value):Prop:=
 (env.kindOf x=some .local/\m x=some u)\/((env.kindOf x=some .cell\/env.kindOf x=some .free)/\∃c,env.cells.lookup x=some c/\h.IsCell c (some u))
structure Cx.Ok(X:Cx):Prop where
 mod:Mod X.K X.mg X.base
 kind:X.env.scope.kind=.function
 glob:X.env.globals=mainGlobals
 blt:X.env.builtins=builtinsNs
 above:X.gQ.heap.objs.size<=X.env.locals
 inj:∀x y c,X.env.cells.lookup x=some c->X.env.cells.lookup y=some c->x=y
 has:∀x,(X.env.kindOf x=some .cell\/X.env.kindOf x=some .free)->∃c,X.env.cells.lookup x=some c
 cab:∀x c,X.fn x=true->X.env.cells.lookup x=some c->X.gQ.heap.objs.size<=c
 hd:X.calm=true->X.A.handled=none
 frames:X.A.frames=some X.stack
 CT:X.stack=X.outer\/(X.stack=X.env::X.outer/\X.env.frame=some X.env.locals)
 exf:∀b∈X.ex,b≠X.env.locals/\∀x c,X.env.cells.lookup x=some c->c≠b
 bs:∀b o,X.base.get? b=some o->X.gQ.heap.get? b=some o/\X.tI b=none
 vG:X.base.objs.size<=X.gQ.heap.objs.size
 sL:∀b o,X.base.get? b=some o->b∉X.ex
 tx:∀b∈X.ex,b∉X.fs
 k9:X.gQ.heap.FunFrames X.base X.outer
 xk:∀b∈X.fs,X.tI b=none
structure Inv(X:Cx)(K':List (Addr×Obj))(σ:List (Option V))(H:Hp)(s:Shared):Prop where
 ok:X.Ok
 os:s.os=X.gQ.os
 bare:AllBare s.gens
 base:Un X.fs X.ex X.tI H X.gQ.heap s.heap
 loc:∃m,s.heap.Ns X.env.locals m/\∀(i:Nat)(x:Str)(v:V),X.N[i]?=some x->σ[i]?=some (some v)->oR X.env.scope x->∃u,RelV v u/\Look X.env s.heap m x u
 cell:∀x c,X.env.cells.lookup x=some c->∃v,s.heap.IsCell c v
 free:H X.env.locals=none
 jh:∀x c,X.env.cells.lookup x=some c->H c=none
 pin:∀p∈X.pn++K',s.heap.get? p.1=some p.2/\H p.1=none/\p.1≠X.env.locals/\p.1∉X.fs/\∀v,p.2.data≠.cell v
 eT:jS X.prog X.w H s.heap
 len:σ.length=X.N.length
section
variable{X:Cx}{K':List (Addr×Obj)}{σ:List (Option V)}{H H':Hp}{s:Shared}{h':Heap}
theorem Cx.Ok.Gh(ok:X.Ok){b:Addr}{o:Obj}(e:X.base.get? b=some o):b∉X.fs:=λa=>by
 have:=(ok.k9.mem a).1;rw[e] at this;cases this
theorem Inv.bs(I:Inv X K' σ H s):∀b o,X.base.get? b=some o->s.heap.get? b=some o/\H b=none:=λb o e=>
 ⟨I.base.keep b o (I.ok.bs b o e).1 (I.ok.bs b o e).2 (I.ok.Gh e) (I.ok.sL b o e),I.base.free b o (I.ok.bs b o e).1 (I.ok.bs b o e).2 (I.ok.sL b o e)⟩
theorem Inv.bk(I:Inv X K' σ H s):∀b o,X.base.get? b=some o->s.heap.get? b=some o:=λb o e=>(I.bs b o e).1
theorem Inv.mod(I:Inv X K' σ H s):Mod X.K X.mg X.base:=I.ok.mod
theorem Inv.nT(I:Inv X K' σ H s):X.K.In s.heap:=I.ok.mod.yo.keeps I.bk
theorem Inv.lt(I:Inv X K' σ H s):X.env.locals<s.heap.objs.size:=let⟨_,a,_⟩:=I.loc;a.lt
theorem Inv.sz(I:Inv X K' σ H s):X.gQ.heap.objs.size<=s.heap.objs.size:=aM I.ok.above (Nat.le_of_lt I.lt)
theorem Inv.Gg(I:Inv X K' σ H s){a:Addr}(h:s.heap.objs.size<=a):a∉X.fs:=λc=>by
 obtain⟨_,o,b,_⟩:=I.ok.k9.mem c;show absurd (aW (aF b) (aM I.sz h)) (cN _)
theorem Inv.xo(I:Inv X K' σ H s):∀x c,X.env.cells.lookup x=some c->c≠X.env.locals:=λx c e z=>by
 obtain⟨v,o,a,hd⟩:=I.cell x c e;obtain⟨m,⟨f,es,ep,d,b,_⟩,_⟩:=I.loc;rw[z,d] at a;cases a;rw[b] at hd;cases hd
theorem Inv.k9(I:Inv X K' σ H s):s.heap.FunFrames X.base X.outer:=by
 have all:∀(l:List Env),(∀b∈tj l,b∈X.fs)->X.gQ.heap.FunFrames X.base l->s.heap.FunFrames X.base l:=by
  intro l;induction l with
  | nil=>intro _ _;trivial
  | cons env r f=>
   intro d j;obtain⟨k,⟨L,o,hf,i,h,hd⟩,g⟩:=j;have c:L∈X.fs:=d L (by unfold tj;rw[List.filterMap_cons,hf];show cz);obtain⟨sl,e⟩:=I.base.slot L o h (I.ok.xk L c) c λz=>I.ok.tx L z c
   show⟨k,⟨L,_,hf,i,e,hd⟩,f (λb a=>d b (by unfold tj;rw[List.filterMap_cons,hf];show aK _ a)) g⟩
 show all X.outer (λ_ a=>a) I.ok.k9
theorem Inv.stack(I:Inv X K' σ H s):s.heap.FunFrames X.base X.stack:=by
 rcases I.ok.CT with e | ⟨e,hf⟩
 .rw[e];show I.k9
 rw[e];obtain⟨m,a,_⟩:=I.loc;show .cons (by rw[I.ok.kind];decide) hf a ?_ I.k9;show Heap.get?_none_of_le (aM I.ok.vG I.ok.above)
theorem Inv.pA(I:Inv X K' σ H s):∀b∈tj X.stack,b∈X.env.locals::X.fs:=λb a=>by
 rcases I.ok.CT with e | ⟨e,hf⟩
 .rw[e] at a;show aK _ a
 rw[e] at a;unfold tj at a;rw[List.filterMap_cons,hf] at a;show a
theorem Inv.p8(I:Inv X K' σ H s):∀b∈tj X.stack,H b=none:=λb a=>by
 rcases av.mp (I.pA b a) with e | a
 .rw[e];show I.free
 obtain⟨_,o,c,_⟩:=I.ok.k9.mem a;show I.base.free b o c (I.ok.xk b a) λz=>I.ok.tx b z a
theorem Inv.step{g':Array GenState}{t':Nat}{d':Drawn}{ch:List Addr}(I:Inv X K' σ H s)
  (h:∀b∈ch,(b∈X.ex\/X.gQ.heap.objs.size<=b)/\b≠X.env.locals/\(∀x c,X.env.cells.lookup x=some c->c≠b)/\∀p∈X.pn++K',p.1≠b)
  (keep:∀b o,b≠X.env.locals->b∉X.fs->b∉ch->s.heap.get? b=some o->H b=none->h'.get? b=some o)
  (slot:∀b o,b≠X.env.locals->b∈X.fs->b∉ch->s.heap.get? b=some o->H b=none->∃sl,h'.get? b=some { o with slots:=sl }) (free:∀b o,b∉ch->s.heap.get? b=some o->H b=none->H' b=none)
  (there:∀b o,b∉ch->s.heap.get? b=some o->∃j,h'.get? b=some j)
  (oo:∀b xs,H b=some (.tup xs)->H' b=some (.tup xs)) (nj:∀b o u,H b=some (.mN o u)->H' b=some (.mN o u)) (ou:∀b ps,H b=some (.wB ps)->∃more,H' b=some (.wB (ps++more)))
  (ns:∀m,s.heap.Ns X.env.locals m->h'.Ns X.env.locals m) (eT:jS X.prog X.w H' h') (L:AllBare g') :
  Inv X K' σ H' { s with heap:=h',gens:=g',drawn:=d',toks:=t' }:=by
 have E:∀b o,X.gQ.heap.get? b=some o->b≠X.env.locals:=λb o e=>aJ (aW (aF e) I.ok.above)
 have A:∀b o,X.gQ.heap.get? b=some o->b∉X.ex->b∉ch:=λb o e hx f=>by
  rcases(h b f).1 with z | z
  .exact hx z
  show absurd (aW (aF e) z) (cN _)
 have cellK:∀x c,X.env.cells.lookup x=some c->∀v,s.heap.IsCell c v->h'.IsCell c v:=λx c e v ⟨o,g,hd⟩=>by
  have y:c∉ch:=λz=>(h c z).2.2.1 x c e rfl
  by_cases D:c∈X.fs
  .obtain⟨sl,q⟩:=slot c o (I.xo x c e) D y g (I.jh x c e);show⟨_,q,hd⟩
  show⟨o,keep c o (I.xo x c e) D y g (I.jh x c e),hd⟩
 show⟨I.ok,I.os,L,⟨λb o e n f hx=>?_,λb o e n f hx=>?_,λb o e n hx=>?_,λb o e hx=>?_,λb xs e=>oo b xs (I.base.oo b xs e),λb o xs e=>nj b o xs (I.base.nj b o xs e),λb ps e=>?_⟩,?_,λx c e=>?_,?_,λx c e=>?_,λp C=>?_,eT,I.len⟩
 .exact keep b o (E b o e) f (A b o e hx) (I.base.keep b o e n f hx) (I.base.free b o e n hx)
 .obtain⟨sl,a⟩:=I.base.slot b o e n f hx;obtain⟨N,t⟩:=slot b _ (E b o e) f (A b o e hx) a (I.base.free b o e n hx);show⟨N,t⟩
 .obtain⟨j,a⟩:=I.base.there b o e hx;show free b j (A b o e hx) a (I.base.free b o e n hx)
 .obtain⟨j,a⟩:=I.base.there b o e hx;show there b j (A b o e hx) a
 .obtain⟨G,a⟩:=I.base.ou b ps e;obtain⟨F,t⟩:=ou b _ a;show⟨G++F,by rw[t,Array.append_assoc]⟩
 .obtain⟨m,J,K⟩:=I.loc;show⟨m,ns m J,λi x v a t M=>?_⟩;obtain⟨u,r,l⟩:=K i x v a t M;show⟨u,r,?_⟩;rcases l with l | ⟨k,c,e,z⟩
  .exact .inl l
  show .inr ⟨k,c,e,cellK x c e _ z⟩
 .obtain⟨v,z⟩:=I.cell x c e;show⟨v,cellK x c e v z⟩
 .obtain⟨m,⟨o,_,_,g,_⟩,_⟩:=I.loc;show free _ o (λz=>(h _ z).2.1 rfl) g I.free
 .obtain⟨v,o,g,hd⟩:=I.cell x c e;show free c o (λz=>(h c z).2.2.1 x c e rfl) g (I.jh x c e)
 obtain⟨e,n,ne,B,d⟩:=I.pin p C;have y:p.1∉ch:=λz=>(h p.1 z).2.2.2 p C rfl
 show⟨keep p.1 p.2 ne B y e n,free p.1 p.2 y e n,ne,B,d⟩
theorem Inv.un{t':Nat}(I:Inv X K' σ H s)(u:Un X.fs [] H H' s.heap h')(eT:jS X.prog X.w H' h'):Inv X K' σ H' { s with heap:=h',toks:=t' }:=by
 obtain⟨m,⟨o,es,ep,d,r⟩,_⟩:=id I.loc;obtain⟨sl,i⟩:=u.any d I.free (by simp)
 show I.step (g':=s.gens) (d':=s.drawn) (ch:=[]) (λ_ z=>nomatch z) (λb o _ a _ e n=>u.keep b o e n a (by simp)) (λb o _ a _ e n=>u.slot b o e n a (by simp)) (λb o _ e n=>u.free b o e n (by simp)) (λb o _ e=>u.there b o e (by simp)) u.oo u.nj u.ou (λk hm=>by
  obtain⟨j,h,g,c,f⟩:=hm;rw[d] at c;cases c;show⟨_,h,g,i,f⟩) eT I.bare
theorem Inv.call{g':Array GenState}{t':Nat}{d':Drawn}{ch:List Addr}(I:Inv X K' σ H s)(u:Un (tj X.stack) ch H H' s.heap h')(eT:jS X.prog X.w H' h')(l:AllBare g')
  (f:∀b∈ch,(b∈X.ex\/X.gQ.heap.objs.size<=b)/\b≠X.env.locals/\(∀x c,X.env.cells.lookup x=some c->c≠b)/\∀p∈X.pn++K',p.1≠b) :
  Inv X K' σ H' { s with heap:=h',gens:=g',drawn:=d',toks:=t' }:=by
 obtain⟨m,⟨o,es,ep,h,r⟩,_⟩:=id I.loc;obtain⟨sl,d⟩:=u.any h I.free λz=>(f _ z).2.1 rfl
 show I.step (ch:=ch) f (λb o d q a e n=>u.keep b o e n (λz=>(av.mp (I.pA b z)).elim d q) a) (λb o _ _ a e n=>u.any e n a) (λb o a e n=>u.free b o e n a) (λb o a e=>u.there b o e a) u.oo u.nj u.ou (λv hm=>by
  obtain⟨t,k,j,g,i⟩:=hm;rw[h] at g;cases g;show⟨_,k,j,d,i⟩) eT l
theorem Inv.turned{t':Nat}{a:Addr}(I:Inv X K' σ H s)(k:∀b o,b≠a->s.heap.get? b=some o->h'.get? b=some o)(i:H a=none)(g:a≠X.env.locals)
  (w:a∈X.ex\/X.gQ.heap.objs.size<=a) (t:∀x c,X.env.cells.lookup x=some c->c≠a) (l:∀p∈X.pn++K',p.1≠a):Inv X K' σ H { s with heap:=h',toks:=t' }:=by
 have f:∀b u,H b=some u->b≠a:=λb u e z=>by rw[z,i] at e;cases e
 show I.step (g':=s.gens) (d':=s.drawn) (ch:=[a]) (λb j=>?_) (λb o _ _ d e _=>k b o (λz=>d (by simp[z])) e) (λb o _ _ d e _=>⟨o.slots,k b o (λz=>d (by simp[z])) e⟩) (λ_ _ _ _ n=>n)
  (λb o d e=>⟨o,k b o (λz=>d (by simp[z])) e⟩) (λ_ _ e=>e) (λ_ _ _ e=>e) (λb ps e=>⟨#[],by rw[e];simp⟩) (λm hm=>?_) (λb u e=>?_) I.bare
 .have e:b=a:=by simpa using j
  subst e;show⟨w,g,t,l⟩
 .obtain⟨o,es,ep,h,r⟩:=hm;show⟨o,es,ep,k _ o (Ne.symm g) h,r⟩
 show(I.eT b u e).pB (λc v d q=>k c v ?_ q) (λ_ q=>q) λ_ _ q=>q
 rcases d with z | z
 .rw[z];show f b u e
 show f c _ z
theorem Inv.tok(I:Inv X K' σ H s)(t:Nat):Inv X K' σ H { s with toks:=t }:=I.un (h':=s.heap) (t':=t) Un.refl I.eT
theorem Inv.kept{t':Nat}(I:Inv X K' σ H s)(k:∀b u,s.heap.get? b=some u->h'.get? b=some u):Inv X K' σ H { s with heap:=h',toks:=t' }:=I.un (Un.kept k) (I.eT.kept k)
theorem Inv.laid{a:Addr}{o:HO}{t':Nat}(I:Inv X K' σ H s)(k:∀b u,s.heap.get? b=some u->h'.get? b=some u)(c:s.heap.objs.size<=a)(new:eU X.prog X.w (upd H a o) h' a o) :
  Inv X K' σ (upd H a o) { s with heap:=h',toks:=t' }:=I.un (Un.laid k c (I.eT.fresh c)) (I.eT.laid k c new)
theorem Inv.write{x e:Addr}{o:HO}{t':Nat}(I:Inv X K' σ H s)(c:Bv (H x))(he:e=x\/H e=some (.own x))(k:∀b u,b≠e->s.heap.get? b=some u->h'.get? b=some u)(a:∃u,h'.get? e=some u)
  (new:eU X.prog X.w (upd H x o) h' x o):Inv X K' σ (upd H x o) { s with heap:=h',toks:=t' }:=I.un (Un.write c he k a) (I.eT.write c he k a new)
theorem Inv.qc{a:List (Addr×Obj)}(I:Inv X K' σ H s)(h:∀p∈a,s.heap.get? p.1=some p.2/\H p.1=none/\p.1≠X.env.locals/\p.1∉X.fs/\∀v,p.2.data≠.cell v):Inv X a σ H s:=
 ⟨I.ok,I.os,I.bare,I.base,I.loc,I.cell,I.free,I.jh,λp b=>(au.mp b).elim (λz=>I.pin p (bF _ z)) (h p),I.eT,I.len⟩
theorem J8{N:List Str}(c:N.Nodup){i j:Nat}{x:Str}(a:N[i]?=some x)(b:N[j]?=some x):i=j:=by
 obtain⟨g,e⟩:=ar.mp a;obtain⟨f,d⟩:=ar.mp b;show(List.getElem_inj c).mp (e.trans d.symm)
theorem KI{M:Model}{A:Around}{E:Value->Shared->Prop}{i:Nat}{x:Str}{v:V}{u:Value}{Q:Unit->Shared->Prop}(I:Inv X K' σ H s)(hN:X.N.Nodup)(hi:X.N[i]?=some x)(hx:Loc X.env.scope x)(r:RelV v u)
  (h:∀L,Inv X K' (σ.set i (some v)) H L->(∃a,Heap.SameBut a s.heap L.heap/\(a=X.env.locals\/X.env.cells.lookup x=some a))->Q () L) (hf:X.fn x=true\/X.env.scope.names.lookup x=some .local:=by first | show .inl rfl | show .inr rfl | assumption):wpAny M A (storeName X.env x u) Q E s:=by
 obtain⟨m,T,hl⟩:=id I.loc;have Hg:(X.env.scope.kind==.class||(X.env.scope.kind==.module&&X.env.locals != X.env.globals))=false:=by rw[I.ok.kind];rfl
 have A2:i<σ.length:=by rw[I.len];show(ar.mp hi).1
 have xo:=I.xo;have tracked:∀{a:Addr}{h':Heap},(∃o,s.heap.get? a=some o/\H a=none)->Heap.SameBut a s.heap h'->jS X.prog X.w H h':=λ{a h'} ha f b ob e=>by
  obtain⟨_,_,fS⟩:=ha;show(I.eT b ob e).pB (λc F l q=>(f.2 c ?_).trans q) (λ_ q=>q) λ_ _ q=>q
  rintro rfl;rcases l with rfl | l
  .rw[fS] at e;cases e
  rw[fS] at l;cases l
 rcases hx with B | B
 .refine wpAny_storeName_local B T (λh' XO f=>?_) Hg;obtain⟨oL,_,_,vz,_⟩:=id T;show h _ ⟨I.ok,I.os,I.bare,⟨λb o e n D hx=>?_,λb o e n D hx=>?_,I.base.free,λb o e hx=>?_,I.base.oo,I.base.nj,I.base.ou⟩,⟨_,XO,λj y J g t U=>?_⟩,λy c e=>?_,I.free,I.jh,λp S=>?_,tracked ⟨oL,vz,I.free⟩ f,by simpa using I.len⟩ ⟨_,f,.inl rfl⟩
  .exact(f.2 b (aJ (aW (aF e) I.ok.above))).trans (I.base.keep b o e n D hx)
  .obtain⟨sl,g⟩:=I.base.slot b o e n D hx;show⟨sl,(f.2 b (aJ (aW (aF e) I.ok.above))).trans g⟩
  .obtain⟨P,g⟩:=I.base.there b o e hx;show⟨P,(f.2 b (aJ (aW (aF e) I.ok.above))).trans g⟩
  .by_cases C:j=i
   .subst C;rw[hi] at g;cases g;rw[List.getElem?_set_self A2] at t;cases t;show⟨u,r,.inl ⟨B,by simp⟩⟩
   rw[List.getElem?_set_ne (Ne.symm C)] at t;obtain⟨K,O,q⟩:=hl j y J g t U;show⟨K,O,?_⟩;rcases q with⟨k,e⟩ | ⟨k,c,e,z⟩
   .refine .inl ⟨k,?_⟩;have:y≠x:=λe=>C (J8 hN g (e▸hi))
    simp[this,e]
   show .inr ⟨k,c,e,z.sameBut f (xo y c e)⟩
  .obtain⟨F,z⟩:=I.cell y c e;show⟨F,z.sameBut f (xo y c e)⟩
  obtain⟨e,n,ne,R,d⟩:=I.pin p S;show⟨(f.2 p.1 ne).trans e,n,ne,R,d⟩
 have W:X.fn x=true:=by
  rcases hf with z | z
  .exact z
  rw[z] at B;cases B
 obtain⟨c,l⟩:=I.ok.has x (.inl B);obtain⟨F,z⟩:=I.cell x c l;show wpAny_storeName_cell I.ok.kind B l z (λh' Z f=>?_);obtain⟨oc,Y,GQ⟩:=id z;show h { s with heap:=h' } ⟨I.ok,I.os,I.bare,⟨λb o e n D hx=>?_,λb o e n D hx=>?_,I.base.free,λb o e hx=>?_,I.base.oo,I.base.nj,I.base.ou⟩,⟨m,T.sameBut f (Ne.symm (xo x c l)),λj y J g t U=>?_⟩,λy G e=>?_,I.free,I.jh,λp S=>?_,tracked ⟨oc,Y,I.jh x c l⟩ f,by simpa using I.len⟩ ⟨c,f,.inr l⟩
 .exact(f.2 b (aJ (aW (aF e) (I.ok.cab x c W l)))).trans (I.base.keep b o e n D hx)
 .obtain⟨sl,g⟩:=I.base.slot b o e n D hx;show⟨sl,(f.2 b (aJ (aW (aF e) (I.ok.cab x c W l)))).trans g⟩
 .obtain⟨P,g⟩:=I.base.there b o e hx;show⟨P,(f.2 b (aJ (aW (aF e) (I.ok.cab x c W l)))).trans g⟩
 .by_cases C:j=i
  .subst C;rw[hi] at g;cases g;rw[List.getElem?_set_self A2] at t;cases t;show⟨u,r,.inr ⟨.inl B,c,l,Z⟩⟩
  rw[List.getElem?_set_ne (Ne.symm C)] at t;obtain⟨K,O,q⟩:=hl j y J g t U;show⟨K,O,?_⟩;rcases q with q | ⟨k,G,e,z'⟩
  .exact .inl q
  show .inr ⟨k,G,e,z'.sameBut f ?_⟩;rintro rfl;show C (J8 hN g (I.ok.inj _ _ _ e l▸hi))
 .by_cases MF:G=c
  .subst MF;show⟨_,Z⟩
  obtain⟨w2,z2⟩:=I.cell y G e;show⟨w2,z2.sameBut f MF⟩
 obtain⟨e,n,ne,R,d⟩:=I.pin p S;show⟨(f.2 p.1 ?_).trans e,n,ne,R,d⟩;intro q;rw[q,Y] at e;have q':oc=p.2:=bX e;show d F (by rw[<-q'];show GQ)
theorem J7{M:Model}{A:Around}{E:Value->Shared->Prop}{i:Nat}{x:Str}{v:V}{u:Value}{Q:Unit->Shared->Prop}(I:Inv X K' σ H s)(c:X.N.Nodup)(hi:X.N[i]?=some x)(hx:Loc X.env.scope x)(r:RelV v u)
  (h:∀a,Inv X K' (σ.set i (some v)) H a->Q () a) (b:X.fn x=true\/X.env.scope.names.lookup x=some .local:=by first | show .inl rfl | show .inr rfl | assumption):wpAny M A (storeName X.env x u) Q E s:=
 KI I c hi hx r (λa d _=>h a d) b
theorem Inv.Bp{a:Shared}{ch:List Addr}(I:Inv X K' σ H s)(g:a.os=s.os)(u:Un (tj X.stack) ch H H' s.heap a.heap)(eT:jS X.prog X.w H' a.heap)(h:AllBare a.gens)
  (d:∀b∈ch,(b∈X.ex\/X.gQ.heap.objs.size<=b)/\b≠X.env.locals/\(∀x c,X.env.cells.lookup x=some c->c≠b)/\∀p∈X.pn++K',p.1≠b):Inv X K' σ H' a:=by
 obtain⟨h',g',d',t',f⟩:=a;have e:f=s.os:=g;subst e;show I.call (g':=g') (t':=t') (d':=d') u eT h d
end
noncomputable abbrev XK:=Value->Option Addr->Hp->Prop
noncomputable abbrev St:=List (Option V)
noncomputable abbrev VK:=V->Hp->Prop
noncomputable abbrev TE:=St->Hp->VK->Prop
noncomputable abbrev TT:=St->Hp->(Bool->Hp->Prop)->Prop
noncomputable abbrev TA:=St->Hp->(List V->Hp->Prop)->Prop
structure Ends where
 nx:St->Hp->Prop
 rt:VK
 bk:St->Hp->Prop:=λ_ _=>False
 ct:St->Hp->Prop:=λ_ _=>False
noncomputable abbrev TS:=Ends->St->Hp->Prop
def EP(X:Cx)(d:List (Addr×Obj))(b:St)(Q:VK)(u:Value)(c:Shared):Prop:=∃v a,Inv X d b a c/\RelV v u/\Q v a
def TP(X:Cx)(e:List (Addr×Obj))(c:St)(Q:Bool->Hp->Prop)(b:Bool)(d:Shared):Prop:=∃a,Inv X e c a d/\Q b a
def AP(X:Cx)(f:List (Addr×Obj))(c:St)(Q:List V->Hp->Prop)(d:List Value)(e:Shared):Prop:=∃a b,Inv X f c b e/\Vals a d/\Q a b
def SP(X:Cx)(d:List (Addr×Obj))(D:Ends)(f:Flow)(c:Shared):Prop:=
 match f with
 | .next=>∃b a,Inv X d b a c/\D.nx b a
 | .brk=>∃b a,Inv X d b a c/\D.bk b a
 | .cont=>∃b a,Inv X d b a c/\D.ct b a
 | .ret u=>∃v b a,Inv X d b a c/\RelV v u/\D.rt v a
def PE(X:Cx)(e:Expr)(t:TE):Prop:=
 ∀(a:List (Addr×Obj))(s:Shared)(σ:St)(H:Hp)(Q:VK),Inv X a σ H s->t σ H Q->wpAny (model X.prog X.w) X.A (eval e X.env) (EP X a σ Q) X.xe s
def PT(X:Cx)(e:Expr)(t:TT):Prop:=
 ∀(a:List (Addr×Obj))(s:Shared)(σ:St)(H:Hp)(Q:Bool->Hp->Prop),Inv X a σ H s->t σ H Q->wpAny (model X.prog X.w) X.A (isTrue e X.env (eval e X.env)) (TP X a σ Q) X.xe s
def PW(X:Cx)(e:Expr)(t:TT):Prop:=
 ∀(whole:Sem Value)(a:List (Addr×Obj))(s:Shared)(σ:St)(H:Hp)(Q:Bool->Hp->Prop),Inv X a σ H s->t σ H Q->wpAny (model X.prog X.w) X.A (isTrue e X.env whole) (TP X a σ Q) X.xe s
theorem PW.pt{X:Cx}{e:Expr}{t:TT}(h:PW X e t):PT X e t:=h _
def PA(X:Cx)(es:List Expr)(t:TA):Prop:=
 ∀(pos:Pos)(a:List (Addr×Obj))(s:Shared)(σ:St)(H:Hp)(Q:List V->Hp->Prop),Inv X a σ H s->t σ H Q->wpAny (model X.prog X.w) X.A (spliced (backTo pos (starEach es X.env))) (AP X a σ Q) X.xe s
def PS(X:Cx)(st:Stmt)(t:TS):Prop:=
 ∀(a:List (Addr×Obj))(s:Shared)(σ:St)(H:Hp)(D:Ends),Inv X a σ H s->t D σ H->wpAny (model X.prog X.w) X.A (exec st X.env) (SP X a D) X.xe s
def pM(X:Cx)(st:List Stmt)(t:TS):Prop:=
 ∀(a:List (Addr×Obj))(s:Shared)(σ:St)(H:Hp)(D:Ends),Inv X a σ H s->t D σ H->wpAny (model X.prog X.w) X.A (execs st X.env) (SP X a D) X.xe s
theorem eY{b:Type}{t:Sem b}{Q c:b->Shared->Prop}{M:Model}{A:Around}{E:Value->Shared->Prop}{s:Shared}(h:wpAny M A t Q E s)(d:∀a s,Q a s->c a s):wpAny M A t c E s:=wpAny_mono h d λ_ _ x=>x
section
variable{X:Cx}
theorem bin{a b:Expr}{j tb:TE}(ha:PE X a j)(q:PE X b tb){e:List (Addr×Obj)}{s:Shared}{c:St}{H:Hp}{R:V->V->Hp->Prop}(I:Inv X e c H s)(h:j c H λx H1=>tb c H1 λy d=>R x y d)
  {i:Type} {Q:i->Shared->Prop} {f:Value->Value->Sem i}
  (p:∀v u s2 x y d,Inv X e c d s2->RelV x v->RelV y u->R x y d->wpAny (model X.prog X.w) X.A (f v u) Q X.xe s2) :
  wpAny (model X.prog X.w) X.A (eval a X.env) (λv r=>wpAny (model X.prog X.w) X.A (eval b X.env) (λu o=>wpAny (model X.prog X.w) X.A (f v u) Q X.xe o) X.xe r) X.xe s:=by
 show eY (ha e s c H _ I h) λv s1 g=>?_
 obtain⟨x,H1,z,l,n⟩:=g;show eY (q e s1 c H1 _ z n) λu s2 g=>?_
 obtain⟨y,d,t,k,m⟩:=g;show p v u s2 x y d t l k m
def HP(i:Nat):TE:=λσ H Q=>∃v,σ[i]?=some (some v)/\Q v H
def tC(v:V):TE:=λ_ H Q=>Q v H
theorem pZ{i:Nat}{x:Str}{pos:Pos}(n:X.N[i]?=some x)(g:oR X.env.scope x)(hd:(x==("__debug__":Str))=false:=by decide)(f:(x==("__classdict__":Str))=false:=by decide):PE X (.Name x pos) (HP i):=by
 intro o s σ H Q I h;obtain⟨v,e,h⟩:=h;obtain⟨m,j,k⟩:=I.loc;obtain⟨u,r,l⟩:=k i x v n e g;have fin:EP X o σ Q u s:=⟨v,H,I,r,h⟩
 rcases l with⟨a,hm⟩ | ⟨a,c,d,b⟩
 .exact wpAny_Name (wpAny_loadName_local I.ok.kind a j hm fin) hd
 rcases a with a | a
 .exact wpAny_Name (wpAny_loadName_cell I.ok.kind a d b fin) hd
 show wpAny_Name (wpAny_loadName_free I.ok.kind a d b fin f) hd
theorem OP{i j pos}:PE X (.Constant (.int i) j pos) (tC (.int i)):=λ_ _ _ H _ I h=>wpAny_Constant_int ⟨.int i,H,I.tok _,⟨_,rfl⟩,h⟩
theorem Ov{b j pos}:PE X (.Constant (.bool b) j pos) (tC (.bl b)):=λ_ _ _ H _ I h=>Constant_bool ⟨.bl b,H,I,rfl,h⟩
theorem OO{j pos}:PE X (.Constant .none j pos) (tC .non):=λ_ _ _ H _ I h=>Constant_none ⟨.non,H,I,rfl,h⟩
theorem ON{x j pos}:PE X (.Constant (.str x) j pos) (tC (.str x)):=λ_ _ _ H _ I h=>Calls.Constant_str ⟨.str x,H,I.tok _,⟨_,rfl⟩,h⟩
def Gl(X:Cx)(x:Str):Prop:=X.env.kindOf x=some .globalImplicit
theorem JN{E:Value->Shared->Prop}{d:List (Addr×Obj)}{s:Shared}{a:St}{H:Hp}{x:Str}{u:Value}{pos:Pos}{Q:Value->Shared->Prop}(I:Inv X d a H s)(c:Gl X x)(b:X.mg x=some u)(h:Q u s)
  (hd:(x==("__debug__":Str))=false:=by decide):wpAny (model X.prog X.w) X.A (eval (.Name x pos) X.env) Q E s:=
 Calls.Name_function_global I.ok.kind c (Calls.loadGlobal_global (by rw[I.ok.glob];show I.mod.glob.keeps I.bk) b h) hd
theorem tP{E:Value->Shared->Prop}{i:List (Addr×Obj)}{s:Shared}{a:St}{H:Hp}{x:Str}{u:Value}{pos:Pos}{Q:Value->Shared->Prop}(I:Inv X i a H s)(e:Gl X x)(d:X.mg x=none)(b:bootBuiltins x=some u)(h:Q u s)
  (c:x≠"__name__":=by decide) (hd:(x==("__debug__":Str))=false:=by decide):wpAny (model X.prog X.w) X.A (eval (.Name x pos) X.env) Q E s:=by
 obtain⟨j,g,f⟩:=I.mod.blt;show Calls.Name_function_global I.ok.kind e (Calls.loadGlobal_builtin (by rw[I.ok.glob];show I.mod.glob.keeps I.bk) d (by rw[I.ok.blt];show g.keeps I.bk) ((f x c).trans b) h) hd
theorem QK{x:Str}{v:V}{u:Value}{pos:Pos}(d:Gl X x)(c:X.mg x=none)(a:bootBuiltins x=some u)(r:RelV v u)(b:x≠"__name__":=by decide)(hd:(x==("__debug__":Str))=false:=by decide):PE X (.Name x pos) (tC v):=
 λ_ _ _ H _ I h=>tP I d c a ⟨v,H,I,r,h⟩ b hd
variable{a b:Expr}{ta tb:TE}{pos:Pos}
def PC(X:Cx)(d:CmpOp)(a b:Expr)(t:TE):Prop:=
 ∀(c:List (Addr×Obj))(s:Shared)(σ:St)(H:Hp)(Q:VK),Inv X c σ H s->t σ H Q->
  wpAny (model X.prog X.w) X.A (eval a X.env) (λv f=>wpAny (model X.prog X.w) X.A (eval b X.env) (λu e=>wpAny (model X.prog X.w) X.A (compareOp d v u) (EP X c σ Q) X.xe e) X.xe f) X.xe s
theorem Sb(b:Expr){a:CmpOp}(h:a≠.In)(c:a≠.NotIn):behindInMarks a b=false:=by
 have e:(a==CmpOp.In)=false:=by cases a<;>first | rfl | show absurd rfl h
 have d:(a==CmpOp.NotIn)=false:=by cases a<;>first | rfl | show absurd rfl c
 cases b<;>simp[behindInMarks,e,d]
def tB(t:TE):TT:=λσ H Q=>t σ H λx H1=>∃c,x=.bl c/\Q c H1
theorem YB{e:CmpOp}{t:TE}(h:PC X e a b t)(f:behindInMarks e b=false:=by first | show Sb _ (by decide) (by decide) | rfl):PT X (.Compare a [e] [b] pos) (tB t):=by
 intro l s σ H Q I hw;show wpAny_isTrue_Compare1 (eY (h l s σ H _ I hw) λv s1 f=>eY f λu s2 j=>eY j λc s3 k=>?_) f;obtain⟨x,H1,m,g,i⟩:=k;obtain⟨d,rfl,q⟩:=i;cases g;show wpAny_truthy_bool ⟨H1,m,q⟩
theorem OM{e:Expr}{t:TE}(h:PE X e t)(he:∀whole,isTrue e X.env whole=(do let v <-whole;standAt e.pos;holding [v] (truthy v)):=by intro _;rfl):PT X e (tB t):=by
 intro f s σ H Q I hw;show isTrue_plain (eY (h f s σ H _ I hw) λv s1 c=>?_) (he _);obtain⟨x,H1,g,a,b⟩:=c;obtain⟨d,rfl,q⟩:=b;cases a;show wpAny_truthy_bool ⟨H1,g,q⟩
variable{tA CS:TT}{nY:List Expr}
def NJ(t u:TT):TT:=λσ H Q=>t σ H λc H1=>if c=true then u σ H1 Q else Q false H1
def WD(t u:TT):TT:=λσ H Q=>t σ H λc H1=>if c=true then Q true H1 else u σ H1 Q
def NI(t:TT):TT:=λσ H Q=>t σ H λc H1=>Q (!c) H1
theorem QJ(ha:PT X a tA):PW X (.BoolOp .And [a] pos) tA:=by
 intro d b s σ H Q I h;show isTrue_and (eY (ha b s σ H Q I h) λc s1 e=>?_);cases c with
 | true=>show isTrue_and_nil e
 | false=>show e
theorem OL(ha:PT X a tA):PW X (.BoolOp .Or [a] pos) tA:=by
 intro d b s σ H Q I h;show isTrue_or (eY (ha b s σ H Q I h) λc s1 e=>?_);cases c with
 | false=>show isTrue_or_nil e
 | true=>show e
theorem OK(ha:PT X a tA)(i:PW X (.BoolOp .And (b::nY) pos) CS):PW X (.BoolOp .And (a::b::nY) pos) (NJ tA CS):=by
 intro g e s σ H Q I h;show isTrue_and (eY (ha e s σ H _ I h) λc s1 j=>?_);obtain⟨H1,f,d⟩:=j;cases c with
 | true=>show i g e s1 σ H1 Q f d
 | false=>show⟨H1,f,d⟩
theorem Ou(ha:PT X a tA)(i:PW X (.BoolOp .Or (b::nY) pos) CS):PW X (.BoolOp .Or (a::b::nY) pos) (WD tA CS):=by
 intro g e s σ H Q I h;show isTrue_or (eY (ha e s σ H _ I h) λc s1 j=>?_);obtain⟨H1,f,d⟩:=j;cases c with
 | true=>show⟨H1,f,d⟩
 | false=>show i g e s1 σ H1 Q f d
theorem OJ(ha:PT X a tA):PT X (.UnaryOp .Not a pos) (NI tA):=by
 intro b s σ H Q I h;show isTrue_not (ha b s σ H (λc H1=>Q (!c) H1) I h)
def WE(t:TT)(ta tb:TE):TE:=λσ H Q=>t σ H λc H1=>if c=true then ta σ H1 Q else tb σ H1 Q
theorem Sa{c:Expr}(i:PT X c tA)(ha:PE X a ta)(j:PE X b tb):PE X (.IfExp c a b pos) (WE tA ta tb):=by
 intro e s σ H Q I h;show wpAny_IfExp (eY (i e s σ H _ I h) λd s1 k=>?_);obtain⟨H1,g,f⟩:=k;cases d with
 | true=>show ha e s1 σ H1 Q g f
 | false=>show j e s1 σ H1 Q g f
end
def gA(K:J')(H:Hp)(a:Addr)(xs:List V):Prop:=
 Rd H a (.lst xs)\/
  ∃(o:Obj)(its:Array Value)(n:Nat),K.lookup a=some o/\o.cls=.type "list"/\o.dict=none/\o.data=.seq its n/\its.size<=sizeLine/\Vals xs its.toList
def iz(K:J')(H:Hp)(a:Addr)(xs:List V):Prop:=
 Rd H a (.tup xs)\/
  ∃(o:Obj)(its:Array Value)(n:Nat),K.lookup a=some o/\o.cls=.type "tuple"/\o.data=.seq its n/\its.size<=sizeLine/\Vals xs its.toList
noncomputable def NH:Value->Option V
 | .none=>some .non
 | .bool b=>some (.bl b)
 | .int i _=>some (.int i)
 | .str x _=>some (.str x)
 | .bytes b _=>some (.Dl b)
 | .float b _=>some (.Di b)
 | .ref a=>some (.ref a)
 | .type n=>some (.ty n)
 | _=>none
theorem RelV.abs{x:V}{u:Value}(r:RelV x u):NH u=some x:=by
 cases x with
 | non=>cases r;rfl
 | bl _=>cases r;rfl
 | int _=>obtain⟨t,rfl⟩:=r;rfl
 | str _=>obtain⟨t,rfl⟩:=r;rfl
 | Dl _=>obtain⟨t,rfl⟩:=r;rfl
 | Di _=>obtain⟨t,rfl⟩:=r;rfl
 | ref _=>cases r;rfl
 | ty _=>cases r;rfl
theorem RelV.inj{x y:V}{u:Value}(r:RelV x u)(q:RelV y u):x=y:=bX (r.abs.symm.trans q.abs)
theorem Vals.inj{xs ys:List V}{a:List Value}(h:Vals xs a)(k:Vals ys a):xs=ys:=by
 induction h generalizing ys with
 | nil=>cases k;rfl
 | cons r t c=>
  cases k with
  | cons b t'=>rw[r.inj b,c t']
section
variable{X:Cx}{K':List (Addr×Obj)}{σ:St}{H:Hp}{s:Shared}{a:Addr}{xs ys:List V}
theorem gA.of{K:J'}(h:H a=some (.lst xs)):gA K H a xs:=.inl (.inl h)
theorem iz.of{K:J'}(h:H a=some (.tup xs)):iz K H a xs:=.inl (.inl h)
theorem Inv.list(I:Inv X K' σ H s)(h:gA X.K H a xs):∃its:List Value,Vals xs its/\PlainL s.heap a its.toArray/\xs.length<=sizeLine:=by
 rcases h with h | ⟨o,its,n,c,d,hd,b,hz,r⟩
 .obtain⟨z,its,n,r,e⟩:=h.ok I.eT;show⟨its,r,⟨_,n,e,rfl,rfl,rfl⟩,z⟩
 show⟨its.toList,r,⟨o,n,I.nT a o c,d,hd,by simpa using b⟩,?_⟩;have e:=r.length;simp only[af] at e;ext
theorem Inv.tuple(I:Inv X K' σ H s)(h:iz X.K H a xs):∃its:List Value,Vals xs its/\IsTup s.heap a its.toArray/\xs.length<=sizeLine:=by
 rcases h with h | ⟨o,its,n,c,d,b,hz,r⟩
 .obtain⟨z,its,r,p⟩:=h.ok I.eT;show⟨its,r,p,z⟩
 show⟨its.toList,r,⟨o,I.nT a o c,d,n,by simpa using b⟩,?_⟩;have e:=r.length;simp only[af] at e;ext
theorem Inv.jf(I:Inv X K' σ H s)(h:gA X.K H a xs)(h':gA X.K H a ys):xs=ys:=by
 obtain⟨its,r,⟨o,n,e,_,_,d⟩,_⟩:=I.list h;obtain⟨its',c,⟨g,i,b,_,_,d'⟩,_⟩:=I.list h';rw[e] at b;cases b;rw[d] at d';injection d' with f _
 have:its=its':=by simpa using congrArg Array.toList f
 subst this;show r.inj c
theorem Inv.mZ(I:Inv X K' σ H s)(h:iz X.K H a xs)(h':iz X.K H a ys):xs=ys:=by
 obtain⟨its,r,⟨o,e,_,n,d⟩,_⟩:=I.tuple h;obtain⟨its',c,⟨g,b,_,i,d'⟩,_⟩:=I.tuple h';rw[e] at b;cases b;rw[d] at d';injection d' with f _
 have:its=its':=by simpa using congrArg Array.toList f
 subst this;show r.inj c
end
noncomputable abbrev Cx.mI(X:Cx)(E:Value->Shared->Prop):Cx:={ X with xe:=E }
noncomputable abbrev Cx.tX(X:Cx):Cx:=X.mI λ_ _=>False
theorem Cx.Ok.mI{X:Cx}(ok:X.Ok)(E:Value->Shared->Prop):(X.mI E).Ok:=
 ⟨ok.mod,ok.kind,ok.glob,ok.blt,ok.above,ok.inj,ok.has,ok.cab,ok.hd,ok.frames,ok.CT,ok.exf,ok.bs,ok.vG,ok.sL,ok.tx,ok.k9,ok.xk⟩
theorem Cx.Ok.ja{X:Cx}{E:Value->Shared->Prop}(ok:(X.mI E).Ok):X.Ok:=
 ⟨ok.mod,ok.kind,ok.glob,ok.blt,ok.above,ok.inj,ok.has,ok.cab,ok.hd,ok.frames,ok.CT,ok.exf,ok.bs,ok.vG,ok.sL,ok.tx,ok.k9,ok.xk⟩
section
variable{X:Cx}{K':List (Addr×Obj)}{σ:St}{H:Hp}{s:Shared}{E:Value->Shared->Prop}
theorem Inv.mI(I:Inv X K' σ H s)(E:Value->Shared->Prop):Inv (X.mI E) K' σ H s:=⟨I.ok.mI E,I.os,I.bare,I.base,I.loc,I.cell,I.free,I.jh,I.pin,I.eT,I.len⟩
theorem Inv.ja(I:Inv (X.mI E) K' σ H s):Inv X K' σ H s:=⟨I.ok.ja,I.os,I.bare,I.base,I.loc,I.cell,I.free,I.jh,I.pin,I.eT,I.len⟩
theorem SP.ja{D:Ends}{f:Flow}{c:Shared}(h:SP (X.mI E) K' D f c):SP X K' D f c:=by
 cases f with
 | next=>obtain⟨a,b,I,q⟩:=h;show⟨a,b,I.ja,q⟩
 | brk=>obtain⟨a,b,I,q⟩:=h;show⟨a,b,I.ja,q⟩
 | cont=>obtain⟨a,b,I,q⟩:=h;show⟨a,b,I.ja,q⟩
 | ret u=>obtain⟨v,a,b,I,r,q⟩:=h;show⟨v,a,b,I.ja,r,q⟩
theorem pM.tX{st:List Stmt}{t:TS}(h:pM X.tX st t):pM X st t:=λK' s σ H D I hw=>
 wpAny_mono (h K' s σ H D (I.mI _) hw) (λ_ _ q=>q.ja) λ_ _ z=>False.elim z
end
section
variable{X:Cx}{st:Stmt}{nY:List Stmt}{t u:TS}{e:Expr}{te:TE}{pos:Pos}
def Ot:TS:=λD σ H=>D.nx σ H
def NG(t u:TS):TS:=λD σ H=>t { D with nx:=u D } σ H
theorem JM:pM X [] Ot:=λ_ _ σ H _ I h=>wpAny_execs_nil ⟨σ,H,I,h⟩
theorem J6(c:PS X st t)(b:pM X nY u):pM X (st::nY) (NG t u):=by
 intro a s σ H D I h;show wpAny_execs_cons (eY (c a s σ H { D with nx:=u D } I h) λf s1 q=>?_);cases f with
 | next=>
  obtain⟨d,g,e,q⟩:=q;show b a s1 d g D e q
 | ret v=>show q
 | brk=>show q
 | cont=>show q
theorem QI(a:PS X st t):pM X [st] t:=by
 intro b s σ H D I h;show wpAny_execs_cons (eY (a b s σ H D I h) λf s1 q=>?_);cases f with
 | next=>show wpAny_execs_nil q
 | ret v=>show q
 | brk=>show q
 | cont=>show q
theorem Inv.quiet{b:List (Addr×Obj)}{a:St}{H:Hp}{s:Shared}(I:Inv X b a H s):interactive X.env=false:=by simp[interactive,I.ok.kind]
def Oq(te:TE):TS:=λD σ H=>te σ H λ_ H1=>D.nx σ H1
theorem Ci(he:PE X e te)(b:swapsWith e none pos.line X.env=pure false:=by rfl):PS X (.Expr e pos) (Oq te):=by
 intro d s σ H D I h;show wpAny_Expr_any (eY (he d s σ H _ I h) λv s1 c=>by obtain⟨x,H1,f,g,a⟩:=c;show⟨σ,H1,f,a⟩) I.quiet b
def NF(te:TE):TS:=λD σ H=>te σ H D.rt
theorem D7(he:PE X e te):PS X (.Return (some e) pos) (NF te):=by
 intro d s σ H D I h;show wpAny_Return_some (eY (he d s σ H _ I h) λv s1 c=>by obtain⟨x,H1,f,a,b⟩:=c;show⟨x,σ,H1,f,a,b⟩)
def ND(c:TT)(t u:TS):TS:=λD σ H=>c σ H λb H1=>if b=true then t D σ H1 else u D σ H1
theorem Oo{c:Expr}{a b:List Stmt}{tc:TT}(i:PT X c tc)(ha:pM X a t)(j:pM X b u):PS X (.If c a b pos) (ND tc t u):=by
 intro e s σ H D I h;show wpAny_If (eY (i e s σ H _ I h) λd s1 k=>?_);obtain⟨H1,g,f⟩:=k;cases d with
 | true=>show ha e s1 σ H1 D g f
 | false=>show j e s1 σ H1 D g f
end
noncomputable abbrev TG:=V->St->Hp->(St->Hp->Prop)->Prop
noncomputable abbrev uT:=List V->St->Hp->(St->Hp->Prop)->Prop
def PG(X:Cx)(a:Expr)(t:TG):Prop:=
 ∀(c:List (Addr×Obj))(s:Shared)(σ:St)(H:Hp)(v:V)(u:Value)(Q:St->Hp->Prop),Inv X c σ H s->RelV v u->t v σ H Q->
  wpAny (model X.prog X.w) X.A (assign a X.env u) (λ_ e=>∃b d,Inv X c b d e/\Q b d) X.xe s
def yJ(X:Cx)(e:List Expr)(t:uT):Prop:=
 ∀(c:List (Addr×Obj))(s:Shared)(σ:St)(H:Hp)(a:List V)(us:List Value)(Q:St->Hp->Prop),Inv X c σ H s->Vals a us->t a σ H Q->
  wpAny (model X.prog X.w) X.A (assignInOrder ((assignEach e X.env).map (·.2)) us) (λ_ f=>∃b d,Inv X c b d f/\Q b d) X.xe s
noncomputable abbrev DD:=V->V->V->Hp->(Hp->Prop)->Prop
def HN(X:Cx)(t:DD):Prop:=
 ∀(b:List (Addr×Obj))(s:Shared)(σ:St)(H:Hp)(o i v:V)(ov a u:Value)(Q:Hp->Prop),Inv X b σ H s->RelV o ov->RelV i a->RelV v u->t o i v H Q->
  wpAny (model X.prog X.w) X.A (setItem ov a u) (λ_ d=>∃c,Inv X b σ c d/\Q c) X.xe s
section
variable{X:Cx}{pos:Pos}
def DS(i:Nat):TG:=λv σ H Q=>Q (σ.set i (some v)) H
theorem QH{i:Nat}{x:Str}(b:X.N.Nodup)(hi:X.N[i]?=some x)(hx:Loc X.env.scope x)(a:X.fn x=true\/X.env.scope.names.lookup x=some .local:=by first | show .inl rfl | show .inr rfl | assumption):PG X (.Name x pos) (DS i):=by
 intro e s σ H v u Q I r h;show wpAny_assign_Name (J7 I b hi hx r (λd c=>⟨_,H,c,h⟩) a)
noncomputable def NC:uT:=λa σ H Q=>a=[]/\Q σ H
noncomputable def Om(t:TG)(u:uT):uT:=λa σ H Q=>∃v r,a=v::r/\t v σ H λb c=>u r b c Q
theorem QV:yJ X [] NC:=by
 intro b s σ H a us Q I r h;obtain⟨e,h⟩:=h;subst e;cases r;show assignInOrder_nil ⟨σ,H,I,h⟩
theorem Ri{e:Expr}{es:List Expr}{t:TG}{u:uT}(i:PG X e t)(g:yJ X es u)
  (f:(assignEach (e::es) X.env).map (·.2)=assign e X.env::(assignEach es X.env).map (·.2):=by rfl):yJ X (e::es) (Om t u):=by
 intro a s σ H m us Q I r h;obtain⟨v,n,j,h⟩:=h;subst j;cases r with
 | cons r c=>
  rw[f];show assignInOrder_cons (eY (i a s σ H _ _ _ I r h) λ_ s1 k=>?_);obtain⟨b,H1,l,d⟩:=k;show g a s1 b H1 _ _ Q l c d
def NB(K:J')(n:Nat)(t:uT):TG:=λv σ H Q=>∃a xs,v=.ref a/\iz K H a xs/\xs.length=n/\t xs σ H Q
theorem OI{es:List Expr}{k:Nat}{t:uT}{n:Nat}(m:X.calm=true)(h:yJ X es t)
  (j:(assignEach es X.env).length=n:=by rfl) (f:(assignEach es X.env).findIdx? (·.1)=none:=by rfl):PG X (.Tuple es k pos) (NB X.K n t):=by
 intro d s σ H v u Q I r hw;obtain⟨a,xs,p,i,l,hw⟩:=hw;subst p;cases r;obtain⟨its,c,g,hz⟩:=I.tuple i;show assign_Tuple_tuple (I.ok.hd m) g (by simp[j,<-l,c.length]) f λh' hx=>?_
 have q:Inv X d σ H { s with heap:=h' }:=I.kept (t':=s.toks) λb o e=>hx b o (aJ (aF e)) e
 show h d _ σ H xs _ Q q (by simpa using c) hw
def Nz(a b:TE)(t:DD):TG:=λv σ H Q=>a σ H λo H1=>b σ H1 λi d=>t o i v d λc=>Q σ c
theorem OH{o i:Expr}{d e:TE}{t:DD}(n:PE X o d)(hi:PE X i e)(m:HN X t)
  (ha:∀v,assign (.Subscript o i pos) X.env v=(do
   let ov <-holding [v] (eval o X.env)
   let a <-holding [v,ov] (eval i X.env)
   standAt pos
   holding [v,ov,a] (setItem ov a v)
   release [v,ov,a] []):=by intro _;rfl):PG X (.Subscript o i pos) (Nz d e t):=by
 intro c s σ H v u Q I r h;rw[ha];show aa (bM (eY (n c s σ H _ I h) λov s1 b=>?_));obtain⟨x,H1,w,g,l⟩:=b;show aa (bM (eY (hi c s1 σ H1 _ w l) λa s2 b=>?_));obtain⟨y,A,q,f,k⟩:=b;show aa (wpAny_standAt (aa (bM (eY (m c s2 σ A x y v ov a u _ q g f r k) λ_ s3 b=>?_))));obtain⟨z,p,j⟩:=b;show wpAny_release ⟨σ,z,p,j⟩
def DC(te:TE)(g:TG):TS:=λD σ H=>te σ H λx H1=>g x σ H1 D.nx
theorem IB{a e:Expr}{te:TE}{g:TG}(he:PE X e te)(i:PG X a g)(f:swapsWithSole [a] e pos.line X.env=pure false:=by rfl)(hw:swappedStores [a] e X.env=pure none:=by rfl)
  (j:(assignEach [a] X.env).map (·.2)=[assign a X.env]:=by rfl):PS X (.Assign [a] e pos) (DC te g):=by
 intro b s σ H D I h;show wpAny_Assign_stores (eY (he b s σ H _ I h) λv s1 k=>?_) f hw;obtain⟨x,H1,l,c,d⟩:=k;rw[j];show eY (i b s1 σ H1 x v _ l c d) λ_ s2 q=>q
theorem IA{i:Nat}{x:Str}{e:Expr}{te:TE}{a:Pos}(g:X.N.Nodup)(hi:X.N[i]?=some x)(hx:Loc X.env.scope x)(he:PE X e te)(d:swapsWith e (some (.Name x a)) pos.line X.env=pure false:=by rfl)(f:X.fn x=true\/X.env.scope.names.lookup x=some .local:=by first | show .inl rfl | show .inr rfl | assumption) :
  PS X (.Assign [.Name x a] e pos) (DC te (DS i)):=by
 intro k s σ H D I h;show wpAny_Assign_Name (eY (he k s σ H _ I h) λv s1 j=>?_) d;obtain⟨y,H1,m,b,c⟩:=j;show J7 m g hi hx b (λs2 l=>⟨_,H1,l,c⟩) f
end
section
variable{X:Cx}{pos:Pos}
def OG(c:TT)(tb:TS):TS:=λD σ H=>∃W:Nat->St->Hp->Prop,(∃m,W m σ H)/\∀m σ H,W m σ H->
 c σ H λb H1=>if b=true then ∃N:St->Hp->Prop,(∀d e,N d e->∃a,a<m/\W a d e)/\tb { D with nx:=N,ct:=N,bk:=D.nx } σ H1 else D.nx σ H1
theorem Rh{c:Expr}{body:List Stmt}{tc:TT}{tb:TS}(o:PassesOwn (model X.prog X.w) X.A X.env X.xe)(z:PT X c tc)(B:pM X body tb):PS X (.While c body [] pos) (OG tc tb):=by
 intro l s σ H D I h;obtain⟨W,⟨m0,x⟩,turn⟩:=h;show wpAny_While (codeAny_whileLoop (λn y=>∃q u,Inv X l q u y/\W n q u) ?_ m0 ⟨σ,H,I,x⟩);rintro n s1 ⟨e,H1,E,w1⟩;show wpAny_passesOwn o (eY (z l s1 e H1 _ E (turn n e H1 w1)) λb s2 C=>?_);obtain⟨t,r,i⟩:=C;cases b with
 | true=>
  obtain⟨N,p,i⟩:=i;rw[if_pos rfl];show wpAny_passesOwn o (eY (B l s2 e t _ r i) λf s3 g=>?_);cases f with
  | next=>
   obtain⟨a,d,m,n3⟩:=g;obtain⟨k,hm,j⟩:=p a d n3;show⟨k,hm,a,d,m,j⟩
  | cont=>
   obtain⟨a,d,m,n3⟩:=g;obtain⟨k,hm,j⟩:=p a d n3;show⟨k,hm,a,d,m,j⟩
  | brk=>show g
  | ret v=>show g
 | false=>
  rw[if_neg aY];show wpAny_execs_nil ⟨e,t,r,i⟩
end
structure It where
 go:Nat->Hp->Prop
 CP:Nat->Hp->V->Hp->Prop
 stop:Nat->Hp->Prop
def lp(X:Cx)(a:List (Addr×Obj))(H:Hp)(b:Addr):Prop:=
 H b=none/\b≠X.env.locals/\b∉X.fs/\(b∈X.ex\/X.gQ.heap.objs.size<=b)/\(∀x c,X.env.cells.lookup x=some c->c≠b)/\∀p∈X.pn++a,p.1≠b
theorem Inv.oN{X:Cx}{d:List (Addr×Obj)}{g:St}{H f:Hp}{s:Shared}{b:Addr}(I:Inv X d g H s)(a:s.heap.objs.size<=b)(i:f b=none):lp X d f b:=by
 show⟨i,Nat.ne_of_gt (aW I.lt a),I.Gg a,.inr (aM I.sz a),λx c e z=>?_,λp h z=>?_⟩
 .obtain⟨v,q⟩:=I.cell x c e;show absurd (aW q.lt (by rw[z];show a)) (cN _)
 show absurd (aW (aF (I.pin p h).1) (by rw[z];show a)) (cN _)
structure Turn(P:Program)(w:World)(K:J')(tg:Expr)(J:It)(fp:List Addr)(it:Addr)(tn:Nat->Heap->Prop):Prop where
 mem:it∈fp
 obj:∀i h,tn i h->∀b∈fp,∃o,h.get? b=some o/\∀v,o.data≠.cell v
 keep:∀i h h',tn i h->(∀b∈fp,∀o,h.get? b=some o->h'.get? b=some o)->tn i h'
 item:∀(X:Cx),X.prog=P->X.w=w->X.K=K->X.calm=true->∀(i:Nat)(K':List (Addr×Obj))(s:Shared)(σ:St)(H:Hp)(E:Value->Shared->Prop),Inv X K' σ H s->(∀b∈fp,lp X K' H b)->tn i s.heap->J.go i H->
  wpAny (model P w) X.A (pyNext (.ref it)) (λr s1=>∃u,r=some u/\
   wpAny (model P w) X.A (letOwnedTupleGo tg (.ref it) u) (λ_ s2=>∃x H',Inv X K' σ H' s2/\RelV x u/\J.CP i H x H'/\tn (i+1) s2.heap/\∀b∈fp,H' b=none) E s1) E s
 done:∀(X:Cx),X.prog=P->X.w=w->X.K=K->X.calm=true->∀(i:Nat)(K':List (Addr×Obj))(s:Shared)(σ:St)(H:Hp)(E:Value->Shared->Prop),Inv X K' σ H s->(∀b∈fp,lp X K' H b)->tn i s.heap->J.stop i H->
  wpAny (model P w) X.A (pyNext (.ref it)) (λr s1=>r=none/\Inv X K' σ H s1) E s
 self:∀(A:Around)(i:Nat)(s:Shared)(Q:Value->Shared->Prop)(E:Value->Shared->Prop),tn i s.heap->Q (.ref it) s->wpAny (model P w) A (pyIter (.ref it)) Q E s
noncomputable abbrev TI:=St->Hp->(It->Hp->Prop)->Prop
def Dr(X:Cx)(e:List (Addr×Obj))(f:St)(g:Expr)(R:It->Hp->Prop)(h:Value)(d:Shared):Prop:=
 ∃(it:Addr)(fp:List Addr)(c:Nat->Heap->Prop)(J:It)(a:Hp),h=.ref it/\Inv X e f a d/\Turn X.prog X.w X.K g J fp it c/\c 0 d.heap/\(∀b∈fp,lp X e a b)/\R J a
def PI(X:Cx)(d a:Expr)(c:TI):Prop:=
 ∀(b:List (Addr×Obj))(s:Shared)(σ:St)(H:Hp)(R:It->Hp->Prop),Inv X b σ H s->c σ H R->
  wpAny (model X.prog X.w) X.A (eval a X.env) (λv s1=>wpAny (model X.prog X.w) X.A (pyIter v) (Dr X b σ d R) X.xe s1) X.xe s
theorem BK{M:Model}{A:Around}{E:Value->Shared->Prop}{s:Shared}{c:Expr}{d:Addr}{u:Value}{o:Obj}{n:String}{b:Array Value}{Q:Unit->Shared->Prop}(e:s.heap.get? d=some o)(g:o.cls=.type n)(hd:o.data=.fields b)
  (f:["enumerate","zip","dict_itemiterator","dict_reverseitemiterator","odict_iterator","itertools.zip_longest","itertools.pairwise"].contains n=false) (a:Q () s):wpAny M A (letOwnedTupleGo c (.ref d) u) Q E s:=by
 unfold letOwnedTupleGo;cases c<;>first
  | show ao a
  | (cases u<;>first
    | show ao a
    | (show aa (wpAny_load e ?_)
       rw[g,hd];show wpAny M A (if (["enumerate","zip","dict_itemiterator","dict_reverseitemiterator","odict_iterator","itertools.zip_longest","itertools.pairwise"].contains n&&b[0]?==some (rawInt _))=true then _ else _) Q E s;rw[if_neg (by intro h;rw[f,Bool.false_and] at h;cases h)];show ao a))
noncomputable def HG(K:J')(a:Addr):It:=
 ⟨λi H=>∃xs x,gA K H a xs/\xs[i]?=some x,λi H x b=>b=H/\∀xs,gA K H a xs->xs[i]?=some x,λi H=>∃xs,gA K H a xs/\xs.length<=i⟩
noncomputable def HF(K:J')(a:Addr):It:=
 ⟨λi H=>∃xs x,iz K H a xs/\xs[i]?=some x,λi H x b=>b=H/\∀xs,iz K H a xs->xs[i]?=some x,λi H=>∃xs,iz K H a xs/\xs.length<=i⟩
noncomputable def Bx(lo:Int)(n:Nat):It:=⟨λi _=>i<n,λi H x a=>a=H/\x=.int (lo+i),λi _=>n<=i⟩
theorem TL{P:Program}{w:World}{K:J'}{C:Expr}(a f:Addr):Turn P w K C (HG K a) [f] f (λi h=>h.IsListIter f a i) where
 mem:=by simp
 obj:=λi h st b g=>by
  have e:b=f:=by simpa using g
  subst e;obtain⟨o,e,c,d⟩:=st;show⟨o,e,λv z=>by rw[d] at z;cases z⟩
 keep:=λi h h' st k=>st.at λo e=>k f (by simp) o e
 item:=by
  intro X n hw q y i B s σ H E I hf st m;subst n hw q;obtain⟨xs,x,j,hx⟩:=m;obtain⟨its,l,p,hz⟩:=I.list j;obtain⟨u,J,F⟩:=l.get hx;obtain⟨f0,f1,f2,t,f4,r⟩:=hf f (by simp);show wpAny_pyNext_list_item st p.isList (x:=u) (by simpa using J) λh' A D=>?_
  have M:Inv X B σ H { s with heap:=h' }:=I.turned (t':=s.toks) (λb o g e=>(D.2 b g).trans e) f0 f1 t f4 r;obtain⟨o,e,c,d⟩:=id A;show⟨u,rfl,BK (s:={ s with heap:=h' }) e c d (by decide) ⟨x,H,M,F,⟨rfl,λys G=>by rw[I.jf G j];show hx⟩,A,λb g=>(hf b g).1⟩⟩
 done:=by
  intro X n hw q y i B s σ H E I hf st m;subst n hw q;obtain⟨xs,j,hx⟩:=m;obtain⟨its,l,p,hz⟩:=I.list j;obtain⟨f0,f1,f2,t,f4,r⟩:=hf f (by simp);have N:=l.length;show wpAny_pyNext_list_end (I.ok.hd y) st p.isList (by simp;ext) λh' L=>⟨rfl,I.turned (t':=s.toks) (λb o g e=>L b o g e) f0 f1 t f4 r⟩
 self:=λ_ _ _ _ _ st h=>wpAny_pyIter_listiter st h
theorem T4{P:Program}{w:World}{K:J'}{C:Expr}(a f:Addr):Turn P w K C (HF K a) [f] f (λi h=>h.IsTupleIter f a i) where
 mem:=by simp
 obj:=λi h st b g=>by
  have e:b=f:=by simpa using g
  subst e;obtain⟨o,e,c,d⟩:=st;show⟨o,e,λv z=>by rw[d] at z;cases z⟩
 keep:=λi h h' st k=>st.at λo e=>k f (by simp) o e
 item:=by
  intro X n hw q y i B s σ H E I hf st m;subst n hw q;obtain⟨xs,x,j,hx⟩:=m;obtain⟨its,l,p,hz⟩:=I.tuple j;obtain⟨u,J,F⟩:=l.get hx;obtain⟨f0,f1,f2,t,f4,r⟩:=hf f (by simp);show wpAny_pyNext_tuple_item st (show s.heap.IsTuple a its.toArray from p) (x:=u) (by simpa using J) λh' A D=>?_
  have M:Inv X B σ H { s with heap:=h' }:=I.turned (t':=s.toks) (λb o g e=>(D.2 b g).trans e) f0 f1 t f4 r;obtain⟨o,e,c,d⟩:=id A;show⟨u,rfl,BK (s:={ s with heap:=h' }) e c d (by decide) ⟨x,H,M,F,⟨rfl,λys G=>by rw[I.mZ G j];show hx⟩,A,λb g=>(hf b g).1⟩⟩
 done:=by
  intro X n hw q y i B s σ H E I hf st m;subst n hw q;obtain⟨xs,j,hx⟩:=m;obtain⟨its,l,p,hz⟩:=I.tuple j;obtain⟨f0,f1,f2,t,f4,r⟩:=hf f (by simp);have N:=l.length;show wpAny_pyNext_tuple_end (I.ok.hd y) st (show s.heap.IsTuple a its.toArray from p) (by simp;ext) λh' L=>⟨rfl,I.turned (t':=s.toks) (λb o g e=>L b o g e) f0 f1 t f4 r⟩
 self:=λ_ _ _ _ _ st h=>wpAny_pyIter_tupleiter st h
theorem TZ{P:Program}{w:World}{K:J'}{u:Expr}(a:Addr)(lo:Int)(n:Nat):Turn P w K u (Bx lo n) [a] a (λi h=>IsRangeIter h a (lo+(i:Nat)*1) ((n:Int)-(i:Nat)) 1) where
 mem:=by simp
 obj:=λi h st b c=>by
  have e:b=a:=by simpa using c
  subst e
  show⟨_,st,λv z=>by
   have r:Data.fields _=Data.cell v:=z;cases r⟩
 keep:=λi h h' st k=>k a (by simp) _ st
 item:=by
  intro X g hw j f i q s σ H E I hf st d;subst g hw j;obtain⟨f0,f1,f2,m,f4,l⟩:=hf a (by simp);have W:=Walks.range (prog:=X.prog) (w:=X.w) (I.ok.hd f) a lo 1 n;show W.item i s _ _ d st λv h' tk y p x=>?_
  obtain⟨t,rfl⟩:=y;have B:Inv X q σ H { s with heap:=h',toks:=tk }:=I.turned (λb o c e=>x b o (by simpa using c) e) f0 f1 m f4 l;show⟨_,rfl,BK (s:={ s with heap:=h',toks:=tk }) (n:="range_iterator") p rfl rfl (by decide) ⟨.int (lo+i),H,B,⟨t,?_⟩,⟨rfl,rfl⟩,p,λb c=>(hf b c).1⟩⟩;rw[Int.mul_one]
 done:=by
  intro X g hw j f i q s σ H E I hf st d;subst g hw j;obtain⟨f0,f1,f2,m,f4,l⟩:=hf a (by simp);show wpAny_pyNext_range_end (I.ok.hd f) st (by have:n<=i:=d;ext) λh' A=>⟨rfl,I.turned (t':=s.toks) (λb o c e=>A b o c e) f0 f1 m f4 l⟩
 self:=λ_ _ _ _ _ st h=>wpAny_pyIter_rangeiter st h
section
variable{X:Cx}{tg:Expr}
theorem J5{c:List (Addr×Obj)}{a:St}{H:Hp}{s:Shared}{R:It->Hp->Prop}{E:Value->Shared->Prop}{lo hi:Int}{t u v:Tok}{tk:Nat}(I:Inv X c a H s)(j:-(2 ^ 62)<=lo)(i:lo<2 ^ 62)(h:-(2 ^ 62)<=hi)(g:hi<2 ^ 62)
  (q:R (Bx lo (hi-lo).toNat) H):wpAny (model X.prog X.w) X.A (pyIter (.ref s.heap.objs.size)) (Dr X c a tg R) E { s with heap:=s.heap.push { cls:=.type "range",data:=.fields #[.int lo t,.int hi u,.int 1 v] },toks:=tk }:=by
 show wpAny_pyIter_range (IsRange.new ..) (small_one j i h g) ?_;have d:Inv X c a H { s with heap:=s.heap.push { cls:=.type "range",data:=.fields #[.int lo t,.int hi u,.int 1 v] },toks:=tk }:=I.kept λb o e=>aj _ e
 show⟨(s.heap.push { cls:=.type "range",data:=.fields #[.int lo t,.int hi u,.int 1 v] }).objs.size,[(s.heap.push { cls:=.type "range",data:=.fields #[.int lo t,.int hi u,.int 1 v] }).objs.size],_,_,H,rfl,
  d.kept (t':=tk) λb o e=>aj _ e,TZ _ lo (hi-lo).toNat,?_,λb f=>?_,q⟩
 .have l:lo+((0:Nat):Int)*1=lo:=by simp
  have k:(((hi-lo).toNat:Nat):Int)-((0:Nat):Int)=Builtin.Range.rangeSize lo hi 1:=by rw[rangeSize_one];split<;>ext
  show IsRangeIter _ _ (lo+((0:Nat):Int)*1) ((((hi-lo).toNat:Nat):Int)-((0:Nat):Int)) 1;rw[l,k];show az _ rfl
 have e:b=(s.heap.push { cls:=.type "range",data:=.fields #[.int lo t,.int hi u,.int 1 v] }).objs.size:=by simpa using f
 subst e;show d.oN (ay _) (d.eT.fresh (ay _))
def Ol(b:TA):TI:=λσ H R=>b σ H λa H1=>∃j:Int,a=[.int j]/\-(2 ^ 62)<=j/\j<2 ^ 62/\R (Bx 0 j.toNat) H1
def Oj(b:TA):TI:=λσ H R=>b σ H λa H1=>∃i j:Int,a=[.int i,.int j]/\(-(2 ^ 62)<=i/\i<2 ^ 62/\-(2 ^ 62)<=j/\j<2 ^ 62)/\R (Bx i (j-i).toNat) H1
theorem TK{a:Expr}{c:TA}{p pos:Pos}(l:Gl X "range")(k:X.mg "range"=none)(ha:PA X [a] c)(i:starEach [a] X.env=[(false,eval a X.env)]:=by rfl):PI X tg (.Call (.Name "range" p) [a] [] pos) (Ol c):=by
 intro n s σ H R I h;show Call_ (tP I l k boot_range (cx (eY (ha pos n s σ H _ I h) λus s1 m=>?_) i rfl));obtain⟨u,H1,o,f,b⟩:=m;obtain⟨j,e,b,g,q⟩:=b;subst e;cases f with
 | cons r d=>
  cases d;obtain⟨t,rfl⟩:=r;show call_range_1 (J5 o (by ext) (by ext) b g (by simpa using q))
theorem TJ{a b:Expr}{f:TA}{p pos:Pos}(w:Gl X "range")(v:X.mg "range"=none)(ha:PA X [a,b] f)(u:starEach [a,b] X.env=[(false,eval a X.env),(false,eval b X.env)]:=by rfl)(g:starEach [b] X.env=[(false,eval b X.env)]:=by rfl) :
  PI X tg (.Call (.Name "range" p) [a,b] [] pos) (Oj f):=by
 intro x s σ H R I h;show Call_ (tP I w v boot_range (cx (eY (ha pos x s σ H _ I h) λus s1 ⟨z,H1,y,k,d⟩=>?_) (by rw[u,g]) (by rw[g];rfl)));obtain⟨i,j,e,⟨d,o,n,m⟩,q⟩:=d;subst e;cases k with
 | cons r c=>
  cases c with
  | cons l c=>
   cases c;obtain⟨t,rfl⟩:=r;obtain⟨t',rfl⟩:=l;show call_range_2 (J5 y d o n m q)
def Ny(d:TI)(g:TG)(tb:TS):TS:=λD σ H=>d σ H λJ H1=>∃W:Nat->Nat->St->Hp->Prop,(∃m,W 0 m σ H1)/\∀i m σ H,W i m σ H->
 (J.stop i H/\D.nx σ H)\/(J.go i H/\∃N:St->Hp->Prop,(∀c a,N c a->∃b,b<m/\W (i+1) b c a)/\∀x a,J.CP i H x a->g x σ a λe f=>tb { D with nx:=N,ct:=N,bk:=D.nx } e f)
noncomputable def y7(fp:List Addr)(h:Heap):List (Addr×Obj):=fp.filterMap λb=>(h.get? b).map λo=>(b,o)
theorem CN{fp:List Addr}{h:Heap}{b:Addr}{o:Obj}(a:b∈fp)(e:h.get? b=some o):(b,o)∈y7 fp h:=List.mem_filterMap.mpr ⟨b,a,by rw[e];rfl⟩
theorem TH{fp:List Addr}{h:Heap}{p:Addr×Obj}(a:p∈y7 fp h):p.1∈fp/\h.get? p.1=some p.2:=by
 obtain⟨b,c,e⟩:=List.mem_filterMap.mp a;cases q:h.get? b with
 | none=>rw[q] at e;cases e
 | some o=>
  rw[q] at e;have d:(b,o)=p:=bX e;subst d;show⟨c,q⟩
theorem Inv.pinned{a:List (Addr×Obj)}{c:St}{H:Hp}{s:Shared}{fp:List Addr}(I:Inv X a c H s)(j:∀b∈fp,lp X a H b)(i:∀b∈fp,∃o,s.heap.get? b=some o/\∀v,o.data≠.cell v):Inv X (a++y7 fp s.heap) c H s:=
 I.qc λp h=>(au.mp h).elim (λz=>I.pin p (aQ _ z)) λz=>by
  obtain⟨f,e⟩:=TH z;obtain⟨f0,f1,f2,_⟩:=j p.1 f;obtain⟨o,g,d⟩:=i p.1 f;rw[e] at g;cases g;show⟨e,f0,f1,f2,d⟩
theorem Inv.jW{b pl:List (Addr×Obj)}{a:St}{H:Hp}{s:Shared}(I:Inv X (b++pl) a H s):Inv X b a H s:=I.qc λp c=>I.pin p (aQ _ (bF _ c))
theorem OF{c:Expr}{body:List Stmt}{O:TI}{g:TG}{tb:TS}{pos:Pos}(C:PassesOwn (model X.prog X.w) X.A X.env X.xe)(R:X.calm=true)(hi:PI X tg c O)(hg:PG X tg g)(j:pM X body tb)
  (hs:∀x,foldedSetIterable c X.env x=pure x:=by intro _;rfl):PS X (.For tg c body [] pos) (Ny O g tb):=by
 intro y s σ H D I h;show wpAny_For (eY (hi y s σ H _ I h) λv s1 h1=>eY h1 λGw s2 h2=>?_) hs;obtain⟨it,fp,P,J,H2,e,I2,T,ez,f2,W,⟨m0,w0⟩,turn⟩:=h2;subst e
 -- Ad stays true of pz wW objects through pz loop
 have G:∀{p:Hp},(∀b∈fp,p b=none)->∀b∈fp,lp X y p b:=λhn b j=>⟨hn b j,(f2 b j).2⟩
 show codeAny_forLoop_any (λn Q=>∃i E p,Inv X y E p Q/\P i Q.heap/\(∀b∈fp,p b=none)/\W i n E p) ?_ m0 ⟨0,σ,H2,I2,ez,λb j=>(f2 b j).1,w0⟩;rintro n s3 ⟨i,B,F,U,Y,S,w3⟩;rcases turn i n B F w3 with⟨stop,qn⟩ | ⟨go,N,hN,step⟩
 .refine wpAny_passesOwn C (eY (T.done X rfl rfl rfl R i y s3 B F X.xe U (G S) Y stop) λr s4 t=>?_);obtain⟨L,I4⟩:=t;subst L;show wpAny_execs_nil ⟨B,F,I4,qn⟩
 show wpAny_passesOwn C (eY (T.item X rfl rfl rfl R i y s3 B F X.xe U (G S) Y go) λr s4 t=>?_);obtain⟨u,L,h4⟩:=t;subst L;show wpAny_passesOwn C (eY h4 λ_ s5 t=>?_);obtain⟨x,V,I5,r5,Z,M,Yn⟩:=t;have Yy:=I5.pinned (G Yn) (T.obj _ _ M);show wpAny_passesOwn C (eY (hg _ s5 B V x u _ Yy r5 (step x V Z)) λ_ s6 t=>?_);obtain⟨M8,H6,I6,q6⟩:=t;show wpAny_passesOwn C (eY (j _ s6 M8 H6 _ I6 q6) λf K q=>?_);have again:∀{a:St}{l:Hp},Inv X (y++y7 fp s5.heap) a l K->N a l->∃m,m<n/\∃i E p,Inv X y E p K/\P i K.heap/\(∀b∈fp,p b=none)/\W i m E p:=λ{a l} k z=>by
  obtain⟨m',hm,w7⟩:=hN a l z;show⟨m',hm,i+1,a,l,k.jW,T.keep _ _ _ M λb j o e=>(k.pin (b,o) (aQ _ (aQ _ (CN j e)))).1,λb j=>?_,w7⟩;obtain⟨o,e,d⟩:=T.obj _ _ M b j;show(k.pin (b,o) (aQ _ (aQ _ (CN j e)))).2.1
 cases f with
 | next=>obtain⟨a,l,k,z⟩:=q;show again k z
 | cont=>obtain⟨a,l,k,z⟩:=q;show again k z
 | brk=>obtain⟨a,l,k,q⟩:=q;show⟨a,l,k.jW,q⟩
 | ret v=>obtain⟨x7,a,l,k,r7,q⟩:=q;show⟨x7,a,l,k.jW,r7,q⟩
end
noncomputable abbrev R2:=V->V->Hp->VK->Prop
def jj(X:Cx)(f:Value->Value->Sem Value)(r:R2):Prop:=
 ∀(a:List (Addr×Obj))(s:Shared)(σ:St)(H:Hp)(x y:V)(v u:Value)(Q:VK),Inv X a σ H s->RelV x v->RelV y u->r x y H Q->
  wpAny (model X.prog X.w) X.A (f v u) (EP X a σ Q) X.xe s
def HB(X:Cx)(f:Value->Sem Value)(r:V->Hp->VK->Prop):Prop:=
 ∀(a:List (Addr×Obj))(s:Shared)(σ:St)(H:Hp)(x:V)(v:Value)(Q:VK),Inv X a σ H s->RelV x v->r x H Q->
  wpAny (model X.prog X.w) X.A (f v) (EP X a σ Q) X.xe s
def fc(X:Cx)(f:Value)(r:List V->Hp->VK->Prop):Prop:=
 ∀(a:List (Addr×Obj))(s:Shared)(σ:St)(H:Hp)(xs:List V)(us:List Value)(Q:VK),Inv X a σ H s->Vals xs us->r xs H Q->
  wpAny (model X.prog X.w) X.A (call f us) (EP X a σ Q) X.xe s
def An(r:R2)(a tb:TE):TE:=λσ H Q=>a σ H λx H1=>tb σ H1 λy b=>r x y b Q
def WB(r:V->Hp->VK->Prop)(a:TE):TE:=λσ H Q=>a σ H λx H1=>r x H1 Q
def rI(C:Int->Int->Prop)(g:Int->Int->V):R2:=λx y H Q=>∃i j,x=.int i/\y=.int j/\C i j/\Q (g i j) H
def qK(g:Int->Int->V):R2:=λx y H Q=>∃i j,x=.int i/\y=.int j/\Q (g i j) H
def rU(g:Int->V):V->Hp->VK->Prop:=λx H Q=>∃i,x=.int i/\Q (g i) H
section
variable{X:Cx}{a b c:Expr}{ta tb tc:TE}{pos:Pos}
theorem DB(ha:PE X a ta)(o:PE X b tb){e:List (Addr×Obj)}{s:Shared}{c:St}{H:Hp}{R:V->V->Hp->Prop}(I:Inv X e c H s)
  (h:ta c H λx H1=>tb c H1 λy d=>R x y d) {Q:Value->Shared->Prop} {f:Value->Value->Sem Value}
  (n:∀v u s2 x y d,Inv X e c d s2->RelV x v->RelV y u->R x y d->wpAny (model X.prog X.w) X.A (f v u) Q X.xe s2) :
  wpAny (model X.prog X.w) X.A (eval a X.env) (λv p=>wpAny (model X.prog X.w) X.A (eval b X.env) (λu m=>wpAny (model X.prog X.w) X.A (f v u) Q X.xe m) X.xe p) X.xe s:=by
 show eY (ha e s c H _ I h) λv s1 g=>?_
 obtain⟨x,H1,r,j,l⟩:=g;show eY (o e s1 c H1 _ r l) λu s2 g=>?_
 obtain⟨y,d,q,i,k⟩:=g;show n v u s2 x y d q j i k
theorem Oi{c:Operator}{r:R2}(f:jj X (binaryOp c) r)(ha:PE X a ta)(g:PE X b tb):PE X (.BinOp a c b pos) (An r ta tb):=by
 intro i s σ H Q I h;show wpAny_BinOp (DB ha g I h λv u s2 x y k j e d q=>f i s2 σ k x y v u Q j e d q)
theorem Oh{b:UnaryOp}{r:V->Hp->VK->Prop}(f:HB X (unaryOp b) r)(ha:PE X a ta):PE X (.UnaryOp b a pos) (WB r ta):=by
 intro c s σ H Q I h;show UnaryOp_ (eY (ha c s σ H _ I h) λv s1 g=>by obtain⟨x,H1,i,d,e⟩:=g;show f c s1 σ H1 x v Q i d e)
theorem CY{f:Value->Value->Sem Value}{C:Int->Int->Prop}{g:Int->Int->Int}
  (a:∀(i j:Int)(t u:Tok)(s:Shared)(Q:Value->Shared->Prop)(E:Value->Shared->Prop),C i j->Q (.int (g i j) s.toks) { s with toks:=s.toks+1 }->wpAny (model X.prog X.w) X.A (f (.int i t) (.int j u)) Q E s) :
  jj X f (rI C λi j=>.int (g i j)):=by
 intro e s σ H x y v u Q I c b h;obtain⟨i,j,rfl,rfl,d,q⟩:=h;obtain⟨t,rfl⟩:=c;obtain⟨t',rfl⟩:=b;show a i j t t' s _ _ d ⟨.int (g i j),H,I.tok _,⟨_,rfl⟩,q⟩
theorem HM{f:Value->Value->Sem Value}{g:Int->Int->Int}
  (a:∀(i j:Int)(t u:Tok)(s:Shared)(Q:Value->Shared->Prop)(E:Value->Shared->Prop),Q (.int (g i j) s.toks) { s with toks:=s.toks+1 }->wpAny (model X.prog X.w) X.A (f (.int i t) (.int j u)) Q E s) :
  jj X f (qK λi j=>.int (g i j)):=by
 intro d s σ H x y v u Q I c b h;obtain⟨i,j,rfl,rfl,q⟩:=h;obtain⟨t,rfl⟩:=c;obtain⟨t',rfl⟩:=b;show a i j t t' s _ _ ⟨.int (g i j),H,I.tok _,⟨_,rfl⟩,q⟩
theorem BD{f:Value->Value->Sem Value}{g:Int->Int->Bool}
  (a:∀(i j:Int)(t u:Tok)(s:Shared)(Q:Value->Shared->Prop)(E:Value->Shared->Prop),Q (.bool (g i j)) s->wpAny (model X.prog X.w) X.A (f (.int i t) (.int j u)) Q E s) :
  jj X f (qK λi j=>.bl (g i j)):=by
 intro d s σ H x y v u Q I c b h;obtain⟨i,j,rfl,rfl,q⟩:=h;obtain⟨t,rfl⟩:=c;obtain⟨t',rfl⟩:=b;show a i j t t' s _ _ ⟨.bl (g i j),H,I,rfl,q⟩
def kO(i j:Int):Prop:=0<j/\j<1073741824
def rZ(i j:Int):Prop:=0<=j/\j<=1000000/\i.natAbs<2 ^ 64
def gq(i j:Int):Prop:=(-(2 ^ 64)<i/\i<2 ^ 64)\/(-(2 ^ 64)<j/\j<2 ^ 64)
theorem gq.ok{i j:Int}(h:gq i j):IntMulOk i j:=by
 rcases h with⟨b,a⟩ | ⟨b,a⟩
 .exact .of_left (intBits_le_64 b a)
 show .of_right (intBits_le_64 b a)
theorem wJ:jj X (binaryOp .Add) (qK λi j=>.int (i+j)):=HM λ_ _ _ _ _ _ _ q=>add_int q
theorem OE:jj X (binaryOp .Sub) (qK λi j=>.int (i-j)):=HM λ_ _ _ _ _ _ _ q=>sub_int q
theorem Pg:jj X (binaryOp .Mult) (rI gq λi j=>.int (i*j)):=CY λ_ _ _ _ _ _ _ a q=>mul_int q a.ok
theorem QU:jj X (binaryOp .FloorDiv) (rI kO λi j=>.int (i/j)):=CY λi j _ _ _ _ _ a q=>by
 have c:(0:Int)<j:=a.1;have b:j<1073741824:=a.2;show floordiv_int (by ext) (by rw[Int.fdiv_eq_ediv_of_nonneg i (by ext)];show q) (.inl (PyProof.noPylong_small (by ext)))
theorem Pf:jj X (binaryOp .Mod) (rI (λ_ j=>0<j) λi j=>.int (i%j)):=CY λi j _ _ _ _ _ a q=>by
 have b:(0:Int)<j:=a;show mod_int' (by ext) (by rw[Int.fmod_eq_emod_of_nonneg i (by ext)];show q)
theorem Pe:jj X (binaryOp .Pow) (rI rZ λi j=>.int (i ^ j.toNat)):=CY λ_ _ _ _ _ _ _ a q=>pow_int_small a.1 a.2.1 a.2.2 q
theorem Ww{f:Value->Sem Value}{g:Int->Int}
  (a:∀(i:Int)(t:Tok)(s:Shared)(Q:Value->Shared->Prop)(E:Value->Shared->Prop),Q (.int (g i) s.toks) { s with toks:=s.toks+1 }->wpAny (model X.prog X.w) X.A (f (.int i t)) Q E s) :
  HB X f (rU λi=>.int (g i)):=by
 intro c s σ H x v Q I b h;obtain⟨i,rfl,q⟩:=h;obtain⟨t,rfl⟩:=b;show a i t s _ _ ⟨.int (g i),H,I.tok _,⟨_,rfl⟩,q⟩
theorem Pd:HB X (unaryOp .USub) (rU λi=>.int (-i)):=Ww λ_ _ _ _ _ q=>neg_int q
end
section
variable{X:Cx}{a b c:Expr}{ta tb tc:TE}{pos:Pos}
theorem D8{c:List (Addr×Obj)}{a:St}{H:Hp}{s:Shared}{Q:VK}{k b:Bool}(I:Inv X c a H s)(q:Q (.bl k) H)(e:k=b):EP X c a Q (.bool b) s:=by
 subst e;show⟨.bl k,H,I,rfl,q⟩
theorem Og:jj X (compareOp .Lt) (qK λi j=>.bl (decide (i<j))):=BD λ_ _ _ _ _ _ _ q=>lt_int q
theorem vW:jj X (compareOp .LtE) (qK λi j=>.bl (decide (i<=j))):=BD λ_ _ _ _ _ _ _ q=>le_int q
theorem Of:jj X (compareOp .Gt) (qK λi j=>.bl (decide (j<i))):=BD λ_ _ _ _ _ _ _ q=>gt_int q
theorem Oe:jj X (compareOp .GtE) (qK λi j=>.bl (decide (j<=i))):=BD λ_ _ _ _ _ _ _ q=>ge_int q
theorem qL:jj X (compareOp .In) (λx y H Q=>∃i j,x=.str i/\y=.str j/\Q (.bl (!(Builtin.Str.occurrences j i 0 j.length 1).isEmpty)) H):=by
 intro c s σ H x y v u Q I b a h;obtain⟨i,j,rfl,rfl,q⟩:=h;obtain⟨t,rfl⟩:=b;obtain⟨t',rfl⟩:=a;show in_str (D8 I q rfl)
theorem Pb:jj X (compareOp .Is) (λx y H Q=>y=.non/\Q (.bl (decide (x=.non))) H):=by
 intro c s σ H x y v u Q I a b h;obtain⟨rfl,q⟩:=h;cases b;show is_none_gen (D8 I q ?_);cases x<;>first
  | (cases a;rfl)
  | (obtain⟨t,rfl⟩:=a;rfl)
theorem QT:jj X (compareOp .IsNot) (λx y H Q=>y=.non/\Q (.bl (!decide (x=.non))) H):=by
 intro c s σ H x y v u Q I a b h;obtain⟨rfl,q⟩:=h;cases b;show isnot_none_gen (D8 I q ?_);cases x<;>first
  | (cases a;rfl)
  | (obtain⟨t,rfl⟩:=a;rfl)
theorem jj.or{f:Value->Value->Sem Value}{r c:R2}(h:jj X f r)(h':jj X f c):jj X f (λx y H Q=>r x y H Q\/c x y H Q):=by
 intro d s σ H x y v u Q I b a q;rcases q with q | q
 .exact h d s σ H x y v u Q I b a q
 show h' d s σ H x y v u Q I b a q
theorem Iz(b:Expr){a:CmpOp}(h:a≠.In:=by decide)(c:a≠.NotIn:=by decide):behindInMarks a b=false:=by
 have e:(a==CmpOp.In)=false:=by cases a<;>first | rfl | show absurd rfl h
 have d:(a==CmpOp.NotIn)=false:=by cases a<;>first | rfl | show absurd rfl c
 cases b<;>simp[behindInMarks,e,d]
theorem QS{c:CmpOp}{r:R2}(f:jj X (compareOp c) r)(ha:PE X a ta)(i:PE X b tb)(g:behindInMarks c b=false):PE X (.Compare a [c] [b] pos) (An r ta tb):=by
 intro j s σ H Q I h;show wpAny_Compare1 (DB ha i I h λv u s2 x y l k e d q=>f j s2 σ l x y v u Q k e d q) g
def DT(t:TE):TT:=λσ H Q=>t σ H λx a=>∃k,x=.bl k/\Q k a
theorem QR{f:CmpOp}{r:R2}(p:jj X (compareOp f) r)(ha:PE X a ta)(t:PE X b tb)(q:behindInMarks f b=false):PT X (.Compare a [f] [b] pos) (DT (An r ta tb)):=by
 intro g s σ H Q I h;show wpAny_isTrue_Compare1 (eY (ha g s σ H _ I h) λv s1 d=>?_) q;obtain⟨x,H1,B,l,o⟩:=d;show eY (t g s1 σ H1 _ B o) λu s2 d=>?_
 obtain⟨y,D,A,j,n⟩:=d;show eY (p g s2 σ D x y v u _ A l j n) λc s3 d=>?_
 obtain⟨z,C,w,i,k,e,m⟩:=d;subst e;cases i;show wpAny_truthy_bool ⟨C,w,m⟩
def Iy(r c:R2)(ta tb tc:TE):TE:=λσ H Q=>ta σ H λx H1=>tb σ H1 λy e=>r x y e λz a=>∃k,z=.bl k/\
 (if k=true then tc σ a λb d=>c y b d Q else Q (.bl false) a)
theorem Rg{j i:CmpOp}{r m:R2}(L:jj X (compareOp j) r)(D:jj X (compareOp i) m)(ha:PE X a ta)(O:PE X b tb)(N:PE X c tc)
  (M:lastMarks [j,i] [b,c]=false:=by with_unfolding_all rfl):PT X (.Compare a [j,i] [b,c] pos) (DT (Iy r m ta tb tc)):=by
 intro g s σ H Q I h;show isTrue_chain (eY (ha g s σ H _ I h) λv s1 f=>?_) M;obtain⟨x,H1,V,C,J⟩:=f;show test_link (eY (O g s1 σ H1 _ V J) λu s2 f=>?_);obtain⟨y,Z,U,l,G⟩:=f;show eY (L g s2 σ Z x y v u _ U C l G) λd s3 f=>?_
 obtain⟨z,p,o,B,k,e,n⟩:=f;subst e;cases B;show wpAny_truthy_bool ?_;cases k with
 | false=>
  obtain⟨k',R,K⟩:=n;cases R;show ite_ff ⟨p,o,K⟩
 | true=>
  show ite_tt (test_last (eY (N g s3 σ p _ o n) λt s4 f=>?_));obtain⟨q,Y,T,A,F⟩:=f;show eY (D g s4 σ Y y q u t _ T l A F) λd' s5 f=>?_
  obtain⟨z2,W,S,w,k2,P,E⟩:=f;subst P;cases w;show wpAny_truthy_bool ⟨W,S,E⟩
theorem xV:(sizeLine:Nat)<2 ^ 63:=by rw[sizeLine_eq];decide
theorem pD:jj X (binaryOp .Add) (λx y H Q=>∃i j,x=.str i/\y=.str j/\i.length+j.length<=sizeLine/\Q (.str (i++j)) H):=by
 intro c s σ H x y v u Q I b a h;obtain⟨i,j,rfl,rfl,hz,q⟩:=h;obtain⟨t,rfl⟩:=b;obtain⟨t',rfl⟩:=a;show add_str (λt' tk=>⟨.str (i++j),H,I.tok _,⟨_,rfl⟩,q⟩) hz
theorem lG{x:V}{a:List Value}(r:Vals [x] a):∃u,a=[u]/\RelV x u:=by
 cases r with
 | cons c b=>cases b;show⟨_,rfl,c⟩
theorem yZ{x y:V}{b:List Value}(r:Vals [x,y] b):∃u a,b=[u,a]/\RelV x u/\RelV y a:=by
 cases r with
 | cons f e=>
  cases e with
  | cons d c=>cases c;show⟨_,_,rfl,f,d⟩
theorem TF(b:X.calm=true):fc X (.builtin "max") (λxs H Q=>∃i j,xs=[.int i,.int j]/\Q (.int (if j>i then j else i)) H):=by
 intro d s σ H xs us Q I r h;obtain⟨i,j,rfl,q⟩:=h;obtain⟨u,c,rfl,⟨t,rfl⟩,⟨t',rfl⟩⟩:=yZ r;show max_two_ints (I.ok.hd b) λh' tk k=>⟨_,H,I.kept k,?_,q⟩
 by_cases a:j>i
 .rw[if_pos a,if_pos a];show⟨_,rfl⟩
 rw[if_neg a,if_neg a];show⟨_,rfl⟩
theorem TC(b:X.calm=true):fc X (.builtin "min") (λxs H Q=>∃i j,xs=[.int i,.int j]/\Q (.int (if j<i then j else i)) H):=by
 intro d s σ H xs us Q I r h;obtain⟨i,j,rfl,q⟩:=h;obtain⟨u,c,rfl,⟨t,rfl⟩,⟨t',rfl⟩⟩:=yZ r;show min_two_ints (I.ok.hd b) λh' tk k=>⟨_,H,I.kept k,?_,q⟩
 by_cases a:j<i
 .rw[if_pos a,if_pos a];show⟨_,rfl⟩
 rw[if_neg a,if_neg a];show⟨_,rfl⟩
theorem TB:fc X (.type "int") (λxs H Q=>(∃i,xs=[.int i]/\Q (.int i) H)\/∃k,xs=[.bl k]/\Q (.int (if k then 1 else 0)) H):=by
 intro b s σ H xs us Q I r h;rcases h with⟨i,rfl,q⟩ | ⟨k,rfl,q⟩
 .obtain⟨u,rfl,t,rfl⟩:=lG r;show call_int_int ⟨.int i,H,I,⟨_,rfl⟩,q⟩
 obtain⟨u,rfl,a⟩:=lG r;cases a;show call_int_bool ⟨.int (if k then 1 else 0),H,I.tok _,⟨_,rfl⟩,q⟩
end
structure qS(h:Heap)(x dx C:Addr)(mA:Str->Option Value):Prop where
 obj:h.get? x=some (PySem.W.instObj C dx)
 ns:h.Ns1 dx mA
 ne:dx≠x
theorem Sq{h:Heap}{c:Addr}{b:Str->Option Value}(n:h.Ns1 c b):∃od,h.get? c=some od/\∀name,PySem.W.lookIn name od=some (b name):=by
 obtain⟨o,es,ep,g,hd,i,_,hm⟩:=n;show⟨o,g,λname=>?_⟩;have e:=hm name;unfold nsFind findBy at e;rw[<-Array.find?_toList] at e;unfold PySem.W.lookIn;rw[hd];dsimp only;split
 .rename_i y q;rw[q] at e;show congrArg some e
 rename_i q;rw[q] at e;have a:es.toList.any (·.refKey)=false:=by
  rw[List.any_eq_false];intro y f;obtain⟨z,t,d⟩:=i y (bR.mp f);simp[DictEntry.refKey,d]
 have j:¬es.toList.any (·.refKey)=true:=by rw[a];show aY
 rw[if_neg j];show congrArg some e
theorem qS.look{h:Heap}{x b C:Addr}{a:Str->Option Value}(I:qS h x b C a):∃od,PySem.W.InstAt h x (PySem.W.instObj C b) C (some od)/\∀name,PySem.W.lookIn name od=some (a name):=
 let⟨od,c,d⟩:=Sq I.ns
 ⟨od,⟨I.obj,rfl,rfl,c⟩,d⟩
section
variable{prog:Program}{w:World}{A:Around}{E:Value->Shared->Prop}{s:Shared}{K:J'}{x dx C f:Addr}{mA:Str->Option Value}{name:Str}{v:Value}
theorem QQ{a:Bool}{Q:Value->Shared->Prop}(X:K.In s.heap)(I:qS s.heap x dx C mA)(f:PySem.W.plainGet K C name=true)(e:PySem.W.hasDictIn K C=true)
  (ha:PySem.W.findIn K (.ref C) name=some none) (c:mA name=some v) (b:PySem.W.handedIn v=true) (h:Q v { s with toks:=s.toks+1 }) :
  wpAny (model prog w) A (getAttr (.ref x) name a) Q E s:=by
 obtain⟨od,J,d⟩:=I.look;show PySem.W.get_value X J (PySem.W.plainGet_of f).1 (PySem.W.findObj_own e ha rfl (by rw[d,c])) b h
theorem QP{ns:List Str}{Q:Unit->Shared->Prop}(X:K.In s.heap)(I:qS s.heap x dx C mA)
  (g:PySem.W.findIn K (.ref C) "__setattr__"=some (some (.builtin "object.__setattr__"))) (i:PySem.W.plainOver K C=true) (f:PySem.W.takerIn K C name=some none) (j:PySem.W.hasDictIn K C=true)
  (hw:PySem.Within mA ns) (hsz:ns.length<=sizeLine)
  (h:∀h',qS h' x dx C (λy=>if y=name then some v else mA y)->Heap.SameBut dx s.heap h'->Q () { s with heap:=h',toks:=s.toks+2 }) :
  wpAny (model prog w) A (setAttr (.ref x) name v) Q E s:=by
 obtain⟨od,J,o⟩:=I.look;show PySem.W.set_plain X J g (PySem.W.osa_open (s:={ s with toks:=s.toks+1 }) (r:=none) X J i f λb=>?_);obtain⟨cd,k,e⟩:=PySem.W.any_some j;have hx:s.heap.get? x=some ⟨.ref C,some dx,.plain,#[]⟩:=I.obj;show aa (ao (aa (aa (wpAny_loadPart hx (aa (PySem.W.Looks.here (s:={ s with toks:=s.toks+1 }) (PySem.W.looks_clsIn X k) ?_))))));rw[e];show ao (a:=some dx) (aa (ao (aa ?_)));show wpAny_nsSet1 (s:={ s with toks:=s.toks+1 }) I.ns λh' d c=>?_
 obtain⟨oD,q,p,l,n,m⟩:=d.count (PySem.Within.cons name v hw);show aa (wpAny_lookBehind l (by rw[n];show pastItsLine_dict (aM m (by rw[aG];ext))) ?_);show ao (h _ ⟨(c.2 _ (Ne.symm I.ne)).trans I.obj,d,I.ne⟩ c)
theorem Rf{R:Result->Shared->Prop}{a:List Value}{b:List (Str×Value)}(X:K.In s.heap)(c:PySem.W.makesIn K C=true)
  (hi:PySem.W.findIn K (.ref C) "__init__"=some (some (.ref f))) (e:PySem.W.typeIn K (.ref f)=some (.type "function"))
  (h:codeAny (model prog w) (A.under (.builtin "type.__call__" ⟨.ref C::a,b⟩)) (.call (.ref f) ⟨.ref (s.heap.objs.size+1)::a,b⟩) (PySem.W.InitBack (s.heap.objs.size+1) R)
   { s with heap:=(s.heap.push PySem.W.emptyDict).push (PySem.W.instObj C s.heap.objs.size) }) :
  codeAny (model prog w) A (.call (.ref C) ⟨a,b⟩) R s:=by
 obtain⟨i,g,d,t,os⟩:=s;show PySem.W.make_core (PySem.W.makes_of X c) (PySem.W.looks_findIn X hi) (λself=>PySem.W.bind_fn X self e) (.inl rfl) h
end
noncomputable def mU(f:Str)(v:V):List (Str×V)->List (Str×V)
 | []=>[(f,v)]
 | (g,x)::r=>if g=f then(g,v)::r else(g,x)::mU f v r
theorem Lv(f g:Str)(v:V):∀fs:List (Str×V),(mU f v fs).lookup g=if g=f then some v else fs.lookup g
 | []=>by
  show List.lookup g [(f,v)]=_;by_cases h:g=f
  .have a:(g==f)=true:=beq_iff_eq.mpr h;simp only[List.lookup,a,if_pos h]
  have a:(g==f)=false:=cI.mpr h;simp only[List.lookup,a,if_neg h]
 | (k,x)::r=>by
  have c:=Lv f g v r;rw[show mU f v ((k,x)::r)=(if k=f then(k,v)::r else(k,x)::mU f v r) from rfl];by_cases b:k=f
  .rw[if_pos b];by_cases h:g=k
   .have a:(g==k)=true:=beq_iff_eq.mpr h;simp only[List.lookup,a,if_pos (h.trans b)]
   have a:(g==k)=false:=cI.mpr h;simp only[List.lookup,a,if_neg (λe:g=f=>h (e.trans b.symm))]
  rw[if_neg b];by_cases h:g=k
  .have a:(g==k)=true:=beq_iff_eq.mpr h;simp only[List.lookup,a,if_neg (λe:g=f=>b (h.symm.trans e))]
  have a:(g==k)=false:=cI.mpr h;simp only[List.lookup,a];show c
theorem EV(f:Str)(v:V):∀fs:List (Str×V),f∈(mU f v fs).map (·.1)/\∀g,g∈fs.map (·.1)->g∈(mU f v fs).map (·.1)
 | []=>⟨by simp[mU],λg h=>by simp at h⟩
 | (k,x)::r=>by
  obtain⟨i1,b⟩:=EV f v r;rw[show mU f v ((k,x)::r)=(if k=f then(k,v)::r else(k,x)::mU f v r) from rfl];by_cases a:k=f
  .rw[if_pos a];subst a;show⟨by simp,λg h=>by simpa using h⟩
  rw[if_neg a];show⟨?_,λg h=>?_⟩
  .rw[ax];show aK _ i1
  rw[ax] at h ⊢;rcases av.mp h with e | e
  .exact av.mpr (.inl e)
  show aK _ (b g e)
theorem Lu(f:Str)(v:V):∀fs:List (Str×V),(mU f v fs).length<=fs.length+1
 | []=>by simp[mU]
 | (k,x)::r=>by
  have b:=Lu f v r;rw[show mU f v ((k,x)::r)=(if k=f then(k,v)::r else(k,x)::mU f v r) from rfl];by_cases a:k=f
  .rw[if_pos a,aG,aG];ext
  rw[if_neg a,aG,aG];ext
theorem lh.some_of{v:V}{o:Option Value}(r:lh (some v) o):∃u,o=some u/\RelV v u:=by
 cases o with
 | none=>show(show False from r).elim
 | some u=>show⟨u,rfl,r⟩
theorem So{v:V}{u:Value}(r:RelV v u):PySem.W.handedIn u=true:=by
 cases v with
 | non=>cases (show u=Value.none from r);rfl
 | bl b=>cases (show u=Value.bool b from r);rfl
 | int i=>obtain⟨t,e⟩:=(show ∃t,u=Value.int i t from r);cases e;rfl
 | str x=>obtain⟨t,e⟩:=(show ∃t,u=Value.str x t from r);cases e;rfl
 | Dl b=>obtain⟨t,e⟩:=(show ∃t,u=Value.bytes b t from r);cases e;rfl
 | Di b=>obtain⟨t,e⟩:=(show ∃t,u=Value.float b t from r);cases e;rfl
 | ref a=>cases (show u=Value.ref a from r);rfl
 | ty n=>cases (show u=Value.type n from r);rfl
section
variable{P:Program}{w:World}{H H':Hp}{h h':Heap}{a C dx:Addr}{fs Dh:List (Str×V)}
theorem JA(eT:jS P w H h)(e:H a=some (.ins C dx fs)):∃b,qS h a dx C b/\(∀f,lh (fs.lookup f) (b f))/\PySem.Within b (fs.map (·.1))/\fs.length<=1000/\H dx=some (.own a):=by
 obtain⟨d,z,ne,ob,b,n,r,q⟩:=(show eU P w H h a (.ins C dx fs) from eT a _ e)
 show⟨b,⟨ob,n,ne⟩,r,q,z,d⟩
end
structure vK(K:J')(C:Addr):Prop where
 pg:PySem.W.plainGet K C Str.empty=true
 hd:PySem.W.hasDictIn K C=true
 po:PySem.W.plainOver K C=true
 sa:PySem.W.findIn K (.ref C) "__setattr__"=some (some (.builtin "object.__setattr__"))
theorem vK.get{K:J'}{C:Addr}(c:vK K C)(f:Str):PySem.W.plainGet K C f=true:=c.pg
def eO(K:J')(C:Addr)(f:Str):Prop:=PySem.W.findIn K (.ref C) f=some none
theorem eO.Am{K:J'}{C:Addr}{f:Str}(n:eO K C f):PySem.W.takerIn K C f=some none:=by
 unfold PySem.W.takerIn;rw[show PySem.W.findIn K (.ref C) f=some none from n];rfl
section
variable{X:Cx}{K':List (Addr×Obj)}{σ:St}{H:Hp}{s:Shared}{a C dx:Addr}{fs:List (Str×V)}{f:Str}{v:V}{A:Around}{E:Value->Shared->Prop}
theorem TY{b:Bool}{Q:Value->Shared->Prop}(I:Inv X K' σ H s)(e:H a=some (.ins C dx fs))(c:vK X.K C)(n:eO X.K C f)(l:fs.lookup f=some v)
  (h:∀u d,Inv X K' σ H d->RelV v u->Q u d):wpAny (model X.prog X.w) A (getAttr (.ref a) f b) Q E s:=by
 obtain⟨i,O,r,_,_,_⟩:=JA I.eT e;obtain⟨u,j,g⟩:=lh.some_of (v:=v) (o:=i f) (by rw[<-l];show r f);show QQ I.nT O (c.get f) c.hd n j (So g) (h u _ (I.tok _) g)
theorem TV{y:V}{u:Value}{Q:Unit->Shared->Prop}(I:Inv X K' σ H s)(e:H a=some (.ins C dx fs))(c:vK X.K C)(n:eO X.K C f)(D:fs.length<1000)(p:RelV y u)
  (h:∀j,Inv X K' σ (upd H a (.ins C dx (mU f y fs))) j->Q () j):wpAny (model X.prog X.w) A (setAttr (.ref a) f u) Q E s:=by
 obtain⟨k,O,r,i,_,l⟩:=JA I.eT e;have hz:(fs.map (·.1)).length<=sizeLine:=by rw[ae,sizeLine_eq];ext
 show QP I.nT O c.sa c.po n.Am c.hd i hz λh' d m=>h _ ?_
 have hd:∃o,h'.get? dx=some o:=let⟨o,_,_,B,_⟩:=d.ns;⟨o,B⟩
 show I.write (x:=a) (e:=dx) (by rw[e];show True.intro) (.inr l) (λb q v z=>(m.2 b v).trans z) hd ?_;show⟨by rw[fI O.ne];show l,?_,O.ne,d.obj,_,d.ns,λg=>?_,λg t=>?_⟩
 .have:=Lu f y fs;ext
 .show lh ((mU f y fs).lookup g) (if g=f then some u else k g);rw[Lv];by_cases q:g=f
  .rw[if_pos q,if_pos q];show p
  rw[if_neg q,if_neg q];show r g
 by_cases q:g=f
 .rw[q];show(EV f y fs).1
 show(EV f y fs).2 g (i g λz=>t ?_);show(if g=f then some u else k g)=none;rw[if_neg q];show z
theorem Inv.made(I:Inv X K' σ H s):Inv X K' σ (upd (upd H s.heap.objs.size (.own (s.heap.objs.size+1))) (s.heap.objs.size+1) (.ins C s.heap.objs.size []))
  { s with heap:=(s.heap.push PySem.W.emptyDict).push (PySem.W.instObj C s.heap.objs.size) }:=by
 have c:(s.heap.push PySem.W.emptyDict).get? s.heap.objs.size=some PySem.W.emptyDict:=az s.heap rfl;have g:((s.heap.push PySem.W.emptyDict).push (PySem.W.instObj C s.heap.objs.size)).get? (s.heap.objs.size+1)=some (PySem.W.instObj C s.heap.objs.size):=by
  have:=az (s.heap.push PySem.W.emptyDict) (o:=PySem.W.instObj C s.heap.objs.size) rfl;rwa [cO] at this
 have f:(s.heap.push PySem.W.emptyDict).Ns s.heap.objs.size (λ_=>none):=⟨PySem.W.emptyDict,#[],_,c,rfl,(λe he=>absurd he (by simp)),λ_=>rfl⟩
 have h:=I.laid (a:=s.heap.objs.size) (o:=.own (s.heap.objs.size+1)) (h':=s.heap.push PySem.W.emptyDict) (t':=s.toks) (λb u q=>aj _ q) (ay _) ⟨_,c⟩;show h.laid (a:=s.heap.objs.size+1) (o:=.ins C s.heap.objs.size []) (t':=s.toks) (λb u q=>aj _ q) (Nat.le_of_eq (cO _ _)) ?_;have ne:s.heap.objs.size≠s.heap.objs.size+1:=aJ (Nat.lt_succ_self _);show⟨by rw[fI ne,i7],aZ _,ne,g,λ_=>none,(Heap.Ns1.of_empty f).at λo q=>aj _ q,λ_=>True.intro,λy d=>absurd rfl d⟩
theorem QO{prog:Program}{w:World}{env:Env}{e:Expr}{f:Str}{pos:Pos}{s:Shared}{Q:Value->Shared->Prop}(a:attributeBase e f env (eval e env)=eval e env)
  (h:wpAny (model prog w) A (eval e env) (λo b=>wpAny (model prog w) A (getAttr o f true) Q E b) E s):wpAny (model prog w) A (eval (.Attribute e f pos) env) Q E s:=
 Attribute_any_ h (by rw[arm_eval_Attribute,a])
end
def Nx(K:J')(b:TE)(f:Str):TE:=λσ H Q=>b σ H λx H1=>∃a C c fs v,x=.ref a/\H1 a=some (.ins C c fs)/\vK K C/\eO K C f/\fs.lookup f=some v/\Q v H1
def Nw(K:J')(e d:TE)(f:Str):TS:=λD σ H=>d σ H λy H1=>e σ H1 λx c=>∃a C b fs,x=.ref a/\c a=some (.ins C b fs)/\vK K C/\eO K C f/\fs.length<1000/\
 D.nx σ (upd c a (.ins C b (mU f y fs)))
section
variable{X:Cx}{o e value:Expr}{f:Str}{pos pos' ot:Pos}{ta tv:TE}
theorem Pa(he:PE X e ta)(g:attributeBase e f X.env (eval e X.env)=eval e X.env):PE X (.Attribute e f pos) (Nx X.K ta f):=by
 intro k s σ H Q I h;show QO g (eY (he k s σ H _ I h) λu s1 j=>?_);obtain⟨x,H1,o,b,a,C,r,fs,v,ex,i,c,n,l,q⟩:=j;subst ex;obtain rfl:u=Value.ref a:=b;show TY o i c n l λp s2 m d=>⟨v,H1,m,d,q⟩
theorem O9(ha:PE X o ta)(j:PE X value tv)(k:swapsWith value (some (.Attribute o f pos')) pos.line X.env=pure false):PS X (.Assign [.Attribute o f pos'] value pos) (Nw X.K ta tv f):=by
 intro d s σ H D I h;show plainObj_wpAny_Assign_Attribute (eY (j d s σ H _ I h) λu s1 b=>?_) k;obtain⟨y,H1,t,e,q⟩:=b;show eY (ha d s1 σ H1 _ t q) λov s2 b=>?_
 obtain⟨x,w,r,g,a,C,v,fs,ex,m,c,n,l,i⟩:=b;subst ex;obtain rfl:ov=Value.ref a:=g;show TV r m c n l e λs3 p=>⟨σ,_,p,i⟩
end
structure fN(k:Nat)(A:Around):Prop where
 hd:A.handled=none
 dp:A.depth+3*k+5<recursionLimit
 un:A.units+16*k+200<cLine
theorem fN.mono{j k:Nat}{A:Around}(r:fN k A)(h:j<=k):fN j A:=⟨r.hd,by have:=r.dp;ext,by have:=r.un;ext⟩
theorem fN.deeper{k:Nat}{A:Around}(r:fN (k+1) A)(env:Env):fN k (A.deeper env):=
 ⟨r.hd,by have:=r.dp;show A.depth+1+3*k+5<_;ext,by have:=r.un;show A.units+3+16*k+200<_;ext⟩
theorem TU{A:Around}{C:Addr}{a:List Value}{b:List (Str×Value)}:(A.under (.builtin "type.__call__" ⟨.ref C::a,b⟩)).depth=A.depth+1:=by
 first | rfl | simp[Around.under,Code.weight,Code.isCreation,Code.isGuard,Code.isCaller,Code.frames,Code.isFrame,guardIds]
theorem TR{A:Around}{C:Addr}{a:List Value}{b:List (Str×Value)}:(A.under (.builtin "type.__call__" ⟨.ref C::a,b⟩)).units=A.units+1:=by
 first | rfl | simp[Around.under,Code.cUnits,Code.frames,Code.isFrame]
theorem fN.make{k:Nat}{A:Around}(r:fN (k+1) A)(C:Addr)(a:List Value)(b:List (Str×Value)):fN k (A.under (.builtin "type.__call__" ⟨.ref C::a,b⟩)):=
 ⟨r.hd,by have:=r.dp;rw[TU];ext,by have:=r.un;rw[TR];ext⟩
theorem fN.depth{k:Nat}{A:Around}(r:fN k A):A.depth<recursionLimit:=by have:=r.dp;ext
theorem fN.units{k:Nat}{A:Around}(r:fN k A):A.units+64<cLine:=by have:=r.un;ext
noncomputable def HL:TA:=λ_ H Q=>Q [] H
noncomputable def Io(b:TE)(a:TA):TA:=λσ H Q=>b σ H λx H1=>a σ H1 λxs c=>Q (x::xs) c
section
variable{X:Cx}{e:Expr}{es:List Expr}{te:TE}{t:TA}{pos:Pos}
theorem sf:PA X [] HL:=λ_ _ _ _ H Q I h=>Calls.spliced_nil ⟨[],H,I,.nil,h⟩
theorem rn(ha:PE X e te)(j:PA X es t)(i:starEach (e::es) X.env=(false,eval e X.env)::starEach es X.env:=by rfl):PA X (e::es) (Io te t):=by
 intro pos b s σ H Q I h;rw[i];show wpAny _ _ (spliced ((false,eval e X.env)::backTo pos (starEach es X.env))) _ _ s;show Calls.spliced_cons (eY (ha b s σ H _ I h) λu s1 a=>?_);obtain⟨x,H1,l,d,g⟩:=a;show eY (j pos b s1 σ H1 _ l g) λus s2 a=>by obtain⟨xs,m,k,c,f⟩:=a;show⟨x::xs,m,k,.cons d c,f⟩
def Nv(t:TA):TE:=λσ H Q=>t σ H λxs H1=>xs.length<=sizeLine/\∀p,H1 p=none->Q (.ref p) (upd H1 p (.tup xs))
def Nu(t:TA):TE:=λσ H Q=>t σ H λxs H1=>xs.length<=sizeLine/\∀p,H1 p=none->Q (.ref p) (upd H1 p (.lst xs))
theorem O8{c}(h:PA X es t):PE X (.Tuple es c pos) (Nv t):=by
 intro f s σ H Q I d;show wpAny_Tuple_spliced (eY (h pos f s σ H _ I d) λus s1 ⟨xs,H1,a,r,z,q⟩=>⟨by rw[<-r.length];show z,?_⟩);have hf:H1 s1.heap.objs.size=none:=a.eT.fresh (ay _);show⟨.ref s1.heap.objs.size,upd H1 s1.heap.objs.size (.tup xs),a.laid (t':=s1.toks) (λb u e=>aj _ e) (ay _) ?_,rfl,q _ hf⟩;show⟨z,us,r,⟨_,az _ rfl,rfl,_,rfl⟩⟩
theorem O7(h:PA X es t):PE X (.List es pos) (Nu t):=by
 intro d s σ H Q I c;show wpAny_List_spliced (eY (h pos d s σ H _ I c) λus s1 ⟨xs,H1,a,r,z,q⟩=>⟨by rw[<-r.length];show z,?_⟩);have hf:H1 s1.heap.objs.size=none:=a.eT.fresh (ay _);show⟨.ref s1.heap.objs.size,upd H1 s1.heap.objs.size (.lst xs),a.laid (t':=s1.toks) (λb u e=>aj _ e) (ay _) ?_,rfl,q _ hf⟩;show⟨z,us,0,r,az _ rfl⟩
end
noncomputable abbrev Sp:=List V->Hp->VK->XK->Prop
noncomputable abbrev t5:=List Env->Hp->Shared->XK->Value->Shared->Prop
structure pO(P:Program)(w:World)(K:J')(mg:Str->Option Value)(base:Heap)(A:Around)(outer:List Env)(s:Shared)(H:Hp):Prop where
 frames:A.frames=some outer
 mod:Mod K mg base
 bs:∀b o,base.get? b=some o->s.heap.get? b=some o/\H b=none
 vG:base.objs.size<=s.heap.objs.size
 k9:s.heap.FunFrames base outer
 xk:∀b∈tj outer,H b=none
 eT:jS P w H s.heap
 bare:AllBare s.gens
def CE(outer:List Env)(P:Program)(w:World)(H:Hp)(s:Shared)(Q:VK)(u:Value)(a:Shared):Prop:=
 ∃v b,a.os=s.os/\AllBare a.gens/\Un (tj outer) [] H b s.heap a.heap/\jS P w b a.heap/\RelV v u/\Q v b
def CR(b:t5)(outer:List Env)(P:Program)(w:World)(H:Hp)(s:Shared)(Q:VK)(E:XK)(r:Result)(a:Shared):Prop:=
 match r with
 | .ok (.ret u)=>CE outer P w H s Q u a
 | .ok _=>False
 | .error e=>b outer H s E e a
structure jv(P:Program)(w:World)(K:J')(mg:Str->Option Value)(base:Heap)(CX:t5)(k:Nat)(f:Addr)(fd:FuncData)(ps:List Str)(sp:Sp):Prop where
 len:∀vs H Q E,sp vs H Q E->vs.length=ps.length
 run:∀(A:Around)(outer:List Env)(s:Shared)(H:Hp)(args:Args)(us:List Value)(vs:List V)(Q:VK)(E:XK),fN k A->pO P w K mg base A outer s H->BindsTo s fd args (ps.zip us)->Vals vs us->sp vs H Q E->
  codeAny (model P w) A (.call (.ref f) args) (CR CX outer P w H s Q E) s
theorem pO.make{P:Program}{w:World}{K:J'}{mg:Str->Option Value}{base:Heap}{A:Around}{outer:List Env}{s:Shared}{H:Hp}(e:pO P w K mg base A outer s H)(C:Addr)(a:List Value)(b:List (Str×Value)) :
  pO P w K mg base (A.under (.builtin "type.__call__" ⟨.ref C::a,b⟩)) outer s H:=⟨by first | show e.frames | (simpa[Around.under,Code.envs,Code.isFrame,pushEnvs] using e.frames),e.mod,e.bs,e.vG,e.k9,e.xk,e.eT,e.bare⟩
section
variable{X:Cx}{K':List (Addr×Obj)}{σ:St}{H:Hp}{s s':Shared}
theorem Inv.Bl(I:Inv X K' σ H s):pO X.prog X.w X.K X.mg X.base X.A X.stack s H:=
 ⟨I.ok.frames,I.ok.mod,I.bs,aM I.ok.vG I.sz,I.stack,I.p8,I.eT,I.bare⟩
theorem Inv.after{Q:VK}{u:Value}(I:Inv X K' σ H s)(h:CE X.stack X.prog X.w H s Q u s'):EP X K' σ Q u s':=by
 obtain⟨v,c,os,bare,un,eT,r,q⟩:=h;obtain⟨a,g,d,t,e⟩:=s';obtain rfl:e=s.os:=os;show⟨v,c,I.call (h':=a) (g':=g) (d':=d) (t':=t) (ch:=[]) un eT bare (λb z=>absurd z (by simp)),r,q⟩
end
def Od(b:Sp)(c:List V)(E:XK)(t:TA):TE:=λσ H Q=>t σ H λa H1=>b (a++c) H1 Q E
def Oc(C:Addr)(c:Sp)(d:List V)(E:XK)(t:TA):TE:=λσ H Q=>t σ H λb H1=>∀x a,H1 x=none->H1 a=none->a≠x->
 c (.ref x::(b++d)) (upd (upd H1 a (.own x)) x (.ins C a [])) (λv e=>v=.non/\Q (.ref x) e) E
def Binds(K:J')(a:FuncData)(ps:List Str)(ds:List Value):Prop:=
 ∀(s:Shared)(us:List Value),K.In s.heap->(us++ds).length=ps.length->BindsTo s a ⟨us,[]⟩ (ps.zip (us++ds))
theorem Binds.all{K:J'}{b:FuncData}{ps:List Str}(h:∀us:List Value,us.length=ps.length->bindArgs b ⟨us,[]⟩=pure (ps.zip us)):Binds K b ps []:=λs us _ a=>by
 rw[aS] at a ⊢;show .of_eq (h us a)
def y4(c:t5)(X:Cx)(E:XK):Prop:=∀(b:List (Addr×Obj))(σ:St)(H:Hp)(s:Shared)(e:Value)(a:Shared),Inv X b σ H s->c X.stack H s E e a->X.xe e a
section
variable{X:Cx}{CX:t5}{k:Nat}{f C:Addr}{fd:FuncData}{ps:List Str}{sp:Sp}{pI:List V}{ds:List Value}{E:XK}{x m:Str}{p pos apos:Pos}{e o:Expr}{es:List Expr}{ta:TE}{t:TA}
theorem O6{g:List (Addr×Obj)}{d:St}{H:Hp}{s:Shared}{Q:VK}{a:List Value}{c:List V}(F:jv X.prog X.w X.K X.mg X.base CX k f fd ps sp)(l:fN k X.A)(n:Binds X.K fd ps ds)(hd:Vals pI ds)(hx:y4 CX X E)
  (I:Inv X g d H s) (r:Vals c a) (h:sp (c++pI) H Q E):wpAny (model X.prog X.w) X.A (call (.ref f) a) (EP X g d Q) X.xe s:=by
 have i:Vals (c++pI) (a++ds):=r.append hd;have m:(a++ds).length=ps.length:=by rw[<-i.length];show F.len _ _ _ _ h
 show wpAny_call (codeAny_mono (F.run X.A X.stack s H ⟨a,[]⟩ (a++ds) (c++pI) Q E l I.Bl (n s a I.nT m) i h) λr j b=>?_);cases r with
 | error e=>show hx g d H s e j I b
 | ok o=>
  cases o with
  | ret u=>show I.after b
  | next=>show False.elim b
  | brk=>show False.elim b
  | cont=>show False.elim b
theorem QN(F:jv X.prog X.w X.K X.mg X.base CX k f fd ps sp)(c:fN k X.A)(i:Gl X x)(d:X.mg x=some (.ref f))(g:PySem.W.keepIn X.K (.ref f)=true)(j:Binds X.K fd ps ds)(hd:Vals pI ds)(hx:y4 CX X E)
  (ha:PA X (e::es) t) (b:(x==("__debug__":Str))=false:=by decide) (he:starEach (e::es) X.env=(false,eval e X.env)::starEach es X.env:=by rfl) (hpl:(backTo pos (starEach es X.env)).any (·.1)=false:=by rfl) :
  PE X (.Call (.Name x p) (e::es) [] pos) (Od sp pI E t):=by
 intro m s σ H Q I h;show wpAny_Call_Name_kw (JN I i d ?_ b);show PySem.W.callWith_K (h₀:=X.base) I.ok.mod.yo g (eY (ha pos m s σ H _ I h) λus s1 l=>?_) he hpl;obtain⟨n,H1,a,r,q⟩:=l;show⟨a.nT,?_⟩;show O6 F c j hd hx a r q
structure Mk(K:J')(C f:Addr):Prop where
 makes:PySem.W.makesIn K C=true
 init:PySem.W.findIn K (.ref C) "__init__"=some (some (.ref f))
 fn:PySem.W.isFn K (.ref f)=true
 kp:PySem.W.keepIn K (.ref C)=true
theorem Rc{j:List (Addr×Obj)}{g:St}{H:Hp}{s:Shared}{Q:VK}{a:List Value}{i:List V}(M:Mk X.K C f)(F:jv X.prog X.w X.K X.mg X.base CX k f fd ps sp)(q:fN (k+1) X.A)(y:Binds X.K fd ps ds)(hd:Vals pI ds)
  (hx:y4 CX X E) (I:Inv X j g H s) (r:Vals i a)
  (h:∀x c,H x=none->H c=none->c≠x->sp (.ref x::(i++pI)) (upd (upd H c (.own x)) x (.ins C c [])) (λv D=>v=.non/\Q (.ref x) D) E) :
  wpAny (model X.prog X.w) X.A (call (.ref C) a) (EP X j g Q) X.xe s:=by
 have m:=h (s.heap.objs.size+1) s.heap.objs.size (I.eT.fresh (bU _)) (I.eT.fresh (ay _)) (aJ (Nat.lt_succ_self _));have d:=Inv.made (C:=C) I;have l:Vals (V.ref (s.heap.objs.size+1)::(i++pI)) (Value.ref (s.heap.objs.size+1)::(a++ds)):=.cons rfl (r.append hd);have t:(Value.ref (s.heap.objs.size+1)::a++ds).length=ps.length:=by
  have e:=l.length;rw[F.len _ _ _ _ m] at e;show e.symm
 show wpAny_call (Rf (f:=f) I.nT M.makes M.init (beq_iff_eq.mp M.fn) (codeAny_mono (F.run _ X.stack _ _ ⟨Value.ref (s.heap.objs.size+1)::a,[]⟩ (Value.ref (s.heap.objs.size+1)::(a++ds)) _ _ E (q.make C a [])
  (d.Bl.make C a []) (y _ (Value.ref (s.heap.objs.size+1)::a) d.nT t) l m) λr n b=>?_))
 cases r with
 | error e=>show hx j g _ _ e n d b
 | ok z=>
  cases z with
  | ret u=>
   obtain⟨v,G,B,o,ev,p⟩:=d.after b;subst ev;show⟨o,⟨V.ref (s.heap.objs.size+1),G,B,rfl,p⟩⟩
  | next=>show False.elim b
  | brk=>show False.elim b
  | cont=>show False.elim b
theorem PQ(M:Mk X.K C f)(F:jv X.prog X.w X.K X.mg X.base CX k f fd ps sp)(c:fN (k+1) X.A)(g:Gl X x)(d:X.mg x=some (.ref C))(i:Binds X.K fd ps ds)(hd:Vals pI ds)(hx:y4 CX X E)
  (ha:PA X (e::es) t) (b:(x==("__debug__":Str))=false:=by decide) (he:starEach (e::es) X.env=(false,eval e X.env)::starEach es X.env:=by rfl) (hpl:(backTo pos (starEach es X.env)).any (·.1)=false:=by rfl) :
  PE X (.Call (.Name x p) (e::es) [] pos) (Oc C sp pI E t):=by
 intro l s σ H Q I h;show wpAny_Call_Name_kw (JN I g d ?_ b);show PySem.W.callWith_K (h₀:=X.base) I.ok.mod.yo M.kp (eY (ha pos l s σ H _ I h) λus s1 j=>?_) he hpl;obtain⟨m,H1,a,r,q⟩:=j;show⟨a.nT,?_⟩;show Rc M F c i hd hx a r q
end
def PK(X:Cx)(b:List Keyword)(t:TA):Prop:=
 ∀(pos:Pos)(a:List (Addr×Obj))(s:Shared)(σ:St)(H:Hp)(Q:List V->Hp->Prop),Inv X a σ H s->t σ H Q->wpAny (model X.prog X.w) X.A (evalAll ((backToKw pos (keywordEach b X.env)).map (·.2))) (AP X a σ Q) X.xe s
section
variable{X:Cx}{CX:t5}{k:Nat}{f C:Addr}{fd:FuncData}{ps ks:List Str}{sp:Sp}{E:XK}{x m:Str}{p pos apos Gu:Pos}{e o:Expr}{es:List Expr}{AL:List Keyword}{te ta:TE}{t tk:TA}{nm:Option Str}
theorem O5:PK X [] HL:=λ_ _ _ _ H Q I h=>wpAny_evalAll_nil ⟨[],H,I,.nil,h⟩
theorem PN(ha:PE X e te)(i:PK X AL t):PK X (⟨nm,e,Gu⟩::AL) (Io te t):=by
 intro pos b s σ H Q I h;show wpAny _ _ (evalAll ((do let v <-eval e X.env;standAt pos;pure v)::(backToKw pos (keywordEach AL X.env)).map (·.2))) _ _ s;show wpAny_evalAll_cons (aa (eY (ha b s σ H _ I h) λu s1 a=>?_));obtain⟨x,H1,k,d,g⟩:=a;show aa (wpAny_standAt (ao ?_));show eY (i pos b s1 σ H1 _ k g) λus s2 a=>by obtain⟨xs,l,j,c,f⟩:=a;show⟨x::xs,l,j,.cons d c,f⟩
variable{g:List Value->List Value->List Value}{gV:List V->List V->List V}
end
structure du(N P:List Str)(sc:Scope):Prop where
 kind:sc.kind=.function
 co:sc.isCoroutine=false
 gen:sc.isGenerator=false
 nd:N.Nodup
 pre:N.take P.length=P
 par:∀x∈P,sc.names.lookup x=some .local\/sc.names.lookup x=some .cell
 wM:∀y∈sc.names,y.2≠.free
theorem KH{a:Str->Option NameKind}{x:Str}:∀{binds:List (Str×Value)}{m:Str->Option Value},(∀v,(x,v)∉binds)->bindL a binds m x=m x
 | [],_,_=>rfl
 | (n,v)::r,m,h=>by
  unfold bindL;rw[KH λw hw=>h w (aK _ hw)];split
  .have:x≠n:=by rintro rfl;show h v cz
   simp[this]
  rfl
theorem KG{a:Str->Option NameKind}{x:Str}:∀{binds:List (Str×Value)}{m:Str->Option Value},(∀v,(x,v)∉binds)->bindC a binds m x=m x
 | [],_,_=>rfl
 | (n,v)::r,m,h=>by
  unfold bindC;rw[KG λw hw=>h w (aK _ hw)];split
  .rfl
  have:x≠n:=by rintro rfl;show h v cz
  simp[this]
theorem KD{a:Str->Option NameKind}{x:Str}{v:Value}:∀{P:List Str}{b:List Value}{i:Nat}{m:Str->Option Value},P.Nodup->P[i]?=some x->b[i]?=some v->a x=some .local->
  bindL a (P.zip b) m x=some v
 | [],_,_,_,_,h,_,_=>by simp at h
 | _::_,[],_,_,_,_,h,_=>by simp at h
 | p::P,w::b,0,m,nd,d,c,e=>by
  simp at d c;subst d;subst c;show bindL a ((p,w)::P.zip b) m p=_;unfold bindL;rw[KH λv f=>(cj.mp nd).1 (List.of_mem_zip f).1,if_pos e];simp
 | p::P,w::b,i+1,m,nd,d,c,e=>by
  show bindL a ((p,w)::P.zip b) m x=_;unfold bindL;show KD (i:=i) (cj.mp nd).2 (by simpa using d) (by simpa using c) e
theorem KC{a:Str->Option NameKind}{x:Str}{v:Value}:∀{P:List Str}{b:List Value}{i:Nat}{m:Str->Option Value},P.Nodup->P[i]?=some x->b[i]?=some v->a x≠some .local->
  bindC a (P.zip b) m x=some v
 | [],_,_,_,_,h,_,_=>by simp at h
 | _::_,[],_,_,_,_,h,_=>by simp at h
 | p::P,w::b,0,m,nd,d,c,e=>by
  simp at d c;subst d;subst c;show bindC a ((p,w)::P.zip b) m p=_;unfold bindC;rw[KG λv f=>(cj.mp nd).1 (List.of_mem_zip f).1,if_neg e];simp
 | p::P,w::b,i+1,m,nd,d,c,e=>by
  show bindC a ((p,w)::P.zip b) m x=_;unfold bindC;show KC (i:=i) (cj.mp nd).2 (by simpa using d) (by simpa using c) e
noncomputable def mF(N:List Str)(a:List V):St:=a.map some++List.replicate (N.length-a.length) none
noncomputable def rg(d:t5)(P:Program)(w:World)(K:J')(mg:Str->Option Value)(base:Heap)(N:List Str)(a:Str)(scope:Scope)(f:Addr)(b:Value)(A:Around)(outer:List Env)(s:Shared)(H:Hp)(E:XK):Cx where
 prog:=P
 w:=w
 K:=K
 mg:=mg
 base:=base
 A:=A.deeper (envOfC a scope s.heap.objs.size f b)
 N:=N
 gQ:=s
 tI:=H
 env:=envOfC a scope s.heap.objs.size f b
 outer:=outer
 stack:=envOfC a scope s.heap.objs.size f b::outer
 ex:=[]
 calm:=true
 fn:=λ_=>true
 pn:=[]
 xe:=λe g=>wpAny (model P w) (A.deeper (envOfC a scope s.heap.objs.size f b)) (leaving (envOfC a scope s.heap.objs.size f b) e) (λ_ c=>d outer H s E e c) (λh c=>d outer H s E h c) g
theorem J4{a:Scope}{n:Nat}{x:Str}(h:a.names.lookup x=some .cell):∃c,(cellsFrom n a.names []).lookup x=some c:=by
 have q:=PySem.W.cellsFrom_some a.names n [] (.inl h);show Option.isSome_iff_exists.mp q
theorem Sn{L:t5}{P:Program}{w:World}{K:J'}{mg:Str->Option Value}{base:Heap}{N ps:List Str}{d:Str}{scope:Scope}{f:Addr}{B:Value}{A:Around}{outer:List Env}{s F:Shared}{H:Hp}{E:XK}{C:List Value}{l:List V}
  (S:du N ps scope) (hd:A.handled=none) (j:pO P w K mg base A outer s H) (O:l.length=ps.length) (r:Vals l C)
  (x:InCallC s s.heap.objs.size (bindL (envOfC d scope s.heap.objs.size f B).kindOf (ps.zip C) λ_=>none) (cellsFrom (s.heap.objs.size+1) scope.names []) (bindC (envOfC d scope s.heap.objs.size f B).kindOf (ps.zip C) λ_=>none) F) :
  Inv (rg L P w K mg base N d scope f B A outer s H E) [] (mF N l) H F:=by
 have hpl:ps.length<=N.length:=by have:=congrArg List.length S.pre;rw[aT] at this;ext
 obtain⟨t,tk,rfl,I⟩:=x.done;have D:∀b:Addr,b∉(rg L P w K mg base N d scope f B A outer s H E).ex:=λb z=>absurd (show b∈([]:List Addr) from z) (by simp)
 show⟨⟨j.mod,S.kind,rfl,rfl,ay _,λy z c t g=>?_,λy m=>?_,λy c _ h=>?_,λ_=>hd,Around.frames_deeper j.frames,.inr ⟨rfl,rfl⟩,λb z=>absurd z (D b),j.bs,j.vG,λb _ _=>D b,λb z=>absurd z (D b),j.k9,j.xk⟩,
  rfl,j.bare,Un.kept I,⟨_,x.toInCall.ns,λi y v t g Q=>?_⟩,λy c h=>⟨_,x.cell y c h⟩,j.eT.fresh (ay _),λy c h=>?_,λp o=>absurd (show p∈([]:List (Addr×Obj)) from o) (by simp),j.eT.kept I,?_⟩
 .exact name_of_addr x.apart (cJ t) (cJ g)
 .have m:scope.names.lookup y=some .cell\/scope.names.lookup y=some .free:=m;rcases m with m | m
  .exact J4 m
  show absurd rfl (S.wM _ (cJ m))
 .exact Nat.le_of_lt (x.above y c (cJ h))
 .have hi:i<l.length:=by
   unfold mF at g;by_cases hi:i<l.length
   .exact hi
   rw[List.getElem?_append_right (by simpa using hi)] at g;rw[List.getElem?_replicate] at g;split at g<;>cases g
  have ha:l[i]?=some v:=by
   unfold mF at g;rw[List.getElem?_append_left (by simpa using hi),aI] at g;cases e:l[i]? with
   | none=>rw[e] at g;cases g
   | some a=>rw[e] at g;cases g;rfl
  obtain⟨u,G,M⟩:=r.get ha;have o:ps[i]?=some y:=by
   rw[<-S.pre,List.getElem?_take_of_lt (by ext)];show t
  have J:ps.Nodup:=by rw[<-S.pre];show S.nd.sublist (List.take_sublist _ _)
  show⟨u,M,?_⟩;rcases S.par y (aL o) with k | k
  .exact .inl ⟨k,KD J o G k⟩
  obtain⟨c,e⟩:=J4 (n:=s.heap.objs.size+1) k;show .inr ⟨.inl k,c,e,?_⟩;have q:=x.cell y c e;rw[KC J o G (by show scope.names.lookup y≠_;rw[k];decide)] at q;show q
 .exact j.eT.fresh (Nat.le_of_lt (x.above y c (cJ h)))
 unfold mF;show _=N.length;rw[aD,ae,List.length_replicate];ext
theorem Ob{p:t5}{P:Program}{w:World}{K:J'}{mg:Str->Option Value}{base:Heap}{k:Nat}{f:Addr}{name a:Str}{c:Arguments}{body:List Stmt}{scope:Scope}{G kV l pm h ct T:Value}{L od:Option Addr}
  {R:Array (Option Value)} {N ps:List Str} {z:Sp} (U:K.lookup f=some ⟨T,od,.func (PySem.W.fnOf name a c body scope G kV l pm L h ct),R⟩) (X:PySem.W.codeIn K h a=true) (S:du N ps scope)
  (len:∀d H Q E,z d H Q E->d.length=ps.length)
  (M:∀(A:Around)(outer:List Env)(s:Shared)(H:Hp)(d:List V)(Q:VK)(E:XK),fN k (A.deeper (envOfC a scope s.heap.objs.size f h))->z d H Q E->
   ∃t,pM (rg p P w K mg base N a scope f h A outer s H E) body t/\t { nx:=λ_ g=>Q .non g,rt:=Q } (mF N d) H) :
  jv P w K mg base p (k+1) f (PySem.W.fnOf name a c body scope G kV l pm L h ct) ps z:=by
 show⟨len,λA outer s H args us d Q E D j hb r F=>?_⟩;have hl:=len _ _ _ _ F;have KX:K.In s.heap:=j.mod.yo.keeps λb o e=>(j.bs b o e).1
 have lim:s.heap.NoLimit:=j.mod.nolimit.keeps λb o e=>(j.bs b o e).1
 have O:∀y∈ps.zip us,scope.names.lookup y.1=some .local\/(scope.names.lookup y.1=some .cell/\((cellsFrom (s.heap.objs.size+1) scope.names []).lookup y.1).isSome=true):=λ⟨n,v⟩ Y=>by
  rcases S.par n (List.of_mem_zip Y).1 with q | q
  .exact .inl q
  show .inr ⟨q,PySem.W.cellsFrom_some _ _ _ (.inl q)⟩
 show codeAny_call_function D.depth (KX _ _ U) rfl S.co S.gen rfl (PySem.W.codeRec_of KX X) (hb _ _ _ _ ?_);show wpAny_newFunctionEnv_cells S.kind O λenv he s1 x=>?_
 subst he;show⟨lim.keeps x.toInCall.keep,codeAny_func ?_⟩;obtain⟨t,Z,hq⟩:=M A outer s H d Q E (D.deeper _) F;have I:Inv (rg p P w K mg base N a scope f h A outer s H E) [] (mF N d) H s1:=Sn S D.hd j hl r x;show wpAny_mono (Z [] s1 (mF N d) H _ I hq) (λfl B i=>?_) λe B i=>i
 have fin:∀{m:St}{g:Hp}{v:V}{u:Value},Inv (rg p P w K mg base N a scope f h A outer s H E) [] m g B->RelV v u->Q v g->CE outer P w H s Q u B:=
  λ{m g v u} J C q=>⟨v,g,J.os,J.bare,J.base,J.eT,C,q⟩
 cases fl with
 | ret u=>
  obtain⟨v,m,g,J,C,q⟩:=i;show fin J C q
 | next=>
  obtain⟨m,g,J,q⟩:=i;show fin (v:=V.non) (u:=Value.none) J rfl q
 | brk=>
  obtain⟨_,_,_,q⟩:=i;show False.elim q
 | cont=>
  obtain⟨_,_,_,q⟩:=i;show False.elim q
section
variable{X:Cx}{x:Str}{p pos:Pos}{e:Expr}{es:List Expr}{t:TA}{id T:String}{r:List V->Hp->VK->Prop}
def FY(r:List V->Hp->VK->Prop)(t:TA):TE:=λσ H Q=>t σ H λa H1=>r a H1 Q
theorem CG(l:fc X (.builtin id) r)(k:Gl X x)(j:X.mg x=none)(g:bootBuiltins x=some (.builtin id))(ha:PA X (e::es) t)(i:x≠"__name__":=by decide)(f:(x==("__debug__":Str))=false:=by decide)
  (he:starEach (e::es) X.env=(false,eval e X.env)::starEach es X.env:=by rfl) (hpl:(backTo pos (starEach es X.env)).any (·.1)=false:=by rfl):PE X (.Call (.Name x p) (e::es) [] pos) (FY r t):=by
 intro a s σ H Q I h;show wpAny_Call_Name_kw (tP I k j g ?_ i f);show PyProof.Rows.callWith_builtin1 (eY (ha pos a s σ H _ I h) λus s1 m=>by obtain⟨b,H1,n,c,d⟩:=m;show l a s1 σ H1 b us Q n c d) he hpl
theorem yg(l:fc X (.type T) r)(k:Gl X x)(j:X.mg x=none)(g:bootBuiltins x=some (.type T))(ha:PA X (e::es) t)(i:x≠"__name__":=by decide)(f:(x==("__debug__":Str))=false:=by decide)
  (he:starEach (e::es) X.env=(false,eval e X.env)::starEach es X.env:=by rfl) (hpl:(backTo pos (starEach es X.env)).any (·.1)=false:=by rfl):PE X (.Call (.Name x p) (e::es) [] pos) (FY r t):=by
 intro a s σ H Q I h;show wpAny_Call_Name_kw (tP I k j g ?_ i f);show cx (eY (ha pos a s σ H _ I h) λus s1 m=>by obtain⟨b,H1,n,c,d⟩:=m;show l a s1 σ H1 b us Q n c d) he hpl
end
end L2
namespace HT
open PySem PyProof.Rows
noncomputable def lexLt:List Int->List Int->Bool
 | [],[]=>false
 | [],_::_=>true
 | _::_,[]=>false
 | x::xs,y::ys=>if x=y then lexLt xs ys else decide (x<y)
theorem pF(x y:Int)(xs ys:List Int):lexLt (x::xs) (y::ys)=if x=y then lexLt xs ys else decide (x<y):=rfl
theorem sI(A:Around)(s:Shared)(a:Int)(t:Tok)(c:Int)(u:Tok)(prog:Program)(w:World)(E:Value->Shared->Prop)(Q:Value->Shared->Prop)(h:Q (.bool (decide (a<c))) s) :
  wpAny (model prog w) A (richCompare .Lt (.int a t) (.int c u)) Q E s:=
 (PyProof.Rows.lt_int h:wpAny (model prog w) A (compareOp .Lt (.int a t) (.int c u)) Q E s)
section
variable{prog:Program}{w:World}{A:Around}{E:Value->Shared->Prop}{s:Shared}
noncomputable def fF(n d:Nat):Option Int->Nat
 | none=>d
 | some v=>if v<0 then(v+(n:Int)).toNat else min v.toNat n
theorem kE(n d:Nat)(hd:d<=n)(o:Option Int):fF n d o<=n:=by
 cases o with
 | none=>show hd
 | some v=>
  show(if v<0 then(v+(n:Int)).toNat else min v.toNat n)<=n;by_cases a:v<0
  .rw[if_pos a];ext
  rw[if_neg a];show Nat.min_le_right _ _
theorem ny(v:Int)(n d:Nat):(if v<0 then max (v+(n:Int)) 0 else min v (n:Int))=((fF n d (some v):Nat):Int):=by
 show(if v<0 then max (v+(n:Int)) 0 else min v (n:Int))=(((if v<0 then(v+(n:Int)).toNat else min v.toNat n):Nat):Int)
 by_cases a:v<0
 .simp only[if_pos a];ext
 simp only[if_neg a];ext
theorem TQ(lo hi:Option Int)(n:Nat):Builtin.Slice.sliceAdjust lo hi 1 (n:Int)=(((fF n 0 lo:Nat):Int),((fF n n hi:Nat):Int)):=by
 have a:¬((1:Int)<0):=by ext
 unfold Builtin.Slice.sliceAdjust;simp only[a,aR];show Prod.ext ?_ ?_
 .cases lo with
  | none=>rfl
  | some v=>show ny v n 0
 cases hi with
 | none=>rfl
 | some v=>show ny v n n
theorem TM(i j:Nat):Builtin.Slice.slicePlaces (i:Int) (j:Int) 1=j-i:=by
 unfold Builtin.Slice.slicePlaces;have a:(1:Int)>0:=by ext
 simp only[a,aX,Int.ediv_one];split<;>ext
theorem Lp{v:Value}{o:Option Int}{Q:Option Int->Shared->Prop}(p:IsPart v o)(h:Q o s):wpAny (model prog w) A (Builtin.Slice.slicePartIndex v) Q E s:=by
 cases p with
 | none=>show slicePart_none h
 | int i t=>show slicePart_int h
theorem VN{sl:Addr}{c b:Value}{lo hi:Option Int}{n:Nat}{Q:Int×Int×Nat->Shared->Prop}(f:s.heap.IsSliceOf sl c b .none)(pl:IsPart c lo)(e:IsPart b hi)
  (h:Q (((fF n 0 lo:Nat):Int),1,fF n n hi-fF n 0 lo) s):wpAny (model prog w) A (Builtin.Slice.sliceApplied (.ref sl) (pure (n:Int))) Q E s:=by
 obtain⟨os,d,g,a⟩:=id f;unfold Builtin.Slice.sliceApplied Builtin.Slice.sliceFields;show aa (aa (wpAny_field d a (x:=c) rfl (aa (wpAny_field d a (x:=b) rfl (aa (wpAny_field d a (x:=.none) rfl (ao ?_)))))));show aa (slicePart_none ?_);show wpAny _ _ (if ((1:Int)==0)=true then _ else _) _ _ s;rw[if_neg (by decide)];show aa (Lp pl (aa (Lp e (aa (ao ?_)))));show wpAny _ _ (match Builtin.Slice.sliceAdjust lo hi 1 (n:Int) with | (lo,hi)=>pure (lo,(1:Int),Builtin.Slice.slicePlaces lo hi 1)) _ _ s;rw[TQ lo hi n];show wpAny _ _ (pure (((fF n 0 lo:Nat):Int),(1:Int),Builtin.Slice.slicePlaces ((fF n 0 lo:Nat):Int) ((fF n n hi:Nat):Int) 1)) _ _ s;rw[TM];show ao h
theorem Rb(xs:Array Value)(i k:Nat):((List.range k).filterMap λ(m:Nat)=>xs[((i:Int)+(m:Int)*1).toNat]?).toArray=((xs.toList.drop i).take k).toArray:=by
 have e:(λ(m:Nat)=>xs[((i:Int)+(m:Int)*1).toNat]?)=λm=>xs[i+m]?:=by
  funext m
  have:((i:Int)+(m:Int)*1).toNat=i+m:=by ext
  rw[this]
 rw[e];have:=pick_run xs i k;rw[List.filterMap_map] at this;have a:((λx=>xs[x]?)∘λx=>i+x)=λm=>xs[i+m]?:=rfl
 rw[a] at this;rw[this]
theorem kd{t sl:Addr}{a:Array Value}{e d:Value}{lo hi:Option Int}{Q:Value->Shared->Prop}(c:IsTup s.heap t a)(f:s.heap.IsSliceOf sl e d .none)(pl:IsPart e lo)(i:IsPart d hi)
  (hw:¬(fF a.size 0 lo=0/\fF a.size a.size hi=a.size))
  (h:Q (.ref s.heap.objs.size) { s with heap:=s.heap.push { cls:=.type "tuple",data:=.seq ((a.toList.drop (fF a.size 0 lo)).take (fF a.size a.size hi-fF a.size 0 lo)).toArray } })
  (hsz:a.size<=sizeLine):wpAny (model prog w) A (getItem (.ref t) (.ref sl)) Q E s:=by
 have b:sizeOk (.seq ((a.toList.drop (fF a.size 0 lo)).take (fF a.size a.size hi-fF a.size 0 lo)).toArray):=by
  show((a.toList.drop (fF a.size 0 lo)).take (fF a.size a.size hi-fF a.size 0 lo)).toArray.size<=sizeLine;rw[aA,aT,cB,af];ext
 have r:fF a.size a.size hi<=a.size:=kE _ _ (ay _) hi;obtain⟨os,l,k,n⟩:=id f;have j:s.TypeIs (.ref sl) "slice":=⟨os,l,k⟩
 unfold getItem;try with_reducible show bM ?_
 first | show aa (ao ?_) | skip
 show aa (wpAny_sequenceKey c.typeIs (by decide) ?_);show aa (wpAny_callSpecial?_slot (name:=Str.ofString "__getitem__") c.typeIs PyProof.Rows.slot_tuple_getitem
  (wpAny_call_entry PyProof.Rows.slot_tuple_getitem c.typeIs entry_tuple_getitem ?_ (args_tuple_getitem _ _)))
 show wpAny _ _ (Builtin.Tuple.tupleItemsOf (.ref t) >>= _) _ _ s;show aa (tupleItemsOf_ c ?_);show aa (wpAny_typeOf j ?_);rw[if_pos (by decide)];show aa (VN f pl i ?_);have g:¬((((fF a.size 0 lo:Nat):Int)==0&&(1:Int)==1&&(fF a.size a.size hi-fF a.size 0 lo)==a.size)=true):=by
  intro q;rw[bY,bY] at q;have p:((fF a.size 0 lo:Nat):Int)=0:=eq_of_beq q.1.1;have o:fF a.size a.size hi-fF a.size 0 lo=a.size:=eq_of_beq q.2;show hw ⟨by ext,by ext⟩
 show wpAny _ _ (if (((fF a.size 0 lo:Nat):Int)==0&&(1:Int)==1&&(fF a.size a.size hi-fF a.size 0 lo)==a.size)=true then _ else _) _ _ s;rw[if_neg g,Rb];first
  | show aa (m:=Builtin.Tuple.tupleExact _) (cy (ao ⟨_,rfl,ao h⟩) b)
  | show aa (m:=Builtin.Tuple.tupleExact _) (cy (aa (ao (ao ⟨_,rfl,ao h⟩))) b)
  | show aa (aa (m:=Builtin.Tuple.tupleExact _) (cy (ao (ao ⟨_,rfl,ao h⟩)) b))
  | show aa (aa (m:=Builtin.Tuple.tupleExact _) (cy (ao ⟨_,rfl,ao h⟩) b))
end
end HT
namespace L2
open PySem PySem.Spec PyProof.Rows
noncomputable abbrev TO:=St->Hp->(Option Int->Hp->Prop)->Prop
def PO(X:Cx)(e:Option Expr)(t:TO):Prop:=
 ∀(a:List (Addr×Obj))(s:Shared)(σ:St)(H:Hp)(Q:Option Int->Hp->Prop),Inv X a σ H s->t σ H Q->
  wpAny (model X.prog X.w) X.A (evalPart e X.env) (λu c=>∃o b,Inv X a σ b c/\IsPart u o/\Q o b) X.xe s
noncomputable def PM:TO:=λ_ H Q=>Q none H
noncomputable def OD(t:TE):TO:=λσ H Q=>t σ H λx H1=>∃i,x=.int i/\Q (some i) H1
theorem yc{ns:List Int}:∀{us:List Value},Vals (ns.map V.int) us->IntsAre us ns:=by
 induction ns with
 | nil=>intro us r;rw[bV] at r;cases r;show .nil
 | cons n ns c=>
  intro us r;rw[ax] at r;cases r with
  | cons b a=>
   obtain⟨t,e⟩:=b;subst e;show .cons n t (c a)
section
variable{X:Cx}{e:Expr}{te:TE}{lo hi:Option Expr}{tl th:TO}{pos p2:Pos}
theorem PL:PO X none PM:=by
 intro a s σ H Q I h;rw[evalPart_none];show ao ⟨none,H,I,.none,h⟩
theorem PJ(h:PE X e te):PO X (some e) (OD te):=by
 intro d s σ H Q I hw;rw[evalPart_some];show eY (h d s σ H _ I hw) λu s1 c=>?_
 obtain⟨x,H1,f,a,b⟩:=c;obtain⟨i,rfl,q⟩:=b;obtain⟨t,rfl⟩:=a;show⟨some i,H1,f,.int i t,q⟩
def vI(X:Cx)(r:V->Option Int->Option Int->Hp->VK->Prop):Prop:=
 ∀(c:List (Addr×Obj))(s:Shared)(σ:St)(H:Hp)(x:V)(v b a:Value)(lo hi:Option Int)(sl:Addr)(Q:VK),Inv X c σ H s->RelV x v->s.heap.IsSliceOf sl b a .none->IsPart b lo->IsPart a hi->r x lo hi H Q->
  ∃T id,typeLookup (.type T) "__getitem__"=pure (some (.builtin id))/\s.TypeIs v T/\wpAny (model X.prog X.w) X.A (getItem v (.ref sl)) (EP X c σ Q) X.xe s
theorem vI.or{r d:V->Option Int->Option Int->Hp->VK->Prop}(h:vI X r)(h':vI X d):vI X (λx lo hi H Q=>r x lo hi H Q\/d x lo hi H Q):=by
 intro f s σ H x v b a lo hi sl Q I c e pl pu q;rcases q with q | q
 .exact h f s σ H x v b a lo hi sl Q I c e pl pu q
 show h' f s σ H x v b a lo hi sl Q I c e pl pu q
def WC(r:V->Option Int->Option Int->Hp->VK->Prop)(te:TE)(tl th:TO):TE:=λσ H Q=>te σ H λx H1=>tl σ H1 λl b=>th σ b λu a=>r x l u a Q
theorem Ra{r:V->Option Int->Option Int->Hp->VK->Prop}(p:vI X r)(he:PE X e te)(t:PO X lo tl)(n:PO X hi th):PE X (.Subscript e (.Slice lo hi none p2) pos) (WC r te tl th):=by
 intro a s σ H Q I h;show Subscript_ (eY (he a s σ H _ I h) λv s1 c=>?_);obtain⟨x,H1,E,i,m⟩:=c;show wpAny_Slice (eY (t a s1 σ H1 _ E m) λf s2 c=>?_);obtain⟨l,F,D,pl,k⟩:=c;show eY (n a s2 σ F _ D k) λd s3 c=>?_
 obtain⟨u,g,C,pu,j⟩:=c;rw[evalPart_none];show ao ?_;have B:Inv X a σ g { s3 with heap:=s3.heap.push { cls:=.type "slice",data:=.fields #[f,d,.none] } }:=C.kept (t':=s3.toks) λb ob q=>aj _ q
 obtain⟨T,id,z,o,y⟩:=p a { s3 with heap:=s3.heap.push { cls:=.type "slice",data:=.fields #[f,d,.none] } } σ g x v f d l u s3.heap.objs.size Q B i (Heap.IsSliceOf.new ..) pl pu j;show wpAny (model X.prog X.w) X.A (subscriptTail e (.Slice lo hi none p2) v (.ref s3.heap.objs.size)) (EP X a σ Q) X.xe { s3 with heap:=s3.heap.push { cls:=.type "slice",data:=.fields #[f,d,.none] } };show tail_any (ops:=[.ref s3.heap.objs.size,v]) o z y (by with_unfolding_all rfl)
noncomputable def tK(xs:List V)(lo hi:Option Int):List V:=(xs.drop (HT.fF xs.length 0 lo)).take (HT.fF xs.length xs.length hi-HT.fF xs.length 0 lo)
theorem Ls(xs:List V)(lo hi:Option Int):(tK xs lo hi).length<=xs.length:=by
 unfold tK;rw[aT,cB];ext
def Nt(K:J'):V->Option Int->Option Int->Hp->VK->Prop:=λx lo hi H Q=>∃a xs,x=.ref a/\iz K H a xs/\
 ¬(HT.fF xs.length 0 lo=0/\HT.fF xs.length xs.length hi=xs.length)/\∀p,H p=none->Q (.ref p) (upd H p (.tup (tK xs lo hi)))
theorem O4:vI X (Nt X.K):=by
 intro i s σ H x v g f lo hi sl Q I d e pl pu h;obtain⟨a,xs,rfl,hx,hw,q⟩:=h;cases d;obtain⟨its,r,c,hz⟩:=I.tuple hx;have hlen:its.toArray.size=xs.length:=by rw[aA];show r.length.symm
 show⟨"tuple",_,PyProof.Rows.slot_tuple_getitem.lookup,c.typeIs,?_⟩;show HT.kd c e pl pu (by rw[hlen];show hw) ?_ (by rw[hlen];show hz);rw[hlen];show⟨.ref s.heap.objs.size,_,I.laid (t':=s.toks) (o:=.tup (tK xs lo hi)) (λb ob q=>aj _ q) (ay _) ?_,rfl,q _ (I.eT.fresh (ay _))⟩;show⟨aM (Ls xs lo hi) hz,_,(r.drop (HT.fF xs.length 0 lo)).take (HT.fF xs.length xs.length hi-HT.fF xs.length 0 lo),IsTup.new _ _⟩
end
noncomputable def qg(n:Nat)(i:Int):Option Nat:=if 0<=i then(if i<n then some i.toNat else none) else if -(n:Int)<=i then some (i+n).toNat else none
noncomputable def fK{a:Type}(xs:List a)(i:Int):Option a:=(qg xs.length i).bind λj=>xs[j]?
theorem Jz{n:Nat}{i:Int}{j:Nat}(h:qg n i=some j):seqIndex? i n=some j/\j<n/\-(n:Int)<=i/\i<n:=by
 unfold qg at h;by_cases h0:0<=i
 .rw[if_pos h0] at h;by_cases a:i<n
  .rw[if_pos a] at h;have e:i.toNat=j:=bX h;show⟨by rw[seqIndex_of h0 a,e],by ext,by ext,a⟩
  rw[if_neg a] at h;cases h
 rw[if_neg h0] at h;by_cases a:-(n:Int)<=i
 .rw[if_pos a] at h;have e:(i+n).toNat=j:=bX h;show⟨by rw[seqIndex_neg (by ext) a,e],by ext,a,by ext⟩
 rw[if_neg a] at h;cases h
theorem we{a:Type}{xs:List a}{i:Int}{v:a}(h:fK xs i=some v):∃j,seqIndex? i xs.length=some j/\xs[j]?=some v/\j<xs.length/\-(xs.length:Int)<=i/\i<xs.length:=by
 unfold fK at h;cases e:qg xs.length i with
 | none=>rw[e] at h;cases h
 | some j=>
  rw[e] at h;obtain⟨f,d,c,b⟩:=Jz e;show⟨j,f,h,d,c,b⟩
def Cg(b:Expr):Prop:=∀o i,subscripted b false o i=operate [o,i] (getItem o i)
def uW(X:Cx)(r:R2):Prop:=
 ∀(value slice:Expr)(a:List (Addr×Obj))(s:Shared)(σ:St)(H:Hp)(x y:V)(v u:Value)(Q:VK),Inv X a σ H s->RelV x v->RelV y u->r x y H Q->
  subscripted slice false v u=operate [v,u] (getItem v u)->wpAny (model X.prog X.w) X.A (subscriptTail value slice v u) (EP X a σ Q) X.xe s
def M5(X:Cx)(b:String)(r:V->List V->Hp->VK->Prop):Prop:=
 ∀(a:List (Addr×Obj))(s:Shared)(σ:St)(H:Hp)(x:V)(xs:List V)(v:Value)(us:List Value)(Q:VK),Inv X a σ H s->RelV x v->Vals xs us->r x xs H Q->
  wpAny (model X.prog X.w) X.A (call (.builtin b) (v::us)) (EP X a σ Q) X.xe s
section
variable{X:Cx}{a b:Expr}{ta tb:TE}{pos:Pos}
theorem uW.or{r c:R2}(h:uW X r)(h':uW X c):uW X (λx y H Q=>r x y H Q\/c x y H Q):=by
 intro value slice e s σ H x y v u Q I b a q d;rcases q with q | q
 .exact h value slice e s σ H x y v u Q I b a q d
 show h' value slice e s σ H x y v u Q I b a q d
theorem DM{r:R2}(f:uW X r)(ha:PE X a ta)(g:PE X b tb)(e:Cg b):PE X (.Subscript a b pos) (An r ta tb):=by
 intro i s σ H Q I h;show Subscript_ (DB ha g I h λv u s2 x y k j d c q=>f a b i s2 σ k x y v u Q j d c q (e _ _))
def HK(K:J'):R2:=λx y H Q=>∃p xs i v,x=.ref p/\y=.int i/\gA K H p xs/\fK xs i=some v/\Q v H
def HZ(K:J'):R2:=λx y H Q=>∃p xs i v,x=.ref p/\y=.int i/\iz K H p xs/\fK xs i=some v/\Q v H
def HY:R2:=λx y H Q=>∃z i c,x=.str z/\y=.int i/\z.length<=sizeLine/\fK z.cps.toList i=some c/\Q (.str ⟨#[c]⟩) H
theorem qf:uW X (HK X.K):=by
 intro value slice e s σ H x y v u Q I k g h c;obtain⟨p,xs,i,z,rfl,rfl,m,he,q⟩:=h;cases k;obtain⟨t,rfl⟩:=g;obtain⟨its,r,pl,hz⟩:=I.list m;obtain⟨j,a,B,D,A,o⟩:=we he;obtain⟨w,d,l⟩:=r.get B;have n:=r.length;have C:=xV;have fin:EP X e σ Q w s:=⟨z,H,I,l,q⟩
 by_cases h0:0<=i
 .have b:i.toNat=j:=by
   rw[seqIndex_of h0 o] at a;show bX a
  show item_listR pl.isList h0 (by ext) (by rw[b];simpa using d) fin c
 have b:(i+(its.toArray.size:Int)).toNat=j:=by
  rw[seqIndex_neg (by ext) A] at a;rw[aA,<-n];show bX a
 show subscriptTail_builtinR (x:=w) pl.isList.typeIs slot_list_getitem.lookup
  (wpAny_getItem_list_neg (Q:=λr f=>r=w/\EP X e σ Q r f) pl.isList (by ext) (by rw[aA]<;>ext) (by ext) (by rw[b];simpa using d) ⟨rfl,fin⟩) c
theorem wV:uW X (HZ X.K):=by
 intro value slice a s σ H x y v u Q I d c h f;obtain⟨p,xs,i,z,rfl,rfl,g,he,q⟩:=h;cases d;obtain⟨t,rfl⟩:=c;obtain⟨its,r,pl,hz⟩:=I.tuple g;obtain⟨j,m,l,C,B,A⟩:=we he;obtain⟨w,n,e⟩:=r.get l;have k:=r.length;have o:=xV;have fin:EP X a σ Q w s:=⟨z,H,I,e,q⟩
 show subscriptTail_builtinR (x:=w) pl.typeIs slot_tuple_getitem.lookup
  (getItem_tuple (j:=j) (Q:=λr b=>r=w/\EP X a σ Q r b) pl (by ext) (by ext) (by rw[aA,<-k];show m) (by simpa using n) ⟨rfl,fin⟩) f
theorem O3:uW X HY:=by
 intro value slice r s σ H x y v u Q I d b h e;obtain⟨z,i,c,rfl,rfl,hz,he,q⟩:=h;obtain⟨t,rfl⟩:=d;obtain⟨t',rfl⟩:=b;obtain⟨j,a,l,p,k,g⟩:=we he;have f:z.cps.toList.length=z.length:=by simp[Str.length]
 rw[f] at a k g;have o:=xV
 show tail_any (typeIs_str s z t) slot_str_getitem.lookup (getItem_str (c:=c) (by
  have n:decide (i < -(2 ^ 63:Int))=false:=bh (by ext);have m:decide (i>=2 ^ 63)=false:=bh (by ext)
  rw[n,m,Bool.or_false]) (by rw[a];simpa using l) ⟨.str ⟨#[c]⟩,H,I.tok _,⟨_,rfl⟩,q⟩) e
def LZ(K:J'):R2:=λx y H Q=>HK K x y H Q\/HZ K x y H Q\/HY x y H Q
theorem Iw:uW X (LZ X.K):=qf.or (wV.or O3)
theorem Te(its:List Value)(n j:Nat)(u:Value):Obj.mapSeq (·.setIfInBounds j u) { cls:=.type "list",data:=.seq its.toArray n }={ cls:=.type "list",data:=.seq (its.set j u).toArray n }:=by
 simp[Obj.mapSeq]
theorem Inv.lst{b:List (Addr×Obj)}{a:St}{H:Hp}{s:Shared}{p:Addr}{xs:List V}(I:Inv X b a H s)(h:H p=some (.lst xs)) :
  ∃(its:List Value)(n:Nat),Vals xs its/\s.heap.get? p=some { cls:=.type "list",data:=.seq its.toArray n }/\xs.length<=sizeLine:=by
 obtain⟨z,its,n,r,e⟩:=I.eT p _ h;show⟨its,n,r,e,z⟩
theorem Inv.wO{g:List (Addr×Obj)}{c:St}{H:Hp}{s:Shared}{p:Addr}{xs ys:List V}{its its':List Value}{n a:Nat}{f:Obj->Obj}(I:Inv X g c H s)(h:H p=some (.lst xs))
  (i:s.heap.get? p=some { cls:=.type "list",data:=.seq its.toArray n }) (d:f { cls:=.type "list",data:=.seq its.toArray n }={ cls:=.type "list",data:=.seq its'.toArray a }) (r:Vals ys its') (hz:ys.length<=sizeLine) (t:Nat) :
  Inv X g c (upd H p (.lst ys)) { s with heap:=s.heap.update p f,toks:=t }:=by
 have e:(s.heap.update p f).get? p=some { cls:=.type "list",data:=.seq its'.toArray a }:=by
  rw[Heap.get?_update_self f i (by rw[d]<;>rfl),d]
 show I.write (x:=p) (e:=p) (by rw[h];trivial) (.inl rfl) (λb u j q=>(bj _ _ (Ne.symm j)).trans q) ⟨_,e⟩ ?_;show⟨hz,its',a,r,e⟩
def OC:V->V->V->Hp->(Hp->Prop)->Prop:=λo i v H Q=>∃p xs k j,o=.ref p/\i=.int k/\H p=some (.lst xs)/\qg xs.length k=some j/\Q (upd H p (.lst (xs.set j v)))
theorem Q9:HN X OC:=by
 intro y s σ H o i v ov z u Q I ro w m h;obtain⟨p,xs,k,j,rfl,rfl,e,x,q⟩:=h;cases ro;obtain⟨t,rfl⟩:=w;obtain⟨its,n,r,b,hz⟩:=I.lst e;obtain⟨a,B,g,f⟩:=Jz x;have c:=r.length;have A:=xV;have l:Inv X y σ (upd H p (.lst (xs.set j v))) { s with heap:=s.heap.update p (Obj.mapSeq (·.setIfInBounds j u)) }:=
  I.wO e b (Te its n j u) (r.set m j) (by rw[List.length_set];show hz) s.toks
 by_cases h0:0<=k
 .have d:k.toNat=j:=by
   rw[seqIndex_of h0 f] at a;show bX a
  show PySem.W.ki_setAt b h0 (by ext) (by rw[aA,<-c];show f) (by rw[d];show⟨_,l,q⟩)
 have d:(k+(its.toArray.size:Int)).toNat=j:=by
  rw[seqIndex_neg (by ext) g] at a;rw[aA,<-c];show bX a
 show PySem.W.ki_setBack b (by ext) (by rw[aA,<-c];show g) (by ext) (by rw[d];show⟨_,l,q⟩)
theorem UI(lo hi:Option Int)(n:Nat):(sliceBounds lo hi none n).1=((HT.fF n 0 lo:Nat):Int)/\(sliceBounds lo hi none n).2.1=((HT.fF n n hi:Nat):Int)/\(sliceBounds lo hi none n).2.2=1:=by
 show⟨?_,?_,rfl⟩
 .cases lo with
  | none=>simp[sliceBounds,HT.fF]
  | some i=>
   simp only[sliceBounds,HT.fF,Option.getD_none,show(1:Int)>0 by decide,aX];by_cases h:i<0
   .simp only[h,aX]<;>ext
   simp only[h,aR]<;>ext
 cases hi with
 | none=>simp[sliceBounds,HT.fF]
 | some i=>
  simp only[sliceBounds,HT.fF,Option.getD_none,show(1:Int)>0 by decide,aX];by_cases h:i<0
  .simp only[h,aX]<;>ext
  simp only[h,aR]<;>ext
theorem UP(its:List Value)(lo hi:Option Int):slicePick its.toArray lo hi none=((its.drop (HT.fF its.length 0 lo)).take (HT.fF its.length its.length hi-HT.fF its.length 0 lo)).toArray:=by
 obtain⟨c,b,a⟩:=UI lo hi its.toArray.size;unfold slicePick;rw[c,b,a];simp only[sliceRange_one,pick_run,aA]<;>rfl
def NS(K:J'):V->Option Int->Option Int->Hp->VK->Prop:=λx lo hi H Q=>∃a xs,x=.ref a/\gA K H a xs/\∀p,H p=none->Q (.ref p) (upd H p (.lst (tK xs lo hi)))
theorem ux:vI X (NS X.K):=by
 intro i s σ H x v g f lo hi sl Q I d e pl pu h;obtain⟨a,xs,rfl,hx,q⟩:=h;cases d;obtain⟨its,r,c,hz⟩:=I.list hx;have hlen:=r.length;show⟨"list",_,slot_list_getitem.lookup,c.isList.typeIs,?_⟩;show wpAny_getItem_list_slice c.isList e pl pu .none (by simp) ?_ (by rw[aA]<;>ext);rw[UP,<-hlen];show⟨.ref s.heap.objs.size,_,I.laid (t':=s.toks) (o:=.lst (tK xs lo hi)) (λb ob q=>aj _ q) (ay _) ?_,rfl,q _ (I.eT.fresh (ay _))⟩;show⟨aM (Ls xs lo hi) hz,_,0,(r.drop (HT.fF xs.length 0 lo)).take (HT.fF xs.length xs.length hi-HT.fF xs.length 0 lo),az _ rfl⟩
noncomputable def BJ:V->Bool
 | .non=>true
 | .bl _=>true
 | .int _=>true
 | .str _=>true
 | _=>false
noncomputable def Hv:V->V->Bool
 | .non,.non=>true
 | .bl a,.bl b=>a==b
 | .bl a,.int b=>(if a then 1 else 0)==b
 | .int a,.bl b=>a==(if b then 1 else 0)
 | .int a,.int b=>a==b
 | .str a,.str b=>a==b
 | _,_=>false
theorem Iu{A:Around}{s:Shared}{y x:V}{u v:Value}(d:RelV y u)(c:RelV x v)(f:BJ y=true)(e:BJ x=true):SeqAt.EqAt A s u v (Hv y x):=by
 cases y with
 | non=>
  cases d;cases x with
  | non=>cases c;show SeqAt.EqAt.same _
  | bl b=>cases c;show SeqAt.EqAt.none_bool b
  | int b=>obtain⟨t,rfl⟩:=c;show SeqAt.EqAt.none_int b t
  | str b=>obtain⟨t,rfl⟩:=c;show SeqAt.EqAt.none_str b t
  | _=>show absurd (show false=true from e) aY
 | bl a=>
  cases d;cases x with
  | non=>cases c;show SeqAt.EqAt.bool_none a
  | bl b=>cases c;show SeqAt.EqAt.bool_bool a b
  | int b=>obtain⟨t,rfl⟩:=c;show SeqAt.EqAt.bool_int a b t
  | str b=>obtain⟨t,rfl⟩:=c;show SeqAt.EqAt.bool_str a b t
  | _=>show absurd (show false=true from e) aY
 | int a=>
  obtain⟨t',rfl⟩:=d;cases x with
  | non=>cases c;show SeqAt.EqAt.int_none a t'
  | bl b=>cases c;show SeqAt.EqAt.int_bool a t' b
  | int b=>obtain⟨t,rfl⟩:=c;show SeqAt.EqAt.int_int a t' b t
  | str b=>obtain⟨t,rfl⟩:=c;show SeqAt.EqAt.int_str a t' b t
  | _=>show absurd (show false=true from e) aY
 | str a=>
  obtain⟨t',rfl⟩:=d;cases x with
  | non=>cases c;show SeqAt.EqAt.str_none a t'
  | bl b=>cases c;show SeqAt.EqAt.str_bool a t' b
  | int b=>obtain⟨t,rfl⟩:=c;show SeqAt.EqAt.str_int a t' b t
  | str b=>obtain⟨t,rfl⟩:=c;show SeqAt.EqAt.str_str a t' b t
  | _=>show absurd (show false=true from e) aY
 | _=>show absurd (show false=true from f) aY
theorem ng:jj X (compareOp .NotIn) (λx y H Q=>∃i j,x=.str i/\y=.str j/\Q (.bl (!(!(Builtin.Str.occurrences j i 0 j.length 1).isEmpty))) H):=by
 intro c s σ H x y v u Q I b a h;obtain⟨i,j,rfl,rfl,q⟩:=h;obtain⟨t,rfl⟩:=b;obtain⟨t',rfl⟩:=a;show notIn_str ⟨.bl _,H,I,rfl,q⟩
theorem kh:fc X (.builtin "len") (λxs H Q=>∃p ys,xs=[.ref p]/\(gA X.K H p ys\/iz X.K H p ys)/\Q (.int ys.length) H):=by
 intro e s σ H xs us Q I r h;obtain⟨p,ys,rfl,a,q⟩:=h;obtain⟨u,rfl,c⟩:=lG r;cases c;have d:=xV;rcases a with a | a
 .obtain⟨its,b,pl,hz⟩:=I.list a;have hlen:=b.length;show Calls.call_len_list pl.isList (by simp only[aA]<;>ext) ⟨.int ys.length,H,I.tok _,⟨s.toks+1,by rw[aA,hlen]⟩,q⟩
 obtain⟨its,b,pl,hz⟩:=I.tuple a;have hlen:=b.length;show len_tuple pl (by simp only[aA]<;>ext) ⟨.int ys.length,H,I.tok _,⟨s.toks+1,by rw[aA,hlen]⟩,q⟩
theorem UH:fc X (.builtin "len") (λxs H Q=>∃z,xs=[.str z]/\z.length<=sizeLine/\Q (.int z.length) H):=by
 intro b s σ H xs us Q I r h;obtain⟨z,rfl,hz,q⟩:=h;obtain⟨u,rfl,t,rfl⟩:=lG r;have a:=xV;show len_str (by ext) ⟨.int z.length,H,I.tok _,⟨_,rfl⟩,q⟩
theorem fc.or{f:Value}{r a:List V->Hp->VK->Prop}(h:fc X f r)(h':fc X f a):fc X f (λxs H Q=>r xs H Q\/a xs H Q):=by
 intro b s σ H xs us Q I rs q;rcases q with q | q
 .exact h b s σ H xs us Q I rs q
 show h' b s σ H xs us Q I rs q
theorem UG:fc X (.type "list") (λxs H Q=>∃p ys,xs=[.ref p]/\(gA X.K H p ys\/iz X.K H p ys)/\∀l,H l=none->Q (.ref l) (upd H l (.lst ys))):=by
 intro k s σ H xs us Q I r h;obtain⟨p,ys,rfl,d,q⟩:=h;obtain⟨u,rfl,j⟩:=lG r;cases j;have fin:∀(its:List Value),Vals ys its->ys.length<=sizeLine->∀(h':Heap)(c:Nat),(∀b i,s.heap.get? b=some i->h'.get? b=some i)->
   h'.get? s.heap.objs.size=some { cls:=.type "list",dict:=none,data:=.seq its.toArray c,slots:=#[] }->EP X k σ Q (.ref s.heap.objs.size) { s with heap:=h' }:=λits a hz h' c kp e=>
  ⟨.ref s.heap.objs.size,_,I.laid (t':=s.toks) kp (ay _) (show eU X.prog X.w _ h' _ (.lst ys) from⟨hz,its,c,a,e⟩),rfl,q _ (I.eT.fresh (ay _))⟩
 rcases d with d | d
 .obtain⟨its,a,pl,hz⟩:=I.list d;have hlen:=a.length;obtain⟨o,f,g,n,hd⟩:=pl.isList;show call_list_seq p (.inl rfl) f g hd (λh' c kp e=>fin its a hz h' c kp e) (by simp only[aA]<;>ext)
 obtain⟨its,a,pl,hz⟩:=I.tuple d;have hlen:=a.length;obtain⟨o,f,g,n,hd⟩:=pl;show call_list_seq p (.inr rfl) f g hd (λh' c kp e=>fin its a hz h' c kp e) (by simp only[aA]<;>ext)
def FX(K:J')(T:String)(x:V)(H:Hp):Prop:=match x with
 | .str _=>T="str"
 | .int _=>T="int"
 | .ref p=>(T="list"/\∃xs,gA K H p xs)\/(T="tuple"/\∃o,K.lookup p=some o/\o.cls=.type "tuple"/\o.dict=none)\/
   (T="dict"/\((∃a ep,H p=some (.dK a ep))\/∃a bs,H p=some (.dT a bs)))\/(T="set"/\∃S n,H p=some (.set S n))
 | _=>False
theorem Ir{k:List (Addr×Obj)}{f:St}{H:Hp}{s:Shared}{T:String}{x:V}{v:Value}(I:Inv X k f H s)(r:RelV x v)(ty:FX X.K T x H) :
  s.TypeIs v T/\∀a,v=.ref a->∃ob,s.heap.get? a=some ob/\ob.dict=none:=by
 cases x with
 | str z=>
  obtain⟨t,rfl⟩:=r;cases (show T="str" from ty);show⟨typeIs_str s z t,λ_ e=>nomatch e⟩
 | int i=>
  obtain⟨t,rfl⟩:=r;cases (show T="int" from ty);show⟨typeIs_int s i t,λ_ e=>nomatch e⟩
 | ref p=>
  cases r;rcases ty with⟨rfl,xs,g⟩ | ⟨rfl,o,b,h,hd⟩ | ⟨rfl,b⟩ | ⟨rfl,S,n,b⟩
  .obtain⟨its,_,pl,_⟩:=I.list g;show⟨pl.isList.typeIs,λa e=>?_⟩;cases e;obtain⟨o,n,e,c,hd,_⟩:=pl;show⟨o,e,hd⟩
  .refine⟨⟨o,I.nT p o b,h⟩,λa e=>?_⟩;cases e;show⟨o,I.nT _ o b,hd⟩
  .have z:∃o,s.heap.get? p=some o/\o.ExactDict:=by
    rcases b with⟨j,ep,b⟩ | ⟨j,bs,b⟩
    .obtain⟨_,_,_,_,o,_,e,ex,_⟩:=I.eT p _ b;show⟨o,e,ex⟩
    obtain⟨_,_,_,_,_,o,_,_,e,ex,_⟩:=I.eT p _ b;show⟨o,e,ex⟩
   obtain⟨o,e,ex⟩:=z;show⟨⟨o,e,ex.1⟩,λa d=>?_⟩;cases d;show⟨o,e,ex.2.1⟩
  obtain⟨o,_,_,_,e,ex,_⟩:=I.eT p _ b;show⟨⟨o,e,ex.1⟩,λa d=>?_⟩;cases d;show⟨o,e,ex.2.1⟩
 | _=>show False.elim ty
def Ao(K:J')(T:String)(r:V->List V->Hp->VK->Prop)(a:TE)(t:TA):TE:=λσ H Q=>a σ H λx H1=>FX K T x H1/\t σ H1 λxs b=>r x xs b Q
variable{o e:Expr}{es:List Expr}{to:TE}{t:TA}{name:Str}{apos gI:Pos}{T id:String}{r:V->List V->Hp->VK->Prop}
theorem yW(m:PlainAttrs T)(slot:Slot T name id)(D:typeOf (.builtin id)=pure (.type "method_descriptor"))(y:M5 X id r)(w:PE X o to)(ha:PA X (e::es) t)
  (p:attributeBase o name X.env (eval o X.env)=eval o X.env:=by rfl)
  (g:((backTo gI (starEach (e::es) X.env)).all (λx=>!x.1)&&(backToKw gI (keywordEach [] X.env)).all (λx=>x.1.isSome)
   && decide ((e::es).length+([]:List Keyword).length+(if ([]:List Keyword).isEmpty then 0 else 1)<30))=true:=by rfl)
  (q:(apos.endLine==gI.line)=true:=by rfl) (u:starEach (e::es) X.env=(false,eval e X.env)::starEach es X.env:=by rfl) (n:(backTo gI (starEach es X.env)).any (·.1)=false:=by rfl) :
  PE X (.Call (.Attribute o name apos) (e::es) [] gI) (Ao X.K T r to t):=by
 intro b s σ H Q I h;show wpAny_Call_method_late p g q rfl (eY (w b s σ H _ I h) λv s1 a=>?_);obtain⟨x,H1,f,c,ty,l⟩:=a;obtain⟨A,z⟩:=Ir f c ty;show⟨T,id,m,slot,D,A,z,?_⟩;have d:=ha gI b s1 σ H1 _ f l;rw[u] at d ⊢;show Calls.callWith_builtin (by show(false||(backTo gI (starEach es X.env)).any (·.1))=false;rw[n]<;>rfl) (Calls.evalArgs_plain ?_);show eY d λus s2 a=>by obtain⟨i,C,B,j,k⟩:=a;show y b s2 σ C x i v us Q B c j k
end
def HD(X:Cx)(b:String)(r:V->List V->Hp->VK->Prop):Prop:=
 ∀(a:List (Addr×Obj))(s:Shared)(σ:St)(H:Hp)(x:V)(xs:List V)(v:Value)(us:List Value)(Q:VK),Inv X a σ H s->RelV x v->Vals xs us->r x xs H Q->
  wpAny (model X.prog X.w) X.A (call (.builtin b) (v::us)) (EP X a σ Q) X.xe s
theorem Vals.one{x:V}{a:List Value}(h:Vals [x] a):∃u,a=[u]/\RelV x u:=by
 cases h with
 | cons r t=>cases t;show⟨_,rfl,r⟩
theorem Vals.eraseIdx:∀{xs:List V}{us:List Value}(i:Nat),Vals xs us->Vals (xs.eraseIdx i) (us.eraseIdx i)
 | _,_,_,.nil=>.nil
 | _,_,0,.cons _ t=>t
 | _,_,i+1,.cons r t=>.cons r (Vals.eraseIdx i t)
theorem KZ{a:Type}:∀(l:List a)(i:Nat),(l.eraseIdx i).length<=l.length
 | [],_=>ay _
 | _::_,0=>bU _
 | _::r,i+1=>Nat.succ_le_succ (KZ r i)
section
variable{X:Cx}{K':List (Addr×Obj)}{σ:St}{H:Hp}{s:Shared}{l b:Addr}{xs ys zs:List V}
theorem Inv.wQ{its its':List Value}{n:Nat}{f:Array Value->Array Value}{t':Nat}(I:Inv X K' σ H s)(g:H l=some (.lst xs))
  (e:s.heap.get? l=some { cls:=.type "list",data:=.seq its.toArray n }) (c:f its.toArray=its'.toArray) (a:Vals ys its') (hz:ys.length<=sizeLine) :
  Inv X K' σ (upd H l (.lst ys)) { s with heap:=s.heap.update l (Obj.mapSeq f),toks:=t' }:=by
 have q:=PySem.IsL.update e f;rw[c] at q;show I.write (x:=l) (e:=l) (by rw[g];show trivial) (.inl rfl) (λh u d b=>(bj s.heap (Obj.mapSeq f) (Ne.symm d)).trans b) ⟨_,q⟩ ?_;show⟨hz,its',_,a,q⟩
theorem Inv.AI{its:List Value}{t':Nat}(I:Inv X K' σ H s)(a:Vals ys its)(hz:ys.length<=sizeLine) :
  Inv X K' σ (upd H s.heap.objs.size (.lst ys)) { s with heap:=s.heap.push { cls:=.type "list",data:=.seq its.toArray },toks:=t' }:=
 I.laid (λ_ _ q=>aj _ q) (ay _) ⟨hz,its,0,a,az _ rfl⟩
theorem Inv.fresh(I:Inv X K' σ H s):H s.heap.objs.size=none:=I.eT.fresh (ay _)
theorem Inv.uB(I:Inv X K' σ H s)(a:H l=some (.lst xs)):xs.length<=sizeLine/\∃(its:List Value)(n:Nat),Vals xs its/\xs.length=its.length/\s.heap.get? l=some { cls:=.type "list",data:=.seq its.toArray n }:=by
 obtain⟨z,its,n,r,e⟩:=I.eT l _ a;show⟨z,its,n,r,r.length,e⟩
theorem Q8{n:Nat}(h:n<=sizeLine):Builtin.List.listTooLong n=false:=by
 unfold Builtin.List.listTooLong;show bh (by ext)
end
section
variable{X:Cx}
def Eg:V->List V->Hp->VK->Prop:=λx a H Q=>∃l xs y,x=.ref l/\a=[y]/\H l=some (.lst xs)/\xs.length<sizeLine/\Q .non (upd H l (.lst (xs++[y])))
theorem EU:HD X "list.append" Eg:=by
 intro i s σ H x f v us Q I b c h;obtain⟨l,xs,y,rfl,rfl,a,hz,q⟩:=h;cases b;obtain⟨u,rfl,d⟩:=c.one;obtain⟨z,its,n,r,g,e⟩:=I.uB a;show call_meets F.slot_list_append ⟨_,e,rfl⟩ F.entry_list_append (F.args_list_append_2 _ _) (PySem.list_append l its.toArray n u (by rw[aA];ext)) ⟨e,?_⟩;show⟨.non,_,I.wQ (its':=its++[u]) a e (by simp) (r.append (.cons d .nil)) ?_,rfl,q⟩;rw[aD,List.length_singleton];ext
def Jy:V->List V->Hp->VK->Prop:=λx a H Q=>∃l b xs zs,x=.ref l/\a=[.ref b]/\H l=some (.lst xs)/\H b=some (.lst zs)/\xs.length+zs.length<=sizeLine/\Q .non (upd H l (.lst (xs++zs)))
theorem Sm:HD X "list.extend" Jy:=by
 intro w s σ H x p v us Q I d f h;obtain⟨l,b,xs,zs,rfl,rfl,c,j,hz,q⟩:=h;cases d;obtain⟨u,rfl,g⟩:=f.one;cases g;obtain⟨z,its,n,r,t,e⟩:=I.uB c;obtain⟨o,a,n2,i,y,k⟩:=I.uB j;have hsz:its.toArray.size+a.toArray.size<=sizeLine:=by rw[aA,aA];ext
 have m:¬(!its.toArray.isEmpty&&Builtin.List.listTooLong (its.toArray.size+a.toArray.size))=true:=by
  rw[Q8 hsz,Bool.and_false];show aY
 show call_meets F.slot_list_extend ⟨_,e,rfl⟩ F.entry_list_extend (F.args_list_extend_2 _ _)
  (AutoSeq1.list_extend_list_list_0 l its.toArray n b a.toArray n2 m (by rw[aA];ext) (by ext)) ⟨e,k,?_⟩
 show⟨.non,_,I.wQ (its':=its++a) c e (by simp) (r.append i) ?_,rfl,q⟩;rw[aD];ext
end
section
variable{prog:Program}{w:World}{A:Around}{E:Value->Shared->Prop}{s:Shared}
end
end L2
namespace M7
open PySem PySem.W PySem.Calls PyProof.Rows
theorem VW{P:Params}{h:Heap}:∀(ns:List Int)(c:List Value),WellAll P h c (ns.map WData.int)->IntsAre c ns:=by
 intro ns;induction ns with
 | nil=>
  intro c w;rw[bV] at w;cases w;show .nil
 | cons n ns d=>
  intro c w;rw[ax] at w;cases w with
  | cons a b=>
   cases a;show .cons _ _ (d _ b)
theorem Sk{l:OpenLaw}{n:Nat}(o:l.most=some n){P:Params}{h:Heap}{args:List WData}{b:List Value}
  (g:l.row.toRowW.claim.pre args=true) (j:WellAll P h b args) :
  ∃a f ns,b=[Value.ref a]/\args=[WData.list (ns.map WData.int)]/\h.get? a=some { cls:=.type "list",data:=.seq f.toArray }/\IntsAre f ns/\ns.length<=n:=by
 have u:WShape.hasAll [] args [.list .int]=true:=(pre_splitW g).1;have i:l.pre.holds [] { args:=args }=true:=(pre_splitW g).2;obtain⟨d,r,rfl,t,s⟩:=hasAllW_cons u;obtain rfl:=hasAllW_nil s;obtain⟨xs,rfl,p⟩:=hasW_list t;obtain⟨ns,rfl⟩:=items_int p;have hlen:ns.length<=n:=by
  unfold OpenLaw.pre at i;have e:(WTm.not (.lt (.lit (.int (n:Int))) (.len (.arg 0)))).holds [] { args:=[.list (ns.map .int)] }=true:=by
   have e:=(holds_andW i).1;rw[o] at e;show e
  have c:=condW_of e (w_not (w_lt w_lit (w_len_list (w_arg rfl))));rw[ae] at c;show Nat.le_of_not_lt λq=>?_
  have k:(n:Int)<((ns.length:Nat):Int):=by ext
  first
   | (rw[cP k] at c;show absurd c (by decide))
   | (simp at c;ext)
 cases j with
 | cons w1 w2=>
  cases w2;cases w1 with
  | list m v=>show⟨_,_,ns,rfl,rfl,m,VW ns _ v,hlen⟩
theorem Sj(l:OpenLaw)(args:List WData):l.row.toRowW.claim.post args (.bool true) args=true:=
 postW_of (r:=l.row.toRowW) (X:=(true==true))
  (show WShape.has [] (.bool true) .bool=true by first | rfl | decide | simp[WShape.has,WShape.arms,WShape.armsAll])
  (show(WTm.eq .res (.lit (.bool true))).value [] { args:=args,res:=some (.bool true),after:=args }=some (.bool (true==true)) from w_eq_bool (w_res rfl) w_lit) rfl
theorem oQ{l:OpenLaw}{n:Nat}{q:Program}{b:List Str}{k:(Str->Option Value)->Heap->Prop}{j:World->Heap->Prop}{d:DefRec}
  (x:l.most=some n) (D:d.params.defaults=[])
  (call:∀(w:World)(gQ c:Shared)(mg h:Str->Option Value)(fa:Addr)(o:Obj)(pm cd doc:Value)(a:Addr)(e:List Value)(ns:List Int),
   Ground q b [] k w gQ mg h c.heap->j w c.heap->
   c.heap.get? fa=some o->o.data=.func (docDef d.name d.params d.body d.scope pm cd doc)->c.heap.CodeRec cd d.name->mg d.name=some (.ref fa)->
   c.heap.get? a=some { cls:=.type "list",data:=.seq e.toArray }->IntsAre e ns->ns.length<=n->c.gens=#[]->
   codeAny (model l.prog w) callerA (.call (.ref fa) ⟨[.ref a],[]⟩) (λr g=>r=.ok (.ret (.bool true))/\OldK c.heap g.heap/\g.os=c.os/\AllBare g.gens) c) :
  WalkO q b k j l.row.toRowW d [] (λf e=>PySem.call f e):=by
 intro w gQ c mg h G Y fa o pm cd doc C kV v hd t i uG y args vals as s F E m H;obtain rfl:C=.none:=Dflts.none i D;obtain rfl:kV=.none:=Dflts.noKw i;obtain⟨a,e,ns,rfl,rfl,p,hints,hlen⟩:=Sk x s m;show enter_call (codeAny_mono (call w gQ c mg h fa o pm cd doc a e ns G Y v (fd_plain hd) t uG p hints hlen y) λr g u=>?_);obtain⟨rfl,B,A,z⟩:=u;show⟨.inl ⟨.bool true,.bool true,[],rfl,λ_=>rfl,.bool true,Sj l _,λ_=>⟨List.Pairwise.nil,λ_ hm=>(nomatch hm)⟩⟩,B,A,z⟩
end M7
namespace L2
open PySem PySem.Spec PyProof.Rows
theorem ET:∀{a:List Value}{ns:List Int},IntsAre a ns->Vals (ns.map V.int) a
 | _,_,.nil=>.nil
 | _,_,.cons n t h=>.cons ⟨t,rfl⟩ (ET h)
def HX(H:Hp):Prop:=∀b,H b=none\/∃o xs,H b=some (.mN o (.lst xs))
theorem Q7{P:Program}{w:World}{K:J'}{mg p:Str->Option Value}{O:t5}{k:Nat}{fa a:Addr}{L:FuncData}{x:Str}{A:Sp}{c:Shared}{i:List Value}{ns:List Int}
  (KX:K.In c.heap) (D:c.heap.Ns mainGlobals mg) (f:c.heap.Ns builtinsNs p) (X6:∀x:Str,x≠"__name__"->p x=bootBuiltins x) (GV:c.heap.NoLimit) (Y:c.gens=#[])
  (ha:c.heap.get? a=some { cls:=.type "list",data:=.seq i.toArray }) (hi:IntsAre i ns) (G:ns.length<=sizeLine) (X:fN k callerA)
  (F:∀base:Heap,K.In base->base.Ns mainGlobals mg->jv P w K mg base O k fa L [x] A) (Bg:∀(s:Shared)(u:Value),BindsTo s L ⟨[u],[]⟩ [(x,u)])
  (R:∀H:Hp,HX H->gA K H a (ns.map V.int)->A [.ref a] H (λv _=>v=.bl true) λ_ _ _=>False)
  (Yf:∀H e g,O [] H c (λ_ _ _=>False) e g->False) :
  codeAny (model P w) callerA (.call (.ref fa) ⟨[.ref a],[]⟩) (λr g=>r=.ok (.ret (.bool true))/\OldK c.heap g.heap/\g.os=c.os/\AllBare g.gens) c:=by
 have B:=ET hi;have Gr:=hi.length
 -- from an abstract heap in LP nothing but E S may be tracked
 have core:∀H:Hp,HX H->gA K H a (ns.map V.int)->jS P w H c.heap->(∀b,H b≠none->b=a)->(H a≠none->K.lookup a=none)->
   codeAny (model P w) callerA (.call (.ref fa) ⟨[.ref a],[]⟩) (λr g=>r=.ok (.ret (.bool true))/\OldK c.heap g.heap/\g.os=c.os/\AllBare g.gens) c:=by
  intro H I Z eT J hK;have C:∀{b:Addr}{o:Obj},c.heap.get? b=some o->H b=none->(ub c.heap H).get? b=some o:=λe n=>Sd e n
  have AB:∀{b:Addr}{o:Obj}{es:Array DictEntry}{ep:Nat},c.heap.get? b=some o->o.data=.dict es ep->H b=none:=λ{b o es ep} e d=>by
   cases q:H b with
   | none=>rfl
   | some u=>
    have y:b=a:=J b (by rw[q];simp);subst y;rw[ha] at e;cases e;have d':Data.seq i.toArray _=Data.dict es ep:=d;cases d'
  have l:∀{b:Addr}{m:Str->Option Value},c.heap.Ns b m->(ub c.heap H).Ns b m:=λ{b m} ⟨o,es,ep,e,d,r⟩=>⟨o,es,ep,C e (AB e d),d,r⟩
  have N:K.In (ub c.heap H):=λb o e=>C (KX b o e) (by
   cases q:H b with
   | none=>rfl
   | some u=>
    have y:b=a:=J b (by rw[q];simp);subst y
    rw[hK (by rw[q];simp)] at e;cases e)
  have hM:Mod K mg (ub c.heap H):=⟨N,l D,⟨p,l f,X6⟩,let⟨W,h1,h2⟩:=GV;⟨W,l h1,h2⟩⟩
  have e0:pO P w K mg (ub c.heap H) callerA [] c H:=⟨rfl,hM,λb o e=>QM e,Nat.le_of_eq (Tf _ _),trivial,λb f=>absurd (show b∈([]:List Addr) from f) (by simp),eT,.of_eq Y⟩
  show codeAny_mono ((F _ N (l D)).run callerA [] c H ⟨[.ref a],[]⟩ [.ref a] [.ref a] _ _ X e0 (Bg c (.ref a)) (.cons rfl .nil) (R H I Z)) λr g h=>?_
  cases r with
  | error e=>show(Yf H e g h).elim
  | ok fl=>
   cases fl with
   | next=>show False.elim h
   | brk=>show False.elim h
   | cont=>show False.elim h
   | ret u=>
    obtain⟨v,H',os,bare,un,GP,T,q⟩:=h;have U:v=.bl true:=q;subst U;obtain rfl:u=Value.bool true:=T;show⟨rfl,OldK.of_keep λb o e=>?_,os,bare⟩;cases q:H b with
    | none=>show un.keep b o e q (by intro z;show absurd (show b∈([]:List Addr) from z) (by simp)) (by simp)
    | some u=>
     rcases I b with z | ⟨ob,xs,z⟩
     .rw[q] at z;cases z
     have Q:=un.nj b ob _ z;obtain⟨M,_⟩:=eT b _ z;obtain⟨e2,_⟩:=GP b _ Q;rw[e] at M;cases M;show e2
 cases t:K.lookup a with
 | some o=>
  -- E S is one of E AE own objects
  have e:=KX a o t;rw[ha] at e;cases e;show core (λ_=>none) (λ_=>.inl rfl) (.inr ⟨_,i.toArray,_,t,rfl,rfl,rfl,by rw[aA,Gr];show G,by simpa using B⟩) (λb u z=>by have j:(none:Option HO)=some u:=z;cases j) (λb z=>absurd rfl z) λz=>absurd rfl z
 | none=>
  show core (λb=>if b=a then some (.mN { cls:=.type "list",data:=.seq i.toArray } (.lst (ns.map V.int))) else none) (λb=>?_) (.inl (.inr ⟨{ cls:=.type "list",data:=.seq i.toArray },if_pos rfl⟩)) (λb u z=>?_) (λb z=>?_) λ_=>t
  .by_cases f:b=a
   .exact .inr ⟨_,_,if_pos f⟩
   show .inl (if_neg f)
  .by_cases f:b=a
   .have j:=(if_pos f).symm.trans z;cases j;subst f;show⟨ha,by rw[ae];show G,i,_,B,ha⟩
   have j:=(if_neg f).symm.trans z;cases j
  by_cases f:b=a
  .exact f
  show absurd (if_neg f) z
noncomputable abbrev uV{K:J'}{h:Heap}(_:K.In h):J':=K
def Jx(s:Stmt)(j:Nat):Stmt:=match s with
 | .ClassDef _ _ _ body _ _ _ _ _ _ _=>body.getD j (.Pass ⟨0,0,0,0⟩)
 | _=>.Pass ⟨0,0,0,0⟩
noncomputable def gB(s:Stmt):Arguments:=match s with
 | .FunctionDef _ a _ _ _ _ _ _ _ _=>a
 | _=>{ posonlyargs:=[],args:=[],vararg:=none,kwonlyargs:=[],kw_defaults:=[],kwarg:=none,defaults:=[] }
noncomputable def eW(s:Stmt):List Stmt:=match s with
 | .FunctionDef _ _ b _ _ _ _ _ _ _=>b
 | _=>[]
noncomputable def de(s:Stmt):Scope:=match s with
 | .FunctionDef _ _ _ _ _ _ sc _ _ _=>sc
 | _=>{ kind:=.function,names:=[],isGenerator:=false,isCoroutine:=false }
abbrev nX:t5:=λ_ _ _ _ _ _=>False
abbrev E0:XK:=λ_ _ _=>False
theorem Im{X:Cx}:y4 nX X E0:=λ_ _ _ _ _ _ _ h=>h.elim
structure nC(dV:Value)(K:J')(x qual:Str)(st:Stmt)(f:Addr)(fd:FuncData):Prop where
 ex:∃(oc:Value)(od:Option Addr)(kV doc pm:Value)(an:Option Addr)(eJ ct:Value)(pq:Array (Option Value)),
  fd=PySem.W.fnOf x qual (gB st) (eW st) (de st) dV kV doc pm an eJ ct/\K.lookup f=some ⟨oc,od,.func fd,pq⟩/\PySem.W.codeIn K eJ qual=true
 kp:PySem.W.keepIn K (.ref f)=true
noncomputable abbrev Du:=nC .none
section
variable{P:Program}{w:World}{K:J'}{mg:Str->Option Value}{base:Heap}
theorem nC.ok{m:Value}{x a:Str}{st:Stmt}{f:Addr}{e:FuncData}{N ps:List Str}{k:Nat}{d:Sp}(F:nC m K x a st f e)(S:du N ps (de st))(len:∀b H Q E,d b H Q E->b.length=ps.length)
  (i:∀(c:Value)(A:Around)(outer:List Env)(s:Shared)(H:Hp)(b:List V)(Q:VK)(E:XK),fN k (A.deeper (envOfC a (de st) s.heap.objs.size f c))->d b H Q E->
   ∃t,pM (rg nX P w K mg base N a (de st) f c A outer s H E).tX (eW st) t/\t { nx:=λ_ n=>Q .non n,rt:=Q } (mF N b) H):jv P w K mg base nX (k+1) f e ps d:=by
 obtain⟨p,od,kV,doc,pm,an,c,ct,o,rfl,lk,j⟩:=F.ex;show Ob lk j S len λA outer s H b Q E l g=>?_
 obtain⟨t,h,q⟩:=i c A outer s H b Q E l g;show⟨t,h.tX,q⟩
theorem nC.binds{x a:Str}{st:Stmt}{f:Addr}{c:FuncData}{ps:List Str}(F:Du K x a st f c)
  (h:∀(kV doc pm:Value)(an:Option Addr)(b ct:Value)(us:List Value),us.length=ps.length->bindArgs (PySem.W.fnOf x a (gB st) (eW st) (de st) .none kV doc pm an b ct) ⟨us,[]⟩=pure (ps.zip us)):Binds K c ps []:=by
 obtain⟨e,od,kV,doc,pm,an,b,ct,d,rfl,lk,g⟩:=F.ex;show .all (h kV doc pm an b ct)
theorem D3{x a:Str}{st:Stmt}{f:Addr}{i:Value}{od g:Option Addr}{h:Array (Option Value)}{e kV b pm d ct:Value}(l:K.lookup f=some ⟨i,od,.func (PySem.W.fnOf x a (gB st) (eW st) (de st) e kV b pm g d ct),h⟩)
  (c:PySem.W.codeIn K d a=true) (k:PySem.W.keepIn K (.ref f)=true):nC e K x a st f (PySem.W.fnOf x a (gB st) (eW st) (de st) e kV b pm g d ct):=⟨⟨i,od,kV,b,pm,g,d,ct,h,rfl,l,c⟩,k⟩
end
section
variable{X:Cx}
theorem pv(i:Nat){x:Str}{pos:Pos}(c:X.N[i]?=some x:=by rfl)(b:oR X.env.scope x:=by first | show Or.inl rfl | show Or.inr (Or.inl rfl) | show Or.inr (Or.inr rfl))(hd:(x==("__debug__":Str))=false:=by decide)
  (a:(x==("__classdict__":Str))=false:=by decide):PE X (.Name x pos) (HP i):=pZ c b hd a
end
def dU(H a:Hp):Prop:=∀b o,H b=some o->a b=some o
theorem dU.refl(H:Hp):dU H H:=λ_ _ h=>h
theorem dU.trans{H e d:Hp}(a:dU H e)(b:dU e d):dU H d:=λc o h=>b c o (a c o h)
theorem dU.free{H a:Hp}(e:dU H a){l:Addr}(h:a l=Option.none):H l=Option.none:=by
 cases q:H l with
 | none=>rfl
 | some o=>
  rw[e l o q] at h;cases h
end L2
set_option maxHeartbeats 0
namespace L2
open PySem PySem.Spec PyProof.Rows
def lX(K:J')(H:Hp)(a:Addr)(xs:List V):Prop:=
 Rd H a (.lst xs)\/∃(its:Array Value)(n:Nat),K.lookup a=some { cls:=.type "list",data:=.seq its n }/\its.size<=sizeLine/\Vals xs its.toList
theorem lX.of{K:J'}{H:Hp}{a:Addr}{xs:List V}(h:H a=some (.lst xs)):lX K H a xs:=.inl (.inl h)
theorem lX.sq{K:J'}{H:Hp}{a:Addr}{xs:List V}(h:lX K H a xs):gA K H a xs:=by
 rcases h with h | ⟨its,n,d,c,b⟩
 .exact .inl h
 show .inr ⟨_,its,n,d,rfl,rfl,rfl,c,b⟩
theorem dU.hE{K:J'}{H b:Hp}{a:Addr}{xs:List V}(e:dU H b)(h:lX K H a xs):lX K b a xs:=by
 rcases h with(h | ⟨o,h⟩) | h
 .exact .inl (.inl (e _ _ h))
 .exact .inl (.inr ⟨o,e _ _ h⟩)
 show .inr h
theorem Inv.hE{X:Cx}{g:List (Addr×Obj)}{c:St}{H:Hp}{s:Shared}{a:Addr}{xs:List V}(I:Inv X g c H s)(h:lX X.K H a xs):xs.length<=sizeLine/\∃(its:List Value)(n:Nat),Vals xs its/\s.heap.get? a=some { cls:=.type "list",data:=.seq its.toArray n }:=by
 rcases h with h | ⟨its,n,f,d,b⟩
 .obtain⟨z,its,n,r,e⟩:=h.ok I.eT;show⟨z,its,n,r,e⟩
 show⟨by rw[b.length];simpa using d,its.toList,n,b,?_⟩;rw[Array.toArray_toList];show I.nT a _ f
noncomputable def nN(cells:List (Str×Addr)):List (Str×NameKind)->List (Str×Addr)->List (Str×Addr)
 | [],acc=>acc
 | (n,k)::r,acc=>nN cells r (if k==.free then(n,(cells.lookup n).getD 0)::acc else acc)
theorem Lo{env:Env}:∀(names:List (Str×NameKind))(acc:List (Str×Addr)),(∀x∈names,x.2=.free->∃c,env.cells.lookup x.1=some c)->
  (forIn names acc λ(x:Str×NameKind)(r:List (Str×Addr))=>
   (if (x.2==NameKind.free)=true then do let a <-cellOf env x.1;pure (ForInStep.yield ((x.1,a)::r)) else pure (ForInStep.yield r):Sem (ForInStep (List (Str×Addr)))))=pure (nN env.cells names acc)
 | [],acc,_=>by simp[nN]
 | (n,k)::r,acc,h=>by
  have d:=λg=>Lo (env:=env) r g λx hx=>h x (aK _ hx)
  rw[List.forIn_cons];by_cases e:k=.free
  .subst e;obtain⟨c,f⟩:=h (n,.free) (by simp) rfl;have i:cellOf env n=pure c:=by unfold cellOf;rw[f]
   simp only[beq_self_eq_true,aX,i,pure_bind];rw[d];simp[nN,f]
  have b:(k==NameKind.free)=false:=by simpa using e
  simp only[b,aq,aR,pure_bind];rw[d];simp[nN,b]
theorem Ln{env:Env}{scope:Scope}(h:∀x∈scope.names,x.2=.free->∃c,env.cells.lookup x.1=some c):closureFor scope env=pure (nN env.cells scope.names []):=by
 have e:closureFor scope env=(forIn scope.names ([]:List (Str×Addr)) λ(x:Str×NameKind)(r:List (Str×Addr))=>
   (if (x.2==NameKind.free)=true then do let a <-cellOf env x.1;pure (ForInStep.yield ((x.1,a)::r)) else pure (ForInStep.yield r):Sem (ForInStep (List (Str×Addr))))) >>= λr=>pure r:=rfl
 rw[e,Lo _ _ h];rfl
theorem J3{cells:List (Str×Addr)}:∀{names:List (Str×NameKind)}{acc:List (Str×Addr)}{x:Str}{c:Addr},(x,c)∈nN cells names acc->(x,c)∈acc\/((x,.free)∈names/\c=(cells.lookup x).getD 0)
 | [],acc,x,c,h=>.inl h
 | (n,k)::r,acc,x,c,h=>by
  rcases J3 (names:=r) h with h | ⟨h,e⟩
  .by_cases a:k=.free
   .subst a;simp only[beq_self_eq_true,aX] at h;rcases av.mp h with h | h
    .cases h;show .inr ⟨by simp,rfl⟩
    show .inl h
   have b:(k==NameKind.free)=false:=by simpa using a
   simp only[b,aq,aR] at h;show .inl h
  show .inr ⟨aK _ h,e⟩
theorem J2{cells:List (Str×Addr)}:∀{names:List (Str×NameKind)}{acc:List (Str×Addr)}{p:Str×Addr},p∈acc->p∈nN cells names acc
 | [],acc,p,h=>h
 | (n,k)::r,acc,p,h=>J2 (names:=r) (by split<;>simp[h])
theorem EF{cells:List (Str×Addr)}:∀{names:List (Str×NameKind)}{acc:List (Str×Addr)}{x:Str},(x,.free)∈names->∃c,(x,c)∈nN cells names acc
 | (n,k)::r,acc,x,h=>by
  rcases av.mp h with h | h
  .have b:x=n:=congrArg Prod.fst h;have a:NameKind.free=k:=congrArg Prod.snd h;subst b a;show⟨(cells.lookup x).getD 0,?_⟩;show(x,(cells.lookup x).getD 0)∈nN cells r (if (NameKind.free==NameKind.free)=true then(x,(cells.lookup x).getD 0)::acc else acc);show J2 (by simp)
  show EF (names:=r) h
theorem CO{b:Type}:∀{l:List (Str×b)}{x:Str}{c:b},(x,c)∈l->∃a,l.lookup x=some a
 | (n,k)::r,x,c,h=>by
  by_cases e:x=n
  .subst e;show⟨k,by simp[List.lookup_cons]⟩
  have d:(x==n)=false:=by simpa using e
  rcases av.mp h with h | h
  .cases h;show absurd rfl e
  obtain⟨a,q⟩:=CO h;show⟨a,by simp[List.lookup_cons,d,q]⟩
theorem FP{env:Env}:∀{names:List (Str×NameKind)}{x:Str},
  (names.map λ(n,k)=>if (k==NameKind.free&&env.scope.kind==.function&&env.kindOf n==some .cell) then(n,NameKind.cell) else(n,k)).lookup x
   = (names.lookup x).map λk=>if (k==NameKind.free&&env.scope.kind==.function&&env.kindOf x==some .cell) then NameKind.cell else k
 | [],x=>rfl
 | (n,k)::r,x=>by
  have a:=@FP env r x;rw[ax];have b:(if (k==NameKind.free&&env.scope.kind==.function&&env.kindOf n==some .cell)=true then(n,NameKind.cell) else(n,k))=(n,if (k==NameKind.free&&env.scope.kind==.function&&env.kindOf n==some .cell)=true then NameKind.cell else k):=by split<;>rfl
  show List.lookup x ((if (k==NameKind.free&&env.scope.kind==.function&&env.kindOf n==some .cell)=true then(n,NameKind.cell) else(n,k))::_)=_;rw[b];by_cases e:x=n
  .subst e;rw[List.lookup_cons,List.lookup_cons,beq_self_eq_true];rfl
  have c:(x==n)=false:=by simpa using e
  rw[List.lookup_cons,List.lookup_cons,c];show a
theorem FU:∀(names:List (Str×NameKind))(n:Nat)(acc a:List (Str×Addr)),cellsFrom n names (acc++a)=cellsFrom n names acc++a
 | [],_,_,_=>rfl
 | (x,k)::r,n,acc,a=>by
  unfold cellsFrom;split
  .exact FU r (n+1) ((x,n)::acc) a
  show FU r n acc a
theorem FT:∀{names:List (Str×NameKind)}{n:Nat}{acc:List (Str×Addr)}{p:Str×Addr},p∈cellsFrom n names acc->p∈acc\/(p.1,.cell)∈names
 | [],_,_,_,h=>.inl h
 | (x,k)::r,n,acc,p,h=>by
  unfold cellsFrom at h;split at h
  .rename_i a;rcases FT h with h | h
   .rcases av.mp h with rfl | h
    .rw[eq_of_beq a];show .inr (by simp)
    show .inl h
   show .inr (aK _ h)
  show(FT h).imp id (aK _)
theorem zZ:∀{names:List (Str×NameKind)}{n:Nat}{acc:List (Str×Addr)}{p:Str×Addr},p∈acc->p∈cellsFrom n names acc
 | [],_,_,_,h=>h
 | (x,k)::r,n,acc,p,h=>by
  unfold cellsFrom;split
  .exact zZ (aK _ h)
  show zZ h
theorem FR:∀{names:List (Str×NameKind)}{n:Nat}{acc:List (Str×Addr)}{x:Str},(x,.cell)∈names->∃c,(x,c)∈cellsFrom n names acc
 | (y,k)::r,n,acc,x,h=>by
  unfold cellsFrom;rcases av.mp h with h | h
  .cases h;show⟨n,zZ (by simp)⟩
  split
  .exact FR h
  show FR h
theorem Q6{M:Model}{A:Around}{E:Value->Shared->Prop}{s:Shared}{scope:Scope}{a:Addr}{b:List (Str×Addr)}{c:Str}{d:Option Addr}{e:Value}{out:Env}{Q:Env->Shared->Prop}
  (f:∀h',h'=pushCells (s.heap.push { cls:=.type "dict",data:=.dict #[] }) scope.names->Q (newEnv scope s.heap.objs.size a (cellsFrom (s.heap.objs.size+1) scope.names b) c d e (some out) builtinsNs) { s with heap:=h' }) :
  wpAny M A (newFunctionEnv scope a b [] c d e (some out)) Q E s:=by
 simp only[newFunctionEnv,Option.isSome_some,aX];show aa (wpAny_alloc ?_);show aa (wpAny_layCells _ (λname kind cells=>by cases g:kind==NameKind.cell<;>simp[g]) _ _ _ _ ?_);rw[show({ s with heap:=s.heap.push { cls:=.type "dict",data:=.dict #[] } }:Shared).heap.objs.size=s.heap.objs.size+1 from cO ..];rw[List.forIn_nil];show aa (ao (ao (f _ rfl)))
noncomputable abbrev jM(X:Cx)(N':List Str)(scope:Scope)(a:Shared)(b:Hp)(ex:List Addr):Cx:=
 { X with N:=N',gQ:=a,tI:=b,env:=compEnvC scope (cellsFrom (a.heap.objs.size+1) scope.names (nN X.env.cells scope.names [])) a.heap.objs.size X.env,outer:=X.stack,stack:=X.stack,ex:=ex,fn:=λx=>scope.names.lookup x==some .cell,pn:=[],xe:=λ_ _=>False }
noncomputable def sO(m:List (Option Nat))(a:St):St:=m.map λo=>match o with
 | none=>none
 | some j=>(a[j]?).join
structure eS(X:Cx)(N':List Str)(m:List (Option Nat))(scope:Scope):Prop where
 kind:scope.kind=.function
 len:m.length=N'.length
 uniq:∀y∈scope.names,scope.names.lookup y.1=some y.2
 free:∀y∈scope.names,y.2=.free->X.env.kindOf y.1=some .cell\/X.env.kindOf y.1=some .free
 Yr:∀(i j:Nat)(x:Str),m[i]?=some (some j)->N'[i]?=some x->X.N[j]?=some x/\scope.names.lookup x=some .free
def yI(X:Cx)(a:List Expr)(t:TT):Prop:=
 ∀(b:List (Addr×Obj))(s:Shared)(σ:St)(H:Hp)(Q:Bool->Hp->Prop),Inv X b σ H s->t σ H Q->
  wpAny (model X.prog X.w) X.A (forIn a true λc r=>if r=true then do let ok <-isTrue c X.env (eval c X.env);pure (ForInStep.yield ok) else pure (ForInStep.yield r)) (TP X b σ Q) X.xe s
def NR:TT:=λ_ H Q=>Q true H
theorem PH{X:Cx}:yI X [] NR:=λ_ _ σ H _ I h=>wpAny_tests_nil ⟨H,I,h⟩
theorem PF{X:Cx}{c:Expr}{t:TT}(h:PT X c t):yI X [c] t:=λa s σ H Q I q=>wpAny_tests_one (h a s σ H Q I q)
section
variable{prog:Program}{w:World}{A:Around}{R:Result->Shared->Prop}{s:Shared}
theorem Up{e a b:Expr}{d:List Expr}{scope:Scope}{pos:Pos}{i acc:Value}{env:Env}(I:Nat->Shared->Prop)
  (turn:∀n s,I n s->wpAny (model prog w) A (pyNext i) (λr k=>match r with
   | none=>R (.ok .next) k
   | some v=>wpAny (model prog w) A (letOwnedTupleGo a i v) (λ_ l=>wpAny (model prog w) A (assign a env v) (λ_ p=>
     wpAny (model prog w) A (forIn d true λc r=>if r=true then do let ok <-isTrue c env (eval c env);pure (ForInStep.yield ok) else pure (ForInStep.yield r)) (λok j=>
      if ok=true then wpAny (model prog w) A (eval e env) (λx o=>
       wpAny (model prog w) A (call (.builtin "list.append") [acc,x]) (λ_ t=>∃m,m<n/\I m t) (λ_ _=>False) o) (λ_ _=>False) j
      else ∃m,m<n/\I m j) (λ_ _=>False) p) (λ_ _=>False) l) (λ_ _=>False) k) (λ_ _=>False) s)
  (n:Nat) (h:I n s) :
  codeAny (model prog w) A (.compLoop (.ListComp e [⟨a,b,d,0⟩] scope pos) 0 i acc env) R s:=by
 show codeAny_loop rfl I (λn s y=>?_) n h;show wpAny _ A ((compTurn (.ListComp e [⟨a,b,d,0⟩] scope pos) 0 i acc env).onRaise (λx=>do noteFrame x env;theTreesLotGoes x)) _ _ s;show wpAny_noted ?_;rw[compTurn_list];have g:∀{E:Value->Shared->Prop}(x:Value)(s:Shared),(λ(_:Value)(_:Shared)=>False) x s->E x s:=λ_ _ f=>f.elim
 show aa (wpAny_standAt (aa (wpAny_mono (turn n s y) (λr k q=>?_) g)));cases r with
 | none=>show ao q
 | some v=>
  show aa (wpAny_mono q (λ_ l D=>?_) g);show aa (wpAny_mono D (λ_ p z=>aa (wpAny_mono z (λok j u=>?_) g)) g);cases ok with
  | false=>show ao ⟨rfl,u⟩
  | true=>
   show aa (aa (wpAny_mono u (λx o B=>aa (wpAny_mono B (λ_ t C=>ao (ao ⟨rfl,C⟩)) g)) g))
end
noncomputable abbrev rR(a:Type):=Shared->Hp->List Addr->a
def yV(l:TI)(m:List (Option Nat))(g:rR TG)(tc:rR TT)(te:rR TE):TE:=λσ H Q=>l σ H λJ H1=>∀D,H1 D=none->∀s3 ex,
 ∃W:Nat->Nat->St->Hp->Prop,(∃k,W 0 k (sO m σ) (upd H1 D (.lst [])))/\∀i k c a,W i k c a->
  (J.stop i a/\Q (.ref D) a)\/(J.go i a/\∃N:St->Hp->Prop,(∀c a,N c a->∃e,e<k/\W (i+1) e c a)/\
   ∀x j,J.CP i a x j->g s3 (upd H1 D (.lst [])) ex x c j λd n=>tc s3 (upd H1 D (.lst [])) ex d n λb h=>
    if b=true then te s3 (upd H1 D (.lst [])) ex d h λv f=>∃xs,f D=some (.lst xs)/\xs.length<sizeLine/\N d (upd f D (.lst (xs++[v]))) else N d h)
section
variable{X:Cx}{elt iter tg:Expr}{ifs:List Expr}{scope:Scope}{pos:Pos}{N':List Str}{m:List (Option Nat)}{wi:TI}{g:rR TG}{tc:rR TT}{te:rR TE}
theorem Q5{T:List (Addr×Obj)}{A:St}{H:Hp}{s:Shared}{fp:List Addr}{C:Heap}{tk:Nat}(w:eS X N' m scope)(I:Inv X T A H s)(f:∀b∈fp,lp X T H b)(R:∀b∈fp,b<s.heap.objs.size)
  (J:C=pushCells (s.heap.push { cls:=.type "dict",data:=.dict #[] }) scope.names) :
  Inv (jM X N' scope s H fp) [] (sO m A) H { s with heap:=C,toks:=tk }:=by
 have D:∀b o,s.heap.get? b=some o->C.get? b=some o:=λb o e=>by rw[J];show pushCells_keeps _ _ b o (aj _ e)
 have W:C.Ns s.heap.objs.size (λ_=>none):=by rw[J];show(Heap.Ns.new s.heap (.type "dict")).keeps (pushCells_keeps _ _)
 have ok:=cellsFrom_ok scope.names (s.heap.push { cls:=.type "dict",data:=.dict #[] }) (s.heap.objs.size+1) [] ⟨λ_ _ hm=>(nomatch hm),List.Pairwise.nil⟩ (by rw[cO];show ay _);rw[cO,<-J] at ok;have fS:∀y∈scope.names,y.2=.free->∃c,X.env.cells.lookup y.1=some c:=λy Z hf=>I.ok.has y.1 (w.free y Z hf)
 have app:cellsFrom (s.heap.objs.size+1) scope.names (nN X.env.cells scope.names [])=cellsFrom (s.heap.objs.size+1) scope.names []++nN X.env.cells scope.names []:=FU _ _ [] _
 /- a cell: of its own,or one from around -/
 have t:∀x c,(cellsFrom (s.heap.objs.size+1) scope.names (nN X.env.cells scope.names [])).lookup x=some c->((x,c)∈cellsFrom (s.heap.objs.size+1) scope.names []/\scope.names.lookup x=some .cell)\/(X.env.cells.lookup x=some c/\scope.names.lookup x=some .free):=λx c e=>by
  have hm:=cJ e;rw[app] at hm;rcases au.mp hm with hm | hm
  .refine .inl ⟨hm,?_⟩;rcases FT hm with z | z
   .cases z
   show w.uniq _ z
  rcases J3 hm with z | ⟨z,S⟩
  .cases z
  obtain⟨L,q⟩:=fS _ z rfl;rw[q] at S;show .inr ⟨by rw[q,S];rfl,w.uniq _ z⟩
 have old:∀x c,X.env.cells.lookup x=some c->c<s.heap.objs.size:=λx c e=>by obtain⟨v,z⟩:=I.cell x c e;show z.lt
 show⟨⟨I.ok.mod,w.kind,I.ok.glob,I.ok.blt,ay _,λx y c e1 e2=>?inj,λx hx=>?_,λx c hx e=>?cab,I.ok.hd,I.ok.frames,.inl rfl,λb r=>⟨aJ (R b r),λx c e=>?exf⟩,
  λb o e=>I.bs b o e,aM I.ok.vG I.sz,λb o e r=>?_,λb r z=>?_,I.stack,I.p8⟩,
  rfl,I.bare,Un.kept D,⟨_,W,λi x v h1 d h3=>?_⟩,λx c e=>?_,I.eT.fresh (ay _),λx c e=>?frc,λp hp=>(by cases hp),I.eT.kept D,?_⟩
 case inj=>
  rcases t x c e1 with⟨g,_⟩ | ⟨l,_⟩<;>rcases t y c e2 with⟨Q,_⟩ | ⟨P,_⟩
  .exact PySem.name_of_addr ok.apart g Q
  .exact absurd (old y c P) (Nat.not_lt.mpr (aM (bU _) (ok.empty x c g).2))
  .exact absurd (old x c l) (Nat.not_lt.mpr (aM (bU _) (ok.empty y c Q).2))
  show I.ok.inj x y c l P
 case cab=>
  rcases t x c e with⟨g,_⟩ | ⟨_,z⟩
  .exact aM (bU _) (ok.empty x c g).2
  have h:(scope.names.lookup x==some .cell)=true:=hx;rw[z] at h;cases h
 case exf=>
  rcases t x c e with⟨g,_⟩ | ⟨l,_⟩
  .exact Nat.ne_of_gt (aW (b8 (R b r)) (ok.empty x c g).2)
  show(f b r).2.2.2.2.1 x c l
 case frc=>
  rcases t x c e with⟨g,_⟩ | ⟨l,_⟩
  .exact I.eT.fresh (aM (bU _) (ok.empty x c g).2)
  show I.jh x c l
 .have h:(relabel scope X.env).names.lookup x=some .cell\/(relabel scope X.env).names.lookup x=some .free:=hx;have e:(relabel scope X.env).names.lookup x=(scope.names.lookup x).map λk=>if (k==NameKind.free&&X.env.scope.kind==.function&&X.env.kindOf x==some .cell) then NameKind.cell else k:=FP
  rw[e] at h;have hf:(x,NameKind.free)∈scope.names\/(x,NameKind.cell)∈scope.names:=by
   cases q:scope.names.lookup x with
   | none=>rw[q] at h;simp at h
   | some k=>
    rw[q] at h;have hm:=cJ q;by_cases E:k=.free
    .subst E;show .inl hm
    have U:(k==NameKind.free)=false:=by simpa using E
    simp only[U,cV,Bool.false_and,aq,aR,aB] at h;rcases h with z | z
    .subst z;show .inr hm
    show absurd z E
  show ∃c,(cellsFrom (s.heap.objs.size+1) scope.names (nN X.env.cells scope.names [])).lookup x=some c
  rcases hf with hf | hf
  .obtain⟨c,K⟩:=EF (cells:=X.env.cells) (acc:=[]) hf;show CO (zZ K)
  obtain⟨c,K⟩:=FR (n:=s.heap.objs.size+1) (acc:=nN X.env.cells scope.names []) hf;show CO K
 .rcases(f b r).2.2.2.1 with z | z
  .exact I.ok.sL b o e z
  show absurd (aW (aF (I.ok.bs b o e).1) z) (cN _)
 .rcases av.mp (I.pA b z) with q | q
  .exact(f b r).2.1 q
  show(f b r).2.2.1 q
 .unfold sO at d;rw[aI] at d;cases q:m[i]? with
  | none=>rw[q] at d;cases d
  | some o=>
   rw[q] at d;cases o with
   | none=>cases d
   | some j=>
    simp only[cV,aB] at d;have MR:A[j]?=some (some v):=by
     cases z:A[j]? with
     | none=>rw[z] at d;cases d
     | some a=>rw[z] at d;simp at d;rw[d]
    obtain⟨hN,G⟩:=w.Yr i j x q h1;have M:=cJ G;obtain⟨m0,YQ,hl⟩:=I.loc;have O:=w.free _ M rfl;have GC:oR X.env.scope x:=O.elim (λz=>.inr (.inl z)) (λz=>.inr (.inr z));obtain⟨u,V,Y⟩:=hl j x v hN MR GC;show⟨u,V,.inr ⟨?_,?_⟩⟩
    .show(relabel scope X.env).names.lookup x=some .cell\/(relabel scope X.env).names.lookup x=some .free;have e:(relabel scope X.env).names.lookup x=(scope.names.lookup x).map λk=>if (k==NameKind.free&&X.env.scope.kind==.function&&X.env.kindOf x==some .cell) then NameKind.cell else k:=FP
     rw[e,G];simp only[cV];split
     .exact .inl rfl
     show .inr rfl
    rcases Y with⟨k,_⟩ | ⟨_,c,e,z⟩
    .rcases O with z | z<;>· rw[k] at z;cases z
    obtain⟨L,N⟩:=CO (zZ (names:=scope.names) (n:=s.heap.objs.size+1) (EF (cells:=X.env.cells) (acc:=[]) M).choose_spec);have:X.env.cells.lookup x=some L:=by
     rcases t x L N with⟨_,z⟩ | ⟨z,_⟩
     .rw[G] at z;cases z
     show z
    rw[e] at this;cases this;obtain⟨B,F,hd⟩:=z;show⟨c,N,B,D c B F,hd⟩
 .rcases t x c e with⟨g,_⟩ | ⟨l,_⟩
  .exact⟨none,(ok.empty x c g).1⟩
  obtain⟨v,B,F,hd⟩:=I.cell x c l;show⟨v,B,D c B F,hd⟩
 show(sO m A).length=N'.length;unfold sO;rw[ae,w.len]
theorem KY{use:Option (Value->Sem Unit)}{V:Value->Shared->Prop}{l:List (Addr×Obj)}{s:Shared}{z:St}{H:Hp}{Q:VK}
  (hc:X.calm=true) (cs:eS X N' m scope) (hi:PI X tg iter wi) (hg:∀s3 q ex,PG (jM X N' scope s3 q ex) tg (g s3 q ex)) (ht:∀s3 q ex,yI (jM X N' scope s3 q ex) ifs (tc s3 q ex))
  (he:∀s3 q ex,PE (jM X N' scope s3 q ex) elt (te s3 q ex)) (I:Inv X l z H s) (h:yV wi m g tc te z H Q)
  (fin:∀D C E f,Inv X l z f E->lp X l f C->(∃m,E.heap.Ns C m)->Q (.ref D) f->compPost (model X.prog X.w) X.A X.xe use V (.ref D) C (.ok .next) E) :
  wpAny (model X.prog X.w) X.A (eval iter X.env) (λx eK=>wpAny (model X.prog X.w) X.A (pyIter x) (λit mJ=>wpAny (model X.prog X.w) X.A (newList []) (λacc su=>
   wpAny (model X.prog X.w) X.A (newFunctionEnv scope X.env.globals (nN X.env.cells scope.names []) [] X.env.qual none .none (some X.env)) (λBo uv=>
    codeAny (model X.prog X.w) X.A (.compStart (.ListComp elt [⟨tg,iter,ifs,0⟩] scope pos) 0 it acc { Bo with scope:=relabel scope X.env }) (compPost (model X.prog X.w) X.A X.xe use V acc Bo.locals) uv) X.xe su) X.xe mJ) X.xe eK) X.xe s:=by
 show eY (hi l s z H _ I h) λv s1 h1=>eY h1 λGw s2 h2=>?_
 obtain⟨it,fp,R,J,k,e,I2,T,ez,f2,h⟩:=h2;subst e;show cy (Q6 λS vC=>?_);have hf:k s2.heap.objs.size=none:=I2.eT.fresh (ay _);obtain⟨W,⟨k0,w0⟩,turn⟩:=h s2.heap.objs.size hf { s2 with heap:=s2.heap.push { cls:=.type "list",data:=.seq ([]:List Value).toArray } } fp;have I3:Inv X l z (upd k s2.heap.objs.size (.lst [])) { s2 with heap:=s2.heap.push { cls:=.type "list",data:=.seq ([]:List Value).toArray } }:=I2.AI (its:=[]) (t':=s2.toks) .nil (by simp);have MV:∀b∈fp,b<s2.heap.objs.size:=λb a=>by
  obtain⟨o,e,_⟩:=T.obj _ _ ez b a;show aF e
 have f3:∀b∈fp,lp X l (upd k s2.heap.objs.size (.lst [])) b:=λb a=>⟨by rw[fI (aJ (MV b a))];show(f2 b a).1,(f2 b a).2⟩
 generalize Mp:({ s2 with heap:=s2.heap.push { cls:=.type "list",data:=.seq ([]:List Value).toArray } }:Shared)=s3 at *;have hC:s3.heap.objs.size=s2.heap.objs.size+1:=by rw[<-Mp];show cO ..
 have MW:∀b∈fp,b<s3.heap.objs.size:=λb a=>by rw[hC];show b8 (MV b a)
 have k3:∀b o,s2.heap.get? b=some o->s3.heap.get? b=some o:=λb o e=>by rw[<-Mp];show aj _ e
 have k1:∀b o,s3.heap.get? b=some o->S.get? b=some o:=λb o e=>by rw[vC];show pushCells_keeps _ _ b o (aj _ e)
 have Y:=Q5 (tk:=s3.toks) cs I3 f3 MW vC;have uw:R 0 S:=T.keep _ _ _ ez λb _ o e=>k1 b o (k3 b o e)
 have Ht:∀{f:Hp},(∀b∈fp,f b=none)->∀b∈fp,lp (jM X N' scope s3 (upd k s2.heap.objs.size (.lst [])) fp) [] f b:=λhn b a=>
  ⟨hn b a,aJ (MW b a),Y.ok.tx b a,.inl a,(Y.ok.exf b a).2,λp hp=>by cases hp⟩
 have uK:∀b∈fp,(upd k s2.heap.objs.size (.lst [])) b=none:=λb a=>(f3 b a).1
 have loop:codeAny (model X.prog X.w) X.A (.compLoop (.ListComp elt [⟨tg,iter,ifs,0⟩] scope pos) 0 (.ref it) (.ref s2.heap.objs.size) (compEnvC scope (cellsFrom (s3.heap.objs.size+1) scope.names (nN X.env.cells scope.names [])) s3.heap.objs.size X.env))
   (compPost (model X.prog X.w) X.A X.xe use V (.ref s2.heap.objs.size) s3.heap.objs.size) { s3 with heap:=S }:=by
  show Up (λn E=>∃i K f,Inv (jM X N' scope s3 (upd k s2.heap.objs.size (.lst [])) fp) [] K f E/\R i E.heap/\(∀b∈fp,f b=none)/\W i n K f) ?_ k0 ⟨0,_,_,Y,uw,uK,w0⟩;rintro n s4 ⟨i,O,M,I4,LR,yE,w4⟩;rcases turn i n O M w4 with⟨stop,qn⟩ | ⟨go,N,hN,step⟩
  .refine eY (T.done (jM X N' scope s3 (upd k s2.heap.objs.size (.lst [])) fp) rfl rfl rfl hc i [] s4 O M _ I4 (Ht yE) LR stop) λr s5 j=>?_
   obtain⟨U,F⟩:=j;subst U;have rJ:∀b∈fp,(b∈X.ex\/X.gQ.heap.objs.size<=b)/\b≠X.env.locals/\(∀x c,X.env.cells.lookup x=some c->c≠b)/\∀p∈X.pn++l,p.1≠b:=λb a=>⟨(f2 b a).2.2.2.1,(f2 b a).2.1,(f2 b a).2.2.2.2.1,(f2 b a).2.2.2.2.2⟩
   have Z:Inv X l z M s5:=I3.Bp (ch:=fp) F.os F.base F.eT F.bare rJ;obtain⟨m5,XN,_⟩:=id F.loc;show fin _ _ s5 M Z (I3.oN (ay _) F.free) ⟨m5,XN⟩ qn
  show eY (T.item (jM X N' scope s3 (upd k s2.heap.objs.size (.lst [])) fp) rfl rfl rfl hc i [] s4 O M _ I4 (Ht yE) LR go) λr s5 j=>?_
  obtain⟨u,U,h5⟩:=j;subst U;show eY h5 λ_ s6 j=>?_
  obtain⟨x,H6,Z,r6,y6,F0,Ym⟩:=j;have Yx:=Z.pinned (Ht Ym) (T.obj _ _ F0);show eY (hg _ _ _ _ s6 O H6 x u _ Yx r6 (step x H6 y6)) λ_ s7 j=>?_
  obtain⟨P,H7,I7,q7⟩:=j;show eY (ht _ _ _ _ s7 P H7 _ I7 q7) λb s8 j=>?_
  obtain⟨H8,I8,q8⟩:=j;have again:∀{B:Shared}{G:St}{t:Hp},Inv (jM X N' scope s3 (upd k s2.heap.objs.size (.lst [])) fp) ([]++y7 fp s6.heap) G t B->N G t->∃m,m<n/\∃i K f,Inv (jM X N' scope s3 (upd k s2.heap.objs.size (.lst [])) fp) [] K f B/\R i B.heap/\(∀b∈fp,f b=none)/\W i m K f:=λ{B G t} L n9=>by
   obtain⟨m',hm,w9⟩:=hN G t n9;show⟨m',hm,i+1,G,t,L.jW,T.keep _ _ _ F0 λb a o e=>(L.pin (b,o) (aQ _ (aQ _ (CN a e)))).1,λb a=>?_,w9⟩;obtain⟨o,e,d⟩:=T.obj _ _ F0 b a;show(L.pin (b,o) (aQ _ (aQ _ (CN a e)))).2.1
  cases b with
  | false=>show again I8 q8
  | true=>
   rw[if_pos rfl];show eY (he _ _ _ _ s8 P H8 _ I8 q8) λy B j=>?_
   obtain⟨v9,t,L,r9,xs,hD,hz,q9⟩:=j;show eY (EU _ B P t (.ref s2.heap.objs.size) [v9] (.ref s2.heap.objs.size) [y] (λ_ f=>N P f) L rfl (.cons r9 .nil) ⟨_,xs,v9,rfl,rfl,hD,hz,q9⟩) λ_ YI j=>?_
   obtain⟨_,Y7,Yz,_,WT⟩:=j;show again Yz WT
 show codeAny_compStart_list loop (T.self _ 0 _ _ _ uw loop)
theorem Jw(v:X.calm=true)(f:eS X N' m scope)(hi:PI X tg iter wi)(u:∀s3 a ex,PG (jM X N' scope s3 a ex) tg (g s3 a ex))(n:∀s3 a ex,yI (jM X N' scope s3 a ex) ifs (tc s3 a ex))
  (he:∀s3 a ex,PE (jM X N' scope s3 a ex) elt (te s3 a ex)) (p:∀x,foldedSetIterable iter X.env x=pure x:=by intro _;rfl):PE X (.ListComp elt [⟨tg,iter,ifs,0⟩] scope pos) (yV wi m g tc te):=by
 intro E s σ H Q I h;rw[eval_ListComp];have z:∀y∈scope.names,y.2=.free->∃c,X.env.cells.lookup y.1=some c:=λy i hf=>I.ok.has y.1 (f.free y i hf)
 show wpAny_comprehension_free (use:=none) rfl p (Ln z) f.kind (λy i t=>by rw[f.uniq y i,t]) (KY v f hi u n he I h λD C k B A d ⟨l,r⟩ q=>?_);show⟨l,r,λh' j=>⟨.ref D,B,A.turned (t':=k.toks) (λb o w e=>(j.2 b w).trans e) d.1 d.2.1 d.2.2.2.1 d.2.2.2.2.1 d.2.2.2.2.2,rfl,q⟩⟩
theorem Ef{i:Nat}{x:Str}{d r:Pos}(O:X.N.Nodup)(t:X.N[i]?=some x)(hx:Loc X.env.scope x)
  (L:X.calm=true) (k:eS X N' m scope) (hi:PI X tg iter wi) (K:∀s3 f ex,PG (jM X N' scope s3 f ex) tg (g s3 f ex)) (B:∀s3 f ex,yI (jM X N' scope s3 f ex) ifs (tc s3 f ex))
  (he:∀s3 f ex,PE (jM X N' scope s3 f ex) elt (te s3 f ex)) (E:∀x,foldedSetIterable iter X.env x=pure x:=by intro _;rfl)
  (u:swapsWith (.ListComp elt [⟨tg,iter,ifs,0⟩] scope pos) (some (.Name x d)) r.line X.env=pure true:=by rfl)
  (p:X.fn x=true\/X.env.scope.names.lookup x=some .local:=by first | show .inl rfl | show .inr rfl | assumption) :
  PS X (.Assign [.Name x d] (.ListComp elt [⟨tg,iter,ifs,0⟩] scope pos) r) (DC (yV wi m g tc te) (DS i)):=by
 intro U s σ H D I h;have P:∀y∈scope.names,y.2=.free->∃c,X.env.cells.lookup y.1=some c:=λy n p=>I.ok.has y.1 (k.free y n p)
 rw[exec_Assign_Name_used _ _ _ _ u];show aa (wpAny_standAt (aa ?_));show wpAny _ _ (do let _ <-comprehension (.ListComp elt [⟨tg,iter,ifs,0⟩] scope pos) scope X.env _ (newList []) false (eval iter X.env) (some (assign (.Name x d) X.env))) _ _ s;show aa (wpAny_mono (wpAny_comprehension_free (use:=some (assign (.Name x d) X.env)) (Q:=λ_ l=>SP X U D .next l) rfl E (Ln P) k.kind (λy n J=>by rw[k.uniq y n,J]) (KY L k hi K B he I h λA C l Y W j ⟨w,G⟩ q=>?_)) (λ_ l F=>ao (ao F)) λ_ _ e=>e);show wpAny _ _ (assign (.Name x d) X.env (.ref A)) _ _ _;show wpAny_assign_Name (KI W O t hx (show RelV (.ref A) (.ref A) from rfl) (λs2 V S=>?_) p);obtain⟨a,T,ha⟩:=S;have R:C≠a:=by
  rcases ha with rfl | ha
  .exact j.2.1
  show λz=>j.2.2.2.2.1 x a ha z.symm
 show⟨w,G.sameBut T R,λh' v=>⟨_,Y,V.turned (t':=s2.toks) (λb o M e=>(v.2 b M).trans e) j.1 j.2.1 j.2.2.2.1 j.2.2.2.2.1 j.2.2.2.2.2,q⟩⟩
end
theorem D2:2<=sizeLine:=by decide
theorem Inv.jX{X:Cx}{g:List (Addr×Obj)}{h:St}{H:Hp}{s:Shared}{h':Heap}{t':Nat}{fp:List Addr}(I:Inv X g h H s)(k:∀b o,b∉fp->s.heap.get? b=some o->h'.get? b=some o)(f:∀b∈fp,lp X g H b) :
  Inv X g h H { s with heap:=h',toks:=t' }:=by
 have i:∀b u,H b=some u->b∉fp:=λb u e z=>by rw[(f b z).1] at e;cases e
 show I.step (g':=s.gens) (d':=s.drawn) (ch:=fp) (λb d=>⟨(f b d).2.2.2.1,(f b d).2.1,(f b d).2.2.2.2.1,(f b d).2.2.2.2.2⟩) (λb o _ _ a e _=>k b o a e) (λb o _ _ a e _=>⟨o.slots,k b o a e⟩) (λ_ _ _ _ n=>n)
  (λb o a e=>⟨o,k b o a e⟩) (λ_ _ e=>e) (λ_ _ _ e=>e) (λb ps e=>⟨#[],by rw[e];simp⟩) (λm hm=>?_) (λb u e=>?_) I.bare
 .obtain⟨o,es,ep,j,r⟩:=hm;show⟨o,es,ep,k _ o (λz=>(f _ z).2.1 rfl) j,r⟩
 show(I.eT b u e).pB (λc v a q=>k c v ?_ q) (λ_ q=>q) λ_ _ q=>q
 rcases a with z | z
 .rw[z];show i b u e
 show i c _ z
theorem Inv.kD{X:Cx}{i:List (Addr×Obj)}{j:St}{H:Hp}{s:Shared}{h':Heap}{t':Nat}{fp:List Addr}{a:Addr}{o:HO}(I:Inv X i j H s)(k:∀b o,b∉fp->s.heap.get? b=some o->h'.get? b=some o)(f:∀b∈fp,lp X i H b)
  (p:s.heap.objs.size<=a) (new:eU X.prog X.w (upd H a o) h' a o):Inv X i j (upd H a o) { s with heap:=h',toks:=t' }:=by
 have h:H a=none:=I.eT.fresh p;have l:∀b u,H b=some u->b∉fp:=λb u e z=>by rw[(f b z).1] at e;cases e
 show I.step (g':=s.gens) (d':=s.drawn) (ch:=fp) (λb g=>⟨(f b g).2.2.2.1,(f b g).2.1,(f b g).2.2.2.2.1,(f b g).2.2.2.2.2⟩) (λb o _ _ d e _=>k b o d e) (λb o _ _ d e _=>⟨o.slots,k b o d e⟩)
  (λb o _ q n=>by rw[fI (aJ (aW (aF q) p))];show n)
  (λb o d e=>⟨o,k b o d e⟩) (λb zs q=>by rw[fI (lI q h)];show q) (λb ob zs q=>by rw[fI (lI q h)];show q) (λb ps q=>⟨#[],by rw[fI (lI q h),q];simp⟩) (λm hm=>?_) (λb u q=>?_) I.bare
 .obtain⟨o,es,ep,t,r⟩:=hm;show⟨o,es,ep,k _ o (λz=>(f _ z).2.1 rfl) t,r⟩
 by_cases g:b=a
 .subst g;rw[i7] at q;cases q;show new
 rw[fI g] at q;show(I.eT b u q).pB (λc v d z=>k c v ?_ z) (λc z=>by rw[fI (lI z h)];show z) λc zs z=>by rw[fI (lI z h)];show z
 rcases d with rfl | d
 .exact l _ _ q
 show l _ _ d
noncomputable def Ds(x:Str):It:=⟨λi _=>i<x.cps.size,λi H v a=>a=H/\∃c,x.cps[i]?=some c/\v=.str ⟨#[c]⟩,λi _=>i=x.cps.size⟩
theorem Q4{P:Program}{w:World}{K:J'}{C:Expr}{x:Str}{a:Addr}{n:String}{t:Tok}(G:["enumerate","zip","dict_itemiterator","dict_reverseitemiterator","odict_iterator","itertools.zip_longest","itertools.pairwise"].contains n=false)
  (W:∀B:Around,B.handled=none->Walks P w B a [a] [a] x.cps.size (SignAt x) (λi h=>h.IsStrIter a n x t i))
  (F:∀(A:Around)(i:Nat)(s:Shared)(Q:Value->Shared->Prop)(E:Value->Shared->Prop),s.heap.IsStrIter a n x t i->Q (.ref a) s->wpAny (model P w) A (pyIter (.ref a)) Q E s):Turn P w K C (Ds x) [a] a (λi h=>h.IsStrIter a n x t i) where
 mem:=by simp
 obj:=λi h st b l=>by
  have e:b=a:=by simpa using l
  subst e;obtain⟨o,e,c,d⟩:=st;show⟨o,e,λv z=>by rw[d] at z;cases z⟩
 keep:=λi h h' st k=>by
  obtain⟨o,e,r⟩:=st;show⟨o,k a (by simp) o e,r⟩
 item:=by
  intro X m hw p j i y s σ H E I hf st g;subst m hw p;show(W X.A (I.ok.hd j)).item i s _ _ g st λv h' tk D q f=>?_
  obtain⟨c,u,hx,rfl⟩:=D;have L:Inv X y σ H { s with heap:=h',toks:=tk }:=I.jX f hf;obtain⟨o,e,J,d⟩:=id q;show⟨_,rfl,BK (s:={ s with heap:=h',toks:=tk }) e J d G ⟨.str ⟨#[c]⟩,H,L,⟨u,rfl⟩,⟨rfl,c,hx,rfl⟩,q,λb l=>(hf b l).1⟩⟩
 done:=by
  intro X m hw p j i y s σ H E I hf st g;subst m hw p;have e:i=x.cps.size:=g;subst e;show(W X.A (I.ok.hd j)).done s _ _ st λh' tk f=>⟨rfl,I.jX f hf⟩
 self:=F
section
variable{X:Cx}{tg:Expr}
theorem O1{g:List (Addr×Obj)}{c:St}{H:Hp}{s:Shared}{R:It->Hp->Prop}{E:Value->Shared->Prop}{x:Str}{t:Tok}(I:Inv X g c H s)(q:R (Ds x) H) :
  wpAny (model X.prog X.w) X.A (pyIter (.str x t)) (Dr X g c tg R) E s:=by
 have fin:∀(o:Obj)(n:String),(k:["enumerate","zip","dict_itemiterator","dict_reverseitemiterator","odict_iterator","itertools.zip_longest","itertools.pairwise"].contains n=false)->
   (W:∀a:Around,a.handled=none->Walks X.prog X.w a s.heap.objs.size [s.heap.objs.size] [s.heap.objs.size] x.cps.size (SignAt x) (λi h=>h.IsStrIter s.heap.objs.size n x t i))->
   (j:∀(A:Around)(i:Nat)(d:Shared)(Q:Value->Shared->Prop)(E:Value->Shared->Prop),d.heap.IsStrIter s.heap.objs.size n x t i->Q (.ref s.heap.objs.size) d->wpAny (model X.prog X.w) A (pyIter (.ref s.heap.objs.size)) Q E d)->
   (s.heap.push o).IsStrIter s.heap.objs.size n x t 0->Dr X g c tg R (.ref s.heap.objs.size) { s with heap:=s.heap.push o }:=λo n k W j st=>by
  show⟨s.heap.objs.size,[s.heap.objs.size],_,_,H,rfl,I.kept (t':=s.toks) λb o e=>aj _ e,Q4 k W j,st,λb l=>?_,q⟩;have e:b=s.heap.objs.size:=by simpa using l
  subst e;show I.oN (ay _) (I.eT.fresh (ay _))
 cases ha:x.cps.all (·<128)
 .exact wpAny_pyIter_wide ha (fin _ _ (by decide) (λa f=>Walks.strWide f _ x t) (λ_ _ _ _ _ st q=>wpAny_pyIter_striter_wide st q) ⟨_,az _ rfl,rfl,rfl⟩)
 show wpAny_pyIter_ascii ha (fin _ _ (by decide) (λa f=>Walks.strAscii f _ x t) (λ_ _ _ _ _ st q=>wpAny_pyIter_striter_ascii st q) ⟨_,az _ rfl,rfl,rfl⟩)
def NQ(K:J')(tl:TE):TI:=λσ H R=>tl σ H λx H1=>(∃a,x=.ref a/\(∃xs,gA K H1 a xs)/\R (HG K a) H1)\/(∃a,x=.ref a/\(∃xs,iz K H1 a xs)/\R (HF K a) H1)\/(∃z,x=.str z/\R (Ds z) H1)
theorem O0{l:Expr}{tl:TE}(k:PE X l tl):PI X tg l (NQ X.K tl):=by
 intro n s σ H R I h;show eY (k n s σ H _ I h) λv s1 m=>?_
 obtain⟨x,H1,c,d,j⟩:=m;rcases j with⟨a,e,⟨xs,f⟩,q⟩ | ⟨a,e,⟨xs,f⟩,q⟩ | ⟨z,e,q⟩
 .subst e;cases d;obtain⟨its,i,p,hz⟩:=c.list f;show wpAny_pyIter_list p.isList ?_;show⟨s1.heap.objs.size,[s1.heap.objs.size],_,_,H1,rfl,c.kept (t':=s1.toks) λb o e=>aj _ e,TL a _,⟨_,az _ rfl,rfl,rfl⟩,λb g=>?_,q⟩;have e:b=s1.heap.objs.size:=by simpa using g
  subst e;show c.oN (ay _) (c.eT.fresh (ay _))
 .subst e;cases d;obtain⟨its,i,p,hz⟩:=c.tuple f;show wpAny_pyIter_tuple (show s1.heap.IsTuple a its.toArray from p) ?_;show⟨s1.heap.objs.size,[s1.heap.objs.size],_,_,H1,rfl,c.kept (t':=s1.toks) λb o e=>aj _ e,T4 a _,⟨_,az _ rfl,rfl,rfl⟩,λb g=>?_,q⟩;have e:b=s1.heap.objs.size:=by simpa using g
  subst e;show c.oN (ay _) (c.eT.fresh (ay _))
 subst e;obtain⟨t,rfl⟩:=d;show O1 c q
end
noncomputable def HI(K:J')(a:Addr):It:=
 ⟨λi H=>∃xs x,gA K H a xs/\xs[i]?=some x,λi H v b=>∃t,v=.ref t/\H t=none/\∀xs,gA K H a xs->∃x,xs[i]?=some x/\b=upd H t (.tup [.int i,x]),λi H=>∃xs,gA K H a xs/\xs.length<=i⟩
noncomputable def HE(K:J')(a b:Addr):It:=
 ⟨λi H=>∃xs ys x y,gA K H a xs/\gA K H b ys/\xs[i]?=some x/\ys[i]?=some y,λi H v c=>∃t,v=.ref t/\H t=none/\∀xs ys,gA K H a xs->gA K H b ys->∃x y,xs[i]?=some x/\ys[i]?=some y/\c=upd H t (.tup [x,y]),
  λi H=>∃xs ys,gA K H a xs/\gA K H b ys/\(xs.length<=i\/ys.length<=i)⟩
theorem D0{H:Hp}{t:Addr}{o:HO}{fp:List Addr}(h:∀b∈fp,H b=none)(c:∀b∈fp,b≠t):∀b∈fp,upd H t o b=none:=λb a=>by rw[fI (c b a)];show h b a
theorem Td{prog:Program}{w:World}{A:Around}{E:Value->Shared->Prop}{s:Shared}{a:List Expr}{d}{pos:Pos}{e b T:Addr}{i:Int}{old:Value}{Q:Unit->Shared->Prop}(he:IsEnumOut s.heap e b i old T)
  (f:∀h',IsEnum h' e b i old->Heap.SameBut e s.heap h'->Q () { s with heap:=h' }) :
  wpAny (model prog w) A (letOwnedTupleGo (.Tuple a d pos) (.ref e) (.ref T)) Q E s:=by
 unfold letOwnedTupleGo;show aa (wpAny_load he ?_);show wpAny _ _ (if (["enumerate","zip","dict_itemiterator","dict_reverseitemiterator","odict_iterator","itertools.zip_longest","itertools.pairwise"].contains "enumerate" &&
   (#[rawInt T,.bool false,.ref b,rawInt i,.none,old]:Array Value)[0]?==some (rawInt T))=true then _ else _) Q E s
 rw[if_pos (by simp)];show aa (wpAny_rule ?_);show wpAny _ _ (setField (.ref e) 0 .none) Q E s;show wpAny_setField_rec he (by simp) λh' g c=>f h' g c
theorem Si{P:Program}{w:World}{K:J'}{m:List Expr}{L}{pos:Pos}(a e g:Addr)(F:e≠g):Turn P w K (.Tuple m L pos) (HI K a) [e,g] e (λi h=>(∃old,IsEnum h e g i old)/\h.IsListIter g a i) where
 mem:=by simp
 obj:=λi h st b f=>by
  obtain⟨⟨old,j⟩,o,l,c,d⟩:=st;rcases av.mp f with rfl | f
  .exact⟨_,j,λv z=>by have J:Data.fields _=Data.cell v:=z;cases J⟩
  have e:b=g:=by simpa using f
  subst e;show⟨o,l,λv z=>by rw[d] at z;cases z⟩
 keep:=λi h h' st k=>by
  obtain⟨⟨old,j⟩,l⟩:=st;show⟨⟨old,k e (by simp) _ j⟩,l.at λo q=>k g (by simp) o q⟩
 item:=by
  intro X A hw B D i K' s σ H E I hf st y;subst A hw B;obtain⟨xs,x,n,hx⟩:=y;obtain⟨its,t,p,hz⟩:=I.list n;obtain⟨u,Q,M⟩:=t.get hx;obtain⟨⟨old,j⟩,l⟩:=st;show wpAny_pyNext_enum_item j l p.isList (x:=u) (by simpa using Q) F λh' Y W V e4 N=>?_
  show⟨_,rfl,Td Y λC U r=>?_⟩;have G:s.heap.objs.size≠e:=Nat.ne_of_gt (aF j);have Z:s.heap.objs.size≠g:=by obtain⟨o,q,_⟩:=l;show Nat.ne_of_gt (aF q)
  have R:C.get? s.heap.objs.size=some { cls:=.type "tuple",data:=.seq #[.int i s.toks,u] }:=r.extBut _ _ G V;have S:H s.heap.objs.size=none:=I.eT.fresh (ay _);have new:eU X.prog X.w (upd H s.heap.objs.size (.tup [.int i,x])) C s.heap.objs.size (.tup [.int i,x]):=⟨D2,[.int i s.toks,u],.cons ⟨_,rfl⟩ (.cons M .nil),⟨_,R,rfl,_,rfl⟩⟩
  show⟨.ref s.heap.objs.size,upd H s.heap.objs.size (.tup [.int i,x]),I.kD (fp:=[e,g]) (λb o f q=>r.extBut b o (λz=>f (by simp[z])) (N b o (λz=>f (by simp[z])) (λz=>f (by simp[z])) q)) hf (ay _) new,rfl,
   ⟨_,rfl,S,λys O=>⟨x,by rw[I.jf O n];show hx,rfl⟩⟩,⟨⟨u,U⟩,W.extBut r.extBut (Ne.symm F)⟩,D0 (λb f=>(hf b f).1) λb f=>?_⟩
  rcases av.mp f with rfl | f
  .exact G.symm
  have z:b=g:=by simpa using f
  rw[z];show Z.symm
 done:=by
  intro X A hw B D i K' s σ H E I hf st y;subst A hw B;obtain⟨xs,n,hx⟩:=y;obtain⟨its,t,p,hz⟩:=I.list n;obtain⟨⟨old,j⟩,l⟩:=st;have hl:=t.length;show wpAny_pyNext_enum_end (I.ok.hd D) j l p.isList (by simp;ext) λh' T=>⟨rfl,I.jX (fp:=[e,g]) (t':=s.toks) (λb o f q=>T b o (λz=>f (by simp[z])) q) hf⟩
 self:=λ_ _ _ _ _ st h=>by
  obtain⟨⟨old,j⟩,_⟩:=st;show wpAny_pyIter_enum j h
section
variable{X:Cx}{elts:List Expr}{x1:Nat}{ot:Pos}
def OB(K:J')(c:TA):TI:=λσ H R=>c σ H λb H1=>∃a xs,b=[.ref a]/\lX K H1 a xs/\R (HI K a) H1
theorem Pz{a:Expr}{f:TA}{p pos:Pos}(x:Gl X "enumerate")(v:X.mg "enumerate"=none)(ha:PA X [a] f)(t:starEach [a] X.env=[(false,eval a X.env)]:=by rfl):PI X (.Tuple elts x1 ot) (.Call (.Name "enumerate" p) [a] [] pos) (OB X.K f):=by
 intro C s σ H R I h;show Call_ (tP I x v boot_enumerate (cx (eY (ha pos C s σ H _ I h) λus s1 B=>?_) t rfl));obtain⟨D,H1,c,k,m⟩:=B;obtain⟨l,xs,e,w,q⟩:=m;subst e;obtain⟨u,rfl,j⟩:=lG k;cases j;obtain⟨z,its,n,r,e⟩:=c.hE w;show call_enumerate_1 e λh' i A E o=>?_
 show wpAny_pyIter_enum i ?_;have y:s1.heap.objs.size+1≠s1.heap.objs.size:=by ext
 show⟨s1.heap.objs.size+1,[s1.heap.objs.size+1,s1.heap.objs.size],_,_,H1,rfl,c.kept (t':=s1.toks) o,Si l _ _ y,⟨⟨_,i⟩,A⟩,λb d=>?_,q⟩;have g:s1.heap.objs.size<=b:=by
  rcases av.mp d with rfl | d
  .exact bU _
  have e:b=s1.heap.objs.size:=by simpa using d
  show Nat.le_of_eq e.symm
 show c.oN g (c.eT.fresh g)
theorem Q3{P:Program}{w:World}{K:J'}(a b z TI TO i1 j:Addr)(D1:TI≠z/\TO≠z/\i1≠z/\j≠z/\TI≠TO/\TI≠i1/\TI≠j/\TO≠i1/\TO≠j/\i1≠j):Turn P w K (.Tuple elts x1 ot) (HE K a b) [z,TI,TO,i1,j] z
  (λi h=>IsZip h z TI TO .none/\IsPair h TI (.ref i1) (.ref j)/\(∃a b,IsPair h TO a b)/\h.IsListIter i1 a i/\h.IsListIter j b i) where
 mem:=by simp
 obj:=λi h st c f=>by
  obtain⟨m,t,⟨u,v,r⟩,⟨o1,g1,_,C⟩,⟨o2,g2,_,G⟩⟩:=st;simp only[av,bg,cY] at f;rcases f with rfl | rfl | rfl | rfl | rfl
  .exact⟨_,m,λv z=>by have J:Data.fields _=Data.cell v:=z;cases J⟩
  .exact⟨_,t,λv z=>by have J:Data.seq _ _=Data.cell v:=z;cases J⟩
  .exact⟨_,r,λv z=>by have J:Data.seq _ _=Data.cell v:=z;cases J⟩
  .exact⟨_,g1,λv z=>by rw[C] at z;cases z⟩
  show⟨_,g2,λv z=>by rw[G] at z;cases z⟩
 keep:=λi h h' st k=>by
  obtain⟨m,t,⟨u,v,r⟩,B,A⟩:=st;show⟨k z (by simp) _ m,k TI (by simp) _ t,⟨u,v,k TO (by simp) _ r⟩,B.at λo q=>k i1 (by simp) o q,A.at λo q=>k j (by simp) o q⟩
 item:=by
  intro X hP hw hK f i K' s σ H E I hf st Z;subst hP hw hK;obtain⟨xs,ys,x,y,Q,N,hx,hy⟩:=Z;obtain⟨its,W,p,hz⟩:=I.list Q;obtain⟨mL,Y,L,GA⟩:=I.list N;obtain⟨u,hu,ru⟩:=W.get hx;obtain⟨v,hv,WL⟩:=Y.get hy;obtain⟨m,t,⟨c,d,r⟩,B,A⟩:=st;obtain⟨C,G,V,U,T,S,R,d8,d9,Hx⟩:=D1;have M:∀{l:Addr}{its:List Value},PlainL s.heap l its.toArray->l≠z/\l≠TO/\l≠i1/\l≠j:=λ{l its} pl=>by
   obtain⟨o,n,e,c1,_,dd⟩:=pl;obtain⟨o1,g1,c4,_⟩:=B;obtain⟨o2,g2,c5,_⟩:=A;show⟨?_,?_,?_,?_⟩
   .rintro rfl;rw[m] at e;cases e;simp at c1
   .rintro rfl;rw[r] at e;cases e;simp at c1
   .rintro rfl;rw[g1] at e;cases e;rw[c4] at c1;simp at c1
   rintro rfl;rw[g2] at e;cases e;rw[c5] at c1;simp at c1
  obtain⟨e1,e2,e3,e4⟩:=M p;obtain⟨f1,f2,f3,f4⟩:=M L;have D:ZipApart z TI TO i1 j a b:=⟨C,G,V,U,T,S,R,d8,d9,Hx,e1,e2,e3,e4,f1,f2,f3,f4⟩
  show wpAny_pyNext_zip_item D m t r B A p.isList L.isList (x:=u) (y:=v) (by simpa using hu) (by simpa using hv) λh' a1 a2 a3 a4 a5 a6 O=>?_
  show⟨_,rfl,wpAny_letOwnedTupleGo_zip a1 λuN b1 F=>?_⟩;have X8:s.heap.objs.size≠z:=Nat.ne_of_gt (aF m);have fS:H s.heap.objs.size=none:=I.eT.fresh (ay _);have hT:uN.get? s.heap.objs.size=some { cls:=.type "tuple",data:=.seq #[u,v] }:=F.extBut _ _ X8 a5;have new:eU X.prog X.w (upd H s.heap.objs.size (.tup [x,y])) uN s.heap.objs.size (.tup [x,y]):=⟨D2,[u,v],.cons ru (.cons WL .nil),⟨_,hT,rfl,_,rfl⟩⟩
  have lt:∀{c o},s.heap.get? c=some o->c≠s.heap.objs.size:=λe=>aJ (aF e)
  show⟨.ref s.heap.objs.size,upd H s.heap.objs.size (.tup [x,y]),I.kD (fp:=[z,TI,TO,i1,j]) (t':=s.toks) (λc o f q=>F.extBut c o (λe=>f (by simp[e])) (O c o (λe=>f (by simp[e])) (λe=>f (by simp[e])) (λe=>f (by simp[e])) (λe=>f (by simp[e])) q)) hf (ay _) new,rfl,
   ⟨_,rfl,fS,λzs ws h6 h7=>⟨x,y,by rw[I.jf h6 Q];show hx,by rw[I.jf h7 N];show hy,rfl⟩⟩,
   ⟨b1,F.extBut _ _ C (O _ _ C T S R t),⟨_,_,F.extBut _ _ G a2⟩,a3.extBut F.extBut V,a4.extBut F.extBut U⟩,D0 (λb hb=>(hf b hb).1) λc f=>?_⟩
  simp only[av,bg,cY] at f;rcases f with rfl | rfl | rfl | rfl | rfl
  .exact lt m
  .exact lt t
  .exact lt r
  .obtain⟨_,g,_⟩:=B;show lt g
  obtain⟨_,g,_⟩:=A;show lt g
 done:=by
  intro X hP hw hK f i K' s σ H E I hf st Z;subst hP hw hK;obtain⟨xs,ys,Q,N,hx⟩:=Z;obtain⟨its,W,p,hz⟩:=I.list Q;obtain⟨mL,Y,L,GA⟩:=I.list N;obtain⟨m,t,⟨c,d,r⟩,B,A⟩:=st;obtain⟨C,G,V,U,T,S,R,d8,d9,Hx⟩:=D1;have M:∀{l:Addr}{its:List Value},PlainL s.heap l its.toArray->l≠z/\l≠TO/\l≠i1/\l≠j:=λ{l its} pl=>by
   obtain⟨o,n,e,c1,_,dd⟩:=pl;obtain⟨o1,g1,c4,_⟩:=B;obtain⟨o2,g2,c5,_⟩:=A;show⟨?_,?_,?_,?_⟩
   .rintro rfl;rw[m] at e;cases e;simp at c1
   .rintro rfl;rw[r] at e;cases e;simp at c1
   .rintro rfl;rw[g1] at e;cases e;rw[c4] at c1;simp at c1
   rintro rfl;rw[g2] at e;cases e;rw[c5] at c1;simp at c1
  obtain⟨e1,e2,e3,e4⟩:=M p;obtain⟨f1,f2,f3,f4⟩:=M L;have D:ZipApart z TI TO i1 j a b:=⟨C,G,V,U,T,S,R,d8,d9,Hx,e1,e2,e3,e4,f1,f2,f3,f4⟩
  have l1:=W.length;have l2:=Y.length;have He:its.toArray[i]?=none\/mL.toArray[i]?=none:=by
   rcases hx with hx | hx
   .exact .inl (by simp;ext)
   show .inr (by simp;ext)
  show wpAny_pyNext_zip_end (I.ok.hd f) D m t r B A p.isList L.isList He λh' O=>⟨rfl,I.jX (fp:=[z,TI,TO,i1,j]) (t':=s.toks) (λc o f q=>O c o (λe=>f (by simp[e])) (λe=>f (by simp[e])) (λe=>f (by simp[e])) (λe=>f (by simp[e])) q) hf⟩
 self:=λ_ _ _ _ _ st h=>wpAny_pyIter_zip st.1 h
theorem Sh(n:Nat):(n+2:Nat)≠n+4/\(n+3:Nat)≠n+4/\n≠n+4/\(n+1:Nat)≠n+4/\(n+2:Nat)≠n+3/\(n+2:Nat)≠n/\(n+2:Nat)≠n+1/\(n+3:Nat)≠n/\(n+3:Nat)≠n+1/\n≠n+1:=by ext
def NP(K:J')(d:TA):TI:=λσ H R=>d σ H λc H1=>∃a b,c=[.ref a,.ref b]/\(∃xs,gA K H1 a xs)/\(∃ys,gA K H1 b ys)/\R (HE K a b) H1
theorem OZ{a b:Expr}{d:TA}{p pos:Pos}(B:Gl X "zip")(z:X.mg "zip"=none)(ha:PA X [a,b] d)(y:starEach [a,b] X.env=[(false,eval a X.env),(false,eval b X.env)]:=by rfl)(g:starEach [b] X.env=[(false,eval b X.env)]:=by rfl) :
  PI X (.Tuple elts x1 ot) (.Call (.Name "zip" p) [a,b] [] pos) (NP X.K d):=by
 intro J s σ H R I h;show Call_ (tP I B z boot_zip (cx (eY (ha pos J s σ H _ I h) λus s1 ⟨L,H1,c,n,o⟩=>?_) (by rw[y,g]) (by rw[g];rfl)));obtain⟨l,w,e,⟨xs,A⟩,⟨ys,G⟩,q⟩:=o;subst e;obtain⟨u,v,rfl,m,k⟩:=yZ n;cases m;cases k;obtain⟨its,_,t,_⟩:=c.list A;obtain⟨its',_,r,_⟩:=c.list G;show call_zip_2 t.isList r.isList λh' j F E D C M x=>?_
 show wpAny_pyIter_zip j ?_;show⟨s1.heap.objs.size+4,[s1.heap.objs.size+4,s1.heap.objs.size+2,s1.heap.objs.size+3,s1.heap.objs.size,s1.heap.objs.size+1],_,_,H1,rfl,c.kept (t':=s1.toks) x,Q3 l w _ _ _ _ _ (Sh _),
  ⟨j,F,⟨_,_,E⟩,D,C⟩,λb i=>?_,q⟩
 have f:s1.heap.objs.size<=b:=by
  simp only[av,bg,cY] at i;rcases i with rfl | rfl | rfl | rfl | rfl<;>first | show Nat.le_add_right _ _ | show ay _
 show c.oN f (c.eT.fresh f)
end
inductive D where
 | non | bl (b:Bool) | int (i:Int) | str (x:Str) | tup (ds:List D) | lst (ds:List D) | obj (cn:Str) (fs:List (Str×D)) | dic (di:List (Key×D)) | dit (di:List (List Key×D)) | exc (cn:Str)
structure ClsAt(K:J')(cn:Str)(C:Addr):Prop where
 at_:PySem.W.nsIn K mainGlobals cn=some (some (.ref C))
 cls:vK K C
def f6(H:Hp):List (List Key×V)->List Addr->Prop
 | [],[]=>True
 | p::ps,b::bs=>H b=some (.tup (p.1.map kV))/\f6 H ps bs
 | _,_=>False
theorem f6.mono{H a:Hp}(e:dU H a):∀{ps:List (List Key×V)}{bs:List Addr},f6 H ps bs->f6 a ps bs
 | [],[],h=>h
 | p::ps,b::bs,h=>⟨e _ _ h.1,f6.mono e h.2⟩
 | [],_::_,h=>h.elim
 | _::_,[],h=>h.elim
mutual
def Rep(K:J')(H:Hp):V->D->Prop
 | v,.non=>v=.non
 | v,.bl b=>v=.bl b
 | v,.int i=>v=.int i
 | v,.str x=>v=.str x
 | v,.tup ds=>∃a xs,v=.ref a/\H a=some (.tup xs)/\c9 K H xs ds
 | v,.lst ds=>∃a xs,v=.ref a/\lX K H a xs/\c9 K H xs ds
 | v,.obj e fs=>∃a C j g,v=.ref a/\H a=some (.ins C j g)/\ClsAt K e C/\(∀p∈fs,eO K C p.1)/\eZ K H g fs
 | v,.dic d=>∃a c ep,v=.ref a/\H a=some (.dK c ep)/\eu K H c d
 | v,.dit d=>∃a c bs,v=.ref a/\H a=some (.dT c bs)/\f6 H c bs.1/\eB K H c d
 | v,.exc e=>∃a f C,v=.ref a/\H a=some (.ext f)/\PySem.W.nsIn K mainGlobals e=some (some (.ref C))/\∀h:Heap,f h->∃o,h.get? a=some o/\o.cls=.ref C
def c9(K:J')(H:Hp):List V->List D->Prop
 | [],[]=>True
 | v::a,d::ds=>Rep K H v d/\c9 K H a ds
 | _,_=>False
def eZ(K:J')(H:Hp):List (Str×V)->List (Str×D)->Prop
 | [],[]=>True
 | v::a,d::ds=>(v.1=d.1/\Rep K H v.2 d.2)/\eZ K H a ds
 | _,_=>False
def eu(K:J')(H:Hp):List (Key×V)->List (Key×D)->Prop
 | [],[]=>True
 | v::a,d::ds=>(v.1=d.1/\Rep K H v.2 d.2)/\eu K H a ds
 | _,_=>False
def eB(K:J')(H:Hp):List (List Key×V)->List (List Key×D)->Prop
 | [],[]=>True
 | v::a,d::ds=>(v.1=d.1/\Rep K H v.2 d.2)/\eB K H a ds
 | _,_=>False
end
theorem dU.oz{K:J'}{H b:Hp}{a:Addr}{xs:List V}(e:dU H b)(h:H a=some (.tup xs)):iz K b a xs:=iz.of (e _ _ h)
theorem dU.sA{K:J'}{H b:Hp}{a:Addr}{xs:List V}(e:dU H b)(h:iz K H a xs):iz K b a xs:=by
 rcases h with(h | ⟨o,h⟩) | h
 .exact .inl (.inl (e _ _ h))
 .exact .inl (.inr ⟨o,e _ _ h⟩)
 show .inr h
mutual
theorem Rep.mono{K:J'}{H n:Hp}(e:dU H n):∀(v:V)(d:D),Rep K H v d->Rep K n v d
 | v,.non,h=>by simpa only[Rep] using h
 | v,.bl b,h=>by simpa only[Rep] using h
 | v,.int i,h=>by simpa only[Rep] using h
 | v,.str x,h=>by simpa only[Rep] using h
 | v,.tup ds,h=>by
  simp only[Rep] at h ⊢;obtain⟨a,xs,g,f,c⟩:=h;show⟨a,xs,g,e _ _ f,c9.mono e xs ds c⟩
 | v,.lst ds,h=>by
  simp only[Rep] at h ⊢;obtain⟨a,xs,g,f,c⟩:=h;show⟨a,xs,g,e.hE f,c9.mono e xs ds c⟩
 | v,.obj r fs,h=>by
  simp only[Rep] at h ⊢;obtain⟨a,C,q,m,g,f,c,k,p⟩:=h;show⟨a,C,q,m,g,e _ _ f,c,k,eZ.mono e m fs p⟩
 | v,.dic l,h=>by
  simp only[Rep] at h ⊢;obtain⟨a,j,ep,g,f,c⟩:=h;show⟨a,j,ep,g,e _ _ f,eu.mono e j l c⟩
 | v,.dit l,h=>by
  simp only[Rep] at h ⊢;obtain⟨a,j,bs,g,f,c,k⟩:=h;show⟨a,j,bs,g,e _ _ f,c.mono e,eB.mono e j l k⟩
 | v,.exc r,h=>by
  simp only[Rep] at h ⊢;obtain⟨a,o,C,g,f,c,k⟩:=h;show⟨a,o,C,g,e _ _ f,c,k⟩
theorem c9.mono{K:J'}{H b:Hp}(e:dU H b):∀(a:List V)(ds:List D),c9 K H a ds->c9 K b a ds
 | [],[],h=>by simp only[c9]
 | v::a,d::ds,h=>by
  simp only[c9] at h ⊢;show⟨Rep.mono e v d h.1,c9.mono e a ds h.2⟩
 | [],_::_,h=>by simp only[c9] at h
 | _::_,[],h=>by simp only[c9] at h
theorem eZ.mono{K:J'}{H b:Hp}(e:dU H b):∀(a:List (Str×V))(ds:List (Str×D)),eZ K H a ds->eZ K b a ds
 | [],[],h=>by simp only[eZ]
 | (x,v)::a,(y,d)::ds,h=>by
  simp only[eZ] at h ⊢;show⟨⟨h.1.1,Rep.mono e v d h.1.2⟩,eZ.mono e a ds h.2⟩
 | [],_::_,h=>by simp only[eZ] at h
 | _::_,[],h=>by simp only[eZ] at h
theorem eu.mono{K:J'}{H b:Hp}(e:dU H b):∀(a:List (Key×V))(ds:List (Key×D)),eu K H a ds->eu K b a ds
 | [],[],h=>by simp only[eu]
 | (x,v)::a,(y,d)::ds,h=>by
  simp only[eu] at h ⊢;show⟨⟨h.1.1,Rep.mono e v d h.1.2⟩,eu.mono e a ds h.2⟩
 | [],_::_,h=>by simp only[eu] at h
 | _::_,[],h=>by simp only[eu] at h
theorem eB.mono{K:J'}{H b:Hp}(e:dU H b):∀(a:List (List Key×V))(ds:List (List Key×D)),eB K H a ds->eB K b a ds
 | [],[],h=>by simp only[eB]
 | (x,v)::a,(y,d)::ds,h=>by
  simp only[eB] at h ⊢;show⟨⟨h.1.1,Rep.mono e v d h.1.2⟩,eB.mono e a ds h.2⟩
 | [],_::_,h=>by simp only[eB] at h
 | _::_,[],h=>by simp only[eB] at h
end
section
variable{K:J'}{H H':Hp}
theorem c9.length:∀{a:List V}{ds:List D},c9 K H a ds->a.length=ds.length
 | [],[],_=>rfl
 | v::a,d::ds,h=>by
  simp only[c9] at h;simp only[aG,c9.length h.2]
 | [],_::_,h=>by simp only[c9] at h
 | _::_,[],h=>by simp only[c9] at h
theorem c9.get:∀{a:List V}{ds:List D}{i:Nat}{d:D},c9 K H a ds->ds[i]?=some d->∃v,a[i]?=some v/\Rep K H v d
 | [],[],i,d,_,e=>by simp at e
 | v::a,d'::ds,0,d,h,e=>by
  simp only[c9] at h;simp only[bZ,aB] at e;subst e;show⟨v,rfl,h.1⟩
 | v::a,d'::ds,i+1,d,h,e=>by
  simp only[c9] at h;simp only[bO] at e ⊢;show c9.get h.2 e
 | [],_::_,_,_,h,_=>by simp only[c9] at h
 | _::_,[],_,_,h,_=>by simp only[c9] at h
theorem c9.Bj:∀{a:List V}{ds:List D}{i:Nat}{v:V},c9 K H a ds->a[i]?=some v->∃d,ds[i]?=some d/\Rep K H v d
 | [],[],i,d,_,e=>by simp at e
 | b::a,d::ds,0,v,h,e=>by
  simp only[c9] at h;simp only[bZ,aB] at e;subst e;show⟨d,rfl,h.1⟩
 | b::a,d::ds,i+1,v,h,e=>by
  simp only[c9] at h;simp only[bO] at e ⊢;show c9.Bj h.2 e
 | [],_::_,_,_,h,_=>by simp only[c9] at h
 | _::_,[],_,_,h,_=>by simp only[c9] at h
theorem c9.nil:c9 K H [] []:=by simp only[c9]
theorem c9.cons{v:V}{a:List V}{d:D}{ds:List D}(h:Rep K H v d)(b:c9 K H a ds):c9 K H (v::a) (d::ds):=by simp only[c9];show⟨h,b⟩
theorem c9.append:∀{a:List V}{ds:List D}{us:List V}{es:List D},c9 K H a ds->c9 K H us es->c9 K H (a++us) (ds++es)
 | [],[],_,_,_,h=>h
 | v::a,d::ds,_,_,h,h'=>by
  simp only[c9] at h;show c9.cons h.1 (c9.append h.2 h')
 | [],_::_,_,_,h,_=>by simp only[c9] at h
 | _::_,[],_,_,h,_=>by simp only[c9] at h
theorem c9.take:∀{a:List V}{ds:List D}(n:Nat),c9 K H a ds->c9 K H (a.take n) (ds.take n)
 | _,_,0,_=>c9.nil
 | [],[],_+1,_=>c9.nil
 | v::a,d::ds,n+1,h=>by
  simp only[c9] at h;show c9.cons h.1 (c9.take n h.2)
 | [],_::_,_+1,h=>by simp only[c9] at h
 | _::_,[],_+1,h=>by simp only[c9] at h
theorem c9.drop:∀{a:List V}{ds:List D}(n:Nat),c9 K H a ds->c9 K H (a.drop n) (ds.drop n)
 | _,_,0,h=>h
 | [],[],_+1,_=>c9.nil
 | v::a,d::ds,n+1,h=>by
  simp only[c9] at h;show c9.drop n h.2
 | [],_::_,_+1,h=>by simp only[c9] at h
 | _::_,[],_+1,h=>by simp only[c9] at h
theorem c9.set:∀{a:List V}{ds:List D}{v:V}{d:D}(n:Nat),c9 K H a ds->Rep K H v d->c9 K H (a.set n v) (ds.set n d)
 | [],[],_,_,_,_,_=>c9.nil
 | b::a,d'::ds,v,d,0,h,q=>by
  simp only[c9] at h;show c9.cons q h.2
 | b::a,d'::ds,v,d,n+1,h,q=>by
  simp only[c9] at h;show c9.cons h.1 (c9.set n h.2 q)
 | [],_::_,_,_,_,h,_=>by simp only[c9] at h
 | _::_,[],_,_,_,h,_=>by simp only[c9] at h
end
structure Ext(G H G' H':Hp):Prop where
 g:dU G G'
 h:dU H H'
 s:dU G' H'
 n:∀p,G p=none->H p≠none->G' p=none
theorem Ext.refl{G H:Hp}(s:dU G H):Ext G H G H:=⟨dU.refl _,dU.refl _,s,λ_ h _=>h⟩
theorem Ext.trans{G H i e f d:Hp}(a:Ext G H i e)(b:Ext i e f d):Ext G H f d:=
 ⟨a.g.trans b.g,a.h.trans b.h,b.s,λp j c=>b.n p (a.n p j c) λz=>c (a.h.free z)⟩
theorem vi{H:Hp}{p:Addr}{o:HO}(h:H p=none):dU H (upd H p o):=λb u e=>by rw[fI (lI e h)];show e
theorem Sg{G H:Hp}{p:Addr}{o:HO}(s:dU G H):dU (upd G p o) (upd H p o):=λb u e=>by
 by_cases a:b=p
 .subst a;rw[i7] at e ⊢;show e
 rw[fI a] at e ⊢;show s b u e
theorem Ext.new{G H:Hp}{p:Addr}{o:HO}(s:dU G H)(h:H p=none):Ext G H (upd G p o) (upd H p o):=
 ⟨vi (s.free h),vi h,Sg s,λq b a=>by rw[fI (λz=>a (by rw[z];show h))];show b⟩
theorem Ext.own{G H:Hp}{p:Addr}{o:HO}(s:dU G H)(h:H p=none):Ext G H G (upd H p o):=
 ⟨dU.refl _,vi h,s.trans (vi h),λq a _=>a⟩
inductive OV where
 | ll (fH:List (List D))
 | dc (di:List (Key×D))
 | dl (di:List (Key×List D))
 | tl (d:D) (ds:List D)
 | ld (xm:List (List (Key×D)))
 | dt (di:List (List Key×List D))
 | tp (ds:List D)
 | ob (cn:Str) (fs:List (Str×List D))
 | dq (di:List (List Key×D))
noncomputable def OV.val:OV->D
 | .ll c=>.lst (c.map .lst)
 | .dc a=>.dic a
 | .dl a=>.dic (a.map λp=>(p.1,.lst p.2))
 | .tl d ds=>.tup [d,.lst ds]
 | .ld b=>.lst (b.map .dic)
 | .dt a=>.dit (a.map λp=>(p.1,.lst p.2))
 | .tp ds=>.tup ds
 | .ob e fs=>.obj e (fs.map λp=>(p.1,.lst p.2))
 | .dq a=>.dit a
inductive R where
 | fz (d:D)
 | ow (ds:List D)
 | ov (o:OV)
noncomputable def R.val:R->D
 | .fz d=>d
 | .ow ds=>.lst ds
 | .ov o=>o.val
inductive Sl where
 | un
 | fz (d:D)
 | ow (ds:List D)
 | ov (o:OV)
noncomputable def R.sl:R->Sl
 | .fz d=>.fz d
 | .ow ds=>.ow ds
 | .ov o=>.ov o
def eA(K:J')(G H:Hp):List Addr->List (List D)->Prop
 | [],[]=>True
 | q::a,ds::b=>(∃xs,H q=some (.lst xs)/\c9 K G xs ds)/\eA K G H a b
 | _,_=>False
theorem eA.mono{K:J'}{G H e d:Hp}(g:dU G e):∀{a:List Addr}{b:List (List D)},(∀q∈a,∀xs,H q=some (.lst xs)->d q=some (.lst xs))->eA K G H a b->eA K e d a b
 | [],[],_,_=>by simp only[eA]
 | q::a,ds::b,c,h=>by
  simp only[eA] at h ⊢;obtain⟨⟨xs,k,j⟩,i⟩:=h;show⟨⟨xs,c q (by simp) xs k,j.mono g⟩,eA.mono g (λr f=>c r (by simp[f])) i⟩
 | [],_::_,_,h=>by simp only[eA] at h
 | _::_,[],_,h=>by simp only[eA] at h
theorem eA.here{K:J'}{G H:Hp}:∀{a:List Addr}{c:List (List D)},eA K G H a c->∀q∈a,H q≠none
 | [],[],_,q,d=>by cases d
 | q::a,ds::c,h,r,b=>by
  simp only[eA] at h;obtain⟨⟨xs,f,g⟩,e⟩:=h;rcases av.mp b with rfl | b
  .rw[f];show nofun
  show eA.here e r b
 | [],_::_,h,_,_=>by simp only[eA] at h
 | _::_,[],h,_,_=>by simp only[eA] at h
theorem eA.oE{K:J'}{G H c:Hp}(g:dU G c):∀{a:List Addr}{b:List (List D)},(∀q∈a,∀xs,H q=some (.lst xs)->c q=some (.lst xs))->eA K G H a b->c9 K c (a.map V.ref) (b.map D.lst)
 | [],[],_,_=>c9.nil
 | q::a,ds::b,d,h=>by
  simp only[eA] at h;obtain⟨⟨xs,j,i⟩,f⟩:=h;show c9.cons ?_ (eA.oE g (λr e=>d r (by simp[e])) f);simp only[Rep];show⟨q,xs,rfl,lX.of (d q (by simp) xs j),i.mono g⟩
 | [],_::_,_,h=>by simp only[eA] at h
 | _::_,[],_,h=>by simp only[eA] at h
def gR(K:J')(G H:Hp):List Addr->List (List (Key×D))->Prop
 | [],[]=>True
 | q::b,ds::c=>(∃a ep,H q=some (.dK a ep)/\eu K G a ds)/\gR K G H b c
 | _,_=>False
theorem gR.mono{K:J'}{G H e d:Hp}(g:dU G e):∀{a:List Addr}{b:List (List (Key×D))},(∀q∈a,∀u,H q=some u->d q=some u)->gR K G H a b->gR K e d a b
 | [],[],_,_=>by simp only[gR]
 | q::a,ds::b,c,h=>by
  simp only[gR] at h ⊢;obtain⟨⟨f,ep,l,k⟩,j⟩:=h;show⟨⟨f,ep,c q (by simp) _ l,eu.mono g _ _ k⟩,gR.mono g (λr i=>c r (by simp[i])) j⟩
 | [],_::_,_,h=>by simp only[gR] at h
 | _::_,[],_,h=>by simp only[gR] at h
theorem gR.kind{K:J'}{G H:Hp}:∀{a:List Addr}{d:List (List (Key×D))},gR K G H a d->∀q∈a,∃b ep,H q=some (.dK b ep)
 | [],[],_,q,e=>by cases e
 | q::a,ds::d,h,r,c=>by
  simp only[gR] at h;obtain⟨⟨b,ep,g,i⟩,f⟩:=h;rcases av.mp c with rfl | c
  .exact⟨b,ep,g⟩
  show gR.kind f r c
 | [],_::_,h,_,_=>by simp only[gR] at h
 | _::_,[],h,_,_=>by simp only[gR] at h
theorem gR.here{K:J'}{G H:Hp}{a:List Addr}{c:List (List (Key×D))}(h:gR K G H a c):∀q∈a,H q≠none:=λq b=>by
 obtain⟨d,ep,e⟩:=h.kind q b;rw[e];show nofun
theorem gR.oE{K:J'}{G H c:Hp}(g:dU G c):∀{a:List Addr}{b:List (List (Key×D))},(∀q∈a,∀u,H q=some u->c q=some u)->gR K G H a b->c9 K c (a.map V.ref) (b.map D.dic)
 | [],[],_,_=>c9.nil
 | q::a,ds::b,d,h=>by
  simp only[gR] at h;obtain⟨⟨e,ep,k,j⟩,i⟩:=h;show c9.cons ?_ (gR.oE g (λr f=>d r (by simp[f])) i);simp only[Rep];show⟨q,e,ep,rfl,d q (by simp) _ k,eu.mono g _ _ j⟩
 | [],_::_,_,h=>by simp only[gR] at h
 | _::_,[],_,h=>by simp only[gR] at h
def kK(K:J')(G H:Hp)(p:Addr)(fp:List Addr):OV->Prop
 | .ll f=>H p=some (.lst (fp.map V.ref))/\eA K G H fp f
 | .dc b=>fp=[]/\∃a ep,H p=some (.dK a ep)/\eu K G a b
 | .dl b=>∃a ep,H p=some (.dK a ep)/\a.map (·.1)=b.map (·.1)/\a.map (·.2)=fp.map V.ref/\eA K G H fp (b.map (·.2))
 | .tl d ds=>∃q v xs,fp=[q]/\H p=some (.tup [v,.ref q])/\Rep K G v d/\H q=some (.lst xs)/\c9 K G xs ds
 | .ld e=>H p=some (.lst (fp.map V.ref))/\gR K G H fp e
 | .dt b=>∃a bs,H p=some (.dT a bs)/\f6 G a bs.1/\a.map (·.1)=b.map (·.1)/\a.map (·.2)=fp.map V.ref/\eA K G H fp (b.map (·.2))
 | .tp ds=>fp=[]/\∃xs,H p=some (.tup xs)/\c9 K G xs ds
 | .ob h fs=>∃C g c,H p=some (.ins C g c)/\ClsAt K h C/\(∀p∈fs,eO K C p.1)/\c.map (·.1)=fs.map (·.1)/\c.map (·.2)=fp.map V.ref/\eA K G H fp (fs.map (·.2))
 | .dq b=>fp=[]/\∃a bs,H p=some (.dT a bs)/\f6 G a bs.1/\eB K G a b
theorem kK.here{K:J'}{G H:Hp}{p:Addr}{fp:List Addr}{o:OV}(h:kK K G H p fp o):∀q∈p::fp,H q≠none:=by
 intro q a;cases o with
 | ll k=>
  rcases av.mp a with rfl | a
  .rw[h.1];show nofun
  show h.2.here q a
 | dc f=>
  obtain⟨rfl,e,ep,b,_⟩:=h;simp only[bp] at a;subst a;rw[b];show nofun
 | dl f=>
  obtain⟨e,ep,b,_,_,c⟩:=h;rcases av.mp a with rfl | a
  .rw[b];show nofun
  show c.here q a
 | tl d ds=>
  obtain⟨r,v,xs,rfl,b,_,g,_⟩:=h;simp only[av,bg,cY] at a;rcases a with rfl | rfl
  .rw[b];show nofun
  rw[g];show nofun
 | ld i=>
  rcases av.mp a with rfl | a
  .rw[h.1];show nofun
  show h.2.here q a
 | dt f=>
  obtain⟨e,bs,b,_,_,_,c⟩:=h;rcases av.mp a with rfl | a
  .rw[b];show nofun
  show c.here q a
 | tp ds=>
  obtain⟨rfl,xs,b,_⟩:=h;simp only[bp] at a;subst a;rw[b];show nofun
 | ob m fs=>
  obtain⟨C,l,j,b,_,_,_,_,c⟩:=h;rcases av.mp a with rfl | a
  .rw[b];show nofun
  show c.here q a
 | dq f=>
  obtain⟨rfl,e,bs,b,_⟩:=h;simp only[bp] at a;subst a;rw[b];show nofun
theorem kK.mono{K:J'}{G H n m:Hp}{p:Addr}{fp:List Addr}{o:OV}(g:dU G n)(a:∀q∈p::fp,∀u,H q=some u->m q=some u)(h:kK K G H p fp o):kK K n m p fp o:=by
 cases o with
 | ll z=>show⟨a p (by simp) _ h.1,h.2.mono g λq e xs=>a q (by simp[e]) _⟩
 | dc l=>
  obtain⟨rfl,f,ep,c,b⟩:=h;show⟨rfl,f,ep,a p (by simp) _ c,eu.mono g _ _ b⟩
 | dl l=>
  obtain⟨f,ep,c,b,j,i⟩:=h;show⟨f,ep,a p (by simp) _ c,b,j,i.mono g λq e xs=>a q (by simp[e]) _⟩
 | tl d ds=>
  obtain⟨r,v,xs,rfl,c,b,j,i⟩:=h;show⟨r,v,xs,rfl,a p (by simp) _ c,b.mono g,a r (by simp) _ j,i.mono g⟩
 | ld y=>show⟨a p (by simp) _ h.1,h.2.mono g λq e=>a q (by simp[e])⟩
 | dt l=>
  obtain⟨f,bs,c,k,b,j,i⟩:=h;show⟨f,bs,a p (by simp) _ c,k.mono g,b,j,i.mono g λq e xs=>a q (by simp[e]) _⟩
 | tp ds=>
  obtain⟨rfl,xs,c,b⟩:=h;show⟨rfl,xs,a p (by simp) _ c,b.mono g⟩
 | ob A fs=>
  obtain⟨C,x,w,c,t,s,b,j,i⟩:=h;show⟨C,x,w,a p (by simp) _ c,t,s,b,j,i.mono g λq e xs=>a q (by simp[e]) _⟩
 | dq l=>
  obtain⟨rfl,f,bs,c,k,b⟩:=h;show⟨rfl,f,bs,a p (by simp) _ c,k.mono g,eB.mono g _ _ b⟩
theorem eu.gH{K:J'}{G:Hp}:∀{c:List (Key×V)}{e:List (Key×List D)}{fp:List Addr},c.map (·.1)=e.map (·.1)->c.map (·.2)=fp.map V.ref->c9 K G (fp.map V.ref) ((e.map (·.2)).map D.lst)->eu K G c (e.map λp=>(p.1,.lst p.2))
 | [],[],_,_,_,_=>by simp only[bV,eu]
 | a::c,b::e,fp,g,d,f=>by
  simp only[ax,List.cons.injEq] at g;cases fp with
  | nil=>simp at d
  | cons q fp=>
   simp only[ax,List.cons.injEq] at d;simp only[ax,c9] at f;simp only[ax,eu];show⟨⟨g.1,by rw[d.1];show f.1⟩,eu.gH g.2 d.2 f.2⟩
 | [],_::_,_,h,_,_=>by simp at h
 | _::_,[],_,h,_,_=>by simp at h
theorem eB.gH{K:J'}{G:Hp}:∀{c:List (List Key×V)}{e:List (List Key×List D)}{fp:List Addr},c.map (·.1)=e.map (·.1)->c.map (·.2)=fp.map V.ref->c9 K G (fp.map V.ref) ((e.map (·.2)).map D.lst)->eB K G c (e.map λp=>(p.1,.lst p.2))
 | [],[],_,_,_,_=>by simp only[bV,eB]
 | a::c,b::e,fp,g,d,f=>by
  simp only[ax,List.cons.injEq] at g;cases fp with
  | nil=>simp at d
  | cons q fp=>
   simp only[ax,List.cons.injEq] at d;simp only[ax,c9] at f;simp only[ax,eB];show⟨⟨g.1,by rw[d.1];show f.1⟩,eB.gH g.2 d.2 f.2⟩
 | [],_::_,_,h,_,_=>by simp at h
 | _::_,[],_,h,_,_=>by simp at h
theorem eZ.gH{K:J'}{G:Hp}:∀{c:List (Str×V)}{e:List (Str×List D)}{fp:List Addr},c.map (·.1)=e.map (·.1)->c.map (·.2)=fp.map V.ref->c9 K G (fp.map V.ref) ((e.map (·.2)).map D.lst)->eZ K G c (e.map λp=>(p.1,.lst p.2))
 | [],[],_,_,_,_=>by simp only[bV,eZ]
 | a::c,b::e,fp,g,d,f=>by
  simp only[ax,List.cons.injEq] at g;cases fp with
  | nil=>simp at d
  | cons q fp=>
   simp only[ax,List.cons.injEq] at d;simp only[ax,c9] at f;simp only[ax,eZ];show⟨⟨g.1,by rw[d.1];show f.1⟩,eZ.gH g.2 d.2 f.2⟩
 | [],_::_,_,h,_,_=>by simp at h
 | _::_,[],_,h,_,_=>by simp at h
noncomputable def qz(G H:Hp)(l:List Addr):Hp:=λa=>if a∈l then H a else G a
theorem tQ{G H:Hp}{l:List Addr}{a:Addr}(h:a∈l):qz G H l a=H a:=if_pos h
theorem sr{G H:Hp}{l:List Addr}{a:Addr}(h:a∉l):qz G H l a=G a:=if_neg h
theorem zr{G H:Hp}{l:List Addr}(h:∀q∈l,G q=none):dU G (qz G H l):=λb u e=>by
 rw[sr (λz=>by rw[h b z] at e;cases e)];show e
theorem kK.freeze{K:J'}{G H:Hp}{p:Addr}{fp:List Addr}{o:OV}(h:kK K G H p fp o)(l:∀q∈p::fp,G q=none):Rep K (qz G H (p::fp)) (.ref p) o.val:=by
 have c:=zr (H:=H) l;have g:qz G H (p::fp) p=H p:=tQ (by simp);cases o with
 | ll A=>
  simp only[OV.val,Rep];show⟨p,_,rfl,lX.of (by rw[g];show h.1),h.2.oE c λq f xs e=>by rw[tQ (by simp[f])];show e⟩
 | dc n=>
  obtain⟨rfl,i,ep,b,a⟩:=h;simp only[OV.val,Rep];show⟨p,i,ep,rfl,by rw[g];show b,eu.mono c _ _ a⟩
 | dl n=>
  obtain⟨i,ep,b,a,k,j⟩:=h;simp only[OV.val,Rep];show⟨p,i,ep,rfl,by rw[g];show b,eu.gH a k (j.oE c λq f xs e=>by rw[tQ (by simp[f])];show e)⟩
 | tl d ds=>
  obtain⟨r,v,xs,rfl,b,a,k,j⟩:=h;simp only[OV.val,Rep];show⟨p,_,rfl,(by rw[g];show b),c9.cons (a.mono c) (c9.cons ?_ c9.nil)⟩;simp only[Rep];show⟨r,xs,rfl,lX.of (by rw[tQ (by simp)];show k),j.mono c⟩
 | dt n=>
  obtain⟨i,bs,b,m,a,k,j⟩:=h;simp only[OV.val,Rep];show⟨p,i,bs,rfl,by rw[g];show b,m.mono c,eB.gH a k (j.oE c λq f xs e=>by rw[tQ (by simp[f])];show e)⟩
 | tp ds=>
  obtain⟨rfl,xs,b,a⟩:=h;simp only[OV.val,Rep];show⟨p,xs,rfl,(by rw[g];show b),a.mono c⟩
 | ob B fs=>
  obtain⟨C,y,x,b,w,l,a,k,j⟩:=h;simp only[OV.val,Rep];show⟨p,C,y,x,rfl,by rw[g];show b,w,λu t=>?_,eZ.gH a k (j.oE c λq f xs e=>by rw[tQ (by simp[f])];show e)⟩;obtain⟨v,s,rfl⟩:=aN.mp t;show l v s
 | ld z=>
  simp only[OV.val,Rep];show⟨p,_,rfl,lX.of (by rw[g];show h.1),h.2.oE c λq f u e=>by rw[tQ (by simp[f])];show e⟩
 | dq n=>
  obtain⟨rfl,i,bs,b,m,a⟩:=h;simp only[OV.val,Rep];show⟨p,i,bs,rfl,by rw[g];show b,m.mono c,eB.mono c _ _ a⟩
noncomputable abbrev Ev:=List Sl
noncomputable def gt:Ev->Nat->Sl
 | [],_=>.un
 | a::_,0=>a
 | _::r,n+1=>gt r n
theorem xU{b:Ev}{i j:Nat}{s:Sl}:gt (b.set i s) j=if i=j/\j<b.length then s else gt b j:=by
 induction b generalizing i j with
 | nil=>simp[gt]
 | cons a r c=>
  cases i with
  | zero=>
   cases j with
   | zero=>simp[gt]
   | succ j=>simp[gt]
  | succ i=>
   cases j with
   | zero=>simp[gt]
   | succ j=>simp[gt,c]
def gJ(K:J')(a b H:Hp)(v:V):R->Prop
 | .fz d=>Rep K a v d
 | .ow ds=>∃p xs,v=.ref p/\H p=none/\a p=none/\b p=some (.lst xs)/\c9 K a xs ds
 | .ov o=>∃p fp,v=.ref p/\(p::fp).Nodup/\kK K a b p fp o/\∀q∈p::fp,H q=none/\a q=none
structure fm(K:J')(G0 H0:Hp)(ρ:Ev)(σ:St)(G H:Hp):Prop where
 e:Ext G0 H0 G H
 len:σ.length=ρ.length
 fz:∀i d,gt ρ i=.fz d->∃v,σ[i]?=some (some v)/\Rep K G v d
 ow:∀i ds,gt ρ i=.ow ds->∃p xs,σ[i]?=some (some (.ref p))/\H p=some (.lst xs)/\G p=none/\H0 p=none/\c9 K G xs ds
 dj:∀i j ds es,i≠j->gt ρ i=.ow ds->gt ρ j=.ow es->σ[i]?≠σ[j]?
 on:∃own:Addr->Option Nat,(∀i ds p,gt ρ i=.ow ds->σ[i]?=some (some (.ref p))->own p=some i)/\∀i o,gt ρ i=.ov o->∃p fp,σ[i]?=some (some (.ref p))/\(p::fp).Nodup/\kK K G H p fp o/\∀q∈p::fp,G q=none/\H0 q=none/\own q=some i
section
variable{K:J'}{G0 H0 G H G' H' G2 H2:Hp}{ρ:Ev}{σ:St}{v:V}
theorem fm.ext(E:fm K G0 H0 ρ σ G H)(x:Ext G H G' H'):fm K G0 H0 ρ σ G' H' where
 e:=E.e.trans x
 len:=E.len
 fz:=λi d h=>let⟨v,b,a⟩:=E.fz i d h;⟨v,b,a.mono x.g⟩
 ow:=λi ds h=>let⟨p,xs,b,a,m,l,k⟩:=E.ow i ds h;⟨p,xs,b,x.h _ _ a,x.n p m (by rw[a];show nofun),l,k.mono x.g⟩
 dj:=E.dj
 on:=by
  obtain⟨own,b,a⟩:=E.on;show⟨own,b,λi o h=>?_⟩;obtain⟨p,fp,s,r,j,f⟩:=a i o h;show⟨p,fp,s,r,j.mono x.g λq _ u e=>x.h q u e,λq c=>⟨x.n q (f q c).1 (j.here q c),(f q c).2⟩⟩
theorem gJ.freeze{r:R}(x:Ext G H G' H')(h:gJ K G' H' H v r):∃G2,Ext G H G2 H'/\Rep K G2 v r.val/\dU G' G2:=by
 cases r with
 | fz d=>show⟨G',x,h,dU.refl _⟩
 | ow ds=>
  obtain⟨p,xs,l,k,a,w,t⟩:=h;show⟨upd G' p (.lst xs),⟨x.g.trans (vi a),x.h,λb o e=>?_,λq i c=>?_⟩,?_,vi a⟩
  .by_cases f:b=p
   .subst f;rw[i7] at e;rw[w];show e
   rw[fI f] at e;show x.s b o e
  .rw[fI (λz=>c (by rw[z];show k))];show x.n q i c
  show Rep K (upd G' p (.lst xs)) v (.lst ds);simp only[Rep];show⟨p,xs,l,lX.of i7,t.mono (vi a)⟩
 | ov o=>
  obtain⟨p,fp,rfl,l,k,a⟩:=h;have j:∀q∈p::fp,G' q=none:=λq m=>(a q m).2
  show⟨qz G' H' (p::fp),⟨x.g.trans (zr j),x.h,λb u e=>?_,λq i c=>?_⟩,k.freeze j,zr j⟩
  .by_cases f:b∈p::fp
   .rw[tQ f] at e;show e
   rw[sr f] at e;show x.s b u e
  rw[sr (λz=>c (a q z).1)];show x.n q i c
theorem gJ.je{r:R}{g f:Hp}(s:dU f g)(h:gJ K G' H' g v r):gJ K G' H' f v r:=by
 cases r with
 | fz d=>show h
 | ow ds=>
  obtain⟨p,xs,c,b,a,j,i⟩:=h;show⟨p,xs,c,s.free b,a,j,i⟩
 | ov o=>
  obtain⟨p,fp,rfl,c,b,a⟩:=h;show⟨p,fp,rfl,c,b,λq e=>⟨s.free (a q e).1,(a q e).2⟩⟩
end
noncomputable abbrev TD:=Ev->(R->Prop)->Prop
noncomputable abbrev ki:=Ev->(Bool->Prop)->Prop
noncomputable abbrev kj:=Ev->(List D->Prop)->Prop
structure DE where
 nx:Ev->Prop
 rt:R->Prop
 bk:Ev->Prop:=λ_=>False
 ct:Ev->Prop:=λ_=>False
noncomputable abbrev TX:=DE->Ev->Prop
def PD(X:Cx)(e:Expr)(t:TD):Prop:=∃tt,PE X e tt/\∀(b:Ev)(σ:St)(f d G H:Hp)(Q:R->Prop)(P:VK),fm X.K f d b σ G H->t b Q->
 (∀v a r c,Ext G H c a->gJ X.K c a H v r->Q r->P v a)->tt σ H P
def PB(X:Cx)(e:Expr)(t:ki):Prop:=∃tt,PT X e tt/\∀(a:Ev)(σ:St)(f d G H:Hp)(Q:Bool->Prop)(P:Bool->Hp->Prop),fm X.K f d a σ G H->t a Q->
 (∀b c g,Ext G H g c->Q b->P b c)->tt σ H P
def nA(X:Cx)(es:List Expr)(t:kj):Prop:=∃tt,PA X es tt/\∀(a:Ev)(σ:St)(f e G H:Hp)(Q:List D->Prop)(P:List V->Hp->Prop),fm X.K f e a σ G H->t a Q->
 (∀b c ds d,Ext G H d c->c9 X.K d b ds->Q ds->P b c)->tt σ H P
structure Goes(K:J')(G0 H0 G:Hp)(D:DE)(E:Ends):Prop where
 nx:∀ρ σ G' H',dU G G'->fm K G0 H0 ρ σ G' H'->D.nx ρ->E.nx σ H'
 rt:∀v H' r G',Ext G0 H0 G' H'->gJ K G' H' H0 v r->D.rt r->E.rt v H'
 bk:∀ρ σ G' H',dU G G'->fm K G0 H0 ρ σ G' H'->D.bk ρ->E.bk σ H'
 ct:∀ρ σ G' H',dU G G'->fm K G0 H0 ρ σ G' H'->D.ct ρ->E.ct σ H'
theorem Goes.shift{K:J'}{e d G f:Hp}{D:DE}{E:Ends}(g:Goes K e d G D E)(s:dU G f):Goes K e d f D E:=
 ⟨λa σ c b s2=>g.nx a σ c b (s.trans s2),g.rt,λa σ c b s2=>g.bk a σ c b (s.trans s2),λa σ c b s2=>g.ct a σ c b (s.trans s2)⟩
def PX(X:Cx)(st:Stmt)(t:TX):Prop:=∃tt,PS X st tt/\∀(a:Ev)(σ:St)(c b G H:Hp)(D:DE)(E:Ends),fm X.K c b a σ G H->t D a->Goes X.K c b G D E->tt E σ H
def pL(X:Cx)(st:List Stmt)(t:TX):Prop:=∃tt,pM X st tt/\∀(a:Ev)(σ:St)(c b G H:Hp)(D:DE)(E:Ends),fm X.K c b a σ G H->t D a->Goes X.K c b G D E->tt E σ H
section
variable{X:Cx}{pos:Pos}{a b c:Expr}{ta tb tc:TD}
theorem iw{K:J'}{a b H:Hp}{v:V}{d:D}(h:Rep K a v d):gJ K a b H v (.fz d):=h
def cZ(i:Nat):TD:=λa Q=>match gt a i with
 | .fz d=>Q (.fz d)
 | _=>False
theorem c7(i:Nat){x:Str}(c:X.N[i]?=some x:=by rfl)(b:oR X.env.scope x:=by first | show Or.inl rfl | show Or.inr (Or.inl rfl) | show Or.inr (Or.inr rfl))(hd:(x==("__debug__":Str))=false:=by decide)
  (a:(x==("__classdict__":Str))=false:=by decide):PD X (.Name x pos) (cZ i):=by
 show⟨_,pZ c b hd a,λj σ m l G H Q P E h k=>?_⟩;unfold cZ at h;split at h
 .rename_i d e;obtain⟨v,g,f⟩:=E.fz i d e;show⟨v,g,k v H (.fz d) G (.refl E.e.s) f h⟩
 show h.elim
def dC(d:D):TD:=λ_ Q=>Q (.fz d)
theorem CF{e:Expr}{v:V}{d:D}(h:PE X e (tC v))(r:∀K G,Rep K G v d):PD X e (dC d):=
 ⟨_,h,λa σ c b G H Q P E h k=>k v H (.fz d) G (.refl E.e.s) (r _ _) h⟩
theorem kY(K:J')(G:Hp)(i:Int):Rep K G (.int i) (.int i):=by simp only[Rep]
theorem nc(K:J')(G:Hp)(i:Bool):Rep K G (.bl i) (.bl i):=by simp only[Rep]
theorem wd(K:J')(G:Hp)(i:Str):Rep K G (.str i) (.str i):=by simp only[Rep]
theorem Jv(K:J')(G:Hp):Rep K G .non .non:=by simp only[Rep]
theorem dA{i j}:PD X (.Constant (.int i) j pos) (dC (.int i)):=CF OP λK G=>kY K G i
theorem BI{i j}:PD X (.Constant (.bool i) j pos) (dC (.bl i)):=CF Ov λK G=>nc K G i
theorem jR{i j}:PD X (.Constant (.str i) j pos) (dC (.str i)):=CF ON λK G=>wd K G i
theorem jw{j}:PD X (.Constant .none j pos) (dC .non):=CF OO λK G=>Jv K G
noncomputable abbrev O2:=D->D->(R->Prop)->Prop
def mP(X:Cx)(f:Value->Value->Sem Value)(o:O2):Prop:=∃r:R2,jj X f r/\∀(G H:Hp)(x y:V)(d e:D)(Q:R->Prop)(P:VK),dU G H->Rep X.K G x d->Rep X.K G y e->o d e Q->
 (∀v a b c,Ext G H c a->gJ X.K c a H v b->Q b->P v a)->r x y H P
def dg(o:O2)(ta tb:TD):TD:=λa Q=>ta a λb=>tb a λrb=>o b.val rb.val Q
theorem BY{r:R2}{o:O2}{p q:TE}
  (M:∀(G H:Hp)(x y:V)(d e:D)(Q:R->Prop)(P:VK),dU G H->Rep X.K G x d->Rep X.K G y e->o d e Q->(∀v a m b,Ext G H b a->gJ X.K b a H v m->Q m->P v a)->r x y H P)
  (ha:∀(f:Ev)(c:St)(j i G H:Hp)(Q:R->Prop)(P:VK),fm X.K j i f c G H->ta f Q->(∀v a r b,Ext G H b a->gJ X.K b a H v r->Q r->P v a)->p c H P)
  (N:∀(f:Ev)(c:St)(j i G H:Hp)(Q:R->Prop)(P:VK),fm X.K j i f c G H->tb f Q->(∀v a r b,Ext G H b a->gJ X.K b a H v r->Q r->P v a)->q c H P)
  (f:Ev) (c:St) (j i G H:Hp) (Q:R->Prop) (P:VK) (E:fm X.K j i f c G H) (h:dg o ta tb f Q) (k:∀v a r b,Ext G H b a->gJ X.K b a H v r->Q r->P v a):An r p q c H P:=by
 show ha f c j i G H _ _ E h λv H1 Z G1 A I T=>?_
 obtain⟨U,n,L,_⟩:=I.freeze A;show N f c j i U H1 _ _ (E.ext n) T λu W rb G2 z F S=>?_
 obtain⟨Y,l,J,_⟩:=F.freeze z;show M Y W v u _ _ Q P l.s (L.mono l.g) J S λB a m b w C O=>?_
 have t:=(n.trans l).trans w;show k B a m b t (C.je (n.trans l).h) O
theorem eh{c:Operator}{o:O2}(i:mP X (binaryOp c) o)(ha:PD X a ta)(j:PD X b tb):PD X (.BinOp a c b pos) (dg o ta tb):=by
 obtain⟨r,h,f⟩:=i;obtain⟨k,g,e⟩:=ha;obtain⟨l,pb,d⟩:=j;show⟨_,Oi h g pb,BY f e d⟩
theorem vf{c:CmpOp}{o:O2}(i:mP X (compareOp c) o)(ha:PD X a ta)(k:PD X b tb)(j:behindInMarks c b=false:=by first | show Iz _ | rfl):PD X (.Compare a [c] [b] pos) (dg o ta tb):=by
 obtain⟨r,h,f⟩:=i;obtain⟨l,g,e⟩:=ha;obtain⟨m,pb,d⟩:=k;show⟨_,QS h g pb j,BY f e d⟩
def eG(t:TD):ki:=λa Q=>t a λr=>match r with
 | .fz (.bl k)=>Q k
 | _=>False
theorem eV{c:CmpOp}{o:O2}(s:mP X (compareOp c) o)(ha:PD X a ta)(u:PD X b tb)(t:behindInMarks c b=false:=by first | show Iz _ | rfl):PB X (.Compare a [c] [b] pos) (eG (dg o ta tb)):=by
 obtain⟨r,q,n⟩:=s;obtain⟨A,p,m⟩:=ha;obtain⟨B,pb,l⟩:=u;show⟨_,QR q p pb t,λg σ y w G H Q P E h k=>?_⟩;show BY n m l g σ y w G H _ _ E h λv x r z i j f=>?_
 split at f
 .rename_i d;have e:v=.bl d:=by simpa only[gJ,Rep] using j
  show⟨d,e,k d x z i f⟩
 show f.elim
theorem xT{e:Expr}{t:TD}(h:PD X e t)(he:∀whole,isTrue e X.env whole=(do let v <-whole;standAt e.pos;holding [v] (truthy v)):=by intro _;rfl):PB X e (eG t):=by
 obtain⟨tt,p,q⟩:=h;show⟨_,OM p he,λc σ j g G H Q P E h k=>?_⟩;show q c σ j g G H _ _ E h λv i r l d f b=>?_
 split at b
 .rename_i a;have e:v=.bl a:=by simpa only[gJ,Rep] using f
  show⟨a,e,k a i l d b⟩
 show b.elim
def fE:O2:=λd e Q=>match d,e with
 | .int i,.int j=>Q (.fz (.int (i+j)))
 | .str x,.str y=>x.length+y.length<=sizeLine/\Q (.fz (.str (x++y)))
 | .lst xs,.lst ys=>xs.length+ys.length<=sizeLine/\Q (.ow (xs++ys))
 | _,_=>False
def OA(K:J'):R2:=λx y H Q=>∃l b xs zs,x=.ref l/\y=.ref b/\lX K H l xs/\lX K H b zs/\xs.length+zs.length<=sizeLine/\∀p,H p=none->Q (.ref p) (upd H p (.lst (xs++zs)))
theorem Py:jj X (binaryOp .Add) (OA X.K):=by
 intro p s σ H x y v u Q I f d h;obtain⟨l,b,xs,zs,rfl,rfl,g,i,hz,q⟩:=h;cases f;cases d;obtain⟨z,its,n,r,e⟩:=I.hE g;obtain⟨m,c,n2,a,k⟩:=I.hE i;have o:=r.length;have t:=a.length;show PySem.P.add_list e k ?_ (by rw[aA,aA];ext);have j:its.toArray++c.toArray=(its++c).toArray:=by simp
 rw[j];show⟨.ref _,_,I.AI (t':=s.toks) (r.append a) (by rw[aD];ext),rfl,q _ I.fresh⟩
theorem uk{G H:Hp}{xs:List V}{ds:List D}{Q:R->Prop}{P:VK}(s:dU G H)(r:c9 X.K G xs ds)(q:Q (.ow ds))
  (k:∀v b c d,Ext G H d b->gJ X.K d b H v c->Q c->P v b):∀p,H p=none->P (.ref p) (upd H p (.lst xs)):=λp a=>
 k _ _ (.ow ds) G (.own s a) ⟨p,xs,rfl,a,s.free a,i7,r⟩ q
theorem fW:mP X (binaryOp .Add) fE:=by
 show⟨_,wJ.or (pD.or Py),λG H x y d e Q P s f c h k=>?_⟩;unfold fE at h;split at h
 .simp only[Rep] at f c;show .inl ⟨_,_,f,c,k _ _ _ G (.refl s) (iw (kY _ _ _)) h⟩
 .simp only[Rep] at f c;show .inr (.inl ⟨_,_,f,c,h.1,k _ _ _ G (.refl s) (iw (wd _ _ _)) h.2⟩)
 .simp only[Rep] at f c;obtain⟨a,xs,rfl,hx,i⟩:=f;obtain⟨b,ys,rfl,j,g⟩:=c;show .inr (.inr ⟨_,_,_,_,rfl,rfl,s.hE hx,s.hE j,by rw[i.length,g.length];show h.1,uk s (i.append g) h.2 k⟩)
 show h.elim
def oI(C:Int->Int->Prop)(g:Int->Int->D):O2:=λd e Q=>match d,e with
 | .int i,.int j=>C i j/\Q (.fz (g i j))
 | _,_=>False
def hV(g:Int->Int->D):O2:=λd e Q=>match d,e with
 | .int i,.int j=>Q (.fz (g i j))
 | _,_=>False
theorem BH{f:Value->Value->Sem Value}{C:Int->Int->Prop}{g:Int->Int->V}{g':Int->Int->D}(h:jj X f (rI C g))(c:∀K G i j,Rep K G (g i j) (g' i j)):mP X f (oI C g'):=by
 show⟨_,h,λG H x y d e Q P s b a h k=>?_⟩;unfold oI at h;split at h
 .simp only[Rep] at b a;show⟨_,_,b,a,h.1,k _ _ _ G (.refl s) (iw (c _ _ _ _)) h.2⟩
 show h.elim
theorem zc{f:Value->Value->Sem Value}{g:Int->Int->V}{g':Int->Int->D}(h:jj X f (qK g))(c:∀K G i j,Rep K G (g i j) (g' i j)):mP X f (hV g'):=by
 show⟨_,h,λG H x y d e Q P s b a h k=>?_⟩;unfold hV at h;split at h
 .simp only[Rep] at b a;show⟨_,_,b,a,k _ _ _ G (.refl s) (iw (c _ _ _ _)) h⟩
 show h.elim
theorem Il:mP X (binaryOp .Sub) (hV λi j=>.int (i-j)):=zc OE λK G i j=>kY K G _
theorem mE:mP X (binaryOp .Mult) (oI gq λi j=>.int (i*j)):=BH Pg λK G i j=>kY K G _
theorem lH:mP X (binaryOp .FloorDiv) (oI kO λi j=>.int (i/j)):=BH QU λK G i j=>kY K G _
theorem iu:mP X (binaryOp .Mod) (oI (λ_ j=>0<j) λi j=>.int (i%j)):=BH Pf λK G i j=>kY K G _
theorem yU:mP X (binaryOp .Pow) (oI rZ λi j=>.int (i ^ j.toNat)):=BH Pe λK G i j=>kY K G _
theorem xH:mP X (compareOp .Lt) (hV λi j=>.bl (decide (i<j))):=zc Og λK G i j=>nc K G _
theorem DH:mP X (compareOp .LtE) (hV λi j=>.bl (decide (i<=j))):=zc vW λK G i j=>nc K G _
theorem t8:mP X (compareOp .Gt) (hV λi j=>.bl (decide (j<i))):=zc Of λK G i j=>nc K G _
theorem NO:mP X (compareOp .GtE) (hV λi j=>.bl (decide (j<=i))):=zc Oe λK G i j=>nc K G _
end
open PySem.SeqAt
mutual
noncomputable def fk:D->D->Bool
 | .non,.non=>true
 | .bl a,.bl b=>a==b
 | .bl a,.int b=>(if a then 1 else 0)==b
 | .int a,.bl b=>a==(if b then 1 else 0)
 | .int a,.int b=>a==b
 | .str a,.str b=>a==b
 | .tup xs,.tup ys=>n8 xs ys
 | .lst xs,.lst ys=>n8 xs ys
 | _,_=>false
noncomputable def n8:List D->List D->Bool
 | [],[]=>true
 | x::xs,y::ys=>fk x y&&n8 xs ys
 | _,_=>false
end
def fG:Nat->D->Prop
 | _,.non=>True
 | _,.bl _=>True
 | _,.int _=>True
 | _,.str _=>True
 | n+1,.tup ds=>∀d∈ds,fG n d
 | n+1,.lst ds=>∀d∈ds,fG n d
 | _,_=>False
theorem fG.mono:∀{n m:Nat}{d:D},n<=m->fG n d->fG m d
 | n,m,.non,_,_=>by cases m<;>show trivial
 | n,m,.bl _,_,_=>by cases m<;>show trivial
 | n,m,.int _,_,_=>by cases m<;>show trivial
 | n,m,.str _,_,_=>by cases m<;>show trivial
 | 0,m,.tup ds,_,h=>by cases h
 | 0,m,.lst ds,_,h=>by cases h
 | n+1,0,.tup ds,l,h=>by ext
 | n+1,0,.lst ds,l,h=>by ext
 | n+1,m+1,.tup ds,l,h=>λd hd=>fG.mono (by ext) (h d hd)
 | n+1,m+1,.lst ds,l,h=>λd hd=>fG.mono (by ext) (h d hd)
 | 0,m,.obj _ _,_,h=>by cases h
 | n+1,m,.obj _ _,_,h=>by cases h
 | 0,m,.dic _,_,h=>by cases h
 | 0,m,.dit _,_,h=>by cases h
 | 0,m,.exc _,_,h=>by cases h
 | n+1,m,.dic _,_,h=>by cases h
 | n+1,m,.dit _,_,h=>by cases h
 | n+1,m,.exc _,_,h=>by cases h
mutual
theorem CD:∀(n:Nat)(d:D),fG n d->fk d d=true
 | n,.non,_=>by simp only[fk]
 | n,.bl _,_=>by simp only[fk,beq_self_eq_true]
 | n,.int _,_=>by simp only[fk,beq_self_eq_true]
 | n,.str _,_=>by simp only[fk,beq_self_eq_true]
 | 0,.tup ds,h=>by cases h
 | 0,.lst ds,h=>by cases h
 | n+1,.tup ds,h=>by simp only[fk];show ES n ds h
 | n+1,.lst ds,h=>by simp only[fk];show ES n ds h
 | 0,.obj _ _,h=>by cases h
 | n+1,.obj _ _,h=>by cases h
 | 0,.dic _,h=>by cases h
 | 0,.dit _,h=>by cases h
 | 0,.exc _,h=>by cases h
 | n+1,.dic _,h=>by cases h
 | n+1,.dit _,h=>by cases h
 | n+1,.exc _,h=>by cases h
theorem ES:∀(n:Nat)(ds:List D),(∀d∈ds,fG n d)->n8 ds ds=true
 | n,[],_=>by simp only[n8]
 | n,d::ds,h=>by simp only[n8,CD n d (h d (by simp)),ES n ds (λe he=>h e (by simp[he])),Bool.and_self]
end
theorem zo:∀{xs ys:List D},xs.length≠ys.length->n8 xs ys=false
 | [],[],h=>absurd rfl h
 | x::xs,y::ys,h=>by
  rw[n8,zo (xs:=xs) (ys:=ys) (by simpa using h),Bool.and_false]
 | [],_::_,_=>by simp only[n8]
 | _::_,[],_=>by simp only[n8]
theorem zm:∀(xs ys:List D),xs.length=ys.length->n8 xs ys=(List.range xs.length).all λj=>fk (xs.getD j .non) (ys.getD j .non)
 | [],[],_=>by simp[n8]
 | x::xs,y::ys,h=>by
  rw[n8,zm xs ys (by simpa using h),aG,List.range_succ_eq_map,List.all_cons,List.all_map];congr 1
 | [],_::_,h=>by simp at h
 | _::_,[],h=>by simp at h
theorem EE(xs ys:List D):((List.range (min xs.length ys.length)).all (λj=>fk (xs.getD j .non) (ys.getD j .non))&&xs.length==ys.length)=n8 xs ys:=by
 by_cases h:xs.length=ys.length
 .rw[zm xs ys h,h];simp
 rw[zo h];simp[h]
section
variable{X:Cx}{K':List (Addr×Obj)}{σ:St}{H:Hp}{s:Shared}
mutual
theorem Cf(I:Inv X K' σ H s):∀(n:Nat)(d e:D)(v:V),fG n d->fG n e->Rep X.K H v d->Rep X.K H v e->d=e
 | n,.non,e,v,h,h',r,c=>by
  cases e<;>simp only[Rep] at r c<;>subst r<;>first | rfl | (simp at c;done) | (simp only[V.bl.injEq,V.int.injEq,V.str.injEq] at c;rw[c])
 | n,.bl b,e,v,h,h',r,c=>by
  cases e<;>simp only[Rep] at r c<;>subst r<;>first | rfl | (simp at c;done) | (simp only[V.bl.injEq,V.int.injEq,V.str.injEq] at c;rw[c])
 | n,.int b,e,v,h,h',r,c=>by
  cases e<;>simp only[Rep] at r c<;>subst r<;>first | rfl | (simp at c;done) | (simp only[V.bl.injEq,V.int.injEq,V.str.injEq] at c;rw[c])
 | n,.str b,e,v,h,h',r,c=>by
  cases e<;>simp only[Rep] at r c<;>subst r<;>first | rfl | (simp at c;done) | (simp only[V.bl.injEq,V.int.injEq,V.str.injEq] at c;rw[c])
 | 0,.tup ds,e,v,h,h',r,c=>by cases h
 | 0,.lst ds,e,v,h,h',r,c=>by cases h
 | n+1,.tup ds,e,v,h,h',r,c=>by
  simp only[Rep] at r;obtain⟨a,xs,rfl,q,rs⟩:=r;cases e<;>simp only[Rep] at c
  case tup es=>
   obtain⟨b,ys,i,f,g⟩:=c;cases i;rw[I.mZ (iz.of f) (iz.of q)] at g;rw[ED I n ds es xs h h' rs g]
  case lst es=>
   obtain⟨b,ys,i,f,g⟩:=c;cases i;obtain⟨its,_,j,_⟩:=I.tuple (iz.of q);obtain⟨its',_,k,_⟩:=I.list f.sq;show absurd rfl (ne_of_list_tuple k.isList (show s.heap.IsTuple a its.toArray from j))
  case obj=>cases h'
  case dic=>cases h'
  case dit=>cases h'
  case exc=>cases h'
  all_goals cases c
 | n+1,.lst ds,e,v,h,h',r,c=>by
  simp only[Rep] at r;obtain⟨a,xs,rfl,q,rs⟩:=r;cases e<;>simp only[Rep] at c
  case lst es=>
   obtain⟨b,ys,i,f,g⟩:=c;cases i;rw[I.jf f.sq q.sq] at g;rw[ED I n ds es xs h h' rs g]
  case tup es=>
   obtain⟨b,ys,i,f,g⟩:=c;cases i;obtain⟨its,_,j,_⟩:=I.tuple (iz.of f);obtain⟨its',_,k,_⟩:=I.list q.sq;show absurd rfl (ne_of_list_tuple k.isList (show s.heap.IsTuple a its.toArray from j))
  case obj=>cases h'
  case dic=>cases h'
  case dit=>cases h'
  case exc=>cases h'
  all_goals cases c
 | 0,.obj _ _,_,_,h,_,_,_=>by cases h
 | n+1,.obj _ _,_,_,h,_,_,_=>by cases h
 | 0,.dic _,_,_,h,_,_,_=>by cases h
 | 0,.dit _,_,_,h,_,_,_=>by cases h
 | 0,.exc _,_,_,h,_,_,_=>by cases h
 | n+1,.dic _,_,_,h,_,_,_=>by cases h
 | n+1,.dit _,_,_,h,_,_,_=>by cases h
 | n+1,.exc _,_,_,h,_,_,_=>by cases h
theorem ED(I:Inv X K' σ H s):∀(n:Nat)(ds es:List D)(a:List V),(∀d∈ds,fG n d)->(∀d∈es,fG n d)->c9 X.K H a ds->c9 X.K H a es->ds=es
 | n,[],[],_,_,_,_,_=>rfl
 | n,d::ds,e::es,v::a,h,h',r,b=>by
  simp only[c9] at r b;rw[Cf I n d e v (h d (by simp)) (h' e (by simp)) r.1 b.1,ED I n ds es a (λx hx=>h x (by simp[hx])) (λx hx=>h' x (by simp[hx])) r.2 b.2]
 | n,[],_::_,[],_,_,_,r=>by simp only[c9] at r
 | n,[],_::_,_::_,_,_,r,_=>by simp only[c9] at r
 | n,_::_,[],[],_,_,r,_=>by simp only[c9] at r
 | n,_::_,[],_::_,_,_,_,r=>by simp only[c9] at r
 | n,_::_,_::_,[],_,_,r,_=>by simp only[c9] at r
end
theorem qD{a:List V}{ds:List D}{b:List Value}{j:Nat}(f:Vals a b)(g:c9 X.K H a ds)(l:j<b.toArray.size):∃v,RelV v b.toArray[j]/\Rep X.K H v (ds.getD j .non)/\ds.getD j .non∈ds:=by
 have i:j<b.length:=by simpa using l
 have e:j<a.length:=by rw[f.length];show i
 have c:j<ds.length:=by rw[<-g.length];show e
 obtain⟨u,h,k⟩:=f.get (ah e);obtain⟨d,hd,m⟩:=g.Bj (ah e);rw[ah i] at h;rw[ah c] at hd;cases h;cases hd;show⟨a[j],?_,?_,?_⟩
 .simpa using k
 .simpa[List.getD,c] using m
 simp[List.getD,c]
noncomputable def xJ:D->Bool
 | .non=>true
 | .bl _=>true
 | .int _=>true
 | .str _=>true
 | _=>false
theorem Ju{d e:D}{x y:V}(hd:xJ d=true)(he:xJ e=true)(b:Rep X.K H x d)(a:Rep X.K H y e):BJ x=true/\BJ y=true/\Hv x y=fk d e:=by
 cases d<;>first | cases hd | skip
 all_goals (cases e<;>first | cases he | skip)
 all_goals
  simp only[Rep] at b a;subst b a;show⟨rfl,rfl,by simp[Hv,fk]⟩
theorem zb(I:Inv X W σ H s):∀(n:Nat)(A:Around)(d e:D)(x y:V)(v u:Value),fG n d->fG n e->A.units+n<cLine->Rep X.K H x d->Rep X.K H y e->RelV x v->RelV y u->EqAt A s v u (fk d e):=by
 intro n;induction n with
 | zero=>
  intro A d e x y v u hd he U f c l k;have fd:xJ d=true:=by cases d<;>first | rfl | cases hd
  have J:xJ e=true:=by cases e<;>first | rfl | cases he
  obtain⟨C,B,L⟩:=Ju fd J f c;rw[<-L];show Iu l k C B
 | succ n T=>
  intro A d e x y v u hd he U f c l k;have i:A.units<cLine:=by ext
  have S:A.in1.units+n<cLine:=by show A.units+1+n<cLine;ext
  by_cases fd:xJ d=true
  .by_cases J:xJ e=true
   .obtain⟨C,B,L⟩:=Ju fd J f c;rw[<-L];show Iu l k C B
   cases e<;>first | show absurd rfl J | skip
   case tup es=>
    simp only[Rep] at c;obtain⟨b,ys,rfl,q,rs⟩:=c;cases k;obtain⟨its,o,z,_⟩:=I.tuple (iz.of q);have g:s.heap.IsTuple b its.toArray:=z;cases d<;>first | cases fd | skip
    .simp only[Rep] at f;subst f;cases l;simpa only[fk] using EqAt.none_tuple g i
    .simp only[Rep] at f;subst f;cases l;simpa only[fk] using EqAt.bool_tuple _ g i
    .simp only[Rep] at f;subst f;obtain⟨t,rfl⟩:=l;simpa only[fk] using EqAt.int_tuple _ t g i
    simp only[Rep] at f;subst f;obtain⟨t,rfl⟩:=l;simpa only[fk] using EqAt.str_tuple _ t g i
   case lst es=>
    simp only[Rep] at c;obtain⟨b,ys,rfl,q,rs⟩:=c;cases k;obtain⟨its,o,z,_⟩:=I.list q.sq;have g:=z.isList;cases d<;>first | cases fd | skip
    .simp only[Rep] at f;subst f;cases l;simpa only[fk] using EqAt.none_list g i
    .simp only[Rep] at f;subst f;cases l;simpa only[fk] using EqAt.bool_list _ g i
    .simp only[Rep] at f;subst f;obtain⟨t,rfl⟩:=l;simpa only[fk] using EqAt.int_list _ t g i
    simp only[Rep] at f;subst f;obtain⟨t,rfl⟩:=l;simpa only[fk] using EqAt.str_list _ t g i
   case obj=>cases he
   case dic=>cases he
   case dit=>cases he
   case exc=>cases he
  cases d<;>first | show absurd rfl fd | skip
  case tup ds=>
   have Q:=f;simp only[Rep] at f;obtain⟨a,xs,rfl,q,rs⟩:=f;cases l;obtain⟨its,o,z,_⟩:=I.tuple (iz.of q);have g:s.heap.IsTuple a its.toArray:=z;cases e
   case non=>simp only[Rep] at c;subst c;cases k;simpa only[fk] using EqAt.tuple_none g i
   case bl=>simp only[Rep] at c;subst c;cases k;simpa only[fk] using EqAt.tuple_bool _ g i
   case int=>simp only[Rep] at c;subst c;obtain⟨t,rfl⟩:=k;simpa only[fk] using EqAt.tuple_int _ t g i
   case str=>simp only[Rep] at c;subst c;obtain⟨t,rfl⟩:=k;simpa only[fk] using EqAt.tuple_str _ t g i
   case lst es=>
    simp only[Rep] at c;obtain⟨b,ys,rfl,p,w⟩:=c;cases k;obtain⟨its',r,m,_⟩:=I.list p.sq;simpa only[fk] using EqAt.tuple_list g m.isList i
   case tup es=>
    have R:=c;simp only[Rep] at c;obtain⟨b,ys,rfl,p,w⟩:=c;cases k;obtain⟨its',r,G,_⟩:=I.tuple (iz.of p);by_cases E:a=b
    .subst E;have M:=Cf I (n+1) _ _ _ hd he Q R;rw[<-M,CD (n+1) _ hd];show EqAt.same _
    show EqAt.of_refs E ?_;have h:=RcAt.tuples (e:=λj=>fk (ds.getD j .non) (es.getD j .non)) g (show s.heap.IsTuple b its'.toArray from G) i λj C B=>by
     obtain⟨v1,a1,P,c1⟩:=qD o rs C;obtain⟨v2,a2,O,N⟩:=qD r w B;show T A.in1 _ _ v1 v2 _ _ (hd _ c1) (he _ N) S P O a1 a2
    have l1:its.toArray.size=ds.length:=by rw[aA,<-o.length,rs.length]
    have F:its'.toArray.size=es.length:=by rw[aA,<-r.length,w.length]
    rw[l1,F,EE] at h;simpa only[fk] using h
   case obj=>cases he
   case dic=>cases he
   case dit=>cases he
   case exc=>cases he
  case lst ds=>
   have Q:=f;simp only[Rep] at f;obtain⟨a,xs,rfl,q,rs⟩:=f;cases l;obtain⟨its,o,z,_⟩:=I.list q.sq;have g:=z.isList;cases e
   case non=>simp only[Rep] at c;subst c;cases k;simpa only[fk] using EqAt.list_none g i
   case bl=>simp only[Rep] at c;subst c;cases k;simpa only[fk] using EqAt.list_bool _ g i
   case int=>simp only[Rep] at c;subst c;obtain⟨t,rfl⟩:=k;simpa only[fk] using EqAt.list_int _ t g i
   case str=>simp only[Rep] at c;subst c;obtain⟨t,rfl⟩:=k;simpa only[fk] using EqAt.list_str _ t g i
   case tup es=>
    simp only[Rep] at c;obtain⟨b,ys,rfl,p,w⟩:=c;cases k;obtain⟨its',r,m,_⟩:=I.tuple (iz.of p);simpa only[fk] using EqAt.list_tuple g (show s.heap.IsTuple b its'.toArray from m) i
   case lst es=>
    have R:=c;simp only[Rep] at c;obtain⟨b,ys,rfl,p,w⟩:=c;cases k;obtain⟨its',r,G,_⟩:=I.list p.sq;by_cases E:a=b
    .subst E;have M:=Cf I (n+1) _ _ _ hd he Q R;rw[<-M,CD (n+1) _ hd];show EqAt.same _
    show EqAt.of_refs E ?_;have l1:its.toArray.size=ds.length:=by rw[aA,<-o.length,rs.length]
    have F:its'.toArray.size=es.length:=by rw[aA,<-r.length,w.length]
    by_cases m:ds.length=es.length
    .have h:=RcAt.lists (e:=λj=>fk (ds.getD j .non) (es.getD j .non)) g G.isList (by rw[l1,F,m]) i λj C B=>by
      obtain⟨v1,a1,P,c1⟩:=qD o rs C;obtain⟨v2,a2,O,N⟩:=qD r w B;show T A.in1 _ _ v1 v2 _ _ (hd _ c1) (he _ N) S P O a1 a2
     rw[l1,<-zm ds es m] at h;simpa only[fk] using h
    have h:=RcAt.lists_lengths (A:=A) g G.isList (by rw[l1,F];simpa using m) i;simp only[fk,zo m];show h
   case obj=>cases he
   case dic=>cases he
   case dit=>cases he
   case exc=>cases he
  case obj=>cases hd
  case dic=>cases hd
  case dit=>cases hd
  case exc=>cases hd
end
section
variable{X:Cx}{K':List (Addr×Obj)}{σ:St}{H:Hp}{s:Shared}
theorem rN{y:V}{u:Value}(r:Rep X.K H y .non)(q:RelV y u):u=.none:=by simp only[Rep] at r;subst r;cases q;rfl
theorem rP{y:V}{u:Value}{c:Bool}(r:Rep X.K H y (.bl c))(q:RelV y u):u=.bool c:=by simp only[Rep] at r;subst r;cases q;rfl
theorem rO{y:V}{u:Value}{i:Int}(r:Rep X.K H y (.int i))(q:RelV y u):∃t,u=.int i t:=by simp only[Rep] at r;subst r;show q
theorem rM{y:V}{u:Value}{x:Str}(r:Rep X.K H y (.str x))(q:RelV y u):∃t,u=.str x t:=by simp only[Rep] at r;subst r;show q
theorem tZ{y:V}{u:Value}{es:List D}(I:Inv X K' σ H s)(r:Rep X.K H y (.tup es))(q:RelV y u):∃b it,u=.ref b/\s.heap.IsTuple b (List.toArray it):=by
 simp only[Rep] at r;obtain⟨b,ys,rfl,h,_⟩:=r;cases q;obtain⟨it,_,a,_⟩:=I.tuple (iz.of h);show⟨b,it,rfl,a⟩
theorem t4{y:V}{u:Value}{es:List D}(I:Inv X K' σ H s)(r:Rep X.K H y (.lst es))(q:RelV y u):∃b it,u=.ref b/\s.heap.IsList b (List.toArray it):=by
 simp only[Rep] at r;obtain⟨b,ys,rfl,h,_⟩:=r;cases q;obtain⟨it,_,a,_⟩:=I.list h.sq;show⟨b,it,rfl,a.isList⟩
theorem OY(I:Inv X K' σ H s):∀(n:Nat)(A:Around)(d e:D)(x y:V)(v u:Value),fG n d->fG n e->A.units+n<cLine->Rep X.K H x d->Rep X.K H y e->RelV x v->RelV y u->RcAt A s v u (fk d e):=by
 intro n A d e x y v u hd he N l c m f;have i:A.units<cLine:=by ext
 cases d
 case non=>
  simp only[Rep] at l;subst l;cases m;cases e
  case non=>cases rN c f;show RcAt.none_none
  case bl=>cases rP c f;show RcAt.none_bool _
  case int=>obtain⟨t,rfl⟩:=rO c f;show RcAt.none_int _ t
  case str=>obtain⟨t,rfl⟩:=rM c f;show RcAt.none_str _ t
  case tup=>obtain⟨b,it,rfl,g⟩:=tZ I c f;show RcAt.none_tuple g i
  case lst=>obtain⟨b,it,rfl,g⟩:=t4 I c f;show RcAt.none_list g i
  all_goals (cases n<;>cases he)
 case bl a=>
  simp only[Rep] at l;subst l;cases m;cases e
  case non=>cases rN c f;show RcAt.bool_none _
  case bl=>cases rP c f;show RcAt.bool_bool _ _
  case int=>obtain⟨t,rfl⟩:=rO c f;show RcAt.bool_int _ _ t
  case str=>obtain⟨t,rfl⟩:=rM c f;show RcAt.bool_str _ _ t
  case tup=>obtain⟨b,it,rfl,g⟩:=tZ I c f;show RcAt.bool_tuple _ g i
  case lst=>obtain⟨b,it,rfl,g⟩:=t4 I c f;show RcAt.bool_list _ g i
  all_goals (cases n<;>cases he)
 case int a=>
  simp only[Rep] at l;subst l;obtain⟨t0,rfl⟩:=m;cases e
  case non=>cases rN c f;show RcAt.int_none _ t0
  case bl=>cases rP c f;show RcAt.int_bool _ t0 _
  case int=>obtain⟨t,rfl⟩:=rO c f;show RcAt.int_int _ t0 _ t
  case str=>obtain⟨t,rfl⟩:=rM c f;show RcAt.int_str _ t0 _ t
  case tup=>obtain⟨b,it,rfl,g⟩:=tZ I c f;show RcAt.int_tuple _ t0 g i
  case lst=>obtain⟨b,it,rfl,g⟩:=t4 I c f;show RcAt.int_list _ t0 g i
  all_goals (cases n<;>cases he)
 case str a=>
  simp only[Rep] at l;subst l;obtain⟨t0,rfl⟩:=m;cases e
  case non=>cases rN c f;show RcAt.str_none _ t0
  case bl=>cases rP c f;show RcAt.str_bool _ t0 _
  case int=>obtain⟨t,rfl⟩:=rO c f;show RcAt.str_int _ t0 _ t
  case str=>obtain⟨t,rfl⟩:=rM c f;show RcAt.str_str _ t0 _ t
  case tup=>obtain⟨b,it,rfl,g⟩:=tZ I c f;show RcAt.str_tuple _ t0 g i
  case lst=>obtain⟨b,it,rfl,g⟩:=t4 I c f;show RcAt.str_list _ t0 g i
  all_goals (cases n<;>cases he)
 case tup ds=>
  cases n with
  | zero=>cases hd
  | succ n=>
  have C:A.in1.units+n<cLine:=by show A.units+1+n<cLine;ext
  simp only[Rep] at l;obtain⟨a,xs,rfl,q,rs⟩:=l;cases m;obtain⟨its,o,F,_⟩:=I.tuple (iz.of q);have k:s.heap.IsTuple a its.toArray:=F;cases e
  case non=>cases rN c f;show RcAt.tuple_none k i
  case bl=>cases rP c f;show RcAt.tuple_bool _ k i
  case int=>obtain⟨t,rfl⟩:=rO c f;show RcAt.tuple_int _ t k i
  case str=>obtain⟨t,rfl⟩:=rM c f;show RcAt.tuple_str _ t k i
  case lst es=>obtain⟨b,it,rfl,g⟩:=t4 I c f;show RcAt.tuple_list k g i
  case tup es=>
   simp only[Rep] at c;obtain⟨b,ys,rfl,E,r⟩:=c;cases f;obtain⟨its',p,z,_⟩:=I.tuple (iz.of E);have h:=RcAt.tuples (e:=λj=>fk (ds.getD j .non) (es.getD j .non)) k (show s.heap.IsTuple b its'.toArray from z) i λj G g=>by
    obtain⟨v1,a1,M,c1⟩:=qD o rs G;obtain⟨v2,a2,L,J⟩:=qD p r g;show zb I n A.in1 _ _ v1 v2 _ _ (hd _ c1) (he _ J) C M L a1 a2
   have l1:its.toArray.size=ds.length:=by rw[aA,<-o.length,rs.length]
   have w:its'.toArray.size=es.length:=by rw[aA,<-p.length,r.length]
   rw[l1,w,EE] at h;simpa only[fk] using h
  all_goals cases he
 case lst ds=>
  cases n with
  | zero=>cases hd
  | succ n=>
  have C:A.in1.units+n<cLine:=by show A.units+1+n<cLine;ext
  simp only[Rep] at l;obtain⟨a,xs,rfl,q,rs⟩:=l;cases m;obtain⟨its,o,F,_⟩:=I.list q.sq;have k:=F.isList;cases e
  case non=>cases rN c f;show RcAt.list_none k i
  case bl=>cases rP c f;show RcAt.list_bool _ k i
  case int=>obtain⟨t,rfl⟩:=rO c f;show RcAt.list_int _ t k i
  case str=>obtain⟨t,rfl⟩:=rM c f;show RcAt.list_str _ t k i
  case tup es=>obtain⟨b,it,rfl,g⟩:=tZ I c f;show RcAt.list_tuple k g i
  case lst es=>
   simp only[Rep] at c;obtain⟨b,ys,rfl,E,r⟩:=c;cases f;obtain⟨its',p,z,_⟩:=I.list E.sq;have l1:its.toArray.size=ds.length:=by rw[aA,<-o.length,rs.length]
   have w:its'.toArray.size=es.length:=by rw[aA,<-p.length,r.length]
   by_cases B:ds.length=es.length
   .have h:=RcAt.lists (e:=λj=>fk (ds.getD j .non) (es.getD j .non)) k z.isList (by rw[l1,w,B]) i λj G g=>by
     obtain⟨v1,a1,M,c1⟩:=qD o rs G;obtain⟨v2,a2,L,J⟩:=qD p r g;show zb I n A.in1 _ _ v1 v2 _ _ (hd _ c1) (he _ J) C M L a1 a2
    rw[l1,<-zm ds es B] at h;simpa only[fk] using h
   have h:=RcAt.lists_lengths (A:=A) k z.isList (by rw[l1,w];simpa using B) i;simp only[fk,zo B];show h
  all_goals cases he
 all_goals (cases n<;>cases hd)
theorem Q2(I:Inv X K' σ H s):∀(n:Nat)(A:Around)(d e:D)(x y:V)(v u:Value),fG n d->fG n e->A.units+n<cLine->Rep X.K H x d->Rep X.K H y e->RelV x v->RelV y u->RcNeAt A s v u (!fk d e):=by
 intro n A d e x y v u hd he N l c m f;have i:A.units<cLine:=by ext
 cases d
 case non=>
  simp only[Rep] at l;subst l;cases m;cases e
  case non=>cases rN c f;show RcNeAt.none_none
  case bl=>cases rP c f;show RcNeAt.none_bool _
  case int=>obtain⟨t,rfl⟩:=rO c f;show RcNeAt.none_int _ t
  case str=>obtain⟨t,rfl⟩:=rM c f;show RcNeAt.none_str _ t
  case tup=>obtain⟨b,it,rfl,g⟩:=tZ I c f;show RcNeAt.none_tuple g i
  case lst=>obtain⟨b,it,rfl,g⟩:=t4 I c f;show RcNeAt.none_list g i
  all_goals (cases n<;>cases he)
 case bl a=>
  simp only[Rep] at l;subst l;cases m;cases e
  case non=>cases rN c f;show RcNeAt.bool_none _
  case bl=>cases rP c f;show RcNeAt.bool_bool _ _
  case int=>obtain⟨t,rfl⟩:=rO c f;show RcNeAt.bool_int _ _ t
  case str=>obtain⟨t,rfl⟩:=rM c f;show RcNeAt.bool_str _ _ t
  case tup=>obtain⟨b,it,rfl,g⟩:=tZ I c f;show RcNeAt.bool_tuple _ g i
  case lst=>obtain⟨b,it,rfl,g⟩:=t4 I c f;show RcNeAt.bool_list _ g i
  all_goals (cases n<;>cases he)
 case int a=>
  simp only[Rep] at l;subst l;obtain⟨t0,rfl⟩:=m;cases e
  case non=>cases rN c f;show RcNeAt.int_none _ t0
  case bl=>cases rP c f;show RcNeAt.int_bool _ t0 _
  case int=>obtain⟨t,rfl⟩:=rO c f;show RcNeAt.int_int _ t0 _ t
  case str=>obtain⟨t,rfl⟩:=rM c f;show RcNeAt.int_str _ t0 _ t
  case tup=>obtain⟨b,it,rfl,g⟩:=tZ I c f;show RcNeAt.int_tuple _ t0 g i
  case lst=>obtain⟨b,it,rfl,g⟩:=t4 I c f;show RcNeAt.int_list _ t0 g i
  all_goals (cases n<;>cases he)
 case str a=>
  simp only[Rep] at l;subst l;obtain⟨t0,rfl⟩:=m;cases e
  case non=>cases rN c f;show RcNeAt.str_none _ t0
  case bl=>cases rP c f;show RcNeAt.str_bool _ t0 _
  case int=>obtain⟨t,rfl⟩:=rO c f;show RcNeAt.str_int _ t0 _ t
  case str=>obtain⟨t,rfl⟩:=rM c f;show RcNeAt.str_str _ t0 _ t
  case tup=>obtain⟨b,it,rfl,g⟩:=tZ I c f;show RcNeAt.str_tuple _ t0 g i
  case lst=>obtain⟨b,it,rfl,g⟩:=t4 I c f;show RcNeAt.str_list _ t0 g i
  all_goals (cases n<;>cases he)
 case tup ds=>
  cases n with
  | zero=>cases hd
  | succ n=>
  have C:A.in1.units+n<cLine:=by show A.units+1+n<cLine;ext
  simp only[Rep] at l;obtain⟨a,xs,rfl,q,rs⟩:=l;cases m;obtain⟨its,o,F,_⟩:=I.tuple (iz.of q);have k:s.heap.IsTuple a its.toArray:=F;cases e
  case non=>cases rN c f;show RcNeAt.tuple_none k i
  case bl=>cases rP c f;show RcNeAt.tuple_bool _ k i
  case int=>obtain⟨t,rfl⟩:=rO c f;show RcNeAt.tuple_int _ t k i
  case str=>obtain⟨t,rfl⟩:=rM c f;show RcNeAt.tuple_str _ t k i
  case lst es=>obtain⟨b,it,rfl,g⟩:=t4 I c f;show RcNeAt.tuple_list k g i
  case tup es=>
   simp only[Rep] at c;obtain⟨b,ys,rfl,E,r⟩:=c;cases f;obtain⟨its',p,z,_⟩:=I.tuple (iz.of E);have h:=RcNeAt.tuples (e:=λj=>fk (ds.getD j .non) (es.getD j .non)) k (show s.heap.IsTuple b its'.toArray from z) i λj G g=>by
    obtain⟨v1,a1,M,c1⟩:=qD o rs G;obtain⟨v2,a2,L,J⟩:=qD p r g;show zb I n A.in1 _ _ v1 v2 _ _ (hd _ c1) (he _ J) C M L a1 a2
   have l1:its.toArray.size=ds.length:=by rw[aA,<-o.length,rs.length]
   have w:its'.toArray.size=es.length:=by rw[aA,<-p.length,r.length]
   rw[l1,w,EE] at h;simpa only[fk] using h
  all_goals cases he
 case lst ds=>
  cases n with
  | zero=>cases hd
  | succ n=>
  have C:A.in1.units+n<cLine:=by show A.units+1+n<cLine;ext
  simp only[Rep] at l;obtain⟨a,xs,rfl,q,rs⟩:=l;cases m;obtain⟨its,o,F,_⟩:=I.list q.sq;have k:=F.isList;cases e
  case non=>cases rN c f;show RcNeAt.list_none k i
  case bl=>cases rP c f;show RcNeAt.list_bool _ k i
  case int=>obtain⟨t,rfl⟩:=rO c f;show RcNeAt.list_int _ t k i
  case str=>obtain⟨t,rfl⟩:=rM c f;show RcNeAt.list_str _ t k i
  case tup es=>obtain⟨b,it,rfl,g⟩:=tZ I c f;show RcNeAt.list_tuple k g i
  case lst es=>
   simp only[Rep] at c;obtain⟨b,ys,rfl,E,r⟩:=c;cases f;obtain⟨its',p,z,_⟩:=I.list E.sq;have l1:its.toArray.size=ds.length:=by rw[aA,<-o.length,rs.length]
   have w:its'.toArray.size=es.length:=by rw[aA,<-p.length,r.length]
   by_cases B:ds.length=es.length
   .have h:=RcNeAt.lists (e:=λj=>fk (ds.getD j .non) (es.getD j .non)) k z.isList (by rw[l1,w,B]) i λj G g=>by
     obtain⟨v1,a1,M,c1⟩:=qD o rs G;obtain⟨v2,a2,L,J⟩:=qD p r g;show zb I n A.in1 _ _ v1 v2 _ _ (hd _ c1) (he _ J) C M L a1 a2
    rw[l1,<-zm ds es B] at h;simpa only[fk] using h
   have h:=RcNeAt.lists_lengths (A:=A) k z.isList (by rw[l1,w];simpa using B) i;simp only[fk,zo B];show h
  all_goals cases he
 all_goals (cases n<;>cases hd)
end
section
variable{X:Cx}
def oEq:O2:=λd e Q=>fG 9 d/\fG 9 e/\Q (.fz (.bl (fk d e)))
def yn:O2:=λd e Q=>fG 9 d/\fG 9 e/\Q (.fz (.bl (!fk d e)))
theorem iU(f:X.A.units+64<cLine):mP X (compareOp .Eq) oEq:=by
 show⟨λx y H Q=>∃d e,fG 9 d/\fG 9 e/\Rep X.K H x d/\Rep X.K H y e/\Q (.bl (fk d e)) H,λg s σ H x y v u Q I b a h=>?_,λG H x y d e Q P s b a h k=>?_⟩
 .obtain⟨d,e,hd,he,c,re,q⟩:=h;show OY I 9 X.A d e x y v u hd he (by ext) c re b a _ _ _ _ ⟨.bl _,H,I,rfl,q⟩
 show⟨d,e,h.1,h.2.1,b.mono s,a.mono s,k _ _ _ G (.refl s) (iw (nc _ _ _)) h.2.2⟩
theorem DG(f:X.A.units+64<cLine):mP X (compareOp .NotEq) yn:=by
 show⟨λx y H Q=>∃d e,fG 9 d/\fG 9 e/\Rep X.K H x d/\Rep X.K H y e/\Q (.bl (!fk d e)) H,λg s σ H x y v u Q I b a h=>?_,λG H x y d e Q P s b a h k=>?_⟩
 .obtain⟨d,e,hd,he,c,re,q⟩:=h;show Q2 I 9 X.A d e x y v u hd he (by ext) c re b a _ _ _ _ ⟨.bl _,H,I,rfl,q⟩
 show⟨d,e,h.1,h.2.1,b.mono s,a.mono s,k _ _ _ G (.refl s) (iw (nc _ _ _)) h.2.2⟩
noncomputable def inD(d:D)(ds:List D):Bool:=ds.any λe=>fk e d
def kX(a:Bool):O2:=λd e Q=>match d,e with
 | .str x,.str y=>Q (.fz (.bl (if a then !(!(Builtin.Str.occurrences y x 0 y.length 1).isEmpty) else !(Builtin.Str.occurrences y x 0 y.length 1).isEmpty)))
 | d,.lst es=>fG 8 d/\(∀e∈es,fG 8 e)/\Q (.fz (.bl (if a then !inD d es else inD d es)))
 | d,.tup es=>fG 8 d/\(∀e∈es,fG 8 e)/\Q (.fz (.bl (if a then !inD d es else inD d es)))
 | _,_=>False
noncomputable def nV(X:Cx)(H:Hp)(d:D)(u:Value):Bool:=open Classical in if h:∃(v:V)(e:D),fG 8 e/\RelV v u/\Rep X.K H v e then fk h.choose_spec.choose d else false
theorem DZ{p:List (Addr×Obj)}{g:St}{H:Hp}{s:Shared}(I:Inv X p g H s){d e:D}{v:V}{u:Value}(he:fG 8 e)(c:RelV v u)(f:Rep X.K H v e):nV X H d u=fk e d:=by
 have h:∃(v:V)(e:D),fG 8 e/\RelV v u/\Rep X.K H v e:=⟨v,e,he,c,f⟩
 unfold nV;rw[dif_pos h];obtain⟨m,l,k⟩:=h.choose_spec.choose_spec;have n:h.choose=v:=RelV.inj l c;have j:∀b,b=v->∀a,fG 8 a->Rep X.K H b a->a=e:=λb i a o r=>by subst i;show Cf I 8 _ e _ o he r f
 rw[j _ n _ m k]
theorem za{f:List (Addr×Obj)}{c:St}{H:Hp}{s:Shared}(I:Inv X f c H s){d:D}:∀{es:List D}{b:List V}{us:List Value},(∀e∈es,fG 8 e)->Vals b us->c9 X.K H b es->us.any (nV X H d)=inD d es
 | [],_,_,_,a,re=>by
  cases a
  .rfl
  simp only[c9] at re
 | e::es,_,_,h,a,re=>by
  cases a with
  | nil=>simp only[c9] at re
  | cons r t=>
   simp only[c9] at re;rw[cA,DZ I (h e (by simp)) r re.1,za I (λx hx=>h x (by simp[hx])) t re.2];rfl
theorem zk{o:List (Addr×Obj)}{f:St}{H:Hp}{s:Shared}{A:Around}(I:Inv X o f H s){d:D}{x:V}{v:Value}(hd:fG 8 d)(l:A.units+8<cLine)(g:Rep X.K H x d)(k:RelV x v){es:List D}{a:List V}{b:List Value}
  (he:∀e∈es,fG 8 e) (h:Vals a b) (i:c9 X.K H a es):∀u∈b.toArray,EqAt A s u v (nV X H d u):=λu n=>by
 obtain⟨j,m,e⟩:=Array.mem_iff_getElem.mp n;obtain⟨w,a1,c,c1⟩:=qD h i m;rw[e] at a1;rw[DZ I (he _ c1) a1 c];show zb I 8 A _ _ w x _ _ (he _ c1) hd l c g a1 k
theorem OX(i:X.A.units+64<cLine):jj X (compareOp .In) (λx y H Q=>∃p d es b,y=.ref p/\(gA X.K H p b\/iz X.K H p b)/\fG 8 d/\(∀e∈es,fG 8 e)/\Rep X.K H x d/\c9 X.K H b es/\Q (.bl (inD d es)) H):=by
 intro j s σ H x y v u Q I c g h;obtain⟨p,d,es,b,rfl,a,hd,he,f,re,q⟩:=h;cases g;rcases a with a | a
 .obtain⟨its,r,pl,hz⟩:=I.list a;show SeqAt.in_listAt (nV X H d) pl.isList (zk I hd (by show X.A.units+1+8<cLine;ext) f c he r re) ⟨.bl _,H,I,rfl,?_⟩;rw[show its.toArray.any (nV X H d)=its.any (nV X H d) by simp,za I he r re];show q
 obtain⟨its,r,pl,hz⟩:=I.tuple a;show SeqAt.in_tupleAt (nV X H d) pl (zk I hd (by show X.A.units+1+8<cLine;ext) f c he r re) ⟨.bl _,H,I,rfl,?_⟩;rw[show its.toArray.any (nV X H d)=its.any (nV X H d) by simp,za I he r re];show q
theorem Sf(i:X.A.units+64<cLine):jj X (compareOp .NotIn) (λx y H Q=>∃p d es b,y=.ref p/\(gA X.K H p b\/iz X.K H p b)/\fG 8 d/\(∀e∈es,fG 8 e)/\Rep X.K H x d/\c9 X.K H b es/\Q (.bl (!inD d es)) H):=by
 intro j s σ H x y v u Q I c g h;obtain⟨p,d,es,b,rfl,a,hd,he,f,re,q⟩:=h;cases g;rcases a with a | a
 .obtain⟨its,r,pl,hz⟩:=I.list a;show SeqAt.notIn_listAt (nV X H d) pl.isList (zk I hd (by show X.A.units+1+8<cLine;ext) f c he r re) ⟨.bl _,H,I,rfl,?_⟩;rw[show its.toArray.any (nV X H d)=its.any (nV X H d) by simp,za I he r re];show q
 obtain⟨its,r,pl,hz⟩:=I.tuple a;show SeqAt.notIn_tupleAt (nV X H d) pl (zk I hd (by show X.A.units+1+8<cLine;ext) f c he r re) ⟨.bl _,H,I,rfl,?_⟩;rw[show its.toArray.any (nV X H d)=its.any (nV X H d) by simp,za I he r re];show q
theorem rf(i:X.A.units+64<cLine):mP X (compareOp .In) (kX false):=by
 show⟨_,qL.or (OX i),λG H x y d e Q P s c b h k=>?_⟩;unfold kX at h;split at h
 .simp only[Rep] at c b;show .inl ⟨_,_,c,b,k _ _ _ G (.refl s) (iw (nc _ _ _)) h⟩
 .simp only[Rep] at b;obtain⟨a,ys,rfl,g,f⟩:=b;show .inr ⟨a,_,_,ys,rfl,.inl ((s.hE g).sq),h.1,h.2.1,c.mono s,f.mono s,k _ _ _ G (.refl s) (iw (nc _ _ _)) h.2.2⟩
 .simp only[Rep] at b;obtain⟨a,ys,rfl,g,f⟩:=b;show .inr ⟨a,_,_,ys,rfl,.inr (s.oz g),h.1,h.2.1,c.mono s,f.mono s,k _ _ _ G (.refl s) (iw (nc _ _ _)) h.2.2⟩
 show h.elim
theorem Ce(i:X.A.units+64<cLine):mP X (compareOp .NotIn) (kX true):=by
 show⟨_,ng.or (Sf i),λG H x y d e Q P s c b h k=>?_⟩;unfold kX at h;split at h
 .simp only[Rep] at c b;show .inl ⟨_,_,c,b,k _ _ _ G (.refl s) (iw (nc _ _ _)) h⟩
 .simp only[Rep] at b;obtain⟨a,ys,rfl,g,f⟩:=b;show .inr ⟨a,_,_,ys,rfl,.inl ((s.hE g).sq),h.1,h.2.1,c.mono s,f.mono s,k _ _ _ G (.refl s) (iw (nc _ _ _)) h.2.2⟩
 .simp only[Rep] at b;obtain⟨a,ys,rfl,g,f⟩:=b;show .inr ⟨a,_,_,ys,rfl,.inr (s.oz g),h.1,h.2.1,c.mono s,f.mono s,k _ _ _ G (.refl s) (iw (nc _ _ _)) h.2.2⟩
 show h.elim
noncomputable def vV:D->Bool
 | .non=>true
 | _=>false
def kB(a:Bool):O2:=λd e Q=>match e with
 | .non=>Q (.fz (.bl (if a then !vV d else vV d)))
 | _=>False
theorem J1{K:J'}{G:Hp}{x:V}{d:D}(r:Rep K G x d):decide (x=.non)=vV d:=by
 cases d<;>simp only[Rep] at r
 case non=>subst r;rfl
 case bl=>subst r;rfl
 case int=>subst r;rfl
 case str=>subst r;rfl
 case tup=>obtain⟨_,_,rfl,_⟩:=r;rfl
 case lst=>obtain⟨_,_,rfl,_⟩:=r;rfl
 case obj=>obtain⟨_,_,_,_,rfl,_⟩:=r;rfl
 case dic=>obtain⟨_,_,_,rfl,_⟩:=r;rfl
 case dit=>obtain⟨_,_,_,rfl,_⟩:=r;rfl
 case exc=>obtain⟨_,_,_,rfl,_⟩:=r;rfl
theorem vP:mP X (compareOp .Is) (kB false):=by
 show⟨_,Pb,λG H x y d e Q P s b a h k=>?_⟩;unfold kB at h;split at h
 .simp only[Rep] at a;show⟨a,?_⟩;rw[J1 b];show k _ _ _ G (.refl s) (iw (nc _ _ _)) h
 show h.elim
theorem p5:mP X (compareOp .IsNot) (kB true):=by
 show⟨_,QT,λG H x y d e Q P s b a h k=>?_⟩;unfold kB at h;split at h
 .simp only[Rep] at a;show⟨a,?_⟩;rw[J1 b];show k _ _ _ G (.refl s) (iw (nc _ _ _)) h
 show h.elim
end
section
variable{X:Cx}{pos:Pos}{a b c:Expr}{ta tb tc:TD}{pa vq:ki}{nY:List Expr}
def yO(t:ki):ki:=λa Q=>t a λk=>Q (!k)
def my(t u:ki):ki:=λa Q=>t a λk=>if k=true then u a Q else Q false
def Dn(t u:ki):ki:=λa Q=>t a λk=>if k=true then Q true else u a Q
theorem DY(h:PB X a pa):PB X (.UnaryOp .Not a pos) (yO pa):=by
 obtain⟨t,p,q⟩:=h;show⟨_,OJ p,λc σ g e G H Q P E h k=>q c σ g e G H _ _ E h λb f i x d=>k _ f i x d⟩
def vJ(X:Cx)(e:Expr)(t:ki):Prop:=∃tt,PW X e tt/\∀(a:Ev)(σ:St)(f d G H:Hp)(Q:Bool->Prop)(P:Bool->Hp->Prop),fm X.K f d a σ G H->t a Q->
 (∀b c g,Ext G H g c->Q b->P b c)->tt σ H P
theorem vJ.pb{e:Expr}{t:ki}(h:vJ X e t):PB X e t:=let⟨tt,p,q⟩:=h;⟨tt,p.pt,q⟩
theorem rC(h:PB X a pa):vJ X (.BoolOp .And [a] pos) pa:=let⟨tt,p,q⟩:=h;⟨tt,QJ p,q⟩
theorem Jt(h:PB X a pa):vJ X (.BoolOp .Or [a] pos) pa:=let⟨tt,p,q⟩:=h;⟨tt,OL p,q⟩
theorem oh(h:PB X a pa)(h':vJ X (.BoolOp .And (b::nY) pos) vq):vJ X (.BoolOp .And (a::b::nY) pos) (my pa vq):=by
 obtain⟨t,p,q⟩:=h;obtain⟨t',m,l⟩:=h';show⟨_,OK p m,λd σ g e G H Q P E h k=>q d σ g e G H _ _ E h λb f i x c=>?_⟩;cases b with
 | true=>rw[if_pos rfl] at c ⊢;show l d σ g e i f Q P (E.ext x) c λo r s j n=>k o r s (x.trans j) n
 | false=>rw[if_neg aY] at c ⊢;show k false f i x c
theorem IT(h:PB X a pa)(h':vJ X (.BoolOp .Or (b::nY) pos) vq):vJ X (.BoolOp .Or (a::b::nY) pos) (Dn pa vq):=by
 obtain⟨t,p,q⟩:=h;obtain⟨t',m,l⟩:=h';show⟨_,Ou p m,λd σ g e G H Q P E h k=>q d σ g e G H _ _ E h λb f i x c=>?_⟩;cases b with
 | true=>rw[if_pos rfl] at c ⊢;show k true f i x c
 | false=>rw[if_neg aY] at c ⊢;show l d σ g e i f Q P (E.ext x) c λo r s j n=>k o r s (x.trans j) n
def NN(t:TD):TD:=λa Q=>t a λr=>match r with
 | .fz (.bl k)=>Q (.fz (.bl (!k)))
 | _=>False
def uQ(t:ki)(ta tb:TD):TD:=λa Q=>t a λk=>if k=true then ta a Q else tb a Q
theorem ya(h:PB X c pa)(A:PD X a ta)(d:PD X b tb):PD X (.IfExp c a b pos) (uQ pa ta tb):=by
 obtain⟨t,p,q⟩:=h;obtain⟨t1,z,w⟩:=A;obtain⟨B,y,v⟩:=d;show⟨_,Sa p z y,λf σ o m G H Q P E h k=>q f σ o m G H _ _ E h λb s u x e=>?_⟩;cases b with
 | true=>rw[if_pos rfl] at e ⊢;show w f σ o m u s Q P (E.ext x) e λj l i n g r d=>k j l i n (x.trans g) (r.je x.h) d
 | false=>rw[if_neg aY] at e ⊢;show v f σ o m u s Q P (E.ext x) e λj l i n g r d=>k j l i n (x.trans g) (r.je x.h) d
def v8(o c:O2)(ta tb tc:TD):TD:=λa Q=>ta a λb=>tb a λrb=>o b.val rb.val λr=>match r with
 | .fz (.bl k)=>if k=true then tc a λrc=>c rb.val rc.val Q else Q (.fz (.bl false))
 | _=>False
abbrev rS(K:J')(t:TD)(d:TE):Prop:=∀(b:Ev)(σ:St)(f e G H:Hp)(Q:R->Prop)(P:VK),fm K f e b σ G H->t b Q->(∀v a r c,Ext G H c a->gJ K c a H v r->Q r->P v a)->d σ H P
theorem Q0{K:J'}{g g':Int->Int->Bool}{r q p:TE}(C:rS K ta r)(B:rS K tb q)(A:rS K tc p) :
  rS K (v8 (hV λi j=>.bl (g i j)) (hV λi j=>.bl (g' i j)) ta tb tc) (Iy (qK λi j=>.bl (g i j)) (qK λi j=>.bl (g' i j)) r q p):=by
 show λe σ n m G H Q P E h k=>C e σ n m G H _ _ E h λv1 H1 W G1 x R y=>?_
 obtain⟨N,b,o,_⟩:=R.freeze x;show B e σ n m N H1 _ _ (E.ext b) y λv2 O V G2 w S a=>?_
 obtain⟨u,f,c,_⟩:=S.freeze w;unfold hV at a;split at a
 .rename_i i j J t;rw[J] at o;rw[t] at c;simp only[Rep] at o c;show⟨i,j,o,c,_,rfl,?_⟩;dsimp only at a;cases s:g i j with
  | false=>
   rw[s,if_neg aY] at a;rw[if_neg aY];show k _ _ _ u (b.trans f) (iw (nc _ _ _)) a
  | true=>
   rw[s,if_pos rfl] at a;rw[if_pos rfl];show A e σ n m u O _ _ (E.ext (b.trans f)) a λT Y U Z v z d=>?_
   obtain⟨L,M,l,_⟩:=z.freeze v;rw[t] at d;split at d
   .rename_i X D I F;cases I;rw[F] at l;simp only[Rep] at l;show⟨j,D,c,l,k _ _ _ L ((b.trans f).trans M) (iw (nc _ _ _)) d⟩
   show d.elim
 show a.elim
theorem OW{K:J'}{t:TD}{j:TE}(q:rS K t j)(d:Ev)(c:St)(m l G H:Hp)(Q:Bool->Prop)(P:Bool->Hp->Prop)(E:fm K m l d c G H)(h:eG t d Q)(k:∀b a i,Ext G H i a->Q b->P b a):DT j c H P:=by
 show q d c m l G H _ _ E h λv a r i n o g=>?_
 split at g
 .rename_i f;have e:v=.bl f:=by simpa only[gJ,Rep] using o
  show⟨f,e,k f a i n g⟩
 show g.elim
theorem EC{e d:CmpOp}{g g':Int->Int->Bool}(p:jj X (compareOp e) (qK λi j=>.bl (g i j)))(f:jj X (compareOp d) (qK λi j=>.bl (g' i j)))(t:PD X a ta)(s:PD X b tb)(r:PD X c tc)(q:lastMarks [e,d] [b,c]=false:=by with_unfolding_all rfl) :
  PB X (.Compare a [e,d] [b,c] pos) (eG (v8 (hV λi j=>.bl (g i j)) (hV λi j=>.bl (g' i j)) ta tb tc)):=by
 obtain⟨t1,o,l⟩:=t;obtain⟨u,n,k⟩:=s;obtain⟨t3,m,h⟩:=r;show⟨_,Rg p f o n m q,OW (Q0 l k h)⟩
def eF:O2:=λd e Q=>match d,e with
 | .lst ds,.int i=>∃d,fK ds i=some d/\Q (.fz d)
 | .tup ds,.int i=>∃d,fK ds i=some d/\Q (.fz d)
 | .str z,.int i=>z.length<=sizeLine/\∃c,fK z.cps.toList i=some c/\Q (.fz (.str ⟨#[c]⟩))
 | _,_=>False
theorem Ee{K:J'}{G:Hp}{xs:List V}{ds:List D}{i:Int}{d:D}(r:c9 K G xs ds)(h:fK ds i=some d):∃v,fK xs i=some v/\Rep K G v d:=by
 unfold fK at h ⊢;rw[r.length];cases e:qg ds.length i with
 | none=>rw[e] at h;cases h
 | some j=>
  rw[e] at h;simp only[Option.bind_some] at h ⊢;show r.get h
theorem eP(A:PD X a ta)(z:PD X b tb)(u:Cg b:=by intro _ _;rfl):PD X (.Subscript a b pos) (dg eF ta tb):=by
 obtain⟨t1,t,n⟩:=A;obtain⟨B,o,m⟩:=z;show⟨_,DM Iw t o u,BY (r:=LZ X.K) (λG H x y d e Q P s g f h k=>?_) n m⟩;unfold eF at h;split at h
 .simp only[Rep] at g f;obtain⟨p,xs,rfl,l,rs⟩:=g;obtain⟨d,hd,q⟩:=h;obtain⟨v,j,i⟩:=Ee rs hd;show .inl ⟨p,xs,_,v,rfl,f,(s.hE l).sq,j,k _ _ _ G (.refl s) (iw i) q⟩
 .simp only[Rep] at g f;obtain⟨p,xs,rfl,l,rs⟩:=g;obtain⟨d,hd,q⟩:=h;obtain⟨v,j,i⟩:=Ee rs hd;show .inr (.inl ⟨p,xs,_,v,rfl,f,s.oz l,j,k _ _ _ G (.refl s) (iw i) q⟩)
 .simp only[Rep] at g f;obtain⟨hz,c,w,q⟩:=h;show .inr (.inr ⟨_,_,c,g,f,hz,w,k _ _ _ G (.refl s) (iw (wd _ _ _)) q⟩)
 show h.elim
def vO(i:Nat)(tb:TD):TD:=λa Q=>match gt a i with
 | .ow ds=>tb a λrb=>match rb.val with
  | .int j=>∃d,fK ds j=some d/\Q (.fz d)
  | _=>False
 | _=>False
theorem BX(i:Nat){x:Str}{w:Pos}(f:PD X b tb)(D:X.N[i]?=some x:=by rfl)(A:oR X.env.scope x:=by first | show Or.inl rfl | show Or.inr (Or.inl rfl) | show Or.inr (Or.inr rfl))(B:Cg b:=by intro _ _;rfl)(hd:(x==("__debug__":Str))=false:=by decide)
  (z:(x==("__classdict__":Str))=false:=by decide):PD X (.Subscript (.Name x w) b pos) (vO i tb):=by
 obtain⟨O,u,t⟩:=f;show⟨_,DM Iw (pZ D A hd z) u B,λl σ M K G H Q P E h k=>?_⟩;unfold vO at h;split at h
 .rename_i ds C;obtain⟨p,xs,I,f,S,R,F⟩:=E.ow i ds C;show⟨_,I,t l σ M K G H _ _ E h λv T r U m s e=>?_⟩;obtain⟨L,a,c,_⟩:=s.freeze m;split at e
  .rename_i j J;obtain⟨d,o,q⟩:=e;obtain⟨n,hw,y⟩:=Ee (F.mono a.g) o;rw[J] at c;simp only[Rep] at c;show .inl ⟨p,xs,_,n,rfl,c,gA.of (a.h _ _ f),hw,k _ _ _ L a (iw y) q⟩
  show e.elim
 show h.elim
variable{e:Expr}{es:List Expr}{te:TD}{ts:kj}
def dn:kj:=λ_ Q=>Q []
def df(te:TD)(ts:kj):kj:=λa Q=>te a λr=>ts a λds=>Q (r.val::ds)
theorem dD:nA X [] dn:=⟨_,sf,λa σ c b G H Q P E h k=>k [] H [] G (.refl E.e.s) c9.nil h⟩
theorem dh(h:PD X e te)(s:nA X es ts)(q:starEach (e::es) X.env=(false,eval e X.env)::starEach es X.env:=by rfl):nA X (e::es) (df te ts):=by
 obtain⟨t1,p,n⟩:=h;obtain⟨B,o,m⟩:=s;show⟨_,rn p o q,λa σ f d G H Q P E h k=>n a σ f d G H _ _ E h λv x r C i l t=>?_⟩;obtain⟨z,c,j,_⟩:=l.freeze i;show m a σ f d z x _ _ (E.ext c) t λA w ds y b rs u=>?_
 show k _ w _ y (c.trans b) (c9.cons (j.mono b.g) rs) u
def kz(ts:kj):TD:=λa Q=>ts a λds=>ds.length<=sizeLine/\Q (.fz (.tup ds))
def gF(ts:kj):TD:=λa Q=>ts a λds=>ds.length<=sizeLine/\Q (.ow ds)
theorem mY{i}(h:nA X es ts):PD X (.Tuple es i pos) (kz ts):=by
 obtain⟨t,p,q⟩:=h;show⟨_,O8 p,λf σ m l G H Q P E h k=>q f σ m l G H _ _ E h λa d ds e x rs c=>⟨by rw[rs.length];show c.1,λp j=>?_⟩⟩;have b:Ext e d (upd e p (.tup a)) (upd d p (.tup a)):=.new x.s j;show k _ _ (.fz (.tup ds)) _ (x.trans b) ?_ c.2;show Rep X.K _ _ (.tup ds);simp only[Rep];show⟨p,a,rfl,i7,rs.mono b.g⟩
theorem hU(h:nA X es ts):PD X (.List es pos) (gF ts):=by
 obtain⟨t,p,q⟩:=h;show⟨_,O7 p,λc σ f e G H Q P E h k=>q c σ f e G H _ _ E h λd i ds g x rs b=>⟨by rw[rs.length];show b.1,λp a=>?_⟩⟩;show k _ _ (.ow ds) g (x.trans (.own x.s a)) ⟨p,d,rfl,x.h.free a,x.s.free a,i7,rs⟩ b.2
def se(X:Cx)(f:Value)(o:List D->(R->Prop)->Prop):Prop:=∃r,fc X f r/\∀(G H:Hp)(b:List V)(ds:List D)(Q:R->Prop)(P:VK),dU G H->c9 X.K G b ds->o ds Q->
 (∀v a c d,Ext G H d a->gJ X.K d a H v c->Q c->P v a)->r b H P
def fb(o:List D->(R->Prop)->Prop)(ts:kj):TD:=λa Q=>ts a λds=>o ds Q
theorem Ik{o:List D->(R->Prop)->Prop}{r:List V->Hp->VK->Prop}{t:TA}
  (m:∀(G H:Hp)(b:List V)(ds:List D)(Q:R->Prop)(P:VK),dU G H->c9 X.K G b ds->o ds Q->(∀v a e c,Ext G H c a->gJ X.K c a H v e->Q e->P v a)->r b H P)
  (q:∀(d:Ev)(σ:St)(g f G H:Hp)(Q:List D->Prop)(P:List V->Hp->Prop),fm X.K g f d σ G H->ts d Q->(∀b a ds c,Ext G H c a->c9 X.K c b ds->Q ds->P b a)->t σ H P):rS X.K (fb o ts) (FY r t):=
 λd σ g f G H Q P E h k=>q d σ g f G H _ _ E h λb a ds c x rs n=>m c a b ds Q P x.s rs n λv p e u i j l=>k v p e u (x.trans i) (j.je x.h) l
theorem iy{a:String}{x:Str}{p:Pos}{o:List D->(R->Prop)->Prop}(j:se X (.builtin a) o)(h:X.mg x=none)(d:bootBuiltins x=some (.builtin a))(ha:nA X (e::es) ts)(i:Gl X x:=by rfl)(g:x≠"__name__":=by decide)(c:(x==("__debug__":Str))=false:=by decide)
  (he:starEach (e::es) X.env=(false,eval e X.env)::starEach es X.env:=by rfl) (hpl:(backTo pos (starEach es X.env)).any (·.1)=false:=by rfl):PD X (.Call (.Name x p) (e::es) [] pos) (fb o ts):=by
 obtain⟨r,f,b⟩:=j;obtain⟨t,pp,q⟩:=ha;show⟨_,CG f i h d pp g c he hpl,Ik b q⟩
theorem ph{T:String}{x:Str}{p:Pos}{o:List D->(R->Prop)->Prop}(i:se X (.type T) o)(g:X.mg x=none)(c:bootBuiltins x=some (.type T))(ha:nA X (e::es) ts)(h:Gl X x:=by rfl)(f:x≠"__name__":=by decide)(b:(x==("__debug__":Str))=false:=by decide)
  (he:starEach (e::es) X.env=(false,eval e X.env)::starEach es X.env:=by rfl) (hpl:(backTo pos (starEach es X.env)).any (·.1)=false:=by rfl):PD X (.Call (.Name x p) (e::es) [] pos) (fb o ts):=by
 obtain⟨r,d,a⟩:=i;obtain⟨t,pp,q⟩:=ha;show⟨_,yg d h g c pp f b he hpl,Ik a q⟩
end
theorem qA{a:St}{i j:Nat}{x:Option V}:(a.set i x)[j]?=if i=j/\j<a.length then some x else a[j]?:=by
 by_cases h:i=j
 .subst h;by_cases b:i<a.length
  .simp[b]
  simp[b]
 simp[h]
section
variable{K:J'}{G0 H0 G H G' H':Hp}{ρ:Ev}{σ:St}
theorem fm.put{i:Nat}{v:V}{r:R}(E:fm K G0 H0 ρ σ G H)(x:Ext G H G' H')(J:gJ K G' H' H v r):fm K G0 H0 (ρ.set i r.sl) (σ.set i (some v)) G' H':=by
 have U:=E.ext x;have w:=E.len;have y:∀j s,gt (ρ.set i r.sl) j=s->(i=j/\j<ρ.length/\s=r.sl)\/(¬(i=j/\j<ρ.length)/\gt ρ j=s):=λj s e=>by
  rw[xU] at e;by_cases h:i=j/\j<ρ.length
  .rw[if_pos h] at e;show .inl ⟨h.1,h.2,e.symm⟩
  rw[if_neg h] at e;show .inr ⟨h,e⟩
 show⟨U.e,by simp[E.len],λj d h=>?_,λj ds h=>?_,λj k ds es W a c=>?_,?_⟩
 .rcases y j _ h with⟨a,c,f⟩ | ⟨a,c⟩
  .cases r with
   | ow=>cases f
   | ov=>cases f
   | fz d'=>
    cases f;show⟨v,by rw[qA,if_pos ⟨a,by ext⟩],J⟩
  obtain⟨u,hu,ru⟩:=U.fz j d c;show⟨u,by rw[qA,if_neg (by rw[w];show a)];show hu,ru⟩
 .rcases y j _ h with⟨a,c,f⟩ | ⟨a,c⟩
  .cases r with
   | fz=>cases f
   | ov=>cases f
   | ow Z=>
    cases f;obtain⟨p,xs,rfl,a1,a2,I,T⟩:=J;show⟨p,xs,by rw[qA,if_pos ⟨a,by ext⟩],I,a2,E.e.h.free a1,T⟩
  obtain⟨p,xs,m,l,F,C,X⟩:=U.ow j ds c;show⟨p,xs,by rw[qA,if_neg (by rw[w];show a)];show m,l,F,C,X⟩
 .have old:∀{j:Nat}{ds:List D},gt ρ j=.ow ds->∀es,r=.ow es->σ[j]?≠some (some v):=λ{j ds} h es e z=>by
   subst e;obtain⟨p,xs,rfl,a1,a2,I,T⟩:=J;obtain⟨O,qE,m,l,F,C,X⟩:=E.ow j ds h;rw[m] at z;cases z;rw[a1] at l;cases l
  rcases y j _ a with⟨c1,N,B⟩ | ⟨c1,N⟩
  .rcases y k _ c with⟨A,M,S⟩ | ⟨A,M⟩
   .exact absurd (c1.symm.trans A) W
   rw[qA,if_pos ⟨c1,by ext⟩,qA,if_neg (by rw[w];show A)];cases r with
   | fz=>cases B
   | ov=>cases B
   | ow P=>show λz=>old M P rfl z.symm
  rcases y k _ c with⟨A,M,S⟩ | ⟨A,M⟩
  .rw[qA,if_neg (by rw[w];show c1),qA,if_pos ⟨A,by ext⟩];cases r with
   | fz=>cases S
   | ov=>cases S
   | ow P=>show old N P rfl
  rw[qA,if_neg (by rw[w];show c1),qA,if_neg (by rw[w];show A)];show E.dj j k ds es W N M
 obtain⟨own,o1,o2⟩:=E.on;have Y:∀j,¬(i=j/\j<ρ.length)->(σ.set i (some v))[j]?=σ[j]?:=λj h=>by rw[qA,if_neg (by rw[w];show h)]
 have gen:∀L:List Addr,(∀q∈L,H q=none)->(∀j ds p,i=j->j<ρ.length->r.sl=.ow ds->v=.ref p->p∈L)->
   (∀j o,i=j->j<ρ.length->r.sl=.ov o->∃p fp,v=.ref p/\(p::fp).Nodup/\kK K G' H' p fp o/\∀q∈p::fp,G' q=none/\q∈L)->
   ∃own:Addr->Option Nat,(∀j ds p,gt (ρ.set i r.sl) j=.ow ds->(σ.set i (some v))[j]?=some (some (.ref p))->own p=some j)/\∀j o,gt (ρ.set i r.sl) j=.ov o->∃p fp,(σ.set i (some v))[j]?=some (some (.ref p))/\(p::fp).Nodup/\kK K G' H' p fp o/\∀q∈p::fp,G' q=none/\H0 q=none/\own q=some j:=by
  intro L Q hw ho;show⟨λq=>if q∈L then some i else own q,λj ds p h t=>?_,λj o h=>?_⟩
  .rcases y j _ h with⟨a,c,f⟩ | ⟨a,c⟩
   .rw[qA,if_pos ⟨a,by ext⟩] at t;have hv:v=.ref p:=by injection t with t;injection t
    dsimp only;rw[if_pos (hw j ds p a c f.symm hv),a]
   rw[Y j a] at t;obtain⟨O,qE,m,l,_⟩:=E.ow j ds c;have fh:p∉L:=λz=>by
    rw[t] at m;cases m;rw[Q p z] at l;cases l
   dsimp only;rw[if_neg fh];show o1 j ds p c t
  rcases y j _ h with⟨a,c,f⟩ | ⟨a,c⟩
  .obtain⟨p,fp,rfl,c1,N,B⟩:=ho j o a c f.symm;show⟨p,fp,by rw[qA,if_pos ⟨a,by ext⟩],c1,N,λq b=>⟨(B q b).1,E.e.h.free (Q q (B q b).2),?_⟩⟩;dsimp only;rw[if_pos (B q b).2,a]
  obtain⟨p,fp,m,l,F,C⟩:=o2 j o c;show⟨p,fp,by rw[Y j a];show m,l,F.mono x.g λq _ u e=>x.h q u e,λq b=>⟨x.n q (C q b).1 (F.here q b),(C q b).2.1,?_⟩⟩;dsimp only;rw[if_neg (λz=>F.here q b (Q q z))];show(C q b).2.2
 cases r with
 | fz d=>show gen [] (λq b=>by cases b) (λj ds p _ _ e=>by cases e) (λj o _ _ e=>by cases e)
 | ow Z=>
  obtain⟨p,xs,rfl,a1,a2,I,T⟩:=J;show gen [p] (λq b=>?_) (λj ds O _ _ e e2=>?_) (λj o _ _ e=>by cases e)
  .simp only[bp] at b;subst b;show a1
  cases e2;simp
 | ov o'=>
  obtain⟨p,fp,rfl,a1,a2,I⟩:=J;show gen (p::fp) (λq b=>(I q b).1) (λj ds O _ _ e=>by cases e) (λj o _ _ e=>?_);cases e;show⟨p,fp,rfl,a1,a2,λq b=>⟨(I q b).2,b⟩⟩
noncomputable def mN(i:Nat)(ρ:Ev):Ev:=match gt ρ i with
 | .ow ds=>ρ.set i (.fz (.lst ds))
 | .ov o=>ρ.set i (.fz o.val)
 | _=>ρ
theorem BG{ρ:Ev}{i:Nat}{s:Sl}(h:gt ρ i=s)(c:s≠.un):i<ρ.length:=by
 induction ρ generalizing i with
 | nil=>simp[gt] at h;show absurd h.symm c
 | cons a r b=>
  cases i with
  | zero=>simp
  | succ i=>simp only[gt] at h;have:=b h;simp;ext
theorem eA.Md{K:J'}{G H:Hp}:∀{b:List Addr}{c:List (List D)},eA K G H b c->∀q∈b,∃zs,H q=some (.lst zs)
 | [],[],_,q,a=>by cases a
 | p::b,ds::c,h,q,a=>by
  simp only[eA] at h;rcases av.mp a with rfl | a
  .exact⟨_,h.1.choose_spec.1⟩
  show eA.Md h.2 q a
 | [],_::_,h,_,_=>by simp only[eA] at h
 | _::_,[],h,_,_=>by simp only[eA] at h
theorem fm.tm(i:Nat)(E:fm K G0 H0 ρ σ G H):∃L:List Addr,(∀q∈L,G q=none)/\fm K G0 H0 (mN i ρ) σ (qz G H L) H/\(((∀o,gt ρ i=.ov o->(∃di,o=.dc di)\/∃fH,o=.ll fH)->∀q∈L,H q≠none/\∀xs,¬Rd H q (.tup xs)))/\∀o p,gt ρ i=.ov o->σ[i]?=some (some (.ref p))->p∈L:=by
 unfold mN;split
 .rename_i ds w;obtain⟨p,xs,J,P,A,I,y⟩:=E.ow i ds w;have X:i<ρ.length:=BG w (by simp);have v:dU G (upd G p (.lst xs)):=vi A;have r:∀j s,gt (ρ.set i (.fz (.lst ds))) j=s->(i=j/\s=.fz (.lst ds))\/(i≠j/\gt ρ j=s):=λj s e=>by
   rw[xU] at e;by_cases h:i=j
   .subst h;rw[if_pos ⟨rfl,X⟩] at e;show .inl ⟨rfl,e.symm⟩
   rw[if_neg (λz=>h z.1)] at e;show .inr ⟨h,e⟩
  have ep:qz G H [p]=upd G p (.lst xs):=by
   funext a
   by_cases ha:a=p
   .subst ha;rw[i7,tQ (by simp)];show P
   rw[fI ha,sr (by simpa using ha)]
  show⟨[p],λq f=>?_,?_,λ_ q f=>by
   simp only[bp] at f;rw[f]
   show⟨(by rw[P];show nofun),λF e=>by rcases e with e | ⟨_,e⟩<;>(rw[P] at e;cases e)⟩,λo p z=>by rw[w] at z;cases z⟩
  .simp only[bp] at f;subst f;show A
  rw[ep];show⟨⟨E.e.g.trans v,E.e.h,λb o e=>?_,λq U M=>?_⟩,by simp[E.len],λj d h=>?_,λj es h=>?_,λj k es fs T a1 a2=>?_,?_⟩
  .by_cases O:b=p
   .subst O;rw[i7] at e;rw[P];show e
   rw[fI O] at e;show E.e.s b o e
  .rw[fI (λz=>M (by rw[z];show I))];show E.e.n q U M
  .rcases r j _ h with⟨e,c⟩ | ⟨e,c⟩
   .subst e;cases c;show⟨_,J,by simp only[Rep];show⟨p,xs,rfl,lX.of i7,y.mono v⟩⟩
   obtain⟨u,S,R⟩:=E.fz j d c;show⟨u,S,R.mono v⟩
  .rcases r j _ h with⟨e,c⟩ | ⟨e,c⟩
   .cases c
   obtain⟨l,F,x,D,C,t,Y⟩:=E.ow j es c;have fh:l≠p:=λz=>by
    subst z;show E.dj i j ds es e w c (by rw[J,x])
   show⟨l,F,x,D,by rw[fI fh];show C,t,Y.mono v⟩
  .rcases r j _ a1 with⟨_,c⟩ | ⟨e,c⟩
   .cases c
   rcases r k _ a2 with⟨_,B⟩ | ⟨e3,B⟩
   .cases B
   show E.dj j k es fs T c B
  obtain⟨own,N,Q⟩:=E.on;show⟨own,λj es l h V=>?_,λj o h=>?_⟩
  .rcases r j _ h with⟨_,c⟩ | ⟨_,c⟩
   .cases c
   show N j es l c V
  rcases r j _ h with⟨_,c⟩ | ⟨e,c⟩
  .cases c
  obtain⟨l,fp,x,D,C,t⟩:=Q j o c;show⟨l,fp,x,D,C.mono v λq _ u e=>e,λq f=>⟨?_,(t q f).2⟩⟩;rw[fI λz=>?_]
  .exact(t q f).1
  have m:=(t q f).2.2;rw[z,N i ds p w J] at m;injection m with m
  show e m
 .rename_i o w;obtain⟨own,N,Q⟩:=E.on;obtain⟨p,fp,J,P,A,I⟩:=Q i o w;have X:i<ρ.length:=BG w (by simp);have W:∀q∈p::fp,G q=none:=λq f=>(I q f).1
  have v:dU G (qz G H (p::fp)):=zr W;have r:∀j s,gt (ρ.set i (.fz o.val)) j=s->(i=j/\s=.fz o.val)\/(i≠j/\gt ρ j=s):=λj s e=>by
   rw[xU] at e;by_cases h:i=j
   .subst h;rw[if_pos ⟨rfl,X⟩] at e;show .inl ⟨rfl,e.symm⟩
   rw[if_neg (λz=>h z.1)] at e;show .inr ⟨h,e⟩
  suffices AY:fm K G0 H0 (ρ.set i (.fz o.val)) σ (qz G H (p::fp)) H from⟨p::fp,W,AY,λhd q f=>by
   rcases hd o w with⟨di,rfl⟩ | ⟨fH,rfl⟩
   .obtain⟨rfl,ks,ep,y,_⟩:=A;simp only[bp] at f;rw[f];show⟨(by rw[y];show nofun),λF e=>by rcases e with e | ⟨_,e⟩<;>(rw[y] at e;cases e)⟩
   .obtain⟨zs,y⟩:∃zs,H q=some (.lst zs):=by
     rcases av.mp f with rfl | f
     .exact⟨_,A.1⟩
     show eA.Md A.2 q f
    show⟨(by rw[y];show nofun),λF e=>by rcases e with e | ⟨_,e⟩<;>(rw[y] at e;cases e)⟩,λZ l _ e=>by rw[J] at e;cases e;simp⟩
  show⟨⟨E.e.g.trans v,E.e.h,λb u e=>?_,λq U M=>?_⟩,by simp[E.len],λj d h=>?_,λj es h=>?_,λj k es fs T a1 a2=>?_,own,λj es l h V=>?_,λj Z h=>?_⟩
  .by_cases O:b∈p::fp
   .rw[tQ O] at e;show e
   rw[sr O] at e;show E.e.s b u e
  .rw[sr (λz=>M (I q z).2.1)];show E.e.n q U M
  .rcases r j _ h with⟨e,c⟩ | ⟨e,c⟩
   .subst e;cases c;show⟨_,J,A.freeze W⟩
   obtain⟨u,S,R⟩:=E.fz j d c;show⟨u,S,R.mono v⟩
  .rcases r j _ h with⟨e,c⟩ | ⟨e,c⟩
   .cases c
   obtain⟨l,F,x,D,C,t,Y⟩:=E.ow j es c;show⟨l,F,x,D,?_,t,Y.mono v⟩;rw[sr λz=>?_]
   .exact C
   have m:=(I l z).2.2;rw[N j es l c x] at m;injection m with m
   show e m.symm
  .rcases r j _ a1 with⟨_,c⟩ | ⟨e,c⟩
   .cases c
   rcases r k _ a2 with⟨_,B⟩ | ⟨e3,B⟩
   .cases B
   show E.dj j k es fs T c B
  .rcases r j _ h with⟨_,c⟩ | ⟨_,c⟩
   .cases c
   show N j es l c V
  rcases r j _ h with⟨_,c⟩ | ⟨e,c⟩
  .cases c
  obtain⟨l,tq,x,D,C,t⟩:=Q j Z c;show⟨l,tq,x,D,C.mono v λq _ u e=>e,λq f=>⟨?_,(t q f).2⟩⟩;rw[sr λz=>?_]
  .exact(t q f).1
  have m:=(t q f).2.2;rw[(I q z).2.2] at m;injection m with m
  show e m
 rename_i YJ WZ;have ep:qz G H []=G:=by funext a;show sr (by simp)
 show⟨[],λq f=>(by cases f),by rw[ep];show E,λ_ q f=>(by cases f),λo p z=>(WZ o z).elim⟩
theorem fm.nk(i:Nat)(E:fm K G0 H0 ρ σ G H):∃L:List Addr,(∀q∈L,G q=none)/\fm K G0 H0 (mN i ρ) σ (qz G H L) H/\((∀o,gt ρ i=.ov o->(∃e,o=.dc e)\/∃d,o=.ll d)->∀q∈L,H q≠none/\∀xs,¬Rd H q (.tup xs)):=
 let⟨L,a,b,c,_⟩:=E.tm i
 ⟨L,a,b,c⟩
theorem fm.freeze(i:Nat)(E:fm K G0 H0 ρ σ G H):∃G',fm K G0 H0 (mN i ρ) σ G' H/\dU G G':=
 let⟨L,a,b,_⟩:=E.nk i
 ⟨_,b,zr a⟩
theorem fm.change{i:Nat}{ds v:List D}{p:Addr}{x:List V}(E:fm K G0 H0 ρ σ G H)(f:gt ρ i=.ow ds)(y:σ[i]?=some (some (.ref p)))(O:c9 K G x v) :
  fm K G0 H0 (ρ.set i (.ow v)) σ G (upd H p (.lst x)):=by
 obtain⟨c,Y,M,X,L,J,W⟩:=E.ow i ds f;rw[y] at M;cases M;have S:i<ρ.length:=BG f (by simp);have l:∀j s,gt (ρ.set i (.ow v)) j=s->(i=j/\s=.ow v)\/(i≠j/\gt ρ j=s):=λj s e=>by
  rw[xU] at e;by_cases h:i=j
  .subst h;rw[if_pos ⟨rfl,S⟩] at e;show .inl ⟨rfl,e.symm⟩
  rw[if_neg (λz=>h z.1)] at e;show .inr ⟨h,e⟩
 have Q:dU G (upd H p (.lst x)):=λb o e=>by rw[fI (lI e L)];show E.e.s b o e
 show⟨⟨E.e.g,λb o e=>by rw[fI (lI e J)];show E.e.h b o e,Q,E.e.n⟩,by simp[E.len],λj d h=>?_,λj es h=>?_,λj k es fs w a1 a2=>?_,?_⟩
 .rcases l j _ h with⟨_,a⟩ | ⟨e,a⟩
  .cases a
  show E.fz j d a
 .rcases l j _ h with⟨e,a⟩ | ⟨e,a⟩
  .subst e;cases a;show⟨p,x,y,i7,L,J,O⟩
  obtain⟨c,U,c1,F,C,A,T⟩:=E.ow j es a;have R:c≠p:=λz=>by
   subst z;show E.dj i j ds es e f a (by rw[y,c1])
  show⟨c,U,c1,by rw[fI R];show F,C,A,T⟩
 .rcases l j _ a1 with⟨e,a⟩ | ⟨e,a⟩
  .subst e;rcases l k _ a2 with⟨m,r⟩ | ⟨m,r⟩
   .exact absurd m w
   show E.dj i k ds fs w f r
  rcases l k _ a2 with⟨m,r⟩ | ⟨m,r⟩
  .subst m;show E.dj j i es ds w a f
  show E.dj j k es fs w a r
 obtain⟨own,B,N⟩:=E.on;show⟨own,λj es c h I=>?_,λj o h=>?_⟩
 .rcases l j _ h with⟨e,a⟩ | ⟨_,a⟩
  .subst e;show B i ds c f I
  show B j es c a I
 rcases l j _ h with⟨_,a⟩ | ⟨e,a⟩
 .cases a
 obtain⟨c,fp,c1,F,C,A⟩:=N j o a;show⟨c,fp,c1,F,C.mono (dU.refl _) λq P u m=>?_,A⟩;rw[fI λz=>?_]
 .exact m
 have t:=(A q P).2.2;rw[z,B i ds p f y] at t;injection t with t
 show e t
theorem fm.nz{i:Nat}{o A:OV}{p:Addr}(E:fm K G0 H0 ρ σ G H)(R:gt ρ i=.ov o)(S:σ[i]?=some (some (.ref p)))
  (W:∀fp,(p::fp).Nodup->kK K G H p fp o->∃v,(p::v).Nodup/\kK K G H' p v A/\(∀q∈p::v,q∈p::fp\/H q=none)/\∀b,b∉p::fp->H b≠none->H' b=H b) :
  fm K G0 H0 (ρ.set i (.ov A)) σ G H':=by
 obtain⟨own,O,N⟩:=E.on;obtain⟨l,fp,T,b2,b3,t⟩:=N i o R;rw[S] at T;cases T;obtain⟨v,c1,c2,L,J⟩:=W fp b2 b3;have Z:i<ρ.length:=BG R (by simp);have x:∀j s,gt (ρ.set i (.ov A)) j=s->(i=j/\s=.ov A)\/(i≠j/\gt ρ j=s):=λj s e=>by
  rw[xU] at e;by_cases h:i=j
  .subst h;rw[if_pos ⟨rfl,Z⟩] at e;show .inl ⟨rfl,e.symm⟩
  rw[if_neg (λz=>h z.1)] at e;show .inr ⟨h,e⟩
 have Q:∀(F:Hp),(∀q∈p::fp,F q=none)->dU F H->dU F H':=λF Y s b u e=>by
  have X:b∉p::fp:=λz=>by rw[Y b z] at e;cases e
  rw[J b X (by rw[s b u e];show nofun)];show s b u e
 show⟨⟨E.e.g,Q H0 (λq c=>(t q c).2.1) E.e.h,Q G (λq c=>(t q c).1) E.e.s,E.e.n⟩,by simp[E.len],λj d h=>?_,λj es h=>?_,λj k es fs V a1 a2=>?_,λq=>if q∈p::v then some i else own q,λj es l h P=>?_,λj WY h=>?_⟩
 .rcases x j _ h with⟨_,a⟩ | ⟨e,a⟩
  .cases a
  show E.fz j d a
 .rcases x j _ h with⟨_,a⟩ | ⟨e,a⟩
  .cases a
  obtain⟨l,xs,r,m,B,y,d5⟩:=E.ow j es a;show⟨l,xs,r,?_,B,y,d5⟩;rw[J l (λz=>?_) (by rw[m];show nofun)]
  .exact m
  have f:=(t l z).2.2;rw[O j es l a r] at f;injection f with f
  show e f.symm
 .rcases x j _ a1 with⟨_,a⟩ | ⟨e,a⟩
  .cases a
  rcases x k _ a2 with⟨_,D⟩ | ⟨I,D⟩
  .cases D
  show E.dj j k es fs V a D
 .rcases x j _ h with⟨_,a⟩ | ⟨e,a⟩
  .cases a
  have w:=O j es l a P;obtain⟨C,xs,r,m,_⟩:=E.ow j es a;rw[P] at r;cases r;dsimp only;rw[if_neg λz=>?_]
  .exact w
  rcases L l z with z | z
  .have f:=(t l z).2.2;rw[w] at f;injection f with f
   show e f.symm
  rw[z] at m;cases m
 rcases x j _ h with⟨e,a⟩ | ⟨e,a⟩
 .subst e;cases a;show⟨p,v,S,c1,c2,λq c=>?_⟩;dsimp only;rw[if_pos c];rcases L q c with z | z
  .exact⟨(t q z).1,(t q z).2.1,rfl⟩
  show⟨E.e.s.free z,E.e.h.free z,rfl⟩
 obtain⟨C,U,r,m,B,y⟩:=N j WY a;have M:∀q∈C::U,q∉p::fp:=λq c z=>by
  have f:=(t q z).2.2;rw[(y q c).2.2] at f;injection f with f
  show e f.symm
 show⟨C,U,r,m,B.mono (dU.refl _) λq c u I=>?_,λq c=>⟨(y q c).1,(y q c).2.1,?_⟩⟩
 .rw[J q (M q c) (by rw[I];show nofun)];show I
 dsimp only;rw[if_neg λz=>?_]
 .exact(y q c).2.2
 rcases L q z with z | z
 .exact M q c z
 show B.here q c z
theorem fm.weak{ρ':Ev}(E:fm K G0 H0 ρ σ G H)(f:ρ'.length=ρ.length)(w:∀i,gt ρ' i=.un\/gt ρ' i=gt ρ i):fm K G0 H0 ρ' σ G H:=by
 have g:∀i s,gt ρ' i=s->s≠.un->gt ρ i=s:=λi s e n=>by
  rcases w i with h | h
  .exact absurd (e.symm.trans h) n
  rw[<-h];show e
 show⟨E.e,by rw[f];show E.len,λi d h=>E.fz i d (g i _ h (by simp)),λi d h=>E.ow i d (g i _ h (by simp)),λi j ds es c l k=>E.dj i j ds es c (g i _ l (by simp)) (g j _ k (by simp)),let⟨own,b,a⟩:=E.on;⟨own,λi ds p h=>b i ds p (g i _ h (by simp)),λi o h=>a i o (g i _ h (by simp))⟩⟩
end
section
variable{X:Cx}{pos:Pos}{e:Expr}{te:TD}
def dG(t u:TX):TX:=λD a=>t { D with nx:=u D } a
def fY:TX:=λD a=>D.nx a
theorem gO:pL X [] fY:=⟨_,JM,λa σ c b G H D E k h g=>g.nx a σ G H (dU.refl _) k h⟩
theorem dZ{st:Stmt}{a:List Stmt}{t u:TX}(o:PX X st t)(n:pL X a u):pL X (st::a) (dG t u):=by
 obtain⟨t1,l,i⟩:=o;obtain⟨s,j,f⟩:=n;show⟨_,J6 l j,λd σ c b G H D E k h g=>i d σ c b G H _ _ k h ⟨λρ' p r q e m h'=>f ρ' p c b r q D E m h' (g.shift e),g.rt,g.bk,g.ct⟩⟩
theorem eE{st:Stmt}{t:TX}(c:PX X st t):pL X [st] t:=by
 obtain⟨t1,b,a⟩:=c;show⟨_,QI b,a⟩
theorem si(i:Nat){b:List Stmt}{t:TX}(h:pL X b t):pL X b (λD a=>t D (mN i a)):=by
 obtain⟨t1,e,d⟩:=h;show⟨_,e,λa σ l j G H D E k h g=>?_⟩;obtain⟨m,f,c⟩:=k.freeze i;show d _ σ l j m H D E f h (g.shift c)
def gk(te:TD):TX:=λD a=>te a D.rt
theorem gN(h:PD X e te):PX X (.Return (some e) pos) (gk te):=by
 obtain⟨t,p,q⟩:=h;show⟨_,D7 p,λa σ i d G H D E k h g=>q a σ i d G H _ _ k h λv f r j x b c=>g.rt v f r j (k.e.trans x) (b.je k.e.h) c⟩
def pY(i:Nat):TX:=λD a=>match gt a i with
 | .ow ds=>D.rt (.ow ds)
 | _=>False
theorem uj(i:Nat){x:Str}{a:Pos}(f:X.N[i]?=some x:=by rfl)(c:oR X.env.scope x:=by first | show Or.inl rfl | show Or.inr (Or.inl rfl) | show Or.inr (Or.inr rfl))(hd:(x==("__debug__":Str))=false:=by decide)
  (b:(x==("__classdict__":Str))=false:=by decide):PX X (.Return (some (.Name x a)) pos) (pY i):=by
 show⟨_,D7 (pZ f c hd b),λq σ s r G H D E k h g=>?_⟩;unfold pY at h;split at h
 .rename_i ds d;obtain⟨p,xs,o,n,m,l,j⟩:=k.ow i ds d;show⟨_,o,g.rt _ H (.ow ds) G k.e ⟨p,xs,rfl,l,m,n,j⟩ h⟩
 show h.elim
def fU(c:ki)(t u:TX):TX:=λD a=>c a λb=>if b=true then t D a else u D a
theorem gP{c:Expr}{a b:List Stmt}{tc:ki}{t u:TX}(s:PB X c tc)(ha:pL X a t)(v:pL X b u):PX X (.If c a b pos) (fU tc t u):=by
 obtain⟨t0,r,o⟩:=s;obtain⟨t1,q,n⟩:=ha;obtain⟨w,p,m⟩:=v;show⟨_,Oo r q p,λe σ i f G H D E k h g=>o e σ i f G H _ _ k h λb j l x d=>?_⟩;cases b with
 | true=>rw[if_pos rfl] at d ⊢;show n e σ i f l j D E (k.ext x) d (g.shift x.g)
 | false=>rw[if_neg aY] at d ⊢;show m e σ i f l j D E (k.ext x) d (g.shift x.g)
def jJ(i:Nat)(te:TD):TX:=λD a=>te a λr=>D.nx (a.set i r.sl)
theorem mX(i:Nat){x:Str}{a:Pos}(he:PD X e te)(l:X.N.Nodup:=by assumption)(hi:X.N[i]?=some x:=by rfl)(hx:Loc X.env.scope x:=by first | show Or.inl rfl | show Or.inr rfl)(d:swapsWith e (some (.Name x a)) pos.line X.env=pure false:=by rfl)(j:X.fn x=true\/X.env.scope.names.lookup x=some .local:=by first | show .inl rfl | show .inr rfl | assumption) :
  PX X (.Assign [.Name x a] e pos) (jJ i te):=by
 obtain⟨t,p,q⟩:=he;show⟨_,IA l hi hx p d j,λb σ o m G H D E k h g=>q b σ o m G H _ _ k h λv n r s x c f=>g.nx _ _ s n x.g (k.put x c) f⟩
def e8(i:Nat)(te:TD):TX:=λD a=>te a λr=>D.nx (a.set i (.fz r.val))
theorem fq(i:Nat){x:Str}{a:Pos}(he:PD X e te)(n:X.N.Nodup:=by assumption)(hi:X.N[i]?=some x:=by rfl)(hx:Loc X.env.scope x:=by first | show Or.inl rfl | show Or.inr rfl)(j:swapsWith e (some (.Name x a)) pos.line X.env=pure false:=by rfl)(m:X.fn x=true\/X.env.scope.names.lookup x=some .local:=by first | show .inl rfl | show .inr rfl | assumption) :
  PX X (.Assign [.Name x a] e pos) (e8 i te):=by
 obtain⟨t,p,q⟩:=he;show⟨_,IA n hi hx p j m,λc σ w o G H D E k h g=>q c σ w o G H _ _ k h λv s r y x f l=>?_⟩;obtain⟨u,b,d,_⟩:=f.freeze x;show g.nx _ _ u s b.g (k.put b (r:=.fz r.val) d) l
def jP(i:Nat)(te:TD):TX:=λD a=>match gt a i with
 | .ow ds=>te a λr=>ds.length<sizeLine/\D.nx (a.set i (.ow (ds++[r.val])))
 | _=>False
theorem mH(i:Nat){x:Str}{l m b:Pos}(he:PD X e te)(L:X.N[i]?=some x:=by rfl)(I:oR X.env.scope x:=by first | show Or.inl rfl | show Or.inr (Or.inl rfl) | show Or.inr (Or.inr rfl))(hd:(x==("__debug__":Str))=false:=by decide)
  (C:(x==("__classdict__":Str))=false:=by decide) (B:starEach [e] X.env=(false,eval e X.env)::starEach [] X.env:=by rfl)
  (J:∀{j:TE}{t:TA},PE X (.Name x l) j->PA X [e] t->PE X (.Call (.Attribute (.Name x l) "append" m) [e] [] b) (Ao X.K "list" Eg j t):=by intro j t f d;show yW PySem.F.plainAttrs_list PySem.F.slot_list_append PySem.F.type_list_append EU f d) :
  PX X (.Expr (.Call (.Attribute (.Name x l) "append" m) [e] [] b) pos) (jP i te):=by
 obtain⟨t,p,q⟩:=he;show⟨_,Ci (J (pZ L I hd C) (rn p sf B)),λu σ P M G H D E k h g=>?_⟩;unfold jP at h;split at h
 .rename_i ds o;obtain⟨a,xs,f,d,R,Q,s⟩:=k.ow i ds o;show⟨_,f,.inl ⟨rfl,xs,gA.of d⟩,?_⟩;show q u σ P M G H _ _ k h λv S r T w z n=>?_
  obtain⟨O,c,y,_⟩:=z.freeze w;have A:=k.ext c;show⟨a,xs,v,rfl,rfl,c.h _ _ d,by rw[s.length];show n.1,?_⟩;show g.nx _ _ O _ c.g (A.change o f ((s.mono c.g).append (c9.cons y c9.nil))) n.2
 show h.elim
end
section
variable{X:Cx}{pos:Pos}{tg:Expr}
noncomputable abbrev jN:=D->Ev->(Ev->Prop)->Prop
noncomputable abbrev qw:=List D->Ev->(Ev->Prop)->Prop
def tH(X:Cx)(tg:Expr)(g:jN):Prop:=∃c,PG X tg c/\∀(b:Ev)(σ:St)(h f G H:Hp)(d:D)(v:V)(Q:Ev->Prop)(P:St->Hp->Prop),fm X.K h f b σ G H->Rep X.K G v d->g d b Q->
 (∀ρ' e i a,fm X.K h f ρ' e i a->Ext G H i a->Q ρ'->P e a)->c v σ H P
def yN(X:Cx)(j:List Expr)(g:qw):Prop:=∃d,yJ X j d/\∀(b:Ev)(σ:St)(h f G H:Hp)(ds:List D)(c:List V)(Q:Ev->Prop)(P:St->Hp->Prop),fm X.K h f b σ G H->c9 X.K G c ds->g ds b Q->
 (∀ρ' e i a,fm X.K h f ρ' e i a->Ext G H i a->Q ρ'->P e a)->d c σ H P
def eD(i:Nat):jN:=λd a Q=>Q (a.set i (.fz d))
theorem eI(i:Nat){x:Str}(b:X.N.Nodup:=by assumption)(hi:X.N[i]?=some x:=by rfl)(hx:Loc X.env.scope x:=by first | show Or.inl rfl | show Or.inr rfl)(a:X.fn x=true\/X.env.scope.names.lookup x=some .local:=by first | show .inl rfl | show .inr rfl | assumption):tH X (.Name x pos) (eD i):=
 ⟨_,QH b hi hx a,λc σ g f G H d v Q P E r h k=>k _ _ G H (E.put (.refl E.e.s) (r:=.fz d) r) (.refl E.e.s) h⟩
noncomputable def iJ:qw:=λds a Q=>match ds with
 | []=>Q a
 | _=>False
noncomputable def ff(t:jN)(u:qw):qw:=λds a Q=>match ds with
 | d::r=>t d a λρ'=>u r ρ' Q
 | []=>False
theorem kP:yN X [] iJ:=by
 show⟨_,QV,λb σ d c G H ds a Q P E r h k=>?_⟩;unfold iJ at h;split at h
 .cases a with
  | nil=>show⟨rfl,k _ _ G H E (.refl E.e.s) h⟩
  | cons=>simp only[c9] at r
 show h.elim
theorem fQ{e:Expr}{es:List Expr}{t:jN}{u:qw}(w:tH X e t)(s:yN X es u)(p:(assignEach (e::es) X.env).map (·.2)=assign e X.env::(assignEach es X.env).map (·.2):=by rfl):yN X (e::es) (ff t u):=by
 obtain⟨t1,m,j⟩:=w;obtain⟨J,l,i⟩:=s;show⟨_,Ri m l p,λd σ c b G H ds a Q P E r h k=>?_⟩;unfold ff at h;split at h
 .cases a with
  | nil=>simp only[c9] at r
  | cons v a=>
   simp only[c9] at r;show⟨v,a,rfl,j d σ c b G H _ v _ _ E r.1 h λρ' z D B I x q=>?_⟩;show i ρ' z c b D B _ a Q P I (r.2.mono x.g) q λy n C A F f o=>k y n C A F (x.trans f) o
 show h.elim
def ju(n:Nat)(t:qw):jN:=λd a Q=>match d with
 | .tup ds=>ds.length=n/\t ds a Q
 | _=>False
theorem lJ{es:List Expr}{k:Nat}{t:qw}{n:Nat}(l:X.calm=true)(h:yN X es t)(j:(assignEach es X.env).length=n:=by rfl)(g:(assignEach es X.env).findIdx? (·.1)=none:=by rfl):tH X (.Tuple es k pos) (ju n t):=by
 obtain⟨t1,f,c⟩:=h;show⟨_,OI l f j g,λb σ o m G H d v Q P E r h k=>?_⟩;unfold ju at h;split at h
 .simp only[Rep] at r;obtain⟨a,xs,rfl,i,rs⟩:=r;show⟨a,xs,rfl,E.e.s.oz i,by rw[rs.length];show h.1,c b σ o m G H _ xs Q P E rs h.2 k⟩
 show h.elim
def xG(te:TD)(g:jN):TX:=λD a=>te a λr=>g r.val a D.nx
theorem BW{e:Expr}{te:TD}{g:jN}(he:PD X e te)(y:tH X tg g)(u:swapsWithSole [tg] e pos.line X.env=pure false:=by rfl)(hw:swappedStores [tg] e X.env=pure none:=by rfl)(z:(assignEach [tg] X.env).map (·.2)=[assign tg X.env]:=by rfl):PX X (.Assign [tg] e pos) (xG te g):=by
 obtain⟨t,p,q⟩:=he;obtain⟨F,s,o⟩:=y;show⟨_,IB p s u hw z,λb σ f d G H D E k h g=>q b σ f d G H _ _ k h λv a r i x m w=>?_⟩;obtain⟨B,c,l,_⟩:=m.freeze x;show o b σ f d B a _ v _ _ (k.ext c) l w λρ' A i a C j n=>g.nx ρ' A i a (c.g.trans j.g) C n
def tJ(K:J')(J:It)(G:Hp)(ds:List D):Prop:=
 (∀i d b a,ds[i]?=some d->dU G b->dU b a->J.go i a/\∀v c,J.CP i a v c->∃e,Ext b a e c/\Rep K e v d)/\∀b a,dU G b->dU b a->J.stop ds.length a
noncomputable abbrev lC:=Ev->(List D->Prop)->Prop
def PId(X:Cx)(tg a:Expr)(e:lC):Prop:=∃ww,PI X tg a ww/\∀(b:Ev)(σ:St)(g f G H:Hp)(Q:List D->Prop)(P:It->Hp->Prop),fm X.K g f b σ G H->e b Q->
 (∀J c ds d,Ext G H d c->tJ X.K J d ds->Q ds->P J c)->ww σ H P
def D6(d:D)(Q:List D->Prop):Prop:=match d with
 | .lst ds=>Q ds
 | .tup ds=>Q ds
 | .str z=>Q (z.cps.toList.map λc=>.str ⟨#[c]⟩)
 | _=>False
def g9(te:TD):lC:=λa Q=>te a λr=>D6 r.val Q
theorem SG{K:J'}{G:Hp}{a:Addr}{xs:List V}{ds:List D}(h:lX K G a xs)(r:c9 K G xs ds):tJ K (HG K a) G ds:=by
 show⟨λi d g f hd s1 s2=>?_,λg f s1 s2=>⟨xs,(s2.hE (s1.hE h)).sq,by rw[r.length];show ay _⟩⟩;obtain⟨v,b,j⟩:=r.get hd;have c:gA K f a xs:=(s2.hE (s1.hE h)).sq;show⟨⟨xs,v,c,b⟩,λu l k=>?_⟩;obtain⟨e,y⟩:=k;subst e;have:=y xs c;rw[b] at this;cases this;show⟨g,.refl s2,j.mono s1⟩
theorem QZ{K:J'}{G:Hp}{a:Addr}{xs:List V}{ds:List D}(h:iz K G a xs)(r:c9 K G xs ds):tJ K (HF K a) G ds:=by
 show⟨λi d g f hd s1 s2=>?_,λg f s1 s2=>⟨xs,s2.sA (s1.sA h),by rw[r.length];show ay _⟩⟩;obtain⟨v,b,j⟩:=r.get hd;have c:iz K f a xs:=s2.sA (s1.sA h);show⟨⟨xs,v,c,b⟩,λu l k=>?_⟩;obtain⟨e,y⟩:=k;subst e;have:=y xs c;rw[b] at this;cases this;show⟨g,.refl s2,j.mono s1⟩
theorem QY{K:J'}{G:Hp}(z:Str):tJ K (Ds z) G (z.cps.toList.map λc=>.str ⟨#[c]⟩):=by
 show⟨λi d f j hd s1 s2=>?_,λf j s1 s2=>?_⟩
 .rw[aI] at hd;cases e:z.cps.toList[i]? with
  | none=>rw[e] at hd;cases hd
  | some c=>
   rw[e] at hd;cases hd;have b:z.cps[i]?=some c:=by simpa using e
   show⟨(Array.getElem?_eq_some_iff.mp b).1,λv l g=>?_⟩;obtain⟨h,k,a,rfl⟩:=g;subst h;rw[b] at a;cases a;show⟨f,.refl s2,wd _ _ _⟩
 show _=_;simp
theorem Lm{K:J'}{G:Hp}(lo:Int)(n:Nat):tJ K (Bx lo n) G ((List.range n).map λ(i:Nat)=>.int (lo+i)):=by
 show⟨λi d a l hd s1 s2=>?_,λa l s1 s2=>?_⟩
 .rw[aI] at hd;cases e:(List.range n)[i]? with
  | none=>rw[e] at hd;cases hd
  | some c=>
   rw[e] at hd;cases hd;obtain⟨j,h⟩:=ar.mp e;have g:i<n:=by simpa using j
   have f:c=i:=by rw[<-h];simp
   subst f;show⟨g,λv m b=>?_⟩;obtain⟨k,rfl⟩:=b;subst k;show⟨a,.refl s2,kY _ _ _⟩
 show n<=_;simp
noncomputable def pX(ds:List D):List D:=ds.mapIdx λi d=>.tup [.int (i:Nat),d]
theorem EB{K:J'}{G:Hp}{t:Addr}{x y:V}{d e:D}(a:G t=some (.tup [x,y]))(c:Rep K G x d)(b:Rep K G y e):Rep K G (.ref t) (.tup [d,e]):=by
 simp only[Rep];show⟨t,[x,y],rfl,a,c9.cons c (c9.cons b c9.nil)⟩
theorem SF{K:J'}{G:Hp}{a:Addr}{xs:List V}{ds:List D}(h:lX K G a xs)(r:c9 K G xs ds):tJ K (HI K a) G (pX ds):=by
 show⟨λi d c b hd s1 s2=>?_,λc b s1 s2=>⟨xs,(s2.hE (s1.hE h)).sq,by rw[r.length];simp[pX]⟩⟩;unfold pX at hd;rw[List.getElem?_mapIdx] at hd;cases e:ds[i]? with
 | none=>rw[e] at hd;cases hd
 | some d'=>
  rw[e] at hd;cases hd;obtain⟨v,j,l⟩:=r.get e;have k:gA K b a xs:=(s2.hE (s1.hE h)).sq;show⟨⟨xs,v,k,j⟩,λu o m=>?_⟩;obtain⟨t,rfl,n,y⟩:=m;obtain⟨x,hx,rfl⟩:=y xs k;rw[j] at hx;cases hx;have f:Ext c b (upd c t (.tup [.int i,v])) (upd b t (.tup [.int i,v])):=.new s2 n;show⟨_,f,EB i7 (kY _ _ _) ((l.mono s1).mono f.g)⟩
noncomputable def xF(ds es:List D):List D:=List.zipWith (λd e=>.tup [d,e]) ds es
theorem QX{K:J'}{G:Hp}{a b:Addr}{xs ys:List V}{ds es:List D}(h:lX K G a xs)(r:c9 K G xs ds)(h':lX K G b ys)(o:c9 K G ys es):tJ K (HE K a b) G (xF ds es):=by
 show⟨λi d l c hd s1 s2=>?_,λl c s1 s2=>⟨xs,ys,(s2.hE (s1.hE h)).sq,(s2.hE (s1.hE h')).sq,?_⟩⟩
 .unfold xF at hd;rw[List.getElem?_zipWith] at hd;cases e:ds[i]? with
  | none=>rw[e] at hd;cases hd
  | some d'=>
   cases k:es[i]? with
   | none=>rw[e,k] at hd;cases hd
   | some E=>
    rw[e,k] at hd;cases hd;obtain⟨v,q,w⟩:=r.get e;obtain⟨j,n,z⟩:=o.get k;have s:gA K c a xs:=(s2.hE (s1.hE h)).sq;have m:gA K c b ys:=(s2.hE (s1.hE h')).sq;show⟨⟨xs,ys,v,j,s,m,q,n⟩,λu F A=>?_⟩;obtain⟨t,rfl,B,y⟩:=A;obtain⟨x,C,hx,p,rfl⟩:=y xs ys s m;rw[q] at hx;rw[n] at p;cases hx;cases p;have f:Ext l c (upd l t (.tup [v,j])) (upd c t (.tup [v,j])):=.new s2 B;show⟨_,f,EB i7 ((w.mono s1).mono f.g) ((z.mono s1).mono f.g)⟩
 rw[r.length,o.length];unfold xF;rw[List.length_zipWith];ext
theorem iK{l:Expr}{te:TD}(h:PD X l te):PId X tg l (g9 te):=by
 obtain⟨t,p,q⟩:=h;show⟨_,O0 p,λm σ u o G H Q P E h k=>q m σ u o G H _ _ E h λv i r w x n c=>?_⟩;obtain⟨j,d,b,_⟩:=n.freeze x;unfold D6 at c;split at c
 .rename_i ds e;rw[e] at b;simp only[Rep] at b;obtain⟨a,xs,rfl,f,g⟩:=b;show .inl ⟨a,rfl,⟨xs,(d.s.hE f).sq⟩,k _ i _ j d (SG f g) c⟩
 .rename_i ds e;rw[e] at b;simp only[Rep] at b;obtain⟨a,xs,rfl,f,g⟩:=b;show .inr (.inl ⟨a,rfl,⟨xs,d.s.oz f⟩,k _ i _ j d (QZ (iz.of f) g) c⟩)
 .rename_i z e;rw[e] at b;simp only[Rep] at b;show .inr (.inr ⟨z,b,k _ i _ j d (QY z) c⟩)
 show c.elim
def mD(b:kj):lC:=λa Q=>b a λds=>match ds with
 | [.int j]=>-(2 ^ 62)<=j/\j<2 ^ 62/\Q ((List.range j.toNat).map λ(i:Nat)=>.int (0+i))
 | _=>False
theorem mn{K:J'}{G:Hp}{a:List V}{d:D}(h:c9 K G a [d]):∃v,a=[v]/\Rep K G v d:=by
 match a,h with
 | [],h=>simp only[c9] at h
 | [v],h=>simp only[c9] at h;show⟨v,rfl,h.1⟩
 | v::w::r,h=>simp only[c9] at h;show absurd h.2 (by simp)
theorem yY{K:J'}{G:Hp}{a:List V}{d e:D}(h:c9 K G a [d,e]):∃v w,a=[v,w]/\Rep K G v d/\Rep K G w e:=by
 match a,h with
 | [],h=>simp only[c9] at h
 | v::r,h=>
  simp only[c9] at h;obtain⟨w,rfl,hw⟩:=mn h.2;show⟨v,w,rfl,h.1,hw⟩
theorem nQ{a:Expr}{c:kj}{p:Pos}(g:X.mg "range"=none)(ha:nA X [a] c)(i:Gl X "range":=by rfl)(f:starEach [a] X.env=[(false,eval a X.env)]:=by rfl):PId X tg (.Call (.Name "range" p) [a] [] pos) (mD c):=by
 obtain⟨t,pp,q⟩:=ha;show⟨_,TK i g pp f,λe σ m j G H Q P E h k=>q e σ m j G H _ _ E h λo l ds n x rs b=>?_⟩;split at b
 .obtain⟨v,rfl,d⟩:=mn rs;simp only[Rep] at d;subst d;show⟨_,rfl,b.1,b.2.1,k _ l _ n x (Lm 0 _) b.2.2⟩
 show b.elim
def DL(b:kj):lC:=λa Q=>b a λds=>match ds with
 | [.int i,.int j]=>(-(2 ^ 62)<=i/\i<2 ^ 62/\-(2 ^ 62)<=j/\j<2 ^ 62)/\Q ((List.range (j-i).toNat).map λ(n:Nat)=>.int (i+n))
 | _=>False
theorem Tc{a b:Expr}{d:kj}{p:Pos}(l:X.mg "range"=none)(ha:nA X [a,b] d)(m:Gl X "range":=by rfl)(j:starEach [a,b] X.env=[(false,eval a X.env),(false,eval b X.env)]:=by rfl)(i:starEach [b] X.env=[(false,eval b X.env)]:=by rfl):PId X tg (.Call (.Name "range" p) [a,b] [] pos) (DL d):=by
 obtain⟨t,pp,q⟩:=ha;show⟨_,TJ m l pp j i,λg σ r n G H Q P E h k=>q g σ r n G H _ _ E h λw o ds s x rs c=>?_⟩;split at c
 .obtain⟨v,u,rfl,e,f⟩:=yY rs;simp only[Rep] at e f;subst e f;show⟨_,_,rfl,c.1,k _ o _ s x (Lm _ _) c.2⟩
 show c.elim
def vb(b:kj):lC:=λa Q=>b a λds=>match ds with
 | [.lst es]=>Q (pX es)
 | _=>False
theorem x9{a:Expr}{d:kj}{p tp:Pos}{b:List Expr}{i:Nat}(l:X.mg "enumerate"=none)(ha:nA X [a] d)(m:Gl X "enumerate":=by rfl)(j:starEach [a] X.env=[(false,eval a X.env)]:=by rfl):PId X (.Tuple b i tp) (.Call (.Name "enumerate" p) [a] [] pos) (vb d):=by
 obtain⟨t,pp,q⟩:=ha;show⟨_,Pz m l pp j,λg σ u o G H Q P E h k=>q g σ u o G H _ _ E h λy r ds w x rs c=>?_⟩;split at c
 .obtain⟨v,rfl,e⟩:=mn rs;simp only[Rep] at e;obtain⟨a,xs,rfl,f,n⟩:=e;show⟨a,xs,rfl,x.s.hE f,k _ r _ w x (SF f n) c⟩
 show c.elim
def rY(b:kj):lC:=λa Q=>b a λds=>match ds with
 | [.lst es,.lst fs]=>Q (xF es fs)
 | _=>False
theorem xX{a b:Expr}{e:kj}{p tp:Pos}{c:List Expr}{m:Nat}(r:X.mg "zip"=none)(ha:nA X [a,b] e)(u:Gl X "zip":=by rfl)(o:starEach [a,b] X.env=[(false,eval a X.env),(false,eval b X.env)]:=by rfl)(n:starEach [b] X.env=[(false,eval b X.env)]:=by rfl) :
  PId X (.Tuple c m tp) (.Call (.Name "zip" p) [a,b] [] pos) (rY e):=by
 obtain⟨t,pp,q⟩:=ha;show⟨_,OZ u r pp o n,λl σ B z G H Q P E h k=>q l σ B z G H _ _ E h λF A ds C x rs d=>?_⟩;split at d
 .obtain⟨v,D,rfl,f,g⟩:=yY rs;simp only[Rep] at f g;obtain⟨a,xs,rfl,j,y⟩:=f;obtain⟨b,ys,rfl,i,w⟩:=g;show⟨a,b,rfl,⟨xs,(x.s.hE j).sq⟩,⟨ys,(x.s.hE i).sq⟩,k _ A _ C x (QX j y i w) d⟩
 show d.elim
def i9(c:lC)(g:jN)(tb:TX):TX:=λD b=>c b λds=>∃a:Nat->Ev->Prop,a 0 b/\
 (∀i d ρ',ds[i]?=some d->a i ρ'->g d ρ' λe=>tb { D with nx:=a (i+1),ct:=a (i+1),bk:=D.nx } e)/\∀ρ',a ds.length ρ'->D.nx ρ'
theorem kC{a:Expr}{body:List Stmt}{P:lC}{g:jN}{tb:TX}(hp:PassesOwn (model X.prog X.w) X.A X.env X.xe)(hc:X.calm=true)(hi:PId X tg a P)(hg:tH X tg g)(hb:pL X body tb)
  (hs:∀x,foldedSetIterable a X.env x=pure x:=by intro _;rfl):PX X (.For tg a body [] pos) (i9 P g tb):=by
 obtain⟨t1,p1,q1⟩:=hi;obtain⟨t2,p2,q2⟩:=hg;obtain⟨t3,p3,Z⟩:=hb;show⟨_,OF hp hc p1 p2 p3 hs,λM σ q n G H D E k h F=>q1 M σ q n G H _ _ k h λJ H1 ds z B O hq=>?_⟩;obtain⟨S,i0,turn,fin⟩:=hq;show⟨λi m y o=>m=ds.length-i/\i<=ds.length/\∃ρ' c,fm X.K q n ρ' y c o/\dU z c/\S i ρ',⟨ds.length,by simp,aZ _,M,z,k.ext B,dU.refl _,i0⟩,?_⟩;rintro i m y o ⟨rfl,hi,ρ',c,t,r,R⟩;by_cases I:i<ds.length
 .obtain⟨w1,w2⟩:=O;obtain⟨go,U⟩:=w1 i ds[i] c o (ah I) r t.e.s;show .inr ⟨go,λQ l=>∃u b,fm X.K q n u Q b l/\dU z b/\S (i+1) u,λQ l ⟨u,b,k2,s2,Xi⟩=>⟨ds.length-(i+1),by ext,rfl,I,u,b,k2,s2,Xi⟩,λv l hy=>?_⟩;obtain⟨b,N,Y⟩:=U v l hy;show q2 ρ' y q n b l ds[i] v _ _ (t.ext N) Y (turn i ds[i] ρ' (ah I) R) λW m8 T H3 k3 V hJ=>?_
  have s3:dU z T:=(r.trans N.g).trans V.g;show Z W m8 q n T H3 _ _ k3 hJ ⟨λd C p L s4 f j=>⟨d,p,f,s3.trans s4,j⟩,F.rt,λd C p L s4 f j=>F.nx d C p L ((B.g.trans s3).trans s4) f j,λd C p L s4 f j=>⟨d,p,f,s3.trans s4,j⟩⟩
 have e:i=ds.length:=by ext
 subst e;show .inl ⟨O.2 c o r t.e.s,F.nx ρ' y c o (B.g.trans r) t (fin ρ' R)⟩
def D5(c:ki)(tb:TX):TX:=λD e=>∃W:Nat->Ev->Prop,(∃m,W m e)/\∀m ρ',W m ρ'->c ρ' λb=>if b=true then tb { D with nx:=λd=>∃a,a<m/\W a d,ct:=λd=>∃a,a<m/\W a d,bk:=D.nx } ρ' else D.nx ρ'
theorem JZ{c:Expr}{body:List Stmt}{tc:ki}{tb:TX}(Q:PassesOwn (model X.prog X.w) X.A X.env X.xe)(R:PB X c tc)(S:pL X body tb):PX X (.While c body [] pos) (D5 tc tb):=by
 obtain⟨t1,P,N⟩:=R;obtain⟨t3,O,M⟩:=S;show⟨_,Rh Q P O,λI σ r q G H D E k h v=>?_⟩;obtain⟨W,⟨m0,L⟩,turn⟩:=h;show⟨λm j z=>∃ρ' s,fm X.K r q ρ' j s z/\dU G s/\W m ρ',⟨m0,I,G,k,dU.refl _,L⟩,?_⟩;rintro m j z ⟨ρ',s,u,B,J⟩;show N ρ' j r q s z _ _ u (turn m ρ' J) λb l d o p=>?_
 cases b with
 | true=>
  rw[if_pos rfl] at p ⊢;show⟨λC l=>∃a,a<m/\∃F d,fm X.K r q F C d l/\dU G d/\W a F,λC l T=>T,?_⟩;have s2:dU G d:=B.trans o.g;show M ρ' j r q d l _ _ (u.ext o) p ⟨λe t n y s4 f x=>by obtain⟨a,hm,i⟩:=x;show⟨a,hm,e,n,f,s2.trans s4,i⟩,v.rt,λe t n y s4 f i=>v.nx e t n y (s2.trans s4) f i,λe t n y s4 f x=>by obtain⟨a,hm,i⟩:=x;show⟨a,hm,e,n,f,s2.trans s4,i⟩⟩
 | false=>
  rw[if_neg aY] at p ⊢;show v.nx ρ' j d l (B.trans o.g) (u.ext o) p
end
noncomputable def qZ(a:Ev):Option Nat->Sl
 | none=>.un
 | some j=>match gt a j with
  | .fz d=>.fz d
  | _=>.un
noncomputable def iG(m:List (Option Nat))(a:Ev):Ev:=m.map (qZ a)
theorem tO{m:List (Option Nat)}{b:Ev}{i:Nat}:gt (m.map (qZ b)) i=match m[i]? with
  | some o=>qZ b o
  | none=>.un:=by
 induction m generalizing i with
 | nil=>simp[gt]
 | cons a r c=>
  cases i with
  | zero=>simp[gt]
  | succ i=>simp only[ax,gt,bO];show c
def rm(m:List (Option Nat))(g:jN):Prop:=∀d a Q,g d a Q->g d a λb=>Q b/\b.length=a.length/\∀j c,m[j]?=some (some c)->gt b j=gt a j
def Cd(m:List (Option Nat))(g:qw):Prop:=∀ds a Q,g ds a Q->g ds a λb=>Q b/\b.length=a.length/\∀j c,m[j]?=some (some c)->gt b j=gt a j
theorem iW{m:List (Option Nat)}{i:Nat}(h:m[i]?=some none:=by rfl):rm m (eD i):=λd b Q q=>by
 show⟨q,by simp,λj c a=>?_⟩;rw[xU,if_neg];rintro⟨e,_⟩;subst e;rw[h] at a;cases a
theorem JY{m:List (Option Nat)}:Cd m iJ:=λds a Q q=>by
 unfold iJ at q ⊢;split at q
 .exact⟨q,rfl,λ_ _ _=>rfl⟩
 show q.elim
theorem zq{m:List (Option Nat)}{t:jN}{u:qw}(mono:∀d a (Q b:Ev->Prop),(∀ρ',Q ρ'->b ρ')->t d a Q->t d a b)(g:∀d a (Q b:Ev->Prop),(∀ρ',Q ρ'->b ρ')->u d a Q->u d a b)(r:rm m t)(p:Cd m u):Cd m (ff t u):=λds a Q q=>by
 unfold ff at q ⊢;split at q
 .refine mono _ _ _ _ (λρ' e=>?_) (r _ _ _ q);obtain⟨i,l,o⟩:=e;show g _ _ _ _ (λs e=>by obtain⟨h,k,n⟩:=e;show⟨h,k.trans l,λj c f=>(n j c f).trans (o j c f)⟩) (p _ _ _ i)
 show q.elim
theorem JX{m:List (Option Nat)}{n:Nat}{u:qw}(a:Cd m u):rm m (ju n u):=λd b Q q=>by
 unfold ju at q ⊢;split at q
 .exact⟨q.1,a _ _ _ q.2⟩
 show q.elim
theorem uo{i:Nat}:∀d a (Q b:Ev->Prop),(∀ρ',Q ρ'->b ρ')->eD i d a Q->eD i d a b:=λ_ _ _ _ h q=>h _ q
theorem zj:∀d a (Q b:Ev->Prop),(∀ρ',Q ρ'->b ρ')->iJ d a Q->iJ d a b:=λ_ _ _ _ h q=>by
 unfold iJ at q ⊢;split at q
 .exact h _ q
 show q.elim
theorem CI{t:jN}{u:qw}(mono:∀d a (Q b:Ev->Prop),(∀ρ',Q ρ'->b ρ')->t d a Q->t d a b)(c:∀d a (Q b:Ev->Prop),(∀ρ',Q ρ'->b ρ')->u d a Q->u d a b):∀d a (Q b:Ev->Prop),(∀ρ',Q ρ'->b ρ')->ff t u d a Q->ff t u d a b:=λ_ _ _ _ h q=>by
 unfold ff at q ⊢;split at q
 .exact mono _ _ _ _ (λρ' e=>c _ _ _ _ h e) q
 show q.elim
theorem tT{m:List (Option Nat)}{i j n:Nat}(h:m[i]?=some none:=by rfl)(h':m[j]?=some none:=by rfl):rm m (ju n (ff (eD i) (ff (eD j) iJ))):=
 JX (zq uo (CI uo zj) (iW h) (zq uo zj (iW h') JY))
theorem Uo{m:List (Option Nat)}{i j k n:Nat}(h:m[i]?=some none:=by rfl)(h':m[j]?=some none:=by rfl)(a:m[k]?=some none:=by rfl):rm m (ju n (ff (eD i) (ff (eD j) (ff (eD k) iJ)))):=
 JX (zq uo (CI uo (CI uo zj)) (iW h) (zq uo (CI uo zj) (iW h') (zq uo zj (iW a) JY)))
def xt(X:Cx)(a:List Expr)(t:ki):Prop:=∃tt,yI X a tt/\∀(c:Ev)(σ:St)(f e G H:Hp)(Q:Bool->Prop)(P:Bool->Hp->Prop),fm X.K f e c σ G H->t c Q->
 (∀b d g,Ext G H g d->Q b->P b d)->tt σ H P
def jU:ki:=λ_ Q=>Q true
theorem mv{X:Cx}:xt X [] jU:=⟨_,PH,λa σ c b G H Q P E h k=>k true H G (.refl E.e.s) h⟩
theorem mq{X:Cx}{c:Expr}{t:ki}(h:PB X c t):xt X [c] t:=let⟨tt,p,q⟩:=h;⟨tt,PF p,q⟩
def gr(f:lC)(m:List (Option Nat))(g:jN)(tc:ki)(te:TD):TD:=λc Q=>f c λds=>∃a:Nat->List D->Prop,a 0 []/\
 (∀i d acc,ds[i]?=some d->a i acc->g d (iG m c) λe=>tc e λb=>if b=true then te e λr=>acc.length<sizeLine/\a (i+1) (acc++[r.val]) else a (i+1) acc)/\∀acc,a ds.length acc->Q (.ow acc)
section
variable{X:Cx}{elt iter tg:Expr}{ifs:List Expr}{scope:Scope}{pos:Pos}{N':List Str}{m:List (Option Nat)}{wi:lC}{g:jN}{tc:ki}{te:TD}
theorem Cc(cs:eS X N' m scope)(hk:rm m g){ww:TI}{gg:rR TG}{Al:rR TT}{B:rR TE}
  (q1:∀(a:Ev)(σ:St)(r q G H:Hp)(Q:List D->Prop)(P:It->Hp->Prop),fm X.K r q a σ G H->wi a Q->(∀J l ds f,Ext G H f l->tJ X.K J f ds->Q ds->P J l)->ww σ H P)
  (q2:∀s3 t ex (a:Ev) (σ:St) (r q G H:Hp) (d:D) (v:V) (Q:Ev->Prop) (P:St->Hp->Prop),fm X.K r q a σ G H->Rep X.K G v d->g d a Q->(∀ρ' w f l,fm X.K r q ρ' w f l->Ext G H f l->Q ρ'->P w l)->gg s3 t ex v σ H P)
  (q3:∀s3 t ex (a:Ev) (σ:St) (r q G H:Hp) (Q:Bool->Prop) (P:Bool->Hp->Prop),fm X.K r q a σ G H->tc a Q->(∀b l f,Ext G H f l->Q b->P b l)->Al s3 t ex σ H P)
  (q4:∀s3 t ex,rS X.K te (B s3 t ex)):rS X.K (gr wi m g tc te) (yV ww m gg Al B):=by
 show λa σ r q G H Q P E h k=>q1 a σ r q G H _ _ E h λJ H1 ds p A wk hq=>?_
 obtain⟨Iv,i0,turn,fin⟩:=hq;intro D L s3 ex;have E1:=E.ext A;have Hr:p D=none:=A.s.free L;have u:∀{i:Nat}{es:List L2.D},gt (iG m a) i=.ow es->False:=λ{i es} h=>by
  unfold iG at h;rw[tO] at h;split at h
  .rename_i o _;unfold qZ at h;split at h
   .cases h
   split at h<;>cases h
  cases h
 have sJ:∀{i:Nat}{o:OV},gt (iG m a) i=.ov o->False:=λ{i o} h=>by
  unfold iG at h;rw[tO] at h;split at h
  .rename_i o _;unfold qZ at h;split at h
   .cases h
   split at h<;>cases h
  cases h
 have mF:fm X.K p H1 (iG m a) (sO m σ) p (upd H1 D (.lst [])):=by
  show⟨.own A.s L,by simp[sO,iG],λi d h=>?_,λi es h=>(u h).elim,λi j es fs _ h=>(u h).elim,λ_=>none,λi es _ h=>(u h).elim,λi o h=>(sJ h).elim⟩;unfold iG at h;rw[tO] at h;split at h
  .rename_i o ho;unfold qZ at h;split at h
   .cases h
   rename_i j;split at h
   .rename_i d' sV;cases h;obtain⟨v,hv,S⟩:=E1.fz j d sV;show⟨v,?_,S⟩;unfold sO;rw[aI,ho];simp[hv]
   cases h
  cases h
 show⟨λi n w l=>n=ds.length-i/\i<=ds.length/\∃acc xs f,fm X.K p H1 (iG m a) w f l/\l D=some (.lst xs)/\f D=none/\c9 X.K f xs acc/\Iv i acc,
  ⟨ds.length,by simp,aZ _,[],[],p,mF,i7,Hr,c9.nil,i0⟩,?_⟩
 rintro i n w l ⟨rfl,hi,acc,xs,f,z,hx,Ba,R,iv⟩;by_cases U:i<ds.length
 .obtain⟨w1,w2⟩:=wk;obtain⟨go,yl⟩:=w1 i ds[i] f l (ah U) z.e.g z.e.s;show .inr ⟨go,λmT x=>∃acc xs f,fm X.K p H1 (iG m a) mT f x/\x D=some (.lst xs)/\f D=none/\c9 X.K f xs acc/\Iv (i+1) acc,λmT x h2=>⟨ds.length-(i+1),by ext,rfl,U,h2⟩,λv x hy=>?_⟩;obtain⟨G2,x2,S⟩:=yl v x hy;show q2 _ _ _ (iG m a) w p H1 G2 x ds[i] v _ _ (z.ext x2) S (hk _ _ _ (turn i ds[i] acc (ah U) iv)) λO m8 G3 t Z x3 T=>?_
  obtain⟨T,GY,yy⟩:=T;have weak:∀j,gt (iG m a) j=.un\/gt (iG m a) j=gt O j:=λj=>by
   cases hm:m[j]? with
   | none=>left;unfold iG;rw[tO,hm]
   | some o=>
    cases o with
    | none=>left;unfold iG;rw[tO,hm];rfl
    | some c=>right;show(yy j c hm).symm
  have FV:=x2.trans x3;show q3 _ _ _ O m8 p H1 G3 t _ _ Z T λb H4 Y M F=>?_
  have I:=FV.trans M;have E4:=(Z.ext M).weak (ρ':=iG m a) (GY.symm) weak;have N:H4 D=some (.lst xs):=I.h _ _ hx;have A8:Y D=none:=I.n D Ba (by rw[hx];show nofun);cases b with
  | false=>
   rw[if_neg aY] at F ⊢;show⟨acc,xs,Y,E4,N,A8,R.mono I.g,F⟩
  | true=>
   rw[if_pos rfl] at F ⊢;show q4 _ _ _ O m8 p H1 Y H4 _ _ (Z.ext M) F λv5 H5 r5 G5 x5 F8 pw=>?_
   obtain⟨W,C,WM,_⟩:=F8.freeze x5;have y:=E4.ext C;have GB:H5 D=some (.lst xs):=C.h _ _ N;have A7:W D=none:=C.n D A8 (by rw[N];show nofun);have r6:c9 X.K W xs acc:=(R.mono I.g).mono C.g;show⟨xs,GB,by rw[r6.length];show pw.1,acc++[r5.val],xs++[v5],W,?_,i7,A7,r6.append (c9.cons WM c9.nil),pw.2⟩;show⟨⟨y.e.g,λb o e=>by rw[fI (lI e L)];show y.e.h b o e,λb o e=>by rw[fI (lI e A7)];show y.e.s b o e,y.e.n⟩,y.len,y.fz,λi es h=>(u h).elim,λi j es fs _ h=>(u h).elim,λ_=>none,λi es _ h=>(u h).elim,λi o h=>(sJ h).elim⟩
 have e:i=ds.length:=by ext
 subst e;show .inl ⟨wk.2 f l z.e.g z.e.s,k _ l (.ow acc) f (A.trans z.e) ⟨D,xs,rfl,A.h.free L,Ba,hx,R⟩ (fin acc iv)⟩
theorem jV(j:X.calm=true)(d:eS X N' m scope)(i:rm m g)(hi:PId X tg iter wi)(c:∀s3 a ex,tH (jM X N' scope s3 a ex) tg g)(b:∀s3 a ex,xt (jM X N' scope s3 a ex) ifs tc)
  (he:∀s3 a ex,PD (jM X N' scope s3 a ex) elt te) (h:∀x,foldedSetIterable iter X.env x=pure x:=by intro _;rfl):PD X (.ListComp elt [⟨tg,iter,ifs,0⟩] scope pos) (gr wi m g tc te):=by
 obtain⟨ww,f,e⟩:=hi;show⟨_,Jw (g:=λs3 a ex=>(c s3 a ex).choose) (tc:=λs3 a ex=>(b s3 a ex).choose) (te:=λs3 a ex=>(he s3 a ex).choose) j d f (λs3 a ex=>(c s3 a ex).choose_spec.1) (λs3 a ex=>(b s3 a ex).choose_spec.1) (λs3 a ex=>(he s3 a ex).choose_spec.1) h,
  Cc d i e (λs3 a ex=>(c s3 a ex).choose_spec.2) (λs3 a ex=>(b s3 a ex).choose_spec.2) (λs3 a ex=>(he s3 a ex).choose_spec.2)⟩
theorem Cb(i:Nat){x:Str}{b e:Pos}(y:X.calm=true)(f:eS X N' m scope)(u:rm m g)(hi:PId X tg iter wi)(d:∀s3 a ex,tH (jM X N' scope s3 a ex) tg g)(c:∀s3 a ex,xt (jM X N' scope s3 a ex) ifs tc)
  (he:∀s3 a ex,PD (jM X N' scope s3 a ex) elt te) (z:X.N.Nodup:=by assumption) (l:X.N[i]?=some x:=by rfl) (hx:Loc X.env.scope x:=by first | show Or.inl rfl | show Or.inr rfl) (s:∀x,foldedSetIterable iter X.env x=pure x:=by intro _;rfl)
  (n:swapsWith (.ListComp elt [⟨tg,iter,ifs,0⟩] scope pos) (some (.Name x b)) e.line X.env=pure true:=by rfl)
  (w:X.fn x=true\/X.env.scope.names.lookup x=some .local:=by first | show .inl rfl | show .inr rfl | assumption) :
  PX X (.Assign [.Name x b] (.ListComp elt [⟨tg,iter,ifs,0⟩] scope pos) e) (jJ i (gr wi m g tc te)):=by
 obtain⟨ww,q,p⟩:=hi;show⟨_,Ef (g:=λs3 a ex=>(d s3 a ex).choose) (tc:=λs3 a ex=>(c s3 a ex).choose) (te:=λs3 a ex=>(he s3 a ex).choose) z l hx y f q (λs3 a ex=>(d s3 a ex).choose_spec.1) (λs3 a ex=>(c s3 a ex).choose_spec.1) (λs3 a ex=>(he s3 a ex).choose_spec.1) s n w,λj σ F B G H D E k h A=>?_⟩;show Cc f u p (λs3 a ex=>(d s3 a ex).choose_spec.2) (λs3 a ex=>(c s3 a ex).choose_spec.2) (λs3 a ex=>(he s3 a ex).choose_spec.2) j σ F B G H _ _ k h λv C r I x o t=>A.nx _ _ I C x.g (k.put x o) t
theorem ui(i:Nat){x:Str}{b f:Pos}(A:X.calm=true)(j:eS X N' m scope)(y:rm m g)(hi:PId X tg iter wi)(d:∀s3 a ex,tH (jM X N' scope s3 a ex) tg g)(c:∀s3 a ex,xt (jM X N' scope s3 a ex) ifs tc)
  (he:∀s3 a ex,PD (jM X N' scope s3 a ex) elt te) (B:X.N.Nodup:=by assumption) (n:X.N[i]?=some x:=by rfl) (hx:Loc X.env.scope x:=by first | show Or.inl rfl | show Or.inr rfl) (u:∀x,foldedSetIterable iter X.env x=pure x:=by intro _;rfl)
  (o:swapsWith (.ListComp elt [⟨tg,iter,ifs,0⟩] scope pos) (some (.Name x b)) f.line X.env=pure true:=by rfl)
  (z:X.fn x=true\/X.env.scope.names.lookup x=some .local:=by first | show .inl rfl | show .inr rfl | assumption) :
  PX X (.Assign [.Name x b] (.ListComp elt [⟨tg,iter,ifs,0⟩] scope pos) f) (e8 i (gr wi m g tc te)):=by
 obtain⟨ww,t,s⟩:=hi;show⟨_,Ef (g:=λs3 a ex=>(d s3 a ex).choose) (tc:=λs3 a ex=>(c s3 a ex).choose) (te:=λs3 a ex=>(he s3 a ex).choose) B n hx A j t (λs3 a ex=>(d s3 a ex).choose_spec.1) (λs3 a ex=>(c s3 a ex).choose_spec.1) (λs3 a ex=>(he s3 a ex).choose_spec.1) u o z,λl σ K F G H D E k h C=>?_⟩;show Cc j y s (λs3 a ex=>(d s3 a ex).choose_spec.2) (λs3 a ex=>(c s3 a ex).choose_spec.2) (λs3 a ex=>(he s3 a ex).choose_spec.2) l σ K F G H _ _ k h λv I r L x q w=>?_
 obtain⟨J,e,p,_⟩:=q.freeze x;show C.nx _ _ J I e.g (k.put e (r:=.fz r.val) p) w
end
noncomputable abbrev fv:=List D->(R->Prop)->Prop
def xu(K:J')(n:Nat)(t:fv):Sp:=λd H Q _=>∃G ds b,dU G H/\c9 K G d ds/\ds.length=n/\t ds b/\∀v a r c,Ext G H c a->gJ K c a H v r->b r->Q v a
noncomputable def uf(N:List Str)(ds:List D):Ev:=ds.map Sl.fz++List.replicate (N.length-ds.length) .un
theorem UE{ds:List D}{l:List Sl}{i:Nat}{s:Sl}(h:gt (ds.map Sl.fz++l) i=s):(∃d,ds[i]?=some d/\s=.fz d)\/(ds.length<=i/\gt l (i-ds.length)=s):=by
 induction ds generalizing i with
 | nil=>show .inr ⟨aZ _,by simpa using h⟩
 | cons d ds c=>
  cases i with
  | zero=>simp only[ax,cq,gt] at h;show .inl ⟨d,rfl,h.symm⟩
  | succ i=>
   simp only[ax,cq,gt] at h;rcases c h with⟨e,b,a⟩ | ⟨b,a⟩
   .exact .inl ⟨e,by simpa using b,a⟩
   show .inr ⟨by simp;ext,?_⟩;rw[aG];rw[show i+1-(ds.length+1)=i-ds.length by ext];show a
theorem SE{n i:Nat}:gt (List.replicate n Sl.un) i=.un:=by
 induction n generalizing i with
 | zero=>simp[gt]
 | succ n a=>
  cases i with
  | zero=>rfl
  | succ i=>show a
theorem JW{K:J'}{G H:Hp}{N:List Str}{e:List V}{ds:List D}(s:dU G H)(r:c9 K G e ds):fm K G H (uf N ds) (mF N e) G H:=by
 have k:=r.length;have c:∀{i:Nat}{t:Sl},gt (uf N ds) i=t->t≠.un->∃d,ds[i]?=some d/\t=.fz d:=λ{i t} h n=>by
  rcases UE h with h | ⟨_,h⟩
  .exact h
  rw[SE] at h;show absurd h.symm n
 show⟨.refl s,by simp[mF,uf,k],λi d h=>?_,λi es h=>?_,λi j es fs _ h=>?_,λ_=>none,λi es _ h=>?_,λi o h=>?_⟩
 .obtain⟨d',b,a⟩:=c h (by simp);cases a;obtain⟨v,f,g⟩:=r.get b;have hi:i<e.length:=(ar.mp f).1;show⟨v,?_,g⟩;unfold mF;rw[List.getElem?_append_left (by simpa using hi),aI,f];rfl
 .obtain⟨d',b,a⟩:=c h (by simp);cases a
 .obtain⟨d',b,a⟩:=c h (by simp);cases a
 .obtain⟨d',b,a⟩:=c h (by simp);cases a
 obtain⟨d',b,a⟩:=c h (by simp);cases a
section
variable{P:Program}{w:World}{K:J'}{mg:Str->Option Value}{base:Heap}
theorem Ed{x a:Str}{st:Stmt}{f:Addr}{j:FuncData}{N ps:List Str}{k:Nat}{t:fv}{T:TX}{o:Value}(F:nC o K x a st f j)(S:du N ps (de st))
  (body:∀(d:Value)(A:Around)(outer:List Env)(s:Shared)(H:Hp)(E:XK),fN k (A.deeper (envOfC a (de st) s.heap.objs.size f d))->pL (rg nX P w K mg base N a (de st) f d A outer s H E).tX (eW st) T)
  (c:∀(ds:List D)(b:R->Prop),ds.length=ps.length->t ds b->T { nx:=λ_=>b (.fz .non),rt:=b } (uf N ds)):jv P w K mg base nX (k+1) f j ps (xu K ps.length t):=by
 show F.ok S (λl H Q E h=>?_) (λd A outer s H l Q E n h=>?_)
 .obtain⟨G,ds,b,_,r,g,_⟩:=h;rw[r.length,g]
 obtain⟨G,ds,b,s0,r,g,m,i⟩:=h;obtain⟨tt,p,q⟩:=body d A outer s H E n;show⟨tt,p,q _ _ G H G H _ _ (JW s0 r) (c ds b g m) ⟨λy σ v u _ e h=>i _ u _ v e.e (iw (Jv _ _)) h,i,λ_ _ _ _ _ _ h=>h.elim,λ_ _ _ _ _ _ h=>h.elim⟩⟩
end
section
variable{X:Cx}{k n:Nat}{f:Addr}{fd:FuncData}{ps:List Str}{t:fv}{x:Str}{p pos:Pos}{e:Expr}{es:List Expr}{ts:kj}
def fT(n:Nat)(t:fv)(ts:kj):TD:=λa Q=>ts a λds=>ds.length=n/\t ds Q
theorem Px(F:jv X.prog X.w X.K X.mg X.base nX k f fd ps (xu X.K n t))(j:fN k X.A)(l:X.mg x=some (.ref f))(m:PySem.W.keepIn X.K (.ref f)=true)(u:Binds X.K fd ps [])(ha:nA X (e::es) ts)(o:Gl X x:=by rfl)(i:(x==("__debug__":Str))=false:=by decide)
  (he:starEach (e::es) X.env=(false,eval e X.env)::starEach es X.env:=by rfl) (hpl:(backTo pos (starEach es X.env)).any (·.1)=false:=by rfl):PD X (.Call (.Name x p) (e::es) [] pos) (fT n t ts):=by
 obtain⟨tt,pp,q⟩:=ha;show⟨_,QN F j o l m u .nil Im pp i he hpl,λb σ C z G H Q P E h k=>q b σ C z G H _ _ E h λI J ds D x rs a=>?_⟩;rw[aS];show⟨D,ds,Q,x.s,rs,a.1,a.2,λv y r B c d g=>k v y r B (x.trans c) (d.je x.h) g⟩
end
open PySem.StrLaws
noncomputable def lE{a:Type}(xs:List a)(lo hi:Option Int):List a:=(xs.drop (HT.fF xs.length 0 lo)).take (HT.fF xs.length xs.length hi-HT.fF xs.length 0 lo)
noncomputable def rX(z:Str)(lo hi:Option Int):Str:=⟨(lE z.cps.toList lo hi).toArray⟩
theorem va(v:Int)(n d:Nat):max 0 (min (if v<0 then v+(n:Int) else v) (n:Int))=((HT.fF n d (some v):Nat):Int):=by
 rw[<-HT.ny];by_cases h:v<0
 .rw[if_pos h,if_pos h];ext
 rw[if_neg h,if_neg h];ext
theorem Ll(z:Str)(lo hi:Option Int):(Builtin.Str.strSliceIndices lo hi 1 z.length).filterMap (z.cps[·]?)=lE z.cps.toList lo hi:=by
 have f:z.cps.toList.length=z.length:=by simp[Str.length]
 have e:Builtin.Str.strSliceIndices lo hi 1 z.length=sliceRange ((HT.fF z.length 0 lo:Nat):Int) ((HT.fF z.length z.length hi:Nat):Int) 1:=by
  unfold Builtin.Str.strSliceIndices;cases lo with
  | none=>
   cases hi with
   | none=>rfl
   | some v=>simp only[show((1:Int)>0) from by decide,aX,va v z.length z.length];rfl
  | some u=>
   cases hi with
   | none=>simp only[show((1:Int)>0) from by decide,aX,va u z.length 0];rfl
   | some v=>simp only[show((1:Int)>0) from by decide,aX,va v z.length z.length,va u z.length 0]
 rw[e];unfold lE;rw[f];generalize ha:HT.fF z.length 0 lo=a;generalize g:HT.fF z.length z.length hi=b;have c:b<=z.length:=by rw[<-g];show HT.kE _ _ (ay _) _
 have i:a<=z.length:=by rw[<-ha];show HT.kE _ _ (aZ _) _
 by_cases d:a<=b
 .have:=sliced_plain z d c;rw[strSliceIndices_plain d c] at this;rw[<-this];unfold sliceRange;simp only[show((1:Int)>0) from by decide,aX];congr 1
  by_cases h:a<b
  .rw[if_pos (by ext)];rw[show(((b:Int)-(a:Int)+1-1)/1).toNat=b-a by ext];apply List.map_congr_left;intro k _;show((a:Int)+1*(k:Int)).toNat=a+k;ext
  rw[if_neg (by ext),show b-a=0 by ext];rfl
 rw[show b-a=0 by ext,List.take_zero];unfold sliceRange;simp only[show((1:Int)>0) from by decide,aX];rw[if_neg (by ext)];rfl
theorem SD(z:Str)(lo hi:Option Int):Txt.slice z lo hi=rX z lo hi:=by
 unfold Txt.slice rX;split
 .rename_i h;have h':(Builtin.Str.strSliceIndices lo hi 1 z.length).length=z.length:=by simpa using h
  have c:z.cps.toList.length=z.length:=by simp[Str.length]
  have e:=Ll z lo hi;have d:(lE z.cps.toList lo hi).length=z.length:=by
   unfold lE;rw[aT,cB,c];have f:Builtin.Str.strSliceIndices lo hi 1 z.length=sliceRange ((HT.fF z.length 0 lo:Nat):Int) ((HT.fF z.length z.length hi:Nat):Int) 1:=by
    unfold Builtin.Str.strSliceIndices;cases lo with
    | none=>
     cases hi with
     | none=>rfl
     | some v=>simp only[show((1:Int)>0) from by decide,aX,va v z.length z.length];rfl
    | some u=>
     cases hi with
     | none=>simp only[show((1:Int)>0) from by decide,aX,va u z.length 0];rfl
     | some v=>simp only[show((1:Int)>0) from by decide,aX,va v z.length z.length,va u z.length 0]
   rw[f] at h';unfold sliceRange at h';simp only[show((1:Int)>0) from by decide,aX,ae,bG] at h';have g:=HT.kE z.length z.length (ay _) hi;have i:=HT.kE z.length 0 (aZ _) lo;by_cases a:((HT.fF z.length 0 lo:Nat):Int)<((HT.fF z.length z.length hi:Nat):Int)
   .rw[if_pos a] at h';ext
   rw[if_neg a] at h';simp at h';ext
  apply Str.ext';show z.cps=(lE z.cps.toList lo hi).toArray;have a:lE z.cps.toList lo hi=z.cps.toList:=by
   unfold lE at d ⊢;rw[aT,cB,c] at d;rw[c];have g:=HT.kE z.length z.length (ay _) hi;have b:HT.fF z.length 0 lo=0\/z.length=0:=by ext
   rcases b with b | b
   .rw[b,List.drop_zero,Nat.sub_zero];show bE (by ext)
   have:z.cps.toList=[]:=cf (by ext);rw[this];simp
  rw[a]
 rw[Ll]
section
variable{X:Cx}{pos:Pos}{e:Expr}{te:TD}
theorem wD:vI X (λx lo hi H Q=>∃z,x=.str z/\z.length<=sizeLine/\Q (.str (rX z lo hi)) H):=by
 intro m s σ H x v r n lo hi sl Q I a d pl pu h;obtain⟨z,rfl,hz,q⟩:=h;obtain⟨t,rfl⟩:=a;show⟨"str",_,F.slot_str_getitem.lookup,typeIs_str _ _ _,?_⟩;have part:∀{u:Value}{o:Option Int},IsPart u o->∃p:Option (Int×Tok),u=partValue p/\p.map (·.1)=o:=λh=>by
  cases h with
  | none=>show⟨none,rfl,rfl⟩
  | int i t=>show⟨some (i,t),rfl,rfl⟩
 obtain⟨c,rfl,j⟩:=part pl;obtain⟨b,rfl,g⟩:=part pu;obtain⟨o,e,f,hd⟩:=d;show wpAny_getItem_str_slice (l:=c) (u:=b) (st:=none) ⟨o,e,f,hd⟩ rfl ?_;have fin:∀t' k,EP X m σ Q (.str (Txt.slice z lo hi) t') { s with toks:=k }:=λt' k=>⟨.str (rX z lo hi),H,I.tok k,⟨t',by rw[SD]⟩,q⟩
 have hle:=aM (Txt.slice_le z lo hi) hz;subst j g;show post_val_or_str ⟨hle,fin⟩
noncomputable abbrev Bu:=Ev->(Option Int->Prop)->Prop
def Dp(X:Cx)(e:Option Expr)(t:Bu):Prop:=∃tt,PO X e tt/\∀(a:Ev)(σ:St)(d c G H:Hp)(Q:Option Int->Prop)(P:Option Int->Hp->Prop),fm X.K d c a σ G H->t a Q->(∀o b f,Ext G H f b->Q o->P o b)->tt σ H P
def pE:Bu:=λ_ Q=>Q none
def m9(te:TD):Bu:=λa Q=>te a λr=>match r.val with
 | .int i=>Q (some i)
 | _=>False
theorem rB:Dp X none pE:=⟨_,PL,λa σ c b G H Q P E h k=>k none H G (.refl E.e.s) h⟩
theorem pk(h:PD X e te):Dp X (some e) (m9 te):=by
 obtain⟨t,p,q⟩:=h;show⟨_,PJ p,λc σ n j G H Q P E h k=>q c σ n j G H _ _ E h λv l r o x f b=>?_⟩;obtain⟨m,d,a,_⟩:=f.freeze x;split at b
 .rename_i i g;rw[g] at a;simp only[Rep] at a;show⟨i,a,k _ l m d b⟩
 show b.elim
def oP(te:TD)(tl b:Bu):TD:=λa Q=>te a λr=>tl a λlo=>b a λhi=>match r.val with
 | .lst ds=>Q (.ow (lE ds lo hi))
 | .str z=>z.length<=sizeLine/\Q (.fz (.str (rX z lo hi)))
 | .tup ds=>¬(HT.fF ds.length 0 lo=0/\HT.fF ds.length ds.length hi=ds.length)/\Q (.fz (.tup (lE ds lo hi)))
 | _=>False
theorem JG{K:J'}{G:Hp}{xs:List V}{ds:List D}(r:c9 K G xs ds)(lo hi:Option Int):c9 K G (tK xs lo hi) (lE ds lo hi):=by
 unfold tK lE;rw[r.length];show(r.drop _).take _
theorem p4{lo hi:Option Expr}{tl B:Bu}{q:Pos}(he:PD X e te)(S:Dp X lo tl)(T:Dp X hi B):PD X (.Subscript e (.Slice lo hi none q) pos) (oP te tl B):=by
 obtain⟨t1,N,L⟩:=he;obtain⟨Z,q,J⟩:=S;obtain⟨t3,M,I⟩:=T;show⟨_,Ra (ux.or (wD.or O4)) N q M,λm σ w u G H Q P E h k=>L m σ w u G H _ _ E h λv V r G' x F R=>?_⟩;obtain⟨Y,o,D,_⟩:=F.freeze x;show J m σ w u Y V _ _ (E.ext o) R λlo U W n O=>?_
 show I m σ w u W U _ _ ((E.ext o).ext n) O λhi C l A d=>?_
 have b:=(o.trans n).trans A;have c:=(D.mono n.g).mono A.g;split at d
 .rename_i ds i;rw[i] at c;simp only[Rep] at c;obtain⟨a,xs,rfl,t,j⟩:=c;show .inl ⟨a,xs,rfl,(b.s.hE t).sq,λp f=>?_⟩;show k _ _ (.ow _) l (b.trans (.own b.s f)) ⟨p,_,rfl,b.h.free f,b.s.free f,i7,JG j lo hi⟩ d
 .rename_i z i;rw[i] at c;simp only[Rep] at c;show .inr (.inl ⟨z,c,d.1,k _ _ _ l b (iw (wd _ _ _)) d.2⟩)
 .rename_i ds i;rw[i] at c;simp only[Rep] at c;obtain⟨a,xs,rfl,t,j⟩:=c;show .inr (.inr ⟨a,xs,rfl,b.s.oz t,by rw[j.length];show d.1,λp f=>?_⟩);have y:Ext l C (upd l p (.tup (tK xs lo hi))) (upd C p (.tup (tK xs lo hi))):=.new b.s f;show k _ _ (.fz _) _ (b.trans y) ?_ d.2;show Rep X.K _ _ (.tup _);simp only[Rep];show⟨p,_,rfl,i7,(JG j lo hi).mono y.g⟩
 show d.elim
def jT:fv:=λds Q=>match ds with
 | [.lst es]=>Q (.fz (.int es.length))
 | [.tup es]=>Q (.fz (.int es.length))
 | [.str z]=>z.length<=sizeLine/\Q (.fz (.int z.length))
 | _=>False
theorem mB:se X (.builtin "len") jT:=by
 show⟨_,kh.or UH,λG H e ds Q P s rs h k=>?_⟩;unfold jT at h;split at h
 .obtain⟨v,rfl,b⟩:=mn rs;simp only[Rep] at b;obtain⟨a,xs,rfl,d,c⟩:=b;show .inl ⟨a,xs,rfl,.inl ((s.hE d).sq),?_⟩;rw[c.length];show k _ _ _ G (.refl s) (iw (kY _ _ _)) h
 .obtain⟨v,rfl,b⟩:=mn rs;simp only[Rep] at b;obtain⟨a,xs,rfl,d,c⟩:=b;show .inl ⟨a,xs,rfl,.inr (s.oz d),?_⟩;rw[c.length];show k _ _ _ G (.refl s) (iw (kY _ _ _)) h
 .obtain⟨v,rfl,b⟩:=mn rs;simp only[Rep] at b;subst b;show .inr ⟨_,rfl,h.1,k _ _ _ G (.refl s) (iw (kY _ _ _)) h.2⟩
 show h.elim
def yX(i:Nat):TD:=λa Q=>match gt a i with
 | .ow ds=>Q (.fz (.int ds.length))
 | _=>False
theorem JF(i:Nat){x:Str}{p b:Pos}(j:X.mg "len"=none)(l:X.N[i]?=some x:=by rfl)(g:oR X.env.scope x:=by first | show Or.inl rfl | show Or.inr (Or.inl rfl) | show Or.inr (Or.inr rfl))(c:Gl X "len":=by rfl)(hd:(x==("__debug__":Str))=false:=by decide)
  (f:(x==("__classdict__":Str))=false:=by decide) (d:starEach [Expr.Name x b] X.env=(false,eval (.Name x b) X.env)::starEach [] X.env:=by rfl):PD X (.Call (.Name "len" p) [.Name x b] [] pos) (yX i):=by
 show⟨_,CG kh c j cE (rn (pZ l g hd f) sf d),λq σ v u G H Q P E h k=>?_⟩;unfold yX at h;split at h
 .rename_i ds c;obtain⟨a,xs,o,n,t,r,m⟩:=E.ow i ds c;show⟨_,o,a,xs,rfl,.inl (gA.of n),?_⟩;rw[m.length];show k _ _ _ G (.refl E.e.s) (iw (kY _ _ _)) h
 show h.elim
noncomputable def og:List D->Option (List Bool)
 | []=>some []
 | .bl b::r=>(og r).map (b::·)
 | _=>none
theorem KW:∀{ds:List D}{bs:List Bool},og ds=some bs->ds=bs.map D.bl
 | [],bs,h=>by simp[og] at h;subst h;rfl
 | .bl b::r,bs,h=>by
  simp only[og,cC] at h;obtain⟨c,a,rfl⟩:=h;rw[KW a];rfl
 | .non::r,bs,h=>by simp[og] at h
 | .int _::r,bs,h=>by simp[og] at h
 | .str _::r,bs,h=>by simp[og] at h
 | .tup _::r,bs,h=>by simp[og] at h
 | .lst _::r,bs,h=>by simp[og] at h
 | .obj _ _::r,bs,h=>by simp[og] at h
 | .dic _::r,bs,h=>by simp[og] at h
 | .dit _::r,bs,h=>by simp[og] at h
 | .exc _::r,bs,h=>by simp[og] at h
theorem SA(bs:List Bool):og (bs.map D.bl)=some bs:=by
 induction bs with
 | nil=>rfl
 | cons b r a=>simp[og,a]
theorem JE{K:J'}{G:Hp}:∀{bs:List Bool}{a:List V},c9 K G a (bs.map D.bl)->a=bs.map V.bl
 | [],[],_=>rfl
 | b::bs,v::a,h=>by
  simp only[ax,c9,Rep] at h;rw[h.1,JE h.2];rfl
 | [],_::_,h=>by simp only[bV,c9] at h
 | _::_,[],h=>by simp only[ax,c9] at h
theorem QW{bs:List Bool}{a:List Value}(h:Vals (bs.map V.bl) a){i:Nat}{v:Value}(c:a[i]?=some v):∃b,bs[i]?=some b/\v=.bool b:=by
 have g:=h.length;have hi:i<a.length:=(ar.mp c).1;have e:i<bs.length:=by rw[ae] at g;ext
 obtain⟨u,d,f⟩:=h.get (i:=i) (x:=V.bl bs[i]) (by simp[e]);rw[c] at d;cases d;show⟨bs[i],by simp[e],f⟩
theorem Pw{s:Shared}{h':Heap}{o:Obj}(a:∀b x,b∉[s.heap.objs.size]->(s.heap.push o).get? b=some x->h'.get? b=some x):∀b x,s.heap.get? b=some x->h'.get? b=some x:=
 λb x e=>a b x (λhm=>by rw[bp.mp hm] at e;show cN _ (aF e)) (aj _ e)
theorem YF(bs:List Bool):((List.range bs.length).all λi=>(bs[i]?).getD true)=bs.all id:=by
 rw[Bool.eq_iff_iff];simp only[List.all_eq_true,bC,id];constructor
 .intro h b a;obtain⟨i,hi,rfl⟩:=List.mem_iff_getElem.mp a;simpa[hi] using h i hi
 intro h i hi;simpa[hi] using h _ (cv hi)
theorem Pu(bs:List Bool):((List.range bs.length).any λi=>(bs[i]?).getD false)=bs.any id:=by
 rw[Bool.eq_iff_iff];simp only[List.any_eq_true,bC,id];constructor
 .rintro⟨i,hi,h⟩;show⟨bs[i],cv hi,by simpa[hi] using h⟩
 rintro⟨b,a,h⟩;obtain⟨i,hi,rfl⟩:=List.mem_iff_getElem.mp a;show⟨i,hi,by simpa[hi] using h⟩
theorem Sz(k:X.calm=true):fc X (.builtin "any") (λxs H Q=>∃(p:Addr)(bs:List Bool),xs=[.ref p]/\gA X.K H p (bs.map V.bl)/\Q (.bl (bs.any id)) H):=by
 intro t s σ H xs us Q I r h;obtain⟨p,bs,rfl,f,q⟩:=h;obtain⟨u,rfl,d⟩:=lG r;cases d;obtain⟨its,a,pl,hz⟩:=I.list f;have m:p<s.heap.objs.size:=by obtain⟨_,_,e,_⟩:=pl;show aF e
 have g:its.length=bs.length:=by rw[<-a.length,ae]
 show call_any_walk (wpAny_pyIter_list pl.isList ?_);show⟨s.heap.objs.size,[s.heap.objs.size,p],[s.heap.objs.size],its.toArray.size,_,_,λi=>(bs[i]?).getD false,rfl,Walks.list (A:=X.A.in1) (I.ok.hd k) _ p (aJ m) its.toArray,
  ⟨⟨_,az _ rfl,rfl,rfl⟩,pl.isList.push _⟩,λi v n o w l c=>?_,λh' tk j=>?_⟩
 .obtain⟨b,e,rfl⟩:=QW a (i:=i) (v:=v) (by simpa using l);simp only[e,Option.getD_some] at c;show wpAny_truthy_bool c
 rw[aA,g,Pu];show⟨.bl _,H,I.kept (Pw j),rfl,q⟩
def YE:fv:=λds Q=>match ds with
 | [.lst es]=>match og es with
  | some bs=>Q (.fz (.bl (bs.all id)))
  | none=>False
 | _=>False
def BC:fv:=λds Q=>match ds with
 | [.lst es]=>match og es with
  | some bs=>Q (.fz (.bl (bs.any id)))
  | none=>False
 | _=>False
theorem Oz(e:X.calm=true):se X (.builtin "any") BC:=by
 show⟨_,Sz e,λG H g ds Q P s rs h k=>?_⟩;unfold BC at h;split at h
 .split at h
  .rename_i es bs f;obtain⟨v,rfl,b⟩:=mn rs;simp only[Rep] at b;obtain⟨a,xs,rfl,d,c⟩:=b;rw[KW f] at c;rw[JE c] at d;show⟨a,bs,rfl,(s.hE d).sq,k _ _ _ G (.refl s) (iw (nc _ _ _)) h⟩
  show h.elim
 show h.elim
end
section
variable{X:Cx}{pos:Pos}{e:Expr}{te:TD}
noncomputable def p7:D->String
 | .non=>"NoneType"
 | .bl _=>"bool"
 | .int _=>"int"
 | .str _=>"str"
 | .tup _=>"tuple"
 | .lst _=>"list"
 | .obj _ _=>"object"
 | .dic _=>"dict"
 | .dit _=>"dict"
 | .exc _=>"object"
noncomputable def xE(t T:String):Bool:=(t==T)||(t=="bool"&&T=="int")
theorem xS{K:J'}{t T:String}(a:t∈["NoneType","bool","int","str","tuple","list"])(b:T∈["bool","int","str","tuple","list"]):PySem.W.kitOne K (.type t) (.type T)=some (xE t T):=by
 simp only[av,bg,cY] at a b;rcases a with rfl | rfl | rfl | rfl | rfl | rfl<;>rcases b with rfl | rfl | rfl | rfl | rfl<;>(first | rfl | decide | (unfold PySem.W.kitOne PySem.W.kitCls;decide +kernel))
noncomputable def Ij:D->Bool
 | .obj _ _=>false
 | .dic _=>false
 | .dit _=>false
 | .exc _=>false
 | _=>true
theorem RG{T:String}(f:T∈["bool","int","str","tuple","list"]):fc X (.builtin "isinstance") (λxs H Q=>∃x d,xs=[x,.ty T]/\Rep X.K H x d/\Ij d=true/\Q (.bl (xE (p7 d) T)) H):=by
 intro v s σ H xs us Q I r h;obtain⟨x,d,rfl,b,g,q⟩:=h;obtain⟨u,c,rfl,e,rc⟩:=yZ r;cases (show c=Value.type T from rc);have fin:∀tk,EP X v σ Q (.bool (xE (p7 d) T)) { s with toks:=tk }:=λtk=>⟨.bl _,H,I.tok tk,rfl,q⟩
 cases d with
 | non=>simp only[Rep] at b;subst b;cases (show u=Value.none from e);show PySem.W.kia_one PySem.W.kitx_none I.nT True.intro (xS (by simp) f) (λz=>nomatch z) fin
 | bl y=>simp only[Rep] at b;subst b;cases (show u=Value.bool y from e);show PySem.W.kia_one PySem.W.kitx_bool I.nT True.intro (xS (by simp) f) (λz=>nomatch z) fin
 | int i=>simp only[Rep] at b;subst b;obtain⟨t,j⟩:=(show ∃t,u=Value.int i t from e);cases j;show PySem.W.kia_one PySem.W.kitx_int I.nT True.intro (xS (by simp) f) (λz=>nomatch z) fin
 | str y=>simp only[Rep] at b;subst b;obtain⟨t,j⟩:=(show ∃t,u=Value.str y t from e);cases j;show PySem.W.kia_one PySem.W.kitx_str I.nT True.intro (xS (by simp) f) (λz=>nomatch z) fin
 | tup ds=>
  simp only[Rep] at b;obtain⟨a,xs,rfl,l,_⟩:=b;cases (show u=Value.ref a from e);obtain⟨its,_,k,_⟩:=I.tuple (iz.of l);obtain⟨o,p,m,_⟩:=k;show PySem.W.kia_one PySem.W.kitx_tuple I.nT ⟨o,p,m⟩ (xS (by simp) f) (λz=>nomatch z) fin
 | lst ds=>
  simp only[Rep] at b;obtain⟨a,xs,rfl,l,_⟩:=b;cases (show u=Value.ref a from e);obtain⟨its,_,k,_⟩:=I.list l.sq;obtain⟨o,n,p,m,_⟩:=k;show PySem.W.kia_one PySem.W.kitx_list I.nT ⟨o,p,m⟩ (xS (by simp) f) (λz=>nomatch z) fin
 | obj=>cases g
 | dic=>cases g
 | dit=>cases g
 | exc=>cases g
def DF(T:String)(te:TD):TD:=λa Q=>te a λr=>Ij r.val=true/\Q (.fz (.bl (xE (p7 r.val) T)))
theorem Pn{T:String}{a:Str}{p b:Pos}(he:PD X e te)(u:X.mg "isinstance"=none)(m:X.mg a=none)(n:bootBuiltins a=some (.type T))(y:T∈["bool","int","str","tuple","list"]:=by decide)(w:Gl X "isinstance":=by rfl)(i:Gl X a:=by rfl)(o:a≠"__name__":=by decide)
  (hd:(a==("__debug__":Str))=false:=by decide) (d:starEach [e,Expr.Name a b] X.env=(false,eval e X.env)::starEach [Expr.Name a b] X.env:=by rfl) (A:starEach [Expr.Name a b] X.env=(false,eval (.Name a b) X.env)::starEach [] X.env:=by rfl)
  (hpl:(backTo pos (starEach [Expr.Name a b] X.env)).any (·.1)=false:=by rfl):PD X (.Call (.Name "isinstance" p) [e,.Name a b] [] pos) (DF T te):=by
 obtain⟨t,pp,q⟩:=he;show⟨_,CG (RG y) w u boot_isinstance (rn pp (rn (QK (v:=.ty T) i m n rfl o hd) sf A) d) (by decide) (by decide) d hpl,λg σ C z G H Q P E h k=>q g σ C z G H _ _ E h λv D r F x l f=>?_⟩;obtain⟨B,c,j,_⟩:=l.freeze x;show⟨v,r.val,rfl,j.mono c.s,f.1,k _ _ _ B c (iw (nc _ _ _)) f.2⟩
end
section
variable{P:Program}{w:World}{K:J'}{mg:Str->Option Value}{base:Heap}
structure Known(P:Program)(w:World)(K:J')(mg:Str->Option Value)(base:Heap)(k:Nat)(x:Str)(n:Nat)(t:fv):Prop where
 ex:∃(f:Addr)(fd:FuncData)(ps:List Str),jv P w K mg base nX k f fd ps (xu K n t)/\mg x=some (.ref f)/\PySem.W.keepIn K (.ref f)=true/\Binds K fd ps []
structure At(K:J')(mg:Str->Option Value)(x:Str)(st:Stmt):Prop where
 ex:∃(f:Addr)(fd:FuncData),Du K x x st f fd/\mg x=some (.ref f)
theorem Bs{h:Heap}{x:Str}{st:Stmt}{f:Addr}{g:Value}{od i:Option Addr}{e:Array (Option Value)}{kV b pm d ct:Value}(X:K.In h)(G:h.Ns mainGlobals mg)(a:PySem.W.nsIn K mainGlobals x=some (some (.ref f)))
  (l:K.lookup f=some ⟨g,od,.func (PySem.W.fnOf x x (gB st) (eW st) (de st) .none kV b pm i d ct),e⟩) (c:PySem.W.codeIn K d x=true) (k:PySem.W.keepIn K (.ref f)=true):At K mg x st:=
 ⟨f,_,D3 l c k,PySem.W.mg_of X G a⟩
end
section
variable{X:Cx}{k k' n:Nat}{t:fv}{x:Str}{p pos:Pos}{e:Expr}{es:List Expr}{ts:kj}
theorem gG(C:Known X.prog X.w X.K X.mg X.base k x n t)(b:fN k' X.A)(ha:nA X (e::es) ts)(c:k<=k':=by decide)(d:Gl X x:=by rfl)(a:(x==("__debug__":Str))=false:=by decide)
  (he:starEach (e::es) X.env=(false,eval e X.env)::starEach es X.env:=by rfl) (hpl:(backTo pos (starEach es X.env)).any (·.1)=false:=by rfl):PD X (.Call (.Name x p) (e::es) [] pos) (fT n t ts):=by
 obtain⟨f,fd,ps,F,hm,kp,g⟩:=C.ex;show Px F (b.mono c) hm kp g ha d a he hpl
end
noncomputable def JD(a:Str->Option NameKind)(N N':List Str)(m:List (Option Nat))(scope:Scope):Bool:=
 (scope.kind==.function)&&(m.length==N'.length)&&(scope.names.all λy=>scope.names.lookup y.1==some y.2) &&
 (scope.names.all λy=>y.2 != .free||a y.1==some .cell||a y.1==some .free) &&
 ((m.zip N').all λp=>match p.1 with
   | none=>true
   | some j=>N[j]?==some p.2&&scope.names.lookup p.2==some .free)
theorem eS.of{X:Cx}{N':List Str}{m:List (Option Nat)}{scope:Scope}(h:JD X.env.kindOf X.N N' m scope=true):eS X N' m scope:=by
 unfold JD at h;simp only[bY,beq_iff_eq,List.all_eq_true,Bool.or_eq_true,bne_iff_ne,ne_eq] at h;obtain⟨⟨⟨⟨k,g⟩,f⟩,d⟩,c⟩:=h;show⟨k,g,λy a=>f y a,λy a e=>?_,λi j x hm b=>?_⟩
 .rcases d y a with(z | z) | z
  .exact absurd e z
  .exact .inl z
  show .inr z
 have hz:(some j,x)∈m.zip N':=by
  apply aL (i:=i);rw[cF];show⟨hm,b⟩
 have:=c _ hz;simpa using this
theorem Tb{K:J'}{G:Hp}{a:Addr}{ns:List Int}(h:lX K G a (ns.map V.int)):Rep K G (.ref a) (.lst (ns.map D.int)):=by
 simp only[Rep];show⟨a,_,rfl,h,?_⟩;clear h;induction ns with
 | nil=>show c9.nil
 | cons n r b=>show c9.cons (kY _ _ _) b
def DK(n:Nat):fv:=λds Q=>∃ns:List Int,ds=[.lst (ns.map .int)]/\ns.length<=n/\Q (.fz (.bl true))
theorem qG{l:PySem.W.OpenLaw}{n k:Nat}{q:Program}{c:List Str}{R:(Str->Option Value)->Heap->Prop}{y:World->Heap->Prop}{d:DefRec}{K:Params->J'}{x:Str}
  (C:l.most=some n) (U:n<=sizeLine) (S:d.params.defaults=[]) (B:fN k callerA) (I:∀(w:World)(h:Heap),y w h->(K w.params).In h)
  (F:∀(w:World)(mg:Str->Option Value)(fa:Addr)(h:Heap),(K w.params).In h->h.Ns mainGlobals mg->mg d.name=some (.ref fa)->
   ∃fd:FuncData,(∀(s:Shared)(u:Value),BindsTo s fd ⟨[u],[]⟩ [(x,u)])/\∀base:Heap,jv l.prog w (K w.params) mg base nX k fa fd [x] (xu (K w.params) 1 (DK n))) :
  PySem.W.WalkO q c R y l.row.toRowW d [] (λf i=>PySem.call f i):=by
 show M7.oQ C S λw gQ eK mg Z fa o pm cd doc a i ns G Y ho hd iN uG p hints hlen D=>?_
 have KX:=I w _ Y;obtain⟨fd,E,L⟩:=F w mg fa _ KX G.T.g uG;show Q7 KX G.T.g G.T.b G.T.builtins G.T.nolimit D p hints (aM hlen U) B (λbase _ _=>L base) E (λH hO j=>?_) λH e X z=>z
 have J:lX (K w.params) H a (ns.map V.int):=by
  rcases j with j | ⟨o,its,m,t,h2,h3,O,N,M⟩
  .exact .inl j
  have e:=KX a o t;rw[p] at e;cases e;have Q:Data.seq i.toArray _=Data.seq its m:=O;injection Q with P e2
  subst P;show .inr ⟨_,_,t,N,M⟩
 show⟨H,[.lst (ns.map .int)],λr=>r=.fz (.bl true),dU.refl _,c9.cons (Tb J) c9.nil,rfl,⟨ns,rfl,hlen,rfl⟩,λv H' r G' _ A e=>?_⟩;subst e;simpa only[gJ,Rep] using A
theorem Pm{P:Program}{w:World}{K:J'}{mg:Str->Option Value}{st:Stmt}{N:List Str}{x:Str}{k:Nat}{t:fv}{T:Heap->TX}{fa:Addr}(e:At K mg "law" st)(uG:mg "law"=some (.ref fa))(S:du N [x] (de st))
  (d:∀(kV doc pm:Value)(an:Option Addr)(a ct:Value)(us:List Value),us.length=1->bindArgs (PySem.W.fnOf "law" "law" (gB st) (eW st) (de st) .none kV doc pm an a ct) ⟨us,[]⟩=pure ([x].zip us))
  (body:∀(base:Heap)(f:Addr)(a:Value)(A:Around)(outer:List Env)(s:Shared)(H:Hp)(E:XK),fN k (A.deeper (envOfC "law" (de st) s.heap.objs.size f a))->pL (rg nX P w K mg base N "law" (de st) f a A outer s H E).tX (eW st) (T base))
  (b:∀(base:Heap)(ds:List D)(c:R->Prop),ds.length=1->t ds c->T base { nx:=λ_=>c (.fz .non),rt:=c } (uf N ds)) :
  ∃fd:FuncData,(∀(s:Shared)(u:Value),BindsTo s fd ⟨[u],[]⟩ [(x,u)])/\∀base:Heap,jv P w K mg base nX (k+1) fa fd [x] (xu K 1 t):=by
 obtain⟨f,fd,F,hm⟩:=e.ex;rw[uG] at hm;cases hm;show⟨fd,λs u=>?_,λbase=>Ed F S (body base fa) (b base)⟩;obtain⟨h,od,kV,doc,pm,an,a,ct,g,rfl,lk,i⟩:=F.ex;show .of_eq (d kV doc pm an a ct [u] rfl)
def o9(i:Nat)(t:TX):TX:=λD a=>t D (mN i a)
theorem xR(d:D):(R.fz d).val=d:=rfl
theorem ve(ds:List D):(R.ow ds).val=.lst ds:=rfl
theorem Iq(d:D):(R.fz d).sl=.fz d:=rfl
theorem Oy(ds:List D):(R.ow ds).sl=.ow ds:=rfl
theorem Ec{c:Type}{k:lC}{m:List (Option Nat)}{g:jN}{tc:ki}{te:TD}{a:Ev}{Q:R->Prop}(L:List c)(j:c->D)(f:c->Option D)(hw:∀n:List D->Prop,n (L.map j)->k a n)(s:L.length<=sizeLine)
  (h:∀x∈L,∀(o:D->Prop)(p:Prop),(∀e,f x=some e->o e)->(f x=none->p)->g (j x) (iG m a) λl=>tc l λb=>if b=true then te l λr=>o r.val else p)
  (q:Q (.ow (L.filterMap f))):gr k m g tc te a Q:=by
 show hw _ ⟨λi acc=>acc=(L.take i).filterMap f,rfl,λi d acc hd ha=>?_,λacc ha=>?_⟩
 .rw[aI] at hd;cases hx:L[i]? with
  | none=>rw[hx] at hd;cases hd
  | some x=>
   rw[hx] at hd;cases hd;have hi:i<L.length:=(ar.mp hx).1;have e:L.take (i+1)=L.take i++[x]:=by rw[br,hx];rfl
   have hlen:acc.length<sizeLine:=by
    rw[ha];show Nat.lt_of_le_of_lt (cQ _ _) ?_;rw[aT];ext
   show h x (aL hx) (λe=>acc.length<sizeLine/\acc++[e]=(L.take (i+1)).filterMap f) (acc=(L.take (i+1)).filterMap f)
    (λz hz=>⟨hlen,by rw[e,List.filterMap_append,ha];simp[hz]⟩) (λhz=>by rw[e,List.filterMap_append,ha];simp[hz])
 dsimp only at ha;rw[ae,bH] at ha;rw[ha];show q
theorem oj{i:Type}{j:lC}{m:List (Option Nat)}{g:jN}{te:TD}{d:Ev}{Q:R->Prop}(L:List i)(c f:i->D)(hw:∀k:List D->Prop,k (L.map c)->j d k)(l:L.length<=sizeLine)
  (h:∀x∈L,∀(b:D->Prop),b (f x)->g (c x) (iG m d) λo=>te o λr=>b r.val) (q:Q (.ow (L.map f))):gr j m g jU te d Q:=by
 show Ec L c (λx=>some (f x)) hw l (λx hx b s n _=>?_) ?_
 .have:=h x hx b (n _ rfl);simpa[jU] using this
 have e:L.filterMap (λx=>some (f x))=L.map f:=by
  induction L with
  | nil=>rfl
  | cons a r p=>simp
 rw[e];show q
theorem nR{k:Type}{l:lC}{m:List (Option Nat)}{g:jN}{tc:ki}{te:TD}{j:Ev}{Q:R->Prop}(L:List k)(i f:k->D)(p:k->Bool)(hw:∀s:List D->Prop,s (L.map i)->l j s)(n:L.length<=sizeLine)
  (h:∀x∈L,∀(c:D->Prop)(d:Prop),(p x=true->c (f x))->(p x=false->d)->g (i x) (iG m j) λo=>tc o λb=>if b=true then te o λr=>c r.val else d)
  (q:Q (.ow ((L.filter p).map f))):gr l m g tc te j Q:=by
 show Ec L i (λx=>if p x=true then some (f x) else none) hw n (λx hx c d u h0=>h x hx c d (λz=>u _ (by simp[z])) (λz=>h0 (by simp[z]))) ?_;have e:L.filterMap (λx=>if p x=true then some (f x) else none)=(L.filter p).map f:=by
  clear h n hw q;induction L with
  | nil=>rfl
  | cons a r t=>by_cases z:p a=true<;>simp[z,t]
 rw[e];show q
theorem JV{c:lC}{g:jN}{tb:TX}{D:DE}{b:Ev}(ds:List L2.D)(hw:∀e:List L2.D->Prop,e ds->c b e)(a:Nat->Ev->Prop)(f:a 0 b)
  (turn:∀i d ρ',ds[i]?=some d->a i ρ'->g d ρ' λh=>tb { D with nx:=a (i+1),ct:=a (i+1),bk:=D.nx } h) (fin:∀ρ',a ds.length ρ'->D.nx ρ'):i9 c g tb D b:=hw _ ⟨a,f,turn,fin⟩
theorem sk{f:Type}{h:lC}{g:jN}{tb:TX}{D:DE}{c:Ev}(L:List f)(b:f->L2.D)(hw:∀j:List L2.D->Prop,j (L.map b)->h c j)(a:Nat->Ev->Prop)(k:a 0 c)
  (turn:∀i x ρ',L[i]?=some x->a i ρ'->g (b x) ρ' λl=>tb { D with nx:=a (i+1),ct:=a (i+1),bk:=D.nx } l) (fin:∀ρ',a L.length ρ'->D.nx ρ'):i9 h g tb D c:=by
 show JV (L.map b) hw a k (λi d ρ' hd e=>?_) (λρ' e=>fin ρ' (by simpa using e));rw[aI] at hd;cases hx:L[i]? with
 | none=>rw[hx] at hd;cases hd
 | some x=>rw[hx] at hd;cases hd;show turn i x ρ' hx e
theorem tS{g:jN}{tb:TX}{D:DE}{b:Ev}{d:lC}(n:Nat)(hw:∀e:List L2.D->Prop,e ((List.range n).map λ(i:Nat)=>.int (0+i))->d b e)(a:Nat->Ev->Prop)(l:a 0 b)
  (turn:∀(i:Nat) ρ',i<n->a i ρ'->g (.int i) ρ' λm=>tb { D with nx:=a (i+1),ct:=a (i+1),bk:=D.nx } m) (fin:∀ρ',a n ρ'->D.nx ρ'):i9 d g tb D b:=by
 show sk (List.range n) (λ(i:Nat)=>.int (0+i)) hw a l (λi x ρ' hx c=>?_) (λρ' c=>fin ρ' (by simpa using c));obtain⟨k,j⟩:=ar.mp hx;have h:i<n:=by simpa using k
 have f:x=i:=by rw[<-j];simp
 subst f;rw[Int.zero_add];show turn x ρ' h c
theorem WV:(10:Int) ^ Int.toNat 24=1000000000000000000000000:=by decide
theorem WU:(10:Int) ^ Int.toNat 30=1000000000000000000000000000000:=by decide
theorem Pl:rZ 10 24=True:=by simp only[rZ,eq_iff_iff,iff_true];decide
theorem Pk:rZ 10 30=True:=by simp only[rZ,eq_iff_iff,iff_true];decide
theorem EA:100000<=sizeLine:=by decide
section
variable{X:Cx}{pos:Pos}{e:Expr}{te:TD}{es:List Expr}{ts:kj}
def u7(t:TD):TD:=λa Q=>t a λr=>match r.val with
 | .int i=>Q (.fz (.int (-i)))
 | _=>False
theorem y9(h:PD X e te):PD X (.UnaryOp .USub e pos) (u7 te):=by
 obtain⟨t,p,q⟩:=h;show⟨_,Oh Pd p,λc σ m j G H Q P E h k=>q c σ m j G H _ _ E h λv n r o x f b=>?_⟩;obtain⟨l,d,a,_⟩:=f.freeze x;split at b
 .rename_i i g;rw[g] at a;simp only[Rep] at a;show⟨i,a,k _ _ _ l d (iw (kY _ _ _)) b⟩
 show b.elim
def nO:fv:=λds Q=>match ds with
 | [.lst es]=>Q (.ow es)
 | [.tup es]=>Q (.ow es)
 | _=>False
theorem qB:se X (.type "list") nO:=by
 show⟨_,UG,λG H e ds Q P s rs h k=>?_⟩;unfold nO at h;split at h
 .obtain⟨v,rfl,b⟩:=mn rs;simp only[Rep] at b;obtain⟨a,xs,rfl,d,c⟩:=b;show⟨a,xs,rfl,.inl (s.hE d).sq,uk s c h k⟩
 .obtain⟨v,rfl,b⟩:=mn rs;simp only[Rep] at b;obtain⟨a,xs,rfl,d,c⟩:=b;show⟨a,xs,rfl,.inr (s.oz d),uk s c h k⟩
 show h.elim
def u6:fv:=λds Q=>match ds with
 | [.int i]=>Q (.fz (.int i))
 | [.bl b]=>Q (.fz (.int (if b then 1 else 0)))
 | _=>False
theorem DJ:se X (.type "int") u6:=by
 show⟨_,TB,λG H b ds Q P s rs h k=>?_⟩;unfold u6 at h;split at h
 .obtain⟨v,rfl,a⟩:=mn rs;simp only[Rep] at a;subst a;show .inl ⟨_,rfl,k _ _ _ G (.refl s) (iw (kY _ _ _)) h⟩
 .obtain⟨v,rfl,a⟩:=mn rs;simp only[Rep] at a;subst a;show .inr ⟨_,rfl,k _ _ _ G (.refl s) (iw (kY _ _ _)) h⟩
 show h.elim
noncomputable def mG:List D->Option (List Int)
 | []=>some []
 | .int b::r=>(mG r).map (b::·)
 | _=>none
theorem wz:∀{ds:List D}{bs:List Int},mG ds=some bs->ds=bs.map D.int
 | [],bs,h=>by simp[mG] at h;subst h;rfl
 | .int b::r,bs,h=>by
  simp only[mG,cC] at h;obtain⟨c,a,rfl⟩:=h;rw[wz a];rfl
 | .non::r,bs,h=>by simp[mG] at h
 | .bl _::r,bs,h=>by simp[mG] at h
 | .str _::r,bs,h=>by simp[mG] at h
 | .tup _::r,bs,h=>by simp[mG] at h
 | .lst _::r,bs,h=>by simp[mG] at h
 | .obj _ _::r,bs,h=>by simp[mG] at h
 | .dic _::r,bs,h=>by simp[mG] at h
 | .dit _::r,bs,h=>by simp[mG] at h
 | .exc _::r,bs,h=>by simp[mG] at h
theorem yb(bs:List Int):mG (bs.map D.int)=some bs:=by
 induction bs with
 | nil=>rfl
 | cons b r a=>simp[mG,a]
theorem wc{K:J'}{G:Hp}:∀{bs:List Int}{a:List V},c9 K G a (bs.map D.int)->a=bs.map V.int
 | [],[],_=>rfl
 | b::bs,v::a,h=>by
  simp only[ax,c9,Rep] at h;rw[h.1,wc h.2];rfl
 | [],_::_,h=>by simp only[bV,c9] at h
 | _::_,[],h=>by simp only[ax,c9] at h
theorem Fd{a:List Value}{ns:List Int}(hi:IntsAre a ns):∃xs:Array (Int×Tok),a.toArray=intItems xs/\ns=xs.toList.map (·.1):=by
 obtain⟨xs,e⟩:=hi.allInts.items;show⟨xs,e,by rw[<-hi.numsOf,<-nums_intItems,<-e]⟩
theorem Sy(i:X.calm=true):fc X (.builtin "sum") (λxs H Q=>∃(p:Addr)(ns:List Int),xs=[.ref p]/\gA X.K H p (ns.map V.int)/\Q (.int ns.sum) H):=by
 intro k s σ H xs us Q I r h;obtain⟨p,ns,rfl,f,q⟩:=h;obtain⟨u,rfl,c⟩:=lG r;cases c;obtain⟨its,b,pl,hz⟩:=I.list f;obtain⟨ys,e,d⟩:=Fd (yc b);have a:=pl.isList;rw[e] at a;show sum_intListG (I.ok.hd i) a λh' tk t' g=>?_
 have j:preSum (numAt ys) ys.size=ns.sum:=by
  rw[preSum_eq,bE (by simp),d]
 rw[j];show⟨.int _,H,I.kept g,⟨_,rfl⟩,q⟩
theorem Sx(w:X.calm=true):fc X (.builtin "min") (λxs H Q=>∃(p:Addr)(ns:List Int),xs=[.ref p]/\gA X.K H p (ns.map V.int)/\ns≠[]/\∀M,M∈ns->(∀a∈ns,M<=a)->Q (.int M) H):=by
 intro z s σ H xs us Q I r h;obtain⟨p,ns,rfl,m,f,q⟩:=h;obtain⟨u,rfl,k⟩:=lG r;cases k;obtain⟨its,i,pl,hz⟩:=I.list m;obtain⟨ys,e,c⟩:=Fd (yc i);have d:=pl.isList;rw[e] at d;have hsz:0<ys.size:=by
  cases g:ys.toList with
  | nil=>rw[c,g] at f;show absurd rfl f
  | cons a b=>have:ys.toList.length=b.length+1:=by rw[g];rfl
              rw[af] at this;ext
 show min_intList (I.ok.hd w) d hsz λv h' tk l n=>?_
 obtain⟨t,rfl⟩:=intItems_at l;obtain⟨y,x⟩:=argBest_lt (numAt ys) (ys.size-1);show⟨.int _,H,I.kept n,⟨_,rfl⟩,q _ ?_ λa ha=>?_⟩
 .rw[c,numAt_eq];show getD_mem (by rw[ae,af];ext)
 rw[c] at ha;obtain⟨j,o,rfl⟩:=mem_getD ha;rw[ae,af] at o;rw[<-numAt_eq];show x j (by ext)
theorem Sw(w:X.calm=true):fc X (.builtin "max") (λxs H Q=>∃(p:Addr)(ns:List Int),xs=[.ref p]/\gA X.K H p (ns.map V.int)/\ns≠[]/\∀M,M∈ns->(∀a∈ns,a<=M)->Q (.int M) H):=by
 intro z s σ H xs us Q I r h;obtain⟨p,ns,rfl,m,f,q⟩:=h;obtain⟨u,rfl,k⟩:=lG r;cases k;obtain⟨its,i,pl,hz⟩:=I.list m;obtain⟨ys,e,c⟩:=Fd (yc i);have d:=pl.isList;rw[e] at d;have hsz:0<ys.size:=by
  cases g:ys.toList with
  | nil=>rw[c,g] at f;show absurd rfl f
  | cons a b=>have:ys.toList.length=b.length+1:=by rw[g];rfl
              rw[af] at this;ext
 show max_intList (I.ok.hd w) d hsz λv h' tk l n=>?_
 obtain⟨t,rfl⟩:=intItems_at l;obtain⟨y,x⟩:=argBest_gt (numAt ys) (ys.size-1);show⟨.int _,H,I.kept n,⟨_,rfl⟩,q _ ?_ λa ha=>?_⟩
 .rw[c,numAt_eq];show getD_mem (by rw[ae,af];ext)
 rw[c] at ha;obtain⟨j,o,rfl⟩:=mem_getD ha;rw[ae,af] at o;rw[<-numAt_eq];show x j (by ext)
def vN:fv:=λds Q=>match ds with
 | [.lst es]=>match mG es with
  | some ns=>Q (.fz (.int ns.sum))
  | none=>False
 | _=>False
theorem BP(e:X.calm=true):se X (.builtin "sum") vN:=by
 show⟨_,Sy e,λG H g ds Q P s rs h k=>?_⟩;unfold vN at h;split at h
 .split at h
  .rename_i es bs f;obtain⟨v,rfl,b⟩:=mn rs;simp only[Rep] at b;obtain⟨a,xs,rfl,d,c⟩:=b;rw[wz f] at c;rw[wc c] at d;show⟨a,bs,rfl,(s.hE d).sq,k _ _ _ G (.refl s) (iw (kY _ _ _)) h⟩
  show h.elim
 show h.elim
def o8:fv:=λds Q=>match ds with
 | [.lst es]=>match mG es with
  | some ns=>ns≠[]/\∀M,M∈ns->(∀a∈ns,M<=a)->Q (.fz (.int M))
  | none=>False
 | [.int i,.int j]=>Q (.fz (.int (if j<i then j else i)))
 | _=>False
def nZ:fv:=λds Q=>match ds with
 | [.lst es]=>match mG es with
  | some ns=>ns≠[]/\∀M,M∈ns->(∀a∈ns,a<=M)->Q (.fz (.int M))
  | none=>False
 | [.int i,.int j]=>Q (.fz (.int (if j>i then j else i)))
 | _=>False
theorem xI(d:X.calm=true):se X (.builtin "min") o8:=by
 show⟨_,(Sx d).or (TC d),λG H l ds Q P s rs h k=>?_⟩;unfold o8 at h;split at h
 .split at h
  .rename_i es bs g;obtain⟨v,rfl,b⟩:=mn rs;simp only[Rep] at b;obtain⟨a,xs,rfl,f,e⟩:=b;rw[wz g] at e;rw[wc e] at f;show .inl ⟨a,bs,rfl,(s.hE f).sq,h.1,λM j i=>k _ _ _ G (.refl s) (iw (kY _ _ _)) (h.2 M j i)⟩
  show h.elim
 .obtain⟨v,u,rfl,b,c⟩:=yY rs;simp only[Rep] at b c;subst b c;show .inr ⟨_,_,rfl,k _ _ _ G (.refl s) (iw (kY _ _ _)) h⟩
 show h.elim
theorem vU(d:X.calm=true):se X (.builtin "max") nZ:=by
 show⟨_,(Sw d).or (TF d),λG H l ds Q P s rs h k=>?_⟩;unfold nZ at h;split at h
 .split at h
  .rename_i es bs g;obtain⟨v,rfl,b⟩:=mn rs;simp only[Rep] at b;obtain⟨a,xs,rfl,f,e⟩:=b;rw[wz g] at e;rw[wc e] at f;show .inl ⟨a,bs,rfl,(s.hE f).sq,h.1,λM j i=>k _ _ _ G (.refl s) (iw (kY _ _ _)) (h.2 M j i)⟩
  show h.elim
 .obtain⟨v,u,rfl,b,c⟩:=yY rs;simp only[Rep] at b c;subst b c;show .inr ⟨_,_,rfl,k _ _ _ G (.refl s) (iw (kY _ _ _)) h⟩
 show h.elim
noncomputable def nP:List D->Option (List Str)
 | []=>some []
 | .str b::r=>(nP r).map (b::·)
 | _=>none
theorem CM:∀{ds:List D}{bs:List Str},nP ds=some bs->ds=bs.map D.str
 | [],bs,h=>by simp[nP] at h;subst h;rfl
 | .str b::r,bs,h=>by
  simp only[nP,cC] at h;obtain⟨c,a,rfl⟩:=h;rw[CM a];rfl
 | .non::r,bs,h=>by simp[nP] at h
 | .bl _::r,bs,h=>by simp[nP] at h
 | .int _::r,bs,h=>by simp[nP] at h
 | .tup _::r,bs,h=>by simp[nP] at h
 | .lst _::r,bs,h=>by simp[nP] at h
 | .obj _ _::r,bs,h=>by simp[nP] at h
 | .dic _::r,bs,h=>by simp[nP] at h
 | .dit _::r,bs,h=>by simp[nP] at h
 | .exc _::r,bs,h=>by simp[nP] at h
theorem wy(bs:List Str):nP (bs.map D.str)=some bs:=by
 induction bs with
 | nil=>rfl
 | cons b r a=>simp[nP,a]
theorem CC{K:J'}{G:Hp}:∀{bs:List Str}{a:List V},c9 K G a (bs.map D.str)->a=bs.map V.str
 | [],[],_=>rfl
 | b::bs,v::a,h=>by
  simp only[ax,c9,Rep] at h;rw[h.1,CC h.2];rfl
 | [],_::_,h=>by simp only[bV,c9] at h
 | _::_,[],h=>by simp only[ax,c9] at h
theorem KU{K:J'}{G:Hp}(bs:List Str):c9 K G (bs.map V.str) (bs.map D.str):=by
 induction bs with
 | nil=>show c9.nil
 | cons b r a=>show c9.cons (wd _ _ _) a
theorem Fc{c:List Str}:∀{us:List Value},Vals (c.map V.str) us->StrsAre us c:=by
 induction c with
 | nil=>
  intro us h;cases h;show .nil
 | cons n r d=>
  intro us h;cases h with
  | cons a b=>
   obtain⟨t,rfl⟩:=a;show .cons _ _ (d b)
theorem EY:∀{a:List Value}{ss:List Str},StrsAre a ss->Vals (ss.map V.str) a
 | _,_,.nil=>.nil
 | _,_,.cons _ _ h=>.cons ⟨_,rfl⟩ (EY h)
theorem pK:fc X (.builtin "sorted") (λxs H Q=>∃(p:Addr)(ss:List Str),xs=[.ref p]/\gA X.K H p (ss.map V.str)/\ss.length<64/\∀c:List Str,c.Perm ss->sortedS c=true->∀l,H l=none->Q (.ref l) (upd H l (.lst (c.map V.str)))):=by
 intro m s σ H xs us Q I r h;obtain⟨p,ss,rfl,g,n,q⟩:=h;obtain⟨u,rfl,f⟩:=lG r;cases f;obtain⟨its,d,pl,hz⟩:=I.list g;have k:its.length=ss.length:=by rw[<-d.length,ae]
 show sorted_strs pl.isList (Fc d) (by ext) λout c a1 a2 j=>?_
 obtain⟨i,he⟩:=sortedAll_at s.heap its out;have hf:H (s.heap.objs.size+1)=none:=I.eT.fresh (bU _);show⟨.ref (s.heap.objs.size+1),_,I.laid (a:=s.heap.objs.size+1) (o:=.lst (c.map V.str)) (t':=s.toks) (λb o e=>sortedAll_old e) (bU _) ?_,rfl,q c a2 j _ hf⟩;show⟨by rw[ae,a2.length_eq];have:=EA;ext,out.toList,i,EY a1,?_⟩;rw[Array.toArray_toList];show he
theorem Ta:fc X (.builtin "sorted") (λxs H Q=>∃(p:Addr)(ns:List Int),xs=[.ref p]/\gA X.K H p (ns.map V.int)/\ns.length<64/\∀c:List Int,c.Perm ns->c.Pairwise (·<=·)->∀l,H l=none->Q (.ref l) (upd H l (.lst (c.map V.int)))):=by
 intro n s σ H xs us Q I r h;obtain⟨p,ss,rfl,i,t,q⟩:=h;obtain⟨u,rfl,g⟩:=lG r;cases g;obtain⟨its,d,pl,hz⟩:=I.list i;have m:its.length=ss.length:=by rw[<-d.length,ae]
 show sorted_ints pl.isList (yc d) (by ext) λout f a1 a2 k=>?_
 obtain⟨j,he⟩:=sortedAll_at s.heap its out;have hf:H (s.heap.objs.size+1)=none:=I.eT.fresh (bU _);show⟨.ref (s.heap.objs.size+1),_,I.laid (a:=s.heap.objs.size+1) (o:=.lst (f.map V.int)) (t':=s.toks) (λb o e=>sortedAll_old e) (bU _) ?_,rfl,q f a2 k _ hf⟩;show⟨by rw[ae,a2.length_eq];have:=EA;ext,out.toList,j,ET a1,?_⟩;rw[Array.toArray_toList];show he
def wj:fv:=λds Q=>match ds with
 | [.lst es]=>match nP es with
  | some ss=>ss.length<64/\∀b:List Str,b.Perm ss->sortedS b=true->Q (.ow (b.map D.str))
  | none=>match mG es with
   | some ns=>ns.length<64/\∀a:List Int,a.Perm ns->a.Pairwise (·<=·)->Q (.ow (a.map D.int))
   | none=>False
 | _=>False
theorem Sv{K:J'}{G:Hp}(bs:List Int):c9 K G (bs.map V.int) (bs.map D.int):=by
 induction bs with
 | nil=>show c9.nil
 | cons b r a=>show c9.cons (kY _ _ _) a
theorem JU(_:X.calm=true):se X (.builtin "sorted") wj:=by
 show⟨_,pK.or Ta,λG H j ds Q P s rs h k=>?_⟩;unfold wj at h;split at h
 .split at h
  .rename_i es bs i;obtain⟨v,rfl,b⟩:=mn rs;simp only[Rep] at b;obtain⟨a,xs,rfl,e,d⟩:=b;rw[CM i] at d;rw[CC d] at e;show .inl ⟨a,bs,rfl,(s.hE e).sq,h.1,λc g f=>uk s (KU c) (h.2 c g f) k⟩
  split at h
  .rename_i es _ bs i;obtain⟨v,rfl,b⟩:=mn rs;simp only[Rep] at b;obtain⟨a,xs,rfl,e,d⟩:=b;rw[wz i] at d;rw[wc d] at e;show .inr ⟨a,bs,rfl,(s.hE e).sq,h.1,λc g f=>uk s (Sv c) (h.2 c g f) k⟩
  show h.elim
 show h.elim
def HC(X:Cx)(f:String)(o:D->List D->(R->Prop)->Prop):Prop:=∃r,M5 X f r/\∀(G H:Hp)(x:V)(d:D)(b:List V)(ds:List D)(Q:R->Prop)(P:VK),dU G H->Rep X.K G x d->c9 X.K G b ds->o d ds Q->
 (∀v a c e,Ext G H e a->gJ X.K e a H v c->Q c->P v a)->r x b H P
def dM(T:String)(o:D->List D->(R->Prop)->Prop)(te:TD)(ts:kj):TD:=λa Q=>te a λr=>p7 r.val=T/\ts a λds=>o r.val ds Q
theorem Pt{K:J'}{G H:Hp}{x:V}{d:D}{T:String}(s:dU G H)(r:Rep K G x d)(h:p7 d=T)(b:T="list"\/T="str"):FX K T x H:=by
 cases d with
 | str z=>simp only[Rep] at r;subst r;show h.symm
 | lst ds=>
  simp only[Rep] at r;obtain⟨a,xs,rfl,c,_⟩:=r;show .inl ⟨h.symm,xs,(s.hE c).sq⟩
 | non=>subst h;rcases b with h | h<;>simp[p7] at h
 | bl=>subst h;rcases b with h | h<;>simp[p7] at h
 | int=>subst h;rcases b with h | h<;>simp[p7] at h
 | tup=>subst h;rcases b with h | h<;>simp[p7] at h
 | obj=>subst h;rcases b with h | h<;>simp[p7] at h
 | dic=>subst h;rcases b with h | h<;>simp[p7] at h
 | dit=>subst h;rcases b with h | h<;>simp[p7] at h
 | exc=>subst h;rcases b with h | h<;>simp[p7] at h
theorem zf{T d:String}{name:Str}{j:Pos}{a:Expr}{o:D->List D->(R->Prop)->Prop}(U:HC X d o)(V:T="list"\/T="str")(I:PlainAttrs T)(slot:Slot T name d)(GD:typeOf (.builtin d)=pure (.type "method_descriptor"))
  (he:PD X e te) (ha:nA X (a::es) ts) (M:attributeBase e name X.env (eval e X.env)=eval e X.env:=by rfl)
  (p:((backTo pos (starEach (a::es) X.env)).all (λx=>!x.1)&&(backToKw pos (keywordEach [] X.env)).all (λx=>x.1.isSome)
   && decide ((a::es).length+([]:List Keyword).length+(if ([]:List Keyword).isEmpty then 0 else 1)<30))=true:=by rfl)
  (N:(j.endLine==pos.line)=true:=by rfl) (O:starEach (a::es) X.env=(false,eval a X.env)::starEach es X.env:=by rfl) (J:(backTo pos (starEach es X.env)).any (·.1)=false:=by rfl) :
  PD X (.Call (.Attribute e name j) (a::es) [] pos) (dM T o te ts):=by
 obtain⟨r,S,A⟩:=U;obtain⟨t1,L,F⟩:=he;obtain⟨t2,K,C⟩:=ha;show⟨_,yW I slot GD S L K M p N O J,λf σ n m G H Q P E h k=>F f σ n m G H _ _ E h λv H' z G' x w l=>?_⟩;obtain⟨G2,c,i,_⟩:=w.freeze x;show⟨Pt c.s i l.1 V,C f σ n m G2 H' _ _ (E.ext c) l.2 λu H3 ds G3 b rs W=>?_⟩;show A G3 H3 v z.val u ds Q P b.s (i.mono b.g) rs W λt Z y G4 q Y B=>k t Z y G4 ((c.trans b).trans q) (Y.je (c.trans b).h) B
noncomputable def qY(d:D)(ds:List D):Nat:=ds.countP λe=>fk e d
def BV:D->List D->(R->Prop)->Prop:=λd ds Q=>match d,ds with
 | .lst es,[x]=>fG 8 x/\(∀e∈es,fG 8 e)/\Q (.fz (.int (qY x es)))
 | _,_=>False
theorem JC{f:List (Addr×Obj)}{c:St}{H:Hp}{s:Shared}(I:Inv X f c H s){d:D}:∀{es:List D}{b:List V}{us:List Value},(∀e∈es,fG 8 e)->Vals b us->c9 X.K H b es->us.countP (nV X H d)=qY d es
 | [],_,_,_,a,re=>by
  cases a
  .rfl
  simp only[c9] at re
 | e::es,_,_,h,a,re=>by
  cases a with
  | nil=>simp only[c9] at re
  | cons r t=>
   simp only[c9] at re;unfold qY;rw[List.countP_cons,List.countP_cons,DZ I (h e (by simp)) r re.1,JC I (λx hx=>h x (by simp[hx])) t re.2];rfl
theorem Pr(B:X.A.units+64<cLine):HC X "list.count" BV:=by
 show⟨λx c H Q=>∃p d es ws y,x=.ref p/\c=[y]/\gA X.K H p ws/\fG 8 d/\(∀e∈es,fG 8 e)/\Rep X.K H y d/\c9 X.K H ws es/\Q (.int (qY d es)) H,λD s σ H x xs v us Q I b rs h=>?_,λG H x d c ds Q P s b rs h k=>?_⟩
 .obtain⟨p,d,es,ws,y,rfl,rfl,r,hd,he,o,re,q⟩:=h;cases b;obtain⟨u,rfl,m⟩:=lG rs;obtain⟨its,f,pl,hz⟩:=I.list r;obtain⟨⟨cls,z,data,sl⟩,n,g,i,C,j⟩:=id pl;simp only at i j;subst i j;show call_meets PySem.F.slot_list_count ⟨_,g,rfl⟩ PySem.F.entry_list_count (PySem.F.args_list_count_2 _ _) (SeqAt.list_countAt p its.toArray n z sl u (nV X H d)) ⟨g,zk (A:=X.A.in1) I hd (by show X.A.units+1+8<cLine;ext) o m he f re,?_⟩;rw[show its.toArray.toList=its from rfl,JC I he f re];show⟨.int _,H,I.tok _,⟨_,rfl⟩,q⟩
 unfold BV at h;split at h
 .obtain⟨y,rfl,l⟩:=mn rs;simp only[Rep] at b;obtain⟨a,xs,rfl,w,t⟩:=b;show⟨a,_,_,xs,y,rfl,rfl,(s.hE w).sq,h.1,h.2.1,l.mono s,t.mono s,k _ _ _ G (.refl s) (iw (kY _ _ _)) h.2.2⟩
 show h.elim
def vT:D->List D->(R->Prop)->Prop:=λd ds Q=>match d,ds with
 | .str x,[.lst es]=>match nP es with
  | some ys=>(ys.map (·.length)).sum+ys.length*x.length<=16777216/\Q (.fz (.str (Txt.join x ys)))
  | none=>False
 | _,_=>False
theorem BU:HC X "str.join" vT:=by
 show⟨λx e H Q=>∃(z:Str)(p:Addr)(ys:List Str),x=.str z/\e=[.ref p]/\gA X.K H p (ys.map V.str)/\(ys.map (·.length)).sum+ys.length*z.length<=16777216/\Q (.str (Txt.join z ys)) H,λm s σ H x xs v us Q I b rs h=>?_,λG H x d e ds Q P s b rs h k=>?_⟩
 .obtain⟨z,p,ys,rfl,rfl,l,hz,q⟩:=h;obtain⟨t,rfl⟩:=b;obtain⟨u,rfl,i⟩:=lG rs;cases i;obtain⟨its,c,pl,_⟩:=I.list l;show join_list pl.isList (by simpa using Fc c) hz λt' k=>⟨.str _,H,I.tok _,⟨_,rfl⟩,q⟩
 unfold vT at h;split at h
 .split at h
  .rename_i z es ys j;obtain⟨v,rfl,c⟩:=mn rs;simp only[Rep] at c b;obtain⟨a,xs,rfl,g,f⟩:=c;rw[CM j] at f;rw[CC f] at g;show⟨_,a,ys,b,rfl,(s.hE g).sq,h.1,k _ _ _ G (.refl s) (iw (wd _ _ _)) h.2⟩
  show h.elim
 show h.elim
end
theorem Lk{prog:Program}{w:World}{A:Around}{E:Value->Shared->Prop}{d l:Addr}{a:Array Value}(m:l≠d) :
  ∀(n i:Nat)(s:Shared)(Q:List Value->Shared->Prop),s.heap.IsListIter d l i->s.heap.IsList l a->i+n<=a.size->
   (∀h':Heap,h'.IsListIter d l (i+n)->Heap.SameBut d s.heap h'->Q ((a.toList.drop i).take n) { s with heap:=h' })->wpAny (model prog w) A (draw (.ref d) n) Q E s
 | 0,i,s,Q,st,g,t,q=>by
  rw[draw.eq_1];show ao (by have:=q s.heap st ⟨rfl,λ_ _=>rfl⟩;simpa using this)
 | n+1,i,s,Q,st,g,t,q=>by
  rw[draw.eq_2];have hi:i<a.size:=by ext
  show aa (wpAny_pyNext_list_item st g (x:=a[i]) (by simp[hi]) λk p f=>?_);dsimp only;have r:k.IsList l a:=by
   obtain⟨o,e,c⟩:=g;show⟨o,(f.2 l m).trans e,c⟩
  show aa (bM (Lk m n (i+1) { s with heap:=k } _ p r (by ext) λu v h=>ao ?_));have:=q u (by rw[show i+(n+1)=i+1+n by ext];show v) ⟨h.1.trans f.1,λb j=>(h.2 b j).trans (f.2 b j)⟩;have e:(a.toList.drop i).take (n+1)=a[i]::(a.toList.drop (i+1)).take n:=by
   rw[bQ (by simpa using hi)];simp
  rw[e] at this;show this
theorem V8{prog:Program}{w:World}{A:Around}{E:Value->Shared->Prop}{s:Shared}{l:Addr}{a:Array Value}{Q:List Value->Shared->Prop}(hd:A.handled=none)(d:s.heap.IsList l a)
  (q:∀h':Heap,Heap.ExtBut s.heap.objs.size s.heap h'->Q a.toList { s with heap:=h' }):wpAny (model prog w) A (unpackItems (.ref l) a.size none) Q E s:=by
 unfold unpackItems;have i:l<s.heap.objs.size:=by obtain⟨o,e,_⟩:=d;show aF e
 have ty:s.TypeIs (.ref l) "list":=by obtain⟨o,e,c,_⟩:=d;show⟨o,e,c⟩
 show aa ?_;unfold notIterableAtAll;show aa (wpAny_specialOf ty F.slot_list_iter.lookup ?_);rw[if_pos (show((some (Value.builtin "list.__iter__")).isSome=true) from rfl)];show ao ?_;rw[if_neg aY];show aa (bM (wpAny_pyIter_list d ?_));dsimp only;have g:(s.heap.push { cls:=Value.type "list_iterator",data:=Data.fields #[Value.ref l,Value.int 0 0] }).IsList l a:=by
  obtain⟨o,e,c⟩:=d;show⟨o,aj _ e,c⟩
 show aa (bM (Lk (aJ i) a.size 0 _ _ ⟨_,az _ rfl,rfl,rfl⟩ g (by ext) λk m f=>?_));have p:k.IsList l a:=by
  obtain⟨o,e,c⟩:=g;show⟨o,(f.2 l (aJ i)).trans e,c⟩
 have el:List.take a.size (List.drop 0 a.toList)=a.toList:=by rw[List.drop_zero,show a.size=a.toList.length by simp,bH]
 rw[el,if_neg (by simp)];show aa (bM (wpAny_pyNext_list_end hd m p (by simp) λj n=>?_));rw[if_neg (by simp)];show ao (q j λb o h e=>n b o h ?_);rw[f.2 b h];show aj _ e
section
variable{X:Cx}{pos:Pos}
def NM(K:J')(n:Nat)(t:uT):TG:=λv σ H Q=>∃a xs,v=.ref a/\gA K H a xs/\xs.length=n/\t xs σ H Q
theorem Pq{es:List Expr}{k:Nat}{t:uT}{n:Nat}(l:X.calm=true)(h:yJ X es t)
  (i:(assignEach es X.env).length=n:=by rfl) (f:(assignEach es X.env).findIdx? (·.1)=none:=by rfl):PG X (.Tuple es k pos) (NM X.K n t):=by
 intro d s σ H v u Q I r hw;obtain⟨a,xs,m,g,j,hw⟩:=hw;subst m;cases r;obtain⟨its,c,pl,hz⟩:=I.list g;rw[assign_Tuple];show aa (wpAny_standAt ?_);unfold unpack;have hlen:(assignEach es X.env).length=its.toArray.size:=by rw[i,<-j,c.length];simp
 rw[hlen,f];show aa (bM (V8 (I.ok.hd l) pl.isList λh' hx=>?_));have p:Inv X d σ H { s with heap:=h' }:=I.kept (t':=s.toks) λb o e=>hx b o (aJ (aF e)) e
 show h d _ σ H xs _ Q p (by simpa using c) hw
def xD(n:Nat)(t:qw):jN:=λd a Q=>match d with
 | .lst ds=>ds.length=n/\t ds a Q
 | _=>False
theorem Eb{es:List Expr}{k:Nat}{t:qw}{n:Nat}(l:X.calm=true)(h:yN X es t)(j:(assignEach es X.env).length=n:=by rfl)(g:(assignEach es X.env).findIdx? (·.1)=none:=by rfl):tH X (.Tuple es k pos) (xD n t):=by
 obtain⟨t1,f,c⟩:=h;show⟨_,Pq l f j g,λb σ o m G H d v Q P E r h k=>?_⟩;unfold xD at h;split at h
 .simp only[Rep] at r;obtain⟨a,xs,rfl,i,rs⟩:=r;show⟨a,xs,rfl,(E.e.s.hE i).sq,by rw[rs.length];show h.1,c b σ o m G H _ xs Q P E rs h.2 k⟩
 show h.elim
end
theorem RF{acc:List Int}{k:Int}:∀a,a∈step_dedup acc k↔a∈acc\/a=k:=by
 intro a;unfold step_dedup;split
 .rename_i h;constructor
  .exact .inl
  rintro(h' | rfl)
  .exact h'
  simpa using h
 simp
theorem S9{acc:List Int}{k:Int}(h:acc.Nodup):(step_dedup acc k).Nodup:=by
 unfold step_dedup;split
 .exact h
 rename_i c;rw[List.nodup_append];show⟨h,by simp,λa ha b d=>?_⟩;have:b=k:=by simpa using d
 subst this;rintro rfl;show c (by simpa using ha)
theorem S8(l acc:List Int)(h:acc.Nodup):(l.foldl step_dedup acc).Nodup/\∀a,a∈l.foldl step_dedup acc↔a∈acc\/a∈l:=by
 induction l generalizing acc with
 | nil=>show⟨h,λa=>by simp⟩
 | cons k r b=>
  obtain⟨d,c⟩:=b (step_dedup acc k) (S9 h);show⟨d,λa=>?_⟩;rw[List.foldl_cons,c a,RF a,av,or_assoc]
theorem UO(ns:List Int):firstMet (λi=>ns.getD i 0) ns.length=ns.foldl step_dedup []:=by
 unfold firstMet;congr 1
 apply List.ext_getElem
 .simp
 intro i b a;simp[List.getD,a]
section
variable{X:Cx}{pos:Pos}{e:Expr}{te:TD}{es:List Expr}{ts:kj}
noncomputable def D4(ns:List Int):List Int:=ns.foldl step_dedup []
theorem Su(k:X.calm=true):fc X (.type "set") (λxs H Q=>∃(p:Addr)(ns:List Int),xs=[.ref p]/\gA X.K H p (ns.map V.int)/\ns.length<4000/\∀q,H q=none->∀S:Int->Bool,Q (.ref q) (upd H q (.set S (D4 ns).length))):=by
 intro l s σ H xs us Q I r h;obtain⟨p,ns,rfl,i,hsz,q⟩:=h;obtain⟨u,rfl,g⟩:=lG r;cases g;obtain⟨its,c,pl,hz⟩:=I.list i;have f:its.toArray.size=ns.length:=by rw[aA,<-c.length,ae]
 show call_set_list (I.ok.hd k) pl.isList (by simpa using yc c) (by rw[f];have:scanBound=4096:=(by decide);ext) λh' tk d j=>?_
 have hf:H s.heap.objs.size=none:=I.eT.fresh (ay _);rw[f] at d;show⟨.ref s.heap.objs.size,_,I.laid (a:=s.heap.objs.size) (t':=tk) (λb o e=>j b o (aF e) e) (ay _) (o:=.set _ _) d,rfl,?_⟩;rw[UO];show q _ hf _
theorem Ss:fc X (.builtin "len") (λxs H Q=>∃(p:Addr)(S:Int->Bool)(n:Nat),xs=[.ref p]/\H p=some (.set S n)/\Q (.int n) H):=by
 intro l s σ H xs us Q I r h;obtain⟨p,S,n,rfl,b,q⟩:=h;obtain⟨u,rfl,a⟩:=lG r;cases a;obtain⟨o,es,ep,t,g,f,e,k,j,i,d,rfl⟩:=(show s.heap.SetOf (intKind X.prog X.w) p S n from I.eT p _ b)
 show call_len_set g f e d ?_ ⟨.int _,H,I.tok _,⟨_,rfl⟩,q⟩;have:scanBound=4096:=by decide
 have c:es.size<4096:=by ext
 show Int.ofNat_lt.mpr (Nat.lt_trans c (by decide))
theorem KS:bootBuiltins "set"=some (.type "set"):=by rfl
def Ca:fv:=λds Q=>match ds with
 | [.lst es]=>match mG es with
  | some ns=>ns.length<4000/\∀l:List Int,l.Nodup->(∀k,k∈l↔k∈ns)->Q (.fz (.int l.length))
  | none=>False
 | _=>False
theorem Sr{r c d:Pos}(y:X.calm=true)(n:X.mg "len"=none)(u:X.mg "set"=none)(ha:nA X [e] ts)(C:Gl X "len":=by rfl)(m:Gl X "set":=by rfl)
  (he:starEach [e] X.env=(false,eval e X.env)::starEach [] X.env:=by rfl) (f:starEach [.Call (.Name "set" c) [e] [] d] X.env=(false,eval (.Call (.Name "set" c) [e] [] d) X.env)::starEach [] X.env:=by rfl):PD X (.Call (.Name "len" r) [.Call (.Name "set" c) [e] [] d] [] pos) (fb Ca ts):=by
 obtain⟨t,pp,q⟩:=ha;show⟨_,CG Ss C n cE (rn (yg (Su y) m u KS pp (by decide) (by decide) he rfl) sf f) (by decide) (by decide) f rfl,λl σ A z G H Q P E h k=>?_⟩;show q l σ A z G H _ _ E h λD F ds B x rs b=>?_
 unfold Ca at b;split at b
 .split at b
  .rename_i es ns w;obtain⟨v,rfl,g⟩:=mn rs;simp only[Rep] at g;obtain⟨a,xs,rfl,j,i⟩:=g;rw[wz w] at i;rw[wc i] at j;show⟨a,ns,rfl,(x.s.hE j).sq,b.1,λp o S=>⟨p,S,_,rfl,i7,?_⟩⟩;obtain⟨f1,f2⟩:=S8 ns [] List.nodup_nil;show k _ _ _ B (x.trans (.own x.s o)) (iw (kY _ _ _)) (b.2 (D4 ns) f1 λk=>by rw[D4,f2];simp)
  show b.elim
 show b.elim
theorem eZ.look{K:J'}{H:Hp}{f:Str}:∀{a:List (Str×V)}{fs:List (Str×D)}{d:D},eZ K H a fs->fs.lookup f=some d->∃v,a.lookup f=some v/\Rep K H v d
 | [],[],d,_,h=>by simp at h
 | (x,v)::a,(y,d')::fs,d,r,h=>by
  simp only[eZ] at r;obtain⟨⟨rfl,e⟩,c⟩:=r;rw[List.lookup_cons] at h ⊢;cases b:f==x with
  | true=>rw[b] at h;cases h;show⟨v,rfl,e⟩
  | false=>rw[b] at h;show eZ.look c h
 | [],_::_,_,r,_=>by simp only[eZ] at r
 | _::_,[],_,r,_=>by simp only[eZ] at r
theorem JT{f:Str}:∀{fs:List (Str×D)}{d:D},fs.lookup f=some d->∃p∈fs,p.1=f
 | [],d,h=>by simp at h
 | (y,d')::fs,d,h=>by
  rw[List.lookup_cons] at h;cases a:f==y with
  | true=>show⟨(y,d'),by simp,(beq_iff_eq.mp a).symm⟩
  | false=>
   rw[a] at h;obtain⟨p,c,b⟩:=JT h;show⟨p,by simp[c],b⟩
def fi(f:Str)(te:TD):TD:=λa Q=>te a λr=>match r.val with
 | .obj _ fs=>∃d,fs.lookup f=some d/\Q (.fz d)
 | _=>False
theorem fP{f:Str}(he:PD X e te)(n:attributeBase e f X.env (eval e X.env)=eval e X.env:=by rfl):PD X (.Attribute e f pos) (fi f te):=by
 obtain⟨t,p,q⟩:=he;show⟨_,Pa p n,λi σ I D G H Q P E h k=>q i σ I D G H _ _ E h λv K r L x j c=>?_⟩;obtain⟨F,g,b,_⟩:=j.freeze x;split at c
 .rename_i J fs A;rw[A] at b;simp only[Rep] at b;obtain⟨a,C,B,z,rfl,y,w,u,o⟩:=b;obtain⟨d,hd,c⟩:=c;obtain⟨v,l,b⟩:=o.look hd;obtain⟨pr,m,rfl⟩:=JT hd;show⟨a,C,B,z,v,rfl,g.s _ _ y,w.cls,u pr m,l,k _ _ _ F g (iw b) c⟩
 show c.elim
noncomputable def xC(f:Str)(v:D):List (Str×D)->List (Str×D)
 | []=>[(f,v)]
 | (g,x)::r=>if g=f then(g,v)::r else(g,x)::xC f v r
theorem eZ.put{K:J'}{H:Hp}{f:Str}{v:V}{d:D}(a:Rep K H v d):∀{b:List (Str×V)}{fs:List (Str×D)},eZ K H b fs->eZ K H (mU f v b) (xC f d fs)
 | [],[],_=>by simp only[mU,xC,eZ,and_true,true_and];show a
 | (x,u)::b,(y,d')::fs,r=>by
  simp only[eZ] at r;obtain⟨⟨rfl,e⟩,c⟩:=r;simp only[mU,xC];split
  .simp only[eZ,true_and];show⟨a,c⟩
  simp only[eZ,true_and];show⟨e,eZ.put a c⟩
 | [],_::_,r=>by simp only[eZ] at r
 | _::_,[],r=>by simp only[eZ] at r
theorem eZ.length{K:J'}{H:Hp}:∀{a:List (Str×V)}{fs:List (Str×D)},eZ K H a fs->a.length=fs.length
 | [],[],_=>rfl
 | (x,u)::a,(y,d')::fs,r=>by
  simp only[eZ] at r;simp[eZ.length r.2]
 | [],_::_,r=>by simp only[eZ] at r
 | _::_,[],r=>by simp only[eZ] at r
structure Making(K:J')(C:Addr)(x dx:Addr)(G0 H0:Hp)(ρ:Ev)(σ:St)(G H:Hp)(fs:List (Str×D))(gs:List (Str×V)):Prop where
 e:fm K G0 H0 ρ σ G H
 sl:σ[0]?=some (some (.ref x))
 hx:H x=some (.ins C dx gs)
 sU:H dx=some (.own x)
 gx:G x=none
 Bk:G dx=none
 r:eZ K G gs fs
theorem Making.ext{K:J'}{C x d:Addr}{j f:Hp}{b:Ev}{a:St}{G H k i:Hp}{fs:List (Str×D)}{c:List (Str×V)}(M:Making K C x d j f b a G H fs c)(y:Ext G H k i):Making K C x d j f b a k i fs c:=
 ⟨M.e.ext y,M.sl,y.h _ _ M.hx,y.h _ _ M.sU,y.n _ M.gx (by rw[M.hx];show nofun),y.n _ M.Bk (by rw[M.sU];show nofun),eZ.mono y.g _ _ M.r⟩
noncomputable abbrev vH:=Ev->List (Str×D)->(List (Str×D)->Prop)->Prop
def Dq(X:Cx)(C:Addr)(h:List Stmt)(t:vH):Prop:=∃tt,pM X h tt/\∀(x b:Addr)(a:Ev)(σ:St)(f c G H:Hp)(fs:List (Str×D))(j:List (Str×V))(Q:List (Str×D)->Prop)(E:Ends),c x=none->c b=none->b≠x->(∀i o,gt a i≠.ov o)->
 Making X.K C x b f c a σ G H fs j->t a fs Q->(∀d l e g k,Making X.K C x b f c a d l e g k->Q g->E.nx d e)->tt E σ H
def yQ:vH:=λ_ fs Q=>Q fs
def o7(f:Str)(te:TD)(u:vH):vH:=λa fs Q=>te a λr=>fs.length<1000/\u a (xC f r.val fs) Q
theorem JB{C:Addr}:Dq X C [] yQ:=⟨_,JM,λx c b σ e d G H fs a Q E _ _ _ _ M h k=>k σ G H fs a M h⟩
theorem qC{C:Addr}{f x:Str}{t q:Pos}{m:List Stmt}{u:vH}(c:vK X.K C)(n:eO X.K C f)(he:PD X e te)(W:Dq X C m u)(Y:X.N[0]?=some x:=by rfl)(U:oR X.env.scope x:=by first | show Or.inl rfl | show Or.inr (Or.inl rfl) | show Or.inr (Or.inr rfl))
  (V:swapsWith e (some (.Attribute (.Name x t) f q)) pos.line X.env=pure false:=by rfl) (hd:(x==("__debug__":Str))=false:=by decide) (T:(x==("__classdict__":Str))=false:=by decide) :
  Dq X C (.Assign [.Attribute (.Name x t) f q] e pos::m) (o7 f te u):=by
 obtain⟨t1,h1,R⟩:=he;obtain⟨t2,Z,P⟩:=W;show⟨_,J6 (O9 (pZ Y U hd T) h1 V) Z,λx A a σ F D G H fs z Q E l I j d M h k=>?_⟩;show R a σ F D G H _ _ M.e h λv H' r G' y O w=>?_
 obtain⟨G2,J,L,_⟩:=O.freeze y;have M2:=M.ext J;show⟨_,M.sl,x,C,A,z,rfl,M2.hx,c,n,by rw[M.r.length];show w.1,?_⟩;show P x A a σ F D G2 _ (xC f r.val fs) (mU f v z) Q E l I j d ?_ w.2 k;show⟨⟨⟨M2.e.e.g,λb o e=>by rw[fI (lI e l)];show M2.e.e.h b o e,λb o e=>by rw[fI (lI e M2.gx)];show M2.e.e.s b o e,M2.e.e.n⟩,M2.e.len,M2.e.fz,λi ds h=>?_,M2.e.dj,?_⟩,M2.sl,i7,by rw[fI j];show M2.sU,M2.gx,M2.Bk,M2.r.put L⟩
 .obtain⟨p,xs,b1,B,b3,b4,b5⟩:=M2.e.ow i ds h;show⟨p,xs,b1,by rw[fI (Ii B M2.hx (by simp))];show B,b3,b4,b5⟩
 obtain⟨own,S,o2⟩:=M2.e.on;show⟨own,S,λi o h=>(d i o h).elim⟩
end
def M6(K:J')(C:Addr)(n:Nat)(t:fv):Sp:=λf H Q _=>∃x a H1 G ds e c,f=.ref x::e/\H=upd (upd H1 a (.own x)) x (.ins C a [])/\H1 x=none/\H1 a=none/\a≠x/\dU G H1/\c9 K G e ds/\ds.length=n/\t ds c/\
 ∀b r d,Ext G H1 d b->gJ K d b H1 (.ref x) r->c r->Q .non b
section
variable{P:Program}{w:World}{K:J'}{mg:Str->Option Value}{base:Heap}
noncomputable def ue(N:List Str)(ds:List D):Ev:=.un::(ds.map Sl.fz++List.replicate (N.length-1-ds.length) .un)
theorem SN{G H:Hp}{N:List Str}{x:V}{a:List V}{ds:List D}(s:dU G H)(r:c9 K G a ds):fm K G H (ue N ds) (mF N (x::a)) G H:=by
 have E:=JW (N:=N.drop 1) s r;have w:=r.length;have n:ue N ds=.un::uf (N.drop 1) ds:=by simp[ue,uf]
 have m:mF N (x::a)=some x::mF (N.drop 1) a:=by simp[mF,Nat.sub_sub,Nat.add_comm]
 rw[n,m];show⟨E.e,congrArg (·+1) E.len,λi d h=>?_,λi d h=>?_,λi j d d' k h h'=>?_,?_⟩
 .cases i with
  | zero=>cases h
  | succ i=>show E.fz i d h
 .cases i with
  | zero=>cases h
  | succ i=>show E.ow i d h
 .cases i with
  | zero=>cases h
  | succ i=>
   cases j with
   | zero=>cases h'
   | succ j=>show E.dj i j d d' (λz=>k (by rw[z])) h h'
 obtain⟨own,g,f⟩:=E.on;show⟨λq=>(own q).map (·+1),λi ds p h l=>?_,λi o h=>?_⟩
 .cases i with
  | zero=>cases h
  | succ i=>
   dsimp only;rw[g i ds p h l];rfl
 cases i with
 | zero=>cases h
 | succ i=>
  obtain⟨p,fp,v,u,t,c⟩:=f i o h;show⟨p,fp,v,u,t,λq b=>⟨(c q b).1,(c q b).2.1,?_⟩⟩;dsimp only;rw[(c q b).2.2];rfl
theorem Um(N:List Str)(ds:List D):∀i o,gt (ue N ds) i≠.ov o:=by
 have key:∀(l:List Sl),(∀s∈l,∀o,s≠.ov o)->∀i o,gt l i≠.ov o:=by
  intro l;induction l with
  | nil=>intro _ i o h;cases h
  | cons a r c=>
   intro h i o;cases i with
   | zero=>show h a (by simp) o
   | succ i=>show c (λs b=>h s (by simp[b])) i o
 show key _ λs b o e=>?_
 subst e;unfold ue at b;simp at b
theorem KR{x c v:Str}{st:Stmt}{f C:Addr}{fd:FuncData}{N ps:List Str}{k:Nat}{t:fv}{T:vH}(F:Du K x c st f fd)(S:du N ("self"::ps) (de st))(hC:ClsAt K v C)
  (body:∀(m:Value)(A:Around)(outer:List Env)(s:Shared)(H:Hp)(E:XK),fN k (A.deeper (envOfC c (de st) s.heap.objs.size f m))->Dq (rg nX P w K mg base N c (de st) f m A outer s H E).tX C (eW st) T)
  (d:∀(ds:List D)(j:R->Prop),ds.length=ps.length->t ds j->T (ue N ds) [] λfs=>(∀p∈fs,eO K C p.1)/\j (.fz (.obj v fs))):jv P w K mg base nX (k+1) f fd ("self"::ps) (M6 K C ps.length t):=by
 show F.ok S (λvs H Q E h=>?_) (λm A outer s H vs Q E hr h=>?_)
 .obtain⟨x,a,H1,G,ds,Ae,j,rfl,_,_,_,_,_,r,B,_⟩:=h;simp[r.length,B]
 obtain⟨x,a,H1,G,ds,Ae,j,rfl,rfl,hx,sU,L,s0,r,B,ht,k0⟩:=h;obtain⟨tt,p,q⟩:=body m A outer s _ E hr;have E0:=SN (N:=N) (x:=.ref x) s0 r;have gx:=s0.free hx;have Bk:=s0.free sU;have l:dU H1 (upd (upd H1 a (.own x)) x (.ins C a [])):=λb o e=>by rw[fI (lI e hx),fI (lI e sU)];show e
 have M0:Making K C x a G H1 (ue N ds) (mF N (.ref x::Ae)) G (upd (upd H1 a (.own x)) x (.ins C a [])) [] []:=
  ⟨⟨⟨dU.refl _,l,s0.trans l,λ_ h _=>h⟩,E0.len,E0.fz,λi ds h=>let⟨p,xs,W,V,U,O,b5⟩:=E0.ow i ds h;⟨p,xs,W,l _ _ V,U,O,b5⟩,E0.dj,let⟨own,o1,o2⟩:=E0.on;⟨own,o1,λi o h=>let⟨p,fp,W,V,U,O⟩:=o2 i o h;⟨p,fp,W,V,U.mono (dU.refl _) λq _ u e=>l q u e,O⟩⟩⟩,by simp[mF],i7,by rw[fI L];show i7,gx,Bk,by simp only[eZ]⟩
 show⟨tt,p,q x a _ _ G H1 G _ [] [] _ _ hx sU L (Um _ _) M0 (d ds j B ht) λeQ X H' fs J M Z=>?_⟩;have y:=M.e.e;have ne':a≠x:=L;have Y:dU X (upd (upd X a (.own x)) x (.ins C a J)):=λb o e=>by rw[fI (lI e M.gx),fI (lI e M.Bk)];show e
 show k0 H' (.fz (.obj v fs)) (upd (upd X a (.own x)) x (.ins C a J)) ⟨y.g.trans Y,y.h,λb o e=>?_,λb h1 I=>?_⟩ ?_ Z.2
 .by_cases hb:b=x
  .subst hb;rw[i7] at e;rw[M.hx];show e
  rw[fI hb] at e;by_cases Bh:b=a
  .subst Bh;rw[i7] at e;rw[M.sU];show e
  rw[fI Bh] at e;show y.s b o e
 .rw[fI (λz=>I (by rw[z];show hx)),fI (λz=>I (by rw[z];show sU))];show y.n b h1 I
 show Rep K _ _ (.obj v fs);simp only[Rep];show⟨x,C,a,J,rfl,i7,hC,Z.1,eZ.mono Y _ _ M.r⟩
structure jO(P:Program)(w:World)(K:J')(mg:Str->Option Value)(base:Heap)(k:Nat)(x:Str)(n:Nat)(t:fv):Prop where
 ex:∃(C f:Addr)(fd:FuncData)(ps:List Str),Mk K C f/\jv P w K mg base nX k f fd ps (M6 K C n t)/\mg x=some (.ref C)/\Binds K fd ps []
end
section
variable{X:Cx}{k k' n:Nat}{t:fv}{x:Str}{p pos:Pos}{e:Expr}{es:List Expr}{ts:kj}
theorem JS(C:jO X.prog X.w X.K X.mg X.base k x n t)(m:fN k' X.A)(ha:nA X (e::es) ts)(o:k+1<=k':=by decide)(u:Gl X x:=by rfl)(l:(x==("__debug__":Str))=false:=by decide)
  (he:starEach (e::es) X.env=(false,eval e X.env)::starEach es X.env:=by rfl) (hpl:(backTo pos (starEach es X.env)).any (·.1)=false:=by rfl):PD X (.Call (.Name x p) (e::es) [] pos) (fT n t ts):=by
 obtain⟨C,f,fd,ps,M,F,hm,v⟩:=C.ex;obtain⟨tt,pp,q⟩:=ha;show⟨_,PQ M F (m.mono o) u hm v .nil Im pp l he hpl,λc σ N I G H Q P E h k=>q c σ N I G H _ _ E h λg J ds O y rs b=>?_⟩;intro a B ha sU z;rw[aS];show⟨a,B,J,O,ds,g,Q,rfl,rfl,ha,sU,z,y.s,rs,b.1,b.2,λD r L d i j=>⟨rfl,k _ D r L (y.trans d) (i.je y.h) j⟩⟩
end
def jo(K:J')(C:Addr):List Str->Prop
 | []=>True
 | x::r=>eO K C x/\jo K C r
theorem jo.all{K:J'}{C:Addr}:∀{l:List Str},jo K C l->∀x∈l,eO K C x
 | [],_,x,h=>by cases h
 | y::r,n,x,h=>by
  rcases av.mp h with rfl | h
  .exact n.1
  show jo.all n.2 x h
structure xy(K:J')(mg:Str->Option Value)(cn qual:Str)(st:Stmt)(fields:List Str):Prop where
 ex:∃(C f:Addr)(fd:FuncData),ClsAt K cn C/\Mk K C f/\Du K "__init__" qual st f fd/\mg cn=some (.ref C)/\jo K C fields
theorem tF{K:J'}{mg:Str->Option Value}{h:Heap}{e b:Str}{st:Stmt}{a:List Str}{C f:Addr}{i:Value}{od k:Option Addr}{g:Array (Option Value)}{kV c pm d ct:Value}(X:K.In h)(G:h.Ns mainGlobals mg)
  (aC:PySem.W.nsIn K mainGlobals e=some (some (.ref C))) (a1:PySem.W.findIn K (.ref C) "__init__"=some (some (.ref f))) (i1:PySem.W.isFn K (.ref f)=true)
  (l1:K.lookup f=some ⟨i,od,.func (PySem.W.fnOf "__init__" b (gB st) (eW st) (de st) .none kV c pm k d ct),g⟩) (c1:PySem.W.codeIn K d b=true) (k1:PySem.W.keepIn K (.ref f)=true)
  (pg:PySem.W.plainGet K C Str.empty=true) (hd:PySem.W.hasDictIn K C=true) (po:PySem.W.plainOver K C=true) (sa:PySem.W.findIn K (.ref C) "__setattr__"=some (some (.builtin "object.__setattr__"))) (mk:PySem.W.makesIn K C=true) (kc:PySem.W.keepIn K (.ref C)=true)
  (j:jo K C a):xy K mg e b st a:=
 ⟨C,f,_,⟨aC,⟨pg,hd,po,sa⟩⟩,⟨mk,a1,i1,kc⟩,D3 l1 c1 k1,PySem.W.mg_of X G aC,j⟩
noncomputable def ud:D->Bool
 | .non=>true
 | .bl _=>true
 | .int _=>true
 | .str _=>true
 | _=>false
def DI(i:Nat)(te:TD):TD:=λa Q=>te (mN i a) λr=>match r with
 | .fz d=>ud d=true/\Q (.fz d)
 | _=>False
theorem CB{K:J'}{G a:Hp}{v:V}{d:D}(h:ud d=true)(r:Rep K G v d):Rep K a v d:=by
 cases d<;>first | (simp only[Rep] at r ⊢;show r) | cases h
noncomputable def vM(G:Hp)(L:List Addr):Hp:=λa=>if a∈L then none else G a
theorem JR{G H d c:Hp}{L:List Addr}(k:∀q∈L,G q=none)(x:Ext (qz G H L) H d c):Ext G H (vM d L) c:=by
 show⟨λb u e=>?_,x.h,λb u e=>?_,λq j i=>?_⟩
 .have a:b∉L:=λz=>by rw[k b z] at e;cases e
  unfold vM;rw[if_neg a];show x.g b u (by rw[sr a];show e)
 .unfold vM at e;split at e
  .cases e
  show x.s b u e
 unfold vM;split
 .rfl
 rename_i f;show x.n q (by rw[sr f];show j) i
section
variable{X:Cx}{e:Expr}{te:TD}{t:ki}
theorem fm.Gq{K:J'}{f d G H:Hp}{c:Ev}{b:St}(i:Nat)(E:fm K f d c b G H):∃e,fm K f d (mN i c) b e H/\∀g a,Ext e H g a->∃j,Ext G H j a:=
 let⟨L,h,k,_⟩:=E.nk i
 ⟨_,k,λg a x=>⟨_,JR h x⟩⟩
theorem Pp(i:Nat)(h:PD X e te):PD X e (DI i te):=by
 obtain⟨tt,p,q⟩:=h;show⟨tt,p,λs σ m g G H Q P E h k=>?_⟩;obtain⟨l,o,back⟩:=E.Gq i;show q _ σ m g l H _ _ o h λv b r n x f a=>?_
 split at a
 .rename_i d;obtain⟨j,c⟩:=back n b x;show k v b (.fz d) j c (CB a.1 f) a.2
 show a.elim
end
def uq:fv:=λds Q=>match ds with
 | [.lst es]=>match nP es with
  | some ss=>ss.length<4000/\(∀l:List Str,l.Nodup->(∀w∈l,w∈ss)->l.length<64)/\∀l:List Str,l.Nodup->(∀w,w∈l↔w∈ss)->sortedS l=true->Q (.ow (l.map D.str))
  | none=>False
 | _=>False
theorem UN(t:SetTable)(n:Nat):(t.orStandIn n).led=t.led:=by
 unfold SetTable.orStandIn;split<;>rfl
theorem S7(t:SetTable)(es:Array (Int×Value))(h:Int)(x:Value):(layNew t es h x).2.1.led=t.led:=by
 unfold layNew;split
 .exact UN _ _
 rfl
theorem UC{t t':SetTable}{c:Array Int}{a:Nat}{b:Array Nat}(h:t.relaid c a=some (t',b)):t'.led=t.led/\t'.plain=t.plain:=by
 unfold SetTable.relaid SetTable.laid at h;cases d:SetTable.layClean (SetTable.sizeAbove a-1) c with
 | none=>rw[d] at h;cases h
 | some owner=>
  rw[d] at h;cases h;show⟨rfl,rfl⟩
theorem U8(t:SetTable)(es:Array (Int×Value))(a:Nat)(c:t.plain=false):(relayAll t es a).2.1.led=t.led/\(relayAll t es a).2.1.plain=false:=by
 unfold relayAll;split
 .rename_i t' order b;obtain⟨e,d⟩:=UC b;dsimp only;split
  .exact⟨e,d.trans c⟩
  show⟨rfl,rfl⟩
 show⟨rfl,rfl⟩
section
variable{prog:Program}{w:World}{A:Around}{E:Value->Shared->Prop}{s:Shared}
structure Bw(w:World)(es:Array (Int×Value))(t:SetTable):Prop where
 led:t.led=!(w.params.followText "set-order")
 plain:es.size=0\/t.plain=false
structure e7(prog:Program)(w:World)(h:Heap)(a:Addr)(es:Array (Int×Value))(ep:Nat)(t:SetTable):Prop where
 at_:h.get? a=some { cls:=.type "set",dict:=none,data:=.set es ep t,slots:=#[] }
 el:ElemsOf (strKind prog w) es.toList
 small:es.size<scanBound
 fits:t.fits es.size=true
 marks:Bw w es t
def Mem(prog:Program)(w:World)(es:Array (Int×Value))(k:Str):Prop:=∃e∈es.toList,(strKind prog w).is k e.2=true
theorem KQ{a:Addr}{es b:Array (Int×Value)}{ep:Nat}{t t':SetTable}{Q:Unit->Shared->Prop}(c:s.heap.get? a=some { cls:=.type "set",dict:=none,data:=.set es ep t,slots:=#[] })(d:b.size<scanBound)
  (h:∀h',Heap.SameBut a s.heap h'->h'.get? a=some { cls:=.type "set",dict:=none,data:=.set b (ep+1) t',slots:=#[] }->Q () { s with heap:=h' }):wpAny (model prog w) A (storeSet a b t') Q E s:=by
 show wpAny_storeSet_of c rfl ?_ (fits_of_scanBound d);show h _ (Heap.SameBut.update s.heap a (Obj.putSet b t')) ?_;have:=Heap.get?_update_self (Obj.putSet b t') c (by rw[putSet_of b t' (ep:=ep) (t:=t) (es:=es) rfl];rfl);rw[putSet_of b t' (ep:=ep) (t:=t) (es:=es) rfl] at this;show this
theorem Po{a:Addr}{es:Array (Int×Value)}{ep:Nat}{t:SetTable}{x:Str}{tk:Tok}{Q:Bool->Shared->Prop}(S:e7 prog w s.heap a es ep t)(C:es.size+1<scanBound)
  (h:∀h' u P t',Heap.SameBut a s.heap h'->e7 prog w h' a u P t'->((u=es/\Mem prog w es x)\/(¬Mem prog w es x/\List.Perm u.toList (es.toList++[(hashStr w x,.str x tk)])))->∀b,Q b { s with heap:=h' }) :
  wpAny (model prog w) A (setAddHashed a (.str x tk) ((strKind prog w).hash x)) Q E s:=by
 have B:(strKind prog w).is x (.str x tk)=true:=by show Value.isStrOf x (.str x tk)=true;simp[Value.isStrOf]
 have z:(Value.str x tk).scannable=true:=rfl;have v:=S.at_;unfold setAddHashed setAddHashedIn;show bM (aa (wpAny_setState_of v rfl S.fits ?_));dsimp only;rw[byScan_of z S.small S.el];simp only[↓reduceIte];unfold setAddByScan;show aa (aa (wpAny_rule (aa (wpAny_setScan_of B v rfl S.fits S.el ?_))));cases I:List.findIdx? (λe=>(strKind prog w).is x e.2) es.toList with
 | some j=>
  dsimp only;obtain⟨T,X,_⟩:=List.findIdx?_eq_some_iff_getElem.mp I;show ao (ao ?_);show h s.heap es ep t (Heap.SameBut.refl a s.heap) S (.inl ⟨rfl,es.toList[j],cv T,X⟩) _
 | none=>
  dsimp only;have D:¬Mem prog w es x:=λ⟨e,he,k⟩=>by
   have:=List.findIdx?_eq_none_iff.mp I e he;rw[k] at this;cases this
  have way:∀(b:Bool){s1:Shared}{f:Unit->Shared->Prop},f () s1->wpAny (model prog w) A (match b with | true=>rule "set.scan.the-table-gave-way" | false=>pure ()) f E s1:=λb s1 f q=>by
   cases b
   .exact ao q
   show wpAny_rule q
  have i:=layNew_perm t es ((strKind prog w).hash x) (.str x tk);have n:=layNew_fits t es ((strKind prog w).hash x) (.str x tk);have m:=S7 t es ((strKind prog w).hash x) (.str x tk);generalize layNew t es ((strKind prog w).hash x) (.str x tk)=L at i n m ⊢;obtain⟨c,t1,W,Yk⟩:=L;dsimp only at i n m ⊢;rw[aH] at i;have M:ElemsOf (strKind prog w) c.toList:=(S.el.push B z).perm i;have hsz:c.size=es.size+1:=by rw[<-af,i.length_eq,aD,af];rfl
  have o:c.size<scanBound:=by ext
  show aa (way _ ?_)
  -- pz table,not plain any more
  have tail:∀(g:Bool->Sem Unit),(∀(b:Bool)(s1:Shared)(f:Unit->Shared->Prop),f () s1->wpAny (model prog w) A (g b) f E s1)->∀d:SetTable,d.fits c.size=true->d.led=t.led->d.plain=false->wpAny (model prog w) A (do
    storeSet a c d
    if (!W&&d.tooFull)=true then do
        g (relayAll d c (SetTable.grown c.size)).2.2
        storeSet a (relayAll d c (SetTable.grown c.size)).1 (relayAll d c (SetTable.grown c.size)).2.1
        pure (some true)
     else pure (some true)) (λr O=>wpAny (model prog w) A (match r with | some added=>pure added | none=>setAddHashedIn a (Value.str x tk) ((strKind prog w).hash x) 99999) Q E O) E s:=by
   intro g U d f2 H G;show aa (KQ v o λy J g1=>?_);have Z:∀b,Q b { s with heap:=y }:=h y c _ d J ⟨g1,M,o,f2,⟨H.trans S.marks.led,.inr G⟩⟩ (.inr ⟨D,i⟩)
   split
   .have k:=relayAll_perm d c (SetTable.grown c.size);have p:=relayAll_fits d c (SetTable.grown c.size);have l:=U8 d c (SetTable.grown c.size) G;generalize relayAll d c (SetTable.grown c.size)=Y at k p l ⊢;obtain⟨K,t3,MS⟩:=Y;dsimp only at k p l ⊢;have F:K.size=c.size:=by rw[<-af,k.length_eq,af]
    show aa (U _ _ _ ?_);show aa (KQ (s:={ s with heap:=y }) g1 (by rw[F];show o) λV N g2=>ao (ao ?_));show h V K _ t3 (J.trans N) ⟨g2,M.perm k,by rw[F];show o,p,⟨(l.1.trans H).trans S.marks.led,.inr l.2⟩⟩ (.inr ⟨D,k.trans i⟩) _
   show ao (ao (Z _))
  by_cases hpl:t1.plain=true
  .rw[if_pos hpl];show aa ?_;rw[hashByValue_scannable 8 z];show ao ?_;have R:plainKind (.str x tk)=false:=rfl;rw[R];simp only[aq,aR];show tail _ (λb s1 f q=>by cases b<;>first | show ao q | show wpAny_rule q) { t1 with plain:=false } (SetTable.fits_plain_off n) m rfl
  rw[if_neg hpl];show aa (ao ?_);simp only[aX];show tail _ (λb s1 f q=>by cases b<;>first | show ao q | show wpAny_rule q) t1 n m (by simpa using hpl)
noncomputable def keysOf(es:Array (Int×Value)):List Str:=es.toList.map λe=>strOf e.2
theorem JQ{es:Array (Int×Value)}(el:ElemsOf (strKind prog w) es.toList)(k:Str):Mem prog w es k↔k∈keysOf es:=by
 unfold Mem keysOf;rw[aN];constructor
 .rintro⟨e,he,b⟩;obtain⟨t,a⟩:=Value.isStrOf_shape b;show⟨e,he,by rw[a];rfl⟩
 rintro⟨e,he,rfl⟩;obtain⟨⟨k,b,_⟩,_⟩:=el e he;obtain⟨t,a⟩:=Value.isStrOf_shape b;show⟨e,he,?_⟩;rw[a];show Value.isStrOf k (.str k t)=true;simp[Value.isStrOf]
theorem SM{es a:Array (Int×Value)}{x:Str}{tk:Tok}{b:Int}(p:List.Perm a.toList (es.toList++[(b,.str x tk)])):List.Perm (keysOf a) (keysOf es++[x]):=by
 have:=p.map λe=>strOf e.2
 rw[aE] at this;show this
structure Holds(es:Array (Int×Value))(xs:List Str):Prop where
 nd:(keysOf es).Nodup
 mem:∀x,x∈keysOf es↔x∈xs
 len:es.size<=xs.length
theorem Holds.put{es c:Array (Int×Value)}{xs:List Str}{x:Str}{tk:Tok}(H:Holds es xs)(el:ElemsOf (strKind prog w) es.toList)
  (h:(c=es/\Mem prog w es x)\/(¬Mem prog w es x/\List.Perm c.toList (es.toList++[(hashStr w x,.str x tk)]))):Holds c (xs++[x]):=by
 rcases h with⟨rfl,hm⟩ | ⟨hm,e⟩
 .refine⟨H.nd,λy=>?_,by simp;have:=H.len;ext⟩;rw[au,<-H.mem,bp];constructor
  .exact .inl
  rintro(h | rfl)
  .exact h
  show(JQ el _).mp hm
 have d:=SM e;show⟨d.nodup_iff.mpr ?_,λy=>?_,?_⟩
 .rw[List.nodup_append];show⟨H.nd,by simp,λa ha b f=>?_⟩;rw[bp.mp f];rintro rfl;show hm ((JQ el _).mpr ha)
 .rw[d.mem_iff,au,au,H.mem]
 have g:=d.length_eq;have j:(keysOf c).length=c.size:=by simp[keysOf]
 have i:(keysOf es).length=es.size:=by simp[keysOf]
 have:=H.len;simp only[aD,aG,cW] at g ⊢;ext
theorem e7.kept{h h':Heap}{a:Addr}{es:Array (Int×Value)}{ep:Nat}{t:SetTable}(S:e7 prog w h a es ep t)(k:∀o,h.get? a=some o->h'.get? a=some o):e7 prog w h' a es ep t:=⟨k _ S.at_,S.el,S.small,S.fits,S.marks⟩
end
section
variable{prog:Program}{w:World}{A:Around}{R:Result->Shared->Prop}{I:Addr}{fp wr:List Addr}{G:Array GenState->Array GenState->Prop}{n:Nat}{P:Nat->Value->Prop}{St:Nat->Shared->Prop}
theorem SK(W:WalksS prog w A.in1 I fp wr G n P St)(S:Addr)(g:S∉fp)(xs:List Str)(hx:xs.length=n)(p:∀i v,P i v->∃x t,xs[i]?=some x/\v=.str x t)(c:n+1<scanBound) :
  ∀(k i:Nat)(s:Shared)(es:Array (Int×Value))(ep:Nat)(t:SetTable),n-i=k->i<=n->St i s->e7 prog w s.heap S es ep t->Holds es (xs.take i)->
   (∀a d f t',Moved (S::wr) G s a->e7 prog w a.heap S d f t'->Holds d xs->R (.ok (.ret .none)) a)->codeAny (model prog w) A (.builtin "set.update.loop" ⟨[.ref S,.ref I],[]⟩) R s:=by
 have m:S∉wr:=λh=>g (W.sub _ h)
 have more:∀b∈wr,b∈S::wr:=λb c=>aK _ c
 intro k;induction k with
 | zero=>
  intro i s es ep t C hi st T H q;have e:i=n:=by ext
  subst e;show cR PyProof.Rows.F.entry_set_update_loop ?_;rw[cg PyProof.Rows.F.plain_set_update_loop _];show wpAny _ A.in1 (pyNext (.ref I) >>= _) _ _ s;show aa (W.done s _ _ st λa hm=>?_);show wpAny _ A.in1 (ret Value.none) _ _ a;rw[<-hx,bH] at H;show ao (q a es ep t (hm.mono more) (T.kept λo e=>hm.heap S _ m e) H)
 | succ k y=>
  intro i s es ep t C hi st T H q;have l:i<n:=by ext
  show cR PyProof.Rows.F.entry_set_update_loop ?_;rw[cg PyProof.Rows.F.plain_set_update_loop _];show wpAny _ A.in1 (pyNext (.ref I) >>= _) _ _ s;show aa (W.item i s _ _ l st λv a D E hm=>?_);obtain⟨x,tk,J,rfl⟩:=p i v D;have M:e7 prog w a.heap S es ep t:=T.kept λo e=>hm.heap S _ m e
  show wpAny _ A.in1 (holding [Value.str x tk] (setAdd S (.str x tk)) >>= _) _ _ a;show aa (bM ?_);unfold setAdd;show bM (aa ((strKind prog w).pyHash (k:=x) (by show Value.isStrOf x (.str x tk)=true;simp[Value.isStrOf]) ?_));have B:=H.len;rw[aT] at B;show Po (s:={ a with toks:=a.toks+1 }) M (by ext) λh' d f t' j L U b=>?_
  have X:xs.take (i+1)=xs.take i++[x]:=by rw[br,J];rfl
  have Q:Holds d (xs.take (i+1)):=by rw[X];show H.put T.el U
  show ao ⟨plainId_quiet PyProof.Rows.F.plain_set_update_loop _,y (i+1) _ d f t' (by ext) l (W.frame _ a _ _ E (bU _) λb c o e=>?_) L Q λs2 V N r u K O=>?_⟩
  .rw[j.2 b (λz:b=S=>g (by rw[<-z];show c))];show e
  show q s2 V N r (Moved.trans W.gtrans ((hm.mono more).then_heap (bU _) λb o c e=>?_) u) K O;rw[j.2 b (λz:b=S=>c (by rw[z];show cz))];show e
end
section
variable{prog:Program}{w:World}{A:Around}{E:Value->Shared->Prop}{s:Shared}
noncomputable abbrev sg(w:World):Obj:={ cls:=.type "set",dict:=none,data:=.set #[] 0 (.fresh 0 0 (!(w.params.followText "set-order"))) }
theorem RE(a:Value){Q1:Value->Shared->Prop}(h:Q1 (.ref s.heap.objs.size) { s with heap:=s.heap.push (sg w) }) :
  codeAny (model prog w) A (.call (.builtin "set.__new__") ⟨[.type "set",a],[]⟩) (wants Q1 E) s:=by
 show codeAny_of_tree ?_;show wpAny _ A.in1 (do checkBuiltinCall "set.__new__" ⟨[.type "set",a],[]⟩;again (.builtin "set.__new__" ⟨[.type "set",a],[]⟩)) _ _ s;show aa (wpAny_of_eq (PySem.F.newCall_set_1 a) (ao ⟨plainId_quiet PySem.F.plain_set_new _,cR PySem.F.entry_set_new ?_⟩));rw[cg PySem.F.plain_set_new _];unfold Builtin.«set.__new__» Builtin.Frozenset.newClass;have c:=PySem.sub_set_self;obtain⟨b,g,d,tk,os⟩:=s;dsimp only;wp_walk
 show wpAny_askSetting (ao ?_);dsimp only;simp only[newObj];show aa (wpAny_alloc (ao ?_));show ao h
theorem Qi{h:Heap}{a:Addr}(e:h.get? a=some (sg w)):e7 prog w h a #[] 0 (.fresh 0 0 (!(w.params.followText "set-order"))):=
 ⟨e,λx hx=>by simp at hx,by show 0<4096;decide,by simp[SetTable.fits,SetTable.fresh,SetTable.fill],⟨rfl,.inl rfl⟩⟩
theorem SJ{l:Addr}{a:List Value}{xs:List Str}{Q:Value->Shared->Prop}(M:A.handled=none)(L:s.heap.IsList l a.toArray)(hi:StrsAre a xs)(f:xs.length+1<scanBound)
  (h:∀(h':Heap)(tk:Nat) es ep t,e7 prog w h' s.heap.objs.size es ep t->L2.Holds es xs->(∀b o,b<s.heap.objs.size->s.heap.get? b=some o->h'.get? b=some o)->Q (.ref s.heap.objs.size) { s with heap:=h',toks:=tk }) :
  wpAny (model prog w) A (call (.type "set") [.ref l]) Q E s:=by
 obtain⟨c,tl,XQ⟩:=PySem.F.called_set.mro;have Mu:=PySem.F.called_set.made;have GG:=PySem.F.called_set.sub;show wpAny_call (codeAny_of_tree ?_);show wpAny _ _ (callAny (.type "set") _) _ _ _;show ao ⟨Code.quiet_builtin _ (by decide +kernel),cR PySem.F.entry_type_call ?_⟩;rw[Around.under_plain (weight_type_call_type "set" [.ref l] []) rfl];have h1:=PySem.F.called_set.notType;have h2:=PySem.F.called_set.canCreate;have YW:=PySem.F.typeCall_set_1 (.ref l);repeat(any_goals (first | assumption | wp_step))
 show codeAny_mono (RE (.ref l) (E:=E) (Q1:=λobj s1=>obj=.ref s.heap.objs.size/\s1={ s with heap:=s.heap.push (sg w) }) ⟨rfl,rfl⟩) λr s1 j=>?_
 cases r with
 | error e=>show j
 | ok O=>
  cases O with
  | ret obj=>
   obtain⟨rfl,rfl⟩:=j;have y:(s.heap.push (sg w)).get? s.heap.objs.size=some (sg w):=az _ rfl;have N:Shared.TypeIs { s with heap:=s.heap.push (sg w) } (.ref s.heap.objs.size) "set":=⟨_,y,rfl⟩
   have C8:=PySem.F.called_set.init.lookup;have YY:=PySem.F.called_set.init.bind (.ref s.heap.objs.size);repeat(any_goals (first | assumption | wp_step))
   show codeAny_mono (codeAny_call_builtin (R:=wants (λr s2=>r=.none/\∃h' tk es ep t,s2={ s with heap:=h',toks:=tk }/\e7 prog w h' s.heap.objs.size es ep t/\L2.Holds es xs/\
     (∀b o,b<s.heap.objs.size->s.heap.get? b=some o->h'.get? b=some o)) E) PySem.F.called_set.init.plain PySem.F.entry_set_init (check_set_init_1 N ?_)) λK s2 n=>?_
   .obtain⟨ol,k,q,nl,B⟩:=L;obtain⟨WX,Ax,L1,D⟩:=ol;simp only at q B;subst q B;have m:(s.heap.push (sg w)).get? l=some { cls:=.type "list",dict:=Ax,data:=.seq a.toArray nl,slots:=D }:=aj _ k;have XA:=PySem.F.sub_list_set;have XB:=PySem.F.sub_list_frozenset;have fh:(Value.type "list"==Value.type "dict")=false:=by decide
    have g:(s.heap.push (sg w)).IsList l a.toArray:=⟨_,m,rfl,nl,rfl⟩
    unfold Builtin.«set.__init__» noKeywords Builtin.Frozenset.updateFrom;generalize W:pyIter=PI;wp_walk
    subst W;show wpAny_pyIter_list g (aa (wpAny_runValue ?_));have z:l<s.heap.objs.size:=aF k;have X:A.in1.in1.in1.handled=none:=by simp[M]
    have hsz:(s.heap.push (sg w)).objs.size=s.heap.objs.size+1:=cO ..;have GR:l≠(s.heap.push (sg w)).objs.size:=by rw[hsz];show aJ (b8 z)
    have C:s.heap.objs.size∉[(s.heap.push (sg w)).objs.size,l]:=by
     rw[hsz];simp only[av,bg,cY,not_or];show⟨aJ (Nat.lt_succ_self _),Nat.ne_of_gt z⟩
    have u:xs.length=a.toArray.size:=by
     rw[aA];clear k m g h f;induction hi with
     | nil=>rfl
     | cons _ _ _ p=>simp[p]
    have G:∀(i:Nat)(v:Value),a.toArray[i]?=some v->∃x t,xs[i]?=some x/\v=.str x t:=λi v d=>by
     rw[List.getElem?_toArray] at d;clear k m g h f u;induction hi generalizing i with
     | nil=>simp at d
     | cons x t j p=>
      cases i with
      | zero=>simp at d;show⟨x,t,rfl,d.symm⟩
      | succ i=>simp only[bO] at d ⊢;show p i d
    show SK ((Walks.list X _ l GR a.toArray).toS) s.heap.objs.size C xs u G (by ext) (a.toArray.size-0) 0 _ #[] 0 _ (by ext) (aZ _)
     ⟨⟨_,az _ rfl,rfl,rfl⟩,(g.push _)⟩ (Qi (aj _ y)) ⟨by simp[keysOf],by simp[keysOf],by simp⟩ ?hR
    case hR=>
     intro J es ep t hm T H;obtain⟨h',g',d',Y,Z⟩:=J;have S:g'=s.gens:=hm.gens;have U:d'=s.drawn:=hm.drawn;have P:Z=s.os:=hm.os;subst S U P;show wpAny _ _ _ _ _ _;show ao ?_;show wpAny _ _ (ret Value.none) _ _ _;show ao ⟨rfl,h',Y,es,ep,t,rfl,T,H,λb o f e=>?_⟩;show hm.heap b o ?_ (aj _ (aj _ e));rw[hsz];simp only[av,bg,cY,not_or];show⟨aJ f,aJ (b8 f)⟩
   cases K with
   | error e=>show n
   | ok V=>
    cases V with
    | ret r=>
     obtain⟨rfl,h',tk,es,ep,t,rfl,T,H,I⟩:=n;repeat(any_goals (first | assumption | wp_step))
     show h _ _ es ep t T H I
    | _=>show n.elim
  | _=>show j.elim
end
theorem iL:Slot "set_iterator" "__next__" "set_iterator.__next__":=
 .of (owner:="set_iterator") (n:="__next__") (by rw[typeLookup_type,builtinLookup_eq_fast];kernel_rfl) (by decide +kernel) (by decide +kernel) (by decide +kernel) (by first | show .inl (by decide +kernel) | show .inr (by decide +kernel)) (by rw[isSubtype_type];kernel_rfl)
theorem JL:Slot "set_iterator" "__iter__" "set_iterator.__iter__":=
 .of (owner:="set_iterator") (n:="__iter__") (by rw[typeLookup_type,builtinLookup_eq_fast];kernel_rfl) (by decide +kernel) (by decide +kernel) (by decide +kernel) (by first | show .inl (by decide +kernel) | show .inr (by decide +kernel)) (by rw[isSubtype_type];kernel_rfl)
theorem JK:entryFor table "set_iterator.__next__"=some Builtin.«set_iterator.__next__»:=entryFor_of_fast (by kernel_rfl)
theorem Qh:entryFor table "set_iterator.__iter__"=some Builtin.«dict_keyiterator.__iter__»:=entryFor_alias (id':="dict_keyiterator.__iter__") (by kernel_rfl) rfl (by decide +kernel) (by kernel_rfl)
theorem RD:entryFor table "set.__iter__"=some Builtin.«frozenset.__iter__»:=entryFor_alias (id':="frozenset.__iter__") (by kernel_rfl) rfl (by decide +kernel) (by kernel_rfl)
theorem JJ(a:Value):argsOk "set_iterator.__next__" ⟨[a],[]⟩:=by unfold argsOk;kernel_rfl
theorem Qg(a:Value):argsOk "set_iterator.__iter__" ⟨[a],[]⟩:=by unfold argsOk;kernel_rfl
section
variable{prog:Program}{w:World}{A:Around}{E:Value->Shared->Prop}{s:Shared}
theorem Fb{b:Type}:∀{l:List b}{i:Nat}(h:i<l.length),(l[i]::l.eraseIdx i).Perm l
 | a::r,0,_=>.refl _
 | a::r,i+1,h=>by
  simp only[List.getElem_cons_succ,List.eraseIdx_cons_succ];show(List.Perm.swap _ _ _).trans ((Fb (by simpa using h)).cons a)
theorem S6{M:Model}{src:Source}{n:Nat}{Q:Nat->Shared->Prop}(a:n≠0)(h:∀i d,i<n->Q i { s with drawn:=d }):wpAny M A (choose src n) Q E s:=λb p _=>by
 show Sem.wp M b (.choose src n .pure) _ _ p s;rw[Sem.wp_choose];show⟨a,h _ _ (Nat.mod_lt _ (Nat.pos_of_ne_zero a))⟩
theorem KP{M:Model}{b:Type}:∀(n:Nat)(xs:List b)(s:Shared)(Q:List b->Shared->Prop),xs.length<=n->(∀ys d,ys.Perm xs->Q ys { s with drawn:=d })->wpAny M A (drawOrder n xs) Q E s
 | 0,xs,s,Q,a,q=>by
  have:xs=[]:=cf (by ext);subst this;unfold drawOrder;show ao (q [] s.drawn (.refl _))
 | n+1,[],s,Q,a,q=>by
  unfold drawOrder;show ao (q [] s.drawn (.refl _))
 | n+1,x::r,s,Q,a,q=>by
  unfold drawOrder;show aa (S6 (by simp) λi d hi=>?_);rw[ah hi];dsimp only;show aa (KP n _ _ _ (by rw[List.length_eraseIdx];split<;>simp at a ⊢<;>ext) λys d' c=>ao ?_);show q _ d' ((c.cons _).trans (Fb hi))
theorem JI{b:Type}(f:Nat->Nat):∀(n k:Nat)(left:List b)(out:Array b),left.length=n->(pickOrder.go f n k left out).toList.Perm (out.toList++left)
 | 0,k,left,out,h=>by
  have:left=[]:=cf h;subst this;simp[pickOrder.go]
 | n+1,k,left,out,h=>by
  unfold pickOrder.go;have a:f k%left.length<left.length:=Nat.mod_lt _ (by ext);rw[ah a];dsimp only;show(JI f n (k+1) _ _ (by rw[List.length_eraseIdx,if_pos a];ext)).trans ?_;rw[aH,bw];show(List.Perm.refl _).append (Fb a)
theorem KO{a:Type}(f:Nat->Nat)(xs:Array a):(pickOrder f xs).toList.Perm xs.toList:=by
 have:=JI f xs.size 0 xs.toList #[] (by simp);simpa[pickOrder] using this
noncomputable abbrev tL(first:Value)(i:Nat)(S:Addr)(n ep:Nat):Obj:={ cls:=.type "set_iterator",data:=.fields #[first,.int i 0,.ref S,.int n 0,.int ep 0] }
theorem E9{a:Addr}{es:Array (Int×Value)}{ep:Nat}{t:SetTable}{Q:Array (Int×Value)->Shared->Prop}(S:e7 prog w s.heap a es ep t)(h:Q es s):wpAny (model prog w) A (setEntries a) Q E s:=by
 unfold setEntries;show aa (wpAny_setState_of S.at_ rfl S.fits (ao h))
theorem JP{I:Addr}{o:Obj}{c:Array Value}{Q:Option Value->Shared->Prop}{K:Fin->Shared->Prop}(h:A.handled=none)(g:s.heap.get? I=some o)(hd:o.data=.fields c)(f:2<c.size)
  (i:∀h',Heap.ExtBut I s.heap h'->Q none { s with heap:=h' }) :
  wpAny (model prog w) A.in1 (do setField (.ref I) 2 .none;raiseNew (<-newExc (.type "StopIteration") []):Sem Fin) K (λe d=>wpAny (model prog w) A (do if <-isInstance e (.type "StopIteration") then pure none else throw e:Sem (Option Value)) Q E d) s:=by
 show aa (wpAny_setField g hd f ?_);show wpAny _ _ (newExc (.type "StopIteration") [] >>= _) _ _ _;show aa ?_;simp only[newExc,newTuple];show aa (cy ?_ (by size_fits));show aa (m:=firstArgMember _ _) (wpAny_of_eq (a:=Value.none) (by first | rfl | (simp only[firstArgMember];rfl)) ?_);show cy ?_ (by size_fits);simp only[raiseNew];show aa (wpAny_handled ?_);rw[show A.in1.handled=none from h];show aa (ao (wpAny_throw ?_));show aa (wpAny_isInstance (T:="StopIteration") (b:=true) ⟨_,az _ rfl,rfl⟩ isSubtype_stop ?_);show ao (i _ (((Heap.SameBut.update ..).extBut.push _).push _))
end
section
variable{prog:Program}{w:World}{A:Around}{E:Value->Shared->Prop}{s:Shared}
theorem CA{I S:Addr}{es:Array (Int×Value)}{ep:Nat}{t:SetTable}{sl i:Nat}{Q:Option Value->Shared->Prop}(f:A.handled=none)(a:s.heap.get? I=some (tL (.int sl 0) i S es.size ep))(T:e7 prog w s.heap S es ep t)(r:Option (Value×Nat))
  (g:∀(c:Option (Value×Nat)->Shared->Prop)(n:Value->Shared->Prop),c r s->wpAny (model prog w) A.in1 (setNext S sl i ep) c n s)
  (d:∀x j,r=some (x,j)->∀h',Heap.SameBut I s.heap h'->h'.get? I=some (tL (.int j 0) (i+1) S es.size ep)->Q (some x) { s with heap:=h' })
  (e:r=none->∀h',Heap.ExtBut I s.heap h'->Q none { s with heap:=h' }):wpAny (model prog w) A (pyNext (.ref I)) Q E s:=by
 have b:s.TypeIs (.ref I) "set_iterator":=⟨_,a,rfl⟩
 unfold pyNext;show aa (wpAny_attempt (wpAny_callSpecial?_slot (name:=Str.ofString "__next__") b iL (wpAny_call_entry iL b JK ?_ (JJ _))));show wpAny _ _ (fieldsOf (.ref I) >>= _) _ _ s;show aa (wpAny_fieldsOf a rfl ?_);dsimp only;show aa (E9 T ?_);simp only[bne_self_eq_false,aq,aR];simp only[Int.toNat_natCast];show aa (g _ _ ?_);cases r with
 | none=>show JP f a rfl (by simp) (e rfl)
 | some p=>
  obtain⟨x,j⟩:=p;dsimp only;show aa (wpAny_setField_rec a (by simp) λk g1 m=>?_);show aa (wpAny_setField_rec (s:={ s with heap:=k }) g1 (by simp) λh g2 l=>?_);show ao ⟨x,rfl,ao (d x j rfl h (m.trans l) ?_)⟩;rw[g2];simp[rawInt]
theorem JO{I S f:Addr}{es:Array (Int×Value)}{ep:Nat}{t:SetTable}{ps:List Nat}{i:Nat}{Q:Option Value->Shared->Prop}(l:A.handled=none)(a:s.heap.get? I=some (tL (.ref f) i S es.size ep))(T:e7 prog w s.heap S es ep t)
  (n:s.heap.get? f=some { cls:=.type "tuple",data:=.seq (ps.map λ(p:Nat)=>rawInt p).toArray })
  (j:∀p e,ps[i]?=some p->es[p]?=some e->∀h',Heap.SameBut I s.heap h'->h'.get? I=some (tL (.ref f) (i+1) S es.size ep)->Q (some e.2) { s with heap:=h' })
  (h:∀p∈ps,p<es.size) (k:ps[i]?=none->∀h',Heap.ExtBut I s.heap h'->Q none { s with heap:=h' }):wpAny (model prog w) A (pyNext (.ref I)) Q E s:=by
 have g:s.TypeIs (.ref I) "set_iterator":=⟨_,a,rfl⟩
 unfold pyNext;show aa (wpAny_attempt (wpAny_callSpecial?_slot (name:=Str.ofString "__next__") g iL (wpAny_call_entry iL g JK ?_ (JJ _))));show wpAny _ _ (fieldsOf (.ref I) >>= _) _ _ s;show aa (wpAny_fieldsOf a rfl ?_);dsimp only;show aa (E9 T ?_);simp only[bne_self_eq_false,aq,aR];show aa (wpAny_seqItems n rfl ?_);dsimp only;simp only[Int.toNat_natCast,List.getElem?_toArray,aI];cases b:ps[i]? with
 | none=>
  simp only[Option.map_none];show aa (wpAny_setField_rec a (by simp) λc g1 d=>?_);show JP (s:={ s with heap:=c }) l g1 rfl (by simp) λh' x=>k b h' (d.extBut.trans x)
 | some p=>
  simp only[cV,rawInt,Int.toNat_natCast];have m:=h p (aL b);have he:es[p]?=some es[p]:=by simp[m]
  unfold setNextDrawn;show aa (aa (wpAny_setState_of T.at_ rfl T.fits ?_));simp only[bne_self_eq_false,aq,aR,he];show ao ?_;show aa (wpAny_setField_rec a (by simp) λc g1 d=>?_);show ao ⟨_,rfl,ao (j p es[p] b he c d ?_)⟩;rw[g1];simp
theorem KN{S:Addr}{es:Array (Int×Value)}{ep:Nat}{t:SetTable}(T:e7 prog w s.heap S es ep t)(sl i:Nat)(a:w.params.followText "set-order"=true)(Q:Option (Value×Nat)->Shared->Prop)
  (q:Q (((pickOrder (w.params.setOrder S ep) es)[i]?).map λe=>(e.2,sl)) s):wpAny (model prog w) A (setNext S sl i ep) Q E s:=by
 unfold setNext;show aa (wpAny_setState_of T.at_ rfl T.fits ?_);dsimp only;unfold setsByText;show aa (aa (wpAny_askSetting (ao ?_)));rw[show(model prog w).w.params.followText "set-order"=true from a];simp only[bne_self_eq_false,aq,aR,aX];unfold setWalk;show aa (aa (wpAny_setState_of T.at_ rfl T.fits ?_));dsimp only;unfold setsByText;show aa (aa (wpAny_askSetting (ao ?_)));rw[show(model prog w).w.params.followText "set-order"=true from a];simp only[aX];show aa (wpAny_askSetting (ao (ao q)))
theorem Lj{S:Addr}{es:Array (Int×Value)}{ep:Nat}{t:SetTable}(T:e7 prog w s.heap S es ep t)(sl i:Nat)(a:w.params.followText "set-order"=false)(c:es.size<=1)(Q:Option (Value×Nat)->Shared->Prop)
  (q:Q (match es[SetTable.below t.place sl]?,t.place[SetTable.below t.place sl]? with | some (_,x),some j=>some (x,j+1) | _,_=>none) s):wpAny (model prog w) A (setNext S sl i ep) Q E s:=by
 unfold setNext;show aa (wpAny_setState_of T.at_ rfl T.fits ?_);dsimp only;unfold setsByText;show aa (aa (wpAny_askSetting (ao ?_)));rw[show(model prog w).w.params.followText "set-order"=false from a];simp only[aq,aR];have b:t.led=true:=by rw[T.marks.led,a];rfl
 have hd:(!t.plain&&decide (es.size>1))=false:=by
  rw[bh (by ext)];simp
 show wpAny_ite_split (λh=>absurd (show(!t.plain&&decide (es.size>1))=true from h) (by rw[hd];simp)) λ_=>?_
 show aa ?_;show wpAny _ _ (ite ((!t.led&&!es.isEmpty)=true) _ _) _ _ _;rw[b];simp only[Bool.not_true,Bool.false_and,aq,aR];show ao (ao q)
theorem Ez{I S:Addr}{h h':Heap}{es:Array (Int×Value)}{ep:Nat}{t:SetTable}(T:e7 prog w h S es ep t)(a:S≠I)(b:Heap.SameBut I h h'):e7 prog w h' S es ep t:=T.kept λo e=>by rw[b.2 S a];show e
abbrev Dv(a:List Value):Nat->Value->Prop:=λi v=>a[i]?=some v
theorem Ea{I S:Addr}{first:Value}{i n ep:Nat}{Q:Value->Shared->Prop}(b:s.heap.get? I=some (tL first i S n ep))(q:Q (.ref I) s):wpAny (model prog w) A (pyIter (.ref I)) Q E s:=by
 have a:s.TypeIs (.ref I) "set_iterator":=⟨_,b,rfl⟩
 show wpAny_pyIter_slot a JL (wpAny_call_entry JL a Qh ?_ (Qg _));show wpAny _ _ (ret (.ref I)) _ _ s;show ao ⟨_,rfl,"set_iterator",_,a,iL.lookup,q⟩
theorem SH{I S:Addr}{es:Array (Int×Value)}{ep:Nat}{t:SetTable}(u:S≠I)(n:w.params.followText "set-order"=true)(m:A.handled=none) :
  Walks prog w A I [I,S] [I] es.size (Dv ((pickOrder (w.params.setOrder S ep) es).toList.map (·.2))) (λi h=>h.get? I=some (tL (.int 0 0) i S es.size ep)/\e7 prog w h S es ep t):=by
 have r:=KO (w.params.setOrder S ep) es;have y:(pickOrder (w.params.setOrder S ep) es).size=es.size:=by rw[<-af,r.length_eq,af]
 show⟨λb p=>by simp at p;simp[p],λi h h' st k=>⟨k I (by simp) _ st.1,st.2.kept (k S (by simp))⟩,λi s Q E hi st q=>?_,λs Q E st q=>?_,λi s Q E st q=>Ea st.1 q⟩
 .have l:i<(pickOrder (w.params.setOrder S ep) es).size:=by ext
  show CA (sl:=0) m st.1 st.2 _ (λf v a=>KN st.2 0 i n f a) (λx j e h' b g=>?_) (λe=>?_)
  .rw[cG l] at e;simp only[cV,aB,Prod.mk.injEq] at e;obtain⟨rfl,rfl⟩:=e;show q _ h' s.toks (by show(List.map _ _)[i]?=_;rw[aI,cM,cG l];rfl) ⟨g,Ez st.2 u b⟩ λc o d e=>by rw[b.2 c (by simpa using d)];show e
  rw[cG l] at e;cases e
 show CA (sl:=0) m st.1 st.2 _ (λf v a=>KN st.2 0 _ n f a) (λx j e=>?_) (λ_ h' b=>q h' s.toks λc o d e=>b c o (by simpa using d) e);rw[Array.getElem?_eq_none (by ext)] at e;cases e
theorem IS(p j:Nat):SetTable.below #[p] j=if p<j then 1 else 0:=by
 unfold SetTable.below;simp only[aA,aG,cW,Nat.zero_add];unfold SetTable.below.go;simp;split<;>unfold SetTable.below.go<;>rfl
theorem JH{b:Type}{a:Array b}(h:a.size=1):∃e,a=#[e]:=⟨a[0]'(by ext),Array.ext (by simpa using h) λi hi _=>by
 have:i=0:=by ext
 subst this;rfl⟩
theorem S5{I S:Addr}{es:Array (Int×Value)}{ep:Nat}{t:SetTable}(D:S≠I)(u:w.params.followText "set-order"=false)(y:es.size<=1)(r:A.handled=none) :
  Walks prog w A I [I,S] [I] es.size (Dv (es.toList.map (·.2))) (λi h=>∃sl:Nat,h.get? I=some (tL (.int sl 0) i S es.size ep)/\e7 prog w h S es ep t/\(i=0->sl=0)/\(1<=i->∃p,t.place=#[p]/\sl=p+1)):=by
 show⟨λb v=>by simp at v;simp[v],λi h h' st k=>?_,λi s Q E hi st q=>?_,λs Q E st q=>?_,λi s Q E st q=>?_⟩
 .obtain⟨sl,a,T,b,c⟩:=st;show⟨sl,k I (by simp) _ a,T.kept (k S (by simp)),b,c⟩
 .obtain⟨sl,a,T,b,c⟩:=st;have H:es.size=1:=by ext
  have G:i=0:=by ext
  subst G;have n:=b rfl;subst n;obtain⟨e,rfl⟩:=JH H;have C:=T.fits;simp only[SetTable.fits,bY,beq_iff_eq] at C;obtain⟨p,d⟩:=JH (show t.place.size=1 from C.1);show CA r a T (some (e.2,p+1)) (λm J f=>Lj T _ _ u y m ?_) (λx j F h' B g=>?_) (λz=>nomatch z)
  .rw[d,IS,if_neg (Nat.not_lt_zero _)];show f
  cases F;show q _ h' s.toks rfl ⟨p+1,g,Ez T D B,λz=>by ext,λ_=>⟨p,d,rfl⟩⟩ λc o l e=>by rw[B.2 c (by simpa using l)];show e
 .obtain⟨sl,a,T,b,c⟩:=st;show CA r a T none (λm J f=>Lj T _ _ u y m ?_) (λx j e=>nomatch e) (λ_ h' b=>q h' s.toks λc o l e=>b c o (by simpa using l) e);have he:es[SetTable.below t.place sl]?=none:=by
   by_cases h0:es.size=0
   .exact Array.getElem?_eq_none (by ext)
   obtain⟨p,d,n⟩:=c (by ext);rw[d,n,IS,if_pos (Nat.lt_succ_self _)];show Array.getElem?_eq_none (by ext)
  rw[he];show f
 obtain⟨sl,a,T,b,c⟩:=st;show Ea a q
theorem S4{I S a:Addr}{es:Array (Int×Value)}{ep:Nat}{t:SetTable}{ps:List Nat}(u:S≠I)(v:a≠I)(l:ps.Perm (List.range es.size))(m:A.handled=none) :
  Walks prog w A I [I,a,S] [I] es.size (Dv (ps.map λp=>(es.getD p (0,.none)).2)) (λi h=>h.get? I=some (tL (.ref a) i S es.size ep)/\e7 prog w h S es ep t/\h.get? a=some { cls:=.type "tuple",data:=.seq (ps.map λ(p:Nat)=>rawInt p).toArray }):=by
 have j:∀p∈ps,p<es.size:=λp h=>bC.mp (l.mem_iff.mp h)
 have y:ps.length=es.size:=by rw[l.length_eq,bG]
 show⟨λb n=>by simp at n;simp[n],λi h h' st k=>⟨k I (by simp) _ st.1,st.2.1.kept (k S (by simp)),k a (by simp) _ st.2.2⟩,λi s Q E hi st q=>?_,λs Q E st q=>?_,λi s Q E st q=>Ea st.1 q⟩
 .have x:i<ps.length:=by ext
  show JO m st.1 st.2.1 st.2.2 (λp e d r h' b g=>?_) j (λz=>by rw[ah x] at z;cases z);show q _ h' s.toks ?_ ⟨g,Ez st.2.1 u b,by rw[b.2 a v];show st.2.2⟩ λc o f e=>by rw[b.2 c (by simpa using f)];show e
  show(List.map _ _)[i]?=_;rw[aI,d];simp[r]
 show JO m st.1 st.2.1 st.2.2 (λp e d=>?_) j (λ_ h' b=>q h' s.toks λc o f e=>b c o (by simpa using f) e);rw[List.getElem?_eq_none (by ext)] at d;cases d
end
section
variable{prog:Program}{w:World}{A:Around}{E:Value->Shared->Prop}{s:Shared}
structure Laid(prog:Program)(w:World)(h:Heap)(a:Addr)(es:Array (Int×Value))(I:Addr)(h':Heap):Prop where
 ex:∃(fp:List Addr)(vals:List Value)(St:Nat->Heap->Prop),vals.Perm (es.toList.map (·.2))/\(∀A:Around,A.handled=none->Walks prog w A I fp [I] es.size (Dv vals) St)/\St 0 h'/\∀b∈fp,b=a\/h.objs.size<=b
 old:∀b o,h.get? b=some o->h'.get? b=some o
 new:h.objs.size<=I
 type:∃o,h'.get? I=some o/\o.cls=.type "set_iterator"
theorem RZ{es:Array (Int×Value)}{ps:List Nat}(a:ps.Perm (List.range es.size)):(ps.map λp=>(es.getD p (0,.none)).2).Perm (es.toList.map (·.2)):=by
 show(a.map _).trans ?_;have e:(List.range es.size).map (λp=>(es.getD p (0,.none)).2)=es.toList.map (·.2):=by
  apply List.ext_getElem
  .simp
  intro i b c;have hi:i<es.size:=by simpa using b
  simp[Array.getD,hi]
 rw[e]
theorem RC{a:Addr}{es:Array (Int×Value)}{ep:Nat}{t:SetTable}{Q:Value->Shared->Prop}(T:e7 prog w s.heap a es ep t)
  (q:∀(I:Addr)(h':Heap)(d:Drawn),Laid prog w s.heap a es I h'->Q (.ref I) { s with heap:=h',drawn:=d }):wpAny (model prog w) A (pyIter (.ref a)) Q E s:=by
 have m:s.TypeIs (.ref a) "set":=⟨_,T.at_,rfl⟩
 have r:a<s.heap.objs.size:=aF T.at_;show wpAny_pyIter_slot m PySem.F.slot_set_iter (wpAny_call_entry PySem.F.slot_set_iter m RD ?_ (PySem.F.args_set_iter_1 _));show wpAny _ _ (Builtin.Frozenset.sizeOf a >>= _) _ _ s;unfold Builtin.Frozenset.sizeOf;show aa (aa (E9 T (ao ?_)));unfold setDrawn;show aa (aa (wpAny_setState_of T.at_ rfl T.fits ?_));dsimp only;unfold setsByText;show aa (aa (wpAny_askSetting (ao ?_)));show ao ?_;have here:∀(first:Value)(s1:Shared)(Q1:Fin->Shared->Prop)(c:e7 prog w s1.heap a es ep t),(∀o,o=tL first 0 a es.size ep->Q1 (.done (.ret (.ref s1.heap.objs.size))) { s1 with heap:=s1.heap.push o })->wpAny (model prog w) A.in1 (do
   let e <-setEpoch a
   let v <-newFields "set_iterator" [first,rawInt 0,Value.ref a,rawInt es.size,rawInt e]
   ret v) Q1 E s1:=by
  intro first s1 Q1 c x;show aa (wpAny_setEpoch_of c.at_ rfl c.fits ?_);show aa (cy (ao (x _ rfl)) (by size_fits))
 show wpAny_ite_split (λl=>?_) λl=>?_
 .refine aa (KP es.size _ _ _ (by simp) λps d i=>?_);have B:ps.length<=sizeLine:=by rw[i.length_eq,bG];show fits_of_scanBound T.small
  show aa (wpAny_newTuple ?_ (by rw[ae];show B));have c:e7 prog w (s.heap.push { cls:=.type "tuple",data:=.seq (ps.map λ(p:Nat)=>rawInt p).toArray }) a es ep t:=T.kept λo e=>aj _ e
  show here _ _ _ c λo j=>?_
  subst j;show⟨_,rfl,"set_iterator",_,⟨_,az _ rfl,rfl⟩,iL.lookup,?_⟩;have hsz:(s.heap.push { cls:=.type "tuple",data:=.seq (ps.map λ(p:Nat)=>rawInt p).toArray }).objs.size=s.heap.objs.size+1:=cO ..
  show q _ _ d ⟨⟨[_,s.heap.objs.size,a],_,_,RZ i,λA f=>S4 (t:=t) (by rw[hsz];show aJ (b8 r)) (by rw[hsz];show aJ (Nat.lt_succ_self _)) i f,
   ⟨az _ rfl,c.kept λo e=>aj _ e,aj _ (az _ rfl)⟩,λb g=>?_⟩,λb o e=>aj _ (aj _ e),by rw[hsz];show bU _,⟨_,az _ rfl,rfl⟩⟩
  simp only[av,bg,cY] at g;rcases g with rfl | rfl | rfl
  .right;rw[hsz];show bU _
  .right;show ay _
  left;rfl
 show aa (ao ?_);show here _ _ _ T λo j=>?_
 subst j;show⟨_,rfl,"set_iterator",_,⟨_,az _ rfl,rfl⟩,iL.lookup,?_⟩;have u:∀b∈[s.heap.objs.size,a],b=a\/s.heap.objs.size<=b:=λb g=>by
  simp only[av,bg,cY] at g;rcases g with rfl | rfl
  .right;show ay _
  left;rfl
 have n:a≠s.heap.objs.size:=aJ r;have c:e7 prog w (s.heap.push (tL (rawInt 0) 0 a es.size ep)) a es ep t:=T.kept λo e=>aj _ e
 cases hf:w.params.followText "set-order" with
 | true=>
  show q _ _ s.drawn ⟨⟨_,_,_,(KO (w.params.setOrder a ep) es).map _,λA f=>SH (t:=t) n hf f,⟨az _ rfl,c⟩,u⟩,λb o e=>aj _ e,ay _,⟨_,az _ rfl,rfl⟩⟩
 | false=>
  have k:¬((!t.plain&&decide (es.size>1))=true):=λz=>l (by
   show(!(w.params.followText "set-order")&&(!t.plain&&decide (es.size>1)))=true;rw[hf,z];rfl)
  have y:es.size<=1:=by
   rcases T.marks.plain with h | h
   .omega
   rw[h] at k;simp at k;show k
  show q _ _ s.drawn ⟨⟨_,_,_,.refl _,λA f=>S5 (t:=t) n hf y f,⟨0,az _ rfl,c,λ_=>rfl,λz=>by ext⟩,u⟩,λb o e=>aj _ e,ay _,⟨_,az _ rfl,rfl⟩⟩
theorem RB{a:Addr}{Q:Bool->Shared->Prop}(d:s.TypeIs (.ref a) "set")(h:Q false s):wpAny (model prog w) A (Builtin.List.listLengthHint (.ref a)) Q E s:=by
 unfold Builtin.List.listLengthHint;show aa (wpAny_specialOf d PySem.F.slot_set_len.lookup ?_);generalize e:("set.__len__":String)=f;wp_delta
 rw[show splitId f=some ("set","__len__") from by subst e;decide +kernel];subst e;show aa (wpAny_isInstance (T:="set") (b:=true) d (by rw[isSubtype_type];kernel_rfl) ?_);show wpAny_ite_split (λc=>absurd c (by decide)) (λ_=>wpAny_ite_split (λ_=>?_) (λc=>absurd (by decide +kernel) c));show aa (wpAny_typeOf d (ao h))
theorem S1{R:Result->Shared->Prop}{a:Addr}{es:Array (Int×Value)}{ep:Nat}{t:SetTable}(T:e7 prog w s.heap a es ep t)(u:A.handled=none)(S:Addr)(B:S≠a)(res:Value)(x:Nat)(v:s.heap.get? S=some { cls:=.type "list",data:=.seq #[] x })
  (hR:∀h' d tk (acc:Array Value) i,(∀b o,b≠S->s.heap.get? b=some o->h'.get? b=some o)->h'.get? S=some { cls:=.type "list",dict:=none,data:=.seq acc i,slots:=#[] }->acc.toList.Perm (es.toList.map (·.2))->R (.ok (.ret res)) { s with heap:=h',drawn:=d,toks:=tk }) :
  wpAny (model prog w) A.in1 (Builtin.List.listExtendWith (.ref S) (.ref a) res) (λfin c=>match fin with | .done f=>R (.ok f) c | .again i=>i.quiet=true/\codeAny (model prog w) A i R c) (λe c=>R (.error e) c) s:=by
 have J:s.TypeIs (.ref a) "set":=⟨_,T.at_,rfl⟩
 have C:S<s.heap.objs.size:=aF v;unfold Builtin.List.listExtendWith;show aa (wpAny_typeOf (T:="set") J ?_);have N:Builtin.List.listSameRef (.ref S) (.ref a)=false:=by simp[Builtin.List.listSameRef,B]
 have M:(Value.type "set"==Value.type "list")=false:=by decide
 have K:(Value.type "set"==Value.type "tuple")=false:=by decide
 simp only[N,M,K,Bool.or_false,aq,aR];show aa (RC T λI h0 d L=>?_);obtain⟨fp,vals,St,q,W,st,Q⟩:=L.ex;have n:S∉fp:=λz=>by
  rcases Q S z with e | e
  .exact B e
  show cN _ (aW C e)
 have V:S≠I:=λz=>cN _ (aW C (z▸L.new))
 have go:∀(h:Heap)(c1 tk:Nat),St 0 h->(∀b o,b≠S->s.heap.get? b=some o->h.get? b=some o)->h.get? S=some { cls:=.type "list",data:=.seq #[] c1 }->
   codeAny (model prog w) A (.builtin "list.extend.loop" ⟨[.ref S,.ref I,res],[]⟩) R { s with heap:=h,drawn:=d,toks:=tk }:=by
  intro h c1 tk G H U;show codeAny_extend_loopS (W A.in1 u).toS (fits_of_scanBound T.small) S n res es.size 0 _ #[] c1 rfl (aZ _) G U (ItemsOf.nil _) λc k i hm E p=>?_
  rw[Moved.eq_with hm];show hR c.heap d c.toks k i (λb o g e=>hm.heap b o (λl=>?_) (H b o g e)) E ?_
  .rcases av.mp l with O | l
   .exact g O
   show absurd (aF e) (by rw[bp.mp l];show Nat.not_lt.mpr L.new)
  have e:k.toList=vals:=by
   apply List.ext_getElem?;intro j;by_cases r:j<k.size
   .have:=p.2 j k[j] (by simp[r]);rw[this];simp[r]
   have X:vals.length=es.size:=by rw[q.length_eq];simp
   have:=p.1;rw[List.getElem?_eq_none (by simp;ext),List.getElem?_eq_none (by ext)]
  rw[e];show q
 have m:=L.old _ _ v;show aa (bM (RB (s:={ s with heap:=h0,drawn:=d }) ⟨_,L.old _ _ T.at_,rfl⟩ ?_));show wpAny_ite_split (λ_=>?_) (λ_=>ao ⟨plainId_quiet PySem.F.plain_extend_loop _,go _ x _ st (λb o _ e=>L.old b o e) m⟩);show aa (wpAny_rule (aa ?_));show wpAny _ _ (updateSeq S (·.push .none) >>= λ_=>updateSeq S (·.pop)) _ _ _;show aa (wpAny_updateSeq m rfl ?_);have y:=Heap.get?_update_self (Obj.mapSeq (·.push Value.none)) m rfl;show wpAny_updateSeq (hz:=by seq_fits) y rfl ?_;have P:=Heap.get?_update_self (Obj.mapSeq (·.pop)) y rfl;show ao ⟨plainId_quiet PySem.F.plain_extend_loop _,go _ _ _ ?_ (λb o g e=>?_) P⟩
 .refine(W A.in1 u).frame 0 _ _ st λb g o e=>?_
  have D:b≠S:=λh=>n (h▸g)
  show(bj _ _ (Ne.symm D)).trans ((bj _ _ (Ne.symm D)).trans e)
 show(bj _ _ (Ne.symm g)).trans ((bj _ _ (Ne.symm g)).trans (L.old _ _ e))
end
section
variable{prog:Program}{w:World}{A:Around}{E:Value->Shared->Prop}{s:Shared}
theorem Ul{R:List Value->Shared->Prop}{a:Addr}{es:Array (Int×Value)}{ep:Nat}{t:SetTable}(T:e7 prog w s.heap a es ep t)(n:A.handled=none)
  (h:∀(h':Heap)(d:Drawn)(tk:Nat)(m:List Value),s.heap.objs.size<h'.objs.size->(∀b o,s.heap.get? b=some o->h'.get? b=some o)->m.Perm (es.toList.map (·.2))->R m { s with heap:=h',drawn:=d,toks:=tk }):wpAny (model prog w) A (collect (.ref a)) R E s:=by
 have p:a<s.heap.objs.size:=aF T.at_;unfold collect;show aa (wpAny_runValue (cR entry_proto_collect' ?_));rw[cg PySem.F.plain_proto_collect _];show wpAny _ A.in1 (newList [] >>= λl=>again (.builtin "list.__iadd__" ⟨[l,.ref a],[]⟩)) _ _ s;show aa (cy (ao ⟨plainId_quiet PySem.F.plain_list_iadd _,cR entry_list_iadd' ?_⟩));rw[cg PySem.F.plain_list_iadd _];have u:(s.heap.push { cls:=.type "list",data:=.seq ([]:List Value).toArray }).get? s.heap.objs.size=some { cls:=.type "list",data:=.seq #[] }:=az _ rfl;show wpAny _ A.in1 (Builtin.List.listExtendWith (.ref s.heap.objs.size) (.ref a) (.ref s.heap.objs.size)) _ _ _;have key:=S1 (A:=A) (s:={ s with heap:=s.heap.push { cls:=.type "list",data:=.seq ([]:List Value).toArray } })
  (R:=λ(q:Result)(k:Shared)=>∃(h':Heap)(d:Drawn)(tk:Nat)(acc:Array Value)(j:Nat),q=.ok (.ret (.ref s.heap.objs.size))/\k={ s with heap:=h',drawn:=d,toks:=tk }/\
   (∀b o,s.heap.get? b=some o->h'.get? b=some o)/\h'.get? s.heap.objs.size=some { cls:=.type "list",dict:=none,data:=.seq acc j,slots:=#[] }/\acc.toList.Perm (es.toList.map (·.2)))
  (T.kept λo e=>aj _ e) n s.heap.objs.size (Nat.ne_of_gt p) (.ref s.heap.objs.size) 0 u
  (λh' d tk acc j i c g=>⟨h',d,tk,acc,j,rfl,rfl,λb o e=>i b o (aJ (aF e)) (aj _ e),c,g⟩)
 show wpAny_mono key (λfin k x=>?_) λe k x=>?_
 .cases fin with
  | done f=>
   obtain⟨h',d,tk,acc,j,e,rfl,i,c,g⟩:=x;cases e;show wpAny _ A (load s.heap.objs.size >>= _) _ _ _;show aa (wpAny_load c (ao (h h' d tk acc.toList (aF c) i g)))
  | again c1=>
   show⟨x.1,codeAny_mono x.2 λq s2 y=>?_⟩;obtain⟨h',d,tk,acc,j,rfl,rfl,i,c,g⟩:=y;show wpAny _ A (load s.heap.objs.size >>= _) _ _ _;show aa (wpAny_load c (ao (h h' d tk acc.toList (aF c) i g)))
 obtain⟨_,_,_,_,_,r,_⟩:=x;cases r
theorem KL:∀{a:List Value},(∀v∈a,∃x t,v=.str x t)->StrsAre a (a.map strOf)
 | [],_=>.nil
 | v::r,h=>by
  obtain⟨x,t,rfl⟩:=h v (by simp);show .cons x t (KL λu b=>h u (by simp[b]))
theorem S0{a:Addr}{es:Array (Int×Value)}{ep:Nat}{t:SetTable}{Q:Value->Shared->Prop}(T:e7 prog w s.heap a es ep t)(y:A.handled=none)(K:es.size<64)
  (h:∀(p:Addr)(h':Heap)(d:Drawn)(tk:Nat)(out:Array Value)(e:Nat)(ss:List Str),s.heap.objs.size<=p->(∀b o,s.heap.get? b=some o->h'.get? b=some o)->h'.get? p=some (seqObj "list" out e)->StrsAre out.toList ss->ss.Perm (keysOf es)->sortedS ss=true->Q (.ref p) { s with heap:=h',drawn:=d,toks:=tk }) :
  wpAny (model prog w) A (call (.builtin "sorted") [.ref a]) Q E s:=by
 show Calls.call_function_entry kind_sorted plain_sorted entry_sorted (args_sorted1 _) ?_;unfold Builtin.«sorted»;show aa (m:=checkCount "sorted" 1 1 _) (ao (aa (Ul (A:=A.in1) T y λh' d tk c B i g=>?_)));have J:c.length=es.size:=by rw[g.length_eq];simp
 have H:∀v∈c,∃x t,v=.str x t:=λv r=>by
  obtain⟨e,he,rfl⟩:=aN.mp (g.mem_iff.mp r);obtain⟨⟨k,i,_⟩,_⟩:=T.el e he;obtain⟨t,u⟩:=Value.isStrOf_shape i;show⟨k,t,u⟩
 have j:=KL H;show aa (wpAny_newList ?_ (by rw[J];show fits_of_scanBound T.small));have f:(h'.push (seqObj "list" c.toArray 0)).get? h'.objs.size=some (seqObj "list" c.toArray 0):=az _ rfl;show aa (bM (wpAny_call_entry slot_list_sort ⟨_,f,rfl⟩ entry_list_sort (list_sort_treeK (s:={ s with heap:=h'.push (seqObj "list" c.toArray 0),drawn:=d,toks:=tk }) strKind_oneLt f j.keysOf (λv1 v2 nY e=>keyKind_strs (by rw[<-e];show j)) (by ext) λC a1 a2=>⟨_,rfl,?_⟩) (args_list_sort _)));obtain⟨q,G,F,D⟩:=sorted_out_str j a1 a2;obtain⟨z,I⟩:=sortedHeap_at (out:=(arrOf C).map (·.2)) f;have hle:s.heap.objs.size<=h'.objs.size:=Nat.le_of_lt B;show ao ⟨_,rfl,h _ _ d tk _ z q hle (λb o e=>?_) I G (F.trans ?_) D⟩
 .have n:=i b o e;have l:b<h'.objs.size:=aF n;rw[sortedHeap_old (aJ l) (by rw[size_push'];show b8 l)];show aj _ n
 have:=g.map strOf;rw[aU] at this;show this
theorem Inv.draw{X:Cx}{b:List (Addr×Obj)}{a:St}{H:Hp}{s:Shared}(I:Inv X b a H s)(d:Drawn):Inv X b a H { s with drawn:=d }:=
 ⟨I.ok,I.os,I.bare,I.base,I.loc,I.cell,I.free,I.jh,I.pin,I.eT,I.len⟩
end
section
variable{X:Cx}{pos:Pos}{e:Expr}{te:TD}{ts:kj}{t:TA}
def RA(K:J')(t:TA):TE:=λσ H Q=>t σ H λa H1=>∃(p:Addr)(ss:List Str),a=[.ref p]/\gA K H1 p (ss.map V.str)/\ss.length<4000/\(∀l:List Str,l.Nodup->(∀x∈l,x∈ss)->l.length<64)/\
 ∀l:List Str,l.Nodup->(∀x,x∈l↔x∈ss)->sortedS l=true->∀q,H1 q=none->Q (.ref q) (upd H1 q (.lst (l.map V.str)))
theorem SY{L g c:Pos}(n:X.calm=true)(F:X.mg "sorted"=none)(N:X.mg "set"=none)(ha:PA X [e] t)(A9:Gl X "sorted":=by rfl)(C:Gl X "set":=by rfl)
  (he:starEach [e] X.env=(false,eval e X.env)::starEach [] X.env:=by rfl) (l:starEach [.Call (.Name "set" g) [e] [] c] X.env=(false,eval (.Call (.Name "set" g) [e] [] c) X.env)::starEach [] X.env:=by rfl) :
  PE X (.Call (.Name "sorted" L) [.Call (.Name "set" g) [e] [] c] [] pos) (RA X.K t):=by
 intro v s σ H Q I h;show wpAny_Call_Name_kw (tP I A9 F boot_sorted ?_ (by decide) (by decide));show PyProof.Rows.callWith_builtin1 ?_ l rfl;rw[l];show wpAny _ _ (spliced ((false,eval (.Call (.Name "set" g) [e] [] c) X.env)::backTo pos (starEach [] X.env))) _ _ s;show Calls.spliced_cons ?_;show wpAny_Call_Name_kw (tP I C N KS ?_ (by decide) (by decide));show cx (eY (ha c v s σ H _ I h) λus s1 U=>?_) he rfl;obtain⟨vs,H1,i,G,J⟩:=U;obtain⟨p,ss,rfl,O,hn,Dg,q⟩:=J;obtain⟨u,rfl,E⟩:=lG G;cases E;obtain⟨its,D,pl,hz⟩:=i.list O;have P:=Fc D;show SJ (i.ok.hd n) pl.isList P (by have:scanBound=4096:=rfl;ext) λr y es ep tb T j Z=>?_
 have w:Inv X v σ H1 { s1 with heap:=r,toks:=y }:=i.kept λb o e=>Z b o (aF e) e
 show Calls.spliced_nil ?_;have hsz:es.size<64:=by
  have:=Dg (keysOf es) j.nd λx hx=>(j.mem x).mp hx
  simpa[keysOf] using this
 show S0 (s:={ s1 with heap:=r,toks:=y }) T (i.ok.hd n) hsz λpp R d B out S f m z M Y k W=>?_
 have A:f.Nodup:=k.nodup_iff.mpr j.nd;have Dc:f.length<64:=by rw[k.length_eq];simpa[keysOf] using hsz
 have hf:H1 pp=none:=w.eT.fresh m;show⟨.ref pp,upd H1 pp (.lst (f.map V.str)),?_,rfl,q f A (λx=>by rw[k.mem_iff];show j.mem x) W pp hf⟩;have I3:=Inv.laid (t':=B) (Inv.draw w d) (h':=R) (a:=pp) (o:=.lst (f.map V.str)) z m ?_
 .exact I3
 show⟨by rw[ae];have:=EA;ext,out.toList,S,EY Y,?_⟩;rw[Array.toArray_toList];show M
theorem Fm{y c d:Pos}(B:X.calm=true)(u:X.mg "sorted"=none)(z:X.mg "set"=none)(ha:nA X [e] ts)(J:Gl X "sorted":=by rfl)(o:Gl X "set":=by rfl)
  (he:starEach [e] X.env=(false,eval e X.env)::starEach [] X.env:=by rfl) (m:starEach [.Call (.Name "set" c) [e] [] d] X.env=(false,eval (.Call (.Name "set" c) [e] [] d) X.env)::starEach [] X.env:=by rfl) :
  PD X (.Call (.Name "sorted" y) [.Call (.Name "set" c) [e] [] d] [] pos) (fb uq ts):=by
 obtain⟨t,pp,q⟩:=ha;show⟨_,SY B u z pp J o he m,λj σ I D G H Q P E h k=>q j σ I D G H _ _ E h λK L ds M x rs b=>?_⟩;unfold uq at b;split at b
 .split at b
  .rename_i es ss A;obtain⟨v,rfl,f⟩:=mn rs;simp only[Rep] at f;obtain⟨a,xs,rfl,i,g⟩:=f;rw[CM A] at g;rw[CC g] at i;show⟨a,ss,rfl,(x.s.hE i).sq,b.1,b.2.1,λl nd hm so=>?_⟩;show uk x.s (KU l) (b.2.2 l nd hm so) λv C r F n p w=>k v C r F (x.trans n) (p.je x.h) w
  show b.elim
 show b.elim
end
section
variable{X:Cx}{pos:Pos}{e i':Expr}{te ti:TD}
def YC(i:Nat):TX:=λD a=>match gt a i with
 | .ow _=>D.nx (a.set i (.ow []))
 | _=>False
def u5(i:Nat)(te:TD):TX:=λD a=>match gt a i with
 | .ow ds=>te a λr=>match r with
  | .ow es=>ds.length+es.length<=sizeLine/\D.nx (a.set i (.ow (ds++es)))
  | _=>False
 | _=>False
theorem BS(i:Nat){x:Str}{n o c:Pos}(he:PD X e te)(L:X.N[i]?=some x:=by rfl)(I:oR X.env.scope x:=by first | show Or.inl rfl | show Or.inr (Or.inl rfl) | show Or.inr (Or.inr rfl))(hd:(x==("__debug__":Str))=false:=by decide)(C:(x==("__classdict__":Str))=false:=by decide)
  (B:starEach [e] X.env=(false,eval e X.env)::starEach [] X.env:=by rfl)
  (J:∀{m:TE}{t:TA},PE X (.Name x n) m->PA X [e] t->PE X (.Call (.Attribute (.Name x n) "extend" o) [e] [] c) (Ao X.K "list" Jy m t):=by intro m t l j;show yW PySem.F.plainAttrs_list PySem.F.slot_list_extend PySem.F.type_list_extend Sm l j) :
  PX X (.Expr (.Call (.Attribute (.Name x n) "extend" o) [e] [] c) pos) (u5 i te):=by
 obtain⟨t,p,q⟩:=he;show⟨_,Ci (J (pZ L I hd C) (rn p sf B)),λy σ P O G H D E k h g=>?_⟩;unfold u5 at h;split at h
 .rename_i ds s;obtain⟨a,xs,l,j,S,R,u⟩:=k.ow i ds s;show⟨_,l,.inl ⟨rfl,xs,gA.of j⟩,q y σ P O G H _ _ k h λv V r Q d z f=>?_⟩;split at f
  .rename_i es;obtain⟨b,zs,rfl,U,T,M,w⟩:=z;have A:=k.ext d;show⟨a,b,xs,zs,rfl,rfl,d.h _ _ j,M,by rw[u.length,w.length];show f.1,?_⟩;show g.nx _ _ Q _ d.g (A.change s l ((u.mono d.g).append w)) f.2
  show f.elim
 show h.elim
def B6(i:Nat)(ti te:TD):TX:=λD a=>match gt a i with
 | .ow ds=>te a λr=>ti a λrk=>match rk.val with
  | .int k=>∃j,qg ds.length k=some j/\D.nx (a.set i (.ow (ds.set j r.val)))
  | _=>False
 | _=>False
theorem Ry(i:Nat){x:Str}{c b:Pos}(hi:PD X i' ti)(he:PD X e te)(U:X.N[i]?=some x:=by rfl)(Q:oR X.env.scope x:=by first | show Or.inl rfl | show Or.inr (Or.inl rfl) | show Or.inr (Or.inr rfl))(hd:(x==("__debug__":Str))=false:=by decide)(P:(x==("__classdict__":Str))=false:=by decide)
  (ha:∀v,assign (.Subscript (.Name x c) i' b) X.env v=(do
   let ov <-holding [v] (eval (.Name x c) X.env)
   let n <-holding [v,ov] (eval i' X.env)
   standAt b
   holding [v,ov,n] (setItem ov n v)
   release [v,ov,n] []):=by intro _;rfl)
  (R:swapsWithSole [.Subscript (.Name x c) i' b] e pos.line X.env=pure false:=by rfl) (hw:swappedStores [.Subscript (.Name x c) i' b] e X.env=pure none:=by rfl)
  (l:(assignEach [.Subscript (.Name x c) i' b] X.env).map (·.2)=[assign (.Subscript (.Name x c) i' b) X.env]:=by rfl) :
  PX X (.Assign [.Subscript (.Name x c) i' b] e pos) (B6 i ti te):=by
 obtain⟨t,p,q⟩:=he;obtain⟨t2,I,M⟩:=hi;show⟨_,IB p (OH (pZ U Q hd P) I Q9 ha) R hw l,λo σ B A G H D E k h g=>?_⟩;unfold B6 at h;split at h
 .rename_i ds y;obtain⟨a,xs,l,V,h3,h4,z⟩:=k.ow i ds y;show q o σ B A G H _ _ k h λv Y r G' F K S=>?_
  obtain⟨G2,w,J,_⟩:=K.freeze F;show⟨_,l,M o σ B A G2 Y _ _ (k.ext w) S λu H3 rk G3 C L d=>?_⟩;obtain⟨Z,s,m,_⟩:=L.freeze C;split at d
  .rename_i O W;obtain⟨j,T,d⟩:=d;rw[W] at m;simp only[Rep] at m;have f:=w.trans s;show⟨a,xs,O,j,rfl,m,f.h _ _ V,by rw[z.length];show T,?_⟩;show g.nx _ _ Z _ f.g ((k.ext f).change y l ((z.mono f.g).set j (J.mono s.g))) d
  show d.elim
 show h.elim
end
section
variable{κ:Type}[DecidableEq κ]
noncomputable def qv(b:List (κ×V))(k:κ):Option V:=(b.find? λa=>decide (a.1=k)).map (·.2)
noncomputable def o6(b:List (κ×V))(k:κ)(v:V):List (κ×V):=
 if (b.any λa=>decide (a.1=k))=true then b.map (λa=>if a.1=k then(a.1,v) else a) else b++[(k,v)]
theorem Km{p:κ×V}{r:List (κ×V)}{k:κ}(e:p.1=k):qv (p::r) k=some p.2:=by simp[qv,cX,e]
theorem Kl{p:κ×V}{r:List (κ×V)}{k:κ}(e:¬p.1=k):qv (p::r) k=qv r k:=by simp[qv,cX,e]
theorem Ey(k:κ):∀a:List (κ×V),(a.any λb=>decide (b.1=k))=(qv a k).isSome
 | []=>rfl
 | p::r=>by
  rw[cA];by_cases e:p.1=k
  .simp only[Km e,cP e,Bool.true_or,Option.isSome_some]
  rw[Kl e,bh e,Bool.false_or];show Ey k r
theorem Lx(a:List (κ×V))(k:κ)(v:V):(o6 a k v).length<=a.length+1:=by
 unfold o6;split
 .rw[ae];ext
 rw[aD,aG,cW];ext
theorem lh.m7{o:Option V}{u:Option Value}(r:lh o u):o.isSome=u.isSome:=by
 cases o with
 | none=>cases u with
  | none=>rfl
  | some _=>show(show False from r).elim
 | some _=>cases u with
  | none=>show(show False from r).elim
  | some _=>rfl
theorem lh.getD{o:Option V}{u:Option Value}{d:V}{d':Value}(r:lh o u)(a:RelV d d'):RelV (o.getD d) (u.getD d'):=by
 cases o with
 | none=>cases u with
  | none=>show a
  | some _=>show(show False from r).elim
 | some _=>cases u with
  | none=>show(show False from r).elim
  | some _=>show r
theorem KV.any{c:List (κ×V)}{b:List (κ×Value)}(r:KV c b)(k:κ):(c.any λa=>decide (a.1=k))=b.any λa=>decide (a.1=k):=by
 unfold KV at r;induction r with
 | nil=>rfl
 | cons h t d=>rw[cA,cA,d,h.1]
theorem KV.k6{d:List (κ×V)}{c:List (κ×Value)}(r:KV d c)(k:κ){y:V}{u:Value}(f:RelV y u) :
  KV (d.map λa=>if a.1=k then(a.1,y) else a) (c.map λa=>if a.1=k then(a.1,u) else a):=by
 unfold KV at r ⊢;induction r with
 | nil=>show .nil
 | @cons p q ps j h t g=>
  rw[ax,ax];show .cons ?_ g;obtain⟨b,i⟩:=h;by_cases e:p.1=k
  .rw[if_pos e,if_pos (b.symm.trans e)];show⟨b,f⟩
  rw[if_neg e,if_neg (λz=>e (b.trans z))];show⟨b,i⟩
theorem KV.put{c:List (κ×V)}{a:List (κ×Value)}(r:KV c a)(k:κ){y:V}{u:Value}(b:RelV y u):KV (o6 c k y) (stored a k u):=by
 unfold o6 stored;rw[r.any k];by_cases e:(a.any λd=>decide (d.1=k))=true
 .rw[if_pos e,if_pos e];show r.k6 k b
 rw[if_neg e,if_neg e];show Paired.snoc r ⟨rfl,b⟩
theorem KV.length{b:List (κ×V)}{a:List (κ×Value)}(r:KV b a):b.length=a.length:=Paired.length r
end
theorem Ip{P:Program}{w:World}{k:Key}{u:Value}(r:RelV (kV k) u):(mW P w).is k u=true:=by
 cases k with
 | inl i=>obtain⟨t,e⟩:=(show ∃t,u=Value.int i t from r);subst e;show Ur P w i t
 | inr x=>obtain⟨t,e⟩:=(show ∃t,u=Value.str x t from r);subst e;show Uq P w x t
structure M2(X:Cx)(o:Expr)(m:Str)(apos:Pos)(e f:Expr)(gI:Pos):Prop where
 base:attributeBase o m X.env (eval o X.env)=eval o X.env
 oO:((backTo gI (starEach [e,f] X.env)).all (λx=>!x.1)&&(backToKw gI (keywordEach [] X.env)).all (λx=>x.1.isSome)
  && decide (([e,f]:List Expr).length+([]:List Keyword).length+(if ([]:List Keyword).isEmpty then 0 else 1)<30))=true
 line:(apos.endLine==gI.line)=true
 trees:backTo gI (starEach [e,f] X.env)=[(false,eval e X.env),(false,eval f X.env)]
section
variable{P:Program}{w:World}{H:Hp}{h:Heap}{a:Addr}
theorem BO{b:List (Key×V)}{ep:Nat}(ok:jS P w H h)(e:Rd H a (.dK b ep)):b.length<=sizeLine/\(a==sysModules)=false/\∃c,KV b c/\h.DictAt (mW P w) a c ep:=
 show eU P w H h a (.dK b ep) from e.ok ok
theorem Nr{c:List (Key×V)}{ep:Nat}(ok:jS P w H h)(e:Rd H a (.dK c ep)):c.length<=sizeLine/\(a==sysModules)=false/\∃b,KV c b/\h.DictOf (mW P w) a b:=
 let⟨i,g,b,f,d⟩:=BO ok e
 ⟨i,g,b,f,d.dictOf⟩
theorem Nq{b:List (Key×V)}{ep:Nat}(ok:jS P w H h)(e:H a=some (.dK b ep)):b.length<=sizeLine/\(a==sysModules)=false/\∃c,KV b c/\h.DictOf (mW P w) a c:=Nr ok (.inl e)
end
section
variable{X:Cx}{K':List (Addr×Obj)}{σ:St}{H:Hp}{s:Shared}{a:Addr}{y v:V}{u r:Value}{o:Option V}{A:Around}{E:Value->Shared->Prop}
theorem Inv.big(I:Inv X K' σ H s):sysModules<s.heap.objs.size:=by
 have h:mainGlobals<s.heap.objs.size:=(I.mod.glob.keeps I.bk).lt;show Nat.lt_trans (by decide) h
theorem Jc{h':Heap}{t':Nat}{ob:HO}(I:Inv X K' σ H s)(c:Bv (H a))(d:Heap.SameBut a s.heap h')(he:∃q,h'.get? a=some q)(new:eU X.prog X.w (upd H a ob) h' a ob) :
  Inv X K' σ (upd H a ob) { s with heap:=h',toks:=t' }:=
 I.write (x:=a) (e:=a) c (.inl rfl) (λb q f z=>(d.2 b f).trans z) he new
theorem Np{P:Program}{w:World}{h':Heap}{b:List (Key×Value)}(c:h'.DictOf (mW P w) a b):∃ep,h'.DictAt (mW P w) a b ep:=let⟨o,es,ep,r⟩:=c;⟨ep,o,es,r⟩
theorem Pj{P:Program}{w:World}{f:Hp}{h':Heap}{d:List (Key×V)}{b:List (Key×Value)}{ep:Nat}(z:d.length<=sizeLine)(hd:(a==sysModules)=false)(c:KV d b)(e:h'.DictAt (mW P w) a b ep) :
  eU P w f h' a (.dK d ep):=⟨z,hd,b,c,e⟩
theorem RY{b:List (Key×V)}{ep:Nat}{k:Key}{Q:Unit->Shared->Prop}(I:Inv X K' σ H s)(e:H a=some (.dK b ep))(l:b.length<sizeLine)(i:RelV (kV k) u)(j:RelV v r)(h:∀d c,Inv X K' σ (upd H a (.dK (o6 b k v) c)) d->Q () d) :
  wpAny (model X.prog X.w) A (setItem (.ref a) u r) Q E s:=by
 obtain⟨z,hd,g,rel,p⟩:=Nq I.eT e;have hz:g.length<=sizeLine:=by rw[<-rel.length];show z
 have o:(o6 b k v).length<=sizeLine:=by have:=Lx b k v;ext
 show wpAny_setItem_pairs (hsz:=hz) (Ip i) p λh' f m=>?_
 have he:∃q,h'.get? a=some q:=let⟨q,_,_,n,_⟩:=f;⟨q,n⟩
 obtain⟨c,t⟩:=Np f;show h _ c (Jc I (by rw[e];show True.intro) m he (Pj o hd (rel.put k j) t))
end
def Nn(e ty d:TE):TS:=λD σ H=>d σ H λv H1=>e σ H1 λx g=>ty σ g λy c=>∃a b ep k,x=.ref a/\c a=some (.dK b ep)/\y=kV k/\b.length<sizeLine/\∀f,D.nx σ (upd c a (.dK (o6 b k v) f))
section
variable{X:Cx}{o i e value:Expr}{pos pos' ot:Pos}{td ty tv:TE}
theorem Qf(w:PE X o td)(hi:PE X i ty)(q:PE X value tv)(t:swapsWith value (some (.Subscript o i pos')) pos.line X.env=pure false) :
  PS X (.Assign [.Subscript o i pos'] value pos) (Nn td ty tv):=by
 intro c s σ H D I h;show wpAny_Assign_Subscript (eY (q c s σ H _ I h) λr s1 b=>?_) t;obtain⟨v,H1,E,f,n⟩:=b;show eY (w c s1 σ H1 _ E n) λu s2 b=>?_
 obtain⟨x,F,C,e,m⟩:=b;show eY (hi c s2 σ F _ C m) λG s3 b=>?_
 obtain⟨y,K,B,d,a,J,ep,k,ex,g,z,l,j⟩:=b;subst ex z;obtain rfl:u=Value.ref a:=e;show RY B g l d f λs4 p A=>⟨σ,_,A,j p⟩
theorem Rx{P:Program}{w:World}{H:Hp}(h:Heap)(a:sysModules<h.objs.size):eU P w H (h.push { cls:=.type "dict",data:=.dict #[] }) h.objs.size (.dK [] 0):=
 ⟨aZ _,cI.mpr (Ne.symm (aJ a)),[],.nil,_,#[],az _ rfl,⟨rfl,rfl,rfl⟩,rfl,λ_ he=>by simp at he,Pairs.nil,List.nodup_nil⟩
def Ph:TE:=λ_ H Q=>∀p,H p=none->Q (.ref p) (upd H p (.dK [] 0))
theorem Rw:PE X (.Dict [] [] pos) Ph:=λb s σ H Q I h=>
 wpAny_Dict_empty ⟨.ref s.heap.objs.size,_,I.laid (a:=s.heap.objs.size) (o:=.dK [] 0) (t':=s.toks) (λ_ _ q=>aj _ q) (ay _) (Rx s.heap I.big),rfl,h _ (I.eT.fresh (ay _))⟩
end
end L2
namespace PySem
open Sem (wp)
end PySem
namespace L2
open PySem PySem.Spec PyProof.Rows
noncomputable def u4:D->Option Key
 | .int i=>some (.inl i)
 | .str x=>some (.inr x)
 | _=>none
noncomputable def BB:Key->D
 | .inl i=>.int i
 | .inr x=>.str x
theorem Kk{K:J'}{G:Hp}{v:V}{d:D}{k:Key}(r:Rep K G v d)(h:u4 d=some k):v=kV k:=by
 cases d<;>simp only[u4,aB,reduceCtorEq] at h<;>subst h<;>simp only[Rep] at r<;>subst r<;>rfl
noncomputable def look(b:List (Key×D))(k:Key):Option D:=(b.find? λa=>decide (a.1=k)).map (·.2)
noncomputable def yP(b:List (Key×D))(k:Key)(d:D):List (Key×D):=
 if (b.any λa=>decide (a.1=k))=true then b.map (λa=>if a.1=k then(a.1,d) else a) else b++[(k,d)]
section
variable{K:J'}{G:Hp}
theorem eu.length:∀{c:List (Key×V)}{d:List (Key×D)},eu K G c d->c.length=d.length
 | [],[],_=>rfl
 | a::c,b::d,h=>by
  simp only[eu] at h;simp only[aG,eu.length h.2]
 | [],_::_,h=>by simp only[eu] at h
 | _::_,[],h=>by simp only[eu] at h
theorem eu.nil:eu K G [] []:=by simp only[eu]
theorem eu.any(k:Key):∀{d:List (Key×V)}{e:List (Key×D)},eu K G d e->(d.any λc=>decide (c.1=k))=e.any λc=>decide (c.1=k)
 | [],[],_=>rfl
 | a::d,b::e,h=>by
  simp only[eu] at h;rw[cA,cA,h.1.1,eu.any k h.2]
 | [],_::_,h=>by simp only[eu] at h
 | _::_,[],h=>by simp only[eu] at h
theorem eu.snoc{k:Key}{v:V}{d:D}(r:Rep K G v d):∀{c:List (Key×V)}{e:List (Key×D)},eu K G c e->eu K G (c++[(k,v)]) (e++[(k,d)])
 | [],[],_=>by simp only[List.nil_append,eu];show⟨⟨trivial,r⟩,trivial⟩
 | a::c,b::e,h=>by
  simp only[eu] at h;simp only[cq,eu];show⟨h.1,eu.snoc r h.2⟩
 | [],_::_,h=>by simp only[eu] at h
 | _::_,[],h=>by simp only[eu] at h
theorem eu.k6{k:Key}{v:V}{d:D}(r:Rep K G v d):∀{e:List (Key×V)}{f:List (Key×D)},eu K G e f->eu K G (e.map λc=>if c.1=k then(c.1,v) else c) (f.map λc=>if c.1=k then(c.1,d) else c)
 | [],[],_=>by simp only[bV,eu]
 | a::e,b::f,h=>by
  simp only[eu] at h;simp only[ax,eu];show⟨?_,eu.k6 r h.2⟩;rw[h.1.1];split
  .exact⟨rfl,r⟩
  show⟨h.1.1,h.1.2⟩
 | [],_::_,h=>by simp only[eu] at h
 | _::_,[],h=>by simp only[eu] at h
theorem eu.put{a:List (Key×V)}{b:List (Key×D)}{k:Key}{v:V}{d:D}(h:eu K G a b)(r:Rep K G v d):eu K G (o6 a k v) (yP b k d):=by
 unfold o6 yP;rw[h.any k];split
 .exact h.k6 r
 show h.snoc r
end
section
variable{X:Cx}{pos:Pos}{e i':Expr}{te ti tv:TD}
def yS:TD:=λ_ Q=>Q (.ov (.dc []))
theorem Qe:PD X (.Dict [] [] pos) yS:=by
 show⟨_,Rw,λb σ f c G H Q P E h k=>λd hd=>?_⟩;show k _ _ (.ov (.dc [])) G (.own E.e.s hd) ⟨d,[],rfl,by simp,⟨rfl,[],0,i7,eu.nil⟩,λq a=>?_⟩ h;simp only[bp] at a;subst a;show⟨hd,E.e.s.free hd⟩
def Nm(i:Nat)(ti:TD):TD:=λa Q=>match gt a i with
 | .ov (.dc b)=>ti a λrk=>∃k d,u4 rk.val=some k/\look b k=some d/\Q (.fz d)
 | _=>False
def vQ(i:Nat)(ti tv:TD):TX:=λD a=>match gt a i with
 | .ov (.dc b)=>tv a λr=>ti a λrk=>∃k,u4 rk.val=some k/\b.length<sizeLine/\D.nx (a.set i (.ov (.dc (yP b k r.val))))
 | _=>False
theorem Oa(hu:X.A.units+64<cLine)(i:Nat){x:Str}{o n:Pos}(hi:PD X i' ti)(he:PD X e tv)(hN:X.N[i]?=some x:=by rfl)(V:oR X.env.scope x:=by first | show Or.inl rfl | show Or.inr (Or.inl rfl) | show Or.inr (Or.inr rfl))(hd:(x==("__debug__":Str))=false:=by decide)(U:(x==("__classdict__":Str))=false:=by decide)
  (W:swapsWith e (some (.Subscript (.Name x o) i' n)) pos.line X.env=pure false:=by rfl) :
  PX X (.Assign [.Subscript (.Name x o) i' n] e pos) (vQ i ti tv):=by
 obtain⟨t,p,q⟩:=he;obtain⟨t2,K,Q⟩:=hi;show⟨_,Qf (pZ hN V hd U) K p W,λj σ C B G H D E k h g=>?_⟩;unfold vQ at h;split at h
 .rename_i di w;obtain⟨own,o1,S⟩:=k.on;obtain⟨a,fp,y,b2,⟨rfl,s,ep,ha,Au⟩,b4⟩:=S i _ w;show q j σ C B G H _ _ k h λv H' r G' J O d=>?_
  obtain⟨G2,m,M,_⟩:=O.freeze J;show⟨_,y,Q j σ C B G2 H' _ _ (k.ext m) d λu H3 rk G3 I P f=>?_⟩;obtain⟨G4,l,R,_⟩:=P.freeze I;obtain⟨key,Y,hlen,f⟩:=f;have c:=m.trans l;show⟨a,s,ep,key,rfl,c.h _ _ ha,Kk R Y,by rw[Au.length];show hlen,λT=>?_⟩;show g.nx _ _ G4 _ c.g ((k.ext c).nz w y λfp nd ow=>?_) f;obtain⟨rfl,C3,MY,F,L⟩:=ow;have e1:C3=s:=by
   have:=(c.h _ _ ha).symm.trans F;injection this with this
   injection this with this
   show this.symm
  subst e1;show⟨[],by simp,⟨rfl,_,T,i7,L.put (M.mono l.g)⟩,λq d=>.inl d,λb Z _=>fI λz=>Z (by simp[z])⟩
 show h.elim
def uc(i:Nat):TX:=λD a=>match gt a i with
 | .ov o=>D.rt (.ov o)
 | _=>False
theorem D9(i:Nat){x:Str}{d:Pos}(n:X.N[i]?=some x:=by rfl)(l:oR X.env.scope x:=by first | show Or.inl rfl | show Or.inr (Or.inl rfl) | show Or.inr (Or.inr rfl))(hd:(x==("__debug__":Str))=false:=by decide)
  (j:(x==("__classdict__":Str))=false:=by decide):PX X (.Return (some (.Name x d)) pos) (uc i):=by
 show⟨_,D7 (pZ n l hd j),λt σ w v G H D E k h g=>?_⟩;unfold uc at h;split at h
 .rename_i o m;obtain⟨own,u,f⟩:=k.on;obtain⟨a,fp,s,r,p,c⟩:=f i _ m;show⟨_,s,g.rt _ H (.ov o) G k.e ⟨a,fp,rfl,r,p,λq b=>⟨(c q b).2.1,(c q b).1⟩⟩ h⟩
 show h.elim
end
section
variable{K:J'}{G H:Hp}
theorem eA.length:∀{a:List Addr}{b:List (List D)},eA K G H a b->a.length=b.length
 | [],[],_=>rfl
 | q::a,ds::b,h=>by
  simp only[eA] at h;simp only[aG,eA.length h.2]
 | [],_::_,h=>by simp only[eA] at h
 | _::_,[],h=>by simp only[eA] at h
theorem eA.snoc{p:Addr}{ds:List D}{a:List V}:∀{b:List Addr}{e:List (List D)},eA K G H b e->H p=some (.lst a)->c9 K G a ds->eA K G H (b++[p]) (e++[ds])
 | [],[],_,d,c=>by simp only[List.nil_append,eA];show⟨⟨a,d,c⟩,trivial⟩
 | q::b,es::e,h,d,c=>by
  simp only[eA] at h;simp only[cq,eA];show⟨h.1,eA.snoc h.2 d c⟩
 | [],_::_,h,_,_=>by simp only[eA] at h
 | _::_,[],h,_,_=>by simp only[eA] at h
theorem eA.get:∀{a:List Addr}{b:List (List D)}{j:Nat}{ds:List D},eA K G H a b->b[j]?=some ds->∃q xs,a[j]?=some q/\H q=some (.lst xs)/\c9 K G xs ds
 | [],[],j,ds,_,e=>by simp at e
 | q::a,es::b,0,ds,h,e=>by
  simp only[eA] at h;simp only[bZ,aB] at e;subst e;obtain⟨⟨xs,d,c⟩,_⟩:=h;show⟨q,xs,rfl,d,c⟩
 | q::a,es::b,j+1,ds,h,e=>by
  simp only[eA] at h;simp only[bO] at e ⊢;show eA.get h.2 e
 | [],_::_,_,_,h,_=>by simp only[eA] at h
 | _::_,[],_,_,h,_=>by simp only[eA] at h
theorem eA.set{q:Addr}{ys:List V}{es:List D}(c:c9 K G ys es):∀{a:List Addr}{b:List (List D)}{j:Nat},eA K G H a b->a.Nodup->a[j]?=some q->eA K G (upd H q (.lst ys)) a (b.set j es)
 | [],[],j,_,_,e=>by simp at e
 | r::a,ds::b,0,h,nd,e=>by
  simp only[eA] at h;simp only[bZ,aB] at e;subst e;simp only[List.set_cons_zero,eA];show⟨⟨ys,i7,c⟩,h.2.mono (dU.refl _) λp d xs e=>?_⟩;rw[fI (λz:p=r=>(cj.mp nd).1 (z▸d))];show e
 | r::a,ds::b,j+1,h,nd,e=>by
  simp only[eA] at h;simp only[bO] at e;simp only[List.set_cons_succ,eA];show⟨?_,eA.set c h.2 (cj.mp nd).2 e⟩;obtain⟨⟨xs,g,f⟩,_⟩:=h;show⟨xs,?_,f⟩;rw[fI (λz:r=q=>(cj.mp nd).1 (z▸aL e))];show g
 | [],_::_,_,h,_,_=>by simp only[eA] at h
 | _::_,[],_,h,_,_=>by simp only[eA] at h
end
def y8(f:lC)(m:List (Option Nat))(g:jN)(tc:ki)(te:TD):TD:=λc Q=>f c λds=>∃a:Nat->List (List D)->Prop,a 0 []/\
 (∀i d acc,ds[i]?=some d->a i acc->g d (iG m c) λe=>tc e λb=>if b=true then te e λr=>match r with
  | .ow es=>acc.length<sizeLine/\a (i+1) (acc++[es])
  | _=>False
  else a (i+1) acc)/\∀acc,a ds.length acc->Q (.ov (.ll acc))
section
variable{X:Cx}{elt iter tg:Expr}{ifs:List Expr}{scope:Scope}{pos:Pos}{N':List Str}{m:List (Option Nat)}{wi:lC}{g:jN}{tc:ki}{te:TD}
theorem Rv(cs:eS X N' m scope)(hk:rm m g){ww:TI}{gg:rR TG}{Al:rR TT}{N:rR TE}
  (q1:∀(r:Ev)(σ:St)(x w G H:Hp)(Q:List D->Prop)(P:It->Hp->Prop),fm X.K x w r σ G H->wi r Q->(∀J t ds l,Ext G H l t->tJ X.K J l ds->Q ds->P J t)->ww σ H P)
  (q2:∀s3 y ex (r:Ev) (σ:St) (x w G H:Hp) (d:D) (v:V) (Q:Ev->Prop) (P:St->Hp->Prop),fm X.K x w r σ G H->Rep X.K G v d->g d r Q->(∀ρ' I l t,fm X.K x w ρ' I l t->Ext G H l t->Q ρ'->P I t)->gg s3 y ex v σ H P)
  (q3:∀s3 y ex (r:Ev) (σ:St) (x w G H:Hp) (Q:Bool->Prop) (P:Bool->Hp->Prop),fm X.K x w r σ G H->tc r Q->(∀b t l,Ext G H l t->Q b->P b t)->Al s3 y ex σ H P)
  (q4:∀s3 y ex,rS X.K te (N s3 y ex)):rS X.K (y8 wi m g tc te) (yV ww m gg Al N):=by
 show λr σ x w G H Q P E h k=>q1 r σ x w G H _ _ E h λJ H1 ds u C wk f=>?_
 obtain⟨Iv,i0,turn,fin⟩:=f;intro D Y s3 ex;have E1:=E.ext C;have Hr:u D=none:=C.s.free Y;have F:∀{i:Nat}{es:List L2.D},gt (iG m r) i=.ow es->False:=λ{i es} h=>by
  unfold iG at h;rw[tO] at h;split at h
  .rename_i o _;unfold qZ at h;split at h
   .cases h
   split at h<;>cases h
  cases h
 have sJ:∀{i:Nat}{o:OV},gt (iG m r) i=.ov o->False:=λ{i o} h=>by
  unfold iG at h;rw[tO] at h;split at h
  .rename_i o _;unfold qZ at h;split at h
   .cases h
   split at h<;>cases h
  cases h
 have mF:fm X.K u H1 (iG m r) (sO m σ) u (upd H1 D (.lst [])):=by
  show⟨.own C.s Y,by simp[sO,iG],λi d h=>?_,λi es h=>(F h).elim,λi j es fs _ h=>(F h).elim,λ_=>none,λi es _ h=>(F h).elim,λi o h=>(sJ h).elim⟩;unfold iG at h;rw[tO] at h;split at h
  .rename_i o ho;unfold qZ at h;split at h
   .cases h
   rename_i j;split at h
   .rename_i d' sV;cases h;obtain⟨v,hv,rv⟩:=E1.fz j d sV;show⟨v,?_,rv⟩;unfold sO;rw[aI,ho];simp[hv]
   cases h
  cases h
 show⟨λi n I t=>n=ds.length-i/\i<=ds.length/\∃acc fp l,fm X.K u H1 (iG m r) I l t/\t D=some (.lst (fp.map V.ref))/\l D=none/\eA X.K l t fp acc/\(D::fp).Nodup/\(∀q∈fp,H1 q=none/\l q=none)/\Iv i acc,
  ⟨ds.length,by simp,aZ _,[],[],u,mF,i7,Hr,by simp only[eA],by simp,λq f=>(by cases f),i0⟩,?_⟩
 rintro i n I t ⟨rfl,hi,acc,fp,l,M,hx,Ba,rx,nd,fr,iv⟩;by_cases eR:i<ds.length
 .obtain⟨w1,w2⟩:=wk;obtain⟨go,yl⟩:=w1 i ds[i] l t (ah eR) M.e.g M.e.s;show .inr ⟨go,λmT A=>∃acc fp l,fm X.K u H1 (iG m r) mT l A/\A D=some (.lst (fp.map V.ref))/\l D=none/\eA X.K l A fp acc/\(D::fp).Nodup/\(∀q∈fp,H1 q=none/\l q=none)/\Iv (i+1) acc,λmT A h2=>⟨ds.length-(i+1),by ext,rfl,eR,h2⟩,λv A hy=>?_⟩;obtain⟨G2,x2,rv⟩:=yl v A hy;show q2 _ _ _ (iG m r) I u H1 G2 A ds[i] v _ _ (M.ext x2) rv (hk _ _ _ (turn i ds[i] acc (ah eR) iv)) λt6 m8 G3 y E3 x3 hJ=>?_
  obtain⟨hJ,GY,yy⟩:=hJ;have weak:∀j,gt (iG m r) j=.un\/gt (iG m r) j=gt t6 j:=λj=>by
   cases hm:m[j]? with
   | none=>left;unfold iG;rw[tO,hm]
   | some o=>
    cases o with
    | none=>left;unfold iG;rw[tO,hm];rfl
    | some c=>right;show(yy j c hm).symm
  have FV:=x2.trans x3;show q3 _ _ _ t6 m8 u H1 G3 y _ _ E3 hJ λb H4 S x4 U=>?_
  have R:=FV.trans x4;have E4:=(E3.ext x4).weak (ρ':=iG m r) (GY.symm) weak;have T:H4 D=some (.lst (fp.map V.ref)):=R.h _ _ hx;have A8:S D=none:=R.n D Ba (by rw[hx];show nofun);have O:eA X.K S H4 fp acc:=rx.mono R.g λq _ zs e=>R.h _ _ e
  have Z:∀q∈fp,H1 q=none/\S q=none:=λq f=>⟨(fr q f).1,R.n q (fr q f).2 (rx.here q f)⟩
  cases b with
  | false=>
   rw[if_neg aY] at U ⊢;show⟨acc,fp,S,E4,T,A8,O,nd,Z,U⟩
  | true=>
   rw[if_pos rfl] at U ⊢;show q4 _ _ _ t6 m8 u H1 S H4 _ _ (E3.ext x4) U λv5 H5 r5 G5 B F8 W=>?_
   split at W
   .rename_i es;obtain⟨p,zs,rfl,c1,c2,c3,c4⟩:=F8;have L:=E4.ext B;have GB:H5 D=some (.lst (fp.map V.ref)):=B.h _ _ T;have A7:G5 D=none:=B.n D A8 (by rw[T];show nofun);have Ms:p≠D:=λz=>by rw[z,T] at c1;cases c1
    have XJ:p∉fp:=λz=>O.here p z c1
    have Yd:D∉fp:=λz=>(cj.mp nd).1 z
    have r6:eA X.K G5 (upd H5 D (.lst ((fp++[p]).map V.ref))) (fp++[p]) (acc++[es]):=by
     show eA.snoc (O.mono B.g λq f ys e=>?_) ?_ c4
     .rw[fI (λz:q=D=>Yd (z▸f))];show B.h _ _ e
     rw[fI Ms];show c3
    show⟨fp.map V.ref,GB,by rw[ae,O.length];show W.1,acc++[es],fp++[p],G5,?_,by rw[show fp.map V.ref++[V.ref p]=(fp++[p]).map V.ref by simp];show i7,A7,by rw[show fp.map V.ref++[V.ref p]=(fp++[p]).map V.ref by simp];show r6,?_,λq f=>?_,W.2⟩
    .refine⟨⟨L.e.g,λb o e=>by rw[fI (lI e Y)];show L.e.h b o e,λb o e=>by rw[fI (lI e A7)];show L.e.s b o e,L.e.n⟩,L.len,L.fz,λi es h=>(F h).elim,λi j es fs _ h=>(F h).elim,λ_=>none,λi es _ h=>(F h).elim,λi o h=>(sJ h).elim⟩
    .rw[cj] at nd ⊢;show⟨λz=>?_,?_⟩
     .rcases au.mp z with z | z
      .exact nd.1 z
      simp at z;show Ms z.symm
     rw[List.nodup_append];show⟨nd.2,by simp,λa ha b hb=>?_⟩;simp at hb;subst hb;show λz=>XJ (z▸ha)
    rcases au.mp f with f | f
    .exact⟨(Z q f).1,B.n q (Z q f).2 (O.here q f)⟩
    simp at f;subst f;show⟨E4.e.h.free c1,c2⟩
   show W.elim
 have e:i=ds.length:=by ext
 subst e;show .inl ⟨wk.2 l t M.e.g M.e.s,k _ t (.ov (.ll acc)) l (C.trans M.e) ⟨D,fp,rfl,nd,⟨hx,rx⟩,λq f=>?_⟩ (fin acc iv)⟩;rcases av.mp f with rfl | f
 .exact⟨C.h.free Y,Ba⟩
 show⟨C.h.free (fr q f).1,(fr q f).2⟩
theorem Ru(j:X.calm=true)(d:eS X N' m scope)(i:rm m g)(hi:PId X tg iter wi)(c:∀s3 a ex,tH (jM X N' scope s3 a ex) tg g)(b:∀s3 a ex,xt (jM X N' scope s3 a ex) ifs tc)
  (he:∀s3 a ex,PD (jM X N' scope s3 a ex) elt te) (h:∀x,foldedSetIterable iter X.env x=pure x:=by intro _;rfl):PD X (.ListComp elt [⟨tg,iter,ifs,0⟩] scope pos) (y8 wi m g tc te):=by
 obtain⟨ww,f,e⟩:=hi;show⟨_,Jw (g:=λs3 a ex=>(c s3 a ex).choose) (tc:=λs3 a ex=>(b s3 a ex).choose) (te:=λs3 a ex=>(he s3 a ex).choose) j d f (λs3 a ex=>(c s3 a ex).choose_spec.1) (λs3 a ex=>(b s3 a ex).choose_spec.1) (λs3 a ex=>(he s3 a ex).choose_spec.1) h,
  Rv d i e (λs3 a ex=>(c s3 a ex).choose_spec.2) (λs3 a ex=>(b s3 a ex).choose_spec.2) (λs3 a ex=>(he s3 a ex).choose_spec.2)⟩
end
section
variable{X:Cx}{pos:Pos}{e i':Expr}{te ti:TD}
def BN(i:Nat)(ti te:TD):TX:=λD a=>match gt a i with
 | .ov (.ll b)=>ti a λrk=>match rk.val with
  | .int k=>∃j ds,qg b.length k=some j/\b[j]?=some ds/\te a λr=>ds.length<sizeLine/\D.nx (a.set i (.ov (.ll (b.set j (ds++[r.val])))))
  | _=>False
 | _=>False
theorem Qd(i:Nat){x:Str}{w s I c:Pos}(hi:PD X i' ti)(he:PD X e te)(hN:X.N[i]?=some x:=by rfl)(hv:oR X.env.scope x:=by first | show Or.inl rfl | show Or.inr (Or.inl rfl) | show Or.inr (Or.inr rfl))(hd:(x==("__debug__":Str))=false:=by decide)
  (iN:(x==("__classdict__":Str))=false:=by decide) (XI:Cg i':=by intro _ _;rfl) (jm:starEach [e] X.env=(false,eval e X.env)::starEach [] X.env:=by rfl)
  (y:∀{m:TE}{t:TA},PE X (.Subscript (.Name x w) i' s) m->PA X [e] t->PE X (.Call (.Attribute (.Subscript (.Name x w) i' s) "append" I) [e] [] c) (Ao X.K "list" Eg m t):=by intro m t h1 h2;show yW PySem.F.plainAttrs_list PySem.F.slot_list_append PySem.F.type_list_append EU h1 h2) :
  PX X (.Expr (.Call (.Attribute (.Subscript (.Name x w) i' s) "append" I) [e] [] c) pos) (BN i ti te):=by
 obtain⟨t,p,q⟩:=he;obtain⟨t2,wH,q2⟩:=hi;show⟨_,Ci (y (DM qf (pZ hN hv hd iN) wH XI) (rn p sf jm)),λA σ U S G H D E k h g=>?_⟩;unfold BN at h;split at h
 .rename_i fH M;obtain⟨own,o1,o2⟩:=k.on;obtain⟨a,fp,R,b2,⟨ha,L⟩,b4⟩:=o2 i _ M;show⟨_,R,q2 A σ U S G H _ _ k h λu H1 rk G1 x1 F9 d=>?_⟩;obtain⟨G2,l,o,_⟩:=F9.freeze x1;split at d
  .rename_i J e1;obtain⟨j,ds,hj,W,d⟩:=d;rw[e1] at o;simp only[Rep] at o;obtain⟨n,xs,c1,Q,P⟩:=L.get W;have oM:fK (fp.map V.ref) J=some (.ref n):=by
    unfold fK;rw[ae,L.length,hj];simp[c1]
   show⟨a,fp.map V.ref,J,_,rfl,o,gA.of (l.h _ _ ha),oM,.inl ⟨rfl,xs,gA.of (l.h _ _ Q)⟩,?_⟩;show q A σ U S G2 H1 _ _ (k.ext l) d λv H3 r G3 Z qJ O=>?_
   obtain⟨G4,Y,oC,_⟩:=qJ.freeze Z;have f:=l.trans Y;show⟨n,xs,v,rfl,rfl,f.h _ _ Q,by rw[P.length];show O.1,?_⟩;show g.nx _ _ G4 _ f.g ((k.ext f).nz M R λC nd ow=>?_) O.2;obtain⟨B,qN⟩:=ow;have e3:C=fp:=by
    have:=(f.h _ _ ha).symm.trans B;injection this with this
    injection this with this
    show((List.map_inj_right λa b h=>by cases h;rfl).mp this).symm
   subst e3;have T:=cj.mp nd;show⟨C,nd,⟨?_,qN.set ((P.mono f.g).append (c9.cons oC c9.nil)) T.2 c1⟩,λq hq=>.inl hq,λb y _=>fI λz=>y (by rw[z];show aK _ (aL c1))⟩;rw[fI (λz:a=n=>T.1 (z▸aL c1))];show B
  show d.elim
 show h.elim
end
noncomputable def Ih:R->Bool
 | .fz d=>ud d
 | .ow ds=>ds.all ud
 | .ov (.dc a)=>a.all λp=>ud p.2
 | _=>false
def B5(i:Nat)(te:TD):TD:=λa Q=>te (mN i a) λr=>Ih r=true/\Q r
theorem KJ{K:J'}{G b:Hp}:∀{a:List V}{ds:List D},ds.all ud=true->c9 K G a ds->c9 K b a ds
 | [],[],_,_=>c9.nil
 | v::a,d::ds,h,r=>by
  simp only[c9] at r;rw[List.all_cons,bY] at h;show c9.cons (CB h.1 r.1) (KJ h.2 r.2)
 | [],_::_,_,r=>by simp only[c9] at r
 | _::_,[],_,r=>by simp only[c9] at r
theorem La{K:J'}{G c:Hp}:∀{b:List (Key×V)}{a:List (Key×D)},(a.all λp=>ud p.2)=true->eu K G b a->eu K c b a
 | [],[],_,_=>eu.nil
 | v::e,d::ds,h,r=>by
  simp only[eu] at r ⊢;rw[List.all_cons,bY] at h;show⟨⟨r.1.1,CB h.1 r.1.2⟩,La h.2 r.2⟩
 | [],_::_,_,r=>by simp only[eu] at r
 | _::_,[],_,r=>by simp only[eu] at r
theorem Qc{K:J'}{te:TD}{j:TE}(i:Nat)(q:rS K te j):rS K (B5 i te) j:=by
 intro z σ u s G H Q P E h k;obtain⟨L,n,y,_⟩:=E.nk i;show q _ σ u s _ H _ _ y h λv t r w x e b=>?_
 have l:=JR n x;show k v t r (vM w L) l ?_ b.2;have a:=b.1;cases r with
 | fz d=>show CB a e
 | ow ds=>
  obtain⟨p,xs,rfl,c1,g,f,c⟩:=e;show⟨p,xs,rfl,c1,?_,f,KJ a c⟩;unfold vM;split
  .rfl
  show g
 | ov o=>
  cases o with
  | dc A=>
   obtain⟨p,fp,rfl,c1,⟨rfl,m,ep,g,f⟩,c⟩:=e;show⟨p,[],rfl,c1,⟨rfl,m,ep,g,La a f⟩,λq b=>⟨(c q b).1,?_⟩⟩;unfold vM;split
   .rfl
   show(c q b).2
  | ll=>cases a
  | dl=>cases a
  | tl=>cases a
  | ld=>cases a
  | dt=>cases a
  | tp=>cases a
  | ob=>cases a
  | dq=>cases a
section
variable{X:Cx}{elt iter tg:Expr}{ifs:List Expr}{scope:Scope}{pos:Pos}{N':List Str}{m:List (Option Nat)}{wi:lC}{g:jN}{tc:ki}{te:TD}
theorem Rt(j i:Nat){x:Str}{b e:Pos}(z:X.calm=true)(f:eS X N' m scope)(w:rm m g)(hi:PId X tg iter wi)(d:∀s3 a ex,tH (jM X N' scope s3 a ex) tg g)(c:∀s3 a ex,xt (jM X N' scope s3 a ex) ifs tc)
  (he:∀s3 a ex,PD (jM X N' scope s3 a ex) elt te) (A:X.N.Nodup:=by assumption) (n:X.N[i]?=some x:=by rfl) (hx:Loc X.env.scope x:=by first | show Or.inl rfl | show Or.inr rfl) (t:∀x,foldedSetIterable iter X.env x=pure x:=by intro _;rfl)
  (o:swapsWith (.ListComp elt [⟨tg,iter,ifs,0⟩] scope pos) (some (.Name x b)) e.line X.env=pure true:=by rfl)
  (y:X.fn x=true\/X.env.scope.names.lookup x=some .local:=by first | show .inl rfl | show .inr rfl | assumption) :
  PX X (.Assign [.Name x b] (.ListComp elt [⟨tg,iter,ifs,0⟩] scope pos) e) (jJ i (B5 j (gr wi m g tc te))):=by
 obtain⟨ww,s,q⟩:=hi;show⟨_,Ef (g:=λs3 a ex=>(d s3 a ex).choose) (tc:=λs3 a ex=>(c s3 a ex).choose) (te:=λs3 a ex=>(he s3 a ex).choose) A n hx z f s (λs3 a ex=>(d s3 a ex).choose_spec.1) (λs3 a ex=>(c s3 a ex).choose_spec.1) (λs3 a ex=>(he s3 a ex).choose_spec.1) t o y,λl σ I C G H D E k h B=>?_⟩;show Qc j (Cc f w q (λs3 a ex=>(d s3 a ex).choose_spec.2) (λs3 a ex=>(c s3 a ex).choose_spec.2) (λs3 a ex=>(he s3 a ex).choose_spec.2)) l σ I C G H _ _ k h λv F r J x p u=>B.nx _ _ J F x.g (k.put x p) u
end
section
variable{X:Cx}{pos:Pos}{e i':Expr}{te ti:TD}
noncomputable def pairsOf:List D->Option (List (Key×D))
 | []=>some []
 | .tup [k,v]::r=>match u4 k with
  | some key=>(pairsOf r).map ((key,v)::·)
  | none=>none
 | _=>none
end
theorem Qb{P:Program}{w:World}{k:Key}{u:Value}(h:(mW P w).is k u=true):RelV (kV k) u:=by
 rcases tU (show vS k u=true from h) with⟨i,t,rfl,rfl⟩ | ⟨i,t,rfl,rfl⟩
 .exact⟨t,rfl⟩
 show⟨t,rfl⟩
section
variable{X:Cx}{tg:Expr}
theorem Qa{K:J'}{G:Hp}(k:Key):Rep K G (kV k) (BB k):=by
 cases k<;>simp only[BB,Rep]<;>rfl
end
end L2
namespace HT
open PySem PyProof.Rows
noncomputable def eH:List Int->List Int->Bool
 | [],[]=>false
 | [],_::_=>false
 | _::_,[]=>true
 | x::xs,y::ys=>if x=y then eH xs ys else decide (y<x)
end HT
namespace L2
open PySem PySem.Spec PyProof.Rows
section
variable{prog:Program}{w:World}{A:Around}{Rz:Result->Shared->Prop}{I:Addr}{fp wr:List Addr}{n:Nat}{P:Nat->Value->Prop}{St:Nat->Heap->Prop}{Hk:Heap->Prop}
theorem B9:(toString "max"++toString ".loop":String)="max.loop":=by decide
theorem P9(W:Walks prog w A.in1 I fp wr 0 P St)(S:Addr)(a:S∉fp)(d:Value){z:Shared}{c:Nat}(st:St 0 z.heap)(f:z.heap.get? S=some { cls:=.type "list",dict:=none,data:=.seq #[] c,slots:=#[] })
  (fin:∀h' tk,(∀b o,b∉wr->z.heap.get? b=some o->h'.get? b=some o)->Rz (.ok (.ret d)) { z with heap:=h',toks:=tk }) :
  codeAny (model prog w) A (.builtin "max.loop" ⟨[.ref I,.none,.ref S],[("default",d)]⟩) Rz z:=by
 show cR F.entry_max_loop ?_;rw[cg F.plain_max_loop _];show wpAny _ A.in1 (seqItems? (.ref S) >>= _) _ _ z;show aa (wpAny_seqItems f rfl ?_);show wpAny _ A.in1 (tryCatch (pyNext (.ref I)) _ >>= _) _ _ z;show aa (wpAny_tryCatch (W.done z _ _ st λe tk kp=>?_));show aa (wpAny_rule (ao (fin e tk kp)))
end
section
variable{prog:Program}{w:World}{A:Around}{E:Value->Shared->Prop}{s:Shared}
theorem UJ{a:String}{b:Builtin}{args:List Value}{d:List (Str×Value)}{Q:Value->Shared->Prop}(j:builtinKind a=none)(i:plainId a=true)(k:entryFor table a=some b)(ha:argsOk a ⟨args,d⟩)
  (g:wpAny (model prog w) A.in1 (b ⟨args,d⟩) (λfin c=>match fin with
   | .done f=>(match (Except.ok f:Result) with | .ok (.ret v)=>Q v c | .ok _=>False | .error e=>E e c)
   | .again h=>h.quiet=true/\codeAny (model prog w) A h (λr c=>match r with | .ok (.ret v)=>Q v c | .ok _=>False | .error e=>E e c) c) E s) :
  wpAny (model prog w) A (call (.builtin a) args d) Q E s:=by
 show wpAny_call (codeAny_call_builtin i k ?_);simp only[checkBuiltinCall,j];cases m:Manifest.signature? a with
 | none=>show ao g
 | some sig=>
  have l:Bind.checkArgs a sig ⟨args,d⟩=pure ():=by simpa only[argsOk,m] using ha
  simp only[l];show ao g
theorem SX(x d:Value):argsOk "max" ⟨[x],[("default",d)]⟩:=by unfold argsOk;kernel_rfl
end
end L2
namespace HT
theorem m6:∀t:List Int,eH t t=false
 | []=>rfl
 | a::t=>by unfold eH;simp[m6 t]
theorem oH:∀a b:List Int,eH a b=true->eH b a=false
 | [],[],h=>rfl
 | [],_::_,h=>by unfold eH at h;cases h
 | _::_,[],h=>by unfold eH;rfl
 | x::xs,y::ys,h=>by
  unfold eH at h ⊢;by_cases e:x=y
  .subst e;simp only[aX] at h ⊢;simpa using oH xs ys (by simpa using h)
  have c:¬y=x:=λx=>e x.symm
  simp[e,c] at h ⊢;ext
theorem lR:∀a b c:List Int,eH a b=false->eH b c=false->eH a c=false
 | [],[],c,h,d=>d
 | [],_::_,[],h,d=>by unfold eH;rfl
 | [],_::_,_::_,h,d=>by unfold eH;rfl
 | _::_,[],_,h,_=>by unfold eH at h;cases h
 | x::xs,y::ys,[],h,d=>by unfold eH at d;cases d
 | x::xs,y::ys,z::zs,h,d=>by
  unfold eH at h d ⊢;have g:=lR xs ys zs;by_cases e:x=y
  .subst e;by_cases f:x=z
   .subst f;simp at h d ⊢;show g h d
   simp[f] at h d ⊢;ext
  by_cases f:y=z
  .subst f;simp[e] at h d ⊢;ext
  simp[e,f] at h d;have i:¬x=z:=by ext
  simp[i];ext
end HT
namespace L2
open PySem PySem.Spec PyProof.Rows
section
variable{X:Cx}{pos p kp:Pos}{e e2:Expr}{te te2:TD}
def BA(P:V->Hp->Prop):List V->Hp->Prop:=λa H=>match a with
 | [x]=>P x H
 | _=>False
theorem Jb{P:V->Hp->Prop}{a:List V}{H:Hp}(h:BA P a H):∃x,a=[x]:=by
 unfold BA at h;split at h
 .exact⟨_,rfl⟩
 show h.elim
noncomputable def oe:List D->Option (List (List Int))
 | []=>some []
 | .tup es::r=>match mG es,oe r with
  | some a,some b=>some (a::b)
  | _,_=>none
 | _=>none
theorem Kj{K:J'}{G:Hp}:∀{es:List D}{c:List (List Int)}{d:List V},oe es=some c->c9 K G d es->d.length=c.length/\∀(i:Nat) x t,d[i]?=some x->c[i]?=some t->Rep K G x (.tup (t.map D.int))/\∃b,x=.ref b/\iz K G b (t.map V.int)
 | [],c,[],h,_=>by simp only[oe,aB] at h;subst h;show⟨rfl,λi x t e=>by simp at e⟩
 | .tup es::r,c,v::d,h,rs=>by
  simp only[c9] at rs;simp only[oe] at h;split at h
  .rename_i a b ha l;simp only[aB] at h;subst h;obtain⟨n,m⟩:=Kj l rs.2;show⟨by simp[n],λi x t g e2=>?_⟩;cases i with
   | zero=>
    simp only[bZ,aB] at g e2;subst g e2;have f:=rs.1;rw[wz ha] at f;show⟨f,?_⟩;simp only[Rep] at f;obtain⟨p,xs,rfl,j,k⟩:=f;rw[wc k] at j;show⟨p,rfl,iz.of j⟩
   | succ i=>
    simp only[bO] at g e2;show m i x t g e2
  cases h
 | [],_,_::_,_,rs=>by simp only[c9] at rs
 | _::_,_,[],_,rs=>by simp only[c9] at rs
 | .int _::_,_,_::_,h,_=>by simp[oe] at h
 | .str _::_,_,_::_,h,_=>by simp[oe] at h
 | .lst _::_,_,_::_,h,_=>by simp[oe] at h
 | .non::_,_,_::_,h,_=>by simp[oe] at h
 | .bl _::_,_,_::_,h,_=>by simp[oe] at h
 | .obj _ _::_,_,_::_,h,_=>by simp[oe] at h
 | .dic _::_,_,_::_,h,_=>by simp[oe] at h
 | .dit _::_,_,_::_,h,_=>by simp[oe] at h
 | .exc _::_,_,_::_,h,_=>by simp[oe] at h
end
end L2
namespace Ts
open PySem PyProof.Rows
noncomputable def vg:Bool->Keyed->Array Keyed->Nat->Nat->Nat->StateT SortSt Sem (Option Nat):=sortPriv% PySem.Builtin.gallop
noncomputable def Ex:Array Keyed->Array Keyed->StateT SortSt Sem (Array Keyed):=sortPriv% PySem.Builtin.mergeLo
noncomputable def Ew:Array Keyed->Array Keyed->StateT SortSt Sem (Array Keyed):=sortPriv% PySem.Builtin.mergeHi
noncomputable def v7(left:Bool)(key:Keyed)(a:Array Keyed)(base i:Nat):StateT SortSt Sem (Option Bool):=do
 let x <-elem' a (base+i)
 if left then lt' x key else return (<-lt' key x).map (!·)
theorem SW(left:Bool)(key:Keyed)(b:Array Keyed)(base n a:Nat):vg left key b base n a=(do
 let mut lA:=0
 let mut rE:=1
 let mut lo:=0
 let mut hi:=0
 let some right <-v7 left key b base a | return none
 if right then
  let c:=n-a
  for _ in [0:n] do
   if rE>=c then break
   let some more <-v7 left key b base (a+rE) | return none
   if !more then break
   lA:=rE
   rE:=2*rE+1
  lo:=a+lA+1
  hi:=a+min rE c
 else
  let c:=a+1
  for _ in [0:n] do
   if rE>=c then break
   let some found <-v7 left key b base (a-rE) | return none
   if found then break
   lA:=rE
   rE:=2*rE+1
  lo:=a+1-min rE c
  hi:=a-lA
 for _ in [0:n] do
  if lo>=hi then break
  let m:=lo+(hi-lo)/2
  let some more <-v7 left key b base m | return none
  if more then lo:=m+1 else hi:=m
 return some hi):=rfl
variable{M:Model}{A:Around}{E:Value->Shared->Prop}{s:Shared}
structure Rk(M:Model)(A:Around)(E:Value->Shared->Prop)(s:Shared)(κ:SortKind)(ok:Keyed->Prop)(rk:Keyed->Int):Prop where
 lt:∀x y (st:SortSt) (Q:Option Bool->SortSt->Prop),ok x->ok y->kindOf st=κ->Q (some (decide (rk x<rk y))) st->wpS M A E s (lt' x y) Q st
theorem gL{a:Array Keyed}{i:Nat}{Q:Keyed->SortSt->Prop}{st:SortSt}(h:i<a.size)(q:Q a[i] st):wpS M A E s (elem' a i) Q st:=by
 rw[elem'_eq,cG h];show ag q
theorem SV{b:SortKind}{ok:Keyed->Prop}{rk:Keyed->Int}(R:Rk M A E s b ok rk){left:Bool}{key:Keyed}{a:Array Keyed}{base i:Nat}{Q:Option Bool->SortSt->Prop}{st:SortSt}(d:kindOf st=b)(c:∀x∈a,ok x)(e:ok key)(h:base+i<a.size)
  (q:Q (some (if left=true then decide (rk a[base+i]<rk key) else !decide (rk key<rk a[base+i]))) st):wpS M A E s (v7 left key a base i) Q st:=by
 unfold v7;show ai (gL h ?_);cases left with
 | true=>show R.lt _ _ st _ (c _ (aV h)) e d q
 | false=>show ai (R.lt _ _ st _ e (c _ (aV h)) d (ag q))
def Cut(b:Nat->Bool)(n k:Nat):Prop:=k<=n/\∀i,i<n->(b i=true↔i<k)
theorem p6{u:SortKind}{ok:Keyed->Prop}{rk:Keyed->Int}(R:Rk M A E s u ok rk){left:Bool}{key:Keyed}{g:Array Keyed}{base n a k:Nat}{Q:Option Nat->SortSt->Prop}{st:SortSt}(y:kindOf st=u)(w:∀x∈g,ok x)(B:ok key)(C:base+n<=g.size)(z:a<n)
  (v:Cut (λi=>if left=true then decide (rk (g.getD (base+i) (Value.none,Value.none))<rk key) else !decide (rk key<rk (g.getD (base+i) (Value.none,Value.none)))) n k) (q:Q (some k) st):wpS M A E s (vg left key g base n a) Q st:=by
 have p:∀i,i<n->∀{t:Option Bool->SortSt->Prop},t (some (decide (i<k))) st->wpS M A E s (v7 left key g base i) t st:=λi hi t h=>by
  show SV R y w B (by ext) ?_;have f:=v.2 i hi;have e:g.getD (base+i) (Value.none,Value.none)=g[base+i]'(by ext):=by simp[Array.getD,show base+i<g.size by ext]
  dsimp only at f;rw[e] at f;rw[show(if left=true then decide (rk (g[base+i]'(by ext))<rk key) else !decide (rk key<rk (g[base+i]'(by ext))))=decide (i<k) by rw[Bool.eq_iff_iff,f,ba]];show h
 have D:=v.1;rw[SW];show ai (p a z ?_);dsimp only;by_cases h0:a<k
 .simp only[h0,cw,aX];show ai (cH (bB (Q:=λc j=>j=st/\c.1=none/\a+c.2.1<k/\k<=a+min c.2.2 (n-a)) (λi c j=>j=st/\c.1=none/\a+c.2.1<k/\i+1<=c.2.2) ?_ ?_ ⟨rfl,rfl,by show a+0<k;ext,by show 0+1<=1;ext⟩) ?_)
  .rintro i ⟨c1,la,of⟩ j _ r ⟨rfl,b,d,f⟩;dsimp only at b d f ⊢;subst b;by_cases hd:of>=n-a
   .rw[if_pos hd];show ag ⟨rfl,rfl,d,by dsimp only;ext⟩
   rw[if_neg hd];show ai (p _ (by ext) ?_);dsimp only;by_cases hm:a+of<k
   .simp only[hm,cw,Bool.not_true,aq,aR];show ag ⟨rfl,rfl,hm,by dsimp only;ext⟩
   simp only[hm,bS,Bool.not_false,aX];show ag ⟨rfl,rfl,d,by dsimp only;ext⟩
  .rintro⟨c1,la,of⟩ j ⟨rfl,b,d,f⟩;dsimp only at b d f ⊢;show⟨rfl,b,d,by rw[cS (aZ n)] at f;ext⟩
  rintro⟨c1,la,of⟩ j ⟨rfl,b,d,f⟩;dsimp only at b d f ⊢;subst b;dsimp only;show ai (cH (bB (Q:=λc m=>m=j/\c.1=none/\c.2.2=k) (λi c m=>m=j/\c.1=none/\c.2.1<=k/\k<=c.2.2/\c.2.2<=n/\c.2.2-c.2.1+i<=n) ?_ ?_ ⟨rfl,rfl,by dsimp only;ext,by dsimp only;ext,by dsimp only;ext,by dsimp only;ext⟩) ?_)
  .rintro i ⟨c1,lo,hi⟩ m _ r ⟨rfl,b,d,f,l,o⟩;dsimp only at b d f l o ⊢;subst b;by_cases hd:lo>=hi
   .rw[if_pos hd];show ag ⟨rfl,rfl,by dsimp only;ext⟩
   rw[if_neg hd];show ai (p _ (by ext) ?_);dsimp only;by_cases hm:lo+(hi-lo)/2<k
   .simp only[hm,cw,aX];show ag ⟨rfl,rfl,by dsimp only;ext,f,l,by dsimp only;ext⟩
   simp only[hm,bS,aq,aR];show ag ⟨rfl,rfl,d,by dsimp only;ext,by dsimp only;ext,by dsimp only;ext⟩
  .rintro⟨c1,lo,hi⟩ m ⟨rfl,b,d,f,l,o⟩;dsimp only at b d f l o ⊢;show⟨rfl,b,by ext⟩
  rintro⟨c1,lo,hi⟩ m ⟨rfl,b,d⟩;dsimp only at b d ⊢;subst b d;show ag q
 simp only[h0,bS,aq,aR];show ai (cH (bB (Q:=λc j=>j=st/\c.1=none/\k<=a-c.2.1/\c.2.1<=a/\a+1-min c.2.2 (a+1)<=k) (λi c j=>j=st/\c.1=none/\k<=a-c.2.1/\c.2.1<=a/\i+1<=c.2.2) ?_ ?_ ⟨rfl,rfl,by show k<=a-0;ext,aZ _,by show 0+1<=1;ext⟩) ?_)
 .rintro i ⟨c1,la,of⟩ j _ r ⟨rfl,b,d,f,l⟩;dsimp only at b d f l ⊢;subst b;by_cases hd:of>=a+1
  .rw[if_pos hd];show ag ⟨rfl,rfl,d,f,by dsimp only;ext⟩
  rw[if_neg hd];show ai (p _ (by ext) ?_);dsimp only;by_cases hm:a-of<k
  .simp only[hm,cw,aX];show ag ⟨rfl,rfl,d,f,by dsimp only;ext⟩
  simp only[hm,bS,aq,aR];show ag ⟨rfl,rfl,by dsimp only;ext,by dsimp only;ext,by dsimp only;ext⟩
 .rintro⟨c1,la,of⟩ j ⟨rfl,b,d,f,l⟩;dsimp only at b d f l ⊢;show⟨rfl,b,d,f,by rw[cS (aZ n)] at l;ext⟩
 rintro⟨c1,la,of⟩ j ⟨rfl,b,d,f,l⟩;dsimp only at b d f l ⊢;subst b;dsimp only;show ai (cH (bB (Q:=λc m=>m=j/\c.1=none/\c.2.2=k) (λi c m=>m=j/\c.1=none/\c.2.1<=k/\k<=c.2.2/\c.2.2<=n/\c.2.2-c.2.1+i<=n) ?_ ?_ ⟨rfl,rfl,by dsimp only;ext,by dsimp only;ext,by dsimp only;ext,by dsimp only;ext⟩) ?_)
 .rintro i ⟨c1,lo,hi⟩ m _ r ⟨rfl,b,d,f,l,o⟩;dsimp only at b d f l o ⊢;subst b;by_cases hd:lo>=hi
  .rw[if_pos hd];show ag ⟨rfl,rfl,by dsimp only;ext⟩
  rw[if_neg hd];show ai (p _ (by ext) ?_);dsimp only;by_cases hm:lo+(hi-lo)/2<k
  .simp only[hm,cw,aX];show ag ⟨rfl,rfl,by dsimp only;ext,f,l,by dsimp only;ext⟩
  simp only[hm,bS,aq,aR];show ag ⟨rfl,rfl,d,by dsimp only;ext,by dsimp only;ext,by dsimp only;ext⟩
 .rintro⟨c1,lo,hi⟩ m ⟨rfl,b,d,f,l,o⟩;dsimp only at b d f l o ⊢;show⟨rfl,b,by ext⟩
 rintro⟨c1,lo,hi⟩ m ⟨rfl,b,d⟩;dsimp only at b d ⊢;subst b d;show ag q
variable{α:Type}(rk:α->Int)
structure MI(a b out:List α)(ia ib:Nat):Prop where
 la:ia<=a.length
 lb:ib<=b.length
 pm:out.Perm (a.take ia++b.take ib)
 so:out.Pairwise λx y=>rk x<=rk y
 ga:∀x∈out,∀y∈a.drop ia,rk x<=rk y
 gb:∀x∈out,∀y∈b.drop ib,rk x<=rk y
variable{rk}
theorem MI.len{a b out:List α}{d c:Nat}(h:MI rk a b out d c):out.length=d+c:=by
 have:=h.pm.length_eq;rw[aD,aT,aT] at this;have:=h.la;have:=h.lb;ext
theorem Li{l:List α}{i k:Nat}:l.drop i=(l.drop i).take k++l.drop (i+k):=by
 rw[<-List.drop_drop,bI]
theorem MI.iO{a b out:List α}{c f:Nat}(h:MI rk a b out c f)(sa:a.Pairwise λx y=>rk x<=rk y){k:Nat}(g:c+k<=a.length)(i:∀x∈(a.drop c).take k,∀y∈b.drop f,rk x<=rk y):MI rk a b (out++(a.drop c).take k) (c+k) f:=by
 have e:(a.drop c).Pairwise λx y=>rk x<=rk y:=sa.sublist (List.drop_sublist _ _)
 rw[Li (k:=k),bx] at e;have ha:=h.ga;rw[Li (k:=k)] at ha;show⟨g,h.lb,?_,?_,λx hx y d=>?_,λx hx y d=>?_⟩
 .rw[List.take_add];have:=h.pm.append_right ((a.drop c).take k);show this.trans ?_;rw[bw,bw];show List.Perm.append_left _ List.perm_append_comm
 .rw[bx];show⟨h.so,e.1,λx hx y d=>ha x hx y (bF _ d)⟩
 .rcases au.mp hx with hx | hx
  .exact ha x hx y (aQ _ d)
  show e.2.2 x hx y d
 rcases au.mp hx with hx | hx
 .exact h.gb x hx y d
 show i x hx y d
theorem MI.swap{a b out:List α}{d c:Nat}(h:MI rk a b out d c):MI rk b a out c d:=⟨h.lb,h.la,h.pm.trans List.perm_append_comm,h.so,h.gb,h.ga⟩
theorem MI.lW{a b out:List α}{d c:Nat}(h:MI rk a b out d c)(e:b.Pairwise λx y=>rk x<=rk y){k:Nat}(f:c+k<=b.length)(ha:∀x∈(b.drop c).take k,∀y∈a.drop d,rk x<=rk y):MI rk a b (out++(b.drop c).take k) d (c+k):=(h.swap.iO e f ha).swap
theorem Ki{l:List α}{i:Nat}(h:i<l.length):(l.drop i).take 1=[l[i]]:=by
 rw[bQ h];rfl
theorem SU{l:List α}(s:l.Pairwise λx y=>rk x<=rk y){i:Nat}(h:i<l.length):∀y∈l.drop i,rk l[i]<=rk y:=by
 intro y a;rw[bQ h] at a;rcases av.mp a with rfl | a
 .exact cL _
 have b:(l.drop i).Pairwise λx y=>rk x<=rk y:=s.sublist (List.drop_sublist _ _)
 rw[bQ h,bN] at b;show b.1 y a
theorem MI.fD{a b out:List α}{c d:Nat}(h:MI rk a b out c d)(sa:a.Pairwise λx y=>rk x<=rk y)(f:b.Pairwise λx y=>rk x<=rk y)(hi:c<a.length)(i:d<b.length)(e:rk a[c]<=rk b[d]):MI rk a b (out++[a[c]]) (c+1) d:=by
 have:=h.iO sa (k:=1) (by ext) (λx hx y g=>by
  rw[Ki hi] at hx;simp at hx;subst hx;show Int.le_trans e (SU f i y g))
 rwa [Ki hi] at this
theorem MI.i6{a b out:List α}{d c:Nat}(h:MI rk a b out d c)(sa:a.Pairwise λx y=>rk x<=rk y)(f:b.Pairwise λx y=>rk x<=rk y)(hi:d<a.length)(g:c<b.length)(e:rk b[c]<=rk a[d]):MI rk a b (out++[b[c]]) d (c+1):=(h.swap.fD f sa g hi e).swap
theorem MI.kg{a b out:List α}{c d:Nat}(h:MI rk a b out c d)(sa:a.Pairwise λx y=>rk x<=rk y)(j:b.Pairwise λx y=>rk x<=rk y)(e:∀x∈a.drop c,∀y∈b.drop d,rk x<=rk y) :
  (out++a.drop c++b.drop d).Perm (a++b)/\(out++a.drop c++b.drop d).Pairwise λx y=>rk x<=rk y:=by
 have i:=h.iO sa (k:=a.length-c) (by have:=h.la;ext) (λx hx=>e x (List.mem_of_mem_take hx));have m:(a.drop c).take (a.length-c)=a.drop c:=bE (by simp);rw[m] at i
 have f:=i.lW j (k:=b.length-d) (by have:=h.lb;ext) (λx hx y g=>by
  rw[show c+(a.length-c)=a.length by have:=h.la;ext,List.drop_length] at g;cases g)
 have l:(b.drop d).take (b.length-d)=b.drop d:=bE (by simp);rw[l] at f;show⟨?_,f.so⟩;have:=f.pm;rwa [show c+(a.length-c)=a.length by have:=h.la;ext,show d+(b.length-d)=b.length by have:=h.lb;ext,bH,bH] at this
theorem MI.nu{a b out:List α}{d c:Nat}(h:MI rk a b out d c)(sa:a.Pairwise λx y=>rk x<=rk y)(f:b.Pairwise λx y=>rk x<=rk y)(e:∀x∈b.drop c,∀y∈a.drop d,rk x<=rk y) :
  (out++b.drop c++a.drop d).Perm (a++b)/\(out++b.drop c++a.drop d).Pairwise λx y=>rk x<=rk y:=by
 obtain⟨i,g⟩:=h.swap.kg f sa e;show⟨i.trans List.perm_append_comm,g⟩
abbrev oi(st:SortSt)(g:Nat):SortSt:=SortSt.mk' (kindOf st) (arrOf st) (pendingOf st) g (failedOf st)
noncomputable def zY:Nat->StateT SortSt Sem Unit:=sortPriv% PySem.Builtin.setMinGallop
theorem yj(g:Nat):zY g=modify λst=>oi st g:=rfl
theorem Uk(a b:Array Keyed):Ex a b=(do
 rule "list.sort.merge-lo"
 let total:=a.size+b.size
 let done (out:Array Keyed) (c d:Nat):=out++a.extract c a.size++b.extract d b.size
 let e (out:Array Keyed) (c d:Nat):=out++b.extract d b.size++a.extract c a.size
 let mut out:Array Keyed:=#[<-elem' b 0]
 let mut c:=0
 let mut d:=1
 if d==b.size then return done out c d
 if c+1==a.size then return e out c d
 let mut minGallop:=gallopOf (<-get)
 for _ in [0:total] do
  let mut gz:=0
  let mut gy:=0
  for _ in [0:total] do
   let some f <-lt' (<-elem' b d) (<-elem' a c) | return done out c d
   if f then
    out:=out.push (<-elem' b d);d:=d+1;gy:=gy+1;gz:=0
    if d==b.size then return done out c d
    if gy>=minGallop then break
   else
    out:=out.push (<-elem' a c);c:=c+1;gz:=gz+1;gy:=0
    if c+1==a.size then return e out c d
    if gz>=minGallop then break
  rule "list.sort.gallop"
  minGallop:=minGallop+1
  for _ in [0:total] do
   if minGallop>1 then minGallop:=minGallop-1
   zY minGallop
   let some k <-vg false (<-elem' b d) a c (a.size-c) 0 | return done out c d
   gz:=k
   if k>0 then
    out:=out++a.extract c (c+k);c:=c+k
    if c+1==a.size then return e out c d
    if c==a.size then return done out c d
   out:=out.push (<-elem' b d);d:=d+1
   if d==b.size then return done out c d
   let some k <-vg true (<-elem' a c) b d (b.size-d) 0 | return done out c d
   gy:=k
   if k>0 then
    out:=out++b.extract d (d+k);d:=d+k
    if d==b.size then return done out c d
   out:=out.push (<-elem' a c);c:=c+1
   if c+1==a.size then return e out c d
   if gz<7&&gy<7 then break
  minGallop:=minGallop+1
  zY minGallop
 unsupported "internal:list.sort.merge-bound"):=rfl
variable{M:Model}{A:Around}{E:Value->Shared->Prop}{s:Shared}
theorem wb{x:String}{Q:Unit->SortSt->Prop}{st:SortSt}(q:Q () st):wpS M A E s (liftM (rule x):StateT SortSt Sem Unit) Q st:=wpS_lift (wpAny_rule ⟨rfl,q⟩)
def gn(rk:Keyed->Int)(l:List Keyed):Prop:=l.Pairwise λx y=>rk x<=rk y
def pW(rk:Keyed->Int)(a b r:Array Keyed):Prop:=r.toList.Perm (a.toList++b.toList)/\gn rk r.toList
structure Mw(rk:Keyed->Int)(a b out:Array Keyed)(ia ib:Nat):Prop where
 mi:MI rk a.toList b.toList out.toList ia ib
 la:ia+1<a.size
 lb:ib<b.size
section
variable{rk:Keyed->Int}{a b out:Array Keyed}{ia ib:Nat}
theorem B8(a:Array Keyed)(i:Nat):(a.extract i a.size).toList=a.toList.drop i:=by
 rw[Array.toList_extract];simp only[List.extract];show bE (by simp)
theorem Ja(a:Array Keyed)(i k:Nat):(a.extract i (i+k)).toList=(a.toList.drop i).take k:=by
 rw[Array.toList_extract];simp[List.extract]
theorem Kh(a:Array Keyed):a.toList.drop a.size=[]:=by simp
theorem rA(h:MI rk a.toList b.toList out.toList ia ib)(sa:gn rk a.toList)(d:gn rk b.toList)(hi:ia=a.size\/ib=b.size):pW rk a b (out++a.extract ia a.size++b.extract ib b.size):=by
 obtain⟨g,f⟩:=h.kg sa d (λx hx y c=>by
  rcases hi with e | e
  .rw[e,Kh] at hx;cases hx
  .rw[e,Kh] at c;cases c)
 unfold pW gn;rw[bL,bL,B8,B8];show⟨g,f⟩
theorem rq(h:MI rk a.toList b.toList out.toList ia ib)(sa:gn rk a.toList)(d:gn rk b.toList)(ha:0<a.size)(hi:ia+1=a.size)(g:∀x∈b,rk x<rk (a[a.size-1])):pW rk a b (out++b.extract ib b.size++a.extract ia a.size):=by
 obtain⟨j,i⟩:=h.nu sa d (λx hx y c=>by
  have e:a.toList.drop ia=[a[a.size-1]]:=by
   have f:ia<a.toList.length:=by simp;ext
   rw[bQ f,List.drop_eq_nil_of_le (by simp;ext)];simp[show ia=a.size-1 by ext]
  rw[e] at c;simp at c;have:=g x (by simpa using List.mem_of_mem_drop hx);rw[c];ext)
 unfold pW gn;rw[bL,bL,B8,B8];show⟨j,i⟩
end
theorem vd(p:Nat->Bool):∀n,(∀i j,i<=j->j<n->p j=true->p i=true)->∃k,Cut p n k
 | 0,_=>⟨0,ay _,λi hi=>absurd hi (Nat.not_lt_zero i)⟩
 | n+1,h=>by
  obtain⟨k,k1,b⟩:=vd p n λi j c d=>h i j c (by ext)
  cases a:p n with
  | true=>
   show⟨n+1,ay _,λi hi=>⟨λ_=>hi,λ_=>?_⟩⟩;show h i n (by ext) (by ext) a
  | false=>
   show⟨k,by ext,λi hi=>?_⟩;by_cases e:i=n
   .subst e;rw[a];show⟨λz=>(by cases z),λz=>by ext⟩
   show b i (by ext)
noncomputable abbrev dk:Keyed:=(Value.none,Value.none)
theorem iA{a:Array Keyed}{i:Nat}(h:i<a.size):a.getD i dk=a[i]:=by simp[Array.getD,h]
theorem vh{rk:Keyed->Int}{a:Array Keyed}(sa:gn rk a.toList){i j:Nat}(h:i<=j)(b:j<a.size):rk (a.getD i dk)<=rk (a.getD j dk):=by
 rw[iA b,iA (by ext)];by_cases e:i=j
 .subst e;show cL _
 have:=List.pairwise_iff_getElem.mp sa i j (by simp;ext) (by simpa using b) (by ext);simpa using this
theorem I0{a:Array Keyed}{i k:Nat}(h:i+k<=a.size){x:Keyed}(hx:x∈(a.toList.drop i).take k):∃t,t<k/\x=a.getD (i+t) dk:=by
 obtain⟨t,c,e⟩:=bW hx;have b:t<k:=by simp at c;ext
 show⟨t,b,?_⟩;rw[iA (by ext),<-e];simp
theorem IZ{a:Array Keyed}{i:Nat}{x:Keyed}(hx:x∈a.toList.drop i):∃t,i+t<a.size/\x=a.getD (i+t) dk:=by
 obtain⟨t,c,e⟩:=bW hx;have b:i+t<a.size:=by simp at c;ext
 show⟨t,b,?_⟩;rw[iA b,<-e];simp
theorem HW{rk:Keyed->Int}{a:Array Keyed}(sa:gn rk a.toList)(b:Nat)(key:Keyed):∃k,Cut (λi=>if false=true then decide (rk (a.getD (b+i) dk)<rk key) else !decide (rk key<rk (a.getD (b+i) dk))) (a.size-b) k:=
 vd _ _ λi j c d h=>by
  have:=vh (rk:=rk) sa (show b+i<=b+j by ext) (by ext);simp only[aq,aR,b9,bA] at h ⊢;ext
theorem BM{rk:Keyed->Int}{b:Array Keyed}(c:gn rk b.toList)(a:Nat)(key:Keyed):∃k,Cut (λi=>if true=true then decide (rk (b.getD (a+i) dk)<rk key) else !decide (rk key<rk (b.getD (a+i) dk))) (b.size-a) k:=
 vd _ _ λi j d e h=>by
  have:=vh (rk:=rk) c (show a+i<=a+j by ext) (by ext);simp only[aX,ba] at h ⊢;ext
theorem MI.tf{rk:Keyed->Int}{a b out:Array Keyed}{c d k:Nat}(h:MI rk a.toList b.toList out.toList c d)(sa:gn rk a.toList)(g:gn rk b.toList)(la:c<a.size)(lb:d<b.size)(e:Cut (λi=>if false=true then decide (rk (a.getD (c+i) dk)<rk b[d]) else !decide (rk b[d]<rk (a.getD (c+i) dk))) (a.size-c) k) :
  MI rk a.toList b.toList (out++a.extract c (c+k)).toList (c+k) d/\c+k<=a.size/\(c+k<a.size->rk b[d]<rk (a.getD (c+k) dk)):=by
 have p:=e.1;show⟨?_,by ext,λo=>?_⟩
 .rw[bL,Ja];show h.iO sa (by simp;ext) λx hx y j=>?_
  obtain⟨t,m,rfl⟩:=I0 (by ext) hx;obtain⟨u,l,rfl⟩:=IZ j;have f:=(e.2 t (by ext)).mpr m;have n:=vh (rk:=rk) g (show d<=d+u by ext) l;rw[iA lb] at n;simp only[aq,aR,b9,bA] at f;ext
 have f:=mt (e.2 k (by ext)).mp (cN k);simpa using f
theorem MI.ni{rk:Keyed->Int}{a b out:Array Keyed}{d c k:Nat}(h:MI rk a.toList b.toList out.toList d c)(sa:gn rk a.toList)(g:gn rk b.toList)(la:d<a.size)(lb:c<=b.size)(e:Cut (λi=>if true=true then decide (rk (b.getD (c+i) dk)<rk a[d]) else !decide (rk a[d]<rk (b.getD (c+i) dk))) (b.size-c) k) :
  MI rk a.toList b.toList (out++b.extract c (c+k)).toList d (c+k)/\c+k<=b.size/\(c+k<b.size->rk a[d]<=rk (b.getD (c+k) dk)):=by
 have p:=e.1;show⟨?_,by ext,λo=>?_⟩
 .rw[bL,Ja];show h.lW g (by simp;ext) λx hx y j=>?_
  obtain⟨t,m,rfl⟩:=I0 (by ext) hx;obtain⟨u,l,rfl⟩:=IZ j;have f:=(e.2 t (by ext)).mpr m;have n:=vh (rk:=rk) sa (show d<=d+u by ext) l;rw[iA la] at n;simp only[aX,ba] at f;ext
 have f:=mt (e.2 k (by ext)).mp (cN k);simpa using f
theorem Uj{S:SortKind}{ok:Keyed->Prop}{rk:Keyed->Int}(R:Rk M A E s S ok rk){a b:Array Keyed}{Q:Array Keyed->SortSt->Prop}{st:SortSt}(F:kindOf st=S)(C:∀x∈a,ok x)(ob:∀x∈b,ok x)(sa:gn rk a.toList)(e:gn rk b.toList)(ha:0<a.size)(U:0<b.size)
  (h0:rk b[0]<rk a[0]) (v:∀x∈b,rk x<rk (a[a.size-1])) (q:∀(r:Array Keyed) g,r.toList.Perm (a.toList++b.toList)->gn rk r.toList->Q r (oi st g)):wpS M A E s (Ex a b) Q st:=by
 rw[Uk];show ai (wb ?_);show ai (gL U ?_);dsimp only;have N:st=oi st (gallopOf st):=rfl;have m0:MI rk a.toList b.toList (#[b[0]]:Array Keyed).toList 0 1:=by
  have n0:MI rk a.toList b.toList [] 0 0:=⟨aZ _,aZ _,by simp,.nil,λx hx=>(by cases hx),λx hx=>(by cases hx)⟩
  have:=n0.i6 sa e (by simpa using ha) (by simpa using U) (by simp only[aw];ext);simpa using this
 by_cases c1:1=b.size
 .rw[if_pos (by simpa using c1)];show ag ?_;rw[N];obtain⟨g1,g2⟩:=rA m0 sa e (.inr c1);show q _ _ g1 g2
 rw[if_neg (by simpa using c1)];by_cases P:0+1=a.size
 .rw[if_pos (by simpa using P)];show ag ?_;rw[N];obtain⟨g1,g2⟩:=rq m0 sa e ha P v;show q _ _ g1 g2
 rw[if_neg (by simpa using P)];show ai (wpS_get ?_);show ai (cH (bB (Q:=λ(c:Option (Array Keyed)×Array Keyed×Nat×Nat×Nat) n=>∃g r,n=oi st g/\c.1=some r/\pW rk a b r) (λi (c:Option (Array Keyed)×Array Keyed×Nat×Nat×Nat) n=>(∃g,n=oi st g)/\c.1=none/\Mw rk a b c.2.1 c.2.2.1 c.2.2.2.1/\i<c.2.1.size) ?_ ?_ ⟨⟨_,N⟩,rfl,⟨m0,by dsimp only;ext,by dsimp only;ext⟩,by simp⟩) ?_)
 .rintro i ⟨c1,out,d,f,mg⟩ n _ qo ⟨⟨g,rfl⟩,o,h,hsz⟩;dsimp only at o h hsz ⊢;subst o;show ai (cH (bB (Q:=λ(c:Option (Array Keyed)×Array Keyed×Nat×Nat×Nat×Nat) n=>(n=oi st g)/\((∃r,c.1=some r/\pW rk a b r)\/(c.1=none/\Mw rk a b c.2.1 c.2.2.1 c.2.2.2.1/\i+1<c.2.1.size)))
   (λj (c:Option (Array Keyed)×Array Keyed×Nat×Nat×Nat×Nat) n=>(n=oi st g)/\c.1=none/\Mw rk a b c.2.1 c.2.2.1 c.2.2.2.1/\i+j<c.2.1.size) ?_ ?_ ⟨rfl,rfl,h,by dsimp only;ext⟩) ?_)
  .rintro j ⟨c1,out,d,f,ac,K⟩ n _ G9 ⟨rfl,o,h,hsz⟩;dsimp only at o h hsz ⊢;subst o;have la:=h.la;have lb:=h.lb;have W:d<a.toList.length:=by simp;ext
   have X:f<b.toList.length:=by simpa using lb
   show ai (gL lb (ai (gL (show d<a.size by ext) (ai (R.lt _ _ _ _ (ob _ (aV _)) (C _ (aV _)) F ?_)))));dsimp only;by_cases V:rk b[f]<rk (a[d]'(by ext))
   .simp only[V,cw,aX];have m:=h.mi.i6 sa e W X (by simp only[aw];ext);rw[aw,<-aH] at m;show ai (gL lb ?_);by_cases u:f+1=b.size
    .rw[if_pos (by simpa using u)];show ag ⟨rfl,.inl ⟨_,rfl,rA m sa e (.inr u)⟩⟩
    rw[if_neg (by simpa using u)];split
    .exact ag ⟨rfl,.inr ⟨rfl,⟨m,la,by dsimp only;ext⟩,by simp;ext⟩⟩
    show ag ⟨rfl,rfl,⟨m,la,by dsimp only;ext⟩,by simp;ext⟩
   simp only[V,bS,aq,aR];have L:=h.mi.fD sa e W X (by simp only[aw];ext);rw[aw,<-aH] at L;show ai (gL (show d<a.size by ext) ?_);by_cases u:d+1+1=a.size
   .rw[if_pos (by simpa using u)];show ag ⟨rfl,.inl ⟨_,rfl,rq L sa e ha u v⟩⟩
   rw[if_neg (by simpa using u)];split
   .exact ag ⟨rfl,.inr ⟨rfl,⟨L,by dsimp only;ext,lb⟩,by simp;ext⟩⟩
   show ag ⟨rfl,rfl,⟨L,by dsimp only;ext,lb⟩,by simp;ext⟩
  .rintro⟨c1,out,d,f,ac,K⟩ n ⟨rfl,o,h,hsz⟩;dsimp only at o h hsz ⊢;show⟨rfl,.inr ⟨o,h,by rw[cS (aZ _)] at hsz;ext⟩⟩
  rintro⟨c1,out,d,f,ac,K⟩ n ⟨rfl,I⟩;dsimp only at I ⊢;rcases I with⟨r,rfl,O⟩ | ⟨rfl,h,hsz⟩
  .exact ag ⟨g,r,rfl,rfl,O⟩
  dsimp only;show ai (wb ?_);show ai (cH (bB (Q:=λ(c:Option (Array Keyed)×Array Keyed×Nat×Nat×Nat×Nat×Nat) n=>(∃g,n=oi st g)/\((∃r,c.1=some r/\pW rk a b r)\/(c.1=none/\Mw rk a b c.2.1 c.2.2.1 c.2.2.2.1/\i+1<c.2.1.size)))
   (λj (c:Option (Array Keyed)×Array Keyed×Nat×Nat×Nat×Nat×Nat) n=>(∃g,n=oi st g)/\c.1=none/\Mw rk a b c.2.1 c.2.2.1 c.2.2.2.1/\i+1<c.2.1.size) ?_ ?_ ⟨⟨_,rfl⟩,rfl,h,hsz⟩) ?_)
  .clear h hsz;rintro j ⟨c1,out,d,f,mg,ac,K⟩ n _ G9 ⟨⟨g,rfl⟩,o,h,hsz⟩;dsimp only at o h hsz ⊢;subst o;have la:=h.la;have lb:=h.lb;have ol:=h.mi.len;rw[af] at ol;by_cases T:mg>1
   .rw[if_pos T];rw[yj];show ai (cK (ai (gL lb ?_)));obtain⟨k,J⟩:=HW sa d b[f];show ai (p6 R F C (ob _ (aV _)) (by ext) (by ext) J ?_);dsimp only;obtain⟨D,Y,H⟩:=h.mi.tf sa e (by ext) lb J;by_cases kp:k>0
    .rw[if_pos kp];by_cases u:d+k+1=a.size
     .rw[if_pos (by simpa using u)];show ag ⟨⟨_,rfl⟩,.inl ⟨_,rfl,rq D sa e ha u v⟩⟩
     rw[if_neg (by simpa using u)];by_cases G:d+k=a.size
     .rw[if_pos (by simpa using G)];show ag ⟨⟨_,rfl⟩,.inl ⟨_,rfl,rA D sa e (.inl G)⟩⟩
     rw[if_neg (by simpa using G)];have B:=H (by ext);rw[iA (by ext)] at B;have m:=D.i6 sa e (show d+k<a.toList.length by simp;ext) (show f<b.toList.length by simpa using lb) (by simp only[aw];ext);rw[aw,<-aH] at m;show ai (gL lb ?_);by_cases t:f+1=b.size
     .rw[if_pos (by simpa using t)];show ag ⟨⟨_,rfl⟩,.inl ⟨_,rfl,rA m sa e (.inr t)⟩⟩
     rw[if_neg (by simpa using t)];show ai (gL (show d+k<a.size by ext) ?_);obtain⟨k1,w⟩:=BM e (f+1) (a[d+k]'(by ext));show ai (p6 R F ob (C _ (aV _)) (by ext) (by ext) w ?_);dsimp only;obtain⟨n1,n2,n3⟩:=m.ni sa e (by ext) (by ext) w;by_cases y:k1>0
     .rw[if_pos y];by_cases p:f+1+k1=b.size
      .rw[if_pos (by simpa using p)];show ag ⟨⟨_,rfl⟩,.inl ⟨_,rfl,rA n1 sa e (.inr p)⟩⟩
      rw[if_neg (by simpa using p)];have n4:=n3 (by ext);rw[iA (by ext)] at n4;have nn:=n1.fD sa e (show d+k<a.toList.length by simp;ext) (show f+1+k1<b.toList.length by simp;ext) (by simpa using n4);rw[aw,<-aH] at nn;show ai (gL (show d+k<a.size by ext) ?_);by_cases l:d+k+1+1=a.size
      .rw[if_pos (by simpa using l)];show ag ⟨⟨_,rfl⟩,.inl ⟨_,rfl,rq nn sa e ha l v⟩⟩
      rw[if_neg (by simpa using l)];have nl:=nn.len;rw[af] at nl;split
      .exact ag ⟨⟨_,rfl⟩,.inr ⟨rfl,⟨nn,by dsimp only;ext,by dsimp only;ext⟩,by dsimp only;ext⟩⟩
      show ag ⟨⟨_,rfl⟩,rfl,⟨nn,by dsimp only;ext,by dsimp only;ext⟩,by dsimp only;ext⟩
     rw[if_neg y];have z:k1=0:=by ext
     subst z;have n4:=n3 (by ext);rw[iA (by ext)] at n4;have nn:=m.fD sa e (show d+k<a.toList.length by simp;ext) (show f+1<b.toList.length by simp;ext) (by simpa using n4);rw[aw,<-aH] at nn;show ai (gL (show d+k<a.size by ext) ?_);by_cases l:d+k+1+1=a.size
     .rw[if_pos (by simpa using l)];show ag ⟨⟨_,rfl⟩,.inl ⟨_,rfl,rq nn sa e ha l v⟩⟩
     rw[if_neg (by simpa using l)];have nl:=nn.len;rw[af] at nl;split
     .exact ag ⟨⟨_,rfl⟩,.inr ⟨rfl,⟨nn,by dsimp only;ext,by dsimp only;ext⟩,by dsimp only;ext⟩⟩
     show ag ⟨⟨_,rfl⟩,rfl,⟨nn,by dsimp only;ext,by dsimp only;ext⟩,by dsimp only;ext⟩
    rw[if_neg kp];have z:k=0:=by ext
    subst z;have B:=H (by ext);rw[iA (by ext)] at B;have m:=h.mi.i6 sa e (show d<a.toList.length by simp;ext) (show f<b.toList.length by simpa using lb) (by simp only[aw];show cD B);rw[aw,<-aH] at m;show ai (gL lb ?_);by_cases t:f+1=b.size
    .rw[if_pos (by simpa using t)];show ag ⟨⟨_,rfl⟩,.inl ⟨_,rfl,rA m sa e (.inr t)⟩⟩
    rw[if_neg (by simpa using t)];show ai (gL (show d<a.size by ext) ?_);obtain⟨k1,w⟩:=BM e (f+1) (a[d]'(by ext));show ai (p6 R F ob (C _ (aV _)) (by ext) (by ext) w ?_);dsimp only;obtain⟨n1,n2,n3⟩:=m.ni sa e (by ext) (by ext) w;by_cases y:k1>0
    .rw[if_pos y];by_cases p:f+1+k1=b.size
     .rw[if_pos (by simpa using p)];show ag ⟨⟨_,rfl⟩,.inl ⟨_,rfl,rA n1 sa e (.inr p)⟩⟩
     rw[if_neg (by simpa using p)];have n4:=n3 (by ext);rw[iA (by ext)] at n4;have nn:=n1.fD sa e (show d<a.toList.length by simp;ext) (show f+1+k1<b.toList.length by simp;ext) (by simpa using n4);rw[aw,<-aH] at nn;show ai (gL (show d<a.size by ext) ?_);by_cases l:d+1+1=a.size
     .rw[if_pos (by simpa using l)];show ag ⟨⟨_,rfl⟩,.inl ⟨_,rfl,rq nn sa e ha l v⟩⟩
     rw[if_neg (by simpa using l)];have nl:=nn.len;rw[af] at nl;split
     .exact ag ⟨⟨_,rfl⟩,.inr ⟨rfl,⟨nn,by dsimp only;ext,by dsimp only;ext⟩,by dsimp only;ext⟩⟩
     show ag ⟨⟨_,rfl⟩,rfl,⟨nn,by dsimp only;ext,by dsimp only;ext⟩,by dsimp only;ext⟩
    rw[if_neg y];have z:k1=0:=by ext
    subst z;have n4:=n3 (by ext);rw[iA (by ext)] at n4;have nn:=m.fD sa e (show d<a.toList.length by simp;ext) (show f+1<b.toList.length by simp;ext) (by simpa using n4);rw[aw,<-aH] at nn;show ai (gL (show d<a.size by ext) ?_);by_cases l:d+1+1=a.size
    .rw[if_pos (by simpa using l)];show ag ⟨⟨_,rfl⟩,.inl ⟨_,rfl,rq nn sa e ha l v⟩⟩
    rw[if_neg (by simpa using l)];have nl:=nn.len;rw[af] at nl;split
    .exact ag ⟨⟨_,rfl⟩,.inr ⟨rfl,⟨nn,by dsimp only;ext,by dsimp only;ext⟩,by dsimp only;ext⟩⟩
    show ag ⟨⟨_,rfl⟩,rfl,⟨nn,by dsimp only;ext,by dsimp only;ext⟩,by dsimp only;ext⟩
   rw[if_neg T];rw[yj];show ai (cK (ai (gL lb ?_)));obtain⟨k,J⟩:=HW sa d b[f];show ai (p6 R F C (ob _ (aV _)) (by ext) (by ext) J ?_);dsimp only;obtain⟨D,Y,H⟩:=h.mi.tf sa e (by ext) lb J;by_cases kp:k>0
   .rw[if_pos kp];by_cases u:d+k+1=a.size
    .rw[if_pos (by simpa using u)];show ag ⟨⟨_,rfl⟩,.inl ⟨_,rfl,rq D sa e ha u v⟩⟩
    rw[if_neg (by simpa using u)];by_cases G:d+k=a.size
    .rw[if_pos (by simpa using G)];show ag ⟨⟨_,rfl⟩,.inl ⟨_,rfl,rA D sa e (.inl G)⟩⟩
    rw[if_neg (by simpa using G)];have B:=H (by ext);rw[iA (by ext)] at B;have m:=D.i6 sa e (show d+k<a.toList.length by simp;ext) (show f<b.toList.length by simpa using lb) (by simp only[aw];ext);rw[aw,<-aH] at m;show ai (gL lb ?_);by_cases t:f+1=b.size
    .rw[if_pos (by simpa using t)];show ag ⟨⟨_,rfl⟩,.inl ⟨_,rfl,rA m sa e (.inr t)⟩⟩
    rw[if_neg (by simpa using t)];show ai (gL (show d+k<a.size by ext) ?_);obtain⟨k1,w⟩:=BM e (f+1) (a[d+k]'(by ext));show ai (p6 R F ob (C _ (aV _)) (by ext) (by ext) w ?_);dsimp only;obtain⟨n1,n2,n3⟩:=m.ni sa e (by ext) (by ext) w;by_cases y:k1>0
    .rw[if_pos y];by_cases p:f+1+k1=b.size
     .rw[if_pos (by simpa using p)];show ag ⟨⟨_,rfl⟩,.inl ⟨_,rfl,rA n1 sa e (.inr p)⟩⟩
     rw[if_neg (by simpa using p)];have n4:=n3 (by ext);rw[iA (by ext)] at n4;have nn:=n1.fD sa e (show d+k<a.toList.length by simp;ext) (show f+1+k1<b.toList.length by simp;ext) (by simpa using n4);rw[aw,<-aH] at nn;show ai (gL (show d+k<a.size by ext) ?_);by_cases l:d+k+1+1=a.size
     .rw[if_pos (by simpa using l)];show ag ⟨⟨_,rfl⟩,.inl ⟨_,rfl,rq nn sa e ha l v⟩⟩
     rw[if_neg (by simpa using l)];have nl:=nn.len;rw[af] at nl;split
     .exact ag ⟨⟨_,rfl⟩,.inr ⟨rfl,⟨nn,by dsimp only;ext,by dsimp only;ext⟩,by dsimp only;ext⟩⟩
     show ag ⟨⟨_,rfl⟩,rfl,⟨nn,by dsimp only;ext,by dsimp only;ext⟩,by dsimp only;ext⟩
    rw[if_neg y];have z:k1=0:=by ext
    subst z;have n4:=n3 (by ext);rw[iA (by ext)] at n4;have nn:=m.fD sa e (show d+k<a.toList.length by simp;ext) (show f+1<b.toList.length by simp;ext) (by simpa using n4);rw[aw,<-aH] at nn;show ai (gL (show d+k<a.size by ext) ?_);by_cases l:d+k+1+1=a.size
    .rw[if_pos (by simpa using l)];show ag ⟨⟨_,rfl⟩,.inl ⟨_,rfl,rq nn sa e ha l v⟩⟩
    rw[if_neg (by simpa using l)];have nl:=nn.len;rw[af] at nl;split
    .exact ag ⟨⟨_,rfl⟩,.inr ⟨rfl,⟨nn,by dsimp only;ext,by dsimp only;ext⟩,by dsimp only;ext⟩⟩
    show ag ⟨⟨_,rfl⟩,rfl,⟨nn,by dsimp only;ext,by dsimp only;ext⟩,by dsimp only;ext⟩
   rw[if_neg kp];have z:k=0:=by ext
   subst z;have B:=H (by ext);rw[iA (by ext)] at B;have m:=h.mi.i6 sa e (show d<a.toList.length by simp;ext) (show f<b.toList.length by simpa using lb) (by simp only[aw];show cD B);rw[aw,<-aH] at m;show ai (gL lb ?_);by_cases t:f+1=b.size
   .rw[if_pos (by simpa using t)];show ag ⟨⟨_,rfl⟩,.inl ⟨_,rfl,rA m sa e (.inr t)⟩⟩
   rw[if_neg (by simpa using t)];show ai (gL (show d<a.size by ext) ?_);obtain⟨k1,w⟩:=BM e (f+1) (a[d]'(by ext));show ai (p6 R F ob (C _ (aV _)) (by ext) (by ext) w ?_);dsimp only;obtain⟨n1,n2,n3⟩:=m.ni sa e (by ext) (by ext) w;by_cases y:k1>0
   .rw[if_pos y];by_cases p:f+1+k1=b.size
    .rw[if_pos (by simpa using p)];show ag ⟨⟨_,rfl⟩,.inl ⟨_,rfl,rA n1 sa e (.inr p)⟩⟩
    rw[if_neg (by simpa using p)];have n4:=n3 (by ext);rw[iA (by ext)] at n4;have nn:=n1.fD sa e (show d<a.toList.length by simp;ext) (show f+1+k1<b.toList.length by simp;ext) (by simpa using n4);rw[aw,<-aH] at nn;show ai (gL (show d<a.size by ext) ?_);by_cases l:d+1+1=a.size
    .rw[if_pos (by simpa using l)];show ag ⟨⟨_,rfl⟩,.inl ⟨_,rfl,rq nn sa e ha l v⟩⟩
    rw[if_neg (by simpa using l)];have nl:=nn.len;rw[af] at nl;split
    .exact ag ⟨⟨_,rfl⟩,.inr ⟨rfl,⟨nn,by dsimp only;ext,by dsimp only;ext⟩,by dsimp only;ext⟩⟩
    show ag ⟨⟨_,rfl⟩,rfl,⟨nn,by dsimp only;ext,by dsimp only;ext⟩,by dsimp only;ext⟩
   rw[if_neg y];have z:k1=0:=by ext
   subst z;have n4:=n3 (by ext);rw[iA (by ext)] at n4;have nn:=m.fD sa e (show d<a.toList.length by simp;ext) (show f+1<b.toList.length by simp;ext) (by simpa using n4);rw[aw,<-aH] at nn;show ai (gL (show d<a.size by ext) ?_);by_cases l:d+1+1=a.size
   .rw[if_pos (by simpa using l)];show ag ⟨⟨_,rfl⟩,.inl ⟨_,rfl,rq nn sa e ha l v⟩⟩
   rw[if_neg (by simpa using l)];have nl:=nn.len;rw[af] at nl;split
   .exact ag ⟨⟨_,rfl⟩,.inr ⟨rfl,⟨nn,by dsimp only;ext,by dsimp only;ext⟩,by dsimp only;ext⟩⟩
   show ag ⟨⟨_,rfl⟩,rfl,⟨nn,by dsimp only;ext,by dsimp only;ext⟩,by dsimp only;ext⟩
  .rintro⟨c1,out,d,f,mg,ac,K⟩ n ⟨⟨g,rfl⟩,o,h,hsz⟩;dsimp only at o h hsz ⊢;show⟨⟨g,rfl⟩,.inr ⟨o,h,hsz⟩⟩
  rintro⟨c1,out,d,f,mg,ac,K⟩ n ⟨⟨g,rfl⟩,I⟩;dsimp only at I ⊢;rcases I with⟨r,rfl,O⟩ | ⟨rfl,h,hsz⟩
  .exact ag ⟨g,r,rfl,rfl,O⟩
  dsimp only;rw[yj];show ai (cK (ag ⟨⟨_,rfl⟩,rfl,h,hsz⟩))
 .rintro⟨c1,out,d,f,mg⟩ n ⟨⟨g,rfl⟩,o,h,hsz⟩;dsimp only at o h hsz ⊢;exfalso
  have Z:=h.mi.len;have h2:=h.la;have h3:=h.lb;rw[af] at Z;rw[cS (aZ _)] at hsz;ext
 rintro⟨c1,out,d,f,mg⟩ n ⟨g,r,rfl,rfl,g1,g2⟩;show ag (q r g g1 g2)
section
variable{α:Type}(rk:α->Int)
structure MH(a b out:List α)(na nb:Nat):Prop where
 la:na<=a.length
 lb:nb<=b.length
 pm:out.reverse.Perm (a.drop na++b.drop nb)
 so:out.reverse.Pairwise λx y=>rk x<=rk y
 ga:∀y∈a.take na,∀x∈out,rk y<=rk x
 gb:∀y∈b.take nb,∀x∈out,rk y<=rk x
variable{rk}
theorem MH.len{a b out:List α}{na nb:Nat}(h:MH rk a b out na nb):out.length+na+nb=a.length+b.length:=by
 have:=h.pm.length_eq;rw[aD,cB,cB,List.length_reverse] at this;have:=h.la;have:=h.lb;ext
theorem MH.swap{a b out:List α}{na nb:Nat}(h:MH rk a b out na nb):MH rk b a out nb na:=⟨h.lb,h.la,h.pm.trans List.perm_append_comm,h.so,h.gb,h.ga⟩
theorem Lh{l:List α}{n t:Nat}(a:t<=n):l.take n=l.take t++(l.take n).drop t:=by
 have:=(bI t (l.take n)).symm;rwa [List.take_take,Nat.min_eq_left a] at this
theorem MH.iO{a b out:List α}{na nb:Nat}(h:MH rk a b out na nb)(sa:a.Pairwise λx y=>rk x<=rk y){t:Nat}(f:t<=na)(i:∀x∈(a.take na).drop t,∀y∈b.take nb,rk y<=rk x):MH rk a b (out++((a.take na).drop t).reverse) t nb:=by
 have j:=h.la;have d:(a.take na).Pairwise λx y=>rk x<=rk y:=sa.sublist (List.take_sublist _ _)
 rw[Lh f,bx] at d;have ga:=h.ga;rw[Lh f] at ga;have g:(out++((a.take na).drop t).reverse).reverse=(a.take na).drop t++out.reverse:=by rw[List.reverse_append,List.reverse_reverse]
 show⟨by ext,h.lb,?_,?_,λy c x hx=>?_,λy c x hx=>?_⟩
 .rw[g];show(h.pm.append_left _).trans ?_;rw[<-bw];show List.Perm.append_right _ ?_;have:a.drop t=(a.take na).drop t++a.drop na:=by
   have e:a=a.take na++a.drop na:=(bI na a).symm;rw[show a.drop t=(a.take na++a.drop na).drop t by rw[<-e],List.drop_append_of_le_length (by simp;ext)]
  rw[this]
 .rw[g,bx];show⟨d.2.1,h.so,λx hx y c=>ga x (aQ _ hx) y (List.mem_reverse.mp c)⟩
 .rcases au.mp hx with hx | hx
  .exact ga y (bF _ c) x hx
  show d.2.2 y c x (List.mem_reverse.mp hx)
 rcases au.mp hx with hx | hx
 .exact h.gb y c x hx
 show i x (List.mem_reverse.mp hx) y c
theorem MH.lW{a b out:List α}{na nb:Nat}(h:MH rk a b out na nb)(c:b.Pairwise λx y=>rk x<=rk y){t:Nat}(d:t<=nb)(ha:∀x∈(b.take nb).drop t,∀y∈a.take na,rk y<=rk x):MH rk a b (out++((b.take nb).drop t).reverse) na t:=(h.swap.iO c d ha).swap
theorem K9{l:List α}{n:Nat}(h:n<l.length):(l.take (n+1)).drop n=[l[n]]:=by
 rw[br,ah h,List.drop_append_of_le_length (by simp;ext),List.drop_eq_nil_of_le (by rw[aT];ext)];rfl
theorem SS{l:List α}(s:l.Pairwise λx y=>rk x<=rk y){n:Nat}(h:n<l.length):∀y∈l.take (n+1),rk y<=rk l[n]:=by
 intro y a;obtain⟨i,hi,rfl⟩:=bW a;have b:i<=n:=by simp at hi;ext
 rw[List.getElem_take];by_cases e:i=n
 .subst e;show cL _
 show List.pairwise_iff_getElem.mp s i n (by ext) h (by ext)
theorem MH.fD{a b out:List α}{na nb:Nat}(h:MH rk a b out (na+1) (nb+1))(sa:a.Pairwise λx y=>rk x<=rk y)(d:b.Pairwise λx y=>rk x<=rk y)(hi:na<a.length)(f:nb<b.length)(c:rk b[nb]<=rk a[na]):MH rk a b (out++[a[na]]) na (nb+1):=by
 have:=h.iO sa (t:=na) (by ext) (λx hx y e=>by
  rw[K9 hi] at hx;simp at hx;subst hx;show Int.le_trans (SS d f y e) c)
 rwa [K9 hi] at this
theorem MH.i6{a b out:List α}{na nb:Nat}(h:MH rk a b out (na+1) (nb+1))(sa:a.Pairwise λx y=>rk x<=rk y)(d:b.Pairwise λx y=>rk x<=rk y)(hi:na<a.length)(e:nb<b.length)(c:rk a[na]<=rk b[nb]):MH rk a b (out++[b[nb]]) (na+1) nb:=(h.swap.fD d sa e hi c).swap
theorem MH.kg{a b out:List α}{na nb:Nat}(h:MH rk a b out na nb)(sa:a.Pairwise λx y=>rk x<=rk y)(g:b.Pairwise λx y=>rk x<=rk y)(d:∀x∈a.take na,∀y∈b.take nb,rk x<=rk y) :
  (a.take na++b.take nb++out.reverse).Perm (a++b)/\(a.take na++b.take nb++out.reverse).Pairwise λx y=>rk x<=rk y:=by
 have i:=h.lW g (t:=0) (aZ _) (λx hx y c=>d y c x (by simpa using hx));have f:=i.iO sa (t:=0) (aZ _) (λx hx y c=>by simp at c);have e:(out++((b.take nb).drop 0).reverse++((a.take na).drop 0).reverse).reverse=a.take na++b.take nb++out.reverse:=by simp
 have p:=f.pm;have s:=f.so;rw[e] at p s;show⟨by simpa using p,s⟩
theorem MH.nu{a b out:List α}{na nb:Nat}(h:MH rk a b out na nb)(sa:a.Pairwise λx y=>rk x<=rk y)(d:b.Pairwise λx y=>rk x<=rk y)(c:∀x∈b.take nb,∀y∈a.take na,rk x<=rk y) :
  (b.take nb++a.take na++out.reverse).Perm (a++b)/\(b.take nb++a.take na++out.reverse).Pairwise λx y=>rk x<=rk y:=by
 obtain⟨f,e⟩:=h.swap.kg d sa c;show⟨f.trans List.perm_append_comm,e⟩
end
theorem Ui(a b:Array Keyed):Ew a b=(do
 rule "list.sort.merge-hi"
 let total:=a.size+b.size
 let done (out:Array Keyed) (na nb:Nat):=a.extract 0 na++b.extract 0 nb++out.reverse
 let c (out:Array Keyed) (na nb:Nat):=b.extract 0 nb++a.extract 0 na++out.reverse
 let mut na:=a.size-1
 let mut nb:=b.size
 let mut out:Array Keyed:=#[<-elem' a na]
 if na==0 then return done out na nb
 if nb==1 then return c out na nb
 let mut minGallop:=gallopOf (<-get)
 for _ in [0:total] do
  let mut gz:=0
  let mut gy:=0
  for _ in [0:total] do
   let some d <-lt' (<-elem' b (nb-1)) (<-elem' a (na-1)) | return done out na nb
   if d then
    na:=na-1;out:=out.push (<-elem' a na);gz:=gz+1;gy:=0
    if na==0 then return done out na nb
    if gz>=minGallop then break
   else
    nb:=nb-1;out:=out.push (<-elem' b nb);gy:=gy+1;gz:=0
    if nb==1 then return c out na nb
    if gy>=minGallop then break
  rule "list.sort.gallop"
  minGallop:=minGallop+1
  for _ in [0:total] do
   if minGallop>1 then minGallop:=minGallop-1
   zY minGallop
   let some at_ <-vg false (<-elem' b (nb-1)) a 0 na (na-1) | return done out na nb
   let k:=na-at_
   gz:=k
   if k>0 then
    out:=out++(a.extract at_ na).reverse;na:=at_
    if na==0 then return done out na nb
   nb:=nb-1;out:=out.push (<-elem' b nb)
   if nb==1 then return c out na nb
   let some at_ <-vg true (<-elem' a (na-1)) b 0 nb (nb-1) | return done out na nb
   let k:=nb-at_
   gy:=k
   if k>0 then
    out:=out++(b.extract at_ nb).reverse;nb:=at_
    if nb==1 then return c out na nb
    if nb==0 then return done out na nb
   na:=na-1;out:=out.push (<-elem' a na)
   if na==0 then return done out na nb
   if gz<7&&gy<7 then break
  minGallop:=minGallop+1
  zY minGallop
 unsupported "internal:list.sort.merge-bound"):=rfl
theorem B4(a:Array Keyed)(n:Nat):(a.extract 0 n).toList=a.toList.take n:=by
 rw[Array.toList_extract];simp[List.extract]
theorem Kg(a:Array Keyed){t n:Nat}(h:n<=a.size):(a.extract t n).toList=(a.toList.take n).drop t:=by
 rw[Array.toList_extract];simp only[List.extract];rw[List.drop_take]
structure Mv(rk:Keyed->Int)(a b out:Array Keyed)(na nb:Nat):Prop where
 mh:MH rk a.toList b.toList out.toList na nb
 la:0<na
 lb:1<nb
section
variable{rk:Keyed->Int}{a b out:Array Keyed}{na nb:Nat}
theorem pj(h:MH rk a.toList b.toList out.toList na nb)(sa:gn rk a.toList)(d:gn rk b.toList)(hi:na=0\/nb=0):pW rk a b (a.extract 0 na++b.extract 0 nb++out.reverse):=by
 obtain⟨g,f⟩:=h.kg sa d (λx hx y c=>by
  rcases hi with e | e
  .rw[e] at hx;simp at hx
  .rw[e] at c;simp at c)
 unfold pW gn;rw[bL,bL,B4,B4,Array.toList_reverse];show⟨g,f⟩
theorem tR(h:MH rk a.toList b.toList out.toList na nb)(sa:gn rk a.toList)(c:gn rk b.toList)(g:0<b.size)(hi:nb=1)(k:∀x∈a,rk b[0]<rk x):pW rk a b (b.extract 0 nb++a.extract 0 na++out.reverse):=by
 obtain⟨j,i⟩:=h.nu sa c (λx hx y d=>by
  have e:b.toList.take nb=[b[0]]:=by
   have f:0<b.toList.length:=by simpa using g
   rw[hi,show(1:Nat)=0+1 from rfl,br,ah f];simp
  rw[e] at hx;simp at hx;subst hx;have:=k y (by simpa using List.mem_of_mem_take d);ext)
 unfold pW gn;rw[bL,bL,B4,B4,Array.toList_reverse];show⟨j,i⟩
theorem EH{t n:Nat}(d:n<=a.size){x:Keyed}(hx:x∈(a.toList.take n).drop t):∃u,t<=u/\u<n/\x=a.getD u dk:=by
 obtain⟨u,b,e⟩:=bW hx;have c:t+u<n:=by simp at b;ext
 show⟨t+u,by ext,c,?_⟩;rw[iA (by ext),<-e];simp
theorem IQ{n:Nat}(b:n<=a.size){x:Keyed}(hx:x∈a.toList.take n):∃u,u<n/\x=a.getD u dk:=by
 obtain⟨u,_,d,c⟩:=EH (a:=a) (t:=0) b (x:=x) (by simpa using hx);show⟨u,d,c⟩
theorem MH.tf{c t:Nat}(h:MH rk a.toList b.toList out.toList na (c+1))(sa:gn rk a.toList)(j:gn rk b.toList)(lb:c<b.size)(d:Cut (λi=>if false=true then decide (rk (a.getD (0+i) dk)<rk b[c]) else !decide (rk b[c]<rk (a.getD (0+i) dk))) na t) :
  MH rk a.toList b.toList (out++(a.extract t na).reverse).toList t (c+1)/\t<=na/\∀u,u+1=t->rk (a.getD u dk)<=rk b[c]:=by
 have f:=h.la;rw[af] at f;show⟨?_,d.1,λu n=>?_⟩
 .rw[bL,Array.toList_reverse,Kg a f];show h.iO sa d.1 λx hx y k=>?_
  obtain⟨u,m,g,rfl⟩:=EH f hx;obtain⟨v,v1,rfl⟩:=IQ (by ext) k;have e:=mt (d.2 u g).mp (by ext);have l:=vh (rk:=rk) j (show v<=c by ext) lb;rw[iA lb] at l;simp only[aq,aR,b9,bA,Nat.zero_add] at e;ext
 have:=d.1;have e:=(d.2 u (by ext)).mpr (by ext);simpa using e
theorem MH.ni{c t:Nat}(h:MH rk a.toList b.toList out.toList (c+1) nb)(sa:gn rk a.toList)(j:gn rk b.toList)(la:c<a.size)(d:Cut (λi=>if true=true then decide (rk (b.getD (0+i) dk)<rk a[c]) else !decide (rk a[c]<rk (b.getD (0+i) dk))) nb t) :
  MH rk a.toList b.toList (out++(b.extract t nb).reverse).toList (c+1) t/\t<=nb/\∀u,u+1=t->rk (b.getD u dk)<rk a[c]:=by
 have f:=h.lb;rw[af] at f;show⟨?_,d.1,λu n=>?_⟩
 .rw[bL,Array.toList_reverse,Kg b f];show h.lW j d.1 λx hx y k=>?_
  obtain⟨u,m,g,rfl⟩:=EH f hx;obtain⟨v,v1,rfl⟩:=IQ (by ext) k;have e:=mt (d.2 u g).mp (by ext);have l:=vh (rk:=rk) sa (show v<=c by ext) la;rw[iA la] at l;simp only[aX,ba,Nat.zero_add] at e;ext
 have:=d.1;have e:=(d.2 u (by ext)).mpr (by ext);simpa using e
end
theorem Ig{rk:Keyed->Int}{a:Array Keyed}(sa:gn rk a.toList){n:Nat}(c:n<=a.size)(key:Keyed):∃k,Cut (λi=>if false=true then decide (rk (a.getD (0+i) dk)<rk key) else !decide (rk key<rk (a.getD (0+i) dk))) n k:=
 vd _ _ λi j b d h=>by
  have:=vh (rk:=rk) sa (show 0+i<=0+j by ext) (by ext);simp only[aq,aR,b9,bA] at h ⊢;ext
theorem BL{rk:Keyed->Int}{b:Array Keyed}(a:gn rk b.toList){n:Nat}(d:n<=b.size)(key:Keyed):∃k,Cut (λi=>if true=true then decide (rk (b.getD (0+i) dk)<rk key) else !decide (rk key<rk (b.getD (0+i) dk))) n k:=
 vd _ _ λi j c e h=>by
  have:=vh (rk:=rk) a (show 0+i<=0+j by ext) (by ext);simp only[aX,ba] at h ⊢;ext
variable{M:Model}{A:Around}{E:Value->Shared->Prop}{s:Shared}
theorem Uh{X:SortKind}{ok:Keyed->Prop}{rk:Keyed->Int}(R:Rk M A E s X ok rk){a b:Array Keyed}{Q:Array Keyed->SortSt->Prop}{st:SortSt}(J:kindOf st=X)(H:∀x∈a,ok x)(ob:∀x∈b,ok x)(sa:gn rk a.toList)(d:gn rk b.toList)(ha:0<a.size)(F:0<b.size)
  (G:∀x∈a,rk b[0]<rk x) (h9:rk (b[b.size-1])<rk (a[a.size-1])) (q:∀(r:Array Keyed) g,r.toList.Perm (a.toList++b.toList)->gn rk r.toList->Q r (oi st g)):wpS M A E s (Ew a b) Q st:=by
 rw[Ui];show ai (wb ?_);show ai (gL (show a.size-1<a.size by ext) ?_);dsimp only;have U:st=oi st (gallopOf st):=rfl;have m0:MH rk a.toList b.toList (#[a[a.size-1]]:Array Keyed).toList (a.size-1) b.size:=by
  have n0:MH rk a.toList b.toList [] (a.size-1+1) (b.size-1+1):=⟨by simp;ext,by simp;ext,by
   rw[show a.size-1+1=a.size by ext,show b.size-1+1=b.size by ext];simp,.nil,λy _ x hx=>(by cases hx),λy _ x hx=>(by cases hx)⟩
  have:=n0.fD sa d (by simp;ext) (by simp;ext) (by simp only[aw];ext);rw[show b.size-1+1=b.size by ext] at this;simpa using this
 by_cases c1:a.size-1=0
 .rw[if_pos (by simpa using c1)];show ag ?_;rw[U];obtain⟨g1,g2⟩:=pj m0 sa d (.inl c1);show q _ _ g1 g2
 rw[if_neg (by simpa using c1)];by_cases W:b.size=1
 .rw[if_pos (by simpa using W)];show ag ?_;rw[U];obtain⟨g1,g2⟩:=tR m0 sa d F W G;show q _ _ g1 g2
 rw[if_neg (by simpa using W)];show ai (wpS_get ?_);show ai (cH (bB (Q:=λ(c:Option (Array Keyed)×Nat×Nat×Array Keyed×Nat) k=>∃g r,k=oi st g/\c.1=some r/\pW rk a b r) (λi (c:Option (Array Keyed)×Nat×Nat×Array Keyed×Nat) k=>(∃g,k=oi st g)/\c.1=none/\Mv rk a b c.2.2.2.1 c.2.1 c.2.2.1/\i<c.2.2.2.1.size) ?_ ?_ ⟨⟨_,U⟩,rfl,⟨m0,by dsimp only;ext,by dsimp only;ext⟩,by simp⟩) ?_)
 .rintro i ⟨c1,na,nb,out,mg⟩ k _ qo ⟨⟨g,rfl⟩,l,e,hsz⟩;dsimp only at l e hsz ⊢;subst l;show ai (cH (bB (Q:=λ(c:Option (Array Keyed)×Nat×Nat×Array Keyed×Nat×Nat) k=>(k=oi st g)/\((∃r,c.1=some r/\pW rk a b r)\/(c.1=none/\Mv rk a b c.2.2.2.1 c.2.1 c.2.2.1/\i+1<c.2.2.2.1.size)))
   (λj (c:Option (Array Keyed)×Nat×Nat×Array Keyed×Nat×Nat) k=>(k=oi st g)/\c.1=none/\Mv rk a b c.2.2.2.1 c.2.1 c.2.2.1/\i+j<c.2.2.2.1.size) ?_ ?_ ⟨rfl,rfl,e,by dsimp only;ext⟩) ?_)
  .rintro j ⟨c1,na,nb,out,ac,O⟩ k _ G9 ⟨rfl,l,e,hsz⟩;dsimp only at l e hsz ⊢;subst l;have la:=e.la;have lb:=e.lb;have Xh:=e.mh.la;have z:=e.mh.lb;rw[af] at Xh z;obtain⟨na,rfl⟩:∃n,na=n+1:=⟨na-1,by ext⟩
   obtain⟨nb,rfl⟩:∃n,nb=n+1:=⟨nb-1,by ext⟩
   simp only[Nat.add_sub_cancel];show ai (gL (show nb<b.size by ext) (ai (gL (show na<a.size by ext) (ai (R.lt _ _ _ _ (ob _ (aV _)) (H _ (aV _)) J ?_)))));dsimp only;by_cases Z:rk (b[nb]'(by ext))<rk (a[na]'(by ext))
   .simp only[Z,cw,aX];have P:=e.mh.fD sa d (show na<a.toList.length by simp;ext) (show nb<b.toList.length by simp;ext) (by simp only[aw];ext);rw[aw,<-aH] at P;show ai (gL (show na<a.size by ext) ?_);by_cases w:na=0
    .rw[if_pos (by simpa using w)];show ag ⟨rfl,.inl ⟨_,rfl,pj P sa d (.inl w)⟩⟩
    rw[if_neg (by simpa using w)];split
    .exact ag ⟨rfl,.inr ⟨rfl,⟨P,by dsimp only;ext,lb⟩,by simp;ext⟩⟩
    show ag ⟨rfl,rfl,⟨P,by dsimp only;ext,lb⟩,by simp;ext⟩
   simp only[Z,bS,aq,aR];have h:=e.mh.i6 sa d (show na<a.toList.length by simp;ext) (show nb<b.toList.length by simp;ext) (by simp only[aw];ext);rw[aw,<-aH] at h;show ai (gL (show nb<b.size by ext) ?_);by_cases w:nb=1
   .rw[if_pos (by simpa using w)];show ag ⟨rfl,.inl ⟨_,rfl,tR h sa d F w G⟩⟩
   rw[if_neg (by simpa using w)];split
   .exact ag ⟨rfl,.inr ⟨rfl,⟨h,la,by dsimp only;ext⟩,by simp;ext⟩⟩
   show ag ⟨rfl,rfl,⟨h,la,by dsimp only;ext⟩,by simp;ext⟩
  .rintro⟨c1,na,nb,out,ac,O⟩ k ⟨rfl,l,e,hsz⟩;dsimp only at l e hsz ⊢;show⟨rfl,.inr ⟨l,e,by rw[cS (aZ _)] at hsz;ext⟩⟩
  rintro⟨c1,na,nb,out,ac,O⟩ k ⟨rfl,N⟩;dsimp only at N ⊢;rcases N with⟨r,rfl,V⟩ | ⟨rfl,e,hsz⟩
  .exact ag ⟨g,r,rfl,rfl,V⟩
  dsimp only;show ai (wb ?_);show ai (cH (bB (Q:=λ(c:Option (Array Keyed)×Nat×Nat×Array Keyed×Nat×Nat×Nat) k=>(∃g,k=oi st g)/\((∃r,c.1=some r/\pW rk a b r)\/(c.1=none/\Mv rk a b c.2.2.2.1 c.2.1 c.2.2.1/\i+1<c.2.2.2.1.size)))
   (λj (c:Option (Array Keyed)×Nat×Nat×Array Keyed×Nat×Nat×Nat) k=>(∃g,k=oi st g)/\c.1=none/\Mv rk a b c.2.2.2.1 c.2.1 c.2.2.1/\i+1<c.2.2.2.1.size) ?_ ?_ ⟨⟨_,rfl⟩,rfl,e,hsz⟩) ?_)
  .clear e hsz;rintro j ⟨c1,na,nb,out,mg,ac,O⟩ k _ G9 ⟨⟨g,rfl⟩,l,e,hsz⟩;dsimp only at l e hsz ⊢;subst l;have la:=e.la;have lb:=e.lb;have S:=e.mh.la;have Gs:=e.mh.lb;have ol:=e.mh.len;simp only[af] at S Gs ol;obtain⟨na,rfl⟩:∃n,na=n+1:=⟨na-1,by ext⟩
   obtain⟨nb,rfl⟩:∃n,nb=n+1:=⟨nb-1,by ext⟩
   have z:nb<b.size:=by ext
   simp only[Nat.add_sub_cancel];by_cases Y:mg>1
   .rw[if_pos Y];rw[yj];show ai (cK (ai (gL z ?_)));obtain⟨t,ct⟩:=Ig sa S b[nb];show ai (p6 R J H (ob _ (aV _)) (by ext) (by ext) ct ?_);dsimp only;obtain⟨L,m2,K⟩:=e.mh.tf sa d z ct;by_cases kp:na+1-t>0
    .rw[if_pos kp];by_cases w:t=0
     .rw[if_pos (by simpa using w)];show ag ⟨⟨_,rfl⟩,.inl ⟨_,rfl,pj L sa d (.inl w)⟩⟩
     rw[if_neg (by simpa using w)];obtain⟨t,rfl⟩:∃v,t=v+1:=⟨t-1,by ext⟩
     simp only[Nat.add_sub_cancel];have B:=K t rfl;rw[iA (by ext)] at B;have h:=L.i6 sa d (show t<a.toList.length by simp;ext) (show nb<b.toList.length by simpa using z) (by simpa using B);rw[aw,<-aH] at h;show ai (gL z ?_);by_cases p:nb=1
     .rw[if_pos (by simpa using p)];show ag ⟨⟨_,rfl⟩,.inl ⟨_,rfl,tR h sa d F p G⟩⟩
     rw[if_neg (by simpa using p)];show ai (gL (show t<a.size by ext) ?_);obtain⟨u,D⟩:=BL d (show nb<=b.size by ext) (a[t]'(by ext));show ai (p6 R J ob (H _ (aV _)) (by ext) (by ext) D ?_);dsimp only;obtain⟨n1,n2,n3⟩:=h.ni sa d (by ext) D;by_cases C:nb-u>0
     .rw[if_pos C];by_cases o:u=1
      .rw[if_pos (by simpa using o)];show ag ⟨⟨_,rfl⟩,.inl ⟨_,rfl,tR n1 sa d F o G⟩⟩
      rw[if_neg (by simpa using o)];by_cases m:u=0
      .rw[if_pos (by simpa using m)];show ag ⟨⟨_,rfl⟩,.inl ⟨_,rfl,pj n1 sa d (.inr m)⟩⟩
      rw[if_neg (by simpa using m)];obtain⟨u,rfl⟩:∃v,u=v+1:=⟨u-1,by ext⟩
      have n4:=n3 u rfl;rw[iA (by ext)] at n4;have nn:=n1.fD sa d (show t<a.toList.length by simp;ext) (show u<b.toList.length by simp;ext) (by simpa using cD n4);rw[aw,<-aH] at nn;show ai (gL (show t<a.size by ext) ?_);by_cases f:t=0
      .rw[if_pos (by simpa using f)];show ag ⟨⟨_,rfl⟩,.inl ⟨_,rfl,pj nn sa d (.inl f)⟩⟩
      rw[if_neg (by simpa using f)];have nl:=nn.len;simp only[af] at nl;split
      .exact ag ⟨⟨_,rfl⟩,.inr ⟨rfl,⟨nn,by dsimp only;ext,by dsimp only;ext⟩,by dsimp only;ext⟩⟩
      show ag ⟨⟨_,rfl⟩,rfl,⟨nn,by dsimp only;ext,by dsimp only;ext⟩,by dsimp only;ext⟩
     rw[if_neg C];have I:u=nb:=by ext
     subst I;obtain⟨u,rfl⟩:∃v,u=v+1:=⟨u-1,by ext⟩
     have n4:=n3 u rfl;rw[iA (by ext)] at n4;have nn:=h.fD sa d (show t<a.toList.length by simp;ext) (show u<b.toList.length by simp;ext) (by simpa using cD n4);rw[aw,<-aH] at nn;show ai (gL (show t<a.size by ext) ?_);by_cases f:t=0
     .rw[if_pos (by simpa using f)];show ag ⟨⟨_,rfl⟩,.inl ⟨_,rfl,pj nn sa d (.inl f)⟩⟩
     rw[if_neg (by simpa using f)];have nl:=nn.len;simp only[af] at nl;split
     .exact ag ⟨⟨_,rfl⟩,.inr ⟨rfl,⟨nn,by dsimp only;ext,by dsimp only;ext⟩,by dsimp only;ext⟩⟩
     show ag ⟨⟨_,rfl⟩,rfl,⟨nn,by dsimp only;ext,by dsimp only;ext⟩,by dsimp only;ext⟩
    rw[if_neg kp];have kt:t=na+1:=by ext
    subst kt;have T:MH rk a.toList b.toList out.toList (na+1) (nb+1):=e.mh;generalize na=t at *;have B:=K t rfl;rw[iA (by ext)] at B;have h:=T.i6 sa d (show t<a.toList.length by simp;ext) (show nb<b.toList.length by simpa using z) (by simpa using B);rw[aw,<-aH] at h;show ai (gL z ?_);by_cases p:nb=1
    .rw[if_pos (by simpa using p)];show ag ⟨⟨_,rfl⟩,.inl ⟨_,rfl,tR h sa d F p G⟩⟩
    rw[if_neg (by simpa using p)];show ai (gL (show t<a.size by ext) ?_);obtain⟨u,D⟩:=BL d (show nb<=b.size by ext) (a[t]'(by ext));show ai (p6 R J ob (H _ (aV _)) (by ext) (by ext) D ?_);dsimp only;obtain⟨n1,n2,n3⟩:=h.ni sa d (by ext) D;by_cases C:nb-u>0
    .rw[if_pos C];by_cases o:u=1
     .rw[if_pos (by simpa using o)];show ag ⟨⟨_,rfl⟩,.inl ⟨_,rfl,tR n1 sa d F o G⟩⟩
     rw[if_neg (by simpa using o)];by_cases m:u=0
     .rw[if_pos (by simpa using m)];show ag ⟨⟨_,rfl⟩,.inl ⟨_,rfl,pj n1 sa d (.inr m)⟩⟩
     rw[if_neg (by simpa using m)];obtain⟨u,rfl⟩:∃v,u=v+1:=⟨u-1,by ext⟩
     have n4:=n3 u rfl;rw[iA (by ext)] at n4;have nn:=n1.fD sa d (show t<a.toList.length by simp;ext) (show u<b.toList.length by simp;ext) (by simpa using cD n4);rw[aw,<-aH] at nn;show ai (gL (show t<a.size by ext) ?_);by_cases f:t=0
     .rw[if_pos (by simpa using f)];show ag ⟨⟨_,rfl⟩,.inl ⟨_,rfl,pj nn sa d (.inl f)⟩⟩
     rw[if_neg (by simpa using f)];have nl:=nn.len;simp only[af] at nl;split
     .exact ag ⟨⟨_,rfl⟩,.inr ⟨rfl,⟨nn,by dsimp only;ext,by dsimp only;ext⟩,by dsimp only;ext⟩⟩
     show ag ⟨⟨_,rfl⟩,rfl,⟨nn,by dsimp only;ext,by dsimp only;ext⟩,by dsimp only;ext⟩
    rw[if_neg C];have I:u=nb:=by ext
    subst I;obtain⟨u,rfl⟩:∃v,u=v+1:=⟨u-1,by ext⟩
    have n4:=n3 u rfl;rw[iA (by ext)] at n4;have nn:=h.fD sa d (show t<a.toList.length by simp;ext) (show u<b.toList.length by simp;ext) (by simpa using cD n4);rw[aw,<-aH] at nn;show ai (gL (show t<a.size by ext) ?_);by_cases f:t=0
    .rw[if_pos (by simpa using f)];show ag ⟨⟨_,rfl⟩,.inl ⟨_,rfl,pj nn sa d (.inl f)⟩⟩
    rw[if_neg (by simpa using f)];have nl:=nn.len;simp only[af] at nl;split
    .exact ag ⟨⟨_,rfl⟩,.inr ⟨rfl,⟨nn,by dsimp only;ext,by dsimp only;ext⟩,by dsimp only;ext⟩⟩
    show ag ⟨⟨_,rfl⟩,rfl,⟨nn,by dsimp only;ext,by dsimp only;ext⟩,by dsimp only;ext⟩
   rw[if_neg Y];rw[yj];show ai (cK (ai (gL z ?_)));obtain⟨t,ct⟩:=Ig sa S b[nb];show ai (p6 R J H (ob _ (aV _)) (by ext) (by ext) ct ?_);dsimp only;obtain⟨L,m2,K⟩:=e.mh.tf sa d z ct;by_cases kp:na+1-t>0
   .rw[if_pos kp];by_cases w:t=0
    .rw[if_pos (by simpa using w)];show ag ⟨⟨_,rfl⟩,.inl ⟨_,rfl,pj L sa d (.inl w)⟩⟩
    rw[if_neg (by simpa using w)];obtain⟨t,rfl⟩:∃v,t=v+1:=⟨t-1,by ext⟩
    simp only[Nat.add_sub_cancel];have B:=K t rfl;rw[iA (by ext)] at B;have h:=L.i6 sa d (show t<a.toList.length by simp;ext) (show nb<b.toList.length by simpa using z) (by simpa using B);rw[aw,<-aH] at h;show ai (gL z ?_);by_cases p:nb=1
    .rw[if_pos (by simpa using p)];show ag ⟨⟨_,rfl⟩,.inl ⟨_,rfl,tR h sa d F p G⟩⟩
    rw[if_neg (by simpa using p)];show ai (gL (show t<a.size by ext) ?_);obtain⟨u,D⟩:=BL d (show nb<=b.size by ext) (a[t]'(by ext));show ai (p6 R J ob (H _ (aV _)) (by ext) (by ext) D ?_);dsimp only;obtain⟨n1,n2,n3⟩:=h.ni sa d (by ext) D;by_cases C:nb-u>0
    .rw[if_pos C];by_cases o:u=1
     .rw[if_pos (by simpa using o)];show ag ⟨⟨_,rfl⟩,.inl ⟨_,rfl,tR n1 sa d F o G⟩⟩
     rw[if_neg (by simpa using o)];by_cases m:u=0
     .rw[if_pos (by simpa using m)];show ag ⟨⟨_,rfl⟩,.inl ⟨_,rfl,pj n1 sa d (.inr m)⟩⟩
     rw[if_neg (by simpa using m)];obtain⟨u,rfl⟩:∃v,u=v+1:=⟨u-1,by ext⟩
     have n4:=n3 u rfl;rw[iA (by ext)] at n4;have nn:=n1.fD sa d (show t<a.toList.length by simp;ext) (show u<b.toList.length by simp;ext) (by simpa using cD n4);rw[aw,<-aH] at nn;show ai (gL (show t<a.size by ext) ?_);by_cases f:t=0
     .rw[if_pos (by simpa using f)];show ag ⟨⟨_,rfl⟩,.inl ⟨_,rfl,pj nn sa d (.inl f)⟩⟩
     rw[if_neg (by simpa using f)];have nl:=nn.len;simp only[af] at nl;split
     .exact ag ⟨⟨_,rfl⟩,.inr ⟨rfl,⟨nn,by dsimp only;ext,by dsimp only;ext⟩,by dsimp only;ext⟩⟩
     show ag ⟨⟨_,rfl⟩,rfl,⟨nn,by dsimp only;ext,by dsimp only;ext⟩,by dsimp only;ext⟩
    rw[if_neg C];have I:u=nb:=by ext
    subst I;obtain⟨u,rfl⟩:∃v,u=v+1:=⟨u-1,by ext⟩
    have n4:=n3 u rfl;rw[iA (by ext)] at n4;have nn:=h.fD sa d (show t<a.toList.length by simp;ext) (show u<b.toList.length by simp;ext) (by simpa using cD n4);rw[aw,<-aH] at nn;show ai (gL (show t<a.size by ext) ?_);by_cases f:t=0
    .rw[if_pos (by simpa using f)];show ag ⟨⟨_,rfl⟩,.inl ⟨_,rfl,pj nn sa d (.inl f)⟩⟩
    rw[if_neg (by simpa using f)];have nl:=nn.len;simp only[af] at nl;split
    .exact ag ⟨⟨_,rfl⟩,.inr ⟨rfl,⟨nn,by dsimp only;ext,by dsimp only;ext⟩,by dsimp only;ext⟩⟩
    show ag ⟨⟨_,rfl⟩,rfl,⟨nn,by dsimp only;ext,by dsimp only;ext⟩,by dsimp only;ext⟩
   rw[if_neg kp];have kt:t=na+1:=by ext
   subst kt;have T:MH rk a.toList b.toList out.toList (na+1) (nb+1):=e.mh;generalize na=t at *;have B:=K t rfl;rw[iA (by ext)] at B;have h:=T.i6 sa d (show t<a.toList.length by simp;ext) (show nb<b.toList.length by simpa using z) (by simpa using B);rw[aw,<-aH] at h;show ai (gL z ?_);by_cases p:nb=1
   .rw[if_pos (by simpa using p)];show ag ⟨⟨_,rfl⟩,.inl ⟨_,rfl,tR h sa d F p G⟩⟩
   rw[if_neg (by simpa using p)];show ai (gL (show t<a.size by ext) ?_);obtain⟨u,D⟩:=BL d (show nb<=b.size by ext) (a[t]'(by ext));show ai (p6 R J ob (H _ (aV _)) (by ext) (by ext) D ?_);dsimp only;obtain⟨n1,n2,n3⟩:=h.ni sa d (by ext) D;by_cases C:nb-u>0
   .rw[if_pos C];by_cases o:u=1
    .rw[if_pos (by simpa using o)];show ag ⟨⟨_,rfl⟩,.inl ⟨_,rfl,tR n1 sa d F o G⟩⟩
    rw[if_neg (by simpa using o)];by_cases m:u=0
    .rw[if_pos (by simpa using m)];show ag ⟨⟨_,rfl⟩,.inl ⟨_,rfl,pj n1 sa d (.inr m)⟩⟩
    rw[if_neg (by simpa using m)];obtain⟨u,rfl⟩:∃v,u=v+1:=⟨u-1,by ext⟩
    have n4:=n3 u rfl;rw[iA (by ext)] at n4;have nn:=n1.fD sa d (show t<a.toList.length by simp;ext) (show u<b.toList.length by simp;ext) (by simpa using cD n4);rw[aw,<-aH] at nn;show ai (gL (show t<a.size by ext) ?_);by_cases f:t=0
    .rw[if_pos (by simpa using f)];show ag ⟨⟨_,rfl⟩,.inl ⟨_,rfl,pj nn sa d (.inl f)⟩⟩
    rw[if_neg (by simpa using f)];have nl:=nn.len;simp only[af] at nl;split
    .exact ag ⟨⟨_,rfl⟩,.inr ⟨rfl,⟨nn,by dsimp only;ext,by dsimp only;ext⟩,by dsimp only;ext⟩⟩
    show ag ⟨⟨_,rfl⟩,rfl,⟨nn,by dsimp only;ext,by dsimp only;ext⟩,by dsimp only;ext⟩
   rw[if_neg C];have I:u=nb:=by ext
   subst I;obtain⟨u,rfl⟩:∃v,u=v+1:=⟨u-1,by ext⟩
   have n4:=n3 u rfl;rw[iA (by ext)] at n4;have nn:=h.fD sa d (show t<a.toList.length by simp;ext) (show u<b.toList.length by simp;ext) (by simpa using cD n4);rw[aw,<-aH] at nn;show ai (gL (show t<a.size by ext) ?_);by_cases f:t=0
   .rw[if_pos (by simpa using f)];show ag ⟨⟨_,rfl⟩,.inl ⟨_,rfl,pj nn sa d (.inl f)⟩⟩
   rw[if_neg (by simpa using f)];have nl:=nn.len;simp only[af] at nl;split
   .exact ag ⟨⟨_,rfl⟩,.inr ⟨rfl,⟨nn,by dsimp only;ext,by dsimp only;ext⟩,by dsimp only;ext⟩⟩
   show ag ⟨⟨_,rfl⟩,rfl,⟨nn,by dsimp only;ext,by dsimp only;ext⟩,by dsimp only;ext⟩
  .rintro⟨c1,na,nb,out,mg,ac,O⟩ k ⟨⟨g,rfl⟩,l,e,hsz⟩;dsimp only at l e hsz ⊢;show⟨⟨g,rfl⟩,.inr ⟨l,e,hsz⟩⟩
  rintro⟨c1,na,nb,out,mg,ac,O⟩ k ⟨⟨g,rfl⟩,N⟩;dsimp only at N ⊢;rcases N with⟨r,rfl,V⟩ | ⟨rfl,e,hsz⟩
  .exact ag ⟨g,r,rfl,rfl,V⟩
  dsimp only;rw[yj];show ai (cK (ag ⟨⟨_,rfl⟩,rfl,e,hsz⟩))
 .rintro⟨c1,na,nb,out,mg⟩ k ⟨⟨g,rfl⟩,l,e,hsz⟩;dsimp only at l e hsz ⊢;exfalso
  have h1:=e.mh.len;have h2:=e.la;have h3:=e.lb;simp only[af] at h1;rw[cS (aZ _)] at hsz;ext
 rintro⟨c1,na,nb,out,mg⟩ k ⟨g,r,rfl,rfl,g1,g2⟩;show ag (q r g g1 g2)
theorem Ug(i:Nat):mergeAt' i=(do
 let s <-get
 let(some (sa,na,power),some (b,nb,_)):=((pendingOf s)[i]?,(pendingOf s)[i+1]?) | unsupported "internal:list.sort.pending"
 set (setPending s (((pendingOf s).setIfInBounds i (sa,na+nb,power)).eraseIdxIfInBounds (i+1)))
 let some k <-vg false (<-elem' (arrOf s) b) (arrOf s) sa na 0 | return false
 let(sa,na):=(sa+k,na-k)
 if na==0 then return true
 let some nb <-vg true (<-elem' (arrOf s) (sa+na-1)) (arrOf s) b nb (nb-1) | return false
 if nb==0 then return true
 let x:=(arrOf s).extract sa b
 let y:=(arrOf s).extract b (b+nb)
 let merged <-if na<=nb then Ex x y else Ew x y
 modify λs=>setArr s (merged.toList.zipIdx.foldl (λa (p,j)=>a.setIfInBounds (sa+j) p) (arrOf s))
 return (failedOf (<-get)).isNone):=rfl
variable{M:Model}{A:Around}{E:Value->Shared->Prop}{s:Shared}
theorem K8(b:Nat):∀(m l:List Keyed)(k:Nat),b+k+m.length<=l.length->
  (m.zipIdx k).foldl (λ(a:Array Keyed)(q:Keyed×Nat)=>a.setIfInBounds (b+q.2) q.1) l.toArray=(l.take (b+k)++m++l.drop (b+k+m.length)).toArray
 | [],l,k,h=>by simp
 | x::m,l,k,h=>by
  simp only[aG] at h;rw[List.zipIdx_cons,List.foldl_cons];dsimp only;rw[show l.toArray.setIfInBounds (b+k) x=(l.set (b+k) x).toArray by simp];rw[K8 b m (l.set (b+k) x) (k+1) (by rw[List.length_set];ext)];congr 1
  have c:(l.set (b+k) x).take (b+(k+1))=l.take (b+k)++[x]:=by
   rw[show b+(k+1)=b+k+1 by ext,br,List.take_set,List.getElem?_set_self (by ext)];rw[List.set_eq_of_length_le (by simp;ext)];rfl
  rw[c,List.drop_set_of_lt (by ext)];simp only[aG,bw,cq,List.nil_append];rw[show b+(k+1)+m.length=b+k+(m.length+1) by ext]
theorem P8{x:SortSt}{Q:PUnit->SortSt->Prop}{st:SortSt}(q:Q ⟨⟩ x):wpS M A E s (set x:StateT SortSt Sem PUnit) Q st:=cK (f:=λ_=>x) q
theorem B3{rk:Keyed->Int}{l:List Keyed}(h:gn rk l){i j:Nat}(b:i<=j)(a:j<l.length):rk (l[i]'(by ext))<=rk l[j]:=by
 by_cases e:i=j
 .subst e;show cL _
 show List.pairwise_iff_getElem.mp h i j (by ext) a (by ext)
theorem gn.app{rk:Keyed->Int}{l m:List Keyed}(b:gn rk l)(a:gn rk m)(h:∀x∈l,∀y∈m,rk x<=rk y):gn rk (l++m):=bx.mpr ⟨b,a,h⟩
theorem Ue{o:SortKind}{ok:Keyed->Prop}{rk:Keyed->Int}(R:Rk M A E s o ok rk){i B pb:Nat}{P X Y S:List Keyed}{Q:Bool->SortSt->Prop}{st:SortSt}(n:kindOf st=o)(U:failedOf st=none)(O:∀x∈arrOf st,ok x)
  (dec:(arrOf st).toList=P++(X++(Y++S))) (p1:(pendingOf st)[i]?=some (P.length,X.length,B)) (p2:(pendingOf st)[i+1]?=some (P.length+X.length,Y.length,pb)) (ha:0<X.length) (hb:0<Y.length) (v:gn rk X) (p:gn rk Y)
  (q:∀(Z:List Keyed) g,Z.Perm (X++Y)->gn rk Z->Q true (SortSt.mk' o (P++(Z++S)).toArray (((pendingOf st).setIfInBounds i (P.length,X.length+Y.length,B)).eraseIdxIfInBounds (i+1)) g none)):wpS M A E s (mergeAt' i) Q st:=by
 rw[Ug];show ai (wpS_get ?_);rw[p1,p2];dsimp only;show ai (P8 ?_);have hsz:(arrOf st).size=P.length+(X.length+(Y.length+S.length)):=by rw[<-af,dec];simp
 have H:arrOf st=(P++(X++(Y++S))).toArray:=by rw[<-dec]
 have F:∀t,(h:t<X.length)->(arrOf st).getD (P.length+t) dk=X[t]:=λt h=>by
  rw[iA (by ext)];simp[H,List.getElem_append_right,List.getElem_append_left,h]
 have D:∀t,(h:t<Y.length)->(arrOf st).getD (P.length+X.length+t) dk=Y[t]:=λt h=>by
  rw[iA (by ext)];have I:P.length+X.length+t-P.length-X.length=t:=by ext
  simp only[H,List.getElem_toArray];rw[List.getElem_append_right (by ext),List.getElem_append_right (by ext),List.getElem_append_left (by ext)];congr 1
 have Yl:(arrOf st)[P.length+X.length]'(by ext)=Y[0]:=by
  have:=D 0 hb;rw[iA (by ext)] at this;simpa using this
 show ai (gL (show P.length+X.length<(arrOf st).size by ext) ?_);rw[Yl]
 have G:∀x,x∈P\/x∈X\/x∈Y\/x∈S->ok x:=λx hx=>O x (by
  rw[<-bR,dec];simp only[au];show hx)
 obtain⟨k,K⟩:∃k,Cut (λi=>if false=true then decide (rk ((arrOf st).getD (P.length+i) dk)<rk Y[0]) else !decide (rk Y[0]<rk ((arrOf st).getD (P.length+i) dk))) X.length k:=by
  show vd _ _ λi j T C h=>?_
  have:=B3 v T C;rw[F j C] at h;rw[F i (by ext)];simp only[aq,aR,b9,bA] at h ⊢;ext
 have M3:=K.1;show ai (p6 R n O (G _ (.inr (.inr (.inl (cv _))))) (by ext) ha K ?_);dsimp only;have L:∀x∈X.take k,∀y∈Y,rk x<=rk y:=λx hx y f=>by
  obtain⟨t,l,rfl⟩:=bW hx;obtain⟨u,hu,rfl⟩:=bW f;have c:t<k:=by simp at l;ext
  have b:=(K.2 t (by ext)).mpr c;dsimp only at b;rw[F t (by ext)] at b;have h2:=B3 p (aZ u) hu;simp only[aq,aR,b9,bA] at b;rw[List.getElem_take];ext
 have x2:∀x∈X.drop k,rk Y[0]<rk x:=λx hx=>by
  obtain⟨t,l,rfl⟩:=bW hx;have c:k+t<X.length:=by simp at l;ext
  have b:=mt (K.2 (k+t) c).mp (by ext);dsimp only at b;rw[F _ c] at b;rw[List.getElem_drop];simpa using b
 have same:∀g,SortSt.mk' o (P++((X++Y)++S)).toArray (((pendingOf st).setIfInBounds i (P.length,X.length+Y.length,B)).eraseIdxIfInBounds (i+1)) g none=SortSt.mk' o (arrOf st) (((pendingOf st).setIfInBounds i (P.length,X.length+Y.length,B)).eraseIdxIfInBounds (i+1)) g none:=λg=>by
  rw[H];simp
 have whole:gn rk (X++Y)->Q true (setPending st (((pendingOf st).setIfInBounds i (P.length,X.length+Y.length,B)).eraseIdxIfInBounds (i+1))):=λh=>by
  have:=q (X++Y) (gallopOf st) (List.Perm.refl _) h;rw[same] at this;show Q true (SortSt.mk' (kindOf st) (arrOf st) _ (gallopOf st) (failedOf st));rw[n,U];show this
 by_cases e1:X.length-k=0
 .rw[if_pos (by simpa using e1)];show ag (whole (v.app p λx hx=>L x ?_));rw[bE (by ext)];show hx
 rw[if_neg (by simpa using e1)];have gl:(arrOf st)[P.length+k+(X.length-k)-1]'(by ext)=X[X.length-1]:=by
  have:=F (X.length-1) (by ext);rw[iA (by ext)] at this;rw[<-this];congr 1
  ext
 show ai (gL (show P.length+k+(X.length-k)-1<(arrOf st).size by ext) ?_);rw[gl];obtain⟨m,J⟩:∃m,Cut (λi=>if true=true then decide (rk ((arrOf st).getD (P.length+X.length+i) dk)<rk X[X.length-1]) else !decide (rk X[X.length-1]<rk ((arrOf st).getD (P.length+X.length+i) dk))) Y.length m:=by
  show vd _ _ λi j T C h=>?_
  have:=B3 p T C;rw[D j C] at h;rw[D i (by ext)];simp only[aX,ba] at h ⊢;ext
 have V:=J.1;show ai (p6 R n O (G _ (.inr (.inl (cv _)))) (by ext) (by ext) J ?_);dsimp only;have y1:∀y∈Y.take m,rk y<rk X[X.length-1]:=λy f=>by
  obtain⟨t,l,rfl⟩:=bW f;have c:t<m:=by simp at l;ext
  have b:=(J.2 t (by ext)).mpr c;dsimp only at b;rw[D t (by ext)] at b;rw[List.getElem_take];simpa using b
 have W:∀x∈X,∀y∈Y.drop m,rk x<=rk y:=λx hx y f=>by
  obtain⟨t,l,rfl⟩:=bW f;obtain⟨u,hu,rfl⟩:=bW hx;have c:m+t<Y.length:=by simp at l;ext
  have b:=mt (J.2 (m+t) c).mp (by ext);dsimp only at b;rw[D _ c] at b;have h2:=B3 v (show u<=X.length-1 by ext) (by ext);rw[List.getElem_drop];simp only[aX,ba] at b;ext
 by_cases I:m=0
 .rw[if_pos (by simpa using I)];show ag (whole (v.app p λx hx y f=>W x hx y ?_));rw[I];simpa using f
 rw[if_neg (by simpa using I)];have ex:((arrOf st).extract (P.length+k) (P.length+X.length)).toList=X.drop k:=by
  rw[Array.toList_extract,dec];simp only[List.extract];rw[List.drop_length_add_append,List.drop_append_of_le_length M3,show P.length+X.length-(P.length+k)=(X.drop k).length by rw[cB];ext,List.take_left]
 have e:((arrOf st).extract (P.length+X.length) (P.length+X.length+m)).toList=Y.take m:=by
  rw[Array.toList_extract,dec];simp only[List.extract];rw[List.drop_length_add_append,show X.length=X.length+0 from rfl,List.drop_length_add_append,List.drop_zero,show P.length+(X.length+0)+m-(P.length+(X.length+0))=m by ext,List.take_append_of_le_length V]
 have zx:((arrOf st).extract (P.length+k) (P.length+X.length)).size=X.length-k:=by rw[<-af,ex,cB]
 have zy:((arrOf st).extract (P.length+X.length) (P.length+X.length+m)).size=m:=by rw[<-af,e,aT];ext
 generalize (arrOf st).extract (P.length+k) (P.length+X.length)=x at ex zx ⊢;generalize (arrOf st).extract (P.length+X.length) (P.length+X.length+m)=y at e zy ⊢;have ox:∀z∈x,ok z:=λz hz=>G z (.inr (.inl (List.mem_of_mem_drop (by rw[<-ex];show bR.mpr hz))))
 have oy:∀z∈y,ok z:=λz hz=>G z (.inr (.inr (.inl (List.mem_of_mem_take (by rw[<-e];show bR.mpr hz)))))
 have sx:gn rk x.toList:=by rw[ex];show v.sublist (List.drop_sublist _ _)
 have sy:gn rk y.toList:=by rw[e];show p.sublist (List.take_sublist _ _)
 have Mi:0<x.size:=by ext
 have N:0<y.size:=by ext
 have Yh:y[0]=Y[0]:=by
  have:y.toList[0]'(by simpa using N)=Y[0]:=by simp only[e,List.getElem_take]
  simpa using this
 have Yi:x[x.size-1]=X[X.length-1]:=by
  have:x.toList[x.size-1]'(by simp;ext)=X[X.length-1]:=by
   simp only[ex,List.getElem_drop];congr 1
   ext
  simpa using this
 have fx:∀z∈x,rk y[0]<rk z:=λz hz=>by
  rw[Yh];show x2 z (by rw[<-ex];show bR.mpr hz)
 have fy:∀z∈y,rk z<rk (x[x.size-1]):=λz hz=>by
  rw[Yi];show y1 z (by rw[<-e];show bR.mpr hz)
 have fin:∀(r:Array Keyed) g,r.toList.Perm (x.toList++y.toList)->gn rk r.toList->Q true (SortSt.mk' o (r.toList.zipIdx.foldl (λ(a:Array Keyed)(z:Keyed×Nat)=>a.setIfInBounds (P.length+k+z.2) z.1) (arrOf st)) (((pendingOf st).setIfInBounds i (P.length,X.length+Y.length,B)).eraseIdxIfInBounds (i+1)) g none):=λr g d rs=>by
  have rl:=d.length_eq;rw[aD,ex,e,cB,aT,Nat.min_eq_left V] at rl;rw[ex,e] at d;have e9:=K8 (P.length+k) r.toList (P++(X++(Y++S))) 0 (by simp only[aD];ext);rw[<-H] at e9;rw[e9];have t1:(P++(X++(Y++S))).take (P.length+k+0)=P++X.take k:=by
   rw[Nat.add_zero,List.take_length_add_append,List.take_append_of_le_length M3]
  have t2:(P++(X++(Y++S))).drop (P.length+k+0+r.toList.length)=Y.drop m++S:=by
   rw[show P.length+k+0+r.toList.length=P.length+(X.length+m) by ext,List.drop_length_add_append,List.drop_length_add_append,List.drop_append_of_le_length V]
  rw[t1,t2];have:=q (X.take k++(r.toList++Y.drop m)) g ?_ ?_
  .simpa[bw] using this
  .have b:(X.take k++(r.toList++Y.drop m)).Perm (X.take k++((X.drop k++Y.take m)++Y.drop m)):=List.Perm.append_left _ (d.append_right _);show b.trans ?_;rw[bw,bI,<-bw,bI]
  have mr:∀z∈r.toList,z∈X.drop k\/z∈Y.take m:=λz hz=>au.mp (d.mem_iff.mp hz)
  have WK:gn rk (X.take k++X.drop k):=by rw[bI];show v
  have WJ:gn rk (Y.take m++Y.drop m):=by rw[bI];show p
  have d1:=(bx.mp WK)
  have d2:=(bx.mp WJ)
  show gn.app d1.1 (rs.app d2.2.1 λz hz w hw=>?_) λz hz w hw=>?_
  .rcases mr z hz with h | h
   .exact W z (List.mem_of_mem_drop h) w hw
   show d2.2.2 z h w hw
  rcases au.mp hw with hw | hw
  .rcases mr w hw with h | h
   .exact d1.2.2 z hz w h
   show L z hz w (List.mem_of_mem_take h)
  show L z hz w (List.mem_of_mem_drop hw)
 split
 .refine ai (Uj R n ox oy sx sy Mi N (fx _ (aV _)) fy λr g d rs=>?_);show ai (cK (ai (wpS_get (ag ?_))));have:=fin r g d rs;show Q (failedOf st).isNone (SortSt.mk' (kindOf st) _ _ g (failedOf st));rw[U,n];show this
 show ai (Uh R n ox oy sx sy Mi N fx (fy _ (aV _)) λr g d rs=>?_);show ai (cK (ai (wpS_get (ag ?_))));have:=fin r g d rs;show Q (failedOf st).isNone (SortSt.mk' (kindOf st) _ _ g (failedOf st));rw[U,n];show this
noncomputable def kr(rk:Keyed->Int)(xs:Array Keyed)(i:Nat):Int:=rk (xs.getD i dk)
def iF(rk:Keyed->Int)(xs:Array Keyed)(lo n:Nat):Prop:=∀i j,i<=j->j<n->kr rk xs (lo+i)<=kr rk xs (lo+j)
structure Sl(xs ys:Array Keyed)(lo n:Nat):Prop where
 pm:ys.Perm xs
 out:∀j,j<lo\/lo+n<=j->ys[j]?=xs[j]?
theorem Sl.size{xs ys:Array Keyed}{lo n:Nat}(h:Sl xs ys lo n):ys.size=xs.size:=h.pm.size_eq
theorem Sl.refl(xs:Array Keyed)(lo n:Nat):Sl xs xs lo n:=⟨Array.Perm.refl _,λ_ _=>rfl⟩
theorem Sl.trans{xs ys a:Array Keyed}{lo n:Nat}(h:Sl xs ys lo n)(h':Sl ys a lo n):Sl xs a lo n:=⟨h'.pm.trans h.pm,λj b=>(h'.out j b).trans (h.out j b)⟩
theorem zi{rk:Keyed->Int}{xs ys:Array Keyed}{i j:Nat}(h:ys[i]?=xs[j]?):kr rk ys i=kr rk xs j:=by
 unfold kr;rw[Array.getD_eq_getD_getElem?,Array.getD_eq_getD_getElem?,h]
variable{M:Model}{A:Around}{E:Value->Shared->Prop}{s:Shared}
theorem sj{a:SortKind}{ok:Keyed->Prop}{rk:Keyed->Int}(R:Rk M A E s a ok rk){i j:Nat}{Q:Option Bool->SortSt->Prop}{st:SortSt}(d:kindOf st=a)(b:∀x∈arrOf st,ok x)(hi:i<(arrOf st).size)(c:j<(arrOf st).size)
  (q:Q (some (decide (kr rk (arrOf st) i<kr rk (arrOf st) j))) st):wpS M A E s (ltAt' i j) Q st:=by
 rw[ltAt'_eq];show ai (wpS_get (ai (gL hi (ai (gL c ?_)))));show R.lt _ _ _ _ (b _ (aV _)) (b _ (aV _)) d ?_;unfold kr at q;rwa [iA hi,iA c] at q
theorem Sl.ok{xs ys:Array Keyed}{lo n:Nat}(h:Sl xs ys lo n){ok:Keyed->Prop}(a:∀x∈xs,ok x):∀x∈ys,ok x:=λx hx=>a x (h.pm.mem_iff.mp hx)
theorem SR{G:SortKind}{ok:Keyed->Prop}{rk:Keyed->Int}(R:Rk M A E s G ok rk){lo n t:Nat}{Q:Bool->SortSt->Prop}{st:SortSt}(S:kindOf st=G)(O:∀x∈arrOf st,ok x)(W:lo+n<=(arrOf st).size)(P:iF rk (arrOf st) lo t)(X:t<=n)
  (q:∀ys,Sl (arrOf st) ys lo n->iF rk ys lo n->Q true (setArr st ys)):wpS M A E s (binarySort' lo n t) Q st:=by
 rw[binarySort'_eq];show ai (cH (bB (I:=λk (c:Option Bool×Unit) b=>c.1=none/\∃ys,b=setArr st ys/\Sl (arrOf st) ys lo n/\iF rk ys lo (min k n))
  (Q:=λc b=>c.1=none/\∃ys,b=setArr st ys/\Sl (arrOf st) ys lo n/\iF rk ys lo n) ?step ?fin ?init) ?post)
 case post=>
  rintro⟨c,⟨⟩⟩ b ⟨a,ys,rfl,g,f⟩;dsimp only at a;subst a;show ag (q ys g f)
 case init=>
  show⟨rfl,arrOf st,rfl,Sl.refl _ _ _,λi j u v=>?_⟩;by_cases g:t=0
  .have:i=j:=by ext
   subst this;show cL _
  show P i j u (by ext)
 case fin=>
  rintro c b ⟨a,ys,rfl,g,f⟩;show⟨a,ys,rfl,g,by rwa [show min (max (max t 1) n) n=n by ext] at f⟩
 case step=>
  rintro k ⟨c,⟨⟩⟩ b Y V ⟨a,ys,rfl,g,f⟩;dsimp only at a ⊢;subst a;rw[show min k n=k by ext] at f;have hsz:=g.size;have N:=g.ok O;obtain⟨p,F⟩:∃p,Cut (λm=>!decide (kr rk ys (lo+k)<kr rk ys (lo+m))) k p:=by
   show vd _ _ λi j u v h=>?_
   have:=f i j u v;simp only[b9,bA] at h ⊢;ext
  have U:=F.1;show ai (cH (bB (I:=λj (c:Option Bool×Nat×Nat) b=>b=setArr st ys/\c.1=none/\c.2.1<=p/\p<=c.2.2/\c.2.2<=k/\c.2.2-c.2.1+j<=k)
   (Q:=λ(c:Option Bool×Nat×Nat) b=>b=setArr st ys/\c.1=none/\c.2.1=p) ?_ ?_ ⟨rfl,rfl,aZ _,U,ay _,by show k-0+0<=k;ext⟩) ?_)
  .rintro j ⟨c,l,r⟩ b _ v ⟨rfl,a,o,D,C,B⟩;dsimp only at a o D C B ⊢;subst a;by_cases hd:l>=r
   .rw[if_pos hd];show ag ⟨rfl,rfl,by dsimp only;ext⟩
   rw[if_neg hd];have T:l<=(l+r)/2/\(l+r)/2<r:=by ext
   generalize (l+r)/2=d at T ⊢;show ai (sj R S N (show lo+k<ys.size by ext) (show lo+d<ys.size by ext) ?_);have hm:=F.2 (d) (by ext);simp only[b9,bA] at hm;dsimp only;by_cases y:kr rk ys (lo+k)<kr rk ys (lo+d)
   .have:¬d<p:=λz=>hm.mpr z y
    rw[show decide (kr rk (arrOf (setArr st ys)) (lo+k)<kr rk (arrOf (setArr st ys)) (lo+d))=true from cP y];simp only[aX];show ag ⟨rfl,rfl,o,by dsimp only;ext,by dsimp only;ext,by dsimp only;ext⟩
   have:d<p:=hm.mp y;rw[show decide (kr rk (arrOf (setArr st ys)) (lo+k)<kr rk (arrOf (setArr st ys)) (lo+d))=false from bh y];simp only[aq,aR];show ag ⟨rfl,rfl,by dsimp only;ext,D,C,by dsimp only;ext⟩
  .rintro⟨c,l,r⟩ b ⟨rfl,a,o,D,C,B⟩;dsimp only at a o D C B ⊢;show⟨rfl,a,by rw[cS (aZ k)] at B;ext⟩
  rintro⟨c,l,r⟩ b ⟨rfl,a,o⟩;dsimp only at a o ⊢;subst a o;dsimp only;rw[moveDown'_eq];show ai (cK (ag ⟨rfl,bubble ys (lo+k) (lo+k-(lo+l)),rfl,g.trans ⟨bubble_perm _ _ _,λj v=>?_⟩,?_⟩))
  .rw[getElem?_bubble (by ext) _ (by ext),if_neg (by ext),if_neg (by ext)]
  rw[show min (k+1) n=k+1 by ext];have H:∀j,kr rk (bubble ys (lo+k) (lo+k-(lo+l))) (lo+j)=if j=l then kr rk ys (lo+k) else if l<j/\j<=k then kr rk ys (lo+(j-1)) else kr rk ys (lo+j):=λj=>by
   have e:=getElem?_bubble (xs:=ys) (src:=lo+k) (by ext) (lo+k-(lo+l)) (by ext) (lo+j);by_cases c1:j=l
   .rw[if_pos (by ext)] at e;rw[if_pos c1];show zi e
   rw[if_neg (by ext)] at e;rw[if_neg c1];by_cases J:l<j/\j<=k
   .rw[if_pos (by ext),show lo+j-1=lo+(j-1) by ext] at e;rw[if_pos J];show zi e
   rw[if_neg (by ext)] at e;rw[if_neg J];show zi e
  have below:∀m,m<l->kr rk ys (lo+m)<=kr rk ys (lo+k):=λm hm=>by
   have:=(F.2 m (by ext)).mpr hm;simp only[b9,bA] at this;ext
  have above:∀m,l<=m->m<k->kr rk ys (lo+k)<=kr rk ys (lo+m):=λm hm L=>by
   have:=mt (F.2 m L).mp (by ext);simp only[b9,bA] at this;ext
  intro i j u v;rw[H,H];by_cases a1:i=l
  .rw[if_pos a1];by_cases w:j=l
   .rw[if_pos w];show cL _
   rw[if_neg w,if_pos (by ext)];show above _ (by ext) (by ext)
  rw[if_neg a1];by_cases a2:l<i/\i<=k
  .rw[if_pos a2,if_neg (by ext),if_pos (by ext)];show f _ _ (by ext) (by ext)
  rw[if_neg a2];by_cases w:j=l
  .rw[if_pos w];show below i (by ext)
  rw[if_neg w];by_cases K:l<j/\j<=k
  .rw[if_pos K];show f _ _ (by ext) (by ext)
  rw[if_neg K];show f _ _ u (by ext)
theorem EX{rk:Keyed->Int}{xs:Array Keyed}{i j:Nat}(b:j<=xs.size)(k:Nat):kr rk (mirror xs i j ((j-i)/2)) k=if i<=k/\k<j then kr rk xs (i+j-1-k) else kr rk xs k:=by
 have e:=getElem?_mirror_all (i:=i) b k;by_cases a:i<=k/\k<j
 .rw[if_pos a] at e ⊢;show zi e
 rw[if_neg a] at e ⊢;show zi e
theorem um{xs:Array Keyed}{i j lo n:Nat}(a:j<=xs.size)(hi:lo<=i)(b:j<=lo+n):Sl xs (mirror xs i j ((j-i)/2)) lo n:=
 ⟨mirror_perm _ _ _ _,λk c=>by rw[getElem?_mirror_all a,if_neg (by ext)]⟩
theorem zG{rk:Keyed->Int}{xs:Array Keyed}{i j:Nat}(b:j<=xs.size)(a:∀k,i<=k->k<j->kr rk xs k=kr rk xs (j-1))(k:Nat):kr rk (mirror xs i j ((j-i)/2)) k=kr rk xs k:=by
 rw[EX b];split
 .rw[a _ (by ext) (by ext),a k (by ext) (by ext)]
 rfl
def Dec(rk:Keyed->Int)(xs:Array Keyed)(lo n:Nat):Prop:=∀i j,i<=j->j<n->kr rk xs (lo+j)<=kr rk xs (lo+i)
theorem iF.more{rk:Keyed->Int}{xs:Array Keyed}{lo n:Nat}(h:iF rk xs lo n)(c:1<=n)(d:kr rk xs (lo+n-1)<=kr rk xs (lo+n)):iF rk xs lo (n+1):=λi j a f=>by
 by_cases e:j=n
 .subst e;by_cases b:i=j
  .subst b;show cL _
  have:=h i (j-1) (by ext) (by ext);rw[show lo+(j-1)=lo+j-1 by ext] at this;ext
 show h i j a (by ext)
theorem Dec.more{rk:Keyed->Int}{xs:Array Keyed}{lo n:Nat}(h:Dec rk xs lo n)(c:1<=n)(d:kr rk xs (lo+n)<=kr rk xs (lo+n-1)):Dec rk xs lo (n+1):=λi j a f=>by
 by_cases e:j=n
 .subst e;by_cases b:i=j
  .subst b;show cL _
  have:=h i (j-1) (by ext) (by ext);rw[show lo+(j-1)=lo+j-1 by ext] at this;ext
 show h i j a (by ext)
theorem Dec.turn{rk:Keyed->Int}{xs:Array Keyed}{lo n:Nat}(h:Dec rk xs lo n)(a:lo+n<=xs.size):iF rk (mirror xs lo (lo+n) ((lo+n-lo)/2)) lo n:=λi j b c=>by
 rw[EX a,EX a,if_pos (by ext),if_pos (by ext)];have:=h (n-1-j) (n-1-i) (by ext) (by ext);rw[show lo+(lo+n)-1-(lo+i)=lo+(n-1-i) by ext,show lo+(lo+n)-1-(lo+j)=lo+(n-1-j) by ext];show this
variable{M:Model}{A:Around}{E:Value->Shared->Prop}{s:Shared}
theorem ug{i j:Nat}{Q:Unit->SortSt->Prop}{st:SortSt}(h:Q () (setArr st (mirror (arrOf st) i j ((j-i)/2)))):wpS M A E s (reverseSlice' i j) Q st:=by
 rw[reverseSlice'_eq];show cK h
theorem RX{U:SortKind}{ok:Keyed->Prop}{rk:Keyed->Int}(R:Rk M A E s U ok rk){lo h:Nat}{Q:Option Nat->SortSt->Prop}{st:SortSt}(C:kindOf st=U)(w:∀x∈arrOf st,ok x)(Y:lo+h<=(arrOf st).size)(Z:1<=h)
  (q:∀ys n,1<=n->n<=h->Sl (arrOf st) ys lo h->iF rk ys lo n->Q (some n) (setArr st ys)):wpS M A E s (countRun' lo h) Q st:=by
 rw[countRun'_eq];show ai (cH (bB (I:=λi (c:Option (Option Nat)×Nat) a=>a=st/\c.1=none/\c.2=i/\iF rk (arrOf st) lo i)
  (Q:=λ(c:Option (Option Nat)×Nat) a=>a=st/\c.1=none/\1<=c.2/\c.2<=h/\iF rk (arrOf st) lo c.2/\(c.2<h->kr rk (arrOf st) (lo+c.2)<kr rk (arrOf st) (lo+c.2-1))) ?_ ?_ ⟨rfl,rfl,rfl,λi j B D=>by rw[show i=j by ext];show cL _⟩) ?_)
 .rintro i ⟨c,n⟩ a F H ⟨rfl,b,e,d⟩;dsimp only at b e ⊢;subst b e;show ai (sj R C w (by ext) (by ext) ?_);dsimp only;by_cases m:kr rk (arrOf a) (lo+n)<kr rk (arrOf a) (lo+n-1)
  .simp only[m,cw,aX];show ag ⟨rfl,rfl,F,by dsimp only;ext,d,λ_=>m⟩
  simp only[m,bS,aq,aR];show ag ⟨rfl,rfl,rfl,d.more F (by ext)⟩
 .rintro⟨c,n⟩ a ⟨rfl,b,e,d⟩;dsimp only at b e ⊢;subst e;show⟨rfl,b,by ext,by ext,d,λz=>by ext⟩
 rintro⟨c,n⟩ a ⟨rfl,b,n1,n2,d,hd⟩;dsimp only at b n1 n2 d hd ⊢;subst b;dsimp only;by_cases X:n=h
 .rw[if_pos (by simpa using X)];show ag (q (arrOf a) n n1 n2 (Sl.refl _ _ _) d)
 rw[if_neg (by simpa using X)];have X2:=hd (by ext);by_cases W:n>1
 .rw[if_pos W];show ai (sj R C w (by ext) (by ext) ?_);dsimp only;by_cases V:kr rk (arrOf a) lo<kr rk (arrOf a) (lo+n-1)
  .simp only[V,cw,aX];show ag (q (arrOf a) n n1 n2 (Sl.refl _ _ _) d)
  simp only[V,bS,aq,aR];have same:∀k,lo<=k->k<lo+n->kr rk (arrOf a) k=kr rk (arrOf a) (lo+n-1):=λk k1 N=>by
   have a1:=d 0 (k-lo) (by ext) (by ext);have a2:=d (k-lo) (n-1) (by ext) (by ext);rw[show lo+(k-lo)=k by ext] at a1 a2;rw[show lo+(n-1)=lo+n-1 by ext] at a2;simp only[Nat.add_zero] at a1;ext
  have o:=zG (rk:=rk) (xs:=arrOf a) (i:=lo) (j:=lo+n) (by ext) same;have J:=um (xs:=arrOf a) (i:=lo) (j:=lo+n) (lo:=lo) (n:=h) (by ext) (by ext) (by ext);show ai (ug ?_);generalize mirror (arrOf a) lo (lo+n) ((lo+n-lo)/2)=G at o J;have O:Dec rk G lo (n+1):=by
   have T:Dec rk G lo n:=λi j B D=>by
    rw[o,o,same _ (by ext) (by ext),same (lo+i) (by ext) (by ext)];show cL _
   show T.more n1 ?_;rw[o,o];ext
  show ai (wb ?_);show ai (cH (bB (I:=λi (c:Option (Option Nat)×Nat×Nat) f=>∃ys,f=setArr a ys/\Sl (arrOf a) ys lo h/\c.1=none/\c.2.1=i/\Dec rk ys lo i/\c.2.2<i/\∀t,t<=c.2.2->kr rk ys (lo+i-1-t)=kr rk ys (lo+i-1))
   (Q:=λ(c:Option (Option Nat)×Nat×Nat) f=>∃ys,f=setArr a ys/\Sl (arrOf a) ys lo h/\c.1=none/\1<=c.2.1/\c.2.1<=h/\Dec rk ys lo c.2.1/\c.2.2<c.2.1/\∀t,t<=c.2.2->kr rk ys (lo+c.2.1-1-t)=kr rk ys (lo+c.2.1-1)) ?_ ?_ ⟨G,rfl,J,rfl,rfl,O,by dsimp only;ext,λt r=>by rw[show t=0 by dsimp only at r;ext];rfl⟩) ?_)
  .rintro i ⟨c,n,e⟩ f F H ⟨ys,rfl,g,b,v,p,u,eq⟩;dsimp only at b v u eq ⊢;subst b v;have hsz:=g.size;show ai (sj R C (g.ok w) (show lo+n<ys.size by ext) (show lo+n-1<ys.size by ext) ?_);dsimp only;by_cases m:kr rk ys (lo+n)<kr rk ys (lo+n-1)
   .rw[show decide (kr rk (arrOf (setArr a ys)) (lo+n)<kr rk (arrOf (setArr a ys)) (lo+n-1))=true from cP m];simp only[aX];have K:=p.more (by ext) (cD m);by_cases ep:e>0
    .rw[if_pos ep]
     have o:=zG (rk:=rk) (xs:=ys) (i:=lo+n-(e+1)) (j:=lo+n) (by ext) (λk k1 N=>by
      have:=eq (lo+n-1-k) (by ext)
      rwa [show lo+n-1-(lo+n-1-k)=k by ext] at this)
     show ai (ug ?_);show ag ⟨_,rfl,g.trans (um (by show lo+n<=ys.size;ext) (by ext) (by ext)),rfl,rfl,λi j B D=>?_,by dsimp only;ext,λt r=>by rw[show t=0 by dsimp only at r;ext];rfl⟩;have:=K i j B D;rw[<-o,<-o] at this;show this
    rw[if_neg ep];show ag ⟨ys,rfl,g,rfl,rfl,K,by dsimp only;ext,λt r=>by rw[show t=0 by dsimp only at r;ext];rfl⟩
   rw[show decide (kr rk (arrOf (setArr a ys)) (lo+n)<kr rk (arrOf (setArr a ys)) (lo+n-1))=false from bh m];simp only[aq,aR];show ai (sj R C (g.ok w) (show lo+n-1<ys.size by ext) (show lo+n<ys.size by ext) ?_);dsimp only;by_cases L:kr rk ys (lo+n-1)<kr rk ys (lo+n)
   .rw[show decide (kr rk (arrOf (setArr a ys)) (lo+n-1)<kr rk (arrOf (setArr a ys)) (lo+n))=true from cP L];simp only[aX];show ag ⟨ys,rfl,g,rfl,by dsimp only;ext,by dsimp only;ext,p,u,eq⟩
   rw[show decide (kr rk (arrOf (setArr a ys)) (lo+n-1)<kr rk (arrOf (setArr a ys)) (lo+n))=false from bh L];simp only[aq,aR];show ag ⟨ys,rfl,g,rfl,rfl,p.more (by ext) (by ext),by dsimp only;ext,λt r=>?_⟩;dsimp only at r;rw[show lo+(n+1)-1=lo+n by ext];by_cases t0:t=0
   .subst t0;rfl
   have:=eq (t-1) (by ext);rw[show lo+n-1-(t-1)=lo+n-t by ext] at this;ext
  .rintro⟨c,n,e⟩ f ⟨ys,rfl,g,b,v,p,u,eq⟩;dsimp only at b v u eq ⊢;subst v;show⟨ys,rfl,g,b,by ext,by ext,p,u,eq⟩
  rintro⟨c,n,e⟩ f ⟨ys,rfl,g,b,n1,n2,p,u,eq⟩;dsimp only at b n1 n2 p u eq ⊢;subst b;dsimp only;have hsz:=g.size;by_cases ep:e>0
  .rw[if_pos ep]
   have o:=zG (rk:=rk) (xs:=ys) (i:=lo+n-(e+1)) (j:=lo+n) (by ext) (λk k1 N=>by
    have:=eq (lo+n-1-k) (by ext)
    rwa [show lo+n-1-(lo+n-1-k)=k by ext] at this)
   show ai (ug ?_);have lw:=g.trans (um (xs:=ys) (i:=lo+n-(e+1)) (j:=lo+n) (lo:=lo) (n:=h) (by ext) (by ext) (by ext));show wpS M A E s _ Q (setArr a (mirror ys (lo+n-(e+1)) (lo+n) ((lo+n-(lo+n-(e+1)))/2)));generalize mirror ys (lo+n-(e+1)) (lo+n) ((lo+n-(lo+n-(e+1)))/2)=ws at o lw;have S:Dec rk ws lo n:=λi j B D=>by
    have:=p i j B D;rw[<-o,<-o] at this;show this
   have hw:=lw.size;show ai (ug ?_);have l:=lw.trans (um (xs:=ws) (i:=lo) (j:=lo+n) (lo:=lo) (n:=h) (by ext) (by ext) (by ext));have hz:=S.turn (by ext);show wpS M A E s _ Q (setArr a (mirror ws lo (lo+n) ((lo+n-lo)/2)));generalize mirror ws lo (lo+n) ((lo+n-lo)/2)=zs at l hz;show ai (cH (bB (I:=λi (c:Option (Option Nat)×Nat) f=>f=setArr a zs/\c.1=none/\c.2=i/\iF rk zs lo i)
    (Q:=λ(c:Option (Option Nat)×Nat) f=>f=setArr a zs/\c.1=none/\1<=c.2/\c.2<=h/\iF rk zs lo c.2) ?_ ?_ ⟨rfl,rfl,rfl,hz⟩) ?_)
   .rintro i ⟨c,n⟩ f F H ⟨rfl,b,e,d⟩;dsimp only at b e ⊢;subst b e;show ai (sj R C (l.ok w) (show lo+n<zs.size by have:=l.size;ext) (show lo+n-1<zs.size by have:=l.size;ext) ?_);dsimp only;by_cases m:kr rk zs (lo+n)<kr rk zs (lo+n-1)
    .rw[show decide (kr rk (arrOf (setArr a zs)) (lo+n)<kr rk (arrOf (setArr a zs)) (lo+n-1))=true from cP m];simp only[aX];show ag ⟨rfl,rfl,by dsimp only;ext,by dsimp only;ext,d⟩
    rw[show decide (kr rk (arrOf (setArr a zs)) (lo+n)<kr rk (arrOf (setArr a zs)) (lo+n-1))=false from bh m];simp only[aq,aR];show ag ⟨rfl,rfl,rfl,d.more (by ext) (by ext)⟩
   .rintro⟨c,n⟩ f ⟨rfl,b,e,d⟩;dsimp only at b e ⊢;subst e;show⟨rfl,b,by ext,by ext,d⟩
   rintro⟨c,n⟩ f ⟨rfl,b,n1,n2,d⟩;dsimp only at b n1 n2 d ⊢;subst b;show ag (q zs n n1 n2 l d)
  rw[if_neg ep];show ai (ug ?_);have l:=g.trans (um (xs:=ys) (i:=lo) (j:=lo+n) (lo:=lo) (n:=h) (by ext) (by ext) (by ext));have hz:=p.turn (by ext);show wpS M A E s _ Q (setArr a (mirror ys lo (lo+n) ((lo+n-lo)/2)));generalize mirror ys lo (lo+n) ((lo+n-lo)/2)=zs at l hz;show ai (cH (bB (I:=λi (c:Option (Option Nat)×Nat) f=>f=setArr a zs/\c.1=none/\c.2=i/\iF rk zs lo i)
   (Q:=λ(c:Option (Option Nat)×Nat) f=>f=setArr a zs/\c.1=none/\1<=c.2/\c.2<=h/\iF rk zs lo c.2) ?_ ?_ ⟨rfl,rfl,rfl,hz⟩) ?_)
  .rintro i ⟨c,n⟩ f F H ⟨rfl,b,e,d⟩;dsimp only at b e ⊢;subst b e;show ai (sj R C (l.ok w) (show lo+n<zs.size by have:=l.size;ext) (show lo+n-1<zs.size by have:=l.size;ext) ?_);dsimp only;by_cases m:kr rk zs (lo+n)<kr rk zs (lo+n-1)
   .rw[show decide (kr rk (arrOf (setArr a zs)) (lo+n)<kr rk (arrOf (setArr a zs)) (lo+n-1))=true from cP m];simp only[aX];show ag ⟨rfl,rfl,by dsimp only;ext,by dsimp only;ext,d⟩
   rw[show decide (kr rk (arrOf (setArr a zs)) (lo+n)<kr rk (arrOf (setArr a zs)) (lo+n-1))=false from bh m];simp only[aq,aR];show ag ⟨rfl,rfl,rfl,d.more (by ext) (by ext)⟩
  .rintro⟨c,n⟩ f ⟨rfl,b,e,d⟩;dsimp only at b e ⊢;subst e;show⟨rfl,b,by ext,by ext,d⟩
  rintro⟨c,n⟩ f ⟨rfl,b,n1,n2,d⟩;dsimp only at b n1 n2 d ⊢;subst b;show ag (q zs n n1 n2 l d)
 rw[if_neg W];have Y6:n=1:=by ext
 have O:Dec rk (arrOf a) lo (n+1):=by
  have T:Dec rk (arrOf a) lo n:=λi j B D=>by rw[show i=j by ext];show cL _
  show T.more n1 (by ext)
 have J:=Sl.refl (arrOf a) lo h;obtain⟨G,P⟩:∃y,y=arrOf a:=⟨_,rfl⟩
 rw[show a=setArr a G by rw[P]];rw[<-P] at O;have J:Sl (arrOf a) G lo h:=by rw[P];show Sl.refl _ _ _
 show ai (wb ?_);show ai (cH (bB (I:=λi (c:Option (Option Nat)×Nat×Nat) f=>∃ys,f=setArr a ys/\Sl (arrOf a) ys lo h/\c.1=none/\c.2.1=i/\Dec rk ys lo i/\c.2.2<i/\∀t,t<=c.2.2->kr rk ys (lo+i-1-t)=kr rk ys (lo+i-1))
  (Q:=λ(c:Option (Option Nat)×Nat×Nat) f=>∃ys,f=setArr a ys/\Sl (arrOf a) ys lo h/\c.1=none/\1<=c.2.1/\c.2.1<=h/\Dec rk ys lo c.2.1/\c.2.2<c.2.1/\∀t,t<=c.2.2->kr rk ys (lo+c.2.1-1-t)=kr rk ys (lo+c.2.1-1)) ?_ ?_ ⟨G,rfl,J,rfl,rfl,O,by dsimp only;ext,λt r=>by rw[show t=0 by dsimp only at r;ext];rfl⟩) ?_)
 .rintro i ⟨c,n,e⟩ f F H ⟨ys,rfl,g,b,v,p,u,eq⟩;dsimp only at b v u eq ⊢;subst b v;have hsz:=g.size;show ai (sj R C (g.ok w) (show lo+n<ys.size by ext) (show lo+n-1<ys.size by ext) ?_);dsimp only;by_cases m:kr rk ys (lo+n)<kr rk ys (lo+n-1)
  .rw[show decide (kr rk (arrOf (setArr a ys)) (lo+n)<kr rk (arrOf (setArr a ys)) (lo+n-1))=true from cP m];simp only[aX];have K:=p.more (by ext) (cD m);by_cases ep:e>0
   .rw[if_pos ep]
    have o:=zG (rk:=rk) (xs:=ys) (i:=lo+n-(e+1)) (j:=lo+n) (by ext) (λk k1 N=>by
     have:=eq (lo+n-1-k) (by ext)
     rwa [show lo+n-1-(lo+n-1-k)=k by ext] at this)
    show ai (ug ?_);show ag ⟨_,rfl,g.trans (um (by show lo+n<=ys.size;ext) (by ext) (by ext)),rfl,rfl,λi j B D=>?_,by dsimp only;ext,λt r=>by rw[show t=0 by dsimp only at r;ext];rfl⟩;have:=K i j B D;rw[<-o,<-o] at this;show this
   rw[if_neg ep];show ag ⟨ys,rfl,g,rfl,rfl,K,by dsimp only;ext,λt r=>by rw[show t=0 by dsimp only at r;ext];rfl⟩
  rw[show decide (kr rk (arrOf (setArr a ys)) (lo+n)<kr rk (arrOf (setArr a ys)) (lo+n-1))=false from bh m];simp only[aq,aR];show ai (sj R C (g.ok w) (show lo+n-1<ys.size by ext) (show lo+n<ys.size by ext) ?_);dsimp only;by_cases L:kr rk ys (lo+n-1)<kr rk ys (lo+n)
  .rw[show decide (kr rk (arrOf (setArr a ys)) (lo+n-1)<kr rk (arrOf (setArr a ys)) (lo+n))=true from cP L];simp only[aX];show ag ⟨ys,rfl,g,rfl,by dsimp only;ext,by dsimp only;ext,p,u,eq⟩
  rw[show decide (kr rk (arrOf (setArr a ys)) (lo+n-1)<kr rk (arrOf (setArr a ys)) (lo+n))=false from bh L];simp only[aq,aR];show ag ⟨ys,rfl,g,rfl,rfl,p.more (by ext) (by ext),by dsimp only;ext,λt r=>?_⟩;dsimp only at r;rw[show lo+(n+1)-1=lo+n by ext];by_cases t0:t=0
  .subst t0;rfl
  have:=eq (t-1) (by ext);rw[show lo+n-1-(t-1)=lo+n-t by ext] at this;ext
 .rintro⟨c,n,e⟩ f ⟨ys,rfl,g,b,v,p,u,eq⟩;dsimp only at b v u eq ⊢;subst v;show⟨ys,rfl,g,b,by ext,by ext,p,u,eq⟩
 rintro⟨c,n,e⟩ f ⟨ys,rfl,g,b,n1,n2,p,u,eq⟩;dsimp only at b n1 n2 p u eq ⊢;subst b;dsimp only;have hsz:=g.size;by_cases ep:e>0
 .rw[if_pos ep]
  have o:=zG (rk:=rk) (xs:=ys) (i:=lo+n-(e+1)) (j:=lo+n) (by ext) (λk k1 N=>by
   have:=eq (lo+n-1-k) (by ext)
   rwa [show lo+n-1-(lo+n-1-k)=k by ext] at this)
  show ai (ug ?_);have lw:=g.trans (um (xs:=ys) (i:=lo+n-(e+1)) (j:=lo+n) (lo:=lo) (n:=h) (by ext) (by ext) (by ext));show wpS M A E s _ Q (setArr a (mirror ys (lo+n-(e+1)) (lo+n) ((lo+n-(lo+n-(e+1)))/2)));generalize mirror ys (lo+n-(e+1)) (lo+n) ((lo+n-(lo+n-(e+1)))/2)=ws at o lw;have S:Dec rk ws lo n:=λi j B D=>by
   have:=p i j B D;rw[<-o,<-o] at this;show this
  have hw:=lw.size;show ai (ug ?_);have l:=lw.trans (um (xs:=ws) (i:=lo) (j:=lo+n) (lo:=lo) (n:=h) (by ext) (by ext) (by ext));have hz:=S.turn (by ext);show wpS M A E s _ Q (setArr a (mirror ws lo (lo+n) ((lo+n-lo)/2)));generalize mirror ws lo (lo+n) ((lo+n-lo)/2)=zs at l hz;show ai (cH (bB (I:=λi (c:Option (Option Nat)×Nat) f=>f=setArr a zs/\c.1=none/\c.2=i/\iF rk zs lo i)
   (Q:=λ(c:Option (Option Nat)×Nat) f=>f=setArr a zs/\c.1=none/\1<=c.2/\c.2<=h/\iF rk zs lo c.2) ?_ ?_ ⟨rfl,rfl,rfl,hz⟩) ?_)
  .rintro i ⟨c,n⟩ f F H ⟨rfl,b,e,d⟩;dsimp only at b e ⊢;subst b e;show ai (sj R C (l.ok w) (show lo+n<zs.size by have:=l.size;ext) (show lo+n-1<zs.size by have:=l.size;ext) ?_);dsimp only;by_cases m:kr rk zs (lo+n)<kr rk zs (lo+n-1)
   .rw[show decide (kr rk (arrOf (setArr a zs)) (lo+n)<kr rk (arrOf (setArr a zs)) (lo+n-1))=true from cP m];simp only[aX];show ag ⟨rfl,rfl,by dsimp only;ext,by dsimp only;ext,d⟩
   rw[show decide (kr rk (arrOf (setArr a zs)) (lo+n)<kr rk (arrOf (setArr a zs)) (lo+n-1))=false from bh m];simp only[aq,aR];show ag ⟨rfl,rfl,rfl,d.more (by ext) (by ext)⟩
  .rintro⟨c,n⟩ f ⟨rfl,b,e,d⟩;dsimp only at b e ⊢;subst e;show⟨rfl,b,by ext,by ext,d⟩
  rintro⟨c,n⟩ f ⟨rfl,b,n1,n2,d⟩;dsimp only at b n1 n2 d ⊢;subst b;show ag (q zs n n1 n2 l d)
 rw[if_neg ep];show ai (ug ?_);have l:=g.trans (um (xs:=ys) (i:=lo) (j:=lo+n) (lo:=lo) (n:=h) (by ext) (by ext) (by ext));have hz:=p.turn (by ext);show wpS M A E s _ Q (setArr a (mirror ys lo (lo+n) ((lo+n-lo)/2)));generalize mirror ys lo (lo+n) ((lo+n-lo)/2)=zs at l hz;show ai (cH (bB (I:=λi (c:Option (Option Nat)×Nat) f=>f=setArr a zs/\c.1=none/\c.2=i/\iF rk zs lo i)
  (Q:=λ(c:Option (Option Nat)×Nat) f=>f=setArr a zs/\c.1=none/\1<=c.2/\c.2<=h/\iF rk zs lo c.2) ?_ ?_ ⟨rfl,rfl,rfl,hz⟩) ?_)
 .rintro i ⟨c,n⟩ f F H ⟨rfl,b,e,d⟩;dsimp only at b e ⊢;subst b e;show ai (sj R C (l.ok w) (show lo+n<zs.size by have:=l.size;ext) (show lo+n-1<zs.size by have:=l.size;ext) ?_);dsimp only;by_cases m:kr rk zs (lo+n)<kr rk zs (lo+n-1)
  .rw[show decide (kr rk (arrOf (setArr a zs)) (lo+n)<kr rk (arrOf (setArr a zs)) (lo+n-1))=true from cP m];simp only[aX];show ag ⟨rfl,rfl,by dsimp only;ext,by dsimp only;ext,d⟩
  rw[show decide (kr rk (arrOf (setArr a zs)) (lo+n)<kr rk (arrOf (setArr a zs)) (lo+n-1))=false from bh m];simp only[aq,aR];show ag ⟨rfl,rfl,rfl,d.more (by ext) (by ext)⟩
 .rintro⟨c,n⟩ f ⟨rfl,b,e,d⟩;dsimp only at b e ⊢;subst e;show⟨rfl,b,by ext,by ext,d⟩
 rintro⟨c,n⟩ f ⟨rfl,b,n1,n2,d⟩;dsimp only at b n1 n2 d ⊢;subst b;show ag (q zs n n1 n2 l d)
noncomputable def starts:Nat->List (List Keyed)->List (Nat×Nat)
 | _,[]=>[]
 | st,X::a=>(st,X.length)::starts (st+X.length) a
noncomputable abbrev ft(t:Nat×Nat×Nat):Nat×Nat:=(t.1,t.2.1)
theorem CL:∀(st:Nat)(a:List (List Keyed)),(starts st a).length=a.length
 | _,[]=>rfl
 | st,X::a=>by simp[starts,CL]
theorem FD:∀(st:Nat)(a:List (List Keyed))(W:List Keyed),starts st (a++[W])=starts st a++[(st+a.flatten.length,W.length)]
 | st,[],W=>by simp[starts]
 | st,X::a,W=>by
  simp only[cq,starts,FD (st+X.length) a W,List.flatten_cons,aD];rw[show st+X.length+a.flatten.length=st+(X.length+a.flatten.length) by ext]
theorem EW:∀(st:Nat)(a:List (List Keyed))(X:List Keyed)(Xs2:List (List Keyed)),(starts st (a++X::Xs2))[a.length]?=some (st+a.flatten.length,X.length)
 | st,[],X,Xs2=>by simp[starts]
 | st,A::a,X,Xs2=>by
  simp only[cq,starts,aG,bO,EW (st+A.length) a X Xs2,List.flatten_cons,aD];rw[show st+A.length+a.flatten.length=st+(A.length+a.flatten.length) by ext]
theorem Lw{X Y Z:List Keyed}{Xs2:List (List Keyed)}(hz:Z.length=X.length+Y.length):∀(st:Nat)(a:List (List Keyed)),((starts st (a++X::Y::Xs2)).set a.length (st+a.flatten.length,X.length+Y.length)).eraseIdx (a.length+1)=starts st (a++Z::Xs2)
 | st,[]=>by
  simp[starts,hz,Nat.add_assoc]
 | st,A::a=>by
  have b:=Lw (Xs2:=Xs2) hz (st+A.length) a;simp only[cq,starts,aG,List.set_cons_succ,List.eraseIdx_cons_succ,List.flatten_cons,aD];rw[show st+(A.length+a.flatten.length)=st+A.length+a.flatten.length by ext,b]
theorem Lz{α b:Type}(f:α->b):∀(l:List α)(n:Nat),(l.map f).eraseIdx n=(l.eraseIdx n).map f
 | [],_=>rfl
 | a::r,0=>rfl
 | a::r,n+1=>by show f a::(r.map f).eraseIdx n=_;rw[Lz f r n];rfl
structure RI(rk:Keyed->Int)(a0 arr:Array Keyed)(pend:Array (Nat×Nat×Nat))(Xs:List (List Keyed))(S:List Keyed):Prop where
 pm:arr.toList.Perm a0.toList
 dec:arr.toList=Xs.flatten++S
 so:∀X∈Xs,gn rk X/\0<X.length
 ps:pend.toList.map ft=starts 0 Xs
theorem Rr{a:List (List Keyed)}{i:Nat}(h:i+1<a.length):∃b X Y Xs2,a=b++X::Y::Xs2/\b.length=i:=by
 show⟨a.take i,a[i],a[i+1],a.drop (i+2),?_,by simp;ext⟩;rw[<-bQ,<-bQ,bI]
theorem IY{b:Array (Nat×Nat×Nat)}{i a n:Nat}{l:List (Nat×Nat)}(h:b.toList.map ft=l)(e:l[i]?=some (a,n)):∃p,b[i]?=some (a,n,p):=by
 rw[<-h,aI,cM] at e;cases c:b[i]? with
 | none=>rw[c] at e;cases e
 | some t=>
  rw[c] at e;obtain⟨x,y,z⟩:=t;simp at e;obtain⟨rfl,rfl⟩:=e;show⟨z,rfl⟩
variable{M:Model}{A:Around}{E:Value->Shared->Prop}{s:Shared}
theorem EG{e:SortKind}{ok:Keyed->Prop}{rk:Keyed->Int}(R:Rk M A E s e ok rk){k:Array Keyed}{d:List (List Keyed)}{S:List Keyed}{i:Nat}{Q:Bool->SortSt->Prop}{st:SortSt}(v:kindOf st=e)(w:failedOf st=none)(u:∀x∈k,ok x)
  (h:RI rk k (arrOf st) (pendingOf st) d S) (hi:i+1<d.length)
  (q:∀c l,kindOf c=e->failedOf c=none->RI rk k (arrOf c) (pendingOf c) l S->l.length+1=d.length->l.flatten.length=d.flatten.length->Q true c):wpS M A E s (mergeAt' i) Q st:=by
 obtain⟨a,X,Y,Xs2,rfl,rfl⟩:=Rr hi;obtain⟨t,p⟩:=IY h.ps (EW 0 a X (Y::Xs2));have r:=EW 0 (a++[X]) Y Xs2;rw[show a++[X]++Y::Xs2=a++X::Y::Xs2 by simp,aD,List.length_singleton] at r;obtain⟨pb,j⟩:=IY h.ps r;rw[Nat.zero_add] at p j;rw[show(a++[X]).flatten.length=a.flatten.length+X.length by simp] at j;have f:=h.so X (by simp);have o:=h.so Y (by simp);have hd:(arrOf st).toList=a.flatten++(X++(Y++(Xs2.flatten++S))):=by rw[h.dec];simp
 show Ue R v w (λx hx=>u x ?_) hd p j f.2 o.2 f.1 o.1 λZ g m zs=>?_
 .have:=h.pm.mem_iff.mp (bR.mpr hx);show bR.mp this
 have n:Z.length=X.length+Y.length:=by rw[m.length_eq,aD]
 show q _ (a++Z::Xs2) rfl rfl ⟨?_,?_,λW b=>?_,?_⟩ (by simp only[aD,aG];ext) (by simp[n];ext)
 .refine List.Perm.trans ?_ h.pm;rw[hd];show(a.flatten++(Z++(Xs2.flatten++S))).Perm _;show List.Perm.append_left _ ?_;rw[<-bw X];show m.append_right _
 .show a.flatten++(Z++(Xs2.flatten++S))=_;simp
 .rcases au.mp b with b | b
  .exact h.so W (by simp[b])
  rcases av.mp b with rfl | b
  .exact⟨zs,by have:=f.2;ext⟩
  show h.so W (by simp[b])
 have:=Lw (X:=X) (Y:=Y) (Z:=Z) (Xs2:=Xs2) n 0 a;rw[<-this,<-h.ps,Nat.zero_add];show List.map ft ((((pendingOf st).setIfInBounds a.length (a.flatten.length,X.length+Y.length,t)).eraseIdxIfInBounds (a.length+1)).toList)=_;rw[Array.toList_eraseIdxIfInBounds,Array.toList_setIfInBounds,<-Lz,List.map_set]
theorem IP{rk:Keyed->Int}{xs ys:Array Keyed}{F S:List Keyed}{m n:Nat}(h:Sl xs ys F.length m)(hd:xs.toList=F++S)(a:iF rk ys F.length n)(g:F.length+n<=xs.size):∃W e,ys.toList=F++(W++e)/\W.length=n/\gn rk W:=by
 have hsz:=h.size;have c:ys.toList.take F.length=F:=by
  have:ys.toList.take F.length=xs.toList.take F.length:=by
   apply List.ext_getElem?;intro i;rw[List.getElem?_take,List.getElem?_take];split
   .rw[cM,cM];show h.out i (.inl (by assumption))
   rfl
  rw[this,hd,List.take_left]
 show⟨(ys.toList.drop F.length).take n,(ys.toList.drop F.length).drop n,?_,by simp;ext,?_⟩
 .rw[bI];conv=>lhs;rw[<-bI F.length ys.toList,c]
 show List.pairwise_iff_getElem.mpr λi j hi b f=>?_
 have d:j<n:=by simp at b;ext
 have:=a i j (by ext) d;unfold kr at this;rw[iA (by ext),iA (by ext)] at this;simpa[List.getElem_take,List.getElem_drop] using this
variable{M:Model}{A:Around}{E:Value->Shared->Prop}{s:Shared}
theorem Lg(p:Array (Nat×Nat×Nat))(k:Nat)(f:Nat×Nat×Nat->Nat×Nat×Nat)(h:∀x,ft (f x)=ft x):(p.modify k f).toList.map ft=p.toList.map ft:=by
 apply List.ext_getElem?;intro i;rw[aI,aI,cM,cM,Array.getElem?_modify];split
 .cases p[i]? with
  | none=>rfl
  | some x=>simp only[cV,h]
 rfl
theorem IX:∀(a:List (List Keyed)),(∀X∈a,0<X.length)->a.length<=a.flatten.length
 | [],_=>ay _
 | X::a,h=>by
  have d:=h X (by simp);have c:=IX a λY b=>h Y (by simp[b])
  rw[List.flatten_cons,aD,aG];ext
theorem Sl.wide{xs ys:Array Keyed}{lo n m:Nat}(h:Sl xs ys lo n)(a:n<=m):Sl xs ys lo m:=⟨h.pm,λj b=>h.out j (by ext)⟩
theorem Rq{y:SortKind}{ok:Keyed->Prop}{rk:Keyed->Int}(R:Rk M A E s y ok rk){Q:Unit->SortSt->Prop}{st:SortSt}(hk:kindOf st=y)(hf:failedOf st=none)(hp:pendingOf st=#[])(L:∀x∈arrOf st,ok x)
  (q:∀f,(arrOf f).toList.Perm (arrOf st).toList->gn rk (arrOf f).toList->failedOf f=none->Q () f):wpS M A E s sortRuns' Q st:=by
 rw[sortRuns'_eq];show ai (wpS_get ?_);dsimp only;generalize YR:minRun' (arrOf st).size (arrOf st).size 0=T;generalize hsz:(arrOf st).size=sz;have h0:RI rk (arrOf st) (arrOf st) (pendingOf st) [] (arrOf st).toList:=⟨List.Perm.refl _,rfl,λX r=>(by cases r),by rw[hp];rfl⟩
 show ai (cH (bB (I:=λi (c:Option Unit×Nat) f=>c.1=none/\kindOf f=y/\failedOf f=none/\∃e S,RI rk (arrOf st) (arrOf f) (pendingOf f) e S/\e.flatten.length=c.2/\c.2<=sz/\i<=c.2)
  (Q:=λ(c:Option Unit×Nat) f=>c.1=none/\kindOf f=y/\failedOf f=none/\∃e,RI rk (arrOf st) (arrOf f) (pendingOf f) e []) ?_ ?_ ⟨rfl,hk,hf,[],_,h0,rfl,aZ _,ay _⟩) ?_)
 .rintro i ⟨c,lo⟩ f _ hi ⟨g,w,B,e,S,l,P,hle,K⟩;dsimp only at g P hle K ⊢;subst g P;have as:(arrOf f).size=sz:=by rw[<-hsz,<-af,<-af];show l.pm.length_eq
  have L4:∀x∈arrOf f,ok x:=λx hx=>L x (bR.mp (l.pm.mem_iff.mp (bR.mpr hx)))
  have sl:e.flatten.length+S.length=sz:=by rw[<-as,<-af,l.dec,aD]
  by_cases hd:e.flatten.length>=sz
  .rw[if_pos hd];have:S=[]:=List.length_eq_zero_iff.mp (by ext);subst this;show ag ⟨rfl,w,B,e,l⟩
  rw[if_neg hd];show ai (RX R w L4 (by ext) (by ext) λys n n1 n2 N Z=>?_);dsimp only;split
  .refine ai (wb ?_);show ai (SR R (st:=setArr f ys) w (N.ok L4) (show _<=ys.size by have:=N.size;ext) Z (by ext) λzs F3 O=>?_);simp only[Bool.not_true,aq,aR];have F:Sl (arrOf f) zs e.flatten.length (sz-e.flatten.length):=N.trans (F3.wide (by ext));show wpS M A E s _ _ (setArr f zs);obtain⟨W,D,U,wl,ws⟩:=IP F l.dec O (by ext);have G:RI rk (arrOf st) zs (pendingOf f) e (W++D):=⟨(Array.perm_iff_toList_perm.mp F.pm).trans l.pm,U,l.so,l.ps⟩
   have ent:∀(a:SortSt)(b:List (List Keyed)),kindOf a=y->failedOf a=none->RI rk (arrOf st) (arrOf a) (pendingOf a) b (W++D)->b.flatten.length=e.flatten.length->∃o C,RI rk (arrOf st) (arrOf a) ((pendingOf a).push (e.flatten.length,min (sz-e.flatten.length) T,0)) o C/\o.flatten.length=e.flatten.length+min (sz-e.flatten.length) T:=λa b m f2 d k=>by
    show⟨b++[W],D,⟨d.pm,by rw[d.dec];simp,λX r=>?_,?_⟩,by simp[k,wl]⟩
    .rcases au.mp r with r | r
     .exact d.so X r
     simp at r;subst r;show⟨ws,by ext⟩
    rw[aH,aE,d.ps,FD,k,wl,Nat.zero_add];rfl
   show ai (wpS_get ?_);cases X5:(pendingOf (setArr f zs)).back? with
   | none=>
    dsimp only;show ai (cK (ag ?_));obtain⟨o,C,v,z⟩:=ent (setArr f zs) e w B G rfl;show⟨rfl,w,B,o,C,v,z,by dsimp only;ext,by dsimp only;ext⟩
   | some t=>
    obtain⟨s1,t1,p1⟩:=t;dsimp only;show ai (cH (bB (I:=λj (c:Option Unit×Unit) a=>c.1=none/\kindOf a=y/\failedOf a=none/\∃b,RI rk (arrOf st) (arrOf a) (pendingOf a) b (W++D)/\b.flatten.length=e.flatten.length)
     (Q:=λ(c:Option Unit×Unit) a=>c.1=none/\kindOf a=y/\failedOf a=none/\∃b,RI rk (arrOf st) (arrOf a) (pendingOf a) b (W++D)/\b.flatten.length=e.flatten.length) ?_ ?_ ⟨rfl,w,B,e,G,rfl⟩) ?_)
    .rintro j ⟨c,⟨⟩⟩ a _ Y ⟨g,m,f2,b,d,k⟩;dsimp only at g ⊢;subst g;show ai (wpS_get ?_);have pl:(pendingOf a).size=b.length:=by
      have:=congrArg List.length d.ps;rwa [ae,af,CL] at this
     by_cases big:(pendingOf a).size>1
     .rw[if_pos big,cG (show(pendingOf a).size-2<(pendingOf a).size by ext)];generalize (pendingOf a)[(pendingOf a).size-2]'(by ext)=u;obtain⟨u1,u2,u3⟩:=u;dsimp only;split
      .exact ag ⟨rfl,m,f2,b,d,k⟩
      show ai (EG R m f2 L d (by ext) λAq o H J v _ z=>?_);simp only[Bool.not_true,aq,aR];show ag ⟨rfl,H,J,o,v,by rw[z,k]⟩
     rw[if_neg big];dsimp only;show ag ⟨rfl,m,f2,b,d,k⟩
    .rintro⟨c,⟨⟩⟩ a h;show h
    rintro⟨c,⟨⟩⟩ a ⟨g,m,f2,b,d,k⟩;dsimp only at g ⊢;subst g;dsimp only;show ai (cK (ai (cK (ag ?_))));obtain⟨o,C,v,z⟩:=ent (setPending a ((pendingOf a).modify ((pendingOf a).size-1) λx=>(x.1,x.2.1,power' sz (2*s1+t1) (2*s1+t1+t1+min (sz-e.flatten.length) T) sz))) b m f2 ⟨d.pm,d.dec,d.so,by rw[<-d.ps];show Lg _ _ _ λx=>rfl⟩ k;show⟨rfl,m,f2,o,C,v,z,by dsimp only;ext,by dsimp only;ext⟩
  have F:=N;have O:=Z;generalize ys=zs at F O;obtain⟨W,D,U,wl,ws⟩:=IP F l.dec O (by ext);have G:RI rk (arrOf st) zs (pendingOf f) e (W++D):=⟨(Array.perm_iff_toList_perm.mp F.pm).trans l.pm,U,l.so,l.ps⟩
  have ent:∀(a:SortSt)(b:List (List Keyed)),kindOf a=y->failedOf a=none->RI rk (arrOf st) (arrOf a) (pendingOf a) b (W++D)->b.flatten.length=e.flatten.length->∃o C,RI rk (arrOf st) (arrOf a) ((pendingOf a).push (e.flatten.length,n,0)) o C/\o.flatten.length=e.flatten.length+n:=λa b m f2 d k=>by
   show⟨b++[W],D,⟨d.pm,by rw[d.dec];simp,λX r=>?_,?_⟩,by simp[k,wl]⟩
   .rcases au.mp r with r | r
    .exact d.so X r
    simp at r;subst r;show⟨ws,by ext⟩
   rw[aH,aE,d.ps,FD,k,wl,Nat.zero_add];rfl
  show ai (wpS_get ?_);cases X5:(pendingOf (setArr f zs)).back? with
  | none=>
   dsimp only;show ai (cK (ag ?_));obtain⟨o,C,v,z⟩:=ent (setArr f zs) e w B G rfl;show⟨rfl,w,B,o,C,v,z,by dsimp only;ext,by dsimp only;ext⟩
  | some t=>
   obtain⟨s1,t1,p1⟩:=t;dsimp only;show ai (cH (bB (I:=λj (c:Option Unit×Unit) a=>c.1=none/\kindOf a=y/\failedOf a=none/\∃b,RI rk (arrOf st) (arrOf a) (pendingOf a) b (W++D)/\b.flatten.length=e.flatten.length)
    (Q:=λ(c:Option Unit×Unit) a=>c.1=none/\kindOf a=y/\failedOf a=none/\∃b,RI rk (arrOf st) (arrOf a) (pendingOf a) b (W++D)/\b.flatten.length=e.flatten.length) ?_ ?_ ⟨rfl,w,B,e,G,rfl⟩) ?_)
   .rintro j ⟨c,⟨⟩⟩ a _ Y ⟨g,m,f2,b,d,k⟩;dsimp only at g ⊢;subst g;show ai (wpS_get ?_);have pl:(pendingOf a).size=b.length:=by
     have:=congrArg List.length d.ps;rwa [ae,af,CL] at this
    by_cases big:(pendingOf a).size>1
    .rw[if_pos big,cG (show(pendingOf a).size-2<(pendingOf a).size by ext)];generalize (pendingOf a)[(pendingOf a).size-2]'(by ext)=u;obtain⟨u1,u2,u3⟩:=u;dsimp only;split
     .exact ag ⟨rfl,m,f2,b,d,k⟩
     show ai (EG R m f2 L d (by ext) λAq o H J v _ z=>?_);simp only[Bool.not_true,aq,aR];show ag ⟨rfl,H,J,o,v,by rw[z,k]⟩
    rw[if_neg big];dsimp only;show ag ⟨rfl,m,f2,b,d,k⟩
   .rintro⟨c,⟨⟩⟩ a h;show h
   rintro⟨c,⟨⟩⟩ a ⟨g,m,f2,b,d,k⟩;dsimp only at g ⊢;subst g;dsimp only;show ai (cK (ai (cK (ag ?_))));obtain⟨o,C,v,z⟩:=ent (setPending a ((pendingOf a).modify ((pendingOf a).size-1) λx=>(x.1,x.2.1,power' sz (2*s1+t1) (2*s1+t1+t1+n) sz))) b m f2 ⟨d.pm,d.dec,d.so,by rw[<-d.ps];show Lg _ _ _ λx=>rfl⟩ k;show⟨rfl,m,f2,o,C,v,z,by dsimp only;ext,by dsimp only;ext⟩
 .rintro⟨c,lo⟩ f ⟨g,w,B,e,S,l,P,hle,K⟩;dsimp only at g P hle K ⊢;rw[cS (aZ _)] at K;have as:(arrOf f).size=sz:=by rw[<-hsz,<-af,<-af];show l.pm.length_eq
  have sl:e.flatten.length+S.length=sz:=by rw[<-as,<-af,l.dec,aD]
  have:S=[]:=List.length_eq_zero_iff.mp (by ext);subst this;show⟨g,w,B,e,l⟩
 rintro⟨c,lo⟩ f ⟨g,w,B,e,l⟩;dsimp only at g ⊢;subst g;dsimp only;have as:(arrOf f).size=sz:=by rw[<-hsz,<-af,<-af];show l.pm.length_eq
 have fl:e.flatten.length=sz:=by rw[<-as,<-af,l.dec];simp
 have xl:=IX e λX r=>(l.so X r).2
 show ai (cH (bB (I:=λj (c:Option Unit×Unit) a=>c.1=none/\kindOf a=y/\failedOf a=none/\∃b,RI rk (arrOf st) (arrOf a) (pendingOf a) b []/\b.length+j<=sz)
  (Q:=λ(c:Option Unit×Unit) a=>c.1=none/\kindOf a=y/\failedOf a=none/\∃b,RI rk (arrOf st) (arrOf a) (pendingOf a) b []/\b.length<=1) ?_ ?_ ⟨rfl,w,B,e,l,by ext⟩) ?_)
 .rintro j ⟨c,⟨⟩⟩ a _ Y ⟨g,m,f2,b,d,k⟩;dsimp only at g ⊢;subst g;show ai (wpS_get ?_);have pl:(pendingOf a).size=b.length:=by
   have:=congrArg List.length d.ps;rwa [ae,af,CL] at this
  by_cases V:(pendingOf a).size<=1
  .rw[if_pos V];show ag ⟨rfl,m,f2,b,d,by ext⟩
  rw[if_neg V];have ix:∀(p:Prop)[Decidable p],(if p then(pendingOf a).size-2-1 else(pendingOf a).size-2)+1<b.length:=λp _=>by split<;>ext
  show ai (EG R m f2 L d (ix _) λAq o H J v z _=>?_);simp only[Bool.not_true,aq,aR];show ag ⟨rfl,H,J,o,v,by ext⟩
 .rintro⟨c,⟨⟩⟩ a ⟨g,m,f2,b,d,k⟩;rw[cS (aZ _)] at k;show⟨g,m,f2,b,d,by ext⟩
 rintro⟨c,⟨⟩⟩ a ⟨g,m,f2,b,d,k⟩;dsimp only at g ⊢;subst g;show ag (q a d.pm ?_ f2);rw[d.dec,aS];match b,k,d.so with
 | [],_,_=>show .nil
 | [X],_,so=>simpa using (so X (by simp)).1
section
variable{prog:Program}{w:World}{A:Around}{E:Value->Shared->Prop}{s:Shared}
structure Ky(prog:Program)(w:World)(A:Around)(s:Shared)(κ:SortKind)(ok:Keyed->Prop)(rk:Keyed->Int):Prop where
 key:∀x y (C:Bool->Shared->Prop),ok x->ok y->C (decide (rk x<rk y)) s->wpAny (model prog w) A (keyLt' κ x.1 y.1) C (λ_ _=>False) s
def kJ(n:Nat):Prop:=∀{prog:Program}{w:World}{A:Around}{E:Value->Shared->Prop}{s:Shared}{b:SortKind}{rk:Keyed->Int}{it:Array Keyed}(R:Ky prog w A s b (λx=>x∈it) rk){Q:Unit->SortSt->Prop},it.size=n->
 (∀a,(arrOf a).toList.Perm it.toList->gn rk (arrOf a).toList->failedOf a=none->Q () a)->wpS (model prog w) A E s sortRuns' Q (SortSt.mk' b it #[] 7 none)
structure Ask(prog:Program)(w:World)(A:Around)(E:Value->Shared->Prop)(vs:List Value)(rk:Keyed->Int)(s:Shared):Prop where
 ask:2<=vs.length->∃κ,(∀Q':SortKind->Shared->Prop,Q' κ s->wpAny (model prog w) A (keyKind' vs.toArray) Q' E s)/\Ky prog w A s κ (λx=>x∈pairsOf vs) rk
theorem RW{rk:Keyed->Int}{l:List Keyed}(h:l.length<2):gn rk l:=by
 cases l with
 | nil=>show .nil
 | cons a r=>
  cases r with
  | nil=>show List.pairwise_singleton _ _
  | cons b t=>
   simp only[aG] at h;ext
theorem Ud{a:Addr}{c:List Value}{n:Nat}{P:Fin->Shared->Prop}{rk:Keyed->Int}(f:s.heap.get? a=some (seqObj "list" c.toArray n))(g:c.length<=sizeLine)(r:2<=c.length->kJ c.length)
  (R:∀h',(∀b o,b≠a->s.heap.get? b=some o->h'.get? b=some o)->Ask prog w A E c rk { s with heap:=h' })
  (h:∀d:SortSt,(arrOf d).toList.Perm (pairsOf c).toList->gn rk (arrOf d).toList->P (.done (.ret .none)) { s with heap:=sortedHeap s.heap a c ((arrOf d).map (·.2)) }) :
  wpAny (model prog w) A (Builtin.«list.sort» ⟨[.ref a],[]⟩) P E s:=by
 rw[list_sort_plain];have ha:a<s.heap.objs.size:=aF f;show aa (listItems_at f rfl ?_);show aa (listUpdate_at f rfl ?_ (by simpa using g) (aZ _));obtain⟨k,m⟩:∃k,(s.heap.update a (Obj.mapSeq λ_=>#[])).get? a=some (seqObj "list" #[] k):=⟨_,get?_update_seq f (λ_=>#[])⟩
 show aa (seqEpoch_at m rfl ?_);show aa (wpAny_newTuple ?_ (by show c.length<=_;show g));show aa (wpAny_newList ?_ (aZ _));show bM ?_;have j:(((s.heap.update a (Obj.mapSeq λ_=>#[])).push (seqObj "tuple" c.toArray 0)).push (seqObj "list" #[] 0)).get? a=some (seqObj "list" #[] k):=by
  rw[Heap.get?_push_ne _ _ _ (by rw[size_push',Heap.size_update];show aJ (b8 ha)),Heap.get?_push_ne _ _ _ (by rw[Heap.size_update];show aJ ha)];show m
 have u:=R (((s.heap.update a (Obj.mapSeq λ_=>#[])).push (seqObj "tuple" c.toArray 0)).push (seqObj "list" #[] 0)) (λb o t e=>aj _ (aj _ ((bj _ _ (Ne.symm t)).trans e)));show wpAny (model prog w) A _ P E { s with heap:=((s.heap.update a (Obj.mapSeq λ_=>#[])).push (seqObj "tuple" c.toArray 0)).push (seqObj "list" #[] 0) };dsimp only;have hsz:c.toArray.size=c.length:=by simp
 have fin:=h;by_cases i:c.toArray.size<2
 .rw[if_pos i,if_pos i];show aa (ao ?_);rw[StateT.run_pure];show aa (ao ?_);dsimp only;show aa (seqEpoch_at j rfl ?_);show aa (listUpdate_at j rfl ?_ (aZ _) (by rw[Array.size_map];show(pairsOf c).size<=_;rw[pairsOf_size];show Nat.le_succ_of_le g));simp only[bne_self_eq_false,aq,aR];show ao (fin (SortSt.mk' general' (c.toArray.zip c.toArray) #[] 7 none) (List.Perm.refl _) ?_);show gn rk (pairsOf c).toList;show RW (by rw[af,pairsOf_size];ext)
 rw[if_neg i,if_neg i];obtain⟨x,p,kr⟩:=u.ask (by ext);show aa (p _ ?_)
 show aa (wpAny_mono (r (by ext) kr
  (Q:=λ_ d=>(arrOf d).toList.Perm (pairsOf c).toList/\gn rk (arrOf d).toList/\failedOf d=none) (pairsOf_size c) λd a1 a2 v=>⟨a1,a2,v⟩) ?_ λ_ _ e=>e)
 rintro⟨⟨⟩,d⟩ y ⟨rfl,l,q,hf⟩;dsimp only;show aa (seqEpoch_at j rfl ?_)
 show aa (listUpdate_at j rfl ?_ (aZ _) (by
  rw[Array.size_map,<-af,l.length_eq,af,pairsOf_size];show Nat.le_succ_of_le g))
 rw[hf];simp only[bne_self_eq_false,aq,aR];show ao (fin d l q)
theorem sv{l:Addr}{a:List Value}{Q:Value->Shared->Prop}{rk:Keyed->Int}(i:s.heap.IsList l a.toArray)(hz:a.length<=sizeLine)(g:2<=a.length->kJ a.length)
  (R:∀h',(∀b o,s.heap.get? b=some o->h'.get? b=some o)->Ask prog w A.in1.in1 E a rk { s with heap:=h' })
  (h:∀c:SortSt,(arrOf c).toList.Perm (pairsOf a).toList->gn rk (arrOf c).toList->Q (.ref (s.heap.objs.size+1)) { s with heap:=sortedAll s.heap a ((arrOf c).map (·.2)) }) :
  wpAny (model prog w) A (call (.builtin "sorted") [.ref l]) Q E s:=by
 show Calls.call_function_entry kind_sorted plain_sorted entry_sorted (args_sorted1 _) ?_;unfold Builtin.«sorted»;show aa (m:=checkCount "sorted" 1 1 _) (ao ?_);show aa (collect_list i ?_ hz);show aa (wpAny_newList ?_ hz);have hsz:((s.heap.push (seqObj "list" #[] 0)).update s.heap.objs.size (Obj.mapSeq (·++a.toArray))).objs.size=s.heap.objs.size+1:=by
  rw[Heap.size_update,size_push']
 have f:(((s.heap.push (seqObj "list" #[] 0)).update s.heap.objs.size (Obj.mapSeq (·++a.toArray))).push (seqObj "list" a.toArray 0)).get? (s.heap.objs.size+1)=some (seqObj "list" a.toArray 0):=by
  rw[<-hsz];show az _ rfl
 have keep:∀b o,s.heap.get? b=some o->(((s.heap.push (seqObj "list" #[] 0)).update s.heap.objs.size (Obj.mapSeq (·++a.toArray))).push (seqObj "list" a.toArray 0)).get? b=some o:=λb o q=>by
  have d:b<s.heap.objs.size:=aF q;rw[Heap.get?_push_ne _ _ _ (by rw[hsz];show aJ (b8 d)),Heap.get?_update_ne _ _ _ _ (aJ d),Heap.get?_push_ne _ _ _ (aJ d)];show q
 show wpAny _ _ _ _ _ { s with heap:=((s.heap.push (seqObj "list" #[] 0)).update s.heap.objs.size (Obj.mapSeq (·++a.toArray))).push (seqObj "list" a.toArray 0) };rw[hsz];show aa (bM (wpAny_call_entry slot_list_sort ⟨_,f,rfl⟩ entry_list_sort (Ud (rk:=rk) f hz g (λh' k=>R h' λb o e=>k b o (aJ (b8 (aF e))) (keep b o e)) λc a1 a2=>⟨_,rfl,?_⟩) (args_list_sort _)));show ao ⟨_,rfl,h c a1 a2⟩
end
theorem sE(n:Nat):kJ n:=λR _ _ q=>Rq (ok:=λx=>x∈_) ⟨λx y st Q d c e q=>by
 rw[lt'_eq];show ai (wpS_get ?_);rw[e]
 show ai (wpS_lift (wpAny_attempt (wpAny_mono (R.key x y (λb a=>a=_/\b=decide _) d c ⟨rfl,rfl⟩) (λb a ⟨g,f⟩=>⟨g,by subst f;show ag q⟩) λ_ _ z=>z.elim)))⟩ rfl rfl rfl (λx hx=>hx) q
end Ts
namespace HT
theorem oG:∀a b:List Int,lexLt a b=eH b a
 | [],[]=>rfl
 | [],_::_=>rfl
 | _::_,[]=>rfl
 | x::xs,y::ys=>by
  unfold lexLt eH;rw[oG xs ys];by_cases e:x=y
  .subst e;simp
  have c:¬y=x:=λz=>e z.symm
  simp[e,c]
end HT
namespace Ts
open PySem PySem.W PyProof.Rows
section
variable{prog:Program}{w:World}{A:Around}{E:Value->Shared->Prop}{s:Shared}{fin:Bool}{Q:Bool->Shared->Prop}
theorem Rp{f ws:List Value}{ns c:List Int}(g:IntsAre f ns)(hw:IntsAre ws c)(i:Nat)(d:fin=decide (ns.length<c.length))(q:Q (HT.lexLt ns c) s):KatLex prog w A true fin Q (f.zip ws) i s:=by
 induction g generalizing ws c i with
 | nil=>
  subst d;cases hw with
  | nil=>show kat_nil q
  | cons b u hw=>show kat_nil (by simpa[HT.lexLt] using q)
 | cons a t g h=>
  cases hw with
  | nil=>subst d;show kat_nil (by simpa[HT.lexLt] using q)
  | cons b u hw=>
   rw[List.zip_cons_cons];show kat_cons (wpAny_eqBool_int ?_);rw[HT.pF] at q;by_cases e:a=b
   .rw[if_pos e] at q;subst e;simp only[BEq.rfl,cw];show kat_yes (h hw (i+1) (by rw[d];simp) q)
   rw[if_neg e] at q;simp only[cI.mpr e,bh e];show kat_no ?_;cases i with
   | zero=>show oneLt_int q
   | succ i=>show kat_one _ _ (HT.sI A s a t b u prog w _ _ q)
noncomputable def jL(h:Heap)(v:Value):List Int:=match v with
 | .ref a=>match h.get? a with
  | some o=>match o.data with
   | .seq xs _=>numsOf xs.toList
   | _=>[]
  | none=>[]
 | _=>[]
def TupAt(h:Heap)(v:Value):Prop:=∃a o xs n,v=.ref a/\h.get? a=some o/\o.cls=.type "tuple"/\o.data=.seq xs n/\IntsAre xs.toList (jL h v)/\jL h v≠[]
noncomputable def ym(h:Heap)(a:List (List Int))(x:Keyed):Int:=(a.countP λt=>HT.eH (jL h x.1) t:Nat)
theorem vo{d:List (List Int)}{a b:List Int}(ha:a∈d):(d.countP λt=>HT.eH a t)<(d.countP λt=>HT.eH b t)↔HT.eH b a=true:=by
 constructor
 .intro h;cases i:HT.eH b a with
  | true=>rfl
  | false=>
   have:(d.countP λt=>HT.eH b t)<=(d.countP λt=>HT.eH a t):=by
    show List.countP_mono_left λt _ e=>?_
    cases f:HT.eH a t with
    | true=>rfl
    | false=>
     have:=HT.lR b a t i f;rw[this] at e;cases e
   ext
 intro h;have sub:∀t,HT.eH a t=true->HT.eH b t=true:=λt e=>by
  cases f:HT.eH b t with
  | true=>rfl
  | false=>
   have:=HT.lR b t a f (HT.oH a t e);rw[this] at h;cases h
 induction d with
 | nil=>cases ha
 | cons c r g=>
  rw[List.countP_cons,List.countP_cons];rcases av.mp ha with rfl | ha
  .have le:(r.countP λt=>HT.eH a t)<=(r.countP λt=>HT.eH b t):=List.countP_mono_left λt _ e=>sub t e
   rw[HT.m6,h];simp only[aq,aR,aX];ext
  have:=g ha;cases f:HT.eH a c with
  | true=>rw[sub c f];simp only[aX];ext
  | false=>simp only[aq,aR];split<;>ext
theorem K7{h h':Heap}(k:∀b o,h.get? b=some o->h'.get? b=some o):∀{its:List Value},(∀v∈its,TupAt h v)->∃fs,KatTups h' its fs/\fs.length=its.length/\∀v∈fs,∃n t,v=Value.int n t
 | [],_=>⟨[],.nil,rfl,λv c=>by cases c⟩
 | v::r,c=>by
  obtain⟨fs,j,i,g⟩:=K7 k (its:=r) λx hx=>c x (aK _ hx)
  obtain⟨a,o,xs,n,rfl,e,f,hd,hi,d⟩:=c v cz;generalize jL h (.ref a)=t at hi d;generalize hx:xs.toList=l at hi;cases hi with
  | nil=>show absurd rfl d
  | cons m u p=>
   have h0:xs[0]?=some (.int m u):=by rw[<-cM,hx];rfl
   show⟨.int m u::fs,KatTups.cons (k _ _ e) f hd h0 j,by simp[i],λx hx=>by
    rcases av.mp hx with rfl | hx
    .exact⟨_,_,rfl⟩
    .exact g x hx⟩
theorem tG{h h':Heap}{its:List Value}(k:∀b o,h.get? b=some o->h'.get? b=some o)(c:∀v∈its,TupAt h v):Ask prog w A E its (ym h (its.map (jL h))) { s with heap:=h' }:=by
 show⟨λH=>⟨tuples' (Value.type "int" != Value.type "tuple"),λJ q=>?_,⟨λx y Q l j q=>?_⟩⟩⟩
 .obtain⟨fs,u,K,r⟩:=K7 k c;show kat_kind (s:={ s with heap:=h' }) (T:=.type "int") u (by ext) (λv c=>?_) (by decide +kernel) q;obtain⟨n,t,rfl⟩:=r v c;show Looks.of_pure rfl
 have mem:∀z,z∈pairsOf its->TupAt h z.1/\z.1∈its:=λz hz=>by
  have:z.1∈its:=by
   unfold pairsOf at hz;have D:z∈its.zip its:=by simpa using hz
   show(List.of_mem_zip D).1
  show⟨c _ this,this⟩
 obtain⟨⟨a,F,xs,n,i,ga,ca,C,f,_⟩,p⟩:=mem x l;obtain⟨⟨b,ob,ys,m,g,gb,I,db,d,_⟩,G⟩:=mem y j;have e:decide (ym h (its.map (jL h)) x<ym h (its.map (jL h)) y)=HT.lexLt (jL h x.1) (jL h y.1):=by
  rw[HT.oG,Bool.eq_iff_iff,ba];unfold ym;rw[Int.ofNat_lt];show vo (bP p)
 rw[e] at q;rw[i,g];rw[i,g] at q;rw[i] at f;rw[g] at d;have B:(Value.type "int" != Value.type "tuple")=true:=by decide +kernel
 rw[B];show kat_lt (k _ _ ga) C (k _ _ gb) db (Rp f d 0 ?_ q);rw[<-f.length,<-d.length];simp
end
end Ts
namespace L2
open PySem PySem.Spec PyProof.Rows
theorem K6{d g:Type}{f:d->g}{a b:List g}(h:a.Perm b):∀{L:List d},b=L.map f->∃c:List d,c.Perm L/\a=c.map f:=by
 induction h with
 | nil=>intro L e;show⟨[],by rw[show L=[] from by simpa using e.symm],rfl⟩
 | cons x h k=>
  intro L e;cases L with
  | nil=>cases e
  | cons y L=>
   rw[ax] at e;injection e with n m
   obtain⟨c,j,i⟩:=k m;show⟨y::c,j.cons y,by rw[ax,n,i]⟩
 | swap x y l=>
  intro L e;match L,e with
  | [],e=>cases e
  | [_],e=>cases e
  | u::v::L,e=>
   simp only[ax,List.cons.injEq] at e;show⟨v::u::L,List.Perm.swap u v L,by simp[e]⟩
 | trans j i q r=>
  intro L e;obtain⟨L2,a1,a2⟩:=r e;obtain⟨s,p,o⟩:=q a2;show⟨s,p.trans a1,o⟩
section
variable{X:Cx}{pos:Pos}{e:Expr}{te:TD}
theorem IW{a:Type}{f:a->V}{g:a->Value}:∀{L:List a},(∀q∈L,RelV (f q) (g q))->Vals (L.map f) (L.map g)
 | [],_=>.nil
 | q::L,h=>.cons (h q cz) (IW λx hx=>h x (aK _ hx))
theorem SQ:fc X (.builtin "sorted") (λxs H Q=>∃(p:Addr)(ps:List (V×List Int)),xs=[.ref p]/\gA X.K H p (ps.map (·.1))/\(∀q∈ps,q.2≠[]/\∃b,q.1=.ref b/\iz X.K H b (q.2.map V.int))/\(2<=ps.length->Ts.kJ ps.length)/\
  ∀w:List (V×List Int),w.Perm ps->w.Pairwise (λx y=>HT.eH x.2 y.2=false)->∀l,H l=none->Q (.ref l) (upd H l (.lst (w.map (·.1))))):=by
 intro K' s σ H xs us Q I r h;obtain⟨p,ps,rfl,hq,hk,hr,q⟩:=h;obtain⟨u,rfl,Z⟩:=lG r;cases Z;obtain⟨its,D,pl,hz⟩:=I.list hq;have A:ps.length=its.length:=by rw[<-D.length,ae]
 obtain⟨d,n,g⟩:∃d:List ((V×List Int)×Value),ps=d.map (·.1)/\its=d.map (·.2):=
  ⟨ps.zip its,(List.map_fst_zip (by ext)).symm,(List.map_snd_zip (by ext)).symm⟩
 have rel:∀z∈d,RelV z.1.1 z.2:=λz hz=>by
  obtain⟨i,hi⟩:=List.getElem?_of_mem hz;have c:(ps.map (·.1))[i]?=some z.1.1:=by rw[n];simp[hi]
  obtain⟨v',E,Y⟩:=D.get c;have m:its[i]?=some z.2:=by rw[g];simp[hi]
  rw[m] at E;cases E;show Y
 have tup:∀z∈d,Ts.TupAt s.heap z.2/\Ts.jL s.heap z.2=z.1.2:=λz hz=>by
  obtain⟨R,b,S,sq⟩:=hk z.1 (by rw[n];show bP hz);have C:=rel z hz;obtain⟨i1,v1,p1,_⟩:=I.tuple sq;obtain⟨o1,g1,c1,n1,T⟩:=p1;obtain⟨⟨zv,U⟩,zw⟩:=z;simp only at S C v1 R ⊢;subst S;cases C;have L:=yc v1;have e:Ts.jL s.heap (.ref b)=U:=by
   unfold Ts.jL;simp only[g1,T];show L.numsOf
  show⟨⟨b,o1,_,n1,rfl,g1,c1,T,by rw[e];show L,by rw[e];show R⟩,e⟩
 show Ts.sv (rk:=Ts.ym s.heap (its.map (Ts.jL s.heap))) pl.isList (by rw[<-A,<-ae (f:=(·.1))];show hz) (by rw[<-A];show hr) (λh' k=>Ts.tG k λv M=>?_) λB N j=>?_
 .rw[g] at M;obtain⟨z,hz,rfl⟩:=aN.mp M;show(tup z hz).1
 have ep:(PyProof.Rows.pairsOf its).toList=d.map λz=>((z.2,z.2):Keyed):=by
  unfold PyProof.Rows.pairsOf;rw[g];simp only[List.zip_toArray];clear n g rel tup N j;induction d with
  | nil=>rfl
  | cons a r J=>simp at J ⊢;show J
 obtain⟨t,c,m⟩:=K6 (N.trans (List.Perm.of_eq ep)) rfl;have Gd:∀z∈t,RelV z.1.1 z.2:=λz hz=>rel z (c.subset hz)
 have out:((arrOf B).map (·.2)).toList=t.map (·.2):=by
  rw[Array.toList_map,m,aU];rfl
 obtain⟨en,he⟩:=sortedAll_at s.heap its ((arrOf B).map (·.2));have hf:H (s.heap.objs.size+1)=none:=I.eT.fresh (bU _)
 have F:=q (t.map (·.1)) (by rw[n];show c.map _) (by
  rw[List.pairwise_map];unfold Ts.gn at j;rw[m,List.pairwise_map] at j;show j.imp_of_mem λ{a b} ha P G=>?_
  have W:=(tup a (c.subset ha)).2;have tb:=(tup b (c.subset P)).2;have mb:Ts.jL s.heap b.2∈its.map (Ts.jL s.heap):=bP (by rw[g];show bP (c.subset P));unfold Ts.ym at G;cases O:HT.eH a.1.2 b.1.2 with
  | false=>rfl
  | true=>
   rw[<-W,<-tb] at O;have:=(Ts.vo mb).mpr O;simp only at G;ext) _ hf
 rw[aU] at F;show⟨.ref (s.heap.objs.size+1),_,I.laid (a:=s.heap.objs.size+1) (o:=.lst (t.map ((·.1)∘(·.1)))) (t':=s.toks) (λb o e=>sortedAll_old e) (bU _) ?_,rfl,F⟩
 show⟨by
  rw[ae,c.length_eq];have:d.length=its.length:=by rw[g,ae]
  rw[this,<-A,<-ae (f:=(·.1))];show hz,((arrOf B).map (·.2)).toList,en,?_,?_⟩
 .rw[out];show IW Gd
 rw[Array.toArray_toList];show he
def Cz:fv:=λds Q=>match ds with
 | [.lst es]=>match oe es with
  | some b=>(∀t∈b,t≠[])/\∀a:List (List Int),a.Perm b->a.Pairwise (λx y=>HT.eH x y=false)->Q (.ow (a.map λt=>.tup (t.map D.int)))
  | none=>False
 | _=>False
theorem Cq{a:Type}{K:J'}{G:Hp}{f:a->V}{g:a->D}:∀{L:List a},(∀q∈L,Rep K G (f q) (g q))->c9 K G (L.map f) (L.map g)
 | [],_=>c9.nil
 | q::L,h=>c9.cons (h q cz) (Cq λx hx=>h x (aK _ hx))
theorem Ro{G H:Hp}{m:List V}{es:List D}{c:List (List Int)}{Q:R->Prop}{P:VK}(s:dU G H)(A:c9 X.K G m [.lst es])(C:oe es=some c)(F:∀t∈c,t≠[])(E:2<=c.length->Ts.kJ c.length)
  (q:∀g:List (List Int),g.Perm c->g.Pairwise (λx y=>HT.eH x y=false)->Q (.ow (g.map λt=>.tup (t.map D.int)))) (k:∀v j o w,Ext G H w j->gJ X.K w j H v o->Q o->P v j) :
  ∃(p:Addr)(ps:List (V×List Int)),m=[.ref p]/\gA X.K H p (ps.map (·.1))/\(∀q∈ps,q.2≠[]/\∃b,q.1=.ref b/\iz X.K H b (q.2.map V.int))/\(2<=ps.length->Ts.kJ ps.length)/\
   ∀d:List (V×List Int),d.Perm ps->d.Pairwise (λx y=>HT.eH x.2 y.2=false)->∀l,H l=none->P (.ref l) (upd H l (.lst (d.map (·.1)))):=by
 obtain⟨v,rfl,n⟩:=mn A;simp only[Rep] at n;obtain⟨a,xs,rfl,L,J⟩:=n;obtain⟨M,I⟩:=Kj C J;have u:(xs.zip c).map (·.1)=xs:=List.map_fst_zip (by ext);have h:(xs.zip c).map (·.2)=c:=List.map_snd_zip (by ext);have el:(xs.zip c).length=c.length:=by rw[List.length_zip];ext
 have hz:∀q∈xs.zip c,Rep X.K G q.1 (.tup (q.2.map D.int))/\∃b,q.1=.ref b/\iz X.K G b (q.2.map V.int):=λq f=>by
  obtain⟨i,hi⟩:=List.getElem?_of_mem f;have a1:xs[i]?=some q.1:=by rw[<-u];simp only[aI,hi];rfl
  have a2:c[i]?=some q.2:=by rw[<-h];simp only[aI,hi];rfl
  show I i _ _ a1 a2
 show⟨a,xs.zip c,rfl,by rw[u];show(s.hE L).sq,λz f=>⟨F _ (by rw[<-h];show bP f),?_⟩,by rw[el];show E,λd r B=>?_⟩
 .obtain⟨_,b,e,sq⟩:=hz z f;show⟨b,e,s.sA sq⟩
 show uk s (ds:=(d.map (·.2)).map λt=>.tup (t.map D.int)) ?_ (q (d.map (·.2)) (by rw[<-h];show r.map _) (by rw[List.pairwise_map];show B)) k;rw[aU];show Cq λq f=>(hz q (r.subset f)).1
theorem RV(_:X.calm=true):se X (.builtin "sorted") Cz:=by
 show⟨_,SQ,λG H b ds Q P s rs h k=>?_⟩;unfold Cz at h;split at h
 .split at h
  .rename_i es c a;show Ro s rs a h.1 (λ_=>Ts.sE _) h.2 k
  show h.elim
 show h.elim
end
theorem K5{P:Program}{w:World}:∀{a:List Key}{us:List Value},Vals (a.map kV) us->ItemsAre (mW P w) a us
 | [],_,r=>by rw[bV] at r;cases r;show .nil
 | k::a,_,r=>by
  rw[ax] at r;cases r with
  | cons h t=>show .cons (Ip h) (K5 t)
abbrev KT(H:Hp):List (List Key×V)->List (List Key×Addr×Value)->Prop:=Paired λp q=>p.1=q.1/\H q.2.1=some (.tup (p.1.map kV))/\RelV p.2 q.2.2
theorem KT.val{H:Hp}{f:List (List Key×V)}{xs:List (List Key×Addr×Value)}(r:KT H f xs)(k:List Key):lh (qv f k) ((atKey xs k).map (·.2)):=by
 induction r with
 | nil=>show True.intro
 | @cons p q ps a h t g=>
  obtain⟨d,_,i⟩:=h;by_cases e:p.1=k
  .have c:q.1=k:=d.symm.trans e;have b:atKey (q::a) k=some q.2:=by simp[atKey,cX,c]
   rw[Km e,b];show i
  have c:¬q.1=k:=λz=>e (d.trans z)
  have b:atKey (q::a) k=atKey a k:=by simp[atKey,cX,c]
  rw[Kl e,b];show g
theorem KT.k6{H:Hp}{d:List (List Key×V)}{xs:List (List Key×Addr×Value)}(r:KT H d xs)(k:List Key){y:V}{u:Value}(f:RelV y u) :
  KT H (d.map λb=>if b.1=k then(b.1,y) else b) (xs.map (putAt k u)):=by
 induction r with
 | nil=>show .nil
 | @cons p q ps j h t g=>
  rw[ax,ax];show .cons ?_ g;obtain⟨a,c,i⟩:=h;unfold putAt;by_cases e:p.1=k
  .rw[if_pos e,if_pos (a.symm.trans e)];show⟨a,c,f⟩
  rw[if_neg e,if_neg (λz=>e (a.trans z))];show⟨a,c,i⟩
theorem KT.put{H:Hp}{a:List (List Key×V)}{xs:List (List Key×Addr×Value)}(r:KT H a xs)(k:List Key){b:Addr}{y:V}{u:Value}(f:H b=some (.tup (k.map kV)))(c:RelV y u) :
  KT H (o6 a k y) (storedH xs k b u):=by
 have e:(a.any λd=>decide (d.1=k))=(atKey xs k).isSome:=by
  rw[Ey,(r.val k).m7,Option.isSome_map]
 unfold o6 storedH;rw[e];by_cases q:(atKey xs k).isSome=true
 .rw[if_pos q,if_pos q];show r.k6 k c
 rw[if_neg q,if_neg q];show Paired.snoc r ⟨rfl,f,c⟩
theorem KT.keeps{H c:Hp}{a:List (List Key×V)}{xs:List (List Key×Addr×Value)}(r:KT H a xs)(d:∀b ys,H b=some (.tup ys)->c b=some (.tup ys)):KT c a xs:=
 Paired.AF r λ_ _ z=>⟨z.1,d _ _ z.2.1,z.2.2⟩
section
variable{P:Program}{w:World}{H:Hp}{h:Heap}{a:Addr}
theorem Nl{u:HO}(ok:jS P w H h)(e:Rd H a u):eU P w H h a u:=e.ok ok
theorem DW{b:List Key}(ok:jS P w H h)(e:H a=some (.tup (b.map kV))):(tupleKind (mW P w)).is h b a:=by
 obtain⟨_,its,r,o,f,d,n,c⟩:=(show eU P w H h a (.tup (b.map kV)) from ok a _ e)
 show⟨o,its.toArray,n,f,d,c,by simpa using K5 r⟩
end
end L2
namespace PySem
open Sem (wp)
end PySem
namespace L2
open PySem PySem.Spec PyProof.Rows
def IsT(H:Hp)(a:Addr):Prop:=∃b bs,Rd H a (.dT b bs)
section
variable{P:Program}{w:World}{H:Hp}{h:Heap}{a:Addr}
theorem DP{b:List (List Key×V)}{bs:List Addr×Nat}(ok:jS P w H h)(e:Rd H a (.dT b bs)):b.length<=sizeLine/\(a==sysModules)=false/\
  ∃xs,xs.map (λx=>x.2.1)=bs.1/\KT H b xs/\h.DictOfH (tupleKind (mW P w)) a xs:=by
 obtain⟨z,y,xs,n,r,o,es,ep,k,j,i,g,f⟩:=(show eU P w H h a (.dT b bs) from Nl ok e)
 have all:∀{l:List (List Key×V)}{m:List (List Key×Addr×Value)},KT H l m->∀x∈m,(tupleKind (mW P w)).is h x.1 x.2.1:=λ{l m} q=>by
  induction q with
  | nil=>show λx hx=>nomatch hx
  | @cons p q ps s c t d=>
   intro x hx;cases hx with
   | head=>show DW ok (by rw[<-c.1];show c.2.1)
   | tail _ hx=>show d x hx
 show⟨z,y,xs,n,r,o,es,ep,k,j,i,g,all r,f.1⟩
end
def Nk:TE:=λ_ H Q=>∀p,H p=none->Q (.ref p) (upd H p (.dT [] ([],0)))
section
variable{X:Cx}{pos:Pos}{e i':Expr}{te ti:TD}
theorem P7:PE X (.Dict [] [] pos) Nk:=λb s σ H Q I h=>by
 have ok:eU X.prog X.w (upd H s.heap.objs.size (.dT [] ([],0))) (s.heap.push { cls:=.type "dict",data:=.dict #[] }) s.heap.objs.size (.dT [] ([],0)):=
  ⟨aZ _,cI.mpr (Ne.symm (aJ I.big)),[],rfl,.nil,_,#[],0,az _ rfl,⟨rfl,rfl,rfl⟩,rfl,rfl,List.nodup_nil,rfl⟩
 show wpAny_Dict_empty ⟨.ref s.heap.objs.size,_,I.laid (a:=s.heap.objs.size) (o:=.dT [] ([],0)) (t':=s.toks) (λ_ _ q=>aj _ q) (ay _) ok,rfl,h _ (I.eT.fresh (ay _))⟩
theorem N9{i:List (Addr×Obj)}{f:St}{H:Hp}{s:Shared}{a:Addr}(I:Inv X i f H s)(d:IsT H a) :
  s.TypeIs (.ref a) "dict"/\(∀b,Value.ref a=.ref b->∃ob,s.heap.get? b=some ob/\ob.dict=none)/\(a==sysModules)=false:=by
 obtain⟨j,bs,e⟩:=d;obtain⟨_,hd,xs,_,_,c⟩:=DP I.eT e;show⟨c.typeIs,λb q=>?_,hd⟩;cases q;obtain⟨ob,_,_,h,g,_⟩:=c;show⟨ob,h,g.2.1⟩
theorem f6.snoc{H:Hp}{k:List Key}{v:V}{b:Addr}(a:H b=some (.tup (k.map kV))):∀{ps:List (List Key×V)}{bs:List Addr},f6 H ps bs->f6 H (ps++[(k,v)]) (bs++[b])
 | [],[],_=>⟨a,trivial⟩
 | p::ps,c::bs,h=>⟨h.1,f6.snoc a h.2⟩
 | [],_::_,h=>h.elim
 | _::_,[],h=>h.elim
noncomputable def vc:List D->Option (List Key)
 | []=>some []
 | d::r=>match u4 d,vc r with
  | some k,some a=>some (k::a)
  | _,_=>none
theorem ER{K:J'}{G:Hp}:∀{ds:List D}{b:List V}{a:List Key},c9 K G b ds->vc ds=some a->b=a.map kV
 | [],[],a,_,h=>by simp only[vc,aB] at h;subst h;rfl
 | d::ds,v::b,a,r,h=>by
  simp only[c9] at r;simp only[vc] at h;split at h
  .rename_i k f e c;simp only[aB] at h;subst h;rw[Kk r.1 e,ER r.2 c];rfl
  cases h
 | [],_::_,_,r,_=>by simp only[c9] at r
 | _::_,[],_,r,_=>by simp only[c9] at r
end
section
variable{X:Cx}{pos:Pos}{e i':Expr}{te ti:TD}
noncomputable def gu(b:List (List Key×D))(k:List Key):Option D:=(b.find? λa=>decide (a.1=k)).map (·.2)
theorem eB.look{K:J'}{G:Hp}{k:List Key}{d:D}:∀{c:List (List Key×V)}{f:List (List Key×D)},eB K G c f->gu f k=some d->∃v,qv c k=some v/\Rep K G v d
 | [],[],_,e=>by simp[gu] at e
 | a::c,b::f,h,e=>by
  simp only[eB] at h;unfold gu at e;unfold qv;rw[cX] at e ⊢;rw[h.1.1];by_cases g:b.1=k
  .simp only[g,cw,cV,aB] at e ⊢;subst e;show⟨_,rfl,h.1.2⟩
  simp only[g,bS] at e ⊢;show eB.look h.2 e
 | [],_::_,h,_=>by simp only[eB] at h
 | _::_,[],h,_=>by simp only[eB] at h
end
end L2
namespace PySem
open Sem (wp)
end PySem
namespace L2
open PySem PySem.Spec PyProof.Rows
theorem Nj{b:Type}{d:List (b×V)}{c:List (b×Value)}(r:KV d c):∀(i:Nat){k:b}{v:Value},c[i]?=some (k,v)->∃x,d[i]?=some (k,x)/\RelV x v:=by
 unfold KV at r;induction r with
 | nil=>intro i k v h;simp at h
 | @cons p q ps f h t e=>
  intro i k v a;cases i with
  | zero=>
   simp only[bZ,aB] at a;subst a;show⟨p.2,by simp only[bZ];show congrArg some (Prod.ext h.1 rfl),h.2⟩
  | succ i=>
   simp only[bO] at a ⊢;show e i a
end L2
namespace PySem
open Sem (wp)
end PySem
namespace L2
open PySem PySem.Spec PyProof.Rows
namespace SI
open PySem PySem.Spec PyProof.Rows
end SI
end L2
namespace L2
open PySem PySem.Spec PyProof.Rows
namespace SI
end SI
end L2
namespace L2
open PySem PySem.Spec PyProof.Rows
section
variable{P:Program}{w:World}{K:J'}{mg:Str->Option Value}{base:Heap}
structure Dw(K:J')(mg:Str->Option Value)(x:Str)(st:Stmt)(ds:List Value):Prop where
 ex:∃(T f:Addr)(fd:FuncData)(o:Obj)(n:Nat),nC (.ref T) K x x st f fd/\mg x=some (.ref f)/\K.lookup T=some o/\o.data=.seq ds.toArray n
theorem xq{h:Heap}{x:Str}{st:Stmt}{f T:Addr}{i tc:Value}{od j e:Option Addr}{g m:Array (Option Value)}{kV b pm d ct:Value}{ds:List Value}{n:Nat}(X:K.In h)(G:h.Ns mainGlobals mg)(a:PySem.W.nsIn K mainGlobals x=some (some (.ref f)))
  (l:K.lookup f=some ⟨i,od,.func (PySem.W.fnOf x x (gB st) (eW st) (de st) (.ref T) kV b pm j d ct),g⟩) (c:PySem.W.codeIn K d x=true) (k:PySem.W.keepIn K (.ref f)=true) (t:K.lookup T=some ⟨tc,e,.seq ds.toArray n,m⟩):Dw K mg x st ds:=
 ⟨T,f,_,_,n,D3 l c k,PySem.W.mg_of X G a,t,rfl⟩
theorem nC.tE{x a:Str}{st:Stmt}{f T:Addr}{c:FuncData}{ps:List Str}{o:Obj}{ds es:List Value}{n:Nat}(F:nC (.ref T) K x a st f c)(m:Nat)(d:K.lookup T=some o)(hd:o.data=.seq ds.toArray n)
  (h:∀(kV doc pm:Value)(an:Option Addr)(b ct:Value)(us:List Value),us.length=m->∃k:Option (Array Value)->Sem (List (Str×Value)),bindArgs (PySem.W.fnOf x a (gB st) (eW st) (de st) (.ref T) kV doc pm an b ct) ⟨us,[]⟩=seqItems? (.ref T) >>= k/\k (some ds.toArray)=pure (ps.zip (us++es))) (e:ps.length=m+es.length:=by rfl):Binds K c ps es:=by
 obtain⟨p,od,kV,doc,pm,an,b,ct,l,rfl,lf,q⟩:=F.ex;intro s us yo g;obtain⟨k,j,i⟩:=h kV doc pm an b ct us (by rw[aD,e] at g;ext);show BindsTo.of_defaults rfl (yo _ _ d) hd j i
structure lY(P:Program)(w:World)(K:J')(mg:Str->Option Value)(base:Heap)(k:Nat)(x:Str)(n:Nat)(t:fv)(b:Bool):Prop where
 ex:∃(f:Addr)(fd:FuncData)(ps:List Str),jv P w K mg base nX k f fd ps (xu K n t)/\mg x=some (.ref f)/\PySem.W.keepIn K (.ref f)=true/\Binds K fd ps []/\Binds K fd ps [.bool b]
theorem lY.all{k:Nat}{x:Str}{n:Nat}{t:fv}{b:Bool}(C:lY P w K mg base k x n t b):Known P w K mg base k x n t:=by
 obtain⟨f,fd,ps,e,d,c,a,_⟩:=C.ex;show⟨f,fd,ps,e,d,c,a⟩
end
section
variable{X:Cx}{p p' pos pos':Pos}{e:Expr}{ts:kj}
theorem Rn:fc X (.type "range") (λxs H Q=>∃j:Int,xs=[.int j]/\∀l,H l=none->Q (.ref l) (upd H l (.sF 0 j))):=by
 intro a s σ H xs us Q I r h;obtain⟨j,rfl,q⟩:=h;obtain⟨u,rfl,t,rfl⟩:=lG r;show call_range_1 ⟨.ref s.heap.objs.size,_,I.laid (t':=s.toks+1+1) (λb o e=>aj _ e) (ay _) (show eU X.prog X.w _ _ _ (.sF 0 j) from⟨_,_,_,az _ rfl⟩),rfl,q _ (I.eT.fresh (ay _))⟩
theorem Lf:∀(l:List Value)(k:Nat),(∀(j:Nat) v,l[j]?=some v->∃t,v=.int ((k:Int)+j) t)->Vals ((List.range' k l.length).map λ(i:Nat)=>V.int i) l
 | [],_,_=>.nil
 | v::l,k,h=>by
  rw[aG,List.range'_succ,ax];obtain⟨t,a⟩:=h 0 v rfl;show .cons ⟨t,by rw[a];simp⟩ (Lf l (k+1) λj u b=>?_);obtain⟨t,a⟩:=h (j+1) u (by simpa using b);show⟨t,by rw[a];congr 1;ext⟩
theorem Tz(n:Nat)(acc:Array Value)(h:ItemsOf (λi v=>∃t,v=.int (0+i*1) t) acc n):Vals ((List.range n).map λ(i:Nat)=>V.int i) acc.toList:=by
 have:=Lf acc.toList 0 λj v a=>by
  obtain⟨t,b⟩:=h.2 j v (by simpa using a);show⟨t,by rw[b];congr 1;ext⟩
 rw[af,h.1] at this;rw[List.range_eq_range'];show this
theorem UQ(k:X.calm=true):fc X (.type "list") (λxs H Q=>∃(p:Addr)(n:Nat),xs=[.ref p]/\H p=some (.sF 0 n)/\n<=sizeLine/\∀l,H l=none->Q (.ref l) (upd H l (.lst ((List.range n).map λ(i:Nat)=>V.int i)))):=by
 intro m s σ H xs us Q I r h;obtain⟨p,n,rfl,d,f,q⟩:=h;obtain⟨u,rfl,a⟩:=lG r;cases a;obtain⟨t,u,v,e⟩:=I.eT p _ d;have big:sizeLine=16777216:=rfl;show call_list_range (I.ok.hd k) (show IsRange s.heap p 0 n 1 t u v from e) (small_one (by ext) (by ext) (by ext) (by ext)) (n:=n) (by rw[rangeSize_one];split<;>ext) (by ext) λh' tk acc c j g hi=>?_
 have b:=Tz n acc hi;show⟨.ref s.heap.objs.size,_,I.laid (t':=tk) j (ay _) (show eU X.prog X.w _ h' _ (.lst ((List.range n).map λ(i:Nat)=>V.int i)) from⟨by simpa using f,acc.toList,c,b,by simpa using g⟩),rfl,q _ (I.eT.fresh (ay _))⟩
def DV(ts:kj):TD:=λa Q=>ts a λds=>match ds with
 | [.int j]=>0<=j/\j<=1000000/\Q (.ow ((List.range j.toNat).map λ(i:Nat)=>.int i))
 | _=>False
theorem Rm(C:X.calm=true)(z:X.mg "list"=none)(w:X.mg "range"=none)(ha:nA X [e] ts)(B:Gl X "list":=by rfl)(n:Gl X "range":=by rfl)(y:starEach [e] X.env=(false,eval e X.env)::starEach [] X.env:=by rfl):PD X (.Call (.Name "list" p) [.Call (.Name "range" p') [e] [] pos'] [] pos) (DV ts):=by
 obtain⟨t,pp,q⟩:=ha;show⟨_,yg (UQ C) B z boot_list (rn (yg Rn n w boot_range pp (he:=y)) sf),λg σ K I G H Q P E h k=>q g σ K I G H _ _ E h λL d ds f x rs a=>?_⟩;split at a
 .rename_i j;obtain⟨D,M,a⟩:=a;obtain⟨v,rfl,c⟩:=mn rs;simp only[Rep] at c;subst c;show⟨j,rfl,λl A=>?_⟩;have big:sizeLine=16777216:=rfl;have b:Ext f d f (upd d l (.sF 0 j)):=.own x.s A;show⟨l,j.toNat,rfl,by rw[i7,Int.toNat_of_nonneg D],by ext,uk b.s (ds:=(List.range j.toNat).map λ(i:Nat)=>.int i) (Cq λq _=>by simp only[Rep]) a λv F r J m o u=>k v F r J ((x.trans b).trans m) (o.je (x.h.trans b.h)) u⟩
 show a.elim
end
section
variable{P:Program}{w:World}{K:J'}{mg:Str->Option Value}{base:Heap}
theorem iV{x:Str}{st:Stmt}{N ps:List Str}{t:fv}{T:TX}{n d:Nat}(k:Nat)(A:At K mg x st)(S:du N ps (de st))
  (body:∀(f:Addr)(c:Value)(A:Around)(outer:List Env)(s:Shared)(H:Hp)(E:XK),fN k (A.deeper (envOfC x (de st) s.heap.objs.size f c))->pL (rg nX P w K mg base N x (de st) f c A outer s H E).tX (eW st) T)
  (a:∀(ds:List D)(e:R->Prop),ds.length=n->t ds e->T { nx:=λ_=>e (.fz .non),rt:=e } (uf N ds))
  (b:∀(kV doc pm:Value)(an:Option Addr)(c ct:Value)(us:List Value),us.length=n->bindArgs (PySem.W.fnOf x x (gB st) (eW st) (de st) .none kV doc pm an c ct) ⟨us,[]⟩=pure (ps.zip us)) (g:ps.length=n:=by rfl) (hd:k+1=d:=by rfl):Known P w K mg base d x n t:=by
 subst g hd;obtain⟨f,fd,F,hm⟩:=A.ex;show⟨f,fd,ps,Ed F S (body f) a,hm,F.kp,F.binds b⟩
end
noncomputable def HH(a:Addr)(b:List (Key×V))(ep:Nat):It:=⟨λi H=>i<b.length/\H a=some (.dK b ep),λi H v c=>∃t k x,v=.ref t/\H t=none/\b[i]?=some (k,x)/\c=upd H t (.tup [kV k,x]),λi H=>i=b.length/\H a=some (.dK b ep)⟩
theorem Uc:entryFor table "dict_itemiterator.__iter__"=some Builtin.«dict_keyiterator.__iter__»:=entryFor_alias (id':="dict_keyiterator.__iter__") (by kernel_rfl) rfl (by decide +kernel) (by kernel_rfl)
theorem Tx{P:Program}{w:World}{K:J'}{m:List Expr}{D}{pos:Pos}{a d:Addr}{j:List (Key×V)}{ep:Nat}:Turn P w K (.Tuple m D pos) (HH a j ep) [d] d (λi h=>∃ok ov,IsItemIter h d a i j.length ep ok ov) where
 mem:=by simp
 obj:=λi h st b g=>by
  have e:b=d:=by simpa using g
  subst e;obtain⟨_,_,c⟩:=st;show⟨_,c,λv z=>by have C:Data.fields _=Data.cell v:=z;cases C⟩
 keep:=λi h h' st k=>by
  obtain⟨ok,ov,c⟩:=st;show⟨ok,ov,k d (by simp) _ c⟩
 item:=by
  intro X p hw r u i U s σ H E I hf st n;subst p hw r;obtain⟨hi,ha⟩:=(show i<j.length/\H a=some (.dK j ep) from n)
  obtain⟨z,hd,f,rel,dat⟩:=BO I.eT (.inl ha);have hlen:j.length=f.length:=rel.length;obtain⟨ok,ov,c⟩:=st;rw[hlen] at c;have y:f[i]?=some (f[i]'(by ext)):=ah (by ext);obtain⟨x,hx,J⟩:=Nj rel i (k:=(f[i]'(by ext)).1) (v:=(f[i]'(by ext)).2) y;show wpAny_pyNext_items_item c dat y λkey h' M T S W L=>?_
  show⟨_,rfl,wpAny_letOwnedTupleGo_items T λG R t=>?_⟩;have B:s.heap.objs.size≠d:=Nat.ne_of_gt (aF c);have l:=t.extBut _ _ B S;have N:H s.heap.objs.size=none:=I.eT.fresh (ay _);have new:eU X.prog X.w (upd H s.heap.objs.size (.tup [kV (f[i]'(by ext)).1,x])) G s.heap.objs.size (.tup [kV (f[i]'(by ext)).1,x]):=⟨D2,[key,(f[i]'(by ext)).2],.cons (Qb M) (.cons J .nil),⟨_,l,rfl,_,rfl⟩⟩
  show⟨.ref s.heap.objs.size,_,I.kD (fp:=[d]) (λb o g q=>t.extBut b o (λz=>g (by simp[z])) (L b o (λz=>g (by simp[z])) q)) hf (ay _) new,rfl,
   ⟨_,_,x,rfl,N,hx,rfl⟩,⟨_,_,by rw[hlen];show R⟩,D0 (λb g=>(hf b g).1) λb g=>?_⟩
  have z:b=d:=by simpa using g
  rw[z];show B.symm
 done:=by
  intro X p hw r u i U s σ H E I hf st n;subst p hw r;obtain⟨hi,ha⟩:=(show i=j.length/\H a=some (.dK j ep) from n)
  obtain⟨z,hd,f,rel,dat⟩:=BO I.eT (.inl ha);have hlen:j.length=f.length:=rel.length;obtain⟨ok,ov,c⟩:=st;subst hi;rw[hlen] at c;show wpAny_pyNext_items_end (I.ok.hd u) c dat (by simp) λh' O=>⟨rfl,I.jX (fp:=[d]) (t':=s.toks) (λb o g q=>O b o (λz=>g (by simp[z])) q) hf⟩
 self:=λA i s Q E st q=>by
  obtain⟨ok,ov,c⟩:=st;have l:s.TypeIs (.ref d) "dict_itemiterator":=⟨_,c,rfl⟩
  show wpAny_pyIter_slot l PySem.F.slot_dict_itemiterator_iter (wpAny_call_entry PySem.F.slot_dict_itemiterator_iter l Uc ?_ (PySem.F.args_dict_itemiterator_iter_1 _));show wpAny _ _ (ret (.ref d)) _ _ s;show ao ⟨_,rfl,"dict_itemiterator",_,l,PySem.F.slot_dict_itemiterator_next.lookup,q⟩
section
variable{X:Cx}{elts:List Expr}{x1:Nat}{ot:Pos}
def N8(tl:TE):TI:=λσ H R=>tl σ H λx H1=>∃a b ep,x=.ref a/\H1 a=some (.dK b ep)/\R (HH a b ep) H1
theorem Rj{o:Expr}{g:TE}{c r:Pos}(A:PE X o g)(u:attributeBase o "items" X.env (eval o X.env)=eval o X.env:=by rfl)(y:(c.endLine==r.line)=true:=by rfl) :
  PI X (.Tuple elts x1 ot) (.Call (.Attribute o "items" c) [] [] r) (N8 g):=by
 intro E s σ H R I h;show wpAny_Call_method0_late u y (eY (A E s σ H _ I h) λv s1 D=>?_);obtain⟨x,H1,d,j,a,m,ep,ex,n,q⟩:=D;subst ex;obtain⟨p,C⟩:=Ir (T:="dict") d j (.inr (.inr (.inl ⟨rfl,.inl ⟨m,ep,n⟩⟩)));obtain rfl:v=Value.ref a:=j;show⟨"dict","dict.items",PySem.F.plainAttrs_dict,PySem.F.slot_dict_items,PySem.F.type_dict_items,p,C,Calls.callWith_builtin rfl (PySem.evalArgs_none ?_)⟩;obtain⟨z,hd,f,rel,dat⟩:=BO d.eT (.inl n);have hlen:m.length=f.length:=rel.length;obtain⟨l,es,k,i⟩:=id dat;show call_meetsIn PySem.F.slot_dict_items p PySem.F.entry_dict_items (PySem.F.args_dict_items_1 _) (meets_dict_items (mW X.prog X.w) a hd) ⟨⟨f,⟨l,es,ep,k,i⟩⟩,?_⟩;have t:(s1.heap.push { cls:=.type "dict_items",data:=.fields #[.ref a] }).IsItemsView s1.heap.objs.size a:=⟨_,az _ rfl,rfl,rfl⟩
 have G:(s1.heap.push { cls:=.type "dict_items",data:=.fields #[.ref a] }).DictAt (mW X.prog X.w) a f ep:=⟨l,es,aj _ k,i⟩
 show wpAny_pyIter_items t G ?_;show⟨_,[_],_,_,H1,rfl,(d.kept (t':=s1.toks) λb o e=>aj _ e).kept (t':=s1.toks) λb o e=>aj _ e,Tx,⟨.none,.none,by rw[hlen];show az _ rfl⟩,λb B=>?_,q⟩;have e:b=(s1.heap.push { cls:=.type "dict_items",data:=.fields #[.ref a] }).objs.size:=by simpa using B
 subst e;rw[cO];show d.oN (bU _) (d.eT.fresh (bU _))
theorem eu.at{K:J'}{G:Hp}:∀{a:List (Key×V)}{b:List (Key×D)},eu K G a b->∀(i:Nat){k:Key}{x:V},a[i]?=some (k,x)->∃d,b[i]?=some (k,d)/\Rep K G x d
 | [],[],_,i,_,_,h=>by simp at h
 | (e,v)::a,(c,d)::b,r,i,k,x,h=>by
  simp only[eu] at r;cases i with
  | zero=>
   simp only[bZ,aB,Prod.mk.injEq] at h;obtain⟨rfl,rfl⟩:=h;show⟨d,by rw[r.1.1];rfl,r.1.2⟩
  | succ i=>show eu.at r.2 i (by simpa using h)
 | [],_::_,r,_,_,_,_=>by simp only[eu] at r
 | _::_,[],r,_,_,_,_=>by simp only[eu] at r
theorem Tw{K:J'}{G:Hp}{a:Addr}{c:List (Key×V)}{ep:Nat}{b:List (Key×D)}(h:G a=some (.dK c ep))(r:eu K G c b):tJ K (HH a c ep) G (b.map λp=>.tup [BB p.1,p.2]):=by
 have s:=r.length;show⟨λi d j f hd s1 s2=>?_,λj f s1 s2=>⟨by rw[ae];show s.symm,s2 _ _ (s1 _ _ h)⟩⟩;rw[aI] at hd;have hi:i<b.length:=by
  cases e:b[i]? with
  | none=>rw[e] at hd;cases hd
  | some p=>show(ar.mp e).1
 show⟨⟨by ext,s2 _ _ (s1 _ _ h)⟩,λv u o=>?_⟩;obtain⟨t,k,x,rfl,q,hx,rfl⟩:=o;have l:Ext j f (upd j t (.tup [kV k,x])) (upd f t (.tup [kV k,x])):=.new s2 q;obtain⟨d',m,n⟩:=r.at i hx;rw[m] at hd;simp only[cV,aB] at hd;rw[<-hd];show⟨_,l,EB i7 (Qa k) ((n.mono s1).mono l.g)⟩
def DU(te:TD):lC:=λa Q=>te a λr=>match r.val with
 | .dic b=>Q (b.map λp=>.tup [BB p.1,p.2])
 | _=>False
theorem RU{o:Expr}{te:TD}{b i:Pos}(h:PD X o te)(m:attributeBase o "items" X.env (eval o X.env)=eval o X.env:=by rfl)(n:(b.endLine==i.line)=true:=by rfl):PId X (.Tuple elts x1 ot) (.Call (.Attribute o "items" b) [] [] i) (DU te):=by
 obtain⟨t,p,q⟩:=h;show⟨_,Rj p m n,λj σ B y G H Q P E h k=>q j σ B y G H _ _ E h λv z r D x l d=>?_⟩;obtain⟨A,f,c,_⟩:=l.freeze x;split at d
 .rename_i C e;rw[e] at c;simp only[Rep] at c;obtain⟨a,u,ep,rfl,g,w⟩:=c;show⟨a,u,ep,rfl,f.s _ _ g,k _ z _ A f (Tw g w) d⟩
 show d.elim
end
end L2
namespace Ts
open PySem PySem.W PyProof.Rows
end Ts
namespace L2
open PySem PySem.Spec PyProof.Rows
theorem t9{b:Type}{l:List b}{n:Nat}(h:l.length=n+1):∃a r,l=a::r/\r.length=n:=by
 cases l with
 | nil=>cases h
 | cons a r=>show⟨a,r,rfl,Nat.succ.inj h⟩
theorem NL{a:Type}{l:List a}(h:l.length=0):l=[]:=cf h
theorem Dz{b:Type}{l:List b}(h:l.length=1):∃c,l=[c]:=by
 obtain⟨a,r,e,h⟩:=t9 h;show⟨a,by rw[e,NL h]⟩
theorem Dy{b:Type}{l:List b}(h:l.length=2):∃f a1,l=[f,a1]:=by
 obtain⟨a,r,e,h⟩:=t9 h;obtain⟨d,c⟩:=Dz h;show⟨a,d,by rw[e,c]⟩
theorem HV{b:Type}{l:List b}(h:l.length=3):∃g a1 a2,l=[g,a1,a2]:=by
 obtain⟨a,r,e,h⟩:=t9 h;obtain⟨f,d,c⟩:=Dy h;show⟨a,f,d,by rw[e,c]⟩
theorem HU{b:Type}{l:List b}(h:l.length=4):∃j a1 a2 i,l=[j,a1,a2,i]:=by
 obtain⟨a,r,e,h⟩:=t9 h;obtain⟨g,f,d,c⟩:=HV h;show⟨a,g,f,d,by rw[e,c]⟩
theorem HS{b:Type}{l:List b}(h:l.length=5):∃m a1 a2 k j,l=[m,a1,a2,k,j]:=by
 obtain⟨a,r,e,h⟩:=t9 h;obtain⟨i,g,f,d,c⟩:=HU h;show⟨a,i,g,f,d,by rw[e,c]⟩
theorem Dx{b:Type}{l:List b}(h:l.length=6):∃o a1 a2 n m k,l=[o,a1,a2,n,m,k]:=by
 obtain⟨a,r,e,h⟩:=t9 h;obtain⟨j,i,g,f,d,c⟩:=HS h;show⟨a,j,i,g,f,d,by rw[e,c]⟩
theorem HR{b:Type}{l:List b}(h:l.length=7):∃q a1 a2 p o n m,l=[q,a1,a2,p,o,n,m]:=by
 obtain⟨a,r,e,h⟩:=t9 h;obtain⟨k,j,i,g,f,d,c⟩:=Dx h;show⟨a,k,j,i,g,f,d,by rw[e,c]⟩
theorem HQ{b:Type}{l:List b}(h:l.length=8):∃t a1 a2 s q p o n,l=[t,a1,a2,s,q,p,o,n]:=by
 obtain⟨a,r,e,h⟩:=t9 h;obtain⟨m,k,j,i,g,f,d,c⟩:=HR h;show⟨a,m,k,j,i,g,f,d,by rw[e,c]⟩
theorem YD{b:Type}{l:List b}(h:l.length=9):∃v a1 a2 u t s q p o,l=[v,a1,a2,u,t,s,q,p,o]:=by
 obtain⟨a,r,e,h⟩:=t9 h;obtain⟨n,m,k,j,i,g,f,d,c⟩:=HQ h;show⟨a,n,m,k,j,i,g,f,d,by rw[e,c]⟩
open PySem.Builtin PySem.Builtin.Str
end L2
namespace L2.SO
open PySem PySem.Spec PyProof.Rows L2
end L2.SO
namespace L2
open PySem PySem.Spec PyProof.Rows
section
variable{X:Cx}{pos:Pos}{e:Expr}{te:TD}{ts:kj}{t:TA}
noncomputable def oD:Option Str->D
 | none=>.non
 | some x=>.str x
end
section
variable{X:Cx}{pos:Pos}{e i':Expr}{te ti tv:TD}
theorem eB.isSome{K:J'}{G:Hp}(k:List Key):∀{c:List (List Key×V)}{d:List (List Key×D)},eB K G c d->(qv c k).isSome=(gu d k).isSome
 | [],[],_=>rfl
 | a::c,b::d,h=>by
  simp only[eB] at h;unfold gu qv;rw[cX,cX,h.1.1];by_cases e:b.1=k
  .simp only[e,cw,cV,Option.isSome_some]
  simp only[e,bS];show eB.isSome k h.2
 | [],_::_,h=>by simp only[eB] at h
 | _::_,[],h=>by simp only[eB] at h
def yR:TD:=λ_ Q=>Q (.ov (.dq []))
theorem Kf:PD X (.Dict [] [] pos) yR:=by
 show⟨_,P7,λb σ f c G H Q P E h k=>λd hd=>?_⟩;show k _ _ (.ov (.dq [])) G (.own E.e.s hd) ⟨d,[],rfl,by simp,⟨rfl,[],([],0),i7,trivial,by simp only[eB]⟩,λq a=>?_⟩ h;simp only[bp] at a;subst a;show⟨hd,E.e.s.free hd⟩
def N7(e ty tv:TE):TS:=λD σ H=>tv σ H λv H1=>e σ H1 λx g=>ty σ g λy d=>∃a b c bs k,x=.ref a/\y=.ref b/\d a=some (.dT c bs)/\d b=some (.tup (k.map kV))/\c.length<sizeLine/\∀ep,D.nx σ (upd d a (.dT (o6 c k v) (if (c.any λf=>decide (f.1=k))=true then bs.1 else bs.1++[b],ep)))
theorem RO{o i d:Expr}{f:Pos}{n ty tv:TE}(hu:X.A.units+64<cLine)(S:PE X o n)(hi:PE X i ty)(Q:PE X d tv)(R:swapsWith d (some (.Subscript o i f)) pos.line X.env=pure false) :
  PS X (.Assign [.Subscript o i f] d pos) (N7 n ty tv):=by
 intro l s σ H D I h;show wpAny_Assign_Subscript (eY (Q l s σ H _ I h) λr s1 g=>?_) R;obtain⟨v,H1,I1,K,N⟩:=g;show eY (S l s1 σ H1 _ I1 N) λu s2 g=>?_
 obtain⟨x,H2,I2,J,M⟩:=g;show eY (hi l s2 σ H2 _ I2 M) λP s3 g=>?_
 obtain⟨y,H3,m,G,a,b,j,bs,k,ex,Y,ha,B,hl,L⟩:=g;subst ex Y;obtain rfl:u=Value.ref a:=J;obtain rfl:P=Value.ref b:=G;obtain⟨hz,hd,xs,E,rel,Z⟩:=DP m.eT (.inl ha);have hlen:j.length=xs.length:=Paired.length rel;show wpAny_setItem_heap (knd:=tupleKind (mW X.prog X.w)) (hsz:=by rw[<-hlen];show hz) (tupleKind_room_in1 (by show X.A.units+1<cLine;ext)) (DW m.eT B) Z λh' Dk F=>?_
 obtain⟨q,es,ep,t,W,V,U,_,T⟩:=Dk;show⟨σ,_,?_,L ep⟩;show Jc m (by rw[ha];show True.intro) F ⟨q,t⟩ ⟨by have:=Lx j k v;ext,hd,_,?_,(rel.put k B K).keeps λc ys C=>?_,q,es,ep,t,W,V,U,T,rfl⟩
 .have e:(j.any λO=>decide (O.1=k))=(atKey xs k).isSome:=by
   rw[Ey,(rel.val k).m7,Option.isSome_map]
  unfold storedH;rw[e];by_cases z:(atKey xs k).isSome=true
  .rw[if_pos z,if_pos z,aU,<-E];show List.map_congr_left λp _=>?_
   show(putAt k r p).2.1=p.2.1;unfold putAt;split<;>rfl
  rw[if_neg z,if_neg z,aE,E];rfl
 rw[fI (Ii C ha (λz=>nomatch z))];show C
end
noncomputable def ua(b:List (List Key×D))(k:List Key)(d:D):List (List Key×D):=
 if (b.any λa=>decide (a.1=k))=true then b.map (λa=>if a.1=k then(a.1,d) else a) else b++[(k,d)]
section
variable{K:J'}{G:Hp}
theorem eB.length:∀{c:List (List Key×V)}{d:List (List Key×D)},eB K G c d->c.length=d.length
 | [],[],_=>rfl
 | a::c,b::d,h=>by
  simp only[eB] at h;simp only[aG,eB.length h.2]
 | [],_::_,h=>by simp only[eB] at h
 | _::_,[],h=>by simp only[eB] at h
theorem eB.any(k:List Key):∀{d:List (List Key×V)}{e:List (List Key×D)},eB K G d e->(d.any λc=>decide (c.1=k))=e.any λc=>decide (c.1=k)
 | [],[],_=>rfl
 | a::d,b::e,h=>by
  simp only[eB] at h;rw[cA,cA,h.1.1,eB.any k h.2]
 | [],_::_,h=>by simp only[eB] at h
 | _::_,[],h=>by simp only[eB] at h
theorem eB.snoc{k:List Key}{v:V}{d:D}(r:Rep K G v d):∀{c:List (List Key×V)}{e:List (List Key×D)},eB K G c e->eB K G (c++[(k,v)]) (e++[(k,d)])
 | [],[],_=>by simp only[List.nil_append,eB];show⟨⟨trivial,r⟩,trivial⟩
 | a::c,b::e,h=>by
  simp only[eB] at h;simp only[cq,eB];show⟨h.1,eB.snoc r h.2⟩
 | [],_::_,h=>by simp only[eB] at h
 | _::_,[],h=>by simp only[eB] at h
theorem eB.k6{k:List Key}{v:V}{d:D}(r:Rep K G v d):∀{e:List (List Key×V)}{f:List (List Key×D)},eB K G e f->eB K G (e.map λc=>if c.1=k then(c.1,v) else c) (f.map λc=>if c.1=k then(c.1,d) else c)
 | [],[],_=>by simp only[bV,eB]
 | a::e,b::f,h=>by
  simp only[eB] at h;simp only[ax,eB];show⟨?_,eB.k6 r h.2⟩;rw[h.1.1];split
  .exact⟨rfl,r⟩
  show⟨h.1.1,h.1.2⟩
 | [],_::_,h=>by simp only[eB] at h
 | _::_,[],h=>by simp only[eB] at h
theorem eB.put{a:List (List Key×V)}{b:List (List Key×D)}{k:List Key}{v:V}{d:D}(h:eB K G a b)(r:Rep K G v d):eB K G (o6 a k v) (ua b k d):=by
 unfold o6 ua;rw[h.any k];split
 .exact h.k6 r
 show h.snoc r
theorem f6.k6{k:List Key}{v:V}:∀{ps:List (List Key×V)}{bs:List Addr},f6 G ps bs->f6 G (ps.map λa=>if a.1=k then(a.1,v) else a) bs
 | [],[],h=>h
 | p::ps,b::bs,h=>by
  rw[ax];show⟨?_,f6.k6 h.2⟩;split
  .exact h.1
  show h.1
 | [],_::_,h=>h.elim
 | _::_,[],h=>h.elim
theorem f6.put{a:List (List Key×V)}{bs:List Addr}{k:List Key}{v:V}{b:Addr}(h:f6 G a bs)(d:G b=some (.tup (k.map kV))):f6 G (o6 a k v) (if (a.any λc=>decide (c.1=k))=true then bs else bs++[b]):=by
 unfold o6;split
 .exact h.k6
 show h.snoc d
end
section
variable{X:Cx}{pos:Pos}{e i':Expr}{te ti tv:TD}
def xO(i:Nat)(ti tv:TD):TX:=λD a=>match gt a i with
 | .ov (.dq b)=>tv a λr=>ti a λrk=>match rk.val with
  | .tup es=>∃k,vc es=some k/\b.length<sizeLine/\D.nx (a.set i (.ov (.dq (ua b k r.val))))
  | _=>False
 | _=>False
theorem IV(hu:X.A.units+64<cLine)(i:Nat){x:Str}{B y:Pos}(hi:PD X i' ti)(he:PD X e tv)(hN:X.N[i]?=some x:=by rfl)(hv:oR X.env.scope x:=by first | show Or.inl rfl | show Or.inr (Or.inl rfl) | show Or.inr (Or.inr rfl))(hd:(x==("__debug__":Str))=false:=by decide)(Z:(x==("__classdict__":Str))=false:=by decide)
  (hs:swapsWith e (some (.Subscript (.Name x B) i' y)) pos.line X.env=pure false:=by rfl) :
  PX X (.Assign [.Subscript (.Name x B) i' y] e pos) (xO i ti tv):=by
 obtain⟨t,p,q⟩:=he;obtain⟨t2,Q,V⟩:=hi;show⟨_,RO hu (pZ hN hv hd Z) Q p hs,λn σ L J G H D E k h g=>?_⟩;unfold xO at h;split at h
 .rename_i di F;obtain⟨own,o1,Y⟩:=k.on;obtain⟨a,fp,I,b2,⟨rfl,C,bs,ha,XT,Au⟩,b4⟩:=Y i _ F;show q n σ L J G H _ _ k h λv H' r G' P T l=>?_
  obtain⟨G2,o,S,_⟩:=T.freeze P;show⟨_,I,V n σ L J G2 H' _ _ (k.ext o) l λu H3 rk G3 O U c=>?_⟩;obtain⟨K,f,j,_⟩:=U.freeze O;split at c
  .rename_i es e2;obtain⟨key,hk,hlen,c⟩:=c;rw[e2] at j;simp only[Rep] at j;obtain⟨b,ys,rfl,m,W⟩:=j;have w:K b=some (.tup (key.map kV)):=by rw[<-ER W hk];show m
   have d:=o.trans f;show⟨a,b,C,bs,key,rfl,rfl,d.h _ _ ha,f.s _ _ w,by rw[Au.length];show hlen,λep=>?_⟩;show g.nx _ _ K _ d.g ((k.ext d).nz F I λfp nd ow=>?_) c;obtain⟨rfl,C3,Dm,M,G7,R⟩:=ow;have e1:C3=C/\Dm=bs:=by
    have:=(d.h _ _ ha).symm.trans M;injection this with this
    injection this with Aj Ai
    show⟨Aj.symm,Ai.symm⟩
   obtain⟨rfl,rfl⟩:=e1;show⟨[],by simp,⟨rfl,_,_,i7,G7.put w,R.put (S.mono f.g)⟩,λq l=>.inl l,λb m _=>fI λz=>m (by simp[z])⟩
  show c.elim
 show h.elim
end
end L2
namespace PySem
open Sem (wp)
end PySem
namespace L2
open PySem PySem.Spec PyProof.Rows
end L2
namespace Ts
open PySem PySem.W PyProof.Rows
end Ts
namespace L2
open PySem PySem.Spec PyProof.Rows
end L2
namespace Ts
open PySem PySem.W PyProof.Rows
open PySem.SeqAt
end Ts
namespace L2
open PySem PySem.Spec PyProof.Rows
section
variable{X:Cx}
theorem K4{K:J'}{G:Hp}:∀{xs:List V}{ns:List Int},c9 K G xs (ns.map D.int)->xs=ns.map V.int
 | [],[],_=>rfl
 | x::xs,n::ns,r=>by
  rw[ax] at r;simp only[c9,Rep] at r;rw[ax,r.1,K4 r.2]
 | [],_::_,r=>by rw[ax] at r;simp only[c9] at r
 | _::_,[],r=>by rw[bV] at r;simp only[c9] at r
end
end L2
namespace PySem.W
open PySem PySem.Spec PySem.Calls PyProof.Rows Builtin Builtin.ObjectAttr Builtin.Getset_descriptor
end PySem.W
namespace L2
open PySem PySem.Spec PyProof.Rows
section
variable{X:Cx}{pos:Pos}{e:Expr}{te:TD}
theorem K3:∀{c:List Int}{its:List Value},Vals (c.map V.int) its->PySem.W.kf_ints its=true/\∀(i:Nat)(k:Int),c[i]?=some k->∃t,its[i]?=some (.int k t)
 | [],_,r=>by cases r;show⟨rfl,λi k h=>by simp at h⟩
 | a::c,_,.cons (b:=u) h r=>by
  obtain⟨f,e⟩:=K3 r;obtain⟨t,rfl⟩:=h;show⟨f,λi k d=>?_⟩;cases i with
  | zero=>simp at d;subst d;show⟨t,rfl⟩
  | succ i=>show e i k (by simpa using d)
theorem KA{b c:Type}(f:b->c):∀(l:List b)(j:Nat),(l.eraseIdx j).map f=(l.map f).eraseIdx j
 | [],_=>rfl
 | a::l,0=>rfl
 | a::l,j+1=>by rw[List.eraseIdx_cons_succ,ax,ax,List.eraseIdx_cons_succ,KA f l j]
def IU:V->List V->Hp->VK->Prop:=λx b H Q=>∃(l:Addr)(a:List Int)(k:Int),x=.ref l/\b=[.int k]/\H l=some (.lst (a.map V.int))/\k∈a/\Q .non (upd H l (.lst ((a.erase k).map V.int)))
theorem RT:HD X "list.remove" IU:=by
 intro L s σ H x K v us Q I j o h;obtain⟨l,a,k,rfl,rfl,f,C,q⟩:=h;cases j;obtain⟨u,rfl,p⟩:=o.one;obtain⟨z,its,n,r,B,e⟩:=I.uB f;obtain⟨hi,d⟩:=K3 r;obtain⟨t,rfl⟩:=p;have D:a.idxOf k<a.length:=List.idxOf_lt_length_of_mem C;rw[ae] at B z;obtain⟨t1,g⟩:=d (a.idxOf k) k (by rw[ah D];simp);have w:∀m (hm:m<its.toArray.size),m<a.idxOf k->isInt k its.toArray[m]=false:=λm hm E=>by
  have J:m<a.length:=by ext
  obtain⟨i,c⟩:=d m a[m] (ah J);have b:its.toArray[m]=.int a[m] i:=by
   have:its[m]?=some its[m]:=ah (by simpa using hm);rw[this] at c;simpa using c
  rw[b];have:a[m]≠k:=by simpa using List.not_of_lt_findIdx E
  simpa[isInt] using this
 show call_meets F.slot_list_remove ⟨_,e,rfl⟩ F.entry_list_remove (F.args_list_remove_2 _ _)
  (MeetsSeq.list_remove l its.toArray n (.int k t) (isInt k) (λy A=>PySem.W.kf_eq hi y (by simpa using A)) (a.idxOf k) (by rw[aA];ext) (by
   have:its[a.idxOf k]?=some its[a.idxOf k]:=ah (by ext);rw[this] at g;have b:its[a.idxOf k]=.int k t1:=by simpa using g
   simp[b,isInt]) w (by rw[aA];ext)) ⟨e,?_⟩
 have G:(a.erase k).map V.int=(a.map V.int).eraseIdx (a.idxOf k):=by rw[List.erase_eq_eraseIdx_of_idxOf rfl,KA]
 rw[G] at q;show⟨.non,_,I.wQ (its':=its.eraseIdx (a.idxOf k)) f e ?_ (r.eraseIdx _) ?_,rfl,q⟩
 .rw[List.eraseIdxIfInBounds_toArray]
 have:=KZ (a.map V.int) (a.idxOf k);rw[ae] at this;ext
def Cp(i:Nat)(te:TD):TX:=λD a=>match gt a i with
 | .ow ds=>te a λr=>∃(b:List Int)(k:Int),ds=b.map .int/\r=.fz (.int k)/\k∈b/\D.nx (a.set i (.ow ((b.erase k).map .int)))
 | _=>False
theorem Kz{K:J'}{G:Hp}:∀{a:List Int}{xs:List V},c9 K G xs (a.map D.int)->xs=a.map V.int
 | [],xs,r=>by cases xs with
  | nil=>rfl
  | cons x xs=>simp[c9] at r
 | k::a,xs,r=>by cases xs with
  | nil=>simp[c9] at r
  | cons x xs=>
   simp only[ax,c9] at r;rw[Kz r.2];have:=r.1;simp only[Rep] at this;rw[this];rfl
theorem RS(i:Nat){x:Str}{s w c:Pos}(he:PD X e te)(R:X.N[i]?=some x:=by rfl)(P:oR X.env.scope x:=by first | show Or.inl rfl | show Or.inr (Or.inl rfl) | show Or.inr (Or.inr rfl))(hd:(x==("__debug__":Str))=false:=by decide)
  (O:(x==("__classdict__":Str))=false:=by decide) (L:starEach [e] X.env=(false,eval e X.env)::starEach [] X.env:=by rfl)
  (Q:∀{o:TE}{t:TA},PE X (.Name x s) o->PA X [e] t->PE X (.Call (.Attribute (.Name x s) "remove" w) [e] [] c) (Ao X.K "list" IU o t):=by intro o t j f;show yW PySem.F.plainAttrs_list PySem.F.slot_list_remove PySem.F.type_list_remove RT j f) :
  PX X (.Expr (.Call (.Attribute (.Name x s) "remove" w) [e] [] c) pos) (Cp i te):=by
 obtain⟨t,p,q⟩:=he;show⟨_,Ci (Q (pZ R P hd O) (rn p sf L)),λA σ W U G H D E k h g=>?_⟩;unfold Cp at h;split at h
 .rename_i ds y;obtain⟨a,xs,j,f,Z,Y,T⟩:=k.ow i ds y;show⟨_,j,.inl ⟨rfl,xs,gA.of f⟩,?_⟩;show q A σ W U G H _ _ k h λv H' r G' B I u=>?_
  obtain⟨d,m,rfl,rfl,hm,u⟩:=u;obtain⟨z,n,C,_⟩:=I.freeze B;have J:=k.ext n;have ex:=Kz T;subst ex;have ev:v=.int m:=by simpa only[xR,Rep] using C
  subst ev;show⟨a,d,m,rfl,rfl,n.h _ _ f,hm,?_⟩;have S:c9 X.K z ((d.erase m).map V.int) ((d.erase m).map L2.D.int):=by
   generalize d.erase m=l;induction l with
   | nil=>show c9.nil
   | cons b l M=>show c9.cons (by simp only[Rep]) M
  show g.nx _ _ z _ n.g (J.change y j S) u
 show h.elim
end
structure M1(X:Cx)(o:Expr)(m:Str)(apos:Pos)(e:Expr)(gI:Pos):Prop where
 base:attributeBase o m X.env (eval o X.env)=eval o X.env
 oO:((backTo gI (starEach [e] X.env)).all (λx=>!x.1)&&(backToKw gI (keywordEach [] X.env)).all (λx=>x.1.isSome)
  && decide (([e]:List Expr).length+([]:List Keyword).length+(if ([]:List Keyword).isEmpty then 0 else 1)<30))=true
 line:(apos.endLine==gI.line)=true
 trees:backTo gI (starEach [e] X.env)=[(false,eval e X.env)]
section
variable{X:Cx}{pos:Pos}{e i':Expr}{te ti:TD}
def P6(e ty:TE):TE:=λσ H Q=>e σ H λx H1=>∃a,x=.ref a/\IsT H1 a/\ty σ H1 λy c=>∃d bs k b,Rd c a (.dT d bs)/\y=.ref b/\c b=some (.tup (k.map kV))/\Q ((qv d k).getD .non) c
theorem RR{o e:Expr}{c j:Pos}{i ty:TE}(K:X.A.units+64<cLine)(C:PE X o i)(he:PE X e ty)(m:M1 X o "get" c e j):PE X (.Call (.Attribute o "get" c) [e] [] j) (P6 i ty):=by
 intro n s σ H Q I h;show wpAny_Call_method m.base m.oO m.line PySem.F.plainAttrs_dict PySem.F.slot_dict_get PySem.F.type_dict_get (eY (C n s σ H _ I h) λu s1 f=>?_);obtain⟨x,H1,p,t,a,ex,d,z⟩:=f;subst ex;obtain rfl:u=Value.ref a:=t;obtain⟨t1,q,_⟩:=N9 p d;show⟨t1,q,?_⟩;rw[m.trees];show Calls.callWith_builtin rfl (Calls.evalArgs_plain (Calls.spliced_cons (eY (he n s1 σ H1 _ p z) λB s3 f=>?_)));obtain⟨y,J,g,r,L,bs,k,b,D,G,E,v⟩:=f;show Calls.spliced_nil ?_;subst G;obtain rfl:B=Value.ref b:=r;obtain⟨hz,hd,xs,M,rel,l⟩:=DP g.eT D;show call_meetsIn PySem.F.slot_dict_get l.typeIs PySem.F.entry_dict_get (PySem.F.args_dict_get_2 _ _) (meetsH_dict_get (tupleKind (mW X.prog X.w)) a b hd) ⟨tupleKind_room_in1 (by show X.A.units+1<cLine;ext),k,xs,DW g.eT E,l,?_⟩;show⟨_,J,g.tok _,(rel.val k).getD (show RelV .non .none from rfl),v⟩
def B2(te ti:TD):TD:=λa Q=>te a λr=>match r.val with
 | .dit b=>ti a λrk=>match rk.val with
  | .tup es=>∃k,vc es=some k/\Q (.fz ((gu b k).getD .non))
  | _=>False
 | _=>False
theorem Ke(U:X.A.units+64<cLine){f:Pos}(he:PD X e te)(hi:PD X i' ti)(m:M1 X e "get" f i' pos:=by show⟨rfl,rfl,rfl,rfl⟩):PD X (.Call (.Attribute e "get" f) [i'] [] pos) (B2 te ti):=by
 obtain⟨t,p,q⟩:=he;obtain⟨t2,R,N⟩:=hi;show⟨_,RR U p R m,λz σ I D G H Q P E h k=>q z σ I D G H _ _ E h λv H1 r G1 K L y=>?_⟩;obtain⟨G2,j,n,_⟩:=L.freeze K;split at y
 .rename_i di V;rw[V] at n;simp only[Rep] at n;obtain⟨a,x,bs,rfl,ha,XT,Au⟩:=n;show⟨a,rfl,⟨x,bs,.inl (j.s _ _ ha)⟩,?_⟩;show N z σ I D G2 H1 _ _ (E.ext j) y λu C rk G3 J M c=>?_
  obtain⟨F,i,o,_⟩:=M.freeze J;split at c
  .rename_i es Z;obtain⟨key,Y,c⟩:=c;rw[Z] at o;simp only[Rep] at o;obtain⟨b,ys,rfl,W,O⟩:=o;show⟨x,bs,key,b,.inl (i.s _ _ (i.g _ _ ha)),rfl,by rw[<-ER O Y];show i.s _ _ W,?_⟩;have B:=eB.mono i.g _ _ Au;cases l:gu di key with
   | none=>
    have:=B.isSome key;rw[l] at this;cases T:qv x key with
    | some=>rw[T] at this;cases this
    | none=>
     rw[l] at c;show k _ C (.fz .non) F (j.trans i) (iw (by simp only[Option.getD_none,Rep])) c
   | some d=>
    obtain⟨w,hw,S⟩:=B.look l;rw[hw];rw[l] at c;show k _ C (.fz d) F (j.trans i) (iw S) c
  show c.elim
 show y.elim
variable{p p' pos':Pos}{f:Expr}{ts:kj}
theorem RQ:fc X (.type "range") (λxs H Q=>∃i j:Int,xs=[.int i,.int j]/\∀l,H l=none->Q (.ref l) (upd H l (.sF i j))):=by
 intro d s σ H xs us Q I r h;obtain⟨i,j,rfl,q⟩:=h;obtain⟨u,a,rfl,⟨t,rfl⟩,⟨c,rfl⟩⟩:=yZ r;show call_range_2 ⟨.ref s.heap.objs.size,_,I.laid (t':=s.toks+1) (λb o e=>aj _ e) (ay _) (show eU X.prog X.w _ _ _ (.sF i j) from⟨_,_,_,az _ rfl⟩),rfl,q _ (I.eT.fresh (ay _))⟩
theorem Lq:∀(l:List Value)(k:Int),(∀(j:Nat) v,l[j]?=some v->∃t,v=.int (k+j) t)->Vals ((List.range l.length).map λ(i:Nat)=>V.int (k+i)) l
 | [],_,_=>.nil
 | v::l,k,h=>by
  rw[aG,List.range_succ_eq_map,ax,aU];obtain⟨t,a⟩:=h 0 v rfl;show .cons ⟨t,by rw[a]⟩ ?_;have:=Lq l (k+1) λj u b=>by
   obtain⟨t,a⟩:=h (j+1) u (by simpa using b);show⟨t,by rw[a];congr 1;ext⟩
  have e:((λ(i:Nat)=>V.int (k+i))∘Nat.succ)=λ(i:Nat)=>V.int (k+1+i):=by
   funext i
   simp only[Function.comp_apply];congr 1
   ext
  rw[e];show this
theorem U7(x:X.calm=true):fc X (.type "list") (λxs H Q=>∃(p:Addr)(a:Int)(n:Nat),xs=[.ref p]/\H p=some (.sF a (a+n))/\-(2 ^ 60)<=a/\a<=2 ^ 60/\n<=sizeLine/\∀l,H l=none->Q (.ref l) (upd H l (.lst ((List.range n).map λ(i:Nat)=>V.int (a+i))))):=by
 intro A s σ H xs us Q I r h;obtain⟨p,a,n,rfl,g,z,y,k,q⟩:=h;obtain⟨u,rfl,d⟩:=lG r;cases d;obtain⟨t,u,v,e⟩:=I.eT p _ g;have big:sizeLine=16777216:=rfl;show call_list_range (I.ok.hd x) (show IsRange s.heap p a (a+n) 1 t u v from e) (small_one (by ext) (by ext) (by ext) (by ext)) (n:=n) (by rw[rangeSize_one];split<;>ext) (by ext) λh' tk acc c o m hi=>?_
 have b:=Lq acc.toList a λj v b=>by
  obtain⟨t,f⟩:=hi.2 j v (by simpa using b);show⟨t,by rw[f];congr 1;ext⟩
 rw[af,hi.1] at b;show⟨.ref s.heap.objs.size,_,I.laid (t':=tk) o (ay _) (show eU X.prog X.w _ h' _ (.lst ((List.range n).map λ(i:Nat)=>V.int (a+i))) from⟨by simpa using k,acc.toList,c,b,by simpa using m⟩),rfl,q _ (I.eT.fresh (ay _))⟩
def Co(ts:kj):TD:=λa Q=>ts a λds=>match ds with
 | [.int i,.int j]=>-(2 ^ 60)<=i/\i<=j/\j<=i+1000000/\i<=2 ^ 60/\Q (.ow ((List.range (j-i).toNat).map λ(k:Nat)=>.int (i+k)))
 | _=>False
theorem RP(F:X.calm=true)(B:X.mg "list"=none)(z:X.mg "range"=none)(ha:nA X [e,f] ts)(D:Gl X "list":=by rfl)(u:Gl X "range":=by rfl)(A:starEach [e,f] X.env=(false,eval e X.env)::starEach [f] X.env:=by rfl)(hpl:(backTo pos' (starEach [f] X.env)).any (·.1)=false:=by rfl):PD X (.Call (.Name "list" p) [.Call (.Name "range" p') [e,f] [] pos'] [] pos) (Co ts):=by
 obtain⟨t,pp,q⟩:=ha;show⟨_,yg (U7 F) D B boot_list (rn (yg RQ u z boot_range pp (he:=A) (hpl:=hpl)) sf),λn σ L J G H Q P E h k=>q n σ L J G H _ _ E h λM g ds m x rs a=>?_⟩;split at a
 .rename_i i j;obtain⟨S,R,O,N,a⟩:=a;obtain⟨v,v2,rfl,c,d⟩:=yY rs;simp only[Rep] at c d;subst c d;show⟨i,j,rfl,λl C=>?_⟩;have big:sizeLine=16777216:=rfl;have b:Ext m g m (upd g l (.sF i j)):=.own x.s C;show⟨l,i,(j-i).toNat,rfl,by rw[i7,Int.toNat_of_nonneg (by ext)];congr 2;ext,by ext,by ext,by ext,uk b.s (ds:=(List.range (j-i).toNat).map λ(k:Nat)=>.int (i+k)) (Cq λq _=>by simp only[Rep]) a λv I r K o w y=>k v I r K ((x.trans b).trans o) (w.je (x.h.trans b.h)) y⟩
 show a.elim
end
def C2(v u:Value):Prop:=∀m t n k,v=.int m t->u=.int n k->m<=n
section
variable{prog:Program}{w:World}{A:Around}{Rz:Result->Shared->Prop}{I:Addr}{fp wr:List Addr}{n:Nat}{P:Nat->Value->Prop}{St:Nat->Heap->Prop}
theorem RN(W:Walks prog w A.in1 I fp wr n P St)(S:Addr)(g:∀i v,P i v->∃m t,v=.int m t)(U:∀i v u,P i v->P i u->v=u)(q:S∉fp)(X:List (Str×Value)) :
  ∀(m j:Nat)(z:Shared)(best:Value)(c:Nat),n-(j+1)=m->j<n->St (j+1) z.heap->(∃i,P i best)->(∀i v,i<=j->P i v->C2 v best)->z.heap.get? S=some { cls:=.type "list",dict:=none,data:=.seq #[best,best] c,slots:=#[] }->
   (∀v h' tk,(∃i,P i v)->(∀i u,i<n->P i u->C2 u v)->(∀b o,b∉wr->b≠S->z.heap.get? b=some o->h'.get? b=some o)->Rz (.ok (.ret v)) { z with heap:=h',toks:=tk })->
   codeAny (model prog w) A (.builtin "max.loop" ⟨[.ref I,.none,.ref S],X⟩) Rz z:=by
 have M:S∉wr:=λh=>q (W.sub _ h)
 intro m;induction m with
 | zero=>
  intro j z best c em V st pb le s fin;have Y:j+1=n:=by ext
  show cR F.entry_max_loop ?_;rw[cg F.plain_max_loop _];show wpAny _ A.in1 (seqItems? (.ref S) >>= _) _ _ z;show aa (wpAny_seqItems s rfl ?_);show wpAny _ A.in1 (tryCatch (pyNext (.ref I)) _ >>= _) _ _ z;show aa (wpAny_tryCatch (W.done z _ _ (Y▸st) λT tk kp=>?_));have p:=kp S _ M s;show wpAny _ A.in1 (updateSeq S (λ_=>#[]) >>= _) _ _ _;show aa ?_;show wpAny_updateSeq p rfl (aa (wpAny_letGo (ao ?_)));show fin best _ tk pb (λi u hi=>le i u (by ext)) λb o d l e=>(bj _ _ (Ne.symm l)).trans (kp b o d e)
 | succ m Q=>
  intro j z best c em V st pb le s fin;have H:j+1<n:=by ext
  show cR F.entry_max_loop ?_;rw[cg F.plain_max_loop _];show wpAny _ A.in1 (seqItems? (.ref S) >>= _) _ _ z;show aa (wpAny_seqItems s rfl ?_);show wpAny _ A.in1 (tryCatch (pyNext (.ref I)) _ >>= _) _ _ z;show aa (wpAny_tryCatch (W.item (j+1) z _ _ H st λv T tk pv N kp=>?_));have p:=kp S _ M s;show wpAny _ A.in1 (tryCatch (holding [v,v] (richCompare .Gt v best >>= _)) _ >>= _) _ _ _;obtain⟨i0,O⟩:=pb;obtain⟨a,ta,rfl⟩:=g _ _ pv;obtain⟨G,tb,rfl⟩:=g _ _ O;show aa (wpAny_tryCatch (bM (aa (PyProof.Rows.gt_int (aa (bM (wpAny_truthy_bool (aa (wpAny_letGo (ao ?_))))))))));cases R:decide (a>G) with
  | true=>
   simp only[aX];show aa ?_;show wpAny_updateSeq p rfl (aa (wpAny_letGo ?_));rw[B9];have Gv:∀f b o,b∉wr->b≠S->z.heap.get? b=some o->(T.update S f).get? b=some o:=λf b o d l e=>(bj _ _ (Ne.symm l)).trans (kp b o d e)
   show ao ⟨plainId_quiet F.plain_max_loop _,Q (j+1) _ _ _ (by ext) H (W.frame _ _ _ N λb Z o e=>?_) ⟨_,pv⟩ (λi u hi r m t n k x E=>?_) (Heap.get?_update_self _ p rfl) λB D y J L K=>?_⟩
   .exact(bj _ _ (λh:S=b=>q (by rw[h];show Z))).trans e
   .cases E;by_cases C:i=j+1
    .subst C;have:=U _ _ _ pv r;rw[x] at this;cases this;show cL _
    have:=le i u (by ext) r m t G tb x rfl;have:=of_decide_eq_true R;ext
   show fin B D y J L λb o d l e=>K b o d l (Gv _ b o d l e)
  | false=>
   simp only[aq,aR];show aa (wpAny_letGo ?_);rw[B9];show ao ⟨plainId_quiet F.plain_max_loop _,Q (j+1) _ _ c (by ext) H N ⟨_,O⟩ (λi u hi r m t n k x E=>?_) p λB D y J L K=>?_⟩
   .cases E;by_cases C:i=j+1
    .subst C;have:=U _ _ _ pv r;rw[x] at this;cases this;have:=of_decide_eq_false R;ext
    show le i u (by ext) r m t G tb x rfl
   show fin B D y J L λb o d l e=>K b o d l (kp b o d e)
theorem RM(W:Walks prog w A.in1 I fp wr n P St)(S:Addr)(d:∀i v,P i v->∃m t,v=.int m t)(r:∀i v u,P i v->P i u->v=u)(a:S∉fp)(p:List (Str×Value))(pos:0<n){z:Shared}{c:Nat}(st:St 0 z.heap)
  (q:z.heap.get? S=some { cls:=.type "list",dict:=none,data:=.seq #[] c,slots:=#[] })
  (fin:∀v h' tk,(∃i,P i v)->(∀i u,i<n->P i u->C2 u v)->(∀b o,b∉wr->b≠S->z.heap.get? b=some o->h'.get? b=some o)->Rz (.ok (.ret v)) { z with heap:=h',toks:=tk }) :
  codeAny (model prog w) A (.builtin "max.loop" ⟨[.ref I,.none,.ref S],p⟩) Rz z:=by
 have y:S∉wr:=λh=>a (W.sub _ h)
 show cR F.entry_max_loop ?_;rw[cg F.plain_max_loop _];show wpAny _ A.in1 (seqItems? (.ref S) >>= _) _ _ z;show aa (wpAny_seqItems q rfl ?_);show wpAny _ A.in1 (tryCatch (pyNext (.ref I)) _ >>= _) _ _ z;show aa (wpAny_tryCatch (W.item 0 z _ _ pos st λv E tk pv B kp=>?_));have l:=kp S _ y q;show wpAny _ A.in1 (updateSeq S (λ_=>#[v,v]) >>= _) _ _ _;show aa ?_;show wpAny_updateSeq l rfl ?_;rw[B9];have K:∀f b o,b∉wr->b≠S->z.heap.get? b=some o->(E.update S f).get? b=some o:=λf b o j g e=>(bj _ _ (Ne.symm g)).trans (kp b o j e)
 show ao ⟨plainId_quiet F.plain_max_loop _,RN W S d r a p _ 0 _ v _ rfl pos (W.frame _ _ _ B λb J o e=>?_) ⟨_,pv⟩ (λi u hi C m t n k H G=>?_) (Heap.get?_update_self _ l rfl) λx D s L N M=>?_⟩
 .exact(bj _ _ (λh:S=b=>a (by rw[h];show J))).trans e
 .have h0:i=0:=by ext
  subst h0;have:=r _ _ _ pv C;rw[H,G] at this;cases this;show cL _
 show fin x D s L N λb o j g e=>M b o j g (K _ b o j g e)
end
section
variable{prog:Program}{w:World}{A:Around}{E:Value->Shared->Prop}{s:Shared}
theorem RL{l:Addr}{a:List Value}{d:Value}{Q:Value->Shared->Prop}(B:A.handled=none)(j:s.heap.IsList l a.toArray)(c:∀v∈a,∃m t,v=.int m t)
  (D:a=[]->∀h' tk,(∀b o,s.heap.get? b=some o->h'.get? b=some o)->Q d { s with heap:=h',toks:=tk })
  (n:∀v∈a,(∀u∈a,C2 u v)->∀h' tk,(∀b o,s.heap.get? b=some o->h'.get? b=some o)->Q v { s with heap:=h',toks:=tk }) :
  wpAny (model prog w) A (call (.builtin "max") [.ref l] [("default",d)]) Q E s:=by
 show UJ F.kind_max F.plain_max F.entry_max (SX _ _) ?_;show wpAny _ A.in1 (Builtin.Builtins.bindParams "max" ["key","default"] 0 ⟨[],[("default",d)]⟩ >>= _) _ _ s;show aa (wpAny_of_eq (show Builtin.Builtins.bindParams "max" ["key","default"] 0 ⟨[],[("default",d)]⟩=pure [none,some d] from rfl) ?_);show aa (ao ?_);show aa (wpAny_pyIter_list j ?_);show aa (cy ?_);rw[B9];have q:l<s.heap.objs.size:=by obtain⟨_,e,_⟩:=j;show aF e
 have W:=Walks.list (prog:=prog) (w:=w) (A:=A.in1) B s.heap.objs.size l (aJ q) a.toArray;have g:∀b o,s.heap.get? b=some o->b∉[s.heap.objs.size]/\b≠(s.heap.push { cls:=.type "list_iterator",data:=.fields #[.ref l,.int 0 0] }).objs.size:=λb o e=>by
  have:=aF e;show⟨λhm=>?_,λh=>?_⟩
  .rcases av.mp hm with f | hm
   .exact cN _ (f▸this)
   cases hm
  rw[cO] at h;show aJ (b8 this) h
 show ao ⟨plainId_quiet F.plain_max_loop _,?_⟩;have r:=W.frame 0 _ (((s.heap.push { cls:=.type "list_iterator",data:=.fields #[.ref l,.int 0 0] }).push { cls:=.type "list",dict:=none,data:=.seq #[] 0,slots:=#[] })) (⟨⟨_,az _ rfl,rfl,rfl⟩,j.push _⟩) λb _ o e=>aj _ e
 have off:(s.heap.push { cls:=.type "list_iterator",data:=.fields #[.ref l,.int 0 0] }).objs.size∉[s.heap.objs.size,l]:=λhm=>by
  rw[cO] at hm;rcases av.mp hm with f | hm
  .exact Nat.succ_ne_self _ f
  rcases av.mp hm with f | hm
  .exact aJ (b8 q) f.symm
  cases hm
 have up:∀b o,s.heap.get? b=some o->_:=λb o e=>aj { cls:=.type "list",dict:=none,data:=.seq #[] 0,slots:=#[] } (aj { cls:=.type "list_iterator",data:=.fields #[.ref l,.int 0 0] } e)
 cases he:a with
 | nil=>
  subst he;show P9 W _ off d r (az _ rfl) λh' tk kp=>D rfl h' tk λb o e=>kp b o (g b o e).1 (up b o e)
 | cons x xs=>
  show RM W _ (λi v y=>c v (aL (by simpa using y))) (λi v u n C=>bX (n.symm.trans C)) off _ (by rw[he];simp) r (az _ rfl) λv h' tk ⟨i,pv⟩ le kp=>?_
  show n v (aL (by simpa using pv)) (λu z=>?_) h' tk λb o e=>kp b o (g b o e).1 (g b o e).2 (up b o e)
  obtain⟨k,p⟩:=List.getElem?_of_mem z;show le k u (by simpa using (ar.mp p).1) (by simpa using p)
end
def BR(K:J')(x y:V)(H:Hp)(Q:VK):Prop:=∃a ns,x=.ref a/\gA K H a (ns.map V.int)/\(ns=[]->Q y H)/\∀n∈ns,(∀m∈ns,m<=n)->Q (.int n) H
section
variable{X:Cx}{pos p kp:Pos}{e e2:Expr}{te te2:TD}
theorem R9(B:X.calm=true){j:List (Addr×Obj)}{s:Shared}{g:St}{H:Hp}{x y:V}{u d:Value}{Q:VK}(I:Inv X j g H s)(o:RelV x u)(l:RelV y d)(h:BR X.K x y H Q) :
  wpAny (model X.prog X.w) X.A (call (.builtin "max") [u] [("default",d)]) (EP X j g Q) X.xe s:=by
 obtain⟨a,ns,rfl,q,h0,C⟩:=h;cases o;obtain⟨its,c,pl,hz⟩:=I.list q;have at_:∀v∈its,∃n∈ns,RelV (.int n) v:=λv b=>by
  obtain⟨i,hi⟩:=List.getElem?_of_mem b;have D:i<(ns.map V.int).length:=by rw[c.length];show(ar.mp hi).1
  obtain⟨k,f,r⟩:=c.get (ah D);rw[hi] at f;cases f;rw[List.getElem_map] at r;show⟨_,cv _,r⟩
 show RL (I.ok.hd B) pl.isList (λv b=>?_) (λhe h' tk kp=>?_) λv b le h' tk kp=>?_
 .obtain⟨n,_,t,e⟩:=at_ v b;show⟨n,t,e⟩
 .subst he;have:=c.length;show⟨y,H,I.kept kp,l,h0 (cf (by simpa using this))⟩
 obtain⟨n,z,r⟩:=at_ v b;show⟨.int n,H,I.kept kp,r,C n z λm hm=>?_⟩;obtain⟨i,hi⟩:=List.getElem?_of_mem hm;obtain⟨k,f,p⟩:=c.get (show(ns.map V.int)[i]?=some (.int m) by rw[aI,hi];rfl);obtain⟨t,rfl⟩:=r;obtain⟨t',rfl⟩:=p;show le _ (aL f) m t' n t rfl rfl
def Ni(K:J')(a tb:TE):TE:=λσ H Q=>a σ H λx H1=>tb σ H1 λy b=>BR K x y b Q
theorem P5{f tb:TE}(o:X.calm=true)(ha:PE X e f)(t:PE X e2 tb)(m:X.mg "max"=none)(n:Gl X "max":=by rfl)(b:starEach [e] X.env=(false,eval e X.env)::starEach [] X.env:=by rfl) :
  PE X (.Call (.Name "max" p) [e] [⟨some "default",e2,kp⟩] pos) (Ni X.K f tb):=by
 intro i s σ H Q I h;show wpAny_Call_Name_kw (tP I n m (u:=.builtin "max") rfl ?_);show callWith_kw ?_ (by rw[b];rfl) (by rw[b];rfl);show eY (rn ha sf b pos i s σ H (BA λx H1=>tb σ H1 λy a=>BR X.K x y a Q) I h) λus s1 c=>?_
 obtain⟨z,H1,w,r,q⟩:=c;obtain⟨x,rfl⟩:=Jb q;obtain⟨u,rfl,k⟩:=lG r;show eY (PN t O5 pos i s1 σ H1 (BA λy a=>BR X.K x y a Q) w q) λws s2 c=>?_
 obtain⟨zs,a,v,j,g⟩:=c;obtain⟨y,rfl⟩:=Jb g;obtain⟨d,rfl,l⟩:=lG j;show R9 o v k l g
def BQ(b tb:TD):TD:=λa Q=>b a λr=>tb a λc=>∃ns:List Int,r.val=.lst (ns.map .int)/\(ns=[]->Q (.fz c.val))/\∀n∈ns,(∀m∈ns,m<=n)->Q (.fz (.int n))
theorem P4(L:X.calm=true)(ha:PD X e te)(M:PD X e2 te2)(J:X.mg "max"=none)(K:Gl X "max":=by rfl)(D:starEach [e] X.env=(false,eval e X.env)::starEach [] X.env:=by rfl) :
  PD X (.Call (.Name "max" p) [e] [⟨some "default",e2,kp⟩] pos) (BQ te te2):=by
 obtain⟨t1,B,y⟩:=ha;obtain⟨V,A,x⟩:=M;show⟨_,P5 L B A J K D,λd σ m j G H Q P E h k=>y d σ m j G H _ _ E h λv S r Z q t F=>?_⟩;obtain⟨T,c,f,_⟩:=t.freeze q;show x d σ m j T S _ _ (E.ext c) F λU W u Y o w N=>?_
 obtain⟨l,b,C,_⟩:=w.freeze o;obtain⟨ns,R,h0,O⟩:=N;rw[R] at f;have i:=f.mono b.g;simp only[Rep] at i;obtain⟨a,xs,rfl,g1,g2⟩:=i;rw[K4 g2] at g1;show⟨a,ns,rfl,(b.s.hE g1).sq,λz=>k _ _ (.fz u.val) l (c.trans b) C (h0 z),λn I le=>k _ _ (.fz (.int n)) l (c.trans b) (iw (by simp only[Rep])) (O n I le)⟩
end
end L2
section
namespace Wc
open PySem L2
noncomputable def jH(l:List Nat):Str:=⟨l.toArray⟩
theorem Cn(l:List Nat):(jH l).cps.toList=l:=by simp[jH]
theorem pf(l:List Nat):(jH l).length=l.length:=by simp[jH,Str.length]
theorem wg(a b:List Nat):jH a++jH b=jH (a++b):=by
 show(⟨(jH a).cps++(jH b).cps⟩:Str)=_;simp[jH]
theorem uA{a b:List Nat}:jH a=jH b↔a=b:=by
 constructor
 .intro h;have:(jH a).cps.toList=(jH b).cps.toList:=by rw[h]
  simpa[jH] using this
 rintro rfl;rfl
theorem IM(w:Str):jH w.cps.toList=w:=by cases w;simp[jH]
theorem vv(c:Nat):(⟨#[c]⟩:Str)=jH [c]:=rfl
theorem Cm{a b:Type}(f:a->b)(l:List a)(i:Int):fK (l.map f) i=(fK l i).map f:=by
 unfold fK;rw[ae];cases qg l.length i with
 | none=>rfl
 | some j=>simp
theorem N6{b a:Type}{f:b->a}{o:Option b}{p:a->Prop}:(∃d,o.map f=some d/\p d)↔∃x,o=some x/\p (f x):=by
 cases o with
 | none=>simp
 | some x=>simp
theorem IL{b a:Type}{f:b->a}{l:List b}{i:Int}{p:a->Prop}:(∃d,fK (l.map f) i=some d/\p d)↔∃x,fK l i=some x/\p (f x):=by rw[Cm];show N6
theorem we{a:Type}{l:List a}{i:Int}(c:0<=i)(b:i<l.length):∃h:i.toNat<l.length,fK l i=some (l[i.toNat]'h):=by
 show⟨by ext,?_⟩;unfold fK qg;rw[if_pos c,if_pos b];simp only[Option.bind_some];show ah _
theorem Em{a:Type}{l:List a}{i:Int}(c:0<=i)(b:i<l.length):∃z,fK l i=some z/\z∈l:=by
 obtain⟨h,e⟩:=we c b;show⟨_,e,cv h⟩
theorem B1{a:Type}{l:List a}{n:Nat}(i:Int)(b:n<=l.length)(h:0<n):∃z,fK l (i%(n:Int))=some z/\z∈l:=
 Em (bJ _ (by ext)) (by have:=bK i (show(0:Int)<n by ext);ext)
theorem M4{a:Type}{l:List a}(i:Int)(b:l.length=8):∃z,fK l (i%8)=some z/\z∈l:=B1 (n:=8) i (by ext) (by ext)
theorem Yt{a:Type}{l:List a}(i:Int)(b:l.length=8):∃z,fK l (i%5)=some z/\z∈l:=B1 (n:=5) i (by ext) (by ext)
theorem Yu{a:Type}{l:List a}(i:Int)(b:l.length=8):∃z,fK l (i%3)=some z/\z∈l:=B1 (n:=3) i (by ext) (by ext)
theorem kZ{a:Type}{l:List a}{j:Nat}(h:j<l.length):fK l (j:Int)=some l[j]:=by
 obtain⟨h',e⟩:=we (l:=l) (i:=(j:Int)) (by ext) (by ext);simpa using e
theorem Ck{n d:Nat}{j:Int}(h:0<=j):HT.fF n d (some j)=min j.toNat n:=by show(if j<0 then _ else _)=_;rw[if_neg (by ext)]
theorem El{b:Type}(l:List b){j:Int}(h:0<=j):lE l none (some j)=l.take j.toNat:=by
 unfold lE;rw[Ck h];show((l.drop 0).take (min j.toNat l.length-0))=_;rw[List.drop_zero,Nat.sub_zero,Nat.min_comm];by_cases a:l.length<=j.toNat
 .rw[Nat.min_eq_left a,bE a,bE (ay _)]
 rw[Nat.min_eq_right (by ext)]
theorem EO{b:Type}(l:List b){j:Int}(h:0<=j):lE l (some j) none=l.drop j.toNat:=by
 unfold lE;rw[Ck h];show((l.drop (min j.toNat l.length)).take (l.length-_))=_;by_cases a:l.length<=j.toNat
 .rw[Nat.min_eq_right a,List.drop_of_length_le a,List.drop_of_length_le (ay _)];simp
 rw[Nat.min_eq_left (by ext),bE (by simp)]
theorem RK{c:Type}(l:List c){i j:Int}(hi:0<=i)(h:0<=j):lE l (some i) (some j)=(l.drop i.toNat).take (j.toNat-i.toNat):=by
 unfold lE;rw[Ck h,Ck hi];by_cases b:l.length<=i.toNat
 .rw[Nat.min_eq_right b,List.drop_of_length_le b,List.drop_of_length_le (ay _)];simp
 rw[Nat.min_eq_left (a:=i.toNat) (by ext)];by_cases d:l.length<=j.toNat
 .rw[Nat.min_eq_right d,bE (by simp),bE (by simp;ext)]
 rw[Nat.min_eq_left (by ext)]
theorem ze(l:List Nat){j:Int}(h:0<=j):rX (jH l) none (some j)=jH (l.take j.toNat):=by unfold rX;rw[Cn,El _ h];rfl
theorem R8(l:List Nat){j:Int}(h:0<=j):rX (jH l) (some j) none=jH (l.drop j.toNat):=by unfold rX;rw[Cn,EO _ h];rfl
theorem RJ(l:List Nat){i j:Int}(hi:0<=i)(h:0<=j):rX (jH l) (some i) (some j)=jH ((l.drop i.toNat).take (j.toNat-i.toNat)):=by unfold rX;rw[Cn,RK _ hi h];rfl
theorem RH{a b:Type}(f:a->b)(l:List a)(lo hi:Option Int):lE (l.map f) lo hi=(lE l lo hi).map f:=by unfold lE;rw[ae,List.map_take,List.map_drop]
theorem zd(n:Nat)(i:Int):fG n (.int i)=True:=by cases n<;>show eq_true trivial
theorem Cj(n:Nat)(i:Str):fG n (.str i)=True:=by cases n<;>show eq_true trivial
theorem N5(n:Nat)(i:Bool):fG n (.bl i)=True:=by cases n<;>show eq_true trivial
theorem Jq(n:Nat):fG n .non=True:=by cases n<;>show eq_true trivial
theorem xW{c:Type}[BEq c][LawfulBEq c][DecidableEq c](a b:c):(a==b)=decide (a=b):=by rw[Bool.eq_iff_iff];simp
theorem Jp(a b:Str):fk (.str a) (.str b)=decide (a=b):=by simp only[fk,xW]
theorem P2(a b:Int):fk (.int a) (.int b)=decide (a=b):=by simp only[fk,xW]
theorem i8:sizeLine=16777216:=by decide
@[irreducible] def o5(u:TX)(D:DE):Ev->Prop:=u D
theorem N4(t u:TX)(D:DE)(a:Ev):dG t u D a=t { nx:=o5 u D,rt:=D.rt,bk:=D.bk,ct:=D.ct } a:=by unfold o5;rfl
end Wc
open PySem L2 Wc
local macro_rules | `(tactic| walk_at"b")=>`(tactic| simp only[N4,fU,yO,my,Dn,eG,v8,dC,xR,ve,Iq,Oy,fb,df,dn,cZ,ax,bV,cq,List.nil_append,List.set,gt,jT,hV,oI,dg,fE,gk,fY,jJ,e8,gF,kz,iG,qZ,eD,iJ,ff,ju,xD,kX,oEq,yn,eF,oP,pE,m9,fT,NN,DF,uQ,vO,yX,u7,dM,BV,jP,pY,xG,o9,mN,fi,kB,vV,jU,g9,D6,mD,vb,vN,u6,nO,Pl,Pk,WV,WU,kO,gq,Int.reduceLT,Int.reduceLE,Int.reduceAdd,Int.reduceSub,Int.reduceMul,Int.reduceNeg,Int.reducePow,Int.reduceToNat,cw,bS,true_and,and_true,and_self,or_true,true_or,zd,Cj,N5,Jq,IL,aq,aR,aX,Bool.not_true,Bool.not_false,aG,cW,Nat.reduceAdd,ba,P2,Jp,RH,yb,wy,DI])
local macro_rules | `(tactic| walk_at"all")=>`(tactic| ((try walk_at"px");repeat(simp only[o5];try walk_at"px")))
local macro_rules | `(tactic| walk_at"px")=>`(tactic| walk_at"b")
local macro_rules | `(tactic| walk_at"go")=>`(tactic| (simp only[o5];walk_at"px"))
namespace Wc
open PySem L2
noncomputable def t7(c k:Int):Int:=(c%1000000000000000000000000000000*(k*k+48271)+7919*k*k*k+11)%2147483647/7
theorem N3(c k:Int):0<=t7 c k:=Int.ediv_nonneg (bJ _ (by decide)) (by decide)
def rD:fv:=λds Q=>∃c k:Int,ds=[.int c,.int k]/\0<=k/\k<=1000000/\Q (.fz (.int (t7 c k)))
def E8:TX:=(gk (dg (oI kO λi j=>.int (i/j)) (dg (oI (λ_ j=>0<j) λi j=>.int (i%j)) (dg fE (dg fE (dg (oI gq λi j=>.int (i*j)) (dg (oI (λ_ j=>0<j) λi j=>.int (i%j)) (cZ 0) (dg (oI rZ λi j=>.int (i ^ j.toNat)) (dC (.int 10)) (dC (.int 30)))) (dg fE (dg (oI gq λi j=>.int (i*j)) (cZ 1) (cZ 1)) (dC (.int 48271)))) (dg (oI gq λi j=>.int (i*j)) (dg (oI gq λi j=>.int (i*j)) (dg (oI gq λi j=>.int (i*j)) (dC (.int 7919)) (cZ 1)) (cZ 1)) (cZ 1))) (dC (.int 11))) (dC (.int 2147483647))) (dC (.int 7))))
abbrev iH(n:Nat)(b:fv)(T:TX)(N:List Str):Prop:=∀(ds:List D)(a:R->Prop),ds.length=n->b ds a->T { nx:=λ_=>a (.fz .non),rt:=a } (uf N ds)
theorem UB:iH 2 rD E8 ["_law_cell","_law_k"]:=by
 intro ds f hl h;obtain⟨c,k,rfl,h0,b,q⟩:=h;show E8 _ [.fz (.int c),.fz (.int k)];unfold E8;walk_at"all";have d:k*k<=1000000*1000000:=Int.mul_le_mul b b h0 (by decide);have e:0<=k*k:=Int.mul_nonneg h0 h0;show⟨.inl ⟨by ext,by ext⟩,.inr ⟨by ext,by ext⟩,.inr ⟨by ext,by ext⟩,.inr ⟨by ext,by ext⟩,?_⟩;show q
open PyProof.Rows
noncomputable def dO:Option Str->D
 | none=>.non
 | some s=>.str s
noncomputable def dP(l:List (Option Str)):D:=.lst (l.map dO)
noncomputable def dS(l:List Str):D:=.lst (l.map .str)
noncomputable def dI(l:List Int):D:=.lst (l.map .int)
noncomputable def uO(p:Str×Int):D:=.tup [.str p.1,.int p.2]
noncomputable def pJ(p:Int×Str):D:=.tup [.int p.1,.str p.2]
noncomputable def Bn(p:Int×Int×Int):D:=.tup [.int p.1,.int p.2.1,.int p.2.2]
noncomputable def dW(l:List (Str×Int)):D:=.lst (l.map uO)
noncomputable def dB(l:List (Int×Str)):D:=.lst (l.map pJ)
noncomputable def dK(l:List (Int×Int×Int)):D:=.lst (l.map Bn)
structure dX where
 top:List (Option Str)
 c6:List (Option Str)
 left:List Str
 right:List Str
 wide:List (Str×Int)
 dR:List (Int×Str)
 keeps:List (Int×Int×Int)
noncomputable def dX.parts(c:dX):List D:=[dP c.top,dP c.c6,dS c.left,dS c.right,dW c.wide,dB c.dR,dK c.keeps]
noncomputable def dX.obj(c:dX):D:=.obj "Channel" [("top",dP c.top),("bottom",dP c.c6),("left",dS c.left),("right",dS c.right),("wide",dW c.wide),("bends",dB c.dR),("keeps",dK c.keeps)]
theorem xQ(n:Nat)(o:Option Str):fG n (dO o)=True:=by
 cases o with
 | none=>show Jq n
 | some s=>show Cj n s
theorem B0(a b:Option Str):fk (dO a) (dO b)=decide (a=b):=by
 cases a<;>cases b<;>simp only[dO,fk,xW,aB,reduceCtorEq,cw,bS]
theorem zK(a:Option Str)(b:Str):fk (dO a) (.str b)=decide (a=some b):=B0 a (some b)
theorem Le(a:Str)(b:Option Str):fk (.str a) (dO b)=decide (some a=b):=B0 (some a) b
theorem xN(w:Str)(l:List Str):inD (.str w) (l.map .str)=decide (w∈l):=by
 unfold inD;rw[List.any_map];induction l with
 | nil=>rfl
 | cons a r b=>
  rw[cA,b,Function.comp_apply,Jp];by_cases h:a=w
  .subst h;simp
  simp[h,Ne.symm h]
theorem Ie(w:Str)(l:List (Option Str)):inD (.str w) (l.map dO)=decide (some w∈l):=by
 unfold inD;rw[List.any_map];induction l with
 | nil=>rfl
 | cons a r b=>
  rw[cA,b,Function.comp_apply,zK];by_cases h:a=some w
  .subst h;simp
  simp[h,Ne.symm h]
theorem uh(n:Nat)(l:List Str):∀e∈l.map D.str,fG n e:=by
 intro e he;rw[aN] at he;obtain⟨x,_,rfl⟩:=he;rw[Cj];trivial
theorem Cy(n:Nat)(l:List (Option Str)):∀e∈l.map dO,fG n e:=by
 intro e he;rw[aN] at he;obtain⟨x,_,rfl⟩:=he;rw[xQ];trivial
def ic(ws:List Str)(l:List (Option Str)):Prop:=∀w,some w∈l->w∈ws
theorem EN{f:Type}{h:lC}{g:jN}{tb:TX}{D:DE}{c:Ev}(L:List f)(b:f->L2.D)(hw:∀j:List L2.D->Prop,j (pX (L.map b))->h c j)(a:Nat->Ev->Prop)(k:a 0 c)
  (turn:∀(i:Nat) x ρ',L[i]?=some x->a i ρ'->g (.tup [.int i,b x]) ρ' λl=>tb { D with nx:=a (i+1),ct:=a (i+1),bk:=D.nx } l) (fin:∀ρ',a L.length ρ'->D.nx ρ'):i9 h g tb D c:=by
 show JV (pX (L.map b)) hw a k (λi d ρ' hd e=>?_) (λρ' e=>fin ρ' (by simpa[pX] using e));unfold pX at hd;rw[List.getElem?_mapIdx,aI] at hd;cases hx:L[i]? with
 | none=>rw[hx] at hd;cases hd
 | some x=>rw[hx] at hd;cases hd;show turn i x ρ' hx e
theorem Kx:∀{a b c:List Nat},Spec.ltCps a b=true->Spec.ltCps b c=true->Spec.ltCps a c=true
 | [],[],c,h,_=>by simp[Spec.ltCps] at h
 | [],b::bs,[],_,h=>by simp[Spec.ltCps] at h
 | [],b::bs,c::cs,_,_=>by simp[Spec.ltCps]
 | a::as,[],c,h,_=>by simp[Spec.ltCps] at h
 | a::as,b::bs,[],_,h=>by simp[Spec.ltCps] at h
 | a::as,b::bs,c::cs,h,h'=>by
  simp only[Spec.ltCps,Bool.or_eq_true,ba,bY,beq_iff_eq] at h h' ⊢;rcases h with h | ⟨rfl,h⟩
  .rcases h' with h' | ⟨rfl,h'⟩
   .left;ext
   left;ext
  rcases h' with h' | ⟨rfl,h'⟩
  .left;ext
  right;show⟨rfl,Kx h h'⟩
theorem Jo:∀{a b:List Nat},Spec.ltCps a b=false->Spec.ltCps b a=false->a=b
 | [],[],_,_=>rfl
 | [],b::bs,h,_=>by simp[Spec.ltCps] at h
 | a::as,[],_,h=>by simp[Spec.ltCps] at h
 | a::as,b::bs,h,h'=>by
  simp only[Spec.ltCps,Bool.or_eq_false_iff,bA,Bool.and_eq_false_iff,cI] at h h';have e:a=b:=by ext
  subst e;rw[Jo (h.2.resolve_left λz=>z rfl) (h'.2.resolve_left λz=>z rfl)]
theorem Jn:∀(a:List Nat),Spec.ltCps a a=false
 | []=>rfl
 | a::as=>by simp[Spec.ltCps,Jn as]
def nh(a b:Str):Prop:=Spec.ltCps a.cps.toList b.cps.toList=true
theorem R7{a b c:Str}(h:nh a b)(h':nh b c):nh a c:=Kx h h'
theorem P1{a b:Str}(h:a.cps.toList=b.cps.toList):a=b:=by rw[<-IM a,<-IM b,h]
theorem Kw:∀{p:Str}{l:List Str},risingS p l=true->(p::l).Nodup->(p::l).Pairwise nh
 | p,[],_,_=>by simp
 | p,x::r,h,nd=>by
  simp only[risingS,bY,b9] at h;have g:=nd;rw[cj] at nd;have c:=Kw h.2 nd.2;have f:p≠x:=λz=>nd.1 (by simp[z])
  have d:nh p x:=by
   unfold nh;cases e:Spec.ltCps p.cps.toList x.cps.toList with
   | true=>rfl
   | false=>show absurd (P1 (Jo e h.1)) f
  rw[bN];show⟨λb a=>?_,c⟩;rcases av.mp a with rfl | a
  .exact d
  show R7 d ((bN.mp c).1 b a)
theorem EM{l:List Str}(h:sortedS l=true)(nd:l.Nodup):l.Pairwise nh:=by
 cases l with
 | nil=>show .nil
 | cons x r=>show Kw h nd
def DO(g:jN)(tb:TX)(D:DE)(b:Ev)(ds:List L2.D):Prop:=∃a:Nat->Ev->Prop,a 0 b/\
 (∀i d ρ',ds[i]?=some d->a i ρ'->g d ρ' λc=>tb { D with nx:=a (i+1),ct:=a (i+1),bk:=D.nx } c)/\∀ρ',a ds.length ρ'->D.nx ρ'
theorem Cw{b:lC}{g:jN}{tb:TX}{D:DE}{a:Ev}(P:List L2.D->Prop)(hw:∀c:List L2.D->Prop,(∀ds,P ds->c ds)->b a c)(h:∀ds,P ds->DO g tb D a ds):i9 b g tb D a:=hw _ h
theorem E7{f:Type}{g:jN}{tb:TX}{D:DE}{e:Ev}(L:List f)(c:f->L2.D)(a:Nat->Ev->Prop)(h:a 0 e)
  (turn:∀i x ρ',L[i]?=some x->a i ρ'->g (c x) ρ' λj=>tb { D with nx:=a (i+1),ct:=a (i+1),bk:=D.nx } j) (fin:∀ρ',a L.length ρ'->D.nx ρ'):DO g tb D e (L.map c):=by
 show⟨a,h,λi d ρ' hd b=>?_,λρ' b=>fin ρ' (by simpa using b)⟩;rw[aI] at hd;cases hx:L[i]? with
 | none=>rw[hx] at hd;cases hd
 | some x=>rw[hx] at hd;cases hd;show turn i x ρ' hx b
theorem Tv{f:Type}{g:jN}{tb:TX}{D:DE}{e:Ev}(L:List f)(c:f->L2.D)(a:Nat->Ev->Prop)(h:a 0 e)
  (turn:∀(i:Nat) x ρ',L[i]?=some x->a i ρ'->g (.tup [.int i,c x]) ρ' λj=>tb { D with nx:=a (i+1),ct:=a (i+1),bk:=D.nx } j) (fin:∀ρ',a L.length ρ'->D.nx ρ'):DO g tb D e (pX (L.map c)):=by
 show⟨a,h,λi d ρ' hd b=>?_,λρ' b=>fin ρ' (by simpa[pX] using b)⟩;unfold pX at hd;rw[List.getElem?_mapIdx,aI] at hd;cases hx:L[i]? with
 | none=>rw[hx] at hd;cases hd
 | some x=>rw[hx] at hd;cases hd;show turn i x ρ' hx b
theorem Ek{n:Nat}{a:Type}(f:a->D)(l:List a)(h:∀x∈l,fG n (f x)):fG (n+1) (.lst (l.map f)):=by
 intro d hd;rw[aN] at hd;obtain⟨x,hx,rfl⟩:=hd;show h x hx
theorem N2(n:Nat)(l:List Int):fG (n+1) (dI l):=Ek D.int l λx _=>by rw[zd];trivial
theorem Kd{b:Type}(l:List b)(a:b->D):pX (l.map a)=l.zipIdx.map λp=>.tup [.int (p.2:Nat),a p.1]:=by
 unfold pX;apply List.ext_getElem
 .simp
 intro i d c;simp
noncomputable def dN(n:Nat):D:=.int n
noncomputable def yC(ns:List Int):Int:=(ns.take 1).sum
theorem QG{b:Type}(a:b)(r:List b):fK (a::r) 0=some a:=by
 unfold fK qg;rw[if_pos (by decide),if_pos (by simp only[aG];ext)];rfl
theorem QF{a:Type}(l:List a)(h:l≠[]):fK l (-1)=some (l.getLast h):=by
 have b:0<l.length:=List.length_pos_iff.mpr h;unfold fK qg;rw[if_neg (by decide),if_pos (by ext)];simp only[Option.bind_some];rw[List.getLast_eq_getElem,show(-1+(l.length:Int)).toNat=l.length-1 by ext];show ah _
theorem Ic(o:OV):(R.ov o).sl=.ov o:=rfl
theorem IK(o:OV):(R.ov o).val=o.val:=rfl
theorem x8{d c:Type}(f:d->D)(g:c->D)(a:List d)(b:List c):xF (a.map f) (b.map g)=(a.zip b).map λp=>.tup [f p.1,g p.2]:=by
 unfold xF;rw[List.zipWith_map,List.zip,List.map_zipWith]
theorem Cv(L:List (Option Str)):(L.filter λx=>x.isSome).map dO=(L.filterMap id).map D.str:=by
 induction L with
 | nil=>rfl
 | cons a r b=>cases a<;>simp_all[dO]
noncomputable def lF:Nat->Int->List Nat
 | 0,_=>[]
 | n+1,c=>(97+(c%26).toNat)::lF n (c/26)
theorem R6(n:Nat)(c:Int):(lF n c).length=n:=by
 induction n generalizing c with
 | zero=>rfl
 | succ n a=>simp[lF,a]
theorem QE(n:Nat)(c:Int):∀x∈lF n c,97<=x/\x<=122:=by
 induction n generalizing c with
 | zero=>intro x hx;cases hx
 | succ n a=>
  intro x hx;rcases av.mp hx with rfl | h
  .have h0:=bJ c (show(26:Int)≠0 by decide);have b:=bK c (show(0:Int)<26 by decide);ext
  show a _ x h
noncomputable def HA:Str:="abcdefghijklmnopqrstuvwxyz"
theorem N1:∀k:Fin 26,fK HA.cps.toList (k.val:Int)=some (97+k.val):=by decide +kernel
theorem PZ(c:Int):fK HA.cps.toList (c%26)=some (97+(c%26).toNat):=by
 have h0:=bJ c (show(26:Int)≠0 by decide);have a:=bK c (show(0:Int)<26 by decide);have:=N1 ⟨(c%26).toNat,by ext⟩;simp only at this;rwa [Int.toNat_of_nonneg h0] at this
def zF:fv:=λds Q=>∃(c:Int)(n:Nat),ds=[.int c,.int n]/\n<=1000/\Q (.fz (.str (jH (lF n c))))
def FC:TX:=(dG (e8 2 (dC (.str "abcdefghijklmnopqrstuvwxyz")))
 (dG (e8 3 (dC (.str "")))
 (dG (i9 (mD (df (cZ 1) dn)) (eD 4) (dG (e8 3 (dg fE (cZ 3) (dg eF (cZ 2) (dg (oI (λ_ j=>0<j) λi j=>.int (i%j)) (cZ 0) (dC (.int 26))))))
 (e8 0 (dg (oI kO λi j=>.int (i/j)) (cZ 0) (dC (.int 26))))))
 (gk (cZ 3)))))
theorem U6:iH 2 zF FC ["_law_cell","_law_size","_law_signs","_law_stem_here","_law_k"]:=by
 intro ds g hl h;obtain⟨c,n,rfl,f,q⟩:=h;show FC _ [.fz (.int c),.fz (.int n),.un,.un,.un];unfold FC;walk_at"all";show tS n (λj h=>?_) (λi d=>∃(b:Int)(acc:List Nat)(k:Sl),d=[.fz (.int b),.fz (.int n),.fz (.str HA),.fz (.str (jH acc)),k]/\acc.length=i/\acc++lF (n-i) b=lF n c) ⟨_,[],_,rfl,rfl,rfl⟩ ?_ ?_
 .walk_at"all";show⟨by ext,by ext,by simpa using h⟩
 .rintro i d hi ⟨b,acc,k,rfl,e,he⟩;walk_at"all";show⟨by decide,_,PZ b,?_,_,acc++[97+(b%26).toNat],_,by rw[vv,wg],by simp[e],?_⟩
  .rw[pf,vv,pf,i8];simp;ext
  rw[<-he,show n-i=(n-(i+1))+1 by ext,lF];simp
 rintro d ⟨b,acc,k,rfl,e,he⟩;walk_at"all";rw[Nat.sub_self] at he;simp only[lF,aS] at he;rw[he];show q
noncomputable def y3(c:Int):List (List Nat):=
 if c/64%3=0 then [104,103,102,101,100,99,98,97].map λs=>(lF 6 (c/512)).take (c/8%(c%6+1)).toNat++[s]++((lF 6 (c/512)).drop (c/8%(c%6+1)).toNat).take ((c%6).toNat-(c/8%(c%6+1)).toNat)
 else if c/64%3=1 then(List.range 8).map λk=>(lF 6 (c/512)).take (c%6%4).toNat++[if k/4=0 then 109 else 116]++[if k/2%2=0 then 110 else 117]++[if k%2=0 then 111 else 118]
 else(List.range 6).map (λk=>(lF 6 (c/512)).take (k+1))++[([if (lF 6 (c/512)).headD 0=97 then 98 else 97]++(lF 6 (c/512)).drop 1).take 1,([if (lF 6 (c/512)).headD 0=97 then 98 else 97]++(lF 6 (c/512)).drop 1).take 3]
noncomputable def DN(i:Int):Int:=(i%1000000000000000000000000+5)*7046029254386353131%1000000000000000000000007
noncomputable def zev(i:Int):List Str:=(y3 (DN i)).map jH
theorem Ib(x:Int):∃a b c d e f:Nat,lF 6 x=[a,b,c,d,e,f]/\(97<=a/\a<=122)/\(97<=b/\b<=122)/\(97<=c/\c<=122)/\(97<=d/\d<=122)/\(97<=e/\e<=122)/\(97<=f/\f<=122):=by
 have h:=QE 6 x;simp only[lF,av,bg,cY,forall_eq_or_imp,forall_eq] at h;show⟨_,_,_,_,_,_,by simp only[lF],h.1,h.2.1,h.2.2.1,h.2.2.2.1,h.2.2.2.2.1,h.2.2.2.2.2⟩
theorem QD{l:List (List Nat)}(h:l.Nodup):(l.map jH).Nodup:=by
 unfold List.Nodup at *;rw[List.pairwise_map];show h.imp λa e=>a (uA.mp e)
theorem R5(c:Int):(y3 c).length=8/\(y3 c).Nodup:=by
 unfold y3;by_cases h0:c/64%3=0
 .rw[if_pos h0];show⟨rfl,by simp[bw]⟩
 rw[if_neg h0];by_cases h:c/64%3=1
 .rw[if_pos h];show⟨by simp,by simp[List.range,List.range.loop,bw]⟩
 rw[if_neg h];obtain⟨a,b,j,d,e,f,i,_⟩:=Ib (c/512);rw[i];have g:(if a=97 then 98 else 97)≠a:=by split<;>ext
 generalize (if a=97 then 98 else 97)=o at g;show⟨by simp,?_⟩;have:¬a=o:=λz=>g z.symm
 simp[List.range,List.range.loop];split<;>ext
theorem Kv(i:Int):(zev i).length=8/\(zev i).Nodup:=by
 obtain⟨b,a⟩:=R5 (DN i);show⟨by simp[zev,b],QD a⟩
def zX:fv:=λds Q=>∃i:Int,ds=[.int i]/\Q (.ow ((zev i).map .str))
def Fl:TX:=(dG (e8 0 (dg (oI (λ_ j=>0<j) λi j=>.int (i%j)) (dg (oI gq λi j=>.int (i*j)) (dg fE (dg (oI (λ_ j=>0<j) λi j=>.int (i%j)) (cZ 0) (dg (oI rZ λi j=>.int (i ^ j.toNat)) (dC (.int 10)) (dC (.int 24)))) (dC (.int 5))) (dC (.int 7046029254386353131))) (dg fE (dg (oI rZ λi j=>.int (i ^ j.toNat)) (dC (.int 10)) (dC (.int 24))) (dC (.int 7)))))
 (dG (e8 1 (dg (oI (λ_ j=>0<j) λi j=>.int (i%j)) (cZ 0) (dC (.int 6))))
 (dG (e8 2 (fT 2 zF (df (dg (oI kO λi j=>.int (i/j)) (cZ 0) (dC (.int 512))) (df (dC (.int 6)) dn))))
 (dG (e8 3 (dg (oI (λ_ j=>0<j) λi j=>.int (i%j)) (dg (oI kO λi j=>.int (i/j)) (cZ 0) (dC (.int 8))) (dg fE (cZ 1) (dC (.int 1)))))
 (dG (fU (eG (dg oEq (dg (oI (λ_ j=>0<j) λi j=>.int (i%j)) (dg (oI kO λi j=>.int (i/j)) (cZ 0) (dC (.int 64))) (dC (.int 3))) (dC (.int 0)))) (gk (gr (g9 (dC (.str "hgfedcba"))) [none,some 2,some 3,some 1] (eD 0) jU (dg fE (dg fE (oP (cZ 1) pE (m9 (cZ 2))) (cZ 0)) (oP (cZ 1) (m9 (cZ 2)) (m9 (cZ 3)))))) fY)
 (dG (fU (eG (dg oEq (dg (oI (λ_ j=>0<j) λi j=>.int (i%j)) (dg (oI kO λi j=>.int (i/j)) (cZ 0) (dC (.int 64))) (dC (.int 3))) (dC (.int 1)))) (gk (gr (mD (df (dC (.int 8)) dn)) [none,some 2,some 1] (eD 0) jU (dg fE (dg fE (dg fE (oP (cZ 1) pE (m9 (dg (oI (λ_ j=>0<j) λi j=>.int (i%j)) (cZ 2) (dC (.int 4))))) (dg eF (dC (.str "mt")) (dg (oI kO λi j=>.int (i/j)) (cZ 0) (dC (.int 4))))) (dg eF (dC (.str "nu")) (dg (oI (λ_ j=>0<j) λi j=>.int (i%j)) (dg (oI kO λi j=>.int (i/j)) (cZ 0) (dC (.int 2))) (dC (.int 2))))) (dg eF (dC (.str "ov")) (dg (oI (λ_ j=>0<j) λi j=>.int (i%j)) (cZ 0) (dC (.int 2))))))) fY)
 (dG (e8 4 (dg fE (dg eF (dC (.str "ab")) (fb u6 (df (dg oEq (dg eF (cZ 2) (dC (.int 0))) (dC (.str "a"))) dn))) (oP (cZ 2) (m9 (dC (.int 1))) pE)))
 (gk (dg fE (gr (mD (df (dC (.int 6)) dn)) [none,some 2] (eD 0) jU (oP (cZ 1) pE (m9 (dg fE (cZ 0) (dC (.int 1)))))) (gF (df (oP (cZ 4) pE (m9 (dC (.int 1)))) (df (oP (cZ 4) pE (m9 (dC (.int 3)))) dn))))))))))))
theorem N0:(Str.ofString "hgfedcba").cps.toList=[104,103,102,101,100,99,98,97]:=by decide +kernel
theorem Nh(k:Nat)(h:k<8):fK (Str.ofString "mt").cps.toList ((k:Int)/4)=some (if k/4=0 then 109 else 116):=by
 have:∀k:Fin 8,fK (Str.ofString "mt").cps.toList ((k.val:Int)/4)=some (if k.val/4=0 then 109 else 116):=by decide +kernel
 show this ⟨k,h⟩
theorem Ng(k:Nat)(h:k<8):fK (Str.ofString "nu").cps.toList ((k:Int)/2%2)=some (if k/2%2=0 then 110 else 117):=by
 have:∀k:Fin 8,fK (Str.ofString "nu").cps.toList ((k.val:Int)/2%2)=some (if k.val/2%2=0 then 110 else 117):=by decide +kernel
 show this ⟨k,h⟩
theorem Nf(k:Nat)(h:k<8):fK (Str.ofString "ov").cps.toList ((k:Int)%2)=some (if k%2=0 then 111 else 118):=by
 have:∀k:Fin 8,fK (Str.ofString "ov").cps.toList ((k.val:Int)%2)=some (if k.val%2=0 then 111 else 118):=by decide +kernel
 show this ⟨k,h⟩
theorem U4:iH 1 zX Fl ["_law_cell","_law_size","_law_stem_here","_law_at","_law_other"]:=by
 intro ds C hl h;obtain⟨i,rfl,q⟩:=h;show Fl _ [.fz (.int i),.un,.un,.un,.un];unfold Fl;walk_at"all";unfold zev y3 DN at q;generalize (i%1000000000000000000000000+5)*7046029254386353131%1000000000000000000000007=c at q ⊢;have s0:0<=c%6:=bJ _ (by decide);have s1:c%6<6:=bK _ (by decide);show⟨c/512,6,rfl,by decide,by ext,?_⟩;have t0:0<=c/8%(c%6+1):=bJ _ (by ext);have t1:c/8%(c%6+1)<c%6+1:=bK _ (by ext);have B:=R6 6 (c/512);have big:=i8;by_cases h0:c/64%3=0
 .rw[if_pos h0] at q;rw[if_pos h0];show oj [104,103,102,101,100,99,98,97] (λc=>.str ⟨#[c]⟩) (λs=>.str (jH ((lF 6 (c/512)).take (c/8%(c%6+1)).toNat++[s]++((lF 6 (c/512)).drop (c/8%(c%6+1)).toNat).take ((c%6).toNat-(c/8%(c%6+1)).toNat)))) (λr h=>?_) (by decide) (λs g t k=>?_) ?_
  .walk_at"all";rw[N0];show h
  .walk_at"all";rw[ze _ t0,RJ _ t0 s0,vv,wg,wg];show⟨by rw[pf];ext,?_,by rw[pf];ext,?_,k⟩
   .simp only[pf,aT,aG,cW];ext
   simp only[pf,aD,aT,cB,aG,cW];ext
  show q
 rw[if_neg h0] at q;rw[if_neg h0];by_cases j:c/64%3=1
 .rw[if_pos j] at q;rw[if_pos j];have v:0<=c%6%4:=bJ _ (by decide);show oj (List.range 8) (λ(i:Nat)=>.int (0+i)) (λk=>.str (jH ((lF 6 (c/512)).take (c%6%4).toNat++[if k/4=0 then 109 else 116]++[if k/2%2=0 then 110 else 117]++[if k%2=0 then 111 else 118]))) (λr h=>?_) (by decide) (λs g t k=>?_) ?_
  .walk_at"all";show h
  .have o:s<8:=by simpa using g
   rw[Int.zero_add];walk_at"all";rw[ze _ v];show⟨by rw[pf];ext,by decide,_,Nh s o,?_,by decide,_,Ng s o,?_,by decide,_,Nf s o,?_,?_⟩
   .simp only[pf,vv,aT,aG,cW];ext
   .simp only[pf,vv,wg,aD,aT,aG,cW];ext
   .simp only[pf,vv,wg,aD,aT,aG,cW];ext
   simp only[vv,wg];show k
  rw[aU] at q;show q
 rw[if_neg j] at q;rw[if_neg j];obtain⟨a,b,p,d,e,f,g,ha,A,y,hd,he,hf⟩:=Ib (c/512);rw[g] at q ⊢;have w:fK (jH [a,b,p,d,e,f]).cps.toList 0=some a:=by rw[Cn];rfl
 show⟨by rw[pf];simp;ext,a,w,?_⟩;have x:fK (Str.ofString "ab").cps.toList (if (⟨#[a]⟩:Str)=Str.ofString "a" then 1 else 0)=some (if a=97 then 98 else 97):=by
  by_cases n:a=97
  .subst n;decide +kernel
  have:¬((⟨#[a]⟩:Str)=Str.ofString "a"):=by
   intro z;have m:(⟨#[a]⟩:Str).cps.toList=(Str.ofString "a").cps.toList:=by rw[z]
   have u:(Str.ofString "a").cps.toList=[97]:=by decide +kernel
   rw[u] at m;simp at m;show n m
  rw[if_neg this,if_neg n];decide +kernel
 show⟨by decide,_,x,?_⟩;walk_at"all";rw[R8 _ (by decide),vv,wg];show⟨by rw[pf];simp;ext,by simp only[pf];simp;ext,?_⟩;show oj (List.range 6) (λ(i:Nat)=>.int (0+i)) (λk=>.str (jH ([a,b,p,d,e,f].take (k+1)))) (λr h=>?_) (by decide) (λs g t k=>?_) ?_
 .walk_at"all";show h
 .walk_at"all";rw[ze _ (by ext),show(0+(s:Int)+1).toNat=s+1 by ext];show⟨by rw[pf];simp;ext,k⟩
 walk_at"all";rw[ze _ (by decide),ze _ (by decide)];show⟨by rw[pf];simp;ext,by rw[pf];simp;ext,by decide,by simp;ext,?_⟩;simp only[aE,aU,ax,bV] at q;show q
def zE:fv:=λds Q=>∃(ws:List Str)(cells:List Int)(a:Int)(W:Nat),ds=[dS ws,dI cells,.int a,.int W]/\ws.length=8/\W<=40/\
 ∀top c6:List (Option Str),top.length=W->c6.length=W->ic ws top->ic ws c6->Q (.fz (.tup [dP top,dP c6]))
def FA:TX:=(dG (jJ 4 (gF dn))
 (dG (jJ 5 (gF dn))
 (dG (i9 (mD (df (cZ 3) dn)) (eD 6) (dG (jJ 7 (gF dn))
 (dG (i9 (mD (df (dC (.int 2)) dn)) (eD 8) (dG (e8 9 (dg fE (dg (oI gq λi j=>.int (i*j)) (dC (.int 2)) (cZ 6)) (cZ 8)))
 (dG (e8 10 (fT 2 rD (df (cZ 2) (df (cZ 9) dn))))
 (dG (fU (eG (dg (hV λi j=>.bl (decide (i<j))) (cZ 9) (fb jT (df (cZ 1) dn)))) (e8 10 (fT 2 rD (df (dg eF (cZ 1) (cZ 9)) (df (cZ 9) dn)))) fY)
 (jP 7 (dg eF (gF (df (dg eF (cZ 0) (dg (oI (λ_ j=>0<j) λi j=>.int (i%j)) (cZ 10) (dC (.int 8)))) (df (dg eF (cZ 0) (dg (oI (λ_ j=>0<j) λi j=>.int (i%j)) (dg (oI kO λi j=>.int (i/j)) (cZ 10) (dC (.int 8))) (dC (.int 3)))) (df (dg eF (cZ 0) (dg (oI (λ_ j=>0<j) λi j=>.int (i%j)) (dg (oI kO λi j=>.int (i/j)) (cZ 10) (dC (.int 8))) (dC (.int 5)))) (df (dC .non) dn))))) (dg (oI (λ_ j=>0<j) λi j=>.int (i%j)) (dg (oI kO λi j=>.int (i/j)) (cZ 10) (dC (.int 64))) (dC (.int 4)))))))))
 (dG (jP 4 (vO 7 (dC (.int 0))))
 (jP 5 (vO 7 (dC (.int 1))))))))
 (o9 5 (o9 4 (gk (kz (df (cZ 4) (df (cZ 5) dn)))))))))
theorem Eu(ws:List Str):ic ws []:=λw h=>by cases h
theorem EL{ws:List Str}{l:List (Option Str)}{x:Option Str}(h:ic ws l)(hx:∀w,x=some w->w∈ws):ic ws (l++[x]):=λw hw=>by
 rcases au.mp hw with a | a
 .exact h w a
 show hx w (bp.mp a).symm
theorem U5:iH 4 zE FA ["_law_words","_law_cells","_law_seed","_law_width","_law_top","_law_bottom","_law_c","_law_row","_law_side","_law_k","_law_one"]:=by
 intro ds N hl h;obtain⟨ws,cells,g,W,rfl,m,M,q⟩:=h;show FA _ [.fz (dS ws),.fz (dI cells),.fz (.int g),.fz (.int W),.un,.un,.un,.un,.un,.un,.un];unfold FA;have big:=i8;walk_at"px";show⟨by ext,?_⟩;walk_at"go";show⟨by ext,?_⟩;walk_at"go";show tS W (λK h=>?_) (λi f=>∃(top c6:List (Option Str))(a b c d e:Sl),f=[.fz (dS ws),.fz (dI cells),.fz (.int g),.fz (.int W),.ow (top.map dO),.ow (c6.map dO),a,b,c,d,e]/\top.length=i/\c6.length=i/\ic ws top/\ic ws c6) ⟨[],[],_,_,_,_,_,rfl,rfl,rfl,Eu _,Eu _⟩ ?_ ?_
 .walk_at"px";show⟨by ext,by ext,by simpa using h⟩
 .rintro i f hi ⟨top,c6,a,b,c,d,e,rfl,p,s,pt,pb⟩;walk_at"px";show⟨by ext,?_⟩;walk_at"go";show tS 2 (λK h=>?_) (λj f=>∃(row:List (Option Str))(c d e:Sl),f=[.fz (dS ws),.fz (dI cells),.fz (.int g),.fz (.int W),.ow (top.map dO),.ow (c6.map dO),.fz (.int i),.ow (row.map dO),c,d,e]/\row.length=j/\ic ws row) ⟨[],_,_,_,rfl,rfl,Eu _⟩ ?_ ?_
  .walk_at"px";show h
  .rintro j f L ⟨row,c,d,e,rfl,r,pr⟩;walk_at"px";walk_at"go";have o:(0:Int)<=2*(i:Int)+j:=by ext
   have k1:2*(i:Int)+j<=1000000:=by ext
   show⟨g,_,rfl,o,k1,?_⟩;walk_at"go";unfold dI;walk_at"px";split
   focus
    rename_i B;rw[ae] at B;obtain⟨z,hz,_⟩:=Em (l:=cells) o B;show⟨z,hz,z,_,rfl,o,k1,?_⟩
   all_goals
    generalize t7 _ _=one;walk_at"go";unfold dS;walk_at"px";obtain⟨v,J,E⟩:=M4 one m;obtain⟨u,I,D⟩:=Yu (one/8) m;obtain⟨t,H,C⟩:=Yt (one/8) m;show⟨v,J,u,I,t,H,by ext,?_⟩;have F:=B1 (l:=[some v,some u,some t,none]) (n:=4) (one/64) (by simp) (by decide);obtain⟨z,hz,A⟩:=F;show⟨dO z,?_,by simp;ext,row++[z],_,_,_,by rw[aE];rfl,by simp[r],EL pr ?_⟩
    .have:=congrArg (Option.map dO) hz;rw[<-Cm] at this;show this
    intro w hw;subst hw;simp only[av,aB,bg,cY,reduceCtorEq] at A;rcases A with rfl | rfl | rfl
    .exact E
    .exact D
    show C
  rintro f ⟨row,c,d,e,rfl,r,pr⟩;obtain⟨x,y,rfl⟩:∃x y,row=[x,y]:=by
   match row,r with
   | [x,y],_=>show⟨x,y,rfl⟩
  walk_at"go";show⟨dO x,rfl,by simp;ext,?_⟩;walk_at"go";show⟨dO y,rfl,by simp;ext,top++[x],c6++[y],_,_,_,_,_,by rw[aE,aE];rfl,by simp[p],by simp[s],EL pt λw hw=>pr w (by simp[hw]),EL pb λw hw=>pr w (by simp[hw])⟩
 rintro f ⟨top,c6,a,b,c,d,e,rfl,p,s,pt,pb⟩;walk_at"go";show⟨by ext,q top c6 p s pt pb⟩
noncomputable def fZ(top c6:List (Option Str))(left right:List Str)(w:Str):Nat:=top.count (some w)+c6.count (some w)+left.count w+right.count w
def vj:fv:=λds Q=>∃(top c6:List (Option Str))(left right:List Str)(w:Str),ds=[dP top,dP c6,dS left,dS right,.str w]/\top.length+c6.length+left.length+right.length<=100000/\Q (.fz (.int (fZ top c6 left right w)))
def Fz:TX:=(dG (e8 5 (dg fE (dg fE (dg fE (cZ 0) (cZ 1)) (cZ 2)) (cZ 3)))
 (gk (dM "list" BV (cZ 5) (df (cZ 4) dn))))
theorem IJ(w:Str)(l:List (Option Str)):qY (.str w) (l.map dO)=l.count (some w):=by
 unfold qY;rw[List.countP_map,List.count];congr 1
 funext x
 simp only[Function.comp_apply,zK];rw[xW]
theorem II(w:Str)(l:List Str):qY (.str w) (l.map D.str)=l.count w:=by
 unfold qY;rw[List.countP_map,List.count];congr 1
theorem Et(d:D)(a b:List D):qY d (a++b)=qY d a+qY d b:=by unfold qY;show List.countP_append
theorem VB:iH 5 vj Fz ["_law_top","_law_bottom","_law_left","_law_right","_law_word","_law_some"]:=by
 intro ds b hl h;obtain⟨top,c6,left,right,w,rfl,hz,q⟩:=h;show Fz _ [.fz (dP top),.fz (dP c6),.fz (dS left),.fz (dS right),.fz (.str w),.un];unfold Fz;have big:=i8;unfold dP dS;walk_at"px";show⟨by simp;ext,by simp;ext,by simp;ext,?_⟩;walk_at"go";show⟨rfl,?_,?_⟩
 .intro e he;simp only[au] at he;rcases he with((he | he) | he) | he
  .exact Cy 8 top e he
  .exact Cy 8 c6 e he
  .exact uh 8 left e he
  show uh 8 right e he
 rw[Et,Et,Et,IJ,IJ,II,II];show q
theorem Bz(l:List Int)(a:Int):l.map D.int++[D.int a]=(l++[a]).map D.int:=by simp
noncomputable def places(top c6:List (Option Str))(left right:List Str)(w:Str):List Int:=
 (((List.range top.length).filter λc=>top[c]?==some (some w)||c6[c]?==some (some w)).map λ(c:Nat)=>(c:Int))++(if w∈left then [-1] else [])++(if w∈right then [(top.length:Int)] else [])
def lZ(m:Int)(l:List Int):Prop:=m∈l/\∀a∈l,m<=a
def l7(m:Int)(l:List Int):Prop:=m∈l/\∀a∈l,a<=m
def zQ:fv:=λds Q=>∃(top c6:List (Option Str))(left right:List Str)(w:Str),ds=[dP top,dP c6,dS left,dS right,.str w]/\c6.length=top.length/\top.length<=100/\left.length<=100/\right.length<=100/\
 ∀m M,lZ m (places top c6 left right w++[99])->l7 M (places top c6 left right w++[-9])->Q (.fz (.tup [.int m,.int M]))
def FO:TX:=(dG (jJ 5 (gr (mD (df (fb jT (df (cZ 0) dn)) dn)) [none,some 4,some 0,some 1] (eD 0) (eG (dg (kX false) (cZ 1) (gF (df (dg eF (cZ 2) (cZ 0)) (df (dg eF (cZ 3) (cZ 0)) dn))))) (cZ 0)))
 (dG (fU (eG (dg (kX false) (cZ 4) (cZ 2))) (jP 5 (u7 (dC (.int 1)))) fY)
 (dG (fU (eG (dg (kX false) (cZ 4) (cZ 3))) (jP 5 (fb jT (df (cZ 0) dn))) fY)
 (o9 5 (gk (kz (df (fb o8 (df (dg fE (cZ 5) (gF (df (dC (.int 99)) dn))) dn)) (df (fb nZ (df (dg fE (cZ 5) (gF (df (u7 (dC (.int 9))) dn))) dn)) dn))))))))
theorem V7:iH 5 zQ FO ["_law_top","_law_bottom","_law_left","_law_right","_law_word","_law_places"]:=by
 intro ds x hl h;obtain⟨top,c6,left,right,w,rfl,b,u,B,v,q⟩:=h;show FO _ [.fz (dP top),.fz (dP c6),.fz (dS left),.fz (dS right),.fz (.str w),.un];unfold FO;have big:=i8;unfold dP dS;walk_at"px";show nR (List.range top.length) (λ(i:Nat)=>.int (0+i)) (λ(i:Nat)=>.int i) (λc=>top[c]?==some (some w)||c6[c]?==some (some w)) (λy h=>?_) (by simp;ext) (λc p z A k1 o=>?_) ?_
 .walk_at"px";rw[ae];show⟨by ext,by ext,by simpa using h⟩
 .have d:c<top.length:=by simpa using p
  rw[Int.zero_add];walk_at"px";show⟨_,kZ d,_,kZ (l:=c6) (by ext),by ext,?_,?_⟩
  .intro e he;simp only[av,bg,cY] at he;rcases he with rfl | rfl<;>(rw[xQ];trivial)
  have r:inD (.str w) [dO top[c],dO c6[c]]=(top[c]?==some (some w)||c6[c]?==some (some w)):=by
   unfold inD;simp only[cA,List.any_nil,Bool.or_false,zK];rw[ah d,ah (l:=c6) (by ext),xW,xW];simp
  rw[r];cases b:(top[c]?==some (some w)||c6[c]?==some (some w)) with
  | true=>show k1 b
  | false=>show o b
 have e:∀L:List Nat,(L.map λ(i:Nat)=>D.int i)=(L.map (λ(c:Nat)=>(c:Int))).map D.int:=λL=>by simp
 rw[e];have hlen:(((List.range top.length).filter λc=>top[c]?==some (some w)||c6[c]?==some (some w)).map λ(c:Nat)=>(c:Int)).length<=100:=by
  rw[ae];show aM (a9 _ _) ?_;simp;ext
 unfold places at q;generalize (((List.range top.length).filter λc=>top[c]?==some (some w)||c6[c]?==some (some w)).map λ(c:Nat)=>(c:Int))=base at q hlen ⊢;walk_at"go";show⟨uh 8 left,?_⟩;rw[xN];by_cases g:w∈left<;>by_cases f:w∈right
 all_goals
  simp only[g,f,aX,aR,aS] at q;simp only[g,cw,bS,aX,aq,aR];try(show⟨by simp;ext,?_⟩)
  walk_at"go";show⟨uh 8 right,?_⟩;rw[xN];simp only[f,cw,bS,aX,aq,aR];try(show⟨by simp;ext,?_⟩)
  try simp only[Bz,ae]
  walk_at"go";show⟨by ext,by simp;ext,?_⟩;try simp only[Bz,o8,nZ,yb]
  show⟨by simp,λm j n=>?_⟩;show⟨by ext,by simp;ext,?_⟩;try simp only[Bz,yb]
  show⟨by simp,λM s t=>?_⟩;show⟨by ext,q m M ⟨by simpa using j,by simpa using n⟩ ⟨by simpa using s,by simpa using t⟩⟩
structure jt(top c6:List (Option Str))(left right ws:List Str)(dR:List (Int×Str)):Prop where
 len:dR.length<=top.length
 up:dR.Pairwise λa b=>a.1<b.1
 at_:∀p∈dR,∃n:Nat,p.1=n/\n<top.length/\p.2∈ws/\(∃m M,lZ m (places top c6 left right p.2++[99])/\l7 M (places top c6 left right p.2++[-9])/\m<p.1/\p.1<M)/\((top[n]?=some none/\c6[n]?=some none)\/top[n]?=some (some p.2)\/c6[n]?=some (some p.2))
def zW:fv:=λds Q=>∃(top c6:List (Option Str))(left right ws:List Str)(cells:List Int)(a:Int),ds=[.lst [dP top,dP c6,dS left,dS right],dS ws,dI cells,.int a]/\c6.length=top.length/\top.length<=40/\left.length<=100/\right.length<=100/\ws.length=8/\ic ws top/\cells.length<=1000/\
 ∀dR,jt top c6 left right ws dR->Q (.ow (dR.map pJ))
def Fj:TX:=(dG (xG (cZ 0) (xD 4 (ff (eD 4) (ff (eD 5) (ff (eD 6) (ff (eD 7) iJ))))))
 (dG (jJ 8 (gF dn))
 (dG (i9 (mD (df (fb jT (df (cZ 4) dn)) dn)) (eD 9) (dG (e8 10 (fT 2 rD (df (dg eF (dg fE (cZ 2) (gF (df (cZ 3) dn))) (dg (oI (λ_ j=>0<j) λi j=>.int (i%j)) (cZ 9) (dg fE (fb jT (df (cZ 2) dn)) (dC (.int 1))))) (df (dg fE (cZ 9) (dC (.int 200))) dn))))
 (dG (e8 11 (dg eF (cZ 1) (dg (oI (λ_ j=>0<j) λi j=>.int (i%j)) (cZ 10) (dC (.int 8)))))
 (dG (fU (my (eG (dg oEq (dg (oI (λ_ j=>0<j) λi j=>.int (i%j)) (dg (oI kO λi j=>.int (i/j)) (cZ 10) (dC (.int 8))) (dC (.int 3))) (dC (.int 0)))) (eG (dg (kB true) (dg eF (cZ 4) (cZ 9)) (dC .non)))) (e8 11 (dg eF (cZ 4) (cZ 9))) fY)
 (dG (xG (fT 5 zQ (df (cZ 4) (df (cZ 5) (df (cZ 6) (df (cZ 7) (df (cZ 11) dn)))))) (ju 2 (ff (eD 12) (ff (eD 13) iJ))))
 (dG (e8 14 (gr (g9 (gF (df (dg eF (cZ 4) (cZ 9)) (df (dg eF (cZ 5) (cZ 9)) dn)))) [none] (eD 0) (eG (dg (kB true) (cZ 0) (dC .non))) (cZ 0)))
 (fU (my (eG (dg (hV λi j=>.bl (decide (i<j))) (cZ 12) (cZ 9))) (my (eG (dg (hV λi j=>.bl (decide (i<j))) (cZ 9) (cZ 13))) (my (Dn (eG (dg oEq (cZ 14) (gF dn))) (eG (dg (kX false) (cZ 11) (cZ 14)))) (eG (dg (hV λi j=>.bl (decide (j<i))) (dg (oI (λ_ j=>0<j) λi j=>.int (i%j)) (dg (oI kO λi j=>.int (i/j)) (cZ 10) (dC (.int 24))) (dC (.int 3))) (dC (.int 0))))))) (jP 8 (kz (df (cZ 9) (df (cZ 11) dn)))) fY)))))))
 (pY 8))))
theorem QC(l:List D):n8 l []=l.isEmpty:=by cases l<;>simp[n8]
theorem U3:iH 4 zW Fj ["_law_lists","_law_words","_law_cells","_law_seed","_law_top","_law_bottom","_law_left","_law_right","_law_bends_here","_law_c","_law_one","_law_word","_law_l","_law_r","_law_here"]:=by
 intro ds Qr hl h;obtain⟨top,c6,left,right,ws,cells,j,rfl,v,ht,GW,R,O,pt,xh,q⟩:=h;show Fj _ [.fz (.lst [dP top,dP c6,dS left,dS right]),.fz (dS ws),.fz (dI cells),.fz (.int j),.un,.un,.un,.un,.un,.un,.un,.un,.un,.un,.un];unfold Fj;have big:=i8;walk_at"px";walk_at"go";show⟨by ext,?_⟩;walk_at"go";show tS top.length (λW h=>?_) (λi u=>∃(dR:List (Int×Str))(a b c d e f:Sl),u=[.fz (.lst [dP top,dP c6,dS left,dS right]),.fz (dS ws),.fz (dI cells),.fz (.int j),.fz (dP top),.fz (dP c6),.fz (dS left),.fz (dS right),.ow (dR.map pJ),a,b,c,d,e,f]/\jt top c6 left right ws dR/\(∀p∈dR,p.1<i)/\dR.length<=i) ⟨[],_,_,_,_,_,_,rfl,⟨by simp,by simp,by simp⟩,by simp,by simp⟩ ?_ ?_
 .unfold dP;walk_at"px";rw[ae];show⟨by ext,by ext,by simpa using h⟩
 .rintro i u hi ⟨dR,a,b,c,d,e,f,rfl,s,lt,ln⟩;unfold dI;walk_at"px";rw[ae];show⟨by ext,by ext,by ext,?_⟩;have m0:0<=(i:Int)%((cells.length:Int)+1):=bJ _ (by ext);have m1:(i:Int)%((cells.length:Int)+1)<(cells.length:Int)+1:=bK _ (by ext);rw[Bz];obtain⟨z,hz,_⟩:=Em (l:=cells++[j]) m0 (by simp;ext);rw[IL];show⟨z,hz,z,_,rfl,by ext,by ext,?_⟩;generalize t7 _ _=one;unfold dS;walk_at"go";obtain⟨o,T,I⟩:=M4 one O;show⟨o,T,?_⟩;unfold dP;walk_at"go";have N:top[i]?=some top[i]:=ah hi;have Q:c6[i]?=some c6[i]:=ah (by ext);have key:∃w:Str,w∈ws/\∀K:D->Prop,K (.str w)->(if one/8%3=0 then ∃x,fK top (i:Int)=some x/\(if (!vV (dO x))=true then ∃x,fK top (i:Int)=some x/\K (dO x) else K (.str o)) else K (.str o)):=by
   by_cases t:one/8%3=0
   .cases hx:top[i] with
    | none=>show⟨o,I,λK k=>by rw[if_pos t];show⟨none,by rw[kZ hi,hx],by simpa[dO,vV] using k⟩⟩
    | some w=>
     show⟨w,pt w (by rw[<-hx];show cv hi),λK k=>?_⟩;rw[if_pos t];show⟨some w,by rw[kZ hi,hx],by simp only[dO,vV,Bool.not_false,aX];show⟨some w,by rw[kZ hi,hx],k⟩⟩
   show⟨o,I,λK k=>by rw[if_neg t];show k⟩
  obtain⟨w,hw,kw⟩:=key;show kw (λd=>o5 _ _ [_,_,_,_,_,_,_,_,_,_,_,.fz d,_,_,_]) ?_;walk_at"go";show⟨top,c6,left,right,w,rfl,v,by ext,GW,R,λm M hm S=>?_⟩;walk_at"go";show nR [top[i],c6[i]] dO dO (λx=>x.isSome) (λW h=>?_) (by simp;ext) (λc t K1 K0 k1 P=>?_) ?_
  .walk_at"px";show⟨_,kZ hi,_,kZ (l:=c6) (by ext),by ext,h⟩
  .walk_at"px";cases c with
   | none=>show P rfl
   | some x=>show k1 rfl
  walk_at"go";have skip:∀(a b c d e f:Sl)(X Y Z:D),∃(g:List (Int×Str))(E C B d' A y:Sl),[Sl.fz (D.lst [D.lst (List.map dO top),D.lst (List.map dO c6),D.lst (List.map D.str left),D.lst (List.map D.str right)]),Sl.fz (D.lst (List.map D.str ws)),Sl.fz (D.lst (List.map D.int cells)),Sl.fz (D.int j),Sl.fz (D.lst (List.map dO top)),Sl.fz (D.lst (List.map dO c6)),Sl.fz (D.lst (List.map D.str left)),Sl.fz (D.lst (List.map D.str right)),Sl.ow (List.map pJ dR),a,b,c,d,e,f]=[Sl.fz (D.lst [D.lst (List.map dO top),D.lst (List.map dO c6),D.lst (List.map D.str left),D.lst (List.map D.str right)]),Sl.fz (D.lst (List.map D.str ws)),Sl.fz (D.lst (List.map D.int cells)),Sl.fz (D.int j),Sl.fz (D.lst (List.map dO top)),Sl.fz (D.lst (List.map dO c6)),Sl.fz (D.lst (List.map D.str left)),Sl.fz (D.lst (List.map D.str right)),Sl.ow (List.map pJ g),E,C,B,d',A,y]/\jt top c6 left right ws g/\(∀p∈g,p.1<((i+1:Nat):Int))/\g.length<=i+1:=
   λa b c d e f _ _ _=>⟨dR,a,b,c,d,e,f,rfl,s,λp r=>by have:=lt p r;ext,by ext⟩
  have H:some w∈[top[i],c6[i]].filter (λx=>x.isSome)↔top[i]=some w\/c6[i]=some w:=by
   simp only[aP,av,bg,cY,Option.isSome_some,and_true];constructor
   .rintro(h | h)
    .exact .inl h.symm
    show .inr h.symm
   rintro(h | h)
   .exact .inl h.symm
   show .inr h.symm
  have J:([top[i],c6[i]].filter (λx=>x.isSome)=[])->top[i]=none/\c6[i]=none:=by
   intro h;rw[List.filter_eq_nil_iff] at h;show⟨by simpa using h top[i] (by simp),by simpa using h c6[i] (by simp)⟩
  generalize [top[i],c6[i]].filter (λx=>x.isSome)=here at H J ⊢;split
  .rename_i c1;split
   .rename_i V;show⟨by ext,fG.mono (n:=1) (by ext) (by intro d hd;show Cy 0 here d hd),fG.mono (n:=1) (by ext) (by intro d hd;cases hd),?_⟩;have fin:(top[i]=none/\c6[i]=none)\/top[i]=some w\/c6[i]=some w->jt top c6 left right ws (dR++[((i:Int),w)]):=λr=>by
     show⟨by simp;ext,?_,?_⟩
     .rw[bx];show⟨s.up,by simp,λa ha b v=>?_⟩;have:b=((i:Int),w):=by simpa using v
      subst this;show lt a ha
     intro p F;rcases au.mp F with h | h
     .exact s.at_ p h
     have:p=((i:Int),w):=by simpa using h
     subst this;show⟨i,rfl,hi,hw,⟨m,M,hm,S,c1,V⟩,?_⟩;rw[N,Q];simpa using r
    have put:(top[i]=none/\c6[i]=none)\/top[i]=some w\/c6[i]=some w->2<=sizeLine/\(List.map pJ dR).length<sizeLine/\∃(g:List (Int×Str))(E C B d' A y:Sl),[Sl.fz (D.lst [D.lst (List.map dO top),D.lst (List.map dO c6),D.lst (List.map D.str left),D.lst (List.map D.str right)]),Sl.fz (D.lst (List.map D.str ws)),Sl.fz (D.lst (List.map D.int cells)),Sl.fz (D.int j),Sl.fz (D.lst (List.map dO top)),Sl.fz (D.lst (List.map dO c6)),Sl.fz (D.lst (List.map D.str left)),Sl.fz (D.lst (List.map D.str right)),Sl.ow (List.map pJ dR++[D.tup [D.int i,D.str w]]),Sl.fz (D.int i),Sl.fz (D.int one),Sl.fz (D.str w),Sl.fz (D.int m),Sl.fz (D.int M),Sl.fz (D.lst (here.map dO))]=[Sl.fz (D.lst [D.lst (List.map dO top),D.lst (List.map dO c6),D.lst (List.map D.str left),D.lst (List.map D.str right)]),Sl.fz (D.lst (List.map D.str ws)),Sl.fz (D.lst (List.map D.int cells)),Sl.fz (D.int j),Sl.fz (D.lst (List.map dO top)),Sl.fz (D.lst (List.map dO c6)),Sl.fz (D.lst (List.map D.str left)),Sl.fz (D.lst (List.map D.str right)),Sl.ow (List.map pJ g),E,C,B,d',A,y]/\jt top c6 left right ws g/\(∀p∈g,p.1<((i+1:Nat):Int))/\g.length<=i+1:=λr=>by
     show⟨by ext,by simp;ext,dR++[((i:Int),w)],_,_,_,_,_,_,by rw[aE];rfl,fin r,?_,by simp;ext⟩;intro p F;rcases au.mp F with h | h
     .have:=lt p h;ext
     have:p=((i:Int),w):=by simpa using h
     subst this;show(i:Int)<_;ext
    by_cases ce:here=[]
    .simp only[ce,bV,fk,n8,aX];split
     .have:=put (.inl (J ce));rw[ce] at this;show this
     have:=skip (.fz (D.int i)) (.fz (D.int one)) (.fz (D.str w)) (.fz (D.int m)) (.fz (D.int M)) (.fz (D.lst [])) .non .non .non;show this
    have U:fk (D.lst (here.map dO)) (D.lst [])=false:=by
     simp only[fk,QC];cases here with
     | nil=>show absurd rfl ce
     | cons=>rfl
    simp only[U,aq,aR];show⟨Cy 8 here,?_⟩;rw[Ie];simp only[ba];split
    .rename_i L;split
     .exact put (.inr (H.mp L))
     show skip _ _ _ _ _ _ .non .non .non
    show skip _ _ _ _ _ _ .non .non .non
   show skip _ _ _ _ _ _ .non .non .non
  show skip _ _ _ _ _ _ .non .non .non
 rintro u ⟨dR,a,b,c,d,e,f,rfl,s,lt,ln⟩;walk_at"go";show q dR s
def nB(W:Nat)(keeps:List (Int×Int×Int)):Prop:=keeps.length<=6/\∀p∈keeps,0<=p.1/\p.1<=p.2.1/\p.2.1<W/\1<=p.2.2/\p.2.2<=3
def zV:fv:=λds Q=>∃(W:Nat)(cells:List Int)(a:Int),ds=[.int W,dI cells,.int a]/\1<=W/\W<=40/\∀keeps,nB W keeps->Q (.ow (keeps.map Bn))
def Fi:TX:=(dG (jJ 3 (gF dn))
 (dG (i9 (vb (df (oP (cZ 1) pE (m9 (dC (.int 6)))) dn)) (ju 2 (ff (eD 4) (ff (eD 5) iJ))) (dG (e8 6 (fT 2 rD (df (dg fE (cZ 5) (cZ 2)) (df (dg fE (cZ 4) (dC (.int 300))) dn))))
 (dG (e8 7 (dg (oI (λ_ j=>0<j) λi j=>.int (i%j)) (cZ 6) (cZ 0)))
 (fU (eG (dg oEq (dg (oI (λ_ j=>0<j) λi j=>.int (i%j)) (dg (oI kO λi j=>.int (i/j)) (cZ 6) (dC (.int 64))) (dC (.int 4))) (dC (.int 0)))) (jP 3 (kz (df (cZ 7) (df (dg fE (cZ 7) (dg (oI (λ_ j=>0<j) λi j=>.int (i%j)) (dg (oI kO λi j=>.int (i/j)) (cZ 6) (dC (.int 256))) (dg (hV λi j=>.int (i-j)) (cZ 0) (cZ 7)))) (df (dg fE (dC (.int 1)) (dg (oI (λ_ j=>0<j) λi j=>.int (i%j)) (dg (oI kO λi j=>.int (i/j)) (cZ 6) (dC (.int 1024))) (dC (.int 3)))) dn))))) fY))))
 (pY 3)))
theorem U2:iH 3 zV Fi ["_law_width","_law_cells","_law_seed","_law_keeps_here","_law_k","_law_cell","_law_one","_law_first"]:=by
 intro ds u hl h;obtain⟨W,cells,f,rfl,s,t,q⟩:=h;show Fi _ [.fz (.int W),.fz (dI cells),.fz (.int f),.un,.un,.un,.un,.un];unfold Fi dI;have big:=i8;walk_at"px";show⟨by ext,?_⟩;walk_at"go";show EN (cells.take 6) D.int (λv h=>?_) (λi g=>∃(keeps:List (Int×Int×Int))(a b c d:Sl),g=[.fz (.int W),.fz (D.lst (List.map D.int cells)),.fz (.int f),.ow (keeps.map Bn),a,b,c,d]/\keeps.length<=i/\∀p∈keeps,0<=p.1/\p.1<=p.2.1/\p.2.1<W/\1<=p.2.2/\p.2.2<=3) ⟨[],_,_,_,_,rfl,by simp,by simp⟩ ?_ ?_
 .walk_at"px";rw[El _ (by decide)];show h
 .rintro i x g hx ⟨keeps,a,b,c,d,rfl,j,e⟩;have hi:i<6:=by
   have:=(ar.mp hx).1;simp at this;ext
  walk_at"px";show⟨x+f,(i:Int)+300,rfl,by ext,by ext,?_⟩;have n0:=N3 (x+f) ((i:Int)+300);generalize t7 _ _=one at n0 ⊢;walk_at"go";have f0:0<=one%(W:Int):=bJ _ (by ext);have f1:one%(W:Int)<W:=bK _ (by ext);show⟨by ext,?_⟩;generalize one%(W:Int)=fst at f0 f1 ⊢;walk_at"go";have r:0<=one/256%((W:Int)-fst):=bJ _ (by ext);have g1:one/256%((W:Int)-fst)<(W:Int)-fst:=bK _ (by ext);have n:0<=one/1024%3:=bJ _ (by ext);have k1:one/1024%3<3:=bK _ (by ext);generalize one/256%((W:Int)-fst)=sp at r g1 ⊢;generalize one/1024%3=m at n k1 ⊢;split
  .refine⟨by ext,by ext,by simp;ext,keeps++[(fst,fst+sp,1+m)],_,_,_,_,by rw[aE];rfl,by simp;ext,λp o=>?_⟩;rcases au.mp o with h | h
   .exact e p h
   have:p=(fst,fst+sp,1+m):=by simpa using h
   subst this;show⟨f0,?_,?_,?_,?_⟩<;>dsimp only<;>ext
  show⟨keeps,_,_,_,_,rfl,by ext,e⟩
 rintro g ⟨keeps,a,b,c,d,rfl,j,e⟩;walk_at"go";show q keeps ⟨?_,e⟩;rw[aT] at j;ext
def yh:fv:=λds Q=>∃(ws:List Str)(bits:Int),ds=[dS ws,.int bits]/\ws.length=8/\ws.Nodup/\∀l:List Str,l.length<=8->l.Nodup->(∀w∈l,w∈ws)->sortedS l=true->Q (.ow (l.map .str))
def Fy:TX:=(dG (fU (eG (dg oEq (dg (oI (λ_ j=>0<j) λi j=>.int (i%j)) (dg (oI kO λi j=>.int (i/j)) (cZ 1) (dC (.int 256))) (dC (.int 2))) (dC (.int 0)))) (gk (gF dn)) fY)
 (gk (fb wj (df (gr (mD (df (dC (.int 8)) dn)) [none,some 0,some 1] (eD 0) (eG (dg oEq (dg (oI (λ_ j=>0<j) λi j=>.int (i%j)) (dg (oI kO λi j=>.int (i/j)) (cZ 2) (dg eF (gF (df (dC (.int 1)) (df (dC (.int 2)) (df (dC (.int 4)) (df (dC (.int 8)) (df (dC (.int 16)) (df (dC (.int 32)) (df (dC (.int 64)) (df (dC (.int 128)) dn))))))))) (cZ 0))) (dC (.int 2))) (dC (.int 1)))) (dg eF (cZ 1) (cZ 0))) dn))))
theorem PY(k:Nat)(h:k<8):fK ([1,2,4,8,16,32,64,128]:List Int) (k:Int)=some ((2:Int) ^ k):=by
 have:∀k:Fin 8,fK ([1,2,4,8,16,32,64,128]:List Int) (k.val:Int)=some ((2:Int) ^ k.val):=by decide +kernel
 show this ⟨k,h⟩
theorem NZ(k:Nat)(h:k<8):0<(2:Int) ^ k/\(2:Int) ^ k<1073741824:=by
 have:∀k:Fin 8,0<(2:Int) ^ k.val/\(2:Int) ^ k.val<1073741824:=by decide +kernel
 show this ⟨k,h⟩
theorem Tu{a:Type}(ws:List a)(d:a):(List.range ws.length).map (λk=>ws.getD k d)=ws:=by
 apply List.ext_getElem
 .simp
 intro i c b;simp[b]
theorem VA:iH 2 yh Fy ["_law_words","_law_bits"]:=by
 intro ds r hl h;obtain⟨ws,bits,rfl,f,nd,q⟩:=h;show Fy _ [.fz (dS ws),.fz (.int bits)];unfold Fy dS;have big:=i8;walk_at"px";split
 .exact⟨by ext,q [] (by simp) (by simp) (by simp) rfl⟩
 walk_at"go";show nR (List.range 8) (λ(i:Nat)=>.int (0+i)) (λk=>.str (ws.getD k "")) (λk=>decide (bits/2 ^ k%2=1)) (λs h=>?_) (by simp;ext) (λc o t u k1 m=>?_) ?_
 .walk_at"px";show h
 .have g:c<8:=by simpa using o
  rw[Int.zero_add];walk_at"px";show⟨by ext,D.int (2 ^ c),?_,?_⟩
  .have:=congrArg (Option.map D.int) (PY c g);rw[<-Cm] at this;show this
  walk_at"px";show⟨NZ c g,?_⟩;by_cases b:bits/2 ^ c%2=1
  .simp only[b,fk,beq_self_eq_true,aX];show⟨ws[c],kZ (by ext),?_⟩;have:=k1 (by simpa using b);rwa [show ws.getD c ""=ws[c] by simp[show c<ws.length by ext]] at this
  rw[if_neg b];show m (by simpa using b)
 have e:∀L:List Nat,(L.map λk=>D.str (ws.getD k ""))=(L.map λk=>ws.getD k "").map D.str:=λL=>by simp
 show wj [D.lst _] _;rw[e];have sub:List.Sublist (((List.range 8).filter λk=>decide (bits/2 ^ k%2=1)).map λk=>ws.getD k "") ws:=by
  have:=List.Sublist.map (λk=>ws.getD k "") (List.filter_sublist (p:=λk=>decide (bits/2 ^ k%2=1)) (l:=List.range 8));rwa [<-f,Tu,f] at this
 generalize (((List.range 8).filter λk=>decide (bits/2 ^ k%2=1)).map λk=>ws.getD k "")=ss at sub ⊢;unfold wj;simp only[wy];have hle:=sub.length_le;show⟨by ext,λj d n=>q j (by rw[d.length_eq];ext) (d.nodup_iff.mpr (sub.nodup nd)) (λw hw=>sub.subset (d.subset hw)) n⟩
noncomputable def jQ(a:List Str):Option Str->Option Str
 | none=>none
 | some w=>if w∈a then none else some w
theorem Nd(x:Option Str)(l:List Str):inD (dO x) (l.map .str)=(match x with | none=>false | some w=>decide (w∈l)):=by
 cases x with
 | none=>
  unfold inD;rw[List.any_map];induction l with
  | nil=>rfl
  | cons a r b=>rw[cA,b];simp[dO,fk]
 | some w=>show xN w l
theorem Lr(b:List Str)(w:Str)(l:List (Option Str)):(l.map (jQ b)).count (some w)=if w∈b then 0 else l.count (some w):=by
 induction l with
 | nil=>simp
 | cons a r c=>
  rw[ax,List.count_cons,c,List.count_cons];cases a with
  | none=>simp[jQ]
  | some v=>
   unfold jQ;by_cases h:v∈b
   .by_cases hw:w∈b
    .simp[h,hw]
    have:v≠w:=λz=>hw (z▸h)
    simp[h,hw,this]
   by_cases hw:w∈b
   .have:v≠w:=λz=>h (z▸hw)
    simp[h,hw,this]
   simp[h,hw]
theorem Ld(a:List Str)(w:Str)(l:List Str):(l.filter λx=>decide (x∉a)).count w=if w∈a then 0 else l.count w:=by
 by_cases hw:w∈a
 .rw[if_pos hw,bT];intro h;rw[aP] at h;simpa[hw] using h.2
 rw[if_neg hw,List.count_filter];simpa using hw
theorem CK{ws b:List Str}{l:List (Option Str)}(h:ic ws l):ic ws (l.map (jQ b)):=λw hw=>by
 rw[aN] at hw;obtain⟨x,hx,e⟩:=hw;cases x with
 | none=>cases e
 | some v=>
  by_cases a:v∈b
  .simp[jQ,a] at e
  simp[jQ,a] at e;subst e;show h _ hx
theorem PV{ws:List Str}{top c6:List (Option Str)}{left right:List Str}(pt:ic ws top)(pb:ic ws c6)(lf:∀w∈left,w∈ws)(rt:∀w∈right,w∈ws){w:Str}(h:w∉ws):fZ top c6 left right w=0:=by
 unfold fZ;rw[bT.mpr λz=>h (pt w z),bT.mpr λz=>h (pb w z),bT.mpr λz=>h (lf w z),bT.mpr λz=>h (rt w z)]
theorem Lc{ws:List Str}{top c6:List (Option Str)}{left right:List Str}(pt:ic ws top)(pb:ic ws c6)(lf:∀w∈left,w∈ws)(rt:∀w∈right,w∈ws)(a:List Str)(c:a=ws.filter λw=>decide (fZ top c6 left right w=1))(w:Str) :
  fZ (top.map (jQ a)) (c6.map (jQ a)) (left.filter λx=>decide (x∉a)) (right.filter λx=>decide (x∉a)) w≠1:=by
 have e:fZ (top.map (jQ a)) (c6.map (jQ a)) (left.filter λx=>decide (x∉a)) (right.filter λx=>decide (x∉a)) w=if w∈a then 0 else fZ top c6 left right w:=by
  unfold fZ;rw[Lr,Lr,Ld,Ld];split<;>simp
 rw[e];by_cases h:w∈a
 .rw[if_pos h];decide
 rw[if_neg h];by_cases b:w∈ws
 .intro z;apply h;rw[c,aP];show⟨b,by simpa using z⟩
 rw[PV pt pb lf rt b];decide
structure fO(ws:List Str)(most:Nat)(c:dX):Prop where
 w1:1<=c.top.length
 w2:c.top.length<=most
 bl:c.c6.length=c.top.length
 pt:ic ws c.top
 pb:ic ws c.c6
 ll:c.left.length<=8
 lw:∀w∈c.left,w∈ws
 lo:c.left.Pairwise nh
 rl:c.right.length<=8
 rw_:∀w∈c.right,w∈ws
 ro:c.right.Pairwise nh
 cnt:∀w,fZ c.top c.c6 c.left c.right w≠1
 wl:c.wide.length<=8
 wo:(c.wide.map (·.1)).Pairwise nh
 ww:∀p∈c.wide,p.1∈ws/\(p.2=2\/p.2=3)/\1<fZ c.top c.c6 c.left c.right p.1
 be:jt c.top c.c6 c.left c.right ws c.dR
 ke:nB c.top.length c.keeps
def zP:fv:=λds Q=>∃(ns:List Int)(most:Nat),ds=[dI ns,.int most]/\ns.length<=1000/\1<=most/\most<=40/\∀c,fO (zev (yC ns)) most c->Q (.ow c.parts)
theorem B7(b:List Str)(l:List (Option Str))(j k:Nat)(f:Ev)(Q:R->Prop)(hl:l.length<=100)(p:gt f j=.fz (.lst (l.map dO)))(o:gt f k=.fz (.lst (b.map .str)))(i:Q (.ow ((l.map (jQ b)).map dO))) :
  gr (g9 (cZ j)) [none,some k] (eD 0) jU (uQ (eG (dg (kX false) (cZ 0) (cZ 1))) (dC D.non) (cZ 0)) f Q:=by
 have big:=i8;show oj l dO (λx=>dO (jQ b x)) (λq h=>?_) (by ext) (λx hx n k=>?_) ?_
 .simp only[g9,cZ,p];show h
 .simp only[iG,ax,bV,qZ,o];walk_at"px";have d:fG 8 (dO x)/\(∀e∈b.map D.str,fG 8 e):=⟨by rw[xQ];trivial,uh 8 b⟩
  have m:if inD (dO x) (b.map D.str)=true then n D.non else n (dO x):=by
   rw[Nd];cases x with
   | none=>simpa[jQ] using k
   | some v=>
    by_cases g:v∈b
    .simpa[jQ,g,dO] using k
    simpa[jQ,g,dO] using k
  cases x with
  | none=>show⟨d.1,d.2,m⟩
  | some v=>show⟨d.1,d.2,m⟩
 rw[aU] at i;show i
theorem Cu(b l:List Str)(j k:Nat)(e:Ev)(Q:R->Prop)(hl:l.length<=100)(m:gt e j=.fz (.lst (l.map .str)))(i:gt e k=.fz (.lst (b.map .str)))(g:Q (.ow ((l.filter λx=>decide (x∉b)).map D.str))) :
  gr (g9 (cZ j)) [none,some k] (eD 0) (eG (dg (kX true) (cZ 0) (cZ 1))) (cZ 0) e Q:=by
 have big:=i8;show nR l D.str D.str (λx=>decide (x∉b)) (λn h=>?_) (by ext) (λx hx o p k1 f=>?_) g
 .simp only[g9,cZ,m];show h
 simp only[iG,ax,bV,qZ,i];walk_at"px";show⟨uh 8 b,?_⟩;rw[xN];by_cases d:x∈b
 .simpa[d] using f (by simpa using d)
 simpa[d] using k1 (by simpa using d)
def FN:TX:=(dG (e8 2 (dg (oI (λ_ j=>0<j) λi j=>.int (i%j)) (dg (oI gq λi j=>.int (i*j)) (dg (oI (λ_ j=>0<j) λi j=>.int (i%j)) (fb vN (df (oP (cZ 0) pE (m9 (dC (.int 1)))) dn)) (dg (oI rZ λi j=>.int (i ^ j.toNat)) (dC (.int 10)) (dC (.int 30)))) (dC (.int 40014))) (dC (.int 2147483563))))
 (dG (e8 3 (fT 1 zX (df (fb vN (df (oP (cZ 0) pE (m9 (dC (.int 1)))) dn)) dn)))
 (dG (e8 4 (dg fE (dC (.int 1)) (dg (oI (λ_ j=>0<j) λi j=>.int (i%j)) (cZ 2) (cZ 1))))
 (dG (e8 5 (oP (cZ 0) (m9 (dC (.int 1))) pE))
 (dG (xG (fT 4 zE (df (cZ 3) (df (cZ 5) (df (cZ 2) (df (cZ 4) dn))))) (ju 2 (ff (eD 6) (ff (eD 7) iJ))))
 (dG (e8 8 (fT 2 rD (df (fb vN (df (oP (cZ 0) (m9 (dC (.int 1))) (m9 (dC (.int 2)))) dn)) (df (dg fE (dC (.int 400)) (dg (oI (λ_ j=>0<j) λi j=>.int (i%j)) (cZ 2) (dC (.int 7)))) dn))))
 (dG (e8 9 (fT 2 yh (df (cZ 3) (df (cZ 8) dn))))
 (dG (e8 10 (fT 2 yh (df (cZ 3) (df (dg (oI kO λi j=>.int (i/j)) (cZ 8) (dC (.int 512))) dn))))
 (dG (e8 11 (gr (g9 (cZ 3)) [none,some 6,some 7,some 9,some 10] (eD 0) (eG (dg oEq (fT 5 vj (df (cZ 1) (df (cZ 2) (df (cZ 3) (df (cZ 4) (df (cZ 0) dn)))))) (dC (.int 1)))) (cZ 0)))
 (dG (e8 6 (gr (g9 (cZ 6)) [none,some 11] (eD 0) jU (uQ (eG (dg (kX false) (cZ 0) (cZ 1))) (dC .non) (cZ 0))))
 (dG (e8 7 (gr (g9 (cZ 7)) [none,some 11] (eD 0) jU (uQ (eG (dg (kX false) (cZ 0) (cZ 1))) (dC .non) (cZ 0))))
 (dG (e8 9 (gr (g9 (cZ 9)) [none,some 11] (eD 0) (eG (dg (kX true) (cZ 0) (cZ 1))) (cZ 0)))
 (dG (e8 10 (gr (g9 (cZ 10)) [none,some 11] (eD 0) (eG (dg (kX true) (cZ 0) (cZ 1))) (cZ 0)))
 (dG (jJ 12 (gF dn))
 (dG (i9 (vb (df (fb wj (df (cZ 3) dn)) dn)) (ju 2 (ff (eD 13) (ff (eD 14) iJ))) (dG (e8 15 (fT 2 rD (df (dg fE (cZ 2) (cZ 13)) (df (dC (.int 500)) dn))))
 (fU (my (eG (dg oEq (dg (oI (λ_ j=>0<j) λi j=>.int (i%j)) (cZ 15) (dC (.int 4))) (dC (.int 0)))) (eG (dg (hV λi j=>.bl (decide (j<i))) (fT 5 vj (df (cZ 6) (df (cZ 7) (df (cZ 9) (df (cZ 10) (df (cZ 14) dn)))))) (dC (.int 1))))) (jP 12 (kz (df (cZ 14) (df (dg fE (dC (.int 2)) (dg (oI (λ_ j=>0<j) λi j=>.int (i%j)) (dg (oI kO λi j=>.int (i/j)) (cZ 15) (dC (.int 4))) (dC (.int 2)))) dn)))) fY)))
 (dG (e8 16 (fT 4 zW (df (gF (df (cZ 6) (df (cZ 7) (df (cZ 9) (df (cZ 10) dn))))) (df (cZ 3) (df (cZ 5) (df (cZ 2) dn))))))
 (dG (e8 17 (gF dn))
 (dG (fU (eG (dg oEq (dg (oI (λ_ j=>0<j) λi j=>.int (i%j)) (dg (oI kO λi j=>.int (i/j)) (cZ 2) (dC (.int 97))) (dC (.int 3))) (dC (.int 0)))) (e8 17 (fT 3 zV (df (cZ 4) (df (cZ 5) (df (cZ 2) dn))))) fY)
 (o9 12 (gk (gF (df (cZ 6) (df (cZ 7) (df (cZ 9) (df (cZ 10) (df (cZ 12) (df (cZ 16) (df (cZ 17) dn))))))))))))))))))))))))))))
theorem V6:iH 2 zP FN ["_law_script","_law_most","_law_seed","_law_words","_law_width","_law_cells","_law_top","_law_bottom","_law_bits","_law_left","_law_right","_law_lone","_law_wide","_law_k","_law_word","_law_one","_law_bends_here","_law_keeps_here"]:=by
 intro ds Qr hl h;obtain⟨ns,most,rfl,hn,hm,mM,q⟩:=h;show FN _ [.fz (dI ns),.fz (.int most),.un,.un,.un,.un,.un,.un,.un,.un,.un,.un,.un,.un,.un,.un,.un,.un];unfold FN dI;have big:=i8;walk_at"px";generalize v:((lE ns none (some 1)).sum%1000000000000000000000000000000*40014)%2147483563=e;have s0:0<=e:=by rw[<-v];show bJ _ (by decide)
 clear v;walk_at"go";show⟨_,rfl,?_⟩;rw[El _ (by decide)];have hw:=Kv (yC ns);change o5 _ _ [_,_,_,.fz (.lst ((zev (yC ns)).map .str)),_,_,_,_,_,_,_,_,_,_,_,_,_,_];generalize zev (yC ns)=ws at hw q ⊢;walk_at"go";show⟨by ext,?_⟩;have m0:0<=e%(most:Int):=bJ _ (by ext);have m1:e%(most:Int)<most:=bK _ (by ext);obtain⟨W,K⟩:∃W:Nat,1+e%(most:Int)=W:=⟨(1+e%(most:Int)).toNat,by ext⟩
 rw[K];walk_at"go";rw[EO _ (by decide)];walk_at"go";show⟨ws,ns.drop 1,e,W,rfl,hw.1,by ext,λtop c6 I J pt pb=>?_⟩;walk_at"px";walk_at"go";show⟨_,_,rfl,by have:=bJ e (show(7:Int)≠0 by decide);ext,by have:=bK e (show(0:Int)<7 by decide);ext,?_⟩;generalize t7 _ _=bits;walk_at"go";show⟨ws,bits,rfl,hw.1,hw.2,λleft Q S A T=>?_⟩;walk_at"go";show⟨ws,_,rfl,hw.1,hw.2,λright V X z Y=>?_⟩;walk_at"go";show nR ws D.str D.str (λw=>decide (fZ top c6 left right w=1)) (λQ' h=>?_) (by have:=hw.1;ext) (λw _ K1 K0 k1 H=>?_) ?_
 .walk_at"px";show h
 .walk_at"px";show⟨top,c6,left,right,w,rfl,by ext,?_⟩;walk_at"px";by_cases t:fZ top c6 left right w=1
  .rw[if_pos (by ext)];show k1 (by simpa using t)
  rw[if_neg (by ext)];show H (by simpa using t)
 generalize y:ws.filter (λw=>decide (fZ top c6 left right w=1))=d;have C:=Lc pt pb A z d y.symm;have Mx:d.length<=8:=by rw[<-y];have:=a9 (λw=>decide (fZ top c6 left right w=1)) ws;have:=hw.1;ext
 walk_at"go";show B7 d top 6 11 _ _ (by ext) rfl rfl ?_;walk_at"go";show B7 d c6 7 11 _ _ (by ext) rfl rfl ?_;walk_at"go";show Cu d left 9 11 _ _ (by ext) rfl rfl ?_;walk_at"go";show Cu d right 10 11 _ _ (by ext) rfl rfl ?_;have B:ic ws (top.map (jQ d)):=CK pt;have E:ic ws (c6.map (jQ d)):=CK pb;have L:(top.map (jQ d)).length=W:=by simpa using I
 have rL:(c6.map (jQ d)).length=W:=by simpa using J
 have Gm:(left.filter λx=>decide (x∉d)).Pairwise nh:=(EM T S).sublist List.filter_sublist;have Ga:(right.filter λx=>decide (x∉d)).Pairwise nh:=(EM Y X).sublist List.filter_sublist;have Gk:∀w∈(left.filter λx=>decide (x∉d)),w∈ws:=λw h=>A w (aP.mp h).1
 have F:∀w∈(right.filter λx=>decide (x∉d)),w∈ws:=λw h=>z w (aP.mp h).1
 have Gn:(left.filter λx=>decide (x∉d)).length<=8:=aM (a9 _ _) Q;have Gb:(right.filter λx=>decide (x∉d)).length<=8:=aM (a9 _ _) V;generalize top.map (jQ d)=f at *;generalize c6.map (jQ d)=j at *;generalize (left.filter λx=>decide (x∉d))=g at *;generalize (right.filter λx=>decide (x∉d))=right' at *;walk_at"go";show⟨by ext,?_⟩;walk_at"go";show Cw (λds=>∃ss:List Str,ss.Perm ws/\sortedS ss=true/\ds=pX (ss.map .str)) (λQ' h=>?_) ?_
 .walk_at"px";simp only[wj,wy];show⟨by have:=hw.1;ext,λss m s=>?_⟩;walk_at"px";show h _ ⟨ss,m,s,rfl⟩
 rintro _ ⟨ss,m,s,rfl⟩;have YH:ss.length=8:=by rw[m.length_eq];show hw.1
 have Z:ss.Pairwise nh:=EM s (m.nodup_iff.mpr hw.2);show Tv ss D.str (λi n=>∃(wide:List (Str×Int))(a b c:Sl),n=[.fz (D.lst (List.map D.int ns)),.fz (D.int most),.fz (D.int e),.fz (D.lst (List.map D.str ws)),.fz (D.int W),.fz (D.lst (List.map D.int (List.drop 1 ns))),.fz (D.lst (f.map dO)),.fz (D.lst (j.map dO)),.fz (D.int bits),.fz (D.lst (g.map D.str)),.fz (D.lst (right'.map D.str)),.fz (D.lst (d.map D.str)),.ow (wide.map uO),a,b,c,.un,.un]/\List.Sublist (wide.map (·.1)) (ss.take i)/\(∀p∈wide,(p.2=2\/p.2=3)/\1<fZ f j g right' p.1)) ⟨[],_,_,_,rfl,by simp,by simp⟩ ?_ ?_
 .rintro i x n hx ⟨wide,a,b,c,rfl,sub,wo⟩;have hi:i<8:=by have:=(ar.mp hx).1;ext
  have tk:ss.take (i+1)=ss.take i++[x]:=by rw[br,hx];rfl
  have u:wide.length<=8:=by have:=sub.length_le;simp at this;ext
  walk_at"px";show⟨_,_,rfl,by ext,by ext,?_⟩;generalize t7 _ _=one;walk_at"go";have skip:∃(o:List (Str×Int))(P O M:Sl),[Sl.fz (D.lst (List.map D.int ns)),.fz (D.int most),.fz (D.int e),.fz (D.lst (List.map D.str ws)),.fz (D.int W),.fz (D.lst (List.map D.int (List.drop 1 ns))),.fz (D.lst (f.map dO)),.fz (D.lst (j.map dO)),.fz (D.int bits),.fz (D.lst (g.map D.str)),.fz (D.lst (right'.map D.str)),.fz (D.lst (d.map D.str)),.ow (wide.map uO),.fz (D.int i),.fz (D.str x),.fz (D.int one),.un,.un]=[Sl.fz (D.lst (List.map D.int ns)),.fz (D.int most),.fz (D.int e),.fz (D.lst (List.map D.str ws)),.fz (D.int W),.fz (D.lst (List.map D.int (List.drop 1 ns))),.fz (D.lst (f.map dO)),.fz (D.lst (j.map dO)),.fz (D.int bits),.fz (D.lst (g.map D.str)),.fz (D.lst (right'.map D.str)),.fz (D.lst (d.map D.str)),.ow (o.map uO),P,O,M,.un,.un]/\List.Sublist (o.map (·.1)) (ss.take (i+1))/\(∀p∈o,(p.2=2\/p.2=3)/\1<fZ f j g right' p.1):=
   ⟨wide,_,_,_,rfl,by rw[tk];show sub.trans (List.sublist_append_left _ _),wo⟩
  split
  .refine⟨f,j,g,right',x,rfl,by ext,?_⟩;walk_at"px";split
   .rename_i t;have e2:one/4%2=0\/one/4%2=1:=by ext
    show⟨by ext,by simp;ext,wide++[(x,2+one/4%2)],_,_,_,by rw[aE];rfl,?_,λp m=>?_⟩
    .rw[tk,aE];show sub.append (List.Sublist.refl _)
    rcases au.mp m with h | h
    .exact wo p h
    have:p=(x,2+one/4%2):=by simpa using h
    subst this;show⟨by dsimp only;ext,by dsimp only;ext⟩
   show skip
  show skip
 rintro n ⟨wide,a,b,c,rfl,sub,wo⟩;rw[bH] at sub;have u:wide.length<=8:=by have:=sub.length_le;simp at this;ext
 have U:(wide.map (·.1)).Pairwise nh:=Z.sublist sub;have ww:∀p∈wide,p.1∈ws/\(p.2=2\/p.2=3)/\1<fZ f j g right' p.1:=λp h=>⟨m.subset (sub.subset (bP h)),wo p h⟩
 walk_at"go";show⟨by ext,f,j,g,right',ws,ns.drop 1,e,rfl,by ext,by ext,by ext,by ext,hw.1,B,by simp;ext,λdR N=>?_⟩;walk_at"go";show⟨by ext,?_⟩;have fin:∀keeps,nB W keeps->Qr (R.ow [dP f,dP j,dS g,dS right',dW wide,dB dR,dK keeps]):=λkeeps r=>q ⟨f,j,g,right',wide,dR,keeps⟩ ⟨by dsimp only;ext,by dsimp only;ext,by dsimp only;ext,B,E,Gn,Gk,Gm,Gb,F,Ga,C,u,U,ww,N,by dsimp only;rw[L];show r⟩
 walk_at"go";split
 .refine⟨W,ns.drop 1,e,rfl,by ext,by ext,λkeeps r=>?_⟩;walk_at"go";show⟨by ext,fin keeps r⟩
 walk_at"go";show⟨by ext,fin [] ⟨by simp,by simp⟩⟩
def zJ:fv:=λds Q=>∃a b c d e f g:List D,ds=[.lst a,.lst b,.lst c,.lst d,.lst e,.lst f,.lst g]/\Q (.fz (.obj "Channel" [("top",.lst a),("bottom",.lst b),("left",.lst c),("right",.lst d),("wide",.lst e),("bends",.lst f),("keeps",.lst g)]))
def CH:vH:=(o7 "top" (fb nO (df (cZ 1) dn)) (o7 "bottom" (fb nO (df (cZ 2) dn)) (o7 "left" (fb nO (df (cZ 3) dn)) (o7 "right" (fb nO (df (cZ 4) dn)) (o7 "wide" (fb nO (df (cZ 5) dn)) (o7 "bends" (fb nO (df (cZ 6) dn)) (o7 "keeps" (fb nO (df (cZ 7) dn)) yQ)))))))
theorem Ub(ds:List D)(i:R->Prop)(j:List (Str×D)->Prop)(na:∀fs:List (Str×D),fs.map (·.1)=(["top","bottom","left","right","wide","bends","keeps"]:List Str)->j fs)(h:zJ ds i) :
  CH (ue ["self","top","bottom","left","right","wide","bends","keeps"] ds) [] λfs=>j fs/\i (.fz (.obj "Channel" fs)):=by
 obtain⟨a,b,c,d,e,f,g,rfl,q⟩:=h;show CH [.un,.fz (.lst a),.fz (.lst b),.fz (.lst c),.fz (.lst d),.fz (.lst e),.fz (.lst f),.fz (.lst g)] [] _;unfold CH;simp only[o7,yQ,fb,df,dn,cZ,gt,nO,xR,ve];show⟨by decide,show 1<1000 by decide,show 2<1000 by decide,show 3<1000 by decide,show 4<1000 by decide,show 5<1000 by decide,show 6<1000 by decide,na _ rfl,q⟩
end Wc
open PySem L2 PyProof.Rows Wc
local macro_rules | `(tactic| walk_at"px")=>`(tactic| (repeat(first | walk_at"b" | simp only[zK,Le,B0,xQ,xN,Ie,rY,u5,Ic,IK,B6,BN,yS,u4,Nm,vQ,uc,pY,ud,DV,Cp,B5,Ih,nZ,o8,u7,yn,DL,yR,xO,vc])))
namespace Wc
open PySem L2 PyProof.Rows
inductive En where
 | lf | tp (n:Nat) | bt (n:Nat) | rt
noncomputable def dE:En->D
 | .lf=>.tup [.str "left"]
 | .tp n=>.tup [.str "top",.int n]
 | .bt n=>.tup [.str "bottom",.int n]
 | .rt=>.tup [.str "right"]
noncomputable def rj(c:dX)(w:Str)(n:Nat):List En:=(if c.top[n]?=some (some w) then [.tp n] else [])++(if c.c6[n]?=some (some w) then [.bt n] else [])
noncomputable def r8(c:dX)(w:Str):List En:=(if w∈c.left then [.lf] else [])++(List.range c.top.length).flatMap (rj c w)++(if w∈c.right then [.rt] else [])
theorem Tt(c:dX)(w:Str)(n:Nat):(rj c w n).length<=2:=by unfold rj;split<;>split<;>simp
theorem Es(c:dX)(w:Str)(i:Nat):((List.range i).flatMap (rj c w)).length<=2*i:=by
 induction i with
 | zero=>simp
 | succ i a=>
  rw[List.range_succ,List.flatMap_append,aD];have:=Tt c w i;simp only[cU,List.flatMap_nil,aS];ext
structure kI(c:dX):Prop where
 w:c.top.length<=40
 b:c.c6.length=c.top.length
 l:c.left.length<=100
 r:c.right.length<=100
def zI:fv:=λds Q=>∃(c:dX)(w:Str),ds=[c.obj,.str w]/\kI c/\Q (.ow ((r8 c w).map dE))
def EK:TX:=(dG (jJ 2 (gF dn))
 (dG (fU (eG (dg (kX false) (cZ 1) (fi "left" (cZ 0)))) (jP 2 (kz (df (dC (.str "left")) dn))) fY)
 (dG (i9 (mD (df (fb jT (df (fi "top" (cZ 0)) dn)) dn)) (eD 3) (dG (fU (eG (dg oEq (dg eF (fi "top" (cZ 0)) (cZ 3)) (cZ 1))) (jP 2 (kz (df (dC (.str "top")) (df (cZ 3) dn)))) fY)
 (fU (eG (dg oEq (dg eF (fi "bottom" (cZ 0)) (cZ 3)) (cZ 1))) (jP 2 (kz (df (dC (.str "bottom")) (df (cZ 3) dn)))) fY)))
 (dG (fU (eG (dg (kX false) (cZ 1) (fi "right" (cZ 0)))) (jP 2 (kz (df (dC (.str "right")) dn))) fY)
 (pY 2)))))
theorem Ua:iH 2 zI EK ["channel","name","ends","column"]:=by
 intro ds m hl h;obtain⟨c,w,rfl,sh,q⟩:=h;show EK _ [.fz c.obj,.fz (.str w),.un,.un];unfold EK;have big:=i8;unfold dX.obj;walk_at"px";show⟨by ext,?_⟩;walk_at"go";show⟨_,rfl,?_⟩;unfold dS;walk_at"px";show⟨uh 8 _,?_⟩;have obj:D.obj (Str.ofString "Channel") [(Str.ofString "top",dP c.top),(Str.ofString "bottom",dP c.c6),(Str.ofString "left",D.lst (c.left.map D.str)),(Str.ofString "right",D.lst (c.right.map D.str)),(Str.ofString "wide",dW c.wide),(Str.ofString "bends",dB c.dR),(Str.ofString "keeps",dK c.keeps)]=c.obj:=rfl;rw[obj];have nY:∀k:Sl,o5 (dG (i9 (mD (df (fb jT (df (fi "top" (cZ 0)) dn)) dn)) (eD 3) (dG (fU (eG (dg oEq (dg eF (fi "top" (cZ 0)) (cZ 3)) (cZ 1))) (jP 2 (kz (df (dC (.str "top")) (df (cZ 3) dn)))) fY)
 (fU (eG (dg oEq (dg eF (fi "bottom" (cZ 0)) (cZ 3)) (cZ 1))) (jP 2 (kz (df (dC (.str "bottom")) (df (cZ 3) dn)))) fY)))
 (dG (fU (eG (dg (kX false) (cZ 1) (fi "right" (cZ 0)))) (jP 2 (kz (df (dC (.str "right")) dn))) fY)
 (pY 2))) { nx:=λx=>m (R.fz D.non),rt:=m } [.fz c.obj,.fz (.str w),.ow ((if w∈c.left then [En.lf] else []).map dE),k]:=by
  intro k;walk_at"go";show tS c.top.length (λr h=>?_) (λi f=>∃k:Sl,f=[.fz c.obj,.fz (.str w),.ow (((if w∈c.left then [En.lf] else [])++(List.range i).flatMap (rj c w)).map dE),k]) ⟨k,by simp⟩ ?_ ?_
  .unfold dX.obj;walk_at"px";show⟨_,rfl,?_⟩;unfold dP;walk_at"px";rw[ae];have:=sh.w;show⟨by ext,by ext,by simpa using h⟩
  .rintro i f hi ⟨k,rfl⟩;have hle:=Es c w i;have hw:=sh.w;have j:∀(b:Prop)[Decidable b],(if b then [En.lf] else []).length<=1:=λb _=>by split<;>simp
   have o:=j (w∈c.left);rw[List.range_succ,List.flatMap_append,<-bw];generalize g:(if w∈c.left then [En.lf] else [])++(List.range i).flatMap (rj c w)=acc;have p:acc.length<=1000:=by rw[<-g,aD];ext
   simp only[cU,List.flatMap_nil,aS];have n:i<c.c6.length:=by rw[sh.b];show hi
   unfold dX.obj;walk_at"px";show⟨_,rfl,?_⟩;unfold dP;walk_at"px";show⟨_,kZ hi,?_⟩;unfold rj;rw[ah hi,ah n];simp only[aB];split
   focus show⟨by ext,by simp;ext,?_⟩
   all_goals
    walk_at"go";show⟨_,rfl,?_⟩;walk_at"px";show⟨_,kZ n,?_⟩;split
   .exact⟨by ext,by simp;ext,_,by simp[dE];rfl⟩
   .exact⟨_,by simp[dE];rfl⟩
   .exact⟨by ext,by simp;ext,_,by simp[dE];rfl⟩
   show⟨_,by simp;rfl⟩
  rintro f ⟨k,rfl⟩;have hle:=Es c w c.top.length;have hw:=sh.w;have j:∀(b:Prop)[Decidable b],(if b then [En.lf] else []).length<=1:=λb _=>by split<;>simp
  have o:=j (w∈c.left);unfold r8 at q;generalize g:(if w∈c.left then [En.lf] else [])++(List.range c.top.length).flatMap (rj c w)=acc at q ⊢;have p:acc.length<=1000:=by rw[<-g,aD];ext
  unfold dX.obj;walk_at"go";show⟨_,rfl,?_⟩;unfold dS;walk_at"px";show⟨uh 8 _,?_⟩;by_cases d:w∈c.right
  .rw[if_pos d];rw[if_pos d,aE] at q;show⟨by ext,by simp;ext,?_⟩;walk_at"go";show q
  rw[if_neg d];rw[if_neg d,aS] at q;walk_at"go";show q
 by_cases e:w∈c.left
 .rw[if_pos e];show⟨by ext,by ext,?_⟩;have:=nY .un;rw[if_pos e] at this;show this
 rw[if_neg e];have:=nY .un;rw[if_neg e] at this;show this
noncomputable def qX(c:dX):En->Int
 | .lf=>-1
 | .tp n=>n
 | .bt n=>n
 | .rt=>c.top.length
def zD:fv:=λds Q=>∃(c:dX)(e:En),ds=[c.obj,dE e]/\Q (.fz (.int (qX c e)))
def Fx:TX:=(dG (fU (eG (dg oEq (dg eF (cZ 1) (dC (.int 0))) (dC (.str "left")))) (gk (u7 (dC (.int 1)))) fY)
 (dG (fU (eG (dg oEq (dg eF (cZ 1) (dC (.int 0))) (dC (.str "right")))) (gk (fb jT (df (fi "top" (cZ 0)) dn))) fY)
 (gk (dg eF (cZ 1) (dC (.int 1))))))
theorem Vz:iH 2 zD Fx ["channel","end"]:=by
 intro ds b hl h;obtain⟨c,e,rfl,q⟩:=h;show Fx _ [.fz c.obj,.fz (dE e)];unfold Fx;have n1:¬(Str.ofString "top"=Str.ofString "left"):=by decide +kernel
 have n2:¬(Str.ofString "bottom"=Str.ofString "left"):=by decide +kernel
 have n3:¬(Str.ofString "right"=Str.ofString "left"):=by decide +kernel
 have n4:¬(Str.ofString "top"=Str.ofString "right"):=by decide +kernel
 have n5:¬(Str.ofString "bottom"=Str.ofString "right"):=by decide +kernel
 cases e with
 | lf=>
  unfold dE;walk_at"px";show⟨_,rfl,?_⟩;walk_at"px";show q
 | tp n=>
  unfold dE;walk_at"px";show⟨_,rfl,?_⟩;walk_at"px";rw[if_neg n1];walk_at"go";show⟨_,rfl,?_⟩;walk_at"px";rw[if_neg n4];walk_at"go";show⟨_,rfl,q⟩
 | bt n=>
  unfold dE;walk_at"px";show⟨_,rfl,?_⟩;walk_at"px";rw[if_neg n2];walk_at"go";show⟨_,rfl,?_⟩;walk_at"px";rw[if_neg n5];walk_at"go";show⟨_,rfl,q⟩
 | rt=>
  unfold dE;walk_at"px";show⟨_,rfl,?_⟩;walk_at"px";rw[if_neg n3];walk_at"go";show⟨_,rfl,?_⟩;walk_at"px";unfold dX.obj;walk_at"px";show⟨_,rfl,?_⟩;unfold dP;walk_at"px";rw[ae];show q
noncomputable def pl(c:dX)(w:Str):List Int:=
 (if w∈c.left then [-1] else [])++(((List.range c.top.length).filter λn=>c.top[n]?==some (some w)||c.c6[n]?==some (some w)).map λ(n:Nat)=>(n:Int))++(if w∈c.right then [(c.top.length:Int)] else [])
theorem BF(c:dX)(w:Str):(pl c w).Pairwise (·<·):=by
 unfold pl;have e:∀x∈(((List.range c.top.length).filter λn=>c.top[n]?==some (some w)||c.c6[n]?==some (some w)).map λ(n:Nat)=>(n:Int)),0<=x/\x<c.top.length:=by
  intro x hx;rw[aN] at hx;obtain⟨n,g,rfl⟩:=hx;rw[aP,bC] at g;ext
 have f:(((List.range c.top.length).filter λn=>c.top[n]?==some (some w)||c.c6[n]?==some (some w)).map λ(n:Nat)=>(n:Int)).Pairwise (·<·):=by
  rw[List.pairwise_map];show List.Pairwise.imp ?_ (List.Pairwise.filter _ List.pairwise_lt_range);intro a b h;ext
 generalize (((List.range c.top.length).filter λn=>c.top[n]?==some (some w)||c.c6[n]?==some (some w)).map λ(n:Nat)=>(n:Int))=mid at e f;rw[bx,bx];show⟨⟨by split<;>simp,f,λa ha b d=>?_⟩,by split<;>simp,λa ha b d=>?_⟩
 .split at ha
  .have:=e b d;simp at ha;ext
  cases ha
 split at d
 .rcases au.mp ha with ha | ha
  .split at ha
   .simp at ha d;ext
   cases ha
  have:=e a ha;simp at d;ext
 cases d
theorem QB(c:dX)(w:Str)(k:Int):k∈(r8 c w).map (qX c)↔k∈pl c w:=by
 unfold r8 pl;simp only[aE,au];have i:k∈(if w∈c.left then [En.lf] else []).map (qX c)↔k∈(if w∈c.left then [(-1:Int)] else []):=by split<;>simp[qX]
 have f:k∈(if w∈c.right then [En.rt] else []).map (qX c)↔k∈(if w∈c.right then [(c.top.length:Int)] else []):=by split<;>simp[qX]
 rw[i,f];have g:k∈((List.range c.top.length).flatMap (rj c w)).map (qX c)↔k∈(((List.range c.top.length).filter λn=>c.top[n]?==some (some w)||c.c6[n]?==some (some w)).map λ(n:Nat)=>(n:Int)):=by
  simp only[aN,cT,bC,aP,Bool.or_eq_true,beq_iff_eq];constructor
  .rintro⟨e,⟨n,a,he⟩,rfl⟩;unfold rj at he;rcases au.mp he with h | h
   .split at h
    .rename_i b;simp at h;subst h;show⟨n,⟨a,.inl b⟩,rfl⟩
    cases h
   split at h
   .rename_i d;simp at h;subst h;show⟨n,⟨a,.inr d⟩,rfl⟩
   cases h
  rintro⟨n,⟨a,b | d⟩,rfl⟩
  .exact⟨.tp n,⟨n,a,by simp[rj,b]⟩,rfl⟩
  show⟨.bt n,⟨n,a,by simp[rj,d]⟩,rfl⟩
 rw[g]
noncomputable def yM:List Int->D
 | []=>.non
 | a::r=>if a=(a::r).getLast (by simp) then .non else .tup [.int a,.int ((a::r).getLast (by simp))]
def Ab:fv:=λds Q=>∃(c:dX)(w:Str),ds=[c.obj,.str w]/\kI c/\Q (.fz (yM (pl c w)))
def Fh:TX:=(dG (e8 2 (gr (g9 (fT 2 zI (df (cZ 0) (df (cZ 1) dn)))) [none,some 0] (eD 0) jU (fT 2 zD (df (cZ 1) (df (cZ 0) dn)))))
 (dG (fU (eG (dg (hV λi j=>.bl (decide (i<j))) (fb Ca (df (cZ 2) dn)) (dC (.int 2)))) (gk (dC .non)) fY)
 (gk (kz (df (fb o8 (df (cZ 2) dn)) (df (fb nZ (df (cZ 2) dn)) dn))))))
theorem zh{a:Int}{r:List Int}(h:(a::r).Pairwise (·<·)):∀x∈a::r,x<=(a::r).getLast (by simp):=by
 induction r generalizing a with
 | nil=>intro x hx;simp at hx;simp[hx]
 | cons b r c=>
  intro x hx;rw[bN] at h;rw[List.getLast_cons (by simp)];rcases av.mp hx with rfl | hx
  .have:=h.1 b (by simp);have:=c h.2 b (by simp);ext
  show c h.2 x hx
theorem U1:iH 2 Ab Fh ["channel","name","columns"]:=by
 intro ds E hl h;obtain⟨c,w,rfl,sh,q⟩:=h;show Fh _ [.fz c.obj,.fz (.str w),.un];unfold Fh;have big:=i8;walk_at"px";have C:(r8 c w).length<=2*c.top.length+2:=by
  unfold r8;simp only[aD];have:=Es c w c.top.length;have a:∀(b:Prop)[Decidable b](x:En),(if b then [x] else []).length<=1:=λb _ x=>by split<;>simp
  have a1:=a (w∈c.left) .lf;have a2:=a (w∈c.right) .rt;ext
 have hw:=sh.w;show oj (r8 c w) dE (λe=>.int (qX c e)) (λF h=>?_) (by ext) (λe he H k=>?_) ?_
 .walk_at"px";show⟨c,w,rfl,sh,h⟩
 .walk_at"px";show⟨c,e,rfl,k⟩
 have v:(r8 c w).map (λe=>D.int (qX c e))=((r8 c w).map (qX c)).map D.int:=by simp
 rw[v];have hm:=QB c w;have d:=BF c w;have g:(pl c w).Nodup:=d.imp λh=>by ext
 have n:((r8 c w).map (qX c)).length<=1000:=by rw[ae];ext
 generalize (r8 c w).map (qX c)=cols at hm n ⊢;generalize pl c w=p at hm d g q ⊢;walk_at"go";simp only[Ca,yb];show⟨by ext,λl ln lm=>?_⟩;have t:l.Perm p:=(List.perm_ext_iff_of_nodup ln g).mpr λk=>by rw[lm,hm]
 have hlen:=t.length_eq;walk_at"px";match p,d,hm,hlen,q with
 | [],_,_,hlen,q=>
  rw[if_pos (by rw[hlen];decide)];show q
 | [a],_,_,hlen,q=>
  rw[if_pos (by rw[hlen];simp)];simpa[yM] using q
 | a::b::r,d,hm,hlen,q=>
  rw[if_neg (by rw[hlen];simp only[aG];ext)];walk_at"go";try simp only[o8,nZ,yb]
  have j:cols≠[]:=λz=>by have:=(hm a).mpr (by simp);rw[z] at this;cases this
  show⟨j,λm o s=>⟨j,λM y A=>⟨by ext,?_⟩⟩⟩;have em:m=a:=by
   have i:=s a ((hm a).mpr (by simp));have f:=(hm m).mp o;rcases av.mp f with h | h
   .exact h
   have:=(bN.mp d).1 m h;ext
  have u:M=(a::b::r).getLast (by simp):=by
   have i:=A _ ((hm _).mpr (List.getLast_mem (by simp:a::b::r≠[])));have f:=zh d M ((hm M).mp y);ext
  have B:a<(a::b::r).getLast (by simp):=by
   have i:=(bN.mp d).1 b (by simp);have f:=zh d b (by simp);ext
  subst em u;simp only[yM] at q;rw[if_neg (by ext)] at q;show q
def mK(c:dX)(w:Str):Prop:=some w∈c.top\/some w∈c.c6\/w∈c.left\/w∈c.right
def wt:fv:=λds Q=>∃(c:dX)(ws:List Str),ds=[c.obj]/\kI c/\ws.length<=40/\(∀w,mK c w->w∈ws)/\∀l:List Str,l.Nodup->(∀w,w∈l↔mK c w)->sortedS l=true->Q (.ow (l.map D.str))
def EJ:TX:=(dG (e8 1 (gr (g9 (dg fE (fi "top" (cZ 0)) (fi "bottom" (cZ 0)))) [none] (eD 0) (eG (dg (kB true) (cZ 0) (dC .non))) (cZ 0)))
 (gk (fb uq (df (dg fE (dg fE (cZ 1) (fi "left" (cZ 0))) (fi "right" (cZ 0))) dn))))
theorem wq{l ws:List Str}(nd:l.Nodup)(h:∀w∈l,w∈ws):l.length<=ws.length:=by
 induction l generalizing ws with
 | nil=>simp
 | cons a r b=>
  rw[cj] at nd;have ha:a∈ws:=h a (by simp);have:=b (ws:=ws.erase a) nd.2 λw hw=>(List.mem_erase_of_ne λ(z:w=a)=>nd.1 (z▸hw)).mpr (h w (by simp[hw]))
  rw[List.length_erase_of_mem ha] at this;have c:0<ws.length:=List.length_pos_of_mem ha;simp only[aG];ext
theorem T9:iH 1 wt EJ ["channel","pins"]:=by
 intro ds o hl h;obtain⟨c,ws,rfl,sh,j,hm,q⟩:=h;show EJ _ [.fz c.obj,.un];unfold EJ dX.obj;have big:=i8;have hw:=sh.w;have m:=sh.b;walk_at"px";show nR (c.top++c.c6) dO dO (λx=>x.isSome) (λp h=>?_) (by simp;ext) (λx hx s t k1 f=>?_) ?_
 .walk_at"px";show⟨_,rfl,_,rfl,?_⟩;unfold dP;walk_at"px";show⟨by simp;ext,?_⟩;rw[aE] at h;show h
 .walk_at"px";cases x with
  | none=>show f rfl
  | some x=>show k1 rfl
 rw[Cv];have hpl:((c.top++c.c6).filterMap id).length<=100:=by
  show aM (cQ _ _) ?_;simp;ext
 have d:∀w,w∈(c.top++c.c6).filterMap id↔some w∈c.top\/some w∈c.c6:=by
  intro w;simp[List.mem_filterMap]
 generalize (c.top++c.c6).filterMap id=i at hpl d ⊢;walk_at"go";show⟨_,rfl,?_⟩;unfold dS;walk_at"px";have u:=sh.l;have n:=sh.r;show⟨by simp;ext,_,rfl,?_⟩;walk_at"px";show⟨by simp;ext,?_⟩;rw[<-aE,<-aE];simp only[uq,wy];have e:∀w,w∈i++c.left++c.right↔mK c w:=by
  intro w;simp only[au,d,mK];constructor
  .rintro(((h | h) | h) | h)
   .exact .inl h
   .exact .inr (.inl h)
   .exact .inr (.inr (.inl h))
   show .inr (.inr (.inr h))
  rintro(h | h | h | h)
  .exact .inl (.inl (.inl h))
  .exact .inl (.inl (.inr h))
  .exact .inl (.inr h)
  show .inr h
 show⟨by simp;ext,λl nd h=>?_,λl nd h g=>q l nd (λw=>by rw[h,e]) g⟩;have:=wq nd λw hw=>hm w ((e w).mp (h w hw))
 ext
noncomputable def pV:List (Str×Int)->Str->Int
 | [],_=>1
 | p::r,w=>if p.1=w then p.2 else pV r w
def ye:fv:=λds Q=>∃(c:dX)(w:Str),ds=[c.obj,.str w]/\Q (.fz (.int (pV c.wide w)))
def Fg:TX:=(dG (i9 (g9 (fi "wide" (cZ 0))) (ju 2 (ff (eD 2) (ff (eD 3) iJ))) (fU (eG (dg oEq (cZ 2) (cZ 1))) (gk (cZ 3)) fY))
 (gk (dC (.int 1))))
theorem UA:iH 2 ye Fg ["channel","name","wide_name","width"]:=by
 intro ds f hl h;obtain⟨c,w,rfl,q⟩:=h;show Fg _ [.fz c.obj,.fz (.str w),.un,.un];unfold Fg;walk_at"px";show sk c.wide uO (λg h=>?_) (λi d=>∃a b:Sl,d=[.fz c.obj,.fz (.str w),a,b]/\pV c.wide w=pV (c.wide.drop i) w) ⟨_,_,rfl,rfl⟩ ?_ ?_
 .unfold dX.obj;walk_at"px";show⟨_,rfl,h⟩
 .rintro i x d hx ⟨a,b,rfl,hd⟩;obtain⟨hi,e⟩:=ar.mp hx;rw[bQ hi,e] at hd;unfold uO;walk_at"px";by_cases hw:x.1=w
  .rw[if_pos hw];simp only[pV,if_pos hw] at hd;rw[hd] at q;show q
  rw[if_neg hw];simp only[pV,if_neg hw] at hd;show⟨_,_,rfl,hd⟩
 rintro d ⟨a,b,rfl,hd⟩;rw[List.drop_length] at hd;simp only[pV] at hd;rw[hd] at q;walk_at"go";show q
structure Pc where
 n:Option Str
 l:Int
 r:Int
 k:Int
 deriving DecidableEq
noncomputable def hZ(p:Pc):D:=.tup [dO p.n,.int p.l,.int p.r,.int p.k]
noncomputable def iI(ps:List Pc):D:=.lst (ps.map hZ)
noncomputable def dJ:Option Int->D
 | none=>.non
 | some i=>.int i
theorem PU(n:Nat)(p:Pc):fG (n+1) (hZ p):=by
 intro d hd;simp only[av,bg,cY] at hd;rcases hd with rfl | rfl | rfl | rfl
 .rw[xQ];trivial
 all_goals (rw[zd];trivial)
theorem PR(n:Nat)(ps:List Pc):fG (n+2) (iI ps):=Ek hZ ps λp _=>PU n p
noncomputable def pU(p:Pc)(c:Int):Bool:=decide (p.l<=c)&&decide (c<=p.r)
noncomputable def yL(p q:Pc):Option Int:=
 if (if q.l>p.l then q.l else p.l)>(if q.r<p.r then q.r else p.r) then none else some (if q.l>p.l then q.l else p.l)
def zC:fv:=λds Q=>∃p q:Pc,ds=[hZ p,hZ q]/\Q (.fz (dJ (yL p q)))
def Fw:TX:=(dG (e8 2 (fb nZ (df (dg eF (cZ 0) (dC (.int 1))) (df (dg eF (cZ 1) (dC (.int 1))) dn))))
 (dG (fU (eG (dg (hV λi j=>.bl (decide (j<i))) (cZ 2) (fb o8 (df (dg eF (cZ 0) (dC (.int 2))) (df (dg eF (cZ 1) (dC (.int 2))) dn))))) (gk (dC .non)) fY)
 (gk (cZ 2))))
theorem Vy:iH 2 zC Fw ["one","other","column"]:=by
 intro ds d hl h;obtain⟨p,q,rfl,Q⟩:=h;show Fw _ [.fz (hZ p),.fz (hZ q),.un];unfold Fw hZ;walk_at"px";show⟨_,rfl,_,rfl,?_⟩;simp only[nZ,xR,Iq];walk_at"go";show⟨_,rfl,_,rfl,?_⟩;try unfold o8
 walk_at"px";unfold yL at Q;generalize (if q.l>p.l then q.l else p.l)=a at Q ⊢;generalize (if q.r<p.r then q.r else p.r)=b at Q ⊢;by_cases h:b<a
 .rw[if_pos h] at Q;rw[if_pos h];show Q
 rw[if_neg h] at Q;rw[if_neg h];walk_at"go";show Q
theorem Ku{b:Type}(f:b->List Int):∀L:List b,oe (L.map λa=>D.tup ((f a).map D.int))=some (L.map f)
 | []=>rfl
 | a::L=>by
  rw[ax,ax];unfold oe;rw[yb,Ku f L]
noncomputable def kA(ps:List Pc)(n:Option Str)(c:Int):List Nat:=(ps.zipIdx.filter λp=>decide (p.1.n=n)&&pU p.1 c).map (·.2)
def wu:fv:=λds Q=>∃(ps:List Pc)(n:Option Str)(c:Int),ds=[iI ps,dO n,.int c]/\ps.length<=100000/\Q (.ow ((kA ps n c).map dN))
def E5:TX:=(gk (gr (vb (df (cZ 0) dn)) [none,none,some 1,some 2] (ju 2 (ff (eD 0) (ff (eD 1) iJ))) (my (eG (dg oEq (dg eF (cZ 1) (dC (.int 0))) (cZ 2))) (eG (v8 (hV λi j=>.bl (decide (i<=j))) (hV λi j=>.bl (decide (i<=j))) (dg eF (cZ 1) (dC (.int 1))) (cZ 3) (dg eF (cZ 1) (dC (.int 2)))))) (cZ 0)))
theorem Vx:iH 3 wu E5 ["pieces","name","column"]:=by
 intro ds j hl h;obtain⟨ps,n,c,rfl,i,q⟩:=h;show E5 _ [.fz (iI ps),.fz (dO n),.fz (.int c)];unfold E5 iI;have big:=i8;walk_at"px";show nR ps.zipIdx (λp=>.tup [.int (p.2:Nat),hZ p.1]) (λp=>dN p.2) (λp=>decide (p.1.n=n)&&pU p.1 c) (λm h=>?_) (by simp;ext) (λp g o s k1 e=>?_) ?_
 .walk_at"px";rw[Kd];show h
 .unfold hZ;walk_at"px";show⟨_,rfl,?_⟩;walk_at"px";unfold pU at k1 e;by_cases b:p.1.n=n
  .rw[if_pos b];show⟨_,rfl,?_⟩;walk_at"px";by_cases d:p.1.l<=c
   .rw[if_pos d];show⟨_,rfl,?_⟩;walk_at"px";by_cases f:c<=p.1.r
    .rw[if_pos f];show k1 (by simp[b,d,f])
    rw[if_neg f];show e (by simp[b,d,f])
   rw[if_neg d];show e (by simp[b,d])
  rw[if_neg b];show e (by simp[b])
 unfold kA at q;rw[aU] at q;show q
theorem R4{b:Type}{e:lC}{m:List (Option Nat)}{g:jN}{te:TD}{a:Ev}{Q:R->Prop}(L:List b)(c:b->D)(f:b->List D)(hw:∀j:List D->Prop,j (L.map c)->e a j)(n:L.length<=sizeLine)
  (h:∀x∈L,∀(k:List D->Prop),k (f x)->g (c x) (iG m a) λl=>te l λr=>match r with | .ow es=>k es | _=>False) (q:Q (.ov (.ll (L.map f)))):y8 e m g jU te a Q:=by
 unfold y8;show hw _ ⟨λi acc=>acc=(L.take i).map f,by simp,λi d acc hd ha=>?_,λacc ha=>?_⟩
 .subst ha;rw[aI] at hd;cases hx:L[i]? with
  | none=>rw[hx] at hd;cases hd
  | some x=>
   rw[hx] at hd;cases hd;have o:i<L.length:=(ar.mp hx).1;have:=h x (aL hx) (λes=>((L.take i).map f).length<sizeLine/\(L.take i).map f++[es]=(L.take (i+1)).map f) ⟨by simp;ext,by rw[br,hx];simp⟩;show this
 subst ha;simpa using q
noncomputable abbrev Tr:=Nat×Nat×Int
noncomputable def dT(t:Tr):D:=.tup [.int t.1,.int t.2.1,.int t.2.2]
noncomputable def nW(a:List Tr):D:=.lst (a.map dT)
theorem NY(n:Nat)(t:Tr):fG (n+1) (dT t):=by
 intro d hd;simp only[av,bg,cY] at hd;rcases hd with rfl | rfl | rfl<;>(rw[zd];trivial)
theorem Qp(n:Nat)(a:List Tr):fG (n+2) (nW a):=Ek dT a λt _=>NY n t
def DR(n:Nat)(a:List Tr):Prop:=∀t∈a,t.1<n/\t.2.1<n
noncomputable def keys(a:List (Nat×Int)):List Nat:=a.map (·.1)
theorem Jm{n k:Nat}(h:k<n):qg n (k:Int)=some k:=by
 unfold qg;rw[if_pos (by ext),if_pos (by ext)];simp
theorem R3{a:Type}(n:Nat)(f:Nat->a)(u:Nat)(v:a):((List.range n).map f).set u v=(List.range n).map λx=>if x=u then v else f x:=by
 apply List.ext_getElem?;intro i;rw[List.getElem?_set,aI,aI];by_cases hi:i<n
 .rw[List.getElem?_range hi];by_cases h:u=i
  .subst h;simp[hi]
  rw[if_neg h];simp[Ne.symm h]
 rw[List.getElem?_eq_none (by simpa using hi)];simp only[Option.map_none,ae,bG];split
 .rename_i h;rw[if_neg (by ext)]
 rfl
theorem QA{a:Type}{n:Nat}(f:Nat->a){u:Nat}(h:u<n):((List.range n).map f)[u]?=some (f u):=by rw[aI,List.getElem?_range h];rfl
theorem R1{a:Type}{n:Nat}(f:Nat->a){u:Nat}(h:u<n):fK ((List.range n).map f) (u:Int)=some (f u):=by
 rw[Cm,kZ (by simpa using h)];simp
noncomputable def rW:List Int->Option (Int×Int)
 | []=>none
 | a::r=>if a=(a::r).getLast (by simp) then none else some (a,(a::r).getLast (by simp))
theorem Qo(p:List Int):yM p=match rW p with | none=>.non | some q=>.tup [.int q.1,.int q.2]:=by
 cases p with
 | nil=>rfl
 | cons a r=>
  simp only[yM,rW];by_cases h:a=(a::r).getLast (by simp)
  .rw[if_pos h,if_pos h]
  rw[if_neg h,if_neg h]
noncomputable def pd(c:dX)(w:Str):List Int:=(c.dR.filter λp=>decide (p.2=w)).map (·.1)
def zO:fv:=λds Q=>∃(c:dX)(w:Str),ds=[c.obj,.str w]/\c.dR.length<=100/\Q (.ow ((pd c w).map D.int))
def FL:TX:=(gk (gr (g9 (fi "bends" (cZ 0))) [none,none,some 1] (ju 2 (ff (eD 0) (ff (eD 1) iJ))) (eG (dg oEq (cZ 1) (cZ 2))) (cZ 0)))
theorem Wq:iH 2 zO FL ["channel","name"]:=by
 intro ds g hl h;obtain⟨c,w,rfl,f,q⟩:=h;show FL _ [.fz c.obj,.fz (.str w)];unfold FL;have big:=i8;walk_at"px";show nR c.dR pJ (λp=>.int p.1) (λp=>decide (p.2=w)) (λi h=>?_) (by ext) (λp e j m k1 d=>?_) ?_
 .unfold dX.obj;walk_at"px";show⟨_,rfl,h⟩
 .unfold pJ;walk_at"px";by_cases b:p.2=w
  .rw[if_pos b];show k1 (by simpa using b)
  rw[if_neg b];show d (by simpa using b)
 unfold pd at q;rw[aU] at q;show q
noncomputable def rV(w:Str)(k:Int)(bs:List Int):List Pc:=(bs.zip (bs.drop 1)).map λp=>⟨some w,p.1,p.2,k⟩
noncomputable def pT(c:dX)(a:Bool)(w:Str):List Pc:=match rW (pl c w) with
 | none=>[]
 | some p=>rV w (pV c.wide w) ([p.1]++(if a then pd c w else [])++[p.2])
def wx:fv:=λds Q=>∃(c:dX)(w:Str)(a:Bool),ds=[c.obj,.str w,.bl a]/\kI c/\c.dR.length<=100/\Q (.ow ((pT c a w).map hZ))
def Fv:TX:=(dG (e8 3 (fT 2 Ab (df (cZ 0) (df (cZ 1) dn))))
 (dG (fU (eG (dg (kB false) (cZ 3) (dC .non))) (gk (gF dn)) fY)
 (dG (e8 4 (uQ (eG (cZ 2)) (fT 2 zO (df (cZ 0) (df (cZ 1) dn))) (gF dn)))
 (dG (e8 5 (dg fE (dg fE (gF (df (dg eF (cZ 3) (dC (.int 0))) dn)) (cZ 4)) (gF (df (dg eF (cZ 3) (dC (.int 1))) dn))))
 (dG (e8 6 (fT 2 ye (df (cZ 0) (df (cZ 1) dn))))
 (gk (gr (rY (df (cZ 5) (df (oP (cZ 5) (m9 (dC (.int 1))) pE) dn))) [none,none,some 1,some 6] (ju 2 (ff (eD 0) (ff (eD 1) iJ))) jU (kz (df (cZ 2) (df (cZ 0) (df (cZ 1) (df (cZ 3) dn))))))))))))
theorem U0:iH 3 wx Fv ["channel","name","bent","stretch","cuts","borders","width"]:=by
 intro ds e hl h;obtain⟨c,w,b,rfl,sh,d,q⟩:=h;show Fv _ [.fz c.obj,.fz (.str w),.fz (.bl b),.un,.un,.un,.un];unfold Fv;have big:=i8;walk_at"px";show⟨c,w,rfl,sh,?_⟩;rw[Qo];unfold pT at q;generalize rW (pl c w)=st at q ⊢;cases st with
 | none=>
  walk_at"go";show⟨by ext,q⟩
 | some p=>
  walk_at"go";have f:(if b then pd c w else []).length<=100:=by
   split
   .unfold pd;rw[ae];show aM (a9 _ _) d
   simp
  have fin:∀cs:List Int,cs=(if b then pd c w else [])->o5 (dG (e8 5 (dg fE (dg fE (gF (df (dg eF (cZ 3) (dC (.int 0))) dn)) (cZ 4)) (gF (df (dg eF (cZ 3) (dC (.int 1))) dn))))
 (dG (e8 6 (fT 2 ye (df (cZ 0) (df (cZ 1) dn))))
 (gk (gr (rY (df (cZ 5) (df (oP (cZ 5) (m9 (dC (.int 1))) pE) dn))) [none,none,some 1,some 6] (ju 2 (ff (eD 0) (ff (eD 1) iJ))) jU (kz (df (cZ 2) (df (cZ 0) (df (cZ 1) (df (cZ 3) dn))))))))) { nx:=λ_=>e (.fz .non),rt:=e } [.fz c.obj,.fz (.str w),.fz (.bl b),.fz (.tup [.int p.1,.int p.2]),.fz (.lst (cs.map D.int)),.un,.un]:=by
   intro cs j;rw[<-j] at q f;walk_at"go";show⟨.int p.1,rfl,by ext,by simp;ext,.int p.2,rfl,by ext,by simp;ext,?_⟩;walk_at"go";show⟨c,w,rfl,?_⟩;walk_at"go";have g:(D.int p.1::(List.map D.int cs++[D.int p.2]))=([p.1]++cs++[p.2]).map D.int:=by simp
   simp only[g];have i:([p.1]++cs++[p.2]).length<=102:=by simp;ext
   dsimp only at q;generalize [p.1]++cs++[p.2]=bs at q i ⊢;show oj (bs.zip (bs.drop 1)) (λp=>.tup [.int p.1,.int p.2]) (λp=>hZ ⟨some w,p.1,p.2,pV c.wide w⟩) (λn h=>?_) (by simp;ext) (λx hx o k=>?_) ?_
   .walk_at"px";rw[EO _ (by decide)];have m:Int.toNat 1=1:=rfl;rw[x8];show h
   .walk_at"px";show⟨by ext,k⟩
   unfold rV at q;rw[aU] at q;show q
  cases b with
  | true=>
   walk_at"go";show⟨c,w,rfl,d,?_⟩;show fin _ rfl
  | false=>
   walk_at"go";show⟨by ext,fin [] rfl⟩
structure xv(c:dX)(l:List Str):Prop where
 nd:l.Nodup
 mem:∀w,w∈l↔mK c w
 F2:sortedS l=true
noncomputable def vY(c:dX):List Pc:=c.keeps.map λk=>⟨none,k.1,k.2.1,k.2.2⟩
noncomputable def dF(c:dX)(a:Bool)(l:List Str):List Pc:=vY c++l.flatMap (pT c a)
theorem Er(c:dX)(a:Bool)(w:Str):(pT c a w).length<=c.dR.length+1:=by
 unfold pT;split
 .simp
 unfold rV;have:(pd c w).length<=c.dR.length:=by unfold pd;rw[ae];show a9 _ _
 have:(if a then pd c w else []).length<=c.dR.length:=by split<;>simp[*]
 simp;ext
theorem Ep{b c:Type}(f:b->List c)(k:Nat)(h:∀a,(f a).length<=k):∀l:List b,(l.flatMap f).length<=l.length*k:=by
 intro l;induction l with
 | nil=>simp
 | cons a r d=>
  rw[cU,aD,aG,Nat.succ_mul];have:=h a;ext
def zB:fv:=λds Q=>∃(c:dX)(a:Bool)(ws:List Str),ds=[c.obj,.bl a]/\kI c/\c.dR.length<=100/\c.keeps.length<=100/\ws.length<=40/\(∀w,mK c w->w∈ws)/\∀l,xv c l->Q (.ow ((dF c a l).map hZ))
def CJ:TX:=(dG (jJ 2 (gr (g9 (fi "keeps" (cZ 0))) [none,none,none] (ju 3 (ff (eD 0) (ff (eD 1) (ff (eD 2) iJ)))) jU (kz (df (dC .non) (df (cZ 0) (df (cZ 1) (df (cZ 2) dn)))))))
 (dG (i9 (g9 (fT 1 wt (df (cZ 0) dn))) (eD 3) (u5 2 (fT 3 wx (df (cZ 0) (df (cZ 3) (df (cZ 1) dn))))))
 (pY 2)))
theorem Vw:iH 2 zB CJ ["channel","bent","pieces","name"]:=by
 intro ds t hl h;obtain⟨c,b,ws,rfl,sh,j,g,f,hm,q⟩:=h;show CJ _ [.fz c.obj,.fz (.bl b),.un,.un];unfold CJ;have big:=i8;walk_at"px";show oj c.keeps Bn (λk=>hZ ⟨none,k.1,k.2.1,k.2.2⟩) (λn h=>?_) (by ext) (λx hx v k=>?_) ?_
 .unfold dX.obj;walk_at"px";show⟨_,rfl,h⟩
 .unfold Bn;walk_at"px";show⟨by ext,k⟩
 have m:c.keeps.map (λk=>hZ ⟨none,k.1,k.2.1,k.2.2⟩)=(vY c).map hZ:=by unfold vY;rw[aU];rfl
 rw[m];walk_at"go";show Cw (λds=>∃l,xv c l/\ds=l.map D.str) (λn h=>?_) ?_
 .walk_at"px";show⟨c,ws,rfl,sh,f,hm,λl nd mem F2=>h _ ⟨l,⟨nd,mem,F2⟩,rfl⟩⟩
 rintro _ ⟨l,e,rfl⟩;have u:l.length<=40:=aM (wq e.nd λw hw=>hm w ((e.mem w).mp hw)) f;show E7 l D.str (λi d=>∃a:Sl,d=[.fz c.obj,.fz (.bl b),.ow ((vY c++(l.take i).flatMap (pT c b)).map hZ),a]) ⟨.un,by simp⟩ ?_ ?_
 .rintro i x d hx ⟨a,rfl⟩;walk_at"px";show⟨c,x,b,rfl,sh,j,?_⟩;have s:=Ep (pT c b) 101 (λw=>by have:=Er c b w;ext) (l.take i);have r:=Er c b x;have p:(vY c).length<=100:=by unfold vY;rw[ae];show g
  have o:(l.take i).length<=40:=by rw[aT];ext
  show⟨by simp only[aD,ae];ext,.fz (.str x),?_⟩;rw[br,hx];simp[List.flatMap_append]
 rintro d ⟨a,rfl⟩;walk_at"go";rw[bH];show q l e
noncomputable def u9(p:Pc)(ps:List Pc):List (Nat×Option Int):=(ps.zipIdx.filter λq=>q.1.n.isSome).map λq=>(q.2,yL p q.1)
noncomputable def vR(p:Pc)(ps:List Pc):List (Nat×Int):=(u9 p ps).filterMap λx=>x.2.map λc=>(x.1,c)
def zN:fv:=λds Q=>∃(p:Pc)(ps:List Pc),ds=[hZ p,iI ps]/\ps.length<=1000/\Q (.ow ((vR p ps).map λx=>.tup [dN x.1,.int x.2]))
def FK:TX:=(dG (e8 2 (gr (vb (df (cZ 1) dn)) [none,none,some 0] (ju 2 (ff (eD 0) (ff (eD 1) iJ))) (eG (dg (kB true) (dg eF (cZ 1) (dC (.int 0))) (dC .non))) (kz (df (cZ 0) (df (fT 2 zC (df (cZ 2) (df (cZ 1) dn))) dn)))))
 (gk (gr (g9 (cZ 2)) [none,none] (ju 2 (ff (eD 0) (ff (eD 1) iJ))) (eG (dg (kB true) (cZ 1) (dC .non))) (kz (df (cZ 0) (df (cZ 1) dn))))))
theorem Wo:iH 2 zN FK ["keep","pieces","commons"]:=by
 intro ds u hl h;obtain⟨p,ps,rfl,i,q⟩:=h;show FK _ [.fz (hZ p),.fz (iI ps),.un];unfold FK;have big:=i8;walk_at"px";show nR ps.zipIdx (λp=>.tup [.int (p.2:Nat),hZ p.1]) (λq=>.tup [dN q.2,dJ (yL p q.1)]) (λq=>q.1.n.isSome) (λo h=>?_) (by simp;ext) (λx hx s t k1 d=>?_) ?_
 .unfold iI;walk_at"px";rw[Kd];show h
 .show ju 2 (ff (eD 0) (ff (eD 1) iJ)) (.tup [.int (x.2:Nat),hZ x.1]) _ _;walk_at"px";have e:hZ x.1=.tup [dO x.1.n,.int x.1.l,.int x.1.r,.int x.1.k]:=rfl;simp only[e];show⟨_,rfl,?_⟩;cases b:x.1.n with
  | none=>simp only[dO];walk_at"px";show d (by rw[b];rfl)
  | some w=>
   simp only[dO];walk_at"px";have j:D.tup [D.str w,D.int x.1.l,D.int x.1.r,D.int x.1.k]=hZ x.1:=by rw[e,b];rfl
   rw[j];show⟨p,x.1,rfl,?_⟩;show⟨by ext,k1 (by rw[b];rfl)⟩
 have m:(ps.zipIdx.filter λq=>q.1.n.isSome).map (λq=>D.tup [dN q.2,dJ (yL p q.1)])=(u9 p ps).map λx=>.tup [dN x.1,dJ x.2]:=by unfold u9;rw[aU];rfl
 rw[m];have g:(u9 p ps).length<=1000:=by
  unfold u9;rw[ae];show aM (a9 _ _) ?_;simpa using i
 unfold vR at q;generalize u9 p ps=cs at q g ⊢;walk_at"go";show Ec cs (λx=>.tup [dN x.1,dJ x.2]) (λx=>(x.2.map λc=>(x.1,c)).map λx=>.tup [dN x.1,.int x.2]) (λo h=>?_) (by ext) (λx hx s t k1 d=>?_) ?_
 .walk_at"px";show h
 .walk_at"px";cases f:x.2 with
  | none=>simp only[dJ];walk_at"px";show d (by rw[f];rfl)
  | some c=>
   simp only[dJ];walk_at"px";show⟨by ext,k1 _ (by rw[f];rfl)⟩
 rw[List.map_filterMap] at q;show q
theorem Jl(p:Pc)(ps:List Pc):(vR p ps).length<=ps.length:=by
 unfold vR u9;show aM (cQ _ _) ?_;rw[ae];show aM (a9 _ _) ?_;simp
noncomputable def tN(ps:List Pc)(p:Pc×Nat):List Tr:=if p.1.n=none then(vR p.1 ps).map λx=>(p.2,x.1,x.2) else []
noncomputable def kW(ps:List Pc):List Tr:=ps.zipIdx.flatMap (tN ps)
theorem Lb(ps:List Pc)(p:Pc×Nat):(tN ps p).length<=ps.length:=by
 unfold tN;split
 .rw[ae];show Jl _ _
 simp
theorem yf{b c:Type}(f:b->List c)(k:Nat)(h:∀a,(f a).length<=k):∀l:List b,(l.flatMap f).length<=l.length*k:=by
 intro l;induction l with
 | nil=>simp
 | cons a r d=>
  rw[cU,aD,aG,Nat.succ_mul];have:=h a;ext
def zM:fv:=λds Q=>∃ps:List Pc,ds=[iI ps]/\ps.length<=1000/\Q (.ow ((kW ps).map dT))
def FJ:TX:=(dG (jJ 1 (gF dn))
 (dG (i9 (vb (df (cZ 0) dn)) (ju 2 (ff (eD 2) (ff (eD 3) iJ))) (fU (eG (dg (kB false) (dg eF (cZ 3) (dC (.int 0))) (dC .non))) (u5 1 (gr (g9 (fT 2 zN (df (cZ 3) (df (cZ 0) dn)))) [none,none,some 2] (ju 2 (ff (eD 0) (ff (eD 1) iJ))) jU (kz (df (cZ 2) (df (cZ 0) (df (cZ 1) dn)))))) fY))
 (pY 1)))
theorem Wn:iH 1 zM FJ ["pieces","triples","upper","keep"]:=by
 intro ds s hl h;obtain⟨ps,rfl,g,q⟩:=h;show FJ _ [.fz (iI ps),.un,.un,.un];unfold FJ;have big:=i8;walk_at"px";show⟨by ext,?_⟩;walk_at"go";show EN ps hZ (λm h=>?_) (λi e=>∃a b:Sl,e=[.fz (iI ps),.ow ((((ps.zipIdx.take i).flatMap (tN ps))).map dT),a,b]) ⟨.un,.un,by simp⟩ ?_ ?_
 .unfold iI;walk_at"px";show h
 .rintro i x e hx ⟨a,b,rfl⟩;have hi:i<ps.length:=(ar.mp hx).1;have hz:ps.zipIdx[i]?=some (x,i):=by rw[List.getElem?_zipIdx,hx];simp
  have tk:ps.zipIdx.take (i+1)=ps.zipIdx.take i++[(x,i)]:=by rw[br,hz];rfl
  have len:=yf (tN ps) 1000 (λa=>aM (Lb ps a) g) (ps.zipIdx.take i);have o:(ps.zipIdx.take i).length<=1000:=by rw[aT];ext
  rw[tk,List.flatMap_append,cU,List.flatMap_nil,aS];generalize (ps.zipIdx.take i).flatMap (tN ps)=acc at len ⊢;have f:hZ x=.tup [dO x.n,.int x.l,.int x.r,.int x.k]:=rfl;walk_at"px";simp only[f];show⟨_,rfl,?_⟩;cases d:x.n with
  | some w=>
   simp only[dO];walk_at"px";show⟨.fz (.int i),.fz (hZ x),?_⟩;unfold tN;rw[if_neg (by rw[d];show λz=>nomatch z),aS,f,d];rfl
  | none=>
   simp only[dO];walk_at"px";have j:D.tup [D.non,D.int x.l,D.int x.r,D.int x.k]=hZ x:=by rw[f,d];rfl
   rw[j];have bl:=Jl x ps;show oj (vR x ps) (λy=>.tup [dN y.1,.int y.2]) (λy=>dT (i,y.1,y.2)) (λm h=>?_) (by ext) (λy p t k=>?_) ?_
   .walk_at"px";show⟨x,ps,rfl,g,h⟩
   .unfold dN;walk_at"px";show⟨by ext,k⟩
   show⟨by simp only[ae];ext,.fz (.int i),.fz (hZ x),?_⟩;unfold tN;rw[if_pos (by show d),aE,aU];rfl
 rintro e ⟨a,b,rfl⟩;walk_at"go";rw[show ps.length=ps.zipIdx.length by simp,bH];show q
noncomputable def rh(c:dX)(ps:List Pc)(n:Nat):List Tr:=match c.top[n]?,c.c6[n]? with
 | some (some u),some (some v)=>if u=v then [] else(kA ps (some u) n).flatMap λa=>(kA ps (some v) n).map λb=>(a,b,(n:Int))
 | _,_=>[]
noncomputable def oF(c:dX)(ps:List Pc):List Tr:=(List.range c.top.length).flatMap (rh c ps)
theorem xY(ps:List Pc)(n:Option Str)(c:Int):(kA ps n c).length<=ps.length:=by
 unfold kA;rw[ae];show aM (a9 _ _) ?_;simp
theorem Kt(c:dX)(ps:List Pc)(n:Nat):(rh c ps n).length<=ps.length*ps.length:=by
 unfold rh;split
 .split
  .simp
  rename_i u v _ _ _;show aM (yf _ ps.length (λa=>by rw[ae];show xY _ _ _) _) ?_;show Nat.mul_le_mul_right _ (xY _ _ _)
 simp
def z7:fv:=λds Q=>∃(c:dX)(ps:List Pc),ds=[c.obj,iI ps]/\kI c/\ps.length<=500/\Q (.ow ((oF c ps).map dT))
def Fp:TX:=(dG (jJ 2 (gF dn))
 (dG (i9 (mD (df (fb jT (df (fi "top" (cZ 0)) dn)) dn)) (eD 3) (dG (e8 4 (dg eF (fi "top" (cZ 0)) (cZ 3)))
 (dG (e8 5 (dg eF (fi "bottom" (cZ 0)) (cZ 3)))
 (fU (my (eG (dg (kB true) (cZ 4) (dC .non))) (my (eG (dg (kB true) (cZ 5) (dC .non))) (eG (dg yn (cZ 4) (cZ 5))))) (dG (e8 6 (fT 3 wu (df (cZ 1) (df (cZ 5) (df (cZ 3) dn)))))
 (i9 (g9 (fT 3 wu (df (cZ 1) (df (cZ 4) (df (cZ 3) dn))))) (eD 7) (u5 2 (gr (g9 (cZ 6)) [none,some 7,some 3] (eD 0) jU (kz (df (cZ 1) (df (cZ 0) (df (cZ 2) dn)))))))) fY))))
 (pY 2)))
theorem VM:iH 2 z7 Fp ["channel","pieces","triples","column","upper_name","lower_name","lowers","upper"]:=by
 intro ds F hl h;obtain⟨c,ps,rfl,sh,p,q⟩:=h;show Fp _ [.fz c.obj,.fz (iI ps),.un,.un,.un,.un,.un,.un];unfold Fp;have big:=i8;have hw:=sh.w;walk_at"px";show⟨by ext,?_⟩;walk_at"go";show tS c.top.length (λr h=>?_) (λi g=>∃a b d e f:Sl,g=[.fz c.obj,.fz (iI ps),.ow (((List.range i).flatMap (rh c ps)).map dT),a,b,d,e,f]) ⟨.un,.un,.un,.un,.un,by simp⟩ ?_ ?_
 .unfold dX.obj;walk_at"px";show⟨_,rfl,?_⟩;unfold dP;walk_at"px";rw[ae];show⟨by ext,by ext,by simpa using h⟩
 .rintro i g hi ⟨a,b,d,e,f,rfl⟩;have t:i<c.c6.length:=by rw[sh.b];show hi
  have sq:ps.length*ps.length<=250000:=Nat.mul_le_mul p p;have len:=yf (rh c ps) 250000 (λa=>aM (Kt c ps a) sq) (List.range i);rw[bG] at len;rw[List.range_succ,List.flatMap_append,cU,List.flatMap_nil,aS];generalize (List.range i).flatMap (rh c ps)=acc at len ⊢;walk_at"px";unfold dX.obj;walk_at"px";show⟨_,rfl,?_⟩;unfold dP;walk_at"px";show⟨_,kZ hi,?_⟩;walk_at"go";show⟨_,rfl,?_⟩;walk_at"px";show⟨_,kZ t,?_⟩;have obj:D.obj (Str.ofString "Channel") [(Str.ofString "top",D.lst (c.top.map dO)),(Str.ofString "bottom",D.lst (c.c6.map dO)),(Str.ofString "left",dS c.left),(Str.ofString "right",dS c.right),(Str.ofString "wide",dW c.wide),(Str.ofString "bends",dB c.dR),(Str.ofString "keeps",dK c.keeps)]=c.obj:=rfl;rw[obj];have n:rh c ps i=match c.top[i],c.c6[i] with | some u,some v=>(if u=v then [] else(kA ps (some u) i).flatMap λa=>(kA ps (some v) i).map λb=>(a,b,(i:Int))) | _,_=>[]:=by
   unfold rh;rw[ah hi,ah t];cases c.top[i]<;>cases c.c6[i]<;>rfl
  generalize c.top[i]=x at n ⊢;generalize c.c6[i]=y at n ⊢;generalize rh c ps i=new at n ⊢;subst n;cases x with
  | none=>
   simp only[dO];walk_at"go";show⟨_,_,_,_,_,by rw[aS]⟩
  | some u=>
   cases y with
   | none=>
    simp only[dO];walk_at"go";show⟨_,_,_,_,_,by rw[aS]⟩
   | some v=>
    simp only[dO];walk_at"go";by_cases s:u=v
    .simp only[s,cw,Bool.not_true,aq,aR,aX];show⟨_,_,_,_,_,by rw[aS]⟩
    simp only[s,bS,Bool.not_false,aR,aX];show⟨ps,some v,i,rfl,by ext,?_⟩;walk_at"go";have l1:=xY ps (some u) i;have A:=xY ps (some v) i;have o:=yf (λa=>(kA ps (some v) i).map λb=>((a,b,(i:Int)):Tr)) 500 (λa=>by rw[ae];ext);generalize kA ps (some v) i=m at A o ⊢;show sk (kA ps (some u) i) dN (λr h=>?_) (λj g=>∃f:Sl,g=[.fz c.obj,.fz (iI ps),.ow ((acc++((kA ps (some u) i).take j).flatMap λa=>m.map λb=>(a,b,(i:Int))).map dT),.fz (.int i),.fz (.str u),.fz (.str v),.fz (.lst (m.map dN)),f]) ⟨_,by rw[List.take_zero,List.flatMap_nil,aS]⟩ ?_ ?_
    .walk_at"px";show⟨ps,some u,i,rfl,by ext,h⟩
    .rintro j x g hx ⟨f,rfl⟩;have z:=o ((kA ps (some u) i).take j);have B:((kA ps (some u) i).take j).length<=500:=by rw[aT];ext
     rw[br,hx,List.flatMap_append];generalize ((kA ps (some u) i).take j).flatMap (λa=>m.map λb=>((a,b,(i:Int)):Tr))=E at z ⊢;unfold dN;walk_at"px";show oj m dN (λb=>dT (x,b,(i:Int))) (λr h=>?_) (by ext) (λb C H k=>?_) ?_
     .walk_at"px";show h
     .unfold dN;walk_at"px";show⟨by ext,k⟩
     show⟨by simp only[ae,aD];ext,.fz (.int x),?_⟩;simp
    rintro g ⟨f,rfl⟩;show⟨_,_,_,_,_,by rw[bH]⟩
 rintro g ⟨a,b,d,e,f,rfl⟩;walk_at"go";show q
noncomputable def kT(t:Tr):List Int:=[(t.1:Int),(t.2.1:Int),t.2.2]
structure Above(c:dX)(ps:List Pc)(ts:List Tr):Prop where
 pm:ts.Perm (oF c ps++kW ps)
 F2:ts.Pairwise λx y=>HT.eH (kT x) (kT y)=false
def zz:fv:=λds Q=>∃(c:dX)(ps:List Pc),ds=[c.obj,iI ps]/\kI c/\ps.length<=500/\∀a,Above c ps a->Q (.ow (a.map dT))
def Ff:TX:=(gk (fb Cz (df (dg fE (fT 2 z7 (df (cZ 0) (df (cZ 1) dn))) (fT 1 zM (df (cZ 1) dn))) dn)))
theorem Kc(c:dX)(ps:List Pc)(sh:kI c)(b:ps.length<=500):(oF c ps).length<=10000000:=by
 have sq:ps.length*ps.length<=250000:=Nat.mul_le_mul b b;have:=yf (rh c ps) 250000 (λa=>aM (Kt c ps a) sq) (List.range c.top.length);rw[bG] at this;have:=sh.w;unfold oF;ext
theorem Ks(ps:List Pc)(b:ps.length<=500):(kW ps).length<=250000:=by
 have:=yf (tN ps) 500 (λa=>aM (Lb ps a) b) ps.zipIdx;rw[List.length_zipIdx] at this;unfold kW;ext
theorem Uz:iH 2 zz Ff ["channel","pieces"]:=by
 intro ds o hl h;obtain⟨c,ps,rfl,sh,b,q⟩:=h;show Ff _ [.fz c.obj,.fz (iI ps)];unfold Ff;have big:=i8;have l1:=Kc c ps sh b;have n:=Ks ps b;walk_at"px";show⟨c,ps,rfl,sh,b,?_⟩;walk_at"px";show⟨ps,rfl,by ext,?_⟩;walk_at"px";show⟨by simp only[aD,ae];ext,?_⟩;rw[<-aE];have e:((oF c ps++kW ps).map dT)=(oF c ps++kW ps).map λa=>D.tup ((kT a).map D.int):=rfl
 rw[e];simp only[Cz,Ku];show⟨λt g=>?_,λm i d=>?_⟩
 .obtain⟨a,_,rfl⟩:=aN.mp g;simp[kT]
 obtain⟨f,j,rfl⟩:=K6 i rfl;rw[aU];show q f ⟨j,by rw[List.pairwise_map] at d;show d⟩
noncomputable def fV(ps:List Pc)(q:Nat):Pc:=ps[q]?.getD ⟨none,0,0,1⟩
noncomputable def gv(a:List Int)(q:Nat):Int:=a[q]?.getD 0
theorem xP{ps:List Pc}{q:Nat}(h:q<ps.length):fV ps q=ps[q]:=by unfold fV;rw[ah h];rfl
theorem BZ{a:List Int}{q:Nat}(h:q<a.length):gv a q=a[q]:=by unfold gv;rw[ah h];rfl
theorem Jk{ws:List Str}{a:Nat}{c:dX}(g:fO ws a c)(b:a<=40):kI c:=⟨aM g.w2 b,g.bl,aM g.ll (by decide),aM g.rl (by decide)⟩
theorem Kb{ws:List Str}{a:Nat}{c:dX}(g:fO ws a c)(w:Str)(h:mK c w):w∈ws:=by
 rcases h with h | h | h | h
 .exact g.pt w h
 .exact g.pb w h
 .exact g.lw w h
 show g.rw_ w h
theorem IH{l:List Str}(h:l.Pairwise nh):l.Nodup:=List.Pairwise.imp (S:=(·≠·)) (λ{a b} h e=>by
 rw[e] at h;unfold nh at h;rw[Jn] at h;cases h) h
theorem Jj{a:Type}[DecidableEq a]{l:List a}(nd:l.Nodup)(w:a):l.count w=if w∈l then 1 else 0:=by
 by_cases h:w∈l
 .rw[if_pos h];have c:=(List.nodup_iff_count.mp nd) w;have b:=List.count_pos_iff.mpr h;ext
 rw[if_neg h,bT.mpr h]
theorem Kr(c:dX)(w:Str)(k:Int):k∈pl c w↔k∈places c.top c.c6 c.left c.right w:=by
 unfold pl places;simp only[au];constructor
 .rintro((h | h) | h)
  .exact .inl (.inr h)
  .exact .inl (.inl h)
  show .inr h
 rintro((h | h) | h)
 .exact .inl (.inr h)
 .exact .inl (.inl h)
 show .inr h
theorem NX{c:dX}{w:Str}{k:Int}(h:k∈pl c w):mK c w:=by
 unfold pl at h;rcases au.mp h with h | h
 .rcases au.mp h with h | h
  .split at h
   .rename_i a;show .inr (.inr (.inl a))
   cases h
  obtain⟨n,b,_⟩:=aN.mp h;have:=(aP.mp b).2;simp only[Bool.or_eq_true,beq_iff_eq] at this;rcases this with h | h
  .exact .inl (aL h)
  show .inr (.inl (aL h))
 split at h
 .rename_i a;show .inr (.inr (.inr a))
 cases h
theorem Ji{ws:List Str}{d:Nat}{c:dX}(g:fO ws d c)(s:d<=40){p:Int×Str}(i:p∈c.dR):mK c p.2/\∃a b,rW (pl c p.2)=some (a,b)/\a<p.1/\p.1<b:=by
 obtain⟨n,q,v,_,⟨m,M,⟨i1,o⟩,⟨f,k⟩,t,u⟩,_⟩:=g.be.at_ p i;have hw:=g.w2;have e:m∈pl c p.2:=by
  rw[Kr];rcases au.mp i1 with h | h
  .exact h
  simp at h;ext
 have M1:M∈pl c p.2:=by
  rw[Kr];rcases au.mp f with h | h
  .exact h
  simp at h;ext
 show⟨NX e,?_⟩;have up:=BF c p.2;generalize pl c p.2=l at e M1 up;cases l with
 | nil=>cases e
 | cons a r=>
  have l1:=zh up M M1;have j:a<=m:=by
   rcases av.mp e with h | h
   .omega
   have:=(bN.mp up).1 m h;ext
  show⟨a,(a::r).getLast (by simp),?_,by ext,by ext⟩;simp only[rW];rw[if_neg (by ext)]
def DX(c:dX):Prop:=∀(n:Nat)(u v:Str),c.top[n]?=some (some u)->c.c6[n]?=some (some v)->False
noncomputable def tM(p:Option Str×Option Str):Option Str:=match p.1 with
 | none=>p.2
 | some _=>none
def Aa:fv:=λds Q=>∃(ws:List Str)(most:Nat)(c:dX),ds=[.lst c.parts]/\ws.length<=40/\most<=40/\fO ws most c/\∀a,fO ws most a->a.dR=[]->DX a->Q (.ow a.parts)
def Fu:TX:=(dG (xG (cZ 0) (xD 7 (ff (eD 1) (ff (eD 2) (ff (eD 3) (ff (eD 4) (ff (eD 5) (ff (eD 6) (ff (eD 7) iJ)))))))))
 (dG (e8 2 (gr (rY (df (cZ 1) (df (cZ 2) dn))) [none,none] (ju 2 (ff (eD 0) (ff (eD 1) iJ))) jU (uQ (eG (dg (kB true) (cZ 0) (dC .non))) (dC .non) (cZ 1))))
 (dG (e8 8 (fb uq (df (gr (g9 (dg fE (dg fE (dg fE (cZ 1) (cZ 2)) (cZ 3)) (cZ 4))) [none] (eD 0) (eG (dg (kB true) (cZ 0) (dC .non))) (cZ 0)) dn)))
 (dG (e8 9 (gr (g9 (cZ 8)) [none,some 1,some 2,some 3,some 4] (eD 0) (eG (dg oEq (fT 5 vj (df (cZ 1) (df (cZ 2) (df (cZ 3) (df (cZ 4) (df (cZ 0) dn)))))) (dC (.int 1)))) (cZ 0)))
 (dG (e8 1 (gr (g9 (cZ 1)) [none,some 9] (eD 0) jU (uQ (eG (dg (kX false) (cZ 0) (cZ 1))) (dC .non) (cZ 0))))
 (dG (e8 2 (gr (g9 (cZ 2)) [none,some 9] (eD 0) jU (uQ (eG (dg (kX false) (cZ 0) (cZ 1))) (dC .non) (cZ 0))))
 (dG (e8 3 (gr (g9 (cZ 3)) [none,some 9] (eD 0) (eG (dg (kX true) (cZ 0) (cZ 1))) (cZ 0)))
 (dG (e8 4 (gr (g9 (cZ 4)) [none,some 9] (eD 0) (eG (dg (kX true) (cZ 0) (cZ 1))) (cZ 0)))
 (dG (e8 5 (gr (g9 (cZ 5)) [none,some 1,some 2,some 3,some 4] (eD 0) (eG (dg (hV λi j=>.bl (decide (j<i))) (fT 5 vj (df (cZ 1) (df (cZ 2) (df (cZ 3) (df (cZ 4) (df (dg eF (cZ 0) (dC (.int 0))) dn)))))) (dC (.int 1)))) (cZ 0)))
 (gk (gF (df (cZ 1) (df (cZ 2) (df (cZ 3) (df (cZ 4) (df (cZ 5) (df (gF dn) (df (cZ 7) dn))))))))))))))))))
theorem UZ:iH 1 Aa Fu ["_law_lists","_law_top","_law_bottom","_law_left","_law_right","_law_wide","_law_bends_here","_law_keeps_here","_law_some","_law_lone"]:=by
 intro ds Qr hl h;obtain⟨ws,most,c,rfl,nU,hm,g,q⟩:=h;show Fu _ [.fz (.lst c.parts),.un,.un,.un,.un,.un,.un,.un,.un,.un];unfold Fu;have big:=i8;have w2:=g.w2;have bl:=g.bl;unfold dX.parts;walk_at"px";unfold dP;walk_at"go";show oj (c.top.zip c.c6) (λp=>.tup [dO p.1,dO p.2]) (λp=>dO (tM p)) (λA h=>?_) (by simp;ext) (λp r B k=>?_) ?_
 .walk_at"px";rw[x8];show h
 .walk_at"px";unfold tM at k;cases d:p.1 with
  | none=>rw[d] at k;show k
  | some u=>rw[d] at k;show k
 rw[show(c.top.zip c.c6).map (λp=>dO (tM p))=((c.top.zip c.c6).map tM).map dO by rw[aU];rfl];have pb:ic ws ((c.top.zip c.c6).map tM):=λw hw=>by
  obtain⟨p,r,e⟩:=aN.mp hw;have:=(List.of_mem_zip r).2;unfold tM at e;cases d:p.1 with
  | none=>rw[d] at e;show g.pb w (by rw[<-e];show this)
  | some u=>rw[d] at e;cases e
 have nb:∀(n:Nat)(u v:Str),c.top[n]?=some (some u)->((c.top.zip c.c6).map tM)[n]?=some (some v)->False:=λn u v d m=>by
  rw[aI] at m;obtain⟨p,r,e⟩:=cC.mp m;obtain⟨p1,p2⟩:=p;obtain⟨C,Z⟩:=cF.mp r;rw[d] at C;cases C;simp[tM] at e
 have E:((c.top.zip c.c6).map tM).length=c.top.length:=by simp;ext
 generalize (c.top.zip c.c6).map tM=bot at pb nb E ⊢;walk_at"go";have ll:=g.ll;have rl:=g.rl;show nR (c.top++bot++c.left.map some++c.right.map some) dO dO (λx=>x.isSome) (λA h=>?_) (by simp;ext) (λx hx B K k1 s=>?_) ?_
 .unfold dS;walk_at"px";show⟨by simp;ext,by simp;ext,by simp;ext,?_⟩;rw[aE,aE,aE,aU,aU] at h;show h
 .walk_at"px";cases x with
  | none=>show s rfl
  | some x=>show k1 rfl
 rw[Cv];have o:∀w,w∈(c.top++bot++c.left.map some++c.right.map some).filterMap id↔some w∈c.top\/some w∈bot\/w∈c.left\/w∈c.right:=by
  intro w;simp[List.mem_filterMap,or_assoc]
 have hpl:((c.top++bot++c.left.map some++c.right.map some).filterMap id).length<=200:=by
  show aM (cQ _ _) ?_;simp;ext
 generalize (c.top++bot++c.left.map some++c.right.map some).filterMap id=all at o hpl ⊢;have F:∀w,w∈all->w∈ws:=λw hw=>by
  rcases(o w).mp hw with h | h | h | h
  .exact g.pt w h
  .exact pb w h
  .exact g.lw w h
  show g.rw_ w h
 simp only[ve,uq,wy];show⟨by ext,λl nd h=>?_,λl nd h hs=>?_⟩
 .have:=wq nd λw hw=>F w (h w hw);ext
 have Mx:l.length<=40:=by have:=wq nd λw hw=>F w ((h w).mp hw);ext
 walk_at"go";show nR l D.str D.str (λw=>decide (fZ c.top bot c.left c.right w=1)) (λA h=>?_) (by ext) (λw _ B K k1 s=>?_) ?_
 .walk_at"px";show h
 .walk_at"px";show⟨c.top,bot,c.left,c.right,w,rfl,by ext,?_⟩;walk_at"px";by_cases t:fZ c.top bot c.left c.right w=1
  .rw[if_pos (by ext)];show k1 (by simpa using t)
  rw[if_neg (by ext)];show s (by simpa using t)
 generalize P:l.filter (λw=>decide (fZ c.top bot c.left c.right w=1))=b;have L:=Lc (ws:=l) (λw z=>(h w).mpr ((o w).mpr (.inl z))) (λw z=>(h w).mpr ((o w).mpr (.inr (.inl z)))) (λw z=>(h w).mpr ((o w).mpr (.inr (.inr (.inl z))))) (λw z=>(h w).mpr ((o w).mpr (.inr (.inr (.inr z))))) b P.symm;walk_at"go";show B7 b c.top 1 9 _ _ (by ext) rfl rfl ?_;walk_at"go";show B7 b bot 2 9 _ _ (by ext) rfl rfl ?_;walk_at"go";show Cu b c.left 3 9 _ _ (by ext) rfl rfl ?_;walk_at"go";show Cu b c.right 4 9 _ _ (by ext) rfl rfl ?_;have Y:ic ws (c.top.map (jQ b)):=CK g.pt;have M:ic ws (bot.map (jQ b)):=CK pb;have U:(c.left.filter λx=>decide (x∉b)).Pairwise nh:=g.lo.sublist List.filter_sublist;have X:(c.right.filter λx=>decide (x∉b)).Pairwise nh:=g.ro.sublist List.filter_sublist;have V:∀w∈(c.left.filter λx=>decide (x∉b)),w∈ws:=λw h=>g.lw w (aP.mp h).1
 have R:∀w∈(c.right.filter λx=>decide (x∉b)),w∈ws:=λw h=>g.rw_ w (aP.mp h).1
 have T:(c.left.filter λx=>decide (x∉b)).length<=8:=aM (a9 _ _) ll;have W:(c.right.filter λx=>decide (x∉b)).length<=8:=aM (a9 _ _) rl;have S:(c.top.map (jQ b)).length=c.top.length:=by simp
 have rL:(bot.map (jQ b)).length=c.top.length:=by simpa using E
 have O:∀(n:Nat)(u v:Str),(c.top.map (jQ b))[n]?=some (some u)->(bot.map (jQ b))[n]?=some (some v)->False:=λn u v d m=>by
  have un:∀(l:List (Option Str))(u:Str),(l.map (jQ b))[n]?=some (some u)->∃y,l[n]?=some (some y):=λl u h=>by
   rw[aI] at h;obtain⟨x,hx,e⟩:=cC.mp h;cases x with
   | none=>cases e
   | some x=>show⟨x,hx⟩
  obtain⟨y,d⟩:=un _ _ d;obtain⟨N,m⟩:=un _ _ m;show nb n y N d m
 generalize c.top.map (jQ b)=f at *;generalize bot.map (jQ b)=j at *;generalize (c.left.filter λx=>decide (x∉b))=i at *;generalize (c.right.filter λx=>decide (x∉b))=right' at *;unfold dW;walk_at"go";have wl:=g.wl;show nR c.wide uO uO (λp=>decide (1<fZ f j i right' p.1)) (λA h=>?_) (by ext) (λp _ B K k1 s=>?_) ?_
 .walk_at"px";show h
 .rw[show uO p=D.tup [.str p.1,.int p.2] from rfl];walk_at"px";show⟨_,rfl,f,j,i,right',p.1,rfl,by ext,?_⟩;walk_at"px";by_cases t:1<fZ f j i right' p.1
  .rw[if_pos (by ext)];show k1 (by simpa using t)
  rw[if_neg (by ext)];show s (by simpa using t)
 have H:(c.wide.filter λp=>decide (1<fZ f j i right' p.1)).length<=8:=aM (a9 _ _) wl;have I:((c.wide.filter λp=>decide (1<fZ f j i right' p.1)).map (·.1)).Pairwise nh:=g.wo.sublist (List.filter_sublist.map _);have J:∀p∈(c.wide.filter λp=>decide (1<fZ f j i right' p.1)),p.1∈ws/\(p.2=2\/p.2=3)/\1<fZ f j i right' p.1:=λp r=>by
  obtain⟨d,m⟩:=aP.mp r;show⟨(g.ww p d).1,(g.ww p d).2.1,by simpa using m⟩
 generalize (c.wide.filter λp=>decide (1<fZ f j i right' p.1))=Q at H I J ⊢;walk_at"go";have ke:=g.ke;have w1:=g.w1;show⟨by ext,by ext,q ⟨f,j,i,right',Q,[],c.keeps⟩ ⟨by dsimp only;ext,by dsimp only;ext,by dsimp only;ext,Y,M,T,V,U,W,R,X,L,H,I,J,⟨by simp,by simp,by simp⟩,by dsimp only;rw[S];show ke⟩ rfl O⟩
noncomputable def lK(a:List Tr)(q:Nat):List Nat:=(a.filter λt=>decide (t.2.1=q)).map (·.1)
theorem Qz(a:List Tr)(t:Tr)(q:Nat):lK (a++[t]) q=if q=t.2.1 then lK a q++[t.1] else lK a q:=by
 unfold lK;rw[List.filter_append,aE];by_cases h:q=t.2.1
 .subst h;simp
 rw[if_neg h,List.filter_cons_of_neg (by simpa using λz=>h z.symm)];simp
theorem Jh(a:List Tr)(q:Nat):(lK a q).length<=a.length:=by
 unfold lK;rw[ae];show a9 _ _
theorem qd{e:List Tr}{p q:Nat}:p∈lK e q↔∃t∈e,t.1=p/\t.2.1=q:=by
 unfold lK;simp only[aN,aP,ba];show⟨λd=>by obtain⟨t,⟨c,b⟩,a⟩:=d;show⟨t,c,a,b⟩,λd=>by obtain⟨t,c,b,a⟩:=d;show⟨t,⟨c,a⟩,b⟩⟩
def Ia(n:Nat)(a:List Tr):Prop:=∃S:List Nat,S≠[]/\(∀q∈S,q<n)/\∀q∈S,∃t∈a,t.2.1=q/\t.1∈S
def qR(b:List Tr)(a:List Nat):Prop:=∀(pre:List Nat)(q:Nat)(post:List Nat),a=pre++q::post->∀t∈b,t.2.1=q->t.1∈pre
theorem qR.snoc{b:List Tr}{a:List Nat}(h:qR b a){x:Nat}(hx:∀t∈b,t.2.1=x->t.1∈a):qR b (a++[x]):=λpre q post e t d f=>by
 cases g:post.reverse with
 | nil=>
  have:post=[]:=by simpa using g
  subst this;obtain⟨c,i⟩:=List.append_inj' e rfl;cases i;rw[<-c];show hx t d f
 | cons y r=>
  have:post=r.reverse++[y]:=by rw[<-List.reverse_reverse post,g];simp
  subst this;rw[<-cq,<-bw] at e;obtain⟨c,_⟩:=List.append_inj' e rfl;show h pre q _ c t d f
def z9:fv:=λds Q=>∃(n:Nat)(a:List Tr)(c:Int),ds=[.int n,nW a,.int c]/\n<=1000/\a.length<=11000000/\DR n a/\(Ia n a->Q (.fz .non))/\∀b:List Nat,b.Perm (List.range n)->qR a b->Q (.ow (b.map dN))
noncomputable def uP(a:List Tr)(n:Nat):List (List D):=(List.range n).map λq=>(lK a q).map dN
theorem Qn(w:List Nat)(x:Nat):(w.map λ(k:Nat)=>(k:Int)).erase (x:Int)=(w.erase x).map λ(k:Nat)=>(k:Int):=by
 induction w with
 | nil=>rfl
 | cons a r b=>
  rw[ax,List.erase_cons,List.erase_cons];by_cases h:a=x
  .subst h;simp
  rw[if_neg (by simpa using λz=>h (by ext)),if_neg (by simpa using h),ax,b]
theorem Nc(x:Nat)(l:List Nat):inD (dN x) (l.map dN)=decide (x∈l):=by
 unfold inD;rw[List.any_map];induction l with
 | nil=>rfl
 | cons a r b=>
  rw[cA,b];by_cases h:x=a
  .subst h;simp[dN,fk]
  have:¬((a:Int)=(x:Int)):=λz=>h (by ext)
  have c:¬((x:Int)=(a:Int)):=λz=>h (by ext)
  simp[dN,fk,h,this,c]
theorem Qm(l:List Nat):∀e∈l.map dN,fG 8 e:=λe he=>by
 obtain⟨k,_,rfl⟩:=aN.mp he;unfold dN;rw[zd];trivial
def Ft:TX:=(dG (jJ 3 (y8 (mD (df (cZ 0) dn)) [none] (eD 0) jU (gF dn)))
 (dG (i9 (g9 (cZ 1)) (ju 3 (ff (eD 4) (ff (eD 5) (ff (eD 6) iJ)))) (BN 3 (cZ 5) (cZ 4)))
 (dG (jJ 7 (DV (df (cZ 0) dn)))
 (dG (jJ 8 (gF dn))
 (o9 3 (dG (D5 (eG (dg (hV λi j=>.bl (decide (j<i))) (yX 7) (dC (.int 0)))) (dG (jJ 9 (B5 7 (gr (g9 (cZ 7)) [none,some 7,some 3] (eD 0) (yO (eG (fb BC (df (gr (g9 (dg eF (cZ 2) (cZ 0))) [none,some 1] (eD 0) jU (dg (kX false) (cZ 0) (cZ 1))) dn)))) (cZ 0))))
 (o9 9 (dG (fU (eG (dg oEq (fb jT (df (cZ 9) dn)) (dC (.int 0)))) (gk (dC .non)) fY)
 (dG (jP 8 (dg eF (cZ 9) (dg (oI (λ_ j=>0<j) λi j=>.int (i%j)) (fT 2 rD (df (cZ 2) (df (dg fE (yX 8) (dC (.int 600))) dn))) (fb jT (df (cZ 9) dn)))))
 (Cp 7 (vO 8 (u7 (dC (.int 1))))))))))
 (pY 8)))))))
theorem UY:iH 3 z9 Ft ["_law_count","_law_above","_law_seed","_law_uppers","_law_p","_law_q","_law_c","_law_waiting","_law_turns_here","_law_ready"]:=by
 intro ds Qr hl h;obtain⟨n,f,H,rfl,M,E,K,R,Q⟩:=h;show Ft _ [.fz (.int n),.fz (nW f),.fz (.int H),.un,.un,.un,.un,.un,.un,.un];unfold Ft;have big:=i8;walk_at"px";show R4 (List.range n) dN (λ_=>[]) (λI h=>?_) (by simp;ext) (λd hd K1 k=>?_) ?_
 .walk_at"px";show⟨by ext,by ext,?_⟩;rw[Int.toNat_natCast];have X:(List.range n).map (λ(i:Nat)=>D.int (0+(i:Int)))=(List.range n).map dN:=List.map_congr_left λi _=>by rw[Int.zero_add];rfl
  rw[X];show h
 .walk_at"px";show⟨by ext,k⟩
 have Y:(List.range n).map (λ_=>([]:List D))=uP (f.take 0) n:=rfl;rw[Y];walk_at"go";show sk f dT (λI h=>?_) (λi j=>∃a b c:Sl,j=[.fz (.int n),.fz (nW f),.fz (.int H),.ov (.ll (uP (f.take i) n)),a,b,c,.un,.un,.un]) ⟨_,_,_,rfl⟩ ?_ ?_
 .unfold nW;walk_at"px";show h
 .rintro i t j hi ⟨a,b,c,rfl⟩;have GF:t∈f:=aL hi;obtain⟨v1,v2⟩:=K t GF;have tk:f.take (i+1)=f.take i++[t]:=by rw[br,hi];rfl
  have l1:=Jh (f.take i) t.2.1;have l2:(f.take i).length<=f.length:=by rw[aT];ext
  unfold dT;walk_at"px";have hlen:(uP (f.take i) n).length=n:=by unfold uP;simp
  show⟨t.2.1,(lK (f.take i) t.2.1).map dN,by rw[hlen];show Jm v2,QA (λq=>(lK (f.take i) q).map dN) v2,by rw[ae];ext,?_⟩;have:(uP (f.take i) n).set t.2.1 ((lK (f.take i) t.2.1).map dN++[.int t.1])=uP (f.take (i+1)) n:=by
   unfold uP;rw[R3,tk];apply List.map_congr_left;intro x _;rw[Qz];by_cases hx:x=t.2.1
   .rw[if_pos hx,if_pos hx,hx,aE];rfl
   rw[if_neg hx,if_neg hx]
  rw[this];show⟨_,_,_,rfl⟩
 rintro j ⟨a,b,c,rfl⟩;rw[bH];walk_at"go";show⟨by ext,by ext,?_⟩;rw[Int.toNat_natCast,show(List.range n).map (λ(i:Nat)=>D.int i)=(List.range n).map dN from rfl];walk_at"go";show⟨by ext,?_⟩;walk_at"go";show⟨λm j=>∃(w g:List Nat)(s:Sl),m=w.length/\(g++w).Perm (List.range n)/\qR f g/\j=[.fz (.int n),.fz (nW f),.fz (.int H),.fz (.lst ((uP f n).map .lst)),a,b,c,.ow (w.map dN),.ow (g.map dN),s],⟨_,List.range n,[],_,rfl,by simp,λpre q post e=>by simp at e,rfl⟩,?_⟩;rintro m j ⟨w,g,s,rfl,u,J,rfl⟩;have hlen:=u.length_eq;rw[aD,bG] at hlen;walk_at"px";rw[ae];by_cases hw:0<(w.length:Int)
 .rw[if_pos (by simpa using hw)];have N:∀x∈w,x<n:=λx hx=>bC.mp (u.subset (aQ _ hx))
  walk_at"px";show nR w dN dN (λq=>!(lK f q).any λp=>decide (p∈w)) (λI h=>?_) (by ext) (λx hx K1 K0 k1 U=>?_) ?_
  .walk_at"px";show h
  .have C:fK (uP f n) (x:Int)=some ((lK f x).map dN):=R1 (λq=>(lK f q).map dN) (N x hx);rw[show dN x=D.int x from rfl];walk_at"px";show oj (lK f x) dN (λp=>.bl (decide (p∈w))) (λI h=>?_) (by have:=Jh f x;ext) (λy hy K2 T=>?_) ?_
   .walk_at"px";show⟨_,C,h⟩
   .rw[show dN y=D.int y from rfl];walk_at"px";have:=Nc y w;rw[show dN y=D.int y from rfl] at this;show⟨Qm w,by rw[this];show T⟩
   rw[show((lK f x).map λp=>D.bl (decide (p∈w)))=((lK f x).map λp=>decide (p∈w)).map D.bl by rw[aU];rfl];simp only[ve,BC,SA];rw[List.any_map,show(id∘λp=>decide (p∈w))=(λp=>decide (p∈w)) from rfl];cases A:(lK f x).any λp=>decide (p∈w)
   .exact k1 (by simp[A])
   show U (by simp[A])
  generalize L:w.filter (λq=>!(lK f q).any λp=>decide (p∈w))=r;have XF:∀x∈r,x∈w/\∀t∈f,t.2.1=x->t.1∈g:=λx hx=>by
   rw[<-L] at hx;obtain⟨V,B⟩:=aP.mp hx;show⟨V,λt E F=>?_⟩;have hm:=qd.mpr ⟨t,E,rfl,F⟩;have M:t.1∉w:=λz=>by
    rw[List.any_eq_true.mpr ⟨t.1,hm,by simpa using z⟩] at B;cases B
   rcases au.mp (u.symm.subset (bC.mpr (K t E).1)) with z | z
   .exact z
   show absurd z M
  show⟨by simp[dN,ud],?_⟩;walk_at"go";rw[ae];by_cases h0:r=[]
  .subst h0;rw[if_pos (by simp)];show R ⟨w,λz=>?_,N,λq F=>?_⟩
   .rw[z] at hw;simp at hw
   have:q∉w.filter (λq=>!(lK f q).any λp=>decide (p∈w)):=by rw[L];simp
   rw[aP] at this;have B:(lK f q).any (λp=>decide (p∈w))=true:=by
    cases A:(lK f q).any λp=>decide (p∈w) with
    | true=>rfl
    | false=>show absurd ⟨F,by rw[A];rfl⟩ this
   obtain⟨p,AV,O⟩:=List.any_eq_true.mp B;obtain⟨t,t1,P,t3⟩:=qd.mp AV;show⟨t,t1,t3,by rw[P];simpa using O⟩
  have YO:0<r.length:=List.length_pos_iff.mpr h0;rw[if_neg (by ext)];walk_at"go";rw[ae,ae];show⟨_,_,rfl,by ext,by ext,?_⟩;generalize t7 _ _=v;have m0:=bJ v (show(r.length:Int)≠0 by ext);have S:=bK v (show(0:Int)<r.length by ext);obtain⟨W,C⟩:=we (l:=r) m0 S;have o:=XF _ (cv W);show⟨by ext,r[(v%r.length).toNat],C,by ext,?_⟩;generalize r[(v%r.length).toNat]=x at o;obtain⟨o,Z⟩:=o;walk_at"go";show⟨dN x,by rw[QF _ (by simp)];simp,w.map (λ(k:Nat)=>(k:Int)),x,by rw[aU];rfl,rfl,aN.mpr ⟨x,o,rfl⟩,?_⟩;rw[Qn,aU];have hle:=List.length_erase_of_mem o;show⟨(w.erase x).length,by ext,w.erase x,g++[x],_,rfl,?_,J.snoc Z,by rw[aE];rfl⟩;rw[bw];show(List.Perm.append_left g (List.perm_cons_erase o).symm).trans u
 rw[if_neg (by simpa using hw)];have:w=[]:=cf (by ext);subst this;walk_at"go";show Q g (by simpa using u) J
def uX(ps:List Pc)(a:List Int)(o:Nat)(t:Int)(q:Nat):Prop:=
 0<=gv a q/\((fV ps q).n=none\/(fV ps q).n≠(fV ps o).n)/\max (fV ps q).l (fV ps o).l<=min (fV ps q).r (fV ps o).r/\gv a q<t+(fV ps o).k/\t<gv a q+(fV ps q).k
def z8:fv:=λds Q=>∃(ps:List Pc)(a:List Int)(o:Nat)(t:Int),ds=[iI ps,.lst (a.map .int),.int o,.int t]/\ps.length<=1000/\a.length=ps.length/\o<ps.length/\
 ((∃q,q<ps.length/\uX ps a o t q)->Q (.fz (.bl false)))/\((∀q,q<ps.length->¬uX ps a o t q)->Q (.fz (.bl true)))
theorem vX{e:Type}(a b c d:e):fK [a,b,c,d] 0=some a:=rfl
theorem xM{e:Type}(a b c d:e):fK [a,b,c,d] 1=some b:=rfl
theorem xK{e:Type}(a b c d:e):fK [a,b,c,d] 2=some c:=rfl
theorem DQ{e:Type}(a b c d:e):fK [a,b,c,d] 3=some d:=rfl
theorem Qy(c:ki)(t u:TX):fU c t u=fU c (o5 t) u:=by unfold o5;rfl
theorem Nb{c:Prop}[Decidable c]{a b:Bool}{H Z:Prop}(h:c->a=true\/b=true->H)(z:¬(c/\(a=true\/b=true))->Z):if c then(if a=true then H else if b=true then H else Z) else Z:=by
 split
 .rename_i d;split
  .exact h d (.inl (by assumption))
  split
  .exact h d (.inr (by assumption))
  show z λw=>w.2.elim (by assumption) (by assumption)
 show z λw=>absurd w.1 (by assumption)
def Fs:TX:=(dG (i9 (mD (df (fb jT (df (cZ 0) dn)) dn)) (eD 4) (fU (my (eG (dg (hV λi j=>.bl (decide (j<=i))) (dg eF (cZ 1) (cZ 4)) (dC (.int 0)))) (Dn (eG (dg (kB false) (dg eF (dg eF (cZ 0) (cZ 4)) (dC (.int 0))) (dC .non))) (eG (dg yn (dg eF (dg eF (cZ 0) (cZ 4)) (dC (.int 0))) (dg eF (dg eF (cZ 0) (cZ 2)) (dC (.int 0))))))) (fU (eG (dg (hV λi j=>.bl (decide (i<=j))) (fb nZ (df (dg eF (dg eF (cZ 0) (cZ 4)) (dC (.int 1))) (df (dg eF (dg eF (cZ 0) (cZ 2)) (dC (.int 1))) dn))) (fb o8 (df (dg eF (dg eF (cZ 0) (cZ 4)) (dC (.int 2))) (df (dg eF (dg eF (cZ 0) (cZ 2)) (dC (.int 2))) dn))))) (fU (my (eG (dg (hV λi j=>.bl (decide (i<j))) (dg eF (cZ 1) (cZ 4)) (dg fE (cZ 3) (dg eF (dg eF (cZ 0) (cZ 2)) (dC (.int 3)))))) (eG (dg (hV λi j=>.bl (decide (i<j))) (cZ 3) (dg fE (dg eF (cZ 1) (cZ 4)) (dg eF (dg eF (cZ 0) (cZ 4)) (dC (.int 3))))))) (gk (dC (.bl false))) fY) fY) fY))
 (gk (dC (.bl true))))
theorem UX:iH 4 z8 Fs ["_law_pieces","_law_tracks_here","_law_one","_law_t","_law_q"]:=by
 intro ds K hl h;obtain⟨ps,b,o,t,rfl,d,M,H,x,v⟩:=h;show Fs _ [.fz (iI ps),.fz (.lst (b.map .int)),.fz (.int o),.fz (.int t),.un];unfold Fs;have big:=i8;have m:∀i,i<ps.length->fK ps (i:Int)=some (fV ps i):=λi hi=>by rw[xP hi];show kZ hi
 have u:∀i,i<ps.length->fK b (i:Int)=some (gv b i):=λi hi=>by rw[BZ (by ext)];show kZ (by ext)
 walk_at"px";show tS ps.length (λN h=>?_) (λi j=>∃s:Sl,(∀q,q<i->¬uX ps b o t q)/\j=[.fz (iI ps),.fz (.lst (b.map .int)),.fz (.int o),.fz (.int t),s]) ⟨_,λq y=>absurd y (Nat.not_lt_zero _),rfl⟩ ?_ ?_
 .unfold iI;walk_at"px";rw[ae];show⟨by ext,by ext,by simpa using h⟩
 .rintro i j hi ⟨s,g,rfl⟩;have C:=m i hi;have B:=m o H;have A:=u i hi;have nx:¬uX ps b o t i->∀q,q<i+1->¬uX ps b o t q:=λd q y=>by
   by_cases D:q=i
   .rw[D];show d
   show g q (by ext)
  have go:uX ps b o t i->K (.fz (.bl false)):=λh=>x ⟨i,hi,h⟩
  generalize I:(∀q,q<i+1->¬uX ps b o t q)=Inv at nx ⊢;unfold uX at nx go;generalize fV ps i=p at *;generalize fV ps o=po at *;generalize gv b i=L at *;clear m u g x v hl I;unfold iI;rw[Qy];walk_at"px";simp only[C,B,A,hZ,vX,xM,xK,DQ,aB,bz];walk_at"px";show Nb (λJ f=>?_) λd=>⟨_,nx λh=>d ⟨h.1,?_⟩,rfl⟩
  .have f:p.n=none\/p.n≠po.n:=by
    cases e:p.n with
    | none=>show .inl rfl
    | some w=>
     rw[e] at f;rcases f with z | z
     .cases z
     show .inr (by simpa using z)
   walk_at"go";simp only[C,B,A,hZ,vX,xM,xK,DQ,aB,bz];have F:(if po.l>p.l then po.l else p.l)=max p.l po.l:=by split<;>ext
   have E:(if po.r<p.r then po.r else p.r)=min p.r po.r:=by split<;>ext
   walk_at"px";rw[F,E];split
   .split
    .split
     .exact go ⟨J,f,by assumption,by assumption,by assumption⟩
     show⟨_,nx λh=>absurd h.2.2.2.2 (by assumption),rfl⟩
    show⟨_,nx λh=>absurd h.2.2.2.1 (by assumption),rfl⟩
   show⟨_,nx λh=>absurd h.2.2.1 (by assumption),rfl⟩
  rcases h.2.1 with z | z
  .exact .inl (by rw[z];rfl)
  show .inr (by simpa using z)
 rintro j ⟨s,g,rfl⟩;walk_at"go";show v g
def xx(ps:List Pc)(a:List Int)(p q:Nat):Prop:=
 ((fV ps q).n=none\/(fV ps q).n≠(fV ps p).n)/\max (fV ps q).l (fV ps p).l<=min (fV ps q).r (fV ps p).r/\gv a q<gv a p+(fV ps p).k/\gv a p<gv a q+(fV ps q).k
theorem xx.symm{ps:List Pc}{b:List Int}{p q:Nat}(h:xx ps b p q):xx ps b q p:=by
 obtain⟨a,e,d,c⟩:=h;show⟨?_,by ext,c,d⟩;rcases a with a | a
 .rw[a];cases (fV ps p).n with
  | none=>show .inl rfl
  | some w=>show .inr (by simp)
 show .inr (Ne.symm a)
structure xr(ps:List Pc)(ts:List Tr)(tr:List Int):Prop where
 len:tr.length=ps.length
 lo:∀q,q<ps.length->0<=gv tr q
 no:∀p q,p<ps.length->q<ps.length->p≠q->¬xx ps tr p q
 od:∀t∈ts,gv tr t.1+(fV ps t.1).k<=gv tr t.2.1
 hi:∀q,q<ps.length->gv tr q<=5*ps.length
def z6:fv:=λds Q=>∃(ps:List Pc)(a:List Tr)(b:List Nat)(d:Int),ds=[iI ps,nW a,.lst (b.map dN),.int d]/\ps.length<=1000/\DR ps.length a/\b.Perm (List.range ps.length)/\qR a b/\(∀q,q<ps.length->(fV ps q).k<=3)/\∀c,xr ps a c->Q (.ow (c.map .int))
theorem Ql(a:List Int)(o:Nat)(t:Int)(h:o<a.length)(q:Nat):gv (a.set o t) q=if q=o then t else gv a q:=by
 unfold gv;rw[List.getElem?_set];by_cases b:q=o
 .subst b;simp[h]
 rw[if_neg (Ne.symm b),if_neg b]
theorem NW(f:Nat->Int)(n:Nat):∃B:Int,∀q,q<n->f q<=B:=by
 induction n with
 | zero=>show⟨0,λq h=>absurd h (Nat.not_lt_zero _)⟩
 | succ n a=>
  obtain⟨B,b⟩:=a;show⟨max B (f n),λq c=>?_⟩;by_cases h:q=n
  .subst h;ext
  have:=b q (by ext);ext
structure uR(ps:List Pc)(ts:List Tr)(d:List Nat)(tr:List Int):Prop where
 len:tr.length=ps.length
 lo:∀q,q<ps.length->q∈d->0<=gv tr q
 no:∀p q,p<ps.length->q<ps.length->p∈d->q∈d->p≠q->¬xx ps tr p q
 od:∀t∈ts,t.2.1∈d->t.1∈d/\gv tr t.1+(fV ps t.1).k<=gv tr t.2.1
 hi:∀q,q<ps.length->gv tr q<=5*d.length
theorem uR.put{ps:List Pc}{g:List Tr}{d:List Nat}{b:List Int}(P:uR ps g d b){o:Nat}{t:Int}(C:o<ps.length)(hd:o∉d)(w:0<=t)(v:∀q,q<ps.length->¬uX ps b o t q)(ha:∀x∈g,x.2.1=o->x.1∈d/\gv b x.1+(fV ps x.1).k<=t)(B:t<=5*d.length+5):uR ps g (d++[o]) (b.set o t):=by
 have u:=P.len;have e:=λq=>Ql b o t (by ext) q
 show⟨by simpa using u,λq a hm=>?_,λp q i a l m n c=>?_,λx hx hm=>?_,λq a=>?_⟩
 .rw[e];by_cases h:q=o
  .rw[if_pos h];show w
  rw[if_neg h];rcases au.mp hm with z | z
  .exact P.lo q a z
  simp at z;show absurd z h
 .have k:∀q,q<ps.length->q∈d++[o]->q≠o->q∈d:=λq _ hm h=>by
   rcases au.mp hm with z | z
   .exact z
   simp at z;show absurd z h
  have one:∀q,q<ps.length->q∈d++[o]->q≠o->¬xx ps (b.set o t) o q:=λq a hm h c=>by
   obtain⟨A,y,s,r⟩:=c;rw[e,if_neg h,e,if_pos rfl] at s;rw[e,if_pos rfl,e,if_neg h] at r;show v q a ⟨P.lo q a (k q a hm h),A,y,s,r⟩
  by_cases f:p=o
  .subst f;show one q a m (Ne.symm n) c
  by_cases j:q=o
  .subst j;show one p i l f c.symm
  unfold xx at c;rw[e,if_neg j,e,if_neg f] at c;show P.no p q i a (k p i l f) (k q a m j) n c
 .have key:x.1∈d/\gv b x.1+(fV ps x.1).k<=(if x.2.1=o then t else gv b x.2.1):=by
   by_cases h:x.2.1=o
   .rw[if_pos h];show ha x hx h
   rw[if_neg h];show P.od x hx ?_;rcases au.mp hm with z | z
   .exact z
   simp at z;show absurd z h
  have f:x.1≠o:=λz=>hd (z▸key.1)
  show⟨bF _ key.1,?_⟩;rw[e,if_neg f,e];show key.2
 rw[e,aD,List.length_singleton];have:=P.hi q a;split<;>ext
def Fo:TX:=(dG (jJ 4 (gr (g9 (cZ 0)) [none] (eD 0) jU (u7 (dC (.int 1)))))
 (dG (i9 (vb (df (cZ 2) dn)) (ju 2 (ff (eD 5) (ff (eD 6) iJ))) (dG (e8 7 (dg eF (gF (df (dC (.int 0)) (df (dC (.int 0)) (df (dC (.int 0)) (df (dC (.int 1)) (df (dC (.int 2)) dn)))))) (dg (oI (λ_ j=>0<j) λi j=>.int (i%j)) (fT 2 rD (df (cZ 3) (df (dg fE (cZ 5) (dC (.int 700))) dn))) (dC (.int 5)))))
 (dG (i9 (g9 (cZ 1)) (ju 3 (ff (eD 8) (ff (eD 9) (ff (eD 10) iJ)))) (fU (eG (dg oEq (cZ 9) (cZ 6))) (e8 7 (fb nZ (df (cZ 7) (df (dg fE (vO 4 (cZ 8)) (dg eF (dg eF (cZ 0) (cZ 8)) (dC (.int 3)))) dn)))) fY))
 (dG (D5 (yO (eG (DI 4 (fT 4 z8 (df (cZ 0) (df (cZ 4) (df (cZ 6) (df (cZ 7) dn)))))))) (e8 7 (dg fE (cZ 7) (dC (.int 1)))))
 (B6 4 (cZ 6) (cZ 7))))))
 (pY 4)))
theorem VL:iH 4 z6 Fo ["_law_pieces","_law_above","_law_turns_here","_law_seed","_law_tracks_here","_law_k","_law_one","_law_t","_law_p","_law_q","_law_c"]:=by
 intro ds Qr hl h;obtain⟨ps,s,n,F,rfl,Z,M,y,U,L,q⟩:=h;show Fo _ [.fz (iI ps),.fz (nW s),.fz (.lst (n.map dN)),.fz (.int F),.un,.un,.un,.un,.un,.un,.un];unfold Fo;have big:=i8;have Y:∀i,i<ps.length->fK ps (i:Int)=some (fV ps i):=λi hi=>by rw[xP hi];show kZ hi
 have S:=y.length_eq;rw[bG] at S;have GF:∀o∈n,o<ps.length:=λo h=>bC.mp (y.subset h)
 have T:n.Nodup:=y.nodup_iff.mpr List.nodup_range;walk_at"px";show oj ps hZ (λ_=>.int (-1)) (λQ h=>?_) (by ext) (λp y K1 k=>?_) ?_
 .unfold iI;walk_at"px";show h
 .walk_at"px";show k
 rw[show ps.map (λ_=>D.int (-1))=(ps.map λ_=>(-1:Int)).map D.int by rw[aU];rfl];walk_at"go";show EN n dN (λQ h=>?_) (λi u=>∃(r:List Int)(a b c d e f:Sl),uR ps s (n.take i) r/\u=[.fz (iI ps),.fz (nW s),.fz (.lst (n.map dN)),.fz (.int F),.ow (r.map .int),a,b,c,d,e,f]) ⟨_,_,_,_,_,_,_,⟨by simp,λq _ g=>by simp at g,λp q _ _ h=>by simp at h,λt _ h=>by simp at h,λq g=>by unfold gv;simp[g]⟩,rfl⟩ ?_ ?_
 .walk_at"px";show h
 .rintro i o u hi ⟨r,a,b,c,d,e,f,P,rfl⟩;have vB:i<n.length:=(ar.mp hi).1;have H:=GF o (aL hi);have tk:n.take (i+1)=n.take i++[o]:=by rw[br,hi];rfl
  have X:o∉n.take i:=by
   have A:=(List.take_sublist (i+1) n).nodup T;rw[tk,List.nodup_append] at A;show λz=>A.2.2 o z o (by simp) rfl
  have W:∀t∈s,t.2.1=o->t.1∈n.take i:=U _ o (n.drop (i+1)) (by rw[List.append_cons,<-tk,bI])
  have K:(n.take i).length=i:=by rw[aT];ext
  rw[tk];rw[show dN o=D.int o from rfl];walk_at"px";show⟨by ext,_,_,rfl,by ext,by ext,?_⟩;generalize t7 _ _=v;have m0:=bJ v (show(5:Int)≠0 by ext);have m1:=bK v (show(0:Int)<5 by ext);obtain⟨t0,Xx,Xw,Hj⟩:∃t0:Int,0<=t0/\t0<=2/\fK [D.int 0,D.int 0,D.int 0,D.int 1,D.int 2] (v%5)=some (.int t0):=by
   have:v%5=0\/v%5=1\/v%5=2\/v%5=3\/v%5=4:=by ext
   rcases this with z | z | z | z | z<;>rw[z]
   .exact⟨0,by ext,by ext,rfl⟩
   .exact⟨0,by ext,by ext,rfl⟩
   .exact⟨0,by ext,by ext,rfl⟩
   .exact⟨1,by ext,by ext,rfl⟩
   show⟨2,by ext,by ext,rfl⟩
  show⟨by ext,_,Hj,?_⟩;have V:∀i,i<ps.length->fK r (i:Int)=some (gv r i):=λi hi=>by rw[BZ (by rw[P.len];show hi)];show kZ (by rw[P.len];show hi)
  walk_at"go";show sk s dT (λQ h=>?_) (λj u=>∃(t:Int)(d e f:Sl),0<=t/\t<=5*i+5/\(∀x∈s.take j,x.2.1=o->gv r x.1+(fV ps x.1).k<=t)/\u=[.fz (iI ps),.fz (nW s),.fz (.lst (n.map dN)),.fz (.int F),.ow (r.map .int),.fz (.int i),.fz (.int o),.fz (.int t),d,e,f]) ⟨_,_,_,_,Xx,by ext,λx hx=>by simp at hx,rfl⟩ ?_ ?_
  .unfold nW;walk_at"px";show h
  .rintro j tt u O ⟨t,d,e,f,h0,C,w,rfl⟩;have R:s.take (j+1)=s.take j++[tt]:=by rw[br,O];rfl
   obtain⟨v1,v2⟩:=M tt (aL O);have A:=Y _ v1;have E:=V _ v1;unfold dT iI;walk_at"px";simp only[A,E,hZ,DQ,aB,bz];walk_at"px";split
   .have J:=P.hi _ v1;have b2:=L _ v1;rw[K] at J;show⟨_,_,_,_,by split<;>ext,by split<;>ext,λx hx g=>?_,rfl⟩;rw[R] at hx;rcases au.mp hx with hx | hx
    .have:=w x hx g;split<;>ext
    simp at hx;subst hx;split<;>ext
   rename_i fh;show⟨_,_,_,_,h0,C,λx hx g=>?_,rfl⟩;rw[R] at hx;rcases au.mp hx with hx | hx
   .exact w x hx g
   simp at hx;subst hx;show absurd (by ext) fh
  rintro u ⟨t,d,e,f,h0,C,w,rfl⟩;rw[bH] at w;walk_at"go";obtain⟨B,hB⟩:=NW (λq=>gv r q+(fV ps q).k) ps.length;show⟨λm u=>∃t:Int,0<=t/\t<=5*i+5/\(∀x∈s,x.2.1=o->gv r x.1+(fV ps x.1).k<=t)/\m=(B-t).toNat/\u=[.fz (iI ps),.fz (nW s),.fz (.lst (n.map dN)),.fz (.int F),.ow (r.map .int),.fz (.int i),.fz (.int o),.fz (.int t),d,e,f],⟨_,_,h0,C,w,rfl,rfl⟩,?_⟩;rintro m u ⟨t,h0,C,w,rfl,rfl⟩;walk_at"px";show⟨ps,r,o,t,rfl,Z,P.len,H,λI=>?_,λI=>?_⟩
  .obtain⟨q,g,h⟩:=I;have C:=hB q g;have h6:=h.2.2.2.2;have J:=P.hi q g;have b2:=L q g;rw[K] at J;walk_at"px";try show⟨rfl,?_⟩
   show⟨_,by ext,_,by ext,by ext,λx hx g=>by have:=w x hx g;ext,rfl,rfl⟩
  walk_at"px";try show⟨rfl,?_⟩
  walk_at"go";show⟨o,by rw[ae,P.len];show Jm H,?_⟩;rw[<-List.map_set];show⟨r.set o t,_,_,_,_,_,_,P.put H X h0 I (λx hx g=>⟨W x hx g,w x hx g⟩) (by rw[K];show C),rfl⟩
 rintro u ⟨r,a,b,c,d,e,f,P,rfl⟩;rw[bH] at P;walk_at"go";show q r ⟨P.len,λq g=>P.lo q g (y.symm.subset (bC.mpr g)),λp q A E=>P.no p q A E (y.symm.subset (bC.mpr A)) (y.symm.subset (bC.mpr E)),λt N=>(P.od t N (y.symm.subset (bC.mpr (M t N).2))).2,λq g=>by have:=P.hi q g;rw[S] at this;show this⟩
theorem Eo(w:Str)(k a x:Int)(r:List Int):rV w k (a::x::r)=⟨some w,a,x,k⟩::rV w k (x::r):=by
 unfold rV;simp
theorem IG(w:Str)(k:Int):∀(bs:List Int),bs.Pairwise (·<·)->∀p∈rV w k bs,p.n=some w/\p.k=k/\p.l<p.r/\p.l∈bs/\p.r∈bs
 | [],_,p,h=>by simp[rV] at h
 | [a],_,p,h=>by simp[rV] at h
 | a::x::r,u,p,h=>by
  rw[Eo] at h;rcases av.mp h with rfl | h
  .exact⟨rfl,rfl,(bN.mp u).1 x (by simp),by simp,by simp⟩
  obtain⟨f,e,d,c,b⟩:=IG w k (x::r) (bN.mp u).2 p h;show⟨f,e,d,aK _ c,aK _ b⟩
section
variable{ws:List Str}{most:Nat}{c:dX}{w:Str}
theorem Qk(g:fO ws most c)(h:w∈c.left\/w∈c.right):∃a∈pl c w,∃b∈pl c w,a<b:=by
 have j:=g.cnt w;have nl:=Jj (IH g.lo) w;have m:=Jj (IH g.ro) w;have top:∀n:Nat,c.top[n]?=some (some w)->(n:Int)∈pl c w/\n<c.top.length:=λn d=>by
  have i:=(ar.mp d).1;show⟨?_,i⟩;unfold pl;show bF _ (aQ _ (aN.mpr ⟨n,aP.mpr ⟨bC.mpr i,by simp[d]⟩,rfl⟩))
 have bot:∀n:Nat,c.c6[n]?=some (some w)->(n:Int)∈pl c w/\n<c.top.length:=λn d=>by
  have i:n<c.top.length:=by rw[<-g.bl];show(ar.mp d).1
  show⟨?_,i⟩;unfold pl;show bF _ (aQ _ (aN.mpr ⟨n,aP.mpr ⟨bC.mpr i,by simp[d]⟩,rfl⟩))
 have lf:w∈c.left->(-1:Int)∈pl c w:=λh=>by unfold pl;simp[h]
 have rt:w∈c.right->(c.top.length:Int)∈pl c w:=λh=>by unfold pl;simp[h]
 have mid:(∃n:Nat,(n:Int)∈pl c w/\n<c.top.length)->∃a∈pl c w,∃b∈pl c w,a<b:=λ⟨n,f,l⟩=>by
  rcases h with h | h
  .exact⟨_,lf h,_,f,by ext⟩
  show⟨_,f,_,rt h,by ext⟩
 by_cases f:some w∈c.top
 .obtain⟨n,d⟩:=List.mem_iff_getElem?.mp f;show mid ⟨n,top n d⟩
 by_cases l:some w∈c.c6
 .obtain⟨n,d⟩:=List.mem_iff_getElem?.mp l;show mid ⟨n,bot n d⟩
 unfold fZ at j;rw[bT.mpr f,bT.mpr l,nl,m] at j;by_cases k:w∈c.left
 .by_cases e:w∈c.right
  .exact⟨_,lf k,_,rt e,by ext⟩
  simp[k,e] at j
 by_cases e:w∈c.right
 .simp[k,e] at j
 rcases h with h | h
 .exact absurd h k
 show absurd h e
theorem Ka(h:∃a∈pl c w,∃b∈pl c w,a<b):∃a b,rW (pl c w)=some (a,b)/\a<b/\(∀k∈pl c w,a<=k/\k<=b)/\a∈pl c w/\b∈pl c w:=by
 obtain⟨x,hx,y,e,i⟩:=h;have up:=BF c w;generalize pl c w=l at hx e up;cases l with
 | nil=>cases hx
 | cons a r=>
  have lm:=zh up;have lo:∀k∈a::r,a<=k:=λk d=>by
   rcases av.mp d with rfl | d
   .omega
   have:=(bN.mp up).1 k d;ext
  have g:=lo x hx;have f:=lm y e;show⟨a,(a::r).getLast (by simp),?_,by ext,λk d=>⟨lo k d,lm k d⟩,by simp,List.getLast_mem _⟩;simp only[rW];rw[if_neg (by ext)]
theorem Kq(k:Int)(h:k∈pl c w):-1<=k/\k<=c.top.length:=by
 unfold pl at h;rcases au.mp h with h | h
 .rcases au.mp h with h | h
  .split at h
   .simp at h;ext
   cases h
  obtain⟨n,a,rfl⟩:=aN.mp h;have:=bC.mp (aP.mp a).1;ext
 split at h
 .simp at h;ext
 cases h
theorem Tq(g:fO ws most c)(l:most<=40)(d:Bool){a b:Int}(h:rW (pl c w)=some (a,b))(j:a<b):([a]++(if d then pd c w else [])++[b]).Pairwise (·<·):=by
 have bi:∀x∈(if d then pd c w else []),a<x/\x<b:=λx hx=>by
  cases d with
  | false=>simp at hx
  | true=>
   simp only[aX] at hx;unfold pd at hx;obtain⟨p,k,rfl⟩:=aN.mp hx;obtain⟨q,i⟩:=aP.mp k;obtain⟨_,s,r,e,n,m⟩:=Ji g l q;rw[show p.2=w by simpa using i,h] at e;cases e;show⟨n,m⟩
 have o:(if d then pd c w else []).Pairwise (·<·):=by
  cases d with
  | false=>simp
  | true=>
   simp only[aX];unfold pd;rw[List.pairwise_map];show g.be.up.sublist List.filter_sublist
 rw[bx];show⟨?_,by simp,λx hx y f=>?_⟩
 .rw[bx];show⟨by simp,o,λx hx y f=>by simp at hx;subst hx;show(bi y f).1⟩
 simp at f;subst f;rcases au.mp hx with hx | hx
 .simp at hx;subst hx;show j
 show(bi x hx).2
theorem Jg(g:fO ws most c)(z:most<=40)(o:Bool){p:Pc}(h:p∈pT c o w):p.n=some w/\p.k=pV c.wide w/\p.l<p.r/\-1<=p.l/\p.r<=c.top.length:=by
 unfold pT at h;split at h
 .cases h
 rename_i q e;obtain⟨a,b⟩:=q;have d:a<b/\(∀k∈pl c w,a<=k/\k<=b)/\a∈pl c w/\b∈pl c w:=by
  have:∃a∈pl c w,∃b∈pl c w,a<b:=by
   have up:=BF c w;generalize pl c w=l at e up;cases l with
   | nil=>cases e
   | cons x r=>
    simp only[rW] at e;split at e
    .cases e
    rename_i C
    show⟨x,by simp,_,List.getLast_mem (by simp),by
     have:=zh up x (by simp);ext⟩
  obtain⟨G,F,u,m,j,i,f⟩:=Ka this;rw[e] at u;cases u;show⟨m,j,i,f⟩
 have v:=Tq g z o e d.1;obtain⟨m,j,i,f,A⟩:=IG w _ _ v p h;have lo:∀x∈[a]++(if o then pd c w else [])++[b],a<=x/\x<=b:=λx hx=>by
  have t:=v;rw[bw,List.singleton_append] at hx t;have s:=bN.mp t;have y:=(bx.mp s.2).2.2;rcases av.mp hx with rfl | hx
  .exact⟨by ext,by ext⟩
  show⟨by have:=s.1 x hx;ext,?_⟩;rcases au.mp hx with hx | hx
  .have:=y x hx b (by simp);ext
  simp at hx;ext
 have E:=Kq a d.2.2.1;have D:=Kq b d.2.2.2;have l1:=lo _ f;have B:=lo _ A;show⟨m,j,i,by ext,by ext⟩
theorem R0(a:Bool){p:Pc}(h:p∈pT c a w):p.n=some w:=by
 unfold pT at h;split at h
 .cases h
 unfold rV at h;obtain⟨_,_,rfl⟩:=aN.mp h;rfl
end
theorem wa{ps:List Pc}{n:Option Str}{k:Int}{j:Nat}(h:j∈kA ps n k):j<ps.length/\(fV ps j).n=n/\(fV ps j).l<=k/\k<=(fV ps j).r:=by
 unfold kA at h;obtain⟨p,d,rfl⟩:=aN.mp h;obtain⟨g,a⟩:=aP.mp d;have c:=List.mem_zipIdx g;obtain⟨_,c,f⟩:=c;have b:p.2<ps.length:=by ext
 have e:fV ps p.2=p.1:=by
  rw[xP b];simpa using f.symm
 rw[e];simp only[pU,bY,ba] at a;show⟨b,a.1,a.2.1,a.2.2⟩
theorem Qj{ws:List Str}{a:Nat}{c:dX}(g:fO ws a c)(w:Str):1<=pV c.wide w:=by
 have h:=λp e=>(g.ww p e).2.1
 generalize c.wide=l at h;induction l with
 | nil=>show cL 1
 | cons p r b=>
  unfold pV;split
  .have:=h p (by simp);ext
  show b λq d=>h q (aK _ d)
theorem NV{ws:List Str}{a:Nat}{c:dX}(g:fO ws a c)(w:Str):pV c.wide w<=3:=by
 have h:=λp e=>(g.ww p e).2.1
 generalize c.wide=l at h;induction l with
 | nil=>show(1:Int)<=3;decide
 | cons p r b=>
  unfold pV;split
  .have:=h p (by simp);ext
  show b λq d=>h q (aK _ d)
theorem J9{ws:List Str}{a:Nat}{c:dX}(g:fO ws a c)(e:a<=40)(d:Bool)(l:List Str):∀p∈dF c d l,1<=p.k/\p.k<=3:=λp b=>by
 unfold dF at b;rcases au.mp b with b | b
 .obtain⟨k,f,rfl⟩:=aN.mp b;show(g.ke.2 k f).2.2.2
 obtain⟨w,_,b⟩:=cT.mp b;rw[(Jg g e d b).2.1];show⟨Qj g w,NV g w⟩
noncomputable def kx(c:dX)(d:Bool)(ps:List Pc)(a:List Tr)(b:List Int)(n:Int):D:=.obj "Layout" [("channel",c.obj),("bent",.bl d),("pieces",iI ps),("above",nW a),("tracks",.lst (b.map .int)),("count",.int n)]
structure qu(ps:List Pc)(tr:List Int)(n:Int):Prop where
 ge:∀p∈ps.zip tr,p.2+p.1.k<=n
 at_:(ps.zip tr=[]/\n=0)\/∃p∈ps.zip tr,n=p.2+p.1.k
def yd:fv:=λds Q=>∃(ps:List Pc)(a:List Int),ds=[iI ps,dI a]/\ps.length<=1000/\∀n,qu ps a n->Q (.fz (.int n))
def Fe:TX:=(gk (BQ (gr (rY (df (cZ 0) (df (cZ 1) dn))) [none,none] (ju 2 (ff (eD 0) (ff (eD 1) iJ))) jU (dg fE (cZ 1) (dg eF (cZ 0) (dC (.int 3))))) (dC (.int 0))))
theorem Uy:iH 2 yd Fe ["pieces","tracks"]:=by
 intro ds j hl h;obtain⟨ps,d,rfl,b,q⟩:=h;show Fe _ [.fz (iI ps),.fz (dI d)];unfold Fe;have big:=i8;show BQ _ _ _ _;unfold BQ;show oj (ps.zip d) (λp=>.tup [hZ p.1,.int p.2]) (λp=>.int (p.2+p.1.k)) (λm h=>?_) (by rw[List.length_zip];ext) (λp b o k1=>?_) ?_
 .unfold iI dI;walk_at"px";rw[x8];show h
 .rw[show hZ p.1=.tup [dO p.1.n,.int p.1.l,.int p.1.r,.int p.1.k] from rfl];walk_at"px";show⟨_,rfl,k1⟩
 show⟨(ps.zip d).map λp=>p.2+p.1.k,by rw[aU];rfl,λe=>?_,λn i le=>?_⟩
 .have g:ps.zip d=[]:=by simpa using e
  show q 0 ⟨λp b=>(by rw[g] at b;cases b),.inl ⟨g,rfl⟩⟩
 obtain⟨p,b,rfl⟩:=aN.mp i;show q _ ⟨λx hx=>le _ (bP (f:=λp:Pc×Int=>p.2+p.1.k) hx),.inr ⟨p,b,rfl⟩⟩
def zu:fv:=λds Q=>∃(c:dX)(d:Bool)(ps:List Pc)(b:List Tr)(a:List Int),ds=[c.obj,.bl d,iI ps,nW b,.lst (a.map .int)]/\ps.length<=1000/\∀n,qu ps a n->Q (.fz (kx c d ps b a n))
def Ct:vH:=(o7 "channel" (cZ 1) (o7 "bent" (cZ 2) (o7 "pieces" (fb nO (df (cZ 3) dn)) (o7 "above" (fb nO (df (cZ 4) dn)) (o7 "tracks" (fb nO (df (cZ 5) dn)) (o7 "count" (fT 2 yd (df (cZ 3) (df (cZ 5) dn))) yQ))))))
theorem Ut(ds:List D)(b:R->Prop)(d:List (Str×D)->Prop)(na:∀fs:List (Str×D),fs.map (·.1)=(["channel","bent","pieces","above","tracks","count"]:List Str)->d fs)(h:zu ds b) :
  Ct (ue ["self","channel","bent","pieces","above","tracks"] ds) [] λfs=>d fs/\b (.fz (.obj "Layout" fs)):=by
 obtain⟨c,i,ps,e,a,rfl,g,q⟩:=h;show Ct [.un,.fz c.obj,.fz (.bl i),.fz (iI ps),.fz (nW e),.fz (.lst (a.map .int))] [] _;unfold Ct;unfold iI nW;simp only[o7,yQ,fb,df,dn,cZ,gt,nO,xR,ve];show⟨by decide,show 1<1000 by decide,show 2<1000 by decide,show 3<1000 by decide,show 4<1000 by decide,?_⟩;simp only[fT,df,dn,cZ,gt,xR];show⟨rfl,ps,a,rfl,g,λn f=>⟨show 5<1000 by decide,na _ rfl,q n f⟩⟩
theorem IF{ps:List Pc}{p:Pc×Nat}(h:p∈ps.zipIdx):p.2<ps.length:=(ar.mp (List.mem_zipIdx_iff_getElem?.mp h)).1
theorem IE{ps:List Pc}{p:Pc×Nat}(h:p∈ps.zipIdx):fV ps p.2=p.1:=by
 unfold fV;rw[List.mem_zipIdx_iff_getElem?.mp h];rfl
theorem ID{c:dX}{ps:List Pc}{t:Tr}(h:t∈oF c ps):(t.1<ps.length/\t.2.1<ps.length)/\∃(n:Nat)(u v:Str),c.top[n]?=some (some u)/\c.c6[n]?=some (some v):=by
 unfold oF at h;obtain⟨n,_,d⟩:=cT.mp h;unfold rh at d;split at d
 .rename_i u v g f;split at d
  .cases d
  obtain⟨a,ha,d⟩:=cT.mp d;obtain⟨b,e,rfl⟩:=aN.mp d;show⟨⟨(wa ha).1,(wa e).1⟩,n,u,v,g,f⟩
 cases d
theorem Jf{ps:List Pc}{t:Tr}(h:t∈kW ps):(t.1<ps.length/\t.2.1<ps.length)/\(fV ps t.1).n=none/\(fV ps t.2.1).n≠none:=by
 unfold kW at h;obtain⟨p,d,a⟩:=cT.mp h;unfold tN at a;split at a
 .rename_i i;obtain⟨x,hx,rfl⟩:=aN.mp a;unfold vR u9 at hx;obtain⟨y,g,e⟩:=List.mem_filterMap.mp hx;obtain⟨z,hz,rfl⟩:=aN.mp g;obtain⟨j,_,rfl⟩:=cC.mp e;obtain⟨c,b⟩:=aP.mp hz;show⟨⟨IF d,IF c⟩,by rw[IE d];show i,?_⟩;dsimp only;rw[IE c];intro f;rw[f] at b;cases b
 cases a
theorem Qx{c:dX}{ps:List Pc}{b:List Tr}(h:Above c ps b):DR ps.length b:=λt a=>by
 rcases au.mp (h.pm.mem_iff.mp a) with a | a
 .exact(ID a).1
 show(Jf a).1
theorem Qw{c:dX}{ps:List Pc}{b:List Tr}(h:Above c ps b)(nb:DX c):¬Ia ps.length b:=λ⟨S,i,_,f⟩=>by
 have key:∀t∈b,(fV ps t.1).n=none/\(fV ps t.2.1).n≠none:=λt a=>by
  rcases au.mp (h.pm.mem_iff.mp a) with a | a
  .obtain⟨_,n,u,v,l,k⟩:=ID a;show(nb n u v l k).elim
  show(Jf a).2
 cases S with
 | nil=>show i rfl
 | cons q S=>
  obtain⟨t,a,_,g⟩:=f q (by simp);obtain⟨t',j,e,_⟩:=f t.1 g;have k1:=(key t a).1;have d:=(key t' j).2;rw[e] at d;show d k1
structure iQ(c:dX)(c8:Bool)(l:List Str)(ts:List Tr)(tr:List Int)(n:Int):Prop where
 good:∃(ws:List Str)(most:Nat),ws.length<=8/\most<=16/\fO ws most c
 Gi:xv c l
 ab:Above c (dF c c8 l) ts
 oO:(dF c c8 l).length<=500
 qH:xr (dF c c8 l) ts tr
 cnt:qu (dF c c8 l) tr n
def z5:fv:=λds Q=>∃(ws:List Str)(most:Nat)(c:dX)(e:Int),ds=[.lst c.parts,.int e]/\ws.length<=8/\most<=16/\fO ws most c/\∀c a l b d n,iQ c a l b d n->Q (.fz (kx c a (dF c a l) b d n))
def Fn:TX:=(dG (e8 2 (gF (df (gF (df (cZ 0) (df (dg oEq (dg (oI (λ_ j=>0<j) λi j=>.int (i%j)) (cZ 1) (dC (.int 2))) (dC (.int 1))) dn))) (df (gF (df (cZ 0) (df (dg oEq (dg (oI (λ_ j=>0<j) λi j=>.int (i%j)) (cZ 1) (dC (.int 2))) (dC (.int 0))) dn))) (df (gF (df (fT 1 Aa (df (cZ 0) dn)) (df (dg oEq (dg (oI (λ_ j=>0<j) λi j=>.int (i%j)) (cZ 1) (dC (.int 4))) (dC (.int 1))) dn))) dn)))))
 (dG (i9 (g9 (cZ 2)) (xD 2 (ff (eD 3) (ff (eD 4) iJ))) (dG (e8 5 (fT 7 zJ (df (dg eF (cZ 3) (dC (.int 0))) (df (dg eF (cZ 3) (dC (.int 1))) (df (dg eF (cZ 3) (dC (.int 2))) (df (dg eF (cZ 3) (dC (.int 3))) (df (dg eF (cZ 3) (dC (.int 4))) (df (dg eF (cZ 3) (dC (.int 5))) (df (dg eF (cZ 3) (dC (.int 6))) dn)))))))))
 (dG (e8 6 (fT 2 zB (df (cZ 5) (df (cZ 4) dn))))
 (dG (e8 7 (fT 2 zz (df (cZ 5) (df (cZ 6) dn))))
 (dG (e8 8 (fT 3 z9 (df (fb jT (df (cZ 6) dn)) (df (cZ 7) (df (cZ 1) dn)))))
 (fU (eG (dg (kB true) (cZ 8) (dC .non))) (gk (fT 5 zu (df (cZ 5) (df (cZ 4) (df (cZ 6) (df (cZ 7) (df (fT 4 z6 (df (cZ 6) (df (cZ 7) (df (cZ 8) (df (cZ 1) dn))))) dn))))))) fY))))))
 (gk (dC .non))))
theorem VJ:iH 2 z5 Fn ["_law_lists","_law_seed","_law_some","_law_row","_law_bent","_law_channel_here","_law_pieces","_law_above","_law_turns_here"]:=by
 intro ds T hl h;obtain⟨ws,most,r,o,rfl,X,hm,t,q⟩:=h;show Fn _ [.fz (.lst r.parts),.fz (.int o),.un,.un,.un,.un,.un,.un,.un];unfold Fn;have big:=i8;walk_at"px";show⟨by ext,by ext,ws,most,r,rfl,by ext,by ext,t,λc1 g1 W nb=>⟨by ext,by ext,?_⟩⟩;obtain⟨L,B,P⟩:∃L:List (dX×Bool),L=[(r,decide (o%2=1)),(r,decide (o%2=0)),(c1,decide (o%4=1))]/\D.lst [D.lst [D.lst r.parts,D.bl (decide (o%2=1))],D.lst [D.lst r.parts,D.bl (decide (o%2=0))],D.lst [(R.ow c1.parts).val,D.bl (decide (o%4=1))]]=.lst (L.map λx=>.lst [.lst x.1.parts,.bl x.2]):=⟨_,rfl,rfl⟩
 rw[P];walk_at"go";show sk L (λx=>.lst [.lst x.1.parts,.bl x.2]) (λZ h=>?_) (λi s=>i<=2/\∃a b d e f k:Sl,s=[.fz (.lst r.parts),.fz (.int o),.fz (.lst (L.map λx=>.lst [.lst x.1.parts,.bl x.2])),a,b,d,e,f,k]) ⟨by ext,_,_,_,_,_,_,rfl⟩ ?_ ?_
 .walk_at"px";show h
 .rintro i ⟨c,j⟩ s hi ⟨V,a,b,d,e,f,k,rfl⟩;have J:fO ws most c/\(i=2->DX c):=by
   rw[B] at hi;match i,hi,V with
   | 0,hi,_=>cases hi;show⟨t,λz=>by ext⟩
   | 1,hi,_=>cases hi;show⟨t,λz=>by ext⟩
   | 2,hi,_=>cases hi;show⟨g1,λ_=>nb⟩
  clear hi;obtain⟨g,S⟩:=J;have sh:=Jk g (by ext);have be:=g.be.len;have w2:=g.w2;have ke:=g.ke.1;generalize K:(λx:dX×Bool=>D.lst [D.lst x.1.parts,D.bl x.2])=F at *;rw[<-K];dsimp only;generalize Y:r.parts=P0 at *;unfold dX.parts;walk_at"px";show⟨_,rfl,_,rfl,_,rfl,_,rfl,_,rfl,_,rfl,_,rfl,_,_,_,_,_,_,_,rfl,?_⟩;show o5 _ _ [_,_,_,_,_,.fz c.obj,_,_,_];walk_at"go";show⟨c,j,ws,rfl,sh,by ext,by ext,by ext,Kb g,λl N=>?_⟩;have hpl:(dF c j l).length<=500:=by
   have O:=wq N.nd λw hw=>Kb g w ((N.mem w).mp hw)
   have M:=Ep (pT c j) (c.dR.length+1) (Er c j) l;have C:l.length*(c.dR.length+1)<=8*17:=Nat.mul_le_mul (by ext) (by ext);unfold dF;rw[aD,show(vY c).length=c.keeps.length from ae _];ext
  have v:∀q,q<(dF c j l).length->(fV (dF c j l) q).k<=3:=λq A=>(J9 g (by ext) j l _ (by rw[xP A];show cv A)).2
  have fin:∀m p n,Above c (dF c j l) m->xr (dF c j l) m p->qu (dF c j l) p n->T (R.fz (kx c j (dF c j l) m p n)):=λm p n ab ok u=>q c j l m p n ⟨⟨ws,most,by ext,hm,g⟩,N,ab,hpl,ok,u⟩
  generalize dF c j l=ps at hpl fin v ⊢;have Q:D.lst (ps.map hZ)=iI ps:=rfl;simp only[ve];rw[Q];walk_at"go";show⟨c,ps,rfl,sh,hpl,λm ab=>?_⟩;have y:=Qx ab;have U:m.length<=11000000:=by
   have O:=Kc c ps sh hpl;have M:=Ks ps hpl;have C:=ab.pm.length_eq;rw[aD] at C;ext
  simp only[ve];rw[show D.lst (m.map dT)=nW m from rfl,show Sl.fz (iI ps)=Sl.fz (.lst (ps.map hZ)) from rfl];walk_at"go";rw[ae];show⟨ps.length,m,o,rfl,by ext,U,y,λst=>?_,λH I E=>?_⟩
  .walk_at"go";show⟨?_,_,_,_,_,_,_,rfl⟩;have:i≠2:=λz=>Qw ab (S z) st
   ext
  walk_at"go";show⟨ps,m,H,o,rfl,by ext,y,I,E,v,λp ok=>?_⟩;show⟨c,j,ps,m,p,rfl,by ext,λn u=>fin m p n ab ok u⟩
 rintro s ⟨h,_⟩;rw[B] at h;show absurd h (by simp)
noncomputable def ky(r p:Int):List Key:=[.inl r,.inl p]
theorem sN{r p a b:Int}:ky r p=ky a b↔r=a/\p=b:=by simp[ky]
theorem Ko(j:List (List Key×D))(k c:List Key)(d:D):gu (ua j k d) c=if c=k then some d else gu j c:=by
 unfold ua gu;split
 .rename_i h;induction j with
  | nil=>simp at h
  | cons x r l=>
   rw[ax,cX,cX];by_cases hx:x.1=k
   .simp only[hx,aX];by_cases b:k=c
    .simp[b]
    simp only[b,bS,Ne.symm b,aR];by_cases i:(r.any λa=>decide (a.1=k))=true
    .have:=l i;rw[if_neg (Ne.symm b)] at this;show this
    have e:r.map (λa=>if a.1=k then(a.1,d) else a)=r:=by
     rw[List.map_congr_left (g:=id) λa f=>?_,List.map_id];rw[if_neg λz=>i (List.any_eq_true.mpr ⟨a,f,by simpa using z⟩)];rfl
    rw[e]
   have i:(r.any λa=>decide (a.1=k))=true:=by simpa[hx] using h
   have:=l i;simp only[hx,aR];by_cases b:x.1=c
   .have:¬c=k:=λz=>hx (b.trans z)
    simp[b,this]
   simp only[b,bS];show this
 rename_i h;rw[List.find?_append];have m:∀a∈j,a.1≠k:=λa f z=>h (List.any_eq_true.mpr ⟨a,f,by simpa using z⟩)
 by_cases b:c=k
 .subst b;rw[List.find?_eq_none.mpr λa f=>by simpa using m a f];simp
 rw[if_neg b];simp[Ne.symm b]
theorem Je(a:List (List Key×D))(k:List Key)(d:D):(ua a k d).length<=a.length+1:=by
 unfold ua;split<;>simp
structure px(di:List (List Key×D))(C:Int->Int->Str->Prop):Prop where
 so:∀r p d,gu di (ky r p)=some d->∃w,d=.str w/\C r p w
 ha:∀r p w,C r p w->(gu di (ky r p)).isSome=true
theorem px.put{g:List (List Key×D)}{C i:Int->Int->Str->Prop}(h:px g C){c f:Int}{a:Str}(b:∀r p w,i r p w↔C r p w\/(r=c/\p=f/\w=a)):px (ua g (ky c f) (.str a)) i:=by
 show⟨λr p d e=>?_,λr p w e=>?_⟩
 .rw[Ko] at e;split at e
  .rename_i z;cases e;obtain⟨k,j⟩:=sN.mp z;show⟨a,rfl,(b _ _ _).mpr (.inr ⟨k,j,rfl⟩)⟩
  obtain⟨w,m,l⟩:=h.so r p d e;show⟨w,m,(b _ _ _).mpr (.inl l)⟩
 rw[Ko];split
 .rfl
 rename_i z;rcases(b _ _ _).mp e with e | ⟨o,n,_⟩
 .exact h.ha r p w e
 show absurd (sN.mpr ⟨o,n⟩) z
theorem px.iff{b:List (List Key×D)}{C c:Int->Int->Str->Prop}(h:px b C)(a:∀r p w,c r p w↔C r p w):px b c:=
 ⟨λr p d e=>let⟨w,g,f⟩:=h.so r p d e;⟨w,g,(a _ _ _).mpr f⟩,λr p w e=>h.ha r p w ((a _ _ _).mp e)⟩
def pN(ps:List Pc)(a:List Int)(i:Nat)(r p:Int)(w:Str):Prop:=∃q,q<i/\(fV ps q).n=some w/\r=2*gv a q+1/\2*(fV ps q).l+1<=p/\p<=2*(fV ps q).r+1
def zU:fv:=λds Q=>∃(c:dX)(e:Bool)(ps:List Pc)(d:List Tr)(a:List Int)(n:Int),ds=[kx c e ps d a n]/\ps.length<=500/\a.length=ps.length/\(∀p∈ps,-1<=p.l/\p.l<=p.r/\p.r<=40)/\∀b,px b (pN ps a ps.length)->Q (.ov (.dq b))
def FG:TX:=(dG (jJ 1 yR)
 (dG (i9 (rY (df (fi "pieces" (cZ 0)) (df (fi "tracks" (cZ 0)) dn))) (ju 2 (ff (eD 2) (ff (eD 3) iJ))) (fU (eG (dg (kB true) (dg eF (cZ 2) (dC (.int 0))) (dC .non))) (i9 (DL (df (dg fE (dg (oI gq λi j=>.int (i*j)) (dC (.int 2)) (dg eF (cZ 2) (dC (.int 1)))) (dC (.int 1))) (df (dg fE (dg (oI gq λi j=>.int (i*j)) (dC (.int 2)) (dg eF (cZ 2) (dC (.int 2)))) (dC (.int 2))) dn))) (eD 4) (xO 1 (kz (df (dg fE (dg (oI gq λi j=>.int (i*j)) (dC (.int 2)) (cZ 3)) (dC (.int 1))) (df (cZ 4) dn))) (dg eF (cZ 2) (dC (.int 0))))) fY))
 (uc 1)))
theorem V5:iH 1 zU FG ["layout","names","piece","track","sign"]:=by
 intro ds Y hl h;obtain⟨c,K,ps,H,u,n,rfl,T,M,N,q⟩:=h;show FG _ [.fz (kx c K ps H u n),.un,.un,.un,.un];unfold FG;have big:=i8;walk_at"px";walk_at"go";show sk (ps.zip u) (λp=>.tup [hZ p.1,.int p.2]) (λQ h=>?_) (λi y=>∃(f:List (List Key×D))(a b d:Sl),px f (pN ps u i)/\f.length<=100*i/\y=[.fz (kx c K ps H u n),.ov (.dq f),a,b,d]) ⟨[],_,_,_,⟨λr p d e=>by simp[gu] at e,λr p w P=>by obtain⟨q,h,_⟩:=P;show absurd h (Nat.not_lt_zero _)⟩,by simp,rfl⟩ ?_ ?_
 .unfold kx;walk_at"px";show⟨_,rfl,_,rfl,?_⟩;unfold iI;walk_at"px";rw[x8];show h
 .rintro i ⟨p,t⟩ y hi ⟨f,a,b,d,hd,F,rfl⟩;obtain⟨J,O⟩:=cF.mp hi;have S:=(ar.mp J).1;have ep:fV ps i=p:=by unfold fV;rw[J];rfl
  have L:gv u i=t:=by unfold gv;rw[O];rfl
  obtain⟨W,V,U⟩:=N p (aL J);have skip:p.n=none->px f (pN ps u (i+1)):=λC=>hd.iff λr v w=>by
   constructor
   .rintro⟨q,I,g,o⟩;by_cases E:q=i
    .rw[E,ep,C] at g;cases g
    show⟨q,by ext,g,o⟩
   rintro⟨q,I,z⟩;show⟨q,by ext,z⟩
  rw[show hZ p=.tup [dO p.n,.int p.l,.int p.r,.int p.k] from rfl];walk_at"px";show⟨_,vX _ _ _ _,?_⟩;cases C:p.n with
  | none=>
   walk_at"px";show⟨f,_,_,_,skip C,by ext,rfl⟩
  | some w=>
   rw[show dO (some w)=D.str w from rfl];walk_at"px";obtain⟨m,hm⟩:∃m,(2*p.r+2-(2*p.l+1)).toNat=m:=⟨_,rfl⟩
   show sk (List.range m) (λ(j:Nat)=>.int (2*p.l+1+j)) (λQ h=>?_) (λj y=>∃(f:List (List Key×D))(d:Sl),px f (λr v B=>pN ps u i r v B\/(B=w/\r=2*t+1/\2*p.l+1<=v/\v<2*p.l+1+j))/\f.length<=100*i+j/\y=[.fz (kx c K ps H u n),.ov (.dq f),.fz (.tup [.str w,.int p.l,.int p.r,.int p.k]),.fz (.int t),d]) ⟨f,_,hd.iff λr v B=>⟨λz=>z.elim id λz=>by ext,.inl⟩,by ext,rfl⟩ ?_ ?_
   .walk_at"px";simp only[xM,xK,aB,bz];walk_at"px";rw[hm];show⟨⟨by ext,by ext,by ext,by ext⟩,h⟩
   .rintro j x y hx ⟨f,d,hd,F,rfl⟩;have R:x=j:=by
     have:=ar.mp hx;obtain⟨g,o⟩:=this;simpa using o.symm
    subst R;have X:x<m:=by simpa using (ar.mp hx).1
    walk_at"px";have pl:=Je f (ky (2*t+1) (2*p.l+1+x)) (.str w);show⟨_,vX _ _ _ _,by ext,ky (2*t+1) (2*p.l+1+x),rfl,by ext,_,_,hd.put λr v B=>?_,by ext,rfl⟩;constructor
    .rintro(z | ⟨g,o,s,A⟩)
     .exact .inl (.inl z)
     by_cases hz:v=2*p.l+1+x
     .exact .inr ⟨o,hz,g⟩
     show .inl (.inr ⟨g,o,s,by ext⟩)
    rintro((z | ⟨g,o,s,A⟩) | ⟨g,o,s⟩)
    .exact .inl z
    .exact .inr ⟨g,o,s,by ext⟩
    show .inr ⟨s,g,by ext,by ext⟩
   rintro y ⟨f,d,hd,F,rfl⟩;rw[bG] at hd F;show⟨f,_,_,_,hd.iff λr v B=>?_,by ext,rfl⟩;constructor
   .rintro⟨q,I,g,o,s,A⟩;by_cases E:q=i
    .rw[E,ep] at g s A;rw[E,L] at o;rw[C] at g;cases g;show .inr ⟨rfl,o,s,by ext⟩
    show .inl ⟨q,by ext,g,o,s,A⟩
   rintro(⟨q,I,z⟩ | ⟨rfl,o,s,A⟩)
   .exact⟨q,by ext,z⟩
   show⟨i,by ext,by rw[ep];show C,by rw[L];show o,by rw[ep];show s,by rw[ep];ext⟩
 rintro y ⟨f,a,b,d,hd,F,rfl⟩;walk_at"go";show q f ?_;rw[List.length_zip,M,Nat.min_self] at hd;show hd
section
variable(c:dX)(c8:Bool)(ps:List Pc)(ts:List Tr)(tr:List Int)(n:Int)
noncomputable def mV:List (Str×D):=[("channel",c.obj),("bent",.bl c8),("pieces",iI ps),("above",nW ts),("tracks",.lst (tr.map .int)),("count",.int n)]
noncomputable def rQ:List (Str×D):=[("top",dP c.top),("bottom",dP c.c6),("left",dS c.left),("right",dS c.right),("wide",dW c.wide),("bends",dB c.dR),("keeps",dK c.keeps)]
theorem vZ:kx c c8 ps ts tr n=.obj "Layout" (mV c c8 ps ts tr n):=rfl
theorem Na:c.obj=.obj "Channel" (rQ c):=rfl
theorem Xb:List.lookup ("channel":Str) (mV c c8 ps ts tr n)=some c.obj:=rfl
theorem Xc:List.lookup ("bent":Str) (mV c c8 ps ts tr n)=some (.bl c8):=rfl
theorem W7:List.lookup ("pieces":Str) (mV c c8 ps ts tr n)=some (.lst (ps.map hZ)):=rfl
theorem Xd:List.lookup ("above":Str) (mV c c8 ps ts tr n)=some (.lst (ts.map dT)):=rfl
theorem W6:List.lookup ("tracks":Str) (mV c c8 ps ts tr n)=some (.lst (tr.map .int)):=rfl
theorem W9:List.lookup ("count":Str) (mV c c8 ps ts tr n)=some (.int n):=rfl
theorem W5:List.lookup ("top":Str) (rQ c)=some (.lst (c.top.map dO)):=rfl
theorem W8:List.lookup ("bottom":Str) (rQ c)=some (.lst (c.c6.map dO)):=rfl
theorem Xa:List.lookup ("bends":Str) (rQ c)=some (.lst (c.dR.map pJ)):=rfl
end
end Wc
open PySem L2 PyProof.Rows Wc
local macro_rules | `(tactic| walk_at"px")=>`(tactic| (repeat(first | walk_at"b" | simp only[zK,Le,B0,xQ,Ic,IK,rY,yR,xO,vc,u4,uc,u5,o8,nZ,Co,B2,vT,wy,yS,vQ,DU,vZ,Na,Xb,Xc,W7,Xd,W6,W9,W5,W8,Xa,aB,bz])))
namespace Wc
open PySem L2 PyProof.Rows
def oS(c:dX)(b:Bool)(a:Nat)(w:Str):Prop:=c.top[a]?=some (some w)\/c.c6[a]?=some (some w)\/(b=true/\((a:Int),w)∈c.dR)
def zS:fv:=λds Q=>∃(c:dX)(b:Bool)(ps:List Pc)(d:List Tr)(e:List Int)(n:Int)(col:Nat),ds=[kx c b ps d e n,.int col]/\kI c/\col<c.top.length/\c.dR.length<=40/\∀a:List Str,a.Nodup->a.length<64->(∀w,w∈a↔oS c b col w)->Q (.ow (a.map D.str))
def FE:TX:=(dG (jJ 2 (gF (df (dg eF (fi "top" (fi "channel" (cZ 0))) (cZ 1)) (df (dg eF (fi "bottom" (fi "channel" (cZ 0))) (cZ 1)) dn))))
 (dG (fU (eG (fi "bent" (cZ 0))) (u5 2 (gr (g9 (fi "bends" (fi "channel" (cZ 0)))) [none,none,some 1] (ju 2 (ff (eD 0) (ff (eD 1) iJ))) (eG (dg oEq (cZ 0) (cZ 2))) (cZ 1))) fY)
 (o9 2 (gk (fb uq (df (gr (g9 (cZ 2)) [none] (eD 0) (eG (dg (kB true) (cZ 0) (dC .non))) (cZ 0)) dn))))))
theorem V1:iH 2 zS FE ["layout","column","names"]:=by
 intro ds r hl h;obtain⟨c,f,ps,E,F,n,col,rfl,sh,j,N,q⟩:=h;show FE _ [.fz (kx c f ps E F n),.fz (.int col),.un];unfold FE;have big:=i8;have o:col<c.c6.length:=by rw[sh.b];show j
 have a1:fK c.top (col:Int)=some c.top[col]:=kZ j;have a2:fK c.c6 (col:Int)=some c.c6[col]:=kZ o;have i:∀w,c.top[col]=some w↔c.top[col]?=some (some w):=λw=>by rw[ah j];simp
 have g:∀w,c.c6[col]=some w↔c.c6[col]?=some (some w):=λw=>by rw[ah o];simp
 generalize c.top[col]=u at a1 i;generalize c.c6[col]=v at a2 g
 -- T R behind O M
 have fin:∀all:List (Option Str),all.length<=60->(∀w,some w∈all↔oS c f col w)->∀x y:Sl,o5 (o9 2 (gk (fb uq (df (gr (g9 (cZ 2)) [none] (eD 0) (eG (dg (kB true) (cZ 0) (dC .non))) (cZ 0)) dn)))) { nx:=λ_=>r (.fz .non),rt:=r } [x,y,.ow (all.map dO)]:=by
  intro all L hm x y;walk_at"go";show nR all dO dO (λx=>x.isSome) (λI h=>?_) (by ext) (λx hx J K k1 m=>?_) ?_
  .walk_at"px";show h
  .walk_at"px";cases x with
   | none=>show m rfl
   | some x=>show k1 rfl
  rw[Cv];have S:(all.filterMap id).length<=60:=aM (cQ _ _) L;have C:∀w,w∈all.filterMap id↔oS c f col w:=λw=>by rw[<-hm w];simp[List.mem_filterMap]
  simp only[ve,uq,wy];show⟨by ext,λl nd h=>?_,λH nd h P=>q H nd ?_ λw=>(h w).trans (C w)⟩
  .have:=wq nd h;ext
  have:=wq nd λw hw=>(h w).mp hw;ext
 rw[vZ];walk_at"px";simp only[a1,a2,aB,bz];show⟨by ext,?_⟩;cases s:f with
 | false=>
  walk_at"go";rw[s] at fin;show fin [u,v] (by simp) (λw=>?_) _ _;unfold oS;simp only[av,bg,cY,aq,false_and];rw[<-i,<-g];constructor
  .rintro(z | z)
   .exact .inl z.symm
   show .inr z.symm
  rintro(z | z)
  .exact .inl z.symm
  show .inr z.symm
 | true=>
  walk_at"go";show nR c.dR pJ (λp=>.str p.2) (λp=>decide (p.1=(col:Int))) (λI h=>?_) (by ext) (λp Q J K k1 m=>?_) ?_
  .walk_at"px";show h
  .rw[show pJ p=.tup [.int p.1,.str p.2] from rfl];walk_at"px";by_cases d:p.1=(col:Int)
   .rw[if_pos d];show k1 (by simpa using d)
   rw[if_neg d];show m (by simpa using d)
  have hlen:=a9 (λp=>decide (p.1=(col:Int))) c.dR;show⟨by simp;ext,?_⟩;rw[s] at fin;have e:dO u::dO v::(c.dR.filter λp=>decide (p.1=(col:Int))).map (λp=>D.str p.2)=([u,v]++(c.dR.filter λp=>decide (p.1=(col:Int))).map λp=>some p.2).map dO:=by rw[aE,aU];rfl
  rw[e];show fin _ (by simp;ext) (λw=>?_) _ _;unfold oS;simp only[au,av,bg,cY,true_and,aN,aP,ba,aB];rw[<-i,<-g];constructor
  .rintro((z | z) | ⟨p,⟨B,A⟩,t⟩)
   .exact .inl z.symm
   .exact .inr (.inl z.symm)
   show .inr (.inr (by rw[<-A,<-t];show B))
  rintro(z | z | z)
  .exact .inl (.inl z.symm)
  .exact .inl (.inr z.symm)
  show .inr ⟨_,⟨z,rfl⟩,rfl⟩
noncomputable def gM(c:dX)(ps:List Pc)(b:List Int)(n:Int)(w:Str)(a:Nat):List Int:=
 (kA ps (some w) a).map (λj=>2*gv b j+1)++(if c.top[a]?=some (some w) then [0] else [])++(if c.c6[a]?=some (some w) then [2*n] else [])
def zL:fv:=λds Q=>∃(c:dX)(d:Bool)(ps:List Pc)(b:List Tr)(a:List Int)(n:Int)(w:Str)(col:Nat),ds=[kx c d ps b a n,.str w,.int col]/\kI c/\col<c.top.length/\ps.length<=500/\a.length=ps.length/\
 gM c ps a n w col≠[]/\(∀x∈gM c ps a n w col,0<=x/\x<=10000)/\∀m M,lZ m (gM c ps a n w col)->l7 M (gM c ps a n w col)->Q (.ow ((List.range (M+1-m).toNat).map λ(k:Nat)=>.int (m+k)))
def FI:TX:=(dG (jJ 3 (gr (g9 (fT 3 wu (df (fi "pieces" (cZ 0)) (df (cZ 1) (df (cZ 2) dn))))) [none,some 0] (eD 0) jU (dg fE (dg (oI gq λi j=>.int (i*j)) (dC (.int 2)) (dg eF (fi "tracks" (cZ 1)) (cZ 0))) (dC (.int 1)))))
 (dG (fU (eG (dg oEq (dg eF (fi "top" (fi "channel" (cZ 0))) (cZ 2)) (cZ 1))) (jP 3 (dC (.int 0))) fY)
 (dG (fU (eG (dg oEq (dg eF (fi "bottom" (fi "channel" (cZ 0))) (cZ 2)) (cZ 1))) (jP 3 (dg (oI gq λi j=>.int (i*j)) (dC (.int 2)) (fi "count" (cZ 0)))) fY)
 (o9 3 (gk (Co (df (fb o8 (df (cZ 3) dn)) (df (dg fE (fb nZ (df (cZ 3) dn)) (dC (.int 1))) dn))))))))
theorem Wm:iH 3 zL FI ["layout","name","column","rows"]:=by
 intro ds r hl h;obtain⟨c,E,ps,t,e,n,w,col,rfl,sh,g,J,I,o,p,q⟩:=h;show FI _ [.fz (kx c E ps t e n),.fz (.str w),.fz (.int col),.un];unfold FI;have big:=i8;have s:col<c.c6.length:=by rw[sh.b];show g
 have a1:fK c.top (col:Int)=some c.top[col]:=kZ g;have a2:fK c.c6 (col:Int)=some c.c6[col]:=kZ s;have al:=xY ps (some w) col;rw[vZ];walk_at"px";show oj (kA ps (some w) col) dN (λj=>.int (2*gv e j+1)) (λQ h=>?_) (by ext) (λj B S k=>?_) ?_
 .walk_at"px";show⟨ps,some w,col,rfl,by ext,h⟩
 .have P:=(wa B).1;have F:fK e (j:Int)=some (gv e j):=by rw[BZ (by ext)];show kZ (by ext)
  rw[show dN j=D.int j from rfl];walk_at"px";simp only[F,aB,bz];show k
 have fin:∀L:List Int,L=gM c ps e n w col->∀x y z:Sl,o5 (o9 3 (gk (Co (df (fb o8 (df (cZ 3) dn)) (df (dg fE (fb nZ (df (cZ 3) dn)) (dC (.int 1))) dn))))) { nx:=λ_=>r (.fz .non),rt:=r } [x,y,z,.ow (L.map .int)]:=by
  rintro L rfl x y z;walk_at"go";show⟨o,λm hm hle=>⟨o,λM i H=>?_⟩⟩;have O:=p m hm;have N:=p M i;have K:=hle M i;show⟨by ext,by ext,by ext,by ext,q m M ⟨hm,hle⟩ ⟨i,H⟩⟩
 unfold gM at fin o;rw[ah g,ah s] at fin;simp only[aB] at fin;rw[show(kA ps (some w) col).map (λj=>D.int (2*gv e j+1))=((kA ps (some w) col).map λj=>2*gv e j+1).map D.int by rw[aU];rfl];generalize c.top[col]=u at a1 fin;generalize c.c6[col]=v at a2 fin;generalize C:(kA ps (some w) col).map (λj=>2*gv e j+1)=A at fin ⊢;have R:A.length<=500:=by rw[<-C,ae];ext
 walk_at"go";simp only[a1,aB,bz];walk_at"px";by_cases f:u=some w
 .rw[if_pos f];show⟨by simp;ext,?_⟩;walk_at"go";simp only[a2,aB,bz];walk_at"px";by_cases d:v=some w
  .rw[if_pos d];show⟨by simp;ext,?_⟩;have:=fin (A++[0]++[2*n]) (by rw[if_pos f,if_pos d]);rw[aE,aE] at this;show this _ _ _
  rw[if_neg d];have:=fin (A++[0]) (by rw[if_pos f,if_neg d,aS]);rw[aE] at this;show this _ _ _
 rw[if_neg f];walk_at"go";simp only[a2,aB,bz];walk_at"px";by_cases d:v=some w
 .rw[if_pos d];show⟨by simp;ext,?_⟩;have:=fin (A++[2*n]) (by rw[if_neg f,if_pos d,aS]);rw[aE] at this;show this _ _ _
 rw[if_neg d];show fin A (by rw[if_neg f,if_neg d,aS,aS]) _ _ _
def vL(L:List Int)(r:Int):Prop:=∃m M,lZ m L/\l7 M L/\m<=r/\r<=M
theorem Jd{L:List Int}{m M:Int}(b:lZ m L)(a:l7 M L)(r:Int):vL L r↔m<=r/\r<=M:=by
 constructor
 .rintro⟨c,d,g1,g2,g3,e⟩;have:=g1.2 m b.1;have:=b.2 c g1.1;have:=g2.2 M a.1;have:=a.2 d g2.1;ext
 show λh=>⟨m,M,b,a,h.1,h.2⟩
def qt(c:dX)(b:Bool)(ps:List Pc)(a:List Int)(n:Int)(i:Nat)(r p:Int)(w:Str):Prop:=∃col:Nat,col<i/\p=2*col+1/\oS c b col w/\vL (gM c ps a n w col) r
def zT:fv:=λds Q=>∃(c:dX)(b:Bool)(ps:List Pc)(e:List Tr)(a:List Int)(n:Int),ds=[kx c b ps e a n]/\kI c/\c.top.length<=16/\c.dR.length<=40/\ps.length<=500/\a.length=ps.length/\(∀col w,oS c b col w->gM c ps a n w col≠[])/\(∀col w,∀x∈gM c ps a n w col,0<=x/\x<=10000)/\∀d,px d (qt c b ps a n c.top.length)->Q (.ov (.dq d))
def FF:TX:=(dG (jJ 1 yR)
 (dG (i9 (mD (df (fb jT (df (fi "top" (fi "channel" (cZ 0))) dn)) dn)) (eD 2) (i9 (g9 (fT 2 zS (df (cZ 0) (df (cZ 2) dn)))) (eD 3) (i9 (g9 (fT 3 zL (df (cZ 0) (df (cZ 3) (df (cZ 2) dn))))) (eD 4) (xO 1 (kz (df (cZ 4) (df (dg fE (dg (oI gq λi j=>.int (i*j)) (dC (.int 2)) (cZ 2)) (dC (.int 1))) dn))) (cZ 3)))))
 (uc 1)))
theorem V4:iH 1 zT FF ["layout","names","column","name","row"]:=by
 intro ds Qr hl h;obtain⟨c,A,ps,E,s,n,rfl,sh,hw,P,R,Q,U,L,q⟩:=h;show FF _ [.fz (kx c A ps E s n),.un,.un,.un,.un];unfold FF;have big:=i8;walk_at"px";walk_at"go";rw[<-vZ];show tS c.top.length (λO h=>?_) (λi v=>∃(f:List (List Key×D))(a b d:Sl),px f (qt c A ps s n i)/\f.length<=700000*i/\v=[.fz (kx c A ps E s n),.ov (.dq f),a,b,d]) ⟨[],_,_,_,⟨λr p d e=>by simp[gu] at e,λr p w V=>by obtain⟨q,h,_⟩:=V;show absurd h (Nat.not_lt_zero _)⟩,by simp,rfl⟩ ?_ ?_
 .rw[vZ];walk_at"px";rw[ae];show⟨by ext,by ext,by simpa using h⟩
 .rintro i v hi ⟨f,a,b,d,hd,F,rfl⟩;show Cw (λds=>∃t:List Str,t.Nodup/\t.length<64/\(∀w,w∈t↔oS c A i w)/\ds=t.map .str) (λO h=>?_) ?_
  .walk_at"px";show⟨c,A,ps,E,s,n,i,rfl,sh,hi,P,λt nd hl hm=>h _ ⟨t,nd,hl,hm,rfl⟩⟩
  rintro _ ⟨t,nd,Mz,hm,rfl⟩;show E7 t D.str (λj v=>∃(f:List (List Key×D))(b d:Sl),px f (λr p w=>qt c A ps s n i r p w\/(p=2*i+1/\w∈t.take j/\vL (gM c ps s n w i) r))/\f.length<=700000*i+10002*j/\v=[.fz (kx c A ps E s n),.ov (.dq f),.fz (.int i),b,d]) ⟨f,_,_,hd.iff λr p w=>⟨λz=>z.elim id λz=>by simp at z,.inl⟩,by ext,rfl⟩ ?_ ?_
  .rintro j w v J ⟨f,b,d,hd,F,rfl⟩;have Y:=(ar.mp J).1;have X:w∈t:=aL J;have tk:t.take (j+1)=t.take j++[w]:=by rw[br,J];rfl
   show Cw (λds=>∃m M,lZ m (gM c ps s n w i)/\l7 M (gM c ps s n w i)/\ds=(List.range (M+1-m).toNat).map λ(k:Nat)=>.int (m+k)) (λO h=>?_) ?_
   .walk_at"px";show⟨c,A,ps,E,s,n,w,i,rfl,sh,hi,R,Q,U i w ((hm w).mp X),L i w,λm M B y=>h _ ⟨m,M,B,y,rfl⟩⟩
   rintro _ ⟨m,M,B,y,rfl⟩;have b1:=L i w m B.1;have b2:=L i w M y.1;have b3:=B.2 M y.1;have sp:=Jd B y;obtain⟨K,T⟩:∃K,(M+1-m).toNat=K:=⟨_,rfl⟩
   rw[T];show E7 (List.range K) (λ(k:Nat)=>.int (m+k)) (λk v=>∃(f:List (List Key×D))(d:Sl),px f (λr p C=>(qt c A ps s n i r p C\/(p=2*i+1/\C∈t.take j/\vL (gM c ps s n C i) r))\/(p=2*i+1/\C=w/\m<=r/\r<m+k))/\f.length<=700000*i+10002*j+k/\v=[.fz (kx c A ps E s n),.ov (.dq f),.fz (.int i),.fz (.str w),d]) ⟨f,_,hd.iff λr p w=>⟨λz=>z.elim id λz=>by ext,.inl⟩,by ext,rfl⟩ ?_ ?_
   .rintro k x v hx ⟨f,d,hd,F,rfl⟩;have W:x=k:=by
     obtain⟨o,g⟩:=ar.mp hx;simpa using g.symm
    subst W;have Xo:x<K:=by simpa using (ar.mp hx).1
    have pl:=Je f (ky (m+x) (2*i+1)) (.str w);walk_at"px";show⟨by ext,by ext,ua f (ky (m+x) (2*i+1)) (.str w),_,hd.put λr Z C=>?_,by ext,rfl⟩;constructor
    .rintro(z | ⟨o,g,u,N⟩)
     .exact .inl (.inl z)
     by_cases hz:r=m+x
     .exact .inr ⟨hz,o,g⟩
     show .inl (.inr ⟨o,g,u,by ext⟩)
    rintro((z | ⟨o,g,u,N⟩) | ⟨o,g,u⟩)
    .exact .inl z
    .exact .inr ⟨o,g,u,by ext⟩
    show .inr ⟨g,u,by ext,by ext⟩
   rintro v ⟨f,d,hd,F,rfl⟩;rw[bG] at hd F;show⟨f,_,_,hd.iff λr p C=>?_,by ext,rfl⟩;rw[tk];constructor
   .rintro(z | ⟨o,g,u⟩)
    .exact .inl (.inl z)
    rcases au.mp g with g | g
    .exact .inl (.inr ⟨o,g,u⟩)
    simp at g;subst g;have:=(sp r).mp u;show .inr ⟨o,rfl,this.1,by ext⟩
   rintro((z | ⟨o,g,u⟩) | ⟨o,rfl,u,N⟩)
   .exact .inl z
   .exact .inr ⟨o,bF _ g,u⟩
   show .inr ⟨o,by simp,(sp r).mpr ⟨u,by ext⟩⟩
  rintro v ⟨f,b,d,hd,F,rfl⟩;rw[bH] at hd;show⟨f,_,_,_,hd.iff λr p w=>?_,by ext,rfl⟩;constructor
  .rintro⟨col,B,y,I,H⟩;by_cases S:col=i
   .subst S;show .inr ⟨y,(hm w).mpr I,H⟩
   show .inl ⟨col,by ext,y,I,H⟩
  rintro(⟨col,B,h⟩ | ⟨y,I,H⟩)
  .exact⟨col,by ext,h⟩
  show⟨i,by ext,y,(hm w).mp I,H⟩
 rintro v ⟨f,a,b,d,hd,F,rfl⟩;walk_at"go";show q f hd
noncomputable def sgn:Option Str->Option Str->Str
 | none,none=>" "
 | some _,none=>"-"
 | none,some _=>"|"
 | some a,some b=>if a=b then "+" else "#"
theorem Js(s u:Option Str):(sgn s u).length=1:=by
 cases s<;>cases u<;>simp only[sgn]<;>first | decide | (split<;>decide)
def zH:fv:=λds Q=>∃s u:Option Str,ds=[dO s,dO u]/\Q (.fz (.str (sgn s u)))
def EI:TX:=(dG (fU (my (eG (dg (kB false) (cZ 0) (dC .non))) (eG (dg (kB false) (cZ 1) (dC .non)))) (gk (dC (.str " "))) fY)
 (dG (fU (eG (dg (kB false) (cZ 1) (dC .non))) (gk (dC (.str "-"))) fY)
 (dG (fU (eG (dg (kB false) (cZ 0) (dC .non))) (gk (dC (.str "|"))) fY)
 (dG (fU (eG (dg oEq (cZ 0) (cZ 1))) (gk (dC (.str "+"))) fY)
 (gk (dC (.str "#")))))))
theorem T8:iH 2 zH EI ["stretch_name","upright_name"]:=by
 intro ds d hl h;obtain⟨s,u,rfl,q⟩:=h;show EI _ [.fz (dO s),.fz (dO u)];unfold EI;cases s with
 | none=>
  rw[show dO none=D.non from rfl];cases u with
  | none=>
   rw[show dO none=D.non from rfl];walk_at"px";show q
  | some b=>
   rw[show dO (some b)=D.str b from rfl];walk_at"px";walk_at"go";walk_at"go";show q
 | some a=>
  rw[show dO (some a)=D.str a from rfl];cases u with
  | none=>
   rw[show dO none=D.non from rfl];walk_at"px";walk_at"go";show q
  | some b=>
   rw[show dO (some b)=D.str b from rfl];walk_at"px";walk_at"go";walk_at"go";walk_at"go";simp only[sgn] at q;by_cases h:a=b
   .rw[if_pos h];rw[if_pos h] at q;show q
   rw[if_neg h];rw[if_neg h] at q;walk_at"go";show q
theorem Kp(z:Array Nat):∀(l:List Str)(a:Array Nat),(l.foldl (λacc p=>acc++z++p.cps) a).size=a.size+(l.map (·.length)).sum+l.length*z.size
 | [],a=>by simp
 | x::l,a=>by
  rw[List.foldl_cons,Kp z l];simp only[Array.size_append,ax,List.sum_cons,aG,Nat.succ_mul,Str.length];ext
theorem Qv(x:Str)(l:List Str):(Txt.join x l).length<=(l.map (·.length)).sum+l.length*x.length:=by
 unfold Txt.join Builtin.Str.glued;cases l with
 | nil=>simp[Str.length,Str.empty]
 | cons a l=>
  show(List.foldl _ a.cps l).size<=_;rw[Kp];simp only[ax,List.sum_cons,aG,Nat.succ_mul,Str.length];ext
theorem Jr{l:List Str}{B:Nat}(h:∀w∈l,w.length<=B):(l.map (·.length)).sum<=l.length*B:=by
 induction l with
 | nil=>simp
 | cons a r b=>
  rw[ax,List.sum_cons,aG,Nat.succ_mul];have:=b λw hw=>h w (aK _ hw)
  have:=h a cz;ext
def uY(C:Int->Int->Str->Prop)(r p:Int):Option Str->Prop
 | none=>∀w,¬C r p w
 | some w=>C r p w
theorem px.get{a:List (List Key×D)}{C:Int->Int->Str->Prop}(h:px a C)(r p:Int):∃s,(gu a (ky r p)).getD .non=dO s/\uY C r p s:=by
 cases e:gu a (ky r p) with
 | none=>show⟨none,rfl,λw hw=>by have:=h.ha r p w hw;rw[e] at this;cases this⟩
 | some d=>
  obtain⟨w,rfl,hw⟩:=h.so r p d e;show⟨some w,rfl,hw⟩
structure xw(c:dX)(c8:Bool)(ps:List Pc)(tr:List Int)(n:Int):Prop where
 sh:kI c
 tw:c.top.length<=16
 be:c.dR.length<=40
 oO:ps.length<=500
 len:tr.length=ps.length
 pb:∀p∈ps,-1<=p.l/\p.l<=p.r/\p.r<=40
 ne:∀col w,oS c c8 col w->gM c ps tr n w col≠[]
 rb:∀col w,∀x∈gM c ps tr n w col,0<=x/\x<=10000
 n0:0<=n
 n1:n<=5000
noncomputable def xB(W:Nat)(f:Nat->Nat->Str)(r:Nat):Str:=Txt.join (Str.ofString "") ((List.range W).map (f r))
noncomputable def BE(N W:Nat)(f:Nat->Nat->Str):Str:=Txt.join (Str.ofString "\n") ((List.range N).map (xB W f))
theorem Ej(W:Nat)(f:Nat->Nat->Str)(a:∀r p,(f r p).length=1)(r:Nat):(((List.range W).map (f r)).map (·.length)).sum+((List.range W).map (f r)).length*(Str.ofString "").length<=W:=by
 have h:=Jr (l:=(List.range W).map (f r)) (B:=1) λw hw=>by
  obtain⟨p,_,rfl⟩:=aN.mp hw;rw[a];show ay 1
 have e:(Str.ofString "").length=0:=by decide +kernel
 rw[e];rw[ae,bG] at h;ext
theorem Kn(N W:Nat)(f:Nat->Nat->Str)(a:∀r p,(f r p).length=1):(((List.range N).map (xB W f)).map (·.length)).sum+((List.range N).map (xB W f)).length*(Str.ofString "\n").length<=N*(W+1):=by
 have h:=Jr (l:=(List.range N).map (xB W f)) (B:=W) λw hw=>by
  obtain⟨r,_,rfl⟩:=aN.mp hw;show aM (Qv _ _) (Ej W f a r)
 have e:(Str.ofString "\n").length=1:=by decide +kernel
 rw[e];rw[ae,bG] at h ⊢;rw[Nat.mul_add];ext
def zg:fv:=λds Q=>∃(c:dX)(b:Bool)(ps:List Pc)(d:List Tr)(a:List Int)(n:Int),ds=[kx c b ps d a n]/\xw c b ps a n/\
 ∀f:Nat->Nat->Str,(∀r p:Nat,∃s u,uY (pN ps a ps.length) r p s/\uY (qt c b ps a n c.top.length) r p u/\f r p=sgn s u)->Q (.fz (.str (BE (2*n+1).toNat (2*c.top.length+1) f)))
def Ei:TX:=(dG (e8 1 (fT 1 zU (df (cZ 0) dn)))
 (dG (e8 2 (fT 1 zT (df (cZ 0) dn)))
 (dG (jJ 3 (gF dn))
 (dG (i9 (mD (df (dg fE (dg (oI gq λi j=>.int (i*j)) (dC (.int 2)) (fi "count" (cZ 0))) (dC (.int 1))) dn)) (eD 4) (dG (e8 5 (gr (mD (df (dg fE (dg (oI gq λi j=>.int (i*j)) (dC (.int 2)) (fb jT (df (fi "top" (fi "channel" (cZ 0))) dn))) (dC (.int 1))) dn)) [none,some 4] (eD 0) jU (kz (df (cZ 1) (df (cZ 0) dn)))))
 (jP 3 (dM "str" vT (dC (.str "")) (df (gr (g9 (cZ 5)) [none,some 1,some 2] (eD 0) jU (fT 2 zH (df (B2 (cZ 1) (cZ 0)) (df (B2 (cZ 2) (cZ 0)) dn)))) dn)))))
 (o9 3 (gk (dM "str" vT (dC (.str "\n")) (df (cZ 3) dn))))))))
theorem To:iH 1 zg Ei ["layout","stretches","uprights","rows","row","places"]:=by
 intro ds K hl h;obtain⟨c,e,ps,f,d,n,rfl,O,q⟩:=h;show Ei _ [.fz (kx c e ps f d n),.un,.un,.un,.un,.un];unfold Ei;have big:=i8;have n0:=O.n0;have n1:=O.n1;have tw:=O.tw;walk_at"px";show⟨c,e,ps,f,d,n,rfl,O.oO,O.len,O.pb,λx H=>?_⟩;walk_at"go";show⟨c,e,ps,f,d,n,rfl,O.sh,O.tw,O.be,O.oO,O.len,O.ne,O.rb,λy E=>?_⟩;have o:∀r p:Nat,∃s,(gu x (ky r p)).getD .non=dO s/\uY (pN ps d ps.length) r p s:=λr p=>H.get r p
 have m:∀r p:Nat,∃s,(gu y (ky r p)).getD .non=dO s/\uY (qt c e ps d n c.top.length) r p s:=λr p=>E.get r p
 let F:Nat->Nat->Str:=λr p=>sgn (Classical.choose (o r p)) (Classical.choose (m r p))
 have v:∀r p,(F r p).length=1:=λr p=>Js _ _
 have t:=q F λr p=>⟨_,_,(Classical.choose_spec (o r p)).2,(Classical.choose_spec (m r p)).2,rfl⟩
 obtain⟨W,A⟩:∃W,2*c.top.length+1=W:=⟨_,rfl⟩
 obtain⟨N,u⟩:∃N,(2*n+1).toNat=N:=⟨_,rfl⟩
 rw[A,u] at t;walk_at"go";show⟨by ext,?_⟩;walk_at"go";show tS N (λw h=>?_) (λi g=>∃a b:Sl,g=[.fz (kx c e ps f d n),.fz (.dit x),.fz (.dit y),.ow (((List.range i).map (xB W F)).map .str),a,b]) ⟨_,_,rfl⟩ ?_ ?_
 .walk_at"px";rw[u];show⟨by ext,by ext,h⟩
 .rintro r g J ⟨a,b,rfl⟩;walk_at"px";show oj (List.range W) (λ(j:Nat)=>.int (0+j)) (λj=>.tup [.int r,.int j]) (λw h=>?_) (by simp;ext) (λj z I k=>?_) ?_
  .walk_at"px";rw[ae];rw[show(2*(c.top.length:Int)+1).toNat=W by ext];show⟨by ext,by ext,h⟩
  .rw[Int.zero_add];walk_at"px";show⟨by ext,k⟩
  walk_at"go";show⟨rfl,?_⟩;show oj (List.range W) (λj=>.tup [.int r,.int j]) (λj=>.str (F r j)) (λw h=>?_) (by simp;ext) (λj z I k=>?_) ?_
  .walk_at"px";show h
  .walk_at"px";show⟨_,_,?_,k⟩;have C:=(Classical.choose_spec (o r j)).1;have B:=(Classical.choose_spec (m r j)).1;rw[<-C,<-B];rfl
  rw[show(List.range W).map (λj=>D.str (F r j))=((List.range W).map (F r)).map D.str by rw[aU];rfl];walk_at"px";have rs:=Ej W F v r;rw[List.range_succ,aE,aE];show⟨by ext,by simp;ext,_,_,rfl⟩
 rintro g ⟨a,b,rfl⟩;walk_at"go";have ds:=Kn N W F v;have:N*(W+1)<=10001*34:=Nat.mul_le_mul (by ext) (by ext);show⟨rfl,by ext,t⟩
theorem IC{c:Type}(f:Pc->Bool)(s:Int->c):∀(ps:List Pc)(a pre:List Int),a.length=ps.length->((ps.zip a).flatMap λx=>if f x.1=true then [s x.2] else [])=(((ps.zipIdx pre.length).filter λp=>f p.1).map (·.2)).map λj=>s (gv (pre++a) j)
 | [],a,pre,_=>by simp
 | p::ps,[],pre,h=>by simp at h
 | p::ps,t::a,pre,h=>by
  have b:=IC f s ps a (pre++[t]) (by simpa using h);rw[aD,List.length_singleton,bw,List.singleton_append] at b;rw[List.zip_cons_cons,cU,b,List.zipIdx_cons,List.filter_cons];dsimp only;split
  .rw[ax,ax];dsimp only;have:gv (pre++t::a) pre.length=t:=by unfold gv;simp
   rw[this];rfl
  rfl
noncomputable def nM(a:List (Str×Int×Int)):List (Key×D):=a.map λx=>(.inr x.1,.tup [.int x.2.1,.int x.2.2])
structure yH(c:dX)(c8:Bool)(ps:List Pc)(tr:List Int)(n:Int)(col:Nat)(P:Str->Prop)(us:List (Str×Int×Int)):Prop where
 so:∀x∈us,P x.1/\lZ x.2.1 (gM c ps tr n x.1 col)/\l7 x.2.2 (gM c ps tr n x.1 col)
 ha:∀w,P w->∃x∈us,x.1=w
 len:us.length<=60
theorem M9(a:List (Str×Int×Int))(w:Str)(m M:Int):∃b,yP (nM a) (.inr w) (.tup [.int m,.int M])=nM b/\b.length<=a.length+1/\(∀x∈b,x=(w,m,M)\/x∈a)/\(∃x∈b,x.1=w)/\∀x∈a,∃y∈b,y.1=x.1:=by
 have ha:(nM a).any (λc=>decide (c.1=.inr w))=a.any λx=>decide (x.1=w):=by
  unfold nM;rw[List.any_map];congr 1
  funext x
  simp
 unfold yP;rw[ha];split
 .rename_i h;obtain⟨z,hz,e⟩:=List.any_eq_true.mp h;show⟨a.map λx=>if x.1=w then(w,m,M) else x,?_,by simp,λx hx=>?_,?_,λx hx=>?_⟩
  .unfold nM;rw[aU,aU];show List.map_congr_left λx _=>?_
   simp only[Function.comp_apply];by_cases hx:x.1=w
   .simp[hx]
   simp[hx]
  .obtain⟨y,d,rfl⟩:=aN.mp hx;split
   .exact .inl rfl
   show .inr d
  .exact⟨_,bP hz,by rw[if_pos (by simpa using e)]⟩
  show⟨_,bP hx,?_⟩;split
  .rename_i f;show f.symm
  rfl
 show⟨a++[(w,m,M)],by unfold nM;rw[aE];rfl,by simp,λx hx=>(au.mp hx).elim .inr λz=>.inl (by simpa using z),⟨_,aQ _ (bp.mpr rfl),rfl⟩,λx hx=>⟨x,bF _ hx,rfl⟩⟩
def zR:fv:=λds Q=>∃(c:dX)(a:Bool)(ps:List Pc)(d:List Tr)(b:List Int)(n:Int)(col:Nat),ds=[kx c a ps d b n,.int col]/\xw c a ps b n/\col<c.top.length/\∀us,yH c a ps b n col (oS c a col) us->Q (.ov (.dc (nM us)))
def FQ:TX:=(dG (e8 2 (fi "channel" (cZ 0)))
 (dG (e8 3 (gr (g9 (gF (df (dg eF (fi "top" (cZ 2)) (cZ 1)) (df (dg eF (fi "bottom" (cZ 2)) (cZ 1)) dn)))) [none] (eD 0) (eG (dg (kB true) (cZ 0) (dC .non))) (cZ 0)))
 (dG (fU (eG (fi "bent" (cZ 0))) (e8 3 (dg fE (cZ 3) (gr (g9 (fi "bends" (cZ 2))) [none,some 1] (eD 0) (eG (dg oEq (dg eF (cZ 0) (dC (.int 0))) (cZ 1))) (dg eF (cZ 0) (dC (.int 1)))))) fY)
 (dG (jJ 4 yS)
 (dG (i9 (g9 (cZ 3)) (eD 5) (dG (jJ 6 (gF dn))
 (dG (i9 (rY (df (fi "pieces" (cZ 0)) (df (fi "tracks" (cZ 0)) dn))) (ju 2 (ff (eD 7) (ff (eD 8) iJ))) (fU (my (eG (dg oEq (dg eF (cZ 7) (dC (.int 0))) (cZ 5))) (eG (v8 (hV λi j=>.bl (decide (i<=j))) (hV λi j=>.bl (decide (i<=j))) (dg eF (cZ 7) (dC (.int 1))) (cZ 1) (dg eF (cZ 7) (dC (.int 2)))))) (jP 6 (dg fE (dg (oI gq λi j=>.int (i*j)) (dC (.int 2)) (cZ 8)) (dC (.int 1)))) fY))
 (dG (fU (eG (dg oEq (dg eF (fi "top" (cZ 2)) (cZ 1)) (cZ 5))) (jP 6 (dC (.int 0))) fY)
 (dG (fU (eG (dg oEq (dg eF (fi "bottom" (cZ 2)) (cZ 1)) (cZ 5))) (jP 6 (dg (oI gq λi j=>.int (i*j)) (dC (.int 2)) (fi "count" (cZ 0)))) fY)
 (o9 6 (vQ 4 (cZ 5) (kz (df (fb o8 (df (cZ 6) dn)) (df (fb nZ (df (cZ 6) dn)) dn))))))))))
 (uc 4))))))
theorem Wj:iH 2 zR FQ ["_law_layout_here","_law_c","_law_channel_here","_law_words","_law_found","_law_word","_law_rows","_law_piece","_law_t"]:=by
 intro ds H hl h;obtain⟨c,g,ps,B,f,n,col,rfl,O,I,q⟩:=h;show FQ _ [.fz (kx c g ps B f n),.fz (.int col),.un,.un,.un,.un,.un,.un,.un];unfold FQ;have big:=i8;have N:col<c.c6.length:=by rw[O.sh.b];show I
 have a1:fK c.top (col:Int)=some c.top[col]:=kZ I;have a2:fK c.c6 (col:Int)=some c.c6[col]:=kZ N;have T:∀w,c.top[col]=some w↔c.top[col]?=some (some w):=λw=>by rw[ah I];simp
 have S:∀w,c.c6[col]=some w↔c.c6[col]?=some (some w):=λw=>by rw[ah N];simp
 have rK:=O.be;have oO:=O.oO;have len:=O.len
 -- pz words are at hand
 have fin:∀ws:List Str,ws.length<=50->(∀w,w∈ws↔oS c g col w)->∀s1 s2 s3 s4 s5 s6:Sl,o5 (dG (jJ 4 yS)
 (dG (i9 (g9 (cZ 3)) (eD 5) (dG (jJ 6 (gF dn))
 (dG (i9 (rY (df (fi "pieces" (cZ 0)) (df (fi "tracks" (cZ 0)) dn))) (ju 2 (ff (eD 7) (ff (eD 8) iJ))) (fU (my (eG (dg oEq (dg eF (cZ 7) (dC (.int 0))) (cZ 5))) (eG (v8 (hV λi j=>.bl (decide (i<=j))) (hV λi j=>.bl (decide (i<=j))) (dg eF (cZ 7) (dC (.int 1))) (cZ 1) (dg eF (cZ 7) (dC (.int 2)))))) (jP 6 (dg fE (dg (oI gq λi j=>.int (i*j)) (dC (.int 2)) (cZ 8)) (dC (.int 1)))) fY))
 (dG (fU (eG (dg oEq (dg eF (fi "top" (cZ 2)) (cZ 1)) (cZ 5))) (jP 6 (dC (.int 0))) fY)
 (dG (fU (eG (dg oEq (dg eF (fi "bottom" (cZ 2)) (cZ 1)) (cZ 5))) (jP 6 (dg (oI gq λi j=>.int (i*j)) (dC (.int 2)) (fi "count" (cZ 0)))) fY)
 (o9 6 (vQ 4 (cZ 5) (kz (df (fb o8 (df (cZ 6) dn)) (df (fb nZ (df (cZ 6) dn)) dn))))))))))
 (uc 4))) { nx:=λ_=>H (.fz .non),rt:=H } [.fz (.obj "Layout" (mV c g ps B f n)),.fz (.int col),.fz (.obj "Channel" (rQ c)),.fz (.lst (ws.map .str)),.un,.un,.un,.un,.un]:=by
  intro ws wY Q _ _ _ _ _ _;walk_at"go";walk_at"go";show sk ws D.str (λP h=>?_) (λi s=>∃(us:List (Str×Int×Int))(a b d e:Sl),yH c g ps f n col (λw=>w∈ws.take i) us/\us.length<=i/\s=[.fz (.obj "Layout" (mV c g ps B f n)),.fz (.int col),.fz (.obj "Channel" (rQ c)),.fz (.lst (ws.map .str)),.ov (.dc (nM us)),a,b,d,e]) ⟨[],_,_,_,_,⟨by simp,by simp,by simp⟩,by simp,rfl⟩ ?_ ?_
  .walk_at"px";show h
  .rintro i w s hi ⟨us,a,b,d,e,U,vx,rfl⟩;have vB:=(ar.mp hi).1;have tk:ws.take (i+1)=ws.take i++[w]:=by rw[br,hi];rfl
   have X7:=(Q w).mp (aL hi);have W:=O.ne col w X7;walk_at"px";show⟨by ext,?_⟩;walk_at"go"
   -- pz rows are at hand
   have fin2:∀L:List Int,L=gM c ps f n w col->∀x y:Sl,o5 (o9 6 (vQ 4 (cZ 5) (kz (df (fb o8 (df (cZ 6) dn)) (df (fb nZ (df (cZ 6) dn)) dn))))) { nx:=λs=>∃(us:List (Str×Int×Int))(a b d e:Sl),yH c g ps f n col (λw=>w∈ws.take (i+1)) us/\us.length<=i+1/\s=[.fz (.obj "Layout" (mV c g ps B f n)),.fz (.int col),.fz (.obj "Channel" (rQ c)),.fz (.lst (ws.map .str)),.ov (.dc (nM us)),a,b,d,e],rt:=H,bk:=uc 4 { nx:=λx=>H (R.fz D.non),rt:=H },ct:=λs=>∃(us:List (Str×Int×Int))(a b d e:Sl),yH c g ps f n col (λw=>w∈ws.take (i+1)) us/\us.length<=i+1/\s=[.fz (.obj "Layout" (mV c g ps B f n)),.fz (.int col),.fz (.obj "Channel" (rQ c)),.fz (.lst (ws.map .str)),.ov (.dc (nM us)),a,b,d,e] } [.fz (.obj "Layout" (mV c g ps B f n)),.fz (.int col),.fz (.obj "Channel" (rQ c)),.fz (.lst (ws.map .str)),.ov (.dc (nM us)),.fz (.str w),.ow (L.map .int),x,y]:=by
    rintro L rfl x y;walk_at"go";show⟨W,λm hm hle=>⟨W,λM hM Hb=>⟨by ext,by unfold nM;rw[ae];ext,?_⟩⟩⟩;obtain⟨uu,e1,e2,e3,e4,e5⟩:=M9 us w m M;rw[e1];show⟨uu,_,_,_,_,⟨λx hx=>?_,λw' E=>?_,by ext⟩,by ext,rfl⟩
    .rw[tk];rcases e3 x hx with rfl | hx
     .exact⟨by simp,⟨hm,hle⟩,hM,Hb⟩
     show⟨bF _ (U.so x hx).1,(U.so x hx).2⟩
    rw[tk] at E;rcases au.mp E with E | E
    .obtain⟨x,hx,rfl⟩:=U.ha w' E;show e5 x hx
    simp at E;subst E;show e4
   show sk (ps.zip f) (λp=>.tup [hZ p.1,.int p.2]) (λP h=>?_) (λj s=>∃x y:Sl,s=[.fz (.obj "Layout" (mV c g ps B f n)),.fz (.int col),.fz (.obj "Channel" (rQ c)),.fz (.lst (ws.map .str)),.ov (.dc (nM us)),.fz (.str w),.ow ((((ps.zip f).take j).flatMap λx=>if (decide (x.1.n=some w)&&pU x.1 col)=true then [2*x.2+1] else []).map .int),x,y]) ⟨_,_,rfl⟩ ?_ ?_
   .walk_at"px";rw[x8];show h
   .rintro j ⟨p,t⟩ s V ⟨x,y,rfl⟩;have uJ:=(ar.mp V).1;rw[List.length_zip] at uJ;have fl:(((ps.zip f).take j).flatMap λx=>if (decide (x.1.n=some w)&&pU x.1 col)=true then [2*x.2+1] else []).length<=j:=by
     have h1:=Ep (λx:Pc×Int=>if (decide (x.1.n=some w)&&pU x.1 col)=true then [2*x.2+1] else []) 1 (λx=>by split<;>simp) ((ps.zip f).take j);rw[aT] at h1;ext
    rw[br,V,List.flatMap_append];simp only[Option.toList_some,cU,List.flatMap_nil,aS];generalize ((ps.zip f).take j).flatMap (λx=>if (decide (x.1.n=some w)&&pU x.1 col)=true then [2*x.2+1] else [])=A at fl ⊢;rw[show hZ p=.tup [dO p.n,.int p.l,.int p.r,.int p.k] from rfl];walk_at"px";simp only[vX,xM,xK,aB,bz];walk_at"px";by_cases o:(decide (p.n=some w)&&pU p col)=true
    .rw[if_pos o,aE];simp only[pU,bY,ba] at o;rw[if_pos o.1,if_pos o.2.1,if_pos o.2.2];show⟨by rw[ae];ext,_,_,rfl⟩
    rw[if_neg o,aS];simp only[pU,bY,ba] at o;have z:∃x y:Sl,[Sl.fz (D.obj (Str.ofString "Layout") (mV c g ps B f n)),Sl.fz (D.int ↑col),Sl.fz (D.obj (Str.ofString "Channel") (rQ c)),Sl.fz (D.lst (List.map D.str ws)),Sl.ov (OV.dc (nM us)),Sl.fz (D.str w),Sl.ow (List.map D.int A),Sl.fz (D.tup [dO p.n,D.int p.l,D.int p.r,D.int p.k]),Sl.fz (D.int t)]=[Sl.fz (D.obj (Str.ofString "Layout") (mV c g ps B f n)),Sl.fz (D.int ↑col),Sl.fz (D.obj (Str.ofString "Channel") (rQ c)),Sl.fz (D.lst (List.map D.str ws)),Sl.ov (OV.dc (nM us)),Sl.fz (D.str w),Sl.ow (List.map D.int A),x,y]:=⟨_,_,rfl⟩
    split
    .split
     .split
      .exact absurd ⟨by assumption,by assumption,by assumption⟩ o
      show z
     show z
    show z
   rintro s ⟨x,y,rfl⟩;have ef:((ps.zip f).flatMap λx=>if (decide (x.1.n=some w)&&pU x.1 col)=true then [2*x.2+1] else [])=(kA ps (some w) col).map λj=>2*gv f j+1:=IC (λp=>decide (p.n=some w)&&pU p col) (λt=>2*t+1) ps f [] len
   rw[bH,ef];have al:=xY ps (some w) col;unfold gM at fin2;rw[ah I,ah N] at fin2;simp only[aB] at fin2;generalize c.top[col]=u at a1 fin2;generalize c.c6[col]=v at a2 fin2;have MQ:((kA ps (some w) col).map λj=>2*gv f j+1).length<=500:=by rw[ae];ext
   generalize (kA ps (some w) col).map (λj=>2*gv f j+1)=A at fin2 MQ ⊢;walk_at"go";simp only[a1,aB,bz];walk_at"px";by_cases F:u=some w
   .rw[if_pos F];show⟨by simp;ext,?_⟩;walk_at"go";simp only[a2,aB,bz];walk_at"px";by_cases C:v=some w
    .rw[if_pos C];show⟨by simp;ext,?_⟩;have:=fin2 (A++[0]++[2*n]) (by rw[if_pos F,if_pos C]);rw[aE,aE] at this;show this _ _
    rw[if_neg C];have:=fin2 (A++[0]) (by rw[if_pos F,if_neg C,aS]);rw[aE] at this;show this _ _
   rw[if_neg F];walk_at"go";simp only[a2,aB,bz];walk_at"px";by_cases C:v=some w
   .rw[if_pos C];show⟨by simp;ext,?_⟩;have:=fin2 (A++[2*n]) (by rw[if_neg F,if_pos C,aS]);rw[aE] at this;show this _ _
   rw[if_neg C];show fin2 A (by rw[if_neg F,if_neg C,aS,aS]) _ _
  rintro s ⟨us,a,b,d,e,U,vx,rfl⟩;walk_at"go";rw[bH] at U;show q us ⟨λx hx=>⟨(Q _).mp (U.so x hx).1,(U.so x hx).2⟩,λw hw=>U.ha w ((Q w).mpr hw),U.len⟩
 rw[vZ];walk_at"px";walk_at"go";generalize c.top[col]=u at a1 T;generalize c.c6[col]=v at a2 S;show nR [u,v] dO dO (λx=>x.isSome) (λP h=>?_) (by simp;ext) (λx hx K1 K0 k1 K=>?_) ?_
 .walk_at"px";simp only[a1,a2,aB,bz];show⟨by ext,h⟩
 .walk_at"px";cases x with
  | none=>show K rfl
  | some x=>show k1 rfl
 rw[Cv];have Bb:(([u,v]:List (Option Str)).filterMap id).length<=2:=cQ _ _;have J:∀w,w∈([u,v]:List (Option Str)).filterMap id↔c.top[col]?=some (some w)\/c.c6[col]?=some (some w):=λw=>by
  rw[<-T,<-S];simp only[List.mem_filterMap,av,bg,cY,id];constructor
  .rintro⟨x,z | z,e⟩
   .exact .inl (z▸e)
   show .inr (z▸e)
  rintro(z | z)
  .exact⟨u,.inl rfl,z⟩
  show⟨v,.inr rfl,z⟩
 generalize ([u,v]:List (Option Str)).filterMap id=W0 at Bb J ⊢;cases X:g with
 | false=>
  rw[X] at fin;walk_at"go";show fin W0 (by ext) (λw=>?_) .un .un .un .un .un .un;rw[J];unfold oS;simp
 | true=>
  rw[X] at fin;walk_at"go";show nR c.dR pJ (λp=>.str p.2) (λp=>decide (p.1=(col:Int))) (λP h=>?_) (by ext) (λp hp K1 K0 k1 K=>?_) ?_
  .walk_at"px";show h
  .rw[show pJ p=.tup [.int p.1,.str p.2] from rfl];walk_at"px";show⟨_,rfl,?_⟩;walk_at"px";by_cases o:p.1=(col:Int)
   .rw[if_pos o];show⟨_,rfl,k1 (by simpa using o)⟩
   rw[if_neg o];show K (by simpa using o)
  have hlen:=a9 (λp=>decide (p.1=(col:Int))) c.dR;walk_at"px";show⟨by simp;ext,?_⟩;rw[show(c.dR.filter λp=>decide (p.1=(col:Int))).map (λp=>D.str p.2)=((c.dR.filter λp=>decide (p.1=(col:Int))).map (·.2)).map D.str by rw[aU];rfl,<-aE];show fin _ (by simp;ext) (λw=>?_) .un .un .un .un .un .un;unfold oS;rw[au,J];simp only[aN,aP,ba,true_and];constructor
  .rintro((z | z) | ⟨p,⟨z1,Z⟩,Y⟩)
   .exact .inl z
   .exact .inr (.inl z)
   show .inr (.inr (by rw[<-Z,<-Y];show z1))
  rintro(z | z | z)
  .exact .inl (.inl z)
  .exact .inl (.inr z)
  show .inr ⟨_,⟨z,rfl⟩,rfl⟩
def Ly(ps:List Pc)(a:List Int)(i:Nat)(t c b:Int)(w:Str):Prop:=∃q,q<i/\(fV ps q).n=some w/\gv a q=t/\(fV ps q).l<=c/\b<=(fV ps q).r
def yi:fv:=λds Q=>∃(c:dX)(f:Bool)(ps:List Pc)(e:List Tr)(d:List Int)(n t a b:Int),ds=[kx c f ps e d n,.int t,.int a,.int b]/\ps.length<=500/\d.length=ps.length/\∀L:List Str,L.length<=500->(∀w,w∈L↔Ly ps d ps.length t a b w)->Q (.ow (L.map .str))
def Fq:TX:=(dG (jJ 4 (gF dn))
 (dG (i9 (rY (df (fi "pieces" (cZ 0)) (df (fi "tracks" (cZ 0)) dn))) (ju 2 (ff (eD 5) (ff (eD 6) iJ))) (fU (my (eG (dg (kB true) (dg eF (cZ 5) (dC (.int 0))) (dC .non))) (my (eG (dg oEq (cZ 6) (cZ 1))) (my (eG (dg (hV λi j=>.bl (decide (i<=j))) (dg eF (cZ 5) (dC (.int 1))) (cZ 2))) (eG (dg (hV λi j=>.bl (decide (i<=j))) (cZ 3) (dg eF (cZ 5) (dC (.int 2)))))))) (jP 4 (dg eF (cZ 5) (dC (.int 0)))) fY))
 (pY 4)))
theorem UW:iH 4 yi Fq ["_law_layout_here","_law_t","_law_c","_law_beside","_law_words","_law_piece","_law_track"]:=by
 intro ds R hl h;obtain⟨c,o,ps,m,d,n,t,a,b,rfl,oO,len,q⟩:=h;show Fq _ [.fz (kx c o ps m d n),.fz (.int t),.fz (.int a),.fz (.int b),.un,.un,.un];unfold Fq;have big:=i8;rw[vZ];walk_at"px";show⟨by ext,?_⟩;walk_at"go";show sk (ps.zip d) (λp=>.tup [hZ p.1,.int p.2]) (λS h=>?_) (λi v=>∃(L:List Str)(x y:Sl),L.length<=i/\(∀w,w∈L↔Ly ps d i t a b w)/\v=[.fz (.obj "Layout" (mV c o ps m d n)),.fz (.int t),.fz (.int a),.fz (.int b),.ow (L.map .str),x,y]) ⟨[],_,_,by simp,λw=>⟨λz=>by simp at z,λO=>by obtain⟨q,z,_⟩:=O;show absurd z (Nat.not_lt_zero _)⟩,rfl⟩ ?_ ?_
 .walk_at"px";rw[x8];show h
 .rintro i ⟨p,x⟩ v hi ⟨L,s1,s2,E,hm,rfl⟩;obtain⟨F,N⟩:=cF.mp hi;have Q:=(ar.mp F).1;have ep:fV ps i=p:=by unfold fV;rw[F];rfl
  have H:gv d i=x:=by unfold gv;rw[N];rfl
  have step:∀w,Ly ps d (i+1) t a b w↔Ly ps d i t a b w\/(p.n=some w/\x=t/\p.l<=a/\b<=p.r):=λw=>by
   constructor
   .rintro⟨q,M,j,g,f,e⟩;by_cases B:q=i
    .rw[B,ep] at j f e;rw[B,H] at g;show .inr ⟨j,g,f,e⟩
    show .inl ⟨q,by ext,j,g,f,e⟩
   rintro(⟨q,M,z⟩ | ⟨j,g,f,e⟩)
   .exact⟨q,by ext,z⟩
   show⟨i,by ext,by rw[ep];show j,by rw[H];show g,by rw[ep];show f,by rw[ep];show e⟩
  have skip:(∀w,¬(p.n=some w/\x=t/\p.l<=a/\b<=p.r))->∀s1 s2:Sl,∃(A:List Str)(J I:Sl),A.length<=i+1/\(∀w,w∈A↔Ly ps d (i+1) t a b w)/\[Sl.fz (.obj "Layout" (mV c o ps m d n)),.fz (.int t),.fz (.int a),.fz (.int b),.ow (L.map .str),s1,s2]=[Sl.fz (.obj "Layout" (mV c o ps m d n)),.fz (.int t),.fz (.int a),.fz (.int b),.ow (A.map .str),J,I]:=λK s1 s2=>⟨L,_,_,by ext,λw=>by rw[step,hm];show⟨.inl,λz=>z.elim id λz=>absurd z (K w)⟩,rfl⟩
  rw[show hZ p=.tup [dO p.n,.int p.l,.int p.r,.int p.k] from rfl];cases C:p.n with
  | none=>
   rw[C] at skip;rw[show dO none=D.non from rfl];walk_at"px";simp only[vX,xM,xK,aB,bz];walk_at"px";show skip (λw z=>by cases z.1) _ _
  | some w=>
   rw[C] at skip step;rw[show dO (some w)=D.str w from rfl];walk_at"px";simp only[vX,xM,xK,aB,bz];walk_at"px";by_cases c1:x=t
   .rw[if_pos c1];by_cases u:p.l<=a
    .rw[if_pos u];by_cases s:b<=p.r
     .rw[if_pos s];show⟨by rw[ae];ext,L++[w],_,_,by simp;ext,λP=>?_,by rw[aE];rfl⟩;rw[step,au,hm];constructor
      .rintro(z | z)
       .exact .inl z
       simp at z;show .inr ⟨by rw[z],c1,u,s⟩
      rintro(z | z)
      .exact .inl z
      show .inr (by cases z.1;simp)
     rw[if_neg s];show skip (λw z=>s z.2.2.2) _ _
    rw[if_neg u];show skip (λw z=>u z.2.2.1) _ _
   rw[if_neg c1];show skip (λw z=>c1 z.2.1) _ _
 rintro v ⟨L,s1,s2,E,hm,rfl⟩;rw[List.length_zip,len,Nat.min_self] at E hm;walk_at"go";show q L (by ext) hm
theorem xZ{C:Int->Int->Str->Prop}{r p:Int}{s:Option Str}(h:uY C r p s)(a:∀w,¬C r p w):s=none:=by
 cases s with
 | none=>rfl
 | some w=>show absurd h (a w)
theorem Cs{C:Int->Int->Str->Prop}{r p:Int}{s:Option Str}(h:uY C r p s){w:Str}(hw:C r p w)(un:∀v a,C r p v->C r p a->v=a):s=some w:=by
 cases s with
 | none=>show absurd hw (h w)
 | some v=>rw[un v w h hw]
noncomputable def Bm(a:List (List (Str×Int×Int))):D:=.lst (a.map λus=>.dic (nM us))
def zA:fv:=λds Q=>∃(c:dX)(b:Bool)(ps:List Pc)(f:List Tr)(a:List Int)(n:Int)(e:List (List (Str×Int×Int)))(r p:Nat)(s u:Option Str),ds=[kx c b ps f a n,Bm e,.int r,.int p]/\ps.length<=500/\a.length=ps.length/\e.length=c.top.length/\(∀col us,e[col]?=some us->yH c b ps a n col (oS c b col) us)/\p<2*c.top.length+1/\
 (∀w d,pN ps a ps.length r p w->pN ps a ps.length r p d->w=d)/\(∀w d,qt c b ps a n c.top.length r p w->qt c b ps a n c.top.length r p d->w=d)/\uY (pN ps a ps.length) r p s/\uY (qt c b ps a n c.top.length) r p u/\Q (.fz (.str (sgn s u)))
def EZ:TX:=(dG (e8 4 (dg (oI kO λi j=>.int (i/j)) (cZ 2) (dC (.int 2))))
 (dG (e8 5 (dg (oI kO λi j=>.int (i/j)) (cZ 3) (dC (.int 2))))
 (dG (fU (eG (dg oEq (dg (oI (λ_ j=>0<j) λi j=>.int (i%j)) (cZ 3) (dC (.int 2))) (dC (.int 0)))) (dG (fU (my (eG (dg oEq (dg (oI (λ_ j=>0<j) λi j=>.int (i%j)) (cZ 2) (dC (.int 2))) (dC (.int 1)))) (eG (dg (hV λi j=>.bl (decide (j<i))) (fb jT (df (fT 4 yi (df (cZ 0) (df (cZ 4) (df (dg (hV λi j=>.int (i-j)) (cZ 5) (dC (.int 1))) (df (cZ 5) dn))))) dn)) (dC (.int 0))))) (gk (dC (.str "-"))) fY)
 (gk (dC (.str " ")))) fY)
 (dG (e8 6 (gr (DU (dg eF (cZ 1) (cZ 5))) [none,none,some 2] (ju 2 (ff (eD 0) (ff (eD 1) iJ))) (eG (v8 (hV λi j=>.bl (decide (i<=j))) (hV λi j=>.bl (decide (i<=j))) (dg eF (cZ 1) (dC (.int 0))) (cZ 2) (dg eF (cZ 1) (dC (.int 1))))) (cZ 0)))
 (dG (e8 7 (gF dn))
 (dG (fU (eG (dg oEq (dg (oI (λ_ j=>0<j) λi j=>.int (i%j)) (cZ 2) (dC (.int 2))) (dC (.int 1)))) (e8 7 (fT 4 yi (df (cZ 0) (df (cZ 4) (df (cZ 5) (df (cZ 5) dn)))))) fY)
 (dG (fU (my (eG (dg (hV λi j=>.bl (decide (j<i))) (fb jT (df (cZ 7) dn)) (dC (.int 0)))) (eG (dg (hV λi j=>.bl (decide (j<i))) (fb jT (df (cZ 6) dn)) (dC (.int 0))))) (gk (dg eF (gF (df (dC (.str "#")) (df (dC (.str "+")) dn))) (fb u6 (df (dg (kX false) (dg eF (cZ 6) (dC (.int 0))) (cZ 7)) dn)))) fY)
 (dG (fU (eG (dg (hV λi j=>.bl (decide (j<i))) (fb jT (df (cZ 7) dn)) (dC (.int 0)))) (gk (dC (.str "-"))) fY)
 (gk (dg eF (gF (df (dC (.str "|")) (df (dC (.str " ")) dn))) (fb u6 (df (dg oEq (fb jT (df (cZ 6) dn)) (dC (.int 0))) dn))))))))))))
theorem Vv:iH 4 zA EZ ["_law_layout_here","_law_uprights_here","_law_row","_law_place","_law_t","_law_c","_law_standing","_law_lying_here"]:=by
 intro ds U hl h;obtain⟨c,g,ps,B,b,n,y,r,p,s,u,rfl,oO,len,vx,AS,hp,uS,uU,E,C,q⟩:=h;show EZ _ [.fz (kx c g ps B b n),.fz (Bm y),.fz (.int r),.fz (.int p),.un,.un,.un,.un];unfold EZ;have big:=i8;have odd:∀w,pN ps b ps.length r p w->(r:Int)%2=1:=λw ⟨q,_,_,z,_⟩=>by ext
 have W4:(r:Int)%2=1->(p:Int)%2=0->∀w,Ly ps b ps.length ((r:Int)/2) ((p:Int)/2-1) ((p:Int)/2) w↔pN ps b ps.length r p w:=λe d w=>by
  constructor
  .rintro⟨q,o,m,M,K,J⟩;show⟨q,o,m,by ext,by ext,by ext⟩
  rintro⟨q,o,m,M,K,J⟩;show⟨q,o,m,by ext,by ext,by ext⟩
 have W3:(r:Int)%2=1->(p:Int)%2=1->∀w,Ly ps b ps.length ((r:Int)/2) ((p:Int)/2) ((p:Int)/2) w↔pN ps b ps.length r p w:=λe d w=>by
  constructor
  .rintro⟨q,o,m,M,K,J⟩;show⟨q,o,m,by ext,by ext,by ext⟩
  rintro⟨q,o,m,M,K,J⟩;show⟨q,o,m,by ext,by ext,by ext⟩
 have e0:Sl.fz (kx c g ps B b n)=.fz (.obj "Layout" (mV c g ps B b n)):=rfl;unfold Bm;walk_at"px";walk_at"go";walk_at"go";by_cases N:(p:Int)%2=0
 .rw[if_pos N];have Y:u=none:=xZ C λw ⟨col,_,z,_⟩=>by ext
  subst Y;by_cases f:(r:Int)%2=1
  .rw[if_pos f];show⟨c,g,ps,B,b,n,_,_,_,rfl,oO,len,λL A hm=>?_⟩;walk_at"px";rw[ae];have X:=λw=>(hm w).trans (W4 f N w)
   cases L with
   | nil=>
    have:s=none:=xZ E λw z=>by have:=(X w).mpr z;cases this
    subst this;rw[if_neg (by simp)];walk_at"go";show q
   | cons w L=>
    have:=Cs E ((X w).mp (by simp)) uS;subst this;rw[if_pos (by simp)];show q
  rw[if_neg f];have:s=none:=xZ E λw z=>f (odd w z)
  subst this;walk_at"go";show q
 rw[if_neg N];have AV:(p:Int)%2=1:=by ext
 obtain⟨k,S⟩:∃k:Nat,(p:Int)/2=k:=⟨p/2,by ext⟩
 have W:k<y.length:=by ext
 have T:fK y (k:Int)=some y[k]:=kZ W;have I:=AS k _ (ah W);have Z:∀w,qt c g ps b n c.top.length r p w↔oS c g k w/\vL (gM c ps b n w k) r:=λw=>by
  constructor
  .rintro⟨col,e,d,t,O⟩;have:col=k:=by ext
   subst this;show⟨t,O⟩
  rintro⟨t,O⟩;show⟨k,by ext,by ext,t,O⟩
 have V:∀w,(∃x∈y[k],x.1=w/\x.2.1<=(r:Int)/\(r:Int)<=x.2.2)↔qt c g ps b n c.top.length r p w:=λw=>by
  rw[Z];constructor
  .rintro⟨x,hx,rfl,e,d⟩;obtain⟨g1,g2,g3⟩:=I.so x hx;show⟨g1,_,_,g2,g3,e,d⟩
  rintro⟨e,d⟩;obtain⟨x,hx,rfl⟩:=I.ha w e;obtain⟨g1,g2,g3⟩:=I.so x hx;show⟨x,hx,rfl,(Jd g2 g3 r).mp d⟩
 rw[S];have FW:=I.len;generalize y[k]=us at T V FW;walk_at"go";show nR us (λx=>.tup [.str x.1,.tup [.int x.2.1,.int x.2.2]]) (λx=>.str x.1) (λx=>decide (x.2.1<=(r:Int))&&decide ((r:Int)<=x.2.2)) (λQ' h=>?_) (by ext) (λx hx K1 K0 k1 R=>?_) ?_
 .walk_at"px";simp only[T,aB,bz];unfold nM;rw[aU];show h
 .walk_at"px";show⟨_,rfl,?_⟩;walk_at"px";by_cases g1:x.2.1<=(r:Int)
  .rw[if_pos g1];show⟨_,rfl,?_⟩;walk_at"px";by_cases g2:(r:Int)<=x.2.2
   .rw[if_pos g2];show k1 (by simp[g1,g2])
   rw[if_neg g2];show R (by simp[g2])
  rw[if_neg g1];show R (by simp[g1])
 rw[show(us.filter λx=>decide (x.2.1<=(r:Int))&&decide ((r:Int)<=x.2.2)).map (λx=>D.str x.1)=((us.filter λx=>decide (x.2.1<=(r:Int))&&decide ((r:Int)<=x.2.2)).map (·.1)).map D.str by rw[aU];rfl];have F:∀w,w∈(us.filter λx=>decide (x.2.1<=(r:Int))&&decide ((r:Int)<=x.2.2)).map (·.1)↔qt c g ps b n c.top.length r p w:=λw=>by
  rw[<-V];simp only[aN,aP,bY,ba];show⟨λP=>by obtain⟨x,⟨e,d⟩,t⟩:=P;show⟨x,e,t,d⟩,λP=>by obtain⟨x,e,t,d⟩:=P;show⟨x,⟨e,d⟩,t⟩⟩
 generalize (us.filter λx=>decide (x.2.1<=(r:Int))&&decide ((r:Int)<=x.2.2)).map (·.1)=St at F
 have fin:∀L:List Str,(∀w,w∈L↔pN ps b ps.length r p w)->∀s1 s2 s3 s4 s5 Q:Sl,o5 (dG
    (fU
     (my (eG (dg (hV λi j=>D.bl (decide (j<i))) (fb jT (df (cZ 7) dn)) (dC (D.int 0))))
      (eG (dg (hV λi j=>D.bl (decide (j<i))) (fb jT (df (cZ 6) dn)) (dC (D.int 0)))))
     (gk
      (dg eF (gF (df (dC (D.str (Str.ofString "#"))) (df (dC (D.str (Str.ofString "+"))) dn)))
       (fb u6 (df (dg (kX false) (dg eF (cZ 6) (dC (D.int 0))) (cZ 7)) dn))))
     fY)
    (dG
     (fU (eG (dg (hV λi j=>D.bl (decide (j<i))) (fb jT (df (cZ 7) dn)) (dC (D.int 0))))
      (gk (dC (D.str (Str.ofString "-")))) fY)
     (gk
      (dg eF (gF (df (dC (D.str (Str.ofString "|"))) (df (dC (D.str (Str.ofString " "))) dn)))
       (fb u6 (df (dg oEq (fb jT (df (cZ 6) dn)) (dC (D.int 0))) dn)))))) { nx:=λ_=>U (.fz .non),rt:=U } [s1,s2,s3,s4,s5,Q,.fz (.lst (St.map .str)),.fz (.lst (L.map .str))]:=by
  intro L A s1 s2 s3 s4 s5 Q;cases L with
  | nil=>
   have:s=none:=xZ E λw z=>by have:=(A w).mpr z;cases this
   subst this;cases St with
   | nil=>
    have:u=none:=xZ C λw z=>by have:=(F w).mpr z;cases this
    subst this;walk_at"go";walk_at"go";walk_at"go";rw[if_neg (by decide),if_neg (by decide)];show⟨by ext,_,rfl,q⟩
   | cons v St=>
    have:=Cs C ((F v).mp (by simp)) uU;subst this;walk_at"go";walk_at"go";walk_at"go";rw[if_neg (by decide),if_neg (by decide),if_neg (by ext)];show⟨by ext,_,rfl,q⟩
  | cons w L=>
   have:=Cs E ((A w).mp (by simp)) uS;subst this;cases St with
   | nil=>
    have:u=none:=xZ C λw z=>by have:=(F w).mpr z;cases this
    subst this;walk_at"go";rw[if_pos (by ext),if_neg (by decide)];walk_at"go";rw[if_pos (by ext)];show q
   | cons v St=>
    have:=Cs C ((F v).mp (by simp)) uU;subst this;walk_at"go";rw[if_pos (by ext),if_pos (by ext)];show⟨by ext,_,QG _ _,(Cj _ _).mpr trivial,uh _ (w::L),?_⟩;rw[show inD (D.str v) (D.str w::L.map .str)=decide (v∈w::L) from xN v (w::L)];simp only[sgn] at q;by_cases H:w=v
    .rw[if_pos H] at q;rw[if_pos (by rw[H];simp)];show⟨_,rfl,q⟩
    rw[if_neg H] at q;rw[if_neg λz=>H (uS w v ((A w).mp (by simp)) ((A v).mp (of_decide_eq_true z)))];show⟨_,rfl,q⟩
 walk_at"go";show⟨by ext,?_⟩;walk_at"go";by_cases f:(r:Int)%2=1
 .rw[if_pos f];show⟨c,g,ps,B,b,n,_,_,_,rfl,oO,len,λL A hm=>?_⟩;rw[<-S] at hm;show fin L (λw=>(hm w).trans (W3 f AV w)) _ _ _ _ _ _
 rw[if_neg f];show fin [] (λw=>⟨λz=>by simp at z,λz=>absurd (odd w z) f⟩) _ _ _ _ _ _
theorem Eh(w:Str)(c k:Int):∀(a x:Int)(r:List Int),a<=k->k<=(x::r).getLast (by simp)->∃p∈rV w c (a::x::r),p.l<=k/\k<=p.r
 | a,x,[],d,b=>⟨⟨some w,a,x,c⟩,by rw[Eo];simp,d,b⟩
 | a,x,y::r,d,b=>by
  rw[Eo];by_cases h:k<=x
  .exact⟨_,cz,d,h⟩
  obtain⟨p,e,z⟩:=Eh w c k x y r (by ext) (by rw[List.getLast_cons (by simp)] at b;show b);show⟨p,aK _ e,z⟩
theorem NU{ps:List Pc}{n:Option Str}{k:Int}{p:Pc}(h:p∈ps)(a:p.n=n)(d:p.l<=k)(c:k<=p.r):∃j,j∈kA ps n k:=by
 obtain⟨j,b⟩:=List.mem_iff_getElem?.mp h;show⟨j,aN.mpr ⟨(p,j),aP.mpr ⟨List.mem_zipIdx_iff_getElem?.mpr b,?_⟩,rfl⟩⟩;simp[pU,a,d,c]
theorem NT{l:List (Option Str)}{w:Str}(h:2<=l.count (some w)):∃i j:Nat,i<j/\l[i]?=some (some w)/\l[j]?=some (some w):=by
 induction l with
 | nil=>simp at h
 | cons x r a=>
  by_cases hx:x=some w
  .subst hx;rw[List.count_cons_self] at h;obtain⟨j,b⟩:=List.mem_iff_getElem?.mp (List.count_pos_iff.mp (show 0<r.count (some w) by ext));show⟨0,j+1,by ext,rfl,by simpa using b⟩
  rw[List.count_cons_of_ne hx] at h;obtain⟨i,j,e,d,c⟩:=a h;show⟨i+1,j+1,by ext,by simpa using d,by simpa using c⟩
section
variable{c:dX}{c8:Bool}{l:List Str}{ts:List Tr}{tr:List Int}{n:Int}
theorem Ox{ps:List Pc}{q:Nat}(h:q<ps.length):fV ps q∈ps:=by rw[xP h];show cv h
theorem iQ.k(L:iQ c c8 l ts tr n){q:Nat}(h:q<(dF c c8 l).length):1<=(fV (dF c c8 l) q).k/\(fV (dF c c8 l) q).k<=3:=by
 obtain⟨ws,most,_,hm,g⟩:=L.good;show J9 g (by ext) c8 l _ (Ox h)
theorem iQ.ge(L:iQ c c8 l ts tr n){q:Nat}(h:q<(dF c c8 l).length):gv tr q+(fV (dF c c8 l) q).k<=n:=by
 show L.cnt.ge (fV (dF c c8 l) q,gv tr q) (aL (i:=q) ?_);have:=L.qH.len;show cF.mpr ⟨by rw[xP h];show ah h,by rw[BZ (by ext)];show ah _⟩
theorem iQ.MZ(L:iQ c c8 l ts tr n){w:Str}(hw:mK c w){a b k:Int}(h:rW (pl c w)=some (a,b))(f:a<=k)(e:k<=b):∃j,j∈kA (dF c c8 l) (some w) k:=by
 have:∃p∈pT c c8 w,p.l<=k/\k<=p.r:=by
  unfold pT;rw[h];dsimp only;generalize (if c8=true then pd c w else [])=bs;cases bs with
  | nil=>show Eh w _ k a b [] f e
  | cons x r=>show Eh w _ k a x (r++[b]) f (by rw[List.getLast_cons (by simp)];simpa using e)
 obtain⟨p,d,i,g⟩:=this;show NU (aQ _ (cT.mpr ⟨w,(L.Gi.mem w).mpr hw,d⟩)) (R0 c8 d) i g
theorem iQ.uS(L:iQ c c8 l ts tr n){r p:Int}(w a:Str)(h:pN (dF c c8 l) tr (dF c c8 l).length r p w)(g:pN (dF c c8 l) tr (dF c c8 l).length r p a):w=a:=by
 obtain⟨q,f,n1,m,a1,t⟩:=h;obtain⟨d,b,n2,j,a2,s⟩:=g;by_cases e:q=d
 .subst e;rw[n1] at n2;show bX n2
 apply Classical.byContradiction;intro i;have k1:=L.k f;have o:=L.k b;show L.qH.no q d f b e ⟨.inr ?_,by ext,by ext,by ext⟩;rw[n1,n2];show λz=>i (bX z).symm
theorem iQ.up(L:iQ c c8 l ts tr n){a:Nat}{w:Str}(h:oS c c8 a w):c.top[a]?=some (some w)\/c.c6[a]?=some (some w)\/(c8=true/\((a:Int),w)∈c.dR/\c.top[a]?=some none/\c.c6[a]?=some none):=by
 obtain⟨ws,most,_,hm,g⟩:=L.good;rcases h with h | h | ⟨h,b⟩
 .exact .inl h
 .exact .inr (.inl h)
 obtain⟨n,f,_,_,_,z⟩:=g.be.at_ _ b;have:a=n:=by dsimp only at f;ext
 subst this;rcases z with⟨e,d⟩ | z | z
 .exact .inr (.inr ⟨h,b,e,d⟩)
 .exact .inl z
 show .inr (.inl z)
theorem Qu{bs:List (Int×Str)}(h:bs.Pairwise λa b=>a.1<b.1){x:Int}{w e:Str}(g:(x,w)∈bs)(f:(x,e)∈bs):w=e:=by
 induction bs with
 | nil=>cases g
 | cons b r i=>
  obtain⟨g1,g2⟩:=bN.mp h;rcases av.mp g with d | d
  .rcases av.mp f with c | c
   .rw[<-d] at c;cases c;rfl
   have:=g1 _ c;rw[<-d] at this;show absurd this (Int.lt_irrefl _)
  rcases av.mp f with c | c
  .have:=g1 _ d;rw[<-c] at this;show absurd this (Int.lt_irrefl _)
  show i g2 d c
theorem iQ.pos(L:iQ c c8 l ts tr n){d:Nat}{w:Str}(h:c.top[d]?=some (some w))(s:c.c6[d]?≠some (some w)):1<=n:=by
 obtain⟨ws,most,_,hm,g⟩:=L.good;have f:∀i:Nat,c.top[i]?=some (some w)\/c.c6[i]?=some (some w)->(i:Int)∈pl c w:=λi hi=>by
  have v:i<c.top.length:=by
   rcases hi with hi | hi
   .exact(ar.mp hi).1
   rw[<-g.bl];show(ar.mp hi).1
  unfold pl;show bF _ (aQ _ (aN.mpr ⟨i,aP.mpr ⟨bC.mpr v,by simpa using hi⟩,rfl⟩))
 have two:∃a∈pl c w,∃b∈pl c w,a<b:=by
  by_cases o:w∈c.left\/w∈c.right
  .exact Qk g o
  by_cases q:some w∈c.c6
  .obtain⟨i,hi⟩:=List.mem_iff_getElem?.mp q;have:i≠d:=λz=>s (z▸hi)
   rcases Nat.lt_or_gt_of_ne this with z | z
   .exact⟨_,f i (.inr hi),_,f d (.inl h),by ext⟩
   show⟨_,f d (.inl h),_,f i (.inr hi),by ext⟩
  have p:=g.cnt w;unfold fZ at p;rw[bT.mpr q,bT.mpr λz=>o (.inl z),bT.mpr λz=>o (.inr z)] at p;have:=List.count_pos_iff.mpr (aL h);obtain⟨i,j,y,u,t⟩:=NT (show 2<=c.top.count (some w) by ext);show⟨_,f i (.inl u),_,f j (.inl t),by ext⟩
 obtain⟨a,b,e,x,_⟩:=Ka two;obtain⟨j,r⟩:=L.MZ (.inl (aL h)) e (cL a) (by ext);have m:=(wa r).1;have:=L.ge m;have:=L.k m;have:=L.qH.lo j m;ext
theorem Cr{ps:List Pc}{w:Str}{a:Nat}{x:Int}(h:x∈gM c ps tr n w a):(∃j,j∈kA ps (some w) a/\x=2*gv tr j+1)\/(c.top[a]?=some (some w)/\x=0)\/(c.c6[a]?=some (some w)/\x=2*n):=by
 unfold gM at h;rcases au.mp h with h | h
 .rcases au.mp h with h | h
  .obtain⟨j,b,rfl⟩:=aN.mp h;show .inl ⟨j,b,rfl⟩
  split at h
  .rename_i z;show .inr (.inl ⟨z,by simpa using h⟩)
  cases h
 split at h
 .rename_i z;show .inr (.inr ⟨z,by simpa using h⟩)
 cases h
theorem iQ.tb(L:iQ c c8 l ts tr n){a:Nat}{w b:Str}{r:Int}(f:c.top[a]?=some (some w))(s:c.c6[a]?=some (some b))(g:w≠b)(v:vL (gM c (dF c c8 l) tr n w a) r)(u:vL (gM c (dF c c8 l) tr n b a) r):False:=by
 obtain⟨_,M,_,t,_,y⟩:=v;obtain⟨m,_,hm,_,x,_⟩:=u;have nb:c.c6[a]?≠some (some w):=λz=>by rw[s] at z;cases z;show g rfl
 have p:c.top[a]?≠some (some b):=λz=>by rw[f] at z;cases z;show g rfl
 have np:=L.pos f nb;rcases Cr t.1 with⟨j,q,e⟩ | ⟨_,e⟩ | ⟨z,_⟩
 .have o:=(wa q).1;have k1:=L.k o;rcases Cr hm.1 with⟨d,i,h⟩ | ⟨z,_⟩ | ⟨_,h⟩
  .have:(j,d,(a:Int))∈ts:=by
    show L.ab.pm.mem_iff.mpr (bF _ (cT.mpr ⟨a,bC.mpr (ar.mp f).1,?_⟩));unfold rh;rw[f,s];dsimp only;rw[if_neg g];show cT.mpr ⟨j,q,aN.mpr ⟨d,i,rfl⟩⟩
   have:=L.qH.od _ this;dsimp only at this;ext
  .exact p z
  have:=L.ge o;ext
 .rcases Cr hm.1 with⟨d,i,h⟩ | ⟨z,_⟩ | ⟨_,h⟩
  .have:=L.qH.lo d (wa i).1;ext
  .exact p z
  ext
 show nb z
theorem iQ.uU(L:iQ c c8 l ts tr n){r p:Int}(w e:Str)(m:qt c c8 (dF c c8 l) tr n c.top.length r p w)(k:qt c c8 (dF c c8 l) tr n c.top.length r p e):w=e:=by
 obtain⟨col,_,s,h,s1⟩:=m;obtain⟨o,_,q,f,s2⟩:=k;have:o=col:=by ext
 subst this;apply Classical.byContradiction;intro d;obtain⟨ws,most,_,hm,g⟩:=L.good;rcases L.up h with t | b | ⟨_,j,t,b⟩<;>rcases L.up f with t' | a | ⟨_,i,t',a⟩
 .rw[t] at t';cases t';show d rfl
 .exact L.tb t a d s1 s2
 .rw[t] at t';cases t'
 .exact L.tb t' b (Ne.symm d) s2 s1
 .rw[b] at a;cases a;show d rfl
 .rw[b] at a;cases a
 .rw[t] at t';cases t'
 .rw[b] at a;cases a
 show d (Qu g.be.up j i)
theorem iQ.dr(L:iQ c c8 l ts tr n):xw c c8 (dF c c8 l) tr n:=by
 obtain⟨ws,most,_,hm,g⟩:=L.good;have oO:=L.oO;have w2:=g.w2;have be:=g.be.len;have lo:∀q,q<(dF c c8 l).length->0<=gv tr q/\gv tr q<=2500:=λq f=>by
  have:=L.qH.lo q f;have:=L.qH.hi q f;ext
 have nn:0<=n/\n<=2503:=by
  rcases L.cnt.at_ with⟨_,h⟩ | ⟨p,d,h⟩
  .omega
  obtain⟨q,f⟩:=List.mem_iff_getElem?.mp d;obtain⟨m,o⟩:=cF.mp f;have r:=(ar.mp m).1;have A:fV (dF c c8 l) q=p.1:=by unfold fV;rw[m];rfl
  have y:gv tr q=p.2:=by unfold gv;rw[o];rfl
  have:=L.k r;have:=lo q r;rw[A,y] at *;ext
 show⟨Jk g (by ext),by ext,by ext,by ext,L.qH.len,λp d=>?_,λcol w t=>?_,λcol w x hx=>?_,by ext,by ext⟩
 .rcases au.mp d with d | d
  .obtain⟨k,u,rfl⟩:=aN.mp d;have:=g.ke.2 k u;dsimp only;ext
  obtain⟨w,_,d⟩:=cT.mp d;have:=Jg g (by ext) c8 d;ext
 .unfold gM;rcases L.up t with h | h | ⟨_,v,_⟩
  .rw[if_pos h];simp
  .rw[if_pos h];simp
  obtain⟨s,a,b,e,m,o⟩:=Ji g (by ext) v;obtain⟨j,i⟩:=L.MZ s e (cD m) (cD o);intro z;have:=List.append_eq_nil_iff.mp (List.append_eq_nil_iff.mp z).1;rw[List.map_eq_nil_iff.mp this.1] at i;cases i
 rcases Cr hx with⟨j,i,e⟩ | ⟨_,e⟩ | ⟨_,e⟩
 .have:=lo j (wa i).1;ext
 .omega
 ext
end
def yT:TX:=(dG (e8 1 (dg (oI (λ_ j=>0<j) λi j=>.int (i%j)) (dg (oI gq λi j=>.int (i*j)) (dg (oI (λ_ j=>0<j) λi j=>.int (i%j)) (fb vN (df (oP (cZ 0) pE (m9 (dC (.int 1)))) dn)) (dg (oI rZ λi j=>.int (i ^ j.toNat)) (dC (.int 10)) (dC (.int 30)))) (dC (.int 40692))) (dC (.int 2147483399))))
 (dG (e8 2 (fT 2 z5 (df (fT 2 zP (df (cZ 0) (df (dC (.int 8)) dn))) (df (cZ 1) dn))))
 (dG (e8 3 (gF (df (fb nO (df (fi "pieces" (cZ 2)) dn)) (df (fb nO (df (fi "above" (cZ 2)) dn)) (df (fb nO (df (fi "tracks" (cZ 2)) dn)) (df (fi "bent" (cZ 2)) (df (fi "count" (cZ 2)) dn)))))))
 (dG (e8 4 (fT 1 zg (df (cZ 2) dn)))
 (dG (fU (yO (eG (DF "str" (cZ 4)))) (gk (dC (.bl false))) fY)
 (dG (e8 5 (gr (mD (df (fb jT (df (fi "top" (fi "channel" (cZ 2))) dn)) dn)) [none,some 2] (eD 0) jU (fT 2 zR (df (cZ 1) (df (cZ 0) dn)))))
 (dG (jJ 6 (gF dn))
 (dG (i9 (mD (df (dg fE (dg (oI gq λi j=>.int (i*j)) (dC (.int 2)) (fi "count" (cZ 2))) (dC (.int 1))) dn)) (eD 7) (dG (e8 8 (gr (mD (df (dg fE (dg (oI gq λi j=>.int (i*j)) (dC (.int 2)) (fb jT (df (cZ 5) dn))) (dC (.int 1))) dn)) [none,some 2,some 5,some 7] (eD 0) jU (fT 4 zA (df (cZ 1) (df (cZ 2) (df (cZ 3) (df (cZ 0) dn)))))))
 (jP 6 (dM "str" vT (dC (.str "")) (df (cZ 8) dn)))))
 (o9 6 (dG (fU (eG (dg yn (cZ 4) (dM "str" vT (dC (.str "\n")) (df (cZ 6) dn)))) (gk (dC (.bl false))) fY)
 (gk (dg oEq (cZ 3) (gF (df (fi "pieces" (cZ 2)) (df (fi "above" (cZ 2)) (df (fi "tracks" (cZ 2)) (df (fi "bent" (cZ 2)) (df (fi "count" (cZ 2)) dn))))))))))))))))))
theorem OU{e:lC}{m:List (Option Nat)}{g:jN}{tc:ki}{te:TD}{c:Ev}{Q:R->Prop}(ds:List D)(a:Nat->List D->Prop)(hw:∀h:List D->Prop,h ds->e c h)(j:a 0 [])
  (turn:∀i d acc,ds[i]?=some d->a i acc->g d (iG m c) λf=>tc f λb=>if b=true then te f λr=>acc.length<sizeLine/\a (i+1) (acc++[r.val]) else a (i+1) acc) (fin:∀acc,a ds.length acc->Q (.ow acc)):gr e m g tc te c Q:=hw _ ⟨a,j,turn,fin⟩
theorem Qt:iH 1 (DK 63) yT ["_law_script","_law_seed","_law_layout_here","_law_before","_law_text","_law_uprights_here","_law_due","_law_row","_law_signs"]:=by
 intro ds S hl h;obtain⟨ns,rfl,R,q⟩:=h;show yT _ [.fz (dI ns),.un,.un,.un,.un,.un,.un,.un,.un];unfold yT dI;have big:=i8;walk_at"px";generalize (lE ns none (some 1)).sum%1000000000000000000000000000000*40692%2147483399=A;walk_at"go";show⟨ns,8,rfl,by ext,by decide,by decide,λM K=>?_⟩;have P:=(Kv (yC ns)).1;show⟨zev (yC ns),8,M,A,rfl,by ext,by ext,K,λc m l t o n L=>?_⟩;have oO:=L.oO;have O:=L.dr;have uS:=λ{r p:Int}=>L.uS (r:=r) (p:=p)
 have uU:=λ{r p:Int}=>L.uU (r:=r) (p:=p)
 generalize dF c m l=ps at *;walk_at"go";show⟨by ext,?_⟩;walk_at"go";show⟨c,m,ps,t,o,n,rfl,O,λf hf=>?_⟩;have tw:=O.tw;have n0:=O.n0;have n1:=O.n1;have C:∀r p,(f r p).length=1:=λr p=>by
  obtain⟨s,u,_,_,e⟩:=hf r p;rw[e];show Js s u
 obtain⟨W,J⟩:∃W,2*c.top.length+1=W:=⟨_,rfl⟩
 obtain⟨N,z⟩:∃N,(2*n+1).toNat=N:=⟨_,rfl⟩
 rw[J,z];have ds:=Kn N W f C;have dN:N*(W+1)<=10001*34:=Nat.mul_le_mul (by ext) (by ext);walk_at"go";show⟨rfl,?_⟩;simp only[show xE (p7 (D.str (BE N W f))) "str"=true from(by decide:xE "str" "str"=true),Bool.not_true,aq,aR];walk_at"go";show OU ((List.range c.top.length).map λ(i:Nat)=>.int (0+i)) (λi acc=>∃g:List (List (Str×Int×Int)),g.length=i/\acc=g.map (λus=>.dic (nM us))/\∀col us,g[col]?=some us->yH c m ps o n col (oS c m col) us) (λB h=>?_) ⟨[],rfl,rfl,by simp⟩ ?_ ?_
 .walk_at"px";rw[ae,Int.toNat_natCast];show⟨by ext,by ext,h⟩
 .rintro i d acc hd ⟨g,v,rfl,y⟩;rw[aI] at hd;obtain⟨j,x,rfl⟩:=cC.mp hd;obtain⟨hi,e⟩:=ar.mp x;rw[bG] at hi;rw[List.getElem_range] at e;subst e;rw[Int.zero_add];walk_at"px";show⟨c,m,ps,t,o,n,i,rfl,O,hi,λus U=>⟨by rw[ae];ext,g++[us],by simp[v],by rw[aE];rfl,λcol E h'=>?_⟩⟩;by_cases I:col<g.length
  .rw[List.getElem?_append_left I] at h';show y col E h'
  have:col<(g++[us]).length:=(ar.mp h').1;simp at this;have:col=g.length:=by ext
  subst this;simp at h';subst h';rw[v];show U
 rintro acc ⟨g,v,rfl,y⟩;rw[ae,bG] at v;walk_at"go";show⟨by ext,?_⟩;walk_at"go";show tS N (λB h=>?_) (λi w=>∃a b:Sl,w=[.fz (.lst (ns.map .int)),.fz (.int A),.fz (.obj "Layout" (mV c m ps t o n)),.fz (.lst [.lst (ps.map hZ),.lst (t.map dT),.lst (o.map .int),.bl m,.int n]),.fz (.str (BE N W f)),.fz (Bm g),.ow (((List.range i).map (xB W f)).map .str),a,b]) ⟨_,_,rfl⟩ ?_ ?_
 .walk_at"px";rw[z];show⟨by ext,by ext,h⟩
 .rintro r w Q ⟨a,b,rfl⟩;unfold Bm;walk_at"px";show oj (List.range W) (λ(j:Nat)=>.int (0+j)) (λj=>.str (f r j)) (λB h=>?_) (by simp;ext) (λj x T k=>?_) ?_
  .walk_at"px";rw[ae];rw[show(2*(g.length:Int)+1).toNat=W by ext];show⟨by ext,by ext,h⟩
  .rw[Int.zero_add];walk_at"px";obtain⟨s,u,H,F,e⟩:=hf r j;rw[e] at k;have:=bC.mp x;show⟨c,m,ps,t,o,n,g,r,j,s,u,rfl,oO,O.len,v,y,by ext,uS,uU,H,F,k⟩
  rw[show(List.range W).map (λj=>D.str (f r j))=((List.range W).map (f r)).map D.str by rw[aU];rfl];walk_at"go";have rs:=Ej W f C r;rw[List.range_succ,aE,aE];show⟨rfl,by ext,by simp;ext,_,_,rfl⟩
 rintro w ⟨a,b,rfl⟩;walk_at"go";show⟨rfl,by ext,?_⟩;rw[if_neg (by unfold BE;simp)];walk_at"go";have ok:fG 9 (.lst [.lst (ps.map hZ),.lst (t.map dT),.lst (o.map .int),.bl m,.int n]):=λd hd=>by
  simp only[av,bg,cY] at hd;rcases hd with rfl | rfl | rfl | rfl | rfl
  .exact PR 6 ps
  .exact Qp 6 t
  .exact N2 7 o
  all_goals trivial
 show⟨by ext,ok,ok,?_⟩;rw[CD 9 _ ok];show q
end Wc
end
namespace Wc
open PySem PySem.Spec PyProof.Rows L2
local macro_rules | `(tactic| walk_at"sc")=>`(tactic| show⟨rfl,rfl,rfl,by decide +kernel,rfl,by decide +kernel,by decide +kernel⟩)
local macro_rules | `(tactic| walk_at"bn")=>`(tactic| (intro _ _ _ _ _ _ us hl;first | (obtain⟨_,rfl⟩:=Dz hl;show rfl) | (obtain⟨_,_,rfl⟩:=Dy hl;show rfl) | (obtain⟨_,_,_,rfl⟩:=HV hl;show rfl) | (obtain⟨_,_,_,_,rfl⟩:=HU hl;show rfl) | (obtain⟨_,_,_,_,_,rfl⟩:=HS hl;show rfl) | (obtain⟨_,_,_,_,_,_,_,rfl⟩:=HR hl;show rfl)))
def top(i:Nat):Stmt:=PySem.Challenge.pw_wirechannel_k50_sign_by_sign.main.body.getD i (.Pass ⟨0,0,0,0⟩)
structure Txt(K:J')(mg:Str->Option Value):Prop where
 b_any:mg "any"=none
 b_enumerate:mg "enumerate"=none
 b_int:mg "int"=none
 b_isinstance:mg "isinstance"=none
 b_len:mg "len"=none
 b_list:mg "list"=none
 b_max:mg "max"=none
 b_min:mg "min"=none
 b_range:mg "range"=none
 b_set:mg "set"=none
 b_sorted:mg "sorted"=none
 b_str:mg "str"=none
 b_sum:mg "sum"=none
 b_zip:mg "zip"=none
section
variable{P:Program}{w:World}{K:J'}{mg:Str->Option Value}{base:Heap}
abbrev jl:Stmt:=Jx (top 25) 0
theorem Tn:du ["self","top","bottom","left","right","wide","bends","keeps"] ("self"::["top","bottom","left","right","wide","bends","keeps"]) (de jl):=by walk_at"sc"
theorem Ux(A:xy K mg "Channel" "Channel.__init__" jl ["top","bottom","left","right","wide","bends","keeps"])(T:Txt K mg) :jO P w K mg base 1 "Channel" 7 zJ:=by
 obtain⟨C,f,fd,a,M,F,hm,na⟩:=A.ex;show⟨C,f,fd,_,M,KR (T:=CH) F Tn a (λj A outer s H E b=>?_) (λds g _ h=>Ub ds g _ (λfs e p c=>na.all _ (by rw[<-e];show bP c)) h),hm,F.binds λ_ _ _ _ _ _ us d=>by obtain⟨_,_,_,_,_,_,_,_,rfl⟩:=HQ d;show rfl⟩;have i:=b.units;show(qC a.cls na.1 (ph qB T.b_list boot_list (dh (c7 1) dD))
  (qC a.cls na.2.1 (ph qB T.b_list boot_list (dh (c7 2) dD))
  (qC a.cls na.2.2.1 (ph qB T.b_list boot_list (dh (c7 3) dD))
  (qC a.cls na.2.2.2.1 (ph qB T.b_list boot_list (dh (c7 4) dD))
  (qC a.cls na.2.2.2.2.1 (ph qB T.b_list boot_list (dh (c7 5) dD))
  (qC a.cls na.2.2.2.2.2.1 (ph qB T.b_list boot_list (dh (c7 6) dD))
  (qC a.cls na.2.2.2.2.2.2.1 (ph qB T.b_list boot_list (dh (c7 7) dD))
  JB)))))))
abbrev j8:Stmt:=Jx (top 29) 0
theorem Se:du ["self","channel","bent","pieces","above","tracks"] ("self"::["channel","bent","pieces","above","tracks"]) (de j8):=by walk_at"sc"
theorem T7(A:xy K mg "Layout" "Layout.__init__" j8 ["channel","bent","pieces","above","tracks","count"])(T:Txt K mg)(c:Known P w K mg base 1 "count_of" 2 yd):jO P w K mg base 2 "Layout" 5 zu:=by
 obtain⟨C,f,fd,a,M,F,hm,na⟩:=A.ex;show⟨C,f,fd,_,M,KR (T:=Ct) F Se a (λk A outer s H E b=>?_) (λds i _ h=>Ut ds i _ (λfs e p d=>na.all _ (by rw[<-e];show bP d)) h),hm,F.binds λ_ _ _ _ _ _ us g=>by obtain⟨_,_,_,_,_,_,rfl⟩:=Dx g;show rfl⟩;have j:=b.units;show(qC a.cls na.1 (c7 1)
  (qC a.cls na.2.1 (c7 2)
  (qC a.cls na.2.2.1 (ph qB T.b_list boot_list (dh (c7 3) dD))
  (qC a.cls na.2.2.2.1 (ph qB T.b_list boot_list (dh (c7 4) dD))
  (qC a.cls na.2.2.2.2.1 (ph qB T.b_list boot_list (dh (c7 5) dD))
  (qC a.cls na.2.2.2.2.2.1 (gG c b (dh (c7 3) (dh (c7 5) dD)))
  JB))))))
theorem j7:du ["_law_top","_law_bottom","_law_left","_law_right","_law_word","_law_some"] ["_law_top","_law_bottom","_law_left","_law_right","_law_word"] (de (top 35)):=by walk_at"sc"
theorem jE:du ["_law_lists","_law_top","_law_bottom","_law_left","_law_right","_law_wide","_law_bends_here","_law_keeps_here","_law_some","_law_lone"] ["_law_lists"] (de (top 41)):=by walk_at"sc"
theorem LF:(["_law_above","_law_below"]:List Str).Nodup:=by decide +kernel
theorem UU:(["_law_word"]:List Str).Nodup:=by decide +kernel
theorem UT:(["_law_word","_law_top","_law_bottom","_law_left","_law_right"]:List Str).Nodup:=by decide +kernel
theorem US:(["_law_word","_law_lone"]:List Str).Nodup:=by decide +kernel
theorem UR:(["_law_word","_law_lone"]:List Str).Nodup:=by decide +kernel
theorem Vs:(["_law_word","_law_lone"]:List Str).Nodup:=by decide +kernel
theorem Vr:(["_law_word","_law_lone"]:List Str).Nodup:=by decide +kernel
theorem Vq:(["_law_pair","_law_top","_law_bottom","_law_left","_law_right"]:List Str).Nodup:=by decide +kernel
theorem lN:du ["channel","pins"] ["channel"] (de (top 2)):=by walk_at"sc"
theorem T6:(["name"]:List Str).Nodup:=by decide +kernel
theorem lO:du ["channel","name","ends","column"] ["channel","name"] (de (top 1)):=by walk_at"sc"
theorem j0:du ["channel","end"] ["channel","end"] (de (top 4)):=by walk_at"sc"
theorem jy:du ["channel","name","columns"] ["channel","name"] (de (top 5)):=by walk_at"sc"
theorem Vp:(["end","channel"]:List Str).Nodup:=by decide +kernel
theorem i3:du ["channel","name"] ["channel","name"] (de (top 9)):=by walk_at"sc"
theorem LK:(["column","bent_name","name"]:List Str).Nodup:=by decide +kernel
theorem kQ:du ["channel","name","wide_name","width"] ["channel","name"] (de (top 3)):=by walk_at"sc"
theorem jz:du ["channel","name","bent","stretch","cuts","borders","width"] ["channel","name","bent"] (de (top 8)):=by walk_at"sc"
theorem LD:(["first","last","name","width"]:List Str).Nodup:=by decide +kernel
abbrev fj:Stmt:=top 7
theorem iM:du ["channel","bent","pieces","name"] ["channel","bent"] (de fj):=by walk_at"sc"
theorem FH:(["first","last","tracks"]:List Str).Nodup:=by decide +kernel
theorem jY:du ["pieces","name","column"] ["pieces","name","column"] (de (top 11)):=by walk_at"sc"
theorem LC:(["number","piece","name","column"]:List Str).Nodup:=by decide +kernel
theorem jb:du ["channel","pieces","triples","column","upper_name","lower_name","lowers","upper"] ["channel","pieces"] (de (top 21)):=by walk_at"sc"
theorem VI:(["lower","upper","column"]:List Str).Nodup:=by decide +kernel
theorem jZ:du ["one","other","column"] ["one","other"] (de (top 10)):=by walk_at"sc"
theorem iZ:du ["keep","pieces","commons"] ["keep","pieces"] (de (top 23)):=by walk_at"sc"
theorem LJ:(["number","piece","keep"]:List Str).Nodup:=by decide +kernel
theorem LI:(["number","column"]:List Str).Nodup:=by decide +kernel
theorem iY:du ["pieces","triples","upper","keep"] ["pieces"] (de (top 22)):=by walk_at"sc"
theorem LH:(["lower","column","upper"]:List Str).Nodup:=by decide +kernel
theorem kS:du ["channel","pieces"] ["channel","pieces"] (de (top 20)):=by walk_at"sc"
theorem kU:du ["_law_cell","_law_k"] ["_law_cell","_law_k"] (de (top 33)):=by walk_at"sc"
theorem jA:du ["_law_count","_law_above","_law_seed","_law_uppers","_law_p","_law_q","_law_c","_law_waiting","_law_turns_here","_law_ready"] ["_law_count","_law_above","_law_seed"] (de (top 42)):=by walk_at"sc"
theorem Vo:(["_law_k"]:List Str).Nodup:=by decide +kernel
theorem Vn:(["_law_q","_law_waiting","_law_uppers"]:List Str).Nodup:=by decide +kernel
theorem Vm:(["_law_p","_law_waiting"]:List Str).Nodup:=by decide +kernel
theorem kR:du ["pieces","tracks"] ["pieces","tracks"] (de (top 27)):=by walk_at"sc"
theorem LA:(["piece","track"]:List Str).Nodup:=by decide +kernel
theorem jF:du ["_law_pieces","_law_tracks_here","_law_one","_law_t","_law_q"] ["_law_pieces","_law_tracks_here","_law_one","_law_t"] (de (top 43)):=by walk_at"sc"
theorem jc:du ["_law_pieces","_law_above","_law_turns_here","_law_seed","_law_tracks_here","_law_k","_law_one","_law_t","_law_p","_law_q","_law_c"] ["_law_pieces","_law_above","_law_turns_here","_law_seed"] (de (top 44)):=by walk_at"sc"
theorem VH:(["_law_piece"]:List Str).Nodup:=by decide +kernel
theorem jd:du ["_law_lists","_law_seed","_law_some","_law_row","_law_bent","_law_channel_here","_law_pieces","_law_above","_law_turns_here"] ["_law_lists","_law_seed"] (de (top 45)):=by walk_at"sc"
theorem j3:du ["_law_cell","_law_size","_law_signs","_law_stem_here","_law_k"] ["_law_cell","_law_size"] (de (top 31)):=by walk_at"sc"
theorem jB:du ["_law_cell","_law_size","_law_stem_here","_law_at","_law_other"] ["_law_cell"] (de (top 32)):=by walk_at"sc"
theorem Vl:(["_law_sign_here","_law_stem_here","_law_at","_law_size"]:List Str).Nodup:=by decide +kernel
theorem Vk:(["_law_k","_law_stem_here","_law_size"]:List Str).Nodup:=by decide +kernel
theorem Vj:(["_law_k","_law_stem_here"]:List Str).Nodup:=by decide +kernel
theorem j5:du ["_law_words","_law_cells","_law_seed","_law_width","_law_top","_law_bottom","_law_c","_law_row","_law_side","_law_k","_law_one"] ["_law_words","_law_cells","_law_seed","_law_width"] (de (top 34)):=by walk_at"sc"
theorem j6:du ["_law_words","_law_bits"] ["_law_words","_law_bits"] (de (top 39)):=by walk_at"sc"
theorem Vu:(["_law_k","_law_words","_law_bits"]:List Str).Nodup:=by decide +kernel
theorem i4:du ["_law_top","_law_bottom","_law_left","_law_right","_law_word","_law_places"] ["_law_top","_law_bottom","_law_left","_law_right","_law_word"] (de (top 36)):=by walk_at"sc"
theorem Wl:(["_law_c","_law_word","_law_top","_law_bottom"]:List Str).Nodup:=by decide +kernel
theorem jG:du ["_law_lists","_law_words","_law_cells","_law_seed","_law_top","_law_bottom","_law_left","_law_right","_law_bends_here","_law_c","_law_one","_law_word","_law_l","_law_r","_law_here"] ["_law_lists","_law_words","_law_cells","_law_seed"] (de (top 37)):=by walk_at"sc"
theorem Vi:(["_law_x"]:List Str).Nodup:=by decide +kernel
theorem jD:du ["_law_width","_law_cells","_law_seed","_law_keeps_here","_law_k","_law_cell","_law_one","_law_first"] ["_law_width","_law_cells","_law_seed"] (de (top 38)):=by walk_at"sc"
theorem i5:du ["_law_script","_law_most","_law_seed","_law_words","_law_width","_law_cells","_law_top","_law_bottom","_law_bits","_law_left","_law_right","_law_lone","_law_wide","_law_k","_law_word","_law_one","_law_bends_here","_law_keeps_here"] ["_law_script","_law_most"] (de (top 40)):=by walk_at"sc"
theorem Wk:(["_law_word","_law_top","_law_bottom","_law_left","_law_right"]:List Str).Nodup:=by decide +kernel
theorem VV:(["_law_word","_law_lone"]:List Str).Nodup:=by decide +kernel
theorem VU:(["_law_word","_law_lone"]:List Str).Nodup:=by decide +kernel
theorem VT:(["_law_word","_law_lone"]:List Str).Nodup:=by decide +kernel
theorem VS:(["_law_word","_law_lone"]:List Str).Nodup:=by decide +kernel
theorem ig:du ["layout","names","piece","track","sign"] ["layout"] (de (top 15)):=by walk_at"sc"
theorem iC:du ["layout","column","names"] ["layout","column"] (de (top 17)):=by walk_at"sc"
theorem LG:(["bend_column","name","column"]:List Str).Nodup:=by decide +kernel
theorem Wi:(["name"]:List Str).Nodup:=by decide +kernel
theorem iX:du ["layout","name","column","rows"] ["layout","name","column"] (de (top 18)):=by walk_at"sc"
theorem VR:(["number","layout"]:List Str).Nodup:=by decide +kernel
theorem ie:du ["layout","names","column","name","row"] ["layout"] (de (top 16)):=by walk_at"sc"
theorem lM:du ["stretch_name","upright_name"] ["stretch_name","upright_name"] (de (top 14)):=by walk_at"sc"
theorem oA:du ["layout","stretches","uprights","rows","row","places"] ["layout"] (de (top 13)):=by walk_at"sc"
theorem Tj:(["sign","row"]:List Str).Nodup:=by decide +kernel
theorem Ti:(["place","stretches","uprights"]:List Str).Nodup:=by decide +kernel
theorem iD:du ["_law_layout_here","_law_c","_law_channel_here","_law_words","_law_found","_law_word","_law_rows","_law_piece","_law_t"] ["_law_layout_here","_law_c"] (de (top 46)):=by walk_at"sc"
theorem Wh:(["_law_word"]:List Str).Nodup:=by decide +kernel
theorem Wg:(["_law_pair","_law_c"]:List Str).Nodup:=by decide +kernel
theorem jC:du ["_law_layout_here","_law_t","_law_c","_law_beside","_law_words","_law_piece","_law_track"] ["_law_layout_here","_law_t","_law_c","_law_beside"] (de (top 47)):=by walk_at"sc"
theorem j4:du ["_law_layout_here","_law_uprights_here","_law_row","_law_place","_law_t","_law_c","_law_standing","_law_lying_here"] ["_law_layout_here","_law_uprights_here","_law_row","_law_place"] (de (top 48)):=by walk_at"sc"
theorem LB:(["_law_word","_law_rows","_law_row"]:List Str).Nodup:=by decide +kernel
theorem sD:du ["_law_script","_law_seed","_law_layout_here","_law_before","_law_text","_law_uprights_here","_law_due","_law_row","_law_signs"] ["_law_script"] (de (top 49)):=by walk_at"sc"
theorem Qs:(["_law_c","_law_layout_here"]:List Str).Nodup:=by decide +kernel
theorem Qq:(["_law_place","_law_layout_here","_law_uprights_here","_law_row"]:List Str).Nodup:=by decide +kernel
variable(T:Txt K mg)
variable(js:jO P w K mg base 1 "Channel" 7 zJ)
variable(kn:jO P w K mg base 2 "Layout" 5 zu)
include T in
theorem Vh(A:At K mg "_law_many" (top 35)):Known P w K mg base 1 "_law_many" 5 vj:=iV 0 A j7 (λf e A outer s H E d=>have b:=d.units;have nd:=j7.nd
 (dZ (fq 5 (eh fW (eh fW (eh fW (c7 0) (c7 1)) (c7 2)) (c7 3)) nd)
   (eE (gN (zf (Pr b) (.inl rfl) PySem.F.plainAttrs_list PySem.F.slot_list_count PySem.F.type_list_count (c7 5) (dh (c7 4) dD)))))) VB (by walk_at"bn")
variable(eX:Known P w K mg base 1 "_law_many" 5 vj)
include T eX in
theorem VG(A:At K mg "_law_eased" (top 41)):Known P w K mg base 2 "_law_eased" 1 Aa:=iV 1 A jE (λf g A outer s H E e=>have d:=e.units;have nd:=jE.nd
 (dZ (BW (c7 0) (Eb rfl (fQ (eI 1 nd) (fQ (eI 2 nd) (fQ (eI 3 nd) (fQ (eI 4 nd) (fQ (eI 5 nd) (fQ (eI 6 nd) (fQ (eI 7 nd) kP)))))))))
   (dZ (fq 2 (jV rfl (.of (N':=["_law_above","_law_below"]) (m:=[none,none]) (by kernel_rfl)) tT (xX T.b_zip (dh (c7 1) (dh (c7 2) dD))) (λs3 b ex=>(lJ rfl (fQ (eI 0 LF) (fQ (eI 1 LF) kP)))) (λs3 b ex=>mv) (λs3 b ex=>(ya (eV p5 (c7 0) jw) jw (c7 1)))) nd)
   (dZ (fq 8 (Fm rfl T.b_sorted T.b_set (dh (jV rfl (.of (N':=["_law_word"]) (m:=[none]) (by kernel_rfl)) iW (iK (eh fW (eh fW (eh fW (c7 1) (c7 2)) (c7 3)) (c7 4))) (λs3 b ex=>(eI 0 UU)) (λs3 b ex=>(mq (eV p5 (c7 0) jw))) (λs3 b ex=>(c7 0))) dD)) nd)
   (dZ (fq 9 (jV rfl (.of (N':=["_law_word","_law_top","_law_bottom","_law_left","_law_right"]) (m:=[none,some 1,some 2,some 3,some 4]) (by kernel_rfl)) iW (iK (c7 8)) (λs3 b ex=>(eI 0 UT)) (λs3 b ex=>(mq (eV (iU d) (gG eX e (dh (c7 1) (dh (c7 2) (dh (c7 3) (dh (c7 4) (dh (c7 0) dD)))))) dA))) (λs3 b ex=>(c7 0))) nd)
   (dZ (fq 1 (jV rfl (.of (N':=["_law_word","_law_lone"]) (m:=[none,some 9]) (by kernel_rfl)) iW (iK (c7 1)) (λs3 b ex=>(eI 0 US)) (λs3 b ex=>mv) (λs3 b ex=>(ya (eV (rf d) (c7 0) (c7 1)) jw (c7 0)))) nd)
   (dZ (fq 2 (jV rfl (.of (N':=["_law_word","_law_lone"]) (m:=[none,some 9]) (by kernel_rfl)) iW (iK (c7 2)) (λs3 b ex=>(eI 0 UR)) (λs3 b ex=>mv) (λs3 b ex=>(ya (eV (rf d) (c7 0) (c7 1)) jw (c7 0)))) nd)
   (dZ (fq 3 (jV rfl (.of (N':=["_law_word","_law_lone"]) (m:=[none,some 9]) (by kernel_rfl)) iW (iK (c7 3)) (λs3 b ex=>(eI 0 Vs)) (λs3 b ex=>(mq (eV (Ce d) (c7 0) (c7 1)))) (λs3 b ex=>(c7 0))) nd)
   (dZ (fq 4 (jV rfl (.of (N':=["_law_word","_law_lone"]) (m:=[none,some 9]) (by kernel_rfl)) iW (iK (c7 4)) (λs3 b ex=>(eI 0 Vr)) (λs3 b ex=>(mq (eV (Ce d) (c7 0) (c7 1)))) (λs3 b ex=>(c7 0))) nd)
   (dZ (ui 5 rfl (.of (N':=["_law_pair","_law_top","_law_bottom","_law_left","_law_right"]) (m:=[none,some 1,some 2,some 3,some 4]) (by kernel_rfl)) iW (iK (c7 5)) (λs3 b ex=>(eI 0 Vq)) (λs3 b ex=>(mq (eV t8 (gG eX e (dh (c7 1) (dh (c7 2) (dh (c7 3) (dh (c7 4) (dh (eP (c7 0) dA) dD)))))) dA))) (λs3 b ex=>(c7 0)) nd)
   (eE (gN (hU (dh (c7 1) (dh (c7 2) (dh (c7 3) (dh (c7 4) (dh (c7 5) (dh (hU dD) (dh (c7 7) dD)))))))))))))))))))) UZ (by walk_at"bn")
variable(g5:Known P w K mg base 2 "_law_eased" 1 Aa)
include T in
theorem Uw(A:At K mg "nets_of" (top 2)):Known P w K mg base 1 "nets_of" 1 wt:=iV 0 A lN (λf g A outer s H E d=>have e:=d.units;have nd:=lN.nd
 (dZ (ui 1 rfl (.of (N':=["name"]) (m:=[none]) (by kernel_rfl)) iW (iK (eh fW (fP (c7 0)) (fP (c7 0)))) (λs3 b ex=>(eI 0 T6)) (λs3 b ex=>(mq (eV p5 (c7 0) jw))) (λs3 b ex=>(c7 0)) nd)
   (eE (gN (Fm rfl T.b_sorted T.b_set (dh (eh fW (eh fW (c7 1) (fP (c7 0))) (fP (c7 0))) dD)))))) T9 (by walk_at"bn")
variable(g8:Known P w K mg base 1 "nets_of" 1 wt)
include T in
theorem Uv(A:At K mg "ends_of" (top 1)):Known P w K mg base 1 "ends_of" 2 zI:=iV 0 A lO (λf e A outer s H E d=>have b:=d.units;have nd:=lO.nd
 (dZ (mX 2 (hU dD) nd)
   (dZ (gP (eV (rf b) (c7 1) (fP (c7 0))) (eE (mH 2 (mY (dh jR dD)))) gO)
   (dZ (kC aO rfl (nQ T.b_range (dh (iy mB T.b_len cE (dh (fP (c7 0)) dD)) dD)) (eI 3 nd)
    (dZ (gP (eV (iU b) (eP (fP (c7 0)) (c7 3)) (c7 1)) (eE (mH 2 (mY (dh jR (dh (c7 3) dD))))) gO)
   (eE (gP (eV (iU b) (eP (fP (c7 0)) (c7 3)) (c7 1)) (eE (mH 2 (mY (dh jR (dh (c7 3) dD))))) gO))))
   (dZ (gP (eV (rf b) (c7 1) (fP (c7 0))) (eE (mH 2 (mY (dh jR dD)))) gO)
   (eE (uj 2))))))) Ua (by walk_at"bn")
variable(jr:Known P w K mg base 1 "ends_of" 2 zI)
include T in
theorem Vg(A:At K mg "column_of" (top 4)):Known P w K mg base 1 "column_of" 2 zD:=iV 0 A j0 (λf e A outer s H E d=>have b:=d.units;have nd:=j0.nd
 (dZ (gP (eV (iU b) (eP (c7 1) dA) jR) (eE (gN (y9 dA))) gO)
   (dZ (gP (eV (iU b) (eP (c7 1) dA) jR) (eE (gN (iy mB T.b_len cE (dh (fP (c7 0)) dD)))) gO)
   (eE (gN (eP (c7 1) dA)))))) Vz (by walk_at"bn")
variable(il:Known P w K mg base 1 "column_of" 2 zD)
include T jr il in
theorem VF(A:At K mg "stretch_of" (top 5)):Known P w K mg base 2 "stretch_of" 2 Ab:=iV 1 A jy (λf g A outer s H E b=>have e:=b.units;have nd:=jy.nd
 (dZ (ui 2 rfl (.of (N':=["end","channel"]) (m:=[none,some 0]) (by kernel_rfl)) iW (iK (gG jr b (dh (c7 0) (dh (c7 1) dD)))) (λs3 d ex=>(eI 0 Vp)) (λs3 d ex=>mv) (λs3 d ex=>(gG il b (dh (c7 1) (dh (c7 0) dD)))) nd)
   (dZ (gP (eV xH (Sr rfl T.b_len T.b_set (dh (c7 2) dD)) dA) (eE (gN jw)) gO)
   (eE (gN (mY (dh (iy (xI rfl) T.b_min boot_min (dh (c7 2) dD)) (dh (iy (vU rfl) T.b_max boot_max (dh (c7 2) dD)) dD)))))))) U1 (by walk_at"bn")
variable(gT:Known P w K mg base 2 "stretch_of" 2 Ab)
include T in
theorem Wf(A:At K mg "bend_columns" (top 9)):Known P w K mg base 1 "bend_columns" 2 zO:=iV 0 A i3 (λf g A outer s H E e=>have d:=e.units;have nd:=i3.nd
 (eE (gN (jV rfl (.of (N':=["column","bent_name","name"]) (m:=[none,none,some 1]) (by kernel_rfl)) tT (iK (fP (c7 0))) (λs3 b ex=>(lJ rfl (fQ (eI 0 LK) (fQ (eI 1 LK) kP)))) (λs3 b ex=>(mq (eV (iU d) (c7 1) (c7 2)))) (λs3 b ex=>(c7 0)))))) Wq (by walk_at"bn")
variable(gf:Known P w K mg base 1 "bend_columns" 2 zO)
include T in
theorem Vt(A:At K mg "width_of" (top 3)):Known P w K mg base 1 "width_of" 2 ye:=iV 0 A kQ (λf e A outer s H E d=>have b:=d.units;have nd:=kQ.nd
 (dZ (kC aO rfl (iK (fP (c7 0))) (lJ rfl (fQ (eI 2 nd) (fQ (eI 3 nd) kP)))
    (eE (gP (eV (iU b) (c7 2) (c7 1)) (eE (gN (c7 3))) gO)))
   (eE (gN dA)))) UA (by walk_at"bn")
variable(iR:Known P w K mg base 1 "width_of" 2 ye)
include T gT gf iR in
theorem VE(A:At K mg "net_pieces" (top 8)):Known P w K mg base 3 "net_pieces" 3 wx:=iV 2 A jz (λf g A outer s H E b=>have e:=b.units;have nd:=jz.nd
 (dZ (fq 3 (gG gT b (dh (c7 0) (dh (c7 1) dD))) nd)
   (dZ (gP (eV vP (c7 3) jw) (eE (gN (hU dD))) gO)
   (dZ (fq 4 (ya (xT (c7 2)) (gG gf b (dh (c7 0) (dh (c7 1) dD))) (hU dD)) nd)
   (dZ (fq 5 (eh fW (eh fW (hU (dh (eP (c7 3) dA) dD)) (c7 4)) (hU (dh (eP (c7 3) dA) dD))) nd)
   (dZ (fq 6 (gG iR b (dh (c7 0) (dh (c7 1) dD))) nd)
   (eE (gN (jV rfl (.of (N':=["first","last","name","width"]) (m:=[none,none,some 1,some 6]) (by kernel_rfl)) tT (xX T.b_zip (dh (c7 5) (dh (p4 (c7 5) (pk dA) rB) dD))) (λs3 d ex=>(lJ rfl (fQ (eI 0 LD) (fQ (eI 1 LD) kP)))) (λs3 d ex=>mv) (λs3 d ex=>(mY (dh (c7 2) (dh (c7 0) (dh (c7 1) (dh (c7 3) dD))))))))))))))) U0 (by walk_at"bn")
variable(fB:Known P w K mg base 3 "net_pieces" 3 wx)
theorem T5(T:Txt K mg)(g8:Known P w K mg base 1 "nets_of" 1 wt)(fB:Known P w K mg base 3 "net_pieces" 3 wx){f:Addr}(b:Value)(A:Around)(outer:List Env)(s:Shared)(H:Hp)(E:XK)(a:fN 3 (A.deeper (envOfC "pieces_of" (de fj) s.heap.objs.size f b))) :
  pL (rg nX P w K mg base ["channel","bent","pieces","name"] "pieces_of" (de fj) f b A outer s H E).tX (eW fj) CJ:=by
 have d:=a.units
 show(dZ (Cb 2 rfl (.of (N':=["first","last","tracks"]) (m:=[none,none,none]) (by kernel_rfl)) Uo (iK (fP (c7 0))) (λs3 c ex=>(lJ rfl (fQ (eI 0 FH) (fQ (eI 1 FH) (fQ (eI 2 FH) kP))))) (λs3 c ex=>mv) (λs3 c ex=>(mY (dh jw (dh (c7 0) (dh (c7 1) (dh (c7 2) dD)))))) iM.nd)
   (dZ (kC aO rfl (iK (gG g8 a (dh (c7 0) dD))) (eI 3 iM.nd)
    (eE (BS 2 (gG fB a (dh (c7 0) (dh (c7 3) (dh (c7 1) dD)))))))
   (eE (uj 2))))
theorem Vf(A:Dw K mg "pieces_of" fj [.bool false])(T:Txt K mg)(g8:Known P w K mg base 1 "nets_of" 1 wt)(fB:Known P w K mg base 3 "net_pieces" 3 wx):lY P w K mg base 4 "pieces_of" 2 zB false:=by
 obtain⟨_,f,fd,_,_,F,hm,lk,hd⟩:=A.ex;show⟨f,fd,["channel","bent"],Ed F iM (T5 T g8 fB) Vw,hm,F.kp,F.tE 2 lk hd (λ_ _ _ _ _ _ us a=>by obtain⟨_,_,rfl⟩:=Dy a;show⟨_,rfl,rfl⟩),F.tE 1 lk hd (λ_ _ _ _ _ _ us a=>by obtain⟨_,rfl⟩:=Dz a;show⟨_,rfl,rfl⟩)⟩
variable(ij:lY P w K mg base 4 "pieces_of" 2 zB false)
include T in
theorem Ve(A:At K mg "pieces_at" (top 11)):Known P w K mg base 1 "pieces_at" 3 wu:=iV 0 A jY (λf g A outer s H E e=>have d:=e.units;have nd:=jY.nd
 (eE (gN (jV rfl (.of (N':=["number","piece","name","column"]) (m:=[none,none,some 1,some 2]) (by kernel_rfl)) tT (x9 T.b_enumerate (dh (c7 0) dD)) (λs3 b ex=>(lJ rfl (fQ (eI 0 LC) (fQ (eI 1 LC) kP)))) (λs3 b ex=>(mq (oh (eV (iU d) (eP (c7 1) dA) (c7 2)) (rC (EC vW vW (eP (c7 1) dA) (c7 3) (eP (c7 1) dA)))).pb)) (λs3 b ex=>(c7 0)))))) Vx (by walk_at"bn")
variable(fg:Known P w K mg base 1 "pieces_at" 3 wu)
include T fg in
theorem VQ(A:At K mg "pin_triples" (top 21)):Known P w K mg base 2 "pin_triples" 2 z7:=iV 1 A jb (λf g A outer s H E b=>have e:=b.units;have nd:=jb.nd
 (dZ (mX 2 (hU dD) nd)
   (dZ (kC aO rfl (nQ T.b_range (dh (iy mB T.b_len cE (dh (fP (c7 0)) dD)) dD)) (eI 3 nd)
    (dZ (fq 4 (eP (fP (c7 0)) (c7 3)) nd)
   (dZ (fq 5 (eP (fP (c7 0)) (c7 3)) nd)
   (eE (gP (oh (eV p5 (c7 4) jw) (oh (eV p5 (c7 5) jw) (rC (eV (DG e) (c7 4) (c7 5))))).pb (dZ (fq 6 (gG fg b (dh (c7 1) (dh (c7 5) (dh (c7 3) dD)))) nd)
   (eE (kC aO rfl (iK (gG fg b (dh (c7 1) (dh (c7 4) (dh (c7 3) dD))))) (eI 7 nd)
    (eE (BS 2 (jV rfl (.of (N':=["lower","upper","column"]) (m:=[none,some 7,some 3]) (by kernel_rfl)) iW (iK (c7 6)) (λs3 d ex=>(eI 0 VI)) (λs3 d ex=>mv) (λs3 d ex=>(mY (dh (c7 1) (dh (c7 0) (dh (c7 2) dD))))))))))) gO)))))
   (eE (uj 2))))) VM (by walk_at"bn")
variable(gC:Known P w K mg base 2 "pin_triples" 2 z7)
include T in
theorem Vd(A:At K mg "common_of" (top 10)):Known P w K mg base 1 "common_of" 2 zC:=iV 0 A jZ (λf e A outer s H E b=>have d:=b.units;have nd:=jZ.nd
 (dZ (fq 2 (iy (vU rfl) T.b_max boot_max (dh (eP (c7 0) dA) (dh (eP (c7 1) dA) dD))) nd)
   (dZ (gP (eV t8 (c7 2) (iy (xI rfl) T.b_min boot_min (dh (eP (c7 0) dA) (dh (eP (c7 1) dA) dD)))) (eE (gN jw)) gO)
   (eE (gN (c7 2)))))) Vy (by walk_at"bn")
variable(ik:Known P w K mg base 1 "common_of" 2 zC)
include T ik in
theorem We(A:At K mg "beneath_keep" (top 23)):Known P w K mg base 2 "beneath_keep" 2 zN:=iV 1 A iZ (λf g A outer s H E d=>have e:=d.units;have nd:=iZ.nd
 (dZ (ui 2 rfl (.of (N':=["number","piece","keep"]) (m:=[none,none,some 0]) (by kernel_rfl)) tT (x9 T.b_enumerate (dh (c7 1) dD)) (λs3 b ex=>(lJ rfl (fQ (eI 0 LJ) (fQ (eI 1 LJ) kP)))) (λs3 b ex=>(mq (eV p5 (eP (c7 1) dA) jw))) (λs3 b ex=>(mY (dh (c7 0) (dh (gG ik d (dh (c7 2) (dh (c7 1) dD))) dD)))) nd)
   (eE (gN (jV rfl (.of (N':=["number","column"]) (m:=[none,none]) (by kernel_rfl)) tT (iK (c7 2)) (λs3 b ex=>(lJ rfl (fQ (eI 0 LI) (fQ (eI 1 LI) kP)))) (λs3 b ex=>(mq (eV p5 (c7 1) jw))) (λs3 b ex=>(mY (dh (c7 0) (dh (c7 1) dD))))))))) Wo (by walk_at"bn")
variable(gc:Known P w K mg base 2 "beneath_keep" 2 zN)
include T gc in
theorem Wd(A:At K mg "keep_triples" (top 22)):Known P w K mg base 3 "keep_triples" 1 zM:=iV 2 A iY (λf g A outer s H E b=>have e:=b.units;have nd:=iY.nd
 (dZ (mX 1 (hU dD) nd)
   (dZ (kC aO rfl (x9 T.b_enumerate (dh (c7 0) dD)) (lJ rfl (fQ (eI 2 nd) (fQ (eI 3 nd) kP)))
    (eE (gP (eV vP (eP (c7 3) dA) jw) (eE (BS 1 (jV rfl (.of (N':=["lower","column","upper"]) (m:=[none,none,some 2]) (by kernel_rfl)) tT (iK (gG gc b (dh (c7 3) (dh (c7 0) dD)))) (λs3 d ex=>(lJ rfl (fQ (eI 0 LH) (fQ (eI 1 LH) kP)))) (λs3 d ex=>mv) (λs3 d ex=>(mY (dh (c7 2) (dh (c7 0) (dh (c7 1) dD)))))))) gO)))
   (eE (uj 1))))) Wn (by walk_at"bn")
variable(f9:Known P w K mg base 3 "keep_triples" 1 zM)
include T gC f9 in
theorem UM(A:At K mg "above_of" (top 20)):Known P w K mg base 4 "above_of" 2 zz:=iV 3 A kS (λf e A outer s H E b=>have d:=b.units;have nd:=kS.nd
 (eE (gN (iy (RV rfl) T.b_sorted boot_sorted (dh (eh fW (gG gC b (dh (c7 0) (dh (c7 1) dD))) (gG f9 b (dh (c7 1) dD))) dD))))) Uz (by walk_at"bn")
variable(iT:Known P w K mg base 4 "above_of" 2 zz)
include T in
theorem UL(A:At K mg "_law_mix" (top 33)):Known P w K mg base 1 "_law_mix" 2 rD:=iV 0 A kU (λf e A outer s H E b=>have d:=b.units;have nd:=kU.nd
 (eE (gN (eh lH (eh iu (eh fW (eh fW (eh mE (eh iu (c7 0) (eh yU dA dA)) (eh fW (eh mE (c7 1) (c7 1)) dA)) (eh mE (eh mE (eh mE dA (c7 1)) (c7 1)) (c7 1))) dA) dA) dA)))) UB (by walk_at"bn")
variable(dQ:Known P w K mg base 1 "_law_mix" 2 rD)
include T dQ in
theorem VD(A:At K mg "_law_turns" (top 42)):Known P w K mg base 2 "_law_turns" 3 z9:=iV 1 A jA (λf g A outer s H E e=>have d:=e.units;have nd:=jA.nd
 (dZ (mX 3 (Ru rfl (.of (N':=["_law_k"]) (m:=[none]) (by kernel_rfl)) iW (nQ T.b_range (dh (c7 0) dD)) (λs3 b ex=>(eI 0 Vo)) (λs3 b ex=>mv) (λs3 b ex=>(hU dD))) nd)
   (dZ (kC aO rfl (iK (c7 1)) (lJ rfl (fQ (eI 4 nd) (fQ (eI 5 nd) (fQ (eI 6 nd) kP))))
    (eE (Qd 3 (c7 5) (c7 4))))
   (dZ (mX 7 (Rm rfl T.b_list T.b_range (dh (c7 0) dD)) nd)
   (dZ (mX 8 (hU dD) nd)
   (si 3 (dZ (JZ aO (eV t8 (JF 7 T.b_len) dA) (dZ (Rt 7 9 rfl (.of (N':=["_law_q","_law_waiting","_law_uppers"]) (m:=[none,some 7,some 3]) (by kernel_rfl)) iW (iK (c7 7)) (λs3 b ex=>(eI 0 Vn)) (λs3 b ex=>(mq (DY (xT (iy (Oz rfl) T.b_any boot_any (dh (jV rfl (.of (N':=["_law_p","_law_waiting"]) (m:=[none,some 1]) (by kernel_rfl)) iW (iK (eP (c7 2) (c7 0))) (λs3 b ex=>(eI 0 Vm)) (λs3 b ex=>mv) (λs3 b ex=>(vf (rf d) (c7 0) (c7 1)))) dD)))))) (λs3 b ex=>(c7 0)) nd)
   (si 9 (dZ (gP (eV (iU d) (iy mB T.b_len cE (dh (c7 9) dD)) dA) (eE (gN jw)) gO)
   (dZ (mH 8 (eP (c7 9) (eh iu (gG dQ e (dh (c7 2) (dh (eh fW (JF 8 T.b_len) dA) dD))) (iy mB T.b_len cE (dh (c7 9) dD)))))
   (eE (RS 7 (BX 8 (y9 dA)))))))))
   (eE (uj 8))))))))) UY (by walk_at"bn")
variable(gU:Known P w K mg base 2 "_law_turns" 3 z9)
include T in
theorem UK(A:At K mg "count_of" (top 27)):Known P w K mg base 1 "count_of" 2 yd:=iV 0 A kR (λf g A outer s H E d=>have e:=d.units;have nd:=kR.nd
 (eE (gN (P4 rfl (jV rfl (.of (N':=["piece","track"]) (m:=[none,none]) (by kernel_rfl)) tT (xX T.b_zip (dh (c7 0) (dh (c7 1) dD))) (λs3 b ex=>(lJ rfl (fQ (eI 0 LA) (fQ (eI 1 LA) kP)))) (λs3 b ex=>mv) (λs3 b ex=>(eh fW (c7 1) (eP (c7 0) dA)))) dA T.b_max)))) Uy (by walk_at"bn")
variable(iS:Known P w K mg base 1 "count_of" 2 yd)
include T in
theorem VC(A:At K mg "_law_clear" (top 43)):Known P w K mg base 1 "_law_clear" 4 z8:=iV 0 A jF (λf e A outer s H E d=>have b:=d.units;have nd:=jF.nd
 (dZ (kC aO rfl (nQ T.b_range (dh (iy mB T.b_len cE (dh (c7 0) dD)) dD)) (eI 4 nd)
    (eE (gP (oh (eV NO (eP (c7 1) (c7 4)) dA) (rC (IT (eV vP (eP (eP (c7 0) (c7 4)) dA) jw) (Jt (eV (DG b) (eP (eP (c7 0) (c7 4)) dA) (eP (eP (c7 0) (c7 2)) dA)))).pb)).pb (eE (gP (eV DH (iy (vU rfl) T.b_max boot_max (dh (eP (eP (c7 0) (c7 4)) dA) (dh (eP (eP (c7 0) (c7 2)) dA) dD))) (iy (xI rfl) T.b_min boot_min (dh (eP (eP (c7 0) (c7 4)) dA) (dh (eP (eP (c7 0) (c7 2)) dA) dD)))) (eE (gP (oh (eV xH (eP (c7 1) (c7 4)) (eh fW (c7 3) (eP (eP (c7 0) (c7 2)) dA))) (rC (eV xH (c7 3) (eh fW (eP (c7 1) (c7 4)) (eP (eP (c7 0) (c7 4)) dA))))).pb (eE (gN BI)) gO)) gO)) gO)))
   (eE (gN BI)))) UX (by walk_at"bn")
variable(g6:Known P w K mg base 1 "_law_clear" 4 z8)
include T dQ g6 in
theorem VP(A:At K mg "_law_tracks" (top 44)):Known P w K mg base 2 "_law_tracks" 4 z6:=iV 1 A jc (λf g A outer s H E b=>have e:=b.units;have nd:=jc.nd
 (dZ (Cb 4 rfl (.of (N':=["_law_piece"]) (m:=[none]) (by kernel_rfl)) iW (iK (c7 0)) (λs3 d ex=>(eI 0 VH)) (λs3 d ex=>mv) (λs3 d ex=>(y9 dA)) nd)
   (dZ (kC aO rfl (x9 T.b_enumerate (dh (c7 2) dD)) (lJ rfl (fQ (eI 5 nd) (fQ (eI 6 nd) kP)))
    (dZ (fq 7 (eP (hU (dh dA (dh dA (dh dA (dh dA (dh dA dD)))))) (eh iu (gG dQ b (dh (c7 3) (dh (eh fW (c7 5) dA) dD))) dA)) nd)
   (dZ (kC aO rfl (iK (c7 1)) (lJ rfl (fQ (eI 8 nd) (fQ (eI 9 nd) (fQ (eI 10 nd) kP))))
    (eE (gP (eV (iU e) (c7 9) (c7 6)) (eE (fq 7 (iy (vU rfl) T.b_max boot_max (dh (c7 7) (dh (eh fW (BX 4 (c7 8)) (eP (eP (c7 0) (c7 8)) dA)) dD))) nd)) gO)))
   (dZ (JZ aO (DY (xT (Pp 4 (gG g6 b (dh (c7 0) (dh (c7 4) (dh (c7 6) (dh (c7 7) dD)))))))) (eE (fq 7 (eh fW (c7 7) dA) nd)))
   (eE (Ry 4 (c7 6) (c7 7)))))))
   (eE (uj 4))))) VL (by walk_at"bn")
variable(gD:Known P w K mg base 2 "_law_tracks" 4 z6)
include T js kn g5 ij iT gU gD in
theorem VO(A:At K mg "_law_layout" (top 45)):Known P w K mg base 5 "_law_layout" 2 z5:=iV 4 A jd (λf e A outer s H E b=>have d:=b.units;have nd:=jd.nd
 (dZ (fq 2 (hU (dh (hU (dh (c7 0) (dh (vf (iU d) (eh iu (c7 1) dA) dA) dD))) (dh (hU (dh (c7 0) (dh (vf (iU d) (eh iu (c7 1) dA) dA) dD))) (dh (hU (dh (gG g5 b (dh (c7 0) dD)) (dh (vf (iU d) (eh iu (c7 1) dA) dA) dD))) dD)))) nd)
   (dZ (kC aO rfl (iK (c7 2)) (Eb rfl (fQ (eI 3 nd) (fQ (eI 4 nd) kP)))
    (dZ (fq 5 (JS js b (dh (eP (c7 3) dA) (dh (eP (c7 3) dA) (dh (eP (c7 3) dA) (dh (eP (c7 3) dA) (dh (eP (c7 3) dA) (dh (eP (c7 3) dA) (dh (eP (c7 3) dA) dD)))))))) nd)
   (dZ (fq 6 (gG ij.all b (dh (c7 5) (dh (c7 4) dD))) nd)
   (dZ (fq 7 (gG iT b (dh (c7 5) (dh (c7 6) dD))) nd)
   (dZ (fq 8 (gG gU b (dh (iy mB T.b_len cE (dh (c7 6) dD)) (dh (c7 7) (dh (c7 1) dD)))) nd)
   (eE (gP (eV p5 (c7 8) jw) (eE (gN (JS kn b (dh (c7 5) (dh (c7 4) (dh (c7 6) (dh (c7 7) (dh (gG gD b (dh (c7 6) (dh (c7 7) (dh (c7 8) (dh (c7 1) dD))))) dD)))))))) gO)))))))
   (eE (gN jw))))) VJ (by walk_at"bn")
variable(gE:Known P w K mg base 5 "_law_layout" 2 z5)
include T in
theorem Vc(A:At K mg "_law_stem" (top 31)):Known P w K mg base 1 "_law_stem" 2 zF:=iV 0 A j3 (λf e A outer s H E b=>have d:=b.units;have nd:=j3.nd
 (dZ (fq 2 jR nd)
   (dZ (fq 3 jR nd)
   (dZ (kC aO rfl (nQ T.b_range (dh (c7 1) dD)) (eI 4 nd)
    (dZ (fq 3 (eh fW (c7 3) (eP (c7 2) (eh iu (c7 0) dA))) nd)
   (eE (fq 0 (eh lH (c7 0) dA) nd))))
   (eE (gN (c7 3))))))) U6 (by walk_at"bn")
variable(ip:Known P w K mg base 1 "_law_stem" 2 zF)
include T ip in
theorem V0(A:At K mg "_law_named" (top 32)):Known P w K mg base 2 "_law_named" 1 zX:=iV 1 A jB (λf g A outer s H E e=>have d:=e.units;have nd:=jB.nd
 (dZ (fq 0 (eh iu (eh mE (eh fW (eh iu (c7 0) (eh yU dA dA)) dA) dA) (eh fW (eh yU dA dA) dA)) nd)
   (dZ (fq 1 (eh iu (c7 0) dA) nd)
   (dZ (fq 2 (gG ip e (dh (eh lH (c7 0) dA) (dh dA dD))) nd)
   (dZ (fq 3 (eh iu (eh lH (c7 0) dA) (eh fW (c7 1) dA)) nd)
   (dZ (gP (eV (iU d) (eh iu (eh lH (c7 0) dA) dA) dA) (eE (gN (jV rfl (.of (N':=["_law_sign_here","_law_stem_here","_law_at","_law_size"]) (m:=[none,some 2,some 3,some 1]) (by kernel_rfl)) iW (iK jR) (λs3 b ex=>(eI 0 Vl)) (λs3 b ex=>mv) (λs3 b ex=>(eh fW (eh fW (p4 (c7 1) rB (pk (c7 2))) (c7 0)) (p4 (c7 1) (pk (c7 2)) (pk (c7 3)))))))) gO)
   (dZ (gP (eV (iU d) (eh iu (eh lH (c7 0) dA) dA) dA) (eE (gN (jV rfl (.of (N':=["_law_k","_law_stem_here","_law_size"]) (m:=[none,some 2,some 1]) (by kernel_rfl)) iW (nQ T.b_range (dh dA dD)) (λs3 b ex=>(eI 0 Vk)) (λs3 b ex=>mv) (λs3 b ex=>(eh fW (eh fW (eh fW (p4 (c7 1) rB (pk (eh iu (c7 2) dA))) (eP jR (eh lH (c7 0) dA))) (eP jR (eh iu (eh lH (c7 0) dA) dA))) (eP jR (eh iu (c7 0) dA))))))) gO)
   (dZ (fq 4 (eh fW (eP jR (ph DJ T.b_int boot_int (dh (vf (iU d) (eP (c7 2) dA) jR) dD))) (p4 (c7 2) (pk dA) rB)) nd)
   (eE (gN (eh fW (jV rfl (.of (N':=["_law_k","_law_stem_here"]) (m:=[none,some 2]) (by kernel_rfl)) iW (nQ T.b_range (dh dA dD)) (λs3 b ex=>(eI 0 Vj)) (λs3 b ex=>mv) (λs3 b ex=>(p4 (c7 1) rB (pk (eh fW (c7 0) dA))))) (hU (dh (p4 (c7 4) rB (pk dA)) (dh (p4 (c7 4) rB (pk dA)) dD)))))))))))))) U4 (by walk_at"bn")
variable(gW:Known P w K mg base 2 "_law_named" 1 zX)
include T dQ in
theorem Vb(A:At K mg "_law_pins" (top 34)):Known P w K mg base 2 "_law_pins" 4 zE:=iV 1 A j5 (λf e A outer s H E b=>have d:=b.units;have nd:=j5.nd
 (dZ (mX 4 (hU dD) nd)
   (dZ (mX 5 (hU dD) nd)
   (dZ (kC aO rfl (nQ T.b_range (dh (c7 3) dD)) (eI 6 nd)
    (dZ (mX 7 (hU dD) nd)
   (dZ (kC aO rfl (nQ T.b_range (dh dA dD)) (eI 8 nd)
    (dZ (fq 9 (eh fW (eh mE dA (c7 6)) (c7 8)) nd)
   (dZ (fq 10 (gG dQ b (dh (c7 2) (dh (c7 9) dD))) nd)
   (dZ (gP (eV xH (c7 9) (iy mB T.b_len cE (dh (c7 1) dD))) (eE (fq 10 (gG dQ b (dh (eP (c7 1) (c7 9)) (dh (c7 9) dD))) nd)) gO)
   (eE (mH 7 (eP (hU (dh (eP (c7 0) (eh iu (c7 10) dA)) (dh (eP (c7 0) (eh iu (eh lH (c7 10) dA) dA)) (dh (eP (c7 0) (eh iu (eh lH (c7 10) dA) dA)) (dh jw dD))))) (eh iu (eh lH (c7 10) dA) dA))))))))
   (dZ (mH 4 (BX 7 dA))
   (eE (mH 5 (BX 7 dA)))))))
   (si 5 (si 4 (eE (gN (mY (dh (c7 4) (dh (c7 5) dD))))))))))) U5 (by walk_at"bn")
variable(ir:Known P w K mg base 2 "_law_pins" 4 zE)
include T in
theorem Va(A:At K mg "_law_open" (top 39)):Known P w K mg base 1 "_law_open" 2 yh:=iV 0 A j6 (λf g A outer s H E e=>have b:=e.units;have nd:=j6.nd
 (dZ (gP (eV (iU b) (eh iu (eh lH (c7 1) dA) dA) dA) (eE (gN (hU dD))) gO)
   (eE (gN (iy (JU rfl) T.b_sorted boot_sorted (dh (jV rfl (.of (N':=["_law_k","_law_words","_law_bits"]) (m:=[none,some 0,some 1]) (by kernel_rfl)) iW (nQ T.b_range (dh dA dD)) (λs3 d ex=>(eI 0 Vu)) (λs3 d ex=>(mq (eV (iU b) (eh iu (eh lH (c7 2) (eP (hU (dh dA (dh dA (dh dA (dh dA (dh dA (dh dA (dh dA (dh dA dD))))))))) (c7 0))) dA) dA))) (λs3 d ex=>(eP (c7 1) (c7 0)))) dD)))))) VA (by walk_at"bn")
variable(gK:Known P w K mg base 1 "_law_open" 2 yh)
include T in
theorem Wb(A:At K mg "_law_stretch" (top 36)):Known P w K mg base 1 "_law_stretch" 5 zQ:=iV 0 A i4 (λf g A outer s H E e=>have b:=e.units;have nd:=i4.nd
 (dZ (Cb 5 rfl (.of (N':=["_law_c","_law_word","_law_top","_law_bottom"]) (m:=[none,some 4,some 0,some 1]) (by kernel_rfl)) iW (nQ T.b_range (dh (iy mB T.b_len cE (dh (c7 0) dD)) dD)) (λs3 d ex=>(eI 0 Wl)) (λs3 d ex=>(mq (eV (rf b) (c7 1) (hU (dh (eP (c7 2) (c7 0)) (dh (eP (c7 3) (c7 0)) dD)))))) (λs3 d ex=>(c7 0)) nd)
   (dZ (gP (eV (rf b) (c7 4) (c7 2)) (eE (mH 5 (y9 dA))) gO)
   (dZ (gP (eV (rf b) (c7 4) (c7 3)) (eE (mH 5 (iy mB T.b_len cE (dh (c7 0) dD)))) gO)
   (si 5 (eE (gN (mY (dh (iy (xI rfl) T.b_min boot_min (dh (eh fW (c7 5) (hU (dh dA dD))) dD)) (dh (iy (vU rfl) T.b_max boot_max (dh (eh fW (c7 5) (hU (dh (y9 dA) dD))) dD)) dD)))))))))) V7 (by walk_at"bn")
variable(gh:Known P w K mg base 1 "_law_stretch" 5 zQ)
include T dQ gh in
theorem VZ(A:At K mg "_law_bends" (top 37)):Known P w K mg base 2 "_law_bends" 4 zW:=iV 1 A jG (λf g A outer s H E d=>have b:=d.units;have nd:=jG.nd
 (dZ (BW (c7 0) (Eb rfl (fQ (eI 4 nd) (fQ (eI 5 nd) (fQ (eI 6 nd) (fQ (eI 7 nd) kP))))))
   (dZ (mX 8 (hU dD) nd)
   (dZ (kC aO rfl (nQ T.b_range (dh (iy mB T.b_len cE (dh (c7 4) dD)) dD)) (eI 9 nd)
    (dZ (fq 10 (gG dQ d (dh (eP (eh fW (c7 2) (hU (dh (c7 3) dD))) (eh iu (c7 9) (eh fW (iy mB T.b_len cE (dh (c7 2) dD)) dA))) (dh (eh fW (c7 9) dA) dD))) nd)
   (dZ (fq 11 (eP (c7 1) (eh iu (c7 10) dA)) nd)
   (dZ (gP (oh (eV (iU b) (eh iu (eh lH (c7 10) dA) dA) dA) (rC (eV p5 (eP (c7 4) (c7 9)) jw))).pb (eE (fq 11 (eP (c7 4) (c7 9)) nd)) gO)
   (dZ (BW (gG gh d (dh (c7 4) (dh (c7 5) (dh (c7 6) (dh (c7 7) (dh (c7 11) dD)))))) (lJ rfl (fQ (eI 12 nd) (fQ (eI 13 nd) kP))))
   (dZ (ui 14 rfl (.of (N':=["_law_x"]) (m:=[none]) (by kernel_rfl)) iW (iK (hU (dh (eP (c7 4) (c7 9)) (dh (eP (c7 5) (c7 9)) dD)))) (λs3 e ex=>(eI 0 Vi)) (λs3 e ex=>(mq (eV p5 (c7 0) jw))) (λs3 e ex=>(c7 0)) nd)
   (eE (gP (oh (eV xH (c7 12) (c7 9)) (oh (eV xH (c7 9) (c7 13)) (oh (IT (eV (iU b) (c7 14) (hU dD)) (Jt (eV (rf b) (c7 11) (c7 14)))).pb (rC (eV t8 (eh iu (eh lH (c7 10) dA) dA) dA))))).pb (eE (mH 8 (mY (dh (c7 9) (dh (c7 11) dD))))) gO))))))))
   (eE (uj 8)))))) U3 (by walk_at"bn")
variable(g7:Known P w K mg base 2 "_law_bends" 4 zW)
include T dQ in
theorem VY(A:At K mg "_law_keeps" (top 38)):Known P w K mg base 2 "_law_keeps" 3 zV:=iV 1 A jD (λf e A outer s H E b=>have d:=b.units;have nd:=jD.nd
 (dZ (mX 3 (hU dD) nd)
   (dZ (kC aO rfl (x9 T.b_enumerate (dh (p4 (c7 1) rB (pk dA)) dD)) (lJ rfl (fQ (eI 4 nd) (fQ (eI 5 nd) kP)))
    (dZ (fq 6 (gG dQ b (dh (eh fW (c7 5) (c7 2)) (dh (eh fW (c7 4) dA) dD))) nd)
   (dZ (fq 7 (eh iu (c7 6) (c7 0)) nd)
   (eE (gP (eV (iU d) (eh iu (eh lH (c7 6) dA) dA) dA) (eE (mH 3 (mY (dh (c7 7) (dh (eh fW (c7 7) (eh iu (eh lH (c7 6) dA) (eh Il (c7 0) (c7 7)))) (dh (eh fW dA (eh iu (eh lH (c7 6) dA) dA)) dD)))))) gO)))))
   (eE (uj 3))))) U2 (by walk_at"bn")
variable(gZ:Known P w K mg base 2 "_law_keeps" 3 zV)
include T eX dQ gW ir gK g7 gZ in
theorem Wa(A:At K mg "_law_channel" (top 40)):Known P w K mg base 3 "_law_channel" 2 zP:=iV 2 A i5 (λf g A outer s H E d=>have e:=d.units;have nd:=i5.nd
 (dZ (fq 2 (eh iu (eh mE (eh iu (iy (BP rfl) T.b_sum boot_sum (dh (p4 (c7 0) rB (pk dA)) dD)) (eh yU dA dA)) dA) dA) nd)
   (dZ (fq 3 (gG gW d (dh (iy (BP rfl) T.b_sum boot_sum (dh (p4 (c7 0) rB (pk dA)) dD)) dD)) nd)
   (dZ (fq 4 (eh fW dA (eh iu (c7 2) (c7 1))) nd)
   (dZ (fq 5 (p4 (c7 0) (pk dA) rB) nd)
   (dZ (BW (gG ir d (dh (c7 3) (dh (c7 5) (dh (c7 2) (dh (c7 4) dD))))) (lJ rfl (fQ (eI 6 nd) (fQ (eI 7 nd) kP))))
   (dZ (fq 8 (gG dQ d (dh (iy (BP rfl) T.b_sum boot_sum (dh (p4 (c7 0) (pk dA) (pk dA)) dD)) (dh (eh fW dA (eh iu (c7 2) dA)) dD))) nd)
   (dZ (fq 9 (gG gK d (dh (c7 3) (dh (c7 8) dD))) nd)
   (dZ (fq 10 (gG gK d (dh (c7 3) (dh (eh lH (c7 8) dA) dD))) nd)
   (dZ (fq 11 (jV rfl (.of (N':=["_law_word","_law_top","_law_bottom","_law_left","_law_right"]) (m:=[none,some 6,some 7,some 9,some 10]) (by kernel_rfl)) iW (iK (c7 3)) (λs3 b ex=>(eI 0 Wk)) (λs3 b ex=>(mq (eV (iU e) (gG eX d (dh (c7 1) (dh (c7 2) (dh (c7 3) (dh (c7 4) (dh (c7 0) dD)))))) dA))) (λs3 b ex=>(c7 0))) nd)
   (dZ (fq 6 (jV rfl (.of (N':=["_law_word","_law_lone"]) (m:=[none,some 11]) (by kernel_rfl)) iW (iK (c7 6)) (λs3 b ex=>(eI 0 VV)) (λs3 b ex=>mv) (λs3 b ex=>(ya (eV (rf e) (c7 0) (c7 1)) jw (c7 0)))) nd)
   (dZ (fq 7 (jV rfl (.of (N':=["_law_word","_law_lone"]) (m:=[none,some 11]) (by kernel_rfl)) iW (iK (c7 7)) (λs3 b ex=>(eI 0 VU)) (λs3 b ex=>mv) (λs3 b ex=>(ya (eV (rf e) (c7 0) (c7 1)) jw (c7 0)))) nd)
   (dZ (fq 9 (jV rfl (.of (N':=["_law_word","_law_lone"]) (m:=[none,some 11]) (by kernel_rfl)) iW (iK (c7 9)) (λs3 b ex=>(eI 0 VT)) (λs3 b ex=>(mq (eV (Ce e) (c7 0) (c7 1)))) (λs3 b ex=>(c7 0))) nd)
   (dZ (fq 10 (jV rfl (.of (N':=["_law_word","_law_lone"]) (m:=[none,some 11]) (by kernel_rfl)) iW (iK (c7 10)) (λs3 b ex=>(eI 0 VS)) (λs3 b ex=>(mq (eV (Ce e) (c7 0) (c7 1)))) (λs3 b ex=>(c7 0))) nd)
   (dZ (mX 12 (hU dD) nd)
   (dZ (kC aO rfl (x9 T.b_enumerate (dh (iy (JU rfl) T.b_sorted boot_sorted (dh (c7 3) dD)) dD)) (lJ rfl (fQ (eI 13 nd) (fQ (eI 14 nd) kP)))
    (dZ (fq 15 (gG dQ d (dh (eh fW (c7 2) (c7 13)) (dh dA dD))) nd)
   (eE (gP (oh (eV (iU e) (eh iu (c7 15) dA) dA) (rC (eV t8 (gG eX d (dh (c7 6) (dh (c7 7) (dh (c7 9) (dh (c7 10) (dh (c7 14) dD)))))) dA))).pb (eE (mH 12 (mY (dh (c7 14) (dh (eh fW dA (eh iu (eh lH (c7 15) dA) dA)) dD))))) gO))))
   (dZ (fq 16 (gG g7 d (dh (hU (dh (c7 6) (dh (c7 7) (dh (c7 9) (dh (c7 10) dD))))) (dh (c7 3) (dh (c7 5) (dh (c7 2) dD))))) nd)
   (dZ (fq 17 (hU dD) nd)
   (dZ (gP (eV (iU e) (eh iu (eh lH (c7 2) dA) dA) dA) (eE (fq 17 (gG gZ d (dh (c7 4) (dh (c7 5) (dh (c7 2) dD)))) nd)) gO)
   (si 12 (eE (gN (hU (dh (c7 6) (dh (c7 7) (dh (c7 9) (dh (c7 10) (dh (c7 12) (dh (c7 16) (dh (c7 17) dD)))))))))))))))))))))))))))))) V6 (by walk_at"bn")
variable(gj:Known P w K mg base 3 "_law_channel" 2 zP)
include T in
theorem Ws(A:At K mg "stretch_places" (top 15)):Known P w K mg base 1 "stretch_places" 1 zU:=iV 0 A ig (λf e A outer s H E d=>have b:=d.units;have nd:=ig.nd
 (dZ (mX 1 Kf nd)
   (dZ (kC aO rfl (xX T.b_zip (dh (fP (c7 0)) (dh (fP (c7 0)) dD))) (lJ rfl (fQ (eI 2 nd) (fQ (eI 3 nd) kP)))
    (eE (gP (eV p5 (eP (c7 2) dA) jw) (eE (kC aO rfl (Tc T.b_range (dh (eh fW (eh mE dA (eP (c7 2) dA)) dA) (dh (eh fW (eh mE dA (eP (c7 2) dA)) dA) dD))) (eI 4 nd)
    (eE (IV b 1 (mY (dh (eh fW (eh mE dA (c7 3)) dA) (dh (c7 4) dD))) (eP (c7 2) dA))))) gO)))
   (eE (D9 1))))) V5 (by walk_at"bn")
variable(fA:Known P w K mg base 1 "stretch_places" 1 zU)
include T in
theorem V3(A:At K mg "upright_names" (top 17)):Known P w K mg base 1 "upright_names" 2 zS:=iV 0 A iC (λf g A outer s H E e=>have d:=e.units;have nd:=iC.nd
 (dZ (mX 2 (hU (dh (eP (fP (fP (c7 0))) (c7 1)) (dh (eP (fP (fP (c7 0))) (c7 1)) dD))) nd)
   (dZ (gP (xT (fP (c7 0))) (eE (BS 2 (jV rfl (.of (N':=["bend_column","name","column"]) (m:=[none,none,some 1]) (by kernel_rfl)) tT (iK (fP (fP (c7 0)))) (λs3 b ex=>(lJ rfl (fQ (eI 0 LG) (fQ (eI 1 LG) kP)))) (λs3 b ex=>(mq (eV (iU d) (c7 0) (c7 2)))) (λs3 b ex=>(c7 1))))) gO)
   (si 2 (eE (gN (Fm rfl T.b_sorted T.b_set (dh (jV rfl (.of (N':=["name"]) (m:=[none]) (by kernel_rfl)) iW (iK (c7 2)) (λs3 b ex=>(eI 0 Wi)) (λs3 b ex=>(mq (eV p5 (c7 0) jw))) (λs3 b ex=>(c7 0))) dD)))))))) V1 (by walk_at"bn")
variable(fL:Known P w K mg base 1 "upright_names" 2 zS)
include T fg in
theorem V9(A:At K mg "upright_rows" (top 18)):Known P w K mg base 2 "upright_rows" 3 zL:=iV 1 A iX (λf g A outer s H E d=>have b:=d.units;have nd:=iX.nd
 (dZ (Cb 3 rfl (.of (N':=["number","layout"]) (m:=[none,some 0]) (by kernel_rfl)) iW (iK (gG fg d (dh (fP (c7 0)) (dh (c7 1) (dh (c7 2) dD))))) (λs3 e ex=>(eI 0 VR)) (λs3 e ex=>mv) (λs3 e ex=>(eh fW (eh mE dA (eP (fP (c7 1)) (c7 0))) dA)) nd)
   (dZ (gP (eV (iU b) (eP (fP (fP (c7 0))) (c7 2)) (c7 1)) (eE (mH 3 dA)) gO)
   (dZ (gP (eV (iU b) (eP (fP (fP (c7 0))) (c7 2)) (c7 1)) (eE (mH 3 (eh mE dA (fP (c7 0))))) gO)
   (si 3 (eE (gN (RP rfl T.b_list T.b_range (dh (iy (xI rfl) T.b_min boot_min (dh (c7 3) dD)) (dh (eh fW (iy (vU rfl) T.b_max boot_max (dh (c7 3) dD)) dA) dD)))))))))) Wm (by walk_at"bn")
variable(f7:Known P w K mg base 2 "upright_rows" 3 zL)
include T fL f7 in
theorem Wr(A:At K mg "upright_places" (top 16)):Known P w K mg base 3 "upright_places" 1 zT:=iV 2 A ie (λf e A outer s H E b=>have d:=b.units;have nd:=ie.nd
 (dZ (mX 1 Kf nd)
   (dZ (kC aO rfl (nQ T.b_range (dh (iy mB T.b_len cE (dh (fP (fP (c7 0))) dD)) dD)) (eI 2 nd)
    (eE (kC aO rfl (iK (gG fL b (dh (c7 0) (dh (c7 2) dD)))) (eI 3 nd)
    (eE (kC aO rfl (iK (gG f7 b (dh (c7 0) (dh (c7 3) (dh (c7 2) dD))))) (eI 4 nd)
    (eE (IV d 1 (mY (dh (c7 4) (dh (eh fW (eh mE dA (c7 2)) dA) dD))) (c7 3))))))))
   (eE (D9 1))))) V4 (by walk_at"bn")
variable(fw:Known P w K mg base 3 "upright_places" 1 zT)
include T in
theorem Uu(A:At K mg "sign_of" (top 14)):Known P w K mg base 1 "sign_of" 2 zH:=iV 0 A lM (λf e A outer s H E d=>have b:=d.units;have nd:=lM.nd
 (dZ (gP (oh (eV vP (c7 0) jw) (rC (eV vP (c7 1) jw))).pb (eE (gN jR)) gO)
   (dZ (gP (eV vP (c7 1) jw) (eE (gN jR)) gO)
   (dZ (gP (eV vP (c7 0) jw) (eE (gN jR)) gO)
   (dZ (gP (eV (iU b) (c7 0) (c7 1)) (eE (gN jR)) gO)
   (eE (gN jR))))))) T8 (by walk_at"bn")
variable(jq:Known P w K mg base 1 "sign_of" 2 zH)
include T fA fw jq in
theorem Us(A:At K mg "drawn" (top 13)):Known P w K mg base 4 "drawn" 1 zg:=iV 3 A oA (λf g A outer s H E d=>have e:=d.units;have nd:=oA.nd
 (dZ (fq 1 (gG fA d (dh (c7 0) dD)) nd)
   (dZ (fq 2 (gG fw d (dh (c7 0) dD)) nd)
   (dZ (mX 3 (hU dD) nd)
   (dZ (kC aO rfl (nQ T.b_range (dh (eh fW (eh mE dA (fP (c7 0))) dA) dD)) (eI 4 nd)
    (dZ (ui 5 rfl (.of (N':=["sign","row"]) (m:=[none,some 4]) (by kernel_rfl)) iW (nQ T.b_range (dh (eh fW (eh mE dA (iy mB T.b_len cE (dh (fP (fP (c7 0))) dD))) dA) dD)) (λs3 b ex=>(eI 0 Tj)) (λs3 b ex=>mv) (λs3 b ex=>(mY (dh (c7 1) (dh (c7 0) dD)))) nd)
   (eE (mH 3 (zf BU (.inr rfl) PySem.F.plainAttrs_str PySem.F.slot_str_join PySem.F.type_str_join jR (dh (jV rfl (.of (N':=["place","stretches","uprights"]) (m:=[none,some 1,some 2]) (by kernel_rfl)) iW (iK (c7 5)) (λs3 b ex=>(eI 0 Ti)) (λs3 b ex=>mv) (λs3 b ex=>(gG jq d (dh (Ke e (c7 1) (c7 0)) (dh (Ke e (c7 2) (c7 0)) dD))))) dD))))))
   (si 3 (eE (gN (zf BU (.inr rfl) PySem.F.plainAttrs_str PySem.F.slot_str_join PySem.F.type_str_join jR (dh (c7 3) dD)))))))))) To (by walk_at"bn")
variable(lD:Known P w K mg base 4 "drawn" 1 zg)
include T in
theorem V2(A:At K mg "_law_uprights" (top 46)):Known P w K mg base 1 "_law_uprights" 2 zR:=iV 0 A iD (λf g A outer s H E e=>have b:=e.units;have nd:=iD.nd
 (dZ (fq 2 (fP (c7 0)) nd)
   (dZ (ui 3 rfl (.of (N':=["_law_word"]) (m:=[none]) (by kernel_rfl)) iW (iK (hU (dh (eP (fP (c7 2)) (c7 1)) (dh (eP (fP (c7 2)) (c7 1)) dD)))) (λs3 d ex=>(eI 0 Wh)) (λs3 d ex=>(mq (eV p5 (c7 0) jw))) (λs3 d ex=>(c7 0)) nd)
   (dZ (gP (xT (fP (c7 0))) (eE (fq 3 (eh fW (c7 3) (jV rfl (.of (N':=["_law_pair","_law_c"]) (m:=[none,some 1]) (by kernel_rfl)) iW (iK (fP (c7 2))) (λs3 d ex=>(eI 0 Wg)) (λs3 d ex=>(mq (eV (iU b) (eP (c7 0) dA) (c7 1)))) (λs3 d ex=>(eP (c7 0) dA)))) nd)) gO)
   (dZ (mX 4 Qe nd)
   (dZ (kC aO rfl (iK (c7 3)) (eI 5 nd)
    (dZ (mX 6 (hU dD) nd)
   (dZ (kC aO rfl (xX T.b_zip (dh (fP (c7 0)) (dh (fP (c7 0)) dD))) (lJ rfl (fQ (eI 7 nd) (fQ (eI 8 nd) kP)))
    (eE (gP (oh (eV (iU b) (eP (c7 7) dA) (c7 5)) (rC (EC vW vW (eP (c7 7) dA) (c7 1) (eP (c7 7) dA)))).pb (eE (mH 6 (eh fW (eh mE dA (c7 8)) dA))) gO)))
   (dZ (gP (eV (iU b) (eP (fP (c7 2)) (c7 1)) (c7 5)) (eE (mH 6 dA)) gO)
   (dZ (gP (eV (iU b) (eP (fP (c7 2)) (c7 1)) (c7 5)) (eE (mH 6 (eh mE dA (fP (c7 0))))) gO)
   (si 6 (eE (Oa b 4 (c7 5) (mY (dh (iy (xI rfl) T.b_min boot_min (dh (c7 6) dD)) (dh (iy (vU rfl) T.b_max boot_max (dh (c7 6) dD)) dD)))))))))))
   (eE (D9 4)))))))) Wj (by walk_at"bn")
variable(fM:Known P w K mg base 1 "_law_uprights" 2 zR)
include T in
theorem VX(A:At K mg "_law_lying" (top 47)):Known P w K mg base 1 "_law_lying" 4 yi:=iV 0 A jC (λf e A outer s H E d=>have b:=d.units;have nd:=jC.nd
 (dZ (mX 4 (hU dD) nd)
   (dZ (kC aO rfl (xX T.b_zip (dh (fP (c7 0)) (dh (fP (c7 0)) dD))) (lJ rfl (fQ (eI 5 nd) (fQ (eI 6 nd) kP)))
    (eE (gP (oh (eV p5 (eP (c7 5) dA) jw) (oh (eV (iU b) (c7 6) (c7 1)) (oh (eV DH (eP (c7 5) dA) (c7 2)) (rC (eV DH (c7 3) (eP (c7 5) dA)))))).pb (eE (mH 4 (eP (c7 5) dA))) gO)))
   (eE (uj 4))))) UW (by walk_at"bn")
variable(gi:Known P w K mg base 1 "_law_lying" 4 yi)
include T gi in
theorem U9(A:At K mg "_law_sign" (top 48)):Known P w K mg base 2 "_law_sign" 4 zA:=iV 1 A j4 (λf g A outer s H E d=>have b:=d.units;have nd:=j4.nd
 (dZ (fq 4 (eh lH (c7 2) dA) nd)
   (dZ (fq 5 (eh lH (c7 3) dA) nd)
   (dZ (gP (eV (iU b) (eh iu (c7 3) dA) dA) (dZ (gP (oh (eV (iU b) (eh iu (c7 2) dA) dA) (rC (eV t8 (iy mB T.b_len cE (dh (gG gi d (dh (c7 0) (dh (c7 4) (dh (eh Il (c7 5) dA) (dh (c7 5) dD))))) dD)) dA))).pb (eE (gN jR)) gO)
   (eE (gN jR))) gO)
   (dZ (ui 6 rfl (.of (N':=["_law_word","_law_rows","_law_row"]) (m:=[none,none,some 2]) (by kernel_rfl)) tT (RU (eP (c7 1) (c7 5))) (λs3 e ex=>(lJ rfl (fQ (eI 0 LB) (fQ (eI 1 LB) kP)))) (λs3 e ex=>(mq (EC vW vW (eP (c7 1) dA) (c7 2) (eP (c7 1) dA)))) (λs3 e ex=>(c7 0)) nd)
   (dZ (fq 7 (hU dD) nd)
   (dZ (gP (eV (iU b) (eh iu (c7 2) dA) dA) (eE (fq 7 (gG gi d (dh (c7 0) (dh (c7 4) (dh (c7 5) (dh (c7 5) dD))))) nd)) gO)
   (dZ (gP (oh (eV t8 (iy mB T.b_len cE (dh (c7 7) dD)) dA) (rC (eV t8 (iy mB T.b_len cE (dh (c7 6) dD)) dA))).pb (eE (gN (eP (hU (dh jR (dh jR dD))) (ph DJ T.b_int boot_int (dh (vf (rf b) (eP (c7 6) dA) (c7 7)) dD))))) gO)
   (dZ (gP (eV t8 (iy mB T.b_len cE (dh (c7 7) dD)) dA) (eE (gN jR)) gO)
   (eE (gN (eP (hU (dh jR (dh jR dD))) (ph DJ T.b_int boot_int (dh (vf (iU b) (iy mB T.b_len cE (dh (c7 6) dD)) dA) dD)))))))))))))) Vv (by walk_at"bn")
variable(iq:Known P w K mg base 2 "_law_sign" 4 zA)
include T gE gj lD fM iq in
theorem Ow{f:Addr}(d:Value)(A:Around)(outer:List Env)(s:Shared)(H:Hp)(E:XK)(a:fN 5 (A.deeper (envOfC "law" (de (top 49)) s.heap.objs.size f d))) :
  pL (rg nX P w K mg base ["_law_script","_law_seed","_law_layout_here","_law_before","_law_text","_law_uprights_here","_law_due","_law_row","_law_signs"] "law" (de (top 49)) f d A outer s H E).tX (eW (top 49)) yT:=
 have c:=a.units;have nd:=sD.nd
 (dZ (fq 1 (eh iu (eh mE (eh iu (iy (BP rfl) T.b_sum boot_sum (dh (p4 (c7 0) rB (pk dA)) dD)) (eh yU dA dA)) dA) dA) nd)
   (dZ (fq 2 (gG gE a (dh (gG gj a (dh (c7 0) (dh dA dD))) (dh (c7 1) dD))) nd)
   (dZ (fq 3 (hU (dh (ph qB T.b_list boot_list (dh (fP (c7 2)) dD)) (dh (ph qB T.b_list boot_list (dh (fP (c7 2)) dD)) (dh (ph qB T.b_list boot_list (dh (fP (c7 2)) dD)) (dh (fP (c7 2)) (dh (fP (c7 2)) dD)))))) nd)
   (dZ (fq 4 (gG lD a (dh (c7 2) dD)) nd)
   (dZ (gP (DY (xT (Pn (c7 4) T.b_isinstance T.b_str boot_str))) (eE (gN BI)) gO)
   (dZ (fq 5 (jV rfl (.of (N':=["_law_c","_law_layout_here"]) (m:=[none,some 2]) (by kernel_rfl)) iW (nQ T.b_range (dh (iy mB T.b_len cE (dh (fP (fP (c7 2))) dD)) dD)) (λs3 b ex=>(eI 0 Qs)) (λs3 b ex=>mv) (λs3 b ex=>(gG fM a (dh (c7 1) (dh (c7 0) dD))))) nd)
   (dZ (mX 6 (hU dD) nd)
   (dZ (kC aO rfl (nQ T.b_range (dh (eh fW (eh mE dA (fP (c7 2))) dA) dD)) (eI 7 nd)
    (dZ (ui 8 rfl (.of (N':=["_law_place","_law_layout_here","_law_uprights_here","_law_row"]) (m:=[none,some 2,some 5,some 7]) (by kernel_rfl)) iW (nQ T.b_range (dh (eh fW (eh mE dA (iy mB T.b_len cE (dh (c7 5) dD))) dA) dD)) (λs3 b ex=>(eI 0 Qq)) (λs3 b ex=>mv) (λs3 b ex=>(gG iq a (dh (c7 1) (dh (c7 2) (dh (c7 3) (dh (c7 0) dD)))))) nd)
   (eE (mH 6 (zf BU (.inr rfl) PySem.F.plainAttrs_str PySem.F.slot_str_join PySem.F.type_str_join jR (dh (c7 8) dD))))))
   (si 6 (dZ (gP (eV (DG c) (c7 4) (zf BU (.inr rfl) PySem.F.plainAttrs_str PySem.F.slot_str_join PySem.F.type_str_join jR (dh (c7 6) dD))) (eE (gN BI)) gO)
   (eE (gN (vf (iU c) (c7 3) (hU (dh (fP (c7 2)) (dh (fP (c7 2)) (dh (fP (c7 2)) (dh (fP (c7 2)) (dh (fP (c7 2)) dD)))))))))))))))))))
theorem wR{fa:Addr}(T:Txt K mg)(kN:xy K mg "Channel" "Channel.__init__" jl ["top","bottom","left","right","wide","bends","keeps"])(ml:xy K mg "Layout" "Layout.__init__" j8 ["channel","bent","pieces","above","tracks","count"])(AA:At K mg "_law_many" (top 35)/\At K mg "_law_eased" (top 41)/\At K mg "nets_of" (top 2)/\At K mg "ends_of" (top 1)/\At K mg "column_of" (top 4)/\At K mg "stretch_of" (top 5)/\At K mg "bend_columns" (top 9)/\At K mg "width_of" (top 3)/\At K mg "net_pieces" (top 8)/\At K mg "pieces_at" (top 11)/\At K mg "pin_triples" (top 21)/\At K mg "common_of" (top 10)/\At K mg "beneath_keep" (top 23)/\At K mg "keep_triples" (top 22)/\At K mg "above_of" (top 20)/\At K mg "_law_mix" (top 33)/\At K mg "_law_turns" (top 42)/\At K mg "count_of" (top 27)/\At K mg "_law_clear" (top 43)/\At K mg "_law_tracks" (top 44)/\At K mg "_law_layout" (top 45)/\At K mg "_law_stem" (top 31)/\At K mg "_law_named" (top 32)/\At K mg "_law_pins" (top 34)/\At K mg "_law_open" (top 39)/\At K mg "_law_stretch" (top 36)/\At K mg "_law_bends" (top 37)/\At K mg "_law_keeps" (top 38)/\At K mg "_law_channel" (top 40)/\At K mg "stretch_places" (top 15)/\At K mg "upright_names" (top 17)/\At K mg "upright_rows" (top 18)/\At K mg "upright_places" (top 16)/\At K mg "sign_of" (top 14)/\At K mg "drawn" (top 13)/\At K mg "_law_uprights" (top 46)/\At K mg "_law_lying" (top 47)/\At K mg "_law_sign" (top 48)/\At K mg "law" (top 49)/\True)(jk:Dw K mg "pieces_of" fj [.bool false])(uG:mg "law"=some (.ref fa)):∃fd:FuncData,(∀(s:Shared)(u:Value),BindsTo s fd ⟨[u],[]⟩ [("_law_script",u)])/\∀base:Heap,jv P w K mg base nX 6 fa fd ["_law_script"] (xu K 1 (DK 63)):=by
 obtain⟨x,B,e,d,r,L,O,m,J,v,U,t,Q,X,i,h,I,j,z,S,R,q,F,o,n,N,y,C,M,Z,W,Y,kL,g,b,V,D,p,By,_⟩:=AA;show Pm (T:=λ_=>yT) By uG sD (by walk_at"bn") (λbase f eJ A outer s H E hr=>?_) (λ_=>Qt);have js:jO P w K mg base 1 "Channel" 7 zJ:=Ux kN T;have eX:Known P w K mg base 1 "_law_many" 5 vj:=Vh T x;have g5:Known P w K mg base 2 "_law_eased" 1 Aa:=VG T eX B;have g8:Known P w K mg base 1 "nets_of" 1 wt:=Uw T e;have jr:Known P w K mg base 1 "ends_of" 2 zI:=Uv T d;have il:Known P w K mg base 1 "column_of" 2 zD:=Vg T r;have gT:Known P w K mg base 2 "stretch_of" 2 Ab:=VF T jr il L;have gf:Known P w K mg base 1 "bend_columns" 2 zO:=Wf T O;have iR:Known P w K mg base 1 "width_of" 2 ye:=Vt T m;have fB:Known P w K mg base 3 "net_pieces" 3 wx:=VE T gT gf iR J;have ij:lY P w K mg base 4 "pieces_of" 2 zB false:=Vf jk T g8 fB;have fg:Known P w K mg base 1 "pieces_at" 3 wu:=Ve T v;have gC:Known P w K mg base 2 "pin_triples" 2 z7:=VQ T fg U;have ik:Known P w K mg base 1 "common_of" 2 zC:=Vd T t;have gc:Known P w K mg base 2 "beneath_keep" 2 zN:=We T ik Q;have f9:Known P w K mg base 3 "keep_triples" 1 zM:=Wd T gc X;have iT:Known P w K mg base 4 "above_of" 2 zz:=UM T gC f9 i;have dQ:Known P w K mg base 1 "_law_mix" 2 rD:=UL T h;have gU:Known P w K mg base 2 "_law_turns" 3 z9:=VD T dQ I;have iS:Known P w K mg base 1 "count_of" 2 yd:=UK T j;have kn:jO P w K mg base 2 "Layout" 5 zu:=T7 ml T iS;have g6:Known P w K mg base 1 "_law_clear" 4 z8:=VC T z;have gD:Known P w K mg base 2 "_law_tracks" 4 z6:=VP T dQ g6 S;have gE:Known P w K mg base 5 "_law_layout" 2 z5:=VO T js kn g5 ij iT gU gD R;have ip:Known P w K mg base 1 "_law_stem" 2 zF:=Vc T q;have gW:Known P w K mg base 2 "_law_named" 1 zX:=V0 T ip F;have ir:Known P w K mg base 2 "_law_pins" 4 zE:=Vb T dQ o;have gK:Known P w K mg base 1 "_law_open" 2 yh:=Va T n;have gh:Known P w K mg base 1 "_law_stretch" 5 zQ:=Wb T N;have g7:Known P w K mg base 2 "_law_bends" 4 zW:=VZ T dQ gh y;have gZ:Known P w K mg base 2 "_law_keeps" 3 zV:=VY T dQ C;have gj:Known P w K mg base 3 "_law_channel" 2 zP:=Wa T eX dQ gW ir gK g7 gZ M;have fA:Known P w K mg base 1 "stretch_places" 1 zU:=Ws T Z;have fL:Known P w K mg base 1 "upright_names" 2 zS:=V3 T W;have f7:Known P w K mg base 2 "upright_rows" 3 zL:=V9 T fg Y;have fw:Known P w K mg base 3 "upright_places" 1 zT:=Wr T fL f7 kL;have jq:Known P w K mg base 1 "sign_of" 2 zH:=Uu T g;have lD:Known P w K mg base 4 "drawn" 1 zg:=Us T fA fw jq b;have fM:Known P w K mg base 1 "_law_uprights" 2 zR:=V2 T V;have gi:Known P w K mg base 1 "_law_lying" 4 yi:=VX T D;have iq:Known P w K mg base 2 "_law_sign" 4 zA:=U9 T gi p;show Ow T gE gj lD fM iq eJ A outer s H E hr
end
end Wc
open PySem PySem.W PyProof.Rows
theorem PySem.W.Fast.te17074796848662695728:True:=trivial
noncomputable def PySem.W.Fast.tw1400543727178122967:PySem.Program:=PySem.Challenge.pw_wirechannel_k50_sign_by_sign
theorem PySem.W.Fast.te1400543727178122967:PySem.Challenge.pw_wirechannel_k50_sign_by_sign=PySem.W.Fast.tw1400543727178122967:=rfl
noncomputable def PySem.W.Fast.tw9217274545502980121:List PySem.Stmt:=(PySem.Challenge.pw_wirechannel_k50_sign_by_sign.main.body.drop 0).take 16
theorem PySem.W.Fast.te9217274545502980121:(PySem.Challenge.pw_wirechannel_k50_sign_by_sign.main.body.drop 0).take 16=PySem.W.Fast.tw9217274545502980121:=rfl
noncomputable def PySem.W.Fast.tw7711641561333647102:List PySem.Stmt:=(PySem.Challenge.pw_wirechannel_k50_sign_by_sign.main.body.drop 16).take 9
theorem PySem.W.Fast.te7711641561333647102:(PySem.Challenge.pw_wirechannel_k50_sign_by_sign.main.body.drop 16).take 9=PySem.W.Fast.tw7711641561333647102:=rfl
noncomputable def PySem.W.Fast.tw9624254863867230515:List PySem.Stmt:=(PySem.Challenge.pw_wirechannel_k50_sign_by_sign.main.body.drop 25).take 4
theorem PySem.W.Fast.te9624254863867230515:(PySem.Challenge.pw_wirechannel_k50_sign_by_sign.main.body.drop 25).take 4=PySem.W.Fast.tw9624254863867230515:=rfl
noncomputable def PySem.W.Fast.tw7783970139303466013:List PySem.Stmt:=(PySem.Challenge.pw_wirechannel_k50_sign_by_sign.main.body.drop 29).take 6
theorem PySem.W.Fast.te7783970139303466013:(PySem.Challenge.pw_wirechannel_k50_sign_by_sign.main.body.drop 29).take 6=PySem.W.Fast.tw7783970139303466013:=rfl
noncomputable def PySem.W.Fast.tw11003439462201239066:List PySem.Stmt:=(PySem.Challenge.pw_wirechannel_k50_sign_by_sign.main.body.drop 35).take 13
theorem PySem.W.Fast.te11003439462201239066:(PySem.Challenge.pw_wirechannel_k50_sign_by_sign.main.body.drop 35).take 13=PySem.W.Fast.tw11003439462201239066:=rfl
noncomputable def PySem.W.Fast.tw18088826462054067617:List PySem.Stmt:=(PySem.Challenge.pw_wirechannel_k50_sign_by_sign.main.body.drop 48).take 2
theorem PySem.W.Fast.te18088826462054067617:(PySem.Challenge.pw_wirechannel_k50_sign_by_sign.main.body.drop 48).take 2=PySem.W.Fast.tw18088826462054067617:=rfl
namespace PySem.W.Fast
def tw17043688196719420878:=Nat
def tw14708449480427028703:=Nat
def tw2567829194532628382:=Nat
def tw12205420644236146429:=Nat
def tw5184160436511228650:=Nat
def tw7914037207555131396:=Nat
def tw17803915835486230315:=Nat
def tw18113737131582290113:=Nat
def tw7227993208311587126:=Nat
def tw15892689348553628121:=Nat
def tw219037579684591650:=Nat
def tw15041860064240890801:=Nat
def tw13673025215962819876:=Nat
def tw10928906805925661595:=Nat
def tw7697827151242300986:=Nat
def tw512813420493049797:=Nat
def tw12879856870935389852:=Nat
def tw9503288635356269748:=Nat
def tw10746435385609010980:=Nat
def tw12647020289703791552:=Nat
def tw9240277556033512340:=Nat
def tw10630470523660524255:=Nat
def tw16175179152152209946:=Nat
def tw5966721257442569315:=Nat
def tw4813498395426001416:=Nat
def tw12234236649942508547:=Nat
def tw14808301695436386108:=Nat
def tw4403339067274850554:=Nat
def tw6372984977266685849:=Nat
def tw13621661217654261824:=Nat
def tw7849966055939862288:=Nat
def tw4848302325703186725:=Nat
def tw15231343631647889178:=Nat
def tw8716495130993260103:=Nat
def tw152400825836227805:=Nat
def tw9785304080040107749:=Nat
def tw3561326625871991462:=Nat
def tw16536405424977495211:=Nat
def tw5062692978969123761:=Nat
def tw10935194434817759647:=Nat
def tw4642286690386935679:=Nat
def tw9230891774063466867:=Nat
def tw4415298100371880466:=Nat
def tw5545948238462233543:=Nat
def tw6818065386527955713:=Nat
def tw2305791320339702195:=Nat
def tw4562491132056431040:=Nat
def tw10055544899333752398:=Nat
def tw4188604572936060616:=Nat
def tw13818412356964930156:=Nat
def tw17055134853376050031:=Nat
def tw4607489276446275386:=Nat
def tw3380756843627390739:=Nat
def tw6973032328989041750:=Nat
def tw11488640522989615488:=Nat
def tw14385710776125698111:=Nat
def tw8723583585054366533:=Nat
def tw1971094053879971922:=Nat
def tw2400012652330966313:=Nat
def tw1358361116353346597:=Nat
def tw3921257278733716360:=Nat
def tw1646227818008770505:=Nat
def tw9472876091975597210:=Nat
def tw5010297809777337260:=Nat
def tw8768296909749077883:=Nat
def tw8230778732477562531:=Nat
def tw7862406557368192201:=Nat
def tw1475923477351060197:=Nat
def tw203251328691319025:=Nat
def tw9967784035342544841:=Nat
def tw3887972908914443722:=Nat
def tw14329190369707001798:=Nat
def tw2532019605325463991:=Nat
def tw756924336430608132:=Nat
def tw6861721820166115433:=Nat
def tw2071426343779802207:=Nat
def tw773933409292390594:=Nat
def tw581762331026251880:=Nat
def tw17280053867006460886:=Nat
def tw8292613003835389453:=Nat
def tw16893252087383846588:=Nat
def tw9996080515667104828:=Nat
def tw15466318020826063750:=Nat
def tw17541615900709302283:=Nat
def tw12490764595889677906:=Nat
def tw6851339841039897250:=Nat
def tw14036075483415986201:=Nat
def tw16071290580782393198:=Nat
def tw18379502780946643722:=Nat
def tw8998423013196653588:=Nat
def tw9069053432398579525:=Nat
def tw13783927765214905029:=Nat
def tw1870612589131659197:=Nat
def tw4874589712670145814:=Nat
def tw4185285048559123212:=Nat
def tw6525101529739863614:=Nat
def tw2908345938453738670:=Nat
def tw5930955699737588530:=Nat
def tw16851701270602362680:=Nat
def tw3309932408590735283:=Nat
def tw1696388501312427633:=Nat
def tw3007405105440290740:=Nat
def tw1667644259721942818:=Nat
def tw4583805074004362169:=Nat
def tw10592252841934567653:=Nat
def tw14204564236045215168:=Nat
def tw18313571809496604654:=Nat
def tw6555541875821574148:=Nat
def tw12871280423724895449:=Nat
def tw5172286028702254053:=Nat
def tw9767404606123962028:=Nat
def tw6051427492756843364:=Nat
def tw12083829672212420752:=Nat
def tw5848368804500936036:=Nat
def tw9561373788037498035:=Nat
def tw3567981234606476835:=Nat
def tw16893495744700671470:=Nat
def tw2365752940441709803:=Nat
def tw15272101390243569540:=Nat
def tw17025995512153108816:=Nat
def tw13048528947500779336:=Nat
def tw5170421238769823180:=Nat
def tw16131958041906349424:=Nat
def tw6780931814147970807:=Nat
def tw17421159378844150292:=Nat
def tw7555750118215122649:=Nat
def tw10859001262722298732:=Nat
def tw321275285886813430:=Nat
def tw16404943181398484190:=Nat
def tw15103008293420112308:=Nat
def tw15412181899212196960:=Nat
def tw13287436395280500337:=Nat
def tw10338174788410153177:=Nat
def tw15529625794730632892:=Nat
def tw94926971892315383:=Nat
def tw17878476401725759515:=Nat
def tw10126002452626818725:=Nat
def tw12507416414009240850:=Nat
def tw10220097926272853356:=Nat
def tw10941586104699285910:=Nat
def tw16841131582993068349:=Nat
def tw5638910622416079197:=Nat
def tw10252242894945692042:=Nat
def tw11159545526991763757:=Nat
def tw18071449415544534725:=Nat
def tw13903522005709735108:=Nat
def tw15173426908578584359:=Nat
def tw1481218654429722809:=Nat
def tw4729490803275921358:=Nat
def tw1979283347823512445:=Nat
def tw17695733251163808956:=Nat
def tw13536175664819346381:=Nat
def tw1279062613681347896:=Nat
def tw14412257647006063011:=Nat
def tw12051477708860717853:=Nat
def tw9289608000849806752:=Nat
def tw3360743126790316167:=Nat
def tw16067385487789943195:=Nat
def tw14129233873539852865:=Nat
def tw7160220376492823448:=Nat
def tw9581382197593618861:=Nat
def tw175519020661742629:=Nat
def tw1346827768013777703:=Nat
def tw4816425421139531825:=Nat
def tw15259376708775520499:=Nat
def tw15062750942137631577:=Nat
def tw10548218734984589722:=Nat
def tw11378905657122937228:=Nat
def tw3614626761995028184:=Nat
def tw12214314910436071948:=Nat
def tw18110743190105715123:=Nat
def tw1359772224736948631:=Nat
def tw1419702934025267566:=Nat
end PySem.W.Fast
noncomputable def PySem.W.Fast.tw8025927745594909653:PySem.Program:={ PySem.Challenge.pw_wirechannel_k50_sign_by_sign with main:={ PySem.Challenge.pw_wirechannel_k50_sign_by_sign.main with body:=[1,2,3,4,5,8,9,10,11,13,14,15,16,17,18,20,21,22,23,25,27,29,31,32,33,34,35,36,37,38,39,40,41,42,43,44,45,46,47,48,49].map λi=>PySem.Challenge.pw_wirechannel_k50_sign_by_sign.main.body.getD i (.Pass ⟨0,0,0,0⟩) } }
theorem PySem.W.Fast.te8025927745594909653:({ PySem.Challenge.pw_wirechannel_k50_sign_by_sign with main:={ PySem.Challenge.pw_wirechannel_k50_sign_by_sign.main with body:=[1,2,3,4,5,8,9,10,11,13,14,15,16,17,18,20,21,22,23,25,27,29,31,32,33,34,35,36,37,38,39,40,41,42,43,44,45,46,47,48,49].map λi=>PySem.Challenge.pw_wirechannel_k50_sign_by_sign.main.body.getD i (.Pass ⟨0,0,0,0⟩) } }:PySem.Program)=PySem.W.Fast.tw8025927745594909653:=rfl
local macro_rules | `(tactic| walk_at"A")=>`(tactic| ((try dsimp only[L2.uV]);refine' L2.Bs KX G ?a ?l ?c ?k;(case a=>k_is);(case l=>k_is);(case c=>k_is);(case k=>k_is)))
theorem PySem.Challenge.cw_wirechannel_k50_sign_by_sign_holds : PySem.Challenge.rw_wirechannel_k50_sign_by_sign.Holds := by
 w_on;o_law;k_head;(case hw=>w_witness2)
 k_fill
 show L2.qG (l:=PySem.Challenge.rw_wirechannel_k50_sign_by_sign) (n:=63) (k:=6) (x:="_law_script") rfl (by decide) rfl ⟨rfl,by decide,by decide⟩ (λw h Y=>PySem.W.kIn_of Y) ?F
 case F=>
  intro w mg fa h KX G uG;have kN:L2.xy (L2.uV KX) mg "Channel" "Channel.__init__" Wc.jl ["top","bottom","left","right","wide","bends","keeps"]:=by
   dsimp only[L2.uV];refine' L2.tF KX G ?aC ?a1 ?i1 ?l1 ?c1 ?k1 ?pg ?hd ?po ?sa ?mk ?kc ⟨?n0,?n1,?n2,?n3,?n4,?n5,?n6,trivial⟩
   (case aC=>k_is)
   (case a1=>k_is)
   (case i1=>k_is)
   (case l1=>k_is)
   (case c1=>k_is)
   (case k1=>k_is)
   (case pg=>k_is)
   (case hd=>k_is)
   (case po=>k_is)
   (case sa=>k_is)
   (case mk=>k_is)
   (case kc=>k_is)
   (case n0=>unfold L2.eO;k_is)
   (case n1=>unfold L2.eO;k_is)
   (case n2=>unfold L2.eO;k_is)
   (case n3=>unfold L2.eO;k_is)
   (case n4=>unfold L2.eO;k_is)
   (case n5=>unfold L2.eO;k_is)
   (case n6=>unfold L2.eO;k_is)
  have ml:L2.xy (L2.uV KX) mg "Layout" "Layout.__init__" Wc.j8 ["channel","bent","pieces","above","tracks","count"]:=by
   dsimp only[L2.uV];refine' L2.tF KX G ?aC ?a1 ?i1 ?l1 ?c1 ?k1 ?pg ?hd ?po ?sa ?mk ?kc ⟨?n0,?n1,?n2,?n3,?n4,?n5,trivial⟩
   (case aC=>k_is)
   (case a1=>k_is)
   (case i1=>k_is)
   (case l1=>k_is)
   (case c1=>k_is)
   (case k1=>k_is)
   (case pg=>k_is)
   (case hd=>k_is)
   (case po=>k_is)
   (case sa=>k_is)
   (case mk=>k_is)
   (case kc=>k_is)
   (case n0=>unfold L2.eO;k_is)
   (case n1=>unfold L2.eO;k_is)
   (case n2=>unfold L2.eO;k_is)
   (case n3=>unfold L2.eO;k_is)
   (case n4=>unfold L2.eO;k_is)
   (case n5=>unfold L2.eO;k_is)
  have jk:L2.Dw (L2.uV KX) mg "pieces_of" Wc.fj [.bool false]:=by
   dsimp only[L2.uV];refine' L2.xq KX G ?a ?l ?c ?k ?t
   (case a=>k_is);(case l=>k_is);(case c=>k_is);(case k=>k_is);(case t=>k_is)
  have T:Wc.Txt (L2.uV KX) mg:=by
   dsimp only[L2.uV];refine' ⟨bD KX G ?b_any,bD KX G ?b_enumerate,bD KX G ?b_int,bD KX G ?b_isinstance,bD KX G ?b_len,bD KX G ?b_list,bD KX G ?b_max,bD KX G ?b_min,bD KX G ?b_range,bD KX G ?b_set,bD KX G ?b_sorted,bD KX G ?b_str,bD KX G ?b_sum,bD KX G ?b_zip⟩
   (case b_any=>k_is)
   (case b_enumerate=>k_is)
   (case b_int=>k_is)
   (case b_isinstance=>k_is)
   (case b_len=>k_is)
   (case b_list=>k_is)
   (case b_max=>k_is)
   (case b_min=>k_is)
   (case b_range=>k_is)
   (case b_set=>k_is)
   (case b_sorted=>k_is)
   (case b_str=>k_is)
   (case b_sum=>k_is)
   (case b_zip=>k_is)
  show Wc.wR T kN ml ⟨by walk_at"A",by walk_at"A",by walk_at"A",by walk_at"A",by walk_at"A",by walk_at"A",by walk_at"A",by walk_at"A",by walk_at"A",by walk_at"A",by walk_at"A",by walk_at"A",by walk_at"A",by walk_at"A",by walk_at"A",by walk_at"A",by walk_at"A",by walk_at"A",by walk_at"A",by walk_at"A",by walk_at"A",by walk_at"A",by walk_at"A",by walk_at"A",by walk_at"A",by walk_at"A",by walk_at"A",by walk_at"A",by walk_at"A",by walk_at"A",by walk_at"A",by walk_at"A",by walk_at"A",by walk_at"A",by walk_at"A",by walk_at"A",by walk_at"A",by walk_at"A",by walk_at"A",trivial⟩ jk uG
#print axioms PySem.Challenge.cw_wirechannel_k50_sign_by_sign_holds
