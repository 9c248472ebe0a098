import PyProof.Rows.All
import Wide.All
import OpenK.AllK
import Wide.FinOn
import Lean
import PyProof.EqAt
import PyProof.EqKinds
import PyProof.TupleCall
import PyProof.NeKinds
import PyProof.SliceStr2
import PyProof.ConsumeWalk
import KE.KDictSum
import PyProof.DictWalks
import PyProof.AttrMissSeq
import KE.KDictOf
import PyProof.WalksS
import PyProof.Walks
import PyProof.DictList
import PyProof.MeetsDict
import PyProof.FactsAll.dict_3
import PyProof.MinMaxWalk
import PyProof.WalkInts
import PyProof.Rows.CallKwBuiltin
import PyProof.MaxThree
import PyProof.Rows.SortRunsK
import PyProof.Rows.SortShellK
import KE.KSortTup
import PyProof.DictRoadsH
import PyProof.DictIter
import KE.KDictList
import PyProof.ZipIter
import PyProof.TupleIter
import PyProof.WalksMore
import PyProof.SumWalkG
import PyProof.DictValues
import PyProof.FactsAll.dict_4
import PySem.SetOps
import OpenK.KMore
import PyProof.ListRange
import PyProof.DictItems
import PyProof.CallStr
import KE.KIntText
import PyProof.StrCalls2
import PyProof.Rows.StrItems
import PyProof.FactsAll.NoneType
import KE.KTryOn
import PyProof.Draws
import PyProof.EnumMake
import PyProof.Rows.Range3
import KE.KRevIter
import PyProof.ListStr
import PyProof.NsDelKeeps
import PyProof.RulesAs
import KE.KIsAll
import PyProof.ExcArgsOwn
import KE.KFind
import PySem.Challenge.RW_wirechannel_k71_piles_drawn
abbrev J':=PySem.W.Frag
set_option hygiene false
set_option compiler.extract_closed false
noncomputable section
local macro_rules|`(tactic|omega)=>`(tactic|first|decide|lia)
local macro_rules|`(tactic|ext)=>`(tactic|omega)
local macro_rules|`(tactic|show $t)=>`(tactic|refine $t)
set_option Elab.async false
set_option linter.all false
set_option maxRecDepth 100000
def aa:=@PySem.wpAny_bind
def ae:=@List.length_map
def af:=@Array.length_toList
def ag:=@PyProof.Rows.wpS_pure
def ah:=@PyProof.Rows.wpS_bind
def ai:=@List.getElem?_eq_getElem
def aj:=@PySem.Heap.get?_push_of_some
def ao:=@PySem.wpAny_pure
def aq:=@Bool.false_eq_true
def ar:=@List.getElem?_eq_some_iff
def au:=@List.mem_cons
def av:=@Array.getElem_toList
def aw:=@List.mem_append
def ax:=@List.map_cons
def ay:=@List.length_append
def az:=@Nat.le_refl
def aA:=@List.size_toArray
def aB:=@PySem.Heap.get?_push_size
def aD:=@List.length_cons
def aE:=@List.map_append
def aF:=@PySem.Heap.lt_size
def aG:=@Option.some.injEq
def aH:=@Array.toList_push
def aI:=@List.mem_of_getElem?
def aJ:=@List.getElem?_map
def aK:=@List.mem_cons_of_mem
def aL:=@Nat.le_trans
def aM:=@List.mem_map
def aN:=@Nat.ne_of_lt
def aO:=@PySem.PassesOwn.never
def aP:=@List.length_take
def aQ:=@if_false
def aR:=@List.map_map
def aS:=@Array.getElem_mem
def aT:=@List.mem_filter
def aU:=@List.mem_append_right
def aV:=@Nat.lt_of_lt_of_le
def aW:=@Bool.false_ne_true
def aX:=@if_true
def aY:=@List.take_add_one
def aZ:=@Nat.zero_le
def a9:=@List.append_nil
def ba:=@List.length_filter_le
def bg:=@decide_eq_false
def bh:=@List.take_of_length_le
def bj:=@PySem.Heap.get?_update_other
def bp:=@List.mem_singleton
def br:=@List.length_range
def bw:=@List.append_assoc
def bx:=@List.pairwise_append
def bz:=@decide_eq_false_iff_not
def bA:=@PyProof.Rows.wpS_forRange
def bB:=@List.mem_range
def bC:=@List.not_mem_nil
def bD:=@PySem.W.mg_none_of
def bE:=@decide_eq_true_eq
def bF:=@List.take_append_drop
def bG:=@Int.emod_nonneg
def bH:=@Int.emod_lt_of_pos
def bI:=@Array.toList_append
def bJ:=@PySem.wpAny_holding
def bK:=@List.getElem_mem
def bL:=@List.take_length
def bM:=@List.pairwise_cons
def bN:=@List.drop_eq_getElem_cons
def bO:=@List.mem_append_left
def bP:=@Array.mem_toList_iff
def bQ:=@List.map_nil
def bR:=@decide_false
def bS:=@List.count_eq_zero
def bT:=@List.getElem_of_mem
def bU:=@Option.some.inj
def bV:=@List.nodup_cons
def bW:=@exists_eq_left'
def bX:=@List.getElem?_cons_succ
def bY:=@Nat.lt_succ_of_lt
def bZ:=@Bool.not_eq_true'
def b8:=@List.eq_nil_of_length_eq_zero
def b9:=@PySem.Around.under_plainId
def cf:=@List.length_drop
def cg:=@List.cons_append
def cj:=@Nat.le_succ
def cq:=@decide_true
def cv:=@List.mem_map_of_mem
namespace L2
open PySem PySem.Spec PyProof.Rows
noncomputable abbrev Key:=Sum Int Str
noncomputable def xK:Key->Value->Bool
 | .inl k,v=>Value.isInt k v
 | .inr x,v=>Value.isStrOf x v
noncomputable def NR(w:World):Key->Int
 | .inl k=>hashInt k
 | .inr x=>hashStr w x
theorem uv:∀{k:Key}{v:Value},xK k v=true->(∃i t,k=Sum.inl i/\v=Value.int i t)\/(∃x t,k=Sum.inr x/\v=Value.str x t)
 | .inl i,v,h=>by
  obtain⟨t,e⟩:=Value.isInt_shape (k:=i) (v:=v) h;show .inl ⟨i,t,rfl,e⟩
 | .inr x,v,h=>by
  obtain⟨t,e⟩:=Value.isStrOf_shape (x:=x) (v:=v) h;show .inr ⟨x,t,rfl,e⟩
theorem Te(i:Int)(t:Tok):xK (.inl i) (.int i t)=true:=by simp[xK,Value.isInt]
theorem Td(x:Str)(t:Tok):xK (.inr x) (.str x t)=true:=by simp[xK,Value.isStrOf]
theorem Qn(a b:Int):decide ((Sum.inl a:Key)=Sum.inl b)=(a==b):=by
 by_cases e:a=b
 .subst e;simp
 have h:¬(Sum.inl a:Key)=Sum.inl b:=λq=>e (Sum.inl.inj q)
 rw[bg h];show(beq_eq_false_iff_ne.mpr e).symm
theorem Qm(a b:Str):decide ((Sum.inr a:Key)=Sum.inr b)=decide (a=b):=by
 by_cases e:a=b
 .subst e;simp
 have h:¬(Sum.inr a:Key)=Sum.inr b:=λq=>e (Sum.inr.inj q)
 rw[bg h,bg e]
theorem QI(a:Int)(b:Str):decide ((Sum.inl a:Key)=Sum.inr b)=false:=bg (λq=>nomatch q)
theorem QH(a:Str)(b:Int):decide ((Sum.inr a:Key)=Sum.inl b)=false:=bg (λq=>nomatch q)
noncomputable def rJ(prog:Program)(w:World):PySem.KeyKind prog w Key where
 is:=xK
 hash:=NR w
 inj:=λv a b ha f=>by
  rcases uv ha with⟨i,t,rfl,rfl⟩ | ⟨x,t,rfl,rfl⟩
  .rcases uv f with⟨j,u,rfl,e⟩ | ⟨y,u,rfl,e⟩
   .injection e with c _;rw[c]
   show nomatch e
  rcases uv f with⟨j,u,rfl,e⟩ | ⟨y,u,rfl,e⟩
  .exact nomatch e
  injection e with c _;rw[c]
 byValue:=λk v h=>by
  rcases uv h with⟨i,t,rfl,rfl⟩ | ⟨x,t,rfl,rfl⟩<;>rfl
 pyHash:=λd h=>by
  rcases uv d with⟨i,t,rfl,rfl⟩ | ⟨x,t,rfl,rfl⟩
  .exact wpAny_pyHash_int h
  show wpAny_pyHash_str h
 eqBool:=λg d h=>by
  rcases uv g with⟨i,t,rfl,rfl⟩ | ⟨x,t,rfl,rfl⟩
  .rcases uv d with⟨j,u,rfl,rfl⟩ | ⟨y,u,rfl,rfl⟩
   .rw[Qn] at h;show wpAny_eqBool_int h
   rw[QI] at h;show SeqAt.EqAt.int_str i t y u _ _ _ _ h
  rcases uv d with⟨j,u,rfl,rfl⟩ | ⟨y,u,rfl,rfl⟩
  .rw[QH] at h;show SeqAt.EqAt.str_int x t j u _ _ _ _ h
  rw[Qm] at h;show wpAny_eqBool_str h
 «strs»:=λk x t v h=>by
  rcases uv h with⟨i,u,rfl,e⟩ | ⟨y,u,rfl,e⟩
  .exact nomatch e
  injection e with c _
  subst c;cases v<;>rfl
theorem UK(prog:Program)(w:World)(i:Int)(t:Tok):(rJ prog w).is (.inl i) (.int i t)=true:=Te i t
theorem UJ(prog:Program)(w:World)(x:Str)(t:Tok):(rJ prog w).is (.inr x) (.str x t)=true:=Td x t
inductive V where
 | non | bl (b:Bool) | int (i:Int) | str (x:Str) | Dl (b:Array UInt8) | Di (b:UInt64) | ref (a:Addr) | ty (n:String)
 deriving DecidableEq
def RelV:V->Value->Prop
 | .non,u=>u=Value.none
 | .bl b,u=>u=Value.bool b
 | .int i,u=>∃t,u=Value.int i t
 | .str x,u=>∃t,u=Value.str x t
 | .Dl b,u=>∃t,u=Value.bytes b t
 | .Di b,u=>∃t,u=Value.float b t
 | .ref a,u=>u=Value.ref a
 | .ty n,u=>u=Value.type n
abbrev Vals:List V->List Value->Prop:=Paired RelV
theorem Vals.length{xs:List V}{a:List Value}(r:Vals xs a):xs.length=a.length:=Paired.length r
theorem Vals.get:∀{xs:List V}{us:List Value}{i:Nat}{x:V},Vals xs us->xs[i]?=some x->∃u,us[i]?=some u/\RelV x u
 | _,_,_,_,.nil,e=>by simp at e
 | _,_,0,_,.cons r _,e=>by simp at e;subst e;show⟨_,rfl,r⟩
 | _,_,i+1,x,.cons _ t,e=>by
  obtain⟨u,b,a⟩:=Vals.get (i:=i) (x:=x) t (by simpa using e);show⟨u,by simpa using b,a⟩
theorem Vals.set{x:V}{u:Value}(r:RelV x u):∀{xs:List V}{us:List Value}(i:Nat),Vals xs us->Vals (xs.set i x) (us.set i u)
 | _,_,_,.nil=>.nil
 | _,_,0,.cons _ t=>.cons r t
 | _,_,i+1,.cons q t=>.cons q (Vals.set r i t)
theorem Vals.append{xs ys:List V}{a ws:List Value}(h:Vals xs a)(s:Vals ys ws):Vals (xs++ys) (a++ws):=by
 induction h with
 | nil=>show s
 | cons r t b=>show .cons r b
theorem Vals.take:∀{xs:List V}{us:List Value}(n:Nat),Vals xs us->Vals (xs.take n) (us.take n)
 | _,_,0,_=>.nil
 | _,_,_+1,.nil=>.nil
 | _,_,n+1,.cons r t=>.cons r (Vals.take n t)
theorem Vals.drop:∀{xs:List V}{us:List Value}(n:Nat),Vals xs us->Vals (xs.drop n) (us.drop n)
 | _,_,0,r=>r
 | _,_,_+1,.nil=>.nil
 | _,_,n+1,.cons _ t=>Vals.drop n t
def kI:Option V->Option Value->Prop
 | some v,some u=>RelV v u
 | none,none=>True
 | _,_=>False
def KV{a:Type}:List (a×V)->List (a×Value)->Prop:=Paired λ(p:a×V)(q:a×Value)=>p.1=q.1/\RelV p.2 q.2
noncomputable def kV:Key->V
 | .inl i=>.int i
 | .inr x=>.str x
inductive HO where
 /-- a list -/
 | lst (xs:List V)
 /-- a tuple (never changes) -/
 | tup (xs:List V)
 /-- a dict Ae keys are ints and texts;one Ae keys are tuples of ints and texts (qk empty one is both) -/
 | dK (cG:List (Key×V)) (ep:Nat) | dT (cG:List (List Key×V)) (bs:List Addr×Nat)
 /-- a set of ints: its members,its size -/
 | set (S:Int->Bool) (n:Nat)
 /-- an instance of qk class at C,its dict at dx,its attributes -/
 | ins (C dx:Addr) (fs:List (Str×V))
 /-- qk dict of qk instance at x -/
 | own (x:Addr)
 /-- qk dict of an exception -/
 | xd (fs:List (Str×V))
 /-- a bound method,f of x -/
 | met (f x:Addr)
 /-- a range object lo,lo+1,.. below hi -/
 | rX (lo hi:Int)
 /-- a Am Xb is known to qk object (qk rS;a dict while a loop walks it): read,never written while it is so -/
 | lZ (o:Obj) (u:HO)
 /-- a code AB table -/
 | wA (ps:Array Value)
 /-- any other Am,by Af is true of its one object (a def of MB own: Y6 a S n:=HO.ext λh=>..) -/
 | ext (φ:Heap->Prop)
noncomputable abbrev Hp:=Addr->Option HO
noncomputable def upd(H:Hp)(a:Addr)(o:HO):Hp:=λb=>if b=a then some o else H b
theorem iU{H:Hp}{a:Addr}{o:HO}:upd H a o a=some o:=by unfold upd;rw[if_pos rfl]
theorem eU{H:Hp}{a b:Addr}{o:HO}(h:b≠a):upd H a o b=H b:=by unfold upd;rw[if_neg h]
theorem IB{H:Hp}{a b:Addr}{o u:HO}(h:H a=some o)(h':H b=some u)(d:o≠u):a≠b:=by
 intro e;subst e;rw[h] at h';show d (bU h')
theorem kZ{H:Hp}{a b:Addr}{o:HO}(h:H a=some o)(h':H b=none):a≠b:=by
 intro e;subst e;rw[h] at h';cases h'
section
variable(P:Program)(w:World)
def dZ(H:Hp)(h:Heap)(a:Addr):HO->Prop
 | .lst xs=>xs.length<=sizeLine/\∃(its:List Value)(n:Nat),Vals xs its/\h.get? a=some { cls:=.type "list",data:=.seq its.toArray n }
 | .tup xs=>xs.length<=sizeLine/\∃its:List Value,Vals xs its/\IsTup h a its.toArray
 | .dK c ep=>c.length<=sizeLine/\(a==sysModules)=false/\∃g,KV c g/\h.DictAt (rJ P w) a g ep
 | .dT c bs=>c.length<=sizeLine/\(a==sysModules)=false/\∃xs:List (List Key×Addr×Value),xs.map (λx=>x.2.1)=bs.1/\
   Paired (λ(p:List Key×V)(q:List Key×Addr×Value)=>p.1=q.1/\H q.2.1=some (.tup (p.1.map kV))/\RelV p.2 q.2.2) c xs/\
   ∃o es ep,h.get? a=some o/\o.ExactDict/\o.data=.dict es ep/\es.toList=xs.map (entryOfKey (tupleKind (rJ P w)))/\(xs.map (·.1)).Nodup/\ep=bs.2
 | .set S n=>h.SetOf (intKind P w) a S n
 | .ins C d fs=>H d=some (.own a)/\fs.length<=1000/\d≠a/\h.get? a=some (PySem.W.instObj C d)/\
   ∃b,h.Ns1 d b/\(∀f,kI (fs.lookup f) (b f))/\PySem.Within b (fs.map (·.1))
 | .own _=>∃o,h.get? a=some o
 | .xd fs=>∃b,h.Ns1 a b/\∀f,kI (fs.lookup f) (b f)
 | .rX lo hi=>∃t u v,h.get? a=some { cls:=.type "range",data:=.fields #[.int lo t,.int hi u,.int 1 v] }
 | .lZ o u=>h.get? a=some o/\dZ H h a u
 | .wA ps=>h.get? a=some { cls:=.none,data:=.fields ps }
 | .met f x=>h.get? a=some (PySem.W.methodObj (.ref f) (.ref x))
 | .ext e=>e h/\(∃o,h.get? a=some o)/\∀j i:Heap,e j->(∀o,j.get? a=some o->i.get? a=some o)->e i
def j6(H:Hp)(h:Heap):Prop:=∀a o,H a=some o->dZ P w H h a o
end
section
variable{P:Program}{w:World}{H H':Hp}{h h':Heap}{a:Addr}{o:HO}
theorem dZ.lt(x:dZ P w H h a o):a<h.objs.size:=by
 cases o with
 | lst xs=>obtain⟨_,_,_,_,e⟩:=x;show aF e
 | tup xs=>obtain⟨_,_,_,p⟩:=x;show p.lt
 | dK b ep=>obtain⟨_,_,_,_,o,_,e,_⟩:=x;show aF e
 | dT b bs=>obtain⟨_,_,_,_,_,o,_,_,e,_⟩:=x;show aF e
 | set S n=>obtain⟨o,_,_,_,e,_⟩:=x;show aF e
 | ins C d fs=>obtain⟨_,_,_,e,_⟩:=x;show aF e
 | own y=>obtain⟨_,e⟩:=x;show aF e
 | xd fs=>obtain⟨_,⟨_,_,_,e,_⟩,_⟩:=x;show aF e
 | rX lo hi=>obtain⟨_,_,_,e⟩:=x;show aF e
 | lZ ob u=>obtain⟨e,_⟩:=x;show aF e
 | wA ps=>show aF (show h.get? a=some _ from x)
 | met f y=>show aF (show h.get? a=some _ from x)
 | ext c=>obtain⟨_,⟨_,e⟩,_⟩:=x;show aF e
theorem Paired.AH{d c:Type}{F G:d->c->Prop}{e:List d}{g:List c}(h:Paired F e g)(f:∀a b,F a b->G a b):Paired G e g:=by
 induction h with
 | nil=>show .nil
 | cons r t i=>show .cons (f _ _ r) i
theorem dZ.oV(x:dZ P w H h a o)(k:∀b u,(b=a\/H b=some (.own a))->h.get? b=some u->h'.get? b=some u)
  (m:∀b,H b=some (.own a)->H' b=some (.own a)) (l:∀b xs,H b=some (.tup xs)->H' b=some (.tup xs)):dZ P w H' h' a o:=by
 induction o with
 | lst xs=>obtain⟨z,its,n,r,e⟩:=x;show⟨z,its,n,r,k _ _ (.inl rfl) e⟩
 | tup xs=>obtain⟨z,its,r,ob,e,c⟩:=x;show⟨z,its,r,ob,k _ _ (.inl rfl) e,c⟩
 | dK A ep=>obtain⟨z,y,i,r,ob,es,e,c⟩:=x;show⟨z,y,i,r,ob,es,k _ _ (.inl rfl) e,c⟩
 | dT A bs=>
  obtain⟨z,y,xs,B,r,ob,es,ep,e,c⟩:=x;show⟨z,y,xs,B,Paired.AH r λp q z=>⟨z.1,l _ _ z.2.1,z.2.2⟩,ob,es,ep,k _ _ (.inl rfl) e,c⟩
 | set S n=>obtain⟨ob,es,ep,t,e,c⟩:=x;show⟨ob,es,ep,t,k _ _ (.inl rfl) e,c⟩
 | ins C E fs=>
  obtain⟨d,z,ne,e,g,⟨od,es,ep,s,c⟩,r⟩:=x;show⟨m _ d,z,ne,k _ _ (.inl rfl) e,g,⟨od,es,ep,k _ _ (.inr d) s,c⟩,r⟩
 | own y=>obtain⟨ob,e⟩:=x;show⟨ob,k _ _ (.inl rfl) e⟩
 | xd fs=>obtain⟨g,⟨od,es,ep,e,c⟩,r⟩:=x;show⟨g,⟨od,es,ep,k _ _ (.inl rfl) e,c⟩,r⟩
 | rX lo hi=>obtain⟨t,u,v,e⟩:=x;show⟨t,u,v,k _ _ (.inl rfl) e⟩
 | lZ ob u j=>obtain⟨e,q⟩:=x;show⟨k _ _ (.inl rfl) e,j q⟩
 | wA ps=>
  have e:h.get? a=some { cls:=.none,data:=.fields ps }:=x;show h'.get? a=some { cls:=.none,data:=.fields ps };show k a _ (.inl rfl) e
 | met f y=>
  have e:h.get? a=some (PySem.W.methodObj (.ref f) (.ref y)):=x;show h'.get? a=some (PySem.W.methodObj (.ref f) (.ref y));show k a _ (.inl rfl) e
 | ext D=>obtain⟨p,⟨o,e⟩,st⟩:=x;show⟨st _ _ p λo q=>k _ _ (.inl rfl) q,⟨o,k _ _ (.inl rfl) e⟩,st⟩
theorem j6.lt(x:j6 P w H h)(e:H a=some o):a<h.objs.size:=(x a o e).lt
theorem j6.fresh(x:j6 P w H h)(e:h.objs.size<=a):H a=none:=by
 cases q:H a with
 | none=>rfl
 | some u=>show absurd (aV (x.lt q) e) (Nat.lt_irrefl _)
theorem j6.kept(x:j6 P w H h)(k:∀b u,h.get? b=some u->h'.get? b=some u):j6 P w H h':=λa o e=>
 (x a o e).oV (λb u _ q=>k b u q) (λ_ q=>q) λ_ _ q=>q
theorem j6.laid(x:j6 P w H h)(k:∀b u,h.get? b=some u->h'.get? b=some u)(g:h.objs.size<=a)(new:dZ P w (upd H a o) h' a o):j6 P w (upd H a o) h':=λb u e=>by
 have d:=x.fresh g;by_cases f:b=a
 .subst f;rw[iU] at e;cases e;show new
 rw[eU f] at e;show(x b u e).oV (λc v _ q=>k c v q) (λc q=>by rw[eU (kZ q d)];show q) λc xs q=>by rw[eU (kZ q d)];show q
end
def Rd(H:Hp)(a:Addr)(u:HO):Prop:=H a=some u\/∃o,H a=some (.lZ o u)
theorem Rd.ok{P:Program}{w:World}{H:Hp}{h:Heap}{a:Addr}{u:HO}(r:Rd H a u)(x:j6 P w H h):dZ P w H h a u:=by
 rcases r with r | ⟨o,r⟩
 .exact x a u r
 obtain⟨_,q⟩:=x a _ r;show q
def Bo:Option HO->Prop
 | some (.lst _)=>True
 | some (.dK _ _)=>True
 | some (.dT _ _)=>True
 | some (.set _ _)=>True
 | some (.ins _ _ _)=>True
 | some (.ext _)=>True
 | _=>False
section
variable{P:Program}{w:World}{H:Hp}{h h':Heap}{x e:Addr}{o':HO}
theorem j6.write(ok:j6 P w H h)(d:Bo (H x))(he:e=x\/H e=some (.own x))(k:∀b u,b≠e->h.get? b=some u->h'.get? b=some u)(l:∃u,h'.get? e=some u)
  (new:dZ P w (upd H x o') h' x o'):j6 P w (upd H x o') h':=λb u q=>by
 have j:∀c y,H c=some (.own y)->c≠x:=λc y r z=>by subst z;rw[r] at d;show d
 have n:∀c xs,H c=some (.tup xs)->c≠x:=λc xs r z=>by subst z;rw[r] at d;show d
 by_cases g:b=x
 .subst g;rw[iU] at q;cases q;show new
 rw[eU g] at q;by_cases a:b=e
 .have i:H b=some (.own x):=by
   rcases he with z | z
   .exact absurd (a.trans z) g
   rw[a];show z
  rw[q] at i;cases i;obtain⟨v,m⟩:=l;show⟨v,by rw[a];show m⟩
 show(ok b u q).oV (λc v f r=>k c v ?_ r) (λc r=>by rw[eU (j c b r)];show r) λc xs r=>by rw[eU (n c xs r)];show r
 rcases f with rfl | f
 .exact a
 rintro rfl;rcases he with z | z
 .exact j c b f z
 rw[f] at z;cases z;show g rfl
end
structure Un(fs ex:List Addr)(H H':Hp)(h h':Heap):Prop where
 keep:∀b o,h.get? b=some o->H b=none->b∉fs->b∉ex->h'.get? b=some o
 slot:∀b o,h.get? b=some o->H b=none->b∈fs->b∉ex->∃sl,h'.get? b=some { o with slots:=sl }
 free:∀b o,h.get? b=some o->H b=none->b∉ex->H' b=none
 there:∀b o,h.get? b=some o->b∉ex->∃o',h'.get? b=some o'
 nO:∀b xs,H b=some (.tup xs)->H' b=some (.tup xs)
 mS:∀b o u,H b=some (.lZ o u)->H' b=some (.lZ o u)
 nQ:∀b ps,H b=some (.wA ps)->∃more,H' b=some (.wA (ps++more))
section
variable{fs Dh ex ZE:List Addr}{H H1 H2:Hp}{h h1 h2 h':Heap}{a x e:Addr}{o:HO}
theorem Un.any(u:Un fs ex H H1 h h1){b:Addr}{ob:Obj}(q:h.get? b=some ob)(n:H b=none)(hx:b∉ex):∃sl,h1.get? b=some { ob with slots:=sl }:=by
 by_cases a:b∈fs
 .exact u.slot b ob q n a hx
 show⟨ob.slots,u.keep b ob q n a hx⟩
theorem Un.kept(k:∀b u,h.get? b=some u->h'.get? b=some u):Un fs ex H H h h':=
 ⟨λb ob q _ _ _=>k b ob q,λb ob q _ _ _=>⟨ob.slots,k b ob q⟩,λ_ _ _ n _=>n,λb ob q _=>⟨ob,k b ob q⟩,λ_ _ q=>q,λ_ _ _ q=>q,λ_ ps q=>⟨#[],by rw[q];simp⟩⟩
theorem Un.refl:Un fs ex H H h h:=Un.kept λ_ _ q=>q
theorem Un.laid(k:∀b u,h.get? b=some u->h'.get? b=some u)(d:h.objs.size<=a)(c:H a=none):Un fs ex H (upd H a o) h h' where
 keep:=λb u q _ _ _=>k b u q
 slot:=λb u q _ _ _=>⟨u.slots,k b u q⟩
 free:=λb u q n _=>by rw[eU (aN (aV (aF q) d))];show n
 there:=λb u q _=>⟨u,k b u q⟩
 nO:=λb xs q=>by rw[eU (kZ q c)];show q
 mS:=λb u xs q=>by rw[eU (kZ q c)];show q
 nQ:=λb ps q=>⟨#[],by rw[eU (kZ q c),q];simp⟩
theorem Un.write(a:Bo (H x))(he:e=x\/H e=some (.own x))(k:∀b u,b≠e->h.get? b=some u->h'.get? b=some u)(f:∃u,h'.get? e=some u):Un fs ex H (upd H x o) h h':=by
 have hx:∀b,H b=none->b≠x:=λb n z=>by subst z;rw[n] at a;show a
 have d:∀b,H b=none->b≠e:=λb n z=>by
  subst z;rcases he with r | r
  .exact hx b n r
  rw[n] at r;cases r
 have hm:∀b u,H b=some u->¬Bo (some u)->b≠x:=λb u q nm z=>by subst z;rw[q] at a;show nm a
 show⟨λb u q n _ _=>k b u (d b n) q,λb u q n _ _=>⟨u.slots,k b u (d b n) q⟩,λb u q n _=>by rw[eU (hx b n)];show n,λb u q _=>?_,
  λb xs q=>by rw[eU (hm b _ q λz=>z)];show q,λb u xs q=>by rw[eU (hm b _ q λz=>z)];show q,λb ps q=>⟨#[],by rw[eU (hm b _ q λz=>z),q];simp⟩⟩
 by_cases c:b=e
 .subst c;show f
 show⟨u,k b u c q⟩
end
noncomputable def qj(h:Heap)(H:Hp):List Addr:=(List.range h.objs.size).filter λa=>(H a).isSome
noncomputable def uf(h:Heap)(H:Hp):Heap:=PySem.W.hideAll h (qj h H)
theorem Tc(h:Heap)(H:Hp):(uf h H).objs.size=h.objs.size:=PySem.W.hideAll_size _ _
theorem So{h:Heap}{H:Hp}{b:Addr}{o:Obj}(e:h.get? b=some o)(n:H b=none):(uf h H).get? b=some o:=
 PySem.W.hideAll_get _ e λhm=>by
  have q:(H b).isSome=true:=(aT.mp hm).2;rw[n] at q;simp at q
theorem Q4{h:Heap}{H:Hp}{b:Addr}{o:Obj}(e:(uf h H).get? b=some o):h.get? b=some o/\H b=none:=by
 have a:h.get? b=some o:=PySem.W.of_hideAll (qj h H) e;show⟨a,?_⟩;cases q:H b with
 | none=>rfl
 | some x=>
  have hm:b∈qj h H:=aT.mpr ⟨bB.mpr (aF a),by simp[q]⟩;have z:(uf h H).get? b=none:=PySem.W.hideAll_none (qj h H) hm;rw[z] at e;cases e
noncomputable def Q3(g h:Heap)(L:Addr):List (Addr×Obj):=(List.range h.objs.size).filterMap λa=>if a=L\/(g.get? a).isSome=true then none else(h.get? a).map λo=>(a,o)
noncomputable def lQ(g h:Heap)(L d:Addr):List (Addr×Obj):=(Q3 g h L).filter λp=>decide (p.1≠d)
structure Mod(K:J')(mg:Str->Option Value)(base:Heap):Prop where
 yg:K.In base
 glob:base.Ns mainGlobals mg
 blt:∃mb,base.Ns builtinsNs mb/\∀x:Str,x≠"__name__"->mb x=bootBuiltins x
 nolimit:base.NoLimit
structure Cx where
 prog:Program
 w:World
 K:J'
 mg:Str->Option Value
 base:Heap
 A:Around
 N:List Str
 fU:Shared
 sW:Hp
 env:Env
 outer:List Env
 stack:List Env
 ex:List Addr
 fn:Str->Bool
 calm:Bool
 pn:List (Addr×Obj)
 xe:Value->Shared->Prop
noncomputable def sN(l:List Env):List Addr:=l.filterMap (·.frame)
noncomputable abbrev Cx.fs(X:Cx):List Addr:=sN X.outer
def oN(a:Scope)(x:Str):Prop:=a.names.lookup x=some .local\/a.names.lookup x=some .cell\/a.names.lookup x=some .free
def Loc(a:Scope)(x:Str):Prop:=a.names.lookup x=some .local\/a.names.lookup x=some .cell
def Look(env:Env)(h:Heap)(m:Str->Option Value)(x:Str)(u:Value):Prop:=
 (env.kindOf x=some .local/\m x=some u)\/((env.kindOf x=some .cell\/env.kindOf x=some .free)/\∃c,env.cells.lookup x=some c/\h.IsCell c (some u))
structure Cx.Ok(X:Cx):Prop where
 mod:Mod X.K X.mg X.base
 kind:X.env.scope.kind=.function
 glob:X.env.globals=mainGlobals
 blt:X.env.builtins=builtinsNs
 above:X.fU.heap.objs.size<=X.env.locals
 inj:∀x y c,X.env.cells.lookup x=some c->X.env.cells.lookup y=some c->x=y
 has:∀x,(X.env.kindOf x=some .cell\/X.env.kindOf x=some .free)->∃c,X.env.cells.lookup x=some c
 cab:∀x c,X.fn x=true->X.env.cells.lookup x=some c->X.fU.heap.objs.size<=c
 hd:X.calm=true->X.A.handled=none
 frames:X.A.frames=some X.stack
 CN:X.stack=X.outer\/(X.stack=X.env::X.outer/\X.env.frame=some X.env.locals)
 exf:∀b∈X.ex,b≠X.env.locals/\∀x c,X.env.cells.lookup x=some c->c≠b
 bs:∀b o,X.base.get? b=some o->X.fU.heap.get? b=some o/\X.sW b=none
 vI:X.base.objs.size<=X.fU.heap.objs.size
 r8:∀b o,X.base.get? b=some o->b∉X.ex
 sQ:∀b∈X.ex,b∉X.fs
 kF:X.fU.heap.FunFrames X.base X.outer
 xj:∀b∈X.fs,X.sW b=none
structure Inv(X:Cx)(K':List (Addr×Obj))(σ:List (Option V))(H:Hp)(s:Shared):Prop where
 ok:X.Ok
 os:s.os=X.fU.os
 bare:AllBare s.gens
 base:Un X.fs X.ex X.sW H X.fU.heap s.heap
 loc:∃m,s.heap.Ns X.env.locals m/\∀(i:Nat)(x:Str)(v:V),X.N[i]?=some x->σ[i]?=some (some v)->oN X.env.scope x->∃u,RelV v u/\Look X.env s.heap m x u
 cell:∀x c,X.env.cells.lookup x=some c->∃v,s.heap.IsCell c v
 free:H X.env.locals=none
 iO:∀x c,X.env.cells.lookup x=some c->H c=none
 pin:∀p∈X.pn++K',s.heap.get? p.1=some p.2/\H p.1=none/\p.1≠X.env.locals/\p.1∉X.fs/\∀v,p.2.data≠.cell v
 dU:j6 X.prog X.w H s.heap
 len:σ.length=X.N.length
section
variable{X:Cx}{K':List (Addr×Obj)}{σ:List (Option V)}{H H':Hp}{s:Shared}{h':Heap}
theorem Cx.Ok.Gq(ok:X.Ok){b:Addr}{o:Obj}(e:X.base.get? b=some o):b∉X.fs:=λa=>by
 have:=(ok.kF.mem a).1;rw[e] at this;cases this
theorem Inv.bs(I:Inv X K' σ H s):∀b o,X.base.get? b=some o->s.heap.get? b=some o/\H b=none:=λb o e=>
 ⟨I.base.keep b o (I.ok.bs b o e).1 (I.ok.bs b o e).2 (I.ok.Gq e) (I.ok.r8 b o e),I.base.free b o (I.ok.bs b o e).1 (I.ok.bs b o e).2 (I.ok.r8 b o e)⟩
theorem Inv.bk(I:Inv X K' σ H s):∀b o,X.base.get? b=some o->s.heap.get? b=some o:=λb o e=>(I.bs b o e).1
theorem Inv.mod(I:Inv X K' σ H s):Mod X.K X.mg X.base:=I.ok.mod
theorem Inv.nE(I:Inv X K' σ H s):X.K.In s.heap:=I.ok.mod.yg.keeps I.bk
theorem Inv.lt(I:Inv X K' σ H s):X.env.locals<s.heap.objs.size:=let⟨_,a,_⟩:=I.loc;a.lt
theorem Inv.sz(I:Inv X K' σ H s):X.fU.heap.objs.size<=s.heap.objs.size:=aL I.ok.above (Nat.le_of_lt I.lt)
theorem Inv.Gp(I:Inv X K' σ H s){a:Addr}(h:s.heap.objs.size<=a):a∉X.fs:=λc=>by
 obtain⟨_,o,b,_⟩:=I.ok.kF.mem c;show absurd (aV (aF b) (aL I.sz h)) (Nat.lt_irrefl _)
theorem Inv.xn(I:Inv X K' σ H s):∀x c,X.env.cells.lookup x=some c->c≠X.env.locals:=λx c e z=>by
 obtain⟨v,o,a,hd⟩:=I.cell x c e;obtain⟨m,⟨f,es,ep,d,b,_⟩,_⟩:=I.loc;rw[z,d] at a;cases a;rw[b] at hd;cases hd
theorem Inv.kF(I:Inv X K' σ H s):s.heap.FunFrames X.base X.outer:=by
 have all:∀(l:List Env),(∀b∈sN l,b∈X.fs)->X.fU.heap.FunFrames X.base l->s.heap.FunFrames X.base l:=by
  intro l;induction l with
  | nil=>intro _ _;trivial
  | cons env r f=>
   intro d j;obtain⟨k,⟨L,o,hf,i,h,hd⟩,g⟩:=j;have c:L∈X.fs:=d L (by unfold sN;rw[List.filterMap_cons,hf];show List.mem_cons_self);obtain⟨sl,e⟩:=I.base.slot L o h (I.ok.xj L c) c λz=>I.ok.sQ L z c
   show⟨k,⟨L,_,hf,i,e,hd⟩,f (λb a=>d b (by unfold sN;rw[List.filterMap_cons,hf];show aK _ a)) g⟩
 show all X.outer (λ_ a=>a) I.ok.kF
theorem Inv.stack(I:Inv X K' σ H s):s.heap.FunFrames X.base X.stack:=by
 rcases I.ok.CN with e | ⟨e,hf⟩
 .rw[e];show I.kF
 rw[e];obtain⟨m,a,_⟩:=I.loc;show .cons (by rw[I.ok.kind];decide) hf a ?_ I.kF;show Heap.get?_none_of_le (aL I.ok.vI I.ok.above)
theorem Inv.oU(I:Inv X K' σ H s):∀b∈sN X.stack,b∈X.env.locals::X.fs:=λb a=>by
 rcases I.ok.CN with e | ⟨e,hf⟩
 .rw[e] at a;show aK _ a
 rw[e] at a;unfold sN at a;rw[List.filterMap_cons,hf] at a;show a
theorem Inv.pI(I:Inv X K' σ H s):∀b∈sN X.stack,H b=none:=λb a=>by
 rcases au.mp (I.oU b a) with e | a
 .rw[e];show I.free
 obtain⟨_,o,c,_⟩:=I.ok.kF.mem a;show I.base.free b o c (I.ok.xj b a) λz=>I.ok.sQ b z a
theorem Inv.step{g':Array GenState}{t':Nat}{d':Drawn}{ch:List Addr}(I:Inv X K' σ H s)
  (h:∀b∈ch,(b∈X.ex\/X.fU.heap.objs.size<=b)/\b≠X.env.locals/\(∀x c,X.env.cells.lookup x=some c->c≠b)/\∀p∈X.pn++K',p.1≠b)
  (keep:∀b o,b≠X.env.locals->b∉X.fs->b∉ch->s.heap.get? b=some o->H b=none->h'.get? b=some o)
  (slot:∀b o,b≠X.env.locals->b∈X.fs->b∉ch->s.heap.get? b=some o->H b=none->∃sl,h'.get? b=some { o with slots:=sl }) (free:∀b o,b∉ch->s.heap.get? b=some o->H b=none->H' b=none)
  (there:∀b o,b∉ch->s.heap.get? b=some o->∃j,h'.get? b=some j)
  (nO:∀b xs,H b=some (.tup xs)->H' b=some (.tup xs)) (mS:∀b o u,H b=some (.lZ o u)->H' b=some (.lZ o u)) (nQ:∀b ps,H b=some (.wA ps)->∃more,H' b=some (.wA (ps++more)))
  (ns:∀m,s.heap.Ns X.env.locals m->h'.Ns X.env.locals m) (dU:j6 X.prog X.w H' h') (L:AllBare g') :
  Inv X K' σ H' { s with heap:=h',gens:=g',drawn:=d',toks:=t' }:=by
 have E:∀b o,X.fU.heap.get? b=some o->b≠X.env.locals:=λb o e=>aN (aV (aF e) I.ok.above)
 have A:∀b o,X.fU.heap.get? b=some o->b∉X.ex->b∉ch:=λb o e hx f=>by
  rcases(h b f).1 with z | z
  .exact hx z
  show absurd (aV (aF e) z) (Nat.lt_irrefl _)
 have cellK:∀x c,X.env.cells.lookup x=some c->∀v,s.heap.IsCell c v->h'.IsCell c v:=λx c e v ⟨o,g,hd⟩=>by
  have y:c∉ch:=λz=>(h c z).2.2.1 x c e rfl
  by_cases D:c∈X.fs
  .obtain⟨sl,q⟩:=slot c o (I.xn x c e) D y g (I.iO x c e);show⟨_,q,hd⟩
  show⟨o,keep c o (I.xn x c e) D y g (I.iO x c e),hd⟩
 show⟨I.ok,I.os,L,⟨λb o e n f hx=>?_,λb o e n f hx=>?_,λb o e n hx=>?_,λb o e hx=>?_,λb xs e=>nO b xs (I.base.nO b xs e),λb o xs e=>mS b o xs (I.base.mS b o xs e),λb ps e=>?_⟩,?_,λx c e=>?_,?_,λx c e=>?_,λp C=>?_,dU,I.len⟩
 .exact keep b o (E b o e) f (A b o e hx) (I.base.keep b o e n f hx) (I.base.free b o e n hx)
 .obtain⟨sl,a⟩:=I.base.slot b o e n f hx;obtain⟨N,t⟩:=slot b _ (E b o e) f (A b o e hx) a (I.base.free b o e n hx);show⟨N,t⟩
 .obtain⟨j,a⟩:=I.base.there b o e hx;show free b j (A b o e hx) a (I.base.free b o e n hx)
 .obtain⟨j,a⟩:=I.base.there b o e hx;show there b j (A b o e hx) a
 .obtain⟨G,a⟩:=I.base.nQ b ps e;obtain⟨F,t⟩:=nQ b _ a;show⟨G++F,by rw[t,Array.append_assoc]⟩
 .obtain⟨m,J,K⟩:=I.loc;show⟨m,ns m J,λi x v a t M=>?_⟩;obtain⟨u,r,l⟩:=K i x v a t M;show⟨u,r,?_⟩;rcases l with l | ⟨k,c,e,z⟩
  .exact .inl l
  show .inr ⟨k,c,e,cellK x c e _ z⟩
 .obtain⟨v,z⟩:=I.cell x c e;show⟨v,cellK x c e v z⟩
 .obtain⟨m,⟨o,_,_,g,_⟩,_⟩:=I.loc;show free _ o (λz=>(h _ z).2.1 rfl) g I.free
 .obtain⟨v,o,g,hd⟩:=I.cell x c e;show free c o (λz=>(h c z).2.2.1 x c e rfl) g (I.iO x c e)
 obtain⟨e,n,ne,B,d⟩:=I.pin p C;have y:p.1∉ch:=λz=>(h p.1 z).2.2.2 p C rfl
 show⟨keep p.1 p.2 ne B y e n,free p.1 p.2 y e n,ne,B,d⟩
theorem Inv.un{t':Nat}(I:Inv X K' σ H s)(u:Un X.fs [] H H' s.heap h')(dU:j6 X.prog X.w H' h'):Inv X K' σ H' { s with heap:=h',toks:=t' }:=by
 obtain⟨m,⟨o,es,ep,d,r⟩,_⟩:=id I.loc;obtain⟨sl,i⟩:=u.any d I.free (by simp)
 show I.step (g':=s.gens) (d':=s.drawn) (ch:=[]) (λ_ z=>nomatch z) (λb o _ a _ e n=>u.keep b o e n a (by simp)) (λb o _ a _ e n=>u.slot b o e n a (by simp)) (λb o _ e n=>u.free b o e n (by simp)) (λb o _ e=>u.there b o e (by simp)) u.nO u.mS u.nQ (λk hm=>by
  obtain⟨j,h,f,c,g⟩:=hm;rw[d] at c;cases c;show⟨_,h,f,i,g⟩) dU I.bare
theorem Inv.call{g':Array GenState}{t':Nat}{d':Drawn}{ch:List Addr}(I:Inv X K' σ H s)(u:Un (sN X.stack) ch H H' s.heap h')(dU:j6 X.prog X.w H' h')(l:AllBare g')
  (g:∀b∈ch,(b∈X.ex\/X.fU.heap.objs.size<=b)/\b≠X.env.locals/\(∀x c,X.env.cells.lookup x=some c->c≠b)/\∀p∈X.pn++K',p.1≠b) :
  Inv X K' σ H' { s with heap:=h',gens:=g',drawn:=d',toks:=t' }:=by
 obtain⟨m,⟨o,es,ep,h,r⟩,_⟩:=id I.loc;obtain⟨sl,d⟩:=u.any h I.free λz=>(g _ z).2.1 rfl
 show I.step (ch:=ch) g (λb o d q a e n=>u.keep b o e n (λz=>(au.mp (I.oU b z)).elim d q) a) (λb o _ _ a e n=>u.any e n a) (λb o a e n=>u.free b o e n a) (λb o a e=>u.there b o e a) u.nO u.mS u.nQ (λv hm=>by
  obtain⟨t,k,i,f,j⟩:=hm;rw[h] at f;cases f;show⟨_,k,i,d,j⟩) dU l
theorem Inv.turned{t':Nat}{a:Addr}(I:Inv X K' σ H s)(k:∀b o,b≠a->s.heap.get? b=some o->h'.get? b=some o)(i:H a=none)(g:a≠X.env.locals)
  (w:a∈X.ex\/X.fU.heap.objs.size<=a) (t:∀x c,X.env.cells.lookup x=some c->c≠a) (l:∀p∈X.pn++K',p.1≠a):Inv X K' σ H { s with heap:=h',toks:=t' }:=by
 have f:∀b u,H b=some u->b≠a:=λb u e z=>by rw[z,i] at e;cases e
 show I.step (g':=s.gens) (d':=s.drawn) (ch:=[a]) (λb j=>?_) (λb o _ _ d e _=>k b o (λz=>d (by simp[z])) e) (λb o _ _ d e _=>⟨o.slots,k b o (λz=>d (by simp[z])) e⟩) (λ_ _ _ _ n=>n)
  (λb o d e=>⟨o,k b o (λz=>d (by simp[z])) e⟩) (λ_ _ e=>e) (λ_ _ _ e=>e) (λb ps e=>⟨#[],by rw[e];simp⟩) (λm hm=>?_) (λb u e=>?_) I.bare
 .have e:b=a:=by simpa using j
  subst e;show⟨w,g,t,l⟩
 .obtain⟨o,es,ep,h,r⟩:=hm;show⟨o,es,ep,k _ o (Ne.symm g) h,r⟩
 show(I.dU b u e).oV (λc v d q=>k c v ?_ q) (λ_ q=>q) λ_ _ q=>q
 rcases d with z | z
 .rw[z];show f b u e
 show f c _ z
theorem Inv.tok(I:Inv X K' σ H s)(t:Nat):Inv X K' σ H { s with toks:=t }:=I.un (h':=s.heap) (t':=t) Un.refl I.dU
theorem Inv.kept{t':Nat}(I:Inv X K' σ H s)(k:∀b u,s.heap.get? b=some u->h'.get? b=some u):Inv X K' σ H { s with heap:=h',toks:=t' }:=I.un (Un.kept k) (I.dU.kept k)
theorem Inv.laid{a:Addr}{o:HO}{t':Nat}(I:Inv X K' σ H s)(k:∀b u,s.heap.get? b=some u->h'.get? b=some u)(c:s.heap.objs.size<=a)(new:dZ X.prog X.w (upd H a o) h' a o) :
  Inv X K' σ (upd H a o) { s with heap:=h',toks:=t' }:=I.un (Un.laid k c (I.dU.fresh c)) (I.dU.laid k c new)
theorem Inv.write{x e:Addr}{o:HO}{t':Nat}(I:Inv X K' σ H s)(c:Bo (H x))(he:e=x\/H e=some (.own x))(k:∀b u,b≠e->s.heap.get? b=some u->h'.get? b=some u)(a:∃u,h'.get? e=some u)
  (new:dZ X.prog X.w (upd H x o) h' x o):Inv X K' σ (upd H x o) { s with heap:=h',toks:=t' }:=I.un (Un.write c he k a) (I.dU.write c he k a new)
theorem Inv.pL{a:List (Addr×Obj)}(I:Inv X K' σ H s)(h:∀p∈a,s.heap.get? p.1=some p.2/\H p.1=none/\p.1≠X.env.locals/\p.1∉X.fs/\∀v,p.2.data≠.cell v):Inv X a σ H s:=
 ⟨I.ok,I.os,I.bare,I.base,I.loc,I.cell,I.free,I.iO,λp b=>(aw.mp b).elim (λz=>I.pin p (bO _ z)) (h p),I.dU,I.len⟩
theorem KI{N:List Str}(c:N.Nodup){i j:Nat}{x:Str}(a:N[i]?=some x)(b:N[j]?=some x):i=j:=by
 obtain⟨g,e⟩:=ar.mp a;obtain⟨f,d⟩:=ar.mp b;show(List.getElem_inj c).mp (e.trans d.symm)
theorem LH{M:Model}{A:Around}{E:Value->Shared->Prop}{i:Nat}{x:Str}{v:V}{u:Value}{Q:Unit->Shared->Prop}(I:Inv X K' σ H s)(hN:X.N.Nodup)(hi:X.N[i]?=some x)(hx:Loc X.env.scope x)(r:RelV v u)
  (h:∀L,Inv X K' (σ.set i (some v)) H L->(∃a,Heap.SameBut a s.heap L.heap/\(a=X.env.locals\/X.env.cells.lookup x=some a))->Q () L) (hf:X.fn x=true\/X.env.scope.names.lookup x=some .local:=by first | show .inl rfl | show .inr rfl | assumption):wpAny M A (storeName X.env x u) Q E s:=by
 obtain⟨m,T,hl⟩:=id I.loc;have Hr:(X.env.scope.kind==.class||(X.env.scope.kind==.module&&X.env.locals != X.env.globals))=false:=by rw[I.ok.kind];rfl
 have AZ:i<σ.length:=by rw[I.len];show(ar.mp hi).1
 have xn:=I.xn;have tracked:∀{a:Addr}{h':Heap},(∃o,s.heap.get? a=some o/\H a=none)->Heap.SameBut a s.heap h'->j6 X.prog X.w H h':=λ{a h'} ha f b ob e=>by
  obtain⟨_,_,fA⟩:=ha;show(I.dU b ob e).oV (λc F l q=>(f.2 c ?_).trans q) (λ_ q=>q) λ_ _ q=>q
  rintro rfl;rcases l with rfl | l
  .rw[fA] at e;cases e
  rw[fA] at l;cases l
 rcases hx with B | B
 .refine wpAny_storeName_local B T (λh' Yj f=>?_) Hr;obtain⟨oL,_,_,vC,_⟩:=id T;show h _ ⟨I.ok,I.os,I.bare,⟨λb o e n D hx=>?_,λb o e n D hx=>?_,I.base.free,λb o e hx=>?_,I.base.nO,I.base.mS,I.base.nQ⟩,⟨_,Yj,λj y J g t U=>?_⟩,λy c e=>?_,I.free,I.iO,λp S=>?_,tracked ⟨oL,vC,I.free⟩ f,by simpa using I.len⟩ ⟨_,f,.inl rfl⟩
  .exact(f.2 b (aN (aV (aF e) I.ok.above))).trans (I.base.keep b o e n D hx)
  .obtain⟨sl,g⟩:=I.base.slot b o e n D hx;show⟨sl,(f.2 b (aN (aV (aF e) I.ok.above))).trans g⟩
  .obtain⟨P,g⟩:=I.base.there b o e hx;show⟨P,(f.2 b (aN (aV (aF e) I.ok.above))).trans g⟩
  .by_cases C:j=i
   .subst C;rw[hi] at g;cases g;rw[List.getElem?_set_self AZ] at t;cases t;show⟨u,r,.inl ⟨B,by simp⟩⟩
   rw[List.getElem?_set_ne (Ne.symm C)] at t;obtain⟨K,O,q⟩:=hl j y J g t U;show⟨K,O,?_⟩;rcases q with⟨k,e⟩ | ⟨k,c,e,z⟩
   .refine .inl ⟨k,?_⟩;have:y≠x:=λe=>C (KI hN g (e▸hi))
    simp[this,e]
   show .inr ⟨k,c,e,z.sameBut f (xn y c e)⟩
  .obtain⟨F,z⟩:=I.cell y c e;show⟨F,z.sameBut f (xn y c e)⟩
  obtain⟨e,n,ne,R,d⟩:=I.pin p S;show⟨(f.2 p.1 ne).trans e,n,ne,R,d⟩
 have W:X.fn x=true:=by
  rcases hf with z | z
  .exact z
  rw[z] at B;cases B
 obtain⟨c,l⟩:=I.ok.has x (.inl B);obtain⟨F,z⟩:=I.cell x c l;show wpAny_storeName_cell I.ok.kind B l z (λh' o6 f=>?_);obtain⟨Z,Y,G9⟩:=id z;show h { s with heap:=h' } ⟨I.ok,I.os,I.bare,⟨λb o e n D hx=>?_,λb o e n D hx=>?_,I.base.free,λb o e hx=>?_,I.base.nO,I.base.mS,I.base.nQ⟩,⟨m,T.sameBut f (Ne.symm (xn x c l)),λj y J g t U=>?_⟩,λy G e=>?_,I.free,I.iO,λp S=>?_,tracked ⟨Z,Y,I.iO x c l⟩ f,by simpa using I.len⟩ ⟨c,f,.inr l⟩
 .exact(f.2 b (aN (aV (aF e) (I.ok.cab x c W l)))).trans (I.base.keep b o e n D hx)
 .obtain⟨sl,g⟩:=I.base.slot b o e n D hx;show⟨sl,(f.2 b (aN (aV (aF e) (I.ok.cab x c W l)))).trans g⟩
 .obtain⟨P,g⟩:=I.base.there b o e hx;show⟨P,(f.2 b (aN (aV (aF e) (I.ok.cab x c W l)))).trans g⟩
 .by_cases C:j=i
  .subst C;rw[hi] at g;cases g;rw[List.getElem?_set_self AZ] at t;cases t;show⟨u,r,.inr ⟨.inl B,c,l,o6⟩⟩
  rw[List.getElem?_set_ne (Ne.symm C)] at t;obtain⟨K,O,q⟩:=hl j y J g t U;show⟨K,O,?_⟩;rcases q with q | ⟨k,G,e,z'⟩
  .exact .inl q
  show .inr ⟨k,G,e,z'.sameBut f ?_⟩;rintro rfl;show C (KI hN g (I.ok.inj _ _ _ e l▸hi))
 .by_cases Ni:G=c
  .subst Ni;show⟨_,o6⟩
  obtain⟨w2,z2⟩:=I.cell y G e;show⟨w2,z2.sameBut f Ni⟩
 obtain⟨e,n,ne,R,d⟩:=I.pin p S;show⟨(f.2 p.1 ?_).trans e,n,ne,R,d⟩;intro q;rw[q,Y] at e;have q':Z=p.2:=bU e;show d F (by rw[<-q'];show G9)
theorem KH{M:Model}{A:Around}{E:Value->Shared->Prop}{i:Nat}{x:Str}{v:V}{u:Value}{Q:Unit->Shared->Prop}(I:Inv X K' σ H s)(c:X.N.Nodup)(hi:X.N[i]?=some x)(hx:Loc X.env.scope x)(r:RelV v u)
  (h:∀a,Inv X K' (σ.set i (some v)) H a->Q () a) (b:X.fn x=true\/X.env.scope.names.lookup x=some .local:=by first | show .inl rfl | show .inr rfl | assumption):wpAny M A (storeName X.env x u) Q E s:=
 LH I c hi hx r (λa d _=>h a d) b
theorem Inv.Bi{a:Shared}{ch:List Addr}(I:Inv X K' σ H s)(g:a.os=s.os)(u:Un (sN X.stack) ch H H' s.heap a.heap)(dU:j6 X.prog X.w H' a.heap)(h:AllBare a.gens)
  (d:∀b∈ch,(b∈X.ex\/X.fU.heap.objs.size<=b)/\b≠X.env.locals/\(∀x c,X.env.cells.lookup x=some c->c≠b)/\∀p∈X.pn++K',p.1≠b):Inv X K' σ H' a:=by
 obtain⟨h',g',d',t',f⟩:=a;have e:f=s.os:=g;subst e;show I.call (g':=g') (t':=t') (d':=d') u dU h d
end
noncomputable abbrev XK:=Value->Option Addr->Hp->Prop
noncomputable abbrev St:=List (Option V)
noncomputable abbrev VK:=V->Hp->Prop
noncomputable abbrev TE:=St->Hp->VK->Prop
noncomputable abbrev TT:=St->Hp->(Bool->Hp->Prop)->Prop
noncomputable abbrev TA:=St->Hp->(List V->Hp->Prop)->Prop
structure Ends where
 nx:St->Hp->Prop
 rt:VK
 bk:St->Hp->Prop:=λ_ _=>False
 ct:St->Hp->Prop:=λ_ _=>False
noncomputable abbrev TS:=Ends->St->Hp->Prop
def EP(X:Cx)(d:List (Addr×Obj))(b:St)(Q:VK)(u:Value)(c:Shared):Prop:=∃v a,Inv X d b a c/\RelV v u/\Q v a
def TP(X:Cx)(e:List (Addr×Obj))(c:St)(Q:Bool->Hp->Prop)(b:Bool)(d:Shared):Prop:=∃a,Inv X e c a d/\Q b a
def AP(X:Cx)(f:List (Addr×Obj))(c:St)(Q:List V->Hp->Prop)(d:List Value)(e:Shared):Prop:=∃a b,Inv X f c b e/\Vals a d/\Q a b
def SP(X:Cx)(d:List (Addr×Obj))(D:Ends)(f:Flow)(c:Shared):Prop:=
 match f with
 | .next=>∃b a,Inv X d b a c/\D.nx b a
 | .brk=>∃b a,Inv X d b a c/\D.bk b a
 | .cont=>∃b a,Inv X d b a c/\D.ct b a
 | .ret u=>∃v b a,Inv X d b a c/\RelV v u/\D.rt v a
def PE(X:Cx)(e:Expr)(t:TE):Prop:=
 ∀(a:List (Addr×Obj))(s:Shared)(σ:St)(H:Hp)(Q:VK),Inv X a σ H s->t σ H Q->wpAny (model X.prog X.w) X.A (eval e X.env) (EP X a σ Q) X.xe s
def PT(X:Cx)(e:Expr)(t:TT):Prop:=
 ∀(a:List (Addr×Obj))(s:Shared)(σ:St)(H:Hp)(Q:Bool->Hp->Prop),Inv X a σ H s->t σ H Q->wpAny (model X.prog X.w) X.A (isTrue e X.env (eval e X.env)) (TP X a σ Q) X.xe s
def PW(X:Cx)(e:Expr)(t:TT):Prop:=
 ∀(whole:Sem Value)(a:List (Addr×Obj))(s:Shared)(σ:St)(H:Hp)(Q:Bool->Hp->Prop),Inv X a σ H s->t σ H Q->wpAny (model X.prog X.w) X.A (isTrue e X.env whole) (TP X a σ Q) X.xe s
theorem PW.pt{X:Cx}{e:Expr}{t:TT}(h:PW X e t):PT X e t:=h _
def PA(X:Cx)(es:List Expr)(t:TA):Prop:=
 ∀(pos:Pos)(a:List (Addr×Obj))(s:Shared)(σ:St)(H:Hp)(Q:List V->Hp->Prop),Inv X a σ H s->t σ H Q->wpAny (model X.prog X.w) X.A (spliced (backTo pos (starEach es X.env))) (AP X a σ Q) X.xe s
def PS(X:Cx)(st:Stmt)(t:TS):Prop:=
 ∀(a:List (Addr×Obj))(s:Shared)(σ:St)(H:Hp)(D:Ends),Inv X a σ H s->t D σ H->wpAny (model X.prog X.w) X.A (exec st X.env) (SP X a D) X.xe s
def pf(X:Cx)(st:List Stmt)(t:TS):Prop:=
 ∀(a:List (Addr×Obj))(s:Shared)(σ:St)(H:Hp)(D:Ends),Inv X a σ H s->t D σ H->wpAny (model X.prog X.w) X.A (execs st X.env) (SP X a D) X.xe s
theorem dR{b:Type}{t:Sem b}{Q c:b->Shared->Prop}{M:Model}{A:Around}{E:Value->Shared->Prop}{s:Shared}(h:wpAny M A t Q E s)(d:∀a s,Q a s->c a s):wpAny M A t c E s:=wpAny_mono h d λ_ _ x=>x
section
variable{X:Cx}
theorem bin{a b:Expr}{j tb:TE}(ha:PE X a j)(q:PE X b tb){e:List (Addr×Obj)}{s:Shared}{c:St}{H:Hp}{R:V->V->Hp->Prop}(I:Inv X e c H s)(h:j c H λx H1=>tb c H1 λy d=>R x y d)
  {i:Type} {Q:i->Shared->Prop} {f:Value->Value->Sem i}
  (p:∀v u s2 x y d,Inv X e c d s2->RelV x v->RelV y u->R x y d->wpAny (model X.prog X.w) X.A (f v u) Q X.xe s2) :
  wpAny (model X.prog X.w) X.A (eval a X.env) (λv r=>wpAny (model X.prog X.w) X.A (eval b X.env) (λu o=>wpAny (model X.prog X.w) X.A (f v u) Q X.xe o) X.xe r) X.xe s:=by
 show dR (ha e s c H _ I h) λv s1 g=>?_
 obtain⟨x,H1,z,l,n⟩:=g;show dR (q e s1 c H1 _ z n) λu s2 g=>?_
 obtain⟨y,d,t,k,m⟩:=g;show p v u s2 x y d t l k m
def Ih(i:Nat):TE:=λσ H Q=>∃v,σ[i]?=some (some v)/\Q v H
def tC(v:V):TE:=λ_ H Q=>Q v H
theorem qe{i:Nat}{x:Str}{pos:Pos}(n:X.N[i]?=some x)(g:oN X.env.scope x)(hd:(x==("__debug__":Str))=false:=by decide)(f:(x==("__classdict__":Str))=false:=by decide):PE X (.Name x pos) (Ih i):=by
 intro o s σ H Q I h;obtain⟨v,e,h⟩:=h;obtain⟨m,j,k⟩:=I.loc;obtain⟨u,r,l⟩:=k i x v n e g;have fin:EP X o σ Q u s:=⟨v,H,I,r,h⟩
 rcases l with⟨a,hm⟩ | ⟨a,c,d,b⟩
 .exact wpAny_Name (wpAny_loadName_local I.ok.kind a j hm fin) hd
 rcases a with a | a
 .exact wpAny_Name (wpAny_loadName_cell I.ok.kind a d b fin) hd
 show wpAny_Name (wpAny_loadName_free I.ok.kind a d b fin f) hd
theorem QG{i j pos}:PE X (.Constant (.int i) j pos) (tC (.int i)):=λ_ _ _ H _ I h=>wpAny_Constant_int ⟨.int i,H,I.tok _,⟨_,rfl⟩,h⟩
theorem Of{b j pos}:PE X (.Constant (.bool b) j pos) (tC (.bl b)):=λ_ _ _ H _ I h=>Constant_bool ⟨.bl b,H,I,rfl,h⟩
theorem QF{j pos}:PE X (.Constant .none j pos) (tC .non):=λ_ _ _ H _ I h=>Constant_none ⟨.non,H,I,rfl,h⟩
theorem QE{x j pos}:PE X (.Constant (.str x) j pos) (tC (.str x)):=λ_ _ _ H _ I h=>Calls.Constant_str ⟨.str x,H,I.tok _,⟨_,rfl⟩,h⟩
def Gl(X:Cx)(x:Str):Prop:=X.env.kindOf x=some .globalImplicit
theorem Eh{E:Value->Shared->Prop}{d:List (Addr×Obj)}{s:Shared}{a:St}{H:Hp}{x:Str}{u:Value}{pos:Pos}{Q:Value->Shared->Prop}(I:Inv X d a H s)(c:Gl X x)(b:X.mg x=some u)(h:Q u s)
  (hd:(x==("__debug__":Str))=false:=by decide):wpAny (model X.prog X.w) X.A (eval (.Name x pos) X.env) Q E s:=
 Calls.Name_function_global I.ok.kind c (Calls.loadGlobal_global (by rw[I.ok.glob];show I.mod.glob.keeps I.bk) b h) hd
theorem tI{E:Value->Shared->Prop}{i:List (Addr×Obj)}{s:Shared}{a:St}{H:Hp}{x:Str}{u:Value}{pos:Pos}{Q:Value->Shared->Prop}(I:Inv X i a H s)(e:Gl X x)(d:X.mg x=none)(b:bootBuiltins x=some u)(h:Q u s)
  (c:x≠"__name__":=by decide) (hd:(x==("__debug__":Str))=false:=by decide):wpAny (model X.prog X.w) X.A (eval (.Name x pos) X.env) Q E s:=by
 obtain⟨j,g,f⟩:=I.mod.blt;show Calls.Name_function_global I.ok.kind e (Calls.loadGlobal_builtin (by rw[I.ok.glob];show I.mod.glob.keeps I.bk) d (by rw[I.ok.blt];show g.keeps I.bk) ((f x c).trans b) h) hd
theorem Q2{x:Str}{v:V}{u:Value}{pos:Pos}(b:Gl X x)(a:X.mg x=some u)(r:RelV v u)(hd:(x==("__debug__":Str))=false:=by decide):PE X (.Name x pos) (tC v):=
 λ_ _ _ H _ I h=>Eh I b a ⟨v,H,I,r,h⟩ hd
theorem Q0{x:Str}{v:V}{u:Value}{pos:Pos}(d:Gl X x)(c:X.mg x=none)(a:bootBuiltins x=some u)(r:RelV v u)(b:x≠"__name__":=by decide)(hd:(x==("__debug__":Str))=false:=by decide):PE X (.Name x pos) (tC v):=
 λ_ _ _ H _ I h=>tI I d c a ⟨v,H,I,r,h⟩ b hd
variable{a b:Expr}{ta tb:TE}{pos:Pos}
def PC(X:Cx)(d:CmpOp)(a b:Expr)(t:TE):Prop:=
 ∀(c:List (Addr×Obj))(s:Shared)(σ:St)(H:Hp)(Q:VK),Inv X c σ H s->t σ H Q->
  wpAny (model X.prog X.w) X.A (eval a X.env) (λv f=>wpAny (model X.prog X.w) X.A (eval b X.env) (λu e=>wpAny (model X.prog X.w) X.A (compareOp d v u) (EP X c σ Q) X.xe e) X.xe f) X.xe s
theorem Sn(b:Expr){a:CmpOp}(h:a≠.In)(c:a≠.NotIn):behindInMarks a b=false:=by
 have e:(a==CmpOp.In)=false:=by cases a<;>first | rfl | show absurd rfl h
 have d:(a==CmpOp.NotIn)=false:=by cases a<;>first | rfl | show absurd rfl c
 cases b<;>simp[behindInMarks,e,d]
def tB(t:TE):TT:=λσ H Q=>t σ H λx H1=>∃c,x=.bl c/\Q c H1
theorem Zc{e:CmpOp}{t:TE}(h:PC X e a b t)(f:behindInMarks e b=false:=by first | show Sn _ (by decide) (by decide) | rfl):PT X (.Compare a [e] [b] pos) (tB t):=by
 intro l s σ H Q I hw;show wpAny_isTrue_Compare1 (dR (h l s σ H _ I hw) λv s1 f=>dR f λu s2 j=>dR j λc s3 k=>?_) f;obtain⟨x,H1,m,g,i⟩:=k;obtain⟨d,rfl,q⟩:=i;cases g;show wpAny_truthy_bool ⟨H1,m,q⟩
theorem QD{e:Expr}{t:TE}(h:PE X e t)(he:∀whole,isTrue e X.env whole=(do let v <-whole;standAt e.pos;holding [v] (truthy v)):=by intro _;rfl):PT X e (tB t):=by
 intro f s σ H Q I hw;show isTrue_plain (dR (h f s σ H _ I hw) λv s1 c=>?_) (he _);obtain⟨x,H1,g,a,b⟩:=c;obtain⟨d,rfl,q⟩:=b;cases a;show wpAny_truthy_bool ⟨H1,g,q⟩
variable{tA CM:TT}{lQ:List Expr}
def NQ(t u:TT):TT:=λσ H Q=>t σ H λc H1=>if c=true then u σ H1 Q else Q false H1
def Xf(t u:TT):TT:=λσ H Q=>t σ H λc H1=>if c=true then Q true H1 else u σ H1 Q
def NP(t:TT):TT:=λσ H Q=>t σ H λc H1=>Q (!c) H1
theorem QZ(ha:PT X a tA):PW X (.BoolOp .And [a] pos) tA:=by
 intro d b s σ H Q I h;show isTrue_and (dR (ha b s σ H Q I h) λc s1 e=>?_);cases c with
 | true=>show isTrue_and_nil e
 | false=>show e
theorem QC(ha:PT X a tA):PW X (.BoolOp .Or [a] pos) tA:=by
 intro d b s σ H Q I h;show isTrue_or (dR (ha b s σ H Q I h) λc s1 e=>?_);cases c with
 | false=>show isTrue_or_nil e
 | true=>show e
theorem QB(ha:PT X a tA)(i:PW X (.BoolOp .And (b::lQ) pos) CM):PW X (.BoolOp .And (a::b::lQ) pos) (NQ tA CM):=by
 intro g e s σ H Q I h;show isTrue_and (dR (ha e s σ H _ I h) λc s1 j=>?_);obtain⟨H1,f,d⟩:=j;cases c with
 | true=>show i g e s1 σ H1 Q f d
 | false=>show⟨H1,f,d⟩
theorem Oe(ha:PT X a tA)(i:PW X (.BoolOp .Or (b::lQ) pos) CM):PW X (.BoolOp .Or (a::b::lQ) pos) (Xf tA CM):=by
 intro g e s σ H Q I h;show isTrue_or (dR (ha e s σ H _ I h) λc s1 j=>?_);obtain⟨H1,f,d⟩:=j;cases c with
 | true=>show⟨H1,f,d⟩
 | false=>show i g e s1 σ H1 Q f d
theorem QA(ha:PT X a tA):PT X (.UnaryOp .Not a pos) (NP tA):=by
 intro b s σ H Q I h;show isTrue_not (ha b s σ H (λc H1=>Q (!c) H1) I h)
def Od(ta tb:TE):TE:=λσ H Q=>ta σ H λx H1=>∃c,x=.bl c/\if c=true then tb σ H1 Q else Q (.bl false) H1
theorem Po{op}{t:TE}(h:PE X a t):PE X (.BoolOp op [a] pos) t:=λb s σ H Q I hw=>BoolOp_one (h b s σ H Q I hw)
theorem Pn(ha:PE X a ta)(i:PE X (.BoolOp .And (b::lQ) pos) tb):PE X (.BoolOp .And (a::b::lQ) pos) (Od ta tb):=by
 intro e s σ H Q I h;show BoolOp_and (dR (ha e s σ H _ I h) λv s1 j=>?_);obtain⟨x,H1,f,g,d⟩:=j;obtain⟨c,rfl,d⟩:=d;cases g;show wpAny_truthy_bool ?_;cases c with
 | true=>show i e s1 σ H1 Q f d
 | false=>show⟨.bl false,H1,f,rfl,d⟩
def Xg(t:TT)(ta tb:TE):TE:=λσ H Q=>t σ H λc H1=>if c=true then ta σ H1 Q else tb σ H1 Q
theorem Sm{c:Expr}(i:PT X c tA)(ha:PE X a ta)(j:PE X b tb):PE X (.IfExp c a b pos) (Xg tA ta tb):=by
 intro e s σ H Q I h;show wpAny_IfExp (dR (i e s σ H _ I h) λd s1 k=>?_);obtain⟨H1,g,f⟩:=k;cases d with
 | true=>show ha e s1 σ H1 Q g f
 | false=>show j e s1 σ H1 Q g f
end
def fH(K:J')(H:Hp)(a:Addr)(xs:List V):Prop:=
 Rd H a (.lst xs)\/
  ∃(o:Obj)(its:Array Value)(n:Nat),K.lookup a=some o/\o.cls=.type "list"/\o.dict=none/\o.data=.seq its n/\its.size<=sizeLine/\Vals xs its.toList
def gR(K:J')(H:Hp)(a:Addr)(xs:List V):Prop:=
 Rd H a (.tup xs)\/
  ∃(o:Obj)(its:Array Value)(n:Nat),K.lookup a=some o/\o.cls=.type "tuple"/\o.data=.seq its n/\its.size<=sizeLine/\Vals xs its.toList
noncomputable def NO:Value->Option V
 | .none=>some .non
 | .bool b=>some (.bl b)
 | .int i _=>some (.int i)
 | .str x _=>some (.str x)
 | .bytes b _=>some (.Dl b)
 | .float b _=>some (.Di b)
 | .ref a=>some (.ref a)
 | .type n=>some (.ty n)
 | _=>none
theorem RelV.abs{x:V}{u:Value}(r:RelV x u):NO u=some x:=by
 cases x with
 | non=>cases r;rfl
 | bl _=>cases r;rfl
 | int _=>obtain⟨t,rfl⟩:=r;rfl
 | str _=>obtain⟨t,rfl⟩:=r;rfl
 | Dl _=>obtain⟨t,rfl⟩:=r;rfl
 | Di _=>obtain⟨t,rfl⟩:=r;rfl
 | ref _=>cases r;rfl
 | ty _=>cases r;rfl
theorem RelV.inj{x y:V}{u:Value}(r:RelV x u)(q:RelV y u):x=y:=bU (r.abs.symm.trans q.abs)
theorem Vals.inj{xs ys:List V}{a:List Value}(h:Vals xs a)(k:Vals ys a):xs=ys:=by
 induction h generalizing ys with
 | nil=>cases k;rfl
 | cons r t c=>
  cases k with
  | cons b t'=>rw[r.inj b,c t']
section
variable{X:Cx}{K':List (Addr×Obj)}{σ:St}{H:Hp}{s:Shared}{a:Addr}{xs ys:List V}
theorem fH.of{K:J'}(h:H a=some (.lst xs)):fH K H a xs:=.inl (.inl h)
theorem gR.of{K:J'}(h:H a=some (.tup xs)):gR K H a xs:=.inl (.inl h)
theorem Inv.list(I:Inv X K' σ H s)(h:fH X.K H a xs):∃its:List Value,Vals xs its/\PlainL s.heap a its.toArray/\xs.length<=sizeLine:=by
 rcases h with h | ⟨o,its,n,c,d,hd,b,hz,r⟩
 .obtain⟨z,its,n,r,e⟩:=h.ok I.dU;show⟨its,r,⟨_,n,e,rfl,rfl,rfl⟩,z⟩
 show⟨its.toList,r,⟨o,n,I.nE a o c,d,hd,by simpa using b⟩,?_⟩;have e:=r.length;simp only[af] at e;ext
theorem Inv.tuple(I:Inv X K' σ H s)(h:gR X.K H a xs):∃its:List Value,Vals xs its/\IsTup s.heap a its.toArray/\xs.length<=sizeLine:=by
 rcases h with h | ⟨o,its,n,c,d,b,hz,r⟩
 .obtain⟨z,its,r,p⟩:=h.ok I.dU;show⟨its,r,p,z⟩
 show⟨its.toList,r,⟨o,I.nE a o c,d,n,by simpa using b⟩,?_⟩;have e:=r.length;simp only[af] at e;ext
theorem Inv.iM(I:Inv X K' σ H s)(h:fH X.K H a xs)(h':fH X.K H a ys):xs=ys:=by
 obtain⟨its,r,⟨o,n,e,_,_,d⟩,_⟩:=I.list h;obtain⟨its',c,⟨g,i,b,_,_,d'⟩,_⟩:=I.list h';rw[e] at b;cases b;rw[d] at d';injection d' with f _
 have:its=its':=by simpa using congrArg Array.toList f
 subst this;show r.inj c
theorem Inv.mB(I:Inv X K' σ H s)(h:gR X.K H a xs)(h':gR X.K H a ys):xs=ys:=by
 obtain⟨its,r,⟨o,e,_,n,d⟩,_⟩:=I.tuple h;obtain⟨its',c,⟨g,b,_,i,d'⟩,_⟩:=I.tuple h';rw[e] at b;cases b;rw[d] at d';injection d' with f _
 have:its=its':=by simpa using congrArg Array.toList f
 subst this;show r.inj c
end
noncomputable abbrev Cx.lU(X:Cx)(E:Value->Shared->Prop):Cx:={ X with xe:=E }
noncomputable abbrev Cx.tR(X:Cx):Cx:=X.lU λ_ _=>False
theorem Cx.Ok.lU{X:Cx}(ok:X.Ok)(E:Value->Shared->Prop):(X.lU E).Ok:=
 ⟨ok.mod,ok.kind,ok.glob,ok.blt,ok.above,ok.inj,ok.has,ok.cab,ok.hd,ok.frames,ok.CN,ok.exf,ok.bs,ok.vI,ok.r8,ok.sQ,ok.kF,ok.xj⟩
theorem Cx.Ok.iH{X:Cx}{E:Value->Shared->Prop}(ok:(X.lU E).Ok):X.Ok:=
 ⟨ok.mod,ok.kind,ok.glob,ok.blt,ok.above,ok.inj,ok.has,ok.cab,ok.hd,ok.frames,ok.CN,ok.exf,ok.bs,ok.vI,ok.r8,ok.sQ,ok.kF,ok.xj⟩
section
variable{X:Cx}{K':List (Addr×Obj)}{σ:St}{H:Hp}{s:Shared}{E:Value->Shared->Prop}
theorem Inv.lU(I:Inv X K' σ H s)(E:Value->Shared->Prop):Inv (X.lU E) K' σ H s:=⟨I.ok.lU E,I.os,I.bare,I.base,I.loc,I.cell,I.free,I.iO,I.pin,I.dU,I.len⟩
theorem Inv.iH(I:Inv (X.lU E) K' σ H s):Inv X K' σ H s:=⟨I.ok.iH,I.os,I.bare,I.base,I.loc,I.cell,I.free,I.iO,I.pin,I.dU,I.len⟩
theorem SP.iH{D:Ends}{f:Flow}{c:Shared}(h:SP (X.lU E) K' D f c):SP X K' D f c:=by
 cases f with
 | next=>obtain⟨a,b,I,q⟩:=h;show⟨a,b,I.iH,q⟩
 | brk=>obtain⟨a,b,I,q⟩:=h;show⟨a,b,I.iH,q⟩
 | cont=>obtain⟨a,b,I,q⟩:=h;show⟨a,b,I.iH,q⟩
 | ret u=>obtain⟨v,a,b,I,r,q⟩:=h;show⟨v,a,b,I.iH,r,q⟩
theorem pf.tR{st:List Stmt}{t:TS}(h:pf X.tR st t):pf X st t:=λK' s σ H D I hw=>
 wpAny_mono (h K' s σ H D (I.lU _) hw) (λ_ _ q=>q.iH) λ_ _ z=>False.elim z
end
section
variable{X:Cx}{st:Stmt}{lQ:List Stmt}{t u:TS}{e:Expr}{te:TE}{pos:Pos}
def Oc:TS:=λD σ H=>D.nx σ H
def NN(t u:TS):TS:=λD σ H=>t { D with nx:=u D } σ H
theorem JS:pf X [] Oc:=λ_ _ σ H _ I h=>wpAny_execs_nil ⟨σ,H,I,h⟩
theorem KG(c:PS X st t)(b:pf X lQ u):pf X (st::lQ) (NN t u):=by
 intro a s σ H D I h;show wpAny_execs_cons (dR (c a s σ H { D with nx:=u D } I h) λf s1 q=>?_);cases f with
 | next=>
  obtain⟨d,g,e,q⟩:=q;show b a s1 d g D e q
 | ret v=>show q
 | brk=>show q
 | cont=>show q
theorem QY(a:PS X st t):pf X [st] t:=by
 intro b s σ H D I h;show wpAny_execs_cons (dR (a b s σ H D I h) λf s1 q=>?_);cases f with
 | next=>show wpAny_execs_nil q
 | ret v=>show q
 | brk=>show q
 | cont=>show q
theorem Inv.quiet{b:List (Addr×Obj)}{a:St}{H:Hp}{s:Shared}(I:Inv X b a H s):interactive X.env=false:=by simp[interactive,I.ok.kind]
def Ob(te:TE):TS:=λD σ H=>te σ H λ_ H1=>D.nx σ H1
theorem zb(he:PE X e te)(b:swapsWith e none pos.line X.env=pure false:=by rfl):PS X (.Expr e pos) (Ob te):=by
 intro d s σ H D I h;show wpAny_Expr_any (dR (he d s σ H _ I h) λv s1 c=>by obtain⟨x,H1,f,g,a⟩:=c;show⟨σ,H1,f,a⟩) I.quiet b
def NM(te:TE):TS:=λD σ H=>te σ H D.rt
theorem D6(he:PE X e te):PS X (.Return (some e) pos) (NM te):=by
 intro d s σ H D I h;show wpAny_Return_some (dR (he d s σ H _ I h) λv s1 c=>by obtain⟨x,H1,f,a,b⟩:=c;show⟨x,σ,H1,f,a,b⟩)
def NL(c:TT)(t u:TS):TS:=λD σ H=>c σ H λb H1=>if b=true then t D σ H1 else u D σ H1
theorem Oa{c:Expr}{a b:List Stmt}{tc:TT}(i:PT X c tc)(ha:pf X a t)(j:pf X b u):PS X (.If c a b pos) (NL tc t u):=by
 intro e s σ H D I h;show wpAny_If (dR (i e s σ H _ I h) λd s1 k=>?_);obtain⟨H1,g,f⟩:=k;cases d with
 | true=>show ha e s1 σ H1 D g f
 | false=>show j e s1 σ H1 D g f
def Pm:TS:=λ_ _ _=>False
theorem Sk:PS X st Pm:=λ_ _ _ _ _ _ h=>h.elim
end
noncomputable abbrev TG:=V->St->Hp->(St->Hp->Prop)->Prop
noncomputable abbrev uY:=List V->St->Hp->(St->Hp->Prop)->Prop
def PG(X:Cx)(a:Expr)(t:TG):Prop:=
 ∀(c:List (Addr×Obj))(s:Shared)(σ:St)(H:Hp)(v:V)(u:Value)(Q:St->Hp->Prop),Inv X c σ H s->RelV v u->t v σ H Q->
  wpAny (model X.prog X.w) X.A (assign a X.env u) (λ_ e=>∃b d,Inv X c b d e/\Q b d) X.xe s
def yA(X:Cx)(ts:List Expr)(t:uY):Prop:=
 ∀(c:List (Addr×Obj))(s:Shared)(σ:St)(H:Hp)(a:List V)(us:List Value)(Q:St->Hp->Prop),Inv X c σ H s->Vals a us->t a σ H Q->
  wpAny (model X.prog X.w) X.A (assignInOrder ((assignEach ts X.env).map (·.2)) us) (λ_ e=>∃b d,Inv X c b d e/\Q b d) X.xe s
noncomputable abbrev Dz:=V->V->V->Hp->(Hp->Prop)->Prop
def Ig(X:Cx)(t:Dz):Prop:=
 ∀(b:List (Addr×Obj))(s:Shared)(σ:St)(H:Hp)(o i v:V)(ov a u:Value)(Q:Hp->Prop),Inv X b σ H s->RelV o ov->RelV i a->RelV v u->t o i v H Q->
  wpAny (model X.prog X.w) X.A (setItem ov a u) (λ_ d=>∃c,Inv X b σ c d/\Q c) X.xe s
section
variable{X:Cx}{pos:Pos}
def DU(i:Nat):TG:=λv σ H Q=>Q (σ.set i (some v)) H
theorem QX{i:Nat}{x:Str}(b:X.N.Nodup)(hi:X.N[i]?=some x)(hx:Loc X.env.scope x)(a:X.fn x=true\/X.env.scope.names.lookup x=some .local:=by first | show .inl rfl | show .inr rfl | assumption):PG X (.Name x pos) (DU i):=by
 intro e s σ H v u Q I r h;show wpAny_assign_Name (KH I b hi hx r (λd c=>⟨_,H,c,h⟩) a)
noncomputable def NK:uY:=λa σ H Q=>a=[]/\Q σ H
noncomputable def OP(t:TG)(u:uY):uY:=λa σ H Q=>∃v r,a=v::r/\t v σ H λb c=>u r b c Q
theorem QW:yA X [] NK:=by
 intro b s σ H a us Q I r h;obtain⟨e,h⟩:=h;subst e;cases r;show assignInOrder_nil ⟨σ,H,I,h⟩
theorem Sj{e:Expr}{es:List Expr}{t:TG}{u:uY}(i:PG X e t)(g:yA X es u)
  (f:(assignEach (e::es) X.env).map (·.2)=assign e X.env::(assignEach es X.env).map (·.2):=by rfl):yA X (e::es) (OP t u):=by
 intro a s σ H m us Q I r h;obtain⟨v,n,j,h⟩:=h;subst j;cases r with
 | cons r c=>
  rw[f];show assignInOrder_cons (dR (i a s σ H _ _ _ I r h) λ_ s1 k=>?_);obtain⟨b,H1,l,d⟩:=k;show g a s1 b H1 _ _ Q l c d
def N9(K:J')(n:Nat)(t:uY):TG:=λv σ H Q=>∃a xs,v=.ref a/\gR K H a xs/\xs.length=n/\t xs σ H Q
theorem Pl{es:List Expr}{k:Nat}{t:uY}{n:Nat}(m:X.calm=true)(h:yA X es t)
  (j:(assignEach es X.env).length=n:=by rfl) (f:(assignEach es X.env).findIdx? (·.1)=none:=by rfl):PG X (.Tuple es k pos) (N9 X.K n t):=by
 intro d s σ H v u Q I r hw;obtain⟨a,xs,p,i,l,hw⟩:=hw;subst p;cases r;obtain⟨its,c,g,hz⟩:=I.tuple i;show assign_Tuple_tuple (I.ok.hd m) g (by simp[j,<-l,c.length]) f λh' hx=>?_
 have q:Inv X d σ H { s with heap:=h' }:=I.kept (t':=s.toks) λb o e=>hx b o (aN (aF e)) e
 show h d _ σ H xs _ Q q (by simpa using c) hw
def N8(a b:TE)(t:Dz):TG:=λv σ H Q=>a σ H λo H1=>b σ H1 λi d=>t o i v d λc=>Q σ c
theorem Pk{o i:Expr}{d e:TE}{t:Dz}(n:PE X o d)(hi:PE X i e)(m:Ig X t)
  (ha:∀v,assign (.Subscript o i pos) X.env v=(do
   let ov <-holding [v] (eval o X.env)
   let a <-holding [v,ov] (eval i X.env)
   standAt pos
   holding [v,ov,a] (setItem ov a v)
   release [v,ov,a] []):=by intro _;rfl):PG X (.Subscript o i pos) (N8 d e t):=by
 intro c s σ H v u Q I r h;rw[ha];show aa (bJ (dR (n c s σ H _ I h) λov s1 b=>?_));obtain⟨x,H1,w,g,l⟩:=b;show aa (bJ (dR (hi c s1 σ H1 _ w l) λa s2 b=>?_));obtain⟨y,A,q,f,k⟩:=b;show aa (wpAny_standAt (aa (bJ (dR (m c s2 σ A x y v ov a u _ q g f r k) λ_ s3 b=>?_))));obtain⟨z,p,j⟩:=b;show wpAny_release ⟨σ,z,p,j⟩
def DF(te:TE)(g:TG):TS:=λD σ H=>te σ H λx H1=>g x σ H1 D.nx
theorem Jc{a e:Expr}{te:TE}{g:TG}(he:PE X e te)(i:PG X a g)(f:swapsWithSole [a] e pos.line X.env=pure false:=by rfl)(hw:swappedStores [a] e X.env=pure none:=by rfl)
  (j:(assignEach [a] X.env).map (·.2)=[assign a X.env]:=by rfl):PS X (.Assign [a] e pos) (DF te g):=by
 intro b s σ H D I h;show wpAny_Assign_stores (dR (he b s σ H _ I h) λv s1 k=>?_) f hw;obtain⟨x,H1,l,c,d⟩:=k;rw[j];show dR (i b s1 σ H1 x v _ l c d) λ_ s2 q=>q
theorem Jb{i:Nat}{x:Str}{e:Expr}{te:TE}{a:Pos}(g:X.N.Nodup)(hi:X.N[i]?=some x)(hx:Loc X.env.scope x)(he:PE X e te)(d:swapsWith e (some (.Name x a)) pos.line X.env=pure false:=by rfl)(f:X.fn x=true\/X.env.scope.names.lookup x=some .local:=by first | show .inl rfl | show .inr rfl | assumption) :
  PS X (.Assign [.Name x a] e pos) (DF te (DU i)):=by
 intro k s σ H D I h;show wpAny_Assign_Name (dR (he k s σ H _ I h) λv s1 j=>?_) d;obtain⟨y,H1,m,b,c⟩:=j;show KH m g hi hx b (λs2 l=>⟨_,H1,l,c⟩) f
end
section
variable{X:Cx}{pos:Pos}
def Pj(c:TT)(tb:TS):TS:=λD σ H=>∃W:Nat->St->Hp->Prop,(∃m,W m σ H)/\∀m σ H,W m σ H->
 c σ H λb H1=>if b=true then ∃N:St->Hp->Prop,(∀d e,N d e->∃a,a<m/\W a d e)/\tb { D with nx:=N,ct:=N,bk:=D.nx } σ H1 else D.nx σ H1
theorem Si{c:Expr}{body:List Stmt}{tc:TT}{tb:TS}(o:PassesOwn (model X.prog X.w) X.A X.env X.xe)(z:PT X c tc)(B:pf X body tb):PS X (.While c body [] pos) (Pj tc tb):=by
 intro l s σ H D I h;obtain⟨W,⟨m0,x⟩,turn⟩:=h;show wpAny_While (codeAny_whileLoop (λn y=>∃q u,Inv X l q u y/\W n q u) ?_ m0 ⟨σ,H,I,x⟩);rintro n s1 ⟨e,H1,E,w1⟩;show wpAny_passesOwn o (dR (z l s1 e H1 _ E (turn n e H1 w1)) λb s2 C=>?_);obtain⟨t,r,i⟩:=C;cases b with
 | true=>
  obtain⟨N,p,i⟩:=i;rw[if_pos rfl];show wpAny_passesOwn o (dR (B l s2 e t _ r i) λf s3 g=>?_);cases f with
  | next=>
   obtain⟨a,d,m,n3⟩:=g;obtain⟨k,hm,j⟩:=p a d n3;show⟨k,hm,a,d,m,j⟩
  | cont=>
   obtain⟨a,d,m,n3⟩:=g;obtain⟨k,hm,j⟩:=p a d n3;show⟨k,hm,a,d,m,j⟩
  | brk=>show g
  | ret v=>show g
 | false=>
  rw[if_neg aW];show wpAny_execs_nil ⟨e,t,r,i⟩
end
structure It where
 go:Nat->Hp->Prop
 CJ:Nat->Hp->V->Hp->Prop
 stop:Nat->Hp->Prop
def kJ(X:Cx)(a:List (Addr×Obj))(H:Hp)(b:Addr):Prop:=
 H b=none/\b≠X.env.locals/\b∉X.fs/\(b∈X.ex\/X.fU.heap.objs.size<=b)/\(∀x c,X.env.cells.lookup x=some c->c≠b)/\∀p∈X.pn++a,p.1≠b
theorem Inv.o7{X:Cx}{d:List (Addr×Obj)}{g:St}{H f:Hp}{s:Shared}{b:Addr}(I:Inv X d g H s)(a:s.heap.objs.size<=b)(i:f b=none):kJ X d f b:=by
 show⟨i,Nat.ne_of_gt (aV I.lt a),I.Gp a,.inr (aL I.sz a),λx c e z=>?_,λp h z=>?_⟩
 .obtain⟨v,q⟩:=I.cell x c e;show absurd (aV q.lt (by rw[z];show a)) (Nat.lt_irrefl _)
 show absurd (aV (aF (I.pin p h).1) (by rw[z];show a)) (Nat.lt_irrefl _)
structure Turn(P:Program)(w:World)(K:J')(tg:Expr)(J:It)(fp:List Addr)(it:Addr)(tn:Nat->Heap->Prop):Prop where
 mem:it∈fp
 obj:∀i h,tn i h->∀b∈fp,∃o,h.get? b=some o/\∀v,o.data≠.cell v
 keep:∀i h h',tn i h->(∀b∈fp,∀o,h.get? b=some o->h'.get? b=some o)->tn i h'
 item:∀(X:Cx),X.prog=P->X.w=w->X.K=K->X.calm=true->∀(i:Nat)(K':List (Addr×Obj))(s:Shared)(σ:St)(H:Hp)(E:Value->Shared->Prop),Inv X K' σ H s->(∀b∈fp,kJ X K' H b)->tn i s.heap->J.go i H->
  wpAny (model P w) X.A (pyNext (.ref it)) (λr s1=>∃u,r=some u/\
   wpAny (model P w) X.A (letOwnedTupleGo tg (.ref it) u) (λ_ s2=>∃x H',Inv X K' σ H' s2/\RelV x u/\J.CJ i H x H'/\tn (i+1) s2.heap/\∀b∈fp,H' b=none) E s1) E s
 done:∀(X:Cx),X.prog=P->X.w=w->X.K=K->X.calm=true->∀(i:Nat)(K':List (Addr×Obj))(s:Shared)(σ:St)(H:Hp)(E:Value->Shared->Prop),Inv X K' σ H s->(∀b∈fp,kJ X K' H b)->tn i s.heap->J.stop i H->
  wpAny (model P w) X.A (pyNext (.ref it)) (λr s1=>r=none/\Inv X K' σ H s1) E s
 self:∀(A:Around)(i:Nat)(s:Shared)(Q:Value->Shared->Prop)(E:Value->Shared->Prop),tn i s.heap->Q (.ref it) s->wpAny (model P w) A (pyIter (.ref it)) Q E s
noncomputable abbrev TI:=St->Hp->(It->Hp->Prop)->Prop
def Dr(X:Cx)(e:List (Addr×Obj))(f:St)(g:Expr)(R:It->Hp->Prop)(h:Value)(d:Shared):Prop:=
 ∃(it:Addr)(fp:List Addr)(c:Nat->Heap->Prop)(J:It)(a:Hp),h=.ref it/\Inv X e f a d/\Turn X.prog X.w X.K g J fp it c/\c 0 d.heap/\(∀b∈fp,kJ X e a b)/\R J a
def PI(X:Cx)(d a:Expr)(c:TI):Prop:=
 ∀(b:List (Addr×Obj))(s:Shared)(σ:St)(H:Hp)(R:It->Hp->Prop),Inv X b σ H s->c σ H R->
  wpAny (model X.prog X.w) X.A (eval a X.env) (λv s1=>wpAny (model X.prog X.w) X.A (pyIter v) (Dr X b σ d R) X.xe s1) X.xe s
theorem BK{M:Model}{A:Around}{E:Value->Shared->Prop}{s:Shared}{c:Expr}{d:Addr}{u:Value}{o:Obj}{n:String}{b:Array Value}{Q:Unit->Shared->Prop}(e:s.heap.get? d=some o)(g:o.cls=.type n)(hd:o.data=.fields b)
  (f:["enumerate","zip","dict_itemiterator","dict_reverseitemiterator","odict_iterator","itertools.zip_longest","itertools.pairwise"].contains n=false) (a:Q () s):wpAny M A (letOwnedTupleGo c (.ref d) u) Q E s:=by
 unfold letOwnedTupleGo;cases c<;>first
  | show ao a
  | (cases u<;>first
    | show ao a
    | (show aa (wpAny_load e ?_)
       rw[g,hd];show wpAny M A (if (["enumerate","zip","dict_itemiterator","dict_reverseitemiterator","odict_iterator","itertools.zip_longest","itertools.pairwise"].contains n&&b[0]?==some (rawInt _))=true then _ else _) Q E s;rw[if_neg (by intro h;rw[f,Bool.false_and] at h;cases h)];show ao a))
noncomputable def HN(K:J')(a:Addr):It:=
 ⟨λi H=>∃xs x,fH K H a xs/\xs[i]?=some x,λi H x b=>b=H/\∀xs,fH K H a xs->xs[i]?=some x,λi H=>∃xs,fH K H a xs/\xs.length<=i⟩
noncomputable def HM(K:J')(a:Addr):It:=
 ⟨λi H=>∃xs x,gR K H a xs/\xs[i]?=some x,λi H x b=>b=H/\∀xs,gR K H a xs->xs[i]?=some x,λi H=>∃xs,gR K H a xs/\xs.length<=i⟩
noncomputable def Bq(lo:Int)(n:Nat):It:=⟨λi _=>i<n,λi H x a=>a=H/\x=.int (lo+i),λi _=>n<=i⟩
theorem T5{P:Program}{w:World}{K:J'}{C:Expr}(a f:Addr):Turn P w K C (HN K a) [f] f (λi h=>h.IsListIter f a i) where
 mem:=by simp
 obj:=λi h st b g=>by
  have e:b=f:=by simpa using g
  subst e;obtain⟨o,e,c,d⟩:=st;show⟨o,e,λv z=>by rw[d] at z;cases z⟩
 keep:=λi h h' st k=>st.at λo e=>k f (by simp) o e
 item:=by
  intro X n hw q y i B s σ H E I hf st m;subst n hw q;obtain⟨xs,x,j,hx⟩:=m;obtain⟨its,l,p,hz⟩:=I.list j;obtain⟨u,J,F⟩:=l.get hx;obtain⟨f0,f1,f2,t,f4,r⟩:=hf f (by simp);show wpAny_pyNext_list_item st p.isList (x:=u) (by simpa using J) λh' A D=>?_
  have M:Inv X B σ H { s with heap:=h' }:=I.turned (t':=s.toks) (λb o g e=>(D.2 b g).trans e) f0 f1 t f4 r;obtain⟨o,e,c,d⟩:=id A;show⟨u,rfl,BK (s:={ s with heap:=h' }) e c d (by decide) ⟨x,H,M,F,⟨rfl,λys G=>by rw[I.iM G j];show hx⟩,A,λb g=>(hf b g).1⟩⟩
 done:=by
  intro X n hw q y i B s σ H E I hf st m;subst n hw q;obtain⟨xs,j,hx⟩:=m;obtain⟨its,l,p,hz⟩:=I.list j;obtain⟨f0,f1,f2,t,f4,r⟩:=hf f (by simp);have N:=l.length;show wpAny_pyNext_list_end (I.ok.hd y) st p.isList (by simp;ext) λh' L=>⟨rfl,I.turned (t':=s.toks) (λb o g e=>L b o g e) f0 f1 t f4 r⟩
 self:=λ_ _ _ _ _ st h=>wpAny_pyIter_listiter st h
theorem Ul{P:Program}{w:World}{K:J'}{C:Expr}(a f:Addr):Turn P w K C (HM K a) [f] f (λi h=>h.IsTupleIter f a i) where
 mem:=by simp
 obj:=λi h st b g=>by
  have e:b=f:=by simpa using g
  subst e;obtain⟨o,e,c,d⟩:=st;show⟨o,e,λv z=>by rw[d] at z;cases z⟩
 keep:=λi h h' st k=>st.at λo e=>k f (by simp) o e
 item:=by
  intro X n hw q y i B s σ H E I hf st m;subst n hw q;obtain⟨xs,x,j,hx⟩:=m;obtain⟨its,l,p,hz⟩:=I.tuple j;obtain⟨u,J,F⟩:=l.get hx;obtain⟨f0,f1,f2,t,f4,r⟩:=hf f (by simp);show wpAny_pyNext_tuple_item st (show s.heap.IsTuple a its.toArray from p) (x:=u) (by simpa using J) λh' A D=>?_
  have M:Inv X B σ H { s with heap:=h' }:=I.turned (t':=s.toks) (λb o g e=>(D.2 b g).trans e) f0 f1 t f4 r;obtain⟨o,e,c,d⟩:=id A;show⟨u,rfl,BK (s:={ s with heap:=h' }) e c d (by decide) ⟨x,H,M,F,⟨rfl,λys G=>by rw[I.mB G j];show hx⟩,A,λb g=>(hf b g).1⟩⟩
 done:=by
  intro X n hw q y i B s σ H E I hf st m;subst n hw q;obtain⟨xs,j,hx⟩:=m;obtain⟨its,l,p,hz⟩:=I.tuple j;obtain⟨f0,f1,f2,t,f4,r⟩:=hf f (by simp);have N:=l.length;show wpAny_pyNext_tuple_end (I.ok.hd y) st (show s.heap.IsTuple a its.toArray from p) (by simp;ext) λh' L=>⟨rfl,I.turned (t':=s.toks) (λb o g e=>L b o g e) f0 f1 t f4 r⟩
 self:=λ_ _ _ _ _ st h=>wpAny_pyIter_tupleiter st h
theorem Uk{P:Program}{w:World}{K:J'}{u:Expr}(a:Addr)(lo:Int)(n:Nat):Turn P w K u (Bq lo n) [a] a (λi h=>IsRangeIter h a (lo+(i:Nat)*1) ((n:Int)-(i:Nat)) 1) where
 mem:=by simp
 obj:=λi h st b c=>by
  have e:b=a:=by simpa using c
  subst e
  show⟨_,st,λv z=>by
   have r:Data.fields _=Data.cell v:=z;cases r⟩
 keep:=λi h h' st k=>k a (by simp) _ st
 item:=by
  intro X g hw j f i q s σ H E I hf st d;subst g hw j;obtain⟨f0,f1,f2,m,f4,l⟩:=hf a (by simp);have W:=Walks.range (prog:=X.prog) (w:=X.w) (I.ok.hd f) a lo 1 n;show W.item i s _ _ d st λv h' tk y p x=>?_
  obtain⟨t,rfl⟩:=y;have B:Inv X q σ H { s with heap:=h',toks:=tk }:=I.turned (λb o c e=>x b o (by simpa using c) e) f0 f1 m f4 l;show⟨_,rfl,BK (s:={ s with heap:=h',toks:=tk }) (n:="range_iterator") p rfl rfl (by decide) ⟨.int (lo+i),H,B,⟨t,?_⟩,⟨rfl,rfl⟩,p,λb c=>(hf b c).1⟩⟩;rw[Int.mul_one]
 done:=by
  intro X g hw j f i q s σ H E I hf st d;subst g hw j;obtain⟨f0,f1,f2,m,f4,l⟩:=hf a (by simp);show wpAny_pyNext_range_end (I.ok.hd f) st (by have:n<=i:=d;ext) λh' A=>⟨rfl,I.turned (t':=s.toks) (λb o c e=>A b o c e) f0 f1 m f4 l⟩
 self:=λ_ _ _ _ _ st h=>wpAny_pyIter_rangeiter st h
section
variable{X:Cx}{tg:Expr}
theorem KD{c:List (Addr×Obj)}{a:St}{H:Hp}{s:Shared}{R:It->Hp->Prop}{E:Value->Shared->Prop}{lo hi:Int}{t u v:Tok}{tk:Nat}(I:Inv X c a H s)(j:-(2 ^ 62)<=lo)(i:lo<2 ^ 62)(h:-(2 ^ 62)<=hi)(g:hi<2 ^ 62)
  (q:R (Bq lo (hi-lo).toNat) H):wpAny (model X.prog X.w) X.A (pyIter (.ref s.heap.objs.size)) (Dr X c a tg R) E { s with heap:=s.heap.push { cls:=.type "range",data:=.fields #[.int lo t,.int hi u,.int 1 v] },toks:=tk }:=by
 show wpAny_pyIter_range (IsRange.new ..) (small_one j i h g) ?_;have d:Inv X c a H { s with heap:=s.heap.push { cls:=.type "range",data:=.fields #[.int lo t,.int hi u,.int 1 v] },toks:=tk }:=I.kept λb o e=>aj _ e
 show⟨(s.heap.push { cls:=.type "range",data:=.fields #[.int lo t,.int hi u,.int 1 v] }).objs.size,[(s.heap.push { cls:=.type "range",data:=.fields #[.int lo t,.int hi u,.int 1 v] }).objs.size],_,_,H,rfl,
  d.kept (t':=tk) λb o e=>aj _ e,Uk _ lo (hi-lo).toNat,?_,λb f=>?_,q⟩
 .have l:lo+((0:Nat):Int)*1=lo:=by simp
  have k:(((hi-lo).toNat:Nat):Int)-((0:Nat):Int)=Builtin.Range.rangeSize lo hi 1:=by rw[rangeSize_one];split<;>ext
  show IsRangeIter _ _ (lo+((0:Nat):Int)*1) ((((hi-lo).toNat:Nat):Int)-((0:Nat):Int)) 1;rw[l,k];show aB _ rfl
 have e:b=(s.heap.push { cls:=.type "range",data:=.fields #[.int lo t,.int hi u,.int 1 v] }).objs.size:=by simpa using f
 subst e;show d.o7 (az _) (d.dU.fresh (az _))
def OO(b:TA):TI:=λσ H R=>b σ H λa H1=>∃j:Int,a=[.int j]/\-(2 ^ 62)<=j/\j<2 ^ 62/\R (Bq 0 j.toNat) H1
def ON(b:TA):TI:=λσ H R=>b σ H λa H1=>∃i j:Int,a=[.int i,.int j]/\(-(2 ^ 62)<=i/\i<2 ^ 62/\-(2 ^ 62)<=j/\j<2 ^ 62)/\R (Bq i (j-i).toNat) H1
theorem T4{a:Expr}{c:TA}{p pos:Pos}(l:Gl X "range")(k:X.mg "range"=none)(ha:PA X [a] c)(i:starEach [a] X.env=[(false,eval a X.env)]:=by rfl):PI X tg (.Call (.Name "range" p) [a] [] pos) (OO c):=by
 intro n s σ H R I h;show Call_ (tI I l k boot_range (PyProof.Rows.callWith_type1 (dR (ha pos n s σ H _ I h) λus s1 m=>?_) i rfl));obtain⟨u,H1,o,f,b⟩:=m;obtain⟨j,e,b,g,q⟩:=b;subst e;cases f with
 | cons r d=>
  cases d;obtain⟨t,rfl⟩:=r;show call_range_1 (KD o (by ext) (by ext) b g (by simpa using q))
theorem TZ{a b:Expr}{f:TA}{p pos:Pos}(w:Gl X "range")(v:X.mg "range"=none)(ha:PA X [a,b] f)(u:starEach [a,b] X.env=[(false,eval a X.env),(false,eval b X.env)]:=by rfl)(g:starEach [b] X.env=[(false,eval b X.env)]:=by rfl) :
  PI X tg (.Call (.Name "range" p) [a,b] [] pos) (ON f):=by
 intro x s σ H R I h;show Call_ (tI I w v boot_range (PyProof.Rows.callWith_type1 (dR (ha pos x s σ H _ I h) λus s1 ⟨z,H1,y,k,d⟩=>?_) (by rw[u,g]) (by rw[g];rfl)));obtain⟨i,j,e,⟨d,o,n,m⟩,q⟩:=d;subst e;cases k with
 | cons r c=>
  cases c with
  | cons l c=>
   cases c;obtain⟨t,rfl⟩:=r;obtain⟨t',rfl⟩:=l;show call_range_2 (KD y d o n m q)
def N7(d:TI)(g:TG)(tb:TS):TS:=λD σ H=>d σ H λJ H1=>∃W:Nat->Nat->St->Hp->Prop,(∃m,W 0 m σ H1)/\∀i m σ H,W i m σ H->
 (J.stop i H/\D.nx σ H)\/(J.go i H/\∃N:St->Hp->Prop,(∀c a,N c a->∃b,b<m/\W (i+1) b c a)/\∀x a,J.CJ i H x a->g x σ a λe f=>tb { D with nx:=N,ct:=N,bk:=D.nx } e f)
noncomputable def y8(fp:List Addr)(h:Heap):List (Addr×Obj):=fp.filterMap λb=>(h.get? b).map λo=>(b,o)
theorem CH{fp:List Addr}{h:Heap}{b:Addr}{o:Obj}(a:b∈fp)(e:h.get? b=some o):(b,o)∈y8 fp h:=List.mem_filterMap.mpr ⟨b,a,by rw[e];rfl⟩
theorem TY{fp:List Addr}{h:Heap}{p:Addr×Obj}(a:p∈y8 fp h):p.1∈fp/\h.get? p.1=some p.2:=by
 obtain⟨b,c,e⟩:=List.mem_filterMap.mp a;cases q:h.get? b with
 | none=>rw[q] at e;cases e
 | some o=>
  rw[q] at e;have d:(b,o)=p:=bU e;subst d;show⟨c,q⟩
theorem Inv.pinned{a:List (Addr×Obj)}{c:St}{H:Hp}{s:Shared}{fp:List Addr}(I:Inv X a c H s)(j:∀b∈fp,kJ X a H b)(i:∀b∈fp,∃o,s.heap.get? b=some o/\∀v,o.data≠.cell v):Inv X (a++y8 fp s.heap) c H s:=
 I.pL λp h=>(aw.mp h).elim (λz=>I.pin p (aU _ z)) λz=>by
  obtain⟨f,e⟩:=TY z;obtain⟨f0,f1,f2,_⟩:=j p.1 f;obtain⟨o,g,d⟩:=i p.1 f;rw[e] at g;cases g;show⟨e,f0,f1,f2,d⟩
theorem Inv.jz{b pl:List (Addr×Obj)}{a:St}{H:Hp}{s:Shared}(I:Inv X (b++pl) a H s):Inv X b a H s:=I.pL λp c=>I.pin p (aU _ (bO _ c))
theorem Ph{c:Expr}{body:List Stmt}{O:TI}{g:TG}{tb:TS}{pos:Pos}(C:PassesOwn (model X.prog X.w) X.A X.env X.xe)(R:X.calm=true)(hi:PI X tg c O)(hg:PG X tg g)(j:pf X body tb)
  (hs:∀x,foldedSetIterable c X.env x=pure x:=by intro _;rfl):PS X (.For tg c body [] pos) (N7 O g tb):=by
 intro y s σ H D I h;show wpAny_For (dR (hi y s σ H _ I h) λv s1 h1=>dR h1 λGD s2 h2=>?_) hs;obtain⟨it,fp,P,J,H2,e,I2,T,cV,f2,W,⟨m0,w0⟩,turn⟩:=h2;subst e
 -- Af stays true of qk wW objects through qk loop
 have G:∀{p:Hp},(∀b∈fp,p b=none)->∀b∈fp,kJ X y p b:=λhn b j=>⟨hn b j,(f2 b j).2⟩
 show codeAny_forLoop_any (λn Q=>∃i E p,Inv X y E p Q/\P i Q.heap/\(∀b∈fp,p b=none)/\W i n E p) ?_ m0 ⟨0,σ,H2,I2,cV,λb j=>(f2 b j).1,w0⟩;rintro n s3 ⟨i,B,F,U,Y,S,w3⟩;rcases turn i n B F w3 with⟨stop,qn⟩ | ⟨go,N,hN,step⟩
 .refine wpAny_passesOwn C (dR (T.done X rfl rfl rfl R i y s3 B F X.xe U (G S) Y stop) λr s4 t=>?_);obtain⟨L,I4⟩:=t;subst L;show wpAny_execs_nil ⟨B,F,I4,qn⟩
 show wpAny_passesOwn C (dR (T.item X rfl rfl rfl R i y s3 B F X.xe U (G S) Y go) λr s4 t=>?_);obtain⟨u,L,h4⟩:=t;subst L;show wpAny_passesOwn C (dR h4 λ_ s5 t=>?_);obtain⟨x,V,I5,r5,Z,M,YW⟩:=t;have Y8:=I5.pinned (G YW) (T.obj _ _ M);show wpAny_passesOwn C (dR (hg _ s5 B V x u _ Y8 r5 (step x V Z)) λ_ s6 t=>?_);obtain⟨NJ,H6,I6,q6⟩:=t;show wpAny_passesOwn C (dR (j _ s6 NJ H6 _ I6 q6) λf K q=>?_);have again:∀{a:St}{l:Hp},Inv X (y++y8 fp s5.heap) a l K->N a l->∃m,m<n/\∃i E p,Inv X y E p K/\P i K.heap/\(∀b∈fp,p b=none)/\W i m E p:=λ{a l} k z=>by
  obtain⟨m',hm,w7⟩:=hN a l z;show⟨m',hm,i+1,a,l,k.jz,T.keep _ _ _ M λb j o e=>(k.pin (b,o) (aU _ (aU _ (CH j e)))).1,λb j=>?_,w7⟩;obtain⟨o,e,d⟩:=T.obj _ _ M b j;show(k.pin (b,o) (aU _ (aU _ (CH j e)))).2.1
 cases f with
 | next=>obtain⟨a,l,k,z⟩:=q;show again k z
 | cont=>obtain⟨a,l,k,z⟩:=q;show again k z
 | brk=>obtain⟨a,l,k,q⟩:=q;show⟨a,l,k.jz,q⟩
 | ret v=>obtain⟨x7,a,l,k,r7,q⟩:=q;show⟨x7,a,l,k.jz,r7,q⟩
end
noncomputable abbrev R2:=V->V->Hp->VK->Prop
def iQ(X:Cx)(f:Value->Value->Sem Value)(r:R2):Prop:=
 ∀(a:List (Addr×Obj))(s:Shared)(σ:St)(H:Hp)(x y:V)(v u:Value)(Q:VK),Inv X a σ H s->RelV x v->RelV y u->r x y H Q->
  wpAny (model X.prog X.w) X.A (f v u) (EP X a σ Q) X.xe s
def HJ(X:Cx)(f:Value->Sem Value)(r:V->Hp->VK->Prop):Prop:=
 ∀(a:List (Addr×Obj))(s:Shared)(σ:St)(H:Hp)(x:V)(v:Value)(Q:VK),Inv X a σ H s->RelV x v->r x H Q->
  wpAny (model X.prog X.w) X.A (f v) (EP X a σ Q) X.xe s
def dY(X:Cx)(f:Value)(r:List V->Hp->VK->Prop):Prop:=
 ∀(a:List (Addr×Obj))(s:Shared)(σ:St)(H:Hp)(xs:List V)(us:List Value)(Q:VK),Inv X a σ H s->Vals xs us->r xs H Q->
  wpAny (model X.prog X.w) X.A (call f us) (EP X a σ Q) X.xe s
def Aq(r:R2)(a tb:TE):TE:=λσ H Q=>a σ H λx H1=>tb σ H1 λy b=>r x y b Q
def Xd(r:V->Hp->VK->Prop)(a:TE):TE:=λσ H Q=>a σ H λx H1=>r x H1 Q
def rI(C:Int->Int->Prop)(g:Int->Int->V):R2:=λx y H Q=>∃i j,x=.int i/\y=.int j/\C i j/\Q (g i j) H
def qm(g:Int->Int->V):R2:=λx y H Q=>∃i j,x=.int i/\y=.int j/\Q (g i j) H
def rU(g:Int->V):V->Hp->VK->Prop:=λx H Q=>∃i,x=.int i/\Q (g i) H
section
variable{X:Cx}{a b c:Expr}{ta tb tc:TE}{pos:Pos}
theorem DD(ha:PE X a ta)(o:PE X b tb){e:List (Addr×Obj)}{s:Shared}{c:St}{H:Hp}{R:V->V->Hp->Prop}(I:Inv X e c H s)
  (h:ta c H λx H1=>tb c H1 λy d=>R x y d) {Q:Value->Shared->Prop} {f:Value->Value->Sem Value}
  (n:∀v u s2 x y d,Inv X e c d s2->RelV x v->RelV y u->R x y d->wpAny (model X.prog X.w) X.A (f v u) Q X.xe s2) :
  wpAny (model X.prog X.w) X.A (eval a X.env) (λv p=>wpAny (model X.prog X.w) X.A (eval b X.env) (λu m=>wpAny (model X.prog X.w) X.A (f v u) Q X.xe m) X.xe p) X.xe s:=by
 show dR (ha e s c H _ I h) λv s1 g=>?_
 obtain⟨x,H1,r,j,l⟩:=g;show dR (o e s1 c H1 _ r l) λu s2 g=>?_
 obtain⟨y,d,q,i,k⟩:=g;show n v u s2 x y d q j i k
theorem OM{c:Operator}{r:R2}(f:iQ X (binaryOp c) r)(ha:PE X a ta)(g:PE X b tb):PE X (.BinOp a c b pos) (Aq r ta tb):=by
 intro i s σ H Q I h;show wpAny_BinOp (DD ha g I h λv u s2 x y k j e d q=>f i s2 σ k x y v u Q j e d q)
theorem OL{b:UnaryOp}{r:V->Hp->VK->Prop}(f:HJ X (unaryOp b) r)(ha:PE X a ta):PE X (.UnaryOp b a pos) (Xd r ta):=by
 intro c s σ H Q I h;show UnaryOp_ (dR (ha c s σ H _ I h) λv s1 g=>by obtain⟨x,H1,i,d,e⟩:=g;show f c s1 σ H1 x v Q i d e)
theorem CS{f:Value->Value->Sem Value}{C:Int->Int->Prop}{g:Int->Int->Int}
  (a:∀(i j:Int)(t u:Tok)(s:Shared)(Q:Value->Shared->Prop)(E:Value->Shared->Prop),C i j->Q (.int (g i j) s.toks) { s with toks:=s.toks+1 }->wpAny (model X.prog X.w) X.A (f (.int i t) (.int j u)) Q E s) :
  iQ X f (rI C λi j=>.int (g i j)):=by
 intro e s σ H x y v u Q I c b h;obtain⟨i,j,rfl,rfl,d,q⟩:=h;obtain⟨t,rfl⟩:=c;obtain⟨t',rfl⟩:=b;show a i j t t' s _ _ d ⟨.int (g i j),H,I.tok _,⟨_,rfl⟩,q⟩
theorem Ie{f:Value->Value->Sem Value}{g:Int->Int->Int}
  (a:∀(i j:Int)(t u:Tok)(s:Shared)(Q:Value->Shared->Prop)(E:Value->Shared->Prop),Q (.int (g i j) s.toks) { s with toks:=s.toks+1 }->wpAny (model X.prog X.w) X.A (f (.int i t) (.int j u)) Q E s) :
  iQ X f (qm λi j=>.int (g i j)):=by
 intro d s σ H x y v u Q I c b h;obtain⟨i,j,rfl,rfl,q⟩:=h;obtain⟨t,rfl⟩:=c;obtain⟨t',rfl⟩:=b;show a i j t t' s _ _ ⟨.int (g i j),H,I.tok _,⟨_,rfl⟩,q⟩
theorem By{f:Value->Value->Sem Value}{g:Int->Int->Bool}
  (a:∀(i j:Int)(t u:Tok)(s:Shared)(Q:Value->Shared->Prop)(E:Value->Shared->Prop),Q (.bool (g i j)) s->wpAny (model X.prog X.w) X.A (f (.int i t) (.int j u)) Q E s) :
  iQ X f (qm λi j=>.bl (g i j)):=by
 intro d s σ H x y v u Q I c b h;obtain⟨i,j,rfl,rfl,q⟩:=h;obtain⟨t,rfl⟩:=c;obtain⟨t',rfl⟩:=b;show a i j t t' s _ _ ⟨.bl (g i j),H,I,rfl,q⟩
def kA(i j:Int):Prop:=0<j/\j<1073741824
def rC(i j:Int):Prop:=0<=j/\j<=1000000/\i.natAbs<2 ^ 64
def gk(i j:Int):Prop:=(-(2 ^ 64)<i/\i<2 ^ 64)\/(-(2 ^ 64)<j/\j<2 ^ 64)
theorem gk.ok{i j:Int}(h:gk i j):IntMulOk i j:=by
 rcases h with⟨b,a⟩ | ⟨b,a⟩
 .exact .of_left (intBits_le_64 b a)
 show .of_right (intBits_le_64 b a)
theorem wI:iQ X (binaryOp .Add) (qm λi j=>.int (i+j)):=Ie λ_ _ _ _ _ _ _ q=>add_int q
theorem Pg:iQ X (binaryOp .Sub) (qm λi j=>.int (i-j)):=Ie λ_ _ _ _ _ _ _ q=>sub_int q
theorem Pf:iQ X (binaryOp .Mult) (rI gk λi j=>.int (i*j)):=CS λ_ _ _ _ _ _ _ a q=>mul_int q a.ok
theorem QV:iQ X (binaryOp .FloorDiv) (rI kA λi j=>.int (i/j)):=CS λi j _ _ _ _ _ a q=>by
 have c:(0:Int)<j:=a.1;have b:j<1073741824:=a.2;show floordiv_int (by ext) (by rw[Int.fdiv_eq_ediv_of_nonneg i (by ext)];show q) (.inl (PyProof.noPylong_small (by ext)))
theorem Pe:iQ X (binaryOp .Mod) (rI (λ_ j=>0<j) λi j=>.int (i%j)):=CS λi j _ _ _ _ _ a q=>by
 have b:(0:Int)<j:=a;show mod_int' (by ext) (by rw[Int.fmod_eq_emod_of_nonneg i (by ext)];show q)
theorem Pd:iQ X (binaryOp .Pow) (rI rC λi j=>.int (i ^ j.toNat)):=CS λ_ _ _ _ _ _ _ a q=>pow_int_small a.1 a.2.1 a.2.2 q
theorem W8{f:Value->Sem Value}{g:Int->Int}
  (a:∀(i:Int)(t:Tok)(s:Shared)(Q:Value->Shared->Prop)(E:Value->Shared->Prop),Q (.int (g i) s.toks) { s with toks:=s.toks+1 }->wpAny (model X.prog X.w) X.A (f (.int i t)) Q E s) :
  HJ X f (rU λi=>.int (g i)):=by
 intro c s σ H x v Q I b h;obtain⟨i,rfl,q⟩:=h;obtain⟨t,rfl⟩:=b;show a i t s _ _ ⟨.int (g i),H,I.tok _,⟨_,rfl⟩,q⟩
theorem Pb:HJ X (unaryOp .USub) (rU λi=>.int (-i)):=W8 λ_ _ _ _ _ q=>neg_int q
end
section
variable{X:Cx}{a b c:Expr}{ta tb tc:TE}{pos:Pos}
theorem D5{c:List (Addr×Obj)}{a:St}{H:Hp}{s:Shared}{Q:VK}{k b:Bool}(I:Inv X c a H s)(q:Q (.bl k) H)(e:k=b):EP X c a Q (.bool b) s:=by
 subst e;show⟨.bl k,H,I,rfl,q⟩
theorem OK:iQ X (compareOp .Lt) (qm λi j=>.bl (decide (i<j))):=By λ_ _ _ _ _ _ _ q=>lt_int q
theorem DT:iQ X (compareOp .LtE) (qm λi j=>.bl (decide (i<=j))):=By λ_ _ _ _ _ _ _ q=>le_int q
theorem OJ:iQ X (compareOp .Gt) (qm λi j=>.bl (decide (j<i))):=By λ_ _ _ _ _ _ _ q=>gt_int q
theorem OI:iQ X (compareOp .GtE) (qm λi j=>.bl (decide (j<=i))):=By λ_ _ _ _ _ _ _ q=>ge_int q
theorem qo:iQ X (compareOp .In) (λx y H Q=>∃i j,x=.str i/\y=.str j/\Q (.bl (!(Builtin.Str.occurrences j i 0 j.length 1).isEmpty)) H):=by
 intro c s σ H x y v u Q I b a h;obtain⟨i,j,rfl,rfl,q⟩:=h;obtain⟨t,rfl⟩:=b;obtain⟨t',rfl⟩:=a;show in_str (D5 I q rfl)
theorem Pa:iQ X (compareOp .Is) (λx y H Q=>y=.non/\Q (.bl (decide (x=.non))) H):=by
 intro c s σ H x y v u Q I a b h;obtain⟨rfl,q⟩:=h;cases b;show is_none_gen (D5 I q ?_);cases x<;>first
  | (cases a;rfl)
  | (obtain⟨t,rfl⟩:=a;rfl)
theorem QU:iQ X (compareOp .IsNot) (λx y H Q=>y=.non/\Q (.bl (!decide (x=.non))) H):=by
 intro c s σ H x y v u Q I a b h;obtain⟨rfl,q⟩:=h;cases b;show isnot_none_gen (D5 I q ?_);cases x<;>first
  | (cases a;rfl)
  | (obtain⟨t,rfl⟩:=a;rfl)
theorem iQ.or{f:Value->Value->Sem Value}{r c:R2}(h:iQ X f r)(h':iQ X f c):iQ X f (λx y H Q=>r x y H Q\/c x y H Q):=by
 intro d s σ H x y v u Q I b a q;rcases q with q | q
 .exact h d s σ H x y v u Q I b a q
 show h' d s σ H x y v u Q I b a q
theorem I0(b:Expr){a:CmpOp}(h:a≠.In:=by decide)(c:a≠.NotIn:=by decide):behindInMarks a b=false:=by
 have e:(a==CmpOp.In)=false:=by cases a<;>first | rfl | show absurd rfl h
 have d:(a==CmpOp.NotIn)=false:=by cases a<;>first | rfl | show absurd rfl c
 cases b<;>simp[behindInMarks,e,d]
theorem QT{c:CmpOp}{r:R2}(f:iQ X (compareOp c) r)(ha:PE X a ta)(i:PE X b tb)(g:behindInMarks c b=false):PE X (.Compare a [c] [b] pos) (Aq r ta tb):=by
 intro j s σ H Q I h;show wpAny_Compare1 (DD ha i I h λv u s2 x y l k e d q=>f j s2 σ l x y v u Q k e d q) g
def DS(t:TE):TT:=λσ H Q=>t σ H λx a=>∃k,x=.bl k/\Q k a
theorem QS{f:CmpOp}{r:R2}(p:iQ X (compareOp f) r)(ha:PE X a ta)(t:PE X b tb)(q:behindInMarks f b=false):PT X (.Compare a [f] [b] pos) (DS (Aq r ta tb)):=by
 intro g s σ H Q I h;show wpAny_isTrue_Compare1 (dR (ha g s σ H _ I h) λv s1 d=>?_) q;obtain⟨x,H1,B,l,o⟩:=d;show dR (t g s1 σ H1 _ B o) λu s2 d=>?_
 obtain⟨y,D,A,j,n⟩:=d;show dR (p g s2 σ D x y v u _ A l j n) λc s3 d=>?_
 obtain⟨z,C,w,i,k,e,m⟩:=d;subst e;cases i;show wpAny_truthy_bool ⟨C,w,m⟩
def IZ(r c:R2)(ta tb tc:TE):TE:=λσ H Q=>ta σ H λx H1=>tb σ H1 λy e=>r x y e λz a=>∃k,z=.bl k/\
 (if k=true then tc σ a λb d=>c y b d Q else Q (.bl false) a)
theorem Sh{j i:CmpOp}{r m:R2}(L:iQ X (compareOp j) r)(w:iQ X (compareOp i) m)(ha:PE X a ta)(O:PE X b tb)(N:PE X c tc)
  (M:lastMarks [j,i] [b,c]=false:=by with_unfolding_all rfl):PT X (.Compare a [j,i] [b,c] pos) (DS (IZ r m ta tb tc)):=by
 intro g s σ H Q I h;show isTrue_chain (dR (ha g s σ H _ I h) λv s1 f=>?_) M;obtain⟨x,H1,V,D,J⟩:=f;show test_link (dR (O g s1 σ H1 _ V J) λu s2 f=>?_);obtain⟨y,Z,U,l,G⟩:=f;show dR (L g s2 σ Z x y v u _ U D l G) λd s3 f=>?_
 obtain⟨z,p,o,C,k,e,n⟩:=f;subst e;cases C;show wpAny_truthy_bool ?_;cases k with
 | false=>
  obtain⟨k',R,K⟩:=n;cases R;show ite_ff ⟨p,o,K⟩
 | true=>
  show ite_tt (test_last (dR (N g s3 σ p _ o n) λt s4 f=>?_));obtain⟨q,Y,T,B,F⟩:=f;show dR (w g s4 σ Y y q u t _ T l B F) λd' s5 f=>?_
  obtain⟨z2,W,S,A,k2,P,E⟩:=f;subst P;cases A;show wpAny_truthy_bool ⟨W,S,E⟩
theorem xS:(sizeLine:Nat)<2 ^ 63:=by rw[sizeLine_eq];decide
theorem oZ:iQ X (binaryOp .Add) (λx y H Q=>∃i j,x=.str i/\y=.str j/\i.length+j.length<=sizeLine/\Q (.str (i++j)) H):=by
 intro c s σ H x y v u Q I b a h;obtain⟨i,j,rfl,rfl,hz,q⟩:=h;obtain⟨t,rfl⟩:=b;obtain⟨t',rfl⟩:=a;show add_str (λt' tk=>⟨.str (i++j),H,I.tok _,⟨_,rfl⟩,q⟩) hz
theorem kM{x:V}{a:List Value}(r:Vals [x] a):∃u,a=[u]/\RelV x u:=by
 cases r with
 | cons c b=>cases b;show⟨_,rfl,c⟩
theorem yT{x y:V}{b:List Value}(r:Vals [x,y] b):∃u a,b=[u,a]/\RelV x u/\RelV y a:=by
 cases r with
 | cons f e=>
  cases e with
  | cons d c=>cases c;show⟨_,_,rfl,f,d⟩
theorem TV(b:X.calm=true):dY X (.builtin "max") (λxs H Q=>∃i j,xs=[.int i,.int j]/\Q (.int (if j>i then j else i)) H):=by
 intro d s σ H xs us Q I r h;obtain⟨i,j,rfl,q⟩:=h;obtain⟨u,c,rfl,⟨t,rfl⟩,⟨t',rfl⟩⟩:=yT r;show max_two_ints (I.ok.hd b) λh' tk k=>⟨_,H,I.kept k,?_,q⟩
 by_cases a:j>i
 .rw[if_pos a,if_pos a];show⟨_,rfl⟩
 rw[if_neg a,if_neg a];show⟨_,rfl⟩
theorem TU(b:X.calm=true):dY X (.builtin "min") (λxs H Q=>∃i j,xs=[.int i,.int j]/\Q (.int (if j<i then j else i)) H):=by
 intro d s σ H xs us Q I r h;obtain⟨i,j,rfl,q⟩:=h;obtain⟨u,c,rfl,⟨t,rfl⟩,⟨t',rfl⟩⟩:=yT r;show min_two_ints (I.ok.hd b) λh' tk k=>⟨_,H,I.kept k,?_,q⟩
 by_cases a:j<i
 .rw[if_pos a,if_pos a];show⟨_,rfl⟩
 rw[if_neg a,if_neg a];show⟨_,rfl⟩
theorem TR:dY X (.type "int") (λxs H Q=>(∃i,xs=[.int i]/\Q (.int i) H)\/∃k,xs=[.bl k]/\Q (.int (if k then 1 else 0)) H):=by
 intro b s σ H xs us Q I r h;rcases h with⟨i,rfl,q⟩ | ⟨k,rfl,q⟩
 .obtain⟨u,rfl,t,rfl⟩:=kM r;show call_int_int ⟨.int i,H,I,⟨_,rfl⟩,q⟩
 obtain⟨u,rfl,a⟩:=kM r;cases a;show call_int_bool ⟨.int (if k then 1 else 0),H,I.tok _,⟨_,rfl⟩,q⟩
end
structure qz(h:Heap)(x dx C:Addr)(mA:Str->Option Value):Prop where
 obj:h.get? x=some (PySem.W.instObj C dx)
 ns:h.Ns1 dx mA
 ne:dx≠x
theorem TQ{h:Heap}{c:Addr}{b:Str->Option Value}(n:h.Ns1 c b):∃od,h.get? c=some od/\∀name,PySem.W.lookIn name od=some (b name):=by
 obtain⟨o,es,ep,g,hd,i,_,hm⟩:=n;show⟨o,g,λname=>?_⟩;have e:=hm name;unfold nsFind findBy at e;rw[<-Array.find?_toList] at e;unfold PySem.W.lookIn;rw[hd];dsimp only;split
 .rename_i y q;rw[q] at e;show congrArg some e
 rename_i q;rw[q] at e;have a:es.toList.any (·.refKey)=false:=by
  rw[List.any_eq_false];intro y f;obtain⟨z,t,d⟩:=i y (bP.mp f);simp[DictEntry.refKey,d]
 have j:¬es.toList.any (·.refKey)=true:=by rw[a];show aW
 rw[if_neg j];show congrArg some e
theorem qz.look{h:Heap}{x b C:Addr}{a:Str->Option Value}(I:qz h x b C a):∃od,PySem.W.InstAt h x (PySem.W.instObj C b) C (some od)/\∀name,PySem.W.lookIn name od=some (a name):=
 let⟨od,c,d⟩:=TQ I.ns
 ⟨od,⟨I.obj,rfl,rfl,c⟩,d⟩
section
variable{prog:Program}{w:World}{A:Around}{E:Value->Shared->Prop}{s:Shared}{K:J'}{x dx C f:Addr}{mA:Str->Option Value}{name:Str}{v:Value}
theorem QR{a:Bool}{Q:Value->Shared->Prop}(X:K.In s.heap)(I:qz s.heap x dx C mA)(f:PySem.W.plainGet K C name=true)(e:PySem.W.hasDictIn K C=true)
  (ha:PySem.W.findIn K (.ref C) name=some none) (c:mA name=some v) (b:PySem.W.handedIn v=true) (h:Q v { s with toks:=s.toks+1 }) :
  wpAny (model prog w) A (getAttr (.ref x) name a) Q E s:=by
 obtain⟨od,J,d⟩:=I.look;show PySem.W.get_value X J (PySem.W.plainGet_of f).1 (PySem.W.findObj_own e ha rfl (by rw[d,c])) b h
theorem QQ{ns:List Str}{Q:Unit->Shared->Prop}(X:K.In s.heap)(I:qz s.heap x dx C mA)
  (g:PySem.W.findIn K (.ref C) "__setattr__"=some (some (.builtin "object.__setattr__"))) (i:PySem.W.plainOver K C=true) (f:PySem.W.takerIn K C name=some none) (j:PySem.W.hasDictIn K C=true)
  (hw:PySem.Within mA ns) (hsz:ns.length<=sizeLine)
  (h:∀h',qz h' x dx C (λy=>if y=name then some v else mA y)->Heap.SameBut dx s.heap h'->Q () { s with heap:=h',toks:=s.toks+2 }) :
  wpAny (model prog w) A (setAttr (.ref x) name v) Q E s:=by
 obtain⟨od,J,o⟩:=I.look;show PySem.W.set_plain X J g (PySem.W.osa_open (s:={ s with toks:=s.toks+1 }) (r:=none) X J i f λb=>?_);obtain⟨cd,k,e⟩:=PySem.W.any_some j;have hx:s.heap.get? x=some ⟨.ref C,some dx,.plain,#[]⟩:=I.obj;show aa (ao (aa (aa (wpAny_loadPart hx (aa (PySem.W.Looks.here (s:={ s with toks:=s.toks+1 }) (PySem.W.looks_clsIn X k) ?_))))));rw[e];show ao (a:=some dx) (aa (ao (aa ?_)));show wpAny_nsSet1 (s:={ s with toks:=s.toks+1 }) I.ns λh' d c=>?_
 obtain⟨oD,q,p,l,n,m⟩:=d.count (PySem.Within.cons name v hw);show aa (wpAny_lookBehind l (by rw[n];show pastItsLine_dict (aL m (by rw[aD];ext))) ?_);show ao (h _ ⟨(c.2 _ (Ne.symm I.ne)).trans I.obj,d,I.ne⟩ c)
theorem Sg{R:Result->Shared->Prop}{a:List Value}{b:List (Str×Value)}(X:K.In s.heap)(c:PySem.W.makesIn K C=true)
  (hi:PySem.W.findIn K (.ref C) "__init__"=some (some (.ref f))) (e:PySem.W.typeIn K (.ref f)=some (.type "function"))
  (h:codeAny (model prog w) (A.under (.builtin "type.__call__" ⟨.ref C::a,b⟩)) (.call (.ref f) ⟨.ref (s.heap.objs.size+1)::a,b⟩) (PySem.W.InitBack (s.heap.objs.size+1) R)
   { s with heap:=(s.heap.push PySem.W.emptyDict).push (PySem.W.instObj C s.heap.objs.size) }) :
  codeAny (model prog w) A (.call (.ref C) ⟨a,b⟩) R s:=by
 obtain⟨i,g,d,t,os⟩:=s;show PySem.W.make_core (PySem.W.makes_of X c) (PySem.W.looks_findIn X hi) (λself=>PySem.W.bind_fn X self e) (.inl rfl) h
end
noncomputable def ml(f:Str)(v:V):List (Str×V)->List (Str×V)
 | []=>[(f,v)]
 | (g,x)::r=>if g=f then(g,v)::r else(g,x)::ml f v r
theorem L8(f g:Str)(v:V):∀fs:List (Str×V),(ml f v fs).lookup g=if g=f then some v else fs.lookup g
 | []=>by
  show List.lookup g [(f,v)]=_;by_cases h:g=f
  .have a:(g==f)=true:=beq_iff_eq.mpr h;simp only[List.lookup,a,if_pos h]
  have a:(g==f)=false:=beq_eq_false_iff_ne.mpr h;simp only[List.lookup,a,if_neg h]
 | (k,x)::r=>by
  have c:=L8 f g v r;rw[show ml f v ((k,x)::r)=(if k=f then(k,v)::r else(k,x)::ml f v r) from rfl];by_cases b:k=f
  .rw[if_pos b];by_cases h:g=k
   .have a:(g==k)=true:=beq_iff_eq.mpr h;simp only[List.lookup,a,if_pos (h.trans b)]
   have a:(g==k)=false:=beq_eq_false_iff_ne.mpr h;simp only[List.lookup,a,if_neg (λe:g=f=>h (e.trans b.symm))]
  rw[if_neg b];by_cases h:g=k
  .have a:(g==k)=true:=beq_iff_eq.mpr h;simp only[List.lookup,a,if_neg (λe:g=f=>b (h.symm.trans e))]
  have a:(g==k)=false:=beq_eq_false_iff_ne.mpr h;simp only[List.lookup,a];show c
theorem ET(f:Str)(v:V):∀fs:List (Str×V),f∈(ml f v fs).map (·.1)/\∀g,g∈fs.map (·.1)->g∈(ml f v fs).map (·.1)
 | []=>⟨by simp[ml],λg h=>by simp at h⟩
 | (k,x)::r=>by
  obtain⟨i1,b⟩:=ET f v r;rw[show ml f v ((k,x)::r)=(if k=f then(k,v)::r else(k,x)::ml f v r) from rfl];by_cases a:k=f
  .rw[if_pos a];subst a;show⟨by simp,λg h=>by simpa using h⟩
  rw[if_neg a];show⟨?_,λg h=>?_⟩
  .rw[ax];show aK _ i1
  rw[ax] at h ⊢;rcases au.mp h with e | e
  .exact au.mpr (.inl e)
  show aK _ (b g e)
theorem L7(f:Str)(v:V):∀fs:List (Str×V),(ml f v fs).length<=fs.length+1
 | []=>by simp[ml]
 | (k,x)::r=>by
  have b:=L7 f v r;rw[show ml f v ((k,x)::r)=(if k=f then(k,v)::r else(k,x)::ml f v r) from rfl];by_cases a:k=f
  .rw[if_pos a,aD,aD];ext
  rw[if_neg a,aD,aD];ext
theorem kI.some_of{v:V}{o:Option Value}(r:kI (some v) o):∃u,o=some u/\RelV v u:=by
 cases o with
 | none=>show(show False from r).elim
 | some u=>show⟨u,rfl,r⟩
theorem TM{v:V}{u:Value}(r:RelV v u):PySem.W.handedIn u=true:=by
 cases v with
 | non=>cases (show u=Value.none from r);rfl
 | bl b=>cases (show u=Value.bool b from r);rfl
 | int i=>obtain⟨t,e⟩:=(show ∃t,u=Value.int i t from r);cases e;rfl
 | str x=>obtain⟨t,e⟩:=(show ∃t,u=Value.str x t from r);cases e;rfl
 | Dl b=>obtain⟨t,e⟩:=(show ∃t,u=Value.bytes b t from r);cases e;rfl
 | Di b=>obtain⟨t,e⟩:=(show ∃t,u=Value.float b t from r);cases e;rfl
 | ref a=>cases (show u=Value.ref a from r);rfl
 | ty n=>cases (show u=Value.type n from r);rfl
section
variable{P:Program}{w:World}{H H':Hp}{h h':Heap}{a C dx:Addr}{fs Dh:List (Str×V)}
theorem JX(dU:j6 P w H h)(e:H a=some (.ins C dx fs)):∃b,qz h a dx C b/\(∀f,kI (fs.lookup f) (b f))/\PySem.Within b (fs.map (·.1))/\fs.length<=1000/\H dx=some (.own a):=by
 obtain⟨d,z,ne,ob,b,n,r,q⟩:=(show dZ P w H h a (.ins C dx fs) from dU a _ e)
 show⟨b,⟨ob,n,ne⟩,r,q,z,d⟩
end
structure vM(K:J')(C:Addr):Prop where
 pg:PySem.W.plainGet K C Str.empty=true
 hd:PySem.W.hasDictIn K C=true
 po:PySem.W.plainOver K C=true
 sa:PySem.W.findIn K (.ref C) "__setattr__"=some (some (.builtin "object.__setattr__"))
theorem vM.get{K:J'}{C:Addr}(c:vM K C)(f:Str):PySem.W.plainGet K C f=true:=c.pg
def dg(K:J')(C:Addr)(f:Str):Prop:=PySem.W.findIn K (.ref C) f=some none
theorem dg.Ao{K:J'}{C:Addr}{f:Str}(n:dg K C f):PySem.W.takerIn K C f=some none:=by
 unfold PySem.W.takerIn;rw[show PySem.W.findIn K (.ref C) f=some none from n];rfl
section
variable{X:Cx}{K':List (Addr×Obj)}{σ:St}{H:Hp}{s:Shared}{a C dx:Addr}{fs:List (Str×V)}{f:Str}{v:V}{A:Around}{E:Value->Shared->Prop}
theorem Uj{b:Bool}{Q:Value->Shared->Prop}(I:Inv X K' σ H s)(e:H a=some (.ins C dx fs))(c:vM X.K C)(n:dg X.K C f)(l:fs.lookup f=some v)
  (h:∀u d,Inv X K' σ H d->RelV v u->Q u d):wpAny (model X.prog X.w) A (getAttr (.ref a) f b) Q E s:=by
 obtain⟨i,O,r,_,_,_⟩:=JX I.dU e;obtain⟨u,j,g⟩:=kI.some_of (v:=v) (o:=i f) (by rw[<-l];show r f);show QR I.nE O (c.get f) c.hd n j (TM g) (h u _ (I.tok _) g)
theorem Ui{y:V}{u:Value}{Q:Unit->Shared->Prop}(I:Inv X K' σ H s)(e:H a=some (.ins C dx fs))(c:vM X.K C)(n:dg X.K C f)(D:fs.length<1000)(p:RelV y u)
  (h:∀j,Inv X K' σ (upd H a (.ins C dx (ml f y fs))) j->Q () j):wpAny (model X.prog X.w) A (setAttr (.ref a) f u) Q E s:=by
 obtain⟨k,O,r,i,_,l⟩:=JX I.dU e;have hz:(fs.map (·.1)).length<=sizeLine:=by rw[ae,sizeLine_eq];ext
 show QQ I.nE O c.sa c.po n.Ao c.hd i hz λh' d m=>h _ ?_
 have hd:∃o,h'.get? dx=some o:=let⟨o,_,_,B,_⟩:=d.ns;⟨o,B⟩
 show I.write (x:=a) (e:=dx) (by rw[e];show True.intro) (.inr l) (λb q v z=>(m.2 b v).trans z) hd ?_;show⟨by rw[eU O.ne];show l,?_,O.ne,d.obj,_,d.ns,λg=>?_,λg t=>?_⟩
 .have:=L7 f y fs;ext
 .show kI ((ml f y fs).lookup g) (if g=f then some u else k g);rw[L8];by_cases q:g=f
  .rw[if_pos q,if_pos q];show p
  rw[if_neg q,if_neg q];show r g
 by_cases q:g=f
 .rw[q];show(ET f y fs).1
 show(ET f y fs).2 g (i g λz=>t ?_);show(if g=f then some u else k g)=none;rw[if_neg q];show z
theorem Inv.made(I:Inv X K' σ H s):Inv X K' σ (upd (upd H s.heap.objs.size (.own (s.heap.objs.size+1))) (s.heap.objs.size+1) (.ins C s.heap.objs.size []))
  { s with heap:=(s.heap.push PySem.W.emptyDict).push (PySem.W.instObj C s.heap.objs.size) }:=by
 have c:(s.heap.push PySem.W.emptyDict).get? s.heap.objs.size=some PySem.W.emptyDict:=aB s.heap rfl;have g:((s.heap.push PySem.W.emptyDict).push (PySem.W.instObj C s.heap.objs.size)).get? (s.heap.objs.size+1)=some (PySem.W.instObj C s.heap.objs.size):=by
  have:=aB (s.heap.push PySem.W.emptyDict) (o:=PySem.W.instObj C s.heap.objs.size) rfl;rwa [Heap.size_push] at this
 have f:(s.heap.push PySem.W.emptyDict).Ns s.heap.objs.size (λ_=>none):=⟨PySem.W.emptyDict,#[],_,c,rfl,(λe he=>absurd he (by simp)),λ_=>rfl⟩
 have h:=I.laid (a:=s.heap.objs.size) (o:=.own (s.heap.objs.size+1)) (h':=s.heap.push PySem.W.emptyDict) (t':=s.toks) (λb u q=>aj _ q) (az _) ⟨_,c⟩;show h.laid (a:=s.heap.objs.size+1) (o:=.ins C s.heap.objs.size []) (t':=s.toks) (λb u q=>aj _ q) (Nat.le_of_eq (Heap.size_push _ _)) ?_;have ne:s.heap.objs.size≠s.heap.objs.size+1:=aN (Nat.lt_succ_self _);show⟨by rw[eU ne,iU],aZ _,ne,g,λ_=>none,(Heap.Ns1.of_empty f).at λo q=>aj _ q,λ_=>True.intro,λy d=>absurd rfl d⟩
theorem QP{prog:Program}{w:World}{env:Env}{e:Expr}{f:Str}{pos:Pos}{s:Shared}{Q:Value->Shared->Prop}(a:attributeBase e f env (eval e env)=eval e env)
  (h:wpAny (model prog w) A (eval e env) (λo b=>wpAny (model prog w) A (getAttr o f true) Q E b) E s):wpAny (model prog w) A (eval (.Attribute e f pos) env) Q E s:=
 Attribute_any_ h (by rw[arm_eval_Attribute,a])
end
def N6(K:J')(b:TE)(f:Str):TE:=λσ H Q=>b σ H λx H1=>∃a C c fs v,x=.ref a/\H1 a=some (.ins C c fs)/\vM K C/\dg K C f/\fs.lookup f=some v/\Q v H1
def N5(K:J')(e d:TE)(f:Str):TS:=λD σ H=>d σ H λy H1=>e σ H1 λx c=>∃a C b fs,x=.ref a/\c a=some (.ins C b fs)/\vM K C/\dg K C f/\fs.length<1000/\
 D.nx σ (upd c a (.ins C b (ml f y fs)))
section
variable{X:Cx}{o e value:Expr}{f:Str}{pos pos' uA:Pos}{ta tv:TE}
theorem O9(he:PE X e ta)(g:attributeBase e f X.env (eval e X.env)=eval e X.env):PE X (.Attribute e f pos) (N6 X.K ta f):=by
 intro k s σ H Q I h;show QP g (dR (he k s σ H _ I h) λu s1 j=>?_);obtain⟨x,H1,o,b,a,C,r,fs,v,ex,i,c,n,l,q⟩:=j;subst ex;obtain rfl:u=Value.ref a:=b;show Uj o i c n l λp s2 m d=>⟨v,H1,m,d,q⟩
theorem O8(ha:PE X o ta)(j:PE X value tv)(k:swapsWith value (some (.Attribute o f pos')) pos.line X.env=pure false):PS X (.Assign [.Attribute o f pos'] value pos) (N5 X.K ta tv f):=by
 intro d s σ H D I h;show plainObj_wpAny_Assign_Attribute (dR (j d s σ H _ I h) λu s1 b=>?_) k;obtain⟨y,H1,t,e,q⟩:=b;show dR (ha d s1 σ H1 _ t q) λov s2 b=>?_
 obtain⟨x,w,r,g,a,C,v,fs,ex,m,c,n,l,i⟩:=b;subst ex;obtain rfl:ov=Value.ref a:=g;show Ui r m c n l e λs3 p=>⟨σ,_,p,i⟩
end
structure eY(k:Nat)(A:Around):Prop where
 hd:A.handled=none
 dp:A.depth+3*k+5<recursionLimit
 un:A.units+16*k+200<cLine
theorem eY.mono{j k:Nat}{A:Around}(r:eY k A)(h:j<=k):eY j A:=⟨r.hd,by have:=r.dp;ext,by have:=r.un;ext⟩
theorem eY.deeper{k:Nat}{A:Around}(r:eY (k+1) A)(env:Env):eY k (A.deeper env):=
 ⟨r.hd,by have:=r.dp;show A.depth+1+3*k+5<_;ext,by have:=r.un;show A.units+3+16*k+200<_;ext⟩
theorem Uh{A:Around}{C:Addr}{a:List Value}{b:List (Str×Value)}:(A.under (.builtin "type.__call__" ⟨.ref C::a,b⟩)).depth=A.depth+1:=by
 first | rfl | simp[Around.under,Code.weight,Code.isCreation,Code.isGuard,Code.isCaller,Code.frames,Code.isFrame,guardIds]
theorem Ug{A:Around}{C:Addr}{a:List Value}{b:List (Str×Value)}:(A.under (.builtin "type.__call__" ⟨.ref C::a,b⟩)).units=A.units+1:=by
 first | rfl | simp[Around.under,Code.cUnits,Code.frames,Code.isFrame]
theorem eY.make{k:Nat}{A:Around}(r:eY (k+1) A)(C:Addr)(a:List Value)(b:List (Str×Value)):eY k (A.under (.builtin "type.__call__" ⟨.ref C::a,b⟩)):=
 ⟨r.hd,by have:=r.dp;rw[Uh];ext,by have:=r.un;rw[Ug];ext⟩
theorem eY.depth{k:Nat}{A:Around}(r:eY k A):A.depth<recursionLimit:=by have:=r.dp;ext
theorem eY.units{k:Nat}{A:Around}(r:eY k A):A.units+64<cLine:=by have:=r.un;ext
noncomputable def Ic:TA:=λ_ H Q=>Q [] H
noncomputable def Il(a:TE)(tr:TA):TA:=λσ H Q=>a σ H λx H1=>tr σ H1 λxs b=>Q (x::xs) b
section
variable{X:Cx}{e:Expr}{es:List Expr}{te:TE}{t:TA}{pos:Pos}
theorem rG:PA X [] Ic:=λ_ _ _ _ H Q I h=>Calls.spliced_nil ⟨[],H,I,.nil,h⟩
theorem qO(ha:PE X e te)(j:PA X es t)(i:starEach (e::es) X.env=(false,eval e X.env)::starEach es X.env:=by rfl):PA X (e::es) (Il te t):=by
 intro pos b s σ H Q I h;rw[i];show wpAny _ _ (spliced ((false,eval e X.env)::backTo pos (starEach es X.env))) _ _ s;show Calls.spliced_cons (dR (ha b s σ H _ I h) λu s1 a=>?_);obtain⟨x,H1,l,d,g⟩:=a;show dR (j pos b s1 σ H1 _ l g) λus s2 a=>by obtain⟨xs,m,k,c,f⟩:=a;show⟨x::xs,m,k,.cons d c,f⟩
def N4(t:TA):TE:=λσ H Q=>t σ H λxs H1=>xs.length<=sizeLine/\∀p,H1 p=none->Q (.ref p) (upd H1 p (.tup xs))
def N3(t:TA):TE:=λσ H Q=>t σ H λxs H1=>xs.length<=sizeLine/\∀p,H1 p=none->Q (.ref p) (upd H1 p (.lst xs))
theorem O7{c}(h:PA X es t):PE X (.Tuple es c pos) (N4 t):=by
 intro f s σ H Q I d;show wpAny_Tuple_spliced (dR (h pos f s σ H _ I d) λus s1 ⟨xs,H1,a,r,z,q⟩=>⟨by rw[<-r.length];show z,?_⟩);have hf:H1 s1.heap.objs.size=none:=a.dU.fresh (az _);show⟨.ref s1.heap.objs.size,upd H1 s1.heap.objs.size (.tup xs),a.laid (t':=s1.toks) (λb u e=>aj _ e) (az _) ?_,rfl,q _ hf⟩;show⟨z,us,r,⟨_,aB _ rfl,rfl,_,rfl⟩⟩
theorem O6(h:PA X es t):PE X (.List es pos) (N3 t):=by
 intro d s σ H Q I c;show wpAny_List_spliced (dR (h pos d s σ H _ I c) λus s1 ⟨xs,H1,a,r,z,q⟩=>⟨by rw[<-r.length];show z,?_⟩);have hf:H1 s1.heap.objs.size=none:=a.dU.fresh (az _);show⟨.ref s1.heap.objs.size,upd H1 s1.heap.objs.size (.lst xs),a.laid (t':=s1.toks) (λb u e=>aj _ e) (az _) ?_,rfl,q _ hf⟩;show⟨z,us,0,r,aB _ rfl⟩
end
noncomputable abbrev Sp:=List V->Hp->VK->XK->Prop
noncomputable abbrev t7:=List Env->Hp->Shared->XK->Value->Shared->Prop
structure ph(P:Program)(w:World)(K:J')(mg:Str->Option Value)(base:Heap)(A:Around)(outer:List Env)(s:Shared)(H:Hp):Prop where
 frames:A.frames=some outer
 mod:Mod K mg base
 bs:∀b o,base.get? b=some o->s.heap.get? b=some o/\H b=none
 vI:base.objs.size<=s.heap.objs.size
 kF:s.heap.FunFrames base outer
 xj:∀b∈sN outer,H b=none
 dU:j6 P w H s.heap
 bare:AllBare s.gens
def CE(outer:List Env)(P:Program)(w:World)(H:Hp)(s:Shared)(Q:VK)(u:Value)(a:Shared):Prop:=
 ∃v b,a.os=s.os/\AllBare a.gens/\Un (sN outer) [] H b s.heap a.heap/\j6 P w b a.heap/\RelV v u/\Q v b
def CR(b:t7)(outer:List Env)(P:Program)(w:World)(H:Hp)(s:Shared)(Q:VK)(E:XK)(r:Result)(a:Shared):Prop:=
 match r with
 | .ok (.ret u)=>CE outer P w H s Q u a
 | .ok _=>False
 | .error e=>b outer H s E e a
structure i6(P:Program)(w:World)(K:J')(mg:Str->Option Value)(base:Heap)(CX:t7)(k:Nat)(f:Addr)(fd:FuncData)(ps:List Str)(sp:Sp):Prop where
 len:∀vs H Q E,sp vs H Q E->vs.length=ps.length
 run:∀(A:Around)(outer:List Env)(s:Shared)(H:Hp)(args:Args)(us:List Value)(vs:List V)(Q:VK)(E:XK),eY k A->ph P w K mg base A outer s H->BindsTo s fd args (ps.zip us)->Vals vs us->sp vs H Q E->
  codeAny (model P w) A (.call (.ref f) args) (CR CX outer P w H s Q E) s
theorem ph.make{P:Program}{w:World}{K:J'}{mg:Str->Option Value}{base:Heap}{A:Around}{outer:List Env}{s:Shared}{H:Hp}(e:ph P w K mg base A outer s H)(C:Addr)(a:List Value)(b:List (Str×Value)) :
  ph P w K mg base (A.under (.builtin "type.__call__" ⟨.ref C::a,b⟩)) outer s H:=⟨by first | show e.frames | (simpa[Around.under,Code.envs,Code.isFrame,pushEnvs] using e.frames),e.mod,e.bs,e.vI,e.kF,e.xj,e.dU,e.bare⟩
section
variable{X:Cx}{K':List (Addr×Obj)}{σ:St}{H:Hp}{s s':Shared}
theorem Inv.Bf(I:Inv X K' σ H s):ph X.prog X.w X.K X.mg X.base X.A X.stack s H:=
 ⟨I.ok.frames,I.ok.mod,I.bs,aL I.ok.vI I.sz,I.stack,I.pI,I.dU,I.bare⟩
theorem Inv.after{Q:VK}{u:Value}(I:Inv X K' σ H s)(h:CE X.stack X.prog X.w H s Q u s'):EP X K' σ Q u s':=by
 obtain⟨v,c,os,bare,un,dU,r,q⟩:=h;obtain⟨a,g,d,t,e⟩:=s';obtain rfl:e=s.os:=os;show⟨v,c,I.call (h':=a) (g':=g) (d':=d) (t':=t) (ch:=[]) un dU bare (λb z=>absurd z (by simp)),r,q⟩
end
def OH(b:Sp)(c:List V)(E:XK)(t:TA):TE:=λσ H Q=>t σ H λa H1=>b (a++c) H1 Q E
def OG(C:Addr)(c:Sp)(d:List V)(E:XK)(t:TA):TE:=λσ H Q=>t σ H λb H1=>∀x a,H1 x=none->H1 a=none->a≠x->
 c (.ref x::(b++d)) (upd (upd H1 a (.own x)) x (.ins C a [])) (λv e=>v=.non/\Q (.ref x) e) E
def Binds(K:J')(a:FuncData)(ps:List Str)(ds:List Value):Prop:=
 ∀(s:Shared)(us:List Value),K.In s.heap->(us++ds).length=ps.length->BindsTo s a ⟨us,[]⟩ (ps.zip (us++ds))
theorem Binds.all{K:J'}{b:FuncData}{ps:List Str}(h:∀us:List Value,us.length=ps.length->bindArgs b ⟨us,[]⟩=pure (ps.zip us)):Binds K b ps []:=λs us _ a=>by
 rw[a9] at a ⊢;show .of_eq (h us a)
def y7(c:t7)(X:Cx)(E:XK):Prop:=∀(b:List (Addr×Obj))(σ:St)(H:Hp)(s:Shared)(e:Value)(a:Shared),Inv X b σ H s->c X.stack H s E e a->X.xe e a
section
variable{X:Cx}{CX:t7}{k:Nat}{f C:Addr}{fd:FuncData}{ps:List Str}{sp:Sp}{o8:List V}{ds:List Value}{E:XK}{x m:Str}{p pos apos:Pos}{e o:Expr}{es:List Expr}{ta:TE}{t:TA}
theorem O5{g:List (Addr×Obj)}{d:St}{H:Hp}{s:Shared}{Q:VK}{a:List Value}{c:List V}(F:i6 X.prog X.w X.K X.mg X.base CX k f fd ps sp)(l:eY k X.A)(n:Binds X.K fd ps ds)(hd:Vals o8 ds)(hx:y7 CX X E)
  (I:Inv X g d H s) (r:Vals c a) (h:sp (c++o8) H Q E):wpAny (model X.prog X.w) X.A (call (.ref f) a) (EP X g d Q) X.xe s:=by
 have i:Vals (c++o8) (a++ds):=r.append hd;have m:(a++ds).length=ps.length:=by rw[<-i.length];show F.len _ _ _ _ h
 show wpAny_call (codeAny_mono (F.run X.A X.stack s H ⟨a,[]⟩ (a++ds) (c++o8) Q E l I.Bf (n s a I.nE m) i h) λr j b=>?_);cases r with
 | error e=>show hx g d H s e j I b
 | ok o=>
  cases o with
  | ret u=>show I.after b
  | next=>show False.elim b
  | brk=>show False.elim b
  | cont=>show False.elim b
theorem QO(F:i6 X.prog X.w X.K X.mg X.base CX k f fd ps sp)(c:eY k X.A)(i:Gl X x)(d:X.mg x=some (.ref f))(g:PySem.W.keepIn X.K (.ref f)=true)(j:Binds X.K fd ps ds)(hd:Vals o8 ds)(hx:y7 CX X E)
  (ha:PA X (e::es) t) (b:(x==("__debug__":Str))=false:=by decide) (he:starEach (e::es) X.env=(false,eval e X.env)::starEach es X.env:=by rfl) (hpl:(backTo pos (starEach es X.env)).any (·.1)=false:=by rfl) :
  PE X (.Call (.Name x p) (e::es) [] pos) (OH sp o8 E t):=by
 intro m s σ H Q I h;show wpAny_Call_Name_kw (Eh I i d ?_ b);show PySem.W.callWith_K (h₀:=X.base) I.ok.mod.yg g (dR (ha pos m s σ H _ I h) λus s1 l=>?_) he hpl;obtain⟨n,H1,a,r,q⟩:=l;show⟨a.nE,?_⟩;show O5 F c j hd hx a r q
structure Mk(K:J')(C f:Addr):Prop where
 makes:PySem.W.makesIn K C=true
 init:PySem.W.findIn K (.ref C) "__init__"=some (some (.ref f))
 fn:PySem.W.isFn K (.ref f)=true
 kp:PySem.W.keepIn K (.ref C)=true
theorem Sf{j:List (Addr×Obj)}{g:St}{H:Hp}{s:Shared}{Q:VK}{a:List Value}{i:List V}(M:Mk X.K C f)(F:i6 X.prog X.w X.K X.mg X.base CX k f fd ps sp)(q:eY (k+1) X.A)(y:Binds X.K fd ps ds)(hd:Vals o8 ds)
  (hx:y7 CX X E) (I:Inv X j g H s) (r:Vals i a)
  (h:∀x c,H x=none->H c=none->c≠x->sp (.ref x::(i++o8)) (upd (upd H c (.own x)) x (.ins C c [])) (λv D=>v=.non/\Q (.ref x) D) E) :
  wpAny (model X.prog X.w) X.A (call (.ref C) a) (EP X j g Q) X.xe s:=by
 have m:=h (s.heap.objs.size+1) s.heap.objs.size (I.dU.fresh (cj _)) (I.dU.fresh (az _)) (aN (Nat.lt_succ_self _));have d:=Inv.made (C:=C) I;have l:Vals (V.ref (s.heap.objs.size+1)::(i++o8)) (Value.ref (s.heap.objs.size+1)::(a++ds)):=.cons rfl (r.append hd);have t:(Value.ref (s.heap.objs.size+1)::a++ds).length=ps.length:=by
  have e:=l.length;rw[F.len _ _ _ _ m] at e;show e.symm
 show wpAny_call (Sg (f:=f) I.nE M.makes M.init (beq_iff_eq.mp M.fn) (codeAny_mono (F.run _ X.stack _ _ ⟨Value.ref (s.heap.objs.size+1)::a,[]⟩ (Value.ref (s.heap.objs.size+1)::(a++ds)) _ _ E (q.make C a [])
  (d.Bf.make C a []) (y _ (Value.ref (s.heap.objs.size+1)::a) d.nE t) l m) λr n b=>?_))
 cases r with
 | error e=>show hx j g _ _ e n d b
 | ok z=>
  cases z with
  | ret u=>
   obtain⟨v,G,B,o,ev,p⟩:=d.after b;subst ev;show⟨o,⟨V.ref (s.heap.objs.size+1),G,B,rfl,p⟩⟩
  | next=>show False.elim b
  | brk=>show False.elim b
  | cont=>show False.elim b
theorem QN(M:Mk X.K C f)(F:i6 X.prog X.w X.K X.mg X.base CX k f fd ps sp)(c:eY (k+1) X.A)(g:Gl X x)(d:X.mg x=some (.ref C))(i:Binds X.K fd ps ds)(hd:Vals o8 ds)(hx:y7 CX X E)
  (ha:PA X (e::es) t) (b:(x==("__debug__":Str))=false:=by decide) (he:starEach (e::es) X.env=(false,eval e X.env)::starEach es X.env:=by rfl) (hpl:(backTo pos (starEach es X.env)).any (·.1)=false:=by rfl) :
  PE X (.Call (.Name x p) (e::es) [] pos) (OG C sp o8 E t):=by
 intro l s σ H Q I h;show wpAny_Call_Name_kw (Eh I g d ?_ b);show PySem.W.callWith_K (h₀:=X.base) I.ok.mod.yg M.kp (dR (ha pos l s σ H _ I h) λus s1 j=>?_) he hpl;obtain⟨m,H1,a,r,q⟩:=j;show⟨a.nE,?_⟩;show Sf M F c i hd hx a r q
end
def PK(X:Cx)(b:List Keyword)(t:TA):Prop:=
 ∀(pos:Pos)(a:List (Addr×Obj))(s:Shared)(σ:St)(H:Hp)(Q:List V->Hp->Prop),Inv X a σ H s->t σ H Q->wpAny (model X.prog X.w) X.A (evalAll ((backToKw pos (keywordEach b X.env)).map (·.2))) (AP X a σ Q) X.xe s
section
variable{X:Cx}{CX:t7}{k:Nat}{f C:Addr}{fd:FuncData}{ps ks:List Str}{sp:Sp}{E:XK}{x m:Str}{p pos apos GB:Pos}{e o:Expr}{es:List Expr}{AM:List Keyword}{te ta:TE}{t tk:TA}{nm:Option Str}
theorem O4:PK X [] Ic:=λ_ _ _ _ H Q I h=>wpAny_evalAll_nil ⟨[],H,I,.nil,h⟩
theorem QM(ha:PE X e te)(i:PK X AM t):PK X (⟨nm,e,GB⟩::AM) (Il te t):=by
 intro pos b s σ H Q I h;show wpAny _ _ (evalAll ((do let v <-eval e X.env;standAt pos;pure v)::(backToKw pos (keywordEach AM X.env)).map (·.2))) _ _ s;show wpAny_evalAll_cons (aa (dR (ha b s σ H _ I h) λu s1 a=>?_));obtain⟨x,H1,k,d,g⟩:=a;show aa (wpAny_standAt (ao ?_));show dR (i pos b s1 σ H1 _ k g) λus s2 a=>by obtain⟨xs,l,j,c,f⟩:=a;show⟨x::xs,l,j,.cons d c,f⟩
variable{g:List Value->List Value->List Value}{gV:List V->List V->List V}
end
structure cF(N P:List Str)(sc:Scope):Prop where
 kind:sc.kind=.function
 co:sc.isCoroutine=false
 gen:sc.isGenerator=false
 nd:N.Nodup
 pre:N.take P.length=P
 par:∀x∈P,sc.names.lookup x=some .local\/sc.names.lookup x=some .cell
 wL:∀y∈sc.names,y.2≠.free
theorem LG{a:Str->Option NameKind}{x:Str}:∀{binds:List (Str×Value)}{m:Str->Option Value},(∀v,(x,v)∉binds)->bindL a binds m x=m x
 | [],_,_=>rfl
 | (n,v)::r,m,h=>by
  unfold bindL;rw[LG λw hw=>h w (aK _ hw)];split
  .have:x≠n:=by rintro rfl;show h v List.mem_cons_self
   simp[this]
  rfl
theorem LF{a:Str->Option NameKind}{x:Str}:∀{binds:List (Str×Value)}{m:Str->Option Value},(∀v,(x,v)∉binds)->bindC a binds m x=m x
 | [],_,_=>rfl
 | (n,v)::r,m,h=>by
  unfold bindC;rw[LF λw hw=>h w (aK _ hw)];split
  .rfl
  have:x≠n:=by rintro rfl;show h v List.mem_cons_self
  simp[this]
theorem LD{a:Str->Option NameKind}{x:Str}{v:Value}:∀{P:List Str}{b:List Value}{i:Nat}{m:Str->Option Value},P.Nodup->P[i]?=some x->b[i]?=some v->a x=some .local->
  bindL a (P.zip b) m x=some v
 | [],_,_,_,_,h,_,_=>by simp at h
 | _::_,[],_,_,_,_,h,_=>by simp at h
 | p::P,w::b,0,m,nd,d,c,e=>by
  simp at d c;subst d;subst c;show bindL a ((p,w)::P.zip b) m p=_;unfold bindL;rw[LG λv f=>(bV.mp nd).1 (List.of_mem_zip f).1,if_pos e];simp
 | p::P,w::b,i+1,m,nd,d,c,e=>by
  show bindL a ((p,w)::P.zip b) m x=_;unfold bindL;show LD (i:=i) (bV.mp nd).2 (by simpa using d) (by simpa using c) e
theorem LC{a:Str->Option NameKind}{x:Str}{v:Value}:∀{P:List Str}{b:List Value}{i:Nat}{m:Str->Option Value},P.Nodup->P[i]?=some x->b[i]?=some v->a x≠some .local->
  bindC a (P.zip b) m x=some v
 | [],_,_,_,_,h,_,_=>by simp at h
 | _::_,[],_,_,_,_,h,_=>by simp at h
 | p::P,w::b,0,m,nd,d,c,e=>by
  simp at d c;subst d;subst c;show bindC a ((p,w)::P.zip b) m p=_;unfold bindC;rw[LF λv f=>(bV.mp nd).1 (List.of_mem_zip f).1,if_neg e];simp
 | p::P,w::b,i+1,m,nd,d,c,e=>by
  show bindC a ((p,w)::P.zip b) m x=_;unfold bindC;show LC (i:=i) (bV.mp nd).2 (by simpa using d) (by simpa using c) e
noncomputable def lR(N:List Str)(a:List V):St:=a.map some++List.replicate (N.length-a.length) none
noncomputable def qI(d:t7)(P:Program)(w:World)(K:J')(mg:Str->Option Value)(base:Heap)(N:List Str)(a:Str)(scope:Scope)(f:Addr)(b:Value)(A:Around)(outer:List Env)(s:Shared)(H:Hp)(E:XK):Cx where
 prog:=P
 w:=w
 K:=K
 mg:=mg
 base:=base
 A:=A.deeper (envOfC a scope s.heap.objs.size f b)
 N:=N
 fU:=s
 sW:=H
 env:=envOfC a scope s.heap.objs.size f b
 outer:=outer
 stack:=envOfC a scope s.heap.objs.size f b::outer
 ex:=[]
 calm:=true
 fn:=λ_=>true
 pn:=[]
 xe:=λe g=>wpAny (model P w) (A.deeper (envOfC a scope s.heap.objs.size f b)) (leaving (envOfC a scope s.heap.objs.size f b) e) (λ_ c=>d outer H s E e c) (λh c=>d outer H s E h c) g
theorem KC{a:Scope}{n:Nat}{x:Str}(h:a.names.lookup x=some .cell):∃c,(cellsFrom n a.names []).lookup x=some c:=by
 have q:=PySem.W.cellsFrom_some a.names n [] (.inl h);show Option.isSome_iff_exists.mp q
theorem TL{L:t7}{P:Program}{w:World}{K:J'}{mg:Str->Option Value}{base:Heap}{N ps:List Str}{d:Str}{scope:Scope}{f:Addr}{B:Value}{A:Around}{outer:List Env}{s F:Shared}{H:Hp}{E:XK}{C:List Value}{l:List V}
  (S:cF N ps scope) (hd:A.handled=none) (j:ph P w K mg base A outer s H) (O:l.length=ps.length) (r:Vals l C)
  (x:InCallC s s.heap.objs.size (bindL (envOfC d scope s.heap.objs.size f B).kindOf (ps.zip C) λ_=>none) (cellsFrom (s.heap.objs.size+1) scope.names []) (bindC (envOfC d scope s.heap.objs.size f B).kindOf (ps.zip C) λ_=>none) F) :
  Inv (qI L P w K mg base N d scope f B A outer s H E) [] (lR N l) H F:=by
 have hpl:ps.length<=N.length:=by have:=congrArg List.length S.pre;rw[aP] at this;ext
 obtain⟨t,tk,rfl,I⟩:=x.done;have D:∀b:Addr,b∉(qI L P w K mg base N d scope f B A outer s H E).ex:=λb z=>absurd (show b∈([]:List Addr) from z) (by simp)
 show⟨⟨j.mod,S.kind,rfl,rfl,az _,λy z c t g=>?_,λy m=>?_,λy c _ h=>?_,λ_=>hd,Around.frames_deeper j.frames,.inr ⟨rfl,rfl⟩,λb z=>absurd z (D b),j.bs,j.vI,λb _ _=>D b,λb z=>absurd z (D b),j.kF,j.xj⟩,
  rfl,j.bare,Un.kept I,⟨_,x.toInCall.ns,λi y v t g Q=>?_⟩,λy c h=>⟨_,x.cell y c h⟩,j.dU.fresh (az _),λy c h=>?_,λp o=>absurd (show p∈([]:List (Addr×Obj)) from o) (by simp),j.dU.kept I,?_⟩
 .exact name_of_addr x.apart (PySem.mem_of_lookup t) (PySem.mem_of_lookup g)
 .have m:scope.names.lookup y=some .cell\/scope.names.lookup y=some .free:=m;rcases m with m | m
  .exact KC m
  show absurd rfl (S.wL _ (PySem.mem_of_lookup m))
 .exact Nat.le_of_lt (x.above y c (PySem.mem_of_lookup h))
 .have hi:i<l.length:=by
   unfold lR at g;by_cases hi:i<l.length
   .exact hi
   rw[List.getElem?_append_right (by simpa using hi)] at g;rw[List.getElem?_replicate] at g;split at g<;>cases g
  have ha:l[i]?=some v:=by
   unfold lR at g;rw[List.getElem?_append_left (by simpa using hi),aJ] at g;cases e:l[i]? with
   | none=>rw[e] at g;cases g
   | some a=>rw[e] at g;cases g;rfl
  obtain⟨u,G,M⟩:=r.get ha;have o:ps[i]?=some y:=by
   rw[<-S.pre,List.getElem?_take_of_lt (by ext)];show t
  have J:ps.Nodup:=by rw[<-S.pre];show S.nd.sublist (List.take_sublist _ _)
  show⟨u,M,?_⟩;rcases S.par y (aI o) with k | k
  .exact .inl ⟨k,LD J o G k⟩
  obtain⟨c,e⟩:=KC (n:=s.heap.objs.size+1) k;show .inr ⟨.inl k,c,e,?_⟩;have q:=x.cell y c e;rw[LC J o G (by show scope.names.lookup y≠_;rw[k];decide)] at q;show q
 .exact j.dU.fresh (Nat.le_of_lt (x.above y c (PySem.mem_of_lookup h)))
 unfold lR;show _=N.length;rw[ay,ae,List.length_replicate];ext
theorem OF{p:t7}{P:Program}{w:World}{K:J'}{mg:Str->Option Value}{base:Heap}{k:Nat}{f:Addr}{name a:Str}{c:Arguments}{body:List Stmt}{scope:Scope}{G kV l pm h ct R:Value}{L od:Option Addr}
  {T:Array (Option Value)} {N ps:List Str} {z:Sp} (U:K.lookup f=some ⟨R,od,.func (PySem.W.fnOf name a c body scope G kV l pm L h ct),T⟩) (X:PySem.W.codeIn K h a=true) (S:cF N ps scope)
  (len:∀d H Q E,z d H Q E->d.length=ps.length)
  (M:∀(A:Around)(outer:List Env)(s:Shared)(H:Hp)(d:List V)(Q:VK)(E:XK),eY k (A.deeper (envOfC a scope s.heap.objs.size f h))->z d H Q E->
   ∃t,pf (qI p P w K mg base N a scope f h A outer s H E) body t/\t { nx:=λ_ g=>Q .non g,rt:=Q } (lR N d) H) :
  i6 P w K mg base p (k+1) f (PySem.W.fnOf name a c body scope G kV l pm L h ct) ps z:=by
 show⟨len,λA outer s H args us d Q E D j hb r F=>?_⟩;have hl:=len _ _ _ _ F;have KX:K.In s.heap:=j.mod.yg.keeps λb o e=>(j.bs b o e).1
 have lim:s.heap.NoLimit:=j.mod.nolimit.keeps λb o e=>(j.bs b o e).1
 have O:∀y∈ps.zip us,scope.names.lookup y.1=some .local\/(scope.names.lookup y.1=some .cell/\((cellsFrom (s.heap.objs.size+1) scope.names []).lookup y.1).isSome=true):=λ⟨n,v⟩ Y=>by
  rcases S.par n (List.of_mem_zip Y).1 with q | q
  .exact .inl q
  show .inr ⟨q,PySem.W.cellsFrom_some _ _ _ (.inl q)⟩
 show codeAny_call_function D.depth (KX _ _ U) rfl S.co S.gen rfl (PySem.W.codeRec_of KX X) (hb _ _ _ _ ?_);show wpAny_newFunctionEnv_cells S.kind O λenv he s1 x=>?_
 subst he;show⟨lim.keeps x.toInCall.keep,codeAny_func ?_⟩;obtain⟨t,Z,hq⟩:=M A outer s H d Q E (D.deeper _) F;have I:Inv (qI p P w K mg base N a scope f h A outer s H E) [] (lR N d) H s1:=TL S D.hd j hl r x;show wpAny_mono (Z [] s1 (lR N d) H _ I hq) (λfl B i=>?_) λe B i=>i
 have fin:∀{m:St}{g:Hp}{v:V}{u:Value},Inv (qI p P w K mg base N a scope f h A outer s H E) [] m g B->RelV v u->Q v g->CE outer P w H s Q u B:=
  λ{m g v u} J C q=>⟨v,g,J.os,J.bare,J.base,J.dU,C,q⟩
 cases fl with
 | ret u=>
  obtain⟨v,m,g,J,C,q⟩:=i;show fin J C q
 | next=>
  obtain⟨m,g,J,q⟩:=i;show fin (v:=V.non) (u:=Value.none) J rfl q
 | brk=>
  obtain⟨_,_,_,q⟩:=i;show False.elim q
 | cont=>
  obtain⟨_,_,_,q⟩:=i;show False.elim q
section
variable{X:Cx}{x:Str}{p pos:Pos}{e:Expr}{es:List Expr}{t:TA}{id T:String}{r:List V->Hp->VK->Prop}
def F3(r:List V->Hp->VK->Prop)(t:TA):TE:=λσ H Q=>t σ H λa H1=>r a H1 Q
theorem Ck(l:dY X (.builtin id) r)(k:Gl X x)(j:X.mg x=none)(g:bootBuiltins x=some (.builtin id))(ha:PA X (e::es) t)(i:x≠"__name__":=by decide)(f:(x==("__debug__":Str))=false:=by decide)
  (he:starEach (e::es) X.env=(false,eval e X.env)::starEach es X.env:=by rfl) (hpl:(backTo pos (starEach es X.env)).any (·.1)=false:=by rfl):PE X (.Call (.Name x p) (e::es) [] pos) (F3 r t):=by
 intro a s σ H Q I h;show wpAny_Call_Name_kw (tI I k j g ?_ i f);show PyProof.Rows.callWith_builtin1 (dR (ha pos a s σ H _ I h) λus s1 m=>by obtain⟨b,H1,n,c,d⟩:=m;show l a s1 σ H1 b us Q n c d) he hpl
theorem x8(l:dY X (.type T) r)(k:Gl X x)(j:X.mg x=none)(g:bootBuiltins x=some (.type T))(ha:PA X (e::es) t)(i:x≠"__name__":=by decide)(f:(x==("__debug__":Str))=false:=by decide)
  (he:starEach (e::es) X.env=(false,eval e X.env)::starEach es X.env:=by rfl) (hpl:(backTo pos (starEach es X.env)).any (·.1)=false:=by rfl):PE X (.Call (.Name x p) (e::es) [] pos) (F3 r t):=by
 intro a s σ H Q I h;show wpAny_Call_Name_kw (tI I k j g ?_ i f);show PyProof.Rows.callWith_type1 (dR (ha pos a s σ H _ I h) λus s1 m=>by obtain⟨b,H1,n,c,d⟩:=m;show l a s1 σ H1 b us Q n c d) he hpl
end
end L2
namespace HT
open PySem PyProof.Rows
noncomputable def lexLt:List Int->List Int->Bool
 | [],[]=>false
 | [],_::_=>true
 | _::_,[]=>false
 | x::xs,y::ys=>if x=y then lexLt xs ys else decide (x<y)
theorem o3(x y:Int)(xs ys:List Int):lexLt (x::xs) (y::ys)=if x=y then lexLt xs ys else decide (x<y):=rfl
theorem rY(A:Around)(s:Shared)(a:Int)(t:Tok)(c:Int)(u:Tok)(prog:Program)(w:World)(E:Value->Shared->Prop)(Q:Value->Shared->Prop)(h:Q (.bool (decide (a<c))) s) :
  wpAny (model prog w) A (richCompare .Lt (.int a t) (.int c u)) Q E s:=
 (PyProof.Rows.lt_int h:wpAny (model prog w) A (compareOp .Lt (.int a t) (.int c u)) Q E s)
section
variable{prog:Program}{w:World}{A:Around}{E:Value->Shared->Prop}{s:Shared}
noncomputable def eG(n d:Nat):Option Int->Nat
 | none=>d
 | some v=>if v<0 then(v+(n:Int)).toNat else min v.toNat n
theorem jW(n d:Nat)(hd:d<=n)(o:Option Int):eG n d o<=n:=by
 cases o with
 | none=>show hd
 | some v=>
  show(if v<0 then(v+(n:Int)).toNat else min v.toNat n)<=n;by_cases a:v<0
  .rw[if_pos a];ext
  rw[if_neg a];show Nat.min_le_right _ _
theorem mV(v:Int)(n d:Nat):(if v<0 then max (v+(n:Int)) 0 else min v (n:Int))=((eG n d (some v):Nat):Int):=by
 show(if v<0 then max (v+(n:Int)) 0 else min v (n:Int))=(((if v<0 then(v+(n:Int)).toNat else min v.toNat n):Nat):Int)
 by_cases a:v<0
 .simp only[if_pos a];ext
 simp only[if_neg a];ext
theorem Ue(lo hi:Option Int)(n:Nat):Builtin.Slice.sliceAdjust lo hi 1 (n:Int)=(((eG n 0 lo:Nat):Int),((eG n n hi:Nat):Int)):=by
 have a:¬((1:Int)<0):=by ext
 unfold Builtin.Slice.sliceAdjust;simp only[a,aQ];show Prod.ext ?_ ?_
 .cases lo with
  | none=>rfl
  | some v=>show mV v n 0
 cases hi with
 | none=>rfl
 | some v=>show mV v n n
theorem Ud(i j:Nat):Builtin.Slice.slicePlaces (i:Int) (j:Int) 1=j-i:=by
 unfold Builtin.Slice.slicePlaces;have a:(1:Int)>0:=by ext
 simp only[a,aX,Int.ediv_one];split<;>ext
theorem LR{v:Value}{o:Option Int}{Q:Option Int->Shared->Prop}(p:IsPart v o)(h:Q o s):wpAny (model prog w) A (Builtin.Slice.slicePartIndex v) Q E s:=by
 cases p with
 | none=>show slicePart_none h
 | int i t=>show slicePart_int h
theorem WM{sl:Addr}{c b:Value}{lo hi:Option Int}{n:Nat}{Q:Int×Int×Nat->Shared->Prop}(f:s.heap.IsSliceOf sl c b .none)(pl:IsPart c lo)(e:IsPart b hi)
  (h:Q (((eG n 0 lo:Nat):Int),1,eG n n hi-eG n 0 lo) s):wpAny (model prog w) A (Builtin.Slice.sliceApplied (.ref sl) (pure (n:Int))) Q E s:=by
 obtain⟨os,d,g,a⟩:=id f;unfold Builtin.Slice.sliceApplied Builtin.Slice.sliceFields;show aa (aa (wpAny_field d a (x:=c) rfl (aa (wpAny_field d a (x:=b) rfl (aa (wpAny_field d a (x:=.none) rfl (ao ?_)))))));show aa (slicePart_none ?_);show wpAny _ _ (if ((1:Int)==0)=true then _ else _) _ _ s;rw[if_neg (by decide)];show aa (LR pl (aa (LR e (aa (ao ?_)))));show wpAny _ _ (match Builtin.Slice.sliceAdjust lo hi 1 (n:Int) with | (lo,hi)=>pure (lo,(1:Int),Builtin.Slice.slicePlaces lo hi 1)) _ _ s;rw[Ue lo hi n];show wpAny _ _ (pure (((eG n 0 lo:Nat):Int),(1:Int),Builtin.Slice.slicePlaces ((eG n 0 lo:Nat):Int) ((eG n n hi:Nat):Int) 1)) _ _ s;rw[Ud];show ao h
theorem Se(xs:Array Value)(i k:Nat):((List.range k).filterMap λ(m:Nat)=>xs[((i:Int)+(m:Int)*1).toNat]?).toArray=((xs.toList.drop i).take k).toArray:=by
 have e:(λ(m:Nat)=>xs[((i:Int)+(m:Int)*1).toNat]?)=λm=>xs[i+m]?:=by
  funext m
  have:((i:Int)+(m:Int)*1).toNat=i+m:=by ext
  rw[this]
 rw[e];have:=pick_run xs i k;rw[List.filterMap_map] at this;have a:((λx=>xs[x]?)∘λx=>i+x)=λm=>xs[i+m]?:=rfl
 rw[a] at this;rw[this]
theorem jK{t sl:Addr}{a:Array Value}{e d:Value}{lo hi:Option Int}{Q:Value->Shared->Prop}(c:IsTup s.heap t a)(f:s.heap.IsSliceOf sl e d .none)(pl:IsPart e lo)(i:IsPart d hi)
  (hw:¬(eG a.size 0 lo=0/\eG a.size a.size hi=a.size))
  (h:Q (.ref s.heap.objs.size) { s with heap:=s.heap.push { cls:=.type "tuple",data:=.seq ((a.toList.drop (eG a.size 0 lo)).take (eG a.size a.size hi-eG a.size 0 lo)).toArray } })
  (hsz:a.size<=sizeLine):wpAny (model prog w) A (getItem (.ref t) (.ref sl)) Q E s:=by
 have b:sizeOk (.seq ((a.toList.drop (eG a.size 0 lo)).take (eG a.size a.size hi-eG a.size 0 lo)).toArray):=by
  show((a.toList.drop (eG a.size 0 lo)).take (eG a.size a.size hi-eG a.size 0 lo)).toArray.size<=sizeLine;rw[aA,aP,cf,af];ext
 have r:eG a.size a.size hi<=a.size:=jW _ _ (az _) hi;obtain⟨os,l,k,n⟩:=id f;have j:s.TypeIs (.ref sl) "slice":=⟨os,l,k⟩
 unfold getItem;try with_reducible show bJ ?_
 first | show aa (ao ?_) | skip
 show aa (wpAny_sequenceKey c.typeIs (by decide) ?_);show aa (wpAny_callSpecial?_slot (name:=Str.ofString "__getitem__") c.typeIs PyProof.Rows.slot_tuple_getitem
  (wpAny_call_entry PyProof.Rows.slot_tuple_getitem c.typeIs entry_tuple_getitem ?_ (args_tuple_getitem _ _)))
 show wpAny _ _ (Builtin.Tuple.tupleItemsOf (.ref t) >>= _) _ _ s;show aa (tupleItemsOf_ c ?_);show aa (wpAny_typeOf j ?_);rw[if_pos (by decide)];show aa (WM f pl i ?_);have g:¬((((eG a.size 0 lo:Nat):Int)==0&&(1:Int)==1&&(eG a.size a.size hi-eG a.size 0 lo)==a.size)=true):=by
  intro q;rw[Bool.and_eq_true,Bool.and_eq_true] at q;have p:((eG a.size 0 lo:Nat):Int)=0:=eq_of_beq q.1.1;have o:eG a.size a.size hi-eG a.size 0 lo=a.size:=eq_of_beq q.2;show hw ⟨by ext,by ext⟩
 show wpAny _ _ (if (((eG a.size 0 lo:Nat):Int)==0&&(1:Int)==1&&(eG a.size a.size hi-eG a.size 0 lo)==a.size)=true then _ else _) _ _ s;rw[if_neg g,Se];first
  | show aa (m:=Builtin.Tuple.tupleExact _) (wpAny_newObj_type (ao ⟨_,rfl,ao h⟩) b)
  | show aa (m:=Builtin.Tuple.tupleExact _) (wpAny_newObj_type (aa (ao (ao ⟨_,rfl,ao h⟩))) b)
  | show aa (aa (m:=Builtin.Tuple.tupleExact _) (wpAny_newObj_type (ao (ao ⟨_,rfl,ao h⟩)) b))
  | show aa (aa (m:=Builtin.Tuple.tupleExact _) (wpAny_newObj_type (ao ⟨_,rfl,ao h⟩) b))
end
end HT
namespace L2
open PySem PySem.Spec PyProof.Rows
noncomputable abbrev TO:=St->Hp->(Option Int->Hp->Prop)->Prop
def PO(X:Cx)(e:Option Expr)(t:TO):Prop:=
 ∀(a:List (Addr×Obj))(s:Shared)(σ:St)(H:Hp)(Q:Option Int->Hp->Prop),Inv X a σ H s->t σ H Q->
  wpAny (model X.prog X.w) X.A (evalPart e X.env) (λu c=>∃o b,Inv X a σ b c/\IsPart u o/\Q o b) X.xe s
noncomputable def QL:TO:=λ_ H Q=>Q none H
noncomputable def OE(t:TE):TO:=λσ H Q=>t σ H λx H1=>∃i,x=.int i/\Q (some i) H1
theorem xX{ns:List Int}:∀{us:List Value},Vals (ns.map V.int) us->IntsAre us ns:=by
 induction ns with
 | nil=>intro us r;rw[bQ] at r;cases r;show .nil
 | cons n ns c=>
  intro us r;rw[ax] at r;cases r with
  | cons b a=>
   obtain⟨t,e⟩:=b;subst e;show .cons n t (c a)
section
variable{X:Cx}{e:Expr}{te:TE}{lo hi:Option Expr}{tl th:TO}{pos p2:Pos}
theorem QK:PO X none QL:=by
 intro a s σ H Q I h;rw[evalPart_none];show ao ⟨none,H,I,.none,h⟩
theorem QJ(h:PE X e te):PO X (some e) (OE te):=by
 intro d s σ H Q I hw;rw[evalPart_some];show dR (h d s σ H _ I hw) λu s1 c=>?_
 obtain⟨x,H1,f,a,b⟩:=c;obtain⟨i,rfl,q⟩:=b;obtain⟨t,rfl⟩:=a;show⟨some i,H1,f,.int i t,q⟩
def vK(X:Cx)(r:V->Option Int->Option Int->Hp->VK->Prop):Prop:=
 ∀(c:List (Addr×Obj))(s:Shared)(σ:St)(H:Hp)(x:V)(v b a:Value)(lo hi:Option Int)(sl:Addr)(Q:VK),Inv X c σ H s->RelV x v->s.heap.IsSliceOf sl b a .none->IsPart b lo->IsPart a hi->r x lo hi H Q->
  ∃T id,typeLookup (.type T) "__getitem__"=pure (some (.builtin id))/\s.TypeIs v T/\wpAny (model X.prog X.w) X.A (getItem v (.ref sl)) (EP X c σ Q) X.xe s
theorem vK.or{r d:V->Option Int->Option Int->Hp->VK->Prop}(h:vK X r)(h':vK X d):vK X (λx lo hi H Q=>r x lo hi H Q\/d x lo hi H Q):=by
 intro f s σ H x v b a lo hi sl Q I c e pl pu q;rcases q with q | q
 .exact h f s σ H x v b a lo hi sl Q I c e pl pu q
 show h' f s σ H x v b a lo hi sl Q I c e pl pu q
def Xe(r:V->Option Int->Option Int->Hp->VK->Prop)(te:TE)(tl th:TO):TE:=λσ H Q=>te σ H λx H1=>tl σ H1 λl b=>th σ b λu a=>r x l u a Q
theorem Sd{r:V->Option Int->Option Int->Hp->VK->Prop}(p:vK X r)(he:PE X e te)(t:PO X lo tl)(n:PO X hi th):PE X (.Subscript e (.Slice lo hi none p2) pos) (Xe r te tl th):=by
 intro a s σ H Q I h;show Subscript_ (dR (he a s σ H _ I h) λv s1 c=>?_);obtain⟨x,H1,E,i,m⟩:=c;show wpAny_Slice (dR (t a s1 σ H1 _ E m) λf s2 c=>?_);obtain⟨l,F,D,pl,k⟩:=c;show dR (n a s2 σ F _ D k) λd s3 c=>?_
 obtain⟨u,g,C,pu,j⟩:=c;rw[evalPart_none];show ao ?_;have B:Inv X a σ g { s3 with heap:=s3.heap.push { cls:=.type "slice",data:=.fields #[f,d,.none] } }:=C.kept (t':=s3.toks) λb ob q=>aj _ q
 obtain⟨T,id,z,o,y⟩:=p a { s3 with heap:=s3.heap.push { cls:=.type "slice",data:=.fields #[f,d,.none] } } σ g x v f d l u s3.heap.objs.size Q B i (Heap.IsSliceOf.new ..) pl pu j;show wpAny (model X.prog X.w) X.A (subscriptTail e (.Slice lo hi none p2) v (.ref s3.heap.objs.size)) (EP X a σ Q) X.xe { s3 with heap:=s3.heap.push { cls:=.type "slice",data:=.fields #[f,d,.none] } };show tail_any (ops:=[.ref s3.heap.objs.size,v]) o z y (by with_unfolding_all rfl)
noncomputable def sZ(xs:List V)(lo hi:Option Int):List V:=(xs.drop (HT.eG xs.length 0 lo)).take (HT.eG xs.length xs.length hi-HT.eG xs.length 0 lo)
theorem L6(xs:List V)(lo hi:Option Int):(sZ xs lo hi).length<=xs.length:=by
 unfold sZ;rw[aP,cf];ext
def N2(K:J'):V->Option Int->Option Int->Hp->VK->Prop:=λx lo hi H Q=>∃a xs,x=.ref a/\gR K H a xs/\
 ¬(HT.eG xs.length 0 lo=0/\HT.eG xs.length xs.length hi=xs.length)/\∀p,H p=none->Q (.ref p) (upd H p (.tup (sZ xs lo hi)))
theorem O3:vK X (N2 X.K):=by
 intro i s σ H x v g f lo hi sl Q I d e pl pu h;obtain⟨a,xs,rfl,hx,hw,q⟩:=h;cases d;obtain⟨its,r,c,hz⟩:=I.tuple hx;have hlen:its.toArray.size=xs.length:=by rw[aA];show r.length.symm
 show⟨"tuple",_,PyProof.Rows.slot_tuple_getitem.lookup,c.typeIs,?_⟩;show HT.jK c e pl pu (by rw[hlen];show hw) ?_ (by rw[hlen];show hz);rw[hlen];show⟨.ref s.heap.objs.size,_,I.laid (t':=s.toks) (o:=.tup (sZ xs lo hi)) (λb ob q=>aj _ q) (az _) ?_,rfl,q _ (I.dU.fresh (az _))⟩;show⟨aL (L6 xs lo hi) hz,_,(r.drop (HT.eG xs.length 0 lo)).take (HT.eG xs.length xs.length hi-HT.eG xs.length 0 lo),IsTup.new _ _⟩
end
noncomputable def pP(n:Nat)(i:Int):Option Nat:=if 0<=i then(if i<n then some i.toNat else none) else if -(n:Int)<=i then some (i+n).toNat else none
noncomputable def fc{a:Type}(xs:List a)(i:Int):Option a:=(pP xs.length i).bind λj=>xs[j]?
theorem JW{n:Nat}{i:Int}{j:Nat}(h:pP n i=some j):seqIndex? i n=some j/\j<n/\-(n:Int)<=i/\i<n:=by
 unfold pP at h;by_cases h0:0<=i
 .rw[if_pos h0] at h;by_cases a:i<n
  .rw[if_pos a] at h;have e:i.toNat=j:=bU h;show⟨by rw[seqIndex_of h0 a,e],by ext,by ext,a⟩
  rw[if_neg a] at h;cases h
 rw[if_neg h0] at h;by_cases a:-(n:Int)<=i
 .rw[if_pos a] at h;have e:(i+n).toNat=j:=bU h;show⟨by rw[seqIndex_neg (by ext) a,e],by ext,a,by ext⟩
 rw[if_neg a] at h;cases h
theorem wg{a:Type}{xs:List a}{i:Int}{v:a}(h:fc xs i=some v):∃j,seqIndex? i xs.length=some j/\xs[j]?=some v/\j<xs.length/\-(xs.length:Int)<=i/\i<xs.length:=by
 unfold fc at h;cases e:pP xs.length i with
 | none=>rw[e] at h;cases h
 | some j=>
  rw[e] at h;obtain⟨f,d,c,b⟩:=JW e;show⟨j,f,h,d,c,b⟩
def Ca(b:Expr):Prop:=∀o i,subscripted b false o i=operate [o,i] (getItem o i)
def u4(X:Cx)(r:R2):Prop:=
 ∀(value slice:Expr)(a:List (Addr×Obj))(s:Shared)(σ:St)(H:Hp)(x y:V)(v u:Value)(Q:VK),Inv X a σ H s->RelV x v->RelV y u->r x y H Q->
  subscripted slice false v u=operate [v,u] (getItem v u)->wpAny (model X.prog X.w) X.A (subscriptTail value slice v u) (EP X a σ Q) X.xe s
def NG(X:Cx)(b:String)(r:V->List V->Hp->VK->Prop):Prop:=
 ∀(a:List (Addr×Obj))(s:Shared)(σ:St)(H:Hp)(x:V)(xs:List V)(v:Value)(us:List Value)(Q:VK),Inv X a σ H s->RelV x v->Vals xs us->r x xs H Q->
  wpAny (model X.prog X.w) X.A (call (.builtin b) (v::us)) (EP X a σ Q) X.xe s
section
variable{X:Cx}{a b:Expr}{ta tb:TE}{pos:Pos}
theorem u4.or{r c:R2}(h:u4 X r)(h':u4 X c):u4 X (λx y H Q=>r x y H Q\/c x y H Q):=by
 intro value slice e s σ H x y v u Q I b a q d;rcases q with q | q
 .exact h value slice e s σ H x y v u Q I b a q d
 show h' value slice e s σ H x y v u Q I b a q d
theorem DR{r:R2}(f:u4 X r)(ha:PE X a ta)(g:PE X b tb)(e:Ca b):PE X (.Subscript a b pos) (Aq r ta tb):=by
 intro i s σ H Q I h;show Subscript_ (DD ha g I h λv u s2 x y k j d c q=>f a b i s2 σ k x y v u Q j d c q (e _ _))
def Ib(K:J'):R2:=λx y H Q=>∃p xs i v,x=.ref p/\y=.int i/\fH K H p xs/\fc xs i=some v/\Q v H
def Ia(K:J'):R2:=λx y H Q=>∃p xs i v,x=.ref p/\y=.int i/\gR K H p xs/\fc xs i=some v/\Q v H
def HZ:R2:=λx y H Q=>∃z i c,x=.str z/\y=.int i/\z.length<=sizeLine/\fc z.cps.toList i=some c/\Q (.str ⟨#[c]⟩) H
theorem pO:u4 X (Ib X.K):=by
 intro value slice e s σ H x y v u Q I k g h c;obtain⟨p,xs,i,z,rfl,rfl,m,he,q⟩:=h;cases k;obtain⟨t,rfl⟩:=g;obtain⟨its,r,pl,hz⟩:=I.list m;obtain⟨j,a,B,D,A,o⟩:=wg he;obtain⟨w,d,l⟩:=r.get B;have n:=r.length;have C:=xS;have fin:EP X e σ Q w s:=⟨z,H,I,l,q⟩
 by_cases h0:0<=i
 .have b:i.toNat=j:=by
   rw[seqIndex_of h0 o] at a;show bU a
  show item_listR pl.isList h0 (by ext) (by rw[b];simpa using d) fin c
 have b:(i+(its.toArray.size:Int)).toNat=j:=by
  rw[seqIndex_neg (by ext) A] at a;rw[aA,<-n];show bU a
 show subscriptTail_builtinR (x:=w) pl.isList.typeIs slot_list_getitem.lookup
  (wpAny_getItem_list_neg (Q:=λr f=>r=w/\EP X e σ Q r f) pl.isList (by ext) (by rw[aA]<;>ext) (by ext) (by rw[b];simpa using d) ⟨rfl,fin⟩) c
theorem wV:u4 X (Ia X.K):=by
 intro value slice a s σ H x y v u Q I d c h f;obtain⟨p,xs,i,z,rfl,rfl,g,he,q⟩:=h;cases d;obtain⟨t,rfl⟩:=c;obtain⟨its,r,pl,hz⟩:=I.tuple g;obtain⟨j,m,l,C,B,A⟩:=wg he;obtain⟨w,n,e⟩:=r.get l;have k:=r.length;have o:=xS;have fin:EP X a σ Q w s:=⟨z,H,I,e,q⟩
 show subscriptTail_builtinR (x:=w) pl.typeIs slot_tuple_getitem.lookup
  (getItem_tuple (j:=j) (Q:=λr b=>r=w/\EP X a σ Q r b) pl (by ext) (by ext) (by rw[aA,<-k];show m) (by simpa using n) ⟨rfl,fin⟩) f
theorem O1:u4 X HZ:=by
 intro value slice r s σ H x y v u Q I d b h e;obtain⟨z,i,c,rfl,rfl,hz,he,q⟩:=h;obtain⟨t,rfl⟩:=d;obtain⟨t',rfl⟩:=b;obtain⟨j,a,l,p,k,g⟩:=wg he;have f:z.cps.toList.length=z.length:=by simp[Str.length]
 rw[f] at a k g;have o:=xS
 show tail_any (typeIs_str s z t) slot_str_getitem.lookup (getItem_str (c:=c) (by
  have n:decide (i < -(2 ^ 63:Int))=false:=bg (by ext);have m:decide (i>=2 ^ 63)=false:=bg (by ext)
  rw[n,m,Bool.or_false]) (by rw[a];simpa using l) ⟨.str ⟨#[c]⟩,H,I.tok _,⟨_,rfl⟩,q⟩) e
def MA(K:J'):R2:=λx y H Q=>Ib K x y H Q\/Ia K x y H Q\/HZ x y H Q
theorem IY:u4 X (MA X.K):=pO.or (wV.or O1)
theorem Uc(its:List Value)(n j:Nat)(u:Value):Obj.mapSeq (·.setIfInBounds j u) { cls:=.type "list",data:=.seq its.toArray n }={ cls:=.type "list",data:=.seq (its.set j u).toArray n }:=by
 simp[Obj.mapSeq]
theorem Inv.lst{b:List (Addr×Obj)}{a:St}{H:Hp}{s:Shared}{p:Addr}{xs:List V}(I:Inv X b a H s)(h:H p=some (.lst xs)) :
  ∃(its:List Value)(n:Nat),Vals xs its/\s.heap.get? p=some { cls:=.type "list",data:=.seq its.toArray n }/\xs.length<=sizeLine:=by
 obtain⟨z,its,n,r,e⟩:=I.dU p _ h;show⟨its,n,r,e,z⟩
theorem Inv.wN{g:List (Addr×Obj)}{c:St}{H:Hp}{s:Shared}{p:Addr}{xs ys:List V}{its its':List Value}{n a:Nat}{f:Obj->Obj}(I:Inv X g c H s)(h:H p=some (.lst xs))
  (i:s.heap.get? p=some { cls:=.type "list",data:=.seq its.toArray n }) (d:f { cls:=.type "list",data:=.seq its.toArray n }={ cls:=.type "list",data:=.seq its'.toArray a }) (r:Vals ys its') (hz:ys.length<=sizeLine) (t:Nat) :
  Inv X g c (upd H p (.lst ys)) { s with heap:=s.heap.update p f,toks:=t }:=by
 have e:(s.heap.update p f).get? p=some { cls:=.type "list",data:=.seq its'.toArray a }:=by
  rw[Heap.get?_update_self f i (by rw[d]<;>rfl),d]
 show I.write (x:=p) (e:=p) (by rw[h];trivial) (.inl rfl) (λb u j q=>(bj _ _ (Ne.symm j)).trans q) ⟨_,e⟩ ?_;show⟨hz,its',a,r,e⟩
def OD:V->V->V->Hp->(Hp->Prop)->Prop:=λo i v H Q=>∃p xs k j,o=.ref p/\i=.int k/\H p=some (.lst xs)/\pP xs.length k=some j/\Q (upd H p (.lst (xs.set j v)))
theorem Sb:Ig X OD:=by
 intro y s σ H o i v ov z u Q I ro w m h;obtain⟨p,xs,k,j,rfl,rfl,e,x,q⟩:=h;cases ro;obtain⟨t,rfl⟩:=w;obtain⟨its,n,r,b,hz⟩:=I.lst e;obtain⟨a,B,g,f⟩:=JW x;have c:=r.length;have A:=xS;have l:Inv X y σ (upd H p (.lst (xs.set j v))) { s with heap:=s.heap.update p (Obj.mapSeq (·.setIfInBounds j u)) }:=
  I.wN e b (Uc its n j u) (r.set m j) (by rw[List.length_set];show hz) s.toks
 by_cases h0:0<=k
 .have d:k.toNat=j:=by
   rw[seqIndex_of h0 f] at a;show bU a
  show PySem.W.ki_setAt b h0 (by ext) (by rw[aA,<-c];show f) (by rw[d];show⟨_,l,q⟩)
 have d:(k+(its.toArray.size:Int)).toNat=j:=by
  rw[seqIndex_neg (by ext) g] at a;rw[aA,<-c];show bU a
 show PySem.W.ki_setBack b (by ext) (by rw[aA,<-c];show g) (by ext) (by rw[d];show⟨_,l,q⟩)
theorem Vc(lo hi:Option Int)(n:Nat):(sliceBounds lo hi none n).1=((HT.eG n 0 lo:Nat):Int)/\(sliceBounds lo hi none n).2.1=((HT.eG n n hi:Nat):Int)/\(sliceBounds lo hi none n).2.2=1:=by
 show⟨?_,?_,rfl⟩
 .cases lo with
  | none=>simp[sliceBounds,HT.eG]
  | some i=>
   simp only[sliceBounds,HT.eG,Option.getD_none,show(1:Int)>0 by decide,aX];by_cases h:i<0
   .simp only[h,aX]<;>ext
   simp only[h,aQ]<;>ext
 cases hi with
 | none=>simp[sliceBounds,HT.eG]
 | some i=>
  simp only[sliceBounds,HT.eG,Option.getD_none,show(1:Int)>0 by decide,aX];by_cases h:i<0
  .simp only[h,aX]<;>ext
  simp only[h,aQ]<;>ext
theorem U2(its:List Value)(lo hi:Option Int):slicePick its.toArray lo hi none=((its.drop (HT.eG its.length 0 lo)).take (HT.eG its.length its.length hi-HT.eG its.length 0 lo)).toArray:=by
 obtain⟨c,b,a⟩:=Vc lo hi its.toArray.size;unfold slicePick;rw[c,b,a];simp only[sliceRange_one,pick_run,aA]<;>rfl
def N1(K:J'):V->Option Int->Option Int->Hp->VK->Prop:=λx lo hi H Q=>∃a xs,x=.ref a/\fH K H a xs/\∀p,H p=none->Q (.ref p) (upd H p (.lst (sZ xs lo hi)))
theorem uD:vK X (N1 X.K):=by
 intro i s σ H x v g f lo hi sl Q I d e pl pu h;obtain⟨a,xs,rfl,hx,q⟩:=h;cases d;obtain⟨its,r,c,hz⟩:=I.list hx;have hlen:=r.length;show⟨"list",_,slot_list_getitem.lookup,c.isList.typeIs,?_⟩;show wpAny_getItem_list_slice c.isList e pl pu .none (by simp) ?_ (by rw[aA]<;>ext);rw[U2,<-hlen];show⟨.ref s.heap.objs.size,_,I.laid (t':=s.toks) (o:=.lst (sZ xs lo hi)) (λb ob q=>aj _ q) (az _) ?_,rfl,q _ (I.dU.fresh (az _))⟩;show⟨aL (L6 xs lo hi) hz,_,0,(r.drop (HT.eG xs.length 0 lo)).take (HT.eG xs.length xs.length hi-HT.eG xs.length 0 lo),aB _ rfl⟩
noncomputable def BJ:V->Bool
 | .non=>true
 | .bl _=>true
 | .int _=>true
 | .str _=>true
 | _=>false
noncomputable def HE:V->V->Bool
 | .non,.non=>true
 | .bl a,.bl b=>a==b
 | .bl a,.int b=>(if a then 1 else 0)==b
 | .int a,.bl b=>a==(if b then 1 else 0)
 | .int a,.int b=>a==b
 | .str a,.str b=>a==b
 | _,_=>false
theorem IX{A:Around}{s:Shared}{y x:V}{u v:Value}(d:RelV y u)(c:RelV x v)(f:BJ y=true)(e:BJ x=true):SeqAt.EqAt A s u v (HE y x):=by
 cases y with
 | non=>
  cases d;cases x with
  | non=>cases c;show SeqAt.EqAt.same _
  | bl b=>cases c;show SeqAt.EqAt.none_bool b
  | int b=>obtain⟨t,rfl⟩:=c;show SeqAt.EqAt.none_int b t
  | str b=>obtain⟨t,rfl⟩:=c;show SeqAt.EqAt.none_str b t
  | _=>show absurd (show false=true from e) aW
 | bl a=>
  cases d;cases x with
  | non=>cases c;show SeqAt.EqAt.bool_none a
  | bl b=>cases c;show SeqAt.EqAt.bool_bool a b
  | int b=>obtain⟨t,rfl⟩:=c;show SeqAt.EqAt.bool_int a b t
  | str b=>obtain⟨t,rfl⟩:=c;show SeqAt.EqAt.bool_str a b t
  | _=>show absurd (show false=true from e) aW
 | int a=>
  obtain⟨t',rfl⟩:=d;cases x with
  | non=>cases c;show SeqAt.EqAt.int_none a t'
  | bl b=>cases c;show SeqAt.EqAt.int_bool a t' b
  | int b=>obtain⟨t,rfl⟩:=c;show SeqAt.EqAt.int_int a t' b t
  | str b=>obtain⟨t,rfl⟩:=c;show SeqAt.EqAt.int_str a t' b t
  | _=>show absurd (show false=true from e) aW
 | str a=>
  obtain⟨t',rfl⟩:=d;cases x with
  | non=>cases c;show SeqAt.EqAt.str_none a t'
  | bl b=>cases c;show SeqAt.EqAt.str_bool a t' b
  | int b=>obtain⟨t,rfl⟩:=c;show SeqAt.EqAt.str_int a t' b t
  | str b=>obtain⟨t,rfl⟩:=c;show SeqAt.EqAt.str_str a t' b t
  | _=>show absurd (show false=true from e) aW
 | _=>show absurd (show false=true from f) aW
theorem mO:iQ X (compareOp .NotIn) (λx y H Q=>∃i j,x=.str i/\y=.str j/\Q (.bl (!(!(Builtin.Str.occurrences j i 0 j.length 1).isEmpty))) H):=by
 intro c s σ H x y v u Q I b a h;obtain⟨i,j,rfl,rfl,q⟩:=h;obtain⟨t,rfl⟩:=b;obtain⟨t',rfl⟩:=a;show notIn_str ⟨.bl _,H,I,rfl,q⟩
theorem jN:dY X (.builtin "len") (λxs H Q=>∃p ys,xs=[.ref p]/\(fH X.K H p ys\/gR X.K H p ys)/\Q (.int ys.length) H):=by
 intro e s σ H xs us Q I r h;obtain⟨p,ys,rfl,a,q⟩:=h;obtain⟨u,rfl,c⟩:=kM r;cases c;have d:=xS;rcases a with a | a
 .obtain⟨its,b,pl,hz⟩:=I.list a;have hlen:=b.length;show Calls.call_len_list pl.isList (by simp only[aA]<;>ext) ⟨.int ys.length,H,I.tok _,⟨s.toks+1,by rw[aA,hlen]⟩,q⟩
 obtain⟨its,b,pl,hz⟩:=I.tuple a;have hlen:=b.length;show len_tuple pl (by simp only[aA]<;>ext) ⟨.int ys.length,H,I.tok _,⟨s.toks+1,by rw[aA,hlen]⟩,q⟩
theorem UR:dY X (.builtin "len") (λxs H Q=>∃z,xs=[.str z]/\z.length<=sizeLine/\Q (.int z.length) H):=by
 intro b s σ H xs us Q I r h;obtain⟨z,rfl,hz,q⟩:=h;obtain⟨u,rfl,t,rfl⟩:=kM r;have a:=xS;show len_str (by ext) ⟨.int z.length,H,I.tok _,⟨_,rfl⟩,q⟩
theorem dY.or{f:Value}{r a:List V->Hp->VK->Prop}(h:dY X f r)(h':dY X f a):dY X f (λxs H Q=>r xs H Q\/a xs H Q):=by
 intro b s σ H xs us Q I rs q;rcases q with q | q
 .exact h b s σ H xs us Q I rs q
 show h' b s σ H xs us Q I rs q
theorem UQ:dY X (.type "list") (λxs H Q=>∃p ys,xs=[.ref p]/\(fH X.K H p ys\/gR X.K H p ys)/\∀l,H l=none->Q (.ref l) (upd H l (.lst ys))):=by
 intro k s σ H xs us Q I r h;obtain⟨p,ys,rfl,d,q⟩:=h;obtain⟨u,rfl,j⟩:=kM r;cases j;have fin:∀(its:List Value),Vals ys its->ys.length<=sizeLine->∀(h':Heap)(c:Nat),(∀b i,s.heap.get? b=some i->h'.get? b=some i)->
   h'.get? s.heap.objs.size=some { cls:=.type "list",dict:=none,data:=.seq its.toArray c,slots:=#[] }->EP X k σ Q (.ref s.heap.objs.size) { s with heap:=h' }:=λits a hz h' c kp e=>
  ⟨.ref s.heap.objs.size,_,I.laid (t':=s.toks) kp (az _) (show dZ X.prog X.w _ h' _ (.lst ys) from⟨hz,its,c,a,e⟩),rfl,q _ (I.dU.fresh (az _))⟩
 rcases d with d | d
 .obtain⟨its,a,pl,hz⟩:=I.list d;have hlen:=a.length;obtain⟨o,f,g,n,hd⟩:=pl.isList;show call_list_seq p (.inl rfl) f g hd (λh' c kp e=>fin its a hz h' c kp e) (by simp only[aA]<;>ext)
 obtain⟨its,a,pl,hz⟩:=I.tuple d;have hlen:=a.length;obtain⟨o,f,g,n,hd⟩:=pl;show call_list_seq p (.inr rfl) f g hd (λh' c kp e=>fin its a hz h' c kp e) (by simp only[aA]<;>ext)
def F2(K:J')(T:String)(x:V)(H:Hp):Prop:=match x with
 | .str _=>T="str"
 | .int _=>T="int"
 | .ref p=>(T="list"/\∃xs,fH K H p xs)\/(T="tuple"/\∃o,K.lookup p=some o/\o.cls=.type "tuple"/\o.dict=none)\/
   (T="dict"/\((∃a ep,H p=some (.dK a ep))\/∃a bs,H p=some (.dT a bs)))\/(T="set"/\∃S n,H p=some (.set S n))
 | _=>False
theorem O0{k:List (Addr×Obj)}{f:St}{H:Hp}{s:Shared}{T:String}{x:V}{v:Value}(I:Inv X k f H s)(r:RelV x v)(ty:F2 X.K T x H) :
  s.TypeIs v T/\∀a,v=.ref a->∃ob,s.heap.get? a=some ob/\ob.dict=none:=by
 cases x with
 | str z=>
  obtain⟨t,rfl⟩:=r;cases (show T="str" from ty);show⟨typeIs_str s z t,λ_ e=>nomatch e⟩
 | int i=>
  obtain⟨t,rfl⟩:=r;cases (show T="int" from ty);show⟨typeIs_int s i t,λ_ e=>nomatch e⟩
 | ref p=>
  cases r;rcases ty with⟨rfl,xs,g⟩ | ⟨rfl,o,b,h,hd⟩ | ⟨rfl,b⟩ | ⟨rfl,S,n,b⟩
  .obtain⟨its,_,pl,_⟩:=I.list g;show⟨pl.isList.typeIs,λa e=>?_⟩;cases e;obtain⟨o,n,e,c,hd,_⟩:=pl;show⟨o,e,hd⟩
  .refine⟨⟨o,I.nE p o b,h⟩,λa e=>?_⟩;cases e;show⟨o,I.nE _ o b,hd⟩
  .have z:∃o,s.heap.get? p=some o/\o.ExactDict:=by
    rcases b with⟨j,ep,b⟩ | ⟨j,bs,b⟩
    .obtain⟨_,_,_,_,o,_,e,ex,_⟩:=I.dU p _ b;show⟨o,e,ex⟩
    obtain⟨_,_,_,_,_,o,_,_,e,ex,_⟩:=I.dU p _ b;show⟨o,e,ex⟩
   obtain⟨o,e,ex⟩:=z;show⟨⟨o,e,ex.1⟩,λa d=>?_⟩;cases d;show⟨o,e,ex.2.1⟩
  obtain⟨o,_,_,_,e,ex,_⟩:=I.dU p _ b;show⟨⟨o,e,ex.1⟩,λa d=>?_⟩;cases d;show⟨o,e,ex.2.1⟩
 | _=>show False.elim ty
def Ar(K:J')(T:String)(r:V->List V->Hp->VK->Prop)(a:TE)(t:TA):TE:=λσ H Q=>a σ H λx H1=>F2 K T x H1/\t σ H1 λxs b=>r x xs b Q
variable{o e:Expr}{es:List Expr}{to:TE}{t:TA}{name:Str}{apos g7:Pos}{T id:String}{r:V->List V->Hp->VK->Prop}
theorem yS(p:PlainAttrs T)(slot:Slot T name id)(D:typeOf (.builtin id)=pure (.type "method_descriptor"))(y:NG X id r)(w:PE X o to)(ha:PA X (e::es) t)
  (j:attributeBase o name X.env (eval o X.env)=eval o X.env:=by rfl)
  (g:((backTo g7 (starEach (e::es) X.env)).all (λx=>!x.1)&&(backToKw g7 (keywordEach [] X.env)).all (λx=>x.1.isSome)
   && decide ((e::es).length+([]:List Keyword).length+(if ([]:List Keyword).isEmpty then 0 else 1)<30))=true:=by rfl)
  (k:(apos.endLine==g7.line)=true:=by rfl) (u:starEach (e::es) X.env=(false,eval e X.env)::starEach es X.env:=by rfl) (q:(backTo g7 (starEach es X.env)).any (·.1)=false:=by rfl) :
  PE X (.Call (.Attribute o name apos) (e::es) [] g7) (Ar X.K T r to t):=by
 intro b s σ H Q I h;show wpAny_Call_method_late j g k rfl (dR (w b s σ H _ I h) λv s1 a=>?_);obtain⟨x,H1,f,c,ty,n⟩:=a;obtain⟨A,z⟩:=O0 f c ty;show⟨T,id,p,slot,D,A,z,?_⟩;have d:=ha g7 b s1 σ H1 _ f n;rw[u] at d ⊢;show Calls.callWith_builtin (by show(false||(backTo g7 (starEach es X.env)).any (·.1))=false;rw[q]<;>rfl) (Calls.evalArgs_plain ?_);show dR d λus s2 a=>by obtain⟨i,C,B,l,m⟩:=a;show y b s2 σ C x i v us Q B c l m
end
def HK(X:Cx)(b:String)(r:V->List V->Hp->VK->Prop):Prop:=
 ∀(a:List (Addr×Obj))(s:Shared)(σ:St)(H:Hp)(x:V)(xs:List V)(v:Value)(us:List Value)(Q:VK),Inv X a σ H s->RelV x v->Vals xs us->r x xs H Q->
  wpAny (model X.prog X.w) X.A (call (.builtin b) (v::us)) (EP X a σ Q) X.xe s
theorem Vals.one{x:V}{a:List Value}(h:Vals [x] a):∃u,a=[u]/\RelV x u:=by
 cases h with
 | cons r t=>cases t;show⟨_,rfl,r⟩
theorem Vals.eraseIdx:∀{xs:List V}{us:List Value}(i:Nat),Vals xs us->Vals (xs.eraseIdx i) (us.eraseIdx i)
 | _,_,_,.nil=>.nil
 | _,_,0,.cons _ t=>t
 | _,_,i+1,.cons r t=>.cons r (Vals.eraseIdx i t)
theorem Lc{a:Type}:∀(l:List a)(i:Nat),(l.eraseIdx i).length<=l.length
 | [],_=>az _
 | _::_,0=>cj _
 | _::r,i+1=>Nat.succ_le_succ (Lc r i)
section
variable{X:Cx}{K':List (Addr×Obj)}{σ:St}{H:Hp}{s:Shared}{l b:Addr}{xs ys zs:List V}
theorem Inv.wO{its its':List Value}{n:Nat}{f:Array Value->Array Value}{t':Nat}(I:Inv X K' σ H s)(g:H l=some (.lst xs))
  (e:s.heap.get? l=some { cls:=.type "list",data:=.seq its.toArray n }) (c:f its.toArray=its'.toArray) (a:Vals ys its') (hz:ys.length<=sizeLine) :
  Inv X K' σ (upd H l (.lst ys)) { s with heap:=s.heap.update l (Obj.mapSeq f),toks:=t' }:=by
 have q:=PySem.IsL.update e f;rw[c] at q;show I.write (x:=l) (e:=l) (by rw[g];show trivial) (.inl rfl) (λh u d b=>(bj s.heap (Obj.mapSeq f) (Ne.symm d)).trans b) ⟨_,q⟩ ?_;show⟨hz,its',_,a,q⟩
theorem Inv.wQ{its:List Value}{t':Nat}(I:Inv X K' σ H s)(a:Vals ys its)(hz:ys.length<=sizeLine) :
  Inv X K' σ (upd H s.heap.objs.size (.lst ys)) { s with heap:=s.heap.push { cls:=.type "list",data:=.seq its.toArray },toks:=t' }:=
 I.laid (λ_ _ q=>aj _ q) (az _) ⟨hz,its,0,a,aB _ rfl⟩
theorem Inv.fresh(I:Inv X K' σ H s):H s.heap.objs.size=none:=I.dU.fresh (az _)
theorem Inv.uH(I:Inv X K' σ H s)(a:H l=some (.lst xs)):xs.length<=sizeLine/\∃(its:List Value)(n:Nat),Vals xs its/\xs.length=its.length/\s.heap.get? l=some { cls:=.type "list",data:=.seq its.toArray n }:=by
 obtain⟨z,its,n,r,e⟩:=I.dU l _ a;show⟨z,its,n,r,r.length,e⟩
theorem SA{n:Nat}(h:n<=sizeLine):Builtin.List.listTooLong n=false:=by
 unfold Builtin.List.listTooLong;show bg (by ext)
end
section
variable{X:Cx}
def Eg:V->List V->Hp->VK->Prop:=λx a H Q=>∃l xs y,x=.ref l/\a=[y]/\H l=some (.lst xs)/\xs.length<sizeLine/\Q .non (upd H l (.lst (xs++[y])))
theorem ES:HK X "list.append" Eg:=by
 intro i s σ H x f v us Q I b c h;obtain⟨l,xs,y,rfl,rfl,a,hz,q⟩:=h;cases b;obtain⟨u,rfl,d⟩:=c.one;obtain⟨z,its,n,r,g,e⟩:=I.uH a;show call_meets F.slot_list_append ⟨_,e,rfl⟩ F.entry_list_append (F.args_list_append_2 _ _) (PySem.list_append l its.toArray n u (by rw[aA];ext)) ⟨e,?_⟩;show⟨.non,_,I.wO (its':=its++[u]) a e (by simp) (r.append (.cons d .nil)) ?_,rfl,q⟩;rw[ay,List.length_singleton];ext
def JV:V->List V->Hp->VK->Prop:=λx a H Q=>∃l b xs zs,x=.ref l/\a=[.ref b]/\H l=some (.lst xs)/\H b=some (.lst zs)/\xs.length+zs.length<=sizeLine/\Q .non (upd H l (.lst (xs++zs)))
theorem TK:HK X "list.extend" JV:=by
 intro w s σ H x p v us Q I d f h;obtain⟨l,b,xs,zs,rfl,rfl,c,j,hz,q⟩:=h;cases d;obtain⟨u,rfl,g⟩:=f.one;cases g;obtain⟨z,its,n,r,t,e⟩:=I.uH c;obtain⟨o,a,n2,i,y,k⟩:=I.uH j;have hsz:its.toArray.size+a.toArray.size<=sizeLine:=by rw[aA,aA];ext
 have m:¬(!its.toArray.isEmpty&&Builtin.List.listTooLong (its.toArray.size+a.toArray.size))=true:=by
  rw[SA hsz,Bool.and_false];show aW
 show call_meets F.slot_list_extend ⟨_,e,rfl⟩ F.entry_list_extend (F.args_list_extend_2 _ _)
  (AutoSeq1.list_extend_list_list_0 l its.toArray n b a.toArray n2 m (by rw[aA];ext) (by ext)) ⟨e,k,?_⟩
 show⟨.non,_,I.wO (its':=its++a) c e (by simp) (r.append i) ?_,rfl,q⟩;rw[ay];ext
end
section
variable{prog:Program}{w:World}{A:Around}{E:Value->Shared->Prop}{s:Shared}
end
end L2
namespace NI
open PySem PySem.W PySem.Calls PyProof.Rows
theorem VF{P:Params}{h:Heap}:∀(ns:List Int)(c:List Value),WellAll P h c (ns.map WData.int)->IntsAre c ns:=by
 intro ns;induction ns with
 | nil=>
  intro c w;rw[bQ] at w;cases w;show .nil
 | cons n ns d=>
  intro c w;rw[ax] at w;cases w with
  | cons a b=>
   cases a;show .cons _ _ (d _ b)
theorem TJ{l:OpenLaw}{n:Nat}(o:l.most=some n){P:Params}{h:Heap}{args:List WData}{b:List Value}
  (g:l.row.toRowW.claim.pre args=true) (j:WellAll P h b args) :
  ∃a f ns,b=[Value.ref a]/\args=[WData.list (ns.map WData.int)]/\h.get? a=some { cls:=.type "list",data:=.seq f.toArray }/\IntsAre f ns/\ns.length<=n:=by
 have u:WShape.hasAll [] args [.list .int]=true:=(pre_splitW g).1;have i:l.pre.holds [] { args:=args }=true:=(pre_splitW g).2;obtain⟨d,r,rfl,t,s⟩:=hasAllW_cons u;obtain rfl:=hasAllW_nil s;obtain⟨xs,rfl,p⟩:=hasW_list t;obtain⟨ns,rfl⟩:=items_int p;have hlen:ns.length<=n:=by
  unfold OpenLaw.pre at i;have e:(WTm.not (.lt (.lit (.int (n:Int))) (.len (.arg 0)))).holds [] { args:=[.list (ns.map .int)] }=true:=by
   have e:=(holds_andW i).1;rw[o] at e;show e
  have c:=condW_of e (w_not (w_lt w_lit (w_len_list (w_arg rfl))));rw[ae] at c;show Nat.le_of_not_lt λq=>?_
  have k:(n:Int)<((ns.length:Nat):Int):=by ext
  first
   | (rw[decide_eq_true k] at c;show absurd c (by decide))
   | (simp at c;ext)
 cases j with
 | cons w1 w2=>
  cases w2;cases w1 with
  | list m v=>show⟨_,_,ns,rfl,rfl,m,VF ns _ v,hlen⟩
theorem TH(l:OpenLaw)(args:List WData):l.row.toRowW.claim.post args (.bool true) args=true:=
 postW_of (r:=l.row.toRowW) (X:=(true==true))
  (show WShape.has [] (.bool true) .bool=true by first | rfl | decide | simp[WShape.has,WShape.arms,WShape.armsAll])
  (show(WTm.eq .res (.lit (.bool true))).value [] { args:=args,res:=some (.bool true),after:=args }=some (.bool (true==true)) from w_eq_bool (w_res rfl) w_lit) rfl
theorem oh{l:OpenLaw}{n:Nat}{q:Program}{b:List Str}{k:(Str->Option Value)->Heap->Prop}{j:World->Heap->Prop}{d:DefRec}
  (x:l.most=some n) (D:d.params.defaults=[])
  (call:∀(w:World)(fU c:Shared)(mg h:Str->Option Value)(fa:Addr)(o:Obj)(pm cd doc:Value)(a:Addr)(e:List Value)(ns:List Int),
   Ground q b [] k w fU mg h c.heap->j w c.heap->
   c.heap.get? fa=some o->o.data=.func (docDef d.name d.params d.body d.scope pm cd doc)->c.heap.CodeRec cd d.name->mg d.name=some (.ref fa)->
   c.heap.get? a=some { cls:=.type "list",data:=.seq e.toArray }->IntsAre e ns->ns.length<=n->c.gens=#[]->
   codeAny (model l.prog w) callerA (.call (.ref fa) ⟨[.ref a],[]⟩) (λr g=>r=.ok (.ret (.bool true))/\OldK c.heap g.heap/\g.os=c.os/\AllBare g.gens) c) :
  WalkO q b k j l.row.toRowW d [] (λf e=>PySem.call f e):=by
 intro w fU c mg h G Y fa o pm cd doc C kV v hd t i uL y args vals as s F E m H;obtain rfl:C=.none:=Dflts.none i D;obtain rfl:kV=.none:=Dflts.noKw i;obtain⟨a,e,ns,rfl,rfl,p,hints,hlen⟩:=TJ x s m;show enter_call (codeAny_mono (call w fU c mg h fa o pm cd doc a e ns G Y v (fd_plain hd) t uL p hints hlen y) λr g u=>?_);obtain⟨rfl,B,A,z⟩:=u;show⟨.inl ⟨.bool true,.bool true,[],rfl,λ_=>rfl,.bool true,TH l _,λ_=>⟨List.Pairwise.nil,λ_ hm=>(nomatch hm)⟩⟩,B,A,z⟩
end NI
namespace L2
open PySem PySem.Spec PyProof.Rows
theorem ER:∀{a:List Value}{ns:List Int},IntsAre a ns->Vals (ns.map V.int) a
 | _,_,.nil=>.nil
 | _,_,.cons n t h=>.cons ⟨t,rfl⟩ (ER h)
def HY(H:Hp):Prop:=∀b,H b=none\/∃o xs,H b=some (.lZ o (.lst xs))
theorem Sz{P:Program}{w:World}{K:J'}{mg p:Str->Option Value}{O:t7}{k:Nat}{fa a:Addr}{L:FuncData}{x:Str}{A:Sp}{c:Shared}{i:List Value}{ns:List Int}
  (KX:K.In c.heap) (D:c.heap.Ns mainGlobals mg) (f:c.heap.Ns builtinsNs p) (YD:∀x:Str,x≠"__name__"->p x=bootBuiltins x) (He:c.heap.NoLimit) (Y:c.gens=#[])
  (ha:c.heap.get? a=some { cls:=.type "list",data:=.seq i.toArray }) (hi:IntsAre i ns) (G:ns.length<=sizeLine) (X:eY k callerA)
  (F:∀base:Heap,K.In base->base.Ns mainGlobals mg->i6 P w K mg base O k fa L [x] A) (Bb:∀(s:Shared)(u:Value),BindsTo s L ⟨[u],[]⟩ [(x,u)])
  (R:∀H:Hp,HY H->fH K H a (ns.map V.int)->A [.ref a] H (λv _=>v=.bl true) λ_ _ _=>False)
  (YM:∀H e g,O [] H c (λ_ _ _=>False) e g->False) :
  codeAny (model P w) callerA (.call (.ref fa) ⟨[.ref a],[]⟩) (λr g=>r=.ok (.ret (.bool true))/\OldK c.heap g.heap/\g.os=c.os/\AllBare g.gens) c:=by
 have B:=ER hi;have Gz:=hi.length
 -- from an abstract heap in Mp nothing but C S may be tracked
 have core:∀H:Hp,HY H->fH K H a (ns.map V.int)->j6 P w H c.heap->(∀b,H b≠none->b=a)->(H a≠none->K.lookup a=none)->
   codeAny (model P w) callerA (.call (.ref fa) ⟨[.ref a],[]⟩) (λr g=>r=.ok (.ret (.bool true))/\OldK c.heap g.heap/\g.os=c.os/\AllBare g.gens) c:=by
  intro H I Z dU J hK;have E:∀{b:Addr}{o:Obj},c.heap.get? b=some o->H b=none->(uf c.heap H).get? b=some o:=λe n=>So e n
  have AE:∀{b:Addr}{o:Obj}{es:Array DictEntry}{ep:Nat},c.heap.get? b=some o->o.data=.dict es ep->H b=none:=λ{b o es ep} e d=>by
   cases q:H b with
   | none=>rfl
   | some u=>
    have y:b=a:=J b (by rw[q];simp);subst y;rw[ha] at e;cases e;have d':Data.seq i.toArray _=Data.dict es ep:=d;cases d'
  have l:∀{b:Addr}{m:Str->Option Value},c.heap.Ns b m->(uf c.heap H).Ns b m:=λ{b m} ⟨o,es,ep,e,d,r⟩=>⟨o,es,ep,E e (AE e d),d,r⟩
  have N:K.In (uf c.heap H):=λb o e=>E (KX b o e) (by
   cases q:H b with
   | none=>rfl
   | some u=>
    have y:b=a:=J b (by rw[q];simp);subst y
    rw[hK (by rw[q];simp)] at e;cases e)
  have hM:Mod K mg (uf c.heap H):=⟨N,l D,⟨p,l f,YD⟩,let⟨W,h1,h2⟩:=He;⟨W,l h1,h2⟩⟩
  have e0:ph P w K mg (uf c.heap H) callerA [] c H:=⟨rfl,hM,λb o e=>Q4 e,Nat.le_of_eq (Tc _ _),trivial,λb f=>absurd (show b∈([]:List Addr) from f) (by simp),dU,.of_eq Y⟩
  show codeAny_mono ((F _ N (l D)).run callerA [] c H ⟨[.ref a],[]⟩ [.ref a] [.ref a] _ _ X e0 (Bb c (.ref a)) (.cons rfl .nil) (R H I Z)) λr g h=>?_
  cases r with
  | error e=>show(YM H e g h).elim
  | ok fl=>
   cases fl with
   | next=>show False.elim h
   | brk=>show False.elim h
   | cont=>show False.elim h
   | ret u=>
    obtain⟨v,H',os,bare,un,G8,T,q⟩:=h;have U:v=.bl true:=q;subst U;obtain rfl:u=Value.bool true:=T;show⟨rfl,OldK.of_keep λb o e=>?_,os,bare⟩;cases q:H b with
    | none=>show un.keep b o e q (by intro z;show absurd (show b∈([]:List Addr) from z) (by simp)) (by simp)
    | some u=>
     rcases I b with z | ⟨ob,xs,z⟩
     .rw[q] at z;cases z
     have Q:=un.mS b ob _ z;obtain⟨M,_⟩:=dU b _ z;obtain⟨e2,_⟩:=G8 b _ Q;rw[e] at M;cases M;show e2
 cases t:K.lookup a with
 | some o=>
  -- C S is one of C AG own objects
  have e:=KX a o t;rw[ha] at e;cases e;show core (λ_=>none) (λ_=>.inl rfl) (.inr ⟨_,i.toArray,_,t,rfl,rfl,rfl,by rw[aA,Gz];show G,by simpa using B⟩) (λb u z=>by have j:(none:Option HO)=some u:=z;cases j) (λb z=>absurd rfl z) λz=>absurd rfl z
 | none=>
  show core (λb=>if b=a then some (.lZ { cls:=.type "list",data:=.seq i.toArray } (.lst (ns.map V.int))) else none) (λb=>?_) (.inl (.inr ⟨{ cls:=.type "list",data:=.seq i.toArray },if_pos rfl⟩)) (λb u z=>?_) (λb z=>?_) λ_=>t
  .by_cases f:b=a
   .exact .inr ⟨_,_,if_pos f⟩
   show .inl (if_neg f)
  .by_cases f:b=a
   .have j:=(if_pos f).symm.trans z;cases j;subst f;show⟨ha,by rw[ae];show G,i,_,B,ha⟩
   have j:=(if_neg f).symm.trans z;cases j
  by_cases f:b=a
  .exact f
  show absurd (if_neg f) z
noncomputable abbrev uZ{K:J'}{h:Heap}(_:K.In h):J':=K
def JU(s:Stmt)(j:Nat):Stmt:=match s with
 | .ClassDef _ _ _ body _ _ _ _ _ _ _=>body.getD j (.Pass ⟨0,0,0,0⟩)
 | _=>.Pass ⟨0,0,0,0⟩
noncomputable def fL(s:Stmt):Arguments:=match s with
 | .FunctionDef _ a _ _ _ _ _ _ _ _=>a
 | _=>{ posonlyargs:=[],args:=[],vararg:=none,kwonlyargs:=[],kw_defaults:=[],kwarg:=none,defaults:=[] }
noncomputable def dD(s:Stmt):List Stmt:=match s with
 | .FunctionDef _ _ b _ _ _ _ _ _ _=>b
 | _=>[]
noncomputable def cz(s:Stmt):Scope:=match s with
 | .FunctionDef _ _ _ _ _ _ sc _ _ _=>sc
 | _=>{ kind:=.function,names:=[],isGenerator:=false,isCoroutine:=false }
abbrev nH:t7:=λ_ _ _ _ _ _=>False
abbrev E0:XK:=λ_ _ _=>False
theorem Ik{X:Cx}:y7 nH X E0:=λ_ _ _ _ _ _ _ h=>h.elim
structure mY(dV:Value)(K:J')(x qual:Str)(st:Stmt)(f:Addr)(fd:FuncData):Prop where
 ex:∃(oc:Value)(od:Option Addr)(kV doc pm:Value)(an:Option Addr)(c9 ct:Value)(oJ:Array (Option Value)),
  fd=PySem.W.fnOf x qual (fL st) (dD st) (cz st) dV kV doc pm an c9 ct/\K.lookup f=some ⟨oc,od,.func fd,oJ⟩/\PySem.W.codeIn K c9 qual=true
 kp:PySem.W.keepIn K (.ref f)=true
noncomputable abbrev Dv:=mY .none
section
variable{P:Program}{w:World}{K:J'}{mg:Str->Option Value}{base:Heap}
theorem mY.ok{m:Value}{x a:Str}{st:Stmt}{f:Addr}{e:FuncData}{N ps:List Str}{k:Nat}{d:Sp}(F:mY m K x a st f e)(S:cF N ps (cz st))(len:∀b H Q E,d b H Q E->b.length=ps.length)
  (i:∀(c:Value)(A:Around)(outer:List Env)(s:Shared)(H:Hp)(b:List V)(Q:VK)(E:XK),eY k (A.deeper (envOfC a (cz st) s.heap.objs.size f c))->d b H Q E->
   ∃t,pf (qI nH P w K mg base N a (cz st) f c A outer s H E).tR (dD st) t/\t { nx:=λ_ n=>Q .non n,rt:=Q } (lR N b) H):i6 P w K mg base nH (k+1) f e ps d:=by
 obtain⟨o,od,kV,doc,pm,an,c,ct,p,rfl,lk,j⟩:=F.ex;show OF lk j S len λA outer s H b Q E l g=>?_
 obtain⟨t,h,q⟩:=i c A outer s H b Q E l g;show⟨t,h.tR,q⟩
theorem mY.binds{x a:Str}{st:Stmt}{f:Addr}{c:FuncData}{ps:List Str}(F:Dv K x a st f c)
  (h:∀(kV doc pm:Value)(an:Option Addr)(b ct:Value)(us:List Value),us.length=ps.length->bindArgs (PySem.W.fnOf x a (fL st) (dD st) (cz st) .none kV doc pm an b ct) ⟨us,[]⟩=pure (ps.zip us)):Binds K c ps []:=by
 obtain⟨d,od,kV,doc,pm,an,b,ct,e,rfl,lk,g⟩:=F.ex;show .all (h kV doc pm an b ct)
theorem D4{x a:Str}{st:Stmt}{f:Addr}{h:Value}{od g:Option Addr}{i:Array (Option Value)}{e kV b pm d ct:Value}(l:K.lookup f=some ⟨h,od,.func (PySem.W.fnOf x a (fL st) (dD st) (cz st) e kV b pm g d ct),i⟩)
  (c:PySem.W.codeIn K d a=true) (k:PySem.W.keepIn K (.ref f)=true):mY e K x a st f (PySem.W.fnOf x a (fL st) (dD st) (cz st) e kV b pm g d ct):=⟨⟨h,od,kV,b,pm,g,d,ct,i,rfl,l,c⟩,k⟩
end
section
variable{X:Cx}
theorem pv(i:Nat){x:Str}{pos:Pos}(c:X.N[i]?=some x:=by rfl)(b:oN X.env.scope x:=by first | show Or.inl rfl | show Or.inr (Or.inl rfl) | show Or.inr (Or.inr rfl))(hd:(x==("__debug__":Str))=false:=by decide)
  (a:(x==("__classdict__":Str))=false:=by decide):PE X (.Name x pos) (Ih i):=qe c b hd a
end
def cO(H a:Hp):Prop:=∀b o,H b=some o->a b=some o
theorem cO.refl(H:Hp):cO H H:=λ_ _ h=>h
theorem cO.trans{H e d:Hp}(a:cO H e)(b:cO e d):cO H d:=λc o h=>b c o (a c o h)
theorem cO.free{H a:Hp}(e:cO H a){l:Addr}(h:a l=Option.none):H l=Option.none:=by
 cases q:H l with
 | none=>rfl
 | some o=>
  rw[e l o q] at h;cases h
end L2
set_option maxHeartbeats 0
namespace L2
open PySem PySem.Spec PyProof.Rows
def lA(K:J')(H:Hp)(a:Addr)(xs:List V):Prop:=
 Rd H a (.lst xs)\/∃(its:Array Value)(n:Nat),K.lookup a=some { cls:=.type "list",data:=.seq its n }/\its.size<=sizeLine/\Vals xs its.toList
theorem lA.of{K:J'}{H:Hp}{a:Addr}{xs:List V}(h:H a=some (.lst xs)):lA K H a xs:=.inl (.inl h)
theorem lA.sq{K:J'}{H:Hp}{a:Addr}{xs:List V}(h:lA K H a xs):fH K H a xs:=by
 rcases h with h | ⟨its,n,d,c,b⟩
 .exact .inl h
 show .inr ⟨_,its,n,d,rfl,rfl,rfl,c,b⟩
theorem cO.gq{K:J'}{H b:Hp}{a:Addr}{xs:List V}(e:cO H b)(h:lA K H a xs):lA K b a xs:=by
 rcases h with(h | ⟨o,h⟩) | h
 .exact .inl (.inl (e _ _ h))
 .exact .inl (.inr ⟨o,e _ _ h⟩)
 show .inr h
theorem Inv.gq{X:Cx}{g:List (Addr×Obj)}{c:St}{H:Hp}{s:Shared}{a:Addr}{xs:List V}(I:Inv X g c H s)(h:lA X.K H a xs):xs.length<=sizeLine/\∃(its:List Value)(n:Nat),Vals xs its/\s.heap.get? a=some { cls:=.type "list",data:=.seq its.toArray n }:=by
 rcases h with h | ⟨its,n,f,d,b⟩
 .obtain⟨z,its,n,r,e⟩:=h.ok I.dU;show⟨z,its,n,r,e⟩
 show⟨by rw[b.length];simpa using d,its.toList,n,b,?_⟩;rw[Array.toArray_toList];show I.nE a _ f
noncomputable def nA(cells:List (Str×Addr)):List (Str×NameKind)->List (Str×Addr)->List (Str×Addr)
 | [],acc=>acc
 | (n,k)::r,acc=>nA cells r (if k==.free then(n,(cells.lookup n).getD 0)::acc else acc)
theorem LQ{env:Env}:∀(names:List (Str×NameKind))(acc:List (Str×Addr)),(∀x∈names,x.2=.free->∃c,env.cells.lookup x.1=some c)->
  (forIn names acc λ(x:Str×NameKind)(r:List (Str×Addr))=>
   (if (x.2==NameKind.free)=true then do let a <-cellOf env x.1;pure (ForInStep.yield ((x.1,a)::r)) else pure (ForInStep.yield r):Sem (ForInStep (List (Str×Addr)))))=pure (nA env.cells names acc)
 | [],acc,_=>by simp[nA]
 | (n,k)::r,acc,h=>by
  have d:=λg=>LQ (env:=env) r g λx hx=>h x (aK _ hx)
  rw[List.forIn_cons];by_cases e:k=.free
  .subst e;obtain⟨c,f⟩:=h (n,.free) (by simp) rfl;have i:cellOf env n=pure c:=by unfold cellOf;rw[f]
   simp only[beq_self_eq_true,aX,i,pure_bind];rw[d];simp[nA,f]
  have b:(k==NameKind.free)=false:=by simpa using e
  simp only[b,aq,aQ,pure_bind];rw[d];simp[nA,b]
theorem LP{env:Env}{scope:Scope}(h:∀x∈scope.names,x.2=.free->∃c,env.cells.lookup x.1=some c):closureFor scope env=pure (nA env.cells scope.names []):=by
 have e:closureFor scope env=(forIn scope.names ([]:List (Str×Addr)) λ(x:Str×NameKind)(r:List (Str×Addr))=>
   (if (x.2==NameKind.free)=true then do let a <-cellOf env x.1;pure (ForInStep.yield ((x.1,a)::r)) else pure (ForInStep.yield r):Sem (ForInStep (List (Str×Addr))))) >>= λr=>pure r:=rfl
 rw[e,LQ _ _ h];rfl
theorem KA{cells:List (Str×Addr)}:∀{names:List (Str×NameKind)}{acc:List (Str×Addr)}{x:Str}{c:Addr},(x,c)∈nA cells names acc->(x,c)∈acc\/((x,.free)∈names/\c=(cells.lookup x).getD 0)
 | [],acc,x,c,h=>.inl h
 | (n,k)::r,acc,x,c,h=>by
  rcases KA (names:=r) h with h | ⟨h,e⟩
  .by_cases a:k=.free
   .subst a;simp only[beq_self_eq_true,aX] at h;rcases au.mp h with h | h
    .cases h;show .inr ⟨by simp,rfl⟩
    show .inl h
   have b:(k==NameKind.free)=false:=by simpa using a
   simp only[b,aq,aQ] at h;show .inl h
  show .inr ⟨aK _ h,e⟩
theorem Kz{cells:List (Str×Addr)}:∀{names:List (Str×NameKind)}{acc:List (Str×Addr)}{p:Str×Addr},p∈acc->p∈nA cells names acc
 | [],acc,p,h=>h
 | (n,k)::r,acc,p,h=>Kz (names:=r) (by split<;>simp[h])
theorem Ey{cells:List (Str×Addr)}:∀{names:List (Str×NameKind)}{acc:List (Str×Addr)}{x:Str},(x,.free)∈names->∃c,(x,c)∈nA cells names acc
 | (n,k)::r,acc,x,h=>by
  rcases au.mp h with h | h
  .have b:x=n:=congrArg Prod.fst h;have a:NameKind.free=k:=congrArg Prod.snd h;subst b a;show⟨(cells.lookup x).getD 0,?_⟩;show(x,(cells.lookup x).getD 0)∈nA cells r (if (NameKind.free==NameKind.free)=true then(x,(cells.lookup x).getD 0)::acc else acc);show Kz (by simp)
  show Ey (names:=r) h
theorem CI{b:Type}:∀{l:List (Str×b)}{x:Str}{c:b},(x,c)∈l->∃a,l.lookup x=some a
 | (n,k)::r,x,c,h=>by
  by_cases e:x=n
  .subst e;show⟨k,by simp[List.lookup_cons]⟩
  have d:(x==n)=false:=by simpa using e
  rcases au.mp h with h | h
  .cases h;show absurd rfl e
  obtain⟨a,q⟩:=CI h;show⟨a,by simp[List.lookup_cons,d,q]⟩
theorem FY{env:Env}:∀{names:List (Str×NameKind)}{x:Str},
  (names.map λ(n,k)=>if (k==NameKind.free&&env.scope.kind==.function&&env.kindOf n==some .cell) then(n,NameKind.cell) else(n,k)).lookup x
   = (names.lookup x).map λk=>if (k==NameKind.free&&env.scope.kind==.function&&env.kindOf x==some .cell) then NameKind.cell else k
 | [],x=>rfl
 | (n,k)::r,x=>by
  have a:=@FY env r x;rw[ax];have b:(if (k==NameKind.free&&env.scope.kind==.function&&env.kindOf n==some .cell)=true then(n,NameKind.cell) else(n,k))=(n,if (k==NameKind.free&&env.scope.kind==.function&&env.kindOf n==some .cell)=true then NameKind.cell else k):=by split<;>rfl
  show List.lookup x ((if (k==NameKind.free&&env.scope.kind==.function&&env.kindOf n==some .cell)=true then(n,NameKind.cell) else(n,k))::_)=_;rw[b];by_cases e:x=n
  .subst e;rw[List.lookup_cons,List.lookup_cons,beq_self_eq_true];rfl
  have c:(x==n)=false:=by simpa using e
  rw[List.lookup_cons,List.lookup_cons,c];show a
theorem F0:∀(names:List (Str×NameKind))(n:Nat)(acc a:List (Str×Addr)),cellsFrom n names (acc++a)=cellsFrom n names acc++a
 | [],_,_,_=>rfl
 | (x,k)::r,n,acc,a=>by
  unfold cellsFrom;split
  .exact F0 r (n+1) ((x,n)::acc) a
  show F0 r n acc a
theorem Fw:∀{names:List (Str×NameKind)}{n:Nat}{acc:List (Str×Addr)}{p:Str×Addr},p∈cellsFrom n names acc->p∈acc\/(p.1,.cell)∈names
 | [],_,_,_,h=>.inl h
 | (x,k)::r,n,acc,p,h=>by
  unfold cellsFrom at h;split at h
  .rename_i a;rcases Fw h with h | h
   .rcases au.mp h with rfl | h
    .rw[eq_of_beq a];show .inr (by simp)
    show .inl h
   show .inr (aK _ h)
  show(Fw h).imp id (aK _)
theorem z6:∀{names:List (Str×NameKind)}{n:Nat}{acc:List (Str×Addr)}{p:Str×Addr},p∈acc->p∈cellsFrom n names acc
 | [],_,_,_,h=>h
 | (x,k)::r,n,acc,p,h=>by
  unfold cellsFrom;split
  .exact z6 (aK _ h)
  show z6 h
theorem Fv:∀{names:List (Str×NameKind)}{n:Nat}{acc:List (Str×Addr)}{x:Str},(x,.cell)∈names->∃c,(x,c)∈cellsFrom n names acc
 | (y,k)::r,n,acc,x,h=>by
  unfold cellsFrom;rcases au.mp h with h | h
  .cases h;show⟨n,z6 (by simp)⟩
  split
  .exact Fv h
  show Fv h
theorem Sy{M:Model}{A:Around}{E:Value->Shared->Prop}{s:Shared}{scope:Scope}{a:Addr}{b:List (Str×Addr)}{c:Str}{d:Option Addr}{e:Value}{out:Env}{Q:Env->Shared->Prop}
  (f:∀h',h'=pushCells (s.heap.push { cls:=.type "dict",data:=.dict #[] }) scope.names->Q (newEnv scope s.heap.objs.size a (cellsFrom (s.heap.objs.size+1) scope.names b) c d e (some out) builtinsNs) { s with heap:=h' }) :
  wpAny M A (newFunctionEnv scope a b [] c d e (some out)) Q E s:=by
 simp only[newFunctionEnv,Option.isSome_some,aX];show aa (wpAny_alloc ?_);show aa (wpAny_layCells _ (λname kind cells=>by cases g:kind==NameKind.cell<;>simp[g]) _ _ _ _ ?_);rw[show({ s with heap:=s.heap.push { cls:=.type "dict",data:=.dict #[] } }:Shared).heap.objs.size=s.heap.objs.size+1 from Heap.size_push ..];rw[List.forIn_nil];show aa (ao (ao (f _ rfl)))
noncomputable abbrev ju(X:Cx)(N':List Str)(scope:Scope)(a:Shared)(b:Hp)(ex:List Addr):Cx:=
 { X with N:=N',fU:=a,sW:=b,env:=compEnvC scope (cellsFrom (a.heap.objs.size+1) scope.names (nA X.env.cells scope.names [])) a.heap.objs.size X.env,outer:=X.stack,stack:=X.stack,ex:=ex,fn:=λx=>scope.names.lookup x==some .cell,pn:=[],xe:=λ_ _=>False }
noncomputable def si(m:List (Option Nat))(a:St):St:=m.map λo=>match o with
 | none=>none
 | some j=>(a[j]?).join
structure du(X:Cx)(N':List Str)(m:List (Option Nat))(scope:Scope):Prop where
 kind:scope.kind=.function
 len:m.length=N'.length
 uniq:∀y∈scope.names,scope.names.lookup y.1=some y.2
 free:∀y∈scope.names,y.2=.free->X.env.kindOf y.1=some .cell\/X.env.kindOf y.1=some .free
 Y2:∀(i j:Nat)(x:Str),m[i]?=some (some j)->N'[i]?=some x->X.N[j]?=some x/\scope.names.lookup x=some .free
def yz(X:Cx)(a:List Expr)(t:TT):Prop:=
 ∀(b:List (Addr×Obj))(s:Shared)(σ:St)(H:Hp)(Q:Bool->Hp->Prop),Inv X b σ H s->t σ H Q->
  wpAny (model X.prog X.w) X.A (forIn a true λc r=>if r=true then do let ok <-isTrue c X.env (eval c X.env);pure (ForInStep.yield ok) else pure (ForInStep.yield r)) (TP X b σ Q) X.xe s
def N0:TT:=λ_ H Q=>Q true H
theorem Rb{X:Cx}:yz X [] N0:=λ_ _ σ H _ I h=>wpAny_tests_nil ⟨H,I,h⟩
theorem Ra{X:Cx}{c:Expr}{t:TT}(h:PT X c t):yz X [c] t:=λa s σ H Q I q=>wpAny_tests_one (h a s σ H Q I q)
section
variable{prog:Program}{w:World}{A:Around}{R:Result->Shared->Prop}{s:Shared}
theorem UI{e a b:Expr}{d:List Expr}{scope:Scope}{pos:Pos}{i acc:Value}{env:Env}(I:Nat->Shared->Prop)
  (turn:∀n s,I n s->wpAny (model prog w) A (pyNext i) (λr k=>match r with
   | none=>R (.ok .next) k
   | some v=>wpAny (model prog w) A (letOwnedTupleGo a i v) (λ_ l=>wpAny (model prog w) A (assign a env v) (λ_ q=>
     wpAny (model prog w) A (forIn d true λc r=>if r=true then do let ok <-isTrue c env (eval c env);pure (ForInStep.yield ok) else pure (ForInStep.yield r)) (λok j=>
      if ok=true then wpAny (model prog w) A (eval e env) (λx o=>
       wpAny (model prog w) A (call (.builtin "list.append") [acc,x]) (λ_ t=>∃m,m<n/\I m t) (λ_ _=>False) o) (λ_ _=>False) j
      else ∃m,m<n/\I m j) (λ_ _=>False) q) (λ_ _=>False) l) (λ_ _=>False) k) (λ_ _=>False) s)
  (n:Nat) (h:I n s) :
  codeAny (model prog w) A (.compLoop (.ListComp e [⟨a,b,d,0⟩] scope pos) 0 i acc env) R s:=by
 show codeAny_loop rfl I (λn s y=>?_) n h;show wpAny _ A ((compTurn (.ListComp e [⟨a,b,d,0⟩] scope pos) 0 i acc env).onRaise (λx=>do noteFrame x env;theTreesLotGoes x)) _ _ s;show wpAny_noted ?_;rw[compTurn_list];have g:∀{E:Value->Shared->Prop}(x:Value)(s:Shared),(λ(_:Value)(_:Shared)=>False) x s->E x s:=λ_ _ f=>f.elim
 show aa (wpAny_standAt (aa (wpAny_mono (turn n s y) (λr k p=>?_) g)));cases r with
 | none=>show ao p
 | some v=>
  show aa (wpAny_mono p (λ_ l D=>?_) g);show aa (wpAny_mono D (λ_ q z=>aa (wpAny_mono z (λok j u=>?_) g)) g);cases ok with
  | false=>show ao ⟨rfl,u⟩
  | true=>
   show aa (aa (wpAny_mono u (λx o B=>aa (wpAny_mono B (λ_ t C=>ao (ao ⟨rfl,C⟩)) g)) g))
end
noncomputable abbrev rg(a:Type):=Shared->Hp->List Addr->a
def yR(l:TI)(m:List (Option Nat))(g:rg TG)(tc:rg TT)(te:rg TE):TE:=λσ H Q=>l σ H λJ H1=>∀D,H1 D=none->∀s3 ex,
 ∃W:Nat->Nat->St->Hp->Prop,(∃k,W 0 k (si m σ) (upd H1 D (.lst [])))/\∀i k c a,W i k c a->
  (J.stop i a/\Q (.ref D) a)\/(J.go i a/\∃N:St->Hp->Prop,(∀c a,N c a->∃e,e<k/\W (i+1) e c a)/\
   ∀x j,J.CJ i a x j->g s3 (upd H1 D (.lst [])) ex x c j λd n=>tc s3 (upd H1 D (.lst [])) ex d n λb h=>
    if b=true then te s3 (upd H1 D (.lst [])) ex d h λv f=>∃xs,f D=some (.lst xs)/\xs.length<sizeLine/\N d (upd f D (.lst (xs++[v]))) else N d h)
section
variable{X:Cx}{elt iter tg:Expr}{ifs:List Expr}{scope:Scope}{pos:Pos}{N':List Str}{m:List (Option Nat)}{wi:TI}{g:rg TG}{tc:rg TT}{te:rg TE}
theorem Sx{S:List (Addr×Obj)}{A:St}{H:Hp}{s:Shared}{fp:List Addr}{C:Heap}{tk:Nat}(w:du X N' m scope)(I:Inv X S A H s)(f:∀b∈fp,kJ X S H b)(Q:∀b∈fp,b<s.heap.objs.size)
  (J:C=pushCells (s.heap.push { cls:=.type "dict",data:=.dict #[] }) scope.names) :
  Inv (ju X N' scope s H fp) [] (si m A) H { s with heap:=C,toks:=tk }:=by
 have D:∀b o,s.heap.get? b=some o->C.get? b=some o:=λb o e=>by rw[J];show pushCells_keeps _ _ b o (aj _ e)
 have W:C.Ns s.heap.objs.size (λ_=>none):=by rw[J];show(Heap.Ns.new s.heap (.type "dict")).keeps (pushCells_keeps _ _)
 have ok:=cellsFrom_ok scope.names (s.heap.push { cls:=.type "dict",data:=.dict #[] }) (s.heap.objs.size+1) [] ⟨λ_ _ hm=>(nomatch hm),List.Pairwise.nil⟩ (by rw[Heap.size_push];show az _);rw[Heap.size_push,<-J] at ok;have fA:∀y∈scope.names,y.2=.free->∃c,X.env.cells.lookup y.1=some c:=λy Z hf=>I.ok.has y.1 (w.free y Z hf)
 have app:cellsFrom (s.heap.objs.size+1) scope.names (nA X.env.cells scope.names [])=cellsFrom (s.heap.objs.size+1) scope.names []++nA X.env.cells scope.names []:=F0 _ _ [] _
 /- a cell: of its own,or one from around -/
 have t:∀x c,(cellsFrom (s.heap.objs.size+1) scope.names (nA X.env.cells scope.names [])).lookup x=some c->((x,c)∈cellsFrom (s.heap.objs.size+1) scope.names []/\scope.names.lookup x=some .cell)\/(X.env.cells.lookup x=some c/\scope.names.lookup x=some .free):=λx c e=>by
  have hm:=PySem.mem_of_lookup e;rw[app] at hm;rcases aw.mp hm with hm | hm
  .refine .inl ⟨hm,?_⟩;rcases Fw hm with z | z
   .cases z
   show w.uniq _ z
  rcases KA hm with z | ⟨z,R⟩
  .cases z
  obtain⟨L,q⟩:=fA _ z rfl;rw[q] at R;show .inr ⟨by rw[q,R];rfl,w.uniq _ z⟩
 have old:∀x c,X.env.cells.lookup x=some c->c<s.heap.objs.size:=λx c e=>by obtain⟨v,z⟩:=I.cell x c e;show z.lt
 show⟨⟨I.ok.mod,w.kind,I.ok.glob,I.ok.blt,az _,λx y c e1 e2=>?inj,λx hx=>?_,λx c hx e=>?cab,I.ok.hd,I.ok.frames,.inl rfl,λb r=>⟨aN (Q b r),λx c e=>?exf⟩,
  λb o e=>I.bs b o e,aL I.ok.vI I.sz,λb o e r=>?_,λb r z=>?_,I.stack,I.pI⟩,
  rfl,I.bare,Un.kept D,⟨_,W,λi x v h1 d h3=>?_⟩,λx c e=>?_,I.dU.fresh (az _),λx c e=>?frc,λp hp=>(by cases hp),I.dU.kept D,?_⟩
 case inj=>
  rcases t x c e1 with⟨g,_⟩ | ⟨l,_⟩<;>rcases t y c e2 with⟨P,_⟩ | ⟨O,_⟩
  .exact PySem.name_of_addr ok.apart g P
  .exact absurd (old y c O) (Nat.not_lt.mpr (aL (cj _) (ok.empty x c g).2))
  .exact absurd (old x c l) (Nat.not_lt.mpr (aL (cj _) (ok.empty y c P).2))
  show I.ok.inj x y c l O
 case cab=>
  rcases t x c e with⟨g,_⟩ | ⟨_,z⟩
  .exact aL (cj _) (ok.empty x c g).2
  have h:(scope.names.lookup x==some .cell)=true:=hx;rw[z] at h;cases h
 case exf=>
  rcases t x c e with⟨g,_⟩ | ⟨l,_⟩
  .exact Nat.ne_of_gt (aV (bY (Q b r)) (ok.empty x c g).2)
  show(f b r).2.2.2.2.1 x c l
 case frc=>
  rcases t x c e with⟨g,_⟩ | ⟨l,_⟩
  .exact I.dU.fresh (aL (cj _) (ok.empty x c g).2)
  show I.iO x c l
 .have h:(relabel scope X.env).names.lookup x=some .cell\/(relabel scope X.env).names.lookup x=some .free:=hx;have e:(relabel scope X.env).names.lookup x=(scope.names.lookup x).map λk=>if (k==NameKind.free&&X.env.scope.kind==.function&&X.env.kindOf x==some .cell) then NameKind.cell else k:=FY
  rw[e] at h;have hf:(x,NameKind.free)∈scope.names\/(x,NameKind.cell)∈scope.names:=by
   cases q:scope.names.lookup x with
   | none=>rw[q] at h;simp at h
   | some k=>
    rw[q] at h;have hm:=PySem.mem_of_lookup q;by_cases E:k=.free
    .subst E;show .inl hm
    have U:(k==NameKind.free)=false:=by simpa using E
    simp only[U,Option.map_some,Bool.false_and,aq,aQ,aG] at h;rcases h with z | z
    .subst z;show .inr hm
    show absurd z E
  show ∃c,(cellsFrom (s.heap.objs.size+1) scope.names (nA X.env.cells scope.names [])).lookup x=some c
  rcases hf with hf | hf
  .obtain⟨c,K⟩:=Ey (cells:=X.env.cells) (acc:=[]) hf;show CI (z6 K)
  obtain⟨c,K⟩:=Fv (n:=s.heap.objs.size+1) (acc:=nA X.env.cells scope.names []) hf;show CI K
 .rcases(f b r).2.2.2.1 with z | z
  .exact I.ok.r8 b o e z
  show absurd (aV (aF (I.ok.bs b o e).1) z) (Nat.lt_irrefl _)
 .rcases au.mp (I.oU b z) with q | q
  .exact(f b r).2.1 q
  show(f b r).2.2.1 q
 .unfold si at d;rw[aJ] at d;cases q:m[i]? with
  | none=>rw[q] at d;cases d
  | some o=>
   rw[q] at d;cases o with
   | none=>cases d
   | some j=>
    simp only[Option.map_some,aG] at d;have Nu:A[j]?=some (some v):=by
     cases z:A[j]? with
     | none=>rw[z] at d;cases d
     | some a=>rw[z] at d;simp at d;rw[d]
    obtain⟨hN,G⟩:=w.Y2 i j x q h1;have T:=PySem.mem_of_lookup G;obtain⟨m0,Zp,hl⟩:=I.loc;have M:=w.free _ T rfl;have GK:oN X.env.scope x:=M.elim (λz=>.inr (.inl z)) (λz=>.inr (.inr z));obtain⟨u,V,Y⟩:=hl j x v hN Nu GK;show⟨u,V,.inr ⟨?_,?_⟩⟩
    .show(relabel scope X.env).names.lookup x=some .cell\/(relabel scope X.env).names.lookup x=some .free;have e:(relabel scope X.env).names.lookup x=(scope.names.lookup x).map λk=>if (k==NameKind.free&&X.env.scope.kind==.function&&X.env.kindOf x==some .cell) then NameKind.cell else k:=FY
     rw[e,G];simp only[Option.map_some];split
     .exact .inl rfl
     show .inr rfl
    rcases Y with⟨k,_⟩ | ⟨_,c,e,z⟩
    .rcases M with z | z<;>· rw[k] at z;cases z
    obtain⟨L,N⟩:=CI (z6 (names:=scope.names) (n:=s.heap.objs.size+1) (Ey (cells:=X.env.cells) (acc:=[]) T).choose_spec);have:X.env.cells.lookup x=some L:=by
     rcases t x L N with⟨_,z⟩ | ⟨z,_⟩
     .rw[G] at z;cases z
     show z
    rw[e] at this;cases this;obtain⟨B,F,hd⟩:=z;show⟨c,N,B,D c B F,hd⟩
 .rcases t x c e with⟨g,_⟩ | ⟨l,_⟩
  .exact⟨none,(ok.empty x c g).1⟩
  obtain⟨v,B,F,hd⟩:=I.cell x c l;show⟨v,B,D c B F,hd⟩
 show(si m A).length=N'.length;unfold si;rw[ae,w.len]
theorem Lb{use:Option (Value->Sem Unit)}{V:Value->Shared->Prop}{l:List (Addr×Obj)}{s:Shared}{z:St}{H:Hp}{Q:VK}
  (hc:X.calm=true) (cs:du X N' m scope) (hi:PI X tg iter wi) (hg:∀s3 q ex,PG (ju X N' scope s3 q ex) tg (g s3 q ex)) (ht:∀s3 q ex,yz (ju X N' scope s3 q ex) ifs (tc s3 q ex))
  (he:∀s3 q ex,PE (ju X N' scope s3 q ex) elt (te s3 q ex)) (I:Inv X l z H s) (h:yR wi m g tc te z H Q)
  (fin:∀D C E f,Inv X l z f E->kJ X l f C->(∃m,E.heap.Ns C m)->Q (.ref D) f->compPost (model X.prog X.w) X.A X.xe use V (.ref D) C (.ok .next) E) :
  wpAny (model X.prog X.w) X.A (eval iter X.env) (λx de=>wpAny (model X.prog X.w) X.A (pyIter x) (λit lV=>wpAny (model X.prog X.w) X.A (newList []) (λacc rP=>
   wpAny (model X.prog X.w) X.A (newFunctionEnv scope X.env.globals (nA X.env.cells scope.names []) [] X.env.qual none .none (some X.env)) (λBh uB=>
    codeAny (model X.prog X.w) X.A (.compStart (.ListComp elt [⟨tg,iter,ifs,0⟩] scope pos) 0 it acc { Bh with scope:=relabel scope X.env }) (compPost (model X.prog X.w) X.A X.xe use V acc Bh.locals) uB) X.xe rP) X.xe lV) X.xe de) X.xe s:=by
 show dR (hi l s z H _ I h) λv s1 h1=>dR h1 λGD s2 h2=>?_
 obtain⟨it,fp,R,J,k,e,I2,T,cV,f2,h⟩:=h2;subst e;show wpAny_newObj_type (Sy λS vE=>?_);have hf:k s2.heap.objs.size=none:=I2.dU.fresh (az _);obtain⟨W,⟨k0,w0⟩,turn⟩:=h s2.heap.objs.size hf { s2 with heap:=s2.heap.push { cls:=.type "list",data:=.seq ([]:List Value).toArray } } fp;have I3:Inv X l z (upd k s2.heap.objs.size (.lst [])) { s2 with heap:=s2.heap.push { cls:=.type "list",data:=.seq ([]:List Value).toArray } }:=I2.wQ (its:=[]) (t':=s2.toks) .nil (by simp);have Ny:∀b∈fp,b<s2.heap.objs.size:=λb a=>by
  obtain⟨o,e,_⟩:=T.obj _ _ cV b a;show aF e
 have f3:∀b∈fp,kJ X l (upd k s2.heap.objs.size (.lst [])) b:=λb a=>⟨by rw[eU (aN (Ny b a))];show(f2 b a).1,(f2 b a).2⟩
 generalize MZ:({ s2 with heap:=s2.heap.push { cls:=.type "list",data:=.seq ([]:List Value).toArray } }:Shared)=s3 at *;have hC:s3.heap.objs.size=s2.heap.objs.size+1:=by rw[<-MZ];show Heap.size_push ..
 have Nz:∀b∈fp,b<s3.heap.objs.size:=λb a=>by rw[hC];show bY (Ny b a)
 have k3:∀b o,s2.heap.get? b=some o->s3.heap.get? b=some o:=λb o e=>by rw[<-MZ];show aj _ e
 have k1:∀b o,s3.heap.get? b=some o->S.get? b=some o:=λb o e=>by rw[vE];show pushCells_keeps _ _ b o (aj _ e)
 have Y:=Sx (tk:=s3.toks) cs I3 f3 Nz vE;have uC:R 0 S:=T.keep _ _ _ cV λb _ o e=>k1 b o (k3 b o e)
 have HC:∀{f:Hp},(∀b∈fp,f b=none)->∀b∈fp,kJ (ju X N' scope s3 (upd k s2.heap.objs.size (.lst [])) fp) [] f b:=λhn b a=>
  ⟨hn b a,aN (Nz b a),Y.ok.sQ b a,.inl a,(Y.ok.exf b a).2,λp hp=>by cases hp⟩
 have uO:∀b∈fp,(upd k s2.heap.objs.size (.lst [])) b=none:=λb a=>(f3 b a).1
 have loop:codeAny (model X.prog X.w) X.A (.compLoop (.ListComp elt [⟨tg,iter,ifs,0⟩] scope pos) 0 (.ref it) (.ref s2.heap.objs.size) (compEnvC scope (cellsFrom (s3.heap.objs.size+1) scope.names (nA X.env.cells scope.names [])) s3.heap.objs.size X.env))
   (compPost (model X.prog X.w) X.A X.xe use V (.ref s2.heap.objs.size) s3.heap.objs.size) { s3 with heap:=S }:=by
  show UI (λn E=>∃i K f,Inv (ju X N' scope s3 (upd k s2.heap.objs.size (.lst [])) fp) [] K f E/\R i E.heap/\(∀b∈fp,f b=none)/\W i n K f) ?_ k0 ⟨0,_,_,Y,uC,uO,w0⟩;rintro n s4 ⟨i,O,M,I4,Mr,yw,w4⟩;rcases turn i n O M w4 with⟨stop,qn⟩ | ⟨go,N,hN,step⟩
  .refine dR (T.done (ju X N' scope s3 (upd k s2.heap.objs.size (.lst [])) fp) rfl rfl rfl hc i [] s4 O M _ I4 (HC yw) Mr stop) λr s5 j=>?_
   obtain⟨U,F⟩:=j;subst U;have qV:∀b∈fp,(b∈X.ex\/X.fU.heap.objs.size<=b)/\b≠X.env.locals/\(∀x c,X.env.cells.lookup x=some c->c≠b)/\∀p∈X.pn++l,p.1≠b:=λb a=>⟨(f2 b a).2.2.2.1,(f2 b a).2.1,(f2 b a).2.2.2.2.1,(f2 b a).2.2.2.2.2⟩
   have Z:Inv X l z M s5:=I3.Bi (ch:=fp) F.os F.base F.dU F.bare qV;obtain⟨m5,Yi,_⟩:=id F.loc;show fin _ _ s5 M Z (I3.o7 (az _) F.free) ⟨m5,Yi⟩ qn
  show dR (T.item (ju X N' scope s3 (upd k s2.heap.objs.size (.lst [])) fp) rfl rfl rfl hc i [] s4 O M _ I4 (HC yw) Mr go) λr s5 j=>?_
  obtain⟨u,U,h5⟩:=j;subst U;show dR h5 λ_ s6 j=>?_
  obtain⟨x,H6,Z,r6,y6,F5,YV⟩:=j;have Y7:=Z.pinned (HC YV) (T.obj _ _ F5);show dR (hg _ _ _ _ s6 O H6 x u _ Y7 r6 (step x H6 y6)) λ_ s7 j=>?_
  obtain⟨P,H7,I7,q7⟩:=j;show dR (ht _ _ _ _ s7 P H7 _ I7 q7) λb s8 j=>?_
  obtain⟨H8,I8,q8⟩:=j;have again:∀{B:Shared}{G:St}{t:Hp},Inv (ju X N' scope s3 (upd k s2.heap.objs.size (.lst [])) fp) ([]++y8 fp s6.heap) G t B->N G t->∃m,m<n/\∃i K f,Inv (ju X N' scope s3 (upd k s2.heap.objs.size (.lst [])) fp) [] K f B/\R i B.heap/\(∀b∈fp,f b=none)/\W i m K f:=λ{B G t} L n9=>by
   obtain⟨m',hm,w9⟩:=hN G t n9;show⟨m',hm,i+1,G,t,L.jz,T.keep _ _ _ F5 λb a o e=>(L.pin (b,o) (aU _ (aU _ (CH a e)))).1,λb a=>?_,w9⟩;obtain⟨o,e,d⟩:=T.obj _ _ F5 b a;show(L.pin (b,o) (aU _ (aU _ (CH a e)))).2.1
  cases b with
  | false=>show again I8 q8
  | true=>
   rw[if_pos rfl];show dR (he _ _ _ _ s8 P H8 _ I8 q8) λy B j=>?_
   obtain⟨v9,t,L,r9,xs,hD,hz,q9⟩:=j;show dR (ES _ B P t (.ref s2.heap.objs.size) [v9] (.ref s2.heap.objs.size) [y] (λ_ f=>N P f) L rfl (.cons r9 .nil) ⟨_,xs,v9,rfl,rfl,hD,hz,q9⟩) λ_ Zi j=>?_
   obtain⟨_,ZI,Y9,_,Xu⟩:=j;show again Y9 Xu
 show codeAny_compStart_list loop (T.self _ 0 _ _ _ uC loop)
theorem JT(v:X.calm=true)(f:du X N' m scope)(hi:PI X tg iter wi)(u:∀s3 a ex,PG (ju X N' scope s3 a ex) tg (g s3 a ex))(n:∀s3 a ex,yz (ju X N' scope s3 a ex) ifs (tc s3 a ex))
  (he:∀s3 a ex,PE (ju X N' scope s3 a ex) elt (te s3 a ex)) (p:∀x,foldedSetIterable iter X.env x=pure x:=by intro _;rfl):PE X (.ListComp elt [⟨tg,iter,ifs,0⟩] scope pos) (yR wi m g tc te):=by
 intro E s σ H Q I h;rw[eval_ListComp];have z:∀y∈scope.names,y.2=.free->∃c,X.env.cells.lookup y.1=some c:=λy i hf=>I.ok.has y.1 (f.free y i hf)
 show wpAny_comprehension_free (use:=none) rfl p (LP z) f.kind (λy i t=>by rw[f.uniq y i,t]) (Lb v f hi u n he I h λD C k B A d ⟨l,r⟩ q=>?_);show⟨l,r,λh' j=>⟨.ref D,B,A.turned (t':=k.toks) (λb o w e=>(j.2 b w).trans e) d.1 d.2.1 d.2.2.2.1 d.2.2.2.2.1 d.2.2.2.2.2,rfl,q⟩⟩
theorem Ef{i:Nat}{x:Str}{d r:Pos}(O:X.N.Nodup)(t:X.N[i]?=some x)(hx:Loc X.env.scope x)
  (L:X.calm=true) (k:du X N' m scope) (hi:PI X tg iter wi) (K:∀s3 f ex,PG (ju X N' scope s3 f ex) tg (g s3 f ex)) (B:∀s3 f ex,yz (ju X N' scope s3 f ex) ifs (tc s3 f ex))
  (he:∀s3 f ex,PE (ju X N' scope s3 f ex) elt (te s3 f ex)) (E:∀x,foldedSetIterable iter X.env x=pure x:=by intro _;rfl)
  (u:swapsWith (.ListComp elt [⟨tg,iter,ifs,0⟩] scope pos) (some (.Name x d)) r.line X.env=pure true:=by rfl)
  (p:X.fn x=true\/X.env.scope.names.lookup x=some .local:=by first | show .inl rfl | show .inr rfl | assumption) :
  PS X (.Assign [.Name x d] (.ListComp elt [⟨tg,iter,ifs,0⟩] scope pos) r) (DF (yR wi m g tc te) (DU i)):=by
 intro U s σ H D I h;have P:∀y∈scope.names,y.2=.free->∃c,X.env.cells.lookup y.1=some c:=λy n p=>I.ok.has y.1 (k.free y n p)
 rw[exec_Assign_Name_used _ _ _ _ u];show aa (wpAny_standAt (aa ?_));show wpAny _ _ (do let _ <-comprehension (.ListComp elt [⟨tg,iter,ifs,0⟩] scope pos) scope X.env _ (newList []) false (eval iter X.env) (some (assign (.Name x d) X.env))) _ _ s;show aa (wpAny_mono (wpAny_comprehension_free (use:=some (assign (.Name x d) X.env)) (Q:=λ_ l=>SP X U D .next l) rfl E (LP P) k.kind (λy n J=>by rw[k.uniq y n,J]) (Lb L k hi K B he I h λA C l Y W j ⟨w,G⟩ q=>?_)) (λ_ l F=>ao (ao F)) λ_ _ e=>e);show wpAny _ _ (assign (.Name x d) X.env (.ref A)) _ _ _;show wpAny_assign_Name (LH W O t hx (show RelV (.ref A) (.ref A) from rfl) (λs2 V R=>?_) p);obtain⟨a,T,ha⟩:=R;have S:C≠a:=by
  rcases ha with rfl | ha
  .exact j.2.1
  show λz=>j.2.2.2.2.1 x a ha z.symm
 show⟨w,G.sameBut T S,λh' v=>⟨_,Y,V.turned (t':=s2.toks) (λb o M e=>(v.2 b M).trans e) j.1 j.2.1 j.2.2.2.1 j.2.2.2.2.1 j.2.2.2.2.2,q⟩⟩
end
theorem IW:2<=sizeLine:=by decide
theorem Inv.kO{X:Cx}{g:List (Addr×Obj)}{h:St}{H:Hp}{s:Shared}{h':Heap}{t':Nat}{fp:List Addr}(I:Inv X g h H s)(k:∀b o,b∉fp->s.heap.get? b=some o->h'.get? b=some o)(f:∀b∈fp,kJ X g H b) :
  Inv X g h H { s with heap:=h',toks:=t' }:=by
 have i:∀b u,H b=some u->b∉fp:=λb u e z=>by rw[(f b z).1] at e;cases e
 show I.step (g':=s.gens) (d':=s.drawn) (ch:=fp) (λb d=>⟨(f b d).2.2.2.1,(f b d).2.1,(f b d).2.2.2.2.1,(f b d).2.2.2.2.2⟩) (λb o _ _ a e _=>k b o a e) (λb o _ _ a e _=>⟨o.slots,k b o a e⟩) (λ_ _ _ _ n=>n)
  (λb o a e=>⟨o,k b o a e⟩) (λ_ _ e=>e) (λ_ _ _ e=>e) (λb ps e=>⟨#[],by rw[e];simp⟩) (λm hm=>?_) (λb u e=>?_) I.bare
 .obtain⟨o,es,ep,j,r⟩:=hm;show⟨o,es,ep,k _ o (λz=>(f _ z).2.1 rfl) j,r⟩
 show(I.dU b u e).oV (λc v a q=>k c v ?_ q) (λ_ q=>q) λ_ _ q=>q
 rcases a with z | z
 .rw[z];show i b u e
 show i c _ z
theorem Inv.my{X:Cx}{i:List (Addr×Obj)}{j:St}{H:Hp}{s:Shared}{h':Heap}{t':Nat}{fp:List Addr}{a:Addr}{o:HO}(I:Inv X i j H s)(k:∀b o,b∉fp->s.heap.get? b=some o->h'.get? b=some o)(f:∀b∈fp,kJ X i H b)
  (p:s.heap.objs.size<=a) (new:dZ X.prog X.w (upd H a o) h' a o):Inv X i j (upd H a o) { s with heap:=h',toks:=t' }:=by
 have h:H a=none:=I.dU.fresh p;have l:∀b u,H b=some u->b∉fp:=λb u e z=>by rw[(f b z).1] at e;cases e
 show I.step (g':=s.gens) (d':=s.drawn) (ch:=fp) (λb g=>⟨(f b g).2.2.2.1,(f b g).2.1,(f b g).2.2.2.2.1,(f b g).2.2.2.2.2⟩) (λb o _ _ d e _=>k b o d e) (λb o _ _ d e _=>⟨o.slots,k b o d e⟩)
  (λb o _ q n=>by rw[eU (aN (aV (aF q) p))];show n)
  (λb o d e=>⟨o,k b o d e⟩) (λb zs q=>by rw[eU (kZ q h)];show q) (λb ob zs q=>by rw[eU (kZ q h)];show q) (λb ps q=>⟨#[],by rw[eU (kZ q h),q];simp⟩) (λm hm=>?_) (λb u q=>?_) I.bare
 .obtain⟨o,es,ep,t,r⟩:=hm;show⟨o,es,ep,k _ o (λz=>(f _ z).2.1 rfl) t,r⟩
 by_cases g:b=a
 .subst g;rw[iU] at q;cases q;show new
 rw[eU g] at q;show(I.dU b u q).oV (λc v d z=>k c v ?_ z) (λc z=>by rw[eU (kZ z h)];show z) λc zs z=>by rw[eU (kZ z h)];show z
 rcases d with rfl | d
 .exact l _ _ q
 show l _ _ d
noncomputable def Dt(x:Str):It:=⟨λi _=>i<x.cps.size,λi H v a=>a=H/\∃c,x.cps[i]?=some c/\v=.str ⟨#[c]⟩,λi _=>i=x.cps.size⟩
theorem Sw{P:Program}{w:World}{K:J'}{C:Expr}{x:Str}{a:Addr}{n:String}{t:Tok}(G:["enumerate","zip","dict_itemiterator","dict_reverseitemiterator","odict_iterator","itertools.zip_longest","itertools.pairwise"].contains n=false)
  (W:∀B:Around,B.handled=none->Walks P w B a [a] [a] x.cps.size (SignAt x) (λi h=>h.IsStrIter a n x t i))
  (F:∀(A:Around)(i:Nat)(s:Shared)(Q:Value->Shared->Prop)(E:Value->Shared->Prop),s.heap.IsStrIter a n x t i->Q (.ref a) s->wpAny (model P w) A (pyIter (.ref a)) Q E s):Turn P w K C (Dt x) [a] a (λi h=>h.IsStrIter a n x t i) where
 mem:=by simp
 obj:=λi h st b l=>by
  have e:b=a:=by simpa using l
  subst e;obtain⟨o,e,c,d⟩:=st;show⟨o,e,λv z=>by rw[d] at z;cases z⟩
 keep:=λi h h' st k=>by
  obtain⟨o,e,r⟩:=st;show⟨o,k a (by simp) o e,r⟩
 item:=by
  intro X m hw p j i y s σ H E I hf st g;subst m hw p;show(W X.A (I.ok.hd j)).item i s _ _ g st λv h' tk D q f=>?_
  obtain⟨c,u,hx,rfl⟩:=D;have L:Inv X y σ H { s with heap:=h',toks:=tk }:=I.kO f hf;obtain⟨o,e,J,d⟩:=id q;show⟨_,rfl,BK (s:={ s with heap:=h',toks:=tk }) e J d G ⟨.str ⟨#[c]⟩,H,L,⟨u,rfl⟩,⟨rfl,c,hx,rfl⟩,q,λb l=>(hf b l).1⟩⟩
 done:=by
  intro X m hw p j i y s σ H E I hf st g;subst m hw p;have e:i=x.cps.size:=g;subst e;show(W X.A (I.ok.hd j)).done s _ _ st λh' tk f=>⟨rfl,I.kO f hf⟩
 self:=F
section
variable{X:Cx}{tg:Expr}
theorem OZ{g:List (Addr×Obj)}{c:St}{H:Hp}{s:Shared}{R:It->Hp->Prop}{E:Value->Shared->Prop}{x:Str}{t:Tok}(I:Inv X g c H s)(q:R (Dt x) H) :
  wpAny (model X.prog X.w) X.A (pyIter (.str x t)) (Dr X g c tg R) E s:=by
 have fin:∀(o:Obj)(n:String),(k:["enumerate","zip","dict_itemiterator","dict_reverseitemiterator","odict_iterator","itertools.zip_longest","itertools.pairwise"].contains n=false)->
   (W:∀a:Around,a.handled=none->Walks X.prog X.w a s.heap.objs.size [s.heap.objs.size] [s.heap.objs.size] x.cps.size (SignAt x) (λi h=>h.IsStrIter s.heap.objs.size n x t i))->
   (j:∀(A:Around)(i:Nat)(d:Shared)(Q:Value->Shared->Prop)(E:Value->Shared->Prop),d.heap.IsStrIter s.heap.objs.size n x t i->Q (.ref s.heap.objs.size) d->wpAny (model X.prog X.w) A (pyIter (.ref s.heap.objs.size)) Q E d)->
   (s.heap.push o).IsStrIter s.heap.objs.size n x t 0->Dr X g c tg R (.ref s.heap.objs.size) { s with heap:=s.heap.push o }:=λo n k W j st=>by
  show⟨s.heap.objs.size,[s.heap.objs.size],_,_,H,rfl,I.kept (t':=s.toks) λb o e=>aj _ e,Sw k W j,st,λb l=>?_,q⟩;have e:b=s.heap.objs.size:=by simpa using l
  subst e;show I.o7 (az _) (I.dU.fresh (az _))
 cases ha:x.cps.all (·<128)
 .exact wpAny_pyIter_wide ha (fin _ _ (by decide) (λa f=>Walks.strWide f _ x t) (λ_ _ _ _ _ st q=>wpAny_pyIter_striter_wide st q) ⟨_,aB _ rfl,rfl,rfl⟩)
 show wpAny_pyIter_ascii ha (fin _ _ (by decide) (λa f=>Walks.strAscii f _ x t) (λ_ _ _ _ _ st q=>wpAny_pyIter_striter_ascii st q) ⟨_,aB _ rfl,rfl,rfl⟩)
def NZ(K:J')(tl:TE):TI:=λσ H R=>tl σ H λx H1=>(∃a,x=.ref a/\(∃xs,fH K H1 a xs)/\R (HN K a) H1)\/(∃a,x=.ref a/\(∃xs,gR K H1 a xs)/\R (HM K a) H1)\/(∃z,x=.str z/\R (Dt z) H1)
theorem OY{l:Expr}{tl:TE}(k:PE X l tl):PI X tg l (NZ X.K tl):=by
 intro n s σ H R I h;show dR (k n s σ H _ I h) λv s1 m=>?_
 obtain⟨x,H1,c,d,j⟩:=m;rcases j with⟨a,e,⟨xs,f⟩,q⟩ | ⟨a,e,⟨xs,f⟩,q⟩ | ⟨z,e,q⟩
 .subst e;cases d;obtain⟨its,i,p,hz⟩:=c.list f;show wpAny_pyIter_list p.isList ?_;show⟨s1.heap.objs.size,[s1.heap.objs.size],_,_,H1,rfl,c.kept (t':=s1.toks) λb o e=>aj _ e,T5 a _,⟨_,aB _ rfl,rfl,rfl⟩,λb g=>?_,q⟩;have e:b=s1.heap.objs.size:=by simpa using g
  subst e;show c.o7 (az _) (c.dU.fresh (az _))
 .subst e;cases d;obtain⟨its,i,p,hz⟩:=c.tuple f;show wpAny_pyIter_tuple (show s1.heap.IsTuple a its.toArray from p) ?_;show⟨s1.heap.objs.size,[s1.heap.objs.size],_,_,H1,rfl,c.kept (t':=s1.toks) λb o e=>aj _ e,Ul a _,⟨_,aB _ rfl,rfl,rfl⟩,λb g=>?_,q⟩;have e:b=s1.heap.objs.size:=by simpa using g
  subst e;show c.o7 (az _) (c.dU.fresh (az _))
 subst e;obtain⟨t,rfl⟩:=d;show OZ c q
end
noncomputable def HP(K:J')(a:Addr):It:=
 ⟨λi H=>∃xs x,fH K H a xs/\xs[i]?=some x,λi H v b=>∃t,v=.ref t/\H t=none/\∀xs,fH K H a xs->∃x,xs[i]?=some x/\b=upd H t (.tup [.int i,x]),λi H=>∃xs,fH K H a xs/\xs.length<=i⟩
noncomputable def HL(K:J')(a b:Addr):It:=
 ⟨λi H=>∃xs ys x y,fH K H a xs/\fH K H b ys/\xs[i]?=some x/\ys[i]?=some y,λi H v c=>∃t,v=.ref t/\H t=none/\∀xs ys,fH K H a xs->fH K H b ys->∃x y,xs[i]?=some x/\ys[i]?=some y/\c=upd H t (.tup [x,y]),
  λi H=>∃xs ys,fH K H a xs/\fH K H b ys/\(xs.length<=i\/ys.length<=i)⟩
theorem IV{H:Hp}{t:Addr}{o:HO}{fp:List Addr}(h:∀b∈fp,H b=none)(c:∀b∈fp,b≠t):∀b∈fp,upd H t o b=none:=λb a=>by rw[eU (c b a)];show h b a
theorem Ub{prog:Program}{w:World}{A:Around}{E:Value->Shared->Prop}{s:Shared}{a:List Expr}{d}{pos:Pos}{e b T:Addr}{i:Int}{old:Value}{Q:Unit->Shared->Prop}(he:IsEnumOut s.heap e b i old T)
  (f:∀h',IsEnum h' e b i old->Heap.SameBut e s.heap h'->Q () { s with heap:=h' }) :
  wpAny (model prog w) A (letOwnedTupleGo (.Tuple a d pos) (.ref e) (.ref T)) Q E s:=by
 unfold letOwnedTupleGo;show aa (wpAny_load he ?_);show wpAny _ _ (if (["enumerate","zip","dict_itemiterator","dict_reverseitemiterator","odict_iterator","itertools.zip_longest","itertools.pairwise"].contains "enumerate" &&
   (#[rawInt T,.bool false,.ref b,rawInt i,.none,old]:Array Value)[0]?==some (rawInt T))=true then _ else _) Q E s
 rw[if_pos (by simp)];show aa (wpAny_rule ?_);show wpAny _ _ (setField (.ref e) 0 .none) Q E s;show wpAny_setField_rec he (by simp) λh' g c=>f h' g c
theorem TF{P:Program}{w:World}{K:J'}{m:List Expr}{L}{pos:Pos}(a e g:Addr)(F:e≠g):Turn P w K (.Tuple m L pos) (HP K a) [e,g] e (λi h=>(∃old,IsEnum h e g i old)/\h.IsListIter g a i) where
 mem:=by simp
 obj:=λi h st b f=>by
  obtain⟨⟨old,j⟩,o,l,c,d⟩:=st;rcases au.mp f with rfl | f
  .exact⟨_,j,λv z=>by have J:Data.fields _=Data.cell v:=z;cases J⟩
  have e:b=g:=by simpa using f
  subst e;show⟨o,l,λv z=>by rw[d] at z;cases z⟩
 keep:=λi h h' st k=>by
  obtain⟨⟨old,j⟩,l⟩:=st;show⟨⟨old,k e (by simp) _ j⟩,l.at λo q=>k g (by simp) o q⟩
 item:=by
  intro X A hw B D i K' s σ H E I hf st y;subst A hw B;obtain⟨xs,x,n,hx⟩:=y;obtain⟨its,t,p,hz⟩:=I.list n;obtain⟨u,Q,M⟩:=t.get hx;obtain⟨⟨old,j⟩,l⟩:=st;show wpAny_pyNext_enum_item j l p.isList (x:=u) (by simpa using Q) F λh' Y W V e4 N=>?_
  show⟨_,rfl,Ub Y λC U r=>?_⟩;have G:s.heap.objs.size≠e:=Nat.ne_of_gt (aF j);have Z:s.heap.objs.size≠g:=by obtain⟨o,q,_⟩:=l;show Nat.ne_of_gt (aF q)
  have R:C.get? s.heap.objs.size=some { cls:=.type "tuple",data:=.seq #[.int i s.toks,u] }:=r.extBut _ _ G V;have S:H s.heap.objs.size=none:=I.dU.fresh (az _);have new:dZ X.prog X.w (upd H s.heap.objs.size (.tup [.int i,x])) C s.heap.objs.size (.tup [.int i,x]):=⟨IW,[.int i s.toks,u],.cons ⟨_,rfl⟩ (.cons M .nil),⟨_,R,rfl,_,rfl⟩⟩
  show⟨.ref s.heap.objs.size,upd H s.heap.objs.size (.tup [.int i,x]),I.my (fp:=[e,g]) (λb o f q=>r.extBut b o (λz=>f (by simp[z])) (N b o (λz=>f (by simp[z])) (λz=>f (by simp[z])) q)) hf (az _) new,rfl,
   ⟨_,rfl,S,λys O=>⟨x,by rw[I.iM O n];show hx,rfl⟩⟩,⟨⟨u,U⟩,W.extBut r.extBut (Ne.symm F)⟩,IV (λb f=>(hf b f).1) λb f=>?_⟩
  rcases au.mp f with rfl | f
  .exact G.symm
  have z:b=g:=by simpa using f
  rw[z];show Z.symm
 done:=by
  intro X A hw B D i K' s σ H E I hf st y;subst A hw B;obtain⟨xs,n,hx⟩:=y;obtain⟨its,t,p,hz⟩:=I.list n;obtain⟨⟨old,j⟩,l⟩:=st;have hl:=t.length;show wpAny_pyNext_enum_end (I.ok.hd D) j l p.isList (by simp;ext) λh' T=>⟨rfl,I.kO (fp:=[e,g]) (t':=s.toks) (λb o f q=>T b o (λz=>f (by simp[z])) q) hf⟩
 self:=λ_ _ _ _ _ st h=>by
  obtain⟨⟨old,j⟩,_⟩:=st;show wpAny_pyIter_enum j h
section
variable{X:Cx}{elts:List Expr}{x1:Nat}{uA:Pos}
def OC(K:J')(c:TA):TI:=λσ H R=>c σ H λb H1=>∃a xs,b=[.ref a]/\lA K H1 a xs/\R (HP K a) H1
theorem Q9{a:Expr}{f:TA}{p pos:Pos}(x:Gl X "enumerate")(v:X.mg "enumerate"=none)(ha:PA X [a] f)(t:starEach [a] X.env=[(false,eval a X.env)]:=by rfl):PI X (.Tuple elts x1 uA) (.Call (.Name "enumerate" p) [a] [] pos) (OC X.K f):=by
 intro C s σ H R I h;show Call_ (tI I x v boot_enumerate (PyProof.Rows.callWith_type1 (dR (ha pos C s σ H _ I h) λus s1 B=>?_) t rfl));obtain⟨D,H1,c,k,m⟩:=B;obtain⟨l,xs,e,w,q⟩:=m;subst e;obtain⟨u,rfl,j⟩:=kM k;cases j;obtain⟨z,its,n,r,e⟩:=c.gq w;show call_enumerate_1 e λh' i A E o=>?_
 show wpAny_pyIter_enum i ?_;have y:s1.heap.objs.size+1≠s1.heap.objs.size:=by ext
 show⟨s1.heap.objs.size+1,[s1.heap.objs.size+1,s1.heap.objs.size],_,_,H1,rfl,c.kept (t':=s1.toks) o,TF l _ _ y,⟨⟨_,i⟩,A⟩,λb d=>?_,q⟩;have g:s1.heap.objs.size<=b:=by
  rcases au.mp d with rfl | d
  .exact cj _
  have e:b=s1.heap.objs.size:=by simpa using d
  show Nat.le_of_eq e.symm
 show c.o7 g (c.dU.fresh g)
theorem Sv{P:Program}{w:World}{K:J'}(a b z TI TO i1 j:Addr)(D1:TI≠z/\TO≠z/\i1≠z/\j≠z/\TI≠TO/\TI≠i1/\TI≠j/\TO≠i1/\TO≠j/\i1≠j):Turn P w K (.Tuple elts x1 uA) (HL K a b) [z,TI,TO,i1,j] z
  (λi h=>IsZip h z TI TO .none/\IsPair h TI (.ref i1) (.ref j)/\(∃a b,IsPair h TO a b)/\h.IsListIter i1 a i/\h.IsListIter j b i) where
 mem:=by simp
 obj:=λi h st c f=>by
  obtain⟨m,t,⟨u,v,r⟩,⟨o1,g1,_,C⟩,⟨o2,g2,_,G⟩⟩:=st;simp only[au,bC,or_false] at f;rcases f with rfl | rfl | rfl | rfl | rfl
  .exact⟨_,m,λv z=>by have J:Data.fields _=Data.cell v:=z;cases J⟩
  .exact⟨_,t,λv z=>by have J:Data.seq _ _=Data.cell v:=z;cases J⟩
  .exact⟨_,r,λv z=>by have J:Data.seq _ _=Data.cell v:=z;cases J⟩
  .exact⟨_,g1,λv z=>by rw[C] at z;cases z⟩
  show⟨_,g2,λv z=>by rw[G] at z;cases z⟩
 keep:=λi h h' st k=>by
  obtain⟨m,t,⟨u,v,r⟩,B,A⟩:=st;show⟨k z (by simp) _ m,k TI (by simp) _ t,⟨u,v,k TO (by simp) _ r⟩,B.at λo q=>k i1 (by simp) o q,A.at λo q=>k j (by simp) o q⟩
 item:=by
  intro X hP hw hK f i K' s σ H E I hf st Z;subst hP hw hK;obtain⟨xs,ys,x,y,Q,N,hx,hy⟩:=Z;obtain⟨its,W,p,hz⟩:=I.list Q;obtain⟨lX,Y,L,GI⟩:=I.list N;obtain⟨u,hu,ru⟩:=W.get hx;obtain⟨v,hv,Xm⟩:=Y.get hy;obtain⟨m,t,⟨c,d,r⟩,B,A⟩:=st;obtain⟨C,G,V,U,T,S,R,d8,d9,HF⟩:=D1;have M:∀{l:Addr}{its:List Value},PlainL s.heap l its.toArray->l≠z/\l≠TO/\l≠i1/\l≠j:=λ{l its} pl=>by
   obtain⟨o,n,e,c1,_,dd⟩:=pl;obtain⟨o1,g1,c4,_⟩:=B;obtain⟨o2,g2,c5,_⟩:=A;show⟨?_,?_,?_,?_⟩
   .rintro rfl;rw[m] at e;cases e;simp at c1
   .rintro rfl;rw[r] at e;cases e;simp at c1
   .rintro rfl;rw[g1] at e;cases e;rw[c4] at c1;simp at c1
   rintro rfl;rw[g2] at e;cases e;rw[c5] at c1;simp at c1
  obtain⟨e1,e2,e3,e4⟩:=M p;obtain⟨f1,f2,f3,f4⟩:=M L;have D:ZipApart z TI TO i1 j a b:=⟨C,G,V,U,T,S,R,d8,d9,HF,e1,e2,e3,e4,f1,f2,f3,f4⟩
  show wpAny_pyNext_zip_item D m t r B A p.isList L.isList (x:=u) (y:=v) (by simpa using hu) (by simpa using hv) λh' a1 a2 a3 a4 a5 a6 O=>?_
  show⟨_,rfl,wpAny_letOwnedTupleGo_zip a1 λxi b1 F=>?_⟩;have YE:s.heap.objs.size≠z:=Nat.ne_of_gt (aF m);have fA:H s.heap.objs.size=none:=I.dU.fresh (az _);have hT:xi.get? s.heap.objs.size=some { cls:=.type "tuple",data:=.seq #[u,v] }:=F.extBut _ _ YE a5;have new:dZ X.prog X.w (upd H s.heap.objs.size (.tup [x,y])) xi s.heap.objs.size (.tup [x,y]):=⟨IW,[u,v],.cons ru (.cons Xm .nil),⟨_,hT,rfl,_,rfl⟩⟩
  have lt:∀{c o},s.heap.get? c=some o->c≠s.heap.objs.size:=λe=>aN (aF e)
  show⟨.ref s.heap.objs.size,upd H s.heap.objs.size (.tup [x,y]),I.my (fp:=[z,TI,TO,i1,j]) (t':=s.toks) (λc o f q=>F.extBut c o (λe=>f (by simp[e])) (O c o (λe=>f (by simp[e])) (λe=>f (by simp[e])) (λe=>f (by simp[e])) (λe=>f (by simp[e])) q)) hf (az _) new,rfl,
   ⟨_,rfl,fA,λzs ws h6 h7=>⟨x,y,by rw[I.iM h6 Q];show hx,by rw[I.iM h7 N];show hy,rfl⟩⟩,
   ⟨b1,F.extBut _ _ C (O _ _ C T S R t),⟨_,_,F.extBut _ _ G a2⟩,a3.extBut F.extBut V,a4.extBut F.extBut U⟩,IV (λb hb=>(hf b hb).1) λc f=>?_⟩
  simp only[au,bC,or_false] at f;rcases f with rfl | rfl | rfl | rfl | rfl
  .exact lt m
  .exact lt t
  .exact lt r
  .obtain⟨_,g,_⟩:=B;show lt g
  obtain⟨_,g,_⟩:=A;show lt g
 done:=by
  intro X hP hw hK f i K' s σ H E I hf st Z;subst hP hw hK;obtain⟨xs,ys,Q,N,hx⟩:=Z;obtain⟨its,W,p,hz⟩:=I.list Q;obtain⟨lX,Y,L,GI⟩:=I.list N;obtain⟨m,t,⟨c,d,r⟩,B,A⟩:=st;obtain⟨C,G,V,U,T,S,R,d8,d9,HF⟩:=D1;have M:∀{l:Addr}{its:List Value},PlainL s.heap l its.toArray->l≠z/\l≠TO/\l≠i1/\l≠j:=λ{l its} pl=>by
   obtain⟨o,n,e,c1,_,dd⟩:=pl;obtain⟨o1,g1,c4,_⟩:=B;obtain⟨o2,g2,c5,_⟩:=A;show⟨?_,?_,?_,?_⟩
   .rintro rfl;rw[m] at e;cases e;simp at c1
   .rintro rfl;rw[r] at e;cases e;simp at c1
   .rintro rfl;rw[g1] at e;cases e;rw[c4] at c1;simp at c1
   rintro rfl;rw[g2] at e;cases e;rw[c5] at c1;simp at c1
  obtain⟨e1,e2,e3,e4⟩:=M p;obtain⟨f1,f2,f3,f4⟩:=M L;have D:ZipApart z TI TO i1 j a b:=⟨C,G,V,U,T,S,R,d8,d9,HF,e1,e2,e3,e4,f1,f2,f3,f4⟩
  have l1:=W.length;have l2:=Y.length;have Ho:its.toArray[i]?=none\/lX.toArray[i]?=none:=by
   rcases hx with hx | hx
   .exact .inl (by simp;ext)
   show .inr (by simp;ext)
  show wpAny_pyNext_zip_end (I.ok.hd f) D m t r B A p.isList L.isList Ho λh' O=>⟨rfl,I.kO (fp:=[z,TI,TO,i1,j]) (t':=s.toks) (λc o f q=>O c o (λe=>f (by simp[e])) (λe=>f (by simp[e])) (λe=>f (by simp[e])) (λe=>f (by simp[e])) q) hf⟩
 self:=λ_ _ _ _ _ st h=>wpAny_pyIter_zip st.1 h
theorem T8(n:Nat):(n+2:Nat)≠n+4/\(n+3:Nat)≠n+4/\n≠n+4/\(n+1:Nat)≠n+4/\(n+2:Nat)≠n+3/\(n+2:Nat)≠n/\(n+2:Nat)≠n+1/\(n+3:Nat)≠n/\(n+3:Nat)≠n+1/\n≠n+1:=by ext
def NY(K:J')(d:TA):TI:=λσ H R=>d σ H λc H1=>∃a b,c=[.ref a,.ref b]/\(∃xs,fH K H1 a xs)/\(∃ys,fH K H1 b ys)/\R (HL K a b) H1
theorem PQ{a b:Expr}{d:TA}{p pos:Pos}(B:Gl X "zip")(z:X.mg "zip"=none)(ha:PA X [a,b] d)(y:starEach [a,b] X.env=[(false,eval a X.env),(false,eval b X.env)]:=by rfl)(g:starEach [b] X.env=[(false,eval b X.env)]:=by rfl) :
  PI X (.Tuple elts x1 uA) (.Call (.Name "zip" p) [a,b] [] pos) (NY X.K d):=by
 intro J s σ H R I h;show Call_ (tI I B z boot_zip (PyProof.Rows.callWith_type1 (dR (ha pos J s σ H _ I h) λus s1 ⟨L,H1,c,n,o⟩=>?_) (by rw[y,g]) (by rw[g];rfl)));obtain⟨l,w,e,⟨xs,A⟩,⟨ys,G⟩,q⟩:=o;subst e;obtain⟨u,v,rfl,m,k⟩:=yT n;cases m;cases k;obtain⟨its,_,t,_⟩:=c.list A;obtain⟨its',_,r,_⟩:=c.list G;show call_zip_2 t.isList r.isList λh' j F E D C M x=>?_
 show wpAny_pyIter_zip j ?_;show⟨s1.heap.objs.size+4,[s1.heap.objs.size+4,s1.heap.objs.size+2,s1.heap.objs.size+3,s1.heap.objs.size,s1.heap.objs.size+1],_,_,H1,rfl,c.kept (t':=s1.toks) x,Sv l w _ _ _ _ _ (T8 _),
  ⟨j,F,⟨_,_,E⟩,D,C⟩,λb i=>?_,q⟩
 have f:s1.heap.objs.size<=b:=by
  simp only[au,bC,or_false] at i;rcases i with rfl | rfl | rfl | rfl | rfl<;>first | show Nat.le_add_right _ _ | show az _
 show c.o7 f (c.dU.fresh f)
end
inductive D where
 | non | bl (b:Bool) | int (i:Int) | str (x:Str) | tup (ds:List D) | lst (ds:List D) | obj (cn:Str) (fs:List (Str×D)) | dic (cG:List (Key×D)) | dit (cG:List (List Key×D)) | exc (cn:Str)
structure ClsAt(K:J')(cn:Str)(C:Addr):Prop where
 at_:PySem.W.nsIn K mainGlobals cn=some (some (.ref C))
 cls:vM K C
def fg(H:Hp):List (List Key×V)->List Addr->Prop
 | [],[]=>True
 | p::ps,b::bs=>H b=some (.tup (p.1.map kV))/\fg H ps bs
 | _,_=>False
theorem fg.mono{H a:Hp}(e:cO H a):∀{ps:List (List Key×V)}{bs:List Addr},fg H ps bs->fg a ps bs
 | [],[],h=>h
 | p::ps,b::bs,h=>⟨e _ _ h.1,fg.mono e h.2⟩
 | [],_::_,h=>h.elim
 | _::_,[],h=>h.elim
mutual
def Rep(K:J')(H:Hp):V->D->Prop
 | v,.non=>v=.non
 | v,.bl b=>v=.bl b
 | v,.int i=>v=.int i
 | v,.str x=>v=.str x
 | v,.tup ds=>∃a xs,v=.ref a/\H a=some (.tup xs)/\cA K H xs ds
 | v,.lst ds=>∃a xs,v=.ref a/\lA K H a xs/\cA K H xs ds
 | v,.obj d fs=>∃a C j g,v=.ref a/\H a=some (.ins C j g)/\ClsAt K d C/\(∀p∈fs,dg K C p.1)/\dG K H g fs
 | v,.dic e=>∃a c ep,v=.ref a/\H a=some (.dK c ep)/\eT K H c e
 | v,.dit e=>∃a c bs,v=.ref a/\H a=some (.dT c bs)/\fg H c bs.1/\cY K H c e
 | v,.exc d=>∃a f C,v=.ref a/\H a=some (.ext f)/\PySem.W.nsIn K mainGlobals d=some (some (.ref C))/\∀h:Heap,f h->∃o,h.get? a=some o/\o.cls=.ref C
def cA(K:J')(H:Hp):List V->List D->Prop
 | [],[]=>True
 | v::a,d::ds=>Rep K H v d/\cA K H a ds
 | _,_=>False
def dG(K:J')(H:Hp):List (Str×V)->List (Str×D)->Prop
 | [],[]=>True
 | v::a,d::ds=>(v.1=d.1/\Rep K H v.2 d.2)/\dG K H a ds
 | _,_=>False
def eT(K:J')(H:Hp):List (Key×V)->List (Key×D)->Prop
 | [],[]=>True
 | v::a,d::ds=>(v.1=d.1/\Rep K H v.2 d.2)/\eT K H a ds
 | _,_=>False
def cY(K:J')(H:Hp):List (List Key×V)->List (List Key×D)->Prop
 | [],[]=>True
 | v::a,d::ds=>(v.1=d.1/\Rep K H v.2 d.2)/\cY K H a ds
 | _,_=>False
end
theorem cO.nR{K:J'}{H b:Hp}{a:Addr}{xs:List V}(e:cO H b)(h:H a=some (.tup xs)):gR K b a xs:=gR.of (e _ _ h)
theorem cO.rR{K:J'}{H b:Hp}{a:Addr}{xs:List V}(e:cO H b)(h:gR K H a xs):gR K b a xs:=by
 rcases h with(h | ⟨o,h⟩) | h
 .exact .inl (.inl (e _ _ h))
 .exact .inl (.inr ⟨o,e _ _ h⟩)
 show .inr h
mutual
theorem Rep.mono{K:J'}{H n:Hp}(e:cO H n):∀(v:V)(d:D),Rep K H v d->Rep K n v d
 | v,.non,h=>by simpa only[Rep] using h
 | v,.bl b,h=>by simpa only[Rep] using h
 | v,.int i,h=>by simpa only[Rep] using h
 | v,.str x,h=>by simpa only[Rep] using h
 | v,.tup ds,h=>by
  simp only[Rep] at h ⊢;obtain⟨a,xs,g,f,c⟩:=h;show⟨a,xs,g,e _ _ f,cA.mono e xs ds c⟩
 | v,.lst ds,h=>by
  simp only[Rep] at h ⊢;obtain⟨a,xs,g,f,c⟩:=h;show⟨a,xs,g,e.gq f,cA.mono e xs ds c⟩
 | v,.obj r fs,h=>by
  simp only[Rep] at h ⊢;obtain⟨a,C,q,m,g,f,c,k,p⟩:=h;show⟨a,C,q,m,g,e _ _ f,c,k,dG.mono e m fs p⟩
 | v,.dic l,h=>by
  simp only[Rep] at h ⊢;obtain⟨a,j,ep,g,f,c⟩:=h;show⟨a,j,ep,g,e _ _ f,eT.mono e j l c⟩
 | v,.dit l,h=>by
  simp only[Rep] at h ⊢;obtain⟨a,j,bs,g,f,c,k⟩:=h;show⟨a,j,bs,g,e _ _ f,c.mono e,cY.mono e j l k⟩
 | v,.exc r,h=>by
  simp only[Rep] at h ⊢;obtain⟨a,o,C,g,f,c,k⟩:=h;show⟨a,o,C,g,e _ _ f,c,k⟩
theorem cA.mono{K:J'}{H b:Hp}(e:cO H b):∀(a:List V)(ds:List D),cA K H a ds->cA K b a ds
 | [],[],h=>by simp only[cA]
 | v::a,d::ds,h=>by
  simp only[cA] at h ⊢;show⟨Rep.mono e v d h.1,cA.mono e a ds h.2⟩
 | [],_::_,h=>by simp only[cA] at h
 | _::_,[],h=>by simp only[cA] at h
theorem dG.mono{K:J'}{H b:Hp}(e:cO H b):∀(a:List (Str×V))(ds:List (Str×D)),dG K H a ds->dG K b a ds
 | [],[],h=>by simp only[dG]
 | (x,v)::a,(y,d)::ds,h=>by
  simp only[dG] at h ⊢;show⟨⟨h.1.1,Rep.mono e v d h.1.2⟩,dG.mono e a ds h.2⟩
 | [],_::_,h=>by simp only[dG] at h
 | _::_,[],h=>by simp only[dG] at h
theorem eT.mono{K:J'}{H b:Hp}(e:cO H b):∀(a:List (Key×V))(ds:List (Key×D)),eT K H a ds->eT K b a ds
 | [],[],h=>by simp only[eT]
 | (x,v)::a,(y,d)::ds,h=>by
  simp only[eT] at h ⊢;show⟨⟨h.1.1,Rep.mono e v d h.1.2⟩,eT.mono e a ds h.2⟩
 | [],_::_,h=>by simp only[eT] at h
 | _::_,[],h=>by simp only[eT] at h
theorem cY.mono{K:J'}{H b:Hp}(e:cO H b):∀(a:List (List Key×V))(ds:List (List Key×D)),cY K H a ds->cY K b a ds
 | [],[],h=>by simp only[cY]
 | (x,v)::a,(y,d)::ds,h=>by
  simp only[cY] at h ⊢;show⟨⟨h.1.1,Rep.mono e v d h.1.2⟩,cY.mono e a ds h.2⟩
 | [],_::_,h=>by simp only[cY] at h
 | _::_,[],h=>by simp only[cY] at h
end
section
variable{K:J'}{H H':Hp}
theorem cA.length:∀{a:List V}{ds:List D},cA K H a ds->a.length=ds.length
 | [],[],_=>rfl
 | v::a,d::ds,h=>by
  simp only[cA] at h;simp only[aD,cA.length h.2]
 | [],_::_,h=>by simp only[cA] at h
 | _::_,[],h=>by simp only[cA] at h
theorem cA.get:∀{a:List V}{ds:List D}{i:Nat}{d:D},cA K H a ds->ds[i]?=some d->∃v,a[i]?=some v/\Rep K H v d
 | [],[],i,d,_,e=>by simp at e
 | v::a,d'::ds,0,d,h,e=>by
  simp only[cA] at h;simp only[List.getElem?_cons_zero,aG] at e;subst e;show⟨v,rfl,h.1⟩
 | v::a,d'::ds,i+1,d,h,e=>by
  simp only[cA] at h;simp only[bX] at e ⊢;show cA.get h.2 e
 | [],_::_,_,_,h,_=>by simp only[cA] at h
 | _::_,[],_,_,h,_=>by simp only[cA] at h
theorem cA.Bd:∀{a:List V}{ds:List D}{i:Nat}{v:V},cA K H a ds->a[i]?=some v->∃d,ds[i]?=some d/\Rep K H v d
 | [],[],i,d,_,e=>by simp at e
 | b::a,d::ds,0,v,h,e=>by
  simp only[cA] at h;simp only[List.getElem?_cons_zero,aG] at e;subst e;show⟨d,rfl,h.1⟩
 | b::a,d::ds,i+1,v,h,e=>by
  simp only[cA] at h;simp only[bX] at e ⊢;show cA.Bd h.2 e
 | [],_::_,_,_,h,_=>by simp only[cA] at h
 | _::_,[],_,_,h,_=>by simp only[cA] at h
theorem cA.nil:cA K H [] []:=by simp only[cA]
theorem cA.cons{v:V}{a:List V}{d:D}{ds:List D}(h:Rep K H v d)(b:cA K H a ds):cA K H (v::a) (d::ds):=by simp only[cA];show⟨h,b⟩
theorem cA.append:∀{a:List V}{ds:List D}{us:List V}{es:List D},cA K H a ds->cA K H us es->cA K H (a++us) (ds++es)
 | [],[],_,_,_,h=>h
 | v::a,d::ds,_,_,h,h'=>by
  simp only[cA] at h;show cA.cons h.1 (cA.append h.2 h')
 | [],_::_,_,_,h,_=>by simp only[cA] at h
 | _::_,[],_,_,h,_=>by simp only[cA] at h
theorem cA.take:∀{a:List V}{ds:List D}(n:Nat),cA K H a ds->cA K H (a.take n) (ds.take n)
 | _,_,0,_=>cA.nil
 | [],[],_+1,_=>cA.nil
 | v::a,d::ds,n+1,h=>by
  simp only[cA] at h;show cA.cons h.1 (cA.take n h.2)
 | [],_::_,_+1,h=>by simp only[cA] at h
 | _::_,[],_+1,h=>by simp only[cA] at h
theorem cA.drop:∀{a:List V}{ds:List D}(n:Nat),cA K H a ds->cA K H (a.drop n) (ds.drop n)
 | _,_,0,h=>h
 | [],[],_+1,_=>cA.nil
 | v::a,d::ds,n+1,h=>by
  simp only[cA] at h;show cA.drop n h.2
 | [],_::_,_+1,h=>by simp only[cA] at h
 | _::_,[],_+1,h=>by simp only[cA] at h
theorem cA.set:∀{a:List V}{ds:List D}{v:V}{d:D}(n:Nat),cA K H a ds->Rep K H v d->cA K H (a.set n v) (ds.set n d)
 | [],[],_,_,_,_,_=>cA.nil
 | b::a,d'::ds,v,d,0,h,q=>by
  simp only[cA] at h;show cA.cons q h.2
 | b::a,d'::ds,v,d,n+1,h,q=>by
  simp only[cA] at h;show cA.cons h.1 (cA.set n h.2 q)
 | [],_::_,_,_,_,h,_=>by simp only[cA] at h
 | _::_,[],_,_,_,h,_=>by simp only[cA] at h
end
structure Ext(G H G' H':Hp):Prop where
 g:cO G G'
 h:cO H H'
 s:cO G' H'
 n:∀p,G p=none->H p≠none->G' p=none
theorem Ext.refl{G H:Hp}(s:cO G H):Ext G H G H:=⟨cO.refl _,cO.refl _,s,λ_ h _=>h⟩
theorem Ext.trans{G H i e f d:Hp}(a:Ext G H i e)(b:Ext i e f d):Ext G H f d:=
 ⟨a.g.trans b.g,a.h.trans b.h,b.s,λp j c=>b.n p (a.n p j c) λz=>c (a.h.free z)⟩
theorem vo{H:Hp}{p:Addr}{o:HO}(h:H p=none):cO H (upd H p o):=λb u e=>by rw[eU (kZ e h)];show e
theorem T7{G H:Hp}{p:Addr}{o:HO}(s:cO G H):cO (upd G p o) (upd H p o):=λb u e=>by
 by_cases a:b=p
 .subst a;rw[iU] at e ⊢;show e
 rw[eU a] at e ⊢;show s b u e
theorem Ext.new{G H:Hp}{p:Addr}{o:HO}(s:cO G H)(h:H p=none):Ext G H (upd G p o) (upd H p o):=
 ⟨vo (s.free h),vo h,T7 s,λq b a=>by rw[eU (λz=>a (by rw[z];show h))];show b⟩
theorem Ext.own{G H:Hp}{p:Addr}{o:HO}(s:cO G H)(h:H p=none):Ext G H G (upd H p o):=
 ⟨cO.refl _,vo h,s.trans (vo h),λq a _=>a⟩
inductive OV where
 | ll (eQ:List (List D))
 | dc (cG:List (Key×D))
 | dl (cG:List (Key×List D))
 | tl (d:D) (ds:List D)
 | ld (xk:List (List (Key×D)))
 | dt (cG:List (List Key×List D))
 | tp (ds:List D)
 | ob (cn:Str) (fs:List (Str×List D))
 | dq (cG:List (List Key×D))
noncomputable def OV.val:OV->D
 | .ll c=>.lst (c.map .lst)
 | .dc a=>.dic a
 | .dl a=>.dic (a.map λp=>(p.1,.lst p.2))
 | .tl d ds=>.tup [d,.lst ds]
 | .ld b=>.lst (b.map .dic)
 | .dt a=>.dit (a.map λp=>(p.1,.lst p.2))
 | .tp ds=>.tup ds
 | .ob e fs=>.obj e (fs.map λp=>(p.1,.lst p.2))
 | .dq a=>.dit a
inductive R where
 | fz (d:D)
 | ow (ds:List D)
 | ov (o:OV)
noncomputable def R.val:R->D
 | .fz d=>d
 | .ow ds=>.lst ds
 | .ov o=>o.val
inductive Sl where
 | un
 | fz (d:D)
 | ow (ds:List D)
 | ov (o:OV)
noncomputable def R.sl:R->Sl
 | .fz d=>.fz d
 | .ow ds=>.ow ds
 | .ov o=>.ov o
def cW(K:J')(G H:Hp):List Addr->List (List D)->Prop
 | [],[]=>True
 | q::a,ds::b=>(∃xs,H q=some (.lst xs)/\cA K G xs ds)/\cW K G H a b
 | _,_=>False
theorem cW.mono{K:J'}{G H e d:Hp}(g:cO G e):∀{a:List Addr}{b:List (List D)},(∀q∈a,∀xs,H q=some (.lst xs)->d q=some (.lst xs))->cW K G H a b->cW K e d a b
 | [],[],_,_=>by simp only[cW]
 | q::a,ds::b,c,h=>by
  simp only[cW] at h ⊢;obtain⟨⟨xs,k,j⟩,i⟩:=h;show⟨⟨xs,c q (by simp) xs k,j.mono g⟩,cW.mono g (λr f=>c r (by simp[f])) i⟩
 | [],_::_,_,h=>by simp only[cW] at h
 | _::_,[],_,h=>by simp only[cW] at h
theorem cW.here{K:J'}{G H:Hp}:∀{a:List Addr}{c:List (List D)},cW K G H a c->∀q∈a,H q≠none
 | [],[],_,q,d=>by cases d
 | q::a,ds::c,h,r,b=>by
  simp only[cW] at h;obtain⟨⟨xs,f,g⟩,e⟩:=h;rcases au.mp b with rfl | b
  .rw[f];show nofun
  show cW.here e r b
 | [],_::_,h,_,_=>by simp only[cW] at h
 | _::_,[],h,_,_=>by simp only[cW] at h
theorem cW.nV{K:J'}{G H c:Hp}(g:cO G c):∀{a:List Addr}{b:List (List D)},(∀q∈a,∀xs,H q=some (.lst xs)->c q=some (.lst xs))->cW K G H a b->cA K c (a.map V.ref) (b.map D.lst)
 | [],[],_,_=>cA.nil
 | q::a,ds::b,d,h=>by
  simp only[cW] at h;obtain⟨⟨xs,j,i⟩,f⟩:=h;show cA.cons ?_ (cW.nV g (λr e=>d r (by simp[e])) f);simp only[Rep];show⟨q,xs,rfl,lA.of (d q (by simp) xs j),i.mono g⟩
 | [],_::_,_,h=>by simp only[cW] at h
 | _::_,[],_,h=>by simp only[cW] at h
def fV(K:J')(G H:Hp):List Addr->List (List (Key×D))->Prop
 | [],[]=>True
 | q::b,ds::c=>(∃a ep,H q=some (.dK a ep)/\eT K G a ds)/\fV K G H b c
 | _,_=>False
theorem fV.mono{K:J'}{G H e d:Hp}(g:cO G e):∀{a:List Addr}{b:List (List (Key×D))},(∀q∈a,∀u,H q=some u->d q=some u)->fV K G H a b->fV K e d a b
 | [],[],_,_=>by simp only[fV]
 | q::a,ds::b,c,h=>by
  simp only[fV] at h ⊢;obtain⟨⟨f,ep,l,k⟩,j⟩:=h;show⟨⟨f,ep,c q (by simp) _ l,eT.mono g _ _ k⟩,fV.mono g (λr i=>c r (by simp[i])) j⟩
 | [],_::_,_,h=>by simp only[fV] at h
 | _::_,[],_,h=>by simp only[fV] at h
theorem fV.kind{K:J'}{G H:Hp}:∀{a:List Addr}{d:List (List (Key×D))},fV K G H a d->∀q∈a,∃b ep,H q=some (.dK b ep)
 | [],[],_,q,e=>by cases e
 | q::a,ds::d,h,r,c=>by
  simp only[fV] at h;obtain⟨⟨b,ep,g,i⟩,f⟩:=h;rcases au.mp c with rfl | c
  .exact⟨b,ep,g⟩
  show fV.kind f r c
 | [],_::_,h,_,_=>by simp only[fV] at h
 | _::_,[],h,_,_=>by simp only[fV] at h
theorem fV.here{K:J'}{G H:Hp}{a:List Addr}{c:List (List (Key×D))}(h:fV K G H a c):∀q∈a,H q≠none:=λq b=>by
 obtain⟨d,ep,e⟩:=h.kind q b;rw[e];show nofun
theorem fV.nV{K:J'}{G H c:Hp}(g:cO G c):∀{a:List Addr}{b:List (List (Key×D))},(∀q∈a,∀u,H q=some u->c q=some u)->fV K G H a b->cA K c (a.map V.ref) (b.map D.dic)
 | [],[],_,_=>cA.nil
 | q::a,ds::b,d,h=>by
  simp only[fV] at h;obtain⟨⟨e,ep,k,j⟩,i⟩:=h;show cA.cons ?_ (fV.nV g (λr f=>d r (by simp[f])) i);simp only[Rep];show⟨q,e,ep,rfl,d q (by simp) _ k,eT.mono g _ _ j⟩
 | [],_::_,_,h=>by simp only[fV] at h
 | _::_,[],_,h=>by simp only[fV] at h
def j5(K:J')(G H:Hp)(p:Addr)(fp:List Addr):OV->Prop
 | .ll f=>H p=some (.lst (fp.map V.ref))/\cW K G H fp f
 | .dc b=>fp=[]/\∃a ep,H p=some (.dK a ep)/\eT K G a b
 | .dl b=>∃a ep,H p=some (.dK a ep)/\a.map (·.1)=b.map (·.1)/\a.map (·.2)=fp.map V.ref/\cW K G H fp (b.map (·.2))
 | .tl d ds=>∃q v xs,fp=[q]/\H p=some (.tup [v,.ref q])/\Rep K G v d/\H q=some (.lst xs)/\cA K G xs ds
 | .ld e=>H p=some (.lst (fp.map V.ref))/\fV K G H fp e
 | .dt b=>∃a bs,H p=some (.dT a bs)/\fg G a bs.1/\a.map (·.1)=b.map (·.1)/\a.map (·.2)=fp.map V.ref/\cW K G H fp (b.map (·.2))
 | .tp ds=>fp=[]/\∃xs,H p=some (.tup xs)/\cA K G xs ds
 | .ob h fs=>∃C g c,H p=some (.ins C g c)/\ClsAt K h C/\(∀p∈fs,dg K C p.1)/\c.map (·.1)=fs.map (·.1)/\c.map (·.2)=fp.map V.ref/\cW K G H fp (fs.map (·.2))
 | .dq b=>fp=[]/\∃a bs,H p=some (.dT a bs)/\fg G a bs.1/\cY K G a b
theorem j5.here{K:J'}{G H:Hp}{p:Addr}{fp:List Addr}{o:OV}(h:j5 K G H p fp o):∀q∈p::fp,H q≠none:=by
 intro q a;cases o with
 | ll k=>
  rcases au.mp a with rfl | a
  .rw[h.1];show nofun
  show h.2.here q a
 | dc f=>
  obtain⟨rfl,e,ep,b,_⟩:=h;simp only[bp] at a;subst a;rw[b];show nofun
 | dl f=>
  obtain⟨e,ep,b,_,_,c⟩:=h;rcases au.mp a with rfl | a
  .rw[b];show nofun
  show c.here q a
 | tl d ds=>
  obtain⟨r,v,xs,rfl,b,_,g,_⟩:=h;simp only[au,bC,or_false] at a;rcases a with rfl | rfl
  .rw[b];show nofun
  rw[g];show nofun
 | ld i=>
  rcases au.mp a with rfl | a
  .rw[h.1];show nofun
  show h.2.here q a
 | dt f=>
  obtain⟨e,bs,b,_,_,_,c⟩:=h;rcases au.mp a with rfl | a
  .rw[b];show nofun
  show c.here q a
 | tp ds=>
  obtain⟨rfl,xs,b,_⟩:=h;simp only[bp] at a;subst a;rw[b];show nofun
 | ob m fs=>
  obtain⟨C,l,j,b,_,_,_,_,c⟩:=h;rcases au.mp a with rfl | a
  .rw[b];show nofun
  show c.here q a
 | dq f=>
  obtain⟨rfl,e,bs,b,_⟩:=h;simp only[bp] at a;subst a;rw[b];show nofun
theorem j5.mono{K:J'}{G H n m:Hp}{p:Addr}{fp:List Addr}{o:OV}(g:cO G n)(a:∀q∈p::fp,∀u,H q=some u->m q=some u)(h:j5 K G H p fp o):j5 K n m p fp o:=by
 cases o with
 | ll z=>show⟨a p (by simp) _ h.1,h.2.mono g λq e xs=>a q (by simp[e]) _⟩
 | dc l=>
  obtain⟨rfl,f,ep,c,b⟩:=h;show⟨rfl,f,ep,a p (by simp) _ c,eT.mono g _ _ b⟩
 | dl l=>
  obtain⟨f,ep,c,b,j,i⟩:=h;show⟨f,ep,a p (by simp) _ c,b,j,i.mono g λq e xs=>a q (by simp[e]) _⟩
 | tl d ds=>
  obtain⟨r,v,xs,rfl,c,b,j,i⟩:=h;show⟨r,v,xs,rfl,a p (by simp) _ c,b.mono g,a r (by simp) _ j,i.mono g⟩
 | ld y=>show⟨a p (by simp) _ h.1,h.2.mono g λq e=>a q (by simp[e])⟩
 | dt l=>
  obtain⟨f,bs,c,k,b,j,i⟩:=h;show⟨f,bs,a p (by simp) _ c,k.mono g,b,j,i.mono g λq e xs=>a q (by simp[e]) _⟩
 | tp ds=>
  obtain⟨rfl,xs,c,b⟩:=h;show⟨rfl,xs,a p (by simp) _ c,b.mono g⟩
 | ob A fs=>
  obtain⟨C,x,w,c,t,s,b,j,i⟩:=h;show⟨C,x,w,a p (by simp) _ c,t,s,b,j,i.mono g λq e xs=>a q (by simp[e]) _⟩
 | dq l=>
  obtain⟨rfl,f,bs,c,k,b⟩:=h;show⟨rfl,f,bs,a p (by simp) _ c,k.mono g,cY.mono g _ _ b⟩
theorem eT.fP{K:J'}{G:Hp}:∀{c:List (Key×V)}{e:List (Key×List D)}{fp:List Addr},c.map (·.1)=e.map (·.1)->c.map (·.2)=fp.map V.ref->cA K G (fp.map V.ref) ((e.map (·.2)).map D.lst)->eT K G c (e.map λp=>(p.1,.lst p.2))
 | [],[],_,_,_,_=>by simp only[bQ,eT]
 | a::c,b::e,fp,g,d,f=>by
  simp only[ax,List.cons.injEq] at g;cases fp with
  | nil=>simp at d
  | cons q fp=>
   simp only[ax,List.cons.injEq] at d;simp only[ax,cA] at f;simp only[ax,eT];show⟨⟨g.1,by rw[d.1];show f.1⟩,eT.fP g.2 d.2 f.2⟩
 | [],_::_,_,h,_,_=>by simp at h
 | _::_,[],_,h,_,_=>by simp at h
theorem cY.fP{K:J'}{G:Hp}:∀{c:List (List Key×V)}{e:List (List Key×List D)}{fp:List Addr},c.map (·.1)=e.map (·.1)->c.map (·.2)=fp.map V.ref->cA K G (fp.map V.ref) ((e.map (·.2)).map D.lst)->cY K G c (e.map λp=>(p.1,.lst p.2))
 | [],[],_,_,_,_=>by simp only[bQ,cY]
 | a::c,b::e,fp,g,d,f=>by
  simp only[ax,List.cons.injEq] at g;cases fp with
  | nil=>simp at d
  | cons q fp=>
   simp only[ax,List.cons.injEq] at d;simp only[ax,cA] at f;simp only[ax,cY];show⟨⟨g.1,by rw[d.1];show f.1⟩,cY.fP g.2 d.2 f.2⟩
 | [],_::_,_,h,_,_=>by simp at h
 | _::_,[],_,h,_,_=>by simp at h
theorem dG.fP{K:J'}{G:Hp}:∀{c:List (Str×V)}{e:List (Str×List D)}{fp:List Addr},c.map (·.1)=e.map (·.1)->c.map (·.2)=fp.map V.ref->cA K G (fp.map V.ref) ((e.map (·.2)).map D.lst)->dG K G c (e.map λp=>(p.1,.lst p.2))
 | [],[],_,_,_,_=>by simp only[bQ,dG]
 | a::c,b::e,fp,g,d,f=>by
  simp only[ax,List.cons.injEq] at g;cases fp with
  | nil=>simp at d
  | cons q fp=>
   simp only[ax,List.cons.injEq] at d;simp only[ax,cA] at f;simp only[ax,dG];show⟨⟨g.1,by rw[d.1];show f.1⟩,dG.fP g.2 d.2 f.2⟩
 | [],_::_,_,h,_,_=>by simp at h
 | _::_,[],_,h,_,_=>by simp at h
noncomputable def p8(G H:Hp)(l:List Addr):Hp:=λa=>if a∈l then H a else G a
theorem tL{G H:Hp}{l:List Addr}{a:Addr}(h:a∈l):p8 G H l a=H a:=if_pos h
theorem rN{G H:Hp}{l:List Addr}{a:Addr}(h:a∉l):p8 G H l a=G a:=if_neg h
theorem zo{G H:Hp}{l:List Addr}(h:∀q∈l,G q=none):cO G (p8 G H l):=λb u e=>by
 rw[rN (λz=>by rw[h b z] at e;cases e)];show e
theorem j5.freeze{K:J'}{G H:Hp}{p:Addr}{fp:List Addr}{o:OV}(h:j5 K G H p fp o)(l:∀q∈p::fp,G q=none):Rep K (p8 G H (p::fp)) (.ref p) o.val:=by
 have c:=zo (H:=H) l;have g:p8 G H (p::fp) p=H p:=tL (by simp);cases o with
 | ll A=>
  simp only[OV.val,Rep];show⟨p,_,rfl,lA.of (by rw[g];show h.1),h.2.nV c λq f xs e=>by rw[tL (by simp[f])];show e⟩
 | dc n=>
  obtain⟨rfl,i,ep,b,a⟩:=h;simp only[OV.val,Rep];show⟨p,i,ep,rfl,by rw[g];show b,eT.mono c _ _ a⟩
 | dl n=>
  obtain⟨i,ep,b,a,k,j⟩:=h;simp only[OV.val,Rep];show⟨p,i,ep,rfl,by rw[g];show b,eT.fP a k (j.nV c λq f xs e=>by rw[tL (by simp[f])];show e)⟩
 | tl d ds=>
  obtain⟨r,v,xs,rfl,b,a,k,j⟩:=h;simp only[OV.val,Rep];show⟨p,_,rfl,(by rw[g];show b),cA.cons (a.mono c) (cA.cons ?_ cA.nil)⟩;simp only[Rep];show⟨r,xs,rfl,lA.of (by rw[tL (by simp)];show k),j.mono c⟩
 | dt n=>
  obtain⟨i,bs,b,m,a,k,j⟩:=h;simp only[OV.val,Rep];show⟨p,i,bs,rfl,by rw[g];show b,m.mono c,cY.fP a k (j.nV c λq f xs e=>by rw[tL (by simp[f])];show e)⟩
 | tp ds=>
  obtain⟨rfl,xs,b,a⟩:=h;simp only[OV.val,Rep];show⟨p,xs,rfl,(by rw[g];show b),a.mono c⟩
 | ob B fs=>
  obtain⟨C,y,x,b,w,l,a,k,j⟩:=h;simp only[OV.val,Rep];show⟨p,C,y,x,rfl,by rw[g];show b,w,λu t=>?_,dG.fP a k (j.nV c λq f xs e=>by rw[tL (by simp[f])];show e)⟩;obtain⟨v,s,rfl⟩:=aM.mp t;show l v s
 | ld z=>
  simp only[OV.val,Rep];show⟨p,_,rfl,lA.of (by rw[g];show h.1),h.2.nV c λq f u e=>by rw[tL (by simp[f])];show e⟩
 | dq n=>
  obtain⟨rfl,i,bs,b,m,a⟩:=h;simp only[OV.val,Rep];show⟨p,i,bs,rfl,by rw[g];show b,m.mono c,cY.mono c _ _ a⟩
noncomputable abbrev Ev:=List Sl
noncomputable def gt:Ev->Nat->Sl
 | [],_=>.un
 | a::_,0=>a
 | _::r,n+1=>gt r n
theorem xR{b:Ev}{i j:Nat}{s:Sl}:gt (b.set i s) j=if i=j/\j<b.length then s else gt b j:=by
 induction b generalizing i j with
 | nil=>simp[gt]
 | cons a r c=>
  cases i with
  | zero=>
   cases j with
   | zero=>simp[gt]
   | succ j=>simp[gt]
  | succ i=>
   cases j with
   | zero=>simp[gt]
   | succ j=>simp[gt,c]
def fI(K:J')(a b H:Hp)(v:V):R->Prop
 | .fz d=>Rep K a v d
 | .ow ds=>∃p xs,v=.ref p/\H p=none/\a p=none/\b p=some (.lst xs)/\cA K a xs ds
 | .ov o=>∃p fp,v=.ref p/\(p::fp).Nodup/\j5 K a b p fp o/\∀q∈p::fp,H q=none/\a q=none
structure eE(K:J')(G0 H0:Hp)(ρ:Ev)(σ:St)(G H:Hp):Prop where
 e:Ext G0 H0 G H
 len:σ.length=ρ.length
 fz:∀i d,gt ρ i=.fz d->∃v,σ[i]?=some (some v)/\Rep K G v d
 ow:∀i ds,gt ρ i=.ow ds->∃p xs,σ[i]?=some (some (.ref p))/\H p=some (.lst xs)/\G p=none/\H0 p=none/\cA K G xs ds
 dj:∀i j ds es,i≠j->gt ρ i=.ow ds->gt ρ j=.ow es->σ[i]?≠σ[j]?
 on:∃own:Addr->Option Nat,(∀i ds p,gt ρ i=.ow ds->σ[i]?=some (some (.ref p))->own p=some i)/\∀i o,gt ρ i=.ov o->∃p fp,σ[i]?=some (some (.ref p))/\(p::fp).Nodup/\j5 K G H p fp o/\∀q∈p::fp,G q=none/\H0 q=none/\own q=some i
section
variable{K:J'}{G0 H0 G H G' H' G2 H2:Hp}{ρ:Ev}{σ:St}{v:V}
theorem eE.ext(E:eE K G0 H0 ρ σ G H)(x:Ext G H G' H'):eE K G0 H0 ρ σ G' H' where
 e:=E.e.trans x
 len:=E.len
 fz:=λi d h=>let⟨v,b,a⟩:=E.fz i d h;⟨v,b,a.mono x.g⟩
 ow:=λi ds h=>let⟨p,xs,b,a,m,l,k⟩:=E.ow i ds h;⟨p,xs,b,x.h _ _ a,x.n p m (by rw[a];show nofun),l,k.mono x.g⟩
 dj:=E.dj
 on:=by
  obtain⟨own,b,a⟩:=E.on;show⟨own,b,λi o h=>?_⟩;obtain⟨p,fp,s,r,j,f⟩:=a i o h;show⟨p,fp,s,r,j.mono x.g λq _ u e=>x.h q u e,λq c=>⟨x.n q (f q c).1 (j.here q c),(f q c).2⟩⟩
theorem fI.freeze{r:R}(x:Ext G H G' H')(h:fI K G' H' H v r):∃G2,Ext G H G2 H'/\Rep K G2 v r.val/\cO G' G2:=by
 cases r with
 | fz d=>show⟨G',x,h,cO.refl _⟩
 | ow ds=>
  obtain⟨p,xs,l,k,a,w,t⟩:=h;show⟨upd G' p (.lst xs),⟨x.g.trans (vo a),x.h,λb o e=>?_,λq i c=>?_⟩,?_,vo a⟩
  .by_cases f:b=p
   .subst f;rw[iU] at e;rw[w];show e
   rw[eU f] at e;show x.s b o e
  .rw[eU (λz=>c (by rw[z];show k))];show x.n q i c
  show Rep K (upd G' p (.lst xs)) v (.lst ds);simp only[Rep];show⟨p,xs,l,lA.of iU,t.mono (vo a)⟩
 | ov o=>
  obtain⟨p,fp,rfl,l,k,a⟩:=h;have j:∀q∈p::fp,G' q=none:=λq m=>(a q m).2
  show⟨p8 G' H' (p::fp),⟨x.g.trans (zo j),x.h,λb u e=>?_,λq i c=>?_⟩,k.freeze j,zo j⟩
  .by_cases f:b∈p::fp
   .rw[tL f] at e;show e
   rw[rN f] at e;show x.s b u e
  rw[rN (λz=>c (a q z).1)];show x.n q i c
theorem fI.iC{r:R}{g f:Hp}(s:cO f g)(h:fI K G' H' g v r):fI K G' H' f v r:=by
 cases r with
 | fz d=>show h
 | ow ds=>
  obtain⟨p,xs,c,b,a,j,i⟩:=h;show⟨p,xs,c,s.free b,a,j,i⟩
 | ov o=>
  obtain⟨p,fp,rfl,c,b,a⟩:=h;show⟨p,fp,rfl,c,b,λq e=>⟨s.free (a q e).1,(a q e).2⟩⟩
end
noncomputable abbrev TD:=Ev->(R->Prop)->Prop
noncomputable abbrev jU:=Ev->(Bool->Prop)->Prop
noncomputable abbrev jP:=Ev->(List D->Prop)->Prop
structure DE where
 nx:Ev->Prop
 rt:R->Prop
 bk:Ev->Prop:=λ_=>False
 ct:Ev->Prop:=λ_=>False
noncomputable abbrev TX:=DE->Ev->Prop
def PD(X:Cx)(e:Expr)(t:TD):Prop:=∃tt,PE X e tt/\∀(b:Ev)(σ:St)(f d G H:Hp)(Q:R->Prop)(P:VK),eE X.K f d b σ G H->t b Q->
 (∀v a r c,Ext G H c a->fI X.K c a H v r->Q r->P v a)->tt σ H P
def PB(X:Cx)(e:Expr)(t:jU):Prop:=∃tt,PT X e tt/\∀(a:Ev)(σ:St)(f d G H:Hp)(Q:Bool->Prop)(P:Bool->Hp->Prop),eE X.K f d a σ G H->t a Q->
 (∀b c g,Ext G H g c->Q b->P b c)->tt σ H P
def mW(X:Cx)(es:List Expr)(t:jP):Prop:=∃tt,PA X es tt/\∀(a:Ev)(σ:St)(f e G H:Hp)(Q:List D->Prop)(P:List V->Hp->Prop),eE X.K f e a σ G H->t a Q->
 (∀b c ds d,Ext G H d c->cA X.K d b ds->Q ds->P b c)->tt σ H P
structure Goes(K:J')(G0 H0 G:Hp)(D:DE)(E:Ends):Prop where
 nx:∀ρ σ G' H',cO G G'->eE K G0 H0 ρ σ G' H'->D.nx ρ->E.nx σ H'
 rt:∀v H' r G',Ext G0 H0 G' H'->fI K G' H' H0 v r->D.rt r->E.rt v H'
 bk:∀ρ σ G' H',cO G G'->eE K G0 H0 ρ σ G' H'->D.bk ρ->E.bk σ H'
 ct:∀ρ σ G' H',cO G G'->eE K G0 H0 ρ σ G' H'->D.ct ρ->E.ct σ H'
theorem Goes.shift{K:J'}{e d G f:Hp}{D:DE}{E:Ends}(g:Goes K e d G D E)(s:cO G f):Goes K e d f D E:=
 ⟨λa σ c b s2=>g.nx a σ c b (s.trans s2),g.rt,λa σ c b s2=>g.bk a σ c b (s.trans s2),λa σ c b s2=>g.ct a σ c b (s.trans s2)⟩
def PX(X:Cx)(st:Stmt)(t:TX):Prop:=∃tt,PS X st tt/\∀(a:Ev)(σ:St)(c b G H:Hp)(D:DE)(E:Ends),eE X.K c b a σ G H->t D a->Goes X.K c b G D E->tt E σ H
def pd(X:Cx)(st:List Stmt)(t:TX):Prop:=∃tt,pf X st tt/\∀(a:Ev)(σ:St)(c b G H:Hp)(D:DE)(E:Ends),eE X.K c b a σ G H->t D a->Goes X.K c b G D E->tt E σ H
section
variable{X:Cx}{pos:Pos}{a b c:Expr}{ta tb tc:TD}
theorem gD{K:J'}{a b H:Hp}{v:V}{d:D}(h:Rep K a v d):fI K a b H v (.fz d):=h
def cx(i:Nat):TD:=λa Q=>match gt a i with
 | .fz d=>Q (.fz d)
 | _=>False
theorem cy(i:Nat){x:Str}(c:X.N[i]?=some x:=by rfl)(b:oN X.env.scope x:=by first | show Or.inl rfl | show Or.inr (Or.inl rfl) | show Or.inr (Or.inr rfl))(hd:(x==("__debug__":Str))=false:=by decide)
  (a:(x==("__classdict__":Str))=false:=by decide):PD X (.Name x pos) (cx i):=by
 show⟨_,qe c b hd a,λj σ m l G H Q P E h k=>?_⟩;unfold cx at h;split at h
 .rename_i d e;obtain⟨v,g,f⟩:=E.fz i d e;show⟨v,g,k v H (.fz d) G (.refl E.e.s) f h⟩
 show h.elim
def dC(d:D):TD:=λ_ Q=>Q (.fz d)
theorem zg{e:Expr}{v:V}{d:D}(h:PE X e (tC v))(r:∀K G,Rep K G v d):PD X e (dC d):=
 ⟨_,h,λa σ c b G H Q P E h k=>k v H (.fz d) G (.refl E.e.s) (r _ _) h⟩
theorem kD(K:J')(G:Hp)(i:Int):Rep K G (.int i) (.int i):=by simp only[Rep]
theorem mq(K:J')(G:Hp)(i:Bool):Rep K G (.bl i) (.bl i):=by simp only[Rep]
theorem ur(K:J')(G:Hp)(i:Str):Rep K G (.str i) (.str i):=by simp only[Rep]
theorem J1(K:J')(G:Hp):Rep K G .non .non:=by simp only[Rep]
theorem cJ{i j}:PD X (.Constant (.int i) j pos) (dC (.int i)):=zg QG λK G=>kD K G i
theorem BM{i j}:PD X (.Constant (.bool i) j pos) (dC (.bl i)):=zg Of λK G=>mq K G i
theorem jT{i j}:PD X (.Constant (.str i) j pos) (dC (.str i)):=zg QE λK G=>ur K G i
theorem i7{j}:PD X (.Constant .none j pos) (dC .non):=zg QF λK G=>J1 K G
theorem Cv{x:Str}{i:Str}{t:Tok}(a:X.mg x=some (.str i t))(b:Gl X x:=by rfl)(hd:(x==("__debug__":Str))=false:=by decide):PD X (.Name x pos) (dC (.str i)):=zg (Q2 b a (v:=.str i) ⟨t,rfl⟩ hd) λK G=>ur K G i
noncomputable abbrev O2:=D->D->(R->Prop)->Prop
def l8(X:Cx)(f:Value->Value->Sem Value)(o:O2):Prop:=∃r:R2,iQ X f r/\∀(G H:Hp)(x y:V)(d e:D)(Q:R->Prop)(P:VK),cO G H->Rep X.K G x d->Rep X.K G y e->o d e Q->
 (∀v a b c,Ext G H c a->fI X.K c a H v b->Q b->P v a)->r x y H P
def cE(o:O2)(ta tb:TD):TD:=λa Q=>ta a λb=>tb a λrb=>o b.val rb.val Q
theorem BX{r:R2}{o:O2}{p q:TE}
  (M:∀(G H:Hp)(x y:V)(d e:D)(Q:R->Prop)(P:VK),cO G H->Rep X.K G x d->Rep X.K G y e->o d e Q->(∀v a m b,Ext G H b a->fI X.K b a H v m->Q m->P v a)->r x y H P)
  (ha:∀(f:Ev)(c:St)(j i G H:Hp)(Q:R->Prop)(P:VK),eE X.K j i f c G H->ta f Q->(∀v a r b,Ext G H b a->fI X.K b a H v r->Q r->P v a)->p c H P)
  (N:∀(f:Ev)(c:St)(j i G H:Hp)(Q:R->Prop)(P:VK),eE X.K j i f c G H->tb f Q->(∀v a r b,Ext G H b a->fI X.K b a H v r->Q r->P v a)->q c H P)
  (f:Ev) (c:St) (j i G H:Hp) (Q:R->Prop) (P:VK) (E:eE X.K j i f c G H) (h:cE o ta tb f Q) (k:∀v a r b,Ext G H b a->fI X.K b a H v r->Q r->P v a):Aq r p q c H P:=by
 show ha f c j i G H _ _ E h λv H1 Z G1 A I T=>?_
 obtain⟨U,n,L,_⟩:=I.freeze A;show N f c j i U H1 _ _ (E.ext n) T λu W rb G2 z F S=>?_
 obtain⟨Y,l,J,_⟩:=F.freeze z;show M Y W v u _ _ Q P l.s (L.mono l.g) J S λB a m b w C O=>?_
 have t:=(n.trans l).trans w;show k B a m b t (C.iC (n.trans l).h) O
theorem cS{c:Operator}{o:O2}(i:l8 X (binaryOp c) o)(ha:PD X a ta)(j:PD X b tb):PD X (.BinOp a c b pos) (cE o ta tb):=by
 obtain⟨r,h,d⟩:=i;obtain⟨k,g,f⟩:=ha;obtain⟨l,pb,e⟩:=j;show⟨_,OM h g pb,BX d f e⟩
theorem ug{c:CmpOp}{o:O2}(i:l8 X (compareOp c) o)(ha:PD X a ta)(k:PD X b tb)(j:behindInMarks c b=false:=by first | show I0 _ | rfl):PD X (.Compare a [c] [b] pos) (cE o ta tb):=by
 obtain⟨r,h,d⟩:=i;obtain⟨l,g,f⟩:=ha;obtain⟨m,pb,e⟩:=k;show⟨_,QT h g pb j,BX d f e⟩
def dn(t:TD):jU:=λa Q=>t a λr=>match r with
 | .fz (.bl k)=>Q k
 | _=>False
theorem eh{c:CmpOp}{o:O2}(s:l8 X (compareOp c) o)(ha:PD X a ta)(u:PD X b tb)(t:behindInMarks c b=false:=by first | show I0 _ | rfl):PB X (.Compare a [c] [b] pos) (dn (cE o ta tb)):=by
 obtain⟨r,q,l⟩:=s;obtain⟨A,p,n⟩:=ha;obtain⟨B,pb,m⟩:=u;show⟨_,QS q p pb t,λg σ y w G H Q P E h k=>?_⟩;show BX l n m g σ y w G H _ _ E h λv x r z i j f=>?_
 split at f
 .rename_i d;have e:v=.bl d:=by simpa only[fI,Rep] using j
  show⟨d,e,k d x z i f⟩
 show f.elim
theorem xQ{e:Expr}{t:TD}(h:PD X e t)(he:∀whole,isTrue e X.env whole=(do let v <-whole;standAt e.pos;holding [v] (truthy v)):=by intro _;rfl):PB X e (dn t):=by
 obtain⟨tt,p,q⟩:=h;show⟨_,QD p he,λc σ j g G H Q P E h k=>?_⟩;show q c σ j g G H _ _ E h λv i r l d f b=>?_
 split at b
 .rename_i a;have e:v=.bl a:=by simpa only[fI,Rep] using f
  show⟨a,e,k a i l d b⟩
 show b.elim
def eB:O2:=λd e Q=>match d,e with
 | .int i,.int j=>Q (.fz (.int (i+j)))
 | .str x,.str y=>x.length+y.length<=sizeLine/\Q (.fz (.str (x++y)))
 | .lst xs,.lst ys=>xs.length+ys.length<=sizeLine/\Q (.ow (xs++ys))
 | _,_=>False
def OB(K:J'):R2:=λx y H Q=>∃l b xs zs,x=.ref l/\y=.ref b/\lA K H l xs/\lA K H b zs/\xs.length+zs.length<=sizeLine/\∀p,H p=none->Q (.ref p) (upd H p (.lst (xs++zs)))
theorem Q8:iQ X (binaryOp .Add) (OB X.K):=by
 intro p s σ H x y v u Q I f d h;obtain⟨l,b,xs,zs,rfl,rfl,g,i,hz,q⟩:=h;cases f;cases d;obtain⟨z,its,n,r,e⟩:=I.gq g;obtain⟨m,c,n2,a,k⟩:=I.gq i;have o:=r.length;have t:=a.length;show PySem.P.add_list e k ?_ (by rw[aA,aA];ext);have j:its.toArray++c.toArray=(its++c).toArray:=by simp
 rw[j];show⟨.ref _,_,I.wQ (t':=s.toks) (r.append a) (by rw[ay];ext),rfl,q _ I.fresh⟩
theorem tK{G H:Hp}{xs:List V}{ds:List D}{Q:R->Prop}{P:VK}(s:cO G H)(r:cA X.K G xs ds)(q:Q (.ow ds))
  (k:∀v b c d,Ext G H d b->fI X.K d b H v c->Q c->P v b):∀p,H p=none->P (.ref p) (upd H p (.lst xs)):=λp a=>
 k _ _ (.ow ds) G (.own s a) ⟨p,xs,rfl,a,s.free a,iU,r⟩ q
theorem eP:l8 X (binaryOp .Add) eB:=by
 show⟨_,wI.or (oZ.or Q8),λG H x y d e Q P s f c h k=>?_⟩;unfold eB at h;split at h
 .simp only[Rep] at f c;show .inl ⟨_,_,f,c,k _ _ _ G (.refl s) (gD (kD _ _ _)) h⟩
 .simp only[Rep] at f c;show .inr (.inl ⟨_,_,f,c,h.1,k _ _ _ G (.refl s) (gD (ur _ _ _)) h.2⟩)
 .simp only[Rep] at f c;obtain⟨a,xs,rfl,hx,i⟩:=f;obtain⟨b,ys,rfl,j,g⟩:=c;show .inr (.inr ⟨_,_,_,_,rfl,rfl,s.gq hx,s.gq j,by rw[i.length,g.length];show h.1,tK s (i.append g) h.2 k⟩)
 show h.elim
def oI(C:Int->Int->Prop)(g:Int->Int->D):O2:=λd e Q=>match d,e with
 | .int i,.int j=>C i j/\Q (.fz (g i j))
 | _,_=>False
def jn(g:Int->Int->D):O2:=λd e Q=>match d,e with
 | .int i,.int j=>Q (.fz (g i j))
 | _,_=>False
theorem BL{f:Value->Value->Sem Value}{C:Int->Int->Prop}{g:Int->Int->V}{g':Int->Int->D}(h:iQ X f (rI C g))(c:∀K G i j,Rep K G (g i j) (g' i j)):l8 X f (oI C g'):=by
 show⟨_,h,λG H x y d e Q P s b a h k=>?_⟩;unfold oI at h;split at h
 .simp only[Rep] at b a;show⟨_,_,b,a,h.1,k _ _ _ G (.refl s) (gD (c _ _ _ _)) h.2⟩
 show h.elim
theorem yY{f:Value->Value->Sem Value}{g:Int->Int->V}{g':Int->Int->D}(h:iQ X f (qm g))(c:∀K G i j,Rep K G (g i j) (g' i j)):l8 X f (jn g'):=by
 show⟨_,h,λG H x y d e Q P s b a h k=>?_⟩;unfold jn at h;split at h
 .simp only[Rep] at b a;show⟨_,_,b,a,k _ _ _ G (.refl s) (gD (c _ _ _ _)) h⟩
 show h.elim
theorem Iw:l8 X (binaryOp .Sub) (jn λi j=>.int (i-j)):=yY Pg λK G i j=>kD K G _
theorem mL:l8 X (binaryOp .Mult) (oI gk λi j=>.int (i*j)):=BL Pf λK G i j=>kD K G _
theorem lN:l8 X (binaryOp .FloorDiv) (oI kA λi j=>.int (i/j)):=BL QV λK G i j=>kD K G _
theorem gL:l8 X (binaryOp .Mod) (oI (λ_ j=>0<j) λi j=>.int (i%j)):=BL Pe λK G i j=>kD K G _
theorem yU:l8 X (binaryOp .Pow) (oI rC λi j=>.int (i ^ j.toNat)):=BL Pd λK G i j=>kD K G _
theorem xF:l8 X (compareOp .Lt) (jn λi j=>.bl (decide (i<j))):=yY OK λK G i j=>mq K G _
theorem NX:l8 X (compareOp .LtE) (jn λi j=>.bl (decide (i<=j))):=yY DT λK G i j=>mq K G _
theorem vR:l8 X (compareOp .Gt) (jn λi j=>.bl (decide (j<i))):=yY OJ λK G i j=>mq K G _
theorem NW:l8 X (compareOp .GtE) (jn λi j=>.bl (decide (j<=i))):=yY OI λK G i j=>mq K G _
end
open PySem.SeqAt
mutual
noncomputable def eC:D->D->Bool
 | .non,.non=>true
 | .bl a,.bl b=>a==b
 | .bl a,.int b=>(if a then 1 else 0)==b
 | .int a,.bl b=>a==(if b then 1 else 0)
 | .int a,.int b=>a==b
 | .str a,.str b=>a==b
 | .tup xs,.tup ys=>nI xs ys
 | .lst xs,.lst ys=>nI xs ys
 | _,_=>false
noncomputable def nI:List D->List D->Bool
 | [],[]=>true
 | x::xs,y::ys=>eC x y&&nI xs ys
 | _,_=>false
end
def eR:Nat->D->Prop
 | _,.non=>True
 | _,.bl _=>True
 | _,.int _=>True
 | _,.str _=>True
 | n+1,.tup ds=>∀d∈ds,eR n d
 | n+1,.lst ds=>∀d∈ds,eR n d
 | _,_=>False
theorem eR.mono:∀{n m:Nat}{d:D},n<=m->eR n d->eR m d
 | n,m,.non,_,_=>by cases m<;>show trivial
 | n,m,.bl _,_,_=>by cases m<;>show trivial
 | n,m,.int _,_,_=>by cases m<;>show trivial
 | n,m,.str _,_,_=>by cases m<;>show trivial
 | 0,m,.tup ds,_,h=>by cases h
 | 0,m,.lst ds,_,h=>by cases h
 | n+1,0,.tup ds,l,h=>by ext
 | n+1,0,.lst ds,l,h=>by ext
 | n+1,m+1,.tup ds,l,h=>λd hd=>eR.mono (by ext) (h d hd)
 | n+1,m+1,.lst ds,l,h=>λd hd=>eR.mono (by ext) (h d hd)
 | 0,m,.obj _ _,_,h=>by cases h
 | n+1,m,.obj _ _,_,h=>by cases h
 | 0,m,.dic _,_,h=>by cases h
 | 0,m,.dit _,_,h=>by cases h
 | 0,m,.exc _,_,h=>by cases h
 | n+1,m,.dic _,_,h=>by cases h
 | n+1,m,.dit _,_,h=>by cases h
 | n+1,m,.exc _,_,h=>by cases h
mutual
theorem zev:∀(n:Nat)(d:D),eR n d->eC d d=true
 | n,.non,_=>by simp only[eC]
 | n,.bl _,_=>by simp only[eC,beq_self_eq_true]
 | n,.int _,_=>by simp only[eC,beq_self_eq_true]
 | n,.str _,_=>by simp only[eC,beq_self_eq_true]
 | 0,.tup ds,h=>by cases h
 | 0,.lst ds,h=>by cases h
 | n+1,.tup ds,h=>by simp only[eC];show EO n ds h
 | n+1,.lst ds,h=>by simp only[eC];show EO n ds h
 | 0,.obj _ _,h=>by cases h
 | n+1,.obj _ _,h=>by cases h
 | 0,.dic _,h=>by cases h
 | 0,.dit _,h=>by cases h
 | 0,.exc _,h=>by cases h
 | n+1,.dic _,h=>by cases h
 | n+1,.dit _,h=>by cases h
 | n+1,.exc _,h=>by cases h
theorem EO:∀(n:Nat)(ds:List D),(∀d∈ds,eR n d)->nI ds ds=true
 | n,[],_=>by simp only[nI]
 | n,d::ds,h=>by simp only[nI,zev n d (h d (by simp)),EO n ds (λe he=>h e (by simp[he])),Bool.and_self]
end
theorem zf:∀{xs ys:List D},xs.length≠ys.length->nI xs ys=false
 | [],[],h=>absurd rfl h
 | x::xs,y::ys,h=>by
  rw[nI,zf (xs:=xs) (ys:=ys) (by simpa using h),Bool.and_false]
 | [],_::_,_=>by simp only[nI]
 | _::_,[],_=>by simp only[nI]
theorem ze:∀(xs ys:List D),xs.length=ys.length->nI xs ys=(List.range xs.length).all λj=>eC (xs.getD j .non) (ys.getD j .non)
 | [],[],_=>by simp[nI]
 | x::xs,y::ys,h=>by
  rw[nI,ze xs ys (by simpa using h),aD,List.range_succ_eq_map,List.all_cons,List.all_map];congr 1
 | [],_::_,h=>by simp at h
 | _::_,[],h=>by simp at h
theorem Ex(xs ys:List D):((List.range (min xs.length ys.length)).all (λj=>eC (xs.getD j .non) (ys.getD j .non))&&xs.length==ys.length)=nI xs ys:=by
 by_cases h:xs.length=ys.length
 .rw[ze xs ys h,h];simp
 rw[zf h];simp[h]
section
variable{X:Cx}{K':List (Addr×Obj)}{σ:St}{H:Hp}{s:Shared}
mutual
theorem B9(I:Inv X K' σ H s):∀(n:Nat)(d e:D)(v:V),eR n d->eR n e->Rep X.K H v d->Rep X.K H v e->d=e
 | n,.non,e,v,h,h',r,c=>by
  cases e<;>simp only[Rep] at r c<;>subst r<;>first | rfl | (simp at c;done) | (simp only[V.bl.injEq,V.int.injEq,V.str.injEq] at c;rw[c])
 | n,.bl b,e,v,h,h',r,c=>by
  cases e<;>simp only[Rep] at r c<;>subst r<;>first | rfl | (simp at c;done) | (simp only[V.bl.injEq,V.int.injEq,V.str.injEq] at c;rw[c])
 | n,.int b,e,v,h,h',r,c=>by
  cases e<;>simp only[Rep] at r c<;>subst r<;>first | rfl | (simp at c;done) | (simp only[V.bl.injEq,V.int.injEq,V.str.injEq] at c;rw[c])
 | n,.str b,e,v,h,h',r,c=>by
  cases e<;>simp only[Rep] at r c<;>subst r<;>first | rfl | (simp at c;done) | (simp only[V.bl.injEq,V.int.injEq,V.str.injEq] at c;rw[c])
 | 0,.tup ds,e,v,h,h',r,c=>by cases h
 | 0,.lst ds,e,v,h,h',r,c=>by cases h
 | n+1,.tup ds,e,v,h,h',r,c=>by
  simp only[Rep] at r;obtain⟨a,xs,rfl,q,rs⟩:=r;cases e<;>simp only[Rep] at c
  case tup es=>
   obtain⟨b,ys,i,f,g⟩:=c;cases i;rw[I.mB (gR.of f) (gR.of q)] at g;rw[Ew I n ds es xs h h' rs g]
  case lst es=>
   obtain⟨b,ys,i,f,g⟩:=c;cases i;obtain⟨its,_,j,_⟩:=I.tuple (gR.of q);obtain⟨its',_,k,_⟩:=I.list f.sq;show absurd rfl (ne_of_list_tuple k.isList (show s.heap.IsTuple a its.toArray from j))
  case obj=>cases h'
  case dic=>cases h'
  case dit=>cases h'
  case exc=>cases h'
  all_goals cases c
 | n+1,.lst ds,e,v,h,h',r,c=>by
  simp only[Rep] at r;obtain⟨a,xs,rfl,q,rs⟩:=r;cases e<;>simp only[Rep] at c
  case lst es=>
   obtain⟨b,ys,i,f,g⟩:=c;cases i;rw[I.iM f.sq q.sq] at g;rw[Ew I n ds es xs h h' rs g]
  case tup es=>
   obtain⟨b,ys,i,f,g⟩:=c;cases i;obtain⟨its,_,j,_⟩:=I.tuple (gR.of f);obtain⟨its',_,k,_⟩:=I.list q.sq;show absurd rfl (ne_of_list_tuple k.isList (show s.heap.IsTuple a its.toArray from j))
  case obj=>cases h'
  case dic=>cases h'
  case dit=>cases h'
  case exc=>cases h'
  all_goals cases c
 | 0,.obj _ _,_,_,h,_,_,_=>by cases h
 | n+1,.obj _ _,_,_,h,_,_,_=>by cases h
 | 0,.dic _,_,_,h,_,_,_=>by cases h
 | 0,.dit _,_,_,h,_,_,_=>by cases h
 | 0,.exc _,_,_,h,_,_,_=>by cases h
 | n+1,.dic _,_,_,h,_,_,_=>by cases h
 | n+1,.dit _,_,_,h,_,_,_=>by cases h
 | n+1,.exc _,_,_,h,_,_,_=>by cases h
theorem Ew(I:Inv X K' σ H s):∀(n:Nat)(ds es:List D)(a:List V),(∀d∈ds,eR n d)->(∀d∈es,eR n d)->cA X.K H a ds->cA X.K H a es->ds=es
 | n,[],[],_,_,_,_,_=>rfl
 | n,d::ds,e::es,v::a,h,h',r,b=>by
  simp only[cA] at r b;rw[B9 I n d e v (h d (by simp)) (h' e (by simp)) r.1 b.1,Ew I n ds es a (λx hx=>h x (by simp[hx])) (λx hx=>h' x (by simp[hx])) r.2 b.2]
 | n,[],_::_,[],_,_,_,r=>by simp only[cA] at r
 | n,[],_::_,_::_,_,_,r,_=>by simp only[cA] at r
 | n,_::_,[],[],_,_,r,_=>by simp only[cA] at r
 | n,_::_,[],_::_,_,_,_,r=>by simp only[cA] at r
 | n,_::_,_::_,[],_,_,r,_=>by simp only[cA] at r
end
theorem qg{a:List V}{ds:List D}{b:List Value}{j:Nat}(f:Vals a b)(g:cA X.K H a ds)(l:j<b.toArray.size):∃v,RelV v b.toArray[j]/\Rep X.K H v (ds.getD j .non)/\ds.getD j .non∈ds:=by
 have i:j<b.length:=by simpa using l
 have e:j<a.length:=by rw[f.length];show i
 have c:j<ds.length:=by rw[<-g.length];show e
 obtain⟨u,h,k⟩:=f.get (ai e);obtain⟨d,hd,m⟩:=g.Bd (ai e);rw[ai i] at h;rw[ai c] at hd;cases h;cases hd;show⟨a[j],?_,?_,?_⟩
 .simpa using k
 .simpa[List.getD,c] using m
 simp[List.getD,c]
noncomputable def xJ:D->Bool
 | .non=>true
 | .bl _=>true
 | .int _=>true
 | .str _=>true
 | _=>false
theorem JZ{d e:D}{x y:V}(hd:xJ d=true)(he:xJ e=true)(b:Rep X.K H x d)(a:Rep X.K H y e):BJ x=true/\BJ y=true/\HE x y=eC d e:=by
 cases d<;>first | cases hd | skip
 all_goals (cases e<;>first | cases he | skip)
 all_goals
  simp only[Rep] at b a;subst b a;show⟨rfl,rfl,by simp[HE,eC]⟩
theorem yX(I:Inv X W σ H s):∀(n:Nat)(A:Around)(d e:D)(x y:V)(v u:Value),eR n d->eR n e->A.units+n<cLine->Rep X.K H x d->Rep X.K H y e->RelV x v->RelV y u->EqAt A s v u (eC d e):=by
 intro n;induction n with
 | zero=>
  intro A d e x y v u hd he U f c l k;have fd:xJ d=true:=by cases d<;>first | rfl | cases hd
  have J:xJ e=true:=by cases e<;>first | rfl | cases he
  obtain⟨C,B,L⟩:=JZ fd J f c;rw[<-L];show IX l k C B
 | succ n T=>
  intro A d e x y v u hd he U f c l k;have i:A.units<cLine:=by ext
  have S:A.in1.units+n<cLine:=by show A.units+1+n<cLine;ext
  by_cases fd:xJ d=true
  .by_cases J:xJ e=true
   .obtain⟨C,B,L⟩:=JZ fd J f c;rw[<-L];show IX l k C B
   cases e<;>first | show absurd rfl J | skip
   case tup es=>
    simp only[Rep] at c;obtain⟨b,ys,rfl,q,rs⟩:=c;cases k;obtain⟨its,o,z,_⟩:=I.tuple (gR.of q);have g:s.heap.IsTuple b its.toArray:=z;cases d<;>first | cases fd | skip
    .simp only[Rep] at f;subst f;cases l;simpa only[eC] using EqAt.none_tuple g i
    .simp only[Rep] at f;subst f;cases l;simpa only[eC] using EqAt.bool_tuple _ g i
    .simp only[Rep] at f;subst f;obtain⟨t,rfl⟩:=l;simpa only[eC] using EqAt.int_tuple _ t g i
    simp only[Rep] at f;subst f;obtain⟨t,rfl⟩:=l;simpa only[eC] using EqAt.str_tuple _ t g i
   case lst es=>
    simp only[Rep] at c;obtain⟨b,ys,rfl,q,rs⟩:=c;cases k;obtain⟨its,o,z,_⟩:=I.list q.sq;have g:=z.isList;cases d<;>first | cases fd | skip
    .simp only[Rep] at f;subst f;cases l;simpa only[eC] using EqAt.none_list g i
    .simp only[Rep] at f;subst f;cases l;simpa only[eC] using EqAt.bool_list _ g i
    .simp only[Rep] at f;subst f;obtain⟨t,rfl⟩:=l;simpa only[eC] using EqAt.int_list _ t g i
    simp only[Rep] at f;subst f;obtain⟨t,rfl⟩:=l;simpa only[eC] using EqAt.str_list _ t g i
   case obj=>cases he
   case dic=>cases he
   case dit=>cases he
   case exc=>cases he
  cases d<;>first | show absurd rfl fd | skip
  case tup ds=>
   have Q:=f;simp only[Rep] at f;obtain⟨a,xs,rfl,q,rs⟩:=f;cases l;obtain⟨its,o,z,_⟩:=I.tuple (gR.of q);have g:s.heap.IsTuple a its.toArray:=z;cases e
   case non=>simp only[Rep] at c;subst c;cases k;simpa only[eC] using EqAt.tuple_none g i
   case bl=>simp only[Rep] at c;subst c;cases k;simpa only[eC] using EqAt.tuple_bool _ g i
   case int=>simp only[Rep] at c;subst c;obtain⟨t,rfl⟩:=k;simpa only[eC] using EqAt.tuple_int _ t g i
   case str=>simp only[Rep] at c;subst c;obtain⟨t,rfl⟩:=k;simpa only[eC] using EqAt.tuple_str _ t g i
   case lst es=>
    simp only[Rep] at c;obtain⟨b,ys,rfl,p,w⟩:=c;cases k;obtain⟨its',r,m,_⟩:=I.list p.sq;simpa only[eC] using EqAt.tuple_list g m.isList i
   case tup es=>
    have R:=c;simp only[Rep] at c;obtain⟨b,ys,rfl,p,w⟩:=c;cases k;obtain⟨its',r,G,_⟩:=I.tuple (gR.of p);by_cases E:a=b
    .subst E;have M:=B9 I (n+1) _ _ _ hd he Q R;rw[<-M,zev (n+1) _ hd];show EqAt.same _
    show EqAt.of_refs E ?_;have h:=RcAt.tuples (e:=λj=>eC (ds.getD j .non) (es.getD j .non)) g (show s.heap.IsTuple b its'.toArray from G) i λj C B=>by
     obtain⟨v1,a1,P,c1⟩:=qg o rs C;obtain⟨v2,a2,O,N⟩:=qg r w B;show T A.in1 _ _ v1 v2 _ _ (hd _ c1) (he _ N) S P O a1 a2
    have l1:its.toArray.size=ds.length:=by rw[aA,<-o.length,rs.length]
    have F:its'.toArray.size=es.length:=by rw[aA,<-r.length,w.length]
    rw[l1,F,Ex] at h;simpa only[eC] using h
   case obj=>cases he
   case dic=>cases he
   case dit=>cases he
   case exc=>cases he
  case lst ds=>
   have Q:=f;simp only[Rep] at f;obtain⟨a,xs,rfl,q,rs⟩:=f;cases l;obtain⟨its,o,z,_⟩:=I.list q.sq;have g:=z.isList;cases e
   case non=>simp only[Rep] at c;subst c;cases k;simpa only[eC] using EqAt.list_none g i
   case bl=>simp only[Rep] at c;subst c;cases k;simpa only[eC] using EqAt.list_bool _ g i
   case int=>simp only[Rep] at c;subst c;obtain⟨t,rfl⟩:=k;simpa only[eC] using EqAt.list_int _ t g i
   case str=>simp only[Rep] at c;subst c;obtain⟨t,rfl⟩:=k;simpa only[eC] using EqAt.list_str _ t g i
   case tup es=>
    simp only[Rep] at c;obtain⟨b,ys,rfl,p,w⟩:=c;cases k;obtain⟨its',r,m,_⟩:=I.tuple (gR.of p);simpa only[eC] using EqAt.list_tuple g (show s.heap.IsTuple b its'.toArray from m) i
   case lst es=>
    have R:=c;simp only[Rep] at c;obtain⟨b,ys,rfl,p,w⟩:=c;cases k;obtain⟨its',r,G,_⟩:=I.list p.sq;by_cases E:a=b
    .subst E;have M:=B9 I (n+1) _ _ _ hd he Q R;rw[<-M,zev (n+1) _ hd];show EqAt.same _
    show EqAt.of_refs E ?_;have l1:its.toArray.size=ds.length:=by rw[aA,<-o.length,rs.length]
    have F:its'.toArray.size=es.length:=by rw[aA,<-r.length,w.length]
    by_cases m:ds.length=es.length
    .have h:=RcAt.lists (e:=λj=>eC (ds.getD j .non) (es.getD j .non)) g G.isList (by rw[l1,F,m]) i λj C B=>by
      obtain⟨v1,a1,P,c1⟩:=qg o rs C;obtain⟨v2,a2,O,N⟩:=qg r w B;show T A.in1 _ _ v1 v2 _ _ (hd _ c1) (he _ N) S P O a1 a2
     rw[l1,<-ze ds es m] at h;simpa only[eC] using h
    have h:=RcAt.lists_lengths (A:=A) g G.isList (by rw[l1,F];simpa using m) i;simp only[eC,zf m];show h
   case obj=>cases he
   case dic=>cases he
   case dit=>cases he
   case exc=>cases he
  case obj=>cases hd
  case dic=>cases hd
  case dit=>cases hd
  case exc=>cases hd
end
section
variable{X:Cx}{K':List (Addr×Obj)}{σ:St}{H:Hp}{s:Shared}
theorem qY{y:V}{u:Value}(r:Rep X.K H y .non)(q:RelV y u):u=.none:=by simp only[Rep] at r;subst r;cases q;rfl
theorem rf{y:V}{u:Value}{c:Bool}(r:Rep X.K H y (.bl c))(q:RelV y u):u=.bool c:=by simp only[Rep] at r;subst r;cases q;rfl
theorem qZ{y:V}{u:Value}{i:Int}(r:Rep X.K H y (.int i))(q:RelV y u):∃t,u=.int i t:=by simp only[Rep] at r;subst r;show q
theorem qX{y:V}{u:Value}{x:Str}(r:Rep X.K H y (.str x))(q:RelV y u):∃t,u=.str x t:=by simp only[Rep] at r;subst r;show q
theorem tW{y:V}{u:Value}{es:List D}(I:Inv X K' σ H s)(r:Rep X.K H y (.tup es))(q:RelV y u):∃b it,u=.ref b/\s.heap.IsTuple b (List.toArray it):=by
 simp only[Rep] at r;obtain⟨b,ys,rfl,h,_⟩:=r;cases q;obtain⟨it,_,a,_⟩:=I.tuple (gR.of h);show⟨b,it,rfl,a⟩
theorem tX{y:V}{u:Value}{es:List D}(I:Inv X K' σ H s)(r:Rep X.K H y (.lst es))(q:RelV y u):∃b it,u=.ref b/\s.heap.IsList b (List.toArray it):=by
 simp only[Rep] at r;obtain⟨b,ys,rfl,h,_⟩:=r;cases q;obtain⟨it,_,a,_⟩:=I.list h.sq;show⟨b,it,rfl,a.isList⟩
theorem PN(I:Inv X K' σ H s):∀(n:Nat)(A:Around)(d e:D)(x y:V)(v u:Value),eR n d->eR n e->A.units+n<cLine->Rep X.K H x d->Rep X.K H y e->RelV x v->RelV y u->RcAt A s v u (eC d e):=by
 intro n A d e x y v u hd he N l c m f;have i:A.units<cLine:=by ext
 cases d
 case non=>
  simp only[Rep] at l;subst l;cases m;cases e
  case non=>cases qY c f;show RcAt.none_none
  case bl=>cases rf c f;show RcAt.none_bool _
  case int=>obtain⟨t,rfl⟩:=qZ c f;show RcAt.none_int _ t
  case str=>obtain⟨t,rfl⟩:=qX c f;show RcAt.none_str _ t
  case tup=>obtain⟨b,it,rfl,g⟩:=tW I c f;show RcAt.none_tuple g i
  case lst=>obtain⟨b,it,rfl,g⟩:=tX I c f;show RcAt.none_list g i
  all_goals (cases n<;>cases he)
 case bl a=>
  simp only[Rep] at l;subst l;cases m;cases e
  case non=>cases qY c f;show RcAt.bool_none _
  case bl=>cases rf c f;show RcAt.bool_bool _ _
  case int=>obtain⟨t,rfl⟩:=qZ c f;show RcAt.bool_int _ _ t
  case str=>obtain⟨t,rfl⟩:=qX c f;show RcAt.bool_str _ _ t
  case tup=>obtain⟨b,it,rfl,g⟩:=tW I c f;show RcAt.bool_tuple _ g i
  case lst=>obtain⟨b,it,rfl,g⟩:=tX I c f;show RcAt.bool_list _ g i
  all_goals (cases n<;>cases he)
 case int a=>
  simp only[Rep] at l;subst l;obtain⟨t0,rfl⟩:=m;cases e
  case non=>cases qY c f;show RcAt.int_none _ t0
  case bl=>cases rf c f;show RcAt.int_bool _ t0 _
  case int=>obtain⟨t,rfl⟩:=qZ c f;show RcAt.int_int _ t0 _ t
  case str=>obtain⟨t,rfl⟩:=qX c f;show RcAt.int_str _ t0 _ t
  case tup=>obtain⟨b,it,rfl,g⟩:=tW I c f;show RcAt.int_tuple _ t0 g i
  case lst=>obtain⟨b,it,rfl,g⟩:=tX I c f;show RcAt.int_list _ t0 g i
  all_goals (cases n<;>cases he)
 case str a=>
  simp only[Rep] at l;subst l;obtain⟨t0,rfl⟩:=m;cases e
  case non=>cases qY c f;show RcAt.str_none _ t0
  case bl=>cases rf c f;show RcAt.str_bool _ t0 _
  case int=>obtain⟨t,rfl⟩:=qZ c f;show RcAt.str_int _ t0 _ t
  case str=>obtain⟨t,rfl⟩:=qX c f;show RcAt.str_str _ t0 _ t
  case tup=>obtain⟨b,it,rfl,g⟩:=tW I c f;show RcAt.str_tuple _ t0 g i
  case lst=>obtain⟨b,it,rfl,g⟩:=tX I c f;show RcAt.str_list _ t0 g i
  all_goals (cases n<;>cases he)
 case tup ds=>
  cases n with
  | zero=>cases hd
  | succ n=>
  have C:A.in1.units+n<cLine:=by show A.units+1+n<cLine;ext
  simp only[Rep] at l;obtain⟨a,xs,rfl,q,rs⟩:=l;cases m;obtain⟨its,o,F,_⟩:=I.tuple (gR.of q);have k:s.heap.IsTuple a its.toArray:=F;cases e
  case non=>cases qY c f;show RcAt.tuple_none k i
  case bl=>cases rf c f;show RcAt.tuple_bool _ k i
  case int=>obtain⟨t,rfl⟩:=qZ c f;show RcAt.tuple_int _ t k i
  case str=>obtain⟨t,rfl⟩:=qX c f;show RcAt.tuple_str _ t k i
  case lst es=>obtain⟨b,it,rfl,g⟩:=tX I c f;show RcAt.tuple_list k g i
  case tup es=>
   simp only[Rep] at c;obtain⟨b,ys,rfl,E,r⟩:=c;cases f;obtain⟨its',p,z,_⟩:=I.tuple (gR.of E);have h:=RcAt.tuples (e:=λj=>eC (ds.getD j .non) (es.getD j .non)) k (show s.heap.IsTuple b its'.toArray from z) i λj G g=>by
    obtain⟨v1,a1,M,c1⟩:=qg o rs G;obtain⟨v2,a2,L,J⟩:=qg p r g;show yX I n A.in1 _ _ v1 v2 _ _ (hd _ c1) (he _ J) C M L a1 a2
   have l1:its.toArray.size=ds.length:=by rw[aA,<-o.length,rs.length]
   have w:its'.toArray.size=es.length:=by rw[aA,<-p.length,r.length]
   rw[l1,w,Ex] at h;simpa only[eC] using h
  all_goals cases he
 case lst ds=>
  cases n with
  | zero=>cases hd
  | succ n=>
  have C:A.in1.units+n<cLine:=by show A.units+1+n<cLine;ext
  simp only[Rep] at l;obtain⟨a,xs,rfl,q,rs⟩:=l;cases m;obtain⟨its,o,F,_⟩:=I.list q.sq;have k:=F.isList;cases e
  case non=>cases qY c f;show RcAt.list_none k i
  case bl=>cases rf c f;show RcAt.list_bool _ k i
  case int=>obtain⟨t,rfl⟩:=qZ c f;show RcAt.list_int _ t k i
  case str=>obtain⟨t,rfl⟩:=qX c f;show RcAt.list_str _ t k i
  case tup es=>obtain⟨b,it,rfl,g⟩:=tW I c f;show RcAt.list_tuple k g i
  case lst es=>
   simp only[Rep] at c;obtain⟨b,ys,rfl,E,r⟩:=c;cases f;obtain⟨its',p,z,_⟩:=I.list E.sq;have l1:its.toArray.size=ds.length:=by rw[aA,<-o.length,rs.length]
   have w:its'.toArray.size=es.length:=by rw[aA,<-p.length,r.length]
   by_cases B:ds.length=es.length
   .have h:=RcAt.lists (e:=λj=>eC (ds.getD j .non) (es.getD j .non)) k z.isList (by rw[l1,w,B]) i λj G g=>by
     obtain⟨v1,a1,M,c1⟩:=qg o rs G;obtain⟨v2,a2,L,J⟩:=qg p r g;show yX I n A.in1 _ _ v1 v2 _ _ (hd _ c1) (he _ J) C M L a1 a2
    rw[l1,<-ze ds es B] at h;simpa only[eC] using h
   have h:=RcAt.lists_lengths (A:=A) k z.isList (by rw[l1,w];simpa using B) i;simp only[eC,zf B];show h
  all_goals cases he
 all_goals (cases n<;>cases hd)
theorem Su(I:Inv X K' σ H s):∀(n:Nat)(A:Around)(d e:D)(x y:V)(v u:Value),eR n d->eR n e->A.units+n<cLine->Rep X.K H x d->Rep X.K H y e->RelV x v->RelV y u->RcNeAt A s v u (!eC d e):=by
 intro n A d e x y v u hd he N l c m f;have i:A.units<cLine:=by ext
 cases d
 case non=>
  simp only[Rep] at l;subst l;cases m;cases e
  case non=>cases qY c f;show RcNeAt.none_none
  case bl=>cases rf c f;show RcNeAt.none_bool _
  case int=>obtain⟨t,rfl⟩:=qZ c f;show RcNeAt.none_int _ t
  case str=>obtain⟨t,rfl⟩:=qX c f;show RcNeAt.none_str _ t
  case tup=>obtain⟨b,it,rfl,g⟩:=tW I c f;show RcNeAt.none_tuple g i
  case lst=>obtain⟨b,it,rfl,g⟩:=tX I c f;show RcNeAt.none_list g i
  all_goals (cases n<;>cases he)
 case bl a=>
  simp only[Rep] at l;subst l;cases m;cases e
  case non=>cases qY c f;show RcNeAt.bool_none _
  case bl=>cases rf c f;show RcNeAt.bool_bool _ _
  case int=>obtain⟨t,rfl⟩:=qZ c f;show RcNeAt.bool_int _ _ t
  case str=>obtain⟨t,rfl⟩:=qX c f;show RcNeAt.bool_str _ _ t
  case tup=>obtain⟨b,it,rfl,g⟩:=tW I c f;show RcNeAt.bool_tuple _ g i
  case lst=>obtain⟨b,it,rfl,g⟩:=tX I c f;show RcNeAt.bool_list _ g i
  all_goals (cases n<;>cases he)
 case int a=>
  simp only[Rep] at l;subst l;obtain⟨t0,rfl⟩:=m;cases e
  case non=>cases qY c f;show RcNeAt.int_none _ t0
  case bl=>cases rf c f;show RcNeAt.int_bool _ t0 _
  case int=>obtain⟨t,rfl⟩:=qZ c f;show RcNeAt.int_int _ t0 _ t
  case str=>obtain⟨t,rfl⟩:=qX c f;show RcNeAt.int_str _ t0 _ t
  case tup=>obtain⟨b,it,rfl,g⟩:=tW I c f;show RcNeAt.int_tuple _ t0 g i
  case lst=>obtain⟨b,it,rfl,g⟩:=tX I c f;show RcNeAt.int_list _ t0 g i
  all_goals (cases n<;>cases he)
 case str a=>
  simp only[Rep] at l;subst l;obtain⟨t0,rfl⟩:=m;cases e
  case non=>cases qY c f;show RcNeAt.str_none _ t0
  case bl=>cases rf c f;show RcNeAt.str_bool _ t0 _
  case int=>obtain⟨t,rfl⟩:=qZ c f;show RcNeAt.str_int _ t0 _ t
  case str=>obtain⟨t,rfl⟩:=qX c f;show RcNeAt.str_str _ t0 _ t
  case tup=>obtain⟨b,it,rfl,g⟩:=tW I c f;show RcNeAt.str_tuple _ t0 g i
  case lst=>obtain⟨b,it,rfl,g⟩:=tX I c f;show RcNeAt.str_list _ t0 g i
  all_goals (cases n<;>cases he)
 case tup ds=>
  cases n with
  | zero=>cases hd
  | succ n=>
  have C:A.in1.units+n<cLine:=by show A.units+1+n<cLine;ext
  simp only[Rep] at l;obtain⟨a,xs,rfl,q,rs⟩:=l;cases m;obtain⟨its,o,F,_⟩:=I.tuple (gR.of q);have k:s.heap.IsTuple a its.toArray:=F;cases e
  case non=>cases qY c f;show RcNeAt.tuple_none k i
  case bl=>cases rf c f;show RcNeAt.tuple_bool _ k i
  case int=>obtain⟨t,rfl⟩:=qZ c f;show RcNeAt.tuple_int _ t k i
  case str=>obtain⟨t,rfl⟩:=qX c f;show RcNeAt.tuple_str _ t k i
  case lst es=>obtain⟨b,it,rfl,g⟩:=tX I c f;show RcNeAt.tuple_list k g i
  case tup es=>
   simp only[Rep] at c;obtain⟨b,ys,rfl,E,r⟩:=c;cases f;obtain⟨its',p,z,_⟩:=I.tuple (gR.of E);have h:=RcNeAt.tuples (e:=λj=>eC (ds.getD j .non) (es.getD j .non)) k (show s.heap.IsTuple b its'.toArray from z) i λj G g=>by
    obtain⟨v1,a1,M,c1⟩:=qg o rs G;obtain⟨v2,a2,L,J⟩:=qg p r g;show yX I n A.in1 _ _ v1 v2 _ _ (hd _ c1) (he _ J) C M L a1 a2
   have l1:its.toArray.size=ds.length:=by rw[aA,<-o.length,rs.length]
   have w:its'.toArray.size=es.length:=by rw[aA,<-p.length,r.length]
   rw[l1,w,Ex] at h;simpa only[eC] using h
  all_goals cases he
 case lst ds=>
  cases n with
  | zero=>cases hd
  | succ n=>
  have C:A.in1.units+n<cLine:=by show A.units+1+n<cLine;ext
  simp only[Rep] at l;obtain⟨a,xs,rfl,q,rs⟩:=l;cases m;obtain⟨its,o,F,_⟩:=I.list q.sq;have k:=F.isList;cases e
  case non=>cases qY c f;show RcNeAt.list_none k i
  case bl=>cases rf c f;show RcNeAt.list_bool _ k i
  case int=>obtain⟨t,rfl⟩:=qZ c f;show RcNeAt.list_int _ t k i
  case str=>obtain⟨t,rfl⟩:=qX c f;show RcNeAt.list_str _ t k i
  case tup es=>obtain⟨b,it,rfl,g⟩:=tW I c f;show RcNeAt.list_tuple k g i
  case lst es=>
   simp only[Rep] at c;obtain⟨b,ys,rfl,E,r⟩:=c;cases f;obtain⟨its',p,z,_⟩:=I.list E.sq;have l1:its.toArray.size=ds.length:=by rw[aA,<-o.length,rs.length]
   have w:its'.toArray.size=es.length:=by rw[aA,<-p.length,r.length]
   by_cases B:ds.length=es.length
   .have h:=RcNeAt.lists (e:=λj=>eC (ds.getD j .non) (es.getD j .non)) k z.isList (by rw[l1,w,B]) i λj G g=>by
     obtain⟨v1,a1,M,c1⟩:=qg o rs G;obtain⟨v2,a2,L,J⟩:=qg p r g;show yX I n A.in1 _ _ v1 v2 _ _ (hd _ c1) (he _ J) C M L a1 a2
    rw[l1,<-ze ds es B] at h;simpa only[eC] using h
   have h:=RcNeAt.lists_lengths (A:=A) k z.isList (by rw[l1,w];simpa using B) i;simp only[eC,zf B];show h
  all_goals cases he
 all_goals (cases n<;>cases hd)
end
section
variable{X:Cx}
def oEq:O2:=λd e Q=>eR 9 d/\eR 9 e/\Q (.fz (.bl (eC d e)))
def yf:O2:=λd e Q=>eR 9 d/\eR 9 e/\Q (.fz (.bl (!eC d e)))
theorem iT(f:X.A.units+64<cLine):l8 X (compareOp .Eq) oEq:=by
 show⟨λx y H Q=>∃d e,eR 9 d/\eR 9 e/\Rep X.K H x d/\Rep X.K H y e/\Q (.bl (eC d e)) H,λg s σ H x y v u Q I b a h=>?_,λG H x y d e Q P s b a h k=>?_⟩
 .obtain⟨d,e,hd,he,c,re,q⟩:=h;show PN I 9 X.A d e x y v u hd he (by ext) c re b a _ _ _ _ ⟨.bl _,H,I,rfl,q⟩
 show⟨d,e,h.1,h.2.1,b.mono s,a.mono s,k _ _ _ G (.refl s) (gD (mq _ _ _)) h.2.2⟩
theorem DC(f:X.A.units+64<cLine):l8 X (compareOp .NotEq) yf:=by
 show⟨λx y H Q=>∃d e,eR 9 d/\eR 9 e/\Rep X.K H x d/\Rep X.K H y e/\Q (.bl (!eC d e)) H,λg s σ H x y v u Q I b a h=>?_,λG H x y d e Q P s b a h k=>?_⟩
 .obtain⟨d,e,hd,he,c,re,q⟩:=h;show Su I 9 X.A d e x y v u hd he (by ext) c re b a _ _ _ _ ⟨.bl _,H,I,rfl,q⟩
 show⟨d,e,h.1,h.2.1,b.mono s,a.mono s,k _ _ _ G (.refl s) (gD (mq _ _ _)) h.2.2⟩
noncomputable def inD(d:D)(ds:List D):Bool:=ds.any λe=>eC e d
def kW(a:Bool):O2:=λd e Q=>match d,e with
 | .str x,.str y=>Q (.fz (.bl (if a then !(!(Builtin.Str.occurrences y x 0 y.length 1).isEmpty) else !(Builtin.Str.occurrences y x 0 y.length 1).isEmpty)))
 | d,.lst es=>eR 8 d/\(∀e∈es,eR 8 e)/\Q (.fz (.bl (if a then !inD d es else inD d es)))
 | d,.tup es=>eR 8 d/\(∀e∈es,eR 8 e)/\Q (.fz (.bl (if a then !inD d es else inD d es)))
 | _,_=>False
noncomputable def nG(X:Cx)(H:Hp)(d:D)(u:Value):Bool:=open Classical in if h:∃(v:V)(e:D),eR 8 e/\RelV v u/\Rep X.K H v e then eC h.choose_spec.choose d else false
theorem D8{p:List (Addr×Obj)}{g:St}{H:Hp}{s:Shared}(I:Inv X p g H s){d e:D}{v:V}{u:Value}(he:eR 8 e)(c:RelV v u)(f:Rep X.K H v e):nG X H d u=eC e d:=by
 have h:∃(v:V)(e:D),eR 8 e/\RelV v u/\Rep X.K H v e:=⟨v,e,he,c,f⟩
 unfold nG;rw[dif_pos h];obtain⟨m,l,k⟩:=h.choose_spec.choose_spec;have n:h.choose=v:=RelV.inj l c;have j:∀b,b=v->∀a,eR 8 a->Rep X.K H b a->a=e:=λb i a o r=>by subst i;show B9 I 8 _ e _ o he r f
 rw[j _ n _ m k]
theorem yW{f:List (Addr×Obj)}{c:St}{H:Hp}{s:Shared}(I:Inv X f c H s){d:D}:∀{es:List D}{b:List V}{us:List Value},(∀e∈es,eR 8 e)->Vals b us->cA X.K H b es->us.any (nG X H d)=inD d es
 | [],_,_,_,a,re=>by
  cases a
  .rfl
  simp only[cA] at re
 | e::es,_,_,h,a,re=>by
  cases a with
  | nil=>simp only[cA] at re
  | cons r t=>
   simp only[cA] at re;rw[List.any_cons,D8 I (h e (by simp)) r re.1,yW I (λx hx=>h x (by simp[hx])) t re.2];rfl
theorem zd{o:List (Addr×Obj)}{f:St}{H:Hp}{s:Shared}{A:Around}(I:Inv X o f H s){d:D}{x:V}{v:Value}(hd:eR 8 d)(l:A.units+8<cLine)(g:Rep X.K H x d)(k:RelV x v){es:List D}{a:List V}{b:List Value}
  (he:∀e∈es,eR 8 e) (h:Vals a b) (i:cA X.K H a es):∀u∈b.toArray,EqAt A s u v (nG X H d u):=λu n=>by
 obtain⟨j,m,e⟩:=Array.mem_iff_getElem.mp n;obtain⟨w,a1,c,c1⟩:=qg h i m;rw[e] at a1;rw[D8 I (he _ c1) a1 c];show yX I 8 A _ _ w x _ _ (he _ c1) hd l c g a1 k
theorem PM(i:X.A.units+64<cLine):iQ X (compareOp .In) (λx y H Q=>∃p d es b,y=.ref p/\(fH X.K H p b\/gR X.K H p b)/\eR 8 d/\(∀e∈es,eR 8 e)/\Rep X.K H x d/\cA X.K H b es/\Q (.bl (inD d es)) H):=by
 intro j s σ H x y v u Q I c g h;obtain⟨p,d,es,b,rfl,a,hd,he,f,re,q⟩:=h;cases g;rcases a with a | a
 .obtain⟨its,r,pl,hz⟩:=I.list a;show SeqAt.in_listAt (nG X H d) pl.isList (zd I hd (by show X.A.units+1+8<cLine;ext) f c he r re) ⟨.bl _,H,I,rfl,?_⟩;rw[show its.toArray.any (nG X H d)=its.any (nG X H d) by simp,yW I he r re];show q
 obtain⟨its,r,pl,hz⟩:=I.tuple a;show SeqAt.in_tupleAt (nG X H d) pl (zd I hd (by show X.A.units+1+8<cLine;ext) f c he r re) ⟨.bl _,H,I,rfl,?_⟩;rw[show its.toArray.any (nG X H d)=its.any (nG X H d) by simp,yW I he r re];show q
theorem T6(i:X.A.units+64<cLine):iQ X (compareOp .NotIn) (λx y H Q=>∃p d es b,y=.ref p/\(fH X.K H p b\/gR X.K H p b)/\eR 8 d/\(∀e∈es,eR 8 e)/\Rep X.K H x d/\cA X.K H b es/\Q (.bl (!inD d es)) H):=by
 intro j s σ H x y v u Q I c g h;obtain⟨p,d,es,b,rfl,a,hd,he,f,re,q⟩:=h;cases g;rcases a with a | a
 .obtain⟨its,r,pl,hz⟩:=I.list a;show SeqAt.notIn_listAt (nG X H d) pl.isList (zd I hd (by show X.A.units+1+8<cLine;ext) f c he r re) ⟨.bl _,H,I,rfl,?_⟩;rw[show its.toArray.any (nG X H d)=its.any (nG X H d) by simp,yW I he r re];show q
 obtain⟨its,r,pl,hz⟩:=I.tuple a;show SeqAt.notIn_tupleAt (nG X H d) pl (zd I hd (by show X.A.units+1+8<cLine;ext) f c he r re) ⟨.bl _,H,I,rfl,?_⟩;rw[show its.toArray.any (nG X H d)=its.any (nG X H d) by simp,yW I he r re];show q
theorem rD(i:X.A.units+64<cLine):l8 X (compareOp .In) (kW false):=by
 show⟨_,qo.or (PM i),λG H x y d e Q P s c b h k=>?_⟩;unfold kW at h;split at h
 .simp only[Rep] at c b;show .inl ⟨_,_,c,b,k _ _ _ G (.refl s) (gD (mq _ _ _)) h⟩
 .simp only[Rep] at b;obtain⟨a,ys,rfl,g,f⟩:=b;show .inr ⟨a,_,_,ys,rfl,.inl ((s.gq g).sq),h.1,h.2.1,c.mono s,f.mono s,k _ _ _ G (.refl s) (gD (mq _ _ _)) h.2.2⟩
 .simp only[Rep] at b;obtain⟨a,ys,rfl,g,f⟩:=b;show .inr ⟨a,_,_,ys,rfl,.inr (s.nR g),h.1,h.2.1,c.mono s,f.mono s,k _ _ _ G (.refl s) (gD (mq _ _ _)) h.2.2⟩
 show h.elim
theorem B8(i:X.A.units+64<cLine):l8 X (compareOp .NotIn) (kW true):=by
 show⟨_,mO.or (T6 i),λG H x y d e Q P s c b h k=>?_⟩;unfold kW at h;split at h
 .simp only[Rep] at c b;show .inl ⟨_,_,c,b,k _ _ _ G (.refl s) (gD (mq _ _ _)) h⟩
 .simp only[Rep] at b;obtain⟨a,ys,rfl,g,f⟩:=b;show .inr ⟨a,_,_,ys,rfl,.inl ((s.gq g).sq),h.1,h.2.1,c.mono s,f.mono s,k _ _ _ G (.refl s) (gD (mq _ _ _)) h.2.2⟩
 .simp only[Rep] at b;obtain⟨a,ys,rfl,g,f⟩:=b;show .inr ⟨a,_,_,ys,rfl,.inr (s.nR g),h.1,h.2.1,c.mono s,f.mono s,k _ _ _ G (.refl s) (gD (mq _ _ _)) h.2.2⟩
 show h.elim
noncomputable def vT:D->Bool
 | .non=>true
 | _=>false
def jV(a:Bool):O2:=λd e Q=>match e with
 | .non=>Q (.fz (.bl (if a then !vT d else vT d)))
 | _=>False
theorem Kx{K:J'}{G:Hp}{x:V}{d:D}(r:Rep K G x d):decide (x=.non)=vT d:=by
 cases d<;>simp only[Rep] at r
 case non=>subst r;rfl
 case bl=>subst r;rfl
 case int=>subst r;rfl
 case str=>subst r;rfl
 case tup=>obtain⟨_,_,rfl,_⟩:=r;rfl
 case lst=>obtain⟨_,_,rfl,_⟩:=r;rfl
 case obj=>obtain⟨_,_,_,_,rfl,_⟩:=r;rfl
 case dic=>obtain⟨_,_,_,rfl,_⟩:=r;rfl
 case dit=>obtain⟨_,_,_,rfl,_⟩:=r;rfl
 case exc=>obtain⟨_,_,_,rfl,_⟩:=r;rfl
theorem vQ:l8 X (compareOp .Is) (jV false):=by
 show⟨_,Pa,λG H x y d e Q P s b a h k=>?_⟩;unfold jV at h;split at h
 .simp only[Rep] at a;show⟨a,?_⟩;rw[Kx b];show k _ _ _ G (.refl s) (gD (mq _ _ _)) h
 show h.elim
theorem pE:l8 X (compareOp .IsNot) (jV true):=by
 show⟨_,QU,λG H x y d e Q P s b a h k=>?_⟩;unfold jV at h;split at h
 .simp only[Rep] at a;show⟨a,?_⟩;rw[Kx b];show k _ _ _ G (.refl s) (gD (mq _ _ _)) h
 show h.elim
end
section
variable{X:Cx}{pos:Pos}{a b c:Expr}{ta tb tc:TD}{pa vy:jU}{lQ:List Expr}
def yF(t:jU):jU:=λa Q=>t a λk=>Q (!k)
def oP(t u:jU):jU:=λa Q=>t a λk=>if k=true then u a Q else Q false
def Dn(t u:jU):jU:=λa Q=>t a λk=>if k=true then Q true else u a Q
theorem D7(h:PB X a pa):PB X (.UnaryOp .Not a pos) (yF pa):=by
 obtain⟨t,p,q⟩:=h;show⟨_,QA p,λc σ g e G H Q P E h k=>q c σ g e G H _ _ E h λb f i x d=>k _ f i x d⟩
def vL(X:Cx)(e:Expr)(t:jU):Prop:=∃tt,PW X e tt/\∀(a:Ev)(σ:St)(f d G H:Hp)(Q:Bool->Prop)(P:Bool->Hp->Prop),eE X.K f d a σ G H->t a Q->
 (∀b c g,Ext G H g c->Q b->P b c)->tt σ H P
theorem vL.pb{e:Expr}{t:jU}(h:vL X e t):PB X e t:=let⟨tt,p,q⟩:=h;⟨tt,p.pt,q⟩
theorem tJ(h:PB X a pa):vL X (.BoolOp .And [a] pos) pa:=let⟨tt,p,q⟩:=h;⟨tt,QZ p,q⟩
theorem JY(h:PB X a pa):vL X (.BoolOp .Or [a] pos) pa:=let⟨tt,p,q⟩:=h;⟨tt,QC p,q⟩
theorem qf(h:PB X a pa)(h':vL X (.BoolOp .And (b::lQ) pos) vy):vL X (.BoolOp .And (a::b::lQ) pos) (oP pa vy):=by
 obtain⟨t,p,q⟩:=h;obtain⟨t',m,l⟩:=h';show⟨_,QB p m,λd σ g e G H Q P E h k=>q d σ g e G H _ _ E h λb f i x c=>?_⟩;cases b with
 | true=>rw[if_pos rfl] at c ⊢;show l d σ g e i f Q P (E.ext x) c λo r s j n=>k o r s (x.trans j) n
 | false=>rw[if_neg aW] at c ⊢;show k false f i x c
theorem IU(h:PB X a pa)(h':vL X (.BoolOp .Or (b::lQ) pos) vy):vL X (.BoolOp .Or (a::b::lQ) pos) (Dn pa vy):=by
 obtain⟨t,p,q⟩:=h;obtain⟨t',m,l⟩:=h';show⟨_,Oe p m,λd σ g e G H Q P E h k=>q d σ g e G H _ _ E h λb f i x c=>?_⟩;cases b with
 | true=>rw[if_pos rfl] at c ⊢;show k true f i x c
 | false=>rw[if_neg aW] at c ⊢;show l d σ g e i f Q P (E.ext x) c λo r s j n=>k o r s (x.trans j) n
def NV(t:TD):TD:=λa Q=>t a λr=>match r with
 | .fz (.bl k)=>Q (.fz (.bl (!k)))
 | _=>False
def Bx(t u:TD):TD:=λa Q=>t a λr=>match r with
 | .fz (.bl k)=>if k=true then u a Q else Q (.fz (.bl false))
 | _=>False
theorem IT{op}(h:PD X a ta):PD X (.BoolOp op [a] pos) ta:=let⟨t,p,q⟩:=h;⟨t,Po p,q⟩
theorem IS(h:PD X a ta)(h':PD X (.BoolOp .And (b::lQ) pos) tb):PD X (.BoolOp .And (a::b::lQ) pos) (Bx ta tb):=by
 obtain⟨t,p,q⟩:=h;obtain⟨t',w,u⟩:=h';show⟨_,Pn p w,λf σ j g G H Q P E h k=>q f σ j g G H _ _ E h λv i r l x o c=>?_⟩;split at c
 .rename_i d;have e:v=.bl d:=by simpa only[fI,Rep] using o
  show⟨d,e,?_⟩;cases d with
  | true=>rw[if_pos rfl] at c ⊢;show u f σ j g l i Q P (E.ext x) c λz A s B m n y=>k z A s B (x.trans m) (n.iC x.h) y
  | false=>rw[if_neg aW] at c ⊢;show k _ i _ l x (gD (mq _ _ _)) c
 show c.elim
def tZ(t:jU)(ta tb:TD):TD:=λa Q=>t a λk=>if k=true then ta a Q else tb a Q
theorem we(h:PB X c pa)(A:PD X a ta)(d:PD X b tb):PD X (.IfExp c a b pos) (tZ pa ta tb):=by
 obtain⟨t,p,q⟩:=h;obtain⟨t1,z,w⟩:=A;obtain⟨B,y,v⟩:=d;show⟨_,Sm p z y,λf σ r n G H Q P E h k=>q f σ r n G H _ _ E h λb s u x e=>?_⟩;cases b with
 | true=>rw[if_pos rfl] at e ⊢;show w f σ r n u s Q P (E.ext x) e λl m j o g i d=>k l m j o (x.trans g) (i.iC x.h) d
 | false=>rw[if_neg aW] at e ⊢;show v f σ r n u s Q P (E.ext x) e λl m j o g i d=>k l m j o (x.trans g) (i.iC x.h) d
def BW(o c:O2)(ta tb tc:TD):TD:=λa Q=>ta a λb=>tb a λrb=>o b.val rb.val λr=>match r with
 | .fz (.bl k)=>if k=true then tc a λrc=>c rb.val rc.val Q else Q (.fz (.bl false))
 | _=>False
abbrev rh(K:J')(t:TD)(d:TE):Prop:=∀(b:Ev)(σ:St)(f e G H:Hp)(Q:R->Prop)(P:VK),eE K f e b σ G H->t b Q->(∀v a r c,Ext G H c a->fI K c a H v r->Q r->P v a)->d σ H P
theorem Ss{K:J'}{g g':Int->Int->Bool}{r q p:TE}(D:rh K ta r)(C:rh K tb q)(B:rh K tc p) :
  rh K (BW (jn λi j=>.bl (g i j)) (jn λi j=>.bl (g' i j)) ta tb tc) (IZ (qm λi j=>.bl (g i j)) (qm λi j=>.bl (g' i j)) r q p):=by
 show λe σ o m G H Q P E h k=>D e σ o m G H _ _ E h λv1 H1 W G1 x S z=>?_
 obtain⟨O,b,n,_⟩:=S.freeze x;show C e σ o m O H1 _ _ (E.ext b) z λv2 R V G2 w y a=>?_
 obtain⟨u,f,c,_⟩:=y.freeze w;unfold jn at a;split at a
 .rename_i i j L t;rw[L] at n;rw[t] at c;simp only[Rep] at n c;show⟨i,j,n,c,_,rfl,?_⟩;dsimp only at a;cases s:g i j with
  | false=>
   rw[s,if_neg aW] at a;rw[if_neg aW];show k _ _ _ u (b.trans f) (gD (mq _ _ _)) a
  | true=>
   rw[s,if_pos rfl] at a;rw[if_pos rfl];show B e σ o m u R _ _ (E.ext (b.trans f)) a λT Y U Z v A d=>?_
   obtain⟨M,N,l,_⟩:=A.freeze v;rw[t] at d;split at d
   .rename_i X F J I;cases J;rw[I] at l;simp only[Rep] at l;show⟨j,F,c,l,k _ _ _ M ((b.trans f).trans N) (gD (mq _ _ _)) d⟩
   show d.elim
 show a.elim
theorem PL{K:J'}{t:TD}{j:TE}(q:rh K t j)(d:Ev)(c:St)(m l G H:Hp)(Q:Bool->Prop)(P:Bool->Hp->Prop)(E:eE K m l d c G H)(h:dn t d Q)(k:∀b a i,Ext G H i a->Q b->P b a):DS j c H P:=by
 show q d c m l G H _ _ E h λv a r i n o g=>?_
 split at g
 .rename_i f;have e:v=.bl f:=by simpa only[fI,Rep] using o
  show⟨f,e,k f a i n g⟩
 show g.elim
theorem Ry{e d:CmpOp}{g g':Int->Int->Bool}(p:iQ X (compareOp e) (qm λi j=>.bl (g i j)))(f:iQ X (compareOp d) (qm λi j=>.bl (g' i j)))(t:PD X a ta)(s:PD X b tb)(r:PD X c tc)(q:lastMarks [e,d] [b,c]=false:=by with_unfolding_all rfl) :
  PB X (.Compare a [e,d] [b,c] pos) (dn (BW (jn λi j=>.bl (g i j)) (jn λi j=>.bl (g' i j)) ta tb tc)):=by
 obtain⟨t1,o,l⟩:=t;obtain⟨u,n,k⟩:=s;obtain⟨t3,m,h⟩:=r;show⟨_,Sh p f o n m q,PL (Ss l k h)⟩
def dA:O2:=λd e Q=>match d,e with
 | .lst ds,.int i=>∃d,fc ds i=some d/\Q (.fz d)
 | .tup ds,.int i=>∃d,fc ds i=some d/\Q (.fz d)
 | .str z,.int i=>z.length<=sizeLine/\∃c,fc z.cps.toList i=some c/\Q (.fz (.str ⟨#[c]⟩))
 | _,_=>False
theorem Ee{K:J'}{G:Hp}{xs:List V}{ds:List D}{i:Int}{d:D}(r:cA K G xs ds)(h:fc ds i=some d):∃v,fc xs i=some v/\Rep K G v d:=by
 unfold fc at h ⊢;rw[r.length];cases e:pP ds.length i with
 | none=>rw[e] at h;cases h
 | some j=>
  rw[e] at h;simp only[Option.bind_some] at h ⊢;show r.get h
theorem dH(A:PD X a ta)(z:PD X b tb)(u:Ca b:=by intro _ _;rfl):PD X (.Subscript a b pos) (cE dA ta tb):=by
 obtain⟨t1,t,n⟩:=A;obtain⟨B,o,m⟩:=z;show⟨_,DR IY t o u,BX (r:=MA X.K) (λG H x y d e Q P s g f h k=>?_) n m⟩;unfold dA at h;split at h
 .simp only[Rep] at g f;obtain⟨p,xs,rfl,l,rs⟩:=g;obtain⟨d,hd,q⟩:=h;obtain⟨v,j,i⟩:=Ee rs hd;show .inl ⟨p,xs,_,v,rfl,f,(s.gq l).sq,j,k _ _ _ G (.refl s) (gD i) q⟩
 .simp only[Rep] at g f;obtain⟨p,xs,rfl,l,rs⟩:=g;obtain⟨d,hd,q⟩:=h;obtain⟨v,j,i⟩:=Ee rs hd;show .inr (.inl ⟨p,xs,_,v,rfl,f,s.nR l,j,k _ _ _ G (.refl s) (gD i) q⟩)
 .simp only[Rep] at g f;obtain⟨hz,c,w,q⟩:=h;show .inr (.inr ⟨_,_,c,g,f,hz,w,k _ _ _ G (.refl s) (gD (ur _ _ _)) q⟩)
 show h.elim
def uc(i:Nat)(tb:TD):TD:=λa Q=>match gt a i with
 | .ow ds=>tb a λrb=>match rb.val with
  | .int j=>∃d,fc ds j=some d/\Q (.fz d)
  | _=>False
 | _=>False
theorem xP(i:Nat){x:Str}{w:Pos}(f:PD X b tb)(D:X.N[i]?=some x:=by rfl)(A:oN X.env.scope x:=by first | show Or.inl rfl | show Or.inr (Or.inl rfl) | show Or.inr (Or.inr rfl))(B:Ca b:=by intro _ _;rfl)(hd:(x==("__debug__":Str))=false:=by decide)
  (z:(x==("__classdict__":Str))=false:=by decide):PD X (.Subscript (.Name x w) b pos) (uc i tb):=by
 obtain⟨O,u,t⟩:=f;show⟨_,DR IY (qe D A hd z) u B,λl σ M K G H Q P E h k=>?_⟩;unfold uc at h;split at h
 .rename_i ds C;obtain⟨p,xs,I,f,S,R,F⟩:=E.ow i ds C;show⟨_,I,t l σ M K G H _ _ E h λv T r U m s e=>?_⟩;obtain⟨L,a,c,_⟩:=s.freeze m;split at e
  .rename_i j J;obtain⟨d,o,q⟩:=e;obtain⟨n,hw,y⟩:=Ee (F.mono a.g) o;rw[J] at c;simp only[Rep] at c;show .inl ⟨p,xs,_,n,rfl,c,fH.of (a.h _ _ f),hw,k _ _ _ L a (gD y) q⟩
  show e.elim
 show h.elim
variable{e:Expr}{es:List Expr}{te:TD}{ts:jP}
def cH:jP:=λ_ Q=>Q []
def cB(te:TD)(ts:jP):jP:=λa Q=>te a λr=>ts a λds=>Q (r.val::ds)
theorem cL:mW X [] cH:=⟨_,rG,λa σ c b G H Q P E h k=>k [] H [] G (.refl E.e.s) cA.nil h⟩
theorem cD(h:PD X e te)(s:mW X es ts)(q:starEach (e::es) X.env=(false,eval e X.env)::starEach es X.env:=by rfl):mW X (e::es) (cB te ts):=by
 obtain⟨t1,p,n⟩:=h;obtain⟨B,o,m⟩:=s;show⟨_,qO p o q,λa σ f d G H Q P E h k=>n a σ f d G H _ _ E h λv x r C i l t=>?_⟩;obtain⟨z,c,j,_⟩:=l.freeze i;show m a σ f d z x _ _ (E.ext c) t λA w ds y b rs u=>?_
 show k _ w _ y (c.trans b) (cA.cons (j.mono b.g) rs) u
def kz(ts:jP):TD:=λa Q=>ts a λds=>ds.length<=sizeLine/\Q (.fz (.tup ds))
def gw(ts:jP):TD:=λa Q=>ts a λds=>ds.length<=sizeLine/\Q (.ow ds)
theorem mM{i}(h:mW X es ts):PD X (.Tuple es i pos) (kz ts):=by
 obtain⟨t,p,q⟩:=h;show⟨_,O7 p,λf σ m l G H Q P E h k=>q f σ m l G H _ _ E h λa d ds e x rs c=>⟨by rw[rs.length];show c.1,λp j=>?_⟩⟩;have b:Ext e d (upd e p (.tup a)) (upd d p (.tup a)):=.new x.s j;show k _ _ (.fz (.tup ds)) _ (x.trans b) ?_ c.2;show Rep X.K _ _ (.tup ds);simp only[Rep];show⟨p,a,rfl,iU,rs.mono b.g⟩
theorem gP(h:mW X es ts):PD X (.List es pos) (gw ts):=by
 obtain⟨t,p,q⟩:=h;show⟨_,O6 p,λc σ f e G H Q P E h k=>q c σ f e G H _ _ E h λd i ds g x rs b=>⟨by rw[rs.length];show b.1,λp a=>?_⟩⟩;show k _ _ (.ow ds) g (x.trans (.own x.s a)) ⟨p,d,rfl,x.h.free a,x.s.free a,iU,rs⟩ b.2
def rE(X:Cx)(f:Value)(o:List D->(R->Prop)->Prop):Prop:=∃r,dY X f r/\∀(G H:Hp)(b:List V)(ds:List D)(Q:R->Prop)(P:VK),cO G H->cA X.K G b ds->o ds Q->
 (∀v a c d,Ext G H d a->fI X.K d a H v c->Q c->P v a)->r b H P
def eW(o:List D->(R->Prop)->Prop)(ts:jP):TD:=λa Q=>ts a λds=>o ds Q
theorem Iu{o:List D->(R->Prop)->Prop}{r:List V->Hp->VK->Prop}{t:TA}
  (m:∀(G H:Hp)(b:List V)(ds:List D)(Q:R->Prop)(P:VK),cO G H->cA X.K G b ds->o ds Q->(∀v a e c,Ext G H c a->fI X.K c a H v e->Q e->P v a)->r b H P)
  (q:∀(d:Ev)(σ:St)(g f G H:Hp)(Q:List D->Prop)(P:List V->Hp->Prop),eE X.K g f d σ G H->ts d Q->(∀b a ds c,Ext G H c a->cA X.K c b ds->Q ds->P b a)->t σ H P):rh X.K (eW o ts) (F3 r t):=
 λd σ g f G H Q P E h k=>q d σ g f G H _ _ E h λb a ds c x rs n=>m c a b ds Q P x.s rs n λv p e u i j l=>k v p e u (x.trans i) (j.iC x.h) l
theorem iF{a:String}{x:Str}{p:Pos}{o:List D->(R->Prop)->Prop}(j:rE X (.builtin a) o)(h:X.mg x=none)(d:bootBuiltins x=some (.builtin a))(ha:mW X (e::es) ts)(i:Gl X x:=by rfl)(g:x≠"__name__":=by decide)(c:(x==("__debug__":Str))=false:=by decide)
  (he:starEach (e::es) X.env=(false,eval e X.env)::starEach es X.env:=by rfl) (hpl:(backTo pos (starEach es X.env)).any (·.1)=false:=by rfl):PD X (.Call (.Name x p) (e::es) [] pos) (eW o ts):=by
 obtain⟨r,f,b⟩:=j;obtain⟨t,pp,q⟩:=ha;show⟨_,Ck f i h d pp g c he hpl,Iu b q⟩
theorem rM{T:String}{x:Str}{p:Pos}{o:List D->(R->Prop)->Prop}(i:rE X (.type T) o)(g:X.mg x=none)(c:bootBuiltins x=some (.type T))(ha:mW X (e::es) ts)(h:Gl X x:=by rfl)(f:x≠"__name__":=by decide)(b:(x==("__debug__":Str))=false:=by decide)
  (he:starEach (e::es) X.env=(false,eval e X.env)::starEach es X.env:=by rfl) (hpl:(backTo pos (starEach es X.env)).any (·.1)=false:=by rfl):PD X (.Call (.Name x p) (e::es) [] pos) (eW o ts):=by
 obtain⟨r,d,a⟩:=i;obtain⟨t,pp,q⟩:=ha;show⟨_,x8 d h g c pp f b he hpl,Iu a q⟩
end
theorem qc{a:St}{i j:Nat}{x:Option V}:(a.set i x)[j]?=if i=j/\j<a.length then some x else a[j]?:=by
 by_cases h:i=j
 .subst h;by_cases b:i<a.length
  .simp[b]
  simp[b]
 simp[h]
section
variable{K:J'}{G0 H0 G H G' H':Hp}{ρ:Ev}{σ:St}
theorem eE.put{i:Nat}{v:V}{r:R}(E:eE K G0 H0 ρ σ G H)(x:Ext G H G' H')(J:fI K G' H' H v r):eE K G0 H0 (ρ.set i r.sl) (σ.set i (some v)) G' H':=by
 have U:=E.ext x;have w:=E.len;have y:∀j s,gt (ρ.set i r.sl) j=s->(i=j/\j<ρ.length/\s=r.sl)\/(¬(i=j/\j<ρ.length)/\gt ρ j=s):=λj s e=>by
  rw[xR] at e;by_cases h:i=j/\j<ρ.length
  .rw[if_pos h] at e;show .inl ⟨h.1,h.2,e.symm⟩
  rw[if_neg h] at e;show .inr ⟨h,e⟩
 show⟨U.e,by simp[E.len],λj d h=>?_,λj ds h=>?_,λj k ds es W a c=>?_,?_⟩
 .rcases y j _ h with⟨a,c,f⟩ | ⟨a,c⟩
  .cases r with
   | ow=>cases f
   | ov=>cases f
   | fz d'=>
    cases f;show⟨v,by rw[qc,if_pos ⟨a,by ext⟩],J⟩
  obtain⟨u,hu,ru⟩:=U.fz j d c;show⟨u,by rw[qc,if_neg (by rw[w];show a)];show hu,ru⟩
 .rcases y j _ h with⟨a,c,f⟩ | ⟨a,c⟩
  .cases r with
   | fz=>cases f
   | ov=>cases f
   | ow Z=>
    cases f;obtain⟨p,xs,rfl,a1,a2,I,T⟩:=J;show⟨p,xs,by rw[qc,if_pos ⟨a,by ext⟩],I,a2,E.e.h.free a1,T⟩
  obtain⟨p,xs,m,l,F,C,X⟩:=U.ow j ds c;show⟨p,xs,by rw[qc,if_neg (by rw[w];show a)];show m,l,F,C,X⟩
 .have old:∀{j:Nat}{ds:List D},gt ρ j=.ow ds->∀es,r=.ow es->σ[j]?≠some (some v):=λ{j ds} h es e z=>by
   subst e;obtain⟨p,xs,rfl,a1,a2,I,T⟩:=J;obtain⟨O,qh,m,l,F,C,X⟩:=E.ow j ds h;rw[m] at z;cases z;rw[a1] at l;cases l
  rcases y j _ a with⟨c1,N,B⟩ | ⟨c1,N⟩
  .rcases y k _ c with⟨A,M,S⟩ | ⟨A,M⟩
   .exact absurd (c1.symm.trans A) W
   rw[qc,if_pos ⟨c1,by ext⟩,qc,if_neg (by rw[w];show A)];cases r with
   | fz=>cases B
   | ov=>cases B
   | ow P=>show λz=>old M P rfl z.symm
  rcases y k _ c with⟨A,M,S⟩ | ⟨A,M⟩
  .rw[qc,if_neg (by rw[w];show c1),qc,if_pos ⟨A,by ext⟩];cases r with
   | fz=>cases S
   | ov=>cases S
   | ow P=>show old N P rfl
  rw[qc,if_neg (by rw[w];show c1),qc,if_neg (by rw[w];show A)];show E.dj j k ds es W N M
 obtain⟨own,o1,o2⟩:=E.on;have Y:∀j,¬(i=j/\j<ρ.length)->(σ.set i (some v))[j]?=σ[j]?:=λj h=>by rw[qc,if_neg (by rw[w];show h)]
 have gen:∀L:List Addr,(∀q∈L,H q=none)->(∀j ds p,i=j->j<ρ.length->r.sl=.ow ds->v=.ref p->p∈L)->
   (∀j o,i=j->j<ρ.length->r.sl=.ov o->∃p fp,v=.ref p/\(p::fp).Nodup/\j5 K G' H' p fp o/\∀q∈p::fp,G' q=none/\q∈L)->
   ∃own:Addr->Option Nat,(∀j ds p,gt (ρ.set i r.sl) j=.ow ds->(σ.set i (some v))[j]?=some (some (.ref p))->own p=some j)/\∀j o,gt (ρ.set i r.sl) j=.ov o->∃p fp,(σ.set i (some v))[j]?=some (some (.ref p))/\(p::fp).Nodup/\j5 K G' H' p fp o/\∀q∈p::fp,G' q=none/\H0 q=none/\own q=some j:=by
  intro L Q hw ho;show⟨λq=>if q∈L then some i else own q,λj ds p h t=>?_,λj o h=>?_⟩
  .rcases y j _ h with⟨a,c,f⟩ | ⟨a,c⟩
   .rw[qc,if_pos ⟨a,by ext⟩] at t;have hv:v=.ref p:=by injection t with t;injection t
    dsimp only;rw[if_pos (hw j ds p a c f.symm hv),a]
   rw[Y j a] at t;obtain⟨O,qh,m,l,_⟩:=E.ow j ds c;have ez:p∉L:=λz=>by
    rw[t] at m;cases m;rw[Q p z] at l;cases l
   dsimp only;rw[if_neg ez];show o1 j ds p c t
  rcases y j _ h with⟨a,c,f⟩ | ⟨a,c⟩
  .obtain⟨p,fp,rfl,c1,N,B⟩:=ho j o a c f.symm;show⟨p,fp,by rw[qc,if_pos ⟨a,by ext⟩],c1,N,λq b=>⟨(B q b).1,E.e.h.free (Q q (B q b).2),?_⟩⟩;dsimp only;rw[if_pos (B q b).2,a]
  obtain⟨p,fp,m,l,F,C⟩:=o2 j o c;show⟨p,fp,by rw[Y j a];show m,l,F.mono x.g λq _ u e=>x.h q u e,λq b=>⟨x.n q (C q b).1 (F.here q b),(C q b).2.1,?_⟩⟩;dsimp only;rw[if_neg (λz=>F.here q b (Q q z))];show(C q b).2.2
 cases r with
 | fz d=>show gen [] (λq b=>by cases b) (λj ds p _ _ e=>by cases e) (λj o _ _ e=>by cases e)
 | ow Z=>
  obtain⟨p,xs,rfl,a1,a2,I,T⟩:=J;show gen [p] (λq b=>?_) (λj ds O _ _ e e2=>?_) (λj o _ _ e=>by cases e)
  .simp only[bp] at b;subst b;show a1
  cases e2;simp
 | ov o'=>
  obtain⟨p,fp,rfl,a1,a2,I⟩:=J;show gen (p::fp) (λq b=>(I q b).1) (λj ds O _ _ e=>by cases e) (λj o _ _ e=>?_);cases e;show⟨p,fp,rfl,a1,a2,λq b=>⟨(I q b).2,b⟩⟩
noncomputable def lZ(i:Nat)(ρ:Ev):Ev:=match gt ρ i with
 | .ow ds=>ρ.set i (.fz (.lst ds))
 | .ov o=>ρ.set i (.fz o.val)
 | _=>ρ
theorem BD{ρ:Ev}{i:Nat}{s:Sl}(h:gt ρ i=s)(c:s≠.un):i<ρ.length:=by
 induction ρ generalizing i with
 | nil=>simp[gt] at h;show absurd h.symm c
 | cons a r b=>
  cases i with
  | zero=>simp
  | succ i=>simp only[gt] at h;have:=b h;simp;ext
theorem cW.MP{K:J'}{G H:Hp}:∀{b:List Addr}{c:List (List D)},cW K G H b c->∀q∈b,∃zs,H q=some (.lst zs)
 | [],[],_,q,a=>by cases a
 | p::b,ds::c,h,q,a=>by
  simp only[cW] at h;rcases au.mp a with rfl | a
  .exact⟨_,h.1.choose_spec.1⟩
  show cW.MP h.2 q a
 | [],_::_,h,_,_=>by simp only[cW] at h
 | _::_,[],h,_,_=>by simp only[cW] at h
theorem eE.sO(i:Nat)(E:eE K G0 H0 ρ σ G H):∃L:List Addr,(∀q∈L,G q=none)/\eE K G0 H0 (lZ i ρ) σ (p8 G H L) H/\(((∀o,gt ρ i=.ov o->(∃cG,o=.dc cG)\/∃eQ,o=.ll eQ)->∀q∈L,H q≠none/\∀xs,¬Rd H q (.tup xs)))/\∀o p,gt ρ i=.ov o->σ[i]?=some (some (.ref p))->p∈L:=by
 unfold lZ;split
 .rename_i ds w;obtain⟨p,xs,J,P,A,I,y⟩:=E.ow i ds w;have X:i<ρ.length:=BD w (by simp);have v:cO G (upd G p (.lst xs)):=vo A;have r:∀j s,gt (ρ.set i (.fz (.lst ds))) j=s->(i=j/\s=.fz (.lst ds))\/(i≠j/\gt ρ j=s):=λj s e=>by
   rw[xR] at e;by_cases h:i=j
   .subst h;rw[if_pos ⟨rfl,X⟩] at e;show .inl ⟨rfl,e.symm⟩
   rw[if_neg (λz=>h z.1)] at e;show .inr ⟨h,e⟩
  have ep:p8 G H [p]=upd G p (.lst xs):=by
   funext a
   by_cases ha:a=p
   .subst ha;rw[iU,tL (by simp)];show P
   rw[eU ha,rN (by simpa using ha)]
  show⟨[p],λq f=>?_,?_,λ_ q f=>by
   simp only[bp] at f;rw[f]
   show⟨(by rw[P];show nofun),λF e=>by rcases e with e | ⟨_,e⟩<;>(rw[P] at e;cases e)⟩,λo p z=>by rw[w] at z;cases z⟩
  .simp only[bp] at f;subst f;show A
  rw[ep];show⟨⟨E.e.g.trans v,E.e.h,λb o e=>?_,λq U M=>?_⟩,by simp[E.len],λj d h=>?_,λj es h=>?_,λj k es fs T a1 a2=>?_,?_⟩
  .by_cases O:b=p
   .subst O;rw[iU] at e;rw[P];show e
   rw[eU O] at e;show E.e.s b o e
  .rw[eU (λz=>M (by rw[z];show I))];show E.e.n q U M
  .rcases r j _ h with⟨e,c⟩ | ⟨e,c⟩
   .subst e;cases c;show⟨_,J,by simp only[Rep];show⟨p,xs,rfl,lA.of iU,y.mono v⟩⟩
   obtain⟨u,S,R⟩:=E.fz j d c;show⟨u,S,R.mono v⟩
  .rcases r j _ h with⟨e,c⟩ | ⟨e,c⟩
   .cases c
   obtain⟨l,F,x,D,C,t,Y⟩:=E.ow j es c;have ez:l≠p:=λz=>by
    subst z;show E.dj i j ds es e w c (by rw[J,x])
   show⟨l,F,x,D,by rw[eU ez];show C,t,Y.mono v⟩
  .rcases r j _ a1 with⟨_,c⟩ | ⟨e,c⟩
   .cases c
   rcases r k _ a2 with⟨_,B⟩ | ⟨e3,B⟩
   .cases B
   show E.dj j k es fs T c B
  obtain⟨own,N,Q⟩:=E.on;show⟨own,λj es l h V=>?_,λj o h=>?_⟩
  .rcases r j _ h with⟨_,c⟩ | ⟨_,c⟩
   .cases c
   show N j es l c V
  rcases r j _ h with⟨_,c⟩ | ⟨e,c⟩
  .cases c
  obtain⟨l,fp,x,D,C,t⟩:=Q j o c;show⟨l,fp,x,D,C.mono v λq _ u e=>e,λq f=>⟨?_,(t q f).2⟩⟩;rw[eU λz=>?_]
  .exact(t q f).1
  have m:=(t q f).2.2;rw[z,N i ds p w J] at m;injection m with m
  show e m
 .rename_i o w;obtain⟨own,N,Q⟩:=E.on;obtain⟨p,fp,J,P,A,I⟩:=Q i o w;have X:i<ρ.length:=BD w (by simp);have W:∀q∈p::fp,G q=none:=λq f=>(I q f).1
  have v:cO G (p8 G H (p::fp)):=zo W;have r:∀j s,gt (ρ.set i (.fz o.val)) j=s->(i=j/\s=.fz o.val)\/(i≠j/\gt ρ j=s):=λj s e=>by
   rw[xR] at e;by_cases h:i=j
   .subst h;rw[if_pos ⟨rfl,X⟩] at e;show .inl ⟨rfl,e.symm⟩
   rw[if_neg (λz=>h z.1)] at e;show .inr ⟨h,e⟩
  suffices AV:eE K G0 H0 (ρ.set i (.fz o.val)) σ (p8 G H (p::fp)) H from⟨p::fp,W,AV,λhd q f=>by
   rcases hd o w with⟨cG,rfl⟩ | ⟨eQ,rfl⟩
   .obtain⟨rfl,ks,ep,y,_⟩:=A;simp only[bp] at f;rw[f];show⟨(by rw[y];show nofun),λF e=>by rcases e with e | ⟨_,e⟩<;>(rw[y] at e;cases e)⟩
   .obtain⟨zs,y⟩:∃zs,H q=some (.lst zs):=by
     rcases au.mp f with rfl | f
     .exact⟨_,A.1⟩
     show cW.MP A.2 q f
    show⟨(by rw[y];show nofun),λF e=>by rcases e with e | ⟨_,e⟩<;>(rw[y] at e;cases e)⟩,λZ l _ e=>by rw[J] at e;cases e;simp⟩
  show⟨⟨E.e.g.trans v,E.e.h,λb u e=>?_,λq U M=>?_⟩,by simp[E.len],λj d h=>?_,λj es h=>?_,λj k es fs T a1 a2=>?_,own,λj es l h V=>?_,λj Z h=>?_⟩
  .by_cases O:b∈p::fp
   .rw[tL O] at e;show e
   rw[rN O] at e;show E.e.s b u e
  .rw[rN (λz=>M (I q z).2.1)];show E.e.n q U M
  .rcases r j _ h with⟨e,c⟩ | ⟨e,c⟩
   .subst e;cases c;show⟨_,J,A.freeze W⟩
   obtain⟨u,S,R⟩:=E.fz j d c;show⟨u,S,R.mono v⟩
  .rcases r j _ h with⟨e,c⟩ | ⟨e,c⟩
   .cases c
   obtain⟨l,F,x,D,C,t,Y⟩:=E.ow j es c;show⟨l,F,x,D,?_,t,Y.mono v⟩;rw[rN λz=>?_]
   .exact C
   have m:=(I l z).2.2;rw[N j es l c x] at m;injection m with m
   show e m.symm
  .rcases r j _ a1 with⟨_,c⟩ | ⟨e,c⟩
   .cases c
   rcases r k _ a2 with⟨_,B⟩ | ⟨e3,B⟩
   .cases B
   show E.dj j k es fs T c B
  .rcases r j _ h with⟨_,c⟩ | ⟨_,c⟩
   .cases c
   show N j es l c V
  rcases r j _ h with⟨_,c⟩ | ⟨e,c⟩
  .cases c
  obtain⟨l,sP,x,D,C,t⟩:=Q j Z c;show⟨l,sP,x,D,C.mono v λq _ u e=>e,λq f=>⟨?_,(t q f).2⟩⟩;rw[rN λz=>?_]
  .exact(t q f).1
  have m:=(t q f).2.2;rw[(I q z).2.2] at m;injection m with m
  show e m
 rename_i Zj Xz;have ep:p8 G H []=G:=by funext a;show rN (by simp)
 show⟨[],λq f=>(by cases f),by rw[ep];show E,λ_ q f=>(by cases f),λo p z=>(Xz o z).elim⟩
theorem eE.mT(i:Nat)(E:eE K G0 H0 ρ σ G H):∃L:List Addr,(∀q∈L,G q=none)/\eE K G0 H0 (lZ i ρ) σ (p8 G H L) H/\((∀o,gt ρ i=.ov o->(∃e,o=.dc e)\/∃d,o=.ll d)->∀q∈L,H q≠none/\∀xs,¬Rd H q (.tup xs)):=
 let⟨L,a,b,c,_⟩:=E.sO i
 ⟨L,a,b,c⟩
theorem eE.freeze(i:Nat)(E:eE K G0 H0 ρ σ G H):∃G',eE K G0 H0 (lZ i ρ) σ G' H/\cO G G':=
 let⟨L,a,b,_⟩:=E.mT i
 ⟨_,b,zo a⟩
theorem eE.change{i:Nat}{ds v:List D}{p:Addr}{x:List V}(E:eE K G0 H0 ρ σ G H)(f:gt ρ i=.ow ds)(y:σ[i]?=some (some (.ref p)))(O:cA K G x v) :
  eE K G0 H0 (ρ.set i (.ow v)) σ G (upd H p (.lst x)):=by
 obtain⟨c,Y,M,X,L,J,W⟩:=E.ow i ds f;rw[y] at M;cases M;have S:i<ρ.length:=BD f (by simp);have l:∀j s,gt (ρ.set i (.ow v)) j=s->(i=j/\s=.ow v)\/(i≠j/\gt ρ j=s):=λj s e=>by
  rw[xR] at e;by_cases h:i=j
  .subst h;rw[if_pos ⟨rfl,S⟩] at e;show .inl ⟨rfl,e.symm⟩
  rw[if_neg (λz=>h z.1)] at e;show .inr ⟨h,e⟩
 have Q:cO G (upd H p (.lst x)):=λb o e=>by rw[eU (kZ e L)];show E.e.s b o e
 show⟨⟨E.e.g,λb o e=>by rw[eU (kZ e J)];show E.e.h b o e,Q,E.e.n⟩,by simp[E.len],λj d h=>?_,λj es h=>?_,λj k es fs w a1 a2=>?_,?_⟩
 .rcases l j _ h with⟨_,a⟩ | ⟨e,a⟩
  .cases a
  show E.fz j d a
 .rcases l j _ h with⟨e,a⟩ | ⟨e,a⟩
  .subst e;cases a;show⟨p,x,y,iU,L,J,O⟩
  obtain⟨c,U,c1,F,C,A,T⟩:=E.ow j es a;have R:c≠p:=λz=>by
   subst z;show E.dj i j ds es e f a (by rw[y,c1])
  show⟨c,U,c1,by rw[eU R];show F,C,A,T⟩
 .rcases l j _ a1 with⟨e,a⟩ | ⟨e,a⟩
  .subst e;rcases l k _ a2 with⟨m,r⟩ | ⟨m,r⟩
   .exact absurd m w
   show E.dj i k ds fs w f r
  rcases l k _ a2 with⟨m,r⟩ | ⟨m,r⟩
  .subst m;show E.dj j i es ds w a f
  show E.dj j k es fs w a r
 obtain⟨own,B,N⟩:=E.on;show⟨own,λj es c h I=>?_,λj o h=>?_⟩
 .rcases l j _ h with⟨e,a⟩ | ⟨_,a⟩
  .subst e;show B i ds c f I
  show B j es c a I
 rcases l j _ h with⟨_,a⟩ | ⟨e,a⟩
 .cases a
 obtain⟨c,fp,c1,F,C,A⟩:=N j o a;show⟨c,fp,c1,F,C.mono (cO.refl _) λq P u m=>?_,A⟩;rw[eU λz=>?_]
 .exact m
 have t:=(A q P).2.2;rw[z,B i ds p f y] at t;injection t with t
 show e t
theorem eE.pZ{i:Nat}{o A:OV}{p:Addr}(E:eE K G0 H0 ρ σ G H)(R:gt ρ i=.ov o)(S:σ[i]?=some (some (.ref p)))
  (W:∀fp,(p::fp).Nodup->j5 K G H p fp o->∃v,(p::v).Nodup/\j5 K G H' p v A/\(∀q∈p::v,q∈p::fp\/H q=none)/\∀b,b∉p::fp->H b≠none->H' b=H b) :
  eE K G0 H0 (ρ.set i (.ov A)) σ G H':=by
 obtain⟨own,O,N⟩:=E.on;obtain⟨l,fp,T,b2,b3,t⟩:=N i o R;rw[S] at T;cases T;obtain⟨v,c1,c2,L,J⟩:=W fp b2 b3;have Z:i<ρ.length:=BD R (by simp);have x:∀j s,gt (ρ.set i (.ov A)) j=s->(i=j/\s=.ov A)\/(i≠j/\gt ρ j=s):=λj s e=>by
  rw[xR] at e;by_cases h:i=j
  .subst h;rw[if_pos ⟨rfl,Z⟩] at e;show .inl ⟨rfl,e.symm⟩
  rw[if_neg (λz=>h z.1)] at e;show .inr ⟨h,e⟩
 have Q:∀(F:Hp),(∀q∈p::fp,F q=none)->cO F H->cO F H':=λF Y s b u e=>by
  have X:b∉p::fp:=λz=>by rw[Y b z] at e;cases e
  rw[J b X (by rw[s b u e];show nofun)];show s b u e
 show⟨⟨E.e.g,Q H0 (λq c=>(t q c).2.1) E.e.h,Q G (λq c=>(t q c).1) E.e.s,E.e.n⟩,by simp[E.len],λj d h=>?_,λj es h=>?_,λj k es fs V a1 a2=>?_,λq=>if q∈p::v then some i else own q,λj es l h P=>?_,λj Xy h=>?_⟩
 .rcases x j _ h with⟨_,a⟩ | ⟨e,a⟩
  .cases a
  show E.fz j d a
 .rcases x j _ h with⟨_,a⟩ | ⟨e,a⟩
  .cases a
  obtain⟨l,xs,r,m,B,y,d5⟩:=E.ow j es a;show⟨l,xs,r,?_,B,y,d5⟩;rw[J l (λz=>?_) (by rw[m];show nofun)]
  .exact m
  have f:=(t l z).2.2;rw[O j es l a r] at f;injection f with f
  show e f.symm
 .rcases x j _ a1 with⟨_,a⟩ | ⟨e,a⟩
  .cases a
  rcases x k _ a2 with⟨_,D⟩ | ⟨I,D⟩
  .cases D
  show E.dj j k es fs V a D
 .rcases x j _ h with⟨_,a⟩ | ⟨e,a⟩
  .cases a
  have w:=O j es l a P;obtain⟨C,xs,r,m,_⟩:=E.ow j es a;rw[P] at r;cases r;dsimp only;rw[if_neg λz=>?_]
  .exact w
  rcases L l z with z | z
  .have f:=(t l z).2.2;rw[w] at f;injection f with f
   show e f.symm
  rw[z] at m;cases m
 rcases x j _ h with⟨e,a⟩ | ⟨e,a⟩
 .subst e;cases a;show⟨p,v,S,c1,c2,λq c=>?_⟩;dsimp only;rw[if_pos c];rcases L q c with z | z
  .exact⟨(t q z).1,(t q z).2.1,rfl⟩
  show⟨E.e.s.free z,E.e.h.free z,rfl⟩
 obtain⟨C,U,r,m,B,y⟩:=N j Xy a;have M:∀q∈C::U,q∉p::fp:=λq c z=>by
  have f:=(t q z).2.2;rw[(y q c).2.2] at f;injection f with f
  show e f.symm
 show⟨C,U,r,m,B.mono (cO.refl _) λq c u I=>?_,λq c=>⟨(y q c).1,(y q c).2.1,?_⟩⟩
 .rw[J q (M q c) (by rw[I];show nofun)];show I
 dsimp only;rw[if_neg λz=>?_]
 .exact(y q c).2.2
 rcases L q z with z | z
 .exact M q c z
 show B.here q c z
theorem eE.weak{ρ':Ev}(E:eE K G0 H0 ρ σ G H)(c:ρ'.length=ρ.length)(w:∀i,gt ρ' i=.un\/gt ρ' i=gt ρ i):eE K G0 H0 ρ' σ G H:=by
 have g:∀i s,gt ρ' i=s->s≠.un->gt ρ i=s:=λi s e n=>by
  rcases w i with h | h
  .exact absurd (e.symm.trans h) n
  rw[<-h];show e
 show⟨E.e,by rw[c];show E.len,λi d h=>E.fz i d (g i _ h (by simp)),λi d h=>E.ow i d (g i _ h (by simp)),λi j ds es l k f=>E.dj i j ds es l (g i _ k (by simp)) (g j _ f (by simp)),let⟨own,b,a⟩:=E.on;⟨own,λi ds p h=>b i ds p (g i _ h (by simp)),λi o h=>a i o (g i _ h (by simp))⟩⟩
end
section
variable{X:Cx}{pos:Pos}{e:Expr}{te:TD}
def cQ(t u:TX):TX:=λD a=>t { D with nx:=u D } a
def gv:TX:=λD a=>D.nx a
theorem gT:pd X [] gv:=⟨_,JS,λa σ c b G H D E k h g=>g.nx a σ G H (cO.refl _) k h⟩
theorem cT{st:Stmt}{a:List Stmt}{t u:TX}(o:PX X st t)(n:pd X a u):pd X (st::a) (cQ t u):=by
 obtain⟨t1,l,i⟩:=o;obtain⟨s,j,f⟩:=n;show⟨_,KG l j,λd σ c b G H D E k h g=>i d σ c b G H _ _ k h ⟨λρ' p r q e m h'=>f ρ' p c b r q D E m h' (g.shift e),g.rt,g.bk,g.ct⟩⟩
theorem c6{st:Stmt}{t:TX}(c:PX X st t):pd X [st] t:=by
 obtain⟨t1,b,a⟩:=c;show⟨_,QY b,a⟩
theorem qN(i:Nat){b:List Stmt}{t:TX}(h:pd X b t):pd X b (λD a=>t D (lZ i a)):=by
 obtain⟨t1,e,d⟩:=h;show⟨_,e,λa σ l j G H D E k h g=>?_⟩;obtain⟨m,f,c⟩:=k.freeze i;show d _ σ l j m H D E f h (g.shift c)
def fB(te:TD):TX:=λD a=>te a D.rt
theorem fS(h:PD X e te):PX X (.Return (some e) pos) (fB te):=by
 obtain⟨t,p,q⟩:=h;show⟨_,D6 p,λa σ i d G H D E k h g=>q a σ i d G H _ _ k h λv f r j x b c=>g.rt v f r j (k.e.trans x) (b.iC k.e.h) c⟩
def pD(i:Nat):TX:=λD a=>match gt a i with
 | .ow ds=>D.rt (.ow ds)
 | _=>False
theorem uq(i:Nat){x:Str}{a:Pos}(f:X.N[i]?=some x:=by rfl)(c:oN X.env.scope x:=by first | show Or.inl rfl | show Or.inr (Or.inl rfl) | show Or.inr (Or.inr rfl))(hd:(x==("__debug__":Str))=false:=by decide)
  (b:(x==("__classdict__":Str))=false:=by decide):PX X (.Return (some (.Name x a)) pos) (pD i):=by
 show⟨_,D6 (qe f c hd b),λq σ s r G H D E k h g=>?_⟩;unfold pD at h;split at h
 .rename_i ds d;obtain⟨p,xs,o,n,m,l,j⟩:=k.ow i ds d;show⟨_,o,g.rt _ H (.ow ds) G k.e ⟨p,xs,rfl,l,m,n,j⟩ h⟩
 show h.elim
def BC(te:TD):TX:=λD a=>te a λ_=>D.nx a
theorem JA(h:PD X e te)(b:swapsWith e none pos.line X.env=pure false:=by rfl):PX X (.Expr e pos) (BC te):=by
 obtain⟨t,p,q⟩:=h;show⟨_,zb p b,λa σ i d G H D E k h g=>q a σ i d G H _ _ k h λv f r j x l c=>g.nx a σ j f x.g (k.ext x) c⟩
def fT(c:jU)(t u:TX):TX:=λD a=>c a λb=>if b=true then t D a else u D a
theorem gQ{c:Expr}{a b:List Stmt}{tc:jU}{t u:TX}(s:PB X c tc)(ha:pd X a t)(v:pd X b u):PX X (.If c a b pos) (fT tc t u):=by
 obtain⟨t0,r,o⟩:=s;obtain⟨t1,q,n⟩:=ha;obtain⟨w,p,m⟩:=v;show⟨_,Oa r q p,λe σ i f G H D E k h g=>o e σ i f G H _ _ k h λb j l x d=>?_⟩;cases b with
 | true=>rw[if_pos rfl] at d ⊢;show n e σ i f l j D E (k.ext x) d (g.shift x.g)
 | false=>rw[if_neg aW] at d ⊢;show m e σ i f l j D E (k.ext x) d (g.shift x.g)
def jr(i:Nat)(te:TD):TX:=λD a=>te a λr=>D.nx (a.set i r.sl)
theorem lM(i:Nat){x:Str}{a:Pos}(he:PD X e te)(l:X.N.Nodup:=by assumption)(hi:X.N[i]?=some x:=by rfl)(hx:Loc X.env.scope x:=by first | show Or.inl rfl | show Or.inr rfl)(d:swapsWith e (some (.Name x a)) pos.line X.env=pure false:=by rfl)(j:X.fn x=true\/X.env.scope.names.lookup x=some .local:=by first | show .inl rfl | show .inr rfl | assumption) :
  PX X (.Assign [.Name x a] e pos) (jr i te):=by
 obtain⟨t,p,q⟩:=he;show⟨_,Jb l hi hx p d j,λb σ o m G H D E k h g=>q b σ o m G H _ _ k h λv n r s x c f=>g.nx _ _ s n x.g (k.put x c) f⟩
def eu(i:Nat)(te:TD):TX:=λD a=>te a λr=>D.nx (a.set i (.fz r.val))
theorem eV(i:Nat){x:Str}{a:Pos}(he:PD X e te)(n:X.N.Nodup:=by assumption)(hi:X.N[i]?=some x:=by rfl)(hx:Loc X.env.scope x:=by first | show Or.inl rfl | show Or.inr rfl)(j:swapsWith e (some (.Name x a)) pos.line X.env=pure false:=by rfl)(m:X.fn x=true\/X.env.scope.names.lookup x=some .local:=by first | show .inl rfl | show .inr rfl | assumption) :
  PX X (.Assign [.Name x a] e pos) (eu i te):=by
 obtain⟨t,p,q⟩:=he;show⟨_,Jb n hi hx p j m,λc σ w o G H D E k h g=>q c σ w o G H _ _ k h λv s r y x f l=>?_⟩;obtain⟨u,b,d,_⟩:=f.freeze x;show g.nx _ _ u s b.g (k.put b (r:=.fz r.val) d) l
def jy(i:Nat)(te:TD):TX:=λD a=>match gt a i with
 | .ow ds=>te a λr=>ds.length<sizeLine/\D.nx (a.set i (.ow (ds++[r.val])))
 | _=>False
theorem lL(i:Nat){x:Str}{l m b:Pos}(he:PD X e te)(L:X.N[i]?=some x:=by rfl)(I:oN X.env.scope x:=by first | show Or.inl rfl | show Or.inr (Or.inl rfl) | show Or.inr (Or.inr rfl))(hd:(x==("__debug__":Str))=false:=by decide)
  (C:(x==("__classdict__":Str))=false:=by decide) (B:starEach [e] X.env=(false,eval e X.env)::starEach [] X.env:=by rfl)
  (J:∀{j:TE}{t:TA},PE X (.Name x l) j->PA X [e] t->PE X (.Call (.Attribute (.Name x l) "append" m) [e] [] b) (Ar X.K "list" Eg j t):=by intro j t f d;show yS PySem.F.plainAttrs_list PySem.F.slot_list_append PySem.F.type_list_append ES f d) :
  PX X (.Expr (.Call (.Attribute (.Name x l) "append" m) [e] [] b) pos) (jy i te):=by
 obtain⟨t,p,q⟩:=he;show⟨_,zb (J (qe L I hd C) (qO p rG B)),λu σ P M G H D E k h g=>?_⟩;unfold jy at h;split at h
 .rename_i ds o;obtain⟨a,xs,f,d,R,Q,s⟩:=k.ow i ds o;show⟨_,f,.inl ⟨rfl,xs,fH.of d⟩,?_⟩;show q u σ P M G H _ _ k h λv S r T w z n=>?_
  obtain⟨O,c,y,_⟩:=z.freeze w;have A:=k.ext c;show⟨a,xs,v,rfl,rfl,c.h _ _ d,by rw[s.length];show n.1,?_⟩;show g.nx _ _ O _ c.g (A.change o f ((s.mono c.g).append (cA.cons y cA.nil))) n.2
 show h.elim
end
section
variable{X:Cx}{pos:Pos}{tg:Expr}
noncomputable abbrev jx:=D->Ev->(Ev->Prop)->Prop
noncomputable abbrev p7:=List D->Ev->(Ev->Prop)->Prop
def sV(X:Cx)(tg:Expr)(g:jx):Prop:=∃c,PG X tg c/\∀(b:Ev)(σ:St)(h f G H:Hp)(d:D)(v:V)(Q:Ev->Prop)(P:St->Hp->Prop),eE X.K h f b σ G H->Rep X.K G v d->g d b Q->
 (∀ρ' e i a,eE X.K h f ρ' e i a->Ext G H i a->Q ρ'->P e a)->c v σ H P
def yE(X:Cx)(j:List Expr)(g:p7):Prop:=∃d,yA X j d/\∀(b:Ev)(σ:St)(h f G H:Hp)(ds:List D)(c:List V)(Q:Ev->Prop)(P:St->Hp->Prop),eE X.K h f b σ G H->cA X.K G c ds->g ds b Q->
 (∀ρ' e i a,eE X.K h f ρ' e i a->Ext G H i a->Q ρ'->P e a)->d c σ H P
def cZ(i:Nat):jx:=λd a Q=>Q (a.set i (.fz d))
theorem c8(i:Nat){x:Str}(b:X.N.Nodup:=by assumption)(hi:X.N[i]?=some x:=by rfl)(hx:Loc X.env.scope x:=by first | show Or.inl rfl | show Or.inr rfl)(a:X.fn x=true\/X.env.scope.names.lookup x=some .local:=by first | show .inl rfl | show .inr rfl | assumption):sV X (.Name x pos) (cZ i):=
 ⟨_,QX b hi hx a,λc σ g f G H d v Q P E r h k=>k _ _ G H (E.put (.refl E.e.s) (r:=.fz d) r) (.refl E.e.s) h⟩
noncomputable def hE:p7:=λds a Q=>match ds with
 | []=>Q a
 | _=>False
noncomputable def dX(t:jx)(u:p7):p7:=λds a Q=>match ds with
 | d::r=>t d a λρ'=>u r ρ' Q
 | []=>False
theorem jR:yE X [] hE:=by
 show⟨_,QW,λb σ d c G H ds a Q P E r h k=>?_⟩;unfold hE at h;split at h
 .cases a with
  | nil=>show⟨rfl,k _ _ G H E (.refl E.e.s) h⟩
  | cons=>simp only[cA] at r
 show h.elim
theorem eO{e:Expr}{es:List Expr}{t:jx}{u:p7}(w:sV X e t)(s:yE X es u)(p:(assignEach (e::es) X.env).map (·.2)=assign e X.env::(assignEach es X.env).map (·.2):=by rfl):yE X (e::es) (dX t u):=by
 obtain⟨t1,m,j⟩:=w;obtain⟨J,l,i⟩:=s;show⟨_,Sj m l p,λd σ c b G H ds a Q P E r h k=>?_⟩;unfold dX at h;split at h
 .cases a with
  | nil=>simp only[cA] at r
  | cons v a=>
   simp only[cA] at r;show⟨v,a,rfl,j d σ c b G H _ v _ _ E r.1 h λρ' z D B I x q=>?_⟩;show i ρ' z c b D B _ a Q P I (r.2.mono x.g) q λy n C A F f o=>k y n C A F (x.trans f) o
 show h.elim
def iS(n:Nat)(t:p7):jx:=λd a Q=>match d with
 | .tup ds=>ds.length=n/\t ds a Q
 | _=>False
theorem kC{es:List Expr}{k:Nat}{t:p7}{n:Nat}(l:X.calm=true)(h:yE X es t)(j:(assignEach es X.env).length=n:=by rfl)(g:(assignEach es X.env).findIdx? (·.1)=none:=by rfl):sV X (.Tuple es k pos) (iS n t):=by
 obtain⟨t1,f,c⟩:=h;show⟨_,Pl l f j g,λb σ o m G H d v Q P E r h k=>?_⟩;unfold iS at h;split at h
 .simp only[Rep] at r;obtain⟨a,xs,rfl,i,rs⟩:=r;show⟨a,xs,rfl,E.e.s.nR i,by rw[rs.length];show h.1,c b σ o m G H _ xs Q P E rs h.2 k⟩
 show h.elim
def xE(te:TD)(g:jx):TX:=λD a=>te a λr=>g r.val a D.nx
theorem BV{e:Expr}{te:TD}{g:jx}(he:PD X e te)(y:sV X tg g)(u:swapsWithSole [tg] e pos.line X.env=pure false:=by rfl)(hw:swappedStores [tg] e X.env=pure none:=by rfl)(z:(assignEach [tg] X.env).map (·.2)=[assign tg X.env]:=by rfl):PX X (.Assign [tg] e pos) (xE te g):=by
 obtain⟨t,p,q⟩:=he;obtain⟨F,s,o⟩:=y;show⟨_,Jc p s u hw z,λb σ f d G H D E k h g=>q b σ f d G H _ _ k h λv a r i x m w=>?_⟩;obtain⟨B,c,l,_⟩:=m.freeze x;show o b σ f d B a _ v _ _ (k.ext c) l w λρ' A i a C j n=>g.nx ρ' A i a (c.g.trans j.g) C n
def ub(K:J')(J:It)(G:Hp)(ds:List D):Prop:=
 (∀i d b a,ds[i]?=some d->cO G b->cO b a->J.go i a/\∀v c,J.CJ i a v c->∃e,Ext b a e c/\Rep K e v d)/\∀b a,cO G b->cO b a->J.stop ds.length a
noncomputable abbrev lP:=Ev->(List D->Prop)->Prop
def PId(X:Cx)(tg a:Expr)(e:lP):Prop:=∃ww,PI X tg a ww/\∀(b:Ev)(σ:St)(g f G H:Hp)(Q:List D->Prop)(P:It->Hp->Prop),eE X.K g f b σ G H->e b Q->
 (∀J c ds d,Ext G H d c->ub X.K J d ds->Q ds->P J c)->ww σ H P
def D0(d:D)(Q:List D->Prop):Prop:=match d with
 | .lst ds=>Q ds
 | .tup ds=>Q ds
 | .str z=>Q (z.cps.toList.map λc=>.str ⟨#[c]⟩)
 | _=>False
def gu(te:TD):lP:=λa Q=>te a λr=>D0 r.val Q
theorem SS{K:J'}{G:Hp}{a:Addr}{xs:List V}{ds:List D}(h:lA K G a xs)(r:cA K G xs ds):ub K (HN K a) G ds:=by
 show⟨λi d g f hd s1 s2=>?_,λg f s1 s2=>⟨xs,(s2.gq (s1.gq h)).sq,by rw[r.length];show az _⟩⟩;obtain⟨v,b,j⟩:=r.get hd;have c:fH K f a xs:=(s2.gq (s1.gq h)).sq;show⟨⟨xs,v,c,b⟩,λu l k=>?_⟩;obtain⟨e,y⟩:=k;subst e;have:=y xs c;rw[b] at this;cases this;show⟨g,.refl s2,j.mono s1⟩
theorem Rx{K:J'}{G:Hp}{a:Addr}{xs:List V}{ds:List D}(h:gR K G a xs)(r:cA K G xs ds):ub K (HM K a) G ds:=by
 show⟨λi d g f hd s1 s2=>?_,λg f s1 s2=>⟨xs,s2.rR (s1.rR h),by rw[r.length];show az _⟩⟩;obtain⟨v,b,j⟩:=r.get hd;have c:gR K f a xs:=s2.rR (s1.rR h);show⟨⟨xs,v,c,b⟩,λu l k=>?_⟩;obtain⟨e,y⟩:=k;subst e;have:=y xs c;rw[b] at this;cases this;show⟨g,.refl s2,j.mono s1⟩
theorem Rw{K:J'}{G:Hp}(z:Str):ub K (Dt z) G (z.cps.toList.map λc=>.str ⟨#[c]⟩):=by
 show⟨λi d f j hd s1 s2=>?_,λf j s1 s2=>?_⟩
 .rw[aJ] at hd;cases e:z.cps.toList[i]? with
  | none=>rw[e] at hd;cases hd
  | some c=>
   rw[e] at hd;cases hd;have b:z.cps[i]?=some c:=by simpa using e
   show⟨(Array.getElem?_eq_some_iff.mp b).1,λv l g=>?_⟩;obtain⟨h,k,a,rfl⟩:=g;subst h;rw[b] at a;cases a;show⟨f,.refl s2,ur _ _ _⟩
 show _=_;simp
theorem LO{K:J'}{G:Hp}(lo:Int)(n:Nat):ub K (Bq lo n) G ((List.range n).map λ(i:Nat)=>.int (lo+i)):=by
 show⟨λi d a l hd s1 s2=>?_,λa l s1 s2=>?_⟩
 .rw[aJ] at hd;cases e:(List.range n)[i]? with
  | none=>rw[e] at hd;cases hd
  | some c=>
   rw[e] at hd;cases hd;obtain⟨j,h⟩:=ar.mp e;have g:i<n:=by simpa using j
   have f:c=i:=by rw[<-h];simp
   subst f;show⟨g,λv m b=>?_⟩;obtain⟨k,rfl⟩:=b;subst k;show⟨a,.refl s2,kD _ _ _⟩
 show n<=_;simp
noncomputable def oS(ds:List D):List D:=ds.mapIdx λi d=>.tup [.int (i:Nat),d]
theorem Kw{K:J'}{G:Hp}{t:Addr}{x y:V}{d e:D}(a:G t=some (.tup [x,y]))(c:Rep K G x d)(b:Rep K G y e):Rep K G (.ref t) (.tup [d,e]):=by
 simp only[Rep];show⟨t,[x,y],rfl,a,cA.cons c (cA.cons b cA.nil)⟩
theorem SR{K:J'}{G:Hp}{a:Addr}{xs:List V}{ds:List D}(h:lA K G a xs)(r:cA K G xs ds):ub K (HP K a) G (oS ds):=by
 show⟨λi d c b hd s1 s2=>?_,λc b s1 s2=>⟨xs,(s2.gq (s1.gq h)).sq,by rw[r.length];simp[oS]⟩⟩;unfold oS at hd;rw[List.getElem?_mapIdx] at hd;cases e:ds[i]? with
 | none=>rw[e] at hd;cases hd
 | some d'=>
  rw[e] at hd;cases hd;obtain⟨v,j,l⟩:=r.get e;have k:fH K b a xs:=(s2.gq (s1.gq h)).sq;show⟨⟨xs,v,k,j⟩,λu o m=>?_⟩;obtain⟨t,rfl,n,y⟩:=m;obtain⟨x,hx,rfl⟩:=y xs k;rw[j] at hx;cases hx;have f:Ext c b (upd c t (.tup [.int i,v])) (upd b t (.tup [.int i,v])):=.new s2 n;show⟨_,f,Kw iU (kD _ _ _) ((l.mono s1).mono f.g)⟩
noncomputable def xD(ds es:List D):List D:=List.zipWith (λd e=>.tup [d,e]) ds es
theorem Rv{K:J'}{G:Hp}{a b:Addr}{xs ys:List V}{ds es:List D}(h:lA K G a xs)(r:cA K G xs ds)(h':lA K G b ys)(n:cA K G ys es):ub K (HL K a b) G (xD ds es):=by
 show⟨λi d l c hd s1 s2=>?_,λl c s1 s2=>⟨xs,ys,(s2.gq (s1.gq h)).sq,(s2.gq (s1.gq h')).sq,?_⟩⟩
 .unfold xD at hd;rw[List.getElem?_zipWith] at hd;cases e:ds[i]? with
  | none=>rw[e] at hd;cases hd
  | some d'=>
   cases k:es[i]? with
   | none=>rw[e,k] at hd;cases hd
   | some E=>
    rw[e,k] at hd;cases hd;obtain⟨v,q,w⟩:=r.get e;obtain⟨j,o,z⟩:=n.get k;have s:fH K c a xs:=(s2.gq (s1.gq h)).sq;have m:fH K c b ys:=(s2.gq (s1.gq h')).sq;show⟨⟨xs,ys,v,j,s,m,q,o⟩,λu F A=>?_⟩;obtain⟨t,rfl,B,y⟩:=A;obtain⟨x,C,hx,p,rfl⟩:=y xs ys s m;rw[q] at hx;rw[o] at p;cases hx;cases p;have f:Ext l c (upd l t (.tup [v,j])) (upd c t (.tup [v,j])):=.new s2 B;show⟨_,f,Kw iU ((w.mono s1).mono f.g) ((z.mono s1).mono f.g)⟩
 rw[r.length,n.length];unfold xD;rw[List.length_zipWith];ext
theorem hU{l:Expr}{te:TD}(h:PD X l te):PId X tg l (gu te):=by
 obtain⟨t,p,q⟩:=h;show⟨_,OY p,λm σ u o G H Q P E h k=>q m σ u o G H _ _ E h λv i r w x n c=>?_⟩;obtain⟨j,d,b,_⟩:=n.freeze x;unfold D0 at c;split at c
 .rename_i ds e;rw[e] at b;simp only[Rep] at b;obtain⟨a,xs,rfl,f,g⟩:=b;show .inl ⟨a,rfl,⟨xs,(d.s.gq f).sq⟩,k _ i _ j d (SS f g) c⟩
 .rename_i ds e;rw[e] at b;simp only[Rep] at b;obtain⟨a,xs,rfl,f,g⟩:=b;show .inr (.inl ⟨a,rfl,⟨xs,d.s.nR f⟩,k _ i _ j d (Rx (gR.of f) g) c⟩)
 .rename_i z e;rw[e] at b;simp only[Rep] at b;show .inr (.inr ⟨z,b,k _ i _ j d (Rw z) c⟩)
 show c.elim
def mK(ts:jP):lP:=λa Q=>ts a λds=>match ds with
 | [.int j]=>-(2 ^ 62)<=j/\j<2 ^ 62/\Q ((List.range j.toNat).map λ(i:Nat)=>.int (0+i))
 | _=>False
theorem kY{K:J'}{G:Hp}{a:List V}{d:D}(h:cA K G a [d]):∃v,a=[v]/\Rep K G v d:=by
 match a,h with
 | [],h=>simp only[cA] at h
 | [v],h=>simp only[cA] at h;show⟨v,rfl,h.1⟩
 | v::w::r,h=>simp only[cA] at h;show absurd h.2 (by simp)
theorem yO{K:J'}{G:Hp}{a:List V}{d e:D}(h:cA K G a [d,e]):∃v w,a=[v,w]/\Rep K G v d/\Rep K G w e:=by
 match a,h with
 | [],h=>simp only[cA] at h
 | v::r,h=>
  simp only[cA] at h;obtain⟨w,rfl,hw⟩:=kY h.2;show⟨v,w,rfl,h.1,hw⟩
theorem oH{a:Expr}{ts:jP}{p:Pos}(f:X.mg "range"=none)(ha:mW X [a] ts)(g:Gl X "range":=by rfl)(e:starEach [a] X.env=[(false,eval a X.env)]:=by rfl):PId X tg (.Call (.Name "range" p) [a] [] pos) (mK ts):=by
 obtain⟨t,pp,q⟩:=ha;show⟨_,T4 g f pp e,λd σ l i G H Q P E h k=>q d σ l i G H _ _ E h λn j ds m x rs b=>?_⟩;split at b
 .obtain⟨v,rfl,c⟩:=kY rs;simp only[Rep] at c;subst c;show⟨_,rfl,b.1,b.2.1,k _ j _ m x (LO 0 _) b.2.2⟩
 show b.elim
def yN(ts:jP):lP:=λa Q=>ts a λds=>match ds with
 | [.int i,.int j]=>(-(2 ^ 62)<=i/\i<2 ^ 62/\-(2 ^ 62)<=j/\j<2 ^ 62)/\Q ((List.range (j-i).toNat).map λ(n:Nat)=>.int (i+n))
 | _=>False
theorem LN{a b:Expr}{ts:jP}{p:Pos}(j:X.mg "range"=none)(ha:mW X [a,b] ts)(l:Gl X "range":=by rfl)(i:starEach [a,b] X.env=[(false,eval a X.env),(false,eval b X.env)]:=by rfl)(g:starEach [b] X.env=[(false,eval b X.env)]:=by rfl):PId X tg (.Call (.Name "range" p) [a,b] [] pos) (yN ts):=by
 obtain⟨t,pp,q⟩:=ha;show⟨_,TZ l j pp i g,λf σ o m G H Q P E h k=>q f σ o m G H _ _ E h λu n ds r x rs c=>?_⟩;split at c
 .obtain⟨v,s,rfl,d,e⟩:=yO rs;simp only[Rep] at d e;subst d e;show⟨_,_,rfl,c.1,k _ n _ r x (LO _ _) c.2⟩
 show c.elim
def tx(ts:jP):lP:=λa Q=>ts a λds=>match ds with
 | [.lst es]=>Q (oS es)
 | _=>False
theorem vn{a:Expr}{ts:jP}{p tp:Pos}{b:List Expr}{g:Nat}(j:X.mg "enumerate"=none)(ha:mW X [a] ts)(l:Gl X "enumerate":=by rfl)(i:starEach [a] X.env=[(false,eval a X.env)]:=by rfl):PId X (.Tuple b g tp) (.Call (.Name "enumerate" p) [a] [] pos) (tx ts):=by
 obtain⟨t,pp,q⟩:=ha;show⟨_,Q9 l j pp i,λf σ r n G H Q P E h k=>q f σ r n G H _ _ E h λw o ds u x rs c=>?_⟩;split at c
 .obtain⟨v,rfl,d⟩:=kY rs;simp only[Rep] at d;obtain⟨a,xs,rfl,e,m⟩:=d;show⟨a,xs,rfl,x.s.gq e,k _ o _ u x (SR e m) c⟩
 show c.elim
def pB(ts:jP):lP:=λa Q=>ts a λds=>match ds with
 | [.lst es,.lst fs]=>Q (xD es fs)
 | _=>False
theorem v8{a b:Expr}{ts:jP}{p tp:Pos}{c:List Expr}{l:Nat}(o:X.mg "zip"=none)(ha:mW X [a,b] ts)(r:Gl X "zip":=by rfl)(n:starEach [a,b] X.env=[(false,eval a X.env),(false,eval b X.env)]:=by rfl)(m:starEach [b] X.env=[(false,eval b X.env)]:=by rfl) :
  PId X (.Tuple c l tp) (.Call (.Name "zip" p) [a,b] [] pos) (pB ts):=by
 obtain⟨t,pp,q⟩:=ha;show⟨_,PQ r o pp n m,λj σ A y G H Q P E h k=>q j σ A y G H _ _ E h λD z ds B x rs d=>?_⟩;split at d
 .obtain⟨v,C,rfl,e,f⟩:=yO rs;simp only[Rep] at e f;obtain⟨a,xs,rfl,i,w⟩:=e;obtain⟨b,ys,rfl,g,u⟩:=f;show⟨a,b,rfl,⟨xs,(x.s.gq i).sq⟩,⟨ys,(x.s.gq g).sq⟩,k _ z _ B x (Rv i w g u) d⟩
 show d.elim
def iG(c:lP)(g:jx)(tb:TX):TX:=λD b=>c b λds=>∃a:Nat->Ev->Prop,a 0 b/\
 (∀i d ρ',ds[i]?=some d->a i ρ'->g d ρ' λe=>tb { D with nx:=a (i+1),ct:=a (i+1),bk:=D.nx } e)/\∀ρ',a ds.length ρ'->D.nx ρ'
theorem jS{a:Expr}{body:List Stmt}{P:lP}{g:jx}{tb:TX}(hp:PassesOwn (model X.prog X.w) X.A X.env X.xe)(hc:X.calm=true)(hi:PId X tg a P)(hg:sV X tg g)(hb:pd X body tb)
  (hs:∀x,foldedSetIterable a X.env x=pure x:=by intro _;rfl):PX X (.For tg a body [] pos) (iG P g tb):=by
 obtain⟨t1,p1,q1⟩:=hi;obtain⟨t2,p2,q2⟩:=hg;obtain⟨t3,p3,Z⟩:=hb;show⟨_,Ph hp hc p1 p2 p3 hs,λM σ q n G H D E k h F=>q1 M σ q n G H _ _ k h λJ H1 ds z B O hq=>?_⟩;obtain⟨S,i0,turn,fin⟩:=hq;show⟨λi m y o=>m=ds.length-i/\i<=ds.length/\∃ρ' c,eE X.K q n ρ' y c o/\cO z c/\S i ρ',⟨ds.length,by simp,aZ _,M,z,k.ext B,cO.refl _,i0⟩,?_⟩;rintro i m y o ⟨rfl,hi,ρ',c,t,r,R⟩;by_cases I:i<ds.length
 .obtain⟨w1,w2⟩:=O;obtain⟨go,U⟩:=w1 i ds[i] c o (ai I) r t.e.s;show .inr ⟨go,λQ l=>∃u b,eE X.K q n u Q b l/\cO z b/\S (i+1) u,λQ l ⟨u,b,k2,s2,XM⟩=>⟨ds.length-(i+1),by ext,rfl,I,u,b,k2,s2,XM⟩,λv l hy=>?_⟩;obtain⟨b,N,Y⟩:=U v l hy;show q2 ρ' y q n b l ds[i] v _ _ (t.ext N) Y (turn i ds[i] ρ' (ai I) R) λW mJ T H3 k3 V gN=>?_
  have s3:cO z T:=(r.trans N.g).trans V.g;show Z W mJ q n T H3 _ _ k3 gN ⟨λd C p L s4 f j=>⟨d,p,f,s3.trans s4,j⟩,F.rt,λd C p L s4 f j=>F.nx d C p L ((B.g.trans s3).trans s4) f j,λd C p L s4 f j=>⟨d,p,f,s3.trans s4,j⟩⟩
 have e:i=ds.length:=by ext
 subst e;show .inl ⟨O.2 c o r t.e.s,F.nx ρ' y c o (B.g.trans r) t (fin ρ' R)⟩
def DZ(c:jU)(tb:TX):TX:=λD e=>∃W:Nat->Ev->Prop,(∃m,W m e)/\∀m ρ',W m ρ'->c ρ' λb=>if b=true then tb { D with nx:=λd=>∃a,a<m/\W a d,ct:=λd=>∃a,a<m/\W a d,bk:=D.nx } ρ' else D.nx ρ'
theorem Kv{c:Expr}{body:List Stmt}{tc:jU}{tb:TX}(Q:PassesOwn (model X.prog X.w) X.A X.env X.xe)(R:PB X c tc)(S:pd X body tb):PX X (.While c body [] pos) (DZ tc tb):=by
 obtain⟨t1,P,N⟩:=R;obtain⟨t3,O,M⟩:=S;show⟨_,Si Q P O,λI σ r q G H D E k h v=>?_⟩;obtain⟨W,⟨m0,L⟩,turn⟩:=h;show⟨λm j z=>∃ρ' s,eE X.K r q ρ' j s z/\cO G s/\W m ρ',⟨m0,I,G,k,cO.refl _,L⟩,?_⟩;rintro m j z ⟨ρ',s,u,B,J⟩;show N ρ' j r q s z _ _ u (turn m ρ' J) λb l d o p=>?_
 cases b with
 | true=>
  rw[if_pos rfl] at p ⊢;show⟨λC l=>∃a,a<m/\∃F d,eE X.K r q F C d l/\cO G d/\W a F,λC l T=>T,?_⟩;have s2:cO G d:=B.trans o.g;show M ρ' j r q d l _ _ (u.ext o) p ⟨λe t n y s4 f x=>by obtain⟨a,hm,i⟩:=x;show⟨a,hm,e,n,f,s2.trans s4,i⟩,v.rt,λe t n y s4 f i=>v.nx e t n y (s2.trans s4) f i,λe t n y s4 f x=>by obtain⟨a,hm,i⟩:=x;show⟨a,hm,e,n,f,s2.trans s4,i⟩⟩
 | false=>
  rw[if_neg aW] at p ⊢;show v.nx ρ' j d l (B.trans o.g) (u.ext o) p
end
noncomputable def qH(a:Ev):Option Nat->Sl
 | none=>.un
 | some j=>match gt a j with
  | .fz d=>.fz d
  | _=>.un
noncomputable def hJ(m:List (Option Nat))(a:Ev):Ev:=m.map (qH a)
theorem tH{m:List (Option Nat)}{b:Ev}{i:Nat}:gt (m.map (qH b)) i=match m[i]? with
  | some o=>qH b o
  | none=>.un:=by
 induction m generalizing i with
 | nil=>simp[gt]
 | cons a r c=>
  cases i with
  | zero=>simp[gt]
  | succ i=>simp only[ax,gt,bX];show c
def qM(m:List (Option Nat))(g:jx):Prop:=∀d a Q,g d a Q->g d a λb=>Q b/\b.length=a.length/\∀j c,m[j]?=some (some c)->gt b j=gt a j
def B7(m:List (Option Nat))(g:p7):Prop:=∀ds a Q,g ds a Q->g ds a λb=>Q b/\b.length=a.length/\∀j c,m[j]?=some (some c)->gt b j=gt a j
theorem ip{m:List (Option Nat)}{i:Nat}(h:m[i]?=some none:=by rfl):qM m (cZ i):=λd b Q q=>by
 show⟨q,by simp,λj c a=>?_⟩;rw[xR,if_neg];rintro⟨e,_⟩;subst e;rw[h] at a;cases a
theorem Ku{m:List (Option Nat)}:B7 m hE:=λds a Q q=>by
 unfold hE at q ⊢;split at q
 .exact⟨q,rfl,λ_ _ _=>rfl⟩
 show q.elim
theorem zm{m:List (Option Nat)}{t:jx}{u:p7}(mono:∀d a (Q b:Ev->Prop),(∀ρ',Q ρ'->b ρ')->t d a Q->t d a b)(g:∀d a (Q b:Ev->Prop),(∀ρ',Q ρ'->b ρ')->u d a Q->u d a b)(r:qM m t)(p:B7 m u):B7 m (dX t u):=λds a Q q=>by
 unfold dX at q ⊢;split at q
 .refine mono _ _ _ _ (λρ' e=>?_) (r _ _ _ q);obtain⟨i,l,o⟩:=e;show g _ _ _ _ (λs e=>by obtain⟨h,k,n⟩:=e;show⟨h,k.trans l,λj c f=>(n j c f).trans (o j c f)⟩) (p _ _ _ i)
 show q.elim
theorem Kt{m:List (Option Nat)}{n:Nat}{u:p7}(a:B7 m u):qM m (iS n u):=λd b Q q=>by
 unfold iS at q ⊢;split at q
 .exact⟨q.1,a _ _ _ q.2⟩
 show q.elim
theorem ux{i:Nat}:∀d a (Q b:Ev->Prop),(∀ρ',Q ρ'->b ρ')->cZ i d a Q->cZ i d a b:=λ_ _ _ _ h q=>h _ q
theorem zk:∀d a (Q b:Ev->Prop),(∀ρ',Q ρ'->b ρ')->hE d a Q->hE d a b:=λ_ _ _ _ h q=>by
 unfold hE at q ⊢;split at q
 .exact h _ q
 show q.elim
theorem CB{t:jx}{u:p7}(mono:∀d a (Q b:Ev->Prop),(∀ρ',Q ρ'->b ρ')->t d a Q->t d a b)(c:∀d a (Q b:Ev->Prop),(∀ρ',Q ρ'->b ρ')->u d a Q->u d a b):∀d a (Q b:Ev->Prop),(∀ρ',Q ρ'->b ρ')->dX t u d a Q->dX t u d a b:=λ_ _ _ _ h q=>by
 unfold dX at q ⊢;split at q
 .exact mono _ _ _ _ (λρ' e=>c _ _ _ _ h e) q
 show q.elim
theorem tO{m:List (Option Nat)}{i j n:Nat}(h:m[i]?=some none:=by rfl)(h':m[j]?=some none:=by rfl):qM m (iS n (dX (cZ i) (dX (cZ j) hE))):=
 Kt (zm ux (CB ux zk) (ip h) (zm ux zk (ip h') Ku))
theorem UH{m:List (Option Nat)}{i j k n:Nat}(h:m[i]?=some none:=by rfl)(h':m[j]?=some none:=by rfl)(a:m[k]?=some none:=by rfl):qM m (iS n (dX (cZ i) (dX (cZ j) (dX (cZ k) hE)))):=
 Kt (zm ux (CB ux (CB ux zk)) (ip h) (zm ux (CB ux zk) (ip h') (zm ux zk (ip a) Ku)))
def xr(X:Cx)(a:List Expr)(t:jU):Prop:=∃tt,yz X a tt/\∀(c:Ev)(σ:St)(f e G H:Hp)(Q:Bool->Prop)(P:Bool->Hp->Prop),eE X.K f e c σ G H->t c Q->
 (∀b d g,Ext G H g d->Q b->P b d)->tt σ H P
def jq:jU:=λ_ Q=>Q true
theorem kN{X:Cx}:xr X [] jq:=⟨_,Rb,λa σ c b G H Q P E h k=>k true H G (.refl E.e.s) h⟩
theorem mn{X:Cx}{c:Expr}{t:jU}(h:PB X c t):xr X [c] t:=let⟨tt,p,q⟩:=h;⟨tt,Ra p,q⟩
def fD(f:lP)(m:List (Option Nat))(g:jx)(tc:jU)(te:TD):TD:=λc Q=>f c λds=>∃a:Nat->List D->Prop,a 0 []/\
 (∀i d acc,ds[i]?=some d->a i acc->g d (hJ m c) λe=>tc e λb=>if b=true then te e λr=>acc.length<sizeLine/\a (i+1) (acc++[r.val]) else a (i+1) acc)/\∀acc,a ds.length acc->Q (.ow acc)
section
variable{X:Cx}{elt iter tg:Expr}{ifs:List Expr}{scope:Scope}{pos:Pos}{N':List Str}{m:List (Option Nat)}{wi:lP}{g:jx}{tc:jU}{te:TD}
theorem B6(cs:du X N' m scope)(hk:qM m g){ww:TI}{gg:rg TG}{An:rg TT}{B:rg TE}
  (q1:∀(a:Ev)(σ:St)(r q G H:Hp)(Q:List D->Prop)(P:It->Hp->Prop),eE X.K r q a σ G H->wi a Q->(∀J l ds f,Ext G H f l->ub X.K J f ds->Q ds->P J l)->ww σ H P)
  (q2:∀s3 t ex (a:Ev) (σ:St) (r q G H:Hp) (d:D) (v:V) (Q:Ev->Prop) (P:St->Hp->Prop),eE X.K r q a σ G H->Rep X.K G v d->g d a Q->(∀ρ' w f l,eE X.K r q ρ' w f l->Ext G H f l->Q ρ'->P w l)->gg s3 t ex v σ H P)
  (q3:∀s3 t ex (a:Ev) (σ:St) (r q G H:Hp) (Q:Bool->Prop) (P:Bool->Hp->Prop),eE X.K r q a σ G H->tc a Q->(∀b l f,Ext G H f l->Q b->P b l)->An s3 t ex σ H P)
  (q4:∀s3 t ex,rh X.K te (B s3 t ex)):rh X.K (fD wi m g tc te) (yR ww m gg An B):=by
 show λa σ r q G H Q P E h k=>q1 a σ r q G H _ _ E h λJ H1 ds p A wk hq=>?_
 obtain⟨Iv,i0,turn,fin⟩:=hq;intro D L s3 ex;have E1:=E.ext A;have HA:p D=none:=A.s.free L;have u:∀{i:Nat}{es:List L2.D},gt (hJ m a) i=.ow es->False:=λ{i es} h=>by
  unfold hJ at h;rw[tH] at h;split at h
  .rename_i o _;unfold qH at h;split at h
   .cases h
   split at h<;>cases h
  cases h
 have rZ:∀{i:Nat}{o:OV},gt (hJ m a) i=.ov o->False:=λ{i o} h=>by
  unfold hJ at h;rw[tH] at h;split at h
  .rename_i o _;unfold qH at h;split at h
   .cases h
   split at h<;>cases h
  cases h
 have lR:eE X.K p H1 (hJ m a) (si m σ) p (upd H1 D (.lst [])):=by
  show⟨.own A.s L,by simp[si,hJ],λi d h=>?_,λi es h=>(u h).elim,λi j es fs _ h=>(u h).elim,λ_=>none,λi es _ h=>(u h).elim,λi o h=>(rZ h).elim⟩;unfold hJ at h;rw[tH] at h;split at h
  .rename_i o ho;unfold qH at h;split at h
   .cases h
   rename_i j;split at h
   .rename_i d' uP;cases h;obtain⟨v,hv,S⟩:=E1.fz j d uP;show⟨v,?_,S⟩;unfold si;rw[aJ,ho];simp[hv]
   cases h
  cases h
 show⟨λi n w l=>n=ds.length-i/\i<=ds.length/\∃acc xs f,eE X.K p H1 (hJ m a) w f l/\l D=some (.lst xs)/\f D=none/\cA X.K f xs acc/\Iv i acc,
  ⟨ds.length,by simp,aZ _,[],[],p,lR,iU,HA,cA.nil,i0⟩,?_⟩
 rintro i n w l ⟨rfl,hi,acc,xs,f,z,hx,A7,R,iv⟩;by_cases U:i<ds.length
 .obtain⟨w1,w2⟩:=wk;obtain⟨go,yl⟩:=w1 i ds[i] f l (ai U) z.e.g z.e.s;show .inr ⟨go,λmf x=>∃acc xs f,eE X.K p H1 (hJ m a) mf f x/\x D=some (.lst xs)/\f D=none/\cA X.K f xs acc/\Iv (i+1) acc,λmf x h2=>⟨ds.length-(i+1),by ext,rfl,U,h2⟩,λv x hy=>?_⟩;obtain⟨G2,x2,S⟩:=yl v x hy;show q2 _ _ _ (hJ m a) w p H1 G2 x ds[i] v _ _ (z.ext x2) S (hk _ _ _ (turn i ds[i] acc (ai U) iv)) λO mJ G3 t Z x3 T=>?_
  obtain⟨T,Hh,yr⟩:=T;have weak:∀j,gt (hJ m a) j=.un\/gt (hJ m a) j=gt O j:=λj=>by
   cases hm:m[j]? with
   | none=>left;unfold hJ;rw[tH,hm]
   | some o=>
    cases o with
    | none=>left;unfold hJ;rw[tH,hm];rfl
    | some c=>right;show(yr j c hm).symm
  have F1:=x2.trans x3;show q3 _ _ _ O mJ p H1 G3 t _ _ Z T λb H4 Y M F=>?_
  have I:=F1.trans M;have E4:=(Z.ext M).weak (ρ':=hJ m a) (Hh.symm) weak;have N:H4 D=some (.lst xs):=I.h _ _ hx;have A5:Y D=none:=I.n D A7 (by rw[hx];show nofun);cases b with
  | false=>
   rw[if_neg aW] at F ⊢;show⟨acc,xs,Y,E4,N,A5,R.mono I.g,F⟩
  | true=>
   rw[if_pos rfl] at F ⊢;show q4 _ _ _ O mJ p H1 Y H4 _ _ (Z.ext M) F λv5 H5 r5 G5 x5 Ge oK=>?_
   obtain⟨W,C,Xn,_⟩:=Ge.freeze x5;have y:=E4.ext C;have GJ:H5 D=some (.lst xs):=C.h _ _ N;have A4:W D=none:=C.n D A5 (by rw[N];show nofun);have r6:cA X.K W xs acc:=(R.mono I.g).mono C.g;show⟨xs,GJ,by rw[r6.length];show oK.1,acc++[r5.val],xs++[v5],W,?_,iU,A4,r6.append (cA.cons Xn cA.nil),oK.2⟩;show⟨⟨y.e.g,λb o e=>by rw[eU (kZ e L)];show y.e.h b o e,λb o e=>by rw[eU (kZ e A4)];show y.e.s b o e,y.e.n⟩,y.len,y.fz,λi es h=>(u h).elim,λi j es fs _ h=>(u h).elim,λ_=>none,λi es _ h=>(u h).elim,λi o h=>(rZ h).elim⟩
 have e:i=ds.length:=by ext
 subst e;show .inl ⟨wk.2 f l z.e.g z.e.s,k _ l (.ow acc) f (A.trans z.e) ⟨D,xs,rfl,A.h.free L,A7,hx,R⟩ (fin acc iv)⟩
theorem js(j:X.calm=true)(d:du X N' m scope)(i:qM m g)(hi:PId X tg iter wi)(c:∀s3 a ex,sV (ju X N' scope s3 a ex) tg g)(b:∀s3 a ex,xr (ju X N' scope s3 a ex) ifs tc)
  (he:∀s3 a ex,PD (ju X N' scope s3 a ex) elt te) (h:∀x,foldedSetIterable iter X.env x=pure x:=by intro _;rfl):PD X (.ListComp elt [⟨tg,iter,ifs,0⟩] scope pos) (fD wi m g tc te):=by
 obtain⟨ww,f,e⟩:=hi;show⟨_,JT (g:=λs3 a ex=>(c s3 a ex).choose) (tc:=λs3 a ex=>(b s3 a ex).choose) (te:=λs3 a ex=>(he s3 a ex).choose) j d f (λs3 a ex=>(c s3 a ex).choose_spec.1) (λs3 a ex=>(b s3 a ex).choose_spec.1) (λs3 a ex=>(he s3 a ex).choose_spec.1) h,
  B6 d i e (λs3 a ex=>(c s3 a ex).choose_spec.2) (λs3 a ex=>(b s3 a ex).choose_spec.2) (λs3 a ex=>(he s3 a ex).choose_spec.2)⟩
theorem B5(i:Nat){x:Str}{b e:Pos}(y:X.calm=true)(f:du X N' m scope)(u:qM m g)(hi:PId X tg iter wi)(d:∀s3 a ex,sV (ju X N' scope s3 a ex) tg g)(c:∀s3 a ex,xr (ju X N' scope s3 a ex) ifs tc)
  (he:∀s3 a ex,PD (ju X N' scope s3 a ex) elt te) (z:X.N.Nodup:=by assumption) (l:X.N[i]?=some x:=by rfl) (hx:Loc X.env.scope x:=by first | show Or.inl rfl | show Or.inr rfl) (s:∀x,foldedSetIterable iter X.env x=pure x:=by intro _;rfl)
  (n:swapsWith (.ListComp elt [⟨tg,iter,ifs,0⟩] scope pos) (some (.Name x b)) e.line X.env=pure true:=by rfl)
  (w:X.fn x=true\/X.env.scope.names.lookup x=some .local:=by first | show .inl rfl | show .inr rfl | assumption) :
  PX X (.Assign [.Name x b] (.ListComp elt [⟨tg,iter,ifs,0⟩] scope pos) e) (jr i (fD wi m g tc te)):=by
 obtain⟨ww,q,p⟩:=hi;show⟨_,Ef (g:=λs3 a ex=>(d s3 a ex).choose) (tc:=λs3 a ex=>(c s3 a ex).choose) (te:=λs3 a ex=>(he s3 a ex).choose) z l hx y f q (λs3 a ex=>(d s3 a ex).choose_spec.1) (λs3 a ex=>(c s3 a ex).choose_spec.1) (λs3 a ex=>(he s3 a ex).choose_spec.1) s n w,λj σ F B G H D E k h A=>?_⟩;show B6 f u p (λs3 a ex=>(d s3 a ex).choose_spec.2) (λs3 a ex=>(c s3 a ex).choose_spec.2) (λs3 a ex=>(he s3 a ex).choose_spec.2) j σ F B G H _ _ k h λv C r I x o t=>A.nx _ _ I C x.g (k.put x o) t
theorem wd(i:Nat){x:Str}{b f:Pos}(A:X.calm=true)(j:du X N' m scope)(y:qM m g)(hi:PId X tg iter wi)(d:∀s3 a ex,sV (ju X N' scope s3 a ex) tg g)(c:∀s3 a ex,xr (ju X N' scope s3 a ex) ifs tc)
  (he:∀s3 a ex,PD (ju X N' scope s3 a ex) elt te) (B:X.N.Nodup:=by assumption) (n:X.N[i]?=some x:=by rfl) (hx:Loc X.env.scope x:=by first | show Or.inl rfl | show Or.inr rfl) (u:∀x,foldedSetIterable iter X.env x=pure x:=by intro _;rfl)
  (o:swapsWith (.ListComp elt [⟨tg,iter,ifs,0⟩] scope pos) (some (.Name x b)) f.line X.env=pure true:=by rfl)
  (z:X.fn x=true\/X.env.scope.names.lookup x=some .local:=by first | show .inl rfl | show .inr rfl | assumption) :
  PX X (.Assign [.Name x b] (.ListComp elt [⟨tg,iter,ifs,0⟩] scope pos) f) (eu i (fD wi m g tc te)):=by
 obtain⟨ww,t,s⟩:=hi;show⟨_,Ef (g:=λs3 a ex=>(d s3 a ex).choose) (tc:=λs3 a ex=>(c s3 a ex).choose) (te:=λs3 a ex=>(he s3 a ex).choose) B n hx A j t (λs3 a ex=>(d s3 a ex).choose_spec.1) (λs3 a ex=>(c s3 a ex).choose_spec.1) (λs3 a ex=>(he s3 a ex).choose_spec.1) u o z,λl σ K F G H D E k h C=>?_⟩;show B6 j y s (λs3 a ex=>(d s3 a ex).choose_spec.2) (λs3 a ex=>(c s3 a ex).choose_spec.2) (λs3 a ex=>(he s3 a ex).choose_spec.2) l σ K F G H _ _ k h λv I r L x q w=>?_
 obtain⟨J,e,p,_⟩:=q.freeze x;show C.nx _ _ J I e.g (k.put e (r:=.fz r.val) p) w
end
noncomputable abbrev eA:=List D->(R->Prop)->Prop
def xt(K:J')(n:Nat)(t:eA):Sp:=λd H Q _=>∃G ds b,cO G H/\cA K G d ds/\ds.length=n/\t ds b/\∀v a r c,Ext G H c a->fI K c a H v r->b r->Q v a
noncomputable def uk(N:List Str)(ds:List D):Ev:=ds.map Sl.fz++List.replicate (N.length-ds.length) .un
theorem UP{ds:List D}{l:List Sl}{i:Nat}{s:Sl}(h:gt (ds.map Sl.fz++l) i=s):(∃d,ds[i]?=some d/\s=.fz d)\/(ds.length<=i/\gt l (i-ds.length)=s):=by
 induction ds generalizing i with
 | nil=>show .inr ⟨aZ _,by simpa using h⟩
 | cons d ds c=>
  cases i with
  | zero=>simp only[ax,cg,gt] at h;show .inl ⟨d,rfl,h.symm⟩
  | succ i=>
   simp only[ax,cg,gt] at h;rcases c h with⟨e,b,a⟩ | ⟨b,a⟩
   .exact .inl ⟨e,by simpa using b,a⟩
   show .inr ⟨by simp;ext,?_⟩;rw[aD];rw[show i+1-(ds.length+1)=i-ds.length by ext];show a
theorem SQ{n i:Nat}:gt (List.replicate n Sl.un) i=.un:=by
 induction n generalizing i with
 | zero=>simp[gt]
 | succ n a=>
  cases i with
  | zero=>rfl
  | succ i=>show a
theorem Ks{K:J'}{G H:Hp}{N:List Str}{e:List V}{ds:List D}(s:cO G H)(r:cA K G e ds):eE K G H (uk N ds) (lR N e) G H:=by
 have k:=r.length;have c:∀{i:Nat}{t:Sl},gt (uk N ds) i=t->t≠.un->∃d,ds[i]?=some d/\t=.fz d:=λ{i t} h n=>by
  rcases UP h with h | ⟨_,h⟩
  .exact h
  rw[SQ] at h;show absurd h.symm n
 show⟨.refl s,by simp[lR,uk,k],λi d h=>?_,λi es h=>?_,λi j es fs _ h=>?_,λ_=>none,λi es _ h=>?_,λi o h=>?_⟩
 .obtain⟨d',b,a⟩:=c h (by simp);cases a;obtain⟨v,f,g⟩:=r.get b;have hi:i<e.length:=(ar.mp f).1;show⟨v,?_,g⟩;unfold lR;rw[List.getElem?_append_left (by simpa using hi),aJ,f];rfl
 .obtain⟨d',b,a⟩:=c h (by simp);cases a
 .obtain⟨d',b,a⟩:=c h (by simp);cases a
 .obtain⟨d',b,a⟩:=c h (by simp);cases a
 obtain⟨d',b,a⟩:=c h (by simp);cases a
section
variable{P:Program}{w:World}{K:J'}{mg:Str->Option Value}{base:Heap}
theorem Ed{x a:Str}{st:Stmt}{f:Addr}{j:FuncData}{N ps:List Str}{k:Nat}{t:eA}{T:TX}{o:Value}(F:mY o K x a st f j)(S:cF N ps (cz st))
  (body:∀(d:Value)(A:Around)(outer:List Env)(s:Shared)(H:Hp)(E:XK),eY k (A.deeper (envOfC a (cz st) s.heap.objs.size f d))->pd (qI nH P w K mg base N a (cz st) f d A outer s H E).tR (dD st) T)
  (c:∀(ds:List D)(b:R->Prop),ds.length=ps.length->t ds b->T { nx:=λ_=>b (.fz .non),rt:=b } (uk N ds)):i6 P w K mg base nH (k+1) f j ps (xt K ps.length t):=by
 show F.ok S (λl H Q E h=>?_) (λd A outer s H l Q E n h=>?_)
 .obtain⟨G,ds,b,_,r,g,_⟩:=h;rw[r.length,g]
 obtain⟨G,ds,b,s0,r,g,m,i⟩:=h;obtain⟨tt,p,q⟩:=body d A outer s H E n;show⟨tt,p,q _ _ G H G H _ _ (Ks s0 r) (c ds b g m) ⟨λy σ v u _ e h=>i _ u _ v e.e (gD (J1 _ _)) h,i,λ_ _ _ _ _ _ h=>h.elim,λ_ _ _ _ _ _ h=>h.elim⟩⟩
end
section
variable{X:Cx}{k n:Nat}{f:Addr}{fd:FuncData}{ps:List Str}{t:eA}{x:Str}{p pos:Pos}{e:Expr}{es:List Expr}{ts:jP}
def eF(n:Nat)(t:eA)(ts:jP):TD:=λa Q=>ts a λds=>ds.length=n/\t ds Q
theorem Q7(F:i6 X.prog X.w X.K X.mg X.base nH k f fd ps (xt X.K n t))(j:eY k X.A)(l:X.mg x=some (.ref f))(m:PySem.W.keepIn X.K (.ref f)=true)(u:Binds X.K fd ps [])(ha:mW X (e::es) ts)(o:Gl X x:=by rfl)(i:(x==("__debug__":Str))=false:=by decide)
  (he:starEach (e::es) X.env=(false,eval e X.env)::starEach es X.env:=by rfl) (hpl:(backTo pos (starEach es X.env)).any (·.1)=false:=by rfl):PD X (.Call (.Name x p) (e::es) [] pos) (eF n t ts):=by
 obtain⟨tt,pp,q⟩:=ha;show⟨_,QO F j o l m u .nil Ik pp i he hpl,λb σ C z G H Q P E h k=>q b σ C z G H _ _ E h λI J ds D x rs a=>?_⟩;rw[a9];show⟨D,ds,Q,x.s,rs,a.1,a.2,λv y r B c d g=>k v y r B (x.trans c) (d.iC x.h) g⟩
end
open PySem.StrLaws
noncomputable def kx{a:Type}(xs:List a)(lo hi:Option Int):List a:=(xs.drop (HT.eG xs.length 0 lo)).take (HT.eG xs.length xs.length hi-HT.eG xs.length 0 lo)
noncomputable def rB(z:Str)(lo hi:Option Int):Str:=⟨(kx z.cps.toList lo hi).toArray⟩
theorem vc(v:Int)(n d:Nat):max 0 (min (if v<0 then v+(n:Int) else v) (n:Int))=((HT.eG n d (some v):Nat):Int):=by
 rw[<-HT.mV];by_cases h:v<0
 .rw[if_pos h,if_pos h];ext
 rw[if_neg h,if_neg h];ext
theorem LM(z:Str)(lo hi:Option Int):(Builtin.Str.strSliceIndices lo hi 1 z.length).filterMap (z.cps[·]?)=kx z.cps.toList lo hi:=by
 have f:z.cps.toList.length=z.length:=by simp[Str.length]
 have e:Builtin.Str.strSliceIndices lo hi 1 z.length=sliceRange ((HT.eG z.length 0 lo:Nat):Int) ((HT.eG z.length z.length hi:Nat):Int) 1:=by
  unfold Builtin.Str.strSliceIndices;cases lo with
  | none=>
   cases hi with
   | none=>rfl
   | some v=>simp only[show((1:Int)>0) from by decide,aX,vc v z.length z.length];rfl
  | some u=>
   cases hi with
   | none=>simp only[show((1:Int)>0) from by decide,aX,vc u z.length 0];rfl
   | some v=>simp only[show((1:Int)>0) from by decide,aX,vc v z.length z.length,vc u z.length 0]
 rw[e];unfold kx;rw[f];generalize ha:HT.eG z.length 0 lo=a;generalize g:HT.eG z.length z.length hi=b;have c:b<=z.length:=by rw[<-g];show HT.jW _ _ (az _) _
 have i:a<=z.length:=by rw[<-ha];show HT.jW _ _ (aZ _) _
 by_cases d:a<=b
 .have:=sliced_plain z d c;rw[strSliceIndices_plain d c] at this;rw[<-this];unfold sliceRange;simp only[show((1:Int)>0) from by decide,aX];congr 1
  by_cases h:a<b
  .rw[if_pos (by ext)];rw[show(((b:Int)-(a:Int)+1-1)/1).toNat=b-a by ext];apply List.map_congr_left;intro k _;show((a:Int)+1*(k:Int)).toNat=a+k;ext
  rw[if_neg (by ext),show b-a=0 by ext];rfl
 rw[show b-a=0 by ext,List.take_zero];unfold sliceRange;simp only[show((1:Int)>0) from by decide,aX];rw[if_neg (by ext)];rfl
theorem SN(z:Str)(lo hi:Option Int):Txt.slice z lo hi=rB z lo hi:=by
 unfold Txt.slice rB;split
 .rename_i h;have h':(Builtin.Str.strSliceIndices lo hi 1 z.length).length=z.length:=by simpa using h
  have c:z.cps.toList.length=z.length:=by simp[Str.length]
  have e:=LM z lo hi;have d:(kx z.cps.toList lo hi).length=z.length:=by
   unfold kx;rw[aP,cf,c];have f:Builtin.Str.strSliceIndices lo hi 1 z.length=sliceRange ((HT.eG z.length 0 lo:Nat):Int) ((HT.eG z.length z.length hi:Nat):Int) 1:=by
    unfold Builtin.Str.strSliceIndices;cases lo with
    | none=>
     cases hi with
     | none=>rfl
     | some v=>simp only[show((1:Int)>0) from by decide,aX,vc v z.length z.length];rfl
    | some u=>
     cases hi with
     | none=>simp only[show((1:Int)>0) from by decide,aX,vc u z.length 0];rfl
     | some v=>simp only[show((1:Int)>0) from by decide,aX,vc v z.length z.length,vc u z.length 0]
   rw[f] at h';unfold sliceRange at h';simp only[show((1:Int)>0) from by decide,aX,ae,br] at h';have g:=HT.jW z.length z.length (az _) hi;have i:=HT.jW z.length 0 (aZ _) lo;by_cases a:((HT.eG z.length 0 lo:Nat):Int)<((HT.eG z.length z.length hi:Nat):Int)
   .rw[if_pos a] at h';ext
   rw[if_neg a] at h';simp at h';ext
  apply Str.ext';show z.cps=(kx z.cps.toList lo hi).toArray;have a:kx z.cps.toList lo hi=z.cps.toList:=by
   unfold kx at d ⊢;rw[aP,cf,c] at d;rw[c];have g:=HT.jW z.length z.length (az _) hi;have b:HT.eG z.length 0 lo=0\/z.length=0:=by ext
   rcases b with b | b
   .rw[b,List.drop_zero,Nat.sub_zero];show bh (by ext)
   have:z.cps.toList=[]:=b8 (by ext);rw[this];simp
  rw[a]
 rw[LM]
section
variable{X:Cx}{pos:Pos}{e:Expr}{te:TD}
theorem wC:vK X (λx lo hi H Q=>∃z,x=.str z/\z.length<=sizeLine/\Q (.str (rB z lo hi)) H):=by
 intro m s σ H x v r n lo hi sl Q I a d pl pu h;obtain⟨z,rfl,hz,q⟩:=h;obtain⟨t,rfl⟩:=a;show⟨"str",_,F.slot_str_getitem.lookup,typeIs_str _ _ _,?_⟩;have part:∀{u:Value}{o:Option Int},IsPart u o->∃p:Option (Int×Tok),u=partValue p/\p.map (·.1)=o:=λh=>by
  cases h with
  | none=>show⟨none,rfl,rfl⟩
  | int i t=>show⟨some (i,t),rfl,rfl⟩
 obtain⟨c,rfl,j⟩:=part pl;obtain⟨b,rfl,g⟩:=part pu;obtain⟨o,e,f,hd⟩:=d;show wpAny_getItem_str_slice (l:=c) (u:=b) (st:=none) ⟨o,e,f,hd⟩ rfl ?_;have fin:∀t' k,EP X m σ Q (.str (Txt.slice z lo hi) t') { s with toks:=k }:=λt' k=>⟨.str (rB z lo hi),H,I.tok k,⟨t',by rw[SN]⟩,q⟩
 have hle:=aL (Txt.slice_le z lo hi) hz;subst j g;show post_val_or_str ⟨hle,fin⟩
noncomputable abbrev Bn:=Ev->(Option Int->Prop)->Prop
def Dp(X:Cx)(e:Option Expr)(t:Bn):Prop:=∃tt,PO X e tt/\∀(a:Ev)(σ:St)(d c G H:Hp)(Q:Option Int->Prop)(P:Option Int->Hp->Prop),eE X.K d c a σ G H->t a Q->(∀o b f,Ext G H f b->Q o->P o b)->tt σ H P
def mD:Bn:=λ_ Q=>Q none
def kL(te:TD):Bn:=λa Q=>te a λr=>match r.val with
 | .int i=>Q (some i)
 | _=>False
theorem nM:Dp X none mD:=⟨_,QK,λa σ c b G H Q P E h k=>k none H G (.refl E.e.s) h⟩
theorem lT(h:PD X e te):Dp X (some e) (kL te):=by
 obtain⟨t,p,q⟩:=h;show⟨_,QJ p,λc σ n j G H Q P E h k=>q c σ n j G H _ _ E h λv l r o x f b=>?_⟩;obtain⟨m,d,a,_⟩:=f.freeze x;split at b
 .rename_i i g;rw[g] at a;simp only[Rep] at a;show⟨i,a,k _ l m d b⟩
 show b.elim
def lO(te:TD)(tl b:Bn):TD:=λa Q=>te a λr=>tl a λlo=>b a λhi=>match r.val with
 | .lst ds=>Q (.ow (kx ds lo hi))
 | .str z=>z.length<=sizeLine/\Q (.fz (.str (rB z lo hi)))
 | .tup ds=>¬(HT.eG ds.length 0 lo=0/\HT.eG ds.length ds.length hi=ds.length)/\Q (.fz (.tup (kx ds lo hi)))
 | _=>False
theorem Jz{K:J'}{G:Hp}{xs:List V}{ds:List D}(r:cA K G xs ds)(lo hi:Option Int):cA K G (sZ xs lo hi) (kx ds lo hi):=by
 unfold sZ kx;rw[r.length];show(r.drop _).take _
theorem mN{lo hi:Option Expr}{tl B:Bn}{q:Pos}(he:PD X e te)(S:Dp X lo tl)(T:Dp X hi B):PD X (.Subscript e (.Slice lo hi none q) pos) (lO te tl B):=by
 obtain⟨t1,N,L⟩:=he;obtain⟨Z,q,J⟩:=S;obtain⟨t3,M,I⟩:=T;show⟨_,Sd (uD.or (wC.or O3)) N q M,λm σ w u G H Q P E h k=>L m σ w u G H _ _ E h λv V r G' x F R=>?_⟩;obtain⟨Y,o,D,_⟩:=F.freeze x;show J m σ w u Y V _ _ (E.ext o) R λlo U W n O=>?_
 show I m σ w u W U _ _ ((E.ext o).ext n) O λhi C l A d=>?_
 have b:=(o.trans n).trans A;have c:=(D.mono n.g).mono A.g;split at d
 .rename_i ds i;rw[i] at c;simp only[Rep] at c;obtain⟨a,xs,rfl,t,j⟩:=c;show .inl ⟨a,xs,rfl,(b.s.gq t).sq,λp f=>?_⟩;show k _ _ (.ow _) l (b.trans (.own b.s f)) ⟨p,_,rfl,b.h.free f,b.s.free f,iU,Jz j lo hi⟩ d
 .rename_i z i;rw[i] at c;simp only[Rep] at c;show .inr (.inl ⟨z,c,d.1,k _ _ _ l b (gD (ur _ _ _)) d.2⟩)
 .rename_i ds i;rw[i] at c;simp only[Rep] at c;obtain⟨a,xs,rfl,t,j⟩:=c;show .inr (.inr ⟨a,xs,rfl,b.s.nR t,by rw[j.length];show d.1,λp f=>?_⟩);have y:Ext l C (upd l p (.tup (sZ xs lo hi))) (upd C p (.tup (sZ xs lo hi))):=.new b.s f;show k _ _ (.fz _) _ (b.trans y) ?_ d.2;show Rep X.K _ _ (.tup _);simp only[Rep];show⟨p,_,rfl,iU,(Jz j lo hi).mono y.g⟩
 show d.elim
def mj:eA:=λds Q=>match ds with
 | [.lst es]=>Q (.fz (.int es.length))
 | [.tup es]=>Q (.fz (.int es.length))
 | [.str z]=>z.length<=sizeLine/\Q (.fz (.int z.length))
 | _=>False
theorem oE:rE X (.builtin "len") mj:=by
 show⟨_,jN.or UR,λG H e ds Q P s rs h k=>?_⟩;unfold mj at h;split at h
 .obtain⟨v,rfl,b⟩:=kY rs;simp only[Rep] at b;obtain⟨a,xs,rfl,d,c⟩:=b;show .inl ⟨a,xs,rfl,.inl ((s.gq d).sq),?_⟩;rw[c.length];show k _ _ _ G (.refl s) (gD (kD _ _ _)) h
 .obtain⟨v,rfl,b⟩:=kY rs;simp only[Rep] at b;obtain⟨a,xs,rfl,d,c⟩:=b;show .inl ⟨a,xs,rfl,.inr (s.nR d),?_⟩;rw[c.length];show k _ _ _ G (.refl s) (gD (kD _ _ _)) h
 .obtain⟨v,rfl,b⟩:=kY rs;simp only[Rep] at b;subst b;show .inr ⟨_,rfl,h.1,k _ _ _ G (.refl s) (gD (kD _ _ _)) h.2⟩
 show h.elim
def vS(i:Nat):TD:=λa Q=>match gt a i with
 | .ow ds=>Q (.fz (.int ds.length))
 | _=>False
theorem B4(i:Nat){x:Str}{p b:Pos}(j:X.mg "len"=none)(l:X.N[i]?=some x:=by rfl)(g:oN X.env.scope x:=by first | show Or.inl rfl | show Or.inr (Or.inl rfl) | show Or.inr (Or.inr rfl))(c:Gl X "len":=by rfl)(hd:(x==("__debug__":Str))=false:=by decide)
  (f:(x==("__classdict__":Str))=false:=by decide) (d:starEach [Expr.Name x b] X.env=(false,eval (.Name x b) X.env)::starEach [] X.env:=by rfl):PD X (.Call (.Name "len" p) [.Name x b] [] pos) (vS i):=by
 show⟨_,Ck jN c j boot_len (qO (qe l g hd f) rG d),λq σ v u G H Q P E h k=>?_⟩;unfold vS at h;split at h
 .rename_i ds c;obtain⟨a,xs,o,n,t,r,m⟩:=E.ow i ds c;show⟨_,o,a,xs,rfl,.inl (fH.of n),?_⟩;rw[m.length];show k _ _ _ G (.refl E.e.s) (gD (kD _ _ _)) h
 show h.elim
noncomputable def nJ:List D->Option (List Bool)
 | []=>some []
 | .bl b::r=>(nJ r).map (b::·)
 | _=>none
theorem La:∀{ds:List D}{bs:List Bool},nJ ds=some bs->ds=bs.map D.bl
 | [],bs,h=>by simp[nJ] at h;subst h;rfl
 | .bl b::r,bs,h=>by
  simp only[nJ,Option.map_eq_some_iff] at h;obtain⟨c,a,rfl⟩:=h;rw[La a];rfl
 | .non::r,bs,h=>by simp[nJ] at h
 | .int _::r,bs,h=>by simp[nJ] at h
 | .str _::r,bs,h=>by simp[nJ] at h
 | .tup _::r,bs,h=>by simp[nJ] at h
 | .lst _::r,bs,h=>by simp[nJ] at h
 | .obj _ _::r,bs,h=>by simp[nJ] at h
 | .dic _::r,bs,h=>by simp[nJ] at h
 | .dit _::r,bs,h=>by simp[nJ] at h
 | .exc _::r,bs,h=>by simp[nJ] at h
theorem SM(bs:List Bool):nJ (bs.map D.bl)=some bs:=by
 induction bs with
 | nil=>rfl
 | cons b r a=>simp[nJ,a]
theorem Jy{K:J'}{G:Hp}:∀{bs:List Bool}{a:List V},cA K G a (bs.map D.bl)->a=bs.map V.bl
 | [],[],_=>rfl
 | b::bs,v::a,h=>by
  simp only[ax,cA,Rep] at h;rw[h.1,Jy h.2];rfl
 | [],_::_,h=>by simp only[bQ,cA] at h
 | _::_,[],h=>by simp only[ax,cA] at h
theorem Ru{bs:List Bool}{a:List Value}(h:Vals (bs.map V.bl) a){i:Nat}{v:Value}(c:a[i]?=some v):∃b,bs[i]?=some b/\v=.bool b:=by
 have g:=h.length;have hi:i<a.length:=(ar.mp c).1;have e:i<bs.length:=by rw[ae] at g;ext
 obtain⟨u,d,f⟩:=h.get (i:=i) (x:=V.bl bs[i]) (by simp[e]);rw[c] at d;cases d;show⟨bs[i],by simp[e],f⟩
theorem Q6{s:Shared}{h':Heap}{o:Obj}(a:∀b x,b∉[s.heap.objs.size]->(s.heap.push o).get? b=some x->h'.get? b=some x):∀b x,s.heap.get? b=some x->h'.get? b=some x:=
 λb x e=>a b x (λhm=>by rw[bp.mp hm] at e;show Nat.lt_irrefl _ (aF e)) (aj _ e)
theorem Zf(bs:List Bool):((List.range bs.length).all λi=>(bs[i]?).getD true)=bs.all id:=by
 rw[Bool.eq_iff_iff];simp only[List.all_eq_true,bB,id];constructor
 .intro h b a;obtain⟨i,hi,rfl⟩:=List.mem_iff_getElem.mp a;simpa[hi] using h i hi
 intro h i hi;simpa[hi] using h _ (bK hi)
theorem Q5(bs:List Bool):((List.range bs.length).any λi=>(bs[i]?).getD false)=bs.any id:=by
 rw[Bool.eq_iff_iff];simp only[List.any_eq_true,bB,id];constructor
 .rintro⟨i,hi,h⟩;show⟨bs[i],bK hi,by simpa[hi] using h⟩
 rintro⟨b,a,h⟩;obtain⟨i,hi,rfl⟩:=List.mem_iff_getElem.mp a;show⟨i,hi,by simpa[hi] using h⟩
theorem SK(k:X.calm=true):dY X (.builtin "any") (λxs H Q=>∃(p:Addr)(bs:List Bool),xs=[.ref p]/\fH X.K H p (bs.map V.bl)/\Q (.bl (bs.any id)) H):=by
 intro t s σ H xs us Q I r h;obtain⟨p,bs,rfl,f,q⟩:=h;obtain⟨u,rfl,d⟩:=kM r;cases d;obtain⟨its,a,pl,hz⟩:=I.list f;have m:p<s.heap.objs.size:=by obtain⟨_,_,e,_⟩:=pl;show aF e
 have g:its.length=bs.length:=by rw[<-a.length,ae]
 show call_any_walk (wpAny_pyIter_list pl.isList ?_);show⟨s.heap.objs.size,[s.heap.objs.size,p],[s.heap.objs.size],its.toArray.size,_,_,λi=>(bs[i]?).getD false,rfl,Walks.list (A:=X.A.in1) (I.ok.hd k) _ p (aN m) its.toArray,
  ⟨⟨_,aB _ rfl,rfl,rfl⟩,pl.isList.push _⟩,λi v n o w l c=>?_,λh' tk j=>?_⟩
 .obtain⟨b,e,rfl⟩:=Ru a (i:=i) (v:=v) (by simpa using l);simp only[e,Option.getD_some] at c;show wpAny_truthy_bool c
 rw[aA,g,Q5];show⟨.bl _,H,I.kept (Q6 j),rfl,q⟩
def Ze:eA:=λds Q=>match ds with
 | [.lst es]=>match nJ es with
  | some bs=>Q (.fz (.bl (bs.all id)))
  | none=>False
 | _=>False
def Bw:eA:=λds Q=>match ds with
 | [.lst es]=>match nJ es with
  | some bs=>Q (.fz (.bl (bs.any id)))
  | none=>False
 | _=>False
theorem OA(e:X.calm=true):rE X (.builtin "any") Bw:=by
 show⟨_,SK e,λG H g ds Q P s rs h k=>?_⟩;unfold Bw at h;split at h
 .split at h
  .rename_i es bs f;obtain⟨v,rfl,b⟩:=kY rs;simp only[Rep] at b;obtain⟨a,xs,rfl,d,c⟩:=b;rw[La f] at c;rw[Jy c] at d;show⟨a,bs,rfl,(s.gq d).sq,k _ _ _ G (.refl s) (gD (mq _ _ _)) h⟩
  show h.elim
 show h.elim
end
section
variable{X:Cx}{pos:Pos}{e:Expr}{te:TD}
noncomputable def pH:D->String
 | .non=>"NoneType"
 | .bl _=>"bool"
 | .int _=>"int"
 | .str _=>"str"
 | .tup _=>"tuple"
 | .lst _=>"list"
 | .obj _ _=>"object"
 | .dic _=>"dict"
 | .dit _=>"dict"
 | .exc _=>"object"
noncomputable def xC(t T:String):Bool:=(t==T)||(t=="bool"&&T=="int")
theorem xO{K:J'}{t T:String}(a:t∈["NoneType","bool","int","str","tuple","list"])(b:T∈["bool","int","str","tuple","list"]):PySem.W.kitOne K (.type t) (.type T)=some (xC t T):=by
 simp only[au,bC,or_false] at a b;rcases a with rfl | rfl | rfl | rfl | rfl | rfl<;>rcases b with rfl | rfl | rfl | rfl | rfl<;>(first | rfl | decide | (unfold PySem.W.kitOne PySem.W.kitCls;decide +kernel))
noncomputable def Ir:D->Bool
 | .obj _ _=>false
 | .dic _=>false
 | .dit _=>false
 | .exc _=>false
 | _=>true
theorem Rt{T:String}(f:T∈["bool","int","str","tuple","list"]):dY X (.builtin "isinstance") (λxs H Q=>∃x d,xs=[x,.ty T]/\Rep X.K H x d/\Ir d=true/\Q (.bl (xC (pH d) T)) H):=by
 intro v s σ H xs us Q I r h;obtain⟨x,d,rfl,b,g,q⟩:=h;obtain⟨u,c,rfl,e,rc⟩:=yT r;cases (show c=Value.type T from rc);have fin:∀tk,EP X v σ Q (.bool (xC (pH d) T)) { s with toks:=tk }:=λtk=>⟨.bl _,H,I.tok tk,rfl,q⟩
 cases d with
 | non=>simp only[Rep] at b;subst b;cases (show u=Value.none from e);show PySem.W.kia_one PySem.W.kitx_none I.nE True.intro (xO (by simp) f) (λz=>nomatch z) fin
 | bl y=>simp only[Rep] at b;subst b;cases (show u=Value.bool y from e);show PySem.W.kia_one PySem.W.kitx_bool I.nE True.intro (xO (by simp) f) (λz=>nomatch z) fin
 | int i=>simp only[Rep] at b;subst b;obtain⟨t,j⟩:=(show ∃t,u=Value.int i t from e);cases j;show PySem.W.kia_one PySem.W.kitx_int I.nE True.intro (xO (by simp) f) (λz=>nomatch z) fin
 | str y=>simp only[Rep] at b;subst b;obtain⟨t,j⟩:=(show ∃t,u=Value.str y t from e);cases j;show PySem.W.kia_one PySem.W.kitx_str I.nE True.intro (xO (by simp) f) (λz=>nomatch z) fin
 | tup ds=>
  simp only[Rep] at b;obtain⟨a,xs,rfl,l,_⟩:=b;cases (show u=Value.ref a from e);obtain⟨its,_,k,_⟩:=I.tuple (gR.of l);obtain⟨o,p,m,_⟩:=k;show PySem.W.kia_one PySem.W.kitx_tuple I.nE ⟨o,p,m⟩ (xO (by simp) f) (λz=>nomatch z) fin
 | lst ds=>
  simp only[Rep] at b;obtain⟨a,xs,rfl,l,_⟩:=b;cases (show u=Value.ref a from e);obtain⟨its,_,k,_⟩:=I.list l.sq;obtain⟨o,n,p,m,_⟩:=k;show PySem.W.kia_one PySem.W.kitx_list I.nE ⟨o,p,m⟩ (xO (by simp) f) (λz=>nomatch z) fin
 | obj=>cases g
 | dic=>cases g
 | dit=>cases g
 | exc=>cases g
def DB(T:String)(te:TD):TD:=λa Q=>te a λr=>Ir r.val=true/\Q (.fz (.bl (xC (pH r.val) T)))
theorem PJ{T:String}{a:Str}{p b:Pos}(he:PD X e te)(u:X.mg "isinstance"=none)(m:X.mg a=none)(n:bootBuiltins a=some (.type T))(y:T∈["bool","int","str","tuple","list"]:=by decide)(w:Gl X "isinstance":=by rfl)(i:Gl X a:=by rfl)(o:a≠"__name__":=by decide)
  (hd:(a==("__debug__":Str))=false:=by decide) (d:starEach [e,Expr.Name a b] X.env=(false,eval e X.env)::starEach [Expr.Name a b] X.env:=by rfl) (A:starEach [Expr.Name a b] X.env=(false,eval (.Name a b) X.env)::starEach [] X.env:=by rfl)
  (hpl:(backTo pos (starEach [Expr.Name a b] X.env)).any (·.1)=false:=by rfl):PD X (.Call (.Name "isinstance" p) [e,.Name a b] [] pos) (DB T te):=by
 obtain⟨t,pp,q⟩:=he;show⟨_,Ck (Rt y) w u boot_isinstance (qO pp (qO (Q0 (v:=.ty T) i m n rfl o hd) rG A) d) (by decide) (by decide) d hpl,λg σ C z G H Q P E h k=>q g σ C z G H _ _ E h λv D r F x l f=>?_⟩;obtain⟨B,c,j,_⟩:=l.freeze x;show⟨v,r.val,rfl,j.mono c.s,f.1,k _ _ _ B c (gD (mq _ _ _)) f.2⟩
end
section
variable{P:Program}{w:World}{K:J'}{mg:Str->Option Value}{base:Heap}
structure Known(P:Program)(w:World)(K:J')(mg:Str->Option Value)(base:Heap)(k:Nat)(x:Str)(n:Nat)(t:eA):Prop where
 ex:∃(f:Addr)(fd:FuncData)(ps:List Str),i6 P w K mg base nH k f fd ps (xt K n t)/\mg x=some (.ref f)/\PySem.W.keepIn K (.ref f)=true/\Binds K fd ps []
structure At(K:J')(mg:Str->Option Value)(x:Str)(st:Stmt):Prop where
 ex:∃(f:Addr)(fd:FuncData),Dv K x x st f fd/\mg x=some (.ref f)
theorem Bl{h:Heap}{x:Str}{st:Stmt}{f:Addr}{e:Value}{od i:Option Addr}{g:Array (Option Value)}{kV b pm d ct:Value}(X:K.In h)(G:h.Ns mainGlobals mg)(a:PySem.W.nsIn K mainGlobals x=some (some (.ref f)))
  (l:K.lookup f=some ⟨e,od,.func (PySem.W.fnOf x x (fL st) (dD st) (cz st) .none kV b pm i d ct),g⟩) (c:PySem.W.codeIn K d x=true) (k:PySem.W.keepIn K (.ref f)=true):At K mg x st:=
 ⟨f,_,D4 l c k,PySem.W.mg_of X G a⟩
theorem pY{h:Heap}{x:Str}{u:Value}{z:Str}{t:Tok}(X:K.In h)(G:h.Ns mainGlobals mg)(c:PySem.W.nsIn K mainGlobals x=some (some u))(e:u=.str z t):∃t,mg x=some (.str z t):=⟨t,by rw[PySem.W.mg_of X G c,e]⟩
end
section
variable{X:Cx}{k k' n:Nat}{t:eA}{x:Str}{p pos:Pos}{e:Expr}{es:List Expr}{ts:jP}
theorem fb(C:Known X.prog X.w X.K X.mg X.base k x n t)(b:eY k' X.A)(ha:mW X (e::es) ts)(c:k<=k':=by decide)(d:Gl X x:=by rfl)(a:(x==("__debug__":Str))=false:=by decide)
  (he:starEach (e::es) X.env=(false,eval e X.env)::starEach es X.env:=by rfl) (hpl:(backTo pos (starEach es X.env)).any (·.1)=false:=by rfl):PD X (.Call (.Name x p) (e::es) [] pos) (eF n t ts):=by
 obtain⟨f,fd,ps,F,hm,kp,g⟩:=C.ex;show Q7 F (b.mono c) hm kp g ha d a he hpl
end
noncomputable def Jx(a:Str->Option NameKind)(N N':List Str)(m:List (Option Nat))(scope:Scope):Bool:=
 (scope.kind==.function)&&(m.length==N'.length)&&(scope.names.all λy=>scope.names.lookup y.1==some y.2) &&
 (scope.names.all λy=>y.2 != .free||a y.1==some .cell||a y.1==some .free) &&
 ((m.zip N').all λp=>match p.1 with
   | none=>true
   | some j=>N[j]?==some p.2&&scope.names.lookup p.2==some .free)
theorem du.of{X:Cx}{N':List Str}{m:List (Option Nat)}{scope:Scope}(h:Jx X.env.kindOf X.N N' m scope=true):du X N' m scope:=by
 unfold Jx at h;simp only[Bool.and_eq_true,beq_iff_eq,List.all_eq_true,Bool.or_eq_true,bne_iff_ne,ne_eq] at h;obtain⟨⟨⟨⟨k,g⟩,f⟩,d⟩,c⟩:=h;show⟨k,g,λy a=>f y a,λy a e=>?_,λi j x hm b=>?_⟩
 .rcases d y a with(z | z) | z
  .exact absurd e z
  .exact .inl z
  show .inr z
 have hz:(some j,x)∈m.zip N':=by
  apply aI (i:=i);rw[List.getElem?_zip_eq_some];show⟨hm,b⟩
 have:=c _ hz;simpa using this
theorem Ua{K:J'}{G:Hp}{a:Addr}{ns:List Int}(h:lA K G a (ns.map V.int)):Rep K G (.ref a) (.lst (ns.map D.int)):=by
 simp only[Rep];show⟨a,_,rfl,h,?_⟩;clear h;induction ns with
 | nil=>show cA.nil
 | cons n r b=>show cA.cons (kD _ _ _) b
def DV(n:Nat):eA:=λds Q=>∃ns:List Int,ds=[.lst (ns.map .int)]/\ns.length<=n/\Q (.fz (.bl true))
theorem qi{l:PySem.W.OpenLaw}{n k:Nat}{q:Program}{c:List Str}{R:(Str->Option Value)->Heap->Prop}{y:World->Heap->Prop}{d:DefRec}{K:Params->J'}{x:Str}
  (C:l.most=some n) (U:n<=sizeLine) (S:d.params.defaults=[]) (B:eY k callerA) (I:∀(w:World)(h:Heap),y w h->(K w.params).In h)
  (F:∀(w:World)(mg:Str->Option Value)(fa:Addr)(h:Heap),(K w.params).In h->h.Ns mainGlobals mg->mg d.name=some (.ref fa)->
   ∃fd:FuncData,(∀(s:Shared)(u:Value),BindsTo s fd ⟨[u],[]⟩ [(x,u)])/\∀base:Heap,i6 l.prog w (K w.params) mg base nH k fa fd [x] (xt (K w.params) 1 (DV n))) :
  PySem.W.WalkO q c R y l.row.toRowW d [] (λf i=>PySem.call f i):=by
 show NI.oh C S λw fU de mg Z fa o pm cd doc a i ns G Y ho hd iD uL p hints hlen D=>?_
 have KX:=I w _ Y;obtain⟨fd,E,L⟩:=F w mg fa _ KX G.T.g uL;show Sz KX G.T.g G.T.b G.T.builtins G.T.nolimit D p hints (aL hlen U) B (λbase _ _=>L base) E (λH hO j=>?_) λH e X z=>z
 have J:lA (K w.params) H a (ns.map V.int):=by
  rcases j with j | ⟨o,its,m,t,h2,h3,O,N,M⟩
  .exact .inl j
  have e:=KX a o t;rw[p] at e;cases e;have Q:Data.seq i.toArray _=Data.seq its m:=O;injection Q with P e2
  subst P;show .inr ⟨_,_,t,N,M⟩
 show⟨H,[.lst (ns.map .int)],λr=>r=.fz (.bl true),cO.refl _,cA.cons (Ua J) cA.nil,rfl,⟨ns,rfl,hlen,rfl⟩,λv H' r G' _ A e=>?_⟩;subst e;simpa only[fI,Rep] using A
theorem PH{P:Program}{w:World}{K:J'}{mg:Str->Option Value}{st:Stmt}{N:List Str}{x:Str}{k:Nat}{t:eA}{T:Heap->TX}{fa:Addr}(e:At K mg "law" st)(uL:mg "law"=some (.ref fa))(S:cF N [x] (cz st))
  (d:∀(kV doc pm:Value)(an:Option Addr)(a ct:Value)(us:List Value),us.length=1->bindArgs (PySem.W.fnOf "law" "law" (fL st) (dD st) (cz st) .none kV doc pm an a ct) ⟨us,[]⟩=pure ([x].zip us))
  (body:∀(base:Heap)(f:Addr)(a:Value)(A:Around)(outer:List Env)(s:Shared)(H:Hp)(E:XK),eY k (A.deeper (envOfC "law" (cz st) s.heap.objs.size f a))->pd (qI nH P w K mg base N "law" (cz st) f a A outer s H E).tR (dD st) (T base))
  (b:∀(base:Heap)(ds:List D)(c:R->Prop),ds.length=1->t ds c->T base { nx:=λ_=>c (.fz .non),rt:=c } (uk N ds)) :
  ∃fd:FuncData,(∀(s:Shared)(u:Value),BindsTo s fd ⟨[u],[]⟩ [(x,u)])/\∀base:Heap,i6 P w K mg base nH (k+1) fa fd [x] (xt K 1 t):=by
 obtain⟨f,fd,F,hm⟩:=e.ex;rw[uL] at hm;cases hm;show⟨fd,λs u=>?_,λbase=>Ed F S (body base fa) (b base)⟩;obtain⟨g,od,kV,doc,pm,an,a,ct,h,rfl,lk,i⟩:=F.ex;show .of_eq (d kV doc pm an a ct [u] rfl)
def oC(i:Nat)(t:TX):TX:=λD a=>t D (lZ i a)
theorem xN(d:D):(R.fz d).val=d:=rfl
theorem uj(ds:List D):(R.ow ds).val=.lst ds:=rfl
theorem Iq(d:D):(R.fz d).sl=.fz d:=rfl
theorem Oz(ds:List D):(R.ow ds).sl=.ow ds:=rfl
theorem B3{c:Type}{k:lP}{m:List (Option Nat)}{g:jx}{tc:jU}{te:TD}{a:Ev}{Q:R->Prop}(L:List c)(j:c->D)(f:c->Option D)(hw:∀n:List D->Prop,n (L.map j)->k a n)(s:L.length<=sizeLine)
  (h:∀x∈L,∀(o:D->Prop)(p:Prop),(∀e,f x=some e->o e)->(f x=none->p)->g (j x) (hJ m a) λl=>tc l λb=>if b=true then te l λr=>o r.val else p)
  (q:Q (.ow (L.filterMap f))):fD k m g tc te a Q:=by
 show hw _ ⟨λi acc=>acc=(L.take i).filterMap f,rfl,λi d acc hd ha=>?_,λacc ha=>?_⟩
 .rw[aJ] at hd;cases hx:L[i]? with
  | none=>rw[hx] at hd;cases hd
  | some x=>
   rw[hx] at hd;cases hd;have hi:i<L.length:=(ar.mp hx).1;have e:L.take (i+1)=L.take i++[x]:=by rw[aY,hx];rfl
   have hlen:acc.length<sizeLine:=by
    rw[ha];show Nat.lt_of_le_of_lt (List.length_filterMap_le _ _) ?_;rw[aP];ext
   show h x (aI hx) (λe=>acc.length<sizeLine/\acc++[e]=(L.take (i+1)).filterMap f) (acc=(L.take (i+1)).filterMap f)
    (λz hz=>⟨hlen,by rw[e,List.filterMap_append,ha];simp[hz]⟩) (λhz=>by rw[e,List.filterMap_append,ha];simp[hz])
 dsimp only at ha;rw[ae,bL] at ha;rw[ha];show q
theorem mv{i:Type}{j:lP}{m:List (Option Nat)}{g:jx}{te:TD}{d:Ev}{Q:R->Prop}(L:List i)(c f:i->D)(hw:∀k:List D->Prop,k (L.map c)->j d k)(l:L.length<=sizeLine)
  (h:∀x∈L,∀(b:D->Prop),b (f x)->g (c x) (hJ m d) λo=>te o λr=>b r.val) (q:Q (.ow (L.map f))):fD j m g jq te d Q:=by
 show B3 L c (λx=>some (f x)) hw l (λx hx b s n _=>?_) ?_
 .have:=h x hx b (n _ rfl);simpa[jq] using this
 have e:L.filterMap (λx=>some (f x))=L.map f:=by
  induction L with
  | nil=>rfl
  | cons a r p=>simp
 rw[e];show q
theorem oT{k:Type}{l:lP}{m:List (Option Nat)}{g:jx}{tc:jU}{te:TD}{j:Ev}{Q:R->Prop}(L:List k)(i f:k->D)(p:k->Bool)(hw:∀s:List D->Prop,s (L.map i)->l j s)(n:L.length<=sizeLine)
  (h:∀x∈L,∀(c:D->Prop)(d:Prop),(p x=true->c (f x))->(p x=false->d)->g (i x) (hJ m j) λo=>tc o λb=>if b=true then te o λr=>c r.val else d)
  (q:Q (.ow ((L.filter p).map f))):fD l m g tc te j Q:=by
 show B3 L i (λx=>if p x=true then some (f x) else none) hw n (λx hx c d u h0=>h x hx c d (λz=>u _ (by simp[z])) (λz=>h0 (by simp[z]))) ?_;have e:L.filterMap (λx=>if p x=true then some (f x) else none)=(L.filter p).map f:=by
  clear h n hw q;induction L with
  | nil=>rfl
  | cons a r t=>by_cases z:p a=true<;>simp[z,t]
 rw[e];show q
theorem KR{c:lP}{g:jx}{tb:TX}{D:DE}{b:Ev}(ds:List L2.D)(hw:∀e:List L2.D->Prop,e ds->c b e)(a:Nat->Ev->Prop)(f:a 0 b)
  (turn:∀i d ρ',ds[i]?=some d->a i ρ'->g d ρ' λh=>tb { D with nx:=a (i+1),ct:=a (i+1),bk:=D.nx } h) (fin:∀ρ',a ds.length ρ'->D.nx ρ'):iG c g tb D b:=hw _ ⟨a,f,turn,fin⟩
theorem rL{f:Type}{h:lP}{g:jx}{tb:TX}{D:DE}{c:Ev}(L:List f)(b:f->L2.D)(hw:∀j:List L2.D->Prop,j (L.map b)->h c j)(a:Nat->Ev->Prop)(k:a 0 c)
  (turn:∀i x ρ',L[i]?=some x->a i ρ'->g (b x) ρ' λl=>tb { D with nx:=a (i+1),ct:=a (i+1),bk:=D.nx } l) (fin:∀ρ',a L.length ρ'->D.nx ρ'):iG h g tb D c:=by
 show KR (L.map b) hw a k (λi d ρ' hd e=>?_) (λρ' e=>fin ρ' (by simpa using e));rw[aJ] at hd;cases hx:L[i]? with
 | none=>rw[hx] at hd;cases hd
 | some x=>rw[hx] at hd;cases hd;show turn i x ρ' hx e
theorem uu{g:jx}{tb:TX}{D:DE}{b:Ev}{d:lP}(n:Nat)(hw:∀e:List L2.D->Prop,e ((List.range n).map λ(i:Nat)=>.int (0+i))->d b e)(a:Nat->Ev->Prop)(l:a 0 b)
  (turn:∀(i:Nat) ρ',i<n->a i ρ'->g (.int i) ρ' λm=>tb { D with nx:=a (i+1),ct:=a (i+1),bk:=D.nx } m) (fin:∀ρ',a n ρ'->D.nx ρ'):iG d g tb D b:=by
 show rL (List.range n) (λ(i:Nat)=>.int (0+i)) hw a l (λi x ρ' hx c=>?_) (λρ' c=>fin ρ' (by simpa using c));obtain⟨k,j⟩:=ar.mp hx;have h:i<n:=by simpa using k
 have f:x=i:=by rw[<-j];simp
 subst f;rw[Int.zero_add];show turn x ρ' h c
theorem Xw:(10:Int) ^ Int.toNat 24=1000000000000000000000000:=by decide
theorem Xv:(10:Int) ^ Int.toNat 30=1000000000000000000000000000000:=by decide
theorem PF:rC 10 24=True:=by simp only[rC,eq_iff_iff,iff_true];decide
theorem Pz:rC 10 30=True:=by simp only[rC,eq_iff_iff,iff_true];decide
theorem Eu:100000<=sizeLine:=by decide
section
variable{X:Cx}{pos:Pos}{e:Expr}{te:TD}{es:List Expr}{ts:jP}
def rA(t:TD):TD:=λa Q=>t a λr=>match r.val with
 | .int i=>Q (.fz (.int (-i)))
 | _=>False
theorem vh(h:PD X e te):PD X (.UnaryOp .USub e pos) (rA te):=by
 obtain⟨t,p,q⟩:=h;show⟨_,OL Pb p,λc σ m j G H Q P E h k=>q c σ m j G H _ _ E h λv n r o x f b=>?_⟩;obtain⟨l,d,a,_⟩:=f.freeze x;split at b
 .rename_i i g;rw[g] at a;simp only[Rep] at a;show⟨i,a,k _ _ _ l d (gD (kD _ _ _)) b⟩
 show b.elim
def oR:eA:=λds Q=>match ds with
 | [.lst es]=>Q (.ow es)
 | [.tup es]=>Q (.ow es)
 | _=>False
theorem tG:rE X (.type "list") oR:=by
 show⟨_,UQ,λG H e ds Q P s rs h k=>?_⟩;unfold oR at h;split at h
 .obtain⟨v,rfl,b⟩:=kY rs;simp only[Rep] at b;obtain⟨a,xs,rfl,d,c⟩:=b;show⟨a,xs,rfl,.inl (s.gq d).sq,tK s c h k⟩
 .obtain⟨v,rfl,b⟩:=kY rs;simp only[Rep] at b;obtain⟨a,xs,rfl,d,c⟩:=b;show⟨a,xs,rfl,.inr (s.nR d),tK s c h k⟩
 show h.elim
def Bv:eA:=λds Q=>match ds with
 | [.int i]=>Q (.fz (.int i))
 | [.bl b]=>Q (.fz (.int (if b then 1 else 0)))
 | _=>False
theorem Oy:rE X (.type "int") Bv:=by
 show⟨_,TR,λG H b ds Q P s rs h k=>?_⟩;unfold Bv at h;split at h
 .obtain⟨v,rfl,a⟩:=kY rs;simp only[Rep] at a;subst a;show .inl ⟨_,rfl,k _ _ _ G (.refl s) (gD (kD _ _ _)) h⟩
 .obtain⟨v,rfl,a⟩:=kY rs;simp only[Rep] at a;subst a;show .inr ⟨_,rfl,k _ _ _ G (.refl s) (gD (kD _ _ _)) h⟩
 show h.elim
noncomputable def lS:List D->Option (List Int)
 | []=>some []
 | .int b::r=>(lS r).map (b::·)
 | _=>none
theorem wy:∀{ds:List D}{bs:List Int},lS ds=some bs->ds=bs.map D.int
 | [],bs,h=>by simp[lS] at h;subst h;rfl
 | .int b::r,bs,h=>by
  simp only[lS,Option.map_eq_some_iff] at h;obtain⟨c,a,rfl⟩:=h;rw[wy a];rfl
 | .non::r,bs,h=>by simp[lS] at h
 | .bl _::r,bs,h=>by simp[lS] at h
 | .str _::r,bs,h=>by simp[lS] at h
 | .tup _::r,bs,h=>by simp[lS] at h
 | .lst _::r,bs,h=>by simp[lS] at h
 | .obj _ _::r,bs,h=>by simp[lS] at h
 | .dic _::r,bs,h=>by simp[lS] at h
 | .dit _::r,bs,h=>by simp[lS] at h
 | .exc _::r,bs,h=>by simp[lS] at h
theorem wx(bs:List Int):lS (bs.map D.int)=some bs:=by
 induction bs with
 | nil=>rfl
 | cons b r a=>simp[lS,a]
theorem wc{K:J'}{G:Hp}:∀{bs:List Int}{a:List V},cA K G a (bs.map D.int)->a=bs.map V.int
 | [],[],_=>rfl
 | b::bs,v::a,h=>by
  simp only[ax,cA,Rep] at h;rw[h.1,wc h.2];rfl
 | [],_::_,h=>by simp only[bQ,cA] at h
 | _::_,[],h=>by simp only[ax,cA] at h
theorem Fq{a:List Value}{ns:List Int}(hi:IntsAre a ns):∃xs:Array (Int×Tok),a.toArray=intItems xs/\ns=xs.toList.map (·.1):=by
 obtain⟨xs,e⟩:=hi.allInts.items;show⟨xs,e,by rw[<-hi.numsOf,<-nums_intItems,<-e]⟩
theorem SJ(i:X.calm=true):dY X (.builtin "sum") (λxs H Q=>∃(p:Addr)(ns:List Int),xs=[.ref p]/\fH X.K H p (ns.map V.int)/\Q (.int ns.sum) H):=by
 intro k s σ H xs us Q I r h;obtain⟨p,ns,rfl,f,q⟩:=h;obtain⟨u,rfl,c⟩:=kM r;cases c;obtain⟨its,b,pl,hz⟩:=I.list f;obtain⟨ys,e,d⟩:=Fq (xX b);have a:=pl.isList;rw[e] at a;show sum_intListG (I.ok.hd i) a λh' tk t' g=>?_
 have j:preSum (numAt ys) ys.size=ns.sum:=by
  rw[preSum_eq,bh (by simp),d]
 rw[j];show⟨.int _,H,I.kept g,⟨_,rfl⟩,q⟩
theorem SH(w:X.calm=true):dY X (.builtin "min") (λxs H Q=>∃(p:Addr)(ns:List Int),xs=[.ref p]/\fH X.K H p (ns.map V.int)/\ns≠[]/\∀M,M∈ns->(∀a∈ns,M<=a)->Q (.int M) H):=by
 intro z s σ H xs us Q I r h;obtain⟨p,ns,rfl,m,f,q⟩:=h;obtain⟨u,rfl,k⟩:=kM r;cases k;obtain⟨its,i,pl,hz⟩:=I.list m;obtain⟨ys,e,c⟩:=Fq (xX i);have d:=pl.isList;rw[e] at d;have hsz:0<ys.size:=by
  cases g:ys.toList with
  | nil=>rw[c,g] at f;show absurd rfl f
  | cons a b=>have:ys.toList.length=b.length+1:=by rw[g];rfl
              rw[af] at this;ext
 show min_intList (I.ok.hd w) d hsz λv h' tk l n=>?_
 obtain⟨t,rfl⟩:=intItems_at l;obtain⟨y,x⟩:=argBest_lt (numAt ys) (ys.size-1);show⟨.int _,H,I.kept n,⟨_,rfl⟩,q _ ?_ λa ha=>?_⟩
 .rw[c,numAt_eq];show getD_mem (by rw[ae,af];ext)
 rw[c] at ha;obtain⟨j,o,rfl⟩:=mem_getD ha;rw[ae,af] at o;rw[<-numAt_eq];show x j (by ext)
theorem SG(w:X.calm=true):dY X (.builtin "max") (λxs H Q=>∃(p:Addr)(ns:List Int),xs=[.ref p]/\fH X.K H p (ns.map V.int)/\ns≠[]/\∀M,M∈ns->(∀a∈ns,a<=M)->Q (.int M) H):=by
 intro z s σ H xs us Q I r h;obtain⟨p,ns,rfl,m,f,q⟩:=h;obtain⟨u,rfl,k⟩:=kM r;cases k;obtain⟨its,i,pl,hz⟩:=I.list m;obtain⟨ys,e,c⟩:=Fq (xX i);have d:=pl.isList;rw[e] at d;have hsz:0<ys.size:=by
  cases g:ys.toList with
  | nil=>rw[c,g] at f;show absurd rfl f
  | cons a b=>have:ys.toList.length=b.length+1:=by rw[g];rfl
              rw[af] at this;ext
 show max_intList (I.ok.hd w) d hsz λv h' tk l n=>?_
 obtain⟨t,rfl⟩:=intItems_at l;obtain⟨y,x⟩:=argBest_gt (numAt ys) (ys.size-1);show⟨.int _,H,I.kept n,⟨_,rfl⟩,q _ ?_ λa ha=>?_⟩
 .rw[c,numAt_eq];show getD_mem (by rw[ae,af];ext)
 rw[c] at ha;obtain⟨j,o,rfl⟩:=mem_getD ha;rw[ae,af] at o;rw[<-numAt_eq];show x j (by ext)
def vb:eA:=λds Q=>match ds with
 | [.lst es]=>match lS es with
  | some ns=>Q (.fz (.int ns.sum))
  | none=>False
 | _=>False
theorem yM(e:X.calm=true):rE X (.builtin "sum") vb:=by
 show⟨_,SJ e,λG H g ds Q P s rs h k=>?_⟩;unfold vb at h;split at h
 .split at h
  .rename_i es bs f;obtain⟨v,rfl,b⟩:=kY rs;simp only[Rep] at b;obtain⟨a,xs,rfl,d,c⟩:=b;rw[wy f] at c;rw[wc c] at d;show⟨a,bs,rfl,(s.gq d).sq,k _ _ _ G (.refl s) (gD (kD _ _ _)) h⟩
  show h.elim
 show h.elim
def p6:eA:=λds Q=>match ds with
 | [.lst es]=>match lS es with
  | some ns=>ns≠[]/\∀M,M∈ns->(∀a∈ns,M<=a)->Q (.fz (.int M))
  | none=>False
 | [.int i,.int j]=>Q (.fz (.int (if j<i then j else i)))
 | _=>False
def pC:eA:=λds Q=>match ds with
 | [.lst es]=>match lS es with
  | some ns=>ns≠[]/\∀M,M∈ns->(∀a∈ns,a<=M)->Q (.fz (.int M))
  | none=>False
 | [.int i,.int j]=>Q (.fz (.int (if j>i then j else i)))
 | _=>False
theorem yL(d:X.calm=true):rE X (.builtin "min") p6:=by
 show⟨_,(SH d).or (TU d),λG H l ds Q P s rs h k=>?_⟩;unfold p6 at h;split at h
 .split at h
  .rename_i es bs g;obtain⟨v,rfl,b⟩:=kY rs;simp only[Rep] at b;obtain⟨a,xs,rfl,f,e⟩:=b;rw[wy g] at e;rw[wc e] at f;show .inl ⟨a,bs,rfl,(s.gq f).sq,h.1,λM j i=>k _ _ _ G (.refl s) (gD (kD _ _ _)) (h.2 M j i)⟩
  show h.elim
 .obtain⟨v,u,rfl,b,c⟩:=yO rs;simp only[Rep] at b c;subst b c;show .inr ⟨_,_,rfl,k _ _ _ G (.refl s) (gD (kD _ _ _)) h⟩
 show h.elim
theorem xI(d:X.calm=true):rE X (.builtin "max") pC:=by
 show⟨_,(SG d).or (TV d),λG H l ds Q P s rs h k=>?_⟩;unfold pC at h;split at h
 .split at h
  .rename_i es bs g;obtain⟨v,rfl,b⟩:=kY rs;simp only[Rep] at b;obtain⟨a,xs,rfl,f,e⟩:=b;rw[wy g] at e;rw[wc e] at f;show .inl ⟨a,bs,rfl,(s.gq f).sq,h.1,λM j i=>k _ _ _ G (.refl s) (gD (kD _ _ _)) (h.2 M j i)⟩
  show h.elim
 .obtain⟨v,u,rfl,b,c⟩:=yO rs;simp only[Rep] at b c;subst b c;show .inr ⟨_,_,rfl,k _ _ _ G (.refl s) (gD (kD _ _ _)) h⟩
 show h.elim
noncomputable def nC:List D->Option (List Str)
 | []=>some []
 | .str b::r=>(nC r).map (b::·)
 | _=>none
theorem CG:∀{ds:List D}{bs:List Str},nC ds=some bs->ds=bs.map D.str
 | [],bs,h=>by simp[nC] at h;subst h;rfl
 | .str b::r,bs,h=>by
  simp only[nC,Option.map_eq_some_iff] at h;obtain⟨c,a,rfl⟩:=h;rw[CG a];rfl
 | .non::r,bs,h=>by simp[nC] at h
 | .bl _::r,bs,h=>by simp[nC] at h
 | .int _::r,bs,h=>by simp[nC] at h
 | .tup _::r,bs,h=>by simp[nC] at h
 | .lst _::r,bs,h=>by simp[nC] at h
 | .obj _ _::r,bs,h=>by simp[nC] at h
 | .dic _::r,bs,h=>by simp[nC] at h
 | .dit _::r,bs,h=>by simp[nC] at h
 | .exc _::r,bs,h=>by simp[nC] at h
theorem tN(bs:List Str):nC (bs.map D.str)=some bs:=by
 induction bs with
 | nil=>rfl
 | cons b r a=>simp[nC,a]
theorem Cu{K:J'}{G:Hp}:∀{bs:List Str}{a:List V},cA K G a (bs.map D.str)->a=bs.map V.str
 | [],[],_=>rfl
 | b::bs,v::a,h=>by
  simp only[ax,cA,Rep] at h;rw[h.1,Cu h.2];rfl
 | [],_::_,h=>by simp only[bQ,cA] at h
 | _::_,[],h=>by simp only[ax,cA] at h
theorem K9{K:J'}{G:Hp}(bs:List Str):cA K G (bs.map V.str) (bs.map D.str):=by
 induction bs with
 | nil=>show cA.nil
 | cons b r a=>show cA.cons (ur _ _ _) a
theorem Fp{c:List Str}:∀{us:List Value},Vals (c.map V.str) us->StrsAre us c:=by
 induction c with
 | nil=>
  intro us h;cases h;show .nil
 | cons n r d=>
  intro us h;cases h with
  | cons a b=>
   obtain⟨t,rfl⟩:=a;show .cons _ _ (d b)
theorem EN:∀{a:List Value}{ss:List Str},StrsAre a ss->Vals (ss.map V.str) a
 | _,_,.nil=>.nil
 | _,_,.cons _ _ h=>.cons ⟨_,rfl⟩ (EN h)
theorem o9:dY X (.builtin "sorted") (λxs H Q=>∃(p:Addr)(ss:List Str),xs=[.ref p]/\fH X.K H p (ss.map V.str)/\ss.length<64/\∀c:List Str,c.Perm ss->sortedS c=true->∀l,H l=none->Q (.ref l) (upd H l (.lst (c.map V.str)))):=by
 intro m s σ H xs us Q I r h;obtain⟨p,ss,rfl,g,n,q⟩:=h;obtain⟨u,rfl,f⟩:=kM r;cases f;obtain⟨its,d,pl,hz⟩:=I.list g;have k:its.length=ss.length:=by rw[<-d.length,ae]
 show sorted_strs pl.isList (Fp d) (by ext) λout c a1 a2 j=>?_
 obtain⟨i,he⟩:=sortedAll_at s.heap its out;have hf:H (s.heap.objs.size+1)=none:=I.dU.fresh (cj _);show⟨.ref (s.heap.objs.size+1),_,I.laid (a:=s.heap.objs.size+1) (o:=.lst (c.map V.str)) (t':=s.toks) (λb o e=>sortedAll_old e) (cj _) ?_,rfl,q c a2 j _ hf⟩;show⟨by rw[ae,a2.length_eq];have:=Eu;ext,out.toList,i,EN a1,?_⟩;rw[Array.toArray_toList];show he
theorem T9:dY X (.builtin "sorted") (λxs H Q=>∃(p:Addr)(ns:List Int),xs=[.ref p]/\fH X.K H p (ns.map V.int)/\ns.length<64/\∀c:List Int,c.Perm ns->c.Pairwise (·<=·)->∀l,H l=none->Q (.ref l) (upd H l (.lst (c.map V.int)))):=by
 intro n s σ H xs us Q I r h;obtain⟨p,ss,rfl,i,t,q⟩:=h;obtain⟨u,rfl,g⟩:=kM r;cases g;obtain⟨its,d,pl,hz⟩:=I.list i;have m:its.length=ss.length:=by rw[<-d.length,ae]
 show sorted_ints pl.isList (xX d) (by ext) λout f a1 a2 k=>?_
 obtain⟨j,he⟩:=sortedAll_at s.heap its out;have hf:H (s.heap.objs.size+1)=none:=I.dU.fresh (cj _);show⟨.ref (s.heap.objs.size+1),_,I.laid (a:=s.heap.objs.size+1) (o:=.lst (f.map V.int)) (t':=s.toks) (λb o e=>sortedAll_old e) (cj _) ?_,rfl,q f a2 k _ hf⟩;show⟨by rw[ae,a2.length_eq];have:=Eu;ext,out.toList,j,ER a1,?_⟩;rw[Array.toArray_toList];show he
def v7:eA:=λds Q=>match ds with
 | [.lst es]=>match nC es with
  | some ss=>ss.length<64/\∀b:List Str,b.Perm ss->sortedS b=true->Q (.ow (b.map D.str))
  | none=>match lS es with
   | some ns=>ns.length<64/\∀a:List Int,a.Perm ns->a.Pairwise (·<=·)->Q (.ow (a.map D.int))
   | none=>False
 | _=>False
theorem SF{K:J'}{G:Hp}(bs:List Int):cA K G (bs.map V.int) (bs.map D.int):=by
 induction bs with
 | nil=>show cA.nil
 | cons b r a=>show cA.cons (kD _ _ _) a
theorem KQ(_:X.calm=true):rE X (.builtin "sorted") v7:=by
 show⟨_,o9.or T9,λG H j ds Q P s rs h k=>?_⟩;unfold v7 at h;split at h
 .split at h
  .rename_i es bs i;obtain⟨v,rfl,b⟩:=kY rs;simp only[Rep] at b;obtain⟨a,xs,rfl,e,d⟩:=b;rw[CG i] at d;rw[Cu d] at e;show .inl ⟨a,bs,rfl,(s.gq e).sq,h.1,λc g f=>tK s (K9 c) (h.2 c g f) k⟩
  split at h
  .rename_i es _ bs i;obtain⟨v,rfl,b⟩:=kY rs;simp only[Rep] at b;obtain⟨a,xs,rfl,e,d⟩:=b;rw[wy i] at d;rw[wc d] at e;show .inr ⟨a,bs,rfl,(s.gq e).sq,h.1,λc g f=>tK s (SF c) (h.2 c g f) k⟩
  show h.elim
 show h.elim
def Ds(X:Cx)(f:String)(o:D->List D->(R->Prop)->Prop):Prop:=∃r,NG X f r/\∀(G H:Hp)(x:V)(d:D)(b:List V)(ds:List D)(Q:R->Prop)(P:VK),cO G H->Rep X.K G x d->cA X.K G b ds->o d ds Q->
 (∀v a c e,Ext G H e a->fI X.K e a H v c->Q c->P v a)->r x b H P
def dM(T:String)(o:D->List D->(R->Prop)->Prop)(te:TD)(ts:jP):TD:=λa Q=>te a λr=>pH r.val=T/\ts a λds=>o r.val ds Q
theorem Ql{K:J'}{G H:Hp}{x:V}{d:D}{T:String}(s:cO G H)(r:Rep K G x d)(h:pH d=T)(b:T="list"\/T="str"):F2 K T x H:=by
 cases d with
 | str z=>simp only[Rep] at r;subst r;show h.symm
 | lst ds=>
  simp only[Rep] at r;obtain⟨a,xs,rfl,c,_⟩:=r;show .inl ⟨h.symm,xs,(s.gq c).sq⟩
 | non=>subst h;rcases b with h | h<;>simp[pH] at h
 | bl=>subst h;rcases b with h | h<;>simp[pH] at h
 | int=>subst h;rcases b with h | h<;>simp[pH] at h
 | tup=>subst h;rcases b with h | h<;>simp[pH] at h
 | obj=>subst h;rcases b with h | h<;>simp[pH] at h
 | dic=>subst h;rcases b with h | h<;>simp[pH] at h
 | dit=>subst h;rcases b with h | h<;>simp[pH] at h
 | exc=>subst h;rcases b with h | h<;>simp[pH] at h
theorem vZ{T d:String}{name:Str}{j:Pos}{a:Expr}{o:D->List D->(R->Prop)->Prop}(U:Ds X d o)(V:T="list"\/T="str")(K:PlainAttrs T)(slot:Slot T name d)(GL:typeOf (.builtin d)=pure (.type "method_descriptor"))
  (he:PD X e te) (ha:mW X (a::es) ts) (w:attributeBase e name X.env (eval e X.env)=eval e X.env:=by rfl)
  (p:((backTo pos (starEach (a::es) X.env)).all (λx=>!x.1)&&(backToKw pos (keywordEach [] X.env)).all (λx=>x.1.isSome)
   && decide ((a::es).length+([]:List Keyword).length+(if ([]:List Keyword).isEmpty then 0 else 1)<30))=true:=by rfl)
  (y:(j.endLine==pos.line)=true:=by rfl) (O:starEach (a::es) X.env=(false,eval a X.env)::starEach es X.env:=by rfl) (N:(backTo pos (starEach es X.env)).any (·.1)=false:=by rfl) :
  PD X (.Call (.Attribute e name j) (a::es) [] pos) (dM T o te ts):=by
 obtain⟨r,S,C⟩:=U;obtain⟨t1,M,J⟩:=he;obtain⟨t2,L,I⟩:=ha;show⟨_,yS K slot GL S M L w p y O N,λf σ n m G H Q P E h k=>J f σ n m G H _ _ E h λv H' B G' x z l=>?_⟩;obtain⟨G2,c,i,_⟩:=z.freeze x;show⟨Ql c.s i l.1 V,I f σ n m G2 H' _ _ (E.ext c) l.2 λu H3 ds G3 b rs W=>?_⟩;show C G3 H3 v B.val u ds Q P b.s (i.mono b.g) rs W λt Z A G4 q Y F=>k t Z A G4 ((c.trans b).trans q) (Y.iC (c.trans b).h) F
noncomputable def qG(d:D)(ds:List D):Nat:=ds.countP λe=>eC e d
def BZ:D->List D->(R->Prop)->Prop:=λd ds Q=>match d,ds with
 | .lst es,[x]=>eR 8 x/\(∀e∈es,eR 8 e)/\Q (.fz (.int (qG x es)))
 | _,_=>False
theorem Jw{f:List (Addr×Obj)}{c:St}{H:Hp}{s:Shared}(I:Inv X f c H s){d:D}:∀{es:List D}{b:List V}{us:List Value},(∀e∈es,eR 8 e)->Vals b us->cA X.K H b es->us.countP (nG X H d)=qG d es
 | [],_,_,_,a,re=>by
  cases a
  .rfl
  simp only[cA] at re
 | e::es,_,_,h,a,re=>by
  cases a with
  | nil=>simp only[cA] at re
  | cons r t=>
   simp only[cA] at re;unfold qG;rw[List.countP_cons,List.countP_cons,D8 I (h e (by simp)) r re.1,Jw I (λx hx=>h x (by simp[hx])) t re.2];rfl
theorem Qk(B:X.A.units+64<cLine):Ds X "list.count" BZ:=by
 show⟨λx c H Q=>∃p d es ws y,x=.ref p/\c=[y]/\fH X.K H p ws/\eR 8 d/\(∀e∈es,eR 8 e)/\Rep X.K H y d/\cA X.K H ws es/\Q (.int (qG d es)) H,λD s σ H x xs v us Q I b rs h=>?_,λG H x d c ds Q P s b rs h k=>?_⟩
 .obtain⟨p,d,es,ws,y,rfl,rfl,r,hd,he,o,re,q⟩:=h;cases b;obtain⟨u,rfl,m⟩:=kM rs;obtain⟨its,f,pl,hz⟩:=I.list r;obtain⟨⟨cls,z,data,sl⟩,n,g,i,C,j⟩:=id pl;simp only at i j;subst i j;show call_meets PySem.F.slot_list_count ⟨_,g,rfl⟩ PySem.F.entry_list_count (PySem.F.args_list_count_2 _ _) (SeqAt.list_countAt p its.toArray n z sl u (nG X H d)) ⟨g,zd (A:=X.A.in1) I hd (by show X.A.units+1+8<cLine;ext) o m he f re,?_⟩;rw[show its.toArray.toList=its from rfl,Jw I he f re];show⟨.int _,H,I.tok _,⟨_,rfl⟩,q⟩
 unfold BZ at h;split at h
 .obtain⟨y,rfl,l⟩:=kY rs;simp only[Rep] at b;obtain⟨a,xs,rfl,w,t⟩:=b;show⟨a,_,_,xs,y,rfl,rfl,(s.gq w).sq,h.1,h.2.1,l.mono s,t.mono s,k _ _ _ G (.refl s) (gD (kD _ _ _)) h.2.2⟩
 show h.elim
def tq:D->List D->(R->Prop)->Prop:=λd ds Q=>match d,ds with
 | .str x,[.lst es]=>match nC es with
  | some ys=>(ys.map (·.length)).sum+ys.length*x.length<=16777216/\Q (.fz (.str (Txt.join x ys)))
  | none=>False
 | _,_=>False
theorem BY:Ds X "str.join" tq:=by
 show⟨λx e H Q=>∃(z:Str)(p:Addr)(ys:List Str),x=.str z/\e=[.ref p]/\fH X.K H p (ys.map V.str)/\(ys.map (·.length)).sum+ys.length*z.length<=16777216/\Q (.str (Txt.join z ys)) H,λm s σ H x xs v us Q I b rs h=>?_,λG H x d e ds Q P s b rs h k=>?_⟩
 .obtain⟨z,p,ys,rfl,rfl,l,hz,q⟩:=h;obtain⟨t,rfl⟩:=b;obtain⟨u,rfl,i⟩:=kM rs;cases i;obtain⟨its,c,pl,_⟩:=I.list l;show join_list pl.isList (by simpa using Fp c) hz λt' k=>⟨.str _,H,I.tok _,⟨_,rfl⟩,q⟩
 unfold tq at h;split at h
 .split at h
  .rename_i z es ys j;obtain⟨v,rfl,c⟩:=kY rs;simp only[Rep] at c b;obtain⟨a,xs,rfl,g,f⟩:=c;rw[CG j] at f;rw[Cu f] at g;show⟨_,a,ys,b,rfl,(s.gq g).sq,h.1,k _ _ _ G (.refl s) (gD (ur _ _ _)) h.2⟩
  show h.elim
 show h.elim
end
theorem LK{prog:Program}{w:World}{A:Around}{E:Value->Shared->Prop}{d l:Addr}{a:Array Value}(m:l≠d) :
  ∀(n i:Nat)(s:Shared)(Q:List Value->Shared->Prop),s.heap.IsListIter d l i->s.heap.IsList l a->i+n<=a.size->
   (∀h':Heap,h'.IsListIter d l (i+n)->Heap.SameBut d s.heap h'->Q ((a.toList.drop i).take n) { s with heap:=h' })->wpAny (model prog w) A (draw (.ref d) n) Q E s
 | 0,i,s,Q,st,g,t,q=>by
  rw[draw.eq_1];show ao (by have:=q s.heap st ⟨rfl,λ_ _=>rfl⟩;simpa using this)
 | n+1,i,s,Q,st,g,t,q=>by
  rw[draw.eq_2];have hi:i<a.size:=by ext
  show aa (wpAny_pyNext_list_item st g (x:=a[i]) (by simp[hi]) λk p f=>?_);dsimp only;have r:k.IsList l a:=by
   obtain⟨o,e,c⟩:=g;show⟨o,(f.2 l m).trans e,c⟩
  show aa (bJ (LK m n (i+1) { s with heap:=k } _ p r (by ext) λu v h=>ao ?_));have:=q u (by rw[show i+(n+1)=i+1+n by ext];show v) ⟨h.1.trans f.1,λb j=>(h.2 b j).trans (f.2 b j)⟩;have e:(a.toList.drop i).take (n+1)=a[i]::(a.toList.drop (i+1)).take n:=by
   rw[bN (by simpa using hi)];simp
  rw[e] at this;show this
theorem W0{prog:Program}{w:World}{A:Around}{E:Value->Shared->Prop}{s:Shared}{l:Addr}{a:Array Value}{Q:List Value->Shared->Prop}(hd:A.handled=none)(d:s.heap.IsList l a)
  (q:∀h':Heap,Heap.ExtBut s.heap.objs.size s.heap h'->Q a.toList { s with heap:=h' }):wpAny (model prog w) A (unpackItems (.ref l) a.size none) Q E s:=by
 unfold unpackItems;have i:l<s.heap.objs.size:=by obtain⟨o,e,_⟩:=d;show aF e
 have ty:s.TypeIs (.ref l) "list":=by obtain⟨o,e,c,_⟩:=d;show⟨o,e,c⟩
 show aa ?_;unfold notIterableAtAll;show aa (wpAny_specialOf ty F.slot_list_iter.lookup ?_);rw[if_pos (show((some (Value.builtin "list.__iter__")).isSome=true) from rfl)];show ao ?_;rw[if_neg aW];show aa (bJ (wpAny_pyIter_list d ?_));dsimp only;have g:(s.heap.push { cls:=Value.type "list_iterator",data:=Data.fields #[Value.ref l,Value.int 0 0] }).IsList l a:=by
  obtain⟨o,e,c⟩:=d;show⟨o,aj _ e,c⟩
 show aa (bJ (LK (aN i) a.size 0 _ _ ⟨_,aB _ rfl,rfl,rfl⟩ g (by ext) λk n f=>?_));have p:k.IsList l a:=by
  obtain⟨o,e,c⟩:=g;show⟨o,(f.2 l (aN i)).trans e,c⟩
 have el:List.take a.size (List.drop 0 a.toList)=a.toList:=by rw[List.drop_zero,show a.size=a.toList.length by simp,bL]
 rw[el,if_neg (by simp)];show aa (bJ (wpAny_pyNext_list_end hd n p (by simp) λj m=>?_));rw[if_neg (by simp)];show ao (q j λb o h e=>m b o h ?_);rw[f.2 b h];show aj _ e
section
variable{X:Cx}{pos:Pos}
def NU(K:J')(n:Nat)(t:uY):TG:=λv σ H Q=>∃a xs,v=.ref a/\fH K H a xs/\xs.length=n/\t xs σ H Q
theorem Qj{es:List Expr}{k:Nat}{t:uY}{n:Nat}(l:X.calm=true)(h:yA X es t)
  (i:(assignEach es X.env).length=n:=by rfl) (f:(assignEach es X.env).findIdx? (·.1)=none:=by rfl):PG X (.Tuple es k pos) (NU X.K n t):=by
 intro d s σ H v u Q I r hw;obtain⟨a,xs,m,g,j,hw⟩:=hw;subst m;cases r;obtain⟨its,c,pl,hz⟩:=I.list g;rw[assign_Tuple];show aa (wpAny_standAt ?_);unfold unpack;have hlen:(assignEach es X.env).length=its.toArray.size:=by rw[i,<-j,c.length];simp
 rw[hlen,f];show aa (bJ (W0 (I.ok.hd l) pl.isList λh' hx=>?_));have p:Inv X d σ H { s with heap:=h' }:=I.kept (t':=s.toks) λb o e=>hx b o (aN (aF e)) e
 show h d _ σ H xs _ Q p (by simpa using c) hw
def xB(n:Nat)(t:p7):jx:=λd a Q=>match d with
 | .lst ds=>ds.length=n/\t ds a Q
 | _=>False
theorem Ec{es:List Expr}{k:Nat}{t:p7}{n:Nat}(l:X.calm=true)(h:yE X es t)(j:(assignEach es X.env).length=n:=by rfl)(g:(assignEach es X.env).findIdx? (·.1)=none:=by rfl):sV X (.Tuple es k pos) (xB n t):=by
 obtain⟨t1,f,c⟩:=h;show⟨_,Qj l f j g,λb σ o m G H d v Q P E r h k=>?_⟩;unfold xB at h;split at h
 .simp only[Rep] at r;obtain⟨a,xs,rfl,i,rs⟩:=r;show⟨a,xs,rfl,(E.e.s.gq i).sq,by rw[rs.length];show h.1,c b σ o m G H _ xs Q P E rs h.2 k⟩
 show h.elim
end
theorem Rr{acc:List Int}{k:Int}:∀a,a∈step_dedup acc k↔a∈acc\/a=k:=by
 intro a;unfold step_dedup;split
 .rename_i h;constructor
  .exact .inl
  rintro(h' | rfl)
  .exact h'
  simpa using h
 simp
theorem Uv{acc:List Int}{k:Int}(h:acc.Nodup):(step_dedup acc k).Nodup:=by
 unfold step_dedup;split
 .exact h
 rename_i c;rw[List.nodup_append];show⟨h,by simp,λa ha b d=>?_⟩;have:b=k:=by simpa using d
 subst this;rintro rfl;show c (by simpa using ha)
theorem Uu(l acc:List Int)(h:acc.Nodup):(l.foldl step_dedup acc).Nodup/\∀a,a∈l.foldl step_dedup acc↔a∈acc\/a∈l:=by
 induction l generalizing acc with
 | nil=>show⟨h,λa=>by simp⟩
 | cons k r b=>
  obtain⟨d,c⟩:=b (step_dedup acc k) (Uv h);show⟨d,λa=>?_⟩;rw[List.foldl_cons,c a,Rr a,au,or_assoc]
theorem U1(ns:List Int):firstMet (λi=>ns.getD i 0) ns.length=ns.foldl step_dedup []:=by
 unfold firstMet;congr 1
 apply List.ext_getElem
 .simp
 intro i b a;simp[List.getD,a]
section
variable{X:Cx}{pos:Pos}{e:Expr}{te:TD}{es:List Expr}{ts:jP}
noncomputable def DY(ns:List Int):List Int:=ns.foldl step_dedup []
theorem SE(k:X.calm=true):dY X (.type "set") (λxs H Q=>∃(p:Addr)(ns:List Int),xs=[.ref p]/\fH X.K H p (ns.map V.int)/\ns.length<4000/\∀q,H q=none->∀S:Int->Bool,Q (.ref q) (upd H q (.set S (DY ns).length))):=by
 intro l s σ H xs us Q I r h;obtain⟨p,ns,rfl,i,hsz,q⟩:=h;obtain⟨u,rfl,g⟩:=kM r;cases g;obtain⟨its,c,pl,hz⟩:=I.list i;have f:its.toArray.size=ns.length:=by rw[aA,<-c.length,ae]
 show call_set_list (I.ok.hd k) pl.isList (by simpa using xX c) (by rw[f];have:scanBound=4096:=(by decide);ext) λh' tk d j=>?_
 have hf:H s.heap.objs.size=none:=I.dU.fresh (az _);rw[f] at d;show⟨.ref s.heap.objs.size,_,I.laid (a:=s.heap.objs.size) (t':=tk) (λb o e=>j b o (aF e) e) (az _) (o:=.set _ _) d,rfl,?_⟩;rw[U1];show q _ hf _
theorem SD:dY X (.builtin "len") (λxs H Q=>∃(p:Addr)(S:Int->Bool)(n:Nat),xs=[.ref p]/\H p=some (.set S n)/\Q (.int n) H):=by
 intro l s σ H xs us Q I r h;obtain⟨p,S,n,rfl,b,q⟩:=h;obtain⟨u,rfl,a⟩:=kM r;cases a;obtain⟨o,es,ep,t,g,f,e,k,j,i,d,rfl⟩:=(show s.heap.SetOf (intKind X.prog X.w) p S n from I.dU p _ b)
 show call_len_set g f e d ?_ ⟨.int _,H,I.tok _,⟨_,rfl⟩,q⟩;have:scanBound=4096:=by decide
 have c:es.size<4096:=by ext
 show Int.ofNat_lt.mpr (Nat.lt_trans c (by decide))
theorem K8:bootBuiltins "set"=some (.type "set"):=by rfl
def xW:eA:=λds Q=>match ds with
 | [.lst es]=>match lS es with
  | some ns=>ns.length<4000/\∀l:List Int,l.Nodup->(∀k,k∈l↔k∈ns)->Q (.fz (.int l.length))
  | none=>False
 | _=>False
theorem K7{r c d:Pos}(y:X.calm=true)(n:X.mg "len"=none)(u:X.mg "set"=none)(ha:mW X [e] ts)(C:Gl X "len":=by rfl)(m:Gl X "set":=by rfl)
  (he:starEach [e] X.env=(false,eval e X.env)::starEach [] X.env:=by rfl) (f:starEach [.Call (.Name "set" c) [e] [] d] X.env=(false,eval (.Call (.Name "set" c) [e] [] d) X.env)::starEach [] X.env:=by rfl):PD X (.Call (.Name "len" r) [.Call (.Name "set" c) [e] [] d] [] pos) (eW xW ts):=by
 obtain⟨t,pp,q⟩:=ha;show⟨_,Ck SD C n boot_len (qO (x8 (SE y) m u K8 pp (by decide) (by decide) he rfl) rG f) (by decide) (by decide) f rfl,λl σ A z G H Q P E h k=>?_⟩;show q l σ A z G H _ _ E h λD F ds B x rs b=>?_
 unfold xW at b;split at b
 .split at b
  .rename_i es ns w;obtain⟨v,rfl,g⟩:=kY rs;simp only[Rep] at g;obtain⟨a,xs,rfl,j,i⟩:=g;rw[wy w] at i;rw[wc i] at j;show⟨a,ns,rfl,(x.s.gq j).sq,b.1,λp o S=>⟨p,S,_,rfl,iU,?_⟩⟩;obtain⟨f1,f2⟩:=Uu ns [] List.nodup_nil;show k _ _ _ B (x.trans (.own x.s o)) (gD (kD _ _ _)) (b.2 (DY ns) f1 λk=>by rw[DY,f2];simp)
  show b.elim
 show b.elim
theorem dG.look{K:J'}{H:Hp}{f:Str}:∀{a:List (Str×V)}{fs:List (Str×D)}{d:D},dG K H a fs->fs.lookup f=some d->∃v,a.lookup f=some v/\Rep K H v d
 | [],[],d,_,h=>by simp at h
 | (x,v)::a,(y,d')::fs,d,r,h=>by
  simp only[dG] at r;obtain⟨⟨rfl,e⟩,c⟩:=r;rw[List.lookup_cons] at h ⊢;cases b:f==x with
  | true=>rw[b] at h;cases h;show⟨v,rfl,e⟩
  | false=>rw[b] at h;show dG.look c h
 | [],_::_,_,r,_=>by simp only[dG] at r
 | _::_,[],_,r,_=>by simp only[dG] at r
theorem KP{f:Str}:∀{fs:List (Str×D)}{d:D},fs.lookup f=some d->∃p∈fs,p.1=f
 | [],d,h=>by simp at h
 | (y,d')::fs,d,h=>by
  rw[List.lookup_cons] at h;cases a:f==y with
  | true=>show⟨(y,d'),by simp,(beq_iff_eq.mp a).symm⟩
  | false=>
   rw[a] at h;obtain⟨p,c,b⟩:=KP h;show⟨p,by simp[c],b⟩
def fK(f:Str)(te:TD):TD:=λa Q=>te a λr=>match r.val with
 | .obj _ fs=>∃d,fs.lookup f=some d/\Q (.fz d)
 | _=>False
theorem gm{f:Str}(he:PD X e te)(n:attributeBase e f X.env (eval e X.env)=eval e X.env:=by rfl):PD X (.Attribute e f pos) (fK f te):=by
 obtain⟨t,p,q⟩:=he;show⟨_,O9 p n,λi σ I D G H Q P E h k=>q i σ I D G H _ _ E h λv K r L x j c=>?_⟩;obtain⟨F,g,b,_⟩:=j.freeze x;split at c
 .rename_i J fs A;rw[A] at b;simp only[Rep] at b;obtain⟨a,C,B,z,rfl,y,w,u,o⟩:=b;obtain⟨d,hd,c⟩:=c;obtain⟨v,l,b⟩:=o.look hd;obtain⟨pr,m,rfl⟩:=KP hd;show⟨a,C,B,z,v,rfl,g.s _ _ y,w.cls,u pr m,l,k _ _ _ F g (gD b) c⟩
 show c.elim
noncomputable def xA(f:Str)(v:D):List (Str×D)->List (Str×D)
 | []=>[(f,v)]
 | (g,x)::r=>if g=f then(g,v)::r else(g,x)::xA f v r
theorem dG.put{K:J'}{H:Hp}{f:Str}{v:V}{d:D}(a:Rep K H v d):∀{b:List (Str×V)}{fs:List (Str×D)},dG K H b fs->dG K H (ml f v b) (xA f d fs)
 | [],[],_=>by simp only[ml,xA,dG,and_true,true_and];show a
 | (x,u)::b,(y,d')::fs,r=>by
  simp only[dG] at r;obtain⟨⟨rfl,e⟩,c⟩:=r;simp only[ml,xA];split
  .simp only[dG,true_and];show⟨a,c⟩
  simp only[dG,true_and];show⟨e,dG.put a c⟩
 | [],_::_,r=>by simp only[dG] at r
 | _::_,[],r=>by simp only[dG] at r
theorem dG.length{K:J'}{H:Hp}:∀{a:List (Str×V)}{fs:List (Str×D)},dG K H a fs->a.length=fs.length
 | [],[],_=>rfl
 | (x,u)::a,(y,d')::fs,r=>by
  simp only[dG] at r;simp[dG.length r.2]
 | [],_::_,r=>by simp only[dG] at r
 | _::_,[],r=>by simp only[dG] at r
structure Making(K:J')(C:Addr)(x dx:Addr)(G0 H0:Hp)(ρ:Ev)(σ:St)(G H:Hp)(fs:List (Str×D))(gs:List (Str×V)):Prop where
 e:eE K G0 H0 ρ σ G H
 sl:σ[0]?=some (some (.ref x))
 hx:H x=some (.ins C dx gs)
 sF:H dx=some (.own x)
 gx:G x=none
 Be:G dx=none
 r:dG K G gs fs
theorem Making.ext{K:J'}{C x d:Addr}{j f:Hp}{b:Ev}{a:St}{G H k i:Hp}{fs:List (Str×D)}{c:List (Str×V)}(M:Making K C x d j f b a G H fs c)(y:Ext G H k i):Making K C x d j f b a k i fs c:=
 ⟨M.e.ext y,M.sl,y.h _ _ M.hx,y.h _ _ M.sF,y.n _ M.gx (by rw[M.hx];show nofun),y.n _ M.Be (by rw[M.sF];show nofun),dG.mono y.g _ _ M.r⟩
noncomputable abbrev vJ:=Ev->List (Str×D)->(List (Str×D)->Prop)->Prop
def Dq(X:Cx)(C:Addr)(h:List Stmt)(t:vJ):Prop:=∃tt,pf X h tt/\∀(x b:Addr)(a:Ev)(σ:St)(f c G H:Hp)(fs:List (Str×D))(j:List (Str×V))(Q:List (Str×D)->Prop)(E:Ends),c x=none->c b=none->b≠x->(∀i o,gt a i≠.ov o)->
 Making X.K C x b f c a σ G H fs j->t a fs Q->(∀d l e g k,Making X.K C x b f c a d l e g k->Q g->E.nx d e)->tt E σ H
def yD:vJ:=λ_ fs Q=>Q fs
def oB(f:Str)(te:TD)(u:vJ):vJ:=λa fs Q=>te a λr=>fs.length<1000/\u a (xA f r.val fs) Q
theorem JO{C:Addr}:Dq X C [] yD:=⟨_,JS,λx c b σ e d G H fs a Q E _ _ _ _ M h k=>k σ G H fs a M h⟩
theorem qd{C:Addr}{f x:Str}{t q:Pos}{m:List Stmt}{u:vJ}(c:vM X.K C)(n:dg X.K C f)(he:PD X e te)(W:Dq X C m u)(Y:X.N[0]?=some x:=by rfl)(U:oN X.env.scope x:=by first | show Or.inl rfl | show Or.inr (Or.inl rfl) | show Or.inr (Or.inr rfl))
  (V:swapsWith e (some (.Attribute (.Name x t) f q)) pos.line X.env=pure false:=by rfl) (hd:(x==("__debug__":Str))=false:=by decide) (T:(x==("__classdict__":Str))=false:=by decide) :
  Dq X C (.Assign [.Attribute (.Name x t) f q] e pos::m) (oB f te u):=by
 obtain⟨t1,h1,R⟩:=he;obtain⟨t2,Z,P⟩:=W;show⟨_,KG (O8 (qe Y U hd T) h1 V) Z,λx A a σ F D G H fs z Q E l I j d M h k=>?_⟩;show R a σ F D G H _ _ M.e h λv H' r G' y O w=>?_
 obtain⟨G2,J,L,_⟩:=O.freeze y;have M2:=M.ext J;show⟨_,M.sl,x,C,A,z,rfl,M2.hx,c,n,by rw[M.r.length];show w.1,?_⟩;show P x A a σ F D G2 _ (xA f r.val fs) (ml f v z) Q E l I j d ?_ w.2 k;show⟨⟨⟨M2.e.e.g,λb o e=>by rw[eU (kZ e l)];show M2.e.e.h b o e,λb o e=>by rw[eU (kZ e M2.gx)];show M2.e.e.s b o e,M2.e.e.n⟩,M2.e.len,M2.e.fz,λi ds h=>?_,M2.e.dj,?_⟩,M2.sl,iU,by rw[eU j];show M2.sF,M2.gx,M2.Be,M2.r.put L⟩
 .obtain⟨p,xs,b1,B,b3,b4,b5⟩:=M2.e.ow i ds h;show⟨p,xs,b1,by rw[eU (IB B M2.hx (by simp))];show B,b3,b4,b5⟩
 obtain⟨own,S,o2⟩:=M2.e.on;show⟨own,S,λi o h=>(d i o h).elim⟩
end
def NH(K:J')(C:Addr)(n:Nat)(t:eA):Sp:=λf H Q _=>∃x a H1 G ds e c,f=.ref x::e/\H=upd (upd H1 a (.own x)) x (.ins C a [])/\H1 x=none/\H1 a=none/\a≠x/\cO G H1/\cA K G e ds/\ds.length=n/\t ds c/\
 ∀b r d,Ext G H1 d b->fI K d b H1 (.ref x) r->c r->Q .non b
section
variable{P:Program}{w:World}{K:J'}{mg:Str->Option Value}{base:Heap}
noncomputable def ui(N:List Str)(ds:List D):Ev:=.un::(ds.map Sl.fz++List.replicate (N.length-1-ds.length) .un)
theorem S5{G H:Hp}{N:List Str}{x:V}{a:List V}{ds:List D}(s:cO G H)(r:cA K G a ds):eE K G H (ui N ds) (lR N (x::a)) G H:=by
 have E:=Ks (N:=N.drop 1) s r;have w:=r.length;have n:ui N ds=.un::uk (N.drop 1) ds:=by simp[ui,uk]
 have m:lR N (x::a)=some x::lR (N.drop 1) a:=by simp[lR,Nat.sub_sub,Nat.add_comm]
 rw[n,m];show⟨E.e,congrArg (·+1) E.len,λi d h=>?_,λi d h=>?_,λi j d d' l h h'=>?_,?_⟩
 .cases i with
  | zero=>cases h
  | succ i=>show E.fz i d h
 .cases i with
  | zero=>cases h
  | succ i=>show E.ow i d h
 .cases i with
  | zero=>cases h
  | succ i=>
   cases j with
   | zero=>cases h'
   | succ j=>show E.dj i j d d' (λz=>l (by rw[z])) h h'
 obtain⟨own,g,f⟩:=E.on;show⟨λq=>(own q).map (·+1),λi ds p h k=>?_,λi o h=>?_⟩
 .cases i with
  | zero=>cases h
  | succ i=>
   dsimp only;rw[g i ds p h k];rfl
 cases i with
 | zero=>cases h
 | succ i=>
  obtain⟨p,fp,v,u,t,c⟩:=f i o h;show⟨p,fp,v,u,t,λq b=>⟨(c q b).1,(c q b).2.1,?_⟩⟩;dsimp only;rw[(c q b).2.2];rfl
theorem UG(N:List Str)(ds:List D):∀i o,gt (ui N ds) i≠.ov o:=by
 have key:∀(l:List Sl),(∀s∈l,∀o,s≠.ov o)->∀i o,gt l i≠.ov o:=by
  intro l;induction l with
  | nil=>intro _ i o h;cases h
  | cons a r c=>
   intro h i o;cases i with
   | zero=>show h a (by simp) o
   | succ i=>show c (λs b=>h s (by simp[b])) i o
 show key _ λs b o e=>?_
 subst e;unfold ui at b;simp at b
theorem K6{x c m:Str}{st:Stmt}{f C:Addr}{fd:FuncData}{N ps:List Str}{k:Nat}{t:eA}{T:vJ}(F:Dv K x c st f fd)(S:cF N ("self"::ps) (cz st))(hC:ClsAt K m C)
  (body:∀(v:Value)(A:Around)(outer:List Env)(s:Shared)(H:Hp)(E:XK),eY k (A.deeper (envOfC c (cz st) s.heap.objs.size f v))->Dq (qI nH P w K mg base N c (cz st) f v A outer s H E).tR C (dD st) T)
  (d:∀(ds:List D)(j:R->Prop),ds.length=ps.length->t ds j->T (ui N ds) [] λfs=>(∀p∈fs,dg K C p.1)/\j (.fz (.obj m fs))):i6 P w K mg base nH (k+1) f fd ("self"::ps) (NH K C ps.length t):=by
 show F.ok S (λvs H Q E h=>?_) (λv A outer s H vs Q E hr h=>?_)
 .obtain⟨x,a,H1,G,ds,Ag,j,rfl,_,_,_,_,_,r,B,_⟩:=h;simp[r.length,B]
 obtain⟨x,a,H1,G,ds,Ag,j,rfl,rfl,hx,sF,L,s0,r,B,ht,k0⟩:=h;obtain⟨tt,p,q⟩:=body v A outer s _ E hr;have E0:=S5 (N:=N) (x:=.ref x) s0 r;have gx:=s0.free hx;have Be:=s0.free sF;have l:cO H1 (upd (upd H1 a (.own x)) x (.ins C a [])):=λb o e=>by rw[eU (kZ e hx),eU (kZ e sF)];show e
 have M0:Making K C x a G H1 (ui N ds) (lR N (.ref x::Ag)) G (upd (upd H1 a (.own x)) x (.ins C a [])) [] []:=
  ⟨⟨⟨cO.refl _,l,s0.trans l,λ_ h _=>h⟩,E0.len,E0.fz,λi ds h=>let⟨p,xs,W,V,U,O,b5⟩:=E0.ow i ds h;⟨p,xs,W,l _ _ V,U,O,b5⟩,E0.dj,let⟨own,o1,o2⟩:=E0.on;⟨own,o1,λi o h=>let⟨p,fp,W,V,U,O⟩:=o2 i o h;⟨p,fp,W,V,U.mono (cO.refl _) λq _ u e=>l q u e,O⟩⟩⟩,by simp[lR],iU,by rw[eU L];show iU,gx,Be,by simp only[dG]⟩
 show⟨tt,p,q x a _ _ G H1 G _ [] [] _ _ hx sF L (UG _ _) M0 (d ds j B ht) λdh X H' fs J M Z=>?_⟩;have y:=M.e.e;have ne':a≠x:=L;have Y:cO X (upd (upd X a (.own x)) x (.ins C a J)):=λb o e=>by rw[eU (kZ e M.gx),eU (kZ e M.Be)];show e
 show k0 H' (.fz (.obj m fs)) (upd (upd X a (.own x)) x (.ins C a J)) ⟨y.g.trans Y,y.h,λb o e=>?_,λb h1 I=>?_⟩ ?_ Z.2
 .by_cases hb:b=x
  .subst hb;rw[iU] at e;rw[M.hx];show e
  rw[eU hb] at e;by_cases Bc:b=a
  .subst Bc;rw[iU] at e;rw[M.sF];show e
  rw[eU Bc] at e;show y.s b o e
 .rw[eU (λz=>I (by rw[z];show hx)),eU (λz=>I (by rw[z];show sF))];show y.n b h1 I
 show Rep K _ _ (.obj m fs);simp only[Rep];show⟨x,C,a,J,rfl,iU,hC,Z.1,dG.mono Y _ _ M.r⟩
structure jv(P:Program)(w:World)(K:J')(mg:Str->Option Value)(base:Heap)(k:Nat)(x:Str)(n:Nat)(t:eA):Prop where
 ex:∃(C f:Addr)(fd:FuncData)(ps:List Str),Mk K C f/\i6 P w K mg base nH k f fd ps (NH K C n t)/\mg x=some (.ref C)/\Binds K fd ps []
end
section
variable{X:Cx}{k k' n:Nat}{t:eA}{x:Str}{p pos:Pos}{e:Expr}{es:List Expr}{ts:jP}
theorem KO(C:jv X.prog X.w X.K X.mg X.base k x n t)(m:eY k' X.A)(ha:mW X (e::es) ts)(o:k+1<=k':=by decide)(u:Gl X x:=by rfl)(l:(x==("__debug__":Str))=false:=by decide)
  (he:starEach (e::es) X.env=(false,eval e X.env)::starEach es X.env:=by rfl) (hpl:(backTo pos (starEach es X.env)).any (·.1)=false:=by rfl):PD X (.Call (.Name x p) (e::es) [] pos) (eF n t ts):=by
 obtain⟨C,f,fd,ps,M,F,hm,v⟩:=C.ex;obtain⟨tt,pp,q⟩:=ha;show⟨_,QN M F (m.mono o) u hm v .nil Ik pp l he hpl,λc σ N I G H Q P E h k=>q c σ N I G H _ _ E h λg J ds O y rs b=>?_⟩;intro a B ha sF z;rw[a9];show⟨a,B,J,O,ds,g,Q,rfl,rfl,ha,sF,z,y.s,rs,b.1,b.2,λD r L d i j=>⟨rfl,k _ D r L (y.trans d) (i.iC y.h) j⟩⟩
end
def iY(K:J')(C:Addr):List Str->Prop
 | []=>True
 | x::r=>dg K C x/\iY K C r
theorem iY.all{K:J'}{C:Addr}:∀{l:List Str},iY K C l->∀x∈l,dg K C x
 | [],_,x,h=>by cases h
 | y::r,n,x,h=>by
  rcases au.mp h with rfl | h
  .exact n.1
  show iY.all n.2 x h
structure xw(K:J')(mg:Str->Option Value)(cn qual:Str)(st:Stmt)(fields:List Str):Prop where
 ex:∃(C f:Addr)(fd:FuncData),ClsAt K cn C/\Mk K C f/\Dv K "__init__" qual st f fd/\mg cn=some (.ref C)/\iY K C fields
theorem sT{K:J'}{mg:Str->Option Value}{h:Heap}{d b:Str}{st:Stmt}{a:List Str}{C f:Addr}{g:Value}{od k:Option Addr}{i:Array (Option Value)}{kV c pm e ct:Value}(X:K.In h)(G:h.Ns mainGlobals mg)
  (aC:PySem.W.nsIn K mainGlobals d=some (some (.ref C))) (a1:PySem.W.findIn K (.ref C) "__init__"=some (some (.ref f))) (i1:PySem.W.isFn K (.ref f)=true)
  (l1:K.lookup f=some ⟨g,od,.func (PySem.W.fnOf "__init__" b (fL st) (dD st) (cz st) .none kV c pm k e ct),i⟩) (c1:PySem.W.codeIn K e b=true) (k1:PySem.W.keepIn K (.ref f)=true)
  (pg:PySem.W.plainGet K C Str.empty=true) (hd:PySem.W.hasDictIn K C=true) (po:PySem.W.plainOver K C=true) (sa:PySem.W.findIn K (.ref C) "__setattr__"=some (some (.builtin "object.__setattr__"))) (mk:PySem.W.makesIn K C=true) (kc:PySem.W.keepIn K (.ref C)=true)
  (j:iY K C a):xw K mg d b st a:=
 ⟨C,f,_,⟨aC,⟨pg,hd,po,sa⟩⟩,⟨mk,a1,i1,kc⟩,D4 l1 c1 k1,PySem.W.mg_of X G aC,j⟩
noncomputable def tm:D->Bool
 | .non=>true
 | .bl _=>true
 | .int _=>true
 | .str _=>true
 | _=>false
def yP(i:Nat)(te:TD):TD:=λa Q=>te (lZ i a) λr=>match r with
 | .fz d=>tm d=true/\Q (.fz d)
 | _=>False
theorem Ct{K:J'}{G a:Hp}{v:V}{d:D}(h:tm d=true)(r:Rep K G v d):Rep K a v d:=by
 cases d<;>first | (simp only[Rep] at r ⊢;show r) | cases h
noncomputable def vO(G:Hp)(L:List Addr):Hp:=λa=>if a∈L then none else G a
theorem KN{G H d c:Hp}{L:List Addr}(k:∀q∈L,G q=none)(x:Ext (p8 G H L) H d c):Ext G H (vO d L) c:=by
 show⟨λb u e=>?_,x.h,λb u e=>?_,λq j i=>?_⟩
 .have a:b∉L:=λz=>by rw[k b z] at e;cases e
  unfold vO;rw[if_neg a];show x.g b u (by rw[rN a];show e)
 .unfold vO at e;split at e
  .cases e
  show x.s b u e
 unfold vO;split
 .rfl
 rename_i f;show x.n q (by rw[rN f];show j) i
section
variable{X:Cx}{e:Expr}{te:TD}{t:jU}
theorem eE.Gy{K:J'}{f d G H:Hp}{c:Ev}{b:St}(i:Nat)(E:eE K f d c b G H):∃e,eE K f d (lZ i c) b e H/\∀g a,Ext e H g a->∃j,Ext G H j a:=
 let⟨L,h,k,_⟩:=E.mT i
 ⟨_,k,λg a x=>⟨_,KN h x⟩⟩
theorem Eb(i:Nat)(h:PD X e te):PD X e (yP i te):=by
 obtain⟨tt,p,q⟩:=h;show⟨tt,p,λs σ m g G H Q P E h k=>?_⟩;obtain⟨l,o,back⟩:=E.Gy i;show q _ σ m g l H _ _ o h λv b r n x f a=>?_
 split at a
 .rename_i d;obtain⟨j,c⟩:=back n b x;show k v b (.fz d) j c (Ct a.1 f) a.2
 show a.elim
end
def uy:eA:=λds Q=>match ds with
 | [.lst es]=>match nC es with
  | some ss=>ss.length<4000/\(∀l:List Str,l.Nodup->(∀w∈l,w∈ss)->l.length<64)/\∀l:List Str,l.Nodup->(∀w,w∈l↔w∈ss)->sortedS l=true->Q (.ow (l.map D.str))
  | none=>False
 | _=>False
theorem U0(t:SetTable)(n:Nat):(t.orStandIn n).led=t.led:=by
 unfold SetTable.orStandIn;split<;>rfl
theorem Ut(t:SetTable)(es:Array (Int×Value))(h:Int)(x:Value):(layNew t es h x).2.1.led=t.led:=by
 unfold layNew;split
 .exact U0 _ _
 rfl
theorem UO{t t':SetTable}{c:Array Int}{a:Nat}{b:Array Nat}(h:t.relaid c a=some (t',b)):t'.led=t.led/\t'.plain=t.plain:=by
 unfold SetTable.relaid SetTable.laid at h;cases d:SetTable.layClean (SetTable.sizeAbove a-1) c with
 | none=>rw[d] at h;cases h
 | some owner=>
  rw[d] at h;cases h;show⟨rfl,rfl⟩
theorem Vm(t:SetTable)(es:Array (Int×Value))(a:Nat)(c:t.plain=false):(relayAll t es a).2.1.led=t.led/\(relayAll t es a).2.1.plain=false:=by
 unfold relayAll;split
 .rename_i t' order b;obtain⟨e,d⟩:=UO b;dsimp only;split
  .exact⟨e,d.trans c⟩
  show⟨rfl,rfl⟩
 show⟨rfl,rfl⟩
section
variable{prog:Program}{w:World}{A:Around}{E:Value->Shared->Prop}{s:Shared}
structure Bp(w:World)(es:Array (Int×Value))(t:SetTable):Prop where
 led:t.led=!(w.params.followText "set-order")
 plain:es.size=0\/t.plain=false
structure dQ(prog:Program)(w:World)(h:Heap)(a:Addr)(es:Array (Int×Value))(ep:Nat)(t:SetTable):Prop where
 at_:h.get? a=some { cls:=.type "set",dict:=none,data:=.set es ep t,slots:=#[] }
 el:ElemsOf (strKind prog w) es.toList
 small:es.size<scanBound
 fits:t.fits es.size=true
 marks:Bp w es t
def Mem(prog:Program)(w:World)(es:Array (Int×Value))(k:Str):Prop:=∃e∈es.toList,(strKind prog w).is k e.2=true
theorem K5{a:Addr}{es b:Array (Int×Value)}{ep:Nat}{t t':SetTable}{Q:Unit->Shared->Prop}(c:s.heap.get? a=some { cls:=.type "set",dict:=none,data:=.set es ep t,slots:=#[] })(d:b.size<scanBound)
  (h:∀h',Heap.SameBut a s.heap h'->h'.get? a=some { cls:=.type "set",dict:=none,data:=.set b (ep+1) t',slots:=#[] }->Q () { s with heap:=h' }):wpAny (model prog w) A (storeSet a b t') Q E s:=by
 show wpAny_storeSet_of c rfl ?_ (fits_of_scanBound d);show h _ (Heap.SameBut.update s.heap a (Obj.putSet b t')) ?_;have:=Heap.get?_update_self (Obj.putSet b t') c (by rw[putSet_of b t' (ep:=ep) (t:=t) (es:=es) rfl];rfl);rw[putSet_of b t' (ep:=ep) (t:=t) (es:=es) rfl] at this;show this
theorem Qi{a:Addr}{es:Array (Int×Value)}{ep:Nat}{t:SetTable}{x:Str}{tk:Tok}{Q:Bool->Shared->Prop}(S:dQ prog w s.heap a es ep t)(D:es.size+1<scanBound)
  (h:∀h' u O t',Heap.SameBut a s.heap h'->dQ prog w h' a u O t'->((u=es/\Mem prog w es x)\/(¬Mem prog w es x/\List.Perm u.toList (es.toList++[(hashStr w x,.str x tk)])))->∀b,Q b { s with heap:=h' }) :
  wpAny (model prog w) A (setAddHashed a (.str x tk) ((strKind prog w).hash x)) Q E s:=by
 have B:(strKind prog w).is x (.str x tk)=true:=by show Value.isStrOf x (.str x tk)=true;simp[Value.isStrOf]
 have z:(Value.str x tk).scannable=true:=rfl;have v:=S.at_;unfold setAddHashed setAddHashedIn;show bJ (aa (wpAny_setState_of v rfl S.fits ?_));dsimp only;rw[byScan_of z S.small S.el];simp only[↓reduceIte];unfold setAddByScan;show aa (aa (wpAny_rule (aa (wpAny_setScan_of B v rfl S.fits S.el ?_))));cases I:List.findIdx? (λe=>(strKind prog w).is x e.2) es.toList with
 | some j=>
  dsimp only;obtain⟨T,W,_⟩:=List.findIdx?_eq_some_iff_getElem.mp I;show ao (ao ?_);show h s.heap es ep t (Heap.SameBut.refl a s.heap) S (.inl ⟨rfl,es.toList[j],bK T,W⟩) _
 | none=>
  dsimp only;have C:¬Mem prog w es x:=λ⟨e,he,k⟩=>by
   have:=List.findIdx?_eq_none_iff.mp I e he;rw[k] at this;cases this
  have way:∀(b:Bool){s1:Shared}{f:Unit->Shared->Prop},f () s1->wpAny (model prog w) A (match b with | true=>rule "set.scan.the-table-gave-way" | false=>pure ()) f E s1:=λb s1 f q=>by
   cases b
   .exact ao q
   show wpAny_rule q
  have i:=layNew_perm t es ((strKind prog w).hash x) (.str x tk);have n:=layNew_fits t es ((strKind prog w).hash x) (.str x tk);have m:=Ut t es ((strKind prog w).hash x) (.str x tk);generalize layNew t es ((strKind prog w).hash x) (.str x tk)=L at i n m ⊢;obtain⟨c,t1,X,YS⟩:=L;dsimp only at i n m ⊢;rw[aH] at i;have M:ElemsOf (strKind prog w) c.toList:=(S.el.push B z).perm i;have hsz:c.size=es.size+1:=by rw[<-af,i.length_eq,ay,af];rfl
  have o:c.size<scanBound:=by ext
  show aa (way _ ?_)
  -- qk table,not plain any more
  have tail:∀(g:Bool->Sem Unit),(∀(b:Bool)(s1:Shared)(f:Unit->Shared->Prop),f () s1->wpAny (model prog w) A (g b) f E s1)->∀d:SetTable,d.fits c.size=true->d.led=t.led->d.plain=false->wpAny (model prog w) A (do
    storeSet a c d
    if (!X&&d.tooFull)=true then do
        g (relayAll d c (SetTable.grown c.size)).2.2
        storeSet a (relayAll d c (SetTable.grown c.size)).1 (relayAll d c (SetTable.grown c.size)).2.1
        pure (some true)
     else pure (some true)) (λr P=>wpAny (model prog w) A (match r with | some added=>pure added | none=>setAddHashedIn a (Value.str x tk) ((strKind prog w).hash x) 99999) Q E P) E s:=by
   intro g U d f2 H F;show aa (K5 v o λy J g1=>?_);have Z:∀b,Q b { s with heap:=y }:=h y c _ d J ⟨g1,M,o,f2,⟨H.trans S.marks.led,.inr F⟩⟩ (.inr ⟨C,i⟩)
   split
   .have k:=relayAll_perm d c (SetTable.grown c.size);have p:=relayAll_fits d c (SetTable.grown c.size);have l:=Vm d c (SetTable.grown c.size) F;generalize relayAll d c (SetTable.grown c.size)=Y at k p l ⊢;obtain⟨K,t3,Nv⟩:=Y;dsimp only at k p l ⊢;have G:K.size=c.size:=by rw[<-af,k.length_eq,af]
    show aa (U _ _ _ ?_);show aa (K5 (s:={ s with heap:=y }) g1 (by rw[G];show o) λV N g2=>ao (ao ?_));show h V K _ t3 (J.trans N) ⟨g2,M.perm k,by rw[G];show o,p,⟨(l.1.trans H).trans S.marks.led,.inr l.2⟩⟩ (.inr ⟨C,k.trans i⟩) _
   show ao (ao (Z _))
  by_cases hpl:t1.plain=true
  .rw[if_pos hpl];show aa ?_;rw[hashByValue_scannable 8 z];show ao ?_;have R:plainKind (.str x tk)=false:=rfl;rw[R];simp only[aq,aQ];show tail _ (λb s1 f q=>by cases b<;>first | show ao q | show wpAny_rule q) { t1 with plain:=false } (SetTable.fits_plain_off n) m rfl
  rw[if_neg hpl];show aa (ao ?_);simp only[aX];show tail _ (λb s1 f q=>by cases b<;>first | show ao q | show wpAny_rule q) t1 n m (by simpa using hpl)
noncomputable def keysOf(es:Array (Int×Value)):List Str:=es.toList.map λe=>strOf e.2
theorem KL{es:Array (Int×Value)}(el:ElemsOf (strKind prog w) es.toList)(k:Str):Mem prog w es k↔k∈keysOf es:=by
 unfold Mem keysOf;rw[aM];constructor
 .rintro⟨e,he,b⟩;obtain⟨t,a⟩:=Value.isStrOf_shape b;show⟨e,he,by rw[a];rfl⟩
 rintro⟨e,he,rfl⟩;obtain⟨⟨k,b,_⟩,_⟩:=el e he;obtain⟨t,a⟩:=Value.isStrOf_shape b;show⟨e,he,?_⟩;rw[a];show Value.isStrOf k (.str k t)=true;simp[Value.isStrOf]
theorem S4{es a:Array (Int×Value)}{x:Str}{tk:Tok}{b:Int}(p:List.Perm a.toList (es.toList++[(b,.str x tk)])):List.Perm (keysOf a) (keysOf es++[x]):=by
 have:=p.map λe=>strOf e.2
 rw[aE] at this;show this
structure Holds(es:Array (Int×Value))(xs:List Str):Prop where
 nd:(keysOf es).Nodup
 mem:∀x,x∈keysOf es↔x∈xs
 len:es.size<=xs.length
theorem Holds.put{es c:Array (Int×Value)}{xs:List Str}{x:Str}{tk:Tok}(H:Holds es xs)(el:ElemsOf (strKind prog w) es.toList)
  (h:(c=es/\Mem prog w es x)\/(¬Mem prog w es x/\List.Perm c.toList (es.toList++[(hashStr w x,.str x tk)]))):Holds c (xs++[x]):=by
 rcases h with⟨rfl,hm⟩ | ⟨hm,e⟩
 .refine⟨H.nd,λy=>?_,by simp;have:=H.len;ext⟩;rw[aw,<-H.mem,bp];constructor
  .exact .inl
  rintro(h | rfl)
  .exact h
  show(KL el _).mp hm
 have d:=S4 e;show⟨d.nodup_iff.mpr ?_,λy=>?_,?_⟩
 .rw[List.nodup_append];show⟨H.nd,by simp,λa ha b f=>?_⟩;rw[bp.mp f];rintro rfl;show hm ((KL el _).mpr ha)
 .rw[d.mem_iff,aw,aw,H.mem]
 have g:=d.length_eq;have j:(keysOf c).length=c.size:=by simp[keysOf]
 have i:(keysOf es).length=es.size:=by simp[keysOf]
 have:=H.len;simp only[ay,aD,List.length_nil] at g ⊢;ext
theorem dQ.kept{h h':Heap}{a:Addr}{es:Array (Int×Value)}{ep:Nat}{t:SetTable}(S:dQ prog w h a es ep t)(k:∀o,h.get? a=some o->h'.get? a=some o):dQ prog w h' a es ep t:=⟨k _ S.at_,S.el,S.small,S.fits,S.marks⟩
end
section
variable{prog:Program}{w:World}{A:Around}{R:Result->Shared->Prop}{I:Addr}{fp wr:List Addr}{G:Array GenState->Array GenState->Prop}{n:Nat}{P:Nat->Value->Prop}{St:Nat->Shared->Prop}
theorem S1(W:WalksS prog w A.in1 I fp wr G n P St)(S:Addr)(g:S∉fp)(xs:List Str)(hx:xs.length=n)(p:∀i v,P i v->∃x t,xs[i]?=some x/\v=.str x t)(c:n+1<scanBound) :
  ∀(k i:Nat)(s:Shared)(es:Array (Int×Value))(ep:Nat)(t:SetTable),n-i=k->i<=n->St i s->dQ prog w s.heap S es ep t->Holds es (xs.take i)->
   (∀a d f t',Moved (S::wr) G s a->dQ prog w a.heap S d f t'->Holds d xs->R (.ok (.ret .none)) a)->codeAny (model prog w) A (.builtin "set.update.loop" ⟨[.ref S,.ref I],[]⟩) R s:=by
 have m:S∉wr:=λh=>g (W.sub _ h)
 have more:∀b∈wr,b∈S::wr:=λb c=>aK _ c
 intro k;induction k with
 | zero=>
  intro i s es ep t C hi st T H q;have e:i=n:=by ext
  subst e;show codeAny_builtin PyProof.Rows.F.entry_set_update_loop ?_;rw[b9 PyProof.Rows.F.plain_set_update_loop _];show wpAny _ A.in1 (pyNext (.ref I) >>= _) _ _ s;show aa (W.done s _ _ st λa hm=>?_);show wpAny _ A.in1 (ret Value.none) _ _ a;rw[<-hx,bL] at H;show ao (q a es ep t (hm.mono more) (T.kept λo e=>hm.heap S _ m e) H)
 | succ k y=>
  intro i s es ep t C hi st T H q;have l:i<n:=by ext
  show codeAny_builtin PyProof.Rows.F.entry_set_update_loop ?_;rw[b9 PyProof.Rows.F.plain_set_update_loop _];show wpAny _ A.in1 (pyNext (.ref I) >>= _) _ _ s;show aa (W.item i s _ _ l st λv a D E hm=>?_);obtain⟨x,tk,K,rfl⟩:=p i v D;have N:dQ prog w a.heap S es ep t:=T.kept λo e=>hm.heap S _ m e
  show wpAny _ A.in1 (holding [Value.str x tk] (setAdd S (.str x tk)) >>= _) _ _ a;show aa (bJ ?_);unfold setAdd;show bJ (aa ((strKind prog w).pyHash (k:=x) (by show Value.isStrOf x (.str x tk)=true;simp[Value.isStrOf]) ?_));have B:=H.len;rw[aP] at B;show Qi (s:={ a with toks:=a.toks+1 }) N (by ext) λh' d f t' j M U b=>?_
  have X:xs.take (i+1)=xs.take i++[x]:=by rw[aY,K];rfl
  have Q:Holds d (xs.take (i+1)):=by rw[X];show H.put T.el U
  show ao ⟨plainId_quiet PyProof.Rows.F.plain_set_update_loop _,y (i+1) _ d f t' (by ext) l (W.frame _ a _ _ E (cj _) λb c o e=>?_) M Q λs2 V J r u L O=>?_⟩
  .rw[j.2 b (λz:b=S=>g (by rw[<-z];show c))];show e
  show q s2 V J r (Moved.trans W.gtrans ((hm.mono more).then_heap (cj _) λb o c e=>?_) u) L O;rw[j.2 b (λz:b=S=>c (by rw[z];show List.mem_cons_self))];show e
end
section
variable{prog:Program}{w:World}{A:Around}{E:Value->Shared->Prop}{s:Shared}
noncomputable abbrev rH(w:World):Obj:={ cls:=.type "set",dict:=none,data:=.set #[] 0 (.fresh 0 0 (!(w.params.followText "set-order"))) }
theorem Rq(a:Value){Q1:Value->Shared->Prop}(h:Q1 (.ref s.heap.objs.size) { s with heap:=s.heap.push (rH w) }) :
  codeAny (model prog w) A (.call (.builtin "set.__new__") ⟨[.type "set",a],[]⟩) (wants Q1 E) s:=by
 show codeAny_of_tree ?_;show wpAny _ A.in1 (do checkBuiltinCall "set.__new__" ⟨[.type "set",a],[]⟩;again (.builtin "set.__new__" ⟨[.type "set",a],[]⟩)) _ _ s;show aa (wpAny_of_eq (PySem.F.newCall_set_1 a) (ao ⟨plainId_quiet PySem.F.plain_set_new _,codeAny_builtin PySem.F.entry_set_new ?_⟩));rw[b9 PySem.F.plain_set_new _];unfold Builtin.«set.__new__» Builtin.Frozenset.newClass;have c:=PySem.sub_set_self;obtain⟨b,g,d,tk,os⟩:=s;dsimp only;wp_walk
 show wpAny_askSetting (ao ?_);dsimp only;simp only[newObj];show aa (wpAny_alloc (ao ?_));show ao h
theorem Qh{h:Heap}{a:Addr}(e:h.get? a=some (rH w)):dQ prog w h a #[] 0 (.fresh 0 0 (!(w.params.followText "set-order"))):=
 ⟨e,λx hx=>by simp at hx,by show 0<4096;decide,by simp[SetTable.fits,SetTable.fresh,SetTable.fill],⟨rfl,.inl rfl⟩⟩
theorem S0{l:Addr}{a:List Value}{xs:List Str}{Q:Value->Shared->Prop}(M:A.handled=none)(L:s.heap.IsList l a.toArray)(hi:StrsAre a xs)(f:xs.length+1<scanBound)
  (h:∀(h':Heap)(tk:Nat) es ep t,dQ prog w h' s.heap.objs.size es ep t->L2.Holds es xs->(∀b o,b<s.heap.objs.size->s.heap.get? b=some o->h'.get? b=some o)->Q (.ref s.heap.objs.size) { s with heap:=h',toks:=tk }) :
  wpAny (model prog w) A (call (.type "set") [.ref l]) Q E s:=by
 obtain⟨c,tl,Yk⟩:=PySem.F.called_set.mro;have M7:=PySem.F.called_set.made;have GP:=PySem.F.called_set.sub;show wpAny_call (codeAny_of_tree ?_);show wpAny _ _ (callAny (.type "set") _) _ _ _;show ao ⟨Code.quiet_builtin _ (by decide +kernel),codeAny_builtin PySem.F.entry_type_call ?_⟩;rw[Around.under_plain (weight_type_call_type "set" [.ref l] []) rfl];have h1:=PySem.F.called_set.notType;have h2:=PySem.F.called_set.canCreate;have Zv:=PySem.F.typeCall_set_1 (.ref l);repeat(any_goals (first | assumption | wp_step))
 show codeAny_mono (Rq (.ref l) (E:=E) (Q1:=λobj s1=>obj=.ref s.heap.objs.size/\s1={ s with heap:=s.heap.push (rH w) }) ⟨rfl,rfl⟩) λr s1 j=>?_
 cases r with
 | error e=>show j
 | ok O=>
  cases O with
  | ret obj=>
   obtain⟨rfl,rfl⟩:=j;have y:(s.heap.push (rH w)).get? s.heap.objs.size=some (rH w):=aB _ rfl;have N:Shared.TypeIs { s with heap:=s.heap.push (rH w) } (.ref s.heap.objs.size) "set":=⟨_,y,rfl⟩
   have C5:=PySem.F.called_set.init.lookup;have Zx:=PySem.F.called_set.init.bind (.ref s.heap.objs.size);repeat(any_goals (first | assumption | wp_step))
   show codeAny_mono (codeAny_call_builtin (R:=wants (λr s2=>r=.none/\∃h' tk es ep t,s2={ s with heap:=h',toks:=tk }/\dQ prog w h' s.heap.objs.size es ep t/\L2.Holds es xs/\
     (∀b o,b<s.heap.objs.size->s.heap.get? b=some o->h'.get? b=some o)) E) PySem.F.called_set.init.plain PySem.F.entry_set_init (check_set_init_1 N ?_)) λK s2 p=>?_
   .obtain⟨ol,k,q,nl,z⟩:=L;obtain⟨Xx,Az,MC,G⟩:=ol;simp only at q z;subst q z;have m:(s.heap.push (rH w)).get? l=some { cls:=.type "list",dict:=Az,data:=.seq a.toArray nl,slots:=G }:=aj _ k;have X7:=PySem.F.sub_list_set;have X8:=PySem.F.sub_list_frozenset;have ez:(Value.type "list"==Value.type "dict")=false:=by decide
    have g:(s.heap.push (rH w)).IsList l a.toArray:=⟨_,m,rfl,nl,rfl⟩
    unfold Builtin.«set.__init__» noKeywords Builtin.Frozenset.updateFrom;generalize X:pyIter=PI;wp_walk
    subst X;show wpAny_pyIter_list g (aa (wpAny_runValue ?_));have B:l<s.heap.objs.size:=aF k;have V:A.in1.in1.in1.handled=none:=by simp[M]
    have hsz:(s.heap.push (rH w)).objs.size=s.heap.objs.size+1:=Heap.size_push ..;have Z:l≠(s.heap.push (rH w)).objs.size:=by rw[hsz];show aN (bY B)
    have C:s.heap.objs.size∉[(s.heap.push (rH w)).objs.size,l]:=by
     rw[hsz];simp only[au,bC,or_false,not_or];show⟨aN (Nat.lt_succ_self _),Nat.ne_of_gt B⟩
    have u:xs.length=a.toArray.size:=by
     rw[aA];clear k m g h f;induction hi with
     | nil=>rfl
     | cons _ _ _ n=>simp[n]
    have D:∀(i:Nat)(v:Value),a.toArray[i]?=some v->∃x t,xs[i]?=some x/\v=.str x t:=λi v d=>by
     rw[List.getElem?_toArray] at d;clear k m g h f u;induction hi generalizing i with
     | nil=>simp at d
     | cons x t j n=>
      cases i with
      | zero=>simp at d;show⟨x,t,rfl,d.symm⟩
      | succ i=>simp only[bX] at d ⊢;show n i d
    show S1 ((Walks.list V _ l Z a.toArray).toS) s.heap.objs.size C xs u D (by ext) (a.toArray.size-0) 0 _ #[] 0 _ (by ext) (aZ _)
     ⟨⟨_,aB _ rfl,rfl,rfl⟩,(g.push _)⟩ (Qh (aj _ y)) ⟨by simp[keysOf],by simp[keysOf],by simp⟩ ?hR
    case hR=>
     intro J es ep t hm T H;obtain⟨h',g',d',Y,Gm⟩:=J;have S:g'=s.gens:=hm.gens;have U:d'=s.drawn:=hm.drawn;have P:Gm=s.os:=hm.os;subst S U P;show wpAny _ _ _ _ _ _;show ao ?_;show wpAny _ _ (ret Value.none) _ _ _;show ao ⟨rfl,h',Y,es,ep,t,rfl,T,H,λb o f e=>?_⟩;show hm.heap b o ?_ (aj _ (aj _ e));rw[hsz];simp only[au,bC,or_false,not_or];show⟨aN f,aN (bY f)⟩
   cases K with
   | error e=>show p
   | ok W=>
    cases W with
    | ret r=>
     obtain⟨rfl,h',tk,es,ep,t,rfl,T,H,I⟩:=p;repeat(any_goals (first | assumption | wp_step))
     show h _ _ es ep t T H I
    | _=>show p.elim
  | _=>show j.elim
end
theorem hV:Slot "set_iterator" "__next__" "set_iterator.__next__":=
 .of (owner:="set_iterator") (n:="__next__") (by rw[typeLookup_type,builtinLookup_eq_fast];kernel_rfl) (by decide +kernel) (by decide +kernel) (by decide +kernel) (by first | show .inl (by decide +kernel) | show .inr (by decide +kernel)) (by rw[isSubtype_type];kernel_rfl)
theorem JN:Slot "set_iterator" "__iter__" "set_iterator.__iter__":=
 .of (owner:="set_iterator") (n:="__iter__") (by rw[typeLookup_type,builtinLookup_eq_fast];kernel_rfl) (by decide +kernel) (by decide +kernel) (by decide +kernel) (by first | show .inl (by decide +kernel) | show .inr (by decide +kernel)) (by rw[isSubtype_type];kernel_rfl)
theorem JM:entryFor table "set_iterator.__next__"=some Builtin.«set_iterator.__next__»:=entryFor_of_fast (by kernel_rfl)
theorem Qg:entryFor table "set_iterator.__iter__"=some Builtin.«dict_keyiterator.__iter__»:=entryFor_alias (id':="dict_keyiterator.__iter__") (by kernel_rfl) rfl (by decide +kernel) (by kernel_rfl)
theorem Rp:entryFor table "set.__iter__"=some Builtin.«frozenset.__iter__»:=entryFor_alias (id':="frozenset.__iter__") (by kernel_rfl) rfl (by decide +kernel) (by kernel_rfl)
theorem JL(a:Value):argsOk "set_iterator.__next__" ⟨[a],[]⟩:=by unfold argsOk;kernel_rfl
theorem Qf(a:Value):argsOk "set_iterator.__iter__" ⟨[a],[]⟩:=by unfold argsOk;kernel_rfl
section
variable{prog:Program}{w:World}{A:Around}{E:Value->Shared->Prop}{s:Shared}
theorem Fo{b:Type}:∀{l:List b}{i:Nat}(h:i<l.length),(l[i]::l.eraseIdx i).Perm l
 | a::r,0,_=>.refl _
 | a::r,i+1,h=>by
  simp only[List.getElem_cons_succ,List.eraseIdx_cons_succ];show(List.Perm.swap _ _ _).trans ((Fo (by simpa using h)).cons a)
theorem Us{M:Model}{src:Source}{n:Nat}{Q:Nat->Shared->Prop}(a:n≠0)(h:∀i d,i<n->Q i { s with drawn:=d }):wpAny M A (choose src n) Q E s:=λb p _=>by
 show Sem.wp M b (.choose src n .pure) _ _ p s;rw[Sem.wp_choose];show⟨a,h _ _ (Nat.mod_lt _ (Nat.pos_of_ne_zero a))⟩
theorem K4{M:Model}{b:Type}:∀(n:Nat)(xs:List b)(s:Shared)(Q:List b->Shared->Prop),xs.length<=n->(∀ys d,ys.Perm xs->Q ys { s with drawn:=d })->wpAny M A (drawOrder n xs) Q E s
 | 0,xs,s,Q,a,q=>by
  have:xs=[]:=b8 (by ext);subst this;unfold drawOrder;show ao (q [] s.drawn (.refl _))
 | n+1,[],s,Q,a,q=>by
  unfold drawOrder;show ao (q [] s.drawn (.refl _))
 | n+1,x::r,s,Q,a,q=>by
  unfold drawOrder;show aa (Us (by simp) λi d hi=>?_);rw[ai hi];dsimp only;show aa (K4 n _ _ _ (by rw[List.length_eraseIdx];split<;>simp at a ⊢<;>ext) λys d' c=>ao ?_);show q _ d' ((c.cons _).trans (Fo hi))
theorem JK{b:Type}(f:Nat->Nat):∀(n k:Nat)(left:List b)(out:Array b),left.length=n->(pickOrder.go f n k left out).toList.Perm (out.toList++left)
 | 0,k,left,out,h=>by
  have:left=[]:=b8 h;subst this;simp[pickOrder.go]
 | n+1,k,left,out,h=>by
  unfold pickOrder.go;have a:f k%left.length<left.length:=Nat.mod_lt _ (by ext);rw[ai a];dsimp only;show(JK f n (k+1) _ _ (by rw[List.length_eraseIdx,if_pos a];ext)).trans ?_;rw[aH,bw];show(List.Perm.refl _).append (Fo a)
theorem K3{a:Type}(f:Nat->Nat)(xs:Array a):(pickOrder f xs).toList.Perm xs.toList:=by
 have:=JK f xs.size 0 xs.toList #[] (by simp);simpa[pickOrder] using this
noncomputable abbrev tj(first:Value)(i:Nat)(S:Addr)(n ep:Nat):Obj:={ cls:=.type "set_iterator",data:=.fields #[first,.int i 0,.ref S,.int n 0,.int ep 0] }
theorem Fn{a:Addr}{es:Array (Int×Value)}{ep:Nat}{t:SetTable}{Q:Array (Int×Value)->Shared->Prop}(S:dQ prog w s.heap a es ep t)(h:Q es s):wpAny (model prog w) A (setEntries a) Q E s:=by
 unfold setEntries;show aa (wpAny_setState_of S.at_ rfl S.fits (ao h))
theorem KJ{I:Addr}{o:Obj}{c:Array Value}{Q:Option Value->Shared->Prop}{K:Fin->Shared->Prop}(h:A.handled=none)(g:s.heap.get? I=some o)(hd:o.data=.fields c)(f:2<c.size)
  (i:∀h',Heap.ExtBut I s.heap h'->Q none { s with heap:=h' }) :
  wpAny (model prog w) A.in1 (do setField (.ref I) 2 .none;raiseNew (<-newExc (.type "StopIteration") []):Sem Fin) K (λe d=>wpAny (model prog w) A (do if <-isInstance e (.type "StopIteration") then pure none else throw e:Sem (Option Value)) Q E d) s:=by
 show aa (wpAny_setField g hd f ?_);show wpAny _ _ (newExc (.type "StopIteration") [] >>= _) _ _ _;show aa ?_;simp only[newExc,newTuple];show aa (wpAny_newObj_type ?_ (by size_fits));show aa (m:=firstArgMember _ _) (wpAny_of_eq (a:=Value.none) (by first | rfl | (simp only[firstArgMember];rfl)) ?_);show wpAny_newObj_type ?_ (by size_fits);simp only[raiseNew];show aa (wpAny_handled ?_);rw[show A.in1.handled=none from h];show aa (ao (wpAny_throw ?_));show aa (wpAny_isInstance (T:="StopIteration") (b:=true) ⟨_,aB _ rfl,rfl⟩ isSubtype_stop ?_);show ao (i _ (((Heap.SameBut.update ..).extBut.push _).push _))
end
section
variable{prog:Program}{w:World}{A:Around}{E:Value->Shared->Prop}{s:Shared}
theorem Cs{I S:Addr}{es:Array (Int×Value)}{ep:Nat}{t:SetTable}{sl i:Nat}{Q:Option Value->Shared->Prop}(f:A.handled=none)(a:s.heap.get? I=some (tj (.int sl 0) i S es.size ep))(T:dQ prog w s.heap S es ep t)(r:Option (Value×Nat))
  (g:∀(c:Option (Value×Nat)->Shared->Prop)(n:Value->Shared->Prop),c r s->wpAny (model prog w) A.in1 (setNext S sl i ep) c n s)
  (d:∀x j,r=some (x,j)->∀h',Heap.SameBut I s.heap h'->h'.get? I=some (tj (.int j 0) (i+1) S es.size ep)->Q (some x) { s with heap:=h' })
  (e:r=none->∀h',Heap.ExtBut I s.heap h'->Q none { s with heap:=h' }):wpAny (model prog w) A (pyNext (.ref I)) Q E s:=by
 have b:s.TypeIs (.ref I) "set_iterator":=⟨_,a,rfl⟩
 unfold pyNext;show aa (wpAny_attempt (wpAny_callSpecial?_slot (name:=Str.ofString "__next__") b hV (wpAny_call_entry hV b JM ?_ (JL _))));show wpAny _ _ (fieldsOf (.ref I) >>= _) _ _ s;show aa (wpAny_fieldsOf a rfl ?_);dsimp only;show aa (Fn T ?_);simp only[bne_self_eq_false,aq,aQ];simp only[Int.toNat_natCast];show aa (g _ _ ?_);cases r with
 | none=>show KJ f a rfl (by simp) (e rfl)
 | some p=>
  obtain⟨x,j⟩:=p;dsimp only;show aa (wpAny_setField_rec a (by simp) λk g1 m=>?_);show aa (wpAny_setField_rec (s:={ s with heap:=k }) g1 (by simp) λh g2 l=>?_);show ao ⟨x,rfl,ao (d x j rfl h (m.trans l) ?_)⟩;rw[g2];simp[rawInt]
theorem Kj{I S f:Addr}{es:Array (Int×Value)}{ep:Nat}{t:SetTable}{ps:List Nat}{i:Nat}{Q:Option Value->Shared->Prop}(l:A.handled=none)(a:s.heap.get? I=some (tj (.ref f) i S es.size ep))(T:dQ prog w s.heap S es ep t)
  (n:s.heap.get? f=some { cls:=.type "tuple",data:=.seq (ps.map λ(p:Nat)=>rawInt p).toArray })
  (j:∀p e,ps[i]?=some p->es[p]?=some e->∀h',Heap.SameBut I s.heap h'->h'.get? I=some (tj (.ref f) (i+1) S es.size ep)->Q (some e.2) { s with heap:=h' })
  (h:∀p∈ps,p<es.size) (k:ps[i]?=none->∀h',Heap.ExtBut I s.heap h'->Q none { s with heap:=h' }):wpAny (model prog w) A (pyNext (.ref I)) Q E s:=by
 have g:s.TypeIs (.ref I) "set_iterator":=⟨_,a,rfl⟩
 unfold pyNext;show aa (wpAny_attempt (wpAny_callSpecial?_slot (name:=Str.ofString "__next__") g hV (wpAny_call_entry hV g JM ?_ (JL _))));show wpAny _ _ (fieldsOf (.ref I) >>= _) _ _ s;show aa (wpAny_fieldsOf a rfl ?_);dsimp only;show aa (Fn T ?_);simp only[bne_self_eq_false,aq,aQ];show aa (wpAny_seqItems n rfl ?_);dsimp only;simp only[Int.toNat_natCast,List.getElem?_toArray,aJ];cases b:ps[i]? with
 | none=>
  simp only[Option.map_none];show aa (wpAny_setField_rec a (by simp) λc g1 d=>?_);show KJ (s:={ s with heap:=c }) l g1 rfl (by simp) λh' x=>k b h' (d.extBut.trans x)
 | some p=>
  simp only[Option.map_some,rawInt,Int.toNat_natCast];have m:=h p (aI b);have he:es[p]?=some es[p]:=by simp[m]
  unfold setNextDrawn;show aa (aa (wpAny_setState_of T.at_ rfl T.fits ?_));simp only[bne_self_eq_false,aq,aQ,he];show ao ?_;show aa (wpAny_setField_rec a (by simp) λc g1 d=>?_);show ao ⟨_,rfl,ao (j p es[p] b he c d ?_)⟩;rw[g1];simp
theorem KZ{S:Addr}{es:Array (Int×Value)}{ep:Nat}{t:SetTable}(T:dQ prog w s.heap S es ep t)(sl i:Nat)(a:w.params.followText "set-order"=true)(Q:Option (Value×Nat)->Shared->Prop)
  (q:Q (((pickOrder (w.params.setOrder S ep) es)[i]?).map λe=>(e.2,sl)) s):wpAny (model prog w) A (setNext S sl i ep) Q E s:=by
 unfold setNext;show aa (wpAny_setState_of T.at_ rfl T.fits ?_);dsimp only;unfold setsByText;show aa (aa (wpAny_askSetting (ao ?_)));rw[show(model prog w).w.params.followText "set-order"=true from a];simp only[bne_self_eq_false,aq,aQ,aX];unfold setWalk;show aa (aa (wpAny_setState_of T.at_ rfl T.fits ?_));dsimp only;unfold setsByText;show aa (aa (wpAny_askSetting (ao ?_)));rw[show(model prog w).w.params.followText "set-order"=true from a];simp only[aX];show aa (wpAny_askSetting (ao (ao q)))
theorem LJ{S:Addr}{es:Array (Int×Value)}{ep:Nat}{t:SetTable}(T:dQ prog w s.heap S es ep t)(sl i:Nat)(a:w.params.followText "set-order"=false)(c:es.size<=1)(Q:Option (Value×Nat)->Shared->Prop)
  (q:Q (match es[SetTable.below t.place sl]?,t.place[SetTable.below t.place sl]? with | some (_,x),some j=>some (x,j+1) | _,_=>none) s):wpAny (model prog w) A (setNext S sl i ep) Q E s:=by
 unfold setNext;show aa (wpAny_setState_of T.at_ rfl T.fits ?_);dsimp only;unfold setsByText;show aa (aa (wpAny_askSetting (ao ?_)));rw[show(model prog w).w.params.followText "set-order"=false from a];simp only[aq,aQ];have b:t.led=true:=by rw[T.marks.led,a];rfl
 have hd:(!t.plain&&decide (es.size>1))=false:=by
  rw[bg (by ext)];simp
 show wpAny_ite_split (λh=>absurd (show(!t.plain&&decide (es.size>1))=true from h) (by rw[hd];simp)) λ_=>?_
 show aa ?_;show wpAny _ _ (ite ((!t.led&&!es.isEmpty)=true) _ _) _ _ _;rw[b];simp only[Bool.not_true,Bool.false_and,aq,aQ];show ao (ao q)
theorem Et{I S:Addr}{h h':Heap}{es:Array (Int×Value)}{ep:Nat}{t:SetTable}(T:dQ prog w h S es ep t)(a:S≠I)(b:Heap.SameBut I h h'):dQ prog w h' S es ep t:=T.kept λo e=>by rw[b.2 S a];show e
abbrev Dw(a:List Value):Nat->Value->Prop:=λi v=>a[i]?=some v
theorem Ea{I S:Addr}{first:Value}{i n ep:Nat}{Q:Value->Shared->Prop}(b:s.heap.get? I=some (tj first i S n ep))(q:Q (.ref I) s):wpAny (model prog w) A (pyIter (.ref I)) Q E s:=by
 have a:s.TypeIs (.ref I) "set_iterator":=⟨_,b,rfl⟩
 show wpAny_pyIter_slot a JN (wpAny_call_entry JN a Qg ?_ (Qf _));show wpAny _ _ (ret (.ref I)) _ _ s;show ao ⟨_,rfl,"set_iterator",_,a,hV.lookup,q⟩
theorem SY{I S:Addr}{es:Array (Int×Value)}{ep:Nat}{t:SetTable}(u:S≠I)(n:w.params.followText "set-order"=true)(m:A.handled=none) :
  Walks prog w A I [I,S] [I] es.size (Dw ((pickOrder (w.params.setOrder S ep) es).toList.map (·.2))) (λi h=>h.get? I=some (tj (.int 0 0) i S es.size ep)/\dQ prog w h S es ep t):=by
 have r:=K3 (w.params.setOrder S ep) es;have y:(pickOrder (w.params.setOrder S ep) es).size=es.size:=by rw[<-af,r.length_eq,af]
 show⟨λb p=>by simp at p;simp[p],λi h h' st k=>⟨k I (by simp) _ st.1,st.2.kept (k S (by simp))⟩,λi s Q E hi st q=>?_,λs Q E st q=>?_,λi s Q E st q=>Ea st.1 q⟩
 .have l:i<(pickOrder (w.params.setOrder S ep) es).size:=by ext
  show Cs (sl:=0) m st.1 st.2 _ (λf v a=>KZ st.2 0 i n f a) (λx j e h' b g=>?_) (λe=>?_)
  .rw[Array.getElem?_eq_getElem l] at e;simp only[Option.map_some,aG,Prod.mk.injEq] at e;obtain⟨rfl,rfl⟩:=e;show q _ h' s.toks (by show(List.map _ _)[i]?=_;rw[aJ,Array.getElem?_toList,Array.getElem?_eq_getElem l];rfl) ⟨g,Et st.2 u b⟩ λc o d e=>by rw[b.2 c (by simpa using d)];show e
  rw[Array.getElem?_eq_getElem l] at e;cases e
 show Cs (sl:=0) m st.1 st.2 _ (λf v a=>KZ st.2 0 _ n f a) (λx j e=>?_) (λ_ h' b=>q h' s.toks λc o d e=>b c o (by simpa using d) e);rw[Array.getElem?_eq_none (by ext)] at e;cases e
theorem IQ(p j:Nat):SetTable.below #[p] j=if p<j then 1 else 0:=by
 unfold SetTable.below;simp only[aA,aD,List.length_nil,Nat.zero_add];unfold SetTable.below.go;simp;split<;>unfold SetTable.below.go<;>rfl
theorem JJ{b:Type}{a:Array b}(h:a.size=1):∃e,a=#[e]:=⟨a[0]'(by ext),Array.ext (by simpa using h) λi hi _=>by
 have:i=0:=by ext
 subst this;rfl⟩
theorem Ur{I S:Addr}{es:Array (Int×Value)}{ep:Nat}{t:SetTable}(D:S≠I)(u:w.params.followText "set-order"=false)(y:es.size<=1)(r:A.handled=none) :
  Walks prog w A I [I,S] [I] es.size (Dw (es.toList.map (·.2))) (λi h=>∃sl:Nat,h.get? I=some (tj (.int sl 0) i S es.size ep)/\dQ prog w h S es ep t/\(i=0->sl=0)/\(1<=i->∃p,t.place=#[p]/\sl=p+1)):=by
 show⟨λb v=>by simp at v;simp[v],λi h h' st k=>?_,λi s Q E hi st q=>?_,λs Q E st q=>?_,λi s Q E st q=>?_⟩
 .obtain⟨sl,a,T,b,c⟩:=st;show⟨sl,k I (by simp) _ a,T.kept (k S (by simp)),b,c⟩
 .obtain⟨sl,a,T,b,c⟩:=st;have H:es.size=1:=by ext
  have G:i=0:=by ext
  subst G;have n:=b rfl;subst n;obtain⟨e,rfl⟩:=JJ H;have C:=T.fits;simp only[SetTable.fits,Bool.and_eq_true,beq_iff_eq] at C;obtain⟨p,d⟩:=JJ (show t.place.size=1 from C.1);show Cs r a T (some (e.2,p+1)) (λm J f=>LJ T _ _ u y m ?_) (λx j F h' B g=>?_) (λz=>nomatch z)
  .rw[d,IQ,if_neg (Nat.not_lt_zero _)];show f
  cases F;show q _ h' s.toks rfl ⟨p+1,g,Et T D B,λz=>by ext,λ_=>⟨p,d,rfl⟩⟩ λc o l e=>by rw[B.2 c (by simpa using l)];show e
 .obtain⟨sl,a,T,b,c⟩:=st;show Cs r a T none (λm J f=>LJ T _ _ u y m ?_) (λx j e=>nomatch e) (λ_ h' b=>q h' s.toks λc o l e=>b c o (by simpa using l) e);have he:es[SetTable.below t.place sl]?=none:=by
   by_cases h0:es.size=0
   .exact Array.getElem?_eq_none (by ext)
   obtain⟨p,d,n⟩:=c (by ext);rw[d,n,IQ,if_pos (Nat.lt_succ_self _)];show Array.getElem?_eq_none (by ext)
  rw[he];show f
 obtain⟨sl,a,T,b,c⟩:=st;show Ea a q
theorem Uq{I S a:Addr}{es:Array (Int×Value)}{ep:Nat}{t:SetTable}{ps:List Nat}(u:S≠I)(v:a≠I)(l:ps.Perm (List.range es.size))(m:A.handled=none) :
  Walks prog w A I [I,a,S] [I] es.size (Dw (ps.map λp=>(es.getD p (0,.none)).2)) (λi h=>h.get? I=some (tj (.ref a) i S es.size ep)/\dQ prog w h S es ep t/\h.get? a=some { cls:=.type "tuple",data:=.seq (ps.map λ(p:Nat)=>rawInt p).toArray }):=by
 have j:∀p∈ps,p<es.size:=λp h=>bB.mp (l.mem_iff.mp h)
 have y:ps.length=es.size:=by rw[l.length_eq,br]
 show⟨λb n=>by simp at n;simp[n],λi h h' st k=>⟨k I (by simp) _ st.1,st.2.1.kept (k S (by simp)),k a (by simp) _ st.2.2⟩,λi s Q E hi st q=>?_,λs Q E st q=>?_,λi s Q E st q=>Ea st.1 q⟩
 .have x:i<ps.length:=by ext
  show Kj m st.1 st.2.1 st.2.2 (λp e d r h' b g=>?_) j (λz=>by rw[ai x] at z;cases z);show q _ h' s.toks ?_ ⟨g,Et st.2.1 u b,by rw[b.2 a v];show st.2.2⟩ λc o f e=>by rw[b.2 c (by simpa using f)];show e
  show(List.map _ _)[i]?=_;rw[aJ,d];simp[r]
 show Kj m st.1 st.2.1 st.2.2 (λp e d=>?_) j (λ_ h' b=>q h' s.toks λc o f e=>b c o (by simpa using f) e);rw[List.getElem?_eq_none (by ext)] at d;cases d
end
section
variable{prog:Program}{w:World}{A:Around}{E:Value->Shared->Prop}{s:Shared}
structure Laid(prog:Program)(w:World)(h:Heap)(a:Addr)(es:Array (Int×Value))(I:Addr)(h':Heap):Prop where
 ex:∃(fp:List Addr)(vals:List Value)(St:Nat->Heap->Prop),vals.Perm (es.toList.map (·.2))/\(∀A:Around,A.handled=none->Walks prog w A I fp [I] es.size (Dw vals) St)/\St 0 h'/\∀b∈fp,b=a\/h.objs.size<=b
 old:∀b o,h.get? b=some o->h'.get? b=some o
 new:h.objs.size<=I
 type:∃o,h'.get? I=some o/\o.cls=.type "set_iterator"
theorem SX{es:Array (Int×Value)}{ps:List Nat}(a:ps.Perm (List.range es.size)):(ps.map λp=>(es.getD p (0,.none)).2).Perm (es.toList.map (·.2)):=by
 show(a.map _).trans ?_;have e:(List.range es.size).map (λp=>(es.getD p (0,.none)).2)=es.toList.map (·.2):=by
  apply List.ext_getElem
  .simp
  intro i b c;have hi:i<es.size:=by simpa using b
  simp[Array.getD,hi]
 rw[e]
theorem Ro{a:Addr}{es:Array (Int×Value)}{ep:Nat}{t:SetTable}{Q:Value->Shared->Prop}(T:dQ prog w s.heap a es ep t)
  (q:∀(I:Addr)(h':Heap)(d:Drawn),Laid prog w s.heap a es I h'->Q (.ref I) { s with heap:=h',drawn:=d }):wpAny (model prog w) A (pyIter (.ref a)) Q E s:=by
 have m:s.TypeIs (.ref a) "set":=⟨_,T.at_,rfl⟩
 have r:a<s.heap.objs.size:=aF T.at_;show wpAny_pyIter_slot m PySem.F.slot_set_iter (wpAny_call_entry PySem.F.slot_set_iter m Rp ?_ (PySem.F.args_set_iter_1 _));show wpAny _ _ (Builtin.Frozenset.sizeOf a >>= _) _ _ s;unfold Builtin.Frozenset.sizeOf;show aa (aa (Fn T (ao ?_)));unfold setDrawn;show aa (aa (wpAny_setState_of T.at_ rfl T.fits ?_));dsimp only;unfold setsByText;show aa (aa (wpAny_askSetting (ao ?_)));show ao ?_;have here:∀(first:Value)(s1:Shared)(Q1:Fin->Shared->Prop)(c:dQ prog w s1.heap a es ep t),(∀o,o=tj first 0 a es.size ep->Q1 (.done (.ret (.ref s1.heap.objs.size))) { s1 with heap:=s1.heap.push o })->wpAny (model prog w) A.in1 (do
   let e <-setEpoch a
   let v <-newFields "set_iterator" [first,rawInt 0,Value.ref a,rawInt es.size,rawInt e]
   ret v) Q1 E s1:=by
  intro first s1 Q1 c x;show aa (wpAny_setEpoch_of c.at_ rfl c.fits ?_);show aa (wpAny_newObj_type (ao (x _ rfl)) (by size_fits))
 show wpAny_ite_split (λl=>?_) λl=>?_
 .refine aa (K4 es.size _ _ _ (by simp) λps d i=>?_);have B:ps.length<=sizeLine:=by rw[i.length_eq,br];show fits_of_scanBound T.small
  show aa (wpAny_newTuple ?_ (by rw[ae];show B));have c:dQ prog w (s.heap.push { cls:=.type "tuple",data:=.seq (ps.map λ(p:Nat)=>rawInt p).toArray }) a es ep t:=T.kept λo e=>aj _ e
  show here _ _ _ c λo j=>?_
  subst j;show⟨_,rfl,"set_iterator",_,⟨_,aB _ rfl,rfl⟩,hV.lookup,?_⟩;have hsz:(s.heap.push { cls:=.type "tuple",data:=.seq (ps.map λ(p:Nat)=>rawInt p).toArray }).objs.size=s.heap.objs.size+1:=Heap.size_push ..
  show q _ _ d ⟨⟨[_,s.heap.objs.size,a],_,_,SX i,λA f=>Uq (t:=t) (by rw[hsz];show aN (bY r)) (by rw[hsz];show aN (Nat.lt_succ_self _)) i f,
   ⟨aB _ rfl,c.kept λo e=>aj _ e,aj _ (aB _ rfl)⟩,λb g=>?_⟩,λb o e=>aj _ (aj _ e),by rw[hsz];show cj _,⟨_,aB _ rfl,rfl⟩⟩
  simp only[au,bC,or_false] at g;rcases g with rfl | rfl | rfl
  .right;rw[hsz];show cj _
  .right;show az _
  left;rfl
 show aa (ao ?_);show here _ _ _ T λo j=>?_
 subst j;show⟨_,rfl,"set_iterator",_,⟨_,aB _ rfl,rfl⟩,hV.lookup,?_⟩;have u:∀b∈[s.heap.objs.size,a],b=a\/s.heap.objs.size<=b:=λb g=>by
  simp only[au,bC,or_false] at g;rcases g with rfl | rfl
  .right;show az _
  left;rfl
 have n:a≠s.heap.objs.size:=aN r;have c:dQ prog w (s.heap.push (tj (rawInt 0) 0 a es.size ep)) a es ep t:=T.kept λo e=>aj _ e
 cases hf:w.params.followText "set-order" with
 | true=>
  show q _ _ s.drawn ⟨⟨_,_,_,(K3 (w.params.setOrder a ep) es).map _,λA f=>SY (t:=t) n hf f,⟨aB _ rfl,c⟩,u⟩,λb o e=>aj _ e,az _,⟨_,aB _ rfl,rfl⟩⟩
 | false=>
  have k:¬((!t.plain&&decide (es.size>1))=true):=λz=>l (by
   show(!(w.params.followText "set-order")&&(!t.plain&&decide (es.size>1)))=true;rw[hf,z];rfl)
  have y:es.size<=1:=by
   rcases T.marks.plain with h | h
   .omega
   rw[h] at k;simp at k;show k
  show q _ _ s.drawn ⟨⟨_,_,_,.refl _,λA f=>Ur (t:=t) n hf y f,⟨0,aB _ rfl,c,λ_=>rfl,λz=>by ext⟩,u⟩,λb o e=>aj _ e,az _,⟨_,aB _ rfl,rfl⟩⟩
theorem Rn{a:Addr}{Q:Bool->Shared->Prop}(d:s.TypeIs (.ref a) "set")(h:Q false s):wpAny (model prog w) A (Builtin.List.listLengthHint (.ref a)) Q E s:=by
 unfold Builtin.List.listLengthHint;show aa (wpAny_specialOf d PySem.F.slot_set_len.lookup ?_);generalize e:("set.__len__":String)=f;wp_delta
 rw[show splitId f=some ("set","__len__") from by subst e;decide +kernel];subst e;show aa (wpAny_isInstance (T:="set") (b:=true) d (by rw[isSubtype_type];kernel_rfl) ?_);show wpAny_ite_split (λc=>absurd c (by decide)) (λ_=>wpAny_ite_split (λ_=>?_) (λc=>absurd (by decide +kernel) c));show aa (wpAny_typeOf d (ao h))
theorem Up{R:Result->Shared->Prop}{a:Addr}{es:Array (Int×Value)}{ep:Nat}{t:SetTable}(T:dQ prog w s.heap a es ep t)(u:A.handled=none)(S:Addr)(B:S≠a)(res:Value)(x:Nat)(v:s.heap.get? S=some { cls:=.type "list",data:=.seq #[] x })
  (hR:∀h' d tk (acc:Array Value) i,(∀b o,b≠S->s.heap.get? b=some o->h'.get? b=some o)->h'.get? S=some { cls:=.type "list",dict:=none,data:=.seq acc i,slots:=#[] }->acc.toList.Perm (es.toList.map (·.2))->R (.ok (.ret res)) { s with heap:=h',drawn:=d,toks:=tk }) :
  wpAny (model prog w) A.in1 (Builtin.List.listExtendWith (.ref S) (.ref a) res) (λfin c=>match fin with | .done f=>R (.ok f) c | .again i=>i.quiet=true/\codeAny (model prog w) A i R c) (λe c=>R (.error e) c) s:=by
 have J:s.TypeIs (.ref a) "set":=⟨_,T.at_,rfl⟩
 have C:S<s.heap.objs.size:=aF v;unfold Builtin.List.listExtendWith;show aa (wpAny_typeOf (T:="set") J ?_);have N:Builtin.List.listSameRef (.ref S) (.ref a)=false:=by simp[Builtin.List.listSameRef,B]
 have M:(Value.type "set"==Value.type "list")=false:=by decide
 have K:(Value.type "set"==Value.type "tuple")=false:=by decide
 simp only[N,M,K,Bool.or_false,aq,aQ];show aa (Ro T λI h0 d L=>?_);obtain⟨fp,vals,St,q,W,st,P⟩:=L.ex;have n:S∉fp:=λz=>by
  rcases P S z with e | e
  .exact B e
  show Nat.lt_irrefl _ (aV C e)
 have V:S≠I:=λz=>Nat.lt_irrefl _ (aV C (z▸L.new))
 have go:∀(h:Heap)(c1 tk:Nat),St 0 h->(∀b o,b≠S->s.heap.get? b=some o->h.get? b=some o)->h.get? S=some { cls:=.type "list",data:=.seq #[] c1 }->
   codeAny (model prog w) A (.builtin "list.extend.loop" ⟨[.ref S,.ref I,res],[]⟩) R { s with heap:=h,drawn:=d,toks:=tk }:=by
  intro h c1 tk G H U;show codeAny_extend_loopS (W A.in1 u).toS (fits_of_scanBound T.small) S n res es.size 0 _ #[] c1 rfl (aZ _) G U (ItemsOf.nil _) λc k i hm E p=>?_
  rw[Moved.eq_with hm];show hR c.heap d c.toks k i (λb o g e=>hm.heap b o (λl=>?_) (H b o g e)) E ?_
  .rcases au.mp l with O | l
   .exact g O
   show absurd (aF e) (by rw[bp.mp l];show Nat.not_lt.mpr L.new)
  have e:k.toList=vals:=by
   apply List.ext_getElem?;intro j;by_cases r:j<k.size
   .have:=p.2 j k[j] (by simp[r]);rw[this];simp[r]
   have X:vals.length=es.size:=by rw[q.length_eq];simp
   have:=p.1;rw[List.getElem?_eq_none (by simp;ext),List.getElem?_eq_none (by ext)]
  rw[e];show q
 have m:=L.old _ _ v;show aa (bJ (Rn (s:={ s with heap:=h0,drawn:=d }) ⟨_,L.old _ _ T.at_,rfl⟩ ?_));show wpAny_ite_split (λ_=>?_) (λ_=>ao ⟨plainId_quiet PySem.F.plain_extend_loop _,go _ x _ st (λb o _ e=>L.old b o e) m⟩);show aa (wpAny_rule (aa ?_));show wpAny _ _ (updateSeq S (·.push .none) >>= λ_=>updateSeq S (·.pop)) _ _ _;show aa (wpAny_updateSeq m rfl ?_);have y:=Heap.get?_update_self (Obj.mapSeq (·.push Value.none)) m rfl;show wpAny_updateSeq (hz:=by seq_fits) y rfl ?_;have Q:=Heap.get?_update_self (Obj.mapSeq (·.pop)) y rfl;show ao ⟨plainId_quiet PySem.F.plain_extend_loop _,go _ _ _ ?_ (λb o g e=>?_) Q⟩
 .refine(W A.in1 u).frame 0 _ _ st λb g o e=>?_
  have D:b≠S:=λh=>n (h▸g)
  show(bj _ _ (Ne.symm D)).trans ((bj _ _ (Ne.symm D)).trans e)
 show(bj _ _ (Ne.symm g)).trans ((bj _ _ (Ne.symm g)).trans (L.old _ _ e))
end
section
variable{prog:Program}{w:World}{A:Around}{E:Value->Shared->Prop}{s:Shared}
theorem UE{R:List Value->Shared->Prop}{a:Addr}{es:Array (Int×Value)}{ep:Nat}{t:SetTable}(T:dQ prog w s.heap a es ep t)(n:A.handled=none)
  (h:∀(h':Heap)(d:Drawn)(tk:Nat)(m:List Value),s.heap.objs.size<h'.objs.size->(∀b o,s.heap.get? b=some o->h'.get? b=some o)->m.Perm (es.toList.map (·.2))->R m { s with heap:=h',drawn:=d,toks:=tk }):wpAny (model prog w) A (collect (.ref a)) R E s:=by
 have r:a<s.heap.objs.size:=aF T.at_;unfold collect;show aa (wpAny_runValue (codeAny_builtin entry_proto_collect' ?_));rw[b9 PySem.F.plain_proto_collect _];show wpAny _ A.in1 (newList [] >>= λl=>again (.builtin "list.__iadd__" ⟨[l,.ref a],[]⟩)) _ _ s;show aa (wpAny_newObj_type (ao ⟨plainId_quiet PySem.F.plain_list_iadd _,codeAny_builtin entry_list_iadd' ?_⟩));rw[b9 PySem.F.plain_list_iadd _];have u:(s.heap.push { cls:=.type "list",data:=.seq ([]:List Value).toArray }).get? s.heap.objs.size=some { cls:=.type "list",data:=.seq #[] }:=aB _ rfl;show wpAny _ A.in1 (Builtin.List.listExtendWith (.ref s.heap.objs.size) (.ref a) (.ref s.heap.objs.size)) _ _ _;have key:=Up (A:=A) (s:={ s with heap:=s.heap.push { cls:=.type "list",data:=.seq ([]:List Value).toArray } })
  (R:=λ(q:Result)(k:Shared)=>∃(h':Heap)(d:Drawn)(tk:Nat)(acc:Array Value)(j:Nat),q=.ok (.ret (.ref s.heap.objs.size))/\k={ s with heap:=h',drawn:=d,toks:=tk }/\
   (∀b o,s.heap.get? b=some o->h'.get? b=some o)/\h'.get? s.heap.objs.size=some { cls:=.type "list",dict:=none,data:=.seq acc j,slots:=#[] }/\acc.toList.Perm (es.toList.map (·.2)))
  (T.kept λo e=>aj _ e) n s.heap.objs.size (Nat.ne_of_gt r) (.ref s.heap.objs.size) 0 u
  (λh' d tk acc j i c g=>⟨h',d,tk,acc,j,rfl,rfl,λb o e=>i b o (aN (aF e)) (aj _ e),c,g⟩)
 show wpAny_mono key (λfin k x=>?_) λe k x=>?_
 .cases fin with
  | done f=>
   obtain⟨h',d,tk,acc,j,e,rfl,i,c,g⟩:=x;cases e;show wpAny _ A (load s.heap.objs.size >>= _) _ _ _;show aa (wpAny_load c (ao (h h' d tk acc.toList (aF c) i g)))
  | again c1=>
   show⟨x.1,codeAny_mono x.2 λq s2 y=>?_⟩;obtain⟨h',d,tk,acc,j,rfl,rfl,i,c,g⟩:=y;show wpAny _ A (load s.heap.objs.size >>= _) _ _ _;show aa (wpAny_load c (ao (h h' d tk acc.toList (aF c) i g)))
 obtain⟨_,_,_,_,_,p,_⟩:=x;cases p
theorem KY:∀{a:List Value},(∀v∈a,∃x t,v=.str x t)->StrsAre a (a.map strOf)
 | [],_=>.nil
 | v::r,h=>by
  obtain⟨x,t,rfl⟩:=h v (by simp);show .cons x t (KY λu b=>h u (by simp[b]))
theorem Uo{a:Addr}{es:Array (Int×Value)}{ep:Nat}{t:SetTable}{Q:Value->Shared->Prop}(T:dQ prog w s.heap a es ep t)(y:A.handled=none)(K:es.size<64)
  (h:∀(p:Addr)(h':Heap)(d:Drawn)(tk:Nat)(out:Array Value)(e:Nat)(ss:List Str),s.heap.objs.size<=p->(∀b o,s.heap.get? b=some o->h'.get? b=some o)->h'.get? p=some (seqObj "list" out e)->StrsAre out.toList ss->ss.Perm (keysOf es)->sortedS ss=true->Q (.ref p) { s with heap:=h',drawn:=d,toks:=tk }) :
  wpAny (model prog w) A (call (.builtin "sorted") [.ref a]) Q E s:=by
 show Calls.call_function_entry kind_sorted plain_sorted entry_sorted (args_sorted1 _) ?_;unfold Builtin.«sorted»;show aa (m:=checkCount "sorted" 1 1 _) (ao (aa (UE (A:=A.in1) T y λh' d tk c B i g=>?_)));have J:c.length=es.size:=by rw[g.length_eq];simp
 have I:∀v∈c,∃x t,v=.str x t:=λv r=>by
  obtain⟨e,he,rfl⟩:=aM.mp (g.mem_iff.mp r);obtain⟨⟨k,i,_⟩,_⟩:=T.el e he;obtain⟨t,u⟩:=Value.isStrOf_shape i;show⟨k,t,u⟩
 have j:=KY I;show aa (wpAny_newList ?_ (by rw[J];show fits_of_scanBound T.small));have f:(h'.push (seqObj "list" c.toArray 0)).get? h'.objs.size=some (seqObj "list" c.toArray 0):=aB _ rfl;show aa (bJ (wpAny_call_entry slot_list_sort ⟨_,f,rfl⟩ entry_list_sort (list_sort_treeK (s:={ s with heap:=h'.push (seqObj "list" c.toArray 0),drawn:=d,toks:=tk }) strKind_oneLt f j.keysOf (λv1 v2 lQ e=>keyKind_strs (by rw[<-e];show j)) (by ext) λC a1 a2=>⟨_,rfl,?_⟩) (args_list_sort _)));obtain⟨q,G,F,D⟩:=sorted_out_str j a1 a2;obtain⟨z,H⟩:=sortedHeap_at (out:=(arrOf C).map (·.2)) f;have hle:s.heap.objs.size<=h'.objs.size:=Nat.le_of_lt B;show ao ⟨_,rfl,h _ _ d tk _ z q hle (λb o e=>?_) H G (F.trans ?_) D⟩
 .have n:=i b o e;have l:b<h'.objs.size:=aF n;rw[sortedHeap_old (aN l) (by rw[size_push'];show bY l)];show aj _ n
 have:=g.map strOf;rw[aR] at this;show this
theorem Inv.draw{X:Cx}{b:List (Addr×Obj)}{a:St}{H:Hp}{s:Shared}(I:Inv X b a H s)(d:Drawn):Inv X b a H { s with drawn:=d }:=
 ⟨I.ok,I.os,I.bare,I.base,I.loc,I.cell,I.free,I.iO,I.pin,I.dU,I.len⟩
end
section
variable{X:Cx}{pos:Pos}{e:Expr}{te:TD}{ts:jP}{t:TA}
def Rm(K:J')(t:TA):TE:=λσ H Q=>t σ H λa H1=>∃(p:Addr)(ss:List Str),a=[.ref p]/\fH K H1 p (ss.map V.str)/\ss.length<4000/\(∀l:List Str,l.Nodup->(∀x∈l,x∈ss)->l.length<64)/\
 ∀l:List Str,l.Nodup->(∀x,x∈l↔x∈ss)->sortedS l=true->∀q,H1 q=none->Q (.ref q) (upd H1 q (.lst (l.map V.str)))
theorem Um{L g c:Pos}(n:X.calm=true)(G:X.mg "sorted"=none)(N:X.mg "set"=none)(ha:PA X [e] t)(A6:Gl X "sorted":=by rfl)(C:Gl X "set":=by rfl)
  (he:starEach [e] X.env=(false,eval e X.env)::starEach [] X.env:=by rfl) (l:starEach [.Call (.Name "set" g) [e] [] c] X.env=(false,eval (.Call (.Name "set" g) [e] [] c) X.env)::starEach [] X.env:=by rfl) :
  PE X (.Call (.Name "sorted" L) [.Call (.Name "set" g) [e] [] c] [] pos) (Rm X.K t):=by
 intro v s σ H Q I h;show wpAny_Call_Name_kw (tI I A6 G boot_sorted ?_ (by decide) (by decide));show PyProof.Rows.callWith_builtin1 ?_ l rfl;rw[l];show wpAny _ _ (spliced ((false,eval (.Call (.Name "set" g) [e] [] c) X.env)::backTo pos (starEach [] X.env))) _ _ s;show Calls.spliced_cons ?_;show wpAny_Call_Name_kw (tI I C N K8 ?_ (by decide) (by decide));show PyProof.Rows.callWith_type1 (dR (ha c v s σ H _ I h) λus s1 U=>?_) he rfl;obtain⟨vs,H1,i,F,J⟩:=U;obtain⟨p,ss,rfl,O,hn,Dg,q⟩:=J;obtain⟨u,rfl,E⟩:=kM F;cases E;obtain⟨its,D,pl,hz⟩:=i.list O;have P:=Fp D;show S0 (i.ok.hd n) pl.isList P (by have:scanBound=4096:=rfl;ext) λr y es ep tb T j Z=>?_
 have w:Inv X v σ H1 { s1 with heap:=r,toks:=y }:=i.kept λb o e=>Z b o (aF e) e
 show Calls.spliced_nil ?_;have hsz:es.size<64:=by
  have:=Dg (keysOf es) j.nd λx hx=>(j.mem x).mp hx
  simpa[keysOf] using this
 show Uo (s:={ s1 with heap:=r,toks:=y }) T (i.ok.hd n) hsz λpp R d B out S f m z M Y k W=>?_
 have A:f.Nodup:=k.nodup_iff.mpr j.nd;have C7:f.length<64:=by rw[k.length_eq];simpa[keysOf] using hsz
 have hf:H1 pp=none:=w.dU.fresh m;show⟨.ref pp,upd H1 pp (.lst (f.map V.str)),?_,rfl,q f A (λx=>by rw[k.mem_iff];show j.mem x) W pp hf⟩;have I3:=Inv.laid (t':=B) (Inv.draw w d) (h':=R) (a:=pp) (o:=.lst (f.map V.str)) z m ?_
 .exact I3
 show⟨by rw[ae];have:=Eu;ext,out.toList,S,EN Y,?_⟩;rw[Array.toArray_toList];show M
theorem FL{y c d:Pos}(B:X.calm=true)(w:X.mg "sorted"=none)(z:X.mg "set"=none)(ha:mW X [e] ts)(J:Gl X "sorted":=by rfl)(o:Gl X "set":=by rfl)
  (he:starEach [e] X.env=(false,eval e X.env)::starEach [] X.env:=by rfl) (m:starEach [.Call (.Name "set" c) [e] [] d] X.env=(false,eval (.Call (.Name "set" c) [e] [] d) X.env)::starEach [] X.env:=by rfl) :
  PD X (.Call (.Name "sorted" y) [.Call (.Name "set" c) [e] [] d] [] pos) (eW uy ts):=by
 obtain⟨t,pp,q⟩:=ha;show⟨_,Um B w z pp J o he m,λj σ I D G H Q P E h k=>q j σ I D G H _ _ E h λK L ds M x rs b=>?_⟩;unfold uy at b;split at b
 .split at b
  .rename_i es ss A;obtain⟨v,rfl,f⟩:=kY rs;simp only[Rep] at f;obtain⟨a,xs,rfl,i,g⟩:=f;rw[CG A] at g;rw[Cu g] at i;show⟨a,ss,rfl,(x.s.gq i).sq,b.1,b.2.1,λl nd hm so=>?_⟩;show tK x.s (K9 l) (b.2.2 l nd hm so) λv C r F n p u=>k v C r F (x.trans n) (p.iC x.h) u
  show b.elim
 show b.elim
end
section
variable{X:Cx}{pos:Pos}{e i':Expr}{te ti:TD}
def Zb(i:Nat):TX:=λD a=>match gt a i with
 | .ow _=>D.nx (a.set i (.ow []))
 | _=>False
def va(i:Nat)(te:TD):TX:=λD a=>match gt a i with
 | .ow ds=>te a λr=>match r with
  | .ow es=>ds.length+es.length<=sizeLine/\D.nx (a.set i (.ow (ds++es)))
  | _=>False
 | _=>False
theorem BU(i:Nat){x:Str}{n o c:Pos}(he:PD X e te)(L:X.N[i]?=some x:=by rfl)(I:oN X.env.scope x:=by first | show Or.inl rfl | show Or.inr (Or.inl rfl) | show Or.inr (Or.inr rfl))(hd:(x==("__debug__":Str))=false:=by decide)(C:(x==("__classdict__":Str))=false:=by decide)
  (B:starEach [e] X.env=(false,eval e X.env)::starEach [] X.env:=by rfl)
  (J:∀{m:TE}{t:TA},PE X (.Name x n) m->PA X [e] t->PE X (.Call (.Attribute (.Name x n) "extend" o) [e] [] c) (Ar X.K "list" JV m t):=by intro m t l j;show yS PySem.F.plainAttrs_list PySem.F.slot_list_extend PySem.F.type_list_extend TK l j) :
  PX X (.Expr (.Call (.Attribute (.Name x n) "extend" o) [e] [] c) pos) (va i te):=by
 obtain⟨t,p,q⟩:=he;show⟨_,zb (J (qe L I hd C) (qO p rG B)),λy σ P O G H D E k h g=>?_⟩;unfold va at h;split at h
 .rename_i ds s;obtain⟨a,xs,l,j,S,R,u⟩:=k.ow i ds s;show⟨_,l,.inl ⟨rfl,xs,fH.of j⟩,q y σ P O G H _ _ k h λv V r Q d z f=>?_⟩;split at f
  .rename_i es;obtain⟨b,zs,rfl,U,T,M,w⟩:=z;have A:=k.ext d;show⟨a,b,xs,zs,rfl,rfl,d.h _ _ j,M,by rw[u.length,w.length];show f.1,?_⟩;show g.nx _ _ Q _ d.g (A.change s l ((u.mono d.g).append w)) f.2
  show f.elim
 show h.elim
def xM(i:Nat)(ti te:TD):TX:=λD a=>match gt a i with
 | .ow ds=>te a λr=>ti a λrk=>match rk.val with
  | .int k=>∃j,pP ds.length k=some j/\D.nx (a.set i (.ow (ds.set j r.val)))
  | _=>False
 | _=>False
theorem Ki(i:Nat){x:Str}{c b:Pos}(hi:PD X i' ti)(he:PD X e te)(T:X.N[i]?=some x:=by rfl)(P:oN X.env.scope x:=by first | show Or.inl rfl | show Or.inr (Or.inl rfl) | show Or.inr (Or.inr rfl))(hd:(x==("__debug__":Str))=false:=by decide)(O:(x==("__classdict__":Str))=false:=by decide)
  (ha:∀v,assign (.Subscript (.Name x c) i' b) X.env v=(do
   let ov <-holding [v] (eval (.Name x c) X.env)
   let n <-holding [v,ov] (eval i' X.env)
   standAt b
   holding [v,ov,n] (setItem ov n v)
   release [v,ov,n] []):=by intro _;rfl)
  (Q:swapsWithSole [.Subscript (.Name x c) i' b] e pos.line X.env=pure false:=by rfl) (hw:swappedStores [.Subscript (.Name x c) i' b] e X.env=pure none:=by rfl)
  (l:(assignEach [.Subscript (.Name x c) i' b] X.env).map (·.2)=[assign (.Subscript (.Name x c) i' b) X.env]:=by rfl) :
  PX X (.Assign [.Subscript (.Name x c) i' b] e pos) (xM i ti te):=by
 obtain⟨t,p,q⟩:=he;obtain⟨t2,Ax,L⟩:=hi;show⟨_,Jc p (Pk (qe T P hd O) Ax Sb ha) Q hw l,λo σ B A G H D E k h g=>?_⟩;unfold xM at h;split at h
 .rename_i ds y;obtain⟨a,xs,l,U,h3,h4,z⟩:=k.ow i ds y;show q o σ B A G H _ _ k h λv W r G' F J R=>?_
  obtain⟨Z,w,I,_⟩:=J.freeze F;show⟨_,l,L o σ B A Z W _ _ (k.ext w) R λu H3 rk G3 C K d=>?_⟩;obtain⟨Y,s,m,_⟩:=K.freeze C;split at d
  .rename_i M V;obtain⟨j,S,d⟩:=d;rw[V] at m;simp only[Rep] at m;have f:=w.trans s;show⟨a,xs,M,j,rfl,m,f.h _ _ U,by rw[z.length];show S,?_⟩;show g.nx _ _ Y _ f.g ((k.ext f).change y l ((z.mono f.g).set j (I.mono s.g))) d
  show d.elim
 show h.elim
def IP:TX:=λ_ _=>False
theorem Rj{st:Stmt}:PX X st IP:=⟨_,Sk,λ_ _ _ _ _ _ _ _ _ h _=>h.elim⟩
end
section
variable{κ:Type}[DecidableEq κ]
noncomputable def p9(b:List (κ×V))(k:κ):Option V:=(b.find? λa=>decide (a.1=k)).map (·.2)
noncomputable def ua(b:List (κ×V))(k:κ)(v:V):List (κ×V):=
 if (b.any λa=>decide (a.1=k))=true then b.map (λa=>if a.1=k then(a.1,v) else a) else b++[(k,v)]
theorem Kh{p:κ×V}{r:List (κ×V)}{k:κ}(e:p.1=k):p9 (p::r) k=some p.2:=by simp[p9,List.find?_cons,e]
theorem Kg{p:κ×V}{r:List (κ×V)}{k:κ}(e:¬p.1=k):p9 (p::r) k=p9 r k:=by simp[p9,List.find?_cons,e]
theorem Es(k:κ):∀a:List (κ×V),(a.any λb=>decide (b.1=k))=(p9 a k).isSome
 | []=>rfl
 | p::r=>by
  rw[List.any_cons];by_cases e:p.1=k
  .simp only[Kh e,decide_eq_true e,Bool.true_or,Option.isSome_some]
  rw[Kg e,bg e,Bool.false_or];show Es k r
theorem UD(a:List (κ×V))(k:κ)(v:V):(ua a k v).length<=a.length+1:=by
 unfold ua;split
 .rw[ae];ext
 rw[ay,aD,List.length_nil];ext
theorem kI.mG{o:Option V}{u:Option Value}(r:kI o u):o.isSome=u.isSome:=by
 cases o with
 | none=>cases u with
  | none=>rfl
  | some _=>show(show False from r).elim
 | some _=>cases u with
  | none=>show(show False from r).elim
  | some _=>rfl
theorem kI.getD{o:Option V}{u:Option Value}{d:V}{d':Value}(r:kI o u)(a:RelV d d'):RelV (o.getD d) (u.getD d'):=by
 cases o with
 | none=>cases u with
  | none=>show a
  | some _=>show(show False from r).elim
 | some _=>cases u with
  | none=>show(show False from r).elim
  | some _=>show r
end
theorem Ox{P:Program}{w:World}{k:Key}{u:Value}(r:RelV (kV k) u):(rJ P w).is k u=true:=by
 cases k with
 | inl i=>obtain⟨t,e⟩:=(show ∃t,u=Value.int i t from r);subst e;show UK P w i t
 | inr x=>obtain⟨t,e⟩:=(show ∃t,u=Value.str x t from r);subst e;show UJ P w x t
structure M2(X:Cx)(o:Expr)(m:Str)(apos:Pos)(e f:Expr)(g7:Pos):Prop where
 base:attributeBase o m X.env (eval o X.env)=eval o X.env
 vH:((backTo g7 (starEach [e,f] X.env)).all (λx=>!x.1)&&(backToKw g7 (keywordEach [] X.env)).all (λx=>x.1.isSome)
  && decide (([e,f]:List Expr).length+([]:List Keyword).length+(if ([]:List Keyword).isEmpty then 0 else 1)<30))=true
 line:(apos.endLine==g7.line)=true
 trees:backTo g7 (starEach [e,f] X.env)=[(false,eval e X.env),(false,eval f X.env)]
section
variable{X:Cx}{K':List (Addr×Obj)}{σ:St}{H:Hp}{s:Shared}{a:Addr}{y v:V}{u r:Value}{o:Option V}{A:Around}{E:Value->Shared->Prop}
theorem Inv.big(I:Inv X K' σ H s):sysModules<s.heap.objs.size:=by
 have h:mainGlobals<s.heap.objs.size:=(I.mod.glob.keeps I.bk).lt;show Nat.lt_trans (by decide) h
theorem Qe{h':Heap}{t':Nat}{ob:HO}(I:Inv X K' σ H s)(c:Bo (H a))(d:Heap.SameBut a s.heap h')(he:∃q,h'.get? a=some q)(new:dZ X.prog X.w (upd H a ob) h' a ob) :
  Inv X K' σ (upd H a ob) { s with heap:=h',toks:=t' }:=
 I.write (x:=a) (e:=a) c (.inl rfl) (λb q f z=>(d.2 b f).trans z) he new
end
end L2
namespace PySem
open Sem (wp)
end PySem
namespace L2
open PySem PySem.Spec PyProof.Rows
noncomputable def vN:D->Option Key
 | .int i=>some (.inl i)
 | .str x=>some (.inr x)
 | _=>none
theorem Ri{K:J'}{G:Hp}{v:V}{d:D}{k:Key}(r:Rep K G v d)(h:vN d=some k):v=kV k:=by
 cases d<;>simp only[vN,aG,reduceCtorEq] at h<;>subst h<;>simp only[Rep] at r<;>subst r<;>rfl
noncomputable def look(b:List (Key×D))(k:Key):Option D:=(b.find? λa=>decide (a.1=k)).map (·.2)
section
variable{K:J'}{G:Hp}
theorem eT.nil:eT K G [] []:=by simp only[eT]
end
section
variable{X:Cx}{pos:Pos}{e i':Expr}{te ti tv:TD}
def Ow(i:Nat)(ti:TD):TD:=λa Q=>match gt a i with
 | .ov (.dc b)=>ti a λrk=>∃k d,vN rk.val=some k/\look b k=some d/\Q (.fz d)
 | _=>False
def xH(i:Nat):TX:=λD a=>match gt a i with
 | .ov o=>D.rt (.ov o)
 | _=>False
theorem JI(i:Nat){x:Str}{d:Pos}(n:X.N[i]?=some x:=by rfl)(l:oN X.env.scope x:=by first | show Or.inl rfl | show Or.inr (Or.inl rfl) | show Or.inr (Or.inr rfl))(hd:(x==("__debug__":Str))=false:=by decide)
  (j:(x==("__classdict__":Str))=false:=by decide):PX X (.Return (some (.Name x d)) pos) (xH i):=by
 show⟨_,D6 (qe n l hd j),λt σ w v G H D E k h g=>?_⟩;unfold xH at h;split at h
 .rename_i o m;obtain⟨own,u,f⟩:=k.on;obtain⟨a,fp,s,r,p,c⟩:=f i _ m;show⟨_,s,g.rt _ H (.ov o) G k.e ⟨a,fp,rfl,r,p,λq b=>⟨(c q b).2.1,(c q b).1⟩⟩ h⟩
 show h.elim
end
section
variable{K:J'}{G H:Hp}
theorem cW.length:∀{a:List Addr}{b:List (List D)},cW K G H a b->a.length=b.length
 | [],[],_=>rfl
 | q::a,ds::b,h=>by
  simp only[cW] at h;simp only[aD,cW.length h.2]
 | [],_::_,h=>by simp only[cW] at h
 | _::_,[],h=>by simp only[cW] at h
theorem cW.snoc{p:Addr}{ds:List D}{a:List V}:∀{b:List Addr}{e:List (List D)},cW K G H b e->H p=some (.lst a)->cA K G a ds->cW K G H (b++[p]) (e++[ds])
 | [],[],_,d,c=>by simp only[List.nil_append,cW];show⟨⟨a,d,c⟩,trivial⟩
 | q::b,es::e,h,d,c=>by
  simp only[cW] at h;simp only[cg,cW];show⟨h.1,cW.snoc h.2 d c⟩
 | [],_::_,h,_,_=>by simp only[cW] at h
 | _::_,[],h,_,_=>by simp only[cW] at h
theorem cW.get:∀{a:List Addr}{b:List (List D)}{j:Nat}{ds:List D},cW K G H a b->b[j]?=some ds->∃q xs,a[j]?=some q/\H q=some (.lst xs)/\cA K G xs ds
 | [],[],j,ds,_,e=>by simp at e
 | q::a,es::b,0,ds,h,e=>by
  simp only[cW] at h;simp only[List.getElem?_cons_zero,aG] at e;subst e;obtain⟨⟨xs,d,c⟩,_⟩:=h;show⟨q,xs,rfl,d,c⟩
 | q::a,es::b,j+1,ds,h,e=>by
  simp only[cW] at h;simp only[bX] at e ⊢;show cW.get h.2 e
 | [],_::_,_,_,h,_=>by simp only[cW] at h
 | _::_,[],_,_,h,_=>by simp only[cW] at h
theorem cW.set{q:Addr}{ys:List V}{es:List D}(c:cA K G ys es):∀{a:List Addr}{b:List (List D)}{j:Nat},cW K G H a b->a.Nodup->a[j]?=some q->cW K G (upd H q (.lst ys)) a (b.set j es)
 | [],[],j,_,_,e=>by simp at e
 | r::a,ds::b,0,h,nd,e=>by
  simp only[cW] at h;simp only[List.getElem?_cons_zero,aG] at e;subst e;simp only[List.set_cons_zero,cW];show⟨⟨ys,iU,c⟩,h.2.mono (cO.refl _) λp d xs e=>?_⟩;rw[eU (λz:p=r=>(bV.mp nd).1 (z▸d))];show e
 | r::a,ds::b,j+1,h,nd,e=>by
  simp only[cW] at h;simp only[bX] at e;simp only[List.set_cons_succ,cW];show⟨?_,cW.set c h.2 (bV.mp nd).2 e⟩;obtain⟨⟨xs,g,f⟩,_⟩:=h;show⟨xs,?_,f⟩;rw[eU (λz:r=q=>(bV.mp nd).1 (z▸aI e))];show g
 | [],_::_,_,h,_,_=>by simp only[cW] at h
 | _::_,[],_,h,_,_=>by simp only[cW] at h
end
def yV(f:lP)(m:List (Option Nat))(g:jx)(tc:jU)(te:TD):TD:=λc Q=>f c λds=>∃a:Nat->List (List D)->Prop,a 0 []/\
 (∀i d acc,ds[i]?=some d->a i acc->g d (hJ m c) λe=>tc e λb=>if b=true then te e λr=>match r with
  | .ow es=>acc.length<sizeLine/\a (i+1) (acc++[es])
  | _=>False
  else a (i+1) acc)/\∀acc,a ds.length acc->Q (.ov (.ll acc))
section
variable{X:Cx}{elt iter tg:Expr}{ifs:List Expr}{scope:Scope}{pos:Pos}{N':List Str}{m:List (Option Nat)}{wi:lP}{g:jx}{tc:jU}{te:TD}
theorem Rh(cs:du X N' m scope)(hk:qM m g){ww:TI}{gg:rg TG}{An:rg TT}{N:rg TE}
  (q1:∀(r:Ev)(σ:St)(x w G H:Hp)(Q:List D->Prop)(P:It->Hp->Prop),eE X.K x w r σ G H->wi r Q->(∀J t ds l,Ext G H l t->ub X.K J l ds->Q ds->P J t)->ww σ H P)
  (q2:∀s3 y ex (r:Ev) (σ:St) (x w G H:Hp) (d:D) (v:V) (Q:Ev->Prop) (P:St->Hp->Prop),eE X.K x w r σ G H->Rep X.K G v d->g d r Q->(∀ρ' I l t,eE X.K x w ρ' I l t->Ext G H l t->Q ρ'->P I t)->gg s3 y ex v σ H P)
  (q3:∀s3 y ex (r:Ev) (σ:St) (x w G H:Hp) (Q:Bool->Prop) (P:Bool->Hp->Prop),eE X.K x w r σ G H->tc r Q->(∀b t l,Ext G H l t->Q b->P b t)->An s3 y ex σ H P)
  (q4:∀s3 y ex,rh X.K te (N s3 y ex)):rh X.K (yV wi m g tc te) (yR ww m gg An N):=by
 show λr σ x w G H Q P E h k=>q1 r σ x w G H _ _ E h λJ H1 ds u C wk f=>?_
 obtain⟨Iv,i0,turn,fin⟩:=f;intro D Y s3 ex;have E1:=E.ext C;have HA:u D=none:=C.s.free Y;have F:∀{i:Nat}{es:List L2.D},gt (hJ m r) i=.ow es->False:=λ{i es} h=>by
  unfold hJ at h;rw[tH] at h;split at h
  .rename_i o _;unfold qH at h;split at h
   .cases h
   split at h<;>cases h
  cases h
 have rZ:∀{i:Nat}{o:OV},gt (hJ m r) i=.ov o->False:=λ{i o} h=>by
  unfold hJ at h;rw[tH] at h;split at h
  .rename_i o _;unfold qH at h;split at h
   .cases h
   split at h<;>cases h
  cases h
 have lR:eE X.K u H1 (hJ m r) (si m σ) u (upd H1 D (.lst [])):=by
  show⟨.own C.s Y,by simp[si,hJ],λi d h=>?_,λi es h=>(F h).elim,λi j es fs _ h=>(F h).elim,λ_=>none,λi es _ h=>(F h).elim,λi o h=>(rZ h).elim⟩;unfold hJ at h;rw[tH] at h;split at h
  .rename_i o ho;unfold qH at h;split at h
   .cases h
   rename_i j;split at h
   .rename_i d' uP;cases h;obtain⟨v,hv,rv⟩:=E1.fz j d uP;show⟨v,?_,rv⟩;unfold si;rw[aJ,ho];simp[hv]
   cases h
  cases h
 show⟨λi n I t=>n=ds.length-i/\i<=ds.length/\∃acc fp l,eE X.K u H1 (hJ m r) I l t/\t D=some (.lst (fp.map V.ref))/\l D=none/\cW X.K l t fp acc/\(D::fp).Nodup/\(∀q∈fp,H1 q=none/\l q=none)/\Iv i acc,
  ⟨ds.length,by simp,aZ _,[],[],u,lR,iU,HA,by simp only[cW],by simp,λq f=>(by cases f),i0⟩,?_⟩
 rintro i n I t ⟨rfl,hi,acc,fp,l,M,hx,A7,rx,nd,fr,iv⟩;by_cases di:i<ds.length
 .obtain⟨w1,w2⟩:=wk;obtain⟨go,yl⟩:=w1 i ds[i] l t (ai di) M.e.g M.e.s;show .inr ⟨go,λmf A=>∃acc fp l,eE X.K u H1 (hJ m r) mf l A/\A D=some (.lst (fp.map V.ref))/\l D=none/\cW X.K l A fp acc/\(D::fp).Nodup/\(∀q∈fp,H1 q=none/\l q=none)/\Iv (i+1) acc,λmf A h2=>⟨ds.length-(i+1),by ext,rfl,di,h2⟩,λv A hy=>?_⟩;obtain⟨G2,x2,rv⟩:=yl v A hy;show q2 _ _ _ (hJ m r) I u H1 G2 A ds[i] v _ _ (M.ext x2) rv (hk _ _ _ (turn i ds[i] acc (ai di) iv)) λt9 mJ G3 y E3 x3 gN=>?_
  obtain⟨gN,Hh,yr⟩:=gN;have weak:∀j,gt (hJ m r) j=.un\/gt (hJ m r) j=gt t9 j:=λj=>by
   cases hm:m[j]? with
   | none=>left;unfold hJ;rw[tH,hm]
   | some o=>
    cases o with
    | none=>left;unfold hJ;rw[tH,hm];rfl
    | some c=>right;show(yr j c hm).symm
  have F1:=x2.trans x3;show q3 _ _ _ t9 mJ u H1 G3 y _ _ E3 gN λb H4 S x4 U=>?_
  have R:=F1.trans x4;have E4:=(E3.ext x4).weak (ρ':=hJ m r) (Hh.symm) weak;have T:H4 D=some (.lst (fp.map V.ref)):=R.h _ _ hx;have A5:S D=none:=R.n D A7 (by rw[hx];show nofun);have O:cW X.K S H4 fp acc:=rx.mono R.g λq _ zs e=>R.h _ _ e
  have Z:∀q∈fp,H1 q=none/\S q=none:=λq f=>⟨(fr q f).1,R.n q (fr q f).2 (rx.here q f)⟩
  cases b with
  | false=>
   rw[if_neg aW] at U ⊢;show⟨acc,fp,S,E4,T,A5,O,nd,Z,U⟩
  | true=>
   rw[if_pos rfl] at U ⊢;show q4 _ _ _ t9 mJ u H1 S H4 _ _ (E3.ext x4) U λv5 H5 r5 G5 B Ge W=>?_
   split at W
   .rename_i es;obtain⟨p,zs,rfl,c1,c2,c3,c4⟩:=Ge;have L:=E4.ext B;have GJ:H5 D=some (.lst (fp.map V.ref)):=B.h _ _ T;have A4:G5 D=none:=B.n D A5 (by rw[T];show nofun);have M5:p≠D:=λz=>by rw[z,T] at c1;cases c1
    have Yg:p∉fp:=λz=>O.here p z c1
    have YK:D∉fp:=λz=>(bV.mp nd).1 z
    have r6:cW X.K G5 (upd H5 D (.lst ((fp++[p]).map V.ref))) (fp++[p]) (acc++[es]):=by
     show cW.snoc (O.mono B.g λq f ys e=>?_) ?_ c4
     .rw[eU (λz:q=D=>YK (z▸f))];show B.h _ _ e
     rw[eU M5];show c3
    show⟨fp.map V.ref,GJ,by rw[ae,O.length];show W.1,acc++[es],fp++[p],G5,?_,by rw[show fp.map V.ref++[V.ref p]=(fp++[p]).map V.ref by simp];show iU,A4,by rw[show fp.map V.ref++[V.ref p]=(fp++[p]).map V.ref by simp];show r6,?_,λq f=>?_,W.2⟩
    .refine⟨⟨L.e.g,λb o e=>by rw[eU (kZ e Y)];show L.e.h b o e,λb o e=>by rw[eU (kZ e A4)];show L.e.s b o e,L.e.n⟩,L.len,L.fz,λi es h=>(F h).elim,λi j es fs _ h=>(F h).elim,λ_=>none,λi es _ h=>(F h).elim,λi o h=>(rZ h).elim⟩
    .rw[bV] at nd ⊢;show⟨λz=>?_,?_⟩
     .rcases aw.mp z with z | z
      .exact nd.1 z
      simp at z;show M5 z.symm
     rw[List.nodup_append];show⟨nd.2,by simp,λa ha b hb=>?_⟩;simp at hb;subst hb;show λz=>Yg (z▸ha)
    rcases aw.mp f with f | f
    .exact⟨(Z q f).1,B.n q (Z q f).2 (O.here q f)⟩
    simp at f;subst f;show⟨E4.e.h.free c1,c2⟩
   show W.elim
 have e:i=ds.length:=by ext
 subst e;show .inl ⟨wk.2 l t M.e.g M.e.s,k _ t (.ov (.ll acc)) l (C.trans M.e) ⟨D,fp,rfl,nd,⟨hx,rx⟩,λq f=>?_⟩ (fin acc iv)⟩;rcases au.mp f with rfl | f
 .exact⟨C.h.free Y,A7⟩
 show⟨C.h.free (fr q f).1,(fr q f).2⟩
theorem Rg(j:X.calm=true)(d:du X N' m scope)(i:qM m g)(hi:PId X tg iter wi)(c:∀s3 a ex,sV (ju X N' scope s3 a ex) tg g)(b:∀s3 a ex,xr (ju X N' scope s3 a ex) ifs tc)
  (he:∀s3 a ex,PD (ju X N' scope s3 a ex) elt te) (h:∀x,foldedSetIterable iter X.env x=pure x:=by intro _;rfl):PD X (.ListComp elt [⟨tg,iter,ifs,0⟩] scope pos) (yV wi m g tc te):=by
 obtain⟨ww,f,e⟩:=hi;show⟨_,JT (g:=λs3 a ex=>(c s3 a ex).choose) (tc:=λs3 a ex=>(b s3 a ex).choose) (te:=λs3 a ex=>(he s3 a ex).choose) j d f (λs3 a ex=>(c s3 a ex).choose_spec.1) (λs3 a ex=>(b s3 a ex).choose_spec.1) (λs3 a ex=>(he s3 a ex).choose_spec.1) h,
  Rh d i e (λs3 a ex=>(c s3 a ex).choose_spec.2) (λs3 a ex=>(b s3 a ex).choose_spec.2) (λs3 a ex=>(he s3 a ex).choose_spec.2)⟩
end
section
variable{X:Cx}{pos:Pos}{e i':Expr}{te ti:TD}
def BB(i:Nat)(ti te:TD):TX:=λD a=>match gt a i with
 | .ov (.ll b)=>ti a λrk=>match rk.val with
  | .int k=>∃j ds,pP b.length k=some j/\b[j]?=some ds/\te a λr=>ds.length<sizeLine/\D.nx (a.set i (.ov (.ll (b.set j (ds++[r.val])))))
  | _=>False
 | _=>False
theorem Qd(i:Nat){x:Str}{s o C c:Pos}(hi:PD X i' ti)(he:PD X e te)(hN:X.N[i]?=some x:=by rfl)(hv:oN X.env.scope x:=by first | show Or.inl rfl | show Or.inr (Or.inl rfl) | show Or.inr (Or.inr rfl))(hd:(x==("__debug__":Str))=false:=by decide)
  (iD:(x==("__classdict__":Str))=false:=by decide) (Yf:Ca i':=by intro _ _;rfl) (iW:starEach [e] X.env=(false,eval e X.env)::starEach [] X.env:=by rfl)
  (y:∀{m:TE}{t:TA},PE X (.Subscript (.Name x s) i' o) m->PA X [e] t->PE X (.Call (.Attribute (.Subscript (.Name x s) i' o) "append" C) [e] [] c) (Ar X.K "list" Eg m t):=by intro m t h1 h2;show yS PySem.F.plainAttrs_list PySem.F.slot_list_append PySem.F.type_list_append ES h1 h2) :
  PX X (.Expr (.Call (.Attribute (.Subscript (.Name x s) i' o) "append" C) [e] [] c) pos) (BB i ti te):=by
 obtain⟨t,p,q⟩:=he;obtain⟨t2,Ax,q2⟩:=hi;show⟨_,zb (y (DR pO (qe hN hv hd iD) Ax Yf) (qO p rG iW)),λA σ T R G H D E k h g=>?_⟩;unfold BB at h;split at h
 .rename_i eQ L;obtain⟨own,o1,o2⟩:=k.on;obtain⟨a,fp,Q,b2,⟨ha,J⟩,b4⟩:=o2 i _ L;show⟨_,Q,q2 A σ T R G H _ _ k h λu H1 rk G1 x1 Gf d=>?_⟩;obtain⟨G2,l,w,_⟩:=Gf.freeze x1;split at d
  .rename_i I e1;obtain⟨j,ds,hj,W,d⟩:=d;rw[e1] at w;simp only[Rep] at w;obtain⟨n,xs,c1,P,O⟩:=J.get W;have mQ:fc (fp.map V.ref) I=some (.ref n):=by
    unfold fc;rw[ae,J.length,hj];simp[c1]
   show⟨a,fp.map V.ref,I,_,rfl,w,fH.of (l.h _ _ ha),mQ,.inl ⟨rfl,xs,fH.of (l.h _ _ P)⟩,?_⟩;show q A σ T R G2 H1 _ _ (k.ext l) d λv H3 r G3 Z rW M=>?_
   obtain⟨G4,Y,oW,_⟩:=rW.freeze Z;have f:=l.trans Y;show⟨n,xs,v,rfl,rfl,f.h _ _ P,by rw[O.length];show M.1,?_⟩;show g.nx _ _ G4 _ f.g ((k.ext f).pZ L Q λB nd ow=>?_) M.2;obtain⟨U,qp⟩:=ow;have e3:B=fp:=by
    have:=(f.h _ _ ha).symm.trans U;injection this with this
    injection this with this
    show((List.map_inj_right λa b h=>by cases h;rfl).mp this).symm
   subst e3;have S:=bV.mp nd;show⟨B,nd,⟨?_,qp.set ((O.mono f.g).append (cA.cons oW cA.nil)) S.2 c1⟩,λq hq=>.inl hq,λb y _=>eU λz=>y (by rw[z];show aK _ (aI c1))⟩;rw[eU (λz:a=n=>S.1 (z▸aI c1))];show U
  show d.elim
 show h.elim
end
noncomputable def Ip:R->Bool
 | .fz d=>tm d
 | .ow ds=>ds.all tm
 | .ov (.dc a)=>a.all λp=>tm p.2
 | _=>false
def BS(i:Nat)(te:TD):TD:=λa Q=>te (lZ i a) λr=>Ip r=true/\Q r
theorem KW{K:J'}{G b:Hp}:∀{a:List V}{ds:List D},ds.all tm=true->cA K G a ds->cA K b a ds
 | [],[],_,_=>cA.nil
 | v::a,d::ds,h,r=>by
  simp only[cA] at r;rw[List.all_cons,Bool.and_eq_true] at h;show cA.cons (Ct h.1 r.1) (KW h.2 r.2)
 | [],_::_,_,r=>by simp only[cA] at r
 | _::_,[],_,r=>by simp only[cA] at r
theorem KU{K:J'}{G c:Hp}:∀{b:List (Key×V)}{a:List (Key×D)},(a.all λp=>tm p.2)=true->eT K G b a->eT K c b a
 | [],[],_,_=>eT.nil
 | v::e,d::ds,h,r=>by
  simp only[eT] at r ⊢;rw[List.all_cons,Bool.and_eq_true] at h;show⟨⟨r.1.1,Ct h.1 r.1.2⟩,KU h.2 r.2⟩
 | [],_::_,_,r=>by simp only[eT] at r
 | _::_,[],_,r=>by simp only[eT] at r
theorem Qc{K:J'}{te:TD}{j:TE}(i:Nat)(q:rh K te j):rh K (BS i te) j:=by
 intro z σ u s G H Q P E h k;obtain⟨L,n,y,_⟩:=E.mT i;show q _ σ u s _ H _ _ y h λv t r w x e b=>?_
 have l:=KN n x;show k v t r (vO w L) l ?_ b.2;have a:=b.1;cases r with
 | fz d=>show Ct a e
 | ow ds=>
  obtain⟨p,xs,rfl,c1,g,f,c⟩:=e;show⟨p,xs,rfl,c1,?_,f,KW a c⟩;unfold vO;split
  .rfl
  show g
 | ov o=>
  cases o with
  | dc A=>
   obtain⟨p,fp,rfl,c1,⟨rfl,m,ep,g,f⟩,c⟩:=e;show⟨p,[],rfl,c1,⟨rfl,m,ep,g,KU a f⟩,λq b=>⟨(c q b).1,?_⟩⟩;unfold vO;split
   .rfl
   show(c q b).2
  | ll=>cases a
  | dl=>cases a
  | tl=>cases a
  | ld=>cases a
  | dt=>cases a
  | tp=>cases a
  | ob=>cases a
  | dq=>cases a
section
variable{X:Cx}{elt iter tg:Expr}{ifs:List Expr}{scope:Scope}{pos:Pos}{N':List Str}{m:List (Option Nat)}{wi:lP}{g:jx}{tc:jU}{te:TD}
theorem Rf(j i:Nat){x:Str}{b e:Pos}(z:X.calm=true)(f:du X N' m scope)(w:qM m g)(hi:PId X tg iter wi)(d:∀s3 a ex,sV (ju X N' scope s3 a ex) tg g)(c:∀s3 a ex,xr (ju X N' scope s3 a ex) ifs tc)
  (he:∀s3 a ex,PD (ju X N' scope s3 a ex) elt te) (A:X.N.Nodup:=by assumption) (n:X.N[i]?=some x:=by rfl) (hx:Loc X.env.scope x:=by first | show Or.inl rfl | show Or.inr rfl) (t:∀x,foldedSetIterable iter X.env x=pure x:=by intro _;rfl)
  (o:swapsWith (.ListComp elt [⟨tg,iter,ifs,0⟩] scope pos) (some (.Name x b)) e.line X.env=pure true:=by rfl)
  (y:X.fn x=true\/X.env.scope.names.lookup x=some .local:=by first | show .inl rfl | show .inr rfl | assumption) :
  PX X (.Assign [.Name x b] (.ListComp elt [⟨tg,iter,ifs,0⟩] scope pos) e) (jr i (BS j (fD wi m g tc te))):=by
 obtain⟨ww,s,q⟩:=hi;show⟨_,Ef (g:=λs3 a ex=>(d s3 a ex).choose) (tc:=λs3 a ex=>(c s3 a ex).choose) (te:=λs3 a ex=>(he s3 a ex).choose) A n hx z f s (λs3 a ex=>(d s3 a ex).choose_spec.1) (λs3 a ex=>(c s3 a ex).choose_spec.1) (λs3 a ex=>(he s3 a ex).choose_spec.1) t o y,λl σ I C G H D E k h B=>?_⟩;show Qc j (B6 f w q (λs3 a ex=>(d s3 a ex).choose_spec.2) (λs3 a ex=>(c s3 a ex).choose_spec.2) (λs3 a ex=>(he s3 a ex).choose_spec.2)) l σ I C G H _ _ k h λv F r J x p u=>B.nx _ _ J F x.g (k.put x p) u
end
section
variable{X:Cx}{pos:Pos}{e i':Expr}{te ti:TD}
noncomputable def pairsOf:List D->Option (List (Key×D))
 | []=>some []
 | .tup [k,v]::r=>match vN k with
  | some key=>(pairsOf r).map ((key,v)::·)
  | none=>none
 | _=>none
end
end L2
namespace HT
open PySem PyProof.Rows
noncomputable def c7:List Int->List Int->Bool
 | [],[]=>false
 | [],_::_=>false
 | _::_,[]=>true
 | x::xs,y::ys=>if x=y then c7 xs ys else decide (y<x)
end HT
namespace L2
open PySem PySem.Spec PyProof.Rows
section
variable{prog:Program}{w:World}{A:Around}{Rz:Result->Shared->Prop}{I:Addr}{fp wr:List Addr}{n:Nat}{P:Nat->Value->Prop}{St:Nat->Heap->Prop}{Hk:Heap->Prop}
theorem B2:(toString "max"++toString ".loop":String)="max.loop":=by decide
theorem Qb(W:Walks prog w A.in1 I fp wr 0 P St)(S:Addr)(a:S∉fp)(d:Value){z:Shared}{c:Nat}(st:St 0 z.heap)(f:z.heap.get? S=some { cls:=.type "list",dict:=none,data:=.seq #[] c,slots:=#[] })
  (fin:∀h' tk,(∀b o,b∉wr->z.heap.get? b=some o->h'.get? b=some o)->Rz (.ok (.ret d)) { z with heap:=h',toks:=tk }) :
  codeAny (model prog w) A (.builtin "max.loop" ⟨[.ref I,.none,.ref S],[("default",d)]⟩) Rz z:=by
 show codeAny_builtin F.entry_max_loop ?_;rw[b9 F.plain_max_loop _];show wpAny _ A.in1 (seqItems? (.ref S) >>= _) _ _ z;show aa (wpAny_seqItems f rfl ?_);show wpAny _ A.in1 (tryCatch (pyNext (.ref I)) _ >>= _) _ _ z;show aa (wpAny_tryCatch (W.done z _ _ st λe tk kp=>?_));show aa (wpAny_rule (ao (fin e tk kp)))
end
section
variable{prog:Program}{w:World}{A:Around}{E:Value->Shared->Prop}{s:Shared}
theorem UN{a:String}{b:Builtin}{args:List Value}{d:List (Str×Value)}{Q:Value->Shared->Prop}(j:builtinKind a=none)(i:plainId a=true)(k:entryFor table a=some b)(ha:argsOk a ⟨args,d⟩)
  (g:wpAny (model prog w) A.in1 (b ⟨args,d⟩) (λfin c=>match fin with
   | .done f=>(match (Except.ok f:Result) with | .ok (.ret v)=>Q v c | .ok _=>False | .error e=>E e c)
   | .again h=>h.quiet=true/\codeAny (model prog w) A h (λr c=>match r with | .ok (.ret v)=>Q v c | .ok _=>False | .error e=>E e c) c) E s) :
  wpAny (model prog w) A (call (.builtin a) args d) Q E s:=by
 show wpAny_call (codeAny_call_builtin i k ?_);simp only[checkBuiltinCall,j];cases m:Manifest.signature? a with
 | none=>show ao g
 | some sig=>
  have l:Bind.checkArgs a sig ⟨args,d⟩=pure ():=by simpa only[argsOk,m] using ha
  simp only[l];show ao g
theorem TC(x d:Value):argsOk "max" ⟨[x],[("default",d)]⟩:=by unfold argsOk;kernel_rfl
end
end L2
namespace HT
theorem mF:∀t:List Int,c7 t t=false
 | []=>rfl
 | a::t=>by unfold c7;simp[mF t]
theorem nY:∀a b:List Int,c7 a b=true->c7 b a=false
 | [],[],h=>rfl
 | [],_::_,h=>by unfold c7 at h;cases h
 | _::_,[],h=>by unfold c7;rfl
 | x::xs,y::ys,h=>by
  unfold c7 at h ⊢;by_cases e:x=y
  .subst e;simp only[aX] at h ⊢;simpa using nY xs ys (by simpa using h)
  have c:¬y=x:=λx=>e x.symm
  simp[e,c] at h ⊢;ext
theorem lp:∀a b c:List Int,c7 a b=false->c7 b c=false->c7 a c=false
 | [],[],c,h,d=>d
 | [],_::_,[],h,d=>by unfold c7;rfl
 | [],_::_,_::_,h,d=>by unfold c7;rfl
 | _::_,[],_,h,_=>by unfold c7 at h;cases h
 | x::xs,y::ys,[],h,d=>by unfold c7 at d;cases d
 | x::xs,y::ys,z::zs,h,d=>by
  unfold c7 at h d ⊢;have g:=lp xs ys zs;by_cases e:x=y
  .subst e;by_cases f:x=z
   .subst f;simp at h d ⊢;show g h d
   simp[f] at h d ⊢;ext
  by_cases f:y=z
  .subst f;simp[e] at h d ⊢;ext
  simp[e,f] at h d;have i:¬x=z:=by ext
  simp[i];ext
end HT
namespace L2
open PySem PySem.Spec PyProof.Rows
section
variable{X:Cx}{pos p kp:Pos}{e e2:Expr}{te te2:TD}
def Bu(P:V->Hp->Prop):List V->Hp->Prop:=λa H=>match a with
 | [x]=>P x H
 | _=>False
theorem JH{P:V->Hp->Prop}{a:List V}{H:Hp}(h:Bu P a H):∃x,a=[x]:=by
 unfold Bu at h;split at h
 .exact⟨_,rfl⟩
 show h.elim
noncomputable def nK:List D->Option (List (List Int))
 | []=>some []
 | .tup es::r=>match lS es,nK r with
  | some a,some b=>some (a::b)
  | _,_=>none
 | _=>none
theorem Kf{K:J'}{G:Hp}:∀{es:List D}{c:List (List Int)}{d:List V},nK es=some c->cA K G d es->d.length=c.length/\∀(i:Nat) x t,d[i]?=some x->c[i]?=some t->Rep K G x (.tup (t.map D.int))/\∃b,x=.ref b/\gR K G b (t.map V.int)
 | [],c,[],h,_=>by simp only[nK,aG] at h;subst h;show⟨rfl,λi x t e=>by simp at e⟩
 | .tup es::r,c,v::d,h,rs=>by
  simp only[cA] at rs;simp only[nK] at h;split at h
  .rename_i a b ha l;simp only[aG] at h;subst h;obtain⟨n,m⟩:=Kf l rs.2;show⟨by simp[n],λi x t g e2=>?_⟩;cases i with
   | zero=>
    simp only[List.getElem?_cons_zero,aG] at g e2;subst g e2;have f:=rs.1;rw[wy ha] at f;show⟨f,?_⟩;simp only[Rep] at f;obtain⟨p,xs,rfl,j,k⟩:=f;rw[wc k] at j;show⟨p,rfl,gR.of j⟩
   | succ i=>
    simp only[bX] at g e2;show m i x t g e2
  cases h
 | [],_,_::_,_,rs=>by simp only[cA] at rs
 | _::_,_,[],_,rs=>by simp only[cA] at rs
 | .int _::_,_,_::_,h,_=>by simp[nK] at h
 | .str _::_,_,_::_,h,_=>by simp[nK] at h
 | .lst _::_,_,_::_,h,_=>by simp[nK] at h
 | .non::_,_,_::_,h,_=>by simp[nK] at h
 | .bl _::_,_,_::_,h,_=>by simp[nK] at h
 | .obj _ _::_,_,_::_,h,_=>by simp[nK] at h
 | .dic _::_,_,_::_,h,_=>by simp[nK] at h
 | .dit _::_,_,_::_,h,_=>by simp[nK] at h
 | .exc _::_,_,_::_,h,_=>by simp[nK] at h
end
end L2
namespace Ts
open PySem PyProof.Rows
noncomputable def vi:Bool->Keyed->Array Keyed->Nat->Nat->Nat->StateT SortSt Sem (Option Nat):=sortPriv% PySem.Builtin.gallop
noncomputable def Er:Array Keyed->Array Keyed->StateT SortSt Sem (Array Keyed):=sortPriv% PySem.Builtin.mergeLo
noncomputable def Ep:Array Keyed->Array Keyed->StateT SortSt Sem (Array Keyed):=sortPriv% PySem.Builtin.mergeHi
noncomputable def vX(left:Bool)(key:Keyed)(a:Array Keyed)(base i:Nat):StateT SortSt Sem (Option Bool):=do
 let x <-elem' a (base+i)
 if left then lt' x key else return (<-lt' key x).map (!·)
theorem TB(left:Bool)(key:Keyed)(b:Array Keyed)(base n a:Nat):vi left key b base n a=(do
 let mut kQ:=0
 let mut qR:=1
 let mut lo:=0
 let mut hi:=0
 let some right <-vX left key b base a | return none
 if right then
  let c:=n-a
  for _ in [0:n] do
   if qR>=c then break
   let some more <-vX left key b base (a+qR) | return none
   if !more then break
   kQ:=qR
   qR:=2*qR+1
  lo:=a+kQ+1
  hi:=a+min qR c
 else
  let c:=a+1
  for _ in [0:n] do
   if qR>=c then break
   let some found <-vX left key b base (a-qR) | return none
   if found then break
   kQ:=qR
   qR:=2*qR+1
  lo:=a+1-min qR c
  hi:=a-kQ
 for _ in [0:n] do
  if lo>=hi then break
  let m:=lo+(hi-lo)/2
  let some more <-vX left key b base m | return none
  if more then lo:=m+1 else hi:=m
 return some hi):=rfl
variable{M:Model}{A:Around}{E:Value->Shared->Prop}{s:Shared}
structure Rk(M:Model)(A:Around)(E:Value->Shared->Prop)(s:Shared)(κ:SortKind)(ok:Keyed->Prop)(rk:Keyed->Int):Prop where
 lt:∀x y (st:SortSt) (Q:Option Bool->SortSt->Prop),ok x->ok y->kindOf st=κ->Q (some (decide (rk x<rk y))) st->wpS M A E s (lt' x y) Q st
theorem fR{a:Array Keyed}{i:Nat}{Q:Keyed->SortSt->Prop}{st:SortSt}(h:i<a.size)(q:Q a[i] st):wpS M A E s (elem' a i) Q st:=by
 rw[elem'_eq,Array.getElem?_eq_getElem h];show ag q
theorem Tz{b:SortKind}{ok:Keyed->Prop}{rk:Keyed->Int}(R:Rk M A E s b ok rk){left:Bool}{key:Keyed}{a:Array Keyed}{base i:Nat}{Q:Option Bool->SortSt->Prop}{st:SortSt}(d:kindOf st=b)(c:∀x∈a,ok x)(e:ok key)(h:base+i<a.size)
  (q:Q (some (if left=true then decide (rk a[base+i]<rk key) else !decide (rk key<rk a[base+i]))) st):wpS M A E s (vX left key a base i) Q st:=by
 unfold vX;show ah (fR h ?_);cases left with
 | true=>show R.lt _ _ st _ (c _ (aS h)) e d q
 | false=>show ah (R.lt _ _ st _ e (c _ (aS h)) d (ag q))
def Cut(b:Nat->Bool)(n k:Nat):Prop:=k<=n/\∀i,i<n->(b i=true↔i<k)
theorem pF{u:SortKind}{ok:Keyed->Prop}{rk:Keyed->Int}(R:Rk M A E s u ok rk){left:Bool}{key:Keyed}{g:Array Keyed}{base n a k:Nat}{Q:Option Nat->SortSt->Prop}{st:SortSt}(y:kindOf st=u)(w:∀x∈g,ok x)(B:ok key)(C:base+n<=g.size)(z:a<n)
  (v:Cut (λi=>if left=true then decide (rk (g.getD (base+i) (Value.none,Value.none))<rk key) else !decide (rk key<rk (g.getD (base+i) (Value.none,Value.none)))) n k) (q:Q (some k) st):wpS M A E s (vi left key g base n a) Q st:=by
 have p:∀i,i<n->∀{t:Option Bool->SortSt->Prop},t (some (decide (i<k))) st->wpS M A E s (vX left key g base i) t st:=λi hi t h=>by
  show Tz R y w B (by ext) ?_;have f:=v.2 i hi;have e:g.getD (base+i) (Value.none,Value.none)=g[base+i]'(by ext):=by simp[Array.getD,show base+i<g.size by ext]
  dsimp only at f;rw[e] at f;rw[show(if left=true then decide (rk (g[base+i]'(by ext))<rk key) else !decide (rk key<rk (g[base+i]'(by ext))))=decide (i<k) by rw[Bool.eq_iff_iff,f,bE]];show h
 have D:=v.1;rw[TB];show ah (p a z ?_);dsimp only;by_cases h0:a<k
 .simp only[h0,cq,aX];show ah (wpS_mono (bA (Q:=λc j=>j=st/\c.1=none/\a+c.2.1<k/\k<=a+min c.2.2 (n-a)) (λi c j=>j=st/\c.1=none/\a+c.2.1<k/\i+1<=c.2.2) ?_ ?_ ⟨rfl,rfl,by show a+0<k;ext,by show 0+1<=1;ext⟩) ?_)
  .rintro i ⟨c1,la,of⟩ j _ r ⟨rfl,b,d,f⟩;dsimp only at b d f ⊢;subst b;by_cases hd:of>=n-a
   .rw[if_pos hd];show ag ⟨rfl,rfl,d,by dsimp only;ext⟩
   rw[if_neg hd];show ah (p _ (by ext) ?_);dsimp only;by_cases hm:a+of<k
   .simp only[hm,cq,Bool.not_true,aq,aQ];show ag ⟨rfl,rfl,hm,by dsimp only;ext⟩
   simp only[hm,bR,Bool.not_false,aX];show ag ⟨rfl,rfl,d,by dsimp only;ext⟩
  .rintro⟨c1,la,of⟩ j ⟨rfl,b,d,f⟩;dsimp only at b d f ⊢;show⟨rfl,b,d,by rw[Nat.max_eq_right (aZ n)] at f;ext⟩
  rintro⟨c1,la,of⟩ j ⟨rfl,b,d,f⟩;dsimp only at b d f ⊢;subst b;dsimp only;show ah (wpS_mono (bA (Q:=λc m=>m=j/\c.1=none/\c.2.2=k) (λi c m=>m=j/\c.1=none/\c.2.1<=k/\k<=c.2.2/\c.2.2<=n/\c.2.2-c.2.1+i<=n) ?_ ?_ ⟨rfl,rfl,by dsimp only;ext,by dsimp only;ext,by dsimp only;ext,by dsimp only;ext⟩) ?_)
  .rintro i ⟨c1,lo,hi⟩ m _ r ⟨rfl,b,d,f,l,o⟩;dsimp only at b d f l o ⊢;subst b;by_cases hd:lo>=hi
   .rw[if_pos hd];show ag ⟨rfl,rfl,by dsimp only;ext⟩
   rw[if_neg hd];show ah (p _ (by ext) ?_);dsimp only;by_cases hm:lo+(hi-lo)/2<k
   .simp only[hm,cq,aX];show ag ⟨rfl,rfl,by dsimp only;ext,f,l,by dsimp only;ext⟩
   simp only[hm,bR,aq,aQ];show ag ⟨rfl,rfl,d,by dsimp only;ext,by dsimp only;ext,by dsimp only;ext⟩
  .rintro⟨c1,lo,hi⟩ m ⟨rfl,b,d,f,l,o⟩;dsimp only at b d f l o ⊢;show⟨rfl,b,by ext⟩
  rintro⟨c1,lo,hi⟩ m ⟨rfl,b,d⟩;dsimp only at b d ⊢;subst b d;show ag q
 simp only[h0,bR,aq,aQ];show ah (wpS_mono (bA (Q:=λc j=>j=st/\c.1=none/\k<=a-c.2.1/\c.2.1<=a/\a+1-min c.2.2 (a+1)<=k) (λi c j=>j=st/\c.1=none/\k<=a-c.2.1/\c.2.1<=a/\i+1<=c.2.2) ?_ ?_ ⟨rfl,rfl,by show k<=a-0;ext,aZ _,by show 0+1<=1;ext⟩) ?_)
 .rintro i ⟨c1,la,of⟩ j _ r ⟨rfl,b,d,f,l⟩;dsimp only at b d f l ⊢;subst b;by_cases hd:of>=a+1
  .rw[if_pos hd];show ag ⟨rfl,rfl,d,f,by dsimp only;ext⟩
  rw[if_neg hd];show ah (p _ (by ext) ?_);dsimp only;by_cases hm:a-of<k
  .simp only[hm,cq,aX];show ag ⟨rfl,rfl,d,f,by dsimp only;ext⟩
  simp only[hm,bR,aq,aQ];show ag ⟨rfl,rfl,by dsimp only;ext,by dsimp only;ext,by dsimp only;ext⟩
 .rintro⟨c1,la,of⟩ j ⟨rfl,b,d,f,l⟩;dsimp only at b d f l ⊢;show⟨rfl,b,d,f,by rw[Nat.max_eq_right (aZ n)] at l;ext⟩
 rintro⟨c1,la,of⟩ j ⟨rfl,b,d,f,l⟩;dsimp only at b d f l ⊢;subst b;dsimp only;show ah (wpS_mono (bA (Q:=λc m=>m=j/\c.1=none/\c.2.2=k) (λi c m=>m=j/\c.1=none/\c.2.1<=k/\k<=c.2.2/\c.2.2<=n/\c.2.2-c.2.1+i<=n) ?_ ?_ ⟨rfl,rfl,by dsimp only;ext,by dsimp only;ext,by dsimp only;ext,by dsimp only;ext⟩) ?_)
 .rintro i ⟨c1,lo,hi⟩ m _ r ⟨rfl,b,d,f,l,o⟩;dsimp only at b d f l o ⊢;subst b;by_cases hd:lo>=hi
  .rw[if_pos hd];show ag ⟨rfl,rfl,by dsimp only;ext⟩
  rw[if_neg hd];show ah (p _ (by ext) ?_);dsimp only;by_cases hm:lo+(hi-lo)/2<k
  .simp only[hm,cq,aX];show ag ⟨rfl,rfl,by dsimp only;ext,f,l,by dsimp only;ext⟩
  simp only[hm,bR,aq,aQ];show ag ⟨rfl,rfl,d,by dsimp only;ext,by dsimp only;ext,by dsimp only;ext⟩
 .rintro⟨c1,lo,hi⟩ m ⟨rfl,b,d,f,l,o⟩;dsimp only at b d f l o ⊢;show⟨rfl,b,by ext⟩
 rintro⟨c1,lo,hi⟩ m ⟨rfl,b,d⟩;dsimp only at b d ⊢;subst b d;show ag q
variable{α:Type}(rk:α->Int)
structure MI(a b out:List α)(ia ib:Nat):Prop where
 la:ia<=a.length
 lb:ib<=b.length
 pm:out.Perm (a.take ia++b.take ib)
 so:out.Pairwise λx y=>rk x<=rk y
 ga:∀x∈out,∀y∈a.drop ia,rk x<=rk y
 gb:∀x∈out,∀y∈b.drop ib,rk x<=rk y
variable{rk}
theorem MI.len{a b out:List α}{d c:Nat}(h:MI rk a b out d c):out.length=d+c:=by
 have:=h.pm.length_eq;rw[ay,aP,aP] at this;have:=h.la;have:=h.lb;ext
theorem LI{l:List α}{i k:Nat}:l.drop i=(l.drop i).take k++l.drop (i+k):=by
 rw[<-List.drop_drop,bF]
theorem MI.ie{a b out:List α}{c f:Nat}(h:MI rk a b out c f)(sa:a.Pairwise λx y=>rk x<=rk y){k:Nat}(g:c+k<=a.length)(i:∀x∈(a.drop c).take k,∀y∈b.drop f,rk x<=rk y):MI rk a b (out++(a.drop c).take k) (c+k) f:=by
 have e:(a.drop c).Pairwise λx y=>rk x<=rk y:=sa.sublist (List.drop_sublist _ _)
 rw[LI (k:=k),bx] at e;have ha:=h.ga;rw[LI (k:=k)] at ha;show⟨g,h.lb,?_,?_,λx hx y d=>?_,λx hx y d=>?_⟩
 .rw[List.take_add];have:=h.pm.append_right ((a.drop c).take k);show this.trans ?_;rw[bw,bw];show List.Perm.append_left _ List.perm_append_comm
 .rw[bx];show⟨h.so,e.1,λx hx y d=>ha x hx y (bO _ d)⟩
 .rcases aw.mp hx with hx | hx
  .exact ha x hx y (aU _ d)
  show e.2.2 x hx y d
 rcases aw.mp hx with hx | hx
 .exact h.gb x hx y d
 show i x hx y d
theorem MI.swap{a b out:List α}{d c:Nat}(h:MI rk a b out d c):MI rk b a out c d:=⟨h.lb,h.la,h.pm.trans List.perm_append_comm,h.so,h.gb,h.ga⟩
theorem MI.lx{a b out:List α}{d c:Nat}(h:MI rk a b out d c)(e:b.Pairwise λx y=>rk x<=rk y){k:Nat}(f:c+k<=b.length)(ha:∀x∈(b.drop c).take k,∀y∈a.drop d,rk x<=rk y):MI rk a b (out++(b.drop c).take k) d (c+k):=(h.swap.ie e f ha).swap
theorem Ke{l:List α}{i:Nat}(h:i<l.length):(l.drop i).take 1=[l[i]]:=by
 rw[bN h];rfl
theorem Tx{l:List α}(s:l.Pairwise λx y=>rk x<=rk y){i:Nat}(h:i<l.length):∀y∈l.drop i,rk l[i]<=rk y:=by
 intro y a;rw[bN h] at a;rcases au.mp a with rfl | a
 .exact Int.le_refl _
 have b:(l.drop i).Pairwise λx y=>rk x<=rk y:=s.sublist (List.drop_sublist _ _)
 rw[bN h,bM] at b;show b.1 y a
theorem MI.eN{a b out:List α}{c d:Nat}(h:MI rk a b out c d)(sa:a.Pairwise λx y=>rk x<=rk y)(f:b.Pairwise λx y=>rk x<=rk y)(hi:c<a.length)(i:d<b.length)(e:rk a[c]<=rk b[d]):MI rk a b (out++[a[c]]) (c+1) d:=by
 have:=h.ie sa (k:=1) (by ext) (λx hx y g=>by
  rw[Ke hi] at hx;simp at hx;subst hx;show Int.le_trans e (Tx f i y g))
 rwa [Ke hi] at this
theorem MI.iB{a b out:List α}{d c:Nat}(h:MI rk a b out d c)(sa:a.Pairwise λx y=>rk x<=rk y)(f:b.Pairwise λx y=>rk x<=rk y)(hi:d<a.length)(g:c<b.length)(e:rk b[c]<=rk a[d]):MI rk a b (out++[b[c]]) d (c+1):=(h.swap.eN f sa g hi e).swap
theorem MI.jM{a b out:List α}{c d:Nat}(h:MI rk a b out c d)(sa:a.Pairwise λx y=>rk x<=rk y)(j:b.Pairwise λx y=>rk x<=rk y)(e:∀x∈a.drop c,∀y∈b.drop d,rk x<=rk y) :
  (out++a.drop c++b.drop d).Perm (a++b)/\(out++a.drop c++b.drop d).Pairwise λx y=>rk x<=rk y:=by
 have i:=h.ie sa (k:=a.length-c) (by have:=h.la;ext) (λx hx=>e x (List.mem_of_mem_take hx));have m:(a.drop c).take (a.length-c)=a.drop c:=bh (by simp);rw[m] at i
 have f:=i.lx j (k:=b.length-d) (by have:=h.lb;ext) (λx hx y g=>by
  rw[show c+(a.length-c)=a.length by have:=h.la;ext,List.drop_length] at g;cases g)
 have l:(b.drop d).take (b.length-d)=b.drop d:=bh (by simp);rw[l] at f;show⟨?_,f.so⟩;have:=f.pm;rwa [show c+(a.length-c)=a.length by have:=h.la;ext,show d+(b.length-d)=b.length by have:=h.lb;ext,bL,bL] at this
theorem MI.mU{a b out:List α}{d c:Nat}(h:MI rk a b out d c)(sa:a.Pairwise λx y=>rk x<=rk y)(f:b.Pairwise λx y=>rk x<=rk y)(e:∀x∈b.drop c,∀y∈a.drop d,rk x<=rk y) :
  (out++b.drop c++a.drop d).Perm (a++b)/\(out++b.drop c++a.drop d).Pairwise λx y=>rk x<=rk y:=by
 obtain⟨i,g⟩:=h.swap.jM f sa e;show⟨i.trans List.perm_append_comm,g⟩
abbrev nL(st:SortSt)(g:Nat):SortSt:=SortSt.mk' (kindOf st) (arrOf st) (pendingOf st) g (failedOf st)
noncomputable def z5:Nat->StateT SortSt Sem Unit:=sortPriv% PySem.Builtin.setMinGallop
theorem yc(g:Nat):z5 g=modify λst=>nL st g:=rfl
theorem UC(a b:Array Keyed):Er a b=(do
 rule "list.sort.merge-lo"
 let total:=a.size+b.size
 let done (out:Array Keyed) (c d:Nat):=out++a.extract c a.size++b.extract d b.size
 let e (out:Array Keyed) (c d:Nat):=out++b.extract d b.size++a.extract c a.size
 let mut out:Array Keyed:=#[<-elem' b 0]
 let mut c:=0
 let mut d:=1
 if d==b.size then return done out c d
 if c+1==a.size then return e out c d
 let mut minGallop:=gallopOf (<-get)
 for _ in [0:total] do
  let mut fG:=0
  let mut fF:=0
  for _ in [0:total] do
   let some f <-lt' (<-elem' b d) (<-elem' a c) | return done out c d
   if f then
    out:=out.push (<-elem' b d);d:=d+1;fF:=fF+1;fG:=0
    if d==b.size then return done out c d
    if fF>=minGallop then break
   else
    out:=out.push (<-elem' a c);c:=c+1;fG:=fG+1;fF:=0
    if c+1==a.size then return e out c d
    if fG>=minGallop then break
  rule "list.sort.gallop"
  minGallop:=minGallop+1
  for _ in [0:total] do
   if minGallop>1 then minGallop:=minGallop-1
   z5 minGallop
   let some k <-vi false (<-elem' b d) a c (a.size-c) 0 | return done out c d
   fG:=k
   if k>0 then
    out:=out++a.extract c (c+k);c:=c+k
    if c+1==a.size then return e out c d
    if c==a.size then return done out c d
   out:=out.push (<-elem' b d);d:=d+1
   if d==b.size then return done out c d
   let some k <-vi true (<-elem' a c) b d (b.size-d) 0 | return done out c d
   fF:=k
   if k>0 then
    out:=out++b.extract d (d+k);d:=d+k
    if d==b.size then return done out c d
   out:=out.push (<-elem' a c);c:=c+1
   if c+1==a.size then return e out c d
   if fG<7&&fF<7 then break
  minGallop:=minGallop+1
  z5 minGallop
 unsupported "internal:list.sort.merge-bound"):=rfl
variable{M:Model}{A:Around}{E:Value->Shared->Prop}{s:Shared}
theorem wb{x:String}{Q:Unit->SortSt->Prop}{st:SortSt}(q:Q () st):wpS M A E s (liftM (rule x):StateT SortSt Sem Unit) Q st:=wpS_lift (wpAny_rule ⟨rfl,q⟩)
def fu(rk:Keyed->Int)(l:List Keyed):Prop:=l.Pairwise λx y=>rk x<=rk y
def pA(rk:Keyed->Int)(a b r:Array Keyed):Prop:=r.toList.Perm (a.toList++b.toList)/\fu rk r.toList
structure Mw(rk:Keyed->Int)(a b out:Array Keyed)(ia ib:Nat):Prop where
 mi:MI rk a.toList b.toList out.toList ia ib
 la:ia+1<a.size
 lb:ib<b.size
section
variable{rk:Keyed->Int}{a b out:Array Keyed}{ia ib:Nat}
theorem B1(a:Array Keyed)(i:Nat):(a.extract i a.size).toList=a.toList.drop i:=by
 rw[Array.toList_extract];simp only[List.extract];show bh (by simp)
theorem JG(a:Array Keyed)(i k:Nat):(a.extract i (i+k)).toList=(a.toList.drop i).take k:=by
 rw[Array.toList_extract];simp[List.extract]
theorem Kd(a:Array Keyed):a.toList.drop a.size=[]:=by simp
theorem qQ(h:MI rk a.toList b.toList out.toList ia ib)(sa:fu rk a.toList)(d:fu rk b.toList)(hi:ia=a.size\/ib=b.size):pA rk a b (out++a.extract ia a.size++b.extract ib b.size):=by
 obtain⟨g,f⟩:=h.jM sa d (λx hx y c=>by
  rcases hi with e | e
  .rw[e,Kd] at hx;cases hx
  .rw[e,Kd] at c;cases c)
 unfold pA fu;rw[bI,bI,B1,B1];show⟨g,f⟩
theorem qP(h:MI rk a.toList b.toList out.toList ia ib)(sa:fu rk a.toList)(d:fu rk b.toList)(ha:0<a.size)(hi:ia+1=a.size)(g:∀x∈b,rk x<rk (a[a.size-1])):pA rk a b (out++b.extract ib b.size++a.extract ia a.size):=by
 obtain⟨j,i⟩:=h.mU sa d (λx hx y c=>by
  have e:a.toList.drop ia=[a[a.size-1]]:=by
   have f:ia<a.toList.length:=by simp;ext
   rw[bN f,List.drop_eq_nil_of_le (by simp;ext)];simp[show ia=a.size-1 by ext]
  rw[e] at c;simp at c;have:=g x (by simpa using List.mem_of_mem_drop hx);rw[c];ext)
 unfold pA fu;rw[bI,bI,B1,B1];show⟨j,i⟩
end
theorem vg(p:Nat->Bool):∀n,(∀i j,i<=j->j<n->p j=true->p i=true)->∃k,Cut p n k
 | 0,_=>⟨0,az _,λi hi=>absurd hi (Nat.not_lt_zero i)⟩
 | n+1,h=>by
  obtain⟨k,k1,b⟩:=vg p n λi j c d=>h i j c (by ext)
  cases a:p n with
  | true=>
   show⟨n+1,az _,λi hi=>⟨λ_=>hi,λ_=>?_⟩⟩;show h i n (by ext) (by ext) a
  | false=>
   show⟨k,by ext,λi hi=>?_⟩;by_cases e:i=n
   .subst e;rw[a];show⟨λz=>(by cases z),λz=>by ext⟩
   show b i (by ext)
noncomputable abbrev dk:Keyed:=(Value.none,Value.none)
theorem gW{a:Array Keyed}{i:Nat}(h:i<a.size):a.getD i dk=a[i]:=by simp[Array.getD,h]
theorem vm{rk:Keyed->Int}{a:Array Keyed}(sa:fu rk a.toList){i j:Nat}(h:i<=j)(b:j<a.size):rk (a.getD i dk)<=rk (a.getD j dk):=by
 rw[gW b,gW (by ext)];by_cases e:i=j
 .subst e;show Int.le_refl _
 have:=List.pairwise_iff_getElem.mp sa i j (by simp;ext) (by simpa using b) (by ext);simpa using this
theorem JF{a:Array Keyed}{i k:Nat}(h:i+k<=a.size){x:Keyed}(hx:x∈(a.toList.drop i).take k):∃t,t<k/\x=a.getD (i+t) dk:=by
 obtain⟨t,c,e⟩:=bT hx;have b:t<k:=by simp at c;ext
 show⟨t,b,?_⟩;rw[gW (by ext),<-e];simp
theorem JE{a:Array Keyed}{i:Nat}{x:Keyed}(hx:x∈a.toList.drop i):∃t,i+t<a.size/\x=a.getD (i+t) dk:=by
 obtain⟨t,c,e⟩:=bT hx;have b:i+t<a.size:=by simp at c;ext
 show⟨t,b,?_⟩;rw[gW b,<-e];simp
theorem HX{rk:Keyed->Int}{a:Array Keyed}(sa:fu rk a.toList)(b:Nat)(key:Keyed):∃k,Cut (λi=>if false=true then decide (rk (a.getD (b+i) dk)<rk key) else !decide (rk key<rk (a.getD (b+i) dk))) (a.size-b) k:=
 vg _ _ λi j d c h=>by
  have:=vm (rk:=rk) sa (show b+i<=b+j by ext) (by ext);simp only[aq,aQ,bZ,bz] at h ⊢;ext
theorem BA{rk:Keyed->Int}{b:Array Keyed}(c:fu rk b.toList)(a:Nat)(key:Keyed):∃k,Cut (λi=>if true=true then decide (rk (b.getD (a+i) dk)<rk key) else !decide (rk key<rk (b.getD (a+i) dk))) (b.size-a) k:=
 vg _ _ λi j e d h=>by
  have:=vm (rk:=rk) c (show a+i<=a+j by ext) (by ext);simp only[aX,bE] at h ⊢;ext
theorem MI.sM{rk:Keyed->Int}{a b out:Array Keyed}{c d k:Nat}(h:MI rk a.toList b.toList out.toList c d)(sa:fu rk a.toList)(g:fu rk b.toList)(la:c<a.size)(lb:d<b.size)(e:Cut (λi=>if false=true then decide (rk (a.getD (c+i) dk)<rk b[d]) else !decide (rk b[d]<rk (a.getD (c+i) dk))) (a.size-c) k) :
  MI rk a.toList b.toList (out++a.extract c (c+k)).toList (c+k) d/\c+k<=a.size/\(c+k<a.size->rk b[d]<rk (a.getD (c+k) dk)):=by
 have p:=e.1;show⟨?_,by ext,λo=>?_⟩
 .rw[bI,JG];show h.ie sa (by simp;ext) λx hx y j=>?_
  obtain⟨t,m,rfl⟩:=JF (by ext) hx;obtain⟨u,l,rfl⟩:=JE j;have f:=(e.2 t (by ext)).mpr m;have n:=vm (rk:=rk) g (show d<=d+u by ext) l;rw[gW lb] at n;simp only[aq,aQ,bZ,bz] at f;ext
 have f:=mt (e.2 k (by ext)).mp (Nat.lt_irrefl k);simpa using f
theorem MI.mR{rk:Keyed->Int}{a b out:Array Keyed}{d c k:Nat}(h:MI rk a.toList b.toList out.toList d c)(sa:fu rk a.toList)(g:fu rk b.toList)(la:d<a.size)(lb:c<=b.size)(e:Cut (λi=>if true=true then decide (rk (b.getD (c+i) dk)<rk a[d]) else !decide (rk a[d]<rk (b.getD (c+i) dk))) (b.size-c) k) :
  MI rk a.toList b.toList (out++b.extract c (c+k)).toList d (c+k)/\c+k<=b.size/\(c+k<b.size->rk a[d]<=rk (b.getD (c+k) dk)):=by
 have p:=e.1;show⟨?_,by ext,λo=>?_⟩
 .rw[bI,JG];show h.lx g (by simp;ext) λx hx y j=>?_
  obtain⟨t,m,rfl⟩:=JF (by ext) hx;obtain⟨u,l,rfl⟩:=JE j;have f:=(e.2 t (by ext)).mpr m;have n:=vm (rk:=rk) sa (show d<=d+u by ext) l;rw[gW la] at n;simp only[aX,bE] at f;ext
 have f:=mt (e.2 k (by ext)).mp (Nat.lt_irrefl k);simpa using f
theorem UB{S:SortKind}{ok:Keyed->Prop}{rk:Keyed->Int}(R:Rk M A E s S ok rk){a b:Array Keyed}{Q:Array Keyed->SortSt->Prop}{st:SortSt}(F:kindOf st=S)(C:∀x∈a,ok x)(ob:∀x∈b,ok x)(sa:fu rk a.toList)(e:fu rk b.toList)(ha:0<a.size)(U:0<b.size)
  (h0:rk b[0]<rk a[0]) (v:∀x∈b,rk x<rk (a[a.size-1])) (q:∀(r:Array Keyed) g,r.toList.Perm (a.toList++b.toList)->fu rk r.toList->Q r (nL st g)):wpS M A E s (Er a b) Q st:=by
 rw[UC];show ah (wb ?_);show ah (fR U ?_);dsimp only;have N:st=nL st (gallopOf st):=rfl;have m0:MI rk a.toList b.toList (#[b[0]]:Array Keyed).toList 0 1:=by
  have n0:MI rk a.toList b.toList [] 0 0:=⟨aZ _,aZ _,by simp,.nil,λx hx=>(by cases hx),λx hx=>(by cases hx)⟩
  have:=n0.iB sa e (by simpa using ha) (by simpa using U) (by simp only[av];ext);simpa using this
 by_cases c1:1=b.size
 .rw[if_pos (by simpa using c1)];show ag ?_;rw[N];obtain⟨g1,g2⟩:=qQ m0 sa e (.inr c1);show q _ _ g1 g2
 rw[if_neg (by simpa using c1)];by_cases P:0+1=a.size
 .rw[if_pos (by simpa using P)];show ag ?_;rw[N];obtain⟨g1,g2⟩:=qP m0 sa e ha P v;show q _ _ g1 g2
 rw[if_neg (by simpa using P)];show ah (wpS_get ?_);show ah (wpS_mono (bA (Q:=λ(c:Option (Array Keyed)×Array Keyed×Nat×Nat×Nat) n=>∃g r,n=nL st g/\c.1=some r/\pA rk a b r) (λi (c:Option (Array Keyed)×Array Keyed×Nat×Nat×Nat) n=>(∃g,n=nL st g)/\c.1=none/\Mw rk a b c.2.1 c.2.2.1 c.2.2.2.1/\i<c.2.1.size) ?_ ?_ ⟨⟨_,N⟩,rfl,⟨m0,by dsimp only;ext,by dsimp only;ext⟩,by simp⟩) ?_)
 .rintro i ⟨c1,out,d,f,mg⟩ n _ pV ⟨⟨g,rfl⟩,o,h,hsz⟩;dsimp only at o h hsz ⊢;subst o;show ah (wpS_mono (bA (Q:=λ(c:Option (Array Keyed)×Array Keyed×Nat×Nat×Nat×Nat) n=>(n=nL st g)/\((∃r,c.1=some r/\pA rk a b r)\/(c.1=none/\Mw rk a b c.2.1 c.2.2.1 c.2.2.2.1/\i+1<c.2.1.size)))
   (λj (c:Option (Array Keyed)×Array Keyed×Nat×Nat×Nat×Nat) n=>(n=nL st g)/\c.1=none/\Mw rk a b c.2.1 c.2.2.1 c.2.2.2.1/\i+j<c.2.1.size) ?_ ?_ ⟨rfl,rfl,h,by dsimp only;ext⟩) ?_)
  .rintro j ⟨c1,out,d,f,ac,K⟩ n _ Hm ⟨rfl,o,h,hsz⟩;dsimp only at o h hsz ⊢;subst o;have la:=h.la;have lb:=h.lb;have W:d<a.toList.length:=by simp;ext
   have X:f<b.toList.length:=by simpa using lb
   show ah (fR lb (ah (fR (show d<a.size by ext) (ah (R.lt _ _ _ _ (ob _ (aS _)) (C _ (aS _)) F ?_)))));dsimp only;by_cases V:rk b[f]<rk (a[d]'(by ext))
   .simp only[V,cq,aX];have m:=h.mi.iB sa e W X (by simp only[av];ext);rw[av,<-aH] at m;show ah (fR lb ?_);by_cases u:f+1=b.size
    .rw[if_pos (by simpa using u)];show ag ⟨rfl,.inl ⟨_,rfl,qQ m sa e (.inr u)⟩⟩
    rw[if_neg (by simpa using u)];split
    .exact ag ⟨rfl,.inr ⟨rfl,⟨m,la,by dsimp only;ext⟩,by simp;ext⟩⟩
    show ag ⟨rfl,rfl,⟨m,la,by dsimp only;ext⟩,by simp;ext⟩
   simp only[V,bR,aq,aQ];have L:=h.mi.eN sa e W X (by simp only[av];ext);rw[av,<-aH] at L;show ah (fR (show d<a.size by ext) ?_);by_cases u:d+1+1=a.size
   .rw[if_pos (by simpa using u)];show ag ⟨rfl,.inl ⟨_,rfl,qP L sa e ha u v⟩⟩
   rw[if_neg (by simpa using u)];split
   .exact ag ⟨rfl,.inr ⟨rfl,⟨L,by dsimp only;ext,lb⟩,by simp;ext⟩⟩
   show ag ⟨rfl,rfl,⟨L,by dsimp only;ext,lb⟩,by simp;ext⟩
  .rintro⟨c1,out,d,f,ac,K⟩ n ⟨rfl,o,h,hsz⟩;dsimp only at o h hsz ⊢;show⟨rfl,.inr ⟨o,h,by rw[Nat.max_eq_right (aZ _)] at hsz;ext⟩⟩
  rintro⟨c1,out,d,f,ac,K⟩ n ⟨rfl,I⟩;dsimp only at I ⊢;rcases I with⟨r,rfl,O⟩ | ⟨rfl,h,hsz⟩
  .exact ag ⟨g,r,rfl,rfl,O⟩
  dsimp only;show ah (wb ?_);show ah (wpS_mono (bA (Q:=λ(c:Option (Array Keyed)×Array Keyed×Nat×Nat×Nat×Nat×Nat) n=>(∃g,n=nL st g)/\((∃r,c.1=some r/\pA rk a b r)\/(c.1=none/\Mw rk a b c.2.1 c.2.2.1 c.2.2.2.1/\i+1<c.2.1.size)))
   (λj (c:Option (Array Keyed)×Array Keyed×Nat×Nat×Nat×Nat×Nat) n=>(∃g,n=nL st g)/\c.1=none/\Mw rk a b c.2.1 c.2.2.1 c.2.2.2.1/\i+1<c.2.1.size) ?_ ?_ ⟨⟨_,rfl⟩,rfl,h,hsz⟩) ?_)
  .clear h hsz;rintro j ⟨c1,out,d,f,mg,ac,K⟩ n _ Hm ⟨⟨g,rfl⟩,o,h,hsz⟩;dsimp only at o h hsz ⊢;subst o;have la:=h.la;have lb:=h.lb;have ol:=h.mi.len;rw[af] at ol;by_cases T:mg>1
   .rw[if_pos T];rw[yc];show ah (wpS_modify (ah (fR lb ?_)));obtain⟨k,J⟩:=HX sa d b[f];show ah (pF R F C (ob _ (aS _)) (by ext) (by ext) J ?_);dsimp only;obtain⟨D,Y,H⟩:=h.mi.sM sa e (by ext) lb J;by_cases kp:k>0
    .rw[if_pos kp];by_cases u:d+k+1=a.size
     .rw[if_pos (by simpa using u)];show ag ⟨⟨_,rfl⟩,.inl ⟨_,rfl,qP D sa e ha u v⟩⟩
     rw[if_neg (by simpa using u)];by_cases G:d+k=a.size
     .rw[if_pos (by simpa using G)];show ag ⟨⟨_,rfl⟩,.inl ⟨_,rfl,qQ D sa e (.inl G)⟩⟩
     rw[if_neg (by simpa using G)];have B:=H (by ext);rw[gW (by ext)] at B;have m:=D.iB sa e (show d+k<a.toList.length by simp;ext) (show f<b.toList.length by simpa using lb) (by simp only[av];ext);rw[av,<-aH] at m;show ah (fR lb ?_);by_cases t:f+1=b.size
     .rw[if_pos (by simpa using t)];show ag ⟨⟨_,rfl⟩,.inl ⟨_,rfl,qQ m sa e (.inr t)⟩⟩
     rw[if_neg (by simpa using t)];show ah (fR (show d+k<a.size by ext) ?_);obtain⟨k1,w⟩:=BA e (f+1) (a[d+k]'(by ext));show ah (pF R F ob (C _ (aS _)) (by ext) (by ext) w ?_);dsimp only;obtain⟨n1,n2,n3⟩:=m.mR sa e (by ext) (by ext) w;by_cases y:k1>0
     .rw[if_pos y];by_cases p:f+1+k1=b.size
      .rw[if_pos (by simpa using p)];show ag ⟨⟨_,rfl⟩,.inl ⟨_,rfl,qQ n1 sa e (.inr p)⟩⟩
      rw[if_neg (by simpa using p)];have n4:=n3 (by ext);rw[gW (by ext)] at n4;have nn:=n1.eN sa e (show d+k<a.toList.length by simp;ext) (show f+1+k1<b.toList.length by simp;ext) (by simpa using n4);rw[av,<-aH] at nn;show ah (fR (show d+k<a.size by ext) ?_);by_cases l:d+k+1+1=a.size
      .rw[if_pos (by simpa using l)];show ag ⟨⟨_,rfl⟩,.inl ⟨_,rfl,qP nn sa e ha l v⟩⟩
      rw[if_neg (by simpa using l)];have nl:=nn.len;rw[af] at nl;split
      .exact ag ⟨⟨_,rfl⟩,.inr ⟨rfl,⟨nn,by dsimp only;ext,by dsimp only;ext⟩,by dsimp only;ext⟩⟩
      show ag ⟨⟨_,rfl⟩,rfl,⟨nn,by dsimp only;ext,by dsimp only;ext⟩,by dsimp only;ext⟩
     rw[if_neg y];have z:k1=0:=by ext
     subst z;have n4:=n3 (by ext);rw[gW (by ext)] at n4;have nn:=m.eN sa e (show d+k<a.toList.length by simp;ext) (show f+1<b.toList.length by simp;ext) (by simpa using n4);rw[av,<-aH] at nn;show ah (fR (show d+k<a.size by ext) ?_);by_cases l:d+k+1+1=a.size
     .rw[if_pos (by simpa using l)];show ag ⟨⟨_,rfl⟩,.inl ⟨_,rfl,qP nn sa e ha l v⟩⟩
     rw[if_neg (by simpa using l)];have nl:=nn.len;rw[af] at nl;split
     .exact ag ⟨⟨_,rfl⟩,.inr ⟨rfl,⟨nn,by dsimp only;ext,by dsimp only;ext⟩,by dsimp only;ext⟩⟩
     show ag ⟨⟨_,rfl⟩,rfl,⟨nn,by dsimp only;ext,by dsimp only;ext⟩,by dsimp only;ext⟩
    rw[if_neg kp];have z:k=0:=by ext
    subst z;have B:=H (by ext);rw[gW (by ext)] at B;have m:=h.mi.iB sa e (show d<a.toList.length by simp;ext) (show f<b.toList.length by simpa using lb) (by simp only[av];show Int.le_of_lt B);rw[av,<-aH] at m;show ah (fR lb ?_);by_cases t:f+1=b.size
    .rw[if_pos (by simpa using t)];show ag ⟨⟨_,rfl⟩,.inl ⟨_,rfl,qQ m sa e (.inr t)⟩⟩
    rw[if_neg (by simpa using t)];show ah (fR (show d<a.size by ext) ?_);obtain⟨k1,w⟩:=BA e (f+1) (a[d]'(by ext));show ah (pF R F ob (C _ (aS _)) (by ext) (by ext) w ?_);dsimp only;obtain⟨n1,n2,n3⟩:=m.mR sa e (by ext) (by ext) w;by_cases y:k1>0
    .rw[if_pos y];by_cases p:f+1+k1=b.size
     .rw[if_pos (by simpa using p)];show ag ⟨⟨_,rfl⟩,.inl ⟨_,rfl,qQ n1 sa e (.inr p)⟩⟩
     rw[if_neg (by simpa using p)];have n4:=n3 (by ext);rw[gW (by ext)] at n4;have nn:=n1.eN sa e (show d<a.toList.length by simp;ext) (show f+1+k1<b.toList.length by simp;ext) (by simpa using n4);rw[av,<-aH] at nn;show ah (fR (show d<a.size by ext) ?_);by_cases l:d+1+1=a.size
     .rw[if_pos (by simpa using l)];show ag ⟨⟨_,rfl⟩,.inl ⟨_,rfl,qP nn sa e ha l v⟩⟩
     rw[if_neg (by simpa using l)];have nl:=nn.len;rw[af] at nl;split
     .exact ag ⟨⟨_,rfl⟩,.inr ⟨rfl,⟨nn,by dsimp only;ext,by dsimp only;ext⟩,by dsimp only;ext⟩⟩
     show ag ⟨⟨_,rfl⟩,rfl,⟨nn,by dsimp only;ext,by dsimp only;ext⟩,by dsimp only;ext⟩
    rw[if_neg y];have z:k1=0:=by ext
    subst z;have n4:=n3 (by ext);rw[gW (by ext)] at n4;have nn:=m.eN sa e (show d<a.toList.length by simp;ext) (show f+1<b.toList.length by simp;ext) (by simpa using n4);rw[av,<-aH] at nn;show ah (fR (show d<a.size by ext) ?_);by_cases l:d+1+1=a.size
    .rw[if_pos (by simpa using l)];show ag ⟨⟨_,rfl⟩,.inl ⟨_,rfl,qP nn sa e ha l v⟩⟩
    rw[if_neg (by simpa using l)];have nl:=nn.len;rw[af] at nl;split
    .exact ag ⟨⟨_,rfl⟩,.inr ⟨rfl,⟨nn,by dsimp only;ext,by dsimp only;ext⟩,by dsimp only;ext⟩⟩
    show ag ⟨⟨_,rfl⟩,rfl,⟨nn,by dsimp only;ext,by dsimp only;ext⟩,by dsimp only;ext⟩
   rw[if_neg T];rw[yc];show ah (wpS_modify (ah (fR lb ?_)));obtain⟨k,J⟩:=HX sa d b[f];show ah (pF R F C (ob _ (aS _)) (by ext) (by ext) J ?_);dsimp only;obtain⟨D,Y,H⟩:=h.mi.sM sa e (by ext) lb J;by_cases kp:k>0
   .rw[if_pos kp];by_cases u:d+k+1=a.size
    .rw[if_pos (by simpa using u)];show ag ⟨⟨_,rfl⟩,.inl ⟨_,rfl,qP D sa e ha u v⟩⟩
    rw[if_neg (by simpa using u)];by_cases G:d+k=a.size
    .rw[if_pos (by simpa using G)];show ag ⟨⟨_,rfl⟩,.inl ⟨_,rfl,qQ D sa e (.inl G)⟩⟩
    rw[if_neg (by simpa using G)];have B:=H (by ext);rw[gW (by ext)] at B;have m:=D.iB sa e (show d+k<a.toList.length by simp;ext) (show f<b.toList.length by simpa using lb) (by simp only[av];ext);rw[av,<-aH] at m;show ah (fR lb ?_);by_cases t:f+1=b.size
    .rw[if_pos (by simpa using t)];show ag ⟨⟨_,rfl⟩,.inl ⟨_,rfl,qQ m sa e (.inr t)⟩⟩
    rw[if_neg (by simpa using t)];show ah (fR (show d+k<a.size by ext) ?_);obtain⟨k1,w⟩:=BA e (f+1) (a[d+k]'(by ext));show ah (pF R F ob (C _ (aS _)) (by ext) (by ext) w ?_);dsimp only;obtain⟨n1,n2,n3⟩:=m.mR sa e (by ext) (by ext) w;by_cases y:k1>0
    .rw[if_pos y];by_cases p:f+1+k1=b.size
     .rw[if_pos (by simpa using p)];show ag ⟨⟨_,rfl⟩,.inl ⟨_,rfl,qQ n1 sa e (.inr p)⟩⟩
     rw[if_neg (by simpa using p)];have n4:=n3 (by ext);rw[gW (by ext)] at n4;have nn:=n1.eN sa e (show d+k<a.toList.length by simp;ext) (show f+1+k1<b.toList.length by simp;ext) (by simpa using n4);rw[av,<-aH] at nn;show ah (fR (show d+k<a.size by ext) ?_);by_cases l:d+k+1+1=a.size
     .rw[if_pos (by simpa using l)];show ag ⟨⟨_,rfl⟩,.inl ⟨_,rfl,qP nn sa e ha l v⟩⟩
     rw[if_neg (by simpa using l)];have nl:=nn.len;rw[af] at nl;split
     .exact ag ⟨⟨_,rfl⟩,.inr ⟨rfl,⟨nn,by dsimp only;ext,by dsimp only;ext⟩,by dsimp only;ext⟩⟩
     show ag ⟨⟨_,rfl⟩,rfl,⟨nn,by dsimp only;ext,by dsimp only;ext⟩,by dsimp only;ext⟩
    rw[if_neg y];have z:k1=0:=by ext
    subst z;have n4:=n3 (by ext);rw[gW (by ext)] at n4;have nn:=m.eN sa e (show d+k<a.toList.length by simp;ext) (show f+1<b.toList.length by simp;ext) (by simpa using n4);rw[av,<-aH] at nn;show ah (fR (show d+k<a.size by ext) ?_);by_cases l:d+k+1+1=a.size
    .rw[if_pos (by simpa using l)];show ag ⟨⟨_,rfl⟩,.inl ⟨_,rfl,qP nn sa e ha l v⟩⟩
    rw[if_neg (by simpa using l)];have nl:=nn.len;rw[af] at nl;split
    .exact ag ⟨⟨_,rfl⟩,.inr ⟨rfl,⟨nn,by dsimp only;ext,by dsimp only;ext⟩,by dsimp only;ext⟩⟩
    show ag ⟨⟨_,rfl⟩,rfl,⟨nn,by dsimp only;ext,by dsimp only;ext⟩,by dsimp only;ext⟩
   rw[if_neg kp];have z:k=0:=by ext
   subst z;have B:=H (by ext);rw[gW (by ext)] at B;have m:=h.mi.iB sa e (show d<a.toList.length by simp;ext) (show f<b.toList.length by simpa using lb) (by simp only[av];show Int.le_of_lt B);rw[av,<-aH] at m;show ah (fR lb ?_);by_cases t:f+1=b.size
   .rw[if_pos (by simpa using t)];show ag ⟨⟨_,rfl⟩,.inl ⟨_,rfl,qQ m sa e (.inr t)⟩⟩
   rw[if_neg (by simpa using t)];show ah (fR (show d<a.size by ext) ?_);obtain⟨k1,w⟩:=BA e (f+1) (a[d]'(by ext));show ah (pF R F ob (C _ (aS _)) (by ext) (by ext) w ?_);dsimp only;obtain⟨n1,n2,n3⟩:=m.mR sa e (by ext) (by ext) w;by_cases y:k1>0
   .rw[if_pos y];by_cases p:f+1+k1=b.size
    .rw[if_pos (by simpa using p)];show ag ⟨⟨_,rfl⟩,.inl ⟨_,rfl,qQ n1 sa e (.inr p)⟩⟩
    rw[if_neg (by simpa using p)];have n4:=n3 (by ext);rw[gW (by ext)] at n4;have nn:=n1.eN sa e (show d<a.toList.length by simp;ext) (show f+1+k1<b.toList.length by simp;ext) (by simpa using n4);rw[av,<-aH] at nn;show ah (fR (show d<a.size by ext) ?_);by_cases l:d+1+1=a.size
    .rw[if_pos (by simpa using l)];show ag ⟨⟨_,rfl⟩,.inl ⟨_,rfl,qP nn sa e ha l v⟩⟩
    rw[if_neg (by simpa using l)];have nl:=nn.len;rw[af] at nl;split
    .exact ag ⟨⟨_,rfl⟩,.inr ⟨rfl,⟨nn,by dsimp only;ext,by dsimp only;ext⟩,by dsimp only;ext⟩⟩
    show ag ⟨⟨_,rfl⟩,rfl,⟨nn,by dsimp only;ext,by dsimp only;ext⟩,by dsimp only;ext⟩
   rw[if_neg y];have z:k1=0:=by ext
   subst z;have n4:=n3 (by ext);rw[gW (by ext)] at n4;have nn:=m.eN sa e (show d<a.toList.length by simp;ext) (show f+1<b.toList.length by simp;ext) (by simpa using n4);rw[av,<-aH] at nn;show ah (fR (show d<a.size by ext) ?_);by_cases l:d+1+1=a.size
   .rw[if_pos (by simpa using l)];show ag ⟨⟨_,rfl⟩,.inl ⟨_,rfl,qP nn sa e ha l v⟩⟩
   rw[if_neg (by simpa using l)];have nl:=nn.len;rw[af] at nl;split
   .exact ag ⟨⟨_,rfl⟩,.inr ⟨rfl,⟨nn,by dsimp only;ext,by dsimp only;ext⟩,by dsimp only;ext⟩⟩
   show ag ⟨⟨_,rfl⟩,rfl,⟨nn,by dsimp only;ext,by dsimp only;ext⟩,by dsimp only;ext⟩
  .rintro⟨c1,out,d,f,mg,ac,K⟩ n ⟨⟨g,rfl⟩,o,h,hsz⟩;dsimp only at o h hsz ⊢;show⟨⟨g,rfl⟩,.inr ⟨o,h,hsz⟩⟩
  rintro⟨c1,out,d,f,mg,ac,K⟩ n ⟨⟨g,rfl⟩,I⟩;dsimp only at I ⊢;rcases I with⟨r,rfl,O⟩ | ⟨rfl,h,hsz⟩
  .exact ag ⟨g,r,rfl,rfl,O⟩
  dsimp only;rw[yc];show ah (wpS_modify (ag ⟨⟨_,rfl⟩,rfl,h,hsz⟩))
 .rintro⟨c1,out,d,f,mg⟩ n ⟨⟨g,rfl⟩,o,h,hsz⟩;dsimp only at o h hsz ⊢;exfalso
  have Z:=h.mi.len;have h2:=h.la;have h3:=h.lb;rw[af] at Z;rw[Nat.max_eq_right (aZ _)] at hsz;ext
 rintro⟨c1,out,d,f,mg⟩ n ⟨g,r,rfl,rfl,g1,g2⟩;show ag (q r g g1 g2)
section
variable{α:Type}(rk:α->Int)
structure MH(a b out:List α)(na nb:Nat):Prop where
 la:na<=a.length
 lb:nb<=b.length
 pm:out.reverse.Perm (a.drop na++b.drop nb)
 so:out.reverse.Pairwise λx y=>rk x<=rk y
 ga:∀y∈a.take na,∀x∈out,rk y<=rk x
 gb:∀y∈b.take nb,∀x∈out,rk y<=rk x
variable{rk}
theorem MH.len{a b out:List α}{na nb:Nat}(h:MH rk a b out na nb):out.length+na+nb=a.length+b.length:=by
 have:=h.pm.length_eq;rw[ay,cf,cf,List.length_reverse] at this;have:=h.la;have:=h.lb;ext
theorem MH.swap{a b out:List α}{na nb:Nat}(h:MH rk a b out na nb):MH rk b a out nb na:=⟨h.lb,h.la,h.pm.trans List.perm_append_comm,h.so,h.gb,h.ga⟩
theorem L1{l:List α}{n t:Nat}(a:t<=n):l.take n=l.take t++(l.take n).drop t:=by
 have:=(bF t (l.take n)).symm;rwa [List.take_take,Nat.min_eq_left a] at this
theorem MH.ie{a b out:List α}{na nb:Nat}(h:MH rk a b out na nb)(sa:a.Pairwise λx y=>rk x<=rk y){t:Nat}(f:t<=na)(i:∀x∈(a.take na).drop t,∀y∈b.take nb,rk y<=rk x):MH rk a b (out++((a.take na).drop t).reverse) t nb:=by
 have j:=h.la;have d:(a.take na).Pairwise λx y=>rk x<=rk y:=sa.sublist (List.take_sublist _ _)
 rw[L1 f,bx] at d;have ga:=h.ga;rw[L1 f] at ga;have g:(out++((a.take na).drop t).reverse).reverse=(a.take na).drop t++out.reverse:=by rw[List.reverse_append,List.reverse_reverse]
 show⟨by ext,h.lb,?_,?_,λy c x hx=>?_,λy c x hx=>?_⟩
 .rw[g];show(h.pm.append_left _).trans ?_;rw[<-bw];show List.Perm.append_right _ ?_;have:a.drop t=(a.take na).drop t++a.drop na:=by
   have e:a=a.take na++a.drop na:=(bF na a).symm;rw[show a.drop t=(a.take na++a.drop na).drop t by rw[<-e],List.drop_append_of_le_length (by simp;ext)]
  rw[this]
 .rw[g,bx];show⟨d.2.1,h.so,λx hx y c=>ga x (aU _ hx) y (List.mem_reverse.mp c)⟩
 .rcases aw.mp hx with hx | hx
  .exact ga y (bO _ c) x hx
  show d.2.2 y c x (List.mem_reverse.mp hx)
 rcases aw.mp hx with hx | hx
 .exact h.gb y c x hx
 show i x (List.mem_reverse.mp hx) y c
theorem MH.lx{a b out:List α}{na nb:Nat}(h:MH rk a b out na nb)(c:b.Pairwise λx y=>rk x<=rk y){t:Nat}(d:t<=nb)(ha:∀x∈(b.take nb).drop t,∀y∈a.take na,rk y<=rk x):MH rk a b (out++((b.take nb).drop t).reverse) na t:=(h.swap.ie c d ha).swap
theorem KS{l:List α}{n:Nat}(h:n<l.length):(l.take (n+1)).drop n=[l[n]]:=by
 rw[aY,ai h,List.drop_append_of_le_length (by simp;ext),List.drop_eq_nil_of_le (by rw[aP];ext)];rfl
theorem Tw{l:List α}(s:l.Pairwise λx y=>rk x<=rk y){n:Nat}(h:n<l.length):∀y∈l.take (n+1),rk y<=rk l[n]:=by
 intro y a;obtain⟨i,hi,rfl⟩:=bT a;have b:i<=n:=by simp at hi;ext
 rw[List.getElem_take];by_cases e:i=n
 .subst e;show Int.le_refl _
 show List.pairwise_iff_getElem.mp s i n (by ext) h (by ext)
theorem MH.eN{a b out:List α}{na nb:Nat}(h:MH rk a b out (na+1) (nb+1))(sa:a.Pairwise λx y=>rk x<=rk y)(d:b.Pairwise λx y=>rk x<=rk y)(hi:na<a.length)(f:nb<b.length)(c:rk b[nb]<=rk a[na]):MH rk a b (out++[a[na]]) na (nb+1):=by
 have:=h.ie sa (t:=na) (by ext) (λx hx y e=>by
  rw[KS hi] at hx;simp at hx;subst hx;show Int.le_trans (Tw d f y e) c)
 rwa [KS hi] at this
theorem MH.iB{a b out:List α}{na nb:Nat}(h:MH rk a b out (na+1) (nb+1))(sa:a.Pairwise λx y=>rk x<=rk y)(d:b.Pairwise λx y=>rk x<=rk y)(hi:na<a.length)(e:nb<b.length)(c:rk a[na]<=rk b[nb]):MH rk a b (out++[b[nb]]) (na+1) nb:=(h.swap.eN d sa e hi c).swap
theorem MH.jM{a b out:List α}{na nb:Nat}(h:MH rk a b out na nb)(sa:a.Pairwise λx y=>rk x<=rk y)(g:b.Pairwise λx y=>rk x<=rk y)(d:∀x∈a.take na,∀y∈b.take nb,rk x<=rk y) :
  (a.take na++b.take nb++out.reverse).Perm (a++b)/\(a.take na++b.take nb++out.reverse).Pairwise λx y=>rk x<=rk y:=by
 have i:=h.lx g (t:=0) (aZ _) (λx hx y c=>d y c x (by simpa using hx));have f:=i.ie sa (t:=0) (aZ _) (λx hx y c=>by simp at c);have e:(out++((b.take nb).drop 0).reverse++((a.take na).drop 0).reverse).reverse=a.take na++b.take nb++out.reverse:=by simp
 have p:=f.pm;have s:=f.so;rw[e] at p s;show⟨by simpa using p,s⟩
theorem MH.mU{a b out:List α}{na nb:Nat}(h:MH rk a b out na nb)(sa:a.Pairwise λx y=>rk x<=rk y)(d:b.Pairwise λx y=>rk x<=rk y)(c:∀x∈b.take nb,∀y∈a.take na,rk x<=rk y) :
  (b.take nb++a.take na++out.reverse).Perm (a++b)/\(b.take nb++a.take na++out.reverse).Pairwise λx y=>rk x<=rk y:=by
 obtain⟨f,e⟩:=h.swap.jM d sa c;show⟨f.trans List.perm_append_comm,e⟩
end
theorem UA(a b:Array Keyed):Ep a b=(do
 rule "list.sort.merge-hi"
 let total:=a.size+b.size
 let done (out:Array Keyed) (na nb:Nat):=a.extract 0 na++b.extract 0 nb++out.reverse
 let c (out:Array Keyed) (na nb:Nat):=b.extract 0 nb++a.extract 0 na++out.reverse
 let mut na:=a.size-1
 let mut nb:=b.size
 let mut out:Array Keyed:=#[<-elem' a na]
 if na==0 then return done out na nb
 if nb==1 then return c out na nb
 let mut minGallop:=gallopOf (<-get)
 for _ in [0:total] do
  let mut fG:=0
  let mut fF:=0
  for _ in [0:total] do
   let some d <-lt' (<-elem' b (nb-1)) (<-elem' a (na-1)) | return done out na nb
   if d then
    na:=na-1;out:=out.push (<-elem' a na);fG:=fG+1;fF:=0
    if na==0 then return done out na nb
    if fG>=minGallop then break
   else
    nb:=nb-1;out:=out.push (<-elem' b nb);fF:=fF+1;fG:=0
    if nb==1 then return c out na nb
    if fF>=minGallop then break
  rule "list.sort.gallop"
  minGallop:=minGallop+1
  for _ in [0:total] do
   if minGallop>1 then minGallop:=minGallop-1
   z5 minGallop
   let some at_ <-vi false (<-elem' b (nb-1)) a 0 na (na-1) | return done out na nb
   let k:=na-at_
   fG:=k
   if k>0 then
    out:=out++(a.extract at_ na).reverse;na:=at_
    if na==0 then return done out na nb
   nb:=nb-1;out:=out.push (<-elem' b nb)
   if nb==1 then return c out na nb
   let some at_ <-vi true (<-elem' a (na-1)) b 0 nb (nb-1) | return done out na nb
   let k:=nb-at_
   fF:=k
   if k>0 then
    out:=out++(b.extract at_ nb).reverse;nb:=at_
    if nb==1 then return c out na nb
    if nb==0 then return done out na nb
   na:=na-1;out:=out.push (<-elem' a na)
   if na==0 then return done out na nb
   if fG<7&&fF<7 then break
  minGallop:=minGallop+1
  z5 minGallop
 unsupported "internal:list.sort.merge-bound"):=rfl
theorem BR(a:Array Keyed)(n:Nat):(a.extract 0 n).toList=a.toList.take n:=by
 rw[Array.toList_extract];simp[List.extract]
theorem Ka(a:Array Keyed){t n:Nat}(h:n<=a.size):(a.extract t n).toList=(a.toList.take n).drop t:=by
 rw[Array.toList_extract];simp only[List.extract];rw[List.drop_take]
structure Mv(rk:Keyed->Int)(a b out:Array Keyed)(na nb:Nat):Prop where
 mh:MH rk a.toList b.toList out.toList na nb
 la:0<na
 lb:1<nb
section
variable{rk:Keyed->Int}{a b out:Array Keyed}{na nb:Nat}
theorem oG(h:MH rk a.toList b.toList out.toList na nb)(sa:fu rk a.toList)(d:fu rk b.toList)(hi:na=0\/nb=0):pA rk a b (a.extract 0 na++b.extract 0 nb++out.reverse):=by
 obtain⟨g,f⟩:=h.jM sa d (λx hx y c=>by
  rcases hi with e | e
  .rw[e] at hx;simp at hx
  .rw[e] at c;simp at c)
 unfold pA fu;rw[bI,bI,BR,BR,Array.toList_reverse];show⟨g,f⟩
theorem tM(h:MH rk a.toList b.toList out.toList na nb)(sa:fu rk a.toList)(c:fu rk b.toList)(g:0<b.size)(hi:nb=1)(k:∀x∈a,rk b[0]<rk x):pA rk a b (b.extract 0 nb++a.extract 0 na++out.reverse):=by
 obtain⟨j,i⟩:=h.mU sa c (λx hx y d=>by
  have e:b.toList.take nb=[b[0]]:=by
   have f:0<b.toList.length:=by simpa using g
   rw[hi,show(1:Nat)=0+1 from rfl,aY,ai f];simp
  rw[e] at hx;simp at hx;subst hx;have:=k y (by simpa using List.mem_of_mem_take d);ext)
 unfold pA fu;rw[bI,bI,BR,BR,Array.toList_reverse];show⟨j,i⟩
theorem Eo{t n:Nat}(d:n<=a.size){x:Keyed}(hx:x∈(a.toList.take n).drop t):∃u,t<=u/\u<n/\x=a.getD u dk:=by
 obtain⟨u,b,e⟩:=bT hx;have c:t+u<n:=by simp at b;ext
 show⟨t+u,by ext,c,?_⟩;rw[gW (by ext),<-e];simp
theorem IM{n:Nat}(b:n<=a.size){x:Keyed}(hx:x∈a.toList.take n):∃u,u<n/\x=a.getD u dk:=by
 obtain⟨u,_,d,c⟩:=Eo (a:=a) (t:=0) b (x:=x) (by simpa using hx);show⟨u,d,c⟩
theorem MH.sM{c t:Nat}(h:MH rk a.toList b.toList out.toList na (c+1))(sa:fu rk a.toList)(j:fu rk b.toList)(lb:c<b.size)(d:Cut (λi=>if false=true then decide (rk (a.getD (0+i) dk)<rk b[c]) else !decide (rk b[c]<rk (a.getD (0+i) dk))) na t) :
  MH rk a.toList b.toList (out++(a.extract t na).reverse).toList t (c+1)/\t<=na/\∀u,u+1=t->rk (a.getD u dk)<=rk b[c]:=by
 have f:=h.la;rw[af] at f;show⟨?_,d.1,λu n=>?_⟩
 .rw[bI,Array.toList_reverse,Ka a f];show h.ie sa d.1 λx hx y k=>?_
  obtain⟨u,m,g,rfl⟩:=Eo f hx;obtain⟨v,v1,rfl⟩:=IM (by ext) k;have e:=mt (d.2 u g).mp (by ext);have l:=vm (rk:=rk) j (show v<=c by ext) lb;rw[gW lb] at l;simp only[aq,aQ,bZ,bz,Nat.zero_add] at e;ext
 have:=d.1;have e:=(d.2 u (by ext)).mpr (by ext);simpa using e
theorem MH.mR{c t:Nat}(h:MH rk a.toList b.toList out.toList (c+1) nb)(sa:fu rk a.toList)(j:fu rk b.toList)(la:c<a.size)(d:Cut (λi=>if true=true then decide (rk (b.getD (0+i) dk)<rk a[c]) else !decide (rk a[c]<rk (b.getD (0+i) dk))) nb t) :
  MH rk a.toList b.toList (out++(b.extract t nb).reverse).toList (c+1) t/\t<=nb/\∀u,u+1=t->rk (b.getD u dk)<rk a[c]:=by
 have f:=h.lb;rw[af] at f;show⟨?_,d.1,λu n=>?_⟩
 .rw[bI,Array.toList_reverse,Ka b f];show h.lx j d.1 λx hx y k=>?_
  obtain⟨u,m,g,rfl⟩:=Eo f hx;obtain⟨v,v1,rfl⟩:=IM (by ext) k;have e:=mt (d.2 u g).mp (by ext);have l:=vm (rk:=rk) sa (show v<=c by ext) la;rw[gW la] at l;simp only[aX,bE,Nat.zero_add] at e;ext
 have:=d.1;have e:=(d.2 u (by ext)).mpr (by ext);simpa using e
end
theorem Io{rk:Keyed->Int}{a:Array Keyed}(sa:fu rk a.toList){n:Nat}(b:n<=a.size)(key:Keyed):∃k,Cut (λi=>if false=true then decide (rk (a.getD (0+i) dk)<rk key) else !decide (rk key<rk (a.getD (0+i) dk))) n k:=
 vg _ _ λi j d c h=>by
  have:=vm (rk:=rk) sa (show 0+i<=0+j by ext) (by ext);simp only[aq,aQ,bZ,bz] at h ⊢;ext
theorem Bz{rk:Keyed->Int}{b:Array Keyed}(a:fu rk b.toList){n:Nat}(c:n<=b.size)(key:Keyed):∃k,Cut (λi=>if true=true then decide (rk (b.getD (0+i) dk)<rk key) else !decide (rk key<rk (b.getD (0+i) dk))) n k:=
 vg _ _ λi j e d h=>by
  have:=vm (rk:=rk) a (show 0+i<=0+j by ext) (by ext);simp only[aX,bE] at h ⊢;ext
variable{M:Model}{A:Around}{E:Value->Shared->Prop}{s:Shared}
theorem Uz{X:SortKind}{ok:Keyed->Prop}{rk:Keyed->Int}(R:Rk M A E s X ok rk){a b:Array Keyed}{Q:Array Keyed->SortSt->Prop}{st:SortSt}(J:kindOf st=X)(H:∀x∈a,ok x)(ob:∀x∈b,ok x)(sa:fu rk a.toList)(d:fu rk b.toList)(ha:0<a.size)(F:0<b.size)
  (G:∀x∈a,rk b[0]<rk x) (h9:rk (b[b.size-1])<rk (a[a.size-1])) (q:∀(r:Array Keyed) g,r.toList.Perm (a.toList++b.toList)->fu rk r.toList->Q r (nL st g)):wpS M A E s (Ep a b) Q st:=by
 rw[UA];show ah (wb ?_);show ah (fR (show a.size-1<a.size by ext) ?_);dsimp only;have U:st=nL st (gallopOf st):=rfl;have m0:MH rk a.toList b.toList (#[a[a.size-1]]:Array Keyed).toList (a.size-1) b.size:=by
  have n0:MH rk a.toList b.toList [] (a.size-1+1) (b.size-1+1):=⟨by simp;ext,by simp;ext,by
   rw[show a.size-1+1=a.size by ext,show b.size-1+1=b.size by ext];simp,.nil,λy _ x hx=>(by cases hx),λy _ x hx=>(by cases hx)⟩
  have:=n0.eN sa d (by simp;ext) (by simp;ext) (by simp only[av];ext);rw[show b.size-1+1=b.size by ext] at this;simpa using this
 by_cases c1:a.size-1=0
 .rw[if_pos (by simpa using c1)];show ag ?_;rw[U];obtain⟨g1,g2⟩:=oG m0 sa d (.inl c1);show q _ _ g1 g2
 rw[if_neg (by simpa using c1)];by_cases W:b.size=1
 .rw[if_pos (by simpa using W)];show ag ?_;rw[U];obtain⟨g1,g2⟩:=tM m0 sa d F W G;show q _ _ g1 g2
 rw[if_neg (by simpa using W)];show ah (wpS_get ?_);show ah (wpS_mono (bA (Q:=λ(c:Option (Array Keyed)×Nat×Nat×Array Keyed×Nat) k=>∃g r,k=nL st g/\c.1=some r/\pA rk a b r) (λi (c:Option (Array Keyed)×Nat×Nat×Array Keyed×Nat) k=>(∃g,k=nL st g)/\c.1=none/\Mv rk a b c.2.2.2.1 c.2.1 c.2.2.1/\i<c.2.2.2.1.size) ?_ ?_ ⟨⟨_,U⟩,rfl,⟨m0,by dsimp only;ext,by dsimp only;ext⟩,by simp⟩) ?_)
 .rintro i ⟨c1,na,nb,out,mg⟩ k _ pV ⟨⟨g,rfl⟩,l,e,hsz⟩;dsimp only at l e hsz ⊢;subst l;show ah (wpS_mono (bA (Q:=λ(c:Option (Array Keyed)×Nat×Nat×Array Keyed×Nat×Nat) k=>(k=nL st g)/\((∃r,c.1=some r/\pA rk a b r)\/(c.1=none/\Mv rk a b c.2.2.2.1 c.2.1 c.2.2.1/\i+1<c.2.2.2.1.size)))
   (λj (c:Option (Array Keyed)×Nat×Nat×Array Keyed×Nat×Nat) k=>(k=nL st g)/\c.1=none/\Mv rk a b c.2.2.2.1 c.2.1 c.2.2.1/\i+j<c.2.2.2.1.size) ?_ ?_ ⟨rfl,rfl,e,by dsimp only;ext⟩) ?_)
  .rintro j ⟨c1,na,nb,out,ac,O⟩ k _ Hm ⟨rfl,l,e,hsz⟩;dsimp only at l e hsz ⊢;subst l;have la:=e.la;have lb:=e.lb;have XJ:=e.mh.la;have z:=e.mh.lb;rw[af] at XJ z;obtain⟨na,rfl⟩:∃n,na=n+1:=⟨na-1,by ext⟩
   obtain⟨nb,rfl⟩:∃n,nb=n+1:=⟨nb-1,by ext⟩
   simp only[Nat.add_sub_cancel];show ah (fR (show nb<b.size by ext) (ah (fR (show na<a.size by ext) (ah (R.lt _ _ _ _ (ob _ (aS _)) (H _ (aS _)) J ?_)))));dsimp only;by_cases Z:rk (b[nb]'(by ext))<rk (a[na]'(by ext))
   .simp only[Z,cq,aX];have P:=e.mh.eN sa d (show na<a.toList.length by simp;ext) (show nb<b.toList.length by simp;ext) (by simp only[av];ext);rw[av,<-aH] at P;show ah (fR (show na<a.size by ext) ?_);by_cases w:na=0
    .rw[if_pos (by simpa using w)];show ag ⟨rfl,.inl ⟨_,rfl,oG P sa d (.inl w)⟩⟩
    rw[if_neg (by simpa using w)];split
    .exact ag ⟨rfl,.inr ⟨rfl,⟨P,by dsimp only;ext,lb⟩,by simp;ext⟩⟩
    show ag ⟨rfl,rfl,⟨P,by dsimp only;ext,lb⟩,by simp;ext⟩
   simp only[Z,bR,aq,aQ];have h:=e.mh.iB sa d (show na<a.toList.length by simp;ext) (show nb<b.toList.length by simp;ext) (by simp only[av];ext);rw[av,<-aH] at h;show ah (fR (show nb<b.size by ext) ?_);by_cases w:nb=1
   .rw[if_pos (by simpa using w)];show ag ⟨rfl,.inl ⟨_,rfl,tM h sa d F w G⟩⟩
   rw[if_neg (by simpa using w)];split
   .exact ag ⟨rfl,.inr ⟨rfl,⟨h,la,by dsimp only;ext⟩,by simp;ext⟩⟩
   show ag ⟨rfl,rfl,⟨h,la,by dsimp only;ext⟩,by simp;ext⟩
  .rintro⟨c1,na,nb,out,ac,O⟩ k ⟨rfl,l,e,hsz⟩;dsimp only at l e hsz ⊢;show⟨rfl,.inr ⟨l,e,by rw[Nat.max_eq_right (aZ _)] at hsz;ext⟩⟩
  rintro⟨c1,na,nb,out,ac,O⟩ k ⟨rfl,N⟩;dsimp only at N ⊢;rcases N with⟨r,rfl,V⟩ | ⟨rfl,e,hsz⟩
  .exact ag ⟨g,r,rfl,rfl,V⟩
  dsimp only;show ah (wb ?_);show ah (wpS_mono (bA (Q:=λ(c:Option (Array Keyed)×Nat×Nat×Array Keyed×Nat×Nat×Nat) k=>(∃g,k=nL st g)/\((∃r,c.1=some r/\pA rk a b r)\/(c.1=none/\Mv rk a b c.2.2.2.1 c.2.1 c.2.2.1/\i+1<c.2.2.2.1.size)))
   (λj (c:Option (Array Keyed)×Nat×Nat×Array Keyed×Nat×Nat×Nat) k=>(∃g,k=nL st g)/\c.1=none/\Mv rk a b c.2.2.2.1 c.2.1 c.2.2.1/\i+1<c.2.2.2.1.size) ?_ ?_ ⟨⟨_,rfl⟩,rfl,e,hsz⟩) ?_)
  .clear e hsz;rintro j ⟨c1,na,nb,out,mg,ac,O⟩ k _ Hm ⟨⟨g,rfl⟩,l,e,hsz⟩;dsimp only at l e hsz ⊢;subst l;have la:=e.la;have lb:=e.lb;have S:=e.mh.la;have GA:=e.mh.lb;have ol:=e.mh.len;simp only[af] at S GA ol;obtain⟨na,rfl⟩:∃n,na=n+1:=⟨na-1,by ext⟩
   obtain⟨nb,rfl⟩:∃n,nb=n+1:=⟨nb-1,by ext⟩
   have z:nb<b.size:=by ext
   simp only[Nat.add_sub_cancel];by_cases Y:mg>1
   .rw[if_pos Y];rw[yc];show ah (wpS_modify (ah (fR z ?_)));obtain⟨t,ct⟩:=Io sa S b[nb];show ah (pF R J H (ob _ (aS _)) (by ext) (by ext) ct ?_);dsimp only;obtain⟨L,m2,K⟩:=e.mh.sM sa d z ct;by_cases kp:na+1-t>0
    .rw[if_pos kp];by_cases w:t=0
     .rw[if_pos (by simpa using w)];show ag ⟨⟨_,rfl⟩,.inl ⟨_,rfl,oG L sa d (.inl w)⟩⟩
     rw[if_neg (by simpa using w)];obtain⟨t,rfl⟩:∃v,t=v+1:=⟨t-1,by ext⟩
     simp only[Nat.add_sub_cancel];have B:=K t rfl;rw[gW (by ext)] at B;have h:=L.iB sa d (show t<a.toList.length by simp;ext) (show nb<b.toList.length by simpa using z) (by simpa using B);rw[av,<-aH] at h;show ah (fR z ?_);by_cases p:nb=1
     .rw[if_pos (by simpa using p)];show ag ⟨⟨_,rfl⟩,.inl ⟨_,rfl,tM h sa d F p G⟩⟩
     rw[if_neg (by simpa using p)];show ah (fR (show t<a.size by ext) ?_);obtain⟨u,D⟩:=Bz d (show nb<=b.size by ext) (a[t]'(by ext));show ah (pF R J ob (H _ (aS _)) (by ext) (by ext) D ?_);dsimp only;obtain⟨n1,n2,n3⟩:=h.mR sa d (by ext) D;by_cases C:nb-u>0
     .rw[if_pos C];by_cases o:u=1
      .rw[if_pos (by simpa using o)];show ag ⟨⟨_,rfl⟩,.inl ⟨_,rfl,tM n1 sa d F o G⟩⟩
      rw[if_neg (by simpa using o)];by_cases m:u=0
      .rw[if_pos (by simpa using m)];show ag ⟨⟨_,rfl⟩,.inl ⟨_,rfl,oG n1 sa d (.inr m)⟩⟩
      rw[if_neg (by simpa using m)];obtain⟨u,rfl⟩:∃v,u=v+1:=⟨u-1,by ext⟩
      have n4:=n3 u rfl;rw[gW (by ext)] at n4;have nn:=n1.eN sa d (show t<a.toList.length by simp;ext) (show u<b.toList.length by simp;ext) (by simpa using Int.le_of_lt n4);rw[av,<-aH] at nn;show ah (fR (show t<a.size by ext) ?_);by_cases f:t=0
      .rw[if_pos (by simpa using f)];show ag ⟨⟨_,rfl⟩,.inl ⟨_,rfl,oG nn sa d (.inl f)⟩⟩
      rw[if_neg (by simpa using f)];have nl:=nn.len;simp only[af] at nl;split
      .exact ag ⟨⟨_,rfl⟩,.inr ⟨rfl,⟨nn,by dsimp only;ext,by dsimp only;ext⟩,by dsimp only;ext⟩⟩
      show ag ⟨⟨_,rfl⟩,rfl,⟨nn,by dsimp only;ext,by dsimp only;ext⟩,by dsimp only;ext⟩
     rw[if_neg C];have I:u=nb:=by ext
     subst I;obtain⟨u,rfl⟩:∃v,u=v+1:=⟨u-1,by ext⟩
     have n4:=n3 u rfl;rw[gW (by ext)] at n4;have nn:=h.eN sa d (show t<a.toList.length by simp;ext) (show u<b.toList.length by simp;ext) (by simpa using Int.le_of_lt n4);rw[av,<-aH] at nn;show ah (fR (show t<a.size by ext) ?_);by_cases f:t=0
     .rw[if_pos (by simpa using f)];show ag ⟨⟨_,rfl⟩,.inl ⟨_,rfl,oG nn sa d (.inl f)⟩⟩
     rw[if_neg (by simpa using f)];have nl:=nn.len;simp only[af] at nl;split
     .exact ag ⟨⟨_,rfl⟩,.inr ⟨rfl,⟨nn,by dsimp only;ext,by dsimp only;ext⟩,by dsimp only;ext⟩⟩
     show ag ⟨⟨_,rfl⟩,rfl,⟨nn,by dsimp only;ext,by dsimp only;ext⟩,by dsimp only;ext⟩
    rw[if_neg kp];have kt:t=na+1:=by ext
    subst kt;have T:MH rk a.toList b.toList out.toList (na+1) (nb+1):=e.mh;generalize na=t at *;have B:=K t rfl;rw[gW (by ext)] at B;have h:=T.iB sa d (show t<a.toList.length by simp;ext) (show nb<b.toList.length by simpa using z) (by simpa using B);rw[av,<-aH] at h;show ah (fR z ?_);by_cases p:nb=1
    .rw[if_pos (by simpa using p)];show ag ⟨⟨_,rfl⟩,.inl ⟨_,rfl,tM h sa d F p G⟩⟩
    rw[if_neg (by simpa using p)];show ah (fR (show t<a.size by ext) ?_);obtain⟨u,D⟩:=Bz d (show nb<=b.size by ext) (a[t]'(by ext));show ah (pF R J ob (H _ (aS _)) (by ext) (by ext) D ?_);dsimp only;obtain⟨n1,n2,n3⟩:=h.mR sa d (by ext) D;by_cases C:nb-u>0
    .rw[if_pos C];by_cases o:u=1
     .rw[if_pos (by simpa using o)];show ag ⟨⟨_,rfl⟩,.inl ⟨_,rfl,tM n1 sa d F o G⟩⟩
     rw[if_neg (by simpa using o)];by_cases m:u=0
     .rw[if_pos (by simpa using m)];show ag ⟨⟨_,rfl⟩,.inl ⟨_,rfl,oG n1 sa d (.inr m)⟩⟩
     rw[if_neg (by simpa using m)];obtain⟨u,rfl⟩:∃v,u=v+1:=⟨u-1,by ext⟩
     have n4:=n3 u rfl;rw[gW (by ext)] at n4;have nn:=n1.eN sa d (show t<a.toList.length by simp;ext) (show u<b.toList.length by simp;ext) (by simpa using Int.le_of_lt n4);rw[av,<-aH] at nn;show ah (fR (show t<a.size by ext) ?_);by_cases f:t=0
     .rw[if_pos (by simpa using f)];show ag ⟨⟨_,rfl⟩,.inl ⟨_,rfl,oG nn sa d (.inl f)⟩⟩
     rw[if_neg (by simpa using f)];have nl:=nn.len;simp only[af] at nl;split
     .exact ag ⟨⟨_,rfl⟩,.inr ⟨rfl,⟨nn,by dsimp only;ext,by dsimp only;ext⟩,by dsimp only;ext⟩⟩
     show ag ⟨⟨_,rfl⟩,rfl,⟨nn,by dsimp only;ext,by dsimp only;ext⟩,by dsimp only;ext⟩
    rw[if_neg C];have I:u=nb:=by ext
    subst I;obtain⟨u,rfl⟩:∃v,u=v+1:=⟨u-1,by ext⟩
    have n4:=n3 u rfl;rw[gW (by ext)] at n4;have nn:=h.eN sa d (show t<a.toList.length by simp;ext) (show u<b.toList.length by simp;ext) (by simpa using Int.le_of_lt n4);rw[av,<-aH] at nn;show ah (fR (show t<a.size by ext) ?_);by_cases f:t=0
    .rw[if_pos (by simpa using f)];show ag ⟨⟨_,rfl⟩,.inl ⟨_,rfl,oG nn sa d (.inl f)⟩⟩
    rw[if_neg (by simpa using f)];have nl:=nn.len;simp only[af] at nl;split
    .exact ag ⟨⟨_,rfl⟩,.inr ⟨rfl,⟨nn,by dsimp only;ext,by dsimp only;ext⟩,by dsimp only;ext⟩⟩
    show ag ⟨⟨_,rfl⟩,rfl,⟨nn,by dsimp only;ext,by dsimp only;ext⟩,by dsimp only;ext⟩
   rw[if_neg Y];rw[yc];show ah (wpS_modify (ah (fR z ?_)));obtain⟨t,ct⟩:=Io sa S b[nb];show ah (pF R J H (ob _ (aS _)) (by ext) (by ext) ct ?_);dsimp only;obtain⟨L,m2,K⟩:=e.mh.sM sa d z ct;by_cases kp:na+1-t>0
   .rw[if_pos kp];by_cases w:t=0
    .rw[if_pos (by simpa using w)];show ag ⟨⟨_,rfl⟩,.inl ⟨_,rfl,oG L sa d (.inl w)⟩⟩
    rw[if_neg (by simpa using w)];obtain⟨t,rfl⟩:∃v,t=v+1:=⟨t-1,by ext⟩
    simp only[Nat.add_sub_cancel];have B:=K t rfl;rw[gW (by ext)] at B;have h:=L.iB sa d (show t<a.toList.length by simp;ext) (show nb<b.toList.length by simpa using z) (by simpa using B);rw[av,<-aH] at h;show ah (fR z ?_);by_cases p:nb=1
    .rw[if_pos (by simpa using p)];show ag ⟨⟨_,rfl⟩,.inl ⟨_,rfl,tM h sa d F p G⟩⟩
    rw[if_neg (by simpa using p)];show ah (fR (show t<a.size by ext) ?_);obtain⟨u,D⟩:=Bz d (show nb<=b.size by ext) (a[t]'(by ext));show ah (pF R J ob (H _ (aS _)) (by ext) (by ext) D ?_);dsimp only;obtain⟨n1,n2,n3⟩:=h.mR sa d (by ext) D;by_cases C:nb-u>0
    .rw[if_pos C];by_cases o:u=1
     .rw[if_pos (by simpa using o)];show ag ⟨⟨_,rfl⟩,.inl ⟨_,rfl,tM n1 sa d F o G⟩⟩
     rw[if_neg (by simpa using o)];by_cases m:u=0
     .rw[if_pos (by simpa using m)];show ag ⟨⟨_,rfl⟩,.inl ⟨_,rfl,oG n1 sa d (.inr m)⟩⟩
     rw[if_neg (by simpa using m)];obtain⟨u,rfl⟩:∃v,u=v+1:=⟨u-1,by ext⟩
     have n4:=n3 u rfl;rw[gW (by ext)] at n4;have nn:=n1.eN sa d (show t<a.toList.length by simp;ext) (show u<b.toList.length by simp;ext) (by simpa using Int.le_of_lt n4);rw[av,<-aH] at nn;show ah (fR (show t<a.size by ext) ?_);by_cases f:t=0
     .rw[if_pos (by simpa using f)];show ag ⟨⟨_,rfl⟩,.inl ⟨_,rfl,oG nn sa d (.inl f)⟩⟩
     rw[if_neg (by simpa using f)];have nl:=nn.len;simp only[af] at nl;split
     .exact ag ⟨⟨_,rfl⟩,.inr ⟨rfl,⟨nn,by dsimp only;ext,by dsimp only;ext⟩,by dsimp only;ext⟩⟩
     show ag ⟨⟨_,rfl⟩,rfl,⟨nn,by dsimp only;ext,by dsimp only;ext⟩,by dsimp only;ext⟩
    rw[if_neg C];have I:u=nb:=by ext
    subst I;obtain⟨u,rfl⟩:∃v,u=v+1:=⟨u-1,by ext⟩
    have n4:=n3 u rfl;rw[gW (by ext)] at n4;have nn:=h.eN sa d (show t<a.toList.length by simp;ext) (show u<b.toList.length by simp;ext) (by simpa using Int.le_of_lt n4);rw[av,<-aH] at nn;show ah (fR (show t<a.size by ext) ?_);by_cases f:t=0
    .rw[if_pos (by simpa using f)];show ag ⟨⟨_,rfl⟩,.inl ⟨_,rfl,oG nn sa d (.inl f)⟩⟩
    rw[if_neg (by simpa using f)];have nl:=nn.len;simp only[af] at nl;split
    .exact ag ⟨⟨_,rfl⟩,.inr ⟨rfl,⟨nn,by dsimp only;ext,by dsimp only;ext⟩,by dsimp only;ext⟩⟩
    show ag ⟨⟨_,rfl⟩,rfl,⟨nn,by dsimp only;ext,by dsimp only;ext⟩,by dsimp only;ext⟩
   rw[if_neg kp];have kt:t=na+1:=by ext
   subst kt;have T:MH rk a.toList b.toList out.toList (na+1) (nb+1):=e.mh;generalize na=t at *;have B:=K t rfl;rw[gW (by ext)] at B;have h:=T.iB sa d (show t<a.toList.length by simp;ext) (show nb<b.toList.length by simpa using z) (by simpa using B);rw[av,<-aH] at h;show ah (fR z ?_);by_cases p:nb=1
   .rw[if_pos (by simpa using p)];show ag ⟨⟨_,rfl⟩,.inl ⟨_,rfl,tM h sa d F p G⟩⟩
   rw[if_neg (by simpa using p)];show ah (fR (show t<a.size by ext) ?_);obtain⟨u,D⟩:=Bz d (show nb<=b.size by ext) (a[t]'(by ext));show ah (pF R J ob (H _ (aS _)) (by ext) (by ext) D ?_);dsimp only;obtain⟨n1,n2,n3⟩:=h.mR sa d (by ext) D;by_cases C:nb-u>0
   .rw[if_pos C];by_cases o:u=1
    .rw[if_pos (by simpa using o)];show ag ⟨⟨_,rfl⟩,.inl ⟨_,rfl,tM n1 sa d F o G⟩⟩
    rw[if_neg (by simpa using o)];by_cases m:u=0
    .rw[if_pos (by simpa using m)];show ag ⟨⟨_,rfl⟩,.inl ⟨_,rfl,oG n1 sa d (.inr m)⟩⟩
    rw[if_neg (by simpa using m)];obtain⟨u,rfl⟩:∃v,u=v+1:=⟨u-1,by ext⟩
    have n4:=n3 u rfl;rw[gW (by ext)] at n4;have nn:=n1.eN sa d (show t<a.toList.length by simp;ext) (show u<b.toList.length by simp;ext) (by simpa using Int.le_of_lt n4);rw[av,<-aH] at nn;show ah (fR (show t<a.size by ext) ?_);by_cases f:t=0
    .rw[if_pos (by simpa using f)];show ag ⟨⟨_,rfl⟩,.inl ⟨_,rfl,oG nn sa d (.inl f)⟩⟩
    rw[if_neg (by simpa using f)];have nl:=nn.len;simp only[af] at nl;split
    .exact ag ⟨⟨_,rfl⟩,.inr ⟨rfl,⟨nn,by dsimp only;ext,by dsimp only;ext⟩,by dsimp only;ext⟩⟩
    show ag ⟨⟨_,rfl⟩,rfl,⟨nn,by dsimp only;ext,by dsimp only;ext⟩,by dsimp only;ext⟩
   rw[if_neg C];have I:u=nb:=by ext
   subst I;obtain⟨u,rfl⟩:∃v,u=v+1:=⟨u-1,by ext⟩
   have n4:=n3 u rfl;rw[gW (by ext)] at n4;have nn:=h.eN sa d (show t<a.toList.length by simp;ext) (show u<b.toList.length by simp;ext) (by simpa using Int.le_of_lt n4);rw[av,<-aH] at nn;show ah (fR (show t<a.size by ext) ?_);by_cases f:t=0
   .rw[if_pos (by simpa using f)];show ag ⟨⟨_,rfl⟩,.inl ⟨_,rfl,oG nn sa d (.inl f)⟩⟩
   rw[if_neg (by simpa using f)];have nl:=nn.len;simp only[af] at nl;split
   .exact ag ⟨⟨_,rfl⟩,.inr ⟨rfl,⟨nn,by dsimp only;ext,by dsimp only;ext⟩,by dsimp only;ext⟩⟩
   show ag ⟨⟨_,rfl⟩,rfl,⟨nn,by dsimp only;ext,by dsimp only;ext⟩,by dsimp only;ext⟩
  .rintro⟨c1,na,nb,out,mg,ac,O⟩ k ⟨⟨g,rfl⟩,l,e,hsz⟩;dsimp only at l e hsz ⊢;show⟨⟨g,rfl⟩,.inr ⟨l,e,hsz⟩⟩
  rintro⟨c1,na,nb,out,mg,ac,O⟩ k ⟨⟨g,rfl⟩,N⟩;dsimp only at N ⊢;rcases N with⟨r,rfl,V⟩ | ⟨rfl,e,hsz⟩
  .exact ag ⟨g,r,rfl,rfl,V⟩
  dsimp only;rw[yc];show ah (wpS_modify (ag ⟨⟨_,rfl⟩,rfl,e,hsz⟩))
 .rintro⟨c1,na,nb,out,mg⟩ k ⟨⟨g,rfl⟩,l,e,hsz⟩;dsimp only at l e hsz ⊢;exfalso
  have h1:=e.mh.len;have h2:=e.la;have h3:=e.lb;simp only[af] at h1;rw[Nat.max_eq_right (aZ _)] at hsz;ext
 rintro⟨c1,na,nb,out,mg⟩ k ⟨g,r,rfl,rfl,g1,g2⟩;show ag (q r g g1 g2)
theorem Uy(i:Nat):mergeAt' i=(do
 let s <-get
 let(some (sa,na,power),some (b,nb,_)):=((pendingOf s)[i]?,(pendingOf s)[i+1]?) | unsupported "internal:list.sort.pending"
 set (setPending s (((pendingOf s).setIfInBounds i (sa,na+nb,power)).eraseIdxIfInBounds (i+1)))
 let some k <-vi false (<-elem' (arrOf s) b) (arrOf s) sa na 0 | return false
 let(sa,na):=(sa+k,na-k)
 if na==0 then return true
 let some nb <-vi true (<-elem' (arrOf s) (sa+na-1)) (arrOf s) b nb (nb-1) | return false
 if nb==0 then return true
 let x:=(arrOf s).extract sa b
 let y:=(arrOf s).extract b (b+nb)
 let merged <-if na<=nb then Er x y else Ep x y
 modify λs=>setArr s (merged.toList.zipIdx.foldl (λa (p,j)=>a.setIfInBounds (sa+j) p) (arrOf s))
 return (failedOf (<-get)).isNone):=rfl
variable{M:Model}{A:Around}{E:Value->Shared->Prop}{s:Shared}
theorem Lv(b:Nat):∀(m l:List Keyed)(k:Nat),b+k+m.length<=l.length->
  (m.zipIdx k).foldl (λ(a:Array Keyed)(q:Keyed×Nat)=>a.setIfInBounds (b+q.2) q.1) l.toArray=(l.take (b+k)++m++l.drop (b+k+m.length)).toArray
 | [],l,k,h=>by simp
 | x::m,l,k,h=>by
  simp only[aD] at h;rw[List.zipIdx_cons,List.foldl_cons];dsimp only;rw[show l.toArray.setIfInBounds (b+k) x=(l.set (b+k) x).toArray by simp];rw[Lv b m (l.set (b+k) x) (k+1) (by rw[List.length_set];ext)];congr 1
  have c:(l.set (b+k) x).take (b+(k+1))=l.take (b+k)++[x]:=by
   rw[show b+(k+1)=b+k+1 by ext,aY,List.take_set,List.getElem?_set_self (by ext)];rw[List.set_eq_of_length_le (by simp;ext)];rfl
  rw[c,List.drop_set_of_lt (by ext)];simp only[aD,bw,cg,List.nil_append];rw[show b+(k+1)+m.length=b+k+(m.length+1) by ext]
theorem Qa{x:SortSt}{Q:PUnit->SortSt->Prop}{st:SortSt}(q:Q ⟨⟩ x):wpS M A E s (set x:StateT SortSt Sem PUnit) Q st:=wpS_modify (f:=λ_=>x) q
theorem BQ{rk:Keyed->Int}{l:List Keyed}(h:fu rk l){i j:Nat}(b:i<=j)(a:j<l.length):rk (l[i]'(by ext))<=rk l[j]:=by
 by_cases e:i=j
 .subst e;show Int.le_refl _
 show List.pairwise_iff_getElem.mp h i j (by ext) a (by ext)
theorem fu.app{rk:Keyed->Int}{l m:List Keyed}(b:fu rk l)(a:fu rk m)(h:∀x∈l,∀y∈m,rk x<=rk y):fu rk (l++m):=bx.mpr ⟨b,a,h⟩
theorem Ux{o:SortKind}{ok:Keyed->Prop}{rk:Keyed->Int}(R:Rk M A E s o ok rk){i B pb:Nat}{P X Y S:List Keyed}{Q:Bool->SortSt->Prop}{st:SortSt}(n:kindOf st=o)(T:failedOf st=none)(O:∀x∈arrOf st,ok x)
  (dec:(arrOf st).toList=P++(X++(Y++S))) (p1:(pendingOf st)[i]?=some (P.length,X.length,B)) (p2:(pendingOf st)[i+1]?=some (P.length+X.length,Y.length,pb)) (ha:0<X.length) (hb:0<Y.length) (v:fu rk X) (p:fu rk Y)
  (q:∀(Z:List Keyed) g,Z.Perm (X++Y)->fu rk Z->Q true (SortSt.mk' o (P++(Z++S)).toArray (((pendingOf st).setIfInBounds i (P.length,X.length+Y.length,B)).eraseIdxIfInBounds (i+1)) g none)):wpS M A E s (mergeAt' i) Q st:=by
 rw[Uy];show ah (wpS_get ?_);rw[p1,p2];dsimp only;show ah (Qa ?_);have hsz:(arrOf st).size=P.length+(X.length+(Y.length+S.length)):=by rw[<-af,dec];simp
 have H:arrOf st=(P++(X++(Y++S))).toArray:=by rw[<-dec]
 have F:∀t,(h:t<X.length)->(arrOf st).getD (P.length+t) dk=X[t]:=λt h=>by
  rw[gW (by ext)];simp[H,List.getElem_append_right,List.getElem_append_left,h]
 have D:∀t,(h:t<Y.length)->(arrOf st).getD (P.length+X.length+t) dk=Y[t]:=λt h=>by
  rw[gW (by ext)];have I:P.length+X.length+t-P.length-X.length=t:=by ext
  simp only[H,List.getElem_toArray];rw[List.getElem_append_right (by ext),List.getElem_append_right (by ext),List.getElem_append_left (by ext)];congr 1
 have YT:(arrOf st)[P.length+X.length]'(by ext)=Y[0]:=by
  have:=D 0 hb;rw[gW (by ext)] at this;simpa using this
 show ah (fR (show P.length+X.length<(arrOf st).size by ext) ?_);rw[YT]
 have G:∀x,x∈P\/x∈X\/x∈Y\/x∈S->ok x:=λx hx=>O x (by
  rw[<-bP,dec];simp only[aw];show hx)
 obtain⟨k,K⟩:∃k,Cut (λi=>if false=true then decide (rk ((arrOf st).getD (P.length+i) dk)<rk Y[0]) else !decide (rk Y[0]<rk ((arrOf st).getD (P.length+i) dk))) X.length k:=by
  show vg _ _ λi j U C h=>?_
  have:=BQ v U C;rw[F j C] at h;rw[F i (by ext)];simp only[aq,aQ,bZ,bz] at h ⊢;ext
 have ND:=K.1;show ah (pF R n O (G _ (.inr (.inr (.inl (bK _))))) (by ext) ha K ?_);dsimp only;have L:∀x∈X.take k,∀y∈Y,rk x<=rk y:=λx hx y f=>by
  obtain⟨t,l,rfl⟩:=bT hx;obtain⟨u,hu,rfl⟩:=bT f;have c:t<k:=by simp at l;ext
  have b:=(K.2 t (by ext)).mpr c;dsimp only at b;rw[F t (by ext)] at b;have h2:=BQ p (aZ u) hu;simp only[aq,aQ,bZ,bz] at b;rw[List.getElem_take];ext
 have x2:∀x∈X.drop k,rk Y[0]<rk x:=λx hx=>by
  obtain⟨t,l,rfl⟩:=bT hx;have c:k+t<X.length:=by simp at l;ext
  have b:=mt (K.2 (k+t) c).mp (by ext);dsimp only at b;rw[F _ c] at b;rw[List.getElem_drop];simpa using b
 have same:∀g,SortSt.mk' o (P++((X++Y)++S)).toArray (((pendingOf st).setIfInBounds i (P.length,X.length+Y.length,B)).eraseIdxIfInBounds (i+1)) g none=SortSt.mk' o (arrOf st) (((pendingOf st).setIfInBounds i (P.length,X.length+Y.length,B)).eraseIdxIfInBounds (i+1)) g none:=λg=>by
  rw[H];simp
 have whole:fu rk (X++Y)->Q true (setPending st (((pendingOf st).setIfInBounds i (P.length,X.length+Y.length,B)).eraseIdxIfInBounds (i+1))):=λh=>by
  have:=q (X++Y) (gallopOf st) (List.Perm.refl _) h;rw[same] at this;show Q true (SortSt.mk' (kindOf st) (arrOf st) _ (gallopOf st) (failedOf st));rw[n,T];show this
 by_cases e1:X.length-k=0
 .rw[if_pos (by simpa using e1)];show ag (whole (v.app p λx hx=>L x ?_));rw[bh (by ext)];show hx
 rw[if_neg (by simpa using e1)];have gl:(arrOf st)[P.length+k+(X.length-k)-1]'(by ext)=X[X.length-1]:=by
  have:=F (X.length-1) (by ext);rw[gW (by ext)] at this;rw[<-this];congr 1
  ext
 show ah (fR (show P.length+k+(X.length-k)-1<(arrOf st).size by ext) ?_);rw[gl];obtain⟨m,J⟩:∃m,Cut (λi=>if true=true then decide (rk ((arrOf st).getD (P.length+X.length+i) dk)<rk X[X.length-1]) else !decide (rk X[X.length-1]<rk ((arrOf st).getD (P.length+X.length+i) dk))) Y.length m:=by
  show vg _ _ λi j U C h=>?_
  have:=BQ p U C;rw[D j C] at h;rw[D i (by ext)];simp only[aX,bE] at h ⊢;ext
 have V:=J.1;show ah (pF R n O (G _ (.inr (.inl (bK _)))) (by ext) (by ext) J ?_);dsimp only;have y1:∀y∈Y.take m,rk y<rk X[X.length-1]:=λy f=>by
  obtain⟨t,l,rfl⟩:=bT f;have c:t<m:=by simp at l;ext
  have b:=(J.2 t (by ext)).mpr c;dsimp only at b;rw[D t (by ext)] at b;rw[List.getElem_take];simpa using b
 have W:∀x∈X,∀y∈Y.drop m,rk x<=rk y:=λx hx y f=>by
  obtain⟨t,l,rfl⟩:=bT f;obtain⟨u,hu,rfl⟩:=bT hx;have c:m+t<Y.length:=by simp at l;ext
  have b:=mt (J.2 (m+t) c).mp (by ext);dsimp only at b;rw[D _ c] at b;have h2:=BQ v (show u<=X.length-1 by ext) (by ext);rw[List.getElem_drop];simp only[aX,bE] at b;ext
 by_cases I:m=0
 .rw[if_pos (by simpa using I)];show ag (whole (v.app p λx hx y f=>W x hx y ?_));rw[I];simpa using f
 rw[if_neg (by simpa using I)];have ex:((arrOf st).extract (P.length+k) (P.length+X.length)).toList=X.drop k:=by
  rw[Array.toList_extract,dec];simp only[List.extract];rw[List.drop_length_add_append,List.drop_append_of_le_length ND,show P.length+X.length-(P.length+k)=(X.drop k).length by rw[cf];ext,List.take_left]
 have e:((arrOf st).extract (P.length+X.length) (P.length+X.length+m)).toList=Y.take m:=by
  rw[Array.toList_extract,dec];simp only[List.extract];rw[List.drop_length_add_append,show X.length=X.length+0 from rfl,List.drop_length_add_append,List.drop_zero,show P.length+(X.length+0)+m-(P.length+(X.length+0))=m by ext,List.take_append_of_le_length V]
 have zx:((arrOf st).extract (P.length+k) (P.length+X.length)).size=X.length-k:=by rw[<-af,ex,cf]
 have zy:((arrOf st).extract (P.length+X.length) (P.length+X.length+m)).size=m:=by rw[<-af,e,aP];ext
 generalize (arrOf st).extract (P.length+k) (P.length+X.length)=x at ex zx ⊢;generalize (arrOf st).extract (P.length+X.length) (P.length+X.length+m)=y at e zy ⊢;have ox:∀z∈x,ok z:=λz hz=>G z (.inr (.inl (List.mem_of_mem_drop (by rw[<-ex];show bP.mpr hz))))
 have oy:∀z∈y,ok z:=λz hz=>G z (.inr (.inr (.inl (List.mem_of_mem_take (by rw[<-e];show bP.mpr hz)))))
 have sx:fu rk x.toList:=by rw[ex];show v.sublist (List.drop_sublist _ _)
 have sy:fu rk y.toList:=by rw[e];show p.sublist (List.take_sublist _ _)
 have MT:0<x.size:=by ext
 have N:0<y.size:=by ext
 have YO:y[0]=Y[0]:=by
  have:y.toList[0]'(by simpa using N)=Y[0]:=by simp only[e,List.getElem_take]
  simpa using this
 have YQ:x[x.size-1]=X[X.length-1]:=by
  have:x.toList[x.size-1]'(by simp;ext)=X[X.length-1]:=by
   simp only[ex,List.getElem_drop];congr 1
   ext
  simpa using this
 have fx:∀z∈x,rk y[0]<rk z:=λz hz=>by
  rw[YO];show x2 z (by rw[<-ex];show bP.mpr hz)
 have fy:∀z∈y,rk z<rk (x[x.size-1]):=λz hz=>by
  rw[YQ];show y1 z (by rw[<-e];show bP.mpr hz)
 have fin:∀(r:Array Keyed) g,r.toList.Perm (x.toList++y.toList)->fu rk r.toList->Q true (SortSt.mk' o (r.toList.zipIdx.foldl (λ(a:Array Keyed)(z:Keyed×Nat)=>a.setIfInBounds (P.length+k+z.2) z.1) (arrOf st)) (((pendingOf st).setIfInBounds i (P.length,X.length+Y.length,B)).eraseIdxIfInBounds (i+1)) g none):=λr g d rs=>by
  have rl:=d.length_eq;rw[ay,ex,e,cf,aP,Nat.min_eq_left V] at rl;rw[ex,e] at d;have e9:=Lv (P.length+k) r.toList (P++(X++(Y++S))) 0 (by simp only[ay];ext);rw[<-H] at e9;rw[e9];have t1:(P++(X++(Y++S))).take (P.length+k+0)=P++X.take k:=by
   rw[Nat.add_zero,List.take_length_add_append,List.take_append_of_le_length ND]
  have t2:(P++(X++(Y++S))).drop (P.length+k+0+r.toList.length)=Y.drop m++S:=by
   rw[show P.length+k+0+r.toList.length=P.length+(X.length+m) by ext,List.drop_length_add_append,List.drop_length_add_append,List.drop_append_of_le_length V]
  rw[t1,t2];have:=q (X.take k++(r.toList++Y.drop m)) g ?_ ?_
  .simpa[bw] using this
  .have b:(X.take k++(r.toList++Y.drop m)).Perm (X.take k++((X.drop k++Y.take m)++Y.drop m)):=List.Perm.append_left _ (d.append_right _);show b.trans ?_;rw[bw,bF,<-bw,bF]
  have mr:∀z∈r.toList,z∈X.drop k\/z∈Y.take m:=λz hz=>aw.mp (d.mem_iff.mp hz)
  have Xl:fu rk (X.take k++X.drop k):=by rw[bF];show v
  have Xk:fu rk (Y.take m++Y.drop m):=by rw[bF];show p
  have d1:=(bx.mp Xl)
  have d2:=(bx.mp Xk)
  show fu.app d1.1 (rs.app d2.2.1 λz hz w hw=>?_) λz hz w hw=>?_
  .rcases mr z hz with h | h
   .exact W z (List.mem_of_mem_drop h) w hw
   show d2.2.2 z h w hw
  rcases aw.mp hw with hw | hw
  .rcases mr w hw with h | h
   .exact d1.2.2 z hz w h
   show L z hz w (List.mem_of_mem_take h)
  show L z hz w (List.mem_of_mem_drop hw)
 split
 .refine ah (UB R n ox oy sx sy MT N (fx _ (aS _)) fy λr g d rs=>?_);show ah (wpS_modify (ah (wpS_get (ag ?_))));have:=fin r g d rs;show Q (failedOf st).isNone (SortSt.mk' (kindOf st) _ _ g (failedOf st));rw[T,n];show this
 show ah (Uz R n ox oy sx sy MT N fx (fy _ (aS _)) λr g d rs=>?_);show ah (wpS_modify (ah (wpS_get (ag ?_))));have:=fin r g d rs;show Q (failedOf st).isNone (SortSt.mk' (kindOf st) _ _ g (failedOf st));rw[T,n];show this
noncomputable def kr(rk:Keyed->Int)(xs:Array Keyed)(i:Nat):Int:=rk (xs.getD i dk)
def g8(rk:Keyed->Int)(xs:Array Keyed)(lo n:Nat):Prop:=∀i j,i<=j->j<n->kr rk xs (lo+i)<=kr rk xs (lo+j)
structure Sl(xs ys:Array Keyed)(lo n:Nat):Prop where
 pm:ys.Perm xs
 out:∀j,j<lo\/lo+n<=j->ys[j]?=xs[j]?
theorem Sl.size{xs ys:Array Keyed}{lo n:Nat}(h:Sl xs ys lo n):ys.size=xs.size:=h.pm.size_eq
theorem Sl.refl(xs:Array Keyed)(lo n:Nat):Sl xs xs lo n:=⟨Array.Perm.refl _,λ_ _=>rfl⟩
theorem Sl.trans{xs ys a:Array Keyed}{lo n:Nat}(h:Sl xs ys lo n)(h':Sl ys a lo n):Sl xs a lo n:=⟨h'.pm.trans h.pm,λj b=>(h'.out j b).trans (h.out j b)⟩
theorem zj{rk:Keyed->Int}{xs ys:Array Keyed}{i j:Nat}(h:ys[i]?=xs[j]?):kr rk ys i=kr rk xs j:=by
 unfold kr;rw[Array.getD_eq_getD_getElem?,Array.getD_eq_getD_getElem?,h]
variable{M:Model}{A:Around}{E:Value->Shared->Prop}{s:Shared}
theorem rK{a:SortKind}{ok:Keyed->Prop}{rk:Keyed->Int}(R:Rk M A E s a ok rk){i j:Nat}{Q:Option Bool->SortSt->Prop}{st:SortSt}(d:kindOf st=a)(b:∀x∈arrOf st,ok x)(hi:i<(arrOf st).size)(c:j<(arrOf st).size)
  (q:Q (some (decide (kr rk (arrOf st) i<kr rk (arrOf st) j))) st):wpS M A E s (ltAt' i j) Q st:=by
 rw[ltAt'_eq];show ah (wpS_get (ah (fR hi (ah (fR c ?_)))));show R.lt _ _ _ _ (b _ (aS _)) (b _ (aS _)) d ?_;unfold kr at q;rwa [gW hi,gW c] at q
theorem Sl.ok{xs ys:Array Keyed}{lo n:Nat}(h:Sl xs ys lo n){ok:Keyed->Prop}(a:∀x∈xs,ok x):∀x∈ys,ok x:=λx hx=>a x (h.pm.mem_iff.mp hx)
theorem Tv{F:SortKind}{ok:Keyed->Prop}{rk:Keyed->Int}(R:Rk M A E s F ok rk){lo n t:Nat}{Q:Bool->SortSt->Prop}{st:SortSt}(P:kindOf st=F)(N:∀x∈arrOf st,ok x)(V:lo+n<=(arrOf st).size)(O:g8 rk (arrOf st) lo t)(W:t<=n)
  (q:∀ys,Sl (arrOf st) ys lo n->g8 rk ys lo n->Q true (setArr st ys)):wpS M A E s (binarySort' lo n t) Q st:=by
 rw[binarySort'_eq];show ah (wpS_mono (bA (I:=λk (c:Option Bool×Unit) b=>c.1=none/\∃ys,b=setArr st ys/\Sl (arrOf st) ys lo n/\g8 rk ys lo (min k n))
  (Q:=λc b=>c.1=none/\∃ys,b=setArr st ys/\Sl (arrOf st) ys lo n/\g8 rk ys lo n) ?step ?fin ?init) ?post)
 case post=>
  rintro⟨c,⟨⟩⟩ b ⟨a,ys,rfl,g,f⟩;dsimp only at a;subst a;show ag (q ys g f)
 case init=>
  show⟨rfl,arrOf st,rfl,Sl.refl _ _ _,λi j v u=>?_⟩;by_cases g:t=0
  .have:i=j:=by ext
   subst this;show Int.le_refl _
  show O i j v (by ext)
 case fin=>
  rintro c b ⟨a,ys,rfl,g,f⟩;show⟨a,ys,rfl,g,by rwa [show min (max (max t 1) n) n=n by ext] at f⟩
 case step=>
  rintro k ⟨c,⟨⟩⟩ b X U ⟨a,ys,rfl,g,f⟩;dsimp only at a ⊢;subst a;rw[show min k n=k by ext] at f;have hsz:=g.size;have L:=g.ok N;obtain⟨p,cp⟩:∃p,Cut (λm=>!decide (kr rk ys (lo+k)<kr rk ys (lo+m))) k p:=by
   show vg _ _ λi j v u h=>?_
   have:=f i j v u;simp only[bZ,bz] at h ⊢;ext
  have T:=cp.1;show ah (wpS_mono (bA (I:=λj (c:Option Bool×Nat×Nat) b=>b=setArr st ys/\c.1=none/\c.2.1<=p/\p<=c.2.2/\c.2.2<=k/\c.2.2-c.2.1+j<=k)
   (Q:=λ(c:Option Bool×Nat×Nat) b=>b=setArr st ys/\c.1=none/\c.2.1=p) ?_ ?_ ⟨rfl,rfl,aZ _,T,az _,by show k-0+0<=k;ext⟩) ?_)
  .rintro j ⟨c,l,r⟩ b _ u ⟨rfl,a,o,C,B,y⟩;dsimp only at a o C B y ⊢;subst a;by_cases hd:l>=r
   .rw[if_pos hd];show ag ⟨rfl,rfl,by dsimp only;ext⟩
   rw[if_neg hd];have S:l<=(l+r)/2/\(l+r)/2<r:=by ext
   generalize (l+r)/2=d at S ⊢;show ah (rK R P L (show lo+k<ys.size by ext) (show lo+d<ys.size by ext) ?_);have hm:=cp.2 (d) (by ext);simp only[bZ,bz] at hm;dsimp only;by_cases D:kr rk ys (lo+k)<kr rk ys (lo+d)
   .have:¬d<p:=λz=>hm.mpr z D
    rw[show decide (kr rk (arrOf (setArr st ys)) (lo+k)<kr rk (arrOf (setArr st ys)) (lo+d))=true from decide_eq_true D];simp only[aX];show ag ⟨rfl,rfl,o,by dsimp only;ext,by dsimp only;ext,by dsimp only;ext⟩
   have:d<p:=hm.mp D;rw[show decide (kr rk (arrOf (setArr st ys)) (lo+k)<kr rk (arrOf (setArr st ys)) (lo+d))=false from bg D];simp only[aq,aQ];show ag ⟨rfl,rfl,by dsimp only;ext,C,B,by dsimp only;ext⟩
  .rintro⟨c,l,r⟩ b ⟨rfl,a,o,C,B,y⟩;dsimp only at a o C B y ⊢;show⟨rfl,a,by rw[Nat.max_eq_right (aZ k)] at y;ext⟩
  rintro⟨c,l,r⟩ b ⟨rfl,a,o⟩;dsimp only at a o ⊢;subst a o;dsimp only;rw[moveDown'_eq];show ah (wpS_modify (ag ⟨rfl,bubble ys (lo+k) (lo+k-(lo+l)),rfl,g.trans ⟨bubble_perm _ _ _,λj u=>?_⟩,?_⟩))
  .rw[getElem?_bubble (by ext) _ (by ext),if_neg (by ext),if_neg (by ext)]
  rw[show min (k+1) n=k+1 by ext];have G:∀j,kr rk (bubble ys (lo+k) (lo+k-(lo+l))) (lo+j)=if j=l then kr rk ys (lo+k) else if l<j/\j<=k then kr rk ys (lo+(j-1)) else kr rk ys (lo+j):=λj=>by
   have e:=getElem?_bubble (xs:=ys) (src:=lo+k) (by ext) (lo+k-(lo+l)) (by ext) (lo+j);by_cases c1:j=l
   .rw[if_pos (by ext)] at e;rw[if_pos c1];show zj e
   rw[if_neg (by ext)] at e;rw[if_neg c1];by_cases H:l<j/\j<=k
   .rw[if_pos (by ext),show lo+j-1=lo+(j-1) by ext] at e;rw[if_pos H];show zj e
   rw[if_neg (by ext)] at e;rw[if_neg H];show zj e
  have below:∀m,m<l->kr rk ys (lo+m)<=kr rk ys (lo+k):=λm hm=>by
   have:=(cp.2 m (by ext)).mpr hm;simp only[bZ,bz] at this;ext
  have above:∀m,l<=m->m<k->kr rk ys (lo+k)<=kr rk ys (lo+m):=λm hm K=>by
   have:=mt (cp.2 m K).mp (by ext);simp only[bZ,bz] at this;ext
  intro i j v u;rw[G,G];by_cases a1:i=l
  .rw[if_pos a1];by_cases w:j=l
   .rw[if_pos w];show Int.le_refl _
   rw[if_neg w,if_pos (by ext)];show above _ (by ext) (by ext)
  rw[if_neg a1];by_cases a2:l<i/\i<=k
  .rw[if_pos a2,if_neg (by ext),if_pos (by ext)];show f _ _ (by ext) (by ext)
  rw[if_neg a2];by_cases w:j=l
  .rw[if_pos w];show below i (by ext)
  rw[if_neg w];by_cases J:l<j/\j<=k
  .rw[if_pos J];show f _ _ (by ext) (by ext)
  rw[if_neg J];show f _ _ v (by ext)
theorem EM{rk:Keyed->Int}{xs:Array Keyed}{i j:Nat}(b:j<=xs.size)(k:Nat):kr rk (mirror xs i j ((j-i)/2)) k=if i<=k/\k<j then kr rk xs (i+j-1-k) else kr rk xs k:=by
 have e:=getElem?_mirror_all (i:=i) b k;by_cases a:i<=k/\k<j
 .rw[if_pos a] at e ⊢;show zj e
 rw[if_neg a] at e ⊢;show zj e
theorem uw{xs:Array Keyed}{i j lo n:Nat}(a:j<=xs.size)(hi:lo<=i)(b:j<=lo+n):Sl xs (mirror xs i j ((j-i)/2)) lo n:=
 ⟨mirror_perm _ _ _ _,λk c=>by rw[getElem?_mirror_all a,if_neg (by ext)]⟩
theorem zD{rk:Keyed->Int}{xs:Array Keyed}{i j:Nat}(b:j<=xs.size)(a:∀k,i<=k->k<j->kr rk xs k=kr rk xs (j-1))(k:Nat):kr rk (mirror xs i j ((j-i)/2)) k=kr rk xs k:=by
 rw[EM b];split
 .rw[a _ (by ext) (by ext),a k (by ext) (by ext)]
 rfl
def Dec(rk:Keyed->Int)(xs:Array Keyed)(lo n:Nat):Prop:=∀i j,i<=j->j<n->kr rk xs (lo+j)<=kr rk xs (lo+i)
theorem g8.more{rk:Keyed->Int}{xs:Array Keyed}{lo n:Nat}(h:g8 rk xs lo n)(c:1<=n)(d:kr rk xs (lo+n-1)<=kr rk xs (lo+n)):g8 rk xs lo (n+1):=λi j a f=>by
 by_cases e:j=n
 .subst e;by_cases b:i=j
  .subst b;show Int.le_refl _
  have:=h i (j-1) (by ext) (by ext);rw[show lo+(j-1)=lo+j-1 by ext] at this;ext
 show h i j a (by ext)
theorem Dec.more{rk:Keyed->Int}{xs:Array Keyed}{lo n:Nat}(h:Dec rk xs lo n)(c:1<=n)(d:kr rk xs (lo+n)<=kr rk xs (lo+n-1)):Dec rk xs lo (n+1):=λi j a f=>by
 by_cases e:j=n
 .subst e;by_cases b:i=j
  .subst b;show Int.le_refl _
  have:=h i (j-1) (by ext) (by ext);rw[show lo+(j-1)=lo+j-1 by ext] at this;ext
 show h i j a (by ext)
theorem Dec.turn{rk:Keyed->Int}{xs:Array Keyed}{lo n:Nat}(h:Dec rk xs lo n)(a:lo+n<=xs.size):g8 rk (mirror xs lo (lo+n) ((lo+n-lo)/2)) lo n:=λi j c b=>by
 rw[EM a,EM a,if_pos (by ext),if_pos (by ext)];have:=h (n-1-j) (n-1-i) (by ext) (by ext);rw[show lo+(lo+n)-1-(lo+i)=lo+(n-1-i) by ext,show lo+(lo+n)-1-(lo+j)=lo+(n-1-j) by ext];show this
variable{M:Model}{A:Around}{E:Value->Shared->Prop}{s:Shared}
theorem uo{i j:Nat}{Q:Unit->SortSt->Prop}{st:SortSt}(h:Q () (setArr st (mirror (arrOf st) i j ((j-i)/2)))):wpS M A E s (reverseSlice' i j) Q st:=by
 rw[reverseSlice'_eq];show wpS_modify h
theorem SW{U:SortKind}{ok:Keyed->Prop}{rk:Keyed->Int}(R:Rk M A E s U ok rk){lo h:Nat}{Q:Option Nat->SortSt->Prop}{st:SortSt}(B:kindOf st=U)(w:∀x∈arrOf st,ok x)(Y:lo+h<=(arrOf st).size)(Z:1<=h)
  (q:∀ys n,1<=n->n<=h->Sl (arrOf st) ys lo h->g8 rk ys lo n->Q (some n) (setArr st ys)):wpS M A E s (countRun' lo h) Q st:=by
 rw[countRun'_eq];show ah (wpS_mono (bA (I:=λi (c:Option (Option Nat)×Nat) a=>a=st/\c.1=none/\c.2=i/\g8 rk (arrOf st) lo i)
  (Q:=λ(c:Option (Option Nat)×Nat) a=>a=st/\c.1=none/\1<=c.2/\c.2<=h/\g8 rk (arrOf st) lo c.2/\(c.2<h->kr rk (arrOf st) (lo+c.2)<kr rk (arrOf st) (lo+c.2-1))) ?_ ?_ ⟨rfl,rfl,rfl,λi j D C=>by rw[show i=j by ext];show Int.le_refl _⟩) ?_)
 .rintro i ⟨c,n⟩ a F H ⟨rfl,b,e,d⟩;dsimp only at b e ⊢;subst b e;show ah (rK R B w (by ext) (by ext) ?_);dsimp only;by_cases m:kr rk (arrOf a) (lo+n)<kr rk (arrOf a) (lo+n-1)
  .simp only[m,cq,aX];show ag ⟨rfl,rfl,F,by dsimp only;ext,d,λ_=>m⟩
  simp only[m,bR,aq,aQ];show ag ⟨rfl,rfl,rfl,d.more F (by ext)⟩
 .rintro⟨c,n⟩ a ⟨rfl,b,e,d⟩;dsimp only at b e ⊢;subst e;show⟨rfl,b,by ext,by ext,d,λz=>by ext⟩
 rintro⟨c,n⟩ a ⟨rfl,b,n1,n2,d,hd⟩;dsimp only at b n1 n2 d hd ⊢;subst b;dsimp only;by_cases X:n=h
 .rw[if_pos (by simpa using X)];show ag (q (arrOf a) n n1 n2 (Sl.refl _ _ _) d)
 rw[if_neg (by simpa using X)];have Yz:=hd (by ext);by_cases W:n>1
 .rw[if_pos W];show ah (rK R B w (by ext) (by ext) ?_);dsimp only;by_cases V:kr rk (arrOf a) lo<kr rk (arrOf a) (lo+n-1)
  .simp only[V,cq,aX];show ag (q (arrOf a) n n1 n2 (Sl.refl _ _ _) d)
  simp only[V,bR,aq,aQ];have same:∀k,lo<=k->k<lo+n->kr rk (arrOf a) k=kr rk (arrOf a) (lo+n-1):=λk k1 N=>by
   have a1:=d 0 (k-lo) (by ext) (by ext);have a2:=d (k-lo) (n-1) (by ext) (by ext);rw[show lo+(k-lo)=k by ext] at a1 a2;rw[show lo+(n-1)=lo+n-1 by ext] at a2;simp only[Nat.add_zero] at a1;ext
  have o:=zD (rk:=rk) (xs:=arrOf a) (i:=lo) (j:=lo+n) (by ext) same;have J:=uw (xs:=arrOf a) (i:=lo) (j:=lo+n) (lo:=lo) (n:=h) (by ext) (by ext) (by ext);show ah (uo ?_);generalize mirror (arrOf a) lo (lo+n) ((lo+n-lo)/2)=G at o J;have O:Dec rk G lo (n+1):=by
   have T:Dec rk G lo n:=λi j D C=>by
    rw[o,o,same _ (by ext) (by ext),same (lo+i) (by ext) (by ext)];show Int.le_refl _
   show T.more n1 ?_;rw[o,o];ext
  show ah (wb ?_);show ah (wpS_mono (bA (I:=λi (c:Option (Option Nat)×Nat×Nat) f=>∃ys,f=setArr a ys/\Sl (arrOf a) ys lo h/\c.1=none/\c.2.1=i/\Dec rk ys lo i/\c.2.2<i/\∀t,t<=c.2.2->kr rk ys (lo+i-1-t)=kr rk ys (lo+i-1))
   (Q:=λ(c:Option (Option Nat)×Nat×Nat) f=>∃ys,f=setArr a ys/\Sl (arrOf a) ys lo h/\c.1=none/\1<=c.2.1/\c.2.1<=h/\Dec rk ys lo c.2.1/\c.2.2<c.2.1/\∀t,t<=c.2.2->kr rk ys (lo+c.2.1-1-t)=kr rk ys (lo+c.2.1-1)) ?_ ?_ ⟨G,rfl,J,rfl,rfl,O,by dsimp only;ext,λt r=>by rw[show t=0 by dsimp only at r;ext];rfl⟩) ?_)
  .rintro i ⟨c,n,e⟩ f F H ⟨ys,rfl,g,b,v,p,u,eq⟩;dsimp only at b v u eq ⊢;subst b v;have hsz:=g.size;show ah (rK R B (g.ok w) (show lo+n<ys.size by ext) (show lo+n-1<ys.size by ext) ?_);dsimp only;by_cases m:kr rk ys (lo+n)<kr rk ys (lo+n-1)
   .rw[show decide (kr rk (arrOf (setArr a ys)) (lo+n)<kr rk (arrOf (setArr a ys)) (lo+n-1))=true from decide_eq_true m];simp only[aX];have K:=p.more (by ext) (Int.le_of_lt m);by_cases ep:e>0
    .rw[if_pos ep]
     have o:=zD (rk:=rk) (xs:=ys) (i:=lo+n-(e+1)) (j:=lo+n) (by ext) (λk k1 N=>by
      have:=eq (lo+n-1-k) (by ext)
      rwa [show lo+n-1-(lo+n-1-k)=k by ext] at this)
     show ah (uo ?_);show ag ⟨_,rfl,g.trans (uw (by show lo+n<=ys.size;ext) (by ext) (by ext)),rfl,rfl,λi j D C=>?_,by dsimp only;ext,λt r=>by rw[show t=0 by dsimp only at r;ext];rfl⟩;have:=K i j D C;rw[<-o,<-o] at this;show this
    rw[if_neg ep];show ag ⟨ys,rfl,g,rfl,rfl,K,by dsimp only;ext,λt r=>by rw[show t=0 by dsimp only at r;ext];rfl⟩
   rw[show decide (kr rk (arrOf (setArr a ys)) (lo+n)<kr rk (arrOf (setArr a ys)) (lo+n-1))=false from bg m];simp only[aq,aQ];show ah (rK R B (g.ok w) (show lo+n-1<ys.size by ext) (show lo+n<ys.size by ext) ?_);dsimp only;by_cases L:kr rk ys (lo+n-1)<kr rk ys (lo+n)
   .rw[show decide (kr rk (arrOf (setArr a ys)) (lo+n-1)<kr rk (arrOf (setArr a ys)) (lo+n))=true from decide_eq_true L];simp only[aX];show ag ⟨ys,rfl,g,rfl,by dsimp only;ext,by dsimp only;ext,p,u,eq⟩
   rw[show decide (kr rk (arrOf (setArr a ys)) (lo+n-1)<kr rk (arrOf (setArr a ys)) (lo+n))=false from bg L];simp only[aq,aQ];show ag ⟨ys,rfl,g,rfl,rfl,p.more (by ext) (by ext),by dsimp only;ext,λt r=>?_⟩;dsimp only at r;rw[show lo+(n+1)-1=lo+n by ext];by_cases t0:t=0
   .subst t0;rfl
   have:=eq (t-1) (by ext);rw[show lo+n-1-(t-1)=lo+n-t by ext] at this;ext
  .rintro⟨c,n,e⟩ f ⟨ys,rfl,g,b,v,p,u,eq⟩;dsimp only at b v u eq ⊢;subst v;show⟨ys,rfl,g,b,by ext,by ext,p,u,eq⟩
  rintro⟨c,n,e⟩ f ⟨ys,rfl,g,b,n1,n2,p,u,eq⟩;dsimp only at b n1 n2 p u eq ⊢;subst b;dsimp only;have hsz:=g.size;by_cases ep:e>0
  .rw[if_pos ep]
   have o:=zD (rk:=rk) (xs:=ys) (i:=lo+n-(e+1)) (j:=lo+n) (by ext) (λk k1 N=>by
    have:=eq (lo+n-1-k) (by ext)
    rwa [show lo+n-1-(lo+n-1-k)=k by ext] at this)
   show ah (uo ?_);have lw:=g.trans (uw (xs:=ys) (i:=lo+n-(e+1)) (j:=lo+n) (lo:=lo) (n:=h) (by ext) (by ext) (by ext));show wpS M A E s _ Q (setArr a (mirror ys (lo+n-(e+1)) (lo+n) ((lo+n-(lo+n-(e+1)))/2)));generalize mirror ys (lo+n-(e+1)) (lo+n) ((lo+n-(lo+n-(e+1)))/2)=ws at o lw;have S:Dec rk ws lo n:=λi j D C=>by
    have:=p i j D C;rw[<-o,<-o] at this;show this
   have hw:=lw.size;show ah (uo ?_);have l:=lw.trans (uw (xs:=ws) (i:=lo) (j:=lo+n) (lo:=lo) (n:=h) (by ext) (by ext) (by ext));have hz:=S.turn (by ext);show wpS M A E s _ Q (setArr a (mirror ws lo (lo+n) ((lo+n-lo)/2)));generalize mirror ws lo (lo+n) ((lo+n-lo)/2)=zs at l hz;show ah (wpS_mono (bA (I:=λi (c:Option (Option Nat)×Nat) f=>f=setArr a zs/\c.1=none/\c.2=i/\g8 rk zs lo i)
    (Q:=λ(c:Option (Option Nat)×Nat) f=>f=setArr a zs/\c.1=none/\1<=c.2/\c.2<=h/\g8 rk zs lo c.2) ?_ ?_ ⟨rfl,rfl,rfl,hz⟩) ?_)
   .rintro i ⟨c,n⟩ f F H ⟨rfl,b,e,d⟩;dsimp only at b e ⊢;subst b e;show ah (rK R B (l.ok w) (show lo+n<zs.size by have:=l.size;ext) (show lo+n-1<zs.size by have:=l.size;ext) ?_);dsimp only;by_cases m:kr rk zs (lo+n)<kr rk zs (lo+n-1)
    .rw[show decide (kr rk (arrOf (setArr a zs)) (lo+n)<kr rk (arrOf (setArr a zs)) (lo+n-1))=true from decide_eq_true m];simp only[aX];show ag ⟨rfl,rfl,by dsimp only;ext,by dsimp only;ext,d⟩
    rw[show decide (kr rk (arrOf (setArr a zs)) (lo+n)<kr rk (arrOf (setArr a zs)) (lo+n-1))=false from bg m];simp only[aq,aQ];show ag ⟨rfl,rfl,rfl,d.more (by ext) (by ext)⟩
   .rintro⟨c,n⟩ f ⟨rfl,b,e,d⟩;dsimp only at b e ⊢;subst e;show⟨rfl,b,by ext,by ext,d⟩
   rintro⟨c,n⟩ f ⟨rfl,b,n1,n2,d⟩;dsimp only at b n1 n2 d ⊢;subst b;show ag (q zs n n1 n2 l d)
  rw[if_neg ep];show ah (uo ?_);have l:=g.trans (uw (xs:=ys) (i:=lo) (j:=lo+n) (lo:=lo) (n:=h) (by ext) (by ext) (by ext));have hz:=p.turn (by ext);show wpS M A E s _ Q (setArr a (mirror ys lo (lo+n) ((lo+n-lo)/2)));generalize mirror ys lo (lo+n) ((lo+n-lo)/2)=zs at l hz;show ah (wpS_mono (bA (I:=λi (c:Option (Option Nat)×Nat) f=>f=setArr a zs/\c.1=none/\c.2=i/\g8 rk zs lo i)
   (Q:=λ(c:Option (Option Nat)×Nat) f=>f=setArr a zs/\c.1=none/\1<=c.2/\c.2<=h/\g8 rk zs lo c.2) ?_ ?_ ⟨rfl,rfl,rfl,hz⟩) ?_)
  .rintro i ⟨c,n⟩ f F H ⟨rfl,b,e,d⟩;dsimp only at b e ⊢;subst b e;show ah (rK R B (l.ok w) (show lo+n<zs.size by have:=l.size;ext) (show lo+n-1<zs.size by have:=l.size;ext) ?_);dsimp only;by_cases m:kr rk zs (lo+n)<kr rk zs (lo+n-1)
   .rw[show decide (kr rk (arrOf (setArr a zs)) (lo+n)<kr rk (arrOf (setArr a zs)) (lo+n-1))=true from decide_eq_true m];simp only[aX];show ag ⟨rfl,rfl,by dsimp only;ext,by dsimp only;ext,d⟩
   rw[show decide (kr rk (arrOf (setArr a zs)) (lo+n)<kr rk (arrOf (setArr a zs)) (lo+n-1))=false from bg m];simp only[aq,aQ];show ag ⟨rfl,rfl,rfl,d.more (by ext) (by ext)⟩
  .rintro⟨c,n⟩ f ⟨rfl,b,e,d⟩;dsimp only at b e ⊢;subst e;show⟨rfl,b,by ext,by ext,d⟩
  rintro⟨c,n⟩ f ⟨rfl,b,n1,n2,d⟩;dsimp only at b n1 n2 d ⊢;subst b;show ag (q zs n n1 n2 l d)
 rw[if_neg W];have ZH:n=1:=by ext
 have O:Dec rk (arrOf a) lo (n+1):=by
  have T:Dec rk (arrOf a) lo n:=λi j D C=>by rw[show i=j by ext];show Int.le_refl _
  show T.more n1 (by ext)
 have J:=Sl.refl (arrOf a) lo h;obtain⟨G,P⟩:∃y,y=arrOf a:=⟨_,rfl⟩
 rw[show a=setArr a G by rw[P]];rw[<-P] at O;have J:Sl (arrOf a) G lo h:=by rw[P];show Sl.refl _ _ _
 show ah (wb ?_);show ah (wpS_mono (bA (I:=λi (c:Option (Option Nat)×Nat×Nat) f=>∃ys,f=setArr a ys/\Sl (arrOf a) ys lo h/\c.1=none/\c.2.1=i/\Dec rk ys lo i/\c.2.2<i/\∀t,t<=c.2.2->kr rk ys (lo+i-1-t)=kr rk ys (lo+i-1))
  (Q:=λ(c:Option (Option Nat)×Nat×Nat) f=>∃ys,f=setArr a ys/\Sl (arrOf a) ys lo h/\c.1=none/\1<=c.2.1/\c.2.1<=h/\Dec rk ys lo c.2.1/\c.2.2<c.2.1/\∀t,t<=c.2.2->kr rk ys (lo+c.2.1-1-t)=kr rk ys (lo+c.2.1-1)) ?_ ?_ ⟨G,rfl,J,rfl,rfl,O,by dsimp only;ext,λt r=>by rw[show t=0 by dsimp only at r;ext];rfl⟩) ?_)
 .rintro i ⟨c,n,e⟩ f F H ⟨ys,rfl,g,b,v,p,u,eq⟩;dsimp only at b v u eq ⊢;subst b v;have hsz:=g.size;show ah (rK R B (g.ok w) (show lo+n<ys.size by ext) (show lo+n-1<ys.size by ext) ?_);dsimp only;by_cases m:kr rk ys (lo+n)<kr rk ys (lo+n-1)
  .rw[show decide (kr rk (arrOf (setArr a ys)) (lo+n)<kr rk (arrOf (setArr a ys)) (lo+n-1))=true from decide_eq_true m];simp only[aX];have K:=p.more (by ext) (Int.le_of_lt m);by_cases ep:e>0
   .rw[if_pos ep]
    have o:=zD (rk:=rk) (xs:=ys) (i:=lo+n-(e+1)) (j:=lo+n) (by ext) (λk k1 N=>by
     have:=eq (lo+n-1-k) (by ext)
     rwa [show lo+n-1-(lo+n-1-k)=k by ext] at this)
    show ah (uo ?_);show ag ⟨_,rfl,g.trans (uw (by show lo+n<=ys.size;ext) (by ext) (by ext)),rfl,rfl,λi j D C=>?_,by dsimp only;ext,λt r=>by rw[show t=0 by dsimp only at r;ext];rfl⟩;have:=K i j D C;rw[<-o,<-o] at this;show this
   rw[if_neg ep];show ag ⟨ys,rfl,g,rfl,rfl,K,by dsimp only;ext,λt r=>by rw[show t=0 by dsimp only at r;ext];rfl⟩
  rw[show decide (kr rk (arrOf (setArr a ys)) (lo+n)<kr rk (arrOf (setArr a ys)) (lo+n-1))=false from bg m];simp only[aq,aQ];show ah (rK R B (g.ok w) (show lo+n-1<ys.size by ext) (show lo+n<ys.size by ext) ?_);dsimp only;by_cases L:kr rk ys (lo+n-1)<kr rk ys (lo+n)
  .rw[show decide (kr rk (arrOf (setArr a ys)) (lo+n-1)<kr rk (arrOf (setArr a ys)) (lo+n))=true from decide_eq_true L];simp only[aX];show ag ⟨ys,rfl,g,rfl,by dsimp only;ext,by dsimp only;ext,p,u,eq⟩
  rw[show decide (kr rk (arrOf (setArr a ys)) (lo+n-1)<kr rk (arrOf (setArr a ys)) (lo+n))=false from bg L];simp only[aq,aQ];show ag ⟨ys,rfl,g,rfl,rfl,p.more (by ext) (by ext),by dsimp only;ext,λt r=>?_⟩;dsimp only at r;rw[show lo+(n+1)-1=lo+n by ext];by_cases t0:t=0
  .subst t0;rfl
  have:=eq (t-1) (by ext);rw[show lo+n-1-(t-1)=lo+n-t by ext] at this;ext
 .rintro⟨c,n,e⟩ f ⟨ys,rfl,g,b,v,p,u,eq⟩;dsimp only at b v u eq ⊢;subst v;show⟨ys,rfl,g,b,by ext,by ext,p,u,eq⟩
 rintro⟨c,n,e⟩ f ⟨ys,rfl,g,b,n1,n2,p,u,eq⟩;dsimp only at b n1 n2 p u eq ⊢;subst b;dsimp only;have hsz:=g.size;by_cases ep:e>0
 .rw[if_pos ep]
  have o:=zD (rk:=rk) (xs:=ys) (i:=lo+n-(e+1)) (j:=lo+n) (by ext) (λk k1 N=>by
   have:=eq (lo+n-1-k) (by ext)
   rwa [show lo+n-1-(lo+n-1-k)=k by ext] at this)
  show ah (uo ?_);have lw:=g.trans (uw (xs:=ys) (i:=lo+n-(e+1)) (j:=lo+n) (lo:=lo) (n:=h) (by ext) (by ext) (by ext));show wpS M A E s _ Q (setArr a (mirror ys (lo+n-(e+1)) (lo+n) ((lo+n-(lo+n-(e+1)))/2)));generalize mirror ys (lo+n-(e+1)) (lo+n) ((lo+n-(lo+n-(e+1)))/2)=ws at o lw;have S:Dec rk ws lo n:=λi j D C=>by
   have:=p i j D C;rw[<-o,<-o] at this;show this
  have hw:=lw.size;show ah (uo ?_);have l:=lw.trans (uw (xs:=ws) (i:=lo) (j:=lo+n) (lo:=lo) (n:=h) (by ext) (by ext) (by ext));have hz:=S.turn (by ext);show wpS M A E s _ Q (setArr a (mirror ws lo (lo+n) ((lo+n-lo)/2)));generalize mirror ws lo (lo+n) ((lo+n-lo)/2)=zs at l hz;show ah (wpS_mono (bA (I:=λi (c:Option (Option Nat)×Nat) f=>f=setArr a zs/\c.1=none/\c.2=i/\g8 rk zs lo i)
   (Q:=λ(c:Option (Option Nat)×Nat) f=>f=setArr a zs/\c.1=none/\1<=c.2/\c.2<=h/\g8 rk zs lo c.2) ?_ ?_ ⟨rfl,rfl,rfl,hz⟩) ?_)
  .rintro i ⟨c,n⟩ f F H ⟨rfl,b,e,d⟩;dsimp only at b e ⊢;subst b e;show ah (rK R B (l.ok w) (show lo+n<zs.size by have:=l.size;ext) (show lo+n-1<zs.size by have:=l.size;ext) ?_);dsimp only;by_cases m:kr rk zs (lo+n)<kr rk zs (lo+n-1)
   .rw[show decide (kr rk (arrOf (setArr a zs)) (lo+n)<kr rk (arrOf (setArr a zs)) (lo+n-1))=true from decide_eq_true m];simp only[aX];show ag ⟨rfl,rfl,by dsimp only;ext,by dsimp only;ext,d⟩
   rw[show decide (kr rk (arrOf (setArr a zs)) (lo+n)<kr rk (arrOf (setArr a zs)) (lo+n-1))=false from bg m];simp only[aq,aQ];show ag ⟨rfl,rfl,rfl,d.more (by ext) (by ext)⟩
  .rintro⟨c,n⟩ f ⟨rfl,b,e,d⟩;dsimp only at b e ⊢;subst e;show⟨rfl,b,by ext,by ext,d⟩
  rintro⟨c,n⟩ f ⟨rfl,b,n1,n2,d⟩;dsimp only at b n1 n2 d ⊢;subst b;show ag (q zs n n1 n2 l d)
 rw[if_neg ep];show ah (uo ?_);have l:=g.trans (uw (xs:=ys) (i:=lo) (j:=lo+n) (lo:=lo) (n:=h) (by ext) (by ext) (by ext));have hz:=p.turn (by ext);show wpS M A E s _ Q (setArr a (mirror ys lo (lo+n) ((lo+n-lo)/2)));generalize mirror ys lo (lo+n) ((lo+n-lo)/2)=zs at l hz;show ah (wpS_mono (bA (I:=λi (c:Option (Option Nat)×Nat) f=>f=setArr a zs/\c.1=none/\c.2=i/\g8 rk zs lo i)
  (Q:=λ(c:Option (Option Nat)×Nat) f=>f=setArr a zs/\c.1=none/\1<=c.2/\c.2<=h/\g8 rk zs lo c.2) ?_ ?_ ⟨rfl,rfl,rfl,hz⟩) ?_)
 .rintro i ⟨c,n⟩ f F H ⟨rfl,b,e,d⟩;dsimp only at b e ⊢;subst b e;show ah (rK R B (l.ok w) (show lo+n<zs.size by have:=l.size;ext) (show lo+n-1<zs.size by have:=l.size;ext) ?_);dsimp only;by_cases m:kr rk zs (lo+n)<kr rk zs (lo+n-1)
  .rw[show decide (kr rk (arrOf (setArr a zs)) (lo+n)<kr rk (arrOf (setArr a zs)) (lo+n-1))=true from decide_eq_true m];simp only[aX];show ag ⟨rfl,rfl,by dsimp only;ext,by dsimp only;ext,d⟩
  rw[show decide (kr rk (arrOf (setArr a zs)) (lo+n)<kr rk (arrOf (setArr a zs)) (lo+n-1))=false from bg m];simp only[aq,aQ];show ag ⟨rfl,rfl,rfl,d.more (by ext) (by ext)⟩
 .rintro⟨c,n⟩ f ⟨rfl,b,e,d⟩;dsimp only at b e ⊢;subst e;show⟨rfl,b,by ext,by ext,d⟩
 rintro⟨c,n⟩ f ⟨rfl,b,n1,n2,d⟩;dsimp only at b n1 n2 d ⊢;subst b;show ag (q zs n n1 n2 l d)
noncomputable def starts:Nat->List (List Keyed)->List (Nat×Nat)
 | _,[]=>[]
 | st,X::a=>(st,X.length)::starts (st+X.length) a
noncomputable abbrev ft(t:Nat×Nat×Nat):Nat×Nat:=(t.1,t.2.1)
theorem CF:∀(st:Nat)(a:List (List Keyed)),(starts st a).length=a.length
 | _,[]=>rfl
 | st,X::a=>by simp[starts,CF]
theorem Fl:∀(st:Nat)(a:List (List Keyed))(W:List Keyed),starts st (a++[W])=starts st a++[(st+a.flatten.length,W.length)]
 | st,[],W=>by simp[starts]
 | st,X::a,W=>by
  simp only[cg,starts,Fl (st+X.length) a W,List.flatten_cons,ay];rw[show st+X.length+a.flatten.length=st+(X.length+a.flatten.length) by ext]
theorem EL:∀(st:Nat)(a:List (List Keyed))(X:List Keyed)(Xs2:List (List Keyed)),(starts st (a++X::Xs2))[a.length]?=some (st+a.flatten.length,X.length)
 | st,[],X,Xs2=>by simp[starts]
 | st,A::a,X,Xs2=>by
  simp only[cg,starts,aD,bX,EL (st+A.length) a X Xs2,List.flatten_cons,ay];rw[show st+A.length+a.flatten.length=st+(A.length+a.flatten.length) by ext]
theorem L5{X Y Z:List Keyed}{Xs2:List (List Keyed)}(hz:Z.length=X.length+Y.length):∀(st:Nat)(a:List (List Keyed)),((starts st (a++X::Y::Xs2)).set a.length (st+a.flatten.length,X.length+Y.length)).eraseIdx (a.length+1)=starts st (a++Z::Xs2)
 | st,[]=>by
  simp[starts,hz,Nat.add_assoc]
 | st,A::a=>by
  have b:=L5 (Xs2:=Xs2) hz (st+A.length) a;simp only[cg,starts,aD,List.set_cons_succ,List.eraseIdx_cons_succ,List.flatten_cons,ay];rw[show st+(A.length+a.flatten.length)=st+A.length+a.flatten.length by ext,b]
theorem Mb{α b:Type}(f:α->b):∀(l:List α)(n:Nat),(l.map f).eraseIdx n=(l.eraseIdx n).map f
 | [],_=>rfl
 | a::r,0=>rfl
 | a::r,n+1=>by show f a::(r.map f).eraseIdx n=_;rw[Mb f r n];rfl
structure RI(rk:Keyed->Int)(a0 arr:Array Keyed)(pend:Array (Nat×Nat×Nat))(Xs:List (List Keyed))(S:List Keyed):Prop where
 pm:arr.toList.Perm a0.toList
 dec:arr.toList=Xs.flatten++S
 so:∀X∈Xs,fu rk X/\0<X.length
 ps:pend.toList.map ft=starts 0 Xs
theorem Rc{a:List (List Keyed)}{i:Nat}(h:i+1<a.length):∃b X Y Xs2,a=b++X::Y::Xs2/\b.length=i:=by
 show⟨a.take i,a[i],a[i+1],a.drop (i+2),?_,by simp;ext⟩;rw[<-bN,<-bN,bF]
theorem JD{b:Array (Nat×Nat×Nat)}{i a n:Nat}{l:List (Nat×Nat)}(h:b.toList.map ft=l)(e:l[i]?=some (a,n)):∃p,b[i]?=some (a,n,p):=by
 rw[<-h,aJ,Array.getElem?_toList] at e;cases c:b[i]? with
 | none=>rw[c] at e;cases e
 | some t=>
  rw[c] at e;obtain⟨x,y,z⟩:=t;simp at e;obtain⟨rfl,rfl⟩:=e;show⟨z,rfl⟩
variable{M:Model}{A:Around}{E:Value->Shared->Prop}{s:Shared}
theorem Em{e:SortKind}{ok:Keyed->Prop}{rk:Keyed->Int}(R:Rk M A E s e ok rk){k:Array Keyed}{d:List (List Keyed)}{S:List Keyed}{i:Nat}{Q:Bool->SortSt->Prop}{st:SortSt}(v:kindOf st=e)(w:failedOf st=none)(u:∀x∈k,ok x)
  (h:RI rk k (arrOf st) (pendingOf st) d S) (hi:i+1<d.length)
  (q:∀c l,kindOf c=e->failedOf c=none->RI rk k (arrOf c) (pendingOf c) l S->l.length+1=d.length->l.flatten.length=d.flatten.length->Q true c):wpS M A E s (mergeAt' i) Q st:=by
 obtain⟨a,X,Y,Xs2,rfl,rfl⟩:=Rc hi;obtain⟨t,p⟩:=JD h.ps (EL 0 a X (Y::Xs2));have r:=EL 0 (a++[X]) Y Xs2;rw[show a++[X]++Y::Xs2=a++X::Y::Xs2 by simp,ay,List.length_singleton] at r;obtain⟨pb,j⟩:=JD h.ps r;rw[Nat.zero_add] at p j;rw[show(a++[X]).flatten.length=a.flatten.length+X.length by simp] at j;have f:=h.so X (by simp);have o:=h.so Y (by simp);have hd:(arrOf st).toList=a.flatten++(X++(Y++(Xs2.flatten++S))):=by rw[h.dec];simp
 show Ux R v w (λx hx=>u x ?_) hd p j f.2 o.2 f.1 o.1 λZ g m zs=>?_
 .have:=h.pm.mem_iff.mp (bP.mpr hx);show bP.mp this
 have n:Z.length=X.length+Y.length:=by rw[m.length_eq,ay]
 show q _ (a++Z::Xs2) rfl rfl ⟨?_,?_,λW b=>?_,?_⟩ (by simp only[ay,aD];ext) (by simp[n];ext)
 .refine List.Perm.trans ?_ h.pm;rw[hd];show(a.flatten++(Z++(Xs2.flatten++S))).Perm _;show List.Perm.append_left _ ?_;rw[<-bw X];show m.append_right _
 .show a.flatten++(Z++(Xs2.flatten++S))=_;simp
 .rcases aw.mp b with b | b
  .exact h.so W (by simp[b])
  rcases au.mp b with rfl | b
  .exact⟨zs,by have:=f.2;ext⟩
  show h.so W (by simp[b])
 have:=L5 (X:=X) (Y:=Y) (Z:=Z) (Xs2:=Xs2) n 0 a;rw[<-this,<-h.ps,Nat.zero_add];show List.map ft ((((pendingOf st).setIfInBounds a.length (a.flatten.length,X.length+Y.length,t)).eraseIdxIfInBounds (a.length+1)).toList)=_;rw[Array.toList_eraseIdxIfInBounds,Array.toList_setIfInBounds,<-Mb,List.map_set]
theorem IL{rk:Keyed->Int}{xs ys:Array Keyed}{F S:List Keyed}{m n:Nat}(h:Sl xs ys F.length m)(hd:xs.toList=F++S)(a:g8 rk ys F.length n)(f:F.length+n<=xs.size):∃W e,ys.toList=F++(W++e)/\W.length=n/\fu rk W:=by
 have hsz:=h.size;have c:ys.toList.take F.length=F:=by
  have:ys.toList.take F.length=xs.toList.take F.length:=by
   apply List.ext_getElem?;intro i;rw[List.getElem?_take,List.getElem?_take];split
   .rw[Array.getElem?_toList,Array.getElem?_toList];show h.out i (.inl (by assumption))
   rfl
  rw[this,hd,List.take_left]
 show⟨(ys.toList.drop F.length).take n,(ys.toList.drop F.length).drop n,?_,by simp;ext,?_⟩
 .rw[bF];conv=>lhs;rw[<-bF F.length ys.toList,c]
 show List.pairwise_iff_getElem.mpr λi j hi b g=>?_
 have d:j<n:=by simp at b;ext
 have:=a i j (by ext) d;unfold kr at this;rw[gW (by ext),gW (by ext)] at this;simpa[List.getElem_take,List.getElem_drop] using this
variable{M:Model}{A:Around}{E:Value->Shared->Prop}{s:Shared}
theorem L0(p:Array (Nat×Nat×Nat))(k:Nat)(f:Nat×Nat×Nat->Nat×Nat×Nat)(h:∀x,ft (f x)=ft x):(p.modify k f).toList.map ft=p.toList.map ft:=by
 apply List.ext_getElem?;intro i;rw[aJ,aJ,Array.getElem?_toList,Array.getElem?_toList,Array.getElem?_modify];split
 .cases p[i]? with
  | none=>rfl
  | some x=>simp only[Option.map_some,h]
 rfl
theorem JC:∀(a:List (List Keyed)),(∀X∈a,0<X.length)->a.length<=a.flatten.length
 | [],_=>az _
 | X::a,h=>by
  have d:=h X (by simp);have c:=JC a λY b=>h Y (by simp[b])
  rw[List.flatten_cons,ay,aD];ext
theorem Sl.wide{xs ys:Array Keyed}{lo n m:Nat}(h:Sl xs ys lo n)(a:n<=m):Sl xs ys lo m:=⟨h.pm,λj b=>h.out j (by ext)⟩
theorem RU{y:SortKind}{ok:Keyed->Prop}{rk:Keyed->Int}(R:Rk M A E s y ok rk){Q:Unit->SortSt->Prop}{st:SortSt}(hk:kindOf st=y)(hf:failedOf st=none)(hp:pendingOf st=#[])(L:∀x∈arrOf st,ok x)
  (q:∀f,(arrOf f).toList.Perm (arrOf st).toList->fu rk (arrOf f).toList->failedOf f=none->Q () f):wpS M A E s sortRuns' Q st:=by
 rw[sortRuns'_eq];show ah (wpS_get ?_);dsimp only;generalize Zq:minRun' (arrOf st).size (arrOf st).size 0=T;generalize hsz:(arrOf st).size=sz;have h0:RI rk (arrOf st) (arrOf st) (pendingOf st) [] (arrOf st).toList:=⟨List.Perm.refl _,rfl,λX r=>(by cases r),by rw[hp];rfl⟩
 show ah (wpS_mono (bA (I:=λi (c:Option Unit×Nat) f=>c.1=none/\kindOf f=y/\failedOf f=none/\∃e S,RI rk (arrOf st) (arrOf f) (pendingOf f) e S/\e.flatten.length=c.2/\c.2<=sz/\i<=c.2)
  (Q:=λ(c:Option Unit×Nat) f=>c.1=none/\kindOf f=y/\failedOf f=none/\∃e,RI rk (arrOf st) (arrOf f) (pendingOf f) e []) ?_ ?_ ⟨rfl,hk,hf,[],_,h0,rfl,aZ _,az _⟩) ?_)
 .rintro i ⟨c,lo⟩ f _ hi ⟨g,w,B,e,S,l,P,hle,K⟩;dsimp only at g P hle K ⊢;subst g P;have as:(arrOf f).size=sz:=by rw[<-hsz,<-af,<-af];show l.pm.length_eq
  have MD:∀x∈arrOf f,ok x:=λx hx=>L x (bP.mp (l.pm.mem_iff.mp (bP.mpr hx)))
  have sl:e.flatten.length+S.length=sz:=by rw[<-as,<-af,l.dec,ay]
  by_cases hd:e.flatten.length>=sz
  .rw[if_pos hd];have:S=[]:=List.length_eq_zero_iff.mp (by ext);subst this;show ag ⟨rfl,w,B,e,l⟩
  rw[if_neg hd];show ah (SW R w MD (by ext) (by ext) λys n n1 n2 N Z=>?_);dsimp only;split
  .refine ah (wb ?_);show ah (Tv R (st:=setArr f ys) w (N.ok MD) (show _<=ys.size by have:=N.size;ext) Z (by ext) λzs F8 O=>?_);simp only[Bool.not_true,aq,aQ];have F:Sl (arrOf f) zs e.flatten.length (sz-e.flatten.length):=N.trans (F8.wide (by ext));show wpS M A E s _ _ (setArr f zs);obtain⟨W,D,U,wl,ws⟩:=IL F l.dec O (by ext);have G:RI rk (arrOf st) zs (pendingOf f) e (W++D):=⟨(Array.perm_iff_toList_perm.mp F.pm).trans l.pm,U,l.so,l.ps⟩
   have ent:∀(a:SortSt)(b:List (List Keyed)),kindOf a=y->failedOf a=none->RI rk (arrOf st) (arrOf a) (pendingOf a) b (W++D)->b.flatten.length=e.flatten.length->∃o C,RI rk (arrOf st) (arrOf a) ((pendingOf a).push (e.flatten.length,min (sz-e.flatten.length) T,0)) o C/\o.flatten.length=e.flatten.length+min (sz-e.flatten.length) T:=λa b m f2 d k=>by
    show⟨b++[W],D,⟨d.pm,by rw[d.dec];simp,λX r=>?_,?_⟩,by simp[k,wl]⟩
    .rcases aw.mp r with r | r
     .exact d.so X r
     simp at r;subst r;show⟨ws,by ext⟩
    rw[aH,aE,d.ps,Fl,k,wl,Nat.zero_add];rfl
   show ah (wpS_get ?_);cases YC:(pendingOf (setArr f zs)).back? with
   | none=>
    dsimp only;show ah (wpS_modify (ag ?_));obtain⟨o,C,v,z⟩:=ent (setArr f zs) e w B G rfl;show⟨rfl,w,B,o,C,v,z,by dsimp only;ext,by dsimp only;ext⟩
   | some t=>
    obtain⟨s1,t1,p1⟩:=t;dsimp only;show ah (wpS_mono (bA (I:=λj (c:Option Unit×Unit) a=>c.1=none/\kindOf a=y/\failedOf a=none/\∃b,RI rk (arrOf st) (arrOf a) (pendingOf a) b (W++D)/\b.flatten.length=e.flatten.length)
     (Q:=λ(c:Option Unit×Unit) a=>c.1=none/\kindOf a=y/\failedOf a=none/\∃b,RI rk (arrOf st) (arrOf a) (pendingOf a) b (W++D)/\b.flatten.length=e.flatten.length) ?_ ?_ ⟨rfl,w,B,e,G,rfl⟩) ?_)
    .rintro j ⟨c,⟨⟩⟩ a _ Y ⟨g,m,f2,b,d,k⟩;dsimp only at g ⊢;subst g;show ah (wpS_get ?_);have pl:(pendingOf a).size=b.length:=by
      have:=congrArg List.length d.ps;rwa [ae,af,CF] at this
     by_cases big:(pendingOf a).size>1
     .rw[if_pos big,Array.getElem?_eq_getElem (show(pendingOf a).size-2<(pendingOf a).size by ext)];generalize (pendingOf a)[(pendingOf a).size-2]'(by ext)=u;obtain⟨u1,u2,u3⟩:=u;dsimp only;split
      .exact ag ⟨rfl,m,f2,b,d,k⟩
      show ah (Em R m f2 L d (by ext) λAu o H J v _ z=>?_);simp only[Bool.not_true,aq,aQ];show ag ⟨rfl,H,J,o,v,by rw[z,k]⟩
     rw[if_neg big];dsimp only;show ag ⟨rfl,m,f2,b,d,k⟩
    .rintro⟨c,⟨⟩⟩ a h;show h
    rintro⟨c,⟨⟩⟩ a ⟨g,m,f2,b,d,k⟩;dsimp only at g ⊢;subst g;dsimp only;show ah (wpS_modify (ah (wpS_modify (ag ?_))));obtain⟨o,C,v,z⟩:=ent (setPending a ((pendingOf a).modify ((pendingOf a).size-1) λx=>(x.1,x.2.1,power' sz (2*s1+t1) (2*s1+t1+t1+min (sz-e.flatten.length) T) sz))) b m f2 ⟨d.pm,d.dec,d.so,by rw[<-d.ps];show L0 _ _ _ λx=>rfl⟩ k;show⟨rfl,m,f2,o,C,v,z,by dsimp only;ext,by dsimp only;ext⟩
  have F:=N;have O:=Z;generalize ys=zs at F O;obtain⟨W,D,U,wl,ws⟩:=IL F l.dec O (by ext);have G:RI rk (arrOf st) zs (pendingOf f) e (W++D):=⟨(Array.perm_iff_toList_perm.mp F.pm).trans l.pm,U,l.so,l.ps⟩
  have ent:∀(a:SortSt)(b:List (List Keyed)),kindOf a=y->failedOf a=none->RI rk (arrOf st) (arrOf a) (pendingOf a) b (W++D)->b.flatten.length=e.flatten.length->∃o C,RI rk (arrOf st) (arrOf a) ((pendingOf a).push (e.flatten.length,n,0)) o C/\o.flatten.length=e.flatten.length+n:=λa b m f2 d k=>by
   show⟨b++[W],D,⟨d.pm,by rw[d.dec];simp,λX r=>?_,?_⟩,by simp[k,wl]⟩
   .rcases aw.mp r with r | r
    .exact d.so X r
    simp at r;subst r;show⟨ws,by ext⟩
   rw[aH,aE,d.ps,Fl,k,wl,Nat.zero_add];rfl
  show ah (wpS_get ?_);cases YC:(pendingOf (setArr f zs)).back? with
  | none=>
   dsimp only;show ah (wpS_modify (ag ?_));obtain⟨o,C,v,z⟩:=ent (setArr f zs) e w B G rfl;show⟨rfl,w,B,o,C,v,z,by dsimp only;ext,by dsimp only;ext⟩
  | some t=>
   obtain⟨s1,t1,p1⟩:=t;dsimp only;show ah (wpS_mono (bA (I:=λj (c:Option Unit×Unit) a=>c.1=none/\kindOf a=y/\failedOf a=none/\∃b,RI rk (arrOf st) (arrOf a) (pendingOf a) b (W++D)/\b.flatten.length=e.flatten.length)
    (Q:=λ(c:Option Unit×Unit) a=>c.1=none/\kindOf a=y/\failedOf a=none/\∃b,RI rk (arrOf st) (arrOf a) (pendingOf a) b (W++D)/\b.flatten.length=e.flatten.length) ?_ ?_ ⟨rfl,w,B,e,G,rfl⟩) ?_)
   .rintro j ⟨c,⟨⟩⟩ a _ Y ⟨g,m,f2,b,d,k⟩;dsimp only at g ⊢;subst g;show ah (wpS_get ?_);have pl:(pendingOf a).size=b.length:=by
     have:=congrArg List.length d.ps;rwa [ae,af,CF] at this
    by_cases big:(pendingOf a).size>1
    .rw[if_pos big,Array.getElem?_eq_getElem (show(pendingOf a).size-2<(pendingOf a).size by ext)];generalize (pendingOf a)[(pendingOf a).size-2]'(by ext)=u;obtain⟨u1,u2,u3⟩:=u;dsimp only;split
     .exact ag ⟨rfl,m,f2,b,d,k⟩
     show ah (Em R m f2 L d (by ext) λAu o H J v _ z=>?_);simp only[Bool.not_true,aq,aQ];show ag ⟨rfl,H,J,o,v,by rw[z,k]⟩
    rw[if_neg big];dsimp only;show ag ⟨rfl,m,f2,b,d,k⟩
   .rintro⟨c,⟨⟩⟩ a h;show h
   rintro⟨c,⟨⟩⟩ a ⟨g,m,f2,b,d,k⟩;dsimp only at g ⊢;subst g;dsimp only;show ah (wpS_modify (ah (wpS_modify (ag ?_))));obtain⟨o,C,v,z⟩:=ent (setPending a ((pendingOf a).modify ((pendingOf a).size-1) λx=>(x.1,x.2.1,power' sz (2*s1+t1) (2*s1+t1+t1+n) sz))) b m f2 ⟨d.pm,d.dec,d.so,by rw[<-d.ps];show L0 _ _ _ λx=>rfl⟩ k;show⟨rfl,m,f2,o,C,v,z,by dsimp only;ext,by dsimp only;ext⟩
 .rintro⟨c,lo⟩ f ⟨g,w,B,e,S,l,P,hle,K⟩;dsimp only at g P hle K ⊢;rw[Nat.max_eq_right (aZ _)] at K;have as:(arrOf f).size=sz:=by rw[<-hsz,<-af,<-af];show l.pm.length_eq
  have sl:e.flatten.length+S.length=sz:=by rw[<-as,<-af,l.dec,ay]
  have:S=[]:=List.length_eq_zero_iff.mp (by ext);subst this;show⟨g,w,B,e,l⟩
 rintro⟨c,lo⟩ f ⟨g,w,B,e,l⟩;dsimp only at g ⊢;subst g;dsimp only;have as:(arrOf f).size=sz:=by rw[<-hsz,<-af,<-af];show l.pm.length_eq
 have fl:e.flatten.length=sz:=by rw[<-as,<-af,l.dec];simp
 have xl:=JC e λX r=>(l.so X r).2
 show ah (wpS_mono (bA (I:=λj (c:Option Unit×Unit) a=>c.1=none/\kindOf a=y/\failedOf a=none/\∃b,RI rk (arrOf st) (arrOf a) (pendingOf a) b []/\b.length+j<=sz)
  (Q:=λ(c:Option Unit×Unit) a=>c.1=none/\kindOf a=y/\failedOf a=none/\∃b,RI rk (arrOf st) (arrOf a) (pendingOf a) b []/\b.length<=1) ?_ ?_ ⟨rfl,w,B,e,l,by ext⟩) ?_)
 .rintro j ⟨c,⟨⟩⟩ a _ Y ⟨g,m,f2,b,d,k⟩;dsimp only at g ⊢;subst g;show ah (wpS_get ?_);have pl:(pendingOf a).size=b.length:=by
   have:=congrArg List.length d.ps;rwa [ae,af,CF] at this
  by_cases V:(pendingOf a).size<=1
  .rw[if_pos V];show ag ⟨rfl,m,f2,b,d,by ext⟩
  rw[if_neg V];have ix:∀(p:Prop)[Decidable p],(if p then(pendingOf a).size-2-1 else(pendingOf a).size-2)+1<b.length:=λp _=>by split<;>ext
  show ah (Em R m f2 L d (ix _) λAu o H J v z _=>?_);simp only[Bool.not_true,aq,aQ];show ag ⟨rfl,H,J,o,v,by ext⟩
 .rintro⟨c,⟨⟩⟩ a ⟨g,m,f2,b,d,k⟩;rw[Nat.max_eq_right (aZ _)] at k;show⟨g,m,f2,b,d,by ext⟩
 rintro⟨c,⟨⟩⟩ a ⟨g,m,f2,b,d,k⟩;dsimp only at g ⊢;subst g;show ag (q a d.pm ?_ f2);rw[d.dec,a9];match b,k,d.so with
 | [],_,_=>show .nil
 | [X],_,so=>simpa using (so X (by simp)).1
section
variable{prog:Program}{w:World}{A:Around}{E:Value->Shared->Prop}{s:Shared}
structure Ky(prog:Program)(w:World)(A:Around)(s:Shared)(κ:SortKind)(ok:Keyed->Prop)(rk:Keyed->Int):Prop where
 key:∀x y (C:Bool->Shared->Prop),ok x->ok y->C (decide (rk x<rk y)) s->wpAny (model prog w) A (keyLt' κ x.1 y.1) C (λ_ _=>False) s
def j3(n:Nat):Prop:=∀{prog:Program}{w:World}{A:Around}{E:Value->Shared->Prop}{s:Shared}{b:SortKind}{rk:Keyed->Int}{it:Array Keyed}(R:Ky prog w A s b (λx=>x∈it) rk){Q:Unit->SortSt->Prop},it.size=n->
 (∀a,(arrOf a).toList.Perm it.toList->fu rk (arrOf a).toList->failedOf a=none->Q () a)->wpS (model prog w) A E s sortRuns' Q (SortSt.mk' b it #[] 7 none)
structure Ask(prog:Program)(w:World)(A:Around)(E:Value->Shared->Prop)(vs:List Value)(rk:Keyed->Int)(s:Shared):Prop where
 ask:2<=vs.length->∃κ,(∀Q':SortKind->Shared->Prop,Q' κ s->wpAny (model prog w) A (keyKind' vs.toArray) Q' E s)/\Ky prog w A s κ (λx=>x∈pairsOf vs) rk
theorem SV{rk:Keyed->Int}{l:List Keyed}(h:l.length<2):fu rk l:=by
 cases l with
 | nil=>show .nil
 | cons a r=>
  cases r with
  | nil=>show List.pairwise_singleton _ _
  | cons b t=>
   simp only[aD] at h;ext
theorem Uw{a:Addr}{c:List Value}{n:Nat}{P:Fin->Shared->Prop}{rk:Keyed->Int}(f:s.heap.get? a=some (seqObj "list" c.toArray n))(g:c.length<=sizeLine)(r:2<=c.length->j3 c.length)
  (R:∀h',(∀b o,b≠a->s.heap.get? b=some o->h'.get? b=some o)->Ask prog w A E c rk { s with heap:=h' })
  (h:∀d:SortSt,(arrOf d).toList.Perm (pairsOf c).toList->fu rk (arrOf d).toList->P (.done (.ret .none)) { s with heap:=sortedHeap s.heap a c ((arrOf d).map (·.2)) }) :
  wpAny (model prog w) A (Builtin.«list.sort» ⟨[.ref a],[]⟩) P E s:=by
 rw[list_sort_plain];have ha:a<s.heap.objs.size:=aF f;show aa (listItems_at f rfl ?_);show aa (listUpdate_at f rfl ?_ (by simpa using g) (aZ _));obtain⟨k,m⟩:∃k,(s.heap.update a (Obj.mapSeq λ_=>#[])).get? a=some (seqObj "list" #[] k):=⟨_,get?_update_seq f (λ_=>#[])⟩
 show aa (seqEpoch_at m rfl ?_);show aa (wpAny_newTuple ?_ (by show c.length<=_;show g));show aa (wpAny_newList ?_ (aZ _));show bJ ?_;have j:(((s.heap.update a (Obj.mapSeq λ_=>#[])).push (seqObj "tuple" c.toArray 0)).push (seqObj "list" #[] 0)).get? a=some (seqObj "list" #[] k):=by
  rw[Heap.get?_push_ne _ _ _ (by rw[size_push',Heap.size_update];show aN (bY ha)),Heap.get?_push_ne _ _ _ (by rw[Heap.size_update];show aN ha)];show m
 have u:=R (((s.heap.update a (Obj.mapSeq λ_=>#[])).push (seqObj "tuple" c.toArray 0)).push (seqObj "list" #[] 0)) (λb o t e=>aj _ (aj _ ((bj _ _ (Ne.symm t)).trans e)));show wpAny (model prog w) A _ P E { s with heap:=((s.heap.update a (Obj.mapSeq λ_=>#[])).push (seqObj "tuple" c.toArray 0)).push (seqObj "list" #[] 0) };dsimp only;have hsz:c.toArray.size=c.length:=by simp
 have fin:=h;by_cases i:c.toArray.size<2
 .rw[if_pos i,if_pos i];show aa (ao ?_);rw[StateT.run_pure];show aa (ao ?_);dsimp only;show aa (seqEpoch_at j rfl ?_);show aa (listUpdate_at j rfl ?_ (aZ _) (by rw[Array.size_map];show(pairsOf c).size<=_;rw[pairsOf_size];show Nat.le_succ_of_le g));simp only[bne_self_eq_false,aq,aQ];show ao (fin (SortSt.mk' general' (c.toArray.zip c.toArray) #[] 7 none) (List.Perm.refl _) ?_);show fu rk (pairsOf c).toList;show SV (by rw[af,pairsOf_size];ext)
 rw[if_neg i,if_neg i];obtain⟨x,p,kr⟩:=u.ask (by ext);show aa (p _ ?_)
 show aa (wpAny_mono (r (by ext) kr
  (Q:=λ_ d=>(arrOf d).toList.Perm (pairsOf c).toList/\fu rk (arrOf d).toList/\failedOf d=none) (pairsOf_size c) λd a1 a2 v=>⟨a1,a2,v⟩) ?_ λ_ _ e=>e)
 rintro⟨⟨⟩,d⟩ y ⟨rfl,l,q,hf⟩;dsimp only;show aa (seqEpoch_at j rfl ?_)
 show aa (listUpdate_at j rfl ?_ (aZ _) (by
  rw[Array.size_map,<-af,l.length_eq,af,pairsOf_size];show Nat.le_succ_of_le g))
 rw[hf];simp only[bne_self_eq_false,aq,aQ];show ao (fin d l q)
theorem rQ{l:Addr}{a:List Value}{Q:Value->Shared->Prop}{rk:Keyed->Int}(i:s.heap.IsList l a.toArray)(hz:a.length<=sizeLine)(g:2<=a.length->j3 a.length)
  (R:∀h',(∀b o,s.heap.get? b=some o->h'.get? b=some o)->Ask prog w A.in1.in1 E a rk { s with heap:=h' })
  (h:∀c:SortSt,(arrOf c).toList.Perm (pairsOf a).toList->fu rk (arrOf c).toList->Q (.ref (s.heap.objs.size+1)) { s with heap:=sortedAll s.heap a ((arrOf c).map (·.2)) }) :
  wpAny (model prog w) A (call (.builtin "sorted") [.ref l]) Q E s:=by
 show Calls.call_function_entry kind_sorted plain_sorted entry_sorted (args_sorted1 _) ?_;unfold Builtin.«sorted»;show aa (m:=checkCount "sorted" 1 1 _) (ao ?_);show aa (collect_list i ?_ hz);show aa (wpAny_newList ?_ hz);have hsz:((s.heap.push (seqObj "list" #[] 0)).update s.heap.objs.size (Obj.mapSeq (·++a.toArray))).objs.size=s.heap.objs.size+1:=by
  rw[Heap.size_update,size_push']
 have f:(((s.heap.push (seqObj "list" #[] 0)).update s.heap.objs.size (Obj.mapSeq (·++a.toArray))).push (seqObj "list" a.toArray 0)).get? (s.heap.objs.size+1)=some (seqObj "list" a.toArray 0):=by
  rw[<-hsz];show aB _ rfl
 have keep:∀b o,s.heap.get? b=some o->(((s.heap.push (seqObj "list" #[] 0)).update s.heap.objs.size (Obj.mapSeq (·++a.toArray))).push (seqObj "list" a.toArray 0)).get? b=some o:=λb o q=>by
  have d:b<s.heap.objs.size:=aF q;rw[Heap.get?_push_ne _ _ _ (by rw[hsz];show aN (bY d)),Heap.get?_update_ne _ _ _ _ (aN d),Heap.get?_push_ne _ _ _ (aN d)];show q
 show wpAny _ _ _ _ _ { s with heap:=((s.heap.push (seqObj "list" #[] 0)).update s.heap.objs.size (Obj.mapSeq (·++a.toArray))).push (seqObj "list" a.toArray 0) };rw[hsz];show aa (bJ (wpAny_call_entry slot_list_sort ⟨_,f,rfl⟩ entry_list_sort (Uw (rk:=rk) f hz g (λh' k=>R h' λb o e=>k b o (aN (bY (aF e))) (keep b o e)) λc a1 a2=>⟨_,rfl,?_⟩) (args_list_sort _)));show ao ⟨_,rfl,h c a1 a2⟩
end
theorem rV(n:Nat):j3 n:=λR _ _ q=>RU (ok:=λx=>x∈_) ⟨λx y st Q d c e q=>by
 rw[lt'_eq];show ah (wpS_get ?_);rw[e]
 show ah (wpS_lift (wpAny_attempt (wpAny_mono (R.key x y (λb a=>a=_/\b=decide _) d c ⟨rfl,rfl⟩) (λb a ⟨g,f⟩=>⟨g,by subst f;show ag q⟩) λ_ _ z=>z.elim)))⟩ rfl rfl rfl (λx hx=>hx) q
end Ts
namespace HT
theorem nX:∀a b:List Int,lexLt a b=c7 b a
 | [],[]=>rfl
 | [],_::_=>rfl
 | _::_,[]=>rfl
 | x::xs,y::ys=>by
  unfold lexLt c7;rw[nX xs ys];by_cases e:x=y
  .subst e;simp
  have c:¬y=x:=λz=>e z.symm
  simp[e,c]
end HT
namespace Ts
open PySem PySem.W PyProof.Rows
section
variable{prog:Program}{w:World}{A:Around}{E:Value->Shared->Prop}{s:Shared}{fin:Bool}{Q:Bool->Shared->Prop}
theorem RT{f ws:List Value}{ns c:List Int}(g:IntsAre f ns)(hw:IntsAre ws c)(i:Nat)(d:fin=decide (ns.length<c.length))(q:Q (HT.lexLt ns c) s):KatLex prog w A true fin Q (f.zip ws) i s:=by
 induction g generalizing ws c i with
 | nil=>
  subst d;cases hw with
  | nil=>show kat_nil q
  | cons b u hw=>show kat_nil (by simpa[HT.lexLt] using q)
 | cons a t g h=>
  cases hw with
  | nil=>subst d;show kat_nil (by simpa[HT.lexLt] using q)
  | cons b u hw=>
   rw[List.zip_cons_cons];show kat_cons (wpAny_eqBool_int ?_);rw[HT.o3] at q;by_cases e:a=b
   .rw[if_pos e] at q;subst e;simp only[BEq.rfl,cq];show kat_yes (h hw (i+1) (by rw[d];simp) q)
   rw[if_neg e] at q;simp only[beq_eq_false_iff_ne.mpr e,bg e];show kat_no ?_;cases i with
   | zero=>show oneLt_int q
   | succ i=>show kat_one _ _ (HT.rY A s a t b u prog w _ _ q)
noncomputable def jt(h:Heap)(v:Value):List Int:=match v with
 | .ref a=>match h.get? a with
  | some o=>match o.data with
   | .seq xs _=>numsOf xs.toList
   | _=>[]
  | none=>[]
 | _=>[]
def TupAt(h:Heap)(v:Value):Prop:=∃a o xs n,v=.ref a/\h.get? a=some o/\o.cls=.type "tuple"/\o.data=.seq xs n/\IntsAre xs.toList (jt h v)/\jt h v≠[]
noncomputable def ye(h:Heap)(a:List (List Int))(x:Keyed):Int:=(a.countP λt=>HT.c7 (jt h x.1) t:Nat)
theorem vw{d:List (List Int)}{a b:List Int}(ha:a∈d):(d.countP λt=>HT.c7 a t)<(d.countP λt=>HT.c7 b t)↔HT.c7 b a=true:=by
 constructor
 .intro h;cases i:HT.c7 b a with
  | true=>rfl
  | false=>
   have:(d.countP λt=>HT.c7 b t)<=(d.countP λt=>HT.c7 a t):=by
    show List.countP_mono_left λt _ e=>?_
    cases f:HT.c7 a t with
    | true=>rfl
    | false=>
     have:=HT.lp b a t i f;rw[this] at e;cases e
   ext
 intro h;have sub:∀t,HT.c7 a t=true->HT.c7 b t=true:=λt e=>by
  cases f:HT.c7 b t with
  | true=>rfl
  | false=>
   have:=HT.lp b t a f (HT.nY a t e);rw[this] at h;cases h
 induction d with
 | nil=>cases ha
 | cons c r g=>
  rw[List.countP_cons,List.countP_cons];rcases au.mp ha with rfl | ha
  .have le:(r.countP λt=>HT.c7 a t)<=(r.countP λt=>HT.c7 b t):=List.countP_mono_left λt _ e=>sub t e
   rw[HT.mF,h];simp only[aq,aQ,aX];ext
  have:=g ha;cases f:HT.c7 a c with
  | true=>rw[sub c f];simp only[aX];ext
  | false=>simp only[aq,aQ];split<;>ext
theorem Lu{h h':Heap}(k:∀b o,h.get? b=some o->h'.get? b=some o):∀{its:List Value},(∀v∈its,TupAt h v)->∃fs,KatTups h' its fs/\fs.length=its.length/\∀v∈fs,∃n t,v=Value.int n t
 | [],_=>⟨[],.nil,rfl,λv c=>by cases c⟩
 | v::r,c=>by
  obtain⟨fs,j,i,g⟩:=Lu k (its:=r) λx hx=>c x (aK _ hx)
  obtain⟨a,o,xs,n,rfl,e,f,hd,hi,d⟩:=c v List.mem_cons_self;generalize jt h (.ref a)=t at hi d;generalize hx:xs.toList=l at hi;cases hi with
  | nil=>show absurd rfl d
  | cons m u p=>
   have h0:xs[0]?=some (.int m u):=by rw[<-Array.getElem?_toList,hx];rfl
   show⟨.int m u::fs,KatTups.cons (k _ _ e) f hd h0 j,by simp[i],λx hx=>by
    rcases au.mp hx with rfl | hx
    .exact⟨_,_,rfl⟩
    .exact g x hx⟩
theorem sU{h h':Heap}{its:List Value}(k:∀b o,h.get? b=some o->h'.get? b=some o)(c:∀v∈its,TupAt h v):Ask prog w A E its (ye h (its.map (jt h))) { s with heap:=h' }:=by
 show⟨λH=>⟨tuples' (Value.type "int" != Value.type "tuple"),λJ q=>?_,⟨λx y Q l j q=>?_⟩⟩⟩
 .obtain⟨fs,u,K,r⟩:=Lu k c;show kat_kind (s:={ s with heap:=h' }) (T:=.type "int") u (by ext) (λv c=>?_) (by decide +kernel) q;obtain⟨n,t,rfl⟩:=r v c;show Looks.of_pure rfl
 have mem:∀z,z∈pairsOf its->TupAt h z.1/\z.1∈its:=λz hz=>by
  have:z.1∈its:=by
   unfold pairsOf at hz;have D:z∈its.zip its:=by simpa using hz
   show(List.of_mem_zip D).1
  show⟨c _ this,this⟩
 obtain⟨⟨a,F,xs,n,i,ga,ca,C,f,_⟩,p⟩:=mem x l;obtain⟨⟨b,ob,ys,m,g,gb,I,db,d,_⟩,G⟩:=mem y j;have e:decide (ye h (its.map (jt h)) x<ye h (its.map (jt h)) y)=HT.lexLt (jt h x.1) (jt h y.1):=by
  rw[HT.nX,Bool.eq_iff_iff,bE];unfold ye;rw[Int.ofNat_lt];show vw (cv p)
 rw[e] at q;rw[i,g];rw[i,g] at q;rw[i] at f;rw[g] at d;have B:(Value.type "int" != Value.type "tuple")=true:=by decide +kernel
 rw[B];show kat_lt (k _ _ ga) C (k _ _ gb) db (RT f d 0 ?_ q);rw[<-f.length,<-d.length];simp
end
end Ts
namespace L2
open PySem PySem.Spec PyProof.Rows
theorem Lr{d g:Type}{f:d->g}{a b:List g}(h:a.Perm b):∀{L:List d},b=L.map f->∃c:List d,c.Perm L/\a=c.map f:=by
 induction h with
 | nil=>intro L e;show⟨[],by rw[show L=[] from by simpa using e.symm],rfl⟩
 | cons x h k=>
  intro L e;cases L with
  | nil=>cases e
  | cons y L=>
   rw[ax] at e;injection e with n m
   obtain⟨c,j,i⟩:=k m;show⟨y::c,j.cons y,by rw[ax,n,i]⟩
 | swap x y l=>
  intro L e;match L,e with
  | [],e=>cases e
  | [_],e=>cases e
  | u::v::L,e=>
   simp only[ax,List.cons.injEq] at e;show⟨v::u::L,List.Perm.swap u v L,by simp[e]⟩
 | trans j i q r=>
  intro L e;obtain⟨L2,a1,a2⟩:=r e;obtain⟨s,p,o⟩:=q a2;show⟨s,p.trans a1,o⟩
section
variable{X:Cx}{pos:Pos}{e:Expr}{te:TD}
theorem JB{a:Type}{f:a->V}{g:a->Value}:∀{L:List a},(∀q∈L,RelV (f q) (g q))->Vals (L.map f) (L.map g)
 | [],_=>.nil
 | q::L,h=>.cons (h q List.mem_cons_self) (JB λx hx=>h x (aK _ hx))
theorem Tu:dY X (.builtin "sorted") (λxs H Q=>∃(p:Addr)(ps:List (V×List Int)),xs=[.ref p]/\fH X.K H p (ps.map (·.1))/\(∀q∈ps,q.2≠[]/\∃b,q.1=.ref b/\gR X.K H b (q.2.map V.int))/\(2<=ps.length->Ts.j3 ps.length)/\
  ∀w:List (V×List Int),w.Perm ps->w.Pairwise (λx y=>HT.c7 x.2 y.2=false)->∀l,H l=none->Q (.ref l) (upd H l (.lst (w.map (·.1))))):=by
 intro K' s σ H xs us Q I r h;obtain⟨p,ps,rfl,hq,hk,hr,q⟩:=h;obtain⟨u,rfl,Z⟩:=kM r;cases Z;obtain⟨its,D,pl,hz⟩:=I.list hq;have A:ps.length=its.length:=by rw[<-D.length,ae]
 obtain⟨d,n,g⟩:∃d:List ((V×List Int)×Value),ps=d.map (·.1)/\its=d.map (·.2):=
  ⟨ps.zip its,(List.map_fst_zip (by ext)).symm,(List.map_snd_zip (by ext)).symm⟩
 have rel:∀z∈d,RelV z.1.1 z.2:=λz hz=>by
  obtain⟨i,hi⟩:=List.getElem?_of_mem hz;have c:(ps.map (·.1))[i]?=some z.1.1:=by rw[n];simp[hi]
  obtain⟨v',E,Y⟩:=D.get c;have m:its[i]?=some z.2:=by rw[g];simp[hi]
  rw[m] at E;cases E;show Y
 have tup:∀z∈d,Ts.TupAt s.heap z.2/\Ts.jt s.heap z.2=z.1.2:=λz hz=>by
  obtain⟨R,b,S,sq⟩:=hk z.1 (by rw[n];show cv hz);have C:=rel z hz;obtain⟨i1,v1,p1,_⟩:=I.tuple sq;obtain⟨o1,g1,c1,n1,T⟩:=p1;obtain⟨⟨zv,U⟩,zw⟩:=z;simp only at S C v1 R ⊢;subst S;cases C;have J:=xX v1;have e:Ts.jt s.heap (.ref b)=U:=by
   unfold Ts.jt;simp only[g1,T];show J.numsOf
  show⟨⟨b,o1,_,n1,rfl,g1,c1,T,by rw[e];show J,by rw[e];show R⟩,e⟩
 show Ts.rQ (rk:=Ts.ye s.heap (its.map (Ts.jt s.heap))) pl.isList (by rw[<-A,<-ae (f:=(·.1))];show hz) (by rw[<-A];show hr) (λh' k=>Ts.sU k λv M=>?_) λB N j=>?_
 .rw[g] at M;obtain⟨z,hz,rfl⟩:=aM.mp M;show(tup z hz).1
 have ep:(PyProof.Rows.pairsOf its).toList=d.map λz=>((z.2,z.2):Keyed):=by
  unfold PyProof.Rows.pairsOf;rw[g];simp only[List.zip_toArray];clear n g rel tup N j;induction d with
  | nil=>rfl
  | cons a r G=>simp at G ⊢;show G
 obtain⟨t,c,m⟩:=Lr (N.trans (List.Perm.of_eq ep)) rfl;have Gk:∀z∈t,RelV z.1.1 z.2:=λz hz=>rel z (c.subset hz)
 have out:((arrOf B).map (·.2)).toList=t.map (·.2):=by
  rw[Array.toList_map,m,aR];rfl
 obtain⟨en,he⟩:=sortedAll_at s.heap its ((arrOf B).map (·.2));have hf:H (s.heap.objs.size+1)=none:=I.dU.fresh (cj _)
 have F:=q (t.map (·.1)) (by rw[n];show c.map _) (by
  rw[List.pairwise_map];unfold Ts.fu at j;rw[m,List.pairwise_map] at j;show j.imp_of_mem λ{a b} ha P L=>?_
  have W:=(tup a (c.subset ha)).2;have tb:=(tup b (c.subset P)).2;have mb:Ts.jt s.heap b.2∈its.map (Ts.jt s.heap):=cv (by rw[g];show cv (c.subset P));unfold Ts.ye at L;cases O:HT.c7 a.1.2 b.1.2 with
  | false=>rfl
  | true=>
   rw[<-W,<-tb] at O;have:=(Ts.vw mb).mpr O;simp only at L;ext) _ hf
 rw[aR] at F;show⟨.ref (s.heap.objs.size+1),_,I.laid (a:=s.heap.objs.size+1) (o:=.lst (t.map ((·.1)∘(·.1)))) (t':=s.toks) (λb o e=>sortedAll_old e) (cj _) ?_,rfl,F⟩
 show⟨by
  rw[ae,c.length_eq];have:d.length=its.length:=by rw[g,ae]
  rw[this,<-A,<-ae (f:=(·.1))];show hz,((arrOf B).map (·.2)).toList,en,?_,?_⟩
 .rw[out];show JB Gk
 rw[Array.toArray_toList];show he
def Cr:eA:=λds Q=>match ds with
 | [.lst es]=>match nK es with
  | some b=>(∀t∈b,t≠[])/\∀a:List (List Int),a.Perm b->a.Pairwise (λx y=>HT.c7 x y=false)->Q (.ow (a.map λt=>.tup (t.map D.int)))
  | none=>False
 | _=>False
theorem B0{a:Type}{K:J'}{G:Hp}{f:a->V}{g:a->D}:∀{L:List a},(∀q∈L,Rep K G (f q) (g q))->cA K G (L.map f) (L.map g)
 | [],_=>cA.nil
 | q::L,h=>cA.cons (h q List.mem_cons_self) (B0 λx hx=>h x (aK _ hx))
theorem RS{G H:Hp}{m:List V}{es:List D}{c:List (List Int)}{Q:R->Prop}{P:VK}(s:cO G H)(A:cA X.K G m [.lst es])(C:nK es=some c)(F:∀t∈c,t≠[])(E:2<=c.length->Ts.j3 c.length)
  (q:∀g:List (List Int),g.Perm c->g.Pairwise (λx y=>HT.c7 x y=false)->Q (.ow (g.map λt=>.tup (t.map D.int)))) (k:∀v j o w,Ext G H w j->fI X.K w j H v o->Q o->P v j) :
  ∃(p:Addr)(ps:List (V×List Int)),m=[.ref p]/\fH X.K H p (ps.map (·.1))/\(∀q∈ps,q.2≠[]/\∃b,q.1=.ref b/\gR X.K H b (q.2.map V.int))/\(2<=ps.length->Ts.j3 ps.length)/\
   ∀d:List (V×List Int),d.Perm ps->d.Pairwise (λx y=>HT.c7 x.2 y.2=false)->∀l,H l=none->P (.ref l) (upd H l (.lst (d.map (·.1)))):=by
 obtain⟨v,rfl,n⟩:=kY A;simp only[Rep] at n;obtain⟨a,xs,rfl,L,J⟩:=n;obtain⟨M,I⟩:=Kf C J;have u:(xs.zip c).map (·.1)=xs:=List.map_fst_zip (by ext);have h:(xs.zip c).map (·.2)=c:=List.map_snd_zip (by ext);have el:(xs.zip c).length=c.length:=by rw[List.length_zip];ext
 have hz:∀q∈xs.zip c,Rep X.K G q.1 (.tup (q.2.map D.int))/\∃b,q.1=.ref b/\gR X.K G b (q.2.map V.int):=λq f=>by
  obtain⟨i,hi⟩:=List.getElem?_of_mem f;have a1:xs[i]?=some q.1:=by rw[<-u];simp only[aJ,hi];rfl
  have a2:c[i]?=some q.2:=by rw[<-h];simp only[aJ,hi];rfl
  show I i _ _ a1 a2
 show⟨a,xs.zip c,rfl,by rw[u];show(s.gq L).sq,λz f=>⟨F _ (by rw[<-h];show cv f),?_⟩,by rw[el];show E,λd r B=>?_⟩
 .obtain⟨_,b,e,sq⟩:=hz z f;show⟨b,e,s.rR sq⟩
 show tK s (ds:=(d.map (·.2)).map λt=>.tup (t.map D.int)) ?_ (q (d.map (·.2)) (by rw[<-h];show r.map _) (by rw[List.pairwise_map];show B)) k;rw[aR];show B0 λq f=>(hz q (r.subset f)).1
theorem SU(_:X.calm=true):rE X (.builtin "sorted") Cr:=by
 show⟨_,Tu,λG H b ds Q P s rs h k=>?_⟩;unfold Cr at h;split at h
 .split at h
  .rename_i es c a;show RS s rs a h.1 (λ_=>Ts.rV _) h.2 k
  show h.elim
 show h.elim
end
theorem Lq{P:Program}{w:World}:∀{a:List Key}{us:List Value},Vals (a.map kV) us->ItemsAre (rJ P w) a us
 | [],_,r=>by rw[bQ] at r;cases r;show .nil
 | k::a,_,r=>by
  rw[ax] at r;cases r with
  | cons h t=>show .cons (Ox h) (Lq t)
abbrev KT(H:Hp):List (List Key×V)->List (List Key×Addr×Value)->Prop:=Paired λp q=>p.1=q.1/\H q.2.1=some (.tup (p.1.map kV))/\RelV p.2 q.2.2
theorem KT.val{H:Hp}{f:List (List Key×V)}{xs:List (List Key×Addr×Value)}(r:KT H f xs)(k:List Key):kI (p9 f k) ((atKey xs k).map (·.2)):=by
 induction r with
 | nil=>show True.intro
 | @cons p q ps a h t g=>
  obtain⟨d,_,i⟩:=h;by_cases e:p.1=k
  .have c:q.1=k:=d.symm.trans e;have b:atKey (q::a) k=some q.2:=by simp[atKey,List.find?_cons,c]
   rw[Kh e,b];show i
  have c:¬q.1=k:=λz=>e (d.trans z)
  have b:atKey (q::a) k=atKey a k:=by simp[atKey,List.find?_cons,c]
  rw[Kg e,b];show g
theorem KT.oY{H:Hp}{d:List (List Key×V)}{xs:List (List Key×Addr×Value)}(r:KT H d xs)(k:List Key){y:V}{u:Value}(f:RelV y u) :
  KT H (d.map λb=>if b.1=k then(b.1,y) else b) (xs.map (putAt k u)):=by
 induction r with
 | nil=>show .nil
 | @cons p q ps j h t g=>
  rw[ax,ax];show .cons ?_ g;obtain⟨a,c,i⟩:=h;unfold putAt;by_cases e:p.1=k
  .rw[if_pos e,if_pos (a.symm.trans e)];show⟨a,c,f⟩
  rw[if_neg e,if_neg (λz=>e (a.trans z))];show⟨a,c,i⟩
theorem KT.put{H:Hp}{a:List (List Key×V)}{xs:List (List Key×Addr×Value)}(r:KT H a xs)(k:List Key){b:Addr}{y:V}{u:Value}(f:H b=some (.tup (k.map kV)))(c:RelV y u) :
  KT H (ua a k y) (storedH xs k b u):=by
 have e:(a.any λd=>decide (d.1=k))=(atKey xs k).isSome:=by
  rw[Es,(r.val k).mG,Option.isSome_map]
 unfold ua storedH;rw[e];by_cases q:(atKey xs k).isSome=true
 .rw[if_pos q,if_pos q];show r.oY k c
 rw[if_neg q,if_neg q];show Paired.snoc r ⟨rfl,f,c⟩
theorem KT.keeps{H c:Hp}{a:List (List Key×V)}{xs:List (List Key×Addr×Value)}(r:KT H a xs)(d:∀b ys,H b=some (.tup ys)->c b=some (.tup ys)):KT c a xs:=
 Paired.AH r λ_ _ z=>⟨z.1,d _ _ z.2.1,z.2.2⟩
section
variable{P:Program}{w:World}{H:Hp}{h:Heap}{a:Addr}
theorem Ov{u:HO}(ok:j6 P w H h)(e:Rd H a u):dZ P w H h a u:=e.ok ok
theorem D3{b:List Key}(ok:j6 P w H h)(e:H a=some (.tup (b.map kV))):(tupleKind (rJ P w)).is h b a:=by
 obtain⟨_,its,r,o,f,d,n,c⟩:=(show dZ P w H h a (.tup (b.map kV)) from ok a _ e)
 show⟨o,its.toArray,n,f,d,c,by simpa using Lq r⟩
end
end L2
namespace PySem
open Sem (wp)
end PySem
namespace L2
open PySem PySem.Spec PyProof.Rows
def IsT(H:Hp)(a:Addr):Prop:=∃b bs,Rd H a (.dT b bs)
section
variable{P:Program}{w:World}{H:Hp}{h:Heap}{a:Addr}
theorem DL{b:List (List Key×V)}{bs:List Addr×Nat}(ok:j6 P w H h)(e:Rd H a (.dT b bs)):b.length<=sizeLine/\(a==sysModules)=false/\
  ∃xs,xs.map (λx=>x.2.1)=bs.1/\KT H b xs/\h.DictOfH (tupleKind (rJ P w)) a xs:=by
 obtain⟨z,y,xs,n,r,o,es,ep,k,j,i,g,f⟩:=(show dZ P w H h a (.dT b bs) from Ov ok e)
 have all:∀{l:List (List Key×V)}{m:List (List Key×Addr×Value)},KT H l m->∀x∈m,(tupleKind (rJ P w)).is h x.1 x.2.1:=λ{l m} q=>by
  induction q with
  | nil=>show λx hx=>nomatch hx
  | @cons p q ps s c t d=>
   intro x hx;cases hx with
   | head=>show D3 ok (by rw[<-c.1];show c.2.1)
   | tail _ hx=>show d x hx
 show⟨z,y,xs,n,r,o,es,ep,k,j,i,g,all r,f.1⟩
end
def OX:TE:=λ_ H Q=>∀p,H p=none->Q (.ref p) (upd H p (.dT [] ([],0)))
section
variable{X:Cx}{pos:Pos}{e i':Expr}{te ti:TD}
theorem P9:PE X (.Dict [] [] pos) OX:=λb s σ H Q I h=>by
 have ok:dZ X.prog X.w (upd H s.heap.objs.size (.dT [] ([],0))) (s.heap.push { cls:=.type "dict",data:=.dict #[] }) s.heap.objs.size (.dT [] ([],0)):=
  ⟨aZ _,beq_eq_false_iff_ne.mpr (Ne.symm (aN I.big)),[],rfl,.nil,_,#[],0,aB _ rfl,⟨rfl,rfl,rfl⟩,rfl,rfl,List.nodup_nil,rfl⟩
 show wpAny_Dict_empty ⟨.ref s.heap.objs.size,_,I.laid (a:=s.heap.objs.size) (o:=.dT [] ([],0)) (t':=s.toks) (λ_ _ q=>aj _ q) (az _) ok,rfl,h _ (I.dU.fresh (az _))⟩
theorem Py{i:List (Addr×Obj)}{f:St}{H:Hp}{s:Shared}{a:Addr}(I:Inv X i f H s)(d:IsT H a) :
  s.TypeIs (.ref a) "dict"/\(∀b,Value.ref a=.ref b->∃ob,s.heap.get? b=some ob/\ob.dict=none)/\(a==sysModules)=false:=by
 obtain⟨j,bs,e⟩:=d;obtain⟨_,hd,xs,_,_,c⟩:=DL I.dU e;show⟨c.typeIs,λb q=>?_,hd⟩;cases q;obtain⟨ob,_,_,h,g,_⟩:=c;show⟨ob,h,g.2.1⟩
theorem fg.snoc{H:Hp}{k:List Key}{v:V}{b:Addr}(a:H b=some (.tup (k.map kV))):∀{ps:List (List Key×V)}{bs:List Addr},fg H ps bs->fg H (ps++[(k,v)]) (bs++[b])
 | [],[],_=>⟨a,trivial⟩
 | p::ps,c::bs,h=>⟨h.1,fg.snoc a h.2⟩
 | [],_::_,h=>h.elim
 | _::_,[],h=>h.elim
noncomputable def ve:List D->Option (List Key)
 | []=>some []
 | d::r=>match vN d,ve r with
  | some k,some a=>some (k::a)
  | _,_=>none
theorem EK{K:J'}{G:Hp}:∀{ds:List D}{b:List V}{a:List Key},cA K G b ds->ve ds=some a->b=a.map kV
 | [],[],a,_,h=>by simp only[ve,aG] at h;subst h;rfl
 | d::ds,v::b,a,r,h=>by
  simp only[cA] at r;simp only[ve] at h;split at h
  .rename_i k f e c;simp only[aG] at h;subst h;rw[Ri r.1 e,EK r.2 c];rfl
  cases h
 | [],_::_,_,r,_=>by simp only[cA] at r
 | _::_,[],_,r,_=>by simp only[cA] at r
end
section
variable{X:Cx}{pos:Pos}{e i':Expr}{te ti:TD}
noncomputable def fw(b:List (List Key×D))(k:List Key):Option D:=(b.find? λa=>decide (a.1=k)).map (·.2)
theorem cY.look{K:J'}{G:Hp}{k:List Key}{d:D}:∀{c:List (List Key×V)}{f:List (List Key×D)},cY K G c f->fw f k=some d->∃v,p9 c k=some v/\Rep K G v d
 | [],[],_,e=>by simp[fw] at e
 | a::c,b::f,h,e=>by
  simp only[cY] at h;unfold fw at e;unfold p9;rw[List.find?_cons] at e ⊢;rw[h.1.1];by_cases g:b.1=k
  .simp only[g,cq,Option.map_some,aG] at e ⊢;subst e;show⟨_,rfl,h.1.2⟩
  simp only[g,bR] at e ⊢;show cY.look h.2 e
 | [],_::_,h,_=>by simp only[cY] at h
 | _::_,[],h,_=>by simp only[cY] at h
end
end L2
namespace PySem
open Sem (wp)
end PySem
namespace L2
open PySem PySem.Spec PyProof.Rows
end L2
namespace PySem
open Sem (wp)
end PySem
namespace L2
open PySem PySem.Spec PyProof.Rows
namespace SI
open PySem PySem.Spec PyProof.Rows
end SI
end L2
namespace L2
open PySem PySem.Spec PyProof.Rows
namespace SI
end SI
end L2
namespace L2
open PySem PySem.Spec PyProof.Rows
section
variable{P:Program}{w:World}{K:J'}{mg:Str->Option Value}{base:Heap}
structure Dx(K:J')(mg:Str->Option Value)(x:Str)(st:Stmt)(ds:List Value):Prop where
 ex:∃(T f:Addr)(fd:FuncData)(o:Obj)(n:Nat),mY (.ref T) K x x st f fd/\mg x=some (.ref f)/\K.lookup T=some o/\o.data=.seq ds.toArray n
theorem xp{h:Heap}{x:Str}{st:Stmt}{f T:Addr}{g tc:Value}{od j e:Option Addr}{i m:Array (Option Value)}{kV b pm d ct:Value}{ds:List Value}{n:Nat}(X:K.In h)(G:h.Ns mainGlobals mg)(a:PySem.W.nsIn K mainGlobals x=some (some (.ref f)))
  (l:K.lookup f=some ⟨g,od,.func (PySem.W.fnOf x x (fL st) (dD st) (cz st) (.ref T) kV b pm j d ct),i⟩) (c:PySem.W.codeIn K d x=true) (k:PySem.W.keepIn K (.ref f)=true) (t:K.lookup T=some ⟨tc,e,.seq ds.toArray n,m⟩):Dx K mg x st ds:=
 ⟨T,f,_,_,n,D4 l c k,PySem.W.mg_of X G a,t,rfl⟩
theorem mY.sS{x a:Str}{st:Stmt}{f T:Addr}{c:FuncData}{ps:List Str}{o:Obj}{ds es:List Value}{n:Nat}(F:mY (.ref T) K x a st f c)(m:Nat)(d:K.lookup T=some o)(hd:o.data=.seq ds.toArray n)
  (h:∀(kV doc pm:Value)(an:Option Addr)(b ct:Value)(us:List Value),us.length=m->∃k:Option (Array Value)->Sem (List (Str×Value)),bindArgs (PySem.W.fnOf x a (fL st) (dD st) (cz st) (.ref T) kV doc pm an b ct) ⟨us,[]⟩=seqItems? (.ref T) >>= k/\k (some ds.toArray)=pure (ps.zip (us++es))) (e:ps.length=m+es.length:=by rfl):Binds K c ps es:=by
 obtain⟨l,od,kV,doc,pm,an,b,ct,p,rfl,lf,q⟩:=F.ex;intro s us yg g;obtain⟨k,j,i⟩:=h kV doc pm an b ct us (by rw[ay,e] at g;ext);show BindsTo.of_defaults rfl (yg _ _ d) hd j i
structure lB(P:Program)(w:World)(K:J')(mg:Str->Option Value)(base:Heap)(k:Nat)(x:Str)(n:Nat)(t:eA)(b:Bool):Prop where
 ex:∃(f:Addr)(fd:FuncData)(ps:List Str),i6 P w K mg base nH k f fd ps (xt K n t)/\mg x=some (.ref f)/\PySem.W.keepIn K (.ref f)=true/\Binds K fd ps []/\Binds K fd ps [.bool b]
theorem lB.all{k:Nat}{x:Str}{n:Nat}{t:eA}{b:Bool}(C:lB P w K mg base k x n t b):Known P w K mg base k x n t:=by
 obtain⟨f,fd,ps,e,d,c,a,_⟩:=C.ex;show⟨f,fd,ps,e,d,c,a⟩
end
section
variable{X:Cx}{p p' pos pos':Pos}{e:Expr}{ts:jP}
theorem RR:dY X (.type "range") (λxs H Q=>∃j:Int,xs=[.int j]/\∀l,H l=none->Q (.ref l) (upd H l (.rX 0 j))):=by
 intro a s σ H xs us Q I r h;obtain⟨j,rfl,q⟩:=h;obtain⟨u,rfl,t,rfl⟩:=kM r;show call_range_1 ⟨.ref s.heap.objs.size,_,I.laid (t':=s.toks+1+1) (λb o e=>aj _ e) (az _) (show dZ X.prog X.w _ _ _ (.rX 0 j) from⟨_,_,_,aB _ rfl⟩),rfl,q _ (I.dU.fresh (az _))⟩
theorem LZ:∀(l:List Value)(k:Nat),(∀(j:Nat) v,l[j]?=some v->∃t,v=.int ((k:Int)+j) t)->Vals ((List.range' k l.length).map λ(i:Nat)=>V.int i) l
 | [],_,_=>.nil
 | v::l,k,h=>by
  rw[aD,List.range'_succ,ax];obtain⟨t,a⟩:=h 0 v rfl;show .cons ⟨t,by rw[a];simp⟩ (LZ l (k+1) λj u b=>?_);obtain⟨t,a⟩:=h (j+1) u (by simpa using b);show⟨t,by rw[a];congr 1;ext⟩
theorem Tt(n:Nat)(acc:Array Value)(h:ItemsOf (λi v=>∃t,v=.int (0+i*1) t) acc n):Vals ((List.range n).map λ(i:Nat)=>V.int i) acc.toList:=by
 have:=LZ acc.toList 0 λj v a=>by
  obtain⟨t,b⟩:=h.2 j v (by simpa using a);show⟨t,by rw[b];congr 1;ext⟩
 rw[af,h.1] at this;rw[List.range_eq_range'];show this
theorem Vb(k:X.calm=true):dY X (.type "list") (λxs H Q=>∃(p:Addr)(n:Nat),xs=[.ref p]/\H p=some (.rX 0 n)/\n<=sizeLine/\∀l,H l=none->Q (.ref l) (upd H l (.lst ((List.range n).map λ(i:Nat)=>V.int i)))):=by
 intro m s σ H xs us Q I r h;obtain⟨p,n,rfl,d,f,q⟩:=h;obtain⟨u,rfl,a⟩:=kM r;cases a;obtain⟨t,u,v,e⟩:=I.dU p _ d;have big:sizeLine=16777216:=rfl;show call_list_range (I.ok.hd k) (show IsRange s.heap p 0 n 1 t u v from e) (small_one (by ext) (by ext) (by ext) (by ext)) (n:=n) (by rw[rangeSize_one];split<;>ext) (by ext) λh' tk acc c j g hi=>?_
 have b:=Tt n acc hi;show⟨.ref s.heap.objs.size,_,I.laid (t':=tk) j (az _) (show dZ X.prog X.w _ h' _ (.lst ((List.range n).map λ(i:Nat)=>V.int i)) from⟨by simpa using f,acc.toList,c,b,by simpa using g⟩),rfl,q _ (I.dU.fresh (az _))⟩
def D2(ts:jP):TD:=λa Q=>ts a λds=>match ds with
 | [.int j]=>0<=j/\j<=1000000/\Q (.ow ((List.range j.toNat).map λ(i:Nat)=>.int i))
 | _=>False
theorem RQ(C:X.calm=true)(z:X.mg "list"=none)(w:X.mg "range"=none)(ha:mW X [e] ts)(B:Gl X "list":=by rfl)(n:Gl X "range":=by rfl)(y:starEach [e] X.env=(false,eval e X.env)::starEach [] X.env:=by rfl):PD X (.Call (.Name "list" p) [.Call (.Name "range" p') [e] [] pos'] [] pos) (D2 ts):=by
 obtain⟨t,pp,q⟩:=ha;show⟨_,x8 (Vb C) B z boot_list (qO (x8 RR n w boot_range pp (he:=y)) rG),λg σ K I G H Q P E h k=>q g σ K I G H _ _ E h λL d ds f x rs a=>?_⟩;split at a
 .rename_i j;obtain⟨D,M,a⟩:=a;obtain⟨v,rfl,c⟩:=kY rs;simp only[Rep] at c;subst c;show⟨j,rfl,λl A=>?_⟩;have big:sizeLine=16777216:=rfl;have b:Ext f d f (upd d l (.rX 0 j)):=.own x.s A;show⟨l,j.toNat,rfl,by rw[iU,Int.toNat_of_nonneg D],by ext,tK b.s (ds:=(List.range j.toNat).map λ(i:Nat)=>.int i) (B0 λq _=>by simp only[Rep]) a λv F r J m o u=>k v F r J ((x.trans b).trans m) (o.iC (x.h.trans b.h)) u⟩
 show a.elim
end
section
variable{P:Program}{w:World}{K:J'}{mg:Str->Option Value}{base:Heap}
theorem gO{x:Str}{st:Stmt}{N ps:List Str}{t:eA}{T:TX}{n d:Nat}(k:Nat)(A:At K mg x st)(S:cF N ps (cz st))
  (body:∀(f:Addr)(c:Value)(A:Around)(outer:List Env)(s:Shared)(H:Hp)(E:XK),eY k (A.deeper (envOfC x (cz st) s.heap.objs.size f c))->pd (qI nH P w K mg base N x (cz st) f c A outer s H E).tR (dD st) T)
  (a:∀(ds:List D)(e:R->Prop),ds.length=n->t ds e->T { nx:=λ_=>e (.fz .non),rt:=e } (uk N ds))
  (b:∀(kV doc pm:Value)(an:Option Addr)(c ct:Value)(us:List Value),us.length=n->bindArgs (PySem.W.fnOf x x (fL st) (dD st) (cz st) .none kV doc pm an c ct) ⟨us,[]⟩=pure (ps.zip us)) (g:ps.length=n:=by rfl) (hd:k+1=d:=by rfl):Known P w K mg base d x n t:=by
 subst g hd;obtain⟨f,fd,F,hm⟩:=A.ex;show⟨f,fd,ps,Ed F S (body f) a,hm,F.kp,F.binds b⟩
end
end L2
namespace Ts
open PySem PySem.W PyProof.Rows
end Ts
namespace L2
open PySem PySem.Spec PyProof.Rows
theorem ue{b:Type}{l:List b}{n:Nat}(h:l.length=n+1):∃a r,l=a::r/\r.length=n:=by
 cases l with
 | nil=>cases h
 | cons a r=>show⟨a,r,rfl,Nat.succ.inj h⟩
theorem NT{a:Type}{l:List a}(h:l.length=0):l=[]:=b8 h
theorem DI{b:Type}{l:List b}(h:l.length=1):∃c,l=[c]:=by
 obtain⟨a,r,e,h⟩:=ue h;show⟨a,by rw[e,NT h]⟩
theorem DH{b:Type}{l:List b}(h:l.length=2):∃f a1,l=[f,a1]:=by
 obtain⟨a,r,e,h⟩:=ue h;obtain⟨d,c⟩:=DI h;show⟨a,d,by rw[e,c]⟩
theorem HW{b:Type}{l:List b}(h:l.length=3):∃g a1 a2,l=[g,a1,a2]:=by
 obtain⟨a,r,e,h⟩:=ue h;obtain⟨f,d,c⟩:=DH h;show⟨a,f,d,by rw[e,c]⟩
theorem HV{b:Type}{l:List b}(h:l.length=4):∃j a1 a2 i,l=[j,a1,a2,i]:=by
 obtain⟨a,r,e,h⟩:=ue h;obtain⟨g,f,d,c⟩:=HW h;show⟨a,g,f,d,by rw[e,c]⟩
theorem HU{b:Type}{l:List b}(h:l.length=5):∃m a1 a2 k j,l=[m,a1,a2,k,j]:=by
 obtain⟨a,r,e,h⟩:=ue h;obtain⟨i,g,f,d,c⟩:=HV h;show⟨a,i,g,f,d,by rw[e,c]⟩
theorem DG{b:Type}{l:List b}(h:l.length=6):∃o a1 a2 n m k,l=[o,a1,a2,n,m,k]:=by
 obtain⟨a,r,e,h⟩:=ue h;obtain⟨j,i,g,f,d,c⟩:=HU h;show⟨a,j,i,g,f,d,by rw[e,c]⟩
theorem HS{b:Type}{l:List b}(h:l.length=7):∃q a1 a2 p o n m,l=[q,a1,a2,p,o,n,m]:=by
 obtain⟨a,r,e,h⟩:=ue h;obtain⟨k,j,i,g,f,d,c⟩:=DG h;show⟨a,k,j,i,g,f,d,by rw[e,c]⟩
theorem HR{b:Type}{l:List b}(h:l.length=8):∃t a1 a2 s q p o n,l=[t,a1,a2,s,q,p,o,n]:=by
 obtain⟨a,r,e,h⟩:=ue h;obtain⟨m,k,j,i,g,f,d,c⟩:=HS h;show⟨a,m,k,j,i,g,f,d,by rw[e,c]⟩
theorem Zd{b:Type}{l:List b}(h:l.length=9):∃v a1 a2 u t s q p o,l=[v,a1,a2,u,t,s,q,p,o]:=by
 obtain⟨a,r,e,h⟩:=ue h;obtain⟨n,m,k,j,i,g,f,d,c⟩:=HR h;show⟨a,n,m,k,j,i,g,f,d,by rw[e,c]⟩
open PySem.Builtin PySem.Builtin.Str
section
variable{X:Cx}
theorem Tq{A:Around}{E:Value->Shared->Prop}{prog:Program}{w:World}{s:Shared}{Q:Value->Shared->Prop}{x y:Str}{t u:Tok}(c:(y.length==0)=false)
  (b:∀l tk,l.map (·.1)=Txt.split x y->Q (.ref s.heap.objs.size) { s with heap:=s.heap.push { cls:=.type "list",data:=.seq (strValues l).toArray },toks:=tk })
  (hsz:x.length+2<=sizeLine):wpAny (model prog w) A (call (.builtin "str.split") [.str x t,.str y u]) Q E s:=by
 have d:(partsBetween x (occurrences x y 0 x.length (x.length+1)) y.length).length<=sizeLine:=by
  rw[len_partsBetween];have:=StrLaws.occ_length_le x y 0 x.length (x.length+1);ext
 cases a:(decide (x.length<y.length)||decide (strKind x<strKind y))
 .cases hf:(occurrences x y 0 x.length (x.length+1)).isEmpty
  .refine call_meets PySem.F.slot_str_split (typeIs_str _ _ _) PySem.F.entry_str_split (PySem.F.args_str_split_2 _ _) (meets_str_split_sep x y t u a c hf (by ext) d) ?_;show wants Q E _ { s with toks:=_,heap:=s.heap.push { cls:=.type "list",data:=.seq (strsFrom s.toks (partsBetween x (occurrences x y 0 x.length (x.length+1)) y.length)).toArray } };rw[strsFrom_eq];show b (numbered s.toks _) _ ((numbered_texts _ _).trans ((if_neg (ne_true_of_eq_false a)).trans (if_neg (ne_true_of_eq_false hf))).symm)
  show call_meets PySem.F.slot_str_split (typeIs_str _ _ _) PySem.F.entry_str_split (PySem.F.args_str_split_2 _ _) (meets_str_split_not_found x y t u a c hf)
   (b [(x,t)] s.toks ((if_neg (ne_true_of_eq_false a)).trans (if_pos hf)).symm)
 show call_meets PySem.F.slot_str_split (typeIs_str _ _ _) PySem.F.entry_str_split (PySem.F.args_str_split_2 _ _) (meets_str_split_cannot_occur x y t u a)
  (b [(x,t)] s.toks (if_pos a).symm)
theorem J9:∀(l:List (Str×Tok)),Vals ((l.map (·.1)).map V.str) (strValues l)
 | []=>.nil
 | (x,t)::r=>.cons ⟨t,rfl⟩ (J9 r)
theorem Lp{K:J'}{G:Hp}:∀(l:List Str),cA K G (l.map V.str) (l.map D.str)
 | []=>cA.nil
 | x::r=>cA.cons (ur _ _ _) (Lp r)
def y4:D->List D->(R->Prop)->Prop:=λd ds Q=>match d,ds with
 | .str x,[.str y]=>y.length≠0/\x.length+2<=sizeLine/\Q (.ow ((Txt.split x y).map D.str))
 | _,_=>False
theorem JR:Ds X "str.split" y4:=by
 show⟨λx b H Q=>∃(z y:Str),x=.str z/\b=[.str y]/\y.length≠0/\z.length+2<=sizeLine/\∀p,H p=none->Q (.ref p) (upd H p (.lst ((Txt.split z y).map V.str))),λm s σ H x xs v us Q I a rs h=>?_,λG H x d b ds Q P s a rs h k=>?_⟩
 .obtain⟨z,y,rfl,rfl,g,hz,q⟩:=h;obtain⟨t,rfl⟩:=a;obtain⟨u,rfl,f⟩:=kM rs;obtain⟨j,rfl⟩:=f;show Tq (by simpa using g) (λl tk i=>?_) hz;have e:=J9 l;rw[i] at e;show⟨.ref _,_,I.wQ (t':=tk) e (by rw[ae];show aL (split_le z y) hz),rfl,q _ I.fresh⟩
 unfold y4 at h;split at h
 .obtain⟨y,rfl,c⟩:=kY rs;simp only[Rep] at a c;subst a c;show⟨_,_,rfl,rfl,h.1,h.2.1,tK s (Lp _) h.2.2 k⟩
 show h.elim
end
end L2
namespace L2.SO
open PySem PySem.Spec PyProof.Rows L2
end L2.SO
namespace L2
open PySem PySem.Spec PyProof.Rows
section
variable{X:Cx}{pos:Pos}{e:Expr}{te:TD}{ts:jP}{t:TA}
noncomputable def oD:Option Str->D
 | none=>.non
 | some x=>.str x
end
section
variable{X:Cx}{pos:Pos}{e i':Expr}{te ti tv:TD}
theorem cY.isSome{K:J'}{G:Hp}(k:List Key):∀{c:List (List Key×V)}{d:List (List Key×D)},cY K G c d->(p9 c k).isSome=(fw d k).isSome
 | [],[],_=>rfl
 | a::c,b::d,h=>by
  simp only[cY] at h;unfold fw p9;rw[List.find?_cons,List.find?_cons,h.1.1];by_cases e:b.1=k
  .simp only[e,cq,Option.map_some,Option.isSome_some]
  simp only[e,bR];show cY.isSome k h.2
 | [],_::_,h=>by simp only[cY] at h
 | _::_,[],h=>by simp only[cY] at h
def yQ:TD:=λ_ Q=>Q (.ov (.dq []))
theorem J8:PD X (.Dict [] [] pos) yQ:=by
 show⟨_,P9,λb σ f c G H Q P E h k=>λd hd=>?_⟩;show k _ _ (.ov (.dq [])) G (.own E.e.s hd) ⟨d,[],rfl,by simp,⟨rfl,[],([],0),iU,trivial,by simp only[cY]⟩,λq a=>?_⟩ h;simp only[bp] at a;subst a;show⟨hd,E.e.s.free hd⟩
def Px(e ty tv:TE):TS:=λD σ H=>tv σ H λv H1=>e σ H1 λx g=>ty σ g λy d=>∃a b c bs k,x=.ref a/\y=.ref b/\d a=some (.dT c bs)/\d b=some (.tup (k.map kV))/\c.length<sizeLine/\∀ep,D.nx σ (upd d a (.dT (ua c k v) (if (c.any λf=>decide (f.1=k))=true then bs.1 else bs.1++[b],ep)))
theorem RP{o i d:Expr}{f:Pos}{n ty tv:TE}(hu:X.A.units+64<cLine)(S:PE X o n)(hi:PE X i ty)(Q:PE X d tv)(R:swapsWith d (some (.Subscript o i f)) pos.line X.env=pure false) :
  PS X (.Assign [.Subscript o i f] d pos) (Px n ty tv):=by
 intro l s σ H D I h;show wpAny_Assign_Subscript (dR (Q l s σ H _ I h) λr s1 g=>?_) R;obtain⟨v,H1,I1,K,N⟩:=g;show dR (S l s1 σ H1 _ I1 N) λu s2 g=>?_
 obtain⟨x,H2,I2,J,M⟩:=g;show dR (hi l s2 σ H2 _ I2 M) λP s3 g=>?_
 obtain⟨y,H3,m,G,a,b,j,bs,k,ex,Y,ha,B,hl,L⟩:=g;subst ex Y;obtain rfl:u=Value.ref a:=J;obtain rfl:P=Value.ref b:=G;obtain⟨hz,hd,xs,E,rel,Z⟩:=DL m.dU (.inl ha);have hlen:j.length=xs.length:=Paired.length rel;show wpAny_setItem_heap (knd:=tupleKind (rJ X.prog X.w)) (hsz:=by rw[<-hlen];show hz) (tupleKind_room_in1 (by show X.A.units+1<cLine;ext)) (D3 m.dU B) Z λh' Y0 F=>?_
 obtain⟨q,es,ep,t,W,V,U,_,T⟩:=Y0;show⟨σ,_,?_,L ep⟩;show Qe m (by rw[ha];show True.intro) F ⟨q,t⟩ ⟨by have:=UD j k v;ext,hd,_,?_,(rel.put k B K).keeps λc ys C=>?_,q,es,ep,t,W,V,U,T,rfl⟩
 .have e:(j.any λO=>decide (O.1=k))=(atKey xs k).isSome:=by
   rw[Es,(rel.val k).mG,Option.isSome_map]
  unfold storedH;rw[e];by_cases z:(atKey xs k).isSome=true
  .rw[if_pos z,if_pos z,aR,<-E];show List.map_congr_left λp _=>?_
   show(putAt k r p).2.1=p.2.1;unfold putAt;split<;>rfl
  rw[if_neg z,if_neg z,aE,E];rfl
 rw[eU (IB C ha (λz=>nomatch z))];show C
end
noncomputable def ud(b:List (List Key×D))(k:List Key)(d:D):List (List Key×D):=
 if (b.any λa=>decide (a.1=k))=true then b.map (λa=>if a.1=k then(a.1,d) else a) else b++[(k,d)]
section
variable{K:J'}{G:Hp}
theorem cY.length:∀{c:List (List Key×V)}{d:List (List Key×D)},cY K G c d->c.length=d.length
 | [],[],_=>rfl
 | a::c,b::d,h=>by
  simp only[cY] at h;simp only[aD,cY.length h.2]
 | [],_::_,h=>by simp only[cY] at h
 | _::_,[],h=>by simp only[cY] at h
theorem cY.any(k:List Key):∀{d:List (List Key×V)}{e:List (List Key×D)},cY K G d e->(d.any λc=>decide (c.1=k))=e.any λc=>decide (c.1=k)
 | [],[],_=>rfl
 | a::d,b::e,h=>by
  simp only[cY] at h;rw[List.any_cons,List.any_cons,h.1.1,cY.any k h.2]
 | [],_::_,h=>by simp only[cY] at h
 | _::_,[],h=>by simp only[cY] at h
theorem cY.snoc{k:List Key}{v:V}{d:D}(r:Rep K G v d):∀{c:List (List Key×V)}{e:List (List Key×D)},cY K G c e->cY K G (c++[(k,v)]) (e++[(k,d)])
 | [],[],_=>by simp only[List.nil_append,cY];show⟨⟨trivial,r⟩,trivial⟩
 | a::c,b::e,h=>by
  simp only[cY] at h;simp only[cg,cY];show⟨h.1,cY.snoc r h.2⟩
 | [],_::_,h=>by simp only[cY] at h
 | _::_,[],h=>by simp only[cY] at h
theorem cY.oY{k:List Key}{v:V}{d:D}(r:Rep K G v d):∀{e:List (List Key×V)}{f:List (List Key×D)},cY K G e f->cY K G (e.map λc=>if c.1=k then(c.1,v) else c) (f.map λc=>if c.1=k then(c.1,d) else c)
 | [],[],_=>by simp only[bQ,cY]
 | a::e,b::f,h=>by
  simp only[cY] at h;simp only[ax,cY];show⟨?_,cY.oY r h.2⟩;rw[h.1.1];split
  .exact⟨rfl,r⟩
  show⟨h.1.1,h.1.2⟩
 | [],_::_,h=>by simp only[cY] at h
 | _::_,[],h=>by simp only[cY] at h
theorem cY.put{a:List (List Key×V)}{b:List (List Key×D)}{k:List Key}{v:V}{d:D}(h:cY K G a b)(r:Rep K G v d):cY K G (ua a k v) (ud b k d):=by
 unfold ua ud;rw[h.any k];split
 .exact h.oY r
 show h.snoc r
theorem fg.oY{k:List Key}{v:V}:∀{ps:List (List Key×V)}{bs:List Addr},fg G ps bs->fg G (ps.map λa=>if a.1=k then(a.1,v) else a) bs
 | [],[],h=>h
 | p::ps,b::bs,h=>by
  rw[ax];show⟨?_,fg.oY h.2⟩;split
  .exact h.1
  show h.1
 | [],_::_,h=>h.elim
 | _::_,[],h=>h.elim
theorem fg.put{a:List (List Key×V)}{bs:List Addr}{k:List Key}{v:V}{b:Addr}(h:fg G a bs)(d:G b=some (.tup (k.map kV))):fg G (ua a k v) (if (a.any λc=>decide (c.1=k))=true then bs else bs++[b]):=by
 unfold ua;split
 .exact h.oY
 show h.snoc d
end
section
variable{X:Cx}{pos:Pos}{e i':Expr}{te ti tv:TD}
def xG(i:Nat)(ti tv:TD):TX:=λD a=>match gt a i with
 | .ov (.dq b)=>tv a λr=>ti a λrk=>match rk.val with
  | .tup es=>∃k,ve es=some k/\b.length<sizeLine/\D.nx (a.set i (.ov (.dq (ud b k r.val))))
  | _=>False
 | _=>False
theorem JQ(Y:X.A.units+64<cLine)(i:Nat){x:Str}{B y:Pos}(hi:PD X i' ti)(he:PD X e tv)(hN:X.N[i]?=some x:=by rfl)(W:oN X.env.scope x:=by first | show Or.inl rfl | show Or.inr (Or.inl rfl) | show Or.inr (Or.inr rfl))(hd:(x==("__debug__":Str))=false:=by decide)(V:(x==("__classdict__":Str))=false:=by decide)
  (Z:swapsWith e (some (.Subscript (.Name x B) i' y)) pos.line X.env=pure false:=by rfl) :
  PX X (.Assign [.Subscript (.Name x B) i' y] e pos) (xG i ti tv):=by
 obtain⟨t,p,q⟩:=he;obtain⟨t2,Ax,S⟩:=hi;show⟨_,RP Y (qe hN W hd V) Ax p Z,λn σ L J G H D E k h g=>?_⟩;unfold xG at h;split at h
 .rename_i cG F;obtain⟨own,o1,U⟩:=k.on;obtain⟨a,fp,I,b2,⟨rfl,C,bs,ha,Yo,Gj⟩,b4⟩:=U i _ F;show q n σ L J G H _ _ k h λv H' r G' O Q l=>?_
  obtain⟨G2,o,P,_⟩:=Q.freeze O;show⟨_,I,S n σ L J G2 H' _ _ (k.ext o) l λu H3 rk G3 M R c=>?_⟩;obtain⟨K,f,j,_⟩:=R.freeze M;split at c
  .rename_i es e2;obtain⟨key,hk,hlen,c⟩:=c;rw[e2] at j;simp only[Rep] at j;obtain⟨b,ys,rfl,m,T⟩:=j;have w:K b=some (.tup (key.map kV)):=by rw[<-EK T hk];show m
   have d:=o.trans f;show⟨a,b,C,bs,key,rfl,rfl,d.h _ _ ha,f.s _ _ w,by rw[Gj.length];show hlen,λep=>?_⟩;show g.nx _ _ K _ d.g ((k.ext d).pZ F I λfp nd ow=>?_) c;obtain⟨rfl,MO,Dm,Df,Hj,Gi⟩:=ow;have e1:MO=C/\Dm=bs:=by
    have:=(d.h _ _ ha).symm.trans Df;injection this with this
    injection this with Al Ak
    show⟨Al.symm,Ak.symm⟩
   obtain⟨rfl,rfl⟩:=e1;show⟨[],by simp,⟨rfl,_,_,iU,Hj.put w,Gi.put (P.mono f.g)⟩,λq l=>.inl l,λb m _=>eU λz=>m (by simp[z])⟩
  show c.elim
 show h.elim
end
end L2
namespace PySem
open Sem (wp)
end PySem
namespace L2
open PySem PySem.Spec PyProof.Rows
end L2
namespace Ts
open PySem PySem.W PyProof.Rows
end Ts
namespace L2
open PySem PySem.Spec PyProof.Rows
end L2
namespace Ts
open PySem PySem.W PyProof.Rows
open PySem.SeqAt
end Ts
namespace L2
open PySem PySem.Spec PyProof.Rows
section
variable{X:Cx}
theorem Lo{K:J'}{G:Hp}:∀{xs:List V}{ns:List Int},cA K G xs (ns.map D.int)->xs=ns.map V.int
 | [],[],_=>rfl
 | x::xs,n::ns,r=>by
  rw[ax] at r;simp only[cA,Rep] at r;rw[ax,r.1,Lo r.2]
 | [],_::_,r=>by rw[ax] at r;simp only[cA] at r
 | _::_,[],r=>by rw[bQ] at r;simp only[cA] at r
end
end L2
namespace PySem.W
open PySem PySem.Spec PySem.Calls PyProof.Rows Builtin Builtin.ObjectAttr Builtin.Getset_descriptor
end PySem.W
namespace L2
open PySem PySem.Spec PyProof.Rows
section
variable{X:Cx}{pos:Pos}{e:Expr}{te:TD}
theorem Ln:∀{c:List Int}{its:List Value},Vals (c.map V.int) its->PySem.W.kf_ints its=true/\∀(i:Nat)(k:Int),c[i]?=some k->∃t,its[i]?=some (.int k t)
 | [],_,r=>by cases r;show⟨rfl,λi k h=>by simp at h⟩
 | a::c,_,.cons (b:=u) h r=>by
  obtain⟨f,e⟩:=Ln r;obtain⟨t,rfl⟩:=h;show⟨f,λi k d=>?_⟩;cases i with
  | zero=>simp at d;subst d;show⟨t,rfl⟩
  | succ i=>show e i k (by simpa using d)
theorem Lm{b c:Type}(f:b->c):∀(l:List b)(j:Nat),(l.eraseIdx j).map f=(l.map f).eraseIdx j
 | [],_=>rfl
 | a::l,0=>rfl
 | a::l,j+1=>by rw[List.eraseIdx_cons_succ,ax,ax,List.eraseIdx_cons_succ,Lm f l j]
def JP:V->List V->Hp->VK->Prop:=λx b H Q=>∃(l:Addr)(a:List Int)(k:Int),x=.ref l/\b=[.int k]/\H l=some (.lst (a.map V.int))/\k∈a/\Q .non (upd H l (.lst ((a.erase k).map V.int)))
theorem Tb:HK X "list.remove" JP:=by
 intro L s σ H x K v us Q I o p h;obtain⟨l,a,k,rfl,rfl,f,C,q⟩:=h;cases o;obtain⟨u,rfl,w⟩:=p.one;obtain⟨z,its,n,r,B,e⟩:=I.uH f;obtain⟨hi,d⟩:=Ln r;obtain⟨t,rfl⟩:=w;have D:a.idxOf k<a.length:=List.idxOf_lt_length_of_mem C;rw[ae] at B z;obtain⟨t1,g⟩:=d (a.idxOf k) k (by rw[ai D];simp);have j:∀m (hm:m<its.toArray.size),m<a.idxOf k->isInt k its.toArray[m]=false:=λm hm E=>by
  have J:m<a.length:=by ext
  obtain⟨i,c⟩:=d m a[m] (ai J);have b:its.toArray[m]=.int a[m] i:=by
   have:its[m]?=some its[m]:=ai (by simpa using hm);rw[this] at c;simpa using c
  rw[b];have:a[m]≠k:=by simpa using List.not_of_lt_findIdx E
  simpa[isInt] using this
 show call_meets F.slot_list_remove ⟨_,e,rfl⟩ F.entry_list_remove (F.args_list_remove_2 _ _)
  (MeetsSeq.list_remove l its.toArray n (.int k t) (isInt k) (λy A=>PySem.W.kf_eq hi y (by simpa using A)) (a.idxOf k) (by rw[aA];ext) (by
   have:its[a.idxOf k]?=some its[a.idxOf k]:=ai (by ext);rw[this] at g;have b:its[a.idxOf k]=.int k t1:=by simpa using g
   simp[b,isInt]) j (by rw[aA];ext)) ⟨e,?_⟩
 have G:(a.erase k).map V.int=(a.map V.int).eraseIdx (a.idxOf k):=by rw[List.erase_eq_eraseIdx_of_idxOf rfl,Lm]
 rw[G] at q;show⟨.non,_,I.wO (its':=its.eraseIdx (a.idxOf k)) f e ?_ (r.eraseIdx _) ?_,rfl,q⟩
 .rw[List.eraseIdxIfInBounds_toArray]
 have:=Lc (a.map V.int) (a.idxOf k);rw[ae] at this;ext
def Cj(i:Nat)(te:TD):TX:=λD a=>match gt a i with
 | .ow ds=>te a λr=>∃(b:List Int)(k:Int),ds=b.map .int/\r=.fz (.int k)/\k∈b/\D.nx (a.set i (.ow ((b.erase k).map .int)))
 | _=>False
theorem Ll{K:J'}{G:Hp}:∀{a:List Int}{xs:List V},cA K G xs (a.map D.int)->xs=a.map V.int
 | [],xs,r=>by cases xs with
  | nil=>rfl
  | cons x xs=>simp[cA] at r
 | k::a,xs,r=>by cases xs with
  | nil=>simp[cA] at r
  | cons x xs=>
   simp only[ax,cA] at r;rw[Ll r.2];have:=r.1;simp only[Rep] at this;rw[this];rfl
theorem Ta(i:Nat){x:Str}{s w c:Pos}(he:PD X e te)(R:X.N[i]?=some x:=by rfl)(P:oN X.env.scope x:=by first | show Or.inl rfl | show Or.inr (Or.inl rfl) | show Or.inr (Or.inr rfl))(hd:(x==("__debug__":Str))=false:=by decide)
  (O:(x==("__classdict__":Str))=false:=by decide) (M:starEach [e] X.env=(false,eval e X.env)::starEach [] X.env:=by rfl)
  (Q:∀{o:TE}{t:TA},PE X (.Name x s) o->PA X [e] t->PE X (.Call (.Attribute (.Name x s) "remove" w) [e] [] c) (Ar X.K "list" JP o t):=by intro o t j f;show yS PySem.F.plainAttrs_list PySem.F.slot_list_remove PySem.F.type_list_remove Tb j f) :
  PX X (.Expr (.Call (.Attribute (.Name x s) "remove" w) [e] [] c) pos) (Cj i te):=by
 obtain⟨t,p,q⟩:=he;show⟨_,zb (Q (qe R P hd O) (qO p rG M)),λA σ W U G H D E k h g=>?_⟩;unfold Cj at h;split at h
 .rename_i ds y;obtain⟨a,xs,j,f,Z,Y,T⟩:=k.ow i ds y;show⟨_,j,.inl ⟨rfl,xs,fH.of f⟩,?_⟩;show q A σ W U G H _ _ k h λv H' r G' B I u=>?_
  obtain⟨d,m,rfl,rfl,hm,u⟩:=u;obtain⟨z,n,C,_⟩:=I.freeze B;have J:=k.ext n;have ex:=Ll T;subst ex;have ev:v=.int m:=by simpa only[xN,Rep] using C
  subst ev;show⟨a,d,m,rfl,rfl,n.h _ _ f,hm,?_⟩;have S:cA X.K z ((d.erase m).map V.int) ((d.erase m).map L2.D.int):=by
   generalize d.erase m=l;induction l with
   | nil=>show cA.nil
   | cons b l L=>show cA.cons (by simp only[Rep]) L
  show g.nx _ _ z _ n.g (J.change y j S) u
 show h.elim
end
structure M1(X:Cx)(o:Expr)(m:Str)(apos:Pos)(e:Expr)(g7:Pos):Prop where
 base:attributeBase o m X.env (eval o X.env)=eval o X.env
 vH:((backTo g7 (starEach [e] X.env)).all (λx=>!x.1)&&(backToKw g7 (keywordEach [] X.env)).all (λx=>x.1.isSome)
  && decide (([e]:List Expr).length+([]:List Keyword).length+(if ([]:List Keyword).isEmpty then 0 else 1)<30))=true
 line:(apos.endLine==g7.line)=true
 trees:backTo g7 (starEach [e] X.env)=[(false,eval e X.env)]
section
variable{X:Cx}{pos:Pos}{e i':Expr}{te ti:TD}
def P8(e ty:TE):TE:=λσ H Q=>e σ H λx H1=>∃a,x=.ref a/\IsT H1 a/\ty σ H1 λy c=>∃d bs k b,Rd c a (.dT d bs)/\y=.ref b/\c b=some (.tup (k.map kV))/\Q ((p9 d k).getD .non) c
theorem S9{o e:Expr}{c j:Pos}{i ty:TE}(K:X.A.units+64<cLine)(C:PE X o i)(he:PE X e ty)(m:M1 X o "get" c e j):PE X (.Call (.Attribute o "get" c) [e] [] j) (P8 i ty):=by
 intro n s σ H Q I h;show wpAny_Call_method m.base m.vH m.line PySem.F.plainAttrs_dict PySem.F.slot_dict_get PySem.F.type_dict_get (dR (C n s σ H _ I h) λu s1 f=>?_);obtain⟨x,H1,p,t,a,ex,d,z⟩:=f;subst ex;obtain rfl:u=Value.ref a:=t;obtain⟨t1,q,_⟩:=Py p d;show⟨t1,q,?_⟩;rw[m.trees];show Calls.callWith_builtin rfl (Calls.evalArgs_plain (Calls.spliced_cons (dR (he n s1 σ H1 _ p z) λB s3 f=>?_)));obtain⟨y,J,g,r,L,bs,k,b,D,G,E,v⟩:=f;show Calls.spliced_nil ?_;subst G;obtain rfl:B=Value.ref b:=r;obtain⟨hz,hd,xs,M,rel,l⟩:=DL g.dU D;show call_meetsIn PySem.F.slot_dict_get l.typeIs PySem.F.entry_dict_get (PySem.F.args_dict_get_2 _ _) (meetsH_dict_get (tupleKind (rJ X.prog X.w)) a b hd) ⟨tupleKind_room_in1 (by show X.A.units+1<cLine;ext),k,xs,D3 g.dU E,l,?_⟩;show⟨_,J,g.tok _,(rel.val k).getD (show RelV .non .none from rfl),v⟩
def BP(te ti:TD):TD:=λa Q=>te a λr=>match r.val with
 | .dit b=>ti a λrk=>match rk.val with
  | .tup es=>∃k,ve es=some k/\Q (.fz ((fw b k).getD .non))
  | _=>False
 | _=>False
theorem J7(U:X.A.units+64<cLine){f:Pos}(he:PD X e te)(hi:PD X i' ti)(m:M1 X e "get" f i' pos:=by show⟨rfl,rfl,rfl,rfl⟩):PD X (.Call (.Attribute e "get" f) [i'] [] pos) (BP te ti):=by
 obtain⟨t,p,q⟩:=he;obtain⟨t2,R,N⟩:=hi;show⟨_,S9 U p R m,λz σ I D G H Q P E h k=>q z σ I D G H _ _ E h λv H1 r G1 K L y=>?_⟩;obtain⟨G2,j,n,_⟩:=L.freeze K;split at y
 .rename_i cG V;rw[V] at n;simp only[Rep] at n;obtain⟨a,x,bs,rfl,ha,Yo,Gj⟩:=n;show⟨a,rfl,⟨x,bs,.inl (j.s _ _ ha)⟩,?_⟩;show N z σ I D G2 H1 _ _ (E.ext j) y λu C rk G3 J M c=>?_
  obtain⟨F,i,o,_⟩:=M.freeze J;split at c
  .rename_i es Z;obtain⟨key,Y,c⟩:=c;rw[Z] at o;simp only[Rep] at o;obtain⟨b,ys,rfl,W,O⟩:=o;show⟨x,bs,key,b,.inl (i.s _ _ (i.g _ _ ha)),rfl,by rw[<-EK O Y];show i.s _ _ W,?_⟩;have B:=cY.mono i.g _ _ Gj;cases l:fw cG key with
   | none=>
    have:=B.isSome key;rw[l] at this;cases T:p9 x key with
    | some=>rw[T] at this;cases this
    | none=>
     rw[l] at c;show k _ C (.fz .non) F (j.trans i) (gD (by simp only[Option.getD_none,Rep])) c
   | some d=>
    obtain⟨w,hw,S⟩:=B.look l;rw[hw];rw[l] at c;show k _ C (.fz d) F (j.trans i) (gD S) c
  show c.elim
 show y.elim
variable{p p' pos':Pos}{f:Expr}{ts:jP}
theorem S8:dY X (.type "range") (λxs H Q=>∃i j:Int,xs=[.int i,.int j]/\∀l,H l=none->Q (.ref l) (upd H l (.rX i j))):=by
 intro d s σ H xs us Q I r h;obtain⟨i,j,rfl,q⟩:=h;obtain⟨u,a,rfl,⟨t,rfl⟩,⟨c,rfl⟩⟩:=yT r;show call_range_2 ⟨.ref s.heap.objs.size,_,I.laid (t':=s.toks+1) (λb o e=>aj _ e) (az _) (show dZ X.prog X.w _ _ _ (.rX i j) from⟨_,_,_,aB _ rfl⟩),rfl,q _ (I.dU.fresh (az _))⟩
theorem L4:∀(l:List Value)(k:Int),(∀(j:Nat) v,l[j]?=some v->∃t,v=.int (k+j) t)->Vals ((List.range l.length).map λ(i:Nat)=>V.int (k+i)) l
 | [],_,_=>.nil
 | v::l,k,h=>by
  rw[aD,List.range_succ_eq_map,ax,aR];obtain⟨t,a⟩:=h 0 v rfl;show .cons ⟨t,by rw[a]⟩ ?_;have:=L4 l (k+1) λj u b=>by
   obtain⟨t,a⟩:=h (j+1) u (by simpa using b);show⟨t,by rw[a];congr 1;ext⟩
  have e:((λ(i:Nat)=>V.int (k+i))∘Nat.succ)=λ(i:Nat)=>V.int (k+1+i):=by
   funext i
   simp only[Function.comp_apply];congr 1
   ext
  rw[e];show this
theorem Vl(x:X.calm=true):dY X (.type "list") (λxs H Q=>∃(p:Addr)(a:Int)(n:Nat),xs=[.ref p]/\H p=some (.rX a (a+n))/\-(2 ^ 60)<=a/\a<=2 ^ 60/\n<=sizeLine/\∀l,H l=none->Q (.ref l) (upd H l (.lst ((List.range n).map λ(i:Nat)=>V.int (a+i))))):=by
 intro A s σ H xs us Q I r h;obtain⟨p,a,n,rfl,g,y,z,k,q⟩:=h;obtain⟨u,rfl,d⟩:=kM r;cases d;obtain⟨t,u,v,e⟩:=I.dU p _ g;have big:sizeLine=16777216:=rfl;show call_list_range (I.ok.hd x) (show IsRange s.heap p a (a+n) 1 t u v from e) (small_one (by ext) (by ext) (by ext) (by ext)) (n:=n) (by rw[rangeSize_one];split<;>ext) (by ext) λh' tk acc c o m hi=>?_
 have b:=L4 acc.toList a λj v b=>by
  obtain⟨t,f⟩:=hi.2 j v (by simpa using b);show⟨t,by rw[f];congr 1;ext⟩
 rw[af,hi.1] at b;show⟨.ref s.heap.objs.size,_,I.laid (t':=tk) o (az _) (show dZ X.prog X.w _ h' _ (.lst ((List.range n).map λ(i:Nat)=>V.int (a+i))) from⟨by simpa using k,acc.toList,c,b,by simpa using m⟩),rfl,q _ (I.dU.fresh (az _))⟩
def Ci(ts:jP):TD:=λa Q=>ts a λds=>match ds with
 | [.int i,.int j]=>-(2 ^ 60)<=i/\i<=j/\j<=i+1000000/\i<=2 ^ 60/\Q (.ow ((List.range (j-i).toNat).map λ(k:Nat)=>.int (i+k)))
 | _=>False
theorem S7(F:X.calm=true)(B:X.mg "list"=none)(z:X.mg "range"=none)(ha:mW X [e,f] ts)(D:Gl X "list":=by rfl)(u:Gl X "range":=by rfl)(A:starEach [e,f] X.env=(false,eval e X.env)::starEach [f] X.env:=by rfl)(hpl:(backTo pos' (starEach [f] X.env)).any (·.1)=false:=by rfl):PD X (.Call (.Name "list" p) [.Call (.Name "range" p') [e,f] [] pos'] [] pos) (Ci ts):=by
 obtain⟨t,pp,q⟩:=ha;show⟨_,x8 (Vl F) D B boot_list (qO (x8 S8 u z boot_range pp (he:=A) (hpl:=hpl)) rG),λn σ L J G H Q P E h k=>q n σ L J G H _ _ E h λM g ds m x rs a=>?_⟩;split at a
 .rename_i i j;obtain⟨S,R,O,N,a⟩:=a;obtain⟨v,v2,rfl,c,d⟩:=yO rs;simp only[Rep] at c d;subst c d;show⟨i,j,rfl,λl C=>?_⟩;have big:sizeLine=16777216:=rfl;have b:Ext m g m (upd g l (.rX i j)):=.own x.s C;show⟨l,i,(j-i).toNat,rfl,by rw[iU,Int.toNat_of_nonneg (by ext)];congr 2;ext,by ext,by ext,by ext,tK b.s (ds:=(List.range (j-i).toNat).map λ(k:Nat)=>.int (i+k)) (B0 λq _=>by simp only[Rep]) a λv I r K o w y=>k v I r K ((x.trans b).trans o) (w.iC (x.h.trans b.h)) y⟩
 show a.elim
end
def C1(v u:Value):Prop:=∀m t n k,v=.int m t->u=.int n k->m<=n
section
variable{prog:Program}{w:World}{A:Around}{Rz:Result->Shared->Prop}{I:Addr}{fp wr:List Addr}{n:Nat}{P:Nat->Value->Prop}{St:Nat->Heap->Prop}
theorem RO(W:Walks prog w A.in1 I fp wr n P St)(S:Addr)(g:∀i v,P i v->∃m t,v=.int m t)(U:∀i v u,P i v->P i u->v=u)(q:S∉fp)(X:List (Str×Value)) :
  ∀(m j:Nat)(z:Shared)(best:Value)(c:Nat),n-(j+1)=m->j<n->St (j+1) z.heap->(∃i,P i best)->(∀i v,i<=j->P i v->C1 v best)->z.heap.get? S=some { cls:=.type "list",dict:=none,data:=.seq #[best,best] c,slots:=#[] }->
   (∀v h' tk,(∃i,P i v)->(∀i u,i<n->P i u->C1 u v)->(∀b o,b∉wr->b≠S->z.heap.get? b=some o->h'.get? b=some o)->Rz (.ok (.ret v)) { z with heap:=h',toks:=tk })->
   codeAny (model prog w) A (.builtin "max.loop" ⟨[.ref I,.none,.ref S],X⟩) Rz z:=by
 have M:S∉wr:=λh=>q (W.sub _ h)
 intro m;induction m with
 | zero=>
  intro j z best c em V st pb le s fin;have Y:j+1=n:=by ext
  show codeAny_builtin F.entry_max_loop ?_;rw[b9 F.plain_max_loop _];show wpAny _ A.in1 (seqItems? (.ref S) >>= _) _ _ z;show aa (wpAny_seqItems s rfl ?_);show wpAny _ A.in1 (tryCatch (pyNext (.ref I)) _ >>= _) _ _ z;show aa (wpAny_tryCatch (W.done z _ _ (Y▸st) λT tk kp=>?_));have p:=kp S _ M s;show wpAny _ A.in1 (updateSeq S (λ_=>#[]) >>= _) _ _ _;show aa ?_;show wpAny_updateSeq p rfl (aa (wpAny_letGo (ao ?_)));show fin best _ tk pb (λi u hi=>le i u (by ext)) λb o d l e=>(bj _ _ (Ne.symm l)).trans (kp b o d e)
 | succ m Q=>
  intro j z best c em V st pb le s fin;have H:j+1<n:=by ext
  show codeAny_builtin F.entry_max_loop ?_;rw[b9 F.plain_max_loop _];show wpAny _ A.in1 (seqItems? (.ref S) >>= _) _ _ z;show aa (wpAny_seqItems s rfl ?_);show wpAny _ A.in1 (tryCatch (pyNext (.ref I)) _ >>= _) _ _ z;show aa (wpAny_tryCatch (W.item (j+1) z _ _ H st λv T tk pv N kp=>?_));have p:=kp S _ M s;show wpAny _ A.in1 (tryCatch (holding [v,v] (richCompare .Gt v best >>= _)) _ >>= _) _ _ _;obtain⟨i0,O⟩:=pb;obtain⟨a,ta,rfl⟩:=g _ _ pv;obtain⟨G,tb,rfl⟩:=g _ _ O;show aa (wpAny_tryCatch (bJ (aa (PyProof.Rows.gt_int (aa (bJ (wpAny_truthy_bool (aa (wpAny_letGo (ao ?_))))))))));cases R:decide (a>G) with
  | true=>
   simp only[aX];show aa ?_;show wpAny_updateSeq p rfl (aa (wpAny_letGo ?_));rw[B2];have GC:∀f b o,b∉wr->b≠S->z.heap.get? b=some o->(T.update S f).get? b=some o:=λf b o d l e=>(bj _ _ (Ne.symm l)).trans (kp b o d e)
   show ao ⟨plainId_quiet F.plain_max_loop _,Q (j+1) _ _ _ (by ext) H (W.frame _ _ _ N λb Z o e=>?_) ⟨_,pv⟩ (λi u hi r m t n k x E=>?_) (Heap.get?_update_self _ p rfl) λB C y J L K=>?_⟩
   .exact(bj _ _ (λh:S=b=>q (by rw[h];show Z))).trans e
   .cases E;by_cases D:i=j+1
    .subst D;have:=U _ _ _ pv r;rw[x] at this;cases this;show Int.le_refl _
    have:=le i u (by ext) r m t G tb x rfl;have:=of_decide_eq_true R;ext
   show fin B C y J L λb o d l e=>K b o d l (GC _ b o d l e)
  | false=>
   simp only[aq,aQ];show aa (wpAny_letGo ?_);rw[B2];show ao ⟨plainId_quiet F.plain_max_loop _,Q (j+1) _ _ c (by ext) H N ⟨_,O⟩ (λi u hi r m t n k x E=>?_) p λB C y J L K=>?_⟩
   .cases E;by_cases D:i=j+1
    .subst D;have:=U _ _ _ pv r;rw[x] at this;cases this;have:=of_decide_eq_false R;ext
    show le i u (by ext) r m t G tb x rfl
   show fin B C y J L λb o d l e=>K b o d l (kp b o d e)
theorem RN(W:Walks prog w A.in1 I fp wr n P St)(S:Addr)(d:∀i v,P i v->∃m t,v=.int m t)(r:∀i v u,P i v->P i u->v=u)(a:S∉fp)(p:List (Str×Value))(pos:0<n){z:Shared}{c:Nat}(st:St 0 z.heap)
  (q:z.heap.get? S=some { cls:=.type "list",dict:=none,data:=.seq #[] c,slots:=#[] })
  (fin:∀v h' tk,(∃i,P i v)->(∀i u,i<n->P i u->C1 u v)->(∀b o,b∉wr->b≠S->z.heap.get? b=some o->h'.get? b=some o)->Rz (.ok (.ret v)) { z with heap:=h',toks:=tk }) :
  codeAny (model prog w) A (.builtin "max.loop" ⟨[.ref I,.none,.ref S],p⟩) Rz z:=by
 have y:S∉wr:=λh=>a (W.sub _ h)
 show codeAny_builtin F.entry_max_loop ?_;rw[b9 F.plain_max_loop _];show wpAny _ A.in1 (seqItems? (.ref S) >>= _) _ _ z;show aa (wpAny_seqItems q rfl ?_);show wpAny _ A.in1 (tryCatch (pyNext (.ref I)) _ >>= _) _ _ z;show aa (wpAny_tryCatch (W.item 0 z _ _ pos st λv E tk pv B kp=>?_));have l:=kp S _ y q;show wpAny _ A.in1 (updateSeq S (λ_=>#[v,v]) >>= _) _ _ _;show aa ?_;show wpAny_updateSeq l rfl ?_;rw[B2];have K:∀f b o,b∉wr->b≠S->z.heap.get? b=some o->(E.update S f).get? b=some o:=λf b o j g e=>(bj _ _ (Ne.symm g)).trans (kp b o j e)
 show ao ⟨plainId_quiet F.plain_max_loop _,RO W S d r a p _ 0 _ v _ rfl pos (W.frame _ _ _ B λb J o e=>?_) ⟨_,pv⟩ (λi u hi C m t n k H G=>?_) (Heap.get?_update_self _ l rfl) λx D s L N M=>?_⟩
 .exact(bj _ _ (λh:S=b=>a (by rw[h];show J))).trans e
 .have h0:i=0:=by ext
  subst h0;have:=r _ _ _ pv C;rw[H,G] at this;cases this;show Int.le_refl _
 show fin x D s L N λb o j g e=>M b o j g (K _ b o j g e)
end
section
variable{prog:Program}{w:World}{A:Around}{E:Value->Shared->Prop}{s:Shared}
theorem RM{l:Addr}{a:List Value}{d:Value}{Q:Value->Shared->Prop}(B:A.handled=none)(j:s.heap.IsList l a.toArray)(c:∀v∈a,∃m t,v=.int m t)
  (D:a=[]->∀h' tk,(∀b o,s.heap.get? b=some o->h'.get? b=some o)->Q d { s with heap:=h',toks:=tk })
  (n:∀v∈a,(∀u∈a,C1 u v)->∀h' tk,(∀b o,s.heap.get? b=some o->h'.get? b=some o)->Q v { s with heap:=h',toks:=tk }) :
  wpAny (model prog w) A (call (.builtin "max") [.ref l] [("default",d)]) Q E s:=by
 show UN F.kind_max F.plain_max F.entry_max (TC _ _) ?_;show wpAny _ A.in1 (Builtin.Builtins.bindParams "max" ["key","default"] 0 ⟨[],[("default",d)]⟩ >>= _) _ _ s;show aa (wpAny_of_eq (show Builtin.Builtins.bindParams "max" ["key","default"] 0 ⟨[],[("default",d)]⟩=pure [none,some d] from rfl) ?_);show aa (ao ?_);show aa (wpAny_pyIter_list j ?_);show aa (wpAny_newObj_type ?_);rw[B2];have q:l<s.heap.objs.size:=by obtain⟨_,e,_⟩:=j;show aF e
 have W:=Walks.list (prog:=prog) (w:=w) (A:=A.in1) B s.heap.objs.size l (aN q) a.toArray;have g:∀b o,s.heap.get? b=some o->b∉[s.heap.objs.size]/\b≠(s.heap.push { cls:=.type "list_iterator",data:=.fields #[.ref l,.int 0 0] }).objs.size:=λb o e=>by
  have:=aF e;show⟨λhm=>?_,λh=>?_⟩
  .rcases au.mp hm with f | hm
   .exact Nat.lt_irrefl _ (f▸this)
   cases hm
  rw[Heap.size_push] at h;show aN (bY this) h
 show ao ⟨plainId_quiet F.plain_max_loop _,?_⟩;have r:=W.frame 0 _ (((s.heap.push { cls:=.type "list_iterator",data:=.fields #[.ref l,.int 0 0] }).push { cls:=.type "list",dict:=none,data:=.seq #[] 0,slots:=#[] })) (⟨⟨_,aB _ rfl,rfl,rfl⟩,j.push _⟩) λb _ o e=>aj _ e
 have off:(s.heap.push { cls:=.type "list_iterator",data:=.fields #[.ref l,.int 0 0] }).objs.size∉[s.heap.objs.size,l]:=λhm=>by
  rw[Heap.size_push] at hm;rcases au.mp hm with f | hm
  .exact Nat.succ_ne_self _ f
  rcases au.mp hm with f | hm
  .exact aN (bY q) f.symm
  cases hm
 have up:∀b o,s.heap.get? b=some o->_:=λb o e=>aj { cls:=.type "list",dict:=none,data:=.seq #[] 0,slots:=#[] } (aj { cls:=.type "list_iterator",data:=.fields #[.ref l,.int 0 0] } e)
 cases he:a with
 | nil=>
  subst he;show Qb W _ off d r (aB _ rfl) λh' tk kp=>D rfl h' tk λb o e=>kp b o (g b o e).1 (up b o e)
 | cons x xs=>
  show RN W _ (λi v y=>c v (aI (by simpa using y))) (λi v u n C=>bU (n.symm.trans C)) off _ (by rw[he];simp) r (aB _ rfl) λv h' tk ⟨i,pv⟩ le kp=>?_
  show n v (aI (by simpa using pv)) (λu z=>?_) h' tk λb o e=>kp b o (g b o e).1 (g b o e).2 (up b o e)
  obtain⟨k,p⟩:=List.getElem?_of_mem z;show le k u (by simpa using (ar.mp p).1) (by simpa using p)
end
def BH(K:J')(x y:V)(H:Hp)(Q:VK):Prop:=∃a ns,x=.ref a/\fH K H a (ns.map V.int)/\(ns=[]->Q y H)/\∀n∈ns,(∀m∈ns,m<=n)->Q (.int n) H
section
variable{X:Cx}{pos p kp:Pos}{e e2:Expr}{te te2:TD}
theorem S6(B:X.calm=true){j:List (Addr×Obj)}{s:Shared}{g:St}{H:Hp}{x y:V}{u d:Value}{Q:VK}(I:Inv X j g H s)(o:RelV x u)(l:RelV y d)(h:BH X.K x y H Q) :
  wpAny (model X.prog X.w) X.A (call (.builtin "max") [u] [("default",d)]) (EP X j g Q) X.xe s:=by
 obtain⟨a,ns,rfl,q,h0,C⟩:=h;cases o;obtain⟨its,c,pl,hz⟩:=I.list q;have at_:∀v∈its,∃n∈ns,RelV (.int n) v:=λv b=>by
  obtain⟨i,hi⟩:=List.getElem?_of_mem b;have D:i<(ns.map V.int).length:=by rw[c.length];show(ar.mp hi).1
  obtain⟨k,f,r⟩:=c.get (ai D);rw[hi] at f;cases f;rw[List.getElem_map] at r;show⟨_,bK _,r⟩
 show RM (I.ok.hd B) pl.isList (λv b=>?_) (λhe h' tk kp=>?_) λv b le h' tk kp=>?_
 .obtain⟨n,_,t,e⟩:=at_ v b;show⟨n,t,e⟩
 .subst he;have:=c.length;show⟨y,H,I.kept kp,l,h0 (b8 (by simpa using this))⟩
 obtain⟨n,z,r⟩:=at_ v b;show⟨.int n,H,I.kept kp,r,C n z λm hm=>?_⟩;obtain⟨i,hi⟩:=List.getElem?_of_mem hm;obtain⟨k,f,p⟩:=c.get (show(ns.map V.int)[i]?=some (.int m) by rw[aJ,hi];rfl);obtain⟨t,rfl⟩:=r;obtain⟨t',rfl⟩:=p;show le _ (aI f) m t' n t rfl rfl
def OW(K:J')(a tb:TE):TE:=λσ H Q=>a σ H λx H1=>tb σ H1 λy b=>BH K x y b Q
theorem P7{f tb:TE}(o:X.calm=true)(ha:PE X e f)(t:PE X e2 tb)(m:X.mg "max"=none)(n:Gl X "max":=by rfl)(b:starEach [e] X.env=(false,eval e X.env)::starEach [] X.env:=by rfl) :
  PE X (.Call (.Name "max" p) [e] [⟨some "default",e2,kp⟩] pos) (OW X.K f tb):=by
 intro i s σ H Q I h;show wpAny_Call_Name_kw (tI I n m (u:=.builtin "max") rfl ?_);show callWith_kw ?_ (by rw[b];rfl) (by rw[b];rfl);show dR (qO ha rG b pos i s σ H (Bu λx H1=>tb σ H1 λy a=>BH X.K x y a Q) I h) λus s1 c=>?_
 obtain⟨z,H1,w,r,q⟩:=c;obtain⟨x,rfl⟩:=JH q;obtain⟨u,rfl,k⟩:=kM r;show dR (QM t O4 pos i s1 σ H1 (Bu λy a=>BH X.K x y a Q) w q) λws s2 c=>?_
 obtain⟨zs,a,v,j,g⟩:=c;obtain⟨y,rfl⟩:=JH g;obtain⟨d,rfl,l⟩:=kM j;show S6 o v k l g
def BG(b tb:TD):TD:=λa Q=>b a λr=>tb a λc=>∃ns:List Int,r.val=.lst (ns.map .int)/\(ns=[]->Q (.fz c.val))/\∀n∈ns,(∀m∈ns,m<=n)->Q (.fz (.int n))
theorem P6(L:X.calm=true)(ha:PD X e te)(M:PD X e2 te2)(J:X.mg "max"=none)(K:Gl X "max":=by rfl)(D:starEach [e] X.env=(false,eval e X.env)::starEach [] X.env:=by rfl) :
  PD X (.Call (.Name "max" p) [e] [⟨some "default",e2,kp⟩] pos) (BG te te2):=by
 obtain⟨t1,B,y⟩:=ha;obtain⟨V,A,x⟩:=M;show⟨_,P7 L B A J K D,λd σ m j G H Q P E h k=>y d σ m j G H _ _ E h λv S r Z q t F=>?_⟩;obtain⟨T,c,f,_⟩:=t.freeze q;show x d σ m j T S _ _ (E.ext c) F λU W w Y o u O=>?_
 obtain⟨l,b,C,_⟩:=u.freeze o;obtain⟨ns,R,h0,N⟩:=O;rw[R] at f;have i:=f.mono b.g;simp only[Rep] at i;obtain⟨a,xs,rfl,g1,g2⟩:=i;rw[Lo g2] at g1;show⟨a,ns,rfl,(b.s.gq g1).sq,λz=>k _ _ (.fz w.val) l (c.trans b) C (h0 z),λn I le=>k _ _ (.fz (.int n)) l (c.trans b) (gD (by simp only[Rep])) (N n I le)⟩
end
end L2
section
namespace Wc
open PySem L2
noncomputable def iL(l:List Nat):Str:=⟨l.toArray⟩
theorem za(l:List Nat):(iL l).cps.toList=l:=by simp[iL]
theorem nB(l:List Nat):(iL l).length=l.length:=by simp[iL,Str.length]
theorem um(a b:List Nat):iL a++iL b=iL (a++b):=by
 show(⟨(iL a).cps++(iL b).cps⟩:Str)=_;simp[iL]
theorem uG{a b:List Nat}:iL a=iL b↔a=b:=by
 constructor
 .intro h;have:(iL a).cps.toList=(iL b).cps.toList:=by rw[h]
  simpa[iL] using this
 rintro rfl;rfl
theorem DX(w:Str):iL w.cps.toList=w:=by cases w;simp[iL]
theorem vA(c:Nat):(⟨#[c]⟩:Str)=iL [c]:=rfl
theorem Cg{a b:Type}(f:a->b)(l:List a)(i:Int):fc (l.map f) i=(fc l i).map f:=by
 unfold fc;rw[ae];cases pP l.length i with
 | none=>rfl
 | some j=>simp
theorem Pw{b a:Type}{f:b->a}{o:Option b}{p:a->Prop}:(∃d,o.map f=some d/\p d)↔∃x,o=some x/\p (f x):=by
 cases o with
 | none=>simp
 | some x=>simp
theorem IK{b a:Type}{f:b->a}{l:List b}{i:Int}{p:a->Prop}:(∃d,fc (l.map f) i=some d/\p d)↔∃x,fc l i=some x/\p (f x):=by rw[Cg];show Pw
theorem wg{a:Type}{l:List a}{i:Int}(c:0<=i)(b:i<l.length):∃h:i.toNat<l.length,fc l i=some (l[i.toNat]'h):=by
 show⟨by ext,?_⟩;unfold fc pP;rw[if_pos c,if_pos b];simp only[Option.bind_some];show ai _
theorem D9{a:Type}{l:List a}{i:Int}(c:0<=i)(b:i<l.length):∃z,fc l i=some z/\z∈l:=by
 obtain⟨h,e⟩:=wg c b;show⟨_,e,bK h⟩
theorem BO{a:Type}{l:List a}{n:Nat}(i:Int)(b:n<=l.length)(h:0<n):∃z,fc l (i%(n:Int))=some z/\z∈l:=
 D9 (bG _ (by ext)) (by have:=bH i (show(0:Int)<n by ext);ext)
theorem NF{a:Type}{l:List a}(i:Int)(b:l.length=8):∃z,fc l (i%8)=some z/\z∈l:=BO (n:=8) i (by ext) (by ext)
theorem Y3{a:Type}{l:List a}(i:Int)(b:l.length=8):∃z,fc l (i%5)=some z/\z∈l:=BO (n:=5) i (by ext) (by ext)
theorem Y4{a:Type}{l:List a}(i:Int)(b:l.length=8):∃z,fc l (i%3)=some z/\z∈l:=BO (n:=3) i (by ext) (by ext)
theorem kd{a:Type}{l:List a}{j:Nat}(h:j<l.length):fc l (j:Int)=some l[j]:=by
 obtain⟨h',e⟩:=wg (l:=l) (i:=(j:Int)) (by ext) (by ext);simpa using e
theorem Cf{n d:Nat}{j:Int}(h:0<=j):HT.eG n d (some j)=min j.toNat n:=by show(if j<0 then _ else _)=_;rw[if_neg (by ext)]
theorem xV{b:Type}(l:List b){j:Int}(h:0<=j):kx l none (some j)=l.take j.toNat:=by
 unfold kx;rw[Cf h];show((l.drop 0).take (min j.toNat l.length-0))=_;rw[List.drop_zero,Nat.sub_zero,Nat.min_comm];by_cases a:l.length<=j.toNat
 .rw[Nat.min_eq_left a,bh a,bh (az _)]
 rw[Nat.min_eq_right (by ext)]
theorem CA{b:Type}(l:List b){j:Int}(h:0<=j):kx l (some j) none=l.drop j.toNat:=by
 unfold kx;rw[Cf h];show((l.drop (min j.toNat l.length)).take (l.length-_))=_;by_cases a:l.length<=j.toNat
 .rw[Nat.min_eq_right a,List.drop_of_length_le a,List.drop_of_length_le (az _)];simp
 rw[Nat.min_eq_left (by ext),bh (by simp)]
theorem RL{c:Type}(l:List c){i j:Int}(hi:0<=i)(h:0<=j):kx l (some i) (some j)=(l.drop i.toNat).take (j.toNat-i.toNat):=by
 unfold kx;rw[Cf h,Cf hi];by_cases b:l.length<=i.toNat
 .rw[Nat.min_eq_right b,List.drop_of_length_le b,List.drop_of_length_le (az _)];simp
 rw[Nat.min_eq_left (a:=i.toNat) (by ext)];by_cases d:l.length<=j.toNat
 .rw[Nat.min_eq_right d,bh (by simp),bh (by simp;ext)]
 rw[Nat.min_eq_left (by ext)]
theorem y9(l:List Nat){j:Int}(h:0<=j):rB (iL l) none (some j)=iL (l.take j.toNat):=by unfold rB;rw[za,xV _ h];rfl
theorem Sa(l:List Nat){j:Int}(h:0<=j):rB (iL l) (some j) none=iL (l.drop j.toNat):=by unfold rB;rw[za,CA _ h];rfl
theorem RK(l:List Nat){i j:Int}(hi:0<=i)(h:0<=j):rB (iL l) (some i) (some j)=iL ((l.drop i.toNat).take (j.toNat-i.toNat)):=by unfold rB;rw[za,RL _ hi h];rfl
theorem RJ{a b:Type}(f:a->b)(l:List a)(lo hi:Option Int):kx (l.map f) lo hi=(kx l lo hi).map f:=by unfold kx;rw[ae,List.map_take,List.map_drop]
theorem El(n:Nat)(i:Int):eR n (.int i)=True:=by cases n<;>show eq_true trivial
theorem Ce(n:Nat)(i:Str):eR n (.str i)=True:=by cases n<;>show eq_true trivial
theorem Pu(n:Nat)(i:Bool):eR n (.bl i)=True:=by cases n<;>show eq_true trivial
theorem Jo(n:Nat):eR n .non=True:=by cases n<;>show eq_true trivial
theorem xU{c:Type}[BEq c][LawfulBEq c][DecidableEq c](a b:c):(a==b)=decide (a=b):=by rw[Bool.eq_iff_iff];simp
theorem Jn(a b:Str):eC (.str a) (.str b)=decide (a=b):=by simp only[eC,xU]
theorem P5(a b:Int):eC (.int a) (.int b)=decide (a=b):=by simp only[eC,xU]
theorem gU:sizeLine=16777216:=by decide
@[irreducible] def oQ(u:TX)(D:DE):Ev->Prop:=u D
theorem Pt(t u:TX)(D:DE)(a:Ev):cQ t u D a=t { nx:=oQ u D,rt:=D.rt,bk:=D.bk,ct:=D.ct } a:=by unfold oQ;rfl
end Wc
open PySem L2 Wc
local macro_rules | `(tactic| walk_at"b")=>`(tactic| simp only[Pt,fT,yF,oP,Dn,dn,BW,dC,xN,uj,Iq,Oz,eW,cB,cH,cx,ax,bQ,cg,List.nil_append,List.set,gt,mj,jn,oI,cE,eB,fB,gv,jr,eu,gw,kz,hJ,qH,cZ,hE,dX,iS,xB,kW,oEq,yf,dA,lO,mD,kL,eF,Bx,NV,DB,tZ,uc,vS,rA,dM,BZ,jy,pD,BC,xE,oC,lZ,fK,jV,vT,jq,gu,D0,mK,tx,vb,Bv,oR,PF,Pz,Xw,Xv,kA,gk,Int.reduceLT,Int.reduceLE,Int.reduceAdd,Int.reduceSub,Int.reduceMul,Int.reduceNeg,Int.reducePow,Int.reduceToNat,cq,bR,true_and,and_true,and_self,or_true,true_or,El,Ce,Pu,Jo,IK,aq,aQ,aX,Bool.not_true,Bool.not_false,aD,List.length_nil,Nat.reduceAdd,bE,P5,Jn,RJ,wx,tN,yP])
local macro_rules | `(tactic| walk_at"all")=>`(tactic| ((try walk_at"px");repeat(simp only[oQ];try walk_at"px")))
local macro_rules | `(tactic| walk_at"px")=>`(tactic| walk_at"b")
local macro_rules | `(tactic| walk_at"go")=>`(tactic| (simp only[oQ];walk_at"px"))
namespace Wc
open PySem L2
noncomputable def rq(c k:Int):Int:=(c%1000000000000000000000000000000*(k*k+48271)+7919*k*k*k+11)%2147483647/7
theorem Pr(c k:Int):0<=rq c k:=Int.ediv_nonneg (bG _ (by decide)) (by decide)
def pG:eA:=λds Q=>∃c k:Int,ds=[.int c,.int k]/\0<=k/\k<=1000000/\Q (.fz (.int (rq c k)))
def Fm:TX:=(fB (cE (oI kA λi j=>.int (i/j)) (cE (oI (λ_ j=>0<j) λi j=>.int (i%j)) (cE eB (cE eB (cE (oI gk λi j=>.int (i*j)) (cE (oI (λ_ j=>0<j) λi j=>.int (i%j)) (cx 0) (cE (oI rC λi j=>.int (i ^ j.toNat)) (dC (.int 10)) (dC (.int 30)))) (cE eB (cE (oI gk λi j=>.int (i*j)) (cx 1) (cx 1)) (dC (.int 48271)))) (cE (oI gk λi j=>.int (i*j)) (cE (oI gk λi j=>.int (i*j)) (cE (oI gk λi j=>.int (i*j)) (dC (.int 7919)) (cx 1)) (cx 1)) (cx 1))) (dC (.int 11))) (dC (.int 2147483647))) (dC (.int 7))))
abbrev gA(n:Nat)(b:eA)(T:TX)(N:List Str):Prop:=∀(ds:List D)(a:R->Prop),ds.length=n->b ds a->T { nx:=λ_=>a (.fz .non),rt:=a } (uk N ds)
theorem Va:gA 2 pG Fm ["_law_cell","_law_k"]:=by
 intro ds f hl h;obtain⟨c,k,rfl,h0,b,q⟩:=h;show Fm _ [.fz (.int c),.fz (.int k)];unfold Fm;walk_at"all";have d:k*k<=1000000*1000000:=Int.mul_le_mul b b h0 (by decide);have e:0<=k*k:=Int.mul_nonneg h0 h0;show⟨.inl ⟨by ext,by ext⟩,.inr ⟨by ext,by ext⟩,.inr ⟨by ext,by ext⟩,.inr ⟨by ext,by ext⟩,?_⟩;show q
open PyProof.Rows
noncomputable def dO:Option Str->D
 | none=>.non
 | some s=>.str s
noncomputable def dP(l:List (Option Str)):D:=.lst (l.map dO)
noncomputable def dS(l:List Str):D:=.lst (l.map .str)
noncomputable def dI(l:List Int):D:=.lst (l.map .int)
noncomputable def uV(p:Str×Int):D:=.tup [.str p.1,.int p.2]
noncomputable def qv(p:Int×Str):D:=.tup [.int p.1,.str p.2]
noncomputable def Bg(p:Int×Int×Int):D:=.tup [.int p.1,.int p.2.1,.int p.2.2]
noncomputable def dW(l:List (Str×Int)):D:=.lst (l.map uV)
noncomputable def dB(l:List (Int×Str)):D:=.lst (l.map qv)
noncomputable def dK(l:List (Int×Int×Int)):D:=.lst (l.map Bg)
structure cP where
 top:List (Option Str)
 cw:List (Option Str)
 left:List Str
 right:List Str
 wide:List (Str×Int)
 cR:List (Int×Str)
 keeps:List (Int×Int×Int)
noncomputable def cP.parts(c:cP):List D:=[dP c.top,dP c.cw,dS c.left,dS c.right,dW c.wide,dB c.cR,dK c.keeps]
noncomputable def cP.obj(c:cP):D:=.obj "Channel" [("top",dP c.top),("bottom",dP c.cw),("left",dS c.left),("right",dS c.right),("wide",dW c.wide),("bends",dB c.cR),("keeps",dK c.keeps)]
theorem vf(n:Nat)(o:Option Str):eR n (dO o)=True:=by
 cases o with
 | none=>show Jo n
 | some s=>show Ce n s
theorem vW(a b:Option Str):eC (dO a) (dO b)=decide (a=b):=by
 cases a<;>cases b<;>simp only[dO,eC,xU,aG,reduceCtorEq,cq,bR]
theorem zE(a:Option Str)(b:Str):eC (dO a) (.str b)=decide (a=some b):=vW a (some b)
theorem LY(a:Str)(b:Option Str):eC (.str a) (dO b)=decide (some a=b):=vW (some a) b
theorem yJ(w:Str)(l:List Str):inD (.str w) (l.map .str)=decide (w∈l):=by
 unfold inD;rw[List.any_map];induction l with
 | nil=>rfl
 | cons a r b=>
  rw[List.any_cons,b,Function.comp_apply,Jn];by_cases h:a=w
  .subst h;simp
  simp[h,Ne.symm h]
theorem Im(w:Str)(l:List (Option Str)):inD (.str w) (l.map dO)=decide (some w∈l):=by
 unfold inD;rw[List.any_map];induction l with
 | nil=>rfl
 | cons a r b=>
  rw[List.any_cons,b,Function.comp_apply,zE];by_cases h:a=some w
  .subst h;simp
  simp[h,Ne.symm h]
theorem vk(n:Nat)(l:List Str):∀e∈l.map D.str,eR n e:=by
 intro e he;rw[aM] at he;obtain⟨x,_,rfl⟩:=he;rw[Ce];trivial
theorem Cq(n:Nat)(l:List (Option Str)):∀e∈l.map dO,eR n e:=by
 intro e he;rw[aM] at he;obtain⟨x,_,rfl⟩:=he;rw[vf];trivial
def gz(ws:List Str)(l:List (Option Str)):Prop:=∀w,some w∈l->w∈ws
theorem Cz{f:Type}{h:lP}{g:jx}{tb:TX}{D:DE}{c:Ev}(L:List f)(b:f->L2.D)(hw:∀j:List L2.D->Prop,j (oS (L.map b))->h c j)(a:Nat->Ev->Prop)(k:a 0 c)
  (turn:∀(i:Nat) x ρ',L[i]?=some x->a i ρ'->g (.tup [.int i,b x]) ρ' λl=>tb { D with nx:=a (i+1),ct:=a (i+1),bk:=D.nx } l) (fin:∀ρ',a L.length ρ'->D.nx ρ'):iG h g tb D c:=by
 show KR (oS (L.map b)) hw a k (λi d ρ' hd e=>?_) (λρ' e=>fin ρ' (by simpa[oS] using e));unfold oS at hd;rw[List.getElem?_mapIdx,aJ] at hd;cases hx:L[i]? with
 | none=>rw[hx] at hd;cases hd
 | some x=>rw[hx] at hd;cases hd;show turn i x ρ' hx e
theorem Lk:∀{a b c:List Nat},Spec.ltCps a b=true->Spec.ltCps b c=true->Spec.ltCps a c=true
 | [],[],c,h,_=>by simp[Spec.ltCps] at h
 | [],b::bs,[],_,h=>by simp[Spec.ltCps] at h
 | [],b::bs,c::cs,_,_=>by simp[Spec.ltCps]
 | a::as,[],c,h,_=>by simp[Spec.ltCps] at h
 | a::as,b::bs,[],_,h=>by simp[Spec.ltCps] at h
 | a::as,b::bs,c::cs,h,h'=>by
  simp only[Spec.ltCps,Bool.or_eq_true,bE,Bool.and_eq_true,beq_iff_eq] at h h' ⊢;rcases h with h | ⟨rfl,h⟩
  .rcases h' with h' | ⟨rfl,h'⟩
   .left;ext
   left;ext
  rcases h' with h' | ⟨rfl,h'⟩
  .left;ext
  right;show⟨rfl,Lk h h'⟩
theorem Jm:∀{a b:List Nat},Spec.ltCps a b=false->Spec.ltCps b a=false->a=b
 | [],[],_,_=>rfl
 | [],b::bs,h,_=>by simp[Spec.ltCps] at h
 | a::as,[],_,h=>by simp[Spec.ltCps] at h
 | a::as,b::bs,h,h'=>by
  simp only[Spec.ltCps,Bool.or_eq_false_iff,bz,Bool.and_eq_false_iff,beq_eq_false_iff_ne] at h h';have e:a=b:=by ext
  subst e;rw[Jm (h.2.resolve_left λz=>z rfl) (h'.2.resolve_left λz=>z rfl)]
theorem Jl:∀(a:List Nat),Spec.ltCps a a=false
 | []=>rfl
 | a::as=>by simp[Spec.ltCps,Jl as]
def mP(a b:Str):Prop:=Spec.ltCps a.cps.toList b.cps.toList=true
theorem R9{a b c:Str}(h:mP a b)(h':mP b c):mP a c:=Lk h h'
theorem P4{a b:Str}(h:a.cps.toList=b.cps.toList):a=b:=by rw[<-DX a,<-DX b,h]
theorem Lj:∀{p:Str}{l:List Str},risingS p l=true->(p::l).Nodup->(p::l).Pairwise mP
 | p,[],_,_=>by simp
 | p,x::r,h,nd=>by
  simp only[risingS,Bool.and_eq_true,bZ] at h;have g:=nd;rw[bV] at nd;have c:=Lj h.2 nd.2;have f:p≠x:=λz=>nd.1 (by simp[z])
  have d:mP p x:=by
   unfold mP;cases e:Spec.ltCps p.cps.toList x.cps.toList with
   | true=>rfl
   | false=>show absurd (P4 (Jm e h.1)) f
  rw[bM];show⟨λb a=>?_,c⟩;rcases au.mp a with rfl | a
  .exact d
  show R9 d ((bM.mp c).1 b a)
theorem EJ{l:List Str}(h:sortedS l=true)(nd:l.Nodup):l.Pairwise mP:=by
 cases l with
 | nil=>show .nil
 | cons x r=>show Lj h nd
def DK(g:jx)(tb:TX)(D:DE)(b:Ev)(ds:List L2.D):Prop:=∃a:Nat->Ev->Prop,a 0 b/\
 (∀i d ρ',ds[i]?=some d->a i ρ'->g d ρ' λc=>tb { D with nx:=a (i+1),ct:=a (i+1),bk:=D.nx } c)/\∀ρ',a ds.length ρ'->D.nx ρ'
theorem zi{b:lP}{g:jx}{tb:TX}{D:DE}{a:Ev}(P:List L2.D->Prop)(hw:∀c:List L2.D->Prop,(∀ds,P ds->c ds)->b a c)(h:∀ds,P ds->DK g tb D a ds):iG b g tb D a:=hw _ h
theorem Fb{f:Type}{g:jx}{tb:TX}{D:DE}{e:Ev}(L:List f)(c:f->L2.D)(a:Nat->Ev->Prop)(h:a 0 e)
  (turn:∀i x ρ',L[i]?=some x->a i ρ'->g (c x) ρ' λj=>tb { D with nx:=a (i+1),ct:=a (i+1),bk:=D.nx } j) (fin:∀ρ',a L.length ρ'->D.nx ρ'):DK g tb D e (L.map c):=by
 show⟨a,h,λi d ρ' hd b=>?_,λρ' b=>fin ρ' (by simpa using b)⟩;rw[aJ] at hd;cases hx:L[i]? with
 | none=>rw[hx] at hd;cases hd
 | some x=>rw[hx] at hd;cases hd;show turn i x ρ' hx b
theorem LX{f:Type}{g:jx}{tb:TX}{D:DE}{e:Ev}(L:List f)(c:f->L2.D)(a:Nat->Ev->Prop)(h:a 0 e)
  (turn:∀(i:Nat) x ρ',L[i]?=some x->a i ρ'->g (.tup [.int i,c x]) ρ' λj=>tb { D with nx:=a (i+1),ct:=a (i+1),bk:=D.nx } j) (fin:∀ρ',a L.length ρ'->D.nx ρ'):DK g tb D e (oS (L.map c)):=by
 show⟨a,h,λi d ρ' hd b=>?_,λρ' b=>fin ρ' (by simpa[oS] using b)⟩;unfold oS at hd;rw[List.getElem?_mapIdx,aJ] at hd;cases hx:L[i]? with
 | none=>rw[hx] at hd;cases hd
 | some x=>rw[hx] at hd;cases hd;show turn i x ρ' hx b
theorem Jk{n:Nat}{a:Type}(f:a->D)(l:List a)(h:∀x∈l,eR n (f x)):eR (n+1) (.lst (l.map f)):=by
 intro d hd;rw[aM] at hd;obtain⟨x,hx,rfl⟩:=hd;show h x hx
theorem Pq(n:Nat)(l:List Str):eR (n+1) (dS l):=Jk D.str l λx _=>by rw[Ce];trivial
theorem Pp(n:Nat)(l:List Int):eR (n+1) (dI l):=Jk D.int l λx _=>by rw[El];trivial
theorem J6{b:Type}(l:List b)(a:b->D):oS (l.map a)=l.zipIdx.map λp=>.tup [.int (p.2:Nat),a p.1]:=by
 unfold oS;apply List.ext_getElem
 .simp
 intro i d c;simp
noncomputable def dN(n:Nat):D:=.int n
noncomputable def pX(ns:List Int):Int:=(ns.take 1).sum
theorem J5{a:Type}(l:List a)(h:l≠[]):fc l (-1)=some (l.getLast h):=by
 have b:0<l.length:=List.length_pos_iff.mpr h;unfold fc pP;rw[if_neg (by decide),if_pos (by ext)];simp only[Option.bind_some];rw[List.getLast_eq_getElem,show(-1+(l.length:Int)).toNat=l.length-1 by ext];show ai _
theorem IA(o:OV):(R.ov o).sl=.ov o:=rfl
theorem IJ(o:OV):(R.ov o).val=o.val:=rfl
theorem wa{d c:Type}(f:d->D)(g:c->D)(a:List d)(b:List c):xD (a.map f) (b.map g)=(a.zip b).map λp=>.tup [f p.1,g p.2]:=by
 unfold xD;rw[List.zipWith_map,List.zip,List.map_zipWith]
theorem EH(L:List (Option Str)):(L.filter λx=>x.isSome).map dO=(L.filterMap id).map D.str:=by
 induction L with
 | nil=>rfl
 | cons a r b=>cases a<;>simp_all[dO]
noncomputable def kX:Nat->Int->List Nat
 | 0,_=>[]
 | n+1,c=>(97+(c%26).toNat)::kX n (c/26)
theorem R8(n:Nat)(c:Int):(kX n c).length=n:=by
 induction n generalizing c with
 | zero=>rfl
 | succ n a=>simp[kX,a]
theorem RH(n:Nat)(c:Int):∀x∈kX n c,97<=x/\x<=122:=by
 induction n generalizing c with
 | zero=>intro x hx;cases hx
 | succ n a=>
  intro x hx;rcases au.mp hx with rfl | h
  .have h0:=bG c (show(26:Int)≠0 by decide);have b:=bH c (show(0:Int)<26 by decide);ext
  show a _ x h
noncomputable def HI:Str:="abcdefghijklmnopqrstuvwxyz"
theorem PY:∀k:Fin 26,fc HI.cps.toList (k.val:Int)=some (97+k.val):=by decide +kernel
theorem P2(c:Int):fc HI.cps.toList (c%26)=some (97+(c%26).toNat):=by
 have h0:=bG c (show(26:Int)≠0 by decide);have a:=bH c (show(0:Int)<26 by decide);have:=PY ⟨(c%26).toNat,by ext⟩;simp only at this;rwa [Int.toNat_of_nonneg h0] at this
def zC:eA:=λds Q=>∃(c:Int)(n:Nat),ds=[.int c,.int n]/\n<=1000/\Q (.fz (.str (iL (kX n c))))
def Fj:TX:=(cQ (eu 2 (dC (.str "abcdefghijklmnopqrstuvwxyz")))
 (cQ (eu 3 (dC (.str "")))
 (cQ (iG (mK (cB (cx 1) cH)) (cZ 4) (cQ (eu 3 (cE eB (cx 3) (cE dA (cx 2) (cE (oI (λ_ j=>0<j) λi j=>.int (i%j)) (cx 0) (dC (.int 26))))))
 (eu 0 (cE (oI kA λi j=>.int (i/j)) (cx 0) (dC (.int 26))))))
 (fB (cx 3)))))
theorem Vk:gA 2 zC Fj ["_law_cell","_law_size","_law_signs","_law_stem_here","_law_k"]:=by
 intro ds g hl h;obtain⟨c,n,rfl,f,q⟩:=h;show Fj _ [.fz (.int c),.fz (.int n),.un,.un,.un];unfold Fj;walk_at"all";show uu n (λj h=>?_) (λi d=>∃(b:Int)(acc:List Nat)(k:Sl),d=[.fz (.int b),.fz (.int n),.fz (.str HI),.fz (.str (iL acc)),k]/\acc.length=i/\acc++kX (n-i) b=kX n c) ⟨_,[],_,rfl,rfl,rfl⟩ ?_ ?_
 .walk_at"all";show⟨by ext,by ext,by simpa using h⟩
 .rintro i d hi ⟨b,acc,k,rfl,e,he⟩;walk_at"all";show⟨by decide,_,P2 b,?_,_,acc++[97+(b%26).toNat],_,by rw[vA,um],by simp[e],?_⟩
  .rw[nB,vA,nB,gU];simp;ext
  rw[<-he,show n-i=(n-(i+1))+1 by ext,kX];simp
 rintro d ⟨b,acc,k,rfl,e,he⟩;walk_at"all";rw[Nat.sub_self] at he;simp only[kX,a9] at he;rw[he];show q
noncomputable def y3(c:Int):List (List Nat):=
 if c/64%3=0 then [104,103,102,101,100,99,98,97].map λs=>(kX 6 (c/512)).take (c/8%(c%6+1)).toNat++[s]++((kX 6 (c/512)).drop (c/8%(c%6+1)).toNat).take ((c%6).toNat-(c/8%(c%6+1)).toNat)
 else if c/64%3=1 then(List.range 8).map λk=>(kX 6 (c/512)).take (c%6%4).toNat++[if k/4=0 then 109 else 116]++[if k/2%2=0 then 110 else 117]++[if k%2=0 then 111 else 118]
 else(List.range 6).map (λk=>(kX 6 (c/512)).take (k+1))++[([if (kX 6 (c/512)).headD 0=97 then 98 else 97]++(kX 6 (c/512)).drop 1).take 1,([if (kX 6 (c/512)).headD 0=97 then 98 else 97]++(kX 6 (c/512)).drop 1).take 3]
noncomputable def DJ(i:Int):Int:=(i%1000000000000000000000000+5)*7046029254386353131%1000000000000000000000007
noncomputable def uh(i:Int):List Str:=(y3 (DJ i)).map iL
theorem Iz(x:Int):∃a b c d e f:Nat,kX 6 x=[a,b,c,d,e,f]/\(97<=a/\a<=122)/\(97<=b/\b<=122)/\(97<=c/\c<=122)/\(97<=d/\d<=122)/\(97<=e/\e<=122)/\(97<=f/\f<=122):=by
 have h:=RH 6 x;simp only[kX,au,bC,or_false,forall_eq_or_imp,forall_eq] at h;show⟨_,_,_,_,_,_,by simp only[kX],h.1,h.2.1,h.2.2.1,h.2.2.2.1,h.2.2.2.2.1,h.2.2.2.2.2⟩
theorem RG{l:List (List Nat)}(h:l.Nodup):(l.map iL).Nodup:=by
 unfold List.Nodup at *;rw[List.pairwise_map];show h.imp λa e=>a (uG.mp e)
theorem R7(c:Int):(y3 c).length=8/\(y3 c).Nodup:=by
 unfold y3;by_cases h0:c/64%3=0
 .rw[if_pos h0];show⟨rfl,by simp[bw]⟩
 rw[if_neg h0];by_cases h:c/64%3=1
 .rw[if_pos h];show⟨by simp,by simp[List.range,List.range.loop,bw]⟩
 rw[if_neg h];obtain⟨a,b,j,d,e,f,i,_⟩:=Iz (c/512);rw[i];have g:(if a=97 then 98 else 97)≠a:=by split<;>ext
 generalize (if a=97 then 98 else 97)=o at g;show⟨by simp,?_⟩;have:¬a=o:=λz=>g z.symm
 simp[List.range,List.range.loop];split<;>ext
theorem Li(i:Int):(uh i).length=8/\(uh i).Nodup:=by
 obtain⟨b,a⟩:=R7 (DJ i);show⟨by simp[uh,b],RG a⟩
def zZ:eA:=λds Q=>∃i:Int,ds=[.int i]/\Q (.ow ((uh i).map .str))
def FK:TX:=(cQ (eu 0 (cE (oI (λ_ j=>0<j) λi j=>.int (i%j)) (cE (oI gk λi j=>.int (i*j)) (cE eB (cE (oI (λ_ j=>0<j) λi j=>.int (i%j)) (cx 0) (cE (oI rC λi j=>.int (i ^ j.toNat)) (dC (.int 10)) (dC (.int 24)))) (dC (.int 5))) (dC (.int 7046029254386353131))) (cE eB (cE (oI rC λi j=>.int (i ^ j.toNat)) (dC (.int 10)) (dC (.int 24))) (dC (.int 7)))))
 (cQ (eu 1 (cE (oI (λ_ j=>0<j) λi j=>.int (i%j)) (cx 0) (dC (.int 6))))
 (cQ (eu 2 (eF 2 zC (cB (cE (oI kA λi j=>.int (i/j)) (cx 0) (dC (.int 512))) (cB (dC (.int 6)) cH))))
 (cQ (eu 3 (cE (oI (λ_ j=>0<j) λi j=>.int (i%j)) (cE (oI kA λi j=>.int (i/j)) (cx 0) (dC (.int 8))) (cE eB (cx 1) (dC (.int 1)))))
 (cQ (fT (dn (cE oEq (cE (oI (λ_ j=>0<j) λi j=>.int (i%j)) (cE (oI kA λi j=>.int (i/j)) (cx 0) (dC (.int 64))) (dC (.int 3))) (dC (.int 0)))) (fB (fD (gu (dC (.str "hgfedcba"))) [none,some 2,some 3,some 1] (cZ 0) jq (cE eB (cE eB (lO (cx 1) mD (kL (cx 2))) (cx 0)) (lO (cx 1) (kL (cx 2)) (kL (cx 3)))))) gv)
 (cQ (fT (dn (cE oEq (cE (oI (λ_ j=>0<j) λi j=>.int (i%j)) (cE (oI kA λi j=>.int (i/j)) (cx 0) (dC (.int 64))) (dC (.int 3))) (dC (.int 1)))) (fB (fD (mK (cB (dC (.int 8)) cH)) [none,some 2,some 1] (cZ 0) jq (cE eB (cE eB (cE eB (lO (cx 1) mD (kL (cE (oI (λ_ j=>0<j) λi j=>.int (i%j)) (cx 2) (dC (.int 4))))) (cE dA (dC (.str "mt")) (cE (oI kA λi j=>.int (i/j)) (cx 0) (dC (.int 4))))) (cE dA (dC (.str "nu")) (cE (oI (λ_ j=>0<j) λi j=>.int (i%j)) (cE (oI kA λi j=>.int (i/j)) (cx 0) (dC (.int 2))) (dC (.int 2))))) (cE dA (dC (.str "ov")) (cE (oI (λ_ j=>0<j) λi j=>.int (i%j)) (cx 0) (dC (.int 2))))))) gv)
 (cQ (eu 4 (cE eB (cE dA (dC (.str "ab")) (eW Bv (cB (cE oEq (cE dA (cx 2) (dC (.int 0))) (dC (.str "a"))) cH))) (lO (cx 2) (kL (dC (.int 1))) mD)))
 (fB (cE eB (fD (mK (cB (dC (.int 6)) cH)) [none,some 2] (cZ 0) jq (lO (cx 1) mD (kL (cE eB (cx 0) (dC (.int 1)))))) (gw (cB (lO (cx 4) mD (kL (dC (.int 1)))) (cB (lO (cx 4) mD (kL (dC (.int 3)))) cH))))))))))))
theorem PV:(Str.ofString "hgfedcba").cps.toList=[104,103,102,101,100,99,98,97]:=by decide +kernel
theorem OU(k:Nat)(h:k<8):fc (Str.ofString "mt").cps.toList ((k:Int)/4)=some (if k/4=0 then 109 else 116):=by
 have:∀k:Fin 8,fc (Str.ofString "mt").cps.toList ((k.val:Int)/4)=some (if k.val/4=0 then 109 else 116):=by decide +kernel
 show this ⟨k,h⟩
theorem OT(k:Nat)(h:k<8):fc (Str.ofString "nu").cps.toList ((k:Int)/2%2)=some (if k/2%2=0 then 110 else 117):=by
 have:∀k:Fin 8,fc (Str.ofString "nu").cps.toList ((k.val:Int)/2%2)=some (if k.val/2%2=0 then 110 else 117):=by decide +kernel
 show this ⟨k,h⟩
theorem OS(k:Nat)(h:k<8):fc (Str.ofString "ov").cps.toList ((k:Int)%2)=some (if k%2=0 then 111 else 118):=by
 have:∀k:Fin 8,fc (Str.ofString "ov").cps.toList ((k.val:Int)%2)=some (if k.val%2=0 then 111 else 118):=by decide +kernel
 show this ⟨k,h⟩
theorem VE:gA 1 zZ FK ["_law_cell","_law_size","_law_stem_here","_law_at","_law_other"]:=by
 intro ds C hl h;obtain⟨i,rfl,q⟩:=h;show FK _ [.fz (.int i),.un,.un,.un,.un];unfold FK;walk_at"all";unfold uh y3 DJ at q;generalize (i%1000000000000000000000000+5)*7046029254386353131%1000000000000000000000007=c at q ⊢;have s0:0<=c%6:=bG _ (by decide);have s1:c%6<6:=bH _ (by decide);show⟨c/512,6,rfl,by decide,by ext,?_⟩;have t0:0<=c/8%(c%6+1):=bG _ (by ext);have t1:c/8%(c%6+1)<c%6+1:=bH _ (by ext);have B:=R8 6 (c/512);have big:=gU;by_cases h0:c/64%3=0
 .rw[if_pos h0] at q;rw[if_pos h0];show mv [104,103,102,101,100,99,98,97] (λc=>.str ⟨#[c]⟩) (λs=>.str (iL ((kX 6 (c/512)).take (c/8%(c%6+1)).toNat++[s]++((kX 6 (c/512)).drop (c/8%(c%6+1)).toNat).take ((c%6).toNat-(c/8%(c%6+1)).toNat)))) (λr h=>?_) (by decide) (λs g t k=>?_) ?_
  .walk_at"all";rw[PV];show h
  .walk_at"all";rw[y9 _ t0,RK _ t0 s0,vA,um,um];show⟨by rw[nB];ext,?_,by rw[nB];ext,?_,k⟩
   .simp only[nB,aP,aD,List.length_nil];ext
   simp only[nB,ay,aP,cf,aD,List.length_nil];ext
  show q
 rw[if_neg h0] at q;rw[if_neg h0];by_cases j:c/64%3=1
 .rw[if_pos j] at q;rw[if_pos j];have v:0<=c%6%4:=bG _ (by decide);show mv (List.range 8) (λ(i:Nat)=>.int (0+i)) (λk=>.str (iL ((kX 6 (c/512)).take (c%6%4).toNat++[if k/4=0 then 109 else 116]++[if k/2%2=0 then 110 else 117]++[if k%2=0 then 111 else 118]))) (λr h=>?_) (by decide) (λs g t k=>?_) ?_
  .walk_at"all";show h
  .have o:s<8:=by simpa using g
   rw[Int.zero_add];walk_at"all";rw[y9 _ v];show⟨by rw[nB];ext,by decide,_,OU s o,?_,by decide,_,OT s o,?_,by decide,_,OS s o,?_,?_⟩
   .simp only[nB,vA,aP,aD,List.length_nil];ext
   .simp only[nB,vA,um,ay,aP,aD,List.length_nil];ext
   .simp only[nB,vA,um,ay,aP,aD,List.length_nil];ext
   simp only[vA,um];show k
  rw[aR] at q;show q
 rw[if_neg j] at q;rw[if_neg j];obtain⟨a,b,p,d,e,f,g,ha,A,y,hd,he,hf⟩:=Iz (c/512);rw[g] at q ⊢;have w:fc (iL [a,b,p,d,e,f]).cps.toList 0=some a:=by rw[za];rfl
 show⟨by rw[nB];simp;ext,a,w,?_⟩;have x:fc (Str.ofString "ab").cps.toList (if (⟨#[a]⟩:Str)=Str.ofString "a" then 1 else 0)=some (if a=97 then 98 else 97):=by
  by_cases n:a=97
  .subst n;decide +kernel
  have:¬((⟨#[a]⟩:Str)=Str.ofString "a"):=by
   intro z;have m:(⟨#[a]⟩:Str).cps.toList=(Str.ofString "a").cps.toList:=by rw[z]
   have u:(Str.ofString "a").cps.toList=[97]:=by decide +kernel
   rw[u] at m;simp at m;show n m
  rw[if_neg this,if_neg n];decide +kernel
 show⟨by decide,_,x,?_⟩;walk_at"all";rw[Sa _ (by decide),vA,um];show⟨by rw[nB];simp;ext,by simp only[nB];simp;ext,?_⟩;show mv (List.range 6) (λ(i:Nat)=>.int (0+i)) (λk=>.str (iL ([a,b,p,d,e,f].take (k+1)))) (λr h=>?_) (by decide) (λs g t k=>?_) ?_
 .walk_at"all";show h
 .walk_at"all";rw[y9 _ (by ext),show(0+(s:Int)+1).toNat=s+1 by ext];show⟨by rw[nB];simp;ext,k⟩
 walk_at"all";rw[y9 _ (by decide),y9 _ (by decide)];show⟨by rw[nB];simp;ext,by rw[nB];simp;ext,by decide,by simp;ext,?_⟩;simp only[aE,aR,ax,bQ] at q;show q
def zB:eA:=λds Q=>∃(ws:List Str)(cells:List Int)(a:Int)(W:Nat),ds=[dS ws,dI cells,.int a,.int W]/\ws.length=8/\W<=40/\
 ∀top cw:List (Option Str),top.length=W->cw.length=W->gz ws top->gz ws cw->Q (.fz (.tup [dP top,dP cw]))
def Fi:TX:=(cQ (jr 4 (gw cH))
 (cQ (jr 5 (gw cH))
 (cQ (iG (mK (cB (cx 3) cH)) (cZ 6) (cQ (jr 7 (gw cH))
 (cQ (iG (mK (cB (dC (.int 2)) cH)) (cZ 8) (cQ (eu 9 (cE eB (cE (oI gk λi j=>.int (i*j)) (dC (.int 2)) (cx 6)) (cx 8)))
 (cQ (eu 10 (eF 2 pG (cB (cx 2) (cB (cx 9) cH))))
 (cQ (fT (dn (cE (jn λi j=>.bl (decide (i<j))) (cx 9) (eW mj (cB (cx 1) cH)))) (eu 10 (eF 2 pG (cB (cE dA (cx 1) (cx 9)) (cB (cx 9) cH)))) gv)
 (jy 7 (cE dA (gw (cB (cE dA (cx 0) (cE (oI (λ_ j=>0<j) λi j=>.int (i%j)) (cx 10) (dC (.int 8)))) (cB (cE dA (cx 0) (cE (oI (λ_ j=>0<j) λi j=>.int (i%j)) (cE (oI kA λi j=>.int (i/j)) (cx 10) (dC (.int 8))) (dC (.int 3)))) (cB (cE dA (cx 0) (cE (oI (λ_ j=>0<j) λi j=>.int (i%j)) (cE (oI kA λi j=>.int (i/j)) (cx 10) (dC (.int 8))) (dC (.int 5)))) (cB (dC .non) cH))))) (cE (oI (λ_ j=>0<j) λi j=>.int (i%j)) (cE (oI kA λi j=>.int (i/j)) (cx 10) (dC (.int 64))) (dC (.int 4)))))))))
 (cQ (jy 4 (uc 7 (dC (.int 0))))
 (jy 5 (uc 7 (dC (.int 1))))))))
 (oC 5 (oC 4 (fB (kz (cB (cx 4) (cB (cx 5) cH)))))))))
theorem EG(ws:List Str):gz ws []:=λw h=>by cases h
theorem EI{ws:List Str}{l:List (Option Str)}{x:Option Str}(h:gz ws l)(hx:∀w,x=some w->w∈ws):gz ws (l++[x]):=λw hw=>by
 rcases aw.mp hw with a | a
 .exact h w a
 show hx w (bp.mp a).symm
theorem Vj:gA 4 zB Fi ["_law_words","_law_cells","_law_seed","_law_width","_law_top","_law_bottom","_law_c","_law_row","_law_side","_law_k","_law_one"]:=by
 intro ds N hl h;obtain⟨ws,cells,g,W,rfl,m,M,q⟩:=h;show Fi _ [.fz (dS ws),.fz (dI cells),.fz (.int g),.fz (.int W),.un,.un,.un,.un,.un,.un,.un];unfold Fi;have big:=gU;walk_at"px";show⟨by ext,?_⟩;walk_at"go";show⟨by ext,?_⟩;walk_at"go";show uu W (λK h=>?_) (λi f=>∃(top cw:List (Option Str))(a b c d e:Sl),f=[.fz (dS ws),.fz (dI cells),.fz (.int g),.fz (.int W),.ow (top.map dO),.ow (cw.map dO),a,b,c,d,e]/\top.length=i/\cw.length=i/\gz ws top/\gz ws cw) ⟨[],[],_,_,_,_,_,rfl,rfl,rfl,EG _,EG _⟩ ?_ ?_
 .walk_at"px";show⟨by ext,by ext,by simpa using h⟩
 .rintro i f hi ⟨top,cw,a,b,c,d,e,rfl,p,s,pt,pb⟩;walk_at"px";show⟨by ext,?_⟩;walk_at"go";show uu 2 (λK h=>?_) (λj f=>∃(row:List (Option Str))(c d e:Sl),f=[.fz (dS ws),.fz (dI cells),.fz (.int g),.fz (.int W),.ow (top.map dO),.ow (cw.map dO),.fz (.int i),.ow (row.map dO),c,d,e]/\row.length=j/\gz ws row) ⟨[],_,_,_,rfl,rfl,EG _⟩ ?_ ?_
  .walk_at"px";show h
  .rintro j f L ⟨row,c,d,e,rfl,r,pr⟩;walk_at"px";walk_at"go";have o:(0:Int)<=2*(i:Int)+j:=by ext
   have k1:2*(i:Int)+j<=1000000:=by ext
   show⟨g,_,rfl,o,k1,?_⟩;walk_at"go";unfold dI;walk_at"px";split
   focus
    rename_i B;rw[ae] at B;obtain⟨z,hz,_⟩:=D9 (l:=cells) o B;show⟨z,hz,z,_,rfl,o,k1,?_⟩
   all_goals
    generalize rq _ _=one;walk_at"go";unfold dS;walk_at"px";obtain⟨v,J,E⟩:=NF one m;obtain⟨u,I,D⟩:=Y4 (one/8) m;obtain⟨t,H,C⟩:=Y3 (one/8) m;show⟨v,J,u,I,t,H,by ext,?_⟩;have F:=BO (l:=[some v,some u,some t,none]) (n:=4) (one/64) (by simp) (by decide);obtain⟨z,hz,A⟩:=F;show⟨dO z,?_,by simp;ext,row++[z],_,_,_,by rw[aE];rfl,by simp[r],EI pr ?_⟩
    .have:=congrArg (Option.map dO) hz;rw[<-Cg] at this;show this
    intro w hw;subst hw;simp only[au,aG,bC,or_false,reduceCtorEq] at A;rcases A with rfl | rfl | rfl
    .exact E
    .exact D
    show C
  rintro f ⟨row,c,d,e,rfl,r,pr⟩;obtain⟨x,y,rfl⟩:∃x y,row=[x,y]:=by
   match row,r with
   | [x,y],_=>show⟨x,y,rfl⟩
  walk_at"go";show⟨dO x,rfl,by simp;ext,?_⟩;walk_at"go";show⟨dO y,rfl,by simp;ext,top++[x],cw++[y],_,_,_,_,_,by rw[aE,aE];rfl,by simp[p],by simp[s],EI pt λw hw=>pr w (by simp[hw]),EI pb λw hw=>pr w (by simp[hw])⟩
 rintro f ⟨top,cw,a,b,c,d,e,rfl,p,s,pt,pb⟩;walk_at"go";show⟨by ext,q top cw p s pt pb⟩
noncomputable def ff(top cw:List (Option Str))(left right:List Str)(w:Str):Nat:=top.count (some w)+cw.count (some w)+left.count w+right.count w
def vp:eA:=λds Q=>∃(top cw:List (Option Str))(left right:List Str)(w:Str),ds=[dP top,dP cw,dS left,dS right,.str w]/\top.length+cw.length+left.length+right.length<=100000/\Q (.fz (.int (ff top cw left right w)))
def Fh:TX:=(cQ (eu 5 (cE eB (cE eB (cE eB (cx 0) (cx 1)) (cx 2)) (cx 3)))
 (fB (dM "list" BZ (cx 5) (cB (cx 4) cH))))
theorem II(w:Str)(l:List (Option Str)):qG (.str w) (l.map dO)=l.count (some w):=by
 unfold qG;rw[List.countP_map,List.count];congr 1
 funext x
 simp only[Function.comp_apply,zE];rw[xU]
theorem IH(w:Str)(l:List Str):qG (.str w) (l.map D.str)=l.count w:=by
 unfold qG;rw[List.countP_map,List.count];congr 1
theorem EF(d:D)(a b:List D):qG d (a++b)=qG d a+qG d b:=by unfold qG;show List.countP_append
theorem Vi:gA 5 vp Fh ["_law_top","_law_bottom","_law_left","_law_right","_law_word","_law_some"]:=by
 intro ds b hl h;obtain⟨top,cw,left,right,w,rfl,hz,q⟩:=h;show Fh _ [.fz (dP top),.fz (dP cw),.fz (dS left),.fz (dS right),.fz (.str w),.un];unfold Fh;have big:=gU;unfold dP dS;walk_at"px";show⟨by simp;ext,by simp;ext,by simp;ext,?_⟩;walk_at"go";show⟨rfl,?_,?_⟩
 .intro e he;simp only[aw] at he;rcases he with((he | he) | he) | he
  .exact Cq 8 top e he
  .exact Cq 8 cw e he
  .exact vk 8 left e he
  show vk 8 right e he
 rw[EF,EF,EF,II,II,IH,IH];show q
theorem Bt(l:List Int)(a:Int):l.map D.int++[D.int a]=(l++[a]).map D.int:=by simp
noncomputable def places(top cw:List (Option Str))(left right:List Str)(w:Str):List Int:=
 (((List.range top.length).filter λc=>top[c]?==some (some w)||cw[c]?==some (some w)).map λ(c:Nat)=>(c:Int))++(if w∈left then [-1] else [])++(if w∈right then [(top.length:Int)] else [])
def mH(m:Int)(l:List Int):Prop:=m∈l/\∀a∈l,m<=a
def mI(m:Int)(l:List Int):Prop:=m∈l/\∀a∈l,a<=m
def zO:eA:=λds Q=>∃(top cw:List (Option Str))(left right:List Str)(w:Str),ds=[dP top,dP cw,dS left,dS right,.str w]/\cw.length=top.length/\top.length<=100/\left.length<=100/\right.length<=100/\
 ∀m M,mH m (places top cw left right w++[99])->mI M (places top cw left right w++[-9])->Q (.fz (.tup [.int m,.int M]))
def FX:TX:=(cQ (jr 5 (fD (mK (cB (eW mj (cB (cx 0) cH)) cH)) [none,some 4,some 0,some 1] (cZ 0) (dn (cE (kW false) (cx 1) (gw (cB (cE dA (cx 2) (cx 0)) (cB (cE dA (cx 3) (cx 0)) cH))))) (cx 0)))
 (cQ (fT (dn (cE (kW false) (cx 4) (cx 2))) (jy 5 (rA (dC (.int 1)))) gv)
 (cQ (fT (dn (cE (kW false) (cx 4) (cx 3))) (jy 5 (eW mj (cB (cx 0) cH))) gv)
 (oC 5 (fB (kz (cB (eW p6 (cB (cE eB (cx 5) (gw (cB (dC (.int 99)) cH))) cH)) (cB (eW pC (cB (cE eB (cx 5) (gw (cB (rA (dC (.int 9))) cH))) cH)) cH))))))))
theorem Ws:gA 5 zO FX ["_law_top","_law_bottom","_law_left","_law_right","_law_word","_law_places"]:=by
 intro ds x hl h;obtain⟨top,cw,left,right,w,rfl,b,u,B,v,q⟩:=h;show FX _ [.fz (dP top),.fz (dP cw),.fz (dS left),.fz (dS right),.fz (.str w),.un];unfold FX;have big:=gU;unfold dP dS;walk_at"px";show oT (List.range top.length) (λ(i:Nat)=>.int (0+i)) (λ(i:Nat)=>.int i) (λc=>top[c]?==some (some w)||cw[c]?==some (some w)) (λy h=>?_) (by simp;ext) (λc p z A k1 o=>?_) ?_
 .walk_at"px";rw[ae];show⟨by ext,by ext,by simpa using h⟩
 .have d:c<top.length:=by simpa using p
  rw[Int.zero_add];walk_at"px";show⟨_,kd d,_,kd (l:=cw) (by ext),by ext,?_,?_⟩
  .intro e he;simp only[au,bC,or_false] at he;rcases he with rfl | rfl<;>(rw[vf];trivial)
  have r:inD (.str w) [dO top[c],dO cw[c]]=(top[c]?==some (some w)||cw[c]?==some (some w)):=by
   unfold inD;simp only[List.any_cons,List.any_nil,Bool.or_false,zE];rw[ai d,ai (l:=cw) (by ext),xU,xU];simp
  rw[r];cases b:(top[c]?==some (some w)||cw[c]?==some (some w)) with
  | true=>show k1 b
  | false=>show o b
 have e:∀L:List Nat,(L.map λ(i:Nat)=>D.int i)=(L.map (λ(c:Nat)=>(c:Int))).map D.int:=λL=>by simp
 rw[e];have hlen:(((List.range top.length).filter λc=>top[c]?==some (some w)||cw[c]?==some (some w)).map λ(c:Nat)=>(c:Int)).length<=100:=by
  rw[ae];show aL (ba _ _) ?_;simp;ext
 unfold places at q;generalize (((List.range top.length).filter λc=>top[c]?==some (some w)||cw[c]?==some (some w)).map λ(c:Nat)=>(c:Int))=base at q hlen ⊢;walk_at"go";show⟨vk 8 left,?_⟩;rw[yJ];by_cases g:w∈left<;>by_cases f:w∈right
 all_goals
  simp only[g,f,aX,aQ,a9] at q;simp only[g,cq,bR,aX,aq,aQ];try(show⟨by simp;ext,?_⟩)
  walk_at"go";show⟨vk 8 right,?_⟩;rw[yJ];simp only[f,cq,bR,aX,aq,aQ];try(show⟨by simp;ext,?_⟩)
  try simp only[Bt,ae]
  walk_at"go";show⟨by ext,by simp;ext,?_⟩;try simp only[Bt,p6,pC,wx]
  show⟨by simp,λm j n=>?_⟩;show⟨by ext,by simp;ext,?_⟩;try simp only[Bt,wx]
  show⟨by simp,λM s t=>?_⟩;show⟨by ext,q m M ⟨by simpa using j,by simpa using n⟩ ⟨by simpa using s,by simpa using t⟩⟩
structure i5(top cw:List (Option Str))(left right ws:List Str)(cR:List (Int×Str)):Prop where
 len:cR.length<=top.length
 up:cR.Pairwise λa b=>a.1<b.1
 at_:∀p∈cR,∃n:Nat,p.1=n/\n<top.length/\p.2∈ws/\(∃m M,mH m (places top cw left right p.2++[99])/\mI M (places top cw left right p.2++[-9])/\m<p.1/\p.1<M)/\((top[n]?=some none/\cw[n]?=some none)\/top[n]?=some (some p.2)\/cw[n]?=some (some p.2))
def zY:eA:=λds Q=>∃(top cw:List (Option Str))(left right ws:List Str)(cells:List Int)(a:Int),ds=[.lst [dP top,dP cw,dS left,dS right],dS ws,dI cells,.int a]/\cw.length=top.length/\top.length<=40/\left.length<=100/\right.length<=100/\ws.length=8/\gz ws top/\cells.length<=1000/\
 ∀cR,i5 top cw left right ws cR->Q (.ow (cR.map qv))
def FJ:TX:=(cQ (xE (cx 0) (xB 4 (dX (cZ 4) (dX (cZ 5) (dX (cZ 6) (dX (cZ 7) hE))))))
 (cQ (jr 8 (gw cH))
 (cQ (iG (mK (cB (eW mj (cB (cx 4) cH)) cH)) (cZ 9) (cQ (eu 10 (eF 2 pG (cB (cE dA (cE eB (cx 2) (gw (cB (cx 3) cH))) (cE (oI (λ_ j=>0<j) λi j=>.int (i%j)) (cx 9) (cE eB (eW mj (cB (cx 2) cH)) (dC (.int 1))))) (cB (cE eB (cx 9) (dC (.int 200))) cH))))
 (cQ (eu 11 (cE dA (cx 1) (cE (oI (λ_ j=>0<j) λi j=>.int (i%j)) (cx 10) (dC (.int 8)))))
 (cQ (fT (oP (dn (cE oEq (cE (oI (λ_ j=>0<j) λi j=>.int (i%j)) (cE (oI kA λi j=>.int (i/j)) (cx 10) (dC (.int 8))) (dC (.int 3))) (dC (.int 0)))) (dn (cE (jV true) (cE dA (cx 4) (cx 9)) (dC .non)))) (eu 11 (cE dA (cx 4) (cx 9))) gv)
 (cQ (xE (eF 5 zO (cB (cx 4) (cB (cx 5) (cB (cx 6) (cB (cx 7) (cB (cx 11) cH)))))) (iS 2 (dX (cZ 12) (dX (cZ 13) hE))))
 (cQ (eu 14 (fD (gu (gw (cB (cE dA (cx 4) (cx 9)) (cB (cE dA (cx 5) (cx 9)) cH)))) [none] (cZ 0) (dn (cE (jV true) (cx 0) (dC .non))) (cx 0)))
 (fT (oP (dn (cE (jn λi j=>.bl (decide (i<j))) (cx 12) (cx 9))) (oP (dn (cE (jn λi j=>.bl (decide (i<j))) (cx 9) (cx 13))) (oP (Dn (dn (cE oEq (cx 14) (gw cH))) (dn (cE (kW false) (cx 11) (cx 14)))) (dn (cE (jn λi j=>.bl (decide (j<i))) (cE (oI (λ_ j=>0<j) λi j=>.int (i%j)) (cE (oI kA λi j=>.int (i/j)) (cx 10) (dC (.int 24))) (dC (.int 3))) (dC (.int 0))))))) (jy 8 (kz (cB (cx 9) (cB (cx 11) cH)))) gv)))))))
 (pD 8))))
theorem RF(l:List D):nI l []=l.isEmpty:=by cases l<;>simp[nI]
theorem VD:gA 4 zY FJ ["_law_lists","_law_words","_law_cells","_law_seed","_law_top","_law_bottom","_law_left","_law_right","_law_bends_here","_law_c","_law_one","_law_word","_law_l","_law_r","_law_here"]:=by
 intro ds Qr hl h;obtain⟨top,cw,left,right,ws,cells,j,rfl,v,ht,Hf,R,N,pt,xf,q⟩:=h;show FJ _ [.fz (.lst [dP top,dP cw,dS left,dS right]),.fz (dS ws),.fz (dI cells),.fz (.int j),.un,.un,.un,.un,.un,.un,.un,.un,.un,.un,.un];unfold FJ;have big:=gU;walk_at"px";walk_at"go";show⟨by ext,?_⟩;walk_at"go";show uu top.length (λW h=>?_) (λi u=>∃(cR:List (Int×Str))(a b c d e f:Sl),u=[.fz (.lst [dP top,dP cw,dS left,dS right]),.fz (dS ws),.fz (dI cells),.fz (.int j),.fz (dP top),.fz (dP cw),.fz (dS left),.fz (dS right),.ow (cR.map qv),a,b,c,d,e,f]/\i5 top cw left right ws cR/\(∀p∈cR,p.1<i)/\cR.length<=i) ⟨[],_,_,_,_,_,_,rfl,⟨by simp,by simp,by simp⟩,by simp,by simp⟩ ?_ ?_
 .unfold dP;walk_at"px";rw[ae];show⟨by ext,by ext,by simpa using h⟩
 .rintro i u hi ⟨cR,a,b,c,d,e,f,rfl,s,lt,ln⟩;unfold dI;walk_at"px";rw[ae];show⟨by ext,by ext,by ext,?_⟩;have m0:0<=(i:Int)%((cells.length:Int)+1):=bG _ (by ext);have m1:(i:Int)%((cells.length:Int)+1)<(cells.length:Int)+1:=bH _ (by ext);rw[Bt];obtain⟨z,hz,_⟩:=D9 (l:=cells++[j]) m0 (by simp;ext);rw[IK];show⟨z,hz,z,_,rfl,by ext,by ext,?_⟩;generalize rq _ _=one;unfold dS;walk_at"go";obtain⟨o,T,I⟩:=NF one N;show⟨o,T,?_⟩;unfold dP;walk_at"go";have O:top[i]?=some top[i]:=ai hi;have Q:cw[i]?=some cw[i]:=ai (by ext);have key:∃w:Str,w∈ws/\∀K:D->Prop,K (.str w)->(if one/8%3=0 then ∃x,fc top (i:Int)=some x/\(if (!vT (dO x))=true then ∃x,fc top (i:Int)=some x/\K (dO x) else K (.str o)) else K (.str o)):=by
   by_cases t:one/8%3=0
   .cases hx:top[i] with
    | none=>show⟨o,I,λK k=>by rw[if_pos t];show⟨none,by rw[kd hi,hx],by simpa[dO,vT] using k⟩⟩
    | some w=>
     show⟨w,pt w (by rw[<-hx];show bK hi),λK k=>?_⟩;rw[if_pos t];show⟨some w,by rw[kd hi,hx],by simp only[dO,vT,Bool.not_false,aX];show⟨some w,by rw[kd hi,hx],k⟩⟩
   show⟨o,I,λK k=>by rw[if_neg t];show k⟩
  obtain⟨w,hw,kw⟩:=key;show kw (λd=>oQ _ _ [_,_,_,_,_,_,_,_,_,_,_,.fz d,_,_,_]) ?_;walk_at"go";show⟨top,cw,left,right,w,rfl,v,by ext,Hf,R,λm M hm S=>?_⟩;walk_at"go";show oT [top[i],cw[i]] dO dO (λx=>x.isSome) (λW h=>?_) (by simp;ext) (λc t K1 K0 k1 P=>?_) ?_
  .walk_at"px";show⟨_,kd hi,_,kd (l:=cw) (by ext),by ext,h⟩
  .walk_at"px";cases c with
   | none=>show P rfl
   | some x=>show k1 rfl
  walk_at"go";have skip:∀(a b c d e f:Sl)(X Y Z:D),∃(g:List (Int×Str))(E C B d' A y:Sl),[Sl.fz (D.lst [D.lst (List.map dO top),D.lst (List.map dO cw),D.lst (List.map D.str left),D.lst (List.map D.str right)]),Sl.fz (D.lst (List.map D.str ws)),Sl.fz (D.lst (List.map D.int cells)),Sl.fz (D.int j),Sl.fz (D.lst (List.map dO top)),Sl.fz (D.lst (List.map dO cw)),Sl.fz (D.lst (List.map D.str left)),Sl.fz (D.lst (List.map D.str right)),Sl.ow (List.map qv cR),a,b,c,d,e,f]=[Sl.fz (D.lst [D.lst (List.map dO top),D.lst (List.map dO cw),D.lst (List.map D.str left),D.lst (List.map D.str right)]),Sl.fz (D.lst (List.map D.str ws)),Sl.fz (D.lst (List.map D.int cells)),Sl.fz (D.int j),Sl.fz (D.lst (List.map dO top)),Sl.fz (D.lst (List.map dO cw)),Sl.fz (D.lst (List.map D.str left)),Sl.fz (D.lst (List.map D.str right)),Sl.ow (List.map qv g),E,C,B,d',A,y]/\i5 top cw left right ws g/\(∀p∈g,p.1<((i+1:Nat):Int))/\g.length<=i+1:=
   λa b c d e f _ _ _=>⟨cR,a,b,c,d,e,f,rfl,s,λp r=>by have:=lt p r;ext,by ext⟩
  have H:some w∈[top[i],cw[i]].filter (λx=>x.isSome)↔top[i]=some w\/cw[i]=some w:=by
   simp only[aT,au,bC,or_false,Option.isSome_some,and_true];constructor
   .rintro(h | h)
    .exact .inl h.symm
    show .inr h.symm
   rintro(h | h)
   .exact .inl h.symm
   show .inr h.symm
  have J:([top[i],cw[i]].filter (λx=>x.isSome)=[])->top[i]=none/\cw[i]=none:=by
   intro h;rw[List.filter_eq_nil_iff] at h;show⟨by simpa using h top[i] (by simp),by simpa using h cw[i] (by simp)⟩
  generalize [top[i],cw[i]].filter (λx=>x.isSome)=here at H J ⊢;split
  .rename_i c1;split
   .rename_i V;show⟨by ext,eR.mono (n:=1) (by ext) (by intro d hd;show Cq 0 here d hd),eR.mono (n:=1) (by ext) (by intro d hd;cases hd),?_⟩;have fin:(top[i]=none/\cw[i]=none)\/top[i]=some w\/cw[i]=some w->i5 top cw left right ws (cR++[((i:Int),w)]):=λr=>by
     show⟨by simp;ext,?_,?_⟩
     .rw[bx];show⟨s.up,by simp,λa ha b v=>?_⟩;have:b=((i:Int),w):=by simpa using v
      subst this;show lt a ha
     intro p F;rcases aw.mp F with h | h
     .exact s.at_ p h
     have:p=((i:Int),w):=by simpa using h
     subst this;show⟨i,rfl,hi,hw,⟨m,M,hm,S,c1,V⟩,?_⟩;rw[O,Q];simpa using r
    have put:(top[i]=none/\cw[i]=none)\/top[i]=some w\/cw[i]=some w->2<=sizeLine/\(List.map qv cR).length<sizeLine/\∃(g:List (Int×Str))(E C B d' A y:Sl),[Sl.fz (D.lst [D.lst (List.map dO top),D.lst (List.map dO cw),D.lst (List.map D.str left),D.lst (List.map D.str right)]),Sl.fz (D.lst (List.map D.str ws)),Sl.fz (D.lst (List.map D.int cells)),Sl.fz (D.int j),Sl.fz (D.lst (List.map dO top)),Sl.fz (D.lst (List.map dO cw)),Sl.fz (D.lst (List.map D.str left)),Sl.fz (D.lst (List.map D.str right)),Sl.ow (List.map qv cR++[D.tup [D.int i,D.str w]]),Sl.fz (D.int i),Sl.fz (D.int one),Sl.fz (D.str w),Sl.fz (D.int m),Sl.fz (D.int M),Sl.fz (D.lst (here.map dO))]=[Sl.fz (D.lst [D.lst (List.map dO top),D.lst (List.map dO cw),D.lst (List.map D.str left),D.lst (List.map D.str right)]),Sl.fz (D.lst (List.map D.str ws)),Sl.fz (D.lst (List.map D.int cells)),Sl.fz (D.int j),Sl.fz (D.lst (List.map dO top)),Sl.fz (D.lst (List.map dO cw)),Sl.fz (D.lst (List.map D.str left)),Sl.fz (D.lst (List.map D.str right)),Sl.ow (List.map qv g),E,C,B,d',A,y]/\i5 top cw left right ws g/\(∀p∈g,p.1<((i+1:Nat):Int))/\g.length<=i+1:=λr=>by
     show⟨by ext,by simp;ext,cR++[((i:Int),w)],_,_,_,_,_,_,by rw[aE];rfl,fin r,?_,by simp;ext⟩;intro p F;rcases aw.mp F with h | h
     .have:=lt p h;ext
     have:p=((i:Int),w):=by simpa using h
     subst this;show(i:Int)<_;ext
    by_cases ce:here=[]
    .simp only[ce,bQ,eC,nI,aX];split
     .have:=put (.inl (J ce));rw[ce] at this;show this
     have:=skip (.fz (D.int i)) (.fz (D.int one)) (.fz (D.str w)) (.fz (D.int m)) (.fz (D.int M)) (.fz (D.lst [])) .non .non .non;show this
    have U:eC (D.lst (here.map dO)) (D.lst [])=false:=by
     simp only[eC,RF];cases here with
     | nil=>show absurd rfl ce
     | cons=>rfl
    simp only[U,aq,aQ];show⟨Cq 8 here,?_⟩;rw[Im];simp only[bE];split
    .rename_i L;split
     .exact put (.inr (H.mp L))
     show skip _ _ _ _ _ _ .non .non .non
    show skip _ _ _ _ _ _ .non .non .non
   show skip _ _ _ _ _ _ .non .non .non
  show skip _ _ _ _ _ _ .non .non .non
 rintro u ⟨cR,a,b,c,d,e,f,rfl,s,lt,ln⟩;walk_at"go";show q cR s
def mX(W:Nat)(keeps:List (Int×Int×Int)):Prop:=keeps.length<=6/\∀p∈keeps,0<=p.1/\p.1<=p.2.1/\p.2.1<W/\1<=p.2.2/\p.2.2<=3
def zX:eA:=λds Q=>∃(W:Nat)(cells:List Int)(a:Int),ds=[.int W,dI cells,.int a]/\1<=W/\W<=40/\∀keeps,mX W keeps->Q (.ow (keeps.map Bg))
def FI:TX:=(cQ (jr 3 (gw cH))
 (cQ (iG (tx (cB (lO (cx 1) mD (kL (dC (.int 6)))) cH)) (iS 2 (dX (cZ 4) (dX (cZ 5) hE))) (cQ (eu 6 (eF 2 pG (cB (cE eB (cx 5) (cx 2)) (cB (cE eB (cx 4) (dC (.int 300))) cH))))
 (cQ (eu 7 (cE (oI (λ_ j=>0<j) λi j=>.int (i%j)) (cx 6) (cx 0)))
 (fT (dn (cE oEq (cE (oI (λ_ j=>0<j) λi j=>.int (i%j)) (cE (oI kA λi j=>.int (i/j)) (cx 6) (dC (.int 64))) (dC (.int 4))) (dC (.int 0)))) (jy 3 (kz (cB (cx 7) (cB (cE eB (cx 7) (cE (oI (λ_ j=>0<j) λi j=>.int (i%j)) (cE (oI kA λi j=>.int (i/j)) (cx 6) (dC (.int 256))) (cE (jn λi j=>.int (i-j)) (cx 0) (cx 7)))) (cB (cE eB (dC (.int 1)) (cE (oI (λ_ j=>0<j) λi j=>.int (i%j)) (cE (oI kA λi j=>.int (i/j)) (cx 6) (dC (.int 1024))) (dC (.int 3)))) cH))))) gv))))
 (pD 3)))
theorem VC:gA 3 zX FI ["_law_width","_law_cells","_law_seed","_law_keeps_here","_law_k","_law_cell","_law_one","_law_first"]:=by
 intro ds u hl h;obtain⟨W,cells,f,rfl,s,t,q⟩:=h;show FI _ [.fz (.int W),.fz (dI cells),.fz (.int f),.un,.un,.un,.un,.un];unfold FI dI;have big:=gU;walk_at"px";show⟨by ext,?_⟩;walk_at"go";show Cz (cells.take 6) D.int (λv h=>?_) (λi g=>∃(keeps:List (Int×Int×Int))(a b c d:Sl),g=[.fz (.int W),.fz (D.lst (List.map D.int cells)),.fz (.int f),.ow (keeps.map Bg),a,b,c,d]/\keeps.length<=i/\∀p∈keeps,0<=p.1/\p.1<=p.2.1/\p.2.1<W/\1<=p.2.2/\p.2.2<=3) ⟨[],_,_,_,_,rfl,by simp,by simp⟩ ?_ ?_
 .walk_at"px";rw[xV _ (by decide)];show h
 .rintro i x g hx ⟨keeps,a,b,c,d,rfl,j,e⟩;have hi:i<6:=by
   have:=(ar.mp hx).1;simp at this;ext
  walk_at"px";show⟨x+f,(i:Int)+300,rfl,by ext,by ext,?_⟩;have n0:=Pr (x+f) ((i:Int)+300);generalize rq _ _=one at n0 ⊢;walk_at"go";have f0:0<=one%(W:Int):=bG _ (by ext);have f1:one%(W:Int)<W:=bH _ (by ext);show⟨by ext,?_⟩;generalize one%(W:Int)=fst at f0 f1 ⊢;walk_at"go";have r:0<=one/256%((W:Int)-fst):=bG _ (by ext);have g1:one/256%((W:Int)-fst)<(W:Int)-fst:=bH _ (by ext);have n:0<=one/1024%3:=bG _ (by ext);have k1:one/1024%3<3:=bH _ (by ext);generalize one/256%((W:Int)-fst)=sp at r g1 ⊢;generalize one/1024%3=m at n k1 ⊢;split
  .refine⟨by ext,by ext,by simp;ext,keeps++[(fst,fst+sp,1+m)],_,_,_,_,by rw[aE];rfl,by simp;ext,λp o=>?_⟩;rcases aw.mp o with h | h
   .exact e p h
   have:p=(fst,fst+sp,1+m):=by simpa using h
   subst this;show⟨f0,?_,?_,?_,?_⟩<;>dsimp only<;>ext
  show⟨keeps,_,_,_,_,rfl,by ext,e⟩
 rintro g ⟨keeps,a,b,c,d,rfl,j,e⟩;walk_at"go";show q keeps ⟨?_,e⟩;rw[aP] at j;ext
def yb:eA:=λds Q=>∃(ws:List Str)(bits:Int),ds=[dS ws,.int bits]/\ws.length=8/\ws.Nodup/\∀l:List Str,l.length<=8->l.Nodup->(∀w∈l,w∈ws)->sortedS l=true->Q (.ow (l.map .str))
def Fg:TX:=(cQ (fT (dn (cE oEq (cE (oI (λ_ j=>0<j) λi j=>.int (i%j)) (cE (oI kA λi j=>.int (i/j)) (cx 1) (dC (.int 256))) (dC (.int 2))) (dC (.int 0)))) (fB (gw cH)) gv)
 (fB (eW v7 (cB (fD (mK (cB (dC (.int 8)) cH)) [none,some 0,some 1] (cZ 0) (dn (cE oEq (cE (oI (λ_ j=>0<j) λi j=>.int (i%j)) (cE (oI kA λi j=>.int (i/j)) (cx 2) (cE dA (gw (cB (dC (.int 1)) (cB (dC (.int 2)) (cB (dC (.int 4)) (cB (dC (.int 8)) (cB (dC (.int 16)) (cB (dC (.int 32)) (cB (dC (.int 64)) (cB (dC (.int 128)) cH))))))))) (cx 0))) (dC (.int 2))) (dC (.int 1)))) (cE dA (cx 1) (cx 0))) cH))))
theorem P1(k:Nat)(h:k<8):fc ([1,2,4,8,16,32,64,128]:List Int) (k:Int)=some ((2:Int) ^ k):=by
 have:∀k:Fin 8,fc ([1,2,4,8,16,32,64,128]:List Int) (k.val:Int)=some ((2:Int) ^ k.val):=by decide +kernel
 show this ⟨k,h⟩
theorem PU(k:Nat)(h:k<8):0<(2:Int) ^ k/\(2:Int) ^ k<1073741824:=by
 have:∀k:Fin 8,0<(2:Int) ^ k.val/\(2:Int) ^ k.val<1073741824:=by decide +kernel
 show this ⟨k,h⟩
theorem To{a:Type}(ws:List a)(d:a):(List.range ws.length).map (λk=>ws.getD k d)=ws:=by
 apply List.ext_getElem
 .simp
 intro i c b;simp[b]
theorem Vh:gA 2 yb Fg ["_law_words","_law_bits"]:=by
 intro ds r hl h;obtain⟨ws,bits,rfl,f,nd,q⟩:=h;show Fg _ [.fz (dS ws),.fz (.int bits)];unfold Fg dS;have big:=gU;walk_at"px";split
 .exact⟨by ext,q [] (by simp) (by simp) (by simp) rfl⟩
 walk_at"go";show oT (List.range 8) (λ(i:Nat)=>.int (0+i)) (λk=>.str (ws.getD k "")) (λk=>decide (bits/2 ^ k%2=1)) (λs h=>?_) (by simp;ext) (λc o t u k1 m=>?_) ?_
 .walk_at"px";show h
 .have g:c<8:=by simpa using o
  rw[Int.zero_add];walk_at"px";show⟨by ext,D.int (2 ^ c),?_,?_⟩
  .have:=congrArg (Option.map D.int) (P1 c g);rw[<-Cg] at this;show this
  walk_at"px";show⟨PU c g,?_⟩;by_cases b:bits/2 ^ c%2=1
  .simp only[b,eC,beq_self_eq_true,aX];show⟨ws[c],kd (by ext),?_⟩;have:=k1 (by simpa using b);rwa [show ws.getD c ""=ws[c] by simp[show c<ws.length by ext]] at this
  rw[if_neg b];show m (by simpa using b)
 have e:∀L:List Nat,(L.map λk=>D.str (ws.getD k ""))=(L.map λk=>ws.getD k "").map D.str:=λL=>by simp
 show v7 [D.lst _] _;rw[e];have sub:List.Sublist (((List.range 8).filter λk=>decide (bits/2 ^ k%2=1)).map λk=>ws.getD k "") ws:=by
  have:=List.Sublist.map (λk=>ws.getD k "") (List.filter_sublist (p:=λk=>decide (bits/2 ^ k%2=1)) (l:=List.range 8));rwa [<-f,To,f] at this
 generalize (((List.range 8).filter λk=>decide (bits/2 ^ k%2=1)).map λk=>ws.getD k "")=ss at sub ⊢;unfold v7;simp only[tN];have hle:=sub.length_le;show⟨by ext,λj d n=>q j (by rw[d.length_eq];ext) (d.nodup_iff.mpr (sub.nodup nd)) (λw hw=>sub.subset (d.subset hw)) n⟩
noncomputable def jw(a:List Str):Option Str->Option Str
 | none=>none
 | some w=>if w∈a then none else some w
theorem OR(x:Option Str)(l:List Str):inD (dO x) (l.map .str)=(match x with | none=>false | some w=>decide (w∈l)):=by
 cases x with
 | none=>
  unfold inD;rw[List.any_map];induction l with
  | nil=>rfl
  | cons a r b=>rw[List.any_cons,b];simp[dO,eC]
 | some w=>show yJ w l
theorem L9(b:List Str)(w:Str)(l:List (Option Str)):(l.map (jw b)).count (some w)=if w∈b then 0 else l.count (some w):=by
 induction l with
 | nil=>simp
 | cons a r c=>
  rw[ax,List.count_cons,c,List.count_cons];cases a with
  | none=>simp[jw]
  | some v=>
   unfold jw;by_cases h:v∈b
   .by_cases hw:w∈b
    .simp[h,hw]
    have:v≠w:=λz=>hw (z▸h)
    simp[h,hw,this]
   by_cases hw:w∈b
   .have:v≠w:=λz=>h (z▸hw)
    simp[h,hw,this]
   simp[h,hw]
theorem LW(a:List Str)(w:Str)(l:List Str):(l.filter λx=>decide (x∉a)).count w=if w∈a then 0 else l.count w:=by
 by_cases hw:w∈a
 .rw[if_pos hw,bS];intro h;rw[aT] at h;simpa[hw] using h.2
 rw[if_neg hw,List.count_filter];simpa using hw
theorem CD{ws b:List Str}{l:List (Option Str)}(h:gz ws l):gz ws (l.map (jw b)):=λw hw=>by
 rw[aM] at hw;obtain⟨x,hx,e⟩:=hw;cases x with
 | none=>cases e
 | some v=>
  by_cases a:v∈b
  .simp[jw,a] at e
  simp[jw,a] at e;subst e;show h _ hx
theorem PZ{ws:List Str}{top cw:List (Option Str)}{left right:List Str}(pt:gz ws top)(pb:gz ws cw)(lf:∀w∈left,w∈ws)(rt:∀w∈right,w∈ws){w:Str}(h:w∉ws):ff top cw left right w=0:=by
 unfold ff;rw[bS.mpr λz=>h (pt w z),bS.mpr λz=>h (pb w z),bS.mpr λz=>h (lf w z),bS.mpr λz=>h (rt w z)]
theorem LV{ws:List Str}{top cw:List (Option Str)}{left right:List Str}(pt:gz ws top)(pb:gz ws cw)(lf:∀w∈left,w∈ws)(rt:∀w∈right,w∈ws)(a:List Str)(c:a=ws.filter λw=>decide (ff top cw left right w=1))(w:Str) :
  ff (top.map (jw a)) (cw.map (jw a)) (left.filter λx=>decide (x∉a)) (right.filter λx=>decide (x∉a)) w≠1:=by
 have e:ff (top.map (jw a)) (cw.map (jw a)) (left.filter λx=>decide (x∉a)) (right.filter λx=>decide (x∉a)) w=if w∈a then 0 else ff top cw left right w:=by
  unfold ff;rw[L9,L9,LW,LW];split<;>simp
 rw[e];by_cases h:w∈a
 .rw[if_pos h];decide
 rw[if_neg h];by_cases b:w∈ws
 .intro z;apply h;rw[c,aT];show⟨b,by simpa using z⟩
 rw[PZ pt pb lf rt b];decide
structure eZ(ws:List Str)(most:Nat)(c:cP):Prop where
 w1:1<=c.top.length
 w2:c.top.length<=most
 bl:c.cw.length=c.top.length
 pt:gz ws c.top
 pb:gz ws c.cw
 ll:c.left.length<=8
 lw:∀w∈c.left,w∈ws
 lo:c.left.Pairwise mP
 rl:c.right.length<=8
 rw_:∀w∈c.right,w∈ws
 ro:c.right.Pairwise mP
 cnt:∀w,ff c.top c.cw c.left c.right w≠1
 wl:c.wide.length<=8
 wo:(c.wide.map (·.1)).Pairwise mP
 ww:∀p∈c.wide,p.1∈ws/\(p.2=2\/p.2=3)/\1<ff c.top c.cw c.left c.right p.1
 be:i5 c.top c.cw c.left c.right ws c.cR
 ke:mX c.top.length c.keeps
noncomputable def wF(h:Int)(a:Nat):Nat:=(1+h%1000000000000000000000000000000*40014%2147483563%a).toNat
def zN:eA:=λds Q=>∃(ns:List Int)(most:Nat),ds=[dI ns,.int most]/\ns.length<=1000/\1<=most/\most<=40/\∀c,eZ (uh (pX ns)) most c->c.top.length=wF (pX ns) most->Q (.ow c.parts)
theorem Cd(b:List Str)(l:List (Option Str))(j k:Nat)(f:Ev)(Q:R->Prop)(hl:l.length<=100)(p:gt f j=.fz (.lst (l.map dO)))(o:gt f k=.fz (.lst (b.map .str)))(i:Q (.ow ((l.map (jw b)).map dO))) :
  fD (gu (cx j)) [none,some k] (cZ 0) jq (tZ (dn (cE (kW false) (cx 0) (cx 1))) (dC D.non) (cx 0)) f Q:=by
 have big:=gU;show mv l dO (λx=>dO (jw b x)) (λq h=>?_) (by ext) (λx hx n k=>?_) ?_
 .simp only[gu,cx,p];show h
 .simp only[hJ,ax,bQ,qH,o];walk_at"px";have d:eR 8 (dO x)/\(∀e∈b.map D.str,eR 8 e):=⟨by rw[vf];trivial,vk 8 b⟩
  have m:if inD (dO x) (b.map D.str)=true then n D.non else n (dO x):=by
   rw[OR];cases x with
   | none=>simpa[jw] using k
   | some v=>
    by_cases g:v∈b
    .simpa[jw,g,dO] using k
    simpa[jw,g,dO] using k
  cases x with
  | none=>show⟨d.1,d.2,m⟩
  | some v=>show⟨d.1,d.2,m⟩
 rw[aR] at i;show i
theorem Cp(b l:List Str)(j k:Nat)(e:Ev)(Q:R->Prop)(hl:l.length<=100)(m:gt e j=.fz (.lst (l.map .str)))(i:gt e k=.fz (.lst (b.map .str)))(g:Q (.ow ((l.filter λx=>decide (x∉b)).map D.str))) :
  fD (gu (cx j)) [none,some k] (cZ 0) (dn (cE (kW true) (cx 0) (cx 1))) (cx 0) e Q:=by
 have big:=gU;show oT l D.str D.str (λx=>decide (x∉b)) (λn h=>?_) (by ext) (λx hx o p k1 f=>?_) g
 .simp only[gu,cx,m];show h
 simp only[hJ,ax,bQ,qH,i];walk_at"px";show⟨vk 8 b,?_⟩;rw[yJ];by_cases d:x∈b
 .simpa[d] using f (by simpa using d)
 simpa[d] using k1 (by simpa using d)
def FW:TX:=(cQ (eu 2 (cE (oI (λ_ j=>0<j) λi j=>.int (i%j)) (cE (oI gk λi j=>.int (i*j)) (cE (oI (λ_ j=>0<j) λi j=>.int (i%j)) (eW vb (cB (lO (cx 0) mD (kL (dC (.int 1)))) cH)) (cE (oI rC λi j=>.int (i ^ j.toNat)) (dC (.int 10)) (dC (.int 30)))) (dC (.int 40014))) (dC (.int 2147483563))))
 (cQ (eu 3 (eF 1 zZ (cB (eW vb (cB (lO (cx 0) mD (kL (dC (.int 1)))) cH)) cH)))
 (cQ (eu 4 (cE eB (dC (.int 1)) (cE (oI (λ_ j=>0<j) λi j=>.int (i%j)) (cx 2) (cx 1))))
 (cQ (eu 5 (lO (cx 0) (kL (dC (.int 1))) mD))
 (cQ (xE (eF 4 zB (cB (cx 3) (cB (cx 5) (cB (cx 2) (cB (cx 4) cH))))) (iS 2 (dX (cZ 6) (dX (cZ 7) hE))))
 (cQ (eu 8 (eF 2 pG (cB (eW vb (cB (lO (cx 0) (kL (dC (.int 1))) (kL (dC (.int 2)))) cH)) (cB (cE eB (dC (.int 400)) (cE (oI (λ_ j=>0<j) λi j=>.int (i%j)) (cx 2) (dC (.int 7)))) cH))))
 (cQ (eu 9 (eF 2 yb (cB (cx 3) (cB (cx 8) cH))))
 (cQ (eu 10 (eF 2 yb (cB (cx 3) (cB (cE (oI kA λi j=>.int (i/j)) (cx 8) (dC (.int 512))) cH))))
 (cQ (eu 11 (fD (gu (cx 3)) [none,some 6,some 7,some 9,some 10] (cZ 0) (dn (cE oEq (eF 5 vp (cB (cx 1) (cB (cx 2) (cB (cx 3) (cB (cx 4) (cB (cx 0) cH)))))) (dC (.int 1)))) (cx 0)))
 (cQ (eu 6 (fD (gu (cx 6)) [none,some 11] (cZ 0) jq (tZ (dn (cE (kW false) (cx 0) (cx 1))) (dC .non) (cx 0))))
 (cQ (eu 7 (fD (gu (cx 7)) [none,some 11] (cZ 0) jq (tZ (dn (cE (kW false) (cx 0) (cx 1))) (dC .non) (cx 0))))
 (cQ (eu 9 (fD (gu (cx 9)) [none,some 11] (cZ 0) (dn (cE (kW true) (cx 0) (cx 1))) (cx 0)))
 (cQ (eu 10 (fD (gu (cx 10)) [none,some 11] (cZ 0) (dn (cE (kW true) (cx 0) (cx 1))) (cx 0)))
 (cQ (jr 12 (gw cH))
 (cQ (iG (tx (cB (eW v7 (cB (cx 3) cH)) cH)) (iS 2 (dX (cZ 13) (dX (cZ 14) hE))) (cQ (eu 15 (eF 2 pG (cB (cE eB (cx 2) (cx 13)) (cB (dC (.int 500)) cH))))
 (fT (oP (dn (cE oEq (cE (oI (λ_ j=>0<j) λi j=>.int (i%j)) (cx 15) (dC (.int 4))) (dC (.int 0)))) (dn (cE (jn λi j=>.bl (decide (j<i))) (eF 5 vp (cB (cx 6) (cB (cx 7) (cB (cx 9) (cB (cx 10) (cB (cx 14) cH)))))) (dC (.int 1))))) (jy 12 (kz (cB (cx 14) (cB (cE eB (dC (.int 2)) (cE (oI (λ_ j=>0<j) λi j=>.int (i%j)) (cE (oI kA λi j=>.int (i/j)) (cx 15) (dC (.int 4))) (dC (.int 2)))) cH)))) gv)))
 (cQ (eu 16 (eF 4 zY (cB (gw (cB (cx 6) (cB (cx 7) (cB (cx 9) (cB (cx 10) cH))))) (cB (cx 3) (cB (cx 5) (cB (cx 2) cH))))))
 (cQ (eu 17 (gw cH))
 (cQ (fT (dn (cE oEq (cE (oI (λ_ j=>0<j) λi j=>.int (i%j)) (cE (oI kA λi j=>.int (i/j)) (cx 2) (dC (.int 97))) (dC (.int 3))) (dC (.int 0)))) (eu 17 (eF 3 zX (cB (cx 4) (cB (cx 5) (cB (cx 2) cH))))) gv)
 (oC 12 (fB (gw (cB (cx 6) (cB (cx 7) (cB (cx 9) (cB (cx 10) (cB (cx 12) (cB (cx 16) (cB (cx 17) cH))))))))))))))))))))))))))))
theorem Wr:gA 2 zN FW ["_law_script","_law_most","_law_seed","_law_words","_law_width","_law_cells","_law_top","_law_bottom","_law_bits","_law_left","_law_right","_law_lone","_law_wide","_law_k","_law_word","_law_one","_law_bends_here","_law_keeps_here"]:=by
 intro ds Qr hl h;obtain⟨ns,most,rfl,hn,hm,lY,q⟩:=h;show FW _ [.fz (dI ns),.fz (.int most),.un,.un,.un,.un,.un,.un,.un,.un,.un,.un,.un,.un,.un,.un,.un,.un];unfold FW dI;have big:=gU;walk_at"px";generalize o:((kx ns none (some 1)).sum%1000000000000000000000000000000*40014)%2147483563=e;have s0:0<=e:=by rw[<-o];show bG _ (by decide)
 have I:pX ns%1000000000000000000000000000000*40014%2147483563=e:=by rw[<-o,xV _ (by decide)];rfl
 clear o;walk_at"go";show⟨_,rfl,?_⟩;rw[xV _ (by decide)];have hw:=Li (pX ns);change oQ _ _ [_,_,_,.fz (.lst ((uh (pX ns)).map .str)),_,_,_,_,_,_,_,_,_,_,_,_,_,_];generalize uh (pX ns)=ws at hw q ⊢;walk_at"go";show⟨by ext,?_⟩;have m0:0<=e%(most:Int):=bG _ (by ext);have m1:e%(most:Int)<most:=bH _ (by ext);obtain⟨W,z⟩:∃W:Nat,1+e%(most:Int)=W:=⟨(1+e%(most:Int)).toNat,by ext⟩
 rw[z];walk_at"go";rw[CA _ (by decide)];walk_at"go";show⟨ws,ns.drop 1,e,W,rfl,hw.1,by ext,λtop cw L M pt pb=>?_⟩;walk_at"px";walk_at"go";show⟨_,_,rfl,by have:=bG e (show(7:Int)≠0 by decide);ext,by have:=bH e (show(0:Int)<7 by decide);ext,?_⟩;generalize rq _ _=bits;walk_at"go";show⟨ws,bits,rfl,hw.1,hw.2,λleft X Y C Z=>?_⟩;walk_at"go";show⟨ws,_,rfl,hw.1,hw.2,λright S T B U=>?_⟩;walk_at"go";show oT ws D.str D.str (λw=>decide (ff top cw left right w=1)) (λQ' h=>?_) (by have:=hw.1;ext) (λw _ K1 K0 k1 K=>?_) ?_
 .walk_at"px";show h
 .walk_at"px";show⟨top,cw,left,right,w,rfl,by ext,?_⟩;walk_at"px";by_cases u:ff top cw left right w=1
  .rw[if_pos (by ext)];show k1 (by simpa using u)
  rw[if_neg (by ext)];show K (by simpa using u)
 generalize y:ws.filter (λw=>decide (ff top cw left right w=1))=d;have F:=LV pt pb C B d y.symm;have M8:d.length<=8:=by rw[<-y];have:=ba (λw=>decide (ff top cw left right w=1)) ws;have:=hw.1;ext
 walk_at"go";show Cd d top 6 11 _ _ (by ext) rfl rfl ?_;walk_at"go";show Cd d cw 7 11 _ _ (by ext) rfl rfl ?_;walk_at"go";show Cp d left 9 11 _ _ (by ext) rfl rfl ?_;walk_at"go";show Cp d right 10 11 _ _ (by ext) rfl rfl ?_;have E:gz ws (top.map (jw d)):=CD pt;have H:gz ws (cw.map (jw d)):=CD pb;have A:(top.map (jw d)).length=W:=by simpa using L
 have qW:(cw.map (jw d)).length=W:=by simpa using M
 have Gv:(left.filter λx=>decide (x∉d)).Pairwise mP:=(EJ Z Y).sublist List.filter_sublist;have Gg:(right.filter λx=>decide (x∉d)).Pairwise mP:=(EJ U T).sublist List.filter_sublist;have Gu:∀w∈(left.filter λx=>decide (x∉d)),w∈ws:=λw h=>C w (aT.mp h).1
 have J:∀w∈(right.filter λx=>decide (x∉d)),w∈ws:=λw h=>B w (aT.mp h).1
 have Gw:(left.filter λx=>decide (x∉d)).length<=8:=aL (ba _ _) X;have Gh:(right.filter λx=>decide (x∉d)).length<=8:=aL (ba _ _) S;generalize top.map (jw d)=f at *;generalize cw.map (jw d)=j at *;generalize (left.filter λx=>decide (x∉d))=g at *;generalize (right.filter λx=>decide (x∉d))=right' at *;walk_at"go";show⟨by ext,?_⟩;walk_at"go";show zi (λds=>∃ss:List Str,ss.Perm ws/\sortedS ss=true/\ds=oS (ss.map .str)) (λQ' h=>?_) ?_
 .walk_at"px";simp only[v7,tN];show⟨by have:=hw.1;ext,λss m t=>?_⟩;walk_at"px";show h _ ⟨ss,m,t,rfl⟩
 rintro _ ⟨ss,m,t,rfl⟩;have Zh:ss.length=8:=by rw[m.length_eq];show hw.1
 have V:ss.Pairwise mP:=EJ t (m.nodup_iff.mpr hw.2);show LX ss D.str (λi n=>∃(wide:List (Str×Int))(a b c:Sl),n=[.fz (D.lst (List.map D.int ns)),.fz (D.int most),.fz (D.int e),.fz (D.lst (List.map D.str ws)),.fz (D.int W),.fz (D.lst (List.map D.int (List.drop 1 ns))),.fz (D.lst (f.map dO)),.fz (D.lst (j.map dO)),.fz (D.int bits),.fz (D.lst (g.map D.str)),.fz (D.lst (right'.map D.str)),.fz (D.lst (d.map D.str)),.ow (wide.map uV),a,b,c,.un,.un]/\List.Sublist (wide.map (·.1)) (ss.take i)/\(∀p∈wide,(p.2=2\/p.2=3)/\1<ff f j g right' p.1)) ⟨[],_,_,_,rfl,by simp,by simp⟩ ?_ ?_
 .rintro i x n hx ⟨wide,a,b,c,rfl,sub,wo⟩;have hi:i<8:=by have:=(ar.mp hx).1;ext
  have tk:ss.take (i+1)=ss.take i++[x]:=by rw[aY,hx];rfl
  have v:wide.length<=8:=by have:=sub.length_le;simp at this;ext
  walk_at"px";show⟨_,_,rfl,by ext,by ext,?_⟩;generalize rq _ _=one;walk_at"go";have skip:∃(r:List (Str×Int))(Q P N:Sl),[Sl.fz (D.lst (List.map D.int ns)),.fz (D.int most),.fz (D.int e),.fz (D.lst (List.map D.str ws)),.fz (D.int W),.fz (D.lst (List.map D.int (List.drop 1 ns))),.fz (D.lst (f.map dO)),.fz (D.lst (j.map dO)),.fz (D.int bits),.fz (D.lst (g.map D.str)),.fz (D.lst (right'.map D.str)),.fz (D.lst (d.map D.str)),.ow (wide.map uV),.fz (D.int i),.fz (D.str x),.fz (D.int one),.un,.un]=[Sl.fz (D.lst (List.map D.int ns)),.fz (D.int most),.fz (D.int e),.fz (D.lst (List.map D.str ws)),.fz (D.int W),.fz (D.lst (List.map D.int (List.drop 1 ns))),.fz (D.lst (f.map dO)),.fz (D.lst (j.map dO)),.fz (D.int bits),.fz (D.lst (g.map D.str)),.fz (D.lst (right'.map D.str)),.fz (D.lst (d.map D.str)),.ow (r.map uV),Q,P,N,.un,.un]/\List.Sublist (r.map (·.1)) (ss.take (i+1))/\(∀p∈r,(p.2=2\/p.2=3)/\1<ff f j g right' p.1):=
   ⟨wide,_,_,_,rfl,by rw[tk];show sub.trans (List.sublist_append_left _ _),wo⟩
  split
  .refine⟨f,j,g,right',x,rfl,by ext,?_⟩;walk_at"px";split
   .rename_i u;have e2:one/4%2=0\/one/4%2=1:=by ext
    show⟨by ext,by simp;ext,wide++[(x,2+one/4%2)],_,_,_,by rw[aE];rfl,?_,λp m=>?_⟩
    .rw[tk,aE];show sub.append (List.Sublist.refl _)
    rcases aw.mp m with h | h
    .exact wo p h
    have:p=(x,2+one/4%2):=by simpa using h
    subst this;show⟨by dsimp only;ext,by dsimp only;ext⟩
   show skip
  show skip
 rintro n ⟨wide,a,b,c,rfl,sub,wo⟩;rw[bL] at sub;have v:wide.length<=8:=by have:=sub.length_le;simp at this;ext
 have W6:(wide.map (·.1)).Pairwise mP:=V.sublist sub;have ww:∀p∈wide,p.1∈ws/\(p.2=2\/p.2=3)/\1<ff f j g right' p.1:=λp h=>⟨m.subset (sub.subset (cv h)),wo p h⟩
 walk_at"go";show⟨by ext,f,j,g,right',ws,ns.drop 1,e,rfl,by ext,by ext,by ext,by ext,hw.1,E,by simp;ext,λcR O=>?_⟩;walk_at"go";show⟨by ext,?_⟩;have fin:∀keeps,mX W keeps->Qr (R.ow [dP f,dP j,dS g,dS right',dW wide,dB cR,dK keeps]):=λkeeps s=>q ⟨f,j,g,right',wide,cR,keeps⟩ ⟨by dsimp only;ext,by dsimp only;ext,by dsimp only;ext,E,H,Gw,Gu,Gv,Gh,J,Gg,F,v,W6,ww,O,by dsimp only;rw[A];show s⟩ (by show f.length=wF _ _;unfold wF;rw[I,z,A];show(Int.toNat_natCast W).symm)
 walk_at"go";split
 .refine⟨W,ns.drop 1,e,rfl,by ext,by ext,λkeeps s=>?_⟩;walk_at"go";show⟨by ext,fin keeps s⟩
 walk_at"go";show⟨by ext,fin [] ⟨by simp,by simp⟩⟩
def zI:eA:=λds Q=>∃a b c d e f g:List D,ds=[.lst a,.lst b,.lst c,.lst d,.lst e,.lst f,.lst g]/\Q (.fz (.obj "Channel" [("top",.lst a),("bottom",.lst b),("left",.lst c),("right",.lst d),("wide",.lst e),("bends",.lst f),("keeps",.lst g)]))
def Cy:vJ:=(oB "top" (eW oR (cB (cx 1) cH)) (oB "bottom" (eW oR (cB (cx 2) cH)) (oB "left" (eW oR (cB (cx 3) cH)) (oB "right" (eW oR (cB (cx 4) cH)) (oB "wide" (eW oR (cB (cx 5) cH)) (oB "bends" (eW oR (cB (cx 6) cH)) (oB "keeps" (eW oR (cB (cx 7) cH)) yD)))))))
theorem UW(ds:List D)(i:R->Prop)(j:List (Str×D)->Prop)(na:∀fs:List (Str×D),fs.map (·.1)=(["top","bottom","left","right","wide","bends","keeps"]:List Str)->j fs)(h:zI ds i) :
  Cy (ui ["self","top","bottom","left","right","wide","bends","keeps"] ds) [] λfs=>j fs/\i (.fz (.obj "Channel" fs)):=by
 obtain⟨a,b,c,d,e,f,g,rfl,q⟩:=h;show Cy [.un,.fz (.lst a),.fz (.lst b),.fz (.lst c),.fz (.lst d),.fz (.lst e),.fz (.lst f),.fz (.lst g)] [] _;unfold Cy;simp only[oB,yD,eW,cB,cH,cx,gt,oR,xN,uj];show⟨by decide,show 1<1000 by decide,show 2<1000 by decide,show 3<1000 by decide,show 4<1000 by decide,show 5<1000 by decide,show 6<1000 by decide,na _ rfl,q⟩
end Wc
open PySem L2 PyProof.Rows Wc
local macro_rules | `(tactic| walk_at"px")=>`(tactic| (repeat(first | walk_at"b" | simp only[zE,LY,vW,vf,yJ,Im,pB,va,IA,IJ,xM,BB,vN,Ow,xH,pD,tm,D2,Cj,BS,Ip,pC,p6,rA,yf,yN,yQ,xG,ve])))
namespace Wc
open PySem L2 PyProof.Rows
inductive En where
 | lf | tp (n:Nat) | bt (n:Nat) | rt
noncomputable def dE:En->D
 | .lf=>.tup [.str "left"]
 | .tp n=>.tup [.str "top",.int n]
 | .bt n=>.tup [.str "bottom",.int n]
 | .rt=>.tup [.str "right"]
noncomputable def qL(c:cP)(w:Str)(n:Nat):List En:=(if c.top[n]?=some (some w) then [.tp n] else [])++(if c.cw[n]?=some (some w) then [.bt n] else [])
noncomputable def rF(c:cP)(w:Str):List En:=(if w∈c.left then [.lf] else [])++(List.range c.top.length).flatMap (qL c w)++(if w∈c.right then [.rt] else [])
theorem Tn(c:cP)(w:Str)(n:Nat):(qL c w n).length<=2:=by unfold qL;split<;>split<;>simp
theorem EE(c:cP)(w:Str)(i:Nat):((List.range i).flatMap (qL c w)).length<=2*i:=by
 induction i with
 | zero=>simp
 | succ i a=>
  rw[List.range_succ,List.flatMap_append,ay];have:=Tn c w i;simp only[List.flatMap_cons,List.flatMap_nil,a9];ext
structure j0(c:cP):Prop where
 w:c.top.length<=40
 b:c.cw.length=c.top.length
 l:c.left.length<=100
 r:c.right.length<=100
def zH:eA:=λds Q=>∃(c:cP)(w:Str),ds=[c.obj,.str w]/\j0 c/\Q (.ow ((rF c w).map dE))
def EZ:TX:=(cQ (jr 2 (gw cH))
 (cQ (fT (dn (cE (kW false) (cx 1) (fK "left" (cx 0)))) (jy 2 (kz (cB (dC (.str "left")) cH))) gv)
 (cQ (iG (mK (cB (eW mj (cB (fK "top" (cx 0)) cH)) cH)) (cZ 3) (cQ (fT (dn (cE oEq (cE dA (fK "top" (cx 0)) (cx 3)) (cx 1))) (jy 2 (kz (cB (dC (.str "top")) (cB (cx 3) cH)))) gv)
 (fT (dn (cE oEq (cE dA (fK "bottom" (cx 0)) (cx 3)) (cx 1))) (jy 2 (kz (cB (dC (.str "bottom")) (cB (cx 3) cH)))) gv)))
 (cQ (fT (dn (cE (kW false) (cx 1) (fK "right" (cx 0)))) (jy 2 (kz (cB (dC (.str "right")) cH))) gv)
 (pD 2)))))
theorem UU:gA 2 zH EZ ["channel","name","ends","column"]:=by
 intro ds m hl h;obtain⟨c,w,rfl,sh,q⟩:=h;show EZ _ [.fz c.obj,.fz (.str w),.un,.un];unfold EZ;have big:=gU;unfold cP.obj;walk_at"px";show⟨by ext,?_⟩;walk_at"go";show⟨_,rfl,?_⟩;unfold dS;walk_at"px";show⟨vk 8 _,?_⟩;have obj:D.obj (Str.ofString "Channel") [(Str.ofString "top",dP c.top),(Str.ofString "bottom",dP c.cw),(Str.ofString "left",D.lst (c.left.map D.str)),(Str.ofString "right",D.lst (c.right.map D.str)),(Str.ofString "wide",dW c.wide),(Str.ofString "bends",dB c.cR),(Str.ofString "keeps",dK c.keeps)]=c.obj:=rfl;rw[obj];have lQ:∀k:Sl,oQ (cQ (iG (mK (cB (eW mj (cB (fK "top" (cx 0)) cH)) cH)) (cZ 3) (cQ (fT (dn (cE oEq (cE dA (fK "top" (cx 0)) (cx 3)) (cx 1))) (jy 2 (kz (cB (dC (.str "top")) (cB (cx 3) cH)))) gv)
 (fT (dn (cE oEq (cE dA (fK "bottom" (cx 0)) (cx 3)) (cx 1))) (jy 2 (kz (cB (dC (.str "bottom")) (cB (cx 3) cH)))) gv)))
 (cQ (fT (dn (cE (kW false) (cx 1) (fK "right" (cx 0)))) (jy 2 (kz (cB (dC (.str "right")) cH))) gv)
 (pD 2))) { nx:=λx=>m (R.fz D.non),rt:=m } [.fz c.obj,.fz (.str w),.ow ((if w∈c.left then [En.lf] else []).map dE),k]:=by
  intro k;walk_at"go";show uu c.top.length (λr h=>?_) (λi f=>∃k:Sl,f=[.fz c.obj,.fz (.str w),.ow (((if w∈c.left then [En.lf] else [])++(List.range i).flatMap (qL c w)).map dE),k]) ⟨k,by simp⟩ ?_ ?_
  .unfold cP.obj;walk_at"px";show⟨_,rfl,?_⟩;unfold dP;walk_at"px";rw[ae];have:=sh.w;show⟨by ext,by ext,by simpa using h⟩
  .rintro i f hi ⟨k,rfl⟩;have hle:=EE c w i;have hw:=sh.w;have j:∀(b:Prop)[Decidable b],(if b then [En.lf] else []).length<=1:=λb _=>by split<;>simp
   have o:=j (w∈c.left);rw[List.range_succ,List.flatMap_append,<-bw];generalize g:(if w∈c.left then [En.lf] else [])++(List.range i).flatMap (qL c w)=acc;have p:acc.length<=1000:=by rw[<-g,ay];ext
   simp only[List.flatMap_cons,List.flatMap_nil,a9];have n:i<c.cw.length:=by rw[sh.b];show hi
   unfold cP.obj;walk_at"px";show⟨_,rfl,?_⟩;unfold dP;walk_at"px";show⟨_,kd hi,?_⟩;unfold qL;rw[ai hi,ai n];simp only[aG];split
   focus show⟨by ext,by simp;ext,?_⟩
   all_goals
    walk_at"go";show⟨_,rfl,?_⟩;walk_at"px";show⟨_,kd n,?_⟩;split
   .exact⟨by ext,by simp;ext,_,by simp[dE];rfl⟩
   .exact⟨_,by simp[dE];rfl⟩
   .exact⟨by ext,by simp;ext,_,by simp[dE];rfl⟩
   show⟨_,by simp;rfl⟩
  rintro f ⟨k,rfl⟩;have hle:=EE c w c.top.length;have hw:=sh.w;have j:∀(b:Prop)[Decidable b],(if b then [En.lf] else []).length<=1:=λb _=>by split<;>simp
  have o:=j (w∈c.left);unfold rF at q;generalize g:(if w∈c.left then [En.lf] else [])++(List.range c.top.length).flatMap (qL c w)=acc at q ⊢;have p:acc.length<=1000:=by rw[<-g,ay];ext
  unfold cP.obj;walk_at"go";show⟨_,rfl,?_⟩;unfold dS;walk_at"px";show⟨vk 8 _,?_⟩;by_cases d:w∈c.right
  .rw[if_pos d];rw[if_pos d,aE] at q;show⟨by ext,by simp;ext,?_⟩;walk_at"go";show q
  rw[if_neg d];rw[if_neg d,a9] at q;walk_at"go";show q
 by_cases e:w∈c.left
 .rw[if_pos e];show⟨by ext,by ext,?_⟩;have:=lQ .un;rw[if_pos e] at this;show this
 rw[if_neg e];have:=lQ .un;rw[if_neg e] at this;show this
noncomputable def qE(c:cP):En->Int
 | .lf=>-1
 | .tp n=>n
 | .bt n=>n
 | .rt=>c.top.length
def zA:eA:=λds Q=>∃(c:cP)(e:En),ds=[c.obj,dE e]/\Q (.fz (.int (qE c e)))
def Ff:TX:=(cQ (fT (dn (cE oEq (cE dA (cx 1) (dC (.int 0))) (dC (.str "left")))) (fB (rA (dC (.int 1)))) gv)
 (cQ (fT (dn (cE oEq (cE dA (cx 1) (dC (.int 0))) (dC (.str "right")))) (fB (eW mj (cB (fK "top" (cx 0)) cH))) gv)
 (fB (cE dA (cx 1) (dC (.int 1))))))
theorem Vg:gA 2 zA Ff ["channel","end"]:=by
 intro ds b hl h;obtain⟨c,e,rfl,q⟩:=h;show Ff _ [.fz c.obj,.fz (dE e)];unfold Ff;have n1:¬(Str.ofString "top"=Str.ofString "left"):=by decide +kernel
 have n2:¬(Str.ofString "bottom"=Str.ofString "left"):=by decide +kernel
 have n3:¬(Str.ofString "right"=Str.ofString "left"):=by decide +kernel
 have n4:¬(Str.ofString "top"=Str.ofString "right"):=by decide +kernel
 have n5:¬(Str.ofString "bottom"=Str.ofString "right"):=by decide +kernel
 cases e with
 | lf=>
  unfold dE;walk_at"px";show⟨_,rfl,?_⟩;walk_at"px";show q
 | tp n=>
  unfold dE;walk_at"px";show⟨_,rfl,?_⟩;walk_at"px";rw[if_neg n1];walk_at"go";show⟨_,rfl,?_⟩;walk_at"px";rw[if_neg n4];walk_at"go";show⟨_,rfl,q⟩
 | bt n=>
  unfold dE;walk_at"px";show⟨_,rfl,?_⟩;walk_at"px";rw[if_neg n2];walk_at"go";show⟨_,rfl,?_⟩;walk_at"px";rw[if_neg n5];walk_at"go";show⟨_,rfl,q⟩
 | rt=>
  unfold dE;walk_at"px";show⟨_,rfl,?_⟩;walk_at"px";rw[if_neg n3];walk_at"go";show⟨_,rfl,?_⟩;walk_at"px";unfold cP.obj;walk_at"px";show⟨_,rfl,?_⟩;unfold dP;walk_at"px";rw[ae];show q
noncomputable def pl(c:cP)(w:Str):List Int:=
 (if w∈c.left then [-1] else [])++(((List.range c.top.length).filter λn=>c.top[n]?==some (some w)||c.cw[n]?==some (some w)).map λ(n:Nat)=>(n:Int))++(if w∈c.right then [(c.top.length:Int)] else [])
theorem BF(c:cP)(w:Str):(pl c w).Pairwise (·<·):=by
 unfold pl;have e:∀x∈(((List.range c.top.length).filter λn=>c.top[n]?==some (some w)||c.cw[n]?==some (some w)).map λ(n:Nat)=>(n:Int)),0<=x/\x<c.top.length:=by
  intro x hx;rw[aM] at hx;obtain⟨n,g,rfl⟩:=hx;rw[aT,bB] at g;ext
 have f:(((List.range c.top.length).filter λn=>c.top[n]?==some (some w)||c.cw[n]?==some (some w)).map λ(n:Nat)=>(n:Int)).Pairwise (·<·):=by
  rw[List.pairwise_map];show List.Pairwise.imp ?_ (List.Pairwise.filter _ List.pairwise_lt_range);intro a b h;ext
 generalize (((List.range c.top.length).filter λn=>c.top[n]?==some (some w)||c.cw[n]?==some (some w)).map λ(n:Nat)=>(n:Int))=mid at e f;rw[bx,bx];show⟨⟨by split<;>simp,f,λa ha b d=>?_⟩,by split<;>simp,λa ha b d=>?_⟩
 .split at ha
  .have:=e b d;simp at ha;ext
  cases ha
 split at d
 .rcases aw.mp ha with ha | ha
  .split at ha
   .simp at ha d;ext
   cases ha
  have:=e a ha;simp at d;ext
 cases d
theorem RE(c:cP)(w:Str)(k:Int):k∈(rF c w).map (qE c)↔k∈pl c w:=by
 unfold rF pl;simp only[aE,aw];have i:k∈(if w∈c.left then [En.lf] else []).map (qE c)↔k∈(if w∈c.left then [(-1:Int)] else []):=by split<;>simp[qE]
 have f:k∈(if w∈c.right then [En.rt] else []).map (qE c)↔k∈(if w∈c.right then [(c.top.length:Int)] else []):=by split<;>simp[qE]
 rw[i,f];have g:k∈((List.range c.top.length).flatMap (qL c w)).map (qE c)↔k∈(((List.range c.top.length).filter λn=>c.top[n]?==some (some w)||c.cw[n]?==some (some w)).map λ(n:Nat)=>(n:Int)):=by
  simp only[aM,List.mem_flatMap,bB,aT,Bool.or_eq_true,beq_iff_eq];constructor
  .rintro⟨e,⟨n,a,he⟩,rfl⟩;unfold qL at he;rcases aw.mp he with h | h
   .split at h
    .rename_i b;simp at h;subst h;show⟨n,⟨a,.inl b⟩,rfl⟩
    cases h
   split at h
   .rename_i d;simp at h;subst h;show⟨n,⟨a,.inr d⟩,rfl⟩
   cases h
  rintro⟨n,⟨a,b | d⟩,rfl⟩
  .exact⟨.tp n,⟨n,a,by simp[qL,b]⟩,rfl⟩
  show⟨.bt n,⟨n,a,by simp[qL,d]⟩,rfl⟩
 rw[g]
noncomputable def yI:List Int->D
 | []=>.non
 | a::r=>if a=(a::r).getLast (by simp) then .non else .tup [.int a,.int ((a::r).getLast (by simp))]
def zW:eA:=λds Q=>∃(c:cP)(w:Str),ds=[c.obj,.str w]/\j0 c/\Q (.fz (yI (pl c w)))
def FH:TX:=(cQ (eu 2 (fD (gu (eF 2 zH (cB (cx 0) (cB (cx 1) cH)))) [none,some 0] (cZ 0) jq (eF 2 zA (cB (cx 1) (cB (cx 0) cH)))))
 (cQ (fT (dn (cE (jn λi j=>.bl (decide (i<j))) (eW xW (cB (cx 2) cH)) (dC (.int 2)))) (fB (dC .non)) gv)
 (fB (kz (cB (eW p6 (cB (cx 2) cH)) (cB (eW pC (cB (cx 2) cH)) cH))))))
theorem zh{a:Int}{r:List Int}(h:(a::r).Pairwise (·<·)):∀x∈a::r,x<=(a::r).getLast (by simp):=by
 induction r generalizing a with
 | nil=>intro x hx;simp at hx;simp[hx]
 | cons b r c=>
  intro x hx;rw[bM] at h;rw[List.getLast_cons (by simp)];rcases au.mp hx with rfl | hx
  .have:=h.1 b (by simp);have:=c h.2 b (by simp);ext
  show c h.2 x hx
theorem VY:gA 2 zW FH ["channel","name","columns"]:=by
 intro ds C hl h;obtain⟨c,w,rfl,sh,q⟩:=h;show FH _ [.fz c.obj,.fz (.str w),.un];unfold FH;have big:=gU;walk_at"px";have F:(rF c w).length<=2*c.top.length+2:=by
  unfold rF;simp only[ay];have:=EE c w c.top.length;have a:∀(b:Prop)[Decidable b](x:En),(if b then [x] else []).length<=1:=λb _ x=>by split<;>simp
  have a1:=a (w∈c.left) .lf;have a2:=a (w∈c.right) .rt;ext
 have hw:=sh.w;show mv (rF c w) dE (λe=>.int (qE c e)) (λE h=>?_) (by ext) (λe he H k=>?_) ?_
 .walk_at"px";show⟨c,w,rfl,sh,h⟩
 .walk_at"px";show⟨c,e,rfl,k⟩
 have v:(rF c w).map (λe=>D.int (qE c e))=((rF c w).map (qE c)).map D.int:=by simp
 rw[v];have hm:=RE c w;have d:=BF c w;have g:(pl c w).Nodup:=d.imp λh=>by ext
 have n:((rF c w).map (qE c)).length<=1000:=by rw[ae];ext
 generalize (rF c w).map (qE c)=cols at hm n ⊢;generalize pl c w=p at hm d g q ⊢;walk_at"go";simp only[xW,wx];show⟨by ext,λl ln lm=>?_⟩;have t:l.Perm p:=(List.perm_ext_iff_of_nodup ln g).mpr λk=>by rw[lm,hm]
 have hlen:=t.length_eq;walk_at"px";match p,d,hm,hlen,q with
 | [],_,_,hlen,q=>
  rw[if_pos (by rw[hlen];decide)];show q
 | [a],_,_,hlen,q=>
  rw[if_pos (by rw[hlen];simp)];simpa[yI] using q
 | a::b::r,d,hm,hlen,q=>
  rw[if_neg (by rw[hlen];simp only[aD];ext)];walk_at"go";try simp only[p6,pC,wx]
  have j:cols≠[]:=λz=>by have:=(hm a).mpr (by simp);rw[z] at this;cases this
  show⟨j,λm o s=>⟨j,λM y A=>⟨by ext,?_⟩⟩⟩;have em:m=a:=by
   have i:=s a ((hm a).mpr (by simp));have f:=(hm m).mp o;rcases au.mp f with h | h
   .exact h
   have:=(bM.mp d).1 m h;ext
  have u:M=(a::b::r).getLast (by simp):=by
   have i:=A _ ((hm _).mpr (List.getLast_mem (by simp:a::b::r≠[])));have f:=zh d M ((hm M).mp y);ext
  have B:a<(a::b::r).getLast (by simp):=by
   have i:=(bM.mp d).1 b (by simp);have f:=zh d b (by simp);ext
  subst em u;simp only[yI] at q;rw[if_neg (by ext)] at q;show q
def lW(c:cP)(w:Str):Prop:=some w∈c.top\/some w∈c.cw\/w∈c.left\/w∈c.right
def wq:eA:=λds Q=>∃(c:cP)(ws:List Str),ds=[c.obj]/\j0 c/\ws.length<=40/\(∀w,lW c w->w∈ws)/\∀l:List Str,l.Nodup->(∀w,w∈l↔lW c w)->sortedS l=true->Q (.ow (l.map D.str))
def EY:TX:=(cQ (eu 1 (fD (gu (cE eB (fK "top" (cx 0)) (fK "bottom" (cx 0)))) [none] (cZ 0) (dn (cE (jV true) (cx 0) (dC .non))) (cx 0)))
 (fB (eW uy (cB (cE eB (cE eB (cx 1) (fK "left" (cx 0))) (fK "right" (cx 0))) cH))))
theorem wj{l ws:List Str}(nd:l.Nodup)(h:∀w∈l,w∈ws):l.length<=ws.length:=by
 induction l generalizing ws with
 | nil=>simp
 | cons a r b=>
  rw[bV] at nd;have ha:a∈ws:=h a (by simp);have:=b (ws:=ws.erase a) nd.2 λw hw=>(List.mem_erase_of_ne λ(z:w=a)=>nd.1 (z▸hw)).mpr (h w (by simp[hw]))
  rw[List.length_erase_of_mem ha] at this;have c:0<ws.length:=List.length_pos_of_mem ha;simp only[aD];ext
theorem UT:gA 1 wq EY ["channel","pins"]:=by
 intro ds o hl h;obtain⟨c,ws,rfl,sh,j,hm,q⟩:=h;show EY _ [.fz c.obj,.un];unfold EY cP.obj;have big:=gU;have hw:=sh.w;have m:=sh.b;walk_at"px";show oT (c.top++c.cw) dO dO (λx=>x.isSome) (λp h=>?_) (by simp;ext) (λx hx s t k1 f=>?_) ?_
 .walk_at"px";show⟨_,rfl,_,rfl,?_⟩;unfold dP;walk_at"px";show⟨by simp;ext,?_⟩;rw[aE] at h;show h
 .walk_at"px";cases x with
  | none=>show f rfl
  | some x=>show k1 rfl
 rw[EH];have hpl:((c.top++c.cw).filterMap id).length<=100:=by
  show aL (List.length_filterMap_le _ _) ?_;simp;ext
 have d:∀w,w∈(c.top++c.cw).filterMap id↔some w∈c.top\/some w∈c.cw:=by
  intro w;simp[List.mem_filterMap]
 generalize (c.top++c.cw).filterMap id=i at hpl d ⊢;walk_at"go";show⟨_,rfl,?_⟩;unfold dS;walk_at"px";have u:=sh.l;have n:=sh.r;show⟨by simp;ext,_,rfl,?_⟩;walk_at"px";show⟨by simp;ext,?_⟩;rw[<-aE,<-aE];simp only[uy,tN];have e:∀w,w∈i++c.left++c.right↔lW c w:=by
  intro w;simp only[aw,d,lW];constructor
  .rintro(((h | h) | h) | h)
   .exact .inl h
   .exact .inr (.inl h)
   .exact .inr (.inr (.inl h))
   show .inr (.inr (.inr h))
  rintro(h | h | h | h)
  .exact .inl (.inl (.inl h))
  .exact .inl (.inl (.inr h))
  .exact .inl (.inr h)
  show .inr h
 show⟨by simp;ext,λl nd h=>?_,λl nd h g=>q l nd (λw=>by rw[h,e]) g⟩;have:=wj nd λw hw=>hm w ((e w).mp (h w hw))
 ext
noncomputable def pz:List (Str×Int)->Str->Int
 | [],_=>1
 | p::r,w=>if p.1=w then p.2 else pz r w
def xZ:eA:=λds Q=>∃(c:cP)(w:Str),ds=[c.obj,.str w]/\Q (.fz (.int (pz c.wide w)))
def E9:TX:=(cQ (iG (gu (fK "wide" (cx 0))) (iS 2 (dX (cZ 2) (dX (cZ 3) hE))) (fT (dn (cE oEq (cx 2) (cx 1))) (fB (cx 3)) gv))
 (fB (dC (.int 1))))
theorem U9:gA 2 xZ E9 ["channel","name","wide_name","width"]:=by
 intro ds f hl h;obtain⟨c,w,rfl,q⟩:=h;show E9 _ [.fz c.obj,.fz (.str w),.un,.un];unfold E9;walk_at"px";show rL c.wide uV (λg h=>?_) (λi d=>∃a b:Sl,d=[.fz c.obj,.fz (.str w),a,b]/\pz c.wide w=pz (c.wide.drop i) w) ⟨_,_,rfl,rfl⟩ ?_ ?_
 .unfold cP.obj;walk_at"px";show⟨_,rfl,h⟩
 .rintro i x d hx ⟨a,b,rfl,hd⟩;obtain⟨hi,e⟩:=ar.mp hx;rw[bN hi,e] at hd;unfold uV;walk_at"px";by_cases hw:x.1=w
  .rw[if_pos hw];simp only[pz,if_pos hw] at hd;rw[hd] at q;show q
  rw[if_neg hw];simp only[pz,if_neg hw] at hd;show⟨_,_,rfl,hd⟩
 rintro d ⟨a,b,rfl,hd⟩;rw[List.drop_length] at hd;simp only[pz] at hd;rw[hd] at q;walk_at"go";show q
structure Pc where
 n:Option Str
 l:Int
 r:Int
 k:Int
 deriving DecidableEq
noncomputable def iE(p:Pc):D:=.tup [dO p.n,.int p.l,.int p.r,.int p.k]
noncomputable def ic(ps:List Pc):D:=.lst (ps.map iE)
noncomputable def dJ:Option Int->D
 | none=>.non
 | some i=>.int i
noncomputable def yH(p:Pc)(c:Int):Bool:=decide (p.l<=c)&&decide (c<=p.r)
noncomputable def yG(p q:Pc):Option Int:=
 if (if q.l>p.l then q.l else p.l)>(if q.r<p.r then q.r else p.r) then none else some (if q.l>p.l then q.l else p.l)
def zz:eA:=λds Q=>∃p q:Pc,ds=[iE p,iE q]/\Q (.fz (dJ (yG p q)))
def Fe:TX:=(cQ (eu 2 (eW pC (cB (cE dA (cx 0) (dC (.int 1))) (cB (cE dA (cx 1) (dC (.int 1))) cH))))
 (cQ (fT (dn (cE (jn λi j=>.bl (decide (j<i))) (cx 2) (eW p6 (cB (cE dA (cx 0) (dC (.int 2))) (cB (cE dA (cx 1) (dC (.int 2))) cH))))) (fB (dC .non)) gv)
 (fB (cx 2))))
theorem Vf:gA 2 zz Fe ["one","other","column"]:=by
 intro ds d hl h;obtain⟨p,q,rfl,Q⟩:=h;show Fe _ [.fz (iE p),.fz (iE q),.un];unfold Fe iE;walk_at"px";show⟨_,rfl,_,rfl,?_⟩;simp only[pC,xN,Iq];walk_at"go";show⟨_,rfl,_,rfl,?_⟩;try unfold p6
 walk_at"px";unfold yG at Q;generalize (if q.l>p.l then q.l else p.l)=a at Q ⊢;generalize (if q.r<p.r then q.r else p.r)=b at Q ⊢;by_cases h:b<a
 .rw[if_pos h] at Q;rw[if_pos h];show Q
 rw[if_neg h] at Q;rw[if_neg h];walk_at"go";show Q
theorem Lh{b:Type}(f:b->List Int):∀L:List b,nK (L.map λa=>D.tup ((f a).map D.int))=some (L.map f)
 | []=>rfl
 | a::L=>by
  rw[ax,ax];unfold nK;rw[wx,Lh f L]
noncomputable def kG(ps:List Pc)(n:Option Str)(c:Int):List Nat:=(ps.zipIdx.filter λp=>decide (p.1.n=n)&&yH p.1 c).map (·.2)
def wt:eA:=λds Q=>∃(ps:List Pc)(n:Option Str)(c:Int),ds=[ic ps,dO n,.int c]/\ps.length<=100000/\Q (.ow ((kG ps n c).map dN))
def Fd:TX:=(fB (fD (tx (cB (cx 0) cH)) [none,none,some 1,some 2] (iS 2 (dX (cZ 0) (dX (cZ 1) hE))) (oP (dn (cE oEq (cE dA (cx 1) (dC (.int 0))) (cx 2))) (dn (BW (jn λi j=>.bl (decide (i<=j))) (jn λi j=>.bl (decide (i<=j))) (cE dA (cx 1) (dC (.int 1))) (cx 3) (cE dA (cx 1) (dC (.int 2)))))) (cx 0)))
theorem Ve:gA 3 wt Fd ["pieces","name","column"]:=by
 intro ds j hl h;obtain⟨ps,n,c,rfl,i,q⟩:=h;show Fd _ [.fz (ic ps),.fz (dO n),.fz (.int c)];unfold Fd ic;have big:=gU;walk_at"px";show oT ps.zipIdx (λp=>.tup [.int (p.2:Nat),iE p.1]) (λp=>dN p.2) (λp=>decide (p.1.n=n)&&yH p.1 c) (λm h=>?_) (by simp;ext) (λp g o s k1 e=>?_) ?_
 .walk_at"px";rw[J6];show h
 .unfold iE;walk_at"px";show⟨_,rfl,?_⟩;walk_at"px";unfold yH at k1 e;by_cases b:p.1.n=n
  .rw[if_pos b];show⟨_,rfl,?_⟩;walk_at"px";by_cases d:p.1.l<=c
   .rw[if_pos d];show⟨_,rfl,?_⟩;walk_at"px";by_cases f:c<=p.1.r
    .rw[if_pos f];show k1 (by simp[b,d,f])
    rw[if_neg f];show e (by simp[b,d,f])
   rw[if_neg d];show e (by simp[b,d])
  rw[if_neg b];show e (by simp[b])
 unfold kG at q;rw[aR] at q;show q
theorem R6{b:Type}{e:lP}{m:List (Option Nat)}{g:jx}{te:TD}{a:Ev}{Q:R->Prop}(L:List b)(c:b->D)(f:b->List D)(hw:∀j:List D->Prop,j (L.map c)->e a j)(n:L.length<=sizeLine)
  (h:∀x∈L,∀(k:List D->Prop),k (f x)->g (c x) (hJ m a) λl=>te l λr=>match r with | .ow es=>k es | _=>False) (q:Q (.ov (.ll (L.map f)))):yV e m g jq te a Q:=by
 unfold yV;show hw _ ⟨λi acc=>acc=(L.take i).map f,by simp,λi d acc hd ha=>?_,λacc ha=>?_⟩
 .subst ha;rw[aJ] at hd;cases hx:L[i]? with
  | none=>rw[hx] at hd;cases hd
  | some x=>
   rw[hx] at hd;cases hd;have o:i<L.length:=(ar.mp hx).1;have:=h x (aI hx) (λes=>((L.take i).map f).length<sizeLine/\(L.take i).map f++[es]=(L.take (i+1)).map f) ⟨by simp;ext,by rw[aY,hx];simp⟩;show this
 subst ha;simpa using q
noncomputable abbrev Tr:=Nat×Nat×Int
noncomputable def dT(t:Tr):D:=.tup [.int t.1,.int t.2.1,.int t.2.2]
noncomputable def og(ts:List Tr):D:=.lst (ts.map dT)
def DQ(n:Nat)(ts:List Tr):Prop:=∀t∈ts,t.1<n/\t.2.1<n
noncomputable def keys(a:List (Nat×Int)):List Nat:=a.map (·.1)
theorem Jj{n k:Nat}(h:k<n):pP n (k:Int)=some k:=by
 unfold pP;rw[if_pos (by ext),if_pos (by ext)];simp
theorem R5{a:Type}(n:Nat)(f:Nat->a)(u:Nat)(v:a):((List.range n).map f).set u v=(List.range n).map λx=>if x=u then v else f x:=by
 apply List.ext_getElem?;intro i;rw[List.getElem?_set,aJ,aJ];by_cases hi:i<n
 .rw[List.getElem?_range hi];by_cases h:u=i
  .subst h;simp[hi]
  rw[if_neg h];simp[Ne.symm h]
 rw[List.getElem?_eq_none (by simpa using hi)];simp only[Option.map_none,ae,br];split
 .rename_i h;rw[if_neg (by ext)]
 rfl
theorem RD{a:Type}{n:Nat}(f:Nat->a){u:Nat}(h:u<n):((List.range n).map f)[u]?=some (f u):=by rw[aJ,List.getElem?_range h];rfl
theorem R4{a:Type}{n:Nat}(f:Nat->a){u:Nat}(h:u<n):fc ((List.range n).map f) (u:Int)=some (f u):=by
 rw[Cg,kd (by simpa using h)];simp
noncomputable def rn:List Int->Option (Int×Int)
 | []=>none
 | a::r=>if a=(a::r).getLast (by simp) then none else some (a,(a::r).getLast (by simp))
theorem Qz(p:List Int):yI p=match rn p with | none=>.non | some q=>.tup [.int q.1,.int q.2]:=by
 cases p with
 | nil=>rfl
 | cons a r=>
  simp only[yI,rn];by_cases h:a=(a::r).getLast (by simp)
  .rw[if_pos h,if_pos h]
  rw[if_neg h,if_neg h]
noncomputable def oF(c:cP)(w:Str):List Int:=(c.cR.filter λp=>decide (p.2=w)).map (·.1)
def zM:eA:=λds Q=>∃(c:cP)(w:Str),ds=[c.obj,.str w]/\c.cR.length<=100/\Q (.ow ((oF c w).map D.int))
def FV:TX:=(fB (fD (gu (fK "bends" (cx 0))) [none,none,some 1] (iS 2 (dX (cZ 0) (dX (cZ 1) hE))) (dn (cE oEq (cx 1) (cx 2))) (cx 0)))
theorem Wq:gA 2 zM FV ["channel","name"]:=by
 intro ds g hl h;obtain⟨c,w,rfl,f,q⟩:=h;show FV _ [.fz c.obj,.fz (.str w)];unfold FV;have big:=gU;walk_at"px";show oT c.cR qv (λp=>.int p.1) (λp=>decide (p.2=w)) (λi h=>?_) (by ext) (λp e j m k1 d=>?_) ?_
 .unfold cP.obj;walk_at"px";show⟨_,rfl,h⟩
 .unfold qv;walk_at"px";by_cases b:p.2=w
  .rw[if_pos b];show k1 (by simpa using b)
  rw[if_neg b];show d (by simpa using b)
 unfold oF at q;rw[aR] at q;show q
noncomputable def rm(w:Str)(k:Int)(bs:List Int):List Pc:=(bs.zip (bs.drop 1)).map λp=>⟨some w,p.1,p.2,k⟩
noncomputable def px(c:cP)(cC:Bool)(w:Str):List Pc:=match rn (pl c w) with
 | none=>[]
 | some p=>rm w (pz c.wide w) ([p.1]++(if cC then oF c w else [])++[p.2])
def wu:eA:=λds Q=>∃(c:cP)(w:Str)(cC:Bool),ds=[c.obj,.str w,.bl cC]/\j0 c/\c.cR.length<=100/\Q (.ow ((px c cC w).map iE))
def FG:TX:=(cQ (eu 3 (eF 2 zW (cB (cx 0) (cB (cx 1) cH))))
 (cQ (fT (dn (cE (jV false) (cx 3) (dC .non))) (fB (gw cH)) gv)
 (cQ (eu 4 (tZ (dn (cx 2)) (eF 2 zM (cB (cx 0) (cB (cx 1) cH))) (gw cH)))
 (cQ (eu 5 (cE eB (cE eB (gw (cB (cE dA (cx 3) (dC (.int 0))) cH)) (cx 4)) (gw (cB (cE dA (cx 3) (dC (.int 1))) cH))))
 (cQ (eu 6 (eF 2 xZ (cB (cx 0) (cB (cx 1) cH))))
 (fB (fD (pB (cB (cx 5) (cB (lO (cx 5) (kL (dC (.int 1))) mD) cH))) [none,none,some 1,some 6] (iS 2 (dX (cZ 0) (dX (cZ 1) hE))) jq (kz (cB (cx 2) (cB (cx 0) (cB (cx 1) (cB (cx 3) cH))))))))))))
theorem VX:gA 3 wu FG ["channel","name","bent","stretch","cuts","borders","width"]:=by
 intro ds d hl h;obtain⟨c,w,cC,rfl,sh,b,q⟩:=h;show FG _ [.fz c.obj,.fz (.str w),.fz (.bl cC),.un,.un,.un,.un];unfold FG;have big:=gU;walk_at"px";show⟨c,w,rfl,sh,?_⟩;rw[Qz];unfold px at q;generalize rn (pl c w)=st at q ⊢;cases st with
 | none=>
  walk_at"go";show⟨by ext,q⟩
 | some p=>
  walk_at"go";have e:(if cC then oF c w else []).length<=100:=by
   split
   .unfold oF;rw[ae];show aL (ba _ _) b
   simp
  have fin:∀cs:List Int,cs=(if cC then oF c w else [])->oQ (cQ (eu 5 (cE eB (cE eB (gw (cB (cE dA (cx 3) (dC (.int 0))) cH)) (cx 4)) (gw (cB (cE dA (cx 3) (dC (.int 1))) cH))))
 (cQ (eu 6 (eF 2 xZ (cB (cx 0) (cB (cx 1) cH))))
 (fB (fD (pB (cB (cx 5) (cB (lO (cx 5) (kL (dC (.int 1))) mD) cH))) [none,none,some 1,some 6] (iS 2 (dX (cZ 0) (dX (cZ 1) hE))) jq (kz (cB (cx 2) (cB (cx 0) (cB (cx 1) (cB (cx 3) cH))))))))) { nx:=λ_=>d (.fz .non),rt:=d } [.fz c.obj,.fz (.str w),.fz (.bl cC),.fz (.tup [.int p.1,.int p.2]),.fz (.lst (cs.map D.int)),.un,.un]:=by
   intro cs i;rw[<-i] at q e;walk_at"go";show⟨.int p.1,rfl,by ext,by simp;ext,.int p.2,rfl,by ext,by simp;ext,?_⟩;walk_at"go";show⟨c,w,rfl,?_⟩;walk_at"go";have f:(D.int p.1::(List.map D.int cs++[D.int p.2]))=([p.1]++cs++[p.2]).map D.int:=by simp
   simp only[f];have g:([p.1]++cs++[p.2]).length<=102:=by simp;ext
   dsimp only at q;generalize [p.1]++cs++[p.2]=bs at q g ⊢;show mv (bs.zip (bs.drop 1)) (λp=>.tup [.int p.1,.int p.2]) (λp=>iE ⟨some w,p.1,p.2,pz c.wide w⟩) (λm h=>?_) (by simp;ext) (λx hx n k=>?_) ?_
   .walk_at"px";rw[CA _ (by decide)];have j:Int.toNat 1=1:=rfl;rw[wa];show h
   .walk_at"px";show⟨by ext,k⟩
   unfold rm at q;rw[aR] at q;show q
  cases cC with
  | true=>
   walk_at"go";show⟨c,w,rfl,b,?_⟩;show fin _ rfl
  | false=>
   walk_at"go";show⟨by ext,fin [] rfl⟩
structure xu(c:cP)(l:List Str):Prop where
 nd:l.Nodup
 mem:∀w,w∈l↔lW c w
 F7:sortedS l=true
noncomputable def vV(c:cP):List Pc:=c.keeps.map λk=>⟨none,k.1,k.2.1,k.2.2⟩
noncomputable def cK(c:cP)(cC:Bool)(l:List Str):List Pc:=vV c++l.flatMap (px c cC)
theorem ED(c:cP)(cC:Bool)(w:Str):(px c cC w).length<=c.cR.length+1:=by
 unfold px;split
 .simp
 unfold rm;have:(oF c w).length<=c.cR.length:=by unfold oF;rw[ae];show ba _ _
 have:(if cC then oF c w else []).length<=c.cR.length:=by split<;>simp[*]
 simp;ext
theorem J4{b c:Type}(f:b->List c)(k:Nat)(h:∀a,(f a).length<=k):∀l:List b,(l.flatMap f).length<=l.length*k:=by
 intro l;induction l with
 | nil=>simp
 | cons a r d=>
  rw[List.flatMap_cons,ay,aD,Nat.succ_mul];have:=h a;ext
def zu:eA:=λds Q=>∃(c:cP)(cC:Bool)(ws:List Str),ds=[c.obj,.bl cC]/\j0 c/\c.cR.length<=100/\c.keeps.length<=100/\ws.length<=40/\(∀w,lW c w->w∈ws)/\∀l,xu c l->Q (.ow ((cK c cC l).map iE))
def CC:TX:=(cQ (jr 2 (fD (gu (fK "keeps" (cx 0))) [none,none,none] (iS 3 (dX (cZ 0) (dX (cZ 1) (dX (cZ 2) hE)))) jq (kz (cB (dC .non) (cB (cx 0) (cB (cx 1) (cB (cx 2) cH)))))))
 (cQ (iG (gu (eF 1 wq (cB (cx 0) cH))) (cZ 3) (va 2 (eF 3 wu (cB (cx 0) (cB (cx 3) (cB (cx 1) cH))))))
 (pD 2)))
theorem Vd:gA 2 zu CC ["channel","bent","pieces","name"]:=by
 intro ds s hl h;obtain⟨c,cC,ws,rfl,sh,g,f,e,hm,q⟩:=h;show CC _ [.fz c.obj,.fz (.bl cC),.un,.un];unfold CC;have big:=gU;walk_at"px";show mv c.keeps Bg (λk=>iE ⟨none,k.1,k.2.1,k.2.2⟩) (λm h=>?_) (by ext) (λx hx u k=>?_) ?_
 .unfold cP.obj;walk_at"px";show⟨_,rfl,h⟩
 .unfold Bg;walk_at"px";show⟨by ext,k⟩
 have j:c.keeps.map (λk=>iE ⟨none,k.1,k.2.1,k.2.2⟩)=(vV c).map iE:=by unfold vV;rw[aR];rfl
 rw[j];walk_at"go";show zi (λds=>∃l,xu c l/\ds=l.map D.str) (λm h=>?_) ?_
 .walk_at"px";show⟨c,ws,rfl,sh,e,hm,λl nd mem F7=>h _ ⟨l,⟨nd,mem,F7⟩,rfl⟩⟩
 rintro _ ⟨l,d,rfl⟩;have t:l.length<=40:=aL (wj d.nd λw hw=>hm w ((d.mem w).mp hw)) e;show Fb l D.str (λi b=>∃a:Sl,b=[.fz c.obj,.fz (.bl cC),.ow ((vV c++(l.take i).flatMap (px c cC)).map iE),a]) ⟨.un,by simp⟩ ?_ ?_
 .rintro i x b hx ⟨a,rfl⟩;walk_at"px";show⟨c,x,cC,rfl,sh,g,?_⟩;have r:=J4 (px c cC) 101 (λw=>by have:=ED c cC w;ext) (l.take i);have p:=ED c cC x;have o:(vV c).length<=100:=by unfold vV;rw[ae];show f
  have n:(l.take i).length<=40:=by rw[aP];ext
  show⟨by simp only[ay,ae];ext,.fz (.str x),?_⟩;rw[aY,hx];simp[List.flatMap_append]
 rintro b ⟨a,rfl⟩;walk_at"go";rw[bL];show q l d
noncomputable def vd(p:Pc)(ps:List Pc):List (Nat×Option Int):=(ps.zipIdx.filter λq=>q.1.n.isSome).map λq=>(q.2,yG p q.1)
noncomputable def vP(p:Pc)(ps:List Pc):List (Nat×Int):=(vd p ps).filterMap λx=>x.2.map λc=>(x.1,c)
def zL:eA:=λds Q=>∃(p:Pc)(ps:List Pc),ds=[iE p,ic ps]/\ps.length<=1000/\Q (.ow ((vP p ps).map λx=>.tup [dN x.1,.int x.2]))
def FU:TX:=(cQ (eu 2 (fD (tx (cB (cx 1) cH)) [none,none,some 0] (iS 2 (dX (cZ 0) (dX (cZ 1) hE))) (dn (cE (jV true) (cE dA (cx 1) (dC (.int 0))) (dC .non))) (kz (cB (cx 0) (cB (eF 2 zz (cB (cx 2) (cB (cx 1) cH))) cH)))))
 (fB (fD (gu (cx 2)) [none,none] (iS 2 (dX (cZ 0) (dX (cZ 1) hE))) (dn (cE (jV true) (cx 1) (dC .non))) (kz (cB (cx 0) (cB (cx 1) cH))))))
theorem Wo:gA 2 zL FU ["keep","pieces","commons"]:=by
 intro ds u hl h;obtain⟨p,ps,rfl,i,q⟩:=h;show FU _ [.fz (iE p),.fz (ic ps),.un];unfold FU;have big:=gU;walk_at"px";show oT ps.zipIdx (λp=>.tup [.int (p.2:Nat),iE p.1]) (λq=>.tup [dN q.2,dJ (yG p q.1)]) (λq=>q.1.n.isSome) (λo h=>?_) (by simp;ext) (λx hx s t k1 d=>?_) ?_
 .unfold ic;walk_at"px";rw[J6];show h
 .show iS 2 (dX (cZ 0) (dX (cZ 1) hE)) (.tup [.int (x.2:Nat),iE x.1]) _ _;walk_at"px";have e:iE x.1=.tup [dO x.1.n,.int x.1.l,.int x.1.r,.int x.1.k]:=rfl;simp only[e];show⟨_,rfl,?_⟩;cases b:x.1.n with
  | none=>simp only[dO];walk_at"px";show d (by rw[b];rfl)
  | some w=>
   simp only[dO];walk_at"px";have j:D.tup [D.str w,D.int x.1.l,D.int x.1.r,D.int x.1.k]=iE x.1:=by rw[e,b];rfl
   rw[j];show⟨p,x.1,rfl,?_⟩;show⟨by ext,k1 (by rw[b];rfl)⟩
 have m:(ps.zipIdx.filter λq=>q.1.n.isSome).map (λq=>D.tup [dN q.2,dJ (yG p q.1)])=(vd p ps).map λx=>.tup [dN x.1,dJ x.2]:=by unfold vd;rw[aR];rfl
 rw[m];have g:(vd p ps).length<=1000:=by
  unfold vd;rw[ae];show aL (ba _ _) ?_;simpa using i
 unfold vP at q;generalize vd p ps=cs at q g ⊢;walk_at"go";show B3 cs (λx=>.tup [dN x.1,dJ x.2]) (λx=>(x.2.map λc=>(x.1,c)).map λx=>.tup [dN x.1,.int x.2]) (λo h=>?_) (by ext) (λx hx s t k1 d=>?_) ?_
 .walk_at"px";show h
 .walk_at"px";cases f:x.2 with
  | none=>simp only[dJ];walk_at"px";show d (by rw[f];rfl)
  | some c=>
   simp only[dJ];walk_at"px";show⟨by ext,k1 _ (by rw[f];rfl)⟩
 rw[List.map_filterMap] at q;show q
theorem Ji(p:Pc)(ps:List Pc):(vP p ps).length<=ps.length:=by
 unfold vP vd;show aL (List.length_filterMap_le _ _) ?_;rw[ae];show aL (ba _ _) ?_;simp
noncomputable def tF(ps:List Pc)(p:Pc×Nat):List Tr:=if p.1.n=none then(vP p.1 ps).map λx=>(p.2,x.1,x.2) else []
noncomputable def kn(ps:List Pc):List Tr:=ps.zipIdx.flatMap (tF ps)
theorem LU(ps:List Pc)(p:Pc×Nat):(tF ps p).length<=ps.length:=by
 unfold tF;split
 .rw[ae];show Ji _ _
 simp
theorem x9{b c:Type}(f:b->List c)(k:Nat)(h:∀a,(f a).length<=k):∀l:List b,(l.flatMap f).length<=l.length*k:=by
 intro l;induction l with
 | nil=>simp
 | cons a r d=>
  rw[List.flatMap_cons,ay,aD,Nat.succ_mul];have:=h a;ext
def zK:eA:=λds Q=>∃ps:List Pc,ds=[ic ps]/\ps.length<=1000/\Q (.ow ((kn ps).map dT))
def FT:TX:=(cQ (jr 1 (gw cH))
 (cQ (iG (tx (cB (cx 0) cH)) (iS 2 (dX (cZ 2) (dX (cZ 3) hE))) (fT (dn (cE (jV false) (cE dA (cx 3) (dC (.int 0))) (dC .non))) (va 1 (fD (gu (eF 2 zL (cB (cx 3) (cB (cx 0) cH)))) [none,none,some 2] (iS 2 (dX (cZ 0) (dX (cZ 1) hE))) jq (kz (cB (cx 2) (cB (cx 0) (cB (cx 1) cH)))))) gv))
 (pD 1)))
theorem Wn:gA 1 zK FT ["pieces","triples","upper","keep"]:=by
 intro ds s hl h;obtain⟨ps,rfl,g,q⟩:=h;show FT _ [.fz (ic ps),.un,.un,.un];unfold FT;have big:=gU;walk_at"px";show⟨by ext,?_⟩;walk_at"go";show Cz ps iE (λm h=>?_) (λi e=>∃a b:Sl,e=[.fz (ic ps),.ow ((((ps.zipIdx.take i).flatMap (tF ps))).map dT),a,b]) ⟨.un,.un,by simp⟩ ?_ ?_
 .unfold ic;walk_at"px";show h
 .rintro i x e hx ⟨a,b,rfl⟩;have hi:i<ps.length:=(ar.mp hx).1;have hz:ps.zipIdx[i]?=some (x,i):=by rw[List.getElem?_zipIdx,hx];simp
  have tk:ps.zipIdx.take (i+1)=ps.zipIdx.take i++[(x,i)]:=by rw[aY,hz];rfl
  have len:=x9 (tF ps) 1000 (λa=>aL (LU ps a) g) (ps.zipIdx.take i);have o:(ps.zipIdx.take i).length<=1000:=by rw[aP];ext
  rw[tk,List.flatMap_append,List.flatMap_cons,List.flatMap_nil,a9];generalize (ps.zipIdx.take i).flatMap (tF ps)=acc at len ⊢;have f:iE x=.tup [dO x.n,.int x.l,.int x.r,.int x.k]:=rfl;walk_at"px";simp only[f];show⟨_,rfl,?_⟩;cases d:x.n with
  | some w=>
   simp only[dO];walk_at"px";show⟨.fz (.int i),.fz (iE x),?_⟩;unfold tF;rw[if_neg (by rw[d];show λz=>nomatch z),a9,f,d];rfl
  | none=>
   simp only[dO];walk_at"px";have j:D.tup [D.non,D.int x.l,D.int x.r,D.int x.k]=iE x:=by rw[f,d];rfl
   rw[j];have bl:=Ji x ps;show mv (vP x ps) (λy=>.tup [dN y.1,.int y.2]) (λy=>dT (i,y.1,y.2)) (λm h=>?_) (by ext) (λy p t k=>?_) ?_
   .walk_at"px";show⟨x,ps,rfl,g,h⟩
   .unfold dN;walk_at"px";show⟨by ext,k⟩
   show⟨by simp only[ae];ext,.fz (.int i),.fz (iE x),?_⟩;unfold tF;rw[if_pos (by show d),aE,aR];rfl
 rintro e ⟨a,b,rfl⟩;walk_at"go";rw[show ps.length=ps.zipIdx.length by simp,bL];show q
noncomputable def qK(c:cP)(ps:List Pc)(n:Nat):List Tr:=match c.top[n]?,c.cw[n]? with
 | some (some u),some (some v)=>if u=v then [] else(kG ps (some u) n).flatMap λa=>(kG ps (some v) n).map λb=>(a,b,(n:Int))
 | _,_=>[]
noncomputable def nW(c:cP)(ps:List Pc):List Tr:=(List.range c.top.length).flatMap (qK c ps)
theorem zc(ps:List Pc)(n:Option Str)(c:Int):(kG ps n c).length<=ps.length:=by
 unfold kG;rw[ae];show aL (ba _ _) ?_;simp
theorem Lg(c:cP)(ps:List Pc)(n:Nat):(qK c ps n).length<=ps.length*ps.length:=by
 unfold qK;split
 .split
  .simp
  rename_i u v _ _ _;show aL (x9 _ ps.length (λa=>by rw[ae];show zc _ _ _) _) ?_;show Nat.mul_le_mul_right _ (zc _ _ _)
 simp
def z9:eA:=λds Q=>∃(c:cP)(ps:List Pc),ds=[c.obj,ic ps]/\j0 c/\ps.length<=500/\Q (.ow ((nW c ps).map dT))
def Fu:TX:=(cQ (jr 2 (gw cH))
 (cQ (iG (mK (cB (eW mj (cB (fK "top" (cx 0)) cH)) cH)) (cZ 3) (cQ (eu 4 (cE dA (fK "top" (cx 0)) (cx 3)))
 (cQ (eu 5 (cE dA (fK "bottom" (cx 0)) (cx 3)))
 (fT (oP (dn (cE (jV true) (cx 4) (dC .non))) (oP (dn (cE (jV true) (cx 5) (dC .non))) (dn (cE yf (cx 4) (cx 5))))) (cQ (eu 6 (eF 3 wt (cB (cx 1) (cB (cx 5) (cB (cx 3) cH)))))
 (iG (gu (eF 3 wt (cB (cx 1) (cB (cx 4) (cB (cx 3) cH))))) (cZ 7) (va 2 (fD (gu (cx 6)) [none,some 7,some 3] (cZ 0) jq (kz (cB (cx 1) (cB (cx 0) (cB (cx 2) cH)))))))) gv))))
 (pD 2)))
theorem WL:gA 2 z9 Fu ["channel","pieces","triples","column","upper_name","lower_name","lowers","upper"]:=by
 intro ds F hl h;obtain⟨c,ps,rfl,sh,p,q⟩:=h;show Fu _ [.fz c.obj,.fz (ic ps),.un,.un,.un,.un,.un,.un];unfold Fu;have big:=gU;have hw:=sh.w;walk_at"px";show⟨by ext,?_⟩;walk_at"go";show uu c.top.length (λr h=>?_) (λi g=>∃a b d e f:Sl,g=[.fz c.obj,.fz (ic ps),.ow (((List.range i).flatMap (qK c ps)).map dT),a,b,d,e,f]) ⟨.un,.un,.un,.un,.un,by simp⟩ ?_ ?_
 .unfold cP.obj;walk_at"px";show⟨_,rfl,?_⟩;unfold dP;walk_at"px";rw[ae];show⟨by ext,by ext,by simpa using h⟩
 .rintro i g hi ⟨a,b,d,e,f,rfl⟩;have t:i<c.cw.length:=by rw[sh.b];show hi
  have sq:ps.length*ps.length<=250000:=Nat.mul_le_mul p p;have len:=x9 (qK c ps) 250000 (λa=>aL (Lg c ps a) sq) (List.range i);rw[br] at len;rw[List.range_succ,List.flatMap_append,List.flatMap_cons,List.flatMap_nil,a9];generalize (List.range i).flatMap (qK c ps)=acc at len ⊢;walk_at"px";unfold cP.obj;walk_at"px";show⟨_,rfl,?_⟩;unfold dP;walk_at"px";show⟨_,kd hi,?_⟩;walk_at"go";show⟨_,rfl,?_⟩;walk_at"px";show⟨_,kd t,?_⟩;have obj:D.obj (Str.ofString "Channel") [(Str.ofString "top",D.lst (c.top.map dO)),(Str.ofString "bottom",D.lst (c.cw.map dO)),(Str.ofString "left",dS c.left),(Str.ofString "right",dS c.right),(Str.ofString "wide",dW c.wide),(Str.ofString "bends",dB c.cR),(Str.ofString "keeps",dK c.keeps)]=c.obj:=rfl;rw[obj];have n:qK c ps i=match c.top[i],c.cw[i] with | some u,some v=>(if u=v then [] else(kG ps (some u) i).flatMap λa=>(kG ps (some v) i).map λb=>(a,b,(i:Int))) | _,_=>[]:=by
   unfold qK;rw[ai hi,ai t];cases c.top[i]<;>cases c.cw[i]<;>rfl
  generalize c.top[i]=x at n ⊢;generalize c.cw[i]=y at n ⊢;generalize qK c ps i=new at n ⊢;subst n;cases x with
  | none=>
   simp only[dO];walk_at"go";show⟨_,_,_,_,_,by rw[a9]⟩
  | some u=>
   cases y with
   | none=>
    simp only[dO];walk_at"go";show⟨_,_,_,_,_,by rw[a9]⟩
   | some v=>
    simp only[dO];walk_at"go";by_cases s:u=v
    .simp only[s,cq,Bool.not_true,aq,aQ,aX];show⟨_,_,_,_,_,by rw[a9]⟩
    simp only[s,bR,Bool.not_false,aQ,aX];show⟨ps,some v,i,rfl,by ext,?_⟩;walk_at"go";have l1:=zc ps (some u) i;have A:=zc ps (some v) i;have o:=x9 (λa=>(kG ps (some v) i).map λb=>((a,b,(i:Int)):Tr)) 500 (λa=>by rw[ae];ext);generalize kG ps (some v) i=m at A o ⊢;show rL (kG ps (some u) i) dN (λr h=>?_) (λj g=>∃f:Sl,g=[.fz c.obj,.fz (ic ps),.ow ((acc++((kG ps (some u) i).take j).flatMap λa=>m.map λb=>(a,b,(i:Int))).map dT),.fz (.int i),.fz (.str u),.fz (.str v),.fz (.lst (m.map dN)),f]) ⟨_,by rw[List.take_zero,List.flatMap_nil,a9]⟩ ?_ ?_
    .walk_at"px";show⟨ps,some u,i,rfl,by ext,h⟩
    .rintro j x g hx ⟨f,rfl⟩;have z:=o ((kG ps (some u) i).take j);have B:((kG ps (some u) i).take j).length<=500:=by rw[aP];ext
     rw[aY,hx,List.flatMap_append];generalize ((kG ps (some u) i).take j).flatMap (λa=>m.map λb=>((a,b,(i:Int)):Tr))=E at z ⊢;unfold dN;walk_at"px";show mv m dN (λb=>dT (x,b,(i:Int))) (λr h=>?_) (by ext) (λb C H k=>?_) ?_
     .walk_at"px";show h
     .unfold dN;walk_at"px";show⟨by ext,k⟩
     show⟨by simp only[ae,ay];ext,.fz (.int x),?_⟩;simp
    rintro g ⟨f,rfl⟩;show⟨_,_,_,_,_,by rw[bL]⟩
 rintro g ⟨a,b,d,e,f,rfl⟩;walk_at"go";show q
noncomputable def kT(t:Tr):List Int:=[(t.1:Int),(t.2.1:Int),t.2.2]
structure Above(c:cP)(ps:List Pc)(ts:List Tr):Prop where
 pm:ts.Perm (nW c ps++kn ps)
 F7:ts.Pairwise λx y=>HT.c7 (kT x) (kT y)=false
def zF:eA:=λds Q=>∃(c:cP)(ps:List Pc),ds=[c.obj,ic ps]/\j0 c/\ps.length<=500/\∀ts,Above c ps ts->Q (.ow (ts.map dT))
def E8:TX:=(fB (eW Cr (cB (cE eB (eF 2 z9 (cB (cx 0) (cB (cx 1) cH))) (eF 1 zK (cB (cx 1) cH))) cH)))
theorem J3(c:cP)(ps:List Pc)(sh:j0 c)(b:ps.length<=500):(nW c ps).length<=10000000:=by
 have sq:ps.length*ps.length<=250000:=Nat.mul_le_mul b b;have:=x9 (qK c ps) 250000 (λa=>aL (Lg c ps a) sq) (List.range c.top.length);rw[br] at this;have:=sh.w;unfold nW;ext
theorem Lf(ps:List Pc)(b:ps.length<=500):(kn ps).length<=250000:=by
 have:=x9 (tF ps) 500 (λa=>aL (LU ps a) b) ps.zipIdx;rw[List.length_zipIdx] at this;unfold kn;ext
theorem U8:gA 2 zF E8 ["channel","pieces"]:=by
 intro ds n hl h;obtain⟨c,ps,rfl,sh,b,q⟩:=h;show E8 _ [.fz c.obj,.fz (ic ps)];unfold E8;have big:=gU;have l1:=J3 c ps sh b;have m:=Lf ps b;walk_at"px";show⟨c,ps,rfl,sh,b,?_⟩;walk_at"px";show⟨ps,rfl,by ext,?_⟩;walk_at"px";show⟨by simp only[ay,ae];ext,?_⟩;rw[<-aE];have e:((nW c ps++kn ps).map dT)=(nW c ps++kn ps).map λa=>D.tup ((kT a).map D.int):=rfl
 rw[e];simp only[Cr,Lh];show⟨λt f=>?_,λj g d=>?_⟩
 .obtain⟨a,_,rfl⟩:=aM.mp f;simp[kT]
 obtain⟨ts,i,rfl⟩:=Lr g rfl;rw[aR];show q ts ⟨i,by rw[List.pairwise_map] at d;show d⟩
noncomputable def fv(ps:List Pc)(q:Nat):Pc:=ps[q]?.getD ⟨none,0,0,1⟩
noncomputable def gy(tr:List Int)(q:Nat):Int:=tr[q]?.getD 0
theorem xT{ps:List Pc}{q:Nat}(h:q<ps.length):fv ps q=ps[q]:=by unfold fv;rw[ai h];rfl
theorem BN{tr:List Int}{q:Nat}(h:q<tr.length):gy tr q=tr[q]:=by unfold gy;rw[ai h];rfl
theorem Jh{ws:List Str}{a:Nat}{c:cP}(g:eZ ws a c)(b:a<=40):j0 c:=⟨aL g.w2 b,g.bl,aL g.ll (by decide),aL g.rl (by decide)⟩
theorem J2{ws:List Str}{a:Nat}{c:cP}(g:eZ ws a c)(w:Str)(h:lW c w):w∈ws:=by
 rcases h with h | h | h | h
 .exact g.pt w h
 .exact g.pb w h
 .exact g.lw w h
 show g.rw_ w h
theorem IG{l:List Str}(h:l.Pairwise mP):l.Nodup:=List.Pairwise.imp (S:=(·≠·)) (λ{a b} h e=>by
 rw[e] at h;unfold mP at h;rw[Jl] at h;cases h) h
theorem Jg{a:Type}[DecidableEq a]{l:List a}(nd:l.Nodup)(w:a):l.count w=if w∈l then 1 else 0:=by
 by_cases h:w∈l
 .rw[if_pos h];have c:=(List.nodup_iff_count.mp nd) w;have b:=List.count_pos_iff.mpr h;ext
 rw[if_neg h,bS.mpr h]
theorem Le(c:cP)(w:Str)(k:Int):k∈pl c w↔k∈places c.top c.cw c.left c.right w:=by
 unfold pl places;simp only[aw];constructor
 .rintro((h | h) | h)
  .exact .inl (.inr h)
  .exact .inl (.inl h)
  show .inr h
 rintro((h | h) | h)
 .exact .inl (.inr h)
 .exact .inl (.inl h)
 show .inr h
theorem PR{c:cP}{w:Str}{k:Int}(h:k∈pl c w):lW c w:=by
 unfold pl at h;rcases aw.mp h with h | h
 .rcases aw.mp h with h | h
  .split at h
   .rename_i a;show .inr (.inr (.inl a))
   cases h
  obtain⟨n,b,_⟩:=aM.mp h;have:=(aT.mp b).2;simp only[Bool.or_eq_true,beq_iff_eq] at this;rcases this with h | h
  .exact .inl (aI h)
  show .inr (.inl (aI h))
 split at h
 .rename_i a;show .inr (.inr (.inr a))
 cases h
theorem Jf{ws:List Str}{d:Nat}{c:cP}(g:eZ ws d c)(s:d<=40){p:Int×Str}(i:p∈c.cR):lW c p.2/\∃a b,rn (pl c p.2)=some (a,b)/\a<p.1/\p.1<b:=by
 obtain⟨n,q,v,_,⟨m,M,⟨i1,o⟩,⟨f,k⟩,t,u⟩,_⟩:=g.be.at_ p i;have hw:=g.w2;have e:m∈pl c p.2:=by
  rw[Le];rcases aw.mp i1 with h | h
  .exact h
  simp at h;ext
 have M1:M∈pl c p.2:=by
  rw[Le];rcases aw.mp f with h | h
  .exact h
  simp at h;ext
 show⟨PR e,?_⟩;have up:=BF c p.2;generalize pl c p.2=l at e M1 up;cases l with
 | nil=>cases e
 | cons a r=>
  have l1:=zh up M M1;have j:a<=m:=by
   rcases au.mp e with h | h
   .omega
   have:=(bM.mp up).1 m h;ext
  show⟨a,(a::r).getLast (by simp),?_,by ext,by ext⟩;simp only[rn];rw[if_neg (by ext)]
def DW(c:cP):Prop:=∀(n:Nat)(u v:Str),c.top[n]?=some (some u)->c.cw[n]?=some (some v)->False
noncomputable def tf(p:Option Str×Option Str):Option Str:=match p.1 with
 | none=>p.2
 | some _=>none
def zV:eA:=λds Q=>∃(ws:List Str)(most:Nat)(c:cP),ds=[.lst c.parts]/\ws.length<=40/\most<=40/\eZ ws most c/\∀a,eZ ws most a->a.cR=[]->DW a->a.top.length=c.top.length->Q (.ow a.parts)
def FF:TX:=(cQ (xE (cx 0) (xB 7 (dX (cZ 1) (dX (cZ 2) (dX (cZ 3) (dX (cZ 4) (dX (cZ 5) (dX (cZ 6) (dX (cZ 7) hE)))))))))
 (cQ (eu 2 (fD (pB (cB (cx 1) (cB (cx 2) cH))) [none,none] (iS 2 (dX (cZ 0) (dX (cZ 1) hE))) jq (tZ (dn (cE (jV true) (cx 0) (dC .non))) (dC .non) (cx 1))))
 (cQ (eu 8 (eW uy (cB (fD (gu (cE eB (cE eB (cE eB (cx 1) (cx 2)) (cx 3)) (cx 4))) [none] (cZ 0) (dn (cE (jV true) (cx 0) (dC .non))) (cx 0)) cH)))
 (cQ (eu 9 (fD (gu (cx 8)) [none,some 1,some 2,some 3,some 4] (cZ 0) (dn (cE oEq (eF 5 vp (cB (cx 1) (cB (cx 2) (cB (cx 3) (cB (cx 4) (cB (cx 0) cH)))))) (dC (.int 1)))) (cx 0)))
 (cQ (eu 1 (fD (gu (cx 1)) [none,some 9] (cZ 0) jq (tZ (dn (cE (kW false) (cx 0) (cx 1))) (dC .non) (cx 0))))
 (cQ (eu 2 (fD (gu (cx 2)) [none,some 9] (cZ 0) jq (tZ (dn (cE (kW false) (cx 0) (cx 1))) (dC .non) (cx 0))))
 (cQ (eu 3 (fD (gu (cx 3)) [none,some 9] (cZ 0) (dn (cE (kW true) (cx 0) (cx 1))) (cx 0)))
 (cQ (eu 4 (fD (gu (cx 4)) [none,some 9] (cZ 0) (dn (cE (kW true) (cx 0) (cx 1))) (cx 0)))
 (cQ (eu 5 (fD (gu (cx 5)) [none,some 1,some 2,some 3,some 4] (cZ 0) (dn (cE (jn λi j=>.bl (decide (j<i))) (eF 5 vp (cB (cx 1) (cB (cx 2) (cB (cx 3) (cB (cx 4) (cB (cE dA (cx 0) (dC (.int 0))) cH)))))) (dC (.int 1)))) (cx 0)))
 (fB (gw (cB (cx 1) (cB (cx 2) (cB (cx 3) (cB (cx 4) (cB (cx 5) (cB (gw cH) (cB (cx 7) cH))))))))))))))))))
theorem VW:gA 1 zV FF ["_law_lists","_law_top","_law_bottom","_law_left","_law_right","_law_wide","_law_bends_here","_law_keeps_here","_law_some","_law_lone"]:=by
 intro ds Qr hl h;obtain⟨ws,most,c,rfl,nF,hm,g,q⟩:=h;show FF _ [.fz (.lst c.parts),.un,.un,.un,.un,.un,.un,.un,.un,.un];unfold FF;have big:=gU;have w2:=g.w2;have bl:=g.bl;unfold cP.parts;walk_at"px";unfold dP;walk_at"go";show mv (c.top.zip c.cw) (λp=>.tup [dO p.1,dO p.2]) (λp=>dO (tf p)) (λA h=>?_) (by simp;ext) (λp r B k=>?_) ?_
 .walk_at"px";rw[wa];show h
 .walk_at"px";unfold tf at k;cases d:p.1 with
  | none=>rw[d] at k;show k
  | some u=>rw[d] at k;show k
 rw[show(c.top.zip c.cw).map (λp=>dO (tf p))=((c.top.zip c.cw).map tf).map dO by rw[aR];rfl];have pb:gz ws ((c.top.zip c.cw).map tf):=λw hw=>by
  obtain⟨p,r,e⟩:=aM.mp hw;have:=(List.of_mem_zip r).2;unfold tf at e;cases d:p.1 with
  | none=>rw[d] at e;show g.pb w (by rw[<-e];show this)
  | some u=>rw[d] at e;cases e
 have nb:∀(n:Nat)(u v:Str),c.top[n]?=some (some u)->((c.top.zip c.cw).map tf)[n]?=some (some v)->False:=λn u v d m=>by
  rw[aJ] at m;obtain⟨p,r,e⟩:=Option.map_eq_some_iff.mp m;obtain⟨p1,p2⟩:=p;obtain⟨C,Z⟩:=List.getElem?_zip_eq_some.mp r;rw[d] at C;cases C;simp[tf] at e
 have E:((c.top.zip c.cw).map tf).length=c.top.length:=by simp;ext
 generalize (c.top.zip c.cw).map tf=bot at pb nb E ⊢;walk_at"go";have ll:=g.ll;have rl:=g.rl;show oT (c.top++bot++c.left.map some++c.right.map some) dO dO (λx=>x.isSome) (λA h=>?_) (by simp;ext) (λx hx B L k1 s=>?_) ?_
 .unfold dS;walk_at"px";show⟨by simp;ext,by simp;ext,by simp;ext,?_⟩;rw[aE,aE,aE,aR,aR] at h;show h
 .walk_at"px";cases x with
  | none=>show s rfl
  | some x=>show k1 rfl
 rw[EH];have o:∀w,w∈(c.top++bot++c.left.map some++c.right.map some).filterMap id↔some w∈c.top\/some w∈bot\/w∈c.left\/w∈c.right:=by
  intro w;simp[List.mem_filterMap,or_assoc]
 have hpl:((c.top++bot++c.left.map some++c.right.map some).filterMap id).length<=200:=by
  show aL (List.length_filterMap_le _ _) ?_;simp;ext
 generalize (c.top++bot++c.left.map some++c.right.map some).filterMap id=all at o hpl ⊢;have K:∀w,w∈all->w∈ws:=λw hw=>by
  rcases(o w).mp hw with h | h | h | h
  .exact g.pt w h
  .exact pb w h
  .exact g.lw w h
  show g.rw_ w h
 simp only[uj,uy,tN];show⟨by ext,λl nd h=>?_,λl nd h hs=>?_⟩
 .have:=wj nd λw hw=>K w (h w hw);ext
 have M8:l.length<=40:=by have:=wj nd λw hw=>K w ((h w).mp hw);ext
 walk_at"go";show oT l D.str D.str (λw=>decide (ff c.top bot c.left c.right w=1)) (λA h=>?_) (by ext) (λw _ B L k1 s=>?_) ?_
 .walk_at"px";show h
 .walk_at"px";show⟨c.top,bot,c.left,c.right,w,rfl,by ext,?_⟩;walk_at"px";by_cases t:ff c.top bot c.left c.right w=1
  .rw[if_pos (by ext)];show k1 (by simpa using t)
  rw[if_neg (by ext)];show s (by simpa using t)
 generalize Q:l.filter (λw=>decide (ff c.top bot c.left c.right w=1))=b;have M:=LV (ws:=l) (λw z=>(h w).mpr ((o w).mpr (.inl z))) (λw z=>(h w).mpr ((o w).mpr (.inr (.inl z)))) (λw z=>(h w).mpr ((o w).mpr (.inr (.inr (.inl z))))) (λw z=>(h w).mpr ((o w).mpr (.inr (.inr (.inr z))))) b Q.symm;walk_at"go";show Cd b c.top 1 9 _ _ (by ext) rfl rfl ?_;walk_at"go";show Cd b bot 2 9 _ _ (by ext) rfl rfl ?_;walk_at"go";show Cp b c.left 3 9 _ _ (by ext) rfl rfl ?_;walk_at"go";show Cp b c.right 4 9 _ _ (by ext) rfl rfl ?_;have Y:gz ws (c.top.map (jw b)):=CD g.pt;have N:gz ws (bot.map (jw b)):=CD pb;have U:(c.left.filter λx=>decide (x∉b)).Pairwise mP:=g.lo.sublist List.filter_sublist;have X:(c.right.filter λx=>decide (x∉b)).Pairwise mP:=g.ro.sublist List.filter_sublist;have V:∀w∈(c.left.filter λx=>decide (x∉b)),w∈ws:=λw h=>g.lw w (aT.mp h).1
 have R:∀w∈(c.right.filter λx=>decide (x∉b)),w∈ws:=λw h=>g.rw_ w (aT.mp h).1
 have T:(c.left.filter λx=>decide (x∉b)).length<=8:=aL (ba _ _) ll;have W:(c.right.filter λx=>decide (x∉b)).length<=8:=aL (ba _ _) rl;have F:(c.top.map (jw b)).length=c.top.length:=by simp
 have qW:(bot.map (jw b)).length=c.top.length:=by simpa using E
 have P:∀(n:Nat)(u v:Str),(c.top.map (jw b))[n]?=some (some u)->(bot.map (jw b))[n]?=some (some v)->False:=λn u v d m=>by
  have un:∀(l:List (Option Str))(u:Str),(l.map (jw b))[n]?=some (some u)->∃y,l[n]?=some (some y):=λl u h=>by
   rw[aJ] at h;obtain⟨x,hx,e⟩:=Option.map_eq_some_iff.mp h;cases x with
   | none=>cases e
   | some x=>show⟨x,hx⟩
  obtain⟨y,d⟩:=un _ _ d;obtain⟨O,m⟩:=un _ _ m;show nb n y O d m
 generalize c.top.map (jw b)=f at *;generalize bot.map (jw b)=j at *;generalize (c.left.filter λx=>decide (x∉b))=i at *;generalize (c.right.filter λx=>decide (x∉b))=right' at *;unfold dW;walk_at"go";have wl:=g.wl;show oT c.wide uV uV (λp=>decide (1<ff f j i right' p.1)) (λA h=>?_) (by ext) (λp _ B L k1 s=>?_) ?_
 .walk_at"px";show h
 .rw[show uV p=D.tup [.str p.1,.int p.2] from rfl];walk_at"px";show⟨_,rfl,f,j,i,right',p.1,rfl,by ext,?_⟩;walk_at"px";by_cases t:1<ff f j i right' p.1
  .rw[if_pos (by ext)];show k1 (by simpa using t)
  rw[if_neg (by ext)];show s (by simpa using t)
 have H:(c.wide.filter λp=>decide (1<ff f j i right' p.1)).length<=8:=aL (ba _ _) wl;have I:((c.wide.filter λp=>decide (1<ff f j i right' p.1)).map (·.1)).Pairwise mP:=g.wo.sublist (List.filter_sublist.map _);have J:∀p∈(c.wide.filter λp=>decide (1<ff f j i right' p.1)),p.1∈ws/\(p.2=2\/p.2=3)/\1<ff f j i right' p.1:=λp r=>by
  obtain⟨d,m⟩:=aT.mp r;show⟨(g.ww p d).1,(g.ww p d).2.1,by simpa using m⟩
 generalize (c.wide.filter λp=>decide (1<ff f j i right' p.1))=S at H I J ⊢;walk_at"go";have ke:=g.ke;have w1:=g.w1;show⟨by ext,by ext,q ⟨f,j,i,right',S,[],c.keeps⟩ ⟨by dsimp only;ext,by dsimp only;ext,by dsimp only;ext,Y,N,T,V,U,W,R,X,M,H,I,J,⟨by simp,by simp,by simp⟩,by dsimp only;rw[F];show ke⟩ rfl P F⟩
noncomputable def k5(ts:List Tr)(q:Nat):List Nat:=(ts.filter λt=>decide (t.2.1=q)).map (·.1)
theorem RC(ts:List Tr)(t:Tr)(q:Nat):k5 (ts++[t]) q=if q=t.2.1 then k5 ts q++[t.1] else k5 ts q:=by
 unfold k5;rw[List.filter_append,aE];by_cases h:q=t.2.1
 .subst h;simp
 rw[if_neg h,List.filter_cons_of_neg (by simpa using λz=>h z.symm)];simp
theorem Je(ts:List Tr)(q:Nat):(k5 ts q).length<=ts.length:=by
 unfold k5;rw[ae];show ba _ _
theorem pM{ts:List Tr}{p q:Nat}:p∈k5 ts q↔∃t∈ts,t.1=p/\t.2.1=q:=by
 unfold k5;simp only[aM,aT,bE];show⟨λd=>by obtain⟨t,⟨c,b⟩,a⟩:=d;show⟨t,c,a,b⟩,λd=>by obtain⟨t,c,b,a⟩:=d;show⟨t,⟨c,a⟩,b⟩⟩
def Iy(n:Nat)(ts:List Tr):Prop:=∃S:List Nat,S≠[]/\(∀q∈S,q<n)/\∀q∈S,∃t∈ts,t.2.1=q/\t.1∈S
def qw(ts:List Tr)(a:List Nat):Prop:=∀(pre:List Nat)(q:Nat)(post:List Nat),a=pre++q::post->∀t∈ts,t.2.1=q->t.1∈pre
theorem qw.snoc{ts:List Tr}{a:List Nat}(h:qw ts a){x:Nat}(hx:∀t∈ts,t.2.1=x->t.1∈a):qw ts (a++[x]):=λpre q post e t c d=>by
 cases f:post.reverse with
 | nil=>
  have:post=[]:=by simpa using f
  subst this;obtain⟨b,g⟩:=List.append_inj' e rfl;cases g;rw[<-b];show hx t c d
 | cons y r=>
  have:post=r.reverse++[y]:=by rw[<-List.reverse_reverse post,f];simp
  subst this;rw[<-cg,<-bw] at e;obtain⟨b,_⟩:=List.append_inj' e rfl;show h pre q _ b t c d
def zU:eA:=λds Q=>∃(n:Nat)(ts:List Tr)(b:Int),ds=[.int n,og ts,.int b]/\n<=1000/\ts.length<=11000000/\DQ n ts/\(Iy n ts->Q (.fz .non))/\∀a:List Nat,a.Perm (List.range n)->qw ts a->Q (.ow (a.map dN))
noncomputable def uW(ts:List Tr)(n:Nat):List (List D):=(List.range n).map λq=>(k5 ts q).map dN
theorem Qy(w:List Nat)(x:Nat):(w.map λ(k:Nat)=>(k:Int)).erase (x:Int)=(w.erase x).map λ(k:Nat)=>(k:Int):=by
 induction w with
 | nil=>rfl
 | cons a r b=>
  rw[ax,List.erase_cons,List.erase_cons];by_cases h:a=x
  .subst h;simp
  rw[if_neg (by simpa using λz=>h (by ext)),if_neg (by simpa using h),ax,b]
theorem OQ(x:Nat)(l:List Nat):inD (dN x) (l.map dN)=decide (x∈l):=by
 unfold inD;rw[List.any_map];induction l with
 | nil=>rfl
 | cons a r b=>
  rw[List.any_cons,b];by_cases h:x=a
  .subst h;simp[dN,eC]
  have:¬((a:Int)=(x:Int)):=λz=>h (by ext)
  have c:¬((x:Int)=(a:Int)):=λz=>h (by ext)
  simp[dN,eC,h,this,c]
theorem Qx(l:List Nat):∀e∈l.map dN,eR 8 e:=λe he=>by
 obtain⟨k,_,rfl⟩:=aM.mp he;unfold dN;rw[El];trivial
def FE:TX:=(cQ (jr 3 (yV (mK (cB (cx 0) cH)) [none] (cZ 0) jq (gw cH)))
 (cQ (iG (gu (cx 1)) (iS 3 (dX (cZ 4) (dX (cZ 5) (dX (cZ 6) hE)))) (BB 3 (cx 5) (cx 4)))
 (cQ (jr 7 (D2 (cB (cx 0) cH)))
 (cQ (jr 8 (gw cH))
 (oC 3 (cQ (DZ (dn (cE (jn λi j=>.bl (decide (j<i))) (vS 7) (dC (.int 0)))) (cQ (jr 9 (BS 7 (fD (gu (cx 7)) [none,some 7,some 3] (cZ 0) (yF (dn (eW Bw (cB (fD (gu (cE dA (cx 2) (cx 0))) [none,some 1] (cZ 0) jq (cE (kW false) (cx 0) (cx 1))) cH)))) (cx 0))))
 (oC 9 (cQ (fT (dn (cE oEq (eW mj (cB (cx 9) cH)) (dC (.int 0)))) (fB (dC .non)) gv)
 (cQ (jy 8 (cE dA (cx 9) (cE (oI (λ_ j=>0<j) λi j=>.int (i%j)) (eF 2 pG (cB (cx 2) (cB (cE eB (vS 8) (dC (.int 600))) cH))) (eW mj (cB (cx 9) cH)))))
 (Cj 7 (uc 8 (rA (dC (.int 1))))))))))
 (pD 8)))))))
theorem VV:gA 3 zU FE ["_law_count","_law_above","_law_seed","_law_uppers","_law_p","_law_q","_law_c","_law_waiting","_law_turns_here","_law_ready"]:=by
 intro ds Qr hl h;obtain⟨n,ts,F,rfl,L,C,J,P,O⟩:=h;show FE _ [.fz (.int n),.fz (og ts),.fz (.int F),.un,.un,.un,.un,.un,.un,.un];unfold FE;have big:=gU;walk_at"px";show R6 (List.range n) dN (λ_=>[]) (λH h=>?_) (by simp;ext) (λd hd Z k=>?_) ?_
 .walk_at"px";show⟨by ext,by ext,?_⟩;rw[Int.toNat_natCast];have U:(List.range n).map (λ(i:Nat)=>D.int (0+(i:Int)))=(List.range n).map dN:=List.map_congr_left λi _=>by rw[Int.zero_add];rfl
  rw[U];show h
 .walk_at"px";show⟨by ext,k⟩
 have V:(List.range n).map (λ_=>([]:List D))=uW (ts.take 0) n:=rfl;rw[V];walk_at"go";show rL ts dT (λH h=>?_) (λi g=>∃a b c:Sl,g=[.fz (.int n),.fz (og ts),.fz (.int F),.ov (.ll (uW (ts.take i) n)),a,b,c,.un,.un,.un]) ⟨_,_,_,rfl⟩ ?_ ?_
 .unfold og;walk_at"px";show h
 .rintro i t g hi ⟨a,b,c,rfl⟩;have GN:t∈ts:=aI hi;obtain⟨v1,v2⟩:=J t GN;have tk:ts.take (i+1)=ts.take i++[t]:=by rw[aY,hi];rfl
  have l1:=Je (ts.take i) t.2.1;have l2:(ts.take i).length<=ts.length:=by rw[aP];ext
  unfold dT;walk_at"px";have hlen:(uW (ts.take i) n).length=n:=by unfold uW;simp
  show⟨t.2.1,(k5 (ts.take i) t.2.1).map dN,by rw[hlen];show Jj v2,RD (λq=>(k5 (ts.take i) q).map dN) v2,by rw[ae];ext,?_⟩;have:(uW (ts.take i) n).set t.2.1 ((k5 (ts.take i) t.2.1).map dN++[.int t.1])=uW (ts.take (i+1)) n:=by
   unfold uW;rw[R5,tk];apply List.map_congr_left;intro x _;rw[RC];by_cases hx:x=t.2.1
   .rw[if_pos hx,if_pos hx,hx,aE];rfl
   rw[if_neg hx,if_neg hx]
  rw[this];show⟨_,_,_,rfl⟩
 rintro g ⟨a,b,c,rfl⟩;rw[bL];walk_at"go";show⟨by ext,by ext,?_⟩;rw[Int.toNat_natCast,show(List.range n).map (λ(i:Nat)=>D.int i)=(List.range n).map dN from rfl];walk_at"go";show⟨by ext,?_⟩;walk_at"go";show⟨λm g=>∃(w f:List Nat)(s:Sl),m=w.length/\(f++w).Perm (List.range n)/\qw ts f/\g=[.fz (.int n),.fz (og ts),.fz (.int F),.fz (.lst ((uW ts n).map .lst)),a,b,c,.ow (w.map dN),.ow (f.map dN),s],⟨_,List.range n,[],_,rfl,by simp,λpre q post e=>by simp at e,rfl⟩,?_⟩;rintro m g ⟨w,f,s,rfl,o,I,rfl⟩;have hlen:=o.length_eq;rw[ay,br] at hlen;walk_at"px";rw[ae];by_cases hw:0<(w.length:Int)
 .rw[if_pos (by simpa using hw)];have M:∀x∈w,x<n:=λx hx=>bB.mp (o.subset (aU _ hx))
  walk_at"px";show oT w dN dN (λq=>!(k5 ts q).any λp=>decide (p∈w)) (λH h=>?_) (by ext) (λx hx Z K0 k1 S=>?_) ?_
  .walk_at"px";show h
  .have B:fc (uW ts n) (x:Int)=some ((k5 ts x).map dN):=R4 (λq=>(k5 ts q).map dN) (M x hx);rw[show dN x=D.int x from rfl];walk_at"px";show mv (k5 ts x) dN (λp=>.bl (decide (p∈w))) (λH h=>?_) (by have:=Je ts x;ext) (λy hy K2 R=>?_) ?_
   .walk_at"px";show⟨_,B,h⟩
   .rw[show dN y=D.int y from rfl];walk_at"px";have:=OQ y w;rw[show dN y=D.int y from rfl] at this;show⟨Qx w,by rw[this];show R⟩
   rw[show((k5 ts x).map λp=>D.bl (decide (p∈w)))=((k5 ts x).map λp=>decide (p∈w)).map D.bl by rw[aR];rfl];simp only[uj,Bw,SM];rw[List.any_map,show(id∘λp=>decide (p∈w))=(λp=>decide (p∈w)) from rfl];cases v:(k5 ts x).any λp=>decide (p∈w)
   .exact k1 (by simp[v])
   show S (by simp[v])
  generalize K:w.filter (λq=>!(k5 ts q).any λp=>decide (p∈w))=r;have X:∀x∈r,x∈w/\∀t∈ts,t.2.1=x->t.1∈f:=λx hx=>by
   rw[<-K] at hx;obtain⟨T,A⟩:=aT.mp hx;show⟨T,λt C E=>?_⟩;have hm:=pM.mpr ⟨t,C,rfl,E⟩;have L:t.1∉w:=λz=>by
    rw[List.any_eq_true.mpr ⟨t.1,hm,by simpa using z⟩] at A;cases A
   rcases aw.mp (o.symm.subset (bB.mpr (J t C).1)) with z | z
   .exact z
   show absurd z L
  show⟨by simp[dN,tm],?_⟩;walk_at"go";rw[ae];by_cases h0:r=[]
  .subst h0;rw[if_pos (by simp)];show P ⟨w,λz=>?_,M,λq E=>?_⟩
   .rw[z] at hw;simp at hw
   have:q∉w.filter (λq=>!(k5 ts q).any λp=>decide (p∈w)):=by rw[K];simp
   rw[aT] at this;have A:(k5 ts q).any (λp=>decide (p∈w))=true:=by
    cases v:(k5 ts q).any λp=>decide (p∈w) with
    | true=>rfl
    | false=>show absurd ⟨E,by rw[v];rfl⟩ this
   obtain⟨p,GZ,GY⟩:=List.any_eq_true.mp A;obtain⟨t,t1,N,t3⟩:=pM.mp GZ;show⟨t,t1,t3,by rw[N];simpa using GY⟩
  have Zo:0<r.length:=List.length_pos_iff.mpr h0;rw[if_neg (by ext)];walk_at"go";rw[ae,ae];show⟨_,_,rfl,by ext,by ext,?_⟩;generalize rq _ _=u;have m0:=bG u (show(r.length:Int)≠0 by ext);have Q:=bH u (show(0:Int)<r.length by ext);obtain⟨W,B⟩:=wg (l:=r) m0 Q;have j:=X _ (bK W);show⟨by ext,r[(u%r.length).toNat],B,by ext,?_⟩;generalize r[(u%r.length).toNat]=x at j;obtain⟨j,Y⟩:=j;walk_at"go";show⟨dN x,by rw[J5 _ (by simp)];simp,w.map (λ(k:Nat)=>(k:Int)),x,by rw[aR];rfl,rfl,aM.mpr ⟨x,j,rfl⟩,?_⟩;rw[Qy,aR];have hle:=List.length_erase_of_mem j;show⟨(w.erase x).length,by ext,w.erase x,f++[x],_,rfl,?_,I.snoc Y,by rw[aE];rfl⟩;rw[bw];show(List.Perm.append_left f (List.perm_cons_erase j).symm).trans o
 rw[if_neg (by simpa using hw)];have:w=[]:=b8 (by ext);subst this;walk_at"go";show O f (by simpa using o) I
def u5(ps:List Pc)(tr:List Int)(o:Nat)(t:Int)(q:Nat):Prop:=
 0<=gy tr q/\((fv ps q).n=none\/(fv ps q).n≠(fv ps o).n)/\max (fv ps q).l (fv ps o).l<=min (fv ps q).r (fv ps o).r/\gy tr q<t+(fv ps o).k/\t<gy tr q+(fv ps q).k
def zT:eA:=λds Q=>∃(ps:List Pc)(tr:List Int)(o:Nat)(t:Int),ds=[ic ps,.lst (tr.map .int),.int o,.int t]/\ps.length<=1000/\tr.length=ps.length/\o<ps.length/\
 ((∃q,q<ps.length/\u5 ps tr o t q)->Q (.fz (.bl false)))/\((∀q,q<ps.length->¬u5 ps tr o t q)->Q (.fz (.bl true)))
theorem BE{e:Type}(a b c d:e):fc [a,b,c,d] 0=some a:=rfl
theorem DP{e:Type}(a b c d:e):fc [a,b,c,d] 1=some b:=rfl
theorem DO{e:Type}(a b c d:e):fc [a,b,c,d] 2=some c:=rfl
theorem DN{e:Type}(a b c d:e):fc [a,b,c,d] 3=some d:=rfl
theorem RB(c:jU)(t u:TX):fT c t u=fT c (oQ t) u:=by unfold oQ;rfl
theorem NS{c:Prop}[Decidable c]{a b:Bool}{H Z:Prop}(h:c->a=true\/b=true->H)(z:¬(c/\(a=true\/b=true))->Z):if c then(if a=true then H else if b=true then H else Z) else Z:=by
 split
 .rename_i d;split
  .exact h d (.inl (by assumption))
  split
  .exact h d (.inr (by assumption))
  show z λw=>w.2.elim (by assumption) (by assumption)
 show z λw=>absurd w.1 (by assumption)
def FD:TX:=(cQ (iG (mK (cB (eW mj (cB (cx 0) cH)) cH)) (cZ 4) (fT (oP (dn (cE (jn λi j=>.bl (decide (j<=i))) (cE dA (cx 1) (cx 4)) (dC (.int 0)))) (Dn (dn (cE (jV false) (cE dA (cE dA (cx 0) (cx 4)) (dC (.int 0))) (dC .non))) (dn (cE yf (cE dA (cE dA (cx 0) (cx 4)) (dC (.int 0))) (cE dA (cE dA (cx 0) (cx 2)) (dC (.int 0))))))) (fT (dn (cE (jn λi j=>.bl (decide (i<=j))) (eW pC (cB (cE dA (cE dA (cx 0) (cx 4)) (dC (.int 1))) (cB (cE dA (cE dA (cx 0) (cx 2)) (dC (.int 1))) cH))) (eW p6 (cB (cE dA (cE dA (cx 0) (cx 4)) (dC (.int 2))) (cB (cE dA (cE dA (cx 0) (cx 2)) (dC (.int 2))) cH))))) (fT (oP (dn (cE (jn λi j=>.bl (decide (i<j))) (cE dA (cx 1) (cx 4)) (cE eB (cx 3) (cE dA (cE dA (cx 0) (cx 2)) (dC (.int 3)))))) (dn (cE (jn λi j=>.bl (decide (i<j))) (cx 3) (cE eB (cE dA (cx 1) (cx 4)) (cE dA (cE dA (cx 0) (cx 4)) (dC (.int 3))))))) (fB (dC (.bl false))) gv) gv) gv))
 (fB (dC (.bl true))))
theorem VU:gA 4 zT FD ["_law_pieces","_law_tracks_here","_law_one","_law_t","_law_q"]:=by
 intro ds J hl h;obtain⟨ps,tr,o,t,rfl,b,L,F,v,u⟩:=h;show FD _ [.fz (ic ps),.fz (.lst (tr.map .int)),.fz (.int o),.fz (.int t),.un];unfold FD;have big:=gU;have j:∀i,i<ps.length->fc ps (i:Int)=some (fv ps i):=λi hi=>by rw[xT hi];show kd hi
 have m:∀i,i<ps.length->fc tr (i:Int)=some (gy tr i):=λi hi=>by rw[BN (by ext)];show kd (by ext)
 walk_at"px";show uu ps.length (λM h=>?_) (λi g=>∃s:Sl,(∀q,q<i->¬u5 ps tr o t q)/\g=[.fz (ic ps),.fz (.lst (tr.map .int)),.fz (.int o),.fz (.int t),s]) ⟨_,λq x=>absurd x (Nat.not_lt_zero _),rfl⟩ ?_ ?_
 .unfold ic;walk_at"px";rw[ae];show⟨by ext,by ext,by simpa using h⟩
 .rintro i g hi ⟨s,f,rfl⟩;have B:=j i hi;have A:=j o F;have y:=m i hi;have nx:¬u5 ps tr o t i->∀q,q<i+1->¬u5 ps tr o t q:=λb q x=>by
   by_cases C:q=i
   .rw[C];show b
   show f q (by ext)
  have go:u5 ps tr o t i->J (.fz (.bl false)):=λh=>v ⟨i,hi,h⟩
  generalize H:(∀q,q<i+1->¬u5 ps tr o t q)=Inv at nx ⊢;unfold u5 at nx go;generalize fv ps i=p at *;generalize fv ps o=po at *;generalize gy tr i=K at *;clear j m f v u hl H;unfold ic;rw[RB];walk_at"px";simp only[B,A,y,iE,BE,DP,DO,DN,aG,bW];walk_at"px";show NS (λI d=>?_) λb=>⟨_,nx λh=>b ⟨h.1,?_⟩,rfl⟩
  .have d:p.n=none\/p.n≠po.n:=by
    cases e:p.n with
    | none=>show .inl rfl
    | some w=>
     rw[e] at d;rcases d with z | z
     .cases z
     show .inr (by simpa using z)
   walk_at"go";simp only[B,A,y,iE,BE,DP,DO,DN,aG,bW];have E:(if po.l>p.l then po.l else p.l)=max p.l po.l:=by split<;>ext
   have D:(if po.r<p.r then po.r else p.r)=min p.r po.r:=by split<;>ext
   walk_at"px";rw[E,D];split
   .split
    .split
     .exact go ⟨I,d,by assumption,by assumption,by assumption⟩
     show⟨_,nx λh=>absurd h.2.2.2.2 (by assumption),rfl⟩
    show⟨_,nx λh=>absurd h.2.2.2.1 (by assumption),rfl⟩
   show⟨_,nx λh=>absurd h.2.2.1 (by assumption),rfl⟩
  rcases h.2.1 with z | z
  .exact .inl (by rw[z];rfl)
  show .inr (by simpa using z)
 rintro g ⟨s,f,rfl⟩;walk_at"go";show u f
def xv(ps:List Pc)(tr:List Int)(p q:Nat):Prop:=
 ((fv ps q).n=none\/(fv ps q).n≠(fv ps p).n)/\max (fv ps q).l (fv ps p).l<=min (fv ps q).r (fv ps p).r/\gy tr q<gy tr p+(fv ps p).k/\gy tr p<gy tr q+(fv ps q).k
theorem xv.symm{ps:List Pc}{tr:List Int}{p q:Nat}(h:xv ps tr p q):xv ps tr q p:=by
 obtain⟨a,d,c,b⟩:=h;show⟨?_,by ext,b,c⟩;rcases a with a | a
 .rw[a];cases (fv ps p).n with
  | none=>show .inl rfl
  | some w=>show .inr (by simp)
 show .inr (Ne.symm a)
structure xq(ps:List Pc)(ts:List Tr)(tr:List Int):Prop where
 len:tr.length=ps.length
 lo:∀q,q<ps.length->0<=gy tr q
 no:∀p q,p<ps.length->q<ps.length->p≠q->¬xv ps tr p q
 od:∀t∈ts,gy tr t.1+(fv ps t.1).k<=gy tr t.2.1
 hi:∀q,q<ps.length->gy tr q<=5*ps.length
def z8:eA:=λds Q=>∃(ps:List Pc)(ts:List Tr)(a:List Nat)(b:Int),ds=[ic ps,og ts,.lst (a.map dN),.int b]/\ps.length<=1000/\DQ ps.length ts/\a.Perm (List.range ps.length)/\qw ts a/\(∀q,q<ps.length->(fv ps q).k<=3)/\∀tr,xq ps ts tr->Q (.ow (tr.map .int))
theorem Qw(tr:List Int)(o:Nat)(t:Int)(h:o<tr.length)(q:Nat):gy (tr.set o t) q=if q=o then t else gy tr q:=by
 unfold gy;rw[List.getElem?_set];by_cases a:q=o
 .subst a;simp[h]
 rw[if_neg (Ne.symm a),if_neg a]
theorem Ou(f:Nat->Int)(n:Nat):∃B:Int,∀q,q<n->f q<=B:=by
 induction n with
 | zero=>show⟨0,λq h=>absurd h (Nat.not_lt_zero _)⟩
 | succ n a=>
  obtain⟨B,b⟩:=a;show⟨max B (f n),λq c=>?_⟩;by_cases h:q=n
  .subst h;ext
  have:=b q (by ext);ext
structure uX(ps:List Pc)(ts:List Tr)(d:List Nat)(tr:List Int):Prop where
 len:tr.length=ps.length
 lo:∀q,q<ps.length->q∈d->0<=gy tr q
 no:∀p q,p<ps.length->q<ps.length->p∈d->q∈d->p≠q->¬xv ps tr p q
 od:∀t∈ts,t.2.1∈d->t.1∈d/\gy tr t.1+(fv ps t.1).k<=gy tr t.2.1
 hi:∀q,q<ps.length->gy tr q<=5*d.length
theorem uX.put{ps:List Pc}{ts:List Tr}{d:List Nat}{tr:List Int}(P:uX ps ts d tr){o:Nat}{t:Int}(A:o<ps.length)(hd:o∉d)(u:0<=t)(s:∀q,q<ps.length->¬u5 ps tr o t q)(ha:∀x∈ts,x.2.1=o->x.1∈d/\gy tr x.1+(fv ps x.1).k<=t)(y:t<=5*d.length+5):uX ps ts (d++[o]) (tr.set o t):=by
 have r:=P.len;have e:=λq=>Qw tr o t (by ext) q
 show⟨by simpa using r,λq a hm=>?_,λp q f a i j l b=>?_,λx hx hm=>?_,λq a=>?_⟩
 .rw[e];by_cases h:q=o
  .rw[if_pos h];show u
  rw[if_neg h];rcases aw.mp hm with z | z
  .exact P.lo q a z
  simp at z;show absurd z h
 .have k:∀q,q<ps.length->q∈d++[o]->q≠o->q∈d:=λq _ hm h=>by
   rcases aw.mp hm with z | z
   .exact z
   simp at z;show absurd z h
  have one:∀q,q<ps.length->q∈d++[o]->q≠o->¬xv ps (tr.set o t) o q:=λq a hm h b=>by
   obtain⟨w,v,n,m⟩:=b;rw[e,if_neg h,e,if_pos rfl] at n;rw[e,if_pos rfl,e,if_neg h] at m;show s q a ⟨P.lo q a (k q a hm h),w,v,n,m⟩
  by_cases c:p=o
  .subst c;show one q a j (Ne.symm l) b
  by_cases g:q=o
  .subst g;show one p f i c b.symm
  unfold xv at b;rw[e,if_neg g,e,if_neg c] at b;show P.no p q f a (k p f i c) (k q a j g) l b
 .have key:x.1∈d/\gy tr x.1+(fv ps x.1).k<=(if x.2.1=o then t else gy tr x.2.1):=by
   by_cases h:x.2.1=o
   .rw[if_pos h];show ha x hx h
   rw[if_neg h];show P.od x hx ?_;rcases aw.mp hm with z | z
   .exact z
   simp at z;show absurd z h
  have c:x.1≠o:=λz=>hd (z▸key.1)
  show⟨bO _ key.1,?_⟩;rw[e,if_neg c,e];show key.2
 rw[e,ay,List.length_singleton];have:=P.hi q a;split<;>ext
def Ft:TX:=(cQ (jr 4 (fD (gu (cx 0)) [none] (cZ 0) jq (rA (dC (.int 1)))))
 (cQ (iG (tx (cB (cx 2) cH)) (iS 2 (dX (cZ 5) (dX (cZ 6) hE))) (cQ (eu 7 (cE dA (gw (cB (dC (.int 0)) (cB (dC (.int 0)) (cB (dC (.int 0)) (cB (dC (.int 1)) (cB (dC (.int 2)) cH)))))) (cE (oI (λ_ j=>0<j) λi j=>.int (i%j)) (eF 2 pG (cB (cx 3) (cB (cE eB (cx 5) (dC (.int 700))) cH))) (dC (.int 5)))))
 (cQ (iG (gu (cx 1)) (iS 3 (dX (cZ 8) (dX (cZ 9) (dX (cZ 10) hE)))) (fT (dn (cE oEq (cx 9) (cx 6))) (eu 7 (eW pC (cB (cx 7) (cB (cE eB (uc 4 (cx 8)) (cE dA (cE dA (cx 0) (cx 8)) (dC (.int 3)))) cH)))) gv))
 (cQ (DZ (yF (dn (yP 4 (eF 4 zT (cB (cx 0) (cB (cx 4) (cB (cx 6) (cB (cx 7) cH)))))))) (eu 7 (cE eB (cx 7) (dC (.int 1)))))
 (xM 4 (cx 6) (cx 7))))))
 (pD 4)))
theorem WK:gA 4 z8 Ft ["_law_pieces","_law_above","_law_turns_here","_law_seed","_law_tracks_here","_law_k","_law_one","_law_t","_law_p","_law_q","_law_c"]:=by
 intro ds Qr hl h;obtain⟨ps,ts,n,C,rfl,X,K,v,S,J,q⟩:=h;show Ft _ [.fz (ic ps),.fz (og ts),.fz (.lst (n.map dN)),.fz (.int C),.un,.un,.un,.un,.un,.un,.un];unfold Ft;have big:=gU;have W:∀i,i<ps.length->fc ps (i:Int)=some (fv ps i):=λi hi=>by rw[xT hi];show kd hi
 have Q:=v.length_eq;rw[br] at Q;have GN:∀o∈n,o<ps.length:=λo h=>bB.mp (v.subset h)
 have R:n.Nodup:=v.nodup_iff.mpr List.nodup_range;walk_at"px";show mv ps iE (λ_=>.int (-1)) (λN h=>?_) (by ext) (λp v K1 k=>?_) ?_
 .unfold ic;walk_at"px";show h
 .walk_at"px";show k
 rw[show ps.map (λ_=>D.int (-1))=(ps.map λ_=>(-1:Int)).map D.int by rw[aR];rfl];walk_at"go";show Cz n dN (λN h=>?_) (λi r=>∃(tr:List Int)(a b c d e f:Sl),uX ps ts (n.take i) tr/\r=[.fz (ic ps),.fz (og ts),.fz (.lst (n.map dN)),.fz (.int C),.ow (tr.map .int),a,b,c,d,e,f]) ⟨_,_,_,_,_,_,_,⟨by simp,λq _ g=>by simp at g,λp q _ _ h=>by simp at h,λt _ h=>by simp at h,λq g=>by unfold gy;simp[g]⟩,rfl⟩ ?_ ?_
 .walk_at"px";show h
 .rintro i o r hi ⟨tr,a,b,c,d,e,f,P,rfl⟩;have tT:i<n.length:=(ar.mp hi).1;have E:=GN o (aI hi);have tk:n.take (i+1)=n.take i++[o]:=by rw[aY,hi];rfl
  have U:o∉n.take i:=by
   have w:=(List.take_sublist (i+1) n).nodup R;rw[tk,List.nodup_append] at w;show λz=>w.2.2 o z o (by simp) rfl
  have V:∀t∈ts,t.2.1=o->t.1∈n.take i:=S _ o (n.drop (i+1)) (by rw[List.append_cons,<-tk,bF])
  have I:(n.take i).length=i:=by rw[aP];ext
  rw[tk];rw[show dN o=D.int o from rfl];walk_at"px";show⟨by ext,_,_,rfl,by ext,by ext,?_⟩;generalize rq _ _=s;have m0:=bG s (show(5:Int)≠0 by ext);have m1:=bH s (show(0:Int)<5 by ext);obtain⟨t0,X4,X3,Hu⟩:∃t0:Int,0<=t0/\t0<=2/\fc [D.int 0,D.int 0,D.int 0,D.int 1,D.int 2] (s%5)=some (.int t0):=by
   have:s%5=0\/s%5=1\/s%5=2\/s%5=3\/s%5=4:=by ext
   rcases this with z | z | z | z | z<;>rw[z]
   .exact⟨0,by ext,by ext,rfl⟩
   .exact⟨0,by ext,by ext,rfl⟩
   .exact⟨0,by ext,by ext,rfl⟩
   .exact⟨1,by ext,by ext,rfl⟩
   show⟨2,by ext,by ext,rfl⟩
  show⟨by ext,_,Hu,?_⟩;have T:∀i,i<ps.length->fc tr (i:Int)=some (gy tr i):=λi hi=>by rw[BN (by rw[P.len];show hi)];show kd (by rw[P.len];show hi)
  walk_at"go";show rL ts dT (λN h=>?_) (λj r=>∃(t:Int)(d e f:Sl),0<=t/\t<=5*i+5/\(∀x∈ts.take j,x.2.1=o->gy tr x.1+(fv ps x.1).k<=t)/\r=[.fz (ic ps),.fz (og ts),.fz (.lst (n.map dN)),.fz (.int C),.ow (tr.map .int),.fz (.int i),.fz (.int o),.fz (.int t),d,e,f]) ⟨_,_,_,_,X4,by ext,λx hx=>by simp at hx,rfl⟩ ?_ ?_
  .unfold og;walk_at"px";show h
  .rintro j tt r M ⟨t,d,e,f,h0,y,u,rfl⟩;have O:ts.take (j+1)=ts.take j++[tt]:=by rw[aY,M];rfl
   obtain⟨v1,v2⟩:=K tt (aI M);have w:=W _ v1;have A:=T _ v1;unfold dT ic;walk_at"px";simp only[w,A,iE,DN,aG,bW];walk_at"px";split
   .have H:=P.hi _ v1;have b2:=J _ v1;rw[I] at H;show⟨_,_,_,_,by split<;>ext,by split<;>ext,λx hx g=>?_,rfl⟩;rw[O] at hx;rcases aw.mp hx with hx | hx
    .have:=u x hx g;split<;>ext
    simp at hx;subst hx;split<;>ext
   rename_i Z;show⟨_,_,_,_,h0,y,λx hx g=>?_,rfl⟩;rw[O] at hx;rcases aw.mp hx with hx | hx
   .exact u x hx g
   simp at hx;subst hx;show absurd (by ext) Z
  rintro r ⟨t,d,e,f,h0,y,u,rfl⟩;rw[bL] at u;walk_at"go";obtain⟨B,Y⟩:=Ou (λq=>gy tr q+(fv ps q).k) ps.length;show⟨λm r=>∃t:Int,0<=t/\t<=5*i+5/\(∀x∈ts,x.2.1=o->gy tr x.1+(fv ps x.1).k<=t)/\m=(B-t).toNat/\r=[.fz (ic ps),.fz (og ts),.fz (.lst (n.map dN)),.fz (.int C),.ow (tr.map .int),.fz (.int i),.fz (.int o),.fz (.int t),d,e,f],⟨_,_,h0,y,u,rfl,rfl⟩,?_⟩;rintro m r ⟨t,h0,y,u,rfl,rfl⟩;walk_at"px";show⟨ps,tr,o,t,rfl,X,P.len,E,λF=>?_,λF=>?_⟩
  .obtain⟨q,g,h⟩:=F;have y:=Y q g;have h6:=h.2.2.2.2;have H:=P.hi q g;have b2:=J q g;rw[I] at H;walk_at"px";try show⟨rfl,?_⟩
   show⟨_,by ext,_,by ext,by ext,λx hx g=>by have:=u x hx g;ext,rfl,rfl⟩
  walk_at"px";try show⟨rfl,?_⟩
  walk_at"go";show⟨o,by rw[ae,P.len];show Jj E,?_⟩;rw[<-List.map_set];show⟨tr.set o t,_,_,_,_,_,_,P.put E U h0 F (λx hx g=>⟨V x hx g,u x hx g⟩) (by rw[I];show y),rfl⟩
 rintro r ⟨tr,a,b,c,d,e,f,P,rfl⟩;rw[bL] at P;walk_at"go";show q tr ⟨P.len,λq g=>P.lo q g (v.symm.subset (bB.mpr g)),λp q w A=>P.no p q w A (v.symm.subset (bB.mpr w)) (v.symm.subset (bB.mpr A)),λt L=>(P.od t L (v.symm.subset (bB.mpr (K t L).2))).2,λq g=>by have:=P.hi q g;rw[Q] at this;show this⟩
theorem EC(w:Str)(k a x:Int)(r:List Int):rm w k (a::x::r)=⟨some w,a,x,k⟩::rm w k (x::r):=by
 unfold rm;simp
theorem IF(w:Str)(k:Int):∀(bs:List Int),bs.Pairwise (·<·)->∀p∈rm w k bs,p.n=some w/\p.k=k/\p.l<p.r/\p.l∈bs/\p.r∈bs
 | [],_,p,h=>by simp[rm] at h
 | [a],_,p,h=>by simp[rm] at h
 | a::x::r,u,p,h=>by
  rw[EC] at h;rcases au.mp h with rfl | h
  .exact⟨rfl,rfl,(bM.mp u).1 x (by simp),by simp,by simp⟩
  obtain⟨f,e,d,c,b⟩:=IF w k (x::r) (bM.mp u).2 p h;show⟨f,e,d,aK _ c,aK _ b⟩
section
variable{ws:List Str}{most:Nat}{c:cP}{w:Str}
theorem Qv(g:eZ ws most c)(h:w∈c.left\/w∈c.right):∃a∈pl c w,∃b∈pl c w,a<b:=by
 have j:=g.cnt w;have nl:=Jg (IG g.lo) w;have m:=Jg (IG g.ro) w;have top:∀n:Nat,c.top[n]?=some (some w)->(n:Int)∈pl c w/\n<c.top.length:=λn d=>by
  have i:=(ar.mp d).1;show⟨?_,i⟩;unfold pl;show bO _ (aU _ (aM.mpr ⟨n,aT.mpr ⟨bB.mpr i,by simp[d]⟩,rfl⟩))
 have bot:∀n:Nat,c.cw[n]?=some (some w)->(n:Int)∈pl c w/\n<c.top.length:=λn d=>by
  have i:n<c.top.length:=by rw[<-g.bl];show(ar.mp d).1
  show⟨?_,i⟩;unfold pl;show bO _ (aU _ (aM.mpr ⟨n,aT.mpr ⟨bB.mpr i,by simp[d]⟩,rfl⟩))
 have lf:w∈c.left->(-1:Int)∈pl c w:=λh=>by unfold pl;simp[h]
 have rt:w∈c.right->(c.top.length:Int)∈pl c w:=λh=>by unfold pl;simp[h]
 have mid:(∃n:Nat,(n:Int)∈pl c w/\n<c.top.length)->∃a∈pl c w,∃b∈pl c w,a<b:=λ⟨n,f,l⟩=>by
  rcases h with h | h
  .exact⟨_,lf h,_,f,by ext⟩
  show⟨_,f,_,rt h,by ext⟩
 by_cases f:some w∈c.top
 .obtain⟨n,d⟩:=List.mem_iff_getElem?.mp f;show mid ⟨n,top n d⟩
 by_cases l:some w∈c.cw
 .obtain⟨n,d⟩:=List.mem_iff_getElem?.mp l;show mid ⟨n,bot n d⟩
 unfold ff at j;rw[bS.mpr f,bS.mpr l,nl,m] at j;by_cases k:w∈c.left
 .by_cases e:w∈c.right
  .exact⟨_,lf k,_,rt e,by ext⟩
  simp[k,e] at j
 by_cases e:w∈c.right
 .simp[k,e] at j
 rcases h with h | h
 .exact absurd h k
 show absurd h e
theorem Kr(h:∃a∈pl c w,∃b∈pl c w,a<b):∃a b,rn (pl c w)=some (a,b)/\a<b/\(∀k∈pl c w,a<=k/\k<=b)/\a∈pl c w/\b∈pl c w:=by
 obtain⟨x,hx,y,e,i⟩:=h;have up:=BF c w;generalize pl c w=l at hx e up;cases l with
 | nil=>cases hx
 | cons a r=>
  have lm:=zh up;have lo:∀k∈a::r,a<=k:=λk d=>by
   rcases au.mp d with rfl | d
   .omega
   have:=(bM.mp up).1 k d;ext
  have g:=lo x hx;have f:=lm y e;show⟨a,(a::r).getLast (by simp),?_,by ext,λk d=>⟨lo k d,lm k d⟩,by simp,List.getLast_mem _⟩;simp only[rn];rw[if_neg (by ext)]
theorem Ld(k:Int)(h:k∈pl c w):-1<=k/\k<=c.top.length:=by
 unfold pl at h;rcases aw.mp h with h | h
 .rcases aw.mp h with h | h
  .split at h
   .simp at h;ext
   cases h
  obtain⟨n,a,rfl⟩:=aM.mp h;have:=bB.mp (aT.mp a).1;ext
 split at h
 .simp at h;ext
 cases h
theorem Tj(g:eZ ws most c)(j:most<=40)(cC:Bool){a b:Int}(h:rn (pl c w)=some (a,b))(f:a<b):([a]++(if cC then oF c w else [])++[b]).Pairwise (·<·):=by
 have bi:∀x∈(if cC then oF c w else []),a<x/\x<b:=λx hx=>by
  cases cC with
  | false=>simp at hx
  | true=>
   simp only[aX] at hx;unfold oF at hx;obtain⟨p,i,rfl⟩:=aM.mp hx;obtain⟨n,o⟩:=aT.mp i;obtain⟨_,r,q,e,l,k⟩:=Jf g j n;rw[show p.2=w by simpa using o,h] at e;cases e;show⟨l,k⟩
 have m:(if cC then oF c w else []).Pairwise (·<·):=by
  cases cC with
  | false=>simp
  | true=>
   simp only[aX];unfold oF;rw[List.pairwise_map];show g.be.up.sublist List.filter_sublist
 rw[bx];show⟨?_,by simp,λx hx y d=>?_⟩
 .rw[bx];show⟨by simp,m,λx hx y d=>by simp at hx;subst hx;show(bi y d).1⟩
 simp at d;subst d;rcases aw.mp hx with hx | hx
 .simp at hx;subst hx;show f
 show(bi x hx).2
theorem Jd(g:eZ ws most c)(y:most<=40)(cC:Bool){p:Pc}(h:p∈px c cC w):p.n=some w/\p.k=pz c.wide w/\p.l<p.r/\-1<=p.l/\p.r<=c.top.length:=by
 unfold px at h;split at h
 .cases h
 rename_i q e;obtain⟨a,b⟩:=q;have d:a<b/\(∀k∈pl c w,a<=k/\k<=b)/\a∈pl c w/\b∈pl c w:=by
  have:∃a∈pl c w,∃b∈pl c w,a<b:=by
   have up:=BF c w;generalize pl c w=l at e up;cases l with
   | nil=>cases e
   | cons x r=>
    simp only[rn] at e;split at e
    .cases e
    rename_i B
    show⟨x,by simp,_,List.getLast_mem (by simp),by
     have:=zh up x (by simp);ext⟩
  obtain⟨F,E,t,m,j,i,f⟩:=Kr this;rw[e] at t;cases t;show⟨m,j,i,f⟩
 have u:=Tj g y cC e d.1;obtain⟨m,j,i,f,z⟩:=IF w _ _ u p h;have lo:∀x∈[a]++(if cC then oF c w else [])++[b],a<=x/\x<=b:=λx hx=>by
  have s:=u;rw[bw,List.singleton_append] at hx s;have o:=bM.mp s;have v:=(bx.mp o.2).2.2;rcases au.mp hx with rfl | hx
  .exact⟨by ext,by ext⟩
  show⟨by have:=o.1 x hx;ext,?_⟩;rcases aw.mp hx with hx | hx
  .have:=v x hx b (by simp);ext
  simp at hx;ext
 have D:=Ld a d.2.2.1;have C:=Ld b d.2.2.2;have l1:=lo _ f;have A:=lo _ z;show⟨m,j,i,by ext,by ext⟩
theorem R3(cC:Bool){p:Pc}(h:p∈px c cC w):p.n=some w:=by
 unfold px at h;split at h
 .cases h
 unfold rm at h;obtain⟨_,_,rfl⟩:=aM.mp h;rfl
end
theorem vY{ps:List Pc}{n:Option Str}{k:Int}{j:Nat}(h:j∈kG ps n k):j<ps.length/\(fv ps j).n=n/\(fv ps j).l<=k/\k<=(fv ps j).r:=by
 unfold kG at h;obtain⟨p,d,rfl⟩:=aM.mp h;obtain⟨g,a⟩:=aT.mp d;have c:=List.mem_zipIdx g;obtain⟨_,c,f⟩:=c;have b:p.2<ps.length:=by ext
 have e:fv ps p.2=p.1:=by
  rw[xT b];simpa using f.symm
 rw[e];simp only[yH,Bool.and_eq_true,bE] at a;show⟨b,a.1,a.2.1,a.2.2⟩
theorem Qu{ws:List Str}{a:Nat}{c:cP}(g:eZ ws a c)(w:Str):1<=pz c.wide w:=by
 have h:=λp e=>(g.ww p e).2.1
 generalize c.wide=l at h;induction l with
 | nil=>show Int.le_refl 1
 | cons p r b=>
  unfold pz;split
  .have:=h p (by simp);ext
  show b λq d=>h q (aK _ d)
theorem Ot{ws:List Str}{a:Nat}{c:cP}(g:eZ ws a c)(w:Str):pz c.wide w<=3:=by
 have h:=λp e=>(g.ww p e).2.1
 generalize c.wide=l at h;induction l with
 | nil=>show(1:Int)<=3;decide
 | cons p r b=>
  unfold pz;split
  .have:=h p (by simp);ext
  show b λq d=>h q (aK _ d)
theorem Kq{ws:List Str}{a:Nat}{c:cP}(g:eZ ws a c)(d:a<=40)(cC:Bool)(l:List Str):∀p∈cK c cC l,1<=p.k/\p.k<=3:=λp b=>by
 unfold cK at b;rcases aw.mp b with b | b
 .obtain⟨k,e,rfl⟩:=aM.mp b;show(g.ke.2 k e).2.2.2
 obtain⟨w,_,b⟩:=List.mem_flatMap.mp b;rw[(Jd g d cC b).2.1];show⟨Qu g w,Ot g w⟩
noncomputable def lK(c:cP)(cC:Bool)(ps:List Pc)(ts:List Tr)(tr:List Int)(n:Int):D:=.obj "Layout" [("channel",c.obj),("bent",.bl cC),("pieces",ic ps),("above",og ts),("tracks",.lst (tr.map .int)),("count",.int n)]
structure p5(ps:List Pc)(tr:List Int)(n:Int):Prop where
 ge:∀p∈ps.zip tr,p.2+p.1.k<=n
 at_:(ps.zip tr=[]/\n=0)\/∃p∈ps.zip tr,n=p.2+p.1.k
def xY:eA:=λds Q=>∃(ps:List Pc)(tr:List Int),ds=[ic ps,dI tr]/\ps.length<=1000/\∀n,p5 ps tr n->Q (.fz (.int n))
def E7:TX:=(fB (BG (fD (pB (cB (cx 0) (cB (cx 1) cH))) [none,none] (iS 2 (dX (cZ 0) (dX (cZ 1) hE))) jq (cE eB (cx 1) (cE dA (cx 0) (dC (.int 3))))) (dC (.int 0))))
theorem U7:gA 2 xY E7 ["pieces","tracks"]:=by
 intro ds i hl h;obtain⟨ps,tr,rfl,b,q⟩:=h;show E7 _ [.fz (ic ps),.fz (dI tr)];unfold E7;have big:=gU;show BG _ _ _ _;unfold BG;show mv (ps.zip tr) (λp=>.tup [iE p.1,.int p.2]) (λp=>.int (p.2+p.1.k)) (λj h=>?_) (by rw[List.length_zip];ext) (λp b m k1=>?_) ?_
 .unfold ic dI;walk_at"px";rw[wa];show h
 .rw[show iE p.1=.tup [dO p.1.n,.int p.1.l,.int p.1.r,.int p.1.k] from rfl];walk_at"px";show⟨_,rfl,k1⟩
 show⟨(ps.zip tr).map λp=>p.2+p.1.k,by rw[aR];rfl,λe=>?_,λn g le=>?_⟩
 .have d:ps.zip tr=[]:=by simpa using e
  show q 0 ⟨λp b=>(by rw[d] at b;cases b),.inl ⟨d,rfl⟩⟩
 obtain⟨p,b,rfl⟩:=aM.mp g;show q _ ⟨λx hx=>le _ (cv (f:=λp:Pc×Int=>p.2+p.1.k) hx),.inr ⟨p,b,rfl⟩⟩
def zq:eA:=λds Q=>∃(c:cP)(cC:Bool)(ps:List Pc)(ts:List Tr)(tr:List Int),ds=[c.obj,.bl cC,ic ps,og ts,.lst (tr.map .int)]/\ps.length<=1000/\∀n,p5 ps tr n->Q (.fz (lK c cC ps ts tr n))
def Co:vJ:=(oB "channel" (cx 1) (oB "bent" (cx 2) (oB "pieces" (eW oR (cB (cx 3) cH)) (oB "above" (eW oR (cB (cx 4) cH)) (oB "tracks" (eW oR (cB (cx 5) cH)) (oB "count" (eF 2 xY (cB (cx 3) (cB (cx 5) cH))) yD))))))
theorem UM(ds:List D)(a:R->Prop)(b:List (Str×D)->Prop)(na:∀fs:List (Str×D),fs.map (·.1)=(["channel","bent","pieces","above","tracks","count"]:List Str)->b fs)(h:zq ds a) :
  Co (ui ["self","channel","bent","pieces","above","tracks"] ds) [] λfs=>b fs/\a (.fz (.obj "Layout" fs)):=by
 obtain⟨c,cC,ps,ts,tr,rfl,e,q⟩:=h;show Co [.un,.fz c.obj,.fz (.bl cC),.fz (ic ps),.fz (og ts),.fz (.lst (tr.map .int))] [] _;unfold Co;unfold ic og;simp only[oB,yD,eW,cB,cH,cx,gt,oR,xN,uj];show⟨by decide,show 1<1000 by decide,show 2<1000 by decide,show 3<1000 by decide,show 4<1000 by decide,?_⟩;simp only[eF,cB,cH,cx,gt,xN];show⟨rfl,ps,tr,rfl,e,λn d=>⟨show 5<1000 by decide,na _ rfl,q n d⟩⟩
theorem IE{ps:List Pc}{p:Pc×Nat}(h:p∈ps.zipIdx):p.2<ps.length:=(ar.mp (List.mem_zipIdx_iff_getElem?.mp h)).1
theorem ID{ps:List Pc}{p:Pc×Nat}(h:p∈ps.zipIdx):fv ps p.2=p.1:=by
 unfold fv;rw[List.mem_zipIdx_iff_getElem?.mp h];rfl
theorem IC{c:cP}{ps:List Pc}{t:Tr}(h:t∈nW c ps):(t.1<ps.length/\t.2.1<ps.length)/\∃(n:Nat)(u v:Str),c.top[n]?=some (some u)/\c.cw[n]?=some (some v):=by
 unfold nW at h;obtain⟨n,_,d⟩:=List.mem_flatMap.mp h;unfold qK at d;split at d
 .rename_i u v g f;split at d
  .cases d
  obtain⟨a,ha,d⟩:=List.mem_flatMap.mp d;obtain⟨b,e,rfl⟩:=aM.mp d;show⟨⟨(vY ha).1,(vY e).1⟩,n,u,v,g,f⟩
 cases d
theorem Jv{ps:List Pc}{t:Tr}(h:t∈kn ps):(t.1<ps.length/\t.2.1<ps.length)/\(fv ps t.1).n=none/\(fv ps t.2.1).n≠none:=by
 unfold kn at h;obtain⟨p,d,a⟩:=List.mem_flatMap.mp h;unfold tF at a;split at a
 .rename_i i;obtain⟨x,hx,rfl⟩:=aM.mp a;unfold vP vd at hx;obtain⟨y,g,e⟩:=List.mem_filterMap.mp hx;obtain⟨z,hz,rfl⟩:=aM.mp g;obtain⟨j,_,rfl⟩:=Option.map_eq_some_iff.mp e;obtain⟨c,b⟩:=aT.mp hz;show⟨⟨IE d,IE c⟩,by rw[ID d];show i,?_⟩;dsimp only;rw[ID c];intro f;rw[f] at b;cases b
 cases a
theorem RA{c:cP}{ps:List Pc}{ts:List Tr}(h:Above c ps ts):DQ ps.length ts:=λt a=>by
 rcases aw.mp (h.pm.mem_iff.mp a) with a | a
 .exact(IC a).1
 show(Jv a).1
theorem R1{c:cP}{ps:List Pc}{ts:List Tr}(h:Above c ps ts)(nb:DW c):¬Iy ps.length ts:=λ⟨S,g,_,d⟩=>by
 have key:∀t∈ts,(fv ps t.1).n=none/\(fv ps t.2.1).n≠none:=λt a=>by
  rcases aw.mp (h.pm.mem_iff.mp a) with a | a
  .obtain⟨_,n,u,v,k,j⟩:=IC a;show(nb n u v k j).elim
  show(Jv a).2
 cases S with
 | nil=>show g rfl
 | cons q S=>
  obtain⟨t,a,_,f⟩:=d q (by simp);obtain⟨t',i,e,_⟩:=d t.1 f;have k1:=(key t a).1;have b:=(key t' i).2;rw[e] at b;show b k1
structure g9(c:cP)(cC:Bool)(l:List Str)(ts:List Tr)(tr:List Int)(n:Int):Prop where
 good:∃(ws:List Str)(most:Nat),ws.length<=8/\most<=16/\eZ ws most c
 Gr:xu c l
 ab:Above c (cK c cC l) ts
 vH:(cK c cC l).length<=500
 qj:xq (cK c cC l) ts tr
 cnt:p5 (cK c cC l) tr n
def z7:eA:=λds Q=>∃(ws:List Str)(most:Nat)(c:cP)(b:Int),ds=[.lst c.parts,.int b]/\ws.length<=8/\most<=16/\eZ ws most c/\∀a cC l ts tr n,g9 a cC l ts tr n->a.top.length=c.top.length->Q (.fz (lK a cC (cK a cC l) ts tr n))
def Fs:TX:=(cQ (eu 2 (gw (cB (gw (cB (cx 0) (cB (cE oEq (cE (oI (λ_ j=>0<j) λi j=>.int (i%j)) (cx 1) (dC (.int 2))) (dC (.int 1))) cH))) (cB (gw (cB (cx 0) (cB (cE oEq (cE (oI (λ_ j=>0<j) λi j=>.int (i%j)) (cx 1) (dC (.int 2))) (dC (.int 0))) cH))) (cB (gw (cB (eF 1 zV (cB (cx 0) cH)) (cB (cE oEq (cE (oI (λ_ j=>0<j) λi j=>.int (i%j)) (cx 1) (dC (.int 4))) (dC (.int 1))) cH))) cH)))))
 (cQ (iG (gu (cx 2)) (xB 2 (dX (cZ 3) (dX (cZ 4) hE))) (cQ (eu 5 (eF 7 zI (cB (cE dA (cx 3) (dC (.int 0))) (cB (cE dA (cx 3) (dC (.int 1))) (cB (cE dA (cx 3) (dC (.int 2))) (cB (cE dA (cx 3) (dC (.int 3))) (cB (cE dA (cx 3) (dC (.int 4))) (cB (cE dA (cx 3) (dC (.int 5))) (cB (cE dA (cx 3) (dC (.int 6))) cH)))))))))
 (cQ (eu 6 (eF 2 zu (cB (cx 5) (cB (cx 4) cH))))
 (cQ (eu 7 (eF 2 zF (cB (cx 5) (cB (cx 6) cH))))
 (cQ (eu 8 (eF 3 zU (cB (eW mj (cB (cx 6) cH)) (cB (cx 7) (cB (cx 1) cH)))))
 (fT (dn (cE (jV true) (cx 8) (dC .non))) (fB (eF 5 zq (cB (cx 5) (cB (cx 4) (cB (cx 6) (cB (cx 7) (cB (eF 4 z8 (cB (cx 6) (cB (cx 7) (cB (cx 8) (cB (cx 1) cH))))) cH))))))) gv))))))
 (fB (dC .non))))
theorem WJ:gA 2 z7 Fs ["_law_lists","_law_seed","_law_some","_law_row","_law_bent","_law_channel_here","_law_pieces","_law_above","_law_turns_here"]:=by
 intro ds S hl h;obtain⟨ws,most,m,j,rfl,W,hm,p,q⟩:=h;show Fs _ [.fz (.lst m.parts),.fz (.int j),.un,.un,.un,.un,.un,.un,.un];unfold Fs;have big:=gU;walk_at"px";show⟨by ext,by ext,ws,most,m,rfl,by ext,by ext,p,λc1 g1 V nb O=>⟨by ext,by ext,?_⟩⟩;obtain⟨L,v,K⟩:∃L:List (cP×Bool),L=[(m,decide (j%2=1)),(m,decide (j%2=0)),(c1,decide (j%4=1))]/\D.lst [D.lst [D.lst m.parts,D.bl (decide (j%2=1))],D.lst [D.lst m.parts,D.bl (decide (j%2=0))],D.lst [(R.ow c1.parts).val,D.bl (decide (j%4=1))]]=.lst (L.map λx=>.lst [.lst x.1.parts,.bl x.2]):=⟨_,rfl,rfl⟩
 rw[K];walk_at"go";show rL L (λx=>.lst [.lst x.1.parts,.bl x.2]) (λY h=>?_) (λi o=>i<=2/\∃a b d e f k:Sl,o=[.fz (.lst m.parts),.fz (.int j),.fz (.lst (L.map λx=>.lst [.lst x.1.parts,.bl x.2])),a,b,d,e,f,k]) ⟨by ext,_,_,_,_,_,_,rfl⟩ ?_ ?_
 .walk_at"px";show h
 .rintro i ⟨c,cC⟩ o hi ⟨U,a,b,d,e,f,k,rfl⟩;have E:eZ ws most c/\(i=2->DW c)/\c.top.length=m.top.length:=by
   rw[v] at hi;match i,hi,U with
   | 0,hi,_=>cases hi;show⟨p,λz=>by ext,rfl⟩
   | 1,hi,_=>cases hi;show⟨p,λz=>by ext,rfl⟩
   | 2,hi,_=>cases hi;show⟨g1,λ_=>nb,O⟩
  clear hi;obtain⟨g,Q,P⟩:=E;have sh:=Jh g (by ext);have be:=g.be.len;have w2:=g.w2;have ke:=g.ke.1;generalize H:(λx:cP×Bool=>D.lst [D.lst x.1.parts,D.bl x.2])=F at *;rw[<-H];dsimp only;generalize X:m.parts=Z at *;unfold cP.parts;walk_at"px";show⟨_,rfl,_,rfl,_,rfl,_,rfl,_,rfl,_,rfl,_,rfl,_,_,_,_,_,_,_,rfl,?_⟩;show oQ _ _ [_,_,_,_,_,.fz c.obj,_,_,_];walk_at"go";show⟨c,cC,ws,rfl,sh,by ext,by ext,by ext,J2 g,λl N=>?_⟩;have hpl:(cK c cC l).length<=500:=by
   have J:=wj N.nd λw hw=>J2 g w ((N.mem w).mp hw)
   have I:=J4 (px c cC) (c.cR.length+1) (ED c cC) l;have y:l.length*(c.cR.length+1)<=8*17:=Nat.mul_le_mul (by ext) (by ext);unfold cK;rw[ay,show(vV c).length=c.keeps.length from ae _];ext
  have s:∀q,q<(cK c cC l).length->(fv (cK c cC l) q).k<=3:=λq u=>(Kq g (by ext) cC l _ (by rw[xT u];show bK u)).2
  have fin:∀ts tr n,Above c (cK c cC l) ts->xq (cK c cC l) ts tr->p5 (cK c cC l) tr n->S (R.fz (lK c cC (cK c cC l) ts tr n)):=λts tr n ab ok r=>q c cC l ts tr n ⟨⟨ws,most,by ext,hm,g⟩,N,ab,hpl,ok,r⟩ P
  generalize cK c cC l=ps at hpl fin s ⊢;have M:D.lst (ps.map iE)=ic ps:=rfl;simp only[uj];rw[M];walk_at"go";show⟨c,ps,rfl,sh,hpl,λts ab=>?_⟩;have t:=RA ab;have T:ts.length<=11000000:=by
   have J:=J3 c ps sh hpl;have I:=Lf ps hpl;have y:=ab.pm.length_eq;rw[ay] at y;ext
  simp only[uj];rw[show D.lst (ts.map dT)=og ts from rfl,show Sl.fz (ic ps)=Sl.fz (.lst (ps.map iE)) from rfl];walk_at"go";rw[ae];show⟨ps.length,ts,j,rfl,by ext,T,t,λst=>?_,λB C A=>?_⟩
  .walk_at"go";show⟨?_,_,_,_,_,_,_,rfl⟩;have:i≠2:=λz=>R1 ab (Q z) st
   ext
  walk_at"go";show⟨ps,ts,B,j,rfl,by ext,t,C,A,s,λtr ok=>?_⟩;show⟨c,cC,ps,ts,tr,rfl,by ext,λn r=>fin ts tr n ab ok r⟩
 rintro o ⟨h,_⟩;rw[v] at h;show absurd h (by simp)
noncomputable def ky(r p:Int):List Key:=[.inl r,.inl p]
theorem sf{r p a b:Int}:ky r p=ky a b↔r=a/\p=b:=by simp[ky]
theorem Kp(j:List (List Key×D))(k c:List Key)(d:D):fw (ud j k d) c=if c=k then some d else fw j c:=by
 unfold ud fw;split
 .rename_i h;induction j with
  | nil=>simp at h
  | cons x r l=>
   rw[ax,List.find?_cons,List.find?_cons];by_cases hx:x.1=k
   .simp only[hx,aX];by_cases b:k=c
    .simp[b]
    simp only[b,bR,Ne.symm b,aQ];by_cases i:(r.any λa=>decide (a.1=k))=true
    .have:=l i;rw[if_neg (Ne.symm b)] at this;show this
    have e:r.map (λa=>if a.1=k then(a.1,d) else a)=r:=by
     rw[List.map_congr_left (g:=id) λa f=>?_,List.map_id];rw[if_neg λz=>i (List.any_eq_true.mpr ⟨a,f,by simpa using z⟩)];rfl
    rw[e]
   have i:(r.any λa=>decide (a.1=k))=true:=by simpa[hx] using h
   have:=l i;simp only[hx,aQ];by_cases b:x.1=c
   .have:¬c=k:=λz=>hx (b.trans z)
    simp[b,this]
   simp only[b,bR];show this
 rename_i h;rw[List.find?_append];have m:∀a∈j,a.1≠k:=λa f z=>h (List.any_eq_true.mpr ⟨a,f,by simpa using z⟩)
 by_cases b:c=k
 .subst b;rw[List.find?_eq_none.mpr λa f=>by simpa using m a f];simp
 rw[if_neg b];simp[Ne.symm b]
theorem Ju(a:List (List Key×D))(k:List Key)(d:D):(ud a k d).length<=a.length+1:=by
 unfold ud;split<;>simp
structure oO(cG:List (List Key×D))(C:Int->Int->Str->Prop):Prop where
 so:∀r p d,fw cG (ky r p)=some d->∃w,d=.str w/\C r p w
 ha:∀r p w,C r p w->(fw cG (ky r p)).isSome=true
theorem oO.put{g:List (List Key×D)}{C i:Int->Int->Str->Prop}(h:oO g C){c f:Int}{a:Str}(b:∀r p w,i r p w↔C r p w\/(r=c/\p=f/\w=a)):oO (ud g (ky c f) (.str a)) i:=by
 show⟨λr p d e=>?_,λr p w e=>?_⟩
 .rw[Kp] at e;split at e
  .rename_i z;cases e;obtain⟨k,j⟩:=sf.mp z;show⟨a,rfl,(b _ _ _).mpr (.inr ⟨k,j,rfl⟩)⟩
  obtain⟨w,m,l⟩:=h.so r p d e;show⟨w,m,(b _ _ _).mpr (.inl l)⟩
 rw[Kp];split
 .rfl
 rename_i z;rcases(b _ _ _).mp e with e | ⟨o,n,_⟩
 .exact h.ha r p w e
 show absurd (sf.mpr ⟨o,n⟩) z
theorem oO.iff{b:List (List Key×D)}{C c:Int->Int->Str->Prop}(h:oO b C)(a:∀r p w,c r p w↔C r p w):oO b c:=
 ⟨λr p d e=>let⟨w,g,f⟩:=h.so r p d e;⟨w,g,(a _ _ _).mpr f⟩,λr p w e=>h.ha r p w ((a _ _ _).mp e)⟩
def t6(ps:List Pc)(tr:List Int)(i:Nat)(r p:Int)(w:Str):Prop:=∃q,q<i/\(fv ps q).n=some w/\r=2*gy tr q+1/\2*(fv ps q).l+1<=p/\p<=2*(fv ps q).r+1
def zR:eA:=λds Q=>∃(c:cP)(cC:Bool)(ps:List Pc)(ts:List Tr)(tr:List Int)(n:Int),ds=[lK c cC ps ts tr n]/\ps.length<=500/\tr.length=ps.length/\(∀p∈ps,-1<=p.l/\p.l<=p.r/\p.r<=40)/\∀a,oO a (t6 ps tr ps.length)->Q (.ov (.dq a))
def FO:TX:=(cQ (jr 1 yQ)
 (cQ (iG (pB (cB (fK "pieces" (cx 0)) (cB (fK "tracks" (cx 0)) cH))) (iS 2 (dX (cZ 2) (dX (cZ 3) hE))) (fT (dn (cE (jV true) (cE dA (cx 2) (dC (.int 0))) (dC .non))) (iG (yN (cB (cE eB (cE (oI gk λi j=>.int (i*j)) (dC (.int 2)) (cE dA (cx 2) (dC (.int 1)))) (dC (.int 1))) (cB (cE eB (cE (oI gk λi j=>.int (i*j)) (dC (.int 2)) (cE dA (cx 2) (dC (.int 2)))) (dC (.int 2))) cH))) (cZ 4) (xG 1 (kz (cB (cE eB (cE (oI gk λi j=>.int (i*j)) (dC (.int 2)) (cx 3)) (dC (.int 1))) (cB (cx 4) cH))) (cE dA (cx 2) (dC (.int 0))))) gv))
 (xH 1)))
theorem WQ:gA 1 zR FO ["layout","names","piece","track","sign"]:=by
 intro ds V hl h;obtain⟨c,cC,ps,ts,tr,n,rfl,Q,J,K,q⟩:=h;show FO _ [.fz (lK c cC ps ts tr n),.un,.un,.un,.un];unfold FO;have big:=gU;walk_at"px";walk_at"go";show rL (ps.zip tr) (λp=>.tup [iE p.1,.int p.2]) (λN h=>?_) (λi v=>∃(f:List (List Key×D))(a b d:Sl),oO f (t6 ps tr i)/\f.length<=100*i/\v=[.fz (lK c cC ps ts tr n),.ov (.dq f),a,b,d]) ⟨[],_,_,_,⟨λr p d e=>by simp[fw] at e,λr p w M=>by obtain⟨q,h,_⟩:=M;show absurd h (Nat.not_lt_zero _)⟩,by simp,rfl⟩ ?_ ?_
 .unfold lK;walk_at"px";show⟨_,rfl,_,rfl,?_⟩;unfold ic;walk_at"px";rw[wa];show h
 .rintro i ⟨p,t⟩ v hi ⟨f,a,b,d,hd,E,rfl⟩;obtain⟨H,L⟩:=List.getElem?_zip_eq_some.mp hi;have P:=(ar.mp H).1;have ep:fv ps i=p:=by unfold fv;rw[H];rfl
  have I:gy tr i=t:=by unfold gy;rw[L];rfl
  obtain⟨T,S,R⟩:=K p (aI H);have skip:p.n=none->oO f (t6 ps tr (i+1)):=λB=>hd.iff λr u w=>by
   constructor
   .rintro⟨q,F,g,o⟩;by_cases C:q=i
    .rw[C,ep,B] at g;cases g
    show⟨q,by ext,g,o⟩
   rintro⟨q,F,z⟩;show⟨q,by ext,z⟩
  rw[show iE p=.tup [dO p.n,.int p.l,.int p.r,.int p.k] from rfl];walk_at"px";show⟨_,BE _ _ _ _,?_⟩;cases B:p.n with
  | none=>
   walk_at"px";show⟨f,_,_,_,skip B,by ext,rfl⟩
  | some w=>
   rw[show dO (some w)=D.str w from rfl];walk_at"px";obtain⟨m,hm⟩:∃m,(2*p.r+2-(2*p.l+1)).toNat=m:=⟨_,rfl⟩
   show rL (List.range m) (λ(j:Nat)=>.int (2*p.l+1+j)) (λN h=>?_) (λj v=>∃(f:List (List Key×D))(d:Sl),oO f (λr u A=>t6 ps tr i r u A\/(A=w/\r=2*t+1/\2*p.l+1<=u/\u<2*p.l+1+j))/\f.length<=100*i+j/\v=[.fz (lK c cC ps ts tr n),.ov (.dq f),.fz (.tup [.str w,.int p.l,.int p.r,.int p.k]),.fz (.int t),d]) ⟨f,_,hd.iff λr u A=>⟨λz=>z.elim id λz=>by ext,.inl⟩,by ext,rfl⟩ ?_ ?_
   .walk_at"px";simp only[DP,DO,aG,bW];walk_at"px";rw[hm];show⟨⟨by ext,by ext,by ext,by ext⟩,h⟩
   .rintro j x v hx ⟨f,d,hd,E,rfl⟩;have O:x=j:=by
     have:=ar.mp hx;obtain⟨g,o⟩:=this;simpa using o.symm
    subst O;have U:x<m:=by simpa using (ar.mp hx).1
    walk_at"px";have pl:=Ju f (ky (2*t+1) (2*p.l+1+x)) (.str w);show⟨_,BE _ _ _ _,by ext,ky (2*t+1) (2*p.l+1+x),rfl,by ext,_,_,hd.put λr u A=>?_,by ext,rfl⟩;constructor
    .rintro(z | ⟨g,o,s,y⟩)
     .exact .inl (.inl z)
     by_cases hz:u=2*p.l+1+x
     .exact .inr ⟨o,hz,g⟩
     show .inl (.inr ⟨g,o,s,by ext⟩)
    rintro((z | ⟨g,o,s,y⟩) | ⟨g,o,s⟩)
    .exact .inl z
    .exact .inr ⟨g,o,s,by ext⟩
    show .inr ⟨s,g,by ext,by ext⟩
   rintro v ⟨f,d,hd,E,rfl⟩;rw[br] at hd E;show⟨f,_,_,_,hd.iff λr u A=>?_,by ext,rfl⟩;constructor
   .rintro⟨q,F,g,o,s,y⟩;by_cases C:q=i
    .rw[C,ep] at g s y;rw[C,I] at o;rw[B] at g;cases g;show .inr ⟨rfl,o,s,by ext⟩
    show .inl ⟨q,by ext,g,o,s,y⟩
   rintro(⟨q,F,z⟩ | ⟨rfl,o,s,y⟩)
   .exact⟨q,by ext,z⟩
   show⟨i,by ext,by rw[ep];show B,by rw[I];show o,by rw[ep];show s,by rw[ep];ext⟩
 rintro v ⟨f,a,b,d,hd,E,rfl⟩;walk_at"go";show q f ?_;rw[List.length_zip,J,Nat.min_self] at hd;show hd
section
variable(c:cP)(cC:Bool)(ps:List Pc)(ts:List Tr)(tr:List Int)(n:Int)
noncomputable def u9:List (Str×D):=[("channel",c.obj),("bent",.bl cC),("pieces",ic ps),("above",og ts),("tracks",.lst (tr.map .int)),("count",.int n)]
noncomputable def Dk:List (Str×D):=[("top",dP c.top),("bottom",dP c.cw),("left",dS c.left),("right",dS c.right),("wide",dW c.wide),("bends",dB c.cR),("keeps",dK c.keeps)]
theorem yZ:lK c cC ps ts tr n=.obj "Layout" (u9 c cC ps ts tr n):=rfl
theorem BI:c.obj=.obj "Channel" (Dk c):=rfl
theorem C0:List.lookup ("channel":Str) (u9 c cC ps ts tr n)=some c.obj:=rfl
theorem XE:List.lookup ("bent":Str) (u9 c cC ps ts tr n)=some (.bl cC):=rfl
theorem XC:List.lookup ("pieces":Str) (u9 c cC ps ts tr n)=some (.lst (ps.map iE)):=rfl
theorem XF:List.lookup ("above":Str) (u9 c cC ps ts tr n)=some (.lst (ts.map dT)):=rfl
theorem XB:List.lookup ("tracks":Str) (u9 c cC ps ts tr n)=some (.lst (tr.map .int)):=rfl
theorem CZ:List.lookup ("count":Str) (u9 c cC ps ts tr n)=some (.int n):=rfl
theorem CW:List.lookup ("top":Str) (Dk c)=some (.lst (c.top.map dO)):=rfl
theorem CY:List.lookup ("bottom":Str) (Dk c)=some (.lst (c.cw.map dO)):=rfl
theorem XD:List.lookup ("bends":Str) (Dk c)=some (.lst (c.cR.map qv)):=rfl
end
end Wc
open PySem L2 PyProof.Rows Wc
local macro_rules | `(tactic| walk_at"px")=>`(tactic| (repeat(first | walk_at"b" | simp only[zE,LY,vW,vf,IA,IJ,pB,yQ,xG,ve,vN,xH,va,p6,pC,Ci,BP,tq,tN,yZ,BI,C0,XE,XC,XF,XB,CZ,CW,CY,XD,aG,bW])))
namespace Wc
open PySem L2 PyProof.Rows
def t4(c:cP)(cC:Bool)(a:Nat)(w:Str):Prop:=c.top[a]?=some (some w)\/c.cw[a]?=some (some w)\/(cC=true/\((a:Int),w)∈c.cR)
def zP:eA:=λds Q=>∃(c:cP)(cC:Bool)(ps:List Pc)(ts:List Tr)(tr:List Int)(n:Int)(col:Nat),ds=[lK c cC ps ts tr n,.int col]/\j0 c/\col<c.top.length/\c.cR.length<=40/\∀a:List Str,a.Nodup->a.length<64->(∀w,w∈a↔t4 c cC col w)->Q (.ow (a.map D.str))
def FZ:TX:=(cQ (jr 2 (gw (cB (cE dA (fK "top" (fK "channel" (cx 0))) (cx 1)) (cB (cE dA (fK "bottom" (fK "channel" (cx 0))) (cx 1)) cH))))
 (cQ (fT (dn (fK "bent" (cx 0))) (va 2 (fD (gu (fK "bends" (fK "channel" (cx 0)))) [none,none,some 1] (iS 2 (dX (cZ 0) (dX (cZ 1) hE))) (dn (cE oEq (cx 0) (cx 2))) (cx 1))) gv)
 (oC 2 (fB (eW uy (cB (fD (gu (cx 2)) [none] (cZ 0) (dn (cE (jV true) (cx 0) (dC .non))) (cx 0)) cH))))))
theorem WZ:gA 2 zP FZ ["layout","column","names"]:=by
 intro ds o hl h;obtain⟨c,cC,ps,ts,tr,n,col,rfl,sh,i,K,q⟩:=h;show FZ _ [.fz (lK c cC ps ts tr n),.fz (.int col),.un];unfold FZ;have big:=gU;have m:col<c.cw.length:=by rw[sh.b];show i
 have a1:fc c.top (col:Int)=some c.top[col]:=kd i;have a2:fc c.cw (col:Int)=some c.cw[col]:=kd m;have g:∀w,c.top[col]=some w↔c.top[col]?=some (some w):=λw=>by rw[ai i];simp
 have f:∀w,c.cw[col]=some w↔c.cw[col]?=some (some w):=λw=>by rw[ai m];simp
 generalize c.top[col]=u at a1 g;generalize c.cw[col]=v at a2 f
 -- Q P behind L J
 have fin:∀all:List (Option Str),all.length<=60->(∀w,some w∈all↔t4 c cC col w)->∀x y:Sl,oQ (oC 2 (fB (eW uy (cB (fD (gu (cx 2)) [none] (cZ 0) (dn (cE (jV true) (cx 0) (dC .non))) (cx 0)) cH)))) { nx:=λ_=>o (.fz .non),rt:=o } [x,y,.ow (all.map dO)]:=by
  intro all H hm x y;walk_at"go";show oT all dO dO (λx=>x.isSome) (λC h=>?_) (by ext) (λx hx E F k1 j=>?_) ?_
  .walk_at"px";show h
  .walk_at"px";cases x with
   | none=>show j rfl
   | some x=>show k1 rfl
  rw[EH];have O:(all.filterMap id).length<=60:=aL (List.length_filterMap_le _ _) H;have I:∀w,w∈all.filterMap id↔t4 c cC col w:=λw=>by rw[<-hm w];simp[List.mem_filterMap]
  simp only[uj,uy,tN];show⟨by ext,λl nd h=>?_,λB nd h M=>q B nd ?_ λw=>(h w).trans (I w)⟩
  .have:=wj nd h;ext
  have:=wj nd λw hw=>(h w).mp hw;ext
 rw[yZ];walk_at"px";simp only[a1,a2,aG,bW];show⟨by ext,?_⟩;cases r:cC with
 | false=>
  walk_at"go";rw[r] at fin;show fin [u,v] (by simp) (λw=>?_) _ _;unfold t4;simp only[au,bC,or_false,aq,false_and];rw[<-g,<-f];constructor
  .rintro(z | z)
   .exact .inl z.symm
   show .inr z.symm
  rintro(z | z)
  .exact .inl z.symm
  show .inr z.symm
 | true=>
  walk_at"go";show oT c.cR qv (λp=>.str p.2) (λp=>decide (p.1=(col:Int))) (λC h=>?_) (by ext) (λp N E F k1 j=>?_) ?_
  .walk_at"px";show h
  .rw[show qv p=.tup [.int p.1,.str p.2] from rfl];walk_at"px";by_cases d:p.1=(col:Int)
   .rw[if_pos d];show k1 (by simpa using d)
   rw[if_neg d];show j (by simpa using d)
  have hlen:=ba (λp=>decide (p.1=(col:Int))) c.cR;show⟨by simp;ext,?_⟩;rw[r] at fin;have e:dO u::dO v::(c.cR.filter λp=>decide (p.1=(col:Int))).map (λp=>D.str p.2)=([u,v]++(c.cR.filter λp=>decide (p.1=(col:Int))).map λp=>some p.2).map dO:=by rw[aE,aR];rfl
  rw[e];show fin _ (by simp;ext) (λw=>?_) _ _;unfold t4;simp only[aw,au,bC,or_false,true_and,aM,aT,bE,aG];rw[<-g,<-f];constructor
  .rintro((z | z) | ⟨p,⟨A,t⟩,s⟩)
   .exact .inl z.symm
   .exact .inr (.inl z.symm)
   show .inr (.inr (by rw[<-t,<-s];show A))
  rintro(z | z | z)
  .exact .inl (.inl z.symm)
  .exact .inl (.inr z.symm)
  show .inr ⟨_,⟨z,rfl⟩,rfl⟩
noncomputable def g5(c:cP)(ps:List Pc)(tr:List Int)(n:Int)(w:Str)(a:Nat):List Int:=
 (kG ps (some w) a).map (λj=>2*gy tr j+1)++(if c.top[a]?=some (some w) then [0] else [])++(if c.cw[a]?=some (some w) then [2*n] else [])
def zJ:eA:=λds Q=>∃(c:cP)(cC:Bool)(ps:List Pc)(ts:List Tr)(tr:List Int)(n:Int)(w:Str)(col:Nat),ds=[lK c cC ps ts tr n,.str w,.int col]/\j0 c/\col<c.top.length/\ps.length<=500/\tr.length=ps.length/\
 g5 c ps tr n w col≠[]/\(∀x∈g5 c ps tr n w col,0<=x/\x<=10000)/\∀m M,mH m (g5 c ps tr n w col)->mI M (g5 c ps tr n w col)->Q (.ow ((List.range (M+1-m).toNat).map λ(k:Nat)=>.int (m+k)))
def FR:TX:=(cQ (jr 3 (fD (gu (eF 3 wt (cB (fK "pieces" (cx 0)) (cB (cx 1) (cB (cx 2) cH))))) [none,some 0] (cZ 0) jq (cE eB (cE (oI gk λi j=>.int (i*j)) (dC (.int 2)) (cE dA (fK "tracks" (cx 1)) (cx 0))) (dC (.int 1)))))
 (cQ (fT (dn (cE oEq (cE dA (fK "top" (fK "channel" (cx 0))) (cx 2)) (cx 1))) (jy 3 (dC (.int 0))) gv)
 (cQ (fT (dn (cE oEq (cE dA (fK "bottom" (fK "channel" (cx 0))) (cx 2)) (cx 1))) (jy 3 (cE (oI gk λi j=>.int (i*j)) (dC (.int 2)) (fK "count" (cx 0)))) gv)
 (oC 3 (fB (Ci (cB (eW p6 (cB (cx 3) cH)) (cB (cE eB (eW pC (cB (cx 3) cH)) (dC (.int 1))) cH))))))))
theorem Wm:gA 3 zJ FR ["layout","name","column","rows"]:=by
 intro ds p hl h;obtain⟨c,cC,ps,ts,tr,n,w,col,rfl,sh,f,F,E,i,o,q⟩:=h;show FR _ [.fz (lK c cC ps ts tr n),.fz (.str w),.fz (.int col),.un];unfold FR;have big:=gU;have r:col<c.cw.length:=by rw[sh.b];show f
 have a1:fc c.top (col:Int)=some c.top[col]:=kd f;have a2:fc c.cw (col:Int)=some c.cw[col]:=kd r;have al:=zc ps (some w) col;rw[yZ];walk_at"px";show mv (kG ps (some w) col) dN (λj=>.int (2*gy tr j+1)) (λO h=>?_) (by ext) (λj s P k=>?_) ?_
 .walk_at"px";show⟨ps,some w,col,rfl,by ext,h⟩
 .have K:=(vY s).1;have B:fc tr (j:Int)=some (gy tr j):=by rw[BN (by ext)];show kd (by ext)
  rw[show dN j=D.int j from rfl];walk_at"px";simp only[B,aG,bW];show k
 have fin:∀L:List Int,L=g5 c ps tr n w col->∀x y z:Sl,oQ (oC 3 (fB (Ci (cB (eW p6 (cB (cx 3) cH)) (cB (cE eB (eW pC (cB (cx 3) cH)) (dC (.int 1))) cH))))) { nx:=λ_=>p (.fz .non),rt:=p } [x,y,z,.ow (L.map .int)]:=by
  rintro L rfl x y z;walk_at"go";show⟨i,λm hm hle=>⟨i,λM g C=>?_⟩⟩;have J:=o m hm;have I:=o M g;have H:=hle M g;show⟨by ext,by ext,by ext,by ext,q m M ⟨hm,hle⟩ ⟨g,C⟩⟩
 unfold g5 at fin i;rw[ai f,ai r] at fin;simp only[aG] at fin;rw[show(kG ps (some w) col).map (λj=>D.int (2*gy tr j+1))=((kG ps (some w) col).map λj=>2*gy tr j+1).map D.int by rw[aR];rfl];generalize c.top[col]=u at a1 fin;generalize c.cw[col]=v at a2 fin;generalize t:(kG ps (some w) col).map (λj=>2*gy tr j+1)=A at fin ⊢;have N:A.length<=500:=by rw[<-t,ae];ext
 walk_at"go";simp only[a1,aG,bW];walk_at"px";by_cases e:u=some w
 .rw[if_pos e];show⟨by simp;ext,?_⟩;walk_at"go";simp only[a2,aG,bW];walk_at"px";by_cases d:v=some w
  .rw[if_pos d];show⟨by simp;ext,?_⟩;have:=fin (A++[0]++[2*n]) (by rw[if_pos e,if_pos d]);rw[aE,aE] at this;show this _ _ _
  rw[if_neg d];have:=fin (A++[0]) (by rw[if_pos e,if_neg d,a9]);rw[aE] at this;show this _ _ _
 rw[if_neg e];walk_at"go";simp only[a2,aG,bW];walk_at"px";by_cases d:v=some w
 .rw[if_pos d];show⟨by simp;ext,?_⟩;have:=fin (A++[2*n]) (by rw[if_neg e,if_pos d,a9]);rw[aE] at this;show this _ _ _
 rw[if_neg d];show fin A (by rw[if_neg e,if_neg d,a9,a9]) _ _ _
def xy(L:List Int)(r:Int):Prop:=∃m M,mH m L/\mI M L/\m<=r/\r<=M
theorem Qt{L:List Int}{m M:Int}(b:mH m L)(a:mI M L)(r:Int):xy L r↔m<=r/\r<=M:=by
 constructor
 .rintro⟨c,d,g1,g2,g3,e⟩;have:=g1.2 m b.1;have:=b.2 c g1.1;have:=g2.2 M a.1;have:=a.2 d g2.1;ext
 show λh=>⟨m,M,b,a,h.1,h.2⟩
def t5(c:cP)(cC:Bool)(ps:List Pc)(tr:List Int)(n:Int)(i:Nat)(r p:Int)(w:Str):Prop:=∃col:Nat,col<i/\p=2*col+1/\t4 c cC col w/\xy (g5 c ps tr n w col) r
def zQ:eA:=λds Q=>∃(c:cP)(cC:Bool)(ps:List Pc)(ts:List Tr)(tr:List Int)(n:Int),ds=[lK c cC ps ts tr n]/\j0 c/\c.top.length<=16/\c.cR.length<=40/\ps.length<=500/\tr.length=ps.length/\(∀col w,t4 c cC col w->g5 c ps tr n w col≠[])/\(∀col w,∀x∈g5 c ps tr n w col,0<=x/\x<=10000)/\∀a,oO a (t5 c cC ps tr n c.top.length)->Q (.ov (.dq a))
def FN:TX:=(cQ (jr 1 yQ)
 (cQ (iG (mK (cB (eW mj (cB (fK "top" (fK "channel" (cx 0))) cH)) cH)) (cZ 2) (iG (gu (eF 2 zP (cB (cx 0) (cB (cx 2) cH)))) (cZ 3) (iG (gu (eF 3 zJ (cB (cx 0) (cB (cx 3) (cB (cx 2) cH))))) (cZ 4) (xG 1 (kz (cB (cx 4) (cB (cE eB (cE (oI gk λi j=>.int (i*j)) (dC (.int 2)) (cx 2)) (dC (.int 1))) cH))) (cx 3)))))
 (xH 1)))
theorem WO:gA 1 zQ FN ["layout","names","column","name","row"]:=by
 intro ds Qr hl h;obtain⟨c,cC,ps,ts,tr,n,rfl,sh,hw,L,O,N,R,H,q⟩:=h;show FN _ [.fz (lK c cC ps ts tr n),.un,.un,.un,.un];unfold FN;have big:=gU;walk_at"px";walk_at"go";rw[<-yZ];show uu c.top.length (λJ h=>?_) (λi u=>∃(f:List (List Key×D))(a b d:Sl),oO f (t5 c cC ps tr n i)/\f.length<=700000*i/\u=[.fz (lK c cC ps ts tr n),.ov (.dq f),a,b,d]) ⟨[],_,_,_,⟨λr p d e=>by simp[fw] at e,λr p w S=>by obtain⟨q,h,_⟩:=S;show absurd h (Nat.not_lt_zero _)⟩,by simp,rfl⟩ ?_ ?_
 .rw[yZ];walk_at"px";rw[ae];show⟨by ext,by ext,by simpa using h⟩
 .rintro i u hi ⟨f,a,b,d,hd,B,rfl⟩;show zi (λds=>∃s:List Str,s.Nodup/\s.length<64/\(∀w,w∈s↔t4 c cC i w)/\ds=s.map .str) (λJ h=>?_) ?_
  .walk_at"px";show⟨c,cC,ps,ts,tr,n,i,rfl,sh,hi,L,λs nd hl hm=>h _ ⟨s,nd,hl,hm,rfl⟩⟩
  rintro _ ⟨s,nd,Na,hm,rfl⟩;show Fb s D.str (λj u=>∃(f:List (List Key×D))(b d:Sl),oO f (λr p w=>t5 c cC ps tr n i r p w\/(p=2*i+1/\w∈s.take j/\xy (g5 c ps tr n w i) r))/\f.length<=700000*i+10002*j/\u=[.fz (lK c cC ps ts tr n),.ov (.dq f),.fz (.int i),b,d]) ⟨f,_,_,hd.iff λr p w=>⟨λz=>z.elim id λz=>by simp at z,.inl⟩,by ext,rfl⟩ ?_ ?_
  .rintro j w u F ⟨f,b,d,hd,B,rfl⟩;have V:=(ar.mp F).1;have T:w∈s:=aI F;have tk:s.take (j+1)=s.take j++[w]:=by rw[aY,F];rfl
   show zi (λds=>∃m M,mH m (g5 c ps tr n w i)/\mI M (g5 c ps tr n w i)/\ds=(List.range (M+1-m).toNat).map λ(k:Nat)=>.int (m+k)) (λJ h=>?_) ?_
   .walk_at"px";show⟨c,cC,ps,ts,tr,n,w,i,rfl,sh,hi,O,N,R i w ((hm w).mp T),H i w,λm M y v=>h _ ⟨m,M,y,v,rfl⟩⟩
   rintro _ ⟨m,M,y,v,rfl⟩;have Z:=H i w m y.1;have Y:=H i w M v.1;have X:=y.2 M v.1;have sp:=Qt y v;obtain⟨K,Q⟩:∃K,(M+1-m).toNat=K:=⟨_,rfl⟩
   rw[Q];show Fb (List.range K) (λ(k:Nat)=>.int (m+k)) (λk u=>∃(f:List (List Key×D))(d:Sl),oO f (λr p A=>(t5 c cC ps tr n i r p A\/(p=2*i+1/\A∈s.take j/\xy (g5 c ps tr n A i) r))\/(p=2*i+1/\A=w/\m<=r/\r<m+k))/\f.length<=700000*i+10002*j+k/\u=[.fz (lK c cC ps ts tr n),.ov (.dq f),.fz (.int i),.fz (.str w),d]) ⟨f,_,hd.iff λr p w=>⟨λz=>z.elim id λz=>by ext,.inl⟩,by ext,rfl⟩ ?_ ?_
   .rintro k x u hx ⟨f,d,hd,B,rfl⟩;have U:x=k:=by
     obtain⟨o,g⟩:=ar.mp hx;simpa using g.symm
    subst U;have XT:x<K:=by simpa using (ar.mp hx).1
    have pl:=Ju f (ky (m+x) (2*i+1)) (.str w);walk_at"px";show⟨by ext,by ext,ud f (ky (m+x) (2*i+1)) (.str w),_,hd.put λr W A=>?_,by ext,rfl⟩;constructor
    .rintro(z | ⟨o,g,t,I⟩)
     .exact .inl (.inl z)
     by_cases hz:r=m+x
     .exact .inr ⟨hz,o,g⟩
     show .inl (.inr ⟨o,g,t,by ext⟩)
    rintro((z | ⟨o,g,t,I⟩) | ⟨o,g,t⟩)
    .exact .inl z
    .exact .inr ⟨o,g,t,by ext⟩
    show .inr ⟨g,t,by ext,by ext⟩
   rintro u ⟨f,d,hd,B,rfl⟩;rw[br] at hd B;show⟨f,_,_,hd.iff λr p A=>?_,by ext,rfl⟩;rw[tk];constructor
   .rintro(z | ⟨o,g,t⟩)
    .exact .inl (.inl z)
    rcases aw.mp g with g | g
    .exact .inl (.inr ⟨o,g,t⟩)
    simp at g;subst g;have:=(sp r).mp t;show .inr ⟨o,rfl,this.1,by ext⟩
   rintro((z | ⟨o,g,t⟩) | ⟨o,rfl,t,I⟩)
   .exact .inl z
   .exact .inr ⟨o,bO _ g,t⟩
   show .inr ⟨o,by simp,(sp r).mpr ⟨t,by ext⟩⟩
  rintro u ⟨f,b,d,hd,B,rfl⟩;rw[bL] at hd;show⟨f,_,_,_,hd.iff λr p w=>?_,by ext,rfl⟩;constructor
  .rintro⟨col,y,v,E,C⟩;by_cases P:col=i
   .subst P;show .inr ⟨v,(hm w).mpr E,C⟩
   show .inl ⟨col,by ext,v,E,C⟩
  rintro(⟨col,y,h⟩ | ⟨v,E,C⟩)
  .exact⟨col,by ext,h⟩
  show⟨i,by ext,v,(hm w).mp E,C⟩
 rintro u ⟨f,a,b,d,hd,B,rfl⟩;walk_at"go";show q f hd
noncomputable def sgn:Option Str->Option Str->Str
 | none,none=>" "
 | some _,none=>"-"
 | none,some _=>"|"
 | some a,some b=>if a=b then "+" else "#"
theorem Jt(s u:Option Str):(sgn s u).length=1:=by
 cases s<;>cases u<;>simp only[sgn]<;>first | decide | (split<;>decide)
def zG:eA:=λds Q=>∃s u:Option Str,ds=[dO s,dO u]/\Q (.fz (.str (sgn s u)))
def EX:TX:=(cQ (fT (oP (dn (cE (jV false) (cx 0) (dC .non))) (dn (cE (jV false) (cx 1) (dC .non)))) (fB (dC (.str " "))) gv)
 (cQ (fT (dn (cE (jV false) (cx 1) (dC .non))) (fB (dC (.str "-"))) gv)
 (cQ (fT (dn (cE (jV false) (cx 0) (dC .non))) (fB (dC (.str "|"))) gv)
 (cQ (fT (dn (cE oEq (cx 0) (cx 1))) (fB (dC (.str "+"))) gv)
 (fB (dC (.str "#")))))))
theorem US:gA 2 zG EX ["stretch_name","upright_name"]:=by
 intro ds d hl h;obtain⟨s,u,rfl,q⟩:=h;show EX _ [.fz (dO s),.fz (dO u)];unfold EX;cases s with
 | none=>
  rw[show dO none=D.non from rfl];cases u with
  | none=>
   rw[show dO none=D.non from rfl];walk_at"px";show q
  | some b=>
   rw[show dO (some b)=D.str b from rfl];walk_at"px";walk_at"go";walk_at"go";show q
 | some a=>
  rw[show dO (some a)=D.str a from rfl];cases u with
  | none=>
   rw[show dO none=D.non from rfl];walk_at"px";walk_at"go";show q
  | some b=>
   rw[show dO (some b)=D.str b from rfl];walk_at"px";walk_at"go";walk_at"go";walk_at"go";simp only[sgn] at q;by_cases h:a=b
   .rw[if_pos h];rw[if_pos h] at q;show q
   rw[if_neg h];rw[if_neg h] at q;walk_at"go";show q
theorem LA(z:Array Nat):∀(l:List Str)(a:Array Nat),(l.foldl (λacc p=>acc++z++p.cps) a).size=a.size+(l.map (·.length)).sum+l.length*z.size
 | [],a=>by simp
 | x::l,a=>by
  rw[List.foldl_cons,LA z l];simp only[Array.size_append,ax,List.sum_cons,aD,Nat.succ_mul,Str.length];ext
theorem Cn(x:Str)(l:List Str):(Txt.join x l).length<=(l.map (·.length)).sum+l.length*x.length:=by
 unfold Txt.join Builtin.Str.glued;cases l with
 | nil=>simp[Str.length,Str.empty]
 | cons a l=>
  show(List.foldl _ a.cps l).size<=_;rw[LA];simp only[ax,List.sum_cons,aD,Nat.succ_mul,Str.length];ext
theorem Cc{l:List Str}{B:Nat}(h:∀w∈l,w.length<=B):(l.map (·.length)).sum<=l.length*B:=by
 induction l with
 | nil=>simp
 | cons a r b=>
  rw[ax,List.sum_cons,aD,Nat.succ_mul];have:=b λw hw=>h w (aK _ hw)
  have:=h a List.mem_cons_self;ext
def t8(C:Int->Int->Str->Prop)(r p:Int):Option Str->Prop
 | none=>∀w,¬C r p w
 | some w=>C r p w
theorem oO.get{a:List (List Key×D)}{C:Int->Int->Str->Prop}(h:oO a C)(r p:Int):∃s,(fw a (ky r p)).getD .non=dO s/\t8 C r p s:=by
 cases e:fw a (ky r p) with
 | none=>show⟨none,rfl,λw hw=>by have:=h.ha r p w hw;rw[e] at this;cases this⟩
 | some d=>
  obtain⟨w,rfl,hw⟩:=h.so r p d e;show⟨some w,rfl,hw⟩
structure Br(c:cP)(cC:Bool)(ps:List Pc)(tr:List Int)(n:Int):Prop where
 sh:j0 c
 tw:c.top.length<=16
 be:c.cR.length<=40
 vH:ps.length<=500
 len:tr.length=ps.length
 pb:∀p∈ps,-1<=p.l/\p.l<=p.r/\p.r<=40
 ne:∀col w,t4 c cC col w->g5 c ps tr n w col≠[]
 rb:∀col w,∀x∈g5 c ps tr n w col,0<=x/\x<=10000
 n0:0<=n
 n1:n<=5000
noncomputable def u7(W:Nat)(f:Nat->Nat->Str)(r:Nat):Str:=Txt.join (Str.ofString "") ((List.range W).map (f r))
noncomputable def DM(N W:Nat)(f:Nat->Nat->Str):Str:=Txt.join (Str.ofString "\n") ((List.range N).map (u7 W f))
theorem Js(W:Nat)(f:Nat->Nat->Str)(a:∀r p,(f r p).length=1)(r:Nat):(((List.range W).map (f r)).map (·.length)).sum+((List.range W).map (f r)).length*(Str.ofString "").length<=W:=by
 have h:=Cc (l:=(List.range W).map (f r)) (B:=1) λw hw=>by
  obtain⟨p,_,rfl⟩:=aM.mp hw;rw[a];show az 1
 have e:(Str.ofString "").length=0:=by decide +kernel
 rw[e];rw[ae,br] at h;ext
theorem Ko(N W:Nat)(f:Nat->Nat->Str)(a:∀r p,(f r p).length=1):(((List.range N).map (u7 W f)).map (·.length)).sum+((List.range N).map (u7 W f)).length*(Str.ofString "\n").length<=N*(W+1):=by
 have h:=Cc (l:=(List.range N).map (u7 W f)) (B:=W) λw hw=>by
  obtain⟨r,_,rfl⟩:=aM.mp hw;show aL (Cn _ _) (Js W f a r)
 have e:(Str.ofString "\n").length=1:=by decide +kernel
 rw[e];rw[ae,br] at h ⊢;rw[Nat.mul_add];ext
def vj:eA:=λds Q=>∃(c:cP)(cC:Bool)(ps:List Pc)(ts:List Tr)(tr:List Int)(n:Int),ds=[lK c cC ps ts tr n]/\Br c cC ps tr n/\
 ∀f:Nat->Nat->Str,(∀r p:Nat,∃s u,t8 (t6 ps tr ps.length) r p s/\t8 (t5 c cC ps tr n c.top.length) r p u/\f r p=sgn s u)->Q (.fz (.str (DM (2*n+1).toNat (2*c.top.length+1) f)))
def Ek:TX:=(cQ (eu 1 (eF 1 zR (cB (cx 0) cH)))
 (cQ (eu 2 (eF 1 zQ (cB (cx 0) cH)))
 (cQ (jr 3 (gw cH))
 (cQ (iG (mK (cB (cE eB (cE (oI gk λi j=>.int (i*j)) (dC (.int 2)) (fK "count" (cx 0))) (dC (.int 1))) cH)) (cZ 4) (cQ (eu 5 (fD (mK (cB (cE eB (cE (oI gk λi j=>.int (i*j)) (dC (.int 2)) (eW mj (cB (fK "top" (fK "channel" (cx 0))) cH))) (dC (.int 1))) cH)) [none,some 4] (cZ 0) jq (kz (cB (cx 1) (cB (cx 0) cH)))))
 (jy 3 (dM "str" tq (dC (.str "")) (cB (fD (gu (cx 5)) [none,some 1,some 2] (cZ 0) jq (eF 2 zG (cB (BP (cx 1) (cx 0)) (cB (BP (cx 2) (cx 0)) cH)))) cH)))))
 (oC 3 (fB (dM "str" tq (dC (.str "\n")) (cB (cx 3) cH))))))))
theorem Ti:gA 1 vj Ek ["layout","stretches","uprights","rows","row","places"]:=by
 intro ds H hl h;obtain⟨c,cC,ps,ts,tr,n,rfl,O,q⟩:=h;show Ek _ [.fz (lK c cC ps ts tr n),.un,.un,.un,.un,.un];unfold Ek;have big:=gU;have n0:=O.n0;have n1:=O.n1;have tw:=O.tw;walk_at"px";show⟨c,cC,ps,ts,tr,n,rfl,O.vH,O.len,O.pb,λu B=>?_⟩;walk_at"go";show⟨c,cC,ps,ts,tr,n,rfl,O.sh,O.tw,O.be,O.vH,O.len,O.ne,O.rb,λv A=>?_⟩;have f:∀r p:Nat,∃s,(fw u (ky r p)).getD .non=dO s/\t8 (t6 ps tr ps.length) r p s:=λr p=>B.get r p
 have e:∀r p:Nat,∃s,(fw v (ky r p)).getD .non=dO s/\t8 (t5 c cC ps tr n c.top.length) r p s:=λr p=>A.get r p
 let F:Nat->Nat->Str:=λr p=>sgn (Classical.choose (f r p)) (Classical.choose (e r p))
 have o:∀r p,(F r p).length=1:=λr p=>Jt _ _
 have g:=q F λr p=>⟨_,_,(Classical.choose_spec (f r p)).2,(Classical.choose_spec (e r p)).2,rfl⟩
 obtain⟨W,x⟩:∃W,2*c.top.length+1=W:=⟨_,rfl⟩
 obtain⟨N,m⟩:∃N,(2*n+1).toNat=N:=⟨_,rfl⟩
 rw[x,m] at g;walk_at"go";show⟨by ext,?_⟩;walk_at"go";show uu N (λt h=>?_) (λi d=>∃a b:Sl,d=[.fz (lK c cC ps ts tr n),.fz (.dit u),.fz (.dit v),.ow (((List.range i).map (u7 W F)).map .str),a,b]) ⟨_,_,rfl⟩ ?_ ?_
 .walk_at"px";rw[m];show⟨by ext,by ext,h⟩
 .rintro r d E ⟨a,b,rfl⟩;walk_at"px";show mv (List.range W) (λ(j:Nat)=>.int (0+j)) (λj=>.tup [.int r,.int j]) (λt h=>?_) (by simp;ext) (λj w C k=>?_) ?_
  .walk_at"px";rw[ae];rw[show(2*(c.top.length:Int)+1).toNat=W by ext];show⟨by ext,by ext,h⟩
  .rw[Int.zero_add];walk_at"px";show⟨by ext,k⟩
  walk_at"go";show⟨rfl,?_⟩;show mv (List.range W) (λj=>.tup [.int r,.int j]) (λj=>.str (F r j)) (λt h=>?_) (by simp;ext) (λj w C k=>?_) ?_
  .walk_at"px";show h
  .walk_at"px";show⟨_,_,?_,k⟩;have z:=(Classical.choose_spec (f r j)).1;have y:=(Classical.choose_spec (e r j)).1;rw[<-z,<-y];rfl
  rw[show(List.range W).map (λj=>D.str (F r j))=((List.range W).map (F r)).map D.str by rw[aR];rfl];walk_at"px";have rs:=Js W F o r;rw[List.range_succ,aE,aE];show⟨by ext,by simp;ext,_,_,rfl⟩
 rintro d ⟨a,b,rfl⟩;walk_at"go";have ds:=Ko N W F o;have:N*(W+1)<=10001*34:=Nat.mul_le_mul (by ext) (by ext);show⟨rfl,by ext,g⟩
theorem Ej(w:Str)(c k:Int):∀(a x:Int)(r:List Int),a<=k->k<=(x::r).getLast (by simp)->∃p∈rm w c (a::x::r),p.l<=k/\k<=p.r
 | a,x,[],d,b=>⟨⟨some w,a,x,c⟩,by rw[EC];simp,d,b⟩
 | a,x,y::r,d,b=>by
  rw[EC];by_cases h:k<=x
  .exact⟨_,List.mem_cons_self,d,h⟩
  obtain⟨p,e,z⟩:=Ej w c k x y r (by ext) (by rw[List.getLast_cons (by simp)] at b;show b);show⟨p,aK _ e,z⟩
theorem Oq{ps:List Pc}{n:Option Str}{k:Int}{p:Pc}(h:p∈ps)(a:p.n=n)(d:p.l<=k)(c:k<=p.r):∃j,j∈kG ps n k:=by
 obtain⟨j,b⟩:=List.mem_iff_getElem?.mp h;show⟨j,aM.mpr ⟨(p,j),aT.mpr ⟨List.mem_zipIdx_iff_getElem?.mpr b,?_⟩,rfl⟩⟩;simp[yH,a,d,c]
theorem Oo{l:List (Option Str)}{w:Str}(h:2<=l.count (some w)):∃i j:Nat,i<j/\l[i]?=some (some w)/\l[j]?=some (some w):=by
 induction l with
 | nil=>simp at h
 | cons x r a=>
  by_cases hx:x=some w
  .subst hx;rw[List.count_cons_self] at h;obtain⟨j,b⟩:=List.mem_iff_getElem?.mp (List.count_pos_iff.mp (show 0<r.count (some w) by ext));show⟨0,j+1,by ext,rfl,by simpa using b⟩
  rw[List.count_cons_of_ne hx] at h;obtain⟨i,j,e,d,c⟩:=a h;show⟨i+1,j+1,by ext,by simpa using d,by simpa using c⟩
section
variable{c:cP}{cC:Bool}{l:List Str}{ts:List Tr}{tr:List Int}{n:Int}
theorem Om{ps:List Pc}{q:Nat}(h:q<ps.length):fv ps q∈ps:=by rw[xT h];show bK h
theorem g9.k(L:g9 c cC l ts tr n){q:Nat}(h:q<(cK c cC l).length):1<=(fv (cK c cC l) q).k/\(fv (cK c cC l) q).k<=3:=by
 obtain⟨ws,most,_,hm,g⟩:=L.good;show Kq g (by ext) cC l _ (Om h)
theorem g9.ge(L:g9 c cC l ts tr n){q:Nat}(h:q<(cK c cC l).length):gy tr q+(fv (cK c cC l) q).k<=n:=by
 show L.cnt.ge (fv (cK c cC l) q,gy tr q) (aI (i:=q) ?_);have:=L.qj.len;show List.getElem?_zip_eq_some.mpr ⟨by rw[xT h];show ai h,by rw[BN (by ext)];show ai _⟩
theorem g9.NC(L:g9 c cC l ts tr n){w:Str}(hw:lW c w){a b k:Int}(h:rn (pl c w)=some (a,b))(f:a<=k)(e:k<=b):∃j,j∈kG (cK c cC l) (some w) k:=by
 have:∃p∈px c cC w,p.l<=k/\k<=p.r:=by
  unfold px;rw[h];dsimp only;generalize (if cC=true then oF c w else [])=bs;cases bs with
  | nil=>show Ej w _ k a b [] f e
  | cons x r=>show Ej w _ k a x (r++[b]) f (by rw[List.getLast_cons (by simp)];simpa using e)
 obtain⟨p,d,i,g⟩:=this;show Oq (aU _ (List.mem_flatMap.mpr ⟨w,(L.Gr.mem w).mpr hw,d⟩)) (R3 cC d) i g
theorem g9.uS(L:g9 c cC l ts tr n){r p:Int}(w a:Str)(h:t6 (cK c cC l) tr (cK c cC l).length r p w)(g:t6 (cK c cC l) tr (cK c cC l).length r p a):w=a:=by
 obtain⟨q,f,n1,m,a1,t⟩:=h;obtain⟨d,b,n2,j,a2,s⟩:=g;by_cases e:q=d
 .subst e;rw[n1] at n2;show bU n2
 apply Classical.byContradiction;intro i;have k1:=L.k f;have o:=L.k b;show L.qj.no q d f b e ⟨.inr ?_,by ext,by ext,by ext⟩;rw[n1,n2];show λz=>i (bU z).symm
theorem g9.up(L:g9 c cC l ts tr n){a:Nat}{w:Str}(h:t4 c cC a w):c.top[a]?=some (some w)\/c.cw[a]?=some (some w)\/(cC=true/\((a:Int),w)∈c.cR/\c.top[a]?=some none/\c.cw[a]?=some none):=by
 obtain⟨ws,most,_,hm,g⟩:=L.good;rcases h with h | h | ⟨h,b⟩
 .exact .inl h
 .exact .inr (.inl h)
 obtain⟨n,f,_,_,_,z⟩:=g.be.at_ _ b;have:a=n:=by dsimp only at f;ext
 subst this;rcases z with⟨e,d⟩ | z | z
 .exact .inr (.inr ⟨h,b,e,d⟩)
 .exact .inl z
 show .inr (.inl z)
theorem R0{bs:List (Int×Str)}(h:bs.Pairwise λa b=>a.1<b.1){x:Int}{w e:Str}(g:(x,w)∈bs)(f:(x,e)∈bs):w=e:=by
 induction bs with
 | nil=>cases g
 | cons b r i=>
  obtain⟨g1,g2⟩:=bM.mp h;rcases au.mp g with d | d
  .rcases au.mp f with c | c
   .rw[<-d] at c;cases c;rfl
   have:=g1 _ c;rw[<-d] at this;show absurd this (Int.lt_irrefl _)
  rcases au.mp f with c | c
  .have:=g1 _ d;rw[<-c] at this;show absurd this (Int.lt_irrefl _)
  show i g2 d c
theorem g9.pos(L:g9 c cC l ts tr n){d:Nat}{w:Str}(h:c.top[d]?=some (some w))(s:c.cw[d]?≠some (some w)):1<=n:=by
 obtain⟨ws,most,_,hm,g⟩:=L.good;have f:∀i:Nat,c.top[i]?=some (some w)\/c.cw[i]?=some (some w)->(i:Int)∈pl c w:=λi hi=>by
  have v:i<c.top.length:=by
   rcases hi with hi | hi
   .exact(ar.mp hi).1
   rw[<-g.bl];show(ar.mp hi).1
  unfold pl;show bO _ (aU _ (aM.mpr ⟨i,aT.mpr ⟨bB.mpr v,by simpa using hi⟩,rfl⟩))
 have two:∃a∈pl c w,∃b∈pl c w,a<b:=by
  by_cases o:w∈c.left\/w∈c.right
  .exact Qv g o
  by_cases q:some w∈c.cw
  .obtain⟨i,hi⟩:=List.mem_iff_getElem?.mp q;have:i≠d:=λz=>s (z▸hi)
   rcases Nat.lt_or_gt_of_ne this with z | z
   .exact⟨_,f i (.inr hi),_,f d (.inl h),by ext⟩
   show⟨_,f d (.inl h),_,f i (.inr hi),by ext⟩
  have p:=g.cnt w;unfold ff at p;rw[bS.mpr q,bS.mpr λz=>o (.inl z),bS.mpr λz=>o (.inr z)] at p;have:=List.count_pos_iff.mpr (aI h);obtain⟨i,j,y,u,t⟩:=Oo (show 2<=c.top.count (some w) by ext);show⟨_,f i (.inl u),_,f j (.inl t),by ext⟩
 obtain⟨a,b,e,x,_⟩:=Kr two;obtain⟨j,r⟩:=L.NC (.inl (aI h)) e (Int.le_refl a) (by ext);have m:=(vY r).1;have:=L.ge m;have:=L.k m;have:=L.qj.lo j m;ext
theorem Cm{ps:List Pc}{w:Str}{a:Nat}{x:Int}(h:x∈g5 c ps tr n w a):(∃j,j∈kG ps (some w) a/\x=2*gy tr j+1)\/(c.top[a]?=some (some w)/\x=0)\/(c.cw[a]?=some (some w)/\x=2*n):=by
 unfold g5 at h;rcases aw.mp h with h | h
 .rcases aw.mp h with h | h
  .obtain⟨j,b,rfl⟩:=aM.mp h;show .inl ⟨j,b,rfl⟩
  split at h
  .rename_i z;show .inr (.inl ⟨z,by simpa using h⟩)
  cases h
 split at h
 .rename_i z;show .inr (.inr ⟨z,by simpa using h⟩)
 cases h
theorem g9.tb(L:g9 c cC l ts tr n){a:Nat}{w b:Str}{r:Int}(f:c.top[a]?=some (some w))(s:c.cw[a]?=some (some b))(g:w≠b)(v:xy (g5 c (cK c cC l) tr n w a) r)(u:xy (g5 c (cK c cC l) tr n b a) r):False:=by
 obtain⟨_,M,_,t,_,y⟩:=v;obtain⟨m,_,hm,_,x,_⟩:=u;have nb:c.cw[a]?≠some (some w):=λz=>by rw[s] at z;cases z;show g rfl
 have p:c.top[a]?≠some (some b):=λz=>by rw[f] at z;cases z;show g rfl
 have np:=L.pos f nb;rcases Cm t.1 with⟨j,q,e⟩ | ⟨_,e⟩ | ⟨z,_⟩
 .have o:=(vY q).1;have k1:=L.k o;rcases Cm hm.1 with⟨d,i,h⟩ | ⟨z,_⟩ | ⟨_,h⟩
  .have:(j,d,(a:Int))∈ts:=by
    show L.ab.pm.mem_iff.mpr (bO _ (List.mem_flatMap.mpr ⟨a,bB.mpr (ar.mp f).1,?_⟩));unfold qK;rw[f,s];dsimp only;rw[if_neg g];show List.mem_flatMap.mpr ⟨j,q,aM.mpr ⟨d,i,rfl⟩⟩
   have:=L.qj.od _ this;dsimp only at this;ext
  .exact p z
  have:=L.ge o;ext
 .rcases Cm hm.1 with⟨d,i,h⟩ | ⟨z,_⟩ | ⟨_,h⟩
  .have:=L.qj.lo d (vY i).1;ext
  .exact p z
  ext
 show nb z
theorem g9.uU(L:g9 c cC l ts tr n){r p:Int}(w e:Str)(m:t5 c cC (cK c cC l) tr n c.top.length r p w)(k:t5 c cC (cK c cC l) tr n c.top.length r p e):w=e:=by
 obtain⟨col,_,s,h,s1⟩:=m;obtain⟨o,_,q,f,s2⟩:=k;have:o=col:=by ext
 subst this;apply Classical.byContradiction;intro d;obtain⟨ws,most,_,hm,g⟩:=L.good;rcases L.up h with t | b | ⟨_,j,t,b⟩<;>rcases L.up f with t' | a | ⟨_,i,t',a⟩
 .rw[t] at t';cases t';show d rfl
 .exact L.tb t a d s1 s2
 .rw[t] at t';cases t'
 .exact L.tb t' b (Ne.symm d) s2 s1
 .rw[b] at a;cases a;show d rfl
 .rw[b] at a;cases a
 .rw[t] at t';cases t'
 .rw[b] at a;cases a
 show d (R0 g.be.up j i)
theorem g9.dr(L:g9 c cC l ts tr n):Br c cC (cK c cC l) tr n:=by
 obtain⟨ws,most,_,hm,g⟩:=L.good;have vH:=L.vH;have w2:=g.w2;have be:=g.be.len;have lo:∀q,q<(cK c cC l).length->0<=gy tr q/\gy tr q<=2500:=λq f=>by
  have:=L.qj.lo q f;have:=L.qj.hi q f;ext
 have nn:0<=n/\n<=2503:=by
  rcases L.cnt.at_ with⟨_,h⟩ | ⟨p,d,h⟩
  .omega
  obtain⟨q,f⟩:=List.mem_iff_getElem?.mp d;obtain⟨m,o⟩:=List.getElem?_zip_eq_some.mp f;have r:=(ar.mp m).1;have A:fv (cK c cC l) q=p.1:=by unfold fv;rw[m];rfl
  have y:gy tr q=p.2:=by unfold gy;rw[o];rfl
  have:=L.k r;have:=lo q r;rw[A,y] at *;ext
 show⟨Jh g (by ext),by ext,by ext,by ext,L.qj.len,λp d=>?_,λcol w t=>?_,λcol w x hx=>?_,by ext,by ext⟩
 .rcases aw.mp d with d | d
  .obtain⟨k,u,rfl⟩:=aM.mp d;have:=g.ke.2 k u;dsimp only;ext
  obtain⟨w,_,d⟩:=List.mem_flatMap.mp d;have:=Jd g (by ext) cC d;ext
 .unfold g5;rcases L.up t with h | h | ⟨_,v,_⟩
  .rw[if_pos h];simp
  .rw[if_pos h];simp
  obtain⟨s,a,b,e,m,o⟩:=Jf g (by ext) v;obtain⟨j,i⟩:=L.NC s e (Int.le_of_lt m) (Int.le_of_lt o);intro z;have:=List.append_eq_nil_iff.mp (List.append_eq_nil_iff.mp z).1;rw[List.map_eq_nil_iff.mp this.1] at i;cases i
 rcases Cm hx with⟨j,i,e⟩ | ⟨_,e⟩ | ⟨_,e⟩
 .have:=lo j (vY i).1;ext
 .omega
 ext
end
noncomputable def nz(c:Nat):List Nat->List (List Nat)
 | []=>[[]]
 | x::r=>if x=c then []::nz c r else match nz c r with
  | []=>[[x]]
  | h::t=>(x::h)::t
theorem Qs(c:Nat):∀l,nz c l≠[]
 | []=>by simp[nz]
 | x::r=>by
  unfold nz;split
  .simp
  split<;>simp
theorem EB(c:Nat)(b:List Nat):∀a:List Nat,nz c (a++c::b)=nz c a++nz c b
 | []=>by simp[nz]
 | x::r=>by
  rw[cg,nz,EB c b r];conv=>rhs;rw[nz]
  by_cases h:x=c
  .simp[h]
  simp only[h,aQ];cases e:nz c r with
  | nil=>show absurd e (Qs c r)
  | cons u v=>simp
theorem Cw(c:Nat):∀a:List Nat,c∉a->nz c a=[a]
 | [],_=>rfl
 | x::r,h=>by
  simp only[au,not_or] at h;rw[nz,if_neg (λz=>h.1 z.symm),Cw c r h.2]
noncomputable def tE(c:Nat):List (List Nat)->List Nat
 | []=>[]
 | [a]=>a
 | a::b::r=>a++c::tE c (b::r)
theorem Lz(c:Nat):∀l:List (List Nat),l≠[]->(∀a∈l,c∉a)->nz c (tE c l)=l
 | [],h,_=>absurd rfl h
 | [a],_,h=>Cw c a (h a (by simp))
 | a::b::r,_,h=>by
  rw[tE,EB,Cw c a (h a (by simp)),Lz c (b::r) (by simp) λz hz=>h z (by simp[hz])];rfl
theorem Ly(z:Array Nat):∀(l:List Str)(a:Array Nat),(l.foldl (λacc p=>acc++z++p.cps) a).toList=a.toList++(l.map λp=>z.toList++p.cps.toList).flatten
 | [],a=>by simp
 | x::l,a=>by
  rw[List.foldl_cons,Ly z l];simp
theorem EA(x:Str)(a:Str)(l:List Str):(Txt.join x (a::l)).cps.toList=a.cps.toList++(l.map λp=>x.cps.toList++p.cps.toList).flatten:=by
 unfold Txt.join Builtin.Str.glued;show Ly _ l a.cps
theorem EW(c:Nat):∀(l:List Str),(Txt.join ⟨#[c]⟩ l).cps.toList=tE c (l.map λs=>s.cps.toList)
 | []=>rfl
 | [a]=>by rw[EA];simp[tE]
 | a::b::r=>by
  have d:=EW c (b::r);rw[EA] at d ⊢;simp only[ax,tE];simp only[ax] at d;rw[<-d];simp
theorem EV(x:Str)(c:Nat):(Txt.split x ⟨#[c]⟩).map (λs=>s.cps.toList)=nz c x.cps.toList:=by
 have g:Txt.join ⟨#[c]⟩ (Txt.split x ⟨#[c]⟩)=x:=(StrLaws.glued_eq_join _ _).trans (StrLaws.join_split x ⟨#[c]⟩);have f:=StrLaws.split_free x c;have d:Txt.split x ⟨#[c]⟩≠[]:=λz=>by
  have:=PyProof.Rows.split_pos x ⟨#[c]⟩;rw[z] at this;simp at this
 have e:x.cps.toList=tE c ((Txt.split x ⟨#[c]⟩).map λs=>s.cps.toList):=by
  rw[<-EW];show congrArg (λs:Str=>s.cps.toList) g.symm
 rw[e,Lz]
 .simpa using d
 intro a ha;obtain⟨s,b,rfl⟩:=aM.mp ha;show f s b
noncomputable def cp(s:Str):List Nat:=s.cps.toList
structure Lay where
 c:cP
 cC:Bool
 l:List Str
 ts:List Tr
 tr:List Int
 n:Int
def Lay.ok(L:Lay):Prop:=g9 L.c L.cC L.l L.ts L.tr L.n
noncomputable def Lay.d(L:Lay):D:=lK L.c L.cC (cK L.c L.cC L.l) L.ts L.tr L.n
def Dy(L:Lay)(t:Str):Prop:=∃f:Nat->Nat->Str,(∀r p:Nat,∃s u,t8 (t6 (cK L.c L.cC L.l) L.tr (cK L.c L.cC L.l).length) r p s/\t8 (t5 L.c L.cC (cK L.c L.cC L.l) L.tr L.n L.c.top.length) r p u/\f r p=sgn s u)/\t=DM (2*L.n+1).toNat (2*L.c.top.length+1) f
theorem Jr{C:Int->Int->Str->Prop}{r p:Int}{s b:Option Str}(un:∀w a,C r p w->C r p a->w=a)(h:t8 C r p s)(h':t8 C r p b):s=b:=by
 cases s with
 | none=>
  cases b with
  | none=>rfl
  | some w=>show absurd h' (h w)
 | some w=>
  cases b with
  | none=>show absurd h (h' w)
  | some a=>rw[un w a h h']
theorem Cb(C:Int->Int->Str->Prop)(r p:Int):∃s,t8 C r p s:=by
 by_cases h:∃w,C r p w
 .exact⟨some h.choose,h.choose_spec⟩
 show⟨none,λw hw=>h ⟨w,hw⟩⟩
theorem Lay.one{L:Lay}(h:L.ok){t t':Str}(i:Dy L t)(d:Dy L t'):t=t':=by
 obtain⟨f,hf,rfl⟩:=i;obtain⟨g,c,rfl⟩:=d;have e:f=g:=by
  funext r p
  obtain⟨s,u,s1,b,k⟩:=hf r p;obtain⟨m,l,s2,a,j⟩:=c r p;rw[k,j,Jr h.uS s1 s2,Jr h.uU b a]
 rw[e]
theorem Lay.some(L:Lay):∃t,Dy L t:=by
 let f:Nat->Nat->Str:=λr p=>sgn (Cb (t6 (cK L.c L.cC L.l) L.tr (cK L.c L.cC L.l).length) r p).choose (Cb (t5 L.c L.cC (cK L.c L.cC L.l) L.tr L.n L.c.top.length) r p).choose
 show⟨_,f,λr p=>⟨_,_,(Cb _ r p).choose_spec,(Cb _ r p).choose_spec,rfl⟩,rfl⟩
noncomputable def Lay.t(L:Lay):Str:=L.some.choose
theorem Lay.rO{L:Lay}(h:L.ok):L.t.length<=400000:=by
 obtain⟨f,hf,e⟩:=L.some.choose_spec;have a:L.t=_:=e;rw[a];have b:∀r p,(f r p).length=1:=λr p=>by
  obtain⟨s,u,_,_,e⟩:=hf r p;rw[e];show Jt s u
 have O:=h.dr;have n1:=O.n1;have n0:=O.n0;have tw:=O.tw;have d:=Ko (2*L.n+1).toNat (2*L.c.top.length+1) f b;have dN:(2*L.n+1).toNat*(2*L.c.top.length+1+1)<=10001*34:=Nat.mul_le_mul (by ext) (by ext);have j:=Cn (Str.ofString "\n") ((List.range (2*L.n+1).toNat).map (u7 (2*L.c.top.length+1) f));show aL j (by ext)
theorem E5{L:Lay}(h:L.ok){Q:R->Prop}(q:Q (.fz (.str L.t))):vj [L.d] Q:=by
 show⟨L.c,L.cC,_,L.ts,L.tr,L.n,rfl,h.dr,λf hf=>?_⟩;rw[show DM _ _ f=L.t from Lay.one h ⟨f,hf,rfl⟩ L.some.choose_spec];show q
theorem Kn(c:Nat):∀l:List (List Nat),l≠[]->nz c (tE c l)=(l.map (nz c)).flatten
 | [],h=>absurd rfl h
 | [a],_=>by simp[tE]
 | a::b::r,_=>by
  rw[tE,EB,Kn c (b::r) (by simp)];simp
theorem Jq{l m:List Str}(h:l.map (λs=>s.cps.toList)=m.map λs=>s.cps.toList):l=m:=by
 induction l generalizing m with
 | nil=>cases m with
  | nil=>rfl
  | cons b m=>simp at h
 | cons a l d=>cases m with
  | nil=>simp at h
  | cons b m=>
   simp only[ax,List.cons.injEq] at h;obtain⟨c,e⟩:=h;rw[d e];obtain⟨⟨x⟩⟩:=a;obtain⟨⟨y⟩⟩:=b;simp at c;rw[c]
noncomputable def mE:Str:=Str.ofString "\n"
theorem Ij:mE=⟨#[10]⟩:=by decide +kernel
theorem LS{l:List Str}(h:l≠[]):Txt.split (Txt.join mE l) mE=(l.map λt=>Txt.split t mE).flatten:=by
 rw[Ij];apply Jq;rw[EV,EW,Kn 10 _ (by simpa using h),List.map_flatten,aR,aR];congr 1
 show List.map_congr_left λt _=>?_
 show(EV t 10).symm
theorem Lx{t:Str}(h:10∉t.cps.toList):Txt.split t mE=[t]:=by
 rw[Ij];apply Jq;rw[EV,Cw 10 _ h];rfl
end Wc
open PySem L2 PyProof.Rows Wc
local macro_rules | `(tactic| walk_at"px")=>`(tactic| (repeat(first | walk_at"b" | simp only[vW,vf,pB,tq,tN,BI,C0,CZ,CW,CY,aG,bW])))
namespace Wc
open PySem L2 PyProof.Rows
theorem Lay.qu(L:Lay):L.d=.obj "Layout" (u9 L.c L.cC (cK L.c L.cC L.l) L.ts L.tr L.n):=rfl
structure j4(Ls:List Lay)(W:Nat):Prop where
 ne:Ls≠[]
 len:Ls.length<=10
 ok:∀L∈Ls,L.ok
 W7:∀L∈Ls,L.c.top.length=W
 w:W<=16
noncomputable def tY(a:List Lay):D:=.lst (a.map Lay.d)
def ya:eA:=λds Q=>∃(a:List Lay)(W:Nat),ds=[tY a]/\j4 a W/\Q (.fz (.bl true))
def FQ:TX:=(cQ (eu 1 (fD (gu (cx 0)) [none] (cZ 0) jq (eW mj (cB (fK "top" (fK "channel" (cx 0))) cH))))
 (cQ (fT (dn (cE yf (eW xW (cB (cx 1) cH)) (dC (.int 1)))) IP gv)
 (fB (dC (.bl true)))))
theorem Wl:gA 1 ya FQ ["layouts","widths"]:=by
 intro ds n hl h;obtain⟨g,W,rfl,P,q⟩:=h;show FQ _ [.fz (tY g),.un];unfold FQ;have big:=gU;have pl:=P.len;walk_at"px";show mv g Lay.d (λ_=>.int W) (λo h=>?_) (by ext) (λL m p k=>?_) ?_
 .unfold tY;walk_at"px";show h
 .rw[L.qu];walk_at"px";rw[ae,P.W7 L m];show k
 walk_at"go";simp only[xW];rw[show(g.map λ_=>D.int W)=(g.map λ_=>(W:Int)).map D.int by rw[aR];rfl,wx];show⟨by rw[ae];ext,λl nd hm=>?_⟩;have e:l=[(W:Int)]:=by
  have f:∀k∈l,k=W:=λk j=>by
   obtain⟨_,_,e⟩:=aM.mp ((hm k).mp j);show e.symm
  have i:(W:Int)∈l:=(hm W).mpr (by
   obtain⟨L,r,e⟩:=List.exists_cons_of_ne_nil P.ne;rw[e];simp)
  match l,nd,f,i with
  | [],_,_,i=>cases i
  | [a],_,f,_=>rw[f a (by simp)]
  | a::b::r,nd,f,_=>
   exfalso
   have:=f a (by simp);have:=f b (by simp);simp only[bV,au,not_or] at nd;show nd.1.1 (by ext)
 rw[e];walk_at"px";walk_at"go";show q
noncomputable def sg(p:Option Str×Option Str):Bool:=p.1.isSome&&decide (p.1=p.2)
noncomputable def kS(L M:Lay):List Bool:=(L.c.cw.zip M.c.top).map sg
def zS:eA:=λds Q=>∃(L M:Lay),ds=[L.d,M.d]/\L.ok/\Q (.ow ((kS L M).map .bl))
def FC:TX:=(fB (fD (pB (cB (fK "bottom" (fK "channel" (cx 0))) (cB (fK "top" (fK "channel" (cx 1))) cH))) [none,none] (iS 2 (dX (cZ 0) (dX (cZ 1) hE))) jq (Bx (cE (jV true) (cx 0) (dC .non)) (cE oEq (cx 0) (cx 1)))))
theorem VT:gA 2 zS FC ["upper","lower"]:=by
 intro ds g hl h;obtain⟨L,M,rfl,o,q⟩:=h;show FC _ [.fz L.d,.fz M.d];unfold FC;have big:=gU;have tw:=o.dr.tw;have f:=o.dr.sh.b;walk_at"px";show mv (L.c.cw.zip M.c.top) (λp=>.tup [dO p.1,dO p.2]) (λp=>.bl (sg p)) (λi h=>?_) (by rw[List.length_zip];ext) (λp e j k=>?_) ?_
 .rw[L.qu,M.qu];walk_at"px";rw[wa];show h
 .obtain⟨a,b⟩:=p;walk_at"px";cases a with
  | none=>show k
  | some u=>show k
 rw[show(L.c.cw.zip M.c.top).map (λp=>D.bl (sg p))=(kS L M).map D.bl by unfold kS;rw[aR];rfl];show q
noncomputable def yC(bs:List Bool):List Nat:=61::bs.flatMap λb=>[if b then 124 else 61,61]
noncomputable def kU(bs:List Bool):Str:=iL (yC bs)
theorem Ol(bs:List Bool):10∉(kU bs).cps.toList:=by
 unfold kU yC;rw[za];simp only[au,List.mem_flatMap,bC,or_false,not_or,not_exists,not_and];show⟨by decide,λb _=>?_⟩;cases b<;>decide
theorem Jp(bs:List Bool):(kU bs).length=1+2*bs.length:=by
 unfold kU;rw[nB];unfold yC;rw[aD];induction bs with
 | nil=>rfl
 | cons b r a=>rw[List.flatMap_cons,ay,aD];simp only[aD,List.length_nil] at a ⊢;ext
theorem Ii:∀l:List Str,(Txt.join (Str.ofString "") l).cps.toList=(l.map λs=>s.cps.toList).flatten
 | []=>rfl
 | a::l=>by
  rw[EA];rw[show(Str.ofString "").cps.toList=[] by decide +kernel];simp
noncomputable def pJ(b:Bool):Str:=iL [if b then 124 else 61,61]
theorem Oj(bs:List Bool):Str.ofString "="++Txt.join (Str.ofString "") (bs.map pJ)=kU bs:=by
 rw[<-DX (Txt.join _ _),Ii,show Str.ofString "="=iL [61] by decide +kernel,um];unfold kU yC;rw[List.singleton_append,aR,List.flatMap];congr 3
def Ad:eA:=λds Q=>∃bs:List Bool,ds=[.lst (bs.map .bl)]/\bs.length<=100/\Q (.fz (.str (kU bs)))
def FA:TX:=(fB (cE eB (dC (.str "=")) (dM "str" tq (dC (.str "")) (cB (fD (gu (cx 0)) [none] (cZ 0) jq (cE eB (tZ (dn (cx 0)) (dC (.str "|")) (dC (.str "="))) (dC (.str "=")))) cH))))
theorem VS:gA 1 Ad FA ["joints"]:=by
 intro ds j hl h;obtain⟨bs,rfl,g,q⟩:=h;show FA _ [.fz (.lst (bs.map .bl))];unfold FA;have big:=gU;walk_at"px";show⟨rfl,?_⟩;show mv bs D.bl (λb=>.str (pJ b)) (λm h=>?_) (by ext) (λb g n k=>?_) ?_
 .walk_at"px";show h
 .walk_at"px";cases b with
  | false=>show⟨by decide +kernel,by rw[show("=":Str)++"="=pJ false by decide +kernel];show k⟩
  | true=>show⟨by decide +kernel,by rw[show("|":Str)++"="=pJ true by decide +kernel];show k⟩
 rw[show bs.map (λb=>D.str (pJ b))=(bs.map pJ).map D.str by rw[aR];rfl];have f:=Cc (l:=bs.map pJ) (B:=2) λw hw=>by
  obtain⟨b,_,rfl⟩:=aM.mp hw;unfold pJ;rw[nB];show az 2
 rw[ae] at f;have d:(Str.ofString "").length=0:=by decide +kernel
 have i:(Str.ofString "=").length=1:=by decide +kernel
 have e:=Cn (Str.ofString "") (bs.map pJ);rw[ae,d] at e;walk_at"px";rw[d,ae];show⟨by ext,by rw[i];ext,?_⟩;rw[Oj];show q
noncomputable def nD(a:List Lay)(j:Nat):Int:=((a.take j).map λL=>2*L.n+2).sum
theorem Ez{a:List Lay}{j:Nat}{L:Lay}(h:a[j]?=some L):nD a (j+1)=nD a j+2*L.n+2:=by
 unfold nD;rw[aY,h];simp only[Option.toList_some,aE,List.sum_append,ax,bQ,List.sum_cons,List.sum_nil];ext
noncomputable def YU(a:List Lay):List Int:=(List.range a.length).map (nD a)
theorem Oi(n:Nat)(h:1<=n):HT.eG n n (some (-1))=n-1:=by
 unfold HT.eG;simp;ext
theorem Qq{a:Type}(l:List a)(h:l≠[]):kx l none (some (-1))=l.dropLast:=by
 have b:1<=l.length:=List.length_pos_iff.mpr h;unfold kx;rw[Oi _ b];show(l.drop 0).take (l.length-1-0)=_;rw[List.drop_zero,Nat.sub_zero,List.dropLast_eq_take]
def Ac:eA:=λds Q=>∃(a:List Lay)(W:Nat),ds=[tY a]/\j4 a W/\Q (.ow ((YU a).map .int))
def Fz:TX:=(cQ (BC (eF 1 ya (cB (cx 0) cH)))
 (cQ (jr 1 (gw (cB (dC (.int 0)) cH)))
 (cQ (iG (gu (lO (cx 0) mD (kL (rA (dC (.int 1)))))) (cZ 2) (jy 1 (cE eB (cE eB (uc 1 (rA (dC (.int 1)))) (cE (oI gk λi j=>.int (i*j)) (dC (.int 2)) (fK "count" (cx 2)))) (dC (.int 2)))))
 (pD 1))))
theorem VR:gA 1 Ac Fz ["layouts","rows","layout"]:=by
 intro ds o hl h;obtain⟨b,W,rfl,P,q⟩:=h;show Fz _ [.fz (tY b),.un,.un];unfold Fz;have big:=gU;have pl:=P.len;have g:1<=b.length:=List.length_pos_iff.mpr P.ne;walk_at"px";show⟨b,W,rfl,P,?_⟩;walk_at"go";show⟨by ext,?_⟩;walk_at"go";show rL b.dropLast Lay.d (λp h=>?_) (λi e=>∃a:Sl,e=[.fz (tY b),.ow (((List.range (i+1)).map (nD b)).map .int),a]) ⟨_,rfl⟩ ?_ ?_
 .unfold tY;walk_at"px";rw[Qq _ P.ne];show h
 .rintro i L e hi ⟨a,rfl⟩;have f:=(ar.mp hi).1;rw[List.length_dropLast] at f;have m:b[i]?=some L:=by
   rw[List.getElem?_dropLast,if_pos (by ext)] at hi;show hi
  have j:fc (List.range (i+1)) (-1)=some i:=by
   rw[J5 _ (by simp)];simp
  rw[L.qu];walk_at"px";rw[j];show⟨_,rfl,by simp;ext,_,by rw[<-Ez m,List.range_succ (n:=i+1),aE,aE];rfl⟩
 rintro e ⟨a,rfl⟩;walk_at"go";rw[List.length_dropLast,Nat.sub_add_cancel g];show q
noncomputable def kB:List Lay->List Str
 | []=>[]
 | [L]=>[L.t]
 | L::M::r=>L.t::kU (kS L M)::kB (M::r)
theorem Lw(a b:Lay):∀l:List Lay,kB (l++[a,b])=kB (l++[a])++[kU (kS a b),b.t]
 | []=>rfl
 | [x]=>rfl
 | x::y::r=>by
  have:=Lw a b (y::r);show x.t::kU (kS x y)::kB (y::r++[a,b])=x.t::kU (kS x y)::kB (y::r++[a])++_;rw[this];rfl
theorem RZ{l:List Lay}(h:l≠[]):kB l≠[]:=by
 match l,h with
 | [x],_=>simp[kB]
 | x::y::r,_=>simp[kB]
theorem EU:∀l:List Lay,(kB l).length<=2*l.length
 | []=>by simp[kB]
 | [x]=>by simp[kB]
 | x::y::r=>by
  have:=EU (y::r);simp only[kB,aD] at this ⊢;ext
theorem Ei{L M:Lay}(h:L.ok):(kS L M).length<=16:=by
 have:=h.dr.tw;have:=h.dr.sh.b;unfold kS;rw[ae,List.length_zip];ext
theorem LB:∀{l:List Lay},(∀L∈l,L.ok)->∀t∈kB l,t.length<=400000
 | [],_,t,h=>by simp[kB] at h
 | [x],o,t,h=>by
  simp only[kB,bp] at h;rw[h];show Lay.rO (o x (by simp))
 | x::y::r,o,t,h=>by
  simp only[kB,au] at h;rcases h with rfl | rfl | h
  .exact Lay.rO (o x (by simp))
  .rw[Jp];have:=Ei (L:=x) (M:=y) (o x (by simp));ext
  show LB (λL a=>o L (aK _ a)) t h
theorem Km{a:List Lay}{i:Nat}{L M:Lay}(d:a[i]?=some L)(c:a[i+1]?=some M):kB (a.take (i+2))=kB (a.take (i+1))++[kU (kS L M),M.t]:=by
 have b:a.take (i+1)=a.take i++[L]:=by rw[aY,d];rfl
 have e:a.take (i+2)=a.take i++[L,M]:=by rw[aY,c,b];simp
 rw[b,e,Lw]
noncomputable def vU(a:List Lay):Str:=Txt.join mE (kB a)
theorem Kl{a:List Lay}{W:Nat}(P:j4 a W):((kB a).map (·.length)).sum+(kB a).length*mE.length<=8000020:=by
 have f:=Cc (LB P.ok);have d:=EU a;have c:=P.len;have e:mE.length=1:=by decide +kernel
 rw[e];have b:(kB a).length*400000<=20*400000:=Nat.mul_le_mul (by ext) (az _);ext
theorem RY{a:List Lay}{W:Nat}(P:j4 a W):(vU a).length<=8000020:=aL (Cn _ _) (Kl P)
def Ab:eA:=λds Q=>∃(a:List Lay)(W:Nat),ds=[tY a]/\j4 a W/\Q (.fz (.str (vU a)))
def Fy:TX:=(cQ (BC (eF 1 ya (cB (cx 0) cH)))
 (cQ (jr 1 (gw (cB (eF 1 vj (cB (cE dA (cx 0) (dC (.int 0))) cH)) cH)))
 (cQ (iG (pB (cB (cx 0) (cB (lO (cx 0) (kL (dC (.int 1))) mD) cH))) (iS 2 (dX (cZ 2) (dX (cZ 3) hE))) (cQ (jy 1 (eF 1 Ad (cB (eF 2 zS (cB (cx 2) (cB (cx 3) cH))) cH)))
 (jy 1 (eF 1 vj (cB (cx 3) cH)))))
 (oC 1 (fB (dM "str" tq (dC (.str "\n")) (cB (cx 1) cH)))))))
theorem VQ:gA 1 Ab Fy ["layouts","texts","upper","lower"]:=by
 intro ds x hl h;obtain⟨f,W,rfl,P,q⟩:=h;show Fy _ [.fz (tY f),.un,.un,.un];unfold Fy;have big:=gU;have pl:=P.len;have n:0<f.length:=List.length_pos_iff.mpr P.ne;walk_at"px";show⟨f,W,rfl,P,?_⟩;walk_at"go";unfold tY;walk_at"px";show⟨f[0],kd (j:=0) n,E5 (P.ok _ (bK n)) ?_⟩;walk_at"px";show⟨by ext,?_⟩;walk_at"go";show rL (f.zip (f.drop 1)) (λp=>.tup [p.1.d,p.2.d]) (λy h=>?_) (λi m=>∃a b:Sl,m=[.fz (.lst (f.map Lay.d)),.ow ((kB (f.take (i+1))).map .str),a,b]) ⟨.un,.un,?_⟩ ?_ ?_
 .walk_at"px";rw[CA _ (by decide),wa];show h
 .have e:f.take (0+1)=[f[0]]:=by
   obtain⟨L,r,rfl⟩:=List.exists_cons_of_ne_nil P.ne;rfl
  rw[e];rfl
 .rintro i ⟨L,M⟩ m hi ⟨a,b,rfl⟩;obtain⟨s,g⟩:=List.getElem?_zip_eq_some.mp hi;rw[List.getElem?_drop,Nat.add_comm] at g;have v:=(ar.mp g).1;have o:=P.ok L (aI s);have t:=P.ok M (aI g);have tl:=EU (f.take (i+1));rw[aP] at tl;have w:=Ei (L:=L) (M:=M) o;walk_at"px";show⟨L,M,rfl,o,?_⟩;walk_at"px";show⟨kS L M,rfl,by ext,?_⟩;walk_at"px";show⟨by rw[ae];ext,?_⟩;walk_at"go";show E5 t ?_;walk_at"px";show⟨by simp;ext,.fz L.d,.fz M.d,?_⟩;rw[Km s g];simp
 rintro m ⟨a,b,rfl⟩;walk_at"go";have e:f.take ((f.zip (f.drop 1)).length+1)=f:=bh (by rw[List.length_zip,cf];ext);rw[e];have:=Kl P;have u:(Str.ofString "\n")=mE:=rfl;rw[u];show⟨rfl,by ext,q⟩
end Wc
open PySem L2 PyProof.Rows Wc
local macro_rules | `(tactic| walk_at"px")=>`(tactic| (repeat(first | walk_at"b" | simp only[vW,vf,pB,yN,tq,tN,BI,C0,CZ,CW,CY,aG,bW])))
namespace Wc
open PySem L2 PyProof.Rows
noncomputable def tD(ns:List Int)(a k:Nat):List Int:=ns.take 1++(List.range (ns.length-1)).filterMap λj=>if (1+j)%a=k then ns[1+j]? else none
theorem Qp(ns:List Int)(b k:Nat):pX (tD ns b k)=pX ns:=by
 unfold pX tD;cases ns with
 | nil=>rfl
 | cons a r=>rfl
theorem Kk(ns:List Int)(a k:Nat):(tD ns a k).length<=1+ns.length:=by
 unfold tD;have:=List.length_filterMap_le (λj=>if (1+j)%a=k then ns[1+j]? else none) (List.range (ns.length-1));rw[br] at this;simp only[ay,aP];ext
def Aa:eA:=λds Q=>∃(ns:List Int)(many:Nat),ds=[dI ns,.int many]/\ns.length<=63/\1<=many/\many<=8/\Q (.ow ((List.range many).map λk=>dI (tD ns many k)))
def Fx:TX:=(fB (fD (mK (cB (cx 1) cH)) [none,some 0,some 1] (cZ 0) jq (cE eB (lO (cx 1) mD (kL (dC (.int 1)))) (fD (yN (cB (dC (.int 1)) (cB (eW mj (cB (cx 1) cH)) cH))) [none,some 1,some 0,some 2] (cZ 0) (dn (cE oEq (cE (oI (λ_ j=>0<j) λi j=>.int (i%j)) (cx 0) (cx 3)) (cx 2))) (cE dA (cx 1) (cx 0))))))
theorem VP:gA 2 Aa Fx ["_law_script","_law_many_here"]:=by
 intro ds u hl h;obtain⟨ns,many,rfl,s,r,p,q⟩:=h;show Fx _ [.fz (dI ns),.fz (.int many)];unfold Fx;have big:=gU;unfold dI at q ⊢;walk_at"px";show mv (List.range many) (λ(k:Nat)=>.int (0+k)) (λk=>.lst ((tD ns many k).map .int)) (λo h=>?_) (by simp;ext) (λk t w b=>?_) q
 .walk_at"px";show⟨by ext,by ext,by simpa using h⟩
 rw[Int.zero_add];walk_at"px";rw[xV _ (by decide)];show B3 (List.range (ns.length-1)) (λ(j:Nat)=>.int (1+j)) (λj=>(if (1+j)%many=k then ns[1+j]? else none).map .int) (λo h=>?_) (by simp;ext) (λj n v x i m=>?_) ?_
 .walk_at"px";rw[ae,show((ns.length:Int)-1).toNat=ns.length-1 by ext];show⟨⟨by ext,by ext⟩,h⟩
 .have y:=bB.mp n;have g:1+j<ns.length:=by ext
  walk_at"px";show⟨by ext,?_⟩;by_cases d:(1+j)%many=k
  .have f:((1:Int)+j)%many=k:=by
    have:(((1+j)%many:Nat):Int)=(k:Int):=by rw[d]
    simpa using this
   rw[if_pos f];show⟨ns[1+j],?_,i _ ?_⟩
   .have:=kd g;simpa using this
   rw[if_pos d,ai g];rfl
  have f:¬((1:Int)+j)%many=k:=λz=>d (by
   have:(((1+j)%many:Nat):Int)=(k:Int):=by simpa using z
   ext)
  rw[if_neg f];show m (by rw[if_neg d];rfl)
 have pl:=Kk ns many k;unfold tD at pl b;have e:(List.range (ns.length-1)).filterMap (λj=>(if (1+j)%many=k then ns[1+j]? else none).map D.int)=((List.range (ns.length-1)).filterMap λj=>if (1+j)%many=k then ns[1+j]? else none).map D.int:=by
  rw[List.map_filterMap]
 rw[e];rw[aE] at b;rw[ay] at pl;simp only[uj,List.map_take] at b ⊢;show⟨?_,b⟩;simp only[ae,aP] at pl ⊢;ext
theorem Qo(bs:List Bool)(b:Bool):kU bs++pJ b=kU (bs++[b]):=by
 unfold kU pJ yC;rw[um];simp
def zr:eA:=λds Q=>∃L M:Lay,ds=[L.d,M.d]/\L.ok/\Q (.fz (.str (kU (kS L M))))
def Fc:TX:=(cQ (eu 2 (dC (.str "=")))
 (cQ (iG (pB (cB (fK "bottom" (fK "channel" (cx 0))) (cB (fK "top" (fK "channel" (cx 1))) cH))) (iS 2 (dX (cZ 3) (dX (cZ 4) hE))) (fT (oP (dn (cE (jV true) (cx 3) (dC .non))) (dn (cE oEq (cx 3) (cx 4)))) (eu 2 (cE eB (cx 2) (dC (.str "|=")))) (eu 2 (cE eB (cx 2) (dC (.str "=="))))))
 (fB (cx 2))))
theorem VB:gA 2 zr Fc ["_law_upper","_law_lower","_law_signs","_law_one","_law_other"]:=by
 intro ds r hl h;obtain⟨L,M,rfl,o,q⟩:=h;show Fc _ [.fz L.d,.fz M.d,.un,.un,.un];unfold Fc;have big:=gU;have j:=Ei (L:=L) (M:=M) o;walk_at"px";walk_at"go";show rL (L.c.cw.zip M.c.top) (λp=>.tup [dO p.1,dO p.2]) (λs h=>?_) (λi f=>∃a b:Sl,f=[.fz L.d,.fz M.d,.fz (.str (kU ((kS L M).take i))),a,b]) ⟨.un,.un,by rw[show Str.ofString "="=kU [] by decide +kernel];rfl⟩ ?_ ?_
 .rw[L.qu,M.qu];walk_at"px";rw[wa];show h
 .rintro i ⟨x,y⟩ f hi ⟨a,b,rfl⟩;have g:(kS L M)[i]?=some (sg (x,y)):=by unfold kS;rw[aJ,hi];rfl
  have tk:(kS L M).take (i+1)=(kS L M).take i++[sg (x,y)]:=by rw[aY,g];rfl
  have bl:(kU ((kS L M).take i)).length<=33:=by rw[Jp,aP];ext
  have n:(Str.ofString "|=").length=2:=by decide +kernel
  have m:(Str.ofString "==").length=2:=by decide +kernel
  rw[tk,<-Qo];have no:sg (x,y)=false->(kU ((kS L M).take i)).length+(Str.ofString "==").length<=sizeLine/\∃a b:Sl,[Sl.fz L.d,.fz M.d,.fz (.str (kU ((kS L M).take i)++Str.ofString "==")),.fz (dO x),.fz (dO y)]=[Sl.fz L.d,.fz M.d,.fz (.str (kU ((kS L M).take i)++pJ (sg (x,y)))),a,b]:=λz=>by
   rw[z];show⟨by ext,_,_,by rw[show pJ false=Str.ofString "==" by decide +kernel]⟩
  walk_at"px";cases x with
  | none=>show no rfl
  | some u=>
   rw[if_pos (by simp[dO])];walk_at"px";by_cases e:some u=y
   .have z:sg (some u,y)=true:=by simp[sg,<-e]
    rw[if_pos (by simpa using e),z];show⟨by ext,_,_,by rw[show pJ true=Str.ofString "|=" by decide +kernel]⟩
   have z:sg (some u,y)=false:=by simp[sg,e]
   rw[if_neg (by simpa using e)];show no z
 rintro f ⟨a,b,rfl⟩;walk_at"go";rw[bh (by unfold kS;rw[ae];show az _)];show q
end Wc
open PySem L2 PyProof.Rows Wc
local macro_rules | `(tactic| walk_at"px")=>`(tactic| (repeat(first | walk_at"b" | simp only[vW,vf,pB,xM,y4,tm,tq,tN,BI,C0,CZ,CW,CY,aG,bW])))
namespace Wc
open PySem L2 PyProof.Rows
theorem Oh(s u:Option Str):10∉(sgn s u).cps.toList:=by
 cases s<;>cases u<;>simp only[sgn]<;>first | decide | (split<;>decide)
theorem Sr{l:List Str}(h:∀t∈l,10∉t.cps.toList):(l.map λt=>Txt.split t mE).flatten=l:=by
 induction l with
 | nil=>rfl
 | cons a r b=>
  rw[ax,List.flatten_cons,b λt c=>h t (aK _ c),Lx (h a (by simp))];rfl
theorem Lay.lines{L:Lay}(h:L.ok):((Txt.split L.t mE).length:Int)=2*L.n+1:=by
 obtain⟨f,hf,e⟩:=L.some.choose_spec;have d:L.t=_:=e;have n0:=h.dr.n0;rw[d];show((Txt.split (Txt.join mE ((List.range (2*L.n+1).toNat).map (u7 (2*L.c.top.length+1) f))) mE).length:Int)=_;rw[LS (by simp;ext),Sr λt b=>?_]
 .rw[ae,br];ext
 obtain⟨r,_,rfl⟩:=aM.mp b;unfold u7;rw[Ii];intro z;obtain⟨x,hx,hz⟩:=List.mem_flatten.mp z;obtain⟨y,a,rfl⟩:=aM.mp hx;obtain⟨p,_,rfl⟩:=aM.mp a;obtain⟨s,u,_,_,e⟩:=hf r p;rw[e] at hz;show Oh s u hz
noncomputable def qJ(a:List Lay)(k:Nat):List Str:=((kB (a.take k)).map λt=>Txt.split t mE).flatten
theorem RX{a:List Lay}{L:Lay}(h:a[0]?=some L):qJ a 1=Txt.split L.t mE:=by
 have:a.take 1=[L]:=by rw[aY,h];rfl
 unfold qJ;rw[this];simp[kB]
theorem RW{a:List Lay}{j:Nat}{M L:Lay}(c:a[j]?=some M)(b:a[j+1]?=some L):qJ a (j+2)=qJ a (j+1)++[kU (kS M L)]++Txt.split L.t mE:=by
 unfold qJ;rw[Km c b,aE,List.flatten_append];simp only[ax,bQ,List.flatten_cons,List.flatten_nil,a9];rw[Lx (Ol _),bw]
theorem Ja{a:List Lay}(ok:∀L∈a,L.ok):∀i,i<=a.length->0<=nD a i/\nD a i<=10002*i
 | 0,_=>by simp[nD]
 | i+1,h=>by
  have b:=Ja ok i (by ext);have hi:a[i]?=some a[i]:=ai (by ext);have o:=(ok _ (aI hi)).dr;have:=o.n0;have:=o.n1;rw[Ez hi];ext
def yK:TX:=(cQ (eu 1 (cE (oI (λ_ j=>0<j) λi j=>.int (i%j)) (cE (oI gk λi j=>.int (i*j)) (cE (oI (λ_ j=>0<j) λi j=>.int (i%j)) (eW vb (cB (lO (cx 0) mD (kL (dC (.int 1)))) cH)) (cE (oI rC λi j=>.int (i ^ j.toNat)) (dC (.int 10)) (dC (.int 30)))) (dC (.int 40692))) (dC (.int 2147483399))))
 (cQ (jr 2 (gw cH))
 (cQ (iG (tx (cB (lO (eF 2 Aa (cB (cx 0) (cB (dC (.int 3)) cH))) mD (kL (cE eB (dC (.int 1)) (cE (oI (λ_ j=>0<j) λi j=>.int (i%j)) (eF 2 pG (cB (eW vb (cB (lO (cx 0) mD (kL (dC (.int 1)))) cH)) (cB (dC (.int 17)) cH))) (dC (.int 3)))))) cH)) (iS 2 (dX (cZ 3) (dX (cZ 4) hE))) (jy 2 (eF 2 z7 (cB (eF 2 zN (cB (cx 4) (cB (dC (.int 8)) cH))) (cB (cE eB (cE (oI kA λi j=>.int (i/j)) (cx 1) (dC (.int 3))) (cE (oI gk λi j=>.int (i*j)) (dC (.int 31)) (cx 3))) cH)))))
 (cQ (fT (oP (dn (cE (jn λi j=>.bl (decide (j<i))) (vS 2) (dC (.int 1)))) (dn (cE oEq (cE (oI (λ_ j=>0<j) λi j=>.int (i%j)) (eF 2 pG (cB (cx 1) (cB (dC (.int 18)) cH))) (dC (.int 4))) (dC (.int 1))))) (xM 2 (rA (dC (.int 1))) (uc 2 (dC (.int 0)))) gv)
 (oC 2 (cQ (eu 5 (eF 1 Ab (cB (cx 2) cH)))
 (cQ (fT (yF (dn (DB "str" (cx 5)))) (fB (dC (.bl false))) gv)
 (cQ (jr 6 (gw cH))
 (cQ (jr 7 (gw cH))
 (cQ (iG (tx (cB (cx 2) cH)) (iS 2 (dX (cZ 3) (dX (cZ 8) hE))) (cQ (fT (dn (cE (jn λi j=>.bl (decide (j<i))) (cx 3) (dC (.int 0)))) (jy 6 (eF 2 zr (cB (cE dA (cx 2) (cE (jn λi j=>.int (i-j)) (cx 3) (dC (.int 1)))) (cB (cx 8) cH)))) gv)
 (cQ (jy 7 (vS 6))
 (oC 6 (jr 6 (cE eB (cx 6) (dM "str" y4 (eF 1 vj (cB (cx 8) cH)) (cB (dC (.str "\n")) cH))))))))
 (fB (Bx (yP 6 (cE oEq (dM "str" y4 (cx 5) (cB (dC (.str "\n")) cH)) (cx 6))) (yP 7 (cE oEq (eF 1 Ac (cB (cx 2) cH)) (cx 7)))))))))))))))
theorem RV:gA 1 (DV 63) yK ["_law_script","_law_seed","_law_layouts","_law_k","_law_part","_law_text","_law_rows","_law_firsts","_law_layout_here"]:=by
 intro ds U hl h;obtain⟨ns,rfl,E,q⟩:=h;show yK _ [.fz (dI ns),.un,.un,.un,.un,.un,.un,.un,.un];unfold yK dI;have big:=gU;walk_at"px";generalize (kx ns none (some 1)).sum%1000000000000000000000000000000*40692%2147483399=u;walk_at"go";show⟨by ext,?_⟩;walk_at"go";have O:∀z:Int,∃m:Nat,1<=m/\m<=3/\1+z%3=(m:Int):=λz=>⟨(1+z%3).toNat,by ext,by ext,by ext⟩
 show zi (λes=>∃m:Nat,1<=m/\m<=3/\es=oS (((List.range m).map λk=>tD ns 3 k).map dI)) (λV h=>?_) ?_
 .walk_at"px";show⟨ns,3,rfl,E,by decide,by decide,?_⟩;walk_at"px";show⟨_,_,rfl,by decide,by decide,?_⟩;generalize rq _ _=z;obtain⟨m,A,x,em⟩:=O z;walk_at"px";rw[em,xV _ (by ext),Int.toNat_natCast];show h _ ⟨m,A,x,?_⟩;rw[aR,List.take_range,Nat.min_eq_left x];rfl
 rintro _ ⟨m,A,x,rfl⟩;show LX ((List.range m).map λk=>tD ns 3 k) dI (λi o=>∃(e:List Lay)(a b:Sl),e.length=i/\(∀L∈e,L.ok/\L.c.top.length=wF (pX ns) 8)/\o=[.fz (.lst (ns.map .int)),.fz (.int u),.ow (e.map Lay.d),a,b,.un,.un,.un,.un]) ⟨[],.un,.un,rfl,by simp,rfl⟩ ?_ ?_
 .rintro i p o hi ⟨e,a,b,f,g,rfl⟩;rw[aJ] at hi;obtain⟨k,F,rfl⟩:=Option.map_eq_some_iff.mp hi;have S:=(ar.mp F).1;rw[br] at S;have pl:=Kk ns 3 k;have hd:=Qp ns 3 k;generalize tD ns 3 k=ps at pl hd ⊢;walk_at"px";show⟨ps,8,rfl,by ext,by decide,by decide,λQ B y=>?_⟩;rw[hd] at B y;walk_at"px";have nF:=(Li (pX ns)).1;show⟨uh (pX ns),8,Q,_,rfl,by ext,by ext,B,λc cC l ts tr n L hw=>?_⟩;show⟨by simp;ext,e++[⟨c,cC,l,ts,tr,n⟩],_,_,by simp[f],λX T=>?_,by rw[aE];rfl⟩;rcases aw.mp T with z | z
  .exact g X z
  cases bp.mp z;show⟨L,hw.trans y⟩
 rintro o ⟨e,a,b,f,g,rfl⟩;rw[ae,br] at f;walk_at"go";generalize J:oQ (oC 2 _) _=Y;have fin:∀(e:List Lay)(a b:Sl),e.length=m->(∀L∈e,L.ok/\L.c.top.length=wF (pX ns) 8)->Y [.fz (.lst (ns.map .int)),.fz (.int u),.ow (e.map Lay.d),a,b,.un,.un,.un,.un]:=by
  clear f g e a b;rw[<-J];intro e a b f g;have P:j4 e (wF (pX ns) 8):=by
   have M:e≠[]:=λz=>by rw[z] at f;simp at f;ext
   show⟨M,by ext,λL r=>(g L r).1,λL r=>(g L r).2,?_⟩;unfold wF;ext
  have pn:=RY P;have ok:=P.ok;walk_at"go";show⟨e,_,rfl,P,?_⟩;walk_at"go";show⟨rfl,?_⟩;simp only[show xC (pH (D.str (vU e))) "str"=true from(by decide:xC "str" "str"=true),Bool.not_true,aq,aQ];walk_at"go";show⟨by ext,?_⟩;walk_at"go";show⟨by ext,?_⟩;walk_at"go";show Cz e Lay.d (λV h=>?_) (λi o=>∃a b c:Sl,((qJ e i).length:Int)+(if i=0 then 0 else 1)=nD e i/\o=[.fz (.lst (ns.map .int)),.fz (.int u),.fz (.lst (e.map Lay.d)),a,c,.fz (.str (vU e)),.ow ((qJ e i).map .str),.ow (((List.range i).map (nD e)).map .int),b]) ⟨_,_,_,rfl,rfl⟩ ?_ ?_
  .walk_at"px";show h
  .rintro i L o hi ⟨a,b,c,hlen,rfl⟩;have tT:=(ar.mp hi).1;have s:=ok L (aI hi);have tl:=Lay.rO s;have ll:=Lay.lines s;have rs:=Ez hi;have rl:=Ja ok i (by ext);have n1:=s.dr.n1;have fr:((List.range i).map (nD e)).map D.int++[D.int (nD e i)]=((List.range (i+1)).map (nD e)).map D.int:=by rw[List.range_succ,aE,aE];rfl
   walk_at"px";generalize K:oQ (cQ (jy 7 _) _) _=Z;have go:∀rows:List Str,(rows.length:Int)=nD e i->rows++Txt.split L.t mE=qJ e (i+1)->Z [.fz (.lst (ns.map .int)),.fz (.int u),.fz (.lst (e.map Lay.d)),.fz (.int i),c,.fz (.str (vU e)),.ow (rows.map .str),.ow (((List.range i).map (nD e)).map .int),.fz L.d]:=by
    rw[<-K];intro rows C he;have W:=congrArg List.length he;rw[ay] at W;walk_at"go";rw[show(((rows.map D.str).length:Nat):Int)=nD e i by rw[ae];show C,fr];show⟨by simp;ext,?_⟩;walk_at"go";show E5 s ?_;walk_at"px";show⟨rfl,by decide +kernel,by ext,?_⟩;rw[show Str.ofString "\n"=mE from rfl,<-aE,he];show⟨by simp only[ae];ext,_,_,_,?_,rfl⟩;rw[if_neg (by ext)];ext
   cases i with
   | zero=>
    rw[if_neg (by decide)];show go [] ?_ ?_
    .rfl
    show(RX hi).symm
   | succ j=>
    have H:e[j]?=some e[j]:=ai (by ext);rw[if_pos (by ext)];show⟨e[j],?_,e[j],L,rfl,ok _ (bK _),by rw[ae];ext,?_⟩
    .have:=kd (l:=e) (j:=j) (by ext);rw[show(((j+1:Nat):Int)-1)=(j:Int) by ext];show this
    have:=go (qJ e (j+1)++[kU (kS e[j] L)]) (by rw[if_neg (by ext)] at hlen;simp;ext) (RW H hi).symm;rw[aE] at this;show this
  rintro o ⟨a,b,c,hlen,rfl⟩;walk_at"go";have N:Txt.split (vU e) mE=qJ e e.length:=by
   unfold vU qJ;rw[LS (RZ P.ne),bL]
  rw[show Str.ofString "\n"=mE from rfl,N];have w:eR 9 (.lst ((qJ e e.length).map .str)):=Pq 8 _;have v:eR 9 (.lst (((List.range e.length).map (nD e)).map .int)):=Pp 8 _;show⟨rfl,by decide +kernel,by ext,w,w,?_⟩;rw[zev 9 _ w,if_pos rfl];show⟨e,_,rfl,P,v,v,?_⟩;show U (R.fz (D.bl (eC (.lst (((List.range e.length).map (nD e)).map .int)) _)));rw[zev 9 _ v];show q
 split
 .rename_i I;rw[ae] at I;show⟨_,_,rfl,by decide,by decide,?_⟩;generalize rq _ _=z;walk_at"px";split
  .have h0:0<e.length:=by ext
   show⟨e[0],kd (j:=0) h0,e.length-1,?_,?_⟩
   .rw[ae];unfold pP;rw[if_neg (by decide),if_pos (by ext)];congr 1
    ext
   rw[<-List.map_set];show fin _ _ _ (by rw[List.length_set];show f) λL r=>?_
   rcases List.mem_or_eq_of_mem_set r with z | z
   .exact g L z
   rw[z];show g _ (bK h0)
  show fin _ _ _ f g
 show fin _ _ _ f g
end Wc
end
namespace Wc
open PySem PySem.Spec PyProof.Rows L2
local macro_rules | `(tactic| walk_at"sc")=>`(tactic| show⟨rfl,rfl,rfl,by decide +kernel,rfl,by decide +kernel,by decide +kernel⟩)
local macro_rules | `(tactic| walk_at"bn")=>`(tactic| (intro _ _ _ _ _ _ us hl;first | (obtain⟨_,rfl⟩:=DI hl;show rfl) | (obtain⟨_,_,rfl⟩:=DH hl;show rfl) | (obtain⟨_,_,_,rfl⟩:=HW hl;show rfl) | (obtain⟨_,_,_,_,rfl⟩:=HV hl;show rfl) | (obtain⟨_,_,_,_,_,rfl⟩:=HU hl;show rfl) | (obtain⟨_,_,_,_,_,_,_,rfl⟩:=HS hl;show rfl)))
def top(i:Nat):Stmt:=PySem.Challenge.pw_wirechannel_k71_piles_drawn.main.body.getD i (.Pass ⟨0,0,0,0⟩)
structure Txt(K:J')(mg:Str->Option Value):Prop where
 b_any:mg "any"=none
 b_enumerate:mg "enumerate"=none
 b_int:mg "int"=none
 b_isinstance:mg "isinstance"=none
 b_len:mg "len"=none
 b_list:mg "list"=none
 b_max:mg "max"=none
 b_min:mg "min"=none
 b_range:mg "range"=none
 b_set:mg "set"=none
 b_sorted:mg "sorted"=none
 b_str:mg "str"=none
 b_sum:mg "sum"=none
 b_zip:mg "zip"=none
 gr:∃t,mg "BORDER"=some (.str "=" t)
 jO:∃t,mg "JOINT"=some (.str "|" t)
section
variable{P:Program}{w:World}{K:J'}{mg:Str->Option Value}{base:Heap}
abbrev iV:Stmt:=JU (top 21) 0
theorem Th:cF ["self","top","bottom","left","right","wide","bends","keeps"] ("self"::["top","bottom","left","right","wide","bends","keeps"]) (cz iV):=by walk_at"sc"
theorem U6(A:xw K mg "Channel" "Channel.__init__" iV ["top","bottom","left","right","wide","bends","keeps"])(T:Txt K mg) :jv P w K mg base 1 "Channel" 7 zI:=by
 obtain⟨C,f,fd,a,M,F,hm,na⟩:=A.ex;show⟨C,f,fd,_,M,K6 (T:=Cy) F Th a (λj A outer s H E b=>?_) (λds g _ h=>UW ds g _ (λfs e p c=>na.all _ (by rw[<-e];show cv c)) h),hm,F.binds λ_ _ _ _ _ _ us d=>by obtain⟨_,_,_,_,_,_,_,_,rfl⟩:=HR d;show rfl⟩;have i:=b.units;show(qd a.cls na.1 (rM tG T.b_list boot_list (cD (cy 1) cL))
  (qd a.cls na.2.1 (rM tG T.b_list boot_list (cD (cy 2) cL))
  (qd a.cls na.2.2.1 (rM tG T.b_list boot_list (cD (cy 3) cL))
  (qd a.cls na.2.2.2.1 (rM tG T.b_list boot_list (cD (cy 4) cL))
  (qd a.cls na.2.2.2.2.1 (rM tG T.b_list boot_list (cD (cy 5) cL))
  (qd a.cls na.2.2.2.2.2.1 (rM tG T.b_list boot_list (cD (cy 6) cL))
  (qd a.cls na.2.2.2.2.2.2.1 (rM tG T.b_list boot_list (cD (cy 7) cL))
  JO)))))))
abbrev jI:Stmt:=JU (top 25) 0
theorem Sq:cF ["self","channel","bent","pieces","above","tracks"] ("self"::["channel","bent","pieces","above","tracks"]) (cz jI):=by walk_at"sc"
theorem UZ(A:xw K mg "Layout" "Layout.__init__" jI ["channel","bent","pieces","above","tracks","count"])(T:Txt K mg)(c:Known P w K mg base 1 "count_of" 2 xY):jv P w K mg base 2 "Layout" 5 zq:=by
 obtain⟨C,f,fd,a,M,F,hm,na⟩:=A.ex;show⟨C,f,fd,_,M,K6 (T:=Co) F Sq a (λk A outer s H E b=>?_) (λds i _ h=>UM ds i _ (λfs e p d=>na.all _ (by rw[<-e];show cv d)) h),hm,F.binds λ_ _ _ _ _ _ us g=>by obtain⟨_,_,_,_,_,_,rfl⟩:=DG g;show rfl⟩;have j:=b.units;show(qd a.cls na.1 (cy 1)
  (qd a.cls na.2.1 (cy 2)
  (qd a.cls na.2.2.1 (rM tG T.b_list boot_list (cD (cy 3) cL))
  (qd a.cls na.2.2.2.1 (rM tG T.b_list boot_list (cD (cy 4) cL))
  (qd a.cls na.2.2.2.2.1 (rM tG T.b_list boot_list (cD (cy 5) cL))
  (qd a.cls na.2.2.2.2.2.1 (fb c b (cD (cy 3) (cD (cy 5) cL)))
  JO))))))
theorem jg:cF ["_law_script","_law_many_here"] ["_law_script","_law_many_here"] (cz (top 57)):=by walk_at"sc"
theorem VO:(["_law_k","_law_script","_law_many_here"]:List Str).Nodup:=by decide +kernel
theorem VN:(["_law_j","_law_script","_law_k","_law_many_here"]:List Str).Nodup:=by decide +kernel
theorem kj:cF ["_law_cell","_law_k"] ["_law_cell","_law_k"] (cz (top 44)):=by walk_at"sc"
theorem jG:cF ["_law_top","_law_bottom","_law_left","_law_right","_law_word","_law_some"] ["_law_top","_law_bottom","_law_left","_law_right","_law_word"] (cz (top 46)):=by walk_at"sc"
theorem jj:cF ["_law_lists","_law_top","_law_bottom","_law_left","_law_right","_law_wide","_law_bends_here","_law_keeps_here","_law_some","_law_lone"] ["_law_lists"] (cz (top 52)):=by walk_at"sc"
theorem Me:(["_law_above","_law_below"]:List Str).Nodup:=by decide +kernel
theorem VM:(["_law_word"]:List Str).Nodup:=by decide +kernel
theorem VL:(["_law_word","_law_top","_law_bottom","_law_left","_law_right"]:List Str).Nodup:=by decide +kernel
theorem VJ:(["_law_word","_law_lone"]:List Str).Nodup:=by decide +kernel
theorem VI:(["_law_word","_law_lone"]:List Str).Nodup:=by decide +kernel
theorem VH:(["_law_word","_law_lone"]:List Str).Nodup:=by decide +kernel
theorem VG:(["_law_word","_law_lone"]:List Str).Nodup:=by decide +kernel
theorem V8:(["_law_pair","_law_top","_law_bottom","_law_left","_law_right"]:List Str).Nodup:=by decide +kernel
theorem k8:cF ["channel","pins"] ["channel"] (cz (top 2)):=by walk_at"sc"
theorem UY:(["name"]:List Str).Nodup:=by decide +kernel
theorem k9:cF ["channel","name","ends","column"] ["channel","name"] (cz (top 1)):=by walk_at"sc"
theorem jC:cF ["channel","end"] ["channel","end"] (cz (top 4)):=by walk_at"sc"
theorem i9:cF ["channel","name","columns"] ["channel","name"] (cz (top 5)):=by walk_at"sc"
theorem V7:(["end","channel"]:List Str).Nodup:=by decide +kernel
theorem iy:cF ["channel","name"] ["channel","name"] (cz (top 9)):=by walk_at"sc"
theorem Ml:(["column","bent_name","name"]:List Str).Nodup:=by decide +kernel
theorem kg:cF ["channel","name","wide_name","width"] ["channel","name"] (cz (top 3)):=by walk_at"sc"
theorem jb:cF ["channel","name","bent","stretch","cuts","borders","width"] ["channel","name","bent"] (cz (top 8)):=by walk_at"sc"
theorem Md:(["first","last","name","width"]:List Str).Nodup:=by decide +kernel
abbrev eD:Stmt:=top 7
theorem hZ:cF ["channel","bent","pieces","name"] ["channel","bent"] (cz eD):=by walk_at"sc"
theorem FP:(["first","last","tracks"]:List Str).Nodup:=by decide +kernel
theorem jA:cF ["pieces","name","column"] ["pieces","name","column"] (cz (top 11)):=by walk_at"sc"
theorem Mf:(["number","piece","name","column"]:List Str).Nodup:=by decide +kernel
theorem iI:cF ["channel","pieces","triples","column","upper_name","lower_name","lowers","upper"] ["channel","pieces"] (cz (top 14)):=by walk_at"sc"
theorem WI:(["lower","upper","column"]:List Str).Nodup:=by decide +kernel
theorem jB:cF ["one","other","column"] ["one","other"] (cz (top 10)):=by walk_at"sc"
theorem iw:cF ["keep","pieces","commons"] ["keep","pieces"] (cz (top 16)):=by walk_at"sc"
theorem Mj:(["number","piece","keep"]:List Str).Nodup:=by decide +kernel
theorem Mi:(["number","column"]:List Str).Nodup:=by decide +kernel
theorem ir:cF ["pieces","triples","upper","keep"] ["pieces"] (cz (top 15)):=by walk_at"sc"
theorem Mh:(["lower","column","upper"]:List Str).Nodup:=by decide +kernel
theorem ki:cF ["channel","pieces"] ["channel","pieces"] (cz (top 13)):=by walk_at"sc"
theorem jf:cF ["_law_count","_law_above","_law_seed","_law_uppers","_law_p","_law_q","_law_c","_law_waiting","_law_turns_here","_law_ready"] ["_law_count","_law_above","_law_seed"] (cz (top 53)):=by walk_at"sc"
theorem V6:(["_law_k"]:List Str).Nodup:=by decide +kernel
theorem V5:(["_law_q","_law_waiting","_law_uppers"]:List Str).Nodup:=by decide +kernel
theorem V4:(["_law_p","_law_waiting"]:List Str).Nodup:=by decide +kernel
theorem kh:cF ["pieces","tracks"] ["pieces","tracks"] (cz (top 23)):=by walk_at"sc"
theorem Ma:(["piece","track"]:List Str).Nodup:=by decide +kernel
theorem jk:cF ["_law_pieces","_law_tracks_here","_law_one","_law_t","_law_q"] ["_law_pieces","_law_tracks_here","_law_one","_law_t"] (cz (top 54)):=by walk_at"sc"
theorem iJ:cF ["_law_pieces","_law_above","_law_turns_here","_law_seed","_law_tracks_here","_law_k","_law_one","_law_t","_law_p","_law_q","_law_c"] ["_law_pieces","_law_above","_law_turns_here","_law_seed"] (cz (top 55)):=by walk_at"sc"
theorem WH:(["_law_piece"]:List Str).Nodup:=by decide +kernel
theorem iK:cF ["_law_lists","_law_seed","_law_some","_law_row","_law_bent","_law_channel_here","_law_pieces","_law_above","_law_turns_here"] ["_law_lists","_law_seed"] (cz (top 56)):=by walk_at"sc"
theorem jD:cF ["_law_cell","_law_size","_law_signs","_law_stem_here","_law_k"] ["_law_cell","_law_size"] (cz (top 42)):=by walk_at"sc"
theorem jh:cF ["_law_cell","_law_size","_law_stem_here","_law_at","_law_other"] ["_law_cell"] (cz (top 43)):=by walk_at"sc"
theorem V3:(["_law_sign","_law_stem_here","_law_at","_law_size"]:List Str).Nodup:=by decide +kernel
theorem V2:(["_law_k","_law_stem_here","_law_size"]:List Str).Nodup:=by decide +kernel
theorem V1:(["_law_k","_law_stem_here"]:List Str).Nodup:=by decide +kernel
theorem jE:cF ["_law_words","_law_cells","_law_seed","_law_width","_law_top","_law_bottom","_law_c","_law_row","_law_side","_law_k","_law_one"] ["_law_words","_law_cells","_law_seed","_law_width"] (cz (top 45)):=by walk_at"sc"
theorem jF:cF ["_law_words","_law_bits"] ["_law_words","_law_bits"] (cz (top 50)):=by walk_at"sc"
theorem VA:(["_law_k","_law_words","_law_bits"]:List Str).Nodup:=by decide +kernel
theorem iz:cF ["_law_top","_law_bottom","_law_left","_law_right","_law_word","_law_places"] ["_law_top","_law_bottom","_law_left","_law_right","_law_word"] (cz (top 47)):=by walk_at"sc"
theorem Wk:(["_law_c","_law_word","_law_top","_law_bottom"]:List Str).Nodup:=by decide +kernel
theorem jm:cF ["_law_lists","_law_words","_law_cells","_law_seed","_law_top","_law_bottom","_law_left","_law_right","_law_bends_here","_law_c","_law_one","_law_word","_law_l","_law_r","_law_here"] ["_law_lists","_law_words","_law_cells","_law_seed"] (cz (top 48)):=by walk_at"sc"
theorem V0:(["_law_x"]:List Str).Nodup:=by decide +kernel
theorem ji:cF ["_law_width","_law_cells","_law_seed","_law_keeps_here","_law_k","_law_cell","_law_one","_law_first"] ["_law_width","_law_cells","_law_seed"] (cz (top 49)):=by walk_at"sc"
theorem iA:cF ["_law_script","_law_most","_law_seed","_law_words","_law_width","_law_cells","_law_top","_law_bottom","_law_bits","_law_left","_law_right","_law_lone","_law_wide","_law_k","_law_word","_law_one","_law_bends_here","_law_keeps_here"] ["_law_script","_law_most"] (cz (top 51)):=by walk_at"sc"
theorem Wj:(["_law_word","_law_top","_law_bottom","_law_left","_law_right"]:List Str).Nodup:=by decide +kernel
theorem Wi:(["_law_word","_law_lone"]:List Str).Nodup:=by decide +kernel
theorem Wh:(["_law_word","_law_lone"]:List Str).Nodup:=by decide +kernel
theorem Wg:(["_law_word","_law_lone"]:List Str).Nodup:=by decide +kernel
theorem Wf:(["_law_word","_law_lone"]:List Str).Nodup:=by decide +kernel
theorem iu:cF ["layouts","widths"] ["layouts"] (cz (top 36)):=by walk_at"sc"
theorem We:(["layout"]:List Str).Nodup:=by decide +kernel
theorem gC:cF ["layout","names","piece","track","sign"] ["layout"] (cz (top 29)):=by walk_at"sc"
theorem gZ:cF ["layout","column","names"] ["layout","column"] (cz (top 31)):=by walk_at"sc"
theorem Mg:(["bend_column","name","column"]:List Str).Nodup:=by decide +kernel
theorem WY:(["name"]:List Str).Nodup:=by decide +kernel
theorem iq:cF ["layout","name","column","rows"] ["layout","name","column"] (cz (top 32)):=by walk_at"sc"
theorem Wd:(["number","layout"]:List Str).Nodup:=by decide +kernel
theorem gB:cF ["layout","names","column","name","row"] ["layout"] (cz (top 30)):=by walk_at"sc"
theorem k7:cF ["stretch_name","upright_name"] ["stretch_name","upright_name"] (cz (top 28)):=by walk_at"sc"
theorem nT:cF ["layout","stretches","uprights","rows","row","places"] ["layout"] (cz (top 27)):=by walk_at"sc"
theorem Tg:(["sign","row"]:List Str).Nodup:=by decide +kernel
theorem Tf:(["place","stretches","uprights"]:List Str).Nodup:=by decide +kernel
theorem je:cF ["joints"] ["joints"] (cz (top 40)):=by walk_at"sc"
theorem VZ:(["joined"]:List Str).Nodup:=by decide +kernel
theorem ja:cF ["upper","lower"] ["upper","lower"] (cz (top 39)):=by walk_at"sc"
theorem Mc:(["one","other"]:List Str).Nodup:=by decide +kernel
theorem jd:cF ["layouts","texts","upper","lower"] ["layouts"] (cz (top 38)):=by walk_at"sc"
theorem jH:cF ["_law_upper","_law_lower","_law_signs","_law_one","_law_other"] ["_law_upper","_law_lower"] (cz (top 58)):=by walk_at"sc"
theorem jc:cF ["layouts","rows","layout"] ["layouts"] (cz (top 37)):=by walk_at"sc"
theorem rT:cF ["_law_script","_law_seed","_law_layouts","_law_k","_law_part","_law_text","_law_rows","_law_firsts","_law_layout_here"] ["_law_script"] (cz (top 59)):=by walk_at"sc"
variable(T:Txt K mg)
variable(i4:jv P w K mg base 1 "Channel" 7 zI)
variable(jQ:jv P w K mg base 2 "Layout" 5 zq)
include T in
theorem WG(A:At K mg "_law_parts" (top 57)):Known P w K mg base 1 "_law_parts" 2 Aa:=gO 0 A jg (λf g A outer s H E e=>have d:=e.units;have nd:=jg.nd
 (c6 (fS (js rfl (.of (N':=["_law_k","_law_script","_law_many_here"]) (m:=[none,some 0,some 1]) (by kernel_rfl)) ip (oH T.b_range (cD (cy 1) cL)) (λs3 b ex=>(c8 0 VO)) (λs3 b ex=>kN) (λs3 b ex=>(cS eP (mN (cy 1) nM (lT cJ)) (js rfl (.of (N':=["_law_j","_law_script","_law_k","_law_many_here"]) (m:=[none,some 1,some 0,some 2]) (by kernel_rfl)) ip (LN T.b_range (cD cJ (cD (iF oE T.b_len boot_len (cD (cy 1) cL)) cL))) (λs3 b ex=>(c8 0 VN)) (λs3 b ex=>(mn (eh (iT d) (cS gL (cy 0) (cy 3)) (cy 2)))) (λs3 b ex=>(dH (cy 1) (cy 0)))))))))) VP (by walk_at"bn")
variable(f9:Known P w K mg base 1 "_law_parts" 2 Aa)
include T in
theorem Vz(A:At K mg "_law_mix" (top 44)):Known P w K mg base 1 "_law_mix" 2 pG:=gO 0 A kj (λf e A outer s H E b=>have d:=b.units;have nd:=kj.nd
 (c6 (fS (cS lN (cS gL (cS eP (cS eP (cS mL (cS gL (cy 0) (cS yU cJ cJ)) (cS eP (cS mL (cy 1) (cy 1)) cJ)) (cS mL (cS mL (cS mL cJ (cy 1)) (cy 1)) (cy 1))) cJ) cJ) cJ)))) Va (by walk_at"bn")
variable(cM:Known P w K mg base 1 "_law_mix" 2 pG)
include T in
theorem Vv(A:At K mg "_law_many" (top 46)):Known P w K mg base 1 "_law_many" 5 vp:=gO 0 A jG (λf e A outer s H E d=>have b:=d.units;have nd:=jG.nd
 (cT (eV 5 (cS eP (cS eP (cS eP (cy 0) (cy 1)) (cy 2)) (cy 3)) nd)
   (c6 (fS (vZ (Qk b) (.inl rfl) PySem.F.plainAttrs_list PySem.F.slot_list_count PySem.F.type_list_count (cy 5) (cD (cy 4) cL)))))) Vi (by walk_at"bn")
variable(dF:Known P w K mg base 1 "_law_many" 5 vp)
include T dF in
theorem WE(A:At K mg "_law_eased" (top 52)):Known P w K mg base 2 "_law_eased" 1 zV:=gO 1 A jj (λf g A outer s H E e=>have d:=e.units;have nd:=jj.nd
 (cT (BV (cy 0) (Ec rfl (eO (c8 1 nd) (eO (c8 2 nd) (eO (c8 3 nd) (eO (c8 4 nd) (eO (c8 5 nd) (eO (c8 6 nd) (eO (c8 7 nd) jR)))))))))
   (cT (eV 2 (js rfl (.of (N':=["_law_above","_law_below"]) (m:=[none,none]) (by kernel_rfl)) tO (v8 T.b_zip (cD (cy 1) (cD (cy 2) cL))) (λs3 b ex=>(kC rfl (eO (c8 0 Me) (eO (c8 1 Me) jR)))) (λs3 b ex=>kN) (λs3 b ex=>(we (eh pE (cy 0) i7) i7 (cy 1)))) nd)
   (cT (eV 8 (FL rfl T.b_sorted T.b_set (cD (js rfl (.of (N':=["_law_word"]) (m:=[none]) (by kernel_rfl)) ip (hU (cS eP (cS eP (cS eP (cy 1) (cy 2)) (cy 3)) (cy 4))) (λs3 b ex=>(c8 0 VM)) (λs3 b ex=>(mn (eh pE (cy 0) i7))) (λs3 b ex=>(cy 0))) cL)) nd)
   (cT (eV 9 (js rfl (.of (N':=["_law_word","_law_top","_law_bottom","_law_left","_law_right"]) (m:=[none,some 1,some 2,some 3,some 4]) (by kernel_rfl)) ip (hU (cy 8)) (λs3 b ex=>(c8 0 VL)) (λs3 b ex=>(mn (eh (iT d) (fb dF e (cD (cy 1) (cD (cy 2) (cD (cy 3) (cD (cy 4) (cD (cy 0) cL)))))) cJ))) (λs3 b ex=>(cy 0))) nd)
   (cT (eV 1 (js rfl (.of (N':=["_law_word","_law_lone"]) (m:=[none,some 9]) (by kernel_rfl)) ip (hU (cy 1)) (λs3 b ex=>(c8 0 VJ)) (λs3 b ex=>kN) (λs3 b ex=>(we (eh (rD d) (cy 0) (cy 1)) i7 (cy 0)))) nd)
   (cT (eV 2 (js rfl (.of (N':=["_law_word","_law_lone"]) (m:=[none,some 9]) (by kernel_rfl)) ip (hU (cy 2)) (λs3 b ex=>(c8 0 VI)) (λs3 b ex=>kN) (λs3 b ex=>(we (eh (rD d) (cy 0) (cy 1)) i7 (cy 0)))) nd)
   (cT (eV 3 (js rfl (.of (N':=["_law_word","_law_lone"]) (m:=[none,some 9]) (by kernel_rfl)) ip (hU (cy 3)) (λs3 b ex=>(c8 0 VH)) (λs3 b ex=>(mn (eh (B8 d) (cy 0) (cy 1)))) (λs3 b ex=>(cy 0))) nd)
   (cT (eV 4 (js rfl (.of (N':=["_law_word","_law_lone"]) (m:=[none,some 9]) (by kernel_rfl)) ip (hU (cy 4)) (λs3 b ex=>(c8 0 VG)) (λs3 b ex=>(mn (eh (B8 d) (cy 0) (cy 1)))) (λs3 b ex=>(cy 0))) nd)
   (cT (wd 5 rfl (.of (N':=["_law_pair","_law_top","_law_bottom","_law_left","_law_right"]) (m:=[none,some 1,some 2,some 3,some 4]) (by kernel_rfl)) ip (hU (cy 5)) (λs3 b ex=>(c8 0 V8)) (λs3 b ex=>(mn (eh vR (fb dF e (cD (cy 1) (cD (cy 2) (cD (cy 3) (cD (cy 4) (cD (dH (cy 0) cJ) cL)))))) cJ))) (λs3 b ex=>(cy 0)) nd)
   (c6 (fS (gP (cD (cy 1) (cD (cy 2) (cD (cy 3) (cD (cy 4) (cD (cy 5) (cD (gP cL) (cD (cy 7) cL)))))))))))))))))))) VW (by walk_at"bn")
variable(gh:Known P w K mg base 2 "_law_eased" 1 zV)
include T in
theorem U5(A:At K mg "nets_of" (top 2)):Known P w K mg base 1 "nets_of" 1 wq:=gO 0 A k8 (λf g A outer s H E d=>have e:=d.units;have nd:=k8.nd
 (cT (wd 1 rfl (.of (N':=["name"]) (m:=[none]) (by kernel_rfl)) ip (hU (cS eP (gm (cy 0)) (gm (cy 0)))) (λs3 b ex=>(c8 0 UY)) (λs3 b ex=>(mn (eh pE (cy 0) i7))) (λs3 b ex=>(cy 0)) nd)
   (c6 (fS (FL rfl T.b_sorted T.b_set (cD (cS eP (cS eP (cy 1) (gm (cy 0))) (gm (cy 0))) cL)))))) UT (by walk_at"bn")
variable(gn:Known P w K mg base 1 "nets_of" 1 wq)
include T in
theorem U4(A:At K mg "ends_of" (top 1)):Known P w K mg base 1 "ends_of" 2 zH:=gO 0 A k9 (λf e A outer s H E d=>have b:=d.units;have nd:=k9.nd
 (cT (lM 2 (gP cL) nd)
   (cT (gQ (eh (rD b) (cy 1) (gm (cy 0))) (c6 (lL 2 (mM (cD jT cL)))) gT)
   (cT (jS aO rfl (oH T.b_range (cD (iF oE T.b_len boot_len (cD (gm (cy 0)) cL)) cL)) (c8 3 nd)
    (cT (gQ (eh (iT b) (dH (gm (cy 0)) (cy 3)) (cy 1)) (c6 (lL 2 (mM (cD jT (cD (cy 3) cL))))) gT)
   (c6 (gQ (eh (iT b) (dH (gm (cy 0)) (cy 3)) (cy 1)) (c6 (lL 2 (mM (cD jT (cD (cy 3) cL))))) gT))))
   (cT (gQ (eh (rD b) (cy 1) (gm (cy 0))) (c6 (lL 2 (mM (cD jT cL)))) gT)
   (c6 (uq 2))))))) UU (by walk_at"bn")
variable(i3:Known P w K mg base 1 "ends_of" 2 zH)
include T in
theorem Vu(A:At K mg "column_of" (top 4)):Known P w K mg base 1 "column_of" 2 zA:=gO 0 A jC (λf e A outer s H E d=>have b:=d.units;have nd:=jC.nd
 (cT (gQ (eh (iT b) (dH (cy 1) cJ) jT) (c6 (fS (vh cJ))) gT)
   (cT (gQ (eh (iT b) (dH (cy 1) cJ) jT) (c6 (fS (iF oE T.b_len boot_len (cD (gm (cy 0)) cL)))) gT)
   (c6 (fS (dH (cy 1) cJ)))))) Vg (by walk_at"bn")
variable(gH:Known P w K mg base 1 "column_of" 2 zA)
include T i3 gH in
theorem WD(A:At K mg "stretch_of" (top 5)):Known P w K mg base 2 "stretch_of" 2 zW:=gO 1 A i9 (λf g A outer s H E b=>have e:=b.units;have nd:=i9.nd
 (cT (wd 2 rfl (.of (N':=["end","channel"]) (m:=[none,some 0]) (by kernel_rfl)) ip (hU (fb i3 b (cD (cy 0) (cD (cy 1) cL)))) (λs3 d ex=>(c8 0 V7)) (λs3 d ex=>kN) (λs3 d ex=>(fb gH b (cD (cy 1) (cD (cy 0) cL)))) nd)
   (cT (gQ (eh xF (K7 rfl T.b_len T.b_set (cD (cy 2) cL)) cJ) (c6 (fS i7)) gT)
   (c6 (fS (mM (cD (iF (yL rfl) T.b_min boot_min (cD (cy 2) cL)) (cD (iF (xI rfl) T.b_max boot_max (cD (cy 2) cL)) cL)))))))) VY (by walk_at"bn")
variable(fW:Known P w K mg base 2 "stretch_of" 2 zW)
include T in
theorem WX(A:At K mg "bend_columns" (top 9)):Known P w K mg base 1 "bend_columns" 2 zM:=gO 0 A iy (λf g A outer s H E e=>have d:=e.units;have nd:=iy.nd
 (c6 (fS (js rfl (.of (N':=["column","bent_name","name"]) (m:=[none,none,some 1]) (by kernel_rfl)) tO (hU (gm (cy 0))) (λs3 b ex=>(kC rfl (eO (c8 0 Ml) (eO (c8 1 Ml) jR)))) (λs3 b ex=>(mn (eh (iT d) (cy 1) (cy 2)))) (λs3 b ex=>(cy 0)))))) Wq (by walk_at"bn")
variable(fk:Known P w K mg base 1 "bend_columns" 2 zM)
include T in
theorem Vy(A:At K mg "width_of" (top 3)):Known P w K mg base 1 "width_of" 2 xZ:=gO 0 A kg (λf e A outer s H E d=>have b:=d.units;have nd:=kg.nd
 (cT (jS aO rfl (hU (gm (cy 0))) (kC rfl (eO (c8 2 nd) (eO (c8 3 nd) jR)))
    (c6 (gQ (eh (iT b) (cy 2) (cy 1)) (c6 (fS (cy 3))) gT)))
   (c6 (fS cJ)))) U9 (by walk_at"bn")
variable(ij:Known P w K mg base 1 "width_of" 2 xZ)
include T fW fk ij in
theorem WC(A:At K mg "net_pieces" (top 8)):Known P w K mg base 3 "net_pieces" 3 wu:=gO 2 A jb (λf g A outer s H E b=>have e:=b.units;have nd:=jb.nd
 (cT (eV 3 (fb fW b (cD (cy 0) (cD (cy 1) cL))) nd)
   (cT (gQ (eh vQ (cy 3) i7) (c6 (fS (gP cL))) gT)
   (cT (eV 4 (we (xQ (cy 2)) (fb fk b (cD (cy 0) (cD (cy 1) cL))) (gP cL)) nd)
   (cT (eV 5 (cS eP (cS eP (gP (cD (dH (cy 3) cJ) cL)) (cy 4)) (gP (cD (dH (cy 3) cJ) cL))) nd)
   (cT (eV 6 (fb ij b (cD (cy 0) (cD (cy 1) cL))) nd)
   (c6 (fS (js rfl (.of (N':=["first","last","name","width"]) (m:=[none,none,some 1,some 6]) (by kernel_rfl)) tO (v8 T.b_zip (cD (cy 5) (cD (mN (cy 5) (lT cJ) nM) cL))) (λs3 d ex=>(kC rfl (eO (c8 0 Md) (eO (c8 1 Md) jR)))) (λs3 d ex=>kN) (λs3 d ex=>(mM (cD (cy 2) (cD (cy 0) (cD (cy 1) (cD (cy 3) cL))))))))))))))) VX (by walk_at"bn")
variable(eK:Known P w K mg base 3 "net_pieces" 3 wu)
theorem UX(T:Txt K mg)(gn:Known P w K mg base 1 "nets_of" 1 wq)(eK:Known P w K mg base 3 "net_pieces" 3 wu){f:Addr}(b:Value)(A:Around)(outer:List Env)(s:Shared)(H:Hp)(E:XK)(a:eY 3 (A.deeper (envOfC "pieces_of" (cz eD) s.heap.objs.size f b))) :
  pd (qI nH P w K mg base ["channel","bent","pieces","name"] "pieces_of" (cz eD) f b A outer s H E).tR (dD eD) CC:=by
 have d:=a.units
 show(cT (B5 2 rfl (.of (N':=["first","last","tracks"]) (m:=[none,none,none]) (by kernel_rfl)) UH (hU (gm (cy 0))) (λs3 c ex=>(kC rfl (eO (c8 0 FP) (eO (c8 1 FP) (eO (c8 2 FP) jR))))) (λs3 c ex=>kN) (λs3 c ex=>(mM (cD i7 (cD (cy 0) (cD (cy 1) (cD (cy 2) cL)))))) hZ.nd)
   (cT (jS aO rfl (hU (fb gn a (cD (cy 0) cL))) (c8 3 hZ.nd)
    (c6 (BU 2 (fb eK a (cD (cy 0) (cD (cy 3) (cD (cy 1) cL)))))))
   (c6 (uq 2))))
theorem Vt(A:Dx K mg "pieces_of" eD [.bool false])(T:Txt K mg)(gn:Known P w K mg base 1 "nets_of" 1 wq)(eK:Known P w K mg base 3 "net_pieces" 3 wu):lB P w K mg base 4 "pieces_of" 2 zu false:=by
 obtain⟨_,f,fd,_,_,F,hm,lk,hd⟩:=A.ex;show⟨f,fd,["channel","bent"],Ed F hZ (UX T gn eK) Vd,hm,F.kp,F.sS 2 lk hd (λ_ _ _ _ _ _ us a=>by obtain⟨_,_,rfl⟩:=DH a;show⟨_,rfl,rfl⟩),F.sS 1 lk hd (λ_ _ _ _ _ _ us a=>by obtain⟨_,rfl⟩:=DI a;show⟨_,rfl,rfl⟩)⟩
variable(gE:lB P w K mg base 4 "pieces_of" 2 zu false)
include T in
theorem Vs(A:At K mg "pieces_at" (top 11)):Known P w K mg base 1 "pieces_at" 3 wt:=gO 0 A jA (λf g A outer s H E e=>have d:=e.units;have nd:=jA.nd
 (c6 (fS (js rfl (.of (N':=["number","piece","name","column"]) (m:=[none,none,some 1,some 2]) (by kernel_rfl)) tO (vn T.b_enumerate (cD (cy 0) cL)) (λs3 b ex=>(kC rfl (eO (c8 0 Mf) (eO (c8 1 Mf) jR)))) (λs3 b ex=>(mn (qf (eh (iT d) (dH (cy 1) cJ) (cy 2)) (tJ (Ry DT DT (dH (cy 1) cJ) (cy 3) (dH (cy 1) cJ)))).pb)) (λs3 b ex=>(cy 0)))))) Ve (by walk_at"bn")
variable(ef:Known P w K mg base 1 "pieces_at" 3 wt)
include T ef in
theorem Wb(A:At K mg "pin_triples" (top 14)):Known P w K mg base 2 "pin_triples" 2 z9:=gO 1 A iI (λf g A outer s H E b=>have e:=b.units;have nd:=iI.nd
 (cT (lM 2 (gP cL) nd)
   (cT (jS aO rfl (oH T.b_range (cD (iF oE T.b_len boot_len (cD (gm (cy 0)) cL)) cL)) (c8 3 nd)
    (cT (eV 4 (dH (gm (cy 0)) (cy 3)) nd)
   (cT (eV 5 (dH (gm (cy 0)) (cy 3)) nd)
   (c6 (gQ (qf (eh pE (cy 4) i7) (qf (eh pE (cy 5) i7) (tJ (eh (DC e) (cy 4) (cy 5))))).pb (cT (eV 6 (fb ef b (cD (cy 1) (cD (cy 5) (cD (cy 3) cL)))) nd)
   (c6 (jS aO rfl (hU (fb ef b (cD (cy 1) (cD (cy 4) (cD (cy 3) cL))))) (c8 7 nd)
    (c6 (BU 2 (js rfl (.of (N':=["lower","upper","column"]) (m:=[none,some 7,some 3]) (by kernel_rfl)) ip (hU (cy 6)) (λs3 d ex=>(c8 0 WI)) (λs3 d ex=>kN) (λs3 d ex=>(mM (cD (cy 1) (cD (cy 0) (cD (cy 2) cL))))))))))) gT)))))
   (c6 (uq 2))))) WL (by walk_at"bn")
variable(fM:Known P w K mg base 2 "pin_triples" 2 z9)
include T in
theorem Vr(A:At K mg "common_of" (top 10)):Known P w K mg base 1 "common_of" 2 zz:=gO 0 A jB (λf e A outer s H E b=>have d:=b.units;have nd:=jB.nd
 (cT (eV 2 (iF (xI rfl) T.b_max boot_max (cD (dH (cy 0) cJ) (cD (dH (cy 1) cJ) cL))) nd)
   (cT (gQ (eh vR (cy 2) (iF (yL rfl) T.b_min boot_min (cD (dH (cy 0) cJ) (cD (dH (cy 1) cJ) cL)))) (c6 (fS i7)) gT)
   (c6 (fS (cy 2)))))) Vf (by walk_at"bn")
variable(gG:Known P w K mg base 1 "common_of" 2 zz)
include T gG in
theorem WW(A:At K mg "beneath_keep" (top 16)):Known P w K mg base 2 "beneath_keep" 2 zL:=gO 1 A iw (λf g A outer s H E d=>have e:=d.units;have nd:=iw.nd
 (cT (wd 2 rfl (.of (N':=["number","piece","keep"]) (m:=[none,none,some 0]) (by kernel_rfl)) tO (vn T.b_enumerate (cD (cy 1) cL)) (λs3 b ex=>(kC rfl (eO (c8 0 Mj) (eO (c8 1 Mj) jR)))) (λs3 b ex=>(mn (eh pE (dH (cy 1) cJ) i7))) (λs3 b ex=>(mM (cD (cy 0) (cD (fb gG d (cD (cy 2) (cD (cy 1) cL))) cL)))) nd)
   (c6 (fS (js rfl (.of (N':=["number","column"]) (m:=[none,none]) (by kernel_rfl)) tO (hU (cy 2)) (λs3 b ex=>(kC rfl (eO (c8 0 Mi) (eO (c8 1 Mi) jR)))) (λs3 b ex=>(mn (eh pE (cy 1) i7))) (λs3 b ex=>(mM (cD (cy 0) (cD (cy 1) cL))))))))) Wo (by walk_at"bn")
variable(fj:Known P w K mg base 2 "beneath_keep" 2 zL)
include T fj in
theorem WV(A:At K mg "keep_triples" (top 15)):Known P w K mg base 3 "keep_triples" 1 zK:=gO 2 A ir (λf g A outer s H E b=>have e:=b.units;have nd:=ir.nd
 (cT (lM 1 (gP cL) nd)
   (cT (jS aO rfl (vn T.b_enumerate (cD (cy 0) cL)) (kC rfl (eO (c8 2 nd) (eO (c8 3 nd) jR)))
    (c6 (gQ (eh vQ (dH (cy 3) cJ) i7) (c6 (BU 1 (js rfl (.of (N':=["lower","column","upper"]) (m:=[none,none,some 2]) (by kernel_rfl)) tO (hU (fb fj b (cD (cy 3) (cD (cy 0) cL)))) (λs3 d ex=>(kC rfl (eO (c8 0 Mh) (eO (c8 1 Mh) jR)))) (λs3 d ex=>kN) (λs3 d ex=>(mM (cD (cy 2) (cD (cy 0) (cD (cy 1) cL)))))))) gT)))
   (c6 (uq 1))))) Wn (by walk_at"bn")
variable(fi:Known P w K mg base 3 "keep_triples" 1 zK)
include T fM fi in
theorem Vx(A:At K mg "above_of" (top 13)):Known P w K mg base 4 "above_of" 2 zF:=gO 3 A ki (λf e A outer s H E b=>have d:=b.units;have nd:=ki.nd
 (c6 (fS (iF (SU rfl) T.b_sorted boot_sorted (cD (cS eP (fb fM b (cD (cy 0) (cD (cy 1) cL))) (fb fi b (cD (cy 1) cL))) cL))))) U8 (by walk_at"bn")
variable(il:Known P w K mg base 4 "above_of" 2 zF)
include T cM in
theorem WB(A:At K mg "_law_turns" (top 53)):Known P w K mg base 2 "_law_turns" 3 zU:=gO 1 A jf (λf g A outer s H E e=>have d:=e.units;have nd:=jf.nd
 (cT (lM 3 (Rg rfl (.of (N':=["_law_k"]) (m:=[none]) (by kernel_rfl)) ip (oH T.b_range (cD (cy 0) cL)) (λs3 b ex=>(c8 0 V6)) (λs3 b ex=>kN) (λs3 b ex=>(gP cL))) nd)
   (cT (jS aO rfl (hU (cy 1)) (kC rfl (eO (c8 4 nd) (eO (c8 5 nd) (eO (c8 6 nd) jR))))
    (c6 (Qd 3 (cy 5) (cy 4))))
   (cT (lM 7 (RQ rfl T.b_list T.b_range (cD (cy 0) cL)) nd)
   (cT (lM 8 (gP cL) nd)
   (qN 3 (cT (Kv aO (eh vR (B4 7 T.b_len) cJ) (cT (Rf 7 9 rfl (.of (N':=["_law_q","_law_waiting","_law_uppers"]) (m:=[none,some 7,some 3]) (by kernel_rfl)) ip (hU (cy 7)) (λs3 b ex=>(c8 0 V5)) (λs3 b ex=>(mn (D7 (xQ (iF (OA rfl) T.b_any boot_any (cD (js rfl (.of (N':=["_law_p","_law_waiting"]) (m:=[none,some 1]) (by kernel_rfl)) ip (hU (dH (cy 2) (cy 0))) (λs3 b ex=>(c8 0 V4)) (λs3 b ex=>kN) (λs3 b ex=>(ug (rD d) (cy 0) (cy 1)))) cL)))))) (λs3 b ex=>(cy 0)) nd)
   (qN 9 (cT (gQ (eh (iT d) (iF oE T.b_len boot_len (cD (cy 9) cL)) cJ) (c6 (fS i7)) gT)
   (cT (lL 8 (dH (cy 9) (cS gL (fb cM e (cD (cy 2) (cD (cS eP (B4 8 T.b_len) cJ) cL))) (iF oE T.b_len boot_len (cD (cy 9) cL)))))
   (c6 (Ta 7 (xP 8 (vh cJ)))))))))
   (c6 (uq 8))))))))) VV (by walk_at"bn")
variable(f7:Known P w K mg base 2 "_law_turns" 3 zU)
include T in
theorem Vw(A:At K mg "count_of" (top 23)):Known P w K mg base 1 "count_of" 2 xY:=gO 0 A kh (λf g A outer s H E d=>have e:=d.units;have nd:=kh.nd
 (c6 (fS (P6 rfl (js rfl (.of (N':=["piece","track"]) (m:=[none,none]) (by kernel_rfl)) tO (v8 T.b_zip (cD (cy 0) (cD (cy 1) cL))) (λs3 b ex=>(kC rfl (eO (c8 0 Ma) (eO (c8 1 Ma) jR)))) (λs3 b ex=>kN) (λs3 b ex=>(cS eP (cy 1) (dH (cy 0) cJ)))) cJ T.b_max)))) U7 (by walk_at"bn")
variable(ik:Known P w K mg base 1 "count_of" 2 xY)
include T in
theorem WA(A:At K mg "_law_clear" (top 54)):Known P w K mg base 1 "_law_clear" 4 zT:=gO 0 A jk (λf e A outer s H E d=>have b:=d.units;have nd:=jk.nd
 (cT (jS aO rfl (oH T.b_range (cD (iF oE T.b_len boot_len (cD (cy 0) cL)) cL)) (c8 4 nd)
    (c6 (gQ (qf (eh NW (dH (cy 1) (cy 4)) cJ) (tJ (IU (eh vQ (dH (dH (cy 0) (cy 4)) cJ) i7) (JY (eh (DC b) (dH (dH (cy 0) (cy 4)) cJ) (dH (dH (cy 0) (cy 2)) cJ)))).pb)).pb (c6 (gQ (eh NX (iF (xI rfl) T.b_max boot_max (cD (dH (dH (cy 0) (cy 4)) cJ) (cD (dH (dH (cy 0) (cy 2)) cJ) cL))) (iF (yL rfl) T.b_min boot_min (cD (dH (dH (cy 0) (cy 4)) cJ) (cD (dH (dH (cy 0) (cy 2)) cJ) cL)))) (c6 (gQ (qf (eh xF (dH (cy 1) (cy 4)) (cS eP (cy 3) (dH (dH (cy 0) (cy 2)) cJ))) (tJ (eh xF (cy 3) (cS eP (dH (cy 1) (cy 4)) (dH (dH (cy 0) (cy 4)) cJ))))).pb (c6 (fS BM)) gT)) gT)) gT)))
   (c6 (fS BM)))) VU (by walk_at"bn")
variable(gi:Known P w K mg base 1 "_law_clear" 4 zT)
include T cM gi in
theorem Wa(A:At K mg "_law_tracks" (top 55)):Known P w K mg base 2 "_law_tracks" 4 z8:=gO 1 A iJ (λf g A outer s H E b=>have e:=b.units;have nd:=iJ.nd
 (cT (B5 4 rfl (.of (N':=["_law_piece"]) (m:=[none]) (by kernel_rfl)) ip (hU (cy 0)) (λs3 d ex=>(c8 0 WH)) (λs3 d ex=>kN) (λs3 d ex=>(vh cJ)) nd)
   (cT (jS aO rfl (vn T.b_enumerate (cD (cy 2) cL)) (kC rfl (eO (c8 5 nd) (eO (c8 6 nd) jR)))
    (cT (eV 7 (dH (gP (cD cJ (cD cJ (cD cJ (cD cJ (cD cJ cL)))))) (cS gL (fb cM b (cD (cy 3) (cD (cS eP (cy 5) cJ) cL))) cJ)) nd)
   (cT (jS aO rfl (hU (cy 1)) (kC rfl (eO (c8 8 nd) (eO (c8 9 nd) (eO (c8 10 nd) jR))))
    (c6 (gQ (eh (iT e) (cy 9) (cy 6)) (c6 (eV 7 (iF (xI rfl) T.b_max boot_max (cD (cy 7) (cD (cS eP (xP 4 (cy 8)) (dH (dH (cy 0) (cy 8)) cJ)) cL))) nd)) gT)))
   (cT (Kv aO (D7 (xQ (Eb 4 (fb gi b (cD (cy 0) (cD (cy 4) (cD (cy 6) (cD (cy 7) cL)))))))) (c6 (eV 7 (cS eP (cy 7) cJ) nd)))
   (c6 (Ki 4 (cy 6) (cy 7)))))))
   (c6 (uq 4))))) WK (by walk_at"bn")
variable(fN:Known P w K mg base 2 "_law_tracks" 4 z8)
include T i4 jQ gh gE il f7 fN in
theorem V9(A:At K mg "_law_layout" (top 56)):Known P w K mg base 5 "_law_layout" 2 z7:=gO 4 A iK (λf e A outer s H E b=>have d:=b.units;have nd:=iK.nd
 (cT (eV 2 (gP (cD (gP (cD (cy 0) (cD (ug (iT d) (cS gL (cy 1) cJ) cJ) cL))) (cD (gP (cD (cy 0) (cD (ug (iT d) (cS gL (cy 1) cJ) cJ) cL))) (cD (gP (cD (fb gh b (cD (cy 0) cL)) (cD (ug (iT d) (cS gL (cy 1) cJ) cJ) cL))) cL)))) nd)
   (cT (jS aO rfl (hU (cy 2)) (Ec rfl (eO (c8 3 nd) (eO (c8 4 nd) jR)))
    (cT (eV 5 (KO i4 b (cD (dH (cy 3) cJ) (cD (dH (cy 3) cJ) (cD (dH (cy 3) cJ) (cD (dH (cy 3) cJ) (cD (dH (cy 3) cJ) (cD (dH (cy 3) cJ) (cD (dH (cy 3) cJ) cL)))))))) nd)
   (cT (eV 6 (fb gE.all b (cD (cy 5) (cD (cy 4) cL))) nd)
   (cT (eV 7 (fb il b (cD (cy 5) (cD (cy 6) cL))) nd)
   (cT (eV 8 (fb f7 b (cD (iF oE T.b_len boot_len (cD (cy 6) cL)) (cD (cy 7) (cD (cy 1) cL)))) nd)
   (c6 (gQ (eh pE (cy 8) i7) (c6 (fS (KO jQ b (cD (cy 5) (cD (cy 4) (cD (cy 6) (cD (cy 7) (cD (fb fN b (cD (cy 6) (cD (cy 7) (cD (cy 8) (cD (cy 1) cL))))) cL)))))))) gT)))))))
   (c6 (fS i7))))) WJ (by walk_at"bn")
variable(fO:Known P w K mg base 5 "_law_layout" 2 z7)
include T in
theorem Vq(A:At K mg "_law_stem" (top 42)):Known P w K mg base 1 "_law_stem" 2 zC:=gO 0 A jD (λf e A outer s H E b=>have d:=b.units;have nd:=jD.nd
 (cT (eV 2 jT nd)
   (cT (eV 3 jT nd)
   (cT (jS aO rfl (oH T.b_range (cD (cy 1) cL)) (c8 4 nd)
    (cT (eV 3 (cS eP (cy 3) (dH (cy 2) (cS gL (cy 0) cJ))) nd)
   (c6 (eV 0 (cS lN (cy 0) cJ) nd))))
   (c6 (fS (cy 3))))))) Vk (by walk_at"bn")
variable(gI:Known P w K mg base 1 "_law_stem" 2 zC)
include T gI in
theorem Wz(A:At K mg "_law_named" (top 43)):Known P w K mg base 2 "_law_named" 1 zZ:=gO 1 A jh (λf g A outer s H E e=>have d:=e.units;have nd:=jh.nd
 (cT (eV 0 (cS gL (cS mL (cS eP (cS gL (cy 0) (cS yU cJ cJ)) cJ) cJ) (cS eP (cS yU cJ cJ) cJ)) nd)
   (cT (eV 1 (cS gL (cy 0) cJ) nd)
   (cT (eV 2 (fb gI e (cD (cS lN (cy 0) cJ) (cD cJ cL))) nd)
   (cT (eV 3 (cS gL (cS lN (cy 0) cJ) (cS eP (cy 1) cJ)) nd)
   (cT (gQ (eh (iT d) (cS gL (cS lN (cy 0) cJ) cJ) cJ) (c6 (fS (js rfl (.of (N':=["_law_sign","_law_stem_here","_law_at","_law_size"]) (m:=[none,some 2,some 3,some 1]) (by kernel_rfl)) ip (hU jT) (λs3 b ex=>(c8 0 V3)) (λs3 b ex=>kN) (λs3 b ex=>(cS eP (cS eP (mN (cy 1) nM (lT (cy 2))) (cy 0)) (mN (cy 1) (lT (cy 2)) (lT (cy 3)))))))) gT)
   (cT (gQ (eh (iT d) (cS gL (cS lN (cy 0) cJ) cJ) cJ) (c6 (fS (js rfl (.of (N':=["_law_k","_law_stem_here","_law_size"]) (m:=[none,some 2,some 1]) (by kernel_rfl)) ip (oH T.b_range (cD cJ cL)) (λs3 b ex=>(c8 0 V2)) (λs3 b ex=>kN) (λs3 b ex=>(cS eP (cS eP (cS eP (mN (cy 1) nM (lT (cS gL (cy 2) cJ))) (dH jT (cS lN (cy 0) cJ))) (dH jT (cS gL (cS lN (cy 0) cJ) cJ))) (dH jT (cS gL (cy 0) cJ))))))) gT)
   (cT (eV 4 (cS eP (dH jT (rM Oy T.b_int boot_int (cD (ug (iT d) (dH (cy 2) cJ) jT) cL))) (mN (cy 2) (lT cJ) nM)) nd)
   (c6 (fS (cS eP (js rfl (.of (N':=["_law_k","_law_stem_here"]) (m:=[none,some 2]) (by kernel_rfl)) ip (oH T.b_range (cD cJ cL)) (λs3 b ex=>(c8 0 V1)) (λs3 b ex=>kN) (λs3 b ex=>(mN (cy 1) nM (lT (cS eP (cy 0) cJ))))) (gP (cD (mN (cy 4) nM (lT cJ)) (cD (mN (cy 4) nM (lT cJ)) cL)))))))))))))) VE (by walk_at"bn")
variable(gc:Known P w K mg base 2 "_law_named" 1 zZ)
include T cM in
theorem Vp(A:At K mg "_law_pins" (top 45)):Known P w K mg base 2 "_law_pins" 4 zB:=gO 1 A jE (λf e A outer s H E b=>have d:=b.units;have nd:=jE.nd
 (cT (lM 4 (gP cL) nd)
   (cT (lM 5 (gP cL) nd)
   (cT (jS aO rfl (oH T.b_range (cD (cy 3) cL)) (c8 6 nd)
    (cT (lM 7 (gP cL) nd)
   (cT (jS aO rfl (oH T.b_range (cD cJ cL)) (c8 8 nd)
    (cT (eV 9 (cS eP (cS mL cJ (cy 6)) (cy 8)) nd)
   (cT (eV 10 (fb cM b (cD (cy 2) (cD (cy 9) cL))) nd)
   (cT (gQ (eh xF (cy 9) (iF oE T.b_len boot_len (cD (cy 1) cL))) (c6 (eV 10 (fb cM b (cD (dH (cy 1) (cy 9)) (cD (cy 9) cL))) nd)) gT)
   (c6 (lL 7 (dH (gP (cD (dH (cy 0) (cS gL (cy 10) cJ)) (cD (dH (cy 0) (cS gL (cS lN (cy 10) cJ) cJ)) (cD (dH (cy 0) (cS gL (cS lN (cy 10) cJ) cJ)) (cD i7 cL))))) (cS gL (cS lN (cy 10) cJ) cJ))))))))
   (cT (lL 4 (xP 7 cJ))
   (c6 (lL 5 (xP 7 cJ)))))))
   (qN 5 (qN 4 (c6 (fS (mM (cD (cy 4) (cD (cy 5) cL))))))))))) Vj (by walk_at"bn")
variable(gJ:Known P w K mg base 2 "_law_pins" 4 zB)
include T in
theorem Vo(A:At K mg "_law_open" (top 50)):Known P w K mg base 1 "_law_open" 2 yb:=gO 0 A jF (λf g A outer s H E e=>have b:=e.units;have nd:=jF.nd
 (cT (gQ (eh (iT b) (cS gL (cS lN (cy 1) cJ) cJ) cJ) (c6 (fS (gP cL))) gT)
   (c6 (fS (iF (KQ rfl) T.b_sorted boot_sorted (cD (js rfl (.of (N':=["_law_k","_law_words","_law_bits"]) (m:=[none,some 0,some 1]) (by kernel_rfl)) ip (oH T.b_range (cD cJ cL)) (λs3 d ex=>(c8 0 VA)) (λs3 d ex=>(mn (eh (iT b) (cS gL (cS lN (cy 2) (dH (gP (cD cJ (cD cJ (cD cJ (cD cJ (cD cJ (cD cJ (cD cJ (cD cJ cL))))))))) (cy 0))) cJ) cJ))) (λs3 d ex=>(dH (cy 1) (cy 0)))) cL)))))) Vh (by walk_at"bn")
variable(fQ:Known P w K mg base 1 "_law_open" 2 yb)
include T in
theorem WU(A:At K mg "_law_stretch" (top 47)):Known P w K mg base 1 "_law_stretch" 5 zO:=gO 0 A iz (λf g A outer s H E e=>have b:=e.units;have nd:=iz.nd
 (cT (B5 5 rfl (.of (N':=["_law_c","_law_word","_law_top","_law_bottom"]) (m:=[none,some 4,some 0,some 1]) (by kernel_rfl)) ip (oH T.b_range (cD (iF oE T.b_len boot_len (cD (cy 0) cL)) cL)) (λs3 d ex=>(c8 0 Wk)) (λs3 d ex=>(mn (eh (rD b) (cy 1) (gP (cD (dH (cy 2) (cy 0)) (cD (dH (cy 3) (cy 0)) cL)))))) (λs3 d ex=>(cy 0)) nd)
   (cT (gQ (eh (rD b) (cy 4) (cy 2)) (c6 (lL 5 (vh cJ))) gT)
   (cT (gQ (eh (rD b) (cy 4) (cy 3)) (c6 (lL 5 (iF oE T.b_len boot_len (cD (cy 0) cL)))) gT)
   (qN 5 (c6 (fS (mM (cD (iF (yL rfl) T.b_min boot_min (cD (cS eP (cy 5) (gP (cD cJ cL))) cL)) (cD (iF (xI rfl) T.b_max boot_max (cD (cS eP (cy 5) (gP (cD (vh cJ) cL))) cL)) cL)))))))))) Ws (by walk_at"bn")
variable(fm:Known P w K mg base 1 "_law_stretch" 5 zO)
include T cM fm in
theorem Wy(A:At K mg "_law_bends" (top 48)):Known P w K mg base 2 "_law_bends" 4 zY:=gO 1 A jm (λf g A outer s H E d=>have b:=d.units;have nd:=jm.nd
 (cT (BV (cy 0) (Ec rfl (eO (c8 4 nd) (eO (c8 5 nd) (eO (c8 6 nd) (eO (c8 7 nd) jR))))))
   (cT (lM 8 (gP cL) nd)
   (cT (jS aO rfl (oH T.b_range (cD (iF oE T.b_len boot_len (cD (cy 4) cL)) cL)) (c8 9 nd)
    (cT (eV 10 (fb cM d (cD (dH (cS eP (cy 2) (gP (cD (cy 3) cL))) (cS gL (cy 9) (cS eP (iF oE T.b_len boot_len (cD (cy 2) cL)) cJ))) (cD (cS eP (cy 9) cJ) cL))) nd)
   (cT (eV 11 (dH (cy 1) (cS gL (cy 10) cJ)) nd)
   (cT (gQ (qf (eh (iT b) (cS gL (cS lN (cy 10) cJ) cJ) cJ) (tJ (eh pE (dH (cy 4) (cy 9)) i7))).pb (c6 (eV 11 (dH (cy 4) (cy 9)) nd)) gT)
   (cT (BV (fb fm d (cD (cy 4) (cD (cy 5) (cD (cy 6) (cD (cy 7) (cD (cy 11) cL)))))) (kC rfl (eO (c8 12 nd) (eO (c8 13 nd) jR))))
   (cT (wd 14 rfl (.of (N':=["_law_x"]) (m:=[none]) (by kernel_rfl)) ip (hU (gP (cD (dH (cy 4) (cy 9)) (cD (dH (cy 5) (cy 9)) cL)))) (λs3 e ex=>(c8 0 V0)) (λs3 e ex=>(mn (eh pE (cy 0) i7))) (λs3 e ex=>(cy 0)) nd)
   (c6 (gQ (qf (eh xF (cy 12) (cy 9)) (qf (eh xF (cy 9) (cy 13)) (qf (IU (eh (iT b) (cy 14) (gP cL)) (JY (eh (rD b) (cy 11) (cy 14)))).pb (tJ (eh vR (cS gL (cS lN (cy 10) cJ) cJ) cJ))))).pb (c6 (lL 8 (mM (cD (cy 9) (cD (cy 11) cL))))) gT))))))))
   (c6 (uq 8)))))) VD (by walk_at"bn")
variable(gj:Known P w K mg base 2 "_law_bends" 4 zY)
include T cM in
theorem Wx(A:At K mg "_law_keeps" (top 49)):Known P w K mg base 2 "_law_keeps" 3 zX:=gO 1 A ji (λf e A outer s H E b=>have d:=b.units;have nd:=ji.nd
 (cT (lM 3 (gP cL) nd)
   (cT (jS aO rfl (vn T.b_enumerate (cD (mN (cy 1) nM (lT cJ)) cL)) (kC rfl (eO (c8 4 nd) (eO (c8 5 nd) jR)))
    (cT (eV 6 (fb cM b (cD (cS eP (cy 5) (cy 2)) (cD (cS eP (cy 4) cJ) cL))) nd)
   (cT (eV 7 (cS gL (cy 6) (cy 0)) nd)
   (c6 (gQ (eh (iT d) (cS gL (cS lN (cy 6) cJ) cJ) cJ) (c6 (lL 3 (mM (cD (cy 7) (cD (cS eP (cy 7) (cS gL (cS lN (cy 6) cJ) (cS Iw (cy 0) (cy 7)))) (cD (cS eP cJ (cS gL (cS lN (cy 6) cJ) cJ)) cL)))))) gT)))))
   (c6 (uq 3))))) VC (by walk_at"bn")
variable(gf:Known P w K mg base 2 "_law_keeps" 3 zX)
include T cM dF gc gJ fQ gj gf in
theorem WT(A:At K mg "_law_channel" (top 51)):Known P w K mg base 3 "_law_channel" 2 zN:=gO 2 A iA (λf g A outer s H E d=>have e:=d.units;have nd:=iA.nd
 (cT (eV 2 (cS gL (cS mL (cS gL (iF (yM rfl) T.b_sum boot_sum (cD (mN (cy 0) nM (lT cJ)) cL)) (cS yU cJ cJ)) cJ) cJ) nd)
   (cT (eV 3 (fb gc d (cD (iF (yM rfl) T.b_sum boot_sum (cD (mN (cy 0) nM (lT cJ)) cL)) cL)) nd)
   (cT (eV 4 (cS eP cJ (cS gL (cy 2) (cy 1))) nd)
   (cT (eV 5 (mN (cy 0) (lT cJ) nM) nd)
   (cT (BV (fb gJ d (cD (cy 3) (cD (cy 5) (cD (cy 2) (cD (cy 4) cL))))) (kC rfl (eO (c8 6 nd) (eO (c8 7 nd) jR))))
   (cT (eV 8 (fb cM d (cD (iF (yM rfl) T.b_sum boot_sum (cD (mN (cy 0) (lT cJ) (lT cJ)) cL)) (cD (cS eP cJ (cS gL (cy 2) cJ)) cL))) nd)
   (cT (eV 9 (fb fQ d (cD (cy 3) (cD (cy 8) cL))) nd)
   (cT (eV 10 (fb fQ d (cD (cy 3) (cD (cS lN (cy 8) cJ) cL))) nd)
   (cT (eV 11 (js rfl (.of (N':=["_law_word","_law_top","_law_bottom","_law_left","_law_right"]) (m:=[none,some 6,some 7,some 9,some 10]) (by kernel_rfl)) ip (hU (cy 3)) (λs3 b ex=>(c8 0 Wj)) (λs3 b ex=>(mn (eh (iT e) (fb dF d (cD (cy 1) (cD (cy 2) (cD (cy 3) (cD (cy 4) (cD (cy 0) cL)))))) cJ))) (λs3 b ex=>(cy 0))) nd)
   (cT (eV 6 (js rfl (.of (N':=["_law_word","_law_lone"]) (m:=[none,some 11]) (by kernel_rfl)) ip (hU (cy 6)) (λs3 b ex=>(c8 0 Wi)) (λs3 b ex=>kN) (λs3 b ex=>(we (eh (rD e) (cy 0) (cy 1)) i7 (cy 0)))) nd)
   (cT (eV 7 (js rfl (.of (N':=["_law_word","_law_lone"]) (m:=[none,some 11]) (by kernel_rfl)) ip (hU (cy 7)) (λs3 b ex=>(c8 0 Wh)) (λs3 b ex=>kN) (λs3 b ex=>(we (eh (rD e) (cy 0) (cy 1)) i7 (cy 0)))) nd)
   (cT (eV 9 (js rfl (.of (N':=["_law_word","_law_lone"]) (m:=[none,some 11]) (by kernel_rfl)) ip (hU (cy 9)) (λs3 b ex=>(c8 0 Wg)) (λs3 b ex=>(mn (eh (B8 e) (cy 0) (cy 1)))) (λs3 b ex=>(cy 0))) nd)
   (cT (eV 10 (js rfl (.of (N':=["_law_word","_law_lone"]) (m:=[none,some 11]) (by kernel_rfl)) ip (hU (cy 10)) (λs3 b ex=>(c8 0 Wf)) (λs3 b ex=>(mn (eh (B8 e) (cy 0) (cy 1)))) (λs3 b ex=>(cy 0))) nd)
   (cT (lM 12 (gP cL) nd)
   (cT (jS aO rfl (vn T.b_enumerate (cD (iF (KQ rfl) T.b_sorted boot_sorted (cD (cy 3) cL)) cL)) (kC rfl (eO (c8 13 nd) (eO (c8 14 nd) jR)))
    (cT (eV 15 (fb cM d (cD (cS eP (cy 2) (cy 13)) (cD cJ cL))) nd)
   (c6 (gQ (qf (eh (iT e) (cS gL (cy 15) cJ) cJ) (tJ (eh vR (fb dF d (cD (cy 6) (cD (cy 7) (cD (cy 9) (cD (cy 10) (cD (cy 14) cL)))))) cJ))).pb (c6 (lL 12 (mM (cD (cy 14) (cD (cS eP cJ (cS gL (cS lN (cy 15) cJ) cJ)) cL))))) gT))))
   (cT (eV 16 (fb gj d (cD (gP (cD (cy 6) (cD (cy 7) (cD (cy 9) (cD (cy 10) cL))))) (cD (cy 3) (cD (cy 5) (cD (cy 2) cL))))) nd)
   (cT (eV 17 (gP cL) nd)
   (cT (gQ (eh (iT e) (cS gL (cS lN (cy 2) cJ) cJ) cJ) (c6 (eV 17 (fb gf d (cD (cy 4) (cD (cy 5) (cD (cy 2) cL)))) nd)) gT)
   (qN 12 (c6 (fS (gP (cD (cy 6) (cD (cy 7) (cD (cy 9) (cD (cy 10) (cD (cy 12) (cD (cy 16) (cD (cy 17) cL)))))))))))))))))))))))))))))) Wr (by walk_at"bn")
variable(fq:Known P w K mg base 3 "_law_channel" 2 zN)
include T in
theorem WS(A:At K mg "checked_pile" (top 36)):Known P w K mg base 1 "checked_pile" 1 ya:=gO 0 A iu (λf g A outer s H E e=>have d:=e.units;have nd:=iu.nd
 (cT (wd 1 rfl (.of (N':=["layout"]) (m:=[none]) (by kernel_rfl)) ip (hU (cy 0)) (λs3 b ex=>(c8 0 We)) (λs3 b ex=>kN) (λs3 b ex=>(iF oE T.b_len boot_len (cD (gm (gm (cy 0))) cL))) nd)
   (cT (gQ (eh (DC d) (K7 rfl T.b_len T.b_set (cD (cy 1) cL)) cJ) (c6 Rj) gT)
   (c6 (fS BM))))) Wl (by walk_at"bn")
variable(dv:Known P w K mg base 1 "checked_pile" 1 ya)
include T in
theorem W3(A:At K mg "stretch_places" (top 29)):Known P w K mg base 1 "stretch_places" 1 zR:=gO 0 A gC (λf e A outer s H E d=>have b:=d.units;have nd:=gC.nd
 (cT (lM 1 J8 nd)
   (cT (jS aO rfl (v8 T.b_zip (cD (gm (cy 0)) (cD (gm (cy 0)) cL))) (kC rfl (eO (c8 2 nd) (eO (c8 3 nd) jR)))
    (c6 (gQ (eh pE (dH (cy 2) cJ) i7) (c6 (jS aO rfl (LN T.b_range (cD (cS eP (cS mL cJ (dH (cy 2) cJ)) cJ) (cD (cS eP (cS mL cJ (dH (cy 2) cJ)) cJ) cL))) (c8 4 nd)
    (c6 (JQ b 1 (mM (cD (cS eP (cS mL cJ (cy 3)) cJ) (cD (cy 4) cL))) (dH (cy 2) cJ))))) gT)))
   (c6 (JI 1))))) WQ (by walk_at"bn")
variable(eJ:Known P w K mg base 1 "stretch_places" 1 zR)
include T in
theorem WN(A:At K mg "upright_names" (top 31)):Known P w K mg base 1 "upright_names" 2 zP:=gO 0 A gZ (λf g A outer s H E e=>have d:=e.units;have nd:=gZ.nd
 (cT (lM 2 (gP (cD (dH (gm (gm (cy 0))) (cy 1)) (cD (dH (gm (gm (cy 0))) (cy 1)) cL))) nd)
   (cT (gQ (xQ (gm (cy 0))) (c6 (BU 2 (js rfl (.of (N':=["bend_column","name","column"]) (m:=[none,none,some 1]) (by kernel_rfl)) tO (hU (gm (gm (cy 0)))) (λs3 b ex=>(kC rfl (eO (c8 0 Mg) (eO (c8 1 Mg) jR)))) (λs3 b ex=>(mn (eh (iT d) (cy 0) (cy 2)))) (λs3 b ex=>(cy 1))))) gT)
   (qN 2 (c6 (fS (FL rfl T.b_sorted T.b_set (cD (js rfl (.of (N':=["name"]) (m:=[none]) (by kernel_rfl)) ip (hU (cy 2)) (λs3 b ex=>(c8 0 WY)) (λs3 b ex=>(mn (eh pE (cy 0) i7))) (λs3 b ex=>(cy 0))) cL)))))))) WZ (by walk_at"bn")
variable(eX:Known P w K mg base 1 "upright_names" 2 zP)
include T ef in
theorem WR(A:At K mg "upright_rows" (top 32)):Known P w K mg base 2 "upright_rows" 3 zJ:=gO 1 A iq (λf g A outer s H E d=>have b:=d.units;have nd:=iq.nd
 (cT (B5 3 rfl (.of (N':=["number","layout"]) (m:=[none,some 0]) (by kernel_rfl)) ip (hU (fb ef d (cD (gm (cy 0)) (cD (cy 1) (cD (cy 2) cL))))) (λs3 e ex=>(c8 0 Wd)) (λs3 e ex=>kN) (λs3 e ex=>(cS eP (cS mL cJ (dH (gm (cy 1)) (cy 0))) cJ)) nd)
   (cT (gQ (eh (iT b) (dH (gm (gm (cy 0))) (cy 2)) (cy 1)) (c6 (lL 3 cJ)) gT)
   (cT (gQ (eh (iT b) (dH (gm (gm (cy 0))) (cy 2)) (cy 1)) (c6 (lL 3 (cS mL cJ (gm (cy 0))))) gT)
   (qN 3 (c6 (fS (S7 rfl T.b_list T.b_range (cD (iF (yL rfl) T.b_min boot_min (cD (cy 3) cL)) (cD (cS eP (iF (xI rfl) T.b_max boot_max (cD (cy 3) cL)) cJ) cL)))))))))) Wm (by walk_at"bn")
variable(fh:Known P w K mg base 2 "upright_rows" 3 zJ)
include T eX fh in
theorem W2(A:At K mg "upright_places" (top 30)):Known P w K mg base 3 "upright_places" 1 zQ:=gO 2 A gB (λf e A outer s H E b=>have d:=b.units;have nd:=gB.nd
 (cT (lM 1 J8 nd)
   (cT (jS aO rfl (oH T.b_range (cD (iF oE T.b_len boot_len (cD (gm (gm (cy 0))) cL)) cL)) (c8 2 nd)
    (c6 (jS aO rfl (hU (fb eX b (cD (cy 0) (cD (cy 2) cL)))) (c8 3 nd)
    (c6 (jS aO rfl (hU (fb fh b (cD (cy 0) (cD (cy 3) (cD (cy 2) cL))))) (c8 4 nd)
    (c6 (JQ d 1 (mM (cD (cy 4) (cD (cS eP (cS mL cJ (cy 2)) cJ) cL))) (cy 3))))))))
   (c6 (JI 1))))) WO (by walk_at"bn")
variable(eI:Known P w K mg base 3 "upright_places" 1 zQ)
include T in
theorem U3(A:At K mg "sign_of" (top 28)):Known P w K mg base 1 "sign_of" 2 zG:=gO 0 A k7 (λf e A outer s H E d=>have b:=d.units;have nd:=k7.nd
 (cT (gQ (qf (eh vQ (cy 0) i7) (tJ (eh vQ (cy 1) i7))).pb (c6 (fS jT)) gT)
   (cT (gQ (eh vQ (cy 1) i7) (c6 (fS jT)) gT)
   (cT (gQ (eh vQ (cy 0) i7) (c6 (fS jT)) gT)
   (cT (gQ (eh (iT b) (cy 0) (cy 1)) (c6 (fS jT)) gT)
   (c6 (fS jT))))))) US (by walk_at"bn")
variable(iZ:Known P w K mg base 1 "sign_of" 2 zG)
include T eJ eI iZ in
theorem UL(A:At K mg "drawn" (top 27)):Known P w K mg base 4 "drawn" 1 vj:=gO 3 A nT (λf g A outer s H E d=>have e:=d.units;have nd:=nT.nd
 (cT (eV 1 (fb eJ d (cD (cy 0) cL)) nd)
   (cT (eV 2 (fb eI d (cD (cy 0) cL)) nd)
   (cT (lM 3 (gP cL) nd)
   (cT (jS aO rfl (oH T.b_range (cD (cS eP (cS mL cJ (gm (cy 0))) cJ) cL)) (c8 4 nd)
    (cT (wd 5 rfl (.of (N':=["sign","row"]) (m:=[none,some 4]) (by kernel_rfl)) ip (oH T.b_range (cD (cS eP (cS mL cJ (iF oE T.b_len boot_len (cD (gm (gm (cy 0))) cL))) cJ) cL)) (λs3 b ex=>(c8 0 Tg)) (λs3 b ex=>kN) (λs3 b ex=>(mM (cD (cy 1) (cD (cy 0) cL)))) nd)
   (c6 (lL 3 (vZ BY (.inr rfl) PySem.F.plainAttrs_str PySem.F.slot_str_join PySem.F.type_str_join jT (cD (js rfl (.of (N':=["place","stretches","uprights"]) (m:=[none,some 1,some 2]) (by kernel_rfl)) ip (hU (cy 5)) (λs3 b ex=>(c8 0 Tf)) (λs3 b ex=>kN) (λs3 b ex=>(fb iZ d (cD (J7 e (cy 1) (cy 0)) (cD (J7 e (cy 2) (cy 0)) cL))))) cL))))))
   (qN 3 (c6 (fS (vZ BY (.inr rfl) PySem.F.plainAttrs_str PySem.F.slot_str_join PySem.F.type_str_join jT (cD (cy 3) cL)))))))))) Ti (by walk_at"bn")
variable(gF:Known P w K mg base 4 "drawn" 1 vj)
include T in
theorem Ww(A:At K mg "border_row" (top 40)):Known P w K mg base 1 "border_row" 1 Ad:=gO 0 A je (λf g A outer s H E d=>have e:=d.units;have nd:=je.nd
 have ⟨i,gr⟩:=T.gr;have ⟨h,jO⟩:=T.jO
 (c6 (fS (cS eP (Cv gr) (vZ BY (.inr rfl) PySem.F.plainAttrs_str PySem.F.slot_str_join PySem.F.type_str_join jT (cD (js rfl (.of (N':=["joined"]) (m:=[none]) (by kernel_rfl)) ip (hU (cy 0)) (λs3 b ex=>(c8 0 VZ)) (λs3 b ex=>kN) (λs3 b ex=>(cS eP (we (xQ (cy 0)) (Cv jO) (Cv gr)) (Cv gr)))) cL)))))) VS (by walk_at"bn")
variable(f6:Known P w K mg base 1 "border_row" 1 Ad)
include T in
theorem Wv(A:At K mg "pin_joints" (top 39)):Known P w K mg base 1 "pin_joints" 2 zS:=gO 0 A ja (λf g A outer s H E e=>have d:=e.units;have nd:=ja.nd
 (c6 (fS (js rfl (.of (N':=["one","other"]) (m:=[none,none]) (by kernel_rfl)) tO (v8 T.b_zip (cD (gm (gm (cy 0))) (cD (gm (gm (cy 1))) cL))) (λs3 b ex=>(kC rfl (eO (c8 0 Mc) (eO (c8 1 Mc) jR)))) (λs3 b ex=>kN) (λs3 b ex=>(IS (ug pE (cy 0) i7) (IT (ug (iT d) (cy 0) (cy 1))))))))) VT (by walk_at"bn")
variable(fX:Known P w K mg base 1 "pin_joints" 2 zS)
include T dv gF f6 fX in
theorem Wu(A:At K mg "drawn_pile" (top 38)):Known P w K mg base 5 "drawn_pile" 1 Ab:=gO 4 A jd (λf e A outer s H E b=>have d:=b.units;have nd:=jd.nd
 (cT (JA (fb dv b (cD (cy 0) cL)))
   (cT (lM 1 (gP (cD (fb gF b (cD (dH (cy 0) cJ) cL)) cL)) nd)
   (cT (jS aO rfl (v8 T.b_zip (cD (cy 0) (cD (mN (cy 0) (lT cJ) nM) cL))) (kC rfl (eO (c8 2 nd) (eO (c8 3 nd) jR)))
    (cT (lL 1 (fb f6 b (cD (fb fX b (cD (cy 2) (cD (cy 3) cL))) cL)))
   (c6 (lL 1 (fb gF b (cD (cy 3) cL))))))
   (qN 1 (c6 (fS (vZ BY (.inr rfl) PySem.F.plainAttrs_str PySem.F.slot_str_join PySem.F.type_str_join jT (cD (cy 1) cL))))))))) VQ (by walk_at"bn")
variable(fZ:Known P w K mg base 5 "drawn_pile" 1 Ab)
include T in
theorem Vn(A:At K mg "_law_edge" (top 58)):Known P w K mg base 1 "_law_edge" 2 zr:=gO 0 A jH (λf e A outer s H E d=>have b:=d.units;have nd:=jH.nd
 (cT (eV 2 jT nd)
   (cT (jS aO rfl (v8 T.b_zip (cD (gm (gm (cy 0))) (cD (gm (gm (cy 1))) cL))) (kC rfl (eO (c8 3 nd) (eO (c8 4 nd) jR)))
    (c6 (gQ (qf (eh pE (cy 3) i7) (tJ (eh (iT b) (cy 3) (cy 4)))).pb (c6 (eV 2 (cS eP (cy 2) jT) nd)) (c6 (eV 2 (cS eP (cy 2) jT) nd)))))
   (c6 (fS (cy 2)))))) VB (by walk_at"bn")
variable(gK:Known P w K mg base 1 "_law_edge" 2 zr)
include T dv in
theorem Wt(A:At K mg "first_rows" (top 37)):Known P w K mg base 2 "first_rows" 1 Ac:=gO 1 A jc (λf e A outer s H E b=>have d:=b.units;have nd:=jc.nd
 (cT (JA (fb dv b (cD (cy 0) cL)))
   (cT (lM 1 (gP (cD cJ cL)) nd)
   (cT (jS aO rfl (hU (mN (cy 0) nM (lT (vh cJ)))) (c8 2 nd)
    (c6 (lL 1 (cS eP (cS eP (xP 1 (vh cJ)) (cS mL cJ (gm (cy 2)))) cJ))))
   (c6 (uq 1)))))) VR (by walk_at"bn")
variable(fY:Known P w K mg base 2 "first_rows" 1 Ac)
include T f9 cM fO fq gF fZ gK fY in
theorem Og{f:Addr}(c:Value)(A:Around)(outer:List Env)(s:Shared)(H:Hp)(E:XK)(a:eY 5 (A.deeper (envOfC "law" (cz (top 59)) s.heap.objs.size f c))) :
  pd (qI nH P w K mg base ["_law_script","_law_seed","_law_layouts","_law_k","_law_part","_law_text","_law_rows","_law_firsts","_law_layout_here"] "law" (cz (top 59)) f c A outer s H E).tR (dD (top 59)) yK:=
 have b:=a.units;have nd:=rT.nd
 (cT (eV 1 (cS gL (cS mL (cS gL (iF (yM rfl) T.b_sum boot_sum (cD (mN (cy 0) nM (lT cJ)) cL)) (cS yU cJ cJ)) cJ) cJ) nd)
   (cT (lM 2 (gP cL) nd)
   (cT (jS aO rfl (vn T.b_enumerate (cD (mN (fb f9 a (cD (cy 0) (cD cJ cL))) nM (lT (cS eP cJ (cS gL (fb cM a (cD (iF (yM rfl) T.b_sum boot_sum (cD (mN (cy 0) nM (lT cJ)) cL)) (cD cJ cL))) cJ)))) cL)) (kC rfl (eO (c8 3 nd) (eO (c8 4 nd) jR)))
    (c6 (lL 2 (fb fO a (cD (fb fq a (cD (cy 4) (cD cJ cL))) (cD (cS eP (cS lN (cy 1) cJ) (cS mL cJ (cy 3))) cL))))))
   (cT (gQ (qf (eh vR (B4 2 T.b_len) cJ) (tJ (eh (iT b) (cS gL (fb cM a (cD (cy 1) (cD cJ cL))) cJ) cJ))).pb (c6 (Ki 2 (vh cJ) (xP 2 cJ))) gT)
   (qN 2 (cT (eV 5 (fb fZ a (cD (cy 2) cL)) nd)
   (cT (gQ (D7 (xQ (PJ (cy 5) T.b_isinstance T.b_str boot_str))) (c6 (fS BM)) gT)
   (cT (lM 6 (gP cL) nd)
   (cT (lM 7 (gP cL) nd)
   (cT (jS aO rfl (vn T.b_enumerate (cD (cy 2) cL)) (kC rfl (eO (c8 3 nd) (eO (c8 8 nd) jR)))
    (cT (gQ (eh vR (cy 3) cJ) (c6 (lL 6 (fb gK a (cD (dH (cy 2) (cS Iw (cy 3) cJ)) (cD (cy 8) cL))))) gT)
   (cT (lL 7 (B4 6 T.b_len))
   (qN 6 (c6 (lM 6 (cS eP (cy 6) (vZ JR (.inr rfl) PySem.F.plainAttrs_str PySem.F.slot_str_split PySem.F.type_str_split (fb gF a (cD (cy 8) cL)) (cD jT cL))) nd))))))
   (c6 (fS (IS (Eb 6 (ug (iT b) (vZ JR (.inr rfl) PySem.F.plainAttrs_str PySem.F.slot_str_split PySem.F.type_str_split (cy 5) (cD jT cL)) (cy 6))) (IT (Eb 7 (ug (iT b) (fb fY a (cD (cy 2) cL)) (cy 7)))))))))))))))))
theorem wR{fa:Addr}(T:Txt K mg)(j9:xw K mg "Channel" "Channel.__init__" iV ["top","bottom","left","right","wide","bends","keeps"])(lJ:xw K mg "Layout" "Layout.__init__" jI ["channel","bent","pieces","above","tracks","count"])(AA:At K mg "_law_parts" (top 57)/\At K mg "_law_mix" (top 44)/\At K mg "_law_many" (top 46)/\At K mg "_law_eased" (top 52)/\At K mg "nets_of" (top 2)/\At K mg "ends_of" (top 1)/\At K mg "column_of" (top 4)/\At K mg "stretch_of" (top 5)/\At K mg "bend_columns" (top 9)/\At K mg "width_of" (top 3)/\At K mg "net_pieces" (top 8)/\At K mg "pieces_at" (top 11)/\At K mg "pin_triples" (top 14)/\At K mg "common_of" (top 10)/\At K mg "beneath_keep" (top 16)/\At K mg "keep_triples" (top 15)/\At K mg "above_of" (top 13)/\At K mg "_law_turns" (top 53)/\At K mg "count_of" (top 23)/\At K mg "_law_clear" (top 54)/\At K mg "_law_tracks" (top 55)/\At K mg "_law_layout" (top 56)/\At K mg "_law_stem" (top 42)/\At K mg "_law_named" (top 43)/\At K mg "_law_pins" (top 45)/\At K mg "_law_open" (top 50)/\At K mg "_law_stretch" (top 47)/\At K mg "_law_bends" (top 48)/\At K mg "_law_keeps" (top 49)/\At K mg "_law_channel" (top 51)/\At K mg "checked_pile" (top 36)/\At K mg "stretch_places" (top 29)/\At K mg "upright_names" (top 31)/\At K mg "upright_rows" (top 32)/\At K mg "upright_places" (top 30)/\At K mg "sign_of" (top 28)/\At K mg "drawn" (top 27)/\At K mg "border_row" (top 40)/\At K mg "pin_joints" (top 39)/\At K mg "drawn_pile" (top 38)/\At K mg "_law_edge" (top 58)/\At K mg "first_rows" (top 37)/\At K mg "law" (top 59)/\True)(iR:Dx K mg "pieces_of" eD [.bool false])(uL:mg "law"=some (.ref fa)):∃fd:FuncData,(∀(s:Shared)(u:Value),BindsTo s fd ⟨[u],[]⟩ [("_law_script",u)])/\∀base:Heap,i6 P w K mg base nH 6 fa fd ["_law_script"] (xt K 1 (DV 63)):=by
 obtain⟨F,h,o,B,e,d,t,O,W,m,R,x,l9,v,X,Z,i,I,j,z,N,M,r,D,q,p,V,y,C,U,Y,j8,kK,lC,j7,g,b,J,S,L,n,Q,Bs,_⟩:=AA;show PH (T:=λ_=>yK) Bs uL rT (by walk_at"bn") (λbase f c9 A outer s H E hr=>?_) (λ_=>RV);have i4:jv P w K mg base 1 "Channel" 7 zI:=U6 j9 T;have f9:Known P w K mg base 1 "_law_parts" 2 Aa:=WG T F;have cM:Known P w K mg base 1 "_law_mix" 2 pG:=Vz T h;have dF:Known P w K mg base 1 "_law_many" 5 vp:=Vv T o;have gh:Known P w K mg base 2 "_law_eased" 1 zV:=WE T dF B;have gn:Known P w K mg base 1 "nets_of" 1 wq:=U5 T e;have i3:Known P w K mg base 1 "ends_of" 2 zH:=U4 T d;have gH:Known P w K mg base 1 "column_of" 2 zA:=Vu T t;have fW:Known P w K mg base 2 "stretch_of" 2 zW:=WD T i3 gH O;have fk:Known P w K mg base 1 "bend_columns" 2 zM:=WX T W;have ij:Known P w K mg base 1 "width_of" 2 xZ:=Vy T m;have eK:Known P w K mg base 3 "net_pieces" 3 wu:=WC T fW fk ij R;have gE:lB P w K mg base 4 "pieces_of" 2 zu false:=Vt iR T gn eK;have ef:Known P w K mg base 1 "pieces_at" 3 wt:=Vs T x;have fM:Known P w K mg base 2 "pin_triples" 2 z9:=Wb T ef l9;have gG:Known P w K mg base 1 "common_of" 2 zz:=Vr T v;have fj:Known P w K mg base 2 "beneath_keep" 2 zL:=WW T gG X;have fi:Known P w K mg base 3 "keep_triples" 1 zK:=WV T fj Z;have il:Known P w K mg base 4 "above_of" 2 zF:=Vx T fM fi i;have f7:Known P w K mg base 2 "_law_turns" 3 zU:=WB T cM I;have ik:Known P w K mg base 1 "count_of" 2 xY:=Vw T j;have jQ:jv P w K mg base 2 "Layout" 5 zq:=UZ lJ T ik;have gi:Known P w K mg base 1 "_law_clear" 4 zT:=WA T z;have fN:Known P w K mg base 2 "_law_tracks" 4 z8:=Wa T cM gi N;have fO:Known P w K mg base 5 "_law_layout" 2 z7:=V9 T i4 jQ gh gE il f7 fN M;have gI:Known P w K mg base 1 "_law_stem" 2 zC:=Vq T r;have gc:Known P w K mg base 2 "_law_named" 1 zZ:=Wz T gI D;have gJ:Known P w K mg base 2 "_law_pins" 4 zB:=Vp T cM q;have fQ:Known P w K mg base 1 "_law_open" 2 yb:=Vo T p;have fm:Known P w K mg base 1 "_law_stretch" 5 zO:=WU T V;have gj:Known P w K mg base 2 "_law_bends" 4 zY:=Wy T cM fm y;have gf:Known P w K mg base 2 "_law_keeps" 3 zX:=Wx T cM C;have fq:Known P w K mg base 3 "_law_channel" 2 zN:=WT T cM dF gc gJ fQ gj gf U;have dv:Known P w K mg base 1 "checked_pile" 1 ya:=WS T Y;have eJ:Known P w K mg base 1 "stretch_places" 1 zR:=W3 T j8;have eX:Known P w K mg base 1 "upright_names" 2 zP:=WN T kK;have fh:Known P w K mg base 2 "upright_rows" 3 zJ:=WR T ef lC;have eI:Known P w K mg base 3 "upright_places" 1 zQ:=W2 T eX fh j7;have iZ:Known P w K mg base 1 "sign_of" 2 zG:=U3 T g;have gF:Known P w K mg base 4 "drawn" 1 vj:=UL T eJ eI iZ b;have f6:Known P w K mg base 1 "border_row" 1 Ad:=Ww T J;have fX:Known P w K mg base 1 "pin_joints" 2 zS:=Wv T S;have fZ:Known P w K mg base 5 "drawn_pile" 1 Ab:=Wu T dv gF f6 fX L;have gK:Known P w K mg base 1 "_law_edge" 2 zr:=Vn T n;have fY:Known P w K mg base 2 "first_rows" 1 Ac:=Wt T dv Q;show Og T f9 cM fO fq gF fZ gK fY c9 A outer s H E hr
end
end Wc
open PySem PySem.W PyProof.Rows
theorem PySem.W.Fast.te9282455551093281712:True:=trivial
noncomputable def PySem.W.Fast.tw1676771484898971807:PySem.Program:=PySem.Challenge.pw_wirechannel_k71_piles_drawn
theorem PySem.W.Fast.te1676771484898971807:PySem.Challenge.pw_wirechannel_k71_piles_drawn=PySem.W.Fast.tw1676771484898971807:=rfl
noncomputable def PySem.W.Fast.tw12579013817320645785:List PySem.Stmt:=(PySem.Challenge.pw_wirechannel_k71_piles_drawn.main.body.drop 0).take 16
theorem PySem.W.Fast.te12579013817320645785:(PySem.Challenge.pw_wirechannel_k71_piles_drawn.main.body.drop 0).take 16=PySem.W.Fast.tw12579013817320645785:=rfl
noncomputable def PySem.W.Fast.tw16254562912447587775:List PySem.Stmt:=(PySem.Challenge.pw_wirechannel_k71_piles_drawn.main.body.drop 16).take 3
theorem PySem.W.Fast.te16254562912447587775:(PySem.Challenge.pw_wirechannel_k71_piles_drawn.main.body.drop 16).take 3=PySem.W.Fast.tw16254562912447587775:=rfl
noncomputable def PySem.W.Fast.tw11344658092117249529:List PySem.Stmt:=(PySem.Challenge.pw_wirechannel_k71_piles_drawn.main.body.drop 19).take 2
theorem PySem.W.Fast.te11344658092117249529:(PySem.Challenge.pw_wirechannel_k71_piles_drawn.main.body.drop 19).take 2=PySem.W.Fast.tw11344658092117249529:=rfl
noncomputable def PySem.W.Fast.tw10473607919755744716:List PySem.Stmt:=(PySem.Challenge.pw_wirechannel_k71_piles_drawn.main.body.drop 21).take 4
theorem PySem.W.Fast.te10473607919755744716:(PySem.Challenge.pw_wirechannel_k71_piles_drawn.main.body.drop 21).take 4=PySem.W.Fast.tw10473607919755744716:=rfl
noncomputable def PySem.W.Fast.tw11532655034258175838:List PySem.Stmt:=(PySem.Challenge.pw_wirechannel_k71_piles_drawn.main.body.drop 25).take 7
theorem PySem.W.Fast.te11532655034258175838:(PySem.Challenge.pw_wirechannel_k71_piles_drawn.main.body.drop 25).take 7=PySem.W.Fast.tw11532655034258175838:=rfl
noncomputable def PySem.W.Fast.tw9338394810224436570:List PySem.Stmt:=(PySem.Challenge.pw_wirechannel_k71_piles_drawn.main.body.drop 32).take 16
theorem PySem.W.Fast.te9338394810224436570:(PySem.Challenge.pw_wirechannel_k71_piles_drawn.main.body.drop 32).take 16=PySem.W.Fast.tw9338394810224436570:=rfl
noncomputable def PySem.W.Fast.tw13538113010395917264:List PySem.Stmt:=(PySem.Challenge.pw_wirechannel_k71_piles_drawn.main.body.drop 48).take 12
theorem PySem.W.Fast.te13538113010395917264:(PySem.Challenge.pw_wirechannel_k71_piles_drawn.main.body.drop 48).take 12=PySem.W.Fast.tw13538113010395917264:=rfl
namespace PySem.W.Fast
def tw15026340245350100367:=Nat
def tw7503339362018675895:=Nat
def tw10797276655802806592:=Nat
def tw3990050383960533389:=Nat
def tw17283156000594287402:=Nat
def tw472749414168494526:=Nat
def tw28605818743161177:=Nat
def tw6863864428401860313:=Nat
def tw2491310871884332567:=Nat
def tw2784634828620474288:=Nat
def tw9224837688411303178:=Nat
def tw8937430234330517270:=Nat
def tw12182531696659841376:=Nat
def tw7354205347391908718:=Nat
def tw7382026771032438734:=Nat
def tw7461012073234349220:=Nat
def tw15555388983313955685:=Nat
def tw9473544538294913707:=Nat
def tw17661283002113159949:=Nat
def tw5531125170048709482:=Nat
def tw10396724622252817648:=Nat
def tw10428927866532768561:=Nat
def tw17383206290373357715:=Nat
def tw12495075838163695693:=Nat
def tw18174896747888036389:=Nat
def tw11795089813744634803:=Nat
def tw9988742826119144579:=Nat
def tw9338534964536921669:=Nat
def tw11264518588581109833:=Nat
def tw14070622831046895544:=Nat
def tw15756942065405742219:=Nat
def tw8652116207377844851:=Nat
def tw8992679682430800772:=Nat
def tw14331280028482969432:=Nat
def tw5871173665142234856:=Nat
def tw9259199643896049175:=Nat
def tw14752639503226106476:=Nat
def tw17135037307023116509:=Nat
def tw11912139709171043664:=Nat
def tw2113590714829786219:=Nat
def tw4273638531027630096:=Nat
def tw10669943664719734682:=Nat
def tw16588145116129586006:=Nat
def tw8589422568703154183:=Nat
def tw12635242448766700988:=Nat
def tw593010271613417509:=Nat
def tw13803440453801962062:=Nat
def tw13778302762843335844:=Nat
def tw8981097432259600452:=Nat
def tw13812634845994562580:=Nat
def tw2686944720556435085:=Nat
def tw6813824499359536620:=Nat
def tw3223660611713219529:=Nat
def tw10368194217283453433:=Nat
def tw8449125565914997333:=Nat
def tw8224133858300012753:=Nat
def tw9062100354866821778:=Nat
def tw8750091068603586075:=Nat
def tw9767301668687634443:=Nat
def tw2955372278113125655:=Nat
def tw15068113131067982875:=Nat
def tw18446214902087424580:=Nat
def tw8317931993870223384:=Nat
def tw4121136812298013235:=Nat
def tw16731618964862931907:=Nat
def tw2384660962126603182:=Nat
def tw953264211616829747:=Nat
def tw1690978037315766844:=Nat
def tw8843977615388842914:=Nat
def tw1032179788780495342:=Nat
def tw10732168660252571759:=Nat
def tw13385271618298431884:=Nat
def tw7741437990867461565:=Nat
def tw12408505975954543667:=Nat
def tw16331751769658179502:=Nat
def tw17237710369366963619:=Nat
def tw966095405465524468:=Nat
def tw2392530527313916081:=Nat
def tw7387254883166866333:=Nat
def tw16804205006092266612:=Nat
def tw4164518046613216534:=Nat
def tw17058519719115939120:=Nat
def tw7195989265847066331:=Nat
def tw2052292236224670821:=Nat
def tw819267208764376121:=Nat
def tw2354608324558784037:=Nat
def tw14064791854827399805:=Nat
def tw13220337993386874021:=Nat
def tw13689683432010939075:=Nat
def tw3759600587854056423:=Nat
def tw8020058905201713454:=Nat
def tw5398685416277387446:=Nat
def tw7431113872240102682:=Nat
def tw3473797309356205108:=Nat
def tw17766267055056038286:=Nat
def tw18269920250927039464:=Nat
def tw12957850738687253906:=Nat
def tw17016519295528266133:=Nat
def tw5842033013632354737:=Nat
def tw5094763377332384193:=Nat
def tw6313557972014376256:=Nat
def tw31860275613905733:=Nat
def tw14422489577168410697:=Nat
def tw5384319852757469728:=Nat
def tw9237010558388034569:=Nat
def tw16738496576211731206:=Nat
def tw14155103316374257472:=Nat
def tw13127087173330177799:=Nat
def tw9058331663014783807:=Nat
def tw14287404951627232148:=Nat
def tw5110217392263704366:=Nat
def tw9125256360579386739:=Nat
def tw581181189237207719:=Nat
def tw11916364861399010080:=Nat
def tw6892531148583524143:=Nat
def tw9226254053353023887:=Nat
def tw16507001468574690523:=Nat
def tw4661979318193598161:=Nat
def tw1923840016008992583:=Nat
def tw4159824241598601294:=Nat
def tw4986280212005620927:=Nat
def tw10630315003067020502:=Nat
def tw13943025006996609954:=Nat
def tw15529514501540963598:=Nat
def tw11699414386692090440:=Nat
def tw7407763587370558193:=Nat
def tw16997631019217841810:=Nat
def tw9560200934701640074:=Nat
def tw9050156349067734819:=Nat
def tw9994104983977473270:=Nat
def tw17134008024769669764:=Nat
def tw2972348619133758519:=Nat
def tw11210818074688789036:=Nat
def tw4432430889877695591:=Nat
def tw1895726756238011441:=Nat
def tw10854856030168537554:=Nat
def tw461851306075829677:=Nat
def tw847936199420289416:=Nat
def tw15777421608937015716:=Nat
def tw2650732645826095421:=Nat
def tw6768535345786786198:=Nat
def tw7055064211838618124:=Nat
def tw6269157695121409373:=Nat
def tw10050046105545878857:=Nat
def tw8866822199917332375:=Nat
def tw6015008322050513638:=Nat
def tw632761573290038342:=Nat
def tw15301302871591609871:=Nat
def tw1132167131965168712:=Nat
def tw6375351023280570181:=Nat
def tw6630416379587494822:=Nat
def tw16329668996928178638:=Nat
def tw18309537449195947687:=Nat
def tw2574434885919125300:=Nat
def tw1167874205788587084:=Nat
def tw12834087922578754717:=Nat
def tw12435107437547782395:=Nat
def tw4797190042700412413:=Nat
def tw14039961533701353758:=Nat
def tw14658566888811639315:=Nat
def tw7931378787046950772:=Nat
def tw15382923847710436959:=Nat
def tw17213872273455253383:=Nat
def tw7820528276582788319:=Nat
def tw4150664317139935653:=Nat
def tw4554933014527387742:=Nat
def tw3867204014839538427:=Nat
def tw12569326999912163450:=Nat
def tw17846956858179636141:=Nat
def tw13888124708275558229:=Nat
def tw329539744771447003:=Nat
def tw3982632524955686233:=Nat
def tw1165151514147577075:=Nat
def tw3706654596993307292:=Nat
def tw14698783273870636743:=Nat
def tw6971068827725049908:=Nat
def tw17001179905210352433:=Nat
def tw4044349310602271429:=Nat
def tw15569303512983664584:=Nat
def tw5599079495597237081:=Nat
def tw16495713549657658731:=Nat
def tw5344860834772182773:=Nat
def tw7402337538920228924:=Nat
def tw3791197947174182717:=Nat
def tw11885679654148790508:=Nat
def tw18162533105690287705:=Nat
def tw18264568864691599923:=Nat
def tw11888556560203834907:=Nat
def tw288728726612577004:=Nat
def tw16006680567643349499:=Nat
def tw17094671123950563013:=Nat
def tw14138955678682652563:=Nat
def tw17089750719330713242:=Nat
def tw14410201683805152946:=Nat
def tw18225454822749627376:=Nat
def tw5680012327856043236:=Nat
def tw15258884401073339202:=Nat
def tw1261461671850482570:=Nat
def tw13356654186784390610:=Nat
def tw17936114649909454252:=Nat
def tw7341265333198664869:=Nat
end PySem.W.Fast
noncomputable def PySem.W.Fast.tw296935860359898197:PySem.Program:={ PySem.Challenge.pw_wirechannel_k71_piles_drawn with main:={ PySem.Challenge.pw_wirechannel_k71_piles_drawn.main with body:=[1,2,3,4,5,8,9,10,11,13,14,15,16,18,19,21,23,25,27,28,29,30,31,32,34,35,36,37,38,39,40,42,43,44,45,46,47,48,49,50,51,52,53,54,55,56,57,58,59].map λi=>PySem.Challenge.pw_wirechannel_k71_piles_drawn.main.body.getD i (.Pass ⟨0,0,0,0⟩) } }
theorem PySem.W.Fast.te296935860359898197:({ PySem.Challenge.pw_wirechannel_k71_piles_drawn with main:={ PySem.Challenge.pw_wirechannel_k71_piles_drawn.main with body:=[1,2,3,4,5,8,9,10,11,13,14,15,16,18,19,21,23,25,27,28,29,30,31,32,34,35,36,37,38,39,40,42,43,44,45,46,47,48,49,50,51,52,53,54,55,56,57,58,59].map λi=>PySem.Challenge.pw_wirechannel_k71_piles_drawn.main.body.getD i (.Pass ⟨0,0,0,0⟩) } }:PySem.Program)=PySem.W.Fast.tw296935860359898197:=rfl
local macro_rules | `(tactic| walk_at"A")=>`(tactic| ((try dsimp only[L2.uZ]);refine' L2.Bl KX G ?a ?l ?c ?k;(case a=>k_is);(case l=>k_is);(case c=>k_is);(case k=>k_is)))
theorem PySem.Challenge.cw_wirechannel_k71_piles_drawn_holds : PySem.Challenge.rw_wirechannel_k71_piles_drawn.Holds := by
 w_on;o_law;k_head;(case hw=>w_witness2)
 k_fill
 show L2.qi (l:=PySem.Challenge.rw_wirechannel_k71_piles_drawn) (n:=63) (k:=6) (x:="_law_script") rfl (by decide) rfl ⟨rfl,by decide,by decide⟩ (λw h Y=>PySem.W.kIn_of Y) ?F
 case F=>
  intro w mg fa h KX G uL;have j9:L2.xw (L2.uZ KX) mg "Channel" "Channel.__init__" Wc.iV ["top","bottom","left","right","wide","bends","keeps"]:=by
   dsimp only[L2.uZ];refine' L2.sT KX G ?aC ?a1 ?i1 ?l1 ?c1 ?k1 ?pg ?hd ?po ?sa ?mk ?kc ⟨?n0,?n1,?n2,?n3,?n4,?n5,?n6,trivial⟩
   (case aC=>k_is)
   (case a1=>k_is)
   (case i1=>k_is)
   (case l1=>k_is)
   (case c1=>k_is)
   (case k1=>k_is)
   (case pg=>k_is)
   (case hd=>k_is)
   (case po=>k_is)
   (case sa=>k_is)
   (case mk=>k_is)
   (case kc=>k_is)
   (case n0=>unfold L2.dg;k_is)
   (case n1=>unfold L2.dg;k_is)
   (case n2=>unfold L2.dg;k_is)
   (case n3=>unfold L2.dg;k_is)
   (case n4=>unfold L2.dg;k_is)
   (case n5=>unfold L2.dg;k_is)
   (case n6=>unfold L2.dg;k_is)
  have lJ:L2.xw (L2.uZ KX) mg "Layout" "Layout.__init__" Wc.jI ["channel","bent","pieces","above","tracks","count"]:=by
   dsimp only[L2.uZ];refine' L2.sT KX G ?aC ?a1 ?i1 ?l1 ?c1 ?k1 ?pg ?hd ?po ?sa ?mk ?kc ⟨?n0,?n1,?n2,?n3,?n4,?n5,trivial⟩
   (case aC=>k_is)
   (case a1=>k_is)
   (case i1=>k_is)
   (case l1=>k_is)
   (case c1=>k_is)
   (case k1=>k_is)
   (case pg=>k_is)
   (case hd=>k_is)
   (case po=>k_is)
   (case sa=>k_is)
   (case mk=>k_is)
   (case kc=>k_is)
   (case n0=>unfold L2.dg;k_is)
   (case n1=>unfold L2.dg;k_is)
   (case n2=>unfold L2.dg;k_is)
   (case n3=>unfold L2.dg;k_is)
   (case n4=>unfold L2.dg;k_is)
   (case n5=>unfold L2.dg;k_is)
  have iR:L2.Dx (L2.uZ KX) mg "pieces_of" Wc.eD [.bool false]:=by
   dsimp only[L2.uZ];refine' L2.xp KX G ?a ?l ?c ?k ?t
   (case a=>k_is);(case l=>k_is);(case c=>k_is);(case k=>k_is);(case t=>k_is)
  have gr:∃t,mg "BORDER"=some (.str "=" t):=by
   refine' L2.pY KX G ?c ?e
   (case c=>k_is)
   (case e=>show rfl)
  have jO:∃t,mg "JOINT"=some (.str "|" t):=by
   refine' L2.pY KX G ?c ?e
   (case c=>k_is)
   (case e=>show rfl)
  have T:Wc.Txt (L2.uZ KX) mg:=by
   dsimp only[L2.uZ];refine' ⟨bD KX G ?b_any,bD KX G ?b_enumerate,bD KX G ?b_int,bD KX G ?b_isinstance,bD KX G ?b_len,bD KX G ?b_list,bD KX G ?b_max,bD KX G ?b_min,bD KX G ?b_range,bD KX G ?b_set,bD KX G ?b_sorted,bD KX G ?b_str,bD KX G ?b_sum,bD KX G ?b_zip,gr,jO⟩
   (case b_any=>k_is)
   (case b_enumerate=>k_is)
   (case b_int=>k_is)
   (case b_isinstance=>k_is)
   (case b_len=>k_is)
   (case b_list=>k_is)
   (case b_max=>k_is)
   (case b_min=>k_is)
   (case b_range=>k_is)
   (case b_set=>k_is)
   (case b_sorted=>k_is)
   (case b_str=>k_is)
   (case b_sum=>k_is)
   (case b_zip=>k_is)
  show Wc.wR T j9 lJ ⟨by walk_at"A",by walk_at"A",by walk_at"A",by walk_at"A",by walk_at"A",by walk_at"A",by walk_at"A",by walk_at"A",by walk_at"A",by walk_at"A",by walk_at"A",by walk_at"A",by walk_at"A",by walk_at"A",by walk_at"A",by walk_at"A",by walk_at"A",by walk_at"A",by walk_at"A",by walk_at"A",by walk_at"A",by walk_at"A",by walk_at"A",by walk_at"A",by walk_at"A",by walk_at"A",by walk_at"A",by walk_at"A",by walk_at"A",by walk_at"A",by walk_at"A",by walk_at"A",by walk_at"A",by walk_at"A",by walk_at"A",by walk_at"A",by walk_at"A",by walk_at"A",by walk_at"A",by walk_at"A",by walk_at"A",by walk_at"A",by walk_at"A",trivial⟩ iR uL
#print axioms PySem.Challenge.cw_wirechannel_k71_piles_drawn_holds
